import PyProof.Rows.All
import Wide.All
import OpenK.AllK
import Wide.FinOn
import Lean
import PyProof.EqAt
import PyProof.EqKinds
import PyProof.TupleCall
import PySem.Challenge.RW_chairvote_k71_rules
noncomputable section
open PySem.W (Frag fnOf findIn keepIn nsIn codeIn isFn kitOne subIn exmOne)
set_option Elab.async false
set_option linter.all false
set_option maxRecDepth 100000
namespace L2
open PySem PySem.Spec PyProof.Rows
abbrev Key:=Sum Int Str
def yZ:Key→Value→Bool
 | .inl k,v=>Value.isInt k v
 | .inr x,v=>Value.isStrOf x v
def ab0(w:World):Key→Int
 | .inl k=>hashInt k
 | .inr x=>hashStr w x
theorem cM:∀{k:Key} {v:Value},yZ k v=true→(∃i t,k=Sum.inl i∧v=Value.int i t)∨(∃x t,k=Sum.inr x∧v=Value.str x t)
 | .inl i,v,h=>by
  obtain⟨t,e⟩:=Value.isInt_shape (k:=i) (v:=v) h
  exact .inl ⟨i,t,rfl,e⟩
 | .inr x,v,h=>by
  obtain⟨t,e⟩:=Value.isStrOf_shape (x:=x) (v:=v) h
  exact .inr ⟨x,t,rfl,e⟩
theorem JM(i:Int)(t:Tok):yZ (.inl i) (.int i t)=true:=by simp[yZ,Value.isInt]
theorem JL(x:Str)(t:Tok):yZ (.inr x) (.str x t)=true:=by simp[yZ,Value.isStrOf]
theorem Vl(a b:Int):decide ((Sum.inl a:Key)=Sum.inl b)=(a==b):=by
 by_cases e:a=b
 ·subst e;simp
 ·have h:¬(Sum.inl a:Key)=Sum.inl b:=fun q=>e (Sum.inl.inj q)
  rw[decide_eq_false h]
  exact(beq_eq_false_iff_ne.mpr e).symm
theorem Vi(a b:Str):decide ((Sum.inr a:Key)=Sum.inr b)=decide (a=b):=by
 by_cases e:a=b
 ·subst e;simp
 ·have h:¬(Sum.inr a:Key)=Sum.inr b:=fun q=>e (Sum.inr.inj q)
  rw[decide_eq_false h,decide_eq_false e]
theorem Vk(a:Int)(b:Str):decide ((Sum.inl a:Key)=Sum.inr b)=false:=decide_eq_false (fun q=>nomatch q)
theorem Vj(a:Str)(b:Int):decide ((Sum.inr a:Key)=Sum.inl b)=false:=decide_eq_false (fun q=>nomatch q)
def fM(prog:Program)(w:World):PySem.KeyKind prog w Key where
 is:=yZ
 hash:=ab0 w
 inj:=fun v a b ha hb=>by
  rcases cM ha with⟨i,t,rfl,rfl⟩ | ⟨x,t,rfl,rfl⟩
  ·rcases cM hb with⟨j,u,rfl,e⟩ | ⟨y,u,rfl,e⟩
   ·injection e with e1 _;rw[e1]
   ·exact nomatch e
  ·rcases cM hb with⟨j,u,rfl,e⟩ | ⟨y,u,rfl,e⟩
   ·exact nomatch e
   ·injection e with e1 _;rw[e1]
 byValue:=fun k v h=>by
  rcases cM h with⟨i,t,rfl,rfl⟩ | ⟨x,t,rfl,rfl⟩<;>rfl
 pyHash:=fun hv h=>by
  rcases cM hv with⟨i,t,rfl,rfl⟩ | ⟨x,t,rfl,rfl⟩
  ·exact wpAny_pyHash_int h
  ·exact wpAny_pyHash_str h
 eqBool:=fun hu hv h=>by
  rcases cM hu with⟨i,t,rfl,rfl⟩ | ⟨x,t,rfl,rfl⟩
  ·rcases cM hv with⟨j,u,rfl,rfl⟩ | ⟨y,u,rfl,rfl⟩
   ·rw[Vl]at h;exact wpAny_eqBool_int h
   ·rw[Vk]at h;exact SeqAt.EqAt.int_str i t y u _ _ _ _ h
  ·rcases cM hv with⟨j,u,rfl,rfl⟩ | ⟨y,u,rfl,rfl⟩
   ·rw[Vj]at h;exact SeqAt.EqAt.str_int x t j u _ _ _ _ h
   ·rw[Vi]at h;exact wpAny_eqBool_str h
 «strs» := fun k x t v h=>by
  rcases cM h with⟨i,u,rfl,e⟩ | ⟨y,u,rfl,e⟩
  ·exact nomatch e
  ·injection e with e1 _
   subst e1
   cases v<;>rfl
theorem CP(prog:Program)(w:World)(i:Int)(t:Tok):(fM prog w).is (.inl i) (.int i t)=true:=JM i t
theorem CN(prog:Program)(w:World)(x:Str)(t:Tok):(fM prog w).is (.inr x) (.str x t)=true:=JL x t
inductive V where
 | non | bl (b:Bool) | int (i:Int) | str (x:Str) | byt (b:Array UInt8) | flt (b:UInt64) | ref (a:Addr) | ty (n:String)
 deriving DecidableEq
def RelV:V→Value→Prop
 | .non,u=>u=Value.none
 | .bl b,u=>u=Value.bool b
 | .int i,u=>∃t,u=Value.int i t
 | .str x,u=>∃t,u=Value.str x t
 | .byt b,u=>∃t,u=Value.bytes b t
 | .flt b,u=>∃t,u=Value.float b t
 | .ref a,u=>u=Value.ref a
 | .ty n,u=>u=Value.type n
abbrev Vals:List V→List Value→Prop:=Paired RelV
theorem Vals.length{xs:List V}{us:List Value}(r:Vals xs us):xs.length=us.length:=Paired.length r
theorem Vals.get:∀{xs:List V} {us:List Value} {i:Nat} {x:V},Vals xs us→xs[i]? = some x→∃u,us[i]? = some u∧RelV x u
 | _,_,_,_,.nil,e=>by simp at e
 | _,_,0,_,.cons r _,e=>by simp at e;subst e;exact⟨_,rfl,r⟩
 | _,_,i+1,x,.cons _ t,e=>by
  obtain⟨u,h1,h2⟩:=Vals.get (i:=i) (x:=x) t (by simpa using e)
  exact⟨u,by simpa using h1,h2⟩
theorem Vals.set{x:V}{u:Value}(r:RelV x u):∀{xs:List V} {us:List Value} (i:Nat),Vals xs us→Vals (xs.set i x) (us.set i u)
 | _,_,_,.nil=> .nil
 | _,_,0,.cons _ t=> .cons r t
 | _,_,i+1,.cons q t=> .cons q (Vals.set r i t)
theorem Vals.append:∀{xs ys:List V} {us ws:List Value},Vals xs us→Vals ys ws→Vals (xs++ys) (us++ws)
 | _,_,_,_,.nil,s=>s
 | _,_,_,_,.cons r t,s=> .cons r (Vals.append t s)
theorem Vals.take:∀{xs:List V} {us:List Value} (n:Nat),Vals xs us→Vals (xs.take n) (us.take n)
 | _,_,0,_=> .nil
 | _,_,_+1,.nil=> .nil
 | _,_,n+1,.cons r t=> .cons r (Vals.take n t)
theorem Vals.drop:∀{xs:List V} {us:List Value} (n:Nat),Vals xs us→Vals (xs.drop n) (us.drop n)
 | _,_,0,r=>r
 | _,_,_+1,.nil=> .nil
 | _,_,n+1,.cons _ t=>Vals.drop n t
def oW:Option V→Option Value→Prop
 | some v,some u=>RelV v u
 | none,none=>True
 | _,_=>False
def KV{κ:Type}:List (κ×V)→List (κ×Value)→Prop:=Paired fun(p:κ×V) (q:κ×Value)=>p.1=q.1∧RelV p.2 q.2
def kV:Key→V
 | .inl i=> .int i
 | .inr x=> .str x
inductive HO where
 | lst (xs:List V)
 | tup (xs:List V)
 | dK (kvs:List (Key×V)) | dT (kvs:List (List Key×V))
 | set (S:Int→Bool) (n:Nat)
 | ins (C dx:Addr) (fs:List (Str×V))
 | own (x:Addr)
 | xd (fs:List (Str×V))
 | met (f x:Addr)
 | qj (lo hi:Int)
 | pU (o:Obj) (u:HO)
 | KJ (ps:Array Value)
 | ext (φ:Heap→Prop)
abbrev Hp:=Addr→Option HO
def upd(H:Hp)(a:Addr)(o:HO):Hp:=fun b=>if b=a then some o else H b
theorem aW{H:Hp}{a:Addr}{o:HO}:upd H a o a=some o:=by unfold upd;rw[if_pos rfl]
theorem aC{H:Hp}{a b:Addr}{o:HO}(h:b≠a):upd H a o b=H b:=by unfold upd;rw[if_neg h]
theorem aP{H:Hp}{a b:Addr}{o:HO}(h:H a=some o)(h':H b=none):a≠b:=by
 intro e;subst e;rw[h]at h';cases h'
section
variable(P:Program)(w:World)
def bL(H:Hp)(h:Heap)(a:Addr):HO→Prop
 | .lst xs=>xs.length≤sizeLine∧∃(its:List Value) (n:Nat),Vals xs its∧h.get? a=some {cls:= .type "list",data:= .seq its.toArray n}
 | .tup xs=>xs.length≤sizeLine∧∃its:List Value,Vals xs its∧IsTup h a its.toArray
 | .dK kvs=>kvs.length≤sizeLine∧(a==sysModules)=false∧∃vs,KV kvs vs∧h.DictOf (fM P w) a vs
 | .dT kvs=>kvs.length≤sizeLine∧(a==sysModules)=false∧∃xs:List (List Key×Addr×Value),
   Paired (fun(p:List Key×V) (q:List Key×Addr×Value)=>p.1=q.1∧H q.2.1=some (.tup (p.1.map kV))∧RelV p.2 q.2.2) kvs xs∧
   ∃o es ep,h.get? a=some o∧o.ExactDict∧o.data= .dict es ep∧es.toList=xs.map (entryOfKey (tupleKind (fM P w)))∧(xs.map (·.1)).Nodup
 | .set S n=>h.SetOf (intKind P w) a S n
 | .ins C dx fs=>H dx=some (.own a)∧fs.length≤1000∧dx≠a∧h.get? a=some (PySem.W.instObj C dx)∧
   ∃mA,h.Ns1 dx mA∧(∀f,oW (fs.lookup f) (mA f))∧PySem.Within mA (fs.map (·.1))
 | .own _=>∃o,h.get? a=some o
 | .xd fs=>∃mA,h.Ns1 a mA∧∀f,oW (fs.lookup f) (mA f)
 | .qj lo hi=>∃t u v,h.get? a=some {cls:= .type "range",data:= .fields #[.int lo t,.int hi u,.int 1 v]}
 | .pU o u=>h.get? a=some o∧bL H h a u
 | .KJ ps=>h.get? a=some {cls:= .none,data:= .fields ps}
 | .met f x=>h.get? a=some (PySem.W.methodObj (.ref f) (.ref x))
 | .ext φ=>φ h∧(∃o,h.get? a=some o)∧∀h1 h2:Heap,φ h1→(∀o,h1.get? a=some o→h2.get? a=some o)→φ h2
def lU(H:Hp)(h:Heap):Prop:=∀a o,H a=some o→bL P w H h a o
end
section
variable{P:Program}{w:World}{H H':Hp}{h h':Heap}{a:Addr}{o:HO}
theorem bL.lt(x:bL P w H h a o):a<h.objs.size:=by
 cases o with
 | lst xs=>obtain⟨_,_,_,_,e⟩:=x;exact Heap.lt_size e
 | tup xs=>obtain⟨_,_,_,p⟩:=x;exact p.lt
 | dK kvs=>obtain⟨_,_,_,_,o,_,_,e,_⟩:=x;exact Heap.lt_size e
 | dT kvs=>obtain⟨_,_,_,_,o,_,_,e,_⟩:=x;exact Heap.lt_size e
 | set S n=>obtain⟨o,_,_,_,e,_⟩:=x;exact Heap.lt_size e
 | ins C dx fs=>obtain⟨_,_,_,e,_⟩:=x;exact Heap.lt_size e
 | own y=>obtain⟨_,e⟩:=x;exact Heap.lt_size e
 | xd fs=>obtain⟨_,⟨_,_,_,e,_⟩,_⟩:=x;exact Heap.lt_size e
 | qj lo hi=>obtain⟨_,_,_,e⟩:=x;exact Heap.lt_size e
 | pU ob u=>obtain⟨e,_⟩:=x;exact Heap.lt_size e
 | KJ ps=>exact Heap.lt_size (show h.get? a=some _ from x)
 | met f y=>exact Heap.lt_size (show h.get? a=some _ from x)
 | ext φ=>obtain⟨_,⟨_,e⟩,_⟩:=x;exact Heap.lt_size e
theorem Paired.Va{α β:Type}{F G:α→β→Prop}:∀{l₁:List α} {l₂:List β},Paired F l₁ l₂→(∀a b,F a b→G a b)→Paired G l₁ l₂
 | _,_,.nil,_=> .nil
 | _,_,.cons r t,f=> .cons (f _ _ r) (Paired.Va t f)
theorem bL.stay(x:bL P w H h a o)(k:∀b u,(b=a∨H b=some (.own a))→h.get? b=some u→h'.get? b=some u)
  (ho:∀b,H b=some (.own a)→H' b=some (.own a)) (ht:∀b xs,H b=some (.tup xs)→H' b=some (.tup xs)):bL P w H' h' a o:=by
 induction o with
 | lst xs=>obtain⟨z,its,n,r,e⟩:=x;exact⟨z,its,n,r,k _ _ (.inl rfl) e⟩
 | tup xs=>obtain⟨z,its,r,ob,e,c⟩:=x;exact⟨z,its,r,ob,k _ _ (.inl rfl) e,c⟩
 | dK kvs=>obtain⟨z,y,vs,r,ob,es,ep,e,c⟩:=x;exact⟨z,y,vs,r,ob,es,ep,k _ _ (.inl rfl) e,c⟩
 | dT kvs=>
  obtain⟨z,y,xs,r,ob,es,ep,e,c⟩:=x
  exact⟨z,y,xs,Paired.Va r fun p q z=>⟨z.1,ht _ _ z.2.1,z.2.2⟩,ob,es,ep,k _ _ (.inl rfl) e,c⟩
 | set S n=>obtain⟨ob,es,ep,t,e,c⟩:=x;exact⟨ob,es,ep,t,k _ _ (.inl rfl) e,c⟩
 | ins C dx fs=>
  obtain⟨d,z,ne,e,mA,⟨od,es,ep,e2,c⟩,r⟩:=x
  exact⟨ho _ d,z,ne,k _ _ (.inl rfl) e,mA,⟨od,es,ep,k _ _ (.inr d) e2,c⟩,r⟩
 | own y=>obtain⟨ob,e⟩:=x;exact⟨ob,k _ _ (.inl rfl) e⟩
 | xd fs=>obtain⟨mA,⟨od,es,ep,e,c⟩,r⟩:=x;exact⟨mA,⟨od,es,ep,k _ _ (.inl rfl) e,c⟩,r⟩
 | qj lo hi=>obtain⟨t,u,v,e⟩:=x;exact⟨t,u,v,k _ _ (.inl rfl) e⟩
 | pU ob u ih=>obtain⟨e,q⟩:=x;exact⟨k _ _ (.inl rfl) e,ih q⟩
 | KJ ps=>
  have e:h.get? a=some {cls:= .none,data:= .fields ps}:=x
  show h'.get? a=some {cls:= .none,data:= .fields ps}
  exact k a _ (.inl rfl) e
 | met f y=>
  have e:h.get? a=some (PySem.W.methodObj (.ref f) (.ref y)):=x
  show h'.get? a=some (PySem.W.methodObj (.ref f) (.ref y))
  exact k a _ (.inl rfl) e
 | ext φ=>obtain⟨p,⟨o,e⟩,st⟩:=x;exact⟨st _ _ p fun o q=>k _ _ (.inl rfl) q,⟨o,k _ _ (.inl rfl) e⟩,st⟩
theorem lU.lt(x:lU P w H h)(e:H a=some o):a<h.objs.size:=(x a o e).lt
theorem lU.fresh(x:lU P w H h)(e:h.objs.size≤a):H a=none:=by
 cases q:H a with
 | none=>rfl
 | some u=>exact absurd (Nat.lt_of_lt_of_le (x.lt q) e) (Nat.lt_irrefl _)
theorem lU.kept(x:lU P w H h)(k:∀b u,h.get? b=some u→h'.get? b=some u):lU P w H h':=fun a o e=>
 (x a o e).stay (fun b u _ q=>k b u q) (fun _ q=>q) fun _ _ q=>q
theorem lU.laid(x:lU P w H h)(k:∀b u,h.get? b=some u→h'.get? b=some u)(hp:h.objs.size≤a)(new:bL P w (upd H a o) h' a o):lU P w (upd H a o) h':=fun b u e=>by
 have hn:=x.fresh hp
 by_cases hb:b=a
 ·subst hb;rw[aW]at e;cases e;exact new
 ·rw[aC hb]at e
  exact(x b u e).stay (fun c v _ q=>k c v q) (fun c q=>by rw[aC (aP q hn)];exact q) fun c xs q=>by rw[aC (aP q hn)];exact q
end
def Rd(H:Hp)(a:Addr)(u:HO):Prop:=H a=some u∨∃o,H a=some (.pU o u)
theorem Rd.ok{P:Program}{w:World}{H:Hp}{h:Heap}{a:Addr}{u:HO}(r:Rd H a u)(x:lU P w H h):bL P w H h a u:=by
 rcases r with r | ⟨o,r⟩
 ·exact x a u r
 ·obtain⟨_,q⟩:=x a _ r
  exact q
def ZG:Option HO→Prop
 | some (.lst _)=>True
 | some (.dK _)=>True
 | some (.dT _)=>True
 | some (.set _ _)=>True
 | some (.ins _ _ _)=>True
 | some (.ext _)=>True
 | _=>False
section
variable{P:Program}{w:World}{H:Hp}{h h':Heap}{x e:Addr}{o':HO}
theorem lU.write(ok:lU P w H h)(mu:ZG (H x))(he:e=x∨H e=some (.own x))(k:∀b u,b≠e→h.get? b=some u→h'.get? b=some u)(heo:∃u,h'.get? e=some u)
  (new:bL P w (upd H x o') h' x o'):lU P w (upd H x o') h':=fun b u q=>by
 have Ym:∀c y,H c=some (.own y)→c≠x:=fun c y r z=>by subst z;rw[r]at mu;exact mu
 have abP:∀c xs,H c=some (.tup xs)→c≠x:=fun c xs r z=>by subst z;rw[r]at mu;exact mu
 by_cases hb:b=x
 ·subst hb;rw[aW]at q;cases q;exact new
 ·rw[aC hb]at q
  by_cases hbe:b=e
  ·have q':H b=some (.own x):=by
    rcases he with z | z
    ·exact absurd (hbe.trans z) hb
    ·rw[hbe];exact z
   rw[q]at q';cases q'
   obtain⟨v,hv⟩:=heo
   exact⟨v,by rw[hbe];exact hv⟩
  ·refine(ok b u q).stay (fun c v hc r=>k c v ?_ r) (fun c r=>by rw[aC (Ym c b r)];exact r) fun c xs r=>by rw[aC (abP c xs r)];exact r
   rcases hc with rfl | hc
   ·exact hbe
   ·rintro rfl
    rcases he with z | z
    ·exact Ym c b hc z
    ·rw[hc]at z;cases z;exact hb rfl
end
structure Un(fs ex:List Addr)(H H':Hp)(h h':Heap):Prop where
 keep:∀b o,h.get? b=some o→H b=none→b∉fs→b∉ex→h'.get? b=some o
 slot:∀b o,h.get? b=some o→H b=none→b∈fs→b∉ex→∃sl,h'.get? b=some {o with slots:=sl}
 free:∀b o,h.get? b=some o→H b=none→b∉ex→H' b=none
 there:∀b o,h.get? b=some o→b∉ex→∃o',h'.get? b=some o'
 tups:∀b xs,H b=some (.tup xs)→H' b=some (.tup xs)
 rR:∀b o u,H b=some (.pU o u)→H' b=some (.pU o u)
 sJ:∀b ps,H b=some (.KJ ps)→∃more,H' b=some (.KJ (ps++more))
section
variable{fs fs' ex ex':List Addr}{H H1 H2:Hp}{h h1 h2 h':Heap}{a x e:Addr}{o:HO}
theorem Un.any(u:Un fs ex H H1 h h1){b:Addr}{ob:Obj}(q:h.get? b=some ob)(n:H b=none)(hx:b∉ex):∃sl,h1.get? b=some {ob with slots:=sl}:=by
 by_cases hb:b∈fs
 ·exact u.slot b ob q n hb hx
 ·exact⟨ob.slots,u.keep b ob q n hb hx⟩
theorem Un.kept(k:∀b u,h.get? b=some u→h'.get? b=some u):Un fs ex H H h h':=
 ⟨fun b ob q _ _ _=>k b ob q,fun b ob q _ _ _=>⟨ob.slots,k b ob q⟩,fun _ _ _ n _=>n,fun b ob q _=>⟨ob,k b ob q⟩,fun _ _ q=>q,fun _ _ _ q=>q,fun _ ps q=>⟨#[],by rw[q];simp⟩⟩
theorem Un.refl:Un fs ex H H h h:=Un.kept fun _ _ q=>q
theorem Un.laid(k:∀b u,h.get? b=some u→h'.get? b=some u)(hp:h.objs.size≤a)(hn:H a=none):Un fs ex H (upd H a o) h h' where
 keep:=fun b u q _ _ _=>k b u q
 slot:=fun b u q _ _ _=>⟨u.slots,k b u q⟩
 free:=fun b u q n _=>by rw[aC (Nat.ne_of_lt (Nat.lt_of_lt_of_le (Heap.lt_size q) hp))];exact n
 there:=fun b u q _=>⟨u,k b u q⟩
 tups:=fun b xs q=>by rw[aC (aP q hn)];exact q
 rR:=fun b u xs q=>by rw[aC (aP q hn)];exact q
 sJ:=fun b ps q=>⟨#[],by rw[aC (aP q hn),q];simp⟩
theorem Un.write(mu:ZG (H x))(he:e=x∨H e=some (.own x))(k:∀b u,b≠e→h.get? b=some u→h'.get? b=some u)(heo:∃u,h'.get? e=some u):Un fs ex H (upd H x o) h h':=by
 have hx:∀b,H b=none→b≠x:=fun b n z=>by subst z;rw[n]at mu;exact mu
 have hb:∀b,H b=none→b≠e:=fun b n z=>by
  subst z
  rcases he with r | r
  ·exact hx b n r
  ·rw[n]at r;cases r
 have hm:∀b u,H b=some u→¬ZG (some u)→b≠x:=fun b u q nm z=>by subst z;rw[q]at mu;exact nm mu
 refine⟨fun b u q n _ _=>k b u (hb b n) q,fun b u q n _ _=>⟨u.slots,k b u (hb b n) q⟩,fun b u q n _=>by rw[aC (hx b n)];exact n,fun b u q _=> ?_,
  fun b xs q=>by rw[aC (hm b _ q fun z=>z)];exact q,fun b u xs q=>by rw[aC (hm b _ q fun z=>z)];exact q,fun b ps q=>⟨#[],by rw[aC (hm b _ q fun z=>z),q];simp⟩⟩
 by_cases hbe:b=e
 ·subst hbe;exact heo
 ·exact⟨u,k b u hbe q⟩
end
def ZR(h:Heap)(H:Hp):List Addr:=(List.range h.objs.size).filter fun a=>(H a).isSome
def Ay(h:Heap)(H:Hp):Heap:=PySem.W.hideAll h (ZR h H)
theorem JR(h:Heap)(H:Hp):(Ay h H).objs.size=h.objs.size:=PySem.W.hideAll_size _ _
theorem NT{h:Heap}{H:Hp}{b:Addr}{o:Obj}(e:h.get? b=some o)(n:H b=none):(Ay h H).get? b=some o:=
 PySem.W.hideAll_get _ e fun hm=>by
  have q:(H b).isSome=true:=(List.mem_filter.mp hm).2
  rw[n]at q;simp at q
theorem QZ{h:Heap}{H:Hp}{b:Addr}{o:Obj}(e:(Ay h H).get? b=some o):h.get? b=some o∧H b=none:=by
 have e':h.get? b=some o:=PySem.W.of_hideAll (ZR h H) e
 refine⟨e',?_⟩
 cases q:H b with
 | none=>rfl
 | some x=>
  have hm:b∈ZR h H:=List.mem_filter.mpr ⟨List.mem_range.mpr (Heap.lt_size e'),by simp[q]⟩
  have z:(Ay h H).get? b=none:=PySem.W.hideAll_none (ZR h H) hm
  rw[z]at e;cases e
def RQ(g h:Heap)(L:Addr):List (Addr×Obj):=(List.range h.objs.size).filterMap fun a=>if a=L∨(g.get? a).isSome=true then none else(h.get? a).map fun o=>(a,o)
def rest(g h:Heap)(L d:Addr):List (Addr×Obj):=(RQ g h L).filter fun p=>decide (p.1≠d)
structure Mod(K:Frag)(mg:Str→Option Value)(base:Heap):Prop where
 Vh:K.In base
 glob:base.Ns mainGlobals mg
 blt:∃mb,base.Ns builtinsNs mb∧∀x:Str,x≠ "__name__" → mb x=bootBuiltins x
 nolimit:base.NoLimit
structure Cx where
 prog:Program
 w:World
 K:Frag
 mg:Str→Option Value
 base:Heap
 A:Around
 N:List Str
 s₀:Shared
 H₀:Hp
 env:Env
 outer:List Env
 stack:List Env
 ex:List Addr
 fn:Str→Bool
 calm:Bool
 pn:List (Addr×Obj)
 xe:Value→Shared→Prop
def frs(l:List Env):List Addr:=l.filterMap (·.frame)
abbrev Cx.fs(X:Cx):List Addr:=frs X.outer
def ZF(sc:Scope)(x:Str):Prop:=sc.names.lookup x=some .local∨sc.names.lookup x=some .cell∨sc.names.lookup x=some .free
def Loc(sc:Scope)(x:Str):Prop:=sc.names.lookup x=some .local∨sc.names.lookup x=some .cell
def Look(env:Env)(h:Heap)(m:Str→Option Value)(x:Str)(u:Value):Prop:=
 (env.kindOf x=some .local∧m x=some u)∨((env.kindOf x=some .cell∨env.kindOf x=some .free)∧∃c,env.cells.lookup x=some c∧h.IsCell c (some u))
structure Cx.Ok(X:Cx):Prop where
 mod:Mod X.K X.mg X.base
 kind:X.env.scope.kind= .function
 glob:X.env.globals=mainGlobals
 blt:X.env.builtins=builtinsNs
 above:X.s₀.heap.objs.size≤X.env.locals
 inj:∀x y c,X.env.cells.lookup x=some c→X.env.cells.lookup y=some c→x=y
 has:∀x,(X.env.kindOf x=some .cell∨X.env.kindOf x=some .free)→∃c,X.env.cells.lookup x=some c
 cab:∀x c,X.fn x=true→X.env.cells.lookup x=some c→X.s₀.heap.objs.size≤c
 hd:X.calm=true→X.A.handled=none
 frames:X.A.frames=some X.stack
 stk:X.stack=X.outer∨(X.stack=X.env::X.outer∧X.env.frame=some X.env.locals)
 Vy:∀b∈X.ex,b≠X.env.locals∧∀x c,X.env.cells.lookup x=some c→c≠b
 bs:∀b o,X.base.get? b=some o→X.s₀.heap.get? b=some o∧X.H₀ b=none
 Ir:X.base.objs.size≤X.s₀.heap.objs.size
 Cz:∀b o,X.base.get? b=some o→b∉X.ex
 Di:∀b∈X.ex,b∉X.fs
 pR:X.s₀.heap.FunFrames X.base X.outer
 Oa:∀b∈X.fs,X.H₀ b=none
structure Inv(X:Cx)(pins:List (Addr×Obj))(σ:List (Option V))(H:Hp)(s:Shared):Prop where
 ok:X.Ok
 os:s.os=X.s₀.os
 bare:AllBare s.gens
 base:Un X.fs X.ex X.H₀ H X.s₀.heap s.heap
 loc:∃m,s.heap.Ns X.env.locals m∧∀(i:Nat) (x:Str) (v:V),X.N[i]? = some x→σ[i]? = some (some v)→ZF X.env.scope x→∃u,RelV v u∧Look X.env s.heap m x u
 cell:∀x c,X.env.cells.lookup x=some c→∃v,s.heap.IsCell c v
 free:H X.env.locals=none
 gC:∀x c,X.env.cells.lookup x=some c→H c=none
 pin:∀p∈X.pn++pins,s.heap.get? p.1=some p.2∧H p.1=none∧p.1≠X.env.locals∧p.1∉X.fs∧∀v,p.2.data≠ .cell v
 hok:lU X.prog X.w H s.heap
 len:σ.length=X.N.length
section
variable{X:Cx}{pins:List (Addr×Obj)}{σ:List (Option V)}{H H':Hp}{s:Shared}{h':Heap}
theorem Cx.Ok.abR(ok:X.Ok){b:Addr}{o:Obj}(e:X.base.get? b=some o):b∉X.fs:=fun hb=>by
 have:=(ok.pR.mem hb).1
 rw[e]at this;cases this
theorem Inv.bs(I:Inv X pins σ H s):∀b o,X.base.get? b=some o→s.heap.get? b=some o∧H b=none:=fun b o e=>
 ⟨I.base.keep b o (I.ok.bs b o e).1 (I.ok.bs b o e).2 (I.ok.abR e) (I.ok.Cz b o e),I.base.free b o (I.ok.bs b o e).1 (I.ok.bs b o e).2 (I.ok.Cz b o e)⟩
theorem Inv.bk(I:Inv X pins σ H s):∀b o,X.base.get? b=some o→s.heap.get? b=some o:=fun b o e=>(I.bs b o e).1
theorem Inv.mod(I:Inv X pins σ H s):Mod X.K X.mg X.base:=I.ok.mod
theorem Inv.oU(I:Inv X pins σ H s):X.K.In s.heap:=I.ok.mod.Vh.keeps I.bk
theorem Inv.nolimit(I:Inv X pins σ H s):s.heap.NoLimit:=I.ok.mod.nolimit.keeps I.bk
theorem Inv.fr(I:Inv X pins σ H s):∃m,Fr X.base X.env.locals s.heap m:=
 let⟨m,hn,_⟩:=I.loc
 ⟨m,hn,I.bk,Nat.le_trans I.ok.Ir I.ok.above⟩
theorem Inv.lt(I:Inv X pins σ H s):X.env.locals<s.heap.objs.size:=let⟨_,hn,_⟩:=I.loc;hn.lt
theorem Inv.sz(I:Inv X pins σ H s):X.s₀.heap.objs.size≤s.heap.objs.size:=Nat.le_trans I.ok.above (Nat.le_of_lt I.lt)
theorem Inv.abQ(I:Inv X pins σ H s){a:Addr}(h:s.heap.objs.size≤a):a∉X.fs:=fun hb=>by
 obtain⟨_,o,ho,_⟩:=I.ok.pR.mem hb
 exact absurd (Nat.lt_of_lt_of_le (Heap.lt_size ho) (Nat.le_trans I.sz h)) (Nat.lt_irrefl _)
theorem Inv.RD(I:Inv X pins σ H s):∀x c,X.env.cells.lookup x=some c→c≠X.env.locals:=fun x c e z=>by
 obtain⟨v,o,ho,hd⟩:=I.cell x c e
 obtain⟨m,⟨o',es,ep,ho',hd',_⟩,_⟩:=I.loc
 rw[z,ho']at ho;cases ho;rw[hd']at hd;cases hd
theorem Inv.pR(I:Inv X pins σ H s):s.heap.FunFrames X.base X.outer:=by
 have all:∀(l:List Env),(∀b∈frs l,b∈X.fs)→X.s₀.heap.FunFrames X.base l→s.heap.FunFrames X.base l:=by
  intro l
  induction l with
  | nil=>intro _ _;trivial
  | cons env r ih=>
   intro hs hl
   obtain⟨hk,⟨L,o,hf,hn,ho,hd⟩,hr⟩:=hl
   have hL:L∈X.fs:=hs L (by unfold frs;rw[List.filterMap_cons,hf];exact List.mem_cons_self)
   obtain⟨sl,e⟩:=I.base.slot L o ho (I.ok.Oa L hL) hL fun z=>I.ok.Di L z hL
   exact⟨hk,⟨L,_,hf,hn,e,hd⟩,ih (fun b hb=>hs b (by unfold frs;rw[List.filterMap_cons,hf];exact List.mem_cons_of_mem _ hb)) hr⟩
 exact all X.outer (fun _ hb=>hb) I.ok.pR
theorem Inv.stack(I:Inv X pins σ H s):s.heap.FunFrames X.base X.stack:=by
 rcases I.ok.stk with e | ⟨e,hf⟩
 ·rw[e];exact I.pR
 ·rw[e]
  obtain⟨m,hn,_⟩:=I.loc
  refine .cons (by rw[I.ok.kind];decide) hf hn ?_ I.pR
  exact Heap.get?_none_of_le (Nat.le_trans I.ok.Ir I.ok.above)
theorem Inv.zL(I:Inv X pins σ H s):∀b∈frs X.stack,b∈X.env.locals::X.fs:=fun b hb=>by
 rcases I.ok.stk with e | ⟨e,hf⟩
 ·rw[e]at hb;exact List.mem_cons_of_mem _ hb
 ·rw[e]at hb
  unfold frs at hb
  rw[List.filterMap_cons,hf]at hb
  exact hb
theorem Inv.vH(I:Inv X pins σ H s):∀b∈frs X.stack,H b=none:=fun b hb=>by
 rcases List.mem_cons.mp (I.zL b hb)with e | hb
 ·rw[e];exact I.free
 ·obtain⟨_,o,ho,_⟩:=I.ok.pR.mem hb
  exact I.base.free b o ho (I.ok.Oa b hb) fun z=>I.ok.Di b z hb
theorem Inv.step{g':Array GenState}{t':Nat}{d':Drawn}{ch:List Addr}(I:Inv X pins σ H s)
  (hch:∀b∈ch,(b∈X.ex∨X.s₀.heap.objs.size≤b)∧b≠X.env.locals∧(∀x c,X.env.cells.lookup x=some c→c≠b)∧∀p∈X.pn++pins,p.1≠b)
  (keep:∀b o,b≠X.env.locals→b∉X.fs→b∉ch→s.heap.get? b=some o→H b=none→h'.get? b=some o)
  (slot:∀b o,b≠X.env.locals→b∈X.fs→b∉ch→s.heap.get? b=some o→H b=none→∃sl,h'.get? b=some {o with slots:=sl}) (free:∀b o,b∉ch→s.heap.get? b=some o→H b=none→H' b=none)
  (there:∀b o,b∉ch→s.heap.get? b=some o→∃o',h'.get? b=some o')
  (tups:∀b xs,H b=some (.tup xs)→H' b=some (.tup xs)) (rR:∀b o u,H b=some (.pU o u)→H' b=some (.pU o u)) (sJ:∀b ps,H b=some (.KJ ps)→∃more,H' b=some (.KJ (ps++more)))
  (ns:∀m,s.heap.Ns X.env.locals m→h'.Ns X.env.locals m) (hok:lU X.prog X.w H' h') (hg:AllBare g'):
  Inv X pins σ H' {s with heap:=h',gens:=g',drawn:=d',toks:=t'}:=by
 have neL:∀b o,X.s₀.heap.get? b=some o→b≠X.env.locals:=fun b o e=>Nat.ne_of_lt (Nat.lt_of_lt_of_le (Heap.lt_size e) I.ok.above)
 have Wj:∀b o,X.s₀.heap.get? b=some o→b∉X.ex→b∉ch:=fun b o e hx hb=>by
  rcases(hch b hb).1 with z | z
  ·exact hx z
  ·exact absurd (Nat.lt_of_lt_of_le (Heap.lt_size e) z) (Nat.lt_irrefl _)
 have cellK:∀x c,X.env.cells.lookup x=some c→∀v,s.heap.IsCell c v→h'.IsCell c v:=fun x c e v ⟨o,ho,hd⟩=>by
  have Yn:c∉ch:=fun z=>(hch c z).2.2.1 x c e rfl
  by_cases hc:c∈X.fs
  ·obtain⟨sl,q⟩:=slot c o (I.RD x c e) hc Yn ho (I.gC x c e)
   exact⟨_,q,hd⟩
  ·exact⟨o,keep c o (I.RD x c e) hc Yn ho (I.gC x c e),hd⟩
 refine⟨I.ok,I.os,hg,⟨fun b o e n hb hx=> ?_,fun b o e n hb hx=> ?_,fun b o e n hx=> ?_,fun b o e hx=> ?_,fun b xs e=>tups b xs (I.base.tups b xs e),fun b o xs e=>rR b o xs (I.base.rR b o xs e),fun b ps e=> ?_⟩,?_,fun x c e=> ?_,?_,fun x c e=> ?_,fun p hp=> ?_,hok,I.len⟩
 ·exact keep b o (neL b o e) hb (Wj b o e hx) (I.base.keep b o e n hb hx) (I.base.free b o e n hx)
 ·obtain⟨sl,e1⟩:=I.base.slot b o e n hb hx
  obtain⟨sl',e2⟩:=slot b _ (neL b o e) hb (Wj b o e hx) e1 (I.base.free b o e n hx)
  exact⟨sl',e2⟩
 ·obtain⟨o',e1⟩:=I.base.there b o e hx
  exact free b o' (Wj b o e hx) e1 (I.base.free b o e n hx)
 ·obtain⟨o',e1⟩:=I.base.there b o e hx
  exact there b o' (Wj b o e hx) e1
 ·obtain⟨m1,e1⟩:=I.base.sJ b ps e
  obtain⟨m2,e2⟩:=sJ b _ e1
  exact⟨m1++m2,by rw[e2,Array.append_assoc]⟩
 ·obtain⟨m,hn,hl⟩:=I.loc
  refine⟨m,ns m hn,fun i x v e1 e2 e3=> ?_⟩
  obtain⟨u,r,l⟩:=hl i x v e1 e2 e3
  refine⟨u,r,?_⟩
  rcases l with l | ⟨k,c,e,z⟩
  ·exact .inl l
  ·exact .inr ⟨k,c,e,cellK x c e _ z⟩
 ·obtain⟨v,z⟩:=I.cell x c e
  exact⟨v,cellK x c e v z⟩
 ·obtain⟨m,⟨o,_,_,ho,_⟩,_⟩:=I.loc
  exact free _ o (fun z=>(hch _ z).2.1 rfl) ho I.free
 ·obtain⟨v,o,ho,hd⟩:=I.cell x c e
  exact free c o (fun z=>(hch c z).2.2.1 x c e rfl) ho (I.gC x c e)
 ·obtain⟨e,n,ne,nf,d⟩:=I.pin p hp
  have Yn:p.1∉ch:=fun z=>(hch p.1 z).2.2.2 p hp rfl
  exact⟨keep p.1 p.2 ne nf Yn e n,free p.1 p.2 Yn e n,ne,nf,d⟩
theorem Inv.un{t':Nat}(I:Inv X pins σ H s)(u:Un X.fs [] H H' s.heap h')(hok:lU X.prog X.w H' h'):Inv X pins σ H' {s with heap:=h',toks:=t'}:=by
 obtain⟨m,⟨o,es,ep,ho,r⟩,_⟩:=id I.loc
 obtain⟨sl,hL⟩:=u.any ho I.free (by simp)
 exact I.step (g':=s.gens) (d':=s.drawn) (ch:=[]) (fun _ z=>nomatch z) (fun b o _ hb _ e n=>u.keep b o e n hb (by simp)) (fun b o _ hb _ e n=>u.slot b o e n hb (by simp)) (fun b o _ e n=>u.free b o e n (by simp)) (fun b o _ e=>u.there b o e (by simp)) u.tups u.rR u.sJ (fun m' hm=>by
  obtain⟨o',es',ep',ho',r'⟩:=hm
  rw[ho]at ho';cases ho'
  exact⟨_,es',ep',hL,r'⟩) hok I.bare
theorem Inv.call{g':Array GenState}{t':Nat}{d':Drawn}{ch:List Addr}(I:Inv X pins σ H s)(u:Un (frs X.stack) ch H H' s.heap h')(hok:lU X.prog X.w H' h')(hg:AllBare g')
  (hch:∀b∈ch,(b∈X.ex∨X.s₀.heap.objs.size≤b)∧b≠X.env.locals∧(∀x c,X.env.cells.lookup x=some c→c≠b)∧∀p∈X.pn++pins,p.1≠b):
  Inv X pins σ H' {s with heap:=h',gens:=g',drawn:=d',toks:=t'}:=by
 obtain⟨m,⟨o,es,ep,ho,r⟩,_⟩:=id I.loc
 obtain⟨sl,hL⟩:=u.any ho I.free fun z=>(hch _ z).2.1 rfl
 exact I.step (ch:=ch) hch (fun b o hL hb hc e n=>u.keep b o e n (fun z=>(List.mem_cons.mp (I.zL b z)).elim hL hb) hc) (fun b o _ _ hc e n=>u.any e n hc) (fun b o hc e n=>u.free b o e n hc) (fun b o hc e=>u.there b o e hc) u.tups u.rR u.sJ (fun m' hm=>by
  obtain⟨o',es',ep',ho',r'⟩:=hm
  rw[ho]at ho';cases ho'
  exact⟨_,es',ep',hL,r'⟩) hok hg
theorem Inv.turned{t':Nat}{it:Addr}(I:Inv X pins σ H s)(k:∀b o,b≠it→s.heap.get? b=some o→h'.get? b=some o)(hn:H it=none)(hL:it≠X.env.locals)
  (h1:it∈X.ex∨X.s₀.heap.objs.size≤it) (h2:∀x c,X.env.cells.lookup x=some c→c≠it) (h3:∀p∈X.pn++pins,p.1≠it):Inv X pins σ H {s with heap:=h',toks:=t'}:=by
 have U8:∀b u,H b=some u→b≠it:=fun b u e z=>by rw[z,hn]at e;cases e
 refine I.step (g':=s.gens) (d':=s.drawn) (ch:=[it]) (fun b hb=> ?_) (fun b o _ _ hc e _=>k b o (fun z=>hc (by simp[z])) e) (fun b o _ _ hc e _=>⟨o.slots,k b o (fun z=>hc (by simp[z])) e⟩) (fun _ _ _ _ n=>n)
  (fun b o hc e=>⟨o,k b o (fun z=>hc (by simp[z])) e⟩) (fun _ _ e=>e) (fun _ _ _ e=>e) (fun b ps e=>⟨#[],by rw[e];simp⟩) (fun m hm=> ?_) (fun b u e=> ?_) I.bare
 ·have e:b=it:=by simpa using hb
  subst e
  exact⟨h1,hL,h2,h3⟩
 ·obtain⟨o,es,ep,ho,r⟩:=hm
  exact⟨o,es,ep,k _ o (Ne.symm hL) ho,r⟩
 ·refine(I.hok b u e).stay (fun c v hc q=>k c v ?_ q) (fun _ q=>q) fun _ _ q=>q
  rcases hc with z | z
  ·rw[z];exact U8 b u e
  ·exact U8 c _ z
theorem Inv.tok(I:Inv X pins σ H s)(t:Nat):Inv X pins σ H {s with toks:=t}:=I.un (h':=s.heap) (t':=t) Un.refl I.hok
theorem Inv.kept{t':Nat}(I:Inv X pins σ H s)(k:∀b u,s.heap.get? b=some u→h'.get? b=some u):Inv X pins σ H {s with heap:=h',toks:=t'}:=I.un (Un.kept k) (I.hok.kept k)
theorem Inv.laid{a:Addr}{o:HO}{t':Nat}(I:Inv X pins σ H s)(k:∀b u,s.heap.get? b=some u→h'.get? b=some u)(hp:s.heap.objs.size≤a)(new:bL X.prog X.w (upd H a o) h' a o):
  Inv X pins σ (upd H a o) {s with heap:=h',toks:=t'}:=I.un (Un.laid k hp (I.hok.fresh hp)) (I.hok.laid k hp new)
theorem Inv.write{x e:Addr}{o:HO}{t':Nat}(I:Inv X pins σ H s)(mu:ZG (H x))(he:e=x∨H e=some (.own x))(k:∀b u,b≠e→s.heap.get? b=some u→h'.get? b=some u)(heo:∃u,h'.get? e=some u)
  (new:bL X.prog X.w (upd H x o) h' x o):Inv X pins σ (upd H x o) {s with heap:=h',toks:=t'}:=I.un (Un.write mu he k heo) (I.hok.write mu he k heo new)
theorem Inv.weak{σ':List (Option V)}(I:Inv X pins σ H s)(hl:σ'.length=σ.length)(w:∀(i:Nat) v,σ'[i]? = some (some v)→σ[i]? = some (some v)):Inv X pins σ' H s:=
 ⟨I.ok,I.os,I.bare,I.base,let⟨m,hn,hl'⟩:=I.loc;⟨m,hn,fun i x v e1 e2 e3=>hl' i x v e1 (w i v e2) e3⟩,I.cell,I.free,I.gC,I.pin,I.hok,hl.trans I.len⟩
theorem Inv.sY{lX:List (Addr×Obj)}(I:Inv X pins σ H s)(h:∀p∈lX,s.heap.get? p.1=some p.2∧H p.1=none∧p.1≠X.env.locals∧p.1∉X.fs∧∀v,p.2.data≠ .cell v):Inv X lX σ H s:=
 ⟨I.ok,I.os,I.bare,I.base,I.loc,I.cell,I.free,I.gC,fun p hp=>(List.mem_append.mp hp).elim (fun z=>I.pin p (List.mem_append_left _ z)) (h p),I.hok,I.len⟩
theorem wV{N:List Str}(hN:N.Nodup){i j:Nat}{x:Str}(a:N[i]? = some x)(b:N[j]? = some x):i=j:=by
 obtain⟨h1,e1⟩:=List.getElem?_eq_some_iff.mp a
 obtain⟨h2,e2⟩:=List.getElem?_eq_some_iff.mp b
 exact(List.getElem_inj hN).mp (e1.trans e2.symm)
theorem yL{M:Model}{A:Around}{E:Value→Shared→Prop}{i:Nat}{x:Str}{v:V}{u:Value}{Q:Unit→Shared→Prop}(I:Inv X pins σ H s)(hN:X.N.Nodup)(hi:X.N[i]? = some x)(hx:Loc X.env.scope x)(r:RelV v u)
  (h:∀s',Inv X pins (σ.set i (some v)) H s'→(∃a,Heap.SameBut a s.heap s'.heap∧(a=X.env.locals∨X.env.cells.lookup x=some a))→Q () s') (hf:X.fn x=true∨X.env.scope.names.lookup x=some .local:=by first | exact .inl rfl | exact .inr rfl | assumption):wpAny M A (storeName X.env x u) Q E s:=by
 obtain⟨m,hn,hl⟩:=id I.loc
 have hcls:(X.env.scope.kind== .class||(X.env.scope.kind== .module&&X.env.locals != X.env.globals))=false:=by rw[I.ok.kind];rfl
 have YT:i<σ.length:=by rw[I.len];exact(List.getElem?_eq_some_iff.mp hi).1
 have RD:=I.RD
 have tracked:∀{a:Addr} {h':Heap},(∃o,s.heap.get? a=some o∧H a=none)→Heap.SameBut a s.heap h'→lU X.prog X.w H h':=fun{a h'} ha hs b ob e=>by
  obtain⟨_,_,hfree⟩:=ha
  refine(I.hok b ob e).stay (fun c w' hc q=>(hs.2 c ?_).trans q) (fun _ q=>q) fun _ _ q=>q
  rintro rfl
  rcases hc with rfl | hc
  ·rw[hfree]at e;cases e
  ·rw[hfree]at hc;cases hc
 rcases hx with hk | hk
 ·refine wpAny_storeName_local hk hn (fun h' hn' hs=> ?_) hcls
  obtain⟨oL,_,_,hoL,_⟩:=id hn
  refine h _ ⟨I.ok,I.os,I.bare,⟨fun b o e n hb hx=> ?_,fun b o e n hb hx=> ?_,I.base.free,fun b o e hx=> ?_,I.base.tups,I.base.rR,I.base.sJ⟩,⟨_,hn',fun j y v' e1 e2 e3=> ?_⟩,fun y c e=> ?_,I.free,I.gC,fun p hp=> ?_,tracked ⟨oL,hoL,I.free⟩ hs,by simpa using I.len⟩ ⟨_,hs,.inl rfl⟩
  ·exact(hs.2 b (Nat.ne_of_lt (Nat.lt_of_lt_of_le (Heap.lt_size e) I.ok.above))).trans (I.base.keep b o e n hb hx)
  ·obtain⟨sl,e1⟩:=I.base.slot b o e n hb hx
   exact⟨sl,(hs.2 b (Nat.ne_of_lt (Nat.lt_of_lt_of_le (Heap.lt_size e) I.ok.above))).trans e1⟩
  ·obtain⟨o',e1⟩:=I.base.there b o e hx
   exact⟨o',(hs.2 b (Nat.ne_of_lt (Nat.lt_of_lt_of_le (Heap.lt_size e) I.ok.above))).trans e1⟩
  ·by_cases hj:j=i
   ·subst hj
    rw[hi]at e1;cases e1
    rw[List.getElem?_set_self YT]at e2
    cases e2
    exact⟨u,r,.inl ⟨hk,by simp⟩⟩
   ·rw[List.getElem?_set_ne (Ne.symm hj)]at e2
    obtain⟨u',r',q⟩:=hl j y v' e1 e2 e3
    refine⟨u',r',?_⟩
    rcases q with⟨k,e⟩ | ⟨k,c,e,z⟩
    ·refine .inl ⟨k,?_⟩
     have:y≠x:=fun e=>hj (wV hN e1 (e▸hi))
     simp[this,e]
    ·exact .inr ⟨k,c,e,z.sameBut hs (RD y c e)⟩
  ·obtain⟨w',z⟩:=I.cell y c e
   exact⟨w',z.sameBut hs (RD y c e)⟩
  ·obtain⟨e,n,ne,nf,d⟩:=I.pin p hp
   exact⟨(hs.2 p.1 ne).trans e,n,ne,nf,d⟩
 ·have hfn:X.fn x=true:=by
   rcases hf with z | z
   ·exact z
   ·rw[z]at hk;cases hk
  obtain⟨c,hc⟩:=I.ok.has x (.inl hk)
  obtain⟨w',z⟩:=I.cell x c hc
  refine wpAny_storeName_cell I.ok.kind hk hc z (fun h' hc' hs=> ?_)
  obtain⟨oc,hoc,ab6⟩:=id z
  refine h {s with heap:=h'} ⟨I.ok,I.os,I.bare,⟨fun b o e n hb hx=> ?_,fun b o e n hb hx=> ?_,I.base.free,fun b o e hx=> ?_,I.base.tups,I.base.rR,I.base.sJ⟩,⟨m,hn.sameBut hs (Ne.symm (RD x c hc)),fun j y v' e1 e2 e3=> ?_⟩,fun y c' e=> ?_,I.free,I.gC,fun p hp=> ?_,tracked ⟨oc,hoc,I.gC x c hc⟩ hs,by simpa using I.len⟩ ⟨c,hs,.inr hc⟩
  ·exact(hs.2 b (Nat.ne_of_lt (Nat.lt_of_lt_of_le (Heap.lt_size e) (I.ok.cab x c hfn hc)))).trans (I.base.keep b o e n hb hx)
  ·obtain⟨sl,e1⟩:=I.base.slot b o e n hb hx
   exact⟨sl,(hs.2 b (Nat.ne_of_lt (Nat.lt_of_lt_of_le (Heap.lt_size e) (I.ok.cab x c hfn hc)))).trans e1⟩
  ·obtain⟨o',e1⟩:=I.base.there b o e hx
   exact⟨o',(hs.2 b (Nat.ne_of_lt (Nat.lt_of_lt_of_le (Heap.lt_size e) (I.ok.cab x c hfn hc)))).trans e1⟩
  ·by_cases hj:j=i
   ·subst hj
    rw[hi]at e1;cases e1
    rw[List.getElem?_set_self YT]at e2
    cases e2
    exact⟨u,r,.inr ⟨.inl hk,c,hc,hc'⟩⟩
   ·rw[List.getElem?_set_ne (Ne.symm hj)]at e2
    obtain⟨u',r',q⟩:=hl j y v' e1 e2 e3
    refine⟨u',r',?_⟩
    rcases q with q | ⟨k,c',e,z'⟩
    ·exact .inl q
    ·refine .inr ⟨k,c',e,z'.sameBut hs ?_⟩
     rintro rfl
     exact hj (wV hN e1 (I.ok.inj _ _ _ e hc▸hi))
  ·by_cases hcc:c'=c
   ·subst hcc;exact⟨_,hc'⟩
   ·obtain⟨w2,z2⟩:=I.cell y c' e
    exact⟨w2,z2.sameBut hs hcc⟩
  ·obtain⟨e,n,ne,nf,d⟩:=I.pin p hp
   refine⟨(hs.2 p.1 ?_).trans e,n,ne,nf,d⟩
   intro q
   rw[q,hoc]at e
   have q':oc=p.2:=Option.some.inj e
   exact d w' (by rw[←q'];exact ab6)
theorem pB{M:Model}{A:Around}{E:Value→Shared→Prop}{i:Nat}{x:Str}{v:V}{u:Value}{Q:Unit→Shared→Prop}(I:Inv X pins σ H s)(hN:X.N.Nodup)(hi:X.N[i]? = some x)(hx:Loc X.env.scope x)(r:RelV v u)
  (h:∀s',Inv X pins (σ.set i (some v)) H s'→Q () s') (hf:X.fn x=true∨X.env.scope.names.lookup x=some .local:=by first | exact .inl rfl | exact .inr rfl | assumption):wpAny M A (storeName X.env x u) Q E s:=
 yL I hN hi hx r (fun s' I' _=>h s' I') hf
theorem Inv.call'{s':Shared}{ch:List Addr}(I:Inv X pins σ H s)(ho:s'.os=s.os)(u:Un (frs X.stack) ch H H' s.heap s'.heap)(hok:lU X.prog X.w H' s'.heap)(hg:AllBare s'.gens)
  (hch:∀b∈ch,(b∈X.ex∨X.s₀.heap.objs.size≤b)∧b≠X.env.locals∧(∀x c,X.env.cells.lookup x=some c→c≠b)∧∀p∈X.pn++pins,p.1≠b):Inv X pins σ H' s':=by
 obtain⟨h',g',d',t',o'⟩:=s'
 have e:o'=s.os:=ho
 subst e
 exact I.call (g':=g') (t':=t') (d':=d') u hok hg hch
end
abbrev XK:=Value→Option Addr→Hp→Prop
abbrev St:=List (Option V)
abbrev VK:=V→Hp→Prop
abbrev TE:=St→Hp→VK→Prop
abbrev TT:=St→Hp→(Bool→Hp→Prop)→Prop
abbrev TA:=St→Hp→(List V→Hp→Prop)→Prop
structure Ends where
 nx:St→Hp→Prop
 rt:VK
 bk:St→Hp→Prop:=fun _ _=>False
 ct:St→Hp→Prop:=fun _ _=>False
abbrev TS:=Ends→St→Hp→Prop
def EP(X:Cx)(pins:List (Addr×Obj))(σ:St)(Q:VK)(u:Value)(s':Shared):Prop:=∃v H',Inv X pins σ H' s'∧RelV v u∧Q v H'
def TP(X:Cx)(pins:List (Addr×Obj))(σ:St)(Q:Bool→Hp→Prop)(b:Bool)(s':Shared):Prop:=∃H',Inv X pins σ H' s'∧Q b H'
def AP(X:Cx)(pins:List (Addr×Obj))(σ:St)(Q:List V→Hp→Prop)(us:List Value)(s':Shared):Prop:=∃vs H',Inv X pins σ H' s'∧Vals vs us∧Q vs H'
def SP(X:Cx)(pins:List (Addr×Obj))(D:Ends)(f:Flow)(s':Shared):Prop:=
 match f with
 | .next=>∃σ' H',Inv X pins σ' H' s'∧D.nx σ' H'
 | .brk=>∃σ' H',Inv X pins σ' H' s'∧D.bk σ' H'
 | .cont=>∃σ' H',Inv X pins σ' H' s'∧D.ct σ' H'
 | .ret u=>∃v σ' H',Inv X pins σ' H' s'∧RelV v u∧D.rt v H'
def PE(X:Cx)(e:Expr)(t:TE):Prop:=
 ∀(pins:List (Addr×Obj)) (s:Shared) (σ:St) (H:Hp) (Q:VK),Inv X pins σ H s→t σ H Q→wpAny (model X.prog X.w) X.A (eval e X.env) (EP X pins σ Q) X.xe s
def PT(X:Cx)(e:Expr)(t:TT):Prop:=
 ∀(pins:List (Addr×Obj)) (s:Shared) (σ:St) (H:Hp) (Q:Bool→Hp→Prop),Inv X pins σ H s→t σ H Q→wpAny (model X.prog X.w) X.A (isTrue e X.env (eval e X.env)) (TP X pins σ Q) X.xe s
def PW(X:Cx)(e:Expr)(t:TT):Prop:=
 ∀(whole:Sem Value) (pins:List (Addr×Obj)) (s:Shared) (σ:St) (H:Hp) (Q:Bool→Hp→Prop),Inv X pins σ H s→t σ H Q→wpAny (model X.prog X.w) X.A (isTrue e X.env whole) (TP X pins σ Q) X.xe s
theorem PW.pt{X:Cx}{e:Expr}{t:TT}(h:PW X e t):PT X e t:=h _
def PA(X:Cx)(es:List Expr)(t:TA):Prop:=
 ∀(pos:Pos) (pins:List (Addr×Obj)) (s:Shared) (σ:St) (H:Hp) (Q:List V→Hp→Prop),Inv X pins σ H s→t σ H Q→wpAny (model X.prog X.w) X.A (spliced (backTo pos (starEach es X.env))) (AP X pins σ Q) X.xe s
def PS(X:Cx)(st:Stmt)(t:TS):Prop:=
 ∀(pins:List (Addr×Obj)) (s:Shared) (σ:St) (H:Hp) (D:Ends),Inv X pins σ H s→t D σ H→wpAny (model X.prog X.w) X.A (exec st X.env) (SP X pins D) X.xe s
def vU(X:Cx)(st:List Stmt)(t:TS):Prop:=
 ∀(pins:List (Addr×Obj)) (s:Shared) (σ:St) (H:Hp) (D:Ends),Inv X pins σ H s→t D σ H→wpAny (model X.prog X.w) X.A (execs st X.env) (SP X pins D) X.xe s
theorem dR{α:Type}{t:Sem α}{Q Q':α→Shared→Prop}{M:Model}{A:Around}{E:Value→Shared→Prop}{s:Shared}(h:wpAny M A t Q E s)(hQ:∀a s,Q a s→Q' a s):wpAny M A t Q' E s:=wpAny_mono h hQ fun _ _ x=>x
section
variable{X:Cx}
theorem bin{a b:Expr}{ta tb:TE}(ha:PE X a ta)(hb:PE X b tb){pins:List (Addr×Obj)}{s:Shared}{σ:St}{H:Hp}{R:V→V→Hp→Prop}(I:Inv X pins σ H s)(h:ta σ H fun x H1=>tb σ H1 fun y H2=>R x y H2)
  {α:Type} {Q:α→Shared→Prop} {f:Value→Value→Sem α}
  (hf:∀v u s2 x y H2,Inv X pins σ H2 s2→RelV x v→RelV y u→R x y H2→wpAny (model X.prog X.w) X.A (f v u) Q X.xe s2):
  wpAny (model X.prog X.w) X.A (eval a X.env) (fun v s₁=>wpAny (model X.prog X.w) X.A (eval b X.env) (fun u s₂=>wpAny (model X.prog X.w) X.A (f v u) Q X.xe s₂) X.xe s₁) X.xe s:=by
 refine dR (ha pins s σ H _ I h) fun v s1 ⟨x,H1,I1,r1,q1⟩=> ?_
 refine dR (hb pins s1 σ H1 _ I1 q1) fun u s2 ⟨y,H2,I2,r2,q2⟩=> ?_
 exact hf v u s2 x y H2 I2 r1 r2 q2
def Pr(i:Nat):TE:=fun σ H Q=>∃v,σ[i]? = some (some v)∧Q v H
def tC(v:V):TE:=fun _ H Q=>Q v H
theorem Mm{i:Nat}{x:Str}{pos:Pos}(hN:X.N[i]? = some x)(hv:ZF X.env.scope x)(hd:(x==("__debug__" : Str))=false:=by decide)(hcd:(x==("__classdict__" : Str))=false:=by decide):PE X (.Name x pos) (Pr i):=by
 intro pins s σ H Q I h
 obtain⟨v,e,h⟩:=h
 obtain⟨m,hn,hl⟩:=I.loc
 obtain⟨u,r,l⟩:=hl i x v hN e hv
 have fin:EP X pins σ Q u s:=⟨v,H,I,r,h⟩
 rcases l with⟨hk,hm⟩ | ⟨hk,c,hc,hcell⟩
 ·exact wpAny_Name (wpAny_loadName_local I.ok.kind hk hn hm fin) hd
 ·rcases hk with hk | hk
  ·exact wpAny_Name (wpAny_loadName_cell I.ok.kind hk hc hcell fin) hd
  ·exact wpAny_Name (wpAny_loadName_free I.ok.kind hk hc hcell fin hcd) hd
theorem Uk{i j pos}:PE X (.Constant (.int i) j pos) (tC (.int i)):=fun _ _ _ H _ I h=>wpAny_Constant_int ⟨.int i,H,I.tok _,⟨_,rfl⟩,h⟩
theorem Yg{b j pos}:PE X (.Constant (.bool b) j pos) (tC (.bl b)):=fun _ _ _ H _ I h=>Constant_bool ⟨.bl b,H,I,rfl,h⟩
theorem Ui{j pos}:PE X (.Constant .none j pos) (tC .non):=fun _ _ _ H _ I h=>Constant_none ⟨.non,H,I,rfl,h⟩
theorem Ue{x j pos}:PE X (.Constant (.str x) j pos) (tC (.str x)):=fun _ _ _ H _ I h=>Calls.Constant_str ⟨.str x,H,I.tok _,⟨_,rfl⟩,h⟩
def Gl(X:Cx)(x:Str):Prop:=X.env.kindOf x=some .globalImplicit
theorem tM{E:Value→Shared→Prop}{pins:List (Addr×Obj)}{s:Shared}{σ:St}{H:Hp}{x:Str}{u:Value}{pos:Pos}{Q:Value→Shared→Prop}(I:Inv X pins σ H s)(hg:Gl X x)(hm:X.mg x=some u)(h:Q u s)
  (hd:(x==("__debug__" : Str))=false:=by decide):wpAny (model X.prog X.w) X.A (eval (.Name x pos) X.env) Q E s:=
 Calls.Name_function_global I.ok.kind hg (Calls.loadGlobal_global (by rw[I.ok.glob];exact I.mod.glob.keeps I.bk) hm h) hd
theorem Aj{E:Value→Shared→Prop}{pins:List (Addr×Obj)}{s:Shared}{σ:St}{H:Hp}{x:Str}{u:Value}{pos:Pos}{Q:Value→Shared→Prop}(I:Inv X pins σ H s)(hg:Gl X x)(hm:X.mg x=none)(hv:bootBuiltins x=some u)(h:Q u s)
  (hn:x≠ "__name__" := by decide) (hd:(x==("__debug__" : Str))=false:=by decide):wpAny (model X.prog X.w) X.A (eval (.Name x pos) X.env) Q E s:=by
 obtain⟨mb,h1,h2⟩:=I.mod.blt
 exact Calls.Name_function_global I.ok.kind hg (Calls.loadGlobal_builtin (by rw[I.ok.glob];exact I.mod.glob.keeps I.bk) hm (by rw[I.ok.blt];exact h1.keeps I.bk) ((h2 x hn).trans hv) h) hd
theorem z9{x:Str}{v:V}{u:Value}{pos:Pos}(hg:Gl X x)(hm:X.mg x=some u)(r:RelV v u)(hd:(x==("__debug__" : Str))=false:=by decide):PE X (.Name x pos) (tC v):=
 fun _ _ _ H _ I h=>tM I hg hm ⟨v,H,I,r,h⟩ hd
theorem QJ{x:Str}{v:V}{u:Value}{pos:Pos}(hg:Gl X x)(hm:X.mg x=none)(hv:bootBuiltins x=some u)(r:RelV v u)(hn:x≠ "__name__" := by decide)(hd:(x==("__debug__" : Str))=false:=by decide):PE X (.Name x pos) (tC v):=
 fun _ _ _ H _ I h=>Aj I hg hm hv ⟨v,H,I,r,h⟩ hn hd
variable{a b:Expr}{ta tb:TE}{pos:Pos}
def PC(X:Cx)(op:CmpOp)(a b:Expr)(t:TE):Prop:=
 ∀(pins:List (Addr×Obj)) (s:Shared) (σ:St) (H:Hp) (Q:VK),Inv X pins σ H s→t σ H Q→
  wpAny (model X.prog X.w) X.A (eval a X.env) (fun v s₁=>wpAny (model X.prog X.w) X.A (eval b X.env) (fun u s₂=>wpAny (model X.prog X.w) X.A (compareOp op v u) (EP X pins σ Q) X.xe s₂) X.xe s₁) X.xe s
theorem Mz(b:Expr){op:CmpOp}(h:op≠ .In)(h2:op≠ .NotIn):behindInMarks op b=false:=by
 have e1:(op==CmpOp.In)=false:=by cases op<;>first | rfl | exact absurd rfl h
 have e2:(op==CmpOp.NotIn)=false:=by cases op<;>first | rfl | exact absurd rfl h2
 cases b<;>simp[behindInMarks,e1,e2]
def tB(t:TE):TT:=fun σ H Q=>t σ H fun x H1=>∃c,x= .bl c∧Q c H1
theorem abB{op:CmpOp}{t:TE}(h:PC X op a b t)(h1:behindInMarks op b=false:=by first | exact Mz _ (by decide) (by decide) | rfl):PT X (.Compare a [op] [b] pos) (tB t):=by
 intro pins s σ H Q I hw
 refine wpAny_isTrue_Compare1 (dR (h pins s σ H _ I hw) fun v s1 h1=>dR h1 fun u s2 h2=>dR h2 fun c s3 ⟨x,H1,I1,r1,q1⟩=> ?_) h1
 obtain⟨d,rfl,q⟩:=q1
 cases r1
 exact wpAny_truthy_bool ⟨H1,I1,q⟩
theorem T5{e:Expr}{t:TE}(h:PE X e t)(he:∀whole,isTrue e X.env whole=(do let v ←whole;standAt e.pos;holding [v] (truthy v)):=by intro _;rfl):PT X e (tB t):=by
 intro pins s σ H Q I hw
 refine isTrue_plain (dR (h pins s σ H _ I hw) fun v s1 ⟨x,H1,I1,r1,q1⟩=> ?_) (he _)
 obtain⟨d,rfl,q⟩:=q1
 cases r1
 exact wpAny_truthy_bool ⟨H1,I1,q⟩
variable{tA Xd:TT}{rest:List Expr}
def abd(t u:TT):TT:=fun σ H Q=>t σ H fun c H1=>if c=true then u σ H1 Q else Q false H1
def tOr(t u:TT):TT:=fun σ H Q=>t σ H fun c H1=>if c=true then Q true H1 else u σ H1 Q
def aa7(t:TT):TT:=fun σ H Q=>t σ H fun c H1=>Q (!c) H1
theorem Qp(ha:PT X a tA):PW X (.BoolOp .And [a] pos) tA:=by
 intro wh pins s σ H Q I h
 refine isTrue_and (dR (ha pins s σ H Q I h) fun c s1 e=> ?_)
 cases c with
 | true=>exact isTrue_and_nil e
 | false=>exact e
theorem T3(ha:PT X a tA):PW X (.BoolOp .Or [a] pos) tA:=by
 intro wh pins s σ H Q I h
 refine isTrue_or (dR (ha pins s σ H Q I h) fun c s1 e=> ?_)
 cases c with
 | false=>exact isTrue_or_nil e
 | true=>exact e
theorem T4(ha:PT X a tA)(hb:PW X (.BoolOp .And (b::rest) pos) Xd):PW X (.BoolOp .And (a::b::rest) pos) (abd tA Xd):=by
 intro wh pins s σ H Q I h
 refine isTrue_and (dR (ha pins s σ H _ I h) fun c s1 ⟨H1,I1,q1⟩=> ?_)
 cases c with
 | true=>exact hb wh pins s1 σ H1 Q I1 q1
 | false=>exact⟨H1,I1,q1⟩
theorem XS(ha:PT X a tA)(hb:PW X (.BoolOp .Or (b::rest) pos) Xd):PW X (.BoolOp .Or (a::b::rest) pos) (tOr tA Xd):=by
 intro wh pins s σ H Q I h
 refine isTrue_or (dR (ha pins s σ H _ I h) fun c s1 ⟨H1,I1,q1⟩=> ?_)
 cases c with
 | true=>exact⟨H1,I1,q1⟩
 | false=>exact hb wh pins s1 σ H1 Q I1 q1
theorem T6(ha:PT X a tA):PT X (.UnaryOp .Not a pos) (aa7 tA):=by
 intro pins s σ H Q I h
 exact isTrue_not (ha pins s σ H (fun c H1=>Q (!c) H1) I h)
def Xe(ta tb:TE):TE:=fun σ H Q=>ta σ H fun x H1=>∃c,x= .bl c∧if c=true then tb σ H1 Q else Q (.bl false) H1
def aa6(ta tb:TE):TE:=fun σ H Q=>ta σ H fun x H1=>∃c,x= .bl c∧if c=true then Q (.bl true) H1 else tb σ H1 Q
def W9(ta:TE):TE:=fun σ H Q=>ta σ H fun x H1=>∃c,x= .bl c∧Q (.bl (!c)) H1
theorem Ug{op}{t:TE}(h:PE X a t):PE X (.BoolOp op [a] pos) t:=fun pins s σ H Q I hw=>BoolOp_one (h pins s σ H Q I hw)
theorem Uo(ha:PE X a ta)(hb:PE X (.BoolOp .And (b::rest) pos) tb):PE X (.BoolOp .And (a::b::rest) pos) (Xe ta tb):=by
 intro pins s σ H Q I h
 refine BoolOp_and (dR (ha pins s σ H _ I h) fun v s1 ⟨x,H1,I1,r1,q1⟩=> ?_)
 obtain⟨c,rfl,q1⟩:=q1
 cases r1
 refine wpAny_truthy_bool ?_
 cases c with
 | true=>exact hb pins s1 σ H1 Q I1 q1
 | false=>exact⟨.bl false,H1,I1,rfl,q1⟩
theorem Yb(ha:PE X a ta)(hb:PE X (.BoolOp .Or (b::rest) pos) tb):PE X (.BoolOp .Or (a::b::rest) pos) (aa6 ta tb):=by
 intro pins s σ H Q I h
 refine BoolOp_or (dR (ha pins s σ H _ I h) fun v s1 ⟨x,H1,I1,r1,q1⟩=> ?_)
 obtain⟨c,rfl,q1⟩:=q1
 cases r1
 refine wpAny_truthy_bool ?_
 cases c with
 | false=>exact hb pins s1 σ H1 Q I1 q1
 | true=>exact⟨.bl true,H1,I1,rfl,q1⟩
theorem Uh(ha:PE X a ta):PE X (.UnaryOp .Not a pos) (W9 ta):=by
 intro pins s σ H Q I h
 refine UnaryOp_ (dR (ha pins s σ H _ I h) fun v s1 ⟨x,H1,I1,r1,q1⟩=> ?_)
 obtain⟨c,rfl,q1⟩:=q1
 cases r1
 exact not_of (wpAny_truthy_bool ⟨.bl (!c),H1,I1,rfl,q1⟩)
end
def mK(K:Frag)(H:Hp)(a:Addr)(xs:List V):Prop:=
 Rd H a (.lst xs)∨
  ∃(o:Obj) (its:Array Value) (n:Nat),K.lookup a=some o∧o.cls= .type "list" ∧ o.dict=none∧o.data= .seq its n∧its.size≤sizeLine∧Vals xs its.toList
def jX(K:Frag)(H:Hp)(a:Addr)(xs:List V):Prop:=
 Rd H a (.tup xs)∨
  ∃(o:Obj) (its:Array Value) (n:Nat),K.lookup a=some o∧o.cls= .type "tuple" ∧ o.data= .seq its n∧its.size≤sizeLine∧Vals xs its.toList
def acH:Value→Option V
 | .none=>some .non
 | .bool b=>some (.bl b)
 | .int i _=>some (.int i)
 | .str x _=>some (.str x)
 | .bytes b _=>some (.byt b)
 | .float b _=>some (.flt b)
 | .ref a=>some (.ref a)
 | .type n=>some (.ty n)
 | _=>none
theorem RelV.abs{x:V}{u:Value}(r:RelV x u):acH u=some x:=by
 cases x with
 | non=>cases r;rfl
 | bl _=>cases r;rfl
 | int _=>obtain⟨t,rfl⟩:=r;rfl
 | str _=>obtain⟨t,rfl⟩:=r;rfl
 | byt _=>obtain⟨t,rfl⟩:=r;rfl
 | flt _=>obtain⟨t,rfl⟩:=r;rfl
 | ref _=>cases r;rfl
 | ty _=>cases r;rfl
theorem RelV.inj{x y:V}{u:Value}(r:RelV x u)(q:RelV y u):x=y:=Option.some.inj (r.abs.symm.trans q.abs)
theorem Vals.inj:∀{xs ys:List V} {us:List Value},Vals xs us→Vals ys us→xs=ys
 | _,_,_,.nil,.nil=>rfl
 | _,_,_,.cons r t,.cons r' t'=>by rw[r.inj r',Vals.inj t t']
section
variable{X:Cx}{pins:List (Addr×Obj)}{σ:St}{H:Hp}{s:Shared}{a:Addr}{xs ys:List V}
theorem mK.of{K:Frag}(h:H a=some (.lst xs)):mK K H a xs:= .inl (.inl h)
theorem jX.of{K:Frag}(h:H a=some (.tup xs)):jX K H a xs:= .inl (.inl h)
theorem Inv.list(I:Inv X pins σ H s)(h:mK X.K H a xs):∃its:List Value,Vals xs its∧PlainL s.heap a its.toArray∧xs.length≤sizeLine:=by
 rcases h with h | ⟨o,its,n,hk,hc,hd,hs,hz,r⟩
 ·obtain⟨z,its,n,r,e⟩:=h.ok I.hok
  exact⟨its,r,⟨_,n,e,rfl,rfl,rfl⟩,z⟩
 ·refine⟨its.toList,r,⟨o,n,I.oU a o hk,hc,hd,by simpa using hs⟩,?_⟩
  have e:=r.length
  simp only[Array.length_toList]at e
  omega
theorem Inv.tuple(I:Inv X pins σ H s)(h:jX X.K H a xs):∃its:List Value,Vals xs its∧IsTup s.heap a its.toArray∧xs.length≤sizeLine:=by
 rcases h with h | ⟨o,its,n,hk,hc,hs,hz,r⟩
 ·obtain⟨z,its,r,p⟩:=h.ok I.hok
  exact⟨its,r,p,z⟩
 ·refine⟨its.toList,r,⟨o,I.oU a o hk,hc,n,by simpa using hs⟩,?_⟩
  have e:=r.length
  simp only[Array.length_toList]at e
  omega
theorem Inv.xj(I:Inv X pins σ H s)(h:mK X.K H a xs)(h':mK X.K H a ys):xs=ys:=by
 obtain⟨its,r,⟨o,n,e,_,_,d⟩,_⟩:=I.list h
 obtain⟨its',r',⟨o',n',e',_,_,d'⟩,_⟩:=I.list h'
 rw[e]at e';cases e'
 rw[d]at d'
 injection d' with d1 _
 have:its=its':=by simpa using congrArg Array.toList d1
 subst this
 exact r.inj r'
theorem Inv.ue(I:Inv X pins σ H s)(h:jX X.K H a xs)(h':jX X.K H a ys):xs=ys:=by
 obtain⟨its,r,⟨o,e,_,n,d⟩,_⟩:=I.tuple h
 obtain⟨its',r',⟨o',e',_,n',d'⟩,_⟩:=I.tuple h'
 rw[e]at e';cases e'
 rw[d]at d'
 injection d' with d1 _
 have:its=its':=by simpa using congrArg Array.toList d1
 subst this
 exact r.inj r'
end
abbrev Cx.wish(X:Cx)(E:Value→Shared→Prop):Cx:={X with xe:=E}
abbrev Cx.Mv(X:Cx):Cx:=X.wish fun _ _=>False
theorem Cx.Ok.wish{X:Cx}(ok:X.Ok)(E:Value→Shared→Prop):(X.wish E).Ok:=
 ⟨ok.mod,ok.kind,ok.glob,ok.blt,ok.above,ok.inj,ok.has,ok.cab,ok.hd,ok.frames,ok.stk,ok.Vy,ok.bs,ok.Ir,ok.Cz,ok.Di,ok.pR,ok.Oa⟩
theorem Cx.Ok.fQ{X:Cx}{E:Value→Shared→Prop}(ok:(X.wish E).Ok):X.Ok:=
 ⟨ok.mod,ok.kind,ok.glob,ok.blt,ok.above,ok.inj,ok.has,ok.cab,ok.hd,ok.frames,ok.stk,ok.Vy,ok.bs,ok.Ir,ok.Cz,ok.Di,ok.pR,ok.Oa⟩
section
variable{X:Cx}{pins:List (Addr×Obj)}{σ:St}{H:Hp}{s:Shared}{E:Value→Shared→Prop}
theorem Inv.wish(I:Inv X pins σ H s)(E:Value→Shared→Prop):Inv (X.wish E) pins σ H s:=⟨I.ok.wish E,I.os,I.bare,I.base,I.loc,I.cell,I.free,I.gC,I.pin,I.hok,I.len⟩
theorem Inv.fQ(I:Inv (X.wish E) pins σ H s):Inv X pins σ H s:=⟨I.ok.fQ,I.os,I.bare,I.base,I.loc,I.cell,I.free,I.gC,I.pin,I.hok,I.len⟩
theorem SP.fQ{D:Ends}{f:Flow}{s':Shared}(h:SP (X.wish E) pins D f s'):SP X pins D f s':=by
 cases f with
 | next=>obtain⟨σ',H',I,q⟩:=h;exact⟨σ',H',I.fQ,q⟩
 | brk=>obtain⟨σ',H',I,q⟩:=h;exact⟨σ',H',I.fQ,q⟩
 | cont=>obtain⟨σ',H',I,q⟩:=h;exact⟨σ',H',I.fQ,q⟩
 | ret u=>obtain⟨v,σ',H',I,r,q⟩:=h;exact⟨v,σ',H',I.fQ,r,q⟩
theorem PE.Mv{e:Expr}{t:TE}(h:PE X.Mv e t):PE X e t:=fun pins s σ H Q I hw=>
 wpAny_mono (h pins s σ H Q (I.wish _) hw) (fun _ _ ⟨v,H',I',r,q⟩=>⟨v,H',I'.fQ,r,q⟩) fun _ _ z=>False.elim z
theorem PT.Mv{e:Expr}{t:TT}(h:PT X.Mv e t):PT X e t:=fun pins s σ H Q I hw=>
 wpAny_mono (h pins s σ H Q (I.wish _) hw) (fun _ _ ⟨H',I',q⟩=>⟨H',I'.fQ,q⟩) fun _ _ z=>False.elim z
theorem vU.Mv{st:List Stmt}{t:TS}(h:vU X.Mv st t):vU X st t:=fun pins s σ H D I hw=>
 wpAny_mono (h pins s σ H D (I.wish _) hw) (fun _ _ q=>q.fQ) fun _ _ z=>False.elim z
end
section
variable{X:Cx}{st:Stmt}{rest:List Stmt}{t u:TS}{e:Expr}{te:TE}{pos:Pos}
def R5:TS:=fun D σ H=>D.nx σ H
def aa4(t u:TS):TS:=fun D σ H=>t {D with nx:=u D} σ H
theorem Qu:vU X [] R5:=fun _ _ σ H _ I h=>wpAny_execs_nil ⟨σ,H,I,h⟩
theorem L_(h1:PS X st t)(h2:vU X rest u):vU X (st::rest) (aa4 t u):=by
 intro pins s σ H D I h
 refine wpAny_execs_cons (dR (h1 pins s σ H {D with nx:=u D} I h) fun f s1 q=> ?_)
 cases f with
 | next=>
  obtain⟨σ',H',I',q⟩:=q
  exact h2 pins s1 σ' H' D I' q
 | ret v=>exact q
 | brk=>exact q
 | cont=>exact q
theorem Hv(h1:PS X st t):vU X [st] t:=by
 intro pins s σ H D I h
 refine wpAny_execs_cons (dR (h1 pins s σ H D I h) fun f s1 q=> ?_)
 cases f with
 | next=>exact wpAny_execs_nil q
 | ret v=>exact q
 | brk=>exact q
 | cont=>exact q
theorem Inv.quiet{pins:List (Addr×Obj)}{σ:St}{H:Hp}{s:Shared}(I:Inv X pins σ H s):interactive X.env=false:=by simp[interactive,I.ok.kind]
def Xb(te:TE):TS:=fun D σ H=>te σ H fun _ H1=>D.nx σ H1
theorem Qy(he:PE X e te)(hs:swapsWith e none pos.line X.env=pure false:=by rfl):PS X (.Expr e pos) (Xb te):=by
 intro pins s σ H D I h
 exact wpAny_Expr_any (dR (he pins s σ H _ I h) fun v s1 ⟨x,H1,I1,r1,q1⟩=>⟨σ,H1,I1,q1⟩) I.quiet hs
def aa5(te:TE):TS:=fun D σ H=>te σ H D.rt
theorem T8(he:PE X e te):PS X (.Return (some e) pos) (aa5 te):=by
 intro pins s σ H D I h
 exact wpAny_Return_some (dR (he pins s σ H _ I h) fun v s1 ⟨x,H1,I1,r1,q1⟩=>⟨x,σ,H1,I1,r1,q1⟩)
def aa9(c:TT)(t u:TS):TS:=fun D σ H=>c σ H fun b H1=>if b=true then t D σ H1 else u D σ H1
theorem XX{c:Expr}{a b:List Stmt}{tc:TT}(hc:PT X c tc)(ha:vU X a t)(hb:vU X b u):PS X (.If c a b pos) (aa9 tc t u):=by
 intro pins s σ H D I h
 refine wpAny_If (dR (hc pins s σ H _ I h) fun d s1 ⟨H1,I1,q1⟩=> ?_)
 cases d with
 | true=>exact ha pins s1 σ H1 D I1 q1
 | false=>exact hb pins s1 σ H1 D I1 q1
end
abbrev TG:=V→St→Hp→(St→Hp→Prop)→Prop
abbrev RV:=List V→St→Hp→(St→Hp→Prop)→Prop
def PG(X:Cx)(target:Expr)(t:TG):Prop:=
 ∀(pins:List (Addr×Obj)) (s:Shared) (σ:St) (H:Hp) (v:V) (u:Value) (Q:St→Hp→Prop),Inv X pins σ H s→RelV v u→t v σ H Q→
  wpAny (model X.prog X.w) X.A (assign target X.env u) (fun _ s'=>∃σ' H',Inv X pins σ' H' s'∧Q σ' H') X.xe s
def Pg(X:Cx)(ts:List Expr)(t:RV):Prop:=
 ∀(pins:List (Addr×Obj)) (s:Shared) (σ:St) (H:Hp) (vs:List V) (us:List Value) (Q:St→Hp→Prop),Inv X pins σ H s→Vals vs us→t vs σ H Q→
  wpAny (model X.prog X.w) X.A (assignInOrder ((assignEach ts X.env).map (·.2)) us) (fun _ s'=>∃σ' H',Inv X pins σ' H' s'∧Q σ' H') X.xe s
abbrev acJ:=V→V→V→Hp→(Hp→Prop)→Prop
def acK(X:Cx)(t:acJ):Prop:=
 ∀(pins:List (Addr×Obj)) (s:Shared) (σ:St) (H:Hp) (o i v:V) (ov iv u:Value) (Q:Hp→Prop),Inv X pins σ H s→RelV o ov→RelV i iv→RelV v u→t o i v H Q→
  wpAny (model X.prog X.w) X.A (setItem ov iv u) (fun _ s'=>∃H',Inv X pins σ H' s'∧Q H') X.xe s
section
variable{X:Cx}{pos:Pos}
def Ib(i:Nat):TG:=fun v σ H Q=>Q (σ.set i (some v)) H
theorem QF{i:Nat}{x:Str}(hN:X.N.Nodup)(hi:X.N[i]? = some x)(hx:Loc X.env.scope x)(hf:X.fn x=true∨X.env.scope.names.lookup x=some .local:=by first | exact .inl rfl | exact .inr rfl | assumption):PG X (.Name x pos) (Ib i):=by
 intro pins s σ H v u Q I r h
 exact wpAny_assign_Name (pB I hN hi hx r (fun s' I'=>⟨_,H,I',h⟩) hf)
def acj:RV:=fun vs σ H Q=>vs=[]∧Q σ H
def YZ(t:TG)(u:RV):RV:=fun vs σ H Q=>∃v r,vs=v::r∧t v σ H fun σ' H'=>u r σ' H' Q
theorem QD:Pg X [] acj:=by
 intro pins s σ H vs us Q I r h
 obtain⟨e,h⟩:=h
 subst e
 cases r
 exact assignInOrder_nil ⟨σ,H,I,h⟩
theorem Ml{e:Expr}{es:List Expr}{t:TG}{u:RV}(h1:PG X e t)(h2:Pg X es u)
  (hs:(assignEach (e::es) X.env).map (·.2)=assign e X.env::(assignEach es X.env).map (·.2):=by rfl):Pg X (e::es) (YZ t u):=by
 intro pins s σ H vs us Q I r h
 obtain⟨v,vr,e1,h⟩:=h
 subst e1
 cases r with
 | cons r rr=>
  rw[hs]
  refine assignInOrder_cons (dR (h1 pins s σ H _ _ _ I r h) fun _ s1 ⟨σ1,H1,I1,q1⟩=> ?_)
  exact h2 pins s1 σ1 H1 _ _ Q I1 rr q1
def aci(K:Frag)(n:Nat)(t:RV):TG:=fun v σ H Q=>∃a xs,v= .ref a∧jX K H a xs∧xs.length=n∧t xs σ H Q
theorem Ub{es:List Expr}{k:Nat}{t:RV}{n:Nat}(hc:X.calm=true)(h:Pg X es t)
  (hn:(assignEach es X.env).length=n:=by rfl) (hst:(assignEach es X.env).findIdx? (·.1)=none:=by rfl):PG X (.Tuple es k pos) (aci X.K n t):=by
 intro pins s σ H v u Q I r hw
 obtain⟨a,xs,e1,hq,hl,hw⟩:=hw
 subst e1
 cases r
 obtain⟨its,rv,ht,hz⟩:=I.tuple hq
 refine assign_Tuple_tuple (I.ok.hd hc) ht (by simp[hn,←hl,rv.length]) hst fun h' hx=> ?_
 have I1:Inv X pins σ H {s with heap:=h'}:=I.kept (t':=s.toks) fun b o e=>hx b o (Nat.ne_of_lt (Heap.lt_size e)) e
 exact h pins _ σ H xs _ Q I1 (by simpa using rv) hw
def S8(te:TE)(g:TG):TS:=fun D σ H=>te σ H fun x H1=>g x σ H1 D.nx
theorem T7{i:Nat}{x:Str}{e:Expr}{te:TE}{pos':Pos}(hN:X.N.Nodup)(hi:X.N[i]? = some x)(hx:Loc X.env.scope x)(he:PE X e te)(hs:swapsWith e (some (.Name x pos')) pos.line X.env=pure false:=by rfl)(hf:X.fn x=true∨X.env.scope.names.lookup x=some .local:=by first | exact .inl rfl | exact .inr rfl | assumption):
  PS X (.Assign [.Name x pos'] e pos) (S8 te (Ib i)):=by
 intro pins s σ H D I h
 refine wpAny_Assign_Name (dR (he pins s σ H _ I h) fun v s1 ⟨y,H1,I1,r1,q1⟩=> ?_) hs
 exact pB I1 hN hi hx r1 (fun s2 I2=>⟨_,H1,I2,q1⟩) hf
end
structure It where
 go:Nat→Hp→Prop
 Ko:Nat→Hp→V→Hp→Prop
 stop:Nat→Hp→Prop
def uL(X:Cx)(pins:List (Addr×Obj))(H:Hp)(b:Addr):Prop:=
 H b=none∧b≠X.env.locals∧b∉X.fs∧(b∈X.ex∨X.s₀.heap.objs.size≤b)∧(∀x c,X.env.cells.lookup x=some c→c≠b)∧∀p∈X.pn++pins,p.1≠b
theorem Inv.Rj{X:Cx}{pins:List (Addr×Obj)}{σ:St}{H H':Hp}{s:Shared}{b:Addr}(I:Inv X pins σ H s)(hb:s.heap.objs.size≤b)(hn:H' b=none):uL X pins H' b:=by
 refine⟨hn,Nat.ne_of_gt (Nat.lt_of_lt_of_le I.lt hb),I.abQ hb,.inr (Nat.le_trans I.sz hb),fun x c e z=> ?_,fun p hp z=> ?_⟩
 ·obtain⟨v,q⟩:=I.cell x c e
  exact absurd (Nat.lt_of_lt_of_le q.lt (by rw[z];exact hb)) (Nat.lt_irrefl _)
 ·exact absurd (Nat.lt_of_lt_of_le (Heap.lt_size (I.pin p hp).1) (by rw[z];exact hb)) (Nat.lt_irrefl _)
structure Turn(P:Program)(w:World)(K:Frag)(tg:Expr)(J:It)(fp:List Addr)(it:Addr)(tn:Nat→Heap→Prop):Prop where
 mem:it∈fp
 obj:∀i h,tn i h→∀b∈fp,∃o,h.get? b=some o∧∀v,o.data≠ .cell v
 keep:∀i h h',tn i h→(∀b∈fp,∀o,h.get? b=some o→h'.get? b=some o)→tn i h'
 item:∀(X:Cx),X.prog=P→X.w=w→X.K=K→X.calm=true→∀(i:Nat) (pins:List (Addr×Obj)) (s:Shared) (σ:St) (H:Hp) (E:Value→Shared→Prop),Inv X pins σ H s→(∀b∈fp,uL X pins H b)→tn i s.heap→J.go i H→
  wpAny (model P w) X.A (pyNext (.ref it)) (fun r s1=>∃u,r=some u∧
   wpAny (model P w) X.A (letOwnedTupleGo tg (.ref it) u) (fun _ s2=>∃x H',Inv X pins σ H' s2∧RelV x u∧J.Ko i H x H'∧tn (i+1) s2.heap∧∀b∈fp,H' b=none) E s1) E s
 done:∀(X:Cx),X.prog=P→X.w=w→X.K=K→X.calm=true→∀(i:Nat) (pins:List (Addr×Obj)) (s:Shared) (σ:St) (H:Hp) (E:Value→Shared→Prop),Inv X pins σ H s→(∀b∈fp,uL X pins H b)→tn i s.heap→J.stop i H→
  wpAny (model P w) X.A (pyNext (.ref it)) (fun r s1=>r=none∧Inv X pins σ H s1) E s
 self:∀(A:Around) (i:Nat) (s:Shared) (Q:Value→Shared→Prop) (E:Value→Shared→Prop),tn i s.heap→Q (.ref it) s→wpAny (model P w) A (pyIter (.ref it)) Q E s
abbrev TI:=St→Hp→(It→Hp→Prop)→Prop
def PIE(X:Cx)(pins:List (Addr×Obj))(σ:St)(tg:Expr)(R:It→Hp→Prop)(itv:Value)(s2:Shared):Prop:=
 ∃(it:Addr) (fp:List Addr) (tn:Nat→Heap→Prop) (J:It) (H':Hp),itv= .ref it∧Inv X pins σ H' s2∧Turn X.prog X.w X.K tg J fp it tn∧tn 0 s2.heap∧(∀b∈fp,uL X pins H' b)∧R J H'
def PI(X:Cx)(tg iter:Expr)(wi:TI):Prop:=
 ∀(pins:List (Addr×Obj)) (s:Shared) (σ:St) (H:Hp) (R:It→Hp→Prop),Inv X pins σ H s→wi σ H R→
  wpAny (model X.prog X.w) X.A (eval iter X.env) (fun v s1=>wpAny (model X.prog X.w) X.A (pyIter v) (PIE X pins σ tg R) X.xe s1) X.xe s
theorem N8{M:Model}{A:Around}{E:Value→Shared→Prop}{s:Shared}{tg:Expr}{it:Addr}{u:Value}{o:Obj}{n:String}{vs:Array Value}{Q:Unit→Shared→Prop}(ho:s.heap.get? it=some o)(hc:o.cls= .type n)(hd:o.data= .fields vs)
  (hn:["enumerate","zip","dict_itemiterator","dict_reverseitemiterator","odict_iterator","itertools.zip_longest","itertools.pairwise"].contains n=false) (hQ:Q () s):wpAny M A (letOwnedTupleGo tg (.ref it) u) Q E s:=by
 unfold letOwnedTupleGo
 cases tg<;>first
  | exact wpAny_pure hQ
  | (cases u<;>first
    | exact wpAny_pure hQ
    | (refine wpAny_bind (wpAny_load ho ?_)
       rw[hc,hd]
       show wpAny M A (if(["enumerate","zip","dict_itemiterator","dict_reverseitemiterator","odict_iterator","itertools.zip_longest","itertools.pairwise"].contains n&&vs[0]? == some (rawInt _))=true then _ else _) Q E s
       rw[if_neg (by intro h;rw[hn,Bool.false_and]at h;cases h)]
       exact wpAny_pure hQ))
def ZK(K:Frag)(a:Addr):It:=
 ⟨fun i H=>∃xs x,mK K H a xs∧xs[i]? = some x,fun i H x H'=>H'=H∧∀xs,mK K H a xs→xs[i]? = some x,fun i H=>∃xs,mK K H a xs∧xs.length≤i⟩
def ZJ(K:Frag)(a:Addr):It:=
 ⟨fun i H=>∃xs x,jX K H a xs∧xs[i]? = some x,fun i H x H'=>H'=H∧∀xs,jX K H a xs→xs[i]? = some x,fun i H=>∃xs,jX K H a xs∧xs.length≤i⟩
def Wu(lo:Int)(n:Nat):It:=⟨fun i _=>i<n,fun i H x H'=>H'=H∧x= .int (lo+i),fun i _=>n≤i⟩
theorem Jb{P:Program}{w:World}{K:Frag}{tg:Expr}(a it:Addr):Turn P w K tg (ZK K a) [it] it (fun i h=>h.IsListIter it a i) where
 mem:=by simp
 obj:=fun i h st b hb=>by
  have e:b=it:=by simpa using hb
  subst e
  obtain⟨o,e,c,d⟩:=st
  exact⟨o,e,fun v z=>by rw[d]at z;cases z⟩
 keep:=fun i h h' st k=>st.at fun o e=>k it (by simp) o e
 item:=by
  intro X hP hw hK hc i pins s σ H E I hf st hg
  subst hP hw hK
  obtain⟨xs,x,hq,hx⟩:=hg
  obtain⟨its,rv,p,hz⟩:=I.list hq
  obtain⟨u,hu,ru⟩:=rv.get hx
  obtain⟨f0,f1,f2,f3,f4,f5⟩:=hf it (by simp)
  refine wpAny_pyNext_list_item st p.isList (x:=u) (by simpa using hu) fun h' st' sb=> ?_
  have I1:Inv X pins σ H {s with heap:=h'}:=I.turned (t':=s.toks) (fun b o hb e=>(sb.2 b hb).trans e) f0 f1 f3 f4 f5
  obtain⟨o,e,c,d⟩:=id st'
  exact⟨u,rfl,N8 (s:={s with heap:=h'}) e c d (by decide) ⟨x,H,I1,ru,⟨rfl,fun ys hy=>by rw[I.xj hy hq];exact hx⟩,st',fun b hb=>(hf b hb).1⟩⟩
 done:=by
  intro X hP hw hK hc i pins s σ H E I hf st hg
  subst hP hw hK
  obtain⟨xs,hq,hx⟩:=hg
  obtain⟨its,rv,p,hz⟩:=I.list hq
  obtain⟨f0,f1,f2,f3,f4,f5⟩:=hf it (by simp)
  have hl:=rv.length
  exact wpAny_pyNext_list_end (I.ok.hd hc) st p.isList (by simp;omega) fun h' eb=>⟨rfl,I.turned (t':=s.toks) (fun b o hb e=>eb b o hb e) f0 f1 f3 f4 f5⟩
 self:=fun _ _ _ _ _ st h=>wpAny_pyIter_listiter st h
theorem En{P:Program}{w:World}{K:Frag}{tg:Expr}(a it:Addr):Turn P w K tg (ZJ K a) [it] it (fun i h=>h.IsTupleIter it a i) where
 mem:=by simp
 obj:=fun i h st b hb=>by
  have e:b=it:=by simpa using hb
  subst e
  obtain⟨o,e,c,d⟩:=st
  exact⟨o,e,fun v z=>by rw[d]at z;cases z⟩
 keep:=fun i h h' st k=>st.at fun o e=>k it (by simp) o e
 item:=by
  intro X hP hw hK hc i pins s σ H E I hf st hg
  subst hP hw hK
  obtain⟨xs,x,hq,hx⟩:=hg
  obtain⟨its,rv,p,hz⟩:=I.tuple hq
  obtain⟨u,hu,ru⟩:=rv.get hx
  obtain⟨f0,f1,f2,f3,f4,f5⟩:=hf it (by simp)
  refine wpAny_pyNext_tuple_item st (show s.heap.IsTuple a its.toArray from p) (x:=u) (by simpa using hu) fun h' st' sb=> ?_
  have I1:Inv X pins σ H {s with heap:=h'}:=I.turned (t':=s.toks) (fun b o hb e=>(sb.2 b hb).trans e) f0 f1 f3 f4 f5
  obtain⟨o,e,c,d⟩:=id st'
  exact⟨u,rfl,N8 (s:={s with heap:=h'}) e c d (by decide) ⟨x,H,I1,ru,⟨rfl,fun ys hy=>by rw[I.ue hy hq];exact hx⟩,st',fun b hb=>(hf b hb).1⟩⟩
 done:=by
  intro X hP hw hK hc i pins s σ H E I hf st hg
  subst hP hw hK
  obtain⟨xs,hq,hx⟩:=hg
  obtain⟨its,rv,p,hz⟩:=I.tuple hq
  obtain⟨f0,f1,f2,f3,f4,f5⟩:=hf it (by simp)
  have hl:=rv.length
  exact wpAny_pyNext_tuple_end (I.ok.hd hc) st (show s.heap.IsTuple a its.toArray from p) (by simp;omega) fun h' eb=>⟨rfl,I.turned (t':=s.toks) (fun b o hb e=>eb b o hb e) f0 f1 f3 f4 f5⟩
 self:=fun _ _ _ _ _ st h=>wpAny_pyIter_tupleiter st h
theorem Eo{P:Program}{w:World}{K:Frag}{tg:Expr}(it:Addr)(lo:Int)(n:Nat):Turn P w K tg (Wu lo n) [it] it (fun i h=>IsRangeIter h it (lo+(i:Nat)*1) ((n:Int) - (i:Nat)) 1) where
 mem:=by simp
 obj:=fun i h st b hb=>by
  have e:b=it:=by simpa using hb
  subst e
  exact⟨_,st,fun v z=>by
   have z':Data.fields _=Data.cell v:=z
   cases z'⟩
 keep:=fun i h h' st k=>k it (by simp) _ st
 item:=by
  intro X hP hw hK hc i pins s σ H E I hf st hg
  subst hP hw hK
  obtain⟨f0,f1,f2,f3,f4,f5⟩:=hf it (by simp)
  have W:=Walks.range (prog:=X.prog) (w:=X.w) (I.ok.hd hc) it lo 1 n
  refine W.item i s _ _ hg st fun v h' tk hv st' kk=> ?_
  obtain⟨t,rfl⟩:=hv
  have I1:Inv X pins σ H {s with heap:=h',toks:=tk}:=I.turned (fun b o hb e=>kk b o (by simpa using hb) e) f0 f1 f3 f4 f5
  refine⟨_,rfl,N8 (s:={s with heap:=h',toks:=tk}) (n:= "range_iterator") st' rfl rfl (by decide) ⟨.int (lo+i),H,I1,⟨t,?_⟩,⟨rfl,rfl⟩,st',fun b hb=>(hf b hb).1⟩⟩
  rw[Int.mul_one]
 done:=by
  intro X hP hw hK hc i pins s σ H E I hf st hg
  subst hP hw hK
  obtain⟨f0,f1,f2,f3,f4,f5⟩:=hf it (by simp)
  exact wpAny_pyNext_range_end (I.ok.hd hc) st (by have:n≤i:=hg;omega) fun h' eb=>⟨rfl,I.turned (t':=s.toks) (fun b o hb e=>eb b o hb e) f0 f1 f3 f4 f5⟩
 self:=fun _ _ _ _ _ st h=>wpAny_pyIter_rangeiter st h
section
variable{X:Cx}{tg:Expr}
theorem LQ{pins:List (Addr×Obj)}{σ:St}{H:Hp}{s:Shared}{R:It→Hp→Prop}{E:Value→Shared→Prop}{lo hi:Int}{t u v:Tok}{tk:Nat}(I:Inv X pins σ H s)(h1: -(2 ^ 62)≤lo)(h2:lo<2 ^ 62)(h3: -(2 ^ 62)≤hi)(h4:hi<2 ^ 62)
  (q:R (Wu lo (hi - lo).toNat) H):wpAny (model X.prog X.w) X.A (pyIter (.ref s.heap.objs.size)) (PIE X pins σ tg R) E {s with heap:=s.heap.push {cls:= .type "range",data:= .fields #[.int lo t,.int hi u,.int 1 v]},toks:=tk}:=by
 refine wpAny_pyIter_range (IsRange.new ..) (small_one h1 h2 h3 h4) ?_
 have I1:Inv X pins σ H {s with heap:=s.heap.push {cls:= .type "range",data:= .fields #[.int lo t,.int hi u,.int 1 v]},toks:=tk}:=I.kept fun b o e=>Heap.get?_push_of_some _ e
 refine⟨(s.heap.push {cls:= .type "range",data:= .fields #[.int lo t,.int hi u,.int 1 v]}).objs.size,[(s.heap.push {cls:= .type "range",data:= .fields #[.int lo t,.int hi u,.int 1 v]}).objs.size],_,_,H,rfl,
  I1.kept (t':=tk) fun b o e=>Heap.get?_push_of_some _ e,Eo _ lo (hi - lo).toNat,?_,fun b hb=> ?_,q⟩
 ·have e1:lo+((0:Nat):Int)*1=lo:=by simp
  have e2:(((hi - lo).toNat:Nat):Int) - ((0:Nat):Int)=Builtin.Range.rangeSize lo hi 1:=by rw[rangeSize_one];split<;>omega
  show IsRangeIter _ _ (lo+((0:Nat):Int)*1) ((((hi - lo).toNat:Nat):Int) - ((0:Nat):Int)) 1
  rw[e1,e2]
  exact Heap.get?_push_size _ rfl
 ·have e:b=(s.heap.push {cls:= .type "range",data:= .fields #[.int lo t,.int hi u,.int 1 v]}).objs.size:=by simpa using hb
  subst e
  exact I1.Rj (Nat.le_refl _) (I1.hok.fresh (Nat.le_refl _))
def YM(ta:TA):TI:=fun σ H R=>ta σ H fun vs H1=>∃j:Int,vs=[.int j]∧ -(2 ^ 62)≤j∧j<2 ^ 62∧R (Wu 0 j.toNat) H1
theorem Jo{a:Expr}{ta:TA}{p pos:Pos}(hg:Gl X "range")(hm:X.mg "range" = none)(ha:PA X [a] ta)(hs:starEach [a] X.env=[(false,eval a X.env)]:=by rfl):PI X tg (.Call (.Name "range" p) [a] [] pos) (YM ta):=by
 intro pins s σ H R I h
 refine Call_ (Aj I hg hm boot_range (PyProof.Rows.callWith_type1 (dR (ha pos pins s σ H _ I h) fun us s1 ⟨vs,H1,I1,r1,q1⟩=> ?_) hs rfl))
 obtain⟨j,e,q1,q2,q⟩:=q1
 subst e
 cases r1 with
 | cons r rr=>
  cases rr
  obtain⟨t,rfl⟩:=r
  exact call_range_1 (LQ I1 (by omega) (by omega) q1 q2 (by simpa using q))
def aa_(wi:TI)(g:TG)(tb:TS):TS:=fun D σ H=>wi σ H fun J H1=>∃W:Nat→Nat→St→Hp→Prop,(∃m,W 0 m σ H1)∧∀i m σ H,W i m σ H→
 (J.stop i H∧D.nx σ H)∨(J.go i H∧∃N:St→Hp→Prop,(∀σ' H',N σ' H'→∃m',m'<m∧W (i+1) m' σ' H')∧∀x H',J.Ko i H x H'→g x σ H' fun σ2 H2=>tb {D with nx:=N,ct:=N,bk:=D.nx} σ2 H2)
def wM(fp:List Addr)(h:Heap):List (Addr×Obj):=fp.filterMap fun b=>(h.get? b).map fun o=>(b,o)
theorem nP{fp:List Addr}{h:Heap}{b:Addr}{o:Obj}(hb:b∈fp)(e:h.get? b=some o):(b,o)∈wM fp h:=List.mem_filterMap.mpr ⟨b,hb,by rw[e];rfl⟩
theorem Ju{fp:List Addr}{h:Heap}{p:Addr×Obj}(hp:p∈wM fp h):p.1∈fp∧h.get? p.1=some p.2:=by
 obtain⟨b,hb,e⟩:=List.mem_filterMap.mp hp
 cases q:h.get? b with
 | none=>rw[q]at e;cases e
 | some o=>
  rw[q]at e
  have e':(b,o)=p:=Option.some.inj e
  subst e'
  exact⟨hb,q⟩
theorem Inv.pinned{pins:List (Addr×Obj)}{σ:St}{H:Hp}{s:Shared}{fp:List Addr}(I:Inv X pins σ H s)(hf:∀b∈fp,uL X pins H b)(ho:∀b∈fp,∃o,s.heap.get? b=some o∧∀v,o.data≠ .cell v):Inv X (pins++wM fp s.heap) σ H s:=
 I.sY fun p hp=>(List.mem_append.mp hp).elim (fun z=>I.pin p (List.mem_append_right _ z)) fun z=>by
  obtain⟨hb,e⟩:=Ju z
  obtain⟨f0,f1,f2,_⟩:=hf p.1 hb
  obtain⟨o,e',d⟩:=ho p.1 hb
  rw[e]at e';cases e'
  exact⟨e,f0,f1,f2,d⟩
theorem Inv.sG{pins pl:List (Addr×Obj)}{σ:St}{H:Hp}{s:Shared}(I:Inv X (pins++pl) σ H s):Inv X pins σ H s:=I.sY fun p hp=>I.pin p (List.mem_append_right _ (List.mem_append_left _ hp))
theorem T9{iter:Expr}{body:List Stmt}{wi:TI}{g:TG}{tb:TS}{pos:Pos}(hp:PassesOwn (model X.prog X.w) X.A X.env X.xe)(hc:X.calm=true)(hi:PI X tg iter wi)(hg:PG X tg g)(hb:vU X body tb)
  (hs:∀x,foldedSetIterable iter X.env x=pure x:=by intro _;rfl):PS X (.For tg iter body [] pos) (aa_ wi g tb):=by
 intro pins s σ H D I h
 refine wpAny_For (dR (hi pins s σ H _ I h) fun v s1 h1=>dR h1 fun itv s2 h2=> ?_) hs
 obtain⟨it,fp,tn,J,H2,e,I2,T,st2,f2,W,⟨m0,w0⟩,turn⟩:=h2
 subst e
 have stat:∀{H':Hp},(∀b∈fp,H' b=none)→∀b∈fp,uL X pins H' b:=fun hn b hb=>⟨hn b hb,(f2 b hb).2⟩
 refine codeAny_forLoop_any (fun n s'=>∃i σ' H',Inv X pins σ' H' s'∧tn i s'.heap∧(∀b∈fp,H' b=none)∧W i n σ' H') ?_ m0 ⟨0,σ,H2,I2,st2,fun b hb=>(f2 b hb).1,w0⟩
 rintro n s3 ⟨i,σ3,H3,I3,st3,Y4,w3⟩
 rcases turn i n σ3 H3 w3 with⟨stop,qn⟩ | ⟨go,N,hN,step⟩
 ·refine wpAny_passesOwn hp (dR (T.done X rfl rfl rfl hc i pins s3 σ3 H3 X.xe I3 (stat Y4) st3 stop) fun r s4 ⟨hr,I4⟩=> ?_)
  subst hr
  exact wpAny_execs_nil ⟨σ3,H3,I4,qn⟩
 ·refine wpAny_passesOwn hp (dR (T.item X rfl rfl rfl hc i pins s3 σ3 H3 X.xe I3 (stat Y4) st3 go) fun r s4 ⟨u,hr,h4⟩=> ?_)
  subst hr
  refine wpAny_passesOwn hp (dR h4 fun _ s5 ⟨x,H5,I5,r5,y5,R6,fr5⟩=> ?_)
  have I5':=I5.pinned (stat fr5) (T.obj _ _ R6)
  refine wpAny_passesOwn hp (dR (hg _ s5 σ3 H5 x u _ I5' r5 (step x H5 y5)) fun _ s6 ⟨σ6,H6,I6,q6⟩=> ?_)
  refine wpAny_passesOwn hp (dR (hb _ s6 σ6 H6 _ I6 q6) fun f s7 q7=> ?_)
  have again:∀{Kg:St} {H7:Hp},Inv X (pins++wM fp s5.heap) Kg H7 s7→N Kg H7→∃m,m<n∧∃i σ' H',Inv X pins σ' H' s7∧tn i s7.heap∧(∀b∈fp,H' b=none)∧W i m σ' H':=fun{Kg H7} I7 n7=>by
   obtain⟨m',hm,w7⟩:=hN Kg H7 n7
   refine⟨m',hm,i+1,Kg,H7,I7.sG,T.keep _ _ _ R6 fun b hb o e=>(I7.pin (b,o) (List.mem_append_right _ (List.mem_append_right _ (nP hb e)))).1,fun b hb=> ?_,w7⟩
   obtain⟨o,e,d⟩:=T.obj _ _ R6 b hb
   exact(I7.pin (b,o) (List.mem_append_right _ (List.mem_append_right _ (nP hb e)))).2.1
  cases f with
  | next=>obtain⟨Kg,H7,I7,n7⟩:=q7;exact again I7 n7
  | cont=>obtain⟨Kg,H7,I7,n7⟩:=q7;exact again I7 n7
  | brk=>obtain⟨Kg,H7,I7,q7⟩:=q7;exact⟨Kg,H7,I7.sG,q7⟩
  | ret v=>obtain⟨x7,Kg,H7,I7,r7,q7⟩:=q7;exact⟨x7,Kg,H7,I7.sG,r7,q7⟩
end
abbrev R2:=V→V→Hp→VK→Prop
def qe(X:Cx)(f:Value→Value→Sem Value)(r:R2):Prop:=
 ∀(pins:List (Addr×Obj)) (s:Shared) (σ:St) (H:Hp) (x y:V) (v u:Value) (Q:VK),Inv X pins σ H s→RelV x v→RelV y u→r x y H Q→
  wpAny (model X.prog X.w) X.A (f v u) (EP X pins σ Q) X.xe s
def UnR(X:Cx)(f:Value→Sem Value)(r:V→Hp→VK→Prop):Prop:=
 ∀(pins:List (Addr×Obj)) (s:Shared) (σ:St) (H:Hp) (x:V) (v:Value) (Q:VK),Inv X pins σ H s→RelV x v→r x H Q→
  wpAny (model X.prog X.w) X.A (f v) (EP X pins σ Q) X.xe s
def kE(X:Cx)(f:Value)(r:List V→Hp→VK→Prop):Prop:=
 ∀(pins:List (Addr×Obj)) (s:Shared) (σ:St) (H:Hp) (xs:List V) (us:List Value) (Q:VK),Inv X pins σ H s→Vals xs us→r xs H Q→
  wpAny (model X.prog X.w) X.A (call f us) (EP X pins σ Q) X.xe s
def W7(r:R2)(ta tb:TE):TE:=fun σ H Q=>ta σ H fun x H1=>tb σ H1 fun y H2=>r x y H2 Q
def tUn(r:V→Hp→VK→Prop)(ta:TE):TE:=fun σ H Q=>ta σ H fun x H1=>r x H1 Q
def rI(C:Int→Int→Prop)(g:Int→Int→V):R2:=fun x y H Q=>∃i j,x= .int i∧y= .int j∧C i j∧Q (g i j) H
def Qm(g:Int→Int→V):R2:=fun x y H Q=>∃i j,x= .int i∧y= .int j∧Q (g i j) H
def rU(g:Int→V):V→Hp→VK→Prop:=fun x H Q=>∃i,x= .int i∧Q (g i) H
section
variable{X:Cx}{a b c:Expr}{ta tb tc:TE}{pos:Pos}
theorem V2(ha:PE X a ta)(hb:PE X b tb){pins:List (Addr×Obj)}{s:Shared}{σ:St}{H:Hp}{R:V→V→Hp→Prop}(I:Inv X pins σ H s)
  (h:ta σ H fun x H1=>tb σ H1 fun y H2=>R x y H2) {Q:Value→Shared→Prop} {f:Value→Value→Sem Value}
  (hf:∀v u s2 x y H2,Inv X pins σ H2 s2→RelV x v→RelV y u→R x y H2→wpAny (model X.prog X.w) X.A (f v u) Q X.xe s2):
  wpAny (model X.prog X.w) X.A (eval a X.env) (fun v s₁=>wpAny (model X.prog X.w) X.A (eval b X.env) (fun u s₂=>wpAny (model X.prog X.w) X.A (f v u) Q X.xe s₂) X.xe s₁) X.xe s:=by
 refine dR (ha pins s σ H _ I h) fun v s1 ⟨x,H1,I1,r1,q1⟩=> ?_
 refine dR (hb pins s1 σ H1 _ I1 q1) fun u s2 ⟨y,H2,I2,r2,q2⟩=> ?_
 exact hf v u s2 x y H2 I2 r1 r2 q2
theorem Yc{op:Operator}{r:R2}(ho:qe X (binaryOp op) r)(ha:PE X a ta)(hb:PE X b tb):PE X (.BinOp a op b pos) (W7 r ta tb):=by
 intro pins s σ H Q I h
 exact wpAny_BinOp (V2 ha hb I h fun v u s2 x y H2 I2 rx ry q=>ho pins s2 σ H2 x y v u Q I2 rx ry q)
theorem X_{op:UnaryOp}{r:V→Hp→VK→Prop}(ho:UnR X (unaryOp op) r)(ha:PE X a ta):PE X (.UnaryOp op a pos) (tUn r ta):=by
 intro pins s σ H Q I h
 exact UnaryOp_ (dR (ha pins s σ H _ I h) fun v s1 ⟨x,H1,I1,r1,q1⟩=>ho pins s1 σ H1 x v Q I1 r1 q1)
theorem Yl{f:Value→Value→Sem Value}{C:Int→Int→Prop}{g:Int→Int→Int}
  (rule:∀(i j:Int) (t u:Tok) (s:Shared) (Q:Value→Shared→Prop) (E:Value→Shared→Prop),C i j→Q (.int (g i j) s.toks) {s with toks:=s.toks+1}→wpAny (model X.prog X.w) X.A (f (.int i t) (.int j u)) Q E s):
  qe X f (rI C fun i j=> .int (g i j)):=by
 intro pins s σ H x y v u Q I rx ry h
 obtain⟨i,j,rfl,rfl,hc,q⟩:=h
 obtain⟨t,rfl⟩:=rx
 obtain⟨t',rfl⟩:=ry
 exact rule i j t t' s _ _ hc ⟨.int (g i j),H,I.tok _,⟨_,rfl⟩,q⟩
theorem Yk{f:Value→Value→Sem Value}{g:Int→Int→Int}
  (rule:∀(i j:Int) (t u:Tok) (s:Shared) (Q:Value→Shared→Prop) (E:Value→Shared→Prop),Q (.int (g i j) s.toks) {s with toks:=s.toks+1}→wpAny (model X.prog X.w) X.A (f (.int i t) (.int j u)) Q E s):
  qe X f (Qm fun i j=> .int (g i j)):=by
 intro pins s σ H x y v u Q I rx ry h
 obtain⟨i,j,rfl,rfl,q⟩:=h
 obtain⟨t,rfl⟩:=rx
 obtain⟨t',rfl⟩:=ry
 exact rule i j t t' s _ _ ⟨.int (g i j),H,I.tok _,⟨_,rfl⟩,q⟩
theorem U4{f:Value→Value→Sem Value}{g:Int→Int→Bool}
  (rule:∀(i j:Int) (t u:Tok) (s:Shared) (Q:Value→Shared→Prop) (E:Value→Shared→Prop),Q (.bool (g i j)) s→wpAny (model X.prog X.w) X.A (f (.int i t) (.int j u)) Q E s):
  qe X f (Qm fun i j=> .bl (g i j)):=by
 intro pins s σ H x y v u Q I rx ry h
 obtain⟨i,j,rfl,rfl,q⟩:=h
 obtain⟨t,rfl⟩:=rx
 obtain⟨t',rfl⟩:=ry
 exact rule i j t t' s _ _ ⟨.bl (g i j),H,I,rfl,q⟩
def acQ(i j:Int):Prop:=0<j∧j<1073741824
def acP(i j:Int):Prop:=0≤j∧j≤1000000∧i.natAbs<2 ^ 64
def Wb(i j:Int):Prop:=(-(2 ^ 64)<i∧i<2 ^ 64)∨(-(2 ^ 64)<j∧j<2 ^ 64)
theorem Wb.ok{i j:Int}(h:Wb i j):IntMulOk i j:=by
 rcases h with⟨h1,h2⟩ | ⟨h1,h2⟩
 ·exact .of_left (intBits_le_64 h1 h2)
 ·exact .of_right (intBits_le_64 h1 h2)
theorem Em(k:Nat):(0:Int)≤2 ^ k:=by
 rw[two_pow_cast]
 exact Int.natCast_nonneg _
theorem U3:qe X (binaryOp .Add) (Qm fun i j=> .int (i+j)):=Yk fun _ _ _ _ _ _ _ q=>add_int q
theorem Uz:qe X (binaryOp .Mult) (rI Wb fun i j=> .int (i*j)):=Yl fun _ _ _ _ _ _ _ hc q=>mul_int q hc.ok
theorem QM:qe X (binaryOp .FloorDiv) (rI acQ fun i j=> .int (i / j)):=Yl fun i j _ _ _ _ _ hc q=>by
 have h1:(0:Int)<j:=hc.1
 have h2:j<1073741824:=hc.2
 exact floordiv_int (by omega) (by rw[Int.fdiv_eq_ediv_of_nonneg i (by omega)];exact q) (.inl (PyProof.noPylong_small (by omega)))
theorem UG:qe X (binaryOp .Mod) (rI (fun _ j=>0<j) fun i j=> .int (i % j)):=Yl fun i j _ _ _ _ _ hc q=>by
 have h1:(0:Int)<j:=hc
 exact mod_int' (by omega) (by rw[Int.fmod_eq_emod_of_nonneg i (by omega)];exact q)
theorem Ux:qe X (binaryOp .LShift) (rI acP fun i j=> .int (i*2 ^ j.toNat)):=Yl fun _ _ _ _ _ _ _ hc q=>lshift_int_small hc.1 hc.2.1 hc.2.2 q
theorem Uw:qe X (binaryOp .RShift) (rI (fun _ j=>0≤j) fun i j=> .int (i / 2 ^ j.toNat)):=Yl fun i j _ _ _ _ _ hc q=>
 rshift_int hc (by rw[Int.fdiv_eq_ediv_of_nonneg i (Em _)];exact q)
theorem U0:qe X (binaryOp .BitAnd) (Qm fun i j=> .int (Builtin.bitAnd i j)):=Yk fun _ _ _ _ _ _ _ q=>and_int q
theorem unI{f:Value→Sem Value}{g:Int→Int}
  (rule:∀(i:Int) (t:Tok) (s:Shared) (Q:Value→Shared→Prop) (E:Value→Shared→Prop),Q (.int (g i) s.toks) {s with toks:=s.toks+1}→wpAny (model X.prog X.w) X.A (f (.int i t)) Q E s):
  UnR X f (rU fun i=> .int (g i)):=by
 intro pins s σ H x v Q I rx h
 obtain⟨i,rfl,q⟩:=h
 obtain⟨t,rfl⟩:=rx
 exact rule i t s _ _ ⟨.int (g i),H,I.tok _,⟨_,rfl⟩,q⟩
theorem S6:UnR X (unaryOp .USub) (rU fun i=> .int (-i)):=unI fun _ _ _ _ _ q=>neg_int q
end
section
variable{X:Cx}{a b c:Expr}{ta tb tc:TE}{pos:Pos}
theorem Gd{pins:List (Addr×Obj)}{σ:St}{H:Hp}{s:Shared}{Q:VK}{k k':Bool}(I:Inv X pins σ H s)(q:Q (.bl k) H)(e:k=k'):EP X pins σ Q (.bool k') s:=by
 subst e
 exact⟨.bl k,H,I,rfl,q⟩
theorem Yh:qe X (compareOp .Lt) (Qm fun i j=> .bl (decide (i<j))):=U4 fun _ _ _ _ _ _ _ q=>lt_int q
theorem Yi:qe X (compareOp .Gt) (Qm fun i j=> .bl (decide (j<i))):=U4 fun _ _ _ _ _ _ _ q=>gt_int q
theorem Yj:qe X (compareOp .GtE) (Qm fun i j=> .bl (decide (j≤i))):=U4 fun _ _ _ _ _ _ _ q=>ge_int q
theorem Jr:qe X (compareOp .Lt) (fun x y H Q=>∃i j,x= .str i∧y= .str j∧Q (.bl (decide (i.cps.toList<j.cps.toList))) H):=by
 intro pins s σ H x y v u Q I rx ry h
 obtain⟨i,j,rfl,rfl,q⟩:=h
 obtain⟨t,rfl⟩:=rx
 obtain⟨t',rfl⟩:=ry
 exact lt_str (Gd I q rfl)
theorem UL:qe X (compareOp .Is) (fun x y H Q=>y= .non∧Q (.bl (decide (x= .non))) H):=by
 intro pins s σ H x y v u Q I rx ry h
 obtain⟨rfl,q⟩:=h
 cases ry
 refine is_none_gen (Gd I q ?_)
 cases x<;>first
  | (cases rx;rfl)
  | (obtain⟨t,rfl⟩:=rx;rfl)
theorem QL:qe X (compareOp .IsNot) (fun x y H Q=>y= .non∧Q (.bl (!decide (x= .non))) H):=by
 intro pins s σ H x y v u Q I rx ry h
 obtain⟨rfl,q⟩:=h
 cases ry
 refine isnot_none_gen (Gd I q ?_)
 cases x<;>first
  | (cases rx;rfl)
  | (obtain⟨t,rfl⟩:=rx;rfl)
theorem qe.or{f:Value→Value→Sem Value}{r r':R2}(h:qe X f r)(h':qe X f r'):qe X f (fun x y H Q=>r x y H Q∨r' x y H Q):=by
 intro pins s σ H x y v u Q I rx ry q
 rcases q with q | q
 ·exact h pins s σ H x y v u Q I rx ry q
 ·exact h' pins s σ H x y v u Q I rx ry q
theorem bC(b:Expr){op:CmpOp}(h:op≠ .In:=by decide)(h2:op≠ .NotIn:=by decide):behindInMarks op b=false:=by
 have e1:(op==CmpOp.In)=false:=by cases op<;>first | rfl | exact absurd rfl h
 have e2:(op==CmpOp.NotIn)=false:=by cases op<;>first | rfl | exact absurd rfl h2
 cases b<;>simp[behindInMarks,e1,e2]
theorem QH{op:CmpOp}{r:R2}(ho:qe X (compareOp op) r)(ha:PE X a ta)(hb:PE X b tb)(hm:behindInMarks op b=false):PE X (.Compare a [op] [b] pos) (W7 r ta tb):=by
 intro pins s σ H Q I h
 exact wpAny_Compare1 (V2 ha hb I h fun v u s2 x y H2 I2 rx ry q=>ho pins s2 σ H2 x y v u Q I2 rx ry q) hm
def R4(t:TE):TT:=fun σ H Q=>t σ H fun x H'=>∃k,x= .bl k∧Q k H'
theorem Qt{op:CmpOp}{r:R2}(ho:qe X (compareOp op) r)(ha:PE X a ta)(hb:PE X b tb)(hm:behindInMarks op b=false):PT X (.Compare a [op] [b] pos) (R4 (W7 r ta tb)):=by
 intro pins s σ H Q I h
 refine wpAny_isTrue_Compare1 (dR (ha pins s σ H _ I h) fun v s1 ⟨x,H1,I1,r1,q1⟩=>dR (hb pins s1 σ H1 _ I1 q1) fun u s2 ⟨y,H2,I2,r2,q2⟩=>
  dR (ho pins s2 σ H2 x y v u _ I2 r1 r2 q2) fun c s3 ⟨z,H3,I3,r3,k,e,q3⟩=> ?_) hm
 subst e
 cases r3
 exact wpAny_truthy_bool ⟨H3,I3,q3⟩
theorem ux:(sizeLine:Nat)<2 ^ 63:=by rw[sizeLine_eq];decide
theorem Ff:qe X (binaryOp .Add) (fun x y H Q=>∃i j,x= .str i∧y= .str j∧i.length+j.length≤sizeLine∧Q (.str (i++j)) H):=by
 intro pins s σ H x y v u Q I rx ry h
 obtain⟨i,j,rfl,rfl,hz,q⟩:=h
 obtain⟨t,rfl⟩:=rx
 obtain⟨t',rfl⟩:=ry
 exact add_str (fun t' tk=>⟨.str (i++j),H,I.tok _,⟨_,rfl⟩,q⟩) hz
theorem vals1{x:V}{us:List Value}(r:Vals [x] us):∃u,us=[u]∧RelV x u:=by
 cases r with
 | cons r1 r2=>cases r2;exact⟨_,rfl,r1⟩
theorem vals2{x y:V}{us:List Value}(r:Vals [x,y] us):∃u w',us=[u,w']∧RelV x u∧RelV y w':=by
 cases r with
 | cons r1 r2=>
  cases r2 with
  | cons r3 r4=>cases r4;exact⟨_,_,rfl,r1,r3⟩
theorem J4(hc:X.calm=true):kE X (.builtin "max") (fun xs H Q=>∃i j,xs=[.int i,.int j]∧Q (.int (if j > i then j else i)) H):=by
 intro pins s σ H xs us Q I r h
 obtain⟨i,j,rfl,q⟩:=h
 obtain⟨u,w',rfl,⟨t,rfl⟩,⟨t',rfl⟩⟩:=vals2 r
 refine max_two_ints (I.ok.hd hc) fun h' tk k=>⟨_,H,I.kept k,?_,q⟩
 by_cases hj:j > i
 ·rw[if_pos hj,if_pos hj];exact⟨_,rfl⟩
 ·rw[if_neg hj,if_neg hj];exact⟨_,rfl⟩
theorem J3(hc:X.calm=true):kE X (.builtin "min") (fun xs H Q=>∃i j,xs=[.int i,.int j]∧Q (.int (if j<i then j else i)) H):=by
 intro pins s σ H xs us Q I r h
 obtain⟨i,j,rfl,q⟩:=h
 obtain⟨u,w',rfl,⟨t,rfl⟩,⟨t',rfl⟩⟩:=vals2 r
 refine min_two_ints (I.ok.hd hc) fun h' tk k=>⟨_,H,I.kept k,?_,q⟩
 by_cases hj:j<i
 ·rw[if_pos hj,if_pos hj];exact⟨_,rfl⟩
 ·rw[if_neg hj,if_neg hj];exact⟨_,rfl⟩
end
structure Gy(h:Heap)(x dx C:Addr)(mA:Str→Option Value):Prop where
 obj:h.get? x=some (PySem.W.instObj C dx)
 ns:h.Ns1 dx mA
 ne:dx≠x
theorem uw{h:Heap}{dx:Addr}{mA:Str→Option Value}(n:h.Ns1 dx mA):∃od,h.get? dx=some od∧∀name,PySem.W.lookIn name od=some (mA name):=by
 obtain⟨o,es,ep,ho,hd,hk,_,hm⟩:=n
 refine⟨o,ho,fun name=> ?_⟩
 have e:=hm name
 unfold nsFind findBy at e
 rw[←Array.find?_toList]at e
 unfold PySem.W.lookIn
 rw[hd]
 dsimp only
 split
 ·rename_i y q
  rw[q]at e
  exact congrArg some e
 ·rename_i q
  rw[q]at e
  have a:es.toList.any (·.refKey)=false:=by
   rw[List.any_eq_false]
   intro y hy
   obtain⟨z,t,hkey⟩:=hk y (Array.mem_toList_iff.mp hy)
   simp[DictEntry.refKey,hkey]
  have a':¬es.toList.any (·.refKey)=true:=by rw[a];exact Bool.false_ne_true
  rw[if_neg a']
  exact congrArg some e
theorem Gy.look{h:Heap}{x dx C:Addr}{mA:Str→Option Value}(I:Gy h x dx C mA):∃od,PySem.W.InstAt h x (PySem.W.instObj C dx) C (some od)∧∀name,PySem.W.lookIn name od=some (mA name):=
 let⟨od,ho,hl⟩:=uw I.ns
 ⟨od,⟨I.obj,rfl,rfl,ho⟩,hl⟩
section
variable{prog:Program}{w:World}{A:Around}{E:Value→Shared→Prop}{s:Shared}{K:Frag}{x dx C f:Addr}{mA:Str→Option Value}{name:Str}{v:Value}
theorem get_map{expr:Bool}{Q:Value→Shared→Prop}(X:K.In s.heap)(I:Gy s.heap x dx C mA)(hg:PySem.W.plainGet K C name=true)(hh:PySem.W.hasDictIn K C=true)
  (ha:findIn K (.ref C) name=some none) (hv:mA name=some v) (hv':PySem.W.handedIn v=true) (h:Q v {s with toks:=s.toks+1}):
  wpAny (model prog w) A (getAttr (.ref x) name expr) Q E s:=by
 obtain⟨od,J,hl⟩:=I.look
 exact PySem.W.get_value X J (PySem.W.plainGet_of hg).1 (PySem.W.findObj_own hh ha rfl (by rw[hl,hv])) hv' h
theorem N_{pl:Sem Bool}{Q:Value×List Value→Shared→Prop}(X:K.In s.heap)(I:Gy s.heap x dx C mA)(hg:PySem.W.plainGet K C name=true)
  (hf:findIn K (.ref C) name=some (some (.ref f))) (ht:isFn K (.ref f)=true) (hv:mA name=none) (h:Q (.ref f,[.ref x]) s):
  wpAny (model prog w) A (getMethod (.ref x) name pl) Q E s:=by
 obtain⟨od,J,hl⟩:=I.look
 exact PySem.W.method_fn X J (PySem.W.plainGet_of hg).1 (PySem.W.plainGet_of hg).2 hf (beq_iff_eq.mp ht) (by show(PySem.W.lookIn name od).map (·.isSome)=some false;rw[hl,hv];rfl) h
theorem PN{ns:List Str}{Q:Unit→Shared→Prop}(X:K.In s.heap)(I:Gy s.heap x dx C mA)
  (hs:findIn K (.ref C) "__setattr__" = some (some (.builtin "object.__setattr__"))) (hp:PySem.W.plainOver K C=true) (ht:PySem.W.takerIn K C name=some none) (hh:PySem.W.hasDictIn K C=true)
  (hw:PySem.Within mA ns) (hsz:ns.length≤sizeLine)
  (h:∀h',Gy h' x dx C (fun y=>if y=name then some v else mA y)→Heap.SameBut dx s.heap h'→Q () {s with heap:=h',toks:=s.toks+2}):
  wpAny (model prog w) A (setAttr (.ref x) name v) Q E s:=by
 obtain⟨od,J,hl⟩:=I.look
 refine PySem.W.set_plain X J hs (PySem.W.osa_open (s:={s with toks:=s.toks+1}) (r:=none) X J hp ht fun b=> ?_)
 obtain⟨cd,hc,hd'⟩:=PySem.W.any_some hh
 have hx:s.heap.get? x=some ⟨.ref C,some dx,.plain,#[]⟩:=I.obj
 refine wpAny_bind (wpAny_pure (wpAny_bind (wpAny_bind (wpAny_loadPart hx (wpAny_bind (PySem.W.Looks.here (s:={s with toks:=s.toks+1}) (PySem.W.looks_clsIn X hc) ?_))))))
 rw[hd']
 refine wpAny_pure (a:=some dx) (wpAny_bind (wpAny_pure (wpAny_bind ?_)))
 refine wpAny_nsSet1 (s:={s with toks:=s.toks+1}) I.ns fun h' hn2 hs2=> ?_
 obtain⟨oD,esD,epD,hoD,hdD,hcD⟩:=hn2.count (PySem.Within.cons name v hw)
 refine wpAny_bind (wpAny_lookBehind hoD (by rw[hdD];exact pastItsLine_dict (Nat.le_trans hcD (by rw[List.length_cons];omega))) ?_)
 exact wpAny_pure (h _ ⟨(hs2.2 _ (Ne.symm I.ne)).trans I.obj,hn2,I.ne⟩ hs2)
theorem Nf{R:Result→Shared→Prop}{vs:List Value}{kw:List (Str×Value)}(X:K.In s.heap)(hm:PySem.W.makesIn K C=true)
  (hi:findIn K (.ref C) "__init__" = some (some (.ref f))) (hf:PySem.W.typeIn K (.ref f)=some (.type "function"))
  (h:codeAny (model prog w) (A.under (.builtin "type.__call__" ⟨.ref C::vs,kw⟩)) (.call (.ref f) ⟨.ref (s.heap.objs.size+1)::vs,kw⟩) (PySem.W.InitBack (s.heap.objs.size+1) R)
   {s with heap:=(s.heap.push PySem.W.emptyDict).push (PySem.W.instObj C s.heap.objs.size)}):
  codeAny (model prog w) A (.call (.ref C) ⟨vs,kw⟩) R s:=by
 obtain⟨hh,g,d,t,os⟩:=s
 exact PySem.W.make_core (PySem.W.makes_of X hm) (PySem.W.looks_findIn X hi) (fun self=>PySem.W.bind_fn X self hf) (.inl rfl) h
end
def kY(f:Str)(v:V):List (Str×V)→List (Str×V)
 | []=>[(f,v)]
 | (g,x)::r=>if g=f then(g,v)::r else(g,x)::kY f v r
theorem uU(f g:Str)(v:V):∀fs:List (Str×V),(kY f v fs).lookup g=if g=f then some v else fs.lookup g
 | []=>by
  show List.lookup g [(f,v)]=_
  by_cases h:g=f
  ·have hb:(g==f)=true:=beq_iff_eq.mpr h
   simp only[List.lookup,hb,if_pos h]
  ·have hb:(g==f)=false:=beq_eq_false_iff_ne.mpr h
   simp only[List.lookup,hb,if_neg h]
 | (k,x)::r=>by
  have ih:=uU f g v r
  rw[show kY f v ((k,x)::r)=(if k=f then(k,v)::r else(k,x)::kY f v r)from rfl]
  by_cases hk:k=f
  ·rw[if_pos hk]
   by_cases h:g=k
   ·have hb:(g==k)=true:=beq_iff_eq.mpr h
    simp only[List.lookup,hb,if_pos (h.trans hk)]
   ·have hb:(g==k)=false:=beq_eq_false_iff_ne.mpr h
    simp only[List.lookup,hb,if_neg (fun e:g=f=>h (e.trans hk.symm))]
  ·rw[if_neg hk]
   by_cases h:g=k
   ·have hb:(g==k)=true:=beq_iff_eq.mpr h
    simp only[List.lookup,hb,if_neg (fun e:g=f=>hk (h.symm.trans e))]
   ·have hb:(g==k)=false:=beq_eq_false_iff_ne.mpr h
    simp only[List.lookup,hb]
    exact ih
theorem uy(f:Str)(v:V):∀fs:List (Str×V),f∈(kY f v fs).map (·.1)∧∀g,g∈fs.map (·.1)→g∈(kY f v fs).map (·.1)
 | []=>⟨by simp[kY],fun g h=>by simp at h⟩
 | (k,x)::r=>by
  obtain⟨i1,i2⟩:=uy f v r
  rw[show kY f v ((k,x)::r)=(if k=f then(k,v)::r else(k,x)::kY f v r)from rfl]
  by_cases hk:k=f
  ·rw[if_pos hk]
   subst hk
   exact⟨by simp,fun g h=>by simpa using h⟩
  ·rw[if_neg hk]
   refine⟨?_,fun g h=> ?_⟩
   ·rw[List.map_cons]
    exact List.mem_cons_of_mem _ i1
   ·rw[List.map_cons]at h ⊢
    rcases List.mem_cons.mp h with e | e
    ·exact List.mem_cons.mpr (.inl e)
    ·exact List.mem_cons_of_mem _ (i2 g e)
theorem uV(f:Str)(v:V):∀fs:List (Str×V),(kY f v fs).length≤fs.length+1
 | []=>by simp[kY]
 | (k,x)::r=>by
  have ih:=uV f v r
  rw[show kY f v ((k,x)::r)=(if k=f then(k,v)::r else(k,x)::kY f v r)from rfl]
  by_cases hk:k=f
  ·rw[if_pos hk,List.length_cons,List.length_cons];omega
  ·rw[if_neg hk,List.length_cons,List.length_cons];omega
theorem oW.some_of{v:V}{o:Option Value}(r:oW (some v) o):∃u,o=some u∧RelV v u:=by
 cases o with
 | none=>exact(show False from r).elim
 | some u=>exact⟨u,rfl,r⟩
theorem oW.none_of{o:Option Value}(r:oW none o):o=none:=by
 cases o with
 | none=>rfl
 | some u=>exact(show False from r).elim
theorem zc{v:V}{u:Value}(r:RelV v u):PySem.W.handedIn u=true:=by
 cases v with
 | non=>cases(show u=Value.none from r);rfl
 | bl b=>cases(show u=Value.bool b from r);rfl
 | int i=>obtain⟨t,e⟩:=(show ∃t,u=Value.int i t from r);cases e;rfl
 | str x=>obtain⟨t,e⟩:=(show ∃t,u=Value.str x t from r);cases e;rfl
 | byt b=>obtain⟨t,e⟩:=(show ∃t,u=Value.bytes b t from r);cases e;rfl
 | flt b=>obtain⟨t,e⟩:=(show ∃t,u=Value.float b t from r);cases e;rfl
 | ref a=>cases(show u=Value.ref a from r);rfl
 | ty n=>cases(show u=Value.type n from r);rfl
section
variable{P:Program}{w:World}{H H':Hp}{h h':Heap}{a C dx:Addr}{fs fs':List (Str×V)}
theorem vR(hok:lU P w H h)(e:H a=some (.ins C dx fs)):∃mA,Gy h a dx C mA∧(∀f,oW (fs.lookup f) (mA f))∧PySem.Within mA (fs.map (·.1))∧fs.length≤1000∧H dx=some (.own a):=by
 obtain⟨d,z,ne,ob,mA,n,r,q⟩:=(show bL P w H h a (.ins C dx fs)from hok a _ e)
 exact⟨mA,⟨ob,n,ne⟩,r,q,z,d⟩
end
structure Kc(K:Frag)(C:Addr):Prop where
 pg:PySem.W.plainGet K C Str.empty=true
 hd:PySem.W.hasDictIn K C=true
 po:PySem.W.plainOver K C=true
 sa:findIn K (.ref C) "__setattr__" = some (some (.builtin "object.__setattr__"))
theorem Kc.get{K:Frag}{C:Addr}(c:Kc K C)(f:Str):PySem.W.plainGet K C f=true:=c.pg
def jh(K:Frag)(C:Addr)(f:Str):Prop:=findIn K (.ref C) f=some none
theorem jh.taker{K:Frag}{C:Addr}{f:Str}(n:jh K C f):PySem.W.takerIn K C f=some none:=by
 unfold PySem.W.takerIn
 rw[show findIn K (.ref C) f=some none from n]
 rfl
structure Meth(K:Frag)(C:Addr)(m:Str)(f:Addr):Prop where
 at_:findIn K (.ref C) m=some (some (.ref f))
 fn:isFn K (.ref f)=true
 kp:keepIn K (.ref f)=true
section
variable{X:Cx}{pins:List (Addr×Obj)}{σ:St}{H:Hp}{s:Shared}{a C dx:Addr}{fs:List (Str×V)}{f:Str}{v:V}{A:Around}{E:Value→Shared→Prop}
theorem Ga{b:Bool}{Q:Value→Shared→Prop}(I:Inv X pins σ H s)(e:H a=some (.ins C dx fs))(c:Kc X.K C)(n:jh X.K C f)(l:fs.lookup f=some v)
  (h:∀u s',Inv X pins σ H s'→RelV v u→Q u s'):wpAny (model X.prog X.w) A (getAttr (.ref a) f b) Q E s:=by
 obtain⟨mA,O,r,_,_,_⟩:=vR I.hok e
 obtain⟨u,hu,ru⟩:=oW.some_of (v:=v) (o:=mA f) (by rw[←l];exact r f)
 exact get_map I.oU O (c.get f) c.hd n hu (zc ru) (h u _ (I.tok _) ru)
theorem F_{m:Str}{g:Addr}{pl:Sem Bool}{Q:Value×List Value→Shared→Prop}(I:Inv X pins σ H s)(e:H a=some (.ins C dx fs))(c:Kc X.K C)(k:Meth X.K C m g)(l:fs.lookup m=none)
  (h:Q (.ref g,[.ref a]) s):wpAny (model X.prog X.w) A (getMethod (.ref a) m pl) Q E s:=by
 obtain⟨mA,O,r,_,_,_⟩:=vR I.hok e
 have hn:mA m=none:=oW.none_of (by rw[←l];exact r m)
 exact N_ I.oU O (c.get m) k.at_ k.fn hn h
theorem Ew{y:V}{u:Value}{Q:Unit→Shared→Prop}(I:Inv X pins σ H s)(e:H a=some (.ins C dx fs))(c:Kc X.K C)(n:jh X.K C f)(hl:fs.length<1000)(ry:RelV y u)
  (h:∀s',Inv X pins σ (upd H a (.ins C dx (kY f y fs))) s'→Q () s'):wpAny (model X.prog X.w) A (setAttr (.ref a) f u) Q E s:=by
 obtain⟨mA,O,r,wi,_,ho⟩:=vR I.hok e
 have hz:(fs.map (·.1)).length≤sizeLine:=by rw[List.length_map,sizeLine_eq];omega
 refine PN I.oU O c.sa c.po n.taker c.hd wi hz fun h' O' sb=>h _ ?_
 have hd:∃o,h'.get? dx=some o:=let⟨o,_,_,e',_⟩:=O'.ns;⟨o,e'⟩
 refine I.write (x:=a) (e:=dx) (by rw[e];exact True.intro) (.inr ho) (fun b q hb z=>(sb.2 b hb).trans z) hd ?_
 refine⟨by rw[aC O.ne];exact ho,?_,O.ne,O'.obj,_,O'.ns,fun g=> ?_,fun g hg=> ?_⟩
 ·have:=uV f y fs;omega
 ·show oW ((kY f y fs).lookup g) (if g=f then some u else mA g)
  rw[uU]
  by_cases q:g=f
  ·rw[if_pos q,if_pos q];exact ry
  ·rw[if_neg q,if_neg q];exact r g
 ·by_cases q:g=f
  ·rw[q];exact(uy f y fs).1
  ·refine(uy f y fs).2 g (wi g fun z=>hg ?_)
   show(if g=f then some u else mA g)=none
   rw[if_neg q];exact z
theorem Inv.made(I:Inv X pins σ H s):Inv X pins σ (upd (upd H s.heap.objs.size (.own (s.heap.objs.size+1))) (s.heap.objs.size+1) (.ins C s.heap.objs.size []))
  {s with heap:=(s.heap.push PySem.W.emptyDict).push (PySem.W.instObj C s.heap.objs.size)}:=by
 have e1:(s.heap.push PySem.W.emptyDict).get? s.heap.objs.size=some PySem.W.emptyDict:=Heap.get?_push_size s.heap rfl
 have e2:((s.heap.push PySem.W.emptyDict).push (PySem.W.instObj C s.heap.objs.size)).get? (s.heap.objs.size+1)=some (PySem.W.instObj C s.heap.objs.size):=by
  have:=Heap.get?_push_size (s.heap.push PySem.W.emptyDict) (o:=PySem.W.instObj C s.heap.objs.size) rfl
  rwa [Heap.size_push]at this
 have e3:(s.heap.push PySem.W.emptyDict).Ns s.heap.objs.size (fun _=>none):=⟨PySem.W.emptyDict,#[],_,e1,rfl,(fun e he=>absurd he (by simp)),fun _=>rfl⟩
 have I1:=I.laid (a:=s.heap.objs.size) (o:= .own (s.heap.objs.size+1)) (h':=s.heap.push PySem.W.emptyDict) (t':=s.toks) (fun b u q=>Heap.get?_push_of_some _ q) (Nat.le_refl _) ⟨_,e1⟩
 refine I1.laid (a:=s.heap.objs.size+1) (o:= .ins C s.heap.objs.size []) (t':=s.toks) (fun b u q=>Heap.get?_push_of_some _ q) (Nat.le_of_eq (Heap.size_push _ _)) ?_
 have ne:s.heap.objs.size≠s.heap.objs.size+1:=Nat.ne_of_lt (Nat.lt_succ_self _)
 refine⟨by rw[aC ne,aW],Nat.zero_le _,ne,e2,fun _=>none,(Heap.Ns1.of_empty e3).at fun o q=>Heap.get?_push_of_some _ q,fun _=>True.intro,fun y hy=>absurd rfl hy⟩
theorem Iv{prog:Program}{w:World}{env:Env}{e:Expr}{f:Str}{pos:Pos}{s:Shared}{Q:Value→Shared→Prop}(hb:attributeBase e f env (eval e env)=eval e env)
  (h:wpAny (model prog w) A (eval e env) (fun o s₁=>wpAny (model prog w) A (getAttr o f true) Q E s₁) E s):wpAny (model prog w) A (eval (.Attribute e f pos) env) Q E s:=
 Attribute_any_ h (by rw[arm_eval_Attribute,hb])
end
def aba(K:Frag)(ta:TE)(f:Str):TE:=fun σ H Q=>ta σ H fun x H1=>∃a C dx fs v,x= .ref a∧H1 a=some (.ins C dx fs)∧Kc K C∧jh K C f∧fs.lookup f=some v∧Q v H1
def abp(K:Frag)(ta tv:TE)(f:Str):TS:=fun D σ H=>tv σ H fun y H1=>ta σ H1 fun x H2=>∃a C dx fs,x= .ref a∧H2 a=some (.ins C dx fs)∧Kc K C∧jh K C f∧fs.length<1000∧
 D.nx σ (upd H2 a (.ins C dx (kY f y fs)))
section
variable{X:Cx}{o e value:Expr}{f:Str}{pos pos' tpos:Pos}{ta tv:TE}
theorem Ul(he:PE X e ta)(hb:attributeBase e f X.env (eval e X.env)=eval e X.env):PE X (.Attribute e f pos) (aba X.K ta f):=by
 intro pins s σ H Q I h
 refine Iv hb (dR (he pins s σ H _ I h) fun u s1 ⟨x,H1,I1,rx,a,C,dx,fs,v,ex,ea,c,n,l,q⟩=> ?_)
 subst ex
 obtain rfl:u=Value.ref a:=rx
 exact Ga I1 ea c n l fun u' s2 I2 ru=>⟨v,H1,I2,ru,q⟩
theorem T_(ha:PE X o ta)(hv:PE X value tv)(hs:swapsWith value (some (.Attribute o f pos')) pos.line X.env=pure false):PS X (.Assign [.Attribute o f pos'] value pos) (abp X.K ta tv f):=by
 intro pins s σ H D I h
 refine plainObj_wpAny_Assign_Attribute (dR (hv pins s σ H _ I h) fun u s1 ⟨y,H1,I1,ry,q⟩=>dR (ha pins s1 σ H1 _ I1 q) fun ov s2 ⟨x,H2,I2,rx,a,C,dx,fs,ex,ea,c,n,l,q2⟩=> ?_) hs
 subst ex
 obtain rfl:ov=Value.ref a:=rx
 exact Ew I2 ea c n l ry fun s3 I3=>⟨σ,_,I3,q2⟩
end
section
variable{X:Cx}{pins:List (Addr×Obj)}{σ:St}{H:Hp}{s:Shared}{A:Around}{E:Value→Shared→Prop}{Q:Value→Shared→Prop}{c:Value}{b:Bool}
inductive uI (K:Frag) (H:Hp):V→Value→Prop where
 | non:uI K H .non (.type "NoneType")
 | bl (x:Bool):uI K H (.bl x) (.type "bool")
 | int (i:Int):uI K H (.int i) (.type "int")
 | str (x:Str):uI K H (.str x) (.type "str")
 | flt (x:UInt64):uI K H (.flt x) (.type "float")
 | lst {a:Addr} {xs:List V} (e:H a=some (.lst xs)):uI K H (.ref a) (.type "list")
 | pU {a:Addr} {o:Obj} {xs:List V} (e:H a=some (.pU o (.lst xs))):uI K H (.ref a) (.type "list")
 | tup {a:Addr} {xs:List V} (e:H a=some (.tup xs)):uI K H (.ref a) (.type "tuple")
 | dK {a:Addr} {kvs:List (Key×V)} (e:H a=some (.dK kvs)):uI K H (.ref a) (.type "dict")
 | dT {a:Addr} {kvs:List (List Key×V)} (e:H a=some (.dT kvs)):uI K H (.ref a) (.type "dict")
 | ins {a C dx:Addr} {fs:List (Str×V)} (e:H a=some (.ins C dx fs)) (cl:Kc K C) (ha:findIn K (.ref C) "__class__" = some (some (.builtin "object.__class__")))
   (hn:PySem.W.specialIn K (.builtin "object.__class__") "__get__" = some (some (.builtin "getset_descriptor.__get__"))) (htk:PySem.W.takesIn K (.builtin "object.__class__")=some true)
   (hm:PySem.W.mroIn K C (.type "object")=some true):uI K H (.ref a) (.ref C)
theorem JP{x:V}{u t:Value}(I:Inv X pins σ H s)(rx:RelV x u)(ty:uI X.K H x t)(e:kitOne X.K t c=some b)(h:∀tk,Q (.bool b) {s with toks:=tk}):
  wpAny (model X.prog X.w) A (call (.builtin "isinstance") [u,c]) Q E s:=by
 cases ty with
 | non=>cases(show u=Value.none from rx);exact PySem.W.kia_one PySem.W.kitx_none I.oU True.intro e (fun z=>nomatch z) h
 | bl y=>cases(show u=Value.bool y from rx);exact PySem.W.kia_one PySem.W.kitx_bool I.oU True.intro e (fun z=>nomatch z) h
 | int i=>obtain⟨t,q⟩:=(show ∃t,u=Value.int i t from rx);cases q;exact PySem.W.kia_one PySem.W.kitx_int I.oU True.intro e (fun z=>nomatch z) h
 | str y=>obtain⟨t,q⟩:=(show ∃t,u=Value.str y t from rx);cases q;exact PySem.W.kia_one PySem.W.kitx_str I.oU True.intro e (fun z=>nomatch z) h
 | flt y=>obtain⟨t,q⟩:=(show ∃t,u=Value.float y t from rx);cases q;exact PySem.W.kia_one PySem.W.kitx_float I.oU True.intro e (fun z=>nomatch z) h
 | @lst a xs ea=>
  cases(show u=Value.ref a from rx)
  obtain⟨_,_,n,_,h1⟩:=(show bL X.prog X.w H s.heap a (.lst xs)from I.hok a _ ea)
  exact PySem.W.kia_one PySem.W.kitx_list I.oU ⟨_,h1,rfl⟩ e (fun z=>nomatch z) h
 | @pU a ob xs ea=>
  cases(show u=Value.ref a from rx)
  obtain⟨_,_,_,n,_,h1⟩:=(show bL X.prog X.w H s.heap a (.pU ob (.lst xs))from I.hok a _ ea)
  exact PySem.W.kia_one PySem.W.kitx_list I.oU ⟨_,h1,rfl⟩ e (fun z=>nomatch z) h
 | @tup a xs ea=>
  cases(show u=Value.ref a from rx)
  obtain⟨_,_,_,p⟩:=(show bL X.prog X.w H s.heap a (.tup xs)from I.hok a _ ea)
  obtain⟨o,h1,h2,_⟩:=p
  exact PySem.W.kia_one PySem.W.kitx_tuple I.oU ⟨o,h1,h2⟩ e (fun z=>nomatch z) h
 | @dK a kvs ea=>
  cases(show u=Value.ref a from rx)
  obtain⟨_,_,vs,_,p⟩:=(show bL X.prog X.w H s.heap a (.dK kvs)from I.hok a _ ea)
  obtain⟨o,es,ep,h1,h2,_⟩:=p
  exact PySem.W.kia_one PySem.W.kitx_dict I.oU ⟨o,h1,h2.1⟩ e (fun z=>nomatch z) h
 | @dT a kvs ea=>
  cases(show u=Value.ref a from rx)
  obtain⟨_,_,xs,_,o,es,ep,h1,h2,_⟩:=(show bL X.prog X.w H s.heap a (.dT kvs)from I.hok a _ ea)
  exact PySem.W.kia_one PySem.W.kitx_dict I.oU ⟨o,h1,h2.1⟩ e (fun z=>nomatch z) h
 | @ins a C dx fs ea cl ha hn htk hm=>
  cases(show u=Value.ref a from rx)
  obtain⟨mA,O,_⟩:=vR I.hok ea
  obtain⟨od,J,_⟩:=O.look
  exact PySem.W.kia_one (PySem.W.kitx_own (cl.get _) cl.hd ha hn htk hm) I.oU J e (fun z=>nomatch z) h
end
structure dJ(k:Nat)(A:Around):Prop where
 hd:A.handled=none
 dp:A.depth+3*k+5<recursionLimit
 un:A.units+16*k+200<cLine
theorem dJ.mono{j k:Nat}{A:Around}(r:dJ k A)(h:j≤k):dJ j A:=⟨r.hd,by have:=r.dp;omega,by have:=r.un;omega⟩
theorem dJ.deeper{k:Nat}{A:Around}(r:dJ (k+1) A)(env:Env):dJ k (A.deeper env):=
 ⟨r.hd,by have:=r.dp;show A.depth+1+3*k+5<_;omega,by have:=r.un;show A.units+3+16*k+200<_;omega⟩
theorem dJ.in1{k:Nat}{A:Around}(r:dJ (k+1) A):dJ k A.in1:=
 ⟨r.hd,by have:=r.dp;show A.depth+3*k+5<_;omega,by have:=r.un;show A.units+1+16*k+200<_;omega⟩
theorem Fp{A:Around}{C:Addr}{us:List Value}{kw:List (Str×Value)}:(A.under (.builtin "type.__call__" ⟨.ref C::us,kw⟩)).depth=A.depth+1:=by
 first | rfl | simp[Around.under,Code.weight,Code.isCreation,Code.isGuard,Code.isCaller,Code.frames,Code.isFrame,guardIds]
theorem Fo{A:Around}{C:Addr}{us:List Value}{kw:List (Str×Value)}:(A.under (.builtin "type.__call__" ⟨.ref C::us,kw⟩)).units=A.units+1:=by
 first | rfl | simp[Around.under,Code.cUnits,Code.frames,Code.isFrame]
theorem dJ.make{k:Nat}{A:Around}(r:dJ (k+1) A)(C:Addr)(us:List Value)(kw:List (Str×Value)):dJ k (A.under (.builtin "type.__call__" ⟨.ref C::us,kw⟩)):=
 ⟨r.hd,by have:=r.dp;rw[Fp];omega,by have:=r.un;rw[Fo];omega⟩
theorem dJ.depth{k:Nat}{A:Around}(r:dJ k A):A.depth<recursionLimit:=by have:=r.dp;omega
theorem dJ.units{k:Nat}{A:Around}(r:dJ k A):A.units+64<cLine:=by have:=r.un;omega
def W_:TA:=fun _ H Q=>Q [] H
def Xc(ta:TE)(tr:TA):TA:=fun σ H Q=>ta σ H fun x H1=>tr σ H1 fun xs H2=>Q (x::xs) H2
section
variable{X:Cx}{e:Expr}{es:List Expr}{te:TE}{t:TA}{pos:Pos}
theorem Uq:PA X [] W_:=fun _ _ _ _ H Q I h=>Calls.spliced_nil ⟨[],H,I,.nil,h⟩
theorem QK(ha:PE X e te)(hr:PA X es t)(hs:starEach (e::es) X.env=(false,eval e X.env)::starEach es X.env:=by rfl):PA X (e::es) (Xc te t):=by
 intro pos pins s σ H Q I h
 rw[hs]
 show wpAny _ _ (spliced ((false,eval e X.env)::backTo pos (starEach es X.env))) _ _ s
 refine Calls.spliced_cons (dR (ha pins s σ H _ I h) fun u s1 ⟨x,H1,I1,r1,q1⟩=> ?_)
 exact dR (hr pos pins s1 σ H1 _ I1 q1) fun us s2 ⟨xs,H2,I2,r2,q2⟩=>⟨x::xs,H2,I2,.cons r1 r2,q2⟩
def aa3(t:TA):TE:=fun σ H Q=>t σ H fun xs H1=>xs.length≤sizeLine∧∀p,H1 p=none→Q (.ref p) (upd H1 p (.tup xs))
def aa8(t:TA):TE:=fun σ H Q=>t σ H fun xs H1=>xs.length≤sizeLine∧∀p,H1 p=none→Q (.ref p) (upd H1 p (.lst xs))
theorem Ud{x1}(h:PA X es t):PE X (.Tuple es x1 pos) (aa3 t):=by
 intro pins s σ H Q I hq
 refine wpAny_Tuple_spliced (dR (h pos pins s σ H _ I hq) fun us s1 ⟨xs,H1,I1,r,z,q⟩=>⟨by rw[←r.length];exact z,?_⟩)
 have hf:H1 s1.heap.objs.size=none:=I1.hok.fresh (Nat.le_refl _)
 refine⟨.ref s1.heap.objs.size,upd H1 s1.heap.objs.size (.tup xs),I1.laid (t':=s1.toks) (fun b u e=>Heap.get?_push_of_some _ e) (Nat.le_refl _) ?_,rfl,q _ hf⟩
 exact⟨z,us,r,⟨_,Heap.get?_push_size _ rfl,rfl,_,rfl⟩⟩
theorem Uj(h:PA X es t):PE X (.List es pos) (aa8 t):=by
 intro pins s σ H Q I hq
 refine wpAny_List_spliced (dR (h pos pins s σ H _ I hq) fun us s1 ⟨xs,H1,I1,r,z,q⟩=>⟨by rw[←r.length];exact z,?_⟩)
 have hf:H1 s1.heap.objs.size=none:=I1.hok.fresh (Nat.le_refl _)
 refine⟨.ref s1.heap.objs.size,upd H1 s1.heap.objs.size (.lst xs),I1.laid (t':=s1.toks) (fun b u e=>Heap.get?_push_of_some _ e) (Nat.le_refl _) ?_,rfl,q _ hf⟩
 exact⟨z,us,0,r,Heap.get?_push_size _ rfl⟩
end
abbrev Sp:=List V→Hp→VK→XK→Prop
abbrev GJ:=List Env→Hp→Shared→XK→Value→Shared→Prop
structure yD(P:Program)(w:World)(K:Frag)(mg:Str→Option Value)(base:Heap)(A:Around)(outer:List Env)(s:Shared)(H:Hp):Prop where
 frames:A.frames=some outer
 mod:Mod K mg base
 bs:∀b o,base.get? b=some o→s.heap.get? b=some o∧H b=none
 Ir:base.objs.size≤s.heap.objs.size
 pR:s.heap.FunFrames base outer
 Oa:∀b∈frs outer,H b=none
 hok:lU P w H s.heap
 bare:AllBare s.gens
def CE(outer:List Env)(P:Program)(w:World)(H:Hp)(s:Shared)(Q:VK)(u:Value)(s':Shared):Prop:=
 ∃v H',s'.os=s.os∧AllBare s'.gens∧Un (frs outer) [] H H' s.heap s'.heap∧lU P w H' s'.heap∧RelV v u∧Q v H'
def CR(CX:GJ)(outer:List Env)(P:Program)(w:World)(H:Hp)(s:Shared)(Q:VK)(E:XK)(r:Result)(s':Shared):Prop:=
 match r with
 | .ok (.ret u)=>CE outer P w H s Q u s'
 | .ok _=>False
 | .error e=>CX outer H s E e s'
structure bh(P:Program)(w:World)(K:Frag)(mg:Str→Option Value)(base:Heap)(CX:GJ)(k:Nat)(f:Addr)(fd:FuncData)(ps:List Str)(sp:Sp):Prop where
 len:∀vs H Q E,sp vs H Q E→vs.length=ps.length
 run:∀(A:Around) (outer:List Env) (s:Shared) (H:Hp) (args:Args) (us:List Value) (vs:List V) (Q:VK) (E:XK),dJ k A→yD P w K mg base A outer s H→BindsTo s fd args (ps.zip us)→Vals vs us→sp vs H Q E→
  codeAny (model P w) A (.call (.ref f) args) (CR CX outer P w H s Q E) s
theorem bh.imp{P:Program}{w:World}{K:Frag}{mg:Str→Option Value}{base:Heap}{CX:GJ}{k:Nat}{f:Addr}{fd:FuncData}{ps:List Str}{sp Xg:Sp}(F:bh P w K mg base CX k f fd ps sp)
  (h:∀vs H Q E,Xg vs H Q E→sp vs H Q E):bh P w K mg base CX k f fd ps Xg:=
 ⟨fun vs H Q E q=>F.len vs H Q E (h _ _ _ _ q),fun A outer s H args us vs Q E hr he hb hv hs=>F.run A outer s H args us vs Q E hr he hb hv (h _ _ _ _ hs)⟩
theorem yD.make{P:Program}{w:World}{K:Frag}{mg:Str→Option Value}{base:Heap}{A:Around}{outer:List Env}{s:Shared}{H:Hp}(e:yD P w K mg base A outer s H)(C:Addr)(us:List Value)(kw:List (Str×Value)):
  yD P w K mg base (A.under (.builtin "type.__call__" ⟨.ref C::us,kw⟩)) outer s H:=⟨by first | exact e.frames | (simpa[Around.under,Code.envs,Code.isFrame,pushEnvs]using e.frames),e.mod,e.bs,e.Ir,e.pR,e.Oa,e.hok,e.bare⟩
theorem yD.in1{P:Program}{w:World}{K:Frag}{mg:Str→Option Value}{base:Heap}{A:Around}{outer:List Env}{s:Shared}{H:Hp}(e:yD P w K mg base A outer s H):
  yD P w K mg base A.in1 outer s H:=⟨e.frames,e.mod,e.bs,e.Ir,e.pR,e.Oa,e.hok,e.bare⟩
section
variable{X:Cx}{pins:List (Addr×Obj)}{σ:St}{H:Hp}{s s':Shared}
theorem Inv.env0(I:Inv X pins σ H s):yD X.prog X.w X.K X.mg X.base X.A X.stack s H:=
 ⟨I.ok.frames,I.ok.mod,I.bs,Nat.le_trans I.ok.Ir I.sz,I.stack,I.vH,I.hok,I.bare⟩
theorem Inv.after{Q:VK}{u:Value}(I:Inv X pins σ H s)(h:CE X.stack X.prog X.w H s Q u s'):EP X pins σ Q u s':=by
 obtain⟨v,H',os,bare,un,hok,r,q⟩:=h
 obtain⟨hh,g,d,t,os'⟩:=s'
 obtain rfl:os'=s.os:=os
 exact⟨v,H',I.call (h':=hh) (g':=g) (d':=d) (t':=t) (ch:=[]) un hok bare (fun b z=>absurd z (by simp)),r,q⟩
end
def Binds(K:Frag)(fd:FuncData)(ps:List Str)(ds:List Value):Prop:=
 ∀(s:Shared) (us:List Value),K.In s.heap→(us++ds).length=ps.length→BindsTo s fd ⟨us,[]⟩ (ps.zip (us++ds))
theorem Binds.all{K:Frag}{fd:FuncData}{ps:List Str}(h:∀us:List Value,us.length=ps.length→bindArgs fd ⟨us,[]⟩=pure (ps.zip us)):Binds K fd ps []:=fun s us _ hl=>by
 rw[List.append_nil]at hl ⊢
 exact .of_eq (h us hl)
section
variable{X:Cx}{CX:GJ}{k:Nat}{f C:Addr}{fd:FuncData}{ps:List Str}{sp:Sp}{qm:List V}{ds:List Value}{E:XK}{x m:Str}{p pos apos:Pos}{e o:Expr}{es:List Expr}{ta:TE}{t:TA}
structure Mk(K:Frag)(C f:Addr):Prop where
 makes:PySem.W.makesIn K C=true
 init:findIn K (.ref C) "__init__" = some (some (.ref f))
 fn:isFn K (.ref f)=true
 kp:keepIn K (.ref C)=true
end
structure bA(N P:List Str)(sc:Scope):Prop where
 kind:sc.kind= .function
 co:sc.isCoroutine=false
 gen:sc.isGenerator=false
 nd:N.Nodup
 pre:N.take P.length=P
 par:∀x∈P,sc.names.lookup x=some .local∨sc.names.lookup x=some .cell
 U6:∀y∈sc.names,y.2≠ .free
theorem zp{kindOf:Str→Option NameKind}{x:Str}:∀{binds:List (Str×Value)} {m:Str→Option Value},(∀v,(x,v)∉binds)→bindL kindOf binds m x=m x
 | [],_,_=>rfl
 | (n,v)::r,m,h=>by
  unfold bindL
  rw[zp fun w hw=>h w (List.mem_cons_of_mem _ hw)]
  split
  ·have:x≠n:=by rintro rfl;exact h v List.mem_cons_self
   simp[this]
  ·rfl
theorem zu{kindOf:Str→Option NameKind}{x:Str}:∀{binds:List (Str×Value)} {m:Str→Option Value},(∀v,(x,v)∉binds)→bindC kindOf binds m x=m x
 | [],_,_=>rfl
 | (n,v)::r,m,h=>by
  unfold bindC
  rw[zu fun w hw=>h w (List.mem_cons_of_mem _ hw)]
  split
  ·rfl
  ·have:x≠n:=by rintro rfl;exact h v List.mem_cons_self
   simp[this]
theorem zq{kindOf:Str→Option NameKind}{x:Str}{v:Value}:∀{P:List Str} {vs:List Value} {i:Nat} {m:Str→Option Value},P.Nodup→P[i]? = some x→vs[i]? = some v→kindOf x=some .local→
  bindL kindOf (P.zip vs) m x=some v
 | [],_,_,_,_,h,_,_=>by simp at h
 | _::_,[],_,_,_,_,h,_=>by simp at h
 | p::P,w::vs,0,m,nd,h1,h2,hk=>by
  simp at h1 h2;subst h1;subst h2
  show bindL kindOf ((p,w)::P.zip vs) m p=_
  unfold bindL
  rw[zp fun v hv=>(List.nodup_cons.mp nd).1 (List.of_mem_zip hv).1,if_pos hk]
  simp
 | p::P,w::vs,i+1,m,nd,h1,h2,hk=>by
  show bindL kindOf ((p,w)::P.zip vs) m x=_
  unfold bindL
  exact zq (i:=i) (List.nodup_cons.mp nd).2 (by simpa using h1) (by simpa using h2) hk
theorem zx{kindOf:Str→Option NameKind}{x:Str}{v:Value}:∀{P:List Str} {vs:List Value} {i:Nat} {m:Str→Option Value},P.Nodup→P[i]? = some x→vs[i]? = some v→kindOf x≠some .local→
  bindC kindOf (P.zip vs) m x=some v
 | [],_,_,_,_,h,_,_=>by simp at h
 | _::_,[],_,_,_,_,h,_=>by simp at h
 | p::P,w::vs,0,m,nd,h1,h2,hk=>by
  simp at h1 h2;subst h1;subst h2
  show bindC kindOf ((p,w)::P.zip vs) m p=_
  unfold bindC
  rw[zu fun v hv=>(List.nodup_cons.mp nd).1 (List.of_mem_zip hv).1,if_neg hk]
  simp
 | p::P,w::vs,i+1,m,nd,h1,h2,hk=>by
  show bindC kindOf ((p,w)::P.zip vs) m x=_
  unfold bindC
  exact zx (i:=i) (List.nodup_cons.mp nd).2 (by simpa using h1) (by simpa using h2) hk
def start(N:List Str)(vs:List V):St:=vs.map some++List.replicate (N.length - vs.length) none
def oV(CX:GJ)(P:Program)(w:World)(K:Frag)(mg:Str→Option Value)(base:Heap)(N:List Str)(qual:Str)(scope:Scope)(f:Addr)(cd:Value)(A:Around)(outer:List Env)(s:Shared)(H:Hp)(E:XK):Cx where
 prog:=P
 w:=w
 K:=K
 mg:=mg
 base:=base
 A:=A.deeper (envOfC qual scope s.heap.objs.size f cd)
 N:=N
 s₀:=s
 H₀:=H
 env:=envOfC qual scope s.heap.objs.size f cd
 outer:=outer
 stack:=envOfC qual scope s.heap.objs.size f cd::outer
 ex:=[]
 calm:=true
 fn:=fun _=>true
 pn:=[]
 xe:=fun e s'=>wpAny (model P w) (A.deeper (envOfC qual scope s.heap.objs.size f cd)) (leaving (envOfC qual scope s.heap.objs.size f cd) e) (fun _ s''=>CX outer H s E e s'') (fun e' s''=>CX outer H s E e' s'') s'
theorem Dy{sc:Scope}{n:Nat}{x:Str}(h:sc.names.lookup x=some .cell):∃c,(cellsFrom n sc.names []).lookup x=some c:=by
 have q:=PySem.W.cellsFrom_some sc.names n [] (.inl h)
 exact Option.isSome_iff_exists.mp q
theorem JQ{CX:GJ}{P:Program}{w:World}{K:Frag}{mg:Str→Option Value}{base:Heap}{N ps:List Str}{qual:Str}{scope:Scope}{f:Addr}{cd:Value}{A:Around}{outer:List Env}{s s1:Shared}{H:Hp}{E:XK}{us:List Value}{vs:List V}
  (S:bA N ps scope) (hd:A.handled=none) (e0:yD P w K mg base A outer s H) (hl:vs.length=ps.length) (r:Vals vs us)
  (x:InCallC s s.heap.objs.size (bindL (envOfC qual scope s.heap.objs.size f cd).kindOf (ps.zip us) fun _=>none) (cellsFrom (s.heap.objs.size+1) scope.names []) (bindC (envOfC qual scope s.heap.objs.size f cd).kindOf (ps.zip us) fun _=>none) s1):
  Inv (oV CX P w K mg base N qual scope f cd A outer s H E) [] (start N vs) H s1:=by
 have hpl:ps.length≤N.length:=by have:=congrArg List.length S.pre;rw[List.length_take]at this;omega
 obtain⟨h1,tk,rfl,hk⟩:=x.done
 have U7:∀b:Addr,b∉(oV CX P w K mg base N qual scope f cd A outer s H E).ex:=fun b z=>absurd (show b∈([]:List Addr)from z) (by simp)
 refine⟨⟨e0.mod,S.kind,rfl,rfl,Nat.le_refl _,fun y z c h1 h2=> ?_,fun y hy=> ?_,fun y c _ h=> ?_,fun _=>hd,Around.frames_deeper e0.frames,.inr ⟨rfl,rfl⟩,fun b z=>absurd z (U7 b),e0.bs,e0.Ir,fun b _ _=>U7 b,fun b z=>absurd z (U7 b),e0.pR,e0.Oa⟩,
  rfl,e0.bare,Un.kept hk,⟨_,x.toInCall.ns,fun i y v h1 h2 h3=> ?_⟩,fun y c h=>⟨_,x.cell y c h⟩,e0.hok.fresh (Nat.le_refl _),fun y c h=> ?_,fun p hp=>absurd (show p∈([]:List (Addr×Obj))from hp) (by simp),e0.hok.kept hk,?_⟩
 ·exact name_of_addr x.apart (PySem.mem_of_lookup h1) (PySem.mem_of_lookup h2)
 ·have hy:scope.names.lookup y=some .cell∨scope.names.lookup y=some .free:=hy
  rcases hy with hy | hy
  ·exact Dy hy
  ·exact absurd rfl (S.U6 _ (PySem.mem_of_lookup hy))
 ·exact Nat.le_of_lt (x.above y c (PySem.mem_of_lookup h))
 ·have hi:i<vs.length:=by
   unfold start at h2
   by_cases hi:i<vs.length
   ·exact hi
   ·rw[List.getElem?_append_right (by simpa using hi)]at h2
    rw[List.getElem?_replicate]at h2
    split at h2<;>cases h2
  have ha:vs[i]? = some v:=by
   unfold start at h2
   rw[List.getElem?_append_left (by simpa using hi),List.getElem?_map]at h2
   cases e:vs[i]? with
   | none=>rw[e]at h2;cases h2
   | some a=>rw[e]at h2;cases h2;rfl
  obtain⟨u,hu,rv⟩:=r.get ha
  have hp:ps[i]? = some y:=by
   rw[←S.pre,List.getElem?_take_of_lt (by omega)];exact h1
  have ndP:ps.Nodup:=by rw[←S.pre];exact S.nd.sublist (List.take_sublist _ _)
  refine⟨u,rv,?_⟩
  rcases S.par y (List.mem_of_getElem? hp)with k | k
  ·exact .inl ⟨k,zq ndP hp hu k⟩
  ·obtain⟨c,e⟩:=Dy (n:=s.heap.objs.size+1) k
   refine .inr ⟨.inl k,c,e,?_⟩
   have q:=x.cell y c e
   rw[zx ndP hp hu (by show scope.names.lookup y≠_;rw[k];decide)]at q
   exact q
 ·exact e0.hok.fresh (Nat.le_of_lt (x.above y c (PySem.mem_of_lookup h)))
 ·unfold start
  show _=N.length
  rw[List.length_append,List.length_map,List.length_replicate]
  omega
theorem Od{CX:GJ}{P:Program}{w:World}{K:Frag}{mg:Str→Option Value}{base:Heap}{k:Nat}{f:Addr}{name qual:Str}{params:Arguments}{body:List Stmt}{scope:Scope}{dV kV doc pm cdv ct oc:Value}{an od:Option Addr}
  {osl:Array (Option Value)} {N ps:List Str} {sp:Sp} (lk:K.lookup f=some ⟨oc,od,.func (fnOf name qual params body scope dV kV doc pm an cdv ct),osl⟩) (hcd:codeIn K cdv qual=true) (S:bA N ps scope)
  (len:∀vs H Q E,sp vs H Q E→vs.length=ps.length)
  (hbody:∀(A:Around) (outer:List Env) (s:Shared) (H:Hp) (vs:List V) (Q:VK) (E:XK),dJ k (A.deeper (envOfC qual scope s.heap.objs.size f cdv))→sp vs H Q E→
   ∃t,vU (oV CX P w K mg base N qual scope f cdv A outer s H E) body t∧t {nx:=fun _ H'=>Q .non H',rt:=Q} (start N vs) H):
  bh P w K mg base CX (k+1) f (fnOf name qual params body scope dV kV doc pm an cdv ct) ps sp:=by
 refine⟨len,fun A outer s H args us vs Q E hr e0 hb r hsp=> ?_⟩
 have hl:=len _ _ _ _ hsp
 have KX:K.In s.heap:=e0.mod.Vh.keeps fun b o e=>(e0.bs b o e).1
 have lim:s.heap.NoLimit:=e0.mod.nolimit.keeps fun b o e=>(e0.bs b o e).1
 have hkind:∀y∈ps.zip us,scope.names.lookup y.1=some .local∨(scope.names.lookup y.1=some .cell∧((cellsFrom (s.heap.objs.size+1) scope.names []).lookup y.1).isSome=true):=fun⟨n,v⟩ hy=>by
  rcases S.par n (List.of_mem_zip hy).1 with q | q
  ·exact .inl q
  ·exact .inr ⟨q,PySem.W.cellsFrom_some _ _ _ (.inl q)⟩
 refine codeAny_call_function hr.depth (KX _ _ lk) rfl S.co S.gen rfl (PySem.W.codeRec_of KX hcd) (hb _ _ _ _ ?_)
 refine wpAny_newFunctionEnv_cells S.kind hkind fun env he s1 x=> ?_
 subst he
 refine⟨lim.keeps x.toInCall.keep,codeAny_func ?_⟩
 obtain⟨t,ht,hq⟩:=hbody A outer s H vs Q E (hr.deeper _) hsp
 have I:Inv (oV CX P w K mg base N qual scope f cdv A outer s H E) [] (start N vs) H s1:=JQ S hr.hd e0 hl r x
 refine wpAny_mono (ht [] s1 (start N vs) H _ I hq) (fun fl s' hs=> ?_) fun e s' hs=>hs
 have fin:∀{σ':St} {H':Hp} {v:V} {u:Value},Inv (oV CX P w K mg base N qual scope f cdv A outer s H E) [] σ' H' s'→RelV v u→Q v H'→CE outer P w H s Q u s':=
  fun{σ' H' v u} J rv q=>⟨v,H',J.os,J.bare,J.base,J.hok,rv,q⟩
 cases fl with
 | ret u=>
  obtain⟨v,σ',H',J,rv,q⟩:=hs
  exact fin J rv q
 | next=>
  obtain⟨σ',H',J,q⟩:=hs
  exact fin (v:=V.non) (u:=Value.none) J rfl q
 | brk=>
  obtain⟨_,_,_,q⟩:=hs
  exact False.elim q
 | cont=>
  obtain⟨_,_,_,q⟩:=hs
  exact False.elim q
section
variable{X:Cx}{x:Str}{p pos:Pos}{e:Expr}{es:List Expr}{t:TA}{id T:String}{r:List V→Hp→VK→Prop}
def tCB(r:List V→Hp→VK→Prop)(t:TA):TE:=fun σ H Q=>t σ H fun vs H1=>r vs H1 Q
theorem Mt(hc:kE X (.builtin id) r)(hg:Gl X x)(hm:X.mg x=none)(hv:bootBuiltins x=some (.builtin id))(ha:PA X (e::es) t)(hn:x≠ "__name__" := by decide)(hdb:(x==("__debug__" : Str))=false:=by decide)
  (he:starEach (e::es) X.env=(false,eval e X.env)::starEach es X.env:=by rfl) (hpl:(backTo pos (starEach es X.env)).any (·.1)=false:=by rfl):PE X (.Call (.Name x p) (e::es) [] pos) (tCB r t):=by
 intro pins s σ H Q I h
 refine wpAny_Call_Name_kw (Aj I hg hm hv ?_ hn hdb)
 exact PyProof.Rows.callWith_builtin1 (dR (ha pos pins s σ H _ I h) fun us s1 ⟨vs,H1,I1,r1,q1⟩=>hc pins s1 σ H1 vs us Q I1 r1 q1) he hpl
end
end L2
namespace HT
open PySem PyProof.Rows
def lexLt:List Int→List Int→Bool
 | [],[]=>false
 | [],_::_=>true
 | _::_,[]=>false
 | x::xs,y::ys=>if x=y then lexLt xs ys else decide (x<y)
theorem bw(x y:Int)(xs ys:List Int):lexLt (x::xs) (y::ys)=if x=y then lexLt xs ys else decide (x<y):=rfl
theorem yz:lexLt [] []=false:=rfl
theorem xm(y:Int)(ys:List Int):lexLt [] (y::ys)=true:=rfl
theorem xq(x:Int)(xs:List Int):lexLt (x::xs) []=false:=rfl
theorem Ol(A:Around)(s:Shared)(a:Int)(t:Tok)(c:Int)(u:Tok):∃e,SeqAt.EqAt A s (.int a t) (.int c u) e∧(e=true↔a=c):=
 ⟨(a==c),SeqAt.EqAt.int_int a t c u,by simp⟩
theorem LK(A:Around)(s:Shared)(a:Int)(t:Tok)(c:Int)(u:Tok)(prog:Program)(w:World)(E:Value→Shared→Prop)(Q:Value→Shared→Prop)(h:Q (.bool (decide (a<c))) s):
  wpAny (model prog w) A (richCompare .Lt (.int a t) (.int c u)) Q E s:=
 (PyProof.Rows.lt_int h:wpAny (model prog w) A (compareOp .Lt (.int a t) (.int c u)) Q E s)
section
open PySem.SeqAt
open PySem.AutoSeq1 (wpAny_loadPart')
open PySem.MeetsSeq PySem.MeetsSeq2 PySem.MeetsSeq3
theorem yd(l b:Addr)(items items2:Array Value)(n n2:Nat)(dd dd2:Option Addr)(sl sl2:Array (Option Value))(ns ms:List Int)(hi:IntsAre items.toList ns)(hj:IntsAre items2.toList ms):
  Meets (Builtin.«tuple.__lt__» ⟨[.ref l,.ref b],[]⟩)
   (fun _ R s=>s.heap.get? l=some {cls:= .type "tuple",dict:=dd,data:= .seq items n,slots:=sl}∧s.heap.get? b=some {cls:= .type "tuple",dict:=dd2,data:= .seq items2 n2,slots:=sl2}∧
    R (.ok (.ret (.bool (lexLt ns ms)))) s):=
 .of_wp fun prog w A R s h=>by
  obtain⟨hp,g,d,tk,os⟩:=s;obtain⟨hl,hb,h⟩:=h
  have f2:=AutoSeq1.sub_tuple_tuple
  have z1:items.size=ns.length:=by rw[←hi.length];simp
  have z2:items2.size=ms.length:=by rw[←hj.length];simp
  wp_walk using wpAny_loadPart' hl,wpAny_loadPart' hb,wpAny_forIn_list _ (fun rest b s'=>b.1=none∧s'=⟨hp,g,d,tk,os⟩∧∃(vs ws:List Value) (ns' ms':List Int),rest=vs.zip ws∧
   IntsAre vs ns'∧IntsAre ws ms'∧ns'.length+items2.size=ms'.length+items.size∧R (.ok (.ret (.bool (lexLt ns' ms')))) ⟨hp,g,d,tk,os⟩) _
  case turn=>
   rintro⟨y,x⟩ rest b s' ⟨hb',rfl,vs,ws,ns',ms',hz,hvi,hwi,hlen,hR⟩
   cases hvi with
   | nil=>rw[List.zip_nil_left]at hz;cases hz
   | cons a t ab3=>
    cases hwi with
    | nil=>rw[List.zip_nil_right]at hz;cases hz
    | cons c u ab1=>
     rw[List.zip_cons_cons]at hz
     injection hz with hyx hrest
     injection hyx with hy hx
     subst hy hx
     rw[bw]at hR
     simp only[List.length_cons]at hlen
     obtain⟨e,he,hiff⟩:=Ol A.in1 ⟨hp,g,d,tk,os⟩ a t c u
     refine wpAny_bind (he prog w _ _ ?_)
     cases e with
     | true=>
      rw[if_pos (hiff.mp rfl)]at hR
      wp_walk
      exact⟨rfl,rfl,_,_,_,_,hrest,ab3,ab1,by omega,hR⟩
     | false=>
      rw[if_neg (fun q=>absurd (hiff.mpr q) Bool.false_ne_true)]at hR
      have hri:=LK A.in1 ⟨hp,g,d,tk,os⟩ a t c u prog w
      wp_walk using hri
      exact⟨_,rfl,by simpa using hR⟩
  case fin=>
   rintro⟨b1,b2⟩ s' ⟨hb',rfl,vs,ws,ns',ms',hz,hvi,hwi,hlen,hR⟩
   simp only at hb'
   subst hb'
   have hv:lexLt ns' ms'=decide (items.size<items2.size):=by
    cases hvi with
    | nil=>
     cases hwi with
     | nil=>
      simp only[List.length_nil]at hlen
      rw[yz]
      exact(decide_eq_false (by omega)).symm
     | cons c u hw=>
      simp only[List.length_nil,List.length_cons]at hlen
      rw[xm]
      exact(decide_eq_true (by omega)).symm
    | cons a t hv=>
     cases hwi with
     | nil=>
      simp only[List.length_nil,List.length_cons]at hlen
      rw[xq]
      exact(decide_eq_false (by omega)).symm
     | cons c u hw=>
      rw[List.zip_cons_cons]at hz
      cases hz
   rw[hv]at hR
   wp_walk
   exact⟨_,rfl,by simpa[Builtin.Tuple.tupleCompareSizes]using hR⟩
  case h=>
   exact⟨rfl,rfl,items.toList,items2.toList,ns,ms,rfl,hi,hj,by omega,h⟩
end
section
variable{prog:Program}{w:World}{A:Around}{E:Value→Shared→Prop}{s:Shared}
theorem Fw{l b:Addr}{items items2:Array Value}{ns ms:List Int}{Q:Value→Shared→Prop}(hl:IsTup s.heap l items)(hb:IsTup s.heap b items2)(hi:IntsAre items.toList ns)(hj:IntsAre items2.toList ms)
  (hu:A.units<cLine) (h:Q (.bool (lexLt ns ms)) s):wpAny (model prog w) A (compareOp .Lt (.ref l) (.ref b)) Q E s:=by
 obtain⟨⟨cls,dd,data,sl⟩,ho,hc,n,hd⟩:=id hl
 obtain⟨⟨cls2,dd2,data2,sl2⟩,ho2,hc2,n2,hd2⟩:=id hb
 simp only at hc hd hc2 hd2
 subst hc hd hc2 hd2
 exact richCompare_meets_room (op:= .Lt) ⟨_,ho,rfl⟩ ⟨_,ho2,rfl⟩ PySem.F.slot_tuple_lt PySem.F.entry_tuple_lt (PySem.F.args_tuple_lt_2 _ _) (yd l b items items2 n n2 dd dd2 sl sl2 ns ms hi hj)
  ⟨ho,ho2,show Value.bool (lexLt ns ms)≠Value.notImplemented∧Q (.bool (lexLt ns ms)) s from⟨(fun x=>nomatch x),h⟩⟩ hu
theorem RG{t b:Addr}{vs ws:List Value}{Q:Value→Shared→Prop}(ht:IsTup s.heap t vs.toArray)(hb:IsTup s.heap b ws.toArray)(hv:vs≠[])
  (h1:ws=[]→Q (.ref t) s) (h2:ws≠[]→Q (.ref s.heap.objs.size) {s with heap:=s.heap.push {cls:= .type "tuple",data:= .seq (vs++ws).toArray}})
  (hsz:vs.length+ws.length≤sizeLine):wpAny (model prog w) A (binaryOp .Add (.ref t) (.ref b)) Q E s:=by
 obtain⟨⟨cls,dd,data,sl⟩,ho,hc,n,hd⟩:=id ht
 obtain⟨⟨cls2,dd2,data2,sl2⟩,ho2,hc2,n2,hd2⟩:=id hb
 simp only at hc hd hc2 hd2
 subst hc hd hc2 hd2
 have e:vs.toArray++ws.toArray=(vs++ws).toArray:=by simp
 by_cases hw:ws=[]
 ·exact concat_meets ⟨_,ho,rfl⟩ ⟨_,ho2,rfl⟩ noFill_tuple_add seq_tuple_add PySem.F.slot_tuple_add PySem.F.entry_tuple_add (PySem.F.args_tuple_add_2 _ _)
   (tuple_addW1 t b vs.toArray ws.toArray n n2 dd dd2 sl sl2 (by simpa using hv) (by simp[hw])) ⟨ho,ho2,h1 hw⟩
 ·refine concat_meets ⟨_,ho,rfl⟩ ⟨_,ho2,rfl⟩ noFill_tuple_add seq_tuple_add PySem.F.slot_tuple_add PySem.F.entry_tuple_add (PySem.F.args_tuple_add_2 _ _)
   (tuple_addW2 t b vs.toArray ws.toArray n n2 dd dd2 sl sl2 (by simpa using hv) (by simpa using hw) (by rw[List.size_toArray,List.size_toArray];exact hsz)) ⟨ho,ho2,?_⟩
  rw[e]
  exact h2 hw
def aZ(n d:Nat):Option Int→Nat
 | none=>d
 | some v=>if v<0 then(v+(n:Int)).toNat else min v.toNat n
theorem Tv(n d:Nat)(hd:d≤n)(o:Option Int):aZ n d o≤n:=by
 cases o with
 | none=>exact hd
 | some v=>
  show(if v<0 then(v+(n:Int)).toNat else min v.toNat n)≤n
  by_cases hv:v<0
  ·rw[if_pos hv];omega
  ·rw[if_neg hv];exact Nat.min_le_right _ _
theorem Im(v:Int)(n d:Nat):(if v<0 then max (v+(n:Int)) 0 else min v (n:Int))=((aZ n d (some v):Nat):Int):=by
 show(if v<0 then max (v+(n:Int)) 0 else min v (n:Int))=(((if v<0 then(v+(n:Int)).toNat else min v.toNat n):Nat):Int)
 by_cases hv:v<0
 ·simp only[if_pos hv];omega
 ·simp only[if_neg hv];omega
theorem Gv(lo hi:Option Int)(n:Nat):Builtin.Slice.sliceAdjust lo hi 1 (n:Int)=(((aZ n 0 lo:Nat):Int),((aZ n n hi:Nat):Int)):=by
 have h1:¬((1:Int)<0):=by omega
 unfold Builtin.Slice.sliceAdjust
 simp only[h1,if_false]
 refine Prod.ext ?_ ?_
 ·cases lo with
  | none=>rfl
  | some v=>exact Im v n 0
 ·cases hi with
  | none=>rfl
  | some v=>exact Im v n n
theorem Fd(i j:Nat):Builtin.Slice.slicePlaces (i:Int) (j:Int) 1=j - i:=by
 unfold Builtin.Slice.slicePlaces
 have h1:(1:Int) > 0:=by omega
 simp only[h1,if_true,Int.ediv_one]
 split<;>omega
theorem wj{v:Value}{o:Option Int}{Q:Option Int→Shared→Prop}(p:IsPart v o)(h:Q o s):wpAny (model prog w) A (Builtin.Slice.slicePartIndex v) Q E s:=by
 cases p with
 | none=>exact slicePart_none h
 | int i t=>exact slicePart_int h
theorem uh{sl:Addr}{vl vu:Value}{lo hi:Option Int}{n:Nat}{Q:Int×Int×Nat→Shared→Prop}(hs:s.heap.IsSliceOf sl vl vu .none)(pl:IsPart vl lo)(pu:IsPart vu hi)
  (h:Q (((aZ n 0 lo:Nat):Int),1,aZ n n hi - aZ n 0 lo) s):wpAny (model prog w) A (Builtin.Slice.sliceApplied (.ref sl) (pure (n:Int))) Q E s:=by
 obtain⟨os,hos,hcs,hds⟩:=id hs
 unfold Builtin.Slice.sliceApplied Builtin.Slice.sliceFields
 refine wpAny_bind (wpAny_bind (wpAny_field hos hds (x:=vl) rfl (wpAny_bind (wpAny_field hos hds (x:=vu) rfl (wpAny_bind (wpAny_field hos hds (x:= .none) rfl (wpAny_pure ?_)))))))
 refine wpAny_bind (slicePart_none ?_)
 show wpAny _ _ (if((1:Int)==0)=true then _ else _) _ _ s
 rw[if_neg (by decide)]
 refine wpAny_bind (wj pl (wpAny_bind (wj pu (wpAny_bind (wpAny_pure ?_)))))
 show wpAny _ _ (match Builtin.Slice.sliceAdjust lo hi 1 (n:Int)with | (lo,hi)=>pure (lo,(1:Int),Builtin.Slice.slicePlaces lo hi 1)) _ _ s
 rw[Gv lo hi n]
 show wpAny _ _ (pure (((aZ n 0 lo:Nat):Int),(1:Int),Builtin.Slice.slicePlaces ((aZ n 0 lo:Nat):Int) ((aZ n n hi:Nat):Int) 1)) _ _ s
 rw[Fd]
 exact wpAny_pure h
theorem Mg(xs:Array Value)(i k:Nat):((List.range k).filterMap fun(m:Nat)=>xs[((i:Int)+(m:Int)*1).toNat]?).toArray=((xs.toList.drop i).take k).toArray:=by
 have e:(fun(m:Nat)=>xs[((i:Int)+(m:Int)*1).toNat]?)=fun m=>xs[i+m]? := by
  funext m
  have:((i:Int)+(m:Int)*1).toNat=i+m:=by omega
  rw[this]
 rw[e]
 have:=pick_run xs i k
 rw[List.filterMap_map]at this
 have e2:((fun x=>xs[x]?)∘fun x=>i+x)=fun m=>xs[i+m]? := rfl
 rw[e2]at this
 rw[this]
theorem tW{t sl:Addr}{items:Array Value}{vl vu:Value}{lo hi:Option Int}{Q:Value→Shared→Prop}(ht:IsTup s.heap t items)(hs:s.heap.IsSliceOf sl vl vu .none)(pl:IsPart vl lo)(pu:IsPart vu hi)
  (hw:¬(aZ items.size 0 lo=0∧aZ items.size items.size hi=items.size))
  (h:Q (.ref s.heap.objs.size) {s with heap:=s.heap.push {cls:= .type "tuple",data:= .seq ((items.toList.drop (aZ items.size 0 lo)).take (aZ items.size items.size hi - aZ items.size 0 lo)).toArray}})
  (hsz:items.size≤sizeLine):wpAny (model prog w) A (getItem (.ref t) (.ref sl)) Q E s:=by
 have HY:sizeOk (.seq ((items.toList.drop (aZ items.size 0 lo)).take (aZ items.size items.size hi - aZ items.size 0 lo)).toArray):=by
  show((items.toList.drop (aZ items.size 0 lo)).take (aZ items.size items.size hi - aZ items.size 0 lo)).toArray.size≤sizeLine
  rw[List.size_toArray,List.length_take,List.length_drop,Array.length_toList]
  omega
 have hj:aZ items.size items.size hi≤items.size:=Tv _ _ (Nat.le_refl _) hi
 obtain⟨os,hos,hcs,hds⟩:=id hs
 have hTs:s.TypeIs (.ref sl) "slice" := ⟨os,hos,hcs⟩
 unfold getItem
 try with_reducible refine wpAny_holding ?_
 first | refine wpAny_bind (wpAny_pure ?_) | skip
 refine wpAny_bind (wpAny_sequenceKey ht.typeIs (by decide) ?_)
 refine wpAny_bind (wpAny_callSpecial?_slot (name:=Str.ofString "__getitem__") ht.typeIs PyProof.Rows.slot_tuple_getitem
  (wpAny_call_entry PyProof.Rows.slot_tuple_getitem ht.typeIs entry_tuple_getitem ?_ (args_tuple_getitem _ _)))
 show wpAny _ _ (Builtin.Tuple.tupleItemsOf (.ref t) >>= _) _ _ s
 refine wpAny_bind (tupleItemsOf_ ht ?_)
 refine wpAny_bind (wpAny_typeOf hTs ?_)
 rw[if_pos (by decide)]
 refine wpAny_bind (uh hs pl pu ?_)
 have hno:¬((((aZ items.size 0 lo:Nat):Int)==0&&(1:Int)==1&&(aZ items.size items.size hi - aZ items.size 0 lo)==items.size)=true):=by
  intro q
  rw[Bool.and_eq_true,Bool.and_eq_true]at q
  have q1:((aZ items.size 0 lo:Nat):Int)=0:=eq_of_beq q.1.1
  have q2:aZ items.size items.size hi - aZ items.size 0 lo=items.size:=eq_of_beq q.2
  exact hw ⟨by omega,by omega⟩
 show wpAny _ _ (if(((aZ items.size 0 lo:Nat):Int)==0&&(1:Int)==1&&(aZ items.size items.size hi - aZ items.size 0 lo)==items.size)=true then _ else _) _ _ s
 rw[if_neg hno,Mg]
 first
  | exact wpAny_bind (m:=Builtin.Tuple.tupleExact _) (wpAny_newObj_type (wpAny_pure ⟨_,rfl,wpAny_pure h⟩) HY)
  | exact wpAny_bind (m:=Builtin.Tuple.tupleExact _) (wpAny_newObj_type (wpAny_bind (wpAny_pure (wpAny_pure ⟨_,rfl,wpAny_pure h⟩))) HY)
  | exact wpAny_bind (wpAny_bind (m:=Builtin.Tuple.tupleExact _) (wpAny_newObj_type (wpAny_pure (wpAny_pure ⟨_,rfl,wpAny_pure h⟩)) HY))
  | exact wpAny_bind (wpAny_bind (m:=Builtin.Tuple.tupleExact _) (wpAny_newObj_type (wpAny_pure ⟨_,rfl,wpAny_pure h⟩) HY))
end
end HT
namespace L2
open PySem PySem.Spec PyProof.Rows
abbrev TO:=St→Hp→(Option Int→Hp→Prop)→Prop
def PO(X:Cx)(e:Option Expr)(t:TO):Prop:=
 ∀(pins:List (Addr×Obj)) (s:Shared) (σ:St) (H:Hp) (Q:Option Int→Hp→Prop),Inv X pins σ H s→t σ H Q→
  wpAny (model X.prog X.w) X.A (evalPart e X.env) (fun u s'=>∃o H',Inv X pins σ H' s'∧IsPart u o∧Q o H') X.xe s
def Pu:TO:=fun _ H Q=>Q none H
def W6(t:TE):TO:=fun σ H Q=>t σ H fun x H1=>∃i,x= .int i∧Q (some i) H1
theorem intsAre_of{ns:List Int}:∀{us:List Value},Vals (ns.map V.int) us→IntsAre us ns:=by
 induction ns with
 | nil=>intro us r;rw[List.map_nil]at r;cases r;exact .nil
 | cons n ns ih=>
  intro us r
  rw[List.map_cons]at r
  cases r with
  | cons r1 r2=>
   obtain⟨t,e⟩:=r1
   subst e
   exact .cons n t (ih r2)
section
variable{X:Cx}{e:Expr}{te:TE}{lo hi:Option Expr}{tl th:TO}{pos p2:Pos}
theorem QC:PO X none Pu:=by
 intro pins s σ H Q I h
 rw[evalPart_none]
 exact wpAny_pure ⟨none,H,I,.none,h⟩
theorem QB(h:PE X e te):PO X (some e) (W6 te):=by
 intro pins s σ H Q I hw
 rw[evalPart_some]
 refine dR (h pins s σ H _ I hw) fun u s1 ⟨x,H1,I1,r1,q1⟩=> ?_
 obtain⟨i,rfl,q⟩:=q1
 obtain⟨t,rfl⟩:=r1
 exact⟨some i,H1,I1,.int i t,q⟩
def SJ(X:Cx)(r:V→Option Int→Option Int→Hp→VK→Prop):Prop:=
 ∀(pins:List (Addr×Obj)) (s:Shared) (σ:St) (H:Hp) (x:V) (v vl vu:Value) (lo hi:Option Int) (sl:Addr) (Q:VK),Inv X pins σ H s→RelV x v→s.heap.IsSliceOf sl vl vu .none→IsPart vl lo→IsPart vu hi→r x lo hi H Q→
  ∃T id,typeLookup (.type T) "__getitem__" = pure (some (.builtin id))∧s.TypeIs v T∧wpAny (model X.prog X.w) X.A (getItem v (.ref sl)) (EP X pins σ Q) X.xe s
theorem SJ.or{r r':V→Option Int→Option Int→Hp→VK→Prop}(h:SJ X r)(h':SJ X r'):SJ X (fun x lo hi H Q=>r x lo hi H Q∨r' x lo hi H Q):=by
 intro pins s σ H x v vl vu lo hi sl Q I rx hs pl pu q
 rcases q with q | q
 ·exact h pins s σ H x v vl vu lo hi sl Q I rx hs pl pu q
 ·exact h' pins s σ H x v vl vu lo hi sl Q I rx hs pl pu q
def tSl(r:V→Option Int→Option Int→Hp→VK→Prop)(te:TE)(tl th:TO):TE:=fun σ H Q=>te σ H fun x H1=>tl σ H1 fun l H2=>th σ H2 fun u H3=>r x l u H3 Q
theorem Mp{r:V→Option Int→Option Int→Hp→VK→Prop}(hr:SJ X r)(he:PE X e te)(hl:PO X lo tl)(hu:PO X hi th):PE X (.Subscript e (.Slice lo hi none p2) pos) (tSl r te tl th):=by
 intro pins s σ H Q I h
 refine Subscript_ (dR (he pins s σ H _ I h) fun v s1 ⟨x,H1,I1,r1,q1⟩=> ?_)
 refine wpAny_Slice (dR (hl pins s1 σ H1 _ I1 q1) fun vl s2 ⟨l,H2,I2,pl,q2⟩=>dR (hu pins s2 σ H2 _ I2 q2) fun vu s3 ⟨u,H3,I3,pu,q3⟩=> ?_)
 rw[evalPart_none]
 refine wpAny_pure ?_
 have I4:Inv X pins σ H3 {s3 with heap:=s3.heap.push {cls:= .type "slice",data:= .fields #[vl,vu,.none]}}:=I3.kept (t':=s3.toks) fun b ob q=>Heap.get?_push_of_some _ q
 obtain⟨T,id,hT,ht,hg⟩:=hr pins {s3 with heap:=s3.heap.push {cls:= .type "slice",data:= .fields #[vl,vu,.none]}} σ H3 x v vl vu l u s3.heap.objs.size Q I4 r1 (Heap.IsSliceOf.new ..) pl pu q3
 show wpAny (model X.prog X.w) X.A (subscriptTail e (.Slice lo hi none p2) v (.ref s3.heap.objs.size)) (EP X pins σ Q) X.xe {s3 with heap:=s3.heap.push {cls:= .type "slice",data:= .fields #[vl,vu,.none]}}
 exact tail_any (ops:=[.ref s3.heap.objs.size,v]) ht hT hg (by with_unfolding_all rfl)
def Dr(xs:List V)(lo hi:Option Int):List V:=(xs.drop (HT.aZ xs.length 0 lo)).take (HT.aZ xs.length xs.length hi - HT.aZ xs.length 0 lo)
theorem uY(xs:List V)(lo hi:Option Int):(Dr xs lo hi).length≤xs.length:=by
 unfold Dr
 rw[List.length_take,List.length_drop]
 omega
def abu(K:Frag):V→Option Int→Option Int→Hp→VK→Prop:=fun x lo hi H Q=>∃a xs,x= .ref a∧jX K H a xs∧
 ¬(HT.aZ xs.length 0 lo=0∧HT.aZ xs.length xs.length hi=xs.length)∧∀p,H p=none→Q (.ref p) (upd H p (.tup (Dr xs lo hi)))
theorem Tf:SJ X (abu X.K):=by
 intro pins s σ H x v vl vu lo hi sl Q I rx hs pl pu h
 obtain⟨a,xs,rfl,hx,hw,q⟩:=h
 cases rx
 obtain⟨its,r,ht,hz⟩:=I.tuple hx
 have hlen:its.toArray.size=xs.length:=by rw[List.size_toArray];exact r.length.symm
 refine⟨"tuple",_,PyProof.Rows.slot_tuple_getitem.lookup,ht.typeIs,?_⟩
 refine HT.tW ht hs pl pu (by rw[hlen];exact hw) ?_ (by rw[hlen];exact hz)
 rw[hlen]
 refine⟨.ref s.heap.objs.size,_,I.laid (t':=s.toks) (o:= .tup (Dr xs lo hi)) (fun b ob q=>Heap.get?_push_of_some _ q) (Nat.le_refl _) ?_,rfl,q _ (I.hok.fresh (Nat.le_refl _))⟩
 exact⟨Nat.le_trans (uY xs lo hi) hz,_,(r.drop (HT.aZ xs.length 0 lo)).take (HT.aZ xs.length xs.length hi - HT.aZ xs.length 0 lo),IsTup.new _ _⟩
def aby(K:Frag):R2:=fun x y H Q=>∃a b ns ms,x= .ref a∧y= .ref b∧jX K H a (ns.map V.int)∧jX K H b (ms.map V.int)∧Q (.bl (HT.lexLt ns ms)) H
theorem UJ(hu:X.A.units<cLine):qe X (compareOp .Lt) (aby X.K):=by
 intro pins s σ H x y v u Q I rx ry h
 obtain⟨a,b,ns,ms,rfl,rfl,ha,hb,q⟩:=h
 cases rx
 cases ry
 obtain⟨its,r1,p1,_⟩:=I.tuple ha
 obtain⟨its2,r2,p2,_⟩:=I.tuple hb
 have i1:IntsAre its.toArray.toList ns:=intsAre_of r1
 have i2:IntsAre its2.toArray.toList ms:=intsAre_of r2
 exact HT.Fw p1 p2 i1 i2 hu ⟨.bl (HT.lexLt ns ms),H,I,rfl,q⟩
def XQ(K:Frag):R2:=fun x y H Q=>∃a b xs ys,x= .ref a∧y= .ref b∧jX K H a xs∧jX K H b ys∧xs≠[]∧xs.length+ys.length≤sizeLine∧
 (ys=[]→Q (.ref a) H)∧(ys≠[]→∀p,H p=none→Q (.ref p) (upd H p (.tup (xs++ys))))
theorem Vals.Ag{xs:List V}{us:List Value}(r:Vals xs us):us=[]↔xs=[]:=by
 cases r with
 | nil=>simp
 | cons _ _=>simp
theorem QS:qe X (binaryOp .Add) (XQ X.K):=by
 intro pins s σ H x y v u Q I rx ry h
 obtain⟨a,b,xs,ys,rfl,rfl,ha,hb,hx,hz,q1,q2⟩:=h
 cases rx
 cases ry
 obtain⟨its,r1,p1,_⟩:=I.tuple ha
 obtain⟨its2,r2,p2,_⟩:=I.tuple hb
 refine HT.RG p1 p2 (fun z=>hx (r1.Ag.mp z)) (fun z=>⟨.ref a,H,I,rfl,q1 (r2.Ag.mp z)⟩) (fun z=> ?_) (by rw[←r1.length,←r2.length];exact hz)
 refine⟨.ref s.heap.objs.size,_,I.laid (t':=s.toks) (o:= .tup (xs++ys)) (fun b ob q=>Heap.get?_push_of_some _ q) (Nat.le_refl _) ?_,rfl,q2 (fun w=>z (r2.Ag.mpr w)) _ (I.hok.fresh (Nat.le_refl _))⟩
 exact⟨by rw[List.length_append];exact hz,_,r1.append r2,IsTup.new _ _⟩
end
def O8(n:Nat)(i:Int):Option Nat:=if 0≤i then(if i<n then some i.toNat else none)else if -(n:Int)≤i then some (i+n).toNat else none
def Bm{α:Type}(xs:List α)(i:Int):Option α:=(O8 xs.length i).bind fun j=>xs[j]?
theorem HX{n:Nat}{i:Int}{j:Nat}(h:O8 n i=some j):seqIndex? i n=some j∧j<n∧ -(n:Int)≤i∧i<n:=by
 unfold O8 at h
 by_cases h0:0≤i
 ·rw[if_pos h0]at h
  by_cases h1:i<n
  ·rw[if_pos h1]at h
   have e:i.toNat=j:=Option.some.inj h
   exact⟨by rw[seqIndex_of h0 h1,e],by omega,by omega,h1⟩
  ·rw[if_neg h1]at h;cases h
 ·rw[if_neg h0]at h
  by_cases h1: -(n:Int)≤i
  ·rw[if_pos h1]at h
   have e:(i+n).toNat=j:=Option.some.inj h
   exact⟨by rw[seqIndex_neg (by omega) h1,e],by omega,h1,by omega⟩
  ·rw[if_neg h1]at h;cases h
theorem Bl{α:Type}{xs:List α}{i:Int}{v:α}(h:Bm xs i=some v):∃j,seqIndex? i xs.length=some j∧xs[j]? = some v∧j<xs.length∧ -(xs.length:Int)≤i∧i<xs.length:=by
 unfold Bm at h
 cases e:O8 xs.length i with
 | none=>rw[e]at h;cases h
 | some j=>
  rw[e]at h
  obtain⟨h1,h2,h3,h4⟩:=HX e
  exact⟨j,h1,h,h2,h3,h4⟩
def IV(b:Expr):Prop:=∀o i,subscripted b false o i=operate [o,i] (getItem o i)
def RX(X:Cx)(r:R2):Prop:=
 ∀(value slice:Expr) (pins:List (Addr×Obj)) (s:Shared) (σ:St) (H:Hp) (x y:V) (v u:Value) (Q:VK),Inv X pins σ H s→RelV x v→RelV y u→r x y H Q→
  subscripted slice false v u=operate [v,u] (getItem v u)→wpAny (model X.prog X.w) X.A (subscriptTail value slice v u) (EP X pins σ Q) X.xe s
def V9(X:Cx)(id:String)(r:V→List V→Hp→VK→Prop):Prop:=
 ∀(pins:List (Addr×Obj)) (s:Shared) (σ:St) (H:Hp) (x:V) (xs:List V) (v:Value) (us:List Value) (Q:VK),Inv X pins σ H s→RelV x v→Vals xs us→r x xs H Q→
  wpAny (model X.prog X.w) X.A (call (.builtin id) (v::us)) (EP X pins σ Q) X.xe s
section
variable{X:Cx}{a b:Expr}{ta tb:TE}{pos:Pos}
theorem RX.or{r r':R2}(h:RX X r)(h':RX X r'):RX X (fun x y H Q=>r x y H Q∨r' x y H Q):=by
 intro value slice pins s σ H x y v u Q I rx ry q hs
 rcases q with q | q
 ·exact h value slice pins s σ H x y v u Q I rx ry q hs
 ·exact h' value slice pins s σ H x y v u Q I rx ry q hs
theorem Yd{r:R2}(hr:RX X r)(ha:PE X a ta)(hb:PE X b tb)(hs:IV b):PE X (.Subscript a b pos) (W7 r ta tb):=by
 intro pins s σ H Q I h
 exact Subscript_ (V2 ha hb I h fun v u s2 x y H2 I2 rx ry q=>hr a b pins s2 σ H2 x y v u Q I2 rx ry q (hs _ _))
def XJ(K:Frag):R2:=fun x y H Q=>∃p xs i v,x= .ref p∧y= .int i∧mK K H p xs∧Bm xs i=some v∧Q v H
def XF(K:Frag):R2:=fun x y H Q=>∃p xs i v,x= .ref p∧y= .int i∧jX K H p xs∧Bm xs i=some v∧Q v H
def XH:R2:=fun x y H Q=>∃z i c,x= .str z∧y= .int i∧z.length≤sizeLine∧Bm z.cps.toList i=some c∧Q (.str ⟨#[c]⟩) H
theorem Rf:RX X (XJ X.K):=by
 intro value slice pins s σ H x y v u Q I rx ry h hs
 obtain⟨p,xs,i,z,rfl,rfl,hq,he,q⟩:=h
 cases rx
 obtain⟨t,rfl⟩:=ry
 obtain⟨its,r,pl,hz⟩:=I.list hq
 obtain⟨j,h1,h2,h3,h4,h5⟩:=Bl he
 obtain⟨w,ew,rw'⟩:=r.get h2
 have hl:=r.length
 have hn:=ux
 have fin:EP X pins σ Q w s:=⟨z,H,I,rw',q⟩
 by_cases h0:0≤i
 ·have hj:i.toNat=j:=by
   rw[seqIndex_of h0 h5]at h1
   exact Option.some.inj h1
  exact item_listR pl.isList h0 (by omega) (by rw[hj];simpa using ew) fin hs
 ·have hj:(i+(its.toArray.size:Int)).toNat=j:=by
   rw[seqIndex_neg (by omega) h4]at h1
   rw[List.size_toArray,←hl]
   exact Option.some.inj h1
  exact subscriptTail_builtinR (x:=w) pl.isList.typeIs slot_list_getitem.lookup
   (wpAny_getItem_list_neg (Q:=fun r s'=>r=w∧EP X pins σ Q r s') pl.isList (by omega) (by rw[List.size_toArray]<;>omega) (by omega) (by rw[hj];simpa using ew) ⟨rfl,fin⟩) hs
theorem Vn:RX X (XF X.K):=by
 intro value slice pins s σ H x y v u Q I rx ry h hs
 obtain⟨p,xs,i,z,rfl,rfl,hq,he,q⟩:=h
 cases rx
 obtain⟨t,rfl⟩:=ry
 obtain⟨its,r,pl,hz⟩:=I.tuple hq
 obtain⟨j,h1,h2,h3,h4,h5⟩:=Bl he
 obtain⟨w,ew,rw'⟩:=r.get h2
 have hl:=r.length
 have hn:=ux
 have fin:EP X pins σ Q w s:=⟨z,H,I,rw',q⟩
 exact subscriptTail_builtinR (x:=w) pl.typeIs slot_tuple_getitem.lookup
  (getItem_tuple (j:=j) (Q:=fun r s'=>r=w∧EP X pins σ Q r s') pl (by omega) (by omega) (by rw[List.size_toArray,←hl];exact h1) (by simpa using ew) ⟨rfl,fin⟩) hs
theorem Vo:RX X XH:=by
 intro value slice pins s σ H x y v u Q I rx ry h hs
 obtain⟨z,i,c,rfl,rfl,hz,he,q⟩:=h
 obtain⟨t,rfl⟩:=rx
 obtain⟨t',rfl⟩:=ry
 obtain⟨j,h1,h2,h3,h4,h5⟩:=Bl he
 have hl:z.cps.toList.length=z.length:=by simp[Str.length]
 rw[hl]at h1 h4 h5
 have hn:=ux
 exact tail_any (typeIs_str s z t) slot_str_getitem.lookup (getItem_str (c:=c) (by
  have e1:decide (i< -(2 ^ 63:Int))=false:=decide_eq_false (by omega)
  have e2:decide (i≥2 ^ 63)=false:=decide_eq_false (by omega)
  rw[e1,e2,Bool.or_false]) (by rw[h1];simpa using h2) ⟨.str ⟨#[c]⟩,H,I.tok _,⟨_,rfl⟩,q⟩) hs
theorem Fl(its:List Value)(n j:Nat)(u:Value):Obj.mapSeq (·.setIfInBounds j u) {cls:= .type "list",data:= .seq its.toArray n}={cls:= .type "list",data:= .seq (its.set j u).toArray n}:=by
 simp[Obj.mapSeq]
theorem Inv.lst{pins:List (Addr×Obj)}{σ:St}{H:Hp}{s:Shared}{p:Addr}{xs:List V}(I:Inv X pins σ H s)(h:H p=some (.lst xs)):
  ∃(its:List Value) (n:Nat),Vals xs its∧s.heap.get? p=some {cls:= .type "list",data:= .seq its.toArray n}∧xs.length≤sizeLine:=by
 obtain⟨z,its,n,r,e⟩:=I.hok p _ h
 exact⟨its,n,r,e,z⟩
theorem Inv.Ve{pins:List (Addr×Obj)}{σ:St}{H:Hp}{s:Shared}{p:Addr}{xs ys:List V}{its its':List Value}{n n':Nat}{f:Obj→Obj}(I:Inv X pins σ H s)(h:H p=some (.lst xs))
  (ho:s.heap.get? p=some {cls:= .type "list",data:= .seq its.toArray n}) (hf:f {cls:= .type "list",data:= .seq its.toArray n}={cls:= .type "list",data:= .seq its'.toArray n'}) (r:Vals ys its') (hz:ys.length≤sizeLine) (t:Nat):
  Inv X pins σ (upd H p (.lst ys)) {s with heap:=s.heap.update p f,toks:=t}:=by
 have e:(s.heap.update p f).get? p=some {cls:= .type "list",data:= .seq its'.toArray n'}:=by
  rw[Heap.get?_update_self f ho (by rw[hf]<;>rfl),hf]
 refine I.write (x:=p) (e:=p) (by rw[h];trivial) (.inl rfl) (fun b u hb q=>(Heap.get?_update_other _ _ (Ne.symm hb)).trans q) ⟨_,e⟩ ?_
 exact⟨hz,its',n',r,e⟩
def Sh:V→V→V→Hp→(Hp→Prop)→Prop:=fun o i v H Q=>∃p xs k j,o= .ref p∧i= .int k∧H p=some (.lst xs)∧O8 xs.length k=some j∧Q (upd H p (.lst (xs.set j v)))
theorem set_list:acK X Sh:=by
 intro pins s σ H o i v ov iv u Q I ro ri rv h
 obtain⟨p,xs,k,j,rfl,rfl,hp,hj,q⟩:=h
 cases ro
 obtain⟨t,rfl⟩:=ri
 obtain⟨its,n,r,ho,hz⟩:=I.lst hp
 obtain⟨h1,h2,h3,h4⟩:=HX hj
 have hl:=r.length
 have hn:=ux
 have I':Inv X pins σ (upd H p (.lst (xs.set j v))) {s with heap:=s.heap.update p (Obj.mapSeq (·.setIfInBounds j u))}:=
  I.Ve hp ho (Fl its n j u) (r.set rv j) (by rw[List.length_set];exact hz) s.toks
 by_cases h0:0≤k
 ·have hk:k.toNat=j:=by
   rw[seqIndex_of h0 h4]at h1
   exact Option.some.inj h1
  exact PySem.W.ki_setAt ho h0 (by omega) (by rw[List.size_toArray,←hl];exact h4) (by rw[hk];exact⟨_,I',q⟩)
 ·have hk:(k+(its.toArray.size:Int)).toNat=j:=by
   rw[seqIndex_neg (by omega) h3]at h1
   rw[List.size_toArray,←hl]
   exact Option.some.inj h1
  exact PySem.W.ki_setBack ho (by omega) (by rw[List.size_toArray,←hl];exact h3) (by omega) (by rw[hk];exact⟨_,I',q⟩)
theorem zP(lo hi:Option Int)(n:Nat):(sliceBounds lo hi none n).1=((HT.aZ n 0 lo:Nat):Int)∧(sliceBounds lo hi none n).2.1=((HT.aZ n n hi:Nat):Int)∧(sliceBounds lo hi none n).2.2=1:=by
 refine⟨?_,?_,rfl⟩
 ·cases lo with
  | none=>simp[sliceBounds,HT.aZ]
  | some i=>
   simp only[sliceBounds,HT.aZ,Option.getD_none,show(1:Int) > 0 by decide,if_true]
   by_cases h:i<0
   ·simp only[h,if_true]<;>omega
   ·simp only[h,if_false]<;>omega
 ·cases hi with
  | none=>simp[sliceBounds,HT.aZ]
  | some i=>
   simp only[sliceBounds,HT.aZ,Option.getD_none,show(1:Int) > 0 by decide,if_true]
   by_cases h:i<0
   ·simp only[h,if_true]<;>omega
   ·simp only[h,if_false]<;>omega
theorem ye(its:List Value)(lo hi:Option Int):slicePick its.toArray lo hi none=((its.drop (HT.aZ its.length 0 lo)).take (HT.aZ its.length its.length hi - HT.aZ its.length 0 lo)).toArray:=by
 obtain⟨h1,h2,h3⟩:=zP lo hi its.toArray.size
 unfold slicePick
 rw[h1,h2,h3]
 simp only[sliceRange_one,pick_run,List.size_toArray]<;>rfl
def abw(K:Frag):V→Option Int→Option Int→Hp→VK→Prop:=fun x lo hi H Q=>∃a xs,x= .ref a∧mK K H a xs∧∀p,H p=none→Q (.ref p) (upd H p (.lst (Dr xs lo hi)))
theorem PJ:SJ X (abw X.K):=by
 intro pins s σ H x v vl vu lo hi sl Q I rx hs pl pu h
 obtain⟨a,xs,rfl,hx,q⟩:=h
 cases rx
 obtain⟨its,r,ht,hz⟩:=I.list hx
 have hlen:=r.length
 refine⟨"list",_,slot_list_getitem.lookup,ht.isList.typeIs,?_⟩
 refine wpAny_getItem_list_slice ht.isList hs pl pu .none (by simp) ?_ (by rw[List.size_toArray]<;>omega)
 rw[ye,←hlen]
 refine⟨.ref s.heap.objs.size,_,I.laid (t':=s.toks) (o:= .lst (Dr xs lo hi)) (fun b ob q=>Heap.get?_push_of_some _ q) (Nat.le_refl _) ?_,rfl,q _ (I.hok.fresh (Nat.le_refl _))⟩
 exact⟨Nat.le_trans (uY xs lo hi) hz,_,0,(r.drop (HT.aZ xs.length 0 lo)).take (HT.aZ xs.length xs.length hi - HT.aZ xs.length 0 lo),Heap.get?_push_size _ rfl⟩
def qN:V→Bool
 | .non=>true
 | .bl _=>true
 | .int _=>true
 | .str _=>true
 | _=>false
def Rk:V→V→Bool
 | .non,.non=>true
 | .bl a,.bl b=>a==b
 | .bl a,.int b=>(if a then 1 else 0)==b
 | .int a,.bl b=>a==(if b then 1 else 0)
 | .int a,.int b=>a==b
 | .str a,.str b=>a==b
 | _,_=>false
theorem VB{A:Around}{s:Shared}{y x:V}{u v:Value}(ry:RelV y u)(rx:RelV x v)(fy:qN y=true)(fx:qN x=true):SeqAt.EqAt A s u v (Rk y x):=by
 cases y with
 | non=>
  cases ry
  cases x with
  | non=>cases rx;exact SeqAt.EqAt.same _
  | bl b=>cases rx;exact SeqAt.EqAt.none_bool b
  | int b=>obtain⟨t,rfl⟩:=rx;exact SeqAt.EqAt.none_int b t
  | str b=>obtain⟨t,rfl⟩:=rx;exact SeqAt.EqAt.none_str b t
  | _=>exact absurd (show false=true from fx) Bool.false_ne_true
 | bl a=>
  cases ry
  cases x with
  | non=>cases rx;exact SeqAt.EqAt.bool_none a
  | bl b=>cases rx;exact SeqAt.EqAt.bool_bool a b
  | int b=>obtain⟨t,rfl⟩:=rx;exact SeqAt.EqAt.bool_int a b t
  | str b=>obtain⟨t,rfl⟩:=rx;exact SeqAt.EqAt.bool_str a b t
  | _=>exact absurd (show false=true from fx) Bool.false_ne_true
 | int a=>
  obtain⟨t',rfl⟩:=ry
  cases x with
  | non=>cases rx;exact SeqAt.EqAt.int_none a t'
  | bl b=>cases rx;exact SeqAt.EqAt.int_bool a t' b
  | int b=>obtain⟨t,rfl⟩:=rx;exact SeqAt.EqAt.int_int a t' b t
  | str b=>obtain⟨t,rfl⟩:=rx;exact SeqAt.EqAt.int_str a t' b t
  | _=>exact absurd (show false=true from fx) Bool.false_ne_true
 | str a=>
  obtain⟨t',rfl⟩:=ry
  cases x with
  | non=>cases rx;exact SeqAt.EqAt.str_none a t'
  | bl b=>cases rx;exact SeqAt.EqAt.str_bool a t' b
  | int b=>obtain⟨t,rfl⟩:=rx;exact SeqAt.EqAt.str_int a t' b t
  | str b=>obtain⟨t,rfl⟩:=rx;exact SeqAt.EqAt.str_str a t' b t
  | _=>exact absurd (show false=true from fx) Bool.false_ne_true
 | _=>exact absurd (show false=true from fy) Bool.false_ne_true
def Rm(x:V)(u:Value):Bool:=match u with
 | .none=>Rk .non x
 | .bool b=>Rk (.bl b) x
 | .int i _=>Rk (.int i) x
 | .str z _=>Rk (.str z) x
 | _=>false
theorem Oh{x y:V}{u:Value}(r:RelV y u)(f:qN y=true):Rm x u=Rk y x:=by
 cases y with
 | non=>cases r;rfl
 | bl b=>cases r;rfl
 | int i=>obtain⟨t,rfl⟩:=r;rfl
 | str z=>obtain⟨t,rfl⟩:=r;rfl
 | _=>exact absurd (show false=true from f) Bool.false_ne_true
theorem Bo{x:V}:∀{xs:List V} {us:List Value},Vals xs us→xs.all qN=true→us.any (Rm x)=xs.any fun y=>Rk y x
 | _,_,.nil,_=>rfl
 | y::xs,u::us,.cons r t,f=>by
  rw[List.all_cons,Bool.and_eq_true]at f
  rw[List.any_cons,List.any_cons,Oh r f.1,Bo t f.2]
theorem wY{A:Around}{s:Shared}{x:V}{v:Value}(rx:RelV x v)(fx:qN x=true):∀{xs:List V} {us:List Value},Vals xs us→xs.all qN=true→∀u∈us,SeqAt.EqAt A s u v (Rm x u)
 | _,_,.nil,_=>fun u hu=>by cases hu
 | y::xs,u::us,.cons r t,f=>fun u' hu=>by
  rw[List.all_cons,Bool.and_eq_true]at f
  rcases List.mem_cons.mp hu with rfl | hu
  ·rw[Oh r f.1];exact VB r rx f.1 fx
  ·exact wY rx fx t f.2 u' hu
def inV(x:V)(xs:List V):Bool:=xs.any fun y=>Rk y x
def rIn(K:Frag)(neg:Bool):R2:=fun x y H Q=>∃p xs,y= .ref p∧(mK K H p xs∨jX K H p xs)∧qN x=true∧xs.all qN=true∧Q (.bl (if neg then !inV x xs else inV x xs)) H
theorem z_:qe X (compareOp .NotIn) (rIn X.K true):=by
 intro pins s σ H x y v u Q I rx ry h
 obtain⟨p,xs,rfl,hq,fx,fs,q⟩:=h
 cases ry
 rcases hq with hq | hq
 ·obtain⟨its,r,pl,hz⟩:=I.list hq
  refine SeqAt.notIn_listAt (Rm x) pl.isList (fun w hw=>wY rx fx r fs w (by simpa using hw)) ⟨.bl _,H,I,rfl,?_⟩
  rw[show its.toArray.any (Rm x)=its.any (Rm x) by simp,Bo r fs]
  exact q
 ·obtain⟨its,r,pl,hz⟩:=I.tuple hq
  refine SeqAt.notIn_tupleAt (Rm x) pl (fun w hw=>wY rx fx r fs w (by simpa using hw)) ⟨.bl _,H,I,rfl,?_⟩
  rw[show its.toArray.any (Rm x)=its.any (Rm x) by simp,Bo r fs]
  exact q
theorem Bh:kE X (.builtin "len") (fun xs H Q=>∃p ys,xs=[.ref p]∧(mK X.K H p ys∨jX X.K H p ys)∧Q (.int ys.length) H):=by
 intro pins s σ H xs us Q I r h
 obtain⟨p,ys,rfl,hq,q⟩:=h
 obtain⟨u,rfl,rx⟩:=vals1 r
 cases rx
 have hn:=ux
 rcases hq with hq | hq
 ·obtain⟨its,r',pl,hz⟩:=I.list hq
  have hlen:=r'.length
  exact Calls.call_len_list pl.isList (by simp only[List.size_toArray]<;>omega) ⟨.int ys.length,H,I.tok _,⟨s.toks+1,by rw[List.size_toArray,hlen]⟩,q⟩
 ·obtain⟨its,r',pl,hz⟩:=I.tuple hq
  have hlen:=r'.length
  exact len_tuple pl (by simp only[List.size_toArray]<;>omega) ⟨.int ys.length,H,I.tok _,⟨s.toks+1,by rw[List.size_toArray,hlen]⟩,q⟩
theorem Bg:kE X (.builtin "len") (fun xs H Q=>∃z,xs=[.str z]∧z.length≤sizeLine∧Q (.int z.length) H):=by
 intro pins s σ H xs us Q I r h
 obtain⟨z,rfl,hz,q⟩:=h
 obtain⟨u,rfl,t,rfl⟩:=vals1 r
 have hn:=ux
 exact len_str (by omega) ⟨.int z.length,H,I.tok _,⟨_,rfl⟩,q⟩
theorem kE.or{f:Value}{r r':List V→Hp→VK→Prop}(h:kE X f r)(h':kE X f r'):kE X f (fun xs H Q=>r xs H Q∨r' xs H Q):=by
 intro pins s σ H xs us Q I rs q
 rcases q with q | q
 ·exact h pins s σ H xs us Q I rs q
 ·exact h' pins s σ H xs us Q I rs q
def ZM(K:Frag)(T:String)(x:V)(H:Hp):Prop:=match x with
 | .str _=>T= "str"
 | .int _=>T= "int"
 | .ref p=>(T= "list" ∧ ∃xs,mK K H p xs)∨(T= "tuple" ∧ ∃o,K.lookup p=some o∧o.cls= .type "tuple" ∧ o.dict=none)∨
   (T= "dict" ∧ ((∃kvs,H p=some (.dK kvs))∨∃kvs,H p=some (.dT kvs)))∨(T= "set" ∧ ∃S n,H p=some (.set S n))
 | _=>False
theorem Kv{pins:List (Addr×Obj)}{σ:St}{H:Hp}{s:Shared}{T:String}{x:V}{v:Value}(I:Inv X pins σ H s)(r:RelV x v)(ty:ZM X.K T x H):
  s.TypeIs v T∧∀a,v= .ref a→∃ob,s.heap.get? a=some ob∧ob.dict=none:=by
 cases x with
 | str z=>
  obtain⟨t,rfl⟩:=r
  cases(show T= "str" from ty)
  exact⟨typeIs_str s z t,fun _ e=>nomatch e⟩
 | int i=>
  obtain⟨t,rfl⟩:=r
  cases(show T= "int" from ty)
  exact⟨typeIs_int s i t,fun _ e=>nomatch e⟩
 | ref p=>
  cases r
  rcases ty with⟨rfl,xs,hq⟩ | ⟨rfl,o,hk,hc,hd⟩ | ⟨rfl,hk⟩ | ⟨rfl,S,n,hk⟩
  ·obtain⟨its,_,pl,_⟩:=I.list hq
   refine⟨pl.isList.typeIs,fun a e=> ?_⟩
   cases e
   obtain⟨o,n,e,c,hd,_⟩:=pl
   exact⟨o,e,hd⟩
  ·refine⟨⟨o,I.oU p o hk,hc⟩,fun a e=> ?_⟩
   cases e
   exact⟨o,I.oU _ o hk,hd⟩
  ·have z:∃o,s.heap.get? p=some o∧o.ExactDict:=by
    rcases hk with⟨kvs,hk⟩ | ⟨kvs,hk⟩
    ·obtain⟨_,_,_,_,o,_,_,e,ex,_⟩:=I.hok p _ hk
     exact⟨o,e,ex⟩
    ·obtain⟨_,_,_,_,o,_,_,e,ex,_⟩:=I.hok p _ hk
     exact⟨o,e,ex⟩
   obtain⟨o,e,ex⟩:=z
   refine⟨⟨o,e,ex.1⟩,fun a e2=> ?_⟩
   cases e2
   exact⟨o,e,ex.2.1⟩
  ·obtain⟨o,_,_,_,e,ex,_⟩:=I.hok p _ hk
   refine⟨⟨o,e,ex.1⟩,fun a e2=> ?_⟩
   cases e2
   exact⟨o,e,ex.2.1⟩
 | _=>exact False.elim ty
def abb(K:Frag)(T:String)(r:V→List V→Hp→VK→Prop)(to:TE):TE:=fun σ H Q=>to σ H fun x H1=>ZM K T x H1∧r x [] H1 Q
def tBM(K:Frag)(T:String)(r:V→List V→Hp→VK→Prop)(to:TE)(t:TA):TE:=fun σ H Q=>to σ H fun x H1=>ZM K T x H1∧t σ H1 fun xs H2=>r x xs H2 Q
variable{o e:Expr}{es:List Expr}{to:TE}{t:TA}{name:Str}{apos cpos:Pos}{T id:String}{r:V→List V→Hp→VK→Prop}
theorem Um(pa:PlainAttrs T)(slot:Slot T name id)(hty:typeOf (.builtin id)=pure (.type "method_descriptor"))(hm:V9 X id r)(ho:PE X o to)
  (hbase:attributeBase o name X.env (eval o X.env)=eval o X.env:=by rfl) (hline:(apos.endLine==cpos.line)=true:=by rfl):PE X (.Call (.Attribute o name apos) [] [] cpos) (abb X.K T r to):=by
 intro pins s σ H Q I h
 refine wpAny_Call_method0_late hbase hline (dR (ho pins s σ H _ I h) fun v s1 ⟨x,H1,I1,r1,ty,q1⟩=> ?_)
 obtain⟨h1,h2⟩:=Kv I1 r1 ty
 exact⟨T,id,pa,slot,hty,h1,h2,Calls.callWith_builtin rfl (PySem.evalArgs_none (hm pins s1 σ H1 x [] v [] Q I1 r1 .nil q1))⟩
theorem Ye(pa:PlainAttrs T)(slot:Slot T name id)(hty:typeOf (.builtin id)=pure (.type "method_descriptor"))(hm:V9 X id r)(ho:PE X o to)(ha:PA X (e::es) t)
  (hbase:attributeBase o name X.env (eval o X.env)=eval o X.env:=by rfl)
  (hfew:((backTo cpos (starEach (e::es) X.env)).all (fun x=> !x.1)&&(backToKw cpos (keywordEach [] X.env)).all (fun x=>x.1.isSome)
   && decide ((e::es).length+([]:List Keyword).length+(if([]:List Keyword).isEmpty then 0 else 1)<30))=true:=by rfl)
  (hline:(apos.endLine==cpos.line)=true:=by rfl) (hs:starEach (e::es) X.env=(false,eval e X.env)::starEach es X.env:=by rfl) (hplain:(backTo cpos (starEach es X.env)).any (·.1)=false:=by rfl):
  PE X (.Call (.Attribute o name apos) (e::es) [] cpos) (tBM X.K T r to t):=by
 intro pins s σ H Q I h
 refine wpAny_Call_method_late hbase hfew hline rfl (dR (ho pins s σ H _ I h) fun v s1 ⟨x,H1,I1,r1,ty,q1⟩=> ?_)
 obtain⟨h1,h2⟩:=Kv I1 r1 ty
 refine⟨T,id,pa,slot,hty,h1,h2,?_⟩
 have hA:=ha cpos pins s1 σ H1 _ I1 q1
 rw[hs]at hA ⊢
 refine Calls.callWith_builtin (by show(false||(backTo cpos (starEach es X.env)).any (·.1))=false;rw[hplain]<;>rfl) (Calls.evalArgs_plain ?_)
 exact dR hA fun us s2 ⟨vs,H2,I2,r2,q2⟩=>hm pins s2 σ H2 x vs v us Q I2 r1 r2 q2
end
def MtM(X:Cx)(id:String)(r:V→List V→Hp→VK→Prop):Prop:=
 ∀(pins:List (Addr×Obj)) (s:Shared) (σ:St) (H:Hp) (x:V) (xs:List V) (v:Value) (us:List Value) (Q:VK),Inv X pins σ H s→RelV x v→Vals xs us→r x xs H Q→
  wpAny (model X.prog X.w) X.A (call (.builtin id) (v::us)) (EP X pins σ Q) X.xe s
theorem Vals.one:∀{x:V} {us:List Value},Vals [x] us→∃u,us=[u]∧RelV x u
 | _,_,.cons r .nil=>⟨_,rfl,r⟩
theorem Vals.zero:∀{us:List Value},Vals [] us→us=[]
 | _,.nil=>rfl
section
variable{X:Cx}{pins:List (Addr×Obj)}{σ:St}{H:Hp}{s:Shared}{l b:Addr}{xs ys zs:List V}
theorem Inv.Yy{its its':List Value}{n:Nat}{f:Array Value→Array Value}{t':Nat}(I:Inv X pins σ H s)(hH:H l=some (.lst xs))
  (e:s.heap.get? l=some {cls:= .type "list",data:= .seq its.toArray n}) (hf:f its.toArray=its'.toArray) (hv:Vals ys its') (hz:ys.length≤sizeLine):
  Inv X pins σ (upd H l (.lst ys)) {s with heap:=s.heap.update l (Obj.mapSeq f),toks:=t'}:=by
 have q:=PySem.IsL.update e f
 rw[hf]at q
 refine I.write (x:=l) (e:=l) (by rw[hH];exact trivial) (.inl rfl) (fun b' u hb hu=>(Heap.get?_update_other s.heap (Obj.mapSeq f) (Ne.symm hb)).trans hu) ⟨_,q⟩ ?_
 exact⟨hz,its',_,hv,q⟩
theorem Inv.YB{its:List Value}{t':Nat}(I:Inv X pins σ H s)(hv:Vals ys its)(hz:ys.length≤sizeLine):
  Inv X pins σ (upd H s.heap.objs.size (.lst ys)) {s with heap:=s.heap.push {cls:= .type "list",data:= .seq its.toArray},toks:=t'}:=
 I.laid (fun _ _ q=>Heap.get?_push_of_some _ q) (Nat.le_refl _) ⟨hz,its,0,hv,Heap.get?_push_size _ rfl⟩
theorem Inv.fresh(I:Inv X pins σ H s):H s.heap.objs.size=none:=I.hok.fresh (Nat.le_refl _)
theorem Inv.JF(I:Inv X pins σ H s)(hH:H l=some (.lst xs)):xs.length≤sizeLine∧∃(its:List Value) (n:Nat),Vals xs its∧xs.length=its.length∧s.heap.get? l=some {cls:= .type "list",data:= .seq its.toArray n}:=by
 obtain⟨z,its,n,r,e⟩:=I.hok l _ hH
 exact⟨z,its,n,r,r.length,e⟩
theorem Mw{n:Nat}(h:n≤sizeLine):Builtin.List.listTooLong n=false:=by
 unfold Builtin.List.listTooLong
 exact decide_eq_false (by omega)
end
section
variable{X:Cx}
def Qo:V→List V→Hp→VK→Prop:=fun x vs H Q=>∃l xs y,x= .ref l∧vs=[y]∧H l=some (.lst xs)∧xs.length<sizeLine∧Q .non (upd H l (.lst (xs++[y])))
theorem Jx:MtM X "list.append" Qo:=by
 intro pins s σ H x vs v us Q I rx rv h
 obtain⟨l,xs,y,rfl,rfl,hH,hz,q⟩:=h
 cases rx
 obtain⟨u,rfl,ru⟩:=rv.one
 obtain⟨z,its,n,r,hl,e⟩:=I.JF hH
 refine call_meets F.slot_list_append ⟨_,e,rfl⟩ F.entry_list_append (F.args_list_append_2 _ _) (PySem.list_append l its.toArray n u (by rw[List.size_toArray];omega)) ⟨e,?_⟩
 refine⟨.non,_,I.Yy (its':=its++[u]) hH e (by simp) (r.append (.cons ru .nil)) ?_,rfl,q⟩
 rw[List.length_append,List.length_singleton]
 omega
def Qn:V→List V→Hp→VK→Prop:=fun x vs H Q=>∃l b xs zs,x= .ref l∧vs=[.ref b]∧H l=some (.lst xs)∧H b=some (.lst zs)∧xs.length+zs.length≤sizeLine∧Q .non (upd H l (.lst (xs++zs)))
theorem Jw:MtM X "list.extend" Qn:=by
 intro pins s σ H x vs v us Q I rx rv h
 obtain⟨l,b,xs,zs,rfl,rfl,hH,hB,hz,q⟩:=h
 cases rx
 obtain⟨u,rfl,ru⟩:=rv.one
 cases ru
 obtain⟨z,its,n,r,hl,e⟩:=I.JF hH
 obtain⟨z2,its2,n2,r2,hl2,e2⟩:=I.JF hB
 have hsz:its.toArray.size+its2.toArray.size≤sizeLine:=by rw[List.size_toArray,List.size_toArray];omega
 have YS:¬(!its.toArray.isEmpty&&Builtin.List.listTooLong (its.toArray.size+its2.toArray.size))=true:=by
  rw[Mw hsz,Bool.and_false]
  exact Bool.false_ne_true
 refine call_meets F.slot_list_extend ⟨_,e,rfl⟩ F.entry_list_extend (F.args_list_extend_2 _ _)
  (AutoSeq1.list_extend_list_list_0 l its.toArray n b its2.toArray n2 YS (by rw[List.size_toArray];omega) (by omega)) ⟨e,e2,?_⟩
 refine⟨.non,_,I.Yy (its':=its++its2) hH e (by simp) (r.append r2) ?_,rfl,q⟩
 rw[List.length_append]
 omega
def abA:R2:=fun x y H Q=>∃l b xs zs,x= .ref l∧y= .ref b∧H l=some (.lst xs)∧H b=some (.lst zs)∧xs.length+zs.length≤sizeLine∧∀p,H p=none→Q (.ref p) (upd H p (.lst (xs++zs)))
theorem UW:qe X (binaryOp .Add) abA:=by
 intro pins s σ H x y v u Q I rx ry h
 obtain⟨l,b,xs,zs,rfl,rfl,hH,hB,hz,q⟩:=h
 cases rx
 cases ry
 obtain⟨z,its,n,r,hl,e⟩:=I.JF hH
 obtain⟨z2,its2,n2,r2,hl2,e2⟩:=I.JF hB
 refine PySem.P.add_list e e2 ?_ (by rw[List.size_toArray,List.size_toArray];omega)
 have ea:its.toArray++its2.toArray=(its++its2).toArray:=by simp
 rw[ea]
 exact⟨.ref _,_,I.YB (t':=s.toks) (r.append r2) (by rw[List.length_append];omega),rfl,q _ I.fresh⟩
end
end L2
namespace Att
open PySem PySem.W PySem.Calls PyProof.Rows
theorem vC{P:Params}{h:Heap}:∀(ns:List Int) (vs:List Value),WellAll P h vs (ns.map WData.int)→IntsAre vs ns:=by
 intro ns
 induction ns with
 | nil=>
  intro vs w
  rw[List.map_nil]at w
  cases w
  exact .nil
 | cons n ns ih=>
  intro vs w
  rw[List.map_cons]at w
  cases w with
  | cons a b=>
   cases a
   exact .cons _ _ (ih _ b)
theorem Jh{l:OpenLaw}{n:Nat}(hn:l.most=some n){P:Params}{h:Heap}{args:List WData}{vals:List Value}
  (hpre:l.row.toRowW.claim.pre args=true) (hwl:WellAll P h vals args):
  ∃a vs ns,vals=[Value.ref a]∧args=[WData.list (ns.map WData.int)]∧h.get? a=some {cls:= .type "list",data:= .seq vs.toArray}∧IntsAre vs ns∧ns.length≤n:=by
 have hsh:WShape.hasAll [] args [.list .int]=true:=(pre_splitW hpre).1
 have hc:l.pre.holds [] {args:=args}=true:=(pre_splitW hpre).2
 obtain⟨d,r,rfl,h1,h2⟩:=hasAllW_cons hsh
 obtain rfl:=hasAllW_nil h2
 obtain⟨xs,rfl,h3⟩:=hasW_list h1
 obtain⟨ns,rfl⟩:=items_int h3
 have hlen:ns.length≤n:=by
  unfold OpenLaw.pre at hc
  have h4:(WTm.not (.lt (.lit (.int (n:Int))) (.len (.arg 0)))).holds [] {args:=[.list (ns.map .int)]}=true:=by
   have h4:=(holds_andW hc).1
   rw[hn]at h4
   exact h4
  have h5:=condW_of h4 (w_not (w_lt w_lit (w_len_list (w_arg rfl))))
  rw[List.length_map]at h5
  refine Nat.le_of_not_lt fun q=> ?_
  have q':(n:Int)<((ns.length:Nat):Int):=by omega
  first
   | (rw[decide_eq_true q']at h5;exact absurd h5 (by decide))
   | (simp at h5;omega)
 cases hwl with
 | cons w1 w2=>
  cases w2
  cases w1 with
  | list ho hall=>exact⟨_,_,ns,rfl,rfl,ho,vC ns _ hall,hlen⟩
theorem Jm(l:OpenLaw)(args:List WData):l.row.toRowW.claim.post args (.bool true) args=true:=
 postW_of (r:=l.row.toRowW) (X:=(true==true))
  (show WShape.has [] (.bool true) .bool=true by first | rfl | decide | simp[WShape.has,WShape.arms,WShape.armsAll])
  (show(WTm.eq .res (.lit (.bool true))).value [] {args:=args,res:=some (.bool true),after:=args}=some (.bool (true==true))from w_eq_bool (w_res rfl) w_lit) rfl
theorem DP{l:OpenLaw}{n:Nat}{q:Program}{loose:List Str}{XP:(Str→Option Value)→Heap→Prop}{YP:World→Heap→Prop}{d:DefRec}
  (hn:l.most=some n) (hdf:d.params.defaults=[])
  (call:∀(w:World) (s₀ s₁:Shared) (mg mb:Str→Option Value) (fa:Addr) (o:Obj) (pm cd doc:Value) (a:Addr) (vs:List Value) (ns:List Int),
   Ground q loose [] XP w s₀ mg mb s₁.heap→YP w s₁.heap→
   s₁.heap.get? fa=some o→o.data= .func (docDef d.name d.params d.body d.scope pm cd doc)→s₁.heap.CodeRec cd d.name→mg d.name=some (.ref fa)→
   s₁.heap.get? a=some {cls:= .type "list",data:= .seq vs.toArray}→IntsAre vs ns→ns.length≤n→s₁.gens= #[]→
   codeAny (model l.prog w) callerA (.call (.ref fa) ⟨[.ref a],[]⟩) (fun r s'=>r= .ok (.ret (.bool true))∧OldK s₁.heap s'.heap∧s'.os=s₁.os∧AllBare s'.gens) s₁):
  WalkO q loose XP YP l.row.toRowW d [] (fun f vs=>PySem.call f vs):=by
 intro w s₀ s₁ mg mb G Y fa o pm cd doc dV kV ho hd hcd hD hmg hg args vals as hpre hlay hrd hwl hlo
 obtain rfl:dV= .none:=Dflts.none hD hdf
 obtain rfl:kV= .none:=Dflts.noKw hD
 obtain⟨a,vs,ns,rfl,rfl,hobj,hints,hlen⟩:=Jh hn hpre hwl
 refine enter_call (codeAny_mono (call w s₀ s₁ mg mb fa o pm cd doc a vs ns G Y ho (fd_plain hd) hcd hmg hobj hints hlen hg) fun r s' hq=> ?_)
 obtain⟨rfl,h2,h3,h4⟩:=hq
 exact⟨.inl ⟨.bool true,.bool true,[],rfl,fun _=>rfl,.bool true,Jm l _,fun _=>⟨List.Pairwise.nil,fun _ hm=>(nomatch hm)⟩⟩,h2,h3,h4⟩
end Att
namespace L2
open PySem PySem.Spec PyProof.Rows
theorem yG:∀{vs:List Value} {ns:List Int},IntsAre vs ns→Vals (ns.map V.int) vs
 | _,_,.nil=> .nil
 | _,_,.cons n t h=> .cons ⟨t,rfl⟩ (yG h)
def Only(H:Hp):Prop:=∀b,H b=none∨∃o xs,H b=some (.pU o (.lst xs))
theorem Nq{P:Program}{w:World}{K:Frag}{mg mb:Str→Option Value}{CX:GJ}{k:Nat}{fa a:Addr}{fd:FuncData}{x:Str}{sp:Sp}{s₁:Shared}{vs:List Value}{ns:List Int}
  (KX:K.In s₁.heap) (hns:s₁.heap.Ns mainGlobals mg) (hb:s₁.heap.Ns builtinsNs mb) (hbb:∀x:Str,x≠ "__name__" → mb x=bootBuiltins x) (hlim:s₁.heap.NoLimit) (hg:s₁.gens= #[])
  (ha:s₁.heap.get? a=some {cls:= .type "list",data:= .seq vs.toArray}) (hi:IntsAre vs ns) (hl:ns.length≤sizeLine) (hr:dJ k callerA)
  (F:∀base:Heap,K.In base→base.Ns mainGlobals mg→bh P w K mg base CX k fa fd [x] sp) (hbind:∀(s:Shared) (u:Value),BindsTo s fd ⟨[u],[]⟩ [(x,u)])
  (hsp:∀H:Hp,Only H→mK K H a (ns.map V.int)→sp [.ref a] H (fun v _=>v= .bl true) fun _ _ _=>False)
  (hCX:∀H e s',CX [] H s₁ (fun _ _ _=>False) e s'→False):
  codeAny (model P w) callerA (.call (.ref fa) ⟨[.ref a],[]⟩) (fun r s'=>r= .ok (.ret (.bool true))∧OldK s₁.heap s'.heap∧s'.os=s₁.os∧AllBare s'.gens) s₁:=by
 have rv:=yG hi
 have lenV:=hi.length
 have core:∀H:Hp,Only H→mK K H a (ns.map V.int)→lU P w H s₁.heap→(∀b,H b≠none→b=a)→(H a≠none→K.lookup a=none)→
   codeAny (model P w) callerA (.call (.ref fa) ⟨[.ref a],[]⟩) (fun r s'=>r= .ok (.ret (.bool true))∧OldK s₁.heap s'.heap∧s'.os=s₁.os∧AllBare s'.gens) s₁:=by
  intro H hO hS hok hA hK
  have Iu:∀{b:Addr} {o:Obj},s₁.heap.get? b=some o→H b=none→(Ay s₁.heap H).get? b=some o:=fun e n=>NT e n
  have U7:∀{b:Addr} {o:Obj} {es:Array DictEntry} {ep:Nat},s₁.heap.get? b=some o→o.data= .dict es ep→H b=none:=fun{b o es ep} e d=>by
   cases q:H b with
   | none=>rfl
   | some u=>
    have e':b=a:=hA b (by rw[q];simp)
    subst e'
    rw[ha]at e;cases e
    have d':Data.seq vs.toArray _=Data.dict es ep:=d
    cases d'
  have nsK:∀{b:Addr} {m:Str→Option Value},s₁.heap.Ns b m→(Ay s₁.heap H).Ns b m:=fun{b m} ⟨o,es,ep,e,d,r⟩=>⟨o,es,ep,Iu e (U7 e d),d,r⟩
  have hKb:K.In (Ay s₁.heap H):=fun b o e=>Iu (KX b o e) (by
   cases q:H b with
   | none=>rfl
   | some u=>
    have e':b=a:=hA b (by rw[q];simp)
    subst e'
    rw[hK (by rw[q];simp)]at e;cases e)
  have hM:Mod K mg (Ay s₁.heap H):=⟨hKb,nsK hns,⟨mb,nsK hb,hbb⟩,let⟨mc,h1,h2⟩:=hlim;⟨mc,nsK h1,h2⟩⟩
  have e0:yD P w K mg (Ay s₁.heap H) callerA [] s₁ H:=⟨rfl,hM,fun b o e=>QZ e,Nat.le_of_eq (JR _ _),trivial,fun b hb=>absurd (show b∈([]:List Addr)from hb) (by simp),hok,.of_eq hg⟩
  refine codeAny_mono ((F _ hKb (nsK hns)).run callerA [] s₁ H ⟨[.ref a],[]⟩ [.ref a] [.ref a] _ _ hr e0 (hbind s₁ (.ref a)) (.cons rfl .nil) (hsp H hO hS)) fun r s' h=> ?_
  cases r with
  | error e=>exact(hCX H e s' h).elim
  | ok fl=>
   cases fl with
   | next=>exact False.elim h
   | brk=>exact False.elim h
   | cont=>exact False.elim h
   | ret u=>
    obtain⟨v,H',os,bare,un,hok',r',q⟩:=h
    have q':v= .bl true:=q
    subst q'
    obtain rfl:u=Value.bool true:=r'
    refine⟨rfl,OldK.of_keep fun b o e=> ?_,os,bare⟩
    cases q:H b with
    | none=>exact un.keep b o e q (by intro z;exact absurd (show b∈([]:List Addr)from z) (by simp)) (by simp)
    | some u=>
     rcases hO b with z | ⟨ob,xs,z⟩
     ·rw[q]at z;cases z
     ·have z2:=un.rR b ob _ z
      obtain⟨e1,_⟩:=hok b _ z
      obtain⟨e2,_⟩:=hok' b _ z2
      rw[e]at e1;cases e1
      exact e2
 cases hk:K.lookup a with
 | some o=>
  have e:=KX a o hk
  rw[ha]at e
  cases e
  refine core (fun _=>none) (fun _=> .inl rfl) (.inr ⟨_,vs.toArray,_,hk,rfl,rfl,rfl,by rw[List.size_toArray,lenV];exact hl,by simpa using rv⟩) (fun b u z=>by have z':(none:Option HO)=some u:=z;cases z') (fun b z=>absurd rfl z) fun z=>absurd rfl z
 | none=>
  refine core (fun b=>if b=a then some (.pU {cls:= .type "list",data:= .seq vs.toArray} (.lst (ns.map V.int)))else none) (fun b=> ?_) (.inl (.inr ⟨{cls:= .type "list",data:= .seq vs.toArray},if_pos rfl⟩)) (fun b u z=> ?_) (fun b z=> ?_) fun _=>hk
  ·by_cases hb:b=a
   ·exact .inr ⟨_,_,if_pos hb⟩
   ·exact .inl (if_neg hb)
  ·by_cases hb:b=a
   ·have z':=(if_pos hb).symm.trans z
    cases z'
    subst hb
    exact⟨ha,by rw[List.length_map];exact hl,vs,_,rv,ha⟩
   ·have z':=(if_neg hb).symm.trans z
    cases z'
  ·by_cases hb:b=a
   ·exact hb
   ·exact absurd (if_neg hb) z
abbrev KOf{K:Frag}{h:Heap}(_:K.In h):Frag:=K
theorem Pn{l:PySem.W.OpenLaw}{n k:Nat}{q:Program}{loose:List Str}{XP:(Str→Option Value)→Heap→Prop}{YP:World→Heap→Prop}{d:DefRec}{K:Params→Frag}{CX:World→GJ}{sp:World→Sp}{x:Str}
  (hn:l.most=some n) (hn2:n≤sizeLine) (hdf:d.params.defaults=[]) (hr:dJ k callerA)
  (hY:∀(w:World) (h:Heap),YP w h→(K w.params).In h)
  (F:∀(w:World) (mg:Str→Option Value) (fa:Addr) (h:Heap),(K w.params).In h→h.Ns mainGlobals mg→mg d.name=some (.ref fa)→
   ∃fd:FuncData,(∀(s:Shared) (u:Value),BindsTo s fd ⟨[u],[]⟩ [(x,u)])∧
    ∀base:Heap,(K w.params).In base→base.Ns mainGlobals mg→bh l.prog w (K w.params) mg base (CX w) k fa fd [x] (sp w))
  (hsp:∀(w:World) (H:Hp) (a:Addr) (ns:List Int),ns.length≤n→Only H→mK (K w.params) H a (ns.map V.int)→sp w [.ref a] H (fun v _=>v= .bl true) fun _ _ _=>False)
  (hCX:∀(w:World) (H:Hp) (s:Shared) (e:Value) (s':Shared),CX w [] H s (fun _ _ _=>False) e s'→False):
  PySem.W.WalkO q loose XP YP l.row.toRowW d [] (fun f vs=>PySem.call f vs):=by
 refine Att.DP hn hdf fun w s₀ s₁ mg mb fa o pm cd doc a vs ns G Y ho hd hcd hmg hobj hints hlen hg=> ?_
 have KX:=hY w _ Y
 obtain⟨fd,hb,hF⟩:=F w mg fa _ KX G.T.g hmg
 exact Nq KX G.T.g G.T.b G.T.builtins G.T.nolimit hg hobj hints (Nat.le_trans hlen hn2) hr hF hb (fun H hO hS=>hsp w H a ns hlen hO hS) fun H e s'=>hCX w H s₁ e s'
def inClass(s:Stmt)(j:Nat):Stmt:=match s with
 | .ClassDef _ _ _ body _ _ _ _ _ _ _=>body.getD j (.Pass ⟨0,0,0,0⟩)
 | _=> .Pass ⟨0,0,0,0⟩
def aH(s:Stmt):Arguments:=match s with
 | .FunctionDef _ a _ _ _ _ _ _ _ _=>a
 | _=>{posonlyargs:=[],args:=[],vararg:=none,kwonlyargs:=[],kw_defaults:=[],kwarg:=none,defaults:=[]}
def aD(s:Stmt):List Stmt:=match s with
 | .FunctionDef _ _ b _ _ _ _ _ _ _=>b
 | _=>[]
def aq(s:Stmt):Scope:=match s with
 | .FunctionDef _ _ _ _ _ _ sc _ _ _=>sc
 | _=>{kind:= .function,names:=[],isGenerator:=false,isCoroutine:=false}
abbrev GK:GJ:=fun _ _ _ _ _ _=>False
abbrev E0:XK:=fun _ _ _=>False
structure Fun(K:Frag)(x qual:Str)(st:Stmt)(f:Addr)(fd:FuncData):Prop where
 ex:∃(oc:Value) (od:Option Addr) (kV doc pm:Value) (an:Option Addr) (cdv ct:Value) (osl:Array (Option Value)),
  fd=fnOf x qual (aH st) (aD st) (aq st) .none kV doc pm an cdv ct∧K.lookup f=some ⟨oc,od,.func fd,osl⟩∧codeIn K cdv qual=true
 kp:keepIn K (.ref f)=true
section
variable{P:Program}{w:World}{K:Frag}{mg:Str→Option Value}{base:Heap}
theorem Fun.ok{x qual:Str}{st:Stmt}{f:Addr}{fd:FuncData}{N ps:List Str}{k:Nat}{sp:Sp}(F:Fun K x qual st f fd)(S:bA N ps (aq st))(len:∀vs H Q E,sp vs H Q E→vs.length=ps.length)
  (hbody:∀(cdv:Value) (A:Around) (outer:List Env) (s:Shared) (H:Hp) (vs:List V) (Q:VK) (E:XK),dJ k (A.deeper (envOfC qual (aq st) s.heap.objs.size f cdv))→sp vs H Q E→
   ∃t,vU (oV GK P w K mg base N qual (aq st) f cdv A outer s H E).Mv (aD st) t∧t {nx:=fun _ H'=>Q .non H',rt:=Q} (start N vs) H):bh P w K mg base GK (k+1) f fd ps sp:=by
 obtain⟨oc,od,kV,doc,pm,an,cdv,ct,osl,rfl,lk,hcd⟩:=F.ex
 refine Od lk hcd S len fun A outer s H vs Q E hr hsp=> ?_
 obtain⟨t,h,q⟩:=hbody cdv A outer s H vs Q E hr hsp
 exact⟨t,h.Mv,q⟩
end
section
variable{X:Cx}
theorem pv(i:Nat){x:Str}{pos:Pos}(hN:X.N[i]? = some x:=by rfl)(hv:ZF X.env.scope x:=by first | exact Or.inl rfl | exact Or.inr (Or.inl rfl) | exact Or.inr (Or.inr rfl))(hd:(x==("__debug__" : Str))=false:=by decide)
  (hcd:(x==("__classdict__" : Str))=false:=by decide):PE X (.Name x pos) (Pr i):=Mm hN hv hd hcd
end
def O2(H H':Hp):Prop:=∀b o,H b=some o→H' b=some o
theorem O2.free{H H':Hp}(e:O2 H H'){l:Addr}(h:H' l=Option.none):H l=Option.none:=by
 cases q:H l with
 | none=>rfl
 | some o=>
  rw[e l o q]at h
  cases h
theorem xU{env:Env}{scope:Scope}(h:∀n,(n,NameKind.free)∈scope.names→∃c,env.cells.lookup n=some c):
  ∃cl,closureFor scope env=pure cl∧(∀n c,cl.lookup n=some c→env.cells.lookup n=some c)∧∀n,(n,NameKind.free)∈scope.names→∃c,cl.lookup n=some c:=by
 have go:∀(names:List (Str×NameKind)) (acc:List (Str×Addr)),(∀n,(n,NameKind.free)∈names→∃c,env.cells.lookup n=some c)→(∀n c,acc.lookup n=some c→env.cells.lookup n=some c)→
   ∃cl,(forIn names acc fun(x:Str×NameKind) (r:List (Str×Addr))=>if(x.2==NameKind.free)=true then do let a ←cellOf env x.1;pure (ForInStep.yield ((x.1,a)::r))else pure (ForInStep.yield r):Sem (List (Str×Addr)))=pure cl∧
    (∀n c,cl.lookup n=some c→env.cells.lookup n=some c)∧(∀n,(n,NameKind.free)∈names→∃c,cl.lookup n=some c)∧∀n c,acc.lookup n=some c→∃c,cl.lookup n=some c:=by
  intro names
  induction names with
  | nil=>intro acc _ h2;exact⟨acc,rfl,h2,(fun _ z=>nomatch z),fun n c e=>⟨c,e⟩⟩
  | cons x r ih=>
   intro acc h1 h2
   obtain⟨n,k⟩:=x
   by_cases hk:k=NameKind.free
   ·subst hk
    obtain⟨c,hc⟩:=h1 n List.mem_cons_self
    obtain⟨cl,e1,e2,e3,e4⟩:=ih ((n,c)::acc) (fun m z=>h1 m (List.mem_cons_of_mem _ z)) (fun m d e=>by
     rw[List.lookup_cons]at e
     cases q:m==n with
     | true=>rw[q]at e;cases e;rw[eq_of_beq q];exact hc
     | false=>rw[q]at e;exact h2 m d e)
    refine⟨cl,?_,e2,fun m z=> ?_,fun m d e=> ?_⟩
    ·rw[List.forIn_cons]
     have:cellOf env n=pure c:=by unfold cellOf;rw[hc]
     simp only[this,beq_self_eq_true,if_true]
     exact e1
    ·rcases List.mem_cons.mp z with z | z
     ·cases z
      exact e4 n c (by rw[List.lookup_cons,beq_self_eq_true])
     ·exact e3 m z
    ·cases q:m==n with
     | true=>exact e4 m c (by rw[List.lookup_cons,q])
     | false=>exact e4 m d (by rw[List.lookup_cons,q];exact e)
   ·obtain⟨cl,e1,e2,e3,e4⟩:=ih acc (fun m z=>h1 m (List.mem_cons_of_mem _ z)) h2
    refine⟨cl,?_,e2,fun m z=> ?_,e4⟩
    ·rw[List.forIn_cons]
     have:(k==NameKind.free)=false:=by simpa using hk
     simp only[this,Bool.false_eq_true,if_false]
     exact e1
    ·rcases List.mem_cons.mp z with z | z
     ·cases z;exact absurd rfl hk
     ·exact e3 m z
 obtain⟨cl,e1,e2,e3,_⟩:=go scope.names [] h (fun _ _ e=>nomatch e)
 refine⟨cl,?_,e2,e3⟩
 unfold closureFor
 show(forIn scope.names [] _ >>= fun r=>pure r)=_
 rw[show(forIn scope.names [] fun(x:Str×NameKind) (r:List (Str×Addr))=>_:Sem (List (Str×Addr)))=pure cl from e1]
 rfl
def bI(env:Env)(x:Str×NameKind):Str×NameKind:=if(x.2== .free&&env.scope.kind== .function&&env.kindOf x.1==some .cell)then(x.1,.cell)else(x.1,x.2)
theorem wJ(env:Env)(x:Str×NameKind):(bI env x).1=x.1:=by
 unfold bI;split<;>rfl
theorem Hu{env:Env}{y:Str}:∀{names:List (Str×NameKind)},(∀z∈names,z.2≠ .cell)→((names.map (bI env)).lookup y=some .cell∨(names.map (bI env)).lookup y=some .free)→(y,NameKind.free)∈names
 | [],_,h=>by rcases h with h | h<;>cases h
 | (n,k)::r,hc,h=>by
  rw[List.map_cons]at h
  have e1:(bI env (n,k)).1=n:=wJ env (n,k)
  cases hx:y==n with
  | true=>
   have ey:=eq_of_beq hx
   subst ey
   have hk:k≠ .cell:=hc (y,k) List.mem_cons_self
   have q:(bI env (y,k)).2= .cell∨(bI env (y,k)).2= .free:=by
    have l:∀kk,List.lookup y (bI env (y,k)::List.map (bI env) r)=some kk→(bI env (y,k)).2=kk:=fun kk z=>by
     rw[show bI env (y,k)=(y,(bI env (y,k)).2)from Prod.ext e1 rfl,List.lookup_cons,beq_self_eq_true]at z
     exact Option.some.inj z
    rcases h with h | h
    ·exact .inl (l _ h)
    ·exact .inr (l _ h)
   have hk2:k= .free:=by
    unfold bI at q
    split at q
    ·rename_i z
     rw[Bool.and_eq_true,Bool.and_eq_true]at z
     simpa using z.1.1
    ·rcases q with q | q
     ·exact absurd q hk
     ·exact q
   rw[hk2]
   exact List.mem_cons_self
  | false=>
   have l:List.lookup y (bI env (n,k)::List.map (bI env) r)=List.lookup y (List.map (bI env) r):=by
    rw[show bI env (n,k)=(n,(bI env (n,k)).2)from Prod.ext e1 rfl,List.lookup_cons,hx]
   rw[l]at h
   exact List.mem_cons_of_mem _ (Hu (fun z hz=>hc z (List.mem_cons_of_mem _ hz)) h)
theorem LC{env:Env}{y:Str}:∀{names:List (Str×NameKind)},names.lookup y=some .free→(names.map (bI env)).lookup y=some .cell∨(names.map (bI env)).lookup y=some .free
 | [],h=>by cases h
 | (n,k)::r,h=>by
  rw[List.map_cons]
  have e1:(bI env (n,k)).1=n:=wJ env (n,k)
  rw[show bI env (n,k)=(n,(bI env (n,k)).2)from Prod.ext e1 rfl,List.lookup_cons]
  rw[List.lookup_cons]at h
  cases hx:y==n with
  | true=>
   rw[hx]at h
   have hk:k= .free:=Option.some.inj h
   subst hk
   show some (bI env (n,NameKind.free)).2=some NameKind.cell∨some (bI env (n,NameKind.free)).2=some NameKind.free
   unfold bI
   split
   ·exact .inl rfl
   ·exact .inr rfl
  | false=>
   rw[hx]at h
   exact LC h
section
variable{prog:Program}{w:World}{A:Around}{R:Result→Shared→Prop}
theorem KC{elt tg iter:Expr}{ifs:List Expr}{scope:Scope}{pos:Pos}{it acc:Value}{env:Env}(W:Nat→Shared→Prop){s:Shared}
  (turn:∀n s,W n s→wpAny (model prog w) A (pyNext it) (fun r s1=>match r with
   | none=>R (.ok .next) s1
   | some v=>wpAny (model prog w) A (letOwnedTupleGo tg it v) (fun _ s2=>wpAny (model prog w) A (assign tg env v) (fun _ s3=>
     wpAny (model prog w) A (forIn ifs true fun c r=>if r=true then do let ok ←isTrue c env (eval c env);pure (ForInStep.yield ok)else pure (ForInStep.yield r)) (fun ok s4=>
      if ok=true then wpAny (model prog w) A (eval elt env) (fun x s5=>wpAny (model prog w) A (call (.builtin "list.append") [acc,x]) (fun _ s6=>∃m,m<n∧W m s6) (fun _ _=>False) s5) (fun _ _=>False) s4
      else ∃m,m<n∧W m s4) (fun _ _=>False) s3) (fun _ _=>False) s2) (fun _ _=>False) s1) (fun _ _=>False) s)
  (n:Nat) (h:W n s):codeAny (model prog w) A (.compLoop (.ListComp elt [⟨tg,iter,ifs,0⟩] scope pos) 0 it acc env) R s:=by
 have ex:∀{α:Type} {t:Sem α} {Q Q':α→Shared→Prop} {E:Value→Shared→Prop} {s:Shared},wpAny (model prog w) A t Q (fun _ _=>False) s→(∀a s,Q a s→Q' a s)→wpAny (model prog w) A t Q' E s:=
  fun h f=>wpAny_mono h f fun _ _ z=>z.elim
 refine codeAny_loop rfl W (fun n s hI=> ?_) n h
 show wpAny _ A ((compTurn (.ListComp elt [⟨tg,iter,ifs,0⟩] scope pos) 0 it acc env).onRaise (fun x=>do noteFrame x env;theTreesLotGoes x)) _ _ s
 refine wpAny_noted ?_
 rw[compTurn_list]
 refine wpAny_bind (wpAny_standAt (wpAny_bind (ex (turn n s hI) fun r s1 h1=> ?_)))
 cases r with
 | none=>exact wpAny_pure h1
 | some v=>
  refine wpAny_bind (ex h1 fun _ s2 h2=>wpAny_bind (ex h2 fun _ s3 h3=>wpAny_bind (ex h3 fun ok s4 h4=> ?_)))
  cases ok with
  | false=>exact wpAny_pure ⟨rfl,h4⟩
  | true=>exact wpAny_bind (wpAny_bind (ex h4 fun x s5 h5=>wpAny_bind (ex h5 fun _ s6 h6=>wpAny_pure (wpAny_pure ⟨rfl,h6⟩))))
end
def bU(X:Cx)(scope:Scope)(cl:List (Str×Addr))(C:Addr)(N:List Str)(fp:List Addr)(s:Shared)(H:Hp):Cx where
 prog:=X.prog
 w:=X.w
 K:=X.K
 mg:=X.mg
 base:=X.base
 A:=X.A
 N:=N
 s₀:=s
 H₀:=H
 env:=compEnvC scope cl C X.env
 outer:=X.stack
 stack:=X.stack
 ex:=fp
 fn:=fun _=>false
 calm:=X.calm
 pn:=[]
 xe:=fun _ _=>False
def oJ(X:Cx)(scope:Scope):List Str→List Nat→Prop
 | [],[]=>True
 | y::cs,i::js=>(X.N[i]? = some y∧scope.names.lookup y=some .free∧(X.env.kindOf y=some .cell∨X.env.kindOf y=some .free))∧oJ X scope cs js
 | _,_=>False
theorem oJ.len{X:Cx}{scope:Scope}:∀{cs:List Str} {js:List Nat},oJ X scope cs js→js.length=cs.length
 | [],[],_=>rfl
 | _::_,_::_,h=>by rw[List.length_cons,List.length_cons,oJ.len h.2]
 | [],_::_,h=>h.elim
 | _::_,[],h=>h.elim
theorem oJ.get{X:Cx}{scope:Scope}{y:Str}:∀{cs:List Str} {js:List Nat} {j:Nat},oJ X scope cs js→cs[j]? = some y→
  ∃i,js[j]? = some i∧X.N[i]? = some y∧scope.names.lookup y=some .free∧(X.env.kindOf y=some .cell∨X.env.kindOf y=some .free)
 | [],[],_,_,e=>by simp at e
 | _::_,i::_,0,h,e=>by simp at e;subst e;exact⟨i,rfl,h.1.1,h.1.2⟩
 | _::_,_::_,j+1,h,e=>by
  obtain⟨i,e1,r⟩:=oJ.get (j:=j) h.2 (by simpa using e)
  exact⟨i,by simpa using e1,r⟩
 | [],_::_,_,h,_=>h.elim
 | _::_,[],_,h,_=>h.elim
def caps(js:List Nat)(σ:St):St:=js.map fun i=>(σ[i]?).join
def Wr(X:Cx)(ifs:List Expr)(t:TT):Prop:=
 ∀(pins:List (Addr×Obj)) (s:Shared) (σ:St) (H:Hp) (Q:Bool→Hp→Prop),Inv X pins σ H s→t σ H Q→
  wpAny (model X.prog X.w) X.A (forIn ifs true fun c r=>if r=true then do let ok ←isTrue c X.env (eval c X.env);pure (ForInStep.yield ok)else pure (ForInStep.yield r)) (TP X pins σ Q) X.xe s
def abe:TT:=fun _ H Q=>Q true H
theorem Qs{X:Cx}:Wr X [] abe:=fun _ _ _ H _ I h=>wpAny_pure ⟨H,I,h⟩
theorem Qq{X:Cx}{c:Expr}{t:TT}(h:PT X c t):Wr X [c] t:=by
 intro pins s σ H Q I hq
 rw[List.forIn_cons]
 simp only[if_true]
 exact wpAny_bind (wpAny_bind (dR (h pins s σ H Q I hq) fun ok s1 q=>wpAny_pure (wpAny_pure q)))
def Wa(js:List Nat)(tt:TT)(te:TE)(σ:St)(Q:VK)(J:It)(H1:Hp):Prop:=
 ∃W:Nat→Nat→List V→Hp→Prop,(∃m,W 0 m [] H1)∧∀i m ys H,W i m ys H→
  (J.stop i H∧ys.length≤sizeLine∧∀p,H p=none→Q (.ref p) (upd H p (.lst ys)))∨
  (J.go i H∧∃N:List V→Hp→Prop,(∀ys' H',N ys' H'→ys'.length≤sizeLine∧∃m',m'<m∧W (i+1) m' ys' H')∧∀x H',J.Ko i H x H'→tt (some x::caps js σ) H' fun b H2=>
   if b=true then te (some x::caps js σ) H2 fun y H3=>N (ys++[y]) H3 else N ys H2)
def KY(js:List Nat)(wi:TI)(tt:TT)(te:TE):TE:=fun σ H Q=>wi σ H fun J H1=>Wa js tt te σ Q J H1
theorem lU.track{P:Program}{w:World}{H:Hp}{h:Heap}{a:Addr}{o:HO}(x:lU P w H h)(hn:H a=none)(new:bL P w (upd H a o) h a o):lU P w (upd H a o) h:=fun b u e=>by
 by_cases hb:b=a
 ·subst hb;rw[aW]at e;cases e;exact new
 ·rw[aC hb]at e
  exact(x b u e).stay (fun c v _ q=>q) (fun c q=>by rw[aC (aP q hn)];exact q) fun c xs q=>by rw[aC (aP q hn)];exact q
theorem Un.track{fs ex:List Addr}{H H1:Hp}{h h1:Heap}{a:Addr}{o:HO}(u:Un fs ex H H1 h h1)(hn:h.get? a=none)(hH:H a=none):Un fs ex H (upd H1 a o) h h1 where
 keep:=u.keep
 slot:=u.slot
 free:=fun b ob e n hx=>by rw[aC (by rintro rfl;rw[hn]at e;cases e)];exact u.free b ob e n hx
 there:=u.there
 tups:=fun b xs e=>by rw[aC (aP e hH)];exact u.tups b xs e
 rR:=fun b ob xs e=>by rw[aC (aP e hH)];exact u.rR b ob xs e
 sJ:=fun b ps e=>by rw[aC (aP e hH)];exact u.sJ b ps e
section
variable{X:Cx}{x:Str}{px:Pos}{elt iter:Expr}{ifs:List Expr}{scope:Scope}{cs:List Str}{js:List Nat}{tt:TT}{te:TE}{pos:Pos}
theorem xT{cl:List (Str×Addr)}{pins:List (Addr×Obj)}{σ:St}{H2:Hp}{s2:Shared}{it:Addr}{fp:List Addr}{tn:Nat→Heap→Prop}{J:It}{Q:VK}{RR:Value→Addr→Result→Shared→Prop}
  (hc:X.calm=true) (hcap:oJ X scope cs js) (ht:∀cl C fp s H,Wr (bU X scope cl C (x::cs) fp s H) ifs tt) (he:∀cl C fp s H,PE (bU X scope cl C (x::cs) fp s H) elt te)
  (hcell:∀y∈scope.names,y.2≠ .cell) (hkind:scope.kind= .function) (hx:scope.names.lookup x=some .local) (hnd:(x::cs).Nodup)
  (xH:∀n c,cl.lookup n=some c→X.env.cells.lookup n=some c) (JS:∀n,(n,NameKind.free)∈scope.names→∃c,cl.lookup n=some c)
  (I2:Inv X pins σ H2 s2) (T:Turn X.prog X.w X.K (.Name x px) J fp it tn) (st2:tn 0 s2.heap) (f2:∀b∈fp,uL X pins H2 b)
  (W:Nat→Nat→List V→Hp→Prop) (w0:∃m,W 0 m [] H2)
  (step:∀i m ys H,W i m ys H→
   (J.stop i H∧ys.length≤sizeLine∧∀p,H p=none→Q (.ref p) (upd H p (.lst ys)))∨
   (J.go i H∧∃N:List V→Hp→Prop,(∀ys' H',N ys' H'→ys'.length≤sizeLine∧∃m',m'<m∧W (i+1) m' ys' H')∧∀x H',J.Ko i H x H'→tt (some x::caps js σ) H' fun b H2=>
    if b=true then te (some x::caps js σ) H2 fun y H3=>N (ys++[y]) H3 else N ys H2))
  (fin:∀(D C:Addr) (H3:Hp) (s4:Shared) (m':Str→Option Value),Inv X pins σ H3 s4→s4.heap.Ns C m'→s2.heap.objs.size≤C→H3 C=none→Q (.ref D) H3→RR (.ref D) C (.ok .next) s4):
  wpAny (model X.prog X.w) X.A (newList []) (fun acc s3=>wpAny (model X.prog X.w) X.A (newFunctionEnv scope X.env.globals cl [] X.env.qual none .none (some X.env)) (fun cenv s4=>
   codeAny (model X.prog X.w) X.A (.compStart (.ListComp elt [⟨.Name x px,iter,ifs,0⟩] scope pos) 0 (.ref it) acc {cenv with scope:=relabel scope X.env}) (RR acc cenv.locals) s4) X.xe s3) X.xe s2:=by
 refine wpAny_newObj_type (wpAny_newFunctionEnv hcell (by intro y hy;simp at hy) (fun h1 hns hsb=> ?_) hkind)
 dsimp only at hns hsb ⊢
 generalize hP:s2.heap.push {cls:= .type "list",dict:=none,data:= .seq ([]:List Value).toArray}=hq at hns hsb ⊢
 have eC:hq.objs.size=s2.heap.objs.size+1:=by rw[←hP,Heap.size_push]
 generalize eD:s2.heap.objs.size=D at eC ⊢
 generalize eCC:hq.objs.size=C at hns hsb eC ⊢
 have DC:D≠C:=by omega
 have old:∀b o,s2.heap.get? b=some o→h1.get? b=some o:=fun b o e=>by
  have lt: @LT.lt Nat _ b s2.heap.objs.size:=Heap.lt_size e
  exact hsb.extBut b o (fun z=>by subst z;omega) (Heap.get?_push_of_some _ (hP▸Heap.get?_push_of_some _ e))
 have acG:h1.get? D=some {cls:= .type "list",dict:=none,data:= .seq ([]:List Value).toArray}:=hsb.extBut _ _ DC (Heap.get?_push_of_some _ (hP▸eD▸Heap.get?_push_size _ rfl))
 have noD:s2.heap.get? D=none:=Heap.get?_none_of_le (by omega)
 have HD:H2 D=none:=I2.hok.fresh (by omega)
 have HC:H2 C=none:=I2.hok.fresh (by omega)
 have Y5:∀b∈fp,@LT.lt Nat _ b D:=fun b hb=>by
  obtain⟨o,e,_⟩:=T.obj _ _ st2 b hb
  have q: @LT.lt Nat _ b s2.heap.objs.size:=Heap.lt_size e
  omega
 have Dfp:D∉fp:=fun z=>Nat.lt_irrefl _ (Y5 D z)
 have acn:∀b∈frs X.stack,@LT.lt Nat _ b D:=fun b hb=>by
  obtain⟨_,o,ho,_⟩:=I2.stack.mem hb
  have q: @LT.lt Nat _ b s2.heap.objs.size:=Heap.lt_size ho
  omega
 have acr:∀y c,cl.lookup y=some c→ @LT.lt Nat _ c D:=fun y c e=>by
  obtain⟨v,z⟩:=I2.cell y c (xH y c e)
  have q: @LT.lt Nat _ c s2.heap.objs.size:=z.lt
  omega
 have ok:(bU X scope cl C (x::cs) fp s2 H2).Ok:=by
  refine⟨I2.ok.mod,hkind,I2.ok.glob,I2.ok.blt,(by show s2.heap.objs.size≤C;omega),fun y z c e1 e2=>I2.ok.inj y z c (xH y c e1) (xH z c e2),fun y hy=>JS y (Hu hcell hy),fun y c e=>(by cases e),I2.ok.hd,I2.ok.frames,.inl rfl,
   fun b hb=>⟨?_,fun y c e=>(f2 b hb).2.2.2.2.1 y c (xH y c e)⟩,I2.bs,Nat.le_trans I2.ok.Ir I2.sz,fun b o e hb=> ?_,fun b hb z=> ?_,I2.stack,I2.vH⟩
  ·have q:=Y5 b hb
   show b≠C
   intro z
   subst z
   omega
  ·rcases(f2 b hb).2.2.2.1 with z | z
   ·exact I2.ok.Cz b o e z
   ·have l: @LT.lt Nat _ b X.base.objs.size:=Heap.lt_size e
    have l2:=I2.ok.Ir
    have l3: @LE.le Nat _ X.s₀.heap.objs.size b:=z
    omega
  ·rcases List.mem_cons.mp (I2.zL b z)with e | e
   ·exact(f2 b hb).2.1 e
   ·exact(f2 b hb).2.2.1 e
 have I0:Inv (bU X scope cl C (x::cs) fp s2 H2) [(D,{cls:= .type "list",dict:=none,data:= .seq ([]:List Value).toArray})] (none::caps js σ) H2 {s2 with heap:=h1,toks:=s2.toks+([]:List (Str×Value)).length}:=by
  refine⟨ok,rfl,I2.bare,Un.kept old,⟨_,hns,fun i y v e1 e2 e3=> ?_⟩,fun y c e=> ?_,HC,fun y c e=>I2.gC y c (xH y c e),fun p hp=> ?_,I2.hok.kept old,?_⟩
  ·cases i with
   | zero=>simp at e2
   | succ j=>
    have e1':cs[j]? = some y:=by simpa[bU]using e1
    obtain⟨i0,q1,q2,q3,q4⟩:=hcap.get e1'
    have e2':σ[i0]? = some (some v):=by
     have z:(caps js σ)[j]? = some (some v):=by simpa using e2
     unfold caps at z
     rw[List.getElem?_map,q1]at z
     have z':(σ[i0]?).join=some v:=by simpa using z
     cases r:σ[i0]? with
     | none=>rw[r]at z';cases z'
     | some r'=>rw[r]at z';exact congrArg some z'
    obtain⟨m,_,hl⟩:=I2.loc
    obtain⟨u,r,l⟩:=hl i0 y v q2 e2' (by rcases q4 with q | q;exact .inr (.inl q);exact .inr (.inr q))
    obtain⟨c,hcy⟩:=JS y (PySem.mem_of_lookup q3)
    refine⟨u,r,.inr ⟨LC q3,c,hcy,?_⟩⟩
    rcases l with⟨k,_⟩ | ⟨_,c',ec,o,ho,hd⟩
    ·rcases q4 with q | q<;>rw[q]at k<;>cases k
    ·rw[xH y c hcy]at ec
     cases ec
     exact⟨o,old _ _ ho,hd⟩
  ·obtain⟨v,o,ho,hd⟩:=I2.cell y c (xH y c e)
   exact⟨v,o,old _ _ ho,hd⟩
  ·have ep:p=(D,{cls:= .type "list",dict:=none,data:= .seq ([]:List Value).toArray}):=by simpa[bU]using hp
   subst ep
   exact⟨acG,HD,(by show D≠C;omega),(fun z=>Nat.lt_irrefl _ (acn D z)),fun v z=>by cases z⟩
  ·show(none::caps js σ).length=(x::cs).length
   unfold caps
   rw[List.length_cons,List.length_cons,List.length_map,hcap.len]
 have stat:∀{pn:List (Addr×Obj)} {H':Hp},(∀b∈fp,H' b=none)→(∀p∈pn,p.1∉fp)→∀b∈fp,uL (bU X scope cl C (x::cs) fp s2 H2) pn H' b:=fun hn hpn b hb=>
  ⟨hn b hb,(ok.Vy b hb).1,ok.Di b hb,.inl hb,fun y c e=>(ok.Vy b hb).2 y c e,fun p hp z=>hpn p (by simpa[bU]using hp) (z▸hb)⟩
 have loop:∀s3:Shared,s3={s2 with heap:=h1,toks:=s2.toks+([]:List (Str×Value)).length}→
   codeAny (model X.prog X.w) X.A (.compLoop (.ListComp elt [⟨.Name x px,iter,ifs,0⟩] scope pos) 0 (.ref it) (.ref D) (compEnvC scope cl C X.env)) (RR (.ref D) C) s3:=by
  rintro s3 rfl
  obtain⟨m0,w0⟩:=w0
  refine KC (fun n s=>∃(i:Nat) (ys:List V) (its:List Value) (c:Nat) (H:Hp),Inv (bU X scope cl C (x::cs) fp s2 H2) [(D,{cls:= .type "list",data:= .seq its.toArray c})] (none::caps js σ) H s∧
   tn i s.heap∧(∀b∈fp,H b=none)∧Vals ys its∧W i n ys H) ?_ m0 ⟨0,[],[],0,H2,I0,T.keep _ _ _ st2 fun b _ o e=>old b o e,fun b hb=>(f2 b hb).1,.nil,w0⟩
  rintro n s3 ⟨i,ys,its,c,H3,I3,st3,Y4,rv,w3⟩
  have pD:∀p∈[((D,{cls:= .type "list",data:= .seq its.toArray c}):Addr×Obj)],p.1∉fp:=fun p hp=>by
   have:p=(D,{cls:= .type "list",data:= .seq its.toArray c}):=by simpa using hp
   subst this
   exact Dfp
  rcases step i n ys H3 w3 with⟨stop,hlen,qn⟩ | ⟨go,N,hN,step⟩
  ·refine dR (T.done (bU X scope cl C (x::cs) fp s2 H2) rfl rfl rfl hc i _ s3 _ H3 (fun _ _=>False) I3 (stat Y4 pD) st3 stop) fun r s4 ⟨hr,I4⟩=> ?_
   subst hr
   obtain⟨gD,nD,_⟩:=I4.pin _ (List.mem_append_right _ List.mem_cons_self)
   obtain⟨m',hn',_⟩:=id I4.loc
   have u4:Un (frs X.stack) fp H2 H3 s2.heap s4.heap:=I4.base
   have k4:lU X.prog X.w (upd H3 D (.lst ys)) s4.heap:=lU.track I4.hok nD ⟨hlen,its,c,rv,gD⟩
   have I5:Inv X pins σ (upd H3 D (.lst ys)) s4:=I2.call' (ch:=fp) I4.os (u4.track noD HD) k4 I4.bare fun b hb=>⟨(f2 b hb).2.2.2.1,(f2 b hb).2.1,(f2 b hb).2.2.2.2.1,(f2 b hb).2.2.2.2.2⟩
   exact fin D C _ s4 m' I5 hn' (by omega) (by rw[aC (Ne.symm DC)];exact I4.free) (qn D nD)
  ·refine dR (T.item (bU X scope cl C (x::cs) fp s2 H2) rfl rfl rfl hc i _ s3 _ H3 (fun _ _=>False) I3 (stat Y4 pD) st3 go) fun r s4 ⟨u,hr,h4⟩=> ?_
   subst hr
   refine dR h4 fun _ s5 ⟨v,H5,I5,r5,y5,R6,fr5⟩=> ?_
   have I5':=I5.pinned (stat fr5 pD) (T.obj _ _ R6)
   have hxl:(compEnvC scope cl C X.env).scope.names.lookup x=some .local:=lookup_relabel_local hx
   refine wpAny_assign_Name (pB (X:=bU X scope cl C (x::cs) fp s2 H2) (i:=0) I5' hnd rfl (.inl hxl) r5 (fun s6 I6=> ?_) (.inr hxl))
   have weak:∀{pn:List (Addr×Obj)} {H':Hp} {s':Shared},Inv (bU X scope cl C (x::cs) fp s2 H2) pn (some v::caps js σ) H' s'→Inv (bU X scope cl C (x::cs) fp s2 H2) pn (none::caps js σ) H' s':=fun I'=>
    I'.weak rfl fun j z e=>by
     cases j with
     | zero=>simp at e
     | succ j=>simpa using e
   have ZV:∀{σ':St} {H':Hp} {s':Shared},Inv (bU X scope cl C (x::cs) fp s2 H2) ([(D,{cls:= .type "list",data:= .seq its.toArray c})]++wM fp s5.heap) σ' H' s'→(∀b∈fp,∀o,s5.heap.get? b=some o→s'.heap.get? b=some o)∧∀b∈fp,H' b=none:=fun I'=>
    ⟨fun b hb o e=>(I'.pin (b,o) (List.mem_append_right _ (List.mem_append_right _ (nP hb e)))).1,fun b hb=>by
     obtain⟨o,e,_⟩:=T.obj _ _ R6 b hb
     exact(I'.pin (b,o) (List.mem_append_right _ (List.mem_append_right _ (nP hb e)))).2.1⟩
   refine dR (ht cl C fp s2 H2 _ s6 (some v::caps js σ) H5 _ I6 (step v H5 y5)) fun b s7 ⟨H7,I7,q7⟩=> ?_
   cases b with
   | false=>
    rw[if_neg Bool.false_ne_true]at q7 ⊢
    obtain⟨_,m',hm,w7⟩:=hN _ _ q7
    exact⟨m',hm,i+1,ys,its,c,H7,weak I7.sG,T.keep _ _ _ R6 (ZV I7).1,(ZV I7).2,rv,w7⟩
   | true=>
    rw[if_pos rfl]at q7 ⊢
    refine dR (he cl C fp s2 H2 _ s7 (some v::caps js σ) H7 _ I7 q7) fun yv s8 ⟨y,H8,I8,r8,q8⟩=> ?_
    obtain⟨hl8,m',hm,w8⟩:=hN _ _ q8
    rw[List.length_append,List.length_singleton]at hl8
    obtain⟨gD,nD,dC,dF,_⟩:=I8.pin (D,{cls:= .type "list",data:= .seq its.toArray c}) (List.mem_append_right _ (List.mem_append_left _ List.mem_cons_self))
    have el:=rv.length
    refine wpAny_list_append_plain (hsz:=by rw[List.size_toArray];omega) ⟨c,gD⟩ fun h9 p9 sb9=> ?_
    obtain⟨c9,g9⟩:=p9
    have g9':h9.get? D=some {cls:= .type "list",data:= .seq (its++[yv]).toArray c9}:=by simpa using g9
    have I9:Inv (bU X scope cl C (x::cs) fp s2 H2) [] (none::caps js σ) H8 {s8 with heap:=h9}:=
     (weak (I8.sY (lX:=[]) (fun p hp=>nomatch hp))).turned (t':=s8.toks) (it:=D) (fun b o hb e=>(sb9.2 b hb).trans e) nD dC (.inr (by show s2.heap.objs.size≤D;omega)) (fun y c e z=>by have q:=acr y c e;subst z;omega) (fun p hp=>nomatch hp)
    refine⟨m',hm,i+1,ys++[y],its++[yv],c9,H8,I9.sY fun p hp=> ?_,?_,(ZV I8).2,rv.append (.cons r8 .nil),w8⟩
    ·have:p=(D,{cls:= .type "list",data:= .seq (its++[yv]).toArray c9}):=by simpa using hp
     subst this
     exact⟨g9',nD,dC,dF,fun v z=>by cases z⟩
    ·exact T.keep _ _ _ R6 fun b hb o e=>(sb9.2 b (fun z=>Dfp (z▸hb))).trans ((ZV I8).1 b hb o e)
 exact codeAny_compStart_list (loop _ rfl) (T.self _ 0 _ _ _ (T.keep _ _ _ st2 fun b _ o e=>old b o e) (loop _ rfl))
theorem Inv.letGo{pins:List (Addr×Obj)}{σ:St}{H:Hp}{s:Shared}{C:Addr}{h':Heap}{s2:Shared}{H2:Hp}{σ2:St}(I2:Inv X pins σ2 H2 s2)(I:Inv X pins σ H s)(hC:s2.heap.objs.size≤C)(hn:H C=none)(sb:Heap.SameBut C s.heap h'):Inv X pins σ H {s with heap:=h'}:=
 I.turned (t':=s.toks) (fun b o hb e=>(sb.2 b hb).trans e) hn (Nat.ne_of_gt (Nat.lt_of_lt_of_le I2.lt hC)) (.inr (Nat.le_trans I2.sz hC))
  (fun y c e z=>by obtain⟨v,q⟩:=I2.cell y c e;exact absurd (Nat.lt_of_lt_of_le q.lt (by rw[z];exact hC)) (Nat.lt_irrefl _))
  (fun p hp z=>absurd (Nat.lt_of_lt_of_le (Heap.lt_size (I2.pin p hp).1) (by rw[z];exact hC)) (Nat.lt_irrefl _))
theorem QG{wi:TI}(hc:X.calm=true)(cs:List Str)(js:List Nat)(hi:PI X (.Name x px) iter wi)(hcap:oJ X scope cs js)(ht:∀cl C fp s H,Wr (bU X scope cl C (x::cs) fp s H) ifs tt)(he:∀cl C fp s H,PE (bU X scope cl C (x::cs) fp s H) elt te)
  (hall:∀y∈scope.names,y.2= .free→y.1∈cs) (hcell:∀y∈scope.names,y.2≠ .cell) (hnames:∀y∈scope.names,y.2= .local→scope.names.lookup y.1=some .local) (hnd:(x::cs).Nodup)
  (hkind:scope.kind= .function:=by rfl) (hx:scope.names.lookup x=some .local:=by rfl) (hs:∀v,foldedSetIterable iter X.env v=pure v:=by intro _;rfl):
  PE X (.ListComp elt [⟨.Name x px,iter,ifs,0⟩] scope pos) (KY js wi tt te):=by
 intro pins s σ H Q I h
 obtain⟨cl,Vv,xH,JS⟩:=xU (env:=X.env) (scope:=scope) fun n hn=>by
  obtain⟨j,hj⟩:=List.getElem?_of_mem (hall _ hn rfl)
  obtain⟨_,_,_,_,k⟩:=hcap.get hj
  exact I.ok.has n k
 rw[eval_ListComp]
 refine wpAny_comprehension_free (use:=none) rfl hs Vv hkind hnames (dR (hi pins s σ H _ I h) fun v s1 h1=>dR h1 fun itv s2 h2=> ?_)
 obtain⟨it,fp,tn,J,H2,e,I2,T,st2,f2,W,w0,step⟩:=h2
 subst e
 refine xT (Q:=Q) (RR:=fun acc C=>compPost (model X.prog X.w) X.A X.xe none (EP X pins σ Q) acc C) hc hcap ht he hcell hkind hx hnd xH JS I2 T st2 f2 W w0 step fun D C H3 s4 m' I4 hn hC hH q=> ?_
 exact⟨m',hn,fun h' sb=>⟨.ref D,H3,I2.letGo I4 hC hH sb,rfl,q⟩⟩
theorem Qz{wi:TI}{y:Str}{py spos:Pos}{k:Nat}(hc:X.calm=true)(cs:List Str)(js:List Nat)(hN:X.N.Nodup)(hk:X.N[k]? = some y)(hy:X.env.scope.names.lookup y=some .local)(hi:PI X (.Name x px) iter wi)(hcap:oJ X scope cs js)
  (ht:∀cl C fp s H,Wr (bU X scope cl C (x::cs) fp s H) ifs tt) (he:∀cl C fp s H,PE (bU X scope cl C (x::cs) fp s H) elt te)
  (hall:∀y∈scope.names,y.2= .free→y.1∈cs) (hcell:∀y∈scope.names,y.2≠ .cell) (hnames:∀y∈scope.names,y.2= .local→scope.names.lookup y.1=some .local) (hnd:(x::cs).Nodup)
  (hsw:swapsWith (.ListComp elt [⟨.Name x px,iter,ifs,0⟩] scope pos) (some (.Name y py)) spos.line X.env=pure true:=by rfl)
  (hkind:scope.kind= .function:=by rfl) (hx:scope.names.lookup x=some .local:=by rfl) (hs:∀v,foldedSetIterable iter X.env v=pure v:=by intro _;rfl):
  PS X (.Assign [.Name y py] (.ListComp elt [⟨.Name x px,iter,ifs,0⟩] scope pos) spos) (S8 (KY js wi tt te) (Ib k)):=by
 intro pins s σ H D I h
 obtain⟨cl,Vv,xH,JS⟩:=xU (env:=X.env) (scope:=scope) fun n hn=>by
  obtain⟨j,hj⟩:=List.getElem?_of_mem (hall _ hn rfl)
  obtain⟨_,_,_,_,k⟩:=hcap.get hj
  exact I.ok.has n k
 rw[exec_Assign_Name_used _ _ _ _ hsw]
 refine wpAny_bind (wpAny_standAt (wpAny_bind ?_))
 show wpAny _ X.A (do let _ ←comprehension (.ListComp elt [⟨.Name x px,iter,ifs,0⟩] scope pos) scope X.env _ (newList []) false (eval iter X.env) (some (assign (.Name y py) X.env))) _ _ s
 refine wpAny_bind (dR (wpAny_comprehension_free (use:=some (assign (.Name y py) X.env)) (Q:=fun _ s'=>SP X pins D .next s') rfl hs Vv hkind hnames (dR (hi pins s σ H _ I h) fun v s1 h1=>dR h1 fun itv s2 h2=> ?_)) (fun _ s' q=>wpAny_pure (wpAny_pure q)))
 obtain⟨it,fp,tn,J,H2,e,I2,T,st2,f2,W,w0,step⟩:=h2
 subst e
 refine xT (Q:=fun x H1=>Ib k x σ H1 D.nx) (RR:=fun acc C=>compPost (model X.prog X.w) X.A X.xe (some (assign (.Name y py) X.env)) (fun _ s'=>SP X pins D .next s') acc C) hc hcap ht he hcell hkind hx hnd xH JS I2 T st2 f2 W w0 step fun D' C H3 s4 m' I4 hn hC hH q=> ?_
 show wpAny _ X.A (assign (.Name y py) X.env (.ref D')) _ _ _
 refine wpAny_assign_Name (yL (v:= .ref D') I4 hN hk (.inl hy) rfl (fun s5 I5 ⟨a,sb,ha⟩=> ?_) (.inr hy))
 have Wj:C≠a:=by
  rcases ha with e | e
  ·rw[e];exact Nat.ne_of_gt (Nat.lt_of_lt_of_le I2.lt hC)
  ·intro z
   obtain⟨v,q⟩:=I2.cell y a e
   exact absurd (Nat.lt_of_lt_of_le q.lt (by rw[←z];exact hC)) (Nat.lt_irrefl _)
 exact⟨m',hn.sameBut sb Wj,fun h' sb'=>⟨_,H3,I2.letGo I5 hC hH sb',q⟩⟩
end
def Oe:HO→Bool
 | .dT _=>false
 | .pU _ (.dT _)=>false
 | .pU _ (.ins _ _ _)=>false
 | .pU _ (.pU _ _)=>false
 | _=>true
def Flat(H:Hp):Prop:=∀a o,H a=some o→Oe o=true
def I_(H:Hp):Prop:=∀a C dx fs,H a=some (.ins C dx fs)→H dx=some (.own a)
structure Fgt(H H' Ed:Hp):Prop where
 sub:∀a o,Ed a=some o→H' a=some o
 flat:Flat Ed
 own:I_ H→I_ Ed
 tup:∀b xs,H b=some (.tup xs)→Ed b=some (.tup xs)
 pU:∀b o u,H b=some (.pU o u)→Ed b=some (.pU o u)
 KJ:∀b ps,H b=some (.KJ ps)→∃more,Ed b=some (.KJ (ps++more))
theorem Fgt.self{H H':Hp}(s:O2 H H')(f:Flat H):Fgt H H' H:=
 ⟨s,f,id,fun _ _ e=>e,fun _ _ _ e=>e,fun _ ps e=>⟨#[],by rw[e];simp⟩⟩
theorem O2.upd{H:Hp}{p:Addr}{o:HO}(n:H p=none):O2 H (upd H p o):=fun b u e=>by rw[aC (aP e n)];exact e
theorem Flat.upd{H:Hp}{p:Addr}{o:HO}(f:Flat H)(h:Oe o=true):Flat (upd H p o):=fun a u e=>by
 by_cases z:a=p
 ·subst z;rw[aW]at e;cases e;exact h
 ·rw[aC z]at e;exact f a u e
theorem bL.less{P:Program}{w:World}{H H':Hp}{h:Heap}{a:Addr}{o:HO}(x:bL P w H' h a o)(f:Oe o=true)(hw:∀C dx fs,o= .ins C dx fs→H dx=some (.own a)):bL P w H h a o:=by
 cases o with
 | dT kvs=>exact absurd f Bool.false_ne_true
 | ins C dx fs=>exact⟨hw C dx fs rfl,x.2⟩
 | pU ob u=>
  cases u with
  | dT _=>exact absurd f Bool.false_ne_true
  | ins _ _ _=>exact absurd f Bool.false_ne_true
  | pU _ _=>exact absurd f Bool.false_ne_true
  | _=>exact x
 | _=>exact x
theorem lU.less{P:Program}{w:World}{H H':Hp}{h:Heap}(x:lU P w H' h)(s:∀a o,H a=some o→H' a=some o)(f:Flat H)(hw:I_ H):lU P w H h:=fun a o e=>
 (x a o (s a o e)).less (f a o e) fun C dx fs z=>hw a C dx fs (by rw[←z];exact e)
theorem lU.own{P:Program}{w:World}{H:Hp}{h:Heap}(x:lU P w H h):I_ H:=fun a _ _ _ e=>(x a _ e).1
def Sw(H:Hp)(Q:VK):VK:=fun v H'=>Q v H'∨∃Ed,Fgt H H' Ed∧Q v Ed
theorem bh.gc{P:Program}{w:World}{K:Frag}{mg:Str→Option Value}{base:Heap}{CX:GJ}{k:Nat}{f:Addr}{fd:FuncData}{ps:List Str}{sp Xg:Sp}(F:bh P w K mg base CX k f fd ps sp)
  (h:∀vs H Q E,Xg vs H Q E→sp vs H (Sw H Q) E):bh P w K mg base CX k f fd ps Xg:=by
 refine⟨fun vs H Q E q=>F.len vs H _ E (h _ _ _ _ q),fun A outer s H args us vs Q E hr he hb hv hs=>codeAny_mono (F.run A outer s H args us vs (Sw H Q) E hr he hb hv (h _ _ _ _ hs)) fun r s' hq=> ?_⟩
 cases r with
 | error e=>exact hq
 | ok fl=>
  cases fl with
  | ret u=>
   obtain⟨v,H',os,bare,un,hok,rv,q⟩:=hq
   rcases q with q | ⟨Ed,g,q⟩
   ·exact⟨v,H',os,bare,un,hok,rv,q⟩
   refine⟨v,Ed,os,bare,⟨un.keep,un.slot,fun b o e n hx=> ?_,un.there,g.tup,g.pU,g.KJ⟩,hok.less g.sub g.flat (g.own he.hok.own),rv,q⟩
   cases z:Ed b with
   | none=>rfl
   | some o'=>
    have z':=g.sub b o' z
    rw[un.free b o e n hx]at z'
    cases z'
  | next=>exact hq
  | brk=>exact hq
  | cont=>exact hq
structure dM(K:Frag)(x qual:Str)(st:Stmt)(dV:Value)(f:Addr)(fd:FuncData):Prop where
 ex:∃(oc:Value) (od:Option Addr) (kV doc pm:Value) (an:Option Addr) (cdv ct:Value) (osl:Array (Option Value)),
  fd=fnOf x qual (aH st) (aD st) (aq st) dV kV doc pm an cdv ct∧K.lookup f=some ⟨oc,od,.func fd,osl⟩∧codeIn K cdv qual=true
 kp:keepIn K (.ref f)=true
section
variable{P:Program}{w:World}{K:Frag}{mg:Str→Option Value}{base:Heap}
theorem dM.ok{x qual:Str}{st:Stmt}{dV:Value}{f:Addr}{fd:FuncData}{N ps:List Str}{k:Nat}{sp:Sp}(F:dM K x qual st dV f fd)(S:bA N ps (aq st))(len:∀vs H Q E,sp vs H Q E→vs.length=ps.length)
  (hbody:∀(cdv:Value) (A:Around) (outer:List Env) (s:Shared) (H:Hp) (vs:List V) (Q:VK) (E:XK),dJ k (A.deeper (envOfC qual (aq st) s.heap.objs.size f cdv))→sp vs H Q E→
   ∃t,vU (oV GK P w K mg base N qual (aq st) f cdv A outer s H E).Mv (aD st) t∧t {nx:=fun _ H'=>Sw H Q .non H',rt:=Sw H Q} (start N vs) H):bh P w K mg base GK (k+1) f fd ps sp:=by
 obtain⟨oc,od,kV,doc,pm,an,cdv,ct,osl,rfl,lk,hcd⟩:=F.ex
 refine bh.gc (sp:=fun vs H Q' E=>∃Q,sp vs H Q E∧Q'=Sw H Q) (Od lk hcd S (fun vs H Q E ⟨Q0,q,_⟩=>len vs H Q0 E q) fun A outer s H vs Q' E hr hsp=> ?_) fun vs H Q E q=>⟨Q,q,rfl⟩
 obtain⟨Q,hsp,rfl⟩:=hsp
 obtain⟨t,h,q⟩:=hbody cdv A outer s H vs Q E hr hsp
 exact⟨t,h.Mv,q⟩
theorem dM.binds{x qual:Str}{st:Stmt}{dV:Value}{f:Addr}{fd:FuncData}{ps:List Str}(F:dM K x qual st dV f fd)
  (h:∀(kV doc pm:Value) (an:Option Addr) (cdv ct:Value) (us:List Value),us.length=ps.length→bindArgs (fnOf x qual (aH st) (aD st) (aq st) dV kV doc pm an cdv ct) ⟨us,[]⟩=pure (ps.zip us)):Binds K fd ps []:=by
 obtain⟨oc,od,kV,doc,pm,an,cdv,ct,osl,rfl,lk,hcd⟩:=F.ex
 exact .all (h kV doc pm an cdv ct)
theorem aU{x qual:Str}{st:Stmt}{dV:Value}{f:Addr}{oc:Value}{od an:Option Addr}{osl:Array (Option Value)}{kV doc pm cdv ct:Value}(l:K.lookup f=some ⟨oc,od,.func (fnOf x qual (aH st) (aD st) (aq st) dV kV doc pm an cdv ct),osl⟩)
  (c:codeIn K cdv qual=true) (k:keepIn K (.ref f)=true):dM K x qual st dV f (fnOf x qual (aH st) (aD st) (aq st) dV kV doc pm an cdv ct):=⟨⟨oc,od,kV,doc,pm,an,cdv,ct,osl,rfl,l,c⟩,k⟩
end
theorem jg:bootBuiltins "len" = some (.builtin "len"):=by decide +kernel
theorem iG:bootBuiltins "isinstance" = some (.builtin "isinstance"):=by decide +kernel
theorem Gk:bootBuiltins "min" = some (.builtin "min"):=by decide +kernel
theorem VP:bootBuiltins "max" = some (.builtin "max"):=by decide +kernel
theorem Ip:bootBuiltins "bool" = some (.type "bool"):=by decide +kernel
def aaY:V→Value→Prop
 | .ty n,c=>c= .type n
 | .ref a,c=>c= .ref a
 | _,_=>False
def XR:V→List V→Hp→VK→Prop:=fun x vs H Q=>∃i,x= .int i∧vs=[]∧Q (.int (Builtin.Int.intBits i:Nat)) H
section
variable{X:Cx}
theorem Q4:V9 X "int.bit_length" XR:=by
 intro pins s σ H x vs v us Q I rx r h
 obtain⟨i,rfl,rfl,q⟩:=h
 obtain⟨t,rfl⟩:=rx
 cases r
 exact call_int_bit_length ⟨.int _,H,I.tok _,⟨_,rfl⟩,q⟩
end
theorem Only.flat{H:Hp}(o:Only H):Flat H:=fun a u e=>by
 rcases o a with z | ⟨ob,xs,z⟩
 ·rw[z]at e;cases e
 ·rw[z]at e;cases e;rfl
def cell(ns:List Int)(k:Nat):Int:=ns.getD k 0
def ZL(g:TG)(tb:TS)(D:Ends)(σ:St)(J:It)(H1:Hp):Prop:=
 ∃W:Nat→Nat→St→Hp→Prop,(∃m,W 0 m σ H1)∧∀i m σ H,W i m σ H→
  (J.stop i H∧D.nx σ H)∨(J.go i H∧∃N:St→Hp→Prop,(∀σ' H',N σ' H'→∃m',m'<m∧W (i+1) m' σ' H')∧∀x H',J.Ko i H x H'→g x σ H' fun σ2 H2=>tb {D with nx:=N,ct:=N,bk:=D.nx} σ2 H2)
def Xa(wi:TI)(g:TG)(tb:TS):TS:=fun D σ H=>wi σ H fun J H1=>ZL g tb D σ J H1
theorem Qx{X:Cx}{tg iter:Expr}{body:List Stmt}{wi:TI}{g:TG}{tb:TS}{pos:Pos}(hp:PassesOwn (model X.prog X.w) X.A X.env X.xe)(hc:X.calm=true)(hi:PI X tg iter wi)(hg:PG X tg g)(hb:vU X body tb)
  (hs:∀x,foldedSetIterable iter X.env x=pure x:=by intro _;rfl):PS X (.For tg iter body [] pos) (Xa wi g tb):=T9 hp hc hi hg hb hs
theorem nY{α:Type}{us:List α}(h:us.length=1):∃a,us=[a]:=match us,h with | [a],_=>⟨a,rfl⟩
theorem nW{α:Type}{us:List α}(h:us.length=2):∃a b,us=[a,b]:=match us,h with | [a,b],_=>⟨a,b,rfl⟩
theorem tL{α:Type}{us:List α}(h:us.length=3):∃a b c,us=[a,b,c]:=match us,h with | [a,b,c],_=>⟨a,b,c,rfl⟩
inductive Dt where
 | non | bl (b:Bool) | int (i:Int) | str (x:Str) | tup (ds:List Dt) | lst (ds:List Dt)
mutual
inductive Is (K:Frag) (H:Hp):V→Dt→Prop
 | non:Is K H .non .non
 | bl (b:Bool):Is K H (.bl b) (.bl b)
 | int (i:Int):Is K H (.int i) (.int i)
 | str (x:Str):Is K H (.str x) (.str x)
 | tup {a:Addr} {xs:List V} {ds:List Dt}:jX K H a xs→Br K H xs ds→Is K H (.ref a) (.tup ds)
 | lst {a:Addr} {xs:List V} {ds:List Dt}:mK K H a xs→Br K H xs ds→Is K H (.ref a) (.lst ds)
inductive Br (K:Frag) (H:Hp):List V→List Dt→Prop
 | nil:Br K H [] []
 | cons {x:V} {d:Dt} {xs:List V} {ds:List Dt}:Is K H x d→Br K H xs ds→Br K H (x::xs) (d::ds)
end
mutual
def aV:Dt→Dt→Bool
 | .non,.non=>true
 | .bl a,.bl b=>a==b
 | .bl a,.int b=>(if a then 1 else 0)==b
 | .int a,.bl b=>a==(if b then 1 else 0)
 | .int a,.int b=>a==b
 | .str a,.str b=>a==b
 | .tup ds,.tup es=>rY ds es
 | .lst ds,.lst es=>rY ds es
 | _,_=>false
def rY:List Dt→List Dt→Bool
 | [],[]=>true
 | d::ds,e::es=>aV d e&&rY ds es
 | _,_=>false
end
mutual
def dep:Dt→Nat
 | .tup ds=>deps ds+1
 | .lst ds=>deps ds+1
 | _=>0
def deps:List Dt→Nat
 | []=>0
 | d::ds=>max (dep d) (deps ds)
end
mutual
theorem xP:∀d:Dt,aV d d=true
 | .non=>by unfold aV;rfl
 | .bl a=>by unfold aV;simp
 | .int a=>by unfold aV;simp
 | .str a=>by unfold aV;simp
 | .tup ds=>by unfold aV;exact uF ds
 | .lst ds=>by unfold aV;exact uF ds
theorem uF:∀ds:List Dt,rY ds ds=true
 | []=>by unfold rY;rfl
 | d::ds=>by unfold rY;rw[xP d,uF ds];rfl
end
theorem jQ:∀{ds es:List Dt},ds.length≠es.length→rY ds es=false
 | [],[],h=>absurd rfl h
 | [],_::_,_=>by unfold rY;rfl
 | _::_,[],_=>by unfold rY;rfl
 | d::ds,e::es,h=>by
  unfold rY
  rw[jQ (ds:=ds) (es:=es) fun z=>h (by rw[List.length_cons,List.length_cons,z]),Bool.and_false]
theorem jR:∀{ds es:List Dt},ds.length=es.length→(List.range ds.length).all (fun j=>aV (ds.getD j .non) (es.getD j .non))=rY ds es
 | [],[],_=>by unfold rY;rfl
 | [],_::_,h=>by cases h
 | _::_,[],h=>by cases h
 | d::ds,e::es,h=>by
  have ih:=jR (ds:=ds) (es:=es) (Nat.succ.inj h)
  rw[List.length_cons,List.range_succ_eq_map,List.all_cons,List.all_map,rY,←ih]
  rfl
theorem Br.length{K:Frag}{H:Hp}:∀{xs:List V} {ds:List Dt},Br K H xs ds→xs.length=ds.length
 | _,_,.nil=>rfl
 | _,_,.cons _ r=>by rw[List.length_cons,List.length_cons,Br.length r]
theorem Br.get{K:Frag}{H:Hp}:∀{xs:List V} {ds:List Dt} {i:Nat} {x:V},Br K H xs ds→xs[i]? = some x→∃d,ds[i]? = some d∧Is K H x d
 | _,_,_,_,.nil,e=>by simp at e
 | _,_,0,_,.cons r _,e=>by simp at e;subst e;exact⟨_,rfl,r⟩
 | _,_,i+1,x,.cons _ t,e=>by
  obtain⟨d,h1,h2⟩:=Br.get (i:=i) (x:=x) t (by simpa using e)
  exact⟨d,by simpa using h1,h2⟩
theorem Br.at{K:Frag}{H:Hp}:∀{xs:List V} {ds:List Dt} {i:Nat} {d:Dt},Br K H xs ds→ds[i]? = some d→∃x,xs[i]? = some x∧Is K H x d
 | _,_,_,_,.nil,e=>by simp at e
 | _,_,0,_,.cons r _,e=>by simp at e;subst e;exact⟨_,rfl,r⟩
 | _,_,i+1,d,.cons _ t,e=>by
  obtain⟨x,h1,h2⟩:=Br.at (i:=i) (d:=d) t (by simpa using e)
  exact⟨x,by simpa using h1,h2⟩
theorem Bc(ds es:List Dt):aV (.tup ds) (.tup es)=rY ds es:=by unfold aV;rfl
theorem qt(ds es:List Dt):aV (.lst ds) (.lst es)=rY ds es:=by unfold aV;rfl
section
variable{X:Cx}{pins:List (Addr×Obj)}{σ:St}{H:Hp}{s:Shared}
theorem Inv.Cy(I:Inv X pins σ H s){a:Addr}{xs ys:List V}(h:jX X.K H a xs)(h':mK X.K H a ys):False:=by
 obtain⟨its,_,pt,_⟩:=I.tuple h
 obtain⟨jts,_,pl,_⟩:=I.list h'
 obtain⟨o,e,c,_⟩:=pt
 obtain⟨o',n',e',c',_⟩:=pl
 rw[e]at e';cases e'
 rw[c]at c'
 injection c' with z
 exact absurd z (by decide)
mutual
theorem Inv.Ny(I:Inv X pins σ H s):∀{v:V} {d e:Dt},Is X.K H v d→Is X.K H v e→d=e
 | _,_,_,.non,.non=>rfl
 | _,_,_,.bl _,.bl _=>rfl
 | _,_,_,.int _,.int _=>rfl
 | _,_,_,.str _,.str _=>rfl
 | _,_,_,.tup q r,.tup q' r'=>congrArg Dt.tup (Inv.Aq I r (I.ue q q'▸r'))
 | _,_,_,.lst q r,.lst q' r'=>congrArg Dt.lst (Inv.Aq I r (I.xj q q'▸r'))
 | _,_,_,.tup q _,.lst q' _=>(I.Cy q q').elim
 | _,_,_,.lst q _,.tup q' _=>(I.Cy q' q).elim
theorem Inv.Aq(I:Inv X pins σ H s):∀{vs:List V} {ds es:List Dt},Br X.K H vs ds→Br X.K H vs es→ds=es
 | _,_,_,.nil,.nil=>rfl
 | _,_,_,.cons r t,.cons r' t'=>by rw[Inv.Ny I r r',Inv.Aq I t t']
end
theorem rZ:∀{ds:List Dt} {j:Nat} {d:Dt},ds[j]? = some d→dep d≤deps ds
 | [],_,_,e=>by simp at e
 | d'::ds,0,d,e=>by simp at e;subst e;unfold deps;exact Nat.le_max_left _ _
 | d'::ds,j+1,d,e=>by
  have:=rZ (ds:=ds) (j:=j) (d:=d) (by simpa using e)
  unfold deps
  exact Nat.le_trans this (Nat.le_max_right _ _)
theorem mq{A:Around}{xs ys:List V}{its jts:List Value}{ds es:List Dt}(r1:Vals xs its)(r2:Vals ys jts)(q1:Br X.K H xs ds)(q2:Br X.K H ys es)
  (ih:∀(j:Nat) (x y:V) (d e:Dt) (u v:Value),ds[j]? = some d→es[j]? = some e→Is X.K H x d→Is X.K H y e→RelV x u→RelV y v→SeqAt.EqAt A s u v (aV d e)):
  ∀j (h1:j<its.toArray.size) (h2:j<jts.toArray.size),SeqAt.EqAt A s its.toArray[j] jts.toArray[j] (aV (ds.getD j .non) (es.getD j .non)):=fun j h1 h2=>by
 have l1:=r1.length
 have l2:=r2.length
 have j1:j<xs.length:=by simp at h1;omega
 have j2:j<ys.length:=by simp at h2;omega
 obtain⟨w1,g1,p1⟩:=r1.get (i:=j) (x:=xs[j]) (by simp[j1])
 obtain⟨w2,g2,p2⟩:=r2.get (i:=j) (x:=ys[j]) (by simp[j2])
 obtain⟨d,e1,i1⟩:=q1.get (i:=j) (x:=xs[j]) (by simp[j1])
 obtain⟨e,e2,i2⟩:=q2.get (i:=j) (x:=ys[j]) (by simp[j2])
 have d1:ds.getD j .non=d:=by simp[List.getD,e1]
 have d2:es.getD j .non=e:=by simp[List.getD,e2]
 have c1:its.toArray[j]=w1:=by
  have:=List.getElem?_eq_some_iff.mp g1
  simpa using this.2
 have c2:jts.toArray[j]=w2:=by
  have:=List.getElem?_eq_some_iff.mp g2
  simpa using this.2
 rw[d1,d2,c1,c2]
 exact ih j _ _ d e _ _ e1 e2 i1 i2 p1 p2
theorem uo{n m:Nat}(h:n=m)(p:Nat→Bool):((List.range (min n m)).all p&&n==m)=(List.range n).all p:=by
 subst h
 rw[Nat.min_self]
 simp
theorem uC(I:Inv X pins σ H s):∀(n:Nat) (A:Around) (x y:V) (d e:Dt) (u v:Value),dep d≤n→A.units+n<cLine→Is X.K H x d→Is X.K H y e→RelV x u→RelV y v→SeqAt.EqAt A s u v (aV d e)
 | n,A,x,y,d,e,u,v,hd,hu,hx,hy,rx,ry=>by
  have same:u=v→SeqAt.EqAt A s u v (aV d e):=fun z=>by
   subst z
   have xy:x=y:=rx.inj ry
   subst xy
   rw[I.Ny hx hy,xP]
   exact SeqAt.EqAt.same _
  have hu0:A.units<cLine:=by omega
  have in1:A.in1.units=A.units+1:=rfl
  cases hx with
  | non=>
   cases rx
   cases hy with
   | non=>cases ry;exact same rfl
   | bl b=>cases ry;unfold aV;exact SeqAt.EqAt.none_bool b
   | int b=>obtain⟨t,rfl⟩:=ry;unfold aV;exact SeqAt.EqAt.none_int b t
   | str b=>obtain⟨t,rfl⟩:=ry;unfold aV;exact SeqAt.EqAt.none_str b t
   | tup q r=>cases ry;obtain⟨its,_,p,_⟩:=I.tuple q;unfold aV;exact SeqAt.EqAt.none_tuple p hu0
   | lst q r=>cases ry;obtain⟨its,_,p,_⟩:=I.list q;unfold aV;exact SeqAt.EqAt.none_list p.isList hu0
  | bl a=>
   cases rx
   cases hy with
   | non=>cases ry;unfold aV;exact SeqAt.EqAt.bool_none a
   | bl b=>cases ry;unfold aV;exact SeqAt.EqAt.bool_bool a b
   | int b=>obtain⟨t,rfl⟩:=ry;unfold aV;exact SeqAt.EqAt.bool_int a b t
   | str b=>obtain⟨t,rfl⟩:=ry;unfold aV;exact SeqAt.EqAt.bool_str a b t
   | tup q r=>cases ry;obtain⟨its,_,p,_⟩:=I.tuple q;unfold aV;exact SeqAt.EqAt.bool_tuple a p hu0
   | lst q r=>cases ry;obtain⟨its,_,p,_⟩:=I.list q;unfold aV;exact SeqAt.EqAt.bool_list a p.isList hu0
  | int a=>
   obtain⟨t',rfl⟩:=rx
   cases hy with
   | non=>cases ry;unfold aV;exact SeqAt.EqAt.int_none a t'
   | bl b=>cases ry;unfold aV;exact SeqAt.EqAt.int_bool a t' b
   | int b=>obtain⟨t,rfl⟩:=ry;unfold aV;exact SeqAt.EqAt.int_int a t' b t
   | str b=>obtain⟨t,rfl⟩:=ry;unfold aV;exact SeqAt.EqAt.int_str a t' b t
   | tup q r=>cases ry;obtain⟨its,_,p,_⟩:=I.tuple q;unfold aV;exact SeqAt.EqAt.int_tuple a t' p hu0
   | lst q r=>cases ry;obtain⟨its,_,p,_⟩:=I.list q;unfold aV;exact SeqAt.EqAt.int_list a t' p.isList hu0
  | str a=>
   obtain⟨t',rfl⟩:=rx
   cases hy with
   | non=>cases ry;unfold aV;exact SeqAt.EqAt.str_none a t'
   | bl b=>cases ry;unfold aV;exact SeqAt.EqAt.str_bool a t' b
   | int b=>obtain⟨t,rfl⟩:=ry;unfold aV;exact SeqAt.EqAt.str_int a t' b t
   | str b=>obtain⟨t,rfl⟩:=ry;unfold aV;exact SeqAt.EqAt.str_str a t' b t
   | tup q r=>cases ry;obtain⟨its,_,p,_⟩:=I.tuple q;unfold aV;exact SeqAt.EqAt.str_tuple a t' p hu0
   | lst q r=>cases ry;obtain⟨its,_,p,_⟩:=I.list q;unfold aV;exact SeqAt.EqAt.str_list a t' p.isList hu0
  | @tup a xs ds q r=>
   cases(show u=Value.ref a from rx)
   obtain⟨its,r1,p1,_⟩:=I.tuple q
   cases hy with
   | non=>cases ry;unfold aV;exact SeqAt.EqAt.tuple_none p1 hu0
   | bl b=>cases ry;unfold aV;exact SeqAt.EqAt.tuple_bool b p1 hu0
   | int b=>obtain⟨t,rfl⟩:=ry;unfold aV;exact SeqAt.EqAt.tuple_int b t p1 hu0
   | str b=>obtain⟨t,rfl⟩:=ry;unfold aV;exact SeqAt.EqAt.tuple_str b t p1 hu0
   | lst q' r'=>cases ry;obtain⟨jts,_,p,_⟩:=I.list q';unfold aV;exact SeqAt.EqAt.tuple_list p1 p.isList hu0
   | @tup b ys es q' r'=>
    cases(show v=Value.ref b from ry)
    by_cases hab:a=b
    ·subst hab;exact same rfl
    ·obtain⟨jts,r2,p2,_⟩:=I.tuple q'
     refine SeqAt.EqAt.of_refs hab ?_
     have l1:=r1.length
     have l2:=r2.length
     have l3:=r.length
     have l4:=r'.length
     cases n with
     | zero=>unfold dep at hd;omega
     | succ n=>
      have dl:deps ds≤n:=by unfold dep at hd;omega
      have z:=SeqAt.RcAt.tuples (A:=A) (s:=s) (e:=fun j=>aV (ds.getD j .non) (es.getD j .non)) p1 p2 hu0 (mq r1 r2 r r' fun j x y d e u v h1 h2 ix iy rx ry=>uC I n A.in1 x y d e u v (Nat.le_trans (rZ h1) dl) (by omega) ix iy rx ry)
      have ez:((List.range (min its.toArray.size jts.toArray.size)).all (fun j=>aV (ds.getD j .non) (es.getD j .non))&&its.toArray.size==jts.toArray.size)=aV (.tup ds) (.tup es):=by
       rw[Bc]
       by_cases hl:ds.length=es.length
       ·rw[uo (by simp;omega),←jR hl]
        congr 2
        simp;omega
       ·rw[jQ hl]
        have:(its.toArray.size==jts.toArray.size)=false:=by simp;omega
        rw[this,Bool.and_false]
      rw[ez]at z
      exact z
  | @lst a xs ds q r=>
   cases(show u=Value.ref a from rx)
   obtain⟨its,r1,p1,_⟩:=I.list q
   cases hy with
   | non=>cases ry;unfold aV;exact SeqAt.EqAt.list_none p1.isList hu0
   | bl b=>cases ry;unfold aV;exact SeqAt.EqAt.list_bool b p1.isList hu0
   | int b=>obtain⟨t,rfl⟩:=ry;unfold aV;exact SeqAt.EqAt.list_int b t p1.isList hu0
   | str b=>obtain⟨t,rfl⟩:=ry;unfold aV;exact SeqAt.EqAt.list_str b t p1.isList hu0
   | tup q' r'=>cases ry;obtain⟨jts,_,p,_⟩:=I.tuple q';unfold aV;exact SeqAt.EqAt.list_tuple p1.isList p hu0
   | @lst b ys es q' r'=>
    cases(show v=Value.ref b from ry)
    by_cases hab:a=b
    ·subst hab;exact same rfl
    ·obtain⟨jts,r2,p2,_⟩:=I.list q'
     refine SeqAt.EqAt.of_refs hab ?_
     have l1:=r1.length
     have l2:=r2.length
     have l3:=r.length
     have l4:=r'.length
     cases n with
     | zero=>unfold dep at hd;omega
     | succ n=>
      have dl:deps ds≤n:=by unfold dep at hd;omega
      by_cases hl:ds.length=es.length
      ·have z:=SeqAt.RcAt.lists (A:=A) (s:=s) (e:=fun j=>aV (ds.getD j .non) (es.getD j .non)) p1.isList p2.isList (by simp;omega) hu0 (mq r1 r2 r r' fun j x y d e u v h1 h2 ix iy rx ry=>uC I n A.in1 x y d e u v (Nat.le_trans (rZ h1) dl) (by omega) ix iy rx ry)
       have ez:(List.range its.toArray.size).all (fun j=>aV (ds.getD j .non) (es.getD j .non))=aV (.lst ds) (.lst es):=by
        rw[qt]
        rw[←jR hl]
        congr 2
        simp;omega
       rw[ez]at z
       exact z
      ·have z:=SeqAt.RcAt.lists_lengths (A:=A) (s:=s) p1.isList p2.isList (by simp;omega) hu0
       have ez:aV (.lst ds) (.lst es)=false:=by rw[qt];exact jQ hl
       rw[ez]
       exact z
theorem TV(I:Inv X pins σ H s)(A:Around){x y:V}{d e:Dt}{u v:Value}{n:Nat}(hd:dep d≤n)(hu:A.units+n<cLine)(hx:Is X.K H x d)(hy:Is X.K H y e)(rx:RelV x u)(ry:RelV y v):SeqAt.RcAt A s u v (aV d e):=by
 have hu0:A.units<cLine:=by omega
 have in1:A.in1.units=A.units+1:=rfl
 cases hx with
 | non=>
  cases rx
  cases hy with
  | non=>
   cases ry
   unfold aV
   exact SeqAt.RcAt.none_none
  | bl b=>
   cases ry
   unfold aV
   exact SeqAt.RcAt.none_bool  b
  | int b=>
   obtain⟨t,rfl⟩:=ry
   unfold aV
   exact SeqAt.RcAt.none_int  b t
  | str b=>
   obtain⟨t,rfl⟩:=ry
   unfold aV
   exact SeqAt.RcAt.none_str  b t
  | @tup b ys es q' r'=>
   cases(show v=Value.ref b from ry)
   obtain⟨jts,r2,p2,_⟩:=I.tuple q'
   unfold aV
   exact SeqAt.RcAt.none_tuple  p2 hu0
  | @lst b ys es q' r'=>
   cases(show v=Value.ref b from ry)
   obtain⟨jts,r2,p2,_⟩:=I.list q'
   unfold aV
   exact SeqAt.RcAt.none_list  p2.isList hu0
 | bl a=>
  cases rx
  cases hy with
  | non=>
   cases ry
   unfold aV
   exact SeqAt.RcAt.bool_none a
  | bl b=>
   cases ry
   unfold aV
   exact SeqAt.RcAt.bool_bool a b
  | int b=>
   obtain⟨t,rfl⟩:=ry
   unfold aV
   exact SeqAt.RcAt.bool_int a b t
  | str b=>
   obtain⟨t,rfl⟩:=ry
   unfold aV
   exact SeqAt.RcAt.bool_str a b t
  | @tup b ys es q' r'=>
   cases(show v=Value.ref b from ry)
   obtain⟨jts,r2,p2,_⟩:=I.tuple q'
   unfold aV
   exact SeqAt.RcAt.bool_tuple a p2 hu0
  | @lst b ys es q' r'=>
   cases(show v=Value.ref b from ry)
   obtain⟨jts,r2,p2,_⟩:=I.list q'
   unfold aV
   exact SeqAt.RcAt.bool_list a p2.isList hu0
 | int a=>
  obtain⟨t',rfl⟩:=rx
  cases hy with
  | non=>
   cases ry
   unfold aV
   exact SeqAt.RcAt.int_none a t'
  | bl b=>
   cases ry
   unfold aV
   exact SeqAt.RcAt.int_bool a t' b
  | int b=>
   obtain⟨t,rfl⟩:=ry
   unfold aV
   exact SeqAt.RcAt.int_int a t' b t
  | str b=>
   obtain⟨t,rfl⟩:=ry
   unfold aV
   exact SeqAt.RcAt.int_str a t' b t
  | @tup b ys es q' r'=>
   cases(show v=Value.ref b from ry)
   obtain⟨jts,r2,p2,_⟩:=I.tuple q'
   unfold aV
   exact SeqAt.RcAt.int_tuple a t' p2 hu0
  | @lst b ys es q' r'=>
   cases(show v=Value.ref b from ry)
   obtain⟨jts,r2,p2,_⟩:=I.list q'
   unfold aV
   exact SeqAt.RcAt.int_list a t' p2.isList hu0
 | str a=>
  obtain⟨t',rfl⟩:=rx
  cases hy with
  | non=>
   cases ry
   unfold aV
   exact SeqAt.RcAt.str_none a t'
  | bl b=>
   cases ry
   unfold aV
   exact SeqAt.RcAt.str_bool a t' b
  | int b=>
   obtain⟨t,rfl⟩:=ry
   unfold aV
   exact SeqAt.RcAt.str_int a t' b t
  | str b=>
   obtain⟨t,rfl⟩:=ry
   unfold aV
   exact SeqAt.RcAt.str_str a t' b t
  | @tup b ys es q' r'=>
   cases(show v=Value.ref b from ry)
   obtain⟨jts,r2,p2,_⟩:=I.tuple q'
   unfold aV
   exact SeqAt.RcAt.str_tuple a t' p2 hu0
  | @lst b ys es q' r'=>
   cases(show v=Value.ref b from ry)
   obtain⟨jts,r2,p2,_⟩:=I.list q'
   unfold aV
   exact SeqAt.RcAt.str_list a t' p2.isList hu0
 | @tup a xs ds q r=>
  cases(show u=Value.ref a from rx)
  obtain⟨its,r1,p1,_⟩:=I.tuple q
  cases hy with
  | non=>
   cases ry
   unfold aV
   exact SeqAt.RcAt.tuple_none  p1 hu0
  | bl b=>
   cases ry
   unfold aV
   exact SeqAt.RcAt.tuple_bool b p1 hu0
  | int b=>
   obtain⟨t,rfl⟩:=ry
   unfold aV
   exact SeqAt.RcAt.tuple_int b t p1 hu0
  | str b=>
   obtain⟨t,rfl⟩:=ry
   unfold aV
   exact SeqAt.RcAt.tuple_str b t p1 hu0
  | @tup b ys es q' r'=>
   cases(show v=Value.ref b from ry)
   obtain⟨jts,r2,p2,_⟩:=I.tuple q'
   have l1:=r1.length
   have l2:=r2.length
   have l3:=r.length
   have l4:=r'.length
   cases n with
   | zero=>unfold dep at hd;omega
   | succ n=>
    have dl:deps ds≤n:=by unfold dep at hd;omega
    have z:=SeqAt.RcAt.tuples (A:=A) (s:=s) (e:=fun j=>aV (ds.getD j .non) (es.getD j .non)) p1 p2 hu0 (mq r1 r2 r r' fun j x y d e u v h1 h2 ix iy rx ry=>uC I n A.in1 x y d e u v (Nat.le_trans (rZ h1) dl) (by omega) ix iy rx ry)
    have ez:((List.range (min its.toArray.size jts.toArray.size)).all (fun j=>aV (ds.getD j .non) (es.getD j .non))&&its.toArray.size==jts.toArray.size)=aV (.tup ds) (.tup es):=by
     rw[Bc]
     by_cases hl:ds.length=es.length
     ·rw[uo (by simp;omega),←jR hl]
      congr 2
      simp;omega
     ·rw[jQ hl]
      have:(its.toArray.size==jts.toArray.size)=false:=by simp;omega
      rw[this,Bool.and_false]
    rw[ez]at z
    exact z
  | @lst b ys es q' r'=>
   cases(show v=Value.ref b from ry)
   obtain⟨jts,r2,p2,_⟩:=I.list q'
   unfold aV
   exact SeqAt.RcAt.tuple_list p1 p2.isList hu0
 | @lst a xs ds q r=>
  cases(show u=Value.ref a from rx)
  obtain⟨its,r1,p1,_⟩:=I.list q
  cases hy with
  | non=>
   cases ry
   unfold aV
   exact SeqAt.RcAt.list_none  p1.isList hu0
  | bl b=>
   cases ry
   unfold aV
   exact SeqAt.RcAt.list_bool b p1.isList hu0
  | int b=>
   obtain⟨t,rfl⟩:=ry
   unfold aV
   exact SeqAt.RcAt.list_int b t p1.isList hu0
  | str b=>
   obtain⟨t,rfl⟩:=ry
   unfold aV
   exact SeqAt.RcAt.list_str b t p1.isList hu0
  | @tup b ys es q' r'=>
   cases(show v=Value.ref b from ry)
   obtain⟨jts,r2,p2,_⟩:=I.tuple q'
   unfold aV
   exact SeqAt.RcAt.list_tuple p1.isList p2 hu0
  | @lst b ys es q' r'=>
   cases(show v=Value.ref b from ry)
   obtain⟨jts,r2,p2,_⟩:=I.list q'
   have l1:=r1.length
   have l2:=r2.length
   have l3:=r.length
   have l4:=r'.length
   cases n with
   | zero=>unfold dep at hd;omega
   | succ n=>
    have dl:deps ds≤n:=by unfold dep at hd;omega
    by_cases hl:ds.length=es.length
    ·have z:=SeqAt.RcAt.lists (A:=A) (s:=s) (e:=fun j=>aV (ds.getD j .non) (es.getD j .non)) p1.isList p2.isList (by simp;omega) hu0 (mq r1 r2 r r' fun j x y d e u v h1 h2 ix iy rx ry=>uC I n A.in1 x y d e u v (Nat.le_trans (rZ h1) dl) (by omega) ix iy rx ry)
     have ez:(List.range its.toArray.size).all (fun j=>aV (ds.getD j .non) (es.getD j .non))=aV (.lst ds) (.lst es):=by
      rw[qt,←jR hl]
      congr 2
      simp;omega
     rw[ez]at z
     exact z
    ·have z:=SeqAt.RcAt.lists_lengths (A:=A) (s:=s) p1.isList p2.isList (by simp;omega) hu0
     have ez:aV (.lst ds) (.lst es)=false:=by rw[qt];exact jQ hl
     rw[ez]
     exact z
theorem TQ(I:Inv X pins σ H s)(A:Around){x y:V}{d e:Dt}{u v:Value}{n:Nat}(hd:dep d≤n)(hu:A.units+n<cLine)(hx:Is X.K H x d)(hy:Is X.K H y e)(rx:RelV x u)(ry:RelV y v):SeqAt.RcNeAt A s u v (!aV d e):=by
 have hu0:A.units<cLine:=by omega
 have in1:A.in1.units=A.units+1:=rfl
 cases hx with
 | non=>
  cases rx
  cases hy with
  | non=>
   cases ry
   unfold aV
   exact SeqAt.RcNeAt.none_none
  | bl b=>
   cases ry
   unfold aV
   exact SeqAt.RcNeAt.none_bool  b
  | int b=>
   obtain⟨t,rfl⟩:=ry
   unfold aV
   exact SeqAt.RcNeAt.none_int  b t
  | str b=>
   obtain⟨t,rfl⟩:=ry
   unfold aV
   exact SeqAt.RcNeAt.none_str  b t
  | @tup b ys es q' r'=>
   cases(show v=Value.ref b from ry)
   obtain⟨jts,r2,p2,_⟩:=I.tuple q'
   unfold aV
   exact SeqAt.RcNeAt.none_tuple  p2 hu0
  | @lst b ys es q' r'=>
   cases(show v=Value.ref b from ry)
   obtain⟨jts,r2,p2,_⟩:=I.list q'
   unfold aV
   exact SeqAt.RcNeAt.none_list  p2.isList hu0
 | bl a=>
  cases rx
  cases hy with
  | non=>
   cases ry
   unfold aV
   exact SeqAt.RcNeAt.bool_none a
  | bl b=>
   cases ry
   unfold aV
   exact SeqAt.RcNeAt.bool_bool a b
  | int b=>
   obtain⟨t,rfl⟩:=ry
   unfold aV
   exact SeqAt.RcNeAt.bool_int a b t
  | str b=>
   obtain⟨t,rfl⟩:=ry
   unfold aV
   exact SeqAt.RcNeAt.bool_str a b t
  | @tup b ys es q' r'=>
   cases(show v=Value.ref b from ry)
   obtain⟨jts,r2,p2,_⟩:=I.tuple q'
   unfold aV
   exact SeqAt.RcNeAt.bool_tuple a p2 hu0
  | @lst b ys es q' r'=>
   cases(show v=Value.ref b from ry)
   obtain⟨jts,r2,p2,_⟩:=I.list q'
   unfold aV
   exact SeqAt.RcNeAt.bool_list a p2.isList hu0
 | int a=>
  obtain⟨t',rfl⟩:=rx
  cases hy with
  | non=>
   cases ry
   unfold aV
   exact SeqAt.RcNeAt.int_none a t'
  | bl b=>
   cases ry
   unfold aV
   exact SeqAt.RcNeAt.int_bool a t' b
  | int b=>
   obtain⟨t,rfl⟩:=ry
   unfold aV
   exact SeqAt.RcNeAt.int_int a t' b t
  | str b=>
   obtain⟨t,rfl⟩:=ry
   unfold aV
   exact SeqAt.RcNeAt.int_str a t' b t
  | @tup b ys es q' r'=>
   cases(show v=Value.ref b from ry)
   obtain⟨jts,r2,p2,_⟩:=I.tuple q'
   unfold aV
   exact SeqAt.RcNeAt.int_tuple a t' p2 hu0
  | @lst b ys es q' r'=>
   cases(show v=Value.ref b from ry)
   obtain⟨jts,r2,p2,_⟩:=I.list q'
   unfold aV
   exact SeqAt.RcNeAt.int_list a t' p2.isList hu0
 | str a=>
  obtain⟨t',rfl⟩:=rx
  cases hy with
  | non=>
   cases ry
   unfold aV
   exact SeqAt.RcNeAt.str_none a t'
  | bl b=>
   cases ry
   unfold aV
   exact SeqAt.RcNeAt.str_bool a t' b
  | int b=>
   obtain⟨t,rfl⟩:=ry
   unfold aV
   exact SeqAt.RcNeAt.str_int a t' b t
  | str b=>
   obtain⟨t,rfl⟩:=ry
   unfold aV
   exact SeqAt.RcNeAt.str_str a t' b t
  | @tup b ys es q' r'=>
   cases(show v=Value.ref b from ry)
   obtain⟨jts,r2,p2,_⟩:=I.tuple q'
   unfold aV
   exact SeqAt.RcNeAt.str_tuple a t' p2 hu0
  | @lst b ys es q' r'=>
   cases(show v=Value.ref b from ry)
   obtain⟨jts,r2,p2,_⟩:=I.list q'
   unfold aV
   exact SeqAt.RcNeAt.str_list a t' p2.isList hu0
 | @tup a xs ds q r=>
  cases(show u=Value.ref a from rx)
  obtain⟨its,r1,p1,_⟩:=I.tuple q
  cases hy with
  | non=>
   cases ry
   unfold aV
   exact SeqAt.RcNeAt.tuple_none  p1 hu0
  | bl b=>
   cases ry
   unfold aV
   exact SeqAt.RcNeAt.tuple_bool b p1 hu0
  | int b=>
   obtain⟨t,rfl⟩:=ry
   unfold aV
   exact SeqAt.RcNeAt.tuple_int b t p1 hu0
  | str b=>
   obtain⟨t,rfl⟩:=ry
   unfold aV
   exact SeqAt.RcNeAt.tuple_str b t p1 hu0
  | @tup b ys es q' r'=>
   cases(show v=Value.ref b from ry)
   obtain⟨jts,r2,p2,_⟩:=I.tuple q'
   have l1:=r1.length
   have l2:=r2.length
   have l3:=r.length
   have l4:=r'.length
   cases n with
   | zero=>unfold dep at hd;omega
   | succ n=>
    have dl:deps ds≤n:=by unfold dep at hd;omega
    have z:=SeqAt.RcNeAt.tuples (A:=A) (s:=s) (e:=fun j=>aV (ds.getD j .non) (es.getD j .non)) p1 p2 hu0 (mq r1 r2 r r' fun j x y d e u v h1 h2 ix iy rx ry=>uC I n A.in1 x y d e u v (Nat.le_trans (rZ h1) dl) (by omega) ix iy rx ry)
    have ez:((List.range (min its.toArray.size jts.toArray.size)).all (fun j=>aV (ds.getD j .non) (es.getD j .non))&&its.toArray.size==jts.toArray.size)=aV (.tup ds) (.tup es):=by
     rw[Bc]
     by_cases hl:ds.length=es.length
     ·rw[uo (by simp;omega),←jR hl]
      congr 2
      simp;omega
     ·rw[jQ hl]
      have:(its.toArray.size==jts.toArray.size)=false:=by simp;omega
      rw[this,Bool.and_false]
    rw[ez]at z
    exact z
  | @lst b ys es q' r'=>
   cases(show v=Value.ref b from ry)
   obtain⟨jts,r2,p2,_⟩:=I.list q'
   unfold aV
   exact SeqAt.RcNeAt.tuple_list p1 p2.isList hu0
 | @lst a xs ds q r=>
  cases(show u=Value.ref a from rx)
  obtain⟨its,r1,p1,_⟩:=I.list q
  cases hy with
  | non=>
   cases ry
   unfold aV
   exact SeqAt.RcNeAt.list_none  p1.isList hu0
  | bl b=>
   cases ry
   unfold aV
   exact SeqAt.RcNeAt.list_bool b p1.isList hu0
  | int b=>
   obtain⟨t,rfl⟩:=ry
   unfold aV
   exact SeqAt.RcNeAt.list_int b t p1.isList hu0
  | str b=>
   obtain⟨t,rfl⟩:=ry
   unfold aV
   exact SeqAt.RcNeAt.list_str b t p1.isList hu0
  | @tup b ys es q' r'=>
   cases(show v=Value.ref b from ry)
   obtain⟨jts,r2,p2,_⟩:=I.tuple q'
   unfold aV
   exact SeqAt.RcNeAt.list_tuple p1.isList p2 hu0
  | @lst b ys es q' r'=>
   cases(show v=Value.ref b from ry)
   obtain⟨jts,r2,p2,_⟩:=I.list q'
   have l1:=r1.length
   have l2:=r2.length
   have l3:=r.length
   have l4:=r'.length
   cases n with
   | zero=>unfold dep at hd;omega
   | succ n=>
    have dl:deps ds≤n:=by unfold dep at hd;omega
    by_cases hl:ds.length=es.length
    ·have z:=SeqAt.RcNeAt.lists (A:=A) (s:=s) (e:=fun j=>aV (ds.getD j .non) (es.getD j .non)) p1.isList p2.isList (by simp;omega) hu0 (mq r1 r2 r r' fun j x y d e u v h1 h2 ix iy rx ry=>uC I n A.in1 x y d e u v (Nat.le_trans (rZ h1) dl) (by omega) ix iy rx ry)
     have ez:(List.range its.toArray.size).all (fun j=>aV (ds.getD j .non) (es.getD j .non))=aV (.lst ds) (.lst es):=by
      rw[qt,←jR hl]
      congr 2
      simp;omega
     rw[ez]at z
     exact z
    ·have z:=SeqAt.RcNeAt.lists_lengths (A:=A) (s:=s) p1.isList p2.isList (by simp;omega) hu0
     have ez:aV (.lst ds) (.lst es)=false:=by rw[qt];exact jQ hl
     rw[ez]
     exact z
end
def abz(K:Frag):R2:=fun x y H Q=>∃d e,Is K H x d∧Is K H y e∧dep d≤20∧Q (.bl (aV d e)) H
def abx(K:Frag):R2:=fun x y H Q=>∃d e,Is K H x d∧Is K H y e∧dep d≤20∧Q (.bl (!aV d e)) H
theorem UT{X:Cx}(hu:X.A.units+64<cLine):qe X (compareOp .Eq) (abz X.K):=by
 intro pins s σ H x y v u Q I rx ry h
 obtain⟨d,e,hx,hy,hd,q⟩:=h
 exact TV I X.A hd (by omega) hx hy rx ry _ _ _ _ ⟨.bl _,H,I,rfl,q⟩
theorem Uy{X:Cx}(hu:X.A.units+64<cLine):qe X (compareOp .NotEq) (abx X.K):=by
 intro pins s σ H x y v u Q I rx ry h
 obtain⟨d,e,hx,hy,hd,q⟩:=h
 exact TQ I X.A hd (by omega) hx hy rx ry _ _ _ _ ⟨.bl _,H,I,rfl,q⟩
end L2
namespace HM
open PySem
theorem t7(a b:Nat):Builtin.bitAnd (a:Int) (b:Int)=((a &&& b:Nat):Int):=by
 unfold Builtin.bitAnd
 simp
def dB(n:Nat):List Nat:=(List.range 60).filter fun h=>n.testBit h
def cnt(n:Nat):Nat:=(dB n).length
def setOf(hs:List Nat):Nat:=hs.foldl (fun S h=>S ||| 2 ^ h) 0
theorem QT(h:Nat):(1:Int)*2 ^ h=((2 ^ h:Nat):Int):=by simp
theorem Gu(n h:Nat):(n &&& 2 ^ h≠0)↔n.testBit h=true:=by
 constructor
 ·intro hn
  cases e:n.testBit h with
  | true=>rfl
  | false=>
   refine absurd (Nat.eq_of_testBit_eq fun i=> ?_) hn
   rw[Nat.testBit_and,Nat.testBit_two_pow,Nat.zero_testBit]
   by_cases hi:h=i
   ·subst hi;simp[e]
   ·simp[hi]
 ·intro e hz
  have t:(n &&& 2 ^ h).testBit h=true:=by rw[Nat.testBit_and,e,Nat.testBit_two_pow];simp
  rw[hz,Nat.zero_testBit]at t
  cases t
theorem Ca(n h:Nat):((n / 2 ^ h) &&& 1=1)↔n.testBit h=true:=by
 rw[Nat.and_one_is_mod,Nat.testBit_eq_decide_div_mod_eq]
 simp
theorem vY{n h:Nat}(hn:n<2 ^ 60)(e:n.testBit h=true):h<60:=by
 by_cases hh:h<60
 ·exact hh
 ·have:n<2 ^ h:=Nat.lt_of_lt_of_le hn (Nat.pow_le_pow_right (by decide) (by omega))
  rw[Nat.testBit_lt_two_pow this]at e
  cases e
theorem jc{p:Nat→Bool}{a b:Nat}(hab:a≤b)(h:∀i,a≤i→i<b→p i=false):(List.range b).filter p=(List.range a).filter p:=by
 obtain⟨k,rfl⟩:=Nat.exists_eq_add_of_le hab
 rw[List.range_add,List.filter_append]
 have:(List.map (fun x=>a+x) (List.range k)).filter p=[]:=by
  rw[List.filter_eq_nil_iff]
  intro x hx
  obtain⟨j,hj,rfl⟩:=List.mem_map.mp hx
  rw[h (a+j) (by omega) (by have:=List.mem_range.mp hj;omega)]
  decide
 rw[this,List.append_nil]
theorem Az(n:Nat)(hn:n<2 ^ 60):(List.range (Builtin.Int.intBits (n:Int))).filter (fun h=>n.testBit h)=dB n:=by
 unfold dB
 have ab9:∀h,n.testBit h=true→h<Builtin.Int.intBits (n:Int):=by
  intro h e
  have h0:n≠0:=by rintro rfl;rw[Nat.zero_testBit]at e;cases e
  unfold Builtin.Int.intBits
  have:¬((n:Int)==0)=true:=by simp[h0]
  rw[if_neg this]
  by_cases hh:h<n.log2+1
  ·simpa using hh
  ·have:n<2 ^ h:=Nat.lt_of_lt_of_le (Nat.lt_log2_self) (Nat.pow_le_pow_right (by decide) (by omega))
   rw[Nat.testBit_lt_two_pow this]at e
   cases e
 rcases Nat.le_total (Builtin.Int.intBits (n:Int)) 60 with h | h
 ·refine(jc h fun i hi _=> ?_).symm
  cases e:n.testBit i with
  | false=>rfl
  | true=>have:=ab9 i e;omega
 ·refine jc h fun i hi _=> ?_
  cases e:n.testBit i with
  | false=>rfl
  | true=>have:=vY hn e;omega
theorem intBits_le(n:Nat)(hn:n<2 ^ 60):Builtin.Int.intBits (n:Int)≤60:=by
 unfold Builtin.Int.intBits
 split
 ·decide
 ·rename_i h
  have h0:n≠0:=by rintro rfl;simp at h
  have:(n:Int).natAbs.log2<60:=by
   have e:(n:Int).natAbs=n:=by simp
   rw[e]
   exact(Nat.log2_lt h0).mpr hn
  omega
theorem yf(hs:List Nat)(i:Nat):(setOf hs).testBit i=decide (i∈hs):=by
 unfold setOf
 have go:∀(hs:List Nat) (S:Nat),(hs.foldl (fun S h=>S ||| 2 ^ h) S).testBit i=(S.testBit i||decide (i∈hs)):=by
  intro hs
  induction hs with
  | nil=>intro S;simp
  | cons h r ih=>
   intro S
   rw[List.foldl_cons,ih,Nat.testBit_or,Nat.testBit_two_pow]
   by_cases e:h=i
   ·subst e;simp
   ·have e':¬i=h:=fun z=>e z.symm
    simp[e,e']
 rw[go];simp
theorem uQ{n h:Nat}:h∈dB n↔h<60∧n.testBit h=true:=by
 unfold dB;rw[List.mem_filter,List.mem_range]
theorem yg(n:Nat)(hn:n<2 ^ 60):setOf (dB n)=n:=by
 refine Nat.eq_of_testBit_eq fun i=> ?_
 rw[yf]
 cases e:n.testBit i with
 | true=>exact decide_eq_true (uQ.mpr ⟨vY hn e,e⟩)
 | false=>exact decide_eq_false fun z=>by rw[(uQ.mp z).2]at e;cases e
end HM
set_option Elab.async false
set_option linter.all false
set_option maxRecDepth 100000
namespace L2
open PySem PySem.Spec PyProof.Rows
section
variable{κ:Type}[DecidableEq κ]
def rA(kvs:List (κ×V))(k:κ):Option V:=(kvs.find? fun kv=>decide (kv.1=k)).map (·.2)
def putK(kvs:List (κ×V))(k:κ)(v:V):List (κ×V):=
 if(kvs.any fun kv=>decide (kv.1=k))=true then kvs.map (fun kv=>if kv.1=k then(kv.1,v)else kv)else kvs++[(k,v)]
theorem vW{p:κ×V}{r:List (κ×V)}{k:κ}(e:p.1=k):rA (p::r) k=some p.2:=by simp[rA,List.find?_cons,e]
theorem vX{p:κ×V}{r:List (κ×V)}{k:κ}(e:¬p.1=k):rA (p::r) k=rA r k:=by simp[rA,List.find?_cons,e]
theorem oW.za{o:Option V}{u:Option Value}(r:oW o u):o.isSome=u.isSome:=by
 cases o with
 | none=>cases u with
  | none=>rfl
  | some _=>exact(show False from r).elim
 | some _=>cases u with
  | none=>exact(show False from r).elim
  | some _=>rfl
theorem oW.getD{o:Option V}{u:Option Value}{d:V}{d':Value}(r:oW o u)(rd:RelV d d'):RelV (o.getD d) (u.getD d'):=by
 cases o with
 | none=>cases u with
  | none=>exact rd
  | some _=>exact(show False from r).elim
 | some _=>cases u with
  | none=>exact(show False from r).elim
  | some _=>exact r
theorem KV.val{kvs:List (κ×V)}{vs:List (κ×Value)}(r:KV kvs vs)(k:κ):oW (rA kvs k) (valueAt vs k):=by
 unfold KV at r
 induction r with
 | nil=>exact True.intro
 | @cons p q ps qs h t ih=>
  obtain⟨h1,h2⟩:=h
  by_cases e:p.1=k
  ·have e':q.1=k:=h1.symm.trans e
   have b:valueAt (q::qs) k=some q.2:=by simp[valueAt,List.find?_cons,e']
   rw[vW e,b];exact h2
  ·have e':¬q.1=k:=fun z=>e (h1.trans z)
   have b:valueAt (q::qs) k=valueAt qs k:=by simp[valueAt,List.find?_cons,e']
   rw[vX e,b];exact ih
theorem KV.any{kvs:List (κ×V)}{vs:List (κ×Value)}(r:KV kvs vs)(k:κ):(kvs.any fun kv=>decide (kv.1=k))=vs.any fun kv=>decide (kv.1=k):=by
 unfold KV at r
 induction r with
 | nil=>rfl
 | cons h t ih=>rw[List.any_cons,List.any_cons,ih,h.1]
theorem KV.length{kvs:List (κ×V)}{vs:List (κ×Value)}(r:KV kvs vs):kvs.length=vs.length:=Paired.length r
end
theorem Nt{P:Program}{w:World}{k:Key}{u:Value}(r:RelV (kV k) u):(fM P w).is k u=true:=by
 cases k with
 | inl i=>obtain⟨t,e⟩:=(show ∃t,u=Value.int i t from r);subst e;exact CP P w i t
 | inr x=>obtain⟨t,e⟩:=(show ∃t,u=Value.str x t from r);subst e;exact CN P w x t
theorem y_{P:Program}{w:World}:∀{ks:List Key} {us:List Value},Vals (ks.map kV) us→ItemsAre (fM P w) ks us
 | [],_,r=>by rw[List.map_nil]at r;cases r;exact .nil
 | k::ks,_,r=>by
  rw[List.map_cons]at r
  cases r with
  | cons h t=>exact .cons (Nt h) (y_ t)
abbrev KT(H:Hp):List (List Key×V)→List (List Key×Addr×Value)→Prop:=Paired fun p q=>p.1=q.1∧H q.2.1=some (.tup (p.1.map kV))∧RelV p.2 q.2.2
theorem KT.val{H:Hp}{kvs:List (List Key×V)}{xs:List (List Key×Addr×Value)}(r:KT H kvs xs)(k:List Key):oW (rA kvs k) ((atKey xs k).map (·.2)):=by
 induction r with
 | nil=>exact True.intro
 | @cons p q ps qs h t ih=>
  obtain⟨h1,_,h2⟩:=h
  by_cases e:p.1=k
  ·have e':q.1=k:=h1.symm.trans e
   have b:atKey (q::qs) k=some q.2:=by simp[atKey,List.find?_cons,e']
   rw[vW e,b];exact h2
  ·have e':¬q.1=k:=fun z=>e (h1.trans z)
   have b:atKey (q::qs) k=atKey qs k:=by simp[atKey,List.find?_cons,e']
   rw[vX e,b];exact ih
theorem KT.keeps{H H':Hp}{kvs:List (List Key×V)}{xs:List (List Key×Addr×Value)}(r:KT H kvs xs)(ht:∀b ys,H b=some (.tup ys)→H' b=some (.tup ys)):KT H' kvs xs:=
 Paired.Va r fun _ _ z=>⟨z.1,ht _ _ z.2.1,z.2.2⟩
section
variable{P:Program}{w:World}{H:Hp}{h:Heap}{a:Addr}
theorem Sg{u:HO}(ok:lU P w H h)(e:Rd H a u):bL P w H h a u:=e.ok ok
theorem Dm{kvs:List (Key×V)}(ok:lU P w H h)(e:Rd H a (.dK kvs)):kvs.length≤sizeLine∧(a==sysModules)=false∧∃vs,KV kvs vs∧h.DictOf (fM P w) a vs:=
 show bL P w H h a (.dK kvs)from Sg ok e
theorem Y_{kvs:List (Key×V)}(ok:lU P w H h)(e:H a=some (.dK kvs)):kvs.length≤sizeLine∧(a==sysModules)=false∧∃vs,KV kvs vs∧h.DictOf (fM P w) a vs:=Dm ok (.inl e)
theorem Fz{ks:List Key}(ok:lU P w H h)(e:H a=some (.tup (ks.map kV))):(tupleKind (fM P w)).is h ks a:=by
 obtain⟨_,its,r,o,h1,h2,n,h3⟩:=(show bL P w H h a (.tup (ks.map kV))from ok a _ e)
 exact⟨o,its.toArray,n,h1,h2,h3,by simpa using y_ r⟩
theorem Ii{kvs:List (List Key×V)}(ok:lU P w H h)(e:Rd H a (.dT kvs)):kvs.length≤sizeLine∧(a==sysModules)=false∧
  ∃xs,KT H kvs xs∧h.DictOfH (tupleKind (fM P w)) a xs:=by
 obtain⟨z,y,xs,r,o,es,ep,h1,h2,h3,h4,h5⟩:=(show bL P w H h a (.dT kvs)from Sg ok e)
 refine⟨z,y,xs,r,o,es,ep,h1,h2,h3,h4,fun x hx=> ?_,h5⟩
 have all:∀{l:List (List Key×V)} {m:List (List Key×Addr×Value)},KT H l m→∀x∈m,(tupleKind (fM P w)).is h x.1 x.2.1:=by
  intro l m q
  induction q with
  | nil=>intro x hx;exact nomatch hx
  | @cons p q ps qs hq t ih=>
   intro x hx
   rcases List.mem_cons.mp hx with e | hx
   ·subst e
    exact Fz ok (by rw[←hq.1];exact hq.2.1)
   ·exact ih x hx
 exact all r x hx
theorem Y8{kvs:List (List Key×V)}(ok:lU P w H h)(e:H a=some (.dT kvs)):kvs.length≤sizeLine∧(a==sysModules)=false∧
  ∃xs,KT H kvs xs∧h.DictOfH (tupleKind (fM P w)) a xs:=Ii ok (.inl e)
end
def vD(H:Hp)(a:Addr)(y:V)(r:Option V):Prop:=
 (∃kvs k,Rd H a (.dK kvs)∧y=kV k∧r=rA kvs k)∨∃kvs k b,Rd H a (.dT kvs)∧y= .ref b∧H b=some (.tup (k.map kV))∧r=rA kvs k
def R0(H:Hp)(a:Addr)(y v:V)(H':Hp):Prop:=
 (∃kvs k,H a=some (.dK kvs)∧y=kV k∧kvs.length<sizeLine∧H'=upd H a (.dK (putK kvs k v)))∨
 ∃kvs k b,H a=some (.dT kvs)∧y= .ref b∧H b=some (.tup (k.map kV))∧kvs.length<sizeLine∧H'=upd H a (.dT (putK kvs k v))
theorem vD.k{H:Hp}{a:Addr}{kvs:List (Key×V)}{k:Key}(e:H a=some (.dK kvs)):vD H a (kV k) (rA kvs k):= .inl ⟨kvs,k,.inl e,rfl,rfl⟩
theorem vD.t{H:Hp}{a b:Addr}{kvs:List (List Key×V)}{k:List Key}(e:H a=some (.dT kvs))(eb:H b=some (.tup (k.map kV))):vD H a (.ref b) (rA kvs k):= .inr ⟨kvs,k,b,.inl e,rfl,eb,rfl⟩
theorem R0.k{H:Hp}{a:Addr}{kvs:List (Key×V)}{k:Key}{v:V}(e:H a=some (.dK kvs))(hl:kvs.length<sizeLine):R0 H a (kV k) v (upd H a (.dK (putK kvs k v))):= .inl ⟨kvs,k,e,rfl,hl,rfl⟩
theorem R0.t{H:Hp}{a b:Addr}{kvs:List (List Key×V)}{k:List Key}{v:V}(e:H a=some (.dT kvs))(eb:H b=some (.tup (k.map kV)))(hl:kvs.length<sizeLine):
  R0 H a (.ref b) v (upd H a (.dT (putK kvs k v))):= .inr ⟨kvs,k,b,e,rfl,eb,hl,rfl⟩
section
variable{X:Cx}{pins:List (Addr×Obj)}{σ:St}{H:Hp}{s:Shared}{a:Addr}{y v:V}{u r:Value}{o:Option V}{A:Around}{E:Value→Shared→Prop}
theorem J0{Q:Value→Shared→Prop}(hu:A.units+1<cLine)(I:Inv X pins σ H s)(g:vD H a y (some v))(ry:RelV y u)(h:∀w' s',Inv X pins σ H s'→RelV v w'→Q w' s'):
  wpAny (model X.prog X.w) A (getItem (.ref a) u) Q E s:=by
 rcases g with⟨kvs,k,e,ey,l⟩ | ⟨kvs,k,b,e,ey,eb,l⟩
 ·subst ey
  obtain⟨z,hd,vs,rel,dd⟩:=Dm I.hok e
  obtain⟨w',hw,rw'⟩:=oW.some_of (v:=v) (o:=valueAt vs k) (by rw[l];exact rel.val k)
  exact wpAny_getItem_of (Nt ry) dd.mapOf hw (h w' _ (I.tok _) rw')
 ·subst ey
  cases(show u=Value.ref b from ry)
  obtain⟨z,hd,xs,rel,dd⟩:=Ii I.hok e
  obtain⟨w',hw,rw'⟩:=oW.some_of (v:=v) (o:=(atKey xs k).map (·.2)) (by rw[l];exact rel.val k)
  obtain⟨p,hp,hp2⟩:=Option.map_eq_some_iff.mp hw
  refine wpAny_getItem_heap (tupleKind_room_in1 hu) (Fz I.hok eb) dd hp ?_
  rw[hp2]
  exact h w' _ (I.tok _) rw'
theorem Rt{Q:Value→Shared→Prop}(hu:A.units+1<cLine)(I:Inv X pins σ H s)(g:vD H a y o)(ry:RelV y u)(h:∀s',Inv X pins σ H s'→Q (.bool (!o.isSome)) s'):
  wpAny (model X.prog X.w) A (compareOp .NotIn u (.ref a)) Q E s:=by
 rcases g with⟨kvs,k,e,ey,l⟩ | ⟨kvs,k,b,e,ey,eb,l⟩
 ·subst ey
  obtain⟨z,hd,vs,rel,dd⟩:=Dm I.hok e
  refine wpAny_notIn_of (Nt ry) hd dd.mapOf ?_
  rw[←(rel.val k).za,←l]
  exact h _ (I.tok _)
 ·subst ey
  cases(show u=Value.ref b from ry)
  obtain⟨z,hd,xs,rel,dd⟩:=Ii I.hok e
  refine wpAny_notIn_heap (tupleKind_room_in1 hu) (Fz I.hok eb) hd dd ?_
  have q:=(rel.val k).za
  rw[Option.isSome_map]at q
  rw[←q,←l]
  exact h _ (I.tok _)
theorem Rr{h':Heap}{t':Nat}{ob:HO}(I:Inv X pins σ H s)(mu:ZG (H a))(hs:Heap.SameBut a s.heap h')(he:∃q,h'.get? a=some q)(new:bL X.prog X.w (upd H a ob) h' a ob):
  Inv X pins σ (upd H a ob) {s with heap:=h',toks:=t'}:=
 I.write (x:=a) (e:=a) mu (.inl rfl) (fun b q hb z=>(hs.2 b hb).trans z) he new
end
section
variable{X:Cx}{pins:List (Addr×Obj)}{σ:St}{H:Hp}{s:Shared}{a:Addr}{kvs:List (Key×V)}{k:Key}{u:Value}{A:Around}{E:Value→Shared→Prop}
theorem Zh{Q:Value→Shared→Prop}(I:Inv X pins σ H s)(e:Rd H a (.dK kvs))(h:∀t s',Inv X pins σ H s'→Q (.int kvs.length t) s'):wpAny (model X.prog X.w) A (call (.builtin "len") [.ref a]) Q E s:=by
 obtain⟨z,hd,vs,rel,dd⟩:=Dm I.hok e
 refine call_len_dict hd dd (by rw[←rel.length];rw[sizeLine_eq]at z;omega) ?_
 rw[←rel.length]
 exact h _ _ (I.tok _)
end
theorem Dp{X:Cx}{pins:List (Addr×Obj)}{σ:St}{H:Hp}{s:Shared}{a:Addr}{y:V}{o:Option V}(I:Inv X pins σ H s)(g:vD H a y o):s.TypeIs (.ref a) "dict" := by
 rcases g with⟨kvs,k,e,_,_⟩ | ⟨kvs,k,b,e,_,_,_⟩
 ·obtain⟨_,_,vs,_,dd⟩:=Dm I.hok e
  exact dd.typeIs
 ·obtain⟨_,_,xs,_,dd⟩:=Ii I.hok e
  exact dd.typeIs
structure M1(X:Cx)(o:Expr)(m:Str)(apos:Pos)(e:Expr)(cpos:Pos):Prop where
 base:attributeBase o m X.env (eval o X.env)=eval o X.env
 few:((backTo cpos (starEach [e] X.env)).all (fun x=> !x.1)&&(backToKw cpos (keywordEach [] X.env)).all (fun x=>x.1.isSome)
  && decide (([e]:List Expr).length+([]:List Keyword).length+(if([]:List Keyword).isEmpty then 0 else 1)<30))=true
 line:(apos.endLine==cpos.line)=true
 trees:backTo cpos (starEach [e] X.env)=[(false,eval e X.env)]
structure M2(X:Cx)(o:Expr)(m:Str)(apos:Pos)(e f:Expr)(cpos:Pos):Prop where
 base:attributeBase o m X.env (eval o X.env)=eval o X.env
 few:((backTo cpos (starEach [e,f] X.env)).all (fun x=> !x.1)&&(backToKw cpos (keywordEach [] X.env)).all (fun x=>x.1.isSome)
  && decide (([e,f]:List Expr).length+([]:List Keyword).length+(if([]:List Keyword).isEmpty then 0 else 1)<30))=true
 line:(apos.endLine==cpos.line)=true
 trees:backTo cpos (starEach [e,f] X.env)=[(false,eval e X.env),(false,eval f X.env)]
section
variable{X:Cx}
theorem J6:kE X (.builtin "len") (fun xs H Q=>∃a kvs,xs=[V.ref a]∧H a=some (.dK kvs)∧Q (.int kvs.length) H):=by
 intro pins s σ H xs us Q I r h
 obtain⟨a,kvs,rfl,ha,q⟩:=h
 obtain⟨u,rfl,ru⟩:=vals1 r
 cases ru
 exact Zh I (.inl ha) fun t s' I'=>⟨.int kvs.length,H,I',⟨t,rfl⟩,q⟩
end
section
variable{prog:Program}{w:World}{A:Around}{E:Value→Shared→Prop}{s:Shared}
theorem Dz{T newId initId:String}{Bn Bi:Builtin}{args:List Value}{kw:List (Str×Value)}{Q Q₁:Value→Shared→Prop}(ft:TypeCalled T newId initId)
  (hct:checkTypeCall T ⟨args,kw⟩=pure ()) (hcn:checkBuiltinCall newId ⟨.type T::args,kw⟩=pure ())
  (entryN:entryFor table newId=some Bn) (entryI:entryFor table initId=some Bi)
  (h:wpAny (model prog w) A.in1.in1 (Bn ⟨.type T::args,kw⟩) (fun fin s₁=>∃obj,fin= .done (.ret obj)∧Q₁ obj s₁) E s)
  (hnext:∀obj s₁,Q₁ obj s₁→s₁.TypeIs obj T∧argsOk initId ⟨obj::args,kw⟩∧wpAny (model prog w) A.in1.in1 (Bi ⟨obj::args,kw⟩) (fun fin s₂=>fin= .done (.ret .none)∧Q obj s₂) E s₁):
  wpAny (model prog w) A (call (.type T) args kw) Q E s:=by
 obtain⟨c,tl,hmro⟩:=ft.mro
 have hmade:=ft.made
 have hsub:=ft.sub
 refine wpAny_call (codeAny_of_tree ?_)
 show wpAny _ _ (callAny (.type T) _) _ _ _
 refine wpAny_pure ⟨Code.quiet_builtin _ (by decide +kernel),codeAny_builtin F.entry_type_call ?_⟩
 rw[Around.under_plain (weight_type_call_type T args kw) (units_type_call_type T args kw)]
 have h1:=ft.notType
 have h2:=ft.canCreate
 repeat (any_goals (first | assumption | wp_step))
 refine codeAny_mono (codeAny_call_builtin (R:=fun r s₁=>match r with | .ok (.ret obj)=>Q₁ obj s₁ | .ok _=>False | .error e=>E e s₁) ft.plain entryN (wpAny_of_eq hcn (wpAny_mono h (fun fin s₁ ⟨obj,e,q⟩=>by subst e;exact q) fun e s₁ q=>q))) fun r s₁ hr=> ?_
 cases r with
 | error e=>exact hr
 | ok fl=>
  cases fl with
  | ret obj=>
   obtain⟨hT,hok,hsi⟩:=hnext _ _ hr
   have hli:=ft.init.lookup
   have hbi:=ft.init.bind obj
   repeat (any_goals (first | assumption | wp_step))
   refine codeAny_mono (codeAny_call_builtin (R:=fun r s₂=>match r with | .ok (.ret v)=>v= .none∧Q obj s₂ | .ok _=>False | .error e=>E e s₂) ft.init.plain entryI (ft.init.check _ _ _ _ _ _ _ _ hT hok (wpAny_mono hsi (fun fin s₂ ⟨e,q⟩=>by subst e;exact⟨rfl,q⟩) fun e s₂ q=>q))) fun r₂ s₂ hr₂=> ?_
   cases r₂ with
   | error e=>exact hr₂
   | ok fl₂=>
    cases fl₂ with
    | ret r=>
     obtain⟨rfl,hq⟩:=hr₂
     repeat (any_goals (first | assumption | wp_step))
    | _=>exact hr₂.elim
  | _=>exact hr.elim
theorem wU{T newId:String}{self a:Value}{kw:List (Str×Value)}{Q:Fin→Shared→Prop}(hl:typeLookup (.type T) "__init__" = pure (some (.builtin "object.__init__")))
  (hm:Bind.madeBy (.type T)=pure (some newId)) (hne:(some newId != some "object.__new__")=true) (hT:s.TypeIs self T) (hq:Q (.done (.ret .none)) s):
  wpAny (model prog w) A (Builtin.«object.__init__» ⟨[self,a],kw⟩) Q E s:=by
 repeat (any_goals (first | assumption | wp_step))
abbrev jz(h:Heap)(e it:Addr)(i:Int)(gv old:Value):Prop:=
 h.get? e=some {cls:= .type "enumerate",dict:=none,data:= .fields #[.none,.bool false,.ref it,rawInt i,gv,old],slots:= #[]}
def DY(gv:Value)(c:Int):Prop:=gv= .none∨∃t,gv= .int c t
theorem Dj{e it:Addr}{fp:List Addr}{n i:Nat}{c:Int}{gv:Value}{P:Nat→Value→Prop}{St:Nat→Heap→Prop}{old:Value}{Q:Value→Shared→Prop}
  (D:Draws prog w A it fp n P St) (he:jz s.heap e it c gv old) (hg:DY gv c) (hst:St i s.heap) (hlt:i<n) (hne:e≠it) (hef:e∉fp)
  (hQ:∀x h' tk tk',P i x→IsEnumOut h' e it (c+1) x s.heap.objs.size→St (i+1) h'→
   h'.get? s.heap.objs.size=some {cls:= .type "tuple",data:= .seq #[.int c tk,x]}→h'.objs.size=s.heap.objs.size+1→
   (∀b o,b≠e→b≠it→s.heap.get? b=some o→h'.get? b=some o)→Q (.ref s.heap.objs.size) {s with heap:=h',toks:=tk'}):
  wpAny (model prog w) A (Builtin.«enumerate.__next__» ⟨[.ref e],[]⟩) (fun fin s'=>∃v,fin= .done (.ret v)∧Q v s') E s:=by
 obtain⟨hp,g,d,tk₀,os⟩:=s
 show wpAny _ _ (field (.ref e) 2 >>= _) _ _ _
 refine wpAny_bind (wpAny_field he rfl (x:= .ref it) rfl ?_)
 refine wpAny_bind (D.item i _ _ _ hlt hst fun x h₁ tk hPx hit₁ hs₁=> ?_)
 replace hs₁:Heap.SameBut it hp h₁:=hs₁
 have he₁:jz h₁ e it c gv old:=(hs₁.2 e hne).trans he
 show wpAny _ _ (field (.ref e) 3 >>= _) _ _ ⟨h₁,g,d,tk,os⟩
 refine wpAny_bind (wpAny_field he₁ rfl (x:=rawInt c) rfl ?_)
 show wpAny _ _ (field (.ref e) 4 >>= _) _ _ ⟨h₁,g,d,tk,os⟩
 refine wpAny_bind (wpAny_field he₁ rfl (x:=gv) rfl ?_)
 have rest:∀(ti:Tok) (WY:Nat),wpAny (model prog w) A (do
   setField (.ref e) 3 (rawInt (c+1));setField (.ref e) 4 .none
   let result ←newTuple [.int c ti,x]
   if ←Builtin.SmallTypes.ownedTupleIsFree (.ref e)then
    rule "enumerate.__next__.owned-tuple-again"
    let old ←field (.ref e) 5
    setField (.ref e) 5 x
    Builtin.SmallTypes.ownedTupleHandOut (.ref e) result
    letGo [old] [result]
   ret result) (fun fin s'=>∃v,fin= .done (.ret v)∧Q v s') E ⟨h₁,g,d,WY,os⟩:=fun ti WY=>by
  refine wpAny_bind (wpAny_setField_rec he₁ (by simp) fun h₂ he₂ hs₂=> ?_)
  replace hs₂:Heap.SameBut e h₁ h₂:=hs₂
  replace he₂:jz h₂ e it (c+1) gv old:=he₂
  refine wpAny_bind (wpAny_setField_rec he₂ (by simp) fun h₃ he₃ hs₃=> ?_)
  replace hs₃:Heap.SameBut e h₂ h₃:=hs₃
  replace he₃:IsEnum h₃ e it (c+1) old:=he₃
  refine wpAny_bind (wpAny_newTuple ?_)
  have he₄:IsEnum (h₃.push {cls:= .type "tuple",data:= .seq #[.int c ti,x]}) e it (c+1) old:=Heap.get?_push_of_some _ he₃
  generalize hh₄:h₃.push {cls:= .type "tuple",data:= .seq #[.int c ti,x]}=h₄ at he₄
  have hsz:h₃.objs.size=hp.objs.size:=by rw[hs₃.1,hs₂.1,hs₁.1]
  have hel:e<hp.objs.size:=Heap.lt_size he
  have ht₄:h₄.get? hp.objs.size=some {cls:= .type "tuple",data:= .seq #[.int c ti,x]}:=by rw[←hh₄,←hsz];exact Heap.get?_push_size _ rfl
  have hz₄:h₄.objs.size=hp.objs.size+1:=by rw[←hh₄,Heap.size_push,hsz]
  have hk₄:∀b o,b≠e→b≠it→hp.get? b=some o→h₄.get? b=some o:=fun b o hbe hbi hb=>by
   rw[←hh₄];exact Heap.get?_push_of_some _ (hs₃.extBut b o hbe (hs₂.extBut b o hbe (hs₁.extBut b o hbi hb)))
  have hit₄:St (i+1) h₄:=D.frame _ _ _ hit₁ fun b hb o y=>by
   have hbe:b≠e:=fun q=>hef (q▸hb)
   rw[←hh₄];exact Heap.get?_push_of_some _ (hs₃.extBut b o hbe (hs₂.extBut b o hbe y))
  show wpAny _ _ (Builtin.SmallTypes.ownedTupleIsFree (.ref e) >>= _) _ _ ⟨h₄,g,d,WY,os⟩
  rw[hsz]
  refine wpAny_bind ?_
  ·unfold Builtin.SmallTypes.ownedTupleIsFree
   refine wpAny_bind (wpAny_field he₄ rfl (x:= .none) rfl (wpAny_pure ?_))
   simp only[if_true]
   refine wpAny_bind (wpAny_rule ?_)
   refine wpAny_bind (wpAny_field he₄ rfl (x:=old) rfl ?_)
   refine wpAny_bind (wpAny_setField_rec he₄ (by simp) fun h₅ he₅ hs₅=> ?_)
   replace hs₅:Heap.SameBut e h₄ h₅:=hs₅
   replace he₅:IsEnum h₅ e it (c+1) x:=he₅
   show wpAny _ _ (Builtin.SmallTypes.ownedTupleHandOut (.ref e) (.ref hp.objs.size) >>= _) _ _ ⟨h₅,g,d,WY,os⟩
   refine wpAny_bind ?_
   ·unfold Builtin.SmallTypes.ownedTupleHandOut
    refine wpAny_bind (wpAny_setField_rec he₅ (by simp) fun h₆ he₆ hs₆=> ?_)
    replace hs₆:Heap.SameBut e h₅ h₆:=hs₆
    replace he₆:IsEnumOut h₆ e it (c+1) x hp.objs.size:=he₆
    refine wpAny_setField_rec he₆ (by simp) fun h₇ he₇ hs₇=> ?_
    replace hs₇:Heap.SameBut e h₆ h₇:=hs₇
    replace he₇:IsEnumOut h₇ e it (c+1) x hp.objs.size:=he₇
    refine wpAny_bind (wpAny_letGo (wpAny_pure ⟨_,rfl,hQ x h₇ ti WY hPx he₇ ?_ ?_ ?_ ?_⟩))
    ·exact D.frame _ _ _ hit₄ fun b hb o y=>by
      have hbe:b≠e:=fun q=>hef (q▸hb)
      exact hs₇.extBut b o hbe (hs₆.extBut b o hbe (hs₅.extBut b o hbe y))
    ·exact hs₇.extBut _ _ (Nat.ne_of_gt hel) (hs₆.extBut _ _ (Nat.ne_of_gt hel) (hs₅.extBut _ _ (Nat.ne_of_gt hel) ht₄))
    ·rw[hs₇.1,hs₆.1,hs₅.1,hz₄]
    ·exact fun b o hbe hbi hb=>hs₇.extBut b o hbe (hs₆.extBut b o hbe (hs₅.extBut b o hbe (hk₄ b o hbe hbi hb)))
 rcases hg with rfl | ⟨ti,rfl⟩
 ·show wpAny _ _ (mkInt c >>= _) _ _ ⟨h₁,g,d,tk,os⟩
  exact wpAny_bind (wpAny_mkInt (rest tk (tk+1)))
 ·exact rest ti tk
theorem tE{it l:Addr}{i:Nat}{items}{x:Value}{Q:Value→Shared→Prop}(hit:s.heap.IsTupleIter it l i)(hl:s.heap.IsTuple l items)(hx:items[i]? = some x)
  (hQ:∀h',h'.IsTupleIter it l (i+1)→Heap.SameBut it s.heap h'→Q x {s with heap:=h'}):
  wpAny (model prog w) A (Builtin.SmallTypes.nextOf (.ref it)) Q E s:=by
 obtain⟨o,ho,hc,hd⟩:=id hit
 obtain⟨ol,hol,_,nl,hdl⟩:=hl
 unfold Builtin.SmallTypes.nextOf
 refine wpAny_bind (wpAny_callSpecial?_slot (name:=Str.ofString "__next__") hit.typeIs F.slot_tuple_iterator_next
  (wpAny_call_entry F.slot_tuple_iterator_next hit.typeIs F.entry_tuple_iterator_next ?_ (F.args_tuple_iterator_next_1 _)))
 show wpAny _ _ (field (.ref it) 0 >>= _) _ _ s
 refine wpAny_bind (wpAny_field ho hd (x:= .ref l) rfl ?_)
 show wpAny _ _ (if(Value.ref l==Value.none)=true then _ else _) _ _ s
 rw[if_neg (show ¬((Value.ref l==Value.none)=true)from Bool.false_ne_true)]
 show wpAny _ _ (field (.ref it) 1 >>= _) _ _ s
 refine wpAny_bind (wpAny_field ho hd (x:= .int i 0) rfl ?_)
 show wpAny _ _ (seqItems? (.ref l) >>= _) _ _ s
 refine wpAny_bind (wpAny_seqItems hol hdl ?_)
 simp only[Int.toNat_natCast,hx]
 refine wpAny_bind (wpAny_setField ho hd (by simp) (wpAny_pure ⟨x,rfl,wpAny_pure (hQ _ ?_ (Heap.SameBut.update ..))⟩))
 exact⟨_,Heap.get?_update_self _ ho (Obj.isFreed_of_fields (Obj.data_mapFields hd _)),(Obj.cls_mapFields ..).trans hc,by
  rw[Obj.data_mapFields hd];simp[rawInt]⟩
theorem lY{it l:Addr}{i:Nat}{items}{Q:Value→Shared→Prop}(hh:A.handled=none)
  (hit:s.heap.IsTupleIter it l i) (hl:s.heap.IsTuple l items) (hx:items[i]? = none)
  (hE:∀h' e,Heap.ExtBut it s.heap h'→(∃o,h'.get? e=some o∧o.cls= .type "StopIteration")→E (.ref e) {s with heap:=h'}):
  wpAny (model prog w) A (Builtin.SmallTypes.nextOf (.ref it)) Q E s:=by
 obtain⟨o,ho,hc,hd⟩:=id hit
 obtain⟨ol,hol,_,nl,hdl⟩:=hl
 unfold Builtin.SmallTypes.nextOf
 refine wpAny_bind (wpAny_callSpecial?_slot (name:=Str.ofString "__next__") hit.typeIs F.slot_tuple_iterator_next
  (wpAny_call_entry F.slot_tuple_iterator_next hit.typeIs F.entry_tuple_iterator_next ?_ (F.args_tuple_iterator_next_1 _)))
 show wpAny _ _ (field (.ref it) 0 >>= _) _ _ s
 refine wpAny_bind (wpAny_field ho hd (x:= .ref l) rfl ?_)
 show wpAny _ _ (if(Value.ref l==Value.none)=true then _ else _) _ _ s
 rw[if_neg (show ¬((Value.ref l==Value.none)=true)from Bool.false_ne_true)]
 show wpAny _ _ (field (.ref it) 1 >>= _) _ _ s
 refine wpAny_bind (wpAny_field ho hd (x:= .int i 0) rfl ?_)
 show wpAny _ _ (seqItems? (.ref l) >>= _) _ _ s
 refine wpAny_bind (wpAny_seqItems hol hdl ?_)
 simp only[Int.toNat_natCast,hx]
 refine wpAny_bind (wpAny_rule (wpAny_bind (wpAny_setField ho hd (by simp) ?_)))
 show wpAny _ _ (newExc (.type "StopIteration") [] >>= _) _ _ _
 refine wpAny_bind ?_
 simp only[newExc,newTuple]
 refine wpAny_bind (wpAny_newObj_type ?_ (by size_fits))
 refine wpAny_bind (m:=firstArgMember _ _) (wpAny_of_eq (a:=Value.none) (by first | rfl | (simp only[firstArgMember];rfl)) ?_)
 refine wpAny_newObj_type ?_ (by size_fits)
 simp only[raiseNew]
 refine wpAny_bind (wpAny_handled ?_)
 first | rw[show A.in1.handled=none from hh] | rw[hh]
 refine wpAny_bind (wpAny_pure (wpAny_throw ?_))
 exact hE _ _ (((Heap.SameBut.update ..).extBut.push _).push _) ⟨_,Heap.get?_push_size _ rfl,rfl⟩
theorem Dl(hh:A.handled=none)(it l:Addr)(hne:l≠it)(items:Array Value):
  Draws prog w A it [it,l] items.size (fun i v=>items[i]? = some v) (fun i h=>h.IsTupleIter it l i∧h.IsTuple l items) where
 live:=fun _ _ st=>let⟨o,ho,_⟩:=st.1;⟨o,ho⟩
 frame:=fun _ _ _ st hk=>⟨let⟨o,ho,a⟩:=st.1;⟨o,hk it (by simp) o ho,a⟩,let⟨o,ho,a⟩:=st.2;⟨o,hk l (by simp) o ho,a⟩⟩
 item:=fun i s Q E hi st hQ=>by
  refine tE st.1 st.2 (x:=items[i]) (by simp[hi]) fun h' hit' hs'=> ?_
  exact hQ _ h' s.toks (by simp[hi]) ⟨hit',let⟨o,ho,a⟩:=st.2;⟨o,hs'.extBut l o hne ho,a⟩⟩ hs'
 done:=fun s Q E st hE=>lY hh st.1 st.2 (by simp) hE
theorem z8{e it:Addr}{fp:List Addr}{n i:Nat}{c:Int}{gv:Value}{P:Nat→Value→Prop}{St:Nat→Heap→Prop}{old:Value}{Q:Option Value→Shared→Prop}
  (D:Draws prog w A.in1 it fp n P St) (he:jz s.heap e it c gv old) (hg:DY gv c) (hst:St i s.heap) (hlt:i<n) (hne:e≠it) (hef:e∉fp)
  (hQ:∀x h' tk tk',P i x→IsEnumOut h' e it (c+1) x s.heap.objs.size→St (i+1) h'→
   h'.get? s.heap.objs.size=some {cls:= .type "tuple",data:= .seq #[.int c tk,x]}→h'.objs.size=s.heap.objs.size+1→
   (∀b o,b≠e→b≠it→s.heap.get? b=some o→h'.get? b=some o)→Q (some (.ref s.heap.objs.size)) {s with heap:=h',toks:=tk'}):
  wpAny (model prog w) A (pyNext (.ref e)) Q E s:=by
 have hT:s.TypeIs (.ref e) "enumerate" := ⟨_,he,rfl⟩
 unfold pyNext
 exact wpAny_bind (wpAny_attempt (wpAny_callSpecial?_slot (name:=Str.ofString "__next__") hT F.slot_enumerate_next
  (wpAny_call_entry F.slot_enumerate_next hT F.entry_enumerate_next
   (Dj D he hg hst hlt hne hef fun x h' tk tk' a b c d k q=>wpAny_pure (hQ x h' tk tk' a b c d k q)) (F.args_enumerate_next_1 _))))
end
section
variable{X:Cx}{pins:List (Addr×Obj)}{σ:L2.St}{H:Hp}{s:Shared}{h':Heap}
theorem Inv.Pq{t':Nat}{a b:Addr}(I:Inv X pins σ H s)(k:∀c o,c≠a→c≠b→s.heap.get? c=some o→h'.get? c=some o)(fa:uL X pins H a)(fb:uL X pins H b):Inv X pins σ H {s with heap:=h',toks:=t'}:=by
 obtain⟨na,La,_,a1,a2,a3⟩:=fa
 obtain⟨nb,Lb,_,b1,b2,b3⟩:=fb
 have U8:∀c u,H c=some u→c≠a∧c≠b:=fun c u e=>⟨(fun z=>by rw[z,na]at e;cases e),(fun z=>by rw[z,nb]at e;cases e)⟩
 have kk:∀c o,c∉[a,b]→s.heap.get? c=some o→h'.get? c=some o:=fun c o hc e=>k c o (fun z=>hc (by simp[z])) (fun z=>hc (by simp[z])) e
 refine I.step (g':=s.gens) (d':=s.drawn) (ch:=[a,b]) (fun c hc=> ?_) (fun c o _ _ hc e _=>kk c o hc e) (fun c o _ _ hc e _=>⟨o.slots,kk c o hc e⟩) (fun _ _ _ _ n=>n)
  (fun c o hc e=>⟨o,kk c o hc e⟩) (fun _ _ e=>e) (fun _ _ _ e=>e) (fun c ps e=>⟨#[],by rw[e];simp⟩) (fun m hm=> ?_) (fun c u e=> ?_) I.bare
 ·rcases List.mem_cons.mp hc with rfl | hc
  ·exact⟨a1,La,a2,a3⟩
  ·obtain rfl:c=b:=by simpa using hc
   exact⟨b1,Lb,b2,b3⟩
 ·obtain⟨o,es,ep,ho,r⟩:=hm
  exact⟨o,es,ep,k _ o (Ne.symm La) (Ne.symm Lb) ho,r⟩
 ·refine(I.hok c u e).stay (fun d v hd q=> ?_) (fun _ q=>q) fun _ _ q=>q
  rcases hd with z | z
  ·rw[z]at q ⊢;exact k _ v (U8 c u e).1 (U8 c u e).2 q
  ·exact k _ v (U8 d _ z).1 (U8 d _ z).2 q
end
section
variable{X:Cx}{pins:List (Addr×Obj)}{σ:L2.St}{H:Hp}{s:Shared}{h':Heap}
theorem Inv.KD{t':Nat}{a b T:Addr}{o:HO}(I:Inv X pins σ H s)(k:∀c o,c≠a→c≠b→s.heap.get? c=some o→h'.get? c=some o)(fa:uL X pins H a)(fb:uL X pins H b)(hT:s.heap.objs.size≤T)(new:bL X.prog X.w (upd H T o) h' T o):
  Inv X pins σ (upd H T o) {s with heap:=h',toks:=t'}:=by
 have J:Inv X pins σ H {s with heap:=h',toks:=t'}:=I.Pq k fa fb
 have hn:H T=none:=I.hok.fresh hT
 obtain⟨na,La,_,a1,a2,a3⟩:=fa
 obtain⟨nb,Lb,_,b1,b2,b3⟩:=fb
 have kk:∀c o,c∉[a,b]→s.heap.get? c=some o→h'.get? c=some o:=fun c o hc e=>k c o (fun z=>hc (by simp[z])) (fun z=>hc (by simp[z])) e
 have ne:∀{c:Addr} {u:Obj},s.heap.get? c=some u→c≠T:=fun{c u} e=>Nat.ne_of_lt (Nat.lt_of_lt_of_le (Heap.lt_size e) hT)
 refine I.step (g':=s.gens) (d':=s.drawn) (ch:=[a,b]) (fun c hc=> ?_) (fun c o _ _ hc e _=>kk c o hc e) (fun c o _ _ hc e _=>⟨o.slots,kk c o hc e⟩) (fun c u _ e n=>by rw[aC (ne e)];exact n)
  (fun c o hc e=>⟨o,kk c o hc e⟩) (fun c xs e=>by rw[aC (aP e hn)];exact e) (fun c ob u e=>by rw[aC (aP e hn)];exact e) (fun c ps e=>⟨#[],by rw[aC (aP e hn),e];simp⟩) (fun m hm=> ?_) (J.hok.track hn new) I.bare
 ·rcases List.mem_cons.mp hc with rfl | hc
  ·exact⟨a1,La,a2,a3⟩
  ·obtain rfl:c=b:=by simpa using hc
   exact⟨b1,Lb,b2,b3⟩
 ·obtain⟨o,es,ep,ho,r⟩:=hm
  exact⟨o,es,ep,k _ o (Ne.symm La) (Ne.symm Lb) ho,r⟩
end
def Wv(Sq:Hp→List V→Prop)(k:Int):It where
 go i H:=∃xs x,Sq H xs∧xs[i]? = some x
 Ko i H x H':=∃p y,H p=none∧x= .ref p∧H'=upd H p (.tup [.int (k+i),y])∧∀ys,Sq H ys→ys[i]? = some y
 stop i H:=∃xs,Sq H xs∧xs.length≤i
theorem Kz:(2:Nat)≤sizeLine:=by rw[sizeLine_eq];decide
section
variable{P:Program}{w:World}{K:Frag}{es:List Expr}{n:Nat}{pos:Pos}
structure Src(K:Frag)(Sq:Hp→List V→Prop)(a it:Addr)(At:Nat→Heap→Prop):Prop where
 get:∀(X:Cx) (pins:List (Addr×Obj)) (σ:L2.St) (H:Hp) (s:Shared) (xs:List V),X.K=K→Inv X pins σ H s→Sq H xs→∃its:List Value,Vals xs its∧(∃o,s.heap.get? a=some o∧o.cls≠ .type "enumerate")∧
  ∀(i:Nat) (A:Around),A.handled=none→At i s.heap→∃St:Nat→Heap→Prop,Draws X.prog X.w A it [it,a] its.length (fun i v=>its[i]? = some v) St∧St i s.heap∧(∀j h,St j h→At j h)∧
   (its.length≤i→∀(Q:Value→Shared→Prop) (E:Value→Shared→Prop),(∀h' e,Heap.ExtBut it s.heap h'→(∃o,h'.get? e=some o∧o.cls= .type "StopIteration")→E (.ref e) {s with heap:=h'})→wpAny (model X.prog X.w) A (Builtin.SmallTypes.nextOf (.ref it)) Q E s)
 inj:∀(X:Cx) (pins:List (Addr×Obj)) (σ:L2.St) (H:Hp) (s:Shared) (xs ys:List V),X.K=K→Inv X pins σ H s→Sq H xs→Sq H ys→xs=ys
 keep:∀i h h',At i h→(∀o,h.get? it=some o→h'.get? it=some o)→At i h'
 obj:∀i h,At i h→∃o,h.get? it=some o∧(∀v,o.data≠ .cell v)∧o.cls≠ .type "enumerate"
theorem src_list(a it:Addr):Src K (fun H xs=>mK K H a xs) a it (fun i h=>h.IsListIter it a i) where
 get:=by
  intro X pins σ H s xs hK I hq
  subst hK
  obtain⟨its,rv,p,_⟩:=I.list hq
  refine⟨its,rv,?_,fun i A hh st=> ?_⟩
  ·obtain⟨o,m,e,c,_⟩:=p
   exact⟨o,e,by rw[c];decide⟩
  ·have hne:a≠it:=fun z=>by
    subst z
    obtain⟨o,m,e,c,_⟩:=p
    obtain⟨o',e',c',_⟩:=st
    rw[e]at e';cases e'
    rw[c]at c'
    exact absurd c' (by decide)
   have D:=Draws.list (prog:=X.prog) (w:=X.w) hh it a hne its.toArray
   refine⟨fun i h=>h.IsListIter it a i∧h.IsList a its.toArray,by simpa using D,⟨st,p.isList⟩,fun j h q=>q.1,fun hl Q E hE=>wpAny_nextOf_list_end hh st p.isList (by simp;omega) hE⟩
 inj:=fun X pins σ H s xs ys hK I h1 h2=>by subst hK;exact I.xj h1 h2
 keep:=fun i h h' st k=>st.at fun o e=>k o e
 obj:=fun i h st=>by obtain⟨o,e,c,d⟩:=st;exact⟨o,e,(fun v z=>by rw[d]at z;cases z),by rw[c];decide⟩
theorem PB(a it:Addr):Src K (fun H xs=>jX K H a xs) a it (fun i h=>h.IsTupleIter it a i) where
 get:=by
  intro X pins σ H s xs hK I hq
  subst hK
  obtain⟨its,rv,p,_⟩:=I.tuple hq
  refine⟨its,rv,?_,fun i A hh st=> ?_⟩
  ·obtain⟨o,e,c,_⟩:=p
   exact⟨o,e,by rw[c];decide⟩
  ·have hne:a≠it:=fun z=>by
    subst z
    obtain⟨o,e,c,_⟩:=p
    obtain⟨o',e',c',_⟩:=st
    rw[e]at e';cases e'
    rw[c]at c'
    exact absurd c' (by decide)
   have D:=Dl (prog:=X.prog) (w:=X.w) hh it a hne its.toArray
   refine⟨fun i h=>h.IsTupleIter it a i∧h.IsTuple a its.toArray,by simpa using D,⟨st,p⟩,fun j h q=>q.1,fun hl Q E hE=>lY hh st (show s.heap.IsTuple a its.toArray from p) (by simp;omega) hE⟩
 inj:=fun X pins σ H s xs ys hK I h1 h2=>by subst hK;exact I.ue h1 h2
 keep:=fun i h h' st k=>by obtain⟨o,e,a⟩:=st;exact⟨o,k o e,a⟩
 obj:=fun i h st=>by obtain⟨o,e,c,d⟩:=st;exact⟨o,e,(fun v z=>by rw[d]at z;cases z),by rw[c];decide⟩
theorem yI{Sq:Hp→List V→Prop}{a e it:Addr}{At:Nat→Heap→Prop}(S:Src K Sq a it At)(hei:e≠it)(k:Int):
  Turn P w K (.Tuple es n pos) (Wv Sq k) [e,it] e (fun i h=>(∃gv old,jz h e it (k+(i:Nat)) gv old∧DY gv (k+(i:Nat)))∧At i h) where
 mem:=by simp
 obj:=fun i h st b hb=>by
  obtain⟨⟨gv,old,he,_⟩,st⟩:=st
  rcases List.mem_cons.mp hb with rfl | hb
  ·exact⟨_,he,fun v z=>by cases(show Data.fields _=Data.cell v from z)⟩
  ·obtain rfl:b=it:=by simpa using hb
   obtain⟨o,e1,e2,_⟩:=S.obj i h st
   exact⟨o,e1,e2⟩
 keep:=fun i h h' st q=>by
  obtain⟨⟨gv,old,he,hg⟩,st⟩:=st
  exact⟨⟨gv,old,q e (by simp) _ he,hg⟩,S.keep i h h' st fun o eo=>q it (by simp) o eo⟩
 item:=by
  intro X hP hw hK hc i pins s σ H E I hf st hgo
  subst hP hw
  obtain⟨⟨gv,old,he,hg⟩,st⟩:=st
  obtain⟨xs,x,hq,hx⟩:=hgo
  obtain⟨its,rv,⟨oa,ha,ca⟩,D⟩:=S.get X pins σ H s xs hK I hq
  obtain⟨St,D,hst,back,_⟩:=D i X.A.in1 (I.ok.hd hc) st
  obtain⟨u,hu,ru⟩:=rv.get hx
  have hlt:i<its.length:=(List.getElem?_eq_some_iff.mp hu).1
  have hea:e≠a:=fun z=>by subst z;rw[he]at ha;cases ha;exact ca rfl
  refine z8 D he hg hst hlt hei (by simp[hei,hea]) fun y h1 tk tk' hy ho ab5 hT hsz hk=> ?_
  have ey:y=u:=by
   have:=hy.symm.trans hu
   exact Option.some.inj this
  subst ey
  refine⟨_,rfl,wpAny_letOwnedTupleGo_enum ho fun h2 he2 hs2=> ?_⟩
  have hTe:s.heap.objs.size≠e:=Nat.ne_of_gt (Heap.lt_size he)
  have hT2:h2.get? s.heap.objs.size=some {cls:= .type "tuple",data:= .seq #[.int (k+(i:Nat)) tk,y]}:=(hs2.2 _ hTe).trans hT
  have hf0:H s.heap.objs.size=none:=I.hok.fresh (Nat.le_refl _)
  refine⟨.ref s.heap.objs.size,upd H s.heap.objs.size (.tup [.int (k+(i:Nat)),x]),?_,rfl,⟨_,x,hf0,rfl,rfl,fun ys hy=>by rw[S.inj X pins σ H s ys xs hK I hy hq];exact hx⟩,⟨⟨.none,y,?_,.inl rfl⟩,S.keep _ _ _ (back _ _ ab5) fun o eo=>(hs2.2 it (Ne.symm hei)).trans eo⟩,fun b hb=> ?_⟩
  ·refine I.KD (fun b o n1 n2 eb=>(hs2.2 b n1).trans (hk b o n1 n2 eb)) (hf e (by simp)) (hf it (by simp)) (Nat.le_refl _) ?_
   exact⟨Kz,[.int (k+(i:Nat)) tk,y],.cons ⟨tk,rfl⟩ (.cons ru .nil),⟨_,hT2,rfl,_,rfl⟩⟩
  ·have ec:k+((i+1:Nat):Int)=k+(i:Nat)+1:=by omega
   rw[ec]
   exact he2
  ·rw[aC]
   ·exact(hf b hb).1
   ·rcases List.mem_cons.mp hb with rfl | hb
    ·exact Ne.symm hTe
    ·obtain rfl:b=it:=by simpa using hb
     obtain⟨o,e1,_,_⟩:=S.obj i s.heap st
     exact Nat.ne_of_lt (Heap.lt_size e1)
 done:=by
  intro X hP hw hK hc i pins s σ H E I hf st hgo
  subst hP hw
  obtain⟨⟨gv,old,he,hg⟩,st⟩:=st
  obtain⟨xs,hq,hx⟩:=hgo
  obtain⟨its,rv,⟨oa,ha,ca⟩,D⟩:=S.get X pins σ H s xs hK I hq
  obtain⟨St,_,_,_,fin⟩:=D i X.A.in1 (I.ok.hd hc) st
  have hT:s.TypeIs (.ref e) "enumerate" := ⟨_,he,rfl⟩
  obtain⟨f0,f1,f2,f3,f4,f5⟩:=hf it (by simp)
  unfold pyNext
  refine wpAny_bind (wpAny_attempt (wpAny_callSpecial?_slot (name:=Str.ofString "__next__") hT F.slot_enumerate_next
   (wpAny_call_entry F.slot_enumerate_next hT F.entry_enumerate_next ?_ (F.args_enumerate_next_1 _))))
  show wpAny _ _ (field (.ref e) 2 >>= _) _ _ _
  refine wpAny_bind (wpAny_field he rfl (x:= .ref it) rfl ?_)
  refine wpAny_bind (fin (by rw[←rv.length];exact hx) _ _ fun h' x he' hx'=> ?_)
  obtain⟨o,ho,hc⟩:=hx'
  refine wpAny_bind (wpAny_isInstance (T:= "StopIteration") (b:=true) ⟨o,ho,hc⟩ isSubtype_stop ?_)
  exact wpAny_pure ⟨rfl,I.turned (t':=s.toks) (fun b o hb e=>he' b o hb e) f0 f1 f3 f4 f5⟩
 self:=fun A i s Q E st hQ=>by
  obtain⟨⟨gv,old,he,_⟩,_⟩:=st
  have hT:s.TypeIs (.ref e) "enumerate" := ⟨_,he,rfl⟩
  refine wpAny_pyIter_slot hT F.slot_enumerate_iter (wpAny_call_entry F.slot_enumerate_iter hT F.entry_enumerate_iter ?_ (F.args_enumerate_iter_1 _))
  show wpAny _ _ (ret (.ref e)) _ _ s
  exact wpAny_pure ⟨_,rfl,"enumerate",_,hT,F.slot_enumerate_next.lookup,hQ⟩
end
theorem Bj:bootBuiltins "enumerate" = some (.type "enumerate"):=by decide +kernel
section
variable{prog:Program}{w:World}{A:Around}{E:Value→Shared→Prop}{s:Shared}
theorem JX{x:Value}{Q:Fin→Shared→Prop}
  (hx:wpAny (model prog w) A (pyIter x) (fun itv s1=>Q (.done (.ret (.ref s1.heap.objs.size))) {s1 with heap:=s1.heap.push {cls:= .type "enumerate",data:= .fields #[.none,.bool false,itv,rawInt 0,.none,.none]}}) E s):
  wpAny (model prog w) A (Builtin.«enumerate.__new__» ⟨[.type "enumerate",x],[]⟩) Q E s:=by
 have hsub:=sub_enumerate
 have key:wpAny (model prog w) A (do
   let itv ←pyIter x
   let r ←Builtin.SmallTypes.newRecord (Value.type "enumerate") (Builtin.SmallTypes.ownedTupleFields++[itv,rawInt 0,Value.none,Value.none])
   ret r) Q E s:=by
  refine wpAny_bind (wpAny_mono hx (fun itv s1 h1=> ?_) fun _ _ z=>z)
  wp_walk
  first | exact h1 | exact⟨_,rfl,h1⟩
 wp_walk
 refine wpAny_stack_any fun st=>wpAny_pure ?_
 split
 ·rename_i c _ _ _ _ _
  cases(c==Value.type "enumerate")
  ·first | exact key | exact wpAny_rule key | (wp_step;first | exact key | (wp_step;exact key))
  ·first | exact key | exact wpAny_rule key | (wp_step;first | exact key | (wp_step;exact key))
 ·first | exact key | exact wpAny_rule key | (wp_step;first | exact key | (wp_step;exact key))
end
section
variable{X:Cx}
theorem Gg{s:Shared}{x:Value}{Q:Value→Shared→Prop}{E:Value→Shared→Prop}
  (hx:wpAny (model X.prog X.w) X.A.in1.in1 (pyIter x) (fun itv s1=>Q (.ref s1.heap.objs.size) {s1 with heap:=s1.heap.push {cls:= .type "enumerate",data:= .fields #[.none,.bool false,itv,rawInt 0,.none,.none]}}) E s):
  wpAny (model X.prog X.w) X.A (call (.type "enumerate") [x]) Q E s:=by
 refine Dz (Q₁:=fun obj s₁=>s₁.TypeIs obj "enumerate" ∧ Q obj s₁) F.called_enumerate (F.typeCall_enumerate_1 _) (F.newCall_enumerate_1 _) F.entry_enumerate_new F.entry_object_init (JX (wpAny_mono hx (fun itv s1 q=> ?_) fun _ _ z=>z)) fun obj s₁ q=>⟨q.1,F.args_object_init_2 _ _,?_⟩
 ·exact⟨_,rfl,⟨_,Heap.get?_push_size _ rfl,rfl⟩,q⟩
 ·exact wU F.called_enumerate.init.lookup F.called_enumerate.made (by decide) q.1 ⟨rfl,q.2⟩
def Vt(K:Frag)(ta:TE):TI:=fun σ H R=>ta σ H fun x H2=>∃l,x= .ref l∧
 (((∃xs,mK K H2 l xs)∧((∀xs,mK K H2 l xs→xs.length≤sizeLine)→R (Wv (fun H xs=>mK K H l xs) 0) H2))∨((∃xs,jX K H2 l xs)∧((∀xs,jX K H2 l xs→xs.length≤sizeLine)→R (Wv (fun H xs=>jX K H l xs) 0) H2)))
set_option maxHeartbeats 4000000 in
theorem Mj{a:Expr}{ta:TE}{es:List Expr}{n:Nat}{p pos tp:Pos}(hg:Gl X "enumerate")(hm:X.mg "enumerate" = none)(ha:PE X a ta)
  (hs:starEach [a] X.env=[(false,eval a X.env)]:=by rfl):
  PI X (.Tuple es n tp) (.Call (.Name "enumerate" p) [a] [] pos) (Vt X.K ta):=by
 intro pins s σ H R I h
 refine Call_ (Aj I hg hm Bj (PyProof.Rows.callWith_type1 ?_ hs rfl))
 rw[hs]
 refine Calls.spliced_cons (dR (ha pins s σ H _ I h) fun u s2 ⟨x,H2,I2,r1,q2⟩=> ?_)
 refine Calls.spliced_nil ?_
 obtain⟨l,rfl,q⟩:=q2
 cases(show u=Value.ref l from r1)
 show wpAny _ _ (call (.type "enumerate") [Value.ref l]) _ _ s2
 refine Gg (X:=X) ?_
 have f0:∀{h:Heap} {b:Addr},s2.heap.objs.size≤b→uL X pins H2 b:=fun{h b} hb=>I2.Rj hb (I2.hok.fresh hb)
 rcases q with⟨⟨xs,hq⟩,q⟩ | ⟨⟨xs,hq⟩,q⟩
 ·obtain⟨its,rv,pp,hz⟩:=I2.list hq
  have q:=q fun ys hy=>by obtain⟨_,_,_,hz⟩:=I2.list hy;exact hz
  refine wpAny_pyIter_list pp.isList ?_
  have hsz:(s2.heap.push {cls:= .type "list_iterator",data:= .fields #[.ref l,.int 0 0]}).objs.size=s2.heap.objs.size+1:=Heap.size_push ..
  have hE:∀h,jz h (s2.heap.objs.size+1) s2.heap.objs.size 0 .none .none→h.IsListIter s2.heap.objs.size l 0→(∀b o,s2.heap.get? b=some o→h.get? b=some o)→
    wpAny (model X.prog X.w) X.A (pyIter (.ref (s2.heap.objs.size+1))) (PIE X pins σ (.Tuple es n tp) R) X.xe {s2 with heap:=h}:=fun h he hit hk=>by
   have T:=yI (P:=X.prog) (w:=X.w) (es:=es) (n:=n) (pos:=tp) (src_list (K:=X.K) l s2.heap.objs.size) (e:=s2.heap.objs.size+1) (Nat.ne_of_gt (Nat.lt_succ_self _)) 0
   have WT:(∃gv old,jz h (s2.heap.objs.size+1) s2.heap.objs.size (0+((0:Nat):Int)) gv old∧DY gv (0+((0:Nat):Int)))∧h.IsListIter s2.heap.objs.size l 0:=
    ⟨⟨_,_,he,.inl rfl⟩,hit⟩
   refine T.self X.A 0 {s2 with heap:=h} _ _ WT ?_
   refine⟨_,_,_,_,H2,rfl,I2.kept (t':=s2.toks) hk,T,WT,fun b hb=> ?_,q⟩
   rcases List.mem_cons.mp hb with rfl | hb
   ·exact f0 (h:=h) (Nat.le_succ _)
   ·obtain rfl:b=s2.heap.objs.size:=by simpa using hb
    exact f0 (h:=h) (Nat.le_refl _)
  show wpAny _ _ (pyIter (.ref (s2.heap.push _).objs.size)) _ _ _
  rw[hsz]
  refine hE _ ?_ ⟨_,Heap.get?_push_of_some _ (Heap.get?_push_size _ rfl),rfl,rfl⟩ fun b o eb=>Heap.get?_push_of_some _ (Heap.get?_push_of_some _ eb)
  have:=Heap.get?_push_size (s2.heap.push {cls:= .type "list_iterator",data:= .fields #[.ref l,.int 0 0]}) (o:={cls:= .type "enumerate",data:= .fields #[.none,.bool false,.ref s2.heap.objs.size,rawInt 0,.none,.none]}) rfl
  rw[hsz]at this
  exact this
 ·obtain⟨its,rv,pp,hz⟩:=I2.tuple hq
  have q:=q fun ys hy=>by obtain⟨_,_,_,hz⟩:=I2.tuple hy;exact hz
  refine wpAny_pyIter_tuple (show s2.heap.IsTuple l its.toArray from pp) ?_
  have hsz:(s2.heap.push {cls:= .type "tuple_iterator",data:= .fields #[.ref l,.int 0 0]}).objs.size=s2.heap.objs.size+1:=Heap.size_push ..
  have hE:∀h,jz h (s2.heap.objs.size+1) s2.heap.objs.size 0 .none .none→h.IsTupleIter s2.heap.objs.size l 0→(∀b o,s2.heap.get? b=some o→h.get? b=some o)→
    wpAny (model X.prog X.w) X.A (pyIter (.ref (s2.heap.objs.size+1))) (PIE X pins σ (.Tuple es n tp) R) X.xe {s2 with heap:=h}:=fun h he hit hk=>by
   have T:=yI (P:=X.prog) (w:=X.w) (es:=es) (n:=n) (pos:=tp) (PB (K:=X.K) l s2.heap.objs.size) (e:=s2.heap.objs.size+1) (Nat.ne_of_gt (Nat.lt_succ_self _)) 0
   have WT:(∃gv old,jz h (s2.heap.objs.size+1) s2.heap.objs.size (0+((0:Nat):Int)) gv old∧DY gv (0+((0:Nat):Int)))∧h.IsTupleIter s2.heap.objs.size l 0:=
    ⟨⟨_,_,he,.inl rfl⟩,hit⟩
   refine T.self X.A 0 {s2 with heap:=h} _ _ WT ?_
   refine⟨_,_,_,_,H2,rfl,I2.kept (t':=s2.toks) hk,T,WT,fun b hb=> ?_,q⟩
   rcases List.mem_cons.mp hb with rfl | hb
   ·exact f0 (h:=h) (Nat.le_succ _)
   ·obtain rfl:b=s2.heap.objs.size:=by simpa using hb
    exact f0 (h:=h) (Nat.le_refl _)
  show wpAny _ _ (pyIter (.ref (s2.heap.push _).objs.size)) _ _ _
  rw[hsz]
  refine hE _ ?_ ⟨_,Heap.get?_push_of_some _ (Heap.get?_push_size _ rfl),rfl,rfl⟩ fun b o eb=>Heap.get?_push_of_some _ (Heap.get?_push_of_some _ eb)
  have:=Heap.get?_push_size (s2.heap.push {cls:= .type "tuple_iterator",data:= .fields #[.ref l,.int 0 0]}) (o:={cls:= .type "enumerate",data:= .fields #[.none,.bool false,.ref s2.heap.objs.size,rawInt 0,.none,.none]}) rfl
  rw[hsz]at this
  exact this
end
structure mH(K:Frag)(C:Addr)(name:Str):Prop where
 cd:∃cd,PySem.W.clsIn K C=some cd∧cd.hasDict=true∧cd.mro.isEmpty=false∧cd.mro.contains (.type "object")=true∧cd.mro.contains (.type "BaseException")=true∧(∀self,refuseLoop self "__setattr__" cd.mro=pure ())
 sa:findIn K (.ref C) "__setattr__" = some (some (.builtin "object.__setattr__"))
 ga:findIn K (.ref C) "__getattribute__" = some (some (.builtin "BaseException.__getattribute__"))
 no:findIn K (.ref C) name=some none
section
variable{prog:Program}{w:World}{A:Around}{E:Value→Shared→Prop}{s:Shared}{K:Frag}{x C:Addr}{name:Str}{v:Value}
def XAt(h:Heap)(x C:Addr)(vs:Array Value)(dx:Option Addr):Prop:=h.get? x=some {cls:= .ref C,dict:=dx,data:= .fields vs}
theorem WK{h:Heap}{vs:Array Value}(a:XAt h x C vs none):PySem.W.InstAt h x {cls:= .ref C,dict:=none,data:= .fields vs} C none:=⟨a,rfl,rfl,trivial⟩
theorem Wx{vs:Array Value}{Q:Unit→Shared→Prop}(X:K.In s.heap)(F:mH K C name)(hx:XAt s.heap x C vs none)
  (h:∀h' dx,s.heap.objs.size=dx→XAt h' x C vs (some dx)→h'.Ns1 dx (fun y=>if y=name then some v else none)→(∀b o,b≠x→s.heap.get? b=some o→h'.get? b=some o)→Q () {s with heap:=h',toks:=s.toks+2}):
  wpAny (model prog w) A (setAttr (.ref x) name v) Q E s:=by
 have I:=WK hx
 obtain⟨cd,hc,hhd,hne,hob,_,hre⟩:=F.cd
 have SF:=PySem.F.store_object
 refine PySem.W.set_plain X I F.sa ?_
 have sub:PySem.W.Looks (model prog w) s.heap (isInstance (.ref x) (.type "object")) true:=I.type.andThen (PySem.W.looks_mroIn X (by unfold PySem.W.mroIn;rw[hc,Option.bind_some,if_neg (by rw[hne];decide),hob]))
 refine codeAny_call_builtin SF.slot.plain SF.entry (@PySem.W.check_slot (model prog w) _ _ {s with toks:=s.toks+1} "object.__setattr__" "object" "__setattr__" (.ref x) [.str name s.toks,v] [] _ SF.kind SF.split sub (SF.args (.ref x) (.str name s.toks) v) ?_)
 have hm:PySem.W.Looks (model prog w) s.heap (mroOf (.ref C)) cd.mro:=(PySem.W.looks_clsIn X hc).andThen .now
 have L3:PySem.W.Looks (model prog w) s.heap (Builtin.ObjectAttr.storeTaker? none) none:= .now
 rw[PySem.W.osa_eq,refuse_eq]
 refine wpAny_bind (wpAny_bind (PySem.W.Looks.here (s:={s with toks:=s.toks+1}) I.type (wpAny_bind (PySem.W.Looks.here (s:={s with toks:=s.toks+1}) hm ?_))))
 rw[hre]
 refine wpAny_pure (wpAny_bind (PySem.W.Looks.here (s:={s with toks:=s.toks+1}) I.type (wpAny_bind (PySem.W.Looks.here (s:={s with toks:=s.toks+1}) (PySem.W.looks_findIn X F.no) (wpAny_bind (PySem.W.Looks.here (s:={s with toks:=s.toks+1}) L3 ?_))))))
 refine wpAny_bind (wpAny_pure (wpAny_bind (wpAny_bind (wpAny_loadPart (s:={s with toks:=s.toks+1}) hx (wpAny_bind (PySem.W.Looks.here (s:={s with toks:=s.toks+1}) (PySem.W.looks_clsIn X hc) ?_))))))
 rw[hhd]
 rw[if_neg (by decide)]
 dsimp only
 rw[if_neg (by simp[typeHasDict])]
 have hxs:x≠s.heap.objs.size:=Nat.ne_of_lt (Heap.lt_size hx)
 have hx₁:(s.heap.push {cls:= .type "dict",data:= .dict #[]}).get? x=some {cls:= .ref C,dict:=none,data:= .fields vs}:=Heap.get?_push_of_some _ hx
 refine wpAny_bind (wpAny_alloc' (wpAny_bind (wpAny_update' hx₁ (wpAny_pure ?_))))
 have hgd:((s.heap.push {cls:= .type "dict",data:= .dict #[]}).update x fun o=>{cls:=o.cls,dict:=some s.heap.objs.size,data:=o.data,slots:=o.slots}).get? s.heap.objs.size=some {cls:= .type "dict",data:= .dict #[]}:=
  (Heap.get?_update_ne _ _ _ _ hxs.symm).trans (Heap.get?_push_at rfl rfl)
 have hnd:((s.heap.push {cls:= .type "dict",data:= .dict #[]}).update x fun o=>{cls:=o.cls,dict:=some s.heap.objs.size,data:=o.data,slots:=o.slots}).Ns s.heap.objs.size (fun _=>none):=
  ⟨_,#[],_,hgd,rfl,fun e he=>absurd he (by simp),fun _=>rfl⟩
 show wpAny _ _ (Builtin.ObjectAttr.storeInDict s.heap.objs.size (.str name s.toks) name v) _ _ _
 unfold Builtin.ObjectAttr.storeInDict Builtin.ObjectAttr.newKeyGuard
 refine wpAny_bind (wpAny_pure (wpAny_bind (wpAny_nsSet1 (Heap.Ns1.of_empty hnd) fun h' hn' hs=> ?_)))
 obtain⟨oD,esD,epD,hoD,hdD,hcD⟩:=hn'.count (Within.cons name v Within.nil)
 refine wpAny_bind (wpAny_lookBehind hoD (by rw[hdD];exact pastItsLine_dict (Nat.le_trans hcD (by rw[List.length_cons,List.length_nil,sizeLine_eq];omega))) ?_)
 wp_walk
 have hx':h'.get? x=some {cls:= .ref C,dict:=some s.heap.objs.size,data:= .fields vs}:=(hs.2 x hxs).trans (Heap.get?_update_self _ hx₁ rfl)
 refine h h' _ rfl hx' hn' fun b ob hb e=> ?_
 exact(hs.2 b (Nat.ne_of_lt (Heap.lt_size e))).trans ((Heap.get?_update_ne _ _ _ _ hb).trans (Heap.get?_push_of_some _ e))
theorem H_:builtinKind "BaseException.__getattribute__" = some .slot:=by decide +kernel
theorem Dg:splitId "BaseException.__getattribute__" = some ("BaseException","__getattribute__"):=by decide +kernel
theorem Ia(self:Value):bindSpecial (.builtin "BaseException.__getattribute__") self=pure (.builtin "BaseException.__getattribute__",[self]):=by
 have:=(PySem.F.excAttr_ValueError).ga.bind self
 exact this
theorem aaV{vs:Array Value}{dx:Addr}{mA:Str→Option Value}{expr:Bool}{Q:Value→Shared→Prop}(X:K.In s.heap)(F:mH K C name)(hgn:findIn K (.ref C) "__getattr__" = some none)(hx:XAt s.heap x C vs (some dx))(hn:s.heap.Ns1 dx mA)(hv:mA name=some v)(hh:PySem.W.handedIn v=true)
  (h:Q v {s with toks:=s.toks+1}):wpAny (model prog w) A (getAttr (.ref x) name expr) Q E s:=by
 obtain⟨od,hod,hl⟩:=uw hn
 have I:PySem.W.InstAt s.heap x {cls:= .ref C,dict:=some dx,data:= .fields vs} C (some od):=⟨hx,rfl,rfl,hod⟩
 obtain⟨cd,hc,hhd,hne,_,hbe,_⟩:=F.cd
 have hf:PySem.W.findObj K C (some od) name=some (.value v):=by
  unfold PySem.W.findObj PySem.W.ownOf
  rw[hc,Option.bind_some,F.no]
  simp only[Option.bind_some]
  rw[if_pos hhd,hl,hv]
  rfl
 have L0:=I.type (M:=model prog w)
 have L1:=PySem.W.looks_findIn (M:=model prog w) X F.ga
 have L2:=PySem.W.looks_find (M:=model prog w) X I hf
 have L3:=PySem.W.looks_findIn (M:=model prog w) X hgn
 have sub:PySem.W.Looks (model prog w) s.heap (isInstance (.ref x) (.type "BaseException")) true:=I.type.andThen (PySem.W.looks_mroIn X (by unfold PySem.W.mroIn;rw[hc,Option.bind_some,if_neg (by rw[hne];decide),hbe]))
 obtain⟨hh',g,d,t,os⟩:=s
 unfold getAttr getAttrBy
 refine wpAny_bind (wpAny_mkText (wpAny_holding (wpAny_bind (L0.at (wpAny_bind (L1.at ?_))))))
 dsimp only
 rw[if_neg (by rw[show(Value.builtin "BaseException.__getattribute__" == Value.builtin "object.__getattribute__")=false from by decide +kernel,Bool.and_false];decide)]
 unfold getAttrByItsOwn hookBefore
 rw[if_pos (show onTheHeap (Value.ref C)=true from rfl)]
 refine wpAny_bind (L3.at (wpAny_bind ?_))
 have f3:=Ia (.ref x)
 have hx0:(expr&&onTheHeap (Value.builtin "BaseException.__getattribute__"))=false:=by cases expr<;>rfl
 repeat (any_goals (first | assumption | wp_step))
 refine codeAny_call_builtin PySem.F.excAttr_ValueError.ga.plain PySem.F.entry_bexc_ga (@PySem.W.check_slot (model prog w) _ _ ⟨hh',g,d,t+1,os⟩ "BaseException.__getattribute__" "BaseException" "__getattribute__" (.ref x) [.str name t] [] _ H_ Dg sub (PySem.F.args_bexc_ga _ _) ?_)
 unfold Builtin.«object.__getattribute__»
 refine wpAny_bind (wpAny_pure (wpAny_bind (wpAny_pure (wpAny_bind (L0.at (wpAny_bind (L2.at ?_)))))))
 refine wpAny_pure ?_
 dsimp only
 rw[PySem.W.handedOut_of hh]
 exact wpAny_pure h
end
end L2
namespace L2
open PySem
section
variable{prog:Program}{w:World}{A:Around}{E:Value→Shared→Prop}{h:Heap}{g:Array GenState}{d:Drawn}{t:Nat}{os:OsState}
variable{nm q:Str}{C N:Addr}{bs bm bmB:List Value}{hdct:Bool}{sn:List Str}{sub:List Value}{ab:Bool}{col:Option Bool}{dd:Option Addr}{k0 k1 k2 k3 k5:Option Value}{B newId initId:String}
structure DR(B:String)(bm:List Value):Prop where
 has:bm.contains (.type B)=true
 U7:bm.contains (.type "AttributeError")=false
 noN:bm.contains (.type "NameError")=false
theorem BL{M:Model}(F:ExcBaseFacts B newId initId bmB)(T:DR B bm){rest:List Value}{Q:Unit→Shared→Prop}(hC:h.get? C=some (excClassObj nm q C N bs bm hdct sn sub ab col dd k0 k1 k2 k3 k5 newId))
  (hq:Q () ⟨h,g,d,t,os⟩):wpAny M A (checkBuiltinCall newId ⟨.ref C::rest,[]⟩) Q E ⟨h,g,d,t,os⟩:=by
 have hcont:(Value.ref C::bm).contains (.type B)=true:=by rw[List.contains_cons,T.has,Bool.or_true]
 have hstar:=F.noStar
 simp only[checkBuiltinCall,F.newKind,F.newSplit,F.newRow]
 repeat (first | refine wpAny_loadPart_at hC ?_ | (refine wpAny_isSubtype_exc hC ?_;rw[hcont]) | refine wpAny_staticBase_exc hC ?_ | refine wpAny_madeBy_exc hC ?_ | simp only[bne_self_eq_false,Bool.false_eq_true,if_false] | wp_step)
 exact hq
theorem WD{R:Result→Shared→Prop}(F:ExcBaseFacts B newId initId bmB)(T:DR B bm){rest:List Value}(hC:h.get? C=some (excClassObj nm q C N bs bm hdct sn sub ab col dd k0 k1 k2 k3 k5 newId))
  (hq:R (.ok (.ret (.ref (h.objs.size+1)))) ⟨(h.push {cls:= .type "tuple",data:= .seq rest.toArray}).push
   {cls:= .ref C,data:= .fields #[.ref h.objs.size,.none,.none,.none,.bool false,.none]},g,d,t,os⟩) (hrest:rest.length≤sizeLine):
  codeAny (model prog w) A (.builtin newId ⟨.ref C::rest,[]⟩) R ⟨h,g,d,t,os⟩:=by
 have hends:=F.ends
 have hcB:(Value.ref C::bm).contains (.type B)=true:=by rw[List.contains_cons,T.has,Bool.or_true]
 have hcA:(Value.ref C::bm).contains (.type "AttributeError")=false:=by rw[List.contains_cons,T.U7];rfl
 have hcN:(Value.ref C::bm).contains (.type "NameError")=false:=by rw[List.contains_cons,T.noN];rfl
 refine codeAny_builtinAt F.entry ?_
 unfold Builtin.«BaseException.__new__»
 refine wpAt_bind ?_
 show wpAt _ _ _ (stack >>= _) _ _ _
 refine wpAt_bind (wpAt_stack fun p below=>wpAt_of_wpAny ?_)
 wp_walk
 refine wpAt_of_wpAny ?_
 rw[F.owner]
 repeat (first | with_reducible refine wpAny_madeHere_exc F.canon hC ?_ | with_reducible refine wpAny_loadPart_at hC ?_ | (with_reducible refine wpAny_isSubtype_exc hC ?_;first | rw[hcB] | rw[hcA] | rw[hcN]) | wp_step)
 show R _ _
 rw[Heap.size_push]
 exact hq
theorem BJ(F:ExcBaseFacts B newId initId bmB)(T:DR B bm){rest:List Value}{fI:Addr}{oI:Obj}{Q:Fin→Shared→Prop}
  (hC:h.get? C=some (excClassObj nm q C N bs bm hdct sn sub ab col dd k0 k1 k2 k3 k5 newId)) (hi:PySem.W.Looks (model prog w) h (typeLookup (.ref C) "__init__") (some (.ref fI)))
  (hfI:h.get? fI=some oI) (hfc:oI.cls= .type "function")
  (hq:∀h' e,h.objs.size≤e→Heap.MadeExcOf h h' e (.ref C) rest→
   wpAny (model prog w) A (call (.ref fI) (.ref e::rest)) (fun r s'=>r= .none∧Q (.done (.ret (.ref e))) s') E ⟨h',g,d,t,os⟩) (hrest:rest.length≤sizeLine):
  wpAny (model prog w) A (Builtin.«type.__call__» ⟨.ref C::rest,[]⟩) Q E ⟨h,g,d,t,os⟩:=by
 repeat (first | with_reducible refine wpAny_loadPart_at hC ?_ | with_reducible refine wpAny_madeBy_exc hC ?_ | wp_step)
 refine codeAny_call_builtin_code (Code.quiet_builtin _ F.quiet) (BL F T hC ?_)
 refine WD F T hC ?_ hrest
 show wpAny _ _ _ _ _ _
 have hC₁:=Heap.get?_push_of_some {cls:= .ref C,data:= .fields #[.ref h.objs.size,.none,.none,.none,.bool false,.none]}
  (Heap.get?_push_of_some {cls:= .type "tuple",data:= .seq rest.toArray} hC)
 have hfI₁:=Heap.get?_push_of_some {cls:= .ref C,data:= .fields #[.ref h.objs.size,.none,.none,.none,.bool false,.none]}
  (Heap.get?_push_of_some {cls:= .type "tuple",data:= .seq rest.toArray} hfI)
 have hget:((h.push {cls:= .type "tuple",data:= .seq rest.toArray}).push
   {cls:= .ref C,data:= .fields #[.ref h.objs.size,.none,.none,.none,.bool false,.none]}).get? (h.objs.size+1)=some
   {cls:= .ref C,data:= .fields #[.ref h.objs.size,.none,.none,.none,.bool false,.none]}:=by heap_get
 have hcC:(Value.ref C::bm).contains (.ref C)=true:=by simp
 unfold isInstance
 repeat (first | with_reducible refine wpAny_loadPart_at hget ?_ | (with_reducible refine wpAny_isSubtype_exc hC₁ ?_;rw[hcC]) | wp_step)
 show wpAny _ _ (typeLookup (.ref C) _) _ _ _
 refine hi _ _ _ _ (fun b o hb=>Heap.get?_push_of_some _ (Heap.get?_push_of_some _ hb)) ?_
 refine wpAny_holding (wpAny_bind ?_)
 unfold bindSpecial
 refine wpAny_bind (wpAny_typeOf (T:= "function") ⟨_,hfI₁,hfc⟩ ?_)
 rw[if_pos (by decide)]
 refine wpAny_pure (wpAny_bind (wpAny_mono (hq _ (h.objs.size+1) (Nat.le_succ _) ⟨fun b o hb=>Heap.get?_push_of_some _ (Heap.get?_push_of_some _ hb),Heap.get?_none_of_le (Nat.le_succ _),h.objs.size,hget,Heap.get?_none_of_le (Nat.le_refl _),?_⟩) (fun r s' hr=> ?_) fun _ _ x=>x))
 ·exact Heap.get?_push_of_some _ (Heap.get?_push_at rfl rfl)
 ·obtain⟨rfl,hQ⟩:=hr
  wp_walk
  exact hQ
theorem x_call(F:ExcBaseFacts B newId initId bmB)(T:DR B bm){rest:List Value}{fI:Addr}{oI:Obj}{Q:Value→Shared→Prop}
  (hC:h.get? C=some (excClassObj nm q C N bs bm hdct sn sub ab col dd k0 k1 k2 k3 k5 newId)) (hi:PySem.W.Looks (model prog w) h (typeLookup (.ref C) "__init__") (some (.ref fI)))
  (hfI:h.get? fI=some oI) (hfc:oI.cls= .type "function")
  (hq:∀h' e,h.objs.size≤e→Heap.MadeExcOf h h' e (.ref C) rest→
   wpAny (model prog w) (A.under (.builtin "type.__call__" ⟨.ref C::rest,[]⟩)) (call (.ref fI) (.ref e::rest)) (fun r s'=>r= .none∧Q (.ref e) s') E ⟨h',g,d,t,os⟩) (hrest:rest.length≤sizeLine):
  wpAny (model prog w) A (call (.ref C) rest) Q E ⟨h,g,d,t,os⟩:=by
 have f1:=tc_lookup
 have f2:=tc_bind (.ref C)
 have hT:(⟨h,g,d,t,os⟩:Shared).TypeIs (.ref C) "type" := ⟨_,hC,rfl⟩
 refine wpAny_call (codeAny_of_tree ?_)
 show wpAny _ _ (callAny (.ref C) _) _ _ _
 repeat (any_goals (first | assumption | with_reducible refine wpAny_loadPart_at hC ?_ | wp_step))
 refine⟨rfl,?_⟩
 refine codeAny_call_builtin_at (Code.quiet_builtin _ (by decide +kernel)) entry_typeCall (wpAny_check_type_call_sub hC (BJ (hrest:=hrest) F T hC hi hfI hfc fun h' e hs hm=> ?_))
 exact hq h' e hs hm
end
structure Exc(h:Heap)(e C:Addr)(dx T:Option Addr)(fl:Value):Prop where
 at_:∃vs,h.get? e=some {cls:= .ref C,dict:=dx,data:= .fields vs}∧(match T with
  | none=>vs[1]? = some .none
  | some T=>vs[1]? = some (.ref T)∧T≠e∧∃oT ts,h.get? T=some oT∧oT.data= .fields ts∧ts[3]? = some fl)
def gZ(fs:List Addr)(e:Addr)(T:Option Addr)(h h':Heap):Prop:=
 (h.objs.size≤h'.objs.size∧∀b o,h.get? b=some o→∃o',h'.get? b=some o')∧(∀b o,b≠e→some b≠T→b∉fs→h.get? b=some o→h'.get? b=some o)∧(∀b o,b≠e→some b≠T→h.get? b=some o→∃sl,h'.get? b=some {o with slots:=sl})
theorem gZ.refl{fs:List Addr}{e:Addr}{T:Option Addr}{h:Heap}:gZ fs e T h h:=⟨⟨Nat.le_refl _,fun b o q=>⟨o,q⟩⟩,fun _ _ _ _ _ x=>x,fun _ o _ _ x=>⟨o.slots,x⟩⟩
theorem gZ.trans{fs:List Addr}{e:Addr}{T T':Option Addr}{h h1 h2:Heap}(x:gZ fs e T h h1)(y:gZ fs e T' h1 h2)(hT:T'=T∨∃t,T'=some t∧h.objs.size≤t):gZ fs e T h h2:=by
 have ne:∀b o,some b≠T→h.get? b=some o→some b≠T':=fun b o n q z=>by
  rcases hT with r | ⟨t,r,q2⟩
  ·exact n (z.trans r)
  ·rw[r]at z;cases z
   exact absurd (Nat.lt_of_lt_of_le (Heap.lt_size q) q2) (Nat.lt_irrefl _)
 refine⟨⟨Nat.le_trans x.1.1 y.1.1,fun b o q=>let⟨o1,q1⟩:=x.1.2 b o q;y.1.2 b o1 q1⟩,fun b o n1 n2 n3 q=>y.2.1 b o n1 (ne b o n2 q) n3 (x.2.1 b o n1 n2 n3 q),fun b o n1 n2 q=> ?_⟩
 obtain⟨sl,e1⟩:=x.2.2 b o n1 n2 q
 obtain⟨sl2,e2⟩:=y.2.2 b _ n1 (ne b o n2 q) e1
 exact⟨sl2,e2⟩
section
variable{M:Model}{A:Around}{E:Value→Shared→Prop}{s:Shared}
theorem GP{base:Heap}{env:Env}{outer:List Env}{L e C:Addr}{dx:Option Addr}{vs:Array Value}{head:Value}{hadNext:Bool}{Q:Unit→Shared→Prop}
  (hfr:A.frames=some (env::outer)) (hl:s.heap.FunFrames base (env::outer)) (hf:env.frame=some L)
  (he:s.heap.get? e=some {cls:= .ref C,dict:=dx,data:= .fields vs}) (hsz:1<vs.size)
  (h:∀h' T,s.heap.objs.size≤T→gZ ((env::outer).filterMap (·.frame)) e (some T) s.heap h'→Exc h' e C dx (some T) (rawInt L)→Q () {s with heap:=h'}):
  wpAny M A (do let a ←frameOf env;let pl ←entryPlaceOf L hadNext;let b ←EntryCells.newEntry head a .none (rawInt L) .none pl;setField (.ref e) 1 b) Q E s:=by
 have hene:e∉(env::outer).filterMap (·.frame):=fun hm=>by
  obtain⟨_,o,ho,hnf⟩:=hl.mem hm
  rw[he]at ho;injection ho with ho;subst ho;exact hnf vs rfl
 refine wpAny_bind (wpAny_frameOf_fun hfr hl hf fun h₁ hs₁=> ?_)
 refine wpAny_bind (wpAny_entryPlaceOf fun pl hpl=> ?_)
 unfold EntryCells.newEntry newFields
 refine wpAny_bind (wpAny_newObj_type ?_ (hpl.sizeOk5 _ _ _ _ _))
 have he₁:h₁.get? e=some {cls:= .ref C,dict:=dx,data:= .fields vs}:=(hs₁.2.1 e hene).trans he
 have he₂:=Heap.get?_push_of_some (h:=h₁) {cls:= .type "traceback",dict:=none,data:= .fields ([head,.ref L,.none,rawInt L,.none]++(if pl.isEmpty then List.replicate 6 Value.none else pl)).toArray} he₁
 refine wpAny_setField he₂ rfl hsz (h _ h₁.objs.size (by rw[hs₁.1];exact Nat.le_refl _) ?_ ?_)
 ·refine⟨⟨?_,fun b o q=> ?_⟩,fun b o n1 n2 n3 q=> ?_,fun b o n1 n2 q=> ?_⟩
  ·rw[Heap.size_after_update,Heap.size_push,hs₁.1];omega
  ·by_cases n1:b=e
   ·subst n1
    exact⟨_,Heap.get?_update_self _ he₂ (Obj.isFreed_of_fields (Obj.data_mapFields rfl _))⟩
   ·obtain⟨sl,q1⟩:=hs₁.2.2 b o q
    exact⟨_,(Heap.get?_update_other _ _ (Ne.symm n1)).trans (Heap.get?_push_of_some _ q1)⟩
  ·rw[Heap.get?_update_other _ _ (Ne.symm n1)]
   exact Heap.get?_push_of_some _ ((hs₁.2.1 b n3).trans q)
  ·obtain⟨sl,q1⟩:=hs₁.2.2 b o q
   refine⟨sl,?_⟩
   rw[Heap.get?_update_other _ _ (Ne.symm n1)]
   exact Heap.get?_push_of_some _ q1
 ·have hTe:h₁.objs.size≠e:=Nat.ne_of_gt (Heap.lt_size he₁)
  have hd₃:=Obj.data_mapFields (o:={cls:= .ref C,dict:=dx,data:= .fields vs}) rfl (·.setIfInBounds 1 (Value.ref h₁.objs.size))
  have he₃:=Heap.get?_update_self (Obj.mapFields (·.setIfInBounds 1 (Value.ref h₁.objs.size))) he₂ (Obj.isFreed_of_fields hd₃)
  have hT₃:=(Heap.get?_update_other (h₁.push {cls:= .type "traceback",dict:=none,data:= .fields ([head,.ref L,.none,rawInt L,.none]++(if pl.isEmpty then List.replicate 6 Value.none else pl)).toArray})
   (Obj.mapFields (·.setIfInBounds 1 (Value.ref h₁.objs.size))) (Ne.symm hTe)).trans (Heap.get?_push_size h₁ rfl)
  refine⟨⟨_,he₃,by simp[hsz],hTe,_,_,hT₃,rfl,by first | (simp;done) | (rcases hpl with rfl | ⟨_,_,_,_,_,_,_,rfl⟩<;>simp)⟩⟩
theorem gZ.upd{fs:List Addr}{e T:Addr}{h:Heap}{f:Obj→Obj}{oT:Obj}(ho:h.get? T=some oT)(hfr:(f oT).isFreed=false):gZ fs e (some T) h (h.update T f):=by
 have k:∀b o,some b≠some T→h.get? b=some o→(h.update T f).get? b=some o:=fun b o n q=>by
  rw[Heap.get?_update_other _ _ (fun z=>n (by rw[z]))];exact q
 refine⟨⟨by rw[Heap.size_after_update];exact Nat.le_refl _,fun b o q=> ?_⟩,fun b o _ n2 _ q=>k b o n2 q,fun b o _ n2 q=>⟨o.slots,k b o n2 q⟩⟩
 by_cases z:b=T
 ·subst z;exact⟨_,Heap.get?_update_self _ ho hfr⟩
 ·exact⟨o,k b o (fun y=>z (Option.some.inj y)) q⟩
theorem pA{e C:Addr}{dx T:Option Addr}{fl:Value}{fr:Option Addr}{Q:Unit→Shared→Prop}(x:Exc s.heap e C dx T fl)
  (h:∀h',gZ [] e T s.heap h'→Exc h' e C dx T (fr.elim .none fun f=>rawInt f)→Q () {s with heap:=h'}):wpAny M A (setFlight (.ref e) fr) Q E s:=by
 obtain⟨vs,he,hT⟩:=x.at_
 unfold setFlight
 cases T with
 | none=>
  refine wpAny_bind (wpAny_field he rfl hT ?_)
  rw[if_neg (by decide)]
  exact wpAny_pure (h s.heap .refl ⟨vs,he,hT⟩)
 | some T=>
  obtain⟨h1,hne,oT,ts,hoT,hd,h3⟩:=hT
  refine wpAny_bind (wpAny_field he rfl h1 ?_)
  rw[if_pos (show(Value.ref T != Value.none)=true from by simp)]
  have hsz3:3<ts.size:=(Array.getElem?_eq_some_iff.mp h3).1
  refine wpAny_setField hoT hd hsz3 (h _ (.upd hoT (Obj.isFreed_of_fields (Obj.data_mapFields hd _))) ⟨vs,?_,h1,hne,_,_,Heap.get?_update_self _ hoT (Obj.isFreed_of_fields (Obj.data_mapFields hd _)),Obj.data_mapFields hd _,by simp[hsz3]⟩)
  rw[Heap.get?_update_other _ _ hne];exact he
theorem Ej{base:Heap}{env:Env}{outer:List Env}{L e C:Addr}{dx T:Option Addr}{fl:Value}{Q:Unit→Shared→Prop}
  (hfr:A.frames=some (env::outer)) (hl:s.heap.FunFrames base (env::outer)) (hf:env.frame=some L) (x:Exc s.heap e C dx T fl) (hfl:fl=fl∨fl=rawInt L)
  (h:∀h' T',(T=some T'∨s.heap.objs.size≤T')→gZ ((env::outer).filterMap (·.frame)) e T s.heap h'→Exc h' e C dx (some T') (rawInt L)→Q () {s with heap:=h'}):wpAny M A (noteFrame (.ref e) env) Q E s:=by
 obtain⟨vs,he,hT⟩:=x.at_
 unfold noteFrame
 simp only[hf]
 cases T with
 | none=>
  refine wpAny_bind (wpAny_field he rfl hT ?_)
  rw[if_neg (by decide)]
  refine GP hfr hl hf he (Array.getElem?_eq_some_iff.mp hT).1 fun h' T hs k x'=>h h' T (.inr hs) ?_ x'
  exact⟨k.1,fun b o n1 _ n3 q=>k.2.1 b o n1 (fun z=>by cases z;exact absurd (Nat.lt_of_lt_of_le (Heap.lt_size q) hs) (Nat.lt_irrefl _)) n3 q,fun b o n1 _ q=>k.2.2 b o n1 (fun z=>by cases z;exact absurd (Nat.lt_of_lt_of_le (Heap.lt_size q) hs) (Nat.lt_irrefl _)) q⟩
 | some T=>
  obtain⟨h1,hne,oT,ts,hoT,hd,h3⟩:=hT
  refine wpAny_bind (wpAny_field he rfl h1 ?_)
  rw[if_pos (show(Value.ref T != Value.none)=true from by simp)]
  refine wpAny_bind (wpAny_field hoT hd h3 ?_)
  by_cases hq:fl=rawInt L
  ·subst hq
   rw[if_pos (show(rawInt L==rawInt L)=true from by simp)]
   exact wpAny_pure (h s.heap T (.inl rfl) .refl x)
  ·rw[if_neg (show ¬((fl==rawInt L)=true)from by simpa using hq)]
   have hsz3:3<ts.size:=(Array.getElem?_eq_some_iff.mp h3).1
   refine wpAny_bind (wpAny_setField hoT hd hsz3 ?_)
   have other:∀b,b≠T→(s.heap.update T (Obj.mapFields (·.setIfInBounds 3 Value.none))).get? b=s.heap.get? b:=fun b hb=>Heap.get?_update_other _ _ (Ne.symm hb)
   have noRecord:∀b o,s.heap.get? b=some o→(∀vs,o.data≠ .fields vs)→b≠T:=fun b o hb hnf q=>by
    rw[q,hoT]at hb;injection hb with hb;subst hb;exact hnf ts hd
   refine GP hfr (hl.of_keeps fun b o hb hnf=>⟨o,(other b (noRecord b o hb hnf)).trans hb,rfl⟩) hf ((other e (Ne.symm hne)).trans he) (Array.getElem?_eq_some_iff.mp h1).1 fun h' T' hs k x'=> ?_
   rw[Heap.size_after_update]at hs
   exact h h' T' (.inr hs) ((gZ.upd hoT (Obj.isFreed_of_fields (Obj.data_mapFields hd _))).trans k (.inr ⟨T',rfl,hs⟩)) x'
theorem Ph{base:Heap}{env:Env}{outer:List Env}{L e C:Addr}{dx T:Option Addr}{fl:Value}{Q:Unit→Shared→Prop}
  (hfr:A.frames=some (env::outer)) (hl:s.heap.FunFrames base (env::outer)) (hf:env.frame=some L) (x:Exc s.heap e C dx T fl) (hfl:fl=fl∨fl=rawInt L)
  (h:∀h' T',(T=some T'∨s.heap.objs.size≤T')→gZ ((env::outer).filterMap (·.frame)) e T s.heap h'→Exc h' e C dx (some T') .none→Q () {s with heap:=h'}):wpAny M A (leaving env (.ref e)) Q E s:=by
 unfold leaving
 refine wpAny_bind (Ej hfr hl hf x hfl fun h' T' hT k x'=> ?_)
 refine pA (fr:=none) (s:={s with heap:=h'}) x' fun h2 k2 x2=>h h2 T' hT (k.trans (T':=some T') ⟨k2.1,fun b o n1 n2 _ q=>k2.2.1 b o n1 n2 (by simp) q,k2.2.2⟩ ?_) x2
 rcases hT with r | r
 ·exact .inl r.symm
 ·exact .inr ⟨T',rfl,r⟩
end
end L2
namespace L2
open PySem PySem.Spec PyProof.Rows
abbrev xO(a C:Addr)(dx:Option Addr):HO:= .ext fun h=>Exc h a C dx none .none
theorem R1{P:Program}{w:World}{H:Hp}{h:Heap}{a C:Addr}{dx:Option Addr}(x:Exc h a C dx none .none):bL P w H h a (xO a C dx):=by
 refine⟨x,?_,fun h1 h2 y k=> ?_⟩
 ·obtain⟨vs,e,_⟩:=x.at_;exact⟨_,e⟩
 ·obtain⟨vs,e,q⟩:=y.at_;exact⟨vs,k _ e,q⟩
theorem R3{P:Program}{w:World}{H:Hp}{h:Heap}{a C:Addr}{dx:Option Addr}(x:bL P w H h a (xO a C dx)):Exc h a C dx none .none:=x.1
section
variable{X:Cx}{pins:List (Addr×Obj)}{σ:St}{H:Hp}{s:Shared}{a C:Addr}{f:Str}{A:Around}{E:Value→Shared→Prop}
theorem Bv{y:V}{u:Value}{Q:Unit→Shared→Prop}(I:Inv X pins σ H s)(e:H a=some (xO a C none))(F:mH X.K C f)(ry:RelV y u)
  (h:∀dx s',H dx=none→dx≠a→Inv X pins σ (upd (upd H dx (.xd [(f,y)])) a (xO a C (some dx))) s'→Q () s'):wpAny (model X.prog X.w) A (setAttr (.ref a) f u) Q E s:=by
 obtain⟨vs,hx,h1⟩:=(R3 (I.hok a _ e)).at_
 refine Wx I.oU F hx fun h' dx ed hx' hn kp=> ?_
 subst ed
 have hd0:H s.heap.objs.size=none:=I.hok.fresh (Nat.le_refl _)
 have nea:s.heap.objs.size≠a:=Nat.ne_of_gt (I.hok.lt e)
 refine h _ _ hd0 nea (I.un ⟨fun b o q n _ _=>kp b o (fun z=>by subst z;rw[e]at n;cases n) q,fun b o q n _ _=>⟨o.slots,kp b o (fun z=>by subst z;rw[e]at n;cases n) q⟩,fun b o q n _=> ?_,fun b o q _=> ?_,fun b xs q=> ?_,fun b o xs q=> ?_,fun b ps q=>⟨#[],?_⟩⟩ fun b o q=> ?_)
 ·have n1:b≠a:=fun z=>by subst z;rw[e]at n;cases n
  rw[aC n1,aC (Nat.ne_of_lt (Heap.lt_size q))];exact n
 ·by_cases z:b=a
  ·subst z;exact⟨_,hx'⟩
  ·exact⟨o,kp b o z q⟩
 ·have n1:b≠a:=fun z=>by subst z;rw[e]at q;cases q
  have n2:b≠s.heap.objs.size:=fun z=>by subst z;rw[hd0]at q;cases q
  rw[aC n1,aC n2];exact q
 ·have n1:b≠a:=fun z=>by subst z;rw[e]at q;cases q
  have n2:b≠s.heap.objs.size:=fun z=>by subst z;rw[hd0]at q;cases q
  rw[aC n1,aC n2];exact q
 ·have n1:b≠a:=fun z=>by subst z;rw[e]at q;cases q
  have n2:b≠s.heap.objs.size:=fun z=>by subst z;rw[hd0]at q;cases q
  rw[aC n1,aC n2,q];simp
 ·by_cases z:b=a
  ·subst z
   rw[aW]at q;cases q
   exact R1 ⟨vs,hx',h1⟩
  ·rw[aC z]at q
   by_cases z2:b=s.heap.objs.size
   ·subst z2
    rw[aW]at q;cases q
    refine⟨_,hn,fun g=> ?_⟩
    by_cases zg:g=f
    ·subst zg;simp[List.lookup];exact ry
    ·have:(g==f)=false:=by simpa using zg
     simp[List.lookup,this,zg];exact True.intro
   ·rw[aC z2]at q
    refine(I.hok b o q).stay (fun b' u' hb q'=> ?_) (fun b' q'=> ?_) fun b' xs q'=> ?_
    ·refine kp b' u' (fun z'=> ?_) q'
     rcases hb with r | r
     ·exact z (r▸z')
     ·rw[z',e]at r;cases r
    ·have n1:b'≠a:=fun z=>by subst z;rw[e]at q';cases q'
     have n2:b'≠s.heap.objs.size:=fun z=>by subst z;rw[hd0]at q';cases q'
     rw[aC n1,aC n2];exact q'
    ·have n1:b'≠a:=fun z=>by subst z;rw[e]at q';cases q'
     have n2:b'≠s.heap.objs.size:=fun z=>by subst z;rw[hd0]at q';cases q'
     rw[aC n1,aC n2];exact q'
end
section
variable{X:Cx}{o value:Expr}{ta tv:TE}{f:Str}{pos pos':Pos}
def R_(K:Frag)(ta tv:TE)(f:Str):TS:=fun D σ H=>tv σ H fun y H1=>ta σ H1 fun x H2=>∃a C,x= .ref a∧H2 a=some (xO a C none)∧mH K C f∧
 ∀dx,H2 dx=none→dx≠a→D.nx σ (upd (upd H2 dx (.xd [(f,y)])) a (xO a C (some dx)))
theorem Qv(ha:PE X o ta)(hv:PE X value tv)(hs:swapsWith value (some (.Attribute o f pos')) pos.line X.env=pure false):PS X (.Assign [.Attribute o f pos'] value pos) (R_ X.K ta tv f):=by
 intro pins s σ H D I h
 refine plainObj_wpAny_Assign_Attribute (dR (hv pins s σ H _ I h) fun u s1 ⟨y,H1,I1,ry,q⟩=>dR (ha pins s1 σ H1 _ I1 q) fun ov s2 ⟨x,H2,I2,rx,a,C,ex,ea,F,q2⟩=> ?_) hs
 subst ex
 obtain rfl:ov=Value.ref a:=rx
 exact Bv I2 ea F ry fun dx s3 hd ne I3=>⟨σ,_,I3,q2 dx hd ne⟩
end
def qg(K:Frag)(f:Str):Sp:=fun vs H Q _=>∃a C y,vs=[.ref a,y]∧H a=some (xO a C none)∧mH K C f∧∀dx,H dx=none→dx≠a→Q .non (upd (upd H dx (.xd [(f,y)])) a (xO a C (some dx)))
section
variable{P:Program}{w:World}{K:Frag}{mg:Str→Option Value}{base:Heap}
theorem Oc{x qual g:Str}{st:Stmt}{dV:Value}{f:Addr}{fd:FuncData}{N ps:List Str}{k:Nat}(F:dM K x qual st dV f fd)(S:bA N ps (aq st))(hps:ps.length=2)
  (hbody:∀(cdv:Value) (A:Around) (outer:List Env) (s:Shared) (H:Hp) (E:XK),vU (oV GK P w K mg base N qual (aq st) f cdv A outer s H E).Mv (aD st) (R_ K (Pr 0) (Pr 1) g)):
  bh P w K mg base GK (k+1) f fd ps (qg K g):=by
 refine F.ok S (fun vs H Q E ⟨a,C,y,e,_⟩=>by rw[e,hps];rfl) fun cdv A outer s H vs Q E hr ⟨a,C,y,e,hH,hF,q⟩=> ?_
 subst e
 refine⟨_,hbody cdv A outer s H E,y,rfl,.ref a,rfl,a,C,rfl,hH,hF,fun dx hd ne=> .inl (q dx hd ne)⟩
end
structure V8(K:Frag)(C f:Addr):Prop where
 obj:∃(nm q:Str) (N:Addr) (bs bm:List Value) (hdct:Bool) (sn:List Str) (sub:List Value) (ab:Bool) (col:Option Bool) (dd:Option Addr) (k0 k1 k2 k3 k5:Option Value),
  K.lookup C=some (excClassObj nm q C N bs bm hdct sn sub ab col dd k0 k1 k2 k3 k5 "ValueError.__new__")∧DR "ValueError" bm∧bm.contains (.type "BaseException")=true
 init:findIn K (.ref C) "__init__" = some (some (.ref f))
 fn:isFn K (.ref f)=true
 kp:keepIn K (.ref C)=true
section
variable{X:Cx}{k:Nat}{f C:Addr}{fd:FuncData}{ps:List Str}{g:Str}
theorem Inv.Wy{pins:List (Addr×Obj)}{σ:St}{H:Hp}{s:Shared}{h':Heap}{e:Addr}{us:List Value}(I:Inv X pins σ H s)(hs:s.heap.objs.size≤e)(m:Heap.MadeExcOf s.heap h' e (.ref C) us):
  Inv X pins σ (upd H e (xO e C none)) {s with heap:=h'}:=by
 obtain⟨t,he,_,_⟩:=m.there
 exact I.laid (t':=s.toks) (fun b u q=>m.keeps b u q) hs (R1 ⟨_,he,rfl⟩)
theorem Jl{pins:List (Addr×Obj)}{σ:St}{H:Hp}{s:Shared}{Q:VK}{u:Value}{y:V}(M:V8 X.K C f)(hX:mH X.K C g)(F:bh X.prog X.w X.K X.mg X.base GK k f fd ps (qg X.K g))(hr:dJ (k+1) X.A)(hb:Binds X.K fd ps [])
  (I:Inv X pins σ H s) (r:RelV y u)
  (h:∀x dx,H x=none→H dx=none→dx≠x→s.heap.objs.size≤x→Q (.ref x) (upd (upd (upd H x (xO x C none)) dx (.xd [(g,y)])) x (xO x C (some dx)))):
  wpAny (model X.prog X.w) X.A (call (.ref C) [u]) (EP X pins σ Q) X.xe s:=by
 obtain⟨nm,q,N,bs,bm,hdct,sn,sub,ab,col,dd,k0,k1,k2,k3,k5,hC,hT,hB⟩:=M.obj
 have hfn:=beq_iff_eq.mp M.fn
 have lk:∃oI,X.K.lookup f=some oI∧oI.cls= .type "function" := by
  obtain⟨o,ho,hc⟩:=Option.map_eq_some_iff.mp hfn
  exact⟨o,ho,hc⟩
 obtain⟨oI,hoI,hcI⟩:=lk
 obtain⟨hp,gg,d,t,os⟩:=s
 refine x_call PySem.F.excBase_ValueError hT (I.oU _ _ hC) (PySem.W.looks_findIn I.oU M.init) (I.oU _ _ hoI) hcI (fun h' e hs m=> ?_) (by show 1≤sizeLine;decide)
 have I2:=I.Wy hs m
 have r2:Vals [V.ref e,y] [Value.ref e,u]:= .cons rfl (.cons r .nil)
 have n0:H e=none:=I.hok.fresh hs
 have hq:qg X.K g [V.ref e,y] (upd H e (xO e C none)) (fun v H2=>v= .non∧Q (.ref e) H2) E0:=by
  refine⟨e,C,y,rfl,aW,hX,fun dx hd ne=>⟨rfl,h e dx n0 ?_ ne hs⟩⟩
  rw[aC ne]at hd;exact hd
 have hl:([Value.ref e,u]++[]).length=ps.length:=by rw[List.append_nil,←r2.length];exact F.len _ _ _ _ hq
 refine wpAny_call (codeAny_mono (F.run _ X.stack _ _ ⟨[Value.ref e,u],[]⟩ [Value.ref e,u] _ _ E0 (hr.make C [u] []) (I2.env0.make C [u] []) (by simpa using hb _ [Value.ref e,u] I2.oU hl) r2 hq) fun r s' hq'=> ?_)
 cases r with
 | error e=>exact hq'.elim
 | ok fl=>
  cases fl with
  | ret u=>
   obtain⟨v,H',I3,rv,ev,q3⟩:=I2.after hq'
   subst ev
   exact⟨rv,⟨V.ref e,H',I3,rfl,q3⟩⟩
  | next=>exact False.elim hq'
  | brk=>exact False.elim hq'
  | cont=>exact False.elim hq'
end
def drop(H:Hp)(a:Addr):Hp:=fun b=>if b=a then none else H b
theorem Ij{H:Hp}{a b:Addr}(h:b≠a):drop H a b=H b:=by unfold drop;rw[if_neg h]
theorem zm{H:Hp}{a:Addr}:drop H a a=none:=by unfold drop;rw[if_pos rfl]
section
variable{X:Cx}{pins:List (Addr×Obj)}{σ:St}{H:Hp}{s:Shared}{a:Addr}{φ:Heap→Prop}
theorem Inv.Y9(I:Inv X pins σ H s)(e:H a=some (.ext φ)):Inv X pins σ (drop H a) s:=by
 have nn:∀b,H b=none→drop H a b=none:=fun b q=>by unfold drop;split<;>first | rfl | exact q
 have kk:∀b u,H b=some u→(∀ψ,u≠ .ext ψ)→drop H a b=some u:=fun b u q n=>by
  have:b≠a:=fun z=>by subst z;rw[e]at q;cases q;exact n _ rfl
  rw[Ij this];exact q
 refine⟨I.ok,I.os,I.bare,⟨I.base.keep,I.base.slot,fun b o q n x=>nn b (I.base.free b o q n x),I.base.there,fun b xs q=>kk b _ (I.base.tups b xs q) (by simp),fun b o u q=>kk b _ (I.base.rR b o u q) (by simp),fun b ps q=> ?_⟩,I.loc,I.cell,nn _ I.free,fun x c q=>nn _ (I.gC x c q),fun p hp=> ?_,fun b o q=> ?_,I.len⟩
 ·obtain⟨m,z⟩:=I.base.sJ b ps q;exact⟨m,kk b _ z (by simp)⟩
 ·obtain⟨z1,z2,z3⟩:=I.pin p hp;exact⟨z1,nn _ z2,z3⟩
 ·have nb:b≠a:=fun z=>by subst z;rw[zm]at q;cases q
  rw[Ij nb]at q
  exact(I.hok b o q).stay (fun _ _ _ z=>z) (fun b' z=>kk b' _ z (by simp)) fun b' xs z=>kk b' _ z (by simp)
end
def ji(P:Program)(w:World):GJ:=fun outer H s E ev s'=>∃e C dx T H',ev=Value.ref e∧s'.os=s.os∧AllBare s'.gens∧Un (frs outer) [] H H' s.heap s'.heap∧lU P w H' s'.heap∧Exc s'.heap e C (some dx) (some T) .none∧
 s.heap.objs.size≤e∧s.heap.objs.size≤T∧H' e=none∧H' T=none∧E (.ref C) (some dx) H'
abbrev aG:=Addr→Addr→St→Hp→Prop
structure oH(X:Cx)(pins:List (Addr×Obj))(H:Hp)(a:Addr):Prop where
 no:H a=none
 new:X.s₀.heap.objs.size≤a
 pin:∀p∈X.pn++pins,p.1≠a
def dX(X:Cx)(W:aG):Value→Shared→Prop:=fun ev s=>∃e C dx T fl pins σ H,ev=Value.ref e∧Inv X pins σ H s∧Exc s.heap e C (some dx) T fl∧(fl=fl∨fl=rawInt X.env.locals)∧oH X pins H e∧(∀t,T=some t→oH X pins H t)∧W C dx σ H
section
variable{X:Cx}{pins:List (Addr×Obj)}{σ:St}{H:Hp}{s:Shared}
theorem dX.Hx{W:aG}{E:XK}{ev:Value}{s':Shared}(I:Inv X pins σ H s)(h:ji X.prog X.w X.stack H s E ev s')(hE:∀C dx H',E (.ref C) (some dx) H'→W C dx σ H'):dX X W ev s':=by
 obtain⟨e,C,dx,T,H',rfl,os,bare,un,hok,x,ne,nT,fe,fT,hq⟩:=h
 have old:∀a,s.heap.objs.size≤a→∀p∈X.pn++pins,p.1≠a:=fun a ha p hp z=>by
  have:=Heap.lt_size (I.pin p hp).1
  rw[z]at this
  exact absurd (Nat.lt_of_lt_of_le this ha) (Nat.lt_irrefl _)
 exact⟨e,C,dx,some T,.none,pins,σ,H',rfl,I.call' os un hok bare (fun b z=>absurd z (by simp)),x,.inl rfl,⟨fe,Nat.le_trans I.sz ne,old e ne⟩,fun t z=>by cases z;exact⟨fT,Nat.le_trans I.sz nT,old T nT⟩,hE C dx H' hq⟩
theorem zb{P:Program}{w:World}{fs:List Addr}{e:Addr}{T:Option Addr}{h h':Heap}(ok:lU P w H h)(k:gZ fs e T h h')(he:H e=none)(hT:∀t,T=some t→H t=none)(hf:∀b∈fs,H b=none):lU P w H h':=by
 have kp:∀b u o,H b=some o→h.get? b=some u→h'.get? b=some u:=fun b u o q z=>
  k.2.1 b u (fun y=>by subst y;rw[he]at q;cases q) (fun y=>by rw[hT b y.symm]at q;cases q) (fun y=>by rw[hf b y]at q;cases q) z
 intro b o q
 refine(ok b o q).stay (fun b' u hb z=> ?_) (fun _ z=>z) fun _ _ z=>z
 rcases hb with rfl | hb
 ·exact kp _ u o q z
 ·exact kp _ u _ hb z
end
theorem dX.leave{P:Program}{w:World}{K:Frag}{mg:Str→Option Value}{base:Heap}{N:List Str}{qual:Str}{scope:Scope}{f:Addr}{cd:Value}{A:Around}{outer:List Env}{s:Shared}{H:Hp}{E:XK}{W:aG}{ev:Value}{s':Shared}
  (h:dX (oV (ji P w) P w K mg base N qual scope f cd A outer s H E) W ev s') (hE:∀C dx σ H',W C dx σ H'→E (.ref C) (some dx) H'):
  (oV (ji P w) P w K mg base N qual scope f cd A outer s H E).xe ev s':=by
 obtain⟨e,C,dx,T,fl,pins,σ,H',rfl,I,x,hfl,fe,fT,hW⟩:=h
 show wpAny _ _ (leaving _ (.ref e)) _ _ s'
 refine Ph I.ok.frames I.stack rfl x hfl fun h2 T' hT k x'=> ?_
 have hTn:∀t,T=some t→H' t=none:=fun t z=>(fT t z).no
 have nT:s.heap.objs.size≤T':=by
  rcases hT with r | r
  ·exact(fT T' r).new
  ·exact Nat.le_trans I.sz r
 have fT':H' T'=none:=by
  rcases hT with r | r
  ·exact hTn T' r
  ·exact I.hok.fresh r
 have ok2:=zb I.hok k fe.no hTn I.vH
 have ne:∀b o,s.heap.get? b=some o→b≠e∧some b≠T:=fun b o q=>⟨fun z=>absurd (Nat.lt_of_lt_of_le (Heap.lt_size q) (z▸fe.new)) (Nat.lt_irrefl _),fun z=>absurd (Nat.lt_of_lt_of_le (Heap.lt_size q) (fT b z.symm).new) (Nat.lt_irrefl _)⟩
 have nL:∀b o,s.heap.get? b=some o→b≠s.heap.objs.size:=fun b o q=>Nat.ne_of_lt (Heap.lt_size q)
 refine⟨e,C,dx,T',H',rfl,I.os,I.bare,⟨fun b o q n hb _=> ?_,fun b o q n hb _=> ?_,fun b o q n _=>I.base.free b o q n (by simp[oV]),fun b o q _=> ?_,I.base.tups,I.base.rR,I.base.sJ⟩,ok2,x',fe.new,nT,fe.no,fT',hE C dx σ H' hW⟩
 ·obtain⟨n1,n2⟩:=ne b o q
  refine k.2.1 b o n1 n2 (fun z=> ?_) (I.base.keep b o q n hb (by simp[oV]))
  rcases List.mem_cons.mp (I.zL b z)with y | y
  ·exact nL b o q y
  ·exact hb y
 ·obtain⟨n1,n2⟩:=ne b o q
  obtain⟨sl,q1⟩:=I.base.slot b o q n hb (by simp[oV])
  obtain⟨sl2,q2⟩:=k.2.2 b _ n1 n2 q1
  exact⟨sl2,q2⟩
 ·obtain⟨n1,n2⟩:=ne b o q
  obtain⟨o1,q1⟩:=I.base.there b o q (by simp[oV])
  obtain⟨sl2,q2⟩:=k.2.2 b _ n1 n2 q1
  exact⟨_,q2⟩
end L2
namespace L2
section
open PySem
variable{M:Model}{A:Around}{E:Value→Shared→Prop}{env:Env}
variable{nm q:Str}{C N:Addr}{bs bm:List Value}{hdct:Bool}{sn:List Str}{sub:List Value}{ab:Bool}{col:Option Bool}{dd:Option Addr}{k0 k1 k2 k3 k5:Option Value}{newId:String}
theorem BK{s:Shared}{x:Sem Value}{Q:Flow→Shared→Prop}(hbase:bm.contains (.type "BaseException")=true)(hh:A.handled=none)
  (h:wpAny M A x (fun v s₁=>∃e dx vs,v= .ref e∧s₁.heap.get? C=some (excClassObj nm q C N bs bm hdct sn sub ab col dd k0 k1 k2 k3 k5 newId)∧
   s₁.heap.get? e=some {cls:= .ref C,dict:=dx,data:= .fields vs}∧vs[1]? = some .none∧E (.ref e) s₁) E s):
  wpAny M A (raiseStmt env (some x) none) Q E s:=by
 have hcB:(Value.ref C::bm).contains (.type "BaseException")=true:=by rw[List.contains_cons,hbase,Bool.or_true]
 unfold raiseStmt
 refine wpAny_bind (wpAny_mono h (fun v s₁ h₁=> ?_) fun _ _ x=>x)
 obtain⟨e,dx,vs,rfl,hC,he,h1,hE⟩:=h₁
 obtain⟨hp,g,d,tk,os⟩:=s₁
 have hfl:∀{Q:Unit→Shared→Prop},Q () ⟨hp,g,d,tk,os⟩→wpAny M A (setFlight (.ref e) none) Q E ⟨hp,g,d,tk,os⟩:=fun hQ=>by
  unfold setFlight
  refine wpAny_bind (wpAny_field he rfl h1 ?_)
  rw[if_neg (by decide)]
  exact wpAny_pure hQ
 repeat (first | with_reducible refine wpAny_loadPart_at he ?_ | with_reducible refine wpAny_loadPart_at hC ?_ | (with_reducible refine wpAny_isSubtype_exc hC ?_;rw[hcB]) | with_reducible refine hfl ?_ | wp_step)
 exact wpAny_raiseNew_none hh hE
end
section
open PySem PySem.Spec PyProof.Rows
variable{X:Cx}{k:Nat}{f C:Addr}{fd:FuncData}{ps:List Str}{g:Str}{x:Str}{np cpos pos:Pos}{arg:Expr}{ta:TA}{W:aG}
theorem JZ{H:Hp}{x dx:Addr}{o1 o2 o3:HO}(hx:H x=none)(ne:dx≠x):drop (upd (upd (upd H x o1) dx o2) x o3) x=upd H dx o2:=by
 funext b
 unfold drop upd
 by_cases z:b=x
 ·subst z;rw[if_pos rfl,if_neg (Ne.symm ne),hx]
 ·rw[if_neg z,if_neg z]
  by_cases z2:b=dx
  ·rw[if_pos z2,if_pos z2]
  ·rw[if_neg z2,if_neg z2,if_neg z]
def Tq(C:Addr)(g:Str)(W:aG)(ta:TA):TS:=fun _ σ H=>ta σ H fun vs H1=>∃y,vs=[y]∧∀dx,H1 dx=none→W C dx σ (upd H1 dx (.xd [(g,y)]))
theorem Mf(M:V8 X.K C f)(hX:mH X.K C g)(F:bh X.prog X.w X.K X.mg X.base GK k f fd ps (qg X.K g))(hr:dJ (k+1) X.A)(hb:Binds X.K fd ps [])(hg:Gl X x)(hm:X.mg x=some (.ref C))(hc:X.calm=true)
  (hW:∀ev s,dX X W ev s→X.xe ev s) (ha:PA X [arg] ta) (hdb:(x==("__debug__" : Str))=false:=by decide) (he:starEach [arg] X.env=[(false,eval arg X.env)]:=by rfl):
  PS X (.Raise (some (.Call (.Name x np) [arg] [] cpos)) none pos) (Tq C g W ta):=by
 intro pins s σ H D I h
 obtain⟨nm,q,N,bs,bm,hdct,sn,sub,ab,col,dd,k0,k1,k2,k3,k5,hC,hT,hB⟩:=M.obj
 rw[arm_exec_Raise]
 refine wpAny_bind (wpAny_standAt (BK (C:=C) (nm:=nm) (q:=q) (N:=N) (bs:=bs) (bm:=bm) (hdct:=hdct) (sn:=sn) (sub:=sub) (ab:=ab) (col:=col) (dd:=dd) (k0:=k0) (k1:=k1) (k2:=k2) (k3:=k3) (k5:=k5) (newId:= "ValueError.__new__") hB (I.ok.hd hc) ?_))
 have main:wpAny (model X.prog X.w) X.A (eval (.Call (.Name x np) [arg] [] cpos) X.env) (EP X pins σ fun v H3=>∃e dx y H1,v= .ref e∧H1 e=none∧H1 dx=none∧dx≠e∧X.s₀.heap.objs.size≤e∧(∀p∈X.pn++pins,p.1≠e)∧H3=upd (upd (upd H1 e (xO e C none)) dx (.xd [(g,y)])) e (xO e C (some dx))∧W C dx σ (upd H1 dx (.xd [(g,y)]))) X.xe s:=by
  refine wpAny_Call_Name_kw (tM I hg hm ?_ hdb)
  refine PySem.W.callWith_K (h₀:=X.base) I.ok.mod.Vh M.kp (dR (ha cpos pins s σ H _ I h) fun us s1 ⟨vs,H1,I1,r,y,ev,q⟩=>⟨I1.oU,?_⟩) he rfl
  subst ev
  cases r with
  | cons r1 r2=>
   cases r2
   refine Jl M hX F hr hb I1 r1 fun e dx n1 n2 ne hs=>⟨e,dx,y,H1,rfl,n1,n2,ne,Nat.le_trans I1.sz hs,fun p hp z=> ?_,rfl,q dx n2⟩
   have:=Heap.lt_size (I1.pin p hp).1
   rw[z]at this
   exact absurd (Nat.lt_of_lt_of_le this hs) (Nat.lt_irrefl _)
 refine wpAny_bind (dR main fun v s1 ⟨vv,H3,I3,rv,e,dx,y,H1,ev,n1,n2,ne,sz,pn,eH,hw⟩=>wpAny_bind (wpAny_standAt (wpAny_pure ?_)))
 subst ev eH
 obtain rfl:v=Value.ref e:=rv
 have x0:Exc s1.heap e C (some dx) none .none:=R3 (I3.hok e _ aW)
 obtain⟨vs,hat,h1⟩:=x0.at_
 refine⟨e,some dx,vs,rfl,I3.oU _ _ hC,hat,h1,hW _ _ ⟨e,C,dx,none,.none,pins,σ,_,rfl,I3.Y9 aW,x0,.inl rfl,⟨zm,sz,pn⟩,(fun t z=>by cases z),?_⟩⟩
 rw[JZ n1 ne]
 exact hw
end
end L2
namespace L2
open PySem PySem.Spec PyProof.Rows
section
variable{X:Cx}{pins:List (Addr×Obj)}{σ:St}{H:Hp}{s:Shared}{e C:Addr}{dx T:Option Addr}{fl:Value}{h':Heap}{W:aG}
theorem Inv.pJ{a:Addr}{o:Obj}{vs:Array Value}(I:Inv X pins σ H s)(h:s.heap.get? a=some o)(d:o.data= .fields vs):a≠X.env.locals∧∀x c,X.env.cells.lookup x=some c→c≠a:=by
 refine⟨fun z=> ?_,fun x c hc z=> ?_⟩
 ·obtain⟨m,⟨o',es,ep,ho,hd,_⟩,_⟩:=I.loc
  subst z
  rw[ho]at h;cases h;rw[hd]at d;cases d
 ·obtain⟨v,o',ho,hd⟩:=I.cell x c hc
  subst z
  rw[ho]at h;cases h;rw[hd]at d;cases d
theorem Inv.yE(I:Inv X pins σ H s)(x:Exc s.heap e C dx T fl)(fe:oH X pins H e)(fT:∀t,T=some t→oH X pins H t)(k:gZ (frs X.stack) e T s.heap h')(hE:∃o,h'.get? e=some o)(hTt:∀t,T=some t→∃o,h'.get? t=some o):
  Inv X pins σ H {s with heap:=h'}:=by
 obtain⟨vs,he,hT⟩:=x.at_
 have ok2:=zb I.hok k fe.no (fun t z=>(fT t z).no) I.vH
 refine I.call (t':=s.toks) (g':=s.gens) (d':=s.drawn) (ch:=e::T.toList) ⟨fun b o q n hb hc=> ?_,fun b o q n hb hc=> ?_,fun b o q n _=>n,fun b o q hc=> ?_,fun _ _ q=>q,fun _ _ _ q=>q,fun b ps q=>⟨#[],by rw[q];simp⟩⟩ ok2 I.bare fun b hb=> ?_
 ·simp at hc
  exact k.2.1 b o hc.1 (fun z=>hc.2 z.symm) hb q
 ·simp at hc
  exact k.2.2 b o hc.1 (fun z=>hc.2 z.symm) q
 ·simp at hc
  obtain⟨sl,z⟩:=k.2.2 b o hc.1 (fun z=>hc.2 z.symm) q
  exact⟨_,z⟩
 ·simp at hb
  rcases hb with rfl | hb
  ·exact⟨.inr fe.new,(I.pJ he rfl).1,(I.pJ he rfl).2,fe.pin⟩
  ·subst hb
   obtain⟨_,_,oT,ts,hoT,hd,_⟩:=hT
   exact⟨.inr (fT b rfl).new,(I.pJ hoT hd).1,(I.pJ hoT hd).2,(fT b rfl).pin⟩
theorem gZ.mono{fs fs':List Addr}{h:Heap}(k:gZ fs e T h h')(hs:∀b∈fs,b∈fs'):gZ fs' e T h h':=⟨k.1,fun b o n1 n2 n3 q=>k.2.1 b o n1 n2 (fun z=>n3 (hs b z)) q,k.2.2⟩
theorem Exc.here(x:Exc h' e C dx T fl):(∃o,h'.get? e=some o)∧∀t,T=some t→∃o,h'.get? t=some o:=by
 obtain⟨vs,he,hT⟩:=x.at_
 refine⟨⟨_,he⟩,fun t z=> ?_⟩
 subst z
 obtain⟨_,_,oT,_,hoT,_⟩:=hT
 exact⟨oT,hoT⟩
theorem dX.Jq(hst:X.stack=X.env::X.outer)(hf:X.env.frame=some X.env.locals){A:Around}(hA:A.frames=some X.stack):∀ev s',dX X W ev s'→wpAny (model X.prog X.w) A (noteFrame ev X.env) (fun _ s2=>cameBackBy (model X.prog X.w) X.A X.env (dX X W) ev s2) (cameBackBy (model X.prog X.w) X.A X.env (dX X W)) s':=by
 rintro ev s' ⟨e,C,dx,T,fl,pins,σ,H,rfl,I,x,hfl,fe,fT,hW⟩
 have NQ:=I.stack
 rw[hst]at NQ
 refine Ej (by rw[hA,hst]) NQ hf x hfl fun h1 T1 hT1 k1 x1=> ?_
 have O_:oH X pins H T1:=by
  rcases hT1 with r | r
  ·exact fT T1 r
  ·refine⟨I.hok.fresh r,Nat.le_trans I.sz r,fun p hp z=> ?_⟩
   have:=Heap.lt_size (I.pin p hp).1
   rw[z]at this
   exact absurd (Nat.lt_of_lt_of_le this r) (Nat.lt_irrefl _)
 have hTt:∀t,T=some t→∃o,h1.get? t=some o:=fun t z=>by
  obtain⟨o,q⟩:=x.here.2 t z
  exact k1.1.2 t o q
 have I1:=I.yE x fe fT (k1.mono (by rw[hst];exact fun b z=>z)) x1.here.1 hTt
 unfold cameBackBy
 obtain⟨vs,he,h2,_⟩:=x1.at_
 refine wpAny_bind (wpAny_field he rfl h2 ?_)
 rw[if_neg (by simp)]
 refine pA (s:={s' with heap:=h1}) x1 fun h2 k2 x2=>⟨e,C,dx,some T1,_,pins,σ,H,rfl,I1.yE x1 fe (fun t z=>by cases z;exact O_) (k2.mono (by simp)) x2.here.1 x2.here.2,x2,.inr (by rw[hf];rfl),fe,fun t z=>by cases z;exact O_,hW⟩
end
def Tk(X:Cx)(W:aG):Prop:=∀ev s,dX X W ev s→X.xe ev s
def EW(W:aG)(σ:St):XK:=fun cv dxo H'=>∃C dx,cv=Value.ref C∧dxo=some dx∧W C dx σ H'
theorem dX.fQ{X:Cx}{W W':aG}{ev:Value}{s:Shared}(h:dX (X.wish (dX X W)) W' ev s):dX X W' ev s:=by
 obtain⟨e,C,dx,T,fl,pins,σ,H,ee,I,x,hfl,fe,fT,hW⟩:=h
 exact⟨e,C,dx,T,fl,pins,σ,H,ee,I.fQ,x,hfl,⟨fe.no,fe.new,fe.pin⟩,fun t z=>⟨(fT t z).no,(fT t z).new,(fT t z).pin⟩,hW⟩
theorem Tk.wish{X:Cx}{W:aG}:Tk (X.wish (dX X W)) W:=fun _ _ h=>h.fQ
section
variable{X:Cx}{k:Nat}{f C:Addr}{fd:FuncData}{ps:List Str}{sp:Sp}{qm:List V}{ds:List Value}{W:aG}{x m:Str}{p pos apos:Pos}{e o:Expr}{es:List Expr}{ta:TE}{t:TA}
theorem Hq{pins:List (Addr×Obj)}{σ:St}{H:Hp}{s:Shared}{Q:VK}{us:List Value}{vs:List V}(F:bh X.prog X.w X.K X.mg X.base (ji X.prog X.w) k f fd ps sp)(hr:dJ k X.A)(hb:Binds X.K fd ps ds)(hd:Vals qm ds)(hx:Tk X W)
  (I:Inv X pins σ H s) (r:Vals vs us) (h:sp (vs++qm) H Q (EW W σ)):wpAny (model X.prog X.w) X.A (call (.ref f) us) (EP X pins σ Q) X.xe s:=by
 have r2:=r.append hd
 have hl:(us++ds).length=ps.length:=by rw[←r2.length];exact F.len _ _ _ _ h
 refine wpAny_call (codeAny_mono (F.run X.A X.stack s H ⟨us,[]⟩ (us++ds) (vs++qm) Q _ hr I.env0 (hb s us I.oU hl) r2 h) fun r s' hq=> ?_)
 match r,hq with
 | .error e,hq=>exact hx _ _ (dX.Hx I hq fun C dx H' ⟨C',dx',e1,e2,w⟩=>by cases e1;cases e2;exact w)
 | .ok (.ret u),hq=>exact I.after hq
def K3(sp:Sp)(qm:List V)(W:aG)(t:TA):TE:=fun σ H Q=>t σ H fun vs H1=>sp (vs++qm) H1 Q (EW W σ)
theorem Ms(F:bh X.prog X.w X.K X.mg X.base (ji X.prog X.w) k f fd ps sp)(hr:dJ k X.A)(hg:Gl X x)(hm:X.mg x=some (.ref f))(hk:keepIn X.K (.ref f)=true)(hb:Binds X.K fd ps ds)(hd:Vals qm ds)(hx:Tk X W)
  (ha:PA X (e::es) t) (hdb:(x==("__debug__" : Str))=false:=by decide) (he:starEach (e::es) X.env=(false,eval e X.env)::starEach es X.env:=by rfl) (hpl:(backTo pos (starEach es X.env)).any (·.1)=false:=by rfl):
  PE X (.Call (.Name x p) (e::es) [] pos) (K3 sp qm W t):=by
 intro pins s σ H Q I h
 exact wpAny_Call_Name_kw (tM I hg hm (PySem.W.callWith_K (h₀:=X.base) I.ok.mod.Vh hk (dR (ha pos pins s σ H _ I h) fun us s1 ⟨vs,H1,I1,r,q⟩=>⟨I1.oU,Hq F hr hb hd hx I1 r q⟩) he hpl) hdb)
def KR(C:Addr)(m:Str)(sp:Sp)(qm:List V)(W:aG)(ta:TE)(t:TA):TE:=fun σ H Q=>ta σ H fun x H1=>∃a dx fs,x= .ref a∧H1 a=some (.ins C dx fs)∧fs.lookup m=none∧t σ H1 fun vs H2=>sp (x::(vs++qm)) H2 Q (EW W σ)
theorem Mq{pl:Sem Bool}(he:PE X o ta)(c:Kc X.K C)(hm:Meth X.K C m f)(F:bh X.prog X.w X.K X.mg X.base (ji X.prog X.w) k f fd ps sp)(hr:dJ k X.A)(hb:Binds X.K fd ps ds)(hd:Vals qm ds)(hx:Tk X W)(ha:PA X (e::es) t)
  (hst:starEach (e::es) X.env=(false,eval e X.env)::starEach es X.env:=by rfl) (hpl:(backTo pos (starEach es X.env)).any (·.1)=false:=by rfl)
  (ht:eval (.Call (.Attribute o m apos) (e::es) [] pos) X.env=(do
   let ov ←eval o X.env
   standAt apos.atName
   let(f,first) ←holding [ov] (getMethod ov m pl)
   callWith pos f first (backTo pos (starEach (e::es) X.env)) (backToKw pos (keywordEach [] X.env))):=by rfl):
  PE X (.Call (.Attribute o m apos) (e::es) [] pos) (KR C m sp qm W ta t):=by
 intro pins s σ H Q I h
 refine PySem.W.methodCall_KW (pl:=pl) (dR (he pins s σ H _ I h) fun u s1 ⟨x,H1,I1,rx,a,dx,fs,ex,ea,l,q⟩=> ?_) ht
 subst ex
 obtain rfl:u=Value.ref a:=rx
 refine F_ I1 ea c hm l ?_
 exact PySem.W.callWith_K (h₀:=X.base) (first:=[.ref a]) I1.ok.mod.Vh hm.kp (dR (ha pos pins s1 σ H1 _ I1 q) fun us s2 ⟨vs,H2,I2,r,q2⟩=>⟨I2.oU,Hq (us:= .ref a::us) (vs:= .ref a::vs) F hr hb hd hx I2 (.cons rfl r) q2⟩) hst hpl
end
theorem dM.okX{P:Program}{w:World}{K:Frag}{mg:Str→Option Value}{base:Heap}{x qual:Str}{st:Stmt}{dV:Value}{f:Addr}{fd:FuncData}{N ps:List Str}{k:Nat}{sp:Sp}(F:dM K x qual st dV f fd)(S:bA N ps (aq st))(len:∀vs H Q E,sp vs H Q E→vs.length=ps.length)
  (hbody:∀(cdv:Value) (A:Around) (outer:List Env) (s:Shared) (H:Hp) (vs:List V) (Q:VK) (E:XK),dJ k (A.deeper (envOfC qual (aq st) s.heap.objs.size f cdv))→sp vs H Q E→
   ∃t W,(∀C dx σ H',W C dx σ H'→E (.ref C) (some dx) H')∧vU ((oV (ji P w) P w K mg base N qual (aq st) f cdv A outer s H E).wish (dX (oV (ji P w) P w K mg base N qual (aq st) f cdv A outer s H E) W)) (aD st) t∧t {nx:=fun _ H'=>Sw H Q .non H',rt:=Sw H Q} (start N vs) H):
  bh P w K mg base (ji P w) (k+1) f fd ps sp:=by
 obtain⟨oc,od,kV,doc,pm,an,cdv,ct,osl,rfl,lk,hcd⟩:=F.ex
 refine bh.gc (sp:=fun vs H Q' E=>∃Q,sp vs H Q E∧Q'=Sw H Q) (Od lk hcd S (fun vs H Q E ⟨Q0,q,_⟩=>len vs H Q0 E q) fun A outer s H vs Q' E hr hsp=> ?_) fun vs H Q E q=>⟨Q,q,rfl⟩
 obtain⟨Q,hsp,rfl⟩:=hsp
 obtain⟨t,W,hE,h,q⟩:=hbody cdv A outer s H vs Q E hr hsp
 refine⟨t,fun pins s1 σ H1 D I h1=> ?_,q⟩
 exact wpAny_mono (h pins s1 σ H1 D (I.wish _) h1) (fun _ _ z=>z.fQ) fun _ _ z=>z.leave hE
abbrev Cx.pp(X:Cx)(pins:List (Addr×Obj)):Cx:={X with pn:=X.pn++pins}
abbrev Cx.held(X:Cx)(e:Addr):Cx:={X with A:=X.A.mark (some (.ref e)),calm:=false,xe:=fun _ _=>False}
section
variable{X:Cx}{pins lX:List (Addr×Obj)}{σ:St}{H:Hp}{s:Shared}{e:Addr}
theorem Inv.pp(I:Inv X (pins++lX) σ H s):Inv (X.pp pins) lX σ H s:=
 ⟨⟨I.ok.mod,I.ok.kind,I.ok.glob,I.ok.blt,I.ok.above,I.ok.inj,I.ok.has,I.ok.cab,I.ok.hd,I.ok.frames,I.ok.stk,I.ok.Vy,I.ok.bs,I.ok.Ir,I.ok.Cz,I.ok.Di,I.ok.pR,I.ok.Oa⟩,I.os,I.bare,I.base,I.loc,I.cell,I.free,I.gC,fun p hp=>I.pin p (by rw[←List.append_assoc];exact hp),I.hok,I.len⟩
theorem Inv.WR(I:Inv (X.pp pins) lX σ H s):Inv X (pins++lX) σ H s:=
 ⟨⟨I.ok.mod,I.ok.kind,I.ok.glob,I.ok.blt,I.ok.above,I.ok.inj,I.ok.has,I.ok.cab,I.ok.hd,I.ok.frames,I.ok.stk,I.ok.Vy,I.ok.bs,I.ok.Ir,I.ok.Cz,I.ok.Di,I.ok.pR,I.ok.Oa⟩,I.os,I.bare,I.base,I.loc,I.cell,I.free,I.gC,fun p hp=>I.pin p (by rw[←List.append_assoc]at hp;exact hp),I.hok,I.len⟩
theorem Inv.fewer(I:Inv X (pins++lX) σ H s):Inv X pins σ H s:=⟨I.ok,I.os,I.bare,I.base,I.loc,I.cell,I.free,I.gC,fun p hp=>I.pin p (by rw[←List.append_assoc];exact List.mem_append_left _ hp),I.hok,I.len⟩
theorem Inv.held(I:Inv X pins σ H s)(e:Addr):Inv (X.held e) pins σ H s:=
 ⟨⟨I.ok.mod,I.ok.kind,I.ok.glob,I.ok.blt,I.ok.above,I.ok.inj,I.ok.has,I.ok.cab,(fun z=>by cases z),I.ok.frames,I.ok.stk,I.ok.Vy,I.ok.bs,I.ok.Ir,I.ok.Cz,I.ok.Di,I.ok.pR,I.ok.Oa⟩,I.os,I.bare,I.base,I.loc,I.cell,I.free,I.gC,I.pin,I.hok,I.len⟩
theorem Inv.El(ok:X.Ok)(I:Inv (X.held e) pins σ H s):Inv X pins σ H s:=⟨ok,I.os,I.bare,I.base,I.loc,I.cell,I.free,I.gC,I.pin,I.hok,I.len⟩
theorem SP.map{X':Cx}{lX:List (Addr×Obj)}{D:Ends}{f:Flow}{s':Shared}(g:∀σ H,Inv X' lX σ H s'→Inv X pins σ H s')(h:SP X' lX D f s'):SP X pins D f s':=by
 cases f with
 | next=>obtain⟨σ',H',I,q⟩:=h;exact⟨σ',H',g _ _ I,q⟩
 | brk=>obtain⟨σ',H',I,q⟩:=h;exact⟨σ',H',g _ _ I,q⟩
 | cont=>obtain⟨σ',H',I,q⟩:=h;exact⟨σ',H',g _ _ I,q⟩
 | ret u=>obtain⟨v,σ',H',I,r,q⟩:=h;exact⟨v,σ',H',g _ _ I,r,q⟩
end
section
variable{X:Cx}{W:aG}{c:Str}{cp hpos pos:Pos}{b₀:Stmt}{suite body:List Stmt}{tb:aG→TS}{ts:TS}{cv:Value}{v:V}
theorem Exc.typ{M:Model}{h:Heap}{e C:Addr}{dx T:Option Addr}{fl:Value}(x:Exc h e C dx T fl):PySem.W.Looks M h (typeOf (.ref e)) (.ref C):=by
 obtain⟨vs,he,_⟩:=x.at_
 intro A Q E s k q
 exact wpAny_bind (wpAny_loadPart (k _ _ he) (wpAny_pure q))
end
abbrev xC(a C dx:Addr):HO:= .ext fun h=>∃vs,h.get? a=some {cls:= .ref C,dict:=some dx,data:= .fields vs}
section
variable{X:Cx}{pins:List (Addr×Obj)}{σ:St}{H:Hp}{s:Shared}{h':Heap}{t':Nat}
theorem Inv.locals(I:Inv X pins σ H s)(hsb:Heap.SameBut X.env.locals s.heap h')(loc:∃m,h'.Ns X.env.locals m∧∀(i:Nat) (x:Str) (v:V),X.N[i]? = some x→σ[i]? = some (some v)→ZF X.env.scope x→∃u,RelV v u∧Look X.env h' m x u):
  Inv X pins σ H {s with heap:=h',toks:=t'}:=by
 have nL:∀b o,X.s₀.heap.get? b=some o→b≠X.env.locals:=fun b o q=>Nat.ne_of_lt (Nat.lt_of_lt_of_le (Heap.lt_size q) I.ok.above)
 refine⟨I.ok,I.os,I.bare,⟨fun b o q n hb hx=>(hsb.2 b (nL b o q)).trans (I.base.keep b o q n hb hx),fun b o q n hb hx=> ?_,I.base.free,fun b o q hx=> ?_,I.base.tups,I.base.rR,I.base.sJ⟩,loc,fun x c q=> ?_,I.free,I.gC,fun p hp=> ?_,fun b o q=> ?_,I.len⟩
 ·obtain⟨sl,z⟩:=I.base.slot b o q n hb hx
  exact⟨sl,(hsb.2 b (nL b o q)).trans z⟩
 ·obtain⟨o',z⟩:=I.base.there b o q hx
  exact⟨o',(hsb.2 b (nL b o q)).trans z⟩
 ·obtain⟨v,o,ho,hd⟩:=I.cell x c q
  exact⟨v,o,(hsb.2 c (I.RD x c q)).trans ho,hd⟩
 ·obtain⟨z1,z2,z3,z4⟩:=I.pin p hp
  exact⟨(hsb.2 p.1 z3).trans z1,z2,z3,z4⟩
 ·have nl:∀b u,H b=some u→b≠X.env.locals:=fun b u z y=>by rw[y,I.free]at z;cases z
  refine(I.hok b o q).stay (fun b' u hb z=> ?_) (fun _ z=>z) fun _ _ z=>z
  rcases hb with rfl | hb
  ·exact(hsb.2 _ (nl _ _ q)).trans z
  ·exact(hsb.2 _ (nl _ _ hb)).trans z
theorem JH{env:Env}{h h':Heap}{m m':Str→Option Value}{x:Str}{u:Value}(l:Look env h m x u)(hm:m' x=m x)(hc:∀c,env.cells.lookup x=some c→h'.get? c=h.get? c):Look env h' m' x u:=by
 rcases l with⟨k,e⟩ | ⟨k,c,e,o,ho,hd⟩
 ·exact .inl ⟨k,hm.trans e⟩
 ·exact .inr ⟨k,c,e,o,(hc c e).trans ho,hd⟩
theorem name_goes{M:Model}{A:Around}{E:Value→Shared→Prop}{i:Nat}{n:Str}{pos:Pos}{Q:Unit→Shared→Prop}(I:Inv X pins σ H s)(nd:X.N.Nodup)(hi:X.N[i]? = some n)(hl:X.env.scope.names.lookup n=some .local)(hk:X.env.kindOf n=some .local)
  (hp:(X.env.scope.kind== .class||(X.env.scope.kind== .module&&X.env.locals != X.env.globals))=false)
  (h:∀s',Inv X pins (σ.set i none) H s'→Q () s'):wpAny M A (do bindName X.env n .none;unbindBehindTheSuite X.env n pos) Q E s:=by
 refine wpAny_bind (wpAny_bindName (pB (v:= .non) I nd hi (.inl hl) rfl (fun s1 I1=> ?_) (.inr hl)))
 unfold unbindBehindTheSuite
 refine wpAny_onRaise ?_
 unfold unbindName
 refine wpAny_bind (wpAny_point (wpAny_bind ?_))
 unfold deleteName
 simp only[hk,hp]
 rw[if_neg (by decide)]
 obtain⟨m,hn,hlk⟩:=I1.loc
 have il:i<σ.length:=by rw[I.len];exact(List.getElem?_eq_some_iff.mp hi).1
 have there:(m n).isSome=true:=by
  obtain⟨u,ru,l⟩:=hlk i n .non hi (by rw[List.getElem?_set_self il]) (.inl hl)
  rcases l with⟨_,z⟩ | ⟨z,_⟩
  ·rw[z];rfl
  ·rw[hk]at z;rcases z with z | z<;>cases z
 refine wpAny_bind (wpAny_nsDel_keeps hn fun h2 v hn2 hs2=> ?_)
 rw[there]
 simp only[if_true,Bool.not_true,Bool.false_eq_true,if_false]
 refine wpAny_pure (wpAny_point (h _ ?_))
 have I2:Inv X pins (σ.set i none) H s1:=I1.weak (by simp) fun j w hj=>by
  by_cases z:i=j
  ·subst z;rw[List.getElem?_set_self il]at hj;cases hj
  ·rw[List.getElem?_set_ne z]at hj ⊢;exact hj
 refine I2.locals (t':=s1.toks) hs2 ⟨_,hn2,fun j x w hj hw hv=> ?_⟩
 have ne:x≠n:=fun z=>by
  subst z
  have:j=i:=wV nd hj hi
  subst this
  rw[List.getElem?_set_self il]at hw;cases hw
 have hw':(σ.set i (some .non))[j]? = some (some w):=by
  by_cases z:i=j
  ·subst z;rw[List.getElem?_set_self il]at hw;cases hw
  ·rw[List.getElem?_set_ne z]at hw ⊢;exact hw
 obtain⟨u,ru,l⟩:=hlk j x w hj hw' hv
 exact⟨u,ru,JH l (by rw[if_neg ne]) fun c hc=>hs2.2 c (I1.RD x c hc)⟩
end
section
variable{X:Cx}{W:aG}{c n:Str}{cp hpos pos:Pos}{b₀:Stmt}{suite body:List Stmt}{tb:aG→TS}{ts:TS}{cv:Value}{v:V}{i:Nat}
def Ends.less(D:Ends)(i:Nat):Ends:={nx:=fun σ H=>D.nx (σ.set i none) H,bk:=fun σ H=>D.bk (σ.set i none) H,ct:=fun σ H=>D.ct (σ.set i none) H,rt:=D.rt}
def xmA(K:Frag)(cv:Value)(W:aG)(th:Addr→Addr→Addr→St→Hp→Prop):aG:=fun C dx σ H=>∃b,exmOne K (.ref C) cv=some b∧(if b=true then(∀e,H e=none→th e C dx σ H)else W C dx σ H)
theorem Inv.caught{pins:List (Addr×Obj)}{σ:St}{H:Hp}{s:Shared}{e C dx:Addr}{vs:Array Value}(I:Inv X pins σ H s)(h:s.heap.get? e=some {cls:= .ref C,dict:=some dx,data:= .fields vs})(f:oH X pins H e):Inv X pins σ (upd H e (xC e C dx)) s:=by
 have hk:∀b u,H b=some u→upd H e (xC e C dx) b=some u:=fun b u q=>by rw[aC (aP q f.no)];exact q
 have hn:∀b,b≠e→H b=none→upd H e (xC e C dx) b=none:=fun b z q=>by rw[aC z];exact q
 refine⟨I.ok,I.os,I.bare,⟨I.base.keep,I.base.slot,fun b o q n x=>hn b (fun z=>absurd (Nat.lt_of_lt_of_le (Heap.lt_size q) (z▸f.new)) (Nat.lt_irrefl _)) (I.base.free b o q n x),I.base.there,fun b xs q=>hk _ _ (I.base.tups b xs q),fun b o u q=>hk _ _ (I.base.rR b o u q),fun b ps q=> ?_⟩,I.loc,I.cell,hn _ (Ne.symm (I.pJ h rfl).1) I.free,fun x c q=>hn _ ((I.pJ h rfl).2 x c q) (I.gC x c q),fun p hp=> ?_,fun b o q=> ?_,I.len⟩
 ·obtain⟨m,z⟩:=I.base.sJ b ps q;exact⟨m,hk _ _ z⟩
 ·obtain⟨z1,z2,z3⟩:=I.pin p hp;exact⟨z1,hn _ (f.pin p hp) z2,z3⟩
 ·by_cases z:b=e
  ·subst z
   rw[aW]at q;cases q
   exact⟨⟨vs,h⟩,⟨_,h⟩,fun h1 h2 ⟨vs1,y⟩ k=>⟨vs1,k _ y⟩⟩
  ·rw[aC z]at q
   exact(I.hok b o q).stay (fun _ _ _ y=>y) (fun b' y=>hk _ _ y) fun b' xs y=>hk _ _ y
theorem Ma(hst:X.stack=X.env::X.outer)(hf:X.env.frame=some X.env.locals)(hx:Tk X W)(hv:∀u,RelV v u→u=cv)(hn:∀e,PE (X.held e) (.Name c cp) (tC v))
  (nd:X.N.Nodup) (hi:X.N[i]? = some n) (hl:X.env.scope.names.lookup n=some .local) (hk:X.env.kindOf n=some .local)
  (hb:∀pins W1,vU ((X.pp pins).wish (dX (X.pp pins) W1)) body (tb W1)) (hs:∀e,vU (X.held e) (b₀::suite) ts):
  PS X (.Try body [.ExceptHandler (some (.Name c cp)) (some n) (b₀::suite) hpos] [] [] pos)
   (fun D σ H=>tb (xmA X.K cv W fun e C dx σ' H'=>ts (Ends.less D i) (σ'.set i (some (.ref e))) (upd H' e (xC e C dx))) D σ H):=by
 intro pins s σ H D I h
 have ok:=I.ok
 have hcls:(X.env.scope.kind== .class||(X.env.scope.kind== .module&&X.env.locals != X.env.globals))=false:=by rw[ok.kind];rfl
 refine wpAny_Try_except (wpAny_mono (hb pins (xmA X.K cv W fun e C dx σ' H'=>ts (Ends.less D i) (σ'.set i (some (.ref e))) (upd H' e (xC e C dx))) [] s σ H D (Inv.wish (Inv.pp (lX:=[]) (by rw[List.append_nil];exact I)) _) h) (fun f s1 h1=> ?_) fun ev s1 h1=> ?_)
 ·have h2:SP X pins D f s1:=SP.map (fun σ H z=>z.fQ.WR.fewer) h1
  cases f with
  | next=>exact wpAny_execs_nil h2
  | brk=>exact h2
  | cont=>exact h2
  | ret u=>exact h2
 ·obtain⟨e,C,dx,T,fl,Cq,σ',H',rfl,I1,x,hfl,fe,fT,hW⟩:=h1
  have J1:=I1.WR
  have NQ:=J1.stack
  rw[hst]at NQ
  have cv1:∀{a},oH (X.pp pins) Cq H' a→oH X (pins++Cq) H' a:=fun z=>⟨z.no,z.new,fun p hp=>z.pin p (by rw[←List.append_assoc]at hp;exact hp)⟩
  have O9:=cv1 fe
  have fT':∀t,T=some t→oH X (pins++Cq) H' t:=fun t z=>cv1 (fT t z)
  refine Ej (by rw[J1.ok.frames,hst]) NQ hf x hfl fun h1 T1 hT1 k1 x1=> ?_
  have O_:oH X (pins++Cq) H' T1:=by
   rcases hT1 with r | r
   ·exact fT' T1 r
   ·refine⟨J1.hok.fresh r,Nat.le_trans J1.sz r,fun p hp z=> ?_⟩
    have:=Heap.lt_size (J1.pin p hp).1
    rw[z]at this
    exact absurd (Nat.lt_of_lt_of_le this r) (Nat.lt_irrefl _)
  have I2:=J1.yE x O9 fT' (k1.mono (by rw[hst];exact fun b z=>z)) x1.here.1 fun t z=>let⟨o,q⟩:=x.here.2 t z;k1.1.2 t o q
  refine pA (fr:=none) (s:={s1 with heap:=h1}) x1 fun h2 k2 x2=> ?_
  have I3:=I2.yE x1 O9 (fun t z=>by cases z;exact O_) (k2.mono (by simp)) x2.here.1 x2.here.2
  obtain⟨vs2,he2,h12,ab8,oT,ts2,hoT,hdT,h32⟩:=x2.at_
  have nfs:∀{a:Addr} {o:Obj} {vs:Array Value},h2.get? a=some o→o.data= .fields vs→a∉X.fs:=fun q d hm=>by
   obtain⟨_,o',ho',hd'⟩:=I3.pR.mem hm
   have q':h2.get? _=some o':=ho'
   rw[q]at q';cases q';exact hd' _ d
  have I4:Inv X (pins++[(e,{cls:= .ref C,dict:=some dx,data:= .fields vs2}),(T1,oT)]) σ' H' {s1 with heap:=h2}:=I3.sY fun p hp=>by
   rcases List.mem_append.mp hp with z | z
   ·exact I3.pin p (List.mem_append_right _ (List.mem_append_left _ z))
   ·simp at z
    rcases z with rfl | rfl
    ·exact⟨he2,O9.no,(I3.pJ he2 rfl).1,nfs he2 rfl,fun v z=>by cases z⟩
    ·exact⟨hoT,O_.no,(I3.pJ hoT hdT).1,nfs hoT hdT,fun v z=>by rw[hdT]at z;cases z⟩
  obtain⟨b,hm,hif⟩:=hW
  have fw:∀{a},oH X (pins++Cq) H' a→oH (X.held e) pins H' a:=fun z=>⟨z.no,z.new,fun p hp=>z.pin p (by rw[←List.append_assoc];exact List.mem_append_left _ hp)⟩
  refine wpAny_handleBy_cons (codeAny_handlers_test (wpAny_mono (hn e _ _ σ' H' (fun v' Ed=>v'=v∧Ed=H') (I4.held e) ⟨rfl,rfl⟩) (fun c' s3 ⟨v',Ed,I5,rv,e1,e2⟩=> ?_) fun _ _ z=>z.elim)) (by intro q;cases q)
  subst e1 e2
  obtain rfl:=hv c' rv
  have x5:Exc s3.heap e C (some dx) (some T1) .none:=⟨vs2,(I5.pin (e,_) (by simp)).1,h12,ab8,oT,ts2,(I5.pin (T1,oT) (by simp)).1,hdT,h32⟩
  refine PySem.W.Looks.here (s:=s3) (PySem.W.exm_one I5.oU x5.typ hm) ?_
  cases b with
  | true=>
   refine codeAny_handlers_suite_as (pA (fr:=none) x5 fun h6 k6 x6=> ?_)
   have I6:=(I5.fewer).yE x5 (fw O9) (fun t z=>by cases z;exact fw O_) (k6.mono (by simp)) x6.here.1 x6.here.2
   obtain⟨vs6,he6,_⟩:=x6.at_
   have I7:=I6.caught he6 (fw O9)
   refine pB (v:= .ref e) (I7.El ok) nd hi (.inl hl) rfl (fun s8 I8=> ?_) (.inr hl)
   refine wpAny_mono (hs e pins s8 _ _ (Ends.less D i) (I8.held e) (hif e O9.no)) (fun f s9 z=> ?_) fun _ _ z=>z.elim
   show wpAny _ _ (do bindName X.env n .none;unbindBehindTheSuite X.env n hpos) _ _ _
   have z':SP X pins (Ends.less D i) f s9:=SP.map (fun _ _ y=>y.El ok) z
   cases f with
   | next=>obtain⟨σ9,H9,I9,q9⟩:=z';exact name_goes I9 nd hi hl hk hcls fun s' I'=>⟨_,_,I',q9⟩
   | brk=>obtain⟨σ9,H9,I9,q9⟩:=z';exact name_goes I9 nd hi hl hk hcls fun s' I'=>⟨_,_,I',q9⟩
   | cont=>obtain⟨σ9,H9,I9,q9⟩:=z';exact name_goes I9 nd hi hl hk hcls fun s' I'=>⟨_,_,I',q9⟩
   | ret u=>obtain⟨v9,σ9,H9,I9,r9,q9⟩:=z';exact name_goes I9 nd hi hl hk hcls fun s' I'=>⟨v9,_,_,I',r9,q9⟩
  | false=>
   refine wpAny_handleBy_nil ?_
   unfold PySem.passOn
   obtain⟨vs5,he5,h15,_⟩:=x5.at_
   refine wpAny_bind (wpAny_field he5 rfl h15 ?_)
   rw[if_neg (by simp)]
   refine wpAny_bind (pA x5 fun h6 k6 x6=>wpAny_throw (hx _ _ ⟨e,C,dx,some T1,_,pins,σ',Ed,rfl,?_,x6,.inr (by rw[hf];rfl),⟨O9.no,O9.new,(fw O9).pin⟩,fun t z=>by cases z;exact⟨O_.no,O_.new,(fw O_).pin⟩,hif⟩))
   exact((I5.fewer).yE x5 (fw O9) (fun t z=>by cases z;exact fw O_) (k6.mono (by simp)) x6.here.1 x6.here.2).El ok
end
section
variable{X:Cx}{e:Expr}{ta:TE}{f:Str}{pos:Pos}
def aa2(K:Frag)(ta:TE)(f:Str):TE:=fun σ H Q=>ta σ H fun x H1=>∃a C dx fs v,x= .ref a∧H1 a=some (xC a C dx)∧H1 dx=some (.xd fs)∧mH K C f∧findIn K (.ref C) "__getattr__" = some none∧fs.lookup f=some v∧Q v H1
theorem Uc(he:PE X e ta)(hb:attributeBase e f X.env (eval e X.env)=eval e X.env):PE X (.Attribute e f pos) (aa2 X.K ta f):=by
 intro pins s σ H Q I h
 refine Iv hb (dR (he pins s σ H _ I h) fun u s1 ⟨x,H1,I1,rx,a,C,dx,fs,v,ex,ea,ed,F,hg,l,q⟩=> ?_)
 subst ex
 obtain rfl:u=Value.ref a:=rx
 obtain⟨⟨vs,hx⟩,_⟩:=(show bL X.prog X.w H1 s1.heap a (xC a C dx)from I1.hok a _ ea)
 obtain⟨mA,hn,hr⟩:=(show bL X.prog X.w H1 s1.heap dx (.xd fs)from I1.hok dx _ ed)
 have r0:=hr f
 rw[l]at r0
 cases hm:mA f with
 | none=>rw[hm]at r0;exact r0.elim
 | some u=>
  rw[hm]at r0
  exact aaV I1.oU F hg hx hn hm (zc r0) ⟨v,H1,I1.tok _,r0,q⟩
end
structure OJ(K:Frag)(C:Addr):Prop where
 gn:findIn K (.ref C) "__getattr__" = some none
 ca:findIn K (.ref C) "__class__" = some (some (.builtin "object.__class__"))
 hn:PySem.W.specialIn K (.builtin "object.__class__") "__get__" = some (some (.builtin "getset_descriptor.__get__"))
 tk:PySem.W.takesIn K (.builtin "object.__class__")=some true
 mr:PySem.W.mroIn K C (.type "object")=some true
section
variable{prog:Program}{w:World}{A:Around}{E:Value→Shared→Prop}{s:Shared}{K:Frag}{x C:Addr}{name:Str}{ox od:Obj}
theorem Pj{Q:Option Value→Shared→Prop}(X:K.In s.heap)(F:mH K C name)(S:OJ K C)(I:PySem.W.InstAt s.heap x ox C (some od))(h:Q (some (.ref C)) {s with toks:=s.toks+1}):
  wpAny (model prog w) A (getAttr? (.ref x) "__class__") Q E s:=by
 obtain⟨cd,hc,hhd,hne,_,hbe,_⟩:=F.cd
 have hf:PySem.W.findObj K C (some od) "__class__" = some (.bind (.builtin "getset_descriptor.__get__") (.builtin "object.__class__")):=PySem.W.findObj_data (by rw[hc];rfl) S.ca S.hn S.tk
 have L0:=I.type (M:=model prog w)
 have L1:=PySem.W.looks_findIn (M:=model prog w) X F.ga
 have L2:=PySem.W.looks_find (M:=model prog w) X I hf
 have L3:=PySem.W.looks_findIn (M:=model prog w) X S.gn
 have sub:PySem.W.Looks (model prog w) s.heap (isInstance (.ref x) (.type "BaseException")) true:=I.type.andThen (PySem.W.looks_mroIn X (by unfold PySem.W.mroIn;rw[hc,Option.bind_some,if_neg (by rw[hne];decide),hbe]))
 obtain⟨hh',g,d,t,os⟩:=s
 unfold getAttr? getAttrBy? getAttrBy
 refine wpAny_bind (wpAny_mkText (wpAny_bind (wpAny_attempt (wpAny_holding (wpAny_bind (L0.at (wpAny_bind (L1.at ?_))))))))
 dsimp only
 rw[if_neg (by rw[show(Value.builtin "BaseException.__getattribute__" == Value.builtin "object.__getattribute__")=false from by decide +kernel,Bool.and_false];decide)]
 unfold getAttrByItsOwn hookBefore
 rw[if_pos (show onTheHeap (Value.ref C)=true from rfl)]
 refine wpAny_bind (L3.at (wpAny_bind ?_))
 have f3:=Ia (.ref x)
 have hx0:(false&&onTheHeap (Value.builtin "BaseException.__getattribute__"))=false:=rfl
 repeat (any_goals (first | assumption | wp_step))
 refine codeAny_call_builtin PySem.F.excAttr_ValueError.ga.plain PySem.F.entry_bexc_ga (@PySem.W.check_slot (model prog w) _ _ ⟨hh',g,d,t+1,os⟩ "BaseException.__getattribute__" "BaseException" "__getattribute__" (.ref x) [.str "__class__" t] [] _ H_ Dg sub (PySem.F.args_bexc_ga _ _) ?_)
 unfold Builtin.«object.__getattribute__»
 refine wpAny_bind (wpAny_pure (wpAny_bind (wpAny_pure (wpAny_bind (L0.at (wpAny_bind (L2.at ?_)))))))
 show wpAny _ _ (holding [_] (call (.builtin "getset_descriptor.__get__") [.builtin "object.__class__",.ref x,.ref C]) >>= ret) _ _ _
 refine wpAny_bind (wpAny_holding (wpAny_call (PySem.W.class_get (s:=⟨hh',g,d,t+1,os⟩) (ox:=ox) (od:=some od) X I S.mr ?_)))
 refine wpAny_pure ?_
 dsimp only
 exact PySem.W.handed_on rfl (wpAny_pure h)
end
theorem Nr{K:Frag}{x C dx:Addr}{name:Str}(F:mH K C name)(S:OJ K C):
  PySem.W.KitX K (.ref x) (.ref C) (fun h=>∃ox od,PySem.W.InstAt h x ox C (some od)) where
 ty:=fun _ _ _ ⟨_,_,I⟩=>I.type
 it:=fun _ _ X _=>by
  obtain⟨cdD,hcD,_⟩:=F.cd
  unfold PySem.W.clsIn at hcD
  split at hcD
  ·rename_i c' d' cd' sl' ho
   intro A' Q' E' s' k q
   unfold isType loadHead
   exact wpAny_bind (wpAny_loadPart (k _ _ (X _ _ ho)) (wpAny_pure q))
  ·cases hcD
 ne:=fun h tp dd its n sl X htp=>by
  obtain⟨cdD,hcD,_⟩:=F.cd
  refine Bool.eq_false_iff.mpr fun q=> ?_
  have e:C=tp:=Value.ref.inj (beq_iff_eq.mp q)
  subst e
  unfold PySem.W.clsIn at hcD
  split at hcD
  ·rename_i c' d' cd' sl' ho
   have z:=(X _ _ ho).symm.trans htp
   cases z
  ·cases hcD
 ca:=fun X ⟨_,_,I⟩ k=>Pj X F S I k
def abt(K:Frag)(f:Str):List V→Hp→VK→Prop:=fun xs H Q=>∃a C dx fs cv c b,xs=[.ref a,cv]∧aaY cv c∧H a=some (xC a C dx)∧H dx=some (.xd fs)∧mH K C f∧OJ K C∧kitOne K (.ref C) c=some b∧Q (.bl b) H
theorem Ov{X:Cx}{f:Str}:kE X (.builtin "isinstance") (abt X.K f):=by
 intro pins s σ H xs us Q I r h
 obtain⟨a,C,dx,fs,cv,c,b,rfl,hc,ha,hd,F,S,e,q⟩:=h
 obtain⟨u,v,rfl,rx,rc⟩:=vals2 r
 have ec:v=c:=by
  cases cv with
  | ty n=>exact(show v=Value.type n from rc).trans (show c=Value.type n from hc).symm
  | ref a=>exact(show v=Value.ref a from rc).trans (show c=Value.ref a from hc).symm
  | _=>exact hc.elim
 subst ec
 obtain rfl:u=Value.ref a:=rx
 obtain⟨⟨vs,hx⟩,_⟩:=(show bL X.prog X.w H s.heap a (xC a C dx)from I.hok a _ ha)
 obtain⟨mA,hn,hr⟩:=(show bL X.prog X.w H s.heap dx (.xd fs)from I.hok dx _ hd)
 obtain⟨od,hod,_⟩:=uw hn
 exact PySem.W.kia_one (Nr (dx:=dx) F S) I.oU ⟨_,od,hx,rfl,rfl,hod⟩ e (fun z=>nomatch z) fun tk=>⟨.bl b,H,I.tok tk,rfl,q⟩
section
variable{X:Cx}{k:Nat}{f C:Addr}{fd:FuncData}{ps:List Str}{sp:Sp}{qm:List V}{ds:List Value}{W:aG}{x:Str}{p pos:Pos}{e:Expr}{es:List Expr}{t:TA}
def Es(C:Addr)(sp:Sp)(qm:List V)(W:aG)(t:TA):TE:=fun σ H Q=>t σ H fun vs H1=>∀x dx,H1 x=none→H1 dx=none→dx≠x→
 sp (.ref x::(vs++qm)) (upd (upd H1 dx (.own x)) x (.ins C dx [])) (fun v H2=>v= .non∧Q (.ref x) H2) (EW W σ)
theorem yR{pins:List (Addr×Obj)}{σ:St}{H:Hp}{s:Shared}{Q:VK}{us:List Value}{vs:List V}(M:Mk X.K C f)(F:bh X.prog X.w X.K X.mg X.base (ji X.prog X.w) k f fd ps sp)(hr:dJ (k+1) X.A)(hb:Binds X.K fd ps ds)(hd:Vals qm ds)
  (hx:Tk X W) (I:Inv X pins σ H s) (r:Vals vs us)
  (h:∀x dx,H x=none→H dx=none→dx≠x→sp (.ref x::(vs++qm)) (upd (upd H dx (.own x)) x (.ins C dx [])) (fun v H2=>v= .non∧Q (.ref x) H2) (EW W σ)):
  wpAny (model X.prog X.w) X.A (call (.ref C) us) (EP X pins σ Q) X.xe s:=by
 have hq:=h (s.heap.objs.size+1) s.heap.objs.size (I.hok.fresh (Nat.le_succ _)) (I.hok.fresh (Nat.le_refl _)) (Nat.ne_of_lt (Nat.lt_succ_self _))
 have I2:=Inv.made (C:=C) I
 have r2:Vals (V.ref (s.heap.objs.size+1)::(vs++qm)) (Value.ref (s.heap.objs.size+1)::(us++ds)):= .cons rfl (r.append hd)
 have hl:(Value.ref (s.heap.objs.size+1)::us++ds).length=ps.length:=by
  have e:=r2.length
  rw[F.len _ _ _ _ hq]at e
  exact e.symm
 refine wpAny_call (Nf (f:=f) I.oU M.makes M.init (beq_iff_eq.mp M.fn) (codeAny_mono (F.run _ X.stack _ _ ⟨Value.ref (s.heap.objs.size+1)::us,[]⟩ (Value.ref (s.heap.objs.size+1)::(us++ds)) _ _ _ (hr.make C us [])
  (I2.env0.make C us []) (hb _ (Value.ref (s.heap.objs.size+1)::us) I2.oU hl) r2 hq) fun r s' hq'=> ?_))
 match r,hq' with
 | .error e,hq'=>exact hx _ _ (dX.Hx I2 hq' fun C dx H' ⟨C',dx',e1,e2,w⟩=>by cases e1;cases e2;exact w)
 | .ok (.ret u),hq'=>
  obtain⟨v,H',I3,rv,ev,q3⟩:=I2.after hq'
  subst ev
  exact⟨rv,⟨V.ref (s.heap.objs.size+1),H',I3,rfl,q3⟩⟩
theorem Mr(M:Mk X.K C f)(F:bh X.prog X.w X.K X.mg X.base (ji X.prog X.w) k f fd ps sp)(hr:dJ (k+1) X.A)(hg:Gl X x)(hm:X.mg x=some (.ref C))(hb:Binds X.K fd ps ds)(hd:Vals qm ds)(hx:Tk X W)
  (ha:PA X (e::es) t) (hdb:(x==("__debug__" : Str))=false:=by decide) (he:starEach (e::es) X.env=(false,eval e X.env)::starEach es X.env:=by rfl) (hpl:(backTo pos (starEach es X.env)).any (·.1)=false:=by rfl):
  PE X (.Call (.Name x p) (e::es) [] pos) (Es C sp qm W t):=fun pins s σ H Q I h=>
 wpAny_Call_Name_kw (tM I hg hm (PySem.W.callWith_K (h₀:=X.base) I.ok.mod.Vh M.kp (dR (ha pos pins s σ H _ I h) fun us s1 ⟨vs,H1,I1,r,q⟩=>⟨I1.oU,yR M F hr hb hd hx I1 r q⟩) he hpl) hdb)
theorem Jp(M:Mk X.K C f)(F:bh X.prog X.w X.K X.mg X.base (ji X.prog X.w) k f fd ps sp)(hr:dJ (k+1) X.A)(hg:Gl X x)(hm:X.mg x=some (.ref C))(hb:Binds X.K fd ps ds)(hd:Vals qm ds)(hx:Tk X W)
  (hdb:(x==("__debug__" : Str))=false:=by decide):PE X (.Call (.Name x p) [] [] pos) (Es C sp qm W W_):=fun pins s σ H Q I h=>
 wpAny_Call_Name_kw (tM I hg hm (PySem.W.callWith_K0 I.oU M.kp (yR (us:=[]) M F hr hb hd hx I .nil h)) hdb)
end
section
variable{K:Frag}{nm q:Str}{C N:Addr}{bs bm:List Value}{sn:List Str}{sub:List Value}{ab:Bool}{col:Option Bool}{dd:Option Addr}{k0 k1 k2 k3 k5:Option Value}{newId:String}{name:Str}
theorem zF(lo:K.lookup C=some (excClassObj nm q C N bs bm true sn sub ab col dd k0 k1 k2 k3 k5 newId))(h1:bm.contains (.type "object")=true)(h2:bm.contains (.type "BaseException")=true)(h3:∀self,refuseLoop self "__setattr__" bm=pure ())
  (sa:findIn K (.ref C) "__setattr__" = some (some (.builtin "object.__setattr__"))) (ga:findIn K (.ref C) "__getattribute__" = some (some (.builtin "BaseException.__getattribute__"))) (no:findIn K (.ref C) name=some none):mH K C name:=
 ⟨⟨_,by unfold PySem.W.clsIn;rw[lo],rfl,rfl,by rw[List.contains_cons,h1,Bool.or_true],by rw[List.contains_cons,h2,Bool.or_true],fun self=>(refuseLoop_ref self _ C bm).trans (h3 self)⟩,sa,ga,no⟩
theorem Ei(lo:K.lookup C=some (excClassObj nm q C N bs bm true sn sub ab col dd k0 k1 k2 k3 k5 newId))(h1:bm.contains (.type "object")=true)(gn:findIn K (.ref C) "__getattr__" = some none)(ca:findIn K (.ref C) "__class__" = some (some (.builtin "object.__class__")))
  (hn:PySem.W.specialIn K (.builtin "object.__class__") "__get__" = some (some (.builtin "getset_descriptor.__get__"))) (tk:PySem.W.takesIn K (.builtin "object.__class__")=some true):OJ K C:=
 ⟨gn,ca,hn,tk,by unfold PySem.W.mroIn PySem.W.clsIn;rw[lo];simp only[Option.bind_some];rw[if_neg (by simp),List.contains_cons,h1,Bool.or_true]⟩
theorem Eh{f:Addr}(lo:K.lookup C=some (excClassObj nm q C N bs bm true sn sub ab col dd k0 k1 k2 k3 k5 "ValueError.__new__"))(h0:bm.contains (.type "ValueError")=true)(hA:bm.contains (.type "AttributeError")=false)(hN:bm.contains (.type "NameError")=false)(h2:bm.contains (.type "BaseException")=true)
  (init:findIn K (.ref C) "__init__" = some (some (.ref f))) (fn:isFn K (.ref f)=true) (kp:keepIn K (.ref C)=true):V8 K C f:=
 ⟨⟨nm,q,N,bs,bm,true,sn,sub,ab,col,dd,k0,k1,k2,k3,k5,lo,⟨h0,hA,hN⟩,h2⟩,init,fn,kp⟩
theorem HW{t:Value}{b:Bool}(lo:K.lookup C=some (excClassObj nm q C N bs bm true sn sub ab col dd k0 k1 k2 k3 k5 newId))(h:subIn K t (.ref C)=some b):PySem.W.kitCls K t (.ref C)=some b:=by
 unfold PySem.W.kitCls
 dsimp only
 rw[if_pos,h]
 unfold PySem.W.clsIn PySem.W.typeIn
 rw[lo]
 simp[lo]
theorem sub_self(lo:K.lookup C=some (excClassObj nm q C N bs bm true sn sub ab col dd k0 k1 k2 k3 k5 newId)):subIn K (.ref C) (.ref C)=some true:=by
 show PySem.W.mroIn K C (.ref C)=some true
 unfold PySem.W.mroIn PySem.W.clsIn
 rw[lo]
 simp
theorem sy{t:Value}{b:Bool}(lo:K.lookup C=some (excClassObj nm q C N bs bm true sn sub ab col dd k0 k1 k2 k3 k5 newId))(h2:bm.contains (.type "BaseException")=true)(h:subIn K t (.ref C)=some b):exmOne K t (.ref C)=some b:=by
 unfold exmOne
 have e:subIn K (.ref C) (.type "BaseException")=some true:=by
  show PySem.W.mroIn K C _=some true
  unfold PySem.W.mroIn PySem.W.clsIn
  rw[lo]
  simp only[Option.bind_some]
  rw[if_neg (by simp),List.contains_cons,h2,Bool.or_true]
 rw[if_pos (by rw[e];simp)]
 exact HW lo h
theorem tO{t:Value}{b:Bool}(lo:K.lookup C=some (excClassObj nm q C N bs bm true sn sub ab col dd k0 k1 k2 k3 k5 newId))(h:subIn K t (.ref C)=some b):kitOne K t (.ref C)=some b:=by
 unfold kitOne
 split
 ·rename_i z
  have z':t= .ref C:=beq_iff_eq.mp z
  subst z'
  rw[sub_self lo]at h
  exact h
 ·exact HW lo h
end
end L2
namespace L2
open PySem
theorem pI{bm:List Value}{cs:List Addr}(e:bm=cs.map Value.ref++[.type "ValueError",.type "Exception",.type "BaseException",.type "object"]):∀self,refuseLoop self "__setattr__" bm=pure ():=by
 subst e
 intro self
 induction cs with
 | nil=>rfl
 | cons c r ih=>simp only[List.map_cons,List.cons_append,refuseLoop_ref];exact ih
end L2
namespace L2
open PySem PySem.Spec PyProof.Rows
def abv:V→Option Int→Option Int→Hp→VK→Prop:=fun x lo hi H Q=>∃u,x= .str u∧u.length≤sizeLine∧Q (.str (Txt.slice u lo hi)) H
theorem Th{X:Cx}:SJ X abv:=by
 intro pins s σ H x v vl vu lo hi sl Q I rx hs pl pu h
 obtain⟨u,rfl,hz,q⟩:=h
 obtain⟨t,rfl⟩:=rx
 have fin:∀(t':Tok) (k:Nat),EP X pins σ Q (.str (Txt.slice u lo hi) t') {s with toks:=k}:=fun t' k=>⟨.str _,H,I.tok k,⟨t',rfl⟩,q⟩
 refine⟨"str",_,F.slot_str_getitem.lookup,typeIs_str _ _ _,?_⟩
 cases pl with
 | none=>
  cases pu with
  | none=>exact wpAny_getItem_str_slice (l:=none) (u:=none) (st:=none) hs rfl (post_val_or_str ⟨Nat.le_trans (Txt.slice_le u _ _) hz,fin⟩)
  | int j uj=>exact wpAny_getItem_str_slice (l:=none) (u:=some (j,uj)) (st:=none) hs rfl (post_val_or_str ⟨Nat.le_trans (Txt.slice_le u _ _) hz,fin⟩)
 | int i ui=>
  cases pu with
  | none=>exact wpAny_getItem_str_slice (l:=some (i,ui)) (u:=none) (st:=none) hs rfl (post_val_or_str ⟨Nat.le_trans (Txt.slice_le u _ _) hz,fin⟩)
  | int j uj=>exact wpAny_getItem_str_slice (l:=some (i,ui)) (u:=some (j,uj)) (st:=none) hs rfl (post_val_or_str ⟨Nat.le_trans (Txt.slice_le u _ _) hz,fin⟩)
theorem Ep{n:Nat}(h:n≤1000000):Builtin.Str.tooLong n=false:=by
 unfold Builtin.Str.tooLong
 exact decide_eq_false (by have:(1000000:Nat)≤sizeLine:=by decide
                           omega)
theorem mulOk_of{x:Str}{n:Int}(hx:x.length≤1000)(h0: -(2 ^ 62)<n)(h1:n≤1000):MulOk x n:=by
 refine⟨?_,?_,?_⟩
 ·rw[decide_eq_false (by omega),decide_eq_false (by omega)];rfl
 ·intro a b
  have:(1000:Int)≤(2 ^ 63 - 1) / n:=by
   rw[Int.le_ediv_iff_mul_le (by omega)]
   omega
  omega
 ·intro a b
  refine Ep ?_
  have:n.toNat≤1000:=by omega
  calc x.length*n.toNat≤1000*1000:=Nat.mul_le_mul hx this
   _≤1000000:=by decide
theorem Fe{X:Cx}:qe X (binaryOp .Mult) (fun x y H Q=>∃i j,x= .str i∧y= .int j∧MulOk i j∧Q (.str (PySem.Txt.mul i j)) H):=by
 intro pins s σ H x y v u Q I rx ry h
 obtain⟨i,j,rfl,rfl,hz,q⟩:=h
 obtain⟨t,rfl⟩:=rx
 obtain⟨t',rfl⟩:=ry
 exact SB.mul hz (fun t' tk=>⟨.str (PySem.Txt.mul i j),H,I.tok _,⟨_,rfl⟩,q⟩)
section
variable{X:Cx}
theorem Zg{pins:List (Addr×Obj)}{σ:St}{H:Hp}{s:Shared}{a:Addr}(I:Inv X pins σ H s)(e:H a=some (.dK [])):Inv X pins σ (upd H a (.dT [])) s:=by
 obtain⟨z,hd,vs,rel,o,es,ep,h1,h2,h3,h4,h5,h6⟩:=Y_ I.hok e
 have hv:vs=[]:=by cases rel;rfl
 subst hv
 have he:es.toList=[]:=by
  have:=h5.length
  exact List.length_eq_zero_iff.mp (by simpa using this)
 exact Rr (t':=s.toks) (h':=s.heap) I (by rw[e];exact True.intro) ⟨rfl,fun _ _=>rfl⟩ ⟨o,h1⟩ ⟨Nat.zero_le _,hd,[],.nil,o,es,ep,h1,h2,h3,by rw[he];rfl,List.nodup_nil⟩
def RZ(H:Hp)(a:Addr)(y:V)(o:Option V)(H':Hp):Prop:=(vD H a y o∧H'=H)∨(H a=some (.dK [])∧(∃(k:List Key) (b:Addr),y= .ref b∧H b=some (.tup (k.map kV)))∧o=none∧H'=upd H a (.dT []))
theorem RZ.inv{pins:List (Addr×Obj)}{σ:St}{H H':Hp}{s:Shared}{a:Addr}{y:V}{o:Option V}(g:RZ H a y o H')(I:Inv X pins σ H s):Inv X pins σ H' s∧vD H' a y o:=by
 rcases g with⟨g,rfl⟩ | ⟨e,⟨k,b,rfl,eb⟩,rfl,rfl⟩
 ·exact⟨I,g⟩
 ·refine⟨Zg I e,.inr ⟨[],k,b,.inl aW,rfl,?_,rfl⟩⟩
  rw[aC (fun z=>by subst z;rw[e]at eb;cases eb)]
  exact eb
def XN(neg:Bool):R2:=fun y x H Q=>∃a o H',x= .ref a∧RZ H a y o H'∧Q (.bl (if neg=true then !o.isSome else o.isSome)) H'
theorem Js(hu:X.A.units+1<cLine):qe X (compareOp .NotIn) (XN true):=by
 intro pins s σ H y x v u Q I ry rx h
 obtain⟨a,o,H',rfl,g,q⟩:=h
 obtain rfl:u=Value.ref a:=rx
 obtain⟨I1,g1⟩:=g.inv I
 exact Rt hu I1 g1 ry fun s' I'=>⟨.bl _,H',I',rfl,q⟩
def XM:R2:=fun x y H Q=>∃a v,x= .ref a∧vD H a y (some v)∧Q v H
theorem Rg(hu:X.A.units+1<cLine):RX X XM:=by
 intro value slice pins s σ H x y v u Q I rx ry h hs
 obtain⟨a,d,rfl,g,q⟩:=h
 obtain rfl:v=Value.ref a:=rx
 exact tail_any (Dp I g) PySem.F.slot_dict_getitem.lookup (J0 hu I g ry fun w' s' I' rw'=>⟨d,H,I',rw',q⟩) hs
end
section
variable{prog:Program}{w:World}{A:Around}{E:Value→Shared→Prop}{s:Shared}{κ:Type}[DecidableEq κ]{knd:HeapKind prog w κ}{a:Addr}{xs:List (κ×Addr×Value)}
theorem Fx(hd:(a==sysModules)=false):MeetsIn prog w (Builtin.«dict.__len__» ⟨[.ref a],[]⟩) (fun _ R t=>∃ys:List (κ×Addr×Value),t.heap.DictOfH knd a ys∧R (.ok (.ret (.int ys.length t.toks))) {t with toks:=t.toks+1}):=
 .of_wp fun A R t ⟨ys,hm,q⟩=>by
  obtain⟨o,es,ep,e1,_,e2,e3,_⟩:=hm
  show wpAny _ _ (dictSize a >>= _) _ _ t
  unfold dictSize
  refine wpAny_bind (wpAny_bind (wpAny_dictEntries e1 e2 (wpAny_pure ?_)))
  show wpAny _ _ (Builtin.Dict.pendingCount a >>= _) _ _ t
  refine wpAny_bind (wpAny_pendingCount_other hd (wpAny_ret_mkInt ?_))
  have sz:es.size=ys.length:=by rw[←Array.length_toList,e3,List.length_map]
  rw[Nat.add_zero,sz]
  exact q
theorem abY{Q:Value→Shared→Prop}(hd:(a==sysModules)=false)(hm:s.heap.DictOfH knd a xs)(hz:(xs.length:Int)<2 ^ 63)(q:Q (.int xs.length (s.toks+1)) {s with toks:=s.toks+1+1}):wpAny (model prog w) A (call (.builtin "len") [.ref a]) Q E s:=by
 refine Calls.call_function_entry kind_len plain_len entry_len (args_len1 _) ?_
 unfold Builtin.«len»
 refine wpAny_bind (m:=oneArg "len" _) (wpAny_pure (wpAny_bind (m:=callSpecial? (.ref a) (Str.ofString "__len__")) ?_))
 refine wpAny_callSpecial?_slot (name:=Str.ofString "__len__") hm.typeIs F.slot_dict_len (call_meetsIn F.slot_dict_len hm.typeIs F.entry_dict_len (F.args_dict_len_1 _) (Fx (knd:=knd) hd) ⟨xs,hm,?_⟩)
 show wpAny (model prog w) _ _ _ _ {s with toks:=s.toks+1}
 refine wpAny_bind (wpAny_holding (wpAny_pure (wpAny_bind (wpAny_letGo ?_))))
 show wpAny (model prog w) _ (if((xs.length:Nat):Int)<0 then _ else _) _ _ _
 rw[if_neg (by omega)]
 show wpAny (model prog w) _ (if((xs.length:Nat):Int)≥2 ^ 63 then _ else _) _ _ _
 rw[if_neg (by omega)]
 exact wpAny_bind (wpAny_mkInt (wpAny_pure ⟨_,rfl,q⟩))
end
theorem J5{X:Cx}:kE X (.builtin "len") (fun xs H Q=>∃a kvs,xs=[V.ref a]∧H a=some (.dT kvs)∧Q (.int kvs.length) H):=by
 intro pins s σ H xs us Q I r h
 obtain⟨a,kvs,rfl,ha,q⟩:=h
 obtain⟨u,rfl,ru⟩:=vals1 r
 cases ru
 obtain⟨z,hd,ys,rel,dd⟩:=Y8 I.hok ha
 have hl:=Paired.length rel
 refine abY hd dd (by rw[←hl];rw[sizeLine_eq]at z;omega) ⟨.int kvs.length,H,I.tok _,⟨_,by rw[hl]⟩,q⟩
end L2
namespace L2
open PySem PySem.W PyProof.Rows
section
variable{n:Nat}{O:KeyOrd}{k:Nat→O.α}
def kk(k:Nat→O.α)(p:Array Nat)(i:Nat):O.α:=k (p.getD i 0)
def Up(k:Nat→O.α)(p:Array Nat)(m:Nat):Prop:=∀i j,i≤j→j<m→O.kle (kk k p i) (kk k p j)
def Dn(k:Nat→O.α)(p:Array Nat)(m:Nat):Prop:=∀i j,i≤j→j<m→O.kle (kk k p j) (kk k p i)
theorem Up.more{p:Array Nat}{m:Nat}(h:Up (O:=O) k p m)(h1:1≤m)(e:O.kle (kk k p (m - 1)) (kk k p m)):Up k p (m+1):=fun i j a b=>by
 rcases Nat.lt_or_ge j m with q | q
 ·exact h i j a q
 ·obtain rfl:j=m:=by omega
  rcases Nat.lt_or_ge i j with z | z
  ·exact KeyOrd.kle_trans (h i (j - 1) (by omega) (by omega)) e
  ·obtain rfl:i=j:=by omega
   exact O.irrefl _
theorem Dn.more{p:Array Nat}{m:Nat}(h:Dn (O:=O) k p m)(h1:1≤m)(e:O.kle (kk k p m) (kk k p (m - 1))):Dn k p (m+1):=fun i j a b=>by
 rcases Nat.lt_or_ge j m with q | q
 ·exact h i j a q
 ·obtain rfl:j=m:=by omega
  rcases Nat.lt_or_ge i j with z | z
  ·exact KeyOrd.kle_trans e (h i (j - 1) (by omega) (by omega))
  ·obtain rfl:i=j:=by omega
   exact O.irrefl _
end
end L2
namespace L2
open PySem PySem.Spec PySem.W PyProof.Rows
def WW(s:Str):List Int:=s.cps.toList.map Int.ofNat++[-1]
def Kin(c d:List Int):Prop:=∀r r':List Int,HT.lexLt (c++r) (d++r')=if c=d then HT.lexLt r r' else HT.lexLt c d
theorem vQ:∀{c d:List Int},c.length=d.length→Kin c d
 | [],[],_=>fun r r'=>by rw[if_pos rfl];rfl
 | [],_::_,h=>by cases h
 | _::_,[],h=>by cases h
 | x::c,y::d,h=>fun r r'=>by
  have ih:=vQ (c:=c) (d:=d) (by simpa using h) r r'
  rw[List.cons_append,List.cons_append,HT.bw,HT.bw]
  by_cases e:x=y
  ·subst e
   rw[if_pos rfl,if_pos rfl,ih]
   by_cases q:c=d
   ·rw[if_pos q,if_pos (by rw[q])]
   ·rw[if_neg q,if_neg (fun z=>q (by injection z))]
  ·rw[if_neg e,if_neg e,if_neg (fun z=>e (by injection z))]
theorem HR:∀(a b:List Nat),Kin (a.map Int.ofNat++[-1]) (b.map Int.ofNat++[-1])∧HT.lexLt (a.map Int.ofNat++[-1]) (b.map Int.ofNat++[-1])=decide (a<b)∧(a.map Int.ofNat++[-1]=b.map Int.ofNat++[-1]→a=b)
 | [],[]=>⟨vQ rfl,by simp[HT.lexLt],fun _=>rfl⟩
 | [],y::b=>by
  have e:(-1:Int)≠Int.ofNat y:=by simp
  have l:(-1:Int)<Int.ofNat y:=by simp;omega
  refine⟨fun r r'=> ?_,?_,fun h=> ?_⟩
  ·simp only[List.map_nil,List.nil_append,List.map_cons,List.cons_append]
   rw[HT.bw,HT.bw,if_neg e,if_neg e,if_neg (fun z=>e (by injection z))]
  ·simp only[List.map_nil,List.nil_append,List.map_cons,List.cons_append]
   rw[HT.bw,if_neg e,decide_eq_true l]
   simp
  ·simp only[List.map_nil,List.nil_append,List.map_cons,List.cons_append]at h
   exact absurd (by injection h) e
 | x::a,[]=>by
  have e:Int.ofNat x≠(-1:Int):=by simp
  have l:¬Int.ofNat x<(-1:Int):=by simp
  refine⟨fun r r'=> ?_,?_,fun h=> ?_⟩
  ·simp only[List.map_nil,List.nil_append,List.map_cons,List.cons_append]
   rw[HT.bw,HT.bw,if_neg e,if_neg e,if_neg (fun z=>e (by injection z))]
  ·simp only[List.map_nil,List.nil_append,List.map_cons,List.cons_append]
   rw[HT.bw,if_neg e,decide_eq_false l]
   simp
  ·simp only[List.map_nil,List.nil_append,List.map_cons,List.cons_append]at h
   exact absurd (by injection h) e
 | x::a,y::b=>by
  obtain⟨k,l,i⟩:=HR a b
  by_cases e:x=y
  ·subst e
   refine⟨fun r r'=> ?_,?_,fun h=> ?_⟩
   ·simp only[List.map_cons,List.cons_append]
    rw[HT.bw,HT.bw,if_pos rfl,if_pos rfl,k]
    by_cases q:a.map Int.ofNat++[-1]=b.map Int.ofNat++[-1]
    ·rw[if_pos q,if_pos (by rw[q])]
    ·rw[if_neg q,if_neg (fun z=>q (by injection z))]
   ·simp only[List.map_cons,List.cons_append]
    rw[HT.bw,if_pos rfl,l]
    simp
   ·simp only[List.map_cons,List.cons_append]at h
    rw[i (by injection h)]
  ·have e':Int.ofNat x≠Int.ofNat y:=fun z=>e (Int.ofNat.inj z)
   refine⟨fun r r'=> ?_,?_,fun h=> ?_⟩
   ·simp only[List.map_cons,List.cons_append]
    rw[HT.bw,HT.bw,if_neg e',if_neg e',if_neg (fun z=>e' (by injection z))]
   ·simp only[List.map_cons,List.cons_append]
    rw[HT.bw,if_neg e']
    have:(Int.ofNat x<Int.ofNat y)↔x<y:=by simp
    simp[List.cons_lt_cons_iff,e]
   ·simp only[List.map_cons,List.cons_append]at h
    exact absurd (by injection h) e'
inductive Part (K:Frag) (H:Hp):V→List Int→Nat→Prop
 | int (i:Int):Part K H (.int i) [i] 0
 | str (x:Str):Part K H (.str x) (WW x) 1
 | tup {a:Addr} {ns:List Int}:H a=some (.tup (ns.map V.int))→Part K H (.ref a) ns (ns.length+2)
theorem Part.Vh{K:Frag}{H:Hp}{x y:V}{c d:List Int}{k:Nat}(h:Part K H x c k)(h':Part K H y d k):Kin c d:=by
 cases h with
 | int i=>cases h' with
  | int j=>exact vQ rfl
 | str a=>cases h' with
  | str b=>exact(HR _ _).1
 | tup e=>
  generalize hk:_+2=k' at h'
  cases h' with
  | int j=>omega
  | str b=>omega
  | tup e'=>exact vQ (by omega)
section
variable{X:Cx}{pins:List (Addr×Obj)}{σ:St}{H:Hp}{s:Shared}{A:Around}{E:Value→Shared→Prop}
inductive Parts (K:Frag) (H:Hp):List V→List Int→List Nat→Prop
 | nil:Parts K H [] [] []
 | cons {x:V} {xs:List V} {c cs:List Int} {k:Nat} {ks:List Nat}:Part K H x c k→Parts K H xs cs ks→Parts K H (x::xs) (c++cs) (k::ks)
end
inductive RW (K:Frag) (H:Hp):List V→List (List Int)→Prop
 | flat {ys:List V} {cs:List (List Int)} (k:Nat) (hk:k<2) (hl:cs.length=ys.length) (h:∀(i:Nat) (y:V) (c:List Int),ys[i]? = some y→cs[i]? = some c→Part K H y c k):RW K H ys cs
 | rows {ys:List V} {cs:List (List Int)} (k:Nat) (ks:List Nat) (hl:cs.length=ys.length) (h:∀(i:Nat) (y:V) (c:List Int),ys[i]? = some y→cs[i]? = some c→∃a xs,y=V.ref a∧H a=some (.tup xs)∧Parts K H xs c (k::ks)):RW K H ys cs
theorem RW.len{K:Frag}{H:Hp}{ys:List V}{cs:List (List Int)}(h:RW K H ys cs):cs.length=ys.length:=by cases h<;>assumption
end L2
namespace S
open PySem PySem.Spec PyProof.Rows L2
inductive D where
 | non | bl (b:Bool) | int (i:Int) | str (x:Str) | tup (ds:List D) | ref (n:Nat) | cl (ds:List D) | ty (n:String) | cls (c:Nat) | exc (c:Nat) (d:D) | kj (ds:List D)
inductive MO where
 | lst (ds:List D) | ins (c:Nat) (fs:List (Str×D)) | dk (kvs:List (Key×D)) | dt (kvs:List (List Key×D))
abbrev St:=L2.St
abbrev Mem:=List MO
abbrev Sl:=List (Option D)
inductive Out (α:Type) where
 | ok (a:α) (M:Mem)
 | exc (c:Nat) (d:D) (M:Mem)
 | bad
def Out.bind{α β:Type}(o:Out α)(f:α→Mem→Out β):Out β:=match o with
 | .ok a M=>f a M
 | .exc c d M=> .exc c d M
 | .bad=> .bad
@[simp] theorem Out.jb{α β:Type}(c:Nat)(d:D)(M:Mem)(f:α→Mem→Out β):(Out.exc c d M:Out α).bind f= .exc c d M:=id rfl
@[simp] theorem Out.bK{α β:Type}(a:α)(M:Mem)(f:α→Mem→Out β):(Out.ok a M).bind f=f a M:=id rfl
@[simp] theorem Out.eF{α β:Type}(f:α→Mem→Out β):(Out.bad:Out α).bind f= .bad:=id rfl
def SQ(K:Frag)(H:Hp)(a:Addr)(xs:List V):Prop:=(∃o,H a=some (.pU o (.lst xs)))∨
 ∃(o:Obj) (its:Array Value) (n:Nat),K.lookup a=some o∧o.cls= .type "list" ∧ o.dict=none∧o.data= .seq its n∧its.size≤sizeLine∧Vals xs its.toList
theorem SQ.sq{K:Frag}{H:Hp}{a:Addr}{xs:List V}(h:SQ K H a xs):mK K H a xs:=h.elim (fun z=> .inl (.inr z)) .inr
def KT(K:Frag)(a:Addr)(xs:List V):Prop:=∃(o:Obj) (its:Array Value) (n:Nat),K.lookup a=some o∧o.cls= .type "tuple" ∧ o.data= .seq its n∧its.size≤sizeLine∧Vals xs its.toList
mutual
inductive DV (K:Frag) (ct ι:Nat→Addr) (n:Nat) (H:Hp):D→V→Prop
 | non:DV K ct ι n H .non .non
 | bl (b:Bool):DV K ct ι n H (.bl b) (.bl b)
 | int (i:Int):DV K ct ι n H (.int i) (.int i)
 | str (x:Str):DV K ct ι n H (.str x) (.str x)
 | tup {a:Addr} {xs:List V} {ds:List D}:H a=some (.tup xs)→fK K ct ι n H ds xs→DV K ct ι n H (.tup ds) (.ref a)
 | ref {i:Nat}:i<n→DV K ct ι n H (.ref i) (.ref (ι i))
 | cl {a:Addr} {xs:List V} {ds:List D}:SQ K H a xs→fK K ct ι n H ds xs→DV K ct ι n H (.cl ds) (.ref a)
 | ty (s:String):DV K ct ι n H (.ty s) (.ty s)
 | cls (c:Nat):DV K ct ι n H (.cls c) (.ref (ct c))
 | exc {a dx:Addr} {c:Nat} {d:D} {v:V}:H a=some (xC a (ct c) dx)→H dx=some (.xd [("at",v)])→DV K ct ι n H d v→DV K ct ι n H (.exc c d) (.ref a)
 | kj {a:Addr} {xs:List V} {ds:List D}:KT K a xs→fK K ct ι n H ds xs→DV K ct ι n H (.kj ds) (.ref a)
inductive fK (K:Frag) (ct ι:Nat→Addr) (n:Nat) (H:Hp):List D→List V→Prop
 | nil:fK K ct ι n H [] []
 | cons {d:D} {x:V} {ds:List D} {xs:List V}:DV K ct ι n H d x→fK K ct ι n H ds xs→fK K ct ι n H (d::ds) (x::xs)
end
structure Ext(K:Frag)(ι:Nat→Addr)(n:Nat)(H:Hp)(ι':Nat→Addr)(n':Nat)(H':Hp):Prop where
 tup:∀a xs,H a=some (.tup xs)→H' a=some (.tup xs)
 pU:∀a xs,SQ K H a xs→SQ K H' a xs
 ex:∀a φ,H a=some (.ext φ)→H' a=some (.ext φ)
 xd:∀a fs,H a=some (.xd fs)→H' a=some (.xd fs)
 le:n≤n'
 same:∀i,i<n→ι' i=ι i
theorem Ext.refl{K:Frag}{ι:Nat→Addr}{n:Nat}{H:Hp}:Ext K ι n H ι n H:=⟨fun _ _ h=>h,fun _ _ h=>h,fun _ _ h=>h,fun _ _ h=>h,Nat.le_refl _,fun _ _=>rfl⟩
theorem Ext.trans{K:Frag}{ι b_ fL:Nat→Addr}{n n1 n2:Nat}{H H1 H2:Hp}(a:Ext K ι n H b_ n1 H1)(b:Ext K b_ n1 H1 fL n2 H2):Ext K ι n H fL n2 H2:=
 ⟨fun x xs h=>b.tup x xs (a.tup x xs h),fun x xs h=>b.pU x xs (a.pU x xs h),fun x xs h=>b.ex x xs (a.ex x xs h),fun x xs h=>b.xd x xs (a.xd x xs h),Nat.le_trans a.le b.le,fun i hi=>(b.same i (Nat.lt_of_lt_of_le hi a.le)).trans (a.same i hi)⟩
mutual
theorem DV.mono{K:Frag}{ct ι ι':Nat→Addr}{n n':Nat}{H H':Hp}(e:Ext K ι n H ι' n' H'):∀{d:D} {v:V},DV K ct ι n H d v→DV K ct ι' n' H' d v
 | _,_,.non=> .non
 | _,_,.bl b=> .bl b
 | _,_,.int i=> .int i
 | _,_,.str x=> .str x
 | _,_,.tup h hs=> .tup (e.tup _ _ h) (fK.mono e hs)
 | _,_,.ref (i:=i) h=>by rw[←e.same i h];exact .ref (Nat.lt_of_lt_of_le h e.le)
 | _,_,.cl h hs=> .cl (e.pU _ _ h) (fK.mono e hs)
 | _,_,.ty s=> .ty s
 | _,_,.cls c=> .cls c
 | _,_,.exc h1 h2 h3=> .exc (e.ex _ _ h1) (e.xd _ _ h2) (DV.mono e h3)
 | _,_,.kj h hs=> .kj h (fK.mono e hs)
theorem fK.mono{K:Frag}{ct ι ι':Nat→Addr}{n n':Nat}{H H':Hp}(e:Ext K ι n H ι' n' H'):∀{ds:List D} {vs:List V},fK K ct ι n H ds vs→fK K ct ι' n' H' ds vs
 | _,_,.nil=> .nil
 | _,_,.cons h hs=> .cons (DV.mono e h) (fK.mono e hs)
end
section
variable{K:Frag}{ct ι:Nat→Addr}{n:Nat}{H:Hp}
theorem fK.length:∀{ds:List D} {vs:List V},fK K ct ι n H ds vs→vs.length=ds.length
 | _,_,.nil=>rfl
 | _,_,.cons _ h=>congrArg (· + 1) h.length
theorem fK.at:∀{ds:List D} {vs:List V} {i:Nat} {d:D},fK K ct ι n H ds vs→ds[i]? = some d→∃v,vs[i]? = some v∧DV K ct ι n H d v
 | _,_,_,_,.nil,e=>by simp at e
 | _,_,0,_,.cons h _,e=>by simp at e;subst e;exact⟨_,rfl,h⟩
 | _,_,i+1,_,.cons _ hs,e=>by simpa using hs.at (i:=i) (by simpa using e)
theorem fK.append:∀{ds es:List D} {vs ws:List V},fK K ct ι n H ds vs→fK K ct ι n H es ws→fK K ct ι n H (ds++es) (vs++ws)
 | _,_,_,_,.nil,h=>h
 | _,_,_,_,.cons h hs,h'=> .cons h (hs.append h')
theorem fK.take:∀{ds:List D} {vs:List V} (k:Nat),fK K ct ι n H ds vs→fK K ct ι n H (ds.take k) (vs.take k)
 | _,_,0,_=>by simp;exact .nil
 | _,_,_+1,.nil=>by simp;exact .nil
 | _,_,k+1,.cons h hs=>by simp;exact .cons h (hs.take k)
theorem fK.drop:∀{ds:List D} {vs:List V} (k:Nat),fK K ct ι n H ds vs→fK K ct ι n H (ds.drop k) (vs.drop k)
 | _,_,0,h=>by simpa using h
 | _,_,_+1,.nil=>by simp;exact .nil
 | _,_,k+1,.cons _ hs=>by simp;exact hs.drop k
theorem fK.set:∀{ds:List D} {vs:List V} {d:D} {v:V} (i:Nat),fK K ct ι n H ds vs→DV K ct ι n H d v→fK K ct ι n H (ds.set i d) (vs.set i v)
 | _,_,_,_,_,.nil,_=>by simp;exact .nil
 | _,_,_,_,0,.cons _ hs,h=>by simp;exact .cons h hs
 | _,_,_,_,i+1,.cons h' hs,h=>by simp;exact .cons h' (hs.set i h)
end
inductive Ef (K:Frag) (ct ι:Nat→Addr) (n:Nat) (H:Hp):List (Str×D)→List (Str×V)→Prop
 | nil:Ef K ct ι n H [] []
 | cons {x:Str} {d:D} {v:V} {fs:List (Str×D)} {vs:List (Str×V)}:DV K ct ι n H d v→Ef K ct ι n H fs vs→Ef K ct ι n H ((x,d)::fs) ((x,v)::vs)
theorem Ef.mono{K:Frag}{ct ι ι':Nat→Addr}{n n':Nat}{H H':Hp}(e:Ext K ι n H ι' n' H'):∀{fs:List (Str×D)} {vs:List (Str×V)},Ef K ct ι n H fs vs→Ef K ct ι' n' H' fs vs
 | _,_,.nil=> .nil
 | _,_,.cons h hs=> .cons (h.mono e) (hs.mono e)
def putD(f:Str)(d:D):List (Str×D)→List (Str×D)
 | []=>[(f,d)]
 | (x,e)::r=>if x=f then(x,d)::r else(x,e)::putD f d r
section
variable{K:Frag}{ct ι:Nat→Addr}{n:Nat}{H:Hp}
theorem Ef.length:∀{fs:List (Str×D)} {vs:List (Str×V)},Ef K ct ι n H fs vs→vs.length=fs.length
 | _,_,.nil=>rfl
 | _,_,.cons _ h=>congrArg (· + 1) h.length
theorem Ef.look{x:Str}:∀{fs:List (Str×D)} {vs:List (Str×V)} {d:D},Ef K ct ι n H fs vs→fs.lookup x=some d→∃v,vs.lookup x=some v∧DV K ct ι n H d v
 | _,_,_,.nil,e=>by simp at e
 | _,_,d,.cons (x:=y) h hs,e=>by
  rw[List.lookup_cons]at e ⊢
  cases z:x==y with
  | true=>rw[z]at e;exact⟨_,rfl,by cases e;exact h⟩
  | false=>rw[z]at e;exact hs.look e
theorem Ef.Sv{x:Str}:∀{fs:List (Str×D)} {vs:List (Str×V)},Ef K ct ι n H fs vs→fs.lookup x=none→vs.lookup x=none
 | _,_,.nil,_=>rfl
 | _,_,.cons (x:=y) h hs,e=>by
  rw[List.lookup_cons]at e ⊢
  cases z:x==y with
  | true=>rw[z]at e;cases e
  | false=>rw[z]at e;exact hs.Sv e
end
inductive IW (K:Frag) (ct ι:Nat→Addr) (n:Nat) (H:Hp) {κ:Type}:List (κ×D)→List (κ×V)→Prop
 | nil:IW K ct ι n H [] []
 | cons {x:κ} {d:D} {v:V} {fs:List (κ×D)} {vs:List (κ×V)}:DV K ct ι n H d v→IW K ct ι n H fs vs→IW K ct ι n H ((x,d)::fs) ((x,v)::vs)
theorem IW.mono{K:Frag}{ct ι ι':Nat→Addr}{n n':Nat}{H H':Hp}(e:Ext K ι n H ι' n' H'){κ:Type}:∀{fs:List (κ×D)} {vs:List (κ×V)},IW K ct ι n H fs vs→IW K ct ι' n' H' fs vs
 | _,_,.nil=> .nil
 | _,_,.cons h hs=> .cons (h.mono e) (hs.mono e)
theorem IW.length{K:Frag}{ct ι:Nat→Addr}{n:Nat}{H:Hp}{κ:Type}:∀{fs:List (κ×D)} {vs:List (κ×V)},IW K ct ι n H fs vs→vs.length=fs.length
 | _,_,.nil=>rfl
 | _,_,.cons _ h=>congrArg (· + 1) h.length
def OR(K:Frag)(ct ι:Nat→Addr)(n:Nat)(H:Hp)(a:Addr):MO→Prop
 | .lst ds=>∃vs,H a=some (.lst vs)∧fK K ct ι n H ds vs
 | .ins c fs=>∃dx vs,H a=some (.ins (ct c) dx vs)∧Ef K ct ι n H fs vs
 | .dk kvs=>∃vs,H a=some (.dK vs)∧IW K ct ι n H kvs vs
 | .dt kvs=>∃vs,H a=some (.dT vs)∧IW K ct ι n H kvs vs
structure Rl(K:Frag)(ct ι:Nat→Addr)(M:Mem)(H:Hp):Prop where
 inj:∀i j,i<M.length→j<M.length→ι i=ι j→i=j
 obj:∀(i:Nat) (o:MO),M[i]? = some o→OR K ct ι M.length H (ι i) o
structure Ws(K:Frag)(ct ι:Nat→Addr)(e:Sl)(M:Mem)(σ:St)(H:Hp):Prop where
 rl:Rl K ct ι M H
 len:σ.length=e.length
 env:∀(i:Nat) (d:D),e[i]? = some (some d)→∃v,σ[i]? = some (some v)∧DV K ct ι M.length H d v
section
variable{K:Frag}{ct ι:Nat→Addr}{M:Mem}{H:Hp}
theorem OR.some{a:Addr}{n:Nat}{o:MO}(h:OR K ct ι n H a o):∃u,H a=some u:=by
 cases o with
 | lst ds=>obtain⟨vs,e,_⟩:=h;exact⟨_,e⟩
 | ins c fs=>obtain⟨dx,vs,e,_⟩:=h;exact⟨_,e⟩
 | dk kvs=>obtain⟨vs,e,_⟩:=h;exact⟨_,e⟩
 | dt kvs=>obtain⟨vs,e,_⟩:=h;exact⟨_,e⟩
theorem A_{p:Addr}{o:HO}(hp:∀b u,H p≠some (.pU b u)){a:Addr}{xs:List V}(h:SQ K H a xs):SQ K (upd H p o) a xs:=by
 rcases h with⟨b,h⟩ | h
 ·have ne:a≠p:=fun e=>by subst e;exact hp _ _ h
  exact .inl ⟨b,by rw[aC ne];exact h⟩
 ·exact .inr h
theorem MF{p:Addr}(hp:H p=none):∀b u,H p≠some (.pU b u):=fun b u h=>by rw[hp]at h;cases h
theorem OR.keep{ι':Nat→Addr}{n n':Nat}{H':Hp}{a a':Addr}{o:MO}(e:Ext K ι n H ι' n' H')(ea:a'=a)(hh:H' a=H a)(h:OR K ct ι n H a o):OR K ct ι' n' H' a' o:=by
 subst ea
 cases o with
 | lst ds=>obtain⟨vs,q,r⟩:=h;exact⟨vs,by rw[hh];exact q,r.mono e⟩
 | ins c fs=>obtain⟨dx,vs,q,r⟩:=h;exact⟨dx,vs,by rw[hh];exact q,r.mono e⟩
 | dk kvs=>obtain⟨vs,q,r⟩:=h;exact⟨vs,by rw[hh];exact q,r.mono e⟩
 | dt kvs=>obtain⟨vs,q,r⟩:=h;exact⟨vs,by rw[hh];exact q,r.mono e⟩
def lz(ι:Nat→Addr)(n:Nat)(p:Addr):Nat→Addr:=fun i=>if i=n then p else ι i
theorem mj{p a:Addr}{o u:HO}(hp:H p=none)(h:H a=some u):upd H p o a=some u:=by rw[aC (aP h hp)];exact h
theorem Ext.fresh{n:Nat}{p:Addr}{o:HO}(hp:H p=none):Ext K ι n H ι n (upd H p o):=⟨fun _ _ h=>mj hp h,fun _ _ h=>A_ (MF hp) h,fun _ _ h=>mj hp h,fun _ _ h=>mj hp h,Nat.le_refl _,fun _ _=>rfl⟩
theorem Rl.lt(R:Rl K ct ι M H){i:Nat}{o:MO}(h:M[i]? = some o):∃u,H (ι i)=some u:=(R.obj i o h).some
theorem Rl.fresh(R:Rl K ct ι M H){p:Addr}{o:HO}(hp:H p=none):Rl K ct ι M (upd H p o):=by
 refine⟨R.inj,fun i x h=> ?_⟩
 obtain⟨u,hu⟩:=R.lt h
 exact(R.obj i x h).keep (Ext.fresh hp) rfl (aC (aP hu hp))
theorem Ext.new{p:Addr}{o:HO}(hp:H p=none):Ext K ι M.length H (lz ι M.length p) (M.length+1) (upd H p o):=
 ⟨fun _ _ h=>mj hp h,fun _ _ h=>A_ (MF hp) h,fun _ _ h=>mj hp h,fun _ _ h=>mj hp h,Nat.le_succ _,fun i hi=>by unfold lz;rw[if_neg (Nat.ne_of_lt hi)]⟩
theorem Rl.new(R:Rl K ct ι M H){p:Addr}{o:HO}{x:MO}(hp:H p=none)(h:OR K ct (lz ι M.length p) (M.length+1) (upd H p o) p x):Rl K ct (lz ι M.length p) (M++[x]) (upd H p o):=by
 have ne:∀i,i<M.length→ι i≠p:=fun i hi=>by
  obtain⟨u,hu⟩:=R.lt (List.getElem?_eq_getElem hi)
  exact aP hu hp
 have el:(M++[x]).length=M.length+1:=by simp
 refine⟨fun i j hi hj e=> ?_,fun i y hy=> ?_⟩
 ·rw[el]at hi hj
  unfold lz at e
  by_cases a:i=M.length
  ·by_cases b:j=M.length
   ·rw[a,b]
   ·rw[if_pos a,if_neg b]at e
    exact absurd e.symm (ne j (by omega))
  ·by_cases b:j=M.length
   ·rw[if_neg a,if_pos b]at e
    exact absurd e (ne i (by omega))
   ·rw[if_neg a,if_neg b]at e
    exact R.inj i j (by omega) (by omega) e
 ·rw[el]
  by_cases a:i<M.length
  ·rw[List.getElem?_append_left a]at hy
   obtain⟨u,hu⟩:=R.lt hy
   refine(R.obj i y hy).keep (Ext.new hp) ?_ (aC (aP hu hp))
   unfold lz
   rw[if_neg (Nat.ne_of_lt a)]
  ·have hi:i<(M++[x]).length:=(List.getElem?_eq_some_iff.mp hy).1
   have e:i=M.length:=by rw[el]at hi;omega
   subst e
   rw[List.getElem?_append_right (Nat.le_refl _)]at hy
   simp at hy
   subst hy
   have:lz ι M.length p M.length=p:=by unfold lz;rw[if_pos rfl]
   rw[this]
   exact h
theorem Ext.chg{n:Nat}{a:Addr}{o u:HO}(h:H a=some u)(hu:∀xs,u≠ .tup xs)(hz:∀b x,u≠ .pU b x)(hx:∀φ,u≠ .ext φ:=by exact fun _ z=>nomatch z)(hd:∀fs,u≠ .xd fs:=by exact fun _ z=>nomatch z):Ext K ι n H ι n (upd H a o):=
 ⟨fun b xs q=>by
  rw[aC (fun e=>by subst e;rw[h]at q;exact hu xs (Option.some.inj q))];exact q,fun _ _ q=>A_ (fun b x r=>by rw[h]at r;exact hz b x (Option.some.inj r)) q,fun b φ q=>by
  rw[aC (fun e=>by subst e;rw[h]at q;exact hx φ (Option.some.inj q))];exact q,fun b fs q=>by
  rw[aC (fun e=>by subst e;rw[h]at q;exact hd fs (Option.some.inj q))];exact q,Nat.le_refl _,fun _ _=>rfl⟩
theorem Rl.chg(R:Rl K ct ι M H){i:Nat}{o u:HO}{x:MO}(hi:i<M.length)(h:H (ι i)=some u)(hu:∀xs,u≠ .tup xs)(hz:∀b x,u≠ .pU b x)(hx:OR K ct ι M.length (upd H (ι i) o) (ι i) x)(hex:∀φ,u≠ .ext φ:=by exact fun _ z=>nomatch z)(hxd:∀fs,u≠ .xd fs:=by exact fun _ z=>nomatch z):Rl K ct ι (M.set i x) (upd H (ι i) o):=by
 refine⟨fun j k hj hk e=>R.inj j k (by simpa using hj) (by simpa using hk) e,fun j y hy=> ?_⟩
 rw[List.length_set]
 by_cases e:i=j
 ·subst e
  rw[List.getElem?_set_self hi]at hy
  cases hy
  exact hx
 ·rw[List.getElem?_set_ne e]at hy
  have hj:j<M.length:=(List.getElem?_eq_some_iff.mp hy).1
  exact(R.obj j y hy).keep (Ext.chg h hu hz hex hxd) rfl (aC fun z=>e (R.inj i j hi hj z.symm))
theorem Ws.ext{ι':Nat→Addr}{e:Sl}{M':Mem}{σ:St}{H':Hp}(w:Ws K ct ι e M σ H)(x:Ext K ι M.length H ι' M'.length H')(r:Rl K ct ι' M' H'):Ws K ct ι' e M' σ H':=
 ⟨r,w.len,fun i d h=>let⟨v,a,b⟩:=w.env i d h;⟨v,a,b.mono x⟩⟩
theorem Ws.set{e:Sl}{σ:St}{d:D}{v:V}(w:Ws K ct ι e M σ H)(i:Nat)(h:DV K ct ι M.length H d v):Ws K ct ι (e.set i (some d)) M (σ.set i (some v)) H:=by
 refine⟨w.rl,by simp[w.len],fun j d' hj=> ?_⟩
 by_cases z:i=j
 ·subst z
  have hi:i<e.length:=by have:=(List.getElem?_eq_some_iff.mp hj).1;simpa using this
  rw[List.getElem?_set_self hi]at hj
  cases hj
  exact⟨v,List.getElem?_set_self (by rw[w.len];exact hi),h⟩
 ·rw[List.getElem?_set_ne z]at hj
  obtain⟨v',a,b⟩:=w.env j d' hj
  exact⟨v',by rw[List.getElem?_set_ne z];exact a,b⟩
end
theorem Ws.clear{K:Frag}{ct ι:Nat→Addr}{M:Mem}{H:Hp}{e:Sl}{σ:St}(w:Ws K ct ι e M σ H)(i:Nat):Ws K ct ι (e.set i none) M (σ.set i none) H:=by
 refine⟨w.rl,by simp[w.len],fun j d' hj=> ?_⟩
 by_cases z:i=j
 ·subst z
  have hi:i<e.length:=by have:=(List.getElem?_eq_some_iff.mp hj).1;simpa using this
  rw[List.getElem?_set_self hi]at hj
  cases hj
 ·rw[List.getElem?_set_ne z]at hj
  obtain⟨v',a,b⟩:=w.env j d' hj
  exact⟨v',by rw[List.getElem?_set_ne z];exact a,b⟩
abbrev XW:=Addr→Addr→Hp→Prop
def WM(W:aG)(σ:St):XW:=fun C dx H=>W C dx σ H
def W0:aG:=fun _ _ _ _=>False
def dY{α β:Type}(rel:(Nat→Addr)→Mem→Hp→α→β→Prop)(K:Frag)(ct:Nat→Addr)(w:XW)(ι:Nat→Addr)(n:Nat)(H:Hp)(o:Out α)(Q:β→Hp→Prop):Prop:=match o with
 | .ok a M'=>∀ι' b H',Ext K ι n H ι' M'.length H'→Rl K ct ι' M' H'→rel ι' M' H' a b→Q b H'
 | .exc c d M'=>∀ι' dx v H',Ext K ι n H ι' M'.length H'→Rl K ct ι' M' H'→H' dx=some (.xd [("at",v)])→DV K ct ι' M'.length H' d v→w (ct c) dx H'
 | .bad=>False
def tG{α β:Type}(rel:(Nat→Addr)→Mem→Hp→α→β→Prop)(K:Frag)(ct:Nat→Addr)(W:aG)(m:Sl→Mem→Out α)(σ:St)(H:Hp)(Q:β→Hp→Prop):Prop:=
 ∃ι e M,Ws K ct ι e M σ H∧dY rel K ct (WM W σ) ι M.length H (m e M) Q
abbrev b7(K:Frag)(ct:Nat→Addr):(Nat→Addr)→Mem→Hp→D→V→Prop:=fun ι M H d v=>DV K ct ι M.length H d v
abbrev vB(K:Frag)(ct:Nat→Addr):(Nat→Addr)→Mem→Hp→List D→List V→Prop:=fun ι M H d v=>fK K ct ι M.length H d v
abbrev wI:(Nat→Addr)→Mem→Hp→Bool→Bool→Prop:=fun _ _ _ a b=>a=b
abbrev ME:=Sl→Mem→Out D
abbrev MT:=Sl→Mem→Out Bool
abbrev MA:=Sl→Mem→Out (List D)
def SE(X:Cx)(ct:Nat→Addr)(W:aG)(e:Expr)(m:ME):Prop:=PE X e (tG (b7 X.K ct) X.K ct W m)
def O3(X:Cx)(ct:Nat→Addr)(W:aG)(e:Expr)(m:MT):Prop:=PT X e (tG wI X.K ct W m)
def SW(X:Cx)(ct:Nat→Addr)(W:aG)(e:Expr)(m:MT):Prop:=PW X e (tG wI X.K ct W m)
def SA(X:Cx)(ct:Nat→Addr)(W:aG)(es:List Expr)(m:MA):Prop:=PA X es (tG (vB X.K ct) X.K ct W m)
theorem SW.pt{X:Cx}{ct:Nat→Addr}{W:aG}{e:Expr}{m:MT}(h:SW X ct W e m):O3 X ct W e m:=PW.pt h
section
variable{X:Cx}{ct:Nat→Addr}
theorem PE.imp{e:Expr}{t t':TE}(h:PE X e t)(hi:∀σ H Q,t' σ H Q→t σ H Q):PE X e t':=fun pins s σ H Q I q=>h pins s σ H Q I (hi σ H Q q)
theorem PT.imp{e:Expr}{t t':TT}(h:PT X e t)(hi:∀σ H Q,t' σ H Q→t σ H Q):PT X e t':=fun pins s σ H Q I q=>h pins s σ H Q I (hi σ H Q q)
theorem PW.imp{e:Expr}{t t':TT}(h:PW X e t)(hi:∀σ H Q,t' σ H Q→t σ H Q):PW X e t':=fun wh pins s σ H Q I q=>h wh pins s σ H Q I (hi σ H Q q)
theorem PA.imp{es:List Expr}{t t':TA}(h:PA X es t)(hi:∀σ H Q,t' σ H Q→t σ H Q):PA X es t':=fun pos pins s σ H Q I q=>h pos pins s σ H Q I (hi σ H Q q)
end
theorem dY.ext{α β:Type}{rel:(Nat→Addr)→Mem→Hp→α→β→Prop}{K:Frag}{ct ι ι':Nat→Addr}{w:XW}{n n':Nat}{H H':Hp}{o:Out α}{Q:β→Hp→Prop}(h:dY rel K ct w ι n H o Q)(x:Ext K ι n H ι' n' H'):dY rel K ct w ι' n' H' o Q:=by
 cases o with
 | ok a M=>exact fun fL b H2 x2 r q=>h fL b H2 (x.trans x2) r q
 | exc c d M=>exact fun fL dx v H2 x2 r q1 q2=>h fL dx v H2 (x.trans x2) r q1 q2
 | bad=>exact h
theorem dY.mono{α β:Type}{rel:(Nat→Addr)→Mem→Hp→α→β→Prop}{K:Frag}{ct ι:Nat→Addr}{w:XW}{n:Nat}{H:Hp}{o:Out α}{Q Q':β→Hp→Prop}(h:dY rel K ct w ι n H o Q)(x:∀b H,Q b H→Q' b H):dY rel K ct w ι n H o Q':=by
 cases o with
 | ok a M=>exact fun fL b H2 x2 r q=>x b H2 (h fL b H2 x2 r q)
 | exc c d M=>exact h
 | bad=>exact h
def acI{α β γ δ:Type}(cB:(Nat→Addr)→Mem→Hp→α→β→Prop)(Ht:(Nat→Addr)→Mem→Hp→γ→δ→Prop)(K:Frag)(ct:Nat→Addr)(W:aG)(f:α→Sl→Mem→Out γ)(σ:St)(Q:δ→Hp→Prop)(b:β)(H1:Hp):Prop:=
 ∃ι e M a,Ws K ct ι e M σ H1∧cB ι M H1 a b∧dY Ht K ct (WM W σ) ι M.length H1 (f a e M) Q
theorem bf{α β γ δ:Type}{cB:(Nat→Addr)→Mem→Hp→α→β→Prop}{Ht:(Nat→Addr)→Mem→Hp→γ→δ→Prop}{K:Frag}{ct:Nat→Addr}{W:aG}{ma:Sl→Mem→Out α}{f:α→Sl→Mem→Out γ}{σ:St}{H:Hp}{Q:δ→Hp→Prop}
  (h:tG Ht K ct W (fun e M=>(ma e M).bind fun a M1=>f a e M1) σ H Q):tG cB K ct W ma σ H (acI cB Ht K ct W f σ Q):=by
 obtain⟨ι,e,M,w,p⟩:=h
 refine⟨ι,e,M,w,?_⟩
 cases z:ma e M with
 | bad=>simp only[z,Out.eF]at p;exact p
 | exc xc xd xM=>simp only[z,Out.jb]at p;exact p
 | ok a M1=>
  simp only[z,Out.bK]at p
  exact fun b_ b H1 x r q=>⟨b_,e,M1,a,w.ext x r,q,p.ext x⟩
section
variable{X:Cx}{ct:Nat→Addr}{W:aG}{a b c:Expr}{ma mb mc:ME}{pos:Pos}
@[irreducible] def az(i:Nat):ME:=fun e M=>match e[i]? with
 | some (some d)=> .ok d M
 | _=> .bad
theorem vO{i:Nat}{e:Sl}{M:Mem}{d:D}(h:e[i]? = some (some d)):az i e M= .ok d M:=by unfold az;rw[h]
def mC(d:D):ME:=fun _ M=> .ok d M
theorem cR{e:Expr}{t:TE}{m:ME}(h:PE X e t)(hi:∀σ H Q,tG (b7 X.K ct) X.K ct W m σ H Q→t σ H Q):SE X ct W e m:=PE.imp h hi
theorem ak(i:Nat){x:Str}{pos:Pos}(hN:X.N[i]? = some x:=by rfl)(hv:ZF X.env.scope x:=by first | exact Or.inl rfl | exact Or.inr (Or.inl rfl) | exact Or.inr (Or.inr rfl))(hd:(x==("__debug__" : Str))=false:=by decide)
  (hcd:(x==("__classdict__" : Str))=false:=by decide):SE X ct W (.Name x pos) (az i):=cR (Mm hN hv hd hcd) fun σ H Q ⟨ι,e,M,w,p⟩=>by
 unfold az at p
 cases z:e[i]? with
 | none=>rw[z]at p;exact p.elim
 | some o=>
  cases o with
  | none=>rw[z]at p;exact p.elim
  | some d=>
   rw[z]at p
   obtain⟨v,hv,dv⟩:=w.env i d z
   exact⟨v,hv,p ι v H .refl w.rl dv⟩
theorem vZ{d:D}{v:V}{σ:St}{H:Hp}{Q:VK}(dv:∀ι n,DV X.K ct ι n H d v)(h:tG (b7 X.K ct) X.K ct W (mC d) σ H Q):tC v σ H Q:=by
 obtain⟨ι,e,M,w,p⟩:=h
 exact p ι v H .refl w.rl (dv _ _)
theorem au{i j pos}:SE X ct W (.Constant (.int i) j pos) (mC (.int i)):=cR Uk fun _ _ _ h=>vZ (fun _ _=> .int i) h
theorem qz{b j pos}:SE X ct W (.Constant (.bool b) j pos) (mC (.bl b)):=cR Yg fun _ _ _ h=>vZ (fun _ _=> .bl b) h
theorem rD{j pos}:SE X ct W (.Constant .none j pos) (mC .non):=cR Ui fun _ _ _ h=>vZ (fun _ _=> .non) h
theorem aO{x j pos}:SE X ct W (.Constant (.str x) j pos) (mC (.str x)):=cR Ue fun _ _ _ h=>vZ (fun _ _=> .str x) h
theorem R8{x:Str}{n:String}{pos:Pos}(hg:Gl X x)(hm:X.mg x=none)(hv:bootBuiltins x=some (.type n))(hn:x≠ "__name__" := by decide)(hd:(x==("__debug__" : Str))=false:=by decide):SE X ct W (.Name x pos) (mC (.ty n)):=
 cR (QJ (v:= .ty n) hg hm hv rfl hn hd) fun _ _ _ h=>vZ (fun _ _=> .ty n) h
theorem Le{x:Str}{k:Nat}{pos:Pos}(hg:Gl X x)(hm:X.mg x=some (.ref (ct k)))(hd:(x==("__debug__" : Str))=false:=by decide):SE X ct W (.Name x pos) (mC (.cls k)):=
 cR (z9 (v:= .ref (ct k)) hg hm rfl hd) fun _ _ _ h=>vZ (fun _ _=> .cls k) h
abbrev jW:=D→D→Mem→Out D
def aB(op:jW)(ma mb:ME):ME:=fun e M=>(ma e M).bind fun d M1=>(mb e M1).bind fun d' M2=>op d d' M2
def Bu(K:Frag)(ct:Nat→Addr)(op:jW)(r:R2):Prop:=
 ∀{w:XW} ι M H d d' v v' Q,Rl K ct ι M H→DV K ct ι M.length H d v→DV K ct ι M.length H d' v'→dY (b7 K ct) K ct w ι M.length H (op d d' M) Q→r v v' H Q
def fu(X:Cx)(ct:Nat→Addr)(f:Value→Value→Sem Value)(op:jW):Prop:=∃r,qe X f r∧Bu X.K ct op r
theorem zH{r:R2}{op:jW}(hs:Bu X.K ct op r){σ:St}{H:Hp}{Q:VK}(h:tG (b7 X.K ct) X.K ct W (aB op ma mb) σ H Q):
  W7 r (tG (b7 X.K ct) X.K ct W ma) (tG (b7 X.K ct) X.K ct W mb) σ H Q:=by
 obtain⟨ι,e,M,w,p⟩:=bf (cB:=b7 X.K ct) h
 refine⟨ι,e,M,w,p.mono fun x H1 ⟨b_,e1,M1,d1,w1,q1,p1⟩=> ?_⟩
 refine⟨b_,e1,M1,w1,?_⟩
 cases z:mb e1 M1 with
 | bad=>simp only[z,Out.eF]at p1;exact p1
 | exc xc xd xM=>simp only[z,Out.jb]at p1;exact p1
 | ok d2 M2=>
  simp only[z,Out.bK]at p1
  exact fun fL y H2 x2 r2 q2=>hs fL M2 H2 d1 d2 x y Q r2 (q1.mono x2) q2 (p1.ext x2)
theorem aK{op:Operator}{Kd:jW}(h:fu X ct (binaryOp op) Kd)(ha:SE X ct W a ma)(hb:SE X ct W b mb):SE X ct W (.BinOp a op b pos) (aB Kd ma mb):=by
 obtain⟨r,ho,hs⟩:=h
 exact cR (Yc ho ha hb) fun σ H Q q=>zH hs q
theorem kJ{op:CmpOp}{Kd:jW}(h:fu X ct (compareOp op) Kd)(ha:SE X ct W a ma)(hb:SE X ct W b mb)(hm:behindInMarks op b=false):SE X ct W (.Compare a [op] [b] pos) (aB Kd ma mb):=by
 obtain⟨r,ho,hs⟩:=h
 exact cR (QH ho ha hb hm) fun σ H Q q=>zH hs q
def Gs(d:D)(M:Mem):Out Bool:=match d with
 | .bl b=> .ok b M
 | _=> .bad
def bF(m:ME):MT:=fun e M=>(m e M).bind Gs
theorem BW{t:TE}{m:ME}{σ:St}{H:Hp}{Q:Bool→Hp→Prop}(hi:∀Q,tG (b7 X.K ct) X.K ct W m σ H Q→t σ H Q)(h:tG wI X.K ct W (bF m) σ H Q):R4 t σ H Q:=by
 refine hi _ ?_
 obtain⟨ι,e,M,w,p⟩:=bf (cB:=b7 X.K ct) (f:=fun d _ M=>Gs d M) h
 refine⟨ι,e,M,w,p.mono fun x H1 ⟨b_,e1,M1,d1,w1,q1,p1⟩=> ?_⟩
 cases q1 with
 | bl b=>exact⟨b,rfl,p1 b_ b H1 .refl w1.rl rfl⟩
 | _=>exact False.elim p1
theorem cW{op:CmpOp}{Kd:jW}(h:fu X ct (compareOp op) Kd)(ha:SE X ct W a ma)(hb:SE X ct W b mb)(hm:behindInMarks op b=false):O3 X ct W (.Compare a [op] [b] pos) (bF (aB Kd ma mb)):=by
 obtain⟨r,ho,hs⟩:=h
 exact PT.imp (Qt ho ha hb hm) fun σ H Q q=>BW (fun Q q=>zH hs q) q
theorem rB{m:ME}(h:SE X ct W a m)(he:∀whole,isTrue a X.env whole=(do let v ←whole;standAt a.pos;holding [v] (truthy v)):=by intro _;rfl):O3 X ct W a (bF m):=
 PT.imp (T5 h he) fun σ H Q q=>BW (fun Q q=>q) q
def mUn(op:D→Mem→Out D)(ma:ME):ME:=fun e M=>(ma e M).bind op
def UnS(X:Cx)(ct:Nat→Addr)(f:Value→Sem Value)(op:D→Mem→Out D):Prop:=∃r,UnR X f r∧∀{w:XW} ι M H d v Q,Rl X.K ct ι M H→DV X.K ct ι M.length H d v→dY (b7 X.K ct) X.K ct w ι M.length H (op d M) Q→r v H Q
theorem Xj{op:UnaryOp}{Kd:D→Mem→Out D}(h:UnS X ct (unaryOp op) Kd)(ha:SE X ct W a ma):SE X ct W (.UnaryOp op a pos) (mUn Kd ma):=by
 obtain⟨r,ho,hs⟩:=h
 refine cR (X_ ho ha) fun σ H Q q=> ?_
 obtain⟨ι,e,M,w,p⟩:=bf (cB:=b7 X.K ct) (f:=fun d _ M=>Kd d M) q
 exact⟨ι,e,M,w,p.mono fun x H1 ⟨b_,e1,M1,d1,w1,q1,p1⟩=>hs b_ M1 H1 d1 x Q w1.rl q1 p1⟩
variable{t u:MT}{rest:List Expr}
def Q9(t u:MT):MT:=fun e M=>(t e M).bind fun k M1=>if k=true then u e M1 else .ok false M1
def Wm(t u:MT):MT:=fun e M=>(t e M).bind fun k M1=>if k=true then .ok true M1 else u e M1
def JC(t:MT):MT:=fun e M=>(t e M).bind fun k M1=> .ok (!k) M1
theorem G4(ha:O3 X ct W a t):SW X ct W (.BoolOp .And [a] pos) t:=Qp ha
theorem zJ(ha:O3 X ct W a t):SW X ct W (.BoolOp .Or [a] pos) t:=T3 ha
theorem K4(ha:O3 X ct W a t)(hb:SW X ct W (.BoolOp .And (b::rest) pos) u):SW X ct W (.BoolOp .And (a::b::rest) pos) (Q9 t u):=PW.imp (T4 ha hb) fun σ H Q q=>by
 obtain⟨ι,e,M,w,p⟩:=bf (cB:=wI) (f:=fun k e M1=>if k=true then u e M1 else .ok false M1) q
 refine⟨ι,e,M,w,p.mono fun k H1 ⟨b_,e1,M1,d1,w1,q1,p1⟩=> ?_⟩
 have JV:d1=k:=q1;subst JV
 cases d1 with
 | true=>exact⟨b_,e1,M1,w1,p1⟩
 | false=>exact p1 b_ false H1 .refl w1.rl rfl
theorem G3(ha:O3 X ct W a t)(hb:SW X ct W (.BoolOp .Or (b::rest) pos) u):SW X ct W (.BoolOp .Or (a::b::rest) pos) (Wm t u):=PW.imp (XS ha hb) fun σ H Q q=>by
 obtain⟨ι,e,M,w,p⟩:=bf (cB:=wI) (f:=fun k e M1=>if k=true then .ok true M1 else u e M1) q
 refine⟨ι,e,M,w,p.mono fun k H1 ⟨b_,e1,M1,d1,w1,q1,p1⟩=> ?_⟩
 have JV:d1=k:=q1;subst JV
 cases d1 with
 | false=>exact⟨b_,e1,M1,w1,p1⟩
 | true=>exact p1 b_ true H1 .refl w1.rl rfl
theorem zM(ha:O3 X ct W a t):O3 X ct W (.UnaryOp .Not a pos) (JC t):=PT.imp (T6 ha) fun σ H Q q=>by
 obtain⟨ι,e,M,w,p⟩:=bf (cB:=wI) (f:=fun k e M1=> .ok (!k) M1) q
 refine⟨ι,e,M,w,p.mono fun k H1 ⟨b_,e1,M1,d1,w1,q1,p1⟩=> ?_⟩
 have JV:d1=k:=q1;subst JV
 exact p1 b_ _ H1 .refl w1.rl rfl
def Nk(ma mb:ME):ME:=fun e M=>(ma e M).bind fun d M1=>(Gs d M1).bind fun k M2=>if k=true then mb e M2 else .ok (.bl false) M2
def Vc(ma mb:ME):ME:=fun e M=>(ma e M).bind fun d M1=>(Gs d M1).bind fun k M2=>if k=true then .ok (.bl true) M2 else mb e M2
def Ni(ma:ME):ME:=fun e M=>(ma e M).bind fun d M1=>(Gs d M1).bind fun k M2=> .ok (.bl (!k)) M2
theorem K_{op}{m:ME}(h:SE X ct W a m):SE X ct W (.BoolOp op [a] pos) m:=Ug h
theorem Tp(ha:SE X ct W a ma)(hb:SE X ct W (.BoolOp .And (b::rest) pos) mb):SE X ct W (.BoolOp .And (a::b::rest) pos) (Nk ma mb):=cR (Uo ha hb) fun σ H Q q=>by
 obtain⟨ι,e,M,w,p⟩:=bf (cB:=b7 X.K ct) (f:=fun d e M1=>(Gs d M1).bind fun k M2=>if k=true then mb e M2 else .ok (.bl false) M2) q
 refine⟨ι,e,M,w,p.mono fun x H1 ⟨b_,e1,M1,d1,w1,q1,p1⟩=> ?_⟩
 cases q1 with
 | bl k=>
  refine⟨k,rfl,?_⟩
  simp only[Gs,Out.bK]at p1
  cases k with
  | true=>exact⟨b_,e1,M1,w1,p1⟩
  | false=>exact p1 b_ _ H1 .refl w1.rl (.bl false)
 | _=>exact False.elim p1
theorem Xk(ha:SE X ct W a ma)(hb:SE X ct W (.BoolOp .Or (b::rest) pos) mb):SE X ct W (.BoolOp .Or (a::b::rest) pos) (Vc ma mb):=cR (Yb ha hb) fun σ H Q q=>by
 obtain⟨ι,e,M,w,p⟩:=bf (cB:=b7 X.K ct) (f:=fun d e M1=>(Gs d M1).bind fun k M2=>if k=true then .ok (.bl true) M2 else mb e M2) q
 refine⟨ι,e,M,w,p.mono fun x H1 ⟨b_,e1,M1,d1,w1,q1,p1⟩=> ?_⟩
 cases q1 with
 | bl k=>
  refine⟨k,rfl,?_⟩
  simp only[Gs,Out.bK]at p1
  cases k with
  | false=>exact⟨b_,e1,M1,w1,p1⟩
  | true=>exact p1 b_ _ H1 .refl w1.rl (.bl true)
 | _=>exact False.elim p1
theorem Tn(ha:SE X ct W a ma):SE X ct W (.UnaryOp .Not a pos) (Ni ma):=cR (Uh ha) fun σ H Q q=>by
 obtain⟨ι,e,M,w,p⟩:=bf (cB:=b7 X.K ct) (f:=fun d _ M1=>(Gs d M1).bind fun k M2=>(Out.ok (D.bl (!k)) M2:Out D)) q
 refine⟨ι,e,M,w,p.mono fun x H1 ⟨b_,e1,M1,d1,w1,q1,p1⟩=> ?_⟩
 cases q1 with
 | bl k=>exact⟨k,rfl,p1 b_ _ H1 .refl w1.rl (.bl _)⟩
 | _=>exact False.elim p1
variable{es:List Expr}{ms:MA}
def aL:MA:=fun _ M=> .ok [] M
def ao(m:ME)(ms:MA):MA:=fun e M=>(m e M).bind fun d M1=>(ms e M1).bind fun ds M2=> .ok (d::ds) M2
theorem aA:SA X ct W [] aL:=PA.imp Uq fun σ H Q ⟨ι,e,M,w,p⟩=>p ι [] H .refl w.rl .nil
theorem aj(ha:SE X ct W a ma)(hr:SA X ct W es ms)(hs:starEach (a::es) X.env=(false,eval a X.env)::starEach es X.env:=by rfl):SA X ct W (a::es) (ao ma ms):=PA.imp (QK ha hr hs) fun σ H Q q=>by
 obtain⟨ι,e,M,w,p⟩:=bf (cB:=b7 X.K ct) (f:=fun d e M1=>(ms e M1).bind fun ds M2=> .ok (d::ds) M2) q
 refine⟨ι,e,M,w,p.mono fun x H1 ⟨b_,e1,M1,d1,w1,q1,p1⟩=>⟨b_,e1,M1,w1,?_⟩⟩
 cases z:ms e1 M1 with
 | bad=>simp only[z,Out.eF]at p1;exact p1
 | exc xc xd xM=>simp only[z,Out.jb]at p1;exact p1
 | ok ds M2=>
  simp only[z,Out.bK]at p1
  exact fun fL xs H2 x2 r2 q2=>p1 fL (x::xs) H2 x2 r2 (.cons (q1.mono x2) q2)
def JB(ms:MA):ME:=fun e M=>(ms e M).bind fun ds M1=>if ds.length≤sizeLine then .ok (.tup ds) M1 else .bad
def h_(ms:MA):ME:=fun e M=>(ms e M).bind fun ds M1=>if ds.length≤sizeLine then .ok (.ref M1.length) (M1++[.lst ds])else .bad
theorem wK{w:XW}{K:Frag}{ι:Nat→Addr}{M:Mem}{H:Hp}{ds:List D}{xs:List V}{Q:VK}{p:Addr}(R:Rl K ct ι M H)(h:fK K ct ι M.length H ds xs)(hp:H p=none)(q:dY (b7 K ct) K ct w ι M.length H (.ok (.tup ds) M) Q):Q (.ref p) (upd H p (.tup xs)):=
 q ι (.ref p) _ (Ext.fresh hp) (R.fresh hp) (.tup aW (h.mono (Ext.fresh hp)))
theorem pK{w:XW}{K:Frag}{ι:Nat→Addr}{M:Mem}{H:Hp}{ds:List D}{xs:List V}{Q:VK}{p:Addr}(R:Rl K ct ι M H)(h:fK K ct ι M.length H ds xs)(hp:H p=none)(q:dY (b7 K ct) K ct w ι M.length H (.ok (.ref M.length) (M++[.lst ds])) Q):Q (.ref p) (upd H p (.lst xs)):=by
 have el:(M++[MO.lst ds]).length=M.length+1:=by simp
 have x:Ext K ι M.length H (lz ι M.length p) (M.length+1) (upd H p (.lst xs)):=Ext.new hp
 have e:(lz ι M.length p) M.length=p:=by unfold lz;rw[if_pos rfl]
 have dv:DV K ct (lz ι M.length p) (M++[MO.lst ds]).length (upd H p (.lst xs)) (.ref M.length) (.ref p):=by
  have:=DV.ref (K:=K) (ct:=ct) (ι:=lz ι M.length p) (n:=(M++[MO.lst ds]).length) (H:=upd H p (.lst xs)) (i:=M.length) (by rw[el];omega)
  rw[e]at this
  exact this
 exact q (lz ι M.length p) (.ref p) _ (by rw[el];exact x) (R.new hp ⟨xs,aW,h.mono x⟩) dv
theorem Ex{x1}(h:SA X ct W es ms):SE X ct W (.Tuple es x1 pos) (JB ms):=cR (Ud h) fun σ H Q q=>by
 obtain⟨ι,e,M,w,p⟩:=bf (cB:=vB X.K ct) (f:=fun ds _ M1=>if ds.length≤sizeLine then .ok (D.tup ds) M1 else .bad) q
 refine⟨ι,e,M,w,p.mono fun xs H1 ⟨b_,e1,M1,ds,w1,q1,p1⟩=> ?_⟩
 by_cases z:ds.length≤sizeLine
 ·simp only[z,if_true]at p1
  exact⟨by rw[q1.length];exact z,fun pp hp=>wK w1.rl q1 hp p1⟩
 ·simp only[z,if_false]at p1
  exact p1.elim
theorem cj(h:SA X ct W es ms):SE X ct W (.List es pos) (h_ ms):=cR (Uj h) fun σ H Q q=>by
 obtain⟨ι,e,M,w,p⟩:=bf (cB:=vB X.K ct) (f:=fun ds _ M1=>if ds.length≤sizeLine then .ok (D.ref M1.length) (M1++[.lst ds])else .bad) q
 refine⟨ι,e,M,w,p.mono fun xs H1 ⟨b_,e1,M1,ds,w1,q1,p1⟩=> ?_⟩
 by_cases z:ds.length≤sizeLine
 ·simp only[z,if_true]at p1
  exact⟨by rw[q1.length];exact z,fun pp hp=>pK w1.rl q1 hp p1⟩
 ·simp only[z,if_false]at p1
  exact p1.elim
def xJ(cs:List Nat)(f:Str)(d:D)(M:Mem):Out D:=match d with
 | .ref n=>match M[n]? with
  | some (.ins c fs)=>if c∈cs then(match fs.lookup f with
   | some v=> .ok v M
   | none=> .bad)else .bad
  | _=> .bad
 | _=> .bad
def Ft(cs:List Nat)(m:ME)(f:Str):ME:=fun e M=>(m e M).bind (xJ cs f)
def x_(K:Frag)(ct:Nat→Addr)(f:Str):List Nat→Prop
 | []=>True
 | c::cs=>(Kc K (ct c)∧jh K (ct c) f)∧x_ K ct f cs
theorem x_.get{K:Frag}{ct:Nat→Addr}{f:Str}:∀{cs:List Nat} {c:Nat},x_ K ct f cs→c∈cs→Kc K (ct c)∧jh K (ct c) f
 | [],_,_,h=>by simp at h
 | c::cs,d,⟨a,r⟩,h=>by
  rcases List.mem_cons.mp h with e | e
  ·subst e;exact a
  ·exact r.get e
theorem je{K:Frag}{ι:Nat→Addr}{n:Nat}{H:Hp}{i:Nat}{v:V}(h:DV K ct ι n H (.ref i) v):i<n∧v= .ref (ι i):=by cases h with | ref h=>exact⟨h,rfl⟩
theorem wk{cs:List Nat}{f:Str}(hc:x_ X.K ct f cs)(he:SE X ct W a ma)(hb:attributeBase a f X.env (eval a X.env)=eval a X.env:=by rfl):SE X ct W (.Attribute a f pos) (Ft cs ma f):=cR (Ul he hb) fun σ H Q q=>by
 obtain⟨ι,e,M,w,p⟩:=bf (cB:=b7 X.K ct) (f:=fun d _ M1=>xJ cs f d M1) q
 refine⟨ι,e,M,w,p.mono fun x H1 ⟨b_,e1,M1,d1,w1,q1,p1⟩=> ?_⟩
 cases d1 with
 | ref n=>
  obtain⟨hn,rfl⟩:=je q1
  simp only[xJ]at p1
  cases z:M1[n]? with
  | none=>simp only[z]at p1;exact p1.elim
  | some o=>
   cases o with
   | ins c fs=>
    simp only[z]at p1
    by_cases hcs:c∈cs
    ·simp only[hcs,if_true]at p1
     cases z2:fs.lookup f with
     | none=>simp only[z2]at p1;exact p1.elim
     | some d=>
      simp only[z2]at p1
      obtain⟨dx,vs,hH,fv⟩:=w1.rl.obj n _ z
      obtain⟨v,hv,dv⟩:=fv.look z2
      exact⟨_,_,dx,vs,v,rfl,hH,(hc.get hcs).1,(hc.get hcs).2,hv,p1 b_ v H1 .refl w1.rl dv⟩
    ·simp only[hcs,if_false]at p1
     exact p1.elim
   | _=>simp only[z]at p1;exact p1.elim
 | _=>exact p1.elim
abbrev Fn:=List D→Mem→Out D
def wE(E:XK):XW:=fun C dx H=>E (.ref C) (some dx) H
theorem dY.wish{α β:Type}{rel:(Nat→Addr)→Mem→Hp→α→β→Prop}{K:Frag}{ct ι:Nat→Addr}{w w':XW}{n:Nat}{H:Hp}{o:Out α}{Q:β→Hp→Prop}(h:dY rel K ct w ι n H o Q)(x:∀C dx H,w C dx H→w' C dx H):dY rel K ct w' ι n H o Q:=by
 cases o with
 | ok a M=>exact h
 | exc c d M=>exact fun fL dx v H2 x2 r q1 q2=>x _ _ _ (h fL dx v H2 x2 r q1 q2)
 | bad=>exact h
theorem dY.toE{α β:Type}{rel:(Nat→Addr)→Mem→Hp→α→β→Prop}{K:Frag}{ct ι:Nat→Addr}{W:aG}{σ:St}{n:Nat}{H:Hp}{o:Out α}{Q:β→Hp→Prop}(h:dY rel K ct (WM W σ) ι n H o Q):dY rel K ct (wE (EW W σ)) ι n H o Q:=
 h.wish fun C dx _ q=>⟨C,dx,rfl,rfl,q⟩
def spS(K:Frag)(ct:Nat→Addr)(fn:Fn)(ar:Nat):Sp:=fun vs H Q E=>∃ι ds M,ds.length=ar∧Rl K ct ι M H∧fK K ct ι M.length H ds vs∧dY (b7 K ct) K ct (wE E) ι M.length H (fn ds M) Q
inductive SX:D→V→Value→Prop
 | bl (b:Bool):SX (.bl b) (.bl b) (.bool b)
 | non:SX .non .non .none
 | str (x:Str) (t:Tok):SX (.str x) (.str x) (.str x t)
inductive ud:List D→List V→List Value→Prop
 | nil:ud [] [] []
 | cons {d:D} {v:V} {u:Value} {ds:List D} {vs:List V} {us:List Value}:SX d v u→ud ds vs us→ud (d::ds) (v::vs) (u::us)
theorem SX.dv{K:Frag}{ι:Nat→Addr}{n:Nat}{H:Hp}{d:D}{v:V}{u:Value}(h:SX d v u):DV K ct ι n H d v:=by
 cases h with
 | bl b=>exact .bl b
 | non=>exact .non
 | str x t=>exact .str x
theorem SX.val{d:D}{v:V}{u:Value}(h:SX d v u):RelV v u:=by
 cases h with
 | bl b=>exact rfl
 | non=>exact rfl
 | str x t=>exact⟨_,rfl⟩
theorem ud.dv{K:Frag}{ι:Nat→Addr}{n:Nat}{H:Hp}{ds:List D}{vs:List V}{us:List Value}(h:ud ds vs us):fK K ct ι n H ds vs:=by
 induction h with
 | nil=>exact .nil
 | cons c _ ih=>exact .cons c.dv ih
theorem ud.vals{ds:List D}{vs:List V}{us:List Value}(h:ud ds vs us):Vals vs us:=by
 induction h with
 | nil=>exact .nil
 | cons c _ ih=>exact .cons c.val ih
def fB(fn:Fn)(ar:Nat)(dv:List D)(ms:MA):ME:=fun e M=>(ms e M).bind fun ds M1=>if(ds++dv).length=ar then fn (ds++dv) M1 else .bad
variable{k:Nat}{f:Addr}{fd:FuncData}{ps:List Str}{fn:Fn}{dv:List D}{qm:List V}{Om:List Value}{x:Str}{p:Pos}
theorem KZ{σ:St}{H:Hp}{Q:VK}(hd:ud dv qm Om)(h:tG (b7 X.K ct) X.K ct W (fB fn ps.length dv ms) σ H Q):K3 (spS X.K ct fn ps.length) qm W (tG (vB X.K ct) X.K ct W ms) σ H Q:=by
 obtain⟨ι,e,M,w,p⟩:=bf (cB:=vB X.K ct) (f:=fun ds _ M1=>if(ds++dv).length=ps.length then fn (ds++dv) M1 else .bad) h
 refine⟨ι,e,M,w,p.mono fun vs H1 ⟨b_,e1,M1,ds,w1,q1,p1⟩=> ?_⟩
 by_cases z:(ds++dv).length=ps.length
 ·simp only[z,if_true]at p1
  exact⟨b_,ds++dv,M1,z,w1.rl,q1.append hd.dv,p1.toE⟩
 ·simp only[z,if_false]at p1
  exact p1.elim
theorem bO{ar:Nat}(F:bh X.prog X.w X.K X.mg X.base (ji X.prog X.w) k f fd ps (spS X.K ct fn ar))(hx:Tk X W)(hr:dJ k X.A)(hg:Gl X x)(hm:X.mg x=some (.ref f))(hk:keepIn X.K (.ref f)=true)(hb:Binds X.K fd ps Om)(hd:ud dv qm Om)
  (ha:SA X ct W (a::es) ms) (hdb:(x==("__debug__" : Str))=false:=by decide) (he:starEach (a::es) X.env=(false,eval a X.env)::starEach es X.env:=by rfl) (hpl:(backTo pos (starEach es X.env)).any (·.1)=false:=by rfl) (har:ps.length=ar:=by rfl):SE X ct W (.Call (.Name x p) (a::es) [] pos) (fB fn ar dv ms):=by
 subst har
 exact cR (Ms F hr hg hm hk hb hd.vals hx ha hdb he hpl) fun σ H Q q=>KZ hd q
def tR(k:Nat)(m:Str)(d:D)(M:Mem):Bool:=match d with
 | .ref n=>match M[n]? with
  | some (.ins c fs)=>c==k&&(fs.lookup m).isNone
  | _=>false
 | _=>false
def HJ(k:Nat)(m:Str)(fn:Fn)(ar:Nat)(dv:List D)(mo:ME)(ms:MA):ME:=fun e M=>(mo e M).bind fun d M1=>if tR k m d M1=true then(ms e M1).bind fun ds M2=>if(d::(ds++dv)).length=ar then fn (d::(ds++dv)) M2 else .bad else .bad
theorem NB{K:Frag}{ι:Nat→Addr}{M:Mem}{H:Hp}{k:Nat}{m:Str}{d:D}{v:V}(R:Rl K ct ι M H)(h:tR k m d M=true)(q:DV K ct ι M.length H d v):∃a dx fs,v= .ref a∧H a=some (.ins (ct k) dx fs)∧fs.lookup m=none:=by
 cases d with
 | ref n=>
  obtain⟨hn,rfl⟩:=je q
  unfold tR at h
  cases z:M[n]? with
  | none=>simp only[z]at h;cases h
  | some o=>
   cases o with
   | ins c fs=>
    simp only[z,Bool.and_eq_true,beq_iff_eq,Option.isNone_iff_eq_none]at h
    obtain⟨rfl,hl⟩:=h
    obtain⟨dx,vs,hH,fv⟩:=R.obj n _ z
    exact⟨_,dx,vs,rfl,hH,fv.Sv hl⟩
   | _=>simp only[z]at h;cases h
 | _=>exact absurd h Bool.false_ne_true
theorem KQ{kc:Nat}{m:Str}{mo:ME}{σ:St}{H:Hp}{Q:VK}(hd:ud dv qm Om)(h:tG (b7 X.K ct) X.K ct W (HJ kc m fn ps.length dv mo ms) σ H Q):
  KR (ct kc) m (spS X.K ct fn ps.length) qm W (tG (b7 X.K ct) X.K ct W mo) (tG (vB X.K ct) X.K ct W ms) σ H Q:=by
 obtain⟨ι,e,M,w,p⟩:=bf (cB:=b7 X.K ct) (f:=fun d e M1=>if tR kc m d M1=true then(ms e M1).bind fun ds M2=>if(d::(ds++dv)).length=ps.length then fn (d::(ds++dv)) M2 else .bad else .bad) h
 refine⟨ι,e,M,w,p.mono fun v H1 ⟨b_,e1,M1,d,w1,q1,p1⟩=> ?_⟩
 cases z:tR kc m d M1 with
 | false=>simp only[z,Bool.false_eq_true,if_false]at p1;exact p1.elim
 | true=>
  simp only[z,if_true]at p1
  obtain⟨a,dx,fs,rfl,hH,hl⟩:=NB w1.rl z q1
  refine⟨a,dx,fs,rfl,hH,hl,b_,e1,M1,w1,?_⟩
  cases z2:ms e1 M1 with
  | bad=>simp only[z2,Out.eF]at p1;exact p1
  | exc xc xd xM=>simp only[z2,Out.jb]at p1;exact p1
  | ok ds M2=>
   simp only[z2,Out.bK]at p1
   intro fL vs H2 x2 r2 q2
   by_cases z3:(d::(ds++dv)).length=ps.length
   ·rw[if_pos z3]at p1
    exact⟨fL,_,M2,z3,r2,.cons (q1.mono x2) (q2.append hd.dv),(p1.ext x2).toE⟩
   ·rw[if_neg z3]at p1
    exact p1.elim
variable{o:Expr}{mo:ME}{kc:Nat}{m:Str}{apos:Pos}
theorem PX{ar:Nat}{pl:Sem Bool}(he:SE X ct W o mo)(c:Kc X.K (ct kc))(hm:Meth X.K (ct kc) m f)(F:bh X.prog X.w X.K X.mg X.base (ji X.prog X.w) k f fd ps (spS X.K ct fn ar))(hx:Tk X W)(hr:dJ k X.A)(hb:Binds X.K fd ps Om)(hd:ud dv qm Om)(ha:SA X ct W (a::es) ms)
  (hst:starEach (a::es) X.env=(false,eval a X.env)::starEach es X.env:=by rfl) (hpl:(backTo pos (starEach es X.env)).any (·.1)=false:=by rfl)
  (ht:eval (.Call (.Attribute o m apos) (a::es) [] pos) X.env=(do
   let ov ←eval o X.env
   standAt apos.atName
   let(f,first) ←holding [ov] (getMethod ov m pl)
   callWith pos f first (backTo pos (starEach (a::es) X.env)) (backToKw pos (keywordEach [] X.env))):=by rfl) (har:ps.length=ar:=by rfl):SE X ct W (.Call (.Attribute o m apos) (a::es) [] pos) (HJ kc m fn ar dv mo ms):=by
 subst har
 exact cR (Mq he c hm F hr hb hd.vals hx ha hst hpl ht) fun σ H Q q=>KQ hd q
def De(d:D):Bool:=match d with
 | .non=>true
 | _=>false
def yV(kc:Nat)(fn:Fn)(ar:Nat)(dv:List D)(ms:MA):ME:=fun e M=>(ms e M).bind fun ds M1=>if(D.ref M1.length::(ds++dv)).length=ar then(fn (.ref M1.length::(ds++dv)) (M1++[.ins kc []])).bind fun r M2=>if De r=true then .ok (.ref M1.length) M2 else .bad else .bad
theorem BX{σ:St}{H:Hp}{Q:VK}(hd:ud dv qm Om)(h:tG (b7 X.K ct) X.K ct W (yV kc fn ps.length dv ms) σ H Q):Es (ct kc) (spS X.K ct fn ps.length) qm W (tG (vB X.K ct) X.K ct W ms) σ H Q:=by
 obtain⟨ι,e,M,w,p⟩:=bf (cB:=vB X.K ct) (f:=fun ds _ M1=>if(D.ref M1.length::(ds++dv)).length=ps.length then(fn (D.ref M1.length::(ds++dv)) (M1++[.ins kc []])).bind fun r M2=>if De r=true then .ok (D.ref M1.length) M2 else .bad else .bad) h
 refine⟨ι,e,M,w,p.mono fun vs H1 ⟨b_,e1,M1,ds,w1,q1,p1⟩=> ?_⟩
 intro a dx ha hdx ne
 dsimp only at p1
 by_cases z:(D.ref M1.length::(ds++dv)).length=ps.length
 ·rw[if_pos z]at p1
  have ha':upd H1 dx (.own a) a=none:=by rw[aC (Ne.symm ne)];exact ha
  have el:(M1++[MO.ins kc []]).length=M1.length+1:=by simp
  have x1:Ext X.K b_ M1.length H1 b_ M1.length (upd H1 dx (.own a)):=Ext.fresh hdx
  have r1:Rl X.K ct b_ M1 (upd H1 dx (.own a)):=w1.rl.fresh hdx
  have x2:Ext X.K b_ M1.length (upd H1 dx (.own a)) (lz b_ M1.length a) (M1.length+1) (upd (upd H1 dx (.own a)) a (.ins (ct kc) dx [])):=Ext.new ha'
  have r2:Rl X.K ct (lz b_ M1.length a) (M1++[MO.ins kc []]) (upd (upd H1 dx (.own a)) a (.ins (ct kc) dx [])):=r1.new ha' ⟨dx,[],aW,.nil⟩
  have e0:(lz b_ M1.length a) M1.length=a:=by unfold lz;rw[if_pos rfl]
  have dv0:DV X.K ct (lz b_ M1.length a) (M1++[MO.ins kc []]).length (upd (upd H1 dx (.own a)) a (.ins (ct kc) dx [])) (.ref M1.length) (.ref a):=by
   have:=DV.ref (K:=X.K) (ct:=ct) (ι:=lz b_ M1.length a) (n:=(M1++[MO.ins kc []]).length) (H:=upd (upd H1 dx (.own a)) a (.ins (ct kc) dx [])) (i:=M1.length) (by rw[el];omega)
   rw[e0]at this
   exact this
  refine⟨lz b_ M1.length a,_,M1++[.ins kc []],z,r2,.cons dv0 ?_,?_⟩
  ·rw[el];exact(q1.append hd.dv).mono (x1.trans x2)
  ·cases z2:fn (.ref M1.length::(ds++dv)) (M1++[.ins kc []])with
   | bad=>rw[z2]at p1;exact p1
   | exc xc xd xM=>
    rw[z2]at p1
    simp only[Out.jb]at p1
    have p2:=(p1.ext (x1.trans x2)).toE
    rw[el]
    exact fun vG dx3 v3 H3 x3 r3 q3 q4=>p2 vG dx3 v3 H3 x3 r3 q3 q4
   | ok r M2=>
    rw[z2]at p1
    simp only[Out.bK]at p1
    intro vG v3 H3 x3 r3 q3
    cases q3 with
    | non=>
     refine⟨rfl,?_⟩
     simp only[De,if_true]at p1
     refine p1 vG (.ref a) H3 ((x1.trans x2).trans (by rw[el]at x3;exact x3)) r3 (dv0.mono x3)
    | _=>exact False.elim p1
 ·rw[if_neg z]at p1
  exact p1.elim
theorem P0{ar:Nat}(Mk0:Mk X.K (ct kc) f)(F:bh X.prog X.w X.K X.mg X.base (ji X.prog X.w) k f fd ps (spS X.K ct fn ar))(hx:Tk X W)(hr:dJ (k+1) X.A)(hg:Gl X x)(hm:X.mg x=some (.ref (ct kc)))(hb:Binds X.K fd ps Om)(hd:ud dv qm Om)
  (ha:SA X ct W (a::es) ms) (hdb:(x==("__debug__" : Str))=false:=by decide) (he:starEach (a::es) X.env=(false,eval a X.env)::starEach es X.env:=by rfl) (hpl:(backTo pos (starEach es X.env)).any (·.1)=false:=by rfl) (har:ps.length=ar:=by rfl):SE X ct W (.Call (.Name x p) (a::es) [] pos) (yV kc fn ar dv ms):=by
 subst har
 exact cR (Mr Mk0 F hr hg hm hb hd.vals hx ha hdb he hpl) fun σ H Q q=>BX hd q
theorem Ld{ar:Nat}(Mk0:Mk X.K (ct kc) f)(F:bh X.prog X.w X.K X.mg X.base (ji X.prog X.w) k f fd ps (spS X.K ct fn ar))(hx:Tk X W)(hr:dJ (k+1) X.A)(hg:Gl X x)(hm:X.mg x=some (.ref (ct kc)))(hb:Binds X.K fd ps Om)(hd:ud dv qm Om)
  (hdb:(x==("__debug__" : Str))=false:=by decide) (har:ps.length=ar:=by rfl):SE X ct W (.Call (.Name x p) [] [] pos) (yV kc fn ar dv aL):=by
 subst har
 exact cR (Jp Mk0 F hr hg hm hb hd.vals hx hdb) fun σ H Q q=>by
  obtain⟨ι,e,M,w,p⟩:=BX hd q
  exact p ι [] H .refl w.rl .nil
abbrev Ec:=List D→Mem→Out D
def w6(op:Ec)(ms:MA):ME:=fun e M=>(ms e M).bind op
def mJ(X:Cx)(ct:Nat→Addr)(f:Value)(op:Ec):Prop:=∃r,kE X f r∧∀{w:XW} ι M H ds vs Q,Rl X.K ct ι M H→fK X.K ct ι M.length H ds vs→dY (b7 X.K ct) X.K ct w ι M.length H (op ds M) Q→r vs H Q
variable{id T:String}{op:Ec}
theorem S7{r:List V→Hp→VK→Prop}{σ:St}{H:Hp}{Q:VK}(hs:∀{w:XW} ι M H ds vs Q,Rl X.K ct ι M H→fK X.K ct ι M.length H ds vs→dY (b7 X.K ct) X.K ct w ι M.length H (op ds M) Q→r vs H Q)
  (h:tG (b7 X.K ct) X.K ct W (w6 op ms) σ H Q):tCB r (tG (vB X.K ct) X.K ct W ms) σ H Q:=by
 obtain⟨ι,e,M,w,p⟩:=bf (cB:=vB X.K ct) (f:=fun ds _ M1=>op ds M1) h
 exact⟨ι,e,M,w,p.mono fun vs H1 ⟨b_,e1,M1,ds,w1,q1,p1⟩=>hs b_ M1 H1 ds vs Q w1.rl q1 p1⟩
theorem bx(h:mJ X ct (.builtin id) op)(hg:Gl X x)(hm:X.mg x=none)(hv:bootBuiltins x=some (.builtin id))(ha:SA X ct W (a::es) ms)(hn:x≠ "__name__" := by decide)(hdb:(x==("__debug__" : Str))=false:=by decide)
  (he:starEach (a::es) X.env=(false,eval a X.env)::starEach es X.env:=by rfl) (hpl:(backTo pos (starEach es X.env)).any (·.1)=false:=by rfl):SE X ct W (.Call (.Name x p) (a::es) [] pos) (w6 op ms):=by
 obtain⟨r,hr,hs⟩:=h
 exact cR (Mt hr hg hm hv ha hn hdb he hpl) fun σ H Q q=>S7 hs q
end
section
variable{X:Cx}{ct:Nat→Addr}{W:aG}
theorem ie{K:Frag}{ι:Nat→Addr}{n:Nat}{H:Hp}{i:Int}{v:V}(h:DV K ct ι n H (.int i) v):v= .int i:=by cases h;rfl
theorem jd{K:Frag}{ι:Nat→Addr}{n:Nat}{H:Hp}{i:Str}{v:V}(h:DV K ct ι n H (.str i) v):v= .str i:=by cases h;rfl
theorem Gh{K:Frag}{ι:Nat→Addr}{n:Nat}{H:Hp}{ds:List D}{v:V}(h:DV K ct ι n H (.tup ds) v):∃a xs,v= .ref a∧jX K H a xs∧fK K ct ι n H ds xs:=by cases h with | tup a b=>exact⟨_,_,rfl,jX.of a,b⟩
theorem qp{K:Frag}{ι:Nat→Addr}{n:Nat}{H:Hp}{ds:List D}{v:V}(h:DV K ct ι n H (.tup ds) v):∃a xs,v= .ref a∧H a=some (.tup xs)∧fK K ct ι n H ds xs:=by cases h with | tup a b=>exact⟨_,_,rfl,a,b⟩
def jk(M:Mem)(n:Nat):Option (List D):=match M[n]? with
 | some (.lst ds)=>some ds
 | _=>none
theorem dN{M:Mem}{n:Nat}{ds:List D}(h:M[n]? = some (.lst ds)):jk M n=some ds:=by unfold jk;rw[h]
theorem gb{M:Mem}{n:Nat}{ds:List D}:jk M n=some ds↔M[n]? = some (.lst ds):=by
 refine⟨fun h=> ?_,dN⟩
 unfold jk at h
 split at h
 ·rename_i e;cases h;exact e
 ·cases h
def zQ(M:Mem)(d:D):Option (List D):=match d with
 | .ref n=>jk M n
 | .cl ds=>some ds
 | _=>none
theorem Rl.seq{K:Frag}{ι:Nat→Addr}{M:Mem}{H:Hp}(R:Rl K ct ι M H){d:D}{v:V}{ds:List D}(h:zQ M d=some ds)(q:DV K ct ι M.length H d v):∃a xs,v= .ref a∧mK K H a xs∧fK K ct ι M.length H ds xs:=by
 cases q with
 | @ref i hi=>obtain⟨vs,q,r⟩:=R.obj i _ (gb.mp h);exact⟨_,vs,rfl,mK.of q,r⟩
 | cl h1 h2=>cases h;exact⟨_,_,rfl,h1.sq,h2⟩
 | _=>cases h
def FZ(C:Int→Int→Bool)(g:Int→Int→D):jW:=fun d e M=>match d,e with
 | .int i,.int j=>if C i j=true then .ok (g i j) M else .bad
 | _,_=> .bad
theorem Hw{C:Int→Int→Bool}{P:Int→Int→Prop}{g:Int→Int→D}{gv:Int→Int→V}(hP:∀i j,C i j=true→P i j)(hg:∀(K:Frag) ι n H i j,DV K ct ι n H (g i j) (gv i j)):Bu X.K ct (FZ C g) (rI P gv):=by
 intro w ι M H d d' v v' Q R h h' p
 cases d with
 | int i=>
  cases d' with
  | int j=>
   cases ie h
   cases ie h'
   simp only[FZ]at p
   cases z:C i j with
   | false=>simp only[z,Bool.false_eq_true,if_false]at p;exact p.elim
   | true=>
    simp only[z,if_true]at p
    exact⟨i,j,rfl,rfl,hP i j z,p ι _ H .refl R (hg _ _ _ _ _ _)⟩
  | _=>exact p.elim
 | _=>cases d'<;>exact p.elim
def C1:Int→Int→Bool:=fun _ _=>true
theorem TY{g:Int→Int→V}{x y:V}{H:Hp}{Q:VK}(h:rI (fun _ _=>True) g x y H Q):Qm g x y H Q:=let⟨i,j,a,b,_,q⟩:=h;⟨i,j,a,b,q⟩
theorem Bu.imp{K:Frag}{op:jW}{r r':R2}(h:Bu K ct op r)(i:∀x y H Q,r x y H Q→r' x y H Q):Bu K ct op r':=fun ι M H d d' v v' Q R a b p=>i _ _ _ _ (h ι M H d d' v v' Q R a b p)
theorem p8{f:Value→Value→Sem Value}{g:Int→Int→D}{gv:Int→Int→V}(h:qe X f (Qm gv))(hg:∀(K:Frag) ι n H i j,DV K ct ι n H (g i j) (gv i j)):fu X ct f (FZ C1 g):=
 ⟨_,h,Bu.imp (Hw (P:=fun _ _=>True) (fun _ _ _=>trivial) hg) fun _ _ _ _ q=>TY q⟩
theorem t6{f:Value→Value→Sem Value}{C:Int→Int→Bool}{P:Int→Int→Prop}{g:Int→Int→D}{gv:Int→Int→V}(h:qe X f (rI P gv))(hP:∀i j,C i j=true→P i j)(hg:∀(K:Frag) ι n H i j,DV K ct ι n H (g i j) (gv i j)):fu X ct f (FZ C g):=
 ⟨_,h,Hw hP hg⟩
def pL(a b:jW):jW:=fun d e M=>match a d e M with
 | .bad=>b d e M
 | o=>o
theorem Bu.or{K:Frag}{a b:jW}{r r':R2}(ha:Bu K ct a r)(hb:Bu K ct b r'):Bu K ct (pL a b) (fun x y H Q=>r x y H Q∨r' x y H Q):=by
 intro w ι M H d d' v v' Q R q q' p
 unfold pL at p
 cases z:a d d' M with
 | ok x M1=>rw[z]at p;exact .inl (ha ι M H d d' v v' Q R q q' (by rw[z];exact p))
 | exc xc xd xM=>rw[z]at p;exact .inl (ha ι M H d d' v v' Q R q q' (by rw[z];exact p))
 | bad=>rw[z]at p;exact .inr (hb ι M H d d' v v' Q R q q' p)
theorem jr{a b:jW}{d e x:D}{M M':Mem}(h:a d e M= .ok x M'):pL a b d e M= .ok x M':=by unfold pL;rw[h]
theorem wQ{a b:jW}{d e:D}{M:Mem}(h:a d e M= .bad):pL a b d e M=b d e M:=by unfold pL;rw[h]
theorem fu.or{f:Value→Value→Sem Value}{a b:jW}(ha:fu X ct f a)(hb:fu X ct f b):fu X ct f (pL a b):=by
 obtain⟨r,h,hs⟩:=ha
 obtain⟨r',h',hs'⟩:=hb
 refine⟨_,h.or h',fun ι M H d d' v v' Q R q q' p=> ?_⟩
 unfold pL at p
 cases z:a d d' M with
 | ok x M1=>rw[z]at p;exact .inl (hs ι M H d d' v v' Q R q q' (by rw[z];exact p))
 | exc xc xd xM=>rw[z]at p;exact .inl (hs ι M H d d' v v' Q R q q' (by rw[z];exact p))
 | bad=>rw[z]at p;exact .inr (hs' ι M H d d' v v' Q R q q' p)
def V4(i j:Int):Bool:=decide ((-(2 ^ 64)<i∧i<2 ^ 64)∨(-(2 ^ 64)<j∧j<2 ^ 64))
def V5(_ j:Int):Bool:=decide (0<j∧j<1073741824)
def Zv(_ j:Int):Bool:=decide (0<j)
def V3(i j:Int):Bool:=decide (0≤j∧j≤1000000∧i.natAbs<2 ^ 64)
def Zu(_ j:Int):Bool:=decide (0≤j)
def Sd:jW:=FZ C1 fun i j=> .int (i+j)
def Li:jW:=FZ V4 fun i j=> .int (i*j)
def rF:jW:=FZ V5 fun i j=> .int (i / j)
def cX:jW:=FZ Zv fun i j=> .int (i % j)
def Jj:jW:=FZ V3 fun i j=> .int (i*2 ^ j.toNat)
def wB:jW:=FZ Zu fun i j=> .int (i / 2 ^ j.toNat)
def sW:jW:=FZ C1 fun i j=> .int (Builtin.bitAnd i j)
def Xo:jW:=FZ C1 fun i j=> .bl (decide (i<j))
def Lp:jW:=FZ C1 fun i j=> .bl (decide (j<i))
def Qh:jW:=FZ C1 fun i j=> .bl (decide (j≤i))
theorem RN:fu X ct (binaryOp .Add) Sd:=p8 U3 fun _ _ _ _ _ _=> .int _
theorem RK:fu X ct (binaryOp .Mult) Li:=t6 Uz (fun i j h=>by unfold V4 at h;exact(decide_eq_true_eq.mp h :)) fun _ _ _ _ _ _=> .int _
theorem xX:fu X ct (binaryOp .FloorDiv) rF:=t6 QM (fun i j h=>by unfold V5 at h;exact(decide_eq_true_eq.mp h :)) fun _ _ _ _ _ _=> .int _
theorem dD:fu X ct (binaryOp .Mod) cX:=t6 UG (fun _ _ h=>of_decide_eq_true h) fun _ _ _ _ _ _=> .int _
theorem VR:fu X ct (binaryOp .LShift) Jj:=t6 Ux (fun i j h=>by unfold V3 at h;exact(decide_eq_true_eq.mp h :)) fun _ _ _ _ _ _=> .int _
theorem Ow:fu X ct (binaryOp .RShift) wB:=t6 Uw (fun _ _ h=>of_decide_eq_true h) fun _ _ _ _ _ _=> .int _
theorem xY:fu X ct (binaryOp .BitAnd) sW:=p8 U0 fun _ _ _ _ _ _=> .int _
theorem Zr:fu X ct (compareOp .Lt) Xo:=p8 Yh fun _ _ _ _ _ _=> .bl _
theorem Oz:fu X ct (compareOp .Gt) Lp:=p8 Yi fun _ _ _ _ _ _=> .bl _
theorem Sy:fu X ct (compareOp .GtE) Qh:=p8 Yj fun _ _ _ _ _ _=> .bl _
def Qi:jW:=fun d e M=>match d,e with
 | .ref n,.ref m=>match M[n]?,M[m]? with
  | some (.lst xs),some (.lst ys)=>if xs.length+ys.length≤sizeLine then .ok (.ref M.length) (M++[.lst (xs++ys)])else .bad
  | _,_=> .bad
 | _,_=> .bad
theorem V1:fu X ct (binaryOp .Add) Qi:=by
 refine⟨_,UW,fun ι M H d d' v v' Q R h h' p=> ?_⟩
 cases d with
 | ref n=>
  cases d' with
  | ref m=>
   obtain⟨_,rfl⟩:=je h
   obtain⟨_,rfl⟩:=je h'
   simp only[Qi]at p
   split at p
   ·rename_i xs ys e1 e2
    split at p
    ·rename_i hz
     obtain⟨vs,q,r⟩:=R.obj n _ e1
     obtain⟨vs',q',r'⟩:=R.obj m _ e2
     exact⟨_,_,vs,vs',rfl,rfl,q,q',by rw[r.length,r'.length];exact hz,fun pp hp=>pK R (r.append r') hp p⟩
    ·exact p.elim
   ·exact p.elim
  | _=>exact p.elim
 | _=>cases d'<;>exact p.elim
def Ho:jW:=fun d e M=>match d,e with
 | .str a,.str b=>if a.length+b.length≤sizeLine then .ok (.str (a++b)) M else .bad
 | _,_=> .bad
theorem RM:fu X ct (binaryOp .Add) Ho:=by
 refine⟨_,Ff,fun ι M H d d' v v' Q R h h' p=> ?_⟩
 unfold Ho at p
 split at p
 ·cases jd h
  cases jd h'
  split at p
  ·rename_i hz
   exact⟨_,_,rfl,rfl,hz,p ι _ H .refl R (.str _)⟩
  ·exact p.elim
 ·exact p.elim
def Lh:jW:=fun d e M=>match d,e with
 | .str a,.int n=>if a.length≤1000∧ -(2 ^ 62)<n∧n≤1000 then .ok (.str (PySem.Txt.mul a n)) M else .bad
 | _,_=> .bad
theorem RJ:fu X ct (binaryOp .Mult) Lh:=by
 refine⟨_,Fe,fun ι M H d d' v v' Q R h h' p=> ?_⟩
 unfold Lh at p
 split at p
 ·cases jd h
  cases ie h'
  split at p
  ·rename_i hz
   exact⟨_,_,rfl,rfl,mulOk_of hz.1 hz.2.1 hz.2.2,p ι _ H .refl R (.str _)⟩
  ·exact p.elim
 ·exact p.elim
def yj:jW:=pL Li Lh
theorem xW:fu X ct (binaryOp .Mult) yj:=RK.or RJ
def Ls:jW:=fun d e M=>match d,e with
 | .tup xs,.tup ys=>if xs.isEmpty=false∧xs.length+ys.length≤sizeLine then .ok (.tup (xs++ys)) M else .bad
 | _,_=> .bad
theorem RL:fu X ct (binaryOp .Add) Ls:=by
 refine⟨_,QS,fun ι M H d d' v v' Q R h h' p=> ?_⟩
 unfold Ls at p
 split at p
 ·rename_i xs ys
  obtain⟨a,vs,rfl,ha,hd⟩:=qp h
  obtain⟨b,us,rfl,hb,hd'⟩:=qp h'
  split at p
  ·rename_i hz
   have l1:=hd.length
   have l2:=hd'.length
   refine⟨a,b,vs,us,rfl,rfl,jX.of ha,jX.of hb,fun z=> ?_,by omega,fun z=> ?_,fun _ pp hp=>wK R (hd.append hd') hp p⟩
   ·rw[z]at l1
    have:=hz.1
    cases xs with
    | nil=>cases this
    | cons _ _=>simp at l1
   ·subst z
    have e:ys=[]:=List.length_eq_zero_iff.mp l2.symm
    subst e
    rw[List.append_nil]at p
    exact p ι _ H .refl R (.tup ha hd)
  ·exact p.elim
 ·exact p.elim
def rG:jW:=pL (pL Sd Qi) (pL Ho Ls)
theorem oh:fu X ct (binaryOp .Add) rG:=(RN.or V1).or (RM.or RL)
def Tu:jW:=fun d e M=>match d,e with
 | .str a,.str b=> .ok (.bl (decide (a.cps.toList<b.cps.toList))) M
 | _,_=> .bad
theorem V0:fu X ct (compareOp .Lt) Tu:=by
 refine⟨_,Jr,fun ι M H d d' v v' Q R h h' p=> ?_⟩
 unfold Tu at p
 split at p
 ·cases jd h
  cases jd h'
  exact⟨_,_,rfl,rfl,p ι _ H .refl R (.bl _)⟩
 ·exact p.elim
def kI:List D→Option (List Int)
 | []=>some []
 | .int i::r=>(kI r).map (i:: ·)
 | _=>none
theorem ug{K:Frag}{ι:Nat→Addr}{n:Nat}{H:Hp}:∀{ds:List D} {is:List Int} {vs:List V},kI ds=some is→fK K ct ι n H ds vs→vs=is.map V.int
 | [],_,_,h,.nil=>by cases h;rfl
 | d::r,is,_,h,.cons q qs=>by
  cases q with
  | int i=>
   simp only[kI]at h
   obtain⟨js,h1,rfl⟩:=Option.map_eq_some_iff.mp h
   rw[ug h1 qs]
   rfl
  | _=>simp only[kI]at h;cases h
def Tt:jW:=fun d e M=>match d,e with
 | .tup xs,.tup ys=>match kI xs,kI ys with
  | some is,some js=> .ok (.bl (HT.lexLt is js)) M
  | _,_=> .bad
 | _,_=> .bad
theorem VV(hu:X.A.units+64<cLine):fu X ct (compareOp .Lt) Tt:=by
 refine⟨_,UJ (by omega),fun ι M H d d' v v' Q R h h' p=> ?_⟩
 unfold Tt at p
 split at p
 ·obtain⟨a,vs,rfl,ha,hd⟩:=qp h
  obtain⟨b,us,rfl,hb,hd'⟩:=qp h'
  split at p
  ·rename_i is js e1 e2
   have x1:=ug e1 hd
   have x2:=ug e2 hd'
   subst x1 x2
   exact⟨a,b,is,js,rfl,rfl,jX.of ha,jX.of hb,p ι _ H .refl R (.bl _)⟩
  ·exact p.elim
 ·exact p.elim
def Z4:jW:=pL (pL Xo Tu) Tt
theorem Ox(hu:X.A.units+64<cLine):fu X ct (compareOp .Lt) Z4:=(Zr.or V0).or (VV hu)
def Tr:D→Mem→Out D:=fun d M=>match d with
 | .int i=> .ok (.int (-i)) M
 | _=> .bad
theorem S5:UnS X ct (unaryOp .USub) Tr:=⟨_,S6,fun ι M H d v Q R h p=>by
 cases d with
 | int i=>cases ie h;exact⟨i,rfl,p ι _ H .refl R (.int _)⟩
 | _=>exact p.elim⟩
def yx(f:D→Option Dt):List D→Option (List Dt)
 | []=>some []
 | d::ds=>match f d,yx f ds with
  | some t,some ts=>some (t::ts)
  | _,_=>none
def iI(M:Mem):Nat→D→Option Dt
 | 0,_=>none
 | k+1,d=>match d with
  | .non=>some .non
  | .bl b=>some (.bl b)
  | .int i=>some (.int i)
  | .str x=>some (.str x)
  | .tup ds=>(yx (iI M k) ds).map .tup
  | .ref n=>match jk M n with
   | some ds=>(yx (iI M k) ds).map .lst
   | none=>none
  | .cl ds=>(yx (iI M k) ds).map .lst
  | .ty _=>none
  | .cls _=>none
  | .exc _ _=>none
  | .kj _=>none
theorem vN{K:Frag}{ι:Nat→Addr}{n:Nat}{H:Hp}{k:Nat}{f:D→Option Dt}(hf:∀d t v,f d=some t→DV K ct ι n H d v→Is K H v t∧dep t≤k):
  ∀{ds:List D} {ts:List Dt} {vs:List V},yx f ds=some ts→fK K ct ι n H ds vs→Br K H vs ts∧deps ts≤k
 | [],ts,_,h,.nil=>by cases h;exact⟨.nil,by unfold deps;exact Nat.zero_le _⟩
 | d::ds,ts,_,h,.cons q qs=>by
  simp only[yx]at h
  cases z:f d with
  | none=>rw[z]at h;cases h
  | some t=>
   cases z2:yx f ds with
   | none=>rw[z,z2]at h;cases h
   | some ts'=>
    rw[z,z2]at h
    cases h
    obtain⟨a,b⟩:=hf d t _ z q
    obtain⟨a',b'⟩:=vN hf z2 qs
    exact⟨.cons a a',by unfold deps;exact Nat.max_le.mpr ⟨b,b'⟩⟩
theorem sI{K:Frag}{ι:Nat→Addr}{M:Mem}{H:Hp}(R:Rl K ct ι M H):∀(k:Nat) (d:D) (t:Dt) (v:V),iI M k d=some t→DV K ct ι M.length H d v→Is K H v t∧dep t≤k
 | 0,d,t,v,h,_=>by simp only[iI]at h;cases h
 | k+1,d,t,v,h,q=>by
  cases q with
  | non=>simp only[iI]at h;cases h;exact⟨.non,by unfold dep;exact Nat.zero_le _⟩
  | bl b=>simp only[iI]at h;cases h;exact⟨.bl b,by unfold dep;exact Nat.zero_le _⟩
  | int b=>simp only[iI]at h;cases h;exact⟨.int b,by unfold dep;exact Nat.zero_le _⟩
  | str b=>simp only[iI]at h;cases h;exact⟨.str b,by unfold dep;exact Nat.zero_le _⟩
  | ty b=>simp only[iI]at h;cases h
  | cls b=>simp only[iI]at h;cases h
  | exc _ _ _=>simp only[iI]at h;cases h
  | kj _ _=>simp only[iI]at h;cases h
  | @tup a xs ds hs hd=>
   simp only[iI]at h
   cases z:yx (iI M k) ds with
   | none=>rw[z]at h;cases h
   | some ts=>
    rw[z]at h
    cases h
    obtain⟨a,b⟩:=vN (fun d t v=>sI R k d t v) z hd
    exact⟨.tup (jX.of hs) a,by unfold dep;omega⟩
  | @ref i hi=>
   simp only[iI]at h
   cases z0:jk M i with
   | none=>rw[z0]at h;cases h
   | some ds=>
    rw[z0]at h
    obtain⟨xs,hs,hd⟩:=R.obj i _ (gb.mp z0)
    cases z:yx (iI M k) ds with
    | none=>simp only[z]at h;cases h
    | some ts=>
     simp only[z]at h
     cases h
     obtain⟨a,b⟩:=vN (fun d t v=>sI R k d t v) z hd
     exact⟨.lst (mK.of hs) a,by unfold dep;omega⟩
  | @cl a xs ds hs hd=>
   simp only[iI]at h
   cases z:yx (iI M k) ds with
   | none=>rw[z]at h;cases h
   | some ts=>
    rw[z]at h
    cases h
    obtain⟨a,b⟩:=vN (fun d t v=>sI R k d t v) z hd
    exact⟨.lst hs.sq a,by unfold dep;omega⟩
def Ih(M:Mem)(d e:D):Option Bool:=match iI M 12 d,iI M 12 e with
 | some a,some b=>some (aV a b)
 | _,_=>none
def sEq:jW:=fun d e M=>match Ih M d e with
 | some b=> .ok (.bl b) M
 | none=> .bad
def sNe:jW:=fun d e M=>match Ih M d e with
 | some b=> .ok (.bl (!b)) M
 | none=> .bad
theorem Oj{K:Frag}{ι:Nat→Addr}{M:Mem}{H:Hp}{d e:D}{v u:V}{b:Bool}(R:Rl K ct ι M H)(h:Ih M d e=some b)(q:DV K ct ι M.length H d v)(q':DV K ct ι M.length H e u):∃x y,Is K H v x∧Is K H u y∧dep x≤20∧b=aV x y:=by
 unfold Ih at h
 cases z:iI M 12 d with
 | none=>rw[z]at h;cases h
 | some x=>
  cases z2:iI M 12 e with
  | none=>rw[z,z2]at h;cases h
  | some y=>
   rw[z,z2]at h
   cases h
   obtain⟨a,c⟩:=sI R 12 d x v z q
   obtain⟨a',_⟩:=sI R 12 e y u z2 q'
   exact⟨x,y,a,a',by omega,rfl⟩
theorem jm(hu:X.A.units+64<cLine):fu X ct (compareOp .Eq) sEq:=by
 refine⟨_,UT hu,fun ι M H d d' v v' Q R h h' p=> ?_⟩
 unfold sEq at p
 cases z:Ih M d d' with
 | none=>rw[z]at p;exact p.elim
 | some b=>
  rw[z]at p
  obtain⟨x,y,a,a',hd,rfl⟩:=Oj R z h h'
  exact⟨x,y,a,a',hd,p ι _ H .refl R (.bl _)⟩
theorem Sx(hu:X.A.units+64<cLine):fu X ct (compareOp .NotEq) sNe:=by
 refine⟨_,Uy hu,fun ι M H d d' v v' Q R h h' p=> ?_⟩
 unfold sNe at p
 cases z:Ih M d d' with
 | none=>rw[z]at p;exact p.elim
 | some b=>
  rw[z]at p
  obtain⟨x,y,a,a',hd,rfl⟩:=Oj R z h h'
  exact⟨x,y,a,a',hd,p ι _ H .refl R (.bl _)⟩
def Rh(d:D):Bool:=match d with
 | .non=>true
 | _=>false
theorem Nz{K:Frag}{ι:Nat→Addr}{n:Nat}{H:Hp}{d:D}{v:V}(q:DV K ct ι n H d v):decide (v= .non)=Rh d:=by
 cases q<;>simp[Rh]
def sIs:jW:=fun d e M=>match e with
 | .non=> .ok (.bl (Rh d)) M
 | _=> .bad
def zZ:jW:=fun d e M=>match e with
 | .non=> .ok (.bl (!Rh d)) M
 | _=> .bad
theorem Zt:fu X ct (compareOp .Is) sIs:=by
 refine⟨_,UL,fun ι M H d d' v v' Q R h h' p=> ?_⟩
 cases h' with
 | non=>exact⟨rfl,p ι _ H .refl R (by rw[Nz h];exact .bl _)⟩
 | _=>exact p.elim
theorem DK:fu X ct (compareOp .IsNot) zZ:=by
 refine⟨_,QL,fun ι M H d d' v v' Q R h h' p=> ?_⟩
 cases h' with
 | non=>exact⟨rfl,p ι _ H .refl R (by rw[Nz h];exact .bl _)⟩
 | _=>exact p.elim
theorem fK.Bm{K:Frag}{ι:Nat→Addr}{n:Nat}{H:Hp}{ds:List D}{vs:List V}{i:Int}{d:D}(h:fK K ct ι n H ds vs)(e:L2.Bm ds i=some d):∃v,L2.Bm vs i=some v∧DV K ct ι n H d v:=by
 unfold L2.Bm at*
 rw[h.length]
 cases z:O8 ds.length i with
 | none=>rw[z]at e;cases e
 | some j=>rw[z]at e;exact h.at e
variable{a b:Expr}{ma mb:ME}{pos:Pos}
section
variable{κ:Type}[DecidableEq κ]
def yc(kvs:List (κ×D))(k:κ):Option D:=(kvs.find? fun kv=>decide (kv.1=k)).map (·.2)
variable{K:Frag}{ι:Nat→Addr}{n:Nat}{H:Hp}
theorem IW.val:∀{kvs:List (κ×D)} {vs:List (κ×V)},IW K ct ι n H kvs vs→∀k,(∀d,yc kvs k=some d→∃v,rA vs k=some v∧DV K ct ι n H d v)∧(yc kvs k=none→rA vs k=none)
 | _,_,.nil,k=>⟨fun d h=>by simp[yc]at h,fun _=>rfl⟩
 | _,_,.cons (x:=x) (d:=d) (v:=v) (fs:=fs) h hs,k=>by
  by_cases e:x=k
  ·have e1:yc ((x,d)::fs) k=some d:=by simp[yc,e]
   rw[e1,vW (p:=(x,v)) e]
   exact⟨fun d' q=>by cases q;exact⟨_,rfl,h⟩,fun q=>by cases q⟩
  ·have e1:yc ((x,d)::fs) k=yc fs k:=by simp[yc,e]
   rw[e1,vX (p:=(x,v)) e]
   exact hs.val k
theorem IW.any:∀{kvs:List (κ×D)} {vs:List (κ×V)},IW K ct ι n H kvs vs→∀k,(vs.any fun kv=>decide (kv.1=k))=(kvs.any fun kv=>decide (kv.1=k))
 | _,_,.nil,_=>rfl
 | _,_,.cons _ hs,k=>by simp only[List.any_cons,hs.any k]
end
def toKey:D→Option Key
 | .int i=>some (.inl i)
 | .str s=>some (.inr s)
 | _=>none
def toKeys:List D→Option (List Key)
 | []=>some []
 | d::r=>match toKey d,toKeys r with
  | some k,some ks=>some (k::ks)
  | _,_=>none
section
variable{K:Frag}{ι:Nat→Addr}{n:Nat}{H:Hp}
theorem BR{d:D}{k:Key}{v:V}(h:toKey d=some k)(q:DV K ct ι n H d v):v=kV k:=by
 cases q<;>simp only[toKey]at h<;>cases h<;>rfl
theorem uf:∀{ds:List D} {ks:List Key} {vs:List V},toKeys ds=some ks→fK K ct ι n H ds vs→vs=ks.map kV
 | [],ks,_,h,.nil=>by cases h;rfl
 | d::r,ks,_,h,.cons q qs=>by
  simp only[toKeys]at h
  cases z:toKey d with
  | none=>rw[z]at h;cases h
  | some k=>
   cases z2:toKeys r with
   | none=>rw[z,z2]at h;cases h
   | some kr=>
    rw[z,z2]at h
    cases h
    rw[BR z q,uf z2 qs]
    rfl
end
def J2(M:Mem)(n:Nat)(y:D):Option (Option D×Mem):=match M[n]? with
 | some (.dk kvs)=>match toKey y with
  | some k=>some (yc kvs k,M)
  | none=>match y with
   | .tup ds=>match toKeys ds with
    | some _=>if kvs.isEmpty=true then some (none,M.set n (.dt []))else none
    | none=>none
   | _=>none
 | some (.dt kvs)=>match y with
  | .tup ds=>match toKeys ds with
   | some k=>some (yc kvs k,M)
   | none=>none
  | _=>none
 | _=>none
theorem Ik{K:Frag}{ι:Nat→Addr}{M M':Mem}{H:Hp}{n:Nat}{y:D}{vy:V}{o:Option D}(R:Rl K ct ι M H)(h:J2 M n y=some (o,M'))(hn:n<M.length)(q:DV K ct ι M.length H y vy):
  ∃ov H',RZ H (ι n) vy ov H'∧Ext K ι M.length H ι M'.length H'∧Rl K ct ι M' H'∧(∀d,o=some d→∃v,ov=some v∧DV K ct ι M'.length H' d v∧H'=H∧M'=M)∧(o=none→ov=none):=by
 unfold J2 at h
 split at h
 ·rename_i kvs e
  obtain⟨vs,hH,pv⟩:=R.obj n _ e
  split at h
  ·rename_i k ek
   cases h
   have ey:=BR ek q
   subst ey
   refine⟨rA vs k,H,.inl ⟨vD.k hH,rfl⟩,.refl,R,fun d hd=> ?_,fun hd=>(pv.val k).2 hd⟩
   obtain⟨v,h1,h2⟩:=(pv.val k).1 d hd
   exact⟨v,h1,h2,rfl,rfl⟩
  ·split at h
   ·rename_i ds
    split at h
    ·rename_i ks eks
     split at h
     ·rename_i hem
      cases h
      have ek:kvs=[]:=List.isEmpty_iff.mp hem
      subst ek
      cases pv
      obtain⟨b,xs,rfl,hb,hd⟩:=qp q
      have ex:=uf eks hd
      subst ex
      have x2:Ext K ι M.length H ι M.length (upd H (ι n) (.dT [])):=Ext.chg hH (fun _ z=>nomatch z) (fun _ _ z=>nomatch z)
      refine⟨none,upd H (ι n) (.dT []),.inr ⟨hH,⟨ks,b,rfl,hb⟩,rfl,rfl⟩,by rw[List.length_set];exact x2,R.chg hn hH (fun _ z=>nomatch z) (fun _ _ z=>nomatch z) ⟨[],aW,.nil⟩,(fun d hd=>nomatch hd),fun _=>rfl⟩
     ·cases h
    ·cases h
   ·cases h
 ·rename_i kvs e
  obtain⟨vs,hH,pv⟩:=R.obj n _ e
  split at h
  ·rename_i ds
   split at h
   ·rename_i ks eks
    cases h
    obtain⟨b,xs,rfl,hb,hd⟩:=qp q
    have ex:=uf eks hd
    subst ex
    refine⟨rA vs ks,H,.inl ⟨vD.t hH hb,rfl⟩,.refl,R,fun d hd=> ?_,fun hd=>(pv.val ks).2 hd⟩
    obtain⟨v,h1,h2⟩:=(pv.val ks).1 d hd
    exact⟨v,h1,h2,rfl,rfl⟩
   ·cases h
  ·cases h
 ·cases h
def TF:jW:=fun d y M=>match d with
 | .ref n=>match J2 M n y with
  | some (some v,_)=> .ok v M
  | _=> .bad
 | _=> .bad
theorem Ut{K:Frag}:Bu K ct TF XM:=by
 intro w ι M H d d' v v' Q R h h' p
 cases d with
 | ref n=>
  obtain⟨hn,rfl⟩:=je h
  simp only[TF]at p
  split at p
  ·rename_i x M' e
   obtain⟨ov,H',g,_,_,h1,_⟩:=Ik R e hn h'
   obtain⟨vx,rfl,dv,rfl,rfl⟩:=h1 x rfl
   rcases g with⟨g,_⟩ | ⟨_,_,z,_⟩
   ·exact⟨_,vx,rfl,g,p ι vx _ .refl R dv⟩
   ·cases z
  ·exact p.elim
 | _=>exact p.elim
def Ez:jW:=fun d e M=>match e with
 | .int i=>match d with
  | .tup ds=>match L2.Bm ds i with
   | some x=> .ok x M
   | none=> .bad
  | d=>match zQ M d with
   | some ds=>match L2.Bm ds i with
    | some x=> .ok x M
    | none=> .bad
   | none=> .bad
 | _=> .bad
theorem Us:Bu X.K ct Ez (fun x y H Q=>XJ X.K x y H Q∨XF X.K x y H Q):=by
 intro w ι M H d d' v v' Q R h h' p
 cases d' with
 | int i=>
  cases ie h'
  cases d with
  | tup ds=>
   obtain⟨aa,xs,rfl,hs,hd⟩:=Gh h
   simp only[Ez]at p
   cases z:L2.Bm ds i with
   | none=>rw[z]at p;exact p.elim
   | some x=>
    rw[z]at p
    obtain⟨v,e,dv⟩:=hd.Bm z
    exact .inr ⟨_,_,_,_,rfl,rfl,hs,e,p ι v H .refl R dv⟩
  | _=>
   simp only[Ez]at p
   split at p
   ·rename_i ds z0
    obtain⟨aa,xs,rfl,hs,hd⟩:=R.seq z0 h
    cases z:L2.Bm ds i with
    | none=>rw[z]at p;exact p.elim
    | some x=>
     rw[z]at p
     obtain⟨v,e,dv⟩:=hd.Bm z
     exact .inl ⟨_,_,_,_,rfl,rfl,hs,e,p ι v H .refl R dv⟩
   ·exact p.elim
 | _=>exact p.elim
def Tz:jW:=fun d e M=>match d,e with
 | .str z,.int i=>match L2.Bm z.cps.toList i with
  | some c=>if z.length≤sizeLine then .ok (.str ⟨#[c]⟩) M else .bad
  | none=> .bad
 | _,_=> .bad
theorem Ur{K:Frag}:Bu K ct Tz XH:=by
 intro w ι M H d d' v v' Q R h h' p
 unfold Tz at p
 split at p
 ·rename_i z i
  cases jd h
  cases ie h'
  cases e:L2.Bm z.cps.toList i with
  | none=>rw[e]at p;exact p.elim
  | some c=>
   rw[e]at p
   dsimp only at p
   split at p
   ·rename_i hz
    exact⟨z,i,c,rfl,rfl,hz,e,p ι _ H .refl R (.str _)⟩
   ·exact p.elim
 ·exact p.elim
def aZ:jW:=pL (pL Ez TF) Tz
theorem bu(hu:X.A.units+64<cLine)(ha:SE X ct W a ma)(hb:SE X ct W b mb)(hs:IV b:=by exact fun _ _=>rfl):SE X ct W (.Subscript a b pos) (aB aZ ma mb):=
 cR (Yd (((Rf.or Vn).or (Rg (by omega))).or Vo) ha hb hs) fun σ H Q q=>zH (Bu.or (Bu.or Us Ut) Ur) q
def Jk(neg:Bool):jW:=fun y x M=>match x with
 | .ref n=>match J2 M n y with
  | some (o,M')=> .ok (.bl (if neg=true then !o.isSome else o.isSome)) M'
  | none=> .bad
 | _=> .bad
theorem Uv{K:Frag}{neg:Bool}:Bu K ct (Jk neg) (XN neg):=by
 intro w ι M H d d' v v' Q R h h' p
 cases d' with
 | ref n=>
  obtain⟨hn,rfl⟩:=je h'
  simp only[Jk]at p
  cases e:J2 M n d with
  | none=>rw[e]at p;exact p.elim
  | some oM=>
   obtain⟨o,M'⟩:=oM
   rw[e]at p
   obtain⟨ov,H',g,x,R',h1,h2⟩:=Ik R e hn h
   have es:ov.isSome=o.isSome:=by
    cases o with
    | none=>rw[h2 rfl];rfl
    | some d=>obtain⟨v,rfl,_⟩:=h1 d rfl;rfl
   exact⟨_,ov,H',rfl,g,by rw[es];exact p ι _ H' x R' (.bl _)⟩
 | _=>cases d<;>exact p.elim
def Jd:D→Option V
 | .non=>some .non
 | .bl b=>some (.bl b)
 | .int i=>some (.int i)
 | .str s=>some (.str s)
 | _=>none
def Er:List D→Option (List V)
 | []=>some []
 | d::r=>match Jd d,Er r with
  | some v,some vs=>some (v::vs)
  | _,_=>none
theorem GR{K:Frag}{ι:Nat→Addr}{n:Nat}{H:Hp}{d:D}{u v:V}(h:Jd d=some u)(q:DV K ct ι n H d v):v=u∧qN u=true:=by
 cases q<;>simp only[Jd]at h<;>cases h<;>exact⟨rfl,rfl⟩
theorem GQ{K:Frag}{ι:Nat→Addr}{n:Nat}{H:Hp}:∀{ds:List D} {us vs:List V},Er ds=some us→fK K ct ι n H ds vs→vs=us∧us.all qN=true
 | [],_,_,h,.nil=>by cases h;exact⟨rfl,rfl⟩
 | d::r,us,_,h,.cons q qs=>by
  simp only[Er]at h
  cases z:Jd d with
  | none=>rw[z]at h;cases h
  | some u=>
   cases z2:Er r with
   | none=>rw[z,z2]at h;cases h
   | some ur=>
    rw[z,z2]at h
    cases h
    obtain⟨rfl,f1⟩:=GR z q
    obtain⟨rfl,f2⟩:=GQ z2 qs
    exact⟨rfl,by simp[f1,f2]⟩
theorem J8(hu:X.A.units+64<cLine):fu X ct (compareOp .NotIn) (Jk true):=⟨_,Js (by omega),Uv⟩
def cut{α:Type}(xs:List α)(lo hi:Option Int):List α:=(xs.drop (HT.aZ xs.length 0 lo)).take (HT.aZ xs.length xs.length hi - HT.aZ xs.length 0 lo)
theorem fK.cut{K:Frag}{ι:Nat→Addr}{n:Nat}{H:Hp}{ds:List D}{vs:List V}(h:fK K ct ι n H ds vs)(lo hi:Option Int):fK K ct ι n H (S.cut ds lo hi) (Dr vs lo hi):=by
 unfold S.cut Dr
 rw[h.length]
 exact(h.drop _).take _
abbrev Wt:=Sl→Mem→Out (Option Int)
def abr:(Nat→Addr)→Mem→Hp→Option Int→Option Int→Prop:=fun _ _ _ a b=>a=b
def SO(X:Cx)(ct:Nat→Addr)(W:aG)(e:Option Expr)(m:Wt):Prop:=PO X e (tG abr X.K ct W m)
def asI(d:D)(M:Mem):Out (Option Int):=match d with
 | .int i=> .ok (some i) M
 | _=> .bad
def vP:Wt:=fun _ M=> .ok none M
def HH(m:ME):Wt:=fun e M=>(m e M).bind asI
theorem G8:SO X ct W none vP:=fun pins s σ H Q I ⟨ι,e,M,w,p⟩=>QC pins s σ H Q I (p ι none H .refl w.rl rfl)
theorem G7(h:SE X ct W a ma):SO X ct W (some a) (HH ma):=fun pins s σ H Q I q=>QB h pins s σ H Q I (by
 obtain⟨ι,e,M,w,p⟩:=bf (cB:=b7 X.K ct) (f:=fun d _ M1=>asI d M1) q
 refine⟨ι,e,M,w,p.mono fun v H1 ⟨b_,e1,M1,d,w1,q1,p1⟩=> ?_⟩
 cases q1 with
 | int i=>exact⟨i,rfl,p1 b_ _ H1 .refl w1.rl rfl⟩
 | _=>exact p1.elim)
def Ke(d:D)(lo hi:Option Int)(M:Mem):Out D:=match d with
 | .tup ds=>if HT.aZ ds.length 0 lo=0∧HT.aZ ds.length ds.length hi=ds.length then .bad else .ok (.tup (cut ds lo hi)) M
 | .str u=>if u.length≤sizeLine then .ok (.str (Txt.slice u lo hi)) M else .bad
 | d=>match zQ M d with
  | some ds=> .ok (.ref M.length) (M++[.lst (cut ds lo hi)])
  | none=> .bad
def mSl(m:ME)(lo hi:Wt):ME:=fun e M=>(m e M).bind fun d M1=>(lo e M1).bind fun l M2=>(hi e M2).bind fun h M3=>Ke d l h M3
theorem R9{lo hi:Option Expr}{ml mh:Wt}{p2:Pos}(ha:SE X ct W a ma)(hl:SO X ct W lo ml)(hh:SO X ct W hi mh):SE X ct W (.Subscript a (.Slice lo hi none p2) pos) (mSl ma ml mh):=by
 refine cR (Mp ((PJ.or Tf).or Th) ha hl hh) fun σ H Q q=> ?_
 obtain⟨ι,e,M,w,p⟩:=bf (cB:=b7 X.K ct) (f:=fun d e M1=>(ml e M1).bind fun l M2=>(mh e M2).bind fun h M3=>Ke d l h M3) q
 refine⟨ι,e,M,w,p.mono fun v H1 ⟨b_,e1,M1,d,w1,q1,p1⟩=> ?_⟩
 refine⟨b_,e1,M1,w1,?_⟩
 cases z:ml e1 M1 with
 | bad=>simp only[z,Out.eF]at p1;exact p1
 | exc xc xd xM=>simp only[z,Out.jb]at p1;exact p1
 | ok l M2=>
  simp only[z,Out.bK]at p1
  intro fL l' H2 x2 r2 el
  have JV:l=l':=el;subst JV
  refine⟨fL,e1,M2,w1.ext x2 r2,?_⟩
  have p2:=p1.ext x2
  cases z2:mh e1 M2 with
  | bad=>simp only[z2,Out.eF]at p2;exact p2
  | exc xc xd xM=>simp only[z2,Out.jb]at p2;exact p2
  | ok h M3=>
   simp only[z2,Out.bK]at p2
   intro vG h' H3 x3 r3 eh
   have JV:h=h':=eh;subst JV
   have p3:=p2.ext x3
   have q3:=(q1.mono x2).mono x3
   cases d with
   | tup ds=>
    obtain⟨aa,xs,rfl,hs,hd⟩:=Gh q3
    simp only[Ke]at p3
    split at p3
    ·exact p3.elim
    ·rename_i hw
     exact .inl (.inr ⟨_,_,rfl,hs,by rw[hd.length];exact hw,fun pp hp=>wK r3 (hd.cut l h) hp p3⟩)
   | str u=>
    cases jd q3
    simp only[Ke]at p3
    split at p3
    ·rename_i hz
     exact .inr ⟨u,rfl,hz,p3 vG _ H3 .refl r3 (.str _)⟩
    ·exact p3.elim
   | _=>
    simp only[Ke]at p3
    split at p3
    ·rename_i ds z0
     obtain⟨aa,xs,rfl,hs,hd⟩:=r3.seq z0 q3
     exact .inl (.inl ⟨_,_,rfl,hs,fun pp hp=>pK r3 (hd.cut l h) hp p3⟩)
    ·exact p3.elim
theorem yC{K:Frag}{ι:Nat→Addr}{n:Nat}{H:Hp}{d:D}{vs:List V}(h:fK K ct ι n H [d] vs):∃v,vs=[v]∧DV K ct ι n H d v:=by
 cases h with | cons a b=>cases b;exact⟨_,rfl,a⟩
theorem Ro{K:Frag}{ι:Nat→Addr}{n:Nat}{H:Hp}{d d':D}{vs:List V}(h:fK K ct ι n H [d,d'] vs):∃v v',vs=[v,v']∧DV K ct ι n H d v∧DV K ct ι n H d' v':=by
 cases h with | cons a b=>obtain⟨v,rfl,q⟩:=yC b;exact⟨_,_,rfl,a,q⟩
def uM(M:Mem)(d:D):Option (List D):=match d with
 | .tup ds=>some ds
 | .kj ds=>some ds
 | d=>zQ M d
theorem Rl.seqs{K:Frag}{ι:Nat→Addr}{M:Mem}{H:Hp}(R:Rl K ct ι M H){d:D}{v:V}{ds:List D}(h:uM M d=some ds)(q:DV K ct ι M.length H d v):∃a xs,v= .ref a∧(mK K H a xs∨jX K H a xs)∧fK K ct ι M.length H ds xs:=by
 cases d with
 | tup es=>cases h;obtain⟨a,xs,e,hs,hd⟩:=Gh q;exact⟨a,xs,e,.inr hs,hd⟩
 | kj es=>cases h;cases q with | kj h1 h2=>exact⟨_,_,rfl,.inr (.inr h1),h2⟩
 | _=>simp only[uM]at h;obtain⟨a,xs,e,hs,hd⟩:=R.seq h q;exact⟨a,xs,e,.inl hs,hd⟩
def Hg:Ec:=fun ds M=>match ds with
 | [d]=>match uM M d with
  | some es=> .ok (.int es.length) M
  | none=> .bad
 | _=> .bad
theorem Rz:mJ X ct (.builtin "len") Hg:=by
 refine⟨_,Bh,fun ι M H ds vs Q R h p=> ?_⟩
 unfold Hg at p
 split at p
 ·rename_i d
  obtain⟨v,rfl,q⟩:=yC h
  cases z:uM M d with
  | none=>rw[z]at p;exact p.elim
  | some es=>
   rw[z]at p
   obtain⟨a,xs,rfl,hs,hd⟩:=R.seqs z q
   exact⟨_,xs,rfl,hs,p ι _ H .refl R (by rw[hd.length];exact .int _)⟩
 ·exact p.elim
def Wh(a b:Ec):Ec:=fun ds M=>match a ds M with
 | .bad=>b ds M
 | o=>o
theorem mJ.or{f:Value}{a b:Ec}(ha:mJ X ct f a)(hb:mJ X ct f b):mJ X ct f (Wh a b):=by
 obtain⟨r,h,hs⟩:=ha
 obtain⟨r',h',hs'⟩:=hb
 refine⟨_,h.or h',fun ι M H ds vs Q R q p=> ?_⟩
 unfold Wh at p
 cases z:a ds M with
 | ok x M1=>rw[z]at p;exact .inl (hs ι M H ds vs Q R q (by rw[z];exact p))
 | exc xc xd xM=>rw[z]at p;exact .inl (hs ι M H ds vs Q R q (by rw[z];exact p))
 | bad=>rw[z]at p;exact .inr (hs' ι M H ds vs Q R q p)
theorem Mu{a b:Ec}{ds:List D}{x:D}{M M':Mem}(h:a ds M= .ok x M'):Wh a b ds M= .ok x M':=by unfold Wh;rw[h]
def Lk:Ec:=fun ds M=>match ds with
 | [.ref n]=>match M[n]? with
  | some (.dk kvs)=> .ok (.int kvs.length) M
  | some (.dt kvs)=> .ok (.int kvs.length) M
  | _=> .bad
 | _=> .bad
theorem RB:mJ X ct (.builtin "len") Lk:=by
 refine⟨_,J6.or J5,fun ι M H ds vs Q R h p=> ?_⟩
 unfold Lk at p
 split at p
 ·rename_i n
  obtain⟨v,rfl,q⟩:=yC h
  obtain⟨hn,rfl⟩:=je q
  split at p
  ·rename_i kvs e
   obtain⟨ys,hH,pv⟩:=R.obj n _ e
   exact .inl ⟨_,ys,rfl,hH,by rw[pv.length];exact p ι _ H .refl R (.int _)⟩
  ·rename_i kvs e
   obtain⟨ys,hH,pv⟩:=R.obj n _ e
   exact .inr ⟨_,ys,rfl,hH,by rw[pv.length];exact p ι _ H .refl R (.int _)⟩
  ·exact p.elim
 ·exact p.elim
def Qg(neg:Bool):jW:=fun y x M=>match Jd y,uM M x with
 | some v,some ds=>match Er ds with
  | some vs=> .ok (.bl (if neg=true then !inV v vs else inV v vs)) M
  | none=> .bad
 | _,_=> .bad
theorem Uu{K:Frag}{neg:Bool}:Bu K ct (Qg neg) (rIn K neg):=by
 intro w ι M H d d' v v' Q R h h' p
 unfold Qg at p
 split at p
 ·rename_i u ds e1 e2
  obtain⟨rfl,f1⟩:=GR e1 h
  obtain⟨a,xs,rfl,hs,hd⟩:=R.seqs e2 h'
  cases e3:Er ds with
  | none=>rw[e3]at p;exact p.elim
  | some us=>
   rw[e3]at p
   obtain⟨rfl,f2⟩:=GQ e3 hd
   exact⟨a,_,rfl,hs,f1,f2,p ι _ H .refl R (.bl _)⟩
 ·exact p.elim
def um:jW:=pL (Jk true) (Qg true)
theorem DG(hu:X.A.units+64<cLine):fu X ct (compareOp .NotIn) um:=(J8 hu).or ⟨_,z_,Uu⟩
def Lj:Ec:=fun ds M=>match ds with
 | [.str z]=>if z.length≤sizeLine then .ok (.int z.length) M else .bad
 | _=> .bad
theorem Ry:mJ X ct (.builtin "len") Lj:=by
 refine⟨_,Bg,fun ι M H ds vs Q R h p=> ?_⟩
 unfold Lj at p
 split at p
 ·obtain⟨v,rfl,q⟩:=yC h
  cases jd q
  split at p
  ·rename_i hz
   exact⟨_,rfl,hz,p ι _ H .refl R (.int _)⟩
  ·exact p.elim
 ·exact p.elim
def oO:Ec:=Wh (Wh Hg Lk) Lj
theorem jf:mJ X ct (.builtin "len") oO:=(Rz.or RB).or Ry
def Ci:Ec:=fun ds M=>match ds with
 | [.int i,.int j]=> .ok (.int (if j > i then j else i)) M
 | _=> .bad
def wD:Ec:=fun ds M=>match ds with
 | [.int i,.int j]=> .ok (.int (if j<i then j else i)) M
 | _=> .bad
theorem Rx(hc:X.calm=true):mJ X ct (.builtin "max") Ci:=by
 refine⟨_,J4 hc,fun ι M H ds vs Q R h p=> ?_⟩
 unfold Ci at p
 split at p
 ·obtain⟨v,v',rfl,q,q'⟩:=Ro h
  cases ie q
  cases ie q'
  exact⟨_,_,rfl,p ι _ H .refl R (.int _)⟩
 ·exact p.elim
theorem Be(hc:X.calm=true):mJ X ct (.builtin "min") wD:=by
 refine⟨_,J3 hc,fun ι M H ds vs Q R h p=> ?_⟩
 unfold wD at p
 split at p
 ·obtain⟨v,v',rfl,q,q'⟩:=Ro h
  cases ie q
  cases ie q'
  exact⟨_,_,rfl,p ι _ H .refl R (.int _)⟩
 ·exact p.elim
def ZP(M:Mem)(d:D):Option String:=match d with
 | .non=>some "NoneType"
 | .bl _=>some "bool"
 | .int _=>some "int"
 | .str _=>some "str"
 | .tup _=>some "tuple"
 | .ref n=>(jk M n).map fun _=> "list"
 | .cl _=>some "list"
 | _=>none
def S9(a b:String):Bool:=a==b||(a== "bool" && b== "int")
def m7:List String:=["NoneType","bool","int","str","tuple","list"]
theorem Rb{K:Frag}:∀a∈m7,∀b∈m7,kitOne K (.type a) (.type b)=some (S9 a b):=by
 intro a ha b hb
 simp only[m7,List.mem_cons,List.not_mem_nil,or_false]at ha hb
 rcases ha with rfl | rfl | rfl | rfl | rfl | rfl<;>rcases hb with rfl | rfl | rfl | rfl | rfl | rfl<;>with_unfolding_all rfl
def Cj:Ec:=fun ds M=>match ds with
 | [d,.ty b]=>match ZP M d with
  | some a=>if b∈m7 then .ok (.bl (S9 a b)) M else .bad
  | none=> .bad
 | _=> .bad
@[irreducible] def LR(K:Frag):List V→Hp→VK→Prop:=fun xs H Q=>∃x n b,xs=[x,.ty n]∧Q (.bl b) H∧
 ((∃t,uI K H x t∧kitOne K t (.type n)=some b)∨(∃a ys,x= .ref a∧jX K H a ys∧kitOne K (.type "tuple") (.type n)=some b)∨(∃a ys,x= .ref a∧mK K H a ys∧kitOne K (.type "list") (.type n)=some b))
theorem J7:kE X (.builtin "isinstance") (LR X.K):=by
 intro pins s σ H xs us Q I r h
 unfold LR at h
 obtain⟨x,n,b,rfl,q,h⟩:=h
 obtain⟨u,v,rfl,rx,rc⟩:=vals2 r
 obtain rfl:v= .type n:=rc
 rcases h with⟨t,ty,e⟩ | ⟨a,ys,rfl,hs,e⟩ | ⟨a,ys,rfl,hs,e⟩
 ·exact JP I rx ty e fun tk=>⟨.bl b,H,I.tok tk,rfl,q⟩
 ·cases(show u=Value.ref a from rx)
  obtain⟨its,_,⟨o,h1,h2,_⟩,_⟩:=I.tuple hs
  exact PySem.W.kia_one PySem.W.kitx_tuple I.oU ⟨o,h1,h2⟩ e (fun z=>nomatch z) fun tk=>⟨.bl b,H,I.tok tk,rfl,q⟩
 ·cases(show u=Value.ref a from rx)
  obtain⟨its,_,⟨o,n',h1,h2,_⟩,_⟩:=I.list hs
  exact PySem.W.kia_one PySem.W.kitx_list I.oU ⟨o,h1,h2⟩ e (fun z=>nomatch z) fun tk=>⟨.bl b,H,I.tok tk,rfl,q⟩
theorem Ot:mJ X ct (.builtin "isinstance") Cj:=by
 refine⟨_,J7,fun ι M H ds vs Q R h p=> ?_⟩
 unfold Cj at p
 split at p
 ·rename_i d n
  obtain⟨v,v',rfl,q,q'⟩:=Ro h
  cases q'
  unfold LR
  cases z:ZP M d with
  | none=>rw[z]at p;exact p.elim
  | some a=>
   rw[z]at p
   by_cases hn:n∈m7
   ·simp only[hn,if_true]at p
    have ha:a∈m7:=by
     unfold ZP at z
     cases d with
     | ref m=>
      cases z1:jk M m with
      | none=>simp only[z1]at z;cases z
      | some es=>simp only[z1]at z;cases z;show "list" ∈ m7;decide
     | ty _=>cases z
     | cls _=>cases z
     | exc _ _=>cases z
     | kj _=>cases z
     | _=>cases z;decide
    have e:=Rb (K:=X.K) a ha n hn
    refine⟨v,n,S9 a n,rfl,p ι _ H .refl R (.bl _),?_⟩
    cases q with
    | non=>cases z;exact .inl ⟨_,.non,e⟩
    | bl b=>cases z;exact .inl ⟨_,.bl b,e⟩
    | int b=>cases z;exact .inl ⟨_,.int b,e⟩
    | str b=>cases z;exact .inl ⟨_,.str b,e⟩
    | tup hs hd=>cases z;exact .inr (.inl ⟨_,_,rfl,jX.of hs,e⟩)
    | @ref i hi=>
     simp only[ZP]at z
     cases z1:jk M i with
     | none=>rw[z1]at z;cases z
     | some es=>
      rw[z1]at z
      cases z
      obtain⟨xs,hs,hd⟩:=R.obj i _ (gb.mp z1)
      exact .inr (.inr ⟨_,_,rfl,mK.of hs,e⟩)
    | cl hs hd=>cases z;exact .inr (.inr ⟨_,_,rfl,hs.sq,e⟩)
    | ty b=>cases z
    | cls b=>cases z
    | exc _ _ _=>cases z
    | kj _ _=>cases z
   ·simp only[hn,if_false]at p
    exact p.elim
 ·exact p.elim
def SN(X:Cx)(ct:Nat→Addr)(T id:String)(op:D→List D→Mem→Out D):Prop:=∃r,V9 X id r∧∀{w:XW} ι M H d ds v vs Q,Rl X.K ct ι M H→DV X.K ct ι M.length H d v→fK X.K ct ι M.length H ds vs→dY (b7 X.K ct) X.K ct w ι M.length H (op d ds M) Q→r v vs H Q
def Ea(T:String)(d:D)(M:Mem):Bool:=match d with
 | .int _=>T== "int"
 | .str _=>T== "str"
 | .ref n=>T== "list" && (jk M n).isSome
 | _=>false
theorem Kw{K:Frag}{ι:Nat→Addr}{M:Mem}{H:Hp}{T:String}{d:D}{v:V}(R:Rl K ct ι M H)(h:Ea T d M=true)(q:DV K ct ι M.length H d v):ZM K T v H:=by
 cases q with
 | int i=>exact beq_iff_eq.mp h
 | str i=>exact beq_iff_eq.mp h
 | @ref i hi=>
  simp only[Ea,Bool.and_eq_true,beq_iff_eq]at h
  obtain⟨e,h2⟩:=h
  obtain⟨ds,z⟩:=Option.isSome_iff_exists.mp h2
  obtain⟨xs,hs,_⟩:=R.obj i _ (gb.mp z)
  exact .inl ⟨e,xs,mK.of hs⟩
 | _=>exact absurd h Bool.false_ne_true
def Q8(T:String)(op:D→List D→Mem→Out D)(mo:ME)(ms:MA):ME:=fun e M=>(mo e M).bind fun d M1=>if Ea T d M1=true then(ms e M1).bind fun ds M2=>op d ds M2 else .bad
variable{o:Expr}{es:List Expr}{mo:ME}{ms:MA}{name:Str}{apos cpos:Pos}{T id:String}{op:D→List D→Mem→Out D}
theorem Lf(pa:PlainAttrs T)(slot:Slot T name id)(hty:typeOf (.builtin id)=pure (.type "method_descriptor"))(hm:SN X ct T id op)(ho:SE X ct W o mo)
  (hbase:attributeBase o name X.env (eval o X.env)=eval o X.env:=by rfl) (hline:(apos.endLine==cpos.line)=true:=by rfl):SE X ct W (.Call (.Attribute o name apos) [] [] cpos) (Q8 T op mo aL):=by
 obtain⟨r,hr,hs⟩:=hm
 refine cR (Um pa slot hty hr ho hbase hline) fun σ H Q q=> ?_
 obtain⟨ι,e,M,w,p⟩:=bf (cB:=b7 X.K ct) (f:=fun d e M1=>if Ea T d M1=true then(aL e M1).bind fun ds M2=>op d ds M2 else .bad) q
 refine⟨ι,e,M,w,p.mono fun v H1 ⟨b_,e1,M1,d,w1,q1,p1⟩=> ?_⟩
 cases z:Ea T d M1 with
 | false=>simp only[z,Bool.false_eq_true,if_false]at p1;exact p1.elim
 | true=>
  simp only[z,if_true,aL,Out.bK]at p1
  exact⟨Kw w1.rl z q1,hs b_ M1 H1 d [] v [] Q w1.rl q1 .nil p1⟩
theorem Hf(pa:PlainAttrs T)(slot:Slot T name id)(hty:typeOf (.builtin id)=pure (.type "method_descriptor"))(hm:SN X ct T id op)(ho:SE X ct W o mo)(ha:SA X ct W (a::es) ms)
  (hbase:attributeBase o name X.env (eval o X.env)=eval o X.env:=by rfl)
  (hfew:((backTo cpos (starEach (a::es) X.env)).all (fun x=> !x.1)&&(backToKw cpos (keywordEach [] X.env)).all (fun x=>x.1.isSome)
   && decide ((a::es).length+([]:List Keyword).length+(if([]:List Keyword).isEmpty then 0 else 1)<30))=true:=by rfl)
  (hline:(apos.endLine==cpos.line)=true:=by rfl) (hs:starEach (a::es) X.env=(false,eval a X.env)::starEach es X.env:=by rfl) (hplain:(backTo cpos (starEach es X.env)).any (·.1)=false:=by rfl):
  SE X ct W (.Call (.Attribute o name apos) (a::es) [] cpos) (Q8 T op mo ms):=by
 obtain⟨r,hr,hss⟩:=hm
 refine cR (Ye pa slot hty hr ho ha hbase hfew hline hs hplain) fun σ H Q q=> ?_
 obtain⟨ι,e,M,w,p⟩:=bf (cB:=b7 X.K ct) (f:=fun d e M1=>if Ea T d M1=true then(ms e M1).bind fun ds M2=>op d ds M2 else .bad) q
 refine⟨ι,e,M,w,p.mono fun v H1 ⟨b_,e1,M1,d,w1,q1,p1⟩=> ?_⟩
 cases z:Ea T d M1 with
 | false=>simp only[z,Bool.false_eq_true,if_false]at p1;exact p1.elim
 | true=>
  simp only[z,if_true]at p1
  refine⟨Kw w1.rl z q1,b_,e1,M1,w1,?_⟩
  cases z2:ms e1 M1 with
  | bad=>simp only[z2,Out.eF]at p1;exact p1
  | exc xc xd xM=>simp only[z2,Out.jb]at p1;exact p1
  | ok ds M2=>
   simp only[z2,Out.bK]at p1
   exact fun fL vs H2 x2 r2 q2=>hss fL M2 H2 d ds v vs Q r2 (q1.mono x2) q2 (p1.ext x2)
def qi:D→List D→Mem→Out D:=fun d ds M=>match d,ds with
 | .ref n,[x]=>match M[n]? with
  | some (.lst es)=>if es.length<sizeLine then .ok .non (M.set n (.lst (es++[x])))else .bad
  | _=> .bad
 | _,_=> .bad
theorem Jy:SN X ct "list" "list.append" qi:=by
 refine⟨_,Jx,fun ι M H d ds v vs Q R q qs p=> ?_⟩
 unfold qi at p
 split at p
 ·rename_i n x
  obtain⟨hn,rfl⟩:=je q
  obtain⟨y,rfl,qy⟩:=yC qs
  split at p
  ·rename_i es e1
   split at p
   ·rename_i hz
    obtain⟨xs,hH,hd⟩:=R.obj n _ e1
    have x2:Ext X.K ι M.length H ι M.length (upd H (ι n) (.lst (xs++[y]))):=Ext.chg hH (fun _ z=>nomatch z) (fun _ _ z=>nomatch z)
    refine⟨_,xs,y,rfl,rfl,hH,by rw[hd.length];exact hz,?_⟩
    refine p ι .non _ (by rw[List.length_set];exact x2) (R.chg hn hH (fun _ z=>nomatch z) (fun _ _ z=>nomatch z) ⟨_,aW,(hd.append (.cons qy .nil)).mono x2⟩) .non
   ·exact p.elim
  ·exact p.elim
 ·exact p.elim
def Hl:D→List D→Mem→Out D:=fun d ds M=>match d,ds with
 | .int i,[]=> .ok (.int (Builtin.Int.intBits i:Nat)) M
 | _,_=> .bad
theorem Q6:SN X ct "int" "int.bit_length" Hl:=by
 refine⟨_,Q4,fun ι M H d ds v vs Q R q qs p=> ?_⟩
 unfold Hl at p
 split at p
 ·cases ie q
  cases qs
  exact⟨_,rfl,rfl,p ι _ H .refl R (.int _)⟩
 ·exact p.elim
end
inductive cY where
 | next (e:Sl) (M:Mem) | ret (d:D) (M:Mem) | brk (e:Sl) (M:Mem) | cont (e:Sl) (M:Mem) | exc (c:Nat) (d:D) (e:Sl) (M:Mem) | bad
abbrev MS:=Sl→Mem→cY
def qb(K:Frag)(ct:Nat→Addr)(W:aG)(ι:Nat→Addr)(n:Nat)(H:Hp)(o:cY)(T:Ends):Prop:=match o with
 | .next e M=>∀ι' σ' H',Ext K ι n H ι' M.length H'→Ws K ct ι' e M σ' H'→T.nx σ' H'
 | .ret d M=>∀ι' v H',Ext K ι n H ι' M.length H'→Rl K ct ι' M H'→DV K ct ι' M.length H' d v→T.rt v H'
 | .brk e M=>∀ι' σ' H',Ext K ι n H ι' M.length H'→Ws K ct ι' e M σ' H'→T.bk σ' H'
 | .cont e M=>∀ι' σ' H',Ext K ι n H ι' M.length H'→Ws K ct ι' e M σ' H'→T.ct σ' H'
 | .exc c d e M=>∀ι' σ' dx v H',Ext K ι n H ι' M.length H'→Ws K ct ι' e M σ' H'→H' dx=some (.xd [("at",v)])→DV K ct ι' M.length H' d v→W (ct c) dx σ' H'
 | .bad=>False
def tS(K:Frag)(ct:Nat→Addr)(W:aG)(m:MS):TS:=fun T σ H=>∃ι e M,Ws K ct ι e M σ H∧qb K ct W ι M.length H (m e M) T
def SS(X:Cx)(ct:Nat→Addr)(W:aG)(st:Stmt)(m:MS):Prop:=PS X st (tS X.K ct W m)
def Pb(X:Cx)(ct:Nat→Addr)(W:aG)(st:List Stmt)(m:MS):Prop:=vU X st (tS X.K ct W m)
theorem qb.ext{K:Frag}{ct ι ι':Nat→Addr}{W:aG}{n n':Nat}{H H':Hp}{o:cY}{T:Ends}(h:qb K ct W ι n H o T)(x:Ext K ι n H ι' n' H'):qb K ct W ι' n' H' o T:=by
 cases o with
 | next e M=>exact fun fL b H2 x2 w=>h fL b H2 (x.trans x2) w
 | ret d M=>exact fun fL b H2 x2 r q=>h fL b H2 (x.trans x2) r q
 | brk e M=>exact fun fL b H2 x2 w=>h fL b H2 (x.trans x2) w
 | cont e M=>exact fun fL b H2 x2 w=>h fL b H2 (x.trans x2) w
 | exc c d e M=>exact fun fL b dx v H2 x2 w q1 q2=>h fL b dx v H2 (x.trans x2) w q1 q2
 | bad=>exact h
def tD{α:Type}(e:Sl)(o:Out α)(f:α→Mem→cY):cY:=match o with
 | .ok a M=>f a M
 | .exc c d M=> .exc c d e M
 | .bad=> .bad
@[simp] theorem Ad{α:Type}(e:Sl)(a:α)(M:Mem)(f:α→Mem→cY):tD e (.ok a M) f=f a M:=id rfl
@[simp] theorem vK{α:Type}(e:Sl)(c:Nat)(d:D)(M:Mem)(f:α→Mem→cY):tD e (.exc c d M:Out α) f= .exc c d e M:=id rfl
@[simp] theorem vL{α:Type}(e:Sl)(f:α→Mem→cY):tD e (.bad:Out α) f= .bad:=id rfl
theorem j5{α β:Type}{rel:(Nat→Addr)→Mem→Hp→α→β→Prop}{K:Frag}{ct:Nat→Addr}{W:aG}{m:Sl→Mem→Out α}{f:α→Sl→Mem→cY}{σ:St}{H:Hp}{T:Ends}
  (h:tS K ct W (fun e M=>tD e (m e M) fun a M1=>f a e M1) T σ H):tG rel K ct W m σ H (fun b H1=>∃ι e M a,Ws K ct ι e M σ H1∧rel ι M H1 a b∧qb K ct W ι M.length H1 (f a e M) T):=by
 obtain⟨ι,e,M,w,p⟩:=h
 refine⟨ι,e,M,w,?_⟩
 cases z:m e M with
 | bad=>simp only[z,vL]at p;exact p
 | exc xc xd xM=>simp only[z,vK]at p;exact fun b_ dx v H1 x r q1 q2=>p b_ σ dx v H1 x (w.ext x r) q1 q2
 | ok a M1=>
  simp only[z,Ad]at p
  exact fun b_ b H1 x r q=>⟨b_,e,M1,a,w.ext x r,q,p.ext x⟩
section
variable{X:Cx}{ct:Nat→Addr}{W:aG}{st:Stmt}{rest:List Stmt}{s t:MS}{a:Expr}{ma:ME}{pos:Pos}
theorem PS.imp{st:Stmt}{t t':TS}(h:PS X st t)(hi:∀T σ H,t' T σ H→t T σ H):PS X st t':=fun pins s σ H T I q=>h pins s σ H T I (hi T σ H q)
theorem vU.imp{st:List Stmt}{t t':TS}(h:vU X st t)(hi:∀T σ H,t' T σ H→t T σ H):vU X st t':=fun pins s σ H T I q=>h pins s σ H T I (hi T σ H q)
def fZ:MS:=fun e M=> .next e M
def cC(s t:MS):MS:=fun e M=>match s e M with
 | .next e' M'=>t e' M'
 | o=>o
theorem KN{T:Ends}{σ:St}{H:Hp}(h:tS X.K ct W fZ T σ H):R5 T σ H:=let⟨ι,_,_,w,p⟩:=h;p ι σ H .refl w
theorem d8:Pb X ct W [] fZ:=vU.imp Qu fun T σ H q=>KN q
theorem aF(h1:SS X ct W st s)(h2:Pb X ct W rest t):Pb X ct W (st::rest) (cC s t):=vU.imp (L_ h1 h2) fun T σ H ⟨ι,e,M,w,p⟩=>by
 refine⟨ι,e,M,w,?_⟩
 unfold cC at p
 cases z:s e M with
 | next e' M'=>rw[z]at p;exact fun ι' σ' H' x w'=>⟨ι',e',M',w',p.ext x⟩
 | ret d M'=>rw[z]at p;exact p
 | brk d M'=>rw[z]at p;exact p
 | cont d M'=>rw[z]at p;exact p
 | exc c d e M'=>rw[z]at p;exact p
 | bad=>rw[z]at p;exact p
theorem aM(h1:SS X ct W st s):Pb X ct W [st] s:=Hv h1
def Lq(m:ME):MS:=fun e M=>tD e (m e M) fun _ M1=> .next e M1
theorem Py(he:SE X ct W a ma)(hs:swapsWith a none pos.line X.env=pure false:=by rfl):SS X ct W (.Expr a pos) (Lq ma):=PS.imp (Qy he hs) fun T σ H q=>by
 obtain⟨ι,e,M,w,p⟩:=j5 (rel:=b7 X.K ct) (f:=fun _ e M1=> .next e M1) q
 exact⟨ι,e,M,w,p.mono fun v H1 ⟨b_,e1,M1,d,w1,q1,p1⟩=>p1 b_ σ H1 .refl w1⟩
def gR(m:ME):MS:=fun e M=>tD e (m e M) fun d M1=> .ret d M1
theorem bH(he:SE X ct W a ma):SS X ct W (.Return (some a) pos) (gR ma):=PS.imp (T8 he) fun T σ H q=>by
 obtain⟨ι,e,M,w,p⟩:=j5 (rel:=b7 X.K ct) (f:=fun d e M1=> .ret d M1) q
 exact⟨ι,e,M,w,p.mono fun v H1 ⟨b_,e1,M1,d,w1,q1,p1⟩=>p1 b_ v H1 .refl w1.rl q1⟩
def yQ(c:MT)(s t:MS):MS:=fun e M=>tD e (c e M) fun k M1=>if k=true then s e M1 else t e M1
theorem gU{c:Expr}{b b':List Stmt}{mc:MT}(hc:O3 X ct W c mc)(ha:Pb X ct W b s)(hb:Pb X ct W b' t):SS X ct W (.If c b b' pos) (yQ mc s t):=PS.imp (XX hc ha hb) fun T σ H q=>by
 obtain⟨ι,e,M,w,p⟩:=j5 (rel:=wI) (f:=fun k e M1=>if k=true then s e M1 else t e M1) q
 refine⟨ι,e,M,w,p.mono fun k H1 ⟨b_,e1,M1,d,w1,q1,p1⟩=> ?_⟩
 have JV:d=k:=q1;subst JV
 cases d with
 | true=>exact⟨b_,e1,M1,w1,p1⟩
 | false=>exact⟨b_,e1,M1,w1,p1⟩
abbrev Tg:=D→Sl→Option Sl
abbrev Pa:=List D→Sl→Option Sl
def SM(K:Frag)(ct ι:Nat→Addr)(M:Mem)(H:Hp)(o:Option Sl)(Q:St→Hp→Prop):Prop:=match o with
 | some e'=>∀σ',Ws K ct ι e' M σ' H→Q σ' H
 | none=>False
def tT(K:Frag)(ct:Nat→Addr)(g:Tg):TG:=fun v σ H Q=>∃ι e M d,Ws K ct ι e M σ H∧DV K ct ι M.length H d v∧SM K ct ι M H (g d e) Q
def tTs(K:Frag)(ct:Nat→Addr)(g:Pa):RV:=fun vs σ H Q=>∃ι e M ds,Ws K ct ι e M σ H∧fK K ct ι M.length H ds vs∧SM K ct ι M H (g ds e) Q
def SG(X:Cx)(ct:Nat→Addr)(tg:Expr)(g:Tg):Prop:=PG X tg (tT X.K ct g)
def SGs(X:Cx)(ct:Nat→Addr)(tg:List Expr)(g:Pa):Prop:=Pg X tg (tTs X.K ct g)
theorem PG.imp{tg:Expr}{t t':TG}(h:PG X tg t)(hi:∀v σ H Q,t' v σ H Q→t v σ H Q):PG X tg t':=fun pins s σ H v u Q I r q=>h pins s σ H v u Q I r (hi v σ H Q q)
theorem Pg.imp{tg:List Expr}{t t':RV}(h:Pg X tg t)(hi:∀v σ H Q,t' v σ H Q→t v σ H Q):Pg X tg t':=fun pins s σ H v u Q I r q=>h pins s σ H v u Q I r (hi v σ H Q q)
def gN(i:Nat):Tg:=fun d e=>some (e.set i (some d))
theorem j6{i:Nat}{x:Str}(hN:X.N.Nodup)(hi:X.N[i]? = some x)(hx:Loc X.env.scope x)(hf:X.fn x=true∨X.env.scope.names.lookup x=some .local:=by first | exact .inl rfl | exact .inr rfl | assumption):SG X ct (.Name x pos) (gN i):=
 PG.imp (QF hN hi hx hf) fun v σ H Q ⟨ι,e,M,d,w,q,p⟩=>p _ (w.set i q)
def Dh:Pa:=fun ds e=>match ds with
 | []=>some e
 | _=>none
def n6(g:Tg)(gs:Pa):Pa:=fun ds e=>match ds with
 | d::r=>(g d e).bind fun e'=>gs r e'
 | []=>none
theorem PL:SGs X ct [] Dh:=Pg.imp QD fun vs σ H Q ⟨ι,e,M,ds,w,q,p⟩=>by
 cases q with
 | nil=>exact⟨rfl,p σ w⟩
 | cons _ _=>exact p.elim
theorem Cd{es:List Expr}{g:Tg}{gs:Pa}(h1:SG X ct a g)(h2:SGs X ct es gs)
  (hs:(assignEach (a::es) X.env).map (·.2)=assign a X.env::(assignEach es X.env).map (·.2):=by rfl):SGs X ct (a::es) (n6 g gs):=Pg.imp (Ml h1 h2 hs) fun vs σ H Q ⟨ι,e,M,ds,w,q,p⟩=>by
 cases q with
 | nil=>exact p.elim
 | @cons d x ds xs h hs=>
  refine⟨x,xs,rfl,ι,e,M,d,w,h,?_⟩
  simp only[n6]at p
  cases z:g d e with
  | none=>rw[z]at p;exact p.elim
  | some e'=>rw[z]at p;exact fun σ' w'=>⟨ι,e',M,ds,w',hs,p⟩
def gT(n:Nat)(gs:Pa):Tg:=fun d e=>match d with
 | .tup ds=>if ds.length=n then gs ds e else none
 | _=>none
theorem Ti{es:List Expr}{k:Nat}{gs:Pa}{n:Nat}(hc:X.calm=true)(h:SGs X ct es gs)
  (hn:(assignEach es X.env).length=n:=by rfl) (hst:(assignEach es X.env).findIdx? (·.1)=none:=by rfl):SG X ct (.Tuple es k pos) (gT n gs):=PG.imp (Ub hc h hn hst) fun v σ H Q ⟨ι,e,M,d,w,q,p⟩=>by
 cases q with
 | @tup a xs ds hs hd=>
  simp only[gT]at p
  split at p
  ·rename_i hl
   exact⟨a,xs,rfl,jX.of hs,by rw[hd.length];exact hl,ι,e,M,ds,w,hd,p⟩
  ·exact p.elim
 | _=>exact p.elim
def gm(m:ME)(g:Tg):MS:=fun e M=>tD e (m e M) fun d M1=>match g d e with
 | some e'=> .next e' M1
 | none=> .bad
theorem GZ{te:TE}{tg:TG}{m:ME}{g:Tg}{T:Ends}{σ:St}{H:Hp}(he:∀Q,tG (b7 X.K ct) X.K ct W m σ H Q→te σ H Q)(hg:∀v H Q,tT X.K ct g v σ H Q→tg v σ H Q)(h:tS X.K ct W (gm m g) T σ H):S8 te tg T σ H:=by
 refine he _ ?_
 obtain⟨ι,e,M,w,p⟩:=j5 (rel:=b7 X.K ct) (f:=fun d e M1=>match g d e with
  | some e'=> .next e' M1
  | none=> .bad) h
 refine⟨ι,e,M,w,p.mono fun v H1 ⟨b_,e1,M1,d,w1,q1,p1⟩=>hg _ _ _ ⟨b_,e1,M1,d,w1,q1,?_⟩⟩
 cases z:g d e1 with
 | none=>rw[z]at p1;exact p1
 | some e'=>rw[z]at p1;exact fun σ' w'=>p1 b_ σ' H1 .refl w'
theorem cg{i:Nat}{x:Str}{pos':Pos}(hN:X.N.Nodup)(hi:X.N[i]? = some x)(hx:Loc X.env.scope x)(he:SE X ct W a ma)(hs:swapsWith a (some (.Name x pos')) pos.line X.env=pure false:=by rfl)(hf:X.fn x=true∨X.env.scope.names.lookup x=some .local:=by first | exact .inl rfl | exact .inr rfl | assumption):
  SS X ct W (.Assign [.Name x pos'] a pos) (gm ma (gN i)):=PS.imp (T7 hN hi hx he hs hf) fun T σ H q=>GZ (fun _ q=>q) (fun v H Q ⟨ι,e,M,d,w,q,p⟩=>p _ (w.set i q)) q
def qC(cs:List Nat)(f:Str)(d:D)(o:D)(M:Mem):Option Mem:=match o with
 | .ref n=>match M[n]? with
  | some (.ins c fs)=>if c∈cs∧fs.length<1000 then some (M.set n (.ins c (putD f d fs)))else none
  | _=>none
 | _=>none
def wF(cs:List Nat)(mo mv:ME)(f:Str):MS:=fun e M=>tD e (mv e M) fun d M1=>tD e (mo e M1) fun o M2=>match qC cs f d o M2 with
 | some M3=> .next e M3
 | none=> .bad
theorem Ef.put{K:Frag}{ι:Nat→Addr}{n:Nat}{H:Hp}{f:Str}{d:D}{v:V}(h:DV K ct ι n H d v):∀{fs:List (Str×D)} {vs:List (Str×V)},Ef K ct ι n H fs vs→Ef K ct ι n H (putD f d fs) (kY f v vs)
 | _,_,.nil=> .cons h .nil
 | _,_,.cons (x:=x) h' hs=>by
  unfold putD kY
  by_cases e:x=f
  ·rw[if_pos e,if_pos e];exact .cons h hs
  ·rw[if_neg e,if_neg e];exact .cons h' (hs.put h)
theorem zN{o:Expr}{mo:ME}{cs:List Nat}{f:Str}{pos':Pos}(hc:x_ X.K ct f cs)(ho:SE X ct W o mo)(hv:SE X ct W a ma)(hs:swapsWith a (some (.Attribute o f pos')) pos.line X.env=pure false:=by rfl):
  SS X ct W (.Assign [.Attribute o f pos'] a pos) (wF cs mo ma f):=PS.imp (T_ ho hv hs) fun T σ H q=>by
 obtain⟨ι,e,M,w,p⟩:=j5 (rel:=b7 X.K ct) (f:=fun d e M1=>tD e (mo e M1) fun o M2=>match qC cs f d o M2 with
  | some M3=> .next e M3
  | none=> .bad) q
 refine⟨ι,e,M,w,p.mono fun y H1 ⟨b_,e1,M1,d,w1,q1,p1⟩=>⟨b_,e1,M1,w1,?_⟩⟩
 cases z:mo e1 M1 with
 | bad=>simp only[z,vL]at p1;exact p1
 | exc xc xd xM=>simp only[z,vK]at p1;exact fun fL dx v H2 x r q1 q2=>p1 fL σ dx v H2 x (w1.ext x r) q1 q2
 | ok o' M2=>
  simp only[z,Ad]at p1
  intro fL x H2 x2 r2 q2
  have p2:=p1.ext x2
  have w2:=w1.ext x2 r2
  have qd:=q1.mono x2
  cases q2 with
  | @ref n hn=>
   simp only[qC]at p2
   cases z0:M2[n]? with
   | none=>rw[z0]at p2;exact p2.elim
   | some ob=>
    cases ob with
    | lst _=>rw[z0]at p2;exact p2.elim
    | dk _=>rw[z0]at p2;exact p2.elim
    | dt _=>rw[z0]at p2;exact p2.elim
    | ins c fs=>
     simp only[z0]at p2
     by_cases hcs:c∈cs∧fs.length<1000
     ·rw[if_pos hcs]at p2
      obtain⟨dx,vs,hH,fv⟩:=r2.obj n _ z0
      have x3:Ext X.K fL M2.length H2 fL M2.length (upd H2 (fL n) (.ins (ct c) dx (kY f y vs))):=Ext.chg hH (fun _ z=>nomatch z) (fun _ _ z=>nomatch z)
      refine⟨_,_,dx,vs,rfl,hH,(hc.get hcs.1).1,(hc.get hcs.1).2,by rw[fv.length];exact hcs.2,?_⟩
      have r3:=r2.chg (o:= .ins (ct c) dx (kY f y vs)) (x:= .ins c (putD f d fs)) hn hH (fun _ z=>nomatch z) (fun _ _ z=>nomatch z) ⟨dx,_,aW,(fv.put qd).mono x3⟩
      have x3':Ext X.K fL M2.length H2 fL (M2.set n (.ins c (putD f d fs))).length (upd H2 (fL n) (.ins (ct c) dx (kY f y vs))):=by rw[List.length_set];exact x3
      exact p2 fL σ _ x3' (w2.ext x3' r3)
     ·rw[if_neg hcs]at p2
      exact p2.elim
  | _=>exact p2.elim
structure Itm where
 src:Option (Nat×List D)
 ds:List D
def fJ(s:Option (Nat×List D))(M:Mem):Prop:=match s with
 | none=>True
 | some (n,ds)=>jk M n=some ds
noncomputable instance{s:Option (Nat×List D)}{M:Mem}:Decidable (fJ s M):=Classical.propDecidable _
def Ql(K:Frag)(ct:Nat→Addr):(Nat→Addr)→Mem→Hp→Itm→It→Prop:=fun ι M H it J=>fJ it.src M∧it.ds.length≤sizeLine∧∀ι' M' H',Ext K ι M.length H ι' M'.length H'→Rl K ct ι' M' H'→fJ it.src M'→
 ∀i,(∀d,it.ds[i]? = some d→J.go i H'∧∀x H2,J.Ko i H' x H2→Ext K ι' M'.length H' ι' M'.length H2∧Rl K ct ι' M' H2∧DV K ct ι' M'.length H2 d x)∧(it.ds.length≤i→J.stop i H')
abbrev MI:=Sl→Mem→Out Itm
def SI(X:Cx)(ct:Nat→Addr)(W:aG)(tg e:Expr)(m:MI):Prop:=PI X tg e (tG (Ql X.K ct) X.K ct W m)
theorem PI.imp{tg e:Expr}{t t':TI}(h:PI X tg e t)(hi:∀σ H R,t' σ H R→t σ H R):PI X tg e t':=fun pins s σ H R I q=>h pins s σ H R I (hi σ H R q)
def dW(src:Option (Nat×List D))(g:Tg)(b:MS):List D→Sl→Mem→cY
 | [],e,M=>if fJ src M then .next e M else .bad
 | d::ds,e,M=>if fJ src M then(match g d e with
   | none=> .bad
   | some e1=>match b e1 M with
    | .next e2 M2=>dW src g b ds e2 M2
    | .cont e2 M2=>dW src g b ds e2 M2
    | .brk e2 M2=> .next e2 M2
    | .ret d M2=> .ret d M2
    | .exc c d e2 M2=> .exc c d e2 M2
    | .bad=> .bad)else .bad
def z6(mi:MI)(g:Tg)(b:MS):MS:=fun e M=>tD e (mi e M) fun it M1=>dW it.src g b it.ds e M1
theorem rC{tg iter:Expr}{body:List Stmt}{mi:MI}{g:Tg}{b:MS}(hp:X.Ok→PassesOwn (model X.prog X.w) X.A X.env X.xe)(hc:X.calm=true)(hi:SI X ct W tg iter mi)(hg:SG X ct tg g)(hb:Pb X ct W body b)
  (hs:∀x,foldedSetIterable iter X.env x=pure x:=by intro _;rfl):SS X ct W (.For tg iter body [] pos) (z6 mi g b):=PS.imp (fun pins s σ H D I h=>Qx (hp I.ok) hc hi hg hb hs pins s σ H D I h) fun T σ H q=>by
 obtain⟨ι,e,M,w,p⟩:=j5 (rel:=Ql X.K ct) (f:=fun it e M1=>dW it.src g b it.ds e M1) q
 refine⟨ι,e,M,w,p.mono fun J H1 ⟨b_,e1,M1,it,w1,q1,p1⟩=> ?_⟩
 obtain⟨ok1,_,step⟩:=q1
 refine⟨fun i m σ' H'=>m=it.ds.length - i∧i≤it.ds.length∧∃ι' e' M',Ext X.K b_ M1.length H1 ι' M'.length H'∧Ws X.K ct ι' e' M' σ' H'∧qb X.K ct W ι' M'.length H' (dW it.src g b (it.ds.drop i) e' M') T,
  ⟨it.ds.length,by simp,Nat.zero_le _,b_,e1,M1,.refl,w1,by simpa using p1⟩,?_⟩
 rintro i m σ' H' ⟨rfl,hi,ι',e',M',x',w',p'⟩
 by_cases hlt:i<it.ds.length
 ·rw[List.drop_eq_getElem_cons hlt]at p'
  unfold dW at p'
  by_cases ok':fJ it.src M'
  ·rw[if_pos ok']at p'
   obtain⟨go,yl⟩:=(step ι' M' H' x' w'.rl ok' i).1 _ (List.getElem?_eq_getElem hlt)
   refine .inr ⟨go,fun σ2 H2=>∃fL e2 M2,Ext X.K b_ M1.length H1 fL M2.length H2∧Ws X.K ct fL e2 M2 σ2 H2∧qb X.K ct W fL M2.length H2 (dW it.src g b (it.ds.drop (i+1)) e2 M2) T,?_,?_⟩
   ·rintro σ2 H2 ⟨fL,e2,M2,x2,w2,p2⟩
    exact⟨it.ds.length - (i+1),by omega,rfl,hlt,fL,e2,M2,x2,w2,p2⟩
   ·intro x H2 y
    obtain⟨x2,r2,dv⟩:=yl x H2 y
    have w2:=w'.ext x2 r2
    have p2:=p'.ext x2
    refine⟨ι',e',M',_,w2,dv,?_⟩
    cases z:g it.ds[i] e' with
    | none=>rw[z]at p2;exact p2
    | some e2=>
     rw[z]at p2
     intro σ3 w3
     refine⟨ι',e2,M',w3,?_⟩
     cases z3:b e2 M' with
     | next e4 M4=>simp only[z3]at p2;exact fun ι5 σ5 H5 x5 w5=>⟨ι5,e4,M4,(x'.trans x2).trans x5,w5,p2.ext x5⟩
     | cont e4 M4=>simp only[z3]at p2;exact fun ι5 σ5 H5 x5 w5=>⟨ι5,e4,M4,(x'.trans x2).trans x5,w5,p2.ext x5⟩
     | brk e4 M4=>simp only[z3]at p2;exact p2
     | ret d M4=>simp only[z3]at p2;exact p2
     | exc xc xd xe xM=>simp only[z3]at p2;exact p2
     | bad=>simp only[z3]at p2;exact p2
  ·rw[if_neg ok']at p'
   exact p'.elim
 ·have e0:i=it.ds.length:=by omega
  subst e0
  rw[List.drop_length]at p'
  unfold dW at p'
  by_cases ok':fJ it.src M'
  ·rw[if_pos ok']at p'
   exact .inl ⟨(step ι' M' H' x' w'.rl ok' _).2 (Nat.le_refl _),p' ι' σ' H' .refl w'⟩
  ·rw[if_neg ok']at p'
   exact p'.elim
def FW(d:D)(M1:Mem):Out Itm:=match d with
 | .ref n=>match jk M1 n with
  | some ds=> .ok ⟨some (n,ds),ds⟩ M1
  | none=> .bad
 | .cl ds=> .ok ⟨none,ds⟩ M1
 | .tup ds=> .ok ⟨none,ds⟩ M1
 | _=> .bad
def HN(m:ME):MI:=fun e M=>(m e M).bind FW
theorem Ua{tg l:Expr}{tl:TE}(hl:PE X l tl):PI X tg l (fun σ H R=>tl σ H fun x H1=>∃a,x= .ref a∧(((∃xs,mK X.K H1 a xs)∧((∀xs,mK X.K H1 a xs→xs.length≤sizeLine)→R (ZK X.K a) H1))∨((∃xs,jX X.K H1 a xs)∧((∀xs,jX X.K H1 a xs→xs.length≤sizeLine)→R (ZJ X.K a) H1)))):=by
 intro pins s σ H R I h
 refine dR (hl pins s σ H _ I h) fun v s1 ⟨x,H1,I1,r1,q1⟩=> ?_
 obtain⟨a,e,q⟩:=q1
 subst e
 cases r1
 rcases q with⟨⟨xs,hq⟩,q⟩ | ⟨⟨xs,hq⟩,q⟩
 ·obtain⟨its,rv,p,hz⟩:=I1.list hq
  have q:=q fun ys hy=>by obtain⟨_,_,_,hz⟩:=I1.list hy;exact hz
  refine wpAny_pyIter_list p.isList ?_
  refine⟨s1.heap.objs.size,[s1.heap.objs.size],_,_,H1,rfl,I1.kept (t':=s1.toks) fun b o e=>Heap.get?_push_of_some _ e,Jb a _,⟨_,Heap.get?_push_size _ rfl,rfl,rfl⟩,fun b hb=> ?_,q⟩
  have e:b=s1.heap.objs.size:=by simpa using hb
  subst e
  exact I1.Rj (Nat.le_refl _) (I1.hok.fresh (Nat.le_refl _))
 ·obtain⟨its,rv,p,hz⟩:=I1.tuple hq
  have q:=q fun ys hy=>by obtain⟨_,_,_,hz⟩:=I1.tuple hy;exact hz
  refine wpAny_pyIter_tuple (show s1.heap.IsTuple a its.toArray from p) ?_
  refine⟨s1.heap.objs.size,[s1.heap.objs.size],_,_,H1,rfl,I1.kept (t':=s1.toks) fun b o e=>Heap.get?_push_of_some _ e,En a _,⟨_,Heap.get?_push_size _ rfl,rfl,rfl⟩,fun b hb=> ?_,q⟩
  have e:b=s1.heap.objs.size:=by simpa using hb
  subst e
  exact I1.Rj (Nat.le_refl _) (I1.hok.fresh (Nat.le_refl _))
theorem Dd{K:Frag}{ι:Nat→Addr}{M:Mem}{H:Hp}{a:Addr}{xs:List V}{ds:List D}(R:Rl K ct ι M H)(hq:mK K H a xs)(hd:fK K ct ι M.length H ds xs)(i:Nat):
  (∀d,ds[i]? = some d→(ZK K a).go i H∧∀x H2,(ZK K a).Ko i H x H2→Ext K ι M.length H ι M.length H2∧Rl K ct ι M H2∧DV K ct ι M.length H2 d x)∧(ds.length≤i→(ZK K a).stop i H):=by
 refine⟨fun d e=> ?_,fun h=>⟨xs,hq,by rw[hd.length];exact h⟩⟩
 obtain⟨v,hv,dv⟩:=hd.at e
 refine⟨⟨xs,v,hq,hv⟩,fun x H2 y=> ?_⟩
 obtain⟨e2,y⟩:=y
 subst e2
 have z:=y xs hq
 rw[hv]at z
 cases z
 exact⟨.refl,R,dv⟩
theorem Nu{K:Frag}{ι:Nat→Addr}{M:Mem}{H:Hp}{a:Addr}{xs:List V}{ds:List D}(R:Rl K ct ι M H)(hq:jX K H a xs)(hd:fK K ct ι M.length H ds xs)(i:Nat):
  (∀d,ds[i]? = some d→(ZJ K a).go i H∧∀x H2,(ZJ K a).Ko i H x H2→Ext K ι M.length H ι M.length H2∧Rl K ct ι M H2∧DV K ct ι M.length H2 d x)∧(ds.length≤i→(ZJ K a).stop i H):=by
 refine⟨fun d e=> ?_,fun h=>⟨xs,hq,by rw[hd.length];exact h⟩⟩
 obtain⟨v,hv,dv⟩:=hd.at e
 refine⟨⟨xs,v,hq,hv⟩,fun x H2 y=> ?_⟩
 obtain⟨e2,y⟩:=y
 subst e2
 have z:=y xs hq
 rw[hv]at z
 cases z
 exact⟨.refl,R,dv⟩
theorem K8{tg:Expr}(hl:SE X ct W a ma):SI X ct W tg a (HN ma):=PI.imp (Ua hl) fun σ H R q=>by
 obtain⟨ι,e,M,w,p⟩:=bf (cB:=b7 X.K ct) (f:=fun d _ M1=>FW d M1) q
 refine⟨ι,e,M,w,p.mono fun v H1 ⟨b_,e1,M1,d,w1,q1,p1⟩=> ?_⟩
 cases q1 with
 | @ref n hn=>
  dsimp only[FW]at p1
  cases z:jk M1 n with
  | none=>rw[z]at p1;exact p1.elim
  | some ds=>
   rw[z]at p1
   obtain⟨xs,hH,hd⟩:=w1.rl.obj n _ (gb.mp z)
   refine⟨_,rfl,.inl ⟨⟨xs,mK.of hH⟩,fun hz=>p1 b_ _ H1 .refl w1.rl ⟨z,by rw[←hd.length];exact hz xs (mK.of hH),fun fL M2 H2 x2 r2 ok2 i=> ?_⟩⟩⟩
   obtain⟨xs2,hH2,hd2⟩:=r2.obj n _ (gb.mp ok2)
   rw[←x2.same n hn]
   exact Dd r2 (mK.of hH2) hd2 i
 | cl h1 h2=>exact⟨_,rfl,.inl ⟨⟨_,h1.sq⟩,fun hz=>p1 b_ _ H1 .refl w1.rl ⟨trivial,by rw[←h2.length];exact hz _ h1.sq,fun fL M2 H2 x2 r2 ok2 i=>Dd r2 (x2.pU _ _ h1).sq (h2.mono x2) i⟩⟩⟩
 | tup h1 h2=>exact⟨_,rfl,.inr ⟨⟨_,jX.of h1⟩,fun hz=>p1 b_ _ H1 .refl w1.rl ⟨trivial,by rw[←h2.length];exact hz _ (jX.of h1),fun fL M2 H2 x2 r2 ok2 i=>Nu r2 (jX.of (x2.tup _ _ h1)) (h2.mono x2) i⟩⟩⟩
 | _=>exact p1.elim
def qj(lo:Int)(n:Nat):List D:=(List.range n).map fun(k:Nat)=>D.int (lo+k)
def vA(ds:List D)(M1:Mem):Out Itm:=match ds with
 | [.int j]=>if -(2 ^ 62)≤j∧j<2 ^ 24 then .ok ⟨none,qj 0 j.toNat⟩ M1 else .bad
 | _=> .bad
def qH(ms:MA):MI:=fun e M=>(ms e M).bind vA
theorem Nv{K:Frag}{ι:Nat→Addr}{M:Mem}{H:Hp}(R:Rl K ct ι M H)(lo:Int)(n i:Nat):
  (∀d,(qj lo n)[i]? = some d→(Wu lo n).go i H∧∀x H2,(Wu lo n).Ko i H x H2→Ext K ι M.length H ι M.length H2∧Rl K ct ι M H2∧DV K ct ι M.length H2 d x)∧((qj lo n).length≤i→(Wu lo n).stop i H):=by
 refine⟨fun d e=> ?_,fun h=>(by simpa[qj]using h:n≤i)⟩
 unfold qj at e
 rw[List.getElem?_map]at e
 obtain⟨k,hk,rfl⟩:=Option.map_eq_some_iff.mp e
 obtain⟨hi,e2⟩:=List.getElem?_eq_some_iff.mp hk
 have hi':i<n:=by simpa using hi
 have ek:k=i:=by rw[←e2];simp
 subst ek
 refine⟨hi',fun x H2 y=> ?_⟩
 obtain⟨e3,y⟩:=y
 subst e3 y
 exact⟨.refl,R,.int _⟩
theorem Vf:(2 ^ 24:Nat)≤sizeLine:=by rw[sizeLine_eq];decide
theorem fX{tg a:Expr}{ms:MA}{p pos:Pos}(hg:Gl X "range")(hm:X.mg "range" = none)(ha:SA X ct W [a] ms)(hs:starEach [a] X.env=[(false,eval a X.env)]:=by rfl):SI X ct W tg (.Call (.Name "range" p) [a] [] pos) (qH ms):=PI.imp (Jo hg hm ha hs) fun σ H R q=>by
 obtain⟨ι,e,M,w,p⟩:=bf (cB:=vB X.K ct) (f:=fun ds _ M1=>vA ds M1) q
 refine⟨ι,e,M,w,p.mono fun v H1 ⟨b_,e1,M1,d,w1,q1,p1⟩=> ?_⟩
 dsimp only[vA]at p1
 split at p1
 ·rename_i j
  obtain⟨v,rfl,q2⟩:=yC q1
  cases ie q2
  split at p1
  ·rename_i hj
   have hz:=Vf
   exact⟨j,rfl,hj.1,by omega,p1 b_ _ H1 .refl w1.rl ⟨trivial,by simp[qj];omega,fun fL M2 H2 x2 r2 ok2 i=>Nv r2 0 _ i⟩⟩
  ·exact p1.elim
 ·exact p1.elim
open Classical in
def tZ(js:List Nat)(e:Sl):Sl:=js.map fun i=>(e[i]?).join
def Out.Wi{α:Type}(o:Out α):Out α:=match o with
 | .ok a M=> .ok a M
 | _=> .bad
@[simp] theorem MJ{α:Type}(a:α)(M:Mem):(Out.ok a M).Wi= .ok a M:=id rfl
@[simp] theorem Hz{α:Type}:(Out.bad:Out α).Wi= .bad:=id rfl
@[simp] theorem Hy{α:Type}(c:Nat)(d:D)(M:Mem):(Out.exc c d M:Out α).Wi= .bad:=id rfl
def lF(src:Option (Nat×List D))(tt:MT)(te:ME)(ce:Sl):List D→List D→Mem→Out D
 | [],ys,M=>if fJ src M then .ok (.ref M.length) (M++[.lst ys])else .bad
 | d::ds,ys,M=>if fJ src M then(tt (some d::ce) M).Wi.bind fun k M1=>if k=true then(te (some d::ce) M1).Wi.bind fun y M2=>lF src tt te ce ds (ys++[y]) M2 else lF src tt te ce ds ys M1 else .bad
def uT(js:List Nat)(mi:MI)(tt:MT)(te:ME):ME:=fun e M=>(mi e M).bind fun it M1=>lF it.src tt te (tZ js e) it.ds [] M1
def STs(X:Cx)(ct:Nat→Addr)(W:aG)(ifs:List Expr)(m:MT):Prop:=Wr X ifs (tG wI X.K ct W m)
def JD:MT:=fun _ M=> .ok true M
theorem Px:STs X ct W [] JD:=fun pins s σ H Q I ⟨ι,e,M,w,p⟩=>Qs pins s σ H Q I (p ι true H .refl w.rl rfl)
theorem zK{c:Expr}{m:MT}(h:O3 X ct W c m):STs X ct W [c] m:=Qq h
theorem Ws.caps{K:Frag}{ι:Nat→Addr}{e:Sl}{M:Mem}{σ:St}{H:Hp}{d:D}{v:V}(w:Ws K ct ι e M σ H)(js:List Nat)(h:DV K ct ι M.length H d v):Ws K ct ι (some d::tZ js e) M (some v::L2.caps js σ) H:=by
 refine⟨w.rl,by simp[tZ,L2.caps],fun i x hx=> ?_⟩
 cases i with
 | zero=>simp at hx;subst hx;exact⟨v,rfl,h⟩
 | succ i=>
  simp only[List.getElem?_cons_succ,tZ,List.getElem?_map]at hx
  obtain⟨j,hj,ej⟩:=Option.map_eq_some_iff.mp hx
  cases z:e[j]? with
  | none=>rw[z]at ej;cases ej
  | some o=>
   rw[z]at ej
   cases(show o=some x from ej)
   obtain⟨u,hu,du⟩:=w.env j x z
   refine⟨u,?_,du⟩
   simp only[List.getElem?_cons_succ,L2.caps,List.getElem?_map,hj,Option.map_some,hu]
   rfl
theorem BZ{js:List Nat}{mi:MI}{tt:MT}{te:ME}{σ:St}{H:Hp}{Q:VK}(h:tG (b7 X.K ct) X.K ct W (uT js mi tt te) σ H Q):KY js (tG (Ql X.K ct) X.K ct W mi) (tG wI X.K ct W0 tt) (tG (b7 X.K ct) X.K ct W0 te) σ H Q:=by
 obtain⟨ι,e,M,w,p⟩:=bf (cB:=Ql X.K ct) (f:=fun it e M1=>lF it.src tt te (tZ js e) it.ds [] M1) h
 refine⟨ι,e,M,w,p.mono fun J H1 ⟨b_,e1,M1,it,w1,q1,p1⟩=> ?_⟩
 obtain⟨ok1,hz,step⟩:=q1
 refine⟨fun i m ys H'=>m=it.ds.length - i∧i≤it.ds.length∧ys.length≤i∧∃ι' M' ds',Ext X.K b_ M1.length H1 ι' M'.length H'∧Rl X.K ct ι' M' H'∧fK X.K ct ι' M'.length H' ds' ys∧dY (b7 X.K ct) X.K ct (WM W σ) ι' M'.length H' (lF it.src tt te (tZ js e1) (it.ds.drop i) ds' M') Q,
  ⟨it.ds.length,by simp,Nat.zero_le _,Nat.le_refl _,b_,M1,[],.refl,w1.rl,.nil,by simpa using p1⟩,?_⟩
 rintro i m ys H' ⟨rfl,hi,hy,ι',M',ds',x',r',dy,p'⟩
 by_cases hlt:i<it.ds.length
 ·rw[List.drop_eq_getElem_cons hlt]at p'
  unfold lF at p'
  by_cases ok':fJ it.src M'
  ·rw[if_pos ok']at p'
   obtain⟨go,yl⟩:=(step ι' M' H' x' r' ok' i).1 _ (List.getElem?_eq_getElem hlt)
   refine .inr ⟨go,fun ys2 H2=>ys2.length≤i+1∧∃fL M2 ds2,Ext X.K b_ M1.length H1 fL M2.length H2∧Rl X.K ct fL M2 H2∧fK X.K ct fL M2.length H2 ds2 ys2∧dY (b7 X.K ct) X.K ct (WM W σ) fL M2.length H2 (lF it.src tt te (tZ js e1) (it.ds.drop (i+1)) ds2 M2) Q,?_,?_⟩
   ·rintro ys2 H2 ⟨hl2,q2⟩
    exact⟨by omega,it.ds.length - (i+1),by omega,rfl,hlt,hl2,q2⟩
   ·intro x H2 y
    obtain⟨x2,r2,dv⟩:=yl x H2 y
    have w2:Ws X.K ct ι' (some it.ds[i]::tZ js e1) M' (some x::L2.caps js σ) H2:=(w1.ext (x'.trans x2) r2).caps js dv
    have p2:=p'.ext x2
    refine⟨ι',_,M',w2,?_⟩
    cases z:tt (some it.ds[i]::tZ js e1) M' with
    | bad=>simp only[z,Hz,Out.eF]at p2;exact p2
    | exc xc xd xM=>simp only[z,Hy,Out.eF]at p2;exact p2.elim
    | ok k M3=>
     simp only[z,MJ,Out.bK]at p2
     intro vG k3 H3 x3 r3 ek
     have JV:k=k3:=ek;subst JV
     have p3:=p2.ext x3
     have w3:=w2.ext x3 r3
     have dy3:=(dy.mono x2).mono x3
     cases k with
     | false=>exact⟨by omega,vG,M3,ds',(x'.trans x2).trans x3,r3,dy3,p3⟩
     | true=>
      simp only[if_true]at p3 ⊢
      refine⟨vG,_,M3,w3,?_⟩
      cases z4:te (some it.ds[i]::tZ js e1) M3 with
      | bad=>simp only[z4,Hz,Out.eF]at p3;exact p3
      | exc xc xd xM=>simp only[z4,Hy,Out.eF]at p3;exact p3.elim
      | ok yy M4=>
       simp only[z4,MJ,Out.bK]at p3
       intro ι4 v4 H4 x4 r4 d4
       exact⟨by rw[List.length_append];simp;omega,ι4,M4,ds'++[yy],((x'.trans x2).trans x3).trans x4,r4,(dy3.mono x4).append (.cons d4 .nil),p3.ext x4⟩
  ·rw[if_neg ok']at p'
   exact p'.elim
 ·have e0:i=it.ds.length:=by omega
  subst e0
  rw[List.drop_length]at p'
  unfold lF at p'
  by_cases ok':fJ it.src M'
  ·rw[if_pos ok']at p'
   exact .inl ⟨(step ι' M' H' x' r' ok' _).2 (Nat.le_refl _),by omega,fun pp hp=>pK r' dy hp p'⟩
  ·rw[if_neg ok']at p'
   exact p'.elim
variable{elt iter:Expr}{ifs:List Expr}{scope:Scope}{x:Str}{px:Pos}{mi:MI}{tt:MT}{te:ME}
theorem zT(hc:X.calm=true)(cs:List Str)(js:List Nat)(hi:SI X ct W (.Name x px) iter mi)(hcap:oJ X scope cs js)(ht:∀cl C fp s H,STs (bU X scope cl C (x::cs) fp s H) ct W0 ifs tt)(he:∀cl C fp s H,SE (bU X scope cl C (x::cs) fp s H) ct W0 elt te)
  (hall:∀y∈scope.names,y.2= .free→y.1∈cs) (hcell:∀y∈scope.names,y.2≠ .cell) (hnames:∀y∈scope.names,y.2= .local→scope.names.lookup y.1=some .local) (hnd:(x::cs).Nodup)
  (hkind:scope.kind= .function:=by rfl) (hx:scope.names.lookup x=some .local:=by rfl) (hs:∀v,foldedSetIterable iter X.env v=pure v:=by intro _;rfl):
  SE X ct W (.ListComp elt [⟨.Name x px,iter,ifs,0⟩] scope pos) (uT js mi tt te):=
 cR (QG (tt:=tG wI X.K ct W0 tt) (te:=tG (b7 X.K ct) X.K ct W0 te) hc cs js hi hcap (fun cl C fp s H=>ht cl C fp s H) (fun cl C fp s H=>he cl C fp s H) hall hcell hnames hnd hkind hx hs) fun σ H Q q=>BZ q
theorem Pz{y:Str}{py spos:Pos}{k:Nat}(hc:X.calm=true)(cs:List Str)(js:List Nat)(hN:X.N.Nodup)(hk:X.N[k]? = some y)(hy:X.env.scope.names.lookup y=some .local)(hi:SI X ct W (.Name x px) iter mi)(hcap:oJ X scope cs js)
  (ht:∀cl C fp s H,STs (bU X scope cl C (x::cs) fp s H) ct W0 ifs tt) (he:∀cl C fp s H,SE (bU X scope cl C (x::cs) fp s H) ct W0 elt te)
  (hall:∀y∈scope.names,y.2= .free→y.1∈cs) (hcell:∀y∈scope.names,y.2≠ .cell) (hnames:∀y∈scope.names,y.2= .local→scope.names.lookup y.1=some .local) (hnd:(x::cs).Nodup)
  (hsw:swapsWith (.ListComp elt [⟨.Name x px,iter,ifs,0⟩] scope pos) (some (.Name y py)) spos.line X.env=pure true:=by rfl)
  (hkind:scope.kind= .function:=by rfl) (hx:scope.names.lookup x=some .local:=by rfl) (hs:∀v,foldedSetIterable iter X.env v=pure v:=by intro _;rfl):
  SS X ct W (.Assign [.Name y py] (.ListComp elt [⟨.Name x px,iter,ifs,0⟩] scope pos) spos) (gm (uT js mi tt te) (gN k)):=
 PS.imp (Qz (tt:=tG wI X.K ct W0 tt) (te:=tG (b7 X.K ct) X.K ct W0 te) hc cs js hN hk hy hi hcap (fun cl C fp s H=>ht cl C fp s H) (fun cl C fp s H=>he cl C fp s H) hall hcell hnames hnd hsw hkind hx hs) fun T σ H q=>GZ (fun _ q=>BZ q) (fun v H Q ⟨ι,e,M,d,w,q,p⟩=>p _ (w.set k q)) q
end
def slots(n:Nat)(ds:List D):Sl:=ds.map some++List.replicate (n - ds.length) none
def eX(n:Nat)(b:MS):Fn:=fun ds M=>match b (slots n ds) M with
 | .ret d M'=> .ok d M'
 | .next _ M'=> .ok .non M'
 | .exc c d _ M'=> .exc c d M'
 | _=> .bad
theorem Ws.start{K:Frag}{ct ι:Nat→Addr}{M:Mem}{H:Hp}{ds:List D}{vs:List V}(N:List Str)(R:Rl K ct ι M H)(h:fK K ct ι M.length H ds vs):Ws K ct ι (slots N.length ds) M (L2.start N vs) H:=by
 refine⟨R,by simp[slots,L2.start,h.length],fun i d hd=> ?_⟩
 unfold slots at hd
 by_cases z:i<ds.length
 ·rw[List.getElem?_append_left (by simpa using z),List.getElem?_map]at hd
  obtain⟨d',e1,e2⟩:=Option.map_eq_some_iff.mp hd
  cases e2
  obtain⟨v,hv,dv⟩:=h.at e1
  refine⟨v,?_,dv⟩
  unfold L2.start
  rw[List.getElem?_append_left (by rw[List.length_map,h.length];exact z),List.getElem?_map,hv]
  rfl
 ·rw[List.getElem?_append_right (by simpa using z),List.getElem?_replicate]at hd
  split at hd<;>cases hd
section
variable{P:Program}{w:World}{K:Frag}{mg:Str→Option Value}{base:Heap}{ct:Nat→Addr}
theorem rT{n ar:Nat}{b:MS}{x qual:Str}{st:Stmt}{dV:Value}{f:Addr}{fd:FuncData}{N ps:List Str}{k:Nat}(F:dM K x qual st dV f fd)(S:bA N ps (aq st))(hn:N.length=n)(har:ps.length=ar)
  (hbody:∀(cdv:Value) (A:Around) (outer:List PySem.Env) (s:Shared) (H:Hp) (E:XK) (W:aG),dJ k (A.deeper (envOfC qual (aq st) s.heap.objs.size f cdv))→
   Pb ((oV (ji P w) P w K mg base N qual (aq st) f cdv A outer s H E).wish (dX (oV (ji P w) P w K mg base N qual (aq st) f cdv A outer s H E) W)) ct W (aD st) b):
  bh P w K mg base (ji P w) (k+1) f fd ps (spS K ct (eX n b) ar):=by
 subst hn har
 refine F.okX S (fun vs H Q E ⟨ι,ds,M,hl,_,hd,_⟩=>by rw[hd.length,hl]) fun cdv A outer s H vs Q E hr ⟨ι,ds,M,hl,R,hd,p⟩=> ?_
 refine⟨_,fun C dx _ H'=>E (.ref C) (some dx) H',fun C dx σ H' z=>z,hbody cdv A outer s H E _ hr,ι,slots N.length ds,M,Ws.start N R hd,?_⟩
 unfold eX at p
 cases z:b (slots N.length ds) M with
 | ret d M'=>rw[z]at p;exact fun ι' v H' x r q=> .inl (p ι' v H' x r q)
 | next e M'=>rw[z]at p;exact fun ι' σ' H' x w'=> .inl (p ι' .non H' x w'.rl .non)
 | exc c d e M'=>rw[z]at p;exact fun ι' σ' dx v H' x w' q1 q2=>p ι' dx v H' x w'.rl q1 q2
 | brk e M'=>rw[z]at p;exact p.elim
 | cont e M'=>rw[z]at p;exact p.elim
 | bad=>rw[z]at p;exact p.elim
end
theorem Y0{P:Program}{w:World}{K:Frag}{mg:Str→Option Value}{base:Heap}{k:Nat}{f:Addr}{fd:FuncData}{ps:List Str}{sp:Sp}(F:bh P w K mg base (ji P w) k f fd ps sp):bh P w K mg base GK k f fd ps (fun vs H Q _=>sp vs H Q E0):=
 ⟨fun vs H Q _ h=>F.len vs H Q E0 h,fun A outer s H args us vs Q E hr he hb hv hs=>codeAny_mono (F.run A outer s H args us vs Q E0 hr he hb hv hs) fun r s' hq=>by
  match r,hq with
  | .error e,hq=>obtain⟨_,_,_,_,_,_,_,_,_,_,_,_,_,_,_,z⟩:=hq;exact z.elim
  | .ok (.ret u),hq=>exact hq⟩
theorem jK{Y:Cx}{W:aG}(hst:Y.stack=Y.env::Y.outer)(hf:Y.env.frame=some Y.env.locals)(ok:(Y.wish (dX Y W)).Ok):PassesOwn (model Y.prog Y.w) Y.A Y.env (dX Y W):=fun ev s' h=>dX.Jq hst hf ok.frames ev s' h
theorem Tk.none{X:Cx}:Tk X W0:=fun _ _ ⟨_,_,_,_,_,_,_,_,_,_,_,_,_,_,z⟩=>z.elim
def ZX(K:Frag):Sp:=fun vs H Q _=>∃(a:Addr) (ns:List Int),vs=[.ref a]∧SQ K H a (ns.map V.int)∧ns.length≤63∧∀H',Q (.bl true) H'
theorem Dk{K:Frag}{ct ι:Nat→Addr}{n:Nat}{H:Hp}:∀ns:List Int,fK K ct ι n H (ns.map D.int) (ns.map V.int)
 | []=> .nil
 | i::r=> .cons (.int i) (Dk r)
theorem YC{P:Program}{w:World}{K:Frag}{mg:Str→Option Value}{base:Heap}{ct:Nat→Addr}{k:Nat}{f:Addr}{fd:FuncData}{x:Str}{fn:Fn}(F:bh P w K mg base (ji P w) k f fd [x] (spS K ct fn 1))
  (h:∀ns:List Int,ns.length≤63→∃M,fn [.cl (ns.map D.int)] []= .ok (.bl true) M):bh P w K mg base GK k f fd [x] (ZX K):=by
 refine(Y0 F).imp fun vs H Q E ⟨a,ns,e,hf,hl,q⟩=> ?_
 subst e
 obtain⟨M,e⟩:=h ns hl
 refine⟨fun _=>0,[.cl (ns.map D.int)],[],rfl,⟨fun i j hi=>absurd hi (Nat.not_lt_zero _),fun i o h=>by simp at h⟩,.cons (.cl hf (Dk ns)) .nil,?_⟩
 rw[e]
 intro ι' v H' _ _ dv
 cases dv
 exact q H'
theorem WL{l:PySem.W.OpenLaw}{q:Program}{loose:List Str}{XP:(Str→Option Value)→Heap→Prop}{YP:World→Heap→Prop}{d:DefRec}{K:Params→Frag}{x:Str}{k:Nat}(hn:l.most=some 63)(hdf:d.params.defaults=[])(hr:dJ k callerA)
  (hY:∀(w:World) (h:Heap),YP w h→(K w.params).In h)
  (F:∀(w:World) (mg:Str→Option Value) (fa:Addr) (h:Heap),(K w.params).In h→h.Ns mainGlobals mg→mg d.name=some (.ref fa)→
   ∃fd:FuncData,(∀(s:Shared) (u:Value),BindsTo s fd ⟨[u],[]⟩ [(x,u)])∧∀base:Heap,(K w.params).In base→base.Ns mainGlobals mg→bh l.prog w (K w.params) mg base GK k fa fd [x] (ZX (K w.params))):
  PySem.W.WalkO q loose XP YP l.row.toRowW d [] (fun f vs=>PySem.call f vs):=
 Pn (n:=63) (k:=k) (x:=x) (CX:=fun _=>GK) (sp:=fun w=>ZX (K w.params)) hn (by decide) hdf hr hY F (fun _ H a ns hl hO hS=>⟨a,ns,rfl,by
  rcases hS with(z | z) | z
  ·rcases hO a with n | ⟨o,xs,n⟩
   ·rw[n]at z;cases z
   ·rw[n]at z;cases z
  ·exact .inl z
  ·exact .inr z,hl,fun _=>rfl⟩) fun _ _ _ _ _ z=>z
section
variable{e:Sl}{M:Mem}
@[simp] theorem aad{i:Nat}{d:D}(h:e[i]? = some (some d)):az i e M= .ok d M:=vO h
@[simp] theorem yU{d:D}{r:Sl}:az 0 (some d::r) M= .ok d M:=vO rfl
@[simp] theorem Nh{o0:Option D}{d:D}{r:Sl}:az 1 (o0::some d::r) M= .ok d M:=vO rfl
@[simp] theorem Su{o0 o1:Option D}{d:D}{r:Sl}:az 2 (o0::o1::some d::r) M= .ok d M:=vO rfl
@[simp] theorem Nj{d:D}:mC d e M= .ok d M:=id rfl
@[simp] theorem Ai{op:jW}{ma mb:ME}:aB op ma mb e M=(ma e M).bind fun d M1=>(mb e M1).bind fun d' M2=>op d d' M2:=id rfl
@[simp] theorem abS{op:D→Mem→Out D}{ma:ME}:mUn op ma e M=(ma e M).bind op:=id rfl
@[simp] theorem Gq{b:Bool}:Gs (.bl b) M= .ok b M:=id rfl
@[simp] theorem wZ{m:ME}:bF m e M=(m e M).bind Gs:=id rfl
@[simp] theorem aal{t u:MT}:Q9 t u e M=(t e M).bind fun k M1=>if k=true then u e M1 else .ok false M1:=id rfl
@[simp] theorem abV{t u:MT}:Wm t u e M=(t e M).bind fun k M1=>if k=true then .ok true M1 else u e M1:=id rfl
@[simp] theorem aah{t:MT}:JC t e M=(t e M).bind fun k M1=> .ok (!k) M1:=id rfl
@[simp] theorem Yx{t u:ME}:Nk t u e M=(t e M).bind fun d M1=>(Gs d M1).bind fun k M2=>if k=true then u e M2 else .ok (.bl false) M2:=id rfl
@[simp] theorem aag{t u:ME}:Vc t u e M=(t e M).bind fun d M1=>(Gs d M1).bind fun k M2=>if k=true then .ok (.bl true) M2 else u e M2:=id rfl
@[simp] theorem Yq{t:ME}:Ni t e M=(t e M).bind fun d M1=>(Gs d M1).bind fun k M2=> .ok (.bl (!k)) M2:=id rfl
@[simp] theorem aai:aL e M= .ok [] M:=id rfl
@[simp] theorem Yu{m:ME}{ms:MA}:ao m ms e M=(m e M).bind fun d M1=>(ms e M1).bind fun ds M2=> .ok (d::ds) M2:=id rfl
theorem nR:sizeLine=16777216:=sizeLine_eq
@[simp] theorem aae{ms:MA}:JB ms e M=(ms e M).bind fun ds M1=>if ds.length≤16777216 then .ok (.tup ds) M1 else .bad:=by unfold JB;rw[nR]
@[simp] theorem aaj{ms:MA}:h_ ms e M=(ms e M).bind fun ds M1=>if ds.length≤16777216 then .ok (.ref M1.length) (M1++[.lst ds])else .bad:=by unfold h_;rw[nR]
@[simp] theorem aak{cs:List Nat}{m:ME}{f:Str}:Ft cs m f e M=(m e M).bind (xJ cs f):=id rfl
theorem tX{cs:List Nat}{f:Str}{n c:Nat}{fs:List (Str×D)}{d:D}(h:M[n]? = some (.ins c fs))(hc:c∈cs)(hf:fs.lookup f=some d):xJ cs f (.ref n) M= .ok d M:=by
 unfold xJ;simp only[h,hc,if_true,hf]
@[simp] theorem Yw{fn:Fn}{ar:Nat}{dv:List D}{ms:MA}:fB fn ar dv ms e M=(ms e M).bind fun ds M1=>if(ds++dv).length=ar then fn (ds++dv) M1 else .bad:=id rfl
@[simp] theorem Yr{k:Nat}{m:Str}{fn:Fn}{ar:Nat}{dv:List D}{mo:ME}{ms:MA}:HJ k m fn ar dv mo ms e M=(mo e M).bind fun d M1=>if tR k m d M1=true then(ms e M1).bind fun ds M2=>if(d::(ds++dv)).length=ar then fn (d::(ds++dv)) M2 else .bad else .bad:=id rfl
theorem NK{k:Nat}{m:Str}{n:Nat}{fs:List (Str×D)}(h:M[n]? = some (.ins k fs))(hf:fs.lookup m=none):tR k m (.ref n) M=true:=by
 unfold tR;simp[h,hf]
@[simp] theorem Ys{kc:Nat}{fn:Fn}{ar:Nat}{dv:List D}{ms:MA}:yV kc fn ar dv ms e M=(ms e M).bind fun ds M1=>if(D.ref M1.length::(ds++dv)).length=ar then(fn (.ref M1.length::(ds++dv)) (M1++[.ins kc []])).bind fun r M2=>if De r=true then .ok (.ref M1.length) M2 else .bad else .bad:=id rfl
@[simp] theorem Wq:De .non=true:=id rfl
@[simp] theorem abW{op:Ec}{ms:MA}:w6 op ms e M=(ms e M).bind op:=id rfl
@[simp] theorem abX{T:String}{op:D→List D→Mem→Out D}{mo:ME}{ms:MA}:Q8 T op mo ms e M=(mo e M).bind fun d M1=>if Ea T d M1=true then(ms e M1).bind fun ds M2=>op d ds M2 else .bad:=id rfl
@[simp] theorem abU{m:ME}{lo hi:Wt}:mSl m lo hi e M=(m e M).bind fun d M1=>(lo e M1).bind fun l M2=>(hi e M2).bind fun h M3=>Ke d l h M3:=id rfl
@[simp] theorem Yp{m:ME}:HH m e M=(m e M).bind asI:=id rfl
@[simp] theorem Vd:vP e M= .ok none M:=id rfl
@[simp] theorem aaK{i:Int}:asI (.int i) M= .ok (some i) M:=id rfl
@[simp] theorem Yt{m:ME}:HN m e M=(m e M).bind FW:=id rfl
@[simp] theorem YL{ds:List D}:FW (.tup ds) M= .ok ⟨none,ds⟩ M:=id rfl
theorem Nx{n:Nat}{ds:List D}(h:M[n]? = some (.lst ds)):FW (.ref n) M= .ok ⟨some (n,ds),ds⟩ M:=by simp only[FW,dN h]
@[simp] theorem Yo{ms:MA}:qH ms e M=(ms e M).bind vA:=id rfl
theorem lW{j:Int}(h: -(2 ^ 62)≤j)(h2:j<2 ^ 24):vA [.int j] M= .ok ⟨none,qj 0 j.toNat⟩ M:=by simp only[vA];rw[if_pos ⟨h,h2⟩]
@[simp] theorem Yv{js:List Nat}{mi:MI}{tt:MT}{te:ME}:uT js mi tt te e M=(mi e M).bind fun it M1=>lF it.src tt te (tZ js e) it.ds [] M1:=id rfl
@[simp] theorem xF{C:Int→Int→Bool}{g:Int→Int→D}{i j:Int}:FZ C g (.int i) (.int j) M=if C i j=true then .ok (g i j) M else .bad:=id rfl
@[simp] theorem Xz{i j:Int}:rG (.int i) (.int j) M= .ok (.int (i+j)) M:=id rfl
@[simp] theorem wG{i j:Int}:sW (.int i) (.int j) M= .ok (.int (Builtin.bitAnd i j)) M:=id rfl
@[simp] theorem Z3{i j:Int}:Z4 (.int i) (.int j) M= .ok (.bl (decide (i<j))) M:=id rfl
@[simp] theorem Xv{i j:Int}:Lp (.int i) (.int j) M= .ok (.bl (decide (j<i))) M:=id rfl
@[simp] theorem Xw{i j:Int}:Qh (.int i) (.int j) M= .ok (.bl (decide (j≤i))) M:=id rfl
theorem wC{i j:Int}(h:(-(2 ^ 64)<i∧i<2 ^ 64)∨(-(2 ^ 64)<j∧j<2 ^ 64)):yj (.int i) (.int j) M= .ok (.int (i*j)) M:=by
 refine jr ?_;unfold Li;rw[xF,if_pos (by unfold V4;exact decide_eq_true h)]
theorem lV{i j:Int}(h:0<j)(h2:j<1073741824):rF (.int i) (.int j) M= .ok (.int (i / j)) M:=by
 unfold rF;rw[xF,if_pos (by unfold V5;exact decide_eq_true ⟨h,h2⟩)]
theorem bD{i j:Int}(h:0<j):cX (.int i) (.int j) M= .ok (.int (i % j)) M:=by
 unfold cX;rw[xF,if_pos (by unfold Zv;exact decide_eq_true h)]
@[simp] theorem Xn{i:Int}:Tr (.int i) M= .ok (.int (-i)) M:=id rfl
theorem Bb{d d':D}{a b:Dt}(h:iI M 12 d=some a)(h':iI M 12 d'=some b):Ih M d d'=some (aV a b):=by unfold Ih;rw[h,h']
theorem EY{d d':D}{b:Bool}(h:Ih M d d'=some b):sEq d d' M= .ok (.bl b) M:=by unfold sEq;rw[h]
theorem Lg{d d':D}{b:Bool}(h:Ih M d d'=some b):sNe d d' M= .ok (.bl (!b)) M:=by unfold sNe;rw[h]
theorem Ig{i j:Int}:Ih M (.int i) (.int j)=some (decide (i=j)):=by
 rw[Bb (a:= .int i) (b:= .int j) rfl rfl];unfold aV;rw[Bool.beq_eq_decide_eq]
theorem Rn{i j:Str}:Ih M (.str i) (.str j)=some (decide (i=j)):=by
 rw[Bb (a:= .str i) (b:= .str j) rfl rfl];unfold aV;rw[Bool.beq_eq_decide_eq]
theorem Vz{i j:Bool}:Ih M (.bl i) (.bl j)=some (decide (i=j)):=by
 rw[Bb (a:= .bl i) (b:= .bl j) rfl rfl];unfold aV;rw[Bool.beq_eq_decide_eq]
@[simp] theorem Hj{i j:Int}:sEq (.int i) (.int j) M= .ok (.bl (decide (i=j))) M:=EY Ig
@[simp] theorem Qe{i j:Int}:sNe (.int i) (.int j) M= .ok (.bl (!decide (i=j))) M:=Lg Ig
@[simp] theorem Z8{i j:Str}:sEq (.str i) (.str j) M= .ok (.bl (decide (i=j))) M:=EY Rn
@[simp] theorem abq{i j:Bool}:sEq (.bl i) (.bl j) M= .ok (.bl (decide (i=j))) M:=EY Vz
theorem Oi{d:D}{t:Dt}(h:iI M 12 d=some t):Ih M d d=some true:=by rw[Bb h h,xP]
@[simp] theorem Z6{d:D}:sIs d .non M= .ok (.bl (Rh d)) M:=id rfl
@[simp] theorem TJ{d:D}:zZ d .non M= .ok (.bl (!Rh d)) M:=id rfl
@[simp] theorem aat:Rh .non=true:=id rfl
@[simp] theorem aau{i:Int}:Rh (.int i)=false:=id rfl
@[simp] theorem aas{i:List D}:Rh (.tup i)=false:=id rfl
theorem Gp{α:Type}{xs:List α}{k:Int}(h:0≤k):Bm xs k=xs[k.toNat]? := by
 unfold Bm O8
 rw[if_pos h]
 by_cases z:k<xs.length
 ·rw[if_pos z];rfl
 ·rw[if_neg z]
  show none=_
  rw[List.getElem?_eq_none (by omega)]
theorem Hh{ds:List D}{k:Int}{d:D}(h0:0≤k)(h:ds[k.toNat]? = some d):aZ (.tup ds) (.int k) M= .ok d M:=
 jr (jr (by simp only[Ez,Gp h0,h]))
theorem Tw{ds:List D}{k:Int}{d:D}(h0:0≤k)(h:ds[k.toNat]? = some d):aZ (.cl ds) (.int k) M= .ok d M:=
 jr (jr (by simp only[Ez,zQ,Gp h0,h]))
theorem dU{n:Nat}{ds:List D}{k:Int}{d:D}(hM:M[n]? = some (.lst ds))(h0:0≤k)(h:ds[k.toNat]? = some d):aZ (.ref n) (.int k) M= .ok d M:=
 jr (jr (by simp only[Ez,zQ,dN hM,Gp h0,h]))
@[simp] theorem Xu{d:D}{r:List D}:aZ (.tup (d::r)) (.int 0) M= .ok d M:=Hh (by decide) rfl
@[simp] theorem Xr{d0 d:D}{r:List D}:aZ (.tup (d0::d::r)) (.int 1) M= .ok d M:=Hh (by decide) rfl
theorem gk{n:Nat}{ds:List D}(hM:M[n]? = some (.lst ds)):oO [.ref n] M= .ok (.int ds.length) M:=Mu (Mu (by simp only[Hg,uM,zQ,dN hM]))
@[simp] theorem Z5{ds:List D}:oO [.cl ds] M= .ok (.int ds.length) M:=id rfl
theorem Qd{n:Nat}{ds:List D}{lo hi:Option Int}(hM:M[n]? = some (.lst ds)):Ke (.ref n) lo hi M= .ok (.ref M.length) (M++[.lst (cut ds lo hi)]):=by simp only[Ke,zQ,dN hM]
theorem Ck{n:Nat}{ds:List D}{d:D}(hM:M[n]? = some (.lst ds))(h:ds.length<16777216):qi (.ref n) [d] M= .ok .non (M.set n (.lst (ds++[d]))):=by
 simp only[qi,hM];rw[nR,if_pos h]
theorem Ky{n:Nat}{ds:List D}(hM:M[n]? = some (.lst ds)):Ea "list" (.ref n) M=true:=by simp[Ea,dN hM]
@[simp] theorem ZQ{i:Int}:Ea "int" (.int i) M=true:=id rfl
@[simp] theorem Wf{i:Int}:Hl (.int i) [] M= .ok (.int (Builtin.Int.intBits i:Nat)) M:=id rfl
theorem Lr{n m:Nat}{ds es:List D}(h:M[n]? = some (.lst ds))(h':M[m]? = some (.lst es))(hl:ds.length+es.length≤16777216):rG (.ref n) (.ref m) M= .ok (.ref M.length) (M++[.lst (ds++es)]):=by
 refine jr ((wQ rfl).trans ?_)
 unfold Qi
 simp only[h,h']
 rw[if_pos (by rw[nR];exact hl)]
@[simp] theorem yO{i j:Int}:Ci [.int i,.int j] M= .ok (.int (if j > i then j else i)) M:=id rfl
@[simp] theorem yN{i j:Int}:wD [.int i,.int j] M= .ok (.int (if j<i then j else i)) M:=id rfl
@[simp] theorem O7{i:Int}:Cj [.int i,.ty "bool"] M= .ok (.bl false) M:=by unfold Cj;rfl
@[simp] theorem Qf{i:Bool}:Cj [.bl i,.ty "bool"] M= .ok (.bl true) M:=by unfold Cj;rfl
@[simp] theorem Xm:fZ e M= .next e M:=id rfl
def cY.seq(o:cY)(t:MS):cY:=match o with
 | .next e M=>t e M
 | .ret d M=> .ret d M
 | .brk e M=> .brk e M
 | .cont e M=> .cont e M
 | .exc c d e M=> .exc c d e M
 | .bad=> .bad
@[simp] theorem Z1{s t:MS}:cC s t e M=(s e M).seq t:=by
 unfold cC cY.seq
 cases s e M<;>rfl
@[simp] theorem Xi{t:MS}:(cY.next e M).seq t=t e M:=id rfl
@[simp] theorem ZZ{t:MS}{d:D}:(cY.ret d M).seq t= .ret d M:=id rfl
@[simp] theorem Z0{t:MS}{c:Nat}{d:D}:(cY.exc c d e M).seq t= .exc c d e M:=id rfl
@[simp] theorem Xy{m:ME}:Lq m e M=tD e (m e M) fun _ M1=> .next e M1:=id rfl
@[simp] theorem Z2{m:ME}:gR m e M=tD e (m e M) fun d M1=> .ret d M1:=id rfl
@[simp] theorem abo{c:MT}{s t:MS}:yQ c s t e M=tD e (c e M) fun k M1=>if k=true then s e M1 else t e M1:=id rfl
def tgO(o:Option Sl)(M:Mem):cY:=match o with
 | some e'=> .next e' M
 | none=> .bad
@[simp] theorem W5:tgO (some e) M= .next e M:=id rfl
@[simp] theorem Z9{m:ME}{g:Tg}:gm m g e M=tD e (m e M) fun d M1=>tgO (g d e) M1:=by
 unfold gm tgO;rfl
@[simp] theorem YW{i:Nat}{d:D}:gN i d e=some (e.set i (some d)):=id rfl
@[simp] theorem ady{n:Nat}{gs:Pa}{ds:List D}:gT n gs (.tup ds) e=if ds.length=n then gs ds e else none:=id rfl
@[simp] theorem YX{g:Tg}{gs:Pa}{d:D}{ds:List D}:n6 g gs (d::ds) e=(g d e).bind fun e'=>gs ds e':=id rfl
@[simp] theorem aax:Dh [] e=some e:=id rfl
def Jz(o:Option Mem)(e:Sl):cY:=match o with
 | some M=> .next e M
 | none=> .bad
@[simp] theorem Wl:Jz (some M) e= .next e M:=id rfl
@[simp] theorem Xx{cs:List Nat}{mo mv:ME}{f:Str}:wF cs mo mv f e M=tD e (mv e M) fun d M1=>tD e (mo e M1) fun o M2=>Jz (qC cs f d o M2) e:=by
 unfold wF Jz;rfl
theorem vI{cs:List Nat}{f:Str}{d:D}{n c:Nat}{fs:List (Str×D)}(h:M[n]? = some (.ins c fs))(hc:c∈cs)(hl:fs.length<1000):qC cs f d (.ref n) M=some (M.set n (.ins c (putD f d fs))):=by
 unfold qC;simp only[h];rw[if_pos ⟨hc,hl⟩]
@[simp] theorem Z7{mi:MI}{g:Tg}{b:MS}:z6 mi g b e M=tD e (mi e M) fun it M1=>dW it.src g b it.ds e M1:=id rfl
@[simp] theorem Te{n:Nat}{d:D}{ds:List D}:slots (n+1) (d::ds)=some d::slots n ds:=by
 unfold slots
 simp
@[simp] theorem Td{n:Nat}:slots (n+1) []=none::slots n []:=by
 unfold slots
 simp[List.replicate_succ]
@[simp] theorem Tc:slots 0 []=[]:=id rfl
def Lz(o:cY):Out D:=match o with
 | .ret d M=> .ok d M
 | .next _ M=> .ok .non M
 | .exc c d _ M=> .exc c d M
 | _=> .bad
@[simp] theorem Z_{n:Nat}{b:MS}{ds:List D}:eX n b ds M=Lz (b (slots n ds) M):=by
 unfold eX Lz
 cases b (slots n ds) M<;>rfl
@[simp] theorem XC{d:D}:Lz (.ret d M)= .ok d M:=id rfl
@[simp] theorem XD{c:Nat}{d:D}:Lz (.exc c d e M)= .exc c d M:=id rfl
@[simp] theorem Wg:Lz (.next e M)= .ok .non M:=id rfl
end
def cY.to(o:cY)(P:Sl→Mem→Prop)(R:D→Mem→Prop):Prop:=match o with
 | .next e M=>P e M
 | .cont e M=>P e M
 | .ret d M=>R d M
 | _=>False
@[simp] theorem ZS{e:Sl}{M:Mem}{P:Sl→Mem→Prop}{R:D→Mem→Prop}:(cY.next e M).to P R=P e M:=id rfl
@[simp] theorem aaZ{d:D}{M:Mem}{P:Sl→Mem→Prop}{R:D→Mem→Prop}:(cY.ret d M).to P R=R d M:=id rfl
theorem ql{src:Option (Nat×List D)}{g:Tg}{b:MS}(P:Nat→Sl→Mem→Prop){R:D→Mem→Prop}:∀(ds:List D) (k:Nat) {e:Sl} {M:Mem},P k e M→
  (∀i e M,k≤i→i≤k+ds.length→P i e M→fJ src M)→
  (∀i d e M,ds[i]? = some d→P (k+i) e M→∃e1,g d e=some e1∧(b e1 M).to (P (k+i+1)) R)→
  (∃e' M',dW src g b ds e M= .next e' M'∧P (k+ds.length) e' M')∨∃r M',dW src g b ds e M= .ret r M'∧R r M'
 | [],k,e,M,h0,hs,_=> .inl ⟨e,M,by unfold dW;rw[if_pos (hs k e M (Nat.le_refl _) (Nat.le_refl _) h0)],h0⟩
 | d::ds,k,e,M,h0,hs,hb=>by
  unfold dW
  rw[if_pos (hs k e M (Nat.le_refl _) (Nat.le_add_right _ _) h0)]
  obtain⟨e1,hg,h⟩:=hb 0 d e M rfl h0
  rw[hg]
  have go:∀{e2:Sl} {M2:Mem},P (k+1) e2 M2→(∃e' M',dW src g b ds e2 M2= .next e' M'∧P (k+(d::ds).length) e' M')∨∃r M',dW src g b ds e2 M2= .ret r M'∧R r M':=fun{e2 M2} p=>by
   have go:=ql (src:=src) (g:=g) (b:=b) P (R:=R) ds (k+1) (e:=e2) (M:=M2) p
    (fun i e M h1 h2=>hs i e M (by omega) (by simp only[List.length_cons];omega)) (fun i d e M hd hp=>by
     have e4:k+(i+1)=k+1+i:=by omega
     have:=hb (i+1) d e M (by simpa using hd) (by rw[e4];exact hp)
     rw[e4]at this
     exact this)
   have el:k+1+ds.length=k+(d::ds).length:=by simp only[List.length_cons];omega
   rw[el]at go
   exact go
  cases z:b e1 M with
  | next e2 M2=>rw[z]at h;simp only[z];exact go h
  | cont e2 M2=>rw[z]at h;simp only[z];exact go h
  | ret r M2=>rw[z]at h;simp only[z];exact .inr ⟨r,M2,rfl,h⟩
  | brk _ _=>rw[z]at h;exact h.elim
  | exc _ _ _ _=>rw[z]at h;exact h.elim
  | bad=>rw[z]at h;exact h.elim
theorem uA{src:Option (Nat×List D)}{g:Tg}{b:MS}(P:Nat→Sl→Mem→Prop){ds:List D}{e:Sl}{M:Mem}(h0:P 0 e M)
  (hs:∀i e M,i≤ds.length→P i e M→fJ src M)
  (hb:∀i d e M,ds[i]? = some d→P i e M→∃e1,g d e=some e1∧(b e1 M).to (P (i+1)) fun _ _=>False):
  ∃e' M',dW src g b ds e M= .next e' M'∧P ds.length e' M':=by
 rcases ql (src:=src) (g:=g) (b:=b) P (R:=fun _ _=>False) ds 0 h0 (fun i e M _ h2=>hs i e M (by omega)) (fun i d e M hd hp=>by
  rw[Nat.zero_add]at hp ⊢
  exact hb i d e M hd hp)with h | ⟨_,_,_,h⟩
 ·simpa using h
 ·exact h.elim
theorem sX{lo:Int}{n i:Nat}{d:D}(h:(qj lo n)[i]? = some d):i<n∧d= .int (lo+i):=by
 unfold qj at h
 rw[List.getElem?_map]at h
 obtain⟨k,hk,rfl⟩:=Option.map_eq_some_iff.mp h
 obtain⟨hi,e⟩:=List.getElem?_eq_some_iff.mp hk
 simp at hi e
 exact⟨hi,by rw[←e]⟩
theorem Hr{lo:Int}{n:Nat}:(qj lo n).length=n:=by simp[qj]
def iW(i:Int):List D→List D
 | []=>[]
 | d::r=> .tup [.int i,d]::iW (i+1) r
theorem uE:∀(i:Int) (ds:List D) (k:Nat),(iW i ds)[k]? = (ds[k]?).map fun d=>D.tup [.int (i+k),d]
 | i,[],k=>by simp[iW]
 | i,d::r,0=>by simp[iW]
 | i,d::r,k+1=>by
  simp only[iW,List.getElem?_cons_succ]
  rw[uE (i+1) r k]
  have:i+1+(k:Int)=i+((k+1:Nat):Int):=by omega
  rw[this]
theorem jC:∀(i:Int) (ds:List D),(iW i ds).length=ds.length
 | _,[]=>rfl
 | i,_::r=>by simp[iW,jC (i+1) r]
def uD(d k:D)(M:Mem):Out Itm:=match k with
 | .int i=>match d with
  | .ref n=>match jk M n with
   | some ds=> .ok ⟨some (n,ds),iW i ds⟩ M
   | none=> .bad
  | .cl ds=> .ok ⟨none,iW i ds⟩ M
  | .tup ds=> .ok ⟨none,iW i ds⟩ M
  | .kj ds=> .ok ⟨none,iW i ds⟩ M
  | _=> .bad
 | _=> .bad
section
variable{X:Cx}{ct:Nat→Addr}{W:aG}
theorem tQ{K:Frag}{Sq:Hp→List V→Prop}{ι:Nat→Addr}{M:Mem}{H:Hp}{xs:List V}{ds:List D}{k:Int}(R:Rl K ct ι M H)(hq:Sq H xs)(hd:fK K ct ι M.length H ds xs)(i:Nat):
  (∀d,(iW k ds)[i]? = some d→(Wv Sq k).go i H∧∀x H2,(Wv Sq k).Ko i H x H2→Ext K ι M.length H ι M.length H2∧Rl K ct ι M H2∧DV K ct ι M.length H2 d x)∧((iW k ds).length≤i→(Wv Sq k).stop i H):=by
 refine⟨fun d e=> ?_,fun h=>⟨xs,hq,by rw[hd.length];rw[jC]at h;exact h⟩⟩
 rw[uE]at e
 obtain⟨d0,e0,rfl⟩:=Option.map_eq_some_iff.mp e
 obtain⟨v,hv,dv⟩:=hd.at e0
 refine⟨⟨xs,v,hq,hv⟩,fun x H2 y=> ?_⟩
 obtain⟨p,y0,hp,rfl,rfl,hy⟩:=y
 have z:=hy xs hq
 rw[hv]at z
 cases z
 exact⟨Ext.fresh hp,R.fresh hp,.tup aW (.cons (.int _) (.cons (dv.mono (Ext.fresh hp)) .nil))⟩
end
section
variable{X:Cx}{ct:Nat→Addr}{W:aG}
def Fv(ma:ME):MI:=fun e M=>(ma e M).bind fun d M1=>uD d (.int 0) M1
theorem K9{a:Expr}{ma:ME}{es:List Expr}{n:Nat}{p pos tp:Pos}(hg:Gl X "enumerate")(hm:X.mg "enumerate" = none)(ha:SE X ct W a ma)
  (hs:starEach [a] X.env=[(false,eval a X.env)]:=by rfl):
  SI X ct W (.Tuple es n tp) (.Call (.Name "enumerate" p) [a] [] pos) (Fv ma):=PI.imp (Mj hg hm ha hs) fun σ H R q=>by
 obtain⟨ι,e,M,w,p⟩:=bf (cB:=b7 X.K ct) (f:=fun d _ M1=>uD d (.int 0) M1) q
 refine⟨ι,e,M,w,p.mono fun x H1 ⟨fL,e1,M2,d,w1,q1,p2⟩=> ?_⟩
 have r2:=w1.rl
 cases q1 with
 | @ref m hm=>
  simp only[uD]at p2
  cases z0:jk M2 m with
  | none=>rw[z0]at p2;exact p2.elim
  | some ds=>
   simp only[z0]at p2
   obtain⟨xs,hH,hd⟩:=r2.obj m _ (gb.mp z0)
   refine⟨_,rfl,.inl ⟨⟨xs,mK.of hH⟩,fun hz=>p2 fL _ H1 .refl r2 ⟨z0,by rw[jC,←hd.length];exact hz xs (mK.of hH),fun vG M3 H3 x3 r3 ok3 j=> ?_⟩⟩⟩
   obtain⟨xs3,hH3,hd3⟩:=r3.obj m _ (gb.mp ok3)
   rw[←x3.same m hm]
   exact tQ r3 (mK.of hH3) hd3 j
 | cl h1 h2=>exact⟨_,rfl,.inl ⟨⟨_,h1.sq⟩,fun hz=>p2 fL _ H1 .refl r2 ⟨trivial,by rw[jC,←h2.length];exact hz _ h1.sq,fun vG M3 H3 x3 r3 ok3 j=>tQ (Sq:=fun H xs=>mK X.K H _ xs) r3 (x3.pU _ _ h1).sq (h2.mono x3) j⟩⟩⟩
 | tup h1 h2=>exact⟨_,rfl,.inr ⟨⟨_,jX.of h1⟩,fun hz=>p2 fL _ H1 .refl r2 ⟨trivial,by rw[jC,←h2.length];exact hz _ (jX.of h1),fun vG M3 H3 x3 r3 ok3 j=>tQ (Sq:=fun H xs=>jX X.K H _ xs) r3 (jX.of (x3.tup _ _ h1)) (h2.mono x3) j⟩⟩⟩
 | kj h1 h2=>exact⟨_,rfl,.inr ⟨⟨_,.inr h1⟩,fun hz=>p2 fL _ H1 .refl r2 ⟨trivial,by rw[jC,←h2.length];exact hz _ (.inr h1),fun vG M3 H3 x3 r3 ok3 j=>tQ (Sq:=fun H xs=>jX X.K H _ xs) r3 (.inr h1) (h2.mono x3) j⟩⟩⟩
 | _=>exact p2.elim
@[simp] theorem Wn{ma:ME}{e:Sl}{M:Mem}:Fv ma e M=(ma e M).bind fun d M1=>uD d (.int 0) M1:=id rfl
@[simp] theorem VD{M:Mem}{ds:List D}{i:Int}:uD (.kj ds) (.int i) M= .ok ⟨none,iW i ds⟩ M:=id rfl
@[simp] theorem Xp{M:Mem}{ds:List D}:oO [.kj ds] M= .ok (.int ds.length) M:=id rfl
end
section
variable{X:Cx}{ct:Nat→Addr}{W:aG}
def one(ds:List D)(c:Nat)(e:Sl)(M:Mem):cY:=match ds with
 | [d]=> .exc c d e M
 | _=> .bad
def sRz(c:Nat)(ms:MA):MS:=fun e M=>tD e (ms e M) fun ds M1=>one ds c e M1
theorem K7{c k:Nat}{f:Addr}{fd:FuncData}{ps:List Str}{x:Str}{np cpos pos:Pos}{arg:Expr}{ms:MA}(Mx:V8 X.K (ct c) f)(hX:mH X.K (ct c) "at")(F:bh X.prog X.w X.K X.mg X.base GK k f fd ps (qg X.K "at"))(hr:dJ (k+1) X.A)(hb:Binds X.K fd ps [])
  (hg:Gl X x) (hm:X.mg x=some (.ref (ct c))) (hc:X.calm=true) (hW:Tk X W) (ha:SA X ct W [arg] ms) (hdb:(x==("__debug__" : Str))=false:=by decide) (he:starEach [arg] X.env=[(false,eval arg X.env)]:=by rfl):
  SS X ct W (.Raise (some (.Call (.Name x np) [arg] [] cpos)) none pos) (sRz c ms):=PS.imp (Mf Mx hX F hr hb hg hm hc hW ha hdb he) fun T σ H q=>by
 obtain⟨ι,e,M,w,p⟩:=j5 (rel:=vB X.K ct) (f:=fun ds e M1=>one ds c e M1) q
 refine⟨ι,e,M,w,p.mono fun vs H1 ⟨b_,e1,M1,ds,w1,q1,p1⟩=> ?_⟩
 unfold one at p1
 split at p1
 ·rename_i d
  obtain⟨v,rfl,qv⟩:=yC q1
  refine⟨v,rfl,fun dx hd=> ?_⟩
  have x2:Ext X.K b_ M1.length H1 b_ M1.length (upd H1 dx (.xd [("at",v)])):=Ext.fresh hd
  exact p1 b_ σ dx v _ x2 (w1.ext x2 (w1.rl.fresh hd)) aW (qv.mono x2)
 ·exact p1.elim
def Iz(K:Frag)(ct:Nat→Addr)(cv:Value):List (Nat×Bool)→Prop
 | []=>True
 | (c,b)::r=>exmOne K (.ref (ct c)) cv=some b∧Iz K ct cv r
theorem Iz.get{K:Frag}{cv:Value}:∀{cl:List (Nat×Bool)} {c:Nat} {b:Bool},Iz K ct cv cl→cl.lookup c=some b→exmOne K (.ref (ct c)) cv=some b
 | [],_,_,_,h=>by simp at h
 | (k,b')::r,c,b,⟨h1,h2⟩,h=>by
  rw[List.lookup_cons]at h
  cases z:c==k with
  | true=>rw[z]at h;cases h;cases(beq_iff_eq.mp z);exact h1
  | false=>rw[z]at h;exact h2.get h
def cY.Wi(o:cY):cY:=match o with
 | .exc _ _ _ _=> .bad
 | o=>o
def cY.less(i:Nat)(o:cY):cY:=match o with
 | .next e M=> .next (e.set i none) M
 | .brk e M=> .brk (e.set i none) M
 | .cont e M=> .cont (e.set i none) M
 | .ret d M=> .ret d M
 | .exc _ _ _ _=> .bad
 | .bad=> .bad
def Jc(cl:List (Nat×Bool))(h:Nat→D→Sl→Mem→cY)(o:cY):cY:=match o with
 | .exc c d e M=>match cl.lookup c with
  | some true=>h c d e M
  | some false=> .exc c d e M
  | none=> .bad
 | o=>o
def zX(i:Nat)(cl:List (Nat×Bool))(b s:MS):MS:=fun e M=>Jc cl (fun c d e' M'=>(s (e'.set i (some (.exc c d))) M').less i) (b e M)
theorem qb.less{K:Frag}{ι:Nat→Addr}{n i:Nat}{H:Hp}{o:cY}{T:Ends}(h:qb K ct W ι n H (o.less i) T):qb K ct W0 ι n H o (Ends.less T i):=by
 cases o with
 | exc c d e M=>exact False.elim h
 | next e M=>exact fun ι' σ' H' x w=>h ι' _ H' x (w.clear i)
 | ret e M=>exact h
 | brk e M=>exact fun ι' σ' H' x w=>h ι' _ H' x (w.clear i)
 | cont e M=>exact fun ι' σ' H' x w=>h ι' _ H' x (w.clear i)
 | bad=>exact h
variable{c:Str}{cp hpos pos:Pos}{b₀:Stmt}{suite body:List Stmt}{b s:MS}{cl:List (Nat×Bool)}{cv:Value}{v:V}
theorem K6{i:Nat}{n:Str}(hst:X.stack=X.env::X.outer)(hf:X.env.frame=some X.env.locals)(hx:Tk X W)(hv:∀u,RelV v u→u=cv)(hn:∀e,PE (X.held e) (.Name c cp) (tC v))(hm:Iz X.K ct cv cl)
  (nd:X.N.Nodup) (hi:X.N[i]? = some n) (hl:X.env.scope.names.lookup n=some .local) (hk:X.env.kindOf n=some .local)
  (hb:∀pins W1,Pb ((X.pp pins).wish (dX (X.pp pins) W1)) ct W1 body b) (hs:∀e,Pb (X.held e) ct W0 (b₀::suite) s):
  SS X ct W (.Try body [.ExceptHandler (some (.Name c cp)) (some n) (b₀::suite) hpos] [] [] pos) (zX i cl b s):=
 PS.imp (Ma (tb:=fun W1=>tS X.K ct W1 b) (ts:=tS X.K ct W0 s) hst hf hx hv hn nd hi hl hk hb hs) fun T σ H ⟨ι,e,M,w,p⟩=>by
  refine⟨ι,e,M,w,?_⟩
  unfold zX at p
  cases z:b e M with
  | exc xc xd xe xM=>
   rw[z]at p
   simp only[Jc]at p
   cases z2:cl.lookup xc with
   | none=>simp only[z2]at p;exact p.elim
   | some k=>
    simp only[z2]at p
    have e2:=hm.get z2
    cases k with
    | false=>exact fun ι' σ' dx v' H' x w' q1 q2=>⟨false,e2,p ι' σ' dx v' H' x w' q1 q2⟩
    | true=>
     refine fun ι' σ' dx v' H' x w' q1 q2=>⟨true,e2,?_⟩
     show ∀a,H' a=none→_
     intro a ha
     have x2:Ext X.K ι' xM.length H' ι' xM.length (upd H' a (xC a (ct xc) dx)):=Ext.fresh ha
     have w2:=w'.ext x2 (w'.rl.fresh ha)
     have dvx:DV X.K ct ι' xM.length (upd H' a (xC a (ct xc) dx)) (.exc xc xd) (.ref a):= .exc aW (x2.xd _ _ q1) (q2.mono x2)
     exact⟨ι',_,xM,w2.set i dvx,(qb.less p).ext (x.trans x2)⟩
  | next _ _=>rw[z]at p;exact p
  | ret _ _=>rw[z]at p;exact p
  | brk _ _=>rw[z]at p;exact p
  | cont _ _=>rw[z]at p;exact p
  | bad=>rw[z]at p;exact p
def RT(K:Frag)(ct:Nat→Addr):List Nat→Prop
 | []=>True
 | c::r=>(mH K (ct c) "at" ∧ OJ K (ct c))∧RT K ct r
theorem RT.get{K:Frag}:∀{cs:List Nat} {c:Nat},RT K ct cs→c∈cs→mH K (ct c) "at" ∧ OJ K (ct c)
 | [],_,_,h=>by simp at h
 | c::cs,d,⟨a,r⟩,h=>by
  rcases List.mem_cons.mp h with e | e
  ·subst e;exact a
  ·exact r.get e
def Bx(cs:List Nat)(d:D)(M:Mem):Out D:=match d with
 | .exc c x=>if c∈cs then .ok x M else .bad
 | _=> .bad
def Vb(cs:List Nat)(m:ME):ME:=fun e M=>(m e M).bind (Bx cs)
theorem Tj{cs:List Nat}{a:Expr}{ma:ME}{pos:Pos}(hc:RT X.K ct cs)(ha:SE X ct W a ma)(hb:attributeBase a "at" X.env (eval a X.env)=eval a X.env:=by rfl):SE X ct W (.Attribute a "at" pos) (Vb cs ma):=cR (Uc ha hb) fun σ H Q q=>by
 obtain⟨ι,e,M,w,p⟩:=bf (cB:=b7 X.K ct) (f:=fun d _ M1=>Bx cs d M1) q
 refine⟨ι,e,M,w,p.mono fun x H1 ⟨b_,e1,M1,d,w1,q1,p1⟩=> ?_⟩
 cases q1 with
 | @exc a dx c d v h1 h2 h3=>
  simp only[Bx]at p1
  by_cases z:c∈cs
  ·rw[if_pos z]at p1
   exact⟨a,ct c,dx,_,v,rfl,h1,h2,(hc.get z).1,(hc.get z).2.gn,rfl,p1 b_ v H1 .refl w1.rl h3⟩
  ·rw[if_neg z]at p1;exact p1.elim
 | _=>exact p1.elim
def Ja(K:Frag)(ct:Nat→Addr)(cv:Value):List (Nat×Bool)→Prop
 | []=>True
 | (c,b)::r=>(kitOne K (.ref (ct c)) cv=some b∧mH K (ct c) "at" ∧ OJ K (ct c))∧Ja K ct cv r
theorem Ja.get{K:Frag}{cv:Value}:∀{cl:List (Nat×Bool)} {c:Nat} {b:Bool},Ja K ct cv cl→cl.lookup c=some b→kitOne K (.ref (ct c)) cv=some b∧mH K (ct c) "at" ∧ OJ K (ct c)
 | [],_,_,_,h=>by simp at h
 | (k,b')::r,c,b,⟨h1,h2⟩,h=>by
  rw[List.lookup_cons]at h
  cases z:c==k with
  | true=>rw[z]at h;cases h;cases(beq_iff_eq.mp z);exact h1
  | false=>rw[z]at h;exact h2.get h
def Ji(k:D)(cl:List (Nat×Bool)):Ec:=fun ds M=>match ds with
 | [.exc c _,.cls k']=>match k with
  | .cls k=>if k=k' then(match cl.lookup c with
   | some b=> .ok (.bl b) M
   | none=> .bad)else .bad
  | _=> .bad
 | [.exc c _,.ty n']=>match k with
  | .ty n=>if n=n' then(match cl.lookup c with
   | some b=> .ok (.bl b) M
   | none=> .bad)else .bad
  | _=> .bad
 | _=> .bad
theorem Oq{k:Nat}{cl:List (Nat×Bool)}(h:Ja X.K ct (.ref (ct k)) cl):mJ X ct (.builtin "isinstance") (Ji (.cls k) cl):=by
 refine⟨_,Ov (f:= "at"),fun ι M H ds vs Q R hd p=> ?_⟩
 unfold Ji at p
 split at p
 ·rename_i c d k'
  obtain⟨v,v',rfl,q,q'⟩:=Ro hd
  cases q'
  dsimp only at p
  by_cases z:k=k'
  ·subst z
   rw[if_pos rfl]at p
   cases z2:cl.lookup c with
   | none=>rw[z2]at p;exact p.elim
   | some b=>
    rw[z2]at p
    cases q with
    | @exc a dx c d v h1 h2 h3=>
     exact⟨a,ct c,dx,_,.ref (ct k),.ref (ct k),b,rfl,rfl,h1,h2,(h.get z2).2.1,(h.get z2).2.2,(h.get z2).1,p ι _ H .refl R (.bl b)⟩
  ·rw[if_neg z]at p;exact p.elim
 ·exact p.elim
 ·exact p.elim
end
section
variable{e:Sl}{M:Mem}{c:Nat}{d:D}
@[simp] theorem abl{ms:MA}:sRz c ms e M=tD e (ms e M) fun ds M1=>one ds c e M1:=id rfl
@[simp] theorem abC:one [d] c e M= .exc c d e M:=id rfl
@[simp] theorem Wd{i:Nat}{cl:List (Nat×Bool)}{b s:MS}:zX i cl b s e M=Jc cl (fun c d e' M'=>(s (e'.set i (some (.exc c d))) M').less i) (b e M):=id rfl
theorem KH{cl:List (Nat×Bool)}{h:Nat→D→Sl→Mem→cY}(z:cl.lookup c=some true):Jc cl h (.exc c d e M)=h c d e M:=by simp only[Jc,z]
@[simp] theorem Wc{cl:List (Nat×Bool)}{h:Nat→D→Sl→Mem→cY}:Jc cl h (.next e M)= .next e M:=id rfl
@[simp] theorem Wo{i:Nat}:(cY.next e M).less i= .next (e.set i none) M:=id rfl
@[simp] theorem aac{cs:List Nat}{m:ME}:Vb cs m e M=(m e M).bind (Bx cs):=id rfl
@[simp] theorem Wz{cs:List Nat}:Bx cs (.exc c d) M=if c∈cs then .ok d M else .bad:=id rfl
@[simp] theorem Xl{k:Nat}{cl:List (Nat×Bool)}:Ji (.cls k) cl [.exc c d,.cls k] M=match cl.lookup c with
  | some b=> .ok (.bl b) M
  | none=> .bad:=by simp[Ji]
end
end S
namespace S
open PySem L2
variable{M:Mem}
theorem Lw{a b:Str}(h:a.length+b.length≤16777216):rG (.str a) (.str b) M= .ok (.str (a++b)) M:=by
 refine(wQ rfl).trans (jr ?_)
 simp only[Ho]
 rw[if_pos (by rw[nR];exact h)]
end S
namespace S
open PySem PySem.Spec PyProof.Rows L2
def d9:D→Option (List Int×Nat)
 | .int i=>some ([i],0)
 | .str s=>some (WW s,1)
 | .tup ds=>(kI ds).map fun is=>(is,is.length+2)
 | _=>none
def jJ:List D→Option (List Int×List Nat)
 | []=>some ([],[])
 | d::ds=>match d9 d,jJ ds with
  | some p,some q=>some (p.1++q.1,p.2::q.2)
  | _,_=>none
def E_:D→Option (List Int×List Nat)
 | .tup ds=>jJ ds
 | _=>none
def JN(d:D):List Int:=match d9 d with
 | some p=>p.1
 | none=>match E_ d with
  | some p=>p.1
  | none=>[]
theorem BV:∀{a b:List Nat} {r r':List Int},a.map Int.ofNat++[-1]++r=b.map Int.ofNat++[-1]++r'→a=b∧r=r'
 | [],[],r,r',h=>by simpa using h
 | [],y::b,r,r',h=>by
  simp at h
 | x::a,[],r,r',h=>by
  simp at h
 | x::a,y::b,r,r',h=>by
  simp only[List.map_cons,List.cons_append]at h
  injection h with h1 h2
  obtain⟨e1,e2⟩:=BV h2
  have:x=y:=Int.ofNat.inj h1
  exact⟨by rw[this,e1],e2⟩
theorem j4:∀{ds:List D} {is:List Int},kI ds=some is→ds=is.map D.int
 | [],is,h=>by cases h;rfl
 | d::r,is,h=>by
  cases d with
  | int i=>
   simp only[kI]at h
   obtain⟨js,h1,rfl⟩:=Option.map_eq_some_iff.mp h
   rw[j4 h1];rfl
  | _=>simp[kI]at h
theorem Cr{d d':D}{c c' r r':List Int}{k:Nat}(h:d9 d=some (c,k))(h':d9 d'=some (c',k))(e:c++r=c'++r'):d=d'∧r=r':=by
 cases d with
 | int i=>
  cases d' with
  | int j=>simp only[d9]at h h';cases h;cases h';simp at e;exact⟨by rw[e.1],e.2⟩
  | str s=>simp only[d9]at h h';cases h;cases h'
  | tup ds=>simp only[d9]at h h';cases h;obtain⟨is,_,q⟩:=Option.map_eq_some_iff.mp h';simp at q
  | _=>simp[d9]at h'
 | str s=>
  cases d' with
  | int j=>simp only[d9]at h h';cases h;cases h'
  | str s'=>
   simp only[d9]at h h'
   cases h;cases h'
   obtain⟨e1,e2⟩:=BV e
   refine⟨?_,e2⟩
   cases s;cases s'
   simp at e1
   rw[e1]
  | tup ds=>simp only[d9]at h h';cases h;obtain⟨is,_,q⟩:=Option.map_eq_some_iff.mp h';simp at q
  | _=>simp[d9]at h'
 | tup ds=>
  simp only[d9]at h
  obtain⟨is,hi,q⟩:=Option.map_eq_some_iff.mp h
  simp at q
  obtain⟨rfl,rfl⟩:=q
  cases d' with
  | int j=>simp[d9]at h'
  | str s=>simp[d9]at h'
  | tup ds'=>
   simp only[d9]at h'
   obtain⟨js,hj,q⟩:=Option.map_eq_some_iff.mp h'
   simp at q
   obtain⟨rfl,ek⟩:=q
   obtain⟨e1,e2⟩:=List.append_inj e ek.symm
   rw[j4 hi,j4 hj,e1]
   exact⟨rfl,e2⟩
  | _=>simp[d9]at h'
 | _=>simp[d9]at h
theorem jA:∀{ds ds':List D} {c:List Int} {ks:List Nat},jJ ds=some (c,ks)→jJ ds'=some (c,ks)→ds=ds'
 | [],[],_,_,_,_=>rfl
 | [],d'::ds',c,ks,h,h'=>by
  simp only[jJ]at h h'
  cases h
  split at h'<;>simp at h'
 | d::ds,[],c,ks,h,h'=>by
  simp only[jJ]at h h'
  cases h'
  split at h<;>simp at h
 | d::ds,d'::ds',c,ks,h,h'=>by
  simp only[jJ]at h h'
  split at h
  ·rename_i p q hp hq
   split at h'
   ·rename_i p' q' hp' hq'
    simp at h h'
    obtain⟨h1,h2⟩:=h
    obtain⟨h1',h2'⟩:=h'
    subst h1 h2
    simp at h2'
    obtain⟨e1,e2⟩:=Cr (d:=d) (d':=d') (k:=p.2) (by rw[hp]) (by rw[hp',←h2'.1]) h1'.symm
    have:=jA (ds:=ds) (ds':=ds') (c:=q.1) (ks:=q.2) (by rw[hq]) (by rw[hq',e2,←h2'.2])
    rw[e1,this]
   ·cases h'
  ·cases h
inductive Srt (ds:List D):Prop
 | flat (k:Nat) (hk:k<2) (h:∀d∈ds,∃c,d9 d=some (c,k)):Srt ds
 | rows (k:Nat) (ks:List Nat) (h:∀d∈ds,∃c,E_ d=some (c,k::ks)):Srt ds
theorem CQ{d:D}{c:List Int}{k:Nat}(h:d9 d=some (c,k)):JN d=c:=by unfold JN;rw[h]
theorem wO:∀{is:List Int},jJ (is.map D.int)=some (is,is.map fun _=>0)
 | []=>rfl
 | i::is=>by
  have:=wO (is:=is)
  simp only[List.map_cons,jJ,d9,this]
  rfl
theorem HS{d:D}{c:List Int}{ks:List Nat}(h:E_ d=some (c,ks)):JN d=c:=by
 cases d with
 | tup ds=>
  unfold JN
  cases z:d9 (.tup ds)with
  | none=>dsimp only;rw[h]
  | some p=>
   dsimp only
   simp only[d9]at z
   obtain⟨is,hi,q⟩:=Option.map_eq_some_iff.mp z
   rw[←q]
   simp only[E_]at h
   rw[j4 hi,wO]at h
   simp at h
   exact h.1
 | _=>simp[E_]at h
theorem Srt.inj{ds:List D}(h:Srt ds):∀a∈ds,∀b∈ds,JN a=JN b→a=b:=by
 intro a ha b hb e
 cases h with
 | flat k hk h=>
  obtain⟨c,h1⟩:=h a ha
  obtain⟨c',h2⟩:=h b hb
  rw[CQ h1,CQ h2]at e
  exact(Cr (r:=[]) (r':=[]) h1 h2 (by rw[e])).1
 | rows k ks h=>
  obtain⟨c,h1⟩:=h a ha
  obtain⟨c',h2⟩:=h b hb
  rw[HS h1,HS h2]at e
  subst e
  cases a with
  | tup xs=>cases b with
   | tup ys=>rw[jA (show jJ xs=some (c,k::ks)from h1) (show jJ ys=some (c,k::ks)from h2)]
   | _=>simp[E_]at h2
  | _=>simp[E_]at h1
open Classical in
section
variable{X:Cx}{ct:Nat→Addr}{W:aG}{pos:Pos}{K:Frag}{ι:Nat→Addr}{n:Nat}{H:Hp}
open Classical in
variable{o:Expr}{mo:ME}{apos p1 pos1:Pos}
end
end S
namespace L2
open PySem PySem.Spec PyProof.Rows
section
variable{X:Cx}
theorem yF:∀{ws:List Str} {us:List Value},Vals (ws.map V.str) us→∃l:List (Str×Tok),us=strValues l∧l.map (·.1)=ws
 | [],_,.nil=>⟨[],rfl,rfl⟩
 | w::ws,_,.cons ⟨t,e⟩ r=>by
  obtain⟨l,e1,e2⟩:=yF r
  subst e
  exact⟨(w,t)::l,by rw[e1];rfl,by rw[←e2];rfl⟩
theorem yJ:∀(l:List (Str×Tok)),Vals ((l.map (·.1)).map V.str) (strValues l)
 | []=> .nil
 | (_,t)::l=> .cons ⟨t,rfl⟩ (yJ l)
def rJoin:V→List V→Hp→VK→Prop:=fun x vs H Q=>∃y a ws,x= .str y∧vs=[.ref a]∧H a=some (.lst (ws.map V.str))∧JoinOk y ws=true∧Q (.str (Txt.join y ws)) H
theorem Q3:V9 X "str.join" rJoin:=by
 intro pins s σ H x vs v us Q I rx r h
 obtain⟨y,a,ws,rfl,rfl,hH,hk,q⟩:=h
 obtain⟨t,rfl⟩:=rx
 obtain⟨u,rfl,ru⟩:=vals1 r
 cases ru
 obtain⟨z,its,n,rv,hl,e⟩:=I.JF hH
 obtain⟨l,rfl,rfl⟩:=yF rv
 exact SC.join ⟨_,e,rfl,n,rfl⟩ rfl hk fun t' k=>⟨.str _,H,I.tok k,⟨_,rfl⟩,q⟩
theorem split_len(x y:Str):(Txt.split x y).length≤x.length+2:=by
 unfold Txt.split
 split
 ·simp
 ·split
  ·simp
  ·rw[length_partsBetween]
   have:=StrLaws.occ_length_le x y 0 x.length (x.length+1)
   omega
def TX:V→List V→Hp→VK→Prop:=fun x vs H Q=>∃y z,x= .str y∧vs=[.str z]∧y.length+2≤sizeLine∧(z.length==0)=false∧∀p,H p=none→Q (.ref p) (upd H p (.lst ((Txt.split y z).map V.str)))
theorem MN:V9 X "str.split" TX:=by
 intro pins s σ H x vs v us Q I rx r h
 obtain⟨y,z,rfl,rfl,hl,hz,q⟩:=h
 obtain⟨t,rfl⟩:=rx
 obtain⟨u,rfl,t',rfl⟩:=vals1 r
 have fin:∀(l:List (Str×Tok)) (k:Nat),l.map (·.1)=Txt.split y z→EP X pins σ Q (.ref s.heap.objs.size) {s with heap:=s.heap.push {cls:= .type "list",data:= .seq (strValues l).toArray},toks:=k}:=fun l k e=>
  ⟨.ref _,_,I.YB (t':=k) (by rw[←e];exact yJ l) (by rw[List.length_map];exact Nat.le_trans (split_len y z) hl),rfl,q _ I.fresh⟩
 have Vu:(Builtin.Str.partsBetween y (Builtin.Str.occurrences y z 0 y.length (y.length+1)) z.length).length≤sizeLine:=by
  rw[length_partsBetween]
  have:=StrLaws.occ_length_le y z 0 y.length (y.length+1)
  omega
 cases h1:(decide (y.length<z.length)||decide (Builtin.Str.strKind y<Builtin.Str.strKind z))with
 | true=>exact call_meets F.slot_str_split (typeIs_str _ _ _) F.entry_str_split (F.args_str_split_2 _ _) (meets_str_split_cannot_occur y z t t' h1) (fin [(y,t)] s.toks (if_pos h1).symm)
 | false=>
  have n1:=ne_true_of_eq_false h1
  cases h2:(Builtin.Str.occurrences y z 0 y.length (y.length+1)).isEmpty with
  | true=>exact call_meets F.slot_str_split (typeIs_str _ _ _) F.entry_str_split (F.args_str_split_2 _ _) (meets_str_split_not_found y z t t' h1 hz h2) (fin [(y,t)] s.toks ((if_neg n1).trans (if_pos h2)).symm)
  | false=>
   have n2:=ne_true_of_eq_false h2
   refine call_meets F.slot_str_split (typeIs_str _ _ _) F.entry_str_split (F.args_str_split_2 _ _) (meets_str_split_sep y z t t' h1 hz h2 (by omega) Vu) ?_
   have:=fin (numbered s.toks (Builtin.Str.partsBetween y (Builtin.Str.occurrences y z 0 y.length (y.length+1)) z.length)) (s.toks+(Builtin.Str.partsBetween y (Builtin.Str.occurrences y z 0 y.length (y.length+1)) z.length).length) ((numbered_texts _ _).trans ((if_neg n1).trans (if_neg n2)).symm)
   rw[←strsFrom_eq]at this
   exact this
end
section
variable{X:Cx}
def Xq(td ty tv:TE):TS:=fun D σ H=>tv σ H fun v H1=>td σ H1 fun x H2=>ty σ H2 fun y H3=>Sh x y v H3 fun H4=>D.nx σ H4
theorem Qw{o i value:Expr}{td ty tv:TE}{pos pos':Pos}(ho:PE X o td)(hi:PE X i ty)(hv:PE X value tv)(hs:swapsWith value (some (.Subscript o i pos')) pos.line X.env=pure false):PS X (.Assign [.Subscript o i pos'] value pos) (Xq td ty tv):=by
 intro pins s σ H D I h
 refine wpAny_Assign_Subscript (dR (hv pins s σ H _ I h) fun r t1 ⟨v,H1,I1,rv,q1⟩=>dR (ho pins t1 σ H1 _ I1 q1) fun u t2 ⟨x,H2,I2,rx,q2⟩=>dR (hi pins t2 σ H2 _ I2 q2) fun iv t3 ⟨y,H3,I3,ry,q3⟩=> ?_) hs
 exact dR (set_list pins t3 σ H3 x y v u iv r _ I3 rx ry rv q3) fun _ t4 ⟨H4,I4,q4⟩=>⟨σ,H4,I4,q4⟩
end
end L2
namespace S
open PySem PySem.Spec PyProof.Rows L2
section
variable{X:Cx}{ct:Nat→Addr}{W:aG}{pos pos':Pos}
def strsOf:List D→Option (List Str)
 | []=>some []
 | .str w::r=>(strsOf r).map (w:: ·)
 | _=>none
theorem yK{K:Frag}{ι:Nat→Addr}{n:Nat}{H:Hp}:∀{ds:List D} {ws:List Str} {vs:List V},strsOf ds=some ws→fK K ct ι n H ds vs→vs=ws.map V.str
 | [],_,_,h,.nil=>by cases h;rfl
 | d::r,ws,_,h,.cons q qs=>by
  cases q with
  | str w=>
   simp only[strsOf]at h
   obtain⟨us,h1,rfl⟩:=Option.map_eq_some_iff.mp h
   rw[yK h1 qs]
   rfl
  | _=>simp only[strsOf]at h;cases h
theorem G5{K:Frag}{ι:Nat→Addr}{n:Nat}{H:Hp}:∀(ws:List Str),fK K ct ι n H (ws.map D.str) (ws.map V.str)
 | []=> .nil
 | w::ws=> .cons (.str w) (G5 ws)
def yP:D→List D→Mem→Out D:=fun d ds M=>match d,ds with
 | .str y,[.ref n]=>match M[n]? with
  | some (.lst es)=>match strsOf es with
   | some ws=>if JoinOk y ws=true then .ok (.str (Txt.join y ws)) M else .bad
   | none=> .bad
  | _=> .bad
 | _,_=> .bad
theorem Q5:SN X ct "str" "str.join" yP:=by
 refine⟨_,Q3,fun ι M H d ds v vs Q R q qs p=> ?_⟩
 unfold yP at p
 split at p
 ·rename_i y n
  cases jd q
  obtain⟨u,rfl,qu⟩:=yC qs
  obtain⟨hn,rfl⟩:=je qu
  split at p
  ·rename_i es e1
   split at p
   ·rename_i ws e2
    split at p
    ·rename_i hk
     obtain⟨xs,hH,hd⟩:=R.obj n _ e1
     have ex:=yK e2 hd
     subst ex
     exact⟨y,_,ws,rfl,rfl,hH,hk,p ι _ H .refl R (.str _)⟩
    ·exact p.elim
   ·exact p.elim
  ·exact p.elim
 ·exact p.elim
def pG:D→List D→Mem→Out D:=fun d ds M=>match d,ds with
 | .str y,[.str z]=>if y.length+2≤sizeLine∧(z.length==0)=false then .ok (.ref M.length) (M++[.lst ((Txt.split y z).map D.str)])else .bad
 | _,_=> .bad
theorem CK:SN X ct "str" "str.split" pG:=by
 refine⟨_,MN,fun ι M H d ds v vs Q R q qs p=> ?_⟩
 unfold pG at p
 split at p
 ·rename_i y z
  cases jd q
  obtain⟨u,rfl,qu⟩:=yC qs
  cases jd qu
  split at p
  ·rename_i hz
   exact⟨y,z,rfl,rfl,hz.1,hz.2,fun pp hp=>pK R (G5 _) hp p⟩
  ·exact p.elim
 ·exact p.elim
def Hi:D→List D→Mem→Out D:=fun d ds M=>match d,ds with
 | .ref n,[.ref k]=>match M[n]?,M[k]? with
  | some (.lst es),some (.lst fs)=>if es.length+fs.length≤sizeLine then .ok .non (M.set n (.lst (es++fs)))else .bad
  | _,_=> .bad
 | _,_=> .bad
theorem Wk:SN X ct "list" "list.extend" Hi:=by
 refine⟨_,Jw,fun ι M H d ds v vs Q R q qs p=> ?_⟩
 unfold Hi at p
 split at p
 ·rename_i n k
  obtain⟨hn,rfl⟩:=je q
  obtain⟨y,rfl,qy⟩:=yC qs
  obtain⟨hk,rfl⟩:=je qy
  split at p
  ·rename_i es fs e1 e2
   split at p
   ·rename_i hz
    obtain⟨xs,hH,hd⟩:=R.obj n _ e1
    obtain⟨ys,hB,hd2⟩:=R.obj k _ e2
    have x2:Ext X.K ι M.length H ι M.length (upd H (ι n) (.lst (xs++ys))):=Ext.chg hH (fun _ z=>nomatch z) (fun _ _ z=>nomatch z)
    refine⟨_,_,xs,ys,rfl,rfl,hH,hB,by rw[hd.length,hd2.length];exact hz,?_⟩
    exact p ι .non _ (by rw[List.length_set];exact x2) (R.chg hn hH (fun _ z=>nomatch z) (fun _ _ z=>nomatch z) ⟨_,aW,(hd.append hd2).mono x2⟩) .non
   ·exact p.elim
  ·exact p.elim
 ·exact p.elim
def Fy(M:Mem)(o k d:D):Option Mem:=match o,k with
 | .ref n,.int i=>match M[n]? with
  | some (.lst es)=>(O8 es.length i).map fun j=>M.set n (.lst (es.set j d))
  | _=>none
 | _,_=>none
def zY(mo mk mv:ME):MS:=fun e M=>tD e (mv e M) fun d M1=>tD e (mo e M1) fun o M2=>tD e (mk e M2) fun k M3=>Jz (Fy M3 o k d) e
theorem G6{o i value:Expr}{mo mk mv:ME}(ho:SE X ct W o mo)(hi:SE X ct W i mk)(hv:SE X ct W value mv)(hs:swapsWith value (some (.Subscript o i pos')) pos.line X.env=pure false:=by rfl):
  SS X ct W (.Assign [.Subscript o i pos'] value pos) (zY mo mk mv):=PS.imp (Qw ho hi hv hs) fun T σ H q=>by
 obtain⟨ι,e,M,w,p⟩:=j5 (rel:=b7 X.K ct) (f:=fun d e M1=>tD e (mo e M1) fun o M2=>tD e (mk e M2) fun k M3=>Jz (Fy M3 o k d) e) q
 refine⟨ι,e,M,w,p.mono fun vd H1 ⟨b_,e1,M1,d,w1,q1,p1⟩=>⟨b_,e1,M1,w1,?_⟩⟩
 cases z:mo e1 M1 with
 | bad=>simp only[z,vL]at p1;exact p1
 | exc xc xd xM=>simp only[z,vK]at p1;exact fun fL dx v H2 x r q1 q2=>p1 fL σ dx v H2 x (w1.ext x r) q1 q2
 | ok o' M2=>
  simp only[z,Ad]at p1
  intro fL vo H2 x2 r2 q2
  have p2:=p1.ext x2
  have w2:=w1.ext x2 r2
  refine⟨fL,e1,M2,w2,?_⟩
  cases z2:mk e1 M2 with
  | bad=>simp only[z2,vL]at p2;exact p2
  | exc xc xd xM=>simp only[z2,vK]at p2;exact fun vG dx v H3 x r q1 q2=>p2 vG σ dx v H3 x (w2.ext x r) q1 q2
  | ok k M3=>
   simp only[z2,Ad]at p2
   intro vG vk H3 x3 r3 q3
   have p3:=p2.ext x3
   have w3:=w2.ext x3 r3
   cases z3:Fy M3 o' k d with
   | none=>rw[z3]at p3;exact p3.elim
   | some M4=>
    rw[z3]at p3
    unfold Fy at z3
    split at z3
    ·rename_i n i
     obtain⟨hn,rfl⟩:=je q2
     cases ie q3
     split at z3
     ·rename_i es e1'
      obtain⟨j,hj,rfl⟩:=Option.map_eq_some_iff.mp z3
      have hn3:n<M3.length:=Nat.lt_of_lt_of_le hn x3.le
      obtain⟨xs,hH,hd⟩:=r3.obj n _ e1'
      have x4:Ext X.K vG M3.length H3 vG M3.length (upd H3 (vG n) (.lst (xs.set j vd))):=Ext.chg hH (fun _ z=>nomatch z) (fun _ _ z=>nomatch z)
      have r4:Rl X.K ct vG (M3.set n (.lst (es.set j d))) (upd H3 (vG n) (.lst (xs.set j vd))):=r3.chg hn3 hH (fun _ z=>nomatch z) (fun _ _ z=>nomatch z) ⟨_,aW,(hd.set j ((q1.mono x2).mono x3)).mono x4⟩
      have x5:Ext X.K vG M3.length H3 vG (M3.set n (.lst (es.set j d))).length (upd H3 (vG n) (.lst (xs.set j vd))):=by rw[List.length_set];exact x4
      refine⟨_,xs,i,j,rfl,rfl,?_,by rw[hd.length];exact hj,?_⟩
      ·rw[←x3.same n hn];exact hH
      ·rw[←x3.same n hn]
       exact p3 vG σ _ x5 (w3.ext x5 r4)
     ·cases z3
    ·cases z3
end
theorem Eb{N ps:List Str}{sc:Scope}(h1:sc.kind= .function:=by rfl)(h2:sc.isCoroutine=false:=by rfl)(h3:sc.isGenerator=false:=by rfl)(h4:N.Nodup:=by decide +kernel)(h5:N.take ps.length=ps:=by rfl)
  (h6:∀x∈ps,sc.names.lookup x=some .local∨sc.names.lookup x=some .cell:=by decide +kernel) (h7:∀y∈sc.names,y.2≠ .free:=by decide +kernel):bA N ps sc:=⟨h1,h2,h3,h4,h5,h6,h7⟩
section
variable{e:Sl}{M:Mem}
@[simp] theorem We{mo mk mv:ME}:zY mo mk mv e M=tD e (mv e M) fun d M1=>tD e (mo e M1) fun o M2=>tD e (mk e M2) fun k M3=>Jz (Fy M3 o k d) e:=id rfl
theorem yM{y z:Str}(h:y.length+2≤16777216)(hz:(z.length==0)=false):pG (.str y) [.str z] M= .ok (.ref M.length) (M++[.lst ((Txt.split y z).map D.str)]):=by
 simp only[pG]
 rw[if_pos ⟨by rw[nR];exact h,hz⟩]
theorem v_:∀(ws:List Str),strsOf (ws.map D.str)=some ws
 | []=>rfl
 | w::ws=>by simp only[List.map_cons,strsOf,v_ ws,Option.map_some]
theorem Ln{y:Str}{n:Nat}{ws:List Str}(h:M[n]? = some (.lst (ws.map D.str)))(hk:JoinOk y ws=true):yP (.str y) [.ref n] M= .ok (.str (Txt.join y ws)) M:=by
 simp only[yP,h,v_,hk,if_true]
end
section
variable{X:Cx}{ct:Nat→Addr}
def notStar:Expr→Bool
 | .Starred _ _=>false
 | _=>true
theorem Xf{a:Expr}{es:List Expr}{env:PySem.Env}(h:notStar a=true):starEach (a::es) env=(false,eval a env)::starEach es env:=by
 cases a<;>first | rfl | cases h
theorem bM{W:aG}{a:Expr}{es:List Expr}{ma:ME}{ms:MA}(ha:SE X ct W a ma)(hr:SA X ct W es ms)(h:notStar a=true:=by rfl):SA X ct W (a::es) (ao ma ms):=aj ha hr (Xf h)
end
end S
namespace L2
open PySem PySem.Spec PyProof.Rows
section
variable{X:Cx}
def part3(y z:Str):List Str:=match Builtin.Str.occurrences y z 0 y.length 1 with
 | i::_=>[Builtin.Str.strSub y 0 i,z,Builtin.Str.strSub y (i+z.length) y.length]
 | []=>[y,Str.empty,Str.empty]
variable{pins:List (Addr×Obj)}{σ:St}{H:Hp}{s:Shared}
end
end L2
namespace S
open PySem PySem.Spec PyProof.Rows L2
section
variable{X:Cx}{ct:Nat→Addr}{W:aG}
def acY:D→List D→Mem→Out D:=fun d ds M=>match d,ds with
 | .str y,[.str z]=>if y.length≤sizeLine∧(z.length==0)=false then .ok (.tup ((part3 y z).map D.str)) M else .bad
 | _,_=> .bad
end
end S
namespace L2
open PySem PySem.Spec PyProof.Rows
section
variable{X:Cx}
theorem MK:V9 X "str.upper" (fun x vs H Q=>∃y,x= .str y∧vs=[]∧(∀c∈y.cps.toList,c<128)∧y.length≤1000∧Q (.str ⟨y.cps.map up1⟩) H):=by
 intro pins s σ H x vs v us Q I rx r h
 obtain⟨y,rfl,rfl,hA,hl,q⟩:=h
 obtain⟨t,rfl⟩:=rx
 cases r
 have hu:=upper_ascii hA
 have e1:(Txt.upper y).length=y.length:=by rw[hu];exact Array.size_map
 have hf:Builtin.Str.tooLong (Txt.upper y).length=false:=by
  rw[e1];unfold Builtin.Str.tooLong;exact decide_eq_false (by simp[sizeLine]at *;omega)
 refine call_gives F.slot_str_upper (typeIs_str _ _ _) F.entry_str_upper (F.args_str_upper_1 _) (gives_str_upper y t hf) ?_
 refine⟨?_,.str (Txt.upper y),H,I.tok _,⟨_,rfl⟩,by rw[hu];exact q⟩
 show(Txt.upper y).length≤_
 rw[e1];simp[sizeLine]at *;omega
end
end L2
namespace S
open PySem PySem.Spec PyProof.Rows L2
section
variable{X:Cx}{ct:Nat→Addr}{W:aG}
def zW:D→List D→Mem→Out D:=fun d ds M=>match d,ds with
 | .str y,[]=>if(∀c∈y.cps.toList,c<128)∧y.length≤1000 then .ok (.str ⟨y.cps.map up1⟩) M else .bad
 | _,_=> .bad
theorem MP:SN X ct "str" "str.upper" zW:=by
 refine⟨_,MK,fun ι M H d ds v vs Q R q qs p=> ?_⟩
 unfold zW at p
 split at p
 ·rename_i y
  cases jd q
  cases qs
  split at p
  ·rename_i hc
   exact⟨y,rfl,rfl,hc.1,hc.2,p ι _ H .refl R (.str _)⟩
  ·exact p.elim
 ·exact p.elim
end
section
variable{X:Cx}{ct:Nat→Addr}{W:aG}
theorem zR{x:Str}{a:Addr}{ds:List D}{pos:Pos}(hg:Gl X x)(hm:X.mg x=some (.ref a))(hk:∀ι n H,DV X.K ct ι n H (.kj ds) (.ref a))(hd:(x==("__debug__" : Str))=false:=by decide):SE X ct W (.Name x pos) (mC (.kj ds)):=
 cR (z9 (v:= .ref a) hg hm rfl hd) fun _ _ _ h=>vZ (fun _ _=>hk _ _ _) h
theorem xN{K:Frag}{ι:Nat→Addr}{n:Nat}{H:Hp}{a:Addr}{o:Obj}{its:Array Value}{k:Nat}{xs:List V}{ds:List D}(h1:K.lookup a=some o)(h2:o.cls= .type "tuple")(h3:o.data= .seq its k)
  (h4:its.size≤1000) (h5:Vals xs its.toList) (h6:fK K ct ι n H ds xs):DV K ct ι n H (.kj ds) (.ref a):=
 .kj ⟨o,its,k,h1,h2,h3,Nat.le_trans h4 (by simp[sizeLine]),h5⟩ h6
end
end S
set_option Elab.async false
set_option maxHeartbeats 0
set_option maxRecDepth 100000
set_option linter.all false
namespace My
open PySem L2 S
def jG:MS:=
 (cC (gm (aB cX (aB rG (aB rG (aB yj (az 3) (aB rG (aB rF (az 3) (mC (.int 1009))) (mC (.int 69621)))) (az 4)) (mC (.int 1))) (mC (.int 2147483647))) (gN 3))
 (Lq (Q8 "list" qi (az 2) (ao (az 3) aL))))
def pY:MS:=
 (z6 (qH (ao (az 1) aL)) (gN 4) jG)
def cN:MS:=
 (cC (gm (h_ aL) (gN 2))
 (cC (gm (aB cX (aB rG (aB yj (az 0) (mC (.int 48271))) (mC (.int 7919))) (mC (.int 2147483647))) (gN 3))
 (cC pY
 (gR (az 2)))))
def eZ:Fn:=eX 5 cN
def oF:MS:=
 (yQ (bF (aB Z4 (az 1) (w6 oO (ao (az 0) aL)))) (gR (aB aZ (az 0) (az 1))) fZ)
def bZ:MS:=
 (cC oF
 (gR (mC (.int 0))))
def fD:Fn:=eX 2 bZ
def iB:MS:=
 (yQ (bF (aB sEq (aB cX (aB aZ (az 0) (mC (.int 1))) (mC (.int 8))) (mC (.int 0)))) (zY (az 2) (az 3) (aB aZ (aB aZ (az 1) (aB cX (aB rG (aB rG (az 3) (mC (.int 1))) (aB cX (aB aZ (az 0) (mC (.int 3))) (mC (.int 3)))) (mC (.int 4)))) (aB cX (aB rF (aB aZ (az 0) (mC (.int 3))) (mC (.int 3))) (mC (.int 2))))) fZ)
def iz:MS:=
 (yQ (bF (aB sEq (aB cX (aB aZ (az 0) (mC (.int 1))) (mC (.int 8))) (mC (.int 1)))) (zY (az 2) (az 3) (aB aZ (h_ (ao (aB rG (aB aZ (az 2) (az 3)) (mC (.str "s"))) (ao (Q8 "str" zW (aB aZ (az 2) (az 3)) aL) (ao (mC (.str "")) (ao (mSl (aB aZ (az 2) (az 3)) vP (HH (mUn Tr (mC (.int 1))))) aL))))) (aB cX (aB aZ (az 0) (mC (.int 3))) (mC (.int 4))))) fZ)
def iw:MS:=
 (yQ (bF (aB sEq (aB cX (aB aZ (az 0) (mC (.int 1))) (mC (.int 8))) (mC (.int 2)))) (gm (aB rG (az 2) (aB aZ (h_ (ao (h_ (ao (mC (.str "")) (ao (mC (.str "most")) (ao (mC (.str "x")) aL)))) (ao (h_ (ao (mC (.str "once")) aL)) (ao (h_ (ao (mC (.str "half")) (ao (mC (.str "")) aL))) (ao (h_ (ao (mC (.str "")) aL)) aL))))) (aB cX (aB aZ (az 0) (mC (.int 3))) (mC (.int 4))))) (gN 2)) fZ)
def iu:MS:=
 (yQ (bF (aB sEq (aB cX (aB aZ (az 0) (mC (.int 1))) (mC (.int 8))) (mC (.int 3)))) (gm (mSl (az 2) vP (HH (aB cX (aB aZ (az 0) (mC (.int 3))) (mC (.int 4))))) (gN 2)) fZ)
def eG:MS:=
 (cC (gm (h_ (ao (h_ (ao (mC (.str "once")) (ao (mC (.str "free")) aL))) (ao (h_ (ao (mC (.str "best")) (ao (mC (.str "any")) aL))) (ao (h_ (ao (mC (.str "own")) (ao (mC (.str "old")) aL))) (ao (h_ (ao (mC (.str "most")) (ao (mC (.str "half")) aL))) aL))))) (gN 1))
 (cC (gm (uT [1,0] (qH (ao (mC (.int 4)) aL)) JD (aB aZ (aB aZ (az 1) (az 0)) (aB cX (aB rF (aB aZ (az 2) (mC (.int 0))) (aB aZ (h_ (ao (mC (.int 1)) (ao (mC (.int 2)) (ao (mC (.int 4)) (ao (mC (.int 8)) aL))))) (az 0))) (mC (.int 2))))) (gN 2))
 (cC (gm (aB cX (aB aZ (az 0) (mC (.int 2))) (mC (.int 4))) (gN 3))
 (cC iB
 (cC iz
 (cC iw
 (cC iu
 (gR (az 2)))))))))
def j8:Fn:=eX 4 eG
def pQ:MS:=
 (yQ (bF (aB um (aB aZ (az 0) (az 2)) (aB aZ (az 1) (az 2)))) (gR (az 2)) fZ)
def iJ:MS:=
 pQ
def kh:MS:=
 (z6 (qH (ao (w6 wD (ao (mC (.int 4)) (ao (w6 oO (ao (az 0) aL)) aL))) aL)) (gN 2) iJ)
def j9:MS:=
 (yQ (bF (aB sEq (w6 oO (ao (az 0) aL)) (mC (.int 4)))) (gR (mC .non)) fZ)
def fj:MS:=
 (cC (gm (h_ (ao (h_ (ao (mC (.str "once")) (ao (mC (.str "free")) aL))) (ao (h_ (ao (mC (.str "best")) (ao (mC (.str "any")) aL))) (ao (h_ (ao (mC (.str "own")) (ao (mC (.str "old")) aL))) (ao (h_ (ao (mC (.str "most")) (ao (mC (.str "half")) aL))) aL))))) (gN 1))
 (cC kh
 (cC j9
 (gR (w6 wD (ao (mC (.int 4)) (ao (w6 oO (ao (az 0) aL)) aL)))))))
def jB:Fn:=eX 3 fj
def gB:MS:=
 (yQ (Wm (bF (aB Qh (az 1) (w6 oO (ao (az 0) aL)))) (bF (aB um (aB aZ (az 0) (az 1)) (az 2)))) (gR (az 1)) fZ)
def cV:MS:=
 gB
def gG:MS:=
 (z6 (Fv (mC (.kj [(.kj [(.str "once"),(.str "free")]),(.kj [(.str "best"),(.str "any")]),(.kj [(.str "own"),(.str "old")]),(.kj [(.str "most"),(.str "half")])]))) (gT 2 (n6 (gN 1) (n6 (gN 2) Dh))) cV)
def gA:MS:=
 (yQ (bF (aB Lp (w6 oO (ao (az 0) aL)) (w6 oO (ao (mC (.kj [(.kj [(.str "once"),(.str "free")]),(.kj [(.str "best"),(.str "any")]),(.kj [(.str "own"),(.str "old")]),(.kj [(.str "most"),(.str "half")])])) aL)))) (gR (w6 oO (ao (mC (.kj [(.kj [(.str "once"),(.str "free")]),(.kj [(.str "best"),(.str "any")]),(.kj [(.str "own"),(.str "old")]),(.kj [(.str "most"),(.str "half")])])) aL))) fZ)
def bV:MS:=
 (cC gG
 (cC gA
 (gR (mC .non))))
def eY:Fn:=eX 3 bV
def jN:MS:=
 (yQ (bF (aB zZ (az 3) (mC .non))) (sRz 2 (ao (az 3) aL)) fZ)
def cO:MS:=
 (cC (gm (Q8 "str" pG (az 1) (ao (mC (.str " ")) aL)) (gN 2))
 (cC (gm (fB eY 1 [] (ao (az 2) aL)) (gN 3))
 (cC jN
 (cC (wF [3] (az 0) (aB sEq (aB aZ (az 2) (mC (.int 0))) (mC (.str "once"))) "once")
 (cC (wF [3] (az 0) (aB sEq (aB aZ (az 2) (mC (.int 1))) (mC (.str "best"))) "best")
 (cC (wF [3] (az 0) (aB sEq (aB aZ (az 2) (mC (.int 2))) (mC (.str "own"))) "own")
 (wF [3] (az 0) (aB sEq (aB aZ (az 2) (mC (.int 3))) (mC (.str "most"))) "most")))))))
def dz:Fn:=eX 4 cO
def cZ:MS:=
 (gR (Nk (w6 Cj (ao (az 0) (ao (mC (.ty "bool")) aL))) (aB sEq (az 0) (az 1))))
def iK:Fn:=eX 2 cZ
def fW:MS:=
 (gR (uT [0] (qH (ao (Q8 "int" Hl (az 0) aL) aL)) (bF (aB sNe (aB sW (az 1) (aB Jj (mC (.int 1)) (az 0))) (mC (.int 0)))) (az 0)))
def nQ:Fn:=eX 1 fW
def oA:MS:=
 (gR (w6 oO (ao (fB nQ 1 [] (ao (az 0) aL)) aL)))
def uv:Fn:=eX 1 oA
def uW:MS:=
 (yQ (bF (az 2)) (gR (aB Qh (az 3) (fB uv 1 [] (ao (az 1) aL)))) fZ)
def gf:MS:=
 (cC (gm (aB yj (mC (.int 2)) (fB uv 1 [] (ao (aB sW (az 0) (az 1)) aL))) (gN 3))
 (cC uW
 (gR (aB Lp (az 3) (fB uv 1 [] (ao (az 1) aL))))))
def l_:Fn:=eX 4 gf
def tU:MS:=
 (yQ (JC (bF (fB l_ 3 [] (ao (az 1) (ao (aB aZ (az 0) (mC (.int 0))) (ao (az 2) aL)))))) (gR (mC (.bl false))) fZ)
def ou:MS:=
 (cC tU
 (gR (Vc (aB sEq (aB aZ (az 0) (mC (.int 1))) (mC (.int 0))) (fB l_ 3 [] (ao (az 1) (ao (aB aZ (az 0) (mC (.int 1))) (ao (az 2) aL)))))))
def uq:Fn:=eX 3 ou
def dI:MS:=
 (gR (fB uq 3 [] (ao (az 1) (ao (az 2) (ao (Ni (Ft [3] (az 0) "most")) aL)))))
def ju:Fn:=eX 3 dI
def tV:MS:=
 (yQ (Q9 (bF (aB Lp (az 4) (mC (.int 0)))) (Wm (bF (aB Z4 (aB yj (mC (.int 2)) (az 5)) (az 4))) (Q9 (bF (az 2)) (bF (aB sEq (aB yj (mC (.int 2)) (az 5)) (az 4)))))) (gR (mC (.bl false))) fZ)
def m_:MS:=
 (cC (gm (w6 oO (ao (uT [3] (qH (ao (mC (.int 5)) aL)) (bF (aB sEq (aB sW (aB wB (az 1) (az 0)) (mC (.int 1))) (mC (.int 1)))) (az 0)) aL)) (gN 4))
 (cC (gm (w6 oO (ao (uT [3,1] (qH (ao (mC (.int 5)) aL)) (bF (aB sEq (aB sW (aB wB (aB sW (az 1) (az 2)) (az 0)) (mC (.int 1))) (mC (.int 1)))) (az 0)) aL)) (gN 5))
 tV))
def jy:MS:=
 (z6 (HN (az 0)) (gN 3) m_)
def dH:MS:=
 (cC jy
 (gR (mC (.bl true))))
def g_:Fn:=eX 6 dH
def qK:MS:=
 (yQ (JC (bF (fB iK 2 [] (ao (aB aZ (az 3) (az 4)) (ao (aB sEq (aB aZ (az 1) (az 4)) (aB aZ (h_ (ao (mC (.str "once")) (ao (mC (.str "best")) (ao (mC (.str "own")) (ao (mC (.str "most")) aL))))) (az 4))) aL))))) (gR (mC (.bl false))) fZ)
def ir:MS:=
 qK
def qP:MS:=
 (z6 (qH (ao (mC (.int 4)) aL)) (gN 4) ir)
def qJ:MS:=
 (yQ (JC (bF (fB iK 2 [] (ao (HJ 3 "wins" ju 3 [] (az 0) (ao (az 5) (ao (az 6) aL))) (ao (fB g_ 3 [] (ao (az 5) (ao (az 6) (ao (aB sEq (aB aZ (az 1) (mC (.int 3))) (mC (.str "most"))) aL)))) aL))))) (gR (mC (.bl false))) fZ)
def ig:MS:=
 qJ
def qO:MS:=
 (z6 (HN (h_ (ao (aB cX (aB aZ (az 2) (mC (.int 5))) (mC (.int 32))) (ao (aB cX (aB aZ (az 2) (mC (.int 3))) (mC (.int 32))) aL)))) (gN 6) ig)
def dg:MS:=
 (cC (gm (h_ (ao (Ft [3] (az 0) "once") (ao (Ft [3] (az 0) "best") (ao (Ft [3] (az 0) "own") (ao (Ft [3] (az 0) "most") aL))))) (gN 3))
 (cC qP
 (cC (gm (JB (ao (aB rG (mC (.int 1)) (aB cX (aB aZ (az 2) (mC (.int 4))) (mC (.int 31)))) (ao (aB aZ (h_ (ao (mC (.int 0)) (ao (aB cX (aB rF (aB aZ (az 2) (mC (.int 4))) (mC (.int 31))) (mC (.int 32))) aL))) (aB cX (aB rF (aB aZ (az 2) (mC (.int 4))) (mC (.int 992))) (mC (.int 2)))) aL))) (gN 5))
 (cC qO
 (gR (mC (.bl true)))))))
def iM:Fn:=eX 7 dg
def zB:MS:=
 (gm (yV 3 dz 2 [] (ao (az 4) aL)) (gN 7))
def zG:MS:=
 (gm (JB (ao (Vb [0,1,2] (az 8)) (ao (w6 (Ji (.cls 0) [(0,true),(1,true),(2,true)]) (ao (az 8) (ao (mC (.cls 0)) aL))) (ao (w6 (Ji (.cls 1) [(0,false),(1,true),(2,false)]) (ao (az 8) (ao (mC (.cls 1)) aL))) aL)))) (gN 6))
def Ax:MS:=
 (zX 8 [(0,false),(1,false),(2,true)] zB zG)
def Aw:MS:=
 (yQ (Wm (bF (aB zZ (az 6) (mC .non))) (JC (bF (fB iM 3 [] (ao (az 7) (ao (az 3) (ao (az 2) aL))))))) (gR (mC (.bl false))) fZ)
def Av:MS:=
 (yQ (Wm (bF (aB sNe (az 6) (JB (ao (az 5) (ao (mC (.bl true)) (ao (mC (.bl false)) aL)))))) (bF (w6 Cj (ao (aB aZ (az 6) (mC (.int 0))) (ao (mC (.ty "bool")) aL))))) (gR (mC (.bl false))) fZ)
def Ar:MS:=
 (yQ (bF (aB sIs (az 5) (mC .non))) Aw Av)
def sO:MS:=
 (cC (gm (fB eZ 2 [] (ao (fB fD 2 [] (ao (az 0) (ao (az 1) aL))) (ao (mC (.int 6)) aL))) (gN 2))
 (cC (gm (fB j8 1 [] (ao (az 2) aL)) (gN 3))
 (cC (gm (Q8 "str" yP (mC (.str " ")) (ao (az 3) aL)) (gN 4))
 (cC (gm (fB jB 1 [] (ao (Q8 "str" pG (az 4) (ao (mC (.str " ")) aL)) aL)) (gN 5))
 (cC (gm (mC .non) (gN 6))
 (cC (gm (mC .non) (gN 7))
 (cC Ax
 Ar)))))))
def Ie:MS:=
 (z6 (qH (ao (w6 Ci (ao (mC (.int 1)) (ao (w6 wD (ao (w6 oO (ao (az 0) aL)) (ao (mC (.int 30)) aL))) aL))) aL)) (gN 1) sO)
def zy:MS:=
 (cC Ie
 (gR (fB iM 3 [] (ao (yV 3 dz 2 [(.str "once best own most")] aL) (ao (h_ (ao (mC (.str "once")) (ao (mC (.str "best")) (ao (mC (.str "own")) (ao (mC (.str "most")) aL))))) (ao (fB eZ 2 [] (ao (fB fD 2 [] (ao (az 0) (ao (mC (.int 0)) aL))) (ao (mC (.int 6)) aL))) aL))))))
def Ng:Fn:=eX 9 zy
def Kf(l:List Nat):Str:=⟨l.toArray⟩
@[simp] theorem nH(l:List Nat):(Kf l).cps.toList=l:=by simp[Kf]
theorem t8{a b:Str}(h:a.cps.toList=b.cps.toList):a=b:=Str.ext' (Array.toList_inj.mp h)
theorem U_(a:Str):Kf a.cps.toList=a:=t8 (by simp)
theorem nU(a:Str):a.length=a.cps.toList.length:=by simp[Str.length]
def fU(c:Nat):List Nat→List (List Nat)
 | []=>[[]]
 | a::l=>if a=c then[]::fU c l else match fU c l with
  | []=>[[a]]
  | h::t=>(a::h)::t
theorem Il(c:Nat):∀l,fU c l≠[]
 | []=>by simp[fU]
 | a::l=>by
  unfold fU
  split
  ·simp
  ·split<;>simp
theorem Du{c:Nat}{l:List Nat}:fU c (c::l)=[]::fU c l:=by rw[fU,if_pos rfl]
def oG(p:List Nat):List (List Nat)→List (List Nat)
 | []=>[p]
 | h::t=>(p++h)::t
theorem uH{c a:Nat}{l:List Nat}(h:a≠c):fU c (a::l)=oG [a] (fU c l):=by
 rw[fU,if_neg h]
 cases e:fU c l<;>simp[oG]
theorem JW{c a:Nat}{p l:List Nat}(h:a≠c):oG p (fU c (a::l))=oG (p++[a]) (fU c l):=by
 rw[uH h]
 cases fU c l<;>simp[oG]
open Builtin.Str in
theorem Ae(x:Str)(c:Nat):∀(n a:Nat) (st:Array Nat×Nat),st.2≤a→st.1.size≤a→a+n=x.length+1→
  (forIn (List.range' a n) st (StrLaws.occBody x ⟨#[c]⟩ x.length (x.length+1))).run.fst.toList=st.1.toList++(List.range' a n).filter fun i=>decide (x.cps.toList[i]? = some c)
 | 0,a,st,_,_,_=>by simp
 | n+1,a,st,h1,h2,h3=>by
  rw[List.range'_succ,List.forIn_cons,List.filter_cons]
  unfold StrLaws.occBody
  by_cases hx:x.cps.toList[a]? = some c
  ·have q:=(StrLaws.subAt_one x c a).mpr hx
   rw[if_pos ⟨⟨⟨by omega,h1⟩,q.1⟩,q.2⟩]
   have ih:=Ae x c n (a+1) (st.1.push a,a+1) (by simp) (by simp;omega) (by omega)
   simp only[hx,decide_true,if_true]
   refine ih.trans ?_
   simp
  ·have nq:¬(((st.1.size<x.length+1∧st.2≤a)∧a+(⟨#[c]⟩:Str).length≤x.length)∧subAt x ⟨#[c]⟩ a=true):=fun q=>hx ((StrLaws.subAt_one x c a).mp ⟨q.1.2,q.2⟩)
   rw[if_neg nq]
   have ih:=Ae x c n (a+1) (st.1,st.2) (by simp;omega) (by simp;omega) (by omega)
   simp only[hx,decide_false,Bool.false_eq_true,if_false]
   exact ih
theorem jA(x:Str)(c:Nat):∀(n a b:Nat),a≤b→b+n=x.length+1→0<n→
  StrLaws.partsFrom x 1 a ((List.range' b n).filter fun i=>decide (x.cps.toList[i]? = some c))=(oG ((x.cps.toList.drop a).take (b - a)) (fU c (x.cps.toList.drop b))).map Kf
 | 0,_,_,_,_,h=>absurd h (by omega)
 | n+1,a,b,hab,hb,_=>by
  have hl:=nU x
  by_cases hn:n=0
  ·subst hn
   have e0:x.cps.toList[b]? = none:=List.getElem?_eq_none (by omega)
   have e1:x.cps.toList.drop b=[]:=List.drop_eq_nil_of_le (by omega)
   simp only[List.range'_succ,List.range'_zero,List.filter_cons,List.filter_nil,e0,e1,fU,oG]
   simp only[StrLaws.partsFrom,List.append_nil,List.map_cons,List.map_nil]
   refine congrArg (· :: []) (t8 ?_)
   rw[StrLaws.strSub_toList,nH,show x.length - a=b - a from by omega]
  ·rw[List.range'_succ,List.filter_cons]
   obtain⟨v,hv⟩:∃v,x.cps.toList[b]? = some v:=⟨_,List.getElem?_eq_getElem (by omega)⟩
   have ed:x.cps.toList.drop b=v::x.cps.toList.drop (b+1):=by
    have hb':b<x.cps.toList.length:=by omega
    rw[List.drop_eq_getElem_cons hb']
    rw[List.getElem?_eq_getElem hb']at hv
    rw[Option.some.inj hv]
   rw[ed]
   by_cases hc:v=c
   ·subst hc
    simp only[hv,decide_true,if_true,StrLaws.partsFrom]
    rw[jA x v n (b+1) (b+1) (Nat.le_refl _) (by omega) (by omega)]
    simp only[Nat.sub_self,List.take_zero]
    rw[Du]
    have eg:oG [] (fU v (x.cps.toList.drop (b+1)))=fU v (x.cps.toList.drop (b+1)):=by
     cases e:fU v (x.cps.toList.drop (b+1))with
     | nil=>exact absurd e (Il _ _)
     | cons h t=>simp[oG]
    rw[eg]
    simp only[oG,List.append_nil,List.map_cons]
    refine congrArg (· :: _) (t8 ?_)
    rw[StrLaws.strSub_toList,nH]
   ·have hne:¬(some v=some c):=fun z=>hc (Option.some.inj z)
    simp only[hv,hne,decide_false,Bool.false_eq_true,if_false]
    rw[jA x c n a (b+1) (by omega) (by omega) (by omega),JW hc]
    have et:(x.cps.toList.drop a).take (b+1 - a)=(x.cps.toList.drop a).take (b - a)++[v]:=by
     have h1:b+1 - a=(b - a)+1:=by omega
     have h2:(x.cps.toList.drop a)[b - a]? = some v:=by rw[List.getElem?_drop,←hv];congr 1;omega
     rw[h1,List.take_succ,h2];rfl
    rw[et]
theorem strKind_pos(x:Str):1≤Builtin.Str.strKind x:=by
 unfold Builtin.Str.strKind
 split
 ·omega
 ·split<;>omega
theorem Jf(x:Str){c:Nat}(hc:c<256):Txt.split x ⟨#[c]⟩=(fU c x.cps.toList).map Kf:=by
 have hk:Builtin.Str.strKind ⟨#[c]⟩=1:=by
  unfold Builtin.Str.strKind
  rw[if_pos (by simp[hc])]
 have hl:=nU x
 unfold Txt.split
 have h1:((⟨#[c]⟩:Str)).length=1:=rfl
 have hkp:=strKind_pos x
 by_cases h0:x.length<1
 ·rw[if_pos (by rw[h1,decide_eq_true h0];rfl)]
  have:x.cps.toList=[]:=List.eq_nil_of_length_eq_zero (by omega)
  rw[this]
  simp only[fU,List.map_cons,List.map_nil]
  exact congrArg (· :: []) (t8 (by rw[this];simp))
 ·rw[if_neg (by rw[h1,hk,decide_eq_false h0,decide_eq_false (by omega)];decide)]
  have ho:Builtin.Str.occurrences x ⟨#[c]⟩ 0 x.length (x.length+1)=(List.range' 0 (x.length+1)).filter fun i=>decide (x.cps.toList[i]? = some c):=by
   rw[StrLaws.occ_eq]
   have:=Ae x c (x.length+1) 0 (#[],0) (Nat.le_refl _) (by simp) (by omega)
   simpa using this
  have hp:=jA x c (x.length+1) 0 0 (Nat.le_refl _) (by omega) (by omega)
  have eg:oG ((x.cps.toList.drop 0).take (0 - 0)) (fU c (x.cps.toList.drop 0))=fU c x.cps.toList:=by
   simp only[Nat.sub_self,List.take_zero,List.drop_zero]
   cases e:fU c x.cps.toList with
   | nil=>exact absurd e (Il _ _)
   | cons h t=>simp[oG]
  rw[eg]at hp
  rw[←ho]at hp
  split
  ·rename_i he
   rw[List.isEmpty_iff.mp he]at hp
   rw[←hp]
   simp only[StrLaws.partsFrom]
   exact congrArg (· :: []) (StrLaws.sub_whole x).symm
  ·rw[StrLaws.partsBetween_eq]
   exact hp
def qI(c:Nat):List (List Nat)→List Nat
 | []=>[]
 | [w]=>w
 | w::r=>w++c::qI c r
theorem xu(c:Nat):∀(ws:List (List Nat)),Txt.join ⟨#[c]⟩ (ws.map Kf)=Kf (qI c ws):=by
 intro ws
 unfold Txt.join
 rw[StrLaws.glued_eq_join]
 induction ws with
 | nil=>rfl
 | cons w r ih=>
  cases r with
  | nil=>rfl
  | cons v r=>
   show Kf w++⟨#[c]⟩++Str.join ⟨#[c]⟩ ((v::r).map Kf)=_
   rw[ih]
   apply t8
   simp[qI,Str.cps_append]
theorem Dv{c:Nat}:∀{w l:List Nat},c∉w→fU c (w++c::l)=w::fU c l
 | [],l,_=>Du
 | a::w,l,h=>by
  have ha:a≠c:=fun z=>h (by simp[z])
  have hw:c∉w:=fun z=>h (by simp[z])
  show fU c (a::(w++c::l))=_
  rw[uH ha,Dv hw]
  rfl
theorem Ds{c:Nat}:∀{w:List Nat},c∉w→fU c w=[w]
 | [],_=>rfl
 | a::w,h=>by
  have ha:a≠c:=fun z=>h (by simp[z])
  have hw:c∉w:=fun z=>h (by simp[z])
  rw[uH ha,Ds hw]
  rfl
theorem xR{c:Nat}:∀{ws:List (List Nat)},ws≠[]→(∀w∈ws,c∉w)→fU c (qI c ws)=ws
 | [],h,_=>absurd rfl h
 | [w],_,h=>Ds (h w (by simp))
 | w::v::r,_,h=>by
  show fU c (w++c::qI c (v::r))=_
  rw[Dv (h w (by simp)),xR (by simp) fun x hx=>h x (by simp at hx ⊢;exact .inr hx)]
theorem Et{c:Nat}(hc:c<256){ws:List (List Nat)}(h:ws≠[])(hw:∀w∈ws,c∉w):Txt.split (Txt.join ⟨#[c]⟩ (ws.map Kf)) ⟨#[c]⟩=ws.map Kf:=by
 rw[xu,Jf _ hc,nH,xR h hw]
def Gr(M M':Mem):Prop:=∀(i:Nat) (o:MO),M[i]? = some o→M'[i]? = some o
theorem Gr.trans{M M1 M2:Mem}(a:Gr M M1)(b:Gr M1 M2):Gr M M2:=fun i o h=>b i o (a i o h)
theorem Gr.app{M:Mem}{xs:List MO}:Gr M (M++xs):=fun i o h=>by
 rw[List.getElem?_append_left (List.getElem?_eq_some_iff.mp h).1];exact h
theorem yW{M:Mem}{i:Nat}{o:MO}(h:M[i]? = some o):i<M.length:=(List.getElem?_eq_some_iff.mp h).1
theorem a_{M:Mem}{o:MO}:(M++[o])[M.length]? = some o:=by simp
theorem p6{src:Option (Nat×List D)}{tt:MT}{te:ME}{ce:Sl}{M:Mem}(q:D→Bool)(f:D→D){ds:List D}(hs:fJ src M)(ht:∀d∈ds,tt (some d::ce) M= .ok (q d) M)(hf:∀d∈ds,te (some d::ce) M= .ok (f d) M):
  lF src tt te ce ds [] M= .ok (.ref M.length) (M++[.lst ((ds.filter q).map f)]):=by
 have key:∀(ds ys:List D),(∀d∈ds,tt (some d::ce) M= .ok (q d) M)→(∀d∈ds,te (some d::ce) M= .ok (f d) M)→lF src tt te ce ds ys M= .ok (.ref M.length) (M++[.lst (ys++(ds.filter q).map f)]):=by
  intro ds
  induction ds with
  | nil=>intro ys _ _;unfold lF;rw[if_pos hs];simp
  | cons d r ih=>
   intro ys h1 h2
   unfold lF
   rw[if_pos hs,h1 d List.mem_cons_self]
   show(Out.ok _ _).bind _=_
   rw[Out.bK]
   cases z:q d with
   | false=>
    simp only[Bool.false_eq_true,if_false]
    rw[ih _ (fun x hx=>h1 x (List.mem_cons_of_mem _ hx)) fun x hx=>h2 x (List.mem_cons_of_mem _ hx),List.filter_cons,z]
    simp
   | true=>
    simp only[if_true]
    rw[h2 d List.mem_cons_self]
    show(Out.ok _ _).bind _=_
    rw[Out.bK,ih _ (fun x hx=>h1 x (List.mem_cons_of_mem _ hx)) fun x hx=>h2 x (List.mem_cons_of_mem _ hx),List.filter_cons,z]
    simp
 have:=key ds [] ht hf
 simpa using this
theorem Io{M:Mem}(ns:List Int)(k:Nat){kk:Int}(hk:kk=k):fD [.cl (ns.map D.int),.int kk] M= .ok (.int (cell ns k)) M:=by
 subst hk
 simp only[fD,bZ,oF]
 by_cases h:k<ns.length
 ·have e:aZ (.cl (ns.map D.int)) (.int k) M= .ok (.int ns[k]) M:=Tw (by omega) (by simp[h])
  simp[h,e,cell]
 ·simp[h,cell]
def qR(n:Nat)(xs:List Int):Prop:=xs.length=n∧∀x∈xs,0≤x∧x<2147483647
structure Gx(M:Mem)(c:Int)(n i:Nat)(e:Sl)(M':Mem):Prop where
 h:∃(xs:List Int) (num:Int) (v:Option D),qR i xs∧0≤num∧num<2147483647∧e=[some (.int c),some (.int n),some (.ref M.length),some (.int num),v]∧M'=M++[.lst (xs.map D.int)]
theorem M_(z:Int):0≤z % 2147483647∧z % 2147483647<2147483647:=⟨Int.emod_nonneg _ (by omega),Int.emod_lt_of_pos _ (by omega)⟩
theorem K5{M:Mem}{c:Int}{n i:Nat}{d:D}{e:Sl}{M2:Mem}(hn:n≤1000)(hd:(qj 0 n)[i]? = some d)(h:Gx M c n i e M2):∃e1,gN 4 d e=some e1∧
  (jG e1 M2).to (Gx M c n (i+1)) fun _ _=>False:=by
 obtain⟨xs,num,v,⟨hx,hxb⟩,h0,h1,rfl,rfl⟩:=h
 obtain⟨hi,rfl⟩:=sX hd
 refine⟨_,rfl,?_⟩
 have a1:rF (.int num) (.int 1009) (M++[.lst (xs.map D.int)])= .ok (.int (num / 1009)) (M++[.lst (xs.map D.int)]):=lV (by omega) (by omega)
 have a2:yj (.int num) (.int (num / 1009+69621)) (M++[.lst (xs.map D.int)])= .ok (.int (num*(num / 1009+69621))) (M++[.lst (xs.map D.int)]):=wC (.inl (by constructor<;>omega))
 have a3:∀z:Int,cX (.int z) (.int 2147483647) (M++[.lst (xs.map D.int)])= .ok (.int (z % 2147483647)) (M++[.lst (xs.map D.int)]):=fun z=>bD (by omega)
 have a4:Ea "list" (.ref M.length) (M++[.lst (xs.map D.int)])=true:=Ky a_
 have a5:∀z:Int,qi (.ref M.length) [.int z] (M++[.lst (xs.map D.int)])= .ok .non (M++[.lst ((xs++[z]).map D.int)]):=fun z=>by
  rw[Ck a_ (by rw[List.length_map];omega)]
  simp
 simp[jG,a1,a2,a3,a4,a5]
 refine⟨xs++[(num*(num / 1009+69621)+i+1) % 2147483647],(num*(num / 1009+69621)+i+1) % 2147483647,_,⟨by simp[hx],fun x hm=> ?_⟩,(M_ _).1,(M_ _).2,rfl,by simp⟩
 rcases List.mem_append.mp hm with h | h
 ·exact hxb x h
 ·rw[List.mem_singleton.mp h];exact M_ _
theorem Je{M:Mem}(c:Int)(n:Nat){nn:Int}(hnn:nn=n)(hn:n≤1000):∃xs:List Int,qR n xs∧eZ [.int c,.int nn] M= .ok (.ref M.length) (M++[.lst (xs.map D.int)]):=by
 subst hnn
 have e1:yj (.int c) (.int 48271) (M++[.lst []])= .ok (.int (c*48271)) (M++[.lst []]):=wC (.inr (by omega))
 have e2:cX (.int (c*48271+7919)) (.int 2147483647) (M++[.lst []])= .ok (.int ((c*48271+7919) % 2147483647)) (M++[.lst []]):=bD (by omega)
 have e3:vA [.int n] (M++[.lst []])= .ok ⟨none,qj 0 n⟩ (M++[.lst []]):=by
  have:=lW (M:=M++[.lst []]) (j:=n) (by omega) (by omega)
  simpa using this
 obtain⟨e',M',hl,hh⟩:=uA (Gx M c n) (ds:=qj 0 n) (e:=[some (.int c),some (.int n),some (.ref M.length),some (.int ((c*48271+7919) % 2147483647)),none]) (M:=M++[.lst []]) (src:=none)
  ⟨[],_,none,⟨rfl,by simp⟩,(M_ _).1,(M_ _).2,rfl,rfl⟩ (fun _ _ _ _ _=>trivial) fun i d e M2 hd h=>K5 hn hd h
 obtain⟨xs,num,v,hx,_,_,rfl,rfl⟩:=hh
 rw[Hr]at hx
 refine⟨xs,hx,?_⟩
 simp only[eZ,cN,pY]
 simp[e1,e2,e3,hl]
theorem eO{n:Nat}{xs:List Int}(h:qR n xs){i:Nat}(hi:i<n):∃x,xs[i]? = some x∧0≤x∧x<2147483647:=by
 have hl:i<xs.length:=by rw[h.1];exact hi
 exact⟨xs[i],List.getElem?_eq_getElem hl,h.2 _ (List.getElem_mem hl)⟩
theorem fO{M:Mem}{n i:Nat}{xs:List Int}{x:Int}{k:Int}(hM:M[n]? = some (.lst (xs.map D.int)))(hk:k=i)(h:xs[i]? = some x):aZ (.ref n) (.int k) M= .ok (.int x) M:=
 dU hM (by omega) (by subst hk;simp[h])
theorem wg{M:Mem}(c:Int)(n:Nat){nn:Int}(hnn:nn=n)(hn:n≤1000):∃xs x M1,qR n xs∧eZ [.int c,.int nn] M= .ok (.ref x) M1∧M1[x]? = some (.lst (xs.map D.int))∧Gr M M1:=by
 obtain⟨xs,h,e⟩:=Je (M:=M) c n hnn hn
 exact⟨xs,_,_,h,e,a_,Gr.app⟩
theorem M9(z:Int){j:Int}(h:0<j):0≤z % j∧z % j<j:=⟨Int.emod_nonneg _ (by omega),Int.emod_lt_of_pos _ h⟩
theorem Mh{M:Mem}{n:Nat}{ds:List D}{z j:Int}(h:M[n]? = some (.lst ds))(hj:j=ds.length)(h0:0<j):∃d∈ds,aZ (.ref n) (.int (z % j)) M= .ok d M:=by
 have:=M9 z h0
 have hl:(z % j).toNat<ds.length:=by omega
 exact⟨ds[(z % j).toNat],List.getElem_mem hl,dU h this.1 (List.getElem?_eq_getElem hl)⟩
theorem Rv{α β:Type}(f:α→β)(xs:List α)(lo hi:Option Int):cut (xs.map f) lo hi=(cut xs lo hi).map f:=by
 unfold cut
 rw[List.length_map,List.map_take,List.map_drop]
theorem Rw{α:Type}(xs:List α)(lo hi:Option Int):(cut xs lo hi).length≤xs.length:=by
 unfold cut
 rw[List.length_take,List.length_drop]
 omega
def hv(hs:List Nat):List D:=hs.map fun(h:Nat)=>D.int (h:Int)
theorem rH(n:Nat)(p:Nat→Bool)(q:D→Bool)(h:∀i,i<n→q (.int (0+(i:Int)))=p i):((qj 0 n).filter q).map (fun d=>d)=hv ((List.range n).filter p):=by
 unfold qj hv
 rw[List.map_id',List.filter_map]
 have:(List.range n).filter (q∘fun(k:Nat)=>D.int (0+(k:Int)))=(List.range n).filter p:=by
  refine List.filter_congr fun i hi=> ?_
  exact h i (List.mem_range.mp hi)
 rw[this]
 refine List.map_congr_left fun i _=> ?_
 show D.int (0+(i:Int))=D.int (i:Int)
 rw[Int.zero_add]
theorem PK{M:Mem}{i j:Int}(h:0≤j∧j≤1000000∧i.natAbs<2 ^ 64):Jj (.int i) (.int j) M= .ok (.int (i*2 ^ j.toNat)) M:=by
 unfold Jj;rw[xF,if_pos (by unfold V3;exact decide_eq_true h)]
theorem G_{M:Mem}{i j:Int}(h:0≤j):wB (.int i) (.int j) M= .ok (.int (i / 2 ^ j.toNat)) M:=by
 unfold wB;rw[xF,if_pos (by unfold Zu;exact decide_eq_true h)]
theorem V6(n i:Nat):(!decide (Builtin.bitAnd (n:Int) (1*2 ^ (0+(i:Int)).toNat)=0))=n.testBit i:=by
 have e1:Builtin.bitAnd (n:Int) (1*2 ^ (0+(i:Int)).toNat)=((n &&& 2 ^ i:Nat):Int):=by
  rw[Int.zero_add,Int.toNat_natCast,HM.QT,HM.t7]
 rw[e1]
 have q:=HM.Gu n i
 cases z:n.testBit i with
 | true=>
  have q':=q.mpr z
  simp only[Bool.not_eq_true',decide_eq_false_iff_not]
  omega
 | false=>
  have q':¬(n &&& 2 ^ i≠0):=fun r=>by rw[q.mp r]at z;cases z
  simp only[Bool.not_eq_false',decide_eq_true_eq]
  omega
theorem G9(n i:Nat):decide (Builtin.bitAnd ((n:Int) / 2 ^ (0+(i:Int)).toNat) 1=1)=n.testBit i:=by
 have e1:Builtin.bitAnd ((n:Int) / 2 ^ (0+(i:Int)).toNat) 1=((n / 2 ^ i &&& 1:Nat):Int):=by
  have:((n:Int) / 2 ^ (0+(i:Int)).toNat)=((n / 2 ^ i:Nat):Int):=by
   rw[Int.zero_add,Int.toNat_natCast]
   simp
  rw[this]
  exact HM.t7 _ 1
 rw[e1]
 have q:=HM.Ca n i
 cases z:n.testBit i with
 | true=>
  have q':=q.mpr z
  simp only[decide_eq_true_eq]
  omega
 | false=>
  have q':¬(n / 2 ^ i &&& 1=1):=fun r=>by rw[q.mp r]at z;cases z
  simp only[decide_eq_false_iff_not]
  omega
def qB(f:Int→Bool)(d:D):Bool:=match d with
 | .int j=>f j
 | _=>false
theorem Ah{lo:Int}{n:Nat}{d:D}(h:d∈qj lo n):∃i:Nat,i<n∧d= .int (lo+i):=by
 obtain⟨i,hi⟩:=List.getElem?_of_mem h
 exact⟨i,(sX hi).1,(sX hi).2⟩
theorem Df{M:Mem}(n:Nat)(hn:n<2 ^ 60):nQ [.int n] M= .ok (.ref M.length) (M++[.lst (hv (HM.dB n))]):=by
 have hz:=HM.intBits_le n hn
 have e1:vA [.int (Builtin.Int.intBits n:Nat)] M= .ok ⟨none,qj 0 (Builtin.Int.intBits n)⟩ M:=by
  have:=lW (M:=M) (j:=(Builtin.Int.intBits n:Nat)) (by omega) (by omega)
  simpa using this
 have e2:=p6 (src:=none) (tt:=bF (aB sNe (aB sW (az 1) (aB Jj (mC (.int 1)) (az 0))) (mC (.int 0)))) (te:=az 0) (ce:=[some (.int n)]) (M:=M) (qB fun j=> !decide (Builtin.bitAnd (n:Int) (1*2 ^ j.toNat)=0)) (fun d=>d) (ds:=qj 0 (Builtin.Int.intBits n)) trivial
  (fun d hd=>by
   obtain⟨i,hi,rfl⟩:=Ah hd
   have:Jj (.int 1) (.int (0+(i:Int))) M= .ok (.int (1*2 ^ (0+(i:Int)).toNat)) M:=PK ⟨by omega,by omega,by decide⟩
   simp only[wZ,Ai,Nh,yU,Nj,Out.bK,this,wG,Qe,Gq,qB])
  (fun d hd=>yU)
 have e3:=rH (Builtin.Int.intBits n) (fun h=>n.testBit h) (qB fun j=> !decide (Builtin.bitAnd (n:Int) (1*2 ^ j.toNat)=0)) (fun i _=>V6 n i)
 rw[HM.Az n hn]at e3
 rw[e3]at e2
 simp only[nQ,fW]
 simp[tZ,e1,e2]
theorem HB{M:Mem}(n:Nat)(hn:n<2 ^ 60):∃M',uv [.int n] M= .ok (.int (HM.cnt n:Nat)) M'∧Gr M M':=by
 refine⟨M++[.lst (hv (HM.dB n))],?_,Gr.app⟩
 simp only[uv,oA]
 simp[Df n hn,gk a_,hv,HM.cnt]
def jV(S p:Nat)(h:Bool):Bool:=if h then decide (HM.cnt p≤2*HM.cnt (S &&& p))else decide (HM.cnt p<2*HM.cnt (S &&& p))
theorem V7{S p:Nat}(hp:p<2 ^ 60):S &&& p<2 ^ 60:=Nat.lt_of_le_of_lt Nat.and_le_right hp
theorem U9{M:Mem}{j:Int}:yj (.int 2) (.int j) M= .ok (.int (2*j)) M:=wC (.inl (by omega))
theorem xV{M:Mem}(S p:Nat)(h:Bool)(hp:p<2 ^ 60):∃M',l_ [.int S,.int p,.bl h] M= .ok (.bl (jV S p h)) M'∧Gr M M':=by
 obtain⟨M1,e1,g1⟩:=HB (M:=M) (S &&& p) (V7 hp)
 obtain⟨M2,e2,g2⟩:=HB (M:=M1) p hp
 refine⟨M2,?_,g1.trans g2⟩
 have ea:Builtin.bitAnd (S:Int) (p:Int)=((S &&& p:Nat):Int):=HM.t7 S p
 simp only[l_,gf,uW]
 cases h with
 | true=>
  simp[ea,e1,U9,e2,jV]
  omega
 | false=>
  simp[ea,e1,U9,e2,jV]
  omega
theorem Pk{M:Mem}(S p q:Nat)(h:Bool)(hp:p<2 ^ 60)(hq:q<2 ^ 60):∃M',uq [.tup [.int p,.int q],.int S,.bl h] M= .ok (.bl (jV S p h&&(decide (q=0)||jV S q h))) M'∧Gr M M':=by
 obtain⟨M1,e1,g1⟩:=xV (M:=M) S p h hp
 cases z:jV S p h with
 | false=>
  rw[z]at e1
  exact⟨M1,by simp[uq,ou,tU,e1],g1⟩
 | true=>
  rw[z]at e1
  by_cases hq0:q=0
  ·subst hq0
   exact⟨M1,by simp[uq,ou,tU,e1],g1⟩
  ·obtain⟨M2,e2,g2⟩:=xV (M:=M1) S q h hq
   exact⟨M2,by simp[uq,ou,tU,e1,hq0,e2],g1.trans g2⟩
theorem Qc{M:Mem}{u:Str}{lo hi:Option Int}(h:u.length≤16777216):Ke (.str u) lo hi M= .ok (.str (Txt.slice u lo hi)) M:=by
 simp only[Ke]
 rw[if_pos (by rw[nR];exact h)]
def opts:List (Str×Str):=[("once","free"),("best","any"),("own","old"),("most","half")]
def Good(ws:List Str)(j:Nat):Prop:=∃w c,ws[j]? = some w∧opts[j]? = some c∧(w=c.1∨w=c.2)
def Due(ws:List Str)(d:D):Prop:=(d= .non∧ws.length=4∧∀j<4,Good ws j)∨∃k:Nat,d= .int k∧k≤4∧(∀j<k,Good ws j)∧(k<4→¬Good ws k)∧(k=4→4<ws.length)
theorem Due.uniq{ws:List Str}{d d':D}(h:Due ws d)(h':Due ws d'):d=d':=by
 rcases h with⟨rfl,hl,hg⟩ | ⟨k,rfl,hk,hg,hb,h4⟩<;>rcases h' with⟨rfl,hl',hg'⟩ | ⟨k',rfl,hk',hg',hb',h4'⟩
 ·rfl
 ·exfalso
  rcases Nat.lt_or_ge k' 4 with z | z
  ·exact hb' z (hg k' z)
  ·have:=h4' (by omega);omega
 ·exfalso
  rcases Nat.lt_or_ge k 4 with z | z
  ·exact hb z (hg' k z)
  ·have:=h4 (by omega);omega
 ·rcases Nat.lt_trichotomy k k' with z | z | z
  ·exact absurd (hg' k z) (hb (by omega))
  ·rw[z]
  ·exact absurd (hg k' z) (hb' (by omega))
theorem vJ{i:Nat}{c:Str×Str}(h:opts[i]? = some c):i<4:=(List.getElem?_eq_some_iff.mp h).1
theorem sZ{i:Nat}(h:i<4):∃c,opts[i]? = some c:=⟨opts[i],List.getElem?_eq_getElem h⟩
theorem NP{M:Mem}{w a b:Str}{y:D}(h:uM M y=some [.str a,.str b])(hd:Jk true (.str w) y M= .bad):um (.str w) y M= .ok (.bl (!(decide (a=w)||decide (b=w)))) M:=by
 refine(wQ hd).trans ?_
 simp only[Qg,Jd,h,Er]
 simp[inV,Rk,Bool.beq_eq_decide_eq]
theorem yS{M:Mem}{w a b:Str}:um (.str w) (.kj [.str a,.str b]) M= .ok (.bl (!(decide (a=w)||decide (b=w)))) M:=NP rfl rfl
theorem Jv{M:Mem}{w a b:Str}{n:Nat}(h:M[n]? = some (.lst [.str a,.str b])):um (.str w) (.ref n) M= .ok (.bl (!(decide (a=w)||decide (b=w)))) M:=by
 refine NP (by simp only[uM,zQ,dN h]) ?_
 simp only[Jk,J2,h]
theorem xx{M:Mem}{l i:Nat}{ws:List Str}{w:Str}(h:M[l]? = some (.lst (ws.map D.str)))(hw:ws[i]? = some w):aZ (.ref l) (.int (i:Int)) M= .ok (.str w) M:=
 dU h (by omega) (by simp[hw])
structure O1(M0:Mem)(l:Nat)(ws:List Str)(i:Nat)(e:Sl)(M:Mem):Prop where
 m:M0=M
 e:∃v w,e=[some (.ref l),v,w]
 g:∀j<i,Good ws j
def IK(M0:Mem)(ws:List Str)(r:D)(M:Mem):Prop:=M0=M∧∃k:Nat,r= .int k∧k<4∧(∀j<k,Good ws j)∧¬Good ws k
def Cu:List D:=opts.map fun c=>D.kj [.str c.1,.str c.2]
theorem zf{ws:List Str}{i:Nat}(h:∀j<i,Good ws j)(hi:Good ws i):∀j<i+1,Good ws j:=fun j hj=>by
 rcases Nat.lt_or_ge j i with z | z
 ·exact h j z
 ·have:j=i:=by omega
  subst this;exact hi
theorem Ek{M:Mem}{l i:Nat}{ws:List Str}{d:D}{e:Sl}{M2:Mem}(hM:M[l]? = some (.lst (ws.map D.str)))(hd:(iW 0 Cu)[i]? = some d)(h:O1 M l ws i e M2):
  ∃e1,gT 2 (n6 (gN 1) (n6 (gN 2) Dh)) d e=some e1∧(cV e1 M2).to (O1 M l ws (i+1)) (IK M ws):=by
 obtain⟨rfl,⟨v,u,rfl⟩,hg⟩:=h
 rw[uE]at hd
 obtain⟨c',hc',rfl⟩:=Option.map_eq_some_iff.mp hd
 obtain⟨c,hc,rfl⟩:∃c,opts[i]? = some c∧D.kj [.str c.1,.str c.2]=c':=by simpa[Cu]using hc'
 have hi:=vJ hc
 refine⟨[some (.ref l),some (.int (0+(i:Int))),some (.kj [.str c.1,.str c.2])],by simp,?_⟩
 by_cases hl:i<ws.length
 ·obtain⟨w,hw⟩:∃w,ws[i]? = some w:=⟨_,List.getElem?_eq_getElem hl⟩
  have e1:=xx hM hw
  have hlt:¬((ws.length:Int)≤(i:Int)):=by omega
  by_cases hb:c.1=w∨c.2=w
  ·have hb2:(!(decide (c.1=w)||decide (c.2=w)))=false:=by rcases hb with z | z<;>simp[z]
   simp only[cV,gB]
   simp[gk hM,e1,yS,hlt]
   rw[if_neg (fun z=>hb.elim z.1 z.2)]
   exact⟨rfl,⟨_,_,rfl⟩,zf hg ⟨w,c,hw,hc,hb.imp Eq.symm Eq.symm⟩⟩
  ·simp only[cV,gB]
   simp[gk hM,e1,yS,hlt]
   rw[if_pos ⟨fun z=>hb (.inl z),fun z=>hb (.inr z)⟩]
   refine⟨rfl,i,rfl,hi,hg,fun⟨w',c',h1,h2,h3⟩=>hb ?_⟩
   rw[hw]at h1;rw[hc]at h2;cases h1;cases h2
   exact h3.imp Eq.symm Eq.symm
 ·have hlt:(ws.length:Int)≤(i:Int):=by omega
  simp only[cV,gB]
  simp[gk hM,hlt]
  refine⟨rfl,i,rfl,hi,hg,fun⟨w',c',h1,h2,h3⟩=>hl (List.getElem?_eq_some_iff.mp h1).1⟩
theorem Kq{M:Mem}{l:Nat}{ws:List Str}(hM:M[l]? = some (.lst (ws.map D.str))):∃d,eY [.ref l] M= .ok d M∧Due ws d:=by
 have en:∀M:Mem,uD (.kj Cu) (.int 0) M= .ok ⟨none,iW 0 Cu⟩ M:=fun M=>rfl
 rcases ql (src:=none) (g:=gT 2 (n6 (gN 1) (n6 (gN 2) Dh))) (b:=cV) (O1 M l ws) (R:=IK M ws) (iW 0 Cu) 0 (e:=[some (.ref l),none,none]) (M:=M) ⟨rfl,⟨_,_,rfl⟩,fun j hj=>absurd hj (Nat.not_lt_zero _)⟩ (fun _ _ _ _ _ _=>trivial)
  (fun i d e M2 hd h=>by rw[Nat.zero_add]at h ⊢;exact Ek hM hd h)with⟨e',M',hl,hm,⟨v,u,rfl⟩,hg⟩ | ⟨r,M',hl,hm,k,rfl,hk,hg,hb⟩
 ·subst hm
  have hg:∀j<4,Good ws j:=hg
  obtain⟨w3,c3,h3,_⟩:=hg 3 (by omega)
  have h3:=(List.getElem?_eq_some_iff.mp h3).1
  by_cases h4:4<ws.length
  ·refine⟨.int 4,?_,.inr ⟨4,rfl,by omega,hg,fun z=>absurd z (Nat.lt_irrefl _),fun _=>h4⟩⟩
   have h4':(4:Int)<(ws.length:Int):=by omega
   simp only[eY,bV,gG,gA]
   simp only[Cu,opts,List.map_cons,List.map_nil]at hl
   simp[hl,gk hM,h4']
  ·refine⟨.non,?_,.inl ⟨rfl,by omega,hg⟩⟩
   have h4':¬(4:Int)<(ws.length:Int):=by omega
   simp only[eY,bV,gG,gA]
   simp only[Cu,opts,List.map_cons,List.map_nil]at hl
   simp[hl,gk hM,h4']
 ·subst hm
  refine⟨.int k,?_,.inr ⟨k,rfl,by omega,hg,fun _=>hb,fun z=>absurd hk (by omega)⟩⟩
  simp only[eY,bV,gG,gA]
  simp only[Cu,opts,List.map_cons,List.map_nil]at hl
  simp[hl]
structure J9(M:Mem)(n:Nat):Prop where
 o:M[n+4]? = some (.lst [.ref n,.ref (n+1),.ref (n+2),.ref (n+3)])
 l:∀(i:Nat) (c:Str×Str),opts[i]? = some c→M[n+i]? = some (.lst [.str c.1,.str c.2])
def sS(n:Nat):List MO:=[.lst [.str "once",.str "free"],.lst [.str "best",.str "any"],.lst [.str "own",.str "old"],.lst [.str "most",.str "half"],.lst [.ref n,.ref (n+1),.ref (n+2),.ref (n+3)]]
theorem J9.new{M:Mem}:J9 (M++sS M.length) M.length:=by
 refine⟨by rw[List.getElem?_append_right (by omega)];simp[sS],fun i c hc=> ?_⟩
 rw[List.getElem?_append_right (by omega),Nat.add_sub_cancel_left]
 have:=vJ hc
 match i,this with
 | 0,_=>simp[opts]at hc;subst hc;rfl
 | 1,_=>simp[opts]at hc;subst hc;rfl
 | 2,_=>simp[opts]at hc;subst hc;rfl
 | 3,_=>simp[opts]at hc;subst hc;rfl
theorem J9.gr{M M':Mem}{n:Nat}(h:J9 M n)(g:Gr M M'):J9 M' n:=⟨g _ _ h.o,fun i c hc=>g _ _ (h.l i c hc)⟩
theorem J9.ix{M:Mem}{n i:Nat}(h:J9 M n)(hi:i<4):aZ (.ref (n+4)) (.int (i:Int)) M= .ok (.ref (n+i)) M:=by
 refine dU h.o (by omega) ?_
 rw[Int.toNat_natCast]
 match i,hi with
 | 0,_=>rfl
 | 1,_=>rfl
 | 2,_=>rfl
 | 3,_=>rfl
structure O6(M0:Mem)(l s:Nat)(ws:List Str)(i:Nat)(e:Sl)(M:Mem):Prop where
 m:M0=M
 e:∃v,e=[some (.ref l),some (.ref s),v]
 g:∀j<i,Good ws j
theorem Oo{M:Mem}{l n m i:Nat}{ws:List Str}{d:D}{e:Sl}{M2:Mem}(hM:M[l]? = some (.lst (ws.map D.str)))(hS:J9 M n)(hm:m≤4)(hl:m≤ws.length)(hd:(qj 0 m)[i]? = some d)(h:O6 M l (n+4) ws i e M2):
  ∃e1,gN 2 d e=some e1∧(iJ e1 M2).to (O6 M l (n+4) ws (i+1)) (IK M ws):=by
 obtain⟨rfl,⟨v,rfl⟩,hg⟩:=h
 obtain⟨hi,rfl⟩:=sX hd
 refine⟨_,rfl,?_⟩
 obtain⟨w,hw⟩:∃w,ws[i]? = some w:=⟨_,List.getElem?_eq_getElem (by omega)⟩
 obtain⟨c,hc⟩:=sZ (i:=i) (by omega)
 have e1:=xx hM hw
 have e2:=hS.ix (i:=i) (by omega)
 have e3:=Jv (w:=w) (hS.l i c hc)
 by_cases hb:c.1=w∨c.2=w
 ·simp only[iJ,pQ]
  simp[e1,e2,e3]
  rw[if_neg (fun z=>hb.elim z.1 z.2)]
  exact⟨rfl,⟨_,rfl⟩,zf hg ⟨w,c,hw,hc,hb.imp Eq.symm Eq.symm⟩⟩
 ·simp only[iJ,pQ]
  simp[e1,e2,e3]
  rw[if_pos ⟨fun z=>hb (.inl z),fun z=>hb (.inr z)⟩]
  refine⟨rfl,i,rfl,by omega,hg,fun⟨w',c',h1,h2,h3⟩=>hb ?_⟩
  rw[hw]at h1;rw[hc]at h2;cases h1;cases h2
  exact h3.imp Eq.symm Eq.symm
theorem VF{M:Mem}{l:Nat}{ws:List Str}(hM:M[l]? = some (.lst (ws.map D.str)))(hz:ws.length≤1000):∃d M',jB [.ref l] M= .ok d M'∧Gr M M'∧Due ws d:=by
 have hS:=J9.new (M:=M)
 have g1:Gr M (M++sS M.length):=Gr.app
 have hM1:=g1 _ _ hM
 obtain⟨m,hm⟩:∃m,m=min 4 ws.length:=⟨_,rfl⟩
 have r1:∀M:Mem,vA [.int (m:Int)] M= .ok ⟨none,qj 0 m⟩ M:=fun M=>by
  have:=lW (M:=M) (j:=(m:Int)) (by omega) (by omega)
  simpa using this
 have c1:(if(ws.length:Int)<4 then(ws.length:Int)else 4)=(m:Int):=by split<;>omega
 have e0:M++sS M.length=M++[.lst [.str "once",.str "free"],.lst [.str "best",.str "any"],.lst [.str "own",.str "old"],.lst [.str "most",.str "half"],.lst [.ref M.length,.ref (M.length+1),.ref (M.length+2),.ref (M.length+3)]]:=rfl
 rw[e0]at hM1
 have hL:=gk hM1
 rw[List.length_map]at hL
 rcases ql (src:=none) (g:=gN 2) (b:=iJ) (O6 (M++sS M.length) l (M.length+4) ws) (R:=IK (M++sS M.length) ws) (qj 0 m) 0 (e:=[some (.ref l),some (.ref (M.length+4)),none]) (M:=M++sS M.length) ⟨rfl,⟨_,rfl⟩,fun j hj=>absurd hj (Nat.not_lt_zero _)⟩ (fun _ _ _ _ _ _=>trivial)
  (fun i d e M2 hd h=>by rw[Nat.zero_add]at h ⊢;exact Oo (g1 _ _ hM) hS (by omega) (by omega) hd h)with⟨e',M',hl,hm',⟨v,rfl⟩,hg⟩ | ⟨r,M',hl,hm',k,rfl,hk,hg,hb⟩
 ·subst hm'
  rw[Hr,Nat.zero_add]at hg
  rw[e0]at hl
  by_cases h4:ws.length=4
  ·refine⟨.non,_,?_,g1,.inl ⟨rfl,h4,fun j hj=>hg j (by omega)⟩⟩
   simp only[jB,fj,kh,j9]
   simp[hL,c1,r1,hl,eq_true (show(ws.length:Int)=4 by omega),e0]
  ·have h4':¬((ws.length:Int)=4):=by omega
   refine⟨.int m,_,?_,g1,.inr ⟨m,rfl,by omega,hg,fun z=>fun⟨w',c',h1,h2,h3⟩=>absurd (List.getElem?_eq_some_iff.mp h1).1 (by omega),fun z=>by omega⟩⟩
   simp only[jB,fj,kh,j9]
   simp[hL,c1,r1,hl,h4',e0]
 ·subst hm'
  rw[e0]at hl
  refine⟨.int k,_,?_,g1,.inr ⟨k,rfl,by omega,hg,fun _=>hb,fun z=>absurd hk (by omega)⟩⟩
  simp only[jB,fj,kh,j9]
  simp[hL,c1,r1,hl,e0]
def W8(w:Str):Prop:=∃(j:Nat) (c:Str×Str),opts[j]? = some c∧(w=c.1∨w=c.2)
def Jt(w:Str):Prop:=w.length≤5∧32∉w.cps.toList
theorem Ks{w:Str}(h:W8 w):Jt w∧Jt (w++ "s")∧((∀c∈w.cps.toList,c<128)∧w.length≤1000)∧Jt ⟨w.cps.map PyProof.Rows.up1⟩∧Jt (Txt.slice w none (some (-1))):=by
 obtain⟨j,c,hc,hw⟩:=h
 have:=vJ hc
 unfold Jt
 match j,this with
 | 0,_=>simp[opts]at hc;subst hc;rcases hw with rfl | rfl<;>decide +kernel
 | 1,_=>simp[opts]at hc;subst hc;rcases hw with rfl | rfl<;>decide +kernel
 | 2,_=>simp[opts]at hc;subst hc;rcases hw with rfl | rfl<;>decide +kernel
 | 3,_=>simp[opts]at hc;subst hc;rcases hw with rfl | rfl<;>decide +kernel
theorem cp1{te:ME}{ce:Sl}{d y:D}{ds ys:List D}{M M1:Mem}(h:te (some d::ce) M= .ok y M1):lF none JD te ce (d::ds) ys M=lF none JD te ce ds (ys++[y]) M1:=by
 rw[lF,if_pos (show fJ none M from trivial)]
 show(Out.ok true M).bind _=_
 rw[Out.bK,if_pos rfl,h]
 exact Out.bK ..
theorem cp0{te:ME}{ce:Sl}{ys:List D}{M:Mem}:lF none JD te ce [] ys M= .ok (.ref M.length) (M++[.lst ys]):=by
 rw[lF,if_pos (show fJ none M from trivial)]
theorem Hs{M:Mem}:vA [.int 4] M= .ok ⟨none,[.int 0,.int 1,.int 2,.int 3]⟩ M:=lW (by omega) (by omega)
theorem Mi{M:Mem}{n i:Nat}{c:Str×Str}{z:Int}(hS:J9 M n)(hc:opts[i]? = some c):∃w,W8 w∧aZ (.ref (n+i)) (.int (z % 2)) M= .ok (.str w) M:=by
 obtain⟨d,hd,e⟩:=Mh (z:=z) (j:=2) (hS.l i c hc) (by simp) (by omega)
 rcases List.mem_cons.mp hd with rfl | hd
 ·exact⟨c.1,⟨i,c,hc,.inl rfl⟩,e⟩
 ·rw[List.mem_singleton.mp hd]at e
  exact⟨c.2,⟨i,c,hc,.inr rfl⟩,e⟩
def ZW:ME:=(aB aZ (aB aZ (az 1) (az 0)) (aB cX (aB rF (aB aZ (az 2) (mC (.int 0))) (aB aZ (h_ (ao (mC (.int 1)) (ao (mC (.int 2)) (ao (mC (.int 4)) (ao (mC (.int 8)) aL))))) (az 0))) (mC (.int 2))))
theorem GX{M:Mem}{n x i:Nat}{xs:List Int}{a:Int}{k:Int}(hS:J9 M n)(hM:M[x]? = some (.lst (xs.map D.int)))(ha:xs[0]? = some a)(hi:i<4)(hk:k=i):∃w,W8 w∧ZW [some (.int k),some (.ref (n+4)),some (.ref x)] M= .ok (.str w) (M++[.lst [.int 1,.int 2,.int 4,.int 8]]):=by
 subst hk
 obtain⟨c,hc⟩:=sZ hi
 have g:Gr M (M++[MO.lst [.int 1,.int 2,.int 4,.int 8]]):=Gr.app
 have e2:=hS.ix hi
 have e3:aZ (.ref x) (.int 0) M= .ok (.int a) M:=fO hM rfl ha
 obtain⟨q,hq,e4⟩:∃q:Int,(0<q∧q<1073741824)∧aZ (.ref M.length) (.int (i:Int)) (M++[.lst [.int 1,.int 2,.int 4,.int 8]])= .ok (.int q) (M++[.lst [.int 1,.int 2,.int 4,.int 8]]):=by
  match i,hi with
  | 0,_=>exact⟨1,by omega,dU a_ (by omega) rfl⟩
  | 1,_=>exact⟨2,by omega,dU a_ (by omega) rfl⟩
  | 2,_=>exact⟨4,by omega,dU a_ (by omega) rfl⟩
  | 3,_=>exact⟨8,by omega,dU a_ (by omega) rfl⟩
 obtain⟨w,hw,e5⟩:=Mi (z:=a / q) (hS.gr g) hc
 have e6:∀M:Mem,rF (.int a) (.int q) M= .ok (.int (a / q)) M:=fun M=>lV hq.1 hq.2
 have e7:∀(z:Int) (M:Mem),cX (.int z) (.int 2) M= .ok (.int (z % 2)) M:=fun z M=>bD (by omega)
 refine⟨w,hw,?_⟩
 unfold ZW
 simp[e2,e3,e4,e5,e6,e7]
structure Bq(M0:Mem)(x r:Nat)(xs:List Int)(at':Int)(ws:List Str)(e:Sl)(M:Mem):Prop where
 e:e=[some (.ref x),some (.ref (M0.length+4)),some (.ref r),some (.int at')]
 g:Gr M0 M
 s:J9 M M0.length
 x:M[x]? = some (.lst (xs.map D.int))
 w:M[r]? = some (.lst (ws.map D.str))
 r:M0.length+5≤r
 a:0≤at'∧at'<4
theorem N7{M0 M:Mem}{r:Nat}{o:MO}(g:Gr M0 M)(h:M0.length≤r):Gr M0 (M.set r o):=fun i q hq=>by
 have:=yW hq
 rw[List.getElem?_set_ne (by omega)]
 exact g i q hq
theorem Bq.put{M0:Mem}{x r:Nat}{xs:List Int}{at':Int}{ws:List Str}{e:Sl}{M:Mem}(h:Bq M0 x r xs at' ws e M)(hx:x<M0.length)(w:Str)(hl:ws.length=4):
  Fy M (.ref r) (.int at') (.str w)=some (M.set r (.lst ((ws.set at'.toNat w).map D.str)))∧Bq M0 x r xs at' (ws.set at'.toNat w) e (M.set r (.lst ((ws.set at'.toNat w).map D.str))):=by
 have h1:=h.a.1
 have h2:=h.a.2
 have hr:=h.r
 refine⟨?_,h.e,N7 h.g (by omega),⟨?_,fun i c hc=> ?_⟩,?_,List.getElem?_set_self (yW h.w),h.r,h.a⟩
 ·have z:O8 (List.map D.str ws).length at'=some at'.toNat:=by
   unfold O8
   rw[if_pos h1,List.length_map,hl,if_pos (by omega)]
  simp only[Fy,h.w,z,Option.map_some,List.map_set]
 ·rw[List.getElem?_set_ne (by omega)];exact h.s.o
 ·have:=vJ hc
  rw[List.getElem?_set_ne (by omega)];exact h.s.l i c hc
 ·rw[List.getElem?_set_ne (by omega)];exact h.x
theorem Bq.grow{M0:Mem}{x r:Nat}{xs:List Int}{at':Int}{ws:List Str}{e:Sl}{M:Mem}(h:Bq M0 x r xs at' ws e M){os:List MO}:Bq M0 x r xs at' ws e (M++os):=
 ⟨h.e,h.g.trans Gr.app,h.s.gr Gr.app,Gr.app _ _ h.x,Gr.app _ _ h.w,h.r,h.a⟩
theorem Iw{P:Str→Prop}{ws:List Str}{i:Nat}{w:Str}(h:∀u∈ws,P u)(hw:P w):∀u∈ws.set i w,P u:=fun u hu=>by
 rcases List.mem_or_eq_of_mem_set hu with z | z
 ·exact h u z
 ·rw[z];exact hw
section
variable{M0 M:Mem}{x r:Nat}{xs:List Int}{at':Int}{ws:List Str}{e:Sl}
theorem Vs(h:Bq M0 x r xs at' ws e M)(hx:x<M0.length)(hs:qR 6 xs)(hl:ws.length=4)(hw:∀w∈ws,W8 w):∃ws' M',iB e M= .next e M'∧Bq M0 x r xs at' ws' e M'∧ws'.length=4∧∀w∈ws',W8 w:=by
 obtain⟨a1,h1,p1,_⟩:=eO hs (i:=1) (by omega)
 obtain⟨a3,h3,p3,_⟩:=eO hs (i:=3) (by omega)
 have e1:∀M',M'[x]? = some (.lst (xs.map D.int))→aZ (.ref x) (.int 1) M'= .ok (.int a1) M':=fun M' q=>fO q rfl h1
 have e3:∀M',M'[x]? = some (.lst (xs.map D.int))→aZ (.ref x) (.int 3) M'= .ok (.int a3) M':=fun M' q=>fO q rfl h3
 have m8:∀(z:Int) (M:Mem),cX (.int z) (.int 8) M= .ok (.int (z % 8)) M:=fun z M=>bD (by omega)
 have m3:∀(z:Int) (M:Mem),cX (.int z) (.int 3) M= .ok (.int (z % 3)) M:=fun z M=>bD (by omega)
 have m4:∀(z:Int) (M:Mem),cX (.int z) (.int 4) M= .ok (.int (z % 4)) M:=fun z M=>bD (by omega)
 have m2:∀(z:Int) (M:Mem),cX (.int z) (.int 2) M= .ok (.int (z % 2)) M:=fun z M=>bD (by omega)
 have d3:∀(z:Int) (M:Mem),rF (.int z) (.int 3) M= .ok (.int (z / 3)) M:=fun z M=>lV (by omega) (by omega)
 by_cases hz:a1 % 8=0
 ·obtain⟨j,hj,hj4⟩:∃j:Nat,(at'+1+a3 % 3) % 4=(j:Int)∧j<4:=⟨((at'+1+a3 % 3) % 4).toNat,by omega,by omega⟩
  obtain⟨c,hc⟩:=sZ hj4
  obtain⟨w,hw8,e5⟩:=Mi (z:=a3 / 3) h.s hc
  have e4:=h.s.ix hj4
  obtain⟨p,h'⟩:=h.put hx w hl
  have he:=h.e
  subst he
  refine⟨_,_,?_,h',by simp[hl],Iw hw hw8⟩
  simp only[iB]
  simp[e1 M h.x,e3 M h.x,m8,m3,m4,m2,d3,hz,hj,e4,e5,p]
 ·have he:=h.e
  subst he
  refine⟨ws,M,?_,h,hl,hw⟩
  simp only[iB]
  simp[e1 M h.x,m8,hz]
theorem Vr(h:Bq M0 x r xs at' ws e M)(hx:x<M0.length)(hs:qR 6 xs)(hl:ws.length=4)(hw:∀w∈ws,W8 w):∃ws' M',iz e M= .next e M'∧Bq M0 x r xs at' ws' e M'∧ws'.length=4∧∀w∈ws',Jt w:=by
 obtain⟨a1,h1,p1,_⟩:=eO hs (i:=1) (by omega)
 obtain⟨a3,h3,p3,_⟩:=eO hs (i:=3) (by omega)
 have e1:∀M',M'[x]? = some (.lst (xs.map D.int))→aZ (.ref x) (.int 1) M'= .ok (.int a1) M':=fun M' q=>fO q rfl h1
 have e3:∀M',M'[x]? = some (.lst (xs.map D.int))→aZ (.ref x) (.int 3) M'= .ok (.int a3) M':=fun M' q=>fO q rfl h3
 have m8:∀(z:Int) (M:Mem),cX (.int z) (.int 8) M= .ok (.int (z % 8)) M:=fun z M=>bD (by omega)
 have m4:∀(z:Int) (M:Mem),cX (.int z) (.int 4) M= .ok (.int (z % 4)) M:=fun z M=>bD (by omega)
 by_cases hz:a1 % 8=1
 ·have ha:=h.a
  obtain⟨w,hw'⟩:∃w,ws[at'.toNat]? = some w:=⟨_,List.getElem?_eq_getElem (by omega)⟩
  have ok:=Ks (hw w (List.mem_of_getElem? hw'))
  have ew:aZ (.ref r) (.int at') M= .ok (.str w) M:=dU h.w ha.1 (by simp[hw'])
  have hs1:("s" : Str).length=1:=by decide +kernel
  have hw5:=ok.1.1
  have es:∀M:Mem,rG (.str w) (.str "s") M= .ok (.str (w++ "s")) M:=fun M=>Lw (by omega)
  have eu:∀M:Mem,zW (.str w) [] M= .ok (.str ⟨w.cps.map PyProof.Rows.up1⟩) M:=fun M=>by show(if _ then _ else _)=_;rw[if_pos ok.2.2.1]
  have et:∀M:Mem,Ea "str" (.str w) M=true:=fun M=>rfl
  have ec:∀M:Mem,Ke (.str w) none (some (-1)) M= .ok (.str (Txt.slice w none (some (-1)))) M:=fun M=>Qc (by omega)
  obtain⟨N,hN⟩:∃N,N=M++[MO.lst [.str (w++ "s"),.str ⟨w.cps.map PyProof.Rows.up1⟩,.str "",.str (Txt.slice w none (some (-1)))]]:=⟨_,rfl⟩
  have hN0:Bq M0 x r xs at' ws e N:=by rw[hN];exact h.grow
  have hNl:N[M.length]? = some (.lst [.str (w++ "s"),.str ⟨w.cps.map PyProof.Rows.up1⟩,.str "",.str (Txt.slice w none (some (-1)))]):=by rw[hN];exact a_
  obtain⟨d,hd,e5⟩:=Mh (z:=a3) (j:=4) hNl (by simp) (by omega)
  have hdw:∃u,d= .str u∧Jt u:=by
   simp only[List.mem_cons,List.not_mem_nil,or_false]at hd
   rcases hd with rfl | rfl | rfl | rfl
   ·exact⟨_,rfl,ok.2.1⟩
   ·exact⟨_,rfl,ok.2.2.2.1⟩
   ·exact⟨_,rfl,by unfold Jt;decide +kernel⟩
   ·exact⟨_,rfl,ok.2.2.2.2⟩
  obtain⟨u,rfl,hu⟩:=hdw
  obtain⟨p,h'⟩:=hN0.put hx u hl
  have he:=h.e
  subst he
  refine⟨_,_,?_,h',by simp[hl],Iw (fun w' ab2=>(Ks (hw w' ab2)).1) hu⟩
  simp only[iz]
  simp[e1 M h.x,m8,hz,ew,es,eu,et,ec,←hN,e3 N hN0.x,m4,e5,p]
 ·have he:=h.e
  subst he
  refine⟨ws,M,?_,h,hl,fun w hw'=>(Ks (hw w hw')).1⟩
  simp only[iz]
  simp[e1 M h.x,m8,hz]
end
theorem Ru{α:Type}{xs:List α}{lo hi:Option Int}{x:α}(h:x∈cut xs lo hi):x∈xs:=by
 unfold cut at h
 exact List.mem_of_mem_drop (List.mem_of_mem_take h)
def Gf:List (List Str):=[["","most","x"],["once"],["half",""],[""]]
def exts(n:Nat):List MO:=[.lst [.str "",.str "most",.str "x"],.lst [.str "once"],.lst [.str "half",.str ""],.lst [.str ""],.lst [.ref n,.ref (n+1),.ref (n+2),.ref (n+3)]]
theorem Ge{es:List Str}(h:es∈Gf):es.length≤3∧∀w∈es,Jt w:=by
 simp only[Gf,List.mem_cons,List.not_mem_nil,or_false]at h
 unfold Jt
 rcases h with rfl | rfl | rfl | rfl<;>decide +kernel
theorem Og{M:Mem}(z:Int):∃(j:Nat) (es:List Str),es∈Gf∧aZ (.ref (M.length+4)) (.int (z % 4)) (M++exts M.length)= .ok (.ref (M.length+j)) (M++exts M.length)∧(M++exts M.length)[M.length+j]? = some (.lst (es.map D.str)):=by
 have ho:(M++exts M.length)[M.length+4]? = some (.lst [.ref M.length,.ref (M.length+1),.ref (M.length+2),.ref (M.length+3)]):=by
  rw[List.getElem?_append_right (by omega),Nat.add_sub_cancel_left];rfl
 have hr:∀j,(M++exts M.length)[M.length+j]? = (exts M.length)[j]? := fun j=>by
  rw[List.getElem?_append_right (by omega),Nat.add_sub_cancel_left]
 have hz:=M9 z (j:=4) (by omega)
 obtain⟨j,hj⟩:∃j:Nat,z % 4=(j:Int):=⟨(z % 4).toNat,by omega⟩
 rw[hj]
 have hj4:j<4:=by omega
 match j,hj4 with
 | 0,_=>exact⟨0,["","most","x"],by simp[Gf],dU ho (by omega) rfl,by rw[hr];rfl⟩
 | 1,_=>exact⟨1,["once"],by simp[Gf],dU ho (by omega) rfl,by rw[hr];rfl⟩
 | 2,_=>exact⟨2,["half",""],by simp[Gf],dU ho (by omega) rfl,by rw[hr];rfl⟩
 | 3,_=>exact⟨3,[""],by simp[Gf],dU ho (by omega) rfl,by rw[hr];rfl⟩
def DW(ws:List Str):Prop:=ws.length≤7∧∀w∈ws,Jt w
section
variable{M0 M:Mem}{x r:Nat}{xs:List Int}{at':Int}{ws:List Str}{e:Sl}
theorem Bq.other(h:Bq M0 x r xs at' ws e M){M':Mem}(g:Gr M M'){r':Nat}{ws':List Str}(hw:M'[r']? = some (.lst (ws'.map D.str)))(hr:M0.length+5≤r'):Bq M0 x r' xs at' ws' (e.set 2 (some (.ref r'))) M':=
 ⟨by rw[h.e];rfl,h.g.trans g,h.s.gr g,g _ _ h.x,hw,hr,h.a⟩
theorem Vq(h:Bq M0 x r xs at' ws e M)(hs:qR 6 xs)(hl:ws.length=4)(hw:∀w∈ws,Jt w):∃r' ws' e' M',iw e M= .next e' M'∧Bq M0 x r' xs at' ws' e' M'∧DW ws':=by
 obtain⟨a1,h1,p1,_⟩:=eO hs (i:=1) (by omega)
 obtain⟨a3,h3,p3,_⟩:=eO hs (i:=3) (by omega)
 have e1:∀M',M'[x]? = some (.lst (xs.map D.int))→aZ (.ref x) (.int 1) M'= .ok (.int a1) M':=fun M' q=>fO q rfl h1
 have e3:∀M',M'[x]? = some (.lst (xs.map D.int))→aZ (.ref x) (.int 3) M'= .ok (.int a3) M':=fun M' q=>fO q rfl h3
 have m8:∀(z:Int) (M:Mem),cX (.int z) (.int 8) M= .ok (.int (z % 8)) M:=fun z M=>bD (by omega)
 have m4:∀(z:Int) (M:Mem),cX (.int z) (.int 4) M= .ok (.int (z % 4)) M:=fun z M=>bD (by omega)
 have hlt:=yW h.w
 have hr:=h.r
 by_cases hz:a1 % 8=2
 ·obtain⟨j,es,hes,e5,e6⟩:=Og (M:=M) a3
  obtain⟨N,hN⟩:∃N,N=M++exts M.length:=⟨_,rfl⟩
  have g:Gr M N:=by rw[hN];exact Gr.app
  rw[←hN]at e5 e6
  have hc:rG (.ref r) (.ref (M.length+j)) N= .ok (.ref N.length) (N++[.lst (ws.map D.str++es.map D.str)]):=Lr (g _ _ h.w) e6 (by have:=(Ge hes).1;simp;omega)
  have g2:Gr N (N++[.lst (ws.map D.str++es.map D.str)]):=Gr.app
  have hnl:M.length≤N.length:=by rw[hN];simp
  have h':=h.other (g.trans g2) (r':=N.length) (ws':=ws++es) (by rw[List.map_append];exact a_) (by omega)
  have eN:M++[MO.lst [.str "",.str "most",.str "x"],.lst [.str "once"],.lst [.str "half",.str ""],.lst [.str ""],.lst [.ref M.length,.ref (M.length+1),.ref (M.length+2),.ref (M.length+3)]]=N:=hN.symm
  have he:=h.e
  subst he
  refine⟨_,_,_,_,?_,h',?_,fun w hw'=> ?_⟩
  ·simp only[iw]
   simp[e1 M h.x,m8,hz,eN,e3 N (g _ _ h.x),m4,e5,hc]
  ·have:=(Ge hes).1
   simp[hl];omega
  ·rcases List.mem_append.mp hw' with z | z
   ·exact hw w z
   ·exact(Ge hes).2 w z
 ·refine⟨r,ws,e,M,?_,h,by omega,hw⟩
  have he:=h.e
  subst he
  simp only[iw]
  simp[e1 M h.x,m8,hz]
theorem Vp(h:Bq M0 x r xs at' ws e M)(hs:qR 6 xs)(hw:DW ws):∃r' ws' e' M',iu e M= .next e' M'∧Bq M0 x r' xs at' ws' e' M'∧DW ws':=by
 obtain⟨a1,h1,p1,_⟩:=eO hs (i:=1) (by omega)
 obtain⟨a3,h3,p3,_⟩:=eO hs (i:=3) (by omega)
 have e1:∀M',M'[x]? = some (.lst (xs.map D.int))→aZ (.ref x) (.int 1) M'= .ok (.int a1) M':=fun M' q=>fO q rfl h1
 have e3:∀M',M'[x]? = some (.lst (xs.map D.int))→aZ (.ref x) (.int 3) M'= .ok (.int a3) M':=fun M' q=>fO q rfl h3
 have m8:∀(z:Int) (M:Mem),cX (.int z) (.int 8) M= .ok (.int (z % 8)) M:=fun z M=>bD (by omega)
 have m4:∀(z:Int) (M:Mem),cX (.int z) (.int 4) M= .ok (.int (z % 4)) M:=fun z M=>bD (by omega)
 have hlt:=yW h.w
 have hr:=h.r
 by_cases hz:a1 % 8=3
 ·have hc:Ke (.ref r) none (some (a3 % 4)) M= .ok (.ref M.length) (M++[.lst ((cut ws none (some (a3 % 4))).map D.str)]):=by rw[Qd h.w,Rv]
  have h':=h.other (M':=M++[.lst ((cut ws none (some (a3 % 4))).map D.str)]) Gr.app (r':=M.length) a_ (by omega)
  have he:=h.e
  subst he
  refine⟨_,_,_,_,?_,h',?_,fun w hw'=>hw.2 w (Ru hw')⟩
  ·simp only[iu]
   simp[e1 M h.x,m8,hz,e3 M h.x,m4,hc]
  ·have:=Rw ws none (some (a3 % 4))
   have:=hw.1
   omega
 ·refine⟨r,ws,e,M,?_,h,hw⟩
  have he:=h.e
  subst he
  simp only[iu]
  simp[e1 M h.x,m8,hz]
end
theorem Kr{M:Mem}{x:Nat}{xs:List Int}(hM:M[x]? = some (.lst (xs.map D.int)))(hs:qR 6 xs):∃ws r M',j8 [.ref x] M= .ok (.ref r) M'∧M'[r]? = some (.lst (ws.map D.str))∧Gr M M'∧DW ws:=by
 have hS:=J9.new (M:=M)
 obtain⟨N,hN⟩:∃N,N=M++sS M.length:=⟨_,rfl⟩
 rw[←hN]at hS
 have g:Gr M N:=by rw[hN];exact Gr.app
 have eN:M++[MO.lst [.str "once",.str "free"],.lst [.str "best",.str "any"],.lst [.str "own",.str "old"],.lst [.str "most",.str "half"],.lst [.ref M.length,.ref (M.length+1),.ref (M.length+2),.ref (M.length+3)]]=N:=hN.symm
 obtain⟨a0,h0,_,_⟩:=eO hs (i:=0) (by omega)
 obtain⟨a2,h2,_,_⟩:=eO hs (i:=2) (by omega)
 have hx:=yW hM
 obtain⟨w0,k0,t0⟩:=GX (k:=0) hS (g _ _ hM) h0 (i:=0) (by omega) rfl
 obtain⟨N1,N6⟩:∃N1,N1=N++[MO.lst [.int 1,.int 2,.int 4,.int 8]]:=⟨_,rfl⟩
 have g1:Gr N N1:=by rw[N6];exact Gr.app
 obtain⟨w1,k1,t1⟩:=GX (k:=1) (hS.gr g1) (g1 _ _ (g _ _ hM)) h0 (i:=1) (by omega) rfl
 obtain⟨N2,Vx⟩:∃N2,N2=N1++[MO.lst [.int 1,.int 2,.int 4,.int 8]]:=⟨_,rfl⟩
 have g2:Gr N N2:=by rw[Vx];exact g1.trans Gr.app
 obtain⟨w2,k2,t2⟩:=GX (k:=2) (hS.gr g2) (g2 _ _ (g _ _ hM)) h0 (i:=2) (by omega) rfl
 obtain⟨N3,Vw⟩:∃N3,N3=N2++[MO.lst [.int 1,.int 2,.int 4,.int 8]]:=⟨_,rfl⟩
 have g3:Gr N N3:=by rw[Vw];exact g2.trans Gr.app
 obtain⟨w3,k3,t3⟩:=GX (k:=3) (hS.gr g3) (g3 _ _ (g _ _ hM)) h0 (i:=3) (by omega) rfl
 obtain⟨N4,hN4⟩:∃N4,N4=N3++[MO.lst [.int 1,.int 2,.int 4,.int 8]]:=⟨_,rfl⟩
 have g4:Gr N N4:=by rw[hN4];exact g3.trans Gr.app
 have hc:lF none JD ZW [some (.ref (M.length+4)),some (.ref x)] [.int 0,.int 1,.int 2,.int 3] [] N= .ok (.ref N4.length) (N4++[.lst ([w0,w1,w2,w3].map D.str)]):=by
  rw[cp1 t0,←N6,cp1 t1,←Vx,cp1 t2,←Vw,cp1 t3,←hN4,cp0]
  rfl
 unfold ZW at hc
 obtain⟨N5,hN5⟩:∃N5,N5=N4++[MO.lst ([w0,w1,w2,w3].map D.str)]:=⟨_,rfl⟩
 rw[←hN5]at hc
 have g5:Gr N N5:=by rw[hN5];exact g4.trans Gr.app
 have n4:M.length+5≤N4.length:=by rw[hN4,Vw,Vx,N6,hN];simp[sS]
 have e2:aZ (.ref x) (.int 2) N5= .ok (.int a2) N5:=fO (g5 _ _ (g _ _ hM)) rfl h2
 have m4:∀(z:Int) (M:Mem),cX (.int z) (.int 4) M= .ok (.int (z % 4)) M:=fun z M=>bD (by omega)
 have hW:Bq M x N4.length xs (a2 % 4) [w0,w1,w2,w3] [some (.ref x),some (.ref (M.length+4)),some (.ref N4.length),some (.int (a2 % 4))] N5:=
  ⟨rfl,g.trans g5,hS.gr g5,g5 _ _ (g _ _ hM),by rw[hN5];exact a_,n4,M9 _ (by omega)⟩
 obtain⟨ws1,M1,f1,W1,l1,q1⟩:=Vs hW hx hs rfl (by simp only[List.mem_cons,List.not_mem_nil,or_false];rintro w (rfl | rfl | rfl | rfl)<;>assumption)
 obtain⟨ws2,M2,f2,W2,l2,q2⟩:=Vr W1 hx hs l1 q1
 obtain⟨r3,ws3,e3,M3,f3,W3,q3⟩:=Vq W2 hs l2 q2
 obtain⟨r4,ws4,e4,M4,f4,W4,q4⟩:=Vp W3 hs q3
 refine⟨ws4,r4,M4,?_,W4.w,W4.g,q4⟩
 have v4:az 2 e4 M4= .ok (.ref r4) M4:=by rw[W4.e];exact Su
 simp only[j8,eG]
 simp[eN,Hs,tZ,hc,e2,m4,f1,f2,f3,f4,v4]
theorem OD:(" " : Str)=⟨#[32]⟩:=by decide
theorem Dc{c:Nat}{n:Nat}:∀(ws:List (List Nat)),(∀w∈ws,w.length≤n)→(qI c ws).length≤ws.length*(n+1)
 | [],_=>by simp[qI]
 | [w],h=>by have:=h w (by simp);simp[qI];omega
 | w::v::r,h=>by
  have h1:=h w (by simp)
  have h2:=Dc (c:=c) (n:=n) (v::r) fun x hx=>h x (by simp at hx ⊢;exact .inr hx)
  have e:qI c (w::v::r)=w++c::qI c (v::r):=rfl
  have e2:(w::v::r).length*(n+1)=(v::r).length*(n+1)+(n+1):=by simp[Nat.add_mul]
  rw[e,e2]
  simp only[List.length_append,List.length_cons]at h2 ⊢
  omega
theorem Vm{c:Nat}{n:Nat}{texts:List Str}(hB:∀y∈texts,y.length≤n)(h:texts.length*n+texts.length*1≤16777216):JoinOk ⟨#[c]⟩ texts=true:=by
 have:=StrLaws.joinFits (sep:=⟨#[c]⟩) (B:=n) hB h
 unfold JoinOk
 rw[this];rfl
def S_(ws:List Str):List Str:=if ws=[]then[""]else ws
theorem Kp(ws:List Str):(ws.map fun w=>w.cps.toList).map Kf=ws:=by
 rw[List.map_map]
 exact(List.map_congr_left fun w _=>U_ w).trans (List.map_id _)
theorem text_len{ws:List Str}(h:DW ws):(Txt.join " " ws).length≤1000:=by
 rw[OD,←Kp ws,xu,nU,nH]
 have:=Dc (c:=32) (n:=5) (ws.map fun w=>w.cps.toList) fun w hw=>by
  obtain⟨u,hu,rfl⟩:=List.mem_map.mp hw
  rw[←nU];exact(h.2 u hu).1
 rw[List.length_map]at this
 have:=h.1
 omega
theorem pC{ws:List Str}(h:DW ws):Txt.split (Txt.join " " ws) " " = S_ ws:=by
 unfold S_
 by_cases hz:ws=[]
 ·subst hz
  rw[if_pos rfl]
  decide +kernel
 ·rw[if_neg hz,OD]
  have:=Et (c:=32) (by omega) (ws:=ws.map fun w=>w.cps.toList) (by simpa using hz) fun w hw=>by
   obtain⟨u,hu,rfl⟩:=List.mem_map.mp hw
   exact(h.2 u hu).2
  rw[Kp]at this
  exact this
theorem Rc{M:Mem}{r:Nat}{ws:List Str}(hM:M[r]? = some (.lst (ws.map D.str)))(h:DW ws):yP (.str " ") [.ref r] M= .ok (.str (Txt.join " " ws)) M:=by
 refine Ln hM ?_
 rw[OD]
 exact Vm (n:=5) (fun y hy=>(h.2 y hy).1) (by have:=h.1;omega)
def Ly(a b c d:Bool):MO:= .ins 3 [("once",.bl a),("best",.bl b),("own",.bl c),("most",.bl d)]
theorem get_set{M:Mem}{n:Nat}{o x:MO}(h:M[n]? = some o):(M.set n x)[n]? = some x:=List.getElem?_set_self (yW h)
theorem wH{M:Mem}{y:Str}{us:List Str}(hy:y.length≤1000)(hs:Txt.split y " " = us):∃d,Due us d∧((∃(k:Nat) (M':Mem),d= .int k∧dz [.ref M.length,.str y] (M++[.ins 3 []])= .exc 2 (.int k) M'∧Gr M M')∨
  (d= .non∧∃(w0 w1 w2 w3:Str) (M':Mem),us=[w0,w1,w2,w3]∧dz [.ref M.length,.str y] (M++[.ins 3 []])= .ok .non M'∧Gr M M'∧M'[M.length]? = some (Ly (decide (w0= "once")) (decide (w1= "best")) (decide (w2= "own")) (decide (w3= "most"))))):=by
 obtain⟨N,hN⟩:∃N,N=M++[MO.ins 3 []]:=⟨_,rfl⟩
 obtain⟨N1,N6⟩:∃N1,N1=N++[MO.lst (us.map D.str)]:=⟨_,rfl⟩
 have g:Gr M N:=by rw[hN];exact Gr.app
 have g1:Gr N N1:=by rw[N6];exact Gr.app
 have hl:N1[N.length]? = some (.lst (us.map D.str)):=by rw[N6];exact a_
 have h0:N1[M.length]? = some (.ins 3 []):=g1 _ _ (by rw[hN];exact a_)
 have nl:N.length=M.length+1:=by rw[hN];simp
 have e1:pG (.str y) [.str " "] N= .ok (.ref N.length) N1:=by rw[yM (by omega) (by decide),hs,←N6]
 have ty:Ea "str" (.str y) N=true:=rfl
 obtain⟨d,e2,hd⟩:=Kq hl
 refine⟨d,hd,?_⟩
 rcases id hd with⟨rfl,h4,hg⟩ | ⟨k,rfl,_⟩
 ·obtain⟨w0,w1,w2,w3,rfl⟩:∃w0 w1 w2 w3,us=[w0,w1,w2,w3]:=by
   match us,h4 with
   | [a,b,c,d],_=>exact⟨a,b,c,d,rfl⟩
  obtain⟨b0,hb0⟩:∃b0,b0=decide (w0= "once"):=⟨_,rfl⟩
  obtain⟨b1,hb1⟩:∃b1,b1=decide (w1= "best"):=⟨_,rfl⟩
  obtain⟨b2,hb2⟩:∃b2,b2=decide (w2= "own"):=⟨_,rfl⟩
  obtain⟨b3,hb3⟩:∃b3,b3=decide (w3= "most"):=⟨_,rfl⟩
  have q1:qC [3] "once" (.bl b0) (.ref M.length) N1=some (N1.set M.length (.ins 3 [("once",.bl b0)])):=by
   rw[vI h0 (by simp) (by simp)];rfl
  have q2:qC [3] "best" (.bl b1) (.ref M.length) (N1.set M.length (.ins 3 [("once",.bl b0)]))=some (N1.set M.length (.ins 3 [("once",.bl b0),("best",.bl b1)])):=by
   rw[vI (get_set h0) (by simp) (by simp),List.set_set];rfl
  have q3:qC [3] "own" (.bl b2) (.ref M.length) (N1.set M.length (.ins 3 [("once",.bl b0),("best",.bl b1)]))=some (N1.set M.length (.ins 3 [("once",.bl b0),("best",.bl b1),("own",.bl b2)])):=by
   rw[vI (get_set h0) (by simp) (by simp),List.set_set];rfl
  have q4:qC [3] "most" (.bl b3) (.ref M.length) (N1.set M.length (.ins 3 [("once",.bl b0),("best",.bl b1),("own",.bl b2)]))=some (N1.set M.length (Ly b0 b1 b2 b3)):=by
   rw[vI (get_set h0) (by simp) (by simp),List.set_set];rfl
  have ix:∀(o:MO) (i:Nat) (w:Str),[w0,w1,w2,w3][i]? = some w→aZ (.ref N.length) (.int (i:Int)) (N1.set M.length o)= .ok (.str w) (N1.set M.length o):=fun o i w hw=>xx (by rw[List.getElem?_set_ne (by omega)];exact hl) hw
  have i0:aZ (.ref N.length) (.int 0) N1= .ok (.str w0) N1:=xx (i:=0) hl rfl
  have i1:=fun o=>ix o 1 w1 rfl
  have i2:=fun o=>ix o 2 w2 rfl
  have i3:=fun o=>ix o 3 w3 rfl
  simp only[Int.cast_ofNat_Int]at i1 i2 i3
  refine .inr ⟨rfl,w0,w1,w2,w3,N1.set M.length (Ly b0 b1 b2 b3),rfl,?_,N7 (g.trans g1) (Nat.le_refl _),by rw[←hb0,←hb1,←hb2,←hb3];exact get_set h0⟩
  simp only[dz,cO,jN]
  simp[←hN,ty,e1,e2,i0,i1,i2,i3,←hb0,←hb1,←hb2,←hb3,q1,q2,q3,q4]
 ·refine .inl ⟨k,N1,rfl,?_,g.trans g1⟩
  simp only[dz,cO,jN]
  simp[←hN,ty,e1,e2]
theorem BP{M:Mem}(b:Bool):iK [.bl b,.bl b] M= .ok (.bl true) M:=by
 simp[iK,cZ]
theorem Zq{n:Nat}(h:n<32):HM.dB n=(List.range 5).filter fun h=>n.testBit h:=
 HM.jc (by omega) fun i hi _=>Nat.testBit_lt_two_pow (Nat.lt_of_lt_of_le h (by
  have:=Nat.pow_le_pow_right (n:=2) (by omega) hi
  omega))
theorem RC{p:Nat}(h1:1≤p)(hp:p<32):0<HM.cnt p:=by
 unfold HM.cnt
 rcases Nat.eq_zero_or_pos (HM.dB p).length with z | z
 ·exfalso
  have e:=List.eq_nil_of_length_eq_zero z
  have:=HM.yg p (by omega)
  rw[e]at this
  simp[HM.setOf]at this
  omega
 ·exact z
theorem Ou:HM.cnt 0=0:=by simp[HM.cnt,HM.dB]
theorem Qk{M:Mem}:vA [.int 5] M= .ok ⟨none,qj 0 5⟩ M:=lW (by omega) (by omega)
theorem Jg{M:Mem}{n:Nat}(hn:n<32):lF none (bF (aB sEq (aB sW (aB wB (az 1) (az 0)) (mC (.int 1))) (mC (.int 1)))) (az 0) [some (.int n)] (qj 0 5) [] M= .ok (.ref M.length) (M++[.lst (hv (HM.dB n))]):=by
 have e2:=p6 (src:=none) (tt:=bF (aB sEq (aB sW (aB wB (az 1) (az 0)) (mC (.int 1))) (mC (.int 1)))) (te:=az 0) (ce:=[some (.int n)]) (M:=M) (qB fun j=>decide (Builtin.bitAnd ((n:Int) / 2 ^ j.toNat) 1=1)) (fun d=>d) (ds:=qj 0 5) trivial
  (fun d hd=>by
   obtain⟨i,hi,rfl⟩:=Ah hd
   have:wB (.int n) (.int (0+(i:Int))) M= .ok (.int ((n:Int) / 2 ^ (0+(i:Int)).toNat)) M:=G_ (by omega)
   simp only[wZ,Ai,Nh,yU,Nj,Out.bK,this,wG,Hj,Gq,qB])
  (fun d hd=>yU)
 rw[rH 5 (fun h=>n.testBit h) (qB fun j=>decide (Builtin.bitAnd ((n:Int) / 2 ^ j.toNat) 1=1)) (fun i _=>G9 n i),←Zq hn]at e2
 exact e2
theorem JT{M:Mem}{n m:Nat}(hn:n<32):lF none (bF (aB sEq (aB sW (aB wB (aB sW (az 1) (az 2)) (az 0)) (mC (.int 1))) (mC (.int 1)))) (az 0) [some (.int n),some (.int m)] (qj 0 5) [] M= .ok (.ref M.length) (M++[.lst (hv (HM.dB (n &&& m)))]):=by
 have hnm:n &&& m<32:=Nat.lt_of_le_of_lt Nat.and_le_left hn
 have ea:Builtin.bitAnd (n:Int) (m:Int)=((n &&& m:Nat):Int):=HM.t7 n m
 have e2:=p6 (src:=none) (tt:=bF (aB sEq (aB sW (aB wB (aB sW (az 1) (az 2)) (az 0)) (mC (.int 1))) (mC (.int 1)))) (te:=az 0) (ce:=[some (.int n),some (.int m)]) (M:=M) (qB fun j=>decide (Builtin.bitAnd (((n &&& m:Nat):Int) / 2 ^ j.toNat) 1=1)) (fun d=>d) (ds:=qj 0 5) trivial
  (fun d hd=>by
   obtain⟨i,hi,rfl⟩:=Ah hd
   have:wB (.int ((n &&& m:Nat):Int)) (.int (0+(i:Int))) M= .ok (.int (((n &&& m:Nat):Int) / 2 ^ (0+(i:Int)).toNat)) M:=G_ (by omega)
   simp only[wZ,Ai,Nh,Su,yU,Nj,Out.bK,wG,ea,this,Hj,Gq,qB])
  (fun d hd=>yU)
 rw[rH 5 (fun h=>(n &&& m).testBit h) (qB fun j=>decide (Builtin.bitAnd (((n &&& m:Nat):Int) / 2 ^ j.toNat) 1=1)) (fun i _=>G9 (n &&& m) i),←Zq hnm]at e2
 exact e2
def xg(S p:Nat)(most:Bool):Bool:=decide (0<HM.cnt p)&&(decide (2*HM.cnt (p &&& S)<HM.cnt p)||(most&&decide (2*HM.cnt (p &&& S)=HM.cnt p)))
theorem yX{S p:Nat}(most:Bool)(h1:1≤p)(hp:p<32):xg S p most= !jV S p (!most):=by
 have:=RC h1 hp
 unfold xg jV
 rw[Nat.and_comm p S]
 cases most
 ·simp[this]
  rw[Bool.eq_iff_iff];simp
 ·simp[this]
  rw[Bool.eq_iff_iff];simp
  omega
theorem JG{S:Nat}(most:Bool):xg S 0 most=false:=by simp[xg,Ou]
theorem HQ{M:Mem}{rl v4 v5:Option D}{S p:Nat}{most:Bool}(hp:p<32):∃M',Gr M M'∧∃u4 u5,m_ [rl,some (.int S),some (.bl most),some (.int p),v4,v5] M=if xg S p most=true then .ret (.bl false) M' else .next [rl,some (.int S),some (.bl most),some (.int p),u4,u5] M':=by
 obtain⟨N,hN⟩:∃N,N=M++[MO.lst (hv (HM.dB p))]:=⟨_,rfl⟩
 obtain⟨N1,N6⟩:∃N1,N1=N++[MO.lst (hv (HM.dB (p &&& S)))]:=⟨_,rfl⟩
 have g:Gr M N:=by rw[hN];exact Gr.app
 have g1:Gr N N1:=by rw[N6];exact Gr.app
 have e1:=Jg (M:=M) hp
 rw[←hN]at e1
 have e2:=JT (M:=N) (m:=S) hp
 rw[←N6]at e2
 have l1:oO [.ref M.length] N= .ok (.int (HM.cnt p:Nat)) N:=by rw[gk (by rw[hN];exact a_)];simp[hv,HM.cnt]
 have l2:oO [.ref N.length] N1= .ok (.int (HM.cnt (p &&& S):Nat)) N1:=by rw[gk (by rw[N6];exact a_)];simp[hv,HM.cnt]
 refine⟨N1,g.trans g1,some (.int (HM.cnt p:Nat)),some (.int (HM.cnt (p &&& S):Nat)),?_⟩
 simp only[m_,tV]
 simp[Qk,tZ,e1,e2,l1,l2,U9]
 unfold xg
 by_cases z0:0<HM.cnt p
 ·have z0':(0:Int)<((HM.cnt p:Nat):Int):=by omega
  by_cases z1:2*HM.cnt (p &&& S)<HM.cnt p
  ·have Ww:(2:Int)*((HM.cnt (p &&& S):Nat):Int)<((HM.cnt p:Nat):Int):=by omega
   simp[z0,z0',z1,Ww]
  ·have Ww:¬((2:Int)*((HM.cnt (p &&& S):Nat):Int)<((HM.cnt p:Nat):Int)):=by omega
   cases most
   ·simp[z0,z0',z1,Ww]
   ·by_cases z2:2*HM.cnt (p &&& S)=HM.cnt p
    ·have z2':(2:Int)*((HM.cnt (p &&& S):Nat):Int)=((HM.cnt p:Nat):Int):=by omega
     simp[z0,z0',z1,Ww,z2,z2']
    ·have z2':¬((2:Int)*((HM.cnt (p &&& S):Nat):Int)=((HM.cnt p:Nat):Int)):=by omega
     simp[z0,z0',z1,Ww,z2,z2']
 ·have z0':¬((0:Int)<((HM.cnt p:Nat):Int)):=by omega
  simp[z0,z0']
def Yz(o:cY)(k:Sl→Mem→cY):cY:=match o with
 | .next e M=>k e M
 | .cont e M=>k e M
 | .brk e M=> .next e M
 | .ret d M=> .ret d M
 | .exc c d e M=> .exc c d e M
 | .bad=> .bad
theorem Ob{src:Option (Nat×List D)}{i:Nat}{b:MS}{d:D}{ds:List D}{e:Sl}{M:Mem}(h:fJ src M):dW src (gN i) b (d::ds) e M=Yz (b (e.set i (some d)) M) (dW src (gN i) b ds):=by
 rw[dW,if_pos h]
 simp only[YW,Yz]
 try (cases b (e.set i (some d)) M<;>rfl)
theorem Y6{src:Option (Nat×List D)}{g:Tg}{b:MS}{e:Sl}{M:Mem}(h:fJ src M):dW src g b [] e M= .next e M:=by
 rw[dW,if_pos h]
theorem Nm{M:Mem}{S p q:Nat}{most:Bool}(h1:1≤p)(hp:p<32)(hq:q<32):∃M',g_ [.tup [.int p,.int q],.int S,.bl most] M= .ok (.bl (jV S p (!most)&&(decide (q=0)||jV S q (!most)))) M'∧Gr M M':=by
 obtain⟨M1,g1,u4,u5,t1⟩:=HQ (M:=M) (rl:=some (.tup [.int p,.int q])) (v4:=none) (v5:=none) (S:=S) (most:=most) hp
 obtain⟨M2,g2,w4,w5,t2⟩:=HQ (M:=M1) (rl:=some (.tup [.int p,.int q])) (v4:=u4) (v5:=u5) (S:=S) (most:=most) hq
 have hqz:xg S q most= !(decide (q=0)||jV S q (!most)):=by
  by_cases z:q=0
  ·subst z;rw[JG];simp
  ·rw[yX most (by omega) hq];simp[z]
 rw[yX most h1 hp]at t1
 rw[hqz]at t2
 cases c1:jV S p (!most)with
 | false=>
  rw[c1]at t1
  refine⟨M1,?_,g1⟩
  simp only[g_,dH,jy]
  simp only[Bool.not_false,if_true]at t1
  simp[Ob (src:=none) trivial,t1,Yz]
 | true=>
  rw[c1]at t1
  simp only[Bool.not_true,Bool.false_eq_true,if_false]at t1
  cases c2:(decide (q=0)||jV S q (!most))with
  | false=>
   rw[c2]at t2
   simp only[Bool.not_false,if_true]at t2
   refine⟨M2,?_,g1.trans g2⟩
   simp only[g_,dH,jy]
   simp[Ob (src:=none) trivial,t1,t2,Yz]
  | true=>
   rw[c2]at t2
   simp only[Bool.not_true,Bool.false_eq_true,if_false]at t2
   refine⟨M2,?_,g1.trans g2⟩
   simp only[g_,dH,jy]
   simp[Ob (src:=none) trivial,Y6 (src:=none) trivial,t1,t2,Yz]
theorem Lx{M:Mem}{r S p q:Nat}{a b c d:Bool}(hR:M[r]? = some (Ly a b c d))(hp:p<32)(hq:q<32):∃M',ju [.ref r,.tup [.int p,.int q],.int S] M= .ok (.bl (jV S p (!d)&&(decide (q=0)||jV S q (!d)))) M'∧Gr M M':=by
 obtain⟨M1,e1,g1⟩:=Pk (M:=M) S p q (!d) (by omega) (by omega)
 refine⟨M1,?_,g1⟩
 have f:xJ [3] "most" (.ref r) M= .ok (.bl d) M:=tX hR (by simp) rfl
 simp only[ju,dI]
 simp[f,e1]
def R7:List Str:=["once","best","own","most"]
structure O4(M0:Mem)(r l x v:Nat)(vals:List Bool)(i:Nat)(e:Sl)(M:Mem):Prop where
 e:∃u,e=[some (.ref r),some (.ref l),some (.ref x),some (.ref v),u,none,none]
 g:Gr M0 M
 v:M[v]? = some (.lst (vals.map D.bl))
theorem Qj{M:Mem}{r l x v i:Nat}{w0 w1 w2 w3:Str}{d:D}{e:Sl}{M2:Mem}(hl:M[l]? = some (.lst ([w0,w1,w2,w3].map D.str)))(hd:([.int 0,.int 1,.int 2,.int 3]:List D)[i]? = some d)
  (h:O4 M r l x v [decide (w0= "once"),decide (w1= "best"),decide (w2= "own"),decide (w3= "most")] i e M2):
  ∃e1,gN 4 d e=some e1∧(ir e1 M2).to (O4 M r l x v [decide (w0= "once"),decide (w1= "best"),decide (w2= "own"),decide (w3= "most")] (i+1)) fun _ _=>False:=by
 obtain⟨⟨u,rfl⟩,g,hv⟩:=h
 have hi:i<4:=(List.getElem?_eq_some_iff.mp hd).1
 obtain⟨w,s,hw,hs,hdi⟩:∃w s,[w0,w1,w2,w3][i]? = some w∧R7[i]? = some s∧[decide (w0= "once"),decide (w1= "best"),decide (w2= "own"),decide (w3= "most")][i]? = some (decide (w=s)):=by
  match i,hi with
  | 0,_=>exact⟨_,_,rfl,rfl,rfl⟩
  | 1,_=>exact⟨_,_,rfl,rfl,rfl⟩
  | 2,_=>exact⟨_,_,rfl,rfl,rfl⟩
  | 3,_=>exact⟨_,_,rfl,rfl,rfl⟩
 have hdd:d= .int (i:Int):=by
  match i,hi with
  | 0,_=>cases hd;rfl
  | 1,_=>cases hd;rfl
  | 2,_=>cases hd;rfl
  | 3,_=>cases hd;rfl
 subst hdd
 obtain⟨N,hN⟩:∃N,N=M2++[MO.lst [.str "once",.str "best",.str "own",.str "most"]]:=⟨_,rfl⟩
 have g1:Gr M2 N:=by rw[hN];exact Gr.app
 have e1:aZ (.ref v) (.int (i:Int)) M2= .ok (.bl (decide (w=s))) M2:=dU hv (by omega) (by rw[Int.toNat_natCast,List.getElem?_map,hdi];rfl)
 have e2:aZ (.ref l) (.int (i:Int)) M2= .ok (.str w) M2:=xx (g _ _ hl) hw
 have e3:aZ (.ref M2.length) (.int (i:Int)) N= .ok (.str s) N:=xx (ws:=R7) (by rw[hN];exact a_) hs
 refine⟨_,rfl,?_⟩
 simp only[ir,qK]
 simp[e1,e2,←hN,e3,BP]
 exact⟨⟨_,rfl⟩,g.trans g1,g1 _ _ hv⟩
theorem Xh{a0 a1 a2 a3 a4 a5 a6 v:Option D}:([a0,a1,a2,a3,a4,a5,a6]:Sl).set 6 v=[a0,a1,a2,a3,a4,a5,v]:=rfl
theorem Cm{M:Mem}{r l x:Nat}{xs:List Int}{w0 w1 w2 w3:Str}(hR:M[r]? = some (Ly (decide (w0= "once")) (decide (w1= "best")) (decide (w2= "own")) (decide (w3= "most"))))(hl:M[l]? = some (.lst ([w0,w1,w2,w3].map D.str)))
  (hM:M[x]? = some (.lst (xs.map D.int))) (hs:qR 6 xs):∃M',iM [.ref r,.ref l,.ref x] M= .ok (.bl true) M'∧Gr M M':=by
 obtain⟨a3,h3,p3,_⟩:=eO hs (i:=3) (by omega)
 obtain⟨a4,h4,p4,_⟩:=eO hs (i:=4) (by omega)
 obtain⟨a5,h5,p5,_⟩:=eO hs (i:=5) (by omega)
 have f0:xJ [3] "once" (.ref r) M= .ok (.bl (decide (w0= "once"))) M:=tX hR (by simp) rfl
 have f1:xJ [3] "best" (.ref r) M= .ok (.bl (decide (w1= "best"))) M:=tX hR (by simp) rfl
 have f2:xJ [3] "own" (.ref r) M= .ok (.bl (decide (w2= "own"))) M:=tX hR (by simp) rfl
 have f3:xJ [3] "most" (.ref r) M= .ok (.bl (decide (w3= "most"))) M:=tX hR (by simp) rfl
 obtain⟨vals,hvals⟩:∃vals,vals=[decide (w0= "once"),decide (w1= "best"),decide (w2= "own"),decide (w3= "most")]:=⟨_,rfl⟩
 obtain⟨N,hN⟩:∃N,N=M++[MO.lst (vals.map D.bl)]:=⟨_,rfl⟩
 have eN:M++[MO.lst [.bl (decide (w0= "once")),.bl (decide (w1= "best")),.bl (decide (w2= "own")),.bl (decide (w3= "most"))]]=N:=by rw[hN,hvals];rfl
 have g:Gr M N:=by rw[hN];exact Gr.app
 obtain⟨e',M1,hl1,⟨u,rfl⟩,g1,_⟩:=uA (O4 M r l x M.length vals) (ds:=[.int 0,.int 1,.int 2,.int 3]) (e:=[some (.ref r),some (.ref l),some (.ref x),some (.ref M.length),none,none,none]) (M:=N) (src:=none) (g:=gN 4) (b:=ir)
  ⟨⟨_,rfl⟩,g,by rw[hN];exact a_⟩ (fun _ _ _ _ _=>trivial) fun i d e M2 hd h=>by rw[hvals]at h ⊢;exact Qj hl hd h
 have ix:∀(M':Mem) (i:Nat) (a:Int),Gr M M'→xs[i]? = some a→aZ (.ref x) (.int (i:Int)) M'= .ok (.int a) M':=fun M' i a g' h=>fO (g' _ _ hM) rfl h
 have md:∀(z j:Int) (M:Mem),0<j→cX (.int z) (.int j) M= .ok (.int (z % j)) M:=fun z j M h=>bD h
 have dv:∀(z j:Int) (M:Mem),0<j→j<1073741824→rF (.int z) (.int j) M= .ok (.int (z / j)) M:=fun z j M h h'=>lV h h'
 obtain⟨N2,Vx⟩:∃N2,N2=M1++[MO.lst [.int 0,.int (a4 / 31 % 32)]]:=⟨_,rfl⟩
 have g2:Gr M1 N2:=by rw[Vx];exact Gr.app
 obtain⟨p,hp,hp1,hp2⟩:∃p:Nat,1+a4 % 31=(p:Int)∧1≤p∧p<32:=⟨(1+a4 % 31).toNat,by omega,by omega,by omega⟩
 obtain⟨q,hq,eq⟩:∃q:Nat,q<32∧aZ (.ref M1.length) (.int (a4 / 992 % 2)) N2= .ok (.int (q:Int)) N2:=by
  obtain⟨d,hd,e⟩:=Mh (M:=N2) (n:=M1.length) (z:=a4 / 992) (j:=2) (ds:=[.int 0,.int (a4 / 31 % 32)]) (by rw[Vx];exact a_) (by simp) (by omega)
  simp only[List.mem_cons,List.not_mem_nil,or_false]at hd
  rcases hd with rfl | rfl
  ·exact⟨0,by omega,e⟩
  ·refine⟨(a4 / 31 % 32).toNat,by omega,?_⟩
   rw[e]
   congr 2
   omega
 have g2':=g1.trans g2
 obtain⟨S1,hS1⟩:∃S1:Nat,a5 % 32=(S1:Int):=⟨(a5 % 32).toNat,by omega⟩
 obtain⟨S2,hS2⟩:∃S2:Nat,a3 % 32=(S2:Int):=⟨(a3 % 32).toNat,by omega⟩
 obtain⟨N3,Vw⟩:∃N3,N3=N2++[MO.lst [.int (S1:Int),.int (S2:Int)]]:=⟨_,rfl⟩
 have g3:Gr N2 N3:=by rw[Vw];exact Gr.app
 have g3':=g2'.trans g3
 have Ri:N3[N2.length]? = some (.lst [.int (S1:Int),.int (S2:Int)]):=by rw[Vw];exact a_
 have body:∀(M':Mem) (S:Nat) (u6:Option D),Gr M M'→∃M'',Gr M' M''∧ig [some (.ref r),some (.ref l),some (.ref x),some (.ref M.length),u,some (.tup [.int (p:Int),.int (q:Int)]),some (.int (S:Int))] M'= .next [some (.ref r),some (.ref l),some (.ref x),some (.ref M.length),u,some (.tup [.int (p:Int),.int (q:Int)]),some (.int (S:Int))] M'':=fun M' S u6 g'=>by
  obtain⟨K1,x1,k1⟩:=Lx (S:=S) (g' _ _ hR) hp2 hq
  obtain⟨K2,x2,k2⟩:=Nm (M:=K1) (S:=S) (most:=decide (w3= "most")) hp1 hp2 hq
  have is:tR 3 "wins" (.ref r) M'=true:=NK (g' _ _ hR) rfl
  have i3:aZ (.ref l) (.int 3) K1= .ok (.str w3) K1:=xx (i:=3) (k1 _ _ (g' _ _ hl)) rfl
  refine⟨K2,k1.trans k2,?_⟩
  simp only[ig,qJ]
  simp[is,x1,i3,x2,BP]
 obtain⟨K1,k1,t1⟩:=body N3 S1 none g3'
 obtain⟨K2,k2,t2⟩:=body K1 S2 none (g3'.trans k1)
 have o1:fJ (some (N2.length,[.int (S1:Int),.int (S2:Int)])) N3:=dN Ri
 have o2:fJ (some (N2.length,[.int (S1:Int),.int (S2:Int)])) K1:=dN (k1 _ _ Ri)
 have o3:fJ (some (N2.length,[.int (S1:Int),.int (S2:Int)])) K2:=dN (k2 _ _ (k1 _ _ Ri))
 have x4:=ix M1 4 a4 g1 h4
 have x5:=ix N2 5 a5 g2' h5
 have x3:=ix N2 3 a3 g2' h3
 simp only[Int.cast_ofNat_Int]at x3 x4 x5
 have itr:=Nx Ri
 have lp:dW (some (N2.length,[.int (S1:Int),.int (S2:Int)])) (gN 6) ig [.int (S1:Int),.int (S2:Int)] [some (.ref r),some (.ref l),some (.ref x),some (.ref M.length),u,some (.tup [.int (p:Int),.int (q:Int)]),none] N3= .next [some (.ref r),some (.ref l),some (.ref x),some (.ref M.length),u,some (.tup [.int (p:Int),.int (q:Int)]),some (.int (S2:Int))] K2:=by
  rw[Ob o1,Xh,t1]
  show dW _ _ _ _ _ _=_
  rw[Ob o2,Xh,t2]
  show dW _ _ _ _ _ _=_
  rw[Y6 o3]
 refine⟨K2,?_,g3'.trans (k1.trans k2)⟩
 have hx4:∀M':Mem,Gr M M'→aZ (.ref x) (.int 4) M'= .ok (.int a4) M':=fun M' g'=>fO (i:=4) (g' _ _ hM) rfl h4
 have m31:∀(z:Int) (M:Mem),cX (.int z) (.int 31) M= .ok (.int (z % 31)) M:=fun z M=>bD (by omega)
 have m32:∀(z:Int) (M:Mem),cX (.int z) (.int 32) M= .ok (.int (z % 32)) M:=fun z M=>bD (by omega)
 have m2:∀(z:Int) (M:Mem),cX (.int z) (.int 2) M= .ok (.int (z % 2)) M:=fun z M=>bD (by omega)
 have d31:∀(z:Int) (M:Mem),rF (.int z) (.int 31) M= .ok (.int (z / 31)) M:=fun z M=>lV (by omega) (by omega)
 have acq:∀(z:Int) (M:Mem),rF (.int z) (.int 992) M= .ok (.int (z / 992)) M:=fun z M=>lV (by omega) (by omega)
 simp only[iM,dg,qP,qO]
 simp[f0,f1,f2,f3,eN,Hs,hl1,hx4 M1 g1,hx4 N2 g2',m31,m32,m2,d31,acq,←Vx,hp,eq,x3,x5,hS1,hS2,←Vw,itr,lp]
structure O5(ns:List Int)(i:Nat)(e:Sl)(M:Mem):Prop where
 e:∃v1 v2 v3 v4 v5 v6 v7 v8,e=[some (.cl (ns.map D.int)),v1,v2,v3,v4,v5,v6,v7,v8]
theorem Np{ns:List Int}{n i:Nat}{d:D}{e:Sl}{M:Mem}(hd:(qj 0 n)[i]? = some d)(h:O5 ns i e M):∃e1,gN 1 d e=some e1∧(sO e1 M).to (O5 ns (i+1)) fun _ _=>False:=by
 obtain⟨v1,v2,v3,v4,v5,v6,v7,v8,rfl⟩:=h
 obtain⟨hi,rfl⟩:=sX hd
 refine⟨_,rfl,?_⟩
 have c0:=Io (M:=M) ns i (kk:=0+(i:Int)) (by omega)
 obtain⟨xs,x,M1,hs,s1,hx,g1⟩:=wg (M:=M) (cell ns i) 6 (nn:=6) rfl (by omega)
 obtain⟨ws,r,M2,s2,hr,g2,hw⟩:=Kr hx hs
 have s3:=Rc hr hw
 have ty:Ea "str" (.str " ") M2=true:=rfl
 have ty2:Ea "str" (.str (Txt.join " " ws)) M2=true:=rfl
 obtain⟨M3,hM3⟩:∃M3,M3=M2++[MO.lst ((S_ ws).map D.str)]:=⟨_,rfl⟩
 have g3:Gr M2 M3:=by rw[hM3];exact Gr.app
 have tl:=text_len hw
 have s4:pG (.str (Txt.join " " ws)) [.str " "] M2= .ok (.ref M2.length) M3:=by rw[yM (by omega) (by decide),pC hw,←hM3]
 have hsl:(S_ ws).length≤1000:=by
  have:=hw.1
  unfold S_
  split
  ·simp
  ·omega
 obtain⟨d,M4,s5,g4,ab_⟩:=VF (M:=M3) (l:=M2.length) (ws:=S_ ws) (by rw[hM3];exact a_) hsl
 obtain⟨d',NZ,hcase⟩:=wH (M:=M4) tl (pC hw)
 obtain rfl:=ab_.uniq NZ
 rw[Int.zero_add]at c0
 rcases hcase with⟨k,M5,rfl,s6,g5⟩ | ⟨rfl,w0,w1,w2,w3,M5,hus,s6,g5,hR⟩
 ·have k1:List.lookup 2 [(0,true),(1,true),(2,true)]=some true:=rfl
  have k2:List.lookup 2 [(0,false),(1,true),(2,false)]=some false:=rfl
  have ne:∀M:Mem,sNe (.tup [.int (k:Int),.bl true,.bl false]) (.tup [.int (k:Int),.bl true,.bl false]) M= .ok (.bl false) M:=fun M=>Lg (b:=true) (Oi rfl)
  simp only[sO,Ax,zB,zG,Aw,Av,Ar]
  simp[c0,s1,s2,ty,s3,ty2,s4,s5,s6,KH (cl:=[(0,false),(1,false),(2,true)]) (c:=2) rfl,k1,k2,ne]
  exact⟨_,_,_,_,_,_,_,_,rfl⟩
 ·have hws:ws=[w0,w1,w2,w3]:=by
   unfold S_ at hus
   split at hus
   ·cases hus
   ·exact hus
  subst hws
  obtain⟨M6,s7,g6⟩:=Cm hR (g5 _ _ (g4 _ _ (g3 _ _ hr))) (g5 _ _ (g4 _ _ (g3 _ _ (g2 _ _ hx)))) hs
  simp only[sO,Ax,zB,zG,Aw,Av,Ar]
  simp[c0,s1,s2,ty,s3,ty2,s4,s5,s6,s7]
  exact⟨_,_,_,_,_,_,_,_,rfl⟩
theorem Vg(ns:List Int)(hn:ns.length≤63):∃M,Ng [.cl (ns.map D.int)] []= .ok (.bl true) M:=by
 obtain⟨q,hq⟩:∃q:Int,q=if(30:Int)<(ns.length:Int)then(30:Int)else(ns.length:Int):=⟨_,rfl⟩
 have ae0:0≤q∧q≤30:=by rw[hq];split<;>omega
 obtain⟨m,hm,ae2⟩:∃m:Nat,(m:Int)=(if q > 1 then q else 1)∧m≤30:=⟨(if q > 1 then q else 1).toNat,by split<;>omega,by split<;>omega⟩
 have x1:wD [.int (ns.length:Int),.int 30] []= .ok (.int q) []:=by rw[yN,hq]
 have x2:Ci [.int 1,.int q] []= .ok (.int (m:Int)) []:=by rw[yO,hm]
 have r1:vA [.int (m:Int)] []= .ok ⟨none,qj 0 m⟩ []:=by
  have:=lW (M:=[]) (j:=(m:Int)) (by omega) (by omega)
  simpa using this
 obtain⟨e',M1,hl1,v1,v2,v3,v4,v5,v6,v7,v8,rfl⟩:=uA (O5 ns) (ds:=qj 0 m) (e:=[some (.cl (ns.map D.int)),none,none,none,none,none,none,none,none]) (M:=[]) (src:=none) (g:=gN 1) (b:=sO)
  ⟨_,_,_,_,_,_,_,_,rfl⟩ (fun _ _ _ _ _=>trivial) fun i d e M2 hd h=>Np hd h
 have hw:DW R7:=⟨by decide,fun w h=>by
  simp only[R7,List.mem_cons,List.not_mem_nil,or_false]at h
  unfold Jt
  rcases h with rfl | rfl | rfl | rfl<;>decide +kernel⟩
 have ht:("once best own most" : Str)=Txt.join " " R7:=by decide +kernel
 have hsp:Txt.split ("once best own most" : Str) " " = R7:=by rw[ht,pC hw];rfl
 obtain⟨d',NZ,hcase⟩:=wH (M:=M1) (y:= "once best own most") (by decide +kernel) hsp
 have ab7:Due R7 .non:= .inl ⟨rfl,rfl,fun j hj=>by
  obtain⟨c,hc⟩:=sZ hj
  refine⟨c.1,c,?_,hc,.inl rfl⟩
  match j,hj with
  | 0,_=>cases hc;rfl
  | 1,_=>cases hc;rfl
  | 2,_=>cases hc;rfl
  | 3,_=>cases hc;rfl⟩
 obtain rfl:=ab7.uniq NZ
 rcases hcase with⟨k,M5,z,_⟩ | ⟨_,w0,w1,w2,w3,M5,hus,s6,g5,hR⟩
 ·cases z
 ·cases hus
  obtain⟨M6,hM6⟩:∃M6,M6=M5++[MO.lst (R7.map D.str)]:=⟨_,rfl⟩
  have g6:Gr M5 M6:=by rw[hM6];exact Gr.app
  have c0:=Io (M:=M6) ns 0 (kk:=0) rfl
  obtain⟨xs,x,M7,hs,s1,hx,g7⟩:=wg (M:=M6) (cell ns 0) 6 (nn:=6) rfl (by omega)
  obtain⟨M8,s7,g8⟩:=Cm (l:=M5.length) (g7 _ _ (g6 _ _ hR)) (g7 _ _ (by rw[hM6];exact a_)) hx hs
  have eM6:M5++[MO.lst [.str "once",.str "best",.str "own",.str "most"]]=M6:=hM6.symm
  refine⟨M8,?_⟩
  simp only[Ng,zy,Ie]
  simp[-yN,-yO,x1,x2,r1,hl1,s6,eM6,c0,s1,s7]
def top(i:Nat):Stmt:=PySem.Challenge.pw_chairvote_k71_rules.main.body.getD i (.Pass ⟨0,0,0,0⟩)
abbrev bR:Stmt:=top 17
abbrev bG:Stmt:=top 16
abbrev cH:Stmt:=top 18
abbrev eV:Stmt:=top 19
abbrev bQ:Stmt:=top 13
abbrev aY:Stmt:=inClass (top 2) 0
abbrev cL:Stmt:=inClass (top 14) 0
abbrev cI:Stmt:=top 21
abbrev dm:Stmt:=top 6
abbrev ni:Stmt:=top 7
abbrev fY:Stmt:=top 8
abbrev pF:Stmt:=top 9
abbrev bT:Stmt:=inClass (top 14) 1
abbrev dj:Stmt:=top 20
abbrev cJ:Stmt:=top 22
abbrev sV:Stmt:=top 23
set_option genInjectivity false in
structure Adr where
 gJ:Addr
 gP:FuncData
 fG:Addr
 fH:FuncData
 iT:Addr
 iY:FuncData
 mz:Addr
 mF:FuncData
 gH:Addr
 gO:FuncData
 b8:Addr
 fc:FuncData
 gM:Addr
 e_:FuncData
 sE:Addr
 sH:Tok
 iU:Addr
 iZ:FuncData
 jP:Addr
 jU:FuncData
 xK:Addr
 xQ:FuncData
 mD:Addr
 jD:FuncData
 yH:Addr
 uB:Addr
 uG:FuncData
 Ku:Addr
 gK:Addr
 gQ:FuncData
 jO:Addr
 jT:FuncData
 iV:Addr
 i_:FuncData
 zj:Addr
 uX:FuncData
 iD:Addr
 aN:Addr
 aR:Addr
 aQ:Addr
 uz:Addr
structure Txt(K:Frag)(mg:Str→Option Value)(t:Adr):Prop where
 iC:dM K "_law_stream" "_law_stream" bR .none t.gJ t.gP
 cN:Binds K t.gP ["_law_cell","_law_size"] []
 kZ:mg "_law_stream" = some (.ref t.gJ)
 gF:dM K "_law_cell_at" "_law_cell_at" bG .none t.fG t.fH
 bZ:Binds K t.fH ["_law_script","_law_k"] []
 jM:mg "_law_cell_at" = some (.ref t.fG)
 n8:dM K "_law_words" "_law_words" cH .none t.iT t.iY
 eG:Binds K t.iY ["_law_xs"] []
 tH:mg "_law_words" = some (.ref t.iT)
 rW:dM K "_law_due" "_law_due" eV .none t.mz t.mF
 fj:Binds K t.mF ["_law_words_here"] []
 wW:mg "_law_due" = some (.ref t.mz)
 lA:dM K "wrong_word" "wrong_word" bQ .none t.gH t.gO
 bV:Binds K t.gO ["words"] []
 qF:mg "wrong_word" = some (.ref t.gH)
 j_:dM K "__init__" "HallError.__init__" aY .none t.b8 t.fc
 mG:Binds K t.fc ["self","at"] []
 qM:dM K "__init__" "Rules.__init__" cL (.ref t.sE) t.gM t.e_
 cO:Binds K t.e_ ["self","text"] []
 qQ:Binds K t.e_ ["self","text"] [.str "once best own most" t.sH]
 jL:Mk K t.iD t.gM
 jw:dM K "_law_truth" "_law_truth" cI .none t.iU t.iZ
 cZ:Binds K t.iZ ["_law_found","_law_due_here"] []
 nJ:mg "_law_truth" = some (.ref t.iU)
 pX:dM K "hands_of" "hands_of" dm .none t.jP t.jU
 fW:Binds K t.jU ["S"] []
 uO:mg "hands_of" = some (.ref t.jP)
 tY:dM K "many" "many" ni .none t.xK t.xQ
 oA:Binds K t.xQ ["S"] []
 vM:mg "many" = some (.ref t.xK)
 n_:dM K "carries" "carries" fY (.ref t.yH) t.mD t.jD
 gf:Binds K t.jD ["S","part","half"] []
 Gn:Binds K t.jD ["S","part","half"] [.bool false]
 rN:mg "carries" = some (.ref t.mD)
 Ba:dM K "wins" "wins" pF (.ref t.Ku) t.uB t.uG
 ou:Binds K t.uG ["roll","S","half"] []
 RP:Binds K t.uG ["roll","S","half"] [.bool false]
 Q7:mg "wins" = some (.ref t.uB)
 qL:dM K "wins" "Rules.wins" bT .none t.gK t.gQ
 dI:Binds K t.gQ ["self","roll","S"] []
 qG:Meth K t.iD "wins" t.gK
 pW:dM K "_law_wins" "_law_wins" dj .none t.jO t.jT
 dH:Binds K t.jT ["_law_roll","_law_hands","_law_most"] []
 uN:mg "_law_wins" = some (.ref t.jO)
 jx:dM K "_law_right" "_law_right" cJ .none t.iV t.i_
 dg:Binds K t.i_ ["_law_rules","_law_words_here","_law_xs"] []
 nM:mg "_law_right" = some (.ref t.iV)
 Gb:dM K "law" "law" sV .none t.zj t.uX
 zy:Binds K t.uX ["_law_script"] []
 Nb:mg "law" = some (.ref t.zj)
 d_:Kc K t.iD
 wX:mg "Rules" = some (.ref t.iD)
 cP:jh K t.iD "once"
 cQ:jh K t.iD "best"
 dw:jh K t.iD "own"
 bW:jh K t.iD "most"
 tK:mg "HallError" = some (.ref t.aN)
 zE:V8 K t.aN t.b8
 jq:mH K t.aN "at"
 jo:OJ K t.aN
 mV:exmOne K (.ref t.aN) (.ref t.aN)=some true
 gw:kitOne K (.ref t.aN) (.ref t.aN)=some true
 oK:exmOne K (.ref t.aN) (.ref t.aR)=some false
 gW:kitOne K (.ref t.aN) (.ref t.aR)=some false
 iH:exmOne K (.ref t.aN) (.ref t.aQ)=some false
 pP:kitOne K (.ref t.aN) (.ref t.aQ)=some false
 uP:mg "BadPaper" = some (.ref t.aR)
 Bw:V8 K t.aR t.b8
 j0:mH K t.aR "at"
 jZ:OJ K t.aR
 oN:exmOne K (.ref t.aR) (.ref t.aN)=some true
 gY:kitOne K (.ref t.aR) (.ref t.aN)=some true
 o6:exmOne K (.ref t.aR) (.ref t.aR)=some true
 iR:kitOne K (.ref t.aR) (.ref t.aR)=some true
 jj:exmOne K (.ref t.aR) (.ref t.aQ)=some false
 qx:kitOne K (.ref t.aR) (.ref t.aQ)=some false
 rO:mg "NoRules" = some (.ref t.aQ)
 vV:V8 K t.aQ t.b8
 jF:mH K t.aQ "at"
 mX:OJ K t.aQ
 o5:exmOne K (.ref t.aQ) (.ref t.aN)=some true
 iQ:kitOne K (.ref t.aQ) (.ref t.aN)=some true
 qw:exmOne K (.ref t.aQ) (.ref t.aR)=some false
 jl:kitOne K (.ref t.aQ) (.ref t.aR)=some false
 jE:exmOne K (.ref t.aQ) (.ref t.aQ)=some true
 rQ:kitOne K (.ref t.aQ) (.ref t.aQ)=some true
 qD:mg "wins_rolls" = some (.ref t.uB)
 Fq:mg "bool" = none
 uR:mg "enumerate" = none
 gq:mg "isinstance" = none
 lZ:mg "len" = none
 Ss:mg "max" = none
 HF:mg "min" = none
 jt:mg "range" = none
 nO:mg "CHOICES" = some (.ref t.uz)
 m9:∀ct ι n H,S.DV K ct ι n H (.kj [(.kj [(.str "once"),(.str "free")]),(.kj [(.str "best"),(.str "any")]),(.kj [(.str "own"),(.str "old")]),(.kj [(.str "most"),(.str "half")])]) (.ref t.uz)
def gh(t:Adr):Nat→Addr:=fun k=>match k with
 | 3=>t.iD
 | 0=>t.aN
 | 1=>t.aR
 | 2=>t.aQ
 | _=>0
section
variable{P:Program}{w:World}{K:Frag}{mg:Str→Option Value}{base:Heap}{t:Adr}
theorem fC:bA ["_law_cell","_law_size","_law_found","_law_number","_law_k"] ["_law_cell","_law_size"] (aq bR):=Eb
theorem wu:bA ["_law_script","_law_k"] ["_law_script","_law_k"] (aq bG):=Eb
theorem eU:bA ["_law_xs","_law_some","_law_words_here","_law_at"] ["_law_xs"] (aq cH):=Eb
theorem rE:bA ["_law_words_here","_law_some","_law_k"] ["_law_words_here"] (aq eV):=Eb
theorem kO:bA ["words","k","choice"] ["words"] (aq bQ):=Eb
theorem sU:bA ["self","at"] ["self","at"] (aq aY):=Eb
theorem kW:bA ["self","text","words","wrong"] ["self","text"] (aq cL):=Eb
theorem zU:bA ["_law_found","_law_due_here"] ["_law_found","_law_due_here"] (aq cI):=Eb
theorem Ce:bA ["S"] ["S"] (aq dm):=Eb
theorem Qa:bA ["S"] ["S"] (aq ni):=Eb
theorem wz:bA ["S","part","half","twice"] ["S","part","half"] (aq fY):=Eb
theorem P_:bA ["roll","S","half"] ["roll","S","half"] (aq pF):=Eb
theorem yh:bA ["self","roll","S"] ["self","roll","S"] (aq bT):=Eb
theorem j7:bA ["_law_roll","_law_hands","_law_most","_law_part","_law_size","_law_have"] ["_law_roll","_law_hands","_law_most"] (aq dj):=Eb
theorem gj:bA ["_law_rules","_law_words_here","_law_xs","_law_values","_law_k","_law_roll","_law_hands"] ["_law_rules","_law_words_here","_law_xs"] (aq cJ):=Eb
theorem jH:bA ["_law_script","_law_k","_law_xs","_law_words_here","_law_text","_law_due_here","_law_refused","_law_rules","e"] ["_law_script"] (aq sV):=Eb
theorem yo(T:Txt K mg t):bh P w K mg base (ji P w) 1 t.gJ t.gP ["_law_cell","_law_size"] (spS K (gh t) eZ 2):=by
 show bh P w K mg base (ji P w) (0+1) t.gJ t.gP ["_law_cell","_law_size"] (spS K (gh t) (eX 5 cN) 2)
 refine rT (n:=5) (ar:=2) (k:=0) (b:=cN) T.iC fC rfl rfl ?_
 intro cdv A outer s H E W hr
 exact(aF (cg (i:=2) fC.nd rfl (Or.inl rfl) (cj aA))
  (aF (cg (i:=3) fC.nd rfl (Or.inl rfl) (aK dD (aK oh (aK xW (ak 0) au) au) au))
  (aF (rC (jK rfl rfl) rfl (fX rfl T.jt (aj (ak 1) aA)) (j6 (i:=4) fC.nd rfl (Or.inl rfl)) (aF (cg (i:=3) fC.nd rfl (Or.inl rfl) (aK dD (aK oh (aK oh (aK xW (ak 3) (aK oh (aK xX (ak 3) au) au)) (ak 4)) au) au))
  (aM (Py (Hf PySem.F.plainAttrs_list PySem.F.slot_list_append PySem.F.type_list_append Jy (ak 2) (aj (ak 3) aA))))))
  (aM (bH (ak 2))))))
theorem wR(T:Txt K mg t):bh P w K mg base (ji P w) 1 t.fG t.fH ["_law_script","_law_k"] (spS K (gh t) fD 2):=by
 show bh P w K mg base (ji P w) (0+1) t.fG t.fH ["_law_script","_law_k"] (spS K (gh t) (eX 2 bZ) 2)
 refine rT (n:=2) (ar:=2) (k:=0) (b:=bZ) T.gF wu rfl rfl ?_
 intro cdv A outer s H E W hr
 exact(aF (gU (cW (Ox hr.units) (ak 1) (bx jf rfl T.lZ jg (aj (ak 0) aA)) (bC _)) (aM (bH (bu hr.units (ak 0) (ak 1)))) d8)
  (aM (bH au)))
theorem Aa(T:Txt K mg t):bh P w K mg base (ji P w) 1 t.iT t.iY ["_law_xs"] (spS K (gh t) j8 1):=by
 show bh P w K mg base (ji P w) (0+1) t.iT t.iY ["_law_xs"] (spS K (gh t) (eX 4 eG) 1)
 refine rT (n:=4) (ar:=1) (k:=0) (b:=eG) T.n8 eU rfl rfl ?_
 intro cdv A outer s H E W hr
 exact(@aF _ _ _ _ _ _ _ (@cg _ _ _ _ _ _ (1) _ _ eU.nd rfl (Or.inr rfl) (@cj _ _ _ _ _ _ (@bM _ _ _ _ _ _ _ (cj (aj aO (aj aO aA))) (@bM _ _ _ _ _ _ _ (cj (aj aO (aj aO aA))) (@bM _ _ _ _ _ _ _ (cj (aj aO (aj aO aA))) (@bM _ _ _ _ _ _ _ (cj (aj aO (aj aO aA))) aA rfl) rfl) rfl) rfl)) rfl (by first | exact .inl rfl | exact .inr rfl | assumption)) (@aF _ _ _ _ _ _ _ (Pz (k:=2) rfl ["_law_some","_law_xs"] [1,0] eU.nd rfl rfl (fX rfl T.jt (aj au aA)) ⟨⟨rfl,rfl,by first | exact .inl rfl | exact .inr rfl⟩,⟨⟨rfl,rfl,by first | exact .inl rfl | exact .inr rfl⟩,True.intro⟩⟩ (fun _ _ _ _ _=>Px) (fun _ _ _ _ _=>(bu hr.units (bu hr.units (ak 1) (ak 0)) (aK dD (aK xX (bu hr.units (ak 2) au) (bu hr.units (cj (aj au (aj au (aj au (aj au aA))))) (ak 0))) au))) (by decide +kernel) (by decide +kernel) (by decide +kernel) (by decide +kernel)) (@aF _ _ _ _ _ _ _ (cg (i:=3) eU.nd rfl (Or.inl rfl) (aK dD (bu hr.units (ak 0) au) au)) (@aF _ _ _ _ _ _ _ (gU (cW (jm hr.units) (aK dD (bu hr.units (ak 0) au) au) au (bC _)) (aM (G6 (ak 2) (ak 3) (bu hr.units (bu hr.units (ak 1) (aK dD (aK oh (aK oh (ak 3) au) (aK dD (bu hr.units (ak 0) au) au)) au)) (aK dD (aK xX (bu hr.units (ak 0) au) au) au)))) d8) (@aF _ _ _ _ _ _ _ (@gU _ _ _ _ _ _ _ _ _ _ (cW (jm hr.units) (aK dD (bu hr.units (ak 0) au) au) au (bC _)) (@aM _ _ _ _ _ (@G6 _ _ _ _ _ _ _ _ _ _ _ (ak 2) (ak 3) (@bu _ _ _ _ _ _ _ _ hr.units (@cj _ _ _ _ _ _ (@bM _ _ _ _ _ _ _ (aK oh (bu hr.units (ak 2) (ak 3)) aO) (@bM _ _ _ _ _ _ _ (Lf PySem.F.plainAttrs_str PySem.F.slot_str_upper PySem.F.type_str_upper MP (bu hr.units (ak 2) (ak 3))) (@bM _ _ _ _ _ _ _ aO (@bM _ _ _ _ _ _ _ (R9 (bu hr.units (ak 2) (ak 3)) G8 (G7 (Xj S5 au))) aA rfl) rfl) rfl) rfl)) (aK dD (bu hr.units (ak 0) au) au) (by exact fun _ _=>rfl)) rfl)) d8) (@aF _ _ _ _ _ _ _ (@gU _ _ _ _ _ _ _ _ _ _ (cW (jm hr.units) (aK dD (bu hr.units (ak 0) au) au) au (bC _)) (@aM _ _ _ _ _ (@cg _ _ _ _ _ _ (2) _ _ eU.nd rfl (Or.inl rfl) (@aK _ _ _ _ _ _ _ _ _ _ oh (ak 2) (@bu _ _ _ _ _ _ _ _ hr.units (@cj _ _ _ _ _ _ (@bM _ _ _ _ _ _ _ (cj (aj aO (aj aO (aj aO aA)))) (@bM _ _ _ _ _ _ _ (cj (aj aO aA)) (@bM _ _ _ _ _ _ _ (cj (aj aO (aj aO aA))) (@bM _ _ _ _ _ _ _ (cj (aj aO aA)) aA rfl) rfl) rfl) rfl)) (aK dD (bu hr.units (ak 0) au) au) (by exact fun _ _=>rfl))) rfl (by first | exact .inl rfl | exact .inr rfl | assumption))) d8) (aF (gU (cW (jm hr.units) (aK dD (bu hr.units (ak 0) au) au) au (bC _)) (aM (cg (i:=2) eU.nd rfl (Or.inl rfl) (R9 (ak 2) G8 (G7 (aK dD (bu hr.units (ak 0) au) au))))) d8)
  (aM (bH (ak 2))))))))))
theorem Fg(T:Txt K mg t):bh P w K mg base (ji P w) 1 t.mz t.mF ["_law_words_here"] (spS K (gh t) jB 1):=by
 show bh P w K mg base (ji P w) (0+1) t.mz t.mF ["_law_words_here"] (spS K (gh t) (eX 3 fj) 1)
 refine rT (n:=3) (ar:=1) (k:=0) (b:=fj) T.rW rE rfl rfl ?_
 intro cdv A outer s H E W hr
 exact(@aF _ _ _ _ _ _ _ (@cg _ _ _ _ _ _ (1) _ _ rE.nd rfl (Or.inl rfl) (@cj _ _ _ _ _ _ (@bM _ _ _ _ _ _ _ (cj (aj aO (aj aO aA))) (@bM _ _ _ _ _ _ _ (cj (aj aO (aj aO aA))) (@bM _ _ _ _ _ _ _ (cj (aj aO (aj aO aA))) (@bM _ _ _ _ _ _ _ (cj (aj aO (aj aO aA))) aA rfl) rfl) rfl) rfl)) rfl (by first | exact .inl rfl | exact .inr rfl | assumption)) (aF (rC (jK rfl rfl) rfl (fX rfl T.jt (aj (bx (Be rfl) rfl T.HF Gk (aj au (aj (bx jf rfl T.lZ jg (aj (ak 0) aA)) aA))) aA)) (j6 (i:=2) rE.nd rfl (Or.inl rfl)) (aM (gU (cW (DG hr.units) (bu hr.units (ak 0) (ak 2)) (bu hr.units (ak 1) (ak 2)) (by with_unfolding_all rfl)) (aM (bH (ak 2))) d8)))
  (aF (gU (cW (jm hr.units) (bx jf rfl T.lZ jg (aj (ak 0) aA)) au (bC _)) (aM (bH rD)) d8)
  (aM (bH (bx (Be rfl) rfl T.HF Gk (aj au (aj (bx jf rfl T.lZ jg (aj (ak 0) aA)) aA))))))))
theorem ym(T:Txt K mg t):bh P w K mg base (ji P w) 1 t.gH t.gO ["words"] (spS K (gh t) eY 1):=by
 show bh P w K mg base (ji P w) (0+1) t.gH t.gO ["words"] (spS K (gh t) (eX 3 bV) 1)
 refine rT (n:=3) (ar:=1) (k:=0) (b:=bV) T.lA kO rfl rfl ?_
 intro cdv A outer s H E W hr
 exact(aF (rC (jK rfl rfl) rfl (K9 rfl T.uR (zR rfl T.nO fun ι n H=>T.m9 _ ι n H)) (Ti rfl (Cd (j6 (i:=1) kO.nd rfl (Or.inl rfl)) (Cd (j6 (i:=2) kO.nd rfl (Or.inl rfl)) PL))) (aM (gU (SW.pt (G3 (cW Sy (ak 1) (bx jf rfl T.lZ jg (aj (ak 0) aA)) (bC _)) (zJ (cW (DG hr.units) (bu hr.units (ak 0) (ak 1)) (ak 2) (by with_unfolding_all rfl))))) (aM (bH (ak 1))) d8)))
  (aF (gU (cW Oz (bx jf rfl T.lZ jg (aj (ak 0) aA)) (bx jf rfl T.lZ jg (aj (zR rfl T.nO fun ι n H=>T.m9 _ ι n H) aA)) (bC _)) (aM (bH (bx jf rfl T.lZ jg (aj (zR rfl T.nO fun ι n H=>T.m9 _ ι n H) aA)))) d8)
  (aM (bH rD))))
theorem tu(T:Txt K mg t):bh P w K mg base GK 1 t.b8 t.fc ["self","at"] (qg K "at"):=
 Oc (k:=0) T.j_ sU rfl fun cdv A outer s H E=>Hv (Qv (pv 0) (pv 1) rfl)
theorem yq(T:Txt K mg t):bh P w K mg base (ji P w) 3 t.gM t.e_ ["self","text"] (spS K (gh t) dz 2):=by
 show bh P w K mg base (ji P w) (2+1) t.gM t.e_ ["self","text"] (spS K (gh t) (eX 4 cO) 2)
 have Bs:= @ym P w K mg base t T
 have uJ:= @tu P w K mg base t T
 refine rT (n:=4) (ar:=2) (k:=2) (b:=cO) T.qM kW rfl rfl ?_
 intro cdv A outer s H E W hr
 exact(aF (cg (i:=2) kW.nd rfl (Or.inl rfl) (Hf PySem.F.plainAttrs_str PySem.F.slot_str_split PySem.F.type_str_split CK (ak 1) (aj aO aA)))
  (aF (cg (i:=3) kW.nd rfl (Or.inl rfl) (bO Bs Tk.wish (hr.mono (by decide)) rfl T.qF T.lA.kp T.bV .nil (aj (ak 2) aA)))
  (aF (gU (cW DK (ak 3) rD (bC _)) (aM (K7 (c:=2) T.vV T.jF uJ (hr.mono (by decide)) T.mG rfl T.rO rfl Tk.wish (aj (ak 3) aA))) d8)
  (aF (zN (cs:=[3]) ⟨⟨T.d_,T.cP⟩,True.intro⟩ (ak 0) (kJ (jm hr.units) (bu hr.units (ak 2) au) aO (bC _)))
  (aF (zN (cs:=[3]) ⟨⟨T.d_,T.cQ⟩,True.intro⟩ (ak 0) (kJ (jm hr.units) (bu hr.units (ak 2) au) aO (bC _)))
  (aF (zN (cs:=[3]) ⟨⟨T.d_,T.dw⟩,True.intro⟩ (ak 0) (kJ (jm hr.units) (bu hr.units (ak 2) au) aO (bC _)))
  (aM (zN (cs:=[3]) ⟨⟨T.d_,T.bW⟩,True.intro⟩ (ak 0) (kJ (jm hr.units) (bu hr.units (ak 2) au) aO (bC _))))))))))
theorem Ab(T:Txt K mg t):bh P w K mg base (ji P w) 1 t.iU t.iZ ["_law_found","_law_due_here"] (spS K (gh t) iK 2):=by
 show bh P w K mg base (ji P w) (0+1) t.iU t.iZ ["_law_found","_law_due_here"] (spS K (gh t) (eX 2 cZ) 2)
 refine rT (n:=2) (ar:=2) (k:=0) (b:=cZ) T.jw zU rfl rfl ?_
 intro cdv A outer s H E W hr
 exact(aM (bH (Tp (bx Ot rfl T.gq iG (aj (ak 0) (aj (R8 rfl T.Fq Ip) aA))) (K_ (kJ (jm hr.units) (ak 0) (ak 1) (bC _))))))
theorem Cw(T:Txt K mg t):bh P w K mg base (ji P w) 1 t.jP t.jU ["S"] (spS K (gh t) nQ 1):=by
 show bh P w K mg base (ji P w) (0+1) t.jP t.jU ["S"] (spS K (gh t) (eX 1 fW) 1)
 refine rT (n:=1) (ar:=1) (k:=0) (b:=fW) T.pX Ce rfl rfl ?_
 intro cdv A outer s H E W hr
 exact(aM (bH (zT rfl ["S"] [0] (fX rfl T.jt (aj (Lf PySem.F.plainAttrs_int PySem.F.slot_int_bit_length PySem.F.type_int_bit_length Q6 (ak 0)) aA)) ⟨⟨rfl,rfl,by first | exact .inl rfl | exact .inr rfl⟩,True.intro⟩ (fun _ _ _ _ _=>(zK (cW (Sx hr.units) (aK xY (ak 1) (aK VR au (ak 0))) au (bC _)))) (fun _ _ _ _ _=>(ak 0)) (by decide +kernel) (by decide +kernel) (by decide +kernel) (by decide +kernel))))
theorem QW(T:Txt K mg t):bh P w K mg base (ji P w) 2 t.xK t.xQ ["S"] (spS K (gh t) uv 1):=by
 show bh P w K mg base (ji P w) (1+1) t.xK t.xQ ["S"] (spS K (gh t) (eX 1 oA) 1)
 have GF:= @Cw P w K mg base t T
 refine rT (n:=1) (ar:=1) (k:=1) (b:=oA) T.tY Qa rfl rfl ?_
 intro cdv A outer s H E W hr
 exact(aM (bH (bx jf rfl T.lZ jg (aj (bO GF Tk.wish (hr.mono (by decide)) rfl T.uO T.pX.kp T.fW .nil (aj (ak 0) aA)) aA))))
theorem Fi(T:Txt K mg t):bh P w K mg base (ji P w) 3 t.mD t.jD ["S","part","half"] (spS K (gh t) l_ 3):=by
 show bh P w K mg base (ji P w) (2+1) t.mD t.jD ["S","part","half"] (spS K (gh t) (eX 4 gf) 3)
 have GC:= @QW P w K mg base t T
 refine rT (n:=4) (ar:=3) (k:=2) (b:=gf) T.n_ wz rfl rfl ?_
 intro cdv A outer s H E W hr
 exact(aF (cg (i:=3) wz.nd rfl (Or.inl rfl) (aK xW au (bO GC Tk.wish (hr.mono (by decide)) rfl T.vM T.tY.kp T.oA .nil (aj (aK xY (ak 0) (ak 1)) aA))))
  (aF (gU (rB (ak 2)) (aM (bH (kJ Sy (ak 3) (bO GC Tk.wish (hr.mono (by decide)) rfl T.vM T.tY.kp T.oA .nil (aj (ak 1) aA)) (bC _)))) d8)
  (aM (bH (kJ Oz (ak 3) (bO GC Tk.wish (hr.mono (by decide)) rfl T.vM T.tY.kp T.oA .nil (aj (ak 1) aA)) (bC _))))))
theorem QV(T:Txt K mg t):bh P w K mg base (ji P w) 4 t.uB t.uG ["roll","S","half"] (spS K (gh t) uq 3):=by
 show bh P w K mg base (ji P w) (3+1) t.uB t.uG ["roll","S","half"] (spS K (gh t) (eX 3 ou) 3)
 have zz:= @Fi P w K mg base t T
 refine rT (n:=3) (ar:=3) (k:=3) (b:=ou) T.Ba P_ rfl rfl ?_
 intro cdv A outer s H E W hr
 exact(aF (gU (zM (rB (bO zz Tk.wish (hr.mono (by decide)) rfl T.rN T.n_.kp T.gf .nil (aj (ak 1) (aj (bu hr.units (ak 0) au) (aj (ak 2) aA)))))) (aM (bH qz)) d8)
  (aM (bH (Xk (kJ (jm hr.units) (bu hr.units (ak 0) au) au (bC _)) (K_ (bO zz Tk.wish (hr.mono (by decide)) rfl T.rN T.n_.kp T.gf .nil (aj (ak 1) (aj (bu hr.units (ak 0) au) (aj (ak 2) aA)))))))))
theorem yp(T:Txt K mg t):bh P w K mg base (ji P w) 5 t.gK t.gQ ["self","roll","S"] (spS K (gh t) ju 3):=by
 show bh P w K mg base (ji P w) (4+1) t.gK t.gQ ["self","roll","S"] (spS K (gh t) (eX 3 dI) 3)
 have V_:= @QV P w K mg base t T
 refine rT (n:=3) (ar:=3) (k:=4) (b:=dI) T.qL yh rfl rfl ?_
 intro cdv A outer s H E W hr
 exact(aM (bH (bO V_ Tk.wish (hr.mono (by decide)) rfl T.qD T.Ba.kp T.ou .nil (aj (ak 1) (aj (ak 2) (aj (Tn (wk (cs:=[3]) ⟨⟨T.d_,T.bW⟩,True.intro⟩ (ak 0))) aA))))))
theorem Cv(T:Txt K mg t):bh P w K mg base (ji P w) 1 t.jO t.jT ["_law_roll","_law_hands","_law_most"] (spS K (gh t) g_ 3):=by
 show bh P w K mg base (ji P w) (0+1) t.jO t.jT ["_law_roll","_law_hands","_law_most"] (spS K (gh t) (eX 6 dH) 3)
 refine rT (n:=6) (ar:=3) (k:=0) (b:=dH) T.pW j7 rfl rfl ?_
 intro cdv A outer s H E W hr
 exact(aF (rC (jK rfl rfl) rfl (K8 (ak 0)) (j6 (i:=3) j7.nd rfl (Or.inr rfl)) (aF (cg (i:=4) j7.nd rfl (Or.inl rfl) (bx jf rfl T.lZ jg (aj (zT rfl ["_law_part"] [3] (fX rfl T.jt (aj au aA)) ⟨⟨rfl,rfl,by first | exact .inl rfl | exact .inr rfl⟩,True.intro⟩ (fun _ _ _ _ _=>(zK (cW (jm hr.units) (aK xY (aK Ow (ak 1) (ak 0)) au) au (bC _)))) (fun _ _ _ _ _=>(ak 0)) (by decide +kernel) (by decide +kernel) (by decide +kernel) (by decide +kernel)) aA)))
  (aF (cg (i:=5) j7.nd rfl (Or.inl rfl) (bx jf rfl T.lZ jg (aj (zT rfl ["_law_part","_law_hands"] [3,1] (fX rfl T.jt (aj au aA)) ⟨⟨rfl,rfl,by first | exact .inl rfl | exact .inr rfl⟩,⟨⟨rfl,rfl,by first | exact .inl rfl | exact .inr rfl⟩,True.intro⟩⟩ (fun _ _ _ _ _=>(zK (cW (jm hr.units) (aK xY (aK Ow (aK xY (ak 1) (ak 2)) (ak 0)) au) au (bC _)))) (fun _ _ _ _ _=>(ak 0)) (by decide +kernel) (by decide +kernel) (by decide +kernel) (by decide +kernel)) aA)))
  (aM (gU (SW.pt (K4 (cW Oz (ak 4) au (bC _)) (G4 (SW.pt (G3 (cW (Ox hr.units) (aK xW au (ak 5)) (ak 4) (bC _)) (zJ (SW.pt (K4 (rB (ak 2)) (G4 (cW (jm hr.units) (aK xW au (ak 5)) (ak 4) (bC _))))))))))) (aM (bH qz)) d8)))))
  (aM (bH qz)))
theorem Ac(T:Txt K mg t):bh P w K mg base (ji P w) 6 t.iV t.i_ ["_law_rules","_law_words_here","_law_xs"] (spS K (gh t) iM 3):=by
 show bh P w K mg base (ji P w) (5+1) t.iV t.i_ ["_law_rules","_law_words_here","_law_xs"] (spS K (gh t) (eX 7 dg) 3)
 have uZ:= @Ab P w K mg base t T
 have Bt:= @yp P w K mg base t T
 have GD:= @Cv P w K mg base t T
 refine rT (n:=7) (ar:=3) (k:=5) (b:=dg) T.jx gj rfl rfl ?_
 intro cdv A outer s H E W hr
 exact(aF (cg (i:=3) gj.nd rfl (Or.inl rfl) (cj (aj (wk (cs:=[3]) ⟨⟨T.d_,T.cP⟩,True.intro⟩ (ak 0)) (aj (wk (cs:=[3]) ⟨⟨T.d_,T.cQ⟩,True.intro⟩ (ak 0)) (aj (wk (cs:=[3]) ⟨⟨T.d_,T.dw⟩,True.intro⟩ (ak 0)) (aj (wk (cs:=[3]) ⟨⟨T.d_,T.bW⟩,True.intro⟩ (ak 0)) aA))))))
  (aF (rC (jK rfl rfl) rfl (fX rfl T.jt (aj au aA)) (j6 (i:=4) gj.nd rfl (Or.inl rfl)) (aM (gU (zM (rB (bO uZ Tk.wish (hr.mono (by decide)) rfl T.nJ T.jw.kp T.cZ .nil (aj (bu hr.units (ak 3) (ak 4)) (aj (kJ (jm hr.units) (bu hr.units (ak 1) (ak 4)) (bu hr.units (cj (aj aO (aj aO (aj aO (aj aO aA))))) (ak 4)) (bC _)) aA))))) (aM (bH qz)) d8)))
  (aF (cg (i:=5) gj.nd rfl (Or.inl rfl) (Ex (aj (aK oh au (aK dD (bu hr.units (ak 2) au) au)) (aj (bu hr.units (cj (aj au (aj (aK dD (aK xX (bu hr.units (ak 2) au) au) au) aA))) (aK dD (aK xX (bu hr.units (ak 2) au) au) au)) aA))))
  (aF (rC (jK rfl rfl) rfl (K8 (cj (aj (aK dD (bu hr.units (ak 2) au) au) (aj (aK dD (bu hr.units (ak 2) au) au) aA)))) (j6 (i:=6) gj.nd rfl (Or.inl rfl)) (aM (gU (zM (rB (bO uZ Tk.wish (hr.mono (by decide)) rfl T.nJ T.jw.kp T.cZ .nil (aj (PX (kc:=3) (ak 0) T.d_ T.qG Bt Tk.wish (hr.mono (by decide)) T.dI .nil (aj (ak 5) (aj (ak 6) aA))) (aj (bO GD Tk.wish (hr.mono (by decide)) rfl T.uN T.pW.kp T.dH .nil (aj (ak 5) (aj (ak 6) (aj (kJ (jm hr.units) (bu hr.units (ak 1) au) aO (bC _)) aA)))) aA))))) (aM (bH qz)) d8)))
  (aM (bH qz))))))
theorem U5(T:Txt K mg t):bh P w K mg base (ji P w) 7 t.zj t.uX ["_law_script"] (spS K (gh t) Ng 1):=by
 show bh P w K mg base (ji P w) (6+1) t.zj t.uX ["_law_script"] (spS K (gh t) (eX 9 zy) 1)
 have t_:= @yo P w K mg base t T
 have qT:= @wR P w K mg base t T
 have D_:= @Aa P w K mg base t T
 have Ka:= @Fg P w K mg base t T
 have uc:= @yq P w K mg base t T
 have u9:= @Ac P w K mg base t T
 refine rT (n:=9) (ar:=1) (k:=6) (b:=zy) T.Gb jH rfl rfl ?_
 intro cdv A outer s H E W hr
 exact(aF (rC (jK rfl rfl) rfl (fX rfl T.jt (aj (bx (Rx rfl) rfl T.Ss VP (aj au (aj (bx (Be rfl) rfl T.HF Gk (aj (bx jf rfl T.lZ jg (aj (ak 0) aA)) (aj au aA))) aA))) aA)) (j6 (i:=1) jH.nd rfl (Or.inl rfl)) (aF (cg (i:=2) jH.nd rfl (Or.inl rfl) (bO t_ Tk.wish (hr.mono (by decide)) rfl T.kZ T.iC.kp T.cN .nil (aj (bO qT Tk.wish (hr.mono (by decide)) rfl T.jM T.gF.kp T.bZ .nil (aj (ak 0) (aj (ak 1) aA))) (aj au aA))))
  (aF (cg (i:=3) jH.nd rfl (Or.inl rfl) (bO D_ Tk.wish (hr.mono (by decide)) rfl T.tH T.n8.kp T.eG .nil (aj (ak 2) aA)))
  (aF (cg (i:=4) jH.nd rfl (Or.inl rfl) (Hf PySem.F.plainAttrs_str PySem.F.slot_str_join PySem.F.type_str_join Q5 aO (aj (ak 3) aA)))
  (aF (cg (i:=5) jH.nd rfl (Or.inl rfl) (bO Ka Tk.wish (hr.mono (by decide)) rfl T.wW T.rW.kp T.fj .nil (aj (Hf PySem.F.plainAttrs_str PySem.F.slot_str_split PySem.F.type_str_split CK (ak 4) (aj aO aA)) aA)))
  (aF (cg (i:=6) jH.nd rfl (Or.inl rfl) rD)
  (aF (cg (i:=7) jH.nd rfl (Or.inl rfl) rD)
  (aF (K6 (i:=8) (cl:=[(0,false),(1,false),(2,true)]) (v:= .ref t.aQ) (cv:= .ref t.aQ) rfl rfl Tk.wish (fun _ z=>z) (fun _=>z9 (v:= .ref t.aQ) rfl T.rO rfl) ⟨T.iH,⟨T.jj,⟨T.jE,True.intro⟩⟩⟩ jH.nd rfl rfl rfl (fun _ _=>(aM (cg (i:=7) jH.nd rfl (Or.inl rfl) (P0 (kc:=3) T.jL uc Tk.wish (hr.mono (by decide)) rfl T.wX T.cO .nil (aj (ak 4) aA))))) (fun _=>(aM (cg (i:=6) jH.nd rfl (Or.inl rfl) (Ex (aj (Tj (cs:=[0,1,2]) ⟨⟨T.jq,T.jo⟩,⟨⟨T.j0,T.jZ⟩,⟨⟨T.jF,T.mX⟩,True.intro⟩⟩⟩ (ak 8)) (aj (bx (Oq (k:=0) (cl:=[(0,true),(1,true),(2,true)]) ⟨⟨T.gw,T.jq,T.jo⟩,⟨⟨T.gY,T.j0,T.jZ⟩,⟨⟨T.iQ,T.jF,T.mX⟩,True.intro⟩⟩⟩) rfl T.gq iG (aj (ak 8) (aj (Le (k:=0) rfl T.tK) aA))) (aj (bx (Oq (k:=1) (cl:=[(0,false),(1,true),(2,false)]) ⟨⟨T.gW,T.jq,T.jo⟩,⟨⟨T.iR,T.j0,T.jZ⟩,⟨⟨T.jl,T.jF,T.mX⟩,True.intro⟩⟩⟩) rfl T.gq iG (aj (ak 8) (aj (Le (k:=1) rfl T.uP) aA))) aA))))))))
  (aM (gU (cW Zt (ak 5) rD (bC _)) (aM (gU (SW.pt (G3 (cW DK (ak 6) rD (bC _)) (zJ (zM (rB (bO u9 Tk.wish (hr.mono (by decide)) rfl T.nM T.jx.kp T.dg .nil (aj (ak 7) (aj (ak 3) (aj (ak 2) aA))))))))) (aM (bH qz)) d8)) (aM (gU (SW.pt (G3 (cW (Sx hr.units) (ak 6) (Ex (aj (ak 5) (aj qz (aj qz aA)))) (bC _)) (zJ (rB (bx Ot rfl T.gq iG (aj (bu hr.units (ak 6) au) (aj (R8 rfl T.Fq Ip) aA))))))) (aM (bH qz)) d8))))))))))))
  (aM (bH (bO u9 Tk.wish (hr.mono (by decide)) rfl T.nM T.jx.kp T.dg .nil (aj (Ld (kc:=3) T.jL uc Tk.wish (hr.mono (by decide)) rfl T.wX T.qQ (.cons (.str _ _) .nil)) (aj (cj (aj aO (aj aO (aj aO (aj aO aA))))) (aj (bO t_ Tk.wish (hr.mono (by decide)) rfl T.kZ T.iC.kp T.cN .nil (aj (bO qT Tk.wish (hr.mono (by decide)) rfl T.jM T.gF.kp T.bZ .nil (aj (ak 0) (aj au aA))) (aj au aA))) aA)))))))
theorem JK(T:Txt K mg t)(s:Shared)(u:Value):BindsTo s t.uX ⟨[u],[]⟩ [("_law_script",u)]:=by
 obtain⟨oc,od,kV,doc,pm,an,cdv,ct,osl,e,_⟩:=T.Gb.ex
 rw[e]
 exact .of_eq rfl
theorem QX(T:Txt K mg t):bh P w K mg base GK 7 t.zj t.uX ["_law_script"] (ZX K):=YC (U5 T) Vg
end
set_option autoImplicit true in
theorem all_mk{K:Frag}{h:Heap}{mg:Str→Option Value}(X:K.In h)(G:h.Ns mainGlobals mg){vo6 WQ WN rK nF nC nA nu:Obj}{vn6 aaX aaW CG yw yu yt yr:Nat}{tk6 vz vq vp vm vh vg vf u_:Tok}{Af z7:Str}{DX:Addr}{Bk dG:List Value}{zO:List Str}{zV:List Value}{Bp:Bool}{Bf:Option Bool}{Bd:Option Addr}{Ao An Am Al Ak:Option Value}{CJ Cp:Str}{Gz:Addr}{DN eE:List Value}{B_:List Str}{Cg:List Value}{DQ:Bool}{Dw:Option Bool}{Dq:Option Addr}{C_ CZ CW CV CT:Option Value}{Fj Fb:Str}{J_:Addr}{Gm fV:List Value}{Eu:List Str}{Ey:List Value}{Gw:Bool}{Gj:Option Bool}{Gi:Option Addr}{FT FQ FP FN FJ:Option Value}(xZ:nsIn K mainGlobals "Rules" = some (some (.ref dZ)))(oE:nsIn K mainGlobals "HallError" = some (some (.ref aJ)))(p_:nsIn K mainGlobals "BadPaper" = some (some (.ref aX)))(su:nsIn K mainGlobals "NoRules" = some (some (.ref bz)))(a0:nsIn K mainGlobals "_law_stream" = some (some (.ref f0)))(l0:K.lookup f0=some ⟨oc0,od0,.func (fnOf "_law_stream" "_law_stream" (aH bR) (aD bR) (aq bR) .none kV0 dc0 pm0 an0 cd0 ct0),sl0⟩)(c0:codeIn K cd0 "_law_stream" = true)(k0:keepIn K (.ref f0)=true)(a1:nsIn K mainGlobals "_law_cell_at" = some (some (.ref f1)))(l1:K.lookup f1=some ⟨oc1,od1,.func (fnOf "_law_cell_at" "_law_cell_at" (aH bG) (aD bG) (aq bG) .none kV1 dc1 pm1 an1 cd1 ct1),sl1⟩)(c1:codeIn K cd1 "_law_cell_at" = true)(k1:keepIn K (.ref f1)=true)(a2:nsIn K mainGlobals "_law_words" = some (some (.ref f2)))(l2:K.lookup f2=some ⟨oc2,od2,.func (fnOf "_law_words" "_law_words" (aH cH) (aD cH) (aq cH) .none kV2 dc2 pm2 an2 cd2 ct2),sl2⟩)(c2:codeIn K cd2 "_law_words" = true)(k2:keepIn K (.ref f2)=true)(a3:nsIn K mainGlobals "_law_due" = some (some (.ref f3)))(l3:K.lookup f3=some ⟨oc3,od3,.func (fnOf "_law_due" "_law_due" (aH eV) (aD eV) (aq eV) .none kV3 dc3 pm3 an3 cd3 ct3),sl3⟩)(c3:codeIn K cd3 "_law_due" = true)(k3:keepIn K (.ref f3)=true)(a4:nsIn K mainGlobals "wrong_word" = some (some (.ref f4)))(l4:K.lookup f4=some ⟨oc4,od4,.func (fnOf "wrong_word" "wrong_word" (aH bQ) (aD bQ) (aq bQ) .none kV4 dc4 pm4 an4 cd4 ct4),sl4⟩)(c4:codeIn K cd4 "wrong_word" = true)(k4:keepIn K (.ref f4)=true)(a5:findIn K (.ref aJ) "__init__" = some (some (.ref f5)))(i5:isFn K (.ref f5)=true)(l5:K.lookup f5=some ⟨oc5,od5,.func (fnOf "__init__" "HallError.__init__" (aH aY) (aD aY) (aq aY) .none kV5 dc5 pm5 an5 cd5 ct5),sl5⟩)(c5:codeIn K cd5 "HallError.__init__" = true)(k5:keepIn K (.ref f5)=true)(a6:findIn K (.ref dZ) "__init__" = some (some (.ref f6)))(i6:isFn K (.ref f6)=true)(l6:K.lookup f6=some ⟨oc6,od6,.func (fnOf "__init__" "Rules.__init__" (aH cL) (aD cL) (aq cL) (.ref v6) kV6 dc6 pm6 an6 cd6 ct6),sl6⟩)(c6:codeIn K cd6 "Rules.__init__" = true)(k6:keepIn K (.ref f6)=true)(lv6:K.lookup v6=some vo6)(dv6:vo6.data= .seq #[.str "once best own most" tk6] vn6)(a7:nsIn K mainGlobals "_law_truth" = some (some (.ref f7)))(l7:K.lookup f7=some ⟨oc7,od7,.func (fnOf "_law_truth" "_law_truth" (aH cI) (aD cI) (aq cI) .none kV7 dc7 pm7 an7 cd7 ct7),sl7⟩)(c7:codeIn K cd7 "_law_truth" = true)(k7:keepIn K (.ref f7)=true)(a8:nsIn K mainGlobals "hands_of" = some (some (.ref f8)))(l8:K.lookup f8=some ⟨oc8,od8,.func (fnOf "hands_of" "hands_of" (aH dm) (aD dm) (aq dm) .none kV8 dc8 pm8 an8 cd8 ct8),sl8⟩)(c8:codeIn K cd8 "hands_of" = true)(k8:keepIn K (.ref f8)=true)(a9:nsIn K mainGlobals "many" = some (some (.ref f9)))(l9:K.lookup f9=some ⟨oc9,od9,.func (fnOf "many" "many" (aH ni) (aD ni) (aq ni) .none kV9 dc9 pm9 an9 cd9 ct9),sl9⟩)(c9:codeIn K cd9 "many" = true)(k9:keepIn K (.ref f9)=true)(a10:nsIn K mainGlobals "carries" = some (some (.ref f10)))(l10:K.lookup f10=some ⟨abO,abI,.func (fnOf "carries" "carries" (aH fY) (aD fY) (aq fY) (.ref v10) YK Zf X8 ZD VN Zo),abk⟩)(c10:codeIn K VN "carries" = true)(k10:keepIn K (.ref f10)=true)(Ra:K.lookup v10=some WQ)(Rq:WQ.data= .seq #[.bool false] aaX)(a11:nsIn K mainGlobals "wins" = some (some (.ref f11)))(l11:K.lookup f11=some ⟨abN,abH,.func (fnOf "wins" "wins" (aH pF) (aD pF) (aq pF) (.ref v11) YJ Ze X7 ZC VM Zn),abj⟩)(c11:codeIn K VM "wins" = true)(k11:keepIn K (.ref f11)=true)(Q_:K.lookup v11=some WN)(Rp:WN.data= .seq #[.bool false] aaW)(a12:findIn K (.ref dZ) "wins" = some (some (.ref Y7)))(i12:isFn K (.ref Y7)=true)(l12:K.lookup Y7=some ⟨abM,abG,.func (fnOf "wins" "Rules.wins" (aH bT) (aD bT) (aq bT) .none YH Zd X6 Zz VL Zm),abi⟩)(c12:codeIn K VL "Rules.wins" = true)(k12:keepIn K (.ref Y7)=true)(a13:nsIn K mainGlobals "_law_wins" = some (some (.ref f13)))(l13:K.lookup f13=some ⟨abL,abF,.func (fnOf "_law_wins" "_law_wins" (aH dj) (aD dj) (aq dj) .none YG Zc X5 Zy VJ Zk),abh⟩)(c13:codeIn K VJ "_law_wins" = true)(k13:keepIn K (.ref f13)=true)(a14:nsIn K mainGlobals "_law_right" = some (some (.ref f14)))(l14:K.lookup f14=some ⟨abK,abE,.func (fnOf "_law_right" "_law_right" (aH cJ) (aD cJ) (aq cJ) .none YF Zb X4 Zx VH Zj),abg⟩)(c14:codeIn K VH "_law_right" = true)(k14:keepIn K (.ref f14)=true)(a15:nsIn K mainGlobals "law" = some (some (.ref f15)))(l15:K.lookup f15=some ⟨abJ,abD,.func (fnOf "law" "law" (aH sV) (aD sV) (aq sV) .none YD Za X3 Zw VG Zi),abf⟩)(c15:codeIn K VG "law" = true)(k15:keepIn K (.ref f15)=true)(wN:PySem.W.plainGet K dZ Str.empty=true)(xG:PySem.W.hasDictIn K dZ=true)(wL:PySem.W.plainOver K dZ=true)(wA:findIn K (.ref dZ) "__setattr__" = some (some (.builtin "object.__setattr__")))(jL:PySem.W.makesIn K dZ=true)(xr:keepIn K (.ref dZ)=true)(cP:findIn K (.ref dZ) "once" = some none)(cQ:findIn K (.ref dZ) "best" = some none)(dw:findIn K (.ref dZ) "own" = some none)(bW:findIn K (.ref dZ) "most" = some none)(YQ:PySem.W.specialIn K (.builtin "object.__class__") "__get__" = some (some (.builtin "getset_descriptor.__get__")))(WX:PySem.W.takesIn K (.builtin "object.__class__")=some true)(bB:K.lookup aJ=some (excClassObj Af z7 aJ DX Bk dG true zO zV Bp Bf Bd Ao An Am Al Ak "ValueError.__new__"))(m6:dG.contains (.type "ValueError")=true)(m5:dG.contains (.type "AttributeError")=false)(mU:dG.contains (.type "NameError")=false)(dh:dG.contains (.type "BaseException")=true)(jn:dG.contains (.type "object")=true)(nj:dG=[].map Value.ref++[.type "ValueError",.type "Exception",.type "BaseException",.type "object"])(nG:findIn K (.ref aJ) "__init__" = some (some (.ref f5)))(nZ:keepIn K (.ref aJ)=true)(mQ:findIn K (.ref aJ) "__setattr__" = some (some (.builtin "object.__setattr__")))(mZ:findIn K (.ref aJ) "__getattribute__" = some (some (.builtin "BaseException.__getattribute__")))(mO:findIn K (.ref aJ) "at" = some none)(mY:findIn K (.ref aJ) "__getattr__" = some none)(mW:findIn K (.ref aJ) "__class__" = some (some (.builtin "object.__class__")))(bJ:K.lookup aX=some (excClassObj CJ Cp aX Gz DN eE true B_ Cg DQ Dw Dq C_ CZ CW CV CT "ValueError.__new__"))(pq:eE.contains (.type "ValueError")=true)(o_:eE.contains (.type "AttributeError")=false)(o4:eE.contains (.type "NameError")=false)(d7:eE.contains (.type "BaseException")=true)(jY:eE.contains (.type "object")=true)(pH:eE=[aJ].map Value.ref++[.type "ValueError",.type "Exception",.type "BaseException",.type "object"])(pM:findIn K (.ref aX) "__init__" = some (some (.ref f5)))(pO:keepIn K (.ref aX)=true)(oZ:findIn K (.ref aX) "__setattr__" = some (some (.builtin "object.__setattr__")))(o9:findIn K (.ref aX) "__getattribute__" = some (some (.builtin "BaseException.__getattribute__")))(oY:findIn K (.ref aX) "at" = some none)(o8:findIn K (.ref aX) "__getattr__" = some none)(o7:findIn K (.ref aX) "__class__" = some (some (.builtin "object.__class__")))(cu:K.lookup bz=some (excClassObj Fj Fb bz J_ Gm fV true Eu Ey Gw Gj Gi FT FQ FP FN FJ "ValueError.__new__"))(rz:fV.contains (.type "ValueError")=true)(rm:fV.contains (.type "AttributeError")=false)(qX:fV.contains (.type "NameError")=false)(fP:fV.contains (.type "BaseException")=true)(mR:fV.contains (.type "object")=true)(rJ:fV=[aJ].map Value.ref++[.type "ValueError",.type "Exception",.type "BaseException",.type "object"])(rM:findIn K (.ref bz) "__init__" = some (some (.ref f5)))(rP:keepIn K (.ref bz)=true)(qW:findIn K (.ref bz) "__setattr__" = some (some (.builtin "object.__setattr__")))(q_:findIn K (.ref bz) "__getattribute__" = some (some (.builtin "BaseException.__getattribute__")))(qU:findIn K (.ref bz) "at" = some none)(qZ:findIn K (.ref bz) "__getattr__" = some none)(qY:findIn K (.ref bz) "__class__" = some (some (.builtin "object.__class__")))(bN:subIn K (.ref aJ) (.ref aJ)=some true)(cz:subIn K (.ref aJ) (.ref aX)=some false)(cF:subIn K (.ref aJ) (.ref bz)=some false)(cA:subIn K (.ref aX) (.ref aJ)=some true)(cG:subIn K (.ref aX) (.ref aX)=some true)(cU:subIn K (.ref aX) (.ref bz)=some false)(cD:subIn K (.ref bz) (.ref aJ)=some true)(cT:subIn K (.ref bz) (.ref aX)=some false)(di:subIn K (.ref bz) (.ref bz)=some true)(sr:nsIn K mainGlobals "CHOICES" = some (some (.ref uK)))(pN:K.lookup uK=some rK)(p7:rK.cls= .type "tuple")(pZ:rK.data= .seq #[.ref lQ,.ref lO,.ref lN,.ref lM] CG)(lu:K.lookup lQ=some nF)(lK:nF.cls= .type "tuple")(lE:nF.data= .seq #[.str "once" vz,.str "free" vq] yw)(lq:K.lookup lO=some nC)(lJ:nC.cls= .type "tuple")(lD:nC.data= .seq #[.str "best" vp,.str "any" vm] yu)(lg:K.lookup lN=some nA)(lH:nA.cls= .type "tuple")(lC:nA.data= .seq #[.str "own" vh,.str "old" vg] yt)(k_:K.lookup lM=some nu)(lG:nu.cls= .type "tuple")(lB:nu.data= .seq #[.str "most" vf,.str "half" u_] yr)(lR:nsIn K mainGlobals "wins_rolls" = some (some (.ref f11)))(Eg:nsIn K mainGlobals "bool" = some none)(oX:nsIn K mainGlobals "enumerate" = some none)(mL:nsIn K mainGlobals "isinstance" = some none)(Km:nsIn K mainGlobals "len" = some none)(Kl:nsIn K mainGlobals "max" = some none)(Kh:nsIn K mainGlobals "min" = some none)(zA:nsIn K mainGlobals "range" = some none):
  ∃t,Txt K mg t:=
 ⟨{iD:=dZ,
   aN:=aJ,
   aR:=aX,
   aQ:=bz,
   gJ:=f0,gP:=fnOf "_law_stream" "_law_stream" (aH bR) (aD bR) (aq bR) .none kV0 dc0 pm0 an0 cd0 ct0,
   fG:=f1,fH:=fnOf "_law_cell_at" "_law_cell_at" (aH bG) (aD bG) (aq bG) .none kV1 dc1 pm1 an1 cd1 ct1,
   iT:=f2,iY:=fnOf "_law_words" "_law_words" (aH cH) (aD cH) (aq cH) .none kV2 dc2 pm2 an2 cd2 ct2,
   mz:=f3,mF:=fnOf "_law_due" "_law_due" (aH eV) (aD eV) (aq eV) .none kV3 dc3 pm3 an3 cd3 ct3,
   gH:=f4,gO:=fnOf "wrong_word" "wrong_word" (aH bQ) (aD bQ) (aq bQ) .none kV4 dc4 pm4 an4 cd4 ct4,
   b8:=f5,fc:=fnOf "__init__" "HallError.__init__" (aH aY) (aD aY) (aq aY) .none kV5 dc5 pm5 an5 cd5 ct5,
   gM:=f6,e_:=fnOf "__init__" "Rules.__init__" (aH cL) (aD cL) (aq cL) (.ref v6) kV6 dc6 pm6 an6 cd6 ct6,
   sE:=v6,
   sH:=tk6,
   iU:=f7,iZ:=fnOf "_law_truth" "_law_truth" (aH cI) (aD cI) (aq cI) .none kV7 dc7 pm7 an7 cd7 ct7,
   jP:=f8,jU:=fnOf "hands_of" "hands_of" (aH dm) (aD dm) (aq dm) .none kV8 dc8 pm8 an8 cd8 ct8,
   xK:=f9,xQ:=fnOf "many" "many" (aH ni) (aD ni) (aq ni) .none kV9 dc9 pm9 an9 cd9 ct9,
   mD:=f10,jD:=fnOf "carries" "carries" (aH fY) (aD fY) (aq fY) (.ref v10) YK Zf X8 ZD VN Zo,
   yH:=v10,
   uB:=f11,uG:=fnOf "wins" "wins" (aH pF) (aD pF) (aq pF) (.ref v11) YJ Ze X7 ZC VM Zn,
   Ku:=v11,
   gK:=Y7,gQ:=fnOf "wins" "Rules.wins" (aH bT) (aD bT) (aq bT) .none YH Zd X6 Zz VL Zm,
   jO:=f13,jT:=fnOf "_law_wins" "_law_wins" (aH dj) (aD dj) (aq dj) .none YG Zc X5 Zy VJ Zk,
   iV:=f14,i_:=fnOf "_law_right" "_law_right" (aH cJ) (aD cJ) (aq cJ) .none YF Zb X4 Zx VH Zj,
   zj:=f15,uX:=fnOf "law" "law" (aH sV) (aD sV) (aq sV) .none YD Za X3 Zw VG Zi,
   uz:=uK},
  {iC:=aU l0 c0 k0,
   cN:=(aU l0 c0 k0:dM K _ _ bR .none _ _).binds (ps:=["_law_cell","_law_size"]) fun _ _ _ _ _ _ us hl=>by obtain⟨u0,u1,rfl⟩:=nW hl;rfl,
   kZ:=PySem.W.mg_of X G a0,
   gF:=aU l1 c1 k1,
   bZ:=(aU l1 c1 k1:dM K _ _ bG .none _ _).binds (ps:=["_law_script","_law_k"]) fun _ _ _ _ _ _ us hl=>by obtain⟨u0,u1,rfl⟩:=nW hl;rfl,
   jM:=PySem.W.mg_of X G a1,
   n8:=aU l2 c2 k2,
   eG:=(aU l2 c2 k2:dM K _ _ cH .none _ _).binds (ps:=["_law_xs"]) fun _ _ _ _ _ _ us hl=>by obtain⟨u0,rfl⟩:=nY hl;rfl,
   tH:=PySem.W.mg_of X G a2,
   rW:=aU l3 c3 k3,
   fj:=(aU l3 c3 k3:dM K _ _ eV .none _ _).binds (ps:=["_law_words_here"]) fun _ _ _ _ _ _ us hl=>by obtain⟨u0,rfl⟩:=nY hl;rfl,
   wW:=PySem.W.mg_of X G a3,
   lA:=aU l4 c4 k4,
   bV:=(aU l4 c4 k4:dM K _ _ bQ .none _ _).binds (ps:=["words"]) fun _ _ _ _ _ _ us hl=>by obtain⟨u0,rfl⟩:=nY hl;rfl,
   qF:=PySem.W.mg_of X G a4,
   j_:=aU l5 c5 k5,
   mG:=(aU l5 c5 k5:dM K _ _ aY .none _ _).binds (ps:=["self","at"]) fun _ _ _ _ _ _ us hl=>by obtain⟨u0,u1,rfl⟩:=nW hl;rfl,
   qM:=aU l6 c6 k6,
   cO:=fun s us X hl=>by obtain⟨u0,u1,rfl⟩:=nW (us:=us) (by simpa using hl);exact PySem.W.binds_K X rfl lv6 dv6 rfl rfl,
   qQ:=fun s us X hl=>by obtain⟨u0,rfl⟩:=nY (us:=us) (by simpa using hl);exact PySem.W.binds_K X rfl lv6 dv6 rfl rfl,
   jL:=⟨jL,a6,i6,xr⟩,
   jw:=aU l7 c7 k7,
   cZ:=(aU l7 c7 k7:dM K _ _ cI .none _ _).binds (ps:=["_law_found","_law_due_here"]) fun _ _ _ _ _ _ us hl=>by obtain⟨u0,u1,rfl⟩:=nW hl;rfl,
   nJ:=PySem.W.mg_of X G a7,
   pX:=aU l8 c8 k8,
   fW:=(aU l8 c8 k8:dM K _ _ dm .none _ _).binds (ps:=["S"]) fun _ _ _ _ _ _ us hl=>by obtain⟨u0,rfl⟩:=nY hl;rfl,
   uO:=PySem.W.mg_of X G a8,
   tY:=aU l9 c9 k9,
   oA:=(aU l9 c9 k9:dM K _ _ ni .none _ _).binds (ps:=["S"]) fun _ _ _ _ _ _ us hl=>by obtain⟨u0,rfl⟩:=nY hl;rfl,
   vM:=PySem.W.mg_of X G a9,
   n_:=aU l10 c10 k10,
   gf:=fun s us X hl=>by obtain⟨u0,u1,u2,rfl⟩:=tL (us:=us) (by simpa using hl);exact PySem.W.binds_K X rfl Ra Rq rfl rfl,
   Gn:=fun s us X hl=>by obtain⟨u0,u1,rfl⟩:=nW (us:=us) (by simpa using hl);exact PySem.W.binds_K X rfl Ra Rq rfl rfl,
   rN:=PySem.W.mg_of X G a10,
   Ba:=aU l11 c11 k11,
   ou:=fun s us X hl=>by obtain⟨u0,u1,u2,rfl⟩:=tL (us:=us) (by simpa using hl);exact PySem.W.binds_K X rfl Q_ Rp rfl rfl,
   RP:=fun s us X hl=>by obtain⟨u0,u1,rfl⟩:=nW (us:=us) (by simpa using hl);exact PySem.W.binds_K X rfl Q_ Rp rfl rfl,
   Q7:=PySem.W.mg_of X G a11,
   qL:=aU l12 c12 k12,
   dI:=(aU l12 c12 k12:dM K _ _ bT .none _ _).binds (ps:=["self","roll","S"]) fun _ _ _ _ _ _ us hl=>by obtain⟨u0,u1,u2,rfl⟩:=tL hl;rfl,
   qG:=⟨a12,i12,k12⟩,
   pW:=aU l13 c13 k13,
   dH:=(aU l13 c13 k13:dM K _ _ dj .none _ _).binds (ps:=["_law_roll","_law_hands","_law_most"]) fun _ _ _ _ _ _ us hl=>by obtain⟨u0,u1,u2,rfl⟩:=tL hl;rfl,
   uN:=PySem.W.mg_of X G a13,
   jx:=aU l14 c14 k14,
   dg:=(aU l14 c14 k14:dM K _ _ cJ .none _ _).binds (ps:=["_law_rules","_law_words_here","_law_xs"]) fun _ _ _ _ _ _ us hl=>by obtain⟨u0,u1,u2,rfl⟩:=tL hl;rfl,
   nM:=PySem.W.mg_of X G a14,
   Gb:=aU l15 c15 k15,
   zy:=(aU l15 c15 k15:dM K _ _ sV .none _ _).binds (ps:=["_law_script"]) fun _ _ _ _ _ _ us hl=>by obtain⟨u0,rfl⟩:=nY hl;rfl,
   Nb:=PySem.W.mg_of X G a15,
   d_:=⟨wN,xG,wL,wA⟩,
   wX:=PySem.W.mg_of X G xZ,
   cP:=cP,
   cQ:=cQ,
   dw:=dw,
   bW:=bW,
   tK:=PySem.W.mg_of X G oE,
   zE:=Eh bB m6 m5 mU dh nG i5 nZ,
   jq:=zF bB jn dh (pI nj) mQ mZ mO,
   jo:=Ei bB jn mY mW YQ WX,
   uP:=PySem.W.mg_of X G p_,
   Bw:=Eh bJ pq o_ o4 d7 pM i5 pO,
   j0:=zF bJ jY d7 (pI pH) oZ o9 oY,
   jZ:=Ei bJ jY o8 o7 YQ WX,
   rO:=PySem.W.mg_of X G su,
   vV:=Eh cu rz rm qX fP rM i5 rP,
   jF:=zF cu mR fP (pI rJ) qW q_ qU,
   mX:=Ei cu mR qZ qY YQ WX,
   mV:=sy bB dh bN,
   gw:=tO bB bN,
   oK:=sy bJ d7 cz,
   gW:=tO bJ cz,
   iH:=sy cu fP cF,
   pP:=tO cu cF,
   oN:=sy bB dh cA,
   gY:=tO bB cA,
   o6:=sy bJ d7 cG,
   iR:=tO bJ cG,
   jj:=sy cu fP cU,
   qx:=tO cu cU,
   o5:=sy bB dh cD,
   iQ:=tO bB cD,
   qw:=sy bJ d7 cT,
   jl:=tO bJ cT,
   jE:=sy cu fP di,
   rQ:=tO cu di,
   nO:=PySem.W.mg_of X G sr,
   m9:=fun ct ι n H=>(S.xN (xs:=[.ref lQ,.ref lO,.ref lN,.ref lM]) pN p7 pZ (by simp) (.cons rfl (.cons rfl (.cons rfl (.cons rfl .nil)))) (.cons (S.xN (xs:=[.str "once",.str "free"]) lu lK lE (by simp) (.cons ⟨_,rfl⟩ (.cons ⟨_,rfl⟩ .nil)) (.cons (.str _) (.cons (.str _) .nil))) (.cons (S.xN (xs:=[.str "best",.str "any"]) lq lJ lD (by simp) (.cons ⟨_,rfl⟩ (.cons ⟨_,rfl⟩ .nil)) (.cons (.str _) (.cons (.str _) .nil))) (.cons (S.xN (xs:=[.str "own",.str "old"]) lg lH lC (by simp) (.cons ⟨_,rfl⟩ (.cons ⟨_,rfl⟩ .nil)) (.cons (.str _) (.cons (.str _) .nil))) (.cons (S.xN (xs:=[.str "most",.str "half"]) k_ lG lB (by simp) (.cons ⟨_,rfl⟩ (.cons ⟨_,rfl⟩ .nil)) (.cons (.str _) (.cons (.str _) .nil))) .nil))))),
   qD:=PySem.W.mg_of X G lR,
   Fq:=PySem.W.mg_none_of X G Eg,
   uR:=PySem.W.mg_none_of X G oX,
   gq:=PySem.W.mg_none_of X G mL,
   lZ:=PySem.W.mg_none_of X G Km,
   Ss:=PySem.W.mg_none_of X G Kl,
   HF:=PySem.W.mg_none_of X G Kh,
   jt:=PySem.W.mg_none_of X G zA}⟩
end My
open PySem PySem.W PyProof.Rows
namespace PySem.W.Fast
def tw6093630781456004224:=0
def tw519033859751137504:=0
def tw893414588419825440:=0
def tw17221314057765269344:=0
def tw10490245256403299168:=0
def tw6287293974943964064:=0
def tw10651382903688193153:=0
def tw4360810425402910017:=0
def tw17206669147398138305:=0
def tw16854815777018738337:=0
def tw5542418132564171585:=0
def tw5175493879636438082:=0
def tw2130084322502920706:=0
def tw7492575827387104930:=0
def tw8732901452462093026:=0
def tw10395793060694046434:=0
def tw2416011962077096706:=0
def tw10701661071870912354:=0
def tw14645228543367797730:=0
def tw8038663159697942915:=0
def tw13099537509890912995:=0
def tw15614589444130078595:=0
def tw3775428867711407075:=0
def tw8799569876538938339:=0
def tw10156176745122345028:=0
def tw3429520760851869892:=0
def tw10974129612713845156:=0
def tw12935065689091329700:=0
def tw17827784051139257124:=0
def tw15699450195139110724:=0
def tw8438018368658944868:=0
def tw6551030950062193540:=0
def tw17821291697988157316:=0
def tw15777094215583450245:=0
def tw7388843919848257925:=0
def tw3332522437357204901:=0
def tw1918850656637896133:=0
def tw16807038859915769477:=0
def tw15770325895290754949:=0
def tw10848500746561035462:=0
def tw14699594042984992390:=0
def tw11800472676159408934:=0
def tw3046407996236907366:=0
def tw17351944159384170599:=0
def tw12649940233269786119:=0
def tw6987400305020339015:=0
def tw9723617932338404199:=0
def tw10776422621678499080:=0
def tw9719211169372279304:=0
def tw11125216080487202664:=0
def tw13655614993631257544:=0
def tw1085764222163267593:=0
def tw15097588327008365865:=0
def tw19121410606803593:=0
def tw17924272003625316297:=0
def tw4038574848417356938:=0
def tw11037721484912934538:=0
def tw5380344931708009194:=0
def tw14494811439144598378:=0
def tw8885373897543006731:=0
def tw5931491227151277739:=0
def tw16197520700187830091:=0
def tw18152892157978579883:=0
def tw6336694654930684044:=0
def tw8251728936929788108:=0
def tw3548273467793057100:=0
def tw17544323331144757708:=0
def tw6919026645153109548:=0
def tw3444419778080996012:=0
def tw6270229008639767308:=0
def tw14671656341623413612:=0
def tw3332146695171145741:=0
def tw17435585366191903981:=0
def tw456199661916431661:=0
def tw4902202343719683437:=0
def tw7022263706446155405:=0
def tw11460035037004649293:=0
def tw17697604090856789901:=0
def tw9927253129442388526:=0
def tw12133590117544240974:=0
def tw12926063857675943023:=0
def tw1858405476078937615:=0
def tw6386839882118920751:=0
def tw12590083829719561839:=0
def tw7843960687303087855:=0
def tw3257618005415777071:=0
def tw13363942688651413455:=0
def tw966585416096270896:=0
def tw9702536623000194800:=0
def tw16253300162793721584:=0
def tw7499094006966991792:=0
def tw2158857447800987761:=0
def tw3877330779423199441:=0
def tw9276111640493746417:=0
def tw3884719617305457361:=0
def tw290750127499564817:=0
def tw7230285811120392306:=0
def tw1211298007726180530:=0
def tw11806466173612497138:=0
def tw13262226071764432306:=0
def tw15412079415468489170:=0
def tw1307677271771203058:=0
def tw5801744626581115506:=0
def tw4993046285653868338:=0
def tw15723936261352549362:=0
def tw12670229675364108499:=0
def tw6134115341380728051:=0
def tw6118265767581947347:=0
def tw5762760744214827603:=0
def tw16467631139474025267:=0
def tw14417028390910058708:=0
def tw467379063412993524:=0
def tw11659890890570242644:=0
def tw14266629417030412916:=0
def tw17568905675122804404:=0
def tw6317884904259525396:=0
def tw14659654257629268053:=0
def tw5493169428190620853:=0
def tw4341903271361042805:=0
def tw14160186310371238389:=0
def tw491580842189120245:=0
def tw10628130991355772406:=0
def tw13987690521522796246:=0
def tw9622562422972818615:=0
def tw8349044864121186903:=0
def tw15712222614438763159:=0
def tw4377053134260528887:=0
def tw9220800232728310583:=0
def tw18022372422844994519:=0
def tw1326680827530854391:=0
def tw5067025081065778264:=0
def tw355208313247988952:=0
def tw3274505564800729336:=0
def tw17915865535281766680:=0
def tw14901887125766719928:=0
def tw17253409628314994168:=0
def tw8874258566451520280:=0
def tw1936450506439904248:=0
def tw3618442074337253465:=0
def tw6928275887230716281:=0
def tw17180662734467902873:=0
def tw18142404627974300089:=0
def tw14485173012156232185:=0
def tw13341537110623947737:=0
def tw3385610713761923065:=0
def tw8300366362861704346:=0
def tw4012924710667401498:=0
def tw1917151471483956698:=0
def tw10092024181088145018:=0
def tw8387753154841529242:=0
def tw14690928719008410907:=0
def tw1466711192490204507:=0
def tw16545511280935285371:=0
def tw3966841502977297147:=0
def tw17568471918634743996:=0
def tw3875898152011601084:=0
def tw2675397799045665372:=0
def tw6145138224606373628:=0
def tw3264911154918422492:=0
def tw1619715426654988284:=0
def tw11088742138224326909:=0
def tw17186728552308782365:=0
def tw16926704142149683741:=0
def tw4136207110287238717:=0
def tw7422832194952297566:=0
def tw5624814600973136350:=0
def tw18207266766756545278:=0
def tw458738791253075838:=0
def tw10312429370765170622:=0
def tw3471476548067011518:=0
def tw3310209239862334943:=0
def tw13543305307638401335:=0
end PySem.W.Fast
theorem PySem.Challenge.cw_chairvote_k71_rules_holds : PySem.Challenge.rw_chairvote_k71_rules.Holds := by
 w_on;o_law;k_head;(case hw=>w_witness2)
 k_fill
 refine S.WL (l:=PySem.Challenge.rw_chairvote_k71_rules) (x:= "_law_script") (k:=7) rfl rfl ⟨rfl,by decide,by decide⟩ (fun w h Y=>PySem.W.kIn_of Y) ?F
 case F=>
  intro w mg fa h KX G hmg
  have T:∃t,My.Txt (L2.KOf KX) mg t:=by
   dsimp only[L2.KOf]
   refine' My.all_mk KX G ?xZ ?oE ?p_ ?su ?a0 ?l0 ?c0 ?k0 ?a1 ?l1 ?c1 ?k1 ?a2 ?l2 ?c2 ?k2 ?a3 ?l3 ?c3 ?k3 ?a4 ?l4 ?c4 ?k4 ?a5 ?i5 ?l5 ?c5 ?k5 ?a6 ?i6 ?l6 ?c6 ?k6 ?lv6 ?dv6 ?a7 ?l7 ?c7 ?k7 ?a8 ?l8 ?c8 ?k8 ?a9 ?l9 ?c9 ?k9 ?a10 ?l10 ?c10 ?k10 ?Ra ?Rq ?a11 ?l11 ?c11 ?k11 ?Q_ ?Rp ?a12 ?i12 ?l12 ?c12 ?k12 ?a13 ?l13 ?c13 ?k13 ?a14 ?l14 ?c14 ?k14 ?a15 ?l15 ?c15 ?k15 ?wN ?xG ?wL ?wA ?jL ?xr ?cP ?cQ ?dw ?bW ?YQ ?WX ?bB ?m6 ?m5 ?mU ?dh ?jn ?nj ?nG ?nZ ?mQ ?mZ ?mO ?mY ?mW ?bJ ?pq ?o_ ?o4 ?d7 ?jY ?pH ?pM ?pO ?oZ ?o9 ?oY ?o8 ?o7 ?cu ?rz ?rm ?qX ?fP ?mR ?rJ ?rM ?rP ?qW ?q_ ?qU ?qZ ?qY ?bN ?cz ?cF ?cA ?cG ?cU ?cD ?cT ?di ?sr ?pN ?p7 ?pZ ?lu ?lK ?lE ?lq ?lJ ?lD ?lg ?lH ?lC ?k_ ?lG ?lB ?lR ?Eg ?oX ?mL ?Km ?Kl ?Kh ?zA
   case xZ | oE | p_ | su | a0 | l0 | c0 | k0 | a1 | l1 | c1 | k1 | a2 | l2 | c2 | k2 | a3 | l3 | c3 | k3 | a4 | l4 | c4 | k4 | a5 | i5 | l5 | c5 | k5 | a6 | i6 | l6 | c6 | k6 | lv6=>k_is
   case dv6=>rfl
   case a7 | l7 | c7 | k7 | a8 | l8 | c8 | k8 | a9 | l9 | c9 | k9 | a10 | l10 | c10 | k10 | Ra=>k_is
   case Rq=>rfl
   case a11 | l11 | c11 | k11 | Q_=>k_is
   case Rp=>rfl
   case a12 | i12 | l12 | c12 | k12 | a13 | l13 | c13 | k13 | a14 | l14 | c14 | k14 | a15 | l15 | c15 | k15 | wN | xG | wL | wA | jL | xr | cP | cQ | dw | bW | YQ | WX | bB=>k_is
   case m6 | m5 | mU | dh | jn=>decide +kernel
   case nj=>rfl
   case nG | nZ | mQ | mZ | mO | mY | mW | bJ=>k_is
   case pq | o_ | o4 | d7 | jY=>decide +kernel
   case pH=>rfl
   case pM | pO | oZ | o9 | oY | o8 | o7 | cu=>k_is
   case rz | rm | qX | fP | mR=>decide +kernel
   case rJ=>rfl
   case rM | rP | qW | q_ | qU | qZ | qY | bN | cz | cF | cA | cG | cU | cD | cT | di | sr | pN=>k_is
   case p7 | pZ=>rfl
   case lu=>k_is
   case lK | lE=>rfl
   case lq=>k_is
   case lJ | lD=>rfl
   case lg=>k_is
   case lH | lC=>rfl
   case k_=>k_is
   case lG | lB=>rfl
   case lR | Eg | oX | mL | Km | Kl | Kh | zA=>k_is
  obtain⟨t,T⟩:=T
  have e0:=hmg.symm.trans T.Nb
  cases e0
  exact⟨t.uX,fun s u=>My.JK T s u,fun base _ _=>My.QX T⟩

