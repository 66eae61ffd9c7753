import PyProof.Rows.All
import Wide.All
import OpenK.AllK
import Wide.FinOn
import Lean
import PyProof.EqAt
import PyProof.EqKinds
import PyProof.TupleCall
import PySem.Challenge.RW_chairvote_k24_a_cut_book_is_torn
noncomputable section
set_option Elab.async false
set_option linter.all false
set_option maxRecDepth 100000
namespace L2
open PySem PySem.Spec PyProof.Rows
abbrev Key:=Sum Int Str
def Ho:Key→Value→Bool
 | .inl k,v=>Value.isInt k v
 | .inr x,v=>Value.isStrOf x v
def alf(w:World):Key→Int
 | .inl k=>hashInt k
 | .inr x=>hashStr w x
theorem iW:∀{k:Key} {v:Value},Ho k v=true→(∃i t,k=Sum.inl i∧v=Value.int i t)∨(∃x t,k=Sum.inr x∧v=Value.str x t)
 | .inl i,v,h=>by
  obtain⟨t,e⟩:=Value.isInt_shape (k:=i) (v:=v) h
  exact .inl ⟨i,t,rfl,e⟩
 | .inr x,v,h=>by
  obtain⟨t,e⟩:=Value.isStrOf_shape (x:=x) (v:=v) h
  exact .inr ⟨x,t,rfl,e⟩
theorem SQ(i:Int)(t:Tok):Ho (.inl i) (.int i t)=true:=by simp[Ho,Value.isInt]
theorem SN(x:Str)(t:Tok):Ho (.inr x) (.str x t)=true:=by simp[Ho,Value.isStrOf]
theorem abv(a b:Int):decide ((Sum.inl a:Key)=Sum.inl b)=(a==b):=by
 by_cases e:a=b
 ·subst e;simp
 ·have h:¬(Sum.inl a:Key)=Sum.inl b:=fun q=>e (Sum.inl.inj q)
  rw[decide_eq_false h]
  exact(beq_eq_false_iff_ne.mpr e).symm
theorem abr(a b:Str):decide ((Sum.inr a:Key)=Sum.inr b)=decide (a=b):=by
 by_cases e:a=b
 ·subst e;simp
 ·have h:¬(Sum.inr a:Key)=Sum.inr b:=fun q=>e (Sum.inr.inj q)
  rw[decide_eq_false h,decide_eq_false e]
theorem abu(a:Int)(b:Str):decide ((Sum.inl a:Key)=Sum.inr b)=false:=decide_eq_false (fun q=>nomatch q)
theorem abt(a:Str)(b:Int):decide ((Sum.inr a:Key)=Sum.inl b)=false:=decide_eq_false (fun q=>nomatch q)
def oU(prog:Program)(w:World):PySem.KeyKind prog w Key where
 is:=Ho
 hash:=alf w
 inj:=fun v a b ha hb=>by
  rcases iW ha with⟨i,t,rfl,rfl⟩ | ⟨x,t,rfl,rfl⟩
  ·rcases iW hb with⟨j,u,rfl,e⟩ | ⟨y,u,rfl,e⟩
   ·injection e with e1 _;rw[e1]
   ·exact nomatch e
  ·rcases iW hb with⟨j,u,rfl,e⟩ | ⟨y,u,rfl,e⟩
   ·exact nomatch e
   ·injection e with e1 _;rw[e1]
 byValue:=fun k v h=>by
  rcases iW h with⟨i,t,rfl,rfl⟩ | ⟨x,t,rfl,rfl⟩<;>rfl
 pyHash:=fun hv h=>by
  rcases iW hv with⟨i,t,rfl,rfl⟩ | ⟨x,t,rfl,rfl⟩
  ·exact wpAny_pyHash_int h
  ·exact wpAny_pyHash_str h
 eqBool:=fun hu hv h=>by
  rcases iW hu with⟨i,t,rfl,rfl⟩ | ⟨x,t,rfl,rfl⟩
  ·rcases iW hv with⟨j,u,rfl,rfl⟩ | ⟨y,u,rfl,rfl⟩
   ·rw[abv]at h;exact wpAny_eqBool_int h
   ·rw[abu]at h;exact SeqAt.EqAt.int_str i t y u _ _ _ _ h
  ·rcases iW hv with⟨j,u,rfl,rfl⟩ | ⟨y,u,rfl,rfl⟩
   ·rw[abt]at h;exact SeqAt.EqAt.str_int x t j u _ _ _ _ h
   ·rw[abr]at h;exact wpAny_eqBool_str h
 «strs» := fun k x t v h=>by
  rcases iW h with⟨i,u,rfl,e⟩ | ⟨y,u,rfl,e⟩
  ·exact nomatch e
  ·injection e with e1 _
   subst e1
   cases v<;>rfl
theorem Lx(prog:Program)(w:World)(i:Int)(t:Tok):(oU prog w).is (.inl i) (.int i t)=true:=SQ i t
theorem Ls(prog:Program)(w:World)(x:Str)(t:Tok):(oU prog w).is (.inr x) (.str x t)=true:=SN x t
end L2
namespace L2
open PySem PySem.Spec PyProof.Rows
inductive V where
 | non | bl (b:Bool) | int (i:Int) | str (x:Str) | byt (b:Array UInt8) | flt (b:UInt64) | ref (a:Addr) | ty (n:String)
 deriving DecidableEq
def RelV:V→Value→Prop
 | .non,u=>u=Value.none
 | .bl b,u=>u=Value.bool b
 | .int i,u=>∃t,u=Value.int i t
 | .str x,u=>∃t,u=Value.str x t
 | .byt b,u=>∃t,u=Value.bytes b t
 | .flt b,u=>∃t,u=Value.float b t
 | .ref a,u=>u=Value.ref a
 | .ty n,u=>u=Value.type n
abbrev Vals:List V→List Value→Prop:=Paired RelV
theorem Vals.length{xs:List V}{us:List Value}(r:Vals xs us):xs.length=us.length:=Paired.length r
theorem Vals.get:∀{xs:List V} {us:List Value} {i:Nat} {x:V},Vals xs us→xs[i]? = some x→∃u,us[i]? = some u∧RelV x u
 | _,_,_,_,.nil,e=>by simp at e
 | _,_,0,_,.cons r _,e=>by simp at e;subst e;exact⟨_,rfl,r⟩
 | _,_,i+1,x,.cons _ t,e=>by
  obtain⟨u,h1,h2⟩:=Vals.get (i:=i) (x:=x) t (by simpa using e)
  exact⟨u,by simpa using h1,h2⟩
theorem Vals.append:∀{xs ys:List V} {us ws:List Value},Vals xs us→Vals ys ws→Vals (xs++ys) (us++ws)
 | _,_,_,_,.nil,s=>s
 | _,_,_,_,.cons r t,s=> .cons r (Vals.append t s)
theorem Vals.take:∀{xs:List V} {us:List Value} (n:Nat),Vals xs us→Vals (xs.take n) (us.take n)
 | _,_,0,_=> .nil
 | _,_,_+1,.nil=> .nil
 | _,_,n+1,.cons r t=> .cons r (Vals.take n t)
theorem Vals.drop:∀{xs:List V} {us:List Value} (n:Nat),Vals xs us→Vals (xs.drop n) (us.drop n)
 | _,_,0,r=>r
 | _,_,_+1,.nil=> .nil
 | _,_,n+1,.cons _ t=>Vals.drop n t
def yI:Option V→Option Value→Prop
 | some v,some u=>RelV v u
 | none,none=>True
 | _,_=>False
def KV{κ:Type}:List (κ×V)→List (κ×Value)→Prop:=Paired fun(p:κ×V) (q:κ×Value)=>p.1=q.1∧RelV p.2 q.2
def kV:Key→V
 | .inl i=> .int i
 | .inr x=> .str x
inductive HO where
 | lst (xs:List V)
 | tup (xs:List V)
 | dK (kvs:List (Key×V)) | dT (kvs:List (List Key×V))
 | set (S:Int→Bool) (n:Nat)
 | ins (C dx:Addr) (fs:List (Str×V))
 | own (x:Addr)
 | xd (fs:List (Str×V))
 | met (f x:Addr)
 | zE (lo hi:Int)
 | zF (o:Obj) (u:HO)
 | Uj (ps:Array Value)
 | ext (φ:Heap→Prop)
abbrev Hp:=Addr→Option HO
def upd(H:Hp)(a:Addr)(o:HO):Hp:=fun b=>if b=a then some o else H b
theorem d7{H:Hp}{a:Addr}{o:HO}:upd H a o a=some o:=by unfold upd;rw[if_pos rfl]
theorem bA{H:Hp}{a b:Addr}{o:HO}(h:b≠a):upd H a o b=H b:=by unfold upd;rw[if_neg h]
theorem dH{H:Hp}{a b:Addr}{o:HO}(h:H a=some o)(h':H b=none):a≠b:=by
 intro e;subst e;rw[h]at h';cases h'
section
variable(P:Program)(w:World)
def jn(H:Hp)(h:Heap)(a:Addr):HO→Prop
 | .lst xs=>xs.length≤sizeLine∧∃(its:List Value) (n:Nat),Vals xs its∧h.get? a=some {cls:= .type "list",data:= .seq its.toArray n}
 | .tup xs=>xs.length≤sizeLine∧∃its:List Value,Vals xs its∧IsTup h a its.toArray
 | .dK kvs=>kvs.length≤sizeLine∧(a==sysModules)=false∧∃vs,KV kvs vs∧h.DictOf (oU P w) a vs
 | .dT kvs=>kvs.length≤sizeLine∧(a==sysModules)=false∧∃xs:List (List Key×Addr×Value),
   Paired (fun(p:List Key×V) (q:List Key×Addr×Value)=>p.1=q.1∧H q.2.1=some (.tup (p.1.map kV))∧RelV p.2 q.2.2) kvs xs∧
   ∃o es ep,h.get? a=some o∧o.ExactDict∧o.data= .dict es ep∧es.toList=xs.map (entryOfKey (tupleKind (oU P w)))∧(xs.map (·.1)).Nodup
 | .set S n=>h.SetOf (intKind P w) a S n
 | .ins C dx fs=>H dx=some (.own a)∧fs.length≤1000∧dx≠a∧h.get? a=some (PySem.W.instObj C dx)∧
   ∃mA,h.Ns1 dx mA∧(∀f,yI (fs.lookup f) (mA f))∧PySem.Within mA (fs.map (·.1))
 | .own _=>∃o,h.get? a=some o
 | .xd fs=>∃mA,h.Ns1 a mA∧∀f,yI (fs.lookup f) (mA f)
 | .zE lo hi=>∃t u v,h.get? a=some {cls:= .type "range",data:= .fields #[.int lo t,.int hi u,.int 1 v]}
 | .zF o u=>h.get? a=some o∧jn H h a u
 | .Uj ps=>h.get? a=some {cls:= .none,data:= .fields ps}
 | .met f x=>h.get? a=some (PySem.W.methodObj (.ref f) (.ref x))
 | .ext φ=>φ h∧(∃o,h.get? a=some o)∧∀h1 h2:Heap,φ h1→(∀o,h1.get? a=some o→h2.get? a=some o)→φ h2
def ud(H:Hp)(h:Heap):Prop:=∀a o,H a=some o→jn P w H h a o
end
section
variable{P:Program}{w:World}{H H':Hp}{h h':Heap}{a:Addr}{o:HO}
theorem jn.lt(x:jn P w H h a o):a<h.objs.size:=by
 cases o with
 | lst xs=>obtain⟨_,_,_,_,e⟩:=x;exact Heap.lt_size e
 | tup xs=>obtain⟨_,_,_,p⟩:=x;exact p.lt
 | dK kvs=>obtain⟨_,_,_,_,o,_,_,e,_⟩:=x;exact Heap.lt_size e
 | dT kvs=>obtain⟨_,_,_,_,o,_,_,e,_⟩:=x;exact Heap.lt_size e
 | set S n=>obtain⟨o,_,_,_,e,_⟩:=x;exact Heap.lt_size e
 | ins C dx fs=>obtain⟨_,_,_,e,_⟩:=x;exact Heap.lt_size e
 | own y=>obtain⟨_,e⟩:=x;exact Heap.lt_size e
 | xd fs=>obtain⟨_,⟨_,_,_,e,_⟩,_⟩:=x;exact Heap.lt_size e
 | zE lo hi=>obtain⟨_,_,_,e⟩:=x;exact Heap.lt_size e
 | zF ob u=>obtain⟨e,_⟩:=x;exact Heap.lt_size e
 | Uj ps=>exact Heap.lt_size (show h.get? a=some _ from x)
 | met f y=>exact Heap.lt_size (show h.get? a=some _ from x)
 | ext φ=>obtain⟨_,⟨_,e⟩,_⟩:=x;exact Heap.lt_size e
theorem Paired.abk{α β:Type}{F G:α→β→Prop}:∀{l₁:List α} {l₂:List β},Paired F l₁ l₂→(∀a b,F a b→G a b)→Paired G l₁ l₂
 | _,_,.nil,_=> .nil
 | _,_,.cons r t,f=> .cons (f _ _ r) (Paired.abk t f)
theorem jn.stay(x:jn P w H h a o)(k:∀b u,(b=a∨H b=some (.own a))→h.get? b=some u→h'.get? b=some u)
  (ho:∀b,H b=some (.own a)→H' b=some (.own a)) (ht:∀b xs,H b=some (.tup xs)→H' b=some (.tup xs)):jn P w H' h' a o:=by
 induction o with
 | lst xs=>obtain⟨z,its,n,r,e⟩:=x;exact⟨z,its,n,r,k _ _ (.inl rfl) e⟩
 | tup xs=>obtain⟨z,its,r,ob,e,c⟩:=x;exact⟨z,its,r,ob,k _ _ (.inl rfl) e,c⟩
 | dK kvs=>obtain⟨z,y,vs,r,ob,es,ep,e,c⟩:=x;exact⟨z,y,vs,r,ob,es,ep,k _ _ (.inl rfl) e,c⟩
 | dT kvs=>
  obtain⟨z,y,xs,r,ob,es,ep,e,c⟩:=x
  exact⟨z,y,xs,Paired.abk r fun p q z=>⟨z.1,ht _ _ z.2.1,z.2.2⟩,ob,es,ep,k _ _ (.inl rfl) e,c⟩
 | set S n=>obtain⟨ob,es,ep,t,e,c⟩:=x;exact⟨ob,es,ep,t,k _ _ (.inl rfl) e,c⟩
 | ins C dx fs=>
  obtain⟨d,z,ne,e,mA,⟨od,es,ep,e2,c⟩,r⟩:=x
  exact⟨ho _ d,z,ne,k _ _ (.inl rfl) e,mA,⟨od,es,ep,k _ _ (.inr d) e2,c⟩,r⟩
 | own y=>obtain⟨ob,e⟩:=x;exact⟨ob,k _ _ (.inl rfl) e⟩
 | xd fs=>obtain⟨mA,⟨od,es,ep,e,c⟩,r⟩:=x;exact⟨mA,⟨od,es,ep,k _ _ (.inl rfl) e,c⟩,r⟩
 | zE lo hi=>obtain⟨t,u,v,e⟩:=x;exact⟨t,u,v,k _ _ (.inl rfl) e⟩
 | zF ob u ih=>obtain⟨e,q⟩:=x;exact⟨k _ _ (.inl rfl) e,ih q⟩
 | Uj ps=>
  have e:h.get? a=some {cls:= .none,data:= .fields ps}:=x
  show h'.get? a=some {cls:= .none,data:= .fields ps}
  exact k a _ (.inl rfl) e
 | met f y=>
  have e:h.get? a=some (PySem.W.methodObj (.ref f) (.ref y)):=x
  show h'.get? a=some (PySem.W.methodObj (.ref f) (.ref y))
  exact k a _ (.inl rfl) e
 | ext φ=>obtain⟨p,⟨o,e⟩,st⟩:=x;exact⟨st _ _ p fun o q=>k _ _ (.inl rfl) q,⟨o,k _ _ (.inl rfl) e⟩,st⟩
theorem ud.lt(x:ud P w H h)(e:H a=some o):a<h.objs.size:=(x a o e).lt
theorem ud.fresh(x:ud P w H h)(e:h.objs.size≤a):H a=none:=by
 cases q:H a with
 | none=>rfl
 | some u=>exact absurd (Nat.lt_of_lt_of_le (x.lt q) e) (Nat.lt_irrefl _)
theorem ud.kept(x:ud P w H h)(k:∀b u,h.get? b=some u→h'.get? b=some u):ud P w H h':=fun a o e=>
 (x a o e).stay (fun b u _ q=>k b u q) (fun _ q=>q) fun _ _ q=>q
theorem ud.laid(x:ud P w H h)(k:∀b u,h.get? b=some u→h'.get? b=some u)(hp:h.objs.size≤a)(new:jn P w (upd H a o) h' a o):ud P w (upd H a o) h':=fun b u e=>by
 have hn:=x.fresh hp
 by_cases hb:b=a
 ·subst hb;rw[d7]at e;cases e;exact new
 ·rw[bA hb]at e
  exact(x b u e).stay (fun c v _ q=>k c v q) (fun c q=>by rw[bA (dH q hn)];exact q) fun c xs q=>by rw[bA (dH q hn)];exact q
end
def Rd(H:Hp)(a:Addr)(u:HO):Prop:=H a=some u∨∃o,H a=some (.zF o u)
theorem Rd.ok{P:Program}{w:World}{H:Hp}{h:Heap}{a:Addr}{u:HO}(r:Rd H a u)(x:ud P w H h):jn P w H h a u:=by
 rcases r with r | ⟨o,r⟩
 ·exact x a u r
 ·obtain⟨_,q⟩:=x a _ r
  exact q
def Mut:Option HO→Prop
 | some (.lst _)=>True
 | some (.dK _)=>True
 | some (.dT _)=>True
 | some (.set _ _)=>True
 | some (.ins _ _ _)=>True
 | some (.ext _)=>True
 | _=>False
section
variable{P:Program}{w:World}{H:Hp}{h h':Heap}{x e:Addr}{o':HO}
theorem ud.write(ok:ud P w H h)(mu:Mut (H x))(he:e=x∨H e=some (.own x))(k:∀b u,b≠e→h.get? b=some u→h'.get? b=some u)(heo:∃u,h'.get? e=some u)
  (new:jn P w (upd H x o') h' x o'):ud P w (upd H x o') h':=fun b u q=>by
 have aex:∀c y,H c=some (.own y)→c≠x:=fun c y r z=>by subst z;rw[r]at mu;exact mu
 have ak0:∀c xs,H c=some (.tup xs)→c≠x:=fun c xs r z=>by subst z;rw[r]at mu;exact mu
 by_cases hb:b=x
 ·subst hb;rw[d7]at q;cases q;exact new
 ·rw[bA hb]at q
  by_cases hbe:b=e
  ·have q':H b=some (.own x):=by
    rcases he with z | z
    ·exact absurd (hbe.trans z) hb
    ·rw[hbe];exact z
   rw[q]at q';cases q'
   obtain⟨v,hv⟩:=heo
   exact⟨v,by rw[hbe];exact hv⟩
  ·refine(ok b u q).stay (fun c v hc r=>k c v ?_ r) (fun c r=>by rw[bA (aex c b r)];exact r) fun c xs r=>by rw[bA (ak0 c xs r)];exact r
   rcases hc with rfl | hc
   ·exact hbe
   ·rintro rfl
    rcases he with z | z
    ·exact aex c b hc z
    ·rw[hc]at z;cases z;exact hb rfl
end
structure Un(fs ex:List Addr)(H H':Hp)(h h':Heap):Prop where
 keep:∀b o,h.get? b=some o→H b=none→b∉fs→b∉ex→h'.get? b=some o
 slot:∀b o,h.get? b=some o→H b=none→b∈fs→b∉ex→∃sl,h'.get? b=some {o with slots:=sl}
 free:∀b o,h.get? b=some o→H b=none→b∉ex→H' b=none
 there:∀b o,h.get? b=some o→b∉ex→∃o',h'.get? b=some o'
 tups:∀b xs,H b=some (.tup xs)→H' b=some (.tup xs)
 zp:∀b o u,H b=some (.zF o u)→H' b=some (.zF o u)
 zO:∀b ps,H b=some (.Uj ps)→∃more,H' b=some (.Uj (ps++more))
section
variable{fs fs' ex ex':List Addr}{H H1 H2:Hp}{h h1 h2 h':Heap}{a x e:Addr}{o:HO}
theorem Un.any(u:Un fs ex H H1 h h1){b:Addr}{ob:Obj}(q:h.get? b=some ob)(n:H b=none)(hx:b∉ex):∃sl,h1.get? b=some {ob with slots:=sl}:=by
 by_cases hb:b∈fs
 ·exact u.slot b ob q n hb hx
 ·exact⟨ob.slots,u.keep b ob q n hb hx⟩
theorem Un.kept(k:∀b u,h.get? b=some u→h'.get? b=some u):Un fs ex H H h h':=
 ⟨fun b ob q _ _ _=>k b ob q,fun b ob q _ _ _=>⟨ob.slots,k b ob q⟩,fun _ _ _ n _=>n,fun b ob q _=>⟨ob,k b ob q⟩,fun _ _ q=>q,fun _ _ _ q=>q,fun _ ps q=>⟨#[],by rw[q];simp⟩⟩
theorem Un.refl:Un fs ex H H h h:=Un.kept fun _ _ q=>q
theorem Un.laid(k:∀b u,h.get? b=some u→h'.get? b=some u)(hp:h.objs.size≤a)(hn:H a=none):Un fs ex H (upd H a o) h h' where
 keep:=fun b u q _ _ _=>k b u q
 slot:=fun b u q _ _ _=>⟨u.slots,k b u q⟩
 free:=fun b u q n _=>by rw[bA (Nat.ne_of_lt (Nat.lt_of_lt_of_le (Heap.lt_size q) hp))];exact n
 there:=fun b u q _=>⟨u,k b u q⟩
 tups:=fun b xs q=>by rw[bA (dH q hn)];exact q
 zp:=fun b u xs q=>by rw[bA (dH q hn)];exact q
 zO:=fun b ps q=>⟨#[],by rw[bA (dH q hn),q];simp⟩
theorem Un.write(mu:Mut (H x))(he:e=x∨H e=some (.own x))(k:∀b u,b≠e→h.get? b=some u→h'.get? b=some u)(heo:∃u,h'.get? e=some u):Un fs ex H (upd H x o) h h':=by
 have hx:∀b,H b=none→b≠x:=fun b n z=>by subst z;rw[n]at mu;exact mu
 have hb:∀b,H b=none→b≠e:=fun b n z=>by
  subst z
  rcases he with r | r
  ·exact hx b n r
  ·rw[n]at r;cases r
 have hm:∀b u,H b=some u→¬Mut (some u)→b≠x:=fun b u q nm z=>by subst z;rw[q]at mu;exact nm mu
 refine⟨fun b u q n _ _=>k b u (hb b n) q,fun b u q n _ _=>⟨u.slots,k b u (hb b n) q⟩,fun b u q n _=>by rw[bA (hx b n)];exact n,fun b u q _=> ?_,
  fun b xs q=>by rw[bA (hm b _ q fun z=>z)];exact q,fun b u xs q=>by rw[bA (hm b _ q fun z=>z)];exact q,fun b ps q=>⟨#[],by rw[bA (hm b _ q fun z=>z),q];simp⟩⟩
 by_cases hbe:b=e
 ·subst hbe;exact heo
 ·exact⟨u,k b u hbe q⟩
end
def trk(h:Heap)(H:Hp):List Addr:=(List.range h.objs.size).filter fun a=>(H a).isSome
def J4(h:Heap)(H:Hp):Heap:=PySem.W.hideAll h (trk h H)
theorem S7(h:Heap)(H:Hp):(J4 h H).objs.size=h.objs.size:=PySem.W.hideAll_size _ _
theorem Wc{h:Heap}{H:Hp}{b:Addr}{o:Obj}(e:h.get? b=some o)(n:H b=none):(J4 h H).get? b=some o:=
 PySem.W.hideAll_get _ e fun hm=>by
  have q:(H b).isSome=true:=(List.mem_filter.mp hm).2
  rw[n]at q;simp at q
theorem Yl{h:Heap}{H:Hp}{b:Addr}{o:Obj}(e:(J4 h H).get? b=some o):h.get? b=some o∧H b=none:=by
 have e':h.get? b=some o:=PySem.W.of_hideAll (trk h H) e
 refine⟨e',?_⟩
 cases q:H b with
 | none=>rfl
 | some x=>
  have hm:b∈trk h H:=List.mem_filter.mpr ⟨List.mem_range.mpr (Heap.lt_size e'),by simp[q]⟩
  have z:(J4 h H).get? b=none:=PySem.W.hideAll_none (trk h H) hm
  rw[z]at e;cases e
def Zn(g h:Heap)(L:Addr):List (Addr×Obj):=(List.range h.objs.size).filterMap fun a=>if a=L∨(g.get? a).isSome=true then none else(h.get? a).map fun o=>(a,o)
def rest(g h:Heap)(L d:Addr):List (Addr×Obj):=(Zn g h L).filter fun p=>decide (p.1≠d)
end L2
namespace L2
open PySem PySem.Spec PyProof.Rows
structure Mod(K:PySem.W.Frag)(mg:Str→Option Value)(base:Heap):Prop where
 kin:K.In base
 glob:base.Ns mainGlobals mg
 blt:∃mb,base.Ns builtinsNs mb∧∀x:Str,x≠ "__name__" → mb x=bootBuiltins x
 nolimit:base.NoLimit
structure Cx where
 prog:Program
 w:World
 K:PySem.W.Frag
 mg:Str→Option Value
 base:Heap
 A:Around
 N:List Str
 s₀:Shared
 H₀:Hp
 env:Env
 outer:List Env
 stack:List Env
 ex:List Addr
 fn:Str→Bool
 calm:Bool
 pn:List (Addr×Obj)
 xe:Value→Shared→Prop
def frs(l:List Env):List Addr:=l.filterMap (·.frame)
abbrev Cx.fs(X:Cx):List Addr:=frs X.outer
def Vis(sc:Scope)(x:Str):Prop:=sc.names.lookup x=some .local∨sc.names.lookup x=some .cell∨sc.names.lookup x=some .free
def Loc(sc:Scope)(x:Str):Prop:=sc.names.lookup x=some .local∨sc.names.lookup x=some .cell
def Look(env:Env)(h:Heap)(m:Str→Option Value)(x:Str)(u:Value):Prop:=
 (env.kindOf x=some .local∧m x=some u)∨((env.kindOf x=some .cell∨env.kindOf x=some .free)∧∃c,env.cells.lookup x=some c∧h.IsCell c (some u))
structure Cx.Ok(X:Cx):Prop where
 mod:Mod X.K X.mg X.base
 kind:X.env.scope.kind= .function
 glob:X.env.globals=mainGlobals
 blt:X.env.builtins=builtinsNs
 above:X.s₀.heap.objs.size≤X.env.locals
 inj:∀x y c,X.env.cells.lookup x=some c→X.env.cells.lookup y=some c→x=y
 has:∀x,(X.env.kindOf x=some .cell∨X.env.kindOf x=some .free)→∃c,X.env.cells.lookup x=some c
 cab:∀x c,X.fn x=true→X.env.cells.lookup x=some c→X.s₀.heap.objs.size≤c
 hd:X.calm=true→X.A.handled=none
 frames:X.A.frames=some X.stack
 stk:X.stack=X.outer∨(X.stack=X.env::X.outer∧X.env.frame=some X.env.locals)
 YW:∀b∈X.ex,b≠X.env.locals∧∀x c,X.env.cells.lookup x=some c→c≠b
 bs:∀b o,X.base.get? b=some o→X.s₀.heap.get? b=some o∧X.H₀ b=none
 Nh:X.base.objs.size≤X.s₀.heap.objs.size
 JC:∀b o,X.base.get? b=some o→b∉X.ex
 J9:∀b∈X.ex,b∉X.fs
 xU:X.s₀.heap.FunFrames X.base X.outer
 Wk:∀b∈X.fs,X.H₀ b=none
structure Inv(X:Cx)(pins:List (Addr×Obj))(σ:List (Option V))(H:Hp)(s:Shared):Prop where
 ok:X.Ok
 os:s.os=X.s₀.os
 bare:AllBare s.gens
 base:Un X.fs X.ex X.H₀ H X.s₀.heap s.heap
 loc:∃m,s.heap.Ns X.env.locals m∧∀(i:Nat) (x:Str) (v:V),X.N[i]? = some x→σ[i]? = some (some v)→Vis X.env.scope x→∃u,RelV v u∧Look X.env s.heap m x u
 cell:∀x c,X.env.cells.lookup x=some c→∃v,s.heap.IsCell c v
 free:H X.env.locals=none
 oh:∀x c,X.env.cells.lookup x=some c→H c=none
 pin:∀p∈X.pn++pins,s.heap.get? p.1=some p.2∧H p.1=none∧p.1≠X.env.locals∧p.1∉X.fs∧∀v,p.2.data≠ .cell v
 hok:ud X.prog X.w H s.heap
 len:σ.length=X.N.length
section
variable{X:Cx}{pins:List (Addr×Obj)}{σ:List (Option V)}{H H':Hp}{s:Shared}{h':Heap}
theorem Cx.Ok.ak2(ok:X.Ok){b:Addr}{o:Obj}(e:X.base.get? b=some o):b∉X.fs:=fun hb=>by
 have:=(ok.xU.mem hb).1
 rw[e]at this;cases this
theorem Inv.bs(I:Inv X pins σ H s):∀b o,X.base.get? b=some o→s.heap.get? b=some o∧H b=none:=fun b o e=>
 ⟨I.base.keep b o (I.ok.bs b o e).1 (I.ok.bs b o e).2 (I.ok.ak2 e) (I.ok.JC b o e),I.base.free b o (I.ok.bs b o e).1 (I.ok.bs b o e).2 (I.ok.JC b o e)⟩
theorem Inv.bk(I:Inv X pins σ H s):∀b o,X.base.get? b=some o→s.heap.get? b=some o:=fun b o e=>(I.bs b o e).1
theorem Inv.mod(I:Inv X pins σ H s):Mod X.K X.mg X.base:=I.ok.mod
theorem Inv.Cy(I:Inv X pins σ H s):X.K.In s.heap:=I.ok.mod.kin.keeps I.bk
theorem Inv.nolimit(I:Inv X pins σ H s):s.heap.NoLimit:=I.ok.mod.nolimit.keeps I.bk
theorem Inv.fr(I:Inv X pins σ H s):∃m,Fr X.base X.env.locals s.heap m:=
 let⟨m,hn,_⟩:=I.loc
 ⟨m,hn,I.bk,Nat.le_trans I.ok.Nh I.ok.above⟩
theorem Inv.lt(I:Inv X pins σ H s):X.env.locals<s.heap.objs.size:=let⟨_,hn,_⟩:=I.loc;hn.lt
theorem Inv.sz(I:Inv X pins σ H s):X.s₀.heap.objs.size≤s.heap.objs.size:=Nat.le_trans I.ok.above (Nat.le_of_lt I.lt)
theorem Inv.ak1(I:Inv X pins σ H s){a:Addr}(h:s.heap.objs.size≤a):a∉X.fs:=fun hb=>by
 obtain⟨_,o,ho,_⟩:=I.ok.xU.mem hb
 exact absurd (Nat.lt_of_lt_of_le (Heap.lt_size ho) (Nat.le_trans I.sz h)) (Nat.lt_irrefl _)
theorem Inv.Za(I:Inv X pins σ H s):∀x c,X.env.cells.lookup x=some c→c≠X.env.locals:=fun x c e z=>by
 obtain⟨v,o,ho,hd⟩:=I.cell x c e
 obtain⟨m,⟨o',es,ep,ho',hd',_⟩,_⟩:=I.loc
 rw[z,ho']at ho;cases ho;rw[hd']at hd;cases hd
theorem Inv.xU(I:Inv X pins σ H s):s.heap.FunFrames X.base X.outer:=by
 have all:∀(l:List Env),(∀b∈frs l,b∈X.fs)→X.s₀.heap.FunFrames X.base l→s.heap.FunFrames X.base l:=by
  intro l
  induction l with
  | nil=>intro _ _;trivial
  | cons env r ih=>
   intro hs hl
   obtain⟨hk,⟨L,o,hf,hn,ho,hd⟩,hr⟩:=hl
   have hL:L∈X.fs:=hs L (by unfold frs;rw[List.filterMap_cons,hf];exact List.mem_cons_self)
   obtain⟨sl,e⟩:=I.base.slot L o ho (I.ok.Wk L hL) hL fun z=>I.ok.J9 L z hL
   exact⟨hk,⟨L,_,hf,hn,e,hd⟩,ih (fun b hb=>hs b (by unfold frs;rw[List.filterMap_cons,hf];exact List.mem_cons_of_mem _ hb)) hr⟩
 exact all X.outer (fun _ hb=>hb) I.ok.xU
theorem Inv.stack(I:Inv X pins σ H s):s.heap.FunFrames X.base X.stack:=by
 rcases I.ok.stk with e | ⟨e,hf⟩
 ·rw[e];exact I.xU
 ·rw[e]
  obtain⟨m,hn,_⟩:=I.loc
  refine .cons (by rw[I.ok.kind];decide) hf hn ?_ I.xU
  exact Heap.get?_none_of_le (Nat.le_trans I.ok.Nh I.ok.above)
theorem Inv.DW(I:Inv X pins σ H s):∀b∈frs X.stack,b∈X.env.locals::X.fs:=fun b hb=>by
 rcases I.ok.stk with e | ⟨e,hf⟩
 ·rw[e]at hb;exact List.mem_cons_of_mem _ hb
 ·rw[e]at hb
  unfold frs at hb
  rw[List.filterMap_cons,hf]at hb
  exact hb
theorem Inv.zP(I:Inv X pins σ H s):∀b∈frs X.stack,H b=none:=fun b hb=>by
 rcases List.mem_cons.mp (I.DW b hb)with e | hb
 ·rw[e];exact I.free
 ·obtain⟨_,o,ho,_⟩:=I.ok.xU.mem hb
  exact I.base.free b o ho (I.ok.Wk b hb) fun z=>I.ok.J9 b z hb
theorem Inv.step{g':Array GenState}{t':Nat}{d':Drawn}{ch:List Addr}(I:Inv X pins σ H s)
  (hch:∀b∈ch,(b∈X.ex∨X.s₀.heap.objs.size≤b)∧b≠X.env.locals∧(∀x c,X.env.cells.lookup x=some c→c≠b)∧∀p∈X.pn++pins,p.1≠b)
  (keep:∀b o,b≠X.env.locals→b∉X.fs→b∉ch→s.heap.get? b=some o→H b=none→h'.get? b=some o)
  (slot:∀b o,b≠X.env.locals→b∈X.fs→b∉ch→s.heap.get? b=some o→H b=none→∃sl,h'.get? b=some {o with slots:=sl}) (free:∀b o,b∉ch→s.heap.get? b=some o→H b=none→H' b=none)
  (there:∀b o,b∉ch→s.heap.get? b=some o→∃o',h'.get? b=some o')
  (tups:∀b xs,H b=some (.tup xs)→H' b=some (.tup xs)) (zp:∀b o u,H b=some (.zF o u)→H' b=some (.zF o u)) (zO:∀b ps,H b=some (.Uj ps)→∃more,H' b=some (.Uj (ps++more)))
  (ns:∀m,s.heap.Ns X.env.locals m→h'.Ns X.env.locals m) (hok:ud X.prog X.w H' h') (hg:AllBare g'):
  Inv X pins σ H' {s with heap:=h',gens:=g',drawn:=d',toks:=t'}:=by
 have neL:∀b o,X.s₀.heap.get? b=some o→b≠X.env.locals:=fun b o e=>Nat.ne_of_lt (Nat.lt_of_lt_of_le (Heap.lt_size e) I.ok.above)
 have VH:∀b o,X.s₀.heap.get? b=some o→b∉X.ex→b∉ch:=fun b o e hx hb=>by
  rcases(hch b hb).1 with z | z
  ·exact hx z
  ·exact absurd (Nat.lt_of_lt_of_le (Heap.lt_size e) z) (Nat.lt_irrefl _)
 have cellK:∀x c,X.env.cells.lookup x=some c→∀v,s.heap.IsCell c v→h'.IsCell c v:=fun x c e v ⟨o,ho,hd⟩=>by
  have nch:c∉ch:=fun z=>(hch c z).2.2.1 x c e rfl
  by_cases hc:c∈X.fs
  ·obtain⟨sl,q⟩:=slot c o (I.Za x c e) hc nch ho (I.oh x c e)
   exact⟨_,q,hd⟩
  ·exact⟨o,keep c o (I.Za x c e) hc nch ho (I.oh x c e),hd⟩
 refine⟨I.ok,I.os,hg,⟨fun b o e n hb hx=> ?_,fun b o e n hb hx=> ?_,fun b o e n hx=> ?_,fun b o e hx=> ?_,fun b xs e=>tups b xs (I.base.tups b xs e),fun b o xs e=>zp b o xs (I.base.zp b o xs e),fun b ps e=> ?_⟩,?_,fun x c e=> ?_,?_,fun x c e=> ?_,fun p hp=> ?_,hok,I.len⟩
 ·exact keep b o (neL b o e) hb (VH b o e hx) (I.base.keep b o e n hb hx) (I.base.free b o e n hx)
 ·obtain⟨sl,e1⟩:=I.base.slot b o e n hb hx
  obtain⟨sl',e2⟩:=slot b _ (neL b o e) hb (VH b o e hx) e1 (I.base.free b o e n hx)
  exact⟨sl',e2⟩
 ·obtain⟨o',e1⟩:=I.base.there b o e hx
  exact free b o' (VH b o e hx) e1 (I.base.free b o e n hx)
 ·obtain⟨o',e1⟩:=I.base.there b o e hx
  exact there b o' (VH b o e hx) e1
 ·obtain⟨m1,e1⟩:=I.base.zO b ps e
  obtain⟨m2,e2⟩:=zO b _ e1
  exact⟨m1++m2,by rw[e2,Array.append_assoc]⟩
 ·obtain⟨m,hn,hl⟩:=I.loc
  refine⟨m,ns m hn,fun i x v e1 e2 e3=> ?_⟩
  obtain⟨u,r,l⟩:=hl i x v e1 e2 e3
  refine⟨u,r,?_⟩
  rcases l with l | ⟨k,c,e,z⟩
  ·exact .inl l
  ·exact .inr ⟨k,c,e,cellK x c e _ z⟩
 ·obtain⟨v,z⟩:=I.cell x c e
  exact⟨v,cellK x c e v z⟩
 ·obtain⟨m,⟨o,_,_,ho,_⟩,_⟩:=I.loc
  exact free _ o (fun z=>(hch _ z).2.1 rfl) ho I.free
 ·obtain⟨v,o,ho,hd⟩:=I.cell x c e
  exact free c o (fun z=>(hch c z).2.2.1 x c e rfl) ho (I.oh x c e)
 ·obtain⟨e,n,ne,nf,d⟩:=I.pin p hp
  have nch:p.1∉ch:=fun z=>(hch p.1 z).2.2.2 p hp rfl
  exact⟨keep p.1 p.2 ne nf nch e n,free p.1 p.2 nch e n,ne,nf,d⟩
theorem Inv.un{t':Nat}(I:Inv X pins σ H s)(u:Un X.fs [] H H' s.heap h')(hok:ud X.prog X.w H' h'):Inv X pins σ H' {s with heap:=h',toks:=t'}:=by
 obtain⟨m,⟨o,es,ep,ho,r⟩,_⟩:=id I.loc
 obtain⟨sl,hL⟩:=u.any ho I.free (by simp)
 exact I.step (g':=s.gens) (d':=s.drawn) (ch:=[]) (fun _ z=>nomatch z) (fun b o _ hb _ e n=>u.keep b o e n hb (by simp)) (fun b o _ hb _ e n=>u.slot b o e n hb (by simp)) (fun b o _ e n=>u.free b o e n (by simp)) (fun b o _ e=>u.there b o e (by simp)) u.tups u.zp u.zO (fun m' hm=>by
  obtain⟨o',es',ep',ho',r'⟩:=hm
  rw[ho]at ho';cases ho'
  exact⟨_,es',ep',hL,r'⟩) hok I.bare
theorem Inv.call{g':Array GenState}{t':Nat}{d':Drawn}{ch:List Addr}(I:Inv X pins σ H s)(u:Un (frs X.stack) ch H H' s.heap h')(hok:ud X.prog X.w H' h')(hg:AllBare g')
  (hch:∀b∈ch,(b∈X.ex∨X.s₀.heap.objs.size≤b)∧b≠X.env.locals∧(∀x c,X.env.cells.lookup x=some c→c≠b)∧∀p∈X.pn++pins,p.1≠b):
  Inv X pins σ H' {s with heap:=h',gens:=g',drawn:=d',toks:=t'}:=by
 obtain⟨m,⟨o,es,ep,ho,r⟩,_⟩:=id I.loc
 obtain⟨sl,hL⟩:=u.any ho I.free fun z=>(hch _ z).2.1 rfl
 exact I.step (ch:=ch) hch (fun b o hL hb hc e n=>u.keep b o e n (fun z=>(List.mem_cons.mp (I.DW b z)).elim hL hb) hc) (fun b o _ _ hc e n=>u.any e n hc) (fun b o hc e n=>u.free b o e n hc) (fun b o hc e=>u.there b o e hc) u.tups u.zp u.zO (fun m' hm=>by
  obtain⟨o',es',ep',ho',r'⟩:=hm
  rw[ho]at ho';cases ho'
  exact⟨_,es',ep',hL,r'⟩) hok hg
theorem Inv.turned{t':Nat}{it:Addr}(I:Inv X pins σ H s)(k:∀b o,b≠it→s.heap.get? b=some o→h'.get? b=some o)(hn:H it=none)(hL:it≠X.env.locals)
  (h1:it∈X.ex∨X.s₀.heap.objs.size≤it) (h2:∀x c,X.env.cells.lookup x=some c→c≠it) (h3:∀p∈X.pn++pins,p.1≠it):Inv X pins σ H {s with heap:=h',toks:=t'}:=by
 have nit:∀b u,H b=some u→b≠it:=fun b u e z=>by rw[z,hn]at e;cases e
 refine I.step (g':=s.gens) (d':=s.drawn) (ch:=[it]) (fun b hb=> ?_) (fun b o _ _ hc e _=>k b o (fun z=>hc (by simp[z])) e) (fun b o _ _ hc e _=>⟨o.slots,k b o (fun z=>hc (by simp[z])) e⟩) (fun _ _ _ _ n=>n)
  (fun b o hc e=>⟨o,k b o (fun z=>hc (by simp[z])) e⟩) (fun _ _ e=>e) (fun _ _ _ e=>e) (fun b ps e=>⟨#[],by rw[e];simp⟩) (fun m hm=> ?_) (fun b u e=> ?_) I.bare
 ·have e:b=it:=by simpa using hb
  subst e
  exact⟨h1,hL,h2,h3⟩
 ·obtain⟨o,es,ep,ho,r⟩:=hm
  exact⟨o,es,ep,k _ o (Ne.symm hL) ho,r⟩
 ·refine(I.hok b u e).stay (fun c v hc q=>k c v ?_ q) (fun _ q=>q) fun _ _ q=>q
  rcases hc with z | z
  ·rw[z];exact nit b u e
  ·exact nit c _ z
theorem Inv.tok(I:Inv X pins σ H s)(t:Nat):Inv X pins σ H {s with toks:=t}:=I.un (h':=s.heap) (t':=t) Un.refl I.hok
theorem Inv.kept{t':Nat}(I:Inv X pins σ H s)(k:∀b u,s.heap.get? b=some u→h'.get? b=some u):Inv X pins σ H {s with heap:=h',toks:=t'}:=I.un (Un.kept k) (I.hok.kept k)
theorem Inv.laid{a:Addr}{o:HO}{t':Nat}(I:Inv X pins σ H s)(k:∀b u,s.heap.get? b=some u→h'.get? b=some u)(hp:s.heap.objs.size≤a)(new:jn X.prog X.w (upd H a o) h' a o):
  Inv X pins σ (upd H a o) {s with heap:=h',toks:=t'}:=I.un (Un.laid k hp (I.hok.fresh hp)) (I.hok.laid k hp new)
theorem Inv.write{x e:Addr}{o:HO}{t':Nat}(I:Inv X pins σ H s)(mu:Mut (H x))(he:e=x∨H e=some (.own x))(k:∀b u,b≠e→s.heap.get? b=some u→h'.get? b=some u)(heo:∃u,h'.get? e=some u)
  (new:jn X.prog X.w (upd H x o) h' x o):Inv X pins σ (upd H x o) {s with heap:=h',toks:=t'}:=I.un (Un.write mu he k heo) (I.hok.write mu he k heo new)
theorem Inv.weak{σ':List (Option V)}(I:Inv X pins σ H s)(hl:σ'.length=σ.length)(w:∀(i:Nat) v,σ'[i]? = some (some v)→σ[i]? = some (some v)):Inv X pins σ' H s:=
 ⟨I.ok,I.os,I.bare,I.base,let⟨m,hn,hl'⟩:=I.loc;⟨m,hn,fun i x v e1 e2 e3=>hl' i x v e1 (w i v e2) e3⟩,I.cell,I.free,I.oh,I.pin,I.hok,hl.trans I.len⟩
theorem Inv.vD{tV:List (Addr×Obj)}(I:Inv X pins σ H s)(h:∀p∈tV,s.heap.get? p.1=some p.2∧H p.1=none∧p.1≠X.env.locals∧p.1∉X.fs∧∀v,p.2.data≠ .cell v):Inv X tV σ H s:=
 ⟨I.ok,I.os,I.bare,I.base,I.loc,I.cell,I.free,I.oh,fun p hp=>(List.mem_append.mp hp).elim (fun z=>I.pin p (List.mem_append_left _ z)) (h p),I.hok,I.len⟩
theorem EY{N:List Str}(hN:N.Nodup){i j:Nat}{x:Str}(a:N[i]? = some x)(b:N[j]? = some x):i=j:=by
 obtain⟨h1,e1⟩:=List.getElem?_eq_some_iff.mp a
 obtain⟨h2,e2⟩:=List.getElem?_eq_some_iff.mp b
 exact(List.getElem_inj hN).mp (e1.trans e2.symm)
theorem Bd{M:Model}{A:Around}{E:Value→Shared→Prop}{i:Nat}{x:Str}{v:V}{u:Value}{Q:Unit→Shared→Prop}(I:Inv X pins σ H s)(hN:X.N.Nodup)(hi:X.N[i]? = some x)(hx:Loc X.env.scope x)(r:RelV v u)
  (h:∀s',Inv X pins (σ.set i (some v)) H s'→(∃a,Heap.SameBut a s.heap s'.heap∧(a=X.env.locals∨X.env.cells.lookup x=some a))→Q () s') (hf:X.fn x=true∨X.env.scope.names.lookup x=some .local:=by first | exact .inl rfl | exact .inr rfl | assumption):wpAny M A (storeName X.env x u) Q E s:=by
 obtain⟨m,hn,hl⟩:=id I.loc
 have hcls:(X.env.scope.kind== .class||(X.env.scope.kind== .module&&X.env.locals != X.env.globals))=false:=by rw[I.ok.kind];rfl
 have afx:i<σ.length:=by rw[I.len];exact(List.getElem?_eq_some_iff.mp hi).1
 have Za:=I.Za
 have tracked:∀{a:Addr} {h':Heap},(∃o,s.heap.get? a=some o∧H a=none)→Heap.SameBut a s.heap h'→ud X.prog X.w H h':=fun{a h'} ha hs b ob e=>by
  obtain⟨_,_,hfree⟩:=ha
  refine(I.hok b ob e).stay (fun c w' hc q=>(hs.2 c ?_).trans q) (fun _ q=>q) fun _ _ q=>q
  rintro rfl
  rcases hc with rfl | hc
  ·rw[hfree]at e;cases e
  ·rw[hfree]at hc;cases hc
 rcases hx with hk | hk
 ·refine wpAny_storeName_local hk hn (fun h' hn' hs=> ?_) hcls
  obtain⟨oL,_,_,hoL,_⟩:=id hn
  refine h _ ⟨I.ok,I.os,I.bare,⟨fun b o e n hb hx=> ?_,fun b o e n hb hx=> ?_,I.base.free,fun b o e hx=> ?_,I.base.tups,I.base.zp,I.base.zO⟩,⟨_,hn',fun j y v' e1 e2 e3=> ?_⟩,fun y c e=> ?_,I.free,I.oh,fun p hp=> ?_,tracked ⟨oL,hoL,I.free⟩ hs,by simpa using I.len⟩ ⟨_,hs,.inl rfl⟩
  ·exact(hs.2 b (Nat.ne_of_lt (Nat.lt_of_lt_of_le (Heap.lt_size e) I.ok.above))).trans (I.base.keep b o e n hb hx)
  ·obtain⟨sl,e1⟩:=I.base.slot b o e n hb hx
   exact⟨sl,(hs.2 b (Nat.ne_of_lt (Nat.lt_of_lt_of_le (Heap.lt_size e) I.ok.above))).trans e1⟩
  ·obtain⟨o',e1⟩:=I.base.there b o e hx
   exact⟨o',(hs.2 b (Nat.ne_of_lt (Nat.lt_of_lt_of_le (Heap.lt_size e) I.ok.above))).trans e1⟩
  ·by_cases hj:j=i
   ·subst hj
    rw[hi]at e1;cases e1
    rw[List.getElem?_set_self afx]at e2
    cases e2
    exact⟨u,r,.inl ⟨hk,by simp⟩⟩
   ·rw[List.getElem?_set_ne (Ne.symm hj)]at e2
    obtain⟨u',r',q⟩:=hl j y v' e1 e2 e3
    refine⟨u',r',?_⟩
    rcases q with⟨k,e⟩ | ⟨k,c,e,z⟩
    ·refine .inl ⟨k,?_⟩
     have:y≠x:=fun e=>hj (EY hN e1 (e▸hi))
     simp[this,e]
    ·exact .inr ⟨k,c,e,z.sameBut hs (Za y c e)⟩
  ·obtain⟨w',z⟩:=I.cell y c e
   exact⟨w',z.sameBut hs (Za y c e)⟩
  ·obtain⟨e,n,ne,nf,d⟩:=I.pin p hp
   exact⟨(hs.2 p.1 ne).trans e,n,ne,nf,d⟩
 ·have hfn:X.fn x=true:=by
   rcases hf with z | z
   ·exact z
   ·rw[z]at hk;cases hk
  obtain⟨c,hc⟩:=I.ok.has x (.inl hk)
  obtain⟨w',z⟩:=I.cell x c hc
  refine wpAny_storeName_cell I.ok.kind hk hc z (fun h' hc' hs=> ?_)
  obtain⟨oc,hoc,alx⟩:=id z
  refine h {s with heap:=h'} ⟨I.ok,I.os,I.bare,⟨fun b o e n hb hx=> ?_,fun b o e n hb hx=> ?_,I.base.free,fun b o e hx=> ?_,I.base.tups,I.base.zp,I.base.zO⟩,⟨m,hn.sameBut hs (Ne.symm (Za x c hc)),fun j y v' e1 e2 e3=> ?_⟩,fun y c' e=> ?_,I.free,I.oh,fun p hp=> ?_,tracked ⟨oc,hoc,I.oh x c hc⟩ hs,by simpa using I.len⟩ ⟨c,hs,.inr hc⟩
  ·exact(hs.2 b (Nat.ne_of_lt (Nat.lt_of_lt_of_le (Heap.lt_size e) (I.ok.cab x c hfn hc)))).trans (I.base.keep b o e n hb hx)
  ·obtain⟨sl,e1⟩:=I.base.slot b o e n hb hx
   exact⟨sl,(hs.2 b (Nat.ne_of_lt (Nat.lt_of_lt_of_le (Heap.lt_size e) (I.ok.cab x c hfn hc)))).trans e1⟩
  ·obtain⟨o',e1⟩:=I.base.there b o e hx
   exact⟨o',(hs.2 b (Nat.ne_of_lt (Nat.lt_of_lt_of_le (Heap.lt_size e) (I.ok.cab x c hfn hc)))).trans e1⟩
  ·by_cases hj:j=i
   ·subst hj
    rw[hi]at e1;cases e1
    rw[List.getElem?_set_self afx]at e2
    cases e2
    exact⟨u,r,.inr ⟨.inl hk,c,hc,hc'⟩⟩
   ·rw[List.getElem?_set_ne (Ne.symm hj)]at e2
    obtain⟨u',r',q⟩:=hl j y v' e1 e2 e3
    refine⟨u',r',?_⟩
    rcases q with q | ⟨k,c',e,z'⟩
    ·exact .inl q
    ·refine .inr ⟨k,c',e,z'.sameBut hs ?_⟩
     rintro rfl
     exact hj (EY hN e1 (I.ok.inj _ _ _ e hc▸hi))
  ·by_cases hcc:c'=c
   ·subst hcc;exact⟨_,hc'⟩
   ·obtain⟨w2,z2⟩:=I.cell y c' e
    exact⟨w2,z2.sameBut hs hcc⟩
  ·obtain⟨e,n,ne,nf,d⟩:=I.pin p hp
   refine⟨(hs.2 p.1 ?_).trans e,n,ne,nf,d⟩
   intro q
   rw[q,hoc]at e
   have q':oc=p.2:=Option.some.inj e
   exact d w' (by rw[←q'];exact alx)
theorem uA{M:Model}{A:Around}{E:Value→Shared→Prop}{i:Nat}{x:Str}{v:V}{u:Value}{Q:Unit→Shared→Prop}(I:Inv X pins σ H s)(hN:X.N.Nodup)(hi:X.N[i]? = some x)(hx:Loc X.env.scope x)(r:RelV v u)
  (h:∀s',Inv X pins (σ.set i (some v)) H s'→Q () s') (hf:X.fn x=true∨X.env.scope.names.lookup x=some .local:=by first | exact .inl rfl | exact .inr rfl | assumption):wpAny M A (storeName X.env x u) Q E s:=
 Bd I hN hi hx r (fun s' I' _=>h s' I') hf
theorem Inv.call'{s':Shared}{ch:List Addr}(I:Inv X pins σ H s)(ho:s'.os=s.os)(u:Un (frs X.stack) ch H H' s.heap s'.heap)(hok:ud X.prog X.w H' s'.heap)(hg:AllBare s'.gens)
  (hch:∀b∈ch,(b∈X.ex∨X.s₀.heap.objs.size≤b)∧b≠X.env.locals∧(∀x c,X.env.cells.lookup x=some c→c≠b)∧∀p∈X.pn++pins,p.1≠b):Inv X pins σ H' s':=by
 obtain⟨h',g',d',t',o'⟩:=s'
 have e:o'=s.os:=ho
 subst e
 exact I.call (g':=g') (t':=t') (d':=d') u hok hg hch
end
abbrev XK:=Value→Option Addr→Hp→Prop
abbrev St:=List (Option V)
abbrev VK:=V→Hp→Prop
abbrev TE:=St→Hp→VK→Prop
abbrev TT:=St→Hp→(Bool→Hp→Prop)→Prop
abbrev TA:=St→Hp→(List V→Hp→Prop)→Prop
structure Ends where
 nx:St→Hp→Prop
 rt:VK
 bk:St→Hp→Prop:=fun _ _=>False
 ct:St→Hp→Prop:=fun _ _=>False
abbrev TS:=Ends→St→Hp→Prop
def EP(X:Cx)(pins:List (Addr×Obj))(σ:St)(Q:VK)(u:Value)(s':Shared):Prop:=∃v H',Inv X pins σ H' s'∧RelV v u∧Q v H'
def TP(X:Cx)(pins:List (Addr×Obj))(σ:St)(Q:Bool→Hp→Prop)(b:Bool)(s':Shared):Prop:=∃H',Inv X pins σ H' s'∧Q b H'
def AP(X:Cx)(pins:List (Addr×Obj))(σ:St)(Q:List V→Hp→Prop)(us:List Value)(s':Shared):Prop:=∃vs H',Inv X pins σ H' s'∧Vals vs us∧Q vs H'
def SP(X:Cx)(pins:List (Addr×Obj))(D:Ends)(f:Flow)(s':Shared):Prop:=
 match f with
 | .next=>∃σ' H',Inv X pins σ' H' s'∧D.nx σ' H'
 | .brk=>∃σ' H',Inv X pins σ' H' s'∧D.bk σ' H'
 | .cont=>∃σ' H',Inv X pins σ' H' s'∧D.ct σ' H'
 | .ret u=>∃v σ' H',Inv X pins σ' H' s'∧RelV v u∧D.rt v H'
def PE(X:Cx)(e:Expr)(t:TE):Prop:=
 ∀(pins:List (Addr×Obj)) (s:Shared) (σ:St) (H:Hp) (Q:VK),Inv X pins σ H s→t σ H Q→wpAny (model X.prog X.w) X.A (eval e X.env) (EP X pins σ Q) X.xe s
def PT(X:Cx)(e:Expr)(t:TT):Prop:=
 ∀(pins:List (Addr×Obj)) (s:Shared) (σ:St) (H:Hp) (Q:Bool→Hp→Prop),Inv X pins σ H s→t σ H Q→wpAny (model X.prog X.w) X.A (isTrue e X.env (eval e X.env)) (TP X pins σ Q) X.xe s
def PW(X:Cx)(e:Expr)(t:TT):Prop:=
 ∀(whole:Sem Value) (pins:List (Addr×Obj)) (s:Shared) (σ:St) (H:Hp) (Q:Bool→Hp→Prop),Inv X pins σ H s→t σ H Q→wpAny (model X.prog X.w) X.A (isTrue e X.env whole) (TP X pins σ Q) X.xe s
theorem PW.pt{X:Cx}{e:Expr}{t:TT}(h:PW X e t):PT X e t:=h _
def PA(X:Cx)(es:List Expr)(t:TA):Prop:=
 ∀(pos:Pos) (pins:List (Addr×Obj)) (s:Shared) (σ:St) (H:Hp) (Q:List V→Hp→Prop),Inv X pins σ H s→t σ H Q→wpAny (model X.prog X.w) X.A (spliced (backTo pos (starEach es X.env))) (AP X pins σ Q) X.xe s
def PS(X:Cx)(st:Stmt)(t:TS):Prop:=
 ∀(pins:List (Addr×Obj)) (s:Shared) (σ:St) (H:Hp) (D:Ends),Inv X pins σ H s→t D σ H→wpAny (model X.prog X.w) X.A (exec st X.env) (SP X pins D) X.xe s
def Dv(X:Cx)(st:List Stmt)(t:TS):Prop:=
 ∀(pins:List (Addr×Obj)) (s:Shared) (σ:St) (H:Hp) (D:Ends),Inv X pins σ H s→t D σ H→wpAny (model X.prog X.w) X.A (execs st X.env) (SP X pins D) X.xe s
theorem jh{α:Type}{t:Sem α}{Q Q':α→Shared→Prop}{M:Model}{A:Around}{E:Value→Shared→Prop}{s:Shared}(h:wpAny M A t Q E s)(hQ:∀a s,Q a s→Q' a s):wpAny M A t Q' E s:=wpAny_mono h hQ fun _ _ x=>x
end L2
namespace L2
open PySem PySem.Spec PyProof.Rows
section
variable{X:Cx}
theorem bin{a b:Expr}{ta tb:TE}(ha:PE X a ta)(hb:PE X b tb){pins:List (Addr×Obj)}{s:Shared}{σ:St}{H:Hp}{R:V→V→Hp→Prop}(I:Inv X pins σ H s)(h:ta σ H fun x H1=>tb σ H1 fun y H2=>R x y H2)
  {α:Type} {Q:α→Shared→Prop} {f:Value→Value→Sem α}
  (hf:∀v u s2 x y H2,Inv X pins σ H2 s2→RelV x v→RelV y u→R x y H2→wpAny (model X.prog X.w) X.A (f v u) Q X.xe s2):
  wpAny (model X.prog X.w) X.A (eval a X.env) (fun v s₁=>wpAny (model X.prog X.w) X.A (eval b X.env) (fun u s₂=>wpAny (model X.prog X.w) X.A (f v u) Q X.xe s₂) X.xe s₁) X.xe s:=by
 refine jh (ha pins s σ H _ I h) fun v s1 ⟨x,H1,I1,r1,q1⟩=> ?_
 refine jh (hb pins s1 σ H1 _ I1 q1) fun u s2 ⟨y,H2,I2,r2,q2⟩=> ?_
 exact hf v u s2 x y H2 I2 r1 r2 q2
def Xo(i:Nat):TE:=fun σ H Q=>∃v,σ[i]? = some (some v)∧Q v H
def tC(v:V):TE:=fun _ H Q=>Q v H
theorem Vo{i:Nat}{x:Str}{pos:Pos}(hN:X.N[i]? = some x)(hv:Vis X.env.scope x)(hd:(x==("__debug__" : Str))=false:=by decide)(hcd:(x==("__classdict__" : Str))=false:=by decide):PE X (.Name x pos) (Xo i):=by
 intro pins s σ H Q I h
 obtain⟨v,e,h⟩:=h
 obtain⟨m,hn,hl⟩:=I.loc
 obtain⟨u,r,l⟩:=hl i x v hN e hv
 have fin:EP X pins σ Q u s:=⟨v,H,I,r,h⟩
 rcases l with⟨hk,hm⟩ | ⟨hk,c,hc,hcell⟩
 ·exact wpAny_Name (wpAny_loadName_local I.ok.kind hk hn hm fin) hd
 ·rcases hk with hk | hk
  ·exact wpAny_Name (wpAny_loadName_cell I.ok.kind hk hc hcell fin) hd
  ·exact wpAny_Name (wpAny_loadName_free I.ok.kind hk hc hcell fin hcd) hd
theorem aaU{i j pos}:PE X (.Constant (.int i) j pos) (tC (.int i)):=fun _ _ _ H _ I h=>wpAny_Constant_int ⟨.int i,H,I.tok _,⟨_,rfl⟩,h⟩
theorem aem{b j pos}:PE X (.Constant (.bool b) j pos) (tC (.bl b)):=fun _ _ _ H _ I h=>Constant_bool ⟨.bl b,H,I,rfl,h⟩
theorem aaS{j pos}:PE X (.Constant .none j pos) (tC .non):=fun _ _ _ H _ I h=>Constant_none ⟨.non,H,I,rfl,h⟩
theorem aaP{x j pos}:PE X (.Constant (.str x) j pos) (tC (.str x)):=fun _ _ _ H _ I h=>Calls.Constant_str ⟨.str x,H,I.tok _,⟨_,rfl⟩,h⟩
def Gl(X:Cx)(x:Str):Prop:=X.env.kindOf x=some .globalImplicit
theorem Ds{E:Value→Shared→Prop}{pins:List (Addr×Obj)}{s:Shared}{σ:St}{H:Hp}{x:Str}{u:Value}{pos:Pos}{Q:Value→Shared→Prop}(I:Inv X pins σ H s)(hg:Gl X x)(hm:X.mg x=some u)(h:Q u s)
  (hd:(x==("__debug__" : Str))=false:=by decide):wpAny (model X.prog X.w) X.A (eval (.Name x pos) X.env) Q E s:=
 Calls.Name_function_global I.ok.kind hg (Calls.loadGlobal_global (by rw[I.ok.glob];exact I.mod.glob.keeps I.bk) hm h) hd
theorem JM{E:Value→Shared→Prop}{pins:List (Addr×Obj)}{s:Shared}{σ:St}{H:Hp}{x:Str}{u:Value}{pos:Pos}{Q:Value→Shared→Prop}(I:Inv X pins σ H s)(hg:Gl X x)(hm:X.mg x=none)(hv:bootBuiltins x=some u)(h:Q u s)
  (hn:x≠ "__name__" := by decide) (hd:(x==("__debug__" : Str))=false:=by decide):wpAny (model X.prog X.w) X.A (eval (.Name x pos) X.env) Q E s:=by
 obtain⟨mb,h1,h2⟩:=I.mod.blt
 exact Calls.Name_function_global I.ok.kind hg (Calls.loadGlobal_builtin (by rw[I.ok.glob];exact I.mod.glob.keeps I.bk) hm (by rw[I.ok.blt];exact h1.keeps I.bk) ((h2 x hn).trans hv) h) hd
theorem Dp{x:Str}{v:V}{u:Value}{pos:Pos}(hg:Gl X x)(hm:X.mg x=some u)(r:RelV v u)(hd:(x==("__debug__" : Str))=false:=by decide):PE X (.Name x pos) (tC v):=
 fun _ _ _ H _ I h=>Ds I hg hm ⟨v,H,I,r,h⟩ hd
variable{a b:Expr}{ta tb:TE}{pos:Pos}
def PC(X:Cx)(op:CmpOp)(a b:Expr)(t:TE):Prop:=
 ∀(pins:List (Addr×Obj)) (s:Shared) (σ:St) (H:Hp) (Q:VK),Inv X pins σ H s→t σ H Q→
  wpAny (model X.prog X.w) X.A (eval a X.env) (fun v s₁=>wpAny (model X.prog X.w) X.A (eval b X.env) (fun u s₂=>wpAny (model X.prog X.w) X.A (compareOp op v u) (EP X pins σ Q) X.xe s₂) X.xe s₁) X.xe s
theorem VD(b:Expr){op:CmpOp}(h:op≠ .In)(h2:op≠ .NotIn):behindInMarks op b=false:=by
 have e1:(op==CmpOp.In)=false:=by cases op<;>first | rfl | exact absurd rfl h
 have e2:(op==CmpOp.NotIn)=false:=by cases op<;>first | rfl | exact absurd rfl h2
 cases b<;>simp[behindInMarks,e1,e2]
def tB(t:TE):TT:=fun σ H Q=>t σ H fun x H1=>∃c,x= .bl c∧Q c H1
theorem aj8{op:CmpOp}{t:TE}(h:PC X op a b t)(h1:behindInMarks op b=false:=by first | exact VD _ (by decide) (by decide) | rfl):PT X (.Compare a [op] [b] pos) (tB t):=by
 intro pins s σ H Q I hw
 refine wpAny_isTrue_Compare1 (jh (h pins s σ H _ I hw) fun v s1 h1=>jh h1 fun u s2 h2=>jh h2 fun c s3 ⟨x,H1,I1,r1,q1⟩=> ?_) h1
 obtain⟨d,rfl,q⟩:=q1
 cases r1
 exact wpAny_truthy_bool ⟨H1,I1,q⟩
theorem aaF{e:Expr}{t:TE}(h:PE X e t)(he:∀whole,isTrue e X.env whole=(do let v ←whole;standAt e.pos;holding [v] (truthy v)):=by intro _;rfl):PT X e (tB t):=by
 intro pins s σ H Q I hw
 refine isTrue_plain (jh (h pins s σ H _ I hw) fun v s1 ⟨x,H1,I1,r1,q1⟩=> ?_) (he _)
 obtain⟨d,rfl,q⟩:=q1
 cases r1
 exact wpAny_truthy_bool ⟨H1,I1,q⟩
variable{tA tB':TT}{rest:List Expr}
def ajr(t u:TT):TT:=fun σ H Q=>t σ H fun c H1=>if c=true then u σ H1 Q else Q false H1
def tOr(t u:TT):TT:=fun σ H Q=>t σ H fun c H1=>if c=true then Q true H1 else u σ H1 Q
def ajl(t:TT):TT:=fun σ H Q=>t σ H fun c H1=>Q (!c) H1
theorem XQ(ha:PT X a tA):PW X (.BoolOp .And [a] pos) tA:=by
 intro wh pins s σ H Q I h
 refine isTrue_and (jh (ha pins s σ H Q I h) fun c s1 e=> ?_)
 cases c with
 | true=>exact isTrue_and_nil e
 | false=>exact e
theorem aaD(ha:PT X a tA):PW X (.BoolOp .Or [a] pos) tA:=by
 intro wh pins s σ H Q I h
 refine isTrue_or (jh (ha pins s σ H Q I h) fun c s1 e=> ?_)
 cases c with
 | false=>exact isTrue_or_nil e
 | true=>exact e
theorem aaE(ha:PT X a tA)(hb:PW X (.BoolOp .And (b::rest) pos) tB'):PW X (.BoolOp .And (a::b::rest) pos) (ajr tA tB'):=by
 intro wh pins s σ H Q I h
 refine isTrue_and (jh (ha pins s σ H _ I h) fun c s1 ⟨H1,I1,q1⟩=> ?_)
 cases c with
 | true=>exact hb wh pins s1 σ H1 Q I1 q1
 | false=>exact⟨H1,I1,q1⟩
theorem adP(ha:PT X a tA)(hb:PW X (.BoolOp .Or (b::rest) pos) tB'):PW X (.BoolOp .Or (a::b::rest) pos) (tOr tA tB'):=by
 intro wh pins s σ H Q I h
 refine isTrue_or (jh (ha pins s σ H _ I h) fun c s1 ⟨H1,I1,q1⟩=> ?_)
 cases c with
 | true=>exact⟨H1,I1,q1⟩
 | false=>exact hb wh pins s1 σ H1 Q I1 q1
theorem aaG(ha:PT X a tA):PT X (.UnaryOp .Not a pos) (ajl tA):=by
 intro pins s σ H Q I h
 exact isTrue_not (ha pins s σ H (fun c H1=>Q (!c) H1) I h)
def adn(ta tb:TE):TE:=fun σ H Q=>ta σ H fun x H1=>∃c,x= .bl c∧if c=true then tb σ H1 Q else Q (.bl false) H1
def ajk(ta tb:TE):TE:=fun σ H Q=>ta σ H fun x H1=>∃c,x= .bl c∧if c=true then Q (.bl true) H1 else tb σ H1 Q
def adf(ta:TE):TE:=fun σ H Q=>ta σ H fun x H1=>∃c,x= .bl c∧Q (.bl (!c)) H1
theorem aaQ{op}{t:TE}(h:PE X a t):PE X (.BoolOp op [a] pos) t:=fun pins s σ H Q I hw=>BoolOp_one (h pins s σ H Q I hw)
theorem aaW(ha:PE X a ta)(hb:PE X (.BoolOp .And (b::rest) pos) tb):PE X (.BoolOp .And (a::b::rest) pos) (adn ta tb):=by
 intro pins s σ H Q I h
 refine BoolOp_and (jh (ha pins s σ H _ I h) fun v s1 ⟨x,H1,I1,r1,q1⟩=> ?_)
 obtain⟨c,rfl,q1⟩:=q1
 cases r1
 refine wpAny_truthy_bool ?_
 cases c with
 | true=>exact hb pins s1 σ H1 Q I1 q1
 | false=>exact⟨.bl false,H1,I1,rfl,q1⟩
theorem aei(ha:PE X a ta)(hb:PE X (.BoolOp .Or (b::rest) pos) tb):PE X (.BoolOp .Or (a::b::rest) pos) (ajk ta tb):=by
 intro pins s σ H Q I h
 refine BoolOp_or (jh (ha pins s σ H _ I h) fun v s1 ⟨x,H1,I1,r1,q1⟩=> ?_)
 obtain⟨c,rfl,q1⟩:=q1
 cases r1
 refine wpAny_truthy_bool ?_
 cases c with
 | false=>exact hb pins s1 σ H1 Q I1 q1
 | true=>exact⟨.bl true,H1,I1,rfl,q1⟩
theorem aaR(ha:PE X a ta):PE X (.UnaryOp .Not a pos) (adf ta):=by
 intro pins s σ H Q I h
 refine UnaryOp_ (jh (ha pins s σ H _ I h) fun v s1 ⟨x,H1,I1,r1,q1⟩=> ?_)
 obtain⟨c,rfl,q1⟩:=q1
 cases r1
 exact not_of (wpAny_truthy_bool ⟨.bl (!c),H1,I1,rfl,q1⟩)
def tIf(t:TT)(ta tb:TE):TE:=fun σ H Q=>t σ H fun c H1=>if c=true then ta σ H1 Q else tb σ H1 Q
theorem Vs{c:Expr}(hc:PT X c tA)(ha:PE X a ta)(hb:PE X b tb):PE X (.IfExp c a b pos) (tIf tA ta tb):=by
 intro pins s σ H Q I h
 refine wpAny_IfExp (jh (hc pins s σ H _ I h) fun d s1 ⟨H1,I1,q1⟩=> ?_)
 cases d with
 | true=>exact ha pins s1 σ H1 Q I1 q1
 | false=>exact hb pins s1 σ H1 Q I1 q1
end
end L2
namespace L2
open PySem PySem.Spec PyProof.Rows
def yQ(K:PySem.W.Frag)(H:Hp)(a:Addr)(xs:List V):Prop:=
 Rd H a (.lst xs)∨
  ∃(o:Obj) (its:Array Value) (n:Nat),K.lookup a=some o∧o.cls= .type "list" ∧ o.dict=none∧o.data= .seq its n∧its.size≤sizeLine∧Vals xs its.toList
def wM(K:PySem.W.Frag)(H:Hp)(a:Addr)(xs:List V):Prop:=
 Rd H a (.tup xs)∨
  ∃(o:Obj) (its:Array Value) (n:Nat),K.lookup a=some o∧o.cls= .type "tuple" ∧ o.data= .seq its n∧its.size≤sizeLine∧Vals xs its.toList
def al0:Value→Option V
 | .none=>some .non
 | .bool b=>some (.bl b)
 | .int i _=>some (.int i)
 | .str x _=>some (.str x)
 | .bytes b _=>some (.byt b)
 | .float b _=>some (.flt b)
 | .ref a=>some (.ref a)
 | .type n=>some (.ty n)
 | _=>none
theorem RelV.abs{x:V}{u:Value}(r:RelV x u):al0 u=some x:=by
 cases x with
 | non=>cases r;rfl
 | bl _=>cases r;rfl
 | int _=>obtain⟨t,rfl⟩:=r;rfl
 | str _=>obtain⟨t,rfl⟩:=r;rfl
 | byt _=>obtain⟨t,rfl⟩:=r;rfl
 | flt _=>obtain⟨t,rfl⟩:=r;rfl
 | ref _=>cases r;rfl
 | ty _=>cases r;rfl
theorem RelV.inj{x y:V}{u:Value}(r:RelV x u)(q:RelV y u):x=y:=Option.some.inj (r.abs.symm.trans q.abs)
theorem Vals.inj:∀{xs ys:List V} {us:List Value},Vals xs us→Vals ys us→xs=ys
 | _,_,_,.nil,.nil=>rfl
 | _,_,_,.cons r t,.cons r' t'=>by rw[r.inj r',Vals.inj t t']
section
variable{X:Cx}{pins:List (Addr×Obj)}{σ:St}{H:Hp}{s:Shared}{a:Addr}{xs ys:List V}
theorem yQ.of{K:PySem.W.Frag}(h:H a=some (.lst xs)):yQ K H a xs:= .inl (.inl h)
theorem wM.of{K:PySem.W.Frag}(h:H a=some (.tup xs)):wM K H a xs:= .inl (.inl h)
theorem Inv.list(I:Inv X pins σ H s)(h:yQ X.K H a xs):∃its:List Value,Vals xs its∧PlainL s.heap a its.toArray∧xs.length≤sizeLine:=by
 rcases h with h | ⟨o,its,n,hk,hc,hd,hs,hz,r⟩
 ·obtain⟨z,its,n,r,e⟩:=h.ok I.hok
  exact⟨its,r,⟨_,n,e,rfl,rfl,rfl⟩,z⟩
 ·refine⟨its.toList,r,⟨o,n,I.Cy a o hk,hc,hd,by simpa using hs⟩,?_⟩
  have e:=r.length
  simp only[Array.length_toList]at e
  omega
theorem Inv.tuple(I:Inv X pins σ H s)(h:wM X.K H a xs):∃its:List Value,Vals xs its∧IsTup s.heap a its.toArray∧xs.length≤sizeLine:=by
 rcases h with h | ⟨o,its,n,hk,hc,hs,hz,r⟩
 ·obtain⟨z,its,r,p⟩:=h.ok I.hok
  exact⟨its,r,p,z⟩
 ·refine⟨its.toList,r,⟨o,I.Cy a o hk,hc,n,by simpa using hs⟩,?_⟩
  have e:=r.length
  simp only[Array.length_toList]at e
  omega
theorem Inv.Lz(I:Inv X pins σ H s)(h:yQ X.K H a xs)(h':yQ X.K H a ys):xs=ys:=by
 obtain⟨its,r,⟨o,n,e,_,_,d⟩,_⟩:=I.list h
 obtain⟨its',r',⟨o',n',e',_,_,d'⟩,_⟩:=I.list h'
 rw[e]at e';cases e'
 rw[d]at d'
 injection d' with d1 _
 have:its=its':=by simpa using congrArg Array.toList d1
 subst this
 exact r.inj r'
theorem Inv.G6(I:Inv X pins σ H s)(h:wM X.K H a xs)(h':wM X.K H a ys):xs=ys:=by
 obtain⟨its,r,⟨o,e,_,n,d⟩,_⟩:=I.tuple h
 obtain⟨its',r',⟨o',e',_,n',d'⟩,_⟩:=I.tuple h'
 rw[e]at e';cases e'
 rw[d]at d'
 injection d' with d1 _
 have:its=its':=by simpa using congrArg Array.toList d1
 subst this
 exact r.inj r'
end
abbrev Cx.wish(X:Cx)(E:Value→Shared→Prop):Cx:={X with xe:=E}
abbrev Cx.nox(X:Cx):Cx:=X.wish fun _ _=>False
theorem Cx.Ok.wish{X:Cx}(ok:X.Ok)(E:Value→Shared→Prop):(X.wish E).Ok:=
 ⟨ok.mod,ok.kind,ok.glob,ok.blt,ok.above,ok.inj,ok.has,ok.cab,ok.hd,ok.frames,ok.stk,ok.YW,ok.bs,ok.Nh,ok.JC,ok.J9,ok.xU,ok.Wk⟩
theorem Cx.Ok.nH{X:Cx}{E:Value→Shared→Prop}(ok:(X.wish E).Ok):X.Ok:=
 ⟨ok.mod,ok.kind,ok.glob,ok.blt,ok.above,ok.inj,ok.has,ok.cab,ok.hd,ok.frames,ok.stk,ok.YW,ok.bs,ok.Nh,ok.JC,ok.J9,ok.xU,ok.Wk⟩
section
variable{X:Cx}{pins:List (Addr×Obj)}{σ:St}{H:Hp}{s:Shared}{E:Value→Shared→Prop}
theorem Inv.wish(I:Inv X pins σ H s)(E:Value→Shared→Prop):Inv (X.wish E) pins σ H s:=⟨I.ok.wish E,I.os,I.bare,I.base,I.loc,I.cell,I.free,I.oh,I.pin,I.hok,I.len⟩
theorem Inv.nH(I:Inv (X.wish E) pins σ H s):Inv X pins σ H s:=⟨I.ok.nH,I.os,I.bare,I.base,I.loc,I.cell,I.free,I.oh,I.pin,I.hok,I.len⟩
theorem SP.nH{D:Ends}{f:Flow}{s':Shared}(h:SP (X.wish E) pins D f s'):SP X pins D f s':=by
 cases f with
 | next=>obtain⟨σ',H',I,q⟩:=h;exact⟨σ',H',I.nH,q⟩
 | brk=>obtain⟨σ',H',I,q⟩:=h;exact⟨σ',H',I.nH,q⟩
 | cont=>obtain⟨σ',H',I,q⟩:=h;exact⟨σ',H',I.nH,q⟩
 | ret u=>obtain⟨v,σ',H',I,r,q⟩:=h;exact⟨v,σ',H',I.nH,r,q⟩
theorem Dv.nox{st:List Stmt}{t:TS}(h:Dv X.nox st t):Dv X st t:=fun pins s σ H D I hw=>
 wpAny_mono (h pins s σ H D (I.wish _) hw) (fun _ _ q=>q.nH) fun _ _ z=>False.elim z
end
section
variable{X:Cx}{st:Stmt}{rest:List Stmt}{t u:TS}{e:Expr}{te:TE}{pos:Pos}
def Zy:TS:=fun D σ H=>D.nx σ H
def aji(t u:TS):TS:=fun D σ H=>t {D with nx:=u D} σ H
theorem XX:Dv X [] Zy:=fun _ _ σ H _ I h=>wpAny_execs_nil ⟨σ,H,I,h⟩
theorem Vi(h1:PS X st t)(h2:Dv X rest u):Dv X (st::rest) (aji t u):=by
 intro pins s σ H D I h
 refine wpAny_execs_cons (jh (h1 pins s σ H {D with nx:=u D} I h) fun f s1 q=> ?_)
 cases f with
 | next=>
  obtain⟨σ',H',I',q⟩:=q
  exact h2 pins s1 σ' H' D I' q
 | ret v=>exact q
 | brk=>exact q
 | cont=>exact q
theorem Qs(h1:PS X st t):Dv X [st] t:=by
 intro pins s σ H D I h
 refine wpAny_execs_cons (jh (h1 pins s σ H D I h) fun f s1 q=> ?_)
 cases f with
 | next=>exact wpAny_execs_nil q
 | ret v=>exact q
 | brk=>exact q
 | cont=>exact q
theorem Inv.quiet{pins:List (Addr×Obj)}{σ:St}{H:Hp}{s:Shared}(I:Inv X pins σ H s):interactive X.env=false:=by simp[interactive,I.ok.kind]
def adk(te:TE):TS:=fun D σ H=>te σ H fun _ H1=>D.nx σ H1
theorem X5(he:PE X e te)(hs:swapsWith e none pos.line X.env=pure false:=by rfl):PS X (.Expr e pos) (adk te):=by
 intro pins s σ H D I h
 exact wpAny_Expr_any (jh (he pins s σ H _ I h) fun v s1 ⟨x,H1,I1,r1,q1⟩=>⟨σ,H1,I1,q1⟩) I.quiet hs
def ajj(te:TE):TS:=fun D σ H=>te σ H D.rt
theorem aaI(he:PE X e te):PS X (.Return (some e) pos) (ajj te):=by
 intro pins s σ H D I h
 exact wpAny_Return_some (jh (he pins s σ H _ I h) fun v s1 ⟨x,H1,I1,r1,q1⟩=>⟨x,σ,H1,I1,r1,q1⟩)
def ajn(c:TT)(t u:TS):TS:=fun D σ H=>c σ H fun b H1=>if b=true then t D σ H1 else u D σ H1
theorem adR{c:Expr}{a b:List Stmt}{tc:TT}(hc:PT X c tc)(ha:Dv X a t)(hb:Dv X b u):PS X (.If c a b pos) (ajn tc t u):=by
 intro pins s σ H D I h
 refine wpAny_If (jh (hc pins s σ H _ I h) fun d s1 ⟨H1,I1,q1⟩=> ?_)
 cases d with
 | true=>exact ha pins s1 σ H1 D I1 q1
 | false=>exact hb pins s1 σ H1 D I1 q1
end
abbrev TG:=V→St→Hp→(St→Hp→Prop)→Prop
def PG(X:Cx)(target:Expr)(t:TG):Prop:=
 ∀(pins:List (Addr×Obj)) (s:Shared) (σ:St) (H:Hp) (v:V) (u:Value) (Q:St→Hp→Prop),Inv X pins σ H s→RelV v u→t v σ H Q→
  wpAny (model X.prog X.w) X.A (assign target X.env u) (fun _ s'=>∃σ' H',Inv X pins σ' H' s'∧Q σ' H') X.xe s
section
variable{X:Cx}{pos:Pos}
def Hx(i:Nat):TG:=fun v σ H Q=>Q (σ.set i (some v)) H
theorem X_{i:Nat}{x:Str}(hN:X.N.Nodup)(hi:X.N[i]? = some x)(hx:Loc X.env.scope x)(hf:X.fn x=true∨X.env.scope.names.lookup x=some .local:=by first | exact .inl rfl | exact .inr rfl | assumption):PG X (.Name x pos) (Hx i):=by
 intro pins s σ H v u Q I r h
 exact wpAny_assign_Name (uA I hN hi hx r (fun s' I'=>⟨_,H,I',h⟩) hf)
def Xq(te:TE)(g:TG):TS:=fun D σ H=>te σ H fun x H1=>g x σ H1 D.nx
theorem aaH{i:Nat}{x:Str}{e:Expr}{te:TE}{pos':Pos}(hN:X.N.Nodup)(hi:X.N[i]? = some x)(hx:Loc X.env.scope x)(he:PE X e te)(hs:swapsWith e (some (.Name x pos')) pos.line X.env=pure false:=by rfl)(hf:X.fn x=true∨X.env.scope.names.lookup x=some .local:=by first | exact .inl rfl | exact .inr rfl | assumption):
  PS X (.Assign [.Name x pos'] e pos) (Xq te (Hx i)):=by
 intro pins s σ H D I h
 refine wpAny_Assign_Name (jh (he pins s σ H _ I h) fun v s1 ⟨y,H1,I1,r1,q1⟩=> ?_) hs
 exact uA I1 hN hi hx r1 (fun s2 I2=>⟨_,H1,I2,q1⟩) hf
end
section
variable{X:Cx}{pos:Pos}
def aae(c:TT)(tb:TS):TS:=fun D σ H=>∃W:Nat→St→Hp→Prop,(∃m,W m σ H)∧∀m σ H,W m σ H→
 c σ H fun b H1=>if b=true then ∃N:St→Hp→Prop,(∀σ' H',N σ' H'→∃m',m'<m∧W m' σ' H')∧tb {D with nx:=N,ct:=N,bk:=D.nx} σ H1 else D.nx σ H1
theorem Vj{c:Expr}{body:List Stmt}{tc:TT}{tb:TS}(hp:PassesOwn (model X.prog X.w) X.A X.env X.xe)(hc:PT X c tc)(hb:Dv X body tb):PS X (.While c body [] pos) (aae tc tb):=by
 intro pins s σ H D I h
 obtain⟨W,⟨m0,w0⟩,turn⟩:=h
 refine wpAny_While (codeAny_whileLoop (fun n s'=>∃σ' H',Inv X pins σ' H' s'∧W n σ' H') ?_ m0 ⟨σ,H,I,w0⟩)
 rintro n s1 ⟨σ1,H1,I1,w1⟩
 refine wpAny_passesOwn hp (jh (hc pins s1 σ1 H1 _ I1 (turn n σ1 H1 w1)) fun b s2 ⟨H2,I2,q2⟩=> ?_)
 cases b with
 | true=>
  obtain⟨N,hN,q2⟩:=q2
  rw[if_pos rfl]
  refine wpAny_passesOwn hp (jh (hb pins s2 σ1 H2 _ I2 q2) fun f s3 q3=> ?_)
  cases f with
  | next=>
   obtain⟨σ3,H3,I3,n3⟩:=q3
   obtain⟨m',hm,w3⟩:=hN σ3 H3 n3
   exact⟨m',hm,σ3,H3,I3,w3⟩
  | cont=>
   obtain⟨σ3,H3,I3,n3⟩:=q3
   obtain⟨m',hm,w3⟩:=hN σ3 H3 n3
   exact⟨m',hm,σ3,H3,I3,w3⟩
  | brk=>exact q3
  | ret v=>exact q3
 | false=>
  rw[if_neg Bool.false_ne_true]
  exact wpAny_execs_nil ⟨σ1,H2,I2,q2⟩
end
structure It where
 go:Nat→Hp→Prop
 Xa:Nat→Hp→V→Hp→Prop
 stop:Nat→Hp→Prop
def Ga(X:Cx)(pins:List (Addr×Obj))(H:Hp)(b:Addr):Prop:=
 H b=none∧b≠X.env.locals∧b∉X.fs∧(b∈X.ex∨X.s₀.heap.objs.size≤b)∧(∀x c,X.env.cells.lookup x=some c→c≠b)∧∀p∈X.pn++pins,p.1≠b
theorem Inv.YS{X:Cx}{pins:List (Addr×Obj)}{σ:St}{H H':Hp}{s:Shared}{b:Addr}(I:Inv X pins σ H s)(hb:s.heap.objs.size≤b)(hn:H' b=none):Ga X pins H' b:=by
 refine⟨hn,Nat.ne_of_gt (Nat.lt_of_lt_of_le I.lt hb),I.ak1 hb,.inr (Nat.le_trans I.sz hb),fun x c e z=> ?_,fun p hp z=> ?_⟩
 ·obtain⟨v,q⟩:=I.cell x c e
  exact absurd (Nat.lt_of_lt_of_le q.lt (by rw[z];exact hb)) (Nat.lt_irrefl _)
 ·exact absurd (Nat.lt_of_lt_of_le (Heap.lt_size (I.pin p hp).1) (by rw[z];exact hb)) (Nat.lt_irrefl _)
structure Turn(P:Program)(w:World)(K:PySem.W.Frag)(tg:Expr)(J:It)(fp:List Addr)(it:Addr)(tn:Nat→Heap→Prop):Prop where
 mem:it∈fp
 obj:∀i h,tn i h→∀b∈fp,∃o,h.get? b=some o∧∀v,o.data≠ .cell v
 keep:∀i h h',tn i h→(∀b∈fp,∀o,h.get? b=some o→h'.get? b=some o)→tn i h'
 item:∀(X:Cx),X.prog=P→X.w=w→X.K=K→X.calm=true→∀(i:Nat) (pins:List (Addr×Obj)) (s:Shared) (σ:St) (H:Hp) (E:Value→Shared→Prop),Inv X pins σ H s→(∀b∈fp,Ga X pins H b)→tn i s.heap→J.go i H→
  wpAny (model P w) X.A (pyNext (.ref it)) (fun r s1=>∃u,r=some u∧
   wpAny (model P w) X.A (letOwnedTupleGo tg (.ref it) u) (fun _ s2=>∃x H',Inv X pins σ H' s2∧RelV x u∧J.Xa i H x H'∧tn (i+1) s2.heap∧∀b∈fp,H' b=none) E s1) E s
 done:∀(X:Cx),X.prog=P→X.w=w→X.K=K→X.calm=true→∀(i:Nat) (pins:List (Addr×Obj)) (s:Shared) (σ:St) (H:Hp) (E:Value→Shared→Prop),Inv X pins σ H s→(∀b∈fp,Ga X pins H b)→tn i s.heap→J.stop i H→
  wpAny (model P w) X.A (pyNext (.ref it)) (fun r s1=>r=none∧Inv X pins σ H s1) E s
 self:∀(A:Around) (i:Nat) (s:Shared) (Q:Value→Shared→Prop) (E:Value→Shared→Prop),tn i s.heap→Q (.ref it) s→wpAny (model P w) A (pyIter (.ref it)) Q E s
abbrev TI:=St→Hp→(It→Hp→Prop)→Prop
def PIE(X:Cx)(pins:List (Addr×Obj))(σ:St)(tg:Expr)(R:It→Hp→Prop)(itv:Value)(s2:Shared):Prop:=
 ∃(it:Addr) (fp:List Addr) (tn:Nat→Heap→Prop) (J:It) (H':Hp),itv= .ref it∧Inv X pins σ H' s2∧Turn X.prog X.w X.K tg J fp it tn∧tn 0 s2.heap∧(∀b∈fp,Ga X pins H' b)∧R J H'
def PI(X:Cx)(tg iter:Expr)(wi:TI):Prop:=
 ∀(pins:List (Addr×Obj)) (s:Shared) (σ:St) (H:Hp) (R:It→Hp→Prop),Inv X pins σ H s→wi σ H R→
  wpAny (model X.prog X.w) X.A (eval iter X.env) (fun v s1=>wpAny (model X.prog X.w) X.A (pyIter v) (PIE X pins σ tg R) X.xe s1) X.xe s
theorem QW{M:Model}{A:Around}{E:Value→Shared→Prop}{s:Shared}{tg:Expr}{it:Addr}{u:Value}{o:Obj}{n:String}{vs:Array Value}{Q:Unit→Shared→Prop}(ho:s.heap.get? it=some o)(hc:o.cls= .type n)(hd:o.data= .fields vs)
  (hn:["enumerate","zip","dict_itemiterator","dict_reverseitemiterator","odict_iterator","itertools.zip_longest","itertools.pairwise"].contains n=false) (hQ:Q () s):wpAny M A (letOwnedTupleGo tg (.ref it) u) Q E s:=by
 unfold letOwnedTupleGo
 cases tg<;>first
  | exact wpAny_pure hQ
  | (cases u<;>first
    | exact wpAny_pure hQ
    | (refine wpAny_bind (wpAny_load ho ?_)
       rw[hc,hd]
       show wpAny M A (if(["enumerate","zip","dict_itemiterator","dict_reverseitemiterator","odict_iterator","itertools.zip_longest","itertools.pairwise"].contains n&&vs[0]? == some (rawInt _))=true then _ else _) Q E s
       rw[if_neg (by intro h;rw[hn,Bool.false_and]at h;cases h)]
       exact wpAny_pure hQ))
def Itl(K:PySem.W.Frag)(a:Addr):It:=
 ⟨fun i H=>∃xs x,yQ K H a xs∧xs[i]? = some x,fun i H x H'=>H'=H∧∀xs,yQ K H a xs→xs[i]? = some x,fun i H=>∃xs,yQ K H a xs∧xs.length≤i⟩
def Itt(K:PySem.W.Frag)(a:Addr):It:=
 ⟨fun i H=>∃xs x,wM K H a xs∧xs[i]? = some x,fun i H x H'=>H'=H∧∀xs,wM K H a xs→xs[i]? = some x,fun i H=>∃xs,wM K H a xs∧xs.length≤i⟩
def Itr(lo:Int)(n:Nat):It:=⟨fun i _=>i<n,fun i H x H'=>H'=H∧x= .int (lo+i),fun i _=>n≤i⟩
theorem Rx{P:Program}{w:World}{K:PySem.W.Frag}{tg:Expr}(a it:Addr):Turn P w K tg (Itl K a) [it] it (fun i h=>h.IsListIter it a i) where
 mem:=by simp
 obj:=fun i h st b hb=>by
  have e:b=it:=by simpa using hb
  subst e
  obtain⟨o,e,c,d⟩:=st
  exact⟨o,e,fun v z=>by rw[d]at z;cases z⟩
 keep:=fun i h h' st k=>st.at fun o e=>k it (by simp) o e
 item:=by
  intro X hP hw hK hc i pins s σ H E I hf st hg
  subst hP hw hK
  obtain⟨xs,x,hq,hx⟩:=hg
  obtain⟨its,rv,p,hz⟩:=I.list hq
  obtain⟨u,hu,ru⟩:=rv.get hx
  obtain⟨f0,f1,f2,f3,f4,f5⟩:=hf it (by simp)
  refine wpAny_pyNext_list_item st p.isList (x:=u) (by simpa using hu) fun h' st' sb=> ?_
  have I1:Inv X pins σ H {s with heap:=h'}:=I.turned (t':=s.toks) (fun b o hb e=>(sb.2 b hb).trans e) f0 f1 f3 f4 f5
  obtain⟨o,e,c,d⟩:=id st'
  exact⟨u,rfl,QW (s:={s with heap:=h'}) e c d (by decide) ⟨x,H,I1,ru,⟨rfl,fun ys hy=>by rw[I.Lz hy hq];exact hx⟩,st',fun b hb=>(hf b hb).1⟩⟩
 done:=by
  intro X hP hw hK hc i pins s σ H E I hf st hg
  subst hP hw hK
  obtain⟨xs,hq,hx⟩:=hg
  obtain⟨its,rv,p,hz⟩:=I.list hq
  obtain⟨f0,f1,f2,f3,f4,f5⟩:=hf it (by simp)
  have hl:=rv.length
  exact wpAny_pyNext_list_end (I.ok.hd hc) st p.isList (by simp;omega) fun h' eb=>⟨rfl,I.turned (t':=s.toks) (fun b o hb e=>eb b o hb e) f0 f1 f3 f4 f5⟩
 self:=fun _ _ _ _ _ st h=>wpAny_pyIter_listiter st h
theorem Nx{P:Program}{w:World}{K:PySem.W.Frag}{tg:Expr}(a it:Addr):Turn P w K tg (Itt K a) [it] it (fun i h=>h.IsTupleIter it a i) where
 mem:=by simp
 obj:=fun i h st b hb=>by
  have e:b=it:=by simpa using hb
  subst e
  obtain⟨o,e,c,d⟩:=st
  exact⟨o,e,fun v z=>by rw[d]at z;cases z⟩
 keep:=fun i h h' st k=>st.at fun o e=>k it (by simp) o e
 item:=by
  intro X hP hw hK hc i pins s σ H E I hf st hg
  subst hP hw hK
  obtain⟨xs,x,hq,hx⟩:=hg
  obtain⟨its,rv,p,hz⟩:=I.tuple hq
  obtain⟨u,hu,ru⟩:=rv.get hx
  obtain⟨f0,f1,f2,f3,f4,f5⟩:=hf it (by simp)
  refine wpAny_pyNext_tuple_item st (show s.heap.IsTuple a its.toArray from p) (x:=u) (by simpa using hu) fun h' st' sb=> ?_
  have I1:Inv X pins σ H {s with heap:=h'}:=I.turned (t':=s.toks) (fun b o hb e=>(sb.2 b hb).trans e) f0 f1 f3 f4 f5
  obtain⟨o,e,c,d⟩:=id st'
  exact⟨u,rfl,QW (s:={s with heap:=h'}) e c d (by decide) ⟨x,H,I1,ru,⟨rfl,fun ys hy=>by rw[I.G6 hy hq];exact hx⟩,st',fun b hb=>(hf b hb).1⟩⟩
 done:=by
  intro X hP hw hK hc i pins s σ H E I hf st hg
  subst hP hw hK
  obtain⟨xs,hq,hx⟩:=hg
  obtain⟨its,rv,p,hz⟩:=I.tuple hq
  obtain⟨f0,f1,f2,f3,f4,f5⟩:=hf it (by simp)
  have hl:=rv.length
  exact wpAny_pyNext_tuple_end (I.ok.hd hc) st (show s.heap.IsTuple a its.toArray from p) (by simp;omega) fun h' eb=>⟨rfl,I.turned (t':=s.toks) (fun b o hb e=>eb b o hb e) f0 f1 f3 f4 f5⟩
 self:=fun _ _ _ _ _ st h=>wpAny_pyIter_tupleiter st h
theorem Ny{P:Program}{w:World}{K:PySem.W.Frag}{tg:Expr}(it:Addr)(lo:Int)(n:Nat):Turn P w K tg (Itr lo n) [it] it (fun i h=>IsRangeIter h it (lo+(i:Nat)*1) ((n:Int) - (i:Nat)) 1) where
 mem:=by simp
 obj:=fun i h st b hb=>by
  have e:b=it:=by simpa using hb
  subst e
  exact⟨_,st,fun v z=>by
   have z':Data.fields _=Data.cell v:=z
   cases z'⟩
 keep:=fun i h h' st k=>k it (by simp) _ st
 item:=by
  intro X hP hw hK hc i pins s σ H E I hf st hg
  subst hP hw hK
  obtain⟨f0,f1,f2,f3,f4,f5⟩:=hf it (by simp)
  have W:=Walks.range (prog:=X.prog) (w:=X.w) (I.ok.hd hc) it lo 1 n
  refine W.item i s _ _ hg st fun v h' tk hv st' kk=> ?_
  obtain⟨t,rfl⟩:=hv
  have I1:Inv X pins σ H {s with heap:=h',toks:=tk}:=I.turned (fun b o hb e=>kk b o (by simpa using hb) e) f0 f1 f3 f4 f5
  refine⟨_,rfl,QW (s:={s with heap:=h',toks:=tk}) (n:= "range_iterator") st' rfl rfl (by decide) ⟨.int (lo+i),H,I1,⟨t,?_⟩,⟨rfl,rfl⟩,st',fun b hb=>(hf b hb).1⟩⟩
  rw[Int.mul_one]
 done:=by
  intro X hP hw hK hc i pins s σ H E I hf st hg
  subst hP hw hK
  obtain⟨f0,f1,f2,f3,f4,f5⟩:=hf it (by simp)
  exact wpAny_pyNext_range_end (I.ok.hd hc) st (by have:n≤i:=hg;omega) fun h' eb=>⟨rfl,I.turned (t':=s.toks) (fun b o hb e=>eb b o hb e) f0 f1 f3 f4 f5⟩
 self:=fun _ _ _ _ _ st h=>wpAny_pyIter_rangeiter st h
end L2
namespace L2
open PySem PySem.Spec PyProof.Rows
section
variable{X:Cx}{tg:Expr}
theorem Lg{pins:List (Addr×Obj)}{σ:St}{H:Hp}{s:Shared}{R:It→Hp→Prop}{E:Value→Shared→Prop}{lo hi:Int}{t u v:Tok}{tk:Nat}(I:Inv X pins σ H s)(h1: -(2 ^ 62)≤lo)(h2:lo<2 ^ 62)(h3: -(2 ^ 62)≤hi)(h4:hi<2 ^ 62)
  (q:R (Itr lo (hi - lo).toNat) H):wpAny (model X.prog X.w) X.A (pyIter (.ref s.heap.objs.size)) (PIE X pins σ tg R) E {s with heap:=s.heap.push {cls:= .type "range",data:= .fields #[.int lo t,.int hi u,.int 1 v]},toks:=tk}:=by
 refine wpAny_pyIter_range (IsRange.new ..) (small_one h1 h2 h3 h4) ?_
 have I1:Inv X pins σ H {s with heap:=s.heap.push {cls:= .type "range",data:= .fields #[.int lo t,.int hi u,.int 1 v]},toks:=tk}:=I.kept fun b o e=>Heap.get?_push_of_some _ e
 refine⟨(s.heap.push {cls:= .type "range",data:= .fields #[.int lo t,.int hi u,.int 1 v]}).objs.size,[(s.heap.push {cls:= .type "range",data:= .fields #[.int lo t,.int hi u,.int 1 v]}).objs.size],_,_,H,rfl,
  I1.kept (t':=tk) fun b o e=>Heap.get?_push_of_some _ e,Ny _ lo (hi - lo).toNat,?_,fun b hb=> ?_,q⟩
 ·have e1:lo+((0:Nat):Int)*1=lo:=by simp
  have e2:(((hi - lo).toNat:Nat):Int) - ((0:Nat):Int)=Builtin.Range.rangeSize lo hi 1:=by rw[rangeSize_one];split<;>omega
  show IsRangeIter _ _ (lo+((0:Nat):Int)*1) ((((hi - lo).toNat:Nat):Int) - ((0:Nat):Int)) 1
  rw[e1,e2]
  exact Heap.get?_push_size _ rfl
 ·have e:b=(s.heap.push {cls:= .type "range",data:= .fields #[.int lo t,.int hi u,.int 1 v]}).objs.size:=by simpa using hb
  subst e
  exact I1.YS (Nat.le_refl _) (I1.hok.fresh (Nat.le_refl _))
def afu(ta:TA):TI:=fun σ H R=>ta σ H fun vs H1=>∃j:Int,vs=[.int j]∧ -(2 ^ 62)≤j∧j<2 ^ 62∧R (Itr 0 j.toNat) H1
def aft(ta:TA):TI:=fun σ H R=>ta σ H fun vs H1=>∃i j:Int,vs=[.int i,.int j]∧(-(2 ^ 62)≤i∧i<2 ^ 62∧ -(2 ^ 62)≤j∧j<2 ^ 62)∧R (Itr i (j - i).toNat) H1
theorem RV{a:Expr}{ta:TA}{p pos:Pos}(hg:Gl X "range")(hm:X.mg "range" = none)(ha:PA X [a] ta)(hs:starEach [a] X.env=[(false,eval a X.env)]:=by rfl):PI X tg (.Call (.Name "range" p) [a] [] pos) (afu ta):=by
 intro pins s σ H R I h
 refine Call_ (JM I hg hm boot_range (PyProof.Rows.callWith_type1 (jh (ha pos pins s σ H _ I h) fun us s1 ⟨vs,H1,I1,r1,q1⟩=> ?_) hs rfl))
 obtain⟨j,e,q1,q2,q⟩:=q1
 subst e
 cases r1 with
 | cons r rr=>
  cases rr
  obtain⟨t,rfl⟩:=r
  exact call_range_1 (Lg I1 (by omega) (by omega) q1 q2 (by simpa using q))
theorem RT{a b:Expr}{ta:TA}{p pos:Pos}(hg:Gl X "range")(hm:X.mg "range" = none)(ha:PA X [a,b] ta)(hs:starEach [a,b] X.env=[(false,eval a X.env),(false,eval b X.env)]:=by rfl)(hs2:starEach [b] X.env=[(false,eval b X.env)]:=by rfl):
  PI X tg (.Call (.Name "range" p) [a,b] [] pos) (aft ta):=by
 intro pins s σ H R I h
 refine Call_ (JM I hg hm boot_range (PyProof.Rows.callWith_type1 (jh (ha pos pins s σ H _ I h) fun us s1 ⟨vs,H1,I1,r1,q1⟩=> ?_) (by rw[hs,hs2]) (by rw[hs2];rfl)))
 obtain⟨i,j,e,⟨q1,q2,q3,q4⟩,q⟩:=q1
 subst e
 cases r1 with
 | cons r rr=>
  cases rr with
  | cons r' rr=>
   cases rr
   obtain⟨t,rfl⟩:=r
   obtain⟨t',rfl⟩:=r'
   exact call_range_2 (Lg I1 q1 q2 q3 q4 q)
def ajo(wi:TI)(g:TG)(tb:TS):TS:=fun D σ H=>wi σ H fun J H1=>∃W:Nat→Nat→St→Hp→Prop,(∃m,W 0 m σ H1)∧∀i m σ H,W i m σ H→
 (J.stop i H∧D.nx σ H)∨(J.go i H∧∃N:St→Hp→Prop,(∀σ' H',N σ' H'→∃m',m'<m∧W (i+1) m' σ' H')∧∀x H',J.Xa i H x H'→g x σ H' fun σ2 H2=>tb {D with nx:=N,ct:=N,bk:=D.nx} σ2 H2)
def Bs(fp:List Addr)(h:Heap):List (Addr×Obj):=fp.filterMap fun b=>(h.get? b).map fun o=>(b,o)
theorem pG{fp:List Addr}{h:Heap}{b:Addr}{o:Obj}(hb:b∈fp)(e:h.get? b=some o):(b,o)∈Bs fp h:=List.mem_filterMap.mpr ⟨b,hb,by rw[e];rfl⟩
theorem Sg{fp:List Addr}{h:Heap}{p:Addr×Obj}(hp:p∈Bs fp h):p.1∈fp∧h.get? p.1=some p.2:=by
 obtain⟨b,hb,e⟩:=List.mem_filterMap.mp hp
 cases q:h.get? b with
 | none=>rw[q]at e;cases e
 | some o=>
  rw[q]at e
  have e':(b,o)=p:=Option.some.inj e
  subst e'
  exact⟨hb,q⟩
theorem Inv.pinned{pins:List (Addr×Obj)}{σ:St}{H:Hp}{s:Shared}{fp:List Addr}(I:Inv X pins σ H s)(hf:∀b∈fp,Ga X pins H b)(ho:∀b∈fp,∃o,s.heap.get? b=some o∧∀v,o.data≠ .cell v):Inv X (pins++Bs fp s.heap) σ H s:=
 I.vD fun p hp=>(List.mem_append.mp hp).elim (fun z=>I.pin p (List.mem_append_right _ z)) fun z=>by
  obtain⟨hb,e⟩:=Sg z
  obtain⟨f0,f1,f2,_⟩:=hf p.1 hb
  obtain⟨o,e',d⟩:=ho p.1 hb
  rw[e]at e';cases e'
  exact⟨e,f0,f1,f2,d⟩
theorem Inv.wY{pins pl:List (Addr×Obj)}{σ:St}{H:Hp}{s:Shared}(I:Inv X (pins++pl) σ H s):Inv X pins σ H s:=I.vD fun p hp=>I.pin p (List.mem_append_right _ (List.mem_append_left _ hp))
theorem aaJ{iter:Expr}{body:List Stmt}{wi:TI}{g:TG}{tb:TS}{pos:Pos}(hp:PassesOwn (model X.prog X.w) X.A X.env X.xe)(hc:X.calm=true)(hi:PI X tg iter wi)(hg:PG X tg g)(hb:Dv X body tb)
  (hs:∀x,foldedSetIterable iter X.env x=pure x:=by intro _;rfl):PS X (.For tg iter body [] pos) (ajo wi g tb):=by
 intro pins s σ H D I h
 refine wpAny_For (jh (hi pins s σ H _ I h) fun v s1 h1=>jh h1 fun itv s2 h2=> ?_) hs
 obtain⟨it,fp,tn,J,H2,e,I2,T,st2,f2,W,⟨m0,w0⟩,turn⟩:=h2
 subst e
 have stat:∀{H':Hp},(∀b∈fp,H' b=none)→∀b∈fp,Ga X pins H' b:=fun hn b hb=>⟨hn b hb,(f2 b hb).2⟩
 refine codeAny_forLoop_any (fun n s'=>∃i σ' H',Inv X pins σ' H' s'∧tn i s'.heap∧(∀b∈fp,H' b=none)∧W i n σ' H') ?_ m0 ⟨0,σ,H2,I2,st2,fun b hb=>(f2 b hb).1,w0⟩
 rintro n s3 ⟨i,σ3,H3,I3,st3,ZZ,w3⟩
 rcases turn i n σ3 H3 w3 with⟨stop,qn⟩ | ⟨go,N,hN,step⟩
 ·refine wpAny_passesOwn hp (jh (T.done X rfl rfl rfl hc i pins s3 σ3 H3 X.xe I3 (stat ZZ) st3 stop) fun r s4 ⟨hr,I4⟩=> ?_)
  subst hr
  exact wpAny_execs_nil ⟨σ3,H3,I4,qn⟩
 ·refine wpAny_passesOwn hp (jh (T.item X rfl rfl rfl hc i pins s3 σ3 H3 X.xe I3 (stat ZZ) st3 go) fun r s4 ⟨u,hr,h4⟩=> ?_)
  subst hr
  refine wpAny_passesOwn hp (jh h4 fun _ s5 ⟨x,H5,I5,r5,y5,Rz,fr5⟩=> ?_)
  have I5':=I5.pinned (stat fr5) (T.obj _ _ Rz)
  refine wpAny_passesOwn hp (jh (hg _ s5 σ3 H5 x u _ I5' r5 (step x H5 y5)) fun _ s6 ⟨σ6,H6,I6,q6⟩=> ?_)
  refine wpAny_passesOwn hp (jh (hb _ s6 σ6 H6 _ I6 q6) fun f s7 q7=> ?_)
  have again:∀{T3:St} {H7:Hp},Inv X (pins++Bs fp s5.heap) T3 H7 s7→N T3 H7→∃m,m<n∧∃i σ' H',Inv X pins σ' H' s7∧tn i s7.heap∧(∀b∈fp,H' b=none)∧W i m σ' H':=fun{T3 H7} I7 n7=>by
   obtain⟨m',hm,w7⟩:=hN T3 H7 n7
   refine⟨m',hm,i+1,T3,H7,I7.wY,T.keep _ _ _ Rz fun b hb o e=>(I7.pin (b,o) (List.mem_append_right _ (List.mem_append_right _ (pG hb e)))).1,fun b hb=> ?_,w7⟩
   obtain⟨o,e,d⟩:=T.obj _ _ Rz b hb
   exact(I7.pin (b,o) (List.mem_append_right _ (List.mem_append_right _ (pG hb e)))).2.1
  cases f with
  | next=>obtain⟨T3,H7,I7,n7⟩:=q7;exact again I7 n7
  | cont=>obtain⟨T3,H7,I7,n7⟩:=q7;exact again I7 n7
  | brk=>obtain⟨T3,H7,I7,q7⟩:=q7;exact⟨T3,H7,I7.wY,q7⟩
  | ret v=>obtain⟨x7,T3,H7,I7,r7,q7⟩:=q7;exact⟨x7,T3,H7,I7.wY,r7,q7⟩
end
end L2
namespace L2
open PySem PySem.Spec PyProof.Rows
abbrev R2:=V→V→Hp→VK→Prop
def wX(X:Cx)(f:Value→Value→Sem Value)(r:R2):Prop:=
 ∀(pins:List (Addr×Obj)) (s:Shared) (σ:St) (H:Hp) (x y:V) (v u:Value) (Q:VK),Inv X pins σ H s→RelV x v→RelV y u→r x y H Q→
  wpAny (model X.prog X.w) X.A (f v u) (EP X pins σ Q) X.xe s
def UnR(X:Cx)(f:Value→Sem Value)(r:V→Hp→VK→Prop):Prop:=
 ∀(pins:List (Addr×Obj)) (s:Shared) (σ:St) (H:Hp) (x:V) (v:Value) (Q:VK),Inv X pins σ H s→RelV x v→r x H Q→
  wpAny (model X.prog X.w) X.A (f v) (EP X pins σ Q) X.xe s
def o6(X:Cx)(f:Value)(r:List V→Hp→VK→Prop):Prop:=
 ∀(pins:List (Addr×Obj)) (s:Shared) (σ:St) (H:Hp) (xs:List V) (us:List Value) (Q:VK),Inv X pins σ H s→Vals xs us→r xs H Q→
  wpAny (model X.prog X.w) X.A (call f us) (EP X pins σ Q) X.xe s
def tOp(r:R2)(ta tb:TE):TE:=fun σ H Q=>ta σ H fun x H1=>tb σ H1 fun y H2=>r x y H2 Q
def tUn(r:V→Hp→VK→Prop)(ta:TE):TE:=fun σ H Q=>ta σ H fun x H1=>r x H1 Q
def rI(C:Int→Int→Prop)(g:Int→Int→V):R2:=fun x y H Q=>∃i j,x= .int i∧y= .int j∧C i j∧Q (g i j) H
def Xc(g:Int→Int→V):R2:=fun x y H Q=>∃i j,x= .int i∧y= .int j∧Q (g i j) H
def rU(g:Int→V):V→Hp→VK→Prop:=fun x H Q=>∃i,x= .int i∧Q (g i) H
section
variable{X:Cx}{a b c:Expr}{ta tb tc:TE}{pos:Pos}
theorem acz(ha:PE X a ta)(hb:PE X b tb){pins:List (Addr×Obj)}{s:Shared}{σ:St}{H:Hp}{R:V→V→Hp→Prop}(I:Inv X pins σ H s)
  (h:ta σ H fun x H1=>tb σ H1 fun y H2=>R x y H2) {Q:Value→Shared→Prop} {f:Value→Value→Sem Value}
  (hf:∀v u s2 x y H2,Inv X pins σ H2 s2→RelV x v→RelV y u→R x y H2→wpAny (model X.prog X.w) X.A (f v u) Q X.xe s2):
  wpAny (model X.prog X.w) X.A (eval a X.env) (fun v s₁=>wpAny (model X.prog X.w) X.A (eval b X.env) (fun u s₂=>wpAny (model X.prog X.w) X.A (f v u) Q X.xe s₂) X.xe s₁) X.xe s:=by
 refine jh (ha pins s σ H _ I h) fun v s1 ⟨x,H1,I1,r1,q1⟩=> ?_
 refine jh (hb pins s1 σ H1 _ I1 q1) fun u s2 ⟨y,H2,I2,r2,q2⟩=> ?_
 exact hf v u s2 x y H2 I2 r1 r2 q2
theorem aej{op:Operator}{r:R2}(ho:wX X (binaryOp op) r)(ha:PE X a ta)(hb:PE X b tb):PE X (.BinOp a op b pos) (tOp r ta tb):=by
 intro pins s σ H Q I h
 exact wpAny_BinOp (acz ha hb I h fun v u s2 x y H2 I2 rx ry q=>ho pins s2 σ H2 x y v u Q I2 rx ry q)
theorem aeh{op:UnaryOp}{r:V→Hp→VK→Prop}(ho:UnR X (unaryOp op) r)(ha:PE X a ta):PE X (.UnaryOp op a pos) (tUn r ta):=by
 intro pins s σ H Q I h
 exact UnaryOp_ (jh (ha pins s σ H _ I h) fun v s1 ⟨x,H1,I1,r1,q1⟩=>ho pins s1 σ H1 x v Q I1 r1 q1)
theorem opI{f:Value→Value→Sem Value}{C:Int→Int→Prop}{g:Int→Int→Int}
  (rule:∀(i j:Int) (t u:Tok) (s:Shared) (Q:Value→Shared→Prop) (E:Value→Shared→Prop),C i j→Q (.int (g i j) s.toks) {s with toks:=s.toks+1}→wpAny (model X.prog X.w) X.A (f (.int i t) (.int j u)) Q E s):
  wX X f (rI C fun i j=> .int (g i j)):=by
 intro pins s σ H x y v u Q I rx ry h
 obtain⟨i,j,rfl,rfl,hc,q⟩:=h
 obtain⟨t,rfl⟩:=rx
 obtain⟨t',rfl⟩:=ry
 exact rule i j t t' s _ _ hc ⟨.int (g i j),H,I.tok _,⟨_,rfl⟩,q⟩
theorem aes{f:Value→Value→Sem Value}{g:Int→Int→Int}
  (rule:∀(i j:Int) (t u:Tok) (s:Shared) (Q:Value→Shared→Prop) (E:Value→Shared→Prop),Q (.int (g i j) s.toks) {s with toks:=s.toks+1}→wpAny (model X.prog X.w) X.A (f (.int i t) (.int j u)) Q E s):
  wX X f (Xc fun i j=> .int (g i j)):=by
 intro pins s σ H x y v u Q I rx ry h
 obtain⟨i,j,rfl,rfl,q⟩:=h
 obtain⟨t,rfl⟩:=rx
 obtain⟨t',rfl⟩:=ry
 exact rule i j t t' s _ _ ⟨.int (g i j),H,I.tok _,⟨_,rfl⟩,q⟩
theorem Yj{f:Value→Value→Sem Value}{g:Int→Int→Bool}
  (rule:∀(i j:Int) (t u:Tok) (s:Shared) (Q:Value→Shared→Prop) (E:Value→Shared→Prop),Q (.bool (g i j)) s→wpAny (model X.prog X.w) X.A (f (.int i t) (.int j u)) Q E s):
  wX X f (Xc fun i j=> .bl (g i j)):=by
 intro pins s σ H x y v u Q I rx ry h
 obtain⟨i,j,rfl,rfl,q⟩:=h
 obtain⟨t,rfl⟩:=rx
 obtain⟨t',rfl⟩:=ry
 exact rule i j t t' s _ _ ⟨.bl (g i j),H,I,rfl,q⟩
def al8(i j:Int):Prop:=0<j∧j<1073741824
def ahn(i j:Int):Prop:=0≤j∧j≤1000000∧i.natAbs<2 ^ 64
def acI(i j:Int):Prop:=(-(2 ^ 64)<i∧i<2 ^ 64)∨(-(2 ^ 64)<j∧j<2 ^ 64)
theorem acI.ok{i j:Int}(h:acI i j):IntMulOk i j:=by
 rcases h with⟨h1,h2⟩ | ⟨h1,h2⟩
 ·exact .of_left (intBits_le_64 h1 h2)
 ·exact .of_right (intBits_le_64 h1 h2)
theorem abb:wX X (binaryOp .Add) (Xc fun i j=> .int (i+j)):=aes fun _ _ _ _ _ _ _ q=>add_int q
theorem aa1:wX X (binaryOp .Sub) (Xc fun i j=> .int (i - j)):=aes fun _ _ _ _ _ _ _ q=>sub_int q
theorem aa5:wX X (binaryOp .Mult) (rI acI fun i j=> .int (i*j)):=opI fun _ _ _ _ _ _ _ hc q=>mul_int q hc.ok
theorem Yh:wX X (binaryOp .FloorDiv) (rI al8 fun i j=> .int (i / j)):=opI fun i j _ _ _ _ _ hc q=>by
 have h1:(0:Int)<j:=hc.1
 have h2:j<1073741824:=hc.2
 exact floordiv_int (by omega) (by rw[Int.fdiv_eq_ediv_of_nonneg i (by omega)];exact q) (.inl (PyProof.noPylong_small (by omega)))
theorem aa6:wX X (binaryOp .Mod) (rI (fun _ j=>0<j) fun i j=> .int (i % j)):=opI fun i j _ _ _ _ _ hc q=>by
 have h1:(0:Int)<j:=hc
 exact mod_int' (by omega) (by rw[Int.fmod_eq_emod_of_nonneg i (by omega)];exact q)
theorem aa3:wX X (binaryOp .Pow) (rI ahn fun i j=> .int (i ^ j.toNat)):=opI fun _ _ _ _ _ _ _ hc q=>pow_int_small hc.1 hc.2.1 hc.2.2 q
theorem aa2:wX X (binaryOp .LShift) (rI ahn fun i j=> .int (i*2 ^ j.toNat)):=opI fun _ _ _ _ _ _ _ hc q=>lshift_int_small hc.1 hc.2.1 hc.2.2 q
theorem unI{f:Value→Sem Value}{g:Int→Int}
  (rule:∀(i:Int) (t:Tok) (s:Shared) (Q:Value→Shared→Prop) (E:Value→Shared→Prop),Q (.int (g i) s.toks) {s with toks:=s.toks+1}→wpAny (model X.prog X.w) X.A (f (.int i t)) Q E s):
  UnR X f (rU fun i=> .int (g i)):=by
 intro pins s σ H x v Q I rx h
 obtain⟨i,rfl,q⟩:=h
 obtain⟨t,rfl⟩:=rx
 exact rule i t s _ _ ⟨.int (g i),H,I.tok _,⟨_,rfl⟩,q⟩
theorem aab:UnR X (unaryOp .USub) (rU fun i=> .int (-i)):=unI fun _ _ _ _ _ q=>neg_int q
end
section
variable{X:Cx}{a b c:Expr}{ta tb tc:TE}{pos:Pos}
theorem J8{pins:List (Addr×Obj)}{σ:St}{H:Hp}{s:Shared}{Q:VK}{k k':Bool}(I:Inv X pins σ H s)(q:Q (.bl k) H)(e:k=k'):EP X pins σ Q (.bool k') s:=by
 subst e
 exact⟨.bl k,H,I,rfl,q⟩
theorem aeo:wX X (compareOp .Lt) (Xc fun i j=> .bl (decide (i<j))):=Yj fun _ _ _ _ _ _ _ q=>lt_int q
theorem aep:wX X (compareOp .LtE) (Xc fun i j=> .bl (decide (i≤j))):=Yj fun _ _ _ _ _ _ _ q=>le_int q
theorem aeq:wX X (compareOp .Gt) (Xc fun i j=> .bl (decide (j<i))):=Yj fun _ _ _ _ _ _ _ q=>gt_int q
theorem aer:wX X (compareOp .GtE) (Xc fun i j=> .bl (decide (j≤i))):=Yj fun _ _ _ _ _ _ _ q=>ge_int q
theorem R8:wX X (compareOp .Lt) (fun x y H Q=>∃i j,x= .str i∧y= .str j∧Q (.bl (decide (i.cps.toList<j.cps.toList))) H):=by
 intro pins s σ H x y v u Q I rx ry h
 obtain⟨i,j,rfl,rfl,q⟩:=h
 obtain⟨t,rfl⟩:=rx
 obtain⟨t',rfl⟩:=ry
 exact lt_str (J8 I q rfl)
theorem R_:wX X (compareOp .In) (fun x y H Q=>∃i j,x= .str i∧y= .str j∧Q (.bl (!(Builtin.Str.occurrences j i 0 j.length 1).isEmpty)) H):=by
 intro pins s σ H x y v u Q I rx ry h
 obtain⟨i,j,rfl,rfl,q⟩:=h
 obtain⟨t,rfl⟩:=rx
 obtain⟨t',rfl⟩:=ry
 exact in_str (J8 I q rfl)
theorem aa9:wX X (compareOp .Is) (fun x y H Q=>y= .non∧Q (.bl (decide (x= .non))) H):=by
 intro pins s σ H x y v u Q I rx ry h
 obtain⟨rfl,q⟩:=h
 cases ry
 refine is_none_gen (J8 I q ?_)
 cases x<;>first
  | (cases rx;rfl)
  | (obtain⟨t,rfl⟩:=rx;rfl)
theorem wX.or{f:Value→Value→Sem Value}{r r':R2}(h:wX X f r)(h':wX X f r'):wX X f (fun x y H Q=>r x y H Q∨r' x y H Q):=by
 intro pins s σ H x y v u Q I rx ry q
 rcases q with q | q
 ·exact h pins s σ H x y v u Q I rx ry q
 ·exact h' pins s σ H x y v u Q I rx ry q
theorem dG(b:Expr){op:CmpOp}(h:op≠ .In:=by decide)(h2:op≠ .NotIn:=by decide):behindInMarks op b=false:=by
 have e1:(op==CmpOp.In)=false:=by cases op<;>first | rfl | exact absurd rfl h
 have e2:(op==CmpOp.NotIn)=false:=by cases op<;>first | rfl | exact absurd rfl h2
 cases b<;>simp[behindInMarks,e1,e2]
theorem Yd{op:CmpOp}{r:R2}(ho:wX X (compareOp op) r)(ha:PE X a ta)(hb:PE X b tb)(hm:behindInMarks op b=false):PE X (.Compare a [op] [b] pos) (tOp r ta tb):=by
 intro pins s σ H Q I h
 exact wpAny_Compare1 (acz ha hb I h fun v u s2 x y H2 I2 rx ry q=>ho pins s2 σ H2 x y v u Q I2 rx ry q) hm
def Zx(t:TE):TT:=fun σ H Q=>t σ H fun x H'=>∃k,x= .bl k∧Q k H'
theorem XS{op:CmpOp}{r:R2}(ho:wX X (compareOp op) r)(ha:PE X a ta)(hb:PE X b tb)(hm:behindInMarks op b=false):PT X (.Compare a [op] [b] pos) (Zx (tOp r ta tb)):=by
 intro pins s σ H Q I h
 refine wpAny_isTrue_Compare1 (jh (ha pins s σ H _ I h) fun v s1 ⟨x,H1,I1,r1,q1⟩=>jh (hb pins s1 σ H1 _ I1 q1) fun u s2 ⟨y,H2,I2,r2,q2⟩=>
  jh (ho pins s2 σ H2 x y v u _ I2 r1 r2 q2) fun c s3 ⟨z,H3,I3,r3,k,e,q3⟩=> ?_) hm
 subst e
 cases r3
 exact wpAny_truthy_bool ⟨H3,I3,q3⟩
theorem Fi:(sizeLine:Nat)<2 ^ 63:=by rw[sizeLine_eq];decide
theorem Om:wX X (binaryOp .Add) (fun x y H Q=>∃i j,x= .str i∧y= .str j∧i.length+j.length≤sizeLine∧Q (.str (i++j)) H):=by
 intro pins s σ H x y v u Q I rx ry h
 obtain⟨i,j,rfl,rfl,hz,q⟩:=h
 obtain⟨t,rfl⟩:=rx
 obtain⟨t',rfl⟩:=ry
 exact add_str (fun t' tk=>⟨.str (i++j),H,I.tok _,⟨_,rfl⟩,q⟩) hz
theorem vals1{x:V}{us:List Value}(r:Vals [x] us):∃u,us=[u]∧RelV x u:=by
 cases r with
 | cons r1 r2=>cases r2;exact⟨_,rfl,r1⟩
theorem vals2{x y:V}{us:List Value}(r:Vals [x,y] us):∃u w',us=[u,w']∧RelV x u∧RelV y w':=by
 cases r with
 | cons r1 r2=>
  cases r2 with
  | cons r3 r4=>cases r4;exact⟨_,_,rfl,r1,r3⟩
theorem Tj(hc:X.calm=true):o6 X (.builtin "min") (fun xs H Q=>∃i j,xs=[.int i,.int j]∧Q (.int (if j<i then j else i)) H):=by
 intro pins s σ H xs us Q I r h
 obtain⟨i,j,rfl,q⟩:=h
 obtain⟨u,w',rfl,⟨t,rfl⟩,⟨t',rfl⟩⟩:=vals2 r
 refine min_two_ints (I.ok.hd hc) fun h' tk k=>⟨_,H,I.kept k,?_,q⟩
 by_cases hj:j<i
 ·rw[if_pos hj,if_pos hj];exact⟨_,rfl⟩
 ·rw[if_neg hj,if_neg hj];exact⟨_,rfl⟩
theorem HN:o6 X (.type "int") (fun xs H Q=>(∃i,xs=[.int i]∧Q (.int i) H)∨∃k,xs=[.bl k]∧Q (.int (if k then 1 else 0)) H):=by
 intro pins s σ H xs us Q I r h
 rcases h with⟨i,rfl,q⟩ | ⟨k,rfl,q⟩
 ·obtain⟨u,rfl,t,rfl⟩:=vals1 r
  exact call_int_int ⟨.int i,H,I,⟨_,rfl⟩,q⟩
 ·obtain⟨u,rfl,r1⟩:=vals1 r
  cases r1
  exact call_int_bool ⟨.int (if k then 1 else 0),H,I.tok _,⟨_,rfl⟩,q⟩
theorem Kg:o6 X (.type "str") (fun xs H Q=>∃i,xs=[.int i]∧i.natAbs.log2<1920∧Q (.str (toString i)) H):=by
 intro pins s σ H xs us Q I r h
 obtain⟨i,rfl,hz,q⟩:=h
 obtain⟨u,rfl,t,rfl⟩:=vals1 r
 exact PySem.P.str_of_int hz ⟨.str _,H,I.tok _,⟨_,rfl⟩,q⟩
end
end L2
namespace L2
open PySem PySem.Spec PyProof.Rows
structure Pu(h:Heap)(x dx C:Addr)(mA:Str→Option Value):Prop where
 obj:h.get? x=some (PySem.W.instObj C dx)
 ns:h.Ns1 dx mA
 ne:dx≠x
theorem Hl{h:Heap}{dx:Addr}{mA:Str→Option Value}(n:h.Ns1 dx mA):∃od,h.get? dx=some od∧∀name,PySem.W.lookIn name od=some (mA name):=by
 obtain⟨o,es,ep,ho,hd,hk,_,hm⟩:=n
 refine⟨o,ho,fun name=> ?_⟩
 have e:=hm name
 unfold nsFind findBy at e
 rw[←Array.find?_toList]at e
 unfold PySem.W.lookIn
 rw[hd]
 dsimp only
 split
 ·rename_i y q
  rw[q]at e
  exact congrArg some e
 ·rename_i q
  rw[q]at e
  have a:es.toList.any (·.refKey)=false:=by
   rw[List.any_eq_false]
   intro y hy
   obtain⟨z,t,hkey⟩:=hk y (Array.mem_toList_iff.mp hy)
   simp[DictEntry.refKey,hkey]
  have a':¬es.toList.any (·.refKey)=true:=by rw[a];exact Bool.false_ne_true
  rw[if_neg a']
  exact congrArg some e
theorem Pu.look{h:Heap}{x dx C:Addr}{mA:Str→Option Value}(I:Pu h x dx C mA):∃od,PySem.W.InstAt h x (PySem.W.instObj C dx) C (some od)∧∀name,PySem.W.lookIn name od=some (mA name):=
 let⟨od,ho,hl⟩:=Hl I.ns
 ⟨od,⟨I.obj,rfl,rfl,ho⟩,hl⟩
section
variable{prog:Program}{w:World}{A:Around}{E:Value→Shared→Prop}{s:Shared}{K:PySem.W.Frag}{x dx C f:Addr}{mA:Str→Option Value}{name:Str}{v:Value}
theorem get_map{expr:Bool}{Q:Value→Shared→Prop}(X:K.In s.heap)(I:Pu s.heap x dx C mA)(hg:PySem.W.plainGet K C name=true)(hh:PySem.W.hasDictIn K C=true)
  (ha:PySem.W.findIn K (.ref C) name=some none) (hv:mA name=some v) (hv':PySem.W.handedIn v=true) (h:Q v {s with toks:=s.toks+1}):
  wpAny (model prog w) A (getAttr (.ref x) name expr) Q E s:=by
 obtain⟨od,J,hl⟩:=I.look
 exact PySem.W.get_value X J (PySem.W.plainGet_of hg).1 (PySem.W.findObj_own hh ha rfl (by rw[hl,hv])) hv' h
theorem Wh{pl:Sem Bool}{Q:Value×List Value→Shared→Prop}(X:K.In s.heap)(I:Pu s.heap x dx C mA)(hg:PySem.W.plainGet K C name=true)
  (hf:PySem.W.findIn K (.ref C) name=some (some (.ref f))) (ht:PySem.W.isFn K (.ref f)=true) (hv:mA name=none) (h:Q (.ref f,[.ref x]) s):
  wpAny (model prog w) A (getMethod (.ref x) name pl) Q E s:=by
 obtain⟨od,J,hl⟩:=I.look
 exact PySem.W.method_fn X J (PySem.W.plainGet_of hg).1 (PySem.W.plainGet_of hg).2 hf (beq_iff_eq.mp ht) (by show(PySem.W.lookIn name od).map (·.isSome)=some false;rw[hl,hv];rfl) h
theorem Xx{ns:List Str}{Q:Unit→Shared→Prop}(X:K.In s.heap)(I:Pu s.heap x dx C mA)
  (hs:PySem.W.findIn K (.ref C) "__setattr__" = some (some (.builtin "object.__setattr__"))) (hp:PySem.W.plainOver K C=true) (ht:PySem.W.takerIn K C name=some none) (hh:PySem.W.hasDictIn K C=true)
  (hw:PySem.Within mA ns) (hsz:ns.length≤sizeLine)
  (h:∀h',Pu h' x dx C (fun y=>if y=name then some v else mA y)→Heap.SameBut dx s.heap h'→Q () {s with heap:=h',toks:=s.toks+2}):
  wpAny (model prog w) A (setAttr (.ref x) name v) Q E s:=by
 obtain⟨od,J,hl⟩:=I.look
 refine PySem.W.set_plain X J hs (PySem.W.osa_open (s:={s with toks:=s.toks+1}) (r:=none) X J hp ht fun b=> ?_)
 obtain⟨cd,hc,hd'⟩:=PySem.W.any_some hh
 have hx:s.heap.get? x=some ⟨.ref C,some dx,.plain,#[]⟩:=I.obj
 refine wpAny_bind (wpAny_pure (wpAny_bind (wpAny_bind (wpAny_loadPart hx (wpAny_bind (PySem.W.Looks.here (s:={s with toks:=s.toks+1}) (PySem.W.looks_clsIn X hc) ?_))))))
 rw[hd']
 refine wpAny_pure (a:=some dx) (wpAny_bind (wpAny_pure (wpAny_bind ?_)))
 refine wpAny_nsSet1 (s:={s with toks:=s.toks+1}) I.ns fun h' hn2 hs2=> ?_
 obtain⟨oD,esD,epD,hoD,hdD,hcD⟩:=hn2.count (PySem.Within.cons name v hw)
 refine wpAny_bind (wpAny_lookBehind hoD (by rw[hdD];exact pastItsLine_dict (Nat.le_trans hcD (by rw[List.length_cons];omega))) ?_)
 exact wpAny_pure (h _ ⟨(hs2.2 _ (Ne.symm I.ne)).trans I.obj,hn2,I.ne⟩ hs2)
theorem VN{R:Result→Shared→Prop}{vs:List Value}{kw:List (Str×Value)}(X:K.In s.heap)(hm:PySem.W.makesIn K C=true)
  (hi:PySem.W.findIn K (.ref C) "__init__" = some (some (.ref f))) (hf:PySem.W.typeIn K (.ref f)=some (.type "function"))
  (h:codeAny (model prog w) (A.under (.builtin "type.__call__" ⟨.ref C::vs,kw⟩)) (.call (.ref f) ⟨.ref (s.heap.objs.size+1)::vs,kw⟩) (PySem.W.InitBack (s.heap.objs.size+1) R)
   {s with heap:=(s.heap.push PySem.W.emptyDict).push (PySem.W.instObj C s.heap.objs.size)}):
  codeAny (model prog w) A (.call (.ref C) ⟨vs,kw⟩) R s:=by
 obtain⟨hh,g,d,t,os⟩:=s
 exact PySem.W.make_core (PySem.W.makes_of X hm) (PySem.W.looks_findIn X hi) (fun self=>PySem.W.bind_fn X self hf) (.inl rfl) h
end
def uh(f:Str)(v:V):List (Str×V)→List (Str×V)
 | []=>[(f,v)]
 | (g,x)::r=>if g=f then(g,v)::r else(g,x)::uh f v r
theorem Cv(f g:Str)(v:V):∀fs:List (Str×V),(uh f v fs).lookup g=if g=f then some v else fs.lookup g
 | []=>by
  show List.lookup g [(f,v)]=_
  by_cases h:g=f
  ·have hb:(g==f)=true:=beq_iff_eq.mpr h
   simp only[List.lookup,hb,if_pos h]
  ·have hb:(g==f)=false:=beq_eq_false_iff_ne.mpr h
   simp only[List.lookup,hb,if_neg h]
 | (k,x)::r=>by
  have ih:=Cv f g v r
  rw[show uh f v ((k,x)::r)=(if k=f then(k,v)::r else(k,x)::uh f v r)from rfl]
  by_cases hk:k=f
  ·rw[if_pos hk]
   by_cases h:g=k
   ·have hb:(g==k)=true:=beq_iff_eq.mpr h
    simp only[List.lookup,hb,if_pos (h.trans hk)]
   ·have hb:(g==k)=false:=beq_eq_false_iff_ne.mpr h
    simp only[List.lookup,hb,if_neg (fun e:g=f=>h (e.trans hk.symm))]
  ·rw[if_neg hk]
   by_cases h:g=k
   ·have hb:(g==k)=true:=beq_iff_eq.mpr h
    simp only[List.lookup,hb,if_neg (fun e:g=f=>hk (h.symm.trans e))]
   ·have hb:(g==k)=false:=beq_eq_false_iff_ne.mpr h
    simp only[List.lookup,hb]
    exact ih
theorem BK(f:Str)(v:V):∀fs:List (Str×V),f∈(uh f v fs).map (·.1)∧∀g,g∈fs.map (·.1)→g∈(uh f v fs).map (·.1)
 | []=>⟨by simp[uh],fun g h=>by simp at h⟩
 | (k,x)::r=>by
  obtain⟨i1,i2⟩:=BK f v r
  rw[show uh f v ((k,x)::r)=(if k=f then(k,v)::r else(k,x)::uh f v r)from rfl]
  by_cases hk:k=f
  ·rw[if_pos hk]
   subst hk
   exact⟨by simp,fun g h=>by simpa using h⟩
  ·rw[if_neg hk]
   refine⟨?_,fun g h=> ?_⟩
   ·rw[List.map_cons]
    exact List.mem_cons_of_mem _ i1
   ·rw[List.map_cons]at h ⊢
    rcases List.mem_cons.mp h with e | e
    ·exact List.mem_cons.mpr (.inl e)
    ·exact List.mem_cons_of_mem _ (i2 g e)
theorem Cw(f:Str)(v:V):∀fs:List (Str×V),(uh f v fs).length≤fs.length+1
 | []=>by simp[uh]
 | (k,x)::r=>by
  have ih:=Cw f v r
  rw[show uh f v ((k,x)::r)=(if k=f then(k,v)::r else(k,x)::uh f v r)from rfl]
  by_cases hk:k=f
  ·rw[if_pos hk,List.length_cons,List.length_cons];omega
  ·rw[if_neg hk,List.length_cons,List.length_cons];omega
theorem yI.some_of{v:V}{o:Option Value}(r:yI (some v) o):∃u,o=some u∧RelV v u:=by
 cases o with
 | none=>exact(show False from r).elim
 | some u=>exact⟨u,rfl,r⟩
theorem yI.none_of{o:Option Value}(r:yI none o):o=none:=by
 cases o with
 | none=>rfl
 | some u=>exact(show False from r).elim
theorem Hu{v:V}{u:Value}(r:RelV v u):PySem.W.handedIn u=true:=by
 cases v with
 | non=>cases(show u=Value.none from r);rfl
 | bl b=>cases(show u=Value.bool b from r);rfl
 | int i=>obtain⟨t,e⟩:=(show ∃t,u=Value.int i t from r);cases e;rfl
 | str x=>obtain⟨t,e⟩:=(show ∃t,u=Value.str x t from r);cases e;rfl
 | byt b=>obtain⟨t,e⟩:=(show ∃t,u=Value.bytes b t from r);cases e;rfl
 | flt b=>obtain⟨t,e⟩:=(show ∃t,u=Value.float b t from r);cases e;rfl
 | ref a=>cases(show u=Value.ref a from r);rfl
 | ty n=>cases(show u=Value.type n from r);rfl
section
variable{P:Program}{w:World}{H H':Hp}{h h':Heap}{a C dx:Addr}{fs fs':List (Str×V)}
theorem J0(hok:ud P w H h)(e:H a=some (.ins C dx fs)):∃mA,Pu h a dx C mA∧(∀f,yI (fs.lookup f) (mA f))∧PySem.Within mA (fs.map (·.1))∧fs.length≤1000∧H dx=some (.own a):=by
 obtain⟨d,z,ne,ob,mA,n,r,q⟩:=(show jn P w H h a (.ins C dx fs)from hok a _ e)
 exact⟨mA,⟨ob,n,ne⟩,r,q,z,d⟩
end
structure Np(K:PySem.W.Frag)(C:Addr):Prop where
 pg:PySem.W.plainGet K C Str.empty=true
 hd:PySem.W.hasDictIn K C=true
 po:PySem.W.plainOver K C=true
 sa:PySem.W.findIn K (.ref C) "__setattr__" = some (some (.builtin "object.__setattr__"))
theorem Np.get{K:PySem.W.Frag}{C:Addr}(c:Np K C)(f:Str):PySem.W.plainGet K C f=true:=c.pg
def j7(K:PySem.W.Frag)(C:Addr)(f:Str):Prop:=PySem.W.findIn K (.ref C) f=some none
theorem j7.taker{K:PySem.W.Frag}{C:Addr}{f:Str}(n:j7 K C f):PySem.W.takerIn K C f=some none:=by
 unfold PySem.W.takerIn
 rw[show PySem.W.findIn K (.ref C) f=some none from n]
 rfl
structure Meth(K:PySem.W.Frag)(C:Addr)(m:Str)(f:Addr):Prop where
 at_:PySem.W.findIn K (.ref C) m=some (some (.ref f))
 fn:PySem.W.isFn K (.ref f)=true
 kp:PySem.W.keepIn K (.ref f)=true
section
variable{X:Cx}{pins:List (Addr×Obj)}{σ:St}{H:Hp}{s:Shared}{a C dx:Addr}{fs:List (Str×V)}{f:Str}{v:V}{A:Around}{E:Value→Shared→Prop}
theorem O4{b:Bool}{Q:Value→Shared→Prop}(I:Inv X pins σ H s)(e:H a=some (.ins C dx fs))(c:Np X.K C)(n:j7 X.K C f)(l:fs.lookup f=some v)
  (h:∀u s',Inv X pins σ H s'→RelV v u→Q u s'):wpAny (model X.prog X.w) A (getAttr (.ref a) f b) Q E s:=by
 obtain⟨mA,O,r,_,_,_⟩:=J0 I.hok e
 obtain⟨u,hu,ru⟩:=yI.some_of (v:=v) (o:=mA f) (by rw[←l];exact r f)
 exact get_map I.Cy O (c.get f) c.hd n hu (Hu ru) (h u _ (I.tok _) ru)
theorem Fq{m:Str}{g:Addr}{pl:Sem Bool}{Q:Value×List Value→Shared→Prop}(I:Inv X pins σ H s)(e:H a=some (.ins C dx fs))(c:Np X.K C)(k:Meth X.K C m g)(l:fs.lookup m=none)
  (h:Q (.ref g,[.ref a]) s):wpAny (model X.prog X.w) A (getMethod (.ref a) m pl) Q E s:=by
 obtain⟨mA,O,r,_,_,_⟩:=J0 I.hok e
 have hn:mA m=none:=yI.none_of (by rw[←l];exact r m)
 exact Wh I.Cy O (c.get m) k.at_ k.fn hn h
theorem NZ{y:V}{u:Value}{Q:Unit→Shared→Prop}(I:Inv X pins σ H s)(e:H a=some (.ins C dx fs))(c:Np X.K C)(n:j7 X.K C f)(hl:fs.length<1000)(ry:RelV y u)
  (h:∀s',Inv X pins σ (upd H a (.ins C dx (uh f y fs))) s'→Q () s'):wpAny (model X.prog X.w) A (setAttr (.ref a) f u) Q E s:=by
 obtain⟨mA,O,r,wi,_,ho⟩:=J0 I.hok e
 have hz:(fs.map (·.1)).length≤sizeLine:=by rw[List.length_map,sizeLine_eq];omega
 refine Xx I.Cy O c.sa c.po n.taker c.hd wi hz fun h' O' sb=>h _ ?_
 have hd:∃o,h'.get? dx=some o:=let⟨o,_,_,e',_⟩:=O'.ns;⟨o,e'⟩
 refine I.write (x:=a) (e:=dx) (by rw[e];exact True.intro) (.inr ho) (fun b q hb z=>(sb.2 b hb).trans z) hd ?_
 refine⟨by rw[bA O.ne];exact ho,?_,O.ne,O'.obj,_,O'.ns,fun g=> ?_,fun g hg=> ?_⟩
 ·have:=Cw f y fs;omega
 ·show yI ((uh f y fs).lookup g) (if g=f then some u else mA g)
  rw[Cv]
  by_cases q:g=f
  ·rw[if_pos q,if_pos q];exact ry
  ·rw[if_neg q,if_neg q];exact r g
 ·by_cases q:g=f
  ·rw[q];exact(BK f y fs).1
  ·refine(BK f y fs).2 g (wi g fun z=>hg ?_)
   show(if g=f then some u else mA g)=none
   rw[if_neg q];exact z
theorem Inv.made(I:Inv X pins σ H s):Inv X pins σ (upd (upd H s.heap.objs.size (.own (s.heap.objs.size+1))) (s.heap.objs.size+1) (.ins C s.heap.objs.size []))
  {s with heap:=(s.heap.push PySem.W.emptyDict).push (PySem.W.instObj C s.heap.objs.size)}:=by
 have e1:(s.heap.push PySem.W.emptyDict).get? s.heap.objs.size=some PySem.W.emptyDict:=Heap.get?_push_size s.heap rfl
 have e2:((s.heap.push PySem.W.emptyDict).push (PySem.W.instObj C s.heap.objs.size)).get? (s.heap.objs.size+1)=some (PySem.W.instObj C s.heap.objs.size):=by
  have:=Heap.get?_push_size (s.heap.push PySem.W.emptyDict) (o:=PySem.W.instObj C s.heap.objs.size) rfl
  rwa [Heap.size_push]at this
 have e3:(s.heap.push PySem.W.emptyDict).Ns s.heap.objs.size (fun _=>none):=⟨PySem.W.emptyDict,#[],_,e1,rfl,(fun e he=>absurd he (by simp)),fun _=>rfl⟩
 have I1:=I.laid (a:=s.heap.objs.size) (o:= .own (s.heap.objs.size+1)) (h':=s.heap.push PySem.W.emptyDict) (t':=s.toks) (fun b u q=>Heap.get?_push_of_some _ q) (Nat.le_refl _) ⟨_,e1⟩
 refine I1.laid (a:=s.heap.objs.size+1) (o:= .ins C s.heap.objs.size []) (t':=s.toks) (fun b u q=>Heap.get?_push_of_some _ q) (Nat.le_of_eq (Heap.size_push _ _)) ?_
 have ne:s.heap.objs.size≠s.heap.objs.size+1:=Nat.ne_of_lt (Nat.lt_succ_self _)
 refine⟨by rw[bA ne,d7],Nat.zero_le _,ne,e2,fun _=>none,(Heap.Ns1.of_empty e3).at fun o q=>Heap.get?_push_of_some _ q,fun _=>True.intro,fun y hy=>absurd rfl hy⟩
theorem Rh{prog:Program}{w:World}{env:Env}{e:Expr}{f:Str}{pos:Pos}{s:Shared}{Q:Value→Shared→Prop}(hb:attributeBase e f env (eval e env)=eval e env)
  (h:wpAny (model prog w) A (eval e env) (fun o s₁=>wpAny (model prog w) A (getAttr o f true) Q E s₁) E s):wpAny (model prog w) A (eval (.Attribute e f pos) env) Q E s:=
 Attribute_any_ h (by rw[arm_eval_Attribute,hb])
end
def ajp(K:PySem.W.Frag)(ta:TE)(f:Str):TE:=fun σ H Q=>ta σ H fun x H1=>∃a C dx fs v,x= .ref a∧H1 a=some (.ins C dx fs)∧Np K C∧j7 K C f∧fs.lookup f=some v∧Q v H1
def ajY(K:PySem.W.Frag)(ta tv:TE)(f:Str):TS:=fun D σ H=>tv σ H fun y H1=>ta σ H1 fun x H2=>∃a C dx fs,x= .ref a∧H2 a=some (.ins C dx fs)∧Np K C∧j7 K C f∧fs.length<1000∧
 D.nx σ (upd H2 a (.ins C dx (uh f y fs)))
section
variable{X:Cx}{o e value:Expr}{f:Str}{pos pos' tpos:Pos}{ta tv:TE}
theorem aaV(he:PE X e ta)(hb:attributeBase e f X.env (eval e X.env)=eval e X.env):PE X (.Attribute e f pos) (ajp X.K ta f):=by
 intro pins s σ H Q I h
 refine Rh hb (jh (he pins s σ H _ I h) fun u s1 ⟨x,H1,I1,rx,a,C,dx,fs,v,ex,ea,c,n,l,q⟩=> ?_)
 subst ex
 obtain rfl:u=Value.ref a:=rx
 exact O4 I1 ea c n l fun u' s2 I2 ru=>⟨v,H1,I2,ru,q⟩
theorem aaK(ha:PE X o ta)(hv:PE X value tv)(hs:swapsWith value (some (.Attribute o f pos')) pos.line X.env=pure false):PS X (.Assign [.Attribute o f pos'] value pos) (ajY X.K ta tv f):=by
 intro pins s σ H D I h
 refine plainObj_wpAny_Assign_Attribute (jh (hv pins s σ H _ I h) fun u s1 ⟨y,H1,I1,ry,q⟩=>jh (ha pins s1 σ H1 _ I1 q) fun ov s2 ⟨x,H2,I2,rx,a,C,dx,fs,ex,ea,c,n,l,q2⟩=> ?_) hs
 subst ex
 obtain rfl:ov=Value.ref a:=rx
 exact NZ I2 ea c n l ry fun s3 I3=>⟨σ,_,I3,q2⟩
end
section
variable{X:Cx}{pins:List (Addr×Obj)}{σ:St}{H:Hp}{s:Shared}{A:Around}{E:Value→Shared→Prop}{Q:Value→Shared→Prop}{c:Value}{b:Bool}
end
end L2
namespace L2
open PySem PySem.Spec PyProof.Rows
structure j6(k:Nat)(A:Around):Prop where
 hd:A.handled=none
 dp:A.depth+3*k+5<recursionLimit
 un:A.units+16*k+200<cLine
theorem j6.mono{j k:Nat}{A:Around}(r:j6 k A)(h:j≤k):j6 j A:=⟨r.hd,by have:=r.dp;omega,by have:=r.un;omega⟩
theorem j6.deeper{k:Nat}{A:Around}(r:j6 (k+1) A)(env:Env):j6 k (A.deeper env):=
 ⟨r.hd,by have:=r.dp;show A.depth+1+3*k+5<_;omega,by have:=r.un;show A.units+3+16*k+200<_;omega⟩
theorem j6.in1{k:Nat}{A:Around}(r:j6 (k+1) A):j6 k A.in1:=
 ⟨r.hd,by have:=r.dp;show A.depth+3*k+5<_;omega,by have:=r.un;show A.units+1+16*k+200<_;omega⟩
theorem Ov{A:Around}{C:Addr}{us:List Value}{kw:List (Str×Value)}:(A.under (.builtin "type.__call__" ⟨.ref C::us,kw⟩)).depth=A.depth+1:=by
 first | rfl | simp[Around.under,Code.weight,Code.isCreation,Code.isGuard,Code.isCaller,Code.frames,Code.isFrame,guardIds]
theorem Ou{A:Around}{C:Addr}{us:List Value}{kw:List (Str×Value)}:(A.under (.builtin "type.__call__" ⟨.ref C::us,kw⟩)).units=A.units+1:=by
 first | rfl | simp[Around.under,Code.cUnits,Code.frames,Code.isFrame]
theorem j6.make{k:Nat}{A:Around}(r:j6 (k+1) A)(C:Addr)(us:List Value)(kw:List (Str×Value)):j6 k (A.under (.builtin "type.__call__" ⟨.ref C::us,kw⟩)):=
 ⟨r.hd,by have:=r.dp;rw[Ov];omega,by have:=r.un;rw[Ou];omega⟩
theorem j6.depth{k:Nat}{A:Around}(r:j6 k A):A.depth<recursionLimit:=by have:=r.dp;omega
theorem j6.units{k:Nat}{A:Around}(r:j6 k A):A.units+64<cLine:=by have:=r.un;omega
def adg:TA:=fun _ H Q=>Q [] H
def adl(ta:TE)(tr:TA):TA:=fun σ H Q=>ta σ H fun x H1=>tr σ H1 fun xs H2=>Q (x::xs) H2
section
variable{X:Cx}{e:Expr}{es:List Expr}{te:TE}{t:TA}{pos:Pos}
theorem aaX:PA X [] adg:=fun _ _ _ _ H Q I h=>Calls.spliced_nil ⟨[],H,I,.nil,h⟩
theorem Ye(ha:PE X e te)(hr:PA X es t)(hs:starEach (e::es) X.env=(false,eval e X.env)::starEach es X.env:=by rfl):PA X (e::es) (adl te t):=by
 intro pos pins s σ H Q I h
 rw[hs]
 show wpAny _ _ (spliced ((false,eval e X.env)::backTo pos (starEach es X.env))) _ _ s
 refine Calls.spliced_cons (jh (ha pins s σ H _ I h) fun u s1 ⟨x,H1,I1,r1,q1⟩=> ?_)
 exact jh (hr pos pins s1 σ H1 _ I1 q1) fun us s2 ⟨xs,H2,I2,r2,q2⟩=>⟨x::xs,H2,I2,.cons r1 r2,q2⟩
def ajh(t:TA):TE:=fun σ H Q=>t σ H fun xs H1=>xs.length≤sizeLine∧∀p,H1 p=none→Q (.ref p) (upd H1 p (.tup xs))
def ajm(t:TA):TE:=fun σ H Q=>t σ H fun xs H1=>xs.length≤sizeLine∧∀p,H1 p=none→Q (.ref p) (upd H1 p (.lst xs))
theorem aaO{x1}(h:PA X es t):PE X (.Tuple es x1 pos) (ajh t):=by
 intro pins s σ H Q I hq
 refine wpAny_Tuple_spliced (jh (h pos pins s σ H _ I hq) fun us s1 ⟨xs,H1,I1,r,z,q⟩=>⟨by rw[←r.length];exact z,?_⟩)
 have hf:H1 s1.heap.objs.size=none:=I1.hok.fresh (Nat.le_refl _)
 refine⟨.ref s1.heap.objs.size,upd H1 s1.heap.objs.size (.tup xs),I1.laid (t':=s1.toks) (fun b u e=>Heap.get?_push_of_some _ e) (Nat.le_refl _) ?_,rfl,q _ hf⟩
 exact⟨z,us,r,⟨_,Heap.get?_push_size _ rfl,rfl,_,rfl⟩⟩
theorem aaT(h:PA X es t):PE X (.List es pos) (ajm t):=by
 intro pins s σ H Q I hq
 refine wpAny_List_spliced (jh (h pos pins s σ H _ I hq) fun us s1 ⟨xs,H1,I1,r,z,q⟩=>⟨by rw[←r.length];exact z,?_⟩)
 have hf:H1 s1.heap.objs.size=none:=I1.hok.fresh (Nat.le_refl _)
 refine⟨.ref s1.heap.objs.size,upd H1 s1.heap.objs.size (.lst xs),I1.laid (t':=s1.toks) (fun b u e=>Heap.get?_push_of_some _ e) (Nat.le_refl _) ?_,rfl,q _ hf⟩
 exact⟨z,us,0,r,Heap.get?_push_size _ rfl⟩
end
abbrev Sp:=List V→Hp→VK→XK→Prop
abbrev PB:=List Env→Hp→Shared→XK→Value→Shared→Prop
structure GR(P:Program)(w:World)(K:PySem.W.Frag)(mg:Str→Option Value)(base:Heap)(A:Around)(outer:List Env)(s:Shared)(H:Hp):Prop where
 frames:A.frames=some outer
 mod:Mod K mg base
 bs:∀b o,base.get? b=some o→s.heap.get? b=some o∧H b=none
 Nh:base.objs.size≤s.heap.objs.size
 xU:s.heap.FunFrames base outer
 Wk:∀b∈frs outer,H b=none
 hok:ud P w H s.heap
 bare:AllBare s.gens
def CE(outer:List Env)(P:Program)(w:World)(H:Hp)(s:Shared)(Q:VK)(u:Value)(s':Shared):Prop:=
 ∃v H',s'.os=s.os∧AllBare s'.gens∧Un (frs outer) [] H H' s.heap s'.heap∧ud P w H' s'.heap∧RelV v u∧Q v H'
def CR(CX:PB)(outer:List Env)(P:Program)(w:World)(H:Hp)(s:Shared)(Q:VK)(E:XK)(r:Result)(s':Shared):Prop:=
 match r with
 | .ok (.ret u)=>CE outer P w H s Q u s'
 | .ok _=>False
 | .error e=>CX outer H s E e s'
structure bB(P:Program)(w:World)(K:PySem.W.Frag)(mg:Str→Option Value)(base:Heap)(CX:PB)(k:Nat)(f:Addr)(fd:FuncData)(ps:List Str)(sp:Sp):Prop where
 len:∀vs H Q E,sp vs H Q E→vs.length=ps.length
 run:∀(A:Around) (outer:List Env) (s:Shared) (H:Hp) (args:Args) (us:List Value) (vs:List V) (Q:VK) (E:XK),j6 k A→GR P w K mg base A outer s H→BindsTo s fd args (ps.zip us)→Vals vs us→sp vs H Q E→
  codeAny (model P w) A (.call (.ref f) args) (CR CX outer P w H s Q E) s
theorem bB.imp{P:Program}{w:World}{K:PySem.W.Frag}{mg:Str→Option Value}{base:Heap}{CX:PB}{k:Nat}{f:Addr}{fd:FuncData}{ps:List Str}{sp sp':Sp}(F:bB P w K mg base CX k f fd ps sp)
  (h:∀vs H Q E,sp' vs H Q E→sp vs H Q E):bB P w K mg base CX k f fd ps sp':=
 ⟨fun vs H Q E q=>F.len vs H Q E (h _ _ _ _ q),fun A outer s H args us vs Q E hr he hb hv hs=>F.run A outer s H args us vs Q E hr he hb hv (h _ _ _ _ hs)⟩
theorem GR.make{P:Program}{w:World}{K:PySem.W.Frag}{mg:Str→Option Value}{base:Heap}{A:Around}{outer:List Env}{s:Shared}{H:Hp}(e:GR P w K mg base A outer s H)(C:Addr)(us:List Value)(kw:List (Str×Value)):
  GR P w K mg base (A.under (.builtin "type.__call__" ⟨.ref C::us,kw⟩)) outer s H:=⟨by first | exact e.frames | (simpa[Around.under,Code.envs,Code.isFrame,pushEnvs]using e.frames),e.mod,e.bs,e.Nh,e.xU,e.Wk,e.hok,e.bare⟩
theorem GR.in1{P:Program}{w:World}{K:PySem.W.Frag}{mg:Str→Option Value}{base:Heap}{A:Around}{outer:List Env}{s:Shared}{H:Hp}(e:GR P w K mg base A outer s H):
  GR P w K mg base A.in1 outer s H:=⟨e.frames,e.mod,e.bs,e.Nh,e.xU,e.Wk,e.hok,e.bare⟩
section
variable{X:Cx}{pins:List (Addr×Obj)}{σ:St}{H:Hp}{s s':Shared}
theorem Inv.env0(I:Inv X pins σ H s):GR X.prog X.w X.K X.mg X.base X.A X.stack s H:=
 ⟨I.ok.frames,I.ok.mod,I.bs,Nat.le_trans I.ok.Nh I.sz,I.stack,I.zP,I.hok,I.bare⟩
theorem Inv.after{Q:VK}{u:Value}(I:Inv X pins σ H s)(h:CE X.stack X.prog X.w H s Q u s'):EP X pins σ Q u s':=by
 obtain⟨v,H',os,bare,un,hok,r,q⟩:=h
 obtain⟨hh,g,d,t,os'⟩:=s'
 obtain rfl:os'=s.os:=os
 exact⟨v,H',I.call (h':=hh) (g':=g) (d':=d) (t':=t) (ch:=[]) un hok bare (fun b z=>absurd z (by simp)),r,q⟩
end
def Binds(K:PySem.W.Frag)(fd:FuncData)(ps:List Str)(ds:List Value):Prop:=
 ∀(s:Shared) (us:List Value),K.In s.heap→(us++ds).length=ps.length→BindsTo s fd ⟨us,[]⟩ (ps.zip (us++ds))
theorem Binds.all{K:PySem.W.Frag}{fd:FuncData}{ps:List Str}(h:∀us:List Value,us.length=ps.length→bindArgs fd ⟨us,[]⟩=pure (ps.zip us)):Binds K fd ps []:=fun s us _ hl=>by
 rw[List.append_nil]at hl ⊢
 exact .of_eq (h us hl)
section
variable{X:Cx}{CX:PB}{k:Nat}{f C:Addr}{fd:FuncData}{ps:List Str}{sp:Sp}{yx:List V}{ds:List Value}{E:XK}{x m:Str}{p pos apos:Pos}{e o:Expr}{es:List Expr}{ta:TE}{t:TA}
structure Mk(K:PySem.W.Frag)(C f:Addr):Prop where
 makes:PySem.W.makesIn K C=true
 init:PySem.W.findIn K (.ref C) "__init__" = some (some (.ref f))
 fn:PySem.W.isFn K (.ref f)=true
 kp:PySem.W.keepIn K (.ref C)=true
end
section
variable{X:Cx}{CX:PB}{k:Nat}{f C:Addr}{fd:FuncData}{ps ks:List Str}{sp:Sp}{E:XK}{x m:Str}{p pos apos kpos:Pos}{e o:Expr}{es:List Expr}{kws:List Keyword}{te ta:TE}{t tk:TA}{nm:Option Str}
variable{g:List Value→List Value→List Value}{gV:List V→List V→List V}
end
structure bu(N P:List Str)(sc:Scope):Prop where
 kind:sc.kind= .function
 co:sc.isCoroutine=false
 gen:sc.isGenerator=false
 nd:N.Nodup
 pre:N.take P.length=P
 par:∀x∈P,sc.names.lookup x=some .local∨sc.names.lookup x=some .cell
 abf:∀y∈sc.names,y.2≠ .free
theorem HR{kindOf:Str→Option NameKind}{x:Str}:∀{binds:List (Str×Value)} {m:Str→Option Value},(∀v,(x,v)∉binds)→bindL kindOf binds m x=m x
 | [],_,_=>rfl
 | (n,v)::r,m,h=>by
  unfold bindL
  rw[HR fun w hw=>h w (List.mem_cons_of_mem _ hw)]
  split
  ·have:x≠n:=by rintro rfl;exact h v List.mem_cons_self
   simp[this]
  ·rfl
theorem HW{kindOf:Str→Option NameKind}{x:Str}:∀{binds:List (Str×Value)} {m:Str→Option Value},(∀v,(x,v)∉binds)→bindC kindOf binds m x=m x
 | [],_,_=>rfl
 | (n,v)::r,m,h=>by
  unfold bindC
  rw[HW fun w hw=>h w (List.mem_cons_of_mem _ hw)]
  split
  ·rfl
  ·have:x≠n:=by rintro rfl;exact h v List.mem_cons_self
   simp[this]
theorem HS{kindOf:Str→Option NameKind}{x:Str}{v:Value}:∀{P:List Str} {vs:List Value} {i:Nat} {m:Str→Option Value},P.Nodup→P[i]? = some x→vs[i]? = some v→kindOf x=some .local→
  bindL kindOf (P.zip vs) m x=some v
 | [],_,_,_,_,h,_,_=>by simp at h
 | _::_,[],_,_,_,_,h,_=>by simp at h
 | p::P,w::vs,0,m,nd,h1,h2,hk=>by
  simp at h1 h2;subst h1;subst h2
  show bindL kindOf ((p,w)::P.zip vs) m p=_
  unfold bindL
  rw[HR fun v hv=>(List.nodup_cons.mp nd).1 (List.of_mem_zip hv).1,if_pos hk]
  simp
 | p::P,w::vs,i+1,m,nd,h1,h2,hk=>by
  show bindL kindOf ((p,w)::P.zip vs) m x=_
  unfold bindL
  exact HS (i:=i) (List.nodup_cons.mp nd).2 (by simpa using h1) (by simpa using h2) hk
theorem HX{kindOf:Str→Option NameKind}{x:Str}{v:Value}:∀{P:List Str} {vs:List Value} {i:Nat} {m:Str→Option Value},P.Nodup→P[i]? = some x→vs[i]? = some v→kindOf x≠some .local→
  bindC kindOf (P.zip vs) m x=some v
 | [],_,_,_,_,h,_,_=>by simp at h
 | _::_,[],_,_,_,_,h,_=>by simp at h
 | p::P,w::vs,0,m,nd,h1,h2,hk=>by
  simp at h1 h2;subst h1;subst h2
  show bindC kindOf ((p,w)::P.zip vs) m p=_
  unfold bindC
  rw[HW fun v hv=>(List.nodup_cons.mp nd).1 (List.of_mem_zip hv).1,if_neg hk]
  simp
 | p::P,w::vs,i+1,m,nd,h1,h2,hk=>by
  show bindC kindOf ((p,w)::P.zip vs) m x=_
  unfold bindC
  exact HX (i:=i) (List.nodup_cons.mp nd).2 (by simpa using h1) (by simpa using h2) hk
def start(N:List Str)(vs:List V):St:=vs.map some++List.replicate (N.length - vs.length) none
def yg(CX:PB)(P:Program)(w:World)(K:PySem.W.Frag)(mg:Str→Option Value)(base:Heap)(N:List Str)(qual:Str)(scope:Scope)(f:Addr)(cd:Value)(A:Around)(outer:List Env)(s:Shared)(H:Hp)(E:XK):Cx where
 prog:=P
 w:=w
 K:=K
 mg:=mg
 base:=base
 A:=A.deeper (envOfC qual scope s.heap.objs.size f cd)
 N:=N
 s₀:=s
 H₀:=H
 env:=envOfC qual scope s.heap.objs.size f cd
 outer:=outer
 stack:=envOfC qual scope s.heap.objs.size f cd::outer
 ex:=[]
 calm:=true
 fn:=fun _=>true
 pn:=[]
 xe:=fun e s'=>wpAny (model P w) (A.deeper (envOfC qual scope s.heap.objs.size f cd)) (leaving (envOfC qual scope s.heap.objs.size f cd) e) (fun _ s''=>CX outer H s E e s'') (fun e' s''=>CX outer H s E e' s'') s'
theorem Mt{sc:Scope}{n:Nat}{x:Str}(h:sc.names.lookup x=some .cell):∃c,(cellsFrom n sc.names []).lookup x=some c:=by
 have q:=PySem.W.cellsFrom_some sc.names n [] (.inl h)
 exact Option.isSome_iff_exists.mp q
theorem S6{CX:PB}{P:Program}{w:World}{K:PySem.W.Frag}{mg:Str→Option Value}{base:Heap}{N ps:List Str}{qual:Str}{scope:Scope}{f:Addr}{cd:Value}{A:Around}{outer:List Env}{s s1:Shared}{H:Hp}{E:XK}{us:List Value}{vs:List V}
  (S:bu N ps scope) (hd:A.handled=none) (e0:GR P w K mg base A outer s H) (hl:vs.length=ps.length) (r:Vals vs us)
  (x:InCallC s s.heap.objs.size (bindL (envOfC qual scope s.heap.objs.size f cd).kindOf (ps.zip us) fun _=>none) (cellsFrom (s.heap.objs.size+1) scope.names []) (bindC (envOfC qual scope s.heap.objs.size f cd).kindOf (ps.zip us) fun _=>none) s1):
  Inv (yg CX P w K mg base N qual scope f cd A outer s H E) [] (start N vs) H s1:=by
 have hpl:ps.length≤N.length:=by have:=congrArg List.length S.pre;rw[List.length_take]at this;omega
 obtain⟨h1,tk,rfl,hk⟩:=x.done
 have noA:∀b:Addr,b∉(yg CX P w K mg base N qual scope f cd A outer s H E).ex:=fun b z=>absurd (show b∈([]:List Addr)from z) (by simp)
 refine⟨⟨e0.mod,S.kind,rfl,rfl,Nat.le_refl _,fun y z c h1 h2=> ?_,fun y hy=> ?_,fun y c _ h=> ?_,fun _=>hd,Around.frames_deeper e0.frames,.inr ⟨rfl,rfl⟩,fun b z=>absurd z (noA b),e0.bs,e0.Nh,fun b _ _=>noA b,fun b z=>absurd z (noA b),e0.xU,e0.Wk⟩,
  rfl,e0.bare,Un.kept hk,⟨_,x.toInCall.ns,fun i y v h1 h2 h3=> ?_⟩,fun y c h=>⟨_,x.cell y c h⟩,e0.hok.fresh (Nat.le_refl _),fun y c h=> ?_,fun p hp=>absurd (show p∈([]:List (Addr×Obj))from hp) (by simp),e0.hok.kept hk,?_⟩
 ·exact name_of_addr x.apart (PySem.mem_of_lookup h1) (PySem.mem_of_lookup h2)
 ·have hy:scope.names.lookup y=some .cell∨scope.names.lookup y=some .free:=hy
  rcases hy with hy | hy
  ·exact Mt hy
  ·exact absurd rfl (S.abf _ (PySem.mem_of_lookup hy))
 ·exact Nat.le_of_lt (x.above y c (PySem.mem_of_lookup h))
 ·have hi:i<vs.length:=by
   unfold start at h2
   by_cases hi:i<vs.length
   ·exact hi
   ·rw[List.getElem?_append_right (by simpa using hi)]at h2
    rw[List.getElem?_replicate]at h2
    split at h2<;>cases h2
  have ha:vs[i]? = some v:=by
   unfold start at h2
   rw[List.getElem?_append_left (by simpa using hi),List.getElem?_map]at h2
   cases e:vs[i]? with
   | none=>rw[e]at h2;cases h2
   | some a=>rw[e]at h2;cases h2;rfl
  obtain⟨u,hu,rv⟩:=r.get ha
  have hp:ps[i]? = some y:=by
   rw[←S.pre,List.getElem?_take_of_lt (by omega)];exact h1
  have ndP:ps.Nodup:=by rw[←S.pre];exact S.nd.sublist (List.take_sublist _ _)
  refine⟨u,rv,?_⟩
  rcases S.par y (List.mem_of_getElem? hp)with k | k
  ·exact .inl ⟨k,HS ndP hp hu k⟩
  ·obtain⟨c,e⟩:=Mt (n:=s.heap.objs.size+1) k
   refine .inr ⟨.inl k,c,e,?_⟩
   have q:=x.cell y c e
   rw[HX ndP hp hu (by show scope.names.lookup y≠_;rw[k];decide)]at q
   exact q
 ·exact e0.hok.fresh (Nat.le_of_lt (x.above y c (PySem.mem_of_lookup h)))
 ·unfold start
  show _=N.length
  rw[List.length_append,List.length_map,List.length_replicate]
  omega
theorem Z0{CX:PB}{P:Program}{w:World}{K:PySem.W.Frag}{mg:Str→Option Value}{base:Heap}{k:Nat}{f:Addr}{name qual:Str}{params:Arguments}{body:List Stmt}{scope:Scope}{dV kV doc pm cdv ct oc:Value}{an od:Option Addr}
  {osl:Array (Option Value)} {N ps:List Str} {sp:Sp} (lk:K.lookup f=some ⟨oc,od,.func (PySem.W.fnOf name qual params body scope dV kV doc pm an cdv ct),osl⟩) (hcd:PySem.W.codeIn K cdv qual=true) (S:bu N ps scope)
  (len:∀vs H Q E,sp vs H Q E→vs.length=ps.length)
  (hbody:∀(A:Around) (outer:List Env) (s:Shared) (H:Hp) (vs:List V) (Q:VK) (E:XK),j6 k (A.deeper (envOfC qual scope s.heap.objs.size f cdv))→sp vs H Q E→
   ∃t,Dv (yg CX P w K mg base N qual scope f cdv A outer s H E) body t∧t {nx:=fun _ H'=>Q .non H',rt:=Q} (start N vs) H):
  bB P w K mg base CX (k+1) f (PySem.W.fnOf name qual params body scope dV kV doc pm an cdv ct) ps sp:=by
 refine⟨len,fun A outer s H args us vs Q E hr e0 hb r hsp=> ?_⟩
 have hl:=len _ _ _ _ hsp
 have KX:K.In s.heap:=e0.mod.kin.keeps fun b o e=>(e0.bs b o e).1
 have lim:s.heap.NoLimit:=e0.mod.nolimit.keeps fun b o e=>(e0.bs b o e).1
 have hkind:∀y∈ps.zip us,scope.names.lookup y.1=some .local∨(scope.names.lookup y.1=some .cell∧((cellsFrom (s.heap.objs.size+1) scope.names []).lookup y.1).isSome=true):=fun⟨n,v⟩ hy=>by
  rcases S.par n (List.of_mem_zip hy).1 with q | q
  ·exact .inl q
  ·exact .inr ⟨q,PySem.W.cellsFrom_some _ _ _ (.inl q)⟩
 refine codeAny_call_function hr.depth (KX _ _ lk) rfl S.co S.gen rfl (PySem.W.codeRec_of KX hcd) (hb _ _ _ _ ?_)
 refine wpAny_newFunctionEnv_cells S.kind hkind fun env he s1 x=> ?_
 subst he
 refine⟨lim.keeps x.toInCall.keep,codeAny_func ?_⟩
 obtain⟨t,ht,hq⟩:=hbody A outer s H vs Q E (hr.deeper _) hsp
 have I:Inv (yg CX P w K mg base N qual scope f cdv A outer s H E) [] (start N vs) H s1:=S6 S hr.hd e0 hl r x
 refine wpAny_mono (ht [] s1 (start N vs) H _ I hq) (fun fl s' hs=> ?_) fun e s' hs=>hs
 have fin:∀{σ':St} {H':Hp} {v:V} {u:Value},Inv (yg CX P w K mg base N qual scope f cdv A outer s H E) [] σ' H' s'→RelV v u→Q v H'→CE outer P w H s Q u s':=
  fun{σ' H' v u} J rv q=>⟨v,H',J.os,J.bare,J.base,J.hok,rv,q⟩
 cases fl with
 | ret u=>
  obtain⟨v,σ',H',J,rv,q⟩:=hs
  exact fin J rv q
 | next=>
  obtain⟨σ',H',J,q⟩:=hs
  exact fin (v:=V.non) (u:=Value.none) J rfl q
 | brk=>
  obtain⟨_,_,_,q⟩:=hs
  exact False.elim q
 | cont=>
  obtain⟨_,_,_,q⟩:=hs
  exact False.elim q
end L2
namespace L2
open PySem PySem.Spec PyProof.Rows
section
variable{X:Cx}{x:Str}{p pos:Pos}{e:Expr}{es:List Expr}{t:TA}{id T:String}{r:List V→Hp→VK→Prop}
def tCB(r:List V→Hp→VK→Prop)(t:TA):TE:=fun σ H Q=>t σ H fun vs H1=>r vs H1 Q
theorem Vv(hc:o6 X (.builtin id) r)(hg:Gl X x)(hm:X.mg x=none)(hv:bootBuiltins x=some (.builtin id))(ha:PA X (e::es) t)(hn:x≠ "__name__" := by decide)(hdb:(x==("__debug__" : Str))=false:=by decide)
  (he:starEach (e::es) X.env=(false,eval e X.env)::starEach es X.env:=by rfl) (hpl:(backTo pos (starEach es X.env)).any (·.1)=false:=by rfl):PE X (.Call (.Name x p) (e::es) [] pos) (tCB r t):=by
 intro pins s σ H Q I h
 refine wpAny_Call_Name_kw (JM I hg hm hv ?_ hn hdb)
 exact PyProof.Rows.callWith_builtin1 (jh (ha pos pins s σ H _ I h) fun us s1 ⟨vs,H1,I1,r1,q1⟩=>hc pins s1 σ H1 vs us Q I1 r1 q1) he hpl
theorem RX(hc:o6 X (.type T) r)(hg:Gl X x)(hm:X.mg x=none)(hv:bootBuiltins x=some (.type T))(ha:PA X (e::es) t)(hn:x≠ "__name__" := by decide)(hdb:(x==("__debug__" : Str))=false:=by decide)
  (he:starEach (e::es) X.env=(false,eval e X.env)::starEach es X.env:=by rfl) (hpl:(backTo pos (starEach es X.env)).any (·.1)=false:=by rfl):PE X (.Call (.Name x p) (e::es) [] pos) (tCB r t):=by
 intro pins s σ H Q I h
 refine wpAny_Call_Name_kw (JM I hg hm hv ?_ hn hdb)
 exact PyProof.Rows.callWith_type1 (jh (ha pos pins s σ H _ I h) fun us s1 ⟨vs,H1,I1,r1,q1⟩=>hc pins s1 σ H1 vs us Q I1 r1 q1) he hpl
end
end L2
namespace HT
open PySem PyProof.Rows
def lexLt:List Int→List Int→Bool
 | [],[]=>false
 | [],_::_=>true
 | _::_,[]=>false
 | x::xs,y::ys=>if x=y then lexLt xs ys else decide (x<y)
theorem dI(x y:Int)(xs ys:List Int):lexLt (x::xs) (y::ys)=if x=y then lexLt xs ys else decide (x<y):=rfl
theorem Gw:lexLt [] []=false:=rfl
theorem Fj(y:Int)(ys:List Int):lexLt [] (y::ys)=true:=rfl
theorem Fl(x:Int)(xs:List Int):lexLt (x::xs) []=false:=rfl
theorem Wq(A:Around)(s:Shared)(a:Int)(t:Tok)(c:Int)(u:Tok):∃e,SeqAt.EqAt A s (.int a t) (.int c u) e∧(e=true↔a=c):=
 ⟨(a==c),SeqAt.EqAt.int_int a t c u,by simp⟩
theorem Vg(A:Around)(s:Shared)(a:Int)(t:Tok)(c:Int)(u:Tok)(prog:Program)(w:World)(E:Value→Shared→Prop)(Q:Value→Shared→Prop)(h:Q (.bool (decide (a<c))) s):
  wpAny (model prog w) A (richCompare .Lt (.int a t) (.int c u)) Q E s:=
 (PyProof.Rows.lt_int h:wpAny (model prog w) A (compareOp .Lt (.int a t) (.int c u)) Q E s)
section
open PySem.SeqAt
open PySem.AutoSeq1 (wpAny_loadPart')
open PySem.MeetsSeq PySem.MeetsSeq2 PySem.MeetsSeq3
theorem Gj(l b:Addr)(items items2:Array Value)(n n2:Nat)(dd dd2:Option Addr)(sl sl2:Array (Option Value))(ns ms:List Int)(hi:IntsAre items.toList ns)(hj:IntsAre items2.toList ms):
  Meets (Builtin.«tuple.__lt__» ⟨[.ref l,.ref b],[]⟩)
   (fun _ R s=>s.heap.get? l=some {cls:= .type "tuple",dict:=dd,data:= .seq items n,slots:=sl}∧s.heap.get? b=some {cls:= .type "tuple",dict:=dd2,data:= .seq items2 n2,slots:=sl2}∧
    R (.ok (.ret (.bool (lexLt ns ms)))) s):=
 .of_wp fun prog w A R s h=>by
  obtain⟨hp,g,d,tk,os⟩:=s;obtain⟨hl,hb,h⟩:=h
  have f2:=AutoSeq1.sub_tuple_tuple
  have z1:items.size=ns.length:=by rw[←hi.length];simp
  have z2:items2.size=ms.length:=by rw[←hj.length];simp
  wp_walk using wpAny_loadPart' hl,wpAny_loadPart' hb,wpAny_forIn_list _ (fun rest b s'=>b.1=none∧s'=⟨hp,g,d,tk,os⟩∧∃(vs ws:List Value) (ns' ms':List Int),rest=vs.zip ws∧
   IntsAre vs ns'∧IntsAre ws ms'∧ns'.length+items2.size=ms'.length+items.size∧R (.ok (.ret (.bool (lexLt ns' ms')))) ⟨hp,g,d,tk,os⟩) _
  case turn=>
   rintro⟨y,x⟩ rest b s' ⟨hb',rfl,vs,ws,ns',ms',hz,hvi,hwi,hlen,hR⟩
   cases hvi with
   | nil=>rw[List.zip_nil_left]at hz;cases hz
   | cons a t alv=>
    cases hwi with
    | nil=>rw[List.zip_nil_right]at hz;cases hz
    | cons c u alu=>
     rw[List.zip_cons_cons]at hz
     injection hz with hyx hrest
     injection hyx with hy hx
     subst hy hx
     rw[dI]at hR
     simp only[List.length_cons]at hlen
     obtain⟨e,he,hiff⟩:=Wq A.in1 ⟨hp,g,d,tk,os⟩ a t c u
     refine wpAny_bind (he prog w _ _ ?_)
     cases e with
     | true=>
      rw[if_pos (hiff.mp rfl)]at hR
      wp_walk
      exact⟨rfl,rfl,_,_,_,_,hrest,alv,alu,by omega,hR⟩
     | false=>
      rw[if_neg (fun q=>absurd (hiff.mpr q) Bool.false_ne_true)]at hR
      have hri:=Vg A.in1 ⟨hp,g,d,tk,os⟩ a t c u prog w
      wp_walk using hri
      exact⟨_,rfl,by simpa using hR⟩
  case fin=>
   rintro⟨b1,b2⟩ s' ⟨hb',rfl,vs,ws,ns',ms',hz,hvi,hwi,hlen,hR⟩
   simp only at hb'
   subst hb'
   have hv:lexLt ns' ms'=decide (items.size<items2.size):=by
    cases hvi with
    | nil=>
     cases hwi with
     | nil=>
      simp only[List.length_nil]at hlen
      rw[Gw]
      exact(decide_eq_false (by omega)).symm
     | cons c u hw=>
      simp only[List.length_nil,List.length_cons]at hlen
      rw[Fj]
      exact(decide_eq_true (by omega)).symm
    | cons a t hv=>
     cases hwi with
     | nil=>
      simp only[List.length_nil,List.length_cons]at hlen
      rw[Fl]
      exact(decide_eq_false (by omega)).symm
     | cons c u hw=>
      rw[List.zip_cons_cons]at hz
      cases hz
   rw[hv]at hR
   wp_walk
   exact⟨_,rfl,by simpa[Builtin.Tuple.tupleCompareSizes]using hR⟩
  case h=>
   exact⟨rfl,rfl,items.toList,items2.toList,ns,ms,rfl,hi,hj,by omega,h⟩
end
section
variable{prog:Program}{w:World}{A:Around}{E:Value→Shared→Prop}{s:Shared}
theorem Oz{l b:Addr}{items items2:Array Value}{ns ms:List Int}{Q:Value→Shared→Prop}(hl:IsTup s.heap l items)(hb:IsTup s.heap b items2)(hi:IntsAre items.toList ns)(hj:IntsAre items2.toList ms)
  (hu:A.units<cLine) (h:Q (.bool (lexLt ns ms)) s):wpAny (model prog w) A (compareOp .Lt (.ref l) (.ref b)) Q E s:=by
 obtain⟨⟨cls,dd,data,sl⟩,ho,hc,n,hd⟩:=id hl
 obtain⟨⟨cls2,dd2,data2,sl2⟩,ho2,hc2,n2,hd2⟩:=id hb
 simp only at hc hd hc2 hd2
 subst hc hd hc2 hd2
 exact richCompare_meets_room (op:= .Lt) ⟨_,ho,rfl⟩ ⟨_,ho2,rfl⟩ PySem.F.slot_tuple_lt PySem.F.entry_tuple_lt (PySem.F.args_tuple_lt_2 _ _) (Gj l b items items2 n n2 dd dd2 sl sl2 ns ms hi hj)
  ⟨ho,ho2,show Value.bool (lexLt ns ms)≠Value.notImplemented∧Q (.bool (lexLt ns ms)) s from⟨(fun x=>nomatch x),h⟩⟩ hu
theorem Zc{t b:Addr}{vs ws:List Value}{Q:Value→Shared→Prop}(ht:IsTup s.heap t vs.toArray)(hb:IsTup s.heap b ws.toArray)(hv:vs≠[])
  (h1:ws=[]→Q (.ref t) s) (h2:ws≠[]→Q (.ref s.heap.objs.size) {s with heap:=s.heap.push {cls:= .type "tuple",data:= .seq (vs++ws).toArray}})
  (hsz:vs.length+ws.length≤sizeLine):wpAny (model prog w) A (binaryOp .Add (.ref t) (.ref b)) Q E s:=by
 obtain⟨⟨cls,dd,data,sl⟩,ho,hc,n,hd⟩:=id ht
 obtain⟨⟨cls2,dd2,data2,sl2⟩,ho2,hc2,n2,hd2⟩:=id hb
 simp only at hc hd hc2 hd2
 subst hc hd hc2 hd2
 have e:vs.toArray++ws.toArray=(vs++ws).toArray:=by simp
 by_cases hw:ws=[]
 ·exact concat_meets ⟨_,ho,rfl⟩ ⟨_,ho2,rfl⟩ noFill_tuple_add seq_tuple_add PySem.F.slot_tuple_add PySem.F.entry_tuple_add (PySem.F.args_tuple_add_2 _ _)
   (tuple_addW1 t b vs.toArray ws.toArray n n2 dd dd2 sl sl2 (by simpa using hv) (by simp[hw])) ⟨ho,ho2,h1 hw⟩
 ·refine concat_meets ⟨_,ho,rfl⟩ ⟨_,ho2,rfl⟩ noFill_tuple_add seq_tuple_add PySem.F.slot_tuple_add PySem.F.entry_tuple_add (PySem.F.args_tuple_add_2 _ _)
   (tuple_addW2 t b vs.toArray ws.toArray n n2 dd dd2 sl sl2 (by simpa using hv) (by simpa using hw) (by rw[List.size_toArray,List.size_toArray];exact hsz)) ⟨ho,ho2,?_⟩
  rw[e]
  exact h2 hw
def bx(n d:Nat):Option Int→Nat
 | none=>d
 | some v=>if v<0 then(v+(n:Int)).toNat else min v.toNat n
theorem aau(n d:Nat)(hd:d≤n)(o:Option Int):bx n d o≤n:=by
 cases o with
 | none=>exact hd
 | some v=>
  show(if v<0 then(v+(n:Int)).toNat else min v.toNat n)≤n
  by_cases hv:v<0
  ·rw[if_pos hv];omega
  ·rw[if_neg hv];exact Nat.min_le_right _ _
theorem Ra(v:Int)(n d:Nat):(if v<0 then max (v+(n:Int)) 0 else min v (n:Int))=((bx n d (some v):Nat):Int):=by
 show(if v<0 then max (v+(n:Int)) 0 else min v (n:Int))=(((if v<0 then(v+(n:Int)).toNat else min v.toNat n):Nat):Int)
 by_cases hv:v<0
 ·simp only[if_pos hv];omega
 ·simp only[if_neg hv];omega
theorem Pn(lo hi:Option Int)(n:Nat):Builtin.Slice.sliceAdjust lo hi 1 (n:Int)=(((bx n 0 lo:Nat):Int),((bx n n hi:Nat):Int)):=by
 have h1:¬((1:Int)<0):=by omega
 unfold Builtin.Slice.sliceAdjust
 simp only[h1,if_false]
 refine Prod.ext ?_ ?_
 ·cases lo with
  | none=>rfl
  | some v=>exact Ra v n 0
 ·cases hi with
  | none=>rfl
  | some v=>exact Ra v n n
theorem Oi(i j:Nat):Builtin.Slice.slicePlaces (i:Int) (j:Int) 1=j - i:=by
 unfold Builtin.Slice.slicePlaces
 have h1:(1:Int) > 0:=by omega
 simp only[h1,if_true,Int.ediv_one]
 split<;>omega
theorem D_{v:Value}{o:Option Int}{Q:Option Int→Shared→Prop}(p:IsPart v o)(h:Q o s):wpAny (model prog w) A (Builtin.Slice.slicePartIndex v) Q E s:=by
 cases p with
 | none=>exact slicePart_none h
 | int i t=>exact slicePart_int h
theorem Be{sl:Addr}{vl vu:Value}{lo hi:Option Int}{n:Nat}{Q:Int×Int×Nat→Shared→Prop}(hs:s.heap.IsSliceOf sl vl vu .none)(pl:IsPart vl lo)(pu:IsPart vu hi)
  (h:Q (((bx n 0 lo:Nat):Int),1,bx n n hi - bx n 0 lo) s):wpAny (model prog w) A (Builtin.Slice.sliceApplied (.ref sl) (pure (n:Int))) Q E s:=by
 obtain⟨os,hos,hcs,hds⟩:=id hs
 unfold Builtin.Slice.sliceApplied Builtin.Slice.sliceFields
 refine wpAny_bind (wpAny_bind (wpAny_field hos hds (x:=vl) rfl (wpAny_bind (wpAny_field hos hds (x:=vu) rfl (wpAny_bind (wpAny_field hos hds (x:= .none) rfl (wpAny_pure ?_)))))))
 refine wpAny_bind (slicePart_none ?_)
 show wpAny _ _ (if((1:Int)==0)=true then _ else _) _ _ s
 rw[if_neg (by decide)]
 refine wpAny_bind (D_ pl (wpAny_bind (D_ pu (wpAny_bind (wpAny_pure ?_)))))
 show wpAny _ _ (match Builtin.Slice.sliceAdjust lo hi 1 (n:Int)with | (lo,hi)=>pure (lo,(1:Int),Builtin.Slice.slicePlaces lo hi 1)) _ _ s
 rw[Pn lo hi n]
 show wpAny _ _ (pure (((bx n 0 lo:Nat):Int),(1:Int),Builtin.Slice.slicePlaces ((bx n 0 lo:Nat):Int) ((bx n n hi:Nat):Int) 1)) _ _ s
 rw[Oi]
 exact wpAny_pure h
theorem Vn(xs:Array Value)(i k:Nat):((List.range k).filterMap fun(m:Nat)=>xs[((i:Int)+(m:Int)*1).toNat]?).toArray=((xs.toList.drop i).take k).toArray:=by
 have e:(fun(m:Nat)=>xs[((i:Int)+(m:Int)*1).toNat]?)=fun m=>xs[i+m]? := by
  funext m
  have:((i:Int)+(m:Int)*1).toNat=i+m:=by omega
  rw[this]
 rw[e]
 have:=pick_run xs i k
 rw[List.filterMap_map]at this
 have e2:((fun x=>xs[x]?)∘fun x=>i+x)=fun m=>xs[i+m]? := rfl
 rw[e2]at this
 rw[this]
theorem Aj{t sl:Addr}{items:Array Value}{vl vu:Value}{lo hi:Option Int}{Q:Value→Shared→Prop}(ht:IsTup s.heap t items)(hs:s.heap.IsSliceOf sl vl vu .none)(pl:IsPart vl lo)(pu:IsPart vu hi)
  (hw:¬(bx items.size 0 lo=0∧bx items.size items.size hi=items.size))
  (h:Q (.ref s.heap.objs.size) {s with heap:=s.heap.push {cls:= .type "tuple",data:= .seq ((items.toList.drop (bx items.size 0 lo)).take (bx items.size items.size hi - bx items.size 0 lo)).toArray}})
  (hsz:items.size≤sizeLine):wpAny (model prog w) A (getItem (.ref t) (.ref sl)) Q E s:=by
 have QT:sizeOk (.seq ((items.toList.drop (bx items.size 0 lo)).take (bx items.size items.size hi - bx items.size 0 lo)).toArray):=by
  show((items.toList.drop (bx items.size 0 lo)).take (bx items.size items.size hi - bx items.size 0 lo)).toArray.size≤sizeLine
  rw[List.size_toArray,List.length_take,List.length_drop,Array.length_toList]
  omega
 have hj:bx items.size items.size hi≤items.size:=aau _ _ (Nat.le_refl _) hi
 obtain⟨os,hos,hcs,hds⟩:=id hs
 have hTs:s.TypeIs (.ref sl) "slice" := ⟨os,hos,hcs⟩
 unfold getItem
 try with_reducible refine wpAny_holding ?_
 first | refine wpAny_bind (wpAny_pure ?_) | skip
 refine wpAny_bind (wpAny_sequenceKey ht.typeIs (by decide) ?_)
 refine wpAny_bind (wpAny_callSpecial?_slot (name:=Str.ofString "__getitem__") ht.typeIs PyProof.Rows.slot_tuple_getitem
  (wpAny_call_entry PyProof.Rows.slot_tuple_getitem ht.typeIs entry_tuple_getitem ?_ (args_tuple_getitem _ _)))
 show wpAny _ _ (Builtin.Tuple.tupleItemsOf (.ref t) >>= _) _ _ s
 refine wpAny_bind (tupleItemsOf_ ht ?_)
 refine wpAny_bind (wpAny_typeOf hTs ?_)
 rw[if_pos (by decide)]
 refine wpAny_bind (Be hs pl pu ?_)
 have hno:¬((((bx items.size 0 lo:Nat):Int)==0&&(1:Int)==1&&(bx items.size items.size hi - bx items.size 0 lo)==items.size)=true):=by
  intro q
  rw[Bool.and_eq_true,Bool.and_eq_true]at q
  have q1:((bx items.size 0 lo:Nat):Int)=0:=eq_of_beq q.1.1
  have q2:bx items.size items.size hi - bx items.size 0 lo=items.size:=eq_of_beq q.2
  exact hw ⟨by omega,by omega⟩
 show wpAny _ _ (if(((bx items.size 0 lo:Nat):Int)==0&&(1:Int)==1&&(bx items.size items.size hi - bx items.size 0 lo)==items.size)=true then _ else _) _ _ s
 rw[if_neg hno,Vn]
 first
  | exact wpAny_bind (m:=Builtin.Tuple.tupleExact _) (wpAny_newObj_type (wpAny_pure ⟨_,rfl,wpAny_pure h⟩) QT)
  | exact wpAny_bind (m:=Builtin.Tuple.tupleExact _) (wpAny_newObj_type (wpAny_bind (wpAny_pure (wpAny_pure ⟨_,rfl,wpAny_pure h⟩))) QT)
  | exact wpAny_bind (wpAny_bind (m:=Builtin.Tuple.tupleExact _) (wpAny_newObj_type (wpAny_pure (wpAny_pure ⟨_,rfl,wpAny_pure h⟩)) QT))
  | exact wpAny_bind (wpAny_bind (m:=Builtin.Tuple.tupleExact _) (wpAny_newObj_type (wpAny_pure ⟨_,rfl,wpAny_pure h⟩) QT))
end
end HT
namespace L2
open PySem PySem.Spec PyProof.Rows
abbrev TO:=St→Hp→(Option Int→Hp→Prop)→Prop
def PO(X:Cx)(e:Option Expr)(t:TO):Prop:=
 ∀(pins:List (Addr×Obj)) (s:Shared) (σ:St) (H:Hp) (Q:Option Int→Hp→Prop),Inv X pins σ H s→t σ H Q→
  wpAny (model X.prog X.w) X.A (evalPart e X.env) (fun u s'=>∃o H',Inv X pins σ H' s'∧IsPart u o∧Q o H') X.xe s
def Xp:TO:=fun _ H Q=>Q none H
def adb(t:TE):TO:=fun σ H Q=>t σ H fun x H1=>∃i,x= .int i∧Q (some i) H1
theorem intsAre_of{ns:List Int}:∀{us:List Value},Vals (ns.map V.int) us→IntsAre us ns:=by
 induction ns with
 | nil=>intro us r;rw[List.map_nil]at r;cases r;exact .nil
 | cons n ns ih=>
  intro us r
  rw[List.map_cons]at r
  cases r with
  | cons r1 r2=>
   obtain⟨t,e⟩:=r1
   subst e
   exact .cons n t (ih r2)
section
variable{X:Cx}{e:Expr}{te:TE}{lo hi:Option Expr}{tl th:TO}{pos p2:Pos}
theorem X8:PO X none Xp:=by
 intro pins s σ H Q I h
 rw[evalPart_none]
 exact wpAny_pure ⟨none,H,I,.none,h⟩
theorem X7(h:PE X e te):PO X (some e) (adb te):=by
 intro pins s σ H Q I hw
 rw[evalPart_some]
 refine jh (h pins s σ H _ I hw) fun u s1 ⟨x,H1,I1,r1,q1⟩=> ?_
 obtain⟨i,rfl,q⟩:=q1
 obtain⟨t,rfl⟩:=r1
 exact⟨some i,H1,I1,.int i t,q⟩
def Z6(X:Cx)(r:V→Option Int→Option Int→Hp→VK→Prop):Prop:=
 ∀(pins:List (Addr×Obj)) (s:Shared) (σ:St) (H:Hp) (x:V) (v vl vu:Value) (lo hi:Option Int) (sl:Addr) (Q:VK),Inv X pins σ H s→RelV x v→s.heap.IsSliceOf sl vl vu .none→IsPart vl lo→IsPart vu hi→r x lo hi H Q→
  ∃T id,typeLookup (.type T) "__getitem__" = pure (some (.builtin id))∧s.TypeIs v T∧wpAny (model X.prog X.w) X.A (getItem v (.ref sl)) (EP X pins σ Q) X.xe s
theorem Z6.or{r r':V→Option Int→Option Int→Hp→VK→Prop}(h:Z6 X r)(h':Z6 X r'):Z6 X (fun x lo hi H Q=>r x lo hi H Q∨r' x lo hi H Q):=by
 intro pins s σ H x v vl vu lo hi sl Q I rx hs pl pu q
 rcases q with q | q
 ·exact h pins s σ H x v vl vu lo hi sl Q I rx hs pl pu q
 ·exact h' pins s σ H x v vl vu lo hi sl Q I rx hs pl pu q
def tSl(r:V→Option Int→Option Int→Hp→VK→Prop)(te:TE)(tl th:TO):TE:=fun σ H Q=>te σ H fun x H1=>tl σ H1 fun l H2=>th σ H2 fun u H3=>r x l u H3 Q
theorem Vp{r:V→Option Int→Option Int→Hp→VK→Prop}(hr:Z6 X r)(he:PE X e te)(hl:PO X lo tl)(hu:PO X hi th):PE X (.Subscript e (.Slice lo hi none p2) pos) (tSl r te tl th):=by
 intro pins s σ H Q I h
 refine Subscript_ (jh (he pins s σ H _ I h) fun v s1 ⟨x,H1,I1,r1,q1⟩=> ?_)
 refine wpAny_Slice (jh (hl pins s1 σ H1 _ I1 q1) fun vl s2 ⟨l,H2,I2,pl,q2⟩=>jh (hu pins s2 σ H2 _ I2 q2) fun vu s3 ⟨u,H3,I3,pu,q3⟩=> ?_)
 rw[evalPart_none]
 refine wpAny_pure ?_
 have I4:Inv X pins σ H3 {s3 with heap:=s3.heap.push {cls:= .type "slice",data:= .fields #[vl,vu,.none]}}:=I3.kept (t':=s3.toks) fun b ob q=>Heap.get?_push_of_some _ q
 obtain⟨T,id,hT,ht,hg⟩:=hr pins {s3 with heap:=s3.heap.push {cls:= .type "slice",data:= .fields #[vl,vu,.none]}} σ H3 x v vl vu l u s3.heap.objs.size Q I4 r1 (Heap.IsSliceOf.new ..) pl pu q3
 show wpAny (model X.prog X.w) X.A (subscriptTail e (.Slice lo hi none p2) v (.ref s3.heap.objs.size)) (EP X pins σ Q) X.xe {s3 with heap:=s3.heap.push {cls:= .type "slice",data:= .fields #[vl,vu,.none]}}
 exact tail_any (ops:=[.ref s3.heap.objs.size,v]) ht hT hg (by with_unfolding_all rfl)
def Mp(xs:List V)(lo hi:Option Int):List V:=(xs.drop (HT.bx xs.length 0 lo)).take (HT.bx xs.length xs.length hi - HT.bx xs.length 0 lo)
theorem CK(xs:List V)(lo hi:Option Int):(Mp xs lo hi).length≤xs.length:=by
 unfold Mp
 rw[List.length_take,List.length_drop]
 omega
def aj0(K:PySem.W.Frag):V→Option Int→Option Int→Hp→VK→Prop:=fun x lo hi H Q=>∃a xs,x= .ref a∧wM K H a xs∧
 ¬(HT.bx xs.length 0 lo=0∧HT.bx xs.length xs.length hi=xs.length)∧∀p,H p=none→Q (.ref p) (upd H p (.tup (Mp xs lo hi)))
theorem aaj:Z6 X (aj0 X.K):=by
 intro pins s σ H x v vl vu lo hi sl Q I rx hs pl pu h
 obtain⟨a,xs,rfl,hx,hw,q⟩:=h
 cases rx
 obtain⟨its,r,ht,hz⟩:=I.tuple hx
 have hlen:its.toArray.size=xs.length:=by rw[List.size_toArray];exact r.length.symm
 refine⟨"tuple",_,PyProof.Rows.slot_tuple_getitem.lookup,ht.typeIs,?_⟩
 refine HT.Aj ht hs pl pu (by rw[hlen];exact hw) ?_ (by rw[hlen];exact hz)
 rw[hlen]
 refine⟨.ref s.heap.objs.size,_,I.laid (t':=s.toks) (o:= .tup (Mp xs lo hi)) (fun b ob q=>Heap.get?_push_of_some _ q) (Nat.le_refl _) ?_,rfl,q _ (I.hok.fresh (Nat.le_refl _))⟩
 exact⟨Nat.le_trans (CK xs lo hi) hz,_,(r.drop (HT.bx xs.length 0 lo)).take (HT.bx xs.length xs.length hi - HT.bx xs.length 0 lo),IsTup.new _ _⟩
def aj4(K:PySem.W.Frag):R2:=fun x y H Q=>∃a b ns ms,x= .ref a∧y= .ref b∧wM K H a (ns.map V.int)∧wM K H b (ms.map V.int)∧Q (.bl (HT.lexLt ns ms)) H
theorem aa7(hu:X.A.units<cLine):wX X (compareOp .Lt) (aj4 X.K):=by
 intro pins s σ H x y v u Q I rx ry h
 obtain⟨a,b,ns,ms,rfl,rfl,ha,hb,q⟩:=h
 cases rx
 cases ry
 obtain⟨its,r1,p1,_⟩:=I.tuple ha
 obtain⟨its2,r2,p2,_⟩:=I.tuple hb
 have i1:IntsAre its.toArray.toList ns:=intsAre_of r1
 have i2:IntsAre its2.toArray.toList ms:=intsAre_of r2
 exact HT.Oz p1 p2 i1 i2 hu ⟨.bl (HT.lexLt ns ms),H,I,rfl,q⟩
def adO(K:PySem.W.Frag):R2:=fun x y H Q=>∃a b xs ys,x= .ref a∧y= .ref b∧wM K H a xs∧wM K H b ys∧xs≠[]∧xs.length+ys.length≤sizeLine∧
 (ys=[]→Q (.ref a) H)∧(ys≠[]→∀p,H p=none→Q (.ref p) (upd H p (.tup (xs++ys))))
theorem Vals.JG{xs:List V}{us:List Value}(r:Vals xs us):us=[]↔xs=[]:=by
 cases r with
 | nil=>simp
 | cons _ _=>simp
theorem Yi:wX X (binaryOp .Add) (adO X.K):=by
 intro pins s σ H x y v u Q I rx ry h
 obtain⟨a,b,xs,ys,rfl,rfl,ha,hb,hx,hz,q1,q2⟩:=h
 cases rx
 cases ry
 obtain⟨its,r1,p1,_⟩:=I.tuple ha
 obtain⟨its2,r2,p2,_⟩:=I.tuple hb
 refine HT.Zc p1 p2 (fun z=>hx (r1.JG.mp z)) (fun z=>⟨.ref a,H,I,rfl,q1 (r2.JG.mp z)⟩) (fun z=> ?_) (by rw[←r1.length,←r2.length];exact hz)
 refine⟨.ref s.heap.objs.size,_,I.laid (t':=s.toks) (o:= .tup (xs++ys)) (fun b ob q=>Heap.get?_push_of_some _ q) (Nat.le_refl _) ?_,rfl,q2 (fun w=>z (r2.JG.mpr w)) _ (I.hok.fresh (Nat.le_refl _))⟩
 exact⟨by rw[List.length_append];exact hz,_,r1.append r2,IsTup.new _ _⟩
end
end L2
namespace L2
open PySem PySem.Spec PyProof.Rows
def ixN(n:Nat)(i:Int):Option Nat:=if 0≤i then(if i<n then some i.toNat else none)else if -(n:Int)≤i then some (i+n).toNat else none
def Gy{α:Type}(xs:List α)(i:Int):Option α:=(ixN xs.length i).bind fun j=>xs[j]?
theorem YH{n:Nat}{i:Int}{j:Nat}(h:ixN n i=some j):seqIndex? i n=some j∧j<n∧ -(n:Int)≤i∧i<n:=by
 unfold ixN at h
 by_cases h0:0≤i
 ·rw[if_pos h0]at h
  by_cases h1:i<n
  ·rw[if_pos h1]at h
   have e:i.toNat=j:=Option.some.inj h
   exact⟨by rw[seqIndex_of h0 h1,e],by omega,by omega,h1⟩
  ·rw[if_neg h1]at h;cases h
 ·rw[if_neg h0]at h
  by_cases h1: -(n:Int)≤i
  ·rw[if_pos h1]at h
   have e:(i+n).toNat=j:=Option.some.inj h
   exact⟨by rw[seqIndex_neg (by omega) h1,e],by omega,h1,by omega⟩
  ·rw[if_neg h1]at h;cases h
theorem Kq{α:Type}{xs:List α}{i:Int}{v:α}(h:Gy xs i=some v):∃j,seqIndex? i xs.length=some j∧xs[j]? = some v∧j<xs.length∧ -(xs.length:Int)≤i∧i<xs.length:=by
 unfold Gy at h
 cases e:ixN xs.length i with
 | none=>rw[e]at h;cases h
 | some j=>
  rw[e]at h
  obtain⟨h1,h2,h3,h4⟩:=YH e
  exact⟨j,h1,h,h2,h3,h4⟩
def Rm(b:Expr):Prop:=∀o i,subscripted b false o i=operate [o,i] (getItem o i)
def Zt(X:Cx)(r:R2):Prop:=
 ∀(value slice:Expr) (pins:List (Addr×Obj)) (s:Shared) (σ:St) (H:Hp) (x y:V) (v u:Value) (Q:VK),Inv X pins σ H s→RelV x v→RelV y u→r x y H Q→
  subscripted slice false v u=operate [v,u] (getItem v u)→wpAny (model X.prog X.w) X.A (subscriptTail value slice v u) (EP X pins σ Q) X.xe s
def MtR(X:Cx)(id:String)(r:V→List V→Hp→VK→Prop):Prop:=
 ∀(pins:List (Addr×Obj)) (s:Shared) (σ:St) (H:Hp) (x:V) (xs:List V) (v:Value) (us:List Value) (Q:VK),Inv X pins σ H s→RelV x v→Vals xs us→r x xs H Q→
  wpAny (model X.prog X.w) X.A (call (.builtin id) (v::us)) (EP X pins σ Q) X.xe s
section
variable{X:Cx}{a b:Expr}{ta tb:TE}{pos:Pos}
theorem Zt.or{r r':R2}(h:Zt X r)(h':Zt X r'):Zt X (fun x y H Q=>r x y H Q∨r' x y H Q):=by
 intro value slice pins s σ H x y v u Q I rx ry q hs
 rcases q with q | q
 ·exact h value slice pins s σ H x y v u Q I rx ry q hs
 ·exact h' value slice pins s σ H x y v u Q I rx ry q hs
theorem aek{r:R2}(hr:Zt X r)(ha:PE X a ta)(hb:PE X b tb)(hs:Rm b):PE X (.Subscript a b pos) (tOp r ta tb):=by
 intro pins s σ H Q I h
 exact Subscript_ (acz ha hb I h fun v u s2 x y H2 I2 rx ry q=>hr a b pins s2 σ H2 x y v u Q I2 rx ry q (hs _ _))
def adM(K:PySem.W.Frag):R2:=fun x y H Q=>∃p xs i v,x= .ref p∧y= .int i∧yQ K H p xs∧Gy xs i=some v∧Q v H
def adK(K:PySem.W.Frag):R2:=fun x y H Q=>∃p xs i v,x= .ref p∧y= .int i∧wM K H p xs∧Gy xs i=some v∧Q v H
def adL:R2:=fun x y H Q=>∃z i c,x= .str z∧y= .int i∧z.length≤sizeLine∧Gy z.cps.toList i=some c∧Q (.str ⟨#[c]⟩) H
theorem YF:Zt X (adM X.K):=by
 intro value slice pins s σ H x y v u Q I rx ry h hs
 obtain⟨p,xs,i,z,rfl,rfl,hq,he,q⟩:=h
 cases rx
 obtain⟨t,rfl⟩:=ry
 obtain⟨its,r,pl,hz⟩:=I.list hq
 obtain⟨j,h1,h2,h3,h4,h5⟩:=Kq he
 obtain⟨w,ew,rw'⟩:=r.get h2
 have hl:=r.length
 have hn:=Fi
 have fin:EP X pins σ Q w s:=⟨z,H,I,rw',q⟩
 by_cases h0:0≤i
 ·have hj:i.toNat=j:=by
   rw[seqIndex_of h0 h5]at h1
   exact Option.some.inj h1
  exact item_listR pl.isList h0 (by omega) (by rw[hj];simpa using ew) fin hs
 ·have hj:(i+(its.toArray.size:Int)).toNat=j:=by
   rw[seqIndex_neg (by omega) h4]at h1
   rw[List.size_toArray,←hl]
   exact Option.some.inj h1
  exact subscriptTail_builtinR (x:=w) pl.isList.typeIs slot_list_getitem.lookup
   (wpAny_getItem_list_neg (Q:=fun r s'=>r=w∧EP X pins σ Q r s') pl.isList (by omega) (by rw[List.size_toArray]<;>omega) (by omega) (by rw[hj];simpa using ew) ⟨rfl,fin⟩) hs
theorem abw:Zt X (adK X.K):=by
 intro value slice pins s σ H x y v u Q I rx ry h hs
 obtain⟨p,xs,i,z,rfl,rfl,hq,he,q⟩:=h
 cases rx
 obtain⟨t,rfl⟩:=ry
 obtain⟨its,r,pl,hz⟩:=I.tuple hq
 obtain⟨j,h1,h2,h3,h4,h5⟩:=Kq he
 obtain⟨w,ew,rw'⟩:=r.get h2
 have hl:=r.length
 have hn:=Fi
 have fin:EP X pins σ Q w s:=⟨z,H,I,rw',q⟩
 exact subscriptTail_builtinR (x:=w) pl.typeIs slot_tuple_getitem.lookup
  (getItem_tuple (j:=j) (Q:=fun r s'=>r=w∧EP X pins σ Q r s') pl (by omega) (by omega) (by rw[List.size_toArray,←hl];exact h1) (by simpa using ew) ⟨rfl,fin⟩) hs
theorem abx:Zt X adL:=by
 intro value slice pins s σ H x y v u Q I rx ry h hs
 obtain⟨z,i,c,rfl,rfl,hz,he,q⟩:=h
 obtain⟨t,rfl⟩:=rx
 obtain⟨t',rfl⟩:=ry
 obtain⟨j,h1,h2,h3,h4,h5⟩:=Kq he
 have hl:z.cps.toList.length=z.length:=by simp[Str.length]
 rw[hl]at h1 h4 h5
 have hn:=Fi
 exact tail_any (typeIs_str s z t) slot_str_getitem.lookup (getItem_str (c:=c) (by
  have e1:decide (i< -(2 ^ 63:Int))=false:=decide_eq_false (by omega)
  have e2:decide (i≥2 ^ 63)=false:=decide_eq_false (by omega)
  rw[e1,e2,Bool.or_false]) (by rw[h1];simpa using h2) ⟨.str ⟨#[c]⟩,H,I.tok _,⟨_,rfl⟩,q⟩) hs
theorem Inv.lst{pins:List (Addr×Obj)}{σ:St}{H:Hp}{s:Shared}{p:Addr}{xs:List V}(I:Inv X pins σ H s)(h:H p=some (.lst xs)):
  ∃(its:List Value) (n:Nat),Vals xs its∧s.heap.get? p=some {cls:= .type "list",data:= .seq its.toArray n}∧xs.length≤sizeLine:=by
 obtain⟨z,its,n,r,e⟩:=I.hok p _ h
 exact⟨its,n,r,e,z⟩
theorem Jc(lo hi:Option Int)(n:Nat):(sliceBounds lo hi none n).1=((HT.bx n 0 lo:Nat):Int)∧(sliceBounds lo hi none n).2.1=((HT.bx n n hi:Nat):Int)∧(sliceBounds lo hi none n).2.2=1:=by
 refine⟨?_,?_,rfl⟩
 ·cases lo with
  | none=>simp[sliceBounds,HT.bx]
  | some i=>
   simp only[sliceBounds,HT.bx,Option.getD_none,show(1:Int) > 0 by decide,if_true]
   by_cases h:i<0
   ·simp only[h,if_true]<;>omega
   ·simp only[h,if_false]<;>omega
 ·cases hi with
  | none=>simp[sliceBounds,HT.bx]
  | some i=>
   simp only[sliceBounds,HT.bx,Option.getD_none,show(1:Int) > 0 by decide,if_true]
   by_cases h:i<0
   ·simp only[h,if_true]<;>omega
   ·simp only[h,if_false]<;>omega
theorem Gk(its:List Value)(lo hi:Option Int):slicePick its.toArray lo hi none=((its.drop (HT.bx its.length 0 lo)).take (HT.bx its.length its.length hi - HT.bx its.length 0 lo)).toArray:=by
 obtain⟨h1,h2,h3⟩:=Jc lo hi its.toArray.size
 unfold slicePick
 rw[h1,h2,h3]
 simp only[sliceRange_one,pick_run,List.size_toArray]<;>rfl
def aj2(K:PySem.W.Frag):V→Option Int→Option Int→Hp→VK→Prop:=fun x lo hi H Q=>∃a xs,x= .ref a∧yQ K H a xs∧∀p,H p=none→Q (.ref p) (upd H p (.lst (Mp xs lo hi)))
theorem Xw:Z6 X (aj2 X.K):=by
 intro pins s σ H x v vl vu lo hi sl Q I rx hs pl pu h
 obtain⟨a,xs,rfl,hx,q⟩:=h
 cases rx
 obtain⟨its,r,ht,hz⟩:=I.list hx
 have hlen:=r.length
 refine⟨"list",_,slot_list_getitem.lookup,ht.isList.typeIs,?_⟩
 refine wpAny_getItem_list_slice ht.isList hs pl pu .none (by simp) ?_ (by rw[List.size_toArray]<;>omega)
 rw[Gk,←hlen]
 refine⟨.ref s.heap.objs.size,_,I.laid (t':=s.toks) (o:= .lst (Mp xs lo hi)) (fun b ob q=>Heap.get?_push_of_some _ q) (Nat.le_refl _) ?_,rfl,q _ (I.hok.fresh (Nat.le_refl _))⟩
 exact⟨Nat.le_trans (CK xs lo hi) hz,_,0,(r.drop (HT.bx xs.length 0 lo)).take (HT.bx xs.length xs.length hi - HT.bx xs.length 0 lo),Heap.get?_push_size _ rfl⟩
theorem Km:o6 X (.builtin "len") (fun xs H Q=>∃p ys,xs=[.ref p]∧(yQ X.K H p ys∨wM X.K H p ys)∧Q (.int ys.length) H):=by
 intro pins s σ H xs us Q I r h
 obtain⟨p,ys,rfl,hq,q⟩:=h
 obtain⟨u,rfl,rx⟩:=vals1 r
 cases rx
 have hn:=Fi
 rcases hq with hq | hq
 ·obtain⟨its,r',pl,hz⟩:=I.list hq
  have hlen:=r'.length
  exact Calls.call_len_list pl.isList (by simp only[List.size_toArray]<;>omega) ⟨.int ys.length,H,I.tok _,⟨s.toks+1,by rw[List.size_toArray,hlen]⟩,q⟩
 ·obtain⟨its,r',pl,hz⟩:=I.tuple hq
  have hlen:=r'.length
  exact len_tuple pl (by simp only[List.size_toArray]<;>omega) ⟨.int ys.length,H,I.tok _,⟨s.toks+1,by rw[List.size_toArray,hlen]⟩,q⟩
theorem Kl:o6 X (.builtin "len") (fun xs H Q=>∃z,xs=[.str z]∧z.length≤sizeLine∧Q (.int z.length) H):=by
 intro pins s σ H xs us Q I r h
 obtain⟨z,rfl,hz,q⟩:=h
 obtain⟨u,rfl,t,rfl⟩:=vals1 r
 have hn:=Fi
 exact len_str (by omega) ⟨.int z.length,H,I.tok _,⟨_,rfl⟩,q⟩
theorem o6.or{f:Value}{r r':List V→Hp→VK→Prop}(h:o6 X f r)(h':o6 X f r'):o6 X f (fun xs H Q=>r xs H Q∨r' xs H Q):=by
 intro pins s σ H xs us Q I rs q
 rcases q with q | q
 ·exact h pins s σ H xs us Q I rs q
 ·exact h' pins s σ H xs us Q I rs q
theorem Kh:o6 X (.type "list") (fun xs H Q=>∃p ys,xs=[.ref p]∧(yQ X.K H p ys∨wM X.K H p ys)∧∀l,H l=none→Q (.ref l) (upd H l (.lst ys))):=by
 intro pins s σ H xs us Q I r h
 obtain⟨p,ys,rfl,hq,q⟩:=h
 obtain⟨u,rfl,rx⟩:=vals1 r
 cases rx
 have fin:∀(its:List Value),Vals ys its→ys.length≤sizeLine→∀(h':Heap) (c':Nat),(∀b o',s.heap.get? b=some o'→h'.get? b=some o')→
   h'.get? s.heap.objs.size=some {cls:= .type "list",dict:=none,data:= .seq its.toArray c',slots:= #[]}→EP X pins σ Q (.ref s.heap.objs.size) {s with heap:=h'}:=fun its r' hz h' c' kp e=>
  ⟨.ref s.heap.objs.size,_,I.laid (t':=s.toks) kp (Nat.le_refl _) (show jn X.prog X.w _ h' _ (.lst ys)from⟨hz,its,c',r',e⟩),rfl,q _ (I.hok.fresh (Nat.le_refl _))⟩
 rcases hq with hq | hq
 ·obtain⟨its,r',pl,hz⟩:=I.list hq
  have hlen:=r'.length
  obtain⟨o,ho,hc,n,hd⟩:=pl.isList
  exact call_list_seq p (.inl rfl) ho hc hd (fun h' c' kp e=>fin its r' hz h' c' kp e) (by simp only[List.size_toArray]<;>omega)
 ·obtain⟨its,r',pl,hz⟩:=I.tuple hq
  have hlen:=r'.length
  obtain⟨o,ho,hc,n,hd⟩:=pl
  exact call_list_seq p (.inr rfl) ho hc hd (fun h' c' kp e=>fin its r' hz h' c' kp e) (by simp only[List.size_toArray]<;>omega)
theorem Gx:o6 X (.type "tuple") (fun xs H Q=>∃p ys,xs=[.ref p]∧((yQ X.K H p ys∧∀l,H l=none→Q (.ref l) (upd H l (.tup ys)))∨(wM X.K H p ys∧Q (.ref p) H))):=by
 intro pins s σ H xs us Q I r h
 obtain⟨p,ys,rfl,h⟩:=h
 obtain⟨u,rfl,rx⟩:=vals1 r
 cases rx
 rcases h with⟨hq,q⟩ | ⟨hq,q⟩
 ·obtain⟨its,r',pl,hz⟩:=I.list hq
  have hlen:=r'.length
  refine call_tuple_list pl.isList (fun h' kp=> ?_) (by simp only[List.size_toArray]<;>omega)
  have I1:Inv X pins σ H {s with heap:=h'}:=I.kept (t':=s.toks) kp
  have I2:Inv X pins σ (upd H h'.objs.size (.tup ys)) {s with heap:=h'.push {cls:= .type "tuple",data:= .seq its.toArray}}:=
   I1.laid (t':=s.toks) (fun b o e=>Heap.get?_push_of_some _ e) (Nat.le_refl _) (show jn X.prog X.w _ _ _ (.tup ys)from⟨hz,its,r',IsTup.new _ _⟩)
  exact⟨.ref h'.objs.size,_,I2,rfl,q _ (I1.hok.fresh (Nat.le_refl _))⟩
 ·obtain⟨its,r',pl,hz⟩:=I.tuple hq
  exact call_tuple_same pl ⟨.ref p,H,I,rfl,q⟩
def tyV(K:PySem.W.Frag)(T:String)(x:V)(H:Hp):Prop:=match x with
 | .str _=>T= "str"
 | .int _=>T= "int"
 | .ref p=>(T= "list" ∧ ∃xs,yQ K H p xs)∨(T= "tuple" ∧ ∃o,K.lookup p=some o∧o.cls= .type "tuple" ∧ o.dict=none)∨
   (T= "dict" ∧ ((∃kvs,H p=some (.dK kvs))∨∃kvs,H p=some (.dT kvs)))∨(T= "set" ∧ ∃S n,H p=some (.set S n))
 | _=>False
theorem aac{pins:List (Addr×Obj)}{σ:St}{H:Hp}{s:Shared}{T:String}{x:V}{v:Value}(I:Inv X pins σ H s)(r:RelV x v)(ty:tyV X.K T x H):
  s.TypeIs v T∧∀a,v= .ref a→∃ob,s.heap.get? a=some ob∧ob.dict=none:=by
 cases x with
 | str z=>
  obtain⟨t,rfl⟩:=r
  cases(show T= "str" from ty)
  exact⟨typeIs_str s z t,fun _ e=>nomatch e⟩
 | int i=>
  obtain⟨t,rfl⟩:=r
  cases(show T= "int" from ty)
  exact⟨typeIs_int s i t,fun _ e=>nomatch e⟩
 | ref p=>
  cases r
  rcases ty with⟨rfl,xs,hq⟩ | ⟨rfl,o,hk,hc,hd⟩ | ⟨rfl,hk⟩ | ⟨rfl,S,n,hk⟩
  ·obtain⟨its,_,pl,_⟩:=I.list hq
   refine⟨pl.isList.typeIs,fun a e=> ?_⟩
   cases e
   obtain⟨o,n,e,c,hd,_⟩:=pl
   exact⟨o,e,hd⟩
  ·refine⟨⟨o,I.Cy p o hk,hc⟩,fun a e=> ?_⟩
   cases e
   exact⟨o,I.Cy _ o hk,hd⟩
  ·have z:∃o,s.heap.get? p=some o∧o.ExactDict:=by
    rcases hk with⟨kvs,hk⟩ | ⟨kvs,hk⟩
    ·obtain⟨_,_,_,_,o,_,_,e,ex,_⟩:=I.hok p _ hk
     exact⟨o,e,ex⟩
    ·obtain⟨_,_,_,_,o,_,_,e,ex,_⟩:=I.hok p _ hk
     exact⟨o,e,ex⟩
   obtain⟨o,e,ex⟩:=z
   refine⟨⟨o,e,ex.1⟩,fun a e2=> ?_⟩
   cases e2
   exact⟨o,e,ex.2.1⟩
  ·obtain⟨o,_,_,_,e,ex,_⟩:=I.hok p _ hk
   refine⟨⟨o,e,ex.1⟩,fun a e2=> ?_⟩
   cases e2
   exact⟨o,e,ex.2.1⟩
 | _=>exact False.elim ty
def tBM(K:PySem.W.Frag)(T:String)(r:V→List V→Hp→VK→Prop)(to:TE)(t:TA):TE:=fun σ H Q=>to σ H fun x H1=>tyV K T x H1∧t σ H1 fun xs H2=>r x xs H2 Q
variable{o e:Expr}{es:List Expr}{to:TE}{t:TA}{name:Str}{apos cpos:Pos}{T id:String}{r:V→List V→Hp→VK→Prop}
theorem ael(pa:PlainAttrs T)(slot:Slot T name id)(hty:typeOf (.builtin id)=pure (.type "method_descriptor"))(hm:MtR X id r)(ho:PE X o to)(ha:PA X (e::es) t)
  (hbase:attributeBase o name X.env (eval o X.env)=eval o X.env:=by rfl)
  (hfew:((backTo cpos (starEach (e::es) X.env)).all (fun x=> !x.1)&&(backToKw cpos (keywordEach [] X.env)).all (fun x=>x.1.isSome)
   && decide ((e::es).length+([]:List Keyword).length+(if([]:List Keyword).isEmpty then 0 else 1)<30))=true:=by rfl)
  (hline:(apos.endLine==cpos.line)=true:=by rfl) (hs:starEach (e::es) X.env=(false,eval e X.env)::starEach es X.env:=by rfl) (hplain:(backTo cpos (starEach es X.env)).any (·.1)=false:=by rfl):
  PE X (.Call (.Attribute o name apos) (e::es) [] cpos) (tBM X.K T r to t):=by
 intro pins s σ H Q I h
 refine wpAny_Call_method_late hbase hfew hline rfl (jh (ho pins s σ H _ I h) fun v s1 ⟨x,H1,I1,r1,ty,q1⟩=> ?_)
 obtain⟨h1,h2⟩:=aac I1 r1 ty
 refine⟨T,id,pa,slot,hty,h1,h2,?_⟩
 have hA:=ha cpos pins s1 σ H1 _ I1 q1
 rw[hs]at hA ⊢
 refine Calls.callWith_builtin (by show(false||(backTo cpos (starEach es X.env)).any (·.1))=false;rw[hplain]<;>rfl) (Calls.evalArgs_plain ?_)
 exact jh hA fun us s2 ⟨vs,H2,I2,r2,q2⟩=>hm pins s2 σ H2 x vs v us Q I2 r1 r2 q2
end
end L2
namespace L2
open PySem PySem.Spec PyProof.Rows
def MtM(X:Cx)(id:String)(r:V→List V→Hp→VK→Prop):Prop:=
 ∀(pins:List (Addr×Obj)) (s:Shared) (σ:St) (H:Hp) (x:V) (xs:List V) (v:Value) (us:List Value) (Q:VK),Inv X pins σ H s→RelV x v→Vals xs us→r x xs H Q→
  wpAny (model X.prog X.w) X.A (call (.builtin id) (v::us)) (EP X pins σ Q) X.xe s
theorem Vals.one:∀{x:V} {us:List Value},Vals [x] us→∃u,us=[u]∧RelV x u
 | _,_,.cons r .nil=>⟨_,rfl,r⟩
theorem Vals.two:∀{x y:V} {us:List Value},Vals [x,y] us→∃u v,us=[u,v]∧RelV x u∧RelV y v
 | _,_,_,.cons r (.cons q .nil)=>⟨_,_,rfl,r,q⟩
theorem Vals.zero:∀{us:List Value},Vals [] us→us=[]
 | _,.nil=>rfl
theorem Vals.dropLast{xs:List V}{us:List Value}(h:Vals xs us):Vals xs.dropLast us.dropLast:=by
 induction h with
 | nil=>exact .nil
 | cons r t ih=>
  cases t with
  | nil=>exact .nil
  | cons q t'=>exact .cons r ih
section
variable{X:Cx}{pins:List (Addr×Obj)}{σ:St}{H:Hp}{s:Shared}{l b:Addr}{xs ys zs:List V}
theorem Inv.aeN{its its':List Value}{n:Nat}{f:Array Value→Array Value}{t':Nat}(I:Inv X pins σ H s)(hH:H l=some (.lst xs))
  (e:s.heap.get? l=some {cls:= .type "list",data:= .seq its.toArray n}) (hf:f its.toArray=its'.toArray) (hv:Vals ys its') (hz:ys.length≤sizeLine):
  Inv X pins σ (upd H l (.lst ys)) {s with heap:=s.heap.update l (Obj.mapSeq f),toks:=t'}:=by
 have q:=PySem.IsL.update e f
 rw[hf]at q
 refine I.write (x:=l) (e:=l) (by rw[hH];exact trivial) (.inl rfl) (fun b' u hb hu=>(Heap.get?_update_other s.heap (Obj.mapSeq f) (Ne.symm hb)).trans hu) ⟨_,q⟩ ?_
 exact⟨hz,its',_,hv,q⟩
theorem Inv.aeO{its:List Value}{t':Nat}(I:Inv X pins σ H s)(hv:Vals ys its)(hz:ys.length≤sizeLine):
  Inv X pins σ (upd H s.heap.objs.size (.lst ys)) {s with heap:=s.heap.push {cls:= .type "list",data:= .seq its.toArray},toks:=t'}:=
 I.laid (fun _ _ q=>Heap.get?_push_of_some _ q) (Nat.le_refl _) ⟨hz,its,0,hv,Heap.get?_push_size _ rfl⟩
theorem Inv.fresh(I:Inv X pins σ H s):H s.heap.objs.size=none:=I.hok.fresh (Nat.le_refl _)
theorem Inv.Sy(I:Inv X pins σ H s)(hH:H l=some (.lst xs)):xs.length≤sizeLine∧∃(its:List Value) (n:Nat),Vals xs its∧xs.length=its.length∧s.heap.get? l=some {cls:= .type "list",data:= .seq its.toArray n}:=by
 obtain⟨z,its,n,r,e⟩:=I.hok l _ hH
 exact⟨z,its,n,r,r.length,e⟩
theorem VB{n:Nat}(h:n≤sizeLine):Builtin.List.listTooLong n=false:=by
 unfold Builtin.List.listTooLong
 exact decide_eq_false (by omega)
end
section
variable{X:Cx}
def XM:V→List V→Hp→VK→Prop:=fun x vs H Q=>∃l xs y,x= .ref l∧vs=[y]∧H l=some (.lst xs)∧xs.length<sizeLine∧Q .non (upd H l (.lst (xs++[y])))
theorem Sw:MtM X "list.append" XM:=by
 intro pins s σ H x vs v us Q I rx rv h
 obtain⟨l,xs,y,rfl,rfl,hH,hz,q⟩:=h
 cases rx
 obtain⟨u,rfl,ru⟩:=rv.one
 obtain⟨z,its,n,r,hl,e⟩:=I.Sy hH
 refine call_meets F.slot_list_append ⟨_,e,rfl⟩ F.entry_list_append (F.args_list_append_2 _ _) (PySem.list_append l its.toArray n u (by rw[List.size_toArray];omega)) ⟨e,?_⟩
 refine⟨.non,_,I.aeN (its':=its++[u]) hH e (by simp) (r.append (.cons ru .nil)) ?_,rfl,q⟩
 rw[List.length_append,List.length_singleton]
 omega
def XJ:V→List V→Hp→VK→Prop:=fun x vs H Q=>∃l b xs zs,x= .ref l∧vs=[.ref b]∧H l=some (.lst xs)∧H b=some (.lst zs)∧xs.length+zs.length≤sizeLine∧Q .non (upd H l (.lst (xs++zs)))
theorem Sv:MtM X "list.extend" XJ:=by
 intro pins s σ H x vs v us Q I rx rv h
 obtain⟨l,b,xs,zs,rfl,rfl,hH,hB,hz,q⟩:=h
 cases rx
 obtain⟨u,rfl,ru⟩:=rv.one
 cases ru
 obtain⟨z,its,n,r,hl,e⟩:=I.Sy hH
 obtain⟨z2,its2,n2,r2,hl2,e2⟩:=I.Sy hB
 have hsz:its.toArray.size+its2.toArray.size≤sizeLine:=by rw[List.size_toArray,List.size_toArray];omega
 have afw:¬(!its.toArray.isEmpty&&Builtin.List.listTooLong (its.toArray.size+its2.toArray.size))=true:=by
  rw[VB hsz,Bool.and_false]
  exact Bool.false_ne_true
 refine call_meets F.slot_list_extend ⟨_,e,rfl⟩ F.entry_list_extend (F.args_list_extend_2 _ _)
  (AutoSeq1.list_extend_list_list_0 l its.toArray n b its2.toArray n2 afw (by rw[List.size_toArray];omega) (by omega)) ⟨e,e2,?_⟩
 refine⟨.non,_,I.aeN (its':=its++its2) hH e (by simp) (r.append r2) ?_,rfl,q⟩
 rw[List.length_append]
 omega
def aj6:R2:=fun x y H Q=>∃l b xs zs,x= .ref l∧y= .ref b∧H l=some (.lst xs)∧H b=some (.lst zs)∧xs.length+zs.length≤sizeLine∧∀p,H p=none→Q (.ref p) (upd H p (.lst (xs++zs)))
theorem aba:wX X (binaryOp .Add) aj6:=by
 intro pins s σ H x y v u Q I rx ry h
 obtain⟨l,b,xs,zs,rfl,rfl,hH,hB,hz,q⟩:=h
 cases rx
 cases ry
 obtain⟨z,its,n,r,hl,e⟩:=I.Sy hH
 obtain⟨z2,its2,n2,r2,hl2,e2⟩:=I.Sy hB
 refine PySem.P.add_list e e2 ?_ (by rw[List.size_toArray,List.size_toArray];omega)
 have ea:its.toArray++its2.toArray=(its++its2).toArray:=by simp
 rw[ea]
 exact⟨.ref _,_,I.aeO (t':=s.toks) (r.append r2) (by rw[List.length_append];omega),rfl,q _ I.fresh⟩
end
section
variable{prog:Program}{w:World}{A:Around}{E:Value→Shared→Prop}{s:Shared}
end
section
variable{X:Cx}
end
end L2
namespace Att
open PySem PySem.W PySem.Calls PyProof.Rows
theorem Df{P:Params}{h:Heap}:∀(ns:List Int) (vs:List Value),WellAll P h vs (ns.map WData.int)→IntsAre vs ns:=by
 intro ns
 induction ns with
 | nil=>
  intro vs w
  rw[List.map_nil]at w
  cases w
  exact .nil
 | cons n ns ih=>
  intro vs w
  rw[List.map_cons]at w
  cases w with
  | cons a b=>
   cases a
   exact .cons _ _ (ih _ b)
theorem RG{l:OpenLaw}{n:Nat}(hn:l.most=some n){P:Params}{h:Heap}{args:List WData}{vals:List Value}
  (hpre:l.row.toRowW.claim.pre args=true) (hwl:WellAll P h vals args):
  ∃a vs ns,vals=[Value.ref a]∧args=[WData.list (ns.map WData.int)]∧h.get? a=some {cls:= .type "list",data:= .seq vs.toArray}∧IntsAre vs ns∧ns.length≤n:=by
 have hsh:WShape.hasAll [] args [.list .int]=true:=(pre_splitW hpre).1
 have hc:l.pre.holds [] {args:=args}=true:=(pre_splitW hpre).2
 obtain⟨d,r,rfl,h1,h2⟩:=hasAllW_cons hsh
 obtain rfl:=hasAllW_nil h2
 obtain⟨xs,rfl,h3⟩:=hasW_list h1
 obtain⟨ns,rfl⟩:=items_int h3
 have hlen:ns.length≤n:=by
  unfold OpenLaw.pre at hc
  have h4:(WTm.not (.lt (.lit (.int (n:Int))) (.len (.arg 0)))).holds [] {args:=[.list (ns.map .int)]}=true:=by
   have h4:=(holds_andW hc).1
   rw[hn]at h4
   exact h4
  have h5:=condW_of h4 (w_not (w_lt w_lit (w_len_list (w_arg rfl))))
  rw[List.length_map]at h5
  refine Nat.le_of_not_lt fun q=> ?_
  have q':(n:Int)<((ns.length:Nat):Int):=by omega
  first
   | (rw[decide_eq_true q']at h5;exact absurd h5 (by decide))
   | (simp at h5;omega)
 cases hwl with
 | cons w1 w2=>
  cases w2
  cases w1 with
  | list ho hall=>exact⟨_,_,ns,rfl,rfl,ho,Df ns _ hall,hlen⟩
theorem RQ(l:OpenLaw)(args:List WData):l.row.toRowW.claim.post args (.bool true) args=true:=
 postW_of (r:=l.row.toRowW) (X:=(true==true))
  (show WShape.has [] (.bool true) .bool=true by first | rfl | decide | simp[WShape.has,WShape.arms,WShape.armsAll])
  (show(WTm.eq .res (.lit (.bool true))).value [] {args:=args,res:=some (.bool true),after:=args}=some (.bool (true==true))from w_eq_bool (w_res rfl) w_lit) rfl
theorem Mw{l:OpenLaw}{n:Nat}{q:Program}{loose:List Str}{XP:(Str→Option Value)→Heap→Prop}{YP:World→Heap→Prop}{d:DefRec}
  (hn:l.most=some n) (hdf:d.params.defaults=[])
  (call:∀(w:World) (s₀ s₁:Shared) (mg mb:Str→Option Value) (fa:Addr) (o:Obj) (pm cd doc:Value) (a:Addr) (vs:List Value) (ns:List Int),
   Ground q loose [] XP w s₀ mg mb s₁.heap→YP w s₁.heap→
   s₁.heap.get? fa=some o→o.data= .func (docDef d.name d.params d.body d.scope pm cd doc)→s₁.heap.CodeRec cd d.name→mg d.name=some (.ref fa)→
   s₁.heap.get? a=some {cls:= .type "list",data:= .seq vs.toArray}→IntsAre vs ns→ns.length≤n→s₁.gens= #[]→
   codeAny (model l.prog w) callerA (.call (.ref fa) ⟨[.ref a],[]⟩) (fun r s'=>r= .ok (.ret (.bool true))∧OldK s₁.heap s'.heap∧s'.os=s₁.os∧AllBare s'.gens) s₁):
  WalkO q loose XP YP l.row.toRowW d [] (fun f vs=>PySem.call f vs):=by
 intro w s₀ s₁ mg mb G Y fa o pm cd doc dV kV ho hd hcd hD hmg hg args vals as hpre hlay hrd hwl hlo
 obtain rfl:dV= .none:=Dflts.none hD hdf
 obtain rfl:kV= .none:=Dflts.noKw hD
 obtain⟨a,vs,ns,rfl,rfl,hobj,hints,hlen⟩:=RG hn hpre hwl
 refine enter_call (codeAny_mono (call w s₀ s₁ mg mb fa o pm cd doc a vs ns G Y ho (fd_plain hd) hcd hmg hobj hints hlen hg) fun r s' hq=> ?_)
 obtain⟨rfl,h2,h3,h4⟩:=hq
 exact⟨.inl ⟨.bool true,.bool true,[],rfl,fun _=>rfl,.bool true,RQ l _,fun _=>⟨List.Pairwise.nil,fun _ hm=>(nomatch hm)⟩⟩,h2,h3,h4⟩
section
variable{prog:Program}{w:World}{A:Around}{E:Value→Shared→Prop}{s:Shared}{K:Frag}
end
end Att
namespace L2
open PySem PySem.Spec PyProof.Rows
theorem G5:∀{vs:List Value} {ns:List Int},IntsAre vs ns→Vals (ns.map V.int) vs
 | _,_,.nil=> .nil
 | _,_,.cons n t h=> .cons ⟨t,rfl⟩ (G5 h)
def Only(H:Hp):Prop:=∀b,H b=none∨∃o xs,H b=some (.zF o (.lst xs))
theorem V6{P:Program}{w:World}{K:PySem.W.Frag}{mg mb:Str→Option Value}{CX:PB}{k:Nat}{fa a:Addr}{fd:FuncData}{x:Str}{sp:Sp}{s₁:Shared}{vs:List Value}{ns:List Int}
  (KX:K.In s₁.heap) (hns:s₁.heap.Ns mainGlobals mg) (hb:s₁.heap.Ns builtinsNs mb) (hbb:∀x:Str,x≠ "__name__" → mb x=bootBuiltins x) (hlim:s₁.heap.NoLimit) (hg:s₁.gens= #[])
  (ha:s₁.heap.get? a=some {cls:= .type "list",data:= .seq vs.toArray}) (hi:IntsAre vs ns) (hl:ns.length≤sizeLine) (hr:j6 k callerA)
  (F:∀base:Heap,K.In base→base.Ns mainGlobals mg→bB P w K mg base CX k fa fd [x] sp) (hbind:∀(s:Shared) (u:Value),BindsTo s fd ⟨[u],[]⟩ [(x,u)])
  (hsp:∀H:Hp,Only H→yQ K H a (ns.map V.int)→sp [.ref a] H (fun v _=>v= .bl true) fun _ _ _=>False)
  (hCX:∀H e s',CX [] H s₁ (fun _ _ _=>False) e s'→False):
  codeAny (model P w) callerA (.call (.ref fa) ⟨[.ref a],[]⟩) (fun r s'=>r= .ok (.ret (.bool true))∧OldK s₁.heap s'.heap∧s'.os=s₁.os∧AllBare s'.gens) s₁:=by
 have rv:=G5 hi
 have lenV:=hi.length
 have core:∀H:Hp,Only H→yQ K H a (ns.map V.int)→ud P w H s₁.heap→(∀b,H b≠none→b=a)→(H a≠none→K.lookup a=none)→
   codeAny (model P w) callerA (.call (.ref fa) ⟨[.ref a],[]⟩) (fun r s'=>r= .ok (.ret (.bool true))∧OldK s₁.heap s'.heap∧s'.os=s₁.os∧AllBare s'.gens) s₁:=by
  intro H hO hS hok hA hK
  have Rg:∀{b:Addr} {o:Obj},s₁.heap.get? b=some o→H b=none→(J4 s₁.heap H).get? b=some o:=fun e n=>Wc e n
  have noA:∀{b:Addr} {o:Obj} {es:Array DictEntry} {ep:Nat},s₁.heap.get? b=some o→o.data= .dict es ep→H b=none:=fun{b o es ep} e d=>by
   cases q:H b with
   | none=>rfl
   | some u=>
    have e':b=a:=hA b (by rw[q];simp)
    subst e'
    rw[ha]at e;cases e
    have d':Data.seq vs.toArray _=Data.dict es ep:=d
    cases d'
  have nsK:∀{b:Addr} {m:Str→Option Value},s₁.heap.Ns b m→(J4 s₁.heap H).Ns b m:=fun{b m} ⟨o,es,ep,e,d,r⟩=>⟨o,es,ep,Rg e (noA e d),d,r⟩
  have hKb:K.In (J4 s₁.heap H):=fun b o e=>Rg (KX b o e) (by
   cases q:H b with
   | none=>rfl
   | some u=>
    have e':b=a:=hA b (by rw[q];simp)
    subst e'
    rw[hK (by rw[q];simp)]at e;cases e)
  have hM:Mod K mg (J4 s₁.heap H):=⟨hKb,nsK hns,⟨mb,nsK hb,hbb⟩,let⟨mc,h1,h2⟩:=hlim;⟨mc,nsK h1,h2⟩⟩
  have e0:GR P w K mg (J4 s₁.heap H) callerA [] s₁ H:=⟨rfl,hM,fun b o e=>Yl e,Nat.le_of_eq (S7 _ _),trivial,fun b hb=>absurd (show b∈([]:List Addr)from hb) (by simp),hok,.of_eq hg⟩
  refine codeAny_mono ((F _ hKb (nsK hns)).run callerA [] s₁ H ⟨[.ref a],[]⟩ [.ref a] [.ref a] _ _ hr e0 (hbind s₁ (.ref a)) (.cons rfl .nil) (hsp H hO hS)) fun r s' h=> ?_
  cases r with
  | error e=>exact(hCX H e s' h).elim
  | ok fl=>
   cases fl with
   | next=>exact False.elim h
   | brk=>exact False.elim h
   | cont=>exact False.elim h
   | ret u=>
    obtain⟨v,H',os,bare,un,hok',r',q⟩:=h
    have q':v= .bl true:=q
    subst q'
    obtain rfl:u=Value.bool true:=r'
    refine⟨rfl,OldK.of_keep fun b o e=> ?_,os,bare⟩
    cases q:H b with
    | none=>exact un.keep b o e q (by intro z;exact absurd (show b∈([]:List Addr)from z) (by simp)) (by simp)
    | some u=>
     rcases hO b with z | ⟨ob,xs,z⟩
     ·rw[q]at z;cases z
     ·have z2:=un.zp b ob _ z
      obtain⟨e1,_⟩:=hok b _ z
      obtain⟨e2,_⟩:=hok' b _ z2
      rw[e]at e1;cases e1
      exact e2
 cases hk:K.lookup a with
 | some o=>
  have e:=KX a o hk
  rw[ha]at e
  cases e
  refine core (fun _=>none) (fun _=> .inl rfl) (.inr ⟨_,vs.toArray,_,hk,rfl,rfl,rfl,by rw[List.size_toArray,lenV];exact hl,by simpa using rv⟩) (fun b u z=>by have z':(none:Option HO)=some u:=z;cases z') (fun b z=>absurd rfl z) fun z=>absurd rfl z
 | none=>
  refine core (fun b=>if b=a then some (.zF {cls:= .type "list",data:= .seq vs.toArray} (.lst (ns.map V.int)))else none) (fun b=> ?_) (.inl (.inr ⟨{cls:= .type "list",data:= .seq vs.toArray},if_pos rfl⟩)) (fun b u z=> ?_) (fun b z=> ?_) fun _=>hk
  ·by_cases hb:b=a
   ·exact .inr ⟨_,_,if_pos hb⟩
   ·exact .inl (if_neg hb)
  ·by_cases hb:b=a
   ·have z':=(if_pos hb).symm.trans z
    cases z'
    subst hb
    exact⟨ha,by rw[List.length_map];exact hl,vs,_,rv,ha⟩
   ·have z':=(if_neg hb).symm.trans z
    cases z'
  ·by_cases hb:b=a
   ·exact hb
   ·exact absurd (if_neg hb) z
end L2
namespace L2
open PySem PySem.Spec PyProof.Rows
abbrev KOf{K:PySem.W.Frag}{h:Heap}(_:K.In h):PySem.W.Frag:=K
theorem Xi{l:PySem.W.OpenLaw}{n k:Nat}{q:Program}{loose:List Str}{XP:(Str→Option Value)→Heap→Prop}{YP:World→Heap→Prop}{d:DefRec}{K:Params→PySem.W.Frag}{CX:World→PB}{sp:World→Sp}{x:Str}
  (hn:l.most=some n) (hn2:n≤sizeLine) (hdf:d.params.defaults=[]) (hr:j6 k callerA)
  (hY:∀(w:World) (h:Heap),YP w h→(K w.params).In h)
  (F:∀(w:World) (mg:Str→Option Value) (fa:Addr) (h:Heap),(K w.params).In h→h.Ns mainGlobals mg→mg d.name=some (.ref fa)→
   ∃fd:FuncData,(∀(s:Shared) (u:Value),BindsTo s fd ⟨[u],[]⟩ [(x,u)])∧
    ∀base:Heap,(K w.params).In base→base.Ns mainGlobals mg→bB l.prog w (K w.params) mg base (CX w) k fa fd [x] (sp w))
  (hsp:∀(w:World) (H:Hp) (a:Addr) (ns:List Int),ns.length≤n→Only H→yQ (K w.params) H a (ns.map V.int)→sp w [.ref a] H (fun v _=>v= .bl true) fun _ _ _=>False)
  (hCX:∀(w:World) (H:Hp) (s:Shared) (e:Value) (s':Shared),CX w [] H s (fun _ _ _=>False) e s'→False):
  PySem.W.WalkO q loose XP YP l.row.toRowW d [] (fun f vs=>PySem.call f vs):=by
 refine Att.Mw hn hdf fun w s₀ s₁ mg mb fa o pm cd doc a vs ns G Y ho hd hcd hmg hobj hints hlen hg=> ?_
 have KX:=hY w _ Y
 obtain⟨fd,hb,hF⟩:=F w mg fa _ KX G.T.g hmg
 exact V6 KX G.T.g G.T.b G.T.builtins G.T.nolimit hg hobj hints (Nat.le_trans hlen hn2) hr hF hb (fun H hO hS=>hsp w H a ns hlen hO hS) fun H e s'=>hCX w H s₁ e s'
end L2
namespace L2
open PySem PySem.Spec PyProof.Rows
def inClass(s:Stmt)(j:Nat):Stmt:=match s with
 | .ClassDef _ _ _ body _ _ _ _ _ _ _=>body.getD j (.Pass ⟨0,0,0,0⟩)
 | _=> .Pass ⟨0,0,0,0⟩
def aJ(s:Stmt):Arguments:=match s with
 | .FunctionDef _ a _ _ _ _ _ _ _ _=>a
 | _=>{posonlyargs:=[],args:=[],vararg:=none,kwonlyargs:=[],kw_defaults:=[],kwarg:=none,defaults:=[]}
def aG(s:Stmt):List Stmt:=match s with
 | .FunctionDef _ _ b _ _ _ _ _ _ _=>b
 | _=>[]
def au(s:Stmt):Scope:=match s with
 | .FunctionDef _ _ _ _ _ _ sc _ _ _=>sc
 | _=>{kind:= .function,names:=[],isGenerator:=false,isCoroutine:=false}
abbrev TJ:PB:=fun _ _ _ _ _ _=>False
abbrev E0:XK:=fun _ _ _=>False
section
variable{P:Program}{w:World}{K:PySem.W.Frag}{mg:Str→Option Value}{base:Heap}
end
section
variable{X:Cx}
theorem pv(i:Nat){x:Str}{pos:Pos}(hN:X.N[i]? = some x:=by rfl)(hv:Vis X.env.scope x:=by first | exact Or.inl rfl | exact Or.inr (Or.inl rfl) | exact Or.inr (Or.inr rfl))(hd:(x==("__debug__" : Str))=false:=by decide)
  (hcd:(x==("__classdict__" : Str))=false:=by decide):PE X (.Name x pos) (Xo i):=Vo hN hv hd hcd
end
def acE(H H':Hp):Prop:=∀b o,H b=some o→H' b=some o
theorem acE.free{H H':Hp}(e:acE H H'){l:Addr}(h:H' l=Option.none):H l=Option.none:=by
 cases q:H l with
 | none=>rfl
 | some o=>
  rw[e l o q]at h
  cases h
end L2
namespace L2
open PySem PySem.Spec PyProof.Rows
theorem vX{env:Env}{scope:Scope}(h:∀n,(n,NameKind.free)∈scope.names→∃c,env.cells.lookup n=some c):
  ∃cl,closureFor scope env=pure cl∧(∀n c,cl.lookup n=some c→env.cells.lookup n=some c)∧∀n,(n,NameKind.free)∈scope.names→∃c,cl.lookup n=some c:=by
 have go:∀(names:List (Str×NameKind)) (acc:List (Str×Addr)),(∀n,(n,NameKind.free)∈names→∃c,env.cells.lookup n=some c)→(∀n c,acc.lookup n=some c→env.cells.lookup n=some c)→
   ∃cl,(forIn names acc fun(x:Str×NameKind) (r:List (Str×Addr))=>if(x.2==NameKind.free)=true then do let a ←cellOf env x.1;pure (ForInStep.yield ((x.1,a)::r))else pure (ForInStep.yield r):Sem (List (Str×Addr)))=pure cl∧
    (∀n c,cl.lookup n=some c→env.cells.lookup n=some c)∧(∀n,(n,NameKind.free)∈names→∃c,cl.lookup n=some c)∧∀n c,acc.lookup n=some c→∃c,cl.lookup n=some c:=by
  intro names
  induction names with
  | nil=>intro acc _ h2;exact⟨acc,rfl,h2,(fun _ z=>nomatch z),fun n c e=>⟨c,e⟩⟩
  | cons x r ih=>
   intro acc h1 h2
   obtain⟨n,k⟩:=x
   by_cases hk:k=NameKind.free
   ·subst hk
    obtain⟨c,hc⟩:=h1 n List.mem_cons_self
    obtain⟨cl,e1,e2,e3,e4⟩:=ih ((n,c)::acc) (fun m z=>h1 m (List.mem_cons_of_mem _ z)) (fun m d e=>by
     rw[List.lookup_cons]at e
     cases q:m==n with
     | true=>rw[q]at e;cases e;rw[eq_of_beq q];exact hc
     | false=>rw[q]at e;exact h2 m d e)
    refine⟨cl,?_,e2,fun m z=> ?_,fun m d e=> ?_⟩
    ·rw[List.forIn_cons]
     have:cellOf env n=pure c:=by unfold cellOf;rw[hc]
     simp only[this,beq_self_eq_true,if_true]
     exact e1
    ·rcases List.mem_cons.mp z with z | z
     ·cases z
      exact e4 n c (by rw[List.lookup_cons,beq_self_eq_true])
     ·exact e3 m z
    ·cases q:m==n with
     | true=>exact e4 m c (by rw[List.lookup_cons,q])
     | false=>exact e4 m d (by rw[List.lookup_cons,q];exact e)
   ·obtain⟨cl,e1,e2,e3,e4⟩:=ih acc (fun m z=>h1 m (List.mem_cons_of_mem _ z)) h2
    refine⟨cl,?_,e2,fun m z=> ?_,e4⟩
    ·rw[List.forIn_cons]
     have:(k==NameKind.free)=false:=by simpa using hk
     simp only[this,Bool.false_eq_true,if_false]
     exact e1
    ·rcases List.mem_cons.mp z with z | z
     ·cases z;exact absurd rfl hk
     ·exact e3 m z
 obtain⟨cl,e1,e2,e3,_⟩:=go scope.names [] h (fun _ _ e=>nomatch e)
 refine⟨cl,?_,e2,e3⟩
 unfold closureFor
 show(forIn scope.names [] _ >>= fun r=>pure r)=_
 rw[show(forIn scope.names [] fun(x:Str×NameKind) (r:List (Str×Addr))=>_:Sem (List (Str×Addr)))=pure cl from e1]
 rfl
def gA(env:Env)(x:Str×NameKind):Str×NameKind:=if(x.2== .free&&env.scope.kind== .function&&env.kindOf x.1==some .cell)then(x.1,.cell)else(x.1,x.2)
theorem Ep(env:Env)(x:Str×NameKind):(gA env x).1=x.1:=by
 unfold gA;split<;>rfl
theorem Jq{env:Env}{y:Str}:∀{names:List (Str×NameKind)},(∀z∈names,z.2≠ .cell)→((names.map (gA env)).lookup y=some .cell∨(names.map (gA env)).lookup y=some .free)→(y,NameKind.free)∈names
 | [],_,h=>by rcases h with h | h<;>cases h
 | (n,k)::r,hc,h=>by
  rw[List.map_cons]at h
  have e1:(gA env (n,k)).1=n:=Ep env (n,k)
  cases hx:y==n with
  | true=>
   have ey:=eq_of_beq hx
   subst ey
   have hk:k≠ .cell:=hc (y,k) List.mem_cons_self
   have q:(gA env (y,k)).2= .cell∨(gA env (y,k)).2= .free:=by
    have l:∀kk,List.lookup y (gA env (y,k)::List.map (gA env) r)=some kk→(gA env (y,k)).2=kk:=fun kk z=>by
     rw[show gA env (y,k)=(y,(gA env (y,k)).2)from Prod.ext e1 rfl,List.lookup_cons,beq_self_eq_true]at z
     exact Option.some.inj z
    rcases h with h | h
    ·exact .inl (l _ h)
    ·exact .inr (l _ h)
   have hk2:k= .free:=by
    unfold gA at q
    split at q
    ·rename_i z
     rw[Bool.and_eq_true,Bool.and_eq_true]at z
     simpa using z.1.1
    ·rcases q with q | q
     ·exact absurd q hk
     ·exact q
   rw[hk2]
   exact List.mem_cons_self
  | false=>
   have l:List.lookup y (gA env (n,k)::List.map (gA env) r)=List.lookup y (List.map (gA env) r):=by
    rw[show gA env (n,k)=(n,(gA env (n,k)).2)from Prod.ext e1 rfl,List.lookup_cons,hx]
   rw[l]at h
   exact List.mem_cons_of_mem _ (Jq (fun z hz=>hc z (List.mem_cons_of_mem _ hz)) h)
theorem Og{env:Env}{y:Str}:∀{names:List (Str×NameKind)},names.lookup y=some .free→(names.map (gA env)).lookup y=some .cell∨(names.map (gA env)).lookup y=some .free
 | [],h=>by cases h
 | (n,k)::r,h=>by
  rw[List.map_cons]
  have e1:(gA env (n,k)).1=n:=Ep env (n,k)
  rw[show gA env (n,k)=(n,(gA env (n,k)).2)from Prod.ext e1 rfl,List.lookup_cons]
  rw[List.lookup_cons]at h
  cases hx:y==n with
  | true=>
   rw[hx]at h
   have hk:k= .free:=Option.some.inj h
   subst hk
   show some (gA env (n,NameKind.free)).2=some NameKind.cell∨some (gA env (n,NameKind.free)).2=some NameKind.free
   unfold gA
   split
   ·exact .inl rfl
   ·exact .inr rfl
  | false=>
   rw[hx]at h
   exact Og h
section
variable{prog:Program}{w:World}{A:Around}{R:Result→Shared→Prop}
theorem Ud{elt tg iter:Expr}{ifs:List Expr}{scope:Scope}{pos:Pos}{it acc:Value}{env:Env}(W:Nat→Shared→Prop){s:Shared}
  (turn:∀n s,W n s→wpAny (model prog w) A (pyNext it) (fun r s1=>match r with
   | none=>R (.ok .next) s1
   | some v=>wpAny (model prog w) A (letOwnedTupleGo tg it v) (fun _ s2=>wpAny (model prog w) A (assign tg env v) (fun _ s3=>
     wpAny (model prog w) A (forIn ifs true fun c r=>if r=true then do let ok ←isTrue c env (eval c env);pure (ForInStep.yield ok)else pure (ForInStep.yield r)) (fun ok s4=>
      if ok=true then wpAny (model prog w) A (eval elt env) (fun x s5=>wpAny (model prog w) A (call (.builtin "list.append") [acc,x]) (fun _ s6=>∃m,m<n∧W m s6) (fun _ _=>False) s5) (fun _ _=>False) s4
      else ∃m,m<n∧W m s4) (fun _ _=>False) s3) (fun _ _=>False) s2) (fun _ _=>False) s1) (fun _ _=>False) s)
  (n:Nat) (h:W n s):codeAny (model prog w) A (.compLoop (.ListComp elt [⟨tg,iter,ifs,0⟩] scope pos) 0 it acc env) R s:=by
 have ex:∀{α:Type} {t:Sem α} {Q Q':α→Shared→Prop} {E:Value→Shared→Prop} {s:Shared},wpAny (model prog w) A t Q (fun _ _=>False) s→(∀a s,Q a s→Q' a s)→wpAny (model prog w) A t Q' E s:=
  fun h f=>wpAny_mono h f fun _ _ z=>z.elim
 refine codeAny_loop rfl W (fun n s hI=> ?_) n h
 show wpAny _ A ((compTurn (.ListComp elt [⟨tg,iter,ifs,0⟩] scope pos) 0 it acc env).onRaise (fun x=>do noteFrame x env;theTreesLotGoes x)) _ _ s
 refine wpAny_noted ?_
 rw[compTurn_list]
 refine wpAny_bind (wpAny_standAt (wpAny_bind (ex (turn n s hI) fun r s1 h1=> ?_)))
 cases r with
 | none=>exact wpAny_pure h1
 | some v=>
  refine wpAny_bind (ex h1 fun _ s2 h2=>wpAny_bind (ex h2 fun _ s3 h3=>wpAny_bind (ex h3 fun ok s4 h4=> ?_)))
  cases ok with
  | false=>exact wpAny_pure ⟨rfl,h4⟩
  | true=>exact wpAny_bind (wpAny_bind (ex h4 fun x s5 h5=>wpAny_bind (ex h5 fun _ s6 h6=>wpAny_pure (wpAny_pure ⟨rfl,h6⟩))))
end
def aP(X:Cx)(scope:Scope)(cl:List (Str×Addr))(C:Addr)(N:List Str)(fp:List Addr)(s:Shared)(H:Hp):Cx where
 prog:=X.prog
 w:=X.w
 K:=X.K
 mg:=X.mg
 base:=X.base
 A:=X.A
 N:=N
 s₀:=s
 H₀:=H
 env:=compEnvC scope cl C X.env
 outer:=X.stack
 stack:=X.stack
 ex:=fp
 fn:=fun _=>false
 calm:=X.calm
 pn:=[]
 xe:=fun _ _=>False
def qK(X:Cx)(scope:Scope):List Str→List Nat→Prop
 | [],[]=>True
 | y::cs,i::js=>(X.N[i]? = some y∧scope.names.lookup y=some .free∧(X.env.kindOf y=some .cell∨X.env.kindOf y=some .free))∧qK X scope cs js
 | _,_=>False
theorem qK.len{X:Cx}{scope:Scope}:∀{cs:List Str} {js:List Nat},qK X scope cs js→js.length=cs.length
 | [],[],_=>rfl
 | _::_,_::_,h=>by rw[List.length_cons,List.length_cons,qK.len h.2]
 | [],_::_,h=>h.elim
 | _::_,[],h=>h.elim
theorem qK.get{X:Cx}{scope:Scope}{y:Str}:∀{cs:List Str} {js:List Nat} {j:Nat},qK X scope cs js→cs[j]? = some y→
  ∃i,js[j]? = some i∧X.N[i]? = some y∧scope.names.lookup y=some .free∧(X.env.kindOf y=some .cell∨X.env.kindOf y=some .free)
 | [],[],_,_,e=>by simp at e
 | _::_,i::_,0,h,e=>by simp at e;subst e;exact⟨i,rfl,h.1.1,h.1.2⟩
 | _::_,_::_,j+1,h,e=>by
  obtain⟨i,e1,r⟩:=qK.get (j:=j) h.2 (by simpa using e)
  exact⟨i,by simpa using e1,r⟩
 | [],_::_,_,h,_=>h.elim
 | _::_,[],_,h,_=>h.elim
def caps(js:List Nat)(σ:St):St:=js.map fun i=>(σ[i]?).join
def Z7(X:Cx)(ifs:List Expr)(t:TT):Prop:=
 ∀(pins:List (Addr×Obj)) (s:Shared) (σ:St) (H:Hp) (Q:Bool→Hp→Prop),Inv X pins σ H s→t σ H Q→
  wpAny (model X.prog X.w) X.A (forIn ifs true fun c r=>if r=true then do let ok ←isTrue c X.env (eval c X.env);pure (ForInStep.yield ok)else pure (ForInStep.yield r)) (TP X pins σ Q) X.xe s
def ajs:TT:=fun _ H Q=>Q true H
theorem XR{X:Cx}:Z7 X [] ajs:=fun _ _ _ H _ I h=>wpAny_pure ⟨H,I,h⟩
def W_(js:List Nat)(tt:TT)(te:TE)(σ:St)(Q:VK)(J:It)(H1:Hp):Prop:=
 ∃W:Nat→Nat→List V→Hp→Prop,(∃m,W 0 m [] H1)∧∀i m ys H,W i m ys H→
  (J.stop i H∧ys.length≤sizeLine∧∀p,H p=none→Q (.ref p) (upd H p (.lst ys)))∨
  (J.go i H∧∃N:List V→Hp→Prop,(∀ys' H',N ys' H'→ys'.length≤sizeLine∧∃m',m'<m∧W (i+1) m' ys' H')∧∀x H',J.Xa i H x H'→tt (some x::caps js σ) H' fun b H2=>
   if b=true then te (some x::caps js σ) H2 fun y H3=>N (ys++[y]) H3 else N ys H2)
def Uq(js:List Nat)(wi:TI)(tt:TT)(te:TE):TE:=fun σ H Q=>wi σ H fun J H1=>W_ js tt te σ Q J H1
theorem ud.track{P:Program}{w:World}{H:Hp}{h:Heap}{a:Addr}{o:HO}(x:ud P w H h)(hn:H a=none)(new:jn P w (upd H a o) h a o):ud P w (upd H a o) h:=fun b u e=>by
 by_cases hb:b=a
 ·subst hb;rw[d7]at e;cases e;exact new
 ·rw[bA hb]at e
  exact(x b u e).stay (fun c v _ q=>q) (fun c q=>by rw[bA (dH q hn)];exact q) fun c xs q=>by rw[bA (dH q hn)];exact q
theorem Un.track{fs ex:List Addr}{H H1:Hp}{h h1:Heap}{a:Addr}{o:HO}(u:Un fs ex H H1 h h1)(hn:h.get? a=none)(hH:H a=none):Un fs ex H (upd H1 a o) h h1 where
 keep:=u.keep
 slot:=u.slot
 free:=fun b ob e n hx=>by rw[bA (by rintro rfl;rw[hn]at e;cases e)];exact u.free b ob e n hx
 there:=u.there
 tups:=fun b xs e=>by rw[bA (dH e hH)];exact u.tups b xs e
 zp:=fun b ob xs e=>by rw[bA (dH e hH)];exact u.zp b ob xs e
 zO:=fun b ps e=>by rw[bA (dH e hH)];exact u.zO b ps e
section
variable{X:Cx}{x:Str}{px:Pos}{elt iter:Expr}{ifs:List Expr}{scope:Scope}{cs:List Str}{js:List Nat}{tt:TT}{te:TE}{pos:Pos}
theorem FN{cl:List (Str×Addr)}{pins:List (Addr×Obj)}{σ:St}{H2:Hp}{s2:Shared}{it:Addr}{fp:List Addr}{tn:Nat→Heap→Prop}{J:It}{Q:VK}{RR:Value→Addr→Result→Shared→Prop}
  (hc:X.calm=true) (hcap:qK X scope cs js) (ht:∀cl C fp s H,Z7 (aP X scope cl C (x::cs) fp s H) ifs tt) (he:∀cl C fp s H,PE (aP X scope cl C (x::cs) fp s H) elt te)
  (hcell:∀y∈scope.names,y.2≠ .cell) (hkind:scope.kind= .function) (hx:scope.names.lookup x=some .local) (hnd:(x::cs).Nodup)
  (su:∀n c,cl.lookup n=some c→X.env.cells.lookup n=some c) (BV:∀n,(n,NameKind.free)∈scope.names→∃c,cl.lookup n=some c)
  (I2:Inv X pins σ H2 s2) (T:Turn X.prog X.w X.K (.Name x px) J fp it tn) (st2:tn 0 s2.heap) (f2:∀b∈fp,Ga X pins H2 b)
  (W:Nat→Nat→List V→Hp→Prop) (w0:∃m,W 0 m [] H2)
  (step:∀i m ys H,W i m ys H→
   (J.stop i H∧ys.length≤sizeLine∧∀p,H p=none→Q (.ref p) (upd H p (.lst ys)))∨
   (J.go i H∧∃N:List V→Hp→Prop,(∀ys' H',N ys' H'→ys'.length≤sizeLine∧∃m',m'<m∧W (i+1) m' ys' H')∧∀x H',J.Xa i H x H'→tt (some x::caps js σ) H' fun b H2=>
    if b=true then te (some x::caps js σ) H2 fun y H3=>N (ys++[y]) H3 else N ys H2))
  (fin:∀(D C:Addr) (H3:Hp) (s4:Shared) (m':Str→Option Value),Inv X pins σ H3 s4→s4.heap.Ns C m'→s2.heap.objs.size≤C→H3 C=none→Q (.ref D) H3→RR (.ref D) C (.ok .next) s4):
  wpAny (model X.prog X.w) X.A (newList []) (fun acc s3=>wpAny (model X.prog X.w) X.A (newFunctionEnv scope X.env.globals cl [] X.env.qual none .none (some X.env)) (fun cenv s4=>
   codeAny (model X.prog X.w) X.A (.compStart (.ListComp elt [⟨.Name x px,iter,ifs,0⟩] scope pos) 0 (.ref it) acc {cenv with scope:=relabel scope X.env}) (RR acc cenv.locals) s4) X.xe s3) X.xe s2:=by
 refine wpAny_newObj_type (wpAny_newFunctionEnv hcell (by intro y hy;simp at hy) (fun h1 hns hsb=> ?_) hkind)
 dsimp only at hns hsb ⊢
 generalize hP:s2.heap.push {cls:= .type "list",dict:=none,data:= .seq ([]:List Value).toArray}=hq at hns hsb ⊢
 have eC:hq.objs.size=s2.heap.objs.size+1:=by rw[←hP,Heap.size_push]
 generalize eD:s2.heap.objs.size=D at eC ⊢
 generalize eCC:hq.objs.size=C at hns hsb eC ⊢
 have DC:D≠C:=by omega
 have old:∀b o,s2.heap.get? b=some o→h1.get? b=some o:=fun b o e=>by
  have lt: @LT.lt Nat _ b s2.heap.objs.size:=Heap.lt_size e
  exact hsb.extBut b o (fun z=>by subst z;omega) (Heap.get?_push_of_some _ (hP▸Heap.get?_push_of_some _ e))
 have acC:h1.get? D=some {cls:= .type "list",dict:=none,data:= .seq ([]:List Value).toArray}:=hsb.extBut _ _ DC (Heap.get?_push_of_some _ (hP▸eD▸Heap.get?_push_size _ rfl))
 have noD:s2.heap.get? D=none:=Heap.get?_none_of_le (by omega)
 have HD:H2 D=none:=I2.hok.fresh (by omega)
 have HC:H2 C=none:=I2.hok.fresh (by omega)
 have Wl:∀b∈fp,@LT.lt Nat _ b D:=fun b hb=>by
  obtain⟨o,e,_⟩:=T.obj _ _ st2 b hb
  have q: @LT.lt Nat _ b s2.heap.objs.size:=Heap.lt_size e
  omega
 have Dfp:D∉fp:=fun z=>Nat.lt_irrefl _ (Wl D z)
 have abI:∀b∈frs X.stack,@LT.lt Nat _ b D:=fun b hb=>by
  obtain⟨_,o,ho,_⟩:=I2.stack.mem hb
  have q: @LT.lt Nat _ b s2.heap.objs.size:=Heap.lt_size ho
  omega
 have abP:∀y c,cl.lookup y=some c→ @LT.lt Nat _ c D:=fun y c e=>by
  obtain⟨v,z⟩:=I2.cell y c (su y c e)
  have q: @LT.lt Nat _ c s2.heap.objs.size:=z.lt
  omega
 have ok:(aP X scope cl C (x::cs) fp s2 H2).Ok:=by
  refine⟨I2.ok.mod,hkind,I2.ok.glob,I2.ok.blt,(by show s2.heap.objs.size≤C;omega),fun y z c e1 e2=>I2.ok.inj y z c (su y c e1) (su z c e2),fun y hy=>BV y (Jq hcell hy),fun y c e=>(by cases e),I2.ok.hd,I2.ok.frames,.inl rfl,
   fun b hb=>⟨?_,fun y c e=>(f2 b hb).2.2.2.2.1 y c (su y c e)⟩,I2.bs,Nat.le_trans I2.ok.Nh I2.sz,fun b o e hb=> ?_,fun b hb z=> ?_,I2.stack,I2.zP⟩
  ·have q:=Wl b hb
   show b≠C
   intro z
   subst z
   omega
  ·rcases(f2 b hb).2.2.2.1 with z | z
   ·exact I2.ok.JC b o e z
   ·have l: @LT.lt Nat _ b X.base.objs.size:=Heap.lt_size e
    have l2:=I2.ok.Nh
    have l3: @LE.le Nat _ X.s₀.heap.objs.size b:=z
    omega
  ·rcases List.mem_cons.mp (I2.DW b z)with e | e
   ·exact(f2 b hb).2.1 e
   ·exact(f2 b hb).2.2.1 e
 have I0:Inv (aP X scope cl C (x::cs) fp s2 H2) [(D,{cls:= .type "list",dict:=none,data:= .seq ([]:List Value).toArray})] (none::caps js σ) H2 {s2 with heap:=h1,toks:=s2.toks+([]:List (Str×Value)).length}:=by
  refine⟨ok,rfl,I2.bare,Un.kept old,⟨_,hns,fun i y v e1 e2 e3=> ?_⟩,fun y c e=> ?_,HC,fun y c e=>I2.oh y c (su y c e),fun p hp=> ?_,I2.hok.kept old,?_⟩
  ·cases i with
   | zero=>simp at e2
   | succ j=>
    have e1':cs[j]? = some y:=by simpa[aP]using e1
    obtain⟨i0,q1,q2,q3,q4⟩:=hcap.get e1'
    have e2':σ[i0]? = some (some v):=by
     have z:(caps js σ)[j]? = some (some v):=by simpa using e2
     unfold caps at z
     rw[List.getElem?_map,q1]at z
     have z':(σ[i0]?).join=some v:=by simpa using z
     cases r:σ[i0]? with
     | none=>rw[r]at z';cases z'
     | some r'=>rw[r]at z';exact congrArg some z'
    obtain⟨m,_,hl⟩:=I2.loc
    obtain⟨u,r,l⟩:=hl i0 y v q2 e2' (by rcases q4 with q | q;exact .inr (.inl q);exact .inr (.inr q))
    obtain⟨c,hcy⟩:=BV y (PySem.mem_of_lookup q3)
    refine⟨u,r,.inr ⟨Og q3,c,hcy,?_⟩⟩
    rcases l with⟨k,_⟩ | ⟨_,c',ec,o,ho,hd⟩
    ·rcases q4 with q | q<;>rw[q]at k<;>cases k
    ·rw[su y c hcy]at ec
     cases ec
     exact⟨o,old _ _ ho,hd⟩
  ·obtain⟨v,o,ho,hd⟩:=I2.cell y c (su y c e)
   exact⟨v,o,old _ _ ho,hd⟩
  ·have ep:p=(D,{cls:= .type "list",dict:=none,data:= .seq ([]:List Value).toArray}):=by simpa[aP]using hp
   subst ep
   exact⟨acC,HD,(by show D≠C;omega),(fun z=>Nat.lt_irrefl _ (abI D z)),fun v z=>by cases z⟩
  ·show(none::caps js σ).length=(x::cs).length
   unfold caps
   rw[List.length_cons,List.length_cons,List.length_map,hcap.len]
 have stat:∀{pn:List (Addr×Obj)} {H':Hp},(∀b∈fp,H' b=none)→(∀p∈pn,p.1∉fp)→∀b∈fp,Ga (aP X scope cl C (x::cs) fp s2 H2) pn H' b:=fun hn hpn b hb=>
  ⟨hn b hb,(ok.YW b hb).1,ok.J9 b hb,.inl hb,fun y c e=>(ok.YW b hb).2 y c e,fun p hp z=>hpn p (by simpa[aP]using hp) (z▸hb)⟩
 have loop:∀s3:Shared,s3={s2 with heap:=h1,toks:=s2.toks+([]:List (Str×Value)).length}→
   codeAny (model X.prog X.w) X.A (.compLoop (.ListComp elt [⟨.Name x px,iter,ifs,0⟩] scope pos) 0 (.ref it) (.ref D) (compEnvC scope cl C X.env)) (RR (.ref D) C) s3:=by
  rintro s3 rfl
  obtain⟨m0,w0⟩:=w0
  refine Ud (fun n s=>∃(i:Nat) (ys:List V) (its:List Value) (c:Nat) (H:Hp),Inv (aP X scope cl C (x::cs) fp s2 H2) [(D,{cls:= .type "list",data:= .seq its.toArray c})] (none::caps js σ) H s∧
   tn i s.heap∧(∀b∈fp,H b=none)∧Vals ys its∧W i n ys H) ?_ m0 ⟨0,[],[],0,H2,I0,T.keep _ _ _ st2 fun b _ o e=>old b o e,fun b hb=>(f2 b hb).1,.nil,w0⟩
  rintro n s3 ⟨i,ys,its,c,H3,I3,st3,ZZ,rv,w3⟩
  have pD:∀p∈[((D,{cls:= .type "list",data:= .seq its.toArray c}):Addr×Obj)],p.1∉fp:=fun p hp=>by
   have:p=(D,{cls:= .type "list",data:= .seq its.toArray c}):=by simpa using hp
   subst this
   exact Dfp
  rcases step i n ys H3 w3 with⟨stop,hlen,qn⟩ | ⟨go,N,hN,step⟩
  ·refine jh (T.done (aP X scope cl C (x::cs) fp s2 H2) rfl rfl rfl hc i _ s3 _ H3 (fun _ _=>False) I3 (stat ZZ pD) st3 stop) fun r s4 ⟨hr,I4⟩=> ?_
   subst hr
   obtain⟨gD,nD,_⟩:=I4.pin _ (List.mem_append_right _ List.mem_cons_self)
   obtain⟨m',hn',_⟩:=id I4.loc
   have u4:Un (frs X.stack) fp H2 H3 s2.heap s4.heap:=I4.base
   have k4:ud X.prog X.w (upd H3 D (.lst ys)) s4.heap:=ud.track I4.hok nD ⟨hlen,its,c,rv,gD⟩
   have I5:Inv X pins σ (upd H3 D (.lst ys)) s4:=I2.call' (ch:=fp) I4.os (u4.track noD HD) k4 I4.bare fun b hb=>⟨(f2 b hb).2.2.2.1,(f2 b hb).2.1,(f2 b hb).2.2.2.2.1,(f2 b hb).2.2.2.2.2⟩
   exact fin D C _ s4 m' I5 hn' (by omega) (by rw[bA (Ne.symm DC)];exact I4.free) (qn D nD)
  ·refine jh (T.item (aP X scope cl C (x::cs) fp s2 H2) rfl rfl rfl hc i _ s3 _ H3 (fun _ _=>False) I3 (stat ZZ pD) st3 go) fun r s4 ⟨u,hr,h4⟩=> ?_
   subst hr
   refine jh h4 fun _ s5 ⟨v,H5,I5,r5,y5,Rz,fr5⟩=> ?_
   have I5':=I5.pinned (stat fr5 pD) (T.obj _ _ Rz)
   have hxl:(compEnvC scope cl C X.env).scope.names.lookup x=some .local:=lookup_relabel_local hx
   refine wpAny_assign_Name (uA (X:=aP X scope cl C (x::cs) fp s2 H2) (i:=0) I5' hnd rfl (.inl hxl) r5 (fun s6 I6=> ?_) (.inr hxl))
   have weak:∀{pn:List (Addr×Obj)} {H':Hp} {s':Shared},Inv (aP X scope cl C (x::cs) fp s2 H2) pn (some v::caps js σ) H' s'→Inv (aP X scope cl C (x::cs) fp s2 H2) pn (none::caps js σ) H' s':=fun I'=>
    I'.weak rfl fun j z e=>by
     cases j with
     | zero=>simp at e
     | succ j=>simpa using e
   have Xk:∀{σ':St} {H':Hp} {s':Shared},Inv (aP X scope cl C (x::cs) fp s2 H2) ([(D,{cls:= .type "list",data:= .seq its.toArray c})]++Bs fp s5.heap) σ' H' s'→(∀b∈fp,∀o,s5.heap.get? b=some o→s'.heap.get? b=some o)∧∀b∈fp,H' b=none:=fun I'=>
    ⟨fun b hb o e=>(I'.pin (b,o) (List.mem_append_right _ (List.mem_append_right _ (pG hb e)))).1,fun b hb=>by
     obtain⟨o,e,_⟩:=T.obj _ _ Rz b hb
     exact(I'.pin (b,o) (List.mem_append_right _ (List.mem_append_right _ (pG hb e)))).2.1⟩
   refine jh (ht cl C fp s2 H2 _ s6 (some v::caps js σ) H5 _ I6 (step v H5 y5)) fun b s7 ⟨H7,I7,q7⟩=> ?_
   cases b with
   | false=>
    rw[if_neg Bool.false_ne_true]at q7 ⊢
    obtain⟨_,m',hm,w7⟩:=hN _ _ q7
    exact⟨m',hm,i+1,ys,its,c,H7,weak I7.wY,T.keep _ _ _ Rz (Xk I7).1,(Xk I7).2,rv,w7⟩
   | true=>
    rw[if_pos rfl]at q7 ⊢
    refine jh (he cl C fp s2 H2 _ s7 (some v::caps js σ) H7 _ I7 q7) fun yv s8 ⟨y,H8,I8,r8,q8⟩=> ?_
    obtain⟨hl8,m',hm,w8⟩:=hN _ _ q8
    rw[List.length_append,List.length_singleton]at hl8
    obtain⟨gD,nD,dC,dF,_⟩:=I8.pin (D,{cls:= .type "list",data:= .seq its.toArray c}) (List.mem_append_right _ (List.mem_append_left _ List.mem_cons_self))
    have el:=rv.length
    refine wpAny_list_append_plain (hsz:=by rw[List.size_toArray];omega) ⟨c,gD⟩ fun h9 p9 sb9=> ?_
    obtain⟨c9,g9⟩:=p9
    have g9':h9.get? D=some {cls:= .type "list",data:= .seq (its++[yv]).toArray c9}:=by simpa using g9
    have I9:Inv (aP X scope cl C (x::cs) fp s2 H2) [] (none::caps js σ) H8 {s8 with heap:=h9}:=
     (weak (I8.vD (tV:=[]) (fun p hp=>nomatch hp))).turned (t':=s8.toks) (it:=D) (fun b o hb e=>(sb9.2 b hb).trans e) nD dC (.inr (by show s2.heap.objs.size≤D;omega)) (fun y c e z=>by have q:=abP y c e;subst z;omega) (fun p hp=>nomatch hp)
    refine⟨m',hm,i+1,ys++[y],its++[yv],c9,H8,I9.vD fun p hp=> ?_,?_,(Xk I8).2,rv.append (.cons r8 .nil),w8⟩
    ·have:p=(D,{cls:= .type "list",data:= .seq (its++[yv]).toArray c9}):=by simpa using hp
     subst this
     exact⟨g9',nD,dC,dF,fun v z=>by cases z⟩
    ·exact T.keep _ _ _ Rz fun b hb o e=>(sb9.2 b (fun z=>Dfp (z▸hb))).trans ((Xk I8).1 b hb o e)
 exact codeAny_compStart_list (loop _ rfl) (T.self _ 0 _ _ _ (T.keep _ _ _ st2 fun b _ o e=>old b o e) (loop _ rfl))
theorem Inv.letGo{pins:List (Addr×Obj)}{σ:St}{H:Hp}{s:Shared}{C:Addr}{h':Heap}{s2:Shared}{H2:Hp}{σ2:St}(I2:Inv X pins σ2 H2 s2)(I:Inv X pins σ H s)(hC:s2.heap.objs.size≤C)(hn:H C=none)(sb:Heap.SameBut C s.heap h'):Inv X pins σ H {s with heap:=h'}:=
 I.turned (t':=s.toks) (fun b o hb e=>(sb.2 b hb).trans e) hn (Nat.ne_of_gt (Nat.lt_of_lt_of_le I2.lt hC)) (.inr (Nat.le_trans I2.sz hC))
  (fun y c e z=>by obtain⟨v,q⟩:=I2.cell y c e;exact absurd (Nat.lt_of_lt_of_le q.lt (by rw[z];exact hC)) (Nat.lt_irrefl _))
  (fun p hp z=>absurd (Nat.lt_of_lt_of_le (Heap.lt_size (I2.pin p hp).1) (by rw[z];exact hC)) (Nat.lt_irrefl _))
theorem Yc{wi:TI}(hc:X.calm=true)(cs:List Str)(js:List Nat)(hi:PI X (.Name x px) iter wi)(hcap:qK X scope cs js)(ht:∀cl C fp s H,Z7 (aP X scope cl C (x::cs) fp s H) ifs tt)(he:∀cl C fp s H,PE (aP X scope cl C (x::cs) fp s H) elt te)
  (hall:∀y∈scope.names,y.2= .free→y.1∈cs) (hcell:∀y∈scope.names,y.2≠ .cell) (hnames:∀y∈scope.names,y.2= .local→scope.names.lookup y.1=some .local) (hnd:(x::cs).Nodup)
  (hkind:scope.kind= .function:=by rfl) (hx:scope.names.lookup x=some .local:=by rfl) (hs:∀v,foldedSetIterable iter X.env v=pure v:=by intro _;rfl):
  PE X (.ListComp elt [⟨.Name x px,iter,ifs,0⟩] scope pos) (Uq js wi tt te):=by
 intro pins s σ H Q I h
 obtain⟨cl,O3,su,BV⟩:=vX (env:=X.env) (scope:=scope) fun n hn=>by
  obtain⟨j,hj⟩:=List.getElem?_of_mem (hall _ hn rfl)
  obtain⟨_,_,_,_,k⟩:=hcap.get hj
  exact I.ok.has n k
 rw[eval_ListComp]
 refine wpAny_comprehension_free (use:=none) rfl hs O3 hkind hnames (jh (hi pins s σ H _ I h) fun v s1 h1=>jh h1 fun itv s2 h2=> ?_)
 obtain⟨it,fp,tn,J,H2,e,I2,T,st2,f2,W,w0,step⟩:=h2
 subst e
 refine FN (Q:=Q) (RR:=fun acc C=>compPost (model X.prog X.w) X.A X.xe none (EP X pins σ Q) acc C) hc hcap ht he hcell hkind hx hnd su BV I2 T st2 f2 W w0 step fun D C H3 s4 m' I4 hn hC hH q=> ?_
 exact⟨m',hn,fun h' sb=>⟨.ref D,H3,I2.letGo I4 hC hH sb,rfl,q⟩⟩
theorem X6{wi:TI}{y:Str}{py spos:Pos}{k:Nat}(hc:X.calm=true)(cs:List Str)(js:List Nat)(hN:X.N.Nodup)(hk:X.N[k]? = some y)(hy:X.env.scope.names.lookup y=some .local)(hi:PI X (.Name x px) iter wi)(hcap:qK X scope cs js)
  (ht:∀cl C fp s H,Z7 (aP X scope cl C (x::cs) fp s H) ifs tt) (he:∀cl C fp s H,PE (aP X scope cl C (x::cs) fp s H) elt te)
  (hall:∀y∈scope.names,y.2= .free→y.1∈cs) (hcell:∀y∈scope.names,y.2≠ .cell) (hnames:∀y∈scope.names,y.2= .local→scope.names.lookup y.1=some .local) (hnd:(x::cs).Nodup)
  (hsw:swapsWith (.ListComp elt [⟨.Name x px,iter,ifs,0⟩] scope pos) (some (.Name y py)) spos.line X.env=pure true:=by rfl)
  (hkind:scope.kind= .function:=by rfl) (hx:scope.names.lookup x=some .local:=by rfl) (hs:∀v,foldedSetIterable iter X.env v=pure v:=by intro _;rfl):
  PS X (.Assign [.Name y py] (.ListComp elt [⟨.Name x px,iter,ifs,0⟩] scope pos) spos) (Xq (Uq js wi tt te) (Hx k)):=by
 intro pins s σ H D I h
 obtain⟨cl,O3,su,BV⟩:=vX (env:=X.env) (scope:=scope) fun n hn=>by
  obtain⟨j,hj⟩:=List.getElem?_of_mem (hall _ hn rfl)
  obtain⟨_,_,_,_,k⟩:=hcap.get hj
  exact I.ok.has n k
 rw[exec_Assign_Name_used _ _ _ _ hsw]
 refine wpAny_bind (wpAny_standAt (wpAny_bind ?_))
 show wpAny _ X.A (do let _ ←comprehension (.ListComp elt [⟨.Name x px,iter,ifs,0⟩] scope pos) scope X.env _ (newList []) false (eval iter X.env) (some (assign (.Name y py) X.env))) _ _ s
 refine wpAny_bind (jh (wpAny_comprehension_free (use:=some (assign (.Name y py) X.env)) (Q:=fun _ s'=>SP X pins D .next s') rfl hs O3 hkind hnames (jh (hi pins s σ H _ I h) fun v s1 h1=>jh h1 fun itv s2 h2=> ?_)) (fun _ s' q=>wpAny_pure (wpAny_pure q)))
 obtain⟨it,fp,tn,J,H2,e,I2,T,st2,f2,W,w0,step⟩:=h2
 subst e
 refine FN (Q:=fun x H1=>Hx k x σ H1 D.nx) (RR:=fun acc C=>compPost (model X.prog X.w) X.A X.xe (some (assign (.Name y py) X.env)) (fun _ s'=>SP X pins D .next s') acc C) hc hcap ht he hcell hkind hx hnd su BV I2 T st2 f2 W w0 step fun D' C H3 s4 m' I4 hn hC hH q=> ?_
 show wpAny _ X.A (assign (.Name y py) X.env (.ref D')) _ _ _
 refine wpAny_assign_Name (Bd (v:= .ref D') I4 hN hk (.inl hy) rfl (fun s5 I5 ⟨a,sb,ha⟩=> ?_) (.inr hy))
 have VH:C≠a:=by
  rcases ha with e | e
  ·rw[e];exact Nat.ne_of_gt (Nat.lt_of_lt_of_le I2.lt hC)
  ·intro z
   obtain⟨v,q⟩:=I2.cell y a e
   exact absurd (Nat.lt_of_lt_of_le q.lt (by rw[←z];exact hC)) (Nat.lt_irrefl _)
 exact⟨m',hn.sameBut sb VH,fun h' sb'=>⟨_,H3,I2.letGo I5 hC hH sb',q⟩⟩
end
end L2
namespace L2
open PySem PySem.Spec PyProof.Rows
def Z1:HO→Bool
 | .dT _=>false
 | .zF _ (.dT _)=>false
 | .zF _ (.ins _ _ _)=>false
 | .zF _ (.zF _ _)=>false
 | _=>true
def Flat(H:Hp):Prop:=∀a o,H a=some o→Z1 o=true
def Rn(H:Hp):Prop:=∀a C dx fs,H a=some (.ins C dx fs)→H dx=some (.own a)
structure Fgt(H H' Nk:Hp):Prop where
 sub:∀a o,Nk a=some o→H' a=some o
 flat:Flat Nk
 own:Rn H→Rn Nk
 tup:∀b xs,H b=some (.tup xs)→Nk b=some (.tup xs)
 zF:∀b o u,H b=some (.zF o u)→Nk b=some (.zF o u)
 Uj:∀b ps,H b=some (.Uj ps)→∃more,Nk b=some (.Uj (ps++more))
theorem Fgt.self{H H':Hp}(s:acE H H')(f:Flat H):Fgt H H' H:=
 ⟨s,f,id,fun _ _ e=>e,fun _ _ _ e=>e,fun _ ps e=>⟨#[],by rw[e];simp⟩⟩
theorem jn.less{P:Program}{w:World}{H H':Hp}{h:Heap}{a:Addr}{o:HO}(x:jn P w H' h a o)(f:Z1 o=true)(hw:∀C dx fs,o= .ins C dx fs→H dx=some (.own a)):jn P w H h a o:=by
 cases o with
 | dT kvs=>exact absurd f Bool.false_ne_true
 | ins C dx fs=>exact⟨hw C dx fs rfl,x.2⟩
 | zF ob u=>
  cases u with
  | dT _=>exact absurd f Bool.false_ne_true
  | ins _ _ _=>exact absurd f Bool.false_ne_true
  | zF _ _=>exact absurd f Bool.false_ne_true
  | _=>exact x
 | _=>exact x
theorem ud.less{P:Program}{w:World}{H H':Hp}{h:Heap}(x:ud P w H' h)(s:∀a o,H a=some o→H' a=some o)(f:Flat H)(hw:Rn H):ud P w H h:=fun a o e=>
 (x a o (s a o e)).less (f a o e) fun C dx fs z=>hw a C dx fs (by rw[←z];exact e)
theorem ud.own{P:Program}{w:World}{H:Hp}{h:Heap}(x:ud P w H h):Rn H:=fun a _ _ _ e=>(x a _ e).1
def ZX(H:Hp)(Q:VK):VK:=fun v H'=>Q v H'∨∃Nk,Fgt H H' Nk∧Q v Nk
theorem bB.gc{P:Program}{w:World}{K:PySem.W.Frag}{mg:Str→Option Value}{base:Heap}{CX:PB}{k:Nat}{f:Addr}{fd:FuncData}{ps:List Str}{sp sp':Sp}(F:bB P w K mg base CX k f fd ps sp)
  (h:∀vs H Q E,sp' vs H Q E→sp vs H (ZX H Q) E):bB P w K mg base CX k f fd ps sp':=by
 refine⟨fun vs H Q E q=>F.len vs H _ E (h _ _ _ _ q),fun A outer s H args us vs Q E hr he hb hv hs=>codeAny_mono (F.run A outer s H args us vs (ZX H Q) E hr he hb hv (h _ _ _ _ hs)) fun r s' hq=> ?_⟩
 cases r with
 | error e=>exact hq
 | ok fl=>
  cases fl with
  | ret u=>
   obtain⟨v,H',os,bare,un,hok,rv,q⟩:=hq
   rcases q with q | ⟨Nk,g,q⟩
   ·exact⟨v,H',os,bare,un,hok,rv,q⟩
   refine⟨v,Nk,os,bare,⟨un.keep,un.slot,fun b o e n hx=> ?_,un.there,g.tup,g.zF,g.Uj⟩,hok.less g.sub g.flat (g.own he.hok.own),rv,q⟩
   cases z:Nk b with
   | none=>rfl
   | some o'=>
    have z':=g.sub b o' z
    rw[un.free b o e n hx]at z'
    cases z'
  | next=>exact hq
  | brk=>exact hq
  | cont=>exact hq
structure b7(K:PySem.W.Frag)(x qual:Str)(st:Stmt)(dV:Value)(f:Addr)(fd:FuncData):Prop where
 ex:∃(oc:Value) (od:Option Addr) (kV doc pm:Value) (an:Option Addr) (cdv ct:Value) (osl:Array (Option Value)),
  fd=PySem.W.fnOf x qual (aJ st) (aG st) (au st) dV kV doc pm an cdv ct∧K.lookup f=some ⟨oc,od,.func fd,osl⟩∧PySem.W.codeIn K cdv qual=true
 kp:PySem.W.keepIn K (.ref f)=true
section
variable{P:Program}{w:World}{K:PySem.W.Frag}{mg:Str→Option Value}{base:Heap}
theorem b7.ok{x qual:Str}{st:Stmt}{dV:Value}{f:Addr}{fd:FuncData}{N ps:List Str}{k:Nat}{sp:Sp}(F:b7 K x qual st dV f fd)(S:bu N ps (au st))(len:∀vs H Q E,sp vs H Q E→vs.length=ps.length)
  (hbody:∀(cdv:Value) (A:Around) (outer:List Env) (s:Shared) (H:Hp) (vs:List V) (Q:VK) (E:XK),j6 k (A.deeper (envOfC qual (au st) s.heap.objs.size f cdv))→sp vs H Q E→
   ∃t,Dv (yg TJ P w K mg base N qual (au st) f cdv A outer s H E).nox (aG st) t∧t {nx:=fun _ H'=>ZX H Q .non H',rt:=ZX H Q} (start N vs) H):bB P w K mg base TJ (k+1) f fd ps sp:=by
 obtain⟨oc,od,kV,doc,pm,an,cdv,ct,osl,rfl,lk,hcd⟩:=F.ex
 refine bB.gc (sp:=fun vs H Q' E=>∃Q,sp vs H Q E∧Q'=ZX H Q) (Z0 lk hcd S (fun vs H Q E ⟨Q0,q,_⟩=>len vs H Q0 E q) fun A outer s H vs Q' E hr hsp=> ?_) fun vs H Q E q=>⟨Q,q,rfl⟩
 obtain⟨Q,hsp,rfl⟩:=hsp
 obtain⟨t,h,q⟩:=hbody cdv A outer s H vs Q E hr hsp
 exact⟨t,h.nox,q⟩
theorem b7.binds{x qual:Str}{st:Stmt}{dV:Value}{f:Addr}{fd:FuncData}{ps:List Str}(F:b7 K x qual st dV f fd)
  (h:∀(kV doc pm:Value) (an:Option Addr) (cdv ct:Value) (us:List Value),us.length=ps.length→bindArgs (PySem.W.fnOf x qual (aJ st) (aG st) (au st) dV kV doc pm an cdv ct) ⟨us,[]⟩=pure (ps.zip us)):Binds K fd ps []:=by
 obtain⟨oc,od,kV,doc,pm,an,cdv,ct,osl,rfl,lk,hcd⟩:=F.ex
 exact .all (h kV doc pm an cdv ct)
theorem aL{x qual:Str}{st:Stmt}{dV:Value}{f:Addr}{oc:Value}{od an:Option Addr}{osl:Array (Option Value)}{kV doc pm cdv ct:Value}(l:K.lookup f=some ⟨oc,od,.func (PySem.W.fnOf x qual (aJ st) (aG st) (au st) dV kV doc pm an cdv ct),osl⟩)
  (c:PySem.W.codeIn K cdv qual=true) (k:PySem.W.keepIn K (.ref f)=true):b7 K x qual st dV f (PySem.W.fnOf x qual (aJ st) (aG st) (au st) dV kV doc pm an cdv ct):=⟨⟨oc,od,kV,doc,pm,an,cdv,ct,osl,rfl,l,c⟩,k⟩
end
theorem nP:bootBuiltins "len" = some (.builtin "len"):=by decide +kernel
theorem aco:bootBuiltins "min" = some (.builtin "min"):=by decide +kernel
theorem acq:bootBuiltins "all" = some (.builtin "all"):=by decide +kernel
theorem acp:bootBuiltins "int" = some (.type "int"):=by decide +kernel
theorem Rb:bootBuiltins "list" = some (.type "list"):=by decide +kernel
theorem uR:bootBuiltins "tuple" = some (.type "tuple"):=by decide +kernel
theorem acn:bootBuiltins "str" = some (.type "str"):=by decide +kernel
section
variable{X:Cx}
end
section
variable{X:Cx}
end
theorem Only.flat{H:Hp}(o:Only H):Flat H:=fun a u e=>by
 rcases o a with z | ⟨ob,xs,z⟩
 ·rw[z]at e;cases e
 ·rw[z]at e;cases e;rfl
def cell(ns:List Int)(k:Nat):Int:=ns.getD k 0
def ahl(g:TG)(tb:TS)(D:Ends)(σ:St)(J:It)(H1:Hp):Prop:=
 ∃W:Nat→Nat→St→Hp→Prop,(∃m,W 0 m σ H1)∧∀i m σ H,W i m σ H→
  (J.stop i H∧D.nx σ H)∨(J.go i H∧∃N:St→Hp→Prop,(∀σ' H',N σ' H'→∃m',m'<m∧W (i+1) m' σ' H')∧∀x H',J.Xa i H x H'→g x σ H' fun σ2 H2=>tb {D with nx:=N,ct:=N,bk:=D.nx} σ2 H2)
def adi(wi:TI)(g:TG)(tb:TS):TS:=fun D σ H=>wi σ H fun J H1=>ahl g tb D σ J H1
theorem X4{X:Cx}{tg iter:Expr}{body:List Stmt}{wi:TI}{g:TG}{tb:TS}{pos:Pos}(hp:PassesOwn (model X.prog X.w) X.A X.env X.xe)(hc:X.calm=true)(hi:PI X tg iter wi)(hg:PG X tg g)(hb:Dv X body tb)
  (hs:∀x,foldedSetIterable iter X.env x=pure x:=by intro _;rfl):PS X (.For tg iter body [] pos) (adi wi g tb):=aaJ hp hc hi hg hb hs
end L2
namespace L2
open PySem PySem.Spec PyProof.Rows
inductive Dt where
 | non | bl (b:Bool) | int (i:Int) | str (x:Str) | tup (ds:List Dt) | lst (ds:List Dt)
mutual
inductive Is (K:PySem.W.Frag) (H:Hp):V→Dt→Prop
 | non:Is K H .non .non
 | bl (b:Bool):Is K H (.bl b) (.bl b)
 | int (i:Int):Is K H (.int i) (.int i)
 | str (x:Str):Is K H (.str x) (.str x)
 | tup {a:Addr} {xs:List V} {ds:List Dt}:wM K H a xs→Nj K H xs ds→Is K H (.ref a) (.tup ds)
 | lst {a:Addr} {xs:List V} {ds:List Dt}:yQ K H a xs→Nj K H xs ds→Is K H (.ref a) (.lst ds)
inductive Nj (K:PySem.W.Frag) (H:Hp):List V→List Dt→Prop
 | nil:Nj K H [] []
 | cons {x:V} {d:Dt} {xs:List V} {ds:List Dt}:Is K H x d→Nj K H xs ds→Nj K H (x::xs) (d::ds)
end
mutual
def cF:Dt→Dt→Bool
 | .non,.non=>true
 | .bl a,.bl b=>a==b
 | .bl a,.int b=>(if a then 1 else 0)==b
 | .int a,.bl b=>a==(if b then 1 else 0)
 | .int a,.int b=>a==b
 | .str a,.str b=>a==b
 | .tup ds,.tup es=>yH ds es
 | .lst ds,.lst es=>yH ds es
 | _,_=>false
def yH:List Dt→List Dt→Bool
 | [],[]=>true
 | d::ds,e::es=>cF d e&&yH ds es
 | _,_=>false
end
mutual
def dep:Dt→Nat
 | .tup ds=>deps ds+1
 | .lst ds=>deps ds+1
 | _=>0
def deps:List Dt→Nat
 | []=>0
 | d::ds=>max (dep d) (deps ds)
end
mutual
theorem Fx:∀d:Dt,cF d d=true
 | .non=>by unfold cF;rfl
 | .bl a=>by unfold cF;simp
 | .int a=>by unfold cF;simp
 | .str a=>by unfold cF;simp
 | .tup ds=>by unfold cF;exact Ca ds
 | .lst ds=>by unfold cF;exact Ca ds
theorem Ca:∀ds:List Dt,yH ds ds=true
 | []=>by unfold yH;rfl
 | d::ds=>by unfold yH;rw[Fx d,Ca ds];rfl
end
theorem qC:∀{ds es:List Dt},ds.length≠es.length→yH ds es=false
 | [],[],h=>absurd rfl h
 | [],_::_,_=>by unfold yH;rfl
 | _::_,[],_=>by unfold yH;rfl
 | d::ds,e::es,h=>by
  unfold yH
  rw[qC (ds:=ds) (es:=es) fun z=>h (by rw[List.length_cons,List.length_cons,z]),Bool.and_false]
theorem sV:∀{ds es:List Dt},ds.length=es.length→(List.range ds.length).all (fun j=>cF (ds.getD j .non) (es.getD j .non))=yH ds es
 | [],[],_=>by unfold yH;rfl
 | [],_::_,h=>by cases h
 | _::_,[],h=>by cases h
 | d::ds,e::es,h=>by
  have ih:=sV (ds:=ds) (es:=es) (Nat.succ.inj h)
  rw[List.length_cons,List.range_succ_eq_map,List.all_cons,List.all_map,yH,←ih]
  rfl
theorem Nj.length{K:PySem.W.Frag}{H:Hp}:∀{xs:List V} {ds:List Dt},Nj K H xs ds→xs.length=ds.length
 | _,_,.nil=>rfl
 | _,_,.cons _ r=>by rw[List.length_cons,List.length_cons,Nj.length r]
theorem Nj.get{K:PySem.W.Frag}{H:Hp}:∀{xs:List V} {ds:List Dt} {i:Nat} {x:V},Nj K H xs ds→xs[i]? = some x→∃d,ds[i]? = some d∧Is K H x d
 | _,_,_,_,.nil,e=>by simp at e
 | _,_,0,_,.cons r _,e=>by simp at e;subst e;exact⟨_,rfl,r⟩
 | _,_,i+1,x,.cons _ t,e=>by
  obtain⟨d,h1,h2⟩:=Nj.get (i:=i) (x:=x) t (by simpa using e)
  exact⟨d,by simpa using h1,h2⟩
theorem Kc(ds es:List Dt):cF (.tup ds) (.tup es)=yH ds es:=by unfold cF;rfl
theorem yz(ds es:List Dt):cF (.lst ds) (.lst es)=yH ds es:=by unfold cF;rfl
section
variable{X:Cx}{pins:List (Addr×Obj)}{σ:St}{H:Hp}{s:Shared}
theorem Inv.Lq(I:Inv X pins σ H s){a:Addr}{xs ys:List V}(h:wM X.K H a xs)(h':yQ X.K H a ys):False:=by
 obtain⟨its,_,pt,_⟩:=I.tuple h
 obtain⟨jts,_,pl,_⟩:=I.list h'
 obtain⟨o,e,c,_⟩:=pt
 obtain⟨o',n',e',c',_⟩:=pl
 rw[e]at e';cases e'
 rw[c]at c'
 injection c' with z
 exact absurd z (by decide)
mutual
theorem Inv.Wa(I:Inv X pins σ H s):∀{v:V} {d e:Dt},Is X.K H v d→Is X.K H v e→d=e
 | _,_,_,.non,.non=>rfl
 | _,_,_,.bl _,.bl _=>rfl
 | _,_,_,.int _,.int _=>rfl
 | _,_,_,.str _,.str _=>rfl
 | _,_,_,.tup q r,.tup q' r'=>congrArg Dt.tup (Inv.JX I r (I.G6 q q'▸r'))
 | _,_,_,.lst q r,.lst q' r'=>congrArg Dt.lst (Inv.JX I r (I.Lz q q'▸r'))
 | _,_,_,.tup q _,.lst q' _=>(I.Lq q q').elim
 | _,_,_,.lst q _,.tup q' _=>(I.Lq q' q).elim
theorem Inv.JX(I:Inv X pins σ H s):∀{vs:List V} {ds es:List Dt},Nj X.K H vs ds→Nj X.K H vs es→ds=es
 | _,_,_,.nil,.nil=>rfl
 | _,_,_,.cons r t,.cons r' t'=>by rw[Inv.Wa I r r',Inv.JX I t t']
end
theorem zy:∀{ds:List Dt} {j:Nat} {d:Dt},ds[j]? = some d→dep d≤deps ds
 | [],_,_,e=>by simp at e
 | d'::ds,0,d,e=>by simp at e;subst e;unfold deps;exact Nat.le_max_left _ _
 | d'::ds,j+1,d,e=>by
  have:=zy (ds:=ds) (j:=j) (d:=d) (by simpa using e)
  unfold deps
  exact Nat.le_trans this (Nat.le_max_right _ _)
theorem uH{A:Around}{xs ys:List V}{its jts:List Value}{ds es:List Dt}(r1:Vals xs its)(r2:Vals ys jts)(q1:Nj X.K H xs ds)(q2:Nj X.K H ys es)
  (ih:∀(j:Nat) (x y:V) (d e:Dt) (u v:Value),ds[j]? = some d→es[j]? = some e→Is X.K H x d→Is X.K H y e→RelV x u→RelV y v→SeqAt.EqAt A s u v (cF d e)):
  ∀j (h1:j<its.toArray.size) (h2:j<jts.toArray.size),SeqAt.EqAt A s its.toArray[j] jts.toArray[j] (cF (ds.getD j .non) (es.getD j .non)):=fun j h1 h2=>by
 have l1:=r1.length
 have l2:=r2.length
 have j1:j<xs.length:=by simp at h1;omega
 have j2:j<ys.length:=by simp at h2;omega
 obtain⟨w1,g1,p1⟩:=r1.get (i:=j) (x:=xs[j]) (by simp[j1])
 obtain⟨w2,g2,p2⟩:=r2.get (i:=j) (x:=ys[j]) (by simp[j2])
 obtain⟨d,e1,i1⟩:=q1.get (i:=j) (x:=xs[j]) (by simp[j1])
 obtain⟨e,e2,i2⟩:=q2.get (i:=j) (x:=ys[j]) (by simp[j2])
 have d1:ds.getD j .non=d:=by simp[List.getD,e1]
 have d2:es.getD j .non=e:=by simp[List.getD,e2]
 have c1:its.toArray[j]=w1:=by
  have:=List.getElem?_eq_some_iff.mp g1
  simpa using this.2
 have c2:jts.toArray[j]=w2:=by
  have:=List.getElem?_eq_some_iff.mp g2
  simpa using this.2
 rw[d1,d2,c1,c2]
 exact ih j _ _ d e _ _ e1 e2 i1 i2 p1 p2
theorem Bq{n m:Nat}(h:n=m)(p:Nat→Bool):((List.range (min n m)).all p&&n==m)=(List.range n).all p:=by
 subst h
 rw[Nat.min_self]
 simp
theorem BZ(I:Inv X pins σ H s):∀(n:Nat) (A:Around) (x y:V) (d e:Dt) (u v:Value),dep d≤n→A.units+n<cLine→Is X.K H x d→Is X.K H y e→RelV x u→RelV y v→SeqAt.EqAt A s u v (cF d e)
 | n,A,x,y,d,e,u,v,hd,hu,hx,hy,rx,ry=>by
  have same:u=v→SeqAt.EqAt A s u v (cF d e):=fun z=>by
   subst z
   have xy:x=y:=rx.inj ry
   subst xy
   rw[I.Wa hx hy,Fx]
   exact SeqAt.EqAt.same _
  have hu0:A.units<cLine:=by omega
  have in1:A.in1.units=A.units+1:=rfl
  cases hx with
  | non=>
   cases rx
   cases hy with
   | non=>cases ry;exact same rfl
   | bl b=>cases ry;unfold cF;exact SeqAt.EqAt.none_bool b
   | int b=>obtain⟨t,rfl⟩:=ry;unfold cF;exact SeqAt.EqAt.none_int b t
   | str b=>obtain⟨t,rfl⟩:=ry;unfold cF;exact SeqAt.EqAt.none_str b t
   | tup q r=>cases ry;obtain⟨its,_,p,_⟩:=I.tuple q;unfold cF;exact SeqAt.EqAt.none_tuple p hu0
   | lst q r=>cases ry;obtain⟨its,_,p,_⟩:=I.list q;unfold cF;exact SeqAt.EqAt.none_list p.isList hu0
  | bl a=>
   cases rx
   cases hy with
   | non=>cases ry;unfold cF;exact SeqAt.EqAt.bool_none a
   | bl b=>cases ry;unfold cF;exact SeqAt.EqAt.bool_bool a b
   | int b=>obtain⟨t,rfl⟩:=ry;unfold cF;exact SeqAt.EqAt.bool_int a b t
   | str b=>obtain⟨t,rfl⟩:=ry;unfold cF;exact SeqAt.EqAt.bool_str a b t
   | tup q r=>cases ry;obtain⟨its,_,p,_⟩:=I.tuple q;unfold cF;exact SeqAt.EqAt.bool_tuple a p hu0
   | lst q r=>cases ry;obtain⟨its,_,p,_⟩:=I.list q;unfold cF;exact SeqAt.EqAt.bool_list a p.isList hu0
  | int a=>
   obtain⟨t',rfl⟩:=rx
   cases hy with
   | non=>cases ry;unfold cF;exact SeqAt.EqAt.int_none a t'
   | bl b=>cases ry;unfold cF;exact SeqAt.EqAt.int_bool a t' b
   | int b=>obtain⟨t,rfl⟩:=ry;unfold cF;exact SeqAt.EqAt.int_int a t' b t
   | str b=>obtain⟨t,rfl⟩:=ry;unfold cF;exact SeqAt.EqAt.int_str a t' b t
   | tup q r=>cases ry;obtain⟨its,_,p,_⟩:=I.tuple q;unfold cF;exact SeqAt.EqAt.int_tuple a t' p hu0
   | lst q r=>cases ry;obtain⟨its,_,p,_⟩:=I.list q;unfold cF;exact SeqAt.EqAt.int_list a t' p.isList hu0
  | str a=>
   obtain⟨t',rfl⟩:=rx
   cases hy with
   | non=>cases ry;unfold cF;exact SeqAt.EqAt.str_none a t'
   | bl b=>cases ry;unfold cF;exact SeqAt.EqAt.str_bool a t' b
   | int b=>obtain⟨t,rfl⟩:=ry;unfold cF;exact SeqAt.EqAt.str_int a t' b t
   | str b=>obtain⟨t,rfl⟩:=ry;unfold cF;exact SeqAt.EqAt.str_str a t' b t
   | tup q r=>cases ry;obtain⟨its,_,p,_⟩:=I.tuple q;unfold cF;exact SeqAt.EqAt.str_tuple a t' p hu0
   | lst q r=>cases ry;obtain⟨its,_,p,_⟩:=I.list q;unfold cF;exact SeqAt.EqAt.str_list a t' p.isList hu0
  | @tup a xs ds q r=>
   cases(show u=Value.ref a from rx)
   obtain⟨its,r1,p1,_⟩:=I.tuple q
   cases hy with
   | non=>cases ry;unfold cF;exact SeqAt.EqAt.tuple_none p1 hu0
   | bl b=>cases ry;unfold cF;exact SeqAt.EqAt.tuple_bool b p1 hu0
   | int b=>obtain⟨t,rfl⟩:=ry;unfold cF;exact SeqAt.EqAt.tuple_int b t p1 hu0
   | str b=>obtain⟨t,rfl⟩:=ry;unfold cF;exact SeqAt.EqAt.tuple_str b t p1 hu0
   | lst q' r'=>cases ry;obtain⟨jts,_,p,_⟩:=I.list q';unfold cF;exact SeqAt.EqAt.tuple_list p1 p.isList hu0
   | @tup b ys es q' r'=>
    cases(show v=Value.ref b from ry)
    by_cases hab:a=b
    ·subst hab;exact same rfl
    ·obtain⟨jts,r2,p2,_⟩:=I.tuple q'
     refine SeqAt.EqAt.of_refs hab ?_
     have l1:=r1.length
     have l2:=r2.length
     have l3:=r.length
     have l4:=r'.length
     cases n with
     | zero=>unfold dep at hd;omega
     | succ n=>
      have dl:deps ds≤n:=by unfold dep at hd;omega
      have z:=SeqAt.RcAt.tuples (A:=A) (s:=s) (e:=fun j=>cF (ds.getD j .non) (es.getD j .non)) p1 p2 hu0 (uH r1 r2 r r' fun j x y d e u v h1 h2 ix iy rx ry=>BZ I n A.in1 x y d e u v (Nat.le_trans (zy h1) dl) (by omega) ix iy rx ry)
      have ez:((List.range (min its.toArray.size jts.toArray.size)).all (fun j=>cF (ds.getD j .non) (es.getD j .non))&&its.toArray.size==jts.toArray.size)=cF (.tup ds) (.tup es):=by
       rw[Kc]
       by_cases hl:ds.length=es.length
       ·rw[Bq (by simp;omega),←sV hl]
        congr 2
        simp;omega
       ·rw[qC hl]
        have:(its.toArray.size==jts.toArray.size)=false:=by simp;omega
        rw[this,Bool.and_false]
      rw[ez]at z
      exact z
  | @lst a xs ds q r=>
   cases(show u=Value.ref a from rx)
   obtain⟨its,r1,p1,_⟩:=I.list q
   cases hy with
   | non=>cases ry;unfold cF;exact SeqAt.EqAt.list_none p1.isList hu0
   | bl b=>cases ry;unfold cF;exact SeqAt.EqAt.list_bool b p1.isList hu0
   | int b=>obtain⟨t,rfl⟩:=ry;unfold cF;exact SeqAt.EqAt.list_int b t p1.isList hu0
   | str b=>obtain⟨t,rfl⟩:=ry;unfold cF;exact SeqAt.EqAt.list_str b t p1.isList hu0
   | tup q' r'=>cases ry;obtain⟨jts,_,p,_⟩:=I.tuple q';unfold cF;exact SeqAt.EqAt.list_tuple p1.isList p hu0
   | @lst b ys es q' r'=>
    cases(show v=Value.ref b from ry)
    by_cases hab:a=b
    ·subst hab;exact same rfl
    ·obtain⟨jts,r2,p2,_⟩:=I.list q'
     refine SeqAt.EqAt.of_refs hab ?_
     have l1:=r1.length
     have l2:=r2.length
     have l3:=r.length
     have l4:=r'.length
     cases n with
     | zero=>unfold dep at hd;omega
     | succ n=>
      have dl:deps ds≤n:=by unfold dep at hd;omega
      by_cases hl:ds.length=es.length
      ·have z:=SeqAt.RcAt.lists (A:=A) (s:=s) (e:=fun j=>cF (ds.getD j .non) (es.getD j .non)) p1.isList p2.isList (by simp;omega) hu0 (uH r1 r2 r r' fun j x y d e u v h1 h2 ix iy rx ry=>BZ I n A.in1 x y d e u v (Nat.le_trans (zy h1) dl) (by omega) ix iy rx ry)
       have ez:(List.range its.toArray.size).all (fun j=>cF (ds.getD j .non) (es.getD j .non))=cF (.lst ds) (.lst es):=by
        rw[yz]
        rw[←sV hl]
        congr 2
        simp;omega
       rw[ez]at z
       exact z
      ·have z:=SeqAt.RcAt.lists_lengths (A:=A) (s:=s) p1.isList p2.isList (by simp;omega) hu0
       have ez:cF (.lst ds) (.lst es)=false:=by rw[yz];exact qC hl
       rw[ez]
       exact z
theorem aaA(I:Inv X pins σ H s)(A:Around){x y:V}{d e:Dt}{u v:Value}{n:Nat}(hd:dep d≤n)(hu:A.units+n<cLine)(hx:Is X.K H x d)(hy:Is X.K H y e)(rx:RelV x u)(ry:RelV y v):SeqAt.RcAt A s u v (cF d e):=by
 have hu0:A.units<cLine:=by omega
 have in1:A.in1.units=A.units+1:=rfl
 cases hx with
 | non=>
  cases rx
  cases hy with
  | non=>
   cases ry
   unfold cF
   exact SeqAt.RcAt.none_none
  | bl b=>
   cases ry
   unfold cF
   exact SeqAt.RcAt.none_bool  b
  | int b=>
   obtain⟨t,rfl⟩:=ry
   unfold cF
   exact SeqAt.RcAt.none_int  b t
  | str b=>
   obtain⟨t,rfl⟩:=ry
   unfold cF
   exact SeqAt.RcAt.none_str  b t
  | @tup b ys es q' r'=>
   cases(show v=Value.ref b from ry)
   obtain⟨jts,r2,p2,_⟩:=I.tuple q'
   unfold cF
   exact SeqAt.RcAt.none_tuple  p2 hu0
  | @lst b ys es q' r'=>
   cases(show v=Value.ref b from ry)
   obtain⟨jts,r2,p2,_⟩:=I.list q'
   unfold cF
   exact SeqAt.RcAt.none_list  p2.isList hu0
 | bl a=>
  cases rx
  cases hy with
  | non=>
   cases ry
   unfold cF
   exact SeqAt.RcAt.bool_none a
  | bl b=>
   cases ry
   unfold cF
   exact SeqAt.RcAt.bool_bool a b
  | int b=>
   obtain⟨t,rfl⟩:=ry
   unfold cF
   exact SeqAt.RcAt.bool_int a b t
  | str b=>
   obtain⟨t,rfl⟩:=ry
   unfold cF
   exact SeqAt.RcAt.bool_str a b t
  | @tup b ys es q' r'=>
   cases(show v=Value.ref b from ry)
   obtain⟨jts,r2,p2,_⟩:=I.tuple q'
   unfold cF
   exact SeqAt.RcAt.bool_tuple a p2 hu0
  | @lst b ys es q' r'=>
   cases(show v=Value.ref b from ry)
   obtain⟨jts,r2,p2,_⟩:=I.list q'
   unfold cF
   exact SeqAt.RcAt.bool_list a p2.isList hu0
 | int a=>
  obtain⟨t',rfl⟩:=rx
  cases hy with
  | non=>
   cases ry
   unfold cF
   exact SeqAt.RcAt.int_none a t'
  | bl b=>
   cases ry
   unfold cF
   exact SeqAt.RcAt.int_bool a t' b
  | int b=>
   obtain⟨t,rfl⟩:=ry
   unfold cF
   exact SeqAt.RcAt.int_int a t' b t
  | str b=>
   obtain⟨t,rfl⟩:=ry
   unfold cF
   exact SeqAt.RcAt.int_str a t' b t
  | @tup b ys es q' r'=>
   cases(show v=Value.ref b from ry)
   obtain⟨jts,r2,p2,_⟩:=I.tuple q'
   unfold cF
   exact SeqAt.RcAt.int_tuple a t' p2 hu0
  | @lst b ys es q' r'=>
   cases(show v=Value.ref b from ry)
   obtain⟨jts,r2,p2,_⟩:=I.list q'
   unfold cF
   exact SeqAt.RcAt.int_list a t' p2.isList hu0
 | str a=>
  obtain⟨t',rfl⟩:=rx
  cases hy with
  | non=>
   cases ry
   unfold cF
   exact SeqAt.RcAt.str_none a t'
  | bl b=>
   cases ry
   unfold cF
   exact SeqAt.RcAt.str_bool a t' b
  | int b=>
   obtain⟨t,rfl⟩:=ry
   unfold cF
   exact SeqAt.RcAt.str_int a t' b t
  | str b=>
   obtain⟨t,rfl⟩:=ry
   unfold cF
   exact SeqAt.RcAt.str_str a t' b t
  | @tup b ys es q' r'=>
   cases(show v=Value.ref b from ry)
   obtain⟨jts,r2,p2,_⟩:=I.tuple q'
   unfold cF
   exact SeqAt.RcAt.str_tuple a t' p2 hu0
  | @lst b ys es q' r'=>
   cases(show v=Value.ref b from ry)
   obtain⟨jts,r2,p2,_⟩:=I.list q'
   unfold cF
   exact SeqAt.RcAt.str_list a t' p2.isList hu0
 | @tup a xs ds q r=>
  cases(show u=Value.ref a from rx)
  obtain⟨its,r1,p1,_⟩:=I.tuple q
  cases hy with
  | non=>
   cases ry
   unfold cF
   exact SeqAt.RcAt.tuple_none  p1 hu0
  | bl b=>
   cases ry
   unfold cF
   exact SeqAt.RcAt.tuple_bool b p1 hu0
  | int b=>
   obtain⟨t,rfl⟩:=ry
   unfold cF
   exact SeqAt.RcAt.tuple_int b t p1 hu0
  | str b=>
   obtain⟨t,rfl⟩:=ry
   unfold cF
   exact SeqAt.RcAt.tuple_str b t p1 hu0
  | @tup b ys es q' r'=>
   cases(show v=Value.ref b from ry)
   obtain⟨jts,r2,p2,_⟩:=I.tuple q'
   have l1:=r1.length
   have l2:=r2.length
   have l3:=r.length
   have l4:=r'.length
   cases n with
   | zero=>unfold dep at hd;omega
   | succ n=>
    have dl:deps ds≤n:=by unfold dep at hd;omega
    have z:=SeqAt.RcAt.tuples (A:=A) (s:=s) (e:=fun j=>cF (ds.getD j .non) (es.getD j .non)) p1 p2 hu0 (uH r1 r2 r r' fun j x y d e u v h1 h2 ix iy rx ry=>BZ I n A.in1 x y d e u v (Nat.le_trans (zy h1) dl) (by omega) ix iy rx ry)
    have ez:((List.range (min its.toArray.size jts.toArray.size)).all (fun j=>cF (ds.getD j .non) (es.getD j .non))&&its.toArray.size==jts.toArray.size)=cF (.tup ds) (.tup es):=by
     rw[Kc]
     by_cases hl:ds.length=es.length
     ·rw[Bq (by simp;omega),←sV hl]
      congr 2
      simp;omega
     ·rw[qC hl]
      have:(its.toArray.size==jts.toArray.size)=false:=by simp;omega
      rw[this,Bool.and_false]
    rw[ez]at z
    exact z
  | @lst b ys es q' r'=>
   cases(show v=Value.ref b from ry)
   obtain⟨jts,r2,p2,_⟩:=I.list q'
   unfold cF
   exact SeqAt.RcAt.tuple_list p1 p2.isList hu0
 | @lst a xs ds q r=>
  cases(show u=Value.ref a from rx)
  obtain⟨its,r1,p1,_⟩:=I.list q
  cases hy with
  | non=>
   cases ry
   unfold cF
   exact SeqAt.RcAt.list_none  p1.isList hu0
  | bl b=>
   cases ry
   unfold cF
   exact SeqAt.RcAt.list_bool b p1.isList hu0
  | int b=>
   obtain⟨t,rfl⟩:=ry
   unfold cF
   exact SeqAt.RcAt.list_int b t p1.isList hu0
  | str b=>
   obtain⟨t,rfl⟩:=ry
   unfold cF
   exact SeqAt.RcAt.list_str b t p1.isList hu0
  | @tup b ys es q' r'=>
   cases(show v=Value.ref b from ry)
   obtain⟨jts,r2,p2,_⟩:=I.tuple q'
   unfold cF
   exact SeqAt.RcAt.list_tuple p1.isList p2 hu0
  | @lst b ys es q' r'=>
   cases(show v=Value.ref b from ry)
   obtain⟨jts,r2,p2,_⟩:=I.list q'
   have l1:=r1.length
   have l2:=r2.length
   have l3:=r.length
   have l4:=r'.length
   cases n with
   | zero=>unfold dep at hd;omega
   | succ n=>
    have dl:deps ds≤n:=by unfold dep at hd;omega
    by_cases hl:ds.length=es.length
    ·have z:=SeqAt.RcAt.lists (A:=A) (s:=s) (e:=fun j=>cF (ds.getD j .non) (es.getD j .non)) p1.isList p2.isList (by simp;omega) hu0 (uH r1 r2 r r' fun j x y d e u v h1 h2 ix iy rx ry=>BZ I n A.in1 x y d e u v (Nat.le_trans (zy h1) dl) (by omega) ix iy rx ry)
     have ez:(List.range its.toArray.size).all (fun j=>cF (ds.getD j .non) (es.getD j .non))=cF (.lst ds) (.lst es):=by
      rw[yz,←sV hl]
      congr 2
      simp;omega
     rw[ez]at z
     exact z
    ·have z:=SeqAt.RcAt.lists_lengths (A:=A) (s:=s) p1.isList p2.isList (by simp;omega) hu0
     have ez:cF (.lst ds) (.lst es)=false:=by rw[yz];exact qC hl
     rw[ez]
     exact z
theorem aaz(I:Inv X pins σ H s)(A:Around){x y:V}{d e:Dt}{u v:Value}{n:Nat}(hd:dep d≤n)(hu:A.units+n<cLine)(hx:Is X.K H x d)(hy:Is X.K H y e)(rx:RelV x u)(ry:RelV y v):SeqAt.RcNeAt A s u v (!cF d e):=by
 have hu0:A.units<cLine:=by omega
 have in1:A.in1.units=A.units+1:=rfl
 cases hx with
 | non=>
  cases rx
  cases hy with
  | non=>
   cases ry
   unfold cF
   exact SeqAt.RcNeAt.none_none
  | bl b=>
   cases ry
   unfold cF
   exact SeqAt.RcNeAt.none_bool  b
  | int b=>
   obtain⟨t,rfl⟩:=ry
   unfold cF
   exact SeqAt.RcNeAt.none_int  b t
  | str b=>
   obtain⟨t,rfl⟩:=ry
   unfold cF
   exact SeqAt.RcNeAt.none_str  b t
  | @tup b ys es q' r'=>
   cases(show v=Value.ref b from ry)
   obtain⟨jts,r2,p2,_⟩:=I.tuple q'
   unfold cF
   exact SeqAt.RcNeAt.none_tuple  p2 hu0
  | @lst b ys es q' r'=>
   cases(show v=Value.ref b from ry)
   obtain⟨jts,r2,p2,_⟩:=I.list q'
   unfold cF
   exact SeqAt.RcNeAt.none_list  p2.isList hu0
 | bl a=>
  cases rx
  cases hy with
  | non=>
   cases ry
   unfold cF
   exact SeqAt.RcNeAt.bool_none a
  | bl b=>
   cases ry
   unfold cF
   exact SeqAt.RcNeAt.bool_bool a b
  | int b=>
   obtain⟨t,rfl⟩:=ry
   unfold cF
   exact SeqAt.RcNeAt.bool_int a b t
  | str b=>
   obtain⟨t,rfl⟩:=ry
   unfold cF
   exact SeqAt.RcNeAt.bool_str a b t
  | @tup b ys es q' r'=>
   cases(show v=Value.ref b from ry)
   obtain⟨jts,r2,p2,_⟩:=I.tuple q'
   unfold cF
   exact SeqAt.RcNeAt.bool_tuple a p2 hu0
  | @lst b ys es q' r'=>
   cases(show v=Value.ref b from ry)
   obtain⟨jts,r2,p2,_⟩:=I.list q'
   unfold cF
   exact SeqAt.RcNeAt.bool_list a p2.isList hu0
 | int a=>
  obtain⟨t',rfl⟩:=rx
  cases hy with
  | non=>
   cases ry
   unfold cF
   exact SeqAt.RcNeAt.int_none a t'
  | bl b=>
   cases ry
   unfold cF
   exact SeqAt.RcNeAt.int_bool a t' b
  | int b=>
   obtain⟨t,rfl⟩:=ry
   unfold cF
   exact SeqAt.RcNeAt.int_int a t' b t
  | str b=>
   obtain⟨t,rfl⟩:=ry
   unfold cF
   exact SeqAt.RcNeAt.int_str a t' b t
  | @tup b ys es q' r'=>
   cases(show v=Value.ref b from ry)
   obtain⟨jts,r2,p2,_⟩:=I.tuple q'
   unfold cF
   exact SeqAt.RcNeAt.int_tuple a t' p2 hu0
  | @lst b ys es q' r'=>
   cases(show v=Value.ref b from ry)
   obtain⟨jts,r2,p2,_⟩:=I.list q'
   unfold cF
   exact SeqAt.RcNeAt.int_list a t' p2.isList hu0
 | str a=>
  obtain⟨t',rfl⟩:=rx
  cases hy with
  | non=>
   cases ry
   unfold cF
   exact SeqAt.RcNeAt.str_none a t'
  | bl b=>
   cases ry
   unfold cF
   exact SeqAt.RcNeAt.str_bool a t' b
  | int b=>
   obtain⟨t,rfl⟩:=ry
   unfold cF
   exact SeqAt.RcNeAt.str_int a t' b t
  | str b=>
   obtain⟨t,rfl⟩:=ry
   unfold cF
   exact SeqAt.RcNeAt.str_str a t' b t
  | @tup b ys es q' r'=>
   cases(show v=Value.ref b from ry)
   obtain⟨jts,r2,p2,_⟩:=I.tuple q'
   unfold cF
   exact SeqAt.RcNeAt.str_tuple a t' p2 hu0
  | @lst b ys es q' r'=>
   cases(show v=Value.ref b from ry)
   obtain⟨jts,r2,p2,_⟩:=I.list q'
   unfold cF
   exact SeqAt.RcNeAt.str_list a t' p2.isList hu0
 | @tup a xs ds q r=>
  cases(show u=Value.ref a from rx)
  obtain⟨its,r1,p1,_⟩:=I.tuple q
  cases hy with
  | non=>
   cases ry
   unfold cF
   exact SeqAt.RcNeAt.tuple_none  p1 hu0
  | bl b=>
   cases ry
   unfold cF
   exact SeqAt.RcNeAt.tuple_bool b p1 hu0
  | int b=>
   obtain⟨t,rfl⟩:=ry
   unfold cF
   exact SeqAt.RcNeAt.tuple_int b t p1 hu0
  | str b=>
   obtain⟨t,rfl⟩:=ry
   unfold cF
   exact SeqAt.RcNeAt.tuple_str b t p1 hu0
  | @tup b ys es q' r'=>
   cases(show v=Value.ref b from ry)
   obtain⟨jts,r2,p2,_⟩:=I.tuple q'
   have l1:=r1.length
   have l2:=r2.length
   have l3:=r.length
   have l4:=r'.length
   cases n with
   | zero=>unfold dep at hd;omega
   | succ n=>
    have dl:deps ds≤n:=by unfold dep at hd;omega
    have z:=SeqAt.RcNeAt.tuples (A:=A) (s:=s) (e:=fun j=>cF (ds.getD j .non) (es.getD j .non)) p1 p2 hu0 (uH r1 r2 r r' fun j x y d e u v h1 h2 ix iy rx ry=>BZ I n A.in1 x y d e u v (Nat.le_trans (zy h1) dl) (by omega) ix iy rx ry)
    have ez:((List.range (min its.toArray.size jts.toArray.size)).all (fun j=>cF (ds.getD j .non) (es.getD j .non))&&its.toArray.size==jts.toArray.size)=cF (.tup ds) (.tup es):=by
     rw[Kc]
     by_cases hl:ds.length=es.length
     ·rw[Bq (by simp;omega),←sV hl]
      congr 2
      simp;omega
     ·rw[qC hl]
      have:(its.toArray.size==jts.toArray.size)=false:=by simp;omega
      rw[this,Bool.and_false]
    rw[ez]at z
    exact z
  | @lst b ys es q' r'=>
   cases(show v=Value.ref b from ry)
   obtain⟨jts,r2,p2,_⟩:=I.list q'
   unfold cF
   exact SeqAt.RcNeAt.tuple_list p1 p2.isList hu0
 | @lst a xs ds q r=>
  cases(show u=Value.ref a from rx)
  obtain⟨its,r1,p1,_⟩:=I.list q
  cases hy with
  | non=>
   cases ry
   unfold cF
   exact SeqAt.RcNeAt.list_none  p1.isList hu0
  | bl b=>
   cases ry
   unfold cF
   exact SeqAt.RcNeAt.list_bool b p1.isList hu0
  | int b=>
   obtain⟨t,rfl⟩:=ry
   unfold cF
   exact SeqAt.RcNeAt.list_int b t p1.isList hu0
  | str b=>
   obtain⟨t,rfl⟩:=ry
   unfold cF
   exact SeqAt.RcNeAt.list_str b t p1.isList hu0
  | @tup b ys es q' r'=>
   cases(show v=Value.ref b from ry)
   obtain⟨jts,r2,p2,_⟩:=I.tuple q'
   unfold cF
   exact SeqAt.RcNeAt.list_tuple p1.isList p2 hu0
  | @lst b ys es q' r'=>
   cases(show v=Value.ref b from ry)
   obtain⟨jts,r2,p2,_⟩:=I.list q'
   have l1:=r1.length
   have l2:=r2.length
   have l3:=r.length
   have l4:=r'.length
   cases n with
   | zero=>unfold dep at hd;omega
   | succ n=>
    have dl:deps ds≤n:=by unfold dep at hd;omega
    by_cases hl:ds.length=es.length
    ·have z:=SeqAt.RcNeAt.lists (A:=A) (s:=s) (e:=fun j=>cF (ds.getD j .non) (es.getD j .non)) p1.isList p2.isList (by simp;omega) hu0 (uH r1 r2 r r' fun j x y d e u v h1 h2 ix iy rx ry=>BZ I n A.in1 x y d e u v (Nat.le_trans (zy h1) dl) (by omega) ix iy rx ry)
     have ez:(List.range its.toArray.size).all (fun j=>cF (ds.getD j .non) (es.getD j .non))=cF (.lst ds) (.lst es):=by
      rw[yz,←sV hl]
      congr 2
      simp;omega
     rw[ez]at z
     exact z
    ·have z:=SeqAt.RcNeAt.lists_lengths (A:=A) (s:=s) p1.isList p2.isList (by simp;omega) hu0
     have ez:cF (.lst ds) (.lst es)=false:=by rw[yz];exact qC hl
     rw[ez]
     exact z
end
def aj5(K:PySem.W.Frag):R2:=fun x y H Q=>∃d e,Is K H x d∧Is K H y e∧dep d≤20∧Q (.bl (cF d e)) H
def aj3(K:PySem.W.Frag):R2:=fun x y H Q=>∃d e,Is K H x d∧Is K H y e∧dep d≤20∧Q (.bl (!cF d e)) H
theorem aa_{X:Cx}(hu:X.A.units+64<cLine):wX X (compareOp .Eq) (aj5 X.K):=by
 intro pins s σ H x y v u Q I rx ry h
 obtain⟨d,e,hx,hy,hd,q⟩:=h
 exact aaA I X.A hd (by omega) hx hy rx ry _ _ _ _ ⟨.bl _,H,I,rfl,q⟩
theorem aa4{X:Cx}(hu:X.A.units+64<cLine):wX X (compareOp .NotEq) (aj3 X.K):=by
 intro pins s σ H x y v u Q I rx ry h
 obtain⟨d,e,hx,hy,hd,q⟩:=h
 exact aaz I X.A hd (by omega) hx hy rx ry _ _ _ _ ⟨.bl _,H,I,rfl,q⟩
end L2
set_option Elab.async false
set_option linter.all false
set_option maxRecDepth 100000
namespace L2
open PySem PySem.Spec PyProof.Rows
end L2
namespace L2
open PySem PySem.Spec PyProof.Rows
section
variable(P:Program)(w:World)
end
section
variable{P:Program}{w:World}{H H':Hp}{h h':Heap}{a:Addr}{o:HO}
end
section
variable{P:Program}{w:World}{H:Hp}{h h':Heap}{x e:Addr}{o':HO}
end
section
variable{fs fs' ex ex':List Addr}{H H1 H2:Hp}{h h1 h2 h':Heap}{a x e:Addr}{o:HO}
end
end L2
namespace L2
open PySem PySem.Spec PyProof.Rows
section
variable{X:Cx}{pins:List (Addr×Obj)}{σ:List (Option V)}{H H':Hp}{s:Shared}{h':Heap}
end
end L2
namespace L2
open PySem PySem.Spec PyProof.Rows
section
variable{X:Cx}
variable{a b:Expr}{ta tb:TE}{pos:Pos}
variable{tA tB':TT}{rest:List Expr}
end
end L2
namespace L2
open PySem PySem.Spec PyProof.Rows
section
variable{X:Cx}{pins:List (Addr×Obj)}{σ:St}{H:Hp}{s:Shared}{a:Addr}{xs ys:List V}
end
section
variable{X:Cx}{pins:List (Addr×Obj)}{σ:St}{H:Hp}{s:Shared}{E:Value→Shared→Prop}
end
section
variable{X:Cx}{st:Stmt}{rest:List Stmt}{t u:TS}{e:Expr}{te:TE}{pos:Pos}
end
section
variable{X:Cx}{pos:Pos}
end
section
variable{X:Cx}{pos:Pos}
end
end L2
namespace L2
open PySem PySem.Spec PyProof.Rows
section
variable{X:Cx}{tg:Expr}
end
end L2
namespace L2
open PySem PySem.Spec PyProof.Rows
section
variable{X:Cx}{a b c:Expr}{ta tb tc:TE}{pos:Pos}
end
section
variable{X:Cx}{a b c:Expr}{ta tb tc:TE}{pos:Pos}
end
end L2
namespace L2
open PySem PySem.Spec PyProof.Rows
section
variable{prog:Program}{w:World}{A:Around}{E:Value→Shared→Prop}{s:Shared}{K:PySem.W.Frag}{x dx C f:Addr}{mA:Str→Option Value}{name:Str}{v:Value}
end
section
variable{P:Program}{w:World}{H H':Hp}{h h':Heap}{a C dx:Addr}{fs fs':List (Str×V)}
end
section
variable{X:Cx}{pins:List (Addr×Obj)}{σ:St}{H:Hp}{s:Shared}{a C dx:Addr}{fs:List (Str×V)}{f:Str}{v:V}{A:Around}{E:Value→Shared→Prop}
end
section
variable{X:Cx}{o e value:Expr}{f:Str}{pos pos' tpos:Pos}{ta tv:TE}
end
section
variable{X:Cx}{pins:List (Addr×Obj)}{σ:St}{H:Hp}{s:Shared}{A:Around}{E:Value→Shared→Prop}{Q:Value→Shared→Prop}{c:Value}{b:Bool}
end
end L2
namespace L2
open PySem PySem.Spec PyProof.Rows
section
variable{X:Cx}{e:Expr}{es:List Expr}{te:TE}{t:TA}{pos:Pos}
end
section
variable{X:Cx}{pins:List (Addr×Obj)}{σ:St}{H:Hp}{s s':Shared}
end
section
variable{X:Cx}{CX:PB}{k:Nat}{f C:Addr}{fd:FuncData}{ps:List Str}{sp:Sp}{yx:List V}{ds:List Value}{E:XK}{x m:Str}{p pos apos:Pos}{e o:Expr}{es:List Expr}{ta:TE}{t:TA}
end
section
variable{X:Cx}{CX:PB}{k:Nat}{f C:Addr}{fd:FuncData}{ps ks:List Str}{sp:Sp}{E:XK}{x m:Str}{p pos apos kpos:Pos}{e o:Expr}{es:List Expr}{kws:List Keyword}{te ta:TE}{t tk:TA}{nm:Option Str}
variable{g:List Value→List Value→List Value}{gV:List V→List V→List V}
end
end L2
namespace L2
open PySem PySem.Spec PyProof.Rows
section
variable{X:Cx}{x:Str}{p pos:Pos}{e:Expr}{es:List Expr}{t:TA}{id T:String}{r:List V→Hp→VK→Prop}
end
end L2
namespace L2
open PySem PySem.Spec PyProof.Rows
section
variable{κ:Type}[DecidableEq κ]
def yU(kvs:List (κ×V))(k:κ):Option V:=(kvs.find? fun kv=>decide (kv.1=k)).map (·.2)
theorem DN{p:κ×V}{r:List (κ×V)}{k:κ}(e:p.1=k):yU (p::r) k=some p.2:=by simp[yU,List.find?_cons,e]
theorem DP{p:κ×V}{r:List (κ×V)}{k:κ}(e:¬p.1=k):yU (p::r) k=yU r k:=by simp[yU,List.find?_cons,e]
theorem yI.getD{o:Option V}{u:Option Value}{d:V}{d':Value}(r:yI o u)(rd:RelV d d'):RelV (o.getD d) (u.getD d'):=by
 cases o with
 | none=>cases u with
  | none=>exact rd
  | some _=>exact(show False from r).elim
 | some _=>cases u with
  | none=>exact(show False from r).elim
  | some _=>exact r
theorem KV.val{kvs:List (κ×V)}{vs:List (κ×Value)}(r:KV kvs vs)(k:κ):yI (yU kvs k) (valueAt vs k):=by
 unfold KV at r
 induction r with
 | nil=>exact True.intro
 | @cons p q ps qs h t ih=>
  obtain⟨h1,h2⟩:=h
  by_cases e:p.1=k
  ·have e':q.1=k:=h1.symm.trans e
   have b:valueAt (q::qs) k=some q.2:=by simp[valueAt,List.find?_cons,e']
   rw[DN e,b];exact h2
  ·have e':¬q.1=k:=fun z=>e (h1.trans z)
   have b:valueAt (q::qs) k=valueAt qs k:=by simp[valueAt,List.find?_cons,e']
   rw[DP e,b];exact ih
theorem KV.length{kvs:List (κ×V)}{vs:List (κ×Value)}(r:KV kvs vs):kvs.length=vs.length:=Paired.length r
end
theorem ZV{P:Program}{w:World}{k:Key}{u:Value}(r:RelV (kV k) u):(oU P w).is k u=true:=by
 cases k with
 | inl i=>obtain⟨t,e⟩:=(show ∃t,u=Value.int i t from r);subst e;exact Lx P w i t
 | inr x=>obtain⟨t,e⟩:=(show ∃t,u=Value.str x t from r);subst e;exact Ls P w x t
theorem Hs{P:Program}{w:World}:∀{ks:List Key} {us:List Value},Vals (ks.map kV) us→ItemsAre (oU P w) ks us
 | [],_,r=>by rw[List.map_nil]at r;cases r;exact .nil
 | k::ks,_,r=>by
  rw[List.map_cons]at r
  cases r with
  | cons h t=>exact .cons (ZV h) (Hs t)
abbrev KT(H:Hp):List (List Key×V)→List (List Key×Addr×Value)→Prop:=Paired fun p q=>p.1=q.1∧H q.2.1=some (.tup (p.1.map kV))∧RelV p.2 q.2.2
theorem KT.val{H:Hp}{kvs:List (List Key×V)}{xs:List (List Key×Addr×Value)}(r:KT H kvs xs)(k:List Key):yI (yU kvs k) ((atKey xs k).map (·.2)):=by
 induction r with
 | nil=>exact True.intro
 | @cons p q ps qs h t ih=>
  obtain⟨h1,_,h2⟩:=h
  by_cases e:p.1=k
  ·have e':q.1=k:=h1.symm.trans e
   have b:atKey (q::qs) k=some q.2:=by simp[atKey,List.find?_cons,e']
   rw[DN e,b];exact h2
  ·have e':¬q.1=k:=fun z=>e (h1.trans z)
   have b:atKey (q::qs) k=atKey qs k:=by simp[atKey,List.find?_cons,e']
   rw[DP e,b];exact ih
theorem KT.keeps{H H':Hp}{kvs:List (List Key×V)}{xs:List (List Key×Addr×Value)}(r:KT H kvs xs)(ht:∀b ys,H b=some (.tup ys)→H' b=some (.tup ys)):KT H' kvs xs:=
 Paired.abk r fun _ _ z=>⟨z.1,ht _ _ z.2.1,z.2.2⟩
section
variable{P:Program}{w:World}{H:Hp}{h:Heap}{a:Addr}
theorem ZJ{u:HO}(ok:ud P w H h)(e:Rd H a u):jn P w H h a u:=e.ok ok
theorem Wx{kvs:List (Key×V)}(ok:ud P w H h)(e:Rd H a (.dK kvs)):kvs.length≤sizeLine∧(a==sysModules)=false∧∃vs,KV kvs vs∧h.DictOf (oU P w) a vs:=
 show jn P w H h a (.dK kvs)from ZJ ok e
theorem V7{ks:List Key}(ok:ud P w H h)(e:H a=some (.tup (ks.map kV))):(tupleKind (oU P w)).is h ks a:=by
 obtain⟨_,its,r,o,h1,h2,n,h3⟩:=(show jn P w H h a (.tup (ks.map kV))from ok a _ e)
 exact⟨o,its.toArray,n,h1,h2,h3,by simpa using Hs r⟩
theorem Ww{kvs:List (List Key×V)}(ok:ud P w H h)(e:Rd H a (.dT kvs)):kvs.length≤sizeLine∧(a==sysModules)=false∧
  ∃xs,KT H kvs xs∧h.DictOfH (tupleKind (oU P w)) a xs:=by
 obtain⟨z,y,xs,r,o,es,ep,h1,h2,h3,h4,h5⟩:=(show jn P w H h a (.dT kvs)from ZJ ok e)
 refine⟨z,y,xs,r,o,es,ep,h1,h2,h3,h4,fun x hx=> ?_,h5⟩
 have all:∀{l:List (List Key×V)} {m:List (List Key×Addr×Value)},KT H l m→∀x∈m,(tupleKind (oU P w)).is h x.1 x.2.1:=by
  intro l m q
  induction q with
  | nil=>intro x hx;exact nomatch hx
  | @cons p q ps qs hq t ih=>
   intro x hx
   rcases List.mem_cons.mp hx with e | hx
   ·subst e
    exact V7 ok (by rw[←hq.1];exact hq.2.1)
   ·exact ih x hx
 exact all r x hx
theorem afN{kvs:List (List Key×V)}(ok:ud P w H h)(e:H a=some (.dT kvs)):kvs.length≤sizeLine∧(a==sysModules)=false∧
  ∃xs,KT H kvs xs∧h.DictOfH (tupleKind (oU P w)) a xs:=Ww ok (.inl e)
end
def GX(H:Hp)(a:Addr)(y:V)(r:Option V):Prop:=
 (∃kvs k,Rd H a (.dK kvs)∧y=kV k∧r=yU kvs k)∨∃kvs k b,Rd H a (.dT kvs)∧y= .ref b∧H b=some (.tup (k.map kV))∧r=yU kvs k
theorem GX.k{H:Hp}{a:Addr}{kvs:List (Key×V)}{k:Key}(e:H a=some (.dK kvs)):GX H a (kV k) (yU kvs k):= .inl ⟨kvs,k,.inl e,rfl,rfl⟩
theorem GX.t{H:Hp}{a b:Addr}{kvs:List (List Key×V)}{k:List Key}(e:H a=some (.dT kvs))(eb:H b=some (.tup (k.map kV))):GX H a (.ref b) (yU kvs k):= .inr ⟨kvs,k,b,.inl e,rfl,eb,rfl⟩
section
variable{X:Cx}{pins:List (Addr×Obj)}{σ:St}{H:Hp}{s:Shared}{a:Addr}{y v:V}{u r:Value}{o:Option V}{A:Around}{E:Value→Shared→Prop}
theorem Tf{Q:Value→Shared→Prop}(hu:A.units+1<cLine)(I:Inv X pins σ H s)(g:GX H a y (some v))(ry:RelV y u)(h:∀w' s',Inv X pins σ H s'→RelV v w'→Q w' s'):
  wpAny (model X.prog X.w) A (getItem (.ref a) u) Q E s:=by
 rcases g with⟨kvs,k,e,ey,l⟩ | ⟨kvs,k,b,e,ey,eb,l⟩
 ·subst ey
  obtain⟨z,hd,vs,rel,dd⟩:=Wx I.hok e
  obtain⟨w',hw,rw'⟩:=yI.some_of (v:=v) (o:=valueAt vs k) (by rw[l];exact rel.val k)
  exact wpAny_getItem_of (ZV ry) dd.mapOf hw (h w' _ (I.tok _) rw')
 ·subst ey
  cases(show u=Value.ref b from ry)
  obtain⟨z,hd,xs,rel,dd⟩:=Ww I.hok e
  obtain⟨w',hw,rw'⟩:=yI.some_of (v:=v) (o:=(atKey xs k).map (·.2)) (by rw[l];exact rel.val k)
  obtain⟨p,hp,hp2⟩:=Option.map_eq_some_iff.mp hw
  refine wpAny_getItem_heap (tupleKind_room_in1 hu) (V7 I.hok eb) dd hp ?_
  rw[hp2]
  exact h w' _ (I.tok _) rw'
end
section
variable{X:Cx}{pins:List (Addr×Obj)}{σ:St}{H:Hp}{s:Shared}{a:Addr}{kvs:List (Key×V)}{k:Key}{u:Value}{A:Around}{E:Value→Shared→Prop}
theorem agf{Q:Value→Shared→Prop}(I:Inv X pins σ H s)(e:Rd H a (.dK kvs))(h:∀t s',Inv X pins σ H s'→Q (.int kvs.length t) s'):wpAny (model X.prog X.w) A (call (.builtin "len") [.ref a]) Q E s:=by
 obtain⟨z,hd,vs,rel,dd⟩:=Wx I.hok e
 refine call_len_dict hd dd (by rw[←rel.length];rw[sizeLine_eq]at z;omega) ?_
 rw[←rel.length]
 exact h _ _ (I.tok _)
end
theorem Mm{X:Cx}{pins:List (Addr×Obj)}{σ:St}{H:Hp}{s:Shared}{a:Addr}{y:V}{o:Option V}(I:Inv X pins σ H s)(g:GX H a y o):s.TypeIs (.ref a) "dict" := by
 rcases g with⟨kvs,k,e,_,_⟩ | ⟨kvs,k,b,e,_,_,_⟩
 ·obtain⟨_,_,vs,_,dd⟩:=Wx I.hok e
  exact dd.typeIs
 ·obtain⟨_,_,xs,_,dd⟩:=Ww I.hok e
  exact dd.typeIs
section
variable{X:Cx}{o i e value:Expr}{pos pos' tpos:Pos}{td ty tv:TE}
end
section
variable{X:Cx}{pos:Pos}
end
structure M1(X:Cx)(o:Expr)(m:Str)(apos:Pos)(e:Expr)(cpos:Pos):Prop where
 base:attributeBase o m X.env (eval o X.env)=eval o X.env
 few:((backTo cpos (starEach [e] X.env)).all (fun x=> !x.1)&&(backToKw cpos (keywordEach [] X.env)).all (fun x=>x.1.isSome)
  && decide (([e]:List Expr).length+([]:List Keyword).length+(if([]:List Keyword).isEmpty then 0 else 1)<30))=true
 line:(apos.endLine==cpos.line)=true
 trees:backTo cpos (starEach [e] X.env)=[(false,eval e X.env)]
structure M2(X:Cx)(o:Expr)(m:Str)(apos:Pos)(e f:Expr)(cpos:Pos):Prop where
 base:attributeBase o m X.env (eval o X.env)=eval o X.env
 few:((backTo cpos (starEach [e,f] X.env)).all (fun x=> !x.1)&&(backToKw cpos (keywordEach [] X.env)).all (fun x=>x.1.isSome)
  && decide (([e,f]:List Expr).length+([]:List Keyword).length+(if([]:List Keyword).isEmpty then 0 else 1)<30))=true
 line:(apos.endLine==cpos.line)=true
 trees:backTo cpos (starEach [e,f] X.env)=[(false,eval e X.env),(false,eval f X.env)]
section
variable{X:Cx}{pins:List (Addr×Obj)}{σ:St}{H:Hp}{s:Shared}{a:Addr}{y d:V}{u r:Value}{o:Option V}{A:Around}{E:Value→Shared→Prop}
end
section
variable{X:Cx}{o e f:Expr}{apos cpos:Pos}{td ty tx:TE}
end
section
variable{X:Cx}{pins:List (Addr×Obj)}{σ:St}{H:Hp}{s:Shared}{a:Addr}{kvs:List (Key×V)}{A:Around}{E:Value→Shared→Prop}
end
section
variable{X:Cx}{pins:List (Addr×Obj)}{σ:St}{H:Hp}{s:Shared}{a:Addr}{y:V}{u:Value}{A:Around}{E:Value→Shared→Prop}
end
end L2
namespace Att
open PySem PySem.W PySem.Calls PyProof.Rows
section
variable{prog:Program}{w:World}{A:Around}{E:Value→Shared→Prop}{s:Shared}{K:Frag}
end
end Att
namespace L2
open PySem PySem.Spec PyProof.Rows
end L2
namespace L2
open PySem PySem.Spec PyProof.Rows
end L2
namespace L2
open PySem PySem.Spec PyProof.Rows
section
variable{P:Program}{w:World}{K:PySem.W.Frag}{mg:Str→Option Value}{base:Heap}
end
section
variable{X:Cx}
theorem Tp:o6 X (.builtin "len") (fun xs H Q=>∃a kvs,xs=[V.ref a]∧H a=some (.dK kvs)∧Q (.int kvs.length) H):=by
 intro pins s σ H xs us Q I r h
 obtain⟨a,kvs,rfl,ha,q⟩:=h
 obtain⟨u,rfl,ru⟩:=vals1 r
 cases ru
 exact agf I (.inl ha) fun t s' I'=>⟨.int kvs.length,H,I',⟨t,rfl⟩,q⟩
end
section
variable{κ:Type}[DecidableEq κ]
end
end L2
namespace L2
open PySem PySem.Spec PyProof.Rows
section
variable{prog:Program}{w:World}{A:Around}{E:Value→Shared→Prop}{s:Shared}
end
end L2
namespace L2
open PySem PySem.Spec PyProof.Rows
section
variable{X:Cx}{pins:List (Addr×Obj)}{σ:L2.St}{H:Hp}{s:Shared}{h':Heap}
end
section
variable{X:Cx}{pins:List (Addr×Obj)}{σ:L2.St}{H:Hp}{s:Shared}{h':Heap}
end
section
variable{P:Program}{w:World}{K:PySem.W.Frag}{es:List Expr}{n:Nat}{pos:Pos}
end
end L2
namespace L2
open PySem PySem.Spec PyProof.Rows
section
variable{M:Model}{A:Around}{E:Value→Shared→Prop}{s:Shared}{env:Env}
end
section
variable{X:Cx}
end
end L2
namespace L2
open PySem PySem.Spec PyProof.Rows
structure Ax(K:PySem.W.Frag)(C:Addr)(name:Str):Prop where
 cd:∃cd,PySem.W.clsIn K C=some cd∧cd.hasDict=true∧cd.mro.isEmpty=false∧cd.mro.contains (.type "object")=true∧cd.mro.contains (.type "BaseException")=true∧(∀self,refuseLoop self "__setattr__" cd.mro=pure ())
 sa:PySem.W.findIn K (.ref C) "__setattr__" = some (some (.builtin "object.__setattr__"))
 ga:PySem.W.findIn K (.ref C) "__getattribute__" = some (some (.builtin "BaseException.__getattribute__"))
 no:PySem.W.findIn K (.ref C) name=some none
section
variable{prog:Program}{w:World}{A:Around}{E:Value→Shared→Prop}{s:Shared}{K:PySem.W.Frag}{x C:Addr}{name:Str}{v:Value}
def XAt(h:Heap)(x C:Addr)(vs:Array Value)(dx:Option Addr):Prop:=h.get? x=some {cls:= .ref C,dict:=dx,data:= .fields vs}
theorem ac6{h:Heap}{vs:Array Value}(a:XAt h x C vs none):PySem.W.InstAt h x {cls:= .ref C,dict:=none,data:= .fields vs} C none:=⟨a,rfl,rfl,trivial⟩
theorem ac2{vs:Array Value}{Q:Unit→Shared→Prop}(X:K.In s.heap)(F:Ax K C name)(hx:XAt s.heap x C vs none)
  (h:∀h' dx,s.heap.objs.size=dx→XAt h' x C vs (some dx)→h'.Ns1 dx (fun y=>if y=name then some v else none)→(∀b o,b≠x→s.heap.get? b=some o→h'.get? b=some o)→Q () {s with heap:=h',toks:=s.toks+2}):
  wpAny (model prog w) A (setAttr (.ref x) name v) Q E s:=by
 have I:=ac6 hx
 obtain⟨cd,hc,hhd,hne,hob,_,hre⟩:=F.cd
 have SF:=PySem.F.store_object
 refine PySem.W.set_plain X I F.sa ?_
 have sub:PySem.W.Looks (model prog w) s.heap (isInstance (.ref x) (.type "object")) true:=I.type.andThen (PySem.W.looks_mroIn X (by unfold PySem.W.mroIn;rw[hc,Option.bind_some,if_neg (by rw[hne];decide),hob]))
 refine codeAny_call_builtin SF.slot.plain SF.entry (@PySem.W.check_slot (model prog w) _ _ {s with toks:=s.toks+1} "object.__setattr__" "object" "__setattr__" (.ref x) [.str name s.toks,v] [] _ SF.kind SF.split sub (SF.args (.ref x) (.str name s.toks) v) ?_)
 have hm:PySem.W.Looks (model prog w) s.heap (mroOf (.ref C)) cd.mro:=(PySem.W.looks_clsIn X hc).andThen .now
 have L3:PySem.W.Looks (model prog w) s.heap (Builtin.ObjectAttr.storeTaker? none) none:= .now
 rw[PySem.W.osa_eq,refuse_eq]
 refine wpAny_bind (wpAny_bind (PySem.W.Looks.here (s:={s with toks:=s.toks+1}) I.type (wpAny_bind (PySem.W.Looks.here (s:={s with toks:=s.toks+1}) hm ?_))))
 rw[hre]
 refine wpAny_pure (wpAny_bind (PySem.W.Looks.here (s:={s with toks:=s.toks+1}) I.type (wpAny_bind (PySem.W.Looks.here (s:={s with toks:=s.toks+1}) (PySem.W.looks_findIn X F.no) (wpAny_bind (PySem.W.Looks.here (s:={s with toks:=s.toks+1}) L3 ?_))))))
 refine wpAny_bind (wpAny_pure (wpAny_bind (wpAny_bind (wpAny_loadPart (s:={s with toks:=s.toks+1}) hx (wpAny_bind (PySem.W.Looks.here (s:={s with toks:=s.toks+1}) (PySem.W.looks_clsIn X hc) ?_))))))
 rw[hhd]
 rw[if_neg (by decide)]
 dsimp only
 rw[if_neg (by simp[typeHasDict])]
 have hxs:x≠s.heap.objs.size:=Nat.ne_of_lt (Heap.lt_size hx)
 have hx₁:(s.heap.push {cls:= .type "dict",data:= .dict #[]}).get? x=some {cls:= .ref C,dict:=none,data:= .fields vs}:=Heap.get?_push_of_some _ hx
 refine wpAny_bind (wpAny_alloc' (wpAny_bind (wpAny_update' hx₁ (wpAny_pure ?_))))
 have hgd:((s.heap.push {cls:= .type "dict",data:= .dict #[]}).update x fun o=>{cls:=o.cls,dict:=some s.heap.objs.size,data:=o.data,slots:=o.slots}).get? s.heap.objs.size=some {cls:= .type "dict",data:= .dict #[]}:=
  (Heap.get?_update_ne _ _ _ _ hxs.symm).trans (Heap.get?_push_at rfl rfl)
 have hnd:((s.heap.push {cls:= .type "dict",data:= .dict #[]}).update x fun o=>{cls:=o.cls,dict:=some s.heap.objs.size,data:=o.data,slots:=o.slots}).Ns s.heap.objs.size (fun _=>none):=
  ⟨_,#[],_,hgd,rfl,fun e he=>absurd he (by simp),fun _=>rfl⟩
 show wpAny _ _ (Builtin.ObjectAttr.storeInDict s.heap.objs.size (.str name s.toks) name v) _ _ _
 unfold Builtin.ObjectAttr.storeInDict Builtin.ObjectAttr.newKeyGuard
 refine wpAny_bind (wpAny_pure (wpAny_bind (wpAny_nsSet1 (Heap.Ns1.of_empty hnd) fun h' hn' hs=> ?_)))
 obtain⟨oD,esD,epD,hoD,hdD,hcD⟩:=hn'.count (Within.cons name v Within.nil)
 refine wpAny_bind (wpAny_lookBehind hoD (by rw[hdD];exact pastItsLine_dict (Nat.le_trans hcD (by rw[List.length_cons,List.length_nil,sizeLine_eq];omega))) ?_)
 wp_walk
 have hx':h'.get? x=some {cls:= .ref C,dict:=some s.heap.objs.size,data:= .fields vs}:=(hs.2 x hxs).trans (Heap.get?_update_self _ hx₁ rfl)
 refine h h' _ rfl hx' hn' fun b ob hb e=> ?_
 exact(hs.2 b (Nat.ne_of_lt (Heap.lt_size e))).trans ((Heap.get?_update_ne _ _ _ _ hb).trans (Heap.get?_push_of_some _ e))
theorem YM:builtinKind "BaseException.__getattribute__" = some .slot:=by decide +kernel
theorem Wj:splitId "BaseException.__getattribute__" = some ("BaseException","__getattribute__"):=by decide +kernel
theorem YQ(self:Value):bindSpecial (.builtin "BaseException.__getattribute__") self=pure (.builtin "BaseException.__getattribute__",[self]):=by
 have:=(PySem.F.excAttr_ValueError).ga.bind self
 exact this
theorem ajb{vs:Array Value}{dx:Addr}{mA:Str→Option Value}{expr:Bool}{Q:Value→Shared→Prop}(X:K.In s.heap)(F:Ax K C name)(hgn:PySem.W.findIn K (.ref C) "__getattr__" = some none)(hx:XAt s.heap x C vs (some dx))(hn:s.heap.Ns1 dx mA)(hv:mA name=some v)(hh:PySem.W.handedIn v=true)
  (h:Q v {s with toks:=s.toks+1}):wpAny (model prog w) A (getAttr (.ref x) name expr) Q E s:=by
 obtain⟨od,hod,hl⟩:=Hl hn
 have I:PySem.W.InstAt s.heap x {cls:= .ref C,dict:=some dx,data:= .fields vs} C (some od):=⟨hx,rfl,rfl,hod⟩
 obtain⟨cd,hc,hhd,hne,_,hbe,_⟩:=F.cd
 have hf:PySem.W.findObj K C (some od) name=some (.value v):=by
  unfold PySem.W.findObj PySem.W.ownOf
  rw[hc,Option.bind_some,F.no]
  simp only[Option.bind_some]
  rw[if_pos hhd,hl,hv]
  rfl
 have L0:=I.type (M:=model prog w)
 have L1:=PySem.W.looks_findIn (M:=model prog w) X F.ga
 have L2:=PySem.W.looks_find (M:=model prog w) X I hf
 have L3:=PySem.W.looks_findIn (M:=model prog w) X hgn
 have sub:PySem.W.Looks (model prog w) s.heap (isInstance (.ref x) (.type "BaseException")) true:=I.type.andThen (PySem.W.looks_mroIn X (by unfold PySem.W.mroIn;rw[hc,Option.bind_some,if_neg (by rw[hne];decide),hbe]))
 obtain⟨hh',g,d,t,os⟩:=s
 unfold getAttr getAttrBy
 refine wpAny_bind (wpAny_mkText (wpAny_holding (wpAny_bind (L0.at (wpAny_bind (L1.at ?_))))))
 dsimp only
 rw[if_neg (by rw[show(Value.builtin "BaseException.__getattribute__" == Value.builtin "object.__getattribute__")=false from by decide +kernel,Bool.and_false];decide)]
 unfold getAttrByItsOwn hookBefore
 rw[if_pos (show onTheHeap (Value.ref C)=true from rfl)]
 refine wpAny_bind (L3.at (wpAny_bind ?_))
 have f3:=YQ (.ref x)
 have hx0:(expr&&onTheHeap (Value.builtin "BaseException.__getattribute__"))=false:=by cases expr<;>rfl
 repeat (any_goals (first | assumption | wp_step))
 refine codeAny_call_builtin PySem.F.excAttr_ValueError.ga.plain PySem.F.entry_bexc_ga (@PySem.W.check_slot (model prog w) _ _ ⟨hh',g,d,t+1,os⟩ "BaseException.__getattribute__" "BaseException" "__getattribute__" (.ref x) [.str name t] [] _ YM Wj sub (PySem.F.args_bexc_ga _ _) ?_)
 unfold Builtin.«object.__getattribute__»
 refine wpAny_bind (wpAny_pure (wpAny_bind (wpAny_pure (wpAny_bind (L0.at (wpAny_bind (L2.at ?_)))))))
 refine wpAny_pure ?_
 dsimp only
 rw[PySem.W.handedOut_of hh]
 exact wpAny_pure h
end
end L2
namespace L2
open PySem
section
variable{prog:Program}{w:World}{A:Around}{E:Value→Shared→Prop}{h:Heap}{g:Array GenState}{d:Drawn}{t:Nat}{os:OsState}
variable{nm q:Str}{C N:Addr}{bs bm bmB:List Value}{hdct:Bool}{sn:List Str}{sub:List Value}{ab:Bool}{col:Option Bool}{dd:Option Addr}{k0 k1 k2 k3 k5:Option Value}{B newId initId:String}
structure MK(B:String)(bm:List Value):Prop where
 has:bm.contains (.type B)=true
 noA:bm.contains (.type "AttributeError")=false
 noN:bm.contains (.type "NameError")=false
theorem KQ{M:Model}(F:ExcBaseFacts B newId initId bmB)(T:MK B bm){rest:List Value}{Q:Unit→Shared→Prop}(hC:h.get? C=some (excClassObj nm q C N bs bm hdct sn sub ab col dd k0 k1 k2 k3 k5 newId))
  (hq:Q () ⟨h,g,d,t,os⟩):wpAny M A (checkBuiltinCall newId ⟨.ref C::rest,[]⟩) Q E ⟨h,g,d,t,os⟩:=by
 have hcont:(Value.ref C::bm).contains (.type B)=true:=by rw[List.contains_cons,T.has,Bool.or_true]
 have hstar:=F.noStar
 simp only[checkBuiltinCall,F.newKind,F.newSplit,F.newRow]
 repeat (first | refine wpAny_loadPart_at hC ?_ | (refine wpAny_isSubtype_exc hC ?_;rw[hcont]) | refine wpAny_staticBase_exc hC ?_ | refine wpAny_madeBy_exc hC ?_ | simp only[bne_self_eq_false,Bool.false_eq_true,if_false] | wp_step)
 exact hq
theorem ac5{R:Result→Shared→Prop}(F:ExcBaseFacts B newId initId bmB)(T:MK B bm){rest:List Value}(hC:h.get? C=some (excClassObj nm q C N bs bm hdct sn sub ab col dd k0 k1 k2 k3 k5 newId))
  (hq:R (.ok (.ret (.ref (h.objs.size+1)))) ⟨(h.push {cls:= .type "tuple",data:= .seq rest.toArray}).push
   {cls:= .ref C,data:= .fields #[.ref h.objs.size,.none,.none,.none,.bool false,.none]},g,d,t,os⟩) (hrest:rest.length≤sizeLine):
  codeAny (model prog w) A (.builtin newId ⟨.ref C::rest,[]⟩) R ⟨h,g,d,t,os⟩:=by
 have hends:=F.ends
 have hcB:(Value.ref C::bm).contains (.type B)=true:=by rw[List.contains_cons,T.has,Bool.or_true]
 have hcA:(Value.ref C::bm).contains (.type "AttributeError")=false:=by rw[List.contains_cons,T.noA];rfl
 have hcN:(Value.ref C::bm).contains (.type "NameError")=false:=by rw[List.contains_cons,T.noN];rfl
 refine codeAny_builtinAt F.entry ?_
 unfold Builtin.«BaseException.__new__»
 refine wpAt_bind ?_
 show wpAt _ _ _ (stack >>= _) _ _ _
 refine wpAt_bind (wpAt_stack fun p below=>wpAt_of_wpAny ?_)
 wp_walk
 refine wpAt_of_wpAny ?_
 rw[F.owner]
 repeat (first | with_reducible refine wpAny_madeHere_exc F.canon hC ?_ | with_reducible refine wpAny_loadPart_at hC ?_ | (with_reducible refine wpAny_isSubtype_exc hC ?_;first | rw[hcB] | rw[hcA] | rw[hcN]) | wp_step)
 show R _ _
 rw[Heap.size_push]
 exact hq
theorem KJ(F:ExcBaseFacts B newId initId bmB)(T:MK B bm){rest:List Value}{fI:Addr}{oI:Obj}{Q:Fin→Shared→Prop}
  (hC:h.get? C=some (excClassObj nm q C N bs bm hdct sn sub ab col dd k0 k1 k2 k3 k5 newId)) (hi:PySem.W.Looks (model prog w) h (typeLookup (.ref C) "__init__") (some (.ref fI)))
  (hfI:h.get? fI=some oI) (hfc:oI.cls= .type "function")
  (hq:∀h' e,h.objs.size≤e→Heap.MadeExcOf h h' e (.ref C) rest→
   wpAny (model prog w) A (call (.ref fI) (.ref e::rest)) (fun r s'=>r= .none∧Q (.done (.ret (.ref e))) s') E ⟨h',g,d,t,os⟩) (hrest:rest.length≤sizeLine):
  wpAny (model prog w) A (Builtin.«type.__call__» ⟨.ref C::rest,[]⟩) Q E ⟨h,g,d,t,os⟩:=by
 repeat (first | with_reducible refine wpAny_loadPart_at hC ?_ | with_reducible refine wpAny_madeBy_exc hC ?_ | wp_step)
 refine codeAny_call_builtin_code (Code.quiet_builtin _ F.quiet) (KQ F T hC ?_)
 refine ac5 F T hC ?_ hrest
 show wpAny _ _ _ _ _ _
 have hC₁:=Heap.get?_push_of_some {cls:= .ref C,data:= .fields #[.ref h.objs.size,.none,.none,.none,.bool false,.none]}
  (Heap.get?_push_of_some {cls:= .type "tuple",data:= .seq rest.toArray} hC)
 have hfI₁:=Heap.get?_push_of_some {cls:= .ref C,data:= .fields #[.ref h.objs.size,.none,.none,.none,.bool false,.none]}
  (Heap.get?_push_of_some {cls:= .type "tuple",data:= .seq rest.toArray} hfI)
 have hget:((h.push {cls:= .type "tuple",data:= .seq rest.toArray}).push
   {cls:= .ref C,data:= .fields #[.ref h.objs.size,.none,.none,.none,.bool false,.none]}).get? (h.objs.size+1)=some
   {cls:= .ref C,data:= .fields #[.ref h.objs.size,.none,.none,.none,.bool false,.none]}:=by heap_get
 have hcC:(Value.ref C::bm).contains (.ref C)=true:=by simp
 unfold isInstance
 repeat (first | with_reducible refine wpAny_loadPart_at hget ?_ | (with_reducible refine wpAny_isSubtype_exc hC₁ ?_;rw[hcC]) | wp_step)
 show wpAny _ _ (typeLookup (.ref C) _) _ _ _
 refine hi _ _ _ _ (fun b o hb=>Heap.get?_push_of_some _ (Heap.get?_push_of_some _ hb)) ?_
 refine wpAny_holding (wpAny_bind ?_)
 unfold bindSpecial
 refine wpAny_bind (wpAny_typeOf (T:= "function") ⟨_,hfI₁,hfc⟩ ?_)
 rw[if_pos (by decide)]
 refine wpAny_pure (wpAny_bind (wpAny_mono (hq _ (h.objs.size+1) (Nat.le_succ _) ⟨fun b o hb=>Heap.get?_push_of_some _ (Heap.get?_push_of_some _ hb),Heap.get?_none_of_le (Nat.le_succ _),h.objs.size,hget,Heap.get?_none_of_le (Nat.le_refl _),?_⟩) (fun r s' hr=> ?_) fun _ _ x=>x))
 ·exact Heap.get?_push_of_some _ (Heap.get?_push_at rfl rfl)
 ·obtain⟨rfl,hQ⟩:=hr
  wp_walk
  exact hQ
theorem x_call(F:ExcBaseFacts B newId initId bmB)(T:MK B bm){rest:List Value}{fI:Addr}{oI:Obj}{Q:Value→Shared→Prop}
  (hC:h.get? C=some (excClassObj nm q C N bs bm hdct sn sub ab col dd k0 k1 k2 k3 k5 newId)) (hi:PySem.W.Looks (model prog w) h (typeLookup (.ref C) "__init__") (some (.ref fI)))
  (hfI:h.get? fI=some oI) (hfc:oI.cls= .type "function")
  (hq:∀h' e,h.objs.size≤e→Heap.MadeExcOf h h' e (.ref C) rest→
   wpAny (model prog w) (A.under (.builtin "type.__call__" ⟨.ref C::rest,[]⟩)) (call (.ref fI) (.ref e::rest)) (fun r s'=>r= .none∧Q (.ref e) s') E ⟨h',g,d,t,os⟩) (hrest:rest.length≤sizeLine):
  wpAny (model prog w) A (call (.ref C) rest) Q E ⟨h,g,d,t,os⟩:=by
 have f1:=tc_lookup
 have f2:=tc_bind (.ref C)
 have hT:(⟨h,g,d,t,os⟩:Shared).TypeIs (.ref C) "type" := ⟨_,hC,rfl⟩
 refine wpAny_call (codeAny_of_tree ?_)
 show wpAny _ _ (callAny (.ref C) _) _ _ _
 repeat (any_goals (first | assumption | with_reducible refine wpAny_loadPart_at hC ?_ | wp_step))
 refine⟨rfl,?_⟩
 refine codeAny_call_builtin_at (Code.quiet_builtin _ (by decide +kernel)) entry_typeCall (wpAny_check_type_call_sub hC (KJ (hrest:=hrest) F T hC hi hfI hfc fun h' e hs hm=> ?_))
 exact hq h' e hs hm
end
end L2
namespace L2
open PySem
structure Exc(h:Heap)(e C:Addr)(dx T:Option Addr)(fl:Value):Prop where
 at_:∃vs,h.get? e=some {cls:= .ref C,dict:=dx,data:= .fields vs}∧(match T with
  | none=>vs[1]? = some .none
  | some T=>vs[1]? = some (.ref T)∧T≠e∧∃oT ts,h.get? T=some oT∧oT.data= .fields ts∧ts[3]? = some fl)
def pA(fs:List Addr)(e:Addr)(T:Option Addr)(h h':Heap):Prop:=
 (h.objs.size≤h'.objs.size∧∀b o,h.get? b=some o→∃o',h'.get? b=some o')∧(∀b o,b≠e→some b≠T→b∉fs→h.get? b=some o→h'.get? b=some o)∧(∀b o,b≠e→some b≠T→h.get? b=some o→∃sl,h'.get? b=some {o with slots:=sl})
theorem pA.refl{fs:List Addr}{e:Addr}{T:Option Addr}{h:Heap}:pA fs e T h h:=⟨⟨Nat.le_refl _,fun b o q=>⟨o,q⟩⟩,fun _ _ _ _ _ x=>x,fun _ o _ _ x=>⟨o.slots,x⟩⟩
theorem pA.trans{fs:List Addr}{e:Addr}{T T':Option Addr}{h h1 h2:Heap}(x:pA fs e T h h1)(y:pA fs e T' h1 h2)(hT:T'=T∨∃t,T'=some t∧h.objs.size≤t):pA fs e T h h2:=by
 have ne:∀b o,some b≠T→h.get? b=some o→some b≠T':=fun b o n q z=>by
  rcases hT with r | ⟨t,r,q2⟩
  ·exact n (z.trans r)
  ·rw[r]at z;cases z
   exact absurd (Nat.lt_of_lt_of_le (Heap.lt_size q) q2) (Nat.lt_irrefl _)
 refine⟨⟨Nat.le_trans x.1.1 y.1.1,fun b o q=>let⟨o1,q1⟩:=x.1.2 b o q;y.1.2 b o1 q1⟩,fun b o n1 n2 n3 q=>y.2.1 b o n1 (ne b o n2 q) n3 (x.2.1 b o n1 n2 n3 q),fun b o n1 n2 q=> ?_⟩
 obtain⟨sl,e1⟩:=x.2.2 b o n1 n2 q
 obtain⟨sl2,e2⟩:=y.2.2 b _ n1 (ne b o n2 q) e1
 exact⟨sl2,e2⟩
section
variable{M:Model}{A:Around}{E:Value→Shared→Prop}{s:Shared}
theorem P_{base:Heap}{env:Env}{outer:List Env}{L e C:Addr}{dx:Option Addr}{vs:Array Value}{head:Value}{hadNext:Bool}{Q:Unit→Shared→Prop}
  (hfr:A.frames=some (env::outer)) (hl:s.heap.FunFrames base (env::outer)) (hf:env.frame=some L)
  (he:s.heap.get? e=some {cls:= .ref C,dict:=dx,data:= .fields vs}) (hsz:1<vs.size)
  (h:∀h' T,s.heap.objs.size≤T→pA ((env::outer).filterMap (·.frame)) e (some T) s.heap h'→Exc h' e C dx (some T) (rawInt L)→Q () {s with heap:=h'}):
  wpAny M A (do let a ←frameOf env;let pl ←entryPlaceOf L hadNext;let b ←EntryCells.newEntry head a .none (rawInt L) .none pl;setField (.ref e) 1 b) Q E s:=by
 have hene:e∉(env::outer).filterMap (·.frame):=fun hm=>by
  obtain⟨_,o,ho,hnf⟩:=hl.mem hm
  rw[he]at ho;injection ho with ho;subst ho;exact hnf vs rfl
 refine wpAny_bind (wpAny_frameOf_fun hfr hl hf fun h₁ hs₁=> ?_)
 refine wpAny_bind (wpAny_entryPlaceOf fun pl hpl=> ?_)
 unfold EntryCells.newEntry newFields
 refine wpAny_bind (wpAny_newObj_type ?_ (hpl.sizeOk5 _ _ _ _ _))
 have he₁:h₁.get? e=some {cls:= .ref C,dict:=dx,data:= .fields vs}:=(hs₁.2.1 e hene).trans he
 have he₂:=Heap.get?_push_of_some (h:=h₁) {cls:= .type "traceback",dict:=none,data:= .fields ([head,.ref L,.none,rawInt L,.none]++(if pl.isEmpty then List.replicate 6 Value.none else pl)).toArray} he₁
 refine wpAny_setField he₂ rfl hsz (h _ h₁.objs.size (by rw[hs₁.1];exact Nat.le_refl _) ?_ ?_)
 ·refine⟨⟨?_,fun b o q=> ?_⟩,fun b o n1 n2 n3 q=> ?_,fun b o n1 n2 q=> ?_⟩
  ·rw[Heap.size_after_update,Heap.size_push,hs₁.1];omega
  ·by_cases n1:b=e
   ·subst n1
    exact⟨_,Heap.get?_update_self _ he₂ (Obj.isFreed_of_fields (Obj.data_mapFields rfl _))⟩
   ·obtain⟨sl,q1⟩:=hs₁.2.2 b o q
    exact⟨_,(Heap.get?_update_other _ _ (Ne.symm n1)).trans (Heap.get?_push_of_some _ q1)⟩
  ·rw[Heap.get?_update_other _ _ (Ne.symm n1)]
   exact Heap.get?_push_of_some _ ((hs₁.2.1 b n3).trans q)
  ·obtain⟨sl,q1⟩:=hs₁.2.2 b o q
   refine⟨sl,?_⟩
   rw[Heap.get?_update_other _ _ (Ne.symm n1)]
   exact Heap.get?_push_of_some _ q1
 ·have hTe:h₁.objs.size≠e:=Nat.ne_of_gt (Heap.lt_size he₁)
  have hd₃:=Obj.data_mapFields (o:={cls:= .ref C,dict:=dx,data:= .fields vs}) rfl (·.setIfInBounds 1 (Value.ref h₁.objs.size))
  have he₃:=Heap.get?_update_self (Obj.mapFields (·.setIfInBounds 1 (Value.ref h₁.objs.size))) he₂ (Obj.isFreed_of_fields hd₃)
  have hT₃:=(Heap.get?_update_other (h₁.push {cls:= .type "traceback",dict:=none,data:= .fields ([head,.ref L,.none,rawInt L,.none]++(if pl.isEmpty then List.replicate 6 Value.none else pl)).toArray})
   (Obj.mapFields (·.setIfInBounds 1 (Value.ref h₁.objs.size))) (Ne.symm hTe)).trans (Heap.get?_push_size h₁ rfl)
  refine⟨⟨_,he₃,by simp[hsz],hTe,_,_,hT₃,rfl,by first | (simp;done) | (rcases hpl with rfl | ⟨_,_,_,_,_,_,_,rfl⟩<;>simp)⟩⟩
theorem pA.upd{fs:List Addr}{e T:Addr}{h:Heap}{f:Obj→Obj}{oT:Obj}(ho:h.get? T=some oT)(hfr:(f oT).isFreed=false):pA fs e (some T) h (h.update T f):=by
 have k:∀b o,some b≠some T→h.get? b=some o→(h.update T f).get? b=some o:=fun b o n q=>by
  rw[Heap.get?_update_other _ _ (fun z=>n (by rw[z]))];exact q
 refine⟨⟨by rw[Heap.size_after_update];exact Nat.le_refl _,fun b o q=> ?_⟩,fun b o _ n2 _ q=>k b o n2 q,fun b o _ n2 q=>⟨o.slots,k b o n2 q⟩⟩
 by_cases z:b=T
 ·subst z;exact⟨_,Heap.get?_update_self _ ho hfr⟩
 ·exact⟨o,k b o (fun y=>z (Option.some.inj y)) q⟩
theorem ux{e C:Addr}{dx T:Option Addr}{fl:Value}{fr:Option Addr}{Q:Unit→Shared→Prop}(x:Exc s.heap e C dx T fl)
  (h:∀h',pA [] e T s.heap h'→Exc h' e C dx T (fr.elim .none fun f=>rawInt f)→Q () {s with heap:=h'}):wpAny M A (setFlight (.ref e) fr) Q E s:=by
 obtain⟨vs,he,hT⟩:=x.at_
 unfold setFlight
 cases T with
 | none=>
  refine wpAny_bind (wpAny_field he rfl hT ?_)
  rw[if_neg (by decide)]
  exact wpAny_pure (h s.heap .refl ⟨vs,he,hT⟩)
 | some T=>
  obtain⟨h1,hne,oT,ts,hoT,hd,h3⟩:=hT
  refine wpAny_bind (wpAny_field he rfl h1 ?_)
  rw[if_pos (show(Value.ref T != Value.none)=true from by simp)]
  have hsz3:3<ts.size:=(Array.getElem?_eq_some_iff.mp h3).1
  refine wpAny_setField hoT hd hsz3 (h _ (.upd hoT (Obj.isFreed_of_fields (Obj.data_mapFields hd _))) ⟨vs,?_,h1,hne,_,_,Heap.get?_update_self _ hoT (Obj.isFreed_of_fields (Obj.data_mapFields hd _)),Obj.data_mapFields hd _,by simp[hsz3]⟩)
  rw[Heap.get?_update_other _ _ hne];exact he
theorem Iv{base:Heap}{env:Env}{outer:List Env}{L e C:Addr}{dx T:Option Addr}{fl:Value}{Q:Unit→Shared→Prop}
  (hfr:A.frames=some (env::outer)) (hl:s.heap.FunFrames base (env::outer)) (hf:env.frame=some L) (x:Exc s.heap e C dx T fl) (hfl:fl=fl∨fl=rawInt L)
  (h:∀h' T',(T=some T'∨s.heap.objs.size≤T')→pA ((env::outer).filterMap (·.frame)) e T s.heap h'→Exc h' e C dx (some T') (rawInt L)→Q () {s with heap:=h'}):wpAny M A (noteFrame (.ref e) env) Q E s:=by
 obtain⟨vs,he,hT⟩:=x.at_
 unfold noteFrame
 simp only[hf]
 cases T with
 | none=>
  refine wpAny_bind (wpAny_field he rfl hT ?_)
  rw[if_neg (by decide)]
  refine P_ hfr hl hf he (Array.getElem?_eq_some_iff.mp hT).1 fun h' T hs k x'=>h h' T (.inr hs) ?_ x'
  exact⟨k.1,fun b o n1 _ n3 q=>k.2.1 b o n1 (fun z=>by cases z;exact absurd (Nat.lt_of_lt_of_le (Heap.lt_size q) hs) (Nat.lt_irrefl _)) n3 q,fun b o n1 _ q=>k.2.2 b o n1 (fun z=>by cases z;exact absurd (Nat.lt_of_lt_of_le (Heap.lt_size q) hs) (Nat.lt_irrefl _)) q⟩
 | some T=>
  obtain⟨h1,hne,oT,ts,hoT,hd,h3⟩:=hT
  refine wpAny_bind (wpAny_field he rfl h1 ?_)
  rw[if_pos (show(Value.ref T != Value.none)=true from by simp)]
  refine wpAny_bind (wpAny_field hoT hd h3 ?_)
  by_cases hq:fl=rawInt L
  ·subst hq
   rw[if_pos (show(rawInt L==rawInt L)=true from by simp)]
   exact wpAny_pure (h s.heap T (.inl rfl) .refl x)
  ·rw[if_neg (show ¬((fl==rawInt L)=true)from by simpa using hq)]
   have hsz3:3<ts.size:=(Array.getElem?_eq_some_iff.mp h3).1
   refine wpAny_bind (wpAny_setField hoT hd hsz3 ?_)
   have other:∀b,b≠T→(s.heap.update T (Obj.mapFields (·.setIfInBounds 3 Value.none))).get? b=s.heap.get? b:=fun b hb=>Heap.get?_update_other _ _ (Ne.symm hb)
   have noRecord:∀b o,s.heap.get? b=some o→(∀vs,o.data≠ .fields vs)→b≠T:=fun b o hb hnf q=>by
    rw[q,hoT]at hb;injection hb with hb;subst hb;exact hnf ts hd
   refine P_ hfr (hl.of_keeps fun b o hb hnf=>⟨o,(other b (noRecord b o hb hnf)).trans hb,rfl⟩) hf ((other e (Ne.symm hne)).trans he) (Array.getElem?_eq_some_iff.mp h1).1 fun h' T' hs k x'=> ?_
   rw[Heap.size_after_update]at hs
   exact h h' T' (.inr hs) ((pA.upd hoT (Obj.isFreed_of_fields (Obj.data_mapFields hd _))).trans k (.inr ⟨T',rfl,hs⟩)) x'
theorem Xe{base:Heap}{env:Env}{outer:List Env}{L e C:Addr}{dx T:Option Addr}{fl:Value}{Q:Unit→Shared→Prop}
  (hfr:A.frames=some (env::outer)) (hl:s.heap.FunFrames base (env::outer)) (hf:env.frame=some L) (x:Exc s.heap e C dx T fl) (hfl:fl=fl∨fl=rawInt L)
  (h:∀h' T',(T=some T'∨s.heap.objs.size≤T')→pA ((env::outer).filterMap (·.frame)) e T s.heap h'→Exc h' e C dx (some T') .none→Q () {s with heap:=h'}):wpAny M A (leaving env (.ref e)) Q E s:=by
 unfold leaving
 refine wpAny_bind (Iv hfr hl hf x hfl fun h' T' hT k x'=> ?_)
 refine ux (fr:=none) (s:={s with heap:=h'}) x' fun h2 k2 x2=>h h2 T' hT (k.trans (T':=some T') ⟨k2.1,fun b o n1 n2 _ q=>k2.2.1 b o n1 n2 (by simp) q,k2.2.2⟩ ?_) x2
 rcases hT with r | r
 ·exact .inl r.symm
 ·exact .inr ⟨T',rfl,r⟩
end
end L2
namespace L2
open PySem PySem.Spec PyProof.Rows
abbrev xO(a C:Addr)(dx:Option Addr):HO:= .ext fun h=>Exc h a C dx none .none
theorem Zu{P:Program}{w:World}{H:Hp}{h:Heap}{a C:Addr}{dx:Option Addr}(x:Exc h a C dx none .none):jn P w H h a (xO a C dx):=by
 refine⟨x,?_,fun h1 h2 y k=> ?_⟩
 ·obtain⟨vs,e,_⟩:=x.at_;exact⟨_,e⟩
 ·obtain⟨vs,e,q⟩:=y.at_;exact⟨vs,k _ e,q⟩
theorem Zv{P:Program}{w:World}{H:Hp}{h:Heap}{a C:Addr}{dx:Option Addr}(x:jn P w H h a (xO a C dx)):Exc h a C dx none .none:=x.1
section
variable{X:Cx}{pins:List (Addr×Obj)}{σ:St}{H:Hp}{s:Shared}{a C:Addr}{f:Str}{A:Around}{E:Value→Shared→Prop}
theorem KD{y:V}{u:Value}{Q:Unit→Shared→Prop}(I:Inv X pins σ H s)(e:H a=some (xO a C none))(F:Ax X.K C f)(ry:RelV y u)
  (h:∀dx s',H dx=none→dx≠a→Inv X pins σ (upd (upd H dx (.xd [(f,y)])) a (xO a C (some dx))) s'→Q () s'):wpAny (model X.prog X.w) A (setAttr (.ref a) f u) Q E s:=by
 obtain⟨vs,hx,h1⟩:=(Zv (I.hok a _ e)).at_
 refine ac2 I.Cy F hx fun h' dx ed hx' hn kp=> ?_
 subst ed
 have hd0:H s.heap.objs.size=none:=I.hok.fresh (Nat.le_refl _)
 have nea:s.heap.objs.size≠a:=Nat.ne_of_gt (I.hok.lt e)
 refine h _ _ hd0 nea (I.un ⟨fun b o q n _ _=>kp b o (fun z=>by subst z;rw[e]at n;cases n) q,fun b o q n _ _=>⟨o.slots,kp b o (fun z=>by subst z;rw[e]at n;cases n) q⟩,fun b o q n _=> ?_,fun b o q _=> ?_,fun b xs q=> ?_,fun b o xs q=> ?_,fun b ps q=>⟨#[],?_⟩⟩ fun b o q=> ?_)
 ·have n1:b≠a:=fun z=>by subst z;rw[e]at n;cases n
  rw[bA n1,bA (Nat.ne_of_lt (Heap.lt_size q))];exact n
 ·by_cases z:b=a
  ·subst z;exact⟨_,hx'⟩
  ·exact⟨o,kp b o z q⟩
 ·have n1:b≠a:=fun z=>by subst z;rw[e]at q;cases q
  have n2:b≠s.heap.objs.size:=fun z=>by subst z;rw[hd0]at q;cases q
  rw[bA n1,bA n2];exact q
 ·have n1:b≠a:=fun z=>by subst z;rw[e]at q;cases q
  have n2:b≠s.heap.objs.size:=fun z=>by subst z;rw[hd0]at q;cases q
  rw[bA n1,bA n2];exact q
 ·have n1:b≠a:=fun z=>by subst z;rw[e]at q;cases q
  have n2:b≠s.heap.objs.size:=fun z=>by subst z;rw[hd0]at q;cases q
  rw[bA n1,bA n2,q];simp
 ·by_cases z:b=a
  ·subst z
   rw[d7]at q;cases q
   exact Zu ⟨vs,hx',h1⟩
  ·rw[bA z]at q
   by_cases z2:b=s.heap.objs.size
   ·subst z2
    rw[d7]at q;cases q
    refine⟨_,hn,fun g=> ?_⟩
    by_cases zg:g=f
    ·subst zg;simp[List.lookup];exact ry
    ·have:(g==f)=false:=by simpa using zg
     simp[List.lookup,this,zg];exact True.intro
   ·rw[bA z2]at q
    refine(I.hok b o q).stay (fun b' u' hb q'=> ?_) (fun b' q'=> ?_) fun b' xs q'=> ?_
    ·refine kp b' u' (fun z'=> ?_) q'
     rcases hb with r | r
     ·exact z (r▸z')
     ·rw[z',e]at r;cases r
    ·have n1:b'≠a:=fun z=>by subst z;rw[e]at q';cases q'
     have n2:b'≠s.heap.objs.size:=fun z=>by subst z;rw[hd0]at q';cases q'
     rw[bA n1,bA n2];exact q'
    ·have n1:b'≠a:=fun z=>by subst z;rw[e]at q';cases q'
     have n2:b'≠s.heap.objs.size:=fun z=>by subst z;rw[hd0]at q';cases q'
     rw[bA n1,bA n2];exact q'
end
end L2
namespace L2
open PySem PySem.Spec PyProof.Rows
section
variable{X:Cx}{o value:Expr}{ta tv:TE}{f:Str}{pos pos':Pos}
def ZC(K:PySem.W.Frag)(ta tv:TE)(f:Str):TS:=fun D σ H=>tv σ H fun y H1=>ta σ H1 fun x H2=>∃a C,x= .ref a∧H2 a=some (xO a C none)∧Ax K C f∧
 ∀dx,H2 dx=none→dx≠a→D.nx σ (upd (upd H2 dx (.xd [(f,y)])) a (xO a C (some dx)))
theorem X3(ha:PE X o ta)(hv:PE X value tv)(hs:swapsWith value (some (.Attribute o f pos')) pos.line X.env=pure false):PS X (.Assign [.Attribute o f pos'] value pos) (ZC X.K ta tv f):=by
 intro pins s σ H D I h
 refine plainObj_wpAny_Assign_Attribute (jh (hv pins s σ H _ I h) fun u s1 ⟨y,H1,I1,ry,q⟩=>jh (ha pins s1 σ H1 _ I1 q) fun ov s2 ⟨x,H2,I2,rx,a,C,ex,ea,F,q2⟩=> ?_) hs
 subst ex
 obtain rfl:ov=Value.ref a:=rx
 exact KD I2 ea F ry fun dx s3 hd ne I3=>⟨σ,_,I3,q2 dx hd ne⟩
end
def yq(K:PySem.W.Frag)(f:Str):Sp:=fun vs H Q _=>∃a C y,vs=[.ref a,y]∧H a=some (xO a C none)∧Ax K C f∧∀dx,H dx=none→dx≠a→Q .non (upd (upd H dx (.xd [(f,y)])) a (xO a C (some dx)))
section
variable{P:Program}{w:World}{K:PySem.W.Frag}{mg:Str→Option Value}{base:Heap}
theorem Wm{x qual g:Str}{st:Stmt}{dV:Value}{f:Addr}{fd:FuncData}{N ps:List Str}{k:Nat}(F:b7 K x qual st dV f fd)(S:bu N ps (au st))(hps:ps.length=2)
  (hbody:∀(cdv:Value) (A:Around) (outer:List Env) (s:Shared) (H:Hp) (E:XK),Dv (yg TJ P w K mg base N qual (au st) f cdv A outer s H E).nox (aG st) (ZC K (Xo 0) (Xo 1) g)):
  bB P w K mg base TJ (k+1) f fd ps (yq K g):=by
 refine F.ok S (fun vs H Q E ⟨a,C,y,e,_⟩=>by rw[e,hps];rfl) fun cdv A outer s H vs Q E hr ⟨a,C,y,e,hH,hF,q⟩=> ?_
 subst e
 refine⟨_,hbody cdv A outer s H E,y,rfl,.ref a,rfl,a,C,rfl,hH,hF,fun dx hd ne=> .inl (q dx hd ne)⟩
end
structure XMk(K:PySem.W.Frag)(C f:Addr):Prop where
 obj:∃(nm q:Str) (N:Addr) (bs bm:List Value) (hdct:Bool) (sn:List Str) (sub:List Value) (ab:Bool) (col:Option Bool) (dd:Option Addr) (k0 k1 k2 k3 k5:Option Value),
  K.lookup C=some (excClassObj nm q C N bs bm hdct sn sub ab col dd k0 k1 k2 k3 k5 "ValueError.__new__")∧MK "ValueError" bm∧bm.contains (.type "BaseException")=true
 init:PySem.W.findIn K (.ref C) "__init__" = some (some (.ref f))
 fn:PySem.W.isFn K (.ref f)=true
 kp:PySem.W.keepIn K (.ref C)=true
section
variable{X:Cx}{k:Nat}{f C:Addr}{fd:FuncData}{ps:List Str}{g:Str}
theorem Inv.ac3{pins:List (Addr×Obj)}{σ:St}{H:Hp}{s:Shared}{h':Heap}{e:Addr}{us:List Value}(I:Inv X pins σ H s)(hs:s.heap.objs.size≤e)(m:Heap.MadeExcOf s.heap h' e (.ref C) us):
  Inv X pins σ (upd H e (xO e C none)) {s with heap:=h'}:=by
 obtain⟨t,he,_,_⟩:=m.there
 exact I.laid (t':=s.toks) (fun b u q=>m.keeps b u q) hs (Zu ⟨_,he,rfl⟩)
theorem RL{pins:List (Addr×Obj)}{σ:St}{H:Hp}{s:Shared}{Q:VK}{u:Value}{y:V}(M:XMk X.K C f)(hX:Ax X.K C g)(F:bB X.prog X.w X.K X.mg X.base TJ k f fd ps (yq X.K g))(hr:j6 (k+1) X.A)(hb:Binds X.K fd ps [])
  (I:Inv X pins σ H s) (r:RelV y u)
  (h:∀x dx,H x=none→H dx=none→dx≠x→s.heap.objs.size≤x→Q (.ref x) (upd (upd (upd H x (xO x C none)) dx (.xd [(g,y)])) x (xO x C (some dx)))):
  wpAny (model X.prog X.w) X.A (call (.ref C) [u]) (EP X pins σ Q) X.xe s:=by
 obtain⟨nm,q,N,bs,bm,hdct,sn,sub,ab,col,dd,k0,k1,k2,k3,k5,hC,hT,hB⟩:=M.obj
 have hfn:=beq_iff_eq.mp M.fn
 have lk:∃oI,X.K.lookup f=some oI∧oI.cls= .type "function" := by
  obtain⟨o,ho,hc⟩:=Option.map_eq_some_iff.mp hfn
  exact⟨o,ho,hc⟩
 obtain⟨oI,hoI,hcI⟩:=lk
 obtain⟨hp,gg,d,t,os⟩:=s
 refine x_call PySem.F.excBase_ValueError hT (I.Cy _ _ hC) (PySem.W.looks_findIn I.Cy M.init) (I.Cy _ _ hoI) hcI (fun h' e hs m=> ?_) (by show 1≤sizeLine;decide)
 have I2:=I.ac3 hs m
 have r2:Vals [V.ref e,y] [Value.ref e,u]:= .cons rfl (.cons r .nil)
 have n0:H e=none:=I.hok.fresh hs
 have hq:yq X.K g [V.ref e,y] (upd H e (xO e C none)) (fun v H2=>v= .non∧Q (.ref e) H2) E0:=by
  refine⟨e,C,y,rfl,d7,hX,fun dx hd ne=>⟨rfl,h e dx n0 ?_ ne hs⟩⟩
  rw[bA ne]at hd;exact hd
 have hl:([Value.ref e,u]++[]).length=ps.length:=by rw[List.append_nil,←r2.length];exact F.len _ _ _ _ hq
 refine wpAny_call (codeAny_mono (F.run _ X.stack _ _ ⟨[Value.ref e,u],[]⟩ [Value.ref e,u] _ _ E0 (hr.make C [u] []) (I2.env0.make C [u] []) (by simpa using hb _ [Value.ref e,u] I2.Cy hl) r2 hq) fun r s' hq'=> ?_)
 cases r with
 | error e=>exact hq'.elim
 | ok fl=>
  cases fl with
  | ret u=>
   obtain⟨v,H',I3,rv,ev,q3⟩:=I2.after hq'
   subst ev
   exact⟨rv,⟨V.ref e,H',I3,rfl,q3⟩⟩
  | next=>exact False.elim hq'
  | brk=>exact False.elim hq'
  | cont=>exact False.elim hq'
end
end L2
namespace L2
open PySem PySem.Spec PyProof.Rows
def drop(H:Hp)(a:Addr):Hp:=fun b=>if b=a then none else H b
theorem Q7{H:Hp}{a b:Addr}(h:b≠a):drop H a b=H b:=by unfold drop;rw[if_neg h]
theorem HF{H:Hp}{a:Addr}:drop H a a=none:=by unfold drop;rw[if_pos rfl]
section
variable{X:Cx}{pins:List (Addr×Obj)}{σ:St}{H:Hp}{s:Shared}{a:Addr}{φ:Heap→Prop}
theorem Inv.afP(I:Inv X pins σ H s)(e:H a=some (.ext φ)):Inv X pins σ (drop H a) s:=by
 have nn:∀b,H b=none→drop H a b=none:=fun b q=>by unfold drop;split<;>first | rfl | exact q
 have kk:∀b u,H b=some u→(∀ψ,u≠ .ext ψ)→drop H a b=some u:=fun b u q n=>by
  have:b≠a:=fun z=>by subst z;rw[e]at q;cases q;exact n _ rfl
  rw[Q7 this];exact q
 refine⟨I.ok,I.os,I.bare,⟨I.base.keep,I.base.slot,fun b o q n x=>nn b (I.base.free b o q n x),I.base.there,fun b xs q=>kk b _ (I.base.tups b xs q) (by simp),fun b o u q=>kk b _ (I.base.zp b o u q) (by simp),fun b ps q=> ?_⟩,I.loc,I.cell,nn _ I.free,fun x c q=>nn _ (I.oh x c q),fun p hp=> ?_,fun b o q=> ?_,I.len⟩
 ·obtain⟨m,z⟩:=I.base.zO b ps q;exact⟨m,kk b _ z (by simp)⟩
 ·obtain⟨z1,z2,z3⟩:=I.pin p hp;exact⟨z1,nn _ z2,z3⟩
 ·have nb:b≠a:=fun z=>by subst z;rw[HF]at q;cases q
  rw[Q7 nb]at q
  exact(I.hok b o q).stay (fun _ _ _ z=>z) (fun b' z=>kk b' _ z (by simp)) fun b' xs z=>kk b' _ z (by simp)
end
def iD(P:Program)(w:World):PB:=fun outer H s E ev s'=>∃e C dx T H',ev=Value.ref e∧s'.os=s.os∧AllBare s'.gens∧Un (frs outer) [] H H' s.heap s'.heap∧ud P w H' s'.heap∧Exc s'.heap e C (some dx) (some T) .none∧
 s.heap.objs.size≤e∧s.heap.objs.size≤T∧H' e=none∧H' T=none∧E (.ref C) (some dx) H'
abbrev bG:=Addr→Addr→St→Hp→Prop
structure ni(X:Cx)(pins:List (Addr×Obj))(H:Hp)(a:Addr):Prop where
 no:H a=none
 new:X.s₀.heap.objs.size≤a
 pin:∀p∈X.pn++pins,p.1≠a
def fL(X:Cx)(W:bG):Value→Shared→Prop:=fun ev s=>∃e C dx T fl pins σ H,ev=Value.ref e∧Inv X pins σ H s∧Exc s.heap e C (some dx) T fl∧(fl=fl∨fl=rawInt X.env.locals)∧ni X pins H e∧(∀t,T=some t→ni X pins H t)∧W C dx σ H
section
variable{X:Cx}{pins:List (Addr×Obj)}{σ:St}{H:Hp}{s:Shared}
theorem fL.Qu{W:bG}{E:XK}{ev:Value}{s':Shared}(I:Inv X pins σ H s)(h:iD X.prog X.w X.stack H s E ev s')(hE:∀C dx H',E (.ref C) (some dx) H'→W C dx σ H'):fL X W ev s':=by
 obtain⟨e,C,dx,T,H',rfl,os,bare,un,hok,x,ne,nT,fe,fT,hq⟩:=h
 have old:∀a,s.heap.objs.size≤a→∀p∈X.pn++pins,p.1≠a:=fun a ha p hp z=>by
  have:=Heap.lt_size (I.pin p hp).1
  rw[z]at this
  exact absurd (Nat.lt_of_lt_of_le this ha) (Nat.lt_irrefl _)
 exact⟨e,C,dx,some T,.none,pins,σ,H',rfl,I.call' os un hok bare (fun b z=>absurd z (by simp)),x,.inl rfl,⟨fe,Nat.le_trans I.sz ne,old e ne⟩,fun t z=>by cases z;exact⟨fT,Nat.le_trans I.sz nT,old T nT⟩,hE C dx H' hq⟩
theorem Ht{P:Program}{w:World}{fs:List Addr}{e:Addr}{T:Option Addr}{h h':Heap}(ok:ud P w H h)(k:pA fs e T h h')(he:H e=none)(hT:∀t,T=some t→H t=none)(hf:∀b∈fs,H b=none):ud P w H h':=by
 have kp:∀b u o,H b=some o→h.get? b=some u→h'.get? b=some u:=fun b u o q z=>
  k.2.1 b u (fun y=>by subst y;rw[he]at q;cases q) (fun y=>by rw[hT b y.symm]at q;cases q) (fun y=>by rw[hf b y]at q;cases q) z
 intro b o q
 refine(ok b o q).stay (fun b' u hb z=> ?_) (fun _ z=>z) fun _ _ z=>z
 rcases hb with rfl | hb
 ·exact kp _ u o q z
 ·exact kp _ u _ hb z
end
theorem fL.leave{P:Program}{w:World}{K:PySem.W.Frag}{mg:Str→Option Value}{base:Heap}{N:List Str}{qual:Str}{scope:Scope}{f:Addr}{cd:Value}{A:Around}{outer:List Env}{s:Shared}{H:Hp}{E:XK}{W:bG}{ev:Value}{s':Shared}
  (h:fL (yg (iD P w) P w K mg base N qual scope f cd A outer s H E) W ev s') (hE:∀C dx σ H',W C dx σ H'→E (.ref C) (some dx) H'):
  (yg (iD P w) P w K mg base N qual scope f cd A outer s H E).xe ev s':=by
 obtain⟨e,C,dx,T,fl,pins,σ,H',rfl,I,x,hfl,fe,fT,hW⟩:=h
 show wpAny _ _ (leaving _ (.ref e)) _ _ s'
 refine Xe I.ok.frames I.stack rfl x hfl fun h2 T' hT k x'=> ?_
 have hTn:∀t,T=some t→H' t=none:=fun t z=>(fT t z).no
 have nT:s.heap.objs.size≤T':=by
  rcases hT with r | r
  ·exact(fT T' r).new
  ·exact Nat.le_trans I.sz r
 have fT':H' T'=none:=by
  rcases hT with r | r
  ·exact hTn T' r
  ·exact I.hok.fresh r
 have ok2:=Ht I.hok k fe.no hTn I.zP
 have ne:∀b o,s.heap.get? b=some o→b≠e∧some b≠T:=fun b o q=>⟨fun z=>absurd (Nat.lt_of_lt_of_le (Heap.lt_size q) (z▸fe.new)) (Nat.lt_irrefl _),fun z=>absurd (Nat.lt_of_lt_of_le (Heap.lt_size q) (fT b z.symm).new) (Nat.lt_irrefl _)⟩
 have nL:∀b o,s.heap.get? b=some o→b≠s.heap.objs.size:=fun b o q=>Nat.ne_of_lt (Heap.lt_size q)
 refine⟨e,C,dx,T',H',rfl,I.os,I.bare,⟨fun b o q n hb _=> ?_,fun b o q n hb _=> ?_,fun b o q n _=>I.base.free b o q n (by simp[yg]),fun b o q _=> ?_,I.base.tups,I.base.zp,I.base.zO⟩,ok2,x',fe.new,nT,fe.no,fT',hE C dx σ H' hW⟩
 ·obtain⟨n1,n2⟩:=ne b o q
  refine k.2.1 b o n1 n2 (fun z=> ?_) (I.base.keep b o q n hb (by simp[yg]))
  rcases List.mem_cons.mp (I.DW b z)with y | y
  ·exact nL b o q y
  ·exact hb y
 ·obtain⟨n1,n2⟩:=ne b o q
  obtain⟨sl,q1⟩:=I.base.slot b o q n hb (by simp[yg])
  obtain⟨sl2,q2⟩:=k.2.2 b _ n1 n2 q1
  exact⟨sl2,q2⟩
 ·obtain⟨n1,n2⟩:=ne b o q
  obtain⟨o1,q1⟩:=I.base.there b o q (by simp[yg])
  obtain⟨sl2,q2⟩:=k.2.2 b _ n1 n2 q1
  exact⟨_,q2⟩
end L2
namespace L2
section
open PySem
variable{M:Model}{A:Around}{E:Value→Shared→Prop}{env:Env}
variable{nm q:Str}{C N:Addr}{bs bm:List Value}{hdct:Bool}{sn:List Str}{sub:List Value}{ab:Bool}{col:Option Bool}{dd:Option Addr}{k0 k1 k2 k3 k5:Option Value}{newId:String}
theorem KN{s:Shared}{x:Sem Value}{Q:Flow→Shared→Prop}(hbase:bm.contains (.type "BaseException")=true)(hh:A.handled=none)
  (h:wpAny M A x (fun v s₁=>∃e dx vs,v= .ref e∧s₁.heap.get? C=some (excClassObj nm q C N bs bm hdct sn sub ab col dd k0 k1 k2 k3 k5 newId)∧
   s₁.heap.get? e=some {cls:= .ref C,dict:=dx,data:= .fields vs}∧vs[1]? = some .none∧E (.ref e) s₁) E s):
  wpAny M A (raiseStmt env (some x) none) Q E s:=by
 have hcB:(Value.ref C::bm).contains (.type "BaseException")=true:=by rw[List.contains_cons,hbase,Bool.or_true]
 unfold raiseStmt
 refine wpAny_bind (wpAny_mono h (fun v s₁ h₁=> ?_) fun _ _ x=>x)
 obtain⟨e,dx,vs,rfl,hC,he,h1,hE⟩:=h₁
 obtain⟨hp,g,d,tk,os⟩:=s₁
 have hfl:∀{Q:Unit→Shared→Prop},Q () ⟨hp,g,d,tk,os⟩→wpAny M A (setFlight (.ref e) none) Q E ⟨hp,g,d,tk,os⟩:=fun hQ=>by
  unfold setFlight
  refine wpAny_bind (wpAny_field he rfl h1 ?_)
  rw[if_neg (by decide)]
  exact wpAny_pure hQ
 repeat (first | with_reducible refine wpAny_loadPart_at he ?_ | with_reducible refine wpAny_loadPart_at hC ?_ | (with_reducible refine wpAny_isSubtype_exc hC ?_;rw[hcB]) | with_reducible refine hfl ?_ | wp_step)
 exact wpAny_raiseNew_none hh hE
end
section
open PySem PySem.Spec PyProof.Rows
variable{X:Cx}{k:Nat}{f C:Addr}{fd:FuncData}{ps:List Str}{g:Str}{x:Str}{np cpos pos:Pos}{arg:Expr}{ta:TA}{W:bG}
theorem Td{H:Hp}{x dx:Addr}{o1 o2 o3:HO}(hx:H x=none)(ne:dx≠x):drop (upd (upd (upd H x o1) dx o2) x o3) x=upd H dx o2:=by
 funext b
 unfold drop upd
 by_cases z:b=x
 ·subst z;rw[if_pos rfl,if_neg (Ne.symm ne),hx]
 ·rw[if_neg z,if_neg z]
  by_cases z2:b=dx
  ·rw[if_pos z2,if_pos z2]
  ·rw[if_neg z2,if_neg z2,if_neg z]
def aaq(C:Addr)(g:Str)(W:bG)(ta:TA):TS:=fun _ σ H=>ta σ H fun vs H1=>∃y,vs=[y]∧∀dx,H1 dx=none→W C dx σ (upd H1 dx (.xd [(g,y)]))
theorem Vl(M:XMk X.K C f)(hX:Ax X.K C g)(F:bB X.prog X.w X.K X.mg X.base TJ k f fd ps (yq X.K g))(hr:j6 (k+1) X.A)(hb:Binds X.K fd ps [])(hg:Gl X x)(hm:X.mg x=some (.ref C))(hc:X.calm=true)
  (hW:∀ev s,fL X W ev s→X.xe ev s) (ha:PA X [arg] ta) (hdb:(x==("__debug__" : Str))=false:=by decide) (he:starEach [arg] X.env=[(false,eval arg X.env)]:=by rfl):
  PS X (.Raise (some (.Call (.Name x np) [arg] [] cpos)) none pos) (aaq C g W ta):=by
 intro pins s σ H D I h
 obtain⟨nm,q,N,bs,bm,hdct,sn,sub,ab,col,dd,k0,k1,k2,k3,k5,hC,hT,hB⟩:=M.obj
 rw[arm_exec_Raise]
 refine wpAny_bind (wpAny_standAt (KN (C:=C) (nm:=nm) (q:=q) (N:=N) (bs:=bs) (bm:=bm) (hdct:=hdct) (sn:=sn) (sub:=sub) (ab:=ab) (col:=col) (dd:=dd) (k0:=k0) (k1:=k1) (k2:=k2) (k3:=k3) (k5:=k5) (newId:= "ValueError.__new__") hB (I.ok.hd hc) ?_))
 have main:wpAny (model X.prog X.w) X.A (eval (.Call (.Name x np) [arg] [] cpos) X.env) (EP X pins σ fun v H3=>∃e dx y H1,v= .ref e∧H1 e=none∧H1 dx=none∧dx≠e∧X.s₀.heap.objs.size≤e∧(∀p∈X.pn++pins,p.1≠e)∧H3=upd (upd (upd H1 e (xO e C none)) dx (.xd [(g,y)])) e (xO e C (some dx))∧W C dx σ (upd H1 dx (.xd [(g,y)]))) X.xe s:=by
  refine wpAny_Call_Name_kw (Ds I hg hm ?_ hdb)
  refine PySem.W.callWith_K (h₀:=X.base) I.ok.mod.kin M.kp (jh (ha cpos pins s σ H _ I h) fun us s1 ⟨vs,H1,I1,r,y,ev,q⟩=>⟨I1.Cy,?_⟩) he rfl
  subst ev
  cases r with
  | cons r1 r2=>
   cases r2
   refine RL M hX F hr hb I1 r1 fun e dx n1 n2 ne hs=>⟨e,dx,y,H1,rfl,n1,n2,ne,Nat.le_trans I1.sz hs,fun p hp z=> ?_,rfl,q dx n2⟩
   have:=Heap.lt_size (I1.pin p hp).1
   rw[z]at this
   exact absurd (Nat.lt_of_lt_of_le this hs) (Nat.lt_irrefl _)
 refine wpAny_bind (jh main fun v s1 ⟨vv,H3,I3,rv,e,dx,y,H1,ev,n1,n2,ne,sz,pn,eH,hw⟩=>wpAny_bind (wpAny_standAt (wpAny_pure ?_)))
 subst ev eH
 obtain rfl:v=Value.ref e:=rv
 have x0:Exc s1.heap e C (some dx) none .none:=Zv (I3.hok e _ d7)
 obtain⟨vs,hat,h1⟩:=x0.at_
 refine⟨e,some dx,vs,rfl,I3.Cy _ _ hC,hat,h1,hW _ _ ⟨e,C,dx,none,.none,pins,σ,_,rfl,I3.afP d7,x0,.inl rfl,⟨HF,sz,pn⟩,(fun t z=>by cases z),?_⟩⟩
 rw[Td n1 ne]
 exact hw
end
end L2
namespace L2
open PySem PySem.Spec PyProof.Rows
section
variable{X:Cx}{pins:List (Addr×Obj)}{σ:St}{H:Hp}{s:Shared}{e C:Addr}{dx T:Option Addr}{fl:Value}{h':Heap}{W:bG}
theorem Inv.uf{a:Addr}{o:Obj}{vs:Array Value}(I:Inv X pins σ H s)(h:s.heap.get? a=some o)(d:o.data= .fields vs):a≠X.env.locals∧∀x c,X.env.cells.lookup x=some c→c≠a:=by
 refine⟨fun z=> ?_,fun x c hc z=> ?_⟩
 ·obtain⟨m,⟨o',es,ep,ho,hd,_⟩,_⟩:=I.loc
  subst z
  rw[ho]at h;cases h;rw[hd]at d;cases d
 ·obtain⟨v,o',ho,hd⟩:=I.cell x c hc
  subst z
  rw[ho]at h;cases h;rw[hd]at d;cases d
theorem Inv.Ck(I:Inv X pins σ H s)(x:Exc s.heap e C dx T fl)(fe:ni X pins H e)(fT:∀t,T=some t→ni X pins H t)(k:pA (frs X.stack) e T s.heap h')(hE:∃o,h'.get? e=some o)(hTt:∀t,T=some t→∃o,h'.get? t=some o):
  Inv X pins σ H {s with heap:=h'}:=by
 obtain⟨vs,he,hT⟩:=x.at_
 have ok2:=Ht I.hok k fe.no (fun t z=>(fT t z).no) I.zP
 refine I.call (t':=s.toks) (g':=s.gens) (d':=s.drawn) (ch:=e::T.toList) ⟨fun b o q n hb hc=> ?_,fun b o q n hb hc=> ?_,fun b o q n _=>n,fun b o q hc=> ?_,fun _ _ q=>q,fun _ _ _ q=>q,fun b ps q=>⟨#[],by rw[q];simp⟩⟩ ok2 I.bare fun b hb=> ?_
 ·simp at hc
  exact k.2.1 b o hc.1 (fun z=>hc.2 z.symm) hb q
 ·simp at hc
  exact k.2.2 b o hc.1 (fun z=>hc.2 z.symm) q
 ·simp at hc
  obtain⟨sl,z⟩:=k.2.2 b o hc.1 (fun z=>hc.2 z.symm) q
  exact⟨_,z⟩
 ·simp at hb
  rcases hb with rfl | hb
  ·exact⟨.inr fe.new,(I.uf he rfl).1,(I.uf he rfl).2,fe.pin⟩
  ·subst hb
   obtain⟨_,_,oT,ts,hoT,hd,_⟩:=hT
   exact⟨.inr (fT b rfl).new,(I.uf hoT hd).1,(I.uf hoT hd).2,(fT b rfl).pin⟩
theorem pA.mono{fs fs':List Addr}{h:Heap}(k:pA fs e T h h')(hs:∀b∈fs,b∈fs'):pA fs' e T h h':=⟨k.1,fun b o n1 n2 n3 q=>k.2.1 b o n1 n2 (fun z=>n3 (hs b z)) q,k.2.2⟩
theorem Exc.here(x:Exc h' e C dx T fl):(∃o,h'.get? e=some o)∧∀t,T=some t→∃o,h'.get? t=some o:=by
 obtain⟨vs,he,hT⟩:=x.at_
 refine⟨⟨_,he⟩,fun t z=> ?_⟩
 subst z
 obtain⟨_,_,oT,_,hoT,_⟩:=hT
 exact⟨oT,hoT⟩
theorem fL.RZ(hst:X.stack=X.env::X.outer)(hf:X.env.frame=some X.env.locals){A:Around}(hA:A.frames=some X.stack):∀ev s',fL X W ev s'→wpAny (model X.prog X.w) A (noteFrame ev X.env) (fun _ s2=>cameBackBy (model X.prog X.w) X.A X.env (fL X W) ev s2) (cameBackBy (model X.prog X.w) X.A X.env (fL X W)) s':=by
 rintro ev s' ⟨e,C,dx,T,fl,pins,σ,H,rfl,I,x,hfl,fe,fT,hW⟩
 have J3:=I.stack
 rw[hst]at J3
 refine Iv (by rw[hA,hst]) J3 hf x hfl fun h1 T1 hT1 k1 x1=> ?_
 have TV:ni X pins H T1:=by
  rcases hT1 with r | r
  ·exact fT T1 r
  ·refine⟨I.hok.fresh r,Nat.le_trans I.sz r,fun p hp z=> ?_⟩
   have:=Heap.lt_size (I.pin p hp).1
   rw[z]at this
   exact absurd (Nat.lt_of_lt_of_le this r) (Nat.lt_irrefl _)
 have hTt:∀t,T=some t→∃o,h1.get? t=some o:=fun t z=>by
  obtain⟨o,q⟩:=x.here.2 t z
  exact k1.1.2 t o q
 have I1:=I.Ck x fe fT (k1.mono (by rw[hst];exact fun b z=>z)) x1.here.1 hTt
 unfold cameBackBy
 obtain⟨vs,he,h2,_⟩:=x1.at_
 refine wpAny_bind (wpAny_field he rfl h2 ?_)
 rw[if_neg (by simp)]
 refine ux (s:={s' with heap:=h1}) x1 fun h2 k2 x2=>⟨e,C,dx,some T1,_,pins,σ,H,rfl,I1.Ck x1 fe (fun t z=>by cases z;exact TV) (k2.mono (by simp)) x2.here.1 x2.here.2,x2,.inr (by rw[hf];rfl),fe,fun t z=>by cases z;exact TV,hW⟩
end
end L2
namespace L2
open PySem PySem.Spec PyProof.Rows
def Tk(X:Cx)(W:bG):Prop:=∀ev s,fL X W ev s→X.xe ev s
def EW(W:bG)(σ:St):XK:=fun cv dxo H'=>∃C dx,cv=Value.ref C∧dxo=some dx∧W C dx σ H'
theorem fL.nH{X:Cx}{W W':bG}{ev:Value}{s:Shared}(h:fL (X.wish (fL X W)) W' ev s):fL X W' ev s:=by
 obtain⟨e,C,dx,T,fl,pins,σ,H,ee,I,x,hfl,fe,fT,hW⟩:=h
 exact⟨e,C,dx,T,fl,pins,σ,H,ee,I.nH,x,hfl,⟨fe.no,fe.new,fe.pin⟩,fun t z=>⟨(fT t z).no,(fT t z).new,(fT t z).pin⟩,hW⟩
theorem Tk.wish{X:Cx}{W:bG}:Tk (X.wish (fL X W)) W:=fun _ _ h=>h.nH
section
variable{X:Cx}{k:Nat}{f C:Addr}{fd:FuncData}{ps:List Str}{sp:Sp}{yx:List V}{ds:List Value}{W:bG}{x m:Str}{p pos apos:Pos}{e o:Expr}{es:List Expr}{ta:TE}{t:TA}
theorem Ji{pins:List (Addr×Obj)}{σ:St}{H:Hp}{s:Shared}{Q:VK}{us:List Value}{vs:List V}(F:bB X.prog X.w X.K X.mg X.base (iD X.prog X.w) k f fd ps sp)(hr:j6 k X.A)(hb:Binds X.K fd ps ds)(hd:Vals yx ds)(hx:Tk X W)
  (I:Inv X pins σ H s) (r:Vals vs us) (h:sp (vs++yx) H Q (EW W σ)):wpAny (model X.prog X.w) X.A (call (.ref f) us) (EP X pins σ Q) X.xe s:=by
 have r2:=r.append hd
 have hl:(us++ds).length=ps.length:=by rw[←r2.length];exact F.len _ _ _ _ h
 refine wpAny_call (codeAny_mono (F.run X.A X.stack s H ⟨us,[]⟩ (us++ds) (vs++yx) Q _ hr I.env0 (hb s us I.Cy hl) r2 h) fun r s' hq=> ?_)
 match r,hq with
 | .error e,hq=>exact hx _ _ (fL.Qu I hq fun C dx H' ⟨C',dx',e1,e2,w⟩=>by cases e1;cases e2;exact w)
 | .ok (.ret u),hq=>exact I.after hq
def Us(sp:Sp)(yx:List V)(W:bG)(t:TA):TE:=fun σ H Q=>t σ H fun vs H1=>sp (vs++yx) H1 Q (EW W σ)
theorem Vu(F:bB X.prog X.w X.K X.mg X.base (iD X.prog X.w) k f fd ps sp)(hr:j6 k X.A)(hg:Gl X x)(hm:X.mg x=some (.ref f))(hk:PySem.W.keepIn X.K (.ref f)=true)(hb:Binds X.K fd ps ds)(hd:Vals yx ds)(hx:Tk X W)
  (ha:PA X (e::es) t) (hdb:(x==("__debug__" : Str))=false:=by decide) (he:starEach (e::es) X.env=(false,eval e X.env)::starEach es X.env:=by rfl) (hpl:(backTo pos (starEach es X.env)).any (·.1)=false:=by rfl):
  PE X (.Call (.Name x p) (e::es) [] pos) (Us sp yx W t):=by
 intro pins s σ H Q I h
 exact wpAny_Call_Name_kw (Ds I hg hm (PySem.W.callWith_K (h₀:=X.base) I.ok.mod.kin hk (jh (ha pos pins s σ H _ I h) fun us s1 ⟨vs,H1,I1,r,q⟩=>⟨I1.Cy,Ji F hr hb hd hx I1 r q⟩) he hpl) hdb)
def NB(C:Addr)(m:Str)(sp:Sp)(yx:List V)(W:bG)(ta:TE)(t:TA):TE:=fun σ H Q=>ta σ H fun x H1=>∃a dx fs,x= .ref a∧H1 a=some (.ins C dx fs)∧fs.lookup m=none∧t σ H1 fun vs H2=>sp (x::(vs++yx)) H2 Q (EW W σ)
theorem Vq{pl:Sem Bool}(he:PE X o ta)(c:Np X.K C)(hm:Meth X.K C m f)(F:bB X.prog X.w X.K X.mg X.base (iD X.prog X.w) k f fd ps sp)(hr:j6 k X.A)(hb:Binds X.K fd ps ds)(hd:Vals yx ds)(hx:Tk X W)(ha:PA X (e::es) t)
  (hst:starEach (e::es) X.env=(false,eval e X.env)::starEach es X.env:=by rfl) (hpl:(backTo pos (starEach es X.env)).any (·.1)=false:=by rfl)
  (ht:eval (.Call (.Attribute o m apos) (e::es) [] pos) X.env=(do
   let ov ←eval o X.env
   standAt apos.atName
   let(f,first) ←holding [ov] (getMethod ov m pl)
   callWith pos f first (backTo pos (starEach (e::es) X.env)) (backToKw pos (keywordEach [] X.env))):=by rfl):
  PE X (.Call (.Attribute o m apos) (e::es) [] pos) (NB C m sp yx W ta t):=by
 intro pins s σ H Q I h
 refine PySem.W.methodCall_KW (pl:=pl) (jh (he pins s σ H _ I h) fun u s1 ⟨x,H1,I1,rx,a,dx,fs,ex,ea,l,q⟩=> ?_) ht
 subst ex
 obtain rfl:u=Value.ref a:=rx
 refine Fq I1 ea c hm l ?_
 exact PySem.W.callWith_K (h₀:=X.base) (first:=[.ref a]) I1.ok.mod.kin hm.kp (jh (ha pos pins s1 σ H1 _ I1 q) fun us s2 ⟨vs,H2,I2,r,q2⟩=>⟨I2.Cy,Ji (us:= .ref a::us) (vs:= .ref a::vs) F hr hb hd hx I2 (.cons rfl r) q2⟩) hst hpl
theorem RW{pl:Sem Bool}(he:PE X o ta)(c:Np X.K C)(hm:Meth X.K C m f)(F:bB X.prog X.w X.K X.mg X.base (iD X.prog X.w) k f fd ps sp)(hr:j6 k X.A)(hb:Binds X.K fd ps ds)(hd:Vals yx ds)(hx:Tk X W)
  (ht:eval (.Call (.Attribute o m apos) [] [] pos) X.env=(do
   let ov ←eval o X.env
   standAt apos.atName
   let(f,first) ←holding [ov] (getMethod ov m pl)
   callWith pos f first (backTo pos (starEach [] X.env)) (backToKw pos (keywordEach [] X.env))):=by rfl):
  PE X (.Call (.Attribute o m apos) [] [] pos) (NB C m sp yx W ta adg):=by
 intro pins s σ H Q I h
 refine PySem.W.methodCall_KW (pl:=pl) (jh (he pins s σ H _ I h) fun u s1 ⟨x,H1,I1,rx,a,dx,fs,ex,ea,l,q⟩=> ?_) ht
 subst ex
 obtain rfl:u=Value.ref a:=rx
 exact Fq I1 ea c hm l (PySem.W.callWith_K0 (first:=[.ref a]) I1.Cy hm.kp (Ji (us:=[.ref a]) (vs:=[.ref a]) F hr hb hd hx I1 (.cons rfl .nil) q))
end
theorem b7.okX{P:Program}{w:World}{K:PySem.W.Frag}{mg:Str→Option Value}{base:Heap}{x qual:Str}{st:Stmt}{dV:Value}{f:Addr}{fd:FuncData}{N ps:List Str}{k:Nat}{sp:Sp}(F:b7 K x qual st dV f fd)(S:bu N ps (au st))(len:∀vs H Q E,sp vs H Q E→vs.length=ps.length)
  (hbody:∀(cdv:Value) (A:Around) (outer:List Env) (s:Shared) (H:Hp) (vs:List V) (Q:VK) (E:XK),j6 k (A.deeper (envOfC qual (au st) s.heap.objs.size f cdv))→sp vs H Q E→
   ∃t W,(∀C dx σ H',W C dx σ H'→E (.ref C) (some dx) H')∧Dv ((yg (iD P w) P w K mg base N qual (au st) f cdv A outer s H E).wish (fL (yg (iD P w) P w K mg base N qual (au st) f cdv A outer s H E) W)) (aG st) t∧t {nx:=fun _ H'=>ZX H Q .non H',rt:=ZX H Q} (start N vs) H):
  bB P w K mg base (iD P w) (k+1) f fd ps sp:=by
 obtain⟨oc,od,kV,doc,pm,an,cdv,ct,osl,rfl,lk,hcd⟩:=F.ex
 refine bB.gc (sp:=fun vs H Q' E=>∃Q,sp vs H Q E∧Q'=ZX H Q) (Z0 lk hcd S (fun vs H Q E ⟨Q0,q,_⟩=>len vs H Q0 E q) fun A outer s H vs Q' E hr hsp=> ?_) fun vs H Q E q=>⟨Q,q,rfl⟩
 obtain⟨Q,hsp,rfl⟩:=hsp
 obtain⟨t,W,hE,h,q⟩:=hbody cdv A outer s H vs Q E hr hsp
 refine⟨t,fun pins s1 σ H1 D I h1=> ?_,q⟩
 exact wpAny_mono (h pins s1 σ H1 D (I.wish _) h1) (fun _ _ z=>z.nH) fun _ _ z=>z.leave hE
end L2
namespace L2
open PySem PySem.Spec PyProof.Rows
abbrev Cx.pp(X:Cx)(pins:List (Addr×Obj)):Cx:={X with pn:=X.pn++pins}
abbrev Cx.held(X:Cx)(e:Addr):Cx:={X with A:=X.A.mark (some (.ref e)),calm:=false,xe:=fun _ _=>False}
section
variable{X:Cx}{pins tV:List (Addr×Obj)}{σ:St}{H:Hp}{s:Shared}{e:Addr}
theorem Inv.pp(I:Inv X (pins++tV) σ H s):Inv (X.pp pins) tV σ H s:=
 ⟨⟨I.ok.mod,I.ok.kind,I.ok.glob,I.ok.blt,I.ok.above,I.ok.inj,I.ok.has,I.ok.cab,I.ok.hd,I.ok.frames,I.ok.stk,I.ok.YW,I.ok.bs,I.ok.Nh,I.ok.JC,I.ok.J9,I.ok.xU,I.ok.Wk⟩,I.os,I.bare,I.base,I.loc,I.cell,I.free,I.oh,fun p hp=>I.pin p (by rw[←List.append_assoc];exact hp),I.hok,I.len⟩
theorem Inv.ac_(I:Inv (X.pp pins) tV σ H s):Inv X (pins++tV) σ H s:=
 ⟨⟨I.ok.mod,I.ok.kind,I.ok.glob,I.ok.blt,I.ok.above,I.ok.inj,I.ok.has,I.ok.cab,I.ok.hd,I.ok.frames,I.ok.stk,I.ok.YW,I.ok.bs,I.ok.Nh,I.ok.JC,I.ok.J9,I.ok.xU,I.ok.Wk⟩,I.os,I.bare,I.base,I.loc,I.cell,I.free,I.oh,fun p hp=>I.pin p (by rw[←List.append_assoc]at hp;exact hp),I.hok,I.len⟩
theorem Inv.fewer(I:Inv X (pins++tV) σ H s):Inv X pins σ H s:=⟨I.ok,I.os,I.bare,I.base,I.loc,I.cell,I.free,I.oh,fun p hp=>I.pin p (by rw[←List.append_assoc];exact List.mem_append_left _ hp),I.hok,I.len⟩
theorem Inv.held(I:Inv X pins σ H s)(e:Addr):Inv (X.held e) pins σ H s:=
 ⟨⟨I.ok.mod,I.ok.kind,I.ok.glob,I.ok.blt,I.ok.above,I.ok.inj,I.ok.has,I.ok.cab,(fun z=>by cases z),I.ok.frames,I.ok.stk,I.ok.YW,I.ok.bs,I.ok.Nh,I.ok.JC,I.ok.J9,I.ok.xU,I.ok.Wk⟩,I.os,I.bare,I.base,I.loc,I.cell,I.free,I.oh,I.pin,I.hok,I.len⟩
theorem Inv.Nv(ok:X.Ok)(I:Inv (X.held e) pins σ H s):Inv X pins σ H s:=⟨ok,I.os,I.bare,I.base,I.loc,I.cell,I.free,I.oh,I.pin,I.hok,I.len⟩
theorem SP.map{X':Cx}{tV:List (Addr×Obj)}{D:Ends}{f:Flow}{s':Shared}(g:∀σ H,Inv X' tV σ H s'→Inv X pins σ H s')(h:SP X' tV D f s'):SP X pins D f s':=by
 cases f with
 | next=>obtain⟨σ',H',I,q⟩:=h;exact⟨σ',H',g _ _ I,q⟩
 | brk=>obtain⟨σ',H',I,q⟩:=h;exact⟨σ',H',g _ _ I,q⟩
 | cont=>obtain⟨σ',H',I,q⟩:=h;exact⟨σ',H',g _ _ I,q⟩
 | ret u=>obtain⟨v,σ',H',I,r,q⟩:=h;exact⟨v,σ',H',g _ _ I,r,q⟩
end
section
variable{X:Cx}{W:bG}{c:Str}{cp hpos pos:Pos}{b₀:Stmt}{suite body:List Stmt}{tb:bG→TS}{ts:TS}{cv:Value}{v:V}
theorem Exc.typ{M:Model}{h:Heap}{e C:Addr}{dx T:Option Addr}{fl:Value}(x:Exc h e C dx T fl):PySem.W.Looks M h (typeOf (.ref e)) (.ref C):=by
 obtain⟨vs,he,_⟩:=x.at_
 intro A Q E s k q
 exact wpAny_bind (wpAny_loadPart (k _ _ he) (wpAny_pure q))
end
end L2
namespace L2
open PySem PySem.Spec PyProof.Rows
abbrev xC(a C dx:Addr):HO:= .ext fun h=>∃vs,h.get? a=some {cls:= .ref C,dict:=some dx,data:= .fields vs}
section
variable{X:Cx}{pins:List (Addr×Obj)}{σ:St}{H:Hp}{s:Shared}{h':Heap}{t':Nat}
theorem Inv.locals(I:Inv X pins σ H s)(hsb:Heap.SameBut X.env.locals s.heap h')(loc:∃m,h'.Ns X.env.locals m∧∀(i:Nat) (x:Str) (v:V),X.N[i]? = some x→σ[i]? = some (some v)→Vis X.env.scope x→∃u,RelV v u∧Look X.env h' m x u):
  Inv X pins σ H {s with heap:=h',toks:=t'}:=by
 have nL:∀b o,X.s₀.heap.get? b=some o→b≠X.env.locals:=fun b o q=>Nat.ne_of_lt (Nat.lt_of_lt_of_le (Heap.lt_size q) I.ok.above)
 refine⟨I.ok,I.os,I.bare,⟨fun b o q n hb hx=>(hsb.2 b (nL b o q)).trans (I.base.keep b o q n hb hx),fun b o q n hb hx=> ?_,I.base.free,fun b o q hx=> ?_,I.base.tups,I.base.zp,I.base.zO⟩,loc,fun x c q=> ?_,I.free,I.oh,fun p hp=> ?_,fun b o q=> ?_,I.len⟩
 ·obtain⟨sl,z⟩:=I.base.slot b o q n hb hx
  exact⟨sl,(hsb.2 b (nL b o q)).trans z⟩
 ·obtain⟨o',z⟩:=I.base.there b o q hx
  exact⟨o',(hsb.2 b (nL b o q)).trans z⟩
 ·obtain⟨v,o,ho,hd⟩:=I.cell x c q
  exact⟨v,o,(hsb.2 c (I.Za x c q)).trans ho,hd⟩
 ·obtain⟨z1,z2,z3,z4⟩:=I.pin p hp
  exact⟨(hsb.2 p.1 z3).trans z1,z2,z3,z4⟩
 ·have nl:∀b u,H b=some u→b≠X.env.locals:=fun b u z y=>by rw[y,I.free]at z;cases z
  refine(I.hok b o q).stay (fun b' u hb z=> ?_) (fun _ z=>z) fun _ _ z=>z
  rcases hb with rfl | hb
  ·exact(hsb.2 _ (nl _ _ q)).trans z
  ·exact(hsb.2 _ (nl _ _ hb)).trans z
theorem SJ{env:Env}{h h':Heap}{m m':Str→Option Value}{x:Str}{u:Value}(l:Look env h m x u)(hm:m' x=m x)(hc:∀c,env.cells.lookup x=some c→h'.get? c=h.get? c):Look env h' m' x u:=by
 rcases l with⟨k,e⟩ | ⟨k,c,e,o,ho,hd⟩
 ·exact .inl ⟨k,hm.trans e⟩
 ·exact .inr ⟨k,c,e,o,(hc c e).trans ho,hd⟩
theorem name_goes{M:Model}{A:Around}{E:Value→Shared→Prop}{i:Nat}{n:Str}{pos:Pos}{Q:Unit→Shared→Prop}(I:Inv X pins σ H s)(nd:X.N.Nodup)(hi:X.N[i]? = some n)(hl:X.env.scope.names.lookup n=some .local)(hk:X.env.kindOf n=some .local)
  (hp:(X.env.scope.kind== .class||(X.env.scope.kind== .module&&X.env.locals != X.env.globals))=false)
  (h:∀s',Inv X pins (σ.set i none) H s'→Q () s'):wpAny M A (do bindName X.env n .none;unbindBehindTheSuite X.env n pos) Q E s:=by
 refine wpAny_bind (wpAny_bindName (uA (v:= .non) I nd hi (.inl hl) rfl (fun s1 I1=> ?_) (.inr hl)))
 unfold unbindBehindTheSuite
 refine wpAny_onRaise ?_
 unfold unbindName
 refine wpAny_bind (wpAny_point (wpAny_bind ?_))
 unfold deleteName
 simp only[hk,hp]
 rw[if_neg (by decide)]
 obtain⟨m,hn,hlk⟩:=I1.loc
 have il:i<σ.length:=by rw[I.len];exact(List.getElem?_eq_some_iff.mp hi).1
 have there:(m n).isSome=true:=by
  obtain⟨u,ru,l⟩:=hlk i n .non hi (by rw[List.getElem?_set_self il]) (.inl hl)
  rcases l with⟨_,z⟩ | ⟨z,_⟩
  ·rw[z];rfl
  ·rw[hk]at z;rcases z with z | z<;>cases z
 refine wpAny_bind (wpAny_nsDel_keeps hn fun h2 v hn2 hs2=> ?_)
 rw[there]
 simp only[if_true,Bool.not_true,Bool.false_eq_true,if_false]
 refine wpAny_pure (wpAny_point (h _ ?_))
 have I2:Inv X pins (σ.set i none) H s1:=I1.weak (by simp) fun j w hj=>by
  by_cases z:i=j
  ·subst z;rw[List.getElem?_set_self il]at hj;cases hj
  ·rw[List.getElem?_set_ne z]at hj ⊢;exact hj
 refine I2.locals (t':=s1.toks) hs2 ⟨_,hn2,fun j x w hj hw hv=> ?_⟩
 have ne:x≠n:=fun z=>by
  subst z
  have:j=i:=EY nd hj hi
  subst this
  rw[List.getElem?_set_self il]at hw;cases hw
 have hw':(σ.set i (some .non))[j]? = some (some w):=by
  by_cases z:i=j
  ·subst z;rw[List.getElem?_set_self il]at hw;cases hw
  ·rw[List.getElem?_set_ne z]at hw ⊢;exact hw
 obtain⟨u,ru,l⟩:=hlk j x w hj hw' hv
 exact⟨u,ru,SJ l (by rw[if_neg ne]) fun c hc=>hs2.2 c (I1.Za x c hc)⟩
end
section
variable{X:Cx}{W:bG}{c n:Str}{cp hpos pos:Pos}{b₀:Stmt}{suite body:List Stmt}{tb:bG→TS}{ts:TS}{cv:Value}{v:V}{i:Nat}
def Ends.less(D:Ends)(i:Nat):Ends:={nx:=fun σ H=>D.nx (σ.set i none) H,bk:=fun σ H=>D.bk (σ.set i none) H,ct:=fun σ H=>D.ct (σ.set i none) H,rt:=D.rt}
def xmA(K:PySem.W.Frag)(cv:Value)(W:bG)(th:Addr→Addr→Addr→St→Hp→Prop):bG:=fun C dx σ H=>∃b,PySem.W.exmOne K (.ref C) cv=some b∧(if b=true then(∀e,H e=none→th e C dx σ H)else W C dx σ H)
theorem Inv.caught{pins:List (Addr×Obj)}{σ:St}{H:Hp}{s:Shared}{e C dx:Addr}{vs:Array Value}(I:Inv X pins σ H s)(h:s.heap.get? e=some {cls:= .ref C,dict:=some dx,data:= .fields vs})(f:ni X pins H e):Inv X pins σ (upd H e (xC e C dx)) s:=by
 have hk:∀b u,H b=some u→upd H e (xC e C dx) b=some u:=fun b u q=>by rw[bA (dH q f.no)];exact q
 have hn:∀b,b≠e→H b=none→upd H e (xC e C dx) b=none:=fun b z q=>by rw[bA z];exact q
 refine⟨I.ok,I.os,I.bare,⟨I.base.keep,I.base.slot,fun b o q n x=>hn b (fun z=>absurd (Nat.lt_of_lt_of_le (Heap.lt_size q) (z▸f.new)) (Nat.lt_irrefl _)) (I.base.free b o q n x),I.base.there,fun b xs q=>hk _ _ (I.base.tups b xs q),fun b o u q=>hk _ _ (I.base.zp b o u q),fun b ps q=> ?_⟩,I.loc,I.cell,hn _ (Ne.symm (I.uf h rfl).1) I.free,fun x c q=>hn _ ((I.uf h rfl).2 x c q) (I.oh x c q),fun p hp=> ?_,fun b o q=> ?_,I.len⟩
 ·obtain⟨m,z⟩:=I.base.zO b ps q;exact⟨m,hk _ _ z⟩
 ·obtain⟨z1,z2,z3⟩:=I.pin p hp;exact⟨z1,hn _ (f.pin p hp) z2,z3⟩
 ·by_cases z:b=e
  ·subst z
   rw[d7]at q;cases q
   exact⟨⟨vs,h⟩,⟨_,h⟩,fun h1 h2 ⟨vs1,y⟩ k=>⟨vs1,k _ y⟩⟩
  ·rw[bA z]at q
   exact(I.hok b o q).stay (fun _ _ _ y=>y) (fun b' y=>hk _ _ y) fun b' xs y=>hk _ _ y
theorem Vk(hst:X.stack=X.env::X.outer)(hf:X.env.frame=some X.env.locals)(hx:Tk X W)(hv:∀u,RelV v u→u=cv)(hn:∀e,PE (X.held e) (.Name c cp) (tC v))
  (nd:X.N.Nodup) (hi:X.N[i]? = some n) (hl:X.env.scope.names.lookup n=some .local) (hk:X.env.kindOf n=some .local)
  (hb:∀pins W1,Dv ((X.pp pins).wish (fL (X.pp pins) W1)) body (tb W1)) (hs:∀e,Dv (X.held e) (b₀::suite) ts):
  PS X (.Try body [.ExceptHandler (some (.Name c cp)) (some n) (b₀::suite) hpos] [] [] pos)
   (fun D σ H=>tb (xmA X.K cv W fun e C dx σ' H'=>ts (Ends.less D i) (σ'.set i (some (.ref e))) (upd H' e (xC e C dx))) D σ H):=by
 intro pins s σ H D I h
 have ok:=I.ok
 have hcls:(X.env.scope.kind== .class||(X.env.scope.kind== .module&&X.env.locals != X.env.globals))=false:=by rw[ok.kind];rfl
 refine wpAny_Try_except (wpAny_mono (hb pins (xmA X.K cv W fun e C dx σ' H'=>ts (Ends.less D i) (σ'.set i (some (.ref e))) (upd H' e (xC e C dx))) [] s σ H D (Inv.wish (Inv.pp (tV:=[]) (by rw[List.append_nil];exact I)) _) h) (fun f s1 h1=> ?_) fun ev s1 h1=> ?_)
 ·have h2:SP X pins D f s1:=SP.map (fun σ H z=>z.nH.ac_.fewer) h1
  cases f with
  | next=>exact wpAny_execs_nil h2
  | brk=>exact h2
  | cont=>exact h2
  | ret u=>exact h2
 ·obtain⟨e,C,dx,T,fl,Lh,σ',H',rfl,I1,x,hfl,fe,fT,hW⟩:=h1
  have J1:=I1.ac_
  have J3:=J1.stack
  rw[hst]at J3
  have cv1:∀{a},ni (X.pp pins) Lh H' a→ni X (pins++Lh) H' a:=fun z=>⟨z.no,z.new,fun p hp=>z.pin p (by rw[←List.append_assoc]at hp;exact hp)⟩
  have Xd:=cv1 fe
  have fT':∀t,T=some t→ni X (pins++Lh) H' t:=fun t z=>cv1 (fT t z)
  refine Iv (by rw[J1.ok.frames,hst]) J3 hf x hfl fun h1 T1 hT1 k1 x1=> ?_
  have TV:ni X (pins++Lh) H' T1:=by
   rcases hT1 with r | r
   ·exact fT' T1 r
   ·refine⟨J1.hok.fresh r,Nat.le_trans J1.sz r,fun p hp z=> ?_⟩
    have:=Heap.lt_size (J1.pin p hp).1
    rw[z]at this
    exact absurd (Nat.lt_of_lt_of_le this r) (Nat.lt_irrefl _)
  have I2:=J1.Ck x Xd fT' (k1.mono (by rw[hst];exact fun b z=>z)) x1.here.1 fun t z=>let⟨o,q⟩:=x.here.2 t z;k1.1.2 t o q
  refine ux (fr:=none) (s:={s1 with heap:=h1}) x1 fun h2 k2 x2=> ?_
  have I3:=I2.Ck x1 Xd (fun t z=>by cases z;exact TV) (k2.mono (by simp)) x2.here.1 x2.here.2
  obtain⟨vs2,he2,h12,aly,oT,ts2,hoT,hdT,h32⟩:=x2.at_
  have nfs:∀{a:Addr} {o:Obj} {vs:Array Value},h2.get? a=some o→o.data= .fields vs→a∉X.fs:=fun q d hm=>by
   obtain⟨_,o',ho',hd'⟩:=I3.xU.mem hm
   have q':h2.get? _=some o':=ho'
   rw[q]at q';cases q';exact hd' _ d
  have I4:Inv X (pins++[(e,{cls:= .ref C,dict:=some dx,data:= .fields vs2}),(T1,oT)]) σ' H' {s1 with heap:=h2}:=I3.vD fun p hp=>by
   rcases List.mem_append.mp hp with z | z
   ·exact I3.pin p (List.mem_append_right _ (List.mem_append_left _ z))
   ·simp at z
    rcases z with rfl | rfl
    ·exact⟨he2,Xd.no,(I3.uf he2 rfl).1,nfs he2 rfl,fun v z=>by cases z⟩
    ·exact⟨hoT,TV.no,(I3.uf hoT hdT).1,nfs hoT hdT,fun v z=>by rw[hdT]at z;cases z⟩
  obtain⟨b,hm,hif⟩:=hW
  have fw:∀{a},ni X (pins++Lh) H' a→ni (X.held e) pins H' a:=fun z=>⟨z.no,z.new,fun p hp=>z.pin p (by rw[←List.append_assoc];exact List.mem_append_left _ hp)⟩
  refine wpAny_handleBy_cons (codeAny_handlers_test (wpAny_mono (hn e _ _ σ' H' (fun v' Nk=>v'=v∧Nk=H') (I4.held e) ⟨rfl,rfl⟩) (fun c' s3 ⟨v',Nk,I5,rv,e1,e2⟩=> ?_) fun _ _ z=>z.elim)) (by intro q;cases q)
  subst e1 e2
  obtain rfl:=hv c' rv
  have x5:Exc s3.heap e C (some dx) (some T1) .none:=⟨vs2,(I5.pin (e,_) (by simp)).1,h12,aly,oT,ts2,(I5.pin (T1,oT) (by simp)).1,hdT,h32⟩
  refine PySem.W.Looks.here (s:=s3) (PySem.W.exm_one I5.Cy x5.typ hm) ?_
  cases b with
  | true=>
   refine codeAny_handlers_suite_as (ux (fr:=none) x5 fun h6 k6 x6=> ?_)
   have I6:=(I5.fewer).Ck x5 (fw Xd) (fun t z=>by cases z;exact fw TV) (k6.mono (by simp)) x6.here.1 x6.here.2
   obtain⟨vs6,he6,_⟩:=x6.at_
   have I7:=I6.caught he6 (fw Xd)
   refine uA (v:= .ref e) (I7.Nv ok) nd hi (.inl hl) rfl (fun s8 I8=> ?_) (.inr hl)
   refine wpAny_mono (hs e pins s8 _ _ (Ends.less D i) (I8.held e) (hif e Xd.no)) (fun f s9 z=> ?_) fun _ _ z=>z.elim
   show wpAny _ _ (do bindName X.env n .none;unbindBehindTheSuite X.env n hpos) _ _ _
   have z':SP X pins (Ends.less D i) f s9:=SP.map (fun _ _ y=>y.Nv ok) z
   cases f with
   | next=>obtain⟨σ9,H9,I9,q9⟩:=z';exact name_goes I9 nd hi hl hk hcls fun s' I'=>⟨_,_,I',q9⟩
   | brk=>obtain⟨σ9,H9,I9,q9⟩:=z';exact name_goes I9 nd hi hl hk hcls fun s' I'=>⟨_,_,I',q9⟩
   | cont=>obtain⟨σ9,H9,I9,q9⟩:=z';exact name_goes I9 nd hi hl hk hcls fun s' I'=>⟨_,_,I',q9⟩
   | ret u=>obtain⟨v9,σ9,H9,I9,r9,q9⟩:=z';exact name_goes I9 nd hi hl hk hcls fun s' I'=>⟨v9,_,_,I',r9,q9⟩
  | false=>
   refine wpAny_handleBy_nil ?_
   unfold PySem.passOn
   obtain⟨vs5,he5,h15,_⟩:=x5.at_
   refine wpAny_bind (wpAny_field he5 rfl h15 ?_)
   rw[if_neg (by simp)]
   refine wpAny_bind (ux x5 fun h6 k6 x6=>wpAny_throw (hx _ _ ⟨e,C,dx,some T1,_,pins,σ',Nk,rfl,?_,x6,.inr (by rw[hf];rfl),⟨Xd.no,Xd.new,(fw Xd).pin⟩,fun t z=>by cases z;exact⟨TV.no,TV.new,(fw TV).pin⟩,hif⟩))
   exact((I5.fewer).Ck x5 (fw Xd) (fun t z=>by cases z;exact fw TV) (k6.mono (by simp)) x6.here.1 x6.here.2).Nv ok
end
end L2
namespace L2
open PySem PySem.Spec PyProof.Rows
section
variable{X:Cx}{e:Expr}{ta:TE}{f:Str}{pos:Pos}
def ajg(K:PySem.W.Frag)(ta:TE)(f:Str):TE:=fun σ H Q=>ta σ H fun x H1=>∃a C dx fs v,x= .ref a∧H1 a=some (xC a C dx)∧H1 dx=some (.xd fs)∧Ax K C f∧PySem.W.findIn K (.ref C) "__getattr__" = some none∧fs.lookup f=some v∧Q v H1
theorem aaN(he:PE X e ta)(hb:attributeBase e f X.env (eval e X.env)=eval e X.env):PE X (.Attribute e f pos) (ajg X.K ta f):=by
 intro pins s σ H Q I h
 refine Rh hb (jh (he pins s σ H _ I h) fun u s1 ⟨x,H1,I1,rx,a,C,dx,fs,v,ex,ea,ed,F,hg,l,q⟩=> ?_)
 subst ex
 obtain rfl:u=Value.ref a:=rx
 obtain⟨⟨vs,hx⟩,_⟩:=(show jn X.prog X.w H1 s1.heap a (xC a C dx)from I1.hok a _ ea)
 obtain⟨mA,hn,hr⟩:=(show jn X.prog X.w H1 s1.heap dx (.xd fs)from I1.hok dx _ ed)
 have r0:=hr f
 rw[l]at r0
 cases hm:mA f with
 | none=>rw[hm]at r0;exact r0.elim
 | some u=>
  rw[hm]at r0
  exact ajb I1.Cy F hg hx hn hm (Hu r0) ⟨v,H1,I1.tok _,r0,q⟩
end
end L2
namespace L2
open PySem PySem.Spec PyProof.Rows
structure XIs(K:PySem.W.Frag)(C:Addr):Prop where
 gn:PySem.W.findIn K (.ref C) "__getattr__" = some none
 ca:PySem.W.findIn K (.ref C) "__class__" = some (some (.builtin "object.__class__"))
 hn:PySem.W.specialIn K (.builtin "object.__class__") "__get__" = some (some (.builtin "getset_descriptor.__get__"))
 tk:PySem.W.takesIn K (.builtin "object.__class__")=some true
 mr:PySem.W.mroIn K C (.type "object")=some true
section
variable{prog:Program}{w:World}{A:Around}{E:Value→Shared→Prop}{s:Shared}{K:PySem.W.Frag}{x C:Addr}{name:Str}{ox od:Obj}
end
end L2
namespace L2
open PySem PySem.Spec PyProof.Rows
section
variable{X:Cx}{k:Nat}{f C:Addr}{fd:FuncData}{ps:List Str}{sp:Sp}{yx:List V}{ds:List Value}{W:bG}{x:Str}{p pos:Pos}{e:Expr}{es:List Expr}{t:TA}
def Uo(C:Addr)(sp:Sp)(yx:List V)(W:bG)(t:TA):TE:=fun σ H Q=>t σ H fun vs H1=>∀x dx,H1 x=none→H1 dx=none→dx≠x→
 sp (.ref x::(vs++yx)) (upd (upd H1 dx (.own x)) x (.ins C dx [])) (fun v H2=>v= .non∧Q (.ref x) H2) (EW W σ)
theorem RM{pins:List (Addr×Obj)}{σ:St}{H:Hp}{s:Shared}{Q:VK}{us:List Value}{vs:List V}(M:Mk X.K C f)(F:bB X.prog X.w X.K X.mg X.base (iD X.prog X.w) k f fd ps sp)(hr:j6 (k+1) X.A)(hb:Binds X.K fd ps ds)(hd:Vals yx ds)
  (hx:Tk X W) (I:Inv X pins σ H s) (r:Vals vs us)
  (h:∀x dx,H x=none→H dx=none→dx≠x→sp (.ref x::(vs++yx)) (upd (upd H dx (.own x)) x (.ins C dx [])) (fun v H2=>v= .non∧Q (.ref x) H2) (EW W σ)):
  wpAny (model X.prog X.w) X.A (call (.ref C) us) (EP X pins σ Q) X.xe s:=by
 have hq:=h (s.heap.objs.size+1) s.heap.objs.size (I.hok.fresh (Nat.le_succ _)) (I.hok.fresh (Nat.le_refl _)) (Nat.ne_of_lt (Nat.lt_succ_self _))
 have I2:=Inv.made (C:=C) I
 have r2:Vals (V.ref (s.heap.objs.size+1)::(vs++yx)) (Value.ref (s.heap.objs.size+1)::(us++ds)):= .cons rfl (r.append hd)
 have hl:(Value.ref (s.heap.objs.size+1)::us++ds).length=ps.length:=by
  have e:=r2.length
  rw[F.len _ _ _ _ hq]at e
  exact e.symm
 refine wpAny_call (VN (f:=f) I.Cy M.makes M.init (beq_iff_eq.mp M.fn) (codeAny_mono (F.run _ X.stack _ _ ⟨Value.ref (s.heap.objs.size+1)::us,[]⟩ (Value.ref (s.heap.objs.size+1)::(us++ds)) _ _ _ (hr.make C us [])
  (I2.env0.make C us []) (hb _ (Value.ref (s.heap.objs.size+1)::us) I2.Cy hl) r2 hq) fun r s' hq'=> ?_))
 match r,hq' with
 | .error e,hq'=>exact hx _ _ (fL.Qu I2 hq' fun C dx H' ⟨C',dx',e1,e2,w⟩=>by cases e1;cases e2;exact w)
 | .ok (.ret u),hq'=>
  obtain⟨v,H',I3,rv,ev,q3⟩:=I2.after hq'
  subst ev
  exact⟨rv,⟨V.ref (s.heap.objs.size+1),H',I3,rfl,q3⟩⟩
theorem Vr(M:Mk X.K C f)(F:bB X.prog X.w X.K X.mg X.base (iD X.prog X.w) k f fd ps sp)(hr:j6 (k+1) X.A)(hg:Gl X x)(hm:X.mg x=some (.ref C))(hb:Binds X.K fd ps ds)(hd:Vals yx ds)(hx:Tk X W)
  (ha:PA X (e::es) t) (hdb:(x==("__debug__" : Str))=false:=by decide) (he:starEach (e::es) X.env=(false,eval e X.env)::starEach es X.env:=by rfl) (hpl:(backTo pos (starEach es X.env)).any (·.1)=false:=by rfl):
  PE X (.Call (.Name x p) (e::es) [] pos) (Uo C sp yx W t):=fun pins s σ H Q I h=>
 wpAny_Call_Name_kw (Ds I hg hm (PySem.W.callWith_K (h₀:=X.base) I.ok.mod.kin M.kp (jh (ha pos pins s σ H _ I h) fun us s1 ⟨vs,H1,I1,r,q⟩=>⟨I1.Cy,RM M F hr hb hd hx I1 r q⟩) he hpl) hdb)
end
end L2
namespace L2
open PySem PySem.Spec PyProof.Rows
section
variable{X:Cx}{k:Nat}{f C:Addr}{fd:FuncData}{ps:List Str}{g:Str}{x:Str}{np cpos:Pos}{arg:Expr}{ta:TA}
end
section
variable{K:PySem.W.Frag}{nm q:Str}{C N:Addr}{bs bm:List Value}{sn:List Str}{sub:List Value}{ab:Bool}{col:Option Bool}{dd:Option Addr}{k0 k1 k2 k3 k5:Option Value}{newId:String}{name:Str}
theorem PX(lo:K.lookup C=some (excClassObj nm q C N bs bm true sn sub ab col dd k0 k1 k2 k3 k5 newId))(h1:bm.contains (.type "object")=true)(h2:bm.contains (.type "BaseException")=true)(h3:∀self,refuseLoop self "__setattr__" bm=pure ())
  (sa:PySem.W.findIn K (.ref C) "__setattr__" = some (some (.builtin "object.__setattr__"))) (ga:PySem.W.findIn K (.ref C) "__getattribute__" = some (some (.builtin "BaseException.__getattribute__"))) (no:PySem.W.findIn K (.ref C) name=some none):Ax K C name:=
 ⟨⟨_,by unfold PySem.W.clsIn;rw[lo],rfl,rfl,by rw[List.contains_cons,h1,Bool.or_true],by rw[List.contains_cons,h2,Bool.or_true],fun self=>(refuseLoop_ref self _ C bm).trans (h3 self)⟩,sa,ga,no⟩
theorem T_(lo:K.lookup C=some (excClassObj nm q C N bs bm true sn sub ab col dd k0 k1 k2 k3 k5 newId))(h1:bm.contains (.type "object")=true)(gn:PySem.W.findIn K (.ref C) "__getattr__" = some none)(ca:PySem.W.findIn K (.ref C) "__class__" = some (some (.builtin "object.__class__")))
  (hn:PySem.W.specialIn K (.builtin "object.__class__") "__get__" = some (some (.builtin "getset_descriptor.__get__"))) (tk:PySem.W.takesIn K (.builtin "object.__class__")=some true):XIs K C:=
 ⟨gn,ca,hn,tk,by unfold PySem.W.mroIn PySem.W.clsIn;rw[lo];simp only[Option.bind_some];rw[if_neg (by simp),List.contains_cons,h1,Bool.or_true]⟩
theorem T9{f:Addr}(lo:K.lookup C=some (excClassObj nm q C N bs bm true sn sub ab col dd k0 k1 k2 k3 k5 "ValueError.__new__"))(h0:bm.contains (.type "ValueError")=true)(hA:bm.contains (.type "AttributeError")=false)(hN:bm.contains (.type "NameError")=false)(h2:bm.contains (.type "BaseException")=true)
  (init:PySem.W.findIn K (.ref C) "__init__" = some (some (.ref f))) (fn:PySem.W.isFn K (.ref f)=true) (kp:PySem.W.keepIn K (.ref C)=true):XMk K C f:=
 ⟨⟨nm,q,N,bs,bm,true,sn,sub,ab,col,dd,k0,k1,k2,k3,k5,lo,⟨h0,hA,hN⟩,h2⟩,init,fn,kp⟩
theorem QL{t:Value}{b:Bool}(lo:K.lookup C=some (excClassObj nm q C N bs bm true sn sub ab col dd k0 k1 k2 k3 k5 newId))(h:PySem.W.subIn K t (.ref C)=some b):PySem.W.kitCls K t (.ref C)=some b:=by
 unfold PySem.W.kitCls
 dsimp only
 rw[if_pos,h]
 unfold PySem.W.clsIn PySem.W.typeIn
 rw[lo]
 simp[lo]
theorem sub_self(lo:K.lookup C=some (excClassObj nm q C N bs bm true sn sub ab col dd k0 k1 k2 k3 k5 newId)):PySem.W.subIn K (.ref C) (.ref C)=some true:=by
 show PySem.W.mroIn K C (.ref C)=some true
 unfold PySem.W.mroIn PySem.W.clsIn
 rw[lo]
 simp
theorem PL{t:Value}{b:Bool}(lo:K.lookup C=some (excClassObj nm q C N bs bm true sn sub ab col dd k0 k1 k2 k3 k5 newId))(h2:bm.contains (.type "BaseException")=true)(h:PySem.W.subIn K t (.ref C)=some b):PySem.W.exmOne K t (.ref C)=some b:=by
 unfold PySem.W.exmOne
 have e:PySem.W.subIn K (.ref C) (.type "BaseException")=some true:=by
  show PySem.W.mroIn K C _=some true
  unfold PySem.W.mroIn PySem.W.clsIn
  rw[lo]
  simp only[Option.bind_some]
  rw[if_neg (by simp),List.contains_cons,h2,Bool.or_true]
 rw[if_pos (by rw[e];simp)]
 exact QL lo h
theorem QK{t:Value}{b:Bool}(lo:K.lookup C=some (excClassObj nm q C N bs bm true sn sub ab col dd k0 k1 k2 k3 k5 newId))(h:PySem.W.subIn K t (.ref C)=some b):PySem.W.kitOne K t (.ref C)=some b:=by
 unfold PySem.W.kitOne
 split
 ·rename_i z
  have z':t= .ref C:=beq_iff_eq.mp z
  subst z'
  rw[sub_self lo]at h
  exact h
 ·exact QL lo h
end
end L2
namespace L2
open PySem
theorem Cp{bm:List Value}{cs:List Addr}(e:bm=cs.map Value.ref++[.type "ValueError",.type "Exception",.type "BaseException",.type "object"]):∀self,refuseLoop self "__setattr__" bm=pure ():=by
 subst e
 intro self
 induction cs with
 | nil=>rfl
 | cons c r ih=>simp only[List.map_cons,List.cons_append,refuseLoop_ref];exact ih
end L2
namespace L2
open PySem PySem.Spec PyProof.Rows
section
variable{prog:Program}{w:World}{A:Around}{R:Result→Shared→Prop}
theorem Rv{elt tg iter:Expr}{ifs:List Expr}{scope:Scope}{pos:Pos}{it acc:Value}{env:Env}{E:Value→Shared→Prop}(W:Nat→Shared→Prop){s:Shared}
  (turn:∀n s,W n s→wpAny (model prog w) A (pyNext it) (fun r s1=>match r with
   | none=>R (.ok .next) s1
   | some v=>wpAny (model prog w) A (letOwnedTupleGo tg it v) (fun _ s2=>wpAny (model prog w) A (assign tg env v) (fun _ s3=>
     wpAny (model prog w) A (forIn ifs true fun c r=>if r=true then do let ok ←isTrue c env (eval c env);pure (ForInStep.yield ok)else pure (ForInStep.yield r)) (fun ok s4=>
      if ok=true then wpAny (model prog w) A (eval elt env) (fun x s5=>wpAny (model prog w) A (call (.builtin "list.append") [acc,x]) (fun _ s6=>∃m,m<n∧W m s6) (fun _ _=>False) s5) E s4
      else ∃m,m<n∧W m s4) E s3) (fun _ _=>False) s2) (fun _ _=>False) s1) (fun _ _=>False) s)
  (hE:∀ev s,E ev s→notedBy (model prog w) A env (fun x s'=>R (.error x) s') ev s)
  (n:Nat) (h:W n s):codeAny (model prog w) A (.compLoop (.ListComp elt [⟨tg,iter,ifs,0⟩] scope pos) 0 it acc env) R s:=by
 have ex:∀{α:Type} {t:Sem α} {Q Q':α→Shared→Prop} {E:Value→Shared→Prop} {s:Shared},wpAny (model prog w) A t Q (fun _ _=>False) s→(∀a s,Q a s→Q' a s)→wpAny (model prog w) A t Q' E s:=
  fun h f=>wpAny_mono h f fun _ _ z=>z.elim
 have ey:∀{α:Type} {t:Sem α} {Q Q':α→Shared→Prop} {s:Shared},wpAny (model prog w) A t Q E s→(∀a s,Q a s→Q' a s)→wpAny (model prog w) A t Q' (notedBy (model prog w) A env fun x s'=>R (.error x) s') s:=
  fun h f=>wpAny_mono h f hE
 refine codeAny_loop rfl W (fun n s hI=> ?_) n h
 show wpAny _ A ((compTurn (.ListComp elt [⟨tg,iter,ifs,0⟩] scope pos) 0 it acc env).onRaise (fun x=>do noteFrame x env;theTreesLotGoes x)) _ _ s
 refine wpAny_noted ?_
 rw[compTurn_list]
 refine wpAny_bind (wpAny_standAt (wpAny_bind (ex (turn n s hI) fun r s1 h1=> ?_)))
 cases r with
 | none=>exact wpAny_pure h1
 | some v=>
  refine wpAny_bind (ex h1 fun _ s2 h2=>wpAny_bind (ex h2 fun _ s3 h3=>wpAny_bind (ey h3 fun ok s4 h4=> ?_)))
  cases ok with
  | false=>exact wpAny_pure ⟨rfl,h4⟩
  | true=>exact wpAny_bind (wpAny_bind (ey h4 fun x s5 h5=>wpAny_bind (ex h5 fun _ s6 h6=>wpAny_pure (wpAny_pure ⟨rfl,h6⟩))))
end
section
variable{X:Cx}{scope:Scope}{cl:List (Str×Addr)}{C:Addr}{N:List Str}{fp:List Addr}{s2:Shared}{H2:Hp}{W:bG}{ev:Value}{s:Shared}
theorem fL.abe{E:Value→Shared→Prop}(h:fL (aP X scope cl C N fp s2 H2) W ev s)(hst:X.stack=X.env::X.outer)(hf:X.env.frame=some X.env.locals)
  (hE:∀(e Ce dx T:Addr) (fl:Value) (pn:List (Addr×Obj)) (σ:St) (H:Hp) (s':Shared),Inv (aP X scope cl C N fp s2 H2) pn σ H s'→Exc s'.heap e Ce (some dx) (some T) fl→ni (aP X scope cl C N fp s2 H2) pn H e→ni (aP X scope cl C N fp s2 H2) pn H T→W Ce dx σ H→E (.ref e) s'):
  notedBy (model X.prog X.w) X.A (compEnvC scope cl C X.env) E ev s:=by
 obtain⟨e,Ce,dx,T,fl,pins,σ,H,rfl,I,x,hfl,fe,fT,hW⟩:=h
 have J3:=I.stack
 change Heap.FunFrames s.heap _ X.stack at J3
 rw[hst]at J3
 show wpAny (model X.prog X.w) X.A (noteFrame (.ref e) X.env) (fun _ s''=>E (.ref e) s'') E s
 refine Iv (I.ok.frames.trans (congrArg some hst)) J3 hf x (.inl rfl) fun h1 T1 hT1 k1 x1=> ?_
 have TV:ni (aP X scope cl C N fp s2 H2) pins H T1:=by
  rcases hT1 with r | r
  ·exact fT T1 r
  ·refine⟨I.hok.fresh r,Nat.le_trans I.sz r,fun p hp z=> ?_⟩
   have:=Heap.lt_size (I.pin p hp).1
   rw[z]at this
   exact absurd (Nat.lt_of_lt_of_le this r) (Nat.lt_irrefl _)
 have hTt:∀t,T=some t→∃o,h1.get? t=some o:=fun t z=>by
  obtain⟨o,q⟩:=x.here.2 t z
  exact k1.1.2 t o q
 have I1:=I.Ck x fe fT (k1.mono (fs':=frs X.stack) (by rw[hst];exact fun b z=>z)) x1.here.1 hTt
 exact hE e Ce dx T1 _ pins σ H _ I1 x1 fe TV hW
theorem FJ{pins pn:List (Addr×Obj)}{σ σ':St}{H':Hp}{s':Shared}{e Ce dx T:Addr}{fl:Value}{use:Option (Value→Sem Unit)}{Q:Value→Shared→Prop}{acc:Value}(I2:Inv X pins σ H2 s2)(hC:s2.heap.objs.size≤C)(f2:∀b∈fp,Ga X pins H2 b)(hx:Tk X W)
  (Ic:Inv (aP X scope cl C N fp s2 H2) pn σ' H' s') (x:Exc s'.heap e Ce (some dx) (some T) fl) (fe:ni (aP X scope cl C N fp s2 H2) pn H' e) (fT:ni (aP X scope cl C N fp s2 H2) pn H' T) (hW:W Ce dx σ H'):
  compPost (model X.prog X.w) X.A X.xe use Q acc C (.error (.ref e)) s':=by
 obtain⟨m,hn,_⟩:=id Ic.loc
 have I5:Inv X pins σ H' s':=I2.call' (ch:=fp) Ic.os Ic.base Ic.hok Ic.bare fun b hb=>⟨(f2 b hb).2.2.2.1,(f2 b hb).2.1,(f2 b hb).2.2.2.2.1,(f2 b hb).2.2.2.2.2⟩
 have fr:∀a,ni (aP X scope cl C N fp s2 H2) pn H' a→ni X pins H' a:=fun a f=>⟨f.no,Nat.le_trans I2.sz f.new,fun p hp z=>absurd (Nat.lt_of_lt_of_le (Heap.lt_size (I2.pin p hp).1) (z▸f.new)) (Nat.lt_irrefl _)⟩
 have main:∀h',Heap.SameBut C s'.heap h'→∀cenv:Env,cenv.locals=C→wpAny (model X.prog X.w) X.A (PySem.passOn "comprehension.variables-let-go" (.ref e) cenv:Sem Value) (fun _ _=>False) X.xe {s' with heap:=h'}:=by
  intro h' sb cenv _
  have I6:Inv X pins σ H' {s' with heap:=h'}:=I2.letGo I5 hC Ic.free sb
  obtain⟨vs,he,h1,hne,oT,ts,hoT,hd,h3⟩:=x.at_
  have VH:e≠C:=(Ic.uf he rfl).1
  have nTC:T≠C:=(Ic.uf hoT hd).1
  have x6:Exc h' e Ce (some dx) (some T) fl:=⟨⟨vs,(sb.2 e VH).trans he,h1,hne,oT,ts,(sb.2 T nTC).trans hoT,hd,h3⟩⟩
  unfold PySem.passOn
  refine wpAny_bind (wpAny_field ((sb.2 e VH).trans he) rfl h1 ?_)
  rw[if_neg (by simp)]
  refine wpAny_bind (ux (s:={s' with heap:=h'}) x6 fun h2 k2 x2=>wpAny_throw (hx _ _ ?_))
  exact⟨e,Ce,dx,some T,_,pins,σ,H',rfl,I6.Ck x6 (fr e fe) (fun t z=>by cases z;exact fr T fT) (k2.mono (by simp)) x2.here.1 x2.here.2,x2,.inl rfl,fr e fe,fun t z=>by cases z;exact fr T fT,hW⟩
 cases use with
 | none=>exact⟨m,hn,main⟩
 | some u=>exact⟨m,hn,main⟩
end
section
variable{X:Cx}{x:Str}{px:Pos}{elt iter:Expr}{ifs:List Expr}{scope:Scope}{cs:List Str}{js:List Nat}{tt:TT}{te:TE}{pos:Pos}
theorem CN{W':bG}{cl:List (Str×Addr)}{pins:List (Addr×Obj)}{σ:St}{H2:Hp}{s2:Shared}{it:Addr}{fp:List Addr}{tn:Nat→Heap→Prop}{J:It}{Q:VK}{RR:Value→Addr→Result→Shared→Prop}
  (hc:X.calm=true) (hcap:qK X scope cs js) (hst:X.stack=X.env::X.outer) (hf:X.env.frame=some X.env.locals)
  (ht:∀cl C fp s H,Z7 ((aP X scope cl C (x::cs) fp s H).wish (fL (aP X scope cl C (x::cs) fp s H) W')) ifs tt) (he:∀cl C fp s H,PE ((aP X scope cl C (x::cs) fp s H).wish (fL (aP X scope cl C (x::cs) fp s H) W')) elt te)
  (hcell:∀y∈scope.names,y.2≠ .cell) (hkind:scope.kind= .function) (hx:scope.names.lookup x=some .local) (hnd:(x::cs).Nodup)
  (su:∀n c,cl.lookup n=some c→X.env.cells.lookup n=some c) (BV:∀n,(n,NameKind.free)∈scope.names→∃c,cl.lookup n=some c)
  (I2:Inv X pins σ H2 s2) (T:Turn X.prog X.w X.K (.Name x px) J fp it tn) (st2:tn 0 s2.heap) (f2:∀b∈fp,Ga X pins H2 b)
  (W:Nat→Nat→List V→Hp→Prop) (w0:∃m,W 0 m [] H2)
  (step:∀i m ys H,W i m ys H→
   (J.stop i H∧ys.length≤sizeLine∧∀p,H p=none→Q (.ref p) (upd H p (.lst ys)))∨
   (J.go i H∧∃N:List V→Hp→Prop,(∀ys' H',N ys' H'→ys'.length≤sizeLine∧∃m',m'<m∧W (i+1) m' ys' H')∧∀x H',J.Xa i H x H'→tt (some x::caps js σ) H' fun b H2=>
    if b=true then te (some x::caps js σ) H2 fun y H3=>N (ys++[y]) H3 else N ys H2))
  (fin:∀(D C:Addr) (H3:Hp) (s4:Shared) (m':Str→Option Value),Inv X pins σ H3 s4→s4.heap.Ns C m'→s2.heap.objs.size≤C→H3 C=none→Q (.ref D) H3→RR (.ref D) C (.ok .next) s4)
  (alK:∀(D C e Ce dx T':Addr) (fl:Value) (pn:List (Addr×Obj)) (σ':St) (H':Hp) (s':Shared),s2.heap.objs.size≤C→Inv (aP X scope cl C (x::cs) fp s2 H2) pn σ' H' s'→Exc s'.heap e Ce (some dx) (some T') fl→ni (aP X scope cl C (x::cs) fp s2 H2) pn H' e→ni (aP X scope cl C (x::cs) fp s2 H2) pn H' T'→W' Ce dx σ' H'→RR (.ref D) C (.error (.ref e)) s'):
  wpAny (model X.prog X.w) X.A (newList []) (fun acc s3=>wpAny (model X.prog X.w) X.A (newFunctionEnv scope X.env.globals cl [] X.env.qual none .none (some X.env)) (fun cenv s4=>
   codeAny (model X.prog X.w) X.A (.compStart (.ListComp elt [⟨.Name x px,iter,ifs,0⟩] scope pos) 0 (.ref it) acc {cenv with scope:=relabel scope X.env}) (RR acc cenv.locals) s4) X.xe s3) X.xe s2:=by
 refine wpAny_newObj_type (wpAny_newFunctionEnv hcell (by intro y hy;simp at hy) (fun h1 hns hsb=> ?_) hkind)
 dsimp only at hns hsb ⊢
 generalize hP:s2.heap.push {cls:= .type "list",dict:=none,data:= .seq ([]:List Value).toArray}=hq at hns hsb ⊢
 have eC:hq.objs.size=s2.heap.objs.size+1:=by rw[←hP,Heap.size_push]
 generalize eD:s2.heap.objs.size=D at eC ⊢
 generalize eCC:hq.objs.size=C at hns hsb eC ⊢
 have DC:D≠C:=by omega
 have old:∀b o,s2.heap.get? b=some o→h1.get? b=some o:=fun b o e=>by
  have lt: @LT.lt Nat _ b s2.heap.objs.size:=Heap.lt_size e
  exact hsb.extBut b o (fun z=>by subst z;omega) (Heap.get?_push_of_some _ (hP▸Heap.get?_push_of_some _ e))
 have acC:h1.get? D=some {cls:= .type "list",dict:=none,data:= .seq ([]:List Value).toArray}:=hsb.extBut _ _ DC (Heap.get?_push_of_some _ (hP▸eD▸Heap.get?_push_size _ rfl))
 have noD:s2.heap.get? D=none:=Heap.get?_none_of_le (by omega)
 have HD:H2 D=none:=I2.hok.fresh (by omega)
 have HC:H2 C=none:=I2.hok.fresh (by omega)
 have Wl:∀b∈fp,@LT.lt Nat _ b D:=fun b hb=>by
  obtain⟨o,e,_⟩:=T.obj _ _ st2 b hb
  have q: @LT.lt Nat _ b s2.heap.objs.size:=Heap.lt_size e
  omega
 have Dfp:D∉fp:=fun z=>Nat.lt_irrefl _ (Wl D z)
 have abI:∀b∈frs X.stack,@LT.lt Nat _ b D:=fun b hb=>by
  obtain⟨_,o,ho,_⟩:=I2.stack.mem hb
  have q: @LT.lt Nat _ b s2.heap.objs.size:=Heap.lt_size ho
  omega
 have abP:∀y c,cl.lookup y=some c→ @LT.lt Nat _ c D:=fun y c e=>by
  obtain⟨v,z⟩:=I2.cell y c (su y c e)
  have q: @LT.lt Nat _ c s2.heap.objs.size:=z.lt
  omega
 have ok:(aP X scope cl C (x::cs) fp s2 H2).Ok:=by
  refine⟨I2.ok.mod,hkind,I2.ok.glob,I2.ok.blt,(by show s2.heap.objs.size≤C;omega),fun y z c e1 e2=>I2.ok.inj y z c (su y c e1) (su z c e2),fun y hy=>BV y (Jq hcell hy),fun y c e=>(by cases e),I2.ok.hd,I2.ok.frames,.inl rfl,
   fun b hb=>⟨?_,fun y c e=>(f2 b hb).2.2.2.2.1 y c (su y c e)⟩,I2.bs,Nat.le_trans I2.ok.Nh I2.sz,fun b o e hb=> ?_,fun b hb z=> ?_,I2.stack,I2.zP⟩
  ·have q:=Wl b hb
   show b≠C
   intro z
   subst z
   omega
  ·rcases(f2 b hb).2.2.2.1 with z | z
   ·exact I2.ok.JC b o e z
   ·have l: @LT.lt Nat _ b X.base.objs.size:=Heap.lt_size e
    have l2:=I2.ok.Nh
    have l3: @LE.le Nat _ X.s₀.heap.objs.size b:=z
    omega
  ·rcases List.mem_cons.mp (I2.DW b z)with e | e
   ·exact(f2 b hb).2.1 e
   ·exact(f2 b hb).2.2.1 e
 have I0:Inv (aP X scope cl C (x::cs) fp s2 H2) [(D,{cls:= .type "list",dict:=none,data:= .seq ([]:List Value).toArray})] (none::caps js σ) H2 {s2 with heap:=h1,toks:=s2.toks+([]:List (Str×Value)).length}:=by
  refine⟨ok,rfl,I2.bare,Un.kept old,⟨_,hns,fun i y v e1 e2 e3=> ?_⟩,fun y c e=> ?_,HC,fun y c e=>I2.oh y c (su y c e),fun p hp=> ?_,I2.hok.kept old,?_⟩
  ·cases i with
   | zero=>simp at e2
   | succ j=>
    have e1':cs[j]? = some y:=by simpa[aP]using e1
    obtain⟨i0,q1,q2,q3,q4⟩:=hcap.get e1'
    have e2':σ[i0]? = some (some v):=by
     have z:(caps js σ)[j]? = some (some v):=by simpa using e2
     unfold caps at z
     rw[List.getElem?_map,q1]at z
     have z':(σ[i0]?).join=some v:=by simpa using z
     cases r:σ[i0]? with
     | none=>rw[r]at z';cases z'
     | some r'=>rw[r]at z';exact congrArg some z'
    obtain⟨m,_,hl⟩:=I2.loc
    obtain⟨u,r,l⟩:=hl i0 y v q2 e2' (by rcases q4 with q | q;exact .inr (.inl q);exact .inr (.inr q))
    obtain⟨c,hcy⟩:=BV y (PySem.mem_of_lookup q3)
    refine⟨u,r,.inr ⟨Og q3,c,hcy,?_⟩⟩
    rcases l with⟨k,_⟩ | ⟨_,c',ec,o,ho,hd⟩
    ·rcases q4 with q | q<;>rw[q]at k<;>cases k
    ·rw[su y c hcy]at ec
     cases ec
     exact⟨o,old _ _ ho,hd⟩
  ·obtain⟨v,o,ho,hd⟩:=I2.cell y c (su y c e)
   exact⟨v,o,old _ _ ho,hd⟩
  ·have ep:p=(D,{cls:= .type "list",dict:=none,data:= .seq ([]:List Value).toArray}):=by simpa[aP]using hp
   subst ep
   exact⟨acC,HD,(by show D≠C;omega),(fun z=>Nat.lt_irrefl _ (abI D z)),fun v z=>by cases z⟩
  ·show(none::caps js σ).length=(x::cs).length
   unfold caps
   rw[List.length_cons,List.length_cons,List.length_map,hcap.len]
 have stat:∀{pn:List (Addr×Obj)} {H':Hp},(∀b∈fp,H' b=none)→(∀p∈pn,p.1∉fp)→∀b∈fp,Ga (aP X scope cl C (x::cs) fp s2 H2) pn H' b:=fun hn hpn b hb=>
  ⟨hn b hb,(ok.YW b hb).1,ok.J9 b hb,.inl hb,fun y c e=>(ok.YW b hb).2 y c e,fun p hp z=>hpn p (by simpa[aP]using hp) (z▸hb)⟩
 have loop:∀s3:Shared,s3={s2 with heap:=h1,toks:=s2.toks+([]:List (Str×Value)).length}→
   codeAny (model X.prog X.w) X.A (.compLoop (.ListComp elt [⟨.Name x px,iter,ifs,0⟩] scope pos) 0 (.ref it) (.ref D) (compEnvC scope cl C X.env)) (RR (.ref D) C) s3:=by
  rintro s3 rfl
  obtain⟨m0,w0⟩:=w0
  refine Rv (E:=fL (aP X scope cl C (x::cs) fp s2 H2) W') (fun n s=>∃(i:Nat) (ys:List V) (its:List Value) (c:Nat) (H:Hp),Inv (aP X scope cl C (x::cs) fp s2 H2) [(D,{cls:= .type "list",data:= .seq its.toArray c})] (none::caps js σ) H s∧
   tn i s.heap∧(∀b∈fp,H b=none)∧Vals ys its∧W i n ys H) ?_ (fun ev s5 z=>z.abe hst hf fun e Ce dx T' fl pn σ' H' s' i1 i2 i3 i4 i5=>alK D C e Ce dx T' fl pn σ' H' s' (by omega) i1 i2 i3 i4 i5) m0 ⟨0,[],[],0,H2,I0,T.keep _ _ _ st2 fun b _ o e=>old b o e,fun b hb=>(f2 b hb).1,.nil,w0⟩
  rintro n s3 ⟨i,ys,its,c,H3,I3,st3,ZZ,rv,w3⟩
  have pD:∀p∈[((D,{cls:= .type "list",data:= .seq its.toArray c}):Addr×Obj)],p.1∉fp:=fun p hp=>by
   have:p=(D,{cls:= .type "list",data:= .seq its.toArray c}):=by simpa using hp
   subst this
   exact Dfp
  rcases step i n ys H3 w3 with⟨stop,hlen,qn⟩ | ⟨go,N,hN,step⟩
  ·refine jh (T.done (aP X scope cl C (x::cs) fp s2 H2) rfl rfl rfl hc i _ s3 _ H3 (fun _ _=>False) I3 (stat ZZ pD) st3 stop) fun r s4 ⟨hr,I4⟩=> ?_
   subst hr
   obtain⟨gD,nD,_⟩:=I4.pin _ (List.mem_append_right _ List.mem_cons_self)
   obtain⟨m',hn',_⟩:=id I4.loc
   have u4:Un (frs X.stack) fp H2 H3 s2.heap s4.heap:=I4.base
   have k4:ud X.prog X.w (upd H3 D (.lst ys)) s4.heap:=ud.track I4.hok nD ⟨hlen,its,c,rv,gD⟩
   have I5:Inv X pins σ (upd H3 D (.lst ys)) s4:=I2.call' (ch:=fp) I4.os (u4.track noD HD) k4 I4.bare fun b hb=>⟨(f2 b hb).2.2.2.1,(f2 b hb).2.1,(f2 b hb).2.2.2.2.1,(f2 b hb).2.2.2.2.2⟩
   exact fin D C _ s4 m' I5 hn' (by omega) (by rw[bA (Ne.symm DC)];exact I4.free) (qn D nD)
  ·refine jh (T.item (aP X scope cl C (x::cs) fp s2 H2) rfl rfl rfl hc i _ s3 _ H3 (fun _ _=>False) I3 (stat ZZ pD) st3 go) fun r s4 ⟨u,hr,h4⟩=> ?_
   subst hr
   refine jh h4 fun _ s5 ⟨v,H5,I5,r5,y5,Rz,fr5⟩=> ?_
   have I5':=I5.pinned (stat fr5 pD) (T.obj _ _ Rz)
   have hxl:(compEnvC scope cl C X.env).scope.names.lookup x=some .local:=lookup_relabel_local hx
   refine wpAny_assign_Name (uA (X:=aP X scope cl C (x::cs) fp s2 H2) (i:=0) I5' hnd rfl (.inl hxl) r5 (fun s6 I6=> ?_) (.inr hxl))
   have weak:∀{pn:List (Addr×Obj)} {H':Hp} {s':Shared},Inv (aP X scope cl C (x::cs) fp s2 H2) pn (some v::caps js σ) H' s'→Inv (aP X scope cl C (x::cs) fp s2 H2) pn (none::caps js σ) H' s':=fun I'=>
    I'.weak rfl fun j z e=>by
     cases j with
     | zero=>simp at e
     | succ j=>simpa using e
   have Xk:∀{σ':St} {H':Hp} {s':Shared},Inv (aP X scope cl C (x::cs) fp s2 H2) ([(D,{cls:= .type "list",data:= .seq its.toArray c})]++Bs fp s5.heap) σ' H' s'→(∀b∈fp,∀o,s5.heap.get? b=some o→s'.heap.get? b=some o)∧∀b∈fp,H' b=none:=fun I'=>
    ⟨fun b hb o e=>(I'.pin (b,o) (List.mem_append_right _ (List.mem_append_right _ (pG hb e)))).1,fun b hb=>by
     obtain⟨o,e,_⟩:=T.obj _ _ Rz b hb
     exact(I'.pin (b,o) (List.mem_append_right _ (List.mem_append_right _ (pG hb e)))).2.1⟩
   refine jh (ht cl C fp s2 H2 _ s6 (some v::caps js σ) H5 _ (I6.wish _) (step v H5 y5)) fun b s7 ⟨H7,I7',q7⟩=> ?_
   have I7:=I7'.nH
   cases b with
   | false=>
    rw[if_neg Bool.false_ne_true]at q7 ⊢
    obtain⟨_,m',hm,w7⟩:=hN _ _ q7
    exact⟨m',hm,i+1,ys,its,c,H7,weak I7.wY,T.keep _ _ _ Rz (Xk I7).1,(Xk I7).2,rv,w7⟩
   | true=>
    rw[if_pos rfl]at q7 ⊢
    refine jh (he cl C fp s2 H2 _ s7 (some v::caps js σ) H7 _ (I7.wish _) q7) fun yv s8 ⟨y,H8,I8',r8,q8⟩=> ?_
    have I8:=I8'.nH
    obtain⟨hl8,m',hm,w8⟩:=hN _ _ q8
    rw[List.length_append,List.length_singleton]at hl8
    obtain⟨gD,nD,dC,dF,_⟩:=I8.pin (D,{cls:= .type "list",data:= .seq its.toArray c}) (List.mem_append_right _ (List.mem_append_left _ List.mem_cons_self))
    have el:=rv.length
    refine wpAny_list_append_plain (hsz:=by rw[List.size_toArray];omega) ⟨c,gD⟩ fun h9 p9 sb9=> ?_
    obtain⟨c9,g9⟩:=p9
    have g9':h9.get? D=some {cls:= .type "list",data:= .seq (its++[yv]).toArray c9}:=by simpa using g9
    have I9:Inv (aP X scope cl C (x::cs) fp s2 H2) [] (none::caps js σ) H8 {s8 with heap:=h9}:=
     (weak (I8.vD (tV:=[]) (fun p hp=>nomatch hp))).turned (t':=s8.toks) (it:=D) (fun b o hb e=>(sb9.2 b hb).trans e) nD dC (.inr (by show s2.heap.objs.size≤D;omega)) (fun y c e z=>by have q:=abP y c e;subst z;omega) (fun p hp=>nomatch hp)
    refine⟨m',hm,i+1,ys++[y],its++[yv],c9,H8,I9.vD fun p hp=> ?_,?_,(Xk I8).2,rv.append (.cons r8 .nil),w8⟩
    ·have:p=(D,{cls:= .type "list",data:= .seq (its++[yv]).toArray c9}):=by simpa using hp
     subst this
     exact⟨g9',nD,dC,dF,fun v z=>by cases z⟩
    ·exact T.keep _ _ _ Rz fun b hb o e=>(sb9.2 b (fun z=>Dfp (z▸hb))).trans ((Xk I8).1 b hb o e)
 exact codeAny_compStart_list (loop _ rfl) (T.self _ 0 _ _ _ (T.keep _ _ _ st2 fun b _ o e=>old b o e) (loop _ rfl))
end
def NK(js:List Nat)(wi:TI)(tt:bG→TT)(te:bG→TE)(W:bG):TE:=fun σ H Q=>wi σ H fun J H1=>W_ js (tt fun C dx _ H=>W C dx σ H) (te fun C dx _ H=>W C dx σ H) σ Q J H1
section
variable{X:Cx}{x:Str}{px:Pos}{elt iter:Expr}{ifs:List Expr}{scope:Scope}{cs:List Str}{js:List Nat}{pos:Pos}
theorem Vt{wi:TI}{W:bG}{tt:bG→TT}{te:bG→TE}(hW:Tk X W)(hst:X.stack=X.env::X.outer)(hf:X.env.frame=some X.env.locals)(hc:X.calm=true)(cs:List Str)(js:List Nat)(hi:PI X (.Name x px) iter wi)(hcap:qK X scope cs js)(ht:∀cl C fp s H W',Z7 ((aP X scope cl C (x::cs) fp s H).wish (fL (aP X scope cl C (x::cs) fp s H) W')) ifs (tt W'))(he:∀cl C fp s H W',PE ((aP X scope cl C (x::cs) fp s H).wish (fL (aP X scope cl C (x::cs) fp s H) W')) elt (te W'))
  (hall:∀y∈scope.names,y.2= .free→y.1∈cs) (hcell:∀y∈scope.names,y.2≠ .cell) (hnames:∀y∈scope.names,y.2= .local→scope.names.lookup y.1=some .local) (hnd:(x::cs).Nodup)
  (hkind:scope.kind= .function:=by rfl) (hx:scope.names.lookup x=some .local:=by rfl) (hs:∀v,foldedSetIterable iter X.env v=pure v:=by intro _;rfl):
  PE X (.ListComp elt [⟨.Name x px,iter,ifs,0⟩] scope pos) (NK js wi tt te W):=by
 intro pins s σ H Q I h
 obtain⟨cl,O3,su,BV⟩:=vX (env:=X.env) (scope:=scope) fun n hn=>by
  obtain⟨j,hj⟩:=List.getElem?_of_mem (hall _ hn rfl)
  obtain⟨_,_,_,_,k⟩:=hcap.get hj
  exact I.ok.has n k
 rw[eval_ListComp]
 refine wpAny_comprehension_free (use:=none) rfl hs O3 hkind hnames (jh (hi pins s σ H _ I h) fun v s1 h1=>jh h1 fun itv s2 h2=> ?_)
 obtain⟨it,fp,tn,J,H2,e,I2,T,st2,f2,Wi,w0,step⟩:=h2
 subst e
 refine CN (W':=fun C dx _ H=>W C dx σ H) (Q:=Q) (RR:=fun acc C=>compPost (model X.prog X.w) X.A X.xe none (EP X pins σ Q) acc C) hc hcap hst hf (fun cl C fp s H=>ht cl C fp s H _) (fun cl C fp s H=>he cl C fp s H _) hcell hkind hx hnd su BV I2 T st2 f2 Wi w0 step (fun D C H3 s4 m' I4 hn hC hH q=> ?_) fun D C e Ce dx T' fl pn σ' H' s' hC Ic x fe fT w=>FJ I2 hC f2 hW Ic x fe fT w
 exact⟨m',hn,fun h' sb=>⟨.ref D,H3,I2.letGo I4 hC hH sb,rfl,q⟩⟩
theorem Vm{wi:TI}{W:bG}{tt:bG→TT}{te:bG→TE}{y:Str}{py spos:Pos}{k:Nat}(hW:Tk X W)(hst:X.stack=X.env::X.outer)(hf:X.env.frame=some X.env.locals)(hc:X.calm=true)(cs:List Str)(js:List Nat)(hN:X.N.Nodup)(hk:X.N[k]? = some y)(hy:X.env.scope.names.lookup y=some .local)(hi:PI X (.Name x px) iter wi)(hcap:qK X scope cs js)
  (ht:∀cl C fp s H W',Z7 ((aP X scope cl C (x::cs) fp s H).wish (fL (aP X scope cl C (x::cs) fp s H) W')) ifs (tt W')) (he:∀cl C fp s H W',PE ((aP X scope cl C (x::cs) fp s H).wish (fL (aP X scope cl C (x::cs) fp s H) W')) elt (te W'))
  (hall:∀y∈scope.names,y.2= .free→y.1∈cs) (hcell:∀y∈scope.names,y.2≠ .cell) (hnames:∀y∈scope.names,y.2= .local→scope.names.lookup y.1=some .local) (hnd:(x::cs).Nodup)
  (hsw:swapsWith (.ListComp elt [⟨.Name x px,iter,ifs,0⟩] scope pos) (some (.Name y py)) spos.line X.env=pure true:=by rfl)
  (hkind:scope.kind= .function:=by rfl) (hx:scope.names.lookup x=some .local:=by rfl) (hs:∀v,foldedSetIterable iter X.env v=pure v:=by intro _;rfl):
  PS X (.Assign [.Name y py] (.ListComp elt [⟨.Name x px,iter,ifs,0⟩] scope pos) spos) (Xq (NK js wi tt te W) (Hx k)):=by
 intro pins s σ H D I h
 obtain⟨cl,O3,su,BV⟩:=vX (env:=X.env) (scope:=scope) fun n hn=>by
  obtain⟨j,hj⟩:=List.getElem?_of_mem (hall _ hn rfl)
  obtain⟨_,_,_,_,k⟩:=hcap.get hj
  exact I.ok.has n k
 rw[exec_Assign_Name_used _ _ _ _ hsw]
 refine wpAny_bind (wpAny_standAt (wpAny_bind ?_))
 show wpAny _ X.A (do let _ ←comprehension (.ListComp elt [⟨.Name x px,iter,ifs,0⟩] scope pos) scope X.env _ (newList []) false (eval iter X.env) (some (assign (.Name y py) X.env))) _ _ s
 refine wpAny_bind (jh (wpAny_comprehension_free (use:=some (assign (.Name y py) X.env)) (Q:=fun _ s'=>SP X pins D .next s') rfl hs O3 hkind hnames (jh (hi pins s σ H _ I h) fun v s1 h1=>jh h1 fun itv s2 h2=> ?_)) (fun _ s' q=>wpAny_pure (wpAny_pure q)))
 obtain⟨it,fp,tn,J,H2,e,I2,T,st2,f2,Wi,w0,step⟩:=h2
 subst e
 refine CN (W':=fun C dx _ H=>W C dx σ H) (Q:=fun x H1=>Hx k x σ H1 D.nx) (RR:=fun acc C=>compPost (model X.prog X.w) X.A X.xe (some (assign (.Name y py) X.env)) (fun _ s'=>SP X pins D .next s') acc C) hc hcap hst hf (fun cl C fp s H=>ht cl C fp s H _) (fun cl C fp s H=>he cl C fp s H _) hcell hkind hx hnd su BV I2 T st2 f2 Wi w0 step (fun D' C H3 s4 m' I4 hn hC hH q=> ?_) fun D C e Ce dx T' fl pn σ' H' s' hC Ic x fe fT w=>FJ I2 hC f2 hW Ic x fe fT w
 show wpAny _ X.A (assign (.Name y py) X.env (.ref D')) _ _ _
 refine wpAny_assign_Name (Bd (v:= .ref D') I4 hN hk (.inl hy) rfl (fun s5 I5 ⟨a,sb,ha⟩=> ?_) (.inr hy))
 have VH:C≠a:=by
  rcases ha with e | e
  ·rw[e];exact Nat.ne_of_gt (Nat.lt_of_lt_of_le I2.lt hC)
  ·intro z
   obtain⟨v,q⟩:=I2.cell y a e
   exact absurd (Nat.lt_of_lt_of_le q.lt (by rw[←z];exact hC)) (Nat.lt_irrefl _)
 exact⟨m',hn.sameBut sb VH,fun h' sb'=>⟨_,H3,I2.letGo I5 hC hH sb',q⟩⟩
end
end L2
namespace L2
open PySem PySem.Spec PyProof.Rows
def aj1:V→Option Int→Option Int→Hp→VK→Prop:=fun x lo hi H Q=>∃u,x= .str u∧u.length≤sizeLine∧Q (.str (Txt.slice u lo hi)) H
theorem aak{X:Cx}:Z6 X aj1:=by
 intro pins s σ H x v vl vu lo hi sl Q I rx hs pl pu h
 obtain⟨u,rfl,hz,q⟩:=h
 obtain⟨t,rfl⟩:=rx
 have fin:∀(t':Tok) (k:Nat),EP X pins σ Q (.str (Txt.slice u lo hi) t') {s with toks:=k}:=fun t' k=>⟨.str _,H,I.tok k,⟨t',rfl⟩,q⟩
 refine⟨"str",_,F.slot_str_getitem.lookup,typeIs_str _ _ _,?_⟩
 cases pl with
 | none=>
  cases pu with
  | none=>exact wpAny_getItem_str_slice (l:=none) (u:=none) (st:=none) hs rfl (post_val_or_str ⟨Nat.le_trans (Txt.slice_le u _ _) hz,fin⟩)
  | int j uj=>exact wpAny_getItem_str_slice (l:=none) (u:=some (j,uj)) (st:=none) hs rfl (post_val_or_str ⟨Nat.le_trans (Txt.slice_le u _ _) hz,fin⟩)
 | int i ui=>
  cases pu with
  | none=>exact wpAny_getItem_str_slice (l:=some (i,ui)) (u:=none) (st:=none) hs rfl (post_val_or_str ⟨Nat.le_trans (Txt.slice_le u _ _) hz,fin⟩)
  | int j uj=>exact wpAny_getItem_str_slice (l:=some (i,ui)) (u:=some (j,uj)) (st:=none) hs rfl (post_val_or_str ⟨Nat.le_trans (Txt.slice_le u _ _) hz,fin⟩)
theorem Nz{n:Nat}(h:n≤1000000):Builtin.Str.tooLong n=false:=by
 unfold Builtin.Str.tooLong
 exact decide_eq_false (by have:(1000000:Nat)≤sizeLine:=by decide
                           omega)
theorem mulOk_of{x:Str}{n:Int}(hx:x.length≤1000)(h0: -(2 ^ 62)<n)(h1:n≤1000):MulOk x n:=by
 refine⟨?_,?_,?_⟩
 ·rw[decide_eq_false (by omega),decide_eq_false (by omega)];rfl
 ·intro a b
  have:(1000:Int)≤(2 ^ 63 - 1) / n:=by
   rw[Int.le_ediv_iff_mul_le (by omega)]
   omega
  omega
 ·intro a b
  refine Nz ?_
  have:n.toNat≤1000:=by omega
  calc x.length*n.toNat≤1000*1000:=Nat.mul_le_mul hx this
   _≤1000000:=by decide
theorem Ol{X:Cx}:wX X (binaryOp .Mult) (fun x y H Q=>∃i j,x= .str i∧y= .int j∧MulOk i j∧Q (.str (PySem.Txt.mul i j)) H):=by
 intro pins s σ H x y v u Q I rx ry h
 obtain⟨i,j,rfl,rfl,hz,q⟩:=h
 obtain⟨t,rfl⟩:=rx
 obtain⟨t',rfl⟩:=ry
 exact SB.mul hz (fun t' tk=>⟨.str (PySem.Txt.mul i j),H,I.tok _,⟨_,rfl⟩,q⟩)
end L2
namespace L2
open PySem PySem.Spec PyProof.Rows
section
variable{X:Cx}
def al7(H:Hp)(a:Addr)(y:V)(o:Option V)(H':Hp):Prop:=(GX H a y o∧H'=H)∨(H a=some (.dK [])∧(∃(k:List Key) (b:Addr),y= .ref b∧H b=some (.tup (k.map kV)))∧o=none∧H'=upd H a (.dT []))
def adN:R2:=fun x y H Q=>∃a v,x= .ref a∧GX H a y (some v)∧Q v H
theorem YG(hu:X.A.units+1<cLine):Zt X adN:=by
 intro value slice pins s σ H x y v u Q I rx ry h hs
 obtain⟨a,d,rfl,g,q⟩:=h
 obtain rfl:v=Value.ref a:=rx
 exact tail_any (Mm I g) PySem.F.slot_dict_getitem.lookup (Tf hu I g ry fun w' s' I' rw'=>⟨d,H,I',rw',q⟩) hs
section
variable{o e f i value:Expr}{apos cpos pos pos':Pos}{td ty tx tv:TE}
end
end
section
variable{prog:Program}{w:World}{A:Around}{E:Value→Shared→Prop}{s:Shared}{κ:Type}[DecidableEq κ]{knd:HeapKind prog w κ}{a:Addr}{xs:List (κ×Addr×Value)}
theorem OD(hd:(a==sysModules)=false):MeetsIn prog w (Builtin.«dict.__len__» ⟨[.ref a],[]⟩) (fun _ R t=>∃ys:List (κ×Addr×Value),t.heap.DictOfH knd a ys∧R (.ok (.ret (.int ys.length t.toks))) {t with toks:=t.toks+1}):=
 .of_wp fun A R t ⟨ys,hm,q⟩=>by
  obtain⟨o,es,ep,e1,_,e2,e3,_⟩:=hm
  show wpAny _ _ (dictSize a >>= _) _ _ t
  unfold dictSize
  refine wpAny_bind (wpAny_bind (wpAny_dictEntries e1 e2 (wpAny_pure ?_)))
  show wpAny _ _ (Builtin.Dict.pendingCount a >>= _) _ _ t
  refine wpAny_bind (wpAny_pendingCount_other hd (wpAny_ret_mkInt ?_))
  have sz:es.size=ys.length:=by rw[←Array.length_toList,e3,List.length_map]
  rw[Nat.add_zero,sz]
  exact q
theorem alb{Q:Value→Shared→Prop}(hd:(a==sysModules)=false)(hm:s.heap.DictOfH knd a xs)(hz:(xs.length:Int)<2 ^ 63)(q:Q (.int xs.length (s.toks+1)) {s with toks:=s.toks+1+1}):wpAny (model prog w) A (call (.builtin "len") [.ref a]) Q E s:=by
 refine Calls.call_function_entry kind_len plain_len entry_len (args_len1 _) ?_
 unfold Builtin.«len»
 refine wpAny_bind (m:=oneArg "len" _) (wpAny_pure (wpAny_bind (m:=callSpecial? (.ref a) (Str.ofString "__len__")) ?_))
 refine wpAny_callSpecial?_slot (name:=Str.ofString "__len__") hm.typeIs F.slot_dict_len (call_meetsIn F.slot_dict_len hm.typeIs F.entry_dict_len (F.args_dict_len_1 _) (OD (knd:=knd) hd) ⟨xs,hm,?_⟩)
 show wpAny (model prog w) _ _ _ _ {s with toks:=s.toks+1}
 refine wpAny_bind (wpAny_holding (wpAny_pure (wpAny_bind (wpAny_letGo ?_))))
 show wpAny (model prog w) _ (if((xs.length:Nat):Int)<0 then _ else _) _ _ _
 rw[if_neg (by omega)]
 show wpAny (model prog w) _ (if((xs.length:Nat):Int)≥2 ^ 63 then _ else _) _ _ _
 rw[if_neg (by omega)]
 exact wpAny_bind (wpAny_mkInt (wpAny_pure ⟨_,rfl,q⟩))
end
theorem Tn{X:Cx}:o6 X (.builtin "len") (fun xs H Q=>∃a kvs,xs=[V.ref a]∧H a=some (.dT kvs)∧Q (.int kvs.length) H):=by
 intro pins s σ H xs us Q I r h
 obtain⟨a,kvs,rfl,ha,q⟩:=h
 obtain⟨u,rfl,ru⟩:=vals1 r
 cases ru
 obtain⟨z,hd,ys,rel,dd⟩:=afN I.hok ha
 have hl:=Paired.length rel
 refine alb hd dd (by rw[←hl];rw[sizeLine_eq]at z;omega) ⟨.int kvs.length,H,I.tok _,⟨_,by rw[hl]⟩,q⟩
end L2
namespace L2
open PySem PySem.W PyProof.Rows
section
variable{n:Nat}{O:KeyOrd}{k:Nat→O.α}
def kk(k:Nat→O.α)(p:Array Nat)(i:Nat):O.α:=k (p.getD i 0)
def Up(k:Nat→O.α)(p:Array Nat)(m:Nat):Prop:=∀i j,i≤j→j<m→O.kle (kk k p i) (kk k p j)
def Dn(k:Nat→O.α)(p:Array Nat)(m:Nat):Prop:=∀i j,i≤j→j<m→O.kle (kk k p j) (kk k p i)
theorem Up.more{p:Array Nat}{m:Nat}(h:Up (O:=O) k p m)(h1:1≤m)(e:O.kle (kk k p (m - 1)) (kk k p m)):Up k p (m+1):=fun i j a b=>by
 rcases Nat.lt_or_ge j m with q | q
 ·exact h i j a q
 ·obtain rfl:j=m:=by omega
  rcases Nat.lt_or_ge i j with z | z
  ·exact KeyOrd.kle_trans (h i (j - 1) (by omega) (by omega)) e
  ·obtain rfl:i=j:=by omega
   exact O.irrefl _
theorem Dn.more{p:Array Nat}{m:Nat}(h:Dn (O:=O) k p m)(h1:1≤m)(e:O.kle (kk k p m) (kk k p (m - 1))):Dn k p (m+1):=fun i j a b=>by
 rcases Nat.lt_or_ge j m with q | q
 ·exact h i j a q
 ·obtain rfl:j=m:=by omega
  rcases Nat.lt_or_ge i j with z | z
  ·exact KeyOrd.kle_trans e (h i (j - 1) (by omega) (by omega))
  ·obtain rfl:i=j:=by omega
   exact O.irrefl _
end
end L2
namespace L2
open PySem PySem.Spec PySem.W PyProof.Rows
def aje(s:Str):List Int:=s.cps.toList.map Int.ofNat++[-1]
def Kin(c d:List Int):Prop:=∀r r':List Int,HT.lexLt (c++r) (d++r')=if c=d then HT.lexLt r r' else HT.lexLt c d
theorem Du:∀{c d:List Int},c.length=d.length→Kin c d
 | [],[],_=>fun r r'=>by rw[if_pos rfl];rfl
 | [],_::_,h=>by cases h
 | _::_,[],h=>by cases h
 | x::c,y::d,h=>fun r r'=>by
  have ih:=Du (c:=c) (d:=d) (by simpa using h) r r'
  rw[List.cons_append,List.cons_append,HT.dI,HT.dI]
  by_cases e:x=y
  ·subst e
   rw[if_pos rfl,if_pos rfl,ih]
   by_cases q:c=d
   ·rw[if_pos q,if_pos (by rw[q])]
   ·rw[if_neg q,if_neg (fun z=>q (by injection z))]
  ·rw[if_neg e,if_neg e,if_neg (fun z=>e (by injection z))]
theorem QJ:∀(a b:List Nat),Kin (a.map Int.ofNat++[-1]) (b.map Int.ofNat++[-1])∧HT.lexLt (a.map Int.ofNat++[-1]) (b.map Int.ofNat++[-1])=decide (a<b)∧(a.map Int.ofNat++[-1]=b.map Int.ofNat++[-1]→a=b)
 | [],[]=>⟨Du rfl,by simp[HT.lexLt],fun _=>rfl⟩
 | [],y::b=>by
  have e:(-1:Int)≠Int.ofNat y:=by simp
  have l:(-1:Int)<Int.ofNat y:=by simp;omega
  refine⟨fun r r'=> ?_,?_,fun h=> ?_⟩
  ·simp only[List.map_nil,List.nil_append,List.map_cons,List.cons_append]
   rw[HT.dI,HT.dI,if_neg e,if_neg e,if_neg (fun z=>e (by injection z))]
  ·simp only[List.map_nil,List.nil_append,List.map_cons,List.cons_append]
   rw[HT.dI,if_neg e,decide_eq_true l]
   simp
  ·simp only[List.map_nil,List.nil_append,List.map_cons,List.cons_append]at h
   exact absurd (by injection h) e
 | x::a,[]=>by
  have e:Int.ofNat x≠(-1:Int):=by simp
  have l:¬Int.ofNat x<(-1:Int):=by simp
  refine⟨fun r r'=> ?_,?_,fun h=> ?_⟩
  ·simp only[List.map_nil,List.nil_append,List.map_cons,List.cons_append]
   rw[HT.dI,HT.dI,if_neg e,if_neg e,if_neg (fun z=>e (by injection z))]
  ·simp only[List.map_nil,List.nil_append,List.map_cons,List.cons_append]
   rw[HT.dI,if_neg e,decide_eq_false l]
   simp
  ·simp only[List.map_nil,List.nil_append,List.map_cons,List.cons_append]at h
   exact absurd (by injection h) e
 | x::a,y::b=>by
  obtain⟨k,l,i⟩:=QJ a b
  by_cases e:x=y
  ·subst e
   refine⟨fun r r'=> ?_,?_,fun h=> ?_⟩
   ·simp only[List.map_cons,List.cons_append]
    rw[HT.dI,HT.dI,if_pos rfl,if_pos rfl,k]
    by_cases q:a.map Int.ofNat++[-1]=b.map Int.ofNat++[-1]
    ·rw[if_pos q,if_pos (by rw[q])]
    ·rw[if_neg q,if_neg (fun z=>q (by injection z))]
   ·simp only[List.map_cons,List.cons_append]
    rw[HT.dI,if_pos rfl,l]
    simp
   ·simp only[List.map_cons,List.cons_append]at h
    rw[i (by injection h)]
  ·have e':Int.ofNat x≠Int.ofNat y:=fun z=>e (Int.ofNat.inj z)
   refine⟨fun r r'=> ?_,?_,fun h=> ?_⟩
   ·simp only[List.map_cons,List.cons_append]
    rw[HT.dI,HT.dI,if_neg e',if_neg e',if_neg (fun z=>e' (by injection z))]
   ·simp only[List.map_cons,List.cons_append]
    rw[HT.dI,if_neg e']
    have:(Int.ofNat x<Int.ofNat y)↔x<y:=by simp
    simp[List.cons_lt_cons_iff,e]
   ·simp only[List.map_cons,List.cons_append]at h
    exact absurd (by injection h) e'
inductive Part (K:PySem.W.Frag) (H:Hp):V→List Int→Nat→Prop
 | int (i:Int):Part K H (.int i) [i] 0
 | str (x:Str):Part K H (.str x) (aje x) 1
 | tup {a:Addr} {ns:List Int}:H a=some (.tup (ns.map V.int))→Part K H (.ref a) ns (ns.length+2)
theorem Part.kin{K:PySem.W.Frag}{H:Hp}{x y:V}{c d:List Int}{k:Nat}(h:Part K H x c k)(h':Part K H y d k):Kin c d:=by
 cases h with
 | int i=>cases h' with
  | int j=>exact Du rfl
 | str a=>cases h' with
  | str b=>exact(QJ _ _).1
 | tup e=>
  generalize hk:_+2=k' at h'
  cases h' with
  | int j=>omega
  | str b=>omega
  | tup e'=>exact Du (by omega)
section
variable{X:Cx}{pins:List (Addr×Obj)}{σ:St}{H:Hp}{s:Shared}{A:Around}{E:Value→Shared→Prop}
end
end L2
namespace L2
open PySem PySem.Spec PySem.W PyProof.Rows
section
variable{X:Cx}{pins:List (Addr×Obj)}{σ:St}{H:Hp}{s:Shared}{A:Around}{E:Value→Shared→Prop}
end
end L2
namespace L2
open PySem PySem.Spec PySem.W PySem.Calls PyProof.Rows
section
variable{prog:Program}{w:World}{A:Around}{E:Value→Shared→Prop}{s:Shared}
end
end L2
namespace L2
open PySem PySem.Spec PySem.W PySem.Calls PyProof.Rows
section
variable{X:Cx}{pins:List (Addr×Obj)}{σ:St}{H:Hp}{s:Shared}{A:Around}{E:Value→Shared→Prop}
end
end L2
namespace L2
open PySem PySem.Spec PyProof.Rows
section
variable{X:Cx}{tg elt iter:Expr}{ifs:List Expr}{scope:Scope}{xs cs:List Str}{js:List Nat}{tt:TT}{te:TE}{pos:Pos}
end
end L2
namespace L2
open PySem PySem.Spec PySem.W PySem.Calls PyProof.Rows
section
variable{X:Cx}{pins:List (Addr×Obj)}{σ:St}{H:Hp}{s:Shared}
end
end L2
namespace S
open PySem PySem.Spec PyProof.Rows L2
inductive D where
 | non | bl (b:Bool) | int (i:Int) | str (x:Str) | tup (ds:List D) | ref (n:Nat) | cl (ds:List D) | ty (n:String) | cls (c:Nat) | exc (c:Nat) (d:D)
inductive MO where
 | lst (ds:List D) | ins (c:Nat) (fs:List (Str×D)) | dk (kvs:List (Key×D)) | dt (kvs:List (List Key×D))
abbrev St:=L2.St
abbrev Mem:=List MO
abbrev Sl:=List (Option D)
inductive Out (α:Type) where
 | ok (a:α) (M:Mem)
 | exc (c:Nat) (d:D) (M:Mem)
 | bad
def Out.bind{α β:Type}(o:Out α)(f:α→Mem→Out β):Out β:=match o with
 | .ok a M=>f a M
 | .exc c d M=> .exc c d M
 | .bad=> .bad
@[simp] theorem Out.lJ{α β:Type}(c:Nat)(d:D)(M:Mem)(f:α→Mem→Out β):(Out.exc c d M:Out α).bind f= .exc c d M:=id rfl
@[simp] theorem Out.fH{α β:Type}(a:α)(M:Mem)(f:α→Mem→Out β):(Out.ok a M).bind f=f a M:=id rfl
@[simp] theorem Out.jm{α β:Type}(f:α→Mem→Out β):(Out.bad:Out α).bind f= .bad:=id rfl
def Z9(K:PySem.W.Frag)(H:Hp)(a:Addr)(xs:List V):Prop:=(∃o,H a=some (.zF o (.lst xs)))∨
 ∃(o:Obj) (its:Array Value) (n:Nat),K.lookup a=some o∧o.cls= .type "list" ∧ o.dict=none∧o.data= .seq its n∧its.size≤sizeLine∧Vals xs its.toList
theorem Z9.sq{K:PySem.W.Frag}{H:Hp}{a:Addr}{xs:List V}(h:Z9 K H a xs):yQ K H a xs:=h.elim (fun z=> .inl (.inr z)) .inr
mutual
inductive DV (K:PySem.W.Frag) (ct ι:Nat→Addr) (n:Nat) (H:Hp):D→V→Prop
 | non:DV K ct ι n H .non .non
 | bl (b:Bool):DV K ct ι n H (.bl b) (.bl b)
 | int (i:Int):DV K ct ι n H (.int i) (.int i)
 | str (x:Str):DV K ct ι n H (.str x) (.str x)
 | tup {a:Addr} {xs:List V} {ds:List D}:H a=some (.tup xs)→o5 K ct ι n H ds xs→DV K ct ι n H (.tup ds) (.ref a)
 | ref {i:Nat}:i<n→DV K ct ι n H (.ref i) (.ref (ι i))
 | cl {a:Addr} {xs:List V} {ds:List D}:Z9 K H a xs→o5 K ct ι n H ds xs→DV K ct ι n H (.cl ds) (.ref a)
 | ty (s:String):DV K ct ι n H (.ty s) (.ty s)
 | cls (c:Nat):DV K ct ι n H (.cls c) (.ref (ct c))
 | exc {a dx:Addr} {c:Nat} {d:D} {v:V}:H a=some (xC a (ct c) dx)→H dx=some (.xd [("at",v)])→DV K ct ι n H d v→DV K ct ι n H (.exc c d) (.ref a)
inductive o5 (K:PySem.W.Frag) (ct ι:Nat→Addr) (n:Nat) (H:Hp):List D→List V→Prop
 | nil:o5 K ct ι n H [] []
 | cons {d:D} {x:V} {ds:List D} {xs:List V}:DV K ct ι n H d x→o5 K ct ι n H ds xs→o5 K ct ι n H (d::ds) (x::xs)
end
structure Ext(K:PySem.W.Frag)(ι:Nat→Addr)(n:Nat)(H:Hp)(ι':Nat→Addr)(n':Nat)(H':Hp):Prop where
 tup:∀a xs,H a=some (.tup xs)→H' a=some (.tup xs)
 zF:∀a xs,Z9 K H a xs→Z9 K H' a xs
 ex:∀a φ,H a=some (.ext φ)→H' a=some (.ext φ)
 xd:∀a fs,H a=some (.xd fs)→H' a=some (.xd fs)
 le:n≤n'
 same:∀i,i<n→ι' i=ι i
theorem Ext.refl{K:PySem.W.Frag}{ι:Nat→Addr}{n:Nat}{H:Hp}:Ext K ι n H ι n H:=⟨fun _ _ h=>h,fun _ _ h=>h,fun _ _ h=>h,fun _ _ h=>h,Nat.le_refl _,fun _ _=>rfl⟩
theorem Ext.trans{K:PySem.W.Frag}{ι gK mz:Nat→Addr}{n n1 n2:Nat}{H H1 H2:Hp}(a:Ext K ι n H gK n1 H1)(b:Ext K gK n1 H1 mz n2 H2):Ext K ι n H mz n2 H2:=
 ⟨fun x xs h=>b.tup x xs (a.tup x xs h),fun x xs h=>b.zF x xs (a.zF x xs h),fun x xs h=>b.ex x xs (a.ex x xs h),fun x xs h=>b.xd x xs (a.xd x xs h),Nat.le_trans a.le b.le,fun i hi=>(b.same i (Nat.lt_of_lt_of_le hi a.le)).trans (a.same i hi)⟩
mutual
theorem DV.mono{K:PySem.W.Frag}{ct ι ι':Nat→Addr}{n n':Nat}{H H':Hp}(e:Ext K ι n H ι' n' H'):∀{d:D} {v:V},DV K ct ι n H d v→DV K ct ι' n' H' d v
 | _,_,.non=> .non
 | _,_,.bl b=> .bl b
 | _,_,.int i=> .int i
 | _,_,.str x=> .str x
 | _,_,.tup h hs=> .tup (e.tup _ _ h) (o5.mono e hs)
 | _,_,.ref (i:=i) h=>by rw[←e.same i h];exact .ref (Nat.lt_of_lt_of_le h e.le)
 | _,_,.cl h hs=> .cl (e.zF _ _ h) (o5.mono e hs)
 | _,_,.ty s=> .ty s
 | _,_,.cls c=> .cls c
 | _,_,.exc h1 h2 h3=> .exc (e.ex _ _ h1) (e.xd _ _ h2) (DV.mono e h3)
theorem o5.mono{K:PySem.W.Frag}{ct ι ι':Nat→Addr}{n n':Nat}{H H':Hp}(e:Ext K ι n H ι' n' H'):∀{ds:List D} {vs:List V},o5 K ct ι n H ds vs→o5 K ct ι' n' H' ds vs
 | _,_,.nil=> .nil
 | _,_,.cons h hs=> .cons (DV.mono e h) (o5.mono e hs)
end
section
variable{K:PySem.W.Frag}{ct ι:Nat→Addr}{n:Nat}{H:Hp}
theorem o5.length:∀{ds:List D} {vs:List V},o5 K ct ι n H ds vs→vs.length=ds.length
 | _,_,.nil=>rfl
 | _,_,.cons _ h=>congrArg (· + 1) h.length
theorem o5.at:∀{ds:List D} {vs:List V} {i:Nat} {d:D},o5 K ct ι n H ds vs→ds[i]? = some d→∃v,vs[i]? = some v∧DV K ct ι n H d v
 | _,_,_,_,.nil,e=>by simp at e
 | _,_,0,_,.cons h _,e=>by simp at e;subst e;exact⟨_,rfl,h⟩
 | _,_,i+1,_,.cons _ hs,e=>by simpa using hs.at (i:=i) (by simpa using e)
theorem o5.append:∀{ds es:List D} {vs ws:List V},o5 K ct ι n H ds vs→o5 K ct ι n H es ws→o5 K ct ι n H (ds++es) (vs++ws)
 | _,_,_,_,.nil,h=>h
 | _,_,_,_,.cons h hs,h'=> .cons h (hs.append h')
theorem o5.take:∀{ds:List D} {vs:List V} (k:Nat),o5 K ct ι n H ds vs→o5 K ct ι n H (ds.take k) (vs.take k)
 | _,_,0,_=>by simp;exact .nil
 | _,_,_+1,.nil=>by simp;exact .nil
 | _,_,k+1,.cons h hs=>by simp;exact .cons h (hs.take k)
theorem o5.drop:∀{ds:List D} {vs:List V} (k:Nat),o5 K ct ι n H ds vs→o5 K ct ι n H (ds.drop k) (vs.drop k)
 | _,_,0,h=>by simpa using h
 | _,_,_+1,.nil=>by simp;exact .nil
 | _,_,k+1,.cons _ hs=>by simp;exact hs.drop k
end
inductive Nm (K:PySem.W.Frag) (ct ι:Nat→Addr) (n:Nat) (H:Hp):List (Str×D)→List (Str×V)→Prop
 | nil:Nm K ct ι n H [] []
 | cons {x:Str} {d:D} {v:V} {fs:List (Str×D)} {vs:List (Str×V)}:DV K ct ι n H d v→Nm K ct ι n H fs vs→Nm K ct ι n H ((x,d)::fs) ((x,v)::vs)
theorem Nm.mono{K:PySem.W.Frag}{ct ι ι':Nat→Addr}{n n':Nat}{H H':Hp}(e:Ext K ι n H ι' n' H'):∀{fs:List (Str×D)} {vs:List (Str×V)},Nm K ct ι n H fs vs→Nm K ct ι' n' H' fs vs
 | _,_,.nil=> .nil
 | _,_,.cons h hs=> .cons (h.mono e) (hs.mono e)
def putD(f:Str)(d:D):List (Str×D)→List (Str×D)
 | []=>[(f,d)]
 | (x,e)::r=>if x=f then(x,d)::r else(x,e)::putD f d r
section
variable{K:PySem.W.Frag}{ct ι:Nat→Addr}{n:Nat}{H:Hp}
theorem Nm.length:∀{fs:List (Str×D)} {vs:List (Str×V)},Nm K ct ι n H fs vs→vs.length=fs.length
 | _,_,.nil=>rfl
 | _,_,.cons _ h=>congrArg (· + 1) h.length
theorem Nm.look{x:Str}:∀{fs:List (Str×D)} {vs:List (Str×V)} {d:D},Nm K ct ι n H fs vs→fs.lookup x=some d→∃v,vs.lookup x=some v∧DV K ct ι n H d v
 | _,_,_,.nil,e=>by simp at e
 | _,_,d,.cons (x:=y) h hs,e=>by
  rw[List.lookup_cons]at e ⊢
  cases z:x==y with
  | true=>rw[z]at e;exact⟨_,rfl,by cases e;exact h⟩
  | false=>rw[z]at e;exact hs.look e
theorem Nm.ZS{x:Str}:∀{fs:List (Str×D)} {vs:List (Str×V)},Nm K ct ι n H fs vs→fs.lookup x=none→vs.lookup x=none
 | _,_,.nil,_=>rfl
 | _,_,.cons (x:=y) h hs,e=>by
  rw[List.lookup_cons]at e ⊢
  cases z:x==y with
  | true=>rw[z]at e;cases e
  | false=>rw[z]at e;exact hs.ZS e
end
inductive TY (K:PySem.W.Frag) (ct ι:Nat→Addr) (n:Nat) (H:Hp) {κ:Type}:List (κ×D)→List (κ×V)→Prop
 | nil:TY K ct ι n H [] []
 | cons {x:κ} {d:D} {v:V} {fs:List (κ×D)} {vs:List (κ×V)}:DV K ct ι n H d v→TY K ct ι n H fs vs→TY K ct ι n H ((x,d)::fs) ((x,v)::vs)
theorem TY.mono{K:PySem.W.Frag}{ct ι ι':Nat→Addr}{n n':Nat}{H H':Hp}(e:Ext K ι n H ι' n' H'){κ:Type}:∀{fs:List (κ×D)} {vs:List (κ×V)},TY K ct ι n H fs vs→TY K ct ι' n' H' fs vs
 | _,_,.nil=> .nil
 | _,_,.cons h hs=> .cons (h.mono e) (hs.mono e)
theorem TY.length{K:PySem.W.Frag}{ct ι:Nat→Addr}{n:Nat}{H:Hp}{κ:Type}:∀{fs:List (κ×D)} {vs:List (κ×V)},TY K ct ι n H fs vs→vs.length=fs.length
 | _,_,.nil=>rfl
 | _,_,.cons _ h=>congrArg (· + 1) h.length
def OR(K:PySem.W.Frag)(ct ι:Nat→Addr)(n:Nat)(H:Hp)(a:Addr):MO→Prop
 | .lst ds=>∃vs,H a=some (.lst vs)∧o5 K ct ι n H ds vs
 | .ins c fs=>∃dx vs,H a=some (.ins (ct c) dx vs)∧Nm K ct ι n H fs vs
 | .dk kvs=>∃vs,H a=some (.dK vs)∧TY K ct ι n H kvs vs
 | .dt kvs=>∃vs,H a=some (.dT vs)∧TY K ct ι n H kvs vs
structure Rl(K:PySem.W.Frag)(ct ι:Nat→Addr)(M:Mem)(H:Hp):Prop where
 inj:∀i j,i<M.length→j<M.length→ι i=ι j→i=j
 obj:∀(i:Nat) (o:MO),M[i]? = some o→OR K ct ι M.length H (ι i) o
structure Ws(K:PySem.W.Frag)(ct ι:Nat→Addr)(e:Sl)(M:Mem)(σ:St)(H:Hp):Prop where
 rl:Rl K ct ι M H
 len:σ.length=e.length
 env:∀(i:Nat) (d:D),e[i]? = some (some d)→∃v,σ[i]? = some (some v)∧DV K ct ι M.length H d v
section
variable{K:PySem.W.Frag}{ct ι:Nat→Addr}{M:Mem}{H:Hp}
theorem OR.some{a:Addr}{n:Nat}{o:MO}(h:OR K ct ι n H a o):∃u,H a=some u:=by
 cases o with
 | lst ds=>obtain⟨vs,e,_⟩:=h;exact⟨_,e⟩
 | ins c fs=>obtain⟨dx,vs,e,_⟩:=h;exact⟨_,e⟩
 | dk kvs=>obtain⟨vs,e,_⟩:=h;exact⟨_,e⟩
 | dt kvs=>obtain⟨vs,e,_⟩:=h;exact⟨_,e⟩
theorem J7{p:Addr}{o:HO}(hp:∀b u,H p≠some (.zF b u)){a:Addr}{xs:List V}(h:Z9 K H a xs):Z9 K (upd H p o) a xs:=by
 rcases h with⟨b,h⟩ | h
 ·have ne:a≠p:=fun e=>by subst e;exact hp _ _ h
  exact .inl ⟨b,by rw[bA ne];exact h⟩
 ·exact .inr h
theorem VF{p:Addr}(hp:H p=none):∀b u,H p≠some (.zF b u):=fun b u h=>by rw[hp]at h;cases h
theorem OR.keep{ι':Nat→Addr}{n n':Nat}{H':Hp}{a a':Addr}{o:MO}(e:Ext K ι n H ι' n' H')(ea:a'=a)(hh:H' a=H a)(h:OR K ct ι n H a o):OR K ct ι' n' H' a' o:=by
 subst ea
 cases o with
 | lst ds=>obtain⟨vs,q,r⟩:=h;exact⟨vs,by rw[hh];exact q,r.mono e⟩
 | ins c fs=>obtain⟨dx,vs,q,r⟩:=h;exact⟨dx,vs,by rw[hh];exact q,r.mono e⟩
 | dk kvs=>obtain⟨vs,q,r⟩:=h;exact⟨vs,by rw[hh];exact q,r.mono e⟩
 | dt kvs=>obtain⟨vs,q,r⟩:=h;exact⟨vs,by rw[hh];exact q,r.mono e⟩
def uo(ι:Nat→Addr)(n:Nat)(p:Addr):Nat→Addr:=fun i=>if i=n then p else ι i
theorem uG{p a:Addr}{o u:HO}(hp:H p=none)(h:H a=some u):upd H p o a=some u:=by rw[bA (dH h hp)];exact h
theorem Ext.fresh{n:Nat}{p:Addr}{o:HO}(hp:H p=none):Ext K ι n H ι n (upd H p o):=⟨fun _ _ h=>uG hp h,fun _ _ h=>J7 (VF hp) h,fun _ _ h=>uG hp h,fun _ _ h=>uG hp h,Nat.le_refl _,fun _ _=>rfl⟩
theorem Rl.lt(R:Rl K ct ι M H){i:Nat}{o:MO}(h:M[i]? = some o):∃u,H (ι i)=some u:=(R.obj i o h).some
theorem Rl.fresh(R:Rl K ct ι M H){p:Addr}{o:HO}(hp:H p=none):Rl K ct ι M (upd H p o):=by
 refine⟨R.inj,fun i x h=> ?_⟩
 obtain⟨u,hu⟩:=R.lt h
 exact(R.obj i x h).keep (Ext.fresh hp) rfl (bA (dH hu hp))
theorem Ext.new{p:Addr}{o:HO}(hp:H p=none):Ext K ι M.length H (uo ι M.length p) (M.length+1) (upd H p o):=
 ⟨fun _ _ h=>uG hp h,fun _ _ h=>J7 (VF hp) h,fun _ _ h=>uG hp h,fun _ _ h=>uG hp h,Nat.le_succ _,fun i hi=>by unfold uo;rw[if_neg (Nat.ne_of_lt hi)]⟩
theorem Rl.new(R:Rl K ct ι M H){p:Addr}{o:HO}{x:MO}(hp:H p=none)(h:OR K ct (uo ι M.length p) (M.length+1) (upd H p o) p x):Rl K ct (uo ι M.length p) (M++[x]) (upd H p o):=by
 have ne:∀i,i<M.length→ι i≠p:=fun i hi=>by
  obtain⟨u,hu⟩:=R.lt (List.getElem?_eq_getElem hi)
  exact dH hu hp
 have el:(M++[x]).length=M.length+1:=by simp
 refine⟨fun i j hi hj e=> ?_,fun i y hy=> ?_⟩
 ·rw[el]at hi hj
  unfold uo at e
  by_cases a:i=M.length
  ·by_cases b:j=M.length
   ·rw[a,b]
   ·rw[if_pos a,if_neg b]at e
    exact absurd e.symm (ne j (by omega))
  ·by_cases b:j=M.length
   ·rw[if_neg a,if_pos b]at e
    exact absurd e (ne i (by omega))
   ·rw[if_neg a,if_neg b]at e
    exact R.inj i j (by omega) (by omega) e
 ·rw[el]
  by_cases a:i<M.length
  ·rw[List.getElem?_append_left a]at hy
   obtain⟨u,hu⟩:=R.lt hy
   refine(R.obj i y hy).keep (Ext.new hp) ?_ (bA (dH hu hp))
   unfold uo
   rw[if_neg (Nat.ne_of_lt a)]
  ·have hi:i<(M++[x]).length:=(List.getElem?_eq_some_iff.mp hy).1
   have e:i=M.length:=by rw[el]at hi;omega
   subst e
   rw[List.getElem?_append_right (Nat.le_refl _)]at hy
   simp at hy
   subst hy
   have:uo ι M.length p M.length=p:=by unfold uo;rw[if_pos rfl]
   rw[this]
   exact h
theorem Ext.chg{n:Nat}{a:Addr}{o u:HO}(h:H a=some u)(hu:∀xs,u≠ .tup xs)(hz:∀b x,u≠ .zF b x)(hx:∀φ,u≠ .ext φ:=by exact fun _ z=>nomatch z)(hd:∀fs,u≠ .xd fs:=by exact fun _ z=>nomatch z):Ext K ι n H ι n (upd H a o):=
 ⟨fun b xs q=>by
  rw[bA (fun e=>by subst e;rw[h]at q;exact hu xs (Option.some.inj q))];exact q,fun _ _ q=>J7 (fun b x r=>by rw[h]at r;exact hz b x (Option.some.inj r)) q,fun b φ q=>by
  rw[bA (fun e=>by subst e;rw[h]at q;exact hx φ (Option.some.inj q))];exact q,fun b fs q=>by
  rw[bA (fun e=>by subst e;rw[h]at q;exact hd fs (Option.some.inj q))];exact q,Nat.le_refl _,fun _ _=>rfl⟩
theorem Rl.chg(R:Rl K ct ι M H){i:Nat}{o u:HO}{x:MO}(hi:i<M.length)(h:H (ι i)=some u)(hu:∀xs,u≠ .tup xs)(hz:∀b x,u≠ .zF b x)(hx:OR K ct ι M.length (upd H (ι i) o) (ι i) x)(hex:∀φ,u≠ .ext φ:=by exact fun _ z=>nomatch z)(hxd:∀fs,u≠ .xd fs:=by exact fun _ z=>nomatch z):Rl K ct ι (M.set i x) (upd H (ι i) o):=by
 refine⟨fun j k hj hk e=>R.inj j k (by simpa using hj) (by simpa using hk) e,fun j y hy=> ?_⟩
 rw[List.length_set]
 by_cases e:i=j
 ·subst e
  rw[List.getElem?_set_self hi]at hy
  cases hy
  exact hx
 ·rw[List.getElem?_set_ne e]at hy
  have hj:j<M.length:=(List.getElem?_eq_some_iff.mp hy).1
  exact(R.obj j y hy).keep (Ext.chg h hu hz hex hxd) rfl (bA fun z=>e (R.inj i j hi hj z.symm))
theorem Ws.ext{ι':Nat→Addr}{e:Sl}{M':Mem}{σ:St}{H':Hp}(w:Ws K ct ι e M σ H)(x:Ext K ι M.length H ι' M'.length H')(r:Rl K ct ι' M' H'):Ws K ct ι' e M' σ H':=
 ⟨r,w.len,fun i d h=>let⟨v,a,b⟩:=w.env i d h;⟨v,a,b.mono x⟩⟩
theorem Ws.set{e:Sl}{σ:St}{d:D}{v:V}(w:Ws K ct ι e M σ H)(i:Nat)(h:DV K ct ι M.length H d v):Ws K ct ι (e.set i (some d)) M (σ.set i (some v)) H:=by
 refine⟨w.rl,by simp[w.len],fun j d' hj=> ?_⟩
 by_cases z:i=j
 ·subst z
  have hi:i<e.length:=by have:=(List.getElem?_eq_some_iff.mp hj).1;simpa using this
  rw[List.getElem?_set_self hi]at hj
  cases hj
  exact⟨v,List.getElem?_set_self (by rw[w.len];exact hi),h⟩
 ·rw[List.getElem?_set_ne z]at hj
  obtain⟨v',a,b⟩:=w.env j d' hj
  exact⟨v',by rw[List.getElem?_set_ne z];exact a,b⟩
end
theorem Ws.clear{K:PySem.W.Frag}{ct ι:Nat→Addr}{M:Mem}{H:Hp}{e:Sl}{σ:St}(w:Ws K ct ι e M σ H)(i:Nat):Ws K ct ι (e.set i none) M (σ.set i none) H:=by
 refine⟨w.rl,by simp[w.len],fun j d' hj=> ?_⟩
 by_cases z:i=j
 ·subst z
  have hi:i<e.length:=by have:=(List.getElem?_eq_some_iff.mp hj).1;simpa using this
  rw[List.getElem?_set_self hi]at hj
  cases hj
 ·rw[List.getElem?_set_ne z]at hj
  obtain⟨v',a,b⟩:=w.env j d' hj
  exact⟨v',by rw[List.getElem?_set_ne z];exact a,b⟩
abbrev XW:=Addr→Addr→Hp→Prop
def wAt(W:bG)(σ:St):XW:=fun C dx H=>W C dx σ H
def W0:bG:=fun _ _ _ _=>False
def jt{α β:Type}(rel:(Nat→Addr)→Mem→Hp→α→β→Prop)(K:PySem.W.Frag)(ct:Nat→Addr)(w:XW)(ι:Nat→Addr)(n:Nat)(H:Hp)(o:Out α)(Q:β→Hp→Prop):Prop:=match o with
 | .ok a M'=>∀ι' b H',Ext K ι n H ι' M'.length H'→Rl K ct ι' M' H'→rel ι' M' H' a b→Q b H'
 | .exc c d M'=>∀ι' dx v H',Ext K ι n H ι' M'.length H'→Rl K ct ι' M' H'→H' dx=some (.xd [("at",v)])→DV K ct ι' M'.length H' d v→w (ct c) dx H'
 | .bad=>False
def tG{α β:Type}(rel:(Nat→Addr)→Mem→Hp→α→β→Prop)(K:PySem.W.Frag)(ct:Nat→Addr)(W:bG)(m:Sl→Mem→Out α)(σ:St)(H:Hp)(Q:β→Hp→Prop):Prop:=
 ∃ι e M,Ws K ct ι e M σ H∧jt rel K ct (wAt W σ) ι M.length H (m e M) Q
abbrev gw(K:PySem.W.Frag)(ct:Nat→Addr):(Nat→Addr)→Mem→Hp→D→V→Prop:=fun ι M H d v=>DV K ct ι M.length H d v
abbrev Bl(K:PySem.W.Frag)(ct:Nat→Addr):(Nat→Addr)→Mem→Hp→List D→List V→Prop:=fun ι M H d v=>o5 K ct ι M.length H d v
abbrev zj:(Nat→Addr)→Mem→Hp→Bool→Bool→Prop:=fun _ _ _ a b=>a=b
abbrev ME:=Sl→Mem→Out D
abbrev MT:=Sl→Mem→Out Bool
abbrev MA:=Sl→Mem→Out (List D)
def SE(X:Cx)(ct:Nat→Addr)(W:bG)(e:Expr)(m:ME):Prop:=PE X e (tG (gw X.K ct) X.K ct W m)
def TX(X:Cx)(ct:Nat→Addr)(W:bG)(e:Expr)(m:MT):Prop:=PT X e (tG zj X.K ct W m)
def SW(X:Cx)(ct:Nat→Addr)(W:bG)(e:Expr)(m:MT):Prop:=PW X e (tG zj X.K ct W m)
def SA(X:Cx)(ct:Nat→Addr)(W:bG)(es:List Expr)(m:MA):Prop:=PA X es (tG (Bl X.K ct) X.K ct W m)
theorem SW.pt{X:Cx}{ct:Nat→Addr}{W:bG}{e:Expr}{m:MT}(h:SW X ct W e m):TX X ct W e m:=PW.pt h
section
variable{X:Cx}{ct:Nat→Addr}
theorem PE.imp{e:Expr}{t t':TE}(h:PE X e t)(hi:∀σ H Q,t' σ H Q→t σ H Q):PE X e t':=fun pins s σ H Q I q=>h pins s σ H Q I (hi σ H Q q)
theorem PT.imp{e:Expr}{t t':TT}(h:PT X e t)(hi:∀σ H Q,t' σ H Q→t σ H Q):PT X e t':=fun pins s σ H Q I q=>h pins s σ H Q I (hi σ H Q q)
theorem PW.imp{e:Expr}{t t':TT}(h:PW X e t)(hi:∀σ H Q,t' σ H Q→t σ H Q):PW X e t':=fun wh pins s σ H Q I q=>h wh pins s σ H Q I (hi σ H Q q)
theorem PA.imp{es:List Expr}{t t':TA}(h:PA X es t)(hi:∀σ H Q,t' σ H Q→t σ H Q):PA X es t':=fun pos pins s σ H Q I q=>h pos pins s σ H Q I (hi σ H Q q)
end
theorem jt.ext{α β:Type}{rel:(Nat→Addr)→Mem→Hp→α→β→Prop}{K:PySem.W.Frag}{ct ι ι':Nat→Addr}{w:XW}{n n':Nat}{H H':Hp}{o:Out α}{Q:β→Hp→Prop}(h:jt rel K ct w ι n H o Q)(x:Ext K ι n H ι' n' H'):jt rel K ct w ι' n' H' o Q:=by
 cases o with
 | ok a M=>exact fun mz b H2 x2 r q=>h mz b H2 (x.trans x2) r q
 | exc c d M=>exact fun mz dx v H2 x2 r q1 q2=>h mz dx v H2 (x.trans x2) r q1 q2
 | bad=>exact h
theorem jt.mono{α β:Type}{rel:(Nat→Addr)→Mem→Hp→α→β→Prop}{K:PySem.W.Frag}{ct ι:Nat→Addr}{w:XW}{n:Nat}{H:Hp}{o:Out α}{Q Q':β→Hp→Prop}(h:jt rel K ct w ι n H o Q)(x:∀b H,Q b H→Q' b H):jt rel K ct w ι n H o Q':=by
 cases o with
 | ok a M=>exact fun mz b H2 x2 r q=>x b H2 (h mz b H2 x2 r q)
 | exc c d M=>exact h
 | bad=>exact h
def al3{α β γ δ:Type}(gM:(Nat→Addr)→Mem→Hp→α→β→Prop)(Qp:(Nat→Addr)→Mem→Hp→γ→δ→Prop)(K:PySem.W.Frag)(ct:Nat→Addr)(W:bG)(f:α→Sl→Mem→Out γ)(σ:St)(Q:δ→Hp→Prop)(b:β)(H1:Hp):Prop:=
 ∃ι e M a,Ws K ct ι e M σ H1∧gM ι M H1 a b∧jt Qp K ct (wAt W σ) ι M.length H1 (f a e M) Q
theorem cG{α β γ δ:Type}{gM:(Nat→Addr)→Mem→Hp→α→β→Prop}{Qp:(Nat→Addr)→Mem→Hp→γ→δ→Prop}{K:PySem.W.Frag}{ct:Nat→Addr}{W:bG}{ma:Sl→Mem→Out α}{f:α→Sl→Mem→Out γ}{σ:St}{H:Hp}{Q:δ→Hp→Prop}
  (h:tG Qp K ct W (fun e M=>(ma e M).bind fun a M1=>f a e M1) σ H Q):tG gM K ct W ma σ H (al3 gM Qp K ct W f σ Q):=by
 obtain⟨ι,e,M,w,p⟩:=h
 refine⟨ι,e,M,w,?_⟩
 cases z:ma e M with
 | bad=>simp only[z,Out.jm]at p;exact p
 | exc xc xd xM=>simp only[z,Out.lJ]at p;exact p
 | ok a M1=>
  simp only[z,Out.fH]at p
  exact fun gK b H1 x r q=>⟨gK,e,M1,a,w.ext x r,q,p.ext x⟩
end S
namespace S
open PySem PySem.Spec PyProof.Rows L2
section
variable{X:Cx}{ct:Nat→Addr}{W:bG}{a b c:Expr}{ma mb mc:ME}{pos:Pos}
@[irreducible] def az(i:Nat):ME:=fun e M=>match e[i]? with
 | some (some d)=> .ok d M
 | _=> .bad
theorem Yu{i:Nat}{e:Sl}{M:Mem}{d:D}(h:e[i]? = some (some d)):az i e M= .ok d M:=by unfold az;rw[h]
def mC(d:D):ME:=fun _ M=> .ok d M
theorem iB{e:Expr}{t:TE}{m:ME}(h:PE X e t)(hi:∀σ H Q,tG (gw X.K ct) X.K ct W m σ H Q→t σ H Q):SE X ct W e m:=PE.imp h hi
theorem ak(i:Nat){x:Str}{pos:Pos}(hN:X.N[i]? = some x:=by rfl)(hv:Vis X.env.scope x:=by first | exact Or.inl rfl | exact Or.inr (Or.inl rfl) | exact Or.inr (Or.inr rfl))(hd:(x==("__debug__" : Str))=false:=by decide)
  (hcd:(x==("__classdict__" : Str))=false:=by decide):SE X ct W (.Name x pos) (az i):=iB (Vo hN hv hd hcd) fun σ H Q ⟨ι,e,M,w,p⟩=>by
 unfold az at p
 cases z:e[i]? with
 | none=>rw[z]at p;exact p.elim
 | some o=>
  cases o with
  | none=>rw[z]at p;exact p.elim
  | some d=>
   rw[z]at p
   obtain⟨v,hv,dv⟩:=w.env i d z
   exact⟨v,hv,p ι v H .refl w.rl dv⟩
theorem G8{d:D}{v:V}{σ:St}{H:Hp}{Q:VK}(dv:∀ι n,DV X.K ct ι n H d v)(h:tG (gw X.K ct) X.K ct W (mC d) σ H Q):tC v σ H Q:=by
 obtain⟨ι,e,M,w,p⟩:=h
 exact p ι v H .refl w.rl (dv _ _)
theorem aB{i j pos}:SE X ct W (.Constant (.int i) j pos) (mC (.int i)):=iB aaU fun _ _ _ h=>G8 (fun _ _=> .int i) h
theorem Qg{b j pos}:SE X ct W (.Constant (.bool b) j pos) (mC (.bl b)):=iB aem fun _ _ _ h=>G8 (fun _ _=> .bl b) h
theorem Ea{j pos}:SE X ct W (.Constant .none j pos) (mC .non):=iB aaS fun _ _ _ h=>G8 (fun _ _=> .non) h
theorem bU{x j pos}:SE X ct W (.Constant (.str x) j pos) (mC (.str x)):=iB aaP fun _ _ _ h=>G8 (fun _ _=> .str x) h
abbrev tH:=D→D→Mem→Out D
def aK(op:tH)(ma mb:ME):ME:=fun e M=>(ma e M).bind fun d M1=>(mb e M1).bind fun d' M2=>op d d' M2
def Ni(K:PySem.W.Frag)(ct:Nat→Addr)(op:tH)(r:R2):Prop:=
 ∀{w:XW} ι M H d d' v v' Q,Rl K ct ι M H→DV K ct ι M.length H d v→DV K ct ι M.length H d' v'→jt (gw K ct) K ct w ι M.length H (op d d' M) Q→r v v' H Q
def kI(X:Cx)(ct:Nat→Addr)(f:Value→Value→Sem Value)(op:tH):Prop:=∃r,wX X f r∧Ni X.K ct op r
theorem IV{r:R2}{op:tH}(hs:Ni X.K ct op r){σ:St}{H:Hp}{Q:VK}(h:tG (gw X.K ct) X.K ct W (aK op ma mb) σ H Q):
  tOp r (tG (gw X.K ct) X.K ct W ma) (tG (gw X.K ct) X.K ct W mb) σ H Q:=by
 obtain⟨ι,e,M,w,p⟩:=cG (gM:=gw X.K ct) h
 refine⟨ι,e,M,w,p.mono fun x H1 ⟨gK,e1,M1,d1,w1,q1,p1⟩=> ?_⟩
 refine⟨gK,e1,M1,w1,?_⟩
 cases z:mb e1 M1 with
 | bad=>simp only[z,Out.jm]at p1;exact p1
 | exc xc xd xM=>simp only[z,Out.lJ]at p1;exact p1
 | ok d2 M2=>
  simp only[z,Out.fH]at p1
  exact fun mz y H2 x2 r2 q2=>hs mz M2 H2 d1 d2 x y Q r2 (q1.mono x2) q2 (p1.ext x2)
theorem aX{op:Operator}{TQ:tH}(h:kI X ct (binaryOp op) TQ)(ha:SE X ct W a ma)(hb:SE X ct W b mb):SE X ct W (.BinOp a op b pos) (aK TQ ma mb):=by
 obtain⟨r,ho,hs⟩:=h
 exact iB (aej ho ha hb) fun σ H Q q=>IV hs q
theorem Eb{op:CmpOp}{TQ:tH}(h:kI X ct (compareOp op) TQ)(ha:SE X ct W a ma)(hb:SE X ct W b mb)(hm:behindInMarks op b=false):SE X ct W (.Compare a [op] [b] pos) (aK TQ ma mb):=by
 obtain⟨r,ho,hs⟩:=h
 exact iB (Yd ho ha hb hm) fun σ H Q q=>IV hs q
def Pj(d:D)(M:Mem):Out Bool:=match d with
 | .bl b=> .ok b M
 | _=> .bad
def fD(m:ME):MT:=fun e M=>(m e M).bind Pj
theorem K4{t:TE}{m:ME}{σ:St}{H:Hp}{Q:Bool→Hp→Prop}(hi:∀Q,tG (gw X.K ct) X.K ct W m σ H Q→t σ H Q)(h:tG zj X.K ct W (fD m) σ H Q):Zx t σ H Q:=by
 refine hi _ ?_
 obtain⟨ι,e,M,w,p⟩:=cG (gM:=gw X.K ct) (f:=fun d _ M=>Pj d M) h
 refine⟨ι,e,M,w,p.mono fun x H1 ⟨gK,e1,M1,d1,w1,q1,p1⟩=> ?_⟩
 cases q1 with
 | bl b=>exact⟨b,rfl,p1 gK b H1 .refl w1.rl rfl⟩
 | _=>exact False.elim p1
theorem fM{op:CmpOp}{TQ:tH}(h:kI X ct (compareOp op) TQ)(ha:SE X ct W a ma)(hb:SE X ct W b mb)(hm:behindInMarks op b=false):TX X ct W (.Compare a [op] [b] pos) (fD (aK TQ ma mb)):=by
 obtain⟨r,ho,hs⟩:=h
 exact PT.imp (XS ho ha hb hm) fun σ H Q q=>K4 (fun Q q=>IV hs q) q
theorem yZ{m:ME}(h:SE X ct W a m)(he:∀whole,isTrue a X.env whole=(do let v ←whole;standAt a.pos;holding [v] (truthy v)):=by intro _;rfl):TX X ct W a (fD m):=
 PT.imp (aaF h he) fun σ H Q q=>K4 (fun Q q=>q) q
def mUn(op:D→Mem→Out D)(ma:ME):ME:=fun e M=>(ma e M).bind op
def UnS(X:Cx)(ct:Nat→Addr)(f:Value→Sem Value)(op:D→Mem→Out D):Prop:=∃r,UnR X f r∧∀{w:XW} ι M H d v Q,Rl X.K ct ι M H→DV X.K ct ι M.length H d v→jt (gw X.K ct) X.K ct w ι M.length H (op d M) Q→r v H Q
theorem Zz{op:UnaryOp}{TQ:D→Mem→Out D}(h:UnS X ct (unaryOp op) TQ)(ha:SE X ct W a ma):SE X ct W (.UnaryOp op a pos) (mUn TQ ma):=by
 obtain⟨r,ho,hs⟩:=h
 refine iB (aeh ho ha) fun σ H Q q=> ?_
 obtain⟨ι,e,M,w,p⟩:=cG (gM:=gw X.K ct) (f:=fun d _ M=>TQ d M) q
 exact⟨ι,e,M,w,p.mono fun x H1 ⟨gK,e1,M1,d1,w1,q1,p1⟩=>hs gK M1 H1 d1 x Q w1.rl q1 p1⟩
variable{t u:MT}{rest:List Expr}
def Sx(t u:MT):MT:=fun e M=>(t e M).bind fun k M1=>if k=true then u e M1 else .ok false M1
def mOr(t u:MT):MT:=fun e M=>(t e M).bind fun k M1=>if k=true then .ok true M1 else u e M1
def V1(t:MT):MT:=fun e M=>(t e M).bind fun k M1=> .ok (!k) M1
theorem Dj(ha:TX X ct W a t):SW X ct W (.BoolOp .And [a] pos) t:=XQ ha
theorem NP(ha:TX X ct W a t):SW X ct W (.BoolOp .Or [a] pos) t:=aaD ha
theorem Ja(ha:TX X ct W a t)(hb:SW X ct W (.BoolOp .And (b::rest) pos) u):SW X ct W (.BoolOp .And (a::b::rest) pos) (Sx t u):=PW.imp (aaE ha hb) fun σ H Q q=>by
 obtain⟨ι,e,M,w,p⟩:=cG (gM:=zj) (f:=fun k e M1=>if k=true then u e M1 else .ok false M1) q
 refine⟨ι,e,M,w,p.mono fun k H1 ⟨gK,e1,M1,d1,w1,q1,p1⟩=> ?_⟩
 have J6:d1=k:=q1;subst J6
 cases d1 with
 | true=>exact⟨gK,e1,M1,w1,p1⟩
 | false=>exact p1 gK false H1 .refl w1.rl rfl
theorem Qc(ha:TX X ct W a t)(hb:SW X ct W (.BoolOp .Or (b::rest) pos) u):SW X ct W (.BoolOp .Or (a::b::rest) pos) (mOr t u):=PW.imp (adP ha hb) fun σ H Q q=>by
 obtain⟨ι,e,M,w,p⟩:=cG (gM:=zj) (f:=fun k e M1=>if k=true then .ok true M1 else u e M1) q
 refine⟨ι,e,M,w,p.mono fun k H1 ⟨gK,e1,M1,d1,w1,q1,p1⟩=> ?_⟩
 have J6:d1=k:=q1;subst J6
 cases d1 with
 | false=>exact⟨gK,e1,M1,w1,p1⟩
 | true=>exact p1 gK true H1 .refl w1.rl rfl
theorem NQ(ha:TX X ct W a t):TX X ct W (.UnaryOp .Not a pos) (V1 t):=PT.imp (aaG ha) fun σ H Q q=>by
 obtain⟨ι,e,M,w,p⟩:=cG (gM:=zj) (f:=fun k e M1=> .ok (!k) M1) q
 refine⟨ι,e,M,w,p.mono fun k H1 ⟨gK,e1,M1,d1,w1,q1,p1⟩=> ?_⟩
 have J6:d1=k:=q1;subst J6
 exact p1 gK _ H1 .refl w1.rl rfl
def QF(ma mb:ME):ME:=fun e M=>(ma e M).bind fun d M1=>(Pj d M1).bind fun k M2=>if k=true then mb e M2 else .ok (.bl false) M2
def abm(ma mb:ME):ME:=fun e M=>(ma e M).bind fun d M1=>(Pj d M1).bind fun k M2=>if k=true then .ok (.bl true) M2 else mb e M2
def V0(ma:ME):ME:=fun e M=>(ma e M).bind fun d M1=>(Pj d M1).bind fun k M2=> .ok (.bl (!k)) M2
theorem Uz{op}{m:ME}(h:SE X ct W a m):SE X ct W (.BoolOp op [a] pos) m:=aaQ h
theorem UJ(ha:SE X ct W a ma)(hb:SE X ct W (.BoolOp .And (b::rest) pos) mb):SE X ct W (.BoolOp .And (a::b::rest) pos) (QF ma mb):=iB (aaW ha hb) fun σ H Q q=>by
 obtain⟨ι,e,M,w,p⟩:=cG (gM:=gw X.K ct) (f:=fun d e M1=>(Pj d M1).bind fun k M2=>if k=true then mb e M2 else .ok (.bl false) M2) q
 refine⟨ι,e,M,w,p.mono fun x H1 ⟨gK,e1,M1,d1,w1,q1,p1⟩=> ?_⟩
 cases q1 with
 | bl k=>
  refine⟨k,rfl,?_⟩
  simp only[Pj,Out.fH]at p1
  cases k with
  | true=>exact⟨gK,e1,M1,w1,p1⟩
  | false=>exact p1 gK _ H1 .refl w1.rl (.bl false)
 | _=>exact False.elim p1
theorem adq(ha:SE X ct W a ma)(hb:SE X ct W (.BoolOp .Or (b::rest) pos) mb):SE X ct W (.BoolOp .Or (a::b::rest) pos) (abm ma mb):=iB (aei ha hb) fun σ H Q q=>by
 obtain⟨ι,e,M,w,p⟩:=cG (gM:=gw X.K ct) (f:=fun d e M1=>(Pj d M1).bind fun k M2=>if k=true then .ok (.bl true) M2 else mb e M2) q
 refine⟨ι,e,M,w,p.mono fun x H1 ⟨gK,e1,M1,d1,w1,q1,p1⟩=> ?_⟩
 cases q1 with
 | bl k=>
  refine⟨k,rfl,?_⟩
  simp only[Pj,Out.fH]at p1
  cases k with
  | false=>exact⟨gK,e1,M1,w1,p1⟩
  | true=>exact p1 gK _ H1 .refl w1.rl (.bl true)
 | _=>exact False.elim p1
theorem aan(ha:SE X ct W a ma):SE X ct W (.UnaryOp .Not a pos) (V0 ma):=iB (aaR ha) fun σ H Q q=>by
 obtain⟨ι,e,M,w,p⟩:=cG (gM:=gw X.K ct) (f:=fun d _ M1=>(Pj d M1).bind fun k M2=>(Out.ok (D.bl (!k)) M2:Out D)) q
 refine⟨ι,e,M,w,p.mono fun x H1 ⟨gK,e1,M1,d1,w1,q1,p1⟩=> ?_⟩
 cases q1 with
 | bl k=>exact⟨k,rfl,p1 gK _ H1 .refl w1.rl (.bl _)⟩
 | _=>exact False.elim p1
def mIf(t:MT)(ma mb:ME):ME:=fun e M=>(t e M).bind fun k M1=>if k=true then ma e M1 else mb e M1
theorem adt(hc:TX X ct W c t)(ha:SE X ct W a ma)(hb:SE X ct W b mb):SE X ct W (.IfExp c a b pos) (mIf t ma mb):=iB (Vs hc ha hb) fun σ H Q q=>by
 obtain⟨ι,e,M,w,p⟩:=cG (gM:=zj) (f:=fun k e M1=>if k=true then ma e M1 else mb e M1) q
 refine⟨ι,e,M,w,p.mono fun k H1 ⟨gK,e1,M1,d1,w1,q1,p1⟩=> ?_⟩
 have J6:d1=k:=q1;subst J6
 cases d1 with
 | true=>exact⟨gK,e1,M1,w1,p1⟩
 | false=>exact⟨gK,e1,M1,w1,p1⟩
variable{es:List Expr}{ms:MA}
def aH:MA:=fun _ M=> .ok [] M
def aq(m:ME)(ms:MA):MA:=fun e M=>(m e M).bind fun d M1=>(ms e M1).bind fun ds M2=> .ok (d::ds) M2
theorem aA:SA X ct W [] aH:=PA.imp aaX fun σ H Q ⟨ι,e,M,w,p⟩=>p ι [] H .refl w.rl .nil
theorem aj(ha:SE X ct W a ma)(hr:SA X ct W es ms)(hs:starEach (a::es) X.env=(false,eval a X.env)::starEach es X.env:=by rfl):SA X ct W (a::es) (aq ma ms):=PA.imp (Ye ha hr hs) fun σ H Q q=>by
 obtain⟨ι,e,M,w,p⟩:=cG (gM:=gw X.K ct) (f:=fun d e M1=>(ms e M1).bind fun ds M2=> .ok (d::ds) M2) q
 refine⟨ι,e,M,w,p.mono fun x H1 ⟨gK,e1,M1,d1,w1,q1,p1⟩=>⟨gK,e1,M1,w1,?_⟩⟩
 cases z:ms e1 M1 with
 | bad=>simp only[z,Out.jm]at p1;exact p1
 | exc xc xd xM=>simp only[z,Out.lJ]at p1;exact p1
 | ok ds M2=>
  simp only[z,Out.fH]at p1
  exact fun mz xs H2 x2 r2 q2=>p1 mz (x::xs) H2 x2 r2 (.cons (q1.mono x2) q2)
def jP(ms:MA):ME:=fun e M=>(ms e M).bind fun ds M1=>if ds.length≤sizeLine then .ok (.tup ds) M1 else .bad
def De(ms:MA):ME:=fun e M=>(ms e M).bind fun ds M1=>if ds.length≤sizeLine then .ok (.ref M1.length) (M1++[.lst ds])else .bad
theorem z7{w:XW}{K:PySem.W.Frag}{ι:Nat→Addr}{M:Mem}{H:Hp}{ds:List D}{xs:List V}{Q:VK}{p:Addr}(R:Rl K ct ι M H)(h:o5 K ct ι M.length H ds xs)(hp:H p=none)(q:jt (gw K ct) K ct w ι M.length H (.ok (.tup ds) M) Q):Q (.ref p) (upd H p (.tup xs)):=
 q ι (.ref p) _ (Ext.fresh hp) (R.fresh hp) (.tup d7 (h.mono (Ext.fresh hp)))
theorem rW{w:XW}{K:PySem.W.Frag}{ι:Nat→Addr}{M:Mem}{H:Hp}{ds:List D}{xs:List V}{Q:VK}{p:Addr}(R:Rl K ct ι M H)(h:o5 K ct ι M.length H ds xs)(hp:H p=none)(q:jt (gw K ct) K ct w ι M.length H (.ok (.ref M.length) (M++[.lst ds])) Q):Q (.ref p) (upd H p (.lst xs)):=by
 have el:(M++[MO.lst ds]).length=M.length+1:=by simp
 have x:Ext K ι M.length H (uo ι M.length p) (M.length+1) (upd H p (.lst xs)):=Ext.new hp
 have e:(uo ι M.length p) M.length=p:=by unfold uo;rw[if_pos rfl]
 have dv:DV K ct (uo ι M.length p) (M++[MO.lst ds]).length (upd H p (.lst xs)) (.ref M.length) (.ref p):=by
  have:=DV.ref (K:=K) (ct:=ct) (ι:=uo ι M.length p) (n:=(M++[MO.lst ds]).length) (H:=upd H p (.lst xs)) (i:=M.length) (by rw[el];omega)
  rw[e]at this
  exact this
 exact q (uo ι M.length p) (.ref p) _ (by rw[el];exact x) (R.new hp ⟨xs,d7,h.mono x⟩) dv
theorem d9{x1}(h:SA X ct W es ms):SE X ct W (.Tuple es x1 pos) (jP ms):=iB (aaO h) fun σ H Q q=>by
 obtain⟨ι,e,M,w,p⟩:=cG (gM:=Bl X.K ct) (f:=fun ds _ M1=>if ds.length≤sizeLine then .ok (D.tup ds) M1 else .bad) q
 refine⟨ι,e,M,w,p.mono fun xs H1 ⟨gK,e1,M1,ds,w1,q1,p1⟩=> ?_⟩
 by_cases z:ds.length≤sizeLine
 ·simp only[z,if_true]at p1
  exact⟨by rw[q1.length];exact z,fun pp hp=>z7 w1.rl q1 hp p1⟩
 ·simp only[z,if_false]at p1
  exact p1.elim
theorem vm(h:SA X ct W es ms):SE X ct W (.List es pos) (De ms):=iB (aaT h) fun σ H Q q=>by
 obtain⟨ι,e,M,w,p⟩:=cG (gM:=Bl X.K ct) (f:=fun ds _ M1=>if ds.length≤sizeLine then .ok (D.ref M1.length) (M1++[.lst ds])else .bad) q
 refine⟨ι,e,M,w,p.mono fun xs H1 ⟨gK,e1,M1,ds,w1,q1,p1⟩=> ?_⟩
 by_cases z:ds.length≤sizeLine
 ·simp only[z,if_true]at p1
  exact⟨by rw[q1.length];exact z,fun pp hp=>rW w1.rl q1 hp p1⟩
 ·simp only[z,if_false]at p1
  exact p1.elim
def yG(cs:List Nat)(f:Str)(d:D)(M:Mem):Out D:=match d with
 | .ref n=>match M[n]? with
  | some (.ins c fs)=>if c∈cs then(match fs.lookup f with
   | some v=> .ok v M
   | none=> .bad)else .bad
  | _=> .bad
 | _=> .bad
def j4(cs:List Nat)(m:ME)(f:Str):ME:=fun e M=>(m e M).bind (yG cs f)
def Gb(K:PySem.W.Frag)(ct:Nat→Addr)(f:Str):List Nat→Prop
 | []=>True
 | c::cs=>(Np K (ct c)∧j7 K (ct c) f)∧Gb K ct f cs
theorem Gb.get{K:PySem.W.Frag}{ct:Nat→Addr}{f:Str}:∀{cs:List Nat} {c:Nat},Gb K ct f cs→c∈cs→Np K (ct c)∧j7 K (ct c) f
 | [],_,_,h=>by simp at h
 | c::cs,d,⟨a,r⟩,h=>by
  rcases List.mem_cons.mp h with e | e
  ·subst e;exact a
  ·exact r.get e
theorem uv{K:PySem.W.Frag}{ι:Nat→Addr}{n:Nat}{H:Hp}{i:Nat}{v:V}(h:DV K ct ι n H (.ref i) v):i<n∧v= .ref (ι i):=by cases h with | ref h=>exact⟨h,rfl⟩
theorem cN{cs:List Nat}{f:Str}(hc:Gb X.K ct f cs)(he:SE X ct W a ma)(hb:attributeBase a f X.env (eval a X.env)=eval a X.env:=by rfl):SE X ct W (.Attribute a f pos) (j4 cs ma f):=iB (aaV he hb) fun σ H Q q=>by
 obtain⟨ι,e,M,w,p⟩:=cG (gM:=gw X.K ct) (f:=fun d _ M1=>yG cs f d M1) q
 refine⟨ι,e,M,w,p.mono fun x H1 ⟨gK,e1,M1,d1,w1,q1,p1⟩=> ?_⟩
 cases d1 with
 | ref n=>
  obtain⟨hn,rfl⟩:=uv q1
  simp only[yG]at p1
  cases z:M1[n]? with
  | none=>simp only[z]at p1;exact p1.elim
  | some o=>
   cases o with
   | ins c fs=>
    simp only[z]at p1
    by_cases hcs:c∈cs
    ·simp only[hcs,if_true]at p1
     cases z2:fs.lookup f with
     | none=>simp only[z2]at p1;exact p1.elim
     | some d=>
      simp only[z2]at p1
      obtain⟨dx,vs,hH,fv⟩:=w1.rl.obj n _ z
      obtain⟨v,hv,dv⟩:=fv.look z2
      exact⟨_,_,dx,vs,v,rfl,hH,(hc.get hcs).1,(hc.get hcs).2,hv,p1 gK v H1 .refl w1.rl dv⟩
    ·simp only[hcs,if_false]at p1
     exact p1.elim
   | _=>simp only[z]at p1;exact p1.elim
 | _=>exact p1.elim
abbrev Fn:=List D→Mem→Out D
def wE(E:XK):XW:=fun C dx H=>E (.ref C) (some dx) H
theorem jt.wish{α β:Type}{rel:(Nat→Addr)→Mem→Hp→α→β→Prop}{K:PySem.W.Frag}{ct ι:Nat→Addr}{w w':XW}{n:Nat}{H:Hp}{o:Out α}{Q:β→Hp→Prop}(h:jt rel K ct w ι n H o Q)(x:∀C dx H,w C dx H→w' C dx H):jt rel K ct w' ι n H o Q:=by
 cases o with
 | ok a M=>exact h
 | exc c d M=>exact fun mz dx v H2 x2 r q1 q2=>x _ _ _ (h mz dx v H2 x2 r q1 q2)
 | bad=>exact h
theorem jt.toE{α β:Type}{rel:(Nat→Addr)→Mem→Hp→α→β→Prop}{K:PySem.W.Frag}{ct ι:Nat→Addr}{W:bG}{σ:St}{n:Nat}{H:Hp}{o:Out α}{Q:β→Hp→Prop}(h:jt rel K ct (wAt W σ) ι n H o Q):jt rel K ct (wE (EW W σ)) ι n H o Q:=
 h.wish fun C dx _ q=>⟨C,dx,rfl,rfl,q⟩
def spS(K:PySem.W.Frag)(ct:Nat→Addr)(fn:Fn)(ar:Nat):Sp:=fun vs H Q E=>∃ι ds M,ds.length=ar∧Rl K ct ι M H∧o5 K ct ι M.length H ds vs∧jt (gw K ct) K ct (wE E) ι M.length H (fn ds M) Q
inductive Cst:D→V→Value→Prop
 | bl (b:Bool):Cst (.bl b) (.bl b) (.bool b)
 | non:Cst .non .non .none
inductive Az:List D→List V→List Value→Prop
 | nil:Az [] [] []
 | cons {d:D} {v:V} {u:Value} {ds:List D} {vs:List V} {us:List Value}:Cst d v u→Az ds vs us→Az (d::ds) (v::vs) (u::us)
theorem Cst.dv{K:PySem.W.Frag}{ι:Nat→Addr}{n:Nat}{H:Hp}{d:D}{v:V}{u:Value}(h:Cst d v u):DV K ct ι n H d v:=by
 cases h with
 | bl b=>exact .bl b
 | non=>exact .non
theorem Cst.val{d:D}{v:V}{u:Value}(h:Cst d v u):RelV v u:=by
 cases h with
 | bl b=>exact rfl
 | non=>exact rfl
theorem Az.dv{K:PySem.W.Frag}{ι:Nat→Addr}{n:Nat}{H:Hp}{ds:List D}{vs:List V}{us:List Value}(h:Az ds vs us):o5 K ct ι n H ds vs:=by
 induction h with
 | nil=>exact .nil
 | cons c _ ih=>exact .cons c.dv ih
theorem Az.vals{ds:List D}{vs:List V}{us:List Value}(h:Az ds vs us):Vals vs us:=by
 induction h with
 | nil=>exact .nil
 | cons c _ ih=>exact .cons c.val ih
def fG(fn:Fn)(ar:Nat)(dv:List D)(ms:MA):ME:=fun e M=>(ms e M).bind fun ds M1=>if(ds++dv).length=ar then fn (ds++dv) M1 else .bad
variable{k:Nat}{f:Addr}{fd:FuncData}{ps:List Str}{fn:Fn}{dv:List D}{yx:List V}{Wv:List Value}{x:Str}{p:Pos}
theorem Ur{σ:St}{H:Hp}{Q:VK}(hd:Az dv yx Wv)(h:tG (gw X.K ct) X.K ct W (fG fn ps.length dv ms) σ H Q):Us (spS X.K ct fn ps.length) yx W (tG (Bl X.K ct) X.K ct W ms) σ H Q:=by
 obtain⟨ι,e,M,w,p⟩:=cG (gM:=Bl X.K ct) (f:=fun ds _ M1=>if(ds++dv).length=ps.length then fn (ds++dv) M1 else .bad) h
 refine⟨ι,e,M,w,p.mono fun vs H1 ⟨gK,e1,M1,ds,w1,q1,p1⟩=> ?_⟩
 by_cases z:(ds++dv).length=ps.length
 ·simp only[z,if_true]at p1
  exact⟨gK,ds++dv,M1,z,w1.rl,q1.append hd.dv,p1.toE⟩
 ·simp only[z,if_false]at p1
  exact p1.elim
theorem cW{ar:Nat}(F:bB X.prog X.w X.K X.mg X.base (iD X.prog X.w) k f fd ps (spS X.K ct fn ar))(hx:Tk X W)(hr:j6 k X.A)(hg:Gl X x)(hm:X.mg x=some (.ref f))(hk:PySem.W.keepIn X.K (.ref f)=true)(hb:Binds X.K fd ps Wv)(hd:Az dv yx Wv)
  (ha:SA X ct W (a::es) ms) (hdb:(x==("__debug__" : Str))=false:=by decide) (he:starEach (a::es) X.env=(false,eval a X.env)::starEach es X.env:=by rfl) (hpl:(backTo pos (starEach es X.env)).any (·.1)=false:=by rfl) (har:ps.length=ar:=by rfl):SE X ct W (.Call (.Name x p) (a::es) [] pos) (fG fn ar dv ms):=by
 subst har
 exact iB (Vu F hr hg hm hk hb hd.vals hx ha hdb he hpl) fun σ H Q q=>Ur hd q
def yO(k:Nat)(m:Str)(d:D)(M:Mem):Bool:=match d with
 | .ref n=>match M[n]? with
  | some (.ins c fs)=>c==k&&(fs.lookup m).isNone
  | _=>false
 | _=>false
def cL(k:Nat)(m:Str)(fn:Fn)(ar:Nat)(dv:List D)(mo:ME)(ms:MA):ME:=fun e M=>(mo e M).bind fun d M1=>if yO k m d M1=true then(ms e M1).bind fun ds M2=>if(d::(ds++dv)).length=ar then fn (d::(ds++dv)) M2 else .bad else .bad
theorem Wb{K:PySem.W.Frag}{ι:Nat→Addr}{M:Mem}{H:Hp}{k:Nat}{m:Str}{d:D}{v:V}(R:Rl K ct ι M H)(h:yO k m d M=true)(q:DV K ct ι M.length H d v):∃a dx fs,v= .ref a∧H a=some (.ins (ct k) dx fs)∧fs.lookup m=none:=by
 cases d with
 | ref n=>
  obtain⟨hn,rfl⟩:=uv q
  unfold yO at h
  cases z:M[n]? with
  | none=>simp only[z]at h;cases h
  | some o=>
   cases o with
   | ins c fs=>
    simp only[z,Bool.and_eq_true,beq_iff_eq,Option.isNone_iff_eq_none]at h
    obtain⟨rfl,hl⟩:=h
    obtain⟨dx,vs,hH,fv⟩:=R.obj n _ z
    exact⟨_,dx,vs,rfl,hH,fv.ZS hl⟩
   | _=>simp only[z]at h;cases h
 | _=>exact absurd h Bool.false_ne_true
theorem K5{kc:Nat}{m:Str}{mo:ME}{σ:St}{H:Hp}{Q:VK}(hd:Az dv yx Wv)(h:tG (gw X.K ct) X.K ct W (cL kc m fn ps.length dv mo ms) σ H Q):
  NB (ct kc) m (spS X.K ct fn ps.length) yx W (tG (gw X.K ct) X.K ct W mo) (tG (Bl X.K ct) X.K ct W ms) σ H Q:=by
 obtain⟨ι,e,M,w,p⟩:=cG (gM:=gw X.K ct) (f:=fun d e M1=>if yO kc m d M1=true then(ms e M1).bind fun ds M2=>if(d::(ds++dv)).length=ps.length then fn (d::(ds++dv)) M2 else .bad else .bad) h
 refine⟨ι,e,M,w,p.mono fun v H1 ⟨gK,e1,M1,d,w1,q1,p1⟩=> ?_⟩
 cases z:yO kc m d M1 with
 | false=>simp only[z,Bool.false_eq_true,if_false]at p1;exact p1.elim
 | true=>
  simp only[z,if_true]at p1
  obtain⟨a,dx,fs,rfl,hH,hl⟩:=Wb w1.rl z q1
  refine⟨a,dx,fs,rfl,hH,hl,gK,e1,M1,w1,?_⟩
  cases z2:ms e1 M1 with
  | bad=>simp only[z2,Out.jm]at p1;exact p1
  | exc xc xd xM=>simp only[z2,Out.lJ]at p1;exact p1
  | ok ds M2=>
   simp only[z2,Out.fH]at p1
   intro mz vs H2 x2 r2 q2
   by_cases z3:(d::(ds++dv)).length=ps.length
   ·rw[if_pos z3]at p1
    exact⟨mz,_,M2,z3,r2,.cons (q1.mono x2) (q2.append hd.dv),(p1.ext x2).toE⟩
   ·rw[if_neg z3]at p1
    exact p1.elim
variable{o:Expr}{mo:ME}{kc:Nat}{m:Str}{apos:Pos}
theorem cM{ar:Nat}{pl:Sem Bool}(he:SE X ct W o mo)(c:Np X.K (ct kc))(hm:Meth X.K (ct kc) m f)(F:bB X.prog X.w X.K X.mg X.base (iD X.prog X.w) k f fd ps (spS X.K ct fn ar))(hx:Tk X W)(hr:j6 k X.A)(hb:Binds X.K fd ps Wv)(hd:Az dv yx Wv)(ha:SA X ct W (a::es) ms)
  (hst:starEach (a::es) X.env=(false,eval a X.env)::starEach es X.env:=by rfl) (hpl:(backTo pos (starEach es X.env)).any (·.1)=false:=by rfl)
  (ht:eval (.Call (.Attribute o m apos) (a::es) [] pos) X.env=(do
   let ov ←eval o X.env
   standAt apos.atName
   let(f,first) ←holding [ov] (getMethod ov m pl)
   callWith pos f first (backTo pos (starEach (a::es) X.env)) (backToKw pos (keywordEach [] X.env))):=by rfl) (har:ps.length=ar:=by rfl):SE X ct W (.Call (.Attribute o m apos) (a::es) [] pos) (cL kc m fn ar dv mo ms):=by
 subst har
 exact iB (Vq he c hm F hr hb hd.vals hx ha hst hpl ht) fun σ H Q q=>K5 hd q
theorem kJ{ar:Nat}{pl:Sem Bool}(he:SE X ct W o mo)(c:Np X.K (ct kc))(hm:Meth X.K (ct kc) m f)(F:bB X.prog X.w X.K X.mg X.base (iD X.prog X.w) k f fd ps (spS X.K ct fn ar))(hx:Tk X W)(hr:j6 k X.A)(hb:Binds X.K fd ps Wv)(hd:Az dv yx Wv)
  (ht:eval (.Call (.Attribute o m apos) [] [] pos) X.env=(do
   let ov ←eval o X.env
   standAt apos.atName
   let(f,first) ←holding [ov] (getMethod ov m pl)
   callWith pos f first (backTo pos (starEach [] X.env)) (backToKw pos (keywordEach [] X.env))):=by rfl) (har:ps.length=ar:=by rfl):SE X ct W (.Call (.Attribute o m apos) [] [] pos) (cL kc m fn ar dv mo aH):=by
 subst har
 exact iB (RW he c hm F hr hb hd.vals hx ht) fun σ H Q q=>by
  obtain⟨ι,e,M,w,p⟩:=K5 hd q
  refine⟨ι,e,M,w,p.mono fun v H1 ⟨a,dx,fs,e1,e2,e3,gK,e4,M1,w1,p1⟩=>⟨a,dx,fs,e1,e2,e3,p1 gK [] H1 .refl w1.rl .nil⟩⟩
def Mf(d:D):Bool:=match d with
 | .non=>true
 | _=>false
def Ae(kc:Nat)(fn:Fn)(ar:Nat)(dv:List D)(ms:MA):ME:=fun e M=>(ms e M).bind fun ds M1=>if(D.ref M1.length::(ds++dv)).length=ar then(fn (.ref M1.length::(ds++dv)) (M1++[.ins kc []])).bind fun r M2=>if Mf r=true then .ok (.ref M1.length) M2 else .bad else .bad
theorem Um{σ:St}{H:Hp}{Q:VK}(hd:Az dv yx Wv)(h:tG (gw X.K ct) X.K ct W (Ae kc fn ps.length dv ms) σ H Q):Uo (ct kc) (spS X.K ct fn ps.length) yx W (tG (Bl X.K ct) X.K ct W ms) σ H Q:=by
 obtain⟨ι,e,M,w,p⟩:=cG (gM:=Bl X.K ct) (f:=fun ds _ M1=>if(D.ref M1.length::(ds++dv)).length=ps.length then(fn (D.ref M1.length::(ds++dv)) (M1++[.ins kc []])).bind fun r M2=>if Mf r=true then .ok (D.ref M1.length) M2 else .bad else .bad) h
 refine⟨ι,e,M,w,p.mono fun vs H1 ⟨gK,e1,M1,ds,w1,q1,p1⟩=> ?_⟩
 intro a dx ha hdx ne
 dsimp only at p1
 by_cases z:(D.ref M1.length::(ds++dv)).length=ps.length
 ·rw[if_pos z]at p1
  have ha':upd H1 dx (.own a) a=none:=by rw[bA (Ne.symm ne)];exact ha
  have el:(M1++[MO.ins kc []]).length=M1.length+1:=by simp
  have x1:Ext X.K gK M1.length H1 gK M1.length (upd H1 dx (.own a)):=Ext.fresh hdx
  have r1:Rl X.K ct gK M1 (upd H1 dx (.own a)):=w1.rl.fresh hdx
  have x2:Ext X.K gK M1.length (upd H1 dx (.own a)) (uo gK M1.length a) (M1.length+1) (upd (upd H1 dx (.own a)) a (.ins (ct kc) dx [])):=Ext.new ha'
  have r2:Rl X.K ct (uo gK M1.length a) (M1++[MO.ins kc []]) (upd (upd H1 dx (.own a)) a (.ins (ct kc) dx [])):=r1.new ha' ⟨dx,[],d7,.nil⟩
  have e0:(uo gK M1.length a) M1.length=a:=by unfold uo;rw[if_pos rfl]
  have dv0:DV X.K ct (uo gK M1.length a) (M1++[MO.ins kc []]).length (upd (upd H1 dx (.own a)) a (.ins (ct kc) dx [])) (.ref M1.length) (.ref a):=by
   have:=DV.ref (K:=X.K) (ct:=ct) (ι:=uo gK M1.length a) (n:=(M1++[MO.ins kc []]).length) (H:=upd (upd H1 dx (.own a)) a (.ins (ct kc) dx [])) (i:=M1.length) (by rw[el];omega)
   rw[e0]at this
   exact this
  refine⟨uo gK M1.length a,_,M1++[.ins kc []],z,r2,.cons dv0 ?_,?_⟩
  ·rw[el];exact(q1.append hd.dv).mono (x1.trans x2)
  ·cases z2:fn (.ref M1.length::(ds++dv)) (M1++[.ins kc []])with
   | bad=>rw[z2]at p1;exact p1
   | exc xc xd xM=>
    rw[z2]at p1
    simp only[Out.lJ]at p1
    have p2:=(p1.ext (x1.trans x2)).toE
    rw[el]
    exact fun PJ dx3 v3 H3 x3 r3 q3 q4=>p2 PJ dx3 v3 H3 x3 r3 q3 q4
   | ok r M2=>
    rw[z2]at p1
    simp only[Out.fH]at p1
    intro PJ v3 H3 x3 r3 q3
    cases q3 with
    | non=>
     refine⟨rfl,?_⟩
     simp only[Mf,if_true]at p1
     refine p1 PJ (.ref a) H3 ((x1.trans x2).trans (by rw[el]at x3;exact x3)) r3 (dv0.mono x3)
    | _=>exact False.elim p1
 ·rw[if_neg z]at p1
  exact p1.elim
theorem yr{ar:Nat}(Mk0:Mk X.K (ct kc) f)(F:bB X.prog X.w X.K X.mg X.base (iD X.prog X.w) k f fd ps (spS X.K ct fn ar))(hx:Tk X W)(hr:j6 (k+1) X.A)(hg:Gl X x)(hm:X.mg x=some (.ref (ct kc)))(hb:Binds X.K fd ps Wv)(hd:Az dv yx Wv)
  (ha:SA X ct W (a::es) ms) (hdb:(x==("__debug__" : Str))=false:=by decide) (he:starEach (a::es) X.env=(false,eval a X.env)::starEach es X.env:=by rfl) (hpl:(backTo pos (starEach es X.env)).any (·.1)=false:=by rfl) (har:ps.length=ar:=by rfl):SE X ct W (.Call (.Name x p) (a::es) [] pos) (Ae kc fn ar dv ms):=by
 subst har
 exact iB (Vr Mk0 F hr hg hm hb hd.vals hx ha hdb he hpl) fun σ H Q q=>Um hd q
abbrev H_:=List D→Mem→Out D
def yN(op:H_)(ms:MA):ME:=fun e M=>(ms e M).bind op
def qZ(X:Cx)(ct:Nat→Addr)(f:Value)(op:H_):Prop:=∃r,o6 X f r∧∀{w:XW} ι M H ds vs Q,Rl X.K ct ι M H→o5 X.K ct ι M.length H ds vs→jt (gw X.K ct) X.K ct w ι M.length H (op ds M) Q→r vs H Q
variable{id T:String}{op:H_}
theorem Ut{r:List V→Hp→VK→Prop}{σ:St}{H:Hp}{Q:VK}(hs:∀{w:XW} ι M H ds vs Q,Rl X.K ct ι M H→o5 X.K ct ι M.length H ds vs→jt (gw X.K ct) X.K ct w ι M.length H (op ds M) Q→r vs H Q)
  (h:tG (gw X.K ct) X.K ct W (yN op ms) σ H Q):tCB r (tG (Bl X.K ct) X.K ct W ms) σ H Q:=by
 obtain⟨ι,e,M,w,p⟩:=cG (gM:=Bl X.K ct) (f:=fun ds _ M1=>op ds M1) h
 exact⟨ι,e,M,w,p.mono fun vs H1 ⟨gK,e1,M1,ds,w1,q1,p1⟩=>hs gK M1 H1 ds vs Q w1.rl q1 p1⟩
theorem gm(h:qZ X ct (.builtin id) op)(hg:Gl X x)(hm:X.mg x=none)(hv:bootBuiltins x=some (.builtin id))(ha:SA X ct W (a::es) ms)(hn:x≠ "__name__" := by decide)(hdb:(x==("__debug__" : Str))=false:=by decide)
  (he:starEach (a::es) X.env=(false,eval a X.env)::starEach es X.env:=by rfl) (hpl:(backTo pos (starEach es X.env)).any (·.1)=false:=by rfl):SE X ct W (.Call (.Name x p) (a::es) [] pos) (yN op ms):=by
 obtain⟨r,hr,hs⟩:=h
 exact iB (Vv hr hg hm hv ha hn hdb he hpl) fun σ H Q q=>Ut hs q
theorem mF(h:qZ X ct (.type T) op)(hg:Gl X x)(hm:X.mg x=none)(hv:bootBuiltins x=some (.type T))(ha:SA X ct W (a::es) ms)(hn:x≠ "__name__" := by decide)(hdb:(x==("__debug__" : Str))=false:=by decide)
  (he:starEach (a::es) X.env=(false,eval a X.env)::starEach es X.env:=by rfl) (hpl:(backTo pos (starEach es X.env)).any (·.1)=false:=by rfl):SE X ct W (.Call (.Name x p) (a::es) [] pos) (yN op ms):=by
 obtain⟨r,hr,hs⟩:=h
 exact iB (RX hr hg hm hv ha hn hdb he hpl) fun σ H Q q=>Ut hs q
end
end S
namespace S
open PySem PySem.Spec PyProof.Rows L2
section
variable{X:Cx}{ct:Nat→Addr}{W:bG}
theorem pM{K:PySem.W.Frag}{ι:Nat→Addr}{n:Nat}{H:Hp}{i:Int}{v:V}(h:DV K ct ι n H (.int i) v):v= .int i:=by cases h;rfl
theorem jE{K:PySem.W.Frag}{ι:Nat→Addr}{n:Nat}{H:Hp}{i:Str}{v:V}(h:DV K ct ι n H (.str i) v):v= .str i:=by cases h;rfl
theorem O_{K:PySem.W.Frag}{ι:Nat→Addr}{n:Nat}{H:Hp}{ds:List D}{v:V}(h:DV K ct ι n H (.tup ds) v):∃a xs,v= .ref a∧wM K H a xs∧o5 K ct ι n H ds xs:=by cases h with | tup a b=>exact⟨_,_,rfl,wM.of a,b⟩
theorem rE{K:PySem.W.Frag}{ι:Nat→Addr}{n:Nat}{H:Hp}{ds:List D}{v:V}(h:DV K ct ι n H (.tup ds) v):∃a xs,v= .ref a∧H a=some (.tup xs)∧o5 K ct ι n H ds xs:=by cases h with | tup a b=>exact⟨_,_,rfl,a,b⟩
def tX(M:Mem)(n:Nat):Option (List D):=match M[n]? with
 | some (.lst ds)=>some ds
 | _=>none
theorem dU{M:Mem}{n:Nat}{ds:List D}(h:M[n]? = some (.lst ds)):tX M n=some ds:=by unfold tX;rw[h]
theorem uF{M:Mem}{n:Nat}{ds:List D}:tX M n=some ds↔M[n]? = some (.lst ds):=by
 refine⟨fun h=> ?_,dU⟩
 unfold tX at h
 split at h
 ·rename_i e;cases h;exact e
 ·cases h
def yD(M:Mem)(d:D):Option (List D):=match d with
 | .ref n=>tX M n
 | .cl ds=>some ds
 | _=>none
theorem Rl.seq{K:PySem.W.Frag}{ι:Nat→Addr}{M:Mem}{H:Hp}(R:Rl K ct ι M H){d:D}{v:V}{ds:List D}(h:yD M d=some ds)(q:DV K ct ι M.length H d v):∃a xs,v= .ref a∧yQ K H a xs∧o5 K ct ι M.length H ds xs:=by
 cases q with
 | @ref i hi=>obtain⟨vs,q,r⟩:=R.obj i _ (uF.mp h);exact⟨_,vs,rfl,yQ.of q,r⟩
 | cl h1 h2=>cases h;exact⟨_,_,rfl,h1.sq,h2⟩
 | _=>cases h
def Ng(C:Int→Int→Bool)(g:Int→Int→D):tH:=fun d e M=>match d,e with
 | .int i,.int j=>if C i j=true then .ok (g i j) M else .bad
 | _,_=> .bad
theorem Qt{C:Int→Int→Bool}{P:Int→Int→Prop}{g:Int→Int→D}{gv:Int→Int→V}(hP:∀i j,C i j=true→P i j)(hg:∀(K:PySem.W.Frag) ι n H i j,DV K ct ι n H (g i j) (gv i j)):Ni X.K ct (Ng C g) (rI P gv):=by
 intro w ι M H d d' v v' Q R h h' p
 cases d with
 | int i=>
  cases d' with
  | int j=>
   cases pM h
   cases pM h'
   simp only[Ng]at p
   cases z:C i j with
   | false=>simp only[z,Bool.false_eq_true,if_false]at p;exact p.elim
   | true=>
    simp only[z,if_true]at p
    exact⟨i,j,rfl,rfl,hP i j z,p ι _ H .refl R (hg _ _ _ _ _ _)⟩
  | _=>exact p.elim
 | _=>cases d'<;>exact p.elim
def C1:Int→Int→Bool:=fun _ _=>true
theorem aaC{g:Int→Int→V}{x y:V}{H:Hp}{Q:VK}(h:rI (fun _ _=>True) g x y H Q):Xc g x y H Q:=let⟨i,j,a,b,_,q⟩:=h;⟨i,j,a,b,q⟩
theorem Ni.imp{K:PySem.W.Frag}{op:tH}{r r':R2}(h:Ni K ct op r)(i:∀x y H Q,r x y H Q→r' x y H Q):Ni K ct op r':=fun ι M H d d' v v' Q R a b p=>i _ _ _ _ (h ι M H d d' v v' Q R a b p)
theorem uT{f:Value→Value→Sem Value}{g:Int→Int→D}{gv:Int→Int→V}(h:wX X f (Xc gv))(hg:∀(K:PySem.W.Frag) ι n H i j,DV K ct ι n H (g i j) (gv i j)):kI X ct f (Ng C1 g):=
 ⟨_,h,Ni.imp (Qt (P:=fun _ _=>True) (fun _ _ _=>trivial) hg) fun _ _ _ _ q=>aaC q⟩
theorem Aw{f:Value→Value→Sem Value}{C:Int→Int→Bool}{P:Int→Int→Prop}{g:Int→Int→D}{gv:Int→Int→V}(h:wX X f (rI P gv))(hP:∀i j,C i j=true→P i j)(hg:∀(K:PySem.W.Frag) ι n H i j,DV K ct ι n H (g i j) (gv i j)):kI X ct f (Ng C g):=
 ⟨_,h,Qt hP hg⟩
def wQ(a b:tH):tH:=fun d e M=>match a d e M with
 | .bad=>b d e M
 | o=>o
theorem Ni.or{K:PySem.W.Frag}{a b:tH}{r r':R2}(ha:Ni K ct a r)(hb:Ni K ct b r'):Ni K ct (wQ a b) (fun x y H Q=>r x y H Q∨r' x y H Q):=by
 intro w ι M H d d' v v' Q R q q' p
 unfold wQ at p
 cases z:a d d' M with
 | ok x M1=>rw[z]at p;exact .inl (ha ι M H d d' v v' Q R q q' (by rw[z];exact p))
 | exc xc xd xM=>rw[z]at p;exact .inl (ha ι M H d d' v v' Q R q q' (by rw[z];exact p))
 | bad=>rw[z]at p;exact .inr (hb ι M H d d' v v' Q R q q' p)
theorem pU{a b:tH}{d e x:D}{M M':Mem}(h:a d e M= .ok x M'):wQ a b d e M= .ok x M':=by unfold wQ;rw[h]
theorem uC{a b:tH}{d e:D}{M:Mem}(h:a d e M= .bad):wQ a b d e M=b d e M:=by unfold wQ;rw[h]
theorem kI.or{f:Value→Value→Sem Value}{a b:tH}(ha:kI X ct f a)(hb:kI X ct f b):kI X ct f (wQ a b):=by
 obtain⟨r,h,hs⟩:=ha
 obtain⟨r',h',hs'⟩:=hb
 refine⟨_,h.or h',fun ι M H d d' v v' Q R q q' p=> ?_⟩
 unfold wQ at p
 cases z:a d d' M with
 | ok x M1=>rw[z]at p;exact .inl (hs ι M H d d' v v' Q R q q' (by rw[z];exact p))
 | exc xc xd xM=>rw[z]at p;exact .inl (hs ι M H d d' v v' Q R q q' (by rw[z];exact p))
 | bad=>rw[z]at p;exact .inr (hs' ι M H d d' v v' Q R q q' p)
def acA(i j:Int):Bool:=decide ((-(2 ^ 64)<i∧i<2 ^ 64)∨(-(2 ^ 64)<j∧j<2 ^ 64))
def acB(_ j:Int):Bool:=decide (0<j∧j<1073741824)
def agJ(_ j:Int):Bool:=decide (0<j)
def W2(i j:Int):Bool:=decide (0≤j∧j≤1000000∧i.natAbs<2 ^ 64)
def ZG:tH:=Ng C1 fun i j=> .int (i+j)
def Gm:tH:=Ng C1 fun i j=> .int (i - j)
def U0:tH:=Ng acA fun i j=> .int (i*j)
def Ob:tH:=Ng acB fun i j=> .int (i / j)
def lW:tH:=Ng agJ fun i j=> .int (i % j)
def Ei:tH:=Ng W2 fun i j=> .int (i ^ j.toNat)
def UT:tH:=Ng W2 fun i j=> .int (i*2 ^ j.toNat)
def ady:tH:=Ng C1 fun i j=> .bl (decide (i<j))
def U4:tH:=Ng C1 fun i j=> .bl (decide (i≤j))
def Oa:tH:=Ng C1 fun i j=> .bl (decide (j<i))
def aax:tH:=Ng C1 fun i j=> .bl (decide (j≤i))
theorem Zj:kI X ct (binaryOp .Add) ZG:=uT abb fun _ _ _ _ _ _=> .int _
theorem Cg:kI X ct (binaryOp .Sub) Gm:=uT aa1 fun _ _ _ _ _ _=> .int _
theorem Zg:kI X ct (binaryOp .Mult) U0:=Aw aa5 (fun i j h=>by unfold acA at h;exact(decide_eq_true_eq.mp h :)) fun _ _ _ _ _ _=> .int _
theorem WX:kI X ct (binaryOp .FloorDiv) Ob:=Aw Yh (fun i j h=>by unfold acB at h;exact(decide_eq_true_eq.mp h :)) fun _ _ _ _ _ _=> .int _
theorem ir:kI X ct (binaryOp .Mod) lW:=Aw aa6 (fun _ _ h=>of_decide_eq_true h) fun _ _ _ _ _ _=> .int _
theorem Pa:kI X ct (binaryOp .Pow) Ei:=Aw aa3 (fun i j h=>by unfold W2 at h;exact(decide_eq_true_eq.mp h :)) fun _ _ _ _ _ _=> .int _
theorem WR:kI X ct (binaryOp .LShift) UT:=Aw aa2 (fun i j h=>by unfold W2 at h;exact(decide_eq_true_eq.mp h :)) fun _ _ _ _ _ _=> .int _
theorem agH:kI X ct (compareOp .Lt) ady:=uT aeo fun _ _ _ _ _ _=> .bl _
theorem WW:kI X ct (compareOp .LtE) U4:=uT aep fun _ _ _ _ _ _=> .bl _
theorem Mu:kI X ct (compareOp .Gt) Oa:=uT aeq fun _ _ _ _ _ _=> .bl _
theorem agI:kI X ct (compareOp .GtE) aax:=uT aer fun _ _ _ _ _ _=> .bl _
def aay:tH:=fun d e M=>match d,e with
 | .ref n,.ref m=>match M[n]?,M[m]? with
  | some (.lst xs),some (.lst ys)=>if xs.length+ys.length≤sizeLine then .ok (.ref M.length) (M++[.lst (xs++ys)])else .bad
  | _,_=> .bad
 | _,_=> .bad
theorem acy:kI X ct (binaryOp .Add) aay:=by
 refine⟨_,aba,fun ι M H d d' v v' Q R h h' p=> ?_⟩
 cases d with
 | ref n=>
  cases d' with
  | ref m=>
   obtain⟨_,rfl⟩:=uv h
   obtain⟨_,rfl⟩:=uv h'
   simp only[aay]at p
   split at p
   ·rename_i xs ys e1 e2
    split at p
    ·rename_i hz
     obtain⟨vs,q,r⟩:=R.obj n _ e1
     obtain⟨vs',q',r'⟩:=R.obj m _ e2
     exact⟨_,_,vs,vs',rfl,rfl,q,q',by rw[r.length,r'.length];exact hz,fun pp hp=>rW R (r.append r') hp p⟩
    ·exact p.elim
   ·exact p.elim
  | _=>exact p.elim
 | _=>cases d'<;>exact p.elim
def Vb:tH:=fun d e M=>match d,e with
 | .str a,.str b=>if a.length+b.length≤sizeLine then .ok (.str (a++b)) M else .bad
 | _,_=> .bad
theorem Zi:kI X ct (binaryOp .Add) Vb:=by
 refine⟨_,Om,fun ι M H d d' v v' Q R h h' p=> ?_⟩
 unfold Vb at p
 split at p
 ·cases jE h
  cases jE h'
  split at p
  ·rename_i hz
   exact⟨_,_,rfl,rfl,hz,p ι _ H .refl R (.str _)⟩
  ·exact p.elim
 ·exact p.elim
def Qi:tH:=fun d e M=>match d,e with
 | .str a,.int n=>if a.length≤1000∧ -(2 ^ 62)<n∧n≤1000 then .ok (.str (PySem.Txt.mul a n)) M else .bad
 | _,_=> .bad
theorem Zf:kI X ct (binaryOp .Mult) Qi:=by
 refine⟨_,Ol,fun ι M H d d' v v' Q R h h' p=> ?_⟩
 unfold Qi at p
 split at p
 ·cases jE h
  cases pM h'
  split at p
  ·rename_i hz
   exact⟨_,_,rfl,rfl,mulOk_of hz.1 hz.2.1 hz.2.2,p ι _ H .refl R (.str _)⟩
  ·exact p.elim
 ·exact p.elim
def yE:tH:=wQ U0 Qi
theorem FP:kI X ct (binaryOp .Mult) yE:=Zg.or Zf
def Qm:tH:=fun d e M=>match d,e with
 | .tup xs,.tup ys=>if xs.isEmpty=false∧xs.length+ys.length≤sizeLine then .ok (.tup (xs++ys)) M else .bad
 | _,_=> .bad
theorem Zh:kI X ct (binaryOp .Add) Qm:=by
 refine⟨_,Yi,fun ι M H d d' v v' Q R h h' p=> ?_⟩
 unfold Qm at p
 split at p
 ·rename_i xs ys
  obtain⟨a,vs,rfl,ha,hd⟩:=rE h
  obtain⟨b,us,rfl,hb,hd'⟩:=rE h'
  split at p
  ·rename_i hz
   have l1:=hd.length
   have l2:=hd'.length
   refine⟨a,b,vs,us,rfl,rfl,wM.of ha,wM.of hb,fun z=> ?_,by omega,fun z=> ?_,fun _ pp hp=>z7 R (hd.append hd') hp p⟩
   ·rw[z]at l1
    have:=hz.1
    cases xs with
    | nil=>cases this
    | cons _ _=>simp at l1
   ·subst z
    have e:ys=[]:=List.length_eq_zero_iff.mp l2.symm
    subst e
    rw[List.append_nil]at p
    exact p ι _ H .refl R (.tup ha hd)
  ·exact p.elim
 ·exact p.elim
def j0:tH:=wQ (wQ ZG aay) (wQ Vb Qm)
theorem jF:kI X ct (binaryOp .Add) j0:=(Zj.or acy).or (Zi.or Zh)
def aas:tH:=fun d e M=>match d,e with
 | .str a,.str b=> .ok (.bl (decide (a.cps.toList<b.cps.toList))) M
 | _,_=> .bad
theorem acs:kI X ct (compareOp .Lt) aas:=by
 refine⟨_,R8,fun ι M H d d' v v' Q R h h' p=> ?_⟩
 unfold aas at p
 split at p
 ·cases jE h
  cases jE h'
  exact⟨_,_,rfl,rfl,p ι _ H .refl R (.bl _)⟩
 ·exact p.elim
def ue:List D→Option (List Int)
 | []=>some []
 | .int i::r=>(ue r).map (i:: ·)
 | _=>none
theorem uz{K:PySem.W.Frag}{ι:Nat→Addr}{n:Nat}{H:Hp}:∀{ds:List D} {is:List Int} {vs:List V},ue ds=some is→o5 K ct ι n H ds vs→vs=is.map V.int
 | [],_,_,h,.nil=>by cases h;rfl
 | d::r,is,_,h,.cons q qs=>by
  cases q with
  | int i=>
   simp only[ue]at h
   obtain⟨js,h1,rfl⟩:=Option.map_eq_some_iff.mp h
   rw[uz h1 qs]
   rfl
  | _=>simp only[ue]at h;cases h
def aar:tH:=fun d e M=>match d,e with
 | .tup xs,.tup ys=>match ue xs,ue ys with
  | some is,some js=> .ok (.bl (HT.lexLt is js)) M
  | _,_=> .bad
 | _,_=> .bad
theorem acr(hu:X.A.units+64<cLine):kI X ct (compareOp .Lt) aar:=by
 refine⟨_,aa7 (by omega),fun ι M H d d' v v' Q R h h' p=> ?_⟩
 unfold aar at p
 split at p
 ·obtain⟨a,vs,rfl,ha,hd⟩:=rE h
  obtain⟨b,us,rfl,hb,hd'⟩:=rE h'
  split at p
  ·rename_i is js e1 e2
   have x1:=uz e1 hd
   have x2:=uz e2 hd'
   subst x1 x2
   exact⟨a,b,is,js,rfl,rfl,wM.of ha,wM.of hb,p ι _ H .refl R (.bl _)⟩
  ·exact p.elim
 ·exact p.elim
def sLt:tH:=wQ (wQ ady aas) aar
theorem Ko(hu:X.A.units+64<cLine):kI X ct (compareOp .Lt) sLt:=(agH.or acs).or (acr hu)
def XC:D→Mem→Out D:=fun d M=>match d with
 | .int i=> .ok (.int (-i)) M
 | _=> .bad
theorem Uc:UnS X ct (unaryOp .USub) XC:=⟨_,aab,fun ι M H d v Q R h p=>by
 cases d with
 | int i=>cases pM h;exact⟨i,rfl,p ι _ H .refl R (.int _)⟩
 | _=>exact p.elim⟩
def tM(f:D→Option Dt):List D→Option (List Dt)
 | []=>some []
 | d::ds=>match f d,tM f ds with
  | some t,some ts=>some (t::ts)
  | _,_=>none
def jM(M:Mem):Nat→D→Option Dt
 | 0,_=>none
 | k+1,d=>match d with
  | .non=>some .non
  | .bl b=>some (.bl b)
  | .int i=>some (.int i)
  | .str x=>some (.str x)
  | .tup ds=>(tM (jM M k) ds).map .tup
  | .ref n=>match tX M n with
   | some ds=>(tM (jM M k) ds).map .lst
   | none=>none
  | .cl ds=>(tM (jM M k) ds).map .lst
  | .ty _=>none
  | .cls _=>none
  | .exc _ _=>none
theorem Dq{K:PySem.W.Frag}{ι:Nat→Addr}{n:Nat}{H:Hp}{k:Nat}{f:D→Option Dt}(hf:∀d t v,f d=some t→DV K ct ι n H d v→Is K H v t∧dep t≤k):
  ∀{ds:List D} {ts:List Dt} {vs:List V},tM f ds=some ts→o5 K ct ι n H ds vs→Nj K H vs ts∧deps ts≤k
 | [],ts,_,h,.nil=>by cases h;exact⟨.nil,by unfold deps;exact Nat.zero_le _⟩
 | d::ds,ts,_,h,.cons q qs=>by
  simp only[tM]at h
  cases z:f d with
  | none=>rw[z]at h;cases h
  | some t=>
   cases z2:tM f ds with
   | none=>rw[z,z2]at h;cases h
   | some ts'=>
    rw[z,z2]at h
    cases h
    obtain⟨a,b⟩:=hf d t _ z q
    obtain⟨a',b'⟩:=Dq hf z2 qs
    exact⟨.cons a a',by unfold deps;exact Nat.max_le.mpr ⟨b,b'⟩⟩
theorem zN{K:PySem.W.Frag}{ι:Nat→Addr}{M:Mem}{H:Hp}(R:Rl K ct ι M H):∀(k:Nat) (d:D) (t:Dt) (v:V),jM M k d=some t→DV K ct ι M.length H d v→Is K H v t∧dep t≤k
 | 0,d,t,v,h,_=>by simp only[jM]at h;cases h
 | k+1,d,t,v,h,q=>by
  cases q with
  | non=>simp only[jM]at h;cases h;exact⟨.non,by unfold dep;exact Nat.zero_le _⟩
  | bl b=>simp only[jM]at h;cases h;exact⟨.bl b,by unfold dep;exact Nat.zero_le _⟩
  | int b=>simp only[jM]at h;cases h;exact⟨.int b,by unfold dep;exact Nat.zero_le _⟩
  | str b=>simp only[jM]at h;cases h;exact⟨.str b,by unfold dep;exact Nat.zero_le _⟩
  | ty b=>simp only[jM]at h;cases h
  | cls b=>simp only[jM]at h;cases h
  | exc _ _ _=>simp only[jM]at h;cases h
  | @tup a xs ds hs hd=>
   simp only[jM]at h
   cases z:tM (jM M k) ds with
   | none=>rw[z]at h;cases h
   | some ts=>
    rw[z]at h
    cases h
    obtain⟨a,b⟩:=Dq (fun d t v=>zN R k d t v) z hd
    exact⟨.tup (wM.of hs) a,by unfold dep;omega⟩
  | @ref i hi=>
   simp only[jM]at h
   cases z0:tX M i with
   | none=>rw[z0]at h;cases h
   | some ds=>
    rw[z0]at h
    obtain⟨xs,hs,hd⟩:=R.obj i _ (uF.mp z0)
    cases z:tM (jM M k) ds with
    | none=>simp only[z]at h;cases h
    | some ts=>
     simp only[z]at h
     cases h
     obtain⟨a,b⟩:=Dq (fun d t v=>zN R k d t v) z hd
     exact⟨.lst (yQ.of hs) a,by unfold dep;omega⟩
  | @cl a xs ds hs hd=>
   simp only[jM]at h
   cases z:tM (jM M k) ds with
   | none=>rw[z]at h;cases h
   | some ts=>
    rw[z]at h
    cases h
    obtain⟨a,b⟩:=Dq (fun d t v=>zN R k d t v) z hd
    exact⟨.lst hs.sq a,by unfold dep;omega⟩
def Q5(M:Mem)(d e:D):Option Bool:=match jM M 12 d,jM M 12 e with
 | some a,some b=>some (cF a b)
 | _,_=>none
def sEq:tH:=fun d e M=>match Q5 M d e with
 | some b=> .ok (.bl b) M
 | none=> .bad
def sNe:tH:=fun d e M=>match Q5 M d e with
 | some b=> .ok (.bl (!b)) M
 | none=> .bad
theorem Wo{K:PySem.W.Frag}{ι:Nat→Addr}{M:Mem}{H:Hp}{d e:D}{v u:V}{b:Bool}(R:Rl K ct ι M H)(h:Q5 M d e=some b)(q:DV K ct ι M.length H d v)(q':DV K ct ι M.length H e u):∃x y,Is K H v x∧Is K H u y∧dep x≤20∧b=cF x y:=by
 unfold Q5 at h
 cases z:jM M 12 d with
 | none=>rw[z]at h;cases h
 | some x=>
  cases z2:jM M 12 e with
  | none=>rw[z,z2]at h;cases h
  | some y=>
   rw[z,z2]at h
   cases h
   obtain⟨a,c⟩:=zN R 12 d x v z q
   obtain⟨a',_⟩:=zN R 12 e y u z2 q'
   exact⟨x,y,a,a',by omega,rfl⟩
theorem Av(hu:X.A.units+64<cLine):kI X ct (compareOp .Eq) sEq:=by
 refine⟨_,aa_ hu,fun ι M H d d' v v' Q R h h' p=> ?_⟩
 unfold sEq at p
 cases z:Q5 M d d' with
 | none=>rw[z]at p;exact p.elim
 | some b=>
  rw[z]at p
  obtain⟨x,y,a,a',hd,rfl⟩:=Wo R z h h'
  exact⟨x,y,a,a',hd,p ι _ H .refl R (.bl _)⟩
theorem HQ(hu:X.A.units+64<cLine):kI X ct (compareOp .NotEq) sNe:=by
 refine⟨_,aa4 hu,fun ι M H d d' v v' Q R h h' p=> ?_⟩
 unfold sNe at p
 cases z:Q5 M d d' with
 | none=>rw[z]at p;exact p.elim
 | some b=>
  rw[z]at p
  obtain⟨x,y,a,a',hd,rfl⟩:=Wo R z h h'
  exact⟨x,y,a,a',hd,p ι _ H .refl R (.bl _)⟩
def isN(d:D):Bool:=match d with
 | .non=>true
 | _=>false
theorem abz{K:PySem.W.Frag}{ι:Nat→Addr}{n:Nat}{H:Hp}{d:D}{v:V}(q:DV K ct ι n H d v):decide (v= .non)=isN d:=by
 cases q<;>simp[isN]
def sIs:tH:=fun d e M=>match e with
 | .non=> .ok (.bl (isN d)) M
 | _=> .bad
theorem Z5:kI X ct (compareOp .Is) sIs:=by
 refine⟨_,aa9,fun ι M H d d' v v' Q R h h' p=> ?_⟩
 cases h' with
 | non=>exact⟨rfl,p ι _ H .refl R (by rw[abz h];exact .bl _)⟩
 | _=>exact p.elim
theorem o5.Gy{K:PySem.W.Frag}{ι:Nat→Addr}{n:Nat}{H:Hp}{ds:List D}{vs:List V}{i:Int}{d:D}(h:o5 K ct ι n H ds vs)(e:L2.Gy ds i=some d):∃v,L2.Gy vs i=some v∧DV K ct ι n H d v:=by
 unfold L2.Gy at*
 rw[h.length]
 cases z:ixN ds.length i with
 | none=>rw[z]at e;cases e
 | some j=>rw[z]at e;exact h.at e
variable{a b:Expr}{ma mb:ME}{pos:Pos}
section
variable{κ:Type}[DecidableEq κ]
def Gi(kvs:List (κ×D))(k:κ):Option D:=(kvs.find? fun kv=>decide (kv.1=k)).map (·.2)
variable{K:PySem.W.Frag}{ι:Nat→Addr}{n:Nat}{H:Hp}
theorem TY.val:∀{kvs:List (κ×D)} {vs:List (κ×V)},TY K ct ι n H kvs vs→∀k,(∀d,Gi kvs k=some d→∃v,yU vs k=some v∧DV K ct ι n H d v)∧(Gi kvs k=none→yU vs k=none)
 | _,_,.nil,k=>⟨fun d h=>by simp[Gi]at h,fun _=>rfl⟩
 | _,_,.cons (x:=x) (d:=d) (v:=v) (fs:=fs) h hs,k=>by
  by_cases e:x=k
  ·have e1:Gi ((x,d)::fs) k=some d:=by simp[Gi,e]
   rw[e1,DN (p:=(x,v)) e]
   exact⟨fun d' q=>by cases q;exact⟨_,rfl,h⟩,fun q=>by cases q⟩
  ·have e1:Gi ((x,d)::fs) k=Gi fs k:=by simp[Gi,e]
   rw[e1,DP (p:=(x,v)) e]
   exact hs.val k
end
def toKey:D→Option Key
 | .int i=>some (.inl i)
 | .str s=>some (.inr s)
 | _=>none
def toKeys:List D→Option (List Key)
 | []=>some []
 | d::r=>match toKey d,toKeys r with
  | some k,some ks=>some (k::ks)
  | _,_=>none
section
variable{K:PySem.W.Frag}{ι:Nat→Addr}{n:Nat}{H:Hp}
theorem KY{d:D}{k:Key}{v:V}(h:toKey d=some k)(q:DV K ct ι n H d v):v=kV k:=by
 cases q<;>simp only[toKey]at h<;>cases h<;>rfl
theorem Bb:∀{ds:List D} {ks:List Key} {vs:List V},toKeys ds=some ks→o5 K ct ι n H ds vs→vs=ks.map kV
 | [],ks,_,h,.nil=>by cases h;rfl
 | d::r,ks,_,h,.cons q qs=>by
  simp only[toKeys]at h
  cases z:toKey d with
  | none=>rw[z]at h;cases h
  | some k=>
   cases z2:toKeys r with
   | none=>rw[z,z2]at h;cases h
   | some kr=>
    rw[z,z2]at h
    cases h
    rw[KY z q,Bb z2 qs]
    rfl
end
def abL(M:Mem)(n:Nat)(y:D):Option (Option D×Mem):=match M[n]? with
 | some (.dk kvs)=>match toKey y with
  | some k=>some (Gi kvs k,M)
  | none=>match y with
   | .tup ds=>match toKeys ds with
    | some _=>if kvs.isEmpty=true then some (none,M.set n (.dt []))else none
    | none=>none
   | _=>none
 | some (.dt kvs)=>match y with
  | .tup ds=>match toKeys ds with
   | some k=>some (Gi kvs k,M)
   | none=>none
  | _=>none
 | _=>none
theorem Y0{K:PySem.W.Frag}{ι:Nat→Addr}{M M':Mem}{H:Hp}{n:Nat}{y:D}{vy:V}{o:Option D}(R:Rl K ct ι M H)(h:abL M n y=some (o,M'))(hn:n<M.length)(q:DV K ct ι M.length H y vy):
  ∃ov H',al7 H (ι n) vy ov H'∧Ext K ι M.length H ι M'.length H'∧Rl K ct ι M' H'∧(∀d,o=some d→∃v,ov=some v∧DV K ct ι M'.length H' d v∧H'=H∧M'=M)∧(o=none→ov=none):=by
 unfold abL at h
 split at h
 ·rename_i kvs e
  obtain⟨vs,hH,pv⟩:=R.obj n _ e
  split at h
  ·rename_i k ek
   cases h
   have ey:=KY ek q
   subst ey
   refine⟨yU vs k,H,.inl ⟨GX.k hH,rfl⟩,.refl,R,fun d hd=> ?_,fun hd=>(pv.val k).2 hd⟩
   obtain⟨v,h1,h2⟩:=(pv.val k).1 d hd
   exact⟨v,h1,h2,rfl,rfl⟩
  ·split at h
   ·rename_i ds
    split at h
    ·rename_i ks eks
     split at h
     ·rename_i hem
      cases h
      have ek:kvs=[]:=List.isEmpty_iff.mp hem
      subst ek
      cases pv
      obtain⟨b,xs,rfl,hb,hd⟩:=rE q
      have ex:=Bb eks hd
      subst ex
      have x2:Ext K ι M.length H ι M.length (upd H (ι n) (.dT [])):=Ext.chg hH (fun _ z=>nomatch z) (fun _ _ z=>nomatch z)
      refine⟨none,upd H (ι n) (.dT []),.inr ⟨hH,⟨ks,b,rfl,hb⟩,rfl,rfl⟩,by rw[List.length_set];exact x2,R.chg hn hH (fun _ z=>nomatch z) (fun _ _ z=>nomatch z) ⟨[],d7,.nil⟩,(fun d hd=>nomatch hd),fun _=>rfl⟩
     ·cases h
    ·cases h
   ·cases h
 ·rename_i kvs e
  obtain⟨vs,hH,pv⟩:=R.obj n _ e
  split at h
  ·rename_i ds
   split at h
   ·rename_i ks eks
    cases h
    obtain⟨b,xs,rfl,hb,hd⟩:=rE q
    have ex:=Bb eks hd
    subst ex
    refine⟨yU vs ks,H,.inl ⟨GX.t hH hb,rfl⟩,.refl,R,fun d hd=> ?_,fun hd=>(pv.val ks).2 hd⟩
    obtain⟨v,h1,h2⟩:=(pv.val ks).1 d hd
    exact⟨v,h1,h2,rfl,rfl⟩
   ·cases h
  ·cases h
 ·cases h
def aaw:tH:=fun d y M=>match d with
 | .ref n=>match abL M n y with
  | some (some v,_)=> .ok v M
  | _=> .bad
 | _=> .bad
theorem aa0{K:PySem.W.Frag}:Ni K ct aaw adN:=by
 intro w ι M H d d' v v' Q R h h' p
 cases d with
 | ref n=>
  obtain⟨hn,rfl⟩:=uv h
  simp only[aaw]at p
  split at p
  ·rename_i x M' e
   obtain⟨ov,H',g,_,_,h1,_⟩:=Y0 R e hn h'
   obtain⟨vx,rfl,dv,rfl,rfl⟩:=h1 x rfl
   rcases g with⟨g,_⟩ | ⟨_,_,z,_⟩
   ·exact⟨_,vx,rfl,g,p ι vx _ .refl R dv⟩
   ·cases z
  ·exact p.elim
 | _=>exact p.elim
def Le:tH:=fun d e M=>match e with
 | .int i=>match d with
  | .tup ds=>match L2.Gy ds i with
   | some x=> .ok x M
   | none=> .bad
  | d=>match yD M d with
   | some ds=>match L2.Gy ds i with
    | some x=> .ok x M
    | none=> .bad
   | none=> .bad
 | _=> .bad
theorem aaZ:Ni X.K ct Le (fun x y H Q=>adM X.K x y H Q∨adK X.K x y H Q):=by
 intro w ι M H d d' v v' Q R h h' p
 cases d' with
 | int i=>
  cases pM h'
  cases d with
  | tup ds=>
   obtain⟨aa,xs,rfl,hs,hd⟩:=O_ h
   simp only[Le]at p
   cases z:L2.Gy ds i with
   | none=>rw[z]at p;exact p.elim
   | some x=>
    rw[z]at p
    obtain⟨v,e,dv⟩:=hd.Gy z
    exact .inr ⟨_,_,_,_,rfl,rfl,hs,e,p ι v H .refl R dv⟩
  | _=>
   simp only[Le]at p
   split at p
   ·rename_i ds z0
    obtain⟨aa,xs,rfl,hs,hd⟩:=R.seq z0 h
    cases z:L2.Gy ds i with
    | none=>rw[z]at p;exact p.elim
    | some x=>
     rw[z]at p
     obtain⟨v,e,dv⟩:=hd.Gy z
     exact .inl ⟨_,_,_,_,rfl,rfl,hs,e,p ι v H .refl R dv⟩
   ·exact p.elim
 | _=>exact p.elim
def aav:tH:=fun d e M=>match d,e with
 | .str z,.int i=>match L2.Gy z.cps.toList i with
  | some c=>if z.length≤sizeLine then .ok (.str ⟨#[c]⟩) M else .bad
  | none=> .bad
 | _,_=> .bad
theorem aaY{K:PySem.W.Frag}:Ni K ct aav adL:=by
 intro w ι M H d d' v v' Q R h h' p
 unfold aav at p
 split at p
 ·rename_i z i
  cases jE h
  cases pM h'
  cases e:L2.Gy z.cps.toList i with
  | none=>rw[e]at p;exact p.elim
  | some c=>
   rw[e]at p
   dsimp only at p
   split at p
   ·rename_i hz
    exact⟨z,i,c,rfl,rfl,hz,e,p ι _ H .refl R (.str _)⟩
   ·exact p.elim
 ·exact p.elim
def bx:tH:=wQ (wQ Le aaw) aav
theorem bF(hu:X.A.units+64<cLine)(ha:SE X ct W a ma)(hb:SE X ct W b mb)(hs:Rm b:=by exact fun _ _=>rfl):SE X ct W (.Subscript a b pos) (aK bx ma mb):=
 iB (aek (((YF.or abw).or (YG (by omega))).or abx) ha hb hs) fun σ H Q q=>IV (Ni.or (Ni.or aaZ aa0) aaY) q
def cut{α:Type}(xs:List α)(lo hi:Option Int):List α:=(xs.drop (HT.bx xs.length 0 lo)).take (HT.bx xs.length xs.length hi - HT.bx xs.length 0 lo)
theorem o5.cut{K:PySem.W.Frag}{ι:Nat→Addr}{n:Nat}{H:Hp}{ds:List D}{vs:List V}(h:o5 K ct ι n H ds vs)(lo hi:Option Int):o5 K ct ι n H (S.cut ds lo hi) (Mp vs lo hi):=by
 unfold S.cut Mp
 rw[h.length]
 exact(h.drop _).take _
abbrev MO':=Sl→Mem→Out (Option Int)
def ajZ:(Nat→Addr)→Mem→Hp→Option Int→Option Int→Prop:=fun _ _ _ a b=>a=b
def SO(X:Cx)(ct:Nat→Addr)(W:bG)(e:Option Expr)(m:MO'):Prop:=PO X e (tG ajZ X.K ct W m)
def asI(d:D)(M:Mem):Out (Option Int):=match d with
 | .int i=> .ok (some i) M
 | _=> .bad
def pY:MO':=fun _ M=> .ok none M
def wC(m:ME):MO':=fun e M=>(m e M).bind asI
theorem tQ:SO X ct W none pY:=fun pins s σ H Q I ⟨ι,e,M,w,p⟩=>X8 pins s σ H Q I (p ι none H .refl w.rl rfl)
theorem pR(h:SE X ct W a ma):SO X ct W (some a) (wC ma):=fun pins s σ H Q I q=>X7 h pins s σ H Q I (by
 obtain⟨ι,e,M,w,p⟩:=cG (gM:=gw X.K ct) (f:=fun d _ M1=>asI d M1) q
 refine⟨ι,e,M,w,p.mono fun v H1 ⟨gK,e1,M1,d,w1,q1,p1⟩=> ?_⟩
 cases q1 with
 | int i=>exact⟨i,rfl,p1 gK _ H1 .refl w1.rl rfl⟩
 | _=>exact p1.elim)
def Ge(d:D)(lo hi:Option Int)(M:Mem):Out D:=match d with
 | .tup ds=>if HT.bx ds.length 0 lo=0∧HT.bx ds.length ds.length hi=ds.length then .bad else .ok (.tup (cut ds lo hi)) M
 | .str u=>if u.length≤sizeLine then .ok (.str (Txt.slice u lo hi)) M else .bad
 | d=>match yD M d with
  | some ds=> .ok (.ref M.length) (M++[.lst (cut ds lo hi)])
  | none=> .bad
def VR(m:ME)(lo hi:MO'):ME:=fun e M=>(m e M).bind fun d M1=>(lo e M1).bind fun l M2=>(hi e M2).bind fun h M3=>Ge d l h M3
theorem zQ{lo hi:Option Expr}{ml mh:MO'}{p2:Pos}(ha:SE X ct W a ma)(hl:SO X ct W lo ml)(hh:SO X ct W hi mh):SE X ct W (.Subscript a (.Slice lo hi none p2) pos) (VR ma ml mh):=by
 refine iB (Vp ((Xw.or aaj).or aak) ha hl hh) fun σ H Q q=> ?_
 obtain⟨ι,e,M,w,p⟩:=cG (gM:=gw X.K ct) (f:=fun d e M1=>(ml e M1).bind fun l M2=>(mh e M2).bind fun h M3=>Ge d l h M3) q
 refine⟨ι,e,M,w,p.mono fun v H1 ⟨gK,e1,M1,d,w1,q1,p1⟩=> ?_⟩
 refine⟨gK,e1,M1,w1,?_⟩
 cases z:ml e1 M1 with
 | bad=>simp only[z,Out.jm]at p1;exact p1
 | exc xc xd xM=>simp only[z,Out.lJ]at p1;exact p1
 | ok l M2=>
  simp only[z,Out.fH]at p1
  intro mz l' H2 x2 r2 el
  have J6:l=l':=el;subst J6
  refine⟨mz,e1,M2,w1.ext x2 r2,?_⟩
  have p2:=p1.ext x2
  cases z2:mh e1 M2 with
  | bad=>simp only[z2,Out.jm]at p2;exact p2
  | exc xc xd xM=>simp only[z2,Out.lJ]at p2;exact p2
  | ok h M3=>
   simp only[z2,Out.fH]at p2
   intro PJ h' H3 x3 r3 eh
   have J6:h=h':=eh;subst J6
   have p3:=p2.ext x3
   have q3:=(q1.mono x2).mono x3
   cases d with
   | tup ds=>
    obtain⟨aa,xs,rfl,hs,hd⟩:=O_ q3
    simp only[Ge]at p3
    split at p3
    ·exact p3.elim
    ·rename_i hw
     exact .inl (.inr ⟨_,_,rfl,hs,by rw[hd.length];exact hw,fun pp hp=>z7 r3 (hd.cut l h) hp p3⟩)
   | str u=>
    cases jE q3
    simp only[Ge]at p3
    split at p3
    ·rename_i hz
     exact .inr ⟨u,rfl,hz,p3 PJ _ H3 .refl r3 (.str _)⟩
    ·exact p3.elim
   | _=>
    simp only[Ge]at p3
    split at p3
    ·rename_i ds z0
     obtain⟨aa,xs,rfl,hs,hd⟩:=r3.seq z0 q3
     exact .inl (.inl ⟨_,_,rfl,hs,fun pp hp=>rW r3 (hd.cut l h) hp p3⟩)
    ·exact p3.elim
theorem uM{K:PySem.W.Frag}{ι:Nat→Addr}{n:Nat}{H:Hp}{d:D}{vs:List V}(h:o5 K ct ι n H [d] vs):∃v,vs=[v]∧DV K ct ι n H d v:=by
 cases h with | cons a b=>cases b;exact⟨_,rfl,a⟩
theorem afM{K:PySem.W.Frag}{ι:Nat→Addr}{n:Nat}{H:Hp}{d d':D}{vs:List V}(h:o5 K ct ι n H [d,d'] vs):∃v v',vs=[v,v']∧DV K ct ι n H d v∧DV K ct ι n H d' v':=by
 cases h with | cons a b=>obtain⟨v,rfl,q⟩:=uM b;exact⟨_,_,rfl,a,q⟩
def w6(M:Mem)(d:D):Option (List D):=match d with
 | .tup ds=>some ds
 | d=>yD M d
theorem Rl.seqs{K:PySem.W.Frag}{ι:Nat→Addr}{M:Mem}{H:Hp}(R:Rl K ct ι M H){d:D}{v:V}{ds:List D}(h:w6 M d=some ds)(q:DV K ct ι M.length H d v):∃a xs,v= .ref a∧(yQ K H a xs∨wM K H a xs)∧o5 K ct ι M.length H ds xs:=by
 cases d with
 | tup es=>cases h;obtain⟨a,xs,e,hs,hd⟩:=O_ q;exact⟨a,xs,e,.inr hs,hd⟩
 | _=>simp only[w6]at h;obtain⟨a,xs,e,hs,hd⟩:=R.seq h q;exact⟨a,xs,e,.inl hs,hd⟩
def Ql:H_:=fun ds M=>match ds with
 | [d]=>match w6 M d with
  | some es=> .ok (.int es.length) M
  | none=> .bad
 | _=> .bad
theorem Y8:qZ X ct (.builtin "len") Ql:=by
 refine⟨_,Km,fun ι M H ds vs Q R h p=> ?_⟩
 unfold Ql at p
 split at p
 ·rename_i d
  obtain⟨v,rfl,q⟩:=uM h
  cases z:w6 M d with
  | none=>rw[z]at p;exact p.elim
  | some es=>
   rw[z]at p
   obtain⟨a,xs,rfl,hs,hd⟩:=R.seqs z q
   exact⟨_,xs,rfl,hs,p ι _ H .refl R (by rw[hd.length];exact .int _)⟩
 ·exact p.elim
def ZL(a b:H_):H_:=fun ds M=>match a ds M with
 | .bad=>b ds M
 | o=>o
theorem qZ.or{f:Value}{a b:H_}(ha:qZ X ct f a)(hb:qZ X ct f b):qZ X ct f (ZL a b):=by
 obtain⟨r,h,hs⟩:=ha
 obtain⟨r',h',hs'⟩:=hb
 refine⟨_,h.or h',fun ι M H ds vs Q R q p=> ?_⟩
 unfold ZL at p
 cases z:a ds M with
 | ok x M1=>rw[z]at p;exact .inl (hs ι M H ds vs Q R q (by rw[z];exact p))
 | exc xc xd xM=>rw[z]at p;exact .inl (hs ι M H ds vs Q R q (by rw[z];exact p))
 | bad=>rw[z]at p;exact .inr (hs' ι M H ds vs Q R q p)
theorem Vx{a b:H_}{ds:List D}{x:D}{M M':Mem}(h:a ds M= .ok x M'):ZL a b ds M= .ok x M':=by unfold ZL;rw[h]
theorem Yg{a b:H_}{ds:List D}{M:Mem}(h:a ds M= .bad):ZL a b ds M=b ds M:=by unfold ZL;rw[h]
def U3:H_:=fun ds M=>match ds with
 | [.ref n]=>match M[n]? with
  | some (.dk kvs)=> .ok (.int kvs.length) M
  | some (.dt kvs)=> .ok (.int kvs.length) M
  | _=> .bad
 | _=> .bad
theorem Y9:qZ X ct (.builtin "len") U3:=by
 refine⟨_,Tp.or Tn,fun ι M H ds vs Q R h p=> ?_⟩
 unfold U3 at p
 split at p
 ·rename_i n
  obtain⟨v,rfl,q⟩:=uM h
  obtain⟨hn,rfl⟩:=uv q
  split at p
  ·rename_i kvs e
   obtain⟨ys,hH,pv⟩:=R.obj n _ e
   exact .inl ⟨_,ys,rfl,hH,by rw[pv.length];exact p ι _ H .refl R (.int _)⟩
  ·rename_i kvs e
   obtain⟨ys,hH,pv⟩:=R.obj n _ e
   exact .inr ⟨_,ys,rfl,hH,by rw[pv.length];exact p ι _ H .refl R (.int _)⟩
  ·exact p.elim
 ·exact p.elim
def Qk:H_:=fun ds M=>match ds with
 | [.str z]=>if z.length≤sizeLine then .ok (.int z.length) M else .bad
 | _=> .bad
theorem Y7:qZ X ct (.builtin "len") Qk:=by
 refine⟨_,Kl,fun ι M H ds vs Q R h p=> ?_⟩
 unfold Qk at p
 split at p
 ·obtain⟨v,rfl,q⟩:=uM h
  cases jE q
  split at p
  ·rename_i hz
   exact⟨_,rfl,hz,p ι _ H .refl R (.int _)⟩
  ·exact p.elim
 ·exact p.elim
def kO:H_:=ZL (ZL Ql U3) Qk
theorem nO:qZ X ct (.builtin "len") kO:=(Y8.or Y9).or Y7
def amb:H_:=fun ds M=>match ds with
 | [.int i,.int j]=> .ok (.int (if j > i then j else i)) M
 | _=> .bad
def Qj:H_:=fun ds M=>match ds with
 | [.int i,.int j]=> .ok (.int (if j<i then j else i)) M
 | _=> .bad
theorem Y6(hc:X.calm=true):qZ X ct (.builtin "min") Qj:=by
 refine⟨_,Tj hc,fun ι M H ds vs Q R h p=> ?_⟩
 unfold Qj at p
 split at p
 ·obtain⟨v,v',rfl,q,q'⟩:=afM h
  cases pM q
  cases pM q'
  exact⟨_,_,rfl,p ι _ H .refl R (.int _)⟩
 ·exact p.elim
def Ek:H_:=fun ds M=>match ds with
 | [d]=>match w6 M d with
  | some es=> .ok (.ref M.length) (M++[.lst es])
  | none=> .bad
 | _=> .bad
def oN:H_:=fun ds M=>match ds with
 | [d]=>match w6 M d with
  | some es=> .ok (.tup es) M
  | none=> .bad
 | _=> .bad
theorem Q_:qZ X ct (.type "list") Ek:=by
 refine⟨_,Kh,fun ι M H ds vs Q R h p=> ?_⟩
 unfold Ek at p
 split at p
 ·rename_i d
  obtain⟨v,rfl,q⟩:=uM h
  cases z:w6 M d with
  | none=>rw[z]at p;exact p.elim
  | some es=>
   rw[z]at p
   obtain⟨a,xs,rfl,hs,hd⟩:=R.seqs z q
   exact⟨_,xs,rfl,hs,fun pp hp=>rW R hd hp p⟩
 ·exact p.elim
theorem uQ:qZ X ct (.type "tuple") oN:=by
 refine⟨_,Gx,fun ι M H ds vs Q R h p=> ?_⟩
 unfold oN at p
 split at p
 ·rename_i d
  obtain⟨v,rfl,q⟩:=uM h
  cases d with
  | tup es=>
   obtain⟨aa,xs,rfl,hs,hd⟩:=rE q
   exact⟨_,xs,rfl,.inr ⟨wM.of hs,p ι _ H .refl R (.tup hs hd)⟩⟩
  | _=>
   split at p
   ·rename_i es z
    simp only[w6]at z
    obtain⟨a,xs,rfl,hs,hd⟩:=R.seq z q
    exact⟨_,xs,rfl,.inl ⟨hs,fun pp hp=>z7 R hd hp p⟩⟩
   ·exact p.elim
 ·exact p.elim
def MtS(X:Cx)(ct:Nat→Addr)(T id:String)(op:D→List D→Mem→Out D):Prop:=∃r,MtR X id r∧∀{w:XW} ι M H d ds v vs Q,Rl X.K ct ι M H→DV X.K ct ι M.length H d v→o5 X.K ct ι M.length H ds vs→jt (gw X.K ct) X.K ct w ι M.length H (op d ds M) Q→r v vs H Q
def Di(T:String)(d:D)(M:Mem):Bool:=match d with
 | .int _=>T== "int"
 | .str _=>T== "str"
 | .ref n=>T== "list" && (tX M n).isSome
 | _=>false
theorem aad{K:PySem.W.Frag}{ι:Nat→Addr}{M:Mem}{H:Hp}{T:String}{d:D}{v:V}(R:Rl K ct ι M H)(h:Di T d M=true)(q:DV K ct ι M.length H d v):tyV K T v H:=by
 cases q with
 | int i=>exact beq_iff_eq.mp h
 | str i=>exact beq_iff_eq.mp h
 | @ref i hi=>
  simp only[Di,Bool.and_eq_true,beq_iff_eq]at h
  obtain⟨e,h2⟩:=h
  obtain⟨ds,z⟩:=Option.isSome_iff_exists.mp h2
  obtain⟨xs,hs,_⟩:=R.obj i _ (uF.mp z)
  exact .inl ⟨e,xs,yQ.of hs⟩
 | _=>exact absurd h Bool.false_ne_true
def Hj(T:String)(op:D→List D→Mem→Out D)(mo:ME)(ms:MA):ME:=fun e M=>(mo e M).bind fun d M1=>if Di T d M1=true then(ms e M1).bind fun ds M2=>op d ds M2 else .bad
variable{o:Expr}{es:List Expr}{mo:ME}{ms:MA}{name:Str}{apos cpos:Pos}{T id:String}{op:D→List D→Mem→Out D}
theorem o9(pa:PlainAttrs T)(slot:Slot T name id)(hty:typeOf (.builtin id)=pure (.type "method_descriptor"))(hm:MtS X ct T id op)(ho:SE X ct W o mo)(ha:SA X ct W (a::es) ms)
  (hbase:attributeBase o name X.env (eval o X.env)=eval o X.env:=by rfl)
  (hfew:((backTo cpos (starEach (a::es) X.env)).all (fun x=> !x.1)&&(backToKw cpos (keywordEach [] X.env)).all (fun x=>x.1.isSome)
   && decide ((a::es).length+([]:List Keyword).length+(if([]:List Keyword).isEmpty then 0 else 1)<30))=true:=by rfl)
  (hline:(apos.endLine==cpos.line)=true:=by rfl) (hs:starEach (a::es) X.env=(false,eval a X.env)::starEach es X.env:=by rfl) (hplain:(backTo cpos (starEach es X.env)).any (·.1)=false:=by rfl):
  SE X ct W (.Call (.Attribute o name apos) (a::es) [] cpos) (Hj T op mo ms):=by
 obtain⟨r,hr,hss⟩:=hm
 refine iB (ael pa slot hty hr ho ha hbase hfew hline hs hplain) fun σ H Q q=> ?_
 obtain⟨ι,e,M,w,p⟩:=cG (gM:=gw X.K ct) (f:=fun d e M1=>if Di T d M1=true then(ms e M1).bind fun ds M2=>op d ds M2 else .bad) q
 refine⟨ι,e,M,w,p.mono fun v H1 ⟨gK,e1,M1,d,w1,q1,p1⟩=> ?_⟩
 cases z:Di T d M1 with
 | false=>simp only[z,Bool.false_eq_true,if_false]at p1;exact p1.elim
 | true=>
  simp only[z,if_true]at p1
  refine⟨aad w1.rl z q1,gK,e1,M1,w1,?_⟩
  cases z2:ms e1 M1 with
  | bad=>simp only[z2,Out.jm]at p1;exact p1
  | exc xc xd xM=>simp only[z2,Out.lJ]at p1;exact p1
  | ok ds M2=>
   simp only[z2,Out.fH]at p1
   exact fun mz vs H2 x2 r2 q2=>hss mz M2 H2 d ds v vs Q r2 (q1.mono x2) q2 (p1.ext x2)
def lX:D→List D→Mem→Out D:=fun d ds M=>match d,ds with
 | .ref n,[x]=>match M[n]? with
  | some (.lst es)=>if es.length<sizeLine then .ok .non (M.set n (.lst (es++[x])))else .bad
  | _=> .bad
 | _,_=> .bad
theorem n6:MtS X ct "list" "list.append" lX:=by
 refine⟨_,Sw,fun ι M H d ds v vs Q R q qs p=> ?_⟩
 unfold lX at p
 split at p
 ·rename_i n x
  obtain⟨hn,rfl⟩:=uv q
  obtain⟨y,rfl,qy⟩:=uM qs
  split at p
  ·rename_i es e1
   split at p
   ·rename_i hz
    obtain⟨xs,hH,hd⟩:=R.obj n _ e1
    have x2:Ext X.K ι M.length H ι M.length (upd H (ι n) (.lst (xs++[y]))):=Ext.chg hH (fun _ z=>nomatch z) (fun _ _ z=>nomatch z)
    refine⟨_,xs,y,rfl,rfl,hH,by rw[hd.length];exact hz,?_⟩
    refine p ι .non _ (by rw[List.length_set];exact x2) (R.chg hn hH (fun _ z=>nomatch z) (fun _ _ z=>nomatch z) ⟨_,d7,(hd.append (.cons qy .nil)).mono x2⟩) .non
   ·exact p.elim
  ·exact p.elim
 ·exact p.elim
end
end S
namespace S
open PySem PySem.Spec PyProof.Rows L2
inductive jK where
 | next (e:Sl) (M:Mem) | ret (d:D) (M:Mem) | brk (e:Sl) (M:Mem) | cont (e:Sl) (M:Mem) | exc (c:Nat) (d:D) (e:Sl) (M:Mem) | bad
abbrev MS:=Sl→Mem→jK
def uU(K:PySem.W.Frag)(ct:Nat→Addr)(W:bG)(ι:Nat→Addr)(n:Nat)(H:Hp)(o:jK)(T:Ends):Prop:=match o with
 | .next e M=>∀ι' σ' H',Ext K ι n H ι' M.length H'→Ws K ct ι' e M σ' H'→T.nx σ' H'
 | .ret d M=>∀ι' v H',Ext K ι n H ι' M.length H'→Rl K ct ι' M H'→DV K ct ι' M.length H' d v→T.rt v H'
 | .brk e M=>∀ι' σ' H',Ext K ι n H ι' M.length H'→Ws K ct ι' e M σ' H'→T.bk σ' H'
 | .cont e M=>∀ι' σ' H',Ext K ι n H ι' M.length H'→Ws K ct ι' e M σ' H'→T.ct σ' H'
 | .exc c d e M=>∀ι' σ' dx v H',Ext K ι n H ι' M.length H'→Ws K ct ι' e M σ' H'→H' dx=some (.xd [("at",v)])→DV K ct ι' M.length H' d v→W (ct c) dx σ' H'
 | .bad=>False
def tS(K:PySem.W.Frag)(ct:Nat→Addr)(W:bG)(m:MS):TS:=fun T σ H=>∃ι e M,Ws K ct ι e M σ H∧uU K ct W ι M.length H (m e M) T
def SS(X:Cx)(ct:Nat→Addr)(W:bG)(st:Stmt)(m:MS):Prop:=PS X st (tS X.K ct W m)
def W8(X:Cx)(ct:Nat→Addr)(W:bG)(st:List Stmt)(m:MS):Prop:=Dv X st (tS X.K ct W m)
theorem uU.ext{K:PySem.W.Frag}{ct ι ι':Nat→Addr}{W:bG}{n n':Nat}{H H':Hp}{o:jK}{T:Ends}(h:uU K ct W ι n H o T)(x:Ext K ι n H ι' n' H'):uU K ct W ι' n' H' o T:=by
 cases o with
 | next e M=>exact fun mz b H2 x2 w=>h mz b H2 (x.trans x2) w
 | ret d M=>exact fun mz b H2 x2 r q=>h mz b H2 (x.trans x2) r q
 | brk e M=>exact fun mz b H2 x2 w=>h mz b H2 (x.trans x2) w
 | cont e M=>exact fun mz b H2 x2 w=>h mz b H2 (x.trans x2) w
 | exc c d e M=>exact fun mz b dx v H2 x2 w q1 q2=>h mz b dx v H2 (x.trans x2) w q1 q2
 | bad=>exact h
def Gv{α:Type}(e:Sl)(o:Out α)(f:α→Mem→jK):jK:=match o with
 | .ok a M=>f a M
 | .exc c d M=> .exc c d e M
 | .bad=> .bad
@[simp] theorem Vy{α:Type}(e:Sl)(a:α)(M:Mem)(f:α→Mem→jK):Gv e (.ok a M) f=f a M:=id rfl
@[simp] theorem Qv{α:Type}(e:Sl)(c:Nat)(d:D)(M:Mem)(f:α→Mem→jK):Gv e (.exc c d M:Out α) f= .exc c d e M:=id rfl
@[simp] theorem Qw{α:Type}(e:Sl)(f:α→Mem→jK):Gv e (.bad:Out α) f= .bad:=id rfl
theorem vh{α β:Type}{rel:(Nat→Addr)→Mem→Hp→α→β→Prop}{K:PySem.W.Frag}{ct:Nat→Addr}{W:bG}{m:Sl→Mem→Out α}{f:α→Sl→Mem→jK}{σ:St}{H:Hp}{T:Ends}
  (h:tS K ct W (fun e M=>Gv e (m e M) fun a M1=>f a e M1) T σ H):tG rel K ct W m σ H (fun b H1=>∃ι e M a,Ws K ct ι e M σ H1∧rel ι M H1 a b∧uU K ct W ι M.length H1 (f a e M) T):=by
 obtain⟨ι,e,M,w,p⟩:=h
 refine⟨ι,e,M,w,?_⟩
 cases z:m e M with
 | bad=>simp only[z,Qw]at p;exact p
 | exc xc xd xM=>simp only[z,Qv]at p;exact fun gK dx v H1 x r q1 q2=>p gK σ dx v H1 x (w.ext x r) q1 q2
 | ok a M1=>
  simp only[z,Vy]at p
  exact fun gK b H1 x r q=>⟨gK,e,M1,a,w.ext x r,q,p.ext x⟩
section
variable{X:Cx}{ct:Nat→Addr}{W:bG}{st:Stmt}{rest:List Stmt}{s t:MS}{a:Expr}{ma:ME}{pos:Pos}
theorem PS.imp{st:Stmt}{t t':TS}(h:PS X st t)(hi:∀T σ H,t' T σ H→t T σ H):PS X st t':=fun pins s σ H T I q=>h pins s σ H T I (hi T σ H q)
theorem Dv.imp{st:List Stmt}{t t':TS}(h:Dv X st t)(hi:∀T σ H,t' T σ H→t T σ H):Dv X st t':=fun pins s σ H T I q=>h pins s σ H T I (hi T σ H q)
def jN:MS:=fun e M=> .next e M
def bI(s t:MS):MS:=fun e M=>match s e M with
 | .next e' M'=>t e' M'
 | o=>o
theorem Ul{T:Ends}{σ:St}{H:Hp}(h:tS X.K ct W jN T σ H):Zy T σ H:=let⟨ι,_,_,w,p⟩:=h;p ι σ H .refl w
theorem iC:W8 X ct W [] jN:=Dv.imp XX fun T σ H q=>Ul q
theorem aC(h1:SS X ct W st s)(h2:W8 X ct W rest t):W8 X ct W (st::rest) (bI s t):=Dv.imp (Vi h1 h2) fun T σ H ⟨ι,e,M,w,p⟩=>by
 refine⟨ι,e,M,w,?_⟩
 unfold bI at p
 cases z:s e M with
 | next e' M'=>rw[z]at p;exact fun ι' σ' H' x w'=>⟨ι',e',M',w',p.ext x⟩
 | ret d M'=>rw[z]at p;exact p
 | brk d M'=>rw[z]at p;exact p
 | cont d M'=>rw[z]at p;exact p
 | exc c d e M'=>rw[z]at p;exact p
 | bad=>rw[z]at p;exact p
theorem aR(h1:SS X ct W st s):W8 X ct W [st] s:=Qs h1
def nZ(m:ME):MS:=fun e M=>Gv e (m e M) fun _ M1=> .next e M1
theorem iu(he:SE X ct W a ma)(hs:swapsWith a none pos.line X.env=pure false:=by rfl):SS X ct W (.Expr a pos) (nZ ma):=PS.imp (X5 he hs) fun T σ H q=>by
 obtain⟨ι,e,M,w,p⟩:=vh (rel:=gw X.K ct) (f:=fun _ e M1=> .next e M1) q
 exact⟨ι,e,M,w,p.mono fun v H1 ⟨gK,e1,M1,d,w1,q1,p1⟩=>p1 gK σ H1 .refl w1⟩
def jB(m:ME):MS:=fun e M=>Gv e (m e M) fun d M1=> .ret d M1
theorem cD(he:SE X ct W a ma):SS X ct W (.Return (some a) pos) (jB ma):=PS.imp (aaI he) fun T σ H q=>by
 obtain⟨ι,e,M,w,p⟩:=vh (rel:=gw X.K ct) (f:=fun d e M1=> .ret d M1) q
 exact⟨ι,e,M,w,p.mono fun v H1 ⟨gK,e1,M1,d,w1,q1,p1⟩=>p1 gK v H1 .refl w1.rl q1⟩
def Dl(c:MT)(s t:MS):MS:=fun e M=>Gv e (c e M) fun k M1=>if k=true then s e M1 else t e M1
theorem mq{c:Expr}{b b':List Stmt}{mc:MT}(hc:TX X ct W c mc)(ha:W8 X ct W b s)(hb:W8 X ct W b' t):SS X ct W (.If c b b' pos) (Dl mc s t):=PS.imp (adR hc ha hb) fun T σ H q=>by
 obtain⟨ι,e,M,w,p⟩:=vh (rel:=zj) (f:=fun k e M1=>if k=true then s e M1 else t e M1) q
 refine⟨ι,e,M,w,p.mono fun k H1 ⟨gK,e1,M1,d,w1,q1,p1⟩=> ?_⟩
 have J6:d=k:=q1;subst J6
 cases d with
 | true=>exact⟨gK,e1,M1,w1,p1⟩
 | false=>exact⟨gK,e1,M1,w1,p1⟩
abbrev Tg:=D→Sl→Option Sl
abbrev Tgs:=List D→Sl→Option Sl
def ahe(K:PySem.W.Frag)(ct ι:Nat→Addr)(M:Mem)(H:Hp)(o:Option Sl)(Q:St→Hp→Prop):Prop:=match o with
 | some e'=>∀σ',Ws K ct ι e' M σ' H→Q σ' H
 | none=>False
def tT(K:PySem.W.Frag)(ct:Nat→Addr)(g:Tg):TG:=fun v σ H Q=>∃ι e M d,Ws K ct ι e M σ H∧DV K ct ι M.length H d v∧ahe K ct ι M H (g d e) Q
def SG(X:Cx)(ct:Nat→Addr)(tg:Expr)(g:Tg):Prop:=PG X tg (tT X.K ct g)
theorem PG.imp{tg:Expr}{t t':TG}(h:PG X tg t)(hi:∀v σ H Q,t' v σ H Q→t v σ H Q):PG X tg t':=fun pins s σ H v u Q I r q=>h pins s σ H v u Q I r (hi v σ H Q q)
def gN(i:Nat):Tg:=fun d e=>some (e.set i (some d))
theorem Qe{i:Nat}{x:Str}(hN:X.N.Nodup)(hi:X.N[i]? = some x)(hx:Loc X.env.scope x)(hf:X.fn x=true∨X.env.scope.names.lookup x=some .local:=by first | exact .inl rfl | exact .inr rfl | assumption):SG X ct (.Name x pos) (gN i):=
 PG.imp (X_ hN hi hx hf) fun v σ H Q ⟨ι,e,M,d,w,q,p⟩=>p _ (w.set i q)
def amK:Tgs:=fun ds e=>match ds with
 | []=>some e
 | _=>none
def fJ(m:ME)(g:Tg):MS:=fun e M=>Gv e (m e M) fun d M1=>match g d e with
 | some e'=> .next e' M1
 | none=> .bad
theorem IW{te:TE}{tg:TG}{m:ME}{g:Tg}{T:Ends}{σ:St}{H:Hp}(he:∀Q,tG (gw X.K ct) X.K ct W m σ H Q→te σ H Q)(hg:∀v H Q,tT X.K ct g v σ H Q→tg v σ H Q)(h:tS X.K ct W (fJ m g) T σ H):Xq te tg T σ H:=by
 refine he _ ?_
 obtain⟨ι,e,M,w,p⟩:=vh (rel:=gw X.K ct) (f:=fun d e M1=>match g d e with
  | some e'=> .next e' M1
  | none=> .bad) h
 refine⟨ι,e,M,w,p.mono fun v H1 ⟨gK,e1,M1,d,w1,q1,p1⟩=>hg _ _ _ ⟨gK,e1,M1,d,w1,q1,?_⟩⟩
 cases z:g d e1 with
 | none=>rw[z]at p1;exact p1
 | some e'=>rw[z]at p1;exact fun σ' w'=>p1 gK σ' H1 .refl w'
theorem bH{i:Nat}{x:Str}{pos':Pos}(hN:X.N.Nodup)(hi:X.N[i]? = some x)(hx:Loc X.env.scope x)(he:SE X ct W a ma)(hs:swapsWith a (some (.Name x pos')) pos.line X.env=pure false:=by rfl)(hf:X.fn x=true∨X.env.scope.names.lookup x=some .local:=by first | exact .inl rfl | exact .inr rfl | assumption):
  SS X ct W (.Assign [.Name x pos'] a pos) (fJ ma (gN i)):=PS.imp (aaH hN hi hx he hs hf) fun T σ H q=>IW (fun _ q=>q) (fun v H Q ⟨ι,e,M,d,w,q,p⟩=>p _ (w.set i q)) q
def qi(cs:List Nat)(f:Str)(d:D)(o:D)(M:Mem):Option Mem:=match o with
 | .ref n=>match M[n]? with
  | some (.ins c fs)=>if c∈cs∧fs.length<1000 then some (M.set n (.ins c (putD f d fs)))else none
  | _=>none
 | _=>none
def tU(cs:List Nat)(mo mv:ME)(f:Str):MS:=fun e M=>Gv e (mv e M) fun d M1=>Gv e (mo e M1) fun o M2=>match qi cs f d o M2 with
 | some M3=> .next e M3
 | none=> .bad
theorem Nm.put{K:PySem.W.Frag}{ι:Nat→Addr}{n:Nat}{H:Hp}{f:Str}{d:D}{v:V}(h:DV K ct ι n H d v):∀{fs:List (Str×D)} {vs:List (Str×V)},Nm K ct ι n H fs vs→Nm K ct ι n H (putD f d fs) (uh f v vs)
 | _,_,.nil=> .cons h .nil
 | _,_,.cons (x:=x) h' hs=>by
  unfold putD uh
  by_cases e:x=f
  ·rw[if_pos e,if_pos e];exact .cons h hs
  ·rw[if_neg e,if_neg e];exact .cons h' (hs.put h)
theorem rO{o:Expr}{mo:ME}{cs:List Nat}{f:Str}{pos':Pos}(hc:Gb X.K ct f cs)(ho:SE X ct W o mo)(hv:SE X ct W a ma)(hs:swapsWith a (some (.Attribute o f pos')) pos.line X.env=pure false:=by rfl):
  SS X ct W (.Assign [.Attribute o f pos'] a pos) (tU cs mo ma f):=PS.imp (aaK ho hv hs) fun T σ H q=>by
 obtain⟨ι,e,M,w,p⟩:=vh (rel:=gw X.K ct) (f:=fun d e M1=>Gv e (mo e M1) fun o M2=>match qi cs f d o M2 with
  | some M3=> .next e M3
  | none=> .bad) q
 refine⟨ι,e,M,w,p.mono fun y H1 ⟨gK,e1,M1,d,w1,q1,p1⟩=>⟨gK,e1,M1,w1,?_⟩⟩
 cases z:mo e1 M1 with
 | bad=>simp only[z,Qw]at p1;exact p1
 | exc xc xd xM=>simp only[z,Qv]at p1;exact fun mz dx v H2 x r q1 q2=>p1 mz σ dx v H2 x (w1.ext x r) q1 q2
 | ok o' M2=>
  simp only[z,Vy]at p1
  intro mz x H2 x2 r2 q2
  have p2:=p1.ext x2
  have w2:=w1.ext x2 r2
  have qd:=q1.mono x2
  cases q2 with
  | @ref n hn=>
   simp only[qi]at p2
   cases z0:M2[n]? with
   | none=>rw[z0]at p2;exact p2.elim
   | some ob=>
    cases ob with
    | lst _=>rw[z0]at p2;exact p2.elim
    | dk _=>rw[z0]at p2;exact p2.elim
    | dt _=>rw[z0]at p2;exact p2.elim
    | ins c fs=>
     simp only[z0]at p2
     by_cases hcs:c∈cs∧fs.length<1000
     ·rw[if_pos hcs]at p2
      obtain⟨dx,vs,hH,fv⟩:=r2.obj n _ z0
      have x3:Ext X.K mz M2.length H2 mz M2.length (upd H2 (mz n) (.ins (ct c) dx (uh f y vs))):=Ext.chg hH (fun _ z=>nomatch z) (fun _ _ z=>nomatch z)
      refine⟨_,_,dx,vs,rfl,hH,(hc.get hcs.1).1,(hc.get hcs.1).2,by rw[fv.length];exact hcs.2,?_⟩
      have r3:=r2.chg (o:= .ins (ct c) dx (uh f y vs)) (x:= .ins c (putD f d fs)) hn hH (fun _ z=>nomatch z) (fun _ _ z=>nomatch z) ⟨dx,_,d7,(fv.put qd).mono x3⟩
      have x3':Ext X.K mz M2.length H2 mz (M2.set n (.ins c (putD f d fs))).length (upd H2 (mz n) (.ins (ct c) dx (uh f y vs))):=by rw[List.length_set];exact x3
      exact p2 mz σ _ x3' (w2.ext x3' r3)
     ·rw[if_neg hcs]at p2
      exact p2.elim
  | _=>exact p2.elim
structure Itm where
 src:Option (Nat×List D)
 ds:List D
def lM(s:Option (Nat×List D))(M:Mem):Prop:=match s with
 | none=>True
 | some (n,ds)=>tX M n=some ds
noncomputable instance{s:Option (Nat×List D)}{M:Mem}:Decidable (lM s M):=Classical.propDecidable _
def RN(K:PySem.W.Frag)(ct:Nat→Addr):(Nat→Addr)→Mem→Hp→Itm→It→Prop:=fun ι M H it J=>lM it.src M∧it.ds.length≤sizeLine∧∀ι' M' H',Ext K ι M.length H ι' M'.length H'→Rl K ct ι' M' H'→lM it.src M'→
 ∀i,(∀d,it.ds[i]? = some d→J.go i H'∧∀x H2,J.Xa i H' x H2→Ext K ι' M'.length H' ι' M'.length H2∧Rl K ct ι' M' H2∧DV K ct ι' M'.length H2 d x)∧(it.ds.length≤i→J.stop i H')
abbrev MI:=Sl→Mem→Out Itm
def SI(X:Cx)(ct:Nat→Addr)(W:bG)(tg e:Expr)(m:MI):Prop:=PI X tg e (tG (RN X.K ct) X.K ct W m)
theorem PI.imp{tg e:Expr}{t t':TI}(h:PI X tg e t)(hi:∀σ H R,t' σ H R→t σ H R):PI X tg e t':=fun pins s σ H R I q=>h pins s σ H R I (hi σ H R q)
def qW(src:Option (Nat×List D))(g:Tg)(b:MS):List D→Sl→Mem→jK
 | [],e,M=>if lM src M then .next e M else .bad
 | d::ds,e,M=>if lM src M then(match g d e with
   | none=> .bad
   | some e1=>match b e1 M with
    | .next e2 M2=>qW src g b ds e2 M2
    | .cont e2 M2=>qW src g b ds e2 M2
    | .brk e2 M2=> .next e2 M2
    | .ret d M2=> .ret d M2
    | .exc c d e2 M2=> .exc c d e2 M2
    | .bad=> .bad)else .bad
def XH(mi:MI)(g:Tg)(b:MS):MS:=fun e M=>Gv e (mi e M) fun it M1=>qW it.src g b it.ds e M1
theorem Uw{tg iter:Expr}{body:List Stmt}{mi:MI}{g:Tg}{b:MS}(hp:X.Ok→PassesOwn (model X.prog X.w) X.A X.env X.xe)(hc:X.calm=true)(hi:SI X ct W tg iter mi)(hg:SG X ct tg g)(hb:W8 X ct W body b)
  (hs:∀x,foldedSetIterable iter X.env x=pure x:=by intro _;rfl):SS X ct W (.For tg iter body [] pos) (XH mi g b):=PS.imp (fun pins s σ H D I h=>X4 (hp I.ok) hc hi hg hb hs pins s σ H D I h) fun T σ H q=>by
 obtain⟨ι,e,M,w,p⟩:=vh (rel:=RN X.K ct) (f:=fun it e M1=>qW it.src g b it.ds e M1) q
 refine⟨ι,e,M,w,p.mono fun J H1 ⟨gK,e1,M1,it,w1,q1,p1⟩=> ?_⟩
 obtain⟨ok1,_,step⟩:=q1
 refine⟨fun i m σ' H'=>m=it.ds.length - i∧i≤it.ds.length∧∃ι' e' M',Ext X.K gK M1.length H1 ι' M'.length H'∧Ws X.K ct ι' e' M' σ' H'∧uU X.K ct W ι' M'.length H' (qW it.src g b (it.ds.drop i) e' M') T,
  ⟨it.ds.length,by simp,Nat.zero_le _,gK,e1,M1,.refl,w1,by simpa using p1⟩,?_⟩
 rintro i m σ' H' ⟨rfl,hi,ι',e',M',x',w',p'⟩
 by_cases hlt:i<it.ds.length
 ·rw[List.drop_eq_getElem_cons hlt]at p'
  unfold qW at p'
  by_cases ok':lM it.src M'
  ·rw[if_pos ok']at p'
   obtain⟨go,yl⟩:=(step ι' M' H' x' w'.rl ok' i).1 _ (List.getElem?_eq_getElem hlt)
   refine .inr ⟨go,fun σ2 H2=>∃mz e2 M2,Ext X.K gK M1.length H1 mz M2.length H2∧Ws X.K ct mz e2 M2 σ2 H2∧uU X.K ct W mz M2.length H2 (qW it.src g b (it.ds.drop (i+1)) e2 M2) T,?_,?_⟩
   ·rintro σ2 H2 ⟨mz,e2,M2,x2,w2,p2⟩
    exact⟨it.ds.length - (i+1),by omega,rfl,hlt,mz,e2,M2,x2,w2,p2⟩
   ·intro x H2 y
    obtain⟨x2,r2,dv⟩:=yl x H2 y
    have w2:=w'.ext x2 r2
    have p2:=p'.ext x2
    refine⟨ι',e',M',_,w2,dv,?_⟩
    cases z:g it.ds[i] e' with
    | none=>rw[z]at p2;exact p2
    | some e2=>
     rw[z]at p2
     intro σ3 w3
     refine⟨ι',e2,M',w3,?_⟩
     cases z3:b e2 M' with
     | next e4 M4=>simp only[z3]at p2;exact fun Z_ σ5 H5 x5 w5=>⟨Z_,e4,M4,(x'.trans x2).trans x5,w5,p2.ext x5⟩
     | cont e4 M4=>simp only[z3]at p2;exact fun Z_ σ5 H5 x5 w5=>⟨Z_,e4,M4,(x'.trans x2).trans x5,w5,p2.ext x5⟩
     | brk e4 M4=>simp only[z3]at p2;exact p2
     | ret d M4=>simp only[z3]at p2;exact p2
     | exc xc xd xe xM=>simp only[z3]at p2;exact p2
     | bad=>simp only[z3]at p2;exact p2
  ·rw[if_neg ok']at p'
   exact p'.elim
 ·have e0:i=it.ds.length:=by omega
  subst e0
  rw[List.drop_length]at p'
  unfold qW at p'
  by_cases ok':lM it.src M'
  ·rw[if_pos ok']at p'
   exact .inl ⟨(step ι' M' H' x' w'.rl ok' _).2 (Nat.le_refl _),p' ι' σ' H' .refl w'⟩
  ·rw[if_neg ok']at p'
   exact p'.elim
def L_(d:D)(M1:Mem):Out Itm:=match d with
 | .ref n=>match tX M1 n with
  | some ds=> .ok ⟨some (n,ds),ds⟩ M1
  | none=> .bad
 | .cl ds=> .ok ⟨none,ds⟩ M1
 | .tup ds=> .ok ⟨none,ds⟩ M1
 | _=> .bad
def Af(m:ME):MI:=fun e M=>(m e M).bind L_
theorem aaM{tg l:Expr}{tl:TE}(hl:PE X l tl):PI X tg l (fun σ H R=>tl σ H fun x H1=>∃a,x= .ref a∧(((∃xs,yQ X.K H1 a xs)∧((∀xs,yQ X.K H1 a xs→xs.length≤sizeLine)→R (Itl X.K a) H1))∨((∃xs,wM X.K H1 a xs)∧((∀xs,wM X.K H1 a xs→xs.length≤sizeLine)→R (Itt X.K a) H1)))):=by
 intro pins s σ H R I h
 refine jh (hl pins s σ H _ I h) fun v s1 ⟨x,H1,I1,r1,q1⟩=> ?_
 obtain⟨a,e,q⟩:=q1
 subst e
 cases r1
 rcases q with⟨⟨xs,hq⟩,q⟩ | ⟨⟨xs,hq⟩,q⟩
 ·obtain⟨its,rv,p,hz⟩:=I1.list hq
  have q:=q fun ys hy=>by obtain⟨_,_,_,hz⟩:=I1.list hy;exact hz
  refine wpAny_pyIter_list p.isList ?_
  refine⟨s1.heap.objs.size,[s1.heap.objs.size],_,_,H1,rfl,I1.kept (t':=s1.toks) fun b o e=>Heap.get?_push_of_some _ e,Rx a _,⟨_,Heap.get?_push_size _ rfl,rfl,rfl⟩,fun b hb=> ?_,q⟩
  have e:b=s1.heap.objs.size:=by simpa using hb
  subst e
  exact I1.YS (Nat.le_refl _) (I1.hok.fresh (Nat.le_refl _))
 ·obtain⟨its,rv,p,hz⟩:=I1.tuple hq
  have q:=q fun ys hy=>by obtain⟨_,_,_,hz⟩:=I1.tuple hy;exact hz
  refine wpAny_pyIter_tuple (show s1.heap.IsTuple a its.toArray from p) ?_
  refine⟨s1.heap.objs.size,[s1.heap.objs.size],_,_,H1,rfl,I1.kept (t':=s1.toks) fun b o e=>Heap.get?_push_of_some _ e,Nx a _,⟨_,Heap.get?_push_size _ rfl,rfl,rfl⟩,fun b hb=> ?_,q⟩
  have e:b=s1.heap.objs.size:=by simpa using hb
  subst e
  exact I1.YS (Nat.le_refl _) (I1.hok.fresh (Nat.le_refl _))
theorem LR{K:PySem.W.Frag}{ι:Nat→Addr}{M:Mem}{H:Hp}{a:Addr}{xs:List V}{ds:List D}(R:Rl K ct ι M H)(hq:yQ K H a xs)(hd:o5 K ct ι M.length H ds xs)(i:Nat):
  (∀d,ds[i]? = some d→(Itl K a).go i H∧∀x H2,(Itl K a).Xa i H x H2→Ext K ι M.length H ι M.length H2∧Rl K ct ι M H2∧DV K ct ι M.length H2 d x)∧(ds.length≤i→(Itl K a).stop i H):=by
 refine⟨fun d e=> ?_,fun h=>⟨xs,hq,by rw[hd.length];exact h⟩⟩
 obtain⟨v,hv,dv⟩:=hd.at e
 refine⟨⟨xs,v,hq,hv⟩,fun x H2 y=> ?_⟩
 obtain⟨e2,y⟩:=y
 subst e2
 have z:=y xs hq
 rw[hv]at z
 cases z
 exact⟨.refl,R,dv⟩
theorem V_{K:PySem.W.Frag}{ι:Nat→Addr}{M:Mem}{H:Hp}{a:Addr}{xs:List V}{ds:List D}(R:Rl K ct ι M H)(hq:wM K H a xs)(hd:o5 K ct ι M.length H ds xs)(i:Nat):
  (∀d,ds[i]? = some d→(Itt K a).go i H∧∀x H2,(Itt K a).Xa i H x H2→Ext K ι M.length H ι M.length H2∧Rl K ct ι M H2∧DV K ct ι M.length H2 d x)∧(ds.length≤i→(Itt K a).stop i H):=by
 refine⟨fun d e=> ?_,fun h=>⟨xs,hq,by rw[hd.length];exact h⟩⟩
 obtain⟨v,hv,dv⟩:=hd.at e
 refine⟨⟨xs,v,hq,hv⟩,fun x H2 y=> ?_⟩
 obtain⟨e2,y⟩:=y
 subst e2
 have z:=y xs hq
 rw[hv]at z
 cases z
 exact⟨.refl,R,dv⟩
theorem y_{tg:Expr}(hl:SE X ct W a ma):SI X ct W tg a (Af ma):=PI.imp (aaM hl) fun σ H R q=>by
 obtain⟨ι,e,M,w,p⟩:=cG (gM:=gw X.K ct) (f:=fun d _ M1=>L_ d M1) q
 refine⟨ι,e,M,w,p.mono fun v H1 ⟨gK,e1,M1,d,w1,q1,p1⟩=> ?_⟩
 cases q1 with
 | @ref n hn=>
  dsimp only[L_]at p1
  cases z:tX M1 n with
  | none=>rw[z]at p1;exact p1.elim
  | some ds=>
   rw[z]at p1
   obtain⟨xs,hH,hd⟩:=w1.rl.obj n _ (uF.mp z)
   refine⟨_,rfl,.inl ⟨⟨xs,yQ.of hH⟩,fun hz=>p1 gK _ H1 .refl w1.rl ⟨z,by rw[←hd.length];exact hz xs (yQ.of hH),fun mz M2 H2 x2 r2 ok2 i=> ?_⟩⟩⟩
   obtain⟨xs2,hH2,hd2⟩:=r2.obj n _ (uF.mp ok2)
   rw[←x2.same n hn]
   exact LR r2 (yQ.of hH2) hd2 i
 | cl h1 h2=>exact⟨_,rfl,.inl ⟨⟨_,h1.sq⟩,fun hz=>p1 gK _ H1 .refl w1.rl ⟨trivial,by rw[←h2.length];exact hz _ h1.sq,fun mz M2 H2 x2 r2 ok2 i=>LR r2 (x2.zF _ _ h1).sq (h2.mono x2) i⟩⟩⟩
 | tup h1 h2=>exact⟨_,rfl,.inr ⟨⟨_,wM.of h1⟩,fun hz=>p1 gK _ H1 .refl w1.rl ⟨trivial,by rw[←h2.length];exact hz _ (wM.of h1),fun mz M2 H2 x2 r2 ok2 i=>V_ r2 (wM.of (x2.tup _ _ h1)) (h2.mono x2) i⟩⟩⟩
 | _=>exact p1.elim
def zE(lo:Int)(n:Nat):List D:=(List.range n).map fun(k:Nat)=>D.int (lo+k)
def Jj(ds:List D)(M1:Mem):Out Itm:=match ds with
 | [.int j]=>if -(2 ^ 62)≤j∧j<2 ^ 24 then .ok ⟨none,zE 0 j.toNat⟩ M1 else .bad
 | _=> .bad
def Ly(ms:MA):MI:=fun e M=>(ms e M).bind Jj
def Oe(ds:List D)(M1:Mem):Out Itm:=match ds with
 | [.int i,.int j]=>if -(2 ^ 62)≤i∧i<2 ^ 62∧ -(2 ^ 62)≤j∧j<2 ^ 62∧j - i≤2 ^ 24 then .ok ⟨none,zE i (j - i).toNat⟩ M1 else .bad
 | _=> .bad
def VV(ms:MA):MI:=fun e M=>(ms e M).bind Oe
theorem LQ{K:PySem.W.Frag}{ι:Nat→Addr}{M:Mem}{H:Hp}(R:Rl K ct ι M H)(lo:Int)(n i:Nat):
  (∀d,(zE lo n)[i]? = some d→(Itr lo n).go i H∧∀x H2,(Itr lo n).Xa i H x H2→Ext K ι M.length H ι M.length H2∧Rl K ct ι M H2∧DV K ct ι M.length H2 d x)∧((zE lo n).length≤i→(Itr lo n).stop i H):=by
 refine⟨fun d e=> ?_,fun h=>(by simpa[zE]using h:n≤i)⟩
 unfold zE at e
 rw[List.getElem?_map]at e
 obtain⟨k,hk,rfl⟩:=Option.map_eq_some_iff.mp e
 obtain⟨hi,e2⟩:=List.getElem?_eq_some_iff.mp hk
 have hi':i<n:=by simpa using hi
 have ek:k=i:=by rw[←e2];simp
 subst ek
 refine⟨hi',fun x H2 y=> ?_⟩
 obtain⟨e3,y⟩:=y
 subst e3 y
 exact⟨.refl,R,.int _⟩
theorem V3:(2 ^ 24:Nat)≤sizeLine:=by rw[sizeLine_eq];decide
theorem Bf{tg a:Expr}{ms:MA}{p pos:Pos}(hg:Gl X "range")(hm:X.mg "range" = none)(ha:SA X ct W [a] ms)(hs:starEach [a] X.env=[(false,eval a X.env)]:=by rfl):SI X ct W tg (.Call (.Name "range" p) [a] [] pos) (Ly ms):=PI.imp (RV hg hm ha hs) fun σ H R q=>by
 obtain⟨ι,e,M,w,p⟩:=cG (gM:=Bl X.K ct) (f:=fun ds _ M1=>Jj ds M1) q
 refine⟨ι,e,M,w,p.mono fun v H1 ⟨gK,e1,M1,d,w1,q1,p1⟩=> ?_⟩
 dsimp only[Jj]at p1
 split at p1
 ·rename_i j
  obtain⟨v,rfl,q2⟩:=uM q1
  cases pM q2
  split at p1
  ·rename_i hj
   have hz:=V3
   exact⟨j,rfl,hj.1,by omega,p1 gK _ H1 .refl w1.rl ⟨trivial,by simp[zE];omega,fun mz M2 H2 x2 r2 ok2 i=>LQ r2 0 _ i⟩⟩
  ·exact p1.elim
 ·exact p1.elim
theorem RD{tg a b:Expr}{ms:MA}{p pos:Pos}(hg:Gl X "range")(hm:X.mg "range" = none)(ha:SA X ct W [a,b] ms)(hs:starEach [a,b] X.env=[(false,eval a X.env),(false,eval b X.env)]:=by rfl)(hs2:starEach [b] X.env=[(false,eval b X.env)]:=by rfl):SI X ct W tg (.Call (.Name "range" p) [a,b] [] pos) (VV ms):=PI.imp (RT hg hm ha hs hs2) fun σ H R q=>by
 obtain⟨ι,e,M,w,p⟩:=cG (gM:=Bl X.K ct) (f:=fun ds _ M1=>Oe ds M1) q
 refine⟨ι,e,M,w,p.mono fun v H1 ⟨gK,e1,M1,d,w1,q1,p1⟩=> ?_⟩
 dsimp only[Oe]at p1
 split at p1
 ·rename_i i j
  obtain⟨v,v',rfl,q2,q3⟩:=afM q1
  cases pM q2
  cases pM q3
  split at p1
  ·rename_i hj
   have hz:=V3
   exact⟨i,j,rfl,⟨hj.1,hj.2.1,hj.2.2.1,hj.2.2.2.1⟩,p1 gK _ H1 .refl w1.rl ⟨trivial,by simp[zE];omega,fun mz M2 H2 x2 r2 ok2 k=>LQ r2 i _ k⟩⟩
  ·exact p1.elim
 ·exact p1.elim
def vg(c:MT)(b:MS):Nat→Sl→Mem→jK
 | 0,_,_=> .bad
 | n+1,e,M=>match c e M with
  | .bad=> .bad
  | .exc c d M1=> .exc c d e M1
  | .ok false M1=> .next e M1
  | .ok true M1=>match b e M1 with
   | .next e2 M2=>vg c b n e2 M2
   | .cont e2 M2=>vg c b n e2 M2
   | .brk e2 M2=> .next e2 M2
   | .ret d M2=> .ret d M2
   | .exc c d e2 M2=> .exc c d e2 M2
   | .bad=> .bad
theorem DG{c:MT}{b:MS}:∀(n:Nat) (e:Sl) (M:Mem),vg c b n e M≠ .bad→vg c b (n+1) e M=vg c b n e M
 | 0,_,_,h=>absurd rfl h
 | n+1,e,M,h=>by
  unfold vg at h ⊢
  cases z:c e M with
  | bad=>rfl
  | exc _ _ _=>rfl
  | ok k M1=>
   cases k with
   | false=>rfl
   | true=>
    simp only[z]at h ⊢
    cases z2:b e M1 with
    | next e2 M2=>simp only[z2]at h ⊢;exact DG n e2 M2 h
    | cont e2 M2=>simp only[z2]at h ⊢;exact DG n e2 M2 h
    | brk e2 M2=>rfl
    | ret d M2=>rfl
    | exc _ _ _ _=>rfl
    | bad=>rfl
theorem Nr{c:MT}{b:MS}{n:Nat}{e:Sl}{M:Mem}(h:vg c b n e M≠ .bad):∀k,vg c b (n+k) e M=vg c b n e M
 | 0=>rfl
 | k+1=>by
  have ih:=Nr h k
  rw[←Nat.add_assoc,DG _ _ _ (by rw[ih];exact h)]
  exact ih
open Classical in
def zb(c:MT)(b:MS):MS:=fun e M=>if h:∃n,vg c b n e M≠ .bad then vg c b (Classical.choose h) e M else .bad
theorem jY{c:MT}{b:MS}{n:Nat}{e:Sl}{M:Mem}{o:jK}(h:vg c b n e M=o)(ho:o≠ .bad):zb c b e M=o:=by
 have ex:∃n,vg c b n e M≠ .bad:=⟨n,by rw[h];exact ho⟩
 unfold zb
 rw[dif_pos ex]
 have h1:=Classical.choose_spec ex
 rcases Nat.le_total n (Classical.choose ex)with l | l
 ·obtain⟨k,hk⟩:=Nat.exists_eq_add_of_le l
  rw[hk,Nr (by rw[h];exact ho) k,h]
 ·obtain⟨k,hk⟩:=Nat.exists_eq_add_of_le l
  rw[←h,hk,Nr h1 k]
theorem DX{c:Expr}{body:List Stmt}{mc:MT}{b:MS}(hp:X.Ok→PassesOwn (model X.prog X.w) X.A X.env X.xe)(hc:TX X ct W c mc)(hb:W8 X ct W body b):SS X ct W (.While c body [] pos) (zb mc b):=PS.imp (fun pins s σ H D I h=>Vj (hp I.ok) hc hb pins s σ H D I h) fun T σ H ⟨ι,e,M,w,p⟩=>by
 unfold zb at p
 split at p
 ·rename_i ex
  refine⟨fun m σ' H'=>∃ι' e' M',Ws X.K ct ι' e' M' σ' H'∧uU X.K ct W ι' M'.length H' (vg mc b m e' M') T,⟨_,ι,e,M,w,p⟩,?_⟩
  rintro m σ' H' ⟨ι',e',M',w',p'⟩
  cases m with
  | zero=>exact p'.elim
  | succ m=>
   refine⟨ι',e',M',w',?_⟩
   unfold vg at p'
   cases z:mc e' M' with
   | bad=>rw[z]at p';exact p'
   | exc xc xd xM=>rw[z]at p';exact fun mz dx v H2 x r q1 q2=>p' mz σ' dx v H2 x (w'.ext x r) q1 q2
   | ok k M1=>
    intro mz k2 H2 x2 r2 ek
    have J6:k=k2:=ek;subst J6
    have w2:=w'.ext x2 r2
    cases k with
    | false=>rw[z]at p';exact p' mz σ' H2 x2 w2
    | true=>
     simp only[z]at p'
     have p2:=p'.ext x2
     show ∃N:St→Hp→Prop,_
     refine⟨fun σ3 H3=>∃PJ e3 M3,Ws X.K ct PJ e3 M3 σ3 H3∧uU X.K ct W PJ M3.length H3 (vg mc b m e3 M3) T,fun σ3 H3 q3=>⟨m,Nat.lt_succ_self _,q3⟩,mz,e',M1,w2,?_⟩
     cases z3:b e' M1 with
     | next e4 M4=>simp only[z3]at p2;exact fun Z_ σ5 H5 x5 w5=>⟨Z_,e4,M4,w5,p2.ext x5⟩
     | cont e4 M4=>simp only[z3]at p2;exact fun Z_ σ5 H5 x5 w5=>⟨Z_,e4,M4,w5,p2.ext x5⟩
     | brk e4 M4=>simp only[z3]at p2;exact p2
     | ret d M4=>simp only[z3]at p2;exact p2
     | exc xc xd xe xM=>simp only[z3]at p2;exact p2
     | bad=>simp only[z3]at p2;exact p2
 ·exact p.elim
def o8(js:List Nat)(e:Sl):Sl:=js.map fun i=>(e[i]?).join
def Out.noX{α:Type}(o:Out α):Out α:=match o with
 | .ok a M=> .ok a M
 | _=> .bad
@[simp] theorem Bw{α:Type}(a:α)(M:Mem):(Out.ok a M).noX= .ok a M:=id rfl
@[simp] theorem Qy{α:Type}:(Out.bad:Out α).noX= .bad:=id rfl
@[simp] theorem Qx{α:Type}(c:Nat)(d:D)(M:Mem):(Out.exc c d M:Out α).noX= .bad:=id rfl
def rF(src:Option (Nat×List D))(tt:MT)(te:ME)(ce:Sl):List D→List D→Mem→Out D
 | [],ys,M=>if lM src M then .ok (.ref M.length) (M++[.lst ys])else .bad
 | d::ds,ys,M=>if lM src M then(tt (some d::ce) M).noX.bind fun k M1=>if k=true then(te (some d::ce) M1).noX.bind fun y M2=>rF src tt te ce ds (ys++[y]) M2 else rF src tt te ce ds ys M1 else .bad
def wD(js:List Nat)(mi:MI)(tt:MT)(te:ME):ME:=fun e M=>(mi e M).bind fun it M1=>rF it.src tt te (o8 js e) it.ds [] M1
def STs(X:Cx)(ct:Nat→Addr)(W:bG)(ifs:List Expr)(m:MT):Prop:=Z7 X ifs (tG zj X.K ct W m)
def oV:MT:=fun _ M=> .ok true M
theorem pP:STs X ct W [] oV:=fun pins s σ H Q I ⟨ι,e,M,w,p⟩=>XR pins s σ H Q I (p ι true H .refl w.rl rfl)
theorem Ws.caps{K:PySem.W.Frag}{ι:Nat→Addr}{e:Sl}{M:Mem}{σ:St}{H:Hp}{d:D}{v:V}(w:Ws K ct ι e M σ H)(js:List Nat)(h:DV K ct ι M.length H d v):Ws K ct ι (some d::o8 js e) M (some v::L2.caps js σ) H:=by
 refine⟨w.rl,by simp[o8,L2.caps],fun i x hx=> ?_⟩
 cases i with
 | zero=>simp at hx;subst hx;exact⟨v,rfl,h⟩
 | succ i=>
  simp only[List.getElem?_cons_succ,o8,List.getElem?_map]at hx
  obtain⟨j,hj,ej⟩:=Option.map_eq_some_iff.mp hx
  cases z:e[j]? with
  | none=>rw[z]at ej;cases ej
  | some o=>
   rw[z]at ej
   cases(show o=some x from ej)
   obtain⟨u,hu,du⟩:=w.env j x z
   refine⟨u,?_,du⟩
   simp only[List.getElem?_cons_succ,L2.caps,List.getElem?_map,hj,Option.map_some,hu]
   rfl
theorem K6{js:List Nat}{mi:MI}{tt:MT}{te:ME}{σ:St}{H:Hp}{Q:VK}(h:tG (gw X.K ct) X.K ct W (wD js mi tt te) σ H Q):Uq js (tG (RN X.K ct) X.K ct W mi) (tG zj X.K ct W0 tt) (tG (gw X.K ct) X.K ct W0 te) σ H Q:=by
 obtain⟨ι,e,M,w,p⟩:=cG (gM:=RN X.K ct) (f:=fun it e M1=>rF it.src tt te (o8 js e) it.ds [] M1) h
 refine⟨ι,e,M,w,p.mono fun J H1 ⟨gK,e1,M1,it,w1,q1,p1⟩=> ?_⟩
 obtain⟨ok1,hz,step⟩:=q1
 refine⟨fun i m ys H'=>m=it.ds.length - i∧i≤it.ds.length∧ys.length≤i∧∃ι' M' ds',Ext X.K gK M1.length H1 ι' M'.length H'∧Rl X.K ct ι' M' H'∧o5 X.K ct ι' M'.length H' ds' ys∧jt (gw X.K ct) X.K ct (wAt W σ) ι' M'.length H' (rF it.src tt te (o8 js e1) (it.ds.drop i) ds' M') Q,
  ⟨it.ds.length,by simp,Nat.zero_le _,Nat.le_refl _,gK,M1,[],.refl,w1.rl,.nil,by simpa using p1⟩,?_⟩
 rintro i m ys H' ⟨rfl,hi,hy,ι',M',ds',x',r',dy,p'⟩
 by_cases hlt:i<it.ds.length
 ·rw[List.drop_eq_getElem_cons hlt]at p'
  unfold rF at p'
  by_cases ok':lM it.src M'
  ·rw[if_pos ok']at p'
   obtain⟨go,yl⟩:=(step ι' M' H' x' r' ok' i).1 _ (List.getElem?_eq_getElem hlt)
   refine .inr ⟨go,fun KC H2=>KC.length≤i+1∧∃mz M2 ds2,Ext X.K gK M1.length H1 mz M2.length H2∧Rl X.K ct mz M2 H2∧o5 X.K ct mz M2.length H2 ds2 KC∧jt (gw X.K ct) X.K ct (wAt W σ) mz M2.length H2 (rF it.src tt te (o8 js e1) (it.ds.drop (i+1)) ds2 M2) Q,?_,?_⟩
   ·rintro KC H2 ⟨hl2,q2⟩
    exact⟨by omega,it.ds.length - (i+1),by omega,rfl,hlt,hl2,q2⟩
   ·intro x H2 y
    obtain⟨x2,r2,dv⟩:=yl x H2 y
    have w2:Ws X.K ct ι' (some it.ds[i]::o8 js e1) M' (some x::L2.caps js σ) H2:=(w1.ext (x'.trans x2) r2).caps js dv
    have p2:=p'.ext x2
    refine⟨ι',_,M',w2,?_⟩
    cases z:tt (some it.ds[i]::o8 js e1) M' with
    | bad=>simp only[z,Qy,Out.jm]at p2;exact p2
    | exc xc xd xM=>simp only[z,Qx,Out.jm]at p2;exact p2.elim
    | ok k M3=>
     simp only[z,Bw,Out.fH]at p2
     intro PJ k3 H3 x3 r3 ek
     have J6:k=k3:=ek;subst J6
     have p3:=p2.ext x3
     have w3:=w2.ext x3 r3
     have dy3:=(dy.mono x2).mono x3
     cases k with
     | false=>exact⟨by omega,PJ,M3,ds',(x'.trans x2).trans x3,r3,dy3,p3⟩
     | true=>
      simp only[if_true]at p3 ⊢
      refine⟨PJ,_,M3,w3,?_⟩
      cases z4:te (some it.ds[i]::o8 js e1) M3 with
      | bad=>simp only[z4,Qy,Out.jm]at p3;exact p3
      | exc xc xd xM=>simp only[z4,Qx,Out.jm]at p3;exact p3.elim
      | ok yy M4=>
       simp only[z4,Bw,Out.fH]at p3
       intro ι4 v4 H4 x4 r4 d4
       exact⟨by rw[List.length_append];simp;omega,ι4,M4,ds'++[yy],((x'.trans x2).trans x3).trans x4,r4,(dy3.mono x4).append (.cons d4 .nil),p3.ext x4⟩
  ·rw[if_neg ok']at p'
   exact p'.elim
 ·have e0:i=it.ds.length:=by omega
  subst e0
  rw[List.drop_length]at p'
  unfold rF at p'
  by_cases ok':lM it.src M'
  ·rw[if_pos ok']at p'
   exact .inl ⟨(step ι' M' H' x' r' ok' _).2 (Nat.le_refl _),by omega,fun pp hp=>rW r' dy hp p'⟩
  ·rw[if_neg ok']at p'
   exact p'.elim
variable{elt iter:Expr}{ifs:List Expr}{scope:Scope}{x:Str}{px:Pos}{mi:MI}{tt:MT}{te:ME}
theorem vq(hc:X.calm=true)(cs:List Str)(js:List Nat)(hi:SI X ct W (.Name x px) iter mi)(hcap:qK X scope cs js)(ht:∀cl C fp s H,STs (aP X scope cl C (x::cs) fp s H) ct W0 ifs tt)(he:∀cl C fp s H,SE (aP X scope cl C (x::cs) fp s H) ct W0 elt te)
  (hall:∀y∈scope.names,y.2= .free→y.1∈cs) (hcell:∀y∈scope.names,y.2≠ .cell) (hnames:∀y∈scope.names,y.2= .local→scope.names.lookup y.1=some .local) (hnd:(x::cs).Nodup)
  (hkind:scope.kind= .function:=by rfl) (hx:scope.names.lookup x=some .local:=by rfl) (hs:∀v,foldedSetIterable iter X.env v=pure v:=by intro _;rfl):
  SE X ct W (.ListComp elt [⟨.Name x px,iter,ifs,0⟩] scope pos) (wD js mi tt te):=
 iB (Yc (tt:=tG zj X.K ct W0 tt) (te:=tG (gw X.K ct) X.K ct W0 te) hc cs js hi hcap (fun cl C fp s H=>ht cl C fp s H) (fun cl C fp s H=>he cl C fp s H) hall hcell hnames hnd hkind hx hs) fun σ H Q q=>K6 q
theorem Xu{y:Str}{py spos:Pos}{k:Nat}(hc:X.calm=true)(cs:List Str)(js:List Nat)(hN:X.N.Nodup)(hk:X.N[k]? = some y)(hy:X.env.scope.names.lookup y=some .local)(hi:SI X ct W (.Name x px) iter mi)(hcap:qK X scope cs js)
  (ht:∀cl C fp s H,STs (aP X scope cl C (x::cs) fp s H) ct W0 ifs tt) (he:∀cl C fp s H,SE (aP X scope cl C (x::cs) fp s H) ct W0 elt te)
  (hall:∀y∈scope.names,y.2= .free→y.1∈cs) (hcell:∀y∈scope.names,y.2≠ .cell) (hnames:∀y∈scope.names,y.2= .local→scope.names.lookup y.1=some .local) (hnd:(x::cs).Nodup)
  (hsw:swapsWith (.ListComp elt [⟨.Name x px,iter,ifs,0⟩] scope pos) (some (.Name y py)) spos.line X.env=pure true:=by rfl)
  (hkind:scope.kind= .function:=by rfl) (hx:scope.names.lookup x=some .local:=by rfl) (hs:∀v,foldedSetIterable iter X.env v=pure v:=by intro _;rfl):
  SS X ct W (.Assign [.Name y py] (.ListComp elt [⟨.Name x px,iter,ifs,0⟩] scope pos) spos) (fJ (wD js mi tt te) (gN k)):=
 PS.imp (X6 (tt:=tG zj X.K ct W0 tt) (te:=tG (gw X.K ct) X.K ct W0 te) hc cs js hN hk hy hi hcap (fun cl C fp s H=>ht cl C fp s H) (fun cl C fp s H=>he cl C fp s H) hall hcell hnames hnd hsw hkind hx hs) fun T σ H q=>IW (fun _ q=>K6 q) (fun v H Q ⟨ι,e,M,d,w,q,p⟩=>p _ (w.set k q)) q
end
def slots(n:Nat)(ds:List D):Sl:=ds.map some++List.replicate (n - ds.length) none
def cI(n:Nat)(b:MS):Fn:=fun ds M=>match b (slots n ds) M with
 | .ret d M'=> .ok d M'
 | .next _ M'=> .ok .non M'
 | .exc c d _ M'=> .exc c d M'
 | _=> .bad
theorem Ws.start{K:PySem.W.Frag}{ct ι:Nat→Addr}{M:Mem}{H:Hp}{ds:List D}{vs:List V}(N:List Str)(R:Rl K ct ι M H)(h:o5 K ct ι M.length H ds vs):Ws K ct ι (slots N.length ds) M (L2.start N vs) H:=by
 refine⟨R,by simp[slots,L2.start,h.length],fun i d hd=> ?_⟩
 unfold slots at hd
 by_cases z:i<ds.length
 ·rw[List.getElem?_append_left (by simpa using z),List.getElem?_map]at hd
  obtain⟨d',e1,e2⟩:=Option.map_eq_some_iff.mp hd
  cases e2
  obtain⟨v,hv,dv⟩:=h.at e1
  refine⟨v,?_,dv⟩
  unfold L2.start
  rw[List.getElem?_append_left (by rw[List.length_map,h.length];exact z),List.getElem?_map,hv]
  rfl
 ·rw[List.getElem?_append_right (by simpa using z),List.getElem?_replicate]at hd
  split at hd<;>cases hd
section
variable{P:Program}{w:World}{K:PySem.W.Frag}{mg:Str→Option Value}{base:Heap}{ct:Nat→Addr}
theorem kZ{n ar:Nat}{b:MS}{x qual:Str}{st:Stmt}{dV:Value}{f:Addr}{fd:FuncData}{N ps:List Str}{k:Nat}(F:b7 K x qual st dV f fd)(S:bu N ps (au st))(hn:N.length=n)(har:ps.length=ar)
  (hbody:∀(cdv:Value) (A:Around) (outer:List PySem.Env) (s:Shared) (H:Hp) (E:XK) (W:bG),j6 k (A.deeper (envOfC qual (au st) s.heap.objs.size f cdv))→
   W8 ((yg (iD P w) P w K mg base N qual (au st) f cdv A outer s H E).wish (fL (yg (iD P w) P w K mg base N qual (au st) f cdv A outer s H E) W)) ct W (aG st) b):
  bB P w K mg base (iD P w) (k+1) f fd ps (spS K ct (cI n b) ar):=by
 subst hn har
 refine F.okX S (fun vs H Q E ⟨ι,ds,M,hl,_,hd,_⟩=>by rw[hd.length,hl]) fun cdv A outer s H vs Q E hr ⟨ι,ds,M,hl,R,hd,p⟩=> ?_
 refine⟨_,fun C dx _ H'=>E (.ref C) (some dx) H',fun C dx σ H' z=>z,hbody cdv A outer s H E _ hr,ι,slots N.length ds,M,Ws.start N R hd,?_⟩
 unfold cI at p
 cases z:b (slots N.length ds) M with
 | ret d M'=>rw[z]at p;exact fun ι' v H' x r q=> .inl (p ι' v H' x r q)
 | next e M'=>rw[z]at p;exact fun ι' σ' H' x w'=> .inl (p ι' .non H' x w'.rl .non)
 | exc c d e M'=>rw[z]at p;exact fun ι' σ' dx v H' x w' q1 q2=>p ι' dx v H' x w'.rl q1 q2
 | brk e M'=>rw[z]at p;exact p.elim
 | cont e M'=>rw[z]at p;exact p.elim
 | bad=>rw[z]at p;exact p.elim
end
theorem afy{P:Program}{w:World}{K:PySem.W.Frag}{mg:Str→Option Value}{base:Heap}{k:Nat}{f:Addr}{fd:FuncData}{ps:List Str}{sp:Sp}(F:bB P w K mg base (iD P w) k f fd ps sp):bB P w K mg base TJ k f fd ps (fun vs H Q _=>sp vs H Q E0):=
 ⟨fun vs H Q _ h=>F.len vs H Q E0 h,fun A outer s H args us vs Q E hr he hb hv hs=>codeAny_mono (F.run A outer s H args us vs Q E0 hr he hb hv hs) fun r s' hq=>by
  match r,hq with
  | .error e,hq=>obtain⟨_,_,_,_,_,_,_,_,_,_,_,_,_,_,_,z⟩:=hq;exact z.elim
  | .ok (.ret u),hq=>exact hq⟩
theorem xq{Y:Cx}{W:bG}(hst:Y.stack=Y.env::Y.outer)(hf:Y.env.frame=some Y.env.locals)(ok:(Y.wish (fL Y W)).Ok):PassesOwn (model Y.prog Y.w) Y.A Y.env (fL Y W):=fun ev s' h=>fL.RZ hst hf ok.frames ev s' h
theorem Tk.none{X:Cx}:Tk X W0:=fun _ _ ⟨_,_,_,_,_,_,_,_,_,_,_,_,_,_,z⟩=>z.elim
def spL(K:PySem.W.Frag):Sp:=fun vs H Q _=>∃(a:Addr) (ns:List Int),vs=[.ref a]∧Z9 K H a (ns.map V.int)∧ns.length≤63∧∀H',Q (.bl true) H'
theorem Mj{K:PySem.W.Frag}{ct ι:Nat→Addr}{n:Nat}{H:Hp}:∀ns:List Int,o5 K ct ι n H (ns.map D.int) (ns.map V.int)
 | []=> .nil
 | i::r=> .cons (.int i) (Mj r)
theorem aeQ{P:Program}{w:World}{K:PySem.W.Frag}{mg:Str→Option Value}{base:Heap}{ct:Nat→Addr}{k:Nat}{f:Addr}{fd:FuncData}{x:Str}{fn:Fn}(F:bB P w K mg base (iD P w) k f fd [x] (spS K ct fn 1))
  (h:∀ns:List Int,ns.length≤63→∃M,fn [.cl (ns.map D.int)] []= .ok (.bl true) M):bB P w K mg base TJ k f fd [x] (spL K):=by
 refine(afy F).imp fun vs H Q E ⟨a,ns,e,hf,hl,q⟩=> ?_
 subst e
 obtain⟨M,e⟩:=h ns hl
 refine⟨fun _=>0,[.cl (ns.map D.int)],[],rfl,⟨fun i j hi=>absurd hi (Nat.not_lt_zero _),fun i o h=>by simp at h⟩,.cons (.cl hf (Mj ns)) .nil,?_⟩
 rw[e]
 intro ι' v H' _ _ dv
 cases dv
 exact q H'
theorem ac8{l:PySem.W.OpenLaw}{q:Program}{loose:List Str}{XP:(Str→Option Value)→Heap→Prop}{YP:World→Heap→Prop}{d:DefRec}{K:Params→PySem.W.Frag}{x:Str}{k:Nat}(hn:l.most=some 63)(hdf:d.params.defaults=[])(hr:j6 k callerA)
  (hY:∀(w:World) (h:Heap),YP w h→(K w.params).In h)
  (F:∀(w:World) (mg:Str→Option Value) (fa:Addr) (h:Heap),(K w.params).In h→h.Ns mainGlobals mg→mg d.name=some (.ref fa)→
   ∃fd:FuncData,(∀(s:Shared) (u:Value),BindsTo s fd ⟨[u],[]⟩ [(x,u)])∧∀base:Heap,(K w.params).In base→base.Ns mainGlobals mg→bB l.prog w (K w.params) mg base TJ k fa fd [x] (spL (K w.params))):
  PySem.W.WalkO q loose XP YP l.row.toRowW d [] (fun f vs=>PySem.call f vs):=
 Xi (n:=63) (k:=k) (x:=x) (CX:=fun _=>TJ) (sp:=fun w=>spL (K w.params)) hn (by decide) hdf hr hY F (fun _ H a ns hl hO hS=>⟨a,ns,rfl,by
  rcases hS with(z | z) | z
  ·rcases hO a with n | ⟨o,xs,n⟩
   ·rw[n]at z;cases z
   ·rw[n]at z;cases z
  ·exact .inl z
  ·exact .inr z,hl,fun _=>rfl⟩) fun _ _ _ _ _ z=>z
end S
namespace S
open PySem PySem.Spec PyProof.Rows L2
section
variable{e:Sl}{M:Mem}
@[simp] theorem ahI{i:Nat}{d:D}(h:e[i]? = some (some d)):az i e M= .ok d M:=Yu h
@[simp] theorem amv{d:D}:mC d e M= .ok d M:=id rfl
@[simp] theorem ahQ{op:tH}{ma mb:ME}:aK op ma mb e M=(ma e M).bind fun d M1=>(mb e M1).bind fun d' M2=>op d d' M2:=id rfl
@[simp] theorem ak4{op:D→Mem→Out D}{ma:ME}:mUn op ma e M=(ma e M).bind op:=id rfl
@[simp] theorem alZ{b:Bool}:Pj (.bl b) M= .ok b M:=id rfl
@[simp] theorem aeA{m:ME}:fD m e M=(m e M).bind Pj:=id rfl
@[simp] theorem ahR{t u:MT}:Sx t u e M=(t e M).bind fun k M1=>if k=true then u e M1 else .ok false M1:=id rfl
@[simp] theorem ak6{t u:MT}:mOr t u e M=(t e M).bind fun k M1=>if k=true then .ok true M1 else u e M1:=id rfl
@[simp] theorem ahM{t:MT}:V1 t e M=(t e M).bind fun k M1=> .ok (!k) M1:=id rfl
@[simp] theorem aeM{t u:ME}:QF t u e M=(t e M).bind fun d M1=>(Pj d M1).bind fun k M2=>if k=true then u e M2 else .ok (.bl false) M2:=id rfl
@[simp] theorem ahL{t u:ME}:abm t u e M=(t e M).bind fun d M1=>(Pj d M1).bind fun k M2=>if k=true then .ok (.bl true) M2 else u e M2:=id rfl
@[simp] theorem aeE{t:ME}:V0 t e M=(t e M).bind fun d M1=>(Pj d M1).bind fun k M2=> .ok (.bl (!k)) M2:=id rfl
@[simp] theorem ak7{t:MT}{a b:ME}:mIf t a b e M=(t e M).bind fun k M1=>if k=true then a e M1 else b e M1:=id rfl
@[simp] theorem ahN:aH e M= .ok [] M:=id rfl
@[simp] theorem aeJ{m:ME}{ms:MA}:aq m ms e M=(m e M).bind fun d M1=>(ms e M1).bind fun ds M2=> .ok (d::ds) M2:=id rfl
theorem pZ:sizeLine=16777216:=sizeLine_eq
@[simp] theorem ahK{ms:MA}:jP ms e M=(ms e M).bind fun ds M1=>if ds.length≤16777216 then .ok (.tup ds) M1 else .bad:=by unfold jP;rw[pZ]
@[simp] theorem ahO{ms:MA}:De ms e M=(ms e M).bind fun ds M1=>if ds.length≤16777216 then .ok (.ref M1.length) (M1++[.lst ds])else .bad:=by unfold De;rw[pZ]
@[simp] theorem ahP{cs:List Nat}{m:ME}{f:Str}:j4 cs m f e M=(m e M).bind (yG cs f):=id rfl
theorem p_{cs:List Nat}{f:Str}{n c:Nat}{fs:List (Str×D)}{d:D}(h:M[n]? = some (.ins c fs))(hc:c∈cs)(hf:fs.lookup f=some d):yG cs f (.ref n) M= .ok d M:=by
 unfold yG;simp only[h,hc,if_true,hf]
@[simp] theorem aeL{fn:Fn}{ar:Nat}{dv:List D}{ms:MA}:fG fn ar dv ms e M=(ms e M).bind fun ds M1=>if(ds++dv).length=ar then fn (ds++dv) M1 else .bad:=id rfl
@[simp] theorem aeF{k:Nat}{m:Str}{fn:Fn}{ar:Nat}{dv:List D}{mo:ME}{ms:MA}:cL k m fn ar dv mo ms e M=(mo e M).bind fun d M1=>if yO k m d M1=true then(ms e M1).bind fun ds M2=>if(d::(ds++dv)).length=ar then fn (d::(ds++dv)) M2 else .bad else .bad:=id rfl
theorem Mg{k:Nat}{m:Str}{n:Nat}{fs:List (Str×D)}(h:M[n]? = some (.ins k fs))(hf:fs.lookup m=none):yO k m (.ref n) M=true:=by
 unfold yO;simp[h,hf]
@[simp] theorem aeG{kc:Nat}{fn:Fn}{ar:Nat}{dv:List D}{ms:MA}:Ae kc fn ar dv ms e M=(ms e M).bind fun ds M1=>if(D.ref M1.length::(ds++dv)).length=ar then(fn (.ref M1.length::(ds++dv)) (M1++[.ins kc []])).bind fun r M2=>if Mf r=true then .ok (.ref M1.length) M2 else .bad else .bad:=id rfl
@[simp] theorem acU:Mf .non=true:=id rfl
@[simp] theorem ak9{op:H_}{ms:MA}:yN op ms e M=(ms e M).bind op:=id rfl
@[simp] theorem ak_{T:String}{op:D→List D→Mem→Out D}{mo:ME}{ms:MA}:Hj T op mo ms e M=(mo e M).bind fun d M1=>if Di T d M1=true then(ms e M1).bind fun ds M2=>op d ds M2 else .bad:=id rfl
@[simp] theorem ak5{m:ME}{lo hi:MO'}:VR m lo hi e M=(m e M).bind fun d M1=>(lo e M1).bind fun l M2=>(hi e M2).bind fun h M3=>Ge d l h M3:=id rfl
@[simp] theorem aeD{m:ME}:wC m e M=(m e M).bind asI:=id rfl
@[simp] theorem abn:pY e M= .ok none M:=id rfl
@[simp] theorem ai4{i:Int}:asI (.int i) M= .ok (some i) M:=id rfl
@[simp] theorem aeI{m:ME}:Af m e M=(m e M).bind L_:=id rfl
@[simp] theorem afs{ds:List D}:L_ (.tup ds) M= .ok ⟨none,ds⟩ M:=id rfl
theorem mK{n:Nat}{ds:List D}(h:M[n]? = some (.lst ds)):L_ (.ref n) M= .ok ⟨some (n,ds),ds⟩ M:=by simp only[L_,dU h]
@[simp] theorem aeC{ms:MA}:Ly ms e M=(ms e M).bind Jj:=id rfl
@[simp] theorem aeB{ms:MA}:VV ms e M=(ms e M).bind Oe:=id rfl
theorem Em{j:Int}(h: -(2 ^ 62)≤j)(h2:j<2 ^ 24):Jj [.int j] M= .ok ⟨none,zE 0 j.toNat⟩ M:=by simp only[Jj];rw[if_pos ⟨h,h2⟩]
@[simp] theorem aeK{js:List Nat}{mi:MI}{tt:MT}{te:ME}:wD js mi tt te e M=(mi e M).bind fun it M1=>rF it.src tt te (o8 js e) it.ds [] M1:=id rfl
@[simp] theorem QG:oV e M= .ok true M:=id rfl
@[simp] theorem JZ{C:Int→Int→Bool}{g:Int→Int→D}{i j:Int}:Ng C g (.int i) (.int j) M=if C i j=true then .ok (g i j) M else .bad:=id rfl
@[simp] theorem adG{i j:Int}:j0 (.int i) (.int j) M= .ok (.int (i+j)) M:=id rfl
@[simp] theorem adv{i j:Int}:Gm (.int i) (.int j) M= .ok (.int (i - j)) M:=id rfl
@[simp] theorem ahx{i j:Int}:sLt (.int i) (.int j) M= .ok (.bl (decide (i<j))) M:=id rfl
@[simp] theorem adz{i j:Int}:U4 (.int i) (.int j) M= .ok (.bl (decide (i≤j))) M:=id rfl
@[simp] theorem adC{i j:Int}:Oa (.int i) (.int j) M= .ok (.bl (decide (j<i))) M:=id rfl
@[simp] theorem adD{i j:Int}:aax (.int i) (.int j) M= .ok (.bl (decide (j≤i))) M:=id rfl
theorem zW{i j:Int}(h:(-(2 ^ 64)<i∧i<2 ^ 64)∨(-(2 ^ 64)<j∧j<2 ^ 64)):yE (.int i) (.int j) M= .ok (.int (i*j)) M:=by
 refine pU ?_;unfold U0;rw[JZ,if_pos (by unfold acA;exact decide_eq_true h)]
theorem UW{a:Str}{n:Int}(ha:a.length≤1000)(h0: -(2 ^ 62)<n)(h1:n≤1000):yE (.str a) (.int n) M= .ok (.str (PySem.Txt.mul a n)) M:=by
 refine(uC rfl).trans ?_;simp only[Qi];rw[if_pos ⟨ha,h0,h1⟩]
theorem Lf{i j:Int}(h:0<j)(h2:j<1073741824):Ob (.int i) (.int j) M= .ok (.int (i / j)) M:=by
 unfold Ob;rw[JZ,if_pos (by unfold acB;exact decide_eq_true ⟨h,h2⟩)]
theorem Ej{i j:Int}(h:0<j):lW (.int i) (.int j) M= .ok (.int (i % j)) M:=by
 unfold lW;rw[JZ,if_pos (by unfold agJ;exact decide_eq_true h)]
theorem Lb{i j:Int}(h:0≤j∧j≤1000000∧i.natAbs<2 ^ 64):Ei (.int i) (.int j) M= .ok (.int (i ^ j.toNat)) M:=by
 unfold Ei;rw[JZ,if_pos (by unfold W2;exact decide_eq_true h)]
@[simp] theorem adx{i:Int}:XC (.int i) M= .ok (.int (-i)) M:=id rfl
theorem BX{d d':D}{a b:Dt}(h:jM M 12 d=some a)(h':jM M 12 d'=some b):Q5 M d d'=some (cF a b):=by unfold Q5;rw[h,h']
theorem zf{d d':D}{b:Bool}(h:Q5 M d d'=some b):sEq d d' M= .ok (.bl b) M:=by unfold sEq;rw[h]
theorem N_{d d':D}{b:Bool}(h:Q5 M d d'=some b):sNe d d' M= .ok (.bl (!b)) M:=by unfold sNe;rw[h]
theorem Q4{i j:Int}:Q5 M (.int i) (.int j)=some (decide (i=j)):=by
 rw[BX (a:= .int i) (b:= .int j) rfl rfl];unfold cF;rw[Bool.beq_eq_decide_eq]
theorem Q3{i j:Str}:Q5 M (.str i) (.str j)=some (decide (i=j)):=by
 rw[BX (a:= .str i) (b:= .str j) rfl rfl];unfold cF;rw[Bool.beq_eq_decide_eq]
@[simp] theorem ahD{i j:Int}:sEq (.int i) (.int j) M= .ok (.bl (decide (i=j))) M:=zf Q4
@[simp] theorem Qh{i j:Int}:sNe (.int i) (.int j) M= .ok (.bl (!decide (i=j))) M:=N_ Q4
@[simp] theorem ahC{i j:Str}:sEq (.str i) (.str j) M= .ok (.bl (decide (i=j))) M:=zf Q3
@[simp] theorem ahw{i j:Str}:sNe (.str i) (.str j) M= .ok (.bl (!decide (i=j))) M:=N_ Q3
@[simp] theorem ahz{d:D}:sIs d .non M= .ok (.bl (isN d)) M:=id rfl
@[simp] theorem ait:isN .non=true:=id rfl
@[simp] theorem aiu{i:Int}:isN (.int i)=false:=id rfl
theorem Pg{α:Type}{xs:List α}{k:Int}(h:0≤k):Gy xs k=xs[k.toNat]? := by
 unfold Gy ixN
 rw[if_pos h]
 by_cases z:k<xs.length
 ·rw[if_pos z];rfl
 ·rw[if_neg z]
  show none=_
  rw[List.getElem?_eq_none (by omega)]
theorem Dk{ds:List D}{k:Int}{d:D}(h0:0≤k)(h:ds[k.toNat]? = some d):bx (.tup ds) (.int k) M= .ok d M:=
 pU (pU (by simp only[Le,Pg h0,h]))
theorem U7{ds:List D}{k:Int}{d:D}(h0:0≤k)(h:ds[k.toNat]? = some d):bx (.cl ds) (.int k) M= .ok d M:=
 pU (pU (by simp only[Le,yD,Pg h0,h]))
theorem yt{n:Nat}{ds:List D}{k:Int}{d:D}(hM:M[n]? = some (.lst ds))(h0:0≤k)(h:ds[k.toNat]? = some d):bx (.ref n) (.int k) M= .ok d M:=
 pU (pU (by simp only[Le,yD,dU hM,Pg h0,h]))
@[simp] theorem U6{d:D}{r:List D}:bx (.tup (d::r)) (.int 0) M= .ok d M:=Dk (by decide) rfl
@[simp] theorem U5{d0 d:D}{r:List D}:bx (.tup (d0::d::r)) (.int 1) M= .ok d M:=Dk (by decide) rfl
@[simp] theorem adB{d0 d1 d:D}{r:List D}:bx (.tup (d0::d1::d::r)) (.int 2) M= .ok d M:=Dk (by decide) rfl
@[simp] theorem adA{d0 d1 d2 d:D}{r:List D}:bx (.tup (d0::d1::d2::d::r)) (.int 3) M= .ok d M:=Dk (by decide) rfl
theorem dJ{n:Nat}{ds:List D}(hM:M[n]? = some (.lst ds)):kO [.ref n] M= .ok (.int ds.length) M:=Vx (Vx (by simp only[Ql,w6,yD,dU hM]))
@[simp] theorem ahy{ds:List D}:kO [.cl ds] M= .ok (.int ds.length) M:=id rfl
theorem Hf{n:Nat}{ds:List D}(hM:M[n]? = some (.lst ds)):Ek [.ref n] M= .ok (.ref M.length) (M++[.lst ds]):=by simp only[Ek,w6,yD,dU hM]
theorem jc{n:Nat}{ds:List D}(hM:M[n]? = some (.lst ds)):oN [.ref n] M= .ok (.tup ds) M:=by simp only[oN,w6,yD,dU hM]
theorem tR{n:Nat}{ds:List D}{lo hi:Option Int}(hM:M[n]? = some (.lst ds)):Ge (.ref n) lo hi M= .ok (.ref M.length) (M++[.lst (cut ds lo hi)]):=by simp only[Ge,yD,dU hM]
@[simp] theorem ajV{ds:List D}{lo hi:Option Int}:Ge (.cl ds) lo hi M= .ok (.ref M.length) (M++[.lst (cut ds lo hi)]):=id rfl
theorem gq{n:Nat}{ds:List D}{d:D}(hM:M[n]? = some (.lst ds))(h:ds.length<16777216):lX (.ref n) [d] M= .ok .non (M.set n (.lst (ds++[d]))):=by
 simp only[lX,hM];rw[pZ,if_pos h]
theorem iJ{n:Nat}{ds:List D}(hM:M[n]? = some (.lst ds)):Di "list" (.ref n) M=true:=by simp[Di,dU hM]
@[simp] theorem acK{i j:Int}:Qj [.int i,.int j] M= .ok (.int (if j<i then j else i)) M:=id rfl
@[simp] theorem adw:jN e M= .next e M:=id rfl
def jK.seq(o:jK)(t:MS):jK:=match o with
 | .next e M=>t e M
 | .ret d M=> .ret d M
 | .brk e M=> .brk e M
 | .cont e M=> .cont e M
 | .exc c d e M=> .exc c d e M
 | .bad=> .bad
@[simp] theorem ahu{s t:MS}:bI s t e M=(s e M).seq t:=by
 unfold bI jK.seq
 cases s e M<;>rfl
@[simp] theorem adp{t:MS}:(jK.next e M).seq t=t e M:=id rfl
@[simp] theorem ahs{t:MS}{d:D}:(jK.ret d M).seq t= .ret d M:=id rfl
@[simp] theorem aht{t:MS}{c:Nat}{d:D}:(jK.exc c d e M).seq t= .exc c d e M:=id rfl
@[simp] theorem adF{m:ME}:nZ m e M=Gv e (m e M) fun _ M1=> .next e M1:=id rfl
@[simp] theorem ahv{m:ME}:jB m e M=Gv e (m e M) fun d M1=> .ret d M1:=id rfl
@[simp] theorem ajX{c:MT}{s t:MS}:Dl c s t e M=Gv e (c e M) fun k M1=>if k=true then s e M1 else t e M1:=id rfl
def tgO(o:Option Sl)(M:Mem):jK:=match o with
 | some e'=> .next e' M
 | none=> .bad
@[simp] theorem ada:tgO (some e) M= .next e M:=id rfl
@[simp] theorem ahE{m:ME}{g:Tg}:fJ m g e M=Gv e (m e M) fun d M1=>tgO (g d e) M1:=by
 unfold fJ tgO;rfl
@[simp] theorem amL{i:Nat}{d:D}:gN i d e=some (e.set i (some d)):=id rfl
def abj(o:Option Mem)(e:Sl):jK:=match o with
 | some M=> .next e M
 | none=> .bad
@[simp] theorem acO:abj (some M) e= .next e M:=id rfl
@[simp] theorem adE{cs:List Nat}{mo mv:ME}{f:Str}:tU cs mo mv f e M=Gv e (mv e M) fun d M1=>Gv e (mo e M1) fun o M2=>abj (qi cs f d o M2) e:=by
 unfold tU abj;rfl
theorem oO{cs:List Nat}{f:Str}{d:D}{n c:Nat}{fs:List (Str×D)}(h:M[n]? = some (.ins c fs))(hc:c∈cs)(hl:fs.length<1000):qi cs f d (.ref n) M=some (M.set n (.ins c (putD f d fs))):=by
 unfold qi;simp only[h];rw[if_pos ⟨hc,hl⟩]
@[simp] theorem ahB{mi:MI}{g:Tg}{b:MS}:XH mi g b e M=Gv e (mi e M) fun it M1=>qW it.src g b it.ds e M1:=id rfl
@[simp] theorem aah{n:Nat}{d:D}{ds:List D}:slots (n+1) (d::ds)=some d::slots n ds:=by
 unfold slots
 simp
@[simp] theorem aag{n:Nat}:slots (n+1) []=none::slots n []:=by
 unfold slots
 simp[List.replicate_succ]
@[simp] theorem aaf:slots 0 []=[]:=id rfl
def Ve(o:jK):Out D:=match o with
 | .ret d M=> .ok d M
 | .next _ M=> .ok .non M
 | .exc c d _ M=> .exc c d M
 | _=> .bad
@[simp] theorem ahF{n:Nat}{b:MS}{ds:List D}:cI n b ds M=Ve (b (slots n ds) M):=by
 unfold cI Ve
 cases b (slots n ds) M<;>rfl
@[simp] theorem adI{d:D}:Ve (.ret d M)= .ok d M:=id rfl
@[simp] theorem adJ{c:Nat}{d:D}:Ve (.exc c d e M)= .exc c d M:=id rfl
@[simp] theorem acM:Ve (.next e M)= .ok .non M:=id rfl
end
def jK.to(o:jK)(P:Sl→Mem→Prop)(R:D→Mem→Prop):Prop:=match o with
 | .next e M=>P e M
 | .cont e M=>P e M
 | .ret d M=>R d M
 | _=>False
@[simp] theorem ahp{e:Sl}{M:Mem}{P:Sl→Mem→Prop}{R:D→Mem→Prop}:(jK.next e M).to P R=P e M:=id rfl
theorem Hy{src:Option (Nat×List D)}{g:Tg}{b:MS}(P:Nat→Sl→Mem→Prop){R:D→Mem→Prop}:∀(ds:List D) (k:Nat) {e:Sl} {M:Mem},P k e M→
  (∀i e M,k≤i→i≤k+ds.length→P i e M→lM src M)→
  (∀i d e M,ds[i]? = some d→P (k+i) e M→∃e1,g d e=some e1∧(b e1 M).to (P (k+i+1)) R)→
  (∃e' M',qW src g b ds e M= .next e' M'∧P (k+ds.length) e' M')∨∃r M',qW src g b ds e M= .ret r M'∧R r M'
 | [],k,e,M,h0,hs,_=> .inl ⟨e,M,by unfold qW;rw[if_pos (hs k e M (Nat.le_refl _) (Nat.le_refl _) h0)],h0⟩
 | d::ds,k,e,M,h0,hs,hb=>by
  unfold qW
  rw[if_pos (hs k e M (Nat.le_refl _) (Nat.le_add_right _ _) h0)]
  obtain⟨e1,hg,h⟩:=hb 0 d e M rfl h0
  rw[hg]
  have go:∀{e2:Sl} {M2:Mem},P (k+1) e2 M2→(∃e' M',qW src g b ds e2 M2= .next e' M'∧P (k+(d::ds).length) e' M')∨∃r M',qW src g b ds e2 M2= .ret r M'∧R r M':=fun{e2 M2} p=>by
   have go:=Hy (src:=src) (g:=g) (b:=b) P (R:=R) ds (k+1) (e:=e2) (M:=M2) p
    (fun i e M h1 h2=>hs i e M (by omega) (by simp only[List.length_cons];omega)) (fun i d e M hd hp=>by
     have e4:k+(i+1)=k+1+i:=by omega
     have:=hb (i+1) d e M (by simpa using hd) (by rw[e4];exact hp)
     rw[e4]at this
     exact this)
   have el:k+1+ds.length=k+(d::ds).length:=by simp only[List.length_cons];omega
   rw[el]at go
   exact go
  cases z:b e1 M with
  | next e2 M2=>rw[z]at h;simp only[z];exact go h
  | cont e2 M2=>rw[z]at h;simp only[z];exact go h
  | ret r M2=>rw[z]at h;simp only[z];exact .inr ⟨r,M2,rfl,h⟩
  | brk _ _=>rw[z]at h;exact h.elim
  | exc _ _ _ _=>rw[z]at h;exact h.elim
  | bad=>rw[z]at h;exact h.elim
theorem Hz{src:Option (Nat×List D)}{g:Tg}{b:MS}(P:Nat→Sl→Mem→Prop){ds:List D}{e:Sl}{M:Mem}(h0:P 0 e M)
  (hs:∀i e M,i≤ds.length→P i e M→lM src M)
  (hb:∀i d e M,ds[i]? = some d→P i e M→∃e1,g d e=some e1∧(b e1 M).to (P (i+1)) fun _ _=>False):
  ∃e' M',qW src g b ds e M= .next e' M'∧P ds.length e' M':=by
 rcases Hy (src:=src) (g:=g) (b:=b) P (R:=fun _ _=>False) ds 0 h0 (fun i e M _ h2=>hs i e M (by omega)) (fun i d e M hd hp=>by
  rw[Nat.zero_add]at hp ⊢
  exact hb i d e M hd hp)with h | ⟨_,_,_,h⟩
 ·simpa using h
 ·exact h.elim
theorem Fz{src:Option (Nat×List D)}{tt:MT}{te:ME}{ce:Sl}(P:Nat→List D→Mem→Prop):∀(ds:List D) (k:Nat) {ys:List D} {M:Mem},P k ys M→
  (∀i ys M,k≤i→i≤k+ds.length→P i ys M→lM src M)→
  (∀i d ys M,ds[i]? = some d→P (k+i) ys M→∃t M1,tt (some d::ce) M= .ok t M1∧((t=false∧P (k+i+1) ys M1)∨(t=true∧∃y M2,te (some d::ce) M1= .ok y M2∧P (k+i+1) (ys++[y]) M2)))→
  ∃ys' M',rF src tt te ce ds ys M= .ok (.ref M'.length) (M'++[.lst ys'])∧P (k+ds.length) ys' M'
 | [],k,ys,M,h0,hs,_=>⟨ys,M,by unfold rF;rw[if_pos (hs k ys M (Nat.le_refl _) (Nat.le_refl _) h0)],h0⟩
 | d::ds,k,ys,M,h0,hs,hb=>by
  unfold rF
  rw[if_pos (hs k ys M (Nat.le_refl _) (Nat.le_add_right _ _) h0)]
  obtain⟨t,M1,ht,h⟩:=hb 0 d ys M rfl h0
  rw[ht,Bw,Out.fH]
  have el:k+1+ds.length=k+(d::ds).length:=by simp only[List.length_cons];omega
  have go:∀{KC:List D} {M2:Mem},P (k+1) KC M2→∃ys' M',rF src tt te ce ds KC M2= .ok (.ref M'.length) (M'++[.lst ys'])∧P (k+(d::ds).length) ys' M':=fun{KC M2} p=>by
   have:=Fz (src:=src) (tt:=tt) (te:=te) (ce:=ce) P ds (k+1) (ys:=KC) (M:=M2) p
    (fun i e M h1 h2=>hs i e M (by omega) (by simp only[List.length_cons];omega)) (fun i d e M hd hp=>by
     have:=hb (i+1) d e M (by simpa using hd) (by have:k+(i+1)=k+1+i:=by omega
                                                  rw[this];exact hp)
     have e3:k+(i+1)+1=k+1+i+1:=by omega
     rw[e3]at this
     exact this)
   rw[el]at this
   exact this
  rcases h with⟨rfl,p⟩ | ⟨rfl,y,M2,hy,p⟩
  ·exact go p
  ·simp only[if_true]
   rw[hy,Bw,Out.fH]
   exact go p
theorem Ar{src:Option (Nat×List D)}{te:ME}{ce:Sl}{M:Mem}(f:D→D){ds:List D}(hs:lM src M)(hf:∀d∈ds,te (some d::ce) M= .ok (f d) M):rF src oV te ce ds [] M= .ok (.ref M.length) (M++[.lst (ds.map f)]):=by
 have key:∀(ds ys:List D),(∀d∈ds,te (some d::ce) M= .ok (f d) M)→rF src oV te ce ds ys M= .ok (.ref M.length) (M++[.lst (ys++ds.map f)]):=by
  intro ds
  induction ds with
  | nil=>intro ys _;unfold rF;rw[if_pos hs];simp
  | cons d r ih=>
   intro ys h
   unfold rF
   rw[if_pos hs,QG,Bw,Out.fH]
   simp only[if_true]
   rw[h d List.mem_cons_self,Bw,Out.fH,ih _ fun x hx=>h x (List.mem_cons_of_mem _ hx)]
   simp
 have:=key ds [] hf
 simpa using this
theorem Dm{lo:Int}{n i:Nat}{d:D}(h:(zE lo n)[i]? = some d):i<n∧d= .int (lo+i):=by
 unfold zE at h
 rw[List.getElem?_map]at h
 obtain⟨k,hk,rfl⟩:=Option.map_eq_some_iff.mp h
 obtain⟨hi,e⟩:=List.getElem?_eq_some_iff.mp hk
 simp at hi e
 exact⟨hi,by rw[←e]⟩
theorem Qo{lo:Int}{n:Nat}:(zE lo n).length=n:=by simp[zE]
end S
namespace S
open PySem PySem.Spec PyProof.Rows L2
section
variable{X:Cx}{ct:Nat→Addr}{W:bG}
def CP:List D→Option Bool
 | []=>some true
 | .bl b::r=>(CP r).map fun k=>b&&k
 | _=>none
theorem MJ:∀{ds:List D} {k:Bool},CP ds=some k→∃bs:List Bool,ds=bs.map D.bl∧k=bs.all id
 | [],k,h=>by cases h;exact⟨[],rfl,rfl⟩
 | d::r,k,h=>by
  cases d with
  | bl b=>
   simp only[CP]at h
   obtain⟨k',h1,rfl⟩:=Option.map_eq_some_iff.mp h
   obtain⟨bs,rfl,rfl⟩:=MJ h1
   exact⟨b::bs,rfl,rfl⟩
  | _=>simp only[CP]at h;cases h
theorem Q6{K:PySem.W.Frag}{ι:Nat→Addr}{n:Nat}{H:Hp}:∀{bs:List Bool} {vs:List V},o5 K ct ι n H (bs.map D.bl) vs→vs=bs.map V.bl
 | [],_,.nil=>rfl
 | b::bs,_,.cons h hs=>by cases h;rw[Q6 hs];rfl
theorem W5(bs:List Bool):(List.range bs.length).all (fun j=>bs.getD j true)=bs.all id:=by
 rw[Bool.eq_iff_iff,List.all_eq_true,List.all_eq_true]
 constructor
 ·intro h b hb
  obtain⟨j,hj,e⟩:=List.mem_iff_getElem.mp hb
  have:=h j (List.mem_range.mpr hj)
  rw[List.getD_eq_getElem?_getD,List.getElem?_eq_getElem hj]at this
  rw[←e]
  exact this
 ·intro h j hj
  have hj':=List.mem_range.mp hj
  rw[List.getD_eq_getElem?_getD,List.getElem?_eq_getElem hj']
  exact h _ (List.getElem_mem hj')
theorem Tr(hc:X.calm=true):o6 X (.builtin "all") (fun xs H Q=>∃(a:Addr) (bs:List Bool),xs=[.ref a]∧yQ X.K H a (bs.map V.bl)∧Q (.bl (bs.all id)) H):=by
 intro pins s σ H xs us Q I r h
 obtain⟨a,bs,rfl,hq,q⟩:=h
 obtain⟨u,rfl,ru⟩:=vals1 r
 cases(show u=Value.ref a from ru)
 obtain⟨its,rv,p,hz⟩:=I.list hq
 have hlt:a<s.heap.objs.size:=by obtain⟨o,n,e,_⟩:=p;exact Heap.lt_size e
 have hl:its.length=bs.length:=by rw[←rv.length,List.length_map]
 refine call_all_walk (wpAny_pyIter_list p.isList ⟨s.heap.objs.size,[s.heap.objs.size,a],[s.heap.objs.size],its.toArray.size,fun i v=>its.toArray[i]? = some v,_,fun j=>bs.getD j true,rfl,
  Walks.list (A:=X.A.in1) (I.ok.hd hc) s.heap.objs.size a (Nat.ne_of_lt hlt) its.toArray,⟨⟨_,Heap.get?_push_size _ rfl,rfl,rfl⟩,p.isList.push _⟩,?_,fun h' tk hk=> ?_⟩)
 ·intro i v s' Q' E' hP hQ
  have hP':its[i]? = some v:=by simpa using hP
  have hi:i<its.length:=(List.getElem?_eq_some_iff.mp hP').1
  have hb:bs[i]? = some bs[i]:=List.getElem?_eq_getElem (by omega)
  obtain⟨u,hu,ru⟩:=rv.get (i:=i) (x:=V.bl bs[i]) (by rw[List.getElem?_map,hb];rfl)
  rw[hP']at hu
  cases hu
  cases ru
  refine wpAny_truthy_bool ?_
  have e:bs.getD i true=bs[i]:=by rw[List.getD_eq_getElem?_getD,hb];rfl
  rw[←e]
  exact hQ
 ·have e:(List.range its.toArray.size).all (fun j=>bs.getD j true)=bs.all id:=by
   rw[List.size_toArray,hl]
   exact W5 bs
  rw[e]
  exact⟨.bl _,H,I.kept fun b o eb=>hk b o (by simp;exact Nat.ne_of_lt (Heap.lt_size eb)) (Heap.get?_push_of_some _ eb),rfl,q⟩
def Va:H_:=fun ds M=>match ds with
 | [d]=>match yD M d with
  | some es=>match CP es with
   | some k=> .ok (.bl k) M
   | none=> .bad
  | none=> .bad
 | _=> .bad
theorem abO(hc:X.calm=true):qZ X ct (.builtin "all") Va:=by
 refine⟨_,Tr hc,fun ι M H ds vs Q R h p=> ?_⟩
 unfold Va at p
 split at p
 ·rename_i d
  obtain⟨v,rfl,q⟩:=uM h
  cases z:yD M d with
  | none=>rw[z]at p;exact p.elim
  | some es=>
   rw[z]at p
   dsimp only at p
   obtain⟨a,xs,rfl,hs,hd⟩:=R.seq z q
   cases z2:CP es with
   | none=>rw[z2]at p;exact p.elim
   | some k=>
    rw[z2]at p
    obtain⟨bs,rfl,rfl⟩:=MJ z2
    rw[Q6 hd]at hs
    exact⟨a,bs,rfl,hs,p ι _ H .refl R (.bl _)⟩
 ·exact p.elim
theorem Tz(bs:List Bool):CP (bs.map D.bl)=some (bs.all id):=by
 induction bs with
 | nil=>rfl
 | cons b r ih=>simp[CP,ih]
theorem U_{M:Mem}{n:Nat}{bs:List Bool}(h:M[n]? = some (.lst (bs.map D.bl))):Va [.ref n] M= .ok (.bl (bs.all id)) M:=by
 simp only[Va,yD,dU h,Tz]
end
end S
namespace S
open PySem PySem.Spec PyProof.Rows L2
section
variable{X:Cx}{ct:Nat→Addr}{W:bG}
end
end S
namespace S
open PySem PySem.Spec PyProof.Rows L2
section
variable{X:Cx}{ct:Nat→Addr}{W:bG}
def one(ds:List D)(c:Nat)(e:Sl)(M:Mem):jK:=match ds with
 | [d]=> .exc c d e M
 | _=> .bad
def N7(c:Nat)(ms:MA):MS:=fun e M=>Gv e (ms e M) fun ds M1=>one ds c e M1
theorem ji{c k:Nat}{f:Addr}{fd:FuncData}{ps:List Str}{x:Str}{np cpos pos:Pos}{arg:Expr}{ms:MA}(Mx:XMk X.K (ct c) f)(hX:Ax X.K (ct c) "at")(F:bB X.prog X.w X.K X.mg X.base TJ k f fd ps (yq X.K "at"))(hr:j6 (k+1) X.A)(hb:Binds X.K fd ps [])
  (hg:Gl X x) (hm:X.mg x=some (.ref (ct c))) (hc:X.calm=true) (hW:Tk X W) (ha:SA X ct W [arg] ms) (hdb:(x==("__debug__" : Str))=false:=by decide) (he:starEach [arg] X.env=[(false,eval arg X.env)]:=by rfl):
  SS X ct W (.Raise (some (.Call (.Name x np) [arg] [] cpos)) none pos) (N7 c ms):=PS.imp (Vl Mx hX F hr hb hg hm hc hW ha hdb he) fun T σ H q=>by
 obtain⟨ι,e,M,w,p⟩:=vh (rel:=Bl X.K ct) (f:=fun ds e M1=>one ds c e M1) q
 refine⟨ι,e,M,w,p.mono fun vs H1 ⟨gK,e1,M1,ds,w1,q1,p1⟩=> ?_⟩
 unfold one at p1
 split at p1
 ·rename_i d
  obtain⟨v,rfl,qv⟩:=uM q1
  refine⟨v,rfl,fun dx hd=> ?_⟩
  have x2:Ext X.K gK M1.length H1 gK M1.length (upd H1 dx (.xd [("at",v)])):=Ext.fresh hd
  exact p1 gK σ dx v _ x2 (w1.ext x2 (w1.rl.fresh hd)) d7 (qv.mono x2)
 ·exact p1.elim
def Ri(K:PySem.W.Frag)(ct:Nat→Addr)(cv:Value):List (Nat×Bool)→Prop
 | []=>True
 | (c,b)::r=>PySem.W.exmOne K (.ref (ct c)) cv=some b∧Ri K ct cv r
theorem Ri.get{K:PySem.W.Frag}{cv:Value}:∀{cl:List (Nat×Bool)} {c:Nat} {b:Bool},Ri K ct cv cl→cl.lookup c=some b→PySem.W.exmOne K (.ref (ct c)) cv=some b
 | [],_,_,_,h=>by simp at h
 | (k,b')::r,c,b,⟨h1,h2⟩,h=>by
  rw[List.lookup_cons]at h
  cases z:c==k with
  | true=>rw[z]at h;cases h;cases(beq_iff_eq.mp z);exact h1
  | false=>rw[z]at h;exact h2.get h
def jK.noX(o:jK):jK:=match o with
 | .exc _ _ _ _=> .bad
 | o=>o
def jK.less(i:Nat)(o:jK):jK:=match o with
 | .next e M=> .next (e.set i none) M
 | .brk e M=> .brk (e.set i none) M
 | .cont e M=> .cont (e.set i none) M
 | .ret d M=> .ret d M
 | .exc _ _ _ _=> .bad
 | .bad=> .bad
def Uh(cl:List (Nat×Bool))(h:Nat→D→Sl→Mem→jK)(o:jK):jK:=match o with
 | .exc c d e M=>match cl.lookup c with
  | some true=>h c d e M
  | some false=> .exc c d e M
  | none=> .bad
 | o=>o
def Jh(i:Nat)(cl:List (Nat×Bool))(b s:MS):MS:=fun e M=>Uh cl (fun c d e' M'=>(s (e'.set i (some (.exc c d))) M').less i) (b e M)
theorem uU.less{K:PySem.W.Frag}{ι:Nat→Addr}{n i:Nat}{H:Hp}{o:jK}{T:Ends}(h:uU K ct W ι n H (o.less i) T):uU K ct W0 ι n H o (Ends.less T i):=by
 cases o with
 | exc c d e M=>exact False.elim h
 | next e M=>exact fun ι' σ' H' x w=>h ι' _ H' x (w.clear i)
 | ret e M=>exact h
 | brk e M=>exact fun ι' σ' H' x w=>h ι' _ H' x (w.clear i)
 | cont e M=>exact fun ι' σ' H' x w=>h ι' _ H' x (w.clear i)
 | bad=>exact h
variable{c:Str}{cp hpos pos:Pos}{b₀:Stmt}{suite body:List Stmt}{b s:MS}{cl:List (Nat×Bool)}{cv:Value}{v:V}
theorem Uv{i:Nat}{n:Str}(hst:X.stack=X.env::X.outer)(hf:X.env.frame=some X.env.locals)(hx:Tk X W)(hv:∀u,RelV v u→u=cv)(hn:∀e,PE (X.held e) (.Name c cp) (tC v))(hm:Ri X.K ct cv cl)
  (nd:X.N.Nodup) (hi:X.N[i]? = some n) (hl:X.env.scope.names.lookup n=some .local) (hk:X.env.kindOf n=some .local)
  (hb:∀pins W1,W8 ((X.pp pins).wish (fL (X.pp pins) W1)) ct W1 body b) (hs:∀e,W8 (X.held e) ct W0 (b₀::suite) s):
  SS X ct W (.Try body [.ExceptHandler (some (.Name c cp)) (some n) (b₀::suite) hpos] [] [] pos) (Jh i cl b s):=
 PS.imp (Vk (tb:=fun W1=>tS X.K ct W1 b) (ts:=tS X.K ct W0 s) hst hf hx hv hn nd hi hl hk hb hs) fun T σ H ⟨ι,e,M,w,p⟩=>by
  refine⟨ι,e,M,w,?_⟩
  unfold Jh at p
  cases z:b e M with
  | exc xc xd xe xM=>
   rw[z]at p
   simp only[Uh]at p
   cases z2:cl.lookup xc with
   | none=>simp only[z2]at p;exact p.elim
   | some k=>
    simp only[z2]at p
    have e2:=hm.get z2
    cases k with
    | false=>exact fun ι' σ' dx v' H' x w' q1 q2=>⟨false,e2,p ι' σ' dx v' H' x w' q1 q2⟩
    | true=>
     refine fun ι' σ' dx v' H' x w' q1 q2=>⟨true,e2,?_⟩
     show ∀a,H' a=none→_
     intro a ha
     have x2:Ext X.K ι' xM.length H' ι' xM.length (upd H' a (xC a (ct xc) dx)):=Ext.fresh ha
     have w2:=w'.ext x2 (w'.rl.fresh ha)
     have dvx:DV X.K ct ι' xM.length (upd H' a (xC a (ct xc) dx)) (.exc xc xd) (.ref a):= .exc d7 (x2.xd _ _ q1) (q2.mono x2)
     exact⟨ι',_,xM,w2.set i dvx,(uU.less p).ext (x.trans x2)⟩
  | next _ _=>rw[z]at p;exact p
  | ret _ _=>rw[z]at p;exact p
  | brk _ _=>rw[z]at p;exact p
  | cont _ _=>rw[z]at p;exact p
  | bad=>rw[z]at p;exact p
def Zq(K:PySem.W.Frag)(ct:Nat→Addr):List Nat→Prop
 | []=>True
 | c::r=>(Ax K (ct c) "at" ∧ XIs K (ct c))∧Zq K ct r
theorem Zq.get{K:PySem.W.Frag}:∀{cs:List Nat} {c:Nat},Zq K ct cs→c∈cs→Ax K (ct c) "at" ∧ XIs K (ct c)
 | [],_,_,h=>by simp at h
 | c::cs,d,⟨a,r⟩,h=>by
  rcases List.mem_cons.mp h with e | e
  ·subst e;exact a
  ·exact r.get e
def KH(cs:List Nat)(d:D)(M:Mem):Out D:=match d with
 | .exc c x=>if c∈cs then .ok x M else .bad
 | _=> .bad
def abl(cs:List Nat)(m:ME):ME:=fun e M=>(m e M).bind (KH cs)
theorem aam{cs:List Nat}{a:Expr}{ma:ME}{pos:Pos}(hc:Zq X.K ct cs)(ha:SE X ct W a ma)(hb:attributeBase a "at" X.env (eval a X.env)=eval a X.env:=by rfl):SE X ct W (.Attribute a "at" pos) (abl cs ma):=iB (aaN ha hb) fun σ H Q q=>by
 obtain⟨ι,e,M,w,p⟩:=cG (gM:=gw X.K ct) (f:=fun d _ M1=>KH cs d M1) q
 refine⟨ι,e,M,w,p.mono fun x H1 ⟨gK,e1,M1,d,w1,q1,p1⟩=> ?_⟩
 cases q1 with
 | @exc a dx c d v h1 h2 h3=>
  simp only[KH]at p1
  by_cases z:c∈cs
  ·rw[if_pos z]at p1
   exact⟨a,ct c,dx,_,v,rfl,h1,h2,(hc.get z).1,(hc.get z).2.gn,rfl,p1 gK v H1 .refl w1.rl h3⟩
  ·rw[if_neg z]at p1;exact p1.elim
 | _=>exact p1.elim
end
section
variable{e:Sl}{M:Mem}{c:Nat}{d:D}
@[simp] theorem ajW{ms:MA}:N7 c ms e M=Gv e (ms e M) fun ds M1=>one ds c e M1:=id rfl
@[simp] theorem aj9:one [d] c e M= .exc c d e M:=id rfl
@[simp] theorem acJ{i:Nat}{cl:List (Nat×Bool)}{b s:MS}:Jh i cl b s e M=Uh cl (fun c d e' M'=>(s (e'.set i (some (.exc c d))) M').less i) (b e M):=id rfl
theorem Ug{cl:List (Nat×Bool)}{h:Nat→D→Sl→Mem→jK}(z:cl.lookup c=some true):Uh cl h (.exc c d e M)=h c d e M:=by simp only[Uh,z]
@[simp] theorem acS{i:Nat}:(jK.next e M).less i= .next (e.set i none) M:=id rfl
@[simp] theorem ahH{cs:List Nat}{m:ME}:abl cs m e M=(m e M).bind (KH cs):=id rfl
@[simp] theorem ac4{cs:List Nat}:KH cs (.exc c d) M=if c∈cs then .ok d M else .bad:=id rfl
end
end S
namespace S
open PySem PySem.Spec PyProof.Rows L2
section
variable{X:Cx}{ct:Nat→Addr}{W:bG}
end
end S
namespace S
open PySem L2
end S
namespace S
open PySem PySem.Spec PyProof.Rows L2
section
variable{X:Cx}{ct:Nat→Addr}{W:bG}{pos:Pos}
variable{o e f i value:Expr}{mo mk mx mv:ME}{apos cpos pos':Pos}
end
section
variable{e:Sl}{M:Mem}
end
end S
namespace S
open PySem L2
variable{M:Mem}
end S
namespace S
open PySem PySem.Spec PyProof.Rows L2
section
variable{X:Cx}{ct:Nat→Addr}{W:bG}{pos:Pos}
variable{tg elt iter:Expr}{ifs:List Expr}{scope:Scope}{mi:MI}{g:Tg}{tt:MT}{te:ME}
end
section
variable{e:Sl}{M:Mem}
end
end S
namespace S
open PySem PySem.Spec PyProof.Rows L2
open Classical in
section
variable{X:Cx}{ct:Nat→Addr}{W:bG}{pos:Pos}{K:PySem.W.Frag}{ι:Nat→Addr}{n:Nat}{H:Hp}
open Classical in
variable{o:Expr}{mo:ME}{apos p1 pos1:Pos}
end
section
variable{e:Sl}{M:Mem}
end
end S
namespace S
open PySem PySem.Spec PyProof.Rows L2
section
variable{X:Cx}{ct:Nat→Addr}{W:bG}{pos:Pos}{K:PySem.W.Frag}{ι:Nat→Addr}{n:Nat}{H:Hp}
variable{o:Expr}{mo:ME}{apos p1 pos1:Pos}
end
section
variable{e:Sl}{M:Mem}
end
end S
namespace L2
open PySem PySem.Spec PyProof.Rows
section
variable{X:Cx}
theorem G3:∀{ws:List Str} {us:List Value},Vals (ws.map V.str) us→∃l:List (Str×Tok),us=strValues l∧l.map (·.1)=ws
 | [],_,.nil=>⟨[],rfl,rfl⟩
 | w::ws,_,.cons ⟨t,e⟩ r=>by
  obtain⟨l,e1,e2⟩:=G3 r
  subst e
  exact⟨(w,t)::l,by rw[e1];rfl,by rw[←e2];rfl⟩
theorem G9:∀(l:List (Str×Tok)),Vals ((l.map (·.1)).map V.str) (strValues l)
 | []=> .nil
 | (_,t)::l=> .cons ⟨t,rfl⟩ (G9 l)
def rJoin:V→List V→Hp→VK→Prop:=fun x vs H Q=>∃y a ws,x= .str y∧vs=[.ref a]∧H a=some (.lst (ws.map V.str))∧JoinOk y ws=true∧Q (.str (Txt.join y ws)) H
theorem Ys:MtR X "str.join" rJoin:=by
 intro pins s σ H x vs v us Q I rx r h
 obtain⟨y,a,ws,rfl,rfl,hH,hk,q⟩:=h
 obtain⟨t,rfl⟩:=rx
 obtain⟨u,rfl,ru⟩:=vals1 r
 cases ru
 obtain⟨z,its,n,rv,hl,e⟩:=I.Sy hH
 obtain⟨l,rfl,rfl⟩:=G3 rv
 exact SC.join ⟨_,e,rfl,n,rfl⟩ rfl hk fun t' k=>⟨.str _,H,I.tok k,⟨_,rfl⟩,q⟩
theorem split_len(x y:Str):(Txt.split x y).length≤x.length+2:=by
 unfold Txt.split
 split
 ·simp
 ·split
  ·simp
  ·rw[length_partsBetween]
   have:=StrLaws.occ_length_le x y 0 x.length (x.length+1)
   omega
def aaB:V→List V→Hp→VK→Prop:=fun x vs H Q=>∃y z,x= .str y∧vs=[.str z]∧y.length+2≤sizeLine∧(z.length==0)=false∧∀p,H p=none→Q (.ref p) (upd H p (.lst ((Txt.split y z).map V.str)))
theorem VJ:MtR X "str.split" aaB:=by
 intro pins s σ H x vs v us Q I rx r h
 obtain⟨y,z,rfl,rfl,hl,hz,q⟩:=h
 obtain⟨t,rfl⟩:=rx
 obtain⟨u,rfl,t',rfl⟩:=vals1 r
 have fin:∀(l:List (Str×Tok)) (k:Nat),l.map (·.1)=Txt.split y z→EP X pins σ Q (.ref s.heap.objs.size) {s with heap:=s.heap.push {cls:= .type "list",data:= .seq (strValues l).toArray},toks:=k}:=fun l k e=>
  ⟨.ref _,_,I.aeO (t':=k) (by rw[←e];exact G9 l) (by rw[List.length_map];exact Nat.le_trans (split_len y z) hl),rfl,q _ I.fresh⟩
 have abD:(Builtin.Str.partsBetween y (Builtin.Str.occurrences y z 0 y.length (y.length+1)) z.length).length≤sizeLine:=by
  rw[length_partsBetween]
  have:=StrLaws.occ_length_le y z 0 y.length (y.length+1)
  omega
 cases h1:(decide (y.length<z.length)||decide (Builtin.Str.strKind y<Builtin.Str.strKind z))with
 | true=>exact call_meets F.slot_str_split (typeIs_str _ _ _) F.entry_str_split (F.args_str_split_2 _ _) (meets_str_split_cannot_occur y z t t' h1) (fin [(y,t)] s.toks (if_pos h1).symm)
 | false=>
  have n1:=ne_true_of_eq_false h1
  cases h2:(Builtin.Str.occurrences y z 0 y.length (y.length+1)).isEmpty with
  | true=>exact call_meets F.slot_str_split (typeIs_str _ _ _) F.entry_str_split (F.args_str_split_2 _ _) (meets_str_split_not_found y z t t' h1 hz h2) (fin [(y,t)] s.toks ((if_neg n1).trans (if_pos h2)).symm)
  | false=>
   have n2:=ne_true_of_eq_false h2
   refine call_meets F.slot_str_split (typeIs_str _ _ _) F.entry_str_split (F.args_str_split_2 _ _) (meets_str_split_sep y z t t' h1 hz h2 (by omega) abD) ?_
   have:=fin (numbered s.toks (Builtin.Str.partsBetween y (Builtin.Str.occurrences y z 0 y.length (y.length+1)) z.length)) (s.toks+(Builtin.Str.partsBetween y (Builtin.Str.occurrences y z 0 y.length (y.length+1)) z.length).length) ((numbered_texts _ _).trans ((if_neg n1).trans (if_neg n2)).symm)
   rw[←strsFrom_eq]at this
   exact this
theorem Su:MtR X "str.startswith" (fun x vs H Q=>∃y z,x= .str y∧vs=[.str z]∧Q (.bl (Txt.startswith y z)) H):=by
 intro pins s σ H x vs v us Q I rx r h
 obtain⟨y,z,rfl,rfl,q⟩:=h
 obtain⟨t,rfl⟩:=rx
 obtain⟨u,rfl,t',rfl⟩:=vals1 r
 exact SC.startswith ⟨.bl _,H,I,rfl,q⟩
theorem Ti:o6 X (.type "str") (fun xs H Q=>(∃i,xs=[.int i]∧i.natAbs.log2<1920∧Q (.str (toString i)) H)∨(∃z,xs=[.str z]∧Q (.str z) H)∨xs=[.non]∧Q (.str "None") H):=by
 intro pins s σ H xs us Q I r h
 rcases h with h | ⟨z,rfl,q⟩ | ⟨rfl,q⟩
 ·exact Kg pins s σ H xs us Q I r h
 ·obtain⟨u,rfl,t,rfl⟩:=vals1 r
  exact PySem.P.str_of_str ⟨.str z,H,I,⟨_,rfl⟩,q⟩
 ·obtain⟨u,rfl,ru⟩:=vals1 r
  cases ru
  exact PySem.P.str_of_none ⟨.str _,H,I.tok _,⟨_,rfl⟩,q⟩
theorem Tq:o6 X (.type "int") (fun xs H Q=>(∃i,xs=[.int i]∧Q (.int i) H)∨(∃k,xs=[.bl k]∧Q (.int (if k then 1 else 0)) H)∨∃z n,xs=[.str z]∧PySem.intText? z=some n∧z.length≤640∧Q (.int n) H):=by
 intro pins s σ H xs us Q I r h
 rcases h with h | h | ⟨z,n,rfl,e,hl,q⟩
 ·exact HN pins s σ H xs us Q I r (.inl h)
 ·exact HN pins s σ H xs us Q I r (.inr h)
 ·obtain⟨u,rfl,t,rfl⟩:=vals1 r
  exact PySem.W.KIN.call_text e hl ⟨.int n,H,I.tok _,⟨_,rfl⟩,q⟩
theorem R9:wX X (compareOp .LtE) (fun x y H Q=>∃i j,x= .str i∧y= .str j∧Q (.bl (!(decide (j.cps.toList<i.cps.toList)))) H):=by
 intro pins s σ H x y v u Q I rx ry h
 obtain⟨i,j,rfl,rfl,q⟩:=h
 obtain⟨t,rfl⟩:=rx
 obtain⟨t',rfl⟩:=ry
 exact PySem.P.le_str (J8 I q rfl)
end
end L2
namespace W7
open PySem PyProof.Rows PySem.SeqAt
open PySem.AutoSeq1 (wpAny_loadPart')
open PySem.MeetsSeq PySem.MeetsSeq2 PySem.MeetsSeq3
def LC:List Int→List Int→Bool
 | [],_=>true
 | _::_,[]=>false
 | x::xs,y::ys=>if x=y then LC xs ys else decide (x≤y)
theorem V5:∀{vs ws:List Value} {ns ms:List Int},IntsAre vs ns→IntsAre ws ms→vs.zip ws=[]→LC ns ms=decide (ns.length≤ms.length)
 | _,_,_,_,.nil,_,_=>by simp[LC]
 | _,_,_,_,.cons _ _ _,.nil,_=>by simp[LC]
 | _,_,_,_,.cons _ _ _,.cons _ _ _,h=>by rw[List.zip_cons_cons]at h;cases h
theorem aeP(l b:Addr)(its its2:Array Value)(n n2:Nat)(dd dd2:Option Addr)(sl sl2:Array (Option Value))(ns ms:List Int)(hi:IntsAre its.toList ns)(hj:IntsAre its2.toList ms):
  Meets (Builtin.«tuple.__le__» ⟨[.ref l,.ref b],[]⟩)
   (fun _ R s=>s.heap.get? l=some {cls:= .type "tuple",dict:=dd,data:= .seq its n,slots:=sl}∧s.heap.get? b=some {cls:= .type "tuple",dict:=dd2,data:= .seq its2 n2,slots:=sl2}∧
    R (.ok (.ret (.bool (LC ns ms)))) s):=
 .of_wp fun prog w A R s h=>by
  obtain⟨hp,g,d,tk,os⟩:=s
  obtain⟨hl,hb,h⟩:=h
  have f2:=AutoSeq1.sub_tuple_tuple
  have z1:its.size=ns.length:=by rw[←hi.length];simp
  have z2:its2.size=ms.length:=by rw[←hj.length];simp
  wp_walk using wpAny_loadPart' hl,wpAny_loadPart' hb,wpAny_forIn_list _ (fun rest b s'=>b.1=none∧s'=⟨hp,g,d,tk,os⟩∧∃(vs ws:List Value) (ns' ms':List Int),rest=vs.zip ws∧
   IntsAre vs ns'∧IntsAre ws ms'∧ns'.length+its2.size=ms'.length+its.size∧R (.ok (.ret (.bool (LC ns' ms')))) ⟨hp,g,d,tk,os⟩) _
  case turn=>
   rintro⟨y,x⟩ rest b s' ⟨hb',rfl,vs,ws,ns',ms',hz,hvi,hwi,hlen,hR⟩
   cases hvi with
   | nil=>rw[List.zip_nil_left]at hz;cases hz
   | cons a t hv2=>
    cases hwi with
    | nil=>rw[List.zip_nil_right]at hz;cases hz
    | cons c u hw2=>
     rw[List.zip_cons_cons]at hz
     obtain⟨hyx,hrest⟩:=List.cons.inj hz
     cases hyx
     simp only[LC]at hR
     simp only[List.length_cons]at hlen
     by_cases hac:a=c
     ·rw[if_pos hac]at hR
      refine wpAny_bind ((SeqAt.EqAt.int_int a t c u:SeqAt.EqAt A.in1 ⟨hp,g,d,tk,os⟩ _ _ _) prog w _ _ ?_)
      rw[beq_iff_eq.mpr hac]
      wp_walk
      exact⟨rfl,rfl,_,_,_,_,hrest,hv2,hw2,by omega,hR⟩
     ·rw[if_neg hac]at hR
      refine wpAny_bind ((SeqAt.EqAt.int_int a t c u:SeqAt.EqAt A.in1 ⟨hp,g,d,tk,os⟩ _ _ _) prog w _ _ ?_)
      rw[beq_eq_false_iff_ne.mpr hac]
      have hri:∀(E:Value→Shared→Prop) (Q:Value→Shared→Prop),Q (.bool (decide (a≤c))) ⟨hp,g,d,tk,os⟩→wpAny (model prog w) A.in1 (richCompare .LtE (.int a t) (.int c u)) Q E ⟨hp,g,d,tk,os⟩:=fun E Q hq=>
       (PyProof.Rows.le_int hq:wpAny (model prog w) A.in1 (compareOp .LtE (.int a t) (.int c u)) Q E ⟨hp,g,d,tk,os⟩)
      wp_walk using hri
      exact⟨_,rfl,by simpa using hR⟩
  case fin=>
   rintro⟨b1,b2⟩ s' ⟨hb',rfl,vs,ws,ns',ms',hz,hvi,hwi,hlen,hR⟩
   simp only at hb'
   subst hb'
   have hv:LC ns' ms'=decide (its.size≤its2.size):=by
    rw[V5 hvi hwi hz.symm]
    exact decide_eq_decide.mpr (by omega)
   rw[hv]at hR
   wp_walk
   exact⟨_,rfl,by simpa[Builtin.Tuple.tupleCompareSizes]using hR⟩
  case h=>
   exact⟨rfl,rfl,its.toList,its2.toList,ns,ms,rfl,hi,hj,by omega,h⟩
end W7
namespace L2
open PySem PySem.Spec PyProof.Rows
section
variable{X:Cx}
theorem aa8(hu:X.A.units<cLine):wX X (compareOp .LtE) (fun x y H Q=>∃a b ns ms,x= .ref a∧y= .ref b∧wM X.K H a (ns.map V.int)∧wM X.K H b (ms.map V.int)∧Q (.bl (W7.LC ns ms)) H):=by
 intro pins s σ H x y v u Q I rx ry h
 obtain⟨a,b,ns,ms,rfl,rfl,ha,hb,q⟩:=h
 cases rx
 cases ry
 obtain⟨its,r1,p1,_⟩:=I.tuple ha
 obtain⟨its2,r2,p2,_⟩:=I.tuple hb
 obtain⟨⟨cls,dd,data,sl⟩,ho,hc,n,hd⟩:=id p1
 obtain⟨⟨cls2,dd2,data2,sl2⟩,ho2,hc2,n2,hd2⟩:=id p2
 simp only at hc hd hc2 hd2
 subst hc hd hc2 hd2
 exact richCompare_meets_room (op:= .LtE) ⟨_,ho,rfl⟩ ⟨_,ho2,rfl⟩ PySem.F.slot_tuple_le PySem.F.entry_tuple_le (PySem.F.args_tuple_le_2 _ _) (W7.aeP a b _ _ n n2 dd dd2 sl sl2 ns ms (intsAre_of r1) (intsAre_of r2))
  ⟨ho,ho2,show Value.bool (W7.LC ns ms)≠Value.notImplemented∧EP X pins σ Q (.bool (W7.LC ns ms)) s from⟨(fun x=>nomatch x),⟨.bl _,H,I,rfl,q⟩⟩⟩ hu
def Its(x:Str):It:=⟨fun i _=>i<x.length,fun i H v H'=>H'=H∧∃c,x.cps.toList[i]? = some c∧v= .str ⟨#[c]⟩,fun i _=>x.length≤i⟩
theorem Rq{P:Program}{w:World}{A:Around}(hh:A.handled=none)(it:Addr)(x:Str)(t:Tok):Walks P w A it [it] [it] x.cps.size (SignAt x) (fun i h=>h.IsStrIter it (strIterType x) x t i):=by
 unfold strIterType
 cases ha:x.cps.all (· < 128)
 ·simp only[Bool.false_eq_true,if_false];exact Walks.strWide hh it x t
 ·simp only[if_true];exact Walks.strAscii hh it x t
theorem K7(x:Str):["enumerate","zip","dict_itemiterator","dict_reverseitemiterator","odict_iterator","itertools.zip_longest","itertools.pairwise"].contains (strIterType x)=false:=by
 unfold strIterType
 split<;>decide
theorem Ue{P:Program}{w:World}{K:PySem.W.Frag}{tg:Expr}(it:Addr)(x:Str)(t:Tok):Turn P w K tg (Its x) [it] it (fun i h=>h.IsStrIter it (strIterType x) x t i) where
 mem:=by simp
 obj:=fun i h st b hb=>by
  have e:b=it:=by simpa using hb
  subst e
  obtain⟨o,e,c,d⟩:=st
  exact⟨o,e,fun v z=>by rw[d]at z;cases z⟩
 keep:=fun i h h' st k=>by
  obtain⟨o,e,r⟩:=st
  exact⟨o,k it (by simp) o e,r⟩
 item:=by
  intro X hP hw hK hc i pins s σ H E I hf st hg
  subst hP hw hK
  obtain⟨f0,f1,f2,f3,f4,f5⟩:=hf it (by simp)
  refine(Rq (I.ok.hd hc) it x t).item i s _ _ hg st fun v h' tk hv st' kk=> ?_
  obtain⟨c,u,hx,rfl⟩:=hv
  have I1:Inv X pins σ H {s with heap:=h',toks:=tk}:=I.turned (fun b o hb e=>kk b o (by simpa using hb) e) f0 f1 f3 f4 f5
  obtain⟨o,e,cc,d⟩:=id st'
  exact⟨_,rfl,QW (s:={s with heap:=h',toks:=tk}) e cc d (K7 x) ⟨.str ⟨#[c]⟩,H,I1,⟨u,rfl⟩,⟨rfl,c,by rw[←hx,Array.getElem?_toList],rfl⟩,st',fun b hb=>(hf b hb).1⟩⟩
 done:=by
  intro X hP hw hK hc i pins s σ H E I hf st hg
  subst hP hw hK
  obtain⟨f0,f1,f2,f3,f4,f5⟩:=hf it (by simp)
  have hi:x.cps.size≤i:=hg
  obtain⟨o,e,cc,d⟩:=id st
  unfold strIterType at st
  split at st
  ·exact wpAny_pyNext_ascii_end (I.ok.hd hc) st (by simp[hi]) fun h' eb=>⟨rfl,I.turned (t':=s.toks) (fun b o hb e=>eb b o hb e) f0 f1 f3 f4 f5⟩
  ·exact wpAny_pyNext_wide_end (I.ok.hd hc) st (by simp[hi]) fun h' eb=>⟨rfl,I.turned (t':=s.toks) (fun b o hb e=>eb b o hb e) f0 f1 f3 f4 f5⟩
 self:=fun A i s Q E st h=>by
  unfold strIterType at st
  split at st
  ·exact wpAny_pyIter_striter_ascii st h
  ·exact wpAny_pyIter_striter_wide st h
theorem aaL{tg l:Expr}{tl:TE}(hl:PE X l tl):PI X tg l (fun σ H R=>tl σ H fun x H1=>∃u,x= .str u∧R (Its u) H1):=by
 intro pins s σ H R I h
 refine jh (hl pins s σ H _ I h) fun v s1 ⟨x,H1,I1,r1,u,e,q⟩=> ?_
 subst e
 obtain⟨t,rfl⟩:=r1
 refine wpAny_pyIter_strU ?_
 refine⟨s1.heap.objs.size,[s1.heap.objs.size],_,_,H1,rfl,I1.kept (t':=s1.toks) fun b o e=>Heap.get?_push_of_some _ e,Ue _ u t,⟨_,Heap.get?_push_size _ rfl,rfl,rfl⟩,fun b hb=> ?_,q⟩
 have e:b=s1.heap.objs.size:=by simpa using hb
 subst e
 exact I1.YS (Nat.le_refl _) (I1.hok.fresh (Nat.le_refl _))
end
end L2
namespace L2
open PySem PySem.Spec PyProof.Rows
def acD(K:PySem.W.Frag)(a:Addr)(T:List (Str×Int)):Prop:=(a==sysModules)=false∧∃o es ep,K.lookup a=some o∧o.ExactDict∧o.data= .dict es ep∧PyProof.Rows.KTD.Rows (fun i v=>∃t,v=Value.int i t) es.toList T
def Bc(k:Str):List (Str×Int)→V
 | []=> .non
 | (x,i)::T=>if decide (k=x)=true then .int i else Bc k T
section
variable{X:Cx}{o e:Expr}{apos cpos:Pos}{td ty:TE}
theorem KZ{h:Heap}{k:Str}{P:Value→Prop}:∀{T:List (Str×Int)},(∀v,RelV (Bc k T) v→P v)→PyProof.Rows.KTD.Each h k P (P .none) (T.map fun p=>(p.1,PyProof.Rows.KTD.Dat.flat (PyData.int p.2)))
 | [],hp=>hp .none rfl
 | (x,i)::T,hp=>by
  show if decide (k=x)=true then _ else _
  unfold Bc at hp
  by_cases hk:decide (k=x)=true
  ·rw[if_pos hk]at hp ⊢
   exact fun t=>hp _ ⟨t,rfl⟩
  ·rw[if_neg hk]at hp ⊢
   exact KZ hp
def adh(K:PySem.W.Frag)(td ty:TE):TE:=fun σ H Q=>td σ H fun x H1=>∃a T,x= .ref a∧acD K a T∧ty σ H1 fun y H2=>∃k,y= .str k∧Q (Bc k T) H2
theorem Yb(ho:PE X o td)(he:PE X e ty)(m:M1 X o "get" apos e cpos):PE X (.Call (.Attribute o "get" apos) [e] [] cpos) (adh X.K td ty):=by
 intro pins s σ H Q I h
 refine wpAny_Call_method m.base m.few m.line PySem.F.plainAttrs_dict PySem.F.slot_dict_get PySem.F.type_dict_get (jh (ho pins s σ H _ I h) fun u t ⟨x,H1,I1,rx,a,T,ex,tb,q1⟩=> ?_)
 subst ex
 obtain rfl:u=Value.ref a:=rx
 obtain⟨hs,ob,es,ep,ho',hx,hd,hr⟩:=tb
 have here:∀(h:Heap),X.K.In h→PyProof.Rows.KTD.Here h h a (T.map fun p=>(p.1,PyProof.Rows.KTD.Dat.flat (PyData.int p.2))):=fun h hk=>
  ⟨⟨hs,ob,es,ep,hk _ _ ho',hx,hd,hr.mono (R':=PyProof.Rows.KTD.Dat.At h) (f:=fun i=>PyProof.Rows.KTD.Dat.flat (PyData.int i)) fun i v ⟨t,e⟩=>by subst e;exact .int i t⟩,fun _ _ z=>z⟩
 refine⟨(here _ I1.Cy).typeIs,(here _ I1.Cy).noDict,?_⟩
 rw[m.trees]
 refine Calls.callWith_builtin rfl (Calls.evalArgs_plain (Calls.spliced_cons (jh (he pins t σ H1 _ I1 q1) fun iv t2 ⟨y,H2,I2,ry,k,ek,q2⟩=>Calls.spliced_nil ?_)))
 subst ek
 obtain⟨tk,rfl⟩:=ry
 exact PyProof.Rows.KTD.get1_text (here _ I2.Cy) (KZ fun v rv=>⟨_,H2,I2.tok _,rv,q2⟩)
end
end L2
namespace S
open PySem PySem.Spec PyProof.Rows L2
section
variable{X:Cx}{ct:Nat→Addr}{W:bG}{pos pos':Pos}
def strsOf:List D→Option (List Str)
 | []=>some []
 | .str w::r=>(strsOf r).map (w:: ·)
 | _=>none
theorem G_{K:PySem.W.Frag}{ι:Nat→Addr}{n:Nat}{H:Hp}:∀{ds:List D} {ws:List Str} {vs:List V},strsOf ds=some ws→o5 K ct ι n H ds vs→vs=ws.map V.str
 | [],_,_,h,.nil=>by cases h;rfl
 | d::r,ws,_,h,.cons q qs=>by
  cases q with
  | str w=>
   simp only[strsOf]at h
   obtain⟨us,h1,rfl⟩:=Option.map_eq_some_iff.mp h
   rw[G_ h1 qs]
   rfl
  | _=>simp only[strsOf]at h;cases h
theorem Qd{K:PySem.W.Frag}{ι:Nat→Addr}{n:Nat}{H:Hp}:∀(ws:List Str),o5 K ct ι n H (ws.map D.str) (ws.map V.str)
 | []=> .nil
 | w::ws=> .cons (.str w) (Qd ws)
def Cm:D→List D→Mem→Out D:=fun d ds M=>match d,ds with
 | .str y,[.ref n]=>match M[n]? with
  | some (.lst es)=>match strsOf es with
   | some ws=>if JoinOk y ws=true then .ok (.str (Txt.join y ws)) M else .bad
   | none=> .bad
  | _=> .bad
 | _,_=> .bad
theorem QD:MtS X ct "str" "str.join" Cm:=by
 refine⟨_,Ys,fun ι M H d ds v vs Q R q qs p=> ?_⟩
 unfold Cm at p
 split at p
 ·rename_i y n
  cases jE q
  obtain⟨u,rfl,qu⟩:=uM qs
  obtain⟨hn,rfl⟩:=uv qu
  split at p
  ·rename_i es e1
   split at p
   ·rename_i ws e2
    split at p
    ·rename_i hk
     obtain⟨xs,hH,hd⟩:=R.obj n _ e1
     have ex:=G_ e2 hd
     subst ex
     exact⟨y,_,ws,rfl,rfl,hH,hk,p ι _ H .refl R (.str _)⟩
    ·exact p.elim
   ·exact p.elim
  ·exact p.elim
 ·exact p.elim
def vA:D→List D→Mem→Out D:=fun d ds M=>match d,ds with
 | .str y,[.str z]=>if y.length+2≤sizeLine∧(z.length==0)=false then .ok (.ref M.length) (M++[.lst ((Txt.split y z).map D.str)])else .bad
 | _,_=> .bad
theorem E_:MtS X ct "str" "str.split" vA:=by
 refine⟨_,VJ,fun ι M H d ds v vs Q R q qs p=> ?_⟩
 unfold vA at p
 split at p
 ·rename_i y z
  cases jE q
  obtain⟨u,rfl,qu⟩:=uM qs
  cases jE qu
  split at p
  ·rename_i hz
   exact⟨y,z,rfl,rfl,hz.1,hz.2,fun pp hp=>rW R (Qd _) hp p⟩
  ·exact p.elim
 ·exact p.elim
def zV:D→List D→Mem→Out D:=fun d ds M=>match d,ds with
 | .str y,[.str z]=> .ok (.bl (Txt.startswith y z)) M
 | _,_=> .bad
theorem Hh:MtS X ct "str" "str.startswith" zV:=by
 refine⟨_,Su,fun ι M H d ds v vs Q R q qs p=> ?_⟩
 unfold zV at p
 split at p
 ·rename_i y z
  cases jE q
  obtain⟨u,rfl,qu⟩:=uM qs
  cases jE qu
  exact⟨y,z,rfl,rfl,p ι _ H .refl R (.bl _)⟩
 ·exact p.elim
def La:H_:=fun ds M=>match ds with
 | [.int i]=>if i.natAbs.log2<1920 then .ok (.str (toString i)) M else .bad
 | [.str z]=> .ok (.str z) M
 | [.non]=> .ok (.str "None") M
 | _=> .bad
theorem abM:qZ X ct (.type "str") La:=by
 refine⟨_,Ti,fun ι M H ds vs Q R h p=> ?_⟩
 unfold La at p
 split at p
 ·rename_i i
  obtain⟨v,rfl,q⟩:=uM h
  cases pM q
  split at p
  ·rename_i hz;exact .inl ⟨i,rfl,hz,p ι _ H .refl R (.str _)⟩
  ·exact p.elim
 ·rename_i z
  obtain⟨v,rfl,q⟩:=uM h
  cases jE q
  exact .inr (.inl ⟨z,rfl,p ι _ H .refl R (.str _)⟩)
 ·obtain⟨v,rfl,q⟩:=uM h
  cases q
  exact .inr (.inr ⟨rfl,p ι _ H .refl R (.str _)⟩)
 ·exact p.elim
def U9:H_:=fun ds M=>match ds with
 | [.int i]=> .ok (.int i) M
 | [.bl k]=> .ok (.int (if k then 1 else 0)) M
 | [.str z]=>match PySem.intText? z with
  | some n=>if z.length≤640 then .ok (.int n) M else .bad
  | none=> .bad
 | _=> .bad
theorem abN:qZ X ct (.type "int") U9:=by
 refine⟨_,Tq,fun ι M H ds vs Q R h p=> ?_⟩
 unfold U9 at p
 split at p
 ·rename_i i
  obtain⟨v,rfl,q⟩:=uM h
  cases pM q
  exact .inl ⟨i,rfl,p ι _ H .refl R (.int _)⟩
 ·rename_i k
  obtain⟨v,rfl,q⟩:=uM h
  cases q
  exact .inr (.inl ⟨k,rfl,p ι _ H .refl R (.int _)⟩)
 ·rename_i z
  obtain⟨v,rfl,q⟩:=uM h
  cases jE q
  split at p
  ·rename_i n e
   split at p
   ·rename_i hl;exact .inr (.inr ⟨z,n,rfl,e,hl,p ι _ H .refl R (.int _)⟩)
   ·exact p.elim
  ·exact p.elim
 ·exact p.elim
def aat:tH:=fun d e M=>match d,e with
 | .str a,.str b=> .ok (.bl (!decide (b.cps.toList<a.cps.toList))) M
 | _,_=> .bad
theorem acv:kI X ct (compareOp .LtE) aat:=by
 refine⟨_,R9,fun ι M H d d' v v' Q R h h' p=> ?_⟩
 unfold aat at p
 split at p
 ·cases jE h
  cases jE h'
  exact⟨_,_,rfl,rfl,p ι _ H .refl R (.bl _)⟩
 ·exact p.elim
def XD:tH:=fun d e M=>match d,e with
 | .tup xs,.tup ys=>match ue xs,ue ys with
  | some is,some js=> .ok (.bl (W7.LC is js)) M
  | _,_=> .bad
 | _,_=> .bad
theorem acu(hu:X.A.units+64<cLine):kI X ct (compareOp .LtE) XD:=by
 refine⟨_,aa8 (by omega),fun ι M H d d' v v' Q R h h' p=> ?_⟩
 unfold XD at p
 split at p
 ·obtain⟨a,vs,rfl,ha,hd⟩:=rE h
  obtain⟨b,us,rfl,hb,hd'⟩:=rE h'
  split at p
  ·rename_i is js e1 e2
   have x1:=uz e1 hd
   have x2:=uz e2 hd'
   subst x1 x2
   exact⟨a,b,is,js,rfl,rfl,wM.of ha,wM.of hb,p ι _ H .refl R (.bl _)⟩
  ·exact p.elim
 ·exact p.elim
def XF:tH:=wQ (wQ U4 aat) XD
theorem WT(hu:X.A.units+64<cLine):kI X ct (compareOp .LtE) XF:=(WW.or acv).or (acu hu)
def RK:tH:=fun d e M=>match d,e with
 | .str i,.str j=> .ok (.bl (!(Builtin.Str.occurrences j i 0 j.length 1).isEmpty)) M
 | _,_=> .bad
theorem acw:kI X ct (compareOp .In) RK:=by
 refine⟨_,R_,fun ι M H d d' v v' Q R h h' p=> ?_⟩
 unfold RK at p
 split at p
 ·cases jE h
  cases jE h'
  exact⟨_,_,rfl,rfl,p ι _ H .refl R (.bl _)⟩
 ·exact p.elim
def itS(d:D)(M1:Mem):Out Itm:=match d with
 | .str u=>if u.length≤sizeLine then .ok ⟨none,u.cps.toList.map fun c=>D.str ⟨#[c]⟩⟩ M1 else .bad
 | _=> .bad
def Ox(m:ME):MI:=fun e M=>(m e M).bind itS
theorem aal{tg a:Expr}{ma:ME}(hl:SE X ct W a ma):SI X ct W tg a (Ox ma):=PI.imp (aaL hl) fun σ H R q=>by
 obtain⟨ι,e,M,w,p⟩:=cG (gM:=gw X.K ct) (f:=fun d _ M1=>itS d M1) q
 refine⟨ι,e,M,w,p.mono fun v H1 ⟨gK,e1,M1,d,w1,q1,p1⟩=> ?_⟩
 cases q1 with
 | str u=>
  dsimp only[itS]at p1
  split at p1
  ·rename_i hz
   refine⟨u,rfl,p1 gK _ H1 .refl w1.rl ⟨trivial,by rw[List.length_map,Array.length_toList];exact hz,fun mz M2 H2 x2 r2 ok2 i=>⟨fun d e=> ?_,fun h=> ?_⟩⟩⟩
   ·rw[List.getElem?_map]at e
    obtain⟨c,hc,rfl⟩:=Option.map_eq_some_iff.mp e
    have hi:i<u.length:=by have:=(List.getElem?_eq_some_iff.mp hc).1;simpa[Str.length]using this
    refine⟨hi,fun x H3 ⟨e3,c',hc',e4⟩=> ?_⟩
    subst e3 e4
    rw[hc]at hc'
    cases hc'
    exact⟨.refl,r2,.str _⟩
   ·show u.length≤i
    simpa[Str.length]using h
  ·exact p1.elim
 | _=>exact p1.elim
def vB:D→List D→Mem→Out D:=fun d ds M=>match d,ds with
 | .ref n,[.ref k]=>match M[n]?,M[k]? with
  | some (.lst es),some (.lst fs)=>if es.length+fs.length≤sizeLine then .ok .non (M.set n (.lst (es++fs)))else .bad
  | _,_=> .bad
 | _,_=> .bad
theorem Bx:MtS X ct "list" "list.extend" vB:=by
 refine⟨_,Sv,fun ι M H d ds v vs Q R q qs p=> ?_⟩
 unfold vB at p
 split at p
 ·rename_i n k
  obtain⟨hn,rfl⟩:=uv q
  obtain⟨y,rfl,qy⟩:=uM qs
  obtain⟨hk,rfl⟩:=uv qy
  split at p
  ·rename_i es fs e1 e2
   split at p
   ·rename_i hz
    obtain⟨xs,hH,hd⟩:=R.obj n _ e1
    obtain⟨ys,hB,hd2⟩:=R.obj k _ e2
    have x2:Ext X.K ι M.length H ι M.length (upd H (ι n) (.lst (xs++ys))):=Ext.chg hH (fun _ z=>nomatch z) (fun _ _ z=>nomatch z)
    refine⟨_,_,xs,ys,rfl,rfl,hH,hB,by rw[hd.length,hd2.length];exact hz,?_⟩
    exact p ι .non _ (by rw[List.length_set];exact x2) (R.chg hn hH (fun _ z=>nomatch z) (fun _ _ z=>nomatch z) ⟨_,d7,(hd.append hd2).mono x2⟩) .non
   ·exact p.elim
  ·exact p.elim
 ·exact p.elim
theorem Qf{x:Str}{z:Str}{t:Tok}{pos:Pos}(hg:Gl X x)(hm:X.mg x=some (.str z t))(hd:(x==("__debug__" : Str))=false:=by decide):SE X ct W (.Name x pos) (mC (.str z)):=
 iB (Dp (v:= .str z) hg hm ⟨t,rfl⟩ hd) fun _ _ _ h=>G8 (fun _ _=> .str z) h
theorem zR{x:Str}{z:Int}{t:Tok}{pos:Pos}(hg:Gl X x)(hm:X.mg x=some (.int z t))(hd:(x==("__debug__" : Str))=false:=by decide):SE X ct W (.Name x pos) (mC (.int z)):=
 iB (Dp (v:= .int z) hg hm ⟨t,rfl⟩ hd) fun _ _ _ h=>G8 (fun _ _=> .int z) h
def wO(k:Str):List (Str×Int)→D
 | []=> .non
 | (x,i)::T=>if decide (k=x)=true then .int i else wO k T
theorem Qa{K:PySem.W.Frag}{ι:Nat→Addr}{n:Nat}{H:Hp}{k:Str}:∀(T:List (Str×Int)),DV K ct ι n H (wO k T) (Bc k T)
 | []=> .non
 | (x,i)::T=>by
  unfold wO Bc
  split
  ·exact .int i
  ·exact Qa T
def YD(T:List (Str×Int))(k:D)(M:Mem):Out D:=match k with
 | .str z=> .ok (wO z T) M
 | _=> .bad
def V2(T:List (Str×Int))(mk:ME):ME:=fun e M=>(mk e M).bind (YD T)
theorem Xy{x:Str}{e:Expr}{mk:ME}{p apos cpos:Pos}{a:Addr}(T:List (Str×Int))(hg:Gl X x)(hm:X.mg x=some (.ref a))(hT:acD X.K a T)(he:SE X ct W e mk)(hd:(x==("__debug__" : Str))=false:=by decide)
  (base:attributeBase (.Name x p) "get" X.env (eval (.Name x p) X.env)=eval (.Name x p) X.env:=by rfl)
  (few:((backTo cpos (starEach [e] X.env)).all (fun x=> !x.1)&&(backToKw cpos (keywordEach [] X.env)).all (fun x=>x.1.isSome)
   && decide (([e]:List Expr).length+([]:List Keyword).length+(if([]:List Keyword).isEmpty then 0 else 1)<30))=true:=by rfl)
  (line:(apos.endLine==cpos.line)=true:=by rfl) (trees:backTo cpos (starEach [e] X.env)=[(false,eval e X.env)]:=by rfl):
  SE X ct W (.Call (.Attribute (.Name x p) "get" apos) [e] [] cpos) (V2 T mk):=iB (Yb (Dp (v:= .ref a) hg hm rfl hd) he ⟨base,few,line,trees⟩) fun σ H Q q=>by
 obtain⟨ι,e,M,w,p⟩:=cG (gM:=gw X.K ct) (f:=fun k _ M1=>YD T k M1) q
 refine⟨a,T,rfl,hT,ι,e,M,w,p.mono fun v H1 ⟨gK,e1,M1,d,w1,q1,p1⟩=> ?_⟩
 cases q1 with
 | str z=>exact⟨_,rfl,p1 gK _ H1 .refl w1.rl (Qa T)⟩
 | _=>exact p1.elim
end
theorem wV{N ps:List Str}{sc:Scope}(h1:sc.kind= .function:=by rfl)(h2:sc.isCoroutine=false:=by rfl)(h3:sc.isGenerator=false:=by rfl)(h4:N.Nodup:=by decide +kernel)(h5:N.take ps.length=ps:=by rfl)
  (h6:∀x∈ps,sc.names.lookup x=some .local∨sc.names.lookup x=some .cell:=by decide +kernel) (h7:∀y∈sc.names,y.2≠ .free:=by decide +kernel):bu N ps sc:=⟨h1,h2,h3,h4,h5,h6,h7⟩
section
variable{e:Sl}{M:Mem}
@[simp] theorem aeH{T:List (Str×Int)}{mk:ME}:V2 T mk e M=(mk e M).bind (YD T):=id rfl
@[simp] theorem afh{T:List (Str×Int)}{z:Str}:YD T (.str z) M= .ok (wO z T) M:=id rfl
@[simp] theorem acQ{m:ME}:Ox m e M=(m e M).bind itS:=id rfl
@[simp] theorem ajT{z:Str}:La [.str z] M= .ok (.str z) M:=id rfl
@[simp] theorem ajU:La [.non] M= .ok (.str "None") M:=id rfl
theorem aao{i:Int}(h:i.natAbs.log2<1920):La [.int i] M= .ok (.str (toString i)) M:=by simp only[La,h,if_true]
@[simp] theorem aap{y z:Str}:zV (.str y) [.str z] M= .ok (.bl (Txt.startswith y z)) M:=id rfl
theorem Bj{y z:Str}(h:y.length+2≤16777216)(hz:(z.length==0)=false):vA (.str y) [.str z] M= .ok (.ref M.length) (M++[.lst ((Txt.split y z).map D.str)]):=by
 simp only[vA]
 rw[if_pos ⟨by rw[pZ];exact h,hz⟩]
theorem DQ:∀(ws:List Str),strsOf (ws.map D.str)=some ws
 | []=>rfl
 | w::ws=>by simp only[List.map_cons,strsOf,DQ ws,Option.map_some]
theorem Ld{y:Str}{n:Nat}{ws:List Str}(h:M[n]? = some (.lst (ws.map D.str)))(hk:JoinOk y ws=true):Cm (.str y) [.ref n] M= .ok (.str (Txt.join y ws)) M:=by
 simp only[Cm,h,DQ,hk,if_true]
theorem U8{z:Str}{n:Int}(h:PySem.intText? z=some n)(hl:z.length≤640):U9 [.str z] M= .ok (.int n) M:=by simp only[U9,h,hl,if_true]
theorem zc{n k:Nat}{es fs:List D}(h1:M[n]? = some (.lst es))(h2:M[k]? = some (.lst fs))(hz:es.length+fs.length≤16777216):vB (.ref n) [.ref k] M= .ok .non (M.set n (.lst (es++fs))):=by
 simp only[vB,h1,h2]
 rw[if_pos (by rw[pZ];exact hz)]
theorem ZF{a b:Str}:XF (.str a) (.str b) M= .ok (.bl (!decide (b.cps.toList<a.cps.toList))) M:=pU ((uC rfl).trans rfl)
theorem ZD{xs ys:List D}{is js:List Int}(h1:ue xs=some is)(h2:ue ys=some js):XF (.tup xs) (.tup ys) M= .ok (.bl (W7.LC is js)) M:=by
 refine(uC rfl).trans ?_
 simp only[XD,h1,h2]
end
end S
namespace S
open PySem PySem.Spec PyProof.Rows L2
section
variable{X:Cx}{ct:Nat→Addr}{W:bG}{pos pos':Pos}
def oE(src:Option (Nat×List D))(tt:MT)(te:ME)(ce:Sl):List D→List D→Mem→Out D
 | [],ys,M=>if lM src M then .ok (.ref M.length) (M++[.lst ys])else .bad
 | d::ds,ys,M=>if lM src M then(tt (some d::ce) M).bind fun k M1=>if k=true then(te (some d::ce) M1).bind fun y M2=>oE src tt te ce ds (ys++[y]) M2 else oE src tt te ce ds ys M1 else .bad
def BJ(js:List Nat)(mi:MI)(tt:MT)(te:ME):ME:=fun e M=>(mi e M).bind fun it M1=>oE it.src tt te (o8 js e) it.ds [] M1
theorem G7{js:List Nat}{mi:MI}{tt:MT}{te:ME}{σ:St}{H:Hp}{Q:VK}(h:tG (gw X.K ct) X.K ct W (BJ js mi tt te) σ H Q):NK js (tG (RN X.K ct) X.K ct W mi) (fun W'=>tG zj X.K ct W' tt) (fun W'=>tG (gw X.K ct) X.K ct W' te) W σ H Q:=by
 obtain⟨ι,e,M,w,p⟩:=cG (gM:=RN X.K ct) (f:=fun it e M1=>oE it.src tt te (o8 js e) it.ds [] M1) h
 refine⟨ι,e,M,w,p.mono fun J H1 ⟨gK,e1,M1,it,w1,q1,p1⟩=> ?_⟩
 obtain⟨ok1,hz,step⟩:=q1
 refine⟨fun i m ys H'=>m=it.ds.length - i∧i≤it.ds.length∧ys.length≤i∧∃ι' M' ds',Ext X.K gK M1.length H1 ι' M'.length H'∧Rl X.K ct ι' M' H'∧o5 X.K ct ι' M'.length H' ds' ys∧jt (gw X.K ct) X.K ct (wAt W σ) ι' M'.length H' (oE it.src tt te (o8 js e1) (it.ds.drop i) ds' M') Q,
  ⟨it.ds.length,by simp,Nat.zero_le _,Nat.le_refl _,gK,M1,[],.refl,w1.rl,.nil,by simpa using p1⟩,?_⟩
 rintro i m ys H' ⟨rfl,hi,hy,ι',M',ds',x',r',dy,p'⟩
 by_cases hlt:i<it.ds.length
 ·rw[List.drop_eq_getElem_cons hlt]at p'
  unfold oE at p'
  by_cases ok':lM it.src M'
  ·rw[if_pos ok']at p'
   obtain⟨go,yl⟩:=(step ι' M' H' x' r' ok' i).1 _ (List.getElem?_eq_getElem hlt)
   refine .inr ⟨go,fun KC H2=>KC.length≤i+1∧∃mz M2 ds2,Ext X.K gK M1.length H1 mz M2.length H2∧Rl X.K ct mz M2 H2∧o5 X.K ct mz M2.length H2 ds2 KC∧jt (gw X.K ct) X.K ct (wAt W σ) mz M2.length H2 (oE it.src tt te (o8 js e1) (it.ds.drop (i+1)) ds2 M2) Q,?_,?_⟩
   ·rintro KC H2 ⟨hl2,q2⟩
    exact⟨by omega,it.ds.length - (i+1),by omega,rfl,hlt,hl2,q2⟩
   ·intro x H2 y
    obtain⟨x2,r2,dv⟩:=yl x H2 y
    have w2:Ws X.K ct ι' (some it.ds[i]::o8 js e1) M' (some x::L2.caps js σ) H2:=(w1.ext (x'.trans x2) r2).caps js dv
    have p2:=p'.ext x2
    refine⟨ι',_,M',w2,?_⟩
    cases z:tt (some it.ds[i]::o8 js e1) M' with
    | bad=>simp only[z,Out.jm]at p2;exact p2
    | exc xc xd xM=>simp only[z,Out.lJ]at p2;exact p2
    | ok k M3=>
     simp only[z,Out.fH]at p2
     intro PJ k3 H3 x3 r3 ek
     have J6:k=k3:=ek;subst J6
     have p3:=p2.ext x3
     have w3:=w2.ext x3 r3
     have dy3:=(dy.mono x2).mono x3
     cases k with
     | false=>exact⟨by omega,PJ,M3,ds',(x'.trans x2).trans x3,r3,dy3,p3⟩
     | true=>
      simp only[if_true]at p3 ⊢
      refine⟨PJ,_,M3,w3,?_⟩
      cases z4:te (some it.ds[i]::o8 js e1) M3 with
      | bad=>simp only[z4,Out.jm]at p3;exact p3
      | exc xc xd xM=>simp only[z4,Out.lJ]at p3;exact p3
      | ok yy M4=>
       simp only[z4,Out.fH]at p3
       intro ι4 v4 H4 x4 r4 d4
       exact⟨by rw[List.length_append];simp;omega,ι4,M4,ds'++[yy],((x'.trans x2).trans x3).trans x4,r4,(dy3.mono x4).append (.cons d4 .nil),p3.ext x4⟩
  ·rw[if_neg ok']at p'
   exact p'.elim
 ·have e0:i=it.ds.length:=by omega
  subst e0
  rw[List.drop_length]at p'
  unfold oE at p'
  by_cases ok':lM it.src M'
  ·rw[if_pos ok']at p'
   exact .inl ⟨(step ι' M' H' x' r' ok' _).2 (Nat.le_refl _),by omega,fun pp hp=>rW r' dy hp p'⟩
  ·rw[if_neg ok']at p'
   exact p'.elim
variable{elt iter:Expr}{ifs:List Expr}{scope:Scope}{x:Str}{px:Pos}{mi:MI}{tt:MT}{te:ME}
theorem UG(hW:Tk X W)(hst:X.stack=X.env::X.outer)(hf:X.env.frame=some X.env.locals)(hc:X.calm=true)(cs:List Str)(js:List Nat)(hi:SI X ct W (.Name x px) iter mi)(hcap:qK X scope cs js)(ht:∀cl C fp s H W',STs ((aP X scope cl C (x::cs) fp s H).wish (fL (aP X scope cl C (x::cs) fp s H) W')) ct W' ifs tt)(he:∀cl C fp s H W',SE ((aP X scope cl C (x::cs) fp s H).wish (fL (aP X scope cl C (x::cs) fp s H) W')) ct W' elt te)
  (hall:∀y∈scope.names,y.2= .free→y.1∈cs) (hcell:∀y∈scope.names,y.2≠ .cell) (hnames:∀y∈scope.names,y.2= .local→scope.names.lookup y.1=some .local) (hnd:(x::cs).Nodup)
  (hkind:scope.kind= .function:=by rfl) (hx:scope.names.lookup x=some .local:=by rfl) (hs:∀v,foldedSetIterable iter X.env v=pure v:=by intro _;rfl):
  SE X ct W (.ListComp elt [⟨.Name x px,iter,ifs,0⟩] scope pos) (BJ js mi tt te):=
 iB (Vt (tt:=fun W'=>tG zj X.K ct W' tt) (te:=fun W'=>tG (gw X.K ct) X.K ct W' te) hW hst hf hc cs js hi hcap (fun cl C fp s H W'=>ht cl C fp s H W') (fun cl C fp s H W'=>he cl C fp s H W') hall hcell hnames hnd hkind hx hs) fun σ H Q q=>G7 q
theorem Ux{y:Str}{py spos:Pos}{k:Nat}(hW:Tk X W)(hst:X.stack=X.env::X.outer)(hf:X.env.frame=some X.env.locals)(hc:X.calm=true)(cs:List Str)(js:List Nat)(hN:X.N.Nodup)(hk:X.N[k]? = some y)(hy:X.env.scope.names.lookup y=some .local)(hi:SI X ct W (.Name x px) iter mi)(hcap:qK X scope cs js)
  (ht:∀cl C fp s H W',STs ((aP X scope cl C (x::cs) fp s H).wish (fL (aP X scope cl C (x::cs) fp s H) W')) ct W' ifs tt) (he:∀cl C fp s H W',SE ((aP X scope cl C (x::cs) fp s H).wish (fL (aP X scope cl C (x::cs) fp s H) W')) ct W' elt te)
  (hall:∀y∈scope.names,y.2= .free→y.1∈cs) (hcell:∀y∈scope.names,y.2≠ .cell) (hnames:∀y∈scope.names,y.2= .local→scope.names.lookup y.1=some .local) (hnd:(x::cs).Nodup)
  (hsw:swapsWith (.ListComp elt [⟨.Name x px,iter,ifs,0⟩] scope pos) (some (.Name y py)) spos.line X.env=pure true:=by rfl)
  (hkind:scope.kind= .function:=by rfl) (hx:scope.names.lookup x=some .local:=by rfl) (hs:∀v,foldedSetIterable iter X.env v=pure v:=by intro _;rfl):
  SS X ct W (.Assign [.Name y py] (.ListComp elt [⟨.Name x px,iter,ifs,0⟩] scope pos) spos) (fJ (BJ js mi tt te) (gN k)):=
 PS.imp (Vm (tt:=fun W'=>tG zj X.K ct W' tt) (te:=fun W'=>tG (gw X.K ct) X.K ct W' te) hW hst hf hc cs js hN hk hy hi hcap (fun cl C fp s H W'=>ht cl C fp s H W') (fun cl C fp s H W'=>he cl C fp s H W') hall hcell hnames hnd hsw hkind hx hs) fun T σ H q=>IW (fun _ q=>G7 q) (fun v H Q ⟨ι,e,M,d,w,q,p⟩=>p _ (w.set k q)) q
end
section
variable{e:Sl}{M:Mem}
theorem HH{src:Option (Nat×List D)}{te:ME}{ce:Sl}{c:Nat}{x:D}(P:Mem→Prop)(V:D→Prop)(hs:∀M,P M→lM src M):∀(ds:List D) {ys:List D} {M:Mem},P M→
  (∀d∈ds,∀M,P M→(∃y M',te (some d::ce) M= .ok y M'∧P M'∧V y)∨∃M',te (some d::ce) M= .exc c x M'∧P M')→(∀y∈ys,V y)→
  (∃ys' M',oE src oV te ce ds ys M= .ok (.ref M'.length) (M'++[.lst ys'])∧P M'∧(∀y∈ys',V y)∧ys'.length=ys.length+ds.length)∨∃M',oE src oV te ce ds ys M= .exc c x M'∧P M'
 | [],ys,M,h,_,hv=> .inl ⟨ys,M,by unfold oE;rw[if_pos (hs M h)],h,hv,rfl⟩
 | d::ds,ys,M,h,hb,hv=>by
  unfold oE
  rw[if_pos (hs M h)]
  simp only[QG,Out.fH,if_true]
  rcases hb d List.mem_cons_self M h with⟨y,M1,e1,p1,v1⟩ | ⟨M1,e1,p1⟩
  ·rw[e1,Out.fH]
   rcases HH P V hs ds (ys:=ys++[y]) p1 (fun d' hd'=>hb d' (List.mem_cons_of_mem _ hd')) (fun z hz=>by
    rcases List.mem_append.mp hz with q | q
    ·exact hv z q
    ·rw[List.mem_singleton.mp q];exact v1)with⟨ys',M',e2,p2,v2,l2⟩ | ⟨M',e2,p2⟩
   ·exact .inl ⟨ys',M',e2,p2,v2,by rw[l2];simp;omega⟩
   ·exact .inr ⟨M',e2,p2⟩
  ·rw[e1,Out.lJ]
   exact .inr ⟨M1,rfl,p1⟩
theorem HJ{src:Option (Nat×List D)}{tt:MT}{te:ME}{ce:Sl}(P:Nat→List D→Mem→Prop):∀(ds:List D) (k:Nat) {ys:List D} {M:Mem},P k ys M→
  (∀i ys M,k≤i→i≤k+ds.length→P i ys M→lM src M)→
  (∀i d ys M,ds[i]? = some d→P (k+i) ys M→∃t M1,tt (some d::ce) M= .ok t M1∧((t=false∧P (k+i+1) ys M1)∨(t=true∧∃y M2,te (some d::ce) M1= .ok y M2∧P (k+i+1) (ys++[y]) M2)))→
  ∃ys' M',oE src tt te ce ds ys M= .ok (.ref M'.length) (M'++[.lst ys'])∧P (k+ds.length) ys' M'
 | [],k,ys,M,h0,hs,_=>⟨ys,M,by unfold oE;rw[if_pos (hs k ys M (Nat.le_refl _) (Nat.le_refl _) h0)],h0⟩
 | d::ds,k,ys,M,h0,hs,hb=>by
  unfold oE
  rw[if_pos (hs k ys M (Nat.le_refl _) (Nat.le_add_right _ _) h0)]
  obtain⟨t,M1,ht,h⟩:=hb 0 d ys M rfl h0
  rw[ht,Out.fH]
  have el:k+1+ds.length=k+(d::ds).length:=by simp only[List.length_cons];omega
  have go:∀{KC:List D} {M2:Mem},P (k+1) KC M2→∃ys' M',oE src tt te ce ds KC M2= .ok (.ref M'.length) (M'++[.lst ys'])∧P (k+(d::ds).length) ys' M':=fun{KC M2} p=>by
   have:=HJ (src:=src) (tt:=tt) (te:=te) (ce:=ce) P ds (k+1) (ys:=KC) (M:=M2) p
    (fun i e M h1 h2=>hs i e M (by omega) (by simp only[List.length_cons];omega)) (fun i d e M hd hp=>by
     have:=hb (i+1) d e M (by simpa using hd) (by have:k+(i+1)=k+1+i:=by omega
                                                  rw[this];exact hp)
     have e3:k+(i+1)+1=k+1+i+1:=by omega
     rw[e3]at this
     exact this)
   rw[el]at this
   exact this
  rcases h with⟨rfl,p⟩ | ⟨rfl,y,M2,hy,p⟩
  ·exact go p
  ·simp only[if_true]
   rw[hy,Out.fH]
   exact go p
@[simp] theorem acR{js:List Nat}{mi:MI}{tt:MT}{te:ME}:BJ js mi tt te e M=(mi e M).bind fun it M1=>oE it.src tt te (o8 js e) it.ds [] M1:=id rfl
end
end S
set_option Elab.async false
set_option maxHeartbeats 0
set_option maxRecDepth 100000
set_option linter.all false
namespace My
open PySem L2 S
def jW:MS:=
 (jB (Hj "str" Cm (mC (.str " ")) (aq (wD [] (Af (az 0)) oV (yN La (aq (az 0) aH))) aH)))
def cY:Fn:=cI 1 jW
def wG:MS:=
 (Dl (fD (aK sEq (aK bx (az 1) (mC (.int 0))) (mC (.str "ask")))) (jB (aK j0 (jP (aq (mC (.str "at")) (aq (aK bx (az 0) (mC (.int 0))) (aq (mC (.str "ask")) (aq (aK bx (az 1) (mC (.int 1))) (aq (aK bx (az 1) (mC (.int 2))) aH)))))) (aK bx (az 1) (mC (.int 3))))) jN)
def je:MS:=
 (bI (fJ (aK bx (az 0) (mC (.int 1))) (gN 1))
 (bI wG
 (jB (aK j0 (jP (aq (mC (.str "at")) (aq (aK bx (az 0) (mC (.int 0))) aH))) (az 1)))))
def jZ:Fn:=cI 2 je
def jf:MS:=
 (jB (yN Ek (aq (j4 [4,5] (az 0) "kept") aH)))
def pW:Fn:=cI 1 jf
def oF:MS:=
 (bI (fJ (j4 [5] (az 0) "row") (gN 1))
 (bI (fJ (De (aq (fG cY 1 [] (aq (jP (aq (mC (.str "book")) (aq (j4 [5] (az 0) "term") (aq (mIf (fD (aK sIs (j4 [5] (az 0) "vote") (mC .non))) (mC (.str "-")) (j4 [5] (az 0) "vote")) aH)))) aH)) aH)) (gN 2))
 (bI (nZ (Hj "list" lX (az 2) (aq (fG cY 1 [] (aq (aK j0 (jP (aq (mC (.str "base")) (aq (j4 [4] (az 1) "base") (aq (j4 [4] (az 1) "base_term") aH)))) (j4 [4] (az 1) "base_roll")) aH)) aH)))
 (bI (nZ (Hj "list" vB (az 2) (aq (wD [] (Af (aK bx (j4 [4,5] (az 0) "kept") (mC (.int 0)))) oV (fG cY 1 [] (aq (aK j0 (jP (aq (mC (.str "value")) aH)) (az 0)) aH))) aH)))
 (bI (nZ (Hj "list" vB (az 2) (aq (wD [] (Af (aK bx (j4 [4,5] (az 0) "kept") (mC (.int 1)))) oV (fG cY 1 [] (aq (aK j0 (jP (aq (mC (.str "answer")) aH)) (az 0)) aH))) aH)))
 (bI (nZ (Hj "list" vB (az 2) (aq (wD [] (Af (cL 4 "entries" pW 1 [] (az 1) aH)) oV (fG cY 1 [] (aq (fG jZ 1 [] (aq (az 0) aH)) aH))) aH)))
 (bI (nZ (Hj "list" lX (az 2) (aq (fG cY 1 [] (aq (jP (aq (mC (.str "end")) (aq (yN kO (aq (az 2) aH)) aH))) aH)) aH)))
 (jB (Hj "str" Cm (mC (.str "\n")) (aq (az 2) aH))))))))))
def uE:Fn:=cI 3 oF
def wF:MS:=
 (Dl (fD (aK sLt (az 1) (yN kO (aq (az 0) aH)))) (jB (aK bx (az 0) (az 1))) jN)
def jd:MS:=
 (bI wF
 (jB (mC (.int 0))))
def mJ:Fn:=cI 2 jd
def rN:MS:=
 (bI (fJ (aK lW (aK j0 (aK j0 (aK yE (az 3) (aK j0 (aK Ob (az 3) (mC (.int 1009))) (mC (.int 69621)))) (az 4)) (mC (.int 1))) (mC (.int 2147483647))) (gN 3))
 (nZ (Hj "list" lX (az 2) (aq (az 3) aH))))
def yd:MS:=
 (XH (Ly (aq (az 1) aH)) (gN 4) rN)
def i_:MS:=
 (bI (fJ (De aH) (gN 2))
 (bI (fJ (aK lW (aK j0 (aK yE (az 0) (mC (.int 48271))) (mC (.int 7919))) (mC (.int 2147483647))) (gN 3))
 (bI yd
 (jB (az 2)))))
def lZ:Fn:=cI 5 i_
def nQ:MS:=
 (bI (fJ (fG lZ 2 [] (aq (az 0) (aq (mC (.int 3)) aH))) (gN 1))
 (bI (fJ (De (aq (jP (aq (mC (.str "start")) aH)) (aq (jP (aq (mC (.str "roll")) (aq (aK j0 (mC (.int 1)) (aK lW (aK bx (az 1) (mC (.int 1))) (mC (.int 4095)))) (aq (aK lW (aK bx (az 1) (mC (.int 2))) (mC (.int 4096))) aH)))) (aq (jP (aq (mC (.str "roll")) (aq (mC (.int 3)) (aq (mC (.int 0)) aH)))) aH)))) (gN 2))
 (bI (nZ (Hj "list" lX (az 2) (aq (jP (aq (mC (.str "ask")) (aq (aK lW (az 0) (aK Ei (mC (.int 10)) (mC (.int 40)))) (aq (aK Gm (mC (.int 0)) (aK bx (az 1) (mC (.int 1)))) (aq (jP (aq (mC (.str "add")) (aq (mC (.str "xyz")) (aq (aK Gm (aK lW (aK bx (az 1) (mC (.int 2))) (mC (.int 30))) (mC (.int 15))) aH)))) aH))))) aH)))
 (bI (nZ (Hj "list" lX (az 2) (aq (jP (aq (mC (.str "ask")) (aq (aK bx (az 1) (mC (.int 1))) (aq (aK lW (aK bx (az 1) (mC (.int 2))) (mC (.int 100))) (aq (jP (aq (mC (.str "swap")) (aq (mC (.str "q")) (aq (mC (.int 10)) (aq (aK yE (aK lW (az 0) (mC (.int 1000))) (mC (.int 10))) aH))))) aH))))) aH)))
 (jB (aK bx (az 2) (aK lW (aK bx (az 1) (mC (.int 0))) (mC (.int 5)))))))))
def pH:Fn:=cI 3 nQ
def jJ:MS:=
 (bI (tU [4] (az 0) (az 1) "base")
 (bI (tU [4] (az 0) (az 2) "base_term")
 (bI (tU [4] (az 0) (az 3) "base_roll")
 (tU [4,5] (az 0) (yN Ek (aq (az 4) aH)) "kept"))))
def nJ:Fn:=cI 5 jJ
def nU:MS:=
 (jB (Ae 4 nJ 5 [] (aq (j4 [4] (az 0) "base") (aq (j4 [4] (az 0) "base_term") (aq (j4 [4] (az 0) "base_roll") (aq (j4 [4,5] (az 0) "kept") aH))))))
def vM:Fn:=cI 1 nU
def jr:MS:=
 (bI (tU [5] (az 0) (az 1) "term")
 (bI (tU [5] (az 0) (az 2) "vote")
 (bI (tU [5] (az 0) (cL 4 "twin" vM 1 [] (az 3) aH) "row")
 (tU [4,5] (az 0) (az 4) "kept"))))
def qj:Fn:=cI 5 jr
def nR:MS:=
 (bI (fJ (fG mJ 2 [] (aq (az 0) (aq (mC (.int 0)) aH))) (gN 1))
 (bI (fJ (fG lZ 2 [] (aq (az 1) (aq (mC (.int 7)) aH))) (gN 2))
 (bI (fJ (De (aq (mC (.int 9)) (aq (mC (.int 90)) (aq (mC (.int 1009)) (aq (mC (.int 100003)) (aq (aK Ei (mC (.int 10)) (mC (.int 9))) aH)))))) (gN 3))
 (bI (fJ (yN oN (aq (wD [2,3] (Ly (aq (aK lW (aK bx (az 2) (mC (.int 5))) (mC (.int 6))) aH)) oV (jP (aq (aK yE (mC (.str "c")) (aK j0 (az 0) (mC (.int 1)))) (aq (aK j0 (mC (.int 1)) (aK lW (aK bx (az 1) (az 0)) (aK bx (az 2) (az 0)))) aH)))) aH)) (gN 4))
 (bI (fJ (yN oN (aq (wD [2,3] (Ly (aq (aK lW (aK bx (az 2) (mC (.int 6))) (mC (.int 6))) aH)) oV (jP (aq (aK Gm (az 0) (mC (.int 3))) (aq (aK lW (aK bx (az 1) (az 0)) (mC (.int 1000))) (aq (aK Gm (mC (.int 0)) (aK lW (aK bx (az 1) (aK j0 (az 0) (mC (.int 1)))) (aK bx (az 2) (az 0)))) aH))))) aH)) (gN 5))
 (bI (fJ (wD [0,2] (VV (aq (mC (.int 2)) (aq (yN Qj (aq (yN kO (aq (az 0) aH)) (aq (mC (.int 12)) aH))) aH))) oV (jP (aq (aK yE (az 0) (aK lW (aK bx (az 2) (mC (.int 4))) (mC (.int 12)))) (aq (fG pH 1 [] (aq (aK bx (az 1) (az 0)) aH)) aH)))) (gN 6))
 (bI (fJ (Ae 4 nJ 5 [] (aq (aK lW (aK bx (az 2) (mC (.int 0))) (mC (.int 100))) (aq (aK lW (aK bx (az 2) (mC (.int 1))) (mC (.int 100))) (aq (jP (aq (aK j0 (mC (.int 1)) (aK lW (aK bx (az 2) (mC (.int 2))) (mC (.int 1000)))) (aq (aK lW (aK bx (az 2) (mC (.int 3))) (mC (.int 50))) aH))) (aq (az 6) aH))))) (gN 7))
 (jB (Ae 5 qj 5 [] (aq (aK lW (az 1) (aK Ei (mC (.int 10)) (mC (.int 40)))) (aq (aK bx (De (aq (mC .non) (aq (aK lW (aK bx (az 2) (mC (.int 4))) (mC (.int 60))) aH))) (aK lW (aK Ob (aK bx (az 2) (mC (.int 4))) (mC (.int 60))) (mC (.int 2)))) (aq (az 7) (aq (jP (aq (az 4) (aq (az 5) aH))) aH)))))))))))))
def vK:Fn:=cI 8 nR
def jg:MS:=
 (bI (tU [3] (az 0) (Hj "str" vA (az 1) (aq (mC (.str "\n")) aH)) "rows")
 (tU [3] (az 0) (mC (.int 1)) "here"))
def pX:Fn:=cI 2 jg
def pJ:MS:=
 (Dl (fD (aK Oa (j4 [3] (az 0) "here") (yN kO (aq (j4 [3] (az 0) "rows") aH)))) (N7 2 (aq (j4 [3] (az 0) "here") aH)) jN)
def dm:MS:=
 (bI pJ
 (jB (Hj "str" vA (aK bx (j4 [3] (az 0) "rows") (aK Gm (j4 [3] (az 0) "here") (mC (.int 1)))) (aq (mC (.str " ")) aH))))
def eY:Fn:=cI 1 dm
def gO:MS:=
 (Dl (mOr (fD (aK sNe (aK bx (az 3) (mC (.int 0))) (az 1))) (fD (aK sNe (yN kO (aq (az 3) aH)) (az 2)))) (N7 2 (aq (j4 [3] (az 0) "here") aH)) jN)
def a_:MS:=
 (bI (fJ (cL 3 "words" eY 1 [] (az 0) aH) (gN 3))
 (bI gO
 (jB (az 3))))
def aU:Fn:=cI 4 a_
def qe:MS:=
 (jB (QF (aK U4 (mC (.int 1)) (yN kO (aq (az 0) aH))) (QF (aK U4 (yN kO (aq (az 0) aH)) (az 2)) (yN Va (aq (wD [1] (Ox (az 0)) oV (aK RK (az 0) (az 1))) aH)))))
def vL:Fn:=cI 3 qe
def p7:MS:=
 (Dl (fD (Hj "str" zV (az 0) (aq (mC (.str "-")) aH))) (fJ (VR (az 0) (wC (mC (.int 1))) pY) (gN 1)) jN)
def yP:MS:=
 (Dl (V1 (fD (fG vL 3 [] (aq (az 1) (aq (mC (.str "0123456789")) (aq (mC (.int 100)) aH)))))) (jB (mC (.bl false))) jN)
def lK:MS:=
 (bI (fJ (az 0) (gN 1))
 (bI p7
 (bI yP
 (jB (abm (aK sEq (az 0) (mC (.str "0"))) (V0 (Hj "str" zV (az 1) (aq (mC (.str "0")) aH))))))))
def tW:Fn:=cI 2 lK
def l_:MS:=
 (Dl (V1 (fD (fG tW 1 [] (aq (az 1) aH)))) (N7 2 (aq (j4 [3] (az 0) "here") aH)) jN)
def bL:MS:=
 (bI l_
 (jB (yN U9 (aq (az 1) aH))))
def aZ:Fn:=cI 2 bL
def eZ:MS:=
 (Dl (fD (aK sLt (az 2) (mC (.int 0)))) (N7 2 (aq (j4 [3] (az 0) "here") aH)) jN)
def aQ:MS:=
 (bI (fJ (cL 3 "whole" aZ 2 [] (az 0) (aq (az 1) aH)) (gN 2))
 (bI eZ
 (jB (az 2))))
def aV:Fn:=cI 3 aQ
def jk:MS:=
 (Dl (fD (aK aax (az 3) (az 2))) (N7 2 (aq (j4 [3] (az 0) "here") aH)) jN)
def cj:MS:=
 (bI (fJ (cL 3 "from_nought" aV 2 [] (az 0) (aq (az 1) aH)) (gN 3))
 (bI jk
 (jB (az 3))))
def cP:Fn:=cI 4 cj
def gk:MS:=
 (jB (cL 3 "below" cP 3 [] (az 0) (aq (az 1) (aq (mC (.int 60)) aH))))
def gY:Fn:=cI 2 gk
def cQ:MS:=
 (tU [3] (az 0) (aK j0 (j4 [3] (az 0) "here") (mC (.int 1))) "here")
def gF:Fn:=cI 1 cQ
def gj:MS:=
 (Dl (fD (aK sNe (aK bx (az 1) (mC (.int 2))) (mC (.str "-")))) (fJ (cL 3 "hand" gY 2 [] (az 0) (aq (aK bx (az 1) (mC (.int 2))) aH)) (gN 2)) jN)
def gJ:MS:=
 (bI (fJ (cL 3 "words_of" aU 3 [] (az 0) (aq (mC (.str "book")) (aq (mC (.int 3)) aH))) (gN 1))
 (bI (fJ (mC .non) (gN 2))
 (bI gj
 (bI (fJ (jP (aq (cL 3 "from_nought" aV 2 [] (az 0) (aq (aK bx (az 1) (mC (.int 1))) aH)) (aq (az 2) aH))) (gN 3))
 (bI (nZ (cL 3 "go_on" gF 1 [] (az 0) aH))
 (jB (az 3)))))))
def gW:Fn:=cI 4 gJ
def dW:MS:=
 (Dl (fD (aK sEq (aK bx (az 3) (mC (.int 0))) (mC (.int 0)))) (N7 2 (aq (j4 [3] (az 0) "here") aH)) jN)
def bD:MS:=
 (bI (fJ (jP (aq (cL 3 "below" cP 3 [] (az 0) (aq (az 1) (aq (aK UT (mC (.int 1)) (mC (.int 60))) aH))) (aq (cL 3 "below" cP 3 [] (az 0) (aq (az 2) (aq (aK UT (mC (.int 1)) (mC (.int 60))) aH))) aH))) (gN 3))
 (bI dW
 (jB (az 3))))
def bK:Fn:=cI 4 bD
def dX:MS:=
 (bI (fJ (cL 3 "words_of" aU 3 [] (az 0) (aq (mC (.str "base")) (aq (mC (.int 5)) aH))) (gN 1))
 (bI (fJ (cL 3 "from_nought" aV 2 [] (az 0) (aq (aK bx (az 1) (mC (.int 1))) aH)) (gN 2))
 (bI (fJ (jP (aq (az 2) (aq (cL 3 "from_nought" aV 2 [] (az 0) (aq (aK bx (az 1) (mC (.int 2))) aH)) (aq (cL 3 "both_sets" bK 3 [] (az 0) (aq (aK bx (az 1) (mC (.int 3))) (aq (aK bx (az 1) (mC (.int 4))) aH))) aH)))) (gN 3))
 (bI (nZ (cL 3 "go_on" gF 1 [] (az 0) aH))
 (jB (az 3))))))
def dR:Fn:=cI 4 dX
def cU:MS:=
 (jB (aK sEq (aK bx (cL 3 "words" eY 1 [] (az 0) aH) (mC (.int 0))) (az 1)))
def dD:Fn:=cI 2 cU
def pN:MS:=
 (jB (fG vL 3 [] (aq (az 0) (aq (mC (.str "abcdefghijklmnopqrstuvwxyz")) (aq (mC (.int 8)) aH)))))
def yu:Fn:=cI 1 pN
def nG:MS:=
 (Dl (V1 (fD (fG yu 1 [] (aq (az 1) aH)))) (N7 2 (aq (j4 [3] (az 0) "here") aH)) jN)
def dZ:MS:=
 (bI nG
 (jB (az 1)))
def gf:Fn:=cI 2 dZ
def iI:MS:=
 (Dl (mOr (fD (aK sEq (aK bx (az 3) (mC (.int 1))) (mC (.int 0)))) (Sx (fD (aK Oa (yN kO (aq (az 1) aH)) (mC (.int 0)))) (fD (aK XF (aK bx (az 3) (mC (.int 0))) (aK bx (aK bx (az 1) (mUn XC (mC (.int 1)))) (mC (.int 0))))))) (N7 2 (aq (j4 [3] (az 0) "here") aH)) jN)
def bO:MT:=
 (fD (cL 3 "begins" dD 2 [] (az 0) (aq (mC (.str "value")) aH)))
def bN:MS:=
 (bI (fJ (cL 3 "words_of" aU 3 [] (az 0) (aq (mC (.str "value")) (aq (mC (.int 3)) aH))) (gN 2))
 (bI (fJ (jP (aq (cL 3 "name" gf 2 [] (az 0) (aq (aK bx (az 2) (mC (.int 1))) aH)) (aq (cL 3 "whole" aZ 2 [] (az 0) (aq (aK bx (az 2) (mC (.int 2))) aH)) aH))) (gN 3))
 (bI iI
 (bI (nZ (Hj "list" lX (az 1) (aq (az 3) aH)))
 (nZ (cL 3 "go_on" gF 1 [] (az 0) aH))))))
def jL:MS:=
 (zb bO bN)
def dY:MS:=
 (bI (fJ (De aH) (gN 1))
 (bI jL
 (jB (yN oN (aq (az 1) aH)))))
def dj:Fn:=cI 4 dY
def g_:MS:=
 (Dl (Sx (fD (aK Oa (yN kO (aq (az 1) aH)) (mC (.int 0)))) (fD (aK XF (VR (az 3) pY (wC (mC (.int 2)))) (VR (aK bx (az 1) (mUn XC (mC (.int 1)))) pY (wC (mC (.int 2))))))) (N7 2 (aq (j4 [3] (az 0) "here") aH)) jN)
def cB:MT:=
 (fD (cL 3 "begins" dD 2 [] (az 0) (aq (mC (.str "answer")) aH)))
def bW:MS:=
 (bI (fJ (cL 3 "words_of" aU 3 [] (az 0) (aq (mC (.str "answer")) (aq (mC (.int 4)) aH))) (gN 2))
 (bI (fJ (yN oN (aq (BJ [0] (Af (VR (az 2) (wC (mC (.int 1))) pY)) oV (cL 3 "whole" aZ 2 [] (az 1) (aq (az 0) aH))) aH)) (gN 3))
 (bI g_
 (bI (nZ (Hj "list" lX (az 1) (aq (az 3) aH)))
 (nZ (cL 3 "go_on" gF 1 [] (az 0) aH))))))
def lR:MS:=
 (zb cB bW)
def fj:MS:=
 (bI (fJ (De aH) (gN 1))
 (bI lR
 (jB (yN oN (aq (az 1) aH)))))
def eX:Fn:=cI 4 fj
def jj:MS:=
 (Dl (fD (aK sNe (V2 [("put",3),("add",3),("swap",4)] (aK bx (az 1) (mC (.int 0)))) (yN kO (aq (az 1) aH)))) (N7 2 (aq (j4 [3] (az 0) "here") aH)) jN)
def e_:MS:=
 (bI jj
 (bI (fJ (BJ [0] (Af (VR (az 1) (wC (mC (.int 2))) pY)) oV (cL 3 "whole" aZ 2 [] (az 1) (aq (az 0) aH))) (gN 2))
 (jB (aK j0 (jP (aq (aK bx (az 1) (mC (.int 0))) (aq (cL 3 "name" gf 2 [] (az 0) (aq (aK bx (az 1) (mC (.int 1))) aH)) aH))) (yN oN (aq (az 2) aH))))))
def gb:Fn:=cI 3 e_
def bZ:MS:=
 (Dl (fD (aK sEq (az 1) (De (aq (mC (.str "start")) aH)))) (jB (jP (aq (mC (.str "start")) aH))) jN)
def cR:MS:=
 (Dl (Sx (fD (aK sEq (yN kO (aq (az 1) aH)) (mC (.int 3)))) (fD (aK sEq (aK bx (az 1) (mC (.int 0))) (mC (.str "roll"))))) (jB (aK j0 (jP (aq (mC (.str "roll")) aH)) (cL 3 "both_sets" bK 3 [] (az 0) (aq (aK bx (az 1) (mC (.int 1))) (aq (aK bx (az 1) (mC (.int 2))) aH))))) jN)
def gh:MS:=
 (Dl (Sx (fD (aK Oa (yN kO (aq (az 1) aH)) (mC (.int 3)))) (fD (aK sEq (aK bx (az 1) (mC (.int 0))) (mC (.str "ask"))))) (jB (jP (aq (mC (.str "ask")) (aq (cL 3 "whole" aZ 2 [] (az 0) (aq (aK bx (az 1) (mC (.int 1))) aH)) (aq (cL 3 "whole" aZ 2 [] (az 0) (aq (aK bx (az 1) (mC (.int 2))) aH)) (aq (fG gb 2 [] (aq (az 0) (aq (VR (az 1) (wC (mC (.int 3))) pY) aH))) aH)))))) jN)
def bR:MS:=
 (bI bZ
 (bI cR
 (bI gh
 (N7 2 (aq (j4 [3] (az 0) "here") aH)))))
def bV:Fn:=cI 2 bR
def cA:MT:=
 (fD (cL 3 "begins" dD 2 [] (az 0) (aq (mC (.str "at")) aH)))
def cz:MS:=
 (bI (fJ (cL 3 "words" eY 1 [] (az 0) aH) (gN 2))
 (bI (fJ (fG bV 2 [] (aq (az 0) (aq (VR (az 2) (wC (mC (.int 2))) pY) aH))) (gN 3))
 (bI (nZ (Hj "list" lX (az 1) (aq (jP (aq (cL 3 "from_nought" aV 2 [] (az 0) (aq (aK bx (az 2) (mC (.int 1))) aH)) (aq (az 3) aH))) aH)))
 (nZ (cL 3 "go_on" gF 1 [] (az 0) aH)))))
def lQ:MS:=
 (zb cA cz)
def fc:MS:=
 (bI (fJ (De aH) (gN 1))
 (bI lQ
 (jB (az 1))))
def gC:Fn:=cI 4 fc
def kh:MS:=
 (Dl (fD (aK sNe (cL 3 "whole" aZ 2 [] (az 0) (aq (aK bx (az 1) (mC (.int 1))) aH)) (aK Gm (j4 [3] (az 0) "here") (mC (.int 1))))) (N7 2 (aq (j4 [3] (az 0) "here") aH)) jN)
def tZ:MS:=
 (Dl (fD (aK sLt (j4 [3] (az 0) "here") (yN kO (aq (j4 [3] (az 0) "rows") aH)))) (N7 2 (aq (aK j0 (j4 [3] (az 0) "here") (mC (.int 1))) aH)) jN)
def cT:MS:=
 (bI (fJ (cL 3 "words_of" aU 3 [] (az 0) (aq (mC (.str "end")) (aq (mC (.int 2)) aH))) (gN 1))
 (bI kh
 tZ))
def fC:Fn:=cI 2 cT
def cC:MS:=
 (bI (fJ (Ae 3 pX 2 [] (aq (az 0) aH)) (gN 1))
 (bI (fJ (fG gW 1 [] (aq (az 1) aH)) (gN 2))
 (bI (fJ (fG dR 1 [] (aq (az 1) aH)) (gN 3))
 (bI (fJ (fG dj 1 [] (aq (az 1) aH)) (gN 4))
 (bI (fJ (fG eX 1 [] (aq (az 1) aH)) (gN 5))
 (bI (fJ (Ae 4 nJ 5 [] (aq (aK bx (az 3) (mC (.int 0))) (aq (aK bx (az 3) (mC (.int 1))) (aq (aK bx (az 3) (mC (.int 2))) (aq (fG gC 1 [] (aq (az 1) aH)) aH))))) (gN 6))
 (bI (nZ (cL 3 "finish" fC 1 [] (az 1) aH))
 (jB (Ae 5 qj 5 [] (aq (aK bx (az 2) (mC (.int 0))) (aq (aK bx (az 2) (mC (.int 1))) (aq (az 6) (aq (jP (aq (az 4) (aq (az 5) aH))) aH)))))))))))))
def cO:Fn:=cI 7 cC
def QS:MS:=
 (Dl (fD (aK sNe (fG uE 1 [] (aq (fG cO 1 [] (aq (az 1) aH)) aH)) (az 1))) (jB (mC (.bl false))) jN)
def PK:MS:=
 (nZ (fG cO 1 [] (aq (az 3) aH)))
def P0:MS:=
 (fJ (abl [0,2] (az 6)) (gN 5))
def J2:MS:=
 (Jh 6 [(0,false),(2,true)] PK P0)
def QM:MS:=
 (Dl (mOr (fD (aK sIs (az 5) (mC .non))) (mOr (fD (aK sLt (az 5) (az 4))) (fD (aK Oa (az 5) (aK j0 (az 4) (mC (.int 1))))))) (jB (mC (.bl false))) jN)
def IK:MS:=
 (bI (fJ (VR (az 1) pY (wC (aK lW (az 2) (yN kO (aq (az 1) aH))))) (gN 3))
 (bI (fJ (yN kO (aq (Hj "str" vA (az 3) (aq (mC (.str "\n")) aH)) aH)) (gN 4))
 (bI (fJ (mC .non) (gN 5))
 (bI J2
 QM))))
def QZ:MS:=
 (XH (Af (VR (az 0) (wC (mC (.int 1))) (wC (mC (.int 30))))) (gN 2) IK)
def HY:MS:=
 (bI (fJ (fG uE 1 [] (aq (fG vK 1 [] (aq (az 0) aH)) aH)) (gN 1))
 (bI QS
 (bI QZ
 (jB (mC (.bl true))))))
def VP:Fn:=cI 7 HY
def bM(l:List Nat):Str:=⟨l.toArray⟩
@[simp] theorem bz(l:List Nat):(bM l).cps.toList=l:=by simp[bM]
theorem rG{a b:Str}(h:a.cps.toList=b.cps.toList):a=b:=Str.ext' (Array.toList_inj.mp h)
theorem abi(a:Str):bM a.cps.toList=a:=rG (by simp)
theorem Yt{a b:List Nat}(h:bM a=bM b):a=b:=by
 have:=congrArg (fun s:Str=>s.cps.toList) h
 simpa using this
theorem fP(a:Str):a.length=a.cps.toList.length:=by simp[Str.length]
def nM(c:Nat):List Nat→List (List Nat)
 | []=>[[]]
 | a::l=>if a=c then[]::nM c l else match nM c l with
  | []=>[[a]]
  | h::t=>(a::h)::t
theorem Q9(c:Nat):∀l,nM c l≠[]
 | []=>by simp[nM]
 | a::l=>by
  unfold nM
  split
  ·simp
  ·split<;>simp
theorem Mr{c:Nat}{l:List Nat}:nM c (c::l)=[]::nM c l:=by rw[nM,if_pos rfl]
def wH(p:List Nat):List (List Nat)→List (List Nat)
 | []=>[p]
 | h::t=>(p++h)::t
theorem Cd{c a:Nat}{l:List Nat}(h:a≠c):nM c (a::l)=wH [a] (nM c l):=by
 rw[nM,if_neg h]
 cases e:nM c l<;>simp[wH]
theorem S9{c a:Nat}{p l:List Nat}(h:a≠c):wH p (nM c (a::l))=wH (p++[a]) (nM c l):=by
 rw[Cd h]
 cases nM c l<;>simp[wH]
open Builtin.Str in
theorem Jz(x:Str)(c:Nat):∀(n a:Nat) (st:Array Nat×Nat),st.2≤a→st.1.size≤a→a+n=x.length+1→
  (forIn (List.range' a n) st (StrLaws.occBody x ⟨#[c]⟩ x.length (x.length+1))).run.fst.toList=st.1.toList++(List.range' a n).filter fun i=>decide (x.cps.toList[i]? = some c)
 | 0,a,st,_,_,_=>by simp
 | n+1,a,st,h1,h2,h3=>by
  rw[List.range'_succ,List.forIn_cons,List.filter_cons]
  unfold StrLaws.occBody
  by_cases hx:x.cps.toList[a]? = some c
  ·have q:=(StrLaws.subAt_one x c a).mpr hx
   rw[if_pos ⟨⟨⟨by omega,h1⟩,q.1⟩,q.2⟩]
   have ih:=Jz x c n (a+1) (st.1.push a,a+1) (by simp) (by simp;omega) (by omega)
   simp only[hx,decide_true,if_true]
   refine ih.trans ?_
   simp
  ·have nq:¬(((st.1.size<x.length+1∧st.2≤a)∧a+(⟨#[c]⟩:Str).length≤x.length)∧subAt x ⟨#[c]⟩ a=true):=fun q=>hx ((StrLaws.subAt_one x c a).mp ⟨q.1.2,q.2⟩)
   rw[if_neg nq]
   have ih:=Jz x c n (a+1) (st.1,st.2) (by simp;omega) (by simp;omega) (by omega)
   simp only[hx,decide_false,Bool.false_eq_true,if_false]
   exact ih
theorem Bu(x:Str)(c:Nat):∀(n a b:Nat),a≤b→b+n=x.length+1→0<n→
  StrLaws.partsFrom x 1 a ((List.range' b n).filter fun i=>decide (x.cps.toList[i]? = some c))=(wH ((x.cps.toList.drop a).take (b - a)) (nM c (x.cps.toList.drop b))).map bM
 | 0,_,_,_,_,h=>absurd h (by omega)
 | n+1,a,b,hab,hb,_=>by
  have hl:=fP x
  by_cases hn:n=0
  ·subst hn
   have e0:x.cps.toList[b]? = none:=List.getElem?_eq_none (by omega)
   have e1:x.cps.toList.drop b=[]:=List.drop_eq_nil_of_le (by omega)
   simp only[List.range'_succ,List.range'_zero,List.filter_cons,List.filter_nil,e0,e1,nM,wH]
   simp only[StrLaws.partsFrom,List.append_nil,List.map_cons,List.map_nil]
   refine congrArg (· :: []) (rG ?_)
   rw[StrLaws.strSub_toList,bz,show x.length - a=b - a from by omega]
  ·rw[List.range'_succ,List.filter_cons]
   obtain⟨v,hv⟩:∃v,x.cps.toList[b]? = some v:=⟨_,List.getElem?_eq_getElem (by omega)⟩
   have ed:x.cps.toList.drop b=v::x.cps.toList.drop (b+1):=by
    have hb':b<x.cps.toList.length:=by omega
    rw[List.drop_eq_getElem_cons hb']
    rw[List.getElem?_eq_getElem hb']at hv
    rw[Option.some.inj hv]
   rw[ed]
   by_cases hc:v=c
   ·subst hc
    simp only[hv,decide_true,if_true,StrLaws.partsFrom]
    rw[Bu x v n (b+1) (b+1) (Nat.le_refl _) (by omega) (by omega)]
    simp only[Nat.sub_self,List.take_zero]
    rw[Mr]
    have eg:wH [] (nM v (x.cps.toList.drop (b+1)))=nM v (x.cps.toList.drop (b+1)):=by
     cases e:nM v (x.cps.toList.drop (b+1))with
     | nil=>exact absurd e (Q9 _ _)
     | cons h t=>simp[wH]
    rw[eg]
    simp only[wH,List.append_nil,List.map_cons]
    refine congrArg (· :: _) (rG ?_)
    rw[StrLaws.strSub_toList,bz]
   ·have hne:¬(some v=some c):=fun z=>hc (Option.some.inj z)
    simp only[hv,hne,decide_false,Bool.false_eq_true,if_false]
    rw[Bu x c n a (b+1) (by omega) (by omega) (by omega),S9 hc]
    have et:(x.cps.toList.drop a).take (b+1 - a)=(x.cps.toList.drop a).take (b - a)++[v]:=by
     have h1:b+1 - a=(b - a)+1:=by omega
     have h2:(x.cps.toList.drop a)[b - a]? = some v:=by rw[List.getElem?_drop,←hv];congr 1;omega
     rw[h1,List.take_succ,h2];rfl
    rw[et]
theorem strKind_pos(x:Str):1≤Builtin.Str.strKind x:=by
 unfold Builtin.Str.strKind
 split
 ·omega
 ·split<;>omega
theorem RB(x:Str){c:Nat}(hc:c<256):Txt.split x ⟨#[c]⟩=(nM c x.cps.toList).map bM:=by
 have hk:Builtin.Str.strKind ⟨#[c]⟩=1:=by
  unfold Builtin.Str.strKind
  rw[if_pos (by simp[hc])]
 have hl:=fP x
 unfold Txt.split
 have h1:((⟨#[c]⟩:Str)).length=1:=rfl
 have hkp:=strKind_pos x
 by_cases h0:x.length<1
 ·rw[if_pos (by rw[h1,decide_eq_true h0];rfl)]
  have:x.cps.toList=[]:=List.eq_nil_of_length_eq_zero (by omega)
  rw[this]
  simp only[nM,List.map_cons,List.map_nil]
  exact congrArg (· :: []) (rG (by rw[this];simp))
 ·rw[if_neg (by rw[h1,hk,decide_eq_false h0,decide_eq_false (by omega)];decide)]
  have ho:Builtin.Str.occurrences x ⟨#[c]⟩ 0 x.length (x.length+1)=(List.range' 0 (x.length+1)).filter fun i=>decide (x.cps.toList[i]? = some c):=by
   rw[StrLaws.occ_eq]
   have:=Jz x c (x.length+1) 0 (#[],0) (Nat.le_refl _) (by simp) (by omega)
   simpa using this
  have hp:=Bu x c (x.length+1) 0 0 (Nat.le_refl _) (by omega) (by omega)
  have eg:wH ((x.cps.toList.drop 0).take (0 - 0)) (nM c (x.cps.toList.drop 0))=nM c x.cps.toList:=by
   simp only[Nat.sub_self,List.take_zero,List.drop_zero]
   cases e:nM c x.cps.toList with
   | nil=>exact absurd e (Q9 _ _)
   | cons h t=>simp[wH]
  rw[eg]at hp
  rw[←ho]at hp
  split
  ·rename_i he
   rw[List.isEmpty_iff.mp he]at hp
   rw[←hp]
   simp only[StrLaws.partsFrom]
   exact congrArg (· :: []) (StrLaws.sub_whole x).symm
  ·rw[StrLaws.partsBetween_eq]
   exact hp
def cZ(c:Nat):List (List Nat)→List Nat
 | []=>[]
 | [w]=>w
 | w::r=>w++c::cZ c r
theorem vP(c:Nat):∀(ws:List (List Nat)),Txt.join ⟨#[c]⟩ (ws.map bM)=bM (cZ c ws):=by
 intro ws
 unfold Txt.join
 rw[StrLaws.glued_eq_join]
 induction ws with
 | nil=>rfl
 | cons w r ih=>
  cases r with
  | nil=>rfl
  | cons v r=>
   show bM w++⟨#[c]⟩++Str.join ⟨#[c]⟩ ((v::r).map bM)=_
   rw[ih]
   apply rG
   simp[cZ,Str.cps_append]
theorem Ms{c:Nat}:∀{w l:List Nat},c∉w→nM c (w++c::l)=w::nM c l
 | [],l,_=>Mr
 | a::w,l,h=>by
  have ha:a≠c:=fun z=>h (by simp[z])
  have hw:c∉w:=fun z=>h (by simp[z])
  show nM c (a::(w++c::l))=_
  rw[Cd ha,Ms hw]
  rfl
theorem Mq{c:Nat}:∀{w:List Nat},c∉w→nM c w=[w]
 | [],_=>rfl
 | a::w,h=>by
  have ha:a≠c:=fun z=>h (by simp[z])
  have hw:c∉w:=fun z=>h (by simp[z])
  rw[Cd ha,Mq hw]
  rfl
theorem Fy{c:Nat}:∀{ws:List (List Nat)},ws≠[]→(∀w∈ws,c∉w)→nM c (cZ c ws)=ws
 | [],h,_=>absurd rfl h
 | [w],_,h=>Mq (h w (by simp))
 | w::v::r,_,h=>by
  show nM c (w++c::cZ c (v::r))=_
  rw[Ms (h w (by simp)),Fy (by simp) fun x hx=>h x (by simp at hx ⊢;exact .inr hx)]
theorem DY{c:Nat}(hc:c<256){ws:List (List Nat)}(h:ws≠[])(hw:∀w∈ws,c∉w):Txt.split (Txt.join ⟨#[c]⟩ (ws.map bM)) ⟨#[c]⟩=ws.map bM:=by
 rw[vP,RB _ hc,bz,Fy h hw]
def o7(m:Nat):List Nat:=(Nat.toDigits 10 m).map Char.toNat
def aN(n:Int):List Nat:=if n<0 then 45::o7 n.natAbs else o7 n.natAbs
theorem Sh(n:Int):(Str.ofString (toString n)).cps.toList=aN n:=by
 rw[PyProof.Rows.signs_ofString]
 cases n with
 | ofNat m=>
  show(Nat.repr m).toList.map Char.toNat=_
  rw[Nat.toList_repr]
  have:¬(Int.ofNat m<0):=Int.not_lt.mpr (Int.natCast_nonneg m)
  simp only[aN,this,if_false]
  rfl
 | negSucc m=>
  show(("-" : String)++Nat.repr (m+1)).toList.map Char.toNat=_
  rw[String.toList_append,List.map_append,Nat.toList_repr]
  have:Int.negSucc m<0:=Int.negSucc_lt_zero m
  simp only[aN,this,if_true]
  rfl
theorem Yo(n:Int):(Str.ofString (toString n))=bM (aN n):=rG (by rw[Sh,bz])
theorem Fv{m:Nat}(h:10≤m):o7 m=o7 (m / 10)++o7 (m % 10):=by
 have hm:m % 10<10:=Nat.mod_lt m (by decide)
 have t:Nat.toDigits 10 (m / 10)++Nat.toDigits 10 (m % 10)=Nat.toDigits 10 (10*(m / 10)+m % 10):=Nat.toDigits_append_toDigits (by decide) (by omega) hm
 rw[Nat.div_add_mod]at t
 unfold o7
 rw[←t,List.map_append]
theorem sU{m:Nat}(h:m<10):o7 m=[48+m]:=by
 unfold o7
 rw[Nat.toDigits_of_lt_base h]
 have:∀d,d<10→(Nat.digitChar d).toNat=48+d:=by decide
 simp[this m h]
theorem qz(m:Nat):∀c∈o7 m,48≤c∧c≤57:=by
 induction m using Nat.strongRecOn with
 | _ m ih=>
  by_cases h:m<10
  ·rw[sU h];intro c hc;simp at hc;omega
  ·rw[Fv (by omega)]
   intro c hc
   rcases List.mem_append.mp hc with q | q
   ·exact ih (m / 10) (by omega) c q
   ·rw[sU (Nat.mod_lt m (by decide))]at q
    simp at q
    have:=Nat.mod_lt m (show 10 > 0 by decide)
    omega
theorem Fw{k:Nat}:∀{m:Nat},m<10 ^ (k+1)→(o7 m).length≤k+1:=by
 induction k with
 | zero=>intro m h;rw[sU (by omega)];simp
 | succ k ih=>
  intro m h
  by_cases h1:m<10
  ·rw[sU h1];simp
  ·rw[Fv (by omega),List.length_append,sU (Nat.mod_lt m (by decide))]
   have:m / 10<10 ^ (k+1):=by
    rw[Nat.div_lt_iff_lt_mul (by decide)]
    rw[Nat.pow_succ]at h
    exact h
   have:=ih this
   simp
   omega
theorem B_(m:Nat):∃a r,o7 m=a::r∧(a=48→m=0):=by
 induction m using Nat.strongRecOn with
 | _ m ih=>
  by_cases h:m<10
  ·exact⟨48+m,[],sU h,by omega⟩
  ·obtain⟨a,r,e,q⟩:=ih (m / 10) (by omega)
   refine⟨a,r++o7 (m % 10),by rw[Fv (by omega),e];rfl,fun z=> ?_⟩
   have:=q z
   omega
theorem Ka(m:Nat):o7 m≠[]:=by
 obtain⟨a,r,e,_⟩:=B_ m
 rw[e];simp
theorem Ml(m:Nat):PySem.NumText.digitsVal (o7 m)=m:=PySem.W.KIN.val_back m
theorem abK:o7 0=[48]:=sU (by decide)
theorem Ey(n:Int):∀c∈aN n,c=45∨(48≤c∧c≤57):=by
 unfold aN
 split
 ·intro c hc
  rcases List.mem_cons.mp hc with q | q
  ·exact .inl q
  ·exact .inr (qz _ c q)
 ·intro c hc;exact .inr (qz _ c hc)
theorem Ez{n:Int}(h:n.natAbs<10 ^ 41):(aN n).length≤42:=by
 have:=Fw (k:=40) h
 unfold aN
 split
 ·simp;omega
 ·omega
theorem Yp{n:Int}(h:n.natAbs<10 ^ 41):PySem.intText? (bM (aN n))=some n:=by
 have hl:=Ez h
 by_cases hn:n<0
 ·have e:(bM (aN n)).cps.toList=45::o7 n.natAbs:=by rw[bz];simp only[aN,hn,if_true]
  rw[PySem.intText_neg e (fun c hc=>qz _ c hc) (Ka _) (by rw[fP,bz];omega),Ml]
  congr 1
  omega
 ·have e:(bM (aN n)).cps.toList=o7 n.natAbs:=by rw[bz];simp only[aN,hn,if_false]
  rw[PySem.intText_digits (x:=bM (aN n)) (by rw[e];exact fun c hc=>qz _ c hc) (by rw[e];exact Ka _) (by rw[fP,bz];omega),e,Ml]
  congr 1
  omega
theorem RC{n:Int}(h:n.natAbs<10 ^ 41):n.natAbs.log2<1920:=by
 by_cases h0:n.natAbs=0
 ·rw[h0];decide
 ·rw[Nat.log2_lt h0]
  exact Nat.lt_of_lt_of_le h (by decide +kernel)
theorem aey(n:Int):32∉aN n∧10∉aN n:=⟨fun h=>by have:=Ey n _ h;omega,fun h=>by have:=Ey n _ h;omega⟩
def pL(l:List Nat):List Nat:=if l.head? = some 45 then l.tail else l
def xQ(l:List Nat):Bool:=(decide (1≤(pL l).length)&&(decide ((pL l).length≤100)&&(pL l).all fun c=>decide (48≤c∧c≤57)))&&(decide (l=[48])|| !decide ((pL l).head? = some 48))
theorem SX{n:Int}(h:n.natAbs<10 ^ 41):xQ (aN n)=true:=by
 have hf:pL (aN n)=o7 n.natAbs:=by
  obtain⟨a,r,e,_⟩:=B_ n.natAbs
  have ha:=qz n.natAbs a (by rw[e];simp)
  unfold pL aN
  by_cases hn:n<0
  ·simp[hn]
  ·have:¬(a=45):=by omega
   simp[hn,e,this]
 have hl:=Fw (k:=40) h
 have hd:1≤(o7 n.natAbs).length:=by
  cases e:o7 n.natAbs with
  | nil=>exact absurd e (Ka _)
  | cons _ _=>simp
 obtain⟨a,r,e,q⟩:=B_ n.natAbs
 unfold xQ
 rw[hf]
 have hall:(o7 n.natAbs).all (fun c=>decide (48≤c∧c≤57))=true:=List.all_eq_true.mpr fun c hc=>decide_eq_true (qz _ c hc)
 have h3:decide (aN n=[48])=true∨(!decide ((o7 n.natAbs).head? = some 48))=true:=by
  by_cases ha:a=48
  ·left
   have z:=q ha
   have:¬(n<0):=by omega
   apply decide_eq_true
   simp only[aN,this,if_false,z,abK]
  ·right
   rw[e];simp[ha]
 simp only[hall,decide_eq_true hd,decide_eq_true (show(o7 n.natAbs).length≤100 by omega),Bool.true_and,Bool.or_eq_true]
 exact h3
def pI(l:List Nat):Bool:=decide (1≤l.length)&&(decide (l.length≤8)&&l.all fun c=>decide (97≤c∧c≤122))
def Gr(M M':Mem):Prop:=∀(i:Nat) (o:MO),M[i]? = some o→M'[i]? = some o
theorem Gr.refl{M:Mem}:Gr M M:=fun _ _ h=>h
theorem Gr.trans{M M1 M2:Mem}(a:Gr M M1)(b:Gr M1 M2):Gr M M2:=fun i o h=>b i o (a i o h)
theorem Gr.app{M:Mem}{xs:List MO}:Gr M (M++xs):=fun i o h=>by
 rw[List.getElem?_append_left (List.getElem?_eq_some_iff.mp h).1];exact h
theorem gZ{M:Mem}{i:Nat}{o:MO}(h:M[i]? = some o):i<M.length:=(List.getElem?_eq_some_iff.mp h).1
theorem bf{M:Mem}{o:MO}:(M++[o])[M.length]? = some o:=by simp
theorem get_set{M:Mem}{n:Nat}{o x:MO}(h:M[n]? = some o):(M.set n x)[n]? = some x:=List.getElem?_set_self (gZ h)
theorem pK{M:Mem}{n i:Nat}{x:MO}(h:n≠i):(M.set n x)[i]? = M[i]? := List.getElem?_set_ne h
theorem Gr.le{M M':Mem}(h:Gr M M'):M.length≤M'.length:=by
 cases z:M.length with
 | zero=>omega
 | succ n=>
  have q:M[n]? = some M[n]:=List.getElem?_eq_getElem (by omega)
  have:=gZ (h _ _ q)
  omega
def Ch(p:Nat→Prop)(M M':Mem):Prop:=M.length≤M'.length∧∀(i:Nat) (o:MO),¬p i→M[i]? = some o→M'[i]? = some o
theorem Ch.refl{p:Nat→Prop}{M:Mem}:Ch p M M:=⟨Nat.le_refl _,fun _ _ _ h=>h⟩
theorem Ch.trans{p:Nat→Prop}{M M1 M2:Mem}(a:Ch p M M1)(b:Ch p M1 M2):Ch p M M2:=⟨Nat.le_trans a.1 b.1,fun i o n h=>b.2 i o n (a.2 i o n h)⟩
theorem Ch.mono{p q:Nat→Prop}{M M1:Mem}(a:Ch p M M1)(h:∀i,i<M.length→p i→q i):Ch q M M1:=⟨a.1,fun i o n e=>a.2 i o (fun z=>n (h i (gZ e) z)) e⟩
theorem Gr.ch{p:Nat→Prop}{M M':Mem}(h:Gr M M'):Ch p M M':=⟨h.le,fun i o _ e=>h i o e⟩
theorem Ch.set{p:Nat→Prop}{M:Mem}{n:Nat}{o:MO}(h:p n):Ch p M (M.set n o):=⟨by simp,fun i x z e=>by
 rw[pK (fun q=>z (by rw[←q];exact h))];exact e⟩
theorem Ch.new{p:Nat→Prop}{M M':Mem}(h:Ch p M M')(hp:∀i,i<M.length→¬p i):Gr M M':=fun i o e=>h.2 i o (hp i (gZ e)) e
def adH(b bt:Int)(br:D)(l:Nat):MO:= .ins 4 [("base",.int b),("base_term",.int bt),("base_roll",br),("kept",.ref l)]
structure kE(M:Mem)(r:Nat)(b bt:Int)(br:D)(l:Nat)(es:List D):Prop where
 o:M[r]? = some (adH b bt br l)
 k:M[l]? = some (.lst es)
section
variable{M M':Mem}{r l:Nat}{b bt:Int}{br:D}{es:List D}
theorem kE.gr(R:kE M r b bt br l es)(g:Gr M M'):kE M' r b bt br l es:=⟨g _ _ R.o,g _ _ R.k⟩
theorem kE.ch{p:Nat→Prop}(R:kE M r b bt br l es)(g:Ch p M M')(h1:¬p r)(h2:¬p l):kE M' r b bt br l es:=⟨g.2 _ _ h1 R.o,g.2 _ _ h2 R.k⟩
theorem kE.fb(R:kE M r b bt br l es):yG [4] "base" (.ref r) M= .ok (.int b) M:=p_ R.o (by simp) rfl
theorem kE.ft(R:kE M r b bt br l es):yG [4] "base_term" (.ref r) M= .ok (.int bt) M:=p_ R.o (by simp) rfl
theorem kE.fr(R:kE M r b bt br l es):yG [4] "base_roll" (.ref r) M= .ok br M:=p_ R.o (by simp) rfl
theorem kE.fk(R:kE M r b bt br l es):yG [4,5] "kept" (.ref r) M= .ok (.ref l) M:=p_ R.o (by simp) rfl
theorem kE.me(R:kE M r b bt br l es){m:Str}(h:List.lookup m [(("base" : Str),D.int b),("base_term",.int bt),("base_roll",br),("kept",.ref l)]=none):yO 4 m (.ref r) M=true:=Mg R.o h
theorem O8(R:kE M r b bt br l es):pW [.ref r] M= .ok (.ref M.length) (M++[.lst es]):=by
 simp[pW,jf,R.fk,Hf R.k]
end
theorem YJ{M:Mem}{n h:Nat}{b bt:Int}{br:D}{es:List D}(h0:M[n]? = some (.ins 4 []))(hh:M[h]? = some (.lst es)):
  ∃M',nJ [.ref n,.int b,.int bt,br,.ref h] M= .ok .non M'∧kE M' n b bt br M.length es∧Ch (· = n) M M'∧M'.length=M.length+1:=by
 have ne:n≠h:=fun e=>by subst e;rw[h0]at hh;cases hh
 have e1:qi [4] "base" (.int b) (.ref n) M=some (M.set n (.ins 4 [("base",.int b)])):=oO h0 (by simp) (by simp)
 have e2:qi [4] "base_term" (.int bt) (.ref n) (M.set n (.ins 4 [("base",.int b)]))=some (M.set n (.ins 4 [("base",.int b),("base_term",.int bt)])):=by
  rw[oO (get_set h0) (by simp) (by simp),List.set_set];rfl
 have e3:qi [4] "base_roll" br (.ref n) (M.set n (.ins 4 [("base",.int b),("base_term",.int bt)]))=some (M.set n (.ins 4 [("base",.int b),("base_term",.int bt),("base_roll",br)])):=by
  rw[oO (get_set h0) (by simp) (by simp),List.set_set];rfl
 have e4:Ek [.ref h] (M.set n (.ins 4 [("base",.int b),("base_term",.int bt),("base_roll",br)]))= .ok (.ref M.length) (M.set n (.ins 4 [("base",.int b),("base_term",.int bt),("base_roll",br)])++[.lst es]):=by
  rw[Hf (ds:=es) (by rw[pK ne];exact hh),List.length_set]
 have hn:=gZ h0
 have g:(M.set n (.ins 4 [("base",.int b),("base_term",.int bt),("base_roll",br)])++[MO.lst es])[n]? = some (.ins 4 [("base",.int b),("base_term",.int bt),("base_roll",br)]):=by
  rw[List.getElem?_append_left (by simpa using hn)];exact get_set h0
 have e5:qi [4,5] "kept" (.ref M.length) (.ref n) (M.set n (.ins 4 [("base",.int b),("base_term",.int bt),("base_roll",br)])++[MO.lst es])=some ((M.set n (.ins 4 [("base",.int b),("base_term",.int bt),("base_roll",br)])++[MO.lst es]).set n (adH b bt br M.length)):=by
  rw[oO g (by simp) (by simp)];rfl
 refine⟨_,by simp only[nJ,jJ];simp[e1,e2,e3,e4,e5],⟨get_set g,?_⟩,⟨by simp,fun i o hi h=> ?_⟩,by simp⟩
 ·rw[pK (by omega),List.getElem?_append_right (by simp)]
  simp
 ·rw[pK (Ne.symm hi),List.getElem?_append_left (by simpa using gZ h),pK (Ne.symm hi)]
  exact h
theorem Dr{M:Mem}{h:Nat}{b bt:Int}{br:D}{es:List D}(hh:M[h]? = some (.lst es)):
  ∃M',(nJ [.ref M.length,.int b,.int bt,br,.ref h] (M++[.ins 4 []]))= .ok .non M'∧kE M' M.length b bt br (M.length+1) es∧Gr M M':=by
 obtain⟨M',e,R,k,z⟩:=YJ (M:=M++[.ins 4 []]) (n:=M.length) (h:=h) (b:=b) (bt:=bt) (br:=br) (es:=es) bf (by rw[List.getElem?_append_left (gZ hh)];exact hh)
 refine⟨M',e,?_,fun i o hi=>k.2 i o (Nat.ne_of_lt (gZ hi)) (Gr.app _ _ hi)⟩
 simpa using R
theorem Xj{M:Mem}{r l:Nat}{b bt:Int}{br:D}{es:List D}(R:kE M r b bt br l es):∃M',vM [.ref r] M= .ok (.ref M.length) M'∧kE M' M.length b bt br (M.length+1) es∧Gr M M':=by
 obtain⟨M',e,R',g⟩:=Dr (M:=M) (b:=b) (bt:=bt) (br:=br) R.k
 refine⟨M',?_,R',g⟩
 simp only[vM,nU]
 simp[R.fb,R.ft,R.fr,R.fk,e]
structure wU(M:Mem)(k r l:Nat)(tm:Int)(vt:D)(b bt:Int)(br:D)(kept:D)(es:List D):Prop where
 o:M[k]? = some (.ins 5 [("term",.int tm),("vote",vt),("row",.ref r),("kept",kept)])
 row:kE M r b bt br l es
section
variable{M M':Mem}{k r l:Nat}{tm b bt:Int}{vt br kept:D}{es:List D}
theorem wU.gr(B:wU M k r l tm vt b bt br kept es)(g:Gr M M'):wU M' k r l tm vt b bt br kept es:=⟨g _ _ B.o,B.row.gr g⟩
theorem wU.ch{p:Nat→Prop}(B:wU M k r l tm vt b bt br kept es)(g:Ch p M M')(h0:¬p k)(h1:¬p r)(h2:¬p l):wU M' k r l tm vt b bt br kept es:=⟨g.2 _ _ h0 B.o,B.row.ch g h1 h2⟩
theorem wU.ft(B:wU M k r l tm vt b bt br kept es):yG [5] "term" (.ref k) M= .ok (.int tm) M:=p_ B.o (by simp) rfl
theorem wU.fv(B:wU M k r l tm vt b bt br kept es):yG [5] "vote" (.ref k) M= .ok vt M:=p_ B.o (by simp) rfl
theorem wU.fr(B:wU M k r l tm vt b bt br kept es):yG [5] "row" (.ref k) M= .ok (.ref r) M:=p_ B.o (by simp) rfl
theorem wU.fk(B:wU M k r l tm vt b bt br kept es):yG [4,5] "kept" (.ref k) M= .ok kept M:=p_ B.o (by simp) rfl
end
theorem Rf{M:Mem}{r l:Nat}{tm b bt:Int}{vt br kept:D}{es:List D}(R:kE M r b bt br l es):
  ∃M',qj [.ref M.length,.int tm,vt,.ref r,kept] (M++[.ins 5 []])= .ok .non M'∧wU M' M.length (M.length+1) (M.length+2) tm vt b bt br kept es∧Gr M M':=by
 have h0:(M++[MO.ins 5 []])[M.length]? = some (.ins 5 []):=bf
 have e1:qi [5] "term" (.int tm) (.ref M.length) (M++[MO.ins 5 []])=some (M++[.ins 5 [("term",.int tm)]]):=by
  rw[oO h0 (by simp) (by simp)];simp[putD]
 have e2:qi [5] "vote" vt (.ref M.length) (M++[MO.ins 5 [("term",.int tm)]])=some (M++[.ins 5 [("term",.int tm),("vote",vt)]]):=by
  rw[oO bf (by simp) (by simp)];simp[putD];decide
 have R1:kE (M++[MO.ins 5 [("term",.int tm),("vote",vt)]]) r b bt br l es:=R.gr Gr.app
 obtain⟨M1,e3,R2,g⟩:=Xj R1
 have eL:(M++[MO.ins 5 [("term",.int tm),("vote",vt)]]).length=M.length+1:=by simp
 rw[eL]at e3 R2
 have q1:M1[M.length]? = some (.ins 5 [("term",.int tm),("vote",vt)]):=g _ _ bf
 have e4:qi [5] "row" (.ref (M.length+1)) (.ref M.length) M1=some (M1.set M.length (.ins 5 [("term",.int tm),("vote",vt),("row",.ref (M.length+1))])):=by
  rw[oO q1 (by simp) (by simp)];rfl
 have e5:qi [4,5] "kept" kept (.ref M.length) (M1.set M.length (.ins 5 [("term",.int tm),("vote",vt),("row",.ref (M.length+1))]))=some (M1.set M.length (.ins 5 [("term",.int tm),("vote",vt),("row",.ref (M.length+1)),("kept",kept)])):=by
  rw[oO (get_set q1) (by simp) (by simp),List.set_set];rfl
 have c:Ch (· = M.length) M1 (M1.set M.length (.ins 5 [("term",.int tm),("vote",vt),("row",.ref (M.length+1)),("kept",kept)])):=Ch.set rfl
 refine⟨_,?_,⟨get_set q1,R2.ch c (by omega) (by omega)⟩,fun i o h=>c.2 i o (Nat.ne_of_lt (gZ h)) (g _ _ (Gr.app _ _ h))⟩
 simp only[qj,jr]
 simp[e1,e2,R1.me (m:= "twin") rfl,e3,e4,e5]
theorem Qz:("\n" : Str)=⟨#[10]⟩:=by decide
theorem WY:(" " : Str)=⟨#[32]⟩:=by decide
structure aY(M:Mem)(r l:Nat)(rows:List Str)(k:Int):Prop where
 o:M[r]? = some (.ins 3 [("rows",.ref l),("here",.int k)])
 k:M[l]? = some (.lst (rows.map D.str))
section
variable{M M':Mem}{r l:Nat}{rows:List Str}{k:Int}
theorem aY.gr(R:aY M r l rows k)(g:Gr M M'):aY M' r l rows k:=⟨g _ _ R.o,g _ _ R.k⟩
theorem aY.ch{p:Nat→Prop}(R:aY M r l rows k)(g:Ch p M M')(h1:¬p r)(h2:¬p l):aY M' r l rows k:=⟨g.2 _ _ h1 R.o,g.2 _ _ h2 R.k⟩
theorem aY.fr(R:aY M r l rows k):yG [3] "rows" (.ref r) M= .ok (.ref l) M:=p_ R.o (by simp) rfl
theorem aY.fh(R:aY M r l rows k):yG [3] "here" (.ref r) M= .ok (.int k) M:=p_ R.o (by simp) rfl
theorem aY.me(R:aY M r l rows k){m:Str}(h:List.lookup m [(("rows" : Str),D.ref l),("here",.int k)]=none):yO 3 m (.ref r) M=true:=Mg R.o h
theorem aY.ne(R:aY M r l rows k):l≠r:=fun e=>by subst e;have:=R.k;rw[R.o]at this;cases this
end
theorem Qq{M:Mem}{t:Str}(h:t.length+2≤16777216):
  ∃M',pX [.ref M.length,.str t] (M++[.ins 3 []])= .ok .non M'∧aY M' M.length (M.length+1) (Txt.split t "\n") 1∧Gr M M'∧M'.length=M.length+2:=by
 have e0:vA (.str t) [.str "\n"] (M++[MO.ins 3 []])= .ok (.ref (M.length+1)) (M++[MO.ins 3 [],.lst ((Txt.split t "\n").map D.str)]):=by
  rw[Bj h (by decide)];simp
 have h0:(M++[MO.ins 3 [],.lst ((Txt.split t "\n").map D.str)])[M.length]? = some (.ins 3 []):=by simp
 have e1:qi [3] "rows" (.ref (M.length+1)) (.ref M.length) (M++[MO.ins 3 [],.lst ((Txt.split t "\n").map D.str)])=some (M++[MO.ins 3 [("rows",.ref (M.length+1))],.lst ((Txt.split t "\n").map D.str)]):=by
  rw[oO h0 (by simp) (by simp)];simp[putD]
 have h1:(M++[MO.ins 3 [("rows",.ref (M.length+1))],.lst ((Txt.split t "\n").map D.str)])[M.length]? = some (.ins 3 [("rows",.ref (M.length+1))]):=by simp
 have e2:qi [3] "here" (.int 1) (.ref M.length) (M++[MO.ins 3 [("rows",.ref (M.length+1))],.lst ((Txt.split t "\n").map D.str)])=some (M++[MO.ins 3 [("rows",.ref (M.length+1)),("here",.int 1)],.lst ((Txt.split t "\n").map D.str)]):=by
  rw[oO h1 (by simp) (by simp)];simp[putD];decide
 refine⟨_,?_,⟨?_,?_⟩,Gr.app (xs:=[MO.ins 3 [("rows",.ref (M.length+1)),("here",.int 1)],.lst ((Txt.split t "\n").map D.str)]),by simp⟩
 ·simp only[pX,jg]
  simp[e0,e1,e2,Di]
 ·simp
 ·simp
def ts(ws:List (List Nat)):List D:=ws.map fun w=>D.str (bM w)
def bh(ws:List (List Nat)):Str:=Txt.join " " (ws.map bM)
def Wd(w:List Nat):Prop:=32∉w∧10∉w∧w.length≤50
def qY(ws:List (List Nat)):Prop:=ws≠[]∧ws.length≤20∧∀w∈ws,Wd w
theorem Hr{c:Nat}:∀(ws:List (List Nat)),(∀w∈ws,w.length≤50)→(cZ c ws).length≤ws.length*51
 | [],_=>by simp[cZ]
 | [w],h=>by have:=h w (by simp);simp[cZ];omega
 | w::v::r,h=>by
  have h1:=h w (by simp)
  have h2:=Hr (c:=c) (v::r) fun x hx=>h x (by simp at hx ⊢;exact .inr hx)
  simp only[cZ,List.length_append,List.length_cons]at h2 ⊢
  omega
theorem zZ(ws:List (List Nat)):bh ws=bM (cZ 32 ws):=by unfold bh;rw[WY,vP]
theorem El{ws:List (List Nat)}(h:qY ws):(bh ws).length≤1020:=by
 rw[zZ,fP,bz]
 have:=Hr (c:=32) ws fun w hw=>(h.2.2 w hw).2.2
 have:=h.2.1
 omega
theorem Oc{ws:List (List Nat)}(h:qY ws):Txt.split (bh ws) " " = ws.map bM:=by
 unfold bh
 rw[WY]
 exact DY (by decide) h.1 fun w hw=>(h.2.2 w hw).1
theorem Zw(ws:List (List Nat)):(ws.map bM).map D.str=ts ws:=by simp[ts]
section
variable{M:Mem}{r l:Nat}{rows:List Str}{k:Int}{i:Nat}{ws:List (List Nat)}
theorem Dy(R:aY M r l rows k)(hk:k=i+1)(h:rows[i]? = some (bh ws))(hw:qY ws):eY [.ref r] M= .ok (.ref M.length) (M++[.lst (ts ws)]):=by
 have hi:i<rows.length:=(List.getElem?_eq_some_iff.mp h).1
 have e1:bx (.ref l) (.int (k - 1)) M= .ok (.str (bh ws)) M:=yt R.k (by omega) (by rw[show(k - 1).toNat=i by omega,List.getElem?_map,h];rfl)
 have e2:vA (.str (bh ws)) [.str " "] M= .ok (.ref M.length) (M++[.lst (ts ws)]):=by
  rw[Bj (by have:=El hw;omega) (by decide),Oc hw,Zw]
 have h1:¬((rows.length:Int)<k):=by omega
 simp only[eY,dm,pJ]
 simp[R.fr,R.fh,dJ R.k,h1,e1,e2,Di]
theorem Tu(R:aY M r l rows k)(hk:k=i+1){w:List Nat}(h:rows[i]? = some (bh (w::ws)))(hw:qY (w::ws))(b:Str):dD [.ref r,.str b] M= .ok (.bl (decide (bM w=b))) (M++[.lst (ts (w::ws))]):=by
 have e1:=Dy R hk h hw
 have e2:bx (.ref M.length) (.int 0) (M++[.lst (ts (w::ws))])= .ok (.str (bM w)) (M++[.lst (ts (w::ws))]):=yt bf (by omega) rfl
 simp only[dD,cU]
 simp[R.me (m:= "words") rfl,e1,e2]
theorem KR(R:aY M r l rows k)(hk:k=i+1){w:List Nat}(h:rows[i]? = some (bh (w::ws)))(hw:qY (w::ws)){b:Str}(hb:bM w=b){n:Int}(hn:n=(ws.length:Int)+1):
  aU [.ref r,.str b,.int n] M= .ok (.ref M.length) (M++[.lst (ts (w::ws))]):=by
 have e1:=Dy R hk h hw
 have e2:bx (.ref M.length) (.int 0) (M++[.lst (ts (w::ws))])= .ok (.str (bM w)) (M++[.lst (ts (w::ws))]):=yt bf (by omega) rfl
 have e3:kO [.ref M.length] (M++[.lst (ts (w::ws))])= .ok (.int n) (M++[.lst (ts (w::ws))]):=by
  rw[dJ bf];simp[ts,hn]
 simp only[aU,a_,gO]
 simp[R.me (m:= "words") rfl,e1,e2,e3,hb]
theorem mL(R:aY M r l rows k):∃M',gF [.ref r] M= .ok .non M'∧aY M' r l rows (k+1)∧Ch (· = r) M M'∧M'.length=M.length:=by
 have e1:qi [3] "here" (.int (k+1)) (.ref r) M=some (M.set r (.ins 3 [("rows",.ref l),("here",.int (k+1))])):=by
  rw[oO R.o (by simp) (by simp)];rfl
 refine⟨_,?_,⟨get_set R.o,?_⟩,Ch.set rfl,by simp⟩
 ·simp only[gF,cQ]
  simp[R.fh,e1]
 ·rw[pK (Ne.symm R.ne)];exact R.k
end
theorem abB{c:Nat}{sg:Str}{M:Mem}:RK (.str ⟨#[c]⟩) (.str sg) M= .ok (.bl (decide (c∈sg.cps.toList))) M:=by
 show Out.ok (D.bl (!(Builtin.Str.occurrences sg ⟨#[c]⟩ 0 sg.length 1).isEmpty)) M=_
 rw[StrLaws.found_one]
theorem QH{z:Str}{M:Mem}(h:z.length≤16777216):kO [.str z] M= .ok (.int z.length) M:=by
 unfold kO
 refine(Yg ?_).trans ?_
 ·rfl
 ·simp only[Qk]
  rw[if_pos (by rw[pZ];exact h)]
def Lw(s:Str):List Nat:=s.cps.toList
@[simp] theorem uc(l:List Nat):Lw (bM l)=l:=bz l
theorem W9{a b:Str}(h:Lw a=Lw b):a=b:=rG h
theorem qQ(a:Str):a.length=(Lw a).length:=fP a
theorem YK{c:Nat}{sg:Str}{M:Mem}:RK (.str ⟨#[c]⟩) (.str sg) M= .ok (.bl (decide (c∈Lw sg))) M:=abB
theorem afr{w:Str}{M:Mem}(h:w.length≤16777216):itS (.str w) M= .ok ⟨none,(Lw w).map fun c=>D.str ⟨#[c]⟩⟩ M:=by
 simp only[itS];rw[if_pos (by rw[pZ];exact h)];rfl
def oneOf(z:Str):Nat:=(z.cps.toList).headD 0
@[simp] theorem aeu(c:Nat):oneOf ⟨#[c]⟩=c:=rfl
theorem Pk(f:Nat→Bool)(l:List Nat):(l.map f).all id=l.all f:=by simp[List.all_map]
theorem Ma{M:Mem}{w sg:Str}{n:Int}(h:w.length≤16777216):∃M',vL [.str w,.str sg,.int n] M= .ok (.bl (decide (1≤w.length)&&(decide ((w.length:Int)≤n)&&(Lw w).all fun c=>decide (c∈(Lw sg))))) M'∧Gr M M':=by
 have e1:=QH (M:=M) h
 by_cases h1:1≤w.length
 ·by_cases h2:(w.length:Int)≤n
  ·obtain⟨M1,yF⟩:∃M1,M1=M++[MO.lst (((Lw w).map fun c=>decide (c∈(Lw sg))).map D.bl)]:=⟨_,rfl⟩
   refine⟨M1,?_,by rw[yF];exact Gr.app⟩
   have e2:=afr (M:=M) h
   have e3:rF none oV (aK RK (az 0) (az 1)) [some (.str sg)] ((Lw w).map fun c=>D.str ⟨#[c]⟩) [] M= .ok (.ref M.length) (M++[.lst (((Lw w).map fun c=>decide (c∈(Lw sg))).map D.bl)]):=by
    rw[Ar (src:=none) (fun d=>match d with | .str z=> .bl (decide (oneOf z∈(Lw sg))) | _=> .non) trivial]
    ·simp[List.map_map]
     exact fun a _=>decide_eq_decide.mpr Iff.rfl
    ·intro d hd
     obtain⟨c,_,rfl⟩:=List.mem_map.mp hd
     simp[YK]
     exact decide_eq_decide.mpr Iff.rfl
   have e4:=U_ (M:=M++[.lst (((Lw w).map fun c=>decide (c∈(Lw sg))).map D.bl)]) (n:=M.length) bf
   rw[Pk]at e4
   rw[←yF]at e3 e4
   simp only[vL,qe]
   have h1':(1:Int)≤w.length:=by omega
   have ec:o8 [1] [some (D.str w),some (.str sg),some (.int n)]=[some (.str sg)]:=rfl
   simp[e1,h1,h1',h2,e2,ec,e3,e4]
  ·refine⟨M,?_,Gr.refl⟩
   have h1':(1:Int)≤w.length:=by omega
   simp only[vL,qe]
   simp[e1,h1,h1',h2]
 ·refine⟨M,?_,Gr.refl⟩
  have h1':¬((1:Int)≤w.length):=by omega
  simp only[vL,qe]
  simp[e1,h1,h1']
theorem Wn:(Lw "0123456789")=[48,49,50,51,52,53,54,55,56,57]:=by decide
theorem V4:(Lw "abcdefghijklmnopqrstuvwxyz")=[97,98,99,100,101,102,103,104,105,106,107,108,109,110,111,112,113,114,115,116,117,118,119,120,121,122]:=by decide
theorem YT(c:Nat):decide (c∈(Lw "0123456789"))=decide (48≤c∧c≤57):=by
 rw[Wn]
 refine decide_eq_decide.mpr ⟨fun h=> ?_,fun h=> ?_⟩
 ·simp at h;omega
 ·simp;omega
theorem Yv(c:Nat):decide (c∈(Lw "abcdefghijklmnopqrstuvwxyz"))=decide (97≤c∧c≤122):=by
 rw[V4]
 refine decide_eq_decide.mpr ⟨fun h=> ?_,fun h=> ?_⟩
 ·simp at h;omega
 ·simp;omega
theorem yX(w:Str)(c:Nat):Txt.startswith w ⟨#[c]⟩=decide ((Lw w).head? = some c):=by
 unfold Txt.startswith
 have h:(0+(⟨#[c]⟩:Str).length≤w.length∧Builtin.Str.subAt w ⟨#[c]⟩ 0=true)↔(Lw w)[0]? = some c:=StrLaws.subAt_one w c 0
 rw[←List.head?_eq_getElem?]at h
 by_cases q:(Lw w).head? = some c
 ·have:=h.mpr q
  rw[decide_eq_true q,this.2,decide_eq_true this.1];rfl
 ·rw[decide_eq_false q]
  by_cases q1:0+(⟨#[c]⟩:Str).length≤w.length
  ·have:Builtin.Str.subAt w ⟨#[c]⟩ 0=false:=by
    cases z:Builtin.Str.subAt w ⟨#[c]⟩ 0 with
    | false=>rfl
    | true=>exact absurd (h.mp ⟨q1,z⟩) q
   rw[this,Bool.and_false]
  ·rw[decide_eq_false q1,Bool.false_and]
theorem Fb:("-" : Str)=⟨#[45]⟩:=by decide
theorem Sq:("0" : Str)=⟨#[48]⟩:=by decide
theorem aai(w:Str)(h:1≤w.length):Txt.slice w (some 1) none=bM (Lw w).tail:=by
 have hl:=qQ w
 have e:=StrLaws.sliceText_from (x:=w) (i:=1) ⟨by decide,by show(1:Int)≤(Lw w).length;omega⟩
 refine Eq.trans e ?_
 apply W9
 rw[uc]
 show((((Lw w).drop (1:Int).toNat).take _).toArray).toList=_
 rw[List.toList_toArray,←List.drop_one]
 refine List.take_of_length_le ?_
 simp only[List.length_drop]
 show(Lw w).length - 1≤(((Lw w).length:Int) - 1).toNat
 omega
theorem Ai{M:Mem}{w:Str}(h:w.length≤16777216):∃M',tW [.str w] M= .ok (.bl (xQ (Lw w))) M'∧Gr M M':=by
 have hf:∃f:Str,(Lw f)=pL (Lw w)∧f.length≤16777216∧p7 [some (.str w),some (.str w)] M= .next [some (.str w),some (.str f)] M:=by
  by_cases q:(Lw w).head? = some 45
  ·have hl:1≤w.length:=by
    rw[qQ]
    cases z:(Lw w)with
    | nil=>rw[z]at q;cases q
    | cons _ _=>simp
   have hs:Txt.startswith w "-" = true:=by rw[Fb,yX,decide_eq_true q]
   refine⟨bM (Lw w).tail,by rw[uc];simp[pL,q],?_,?_⟩
   ·rw[qQ,uc,List.length_tail,←qQ];omega
   ·simp only[p7]
    have e:Ge (.str w) (some 1) none M= .ok (.str (bM (Lw w).tail)) M:=by
     rw[←aai w hl]
     simp only[Ge,yD,pZ,h,if_true]
    simp[Di,hs,e]
  ·have hs:Txt.startswith w "-" = false:=by rw[Fb,yX,decide_eq_false q]
   refine⟨w,by simp[pL,q],h,?_⟩
   simp only[p7]
   simp[Di,hs]
 obtain⟨f,hfe,hfl,ef⟩:=hf
 obtain⟨M1,e1,g1⟩:=Ma (M:=M) (w:=f) (sg:= "0123456789") (n:=100) hfl
 have ea:((Lw f).all fun c=>decide (c∈(Lw "0123456789")))=(pL (Lw w)).all fun c=>decide (48≤c∧c≤57):=by
  rw[hfe]
  congr 1
  funext c
  exact YT c
 have el:f.length=(pL (Lw w)).length:=by rw[qQ,hfe]
 rw[ea,el]at e1
 have hs:Txt.startswith f "0" = decide ((pL (Lw w)).head? = some 48):=by rw[Sq,yX,hfe]
 have hw:(w=("0" : Str))↔(Lw w)=[48]:=⟨fun z=>by rw[z];decide,fun z=>W9 (by rw[z];decide)⟩
 refine⟨M1,?_,g1⟩
 simp only[tW,lK,yP]
 have hi:(((pL (Lw w)).length:Int)≤100)↔(pL (Lw w)).length≤100:=by omega
 simp only[xQ]
 by_cases q:(decide (1≤(pL (Lw w)).length)&&(decide ((pL (Lw w)).length≤100)&&(pL (Lw w)).all fun c=>decide (48≤c∧c≤57)))=true
 ·have q':(decide (1≤(pL (Lw w)).length)&&(decide (((pL (Lw w)).length:Int)≤100)&&(pL (Lw w)).all fun c=>decide (48≤c∧c≤57)))=true:=by
   rw[decide_eq_decide.mpr hi];exact q
  rw[q']at e1
  rw[q]
  simp[ef,e1,hs,hw,Di]
  by_cases z:(Lw w)=[48]<;>simp[z]
 ·have q2:=Bool.eq_false_iff.mpr q
  have q':(decide (1≤(pL (Lw w)).length)&&(decide (((pL (Lw w)).length:Int)≤100)&&(pL (Lw w)).all fun c=>decide (48≤c∧c≤57)))=false:=by
   rw[decide_eq_decide.mpr hi];exact q2
  rw[q']at e1
  rw[q2]
  simp[ef,e1]
theorem Fo{M:Mem}{w:Str}(h:w.length≤16777216):∃M',yu [.str w] M= .ok (.bl (pI (Lw w))) M'∧Gr M M':=by
 obtain⟨M1,e1,g1⟩:=Ma (M:=M) (w:=w) (sg:= "abcdefghijklmnopqrstuvwxyz") (n:=8) h
 have ea:((Lw w).all fun c=>decide (c∈(Lw "abcdefghijklmnopqrstuvwxyz")))=(Lw w).all fun c=>decide (97≤c∧c≤122):=by
  congr 1
  funext c
  exact Yv c
 rw[ea,qQ]at e1
 refine⟨M1,?_,g1⟩
 simp only[yu,pN]
 have hi:((((Lw w)).length:Int)≤8)↔((Lw w)).length≤8:=by omega
 rw[show decide (((Lw w).length:Int)≤8)=decide ((Lw w).length≤8)from decide_eq_decide.mpr hi]at e1
 simp[e1,pI]
section
variable{M:Mem}{r l:Nat}{rows:List Str}{k:Int}
theorem uy(R:aY M r l rows k){n:Int}(h:n.natAbs<10 ^ 41):∃M',aZ [.ref r,.str (bM (aN n))] M= .ok (.int n) M'∧Gr M M':=by
 have hl:(bM (aN n)).length≤42:=by rw[qQ,uc];exact Ez h
 obtain⟨M1,e1,g1⟩:=Ai (M:=M) (w:=bM (aN n)) (by omega)
 rw[uc,SX h]at e1
 refine⟨M1,?_,g1⟩
 simp only[aZ,bL,l_]
 simp[e1,U8 (Yp h) (show(bM (aN n)).length≤640 by omega)]
theorem kY(R:aY M r l rows k){n:Int}(h:n.natAbs<10 ^ 41)(h0:0≤n):∃M',aV [.ref r,.str (bM (aN n))] M= .ok (.int n) M'∧Gr M M':=by
 obtain⟨M1,e1,g1⟩:=uy R h
 refine⟨M1,?_,g1⟩
 have:¬(n<0):=by omega
 simp only[aV,aQ,eZ]
 simp[R.me (m:= "whole") rfl,e1,this]
theorem FQ(R:aY M r l rows k){n b:Int}(h:n.natAbs<10 ^ 41)(h0:0≤n)(hb:n<b):∃M',cP [.ref r,.str (bM (aN n)),.int b] M= .ok (.int n) M'∧Gr M M':=by
 obtain⟨M1,e1,g1⟩:=kY R h h0
 refine⟨M1,?_,g1⟩
 have:¬(b≤n):=by omega
 simp only[cP,cj,jk]
 simp[R.me (m:= "from_nought") rfl,e1,this]
theorem YL(R:aY M r l rows k){n:Int}(h0:0≤n)(hb:n<60):∃M',gY [.ref r,.str (bM (aN n))] M= .ok (.int n) M'∧Gr M M':=by
 obtain⟨M1,e1,g1⟩:=FQ R (n:=n) (b:=60) (by omega) h0 hb
 refine⟨M1,?_,g1⟩
 simp only[gY,gk]
 simp[R.me (m:= "below") rfl,e1]
theorem Rc(R:aY M r l rows k){a b:Int}(ha:1≤a)(ha2:a<2 ^ 60)(hb:0≤b)(hb2:b<2 ^ 60):∃M',bK [.ref r,.str (bM (aN a)),.str (bM (aN b))] M= .ok (.tup [.int a,.int b]) M'∧Gr M M':=by
 obtain⟨M1,e1,g1⟩:=FQ R (n:=a) (b:=1152921504606846976) (by omega) (by omega) (by omega)
 obtain⟨M2,e2,g2⟩:=FQ (R.gr g1) (n:=b) (b:=1152921504606846976) (by omega) (by omega) (by omega)
 refine⟨M2,?_,g1.trans g2⟩
 have hs:∀M,UT (.int 1) (.int 60) M= .ok (.int 1152921504606846976) M:=fun M=>by rfl
 have:¬(a=0):=by omega
 simp only[bK,bD,dW]
 simp[R.me (m:= "below") rfl,(R.gr g1).me (m:= "below") rfl,hs,e1,e2,this]
theorem QB(R:aY M r l rows k){w:List Nat}(h:pI w=true)(hl:w.length≤100):∃M',gf [.ref r,.str (bM w)] M= .ok (.str (bM w)) M'∧Gr M M':=by
 obtain⟨M1,e1,g1⟩:=Fo (M:=M) (w:=bM w) (by rw[qQ,uc];omega)
 rw[uc,h]at e1
 refine⟨M1,?_,g1⟩
 simp only[gf,dZ,nG]
 simp[e1]
end
def W(s:Str):List Nat:=s.cps.toList
@[simp] theorem wk(s:Str):bM (W s)=s:=abi s
inductive Od where
 | put (s:List Nat) (n:Int) | add (s:List Nat) (n:Int) | swap (s:List Nat) (a n:Int)
inductive Wt where
 | start | roll (a b:Int) | ask (w n:Int) (o:Od)
def Od.d:Od→D
 | .put s n=> .tup [.str "put",.str (bM s),.int n]
 | .add s n=> .tup [.str "add",.str (bM s),.int n]
 | .swap s a n=> .tup [.str "swap",.str (bM s),.int a,.int n]
def Od.w:Od→List (List Nat)
 | .put s n=>[W "put",s,aN n]
 | .add s n=>[W "add",s,aN n]
 | .swap s a n=>[W "swap",s,aN a,aN n]
def Sm(n:Int):Prop:=n.natAbs<10 ^ 41
def Od.Ok:Od→Prop
 | .put s n=>pI s=true∧Sm n
 | .add s n=>pI s=true∧Sm n
 | .swap s a n=>pI s=true∧Sm a∧Sm n
def Wt.d:Wt→D
 | .start=> .tup [.str "start"]
 | .roll a b=> .tup [.str "roll",.int a,.int b]
 | .ask w n o=> .tup [.str "ask",.int w,.int n,o.d]
def Wt.w:Wt→List (List Nat)
 | .start=>[W "start"]
 | .roll a b=>[W "roll",aN a,aN b]
 | .ask w n o=>W "ask" :: aN w::aN n::o.w
def Ro(a b:Int):Prop:=1≤a∧a<2 ^ 60∧0≤b∧b<2 ^ 60
def Wt.Ok:Wt→Prop
 | .start=>True
 | .roll a b=>Ro a b
 | .ask w n o=>Sm w∧Sm n∧o.Ok
def Gf(p:Int×Wt):D:= .tup [.int p.1,p.2.d]
def zx(p:Int×Wt):List (List Nat):=W "at" :: aN p.1::p.2.w
def Ay(p:Int×Wt):Prop:=0≤p.1∧Sm p.1∧p.2.Ok
def wN(p:List Nat×Int):D:= .tup [.str (bM p.1),.int p.2]
def A_(p:List Nat×Int):List (List Nat):=[W "value",p.1,aN p.2]
def GC(p:List Nat×Int):Prop:=pI p.1=true∧Sm p.2∧p.2≠0
def wR(p:(Int×Int)×Int):D:= .tup [.int p.1.1,.int p.1.2,.int p.2]
def zG(p:(Int×Int)×Int):List (List Nat):=[W "answer",aN p.1.1,aN p.1.2,aN p.2]
def Gd(p:(Int×Int)×Int):Prop:=Sm p.1.1∧Sm p.1.2∧Sm p.2
def Ks(p q:(Int×Int)×Int):Prop:=p.1.1<q.1.1∨p.1.1=q.1.1∧p.1.2<q.1.2
structure Bk where
 tm:Int
 vt:Option Int
 b:Int
 bt:Int
 r1:Int
 r2:Int
 vs:List (List Nat×Int)
 as:List ((Int×Int)×Int)
 es:List (Int×Wt)
def Bk.vd(B:Bk):D:=match B.vt with
 | none=> .non
 | some v=> .int v
def Bk.vw(B:Bk):List Nat:=match B.vt with
 | none=>W "-"
 | some v=>aN v
def Bk.roll(B:Bk):D:= .tup [.int B.r1,.int B.r2]
def Bk.kept(B:Bk):D:= .tup [.tup (B.vs.map wN),.tup (B.as.map wR)]
def Bk.ents(B:Bk):List D:=B.es.map Gf
def Bk.body(B:Bk):List (List (List Nat)):=[W "book",aN B.tm,B.vw]::[W "base",aN B.b,aN B.bt,aN B.r1,aN B.r2]::(B.vs.map A_++(B.as.map zG++B.es.map zx))
def Bk.bw(B:Bk):List (List (List Nat)):=B.body++[[W "end",aN B.body.length]]
def Bk.text(B:Bk):Str:=Txt.join "\n" (B.bw.map bh)
structure Bk.Ok(B:Bk):Prop where
 tm:0≤B.tm∧Sm B.tm
 vt:∀v,B.vt=some v→0≤v∧v<60
 b:0≤B.b∧Sm B.b
 bt:0≤B.bt∧Sm B.bt
 ro:Ro B.r1 B.r2
 vs:∀p∈B.vs,GC p
 vo:B.vs.Pairwise fun p q=>p.1<q.1
 as:∀p∈B.as,Gd p
 ao:B.as.Pairwise Ks
 es:∀p∈B.es,Ay p
 lv:B.vs.length<64
 la:B.as.length<64
 le:B.es.length≤64
theorem jb{n:Int}(h:Sm n):Wd (aN n):=⟨(aey n).1,(aey n).2,by have:=Ez h;omega⟩
theorem yS{s:List Nat}(h:pI s=true):Wd s:=by
 simp only[pI,Bool.and_eq_true,decide_eq_true_eq,List.all_eq_true]at h
 refine⟨fun z=> ?_,fun z=> ?_,by omega⟩
 ·have:=h.2.2 _ z;omega
 ·have:=h.2.2 _ z;omega
theorem QC{s:List Nat}(h:pI s=true):s.length≤100:=by
 have:=(yS h).2.2;omega
theorem pB{s:Str}(h:(decide (32∉W s)&&decide (10∉W s)&&decide ((W s).length≤50))=true):Wd (W s):=by
 simp only[Bool.and_eq_true,decide_eq_true_eq]at h
 exact⟨h.1.1,h.1.2,h.2⟩
theorem yR{ws:List (List Nat)}(h0:ws≠[])(hl:ws.length≤20)(h:∀w∈ws,Wd w):qY ws:=⟨h0,hl,h⟩
theorem aev{o:Od}(h:o.Ok):∀w∈o.w,Wd w:=by
 cases o with
 | put s n=>
  intro w hw
  simp[Od.w]at hw
  rcases hw with rfl | rfl | rfl
  ·exact pB (by decide)
  ·exact yS h.1
  ·exact jb h.2
 | add s n=>
  intro w hw
  simp[Od.w]at hw
  rcases hw with rfl | rfl | rfl
  ·exact pB (by decide)
  ·exact yS h.1
  ·exact jb h.2
 | swap s a n=>
  intro w hw
  simp[Od.w]at hw
  rcases hw with rfl | rfl | rfl | rfl
  ·exact pB (by decide)
  ·exact yS h.1
  ·exact jb h.2.1
  ·exact jb h.2.2
theorem Vz(o:Od):o.w.length≤4:=by cases o<;>simp[Od.w]
theorem Qn{a b:Int}(h:Ro a b):Sm a∧Sm b:=by
 obtain⟨h1,h2,h3,h4⟩:=h
 unfold Sm
 constructor<;>omega
theorem ac7{x:Wt}(h:x.Ok):∀w∈x.w,Wd w:=by
 cases x with
 | start=>intro w hw;simp[Wt.w]at hw;subst hw;exact pB (by decide)
 | roll a b=>
  have:=Qn h
  intro w hw
  simp[Wt.w]at hw
  rcases hw with rfl | rfl | rfl
  ·exact pB (by decide)
  ·exact jb this.1
  ·exact jb this.2
 | ask a n o=>
  intro w hw
  simp only[Wt.w,List.mem_cons]at hw
  rcases hw with rfl | rfl | rfl | hw
  ·exact pB (by decide)
  ·exact jb h.1
  ·exact jb h.2.1
  ·exact aev h.2.2 w hw
theorem Ub(x:Wt):x.w.length≤7:=by
 cases x with
 | start=>simp[Wt.w]
 | roll a b=>simp[Wt.w]
 | ask a n o=>have:=Vz o;simp[Wt.w];omega
theorem zu{p:Int×Wt}(h:Ay p):qY (zx p):=by
 refine yR (by simp[zx]) (by have:=Ub p.2;simp[zx];omega) fun w hw=> ?_
 simp only[zx,List.mem_cons]at hw
 rcases hw with rfl | rfl | hw
 ·exact pB (by decide)
 ·exact jb h.2.1
 ·exact ac7 h.2.2 w hw
theorem Nu{p:List Nat×Int}(h:GC p):qY (A_ p):=yR (by simp[A_]) (by simp[A_]) fun w hw=>by
 simp[A_]at hw
 rcases hw with rfl | rfl | rfl
 ·exact pB (by decide)
 ·exact yS h.1
 ·exact jb h.2.1
theorem FT{p:(Int×Int)×Int}(h:Gd p):qY (zG p):=yR (by simp[zG]) (by simp[zG]) fun w hw=>by
 simp[zG]at hw
 rcases hw with rfl | rfl | rfl | rfl
 ·exact pB (by decide)
 ·exact jb h.1
 ·exact jb h.2.1
 ·exact jb h.2.2
theorem We{B:Bk}(h:B.Ok):qY [W "book",aN B.tm,B.vw]:=yR (by simp) (by simp) fun w hw=>by
 simp at hw
 rcases hw with rfl | rfl | rfl
 ·exact pB (by decide)
 ·exact jb h.tm.2
 ·unfold Bk.vw
  split
  ·exact pB (by decide)
  ·rename_i v e
   have:=h.vt v e
   exact jb (by unfold Sm;omega)
theorem WQ{B:Bk}(h:B.Ok):qY [W "base",aN B.b,aN B.bt,aN B.r1,aN B.r2]:=yR (by simp) (by simp) fun w hw=>by
 have:=Qn h.ro
 simp at hw
 rcases hw with rfl | rfl | rfl | rfl | rfl
 ·exact pB (by decide)
 ·exact jb h.b.2
 ·exact jb h.bt.2
 ·exact jb this.1
 ·exact jb this.2
theorem tD{B:Bk}(h:B.Ok):B.body.length=2+B.vs.length+B.as.length+B.es.length∧B.body.length≤200:=by
 have e:B.body.length=2+B.vs.length+B.as.length+B.es.length:=by simp[Bk.body];omega
 have:=h.lv
 have:=h.la
 have:=h.le
 exact⟨e,by omega⟩
theorem An{B:Bk}(h:B.Ok):qY [W "end",aN B.body.length]:=yR (by simp) (by simp) fun w hw=>by
 have:=(tD h).2
 simp at hw
 rcases hw with rfl | rfl
 ·exact pB (by decide)
 ·exact jb (by unfold Sm;omega)
theorem zM{B:Bk}(h:B.Ok):∀ws∈B.bw,qY ws:=by
 intro ws hw
 simp only[Bk.bw,Bk.body,List.mem_append,List.mem_cons,List.mem_map,List.not_mem_nil,or_false]at hw
 rcases hw with(rfl | rfl | ⟨p,hp,rfl⟩ | ⟨p,hp,rfl⟩ | ⟨p,hp,rfl⟩) | rfl
 ·exact We h
 ·exact WQ h
 ·exact Nu (h.vs p hp)
 ·exact FT (h.as p hp)
 ·exact zu (h.es p hp)
 ·exact An h
theorem Hq{c x:Nat}:∀{ws:List (List Nat)},x∈cZ c ws→x=c∨∃w∈ws,x∈w
 | [],h=>by simp[cZ]at h
 | [w],h=> .inr ⟨w,by simp,h⟩
 | w::v::r,h=>by
  simp only[cZ,List.mem_append,List.mem_cons]at h
  rcases h with h | h | h
  ·exact .inr ⟨w,by simp,h⟩
  ·exact .inl h
  ·rcases Hq h with q | ⟨y,hy,q⟩
   ·exact .inl q
   ·exact .inr ⟨y,by simp at hy ⊢;exact .inr hy,q⟩
theorem Vc{ws:List (List Nat)}(h:qY ws):10∉cZ 32 ws:=fun z=>by
 rcases Hq z with q | ⟨w,hw,q⟩
 ·omega
 ·exact(h.2.2 w hw).2.1 q
theorem yV{bw:List (List (List Nat))}(h0:bw≠[])(h:∀ws∈bw,qY ws):Txt.split (Txt.join "\n" (bw.map bh)) "\n" = bw.map bh:=by
 have e:bw.map bh=(bw.map (cZ 32)).map bM:=by rw[List.map_map];exact List.map_congr_left fun ws _=>zZ ws
 rw[Qz,e]
 refine DY (by decide) (by simpa using h0) fun w hw=> ?_
 obtain⟨ws,hs,rfl⟩:=List.mem_map.mp hw
 exact Vc (h ws hs)
theorem LK{c:Nat}{n:Nat}:∀(ws:List (List Nat)),(∀w∈ws,w.length≤n)→(cZ c ws).length≤ws.length*(n+1)
 | [],_=>by simp[cZ]
 | [w],h=>by have:=h w (by simp);simp[cZ];omega
 | w::v::r,h=>by
  have h1:=h w (by simp)
  have h2:=LK (c:=c) (v::r) fun x hx=>h x (by simp at hx ⊢;exact .inr hx)
  simp only[cZ,List.length_append,List.length_cons]at h2 ⊢
  rw[Nat.succ_mul]
  omega
theorem text_len{bw:List (List (List Nat))}(h:∀ws∈bw,qY ws)(hl:bw.length≤300):(Txt.join "\n" (bw.map bh)).length≤306300:=by
 have e:bw.map bh=(bw.map (cZ 32)).map bM:=by rw[List.map_map];exact List.map_congr_left fun ws _=>zZ ws
 rw[Qz,e,vP,fP,bz]
 have:=LK (c:=10) (n:=1020) (bw.map (cZ 32)) fun w hw=>by
  obtain⟨ws,hs,rfl⟩:=List.mem_map.mp hw
  have:=El (h ws hs)
  rw[zZ,fP,bz]at this
  exact this
 rw[List.length_map]at this
 omega
theorem mY{α:Type}{l:List α}{i:Nat}{x:α}{r:List α}(h:l.drop i=x::r):l[i]? = some x∧l.drop (i+1)=r:=by
 constructor
 ·have:(l.drop i)[0]? = some x:=by rw[h];rfl
  rw[List.getElem?_drop]at this
  exact this
 ·rw[←List.drop_drop,h];rfl
section
variable{M:Mem}{r l:Nat}{bw:List (List (List Nat))}{k:Int}{i:Nat}{ws:List (List Nat)}
theorem Ba(R:aY M r l (bw.map bh) k)(hk:k=i+1)(h:bw[i]? = some ws)(hw:qY ws):∃x M1,eY [.ref r] M= .ok (.ref x) M1∧M1[x]? = some (.lst (ts ws))∧Gr M M1:=
 ⟨_,_,Dy R hk (by rw[List.getElem?_map,h];rfl) hw,bf,Gr.app⟩
theorem jH(R:aY M r l (bw.map bh) k)(hk:k=i+1){w:List Nat}(h:bw[i]? = some (w::ws))(hw:qY (w::ws))(b:Str):∃M1,dD [.ref r,.str b] M= .ok (.bl (decide (bM w=b))) M1∧Gr M M1:=
 ⟨_,Tu R hk (by rw[List.getElem?_map,h];rfl) hw b,Gr.app⟩
theorem oG(R:aY M r l (bw.map bh) k)(hk:k=i+1){w:List Nat}(h:bw[i]? = some (w::ws))(hw:qY (w::ws)){b:Str}(hb:bM w=b){n:Int}(hn:n=(ws.length:Int)+1):
  ∃x M1,aU [.ref r,.str b,.int n] M= .ok (.ref x) M1∧M1[x]? = some (.lst (ts (w::ws)))∧Gr M M1:=
 ⟨_,_,KR R hk (by rw[List.getElem?_map,h];rfl) hw hb hn,bf,Gr.app⟩
end
theorem d8{M:Mem}{x:Nat}{ws:List (List Nat)}{k:Int}{j:Nat}{w:List Nat}(h:M[x]? = some (.lst (ts ws)))(hk:k=j)(hw:ws[j]? = some w):bx (.ref x) (.int k) M= .ok (.str (bM w)) M:=
 yt h (by omega) (by subst hk;simp[ts,hw])
theorem JB{v:Int}(h:0≤v):bM (aN v)≠("-" : Str):=fun z=>by
 have e:aN v=[45]:=by
  rw[Fb]at z
  exact Yt (z.trans (show(⟨#[45]⟩:Str)=bM [45]from rfl))
 have hn:¬(v<0):=by omega
 simp only[aN,hn,if_false]at e
 have:=qz v.natAbs 45 (by rw[e];simp)
 omega
theorem ug{M:Mem}{r l:Nat}{B:Bk}{bw:List (List (List Nat))}(h:B.Ok)(h0:bw[0]? = some [W "book",aN B.tm,B.vw])(R:aY M r l (bw.map bh) 1):∃M',gW [.ref r] M= .ok (.tup [.int B.tm,B.vd]) M'∧aY M' r l (bw.map bh) 2∧Ch (· = r) M M':=by
 obtain⟨x,M1,e1,h1,g1⟩:=oG R (i:=0) rfl h0 (We h) (b:= "book") (wk _) (n:=3) rfl
 have R1:=R.gr g1
 have i1:∀M2,Gr M1 M2→bx (.ref x) (.int 1) M2= .ok (.str (bM (aN B.tm))) M2:=fun M2 g=>d8 (g _ _ h1) (j:=1) rfl rfl
 have i2:bx (.ref x) (.int 2) M1= .ok (.str (bM B.vw)) M1:=d8 h1 (j:=2) rfl rfl
 have hv:∃M2,gj [some (.ref r),some (.ref x),some .non,none] M1= .next [some (.ref r),some (.ref x),some B.vd,none] M2∧Gr M1 M2:=by
  unfold Bk.vw at i2
  unfold Bk.vd
  cases e:B.vt with
  | none=>
   rw[e]at i2
   simp only[wk]at i2
   refine⟨M1,?_,Gr.refl⟩
   simp only[gj]
   simp[i2]
  | some v=>
   rw[e]at i2
   simp only at i2
   obtain⟨M2,e2,g2⟩:=YL R1 (h.vt v e).1 (h.vt v e).2
   refine⟨M2,?_,g2⟩
   have:=JB (h.vt v e).1
   simp only[gj]
   simp[i2,this,R1.me (m:= "hand") rfl,e2]
 obtain⟨M2,e2,g2⟩:=hv
 have R2:=R1.gr g2
 obtain⟨M3,e3,g3⟩:=kY R2 h.tm.2 h.tm.1
 have R3:=R2.gr g3
 obtain⟨M4,e4,R4,c4,_⟩:=mL R3
 refine⟨M4,?_,R4,((g1.trans g2).trans g3).ch.trans c4⟩
 simp only[gW,gJ]
 simp[R.me (m:= "words_of") rfl,e1,e2,i1 M2 g2,R2.me (m:= "from_nought") rfl,e3,R3.me (m:= "go_on") rfl,e4]
theorem Jm{M:Mem}{r l:Nat}{B:Bk}(h:B.Ok)(R:aY M r l (B.bw.map bh) 1):∃M',gW [.ref r] M= .ok (.tup [.int B.tm,B.vd]) M'∧aY M' r l (B.bw.map bh) 2∧Ch (· = r) M M':=ug h rfl R
theorem yK{M:Mem}{r l:Nat}{B:Bk}{bw:List (List (List Nat))}(h:B.Ok)(h0:bw[1]? = some [W "base",aN B.b,aN B.bt,aN B.r1,aN B.r2])(R:aY M r l (bw.map bh) 2):∃M',dR [.ref r] M= .ok (.tup [.int B.b,.int B.bt,B.roll]) M'∧aY M' r l (bw.map bh) 3∧Ch (· = r) M M':=by
 obtain⟨x,M1,e1,h1,g1⟩:=oG R (i:=1) rfl h0 (WQ h) (b:= "base") (wk _) (n:=5) rfl
 have R1:=R.gr g1
 obtain⟨M2,e2,g2⟩:=kY R1 h.b.2 h.b.1
 have R2:=R1.gr g2
 obtain⟨M3,e3,g3⟩:=kY R2 h.bt.2 h.bt.1
 have R3:=R2.gr g3
 obtain⟨M4,e4,g4⟩:=Rc R3 h.ro.1 h.ro.2.1 h.ro.2.2.1 h.ro.2.2.2
 have R4:=R3.gr g4
 obtain⟨M5,e5,R5,c5,_⟩:=mL R4
 have i1:bx (.ref x) (.int 1) M1= .ok (.str (bM (aN B.b))) M1:=d8 h1 (j:=1) rfl rfl
 have i2:bx (.ref x) (.int 2) M2= .ok (.str (bM (aN B.bt))) M2:=d8 (g2 _ _ h1) (j:=2) rfl rfl
 have i3:bx (.ref x) (.int 3) M3= .ok (.str (bM (aN B.r1))) M3:=d8 (g3 _ _ (g2 _ _ h1)) (j:=3) rfl rfl
 have i4:bx (.ref x) (.int 4) M3= .ok (.str (bM (aN B.r2))) M3:=d8 (g3 _ _ (g2 _ _ h1)) (j:=4) rfl rfl
 refine⟨M5,?_,R5,(((g1.trans g2).trans g3).trans g4).ch.trans c5⟩
 simp only[dR,dX]
 simp[R.me (m:= "words_of") rfl,e1,i1,R1.me (m:= "from_nought") rfl,e2,i2,R2.me (m:= "from_nought") rfl,e3,i3,i4,R3.me (m:= "both_sets") rfl,e4,R4.me (m:= "go_on") rfl,e5,Bk.roll]
theorem Jp{M:Mem}{r l:Nat}{B:Bk}(h:B.Ok)(R:aY M r l (B.bw.map bh) 2):∃M',dR [.ref r] M= .ok (.tup [.int B.b,.int B.bt,B.roll]) M'∧aY M' r l (B.bw.map bh) 3∧Ch (· = r) M M':=yK h rfl R
theorem zX{M:Mem}{n k:Nat}{ds:List D}{d:D}(hM:M[n]? = some (.lst ds))(hl:ds.length=k+1)(h:ds[k]? = some d):bx (.ref n) (.int (-1)) M= .ok d M:=by
 have e:Gy ds (-1)=ds[k]? := by
  unfold Gy ixN
  rw[if_neg (by decide),if_pos (by omega),hl]
  show ds[(-1+((k+1:Nat):Int)).toNat]? = _
  congr 1
  omega
 exact pU (pU (by simp only[Le,yD,dU hM,e,h]))
theorem yw{α:Type}(l:List α)(h:l≠[]):∃m x,l=m++[x]:=⟨l.dropLast,l.getLast h,(List.dropLast_concat_getLast h).symm⟩
theorem Nt{M:Mem}{r q x:Nat}{hr:Int}{l:Nat}{rows:List Str}{done:List (List Nat×Int)}{p:List Nat×Int}(R:aY M r l rows hr)(hq:M[q]? = some (.lst (done.map wN)))(h0:p.2≠0)(ho:∀a∈done,a.1<p.1):
  iI [some (.ref r),some (.ref q),some (.ref x),some (wN p)] M= .next [some (.ref r),some (.ref q),some (.ref x),some (wN p)] M:=by
 simp only[iI,wN]
 by_cases hd:done=[]
 ·subst hd
  simp[h0,dJ hq]
 ·obtain⟨m,a,rfl⟩:=yw done hd
  have e1:bx (.ref q) (.int (-1)) M= .ok (wN a) M:=zX hq (k:=m.length) (by simp) (by simp)
  have ha:=ho a (by simp)
  have e2:XF (.str (bM p.1)) (.str (bM a.1)) M= .ok (.bl false) M:=by
   rw[ZF]
   simp only[bz]
   rw[decide_eq_true ha];rfl
  have e3:kO [.ref q] M= .ok (.int ((m.length:Int)+1)) M:=by rw[dJ hq];simp
  have h3:(0:Int)<(m.length:Int)+1:=by omega
  simp[h0,e3,h3,e1,wN,e2]
theorem GZ{M:Mem}{r l q i:Nat}{bw:List (List (List Nat))}{done:List (List Nat×Int)}{p:List Nat×Int}{y2 y3:Option D}(R:aY M r l (bw.map bh) ((i:Int)+1))(hw:bw[i]? = some (A_ p))(hp:GC p)
  (hq:M[q]? = some (.lst (done.map wN))) (ho:∀a∈done,a.1<p.1) (hd:done.length<1000) (Fp:q≠r) (hql:q≠l):
  ∃M0 M' x,bO [some (.ref r),some (.ref q),y2,y3] M= .ok true M0∧bN [some (.ref r),some (.ref q),y2,y3] M0= .next [some (.ref r),some (.ref q),some (.ref x),some (wN p)] M'∧
   aY M' r l (bw.map bh) ((i:Int)+1+1)∧M'[q]? = some (.lst ((done++[p]).map wN))∧Ch (fun j=>j=r∨j=q) M M':=by
 obtain⟨M0,e0,g0⟩:=jH R rfl hw (Nu hp) "value"
 have R0:=R.gr g0
 obtain⟨x,M1,e1,h1,g1⟩:=oG R0 rfl hw (Nu hp) (b:= "value") (wk _) (n:=3) rfl
 have R1:=R0.gr g1
 obtain⟨M2,e2,g2⟩:=QB R1 hp.1 (QC hp.1)
 have R2:=R1.gr g2
 obtain⟨M3,e3,g3⟩:=uy R2 hp.2.1
 have R3:=R2.gr g3
 have q3:=g3 _ _ (g2 _ _ (g1 _ _ (g0 _ _ hq)))
 have i1:bx (.ref x) (.int 1) M1= .ok (.str (bM p.1)) M1:=d8 h1 (j:=1) rfl rfl
 have i2:bx (.ref x) (.int 2) M2= .ok (.str (bM (aN p.2))) M2:=d8 (g2 _ _ h1) (j:=2) rfl rfl
 have ck:=Nt (x:=x) R3 q3 hp.2.2 ho
 have e4:=gq (d:=wN p) q3 (by rw[List.length_map];omega)
 obtain⟨M4,wW⟩:∃M4,M4=M3.set q (.lst (done.map wN++[wN p])):=⟨_,rfl⟩
 have q4:M4[q]? = some (.lst ((done++[p]).map wN)):=by rw[wW,get_set q3];simp
 have c4:Ch (fun j=>j=r∨j=q) M3 M4:=by rw[wW];exact Ch.set (.inr rfl)
 have R4:aY M4 r l (bw.map bh) ((i:Int)+1):=by
  have c:Ch (· = q) M3 M4:=by rw[wW];exact Ch.set rfl
  exact R3.ch c (Ne.symm Fp) (Ne.symm hql)
 obtain⟨M5,e5,R5,c5,_⟩:=mL R4
 refine⟨M0,M5,x,?_,?_,R5,c5.2 _ _ Fp q4,(((g0.trans g1).trans g2).trans g3).ch.trans (c4.trans (c5.mono fun j _ z=> .inl z))⟩
 ·simp only[bO]
  simp[R.me (m:= "begins") rfl,e0]
 ·simp only[bN]
  rw[←wW]at e4
  simp only[wN]at ck e4 ⊢
  simp[R0.me (m:= "words_of") rfl,e1,i1,R1.me (m:= "name") rfl,e2,i2,R2.me (m:= "whole") rfl,e3,ck,iJ q3,e4,R4.me (m:= "go_on") rfl,e5]
theorem Rr{M:Mem}{r l i:Nat}{bw:List (List (List Nat))}{w:List Nat}{tl:List (List Nat)}{y1 y2 y3:Option D}(R:aY M r l (bw.map bh) ((i:Int)+1))(hw:bw[i]? = some (w::tl))(hp:qY (w::tl))(hn:bM w≠ "value"):
  ∃M',bO [some (.ref r),y1,y2,y3] M= .ok false M'∧Gr M M':=by
 obtain⟨M0,e0,g0⟩:=jH R rfl hw hp "value"
 refine⟨M0,?_,g0⟩
 simp only[bO]
 simp[R.me (m:= "begins") rfl,e0,hn]
theorem G4{r l q:Nat}{bw more:List (List (List Nat))}{w:List Nat}{tl:List (List Nat)}(Fp:q≠r)(hql:q≠l)(hp:qY (w::tl))(hn:bM w≠ "value"):∀(rest done:List (List Nat×Int)) (i:Nat) (M:Mem) (y2 y3:Option D),
  aY M r l (bw.map bh) ((i:Int)+1)→M[q]? = some (.lst (done.map wN))→bw.drop i=rest.map A_++(w::tl)::more→(∀p∈rest,GC p)→(done++rest).Pairwise (fun p q=>p.1<q.1)→(done++rest).length<1000→
  ∃M' y2' y3',vg bO bN (rest.length+1) [some (.ref r),some (.ref q),y2,y3] M= .next [some (.ref r),some (.ref q),y2',y3'] M'∧aY M' r l (bw.map bh) ((i:Int)+rest.length+1)∧M'[q]? = some (.lst ((done++rest).map wN))∧Ch (fun j=>j=r∨j=q) M M'
 | [],done,i,M,y2,y3,R,hq,hd,_,_,_=>by
  obtain⟨hw,_⟩:=mY (by simpa using hd)
  obtain⟨M0,e0,g0⟩:=Rr (y1:=some (.ref q)) (y2:=y2) (y3:=y3) R hw hp hn
  refine⟨M0,y2,y3,?_,by simpa using R.gr g0,by simpa using g0 _ _ hq,g0.ch⟩
  unfold vg
  rw[e0]
 | p::rest,done,i,M,y2,y3,R,hq,hd,ho,hs,hl=>by
  obtain⟨hw,hd'⟩:=mY (show bw.drop i=A_ p::(rest.map A_++(w::tl)::more) by simpa using hd)
  have hlt:∀a∈done,a.1<p.1:=fun a ha=>(List.pairwise_append.mp hs).2.2 a ha p (by simp)
  obtain⟨M0,M1,x,e0,e1,R1,q1,c1⟩:=GZ (y2:=y2) (y3:=y3) R hw (ho p (by simp)) hq hlt (by simp at hl;omega) Fp hql
  obtain⟨M2,z2,z3,e2,R2,q2,c2⟩:=G4 Fp hql hp hn rest (done++[p]) (i+1) M1 (some (.ref x)) (some (wN p)) (by simpa using R1) q1 hd' (fun a ha=>ho a (by simp[ha])) (by simpa using hs) (by simpa using hl)
  refine⟨M2,z2,z3,?_,?_,by simpa using q2,c1.trans c2⟩
  ·show vg _ _ (rest.length+1+1) _ _=_
   rw[vg,e0]
   simp only[e1]
   exact e2
  ·have e:((i+1:Nat):Int)+rest.length+1=(i:Int)+((p::rest).length:Nat)+1:=by simp;omega
   rw[←e];exact R2
theorem rR{M:Mem}{r l i:Nat}{bw more:List (List (List Nat))}{w:List Nat}{tl:List (List Nat)}{vs:List (List Nat×Int)}(R:aY M r l (bw.map bh) ((i:Int)+1))(hd:bw.drop i=vs.map A_++(w::tl)::more)(hp:qY (w::tl))(hn:bM w≠ "value")
  (hv:∀p∈vs,GC p) (ho:vs.Pairwise fun p q=>p.1<q.1) (hl:vs.length<1000):∃M',dj [.ref r] M= .ok (.tup (vs.map wN)) M'∧aY M' r l (bw.map bh) ((i:Int)+vs.length+1)∧Ch (· = r) M M':=by
 have R0:aY (M++[.lst []]) r l (bw.map bh) ((i:Int)+1):=R.gr Gr.app
 have hr:=gZ R.o
 have hll:=gZ R.k
 obtain⟨M',y2,y3,e,R',q',c⟩:=G4 (q:=M.length) (by omega) (by omega) hp hn vs [] i (M++[.lst []]) none none R0 (by simp) hd hv (by simpa using ho) (by simpa using hl)
 refine⟨M',?_,R',⟨Nat.le_trans (by simp) c.1,fun j o nj h=>c.2 j o (fun z=>by have:=gZ h;rcases z with z | z<;>omega) (Gr.app _ _ h)⟩⟩
 simp only[dj,dY,jL]
 have ew:=jY e (fun z=>nomatch z)
 simp[ew,jc q']
theorem Z3{α:Type}{x:α}{xs:List α}:cut (x::xs) (some 1) none=xs:=by
 have e1:HT.bx (x::xs).length 0 (some 1)=1:=by simp[HT.bx]
 have e2:HT.bx (x::xs).length (x::xs).length none=(x::xs).length:=rfl
 unfold cut
 rw[e1,e2]
 simp
theorem Q8{α:Type}{x y:α}{xs:List α}:cut (x::y::xs) (some 2) none=xs:=by
 have e1:HT.bx (x::y::xs).length 0 (some 2)=2:=by simp[HT.bx]
 have e2:HT.bx (x::y::xs).length (x::y::xs).length none=(x::y::xs).length:=rfl
 unfold cut
 rw[e1,e2]
 simp
theorem Z2{α:Type}{x y z:α}{xs:List α}:cut (x::y::z::xs) (some 3) none=xs:=by
 have e1:HT.bx (x::y::z::xs).length 0 (some 3)=3:=by simp[HT.bx]
 have e2:HT.bx (x::y::z::xs).length (x::y::z::xs).length none=(x::y::z::xs).length:=rfl
 unfold cut
 rw[e1,e2]
 simp
theorem NT{a b c:D}{M:Mem}:Ge (.tup [a,b,c]) none (some 2) M= .ok (.tup [a,b]) M:=by rfl
theorem Hg{M:Mem}{r l y:Nat}{rows:List Str}{k:Int}(R:aY M r l rows k)(ns:List Int)(hn:∀n∈ns,Sm n)(hy:M[y]? = some (.lst (ts (ns.map aN)))):
  ∃x M',oE (some (y,ts (ns.map aN))) oV (cL 3 "whole" aZ 2 [] (az 1) (aq (az 0) aH)) [some (.ref r)] (ts (ns.map aN)) [] M= .ok (.ref x) M'∧M'[x]? = some (.lst (ns.map D.int))∧Gr M M':=by
 have hlen:(ts (ns.map aN)).length=ns.length:=by simp[ts]
 obtain⟨ys,M',e,hy',g⟩:=HJ (src:=some (y,ts (ns.map aN))) (tt:=oV) (te:=cL 3 "whole" aZ 2 [] (az 1) (aq (az 0) aH)) (ce:=[some (.ref r)])
  (fun i ys M'=>ys=(ns.take i).map D.int∧Gr M M') (ts (ns.map aN)) 0 (ys:=[]) (M:=M) ⟨by simp,Gr.refl⟩
  (fun i ys M' _ _ h=>dU (h.2 _ _ hy)) (fun i d ys M2 hd h=>by
   obtain⟨h1,h2⟩:=h
   rw[Nat.zero_add]at h1 ⊢
   simp only[ts,List.map_map,List.getElem?_map]at hd
   obtain⟨n,hi,rfl⟩:=Option.map_eq_some_iff.mp hd
   obtain⟨M3,e3,g3⟩:=uy (R.gr h2) (hn n (List.mem_of_getElem? hi))
   refine⟨true,M2,rfl,.inr ⟨rfl,.int n,M3,?_,?_,h2.trans g3⟩⟩
   ·simp[(R.gr h2).me (m:= "whole") rfl,e3]
   ·rw[h1,List.take_add_one,hi];simp)
 refine⟨_,_,e,?_,g.trans Gr.app⟩
 rw[bf,hy',Nat.zero_add,hlen,List.take_length]
theorem abo{a b:(Int×Int)×Int}(h:Ks a b):W7.LC [b.1.1,b.1.2] [a.1.1,a.1.2]=false:=by
 simp only[W7.LC]
 rcases h with h | ⟨h1,h2⟩
 ·rw[if_neg (by omega)];exact decide_eq_false (by omega)
 ·rw[if_pos h1.symm,if_neg (by omega)];exact decide_eq_false (by omega)
theorem Tv{M:Mem}{r q x:Nat}{hr:Int}{l:Nat}{rows:List Str}{done:List ((Int×Int)×Int)}{p:(Int×Int)×Int}(R:aY M r l rows hr)(hq:M[q]? = some (.lst (done.map wR)))(ho:∀a∈done,Ks a p):
  g_ [some (.ref r),some (.ref q),some (.ref x),some (wR p)] M= .next [some (.ref r),some (.ref q),some (.ref x),some (wR p)] M:=by
 simp only[g_,wR]
 by_cases hd:done=[]
 ·subst hd
  simp[dJ hq]
 ·obtain⟨m,a,rfl⟩:=yw done hd
  have e1:bx (.ref q) (.int (-1)) M= .ok (wR a) M:=zX hq (k:=m.length) (by simp) (by simp)
  have e2:XF (.tup [.int p.1.1,.int p.1.2]) (.tup [.int a.1.1,.int a.1.2]) M= .ok (.bl false) M:=by
   rw[ZD (is:=[p.1.1,p.1.2]) (js:=[a.1.1,a.1.2]) rfl rfl,abo (ho a (by simp))]
  have e3:kO [.ref q] M= .ok (.int ((m.length:Int)+1)) M:=by rw[dJ hq];simp
  have h3:(0:Int)<(m.length:Int)+1:=by omega
  simp[e3,h3,e1,wR,NT,e2]
theorem Mz{M:Mem}{r l q i:Nat}{bw:List (List (List Nat))}{done:List ((Int×Int)×Int)}{p:(Int×Int)×Int}{y2 y3:Option D}(R:aY M r l (bw.map bh) ((i:Int)+1))(hw:bw[i]? = some (zG p))(hp:Gd p)
  (hq:M[q]? = some (.lst (done.map wR))) (ho:∀a∈done,Ks a p) (hd:done.length<1000) (Fp:q≠r) (hql:q≠l):
  ∃M0 M' x,cB [some (.ref r),some (.ref q),y2,y3] M= .ok true M0∧bW [some (.ref r),some (.ref q),y2,y3] M0= .next [some (.ref r),some (.ref q),some (.ref x),some (wR p)] M'∧
   aY M' r l (bw.map bh) ((i:Int)+1+1)∧M'[q]? = some (.lst ((done++[p]).map wR))∧Ch (fun j=>j=r∨j=q) M M':=by
 obtain⟨M0,e0,g0⟩:=jH R rfl hw (FT hp) "answer"
 have R0:=R.gr g0
 obtain⟨x,M1,e1,h1,g1⟩:=oG R0 rfl hw (FT hp) (b:= "answer") (wk _) (n:=4) rfl
 have R1:=R0.gr g1
 have s1:Ge (.ref x) (some 1) none M1= .ok (.ref M1.length) (M1++[.lst (ts ([p.1.1,p.1.2,p.2].map aN))]):=by
  rw[tR h1]
  have:cut (ts (zG p)) (some 1) none=ts ([p.1.1,p.1.2,p.2].map aN):=Z3
  rw[←this];rfl
 obtain⟨M2,BW⟩:∃M2,M2=M1++[MO.lst (ts ([p.1.1,p.1.2,p.2].map aN))]:=⟨_,rfl⟩
 have h2:M2[M1.length]? = some (.lst (ts ([p.1.1,p.1.2,p.2].map aN))):=by rw[BW];exact bf
 have g2:Gr M1 M2:=by rw[BW];exact Gr.app
 rw[←BW]at s1
 have R2:=R1.gr g2
 obtain⟨z,M3,e3,h3,g3⟩:=Hg R2 [p.1.1,p.1.2,p.2] (by
  intro n hn
  simp at hn
  rcases hn with rfl | rfl | rfl
  ·exact hp.1
  ·exact hp.2.1
  ·exact hp.2.2) h2
 have R3:=R2.gr g3
 have e3':oN [.ref z] M3= .ok (wR p) M3:=jc h3
 have q3:=g3 _ _ (g2 _ _ (g1 _ _ (g0 _ _ hq)))
 have ck:=Tv (x:=x) R3 q3 ho
 have e4:=gq (d:=wR p) q3 (by rw[List.length_map];omega)
 obtain⟨M4,wW⟩:∃M4,M4=M3.set q (.lst (done.map wR++[wR p])):=⟨_,rfl⟩
 have q4:M4[q]? = some (.lst ((done++[p]).map wR)):=by rw[wW,get_set q3];simp
 have c4:Ch (fun j=>j=r∨j=q) M3 M4:=by rw[wW];exact Ch.set (.inr rfl)
 have R4:aY M4 r l (bw.map bh) ((i:Int)+1):=by
  have c:Ch (· = q) M3 M4:=by rw[wW];exact Ch.set rfl
  exact R3.ch c (Ne.symm Fp) (Ne.symm hql)
 obtain⟨M5,e5,R5,c5,_⟩:=mL R4
 refine⟨M0,M5,x,?_,?_,R5,c5.2 _ _ Fp q4,(((g0.trans g1).trans g2).trans g3).ch.trans (c4.trans (c5.mono fun j _ z=> .inl z))⟩
 ·simp only[cB]
  simp[R.me (m:= "begins") rfl,e0]
 ·simp only[bW]
  rw[←wW]at e4
  have ec:o8 [0] [some (D.ref r),some (.ref q),some (.ref x),y3]=[some (.ref r)]:=rfl
  simp[R0.me (m:= "words_of") rfl,e1,s1,mK h2,ec]
  simp at e3
  simp[e3,e3',ck,iJ q3,e4,R4.me (m:= "go_on") rfl,e5]
theorem W3{M:Mem}{r l i:Nat}{bw:List (List (List Nat))}{w:List Nat}{tl:List (List Nat)}{y1 y2 y3:Option D}(R:aY M r l (bw.map bh) ((i:Int)+1))(hw:bw[i]? = some (w::tl))(hp:qY (w::tl))(hn:bM w≠ "answer"):
  ∃M',cB [some (.ref r),y1,y2,y3] M= .ok false M'∧Gr M M':=by
 obtain⟨M0,e0,g0⟩:=jH R rfl hw hp "answer"
 refine⟨M0,?_,g0⟩
 simp only[cB]
 simp[R.me (m:= "begins") rfl,e0,hn]
theorem MF{r l q:Nat}{bw more:List (List (List Nat))}{w:List Nat}{tl:List (List Nat)}(Fp:q≠r)(hql:q≠l)(hp:qY (w::tl))(hn:bM w≠ "answer"):∀(rest done:List ((Int×Int)×Int)) (i:Nat) (M:Mem) (y2 y3:Option D),
  aY M r l (bw.map bh) ((i:Int)+1)→M[q]? = some (.lst (done.map wR))→bw.drop i=rest.map zG++(w::tl)::more→(∀p∈rest,Gd p)→(done++rest).Pairwise Ks→(done++rest).length<1000→
  ∃M' y2' y3',vg cB bW (rest.length+1) [some (.ref r),some (.ref q),y2,y3] M= .next [some (.ref r),some (.ref q),y2',y3'] M'∧aY M' r l (bw.map bh) ((i:Int)+rest.length+1)∧M'[q]? = some (.lst ((done++rest).map wR))∧Ch (fun j=>j=r∨j=q) M M'
 | [],done,i,M,y2,y3,R,hq,hd,_,_,_=>by
  obtain⟨hw,_⟩:=mY (by simpa using hd)
  obtain⟨M0,e0,g0⟩:=W3 (y1:=some (.ref q)) (y2:=y2) (y3:=y3) R hw hp hn
  refine⟨M0,y2,y3,?_,by simpa using R.gr g0,by simpa using g0 _ _ hq,g0.ch⟩
  unfold vg
  rw[e0]
 | p::rest,done,i,M,y2,y3,R,hq,hd,ho,hs,hl=>by
  obtain⟨hw,hd'⟩:=mY (show bw.drop i=zG p::(rest.map zG++(w::tl)::more) by simpa using hd)
  have hlt:∀a∈done,Ks a p:=fun a ha=>(List.pairwise_append.mp hs).2.2 a ha p (by simp)
  obtain⟨M0,M1,x,e0,e1,R1,q1,c1⟩:=Mz (y2:=y2) (y3:=y3) R hw (ho p (by simp)) hq hlt (by simp at hl;omega) Fp hql
  obtain⟨M2,z2,z3,e2,R2,q2,c2⟩:=MF Fp hql hp hn rest (done++[p]) (i+1) M1 (some (.ref x)) (some (wR p)) (by simpa using R1) q1 hd' (fun a ha=>ho a (by simp[ha])) (by simpa using hs) (by simpa using hl)
  refine⟨M2,z2,z3,?_,?_,by simpa using q2,c1.trans c2⟩
  ·show vg _ _ (rest.length+1+1) _ _=_
   rw[vg,e0]
   simp only[e1]
   exact e2
  ·have e:((i+1:Nat):Int)+rest.length+1=(i:Int)+((p::rest).length:Nat)+1:=by simp;omega
   rw[←e];exact R2
theorem wg{M:Mem}{r l i:Nat}{bw more:List (List (List Nat))}{w:List Nat}{tl:List (List Nat)}{as:List ((Int×Int)×Int)}(R:aY M r l (bw.map bh) ((i:Int)+1))(hd:bw.drop i=as.map zG++(w::tl)::more)(hp:qY (w::tl))(hn:bM w≠ "answer")
  (hv:∀p∈as,Gd p) (ho:as.Pairwise Ks) (hl:as.length<1000):∃M',eX [.ref r] M= .ok (.tup (as.map wR)) M'∧aY M' r l (bw.map bh) ((i:Int)+as.length+1)∧Ch (· = r) M M':=by
 have R0:aY (M++[.lst []]) r l (bw.map bh) ((i:Int)+1):=R.gr Gr.app
 have hr:=gZ R.o
 have hll:=gZ R.k
 obtain⟨M',y2,y3,e,R',q',c⟩:=MF (q:=M.length) (by omega) (by omega) hp hn as [] i (M++[.lst []]) none none R0 (by simp) hd hv (by simpa using ho) (by simpa using hl)
 refine⟨M',?_,R',⟨Nat.le_trans (by simp) c.1,fun j o nj h=>c.2 j o (fun z=>by have:=gZ h;rcases z with z | z<;>omega) (Gr.app _ _ h)⟩⟩
 simp only[eX,fj,lR]
 have ew:=jY e (fun z=>nomatch z)
 simp[ew,jc q']
def Dat(k:Nat)(d:D):Prop:=∃t,∀M:Mem,jM M k d=some t
theorem yC{k:Nat}{i:Str}:Dat (k+1) (.str i):=⟨_,fun _=>rfl⟩
theorem Ao{k:Nat}{ds:List D}(h:∀d∈ds,Dat k d):∃ts,∀M:Mem,tM (jM M k) ds=some ts:=by
 induction ds with
 | nil=>exact⟨[],fun M=>rfl⟩
 | cons d r ih=>
  obtain⟨ts,q⟩:=ih fun x hx=>h x (List.mem_cons_of_mem _ hx)
  obtain⟨t,q2⟩:=h d List.mem_cons_self
  exact⟨t::ts,fun M=>by simp only[tM,q2 M,q M]⟩
theorem Te{M:Mem}{n m:Nat}{ds:List D}(h:∀d∈ds,Dat 11 d)(h1:M[n]? = some (.lst ds))(h2:M[m]? = some (.lst ds)):Q5 M (.ref n) (.ref m)=some true:=by
 obtain⟨ts,q⟩:=Ao h
 have e:∀{n:Nat},M[n]? = some (.lst ds)→jM M 12 (.ref n)=some (.lst ts):=fun{n} h=>by
  show(match tX M n with | some ds=>(tM (jM M 11) ds).map Dt.lst | none=>none)=_
  rw[dU h]
  show(tM (jM M 11) ds).map Dt.lst=_
  rw[q M]
  rfl
 rw[BX (e h1) (e h2),Fx]
theorem mH{xs ys:List D}{M:Mem}(h:xs≠[])(hl:xs.length+ys.length≤16777216):j0 (.tup xs) (.tup ys) M= .ok (.tup (xs++ys)) M:=by
 refine(uC (uC rfl)).trans ((uC rfl).trans ?_)
 simp only[Qm]
 rw[if_pos ⟨by cases xs with | nil=>exact absurd rfl h | cons _ _=>rfl,by rw[pZ];exact hl⟩]
theorem O7{M:Mem}{n m:Nat}{ds es:List D}(h1:M[n]? = some (.lst ds))(h2:M[m]? = some (.lst es))(d1:∀d∈ds,Dat 11 d)(d2:∀d∈es,Dat 11 d)(hl:ds.length≠es.length):Q5 M (.ref n) (.ref m)=some false:=by
 obtain⟨ts,q⟩:=Ao d1
 obtain⟨us,q'⟩:=Ao d2
 have e:∀{n:Nat} {ds:List D} {ts:List Dt},(∀M:Mem,tM (jM M 11) ds=some ts)→M[n]? = some (.lst ds)→jM M 12 (.ref n)=some (.lst ts):=fun{n ds ts} q h=>by
  show(match tX M n with | some ds=>(tM (jM M 11) ds).map Dt.lst | none=>none)=_
  rw[dU h]
  show(tM (jM M 11) ds).map Dt.lst=_
  rw[q M]
  rfl
 have len:∀{ds:List D} {ts:List Dt},tM (jM M 11) ds=some ts→ts.length=ds.length:=by
  intro ds
  induction ds with
  | nil=>intro ts h;cases h;rfl
  | cons d r ih=>
   intro ts h
   simp only[tM]at h
   split at h
   ·rename_i t u _ hr
    cases h
    simp[ih hr]
   ·cases h
 rw[BX (e q h1) (e q' h2)]
 have l1:=len (q M)
 have l2:=len (q' M)
 have:yH ts us=false:=qC (by omega)
 simp only[cF,this]
theorem Iw(ws:List (List Nat)):∀d∈ts ws,Dat 11 d:=fun d hd=>by
 obtain⟨w,_,rfl⟩:=List.mem_map.mp hd
 exact yC
theorem Xl:wO "put" [("put",3),("add",3),("swap",4)]= .int 3:=by simp[wO]
theorem Xn:wO "add" [("put",3),("add",3),("swap",4)]= .int 3:=by
 have:¬(("add" : Str)= "put"):=by decide
 simp[wO,this]
theorem Uk:wO "swap" [("put",3),("add",3),("swap",4)]= .int 4:=by
 have h1:¬(("swap" : Str)= "put"):=by decide
 have h2:¬(("swap" : Str)= "add"):=by decide
 simp[wO,h1,h2]
def Od.k:Od→Str
 | .put _ _=> "put" | .add _ _=> "add" | .swap _ _ _=> "swap"
def Od.s:Od→List Nat
 | .put s _=>s | .add s _=>s | .swap s _ _=>s
def Od.ns:Od→List Int
 | .put _ n=>[n] | .add _ n=>[n] | .swap _ a n=>[a,n]
theorem Od.w_eq(o:Od):o.w=W o.k::o.s::o.ns.map aN:=by cases o<;>rfl
theorem Od.agg(o:Od):o.d= .tup ([.str o.k,.str (bM o.s)]++o.ns.map D.int):=by cases o<;>rfl
theorem Od.tab(o:Od):wO o.k [("put",3),("add",3),("swap",4)]= .int ((o.ns.length:Int)+2):=by
 cases o with
 | put=>exact Xl
 | add=>exact Xn
 | swap=>exact Uk
theorem Od.nOk{o:Od}(h:o.Ok):pI o.s=true∧∀n∈o.ns,Sm n:=by
 cases o with
 | put s n=>exact⟨h.1,fun m hm=>by simp[Od.ns]at hm;subst hm;exact h.2⟩
 | add s n=>exact⟨h.1,fun m hm=>by simp[Od.ns]at hm;subst hm;exact h.2⟩
 | swap s a n=>exact⟨h.1,fun m hm=>by
   simp[Od.ns]at hm
   rcases hm with rfl | rfl
   ·exact h.2.1
   ·exact h.2.2⟩
theorem Gp{M:Mem}{r l y:Nat}{rows:List Str}{k:Int}(R:aY M r l rows k){o:Od}(ho:o.Ok)(hy:M[y]? = some (.lst (ts o.w))):∃M',gb [.ref r,.ref y] M= .ok o.d M'∧Gr M M':=by
 obtain⟨hs,hn⟩:=Od.nOk ho
 rw[Od.w_eq]at hy
 have i0:bx (.ref y) (.int 0) M= .ok (.str o.k) M:=by have:=d8 (k:=0) hy (j:=0) rfl rfl;simpa using this
 have ln:kO [.ref y] M= .ok (.int ((o.ns.length:Int)+2)) M:=by rw[dJ hy];simp[ts];omega
 have s2:Ge (.ref y) (some 2) none M= .ok (.ref M.length) (M++[.lst (ts (o.ns.map aN))]):=by
  rw[tR hy]
  have:cut (ts (W o.k::o.s::o.ns.map aN)) (some 2) none=ts (o.ns.map aN):=Q8
  rw[this]
 obtain⟨M1,yF⟩:∃M1,M1=M++[MO.lst (ts (o.ns.map aN))]:=⟨_,rfl⟩
 have h1:M1[M.length]? = some (.lst (ts (o.ns.map aN))):=by rw[yF];exact bf
 have g1:Gr M M1:=by rw[yF];exact Gr.app
 rw[←yF]at s2
 obtain⟨z,M2,e2,h2,g2⟩:=Hg (R.gr g1) o.ns hn h1
 have R2:=(R.gr g1).gr g2
 have i0':bx (.ref y) (.int 0) M2= .ok (.str o.k) M2:=by have:=d8 (k:=0) (g2 _ _ (g1 _ _ hy)) (j:=0) rfl rfl;simpa using this
 have i1:bx (.ref y) (.int 1) M2= .ok (.str (bM o.s)) M2:=d8 (g2 _ _ (g1 _ _ hy)) (j:=1) rfl rfl
 obtain⟨M3,e3,g3⟩:=QB R2 hs (QC hs)
 have e4:oN [.ref z] M3= .ok (.tup (o.ns.map D.int)) M3:=jc (g3 _ _ h2)
 have hnl:o.ns.length≤2:=by cases o<;>simp[Od.ns]
 have e5:j0 (.tup [.str o.k,.str (bM o.s)]) (.tup (o.ns.map D.int)) M3= .ok o.d M3:=by
  rw[mH (by simp) (by simp;omega),Od.agg]
 refine⟨M3,?_,(g1.trans g2).trans g3⟩
 simp only[gb,e_,jj]
 have ec:o8 [0] [some (D.ref r),some (.ref y),none]=[some (.ref r)]:=rfl
 simp[i0,Od.tab,ln,s2,mK h1,ec,e2,i0',i1,R2.me (m:= "name") rfl,e3,e4,e5]
theorem Jl{M:Mem}{r l y:Nat}{rows:List Str}{k:Int}(R:aY M r l rows k){x:Wt}(hx:x.Ok)(hy:M[y]? = some (.lst (ts x.w))):∃M',bV [.ref r,.ref y] M= .ok x.d M'∧Gr M M':=by
 obtain⟨M1,yF⟩:∃M1,M1=M++[MO.lst [D.str "start"]]:=⟨_,rfl⟩
 have h1:M1[M.length]? = some (.lst [D.str "start"]):=by rw[yF];exact bf
 have g1:Gr M M1:=by rw[yF];exact Gr.app
 have y1:=g1 _ _ hy
 have R1:=R.gr g1
 cases x with
 | start=>
  refine⟨M1,?_,g1⟩
  have hy':M1[y]? = some (.lst [D.str "start"]):=by simpa[ts,Wt.w]using y1
  have e:sEq (.ref y) (.ref M.length) M1= .ok (.bl true) M1:=zf (Te (ds:=[D.str "start"]) (fun d hd=>by simp at hd;subst hd;exact yC) hy' h1)
  simp only[bV,bR,bZ]
  simp[←yF,e,Wt.d]
 | roll a b=>
  have e:sEq (.ref y) (.ref M.length) M1= .ok (.bl false) M1:=zf (O7 y1 h1 (Iw _) (fun d hd=>by simp at hd;subst hd;exact yC) (by simp[ts,Wt.w]))
  have ln:kO [.ref y] M1= .ok (.int 3) M1:=by rw[dJ y1];simp[ts,Wt.w]
  have i0:bx (.ref y) (.int 0) M1= .ok (.str "roll") M1:=by have:=d8 (k:=0) y1 (j:=0) rfl rfl;simpa using this
  have i1:bx (.ref y) (.int 1) M1= .ok (.str (bM (aN a))) M1:=d8 y1 (j:=1) rfl rfl
  have i2:bx (.ref y) (.int 2) M1= .ok (.str (bM (aN b))) M1:=d8 y1 (j:=2) rfl rfl
  obtain⟨M2,e2,g2⟩:=Rc R1 hx.1 hx.2.1 hx.2.2.1 hx.2.2.2
  refine⟨M2,?_,g1.trans g2⟩
  have e3:j0 (.tup [.str "roll"]) (.tup [.int a,.int b]) M2= .ok (Wt.roll a b).d M2:=mH (by simp) (by simp)
  simp only[bV,bR,bZ,cR]
  simp[←yF,e,ln,i0,i1,i2,R1.me (m:= "both_sets") rfl,e2,e3]
 | ask a n o=>
  have hl:(ts (Wt.ask a n o).w).length=o.w.length+3:=by simp[ts,Wt.w]
  have ho:3≤o.w.length:=by rw[Od.w_eq];cases o<;>simp[Od.ns]
  have e:sEq (.ref y) (.ref M.length) M1= .ok (.bl false) M1:=zf (O7 y1 h1 (Iw _) (fun d hd=>by simp at hd;subst hd;exact yC) (by rw[hl];simp))
  have ln:kO [.ref y] M1= .ok (.int ((o.w.length:Int)+3)) M1:=by rw[dJ y1,hl];simp
  have n3:¬((o.w.length:Int)+3=3):=by omega
  have n4:(3:Int)<(o.w.length:Int)+3:=by omega
  have i0:bx (.ref y) (.int 0) M1= .ok (.str "ask") M1:=by have:=d8 (k:=0) y1 (j:=0) rfl rfl;simpa using this
  have i1:bx (.ref y) (.int 1) M1= .ok (.str (bM (aN a))) M1:=d8 y1 (j:=1) rfl rfl
  obtain⟨M2,e2,g2⟩:=uy R1 hx.1
  have R2:=R1.gr g2
  have i2:bx (.ref y) (.int 2) M2= .ok (.str (bM (aN n))) M2:=d8 (g2 _ _ y1) (j:=2) rfl rfl
  obtain⟨M3,e3,g3⟩:=uy R2 hx.2.1
  have R3:=R2.gr g3
  have s3:Ge (.ref y) (some 3) none M3= .ok (.ref M3.length) (M3++[.lst (ts o.w)]):=by
   rw[tR (g3 _ _ (g2 _ _ y1))]
   have:cut (ts (Wt.ask a n o).w) (some 3) none=ts o.w:=Z2
   rw[this]
  obtain⟨M4,wW⟩:∃M4,M4=M3++[MO.lst (ts o.w)]:=⟨_,rfl⟩
  have h4:M4[M3.length]? = some (.lst (ts o.w)):=by rw[wW];exact bf
  have g4:Gr M3 M4:=by rw[wW];exact Gr.app
  rw[←wW]at s3
  obtain⟨M5,e5,g5⟩:=Gp (R3.gr g4) hx.2.2 h4
  refine⟨M5,?_,(((g1.trans g2).trans g3).trans g4).trans g5⟩
  simp only[bV,bR,bZ,cR,gh]
  simp[←yF,e,ln,n3,n4,i0,i1,i2,R1.me (m:= "whole") rfl,e2,R2.me (m:= "whole") rfl,e3,s3,e5,Wt.d]
theorem Mh{M:Mem}{r l q i:Nat}{bw:List (List (List Nat))}{done:List (Int×Wt)}{p:Int×Wt}{y2 y3:Option D}(R:aY M r l (bw.map bh) ((i:Int)+1))(hw:bw[i]? = some (zx p))(hp:Ay p)
  (hq:M[q]? = some (.lst (done.map Gf))) (hd:done.length<1000) (Fp:q≠r) (hql:q≠l):
  ∃M0 M' x,cA [some (.ref r),some (.ref q),y2,y3] M= .ok true M0∧cz [some (.ref r),some (.ref q),y2,y3] M0= .next [some (.ref r),some (.ref q),some (.ref x),some p.2.d] M'∧
   aY M' r l (bw.map bh) ((i:Int)+1+1)∧M'[q]? = some (.lst ((done++[p]).map Gf))∧Ch (fun j=>j=r∨j=q) M M':=by
 obtain⟨M0,e0,g0⟩:=jH R rfl hw (zu hp) "at"
 have R0:=R.gr g0
 obtain⟨x,M1,e1,h1,g1⟩:=Ba R0 rfl hw (zu hp)
 have R1:=R0.gr g1
 have s1:Ge (.ref x) (some 2) none M1= .ok (.ref M1.length) (M1++[.lst (ts p.2.w)]):=by
  rw[tR h1]
  have:cut (ts (zx p)) (some 2) none=ts p.2.w:=Q8
  rw[this]
 obtain⟨M2,BW⟩:∃M2,M2=M1++[MO.lst (ts p.2.w)]:=⟨_,rfl⟩
 have h2:M2[M1.length]? = some (.lst (ts p.2.w)):=by rw[BW];exact bf
 have g2:Gr M1 M2:=by rw[BW];exact Gr.app
 rw[←BW]at s1
 have R2:=R1.gr g2
 obtain⟨M3,e3,g3⟩:=Jl R2 hp.2.2 h2
 have R3:=R2.gr g3
 have i1:bx (.ref x) (.int 1) M3= .ok (.str (bM (aN p.1))) M3:=d8 (g3 _ _ (g2 _ _ h1)) (j:=1) rfl rfl
 obtain⟨M4,e4,g4⟩:=kY R3 hp.2.1 hp.1
 have R4:=R3.gr g4
 have q4:=g4 _ _ (g3 _ _ (g2 _ _ (g1 _ _ (g0 _ _ hq))))
 have e5:=gq (d:=Gf p) q4 (by rw[List.length_map];omega)
 have t4:Di "list" (.ref q) M3=true:=iJ (g3 _ _ (g2 _ _ (g1 _ _ (g0 _ _ hq))))
 obtain⟨M5,Wg⟩:∃M5,M5=M4.set q (.lst (done.map Gf++[Gf p])):=⟨_,rfl⟩
 have q5:M5[q]? = some (.lst ((done++[p]).map Gf)):=by rw[Wg,get_set q4];simp
 have c5:Ch (fun j=>j=r∨j=q) M4 M5:=by rw[Wg];exact Ch.set (.inr rfl)
 have R5:aY M5 r l (bw.map bh) ((i:Int)+1):=by
  have c:Ch (· = q) M4 M5:=by rw[Wg];exact Ch.set rfl
  exact R4.ch c (Ne.symm Fp) (Ne.symm hql)
 obtain⟨M6,e6,R6,c6,_⟩:=mL R5
 refine⟨M0,M6,x,?_,?_,R6,c6.2 _ _ Fp q5,((((g0.trans g1).trans g2).trans g3).trans g4).ch.trans (c5.trans (c6.mono fun j _ z=> .inl z))⟩
 ·simp only[cA]
  simp[R.me (m:= "begins") rfl,e0]
 ·simp only[cz]
  rw[←Wg]at e5
  simp only[Gf]at e5 ⊢
  simp[R0.me (m:= "words") rfl,e1,s1,e3,i1,R3.me (m:= "from_nought") rfl,e4,t4,e5,R5.me (m:= "go_on") rfl,e6]
theorem Wr{M:Mem}{r l i:Nat}{bw:List (List (List Nat))}{w:List Nat}{tl:List (List Nat)}{y1 y2 y3:Option D}(R:aY M r l (bw.map bh) ((i:Int)+1))(hw:bw[i]? = some (w::tl))(hp:qY (w::tl))(hn:bM w≠ "at"):
  ∃M',cA [some (.ref r),y1,y2,y3] M= .ok false M'∧Gr M M':=by
 obtain⟨M0,e0,g0⟩:=jH R rfl hw hp "at"
 refine⟨M0,?_,g0⟩
 simp only[cA]
 simp[R.me (m:= "begins") rfl,e0,hn]
theorem Mi{r l q:Nat}{bw more:List (List (List Nat))}{w:List Nat}{tl:List (List Nat)}(Fp:q≠r)(hql:q≠l)(hp:qY (w::tl))(hn:bM w≠ "at"):∀(rest done:List (Int×Wt)) (i:Nat) (M:Mem) (y2 y3:Option D),
  aY M r l (bw.map bh) ((i:Int)+1)→M[q]? = some (.lst (done.map Gf))→bw.drop i=rest.map zx++(w::tl)::more→(∀p∈rest,Ay p)→(done++rest).length<1000→
  ∃M' y2' y3',vg cA cz (rest.length+1) [some (.ref r),some (.ref q),y2,y3] M= .next [some (.ref r),some (.ref q),y2',y3'] M'∧aY M' r l (bw.map bh) ((i:Int)+rest.length+1)∧M'[q]? = some (.lst ((done++rest).map Gf))∧Ch (fun j=>j=r∨j=q) M M'
 | [],done,i,M,y2,y3,R,hq,hd,_,_=>by
  obtain⟨hw,_⟩:=mY (by simpa using hd)
  obtain⟨M0,e0,g0⟩:=Wr (y1:=some (.ref q)) (y2:=y2) (y3:=y3) R hw hp hn
  refine⟨M0,y2,y3,?_,by simpa using R.gr g0,by simpa using g0 _ _ hq,g0.ch⟩
  unfold vg
  rw[e0]
 | p::rest,done,i,M,y2,y3,R,hq,hd,ho,hl=>by
  obtain⟨hw,hd'⟩:=mY (show bw.drop i=zx p::(rest.map zx++(w::tl)::more) by simpa using hd)
  obtain⟨M0,M1,x,e0,e1,R1,q1,c1⟩:=Mh (y2:=y2) (y3:=y3) R hw (ho p (by simp)) hq (by simp at hl;omega) Fp hql
  obtain⟨M2,z2,z3,e2,R2,q2,c2⟩:=Mi Fp hql hp hn rest (done++[p]) (i+1) M1 (some (.ref x)) (some p.2.d) (by simpa using R1) q1 hd' (fun a ha=>ho a (by simp[ha])) (by simpa using hl)
  refine⟨M2,z2,z3,?_,?_,by simpa using q2,c1.trans c2⟩
  ·show vg _ _ (rest.length+1+1) _ _=_
   rw[vg,e0]
   simp only[e1]
   exact e2
  ·have e:((i+1:Nat):Int)+rest.length+1=(i:Int)+((p::rest).length:Nat)+1:=by simp;omega
   rw[←e];exact R2
theorem C_{M:Mem}{r l i:Nat}{bw more:List (List (List Nat))}{w:List Nat}{tl:List (List Nat)}{es:List (Int×Wt)}(R:aY M r l (bw.map bh) ((i:Int)+1))(hd:bw.drop i=es.map zx++(w::tl)::more)(hp:qY (w::tl))(hn:bM w≠ "at")
  (hv:∀p∈es,Ay p) (hl:es.length<1000):∃q M',gC [.ref r] M= .ok (.ref q) M'∧M'[q]? = some (.lst (es.map Gf))∧aY M' r l (bw.map bh) ((i:Int)+es.length+1)∧Ch (· = r) M M':=by
 have R0:aY (M++[.lst []]) r l (bw.map bh) ((i:Int)+1):=R.gr Gr.app
 have hr:=gZ R.o
 have hll:=gZ R.k
 obtain⟨M',y2,y3,e,R',q',c⟩:=Mi (q:=M.length) (by omega) (by omega) hp hn es [] i (M++[.lst []]) none none R0 (by simp) hd hv (by simpa using hl)
 refine⟨M.length,M',?_,q',R',⟨Nat.le_trans (by simp) c.1,fun j o nj h=>c.2 j o (fun z=>by have:=gZ h;rcases z with z | z<;>omega) (Gr.app _ _ h)⟩⟩
 simp only[gC,fc,lQ]
 have ew:=jY e (fun z=>nomatch z)
 simp[ew]
theorem Xg{B:Bk}:B.bw[B.body.length]? = some [W "end",aN B.body.length]:=by simp[Bk.bw]
theorem finish_ok{M:Mem}{r l:Nat}{B:Bk}(h:B.Ok){k:Int}(hk:k=(B.body.length:Int)+1)(R:aY M r l (B.bw.map bh) k):∃M',fC [.ref r] M= .ok .non M'∧Gr M M':=by
 obtain⟨x,M1,e1,h1,g1⟩:=oG R hk Xg (An h) (b:= "end") (wk _) (n:=2) rfl
 have R1:=R.gr g1
 have i1:bx (.ref x) (.int 1) M1= .ok (.str (bM (aN B.body.length))) M1:=d8 h1 (j:=1) rfl rfl
 have hb:=(tD h).2
 obtain⟨M2,e2,g2⟩:=uy R1 (n:=(B.body.length:Int)) (by omega)
 have R2:=R1.gr g2
 have hl:kO [.ref l] M2= .ok (.int k) M2:=by
  rw[dJ R2.k,hk];simp[Bk.bw]
 have n1:k - 1=(B.body.length:Int):=by omega
 refine⟨M2,?_,g1.trans g2⟩
 simp only[fC,cT,kh,tZ]
 simp[R.me (m:= "words_of") rfl,e1,i1,R1.me (m:= "whole") rfl,e2,R2.fh,n1,R2.fr,hl]
theorem rD:(("end" : Str)≠ "value" ∧ ("end" : Str)≠ "answer" ∧ ("end" : Str)≠ "at")∧(("at" : Str)≠ "value" ∧ ("at" : Str)≠ "answer")∧("answer" : Str)≠ "value" := by decide
theorem Jo{M:Mem}{B:Bk}(h:B.Ok):∃k r l M',cO [.str B.text] M= .ok (.ref k) M'∧wU M' k r l B.tm B.vd B.b B.bt B.roll B.kept B.ents∧Gr M M'∧M.length≤k∧M.length≤r∧M.length≤l:=by
 have hb:=tD h
 have hlen:B.bw.length≤300:=by simp[Bk.bw];omega
 have hw:=zM h
 have hT:B.text.length+2≤16777216:=by have:=text_len hw hlen;unfold Bk.text;omega
 obtain⟨M1,e1,R1,g1,z1⟩:=Qq (M:=M) hT
 have hs:Txt.split B.text "\n" = B.bw.map bh:=yV (by simp[Bk.bw]) hw
 rw[hs]at R1
 obtain⟨M2,e2,R2,c2⟩:=Jm h R1
 obtain⟨M3,e3,R3,c3⟩:=Jp h R2
 have d0:B.bw.drop 2=B.vs.map A_++(B.as.map zG++(B.es.map zx++[[W "end",aN B.body.length]])):=by simp[Bk.bw,Bk.body]
 have dE:∀n:Nat,n=2+B.vs.length+B.as.length→B.bw.drop n=B.es.map zx++[[W "end",aN B.body.length]]:=fun n hn=>by
  subst hn
  rw[show 2+B.vs.length+B.as.length=(2+B.vs.length)+B.as.length from rfl,←List.drop_drop,←List.drop_drop,d0,List.drop_left' (by simp),List.drop_left' (by simp)]
 have dA:B.bw.drop (2+B.vs.length)=B.as.map zG++(B.es.map zx++[[W "end",aN B.body.length]]):=by
  rw[←List.drop_drop,d0,List.drop_left' (by simp)]
 have sv:∃M4,dj [.ref M.length] M3= .ok (.tup (B.vs.map wN)) M4∧aY M4 M.length (M.length+1) (B.bw.map bh) (((2+B.vs.length:Nat):Int)+1)∧Ch (· = M.length) M3 M4:=by
  have hl:B.vs.length<1000:=by have:=h.lv;omega
  have fin:∀{M4:Mem},aY M4 M.length (M.length+1) (B.bw.map bh) (((2:Nat):Int)+B.vs.length+1)→aY M4 M.length (M.length+1) (B.bw.map bh) (((2+B.vs.length:Nat):Int)+1):=fun{M4} R=>by
   have:((2:Nat):Int)+B.vs.length+1=((2+B.vs.length:Nat):Int)+1:=by omega
   rw[←this];exact R
  cases ea:B.as with
  | cons a ar=>
   have dd:B.bw.drop 2=B.vs.map A_++(zG a)::(ar.map zG++(B.es.map zx++[[W "end",aN B.body.length]])):=by rw[d0,ea];simp
   obtain⟨M4,e,R,c⟩:=rR (i:=2) R3 (w:=W "answer") (tl:=[aN a.1.1,aN a.1.2,aN a.2]) dd (FT (h.as a (by rw[ea];simp))) (by simp;exact rD.2.2) h.vs h.vo hl
   exact⟨M4,e,fin R,c⟩
  | nil=>
   cases ee:B.es with
   | cons p pr=>
    have dd:B.bw.drop 2=B.vs.map A_++(zx p)::(pr.map zx++[[W "end",aN B.body.length]]):=by rw[d0,ea,ee];simp
    obtain⟨M4,e,R,c⟩:=rR (i:=2) R3 (w:=W "at") (tl:=aN p.1::p.2.w) dd (zu (h.es p (by rw[ee];simp))) (by simp;exact rD.2.1.1) h.vs h.vo hl
    exact⟨M4,e,fin R,c⟩
   | nil=>
    have dd:B.bw.drop 2=B.vs.map A_++[W "end",aN B.body.length]::[]:=by rw[d0,ea,ee];simp
    obtain⟨M4,e,R,c⟩:=rR (i:=2) R3 (w:=W "end") dd (An h) (by simp;exact rD.1.1) h.vs h.vo hl
    exact⟨M4,e,fin R,c⟩
 obtain⟨M4,e4,R4,c4⟩:=sv
 have sa:∃M5,eX [.ref M.length] M4= .ok (.tup (B.as.map wR)) M5∧aY M5 M.length (M.length+1) (B.bw.map bh) (((2+B.vs.length+B.as.length:Nat):Int)+1)∧Ch (· = M.length) M4 M5:=by
  have hl:B.as.length<1000:=by have:=h.la;omega
  have fin:∀{M5:Mem},aY M5 M.length (M.length+1) (B.bw.map bh) (((2+B.vs.length:Nat):Int)+B.as.length+1)→aY M5 M.length (M.length+1) (B.bw.map bh) (((2+B.vs.length+B.as.length:Nat):Int)+1):=fun{M5} R=>by
   have:((2+B.vs.length:Nat):Int)+B.as.length+1=((2+B.vs.length+B.as.length:Nat):Int)+1:=by omega
   rw[←this];exact R
  cases ee:B.es with
  | cons p pr=>
   have dd:B.bw.drop (2+B.vs.length)=B.as.map zG++(zx p)::(pr.map zx++[[W "end",aN B.body.length]]):=by rw[dA,ee];simp
   obtain⟨M5,e,R,c⟩:=wg R4 (w:=W "at") (tl:=aN p.1::p.2.w) dd (zu (h.es p (by rw[ee];simp))) (by simp;exact rD.2.1.2) h.as h.ao hl
   exact⟨M5,e,fin R,c⟩
  | nil=>
   have dd:B.bw.drop (2+B.vs.length)=B.as.map zG++[W "end",aN B.body.length]::[]:=by rw[dA,ee];simp
   obtain⟨M5,e,R,c⟩:=wg R4 (w:=W "end") dd (An h) (by simp;exact rD.1.2.1) h.as h.ao hl
   exact⟨M5,e,fin R,c⟩
 obtain⟨M5,e5,R5,c5⟩:=sa
 obtain⟨q,M6,e6,q6,R6,c6⟩:=C_ R5 (w:=W "end") (tl:=[aN B.body.length]) (more:=[]) (dE _ rfl) (An h) (by simp;exact rD.1.2.2) h.es (by have:=h.le;omega)
 obtain⟨M7,e7,Rw,g7⟩:=Dr (M:=M6) (b:=B.b) (bt:=B.bt) (br:=B.roll) q6
 have R7:=R6.gr g7
 obtain⟨M8,e8,g8⟩:=finish_ok h (by rw[hb.1];omega) R7
 have Rw8:=Rw.gr g8
 obtain⟨M9,e9,Bk9,g9⟩:=Rf (tm:=B.tm) (vt:=B.vd) (kept:=B.kept) Rw8
 have hle:M.length≤M6.length:=by
  have:=g1.le
  have:=c2.1
  have:=c3.1
  have:=c4.1
  have:=c5.1
  have:=c6.1
  omega
 have alz:M.length≤M8.length:=by
  have:=g7.le
  have:=g8.le
  omega
 refine⟨_,_,_,M9,?_,Bk9,?_,alz,by omega,by omega⟩
 ·simp only[cO,cC]
  simp[e1,e2,e3,e4,e5,e6,e7,R7.me (m:= "finish") rfl,e8,Bk.roll]at e7 e9 ⊢
  simp[e7,R7.me (m:= "finish") rfl,e8,Bk.kept]at e9 ⊢
  simp[e9]
 ·refine Gr.trans (M1:=M6) ?_ ((g7.trans g8).trans g9)
  have Z4:=((((c2.trans c3).trans c4).trans c5).trans c6)
  exact fun i o hi=>Z4.2 i o (Nat.ne_of_lt (gZ hi)) (g1 _ _ hi)
inductive Pt where
 | n (i:Int) | s (w:List Nat) | no
def Pt.d:Pt→D
 | .n i=> .int i
 | .s w=> .str (bM w)
 | .no=> .non
def Pt.w:Pt→List Nat
 | .n i=>aN i
 | .s w=>w
 | .no=>W "None"
def Pt.Ok:Pt→Prop
 | .n i=>Sm i
 | .s w=>Wd w
 | .no=>True
theorem adQ{p:Pt}(h:p.Ok):Wd p.w:=by
 cases p with
 | n i=>exact jb h
 | s w=>exact h
 | no=>exact pB (s:= "None") (by decide)
def Xr:D→D
 | .int i=> .str (toString i)
 | .non=> .str "None"
 | d=>d
theorem WL{M:Mem}{src:Option (Nat×List D)}(ps:List Pt)(h:∀p∈ps,p.Ok)(hs:lM src M):rF src oV (yN La (aq (az 0) aH)) [] (ps.map Pt.d) [] M= .ok (.ref M.length) (M++[.lst (ts (ps.map Pt.w))]):=by
 rw[Ar Xr hs]
 ·congr 3
  congr 1
  simp only[List.map_map,ts]
  refine List.map_congr_left fun p hp=> ?_
  cases p with
  | n i=>
   show D.str (Str.ofString (toString i))=D.str (bM (aN i))
   rw[Yo]
  | s w=>rfl
  | no=>
   show D.str "None" = D.str (bM (W "None"))
   rw[wk]
 ·intro d hd
  obtain⟨p,hp,rfl⟩:=List.mem_map.mp hd
  cases p with
  | n i=>simp[Pt.d,aao (RC (h _ hp)),Xr]
  | s w=>simp[Pt.d,Xr]
  | no=>simp[Pt.d,Xr]
theorem V9{c:Nat}{n:Nat}{texts:List Str}(hB:∀y∈texts,y.length≤n)(h:texts.length*n+texts.length*1≤16777216):JoinOk ⟨#[c]⟩ texts=true:=by
 have:=StrLaws.joinFits (sep:=⟨#[c]⟩) (B:=n) hB h
 unfold JoinOk
 rw[this];rfl
theorem V8{M:Mem}{n:Nat}{ws:List (List Nat)}(hM:M[n]? = some (.lst (ts ws)))(h:qY ws):Cm (.str " ") [.ref n] M= .ok (.str (bh ws)) M:=by
 have hk:JoinOk " " (ws.map bM)=true:=by
  rw[WY]
  refine V9 (n:=50) (fun y hy=> ?_) (by have:=h.2.1;simp;omega)
  obtain⟨w,hw,rfl⟩:=List.mem_map.mp hy
  rw[fP,bz]
  exact(h.2.2 w hw).2.2
 exact Ld (by rw[Zw];exact hM) hk
theorem rH{M:Mem}(ps:List Pt)(h:∀p∈ps,p.Ok)(h0:ps≠[])(hl:ps.length≤20):∃M',cY [.tup (ps.map Pt.d)] M= .ok (.str (bh (ps.map Pt.w))) M'∧Gr M M':=by
 have e1:=WL (src:=none) (M:=M) ps h trivial
 obtain⟨M1,yF⟩:∃M1,M1=M++[MO.lst (ts (ps.map Pt.w))]:=⟨_,rfl⟩
 have h1:M1[M.length]? = some (.lst (ts (ps.map Pt.w))):=by rw[yF];exact bf
 rw[←yF]at e1
 have hw:qY (ps.map Pt.w):=yR (by simpa using h0) (by simpa using hl) fun w hw=>by
  obtain⟨p,hp,rfl⟩:=List.mem_map.mp hw
  exact adQ (h p hp)
 refine⟨M1,?_,by rw[yF];exact Gr.app⟩
 simp only[cY,jW]
 have ec:o8 [] [some (D.tup (ps.map Pt.d))]=[]:=rfl
 simp[ec,e1,Di,V8 h1 hw]
theorem zz{α:Type}{M:Mem}{src:Option (Nat×List D)}{te:ME}{ce:Sl}(xs:List α)(gd fd:α→D)(hs:∀M',Gr M M'→lM src M')(hf:∀x∈xs,∀M',Gr M M'→∃M2,te (some (gd x)::ce) M'= .ok (fd x) M2∧Gr M' M2):
  ∃x M',rF src oV te ce (xs.map gd) [] M= .ok (.ref x) M'∧M'[x]? = some (.lst (xs.map fd))∧Gr M M'∧M.length≤x:=by
 obtain⟨ys,M',e,hy,g⟩:=Fz (src:=src) (tt:=oV) (te:=te) (ce:=ce) (fun i ys M'=>ys=(xs.take i).map fd∧Gr M M') (xs.map gd) 0 (ys:=[]) (M:=M) ⟨by simp,Gr.refl⟩
  (fun i ys M' _ _ h=>hs M' h.2) (fun i d ys M2 hd h=>by
   obtain⟨h1,h2⟩:=h
   rw[Nat.zero_add]at h1 ⊢
   rw[List.getElem?_map]at hd
   obtain⟨x,hx,rfl⟩:=Option.map_eq_some_iff.mp hd
   obtain⟨M3,e3,g3⟩:=hf x (List.mem_of_getElem? hx) M2 h2
   refine⟨true,M2,rfl,.inr ⟨rfl,fd x,M3,e3,?_,h2.trans g3⟩⟩
   rw[h1,List.take_add_one,hx];simp)
 refine⟨_,_,e,?_,g.trans Gr.app,g.le⟩
 rw[bf,hy,Nat.zero_add,List.length_map,List.take_length]
def vaP(p:List Nat×Int):List Pt:=[.s (W "value"),.s p.1,.n p.2]
def anP(p:(Int×Int)×Int):List Pt:=[.s (W "answer"),.n p.1.1,.n p.1.2,.n p.2]
def Od.p(o:Od):List Pt:= .s (W o.k):: .s o.s::o.ns.map Pt.n
def Wt.p:Wt→List Pt
 | .start=>[.s (W "start")]
 | .roll a b=>[.s (W "roll"),.n a,.n b]
 | .ask w n o=> .s (W "ask"):: .n w:: .n n::o.p
def Wu(p:Int×Wt):List Pt:= .s (W "at"):: .n p.1::p.2.p
theorem Od.p_w(o:Od):o.p.map Pt.w=o.w:=by rw[Od.w_eq];simp[Od.p,Pt.w]
theorem Od.p_d(o:Od): .tup (o.p.map Pt.d)=o.d:=by rw[Od.agg];simp[Od.p,Pt.d]
theorem Wt.p_w(x:Wt):x.p.map Pt.w=x.w:=by
 cases x with
 | ask w n o=>simp[Wt.p,Wt.w,Pt.w,Od.p_w]
 | _=>rfl
theorem Yn(o:Od):Wd (W o.k):=by
 cases o with
 | put=>exact pB (s:= "put") (by decide)
 | add=>exact pB (s:= "add") (by decide)
 | swap=>exact pB (s:= "swap") (by decide)
@[simp] theorem Pt.d_n(i:Int):(Pt.n i).d= .int i:=rfl
@[simp] theorem Pt.d_s(w:List Nat):(Pt.s w).d= .str (bM w):=rfl
@[simp] theorem Pt.aoJ:Pt.no.d= .non:=rfl
@[simp] theorem Pt.anq:Pt.no.w=W "None" := rfl
@[simp] theorem Pt.w_n(i:Int):(Pt.n i).w=aN i:=rfl
@[simp] theorem Pt.w_s(w:List Nat):(Pt.s w).w=w:=rfl
theorem Ym{o:Od}(h:o.Ok):∀p∈o.p,p.Ok:=by
 obtain⟨h1,h2⟩:=Od.nOk h
 intro p hp
 simp only[Od.p,List.mem_cons,List.mem_map]at hp
 rcases hp with rfl | rfl | ⟨n,hn,rfl⟩
 ·exact Yn o
 ·exact yS h1
 ·exact h2 n hn
theorem Xf{x:Wt}(h:x.Ok):∀p∈x.p,p.Ok:=by
 cases x with
 | start=>intro p hp;simp[Wt.p]at hp;subst hp;exact pB (by decide)
 | roll a b=>
  have:=Qn h
  intro p hp
  simp[Wt.p]at hp
  rcases hp with rfl | rfl | rfl
  ·exact pB (by decide)
  ·exact this.1
  ·exact this.2
 | ask w n o=>
  intro p hp
  simp only[Wt.p,List.mem_cons]at hp
  rcases hp with rfl | rfl | rfl | hp
  ·exact pB (by decide)
  ·exact h.1
  ·exact h.2.1
  ·exact Ym h.2.2 p hp
theorem Ua(x:Wt):x.p.length≤7:=by
 have:x.p.length=x.w.length:=by rw[←Wt.p_w];simp
 rw[this];exact Ub x
theorem YX{p:Int×Wt}(h:Ay p):∀q∈Wu p,q.Ok:=by
 intro q hq
 simp only[Wu,List.mem_cons]at hq
 rcases hq with rfl | rfl | hq
 ·exact pB (by decide)
 ·exact h.2.1
 ·exact Xf h.2.2 q hq
theorem Tc{p:Int×Wt}(h:Ay p)(M:Mem):∃M',cY [.tup ((Wu p).map Pt.d)] M= .ok (.str (bh (zx p))) M'∧Gr M M':=by
 obtain⟨M',e,g⟩:=rH (M:=M) (Wu p) (YX h) (by simp[Wu]) (by have:=Ua p.2;simp[Wu];omega)
 refine⟨M',?_,g⟩
 rw[e]
 simp[Wu,zx,Pt.w,Wt.p_w]
theorem Ru{p:List Nat×Int}(h:GC p)(M:Mem):∃M',cY [.tup [.str "value",.str (bM p.1),.int p.2]] M= .ok (.str (bh (A_ p))) M'∧Gr M M':=by
 obtain⟨M',e,g⟩:=rH (M:=M) (vaP p) (by
  intro q hq
  simp[vaP]at hq
  rcases hq with rfl | rfl | rfl
  ·exact pB (by decide)
  ·exact yS h.1
  ·exact h.2.1) (by simp[vaP]) (by simp[vaP])
 refine⟨M',?_,g⟩
 simpa[vaP,A_,Pt.d,Pt.w]using e
theorem Tw{p:(Int×Int)×Int}(h:Gd p)(M:Mem):∃M',cY [.tup [.str "answer",.int p.1.1,.int p.1.2,.int p.2]] M= .ok (.str (bh (zG p))) M'∧Gr M M':=by
 obtain⟨M',e,g⟩:=rH (M:=M) (anP p) (by
  intro q hq
  simp[anP]at hq
  rcases hq with rfl | rfl | rfl | rfl
  ·exact pB (by decide)
  ·exact h.1
  ·exact h.2.1
  ·exact h.2.2) (by simp[anP]) (by simp[anP])
 refine⟨M',?_,g⟩
 simpa[anP,zG,Pt.d,Pt.w]using e
def Bk.vp(B:Bk):Pt:=match B.vt with
 | none=> .s (W "-")
 | some v=> .n v
theorem S8{B:Bk}(h:B.Ok)(M:Mem):∃M',cY [.tup [.str "book",.int B.tm,B.vp.d]] M= .ok (.str (bh [W "book",aN B.tm,B.vw])) M'∧Gr M M':=by
 have hv:B.vp.Ok:=by
  unfold Bk.vp
  split
  ·exact pB (by decide)
  ·rename_i v e
   have:=h.vt v e
   show Sm v
   unfold Sm;omega
 have hw:B.vp.w=B.vw:=by unfold Bk.vp Bk.vw;cases B.vt<;>rfl
 obtain⟨M',e,g⟩:=rH (M:=M) [.s (W "book"),.n B.tm,B.vp] (by
  intro q hq
  simp at hq
  rcases hq with rfl | rfl | rfl
  ·exact pB (by decide)
  ·exact h.tm.2
  ·exact hv) (by simp) (by simp)
 refine⟨M',?_,g⟩
 simpa[hw]using e
theorem Tt{B:Bk}(h:B.Ok)(M:Mem):∃M',cY [.tup [.str "base",.int B.b,.int B.bt,.int B.r1,.int B.r2]] M= .ok (.str (bh [W "base",aN B.b,aN B.bt,aN B.r1,aN B.r2])) M'∧Gr M M':=by
 have:=Qn h.ro
 obtain⟨M',e,g⟩:=rH (M:=M) [.s (W "base"),.n B.b,.n B.bt,.n B.r1,.n B.r2] (by
  intro q hq
  simp at hq
  rcases hq with rfl | rfl | rfl | rfl | rfl
  ·exact pB (by decide)
  ·exact h.b.2
  ·exact h.bt.2
  ·exact this.1
  ·exact this.2) (by simp) (by simp)
 refine⟨M',?_,g⟩
 simpa[Pt.d,Pt.w]using e
theorem O9{n:Int}(h:Sm n)(M:Mem):∃M',cY [.tup [.str "end",.int n]] M= .ok (.str (bh [W "end",aN n])) M'∧Gr M M':=by
 obtain⟨M',e,g⟩:=rH (M:=M) [.s (W "end"),.n n] (by
  intro q hq
  simp at hq
  rcases hq with rfl | rfl
  ·exact pB (by decide)
  ·exact h) (by simp) (by simp)
 refine⟨M',?_,g⟩
 simpa[Pt.d,Pt.w]using e
theorem Vw{p:Int×Wt}{M:Mem}:jZ [Gf p] M= .ok (.tup ((Wu p).map Pt.d)) M:=by
 obtain⟨t,x⟩:=p
 simp only[jZ,je,wG,Gf]
 cases x with
 | start=>
  have h:¬(("start" : Str)= "ask"):=by decide
  have e:j0 (.tup [.str "at",.int t]) (.tup [.str "start"]) M= .ok (.tup [.str "at",.int t,.str "start"]) M:=mH (by simp) (by simp)
  simp[Wt.d,h,e,Wu,Wt.p,Pt.d]
 | roll a b=>
  have h:¬(("roll" : Str)= "ask"):=by decide
  have e:j0 (.tup [.str "at",.int t]) (.tup [.str "roll",.int a,.int b]) M= .ok (.tup [.str "at",.int t,.str "roll",.int a,.int b]) M:=mH (by simp) (by simp)
  simp[Wt.d,h,e,Wu,Wt.p,Pt.d]
 | ask w n o=>
  have e:j0 (.tup [.str "at",.int t,.str "ask",.int w,.int n]) o.d M= .ok (.tup ([.str "at",.int t,.str "ask",.int w,.int n]++o.p.map Pt.d)) M:=by
   rw[←Od.p_d]
   refine mH (by simp) ?_
   have:=Vz o
   rw[←Od.p_w]at this
   simp at this ⊢
   omega
  simp[Wt.d,e,Wu,Wt.p,Pt.d]
def iz(ws:List (List Nat)):D:= .str (bh ws)
theorem Dw{M:Mem}{k r l:Nat}{B:Bk}(h:B.Ok)(H:wU M k r l B.tm B.vd B.b B.bt B.roll B.kept B.ents):∃M',uE [.ref k] M= .ok (.str B.text) M'∧Gr M M':=by
 have hb:=tD h
 have hv:=h.lv
 have ha:=h.la
 have he:=h.le
 obtain⟨M1,e1,g1⟩:=S8 h M
 obtain⟨M2,BW⟩:∃M2,M2=M1++[MO.lst [iz [W "book",aN B.tm,B.vw]]]:=⟨_,rfl⟩
 have q2:M2[M1.length]? = some (.lst [iz [W "book",aN B.tm,B.vw]]):=by rw[BW];exact bf
 have g2:Gr M1 M2:=by rw[BW];exact Gr.app
 have H2:=(H.gr g1).gr g2
 obtain⟨M3,e3,g3⟩:=Tt h M2
 have q3:=g3 _ _ q2
 have t2:Di "list" (.ref M1.length) M2=true:=iJ q2
 have a3:=gq (d:=iz [W "base",aN B.b,aN B.bt,aN B.r1,aN B.r2]) q3 (by simp)
 obtain⟨M4,wW⟩:∃M4,M4=M3.set M1.length (.lst ([iz [W "book",aN B.tm,B.vw]]++[iz [W "base",aN B.b,aN B.bt,aN B.r1,aN B.r2]])):=⟨_,rfl⟩
 have q4:M4[M1.length]? = some (.lst [iz [W "book",aN B.tm,B.vw],iz [W "base",aN B.b,aN B.bt,aN B.r1,aN B.r2]]):=by rw[wW,get_set q3];rfl
 have c4:Ch (· = M1.length) M3 M4:=by rw[wW];exact Ch.set rfl
 have hk1:k<M1.length:=Nat.lt_of_lt_of_le (gZ H.o) g1.le
 have hr1:r<M1.length:=Nat.lt_of_lt_of_le (gZ H.row.o) g1.le
 have hl1:l<M1.length:=Nat.lt_of_lt_of_le (gZ H.row.k) g1.le
 have H4:=(H2.gr g3).ch c4 (Nat.ne_of_lt hk1) (Nat.ne_of_lt hr1) (Nat.ne_of_lt hl1)
 obtain⟨x5,M5,e5,h5,g5,l5⟩:=zz (M:=M4) (src:=none) (te:=fG cY 1 [] (aq (aK j0 (jP (aq (mC (.str "value")) aH)) (az 0)) aH)) (ce:=[]) B.vs wN (fun p=>iz (A_ p))
  (fun _ _=>trivial) (fun p hp M' _=>by
   obtain⟨M2',e,g⟩:=Ru (h.vs p hp) M'
   have es:j0 (.tup [.str "value"]) (wN p) M'= .ok (.tup [.str "value",.str (bM p.1),.int p.2]) M':=mH (by simp) (by simp)
   refine⟨M2',?_,g⟩
   simp[es,e,iz])
 rw[show(B.vs.map fun p=>iz (A_ p))=(B.vs.map A_).map iz by rw[List.map_map];rfl]at h5
 have q5:=g5 _ _ q4
 have H5:=H4.gr g5
 have t4:Di "list" (.ref M1.length) M4=true:=iJ q4
 have a5:=zc q5 h5 (by simp;omega)
 obtain⟨M6,hM6⟩:∃M6,M6=M5.set M1.length (.lst ([iz [W "book",aN B.tm,B.vw],iz [W "base",aN B.b,aN B.bt,aN B.r1,aN B.r2]]++(B.vs.map A_).map iz)):=⟨_,rfl⟩
 have q6:M6[M1.length]? = some (.lst ([iz [W "book",aN B.tm,B.vw],iz [W "base",aN B.b,aN B.bt,aN B.r1,aN B.r2]]++(B.vs.map A_).map iz)):=by rw[hM6,get_set q5]
 have c6:Ch (· = M1.length) M5 M6:=by rw[hM6];exact Ch.set rfl
 have H6:=H5.ch c6 (Nat.ne_of_lt hk1) (Nat.ne_of_lt hr1) (Nat.ne_of_lt hl1)
 obtain⟨x7,M7,e7,h7,g7,l7⟩:=zz (M:=M6) (src:=none) (te:=fG cY 1 [] (aq (aK j0 (jP (aq (mC (.str "answer")) aH)) (az 0)) aH)) (ce:=[]) B.as wR (fun p=>iz (zG p))
  (fun _ _=>trivial) (fun p hp M' _=>by
   obtain⟨M2',e,g⟩:=Tw (h.as p hp) M'
   have es:j0 (.tup [.str "answer"]) (wR p) M'= .ok (.tup [.str "answer",.int p.1.1,.int p.1.2,.int p.2]) M':=mH (by simp) (by simp)
   refine⟨M2',?_,g⟩
   simp[es,e,iz])
 rw[show(B.as.map fun p=>iz (zG p))=(B.as.map zG).map iz by rw[List.map_map];rfl]at h7
 have q7:=g7 _ _ q6
 have H7:=H6.gr g7
 have t6:Di "list" (.ref M1.length) M6=true:=iJ q6
 have a7:=zc q7 h7 (by simp;omega)
 obtain⟨M8,hM8⟩:∃M8,M8=M7.set M1.length (.lst (([iz [W "book",aN B.tm,B.vw],iz [W "base",aN B.b,aN B.bt,aN B.r1,aN B.r2]]++(B.vs.map A_).map iz)++(B.as.map zG).map iz)):=⟨_,rfl⟩
 have q8:M8[M1.length]? = some (.lst (([iz [W "book",aN B.tm,B.vw],iz [W "base",aN B.b,aN B.bt,aN B.r1,aN B.r2]]++(B.vs.map A_).map iz)++(B.as.map zG).map iz)):=by rw[hM8,get_set q7]
 have c8:Ch (· = M1.length) M7 M8:=by rw[hM8];exact Ch.set rfl
 have H8:=H7.ch c8 (Nat.ne_of_lt hk1) (Nat.ne_of_lt hr1) (Nat.ne_of_lt hl1)
 have n8:=O8 H8.row
 obtain⟨N8,hN8⟩:∃N8,N8=M8++[MO.lst B.ents]:=⟨_,rfl⟩
 rw[←hN8]at n8
 have p8:N8[M8.length]? = some (.lst B.ents):=by rw[hN8];exact bf
 have gN:Gr M8 N8:=by rw[hN8];exact Gr.app
 obtain⟨x9,M9,e9,h9,g9,l9⟩:=zz (M:=N8) (src:=some (M8.length,B.ents)) (te:=fG cY 1 [] (aq (fG jZ 1 [] (aq (az 0) aH)) aH)) (ce:=[]) B.es Gf (fun p=>iz (zx p))
  (fun M' g=>dU (g _ _ p8)) (fun p hp M' _=>by
   obtain⟨M2',e,g⟩:=Tc (h.es p hp) M'
   refine⟨M2',?_,g⟩
   simp[Vw,e,iz])
 rw[show(B.es.map fun p=>iz (zx p))=(B.es.map zx).map iz by rw[List.map_map];rfl]at h9
 have q9:=g9 _ _ (gN _ _ q8)
 have t8:Di "list" (.ref M1.length) M8=true:=iJ q8
 have a9:=zc q9 h9 (by simp;omega)
 obtain⟨Zr,abG⟩:∃Zr,Zr=M9.set M1.length (.lst ((([iz [W "book",aN B.tm,B.vw],iz [W "base",aN B.b,aN B.bt,aN B.r1,aN B.r2]]++(B.vs.map A_).map iz)++(B.as.map zG).map iz)++(B.es.map zx).map iz)):=⟨_,rfl⟩
 have q10:Zr[M1.length]? = some (.lst (B.body.map iz)):=by rw[abG,get_set q9];simp[Bk.body]
 have c10:Ch (· = M1.length) M9 Zr:=by rw[abG];exact Ch.set rfl
 have t10:Di "list" (.ref M1.length) Zr=true:=iJ q10
 have ln:kO [.ref M1.length] Zr= .ok (.int B.body.length) Zr:=by rw[dJ q10,List.length_map]
 obtain⟨M11,e11,g11⟩:=O9 (n:=(B.body.length:Int)) (by unfold Sm;omega) Zr
 have q11:=g11 _ _ q10
 have a11:=gq (d:=iz [W "end",aN B.body.length]) q11 (by simp;omega)
 obtain⟨Z8,abF⟩:∃Z8,Z8=M11.set M1.length (.lst (B.body.map iz++[iz [W "end",aN B.body.length]])):=⟨_,rfl⟩
 have q12:Z8[M1.length]? = some (.lst ((B.bw.map bh).map D.str)):=by
  rw[abF,get_set q11,List.map_map]
  show _=some (MO.lst (B.bw.map iz))
  simp[Bk.bw]
 have c12:Ch (· = M1.length) M11 Z8:=by rw[abF];exact Ch.set rfl
 have hj:JoinOk "\n" (B.bw.map bh)=true:=by
  rw[Qz]
  refine V9 (n:=1020) (fun y hy=> ?_) (by simp[Bk.bw];omega)
  obtain⟨ws,hs,rfl⟩:=List.mem_map.mp hy
  exact El (zM h ws hs)
 have e12:Cm (.str "\n") [.ref M1.length] Z8= .ok (.str B.text) Z8:=Ld q12 hj
 rw[←wW]at a3
 rw[←hM6]at a5
 rw[←hM8]at a7
 rw[←abG]at a9
 rw[←abF]at a11
 have alY:Ch (· = M1.length) M1 Z8:=(((((((((g2.trans g3).ch.trans c4).trans g5.ch).trans c6).trans g7.ch).trans c8).trans (gN.trans g9).ch).trans c10).trans g11.ch).trans c12
 refine⟨Z8,?_,fun i o hi=>alY.2 i o (Nat.ne_of_lt (Nat.lt_of_lt_of_le (gZ hi) g1.le)) (g1 _ _ hi)⟩
 have hvp:(if isN B.vd=true then Out.ok (D.str "-") M else Out.ok B.vd M)=Out.ok B.vp.d M:=by
  unfold Bk.vd Bk.vp
  cases e:B.vt with
  | none=>simp
  | some v=>simp
 have sb:j0 (.tup [.str "base",.int B.b,.int B.bt]) B.roll M2= .ok (.tup [.str "base",.int B.b,.int B.bt,.int B.r1,.int B.r2]) M2:=mH (by simp) (by simp)
 have k4:bx B.kept (.int 0) M4= .ok (.tup (B.vs.map wN)) M4:=U6
 have k6:bx B.kept (.int 1) M6= .ok (.tup (B.as.map wR)) M6:=U5
 have tS:∀M,Di "str" (.str "\n") M=true:=fun _=>rfl
 have eI:L_ (.ref M8.length) N8= .ok ⟨some (M8.length,B.ents),B.ents⟩ N8:=mK p8
 have ec:∀e:Sl,o8 [] e=[]:=fun _=>rfl
 have e9':rF (some (M8.length,B.ents)) oV (fG cY 1 [] (aq (fG jZ 1 [] (aq (az 0) aH)) aH)) [] B.ents [] N8= .ok (.ref x9) M9:=e9
 have e1':cY [.tup [.str "book",.int B.tm,B.vp.d]] M= .ok (iz [W "book",aN B.tm,B.vw]) M1:=e1
 have e3':cY [.tup [.str "base",.int B.b,.int B.bt,.int B.r1,.int B.r2]] M2= .ok (iz [W "base",aN B.b,aN B.bt,aN B.r1,aN B.r2]) M3:=e3
 have alM:cY [.tup [.str "end",.int B.body.length]] Zr= .ok (iz [W "end",aN B.body.length]) M11:=e11
 clear e1 e3 e11
 simp only[uE,oF]
 simp[H.fr,H.ft,H.fv,hvp,e1',←BW,H2.row.fb,H2.row.ft,H2.row.fr,sb,t2,e3',a3,H4.fk,k4,ec,e5,t4,a5,H6.fk,k6,e7,t6,a7,H8.row.me (m:= "entries") rfl,n8,eI,e9',t8,a9,ln,t10,alM,a11,tS,e12]
theorem S5{l:List Nat}(h:xQ l=true):∃n,PySem.intText? (bM l)=some n∧l.length≤101:=by
 unfold xQ at h
 simp only[Bool.and_eq_true,decide_eq_true_eq,List.all_eq_true]at h
 obtain⟨⟨h1,h2,h3⟩,_⟩:=h
 by_cases q:l.head? = some 45
 ·cases l with
  | nil=>cases q
  | cons a f=>
   cases(show a=45 by simpa using q)
   have ef:pL (45::f)=f:=by simp[pL]
   rw[ef]at h1 h2 h3
   have ne:f≠[]:=fun z=>by subst z;simp at h1
   exact⟨_,PySem.intText_neg (x:=bM (45::f)) (bz _) h3 ne (by rw[fP,bz];simp;omega),by simp;omega⟩
 ·have ef:pL l=l:=by simp[pL,q]
  rw[ef]at h1 h2 h3
  have ne:l≠[]:=fun z=>by subst z;simp at h1
  exact⟨_,PySem.intText_digits (x:=bM l) (by rw[bz];exact h3) (by rw[bz];exact ne) (by rw[fP,bz];omega),by omega⟩
def W6(k:Int)(M:Mem)(o:Out D):Prop:=∃M',o= .exc 2 (.int k) M'∧Gr M M'
section
variable{M:Mem}{r l:Nat}{rows:List Str}{k:Int}{w:List Nat}
theorem rJ(R:aY M r l rows k)(hw:w.length≤50):(∃n M',aZ [.ref r,.str (bM w)] M= .ok (.int n) M'∧Gr M M'∧xQ w=true∧PySem.intText? (bM w)=some n)∨W6 k M (aZ [.ref r,.str (bM w)] M):=by
 have hl:(bM w).length≤50:=by rw[qQ,uc];exact hw
 obtain⟨M1,e1,g1⟩:=Ai (M:=M) (w:=bM w) (by omega)
 rw[uc]at e1
 cases z:xQ w with
 | true=>
  obtain⟨n,hn,_⟩:=S5 z
  rw[z]at e1
  refine .inl ⟨n,M1,?_,g1,rfl,hn⟩
  simp only[aZ,bL,l_]
  simp[e1,U8 hn (show(bM w).length≤640 by omega)]
 | false=>
  rw[z]at e1
  refine .inr ⟨M1,?_,g1⟩
  simp only[aZ,bL,l_]
  simp[e1,(R.gr g1).fh]
theorem jQ(R:aY M r l rows k)(hw:w.length≤50):(∃n M',aV [.ref r,.str (bM w)] M= .ok (.int n) M'∧Gr M M')∨W6 k M (aV [.ref r,.str (bM w)] M):=by
 rcases rJ R hw with⟨n,M1,e1,g1,_⟩ | ⟨M1,e1,g1⟩
 ·by_cases h:n<0
  ·refine .inr ⟨M1,?_,g1⟩
   simp only[aV,aQ,eZ]
   simp[R.me (m:= "whole") rfl,e1,h,(R.gr g1).fh]
  ·refine .inl ⟨n,M1,?_,g1⟩
   simp only[aV,aQ,eZ]
   simp[R.me (m:= "whole") rfl,e1,h]
 ·refine .inr ⟨M1,?_,g1⟩
  simp only[aV,aQ,eZ]
  simp[R.me (m:= "whole") rfl,e1]
theorem Ci(R:aY M r l rows k)(hw:w.length≤50)(b:Int):(∃n M',cP [.ref r,.str (bM w),.int b] M= .ok (.int n) M'∧Gr M M')∨W6 k M (cP [.ref r,.str (bM w),.int b] M):=by
 rcases jQ R hw with⟨n,M1,e1,g1⟩ | ⟨M1,e1,g1⟩
 ·by_cases h:b≤n
  ·refine .inr ⟨M1,?_,g1⟩
   simp only[cP,cj,jk]
   simp[R.me (m:= "from_nought") rfl,e1,h,(R.gr g1).fh]
  ·refine .inl ⟨n,M1,?_,g1⟩
   simp only[cP,cj,jk]
   simp[R.me (m:= "from_nought") rfl,e1,h]
 ·refine .inr ⟨M1,?_,g1⟩
  simp only[cP,cj,jk]
  simp[R.me (m:= "from_nought") rfl,e1]
theorem Wf(R:aY M r l rows k)(hw:w.length≤50):(∃n M',gY [.ref r,.str (bM w)] M= .ok (.int n) M'∧Gr M M')∨W6 k M (gY [.ref r,.str (bM w)] M):=by
 rcases Ci R hw 60 with⟨n,M1,e1,g1⟩ | ⟨M1,e1,g1⟩
 ·refine .inl ⟨n,M1,?_,g1⟩
  simp only[gY,gk]
  simp[R.me (m:= "below") rfl,e1]
 ·refine .inr ⟨M1,?_,g1⟩
  simp only[gY,gk]
  simp[R.me (m:= "below") rfl,e1]
theorem Mv(R:aY M r l rows k){v:List Nat}(hw:w.length≤50)(hv:v.length≤50):(∃a b M',bK [.ref r,.str (bM w),.str (bM v)] M= .ok (.tup [.int a,.int b]) M'∧Gr M M')∨W6 k M (bK [.ref r,.str (bM w),.str (bM v)] M):=by
 have hs:∀M,UT (.int 1) (.int 60) M= .ok (.int 1152921504606846976) M:=fun M=>by rfl
 rcases Ci R hw 1152921504606846976 with⟨a,M1,e1,g1⟩ | ⟨M1,e1,g1⟩
 ·have R1:=R.gr g1
  rcases Ci R1 hv 1152921504606846976 with⟨b,M2,e2,g2⟩ | ⟨M2,e2,g2⟩
  ·have R2:=R1.gr g2
   by_cases h:a=0
   ·refine .inr ⟨M2,?_,g1.trans g2⟩
    simp only[bK,bD,dW]
    simp[R.me (m:= "below") rfl,R1.me (m:= "below") rfl,hs,e1,e2,h,R2.fh]
   ·refine .inl ⟨a,b,M2,?_,g1.trans g2⟩
    simp only[bK,bD,dW]
    simp[R.me (m:= "below") rfl,R1.me (m:= "below") rfl,hs,e1,e2,h]
  ·refine .inr ⟨M2,?_,g1.trans g2⟩
   simp only[bK,bD,dW]
   simp[R.me (m:= "below") rfl,R1.me (m:= "below") rfl,hs,e1,e2]
 ·refine .inr ⟨M1,?_,g1⟩
  simp only[bK,bD,dW]
  simp[R.me (m:= "below") rfl,hs,e1]
theorem Lr(R:aY M r l rows k)(hw:w.length≤50):(∃M',gf [.ref r,.str (bM w)] M= .ok (.str (bM w)) M'∧Gr M M')∨W6 k M (gf [.ref r,.str (bM w)] M):=by
 obtain⟨M1,e1,g1⟩:=Fo (M:=M) (w:=bM w) (by rw[qQ,uc];omega)
 rw[uc]at e1
 cases z:pI w with
 | true=>
  rw[z]at e1
  refine .inl ⟨M1,?_,g1⟩
  simp only[gf,dZ,nG]
  simp[e1]
 | false=>
  rw[z]at e1
  refine .inr ⟨M1,?_,g1⟩
  simp only[gf,dZ,nG]
  simp[e1,(R.gr g1).fh]
end
section
variable{M:Mem}{r l:Nat}{bw:List (List (List Nat))}{k:Int}{i:Nat}{ws:List (List Nat)}
theorem oH(R:aY M r l (bw.map bh) k)(hk:k=i+1)(h:bw[i]? = some ws)(hw:qY ws)(b:Str)(n:Int):
  (∃x M1,aU [.ref r,.str b,.int n] M= .ok (.ref x) M1∧M1[x]? = some (.lst (ts ws))∧Gr M M1∧(ws.length:Int)=n∧(ts ws)[0]? = some (.str b))∨W6 k M (aU [.ref r,.str b,.int n] M):=by
 obtain⟨x,M1,e1,h1,g1⟩:=Ba R hk h hw
 cases ws with
 | nil=>exact absurd rfl hw.1
 | cons w tl=>
  have e2:bx (.ref x) (.int 0) M1= .ok (.str (bM w)) M1:=d8 h1 (j:=0) rfl rfl
  have e3:kO [.ref x] M1= .ok (.int ((tl.length:Int)+1)) M1:=by rw[dJ h1];simp[ts]
  by_cases hb:bM w=b
  ·by_cases hn:(tl.length:Int)+1=n
   ·refine .inl ⟨x,M1,?_,h1,g1,by simpa using hn,by simp[ts,hb]⟩
    simp only[aU,a_,gO]
    simp[R.me (m:= "words") rfl,e1,e2,e3,hb,hn]
   ·refine .inr ⟨M1,?_,g1⟩
    simp only[aU,a_,gO]
    simp[R.me (m:= "words") rfl,e1,e2,e3,hb,hn,(R.gr g1).fh]
  ·refine .inr ⟨M1,?_,g1⟩
   simp only[aU,a_,gO]
   simp[R.me (m:= "words") rfl,e1,e2,hb,(R.gr g1).fh]
end
section
variable{M:Mem}{r l:Nat}{rows:List Str}{k:Int}
theorem Dz(R:aY M r l rows k)(hk:(rows.length:Int)<k):eY [.ref r] M= .exc 2 (.int k) M:=by
 simp only[eY,dm,pJ]
 simp[R.fr,R.fh,dJ R.k,hk]
theorem t_(R:aY M r l rows k)(hk:(rows.length:Int)<k)(b:Str):dD [.ref r,.str b] M= .exc 2 (.int k) M:=by
 simp only[dD,cU]
 simp[R.me (m:= "words") rfl,Dz R hk]
theorem Gg(R:aY M r l rows k)(hk:(rows.length:Int)<k)(b:Str)(n:Int):aU [.ref r,.str b,.int n] M= .exc 2 (.int k) M:=by
 simp only[aU,a_]
 simp[R.me (m:= "words") rfl,Dz R hk]
end
def ahk(r l:Nat)(rows:List Str)(k:Int)(M:Mem)(o:Out D):Prop:=(∃v M',o= .ok v M'∧aY M' r l rows (k+1)∧Ch (· = r) M M')∨∃M',o= .exc 2 (.int k) M'∧Ch (· = r) M M'
theorem ale{α:Type}{l:List α}(h:l.length=2):∃a b,l=[a,b]:=by
 match l,h with
 | [a,b],_=>exact⟨a,b,rfl⟩
theorem Yw{α:Type}{l:List α}(h:l.length=3):∃a b c,l=[a,b,c]:=by
 match l,h with
 | [a,b,c],_=>exact⟨a,b,c,rfl⟩
theorem ald{α:Type}{l:List α}(h:l.length=4):∃a b c d,l=[a,b,c,d]:=by
 match l,h with
 | [a,b,c,d],_=>exact⟨a,b,c,d,rfl⟩
theorem alc{α:Type}{l:List α}(h:l.length=5):∃a b c d e,l=[a,b,c,d,e]:=by
 match l,h with
 | [a,b,c,d,e],_=>exact⟨a,b,c,d,e,rfl⟩
section
variable{M:Mem}{r l:Nat}{bw:List (List (List Nat))}{k:Int}{i:Nat}{ws:List (List Nat)}
theorem Gq(R:aY M r l (bw.map bh) k)(hk:k=i+1)(h:bw[i]? = some ws)(hw:qY ws):ahk r l (bw.map bh) k M (gW [.ref r] M):=by
 rcases oH R hk h hw "book" 3 with⟨x,M1,e1,h1,g1,hl,_⟩ | ⟨M1,e1,g1⟩
 ·obtain⟨w0,w1,w2,rfl⟩:=Yw (l:=ws) (by omega)
  have R1:=R.gr g1
  have l1:w1.length≤50:=(hw.2.2 w1 (by simp)).2.2
  have l2:w2.length≤50:=(hw.2.2 w2 (by simp)).2.2
  have i2:bx (.ref x) (.int 2) M1= .ok (.str (bM w2)) M1:=d8 h1 (j:=2) rfl rfl
  have hv:(∃v M2,gj [some (.ref r),some (.ref x),some .non,none] M1= .next [some (.ref r),some (.ref x),some v,none] M2∧Gr M1 M2)∨∃M2,gj [some (.ref r),some (.ref x),some .non,none] M1= .exc 2 (.int k) [some (.ref r),some (.ref x),some .non,none] M2∧Gr M1 M2:=by
   by_cases hm:bM w2=("-" : Str)
   ·exact .inl ⟨.non,M1,by simp only[gj];simp[i2,hm],Gr.refl⟩
   ·rcases Wf R1 l2 with⟨n,M2,e2,g2⟩ | ⟨M2,e2,g2⟩
    ·exact .inl ⟨.int n,M2,by simp only[gj];simp[i2,hm,R1.me (m:= "hand") rfl,e2],g2⟩
    ·exact .inr ⟨M2,by simp only[gj];simp[i2,hm,R1.me (m:= "hand") rfl,e2],g2⟩
  rcases hv with⟨v,M2,e2,g2⟩ | ⟨M2,e2,g2⟩
  ·have R2:=R1.gr g2
   have i1:bx (.ref x) (.int 1) M2= .ok (.str (bM w1)) M2:=d8 (g2 _ _ h1) (j:=1) rfl rfl
   rcases jQ R2 l1 with⟨n,M3,e3,g3⟩ | ⟨M3,e3,g3⟩
   ·have R3:=R2.gr g3
    obtain⟨M4,e4,R4,c4,_⟩:=mL R3
    refine .inl ⟨.tup [.int n,v],M4,?_,R4,((g1.trans g2).trans g3).ch.trans c4⟩
    simp only[gW,gJ]
    simp[R.me (m:= "words_of") rfl,e1,e2,i1,R2.me (m:= "from_nought") rfl,e3,R3.me (m:= "go_on") rfl,e4]
   ·refine .inr ⟨M3,?_,((g1.trans g2).trans g3).ch⟩
    simp only[gW,gJ]
    simp[R.me (m:= "words_of") rfl,e1,e2,i1,R2.me (m:= "from_nought") rfl,e3]
  ·refine .inr ⟨M2,?_,(g1.trans g2).ch⟩
   simp only[gW,gJ]
   simp[R.me (m:= "words_of") rfl,e1,e2]
 ·refine .inr ⟨M1,?_,g1.ch⟩
  simp only[gW,gJ]
  simp[R.me (m:= "words_of") rfl,e1]
theorem Gs(R:aY M r l (bw.map bh) k)(hk:k=i+1)(h:bw[i]? = some ws)(hw:qY ws):ahk r l (bw.map bh) k M (dR [.ref r] M):=by
 rcases oH R hk h hw "base" 5 with⟨x,M1,e1,h1,g1,hl,_⟩ | ⟨M1,e1,g1⟩
 ·obtain⟨w0,w1,w2,w3,w4,rfl⟩:=alc (l:=ws) (by omega)
  have R1:=R.gr g1
  have l1:w1.length≤50:=(hw.2.2 w1 (by simp)).2.2
  have l2:w2.length≤50:=(hw.2.2 w2 (by simp)).2.2
  have l3:w3.length≤50:=(hw.2.2 w3 (by simp)).2.2
  have l4:w4.length≤50:=(hw.2.2 w4 (by simp)).2.2
  have i1:bx (.ref x) (.int 1) M1= .ok (.str (bM w1)) M1:=d8 h1 (j:=1) rfl rfl
  rcases jQ R1 l1 with⟨n1,M2,e2,g2⟩ | ⟨M2,e2,g2⟩
  ·have R2:=R1.gr g2
   have i2:bx (.ref x) (.int 2) M2= .ok (.str (bM w2)) M2:=d8 (g2 _ _ h1) (j:=2) rfl rfl
   rcases jQ R2 l2 with⟨n2,M3,e3,g3⟩ | ⟨M3,e3,g3⟩
   ·have R3:=R2.gr g3
    have i3:bx (.ref x) (.int 3) M3= .ok (.str (bM w3)) M3:=d8 (g3 _ _ (g2 _ _ h1)) (j:=3) rfl rfl
    have i4:bx (.ref x) (.int 4) M3= .ok (.str (bM w4)) M3:=d8 (g3 _ _ (g2 _ _ h1)) (j:=4) rfl rfl
    rcases Mv R3 l3 l4 with⟨a,b,M4,e4,g4⟩ | ⟨M4,e4,g4⟩
    ·have R4:=R3.gr g4
     obtain⟨M5,e5,R5,c5,_⟩:=mL R4
     refine .inl ⟨.tup [.int n1,.int n2,.tup [.int a,.int b]],M5,?_,R5,(((g1.trans g2).trans g3).trans g4).ch.trans c5⟩
     simp only[dR,dX]
     simp[R.me (m:= "words_of") rfl,e1,i1,R1.me (m:= "from_nought") rfl,e2,i2,R2.me (m:= "from_nought") rfl,e3,i3,i4,R3.me (m:= "both_sets") rfl,e4,R4.me (m:= "go_on") rfl,e5]
    ·refine .inr ⟨M4,?_,(((g1.trans g2).trans g3).trans g4).ch⟩
     simp only[dR,dX]
     simp[R.me (m:= "words_of") rfl,e1,i1,R1.me (m:= "from_nought") rfl,e2,i2,R2.me (m:= "from_nought") rfl,e3,i3,i4,R3.me (m:= "both_sets") rfl,e4]
   ·refine .inr ⟨M3,?_,((g1.trans g2).trans g3).ch⟩
    simp only[dR,dX]
    simp[R.me (m:= "words_of") rfl,e1,i1,R1.me (m:= "from_nought") rfl,e2,i2,R2.me (m:= "from_nought") rfl,e3]
  ·refine .inr ⟨M2,?_,(g1.trans g2).ch⟩
   simp only[dR,dX]
   simp[R.me (m:= "words_of") rfl,e1,i1,R1.me (m:= "from_nought") rfl,e2]
 ·refine .inr ⟨M1,?_,g1.ch⟩
  simp only[dR,dX]
  simp[R.me (m:= "words_of") rfl,e1]
theorem O6(R:aY M r l (bw.map bh) k)(hk:k=i+1)(h:bw[i]? = some ws)(hw:qY ws)(hbad:∀w,(ts ws)=[.str "end",.str (bM w)]→PySem.intText? (bM w)≠some (k - 1)):W6 k M (fC [.ref r] M):=by
 rcases oH R hk h hw "end" 2 with⟨x,M1,e1,h1,g1,hl,h0⟩ | ⟨M1,e1,g1⟩
 ·obtain⟨w0,w1,rfl⟩:=ale (l:=ws) (by omega)
  have R1:=R.gr g1
  have l1:w1.length≤50:=(hw.2.2 w1 (by simp)).2.2
  have i1:bx (.ref x) (.int 1) M1= .ok (.str (bM w1)) M1:=d8 h1 (j:=1) rfl rfl
  rcases rJ R1 l1 with⟨n,M2,e2,g2,_,hn⟩ | ⟨M2,e2,g2⟩
  ·have R2:=R1.gr g2
   have hne:¬(n=k - 1):=fun z=>hbad w1 (by simp[ts]at h0 ⊢;exact h0) (by rw[hn,z])
   refine⟨M2,?_,g1.trans g2⟩
   simp only[fC,cT,kh]
   simp[R.me (m:= "words_of") rfl,e1,i1,R1.me (m:= "whole") rfl,e2,R2.fh,hne]
  ·refine⟨M2,?_,g1.trans g2⟩
   simp only[fC,cT,kh]
   simp[R.me (m:= "words_of") rfl,e1,i1,R1.me (m:= "whole") rfl,e2]
 ·refine⟨M1,?_,g1⟩
  simp only[fC,cT]
  simp[R.me (m:= "words_of") rfl,e1]
end
def Rj(r l q:Nat)(rows:List Str)(k:Int)(M:Mem)(o:jK):Prop:=(∃a b M',o= .next [some (.ref r),some (.ref q),a,b] M'∧aY M' r l rows (k+1)∧Ch (fun j=>j=r∨j=q) M M')∨∃en M',o= .exc 2 (.int k) en M'∧Ch (fun j=>j=r∨j=q) M M'
theorem DK{M:Mem}{r q x l:Nat}{k:Int}{rows:List Str}{done:List (List Nat×Int)}(R:aY M r l rows k)(hq:M[q]? = some (.lst (done.map wN)))(w:List Nat)(n:Int):
  iI [some (.ref r),some (.ref q),some (.ref x),some (.tup [.str (bM w),.int n])] M= .next [some (.ref r),some (.ref q),some (.ref x),some (.tup [.str (bM w),.int n])] M∨
  iI [some (.ref r),some (.ref q),some (.ref x),some (.tup [.str (bM w),.int n])] M= .exc 2 (.int k) [some (.ref r),some (.ref q),some (.ref x),some (.tup [.str (bM w),.int n])] M:=by
 simp only[iI]
 by_cases h0:n=0
 ·right;simp[h0,R.fh]
 ·by_cases hd:done=[]
  ·subst hd
   left;simp[h0,dJ hq]
  ·obtain⟨m,a,rfl⟩:=yw done hd
   have e1:bx (.ref q) (.int (-1)) M= .ok (wN a) M:=zX hq (k:=m.length) (by simp) (by simp)
   have e2:XF (.str (bM w)) (.str (bM a.1)) M= .ok (.bl (!decide (a.1<w))) M:=by
    rw[ZF]
    simp only[bz]
   have e3:kO [.ref q] M= .ok (.int ((m.length:Int)+1)) M:=by rw[dJ hq];simp
   have h3:(0:Int)<(m.length:Int)+1:=by omega
   cases z:decide (a.1<w)with
   | true=>rw[z]at e2;left;simp[h0,e3,h3,e1,wN,e2]
   | false=>rw[z]at e2;right;simp[h0,e3,h3,e1,wN,e2,R.fh]
theorem Gh{M:Mem}{r l q i:Nat}{k:Int}{bw:List (List (List Nat))}{ws:List (List Nat)}{done:List (List Nat×Int)}{y2 y3:Option D}(R:aY M r l (bw.map bh) k)(hk:k=i+1)(h:bw[i]? = some ws)(hw:qY ws)
  (hq:M[q]? = some (.lst (done.map wN))) (hd:done.length<1000) (Fp:q≠r) (hql:q≠l):Rj r l q (bw.map bh) k M (bN [some (.ref r),some (.ref q),y2,y3] M):=by
 rcases oH R hk h hw "value" 3 with⟨x,M1,e1,h1,g1,hl,_⟩ | ⟨M1,e1,g1⟩
 ·obtain⟨w0,w1,w2,rfl⟩:=Yw (l:=ws) (by omega)
  have R1:=R.gr g1
  have l1:w1.length≤50:=(hw.2.2 w1 (by simp)).2.2
  have l2:w2.length≤50:=(hw.2.2 w2 (by simp)).2.2
  have i1:bx (.ref x) (.int 1) M1= .ok (.str (bM w1)) M1:=d8 h1 (j:=1) rfl rfl
  rcases Lr R1 l1 with⟨M2,e2,g2⟩ | ⟨M2,e2,g2⟩
  ·have R2:=R1.gr g2
   have i2:bx (.ref x) (.int 2) M2= .ok (.str (bM w2)) M2:=d8 (g2 _ _ h1) (j:=2) rfl rfl
   rcases rJ R2 l2 with⟨n,M3,e3,g3,_⟩ | ⟨M3,e3,g3⟩
   ·have R3:=R2.gr g3
    have q3:=g3 _ _ (g2 _ _ (g1 _ _ hq))
    rcases DK (x:=x) R3 q3 w1 n with ck | ck
    ·have e4:=gq (d:= .tup [.str (bM w1),.int n]) q3 (by rw[List.length_map];omega)
     obtain⟨M4,wW⟩:∃M4,M4=M3.set q (.lst (done.map wN++[.tup [.str (bM w1),.int n]])):=⟨_,rfl⟩
     have R4:aY M4 r l (bw.map bh) k:=by
      have c:Ch (· = q) M3 M4:=by rw[wW];exact Ch.set rfl
      exact R3.ch c (Ne.symm Fp) (Ne.symm hql)
     have c4:Ch (fun j=>j=r∨j=q) M3 M4:=by rw[wW];exact Ch.set (.inr rfl)
     obtain⟨M5,e5,R5,c5,_⟩:=mL R4
     refine .inl ⟨some (.ref x),some (.tup [.str (bM w1),.int n]),M5,?_,R5,((g1.trans g2).trans g3).ch.trans (c4.trans (c5.mono fun j _ z=> .inl z))⟩
     simp only[bN]
     rw[←wW]at e4
     simp[R.me (m:= "words_of") rfl,e1,i1,R1.me (m:= "name") rfl,e2,i2,R2.me (m:= "whole") rfl,e3,ck,iJ q3,e4,R4.me (m:= "go_on") rfl,e5]
    ·refine .inr ⟨[some (.ref r),some (.ref q),some (.ref x),some (.tup [.str (bM w1),.int n])],M3,?_,((g1.trans g2).trans g3).ch⟩
     ·simp only[bN]
      simp[R.me (m:= "words_of") rfl,e1,i1,R1.me (m:= "name") rfl,e2,i2,R2.me (m:= "whole") rfl,e3,ck]
   ·refine .inr ⟨[some (.ref r),some (.ref q),some (.ref x),y3],M3,?_,((g1.trans g2).trans g3).ch⟩
    simp only[bN]
    simp[R.me (m:= "words_of") rfl,e1,i1,R1.me (m:= "name") rfl,e2,i2,R2.me (m:= "whole") rfl,e3]
  ·refine .inr ⟨[some (.ref r),some (.ref q),some (.ref x),y3],M2,?_,(g1.trans g2).ch⟩
   simp only[bN]
   simp[R.me (m:= "words_of") rfl,e1,i1,R1.me (m:= "name") rfl,e2]
 ·refine .inr ⟨[some (.ref r),some (.ref q),y2,y3],M1,?_,g1.ch⟩
  simp only[bN]
  simp[R.me (m:= "words_of") rfl,e1]
theorem Lp{M:Mem}{r l y:Nat}{rows:List Str}{k:Int}(R:aY M r l rows k)(us:List (List Nat))(hu:∀u∈us,u.length≤50)(hy:M[y]? = some (.lst (ts us))):
  (∃(x:Nat) (ns:List Int) (M':Mem),oE (some (y,ts us)) oV (cL 3 "whole" aZ 2 [] (az 1) (aq (az 0) aH)) [some (.ref r)] (ts us) [] M= .ok (.ref x) M'∧M'[x]? = some (.lst (ns.map D.int))∧Gr M M'∧ns.length=us.length)∨
  W6 k M (oE (some (y,ts us)) oV (cL 3 "whole" aZ 2 [] (az 1) (aq (az 0) aH)) [some (.ref r)] (ts us) [] M):=by
 rcases HH (src:=some (y,ts us)) (te:=cL 3 "whole" aZ 2 [] (az 1) (aq (az 0) aH)) (ce:=[some (.ref r)]) (c:=2) (x:= .int k) (fun M'=>Gr M M') (fun y=>∃n,y=D.int n)
  (fun M' (g:Gr M M')=>dU (g _ _ hy)) (ts us) (ys:=[]) (M:=M) Gr.refl (fun d hd M2 (g:Gr M M2)=>by
   obtain⟨u,hm,rfl⟩:=List.mem_map.mp hd
   have R2:=R.gr g
   rcases rJ R2 (hu u hm)with⟨n,M3,e3,g3,_⟩ | ⟨M3,e3,g3⟩
   ·exact .inl ⟨.int n,M3,by simp[R2.me (m:= "whole") rfl,e3],g.trans g3,n,rfl⟩
   ·exact .inr ⟨M3,by simp[R2.me (m:= "whole") rfl,e3],g.trans g3⟩) (fun y hy=>by simp at hy)with⟨ys,M',e,g,hv,hl⟩ | ⟨M',e,g⟩
 ·have hn:∃ns:List Int,ys=ns.map D.int:=by
   clear e hl
   induction ys with
   | nil=>exact⟨[],rfl⟩
   | cons y r ih=>
    obtain⟨n,rfl⟩:=hv y (by simp)
    obtain⟨ns,rfl⟩:=ih fun z hz=>hv z (by simp[hz])
    exact⟨n::ns,rfl⟩
  obtain⟨ns,rfl⟩:=hn
  refine .inl ⟨_,ns,_,e,bf,g.trans Gr.app,?_⟩
  simp[ts]at hl
  omega
 ·exact .inr ⟨M',e,g⟩
theorem Gz{M:Mem}{r q x l:Nat}{k:Int}{rows:List Str}{done:List ((Int×Int)×Int)}(R:aY M r l rows k)(hq:M[q]? = some (.lst (done.map wR)))(a b c:Int):
  g_ [some (.ref r),some (.ref q),some (.ref x),some (.tup [.int a,.int b,.int c])] M= .next [some (.ref r),some (.ref q),some (.ref x),some (.tup [.int a,.int b,.int c])] M∨
  g_ [some (.ref r),some (.ref q),some (.ref x),some (.tup [.int a,.int b,.int c])] M= .exc 2 (.int k) [some (.ref r),some (.ref q),some (.ref x),some (.tup [.int a,.int b,.int c])] M:=by
 simp only[g_]
 by_cases hd:done=[]
 ·subst hd
  left;simp[dJ hq]
 ·obtain⟨m,p,rfl⟩:=yw done hd
  have e1:bx (.ref q) (.int (-1)) M= .ok (wR p) M:=zX hq (k:=m.length) (by simp) (by simp)
  have e2:XF (.tup [.int a,.int b]) (.tup [.int p.1.1,.int p.1.2]) M= .ok (.bl (W7.LC [a,b] [p.1.1,p.1.2])) M:=ZD (is:=[a,b]) (js:=[p.1.1,p.1.2]) rfl rfl
  have e3:kO [.ref q] M= .ok (.int ((m.length:Int)+1)) M:=by rw[dJ hq];simp
  have h3:(0:Int)<(m.length:Int)+1:=by omega
  cases z:W7.LC [a,b] [p.1.1,p.1.2]with
  | true=>rw[z]at e2;right;simp[e3,h3,e1,wR,NT,e2,R.fh]
  | false=>rw[z]at e2;left;simp[e3,h3,e1,wR,NT,e2]
theorem Kr{M:Mem}{r l q i:Nat}{k:Int}{bw:List (List (List Nat))}{ws:List (List Nat)}{done:List ((Int×Int)×Int)}{y2 y3:Option D}(R:aY M r l (bw.map bh) k)(hk:k=i+1)(h:bw[i]? = some ws)(hw:qY ws)
  (hq:M[q]? = some (.lst (done.map wR))) (hd:done.length<1000) (Fp:q≠r) (hql:q≠l):Rj r l q (bw.map bh) k M (bW [some (.ref r),some (.ref q),y2,y3] M):=by
 rcases oH R hk h hw "answer" 4 with⟨x,M1,e1,h1,g1,hl,_⟩ | ⟨M1,e1,g1⟩
 ·obtain⟨w0,w1,w2,w3,rfl⟩:=ald (l:=ws) (by omega)
  have R1:=R.gr g1
  have s1:Ge (.ref x) (some 1) none M1= .ok (.ref M1.length) (M1++[.lst (ts [w1,w2,w3])]):=by
   rw[tR h1]
   have:cut (ts [w0,w1,w2,w3]) (some 1) none=ts [w1,w2,w3]:=Z3
   rw[this]
  obtain⟨M2,BW⟩:∃M2,M2=M1++[MO.lst (ts [w1,w2,w3])]:=⟨_,rfl⟩
  have h2:M2[M1.length]? = some (.lst (ts [w1,w2,w3])):=by rw[BW];exact bf
  have g2:Gr M1 M2:=by rw[BW];exact Gr.app
  rw[←BW]at s1
  have R2:=R1.gr g2
  have ec:o8 [0] [some (D.ref r),some (.ref q),some (.ref x),y3]=[some (.ref r)]:=rfl
  rcases Lp R2 [w1,w2,w3] (fun u hu=>(hw.2.2 u (by simp at hu ⊢;exact .inr hu)).2.2) h2 with⟨z,ns,M3,e3,h3,g3,hn⟩ | ⟨M3,e3,g3⟩
  ·obtain⟨a,b,c,rfl⟩:=Yw (l:=ns) (by simpa using hn)
   have R3:=R2.gr g3
   have q3:=g3 _ _ (g2 _ _ (g1 _ _ hq))
   have et:oN [.ref z] M3= .ok (.tup [.int a,.int b,.int c]) M3:=jc h3
   rcases Gz (x:=x) R3 q3 a b c with ck | ck
   ·have e4:=gq (d:= .tup [.int a,.int b,.int c]) q3 (by rw[List.length_map];omega)
    obtain⟨M4,wW⟩:∃M4,M4=M3.set q (.lst (done.map wR++[.tup [.int a,.int b,.int c]])):=⟨_,rfl⟩
    have R4:aY M4 r l (bw.map bh) k:=by
     have c:Ch (· = q) M3 M4:=by rw[wW];exact Ch.set rfl
     exact R3.ch c (Ne.symm Fp) (Ne.symm hql)
    have c4:Ch (fun j=>j=r∨j=q) M3 M4:=by rw[wW];exact Ch.set (.inr rfl)
    obtain⟨M5,e5,R5,c5,_⟩:=mL R4
    refine .inl ⟨some (.ref x),some (.tup [.int a,.int b,.int c]),M5,?_,R5,((g1.trans g2).trans g3).ch.trans (c4.trans (c5.mono fun j _ z=> .inl z))⟩
    simp only[bW]
    rw[←wW]at e4
    simp[R.me (m:= "words_of") rfl,e1,s1,mK h2,ec,e3,et,ck,iJ q3,e4,R4.me (m:= "go_on") rfl,e5]
   ·refine .inr ⟨[some (.ref r),some (.ref q),some (.ref x),some (.tup [.int a,.int b,.int c])],M3,?_,((g1.trans g2).trans g3).ch⟩
    simp only[bW]
    simp[R.me (m:= "words_of") rfl,e1,s1,mK h2,ec,e3,et,ck]
  ·refine .inr ⟨[some (.ref r),some (.ref q),some (.ref x),y3],M3,?_,((g1.trans g2).trans g3).ch⟩
   simp only[bW]
   simp[R.me (m:= "words_of") rfl,e1,s1,mK h2,ec,e3]
 ·refine .inr ⟨[some (.ref r),some (.ref q),y2,y3],M1,?_,g1.ch⟩
  simp only[bW]
  simp[R.me (m:= "words_of") rfl,e1]
theorem Xm(z:Str):wO z [("put",3),("add",3),("swap",4)]= .non∨wO z [("put",3),("add",3),("swap",4)]= .int 3∨wO z [("put",3),("add",3),("swap",4)]= .int 4:=by
 simp only[wO]
 split
 ·exact .inr (.inl rfl)
 ·split
  ·exact .inr (.inl rfl)
  ·split
   ·exact .inr (.inr rfl)
   ·exact .inl rfl
theorem abh{n:Int}{M:Mem}:sNe .non (.int n) M= .ok (.bl true) M:=N_ (b:=false) (by rw[BX (a:= .non) (b:= .int n) rfl rfl];unfold cF;rfl)
section
variable{M:Mem}{r l y:Nat}{rows:List Str}{k:Int}{us:List (List Nat)}
theorem En(R:aY M r l rows k)(hu:∀u∈us,u.length≤50)(h0:us≠[])(hy:M[y]? = some (.lst (ts us))):(∃v M',gb [.ref r,.ref y] M= .ok v M'∧Gr M M')∨W6 k M (gb [.ref r,.ref y] M):=by
 cases us with
 | nil=>exact absurd rfl h0
 | cons a tl=>
  have i0:bx (.ref y) (.int 0) M= .ok (.str (bM a)) M:=d8 hy (j:=0) rfl rfl
  obtain⟨L,hL⟩:∃L:Int,L=(tl.length:Int)+1:=⟨_,rfl⟩
  have ln:kO [.ref y] M= .ok (.int L) M:=by rw[dJ hy,hL];simp[ts]
  have hc:(sNe (wO (bM a) [("put",3),("add",3),("swap",4)]) (.int L) M= .ok (.bl true) M)∨(sNe (wO (bM a) [("put",3),("add",3),("swap",4)]) (.int L) M= .ok (.bl false) M∧2≤tl.length∧tl.length≤3):=by
   rcases Xm (bM a)with e | e | e
   ·exact .inl (by rw[e];exact abh)
   ·rw[e,Qh]
    by_cases q:(3:Int)=L
    ·exact .inr ⟨by simp[q],by omega,by omega⟩
    ·exact .inl (by simp[q])
   ·rw[e,Qh]
    by_cases q:(4:Int)=L
    ·exact .inr ⟨by simp[q],by omega,by omega⟩
    ·exact .inl (by simp[q])
  rcases hc with hc | ⟨hc,hl,hl3⟩
  ·refine .inr ⟨M,?_,Gr.refl⟩
   simp only[gb,e_,jj]
   simp[i0,ln,hc,R.fh]
  ·cases tl with
   | nil=>simp at hl
   | cons b tl=>
    have s2:Ge (.ref y) (some 2) none M= .ok (.ref M.length) (M++[.lst (ts tl)]):=by
     rw[tR hy]
     have:cut (ts (a::b::tl)) (some 2) none=ts tl:=Q8
     rw[this]
    obtain⟨M1,yF⟩:∃M1,M1=M++[MO.lst (ts tl)]:=⟨_,rfl⟩
    have h1:M1[M.length]? = some (.lst (ts tl)):=by rw[yF];exact bf
    have g1:Gr M M1:=by rw[yF];exact Gr.app
    rw[←yF]at s2
    have R1:=R.gr g1
    have ec:o8 [0] [some (D.ref r),some (.ref y),none]=[some (.ref r)]:=rfl
    rcases Lp R1 tl (fun u hm=>hu u (by simp[hm])) h1 with⟨z,ns,M2,e2,h2,g2,hn⟩ | ⟨M2,e2,g2⟩
    ·have R2:=R1.gr g2
     have i0':bx (.ref y) (.int 0) M2= .ok (.str (bM a)) M2:=d8 (g2 _ _ (g1 _ _ hy)) (j:=0) rfl rfl
     have i1:bx (.ref y) (.int 1) M2= .ok (.str (bM b)) M2:=d8 (g2 _ _ (g1 _ _ hy)) (j:=1) rfl rfl
     rcases Lr R2 (hu b (by simp))with⟨M3,e3,g3⟩ | ⟨M3,e3,g3⟩
     ·have e4:oN [.ref z] M3= .ok (.tup (ns.map D.int)) M3:=jc (g3 _ _ h2)
      have e5:j0 (.tup [.str (bM a),.str (bM b)]) (.tup (ns.map D.int)) M3= .ok (.tup ([.str (bM a),.str (bM b)]++ns.map D.int)) M3:=mH (by simp) (by simp at hl3 ⊢;omega)
      refine .inl ⟨.tup ([.str (bM a),.str (bM b)]++ns.map D.int),M3,?_,(g1.trans g2).trans g3⟩
      ·simp only[gb,e_,jj]
       simp[i0,ln,hc,s2,mK h1,ec,e2,i0',i1,R2.me (m:= "name") rfl,e3,e4,e5]
     ·refine .inr ⟨M3,?_,(g1.trans g2).trans g3⟩
      simp only[gb,e_,jj]
      simp[i0,ln,hc,s2,mK h1,ec,e2,i0',i1,R2.me (m:= "name") rfl,e3]
    ·refine .inr ⟨M2,?_,g1.trans g2⟩
     simp only[gb,e_,jj]
     simp[i0,ln,hc,s2,mK h1,ec,e2]
theorem Gn(R:aY M r l rows k)(hu:∀u∈us,u.length≤50)(hy:M[y]? = some (.lst (ts us))):(∃v M',bV [.ref r,.ref y] M= .ok v M'∧Gr M M'∧us≠[])∨W6 k M (bV [.ref r,.ref y] M):=by
 obtain⟨M1,yF⟩:∃M1,M1=M++[MO.lst [D.str "start"]]:=⟨_,rfl⟩
 have h1:M1[M.length]? = some (.lst [D.str "start"]):=by rw[yF];exact bf
 have g1:Gr M M1:=by rw[yF];exact Gr.app
 have y1:=g1 _ _ hy
 have R1:=R.gr g1
 have heq:∃b,sEq (.ref y) (.ref M.length) M1= .ok (.bl b) M1∧(us=[]→b=false):=by
  by_cases hl:us.length=1
  ·obtain⟨t1,q1⟩:=Ao (Iw us)
   obtain⟨t2,q2⟩:=Ao (k:=11) (ds:=[D.str "start"]) (fun d hd=>by simp at hd;subst hd;exact yC)
   have f:∀{n:Nat} {ds:List D} {tt:List Dt},M1[n]? = some (.lst ds)→tM (jM M1 11) ds=some tt→jM M1 12 (.ref n)=some (.lst tt):=fun{n ds tt} h q=>by
    show(match tX M1 n with | some ds=>(tM (jM M1 11) ds).map Dt.lst | none=>none)=_
    rw[dU h]
    show(tM (jM M1 11) ds).map Dt.lst=_
    rw[q]
    rfl
   exact⟨_,zf (BX (f y1 (q1 M1)) (f h1 (q2 M1))),fun z=>by rw[z]at hl;simp at hl⟩
  ·exact⟨false,zf (O7 y1 h1 (Iw _) (fun d hd=>by simp at hd;subst hd;exact yC) (by simpa[ts]using hl)),fun _=>rfl⟩
 obtain⟨b,he,hb⟩:=heq
 obtain⟨L,hL⟩:∃L:Int,L=(us.length:Int):=⟨_,rfl⟩
 have ln:kO [.ref y] M1= .ok (.int L) M1:=by rw[dJ y1,hL];simp[ts]
 cases b with
 | true=>
  refine .inl ⟨.tup [.str "start"],M1,?_,g1,fun z=>nomatch (hb z)⟩
  simp only[bV,bR,bZ]
  simp[←yF,he]
 | false=>
  by_cases h3:us.length=3
  ·obtain⟨a,b,c,rfl⟩:=Yw h3
   have ln3:kO [.ref y] M1= .ok (.int 3) M1:=by rw[ln,hL];rfl
   have i0:bx (.ref y) (.int 0) M1= .ok (.str (bM a)) M1:=d8 y1 (j:=0) rfl rfl
   by_cases hr:bM a= "roll"
   ·have i1:bx (.ref y) (.int 1) M1= .ok (.str (bM b)) M1:=d8 y1 (j:=1) rfl rfl
    have i2:bx (.ref y) (.int 2) M1= .ok (.str (bM c)) M1:=d8 y1 (j:=2) rfl rfl
    rcases Mv R1 (hu b (by simp)) (hu c (by simp))with⟨x1,x2,M2,e2,g2⟩ | ⟨M2,e2,g2⟩
    ·have e3:j0 (.tup [.str "roll"]) (.tup [.int x1,.int x2]) M2= .ok (.tup [.str "roll",.int x1,.int x2]) M2:=mH (by simp) (by simp)
     refine .inl ⟨.tup [.str "roll",.int x1,.int x2],M2,?_,g1.trans g2,by simp⟩
     simp only[bV,bR,bZ,cR]
     simp[←yF,he,ln3,i0,hr,i1,i2,R1.me (m:= "both_sets") rfl,e2,e3]
    ·refine .inr ⟨M2,?_,g1.trans g2⟩
     simp only[bV,bR,bZ,cR]
     simp[←yF,he,ln3,i0,hr,i1,i2,R1.me (m:= "both_sets") rfl,e2]
   ·refine .inr ⟨M1,?_,g1⟩
    simp only[bV,bR,bZ,cR,gh]
    simp[←yF,he,ln3,i0,hr,R1.fh]
  ·have n3:¬(L=3):=by omega
   by_cases h4:3<us.length
   ·have n4:(3:Int)<L:=by omega
    match us,h4 with
    | a::b::c::d::tl,_=>
     have i0:bx (.ref y) (.int 0) M1= .ok (.str (bM a)) M1:=d8 y1 (j:=0) rfl rfl
     by_cases hr:bM a= "ask"
     ·have i1:bx (.ref y) (.int 1) M1= .ok (.str (bM b)) M1:=d8 y1 (j:=1) rfl rfl
      rcases rJ R1 (hu b (by simp))with⟨x1,M2,e2,g2,_⟩ | ⟨M2,e2,g2⟩
      ·have R2:=R1.gr g2
       have i2:bx (.ref y) (.int 2) M2= .ok (.str (bM c)) M2:=d8 (g2 _ _ y1) (j:=2) rfl rfl
       rcases rJ R2 (hu c (by simp))with⟨x2,M3,e3,g3,_⟩ | ⟨M3,e3,g3⟩
       ·have R3:=R2.gr g3
        have s3:Ge (.ref y) (some 3) none M3= .ok (.ref M3.length) (M3++[.lst (ts (d::tl))]):=by
         rw[tR (g3 _ _ (g2 _ _ y1))]
         have:cut (ts (a::b::c::d::tl)) (some 3) none=ts (d::tl):=Z2
         rw[this]
        obtain⟨M4,wW⟩:∃M4,M4=M3++[MO.lst (ts (d::tl))]:=⟨_,rfl⟩
        have h4:M4[M3.length]? = some (.lst (ts (d::tl))):=by rw[wW];exact bf
        have g4:Gr M3 M4:=by rw[wW];exact Gr.app
        rw[←wW]at s3
        rcases En (R3.gr g4) (us:=d::tl) (fun u hm=>hu u (by simp at hm ⊢;exact .inr (.inr (.inr hm)))) (by simp) h4 with⟨v,M5,e5,g5⟩ | ⟨M5,e5,g5⟩
        ·refine .inl ⟨.tup [.str "ask",.int x1,.int x2,v],M5,?_,(((g1.trans g2).trans g3).trans g4).trans g5,by simp⟩
         simp only[bV,bR,bZ,cR,gh]
         simp[←yF,he,ln,n3,n4,i0,hr,i1,R1.me (m:= "whole") rfl,e2,i2,R2.me (m:= "whole") rfl,e3,s3,e5]
        ·refine .inr ⟨M5,?_,(((g1.trans g2).trans g3).trans g4).trans g5⟩
         simp only[bV,bR,bZ,cR,gh]
         simp[←yF,he,ln,n3,n4,i0,hr,i1,R1.me (m:= "whole") rfl,e2,i2,R2.me (m:= "whole") rfl,e3,s3,e5]
       ·refine .inr ⟨M3,?_,(g1.trans g2).trans g3⟩
        simp only[bV,bR,bZ,cR,gh]
        simp[←yF,he,ln,n3,n4,i0,hr,i1,R1.me (m:= "whole") rfl,e2,i2,R2.me (m:= "whole") rfl,e3]
      ·refine .inr ⟨M2,?_,g1.trans g2⟩
       simp only[bV,bR,bZ,cR,gh]
       simp[←yF,he,ln,n3,n4,i0,hr,i1,R1.me (m:= "whole") rfl,e2]
     ·refine .inr ⟨M1,?_,g1⟩
      simp only[bV,bR,bZ,cR,gh]
      simp[←yF,he,ln,n3,n4,i0,hr,R1.fh]
   ·have n4:¬((3:Int)<L):=by omega
    refine .inr ⟨M1,?_,g1⟩
    simp only[bV,bR,bZ,cR,gh]
    simp[←yF,he,ln,n3,n4,R1.fh]
end
theorem J_{M:Mem}{r l q i:Nat}{k:Int}{bw:List (List (List Nat))}{ws:List (List Nat)}{done:List (Int×Wt)}{y2 y3:Option D}(R:aY M r l (bw.map bh) k)(hk:k=i+1)(h:bw[i]? = some ws)(hw:qY ws)
  (hq:M[q]? = some (.lst (done.map Gf))) (hd:done.length<1000) (Fp:q≠r) (hql:q≠l):Rj r l q (bw.map bh) k M (cz [some (.ref r),some (.ref q),y2,y3] M):=by
 obtain⟨x,M1,e1,h1,g1⟩:=Ba R hk h hw
 have R1:=R.gr g1
 have alC:cut (ts ws) (some 2) none=ts (ws.drop 2):=by
  match ws with
  | []=>exact absurd rfl hw.1
  | [a]=>rfl
  | [a,b]=>rfl
  | a::b::c::tl=>exact Q8
 have s1:Ge (.ref x) (some 2) none M1= .ok (.ref M1.length) (M1++[.lst (ts (ws.drop 2))]):=by rw[tR h1,alC]
 obtain⟨M2,BW⟩:∃M2,M2=M1++[MO.lst (ts (ws.drop 2))]:=⟨_,rfl⟩
 have h2:M2[M1.length]? = some (.lst (ts (ws.drop 2))):=by rw[BW];exact bf
 have g2:Gr M1 M2:=by rw[BW];exact Gr.app
 rw[←BW]at s1
 have R2:=R1.gr g2
 rcases Gn R2 (us:=ws.drop 2) (fun u hm=>(hw.2.2 u (List.mem_of_mem_drop hm)).2.2) h2 with⟨v,M3,e3,g3,hne⟩ | ⟨M3,e3,g3⟩
 ·have R3:=R2.gr g3
  match ws,hne with
  | a::b::tl,_=>
   have i1:bx (.ref x) (.int 1) M3= .ok (.str (bM b)) M3:=d8 (g3 _ _ (g2 _ _ h1)) (j:=1) rfl rfl
   have t3:Di "list" (.ref q) M3=true:=iJ (g3 _ _ (g2 _ _ (g1 _ _ hq)))
   rcases jQ R3 (hw.2.2 b (by simp)).2.2 with⟨n,M4,e4,g4⟩ | ⟨M4,e4,g4⟩
   ·have R4:=R3.gr g4
    have q4:=g4 _ _ (g3 _ _ (g2 _ _ (g1 _ _ hq)))
    have e5:=gq (d:= .tup [.int n,v]) q4 (by rw[List.length_map];omega)
    obtain⟨M5,Wg⟩:∃M5,M5=M4.set q (.lst (done.map Gf++[.tup [.int n,v]])):=⟨_,rfl⟩
    have c5:Ch (fun j=>j=r∨j=q) M4 M5:=by rw[Wg];exact Ch.set (.inr rfl)
    have R5:aY M5 r l (bw.map bh) k:=by
     have c:Ch (· = q) M4 M5:=by rw[Wg];exact Ch.set rfl
     exact R4.ch c (Ne.symm Fp) (Ne.symm hql)
    obtain⟨M6,e6,R6,c6,_⟩:=mL R5
    refine .inl ⟨some (.ref x),some v,M6,?_,R6,(((g1.trans g2).trans g3).trans g4).ch.trans (c5.trans (c6.mono fun j _ z=> .inl z))⟩
    simp only[cz]
    rw[←Wg]at e5
    simp[R.me (m:= "words") rfl,e1,s1,e3,i1,R3.me (m:= "from_nought") rfl,e4,t3,e5,R5.me (m:= "go_on") rfl,e6]
   ·refine .inr ⟨[some (.ref r),some (.ref q),some (.ref x),some v],M4,?_,(((g1.trans g2).trans g3).trans g4).ch⟩
    simp only[cz]
    simp[R.me (m:= "words") rfl,e1,s1,e3,i1,R3.me (m:= "from_nought") rfl,e4,t3]
 ·refine .inr ⟨[some (.ref r),some (.ref q),some (.ref x),y3],M3,?_,((g1.trans g2).trans g3).ch⟩
  simp only[cz]
  simp[R.me (m:= "words") rfl,e1,s1,e3]
theorem Ke{c:MT}{t:MS}{r l q:Nat}{rows:List Str}{k:Int}{M:Mem}{y2 y3:Option D}{b:Bool}(R:aY M r l rows k)
  (hc:∃M0,c [some (.ref r),some (.ref q),y2,y3] M= .ok b M0∧Gr M M0) (ht:b=true→∀M0,Gr M M0→Rj r l q rows k M0 (t [some (.ref r),some (.ref q),y2,y3] M0))
  (hn:b=true→∀a b M',aY M' r l rows (k+1)→c [some (.ref r),some (.ref q),a,b] M'= .exc 2 (.int (k+1)) M'):
  (∃M',vg c t 2 [some (.ref r),some (.ref q),y2,y3] M= .next [some (.ref r),some (.ref q),y2,y3] M'∧Gr M M')∨
  ∃t' en M',vg c t 2 [some (.ref r),some (.ref q),y2,y3] M= .exc 2 (.int t') en M'∧b=true∧(t'=k∨t'=k+1)∧Ch (fun j=>j=r∨j=q) M M':=by
 obtain⟨M0,e0,g0⟩:=hc
 cases b with
 | false=>
  refine .inl ⟨M0,?_,g0⟩
  rw[vg,e0]
 | true=>
  rcases ht rfl M0 g0 with⟨a,b,M1,e1,R1,c1⟩ | ⟨en,M1,e1,c1⟩
  ·refine .inr ⟨k+1,[some (.ref r),some (.ref q),a,b],M1,?_,rfl,.inr rfl,g0.ch.trans c1⟩
   rw[vg,e0]
   simp only[e1]
   rw[vg,hn rfl a b M1 R1]
  ·refine .inr ⟨k,en,M1,?_,rfl,.inl rfl,g0.ch.trans c1⟩
   rw[vg,e0]
   simp only[e1]
theorem zY{α:Type}{aD:α→D}{aW:α→List (List Nat)}{Ok:α→Prop}{lt:α→α→Prop}{c:MT}{t:MS}{r l q:Nat}{bw:List (List (List Nat))}
  (turn:∀(M:Mem) (i:Nat) (done:List α) (p:α) (y2 y3:Option D),aY M r l (bw.map bh) ((i:Int)+1)→bw[i]? = some (aW p)→Ok p→M[q]? = some (.lst (done.map aD))→(∀a∈done,lt a p)→done.length<1000→
   ∃M0 M' z2 z3,c [some (.ref r),some (.ref q),y2,y3] M= .ok true M0∧t [some (.ref r),some (.ref q),y2,y3] M0= .next [some (.ref r),some (.ref q),z2,z3] M'∧aY M' r l (bw.map bh) ((i:Int)+1+1)∧M'[q]? = some (.lst ((done++[p]).map aD))∧Ch (fun j=>j=r∨j=q) M M')
  {more:List (List (List Nat))} {m:Nat}:∀(rest done:List α) (i:Nat) (M:Mem) (y2 y3:Option D),aY M r l (bw.map bh) ((i:Int)+1)→M[q]? = some (.lst (done.map aD))→bw.drop i=rest.map aW++more→(∀p∈rest,Ok p)→(done++rest).Pairwise lt→(done++rest).length<1000→
  ∃M' z2 z3,vg c t (rest.length+m) [some (.ref r),some (.ref q),y2,y3] M=vg c t m [some (.ref r),some (.ref q),z2,z3] M'∧aY M' r l (bw.map bh) (((i+rest.length:Nat):Int)+1)∧M'[q]? = some (.lst ((done++rest).map aD))∧Ch (fun j=>j=r∨j=q) M M'
 | [],done,i,M,y2,y3,R,hq,hd,_,_,_=>⟨M,y2,y3,by simp,by simpa using R,by simpa using hq,Ch.refl⟩
 | p::rest,done,i,M,y2,y3,R,hq,hd,ho,hs,hl=>by
  obtain⟨hw,hd'⟩:=mY (show bw.drop i=aW p::(rest.map aW++more) by simpa using hd)
  obtain⟨M0,M1,z2,z3,e0,e1,R1,q1,c1⟩:=turn M i done p y2 y3 R hw (ho p (by simp)) hq (fun a ha=>(List.pairwise_append.mp hs).2.2 a ha p (by simp)) (by simp at hl;omega)
  obtain⟨M2,x2,x3,e2,R2,q2,c2⟩:=zY turn (more:=more) (m:=m) rest (done++[p]) (i+1) M1 z2 z3 (by simpa using R1) q1 hd' (fun a ha=>ho a (by simp[ha])) (by simpa using hs) (by simpa using hl)
  refine⟨M2,x2,x3,?_,?_,by simpa using q2,c1.trans c2⟩
  ·rw[show(p::rest).length+m=rest.length+m+1 by simp;omega,vg,e0]
   simp only[e1]
   exact e2
  ·rw[show i+(p::rest).length=i+1+rest.length by simp;omega];exact R2
def Ph(r l:Nat)(rows:List Str)(k:Int)(M:Mem)(o:Out D):Prop:=∃t M',o= .exc 2 (.int t) M'∧(t=k∨t=k+1)∧Ch (· = r) M M'
theorem Th{r:Nat}{M M':Mem}{o:MO}(c:Ch (fun j=>j=r∨j=M.length) (M++[o]) M'):Ch (· = r) M M':=
 ⟨Nat.le_trans (by simp) c.1,fun j x nj h=>c.2 j x (fun z=>by have:=gZ h;rcases z with z | z;exact nj z;omega) (Gr.app _ _ h)⟩
section
variable{M:Mem}{r l i:Nat}{bw more:List (List (List Nat))}{w:List Nat}{tl:List (List Nat)}
theorem xP{ws:List (List Nat)}{j:Nat}(h:bw.drop j=[ws]):bw.length=j+1:=by
 have:=congrArg List.length h
 simp at this
 omega
theorem uN{α:Type}{aW:α→List (List Nat)}{rest:List α}{x:List (List (List Nat))}(h:bw.drop i=rest.map aW++x):bw.drop (i+rest.length)=x:=by
 rw[←List.drop_drop,h,List.drop_left' (by simp)]
theorem CZ{vs:List (List Nat×Int)}(R:aY M r l (bw.map bh) ((i:Int)+1))(hd:bw.drop i=vs.map A_++(w::tl)::more)(hp:qY (w::tl))(hn:bM w= "value" → more=[])(hv:∀p∈vs,GC p)(ho:vs.Pairwise fun p q=>p.1<q.1)(hl:vs.length<1000):
  (∃M',dj [.ref r] M= .ok (.tup (vs.map wN)) M'∧aY M' r l (bw.map bh) (((i+vs.length:Nat):Int)+1)∧Ch (· = r) M M')∨Ph r l (bw.map bh) bw.length M (dj [.ref r] M):=by
 have R0:aY (M++[.lst []]) r l (bw.map bh) ((i:Int)+1):=R.gr Gr.app
 have hr:=gZ R.o
 have hll:=gZ R.k
 obtain⟨M1,y2,y3,e1,R1,q1,c1⟩:=zY (aD:=wN) (aW:=A_) (Ok:=GC) (lt:=fun p q=>p.1<q.1) (c:=bO) (t:=bN) (q:=M.length) (fun M i done p y2 y3 R hw hp hq ho hd=>by
  obtain⟨M0,M',x,z⟩:=GZ (y2:=y2) (y3:=y3) R hw hp hq ho hd (by omega) (by omega)
  exact⟨M0,M',_,_,z⟩) (more:=(w::tl)::more) (m:=2) vs [] i (M++[.lst []]) none none R0 (by simp) hd hv (by simpa using ho) (by simpa using hl)
 have hdm:=uN hd
 obtain⟨hw,hd2⟩:=mY hdm
 obtain⟨M2,e2,g2⟩:=jH R1 rfl hw hp "value"
 rcases Ke (c:=bO) (t:=bN) (q:=M.length) (y2:=y2) (y3:=y3) (b:=decide (bM w= "value")) R1 ⟨M2,by simp only[bO];simp[R1.me (m:= "begins") rfl,e2],g2⟩
  (fun _ M0 g0=>Gh (R1.gr g0) rfl hw hp (g0 _ _ q1) (by simpa using hl) (by omega) (by omega))
  (fun hb a b M' R'=>by
   have hm:=hn (of_decide_eq_true hb)
   subst hm
   have QV:=xP hdm
   simp only[bO]
   simp[R'.me (m:= "begins") rfl,t_ R' (by simp;omega)])with⟨M3,e3,g3⟩ | ⟨t',en,M3,e3,hb,ht,c3⟩
 ·refine .inl ⟨M3,?_,R1.gr g3,Th (c1.trans g3.ch)⟩
  have ew:=jY (e1.trans e3) (fun z=>nomatch z)
  simp only[dj,dY,jL]
  simp[ew,jc (g3 _ _ q1)]
 ·have hm:=hn (of_decide_eq_true hb)
  subst hm
  have QV:=xP hdm
  refine .inr ⟨t',M3,?_,by omega,Th (c1.trans c3)⟩
  have ew:=jY (e1.trans e3) (fun z=>nomatch z)
  simp only[dj,dY,jL]
  simp[ew]
theorem Bp{as:List ((Int×Int)×Int)}(R:aY M r l (bw.map bh) ((i:Int)+1))(hd:bw.drop i=as.map zG++(w::tl)::more)(hp:qY (w::tl))(hn:bM w= "answer" → more=[])(hv:∀p∈as,Gd p)(ho:as.Pairwise Ks)(hl:as.length<1000):
  (∃M',eX [.ref r] M= .ok (.tup (as.map wR)) M'∧aY M' r l (bw.map bh) (((i+as.length:Nat):Int)+1)∧Ch (· = r) M M')∨Ph r l (bw.map bh) bw.length M (eX [.ref r] M):=by
 have R0:aY (M++[.lst []]) r l (bw.map bh) ((i:Int)+1):=R.gr Gr.app
 have hr:=gZ R.o
 have hll:=gZ R.k
 obtain⟨M1,y2,y3,e1,R1,q1,c1⟩:=zY (aD:=wR) (aW:=zG) (Ok:=Gd) (lt:=Ks) (c:=cB) (t:=bW) (q:=M.length) (fun M i done p y2 y3 R hw hp hq ho hd=>by
  obtain⟨M0,M',x,z⟩:=Mz (y2:=y2) (y3:=y3) R hw hp hq ho hd (by omega) (by omega)
  exact⟨M0,M',_,_,z⟩) (more:=(w::tl)::more) (m:=2) as [] i (M++[.lst []]) none none R0 (by simp) hd hv (by simpa using ho) (by simpa using hl)
 have hdm:=uN hd
 obtain⟨hw,hd2⟩:=mY hdm
 obtain⟨M2,e2,g2⟩:=jH R1 rfl hw hp "answer"
 rcases Ke (c:=cB) (t:=bW) (q:=M.length) (y2:=y2) (y3:=y3) (b:=decide (bM w= "answer")) R1 ⟨M2,by simp only[cB];simp[R1.me (m:= "begins") rfl,e2],g2⟩
  (fun _ M0 g0=>Kr (R1.gr g0) rfl hw hp (g0 _ _ q1) (by simpa using hl) (by omega) (by omega))
  (fun hb a b M' R'=>by
   have hm:=hn (of_decide_eq_true hb)
   subst hm
   have QV:=xP hdm
   simp only[cB]
   simp[R'.me (m:= "begins") rfl,t_ R' (by simp;omega)])with⟨M3,e3,g3⟩ | ⟨t',en,M3,e3,hb,ht,c3⟩
 ·refine .inl ⟨M3,?_,R1.gr g3,Th (c1.trans g3.ch)⟩
  have ew:=jY (e1.trans e3) (fun z=>nomatch z)
  simp only[eX,fj,lR]
  simp[ew,jc (g3 _ _ q1)]
 ·have hm:=hn (of_decide_eq_true hb)
  subst hm
  have QV:=xP hdm
  refine .inr ⟨t',M3,?_,by omega,Th (c1.trans c3)⟩
  have ew:=jY (e1.trans e3) (fun z=>nomatch z)
  simp only[eX,fj,lR]
  simp[ew]
theorem Bo{es:List (Int×Wt)}(R:aY M r l (bw.map bh) ((i:Int)+1))(hd:bw.drop i=es.map zx++[w::tl])(hp:qY (w::tl))(hv:∀p∈es,Ay p)(hl:es.length<1000):
  (∃q M',gC [.ref r] M= .ok (.ref q) M'∧M'[q]? = some (.lst (es.map Gf))∧aY M' r l (bw.map bh) bw.length∧Ch (· = r) M M')∨Ph r l (bw.map bh) bw.length M (gC [.ref r] M):=by
 have R0:aY (M++[.lst []]) r l (bw.map bh) ((i:Int)+1):=R.gr Gr.app
 have hr:=gZ R.o
 have hll:=gZ R.k
 obtain⟨M1,y2,y3,e1,R1,q1,c1⟩:=zY (aD:=Gf) (aW:=zx) (Ok:=Ay) (lt:=fun _ _=>True) (c:=cA) (t:=cz) (q:=M.length) (fun M i done p y2 y3 R hw hp hq ho hd=>by
  obtain⟨M0,M',x,z⟩:=Mh (y2:=y2) (y3:=y3) R hw hp hq hd (by omega) (by omega)
  exact⟨M0,M',_,_,z⟩) (more:=[w::tl]) (m:=2) es [] i (M++[.lst []]) none none R0 (by simp) hd hv (List.pairwise_iff_getElem.mpr fun _ _ _ _ _=>trivial) (by simpa using hl)
 have hdm:=uN hd
 have QV:=xP hdm
 obtain⟨hw,hd2⟩:=mY hdm
 obtain⟨M2,e2,g2⟩:=jH R1 rfl hw hp "at"
 rcases Ke (c:=cA) (t:=cz) (q:=M.length) (y2:=y2) (y3:=y3) (b:=decide (bM w= "at")) R1 ⟨M2,by simp only[cA];simp[R1.me (m:= "begins") rfl,e2],g2⟩
  (fun _ M0 g0=>J_ (R1.gr g0) rfl hw hp (g0 _ _ q1) (by simpa using hl) (by omega) (by omega))
  (fun hb a b M' R'=>by
   simp only[cA]
   simp[R'.me (m:= "begins") rfl,t_ R' (by simp;omega)])with⟨M3,e3,g3⟩ | ⟨t',en,M3,e3,hb,ht,c3⟩
 ·refine .inl ⟨M.length,M3,?_,g3 _ _ q1,by rw[show((bw.length:Nat):Int)=((i+es.length:Nat):Int)+1 by omega];exact R1.gr g3,Th (c1.trans g3.ch)⟩
  have ew:=jY (e1.trans e3) (fun z=>nomatch z)
  simp only[gC,fc,lQ]
  simp[ew]
 ·refine .inr ⟨t',M3,?_,by omega,Th (c1.trans c3)⟩
  have ew:=jY (e1.trans e3) (fun z=>nomatch z)
  simp only[gC,fc,lQ]
  simp[ew]
end
section
variable{M:Mem}{r l:Nat}{rows:List Str}{k:Int}
theorem Eo(R:aY M r l rows k)(hk:(rows.length:Int)<k):dR [.ref r] M= .exc 2 (.int k) M:=by
 simp only[dR,dX]
 simp[R.me (m:= "words_of") rfl,Gg R hk]
theorem Bm(R:aY M r l rows k)(hk:(rows.length:Int)<k):dj [.ref r] M= .exc 2 (.int k) (M++[.lst []]):=by
 have R0:aY (M++[.lst []]) r l rows k:=R.gr Gr.app
 have e:vg bO bN 1 [some (.ref r),some (.ref M.length),none,none] (M++[.lst []])= .exc 2 (.int k) [some (.ref r),some (.ref M.length),none,none] (M++[.lst []]):=by
  have ec:bO [some (.ref r),some (.ref M.length),none,none] (M++[.lst []])= .exc 2 (.int k) (M++[.lst []]):=by
   simp only[bO]
   simp[R0.me (m:= "begins") rfl,t_ R0 hk]
  rw[vg,ec]
 have ew:=jY e (fun z=>nomatch z)
 simp only[dj,dY,jL]
 simp[ew]
end
theorem Ss{as:List ((Int×Int)×Int)}{es:List (Int×Wt)}{w:List Nat}{tl:List (List Nat)}(ha:∀p∈as,Gd p)(he:∀p∈es,Ay p)(hc:qY (w::tl)):
  ∃w' tl' more,as.map zG++(es.map zx++[w::tl])=(w'::tl')::more∧qY (w'::tl')∧(bM w'= "value" → more=[]):=by
 cases as with
 | cons a r=>exact⟨W "answer",_,_,rfl,FT (ha a (by simp)),fun z=>absurd z (by simp;exact rD.2.2)⟩
 | nil=>
  cases es with
  | cons a r=>exact⟨W "at",_,_,rfl,zu (he a (by simp)),fun z=>absurd z (by simp;exact rD.2.1.1)⟩
  | nil=>exact⟨w,tl,[],rfl,hc,fun _=>rfl⟩
theorem VG{es:List (Int×Wt)}{w:List Nat}{tl:List (List Nat)}(he:∀p∈es,Ay p)(hc:qY (w::tl)):
  ∃w' tl' more,es.map zx++[w::tl]=(w'::tl')::more∧qY (w'::tl')∧(bM w'= "answer" → more=[]):=by
 cases es with
 | cons a r=>exact⟨W "at",_,_,rfl,zu (he a (by simp)),fun z=>absurd z (by simp;exact rD.2.1.2)⟩
 | nil=>exact⟨w,tl,[],rfl,hc,fun _=>rfl⟩
theorem WK{B:Bk}{j:Nat}{ws:List (List Nat)}:(B.body.take (j+2)++[ws]).drop 2=(B.vs.take j).map A_++((B.as.take (j - B.vs.length)).map zG++((B.es.take (j - B.vs.length - B.as.length)).map zx++[ws])):=by
 simp[Bk.body,List.take_append,List.map_take]
theorem RP{M:Mem}{B:Bk}(h:B.Ok){i:Nat}(hi:i≤B.body.length){w:List Nat}{tl:List (List Nat)}(hc:qY (w::tl))(hbad:∀v,ts (w::tl)=[.str "end",.str (bM v)]→PySem.intText? (bM v)≠some (i:Int)):
  ∃t M',cO [.str (Txt.join "\n" ((B.body.take i++[w::tl]).map bh))] M= .exc 2 (.int t) M'∧(t=(i:Int)+1∨t=(i:Int)+2)∧Gr M M':=by
 obtain⟨bw,BP⟩:∃bw,bw=B.body.take i++[w::tl]:=⟨_,rfl⟩
 have hb:=tD h
 have hlen:bw.length=i+1:=by rw[BP];simp;omega
 have hat:bw[i]? = some (w::tl):=by
  rw[BP,List.getElem?_append_right (by simp;omega)]
  simp[Nat.min_eq_left hi]
 have hw:∀ws∈bw,qY ws:=fun ws hm=>by
  rw[BP]at hm
  rcases List.mem_append.mp hm with q | q
  ·exact zM h ws (by unfold Bk.bw;exact List.mem_append_left _ (List.mem_of_mem_take q))
  ·rw[List.mem_singleton.mp q];exact hc
 have hT:(Txt.join "\n" (bw.map bh)).length+2≤16777216:=by have:=text_len hw (by omega);omega
 obtain⟨M1,e1,R1,g1,z1⟩:=Qq (M:=M) hT
 rw[yV (by rw[BP];simp) hw]at R1
 rw[←BP]
 have gr:∀{M':Mem},Ch (· = M.length) M1 M'→Gr M M':=fun{M'} c j o hj=>c.2 j o (Nat.ne_of_lt (gZ hj)) (g1 _ _ hj)
 match i,BP,hlen,hat,hi,hbad with
 | 0,BP,hlen,hat,hi,hbad=>
  rcases Gq R1 (i:=0) rfl hat hc with⟨v,M2,e2,R2,c2⟩ | ⟨M2,e2,c2⟩
  ·refine⟨2,M2,?_,.inr rfl,gr c2⟩
   have e3:=Eo R2 (by simp;omega)
   simp only[cO,cC]
   simp[e1,e2,e3]
  ·refine⟨1,M2,?_,.inl rfl,gr c2⟩
   simp only[cO,cC]
   simp[e1,e2]
 | 1,BP,hlen,hat,hi,hbad=>
  obtain⟨M2,e2,R2,c2⟩:=ug h (by rw[BP];rfl) R1
  rcases Gs R2 (i:=1) rfl hat hc with⟨v,M3,e3,R3,c3⟩ | ⟨M3,e3,c3⟩
  ·refine⟨3,M3++[.lst []],?_,.inr rfl,gr ((c2.trans c3).trans Gr.app.ch)⟩
   have e4:=Bm R3 (by simp;omega)
   simp only[cO,cC]
   simp[e1,e2,e3,e4]
  ·refine⟨2,M3,?_,.inl rfl,gr (c2.trans c3)⟩
   simp only[cO,cC]
   simp[e1,e2,e3]
 | j+2,BP,hlen,hat,hi,hbad=>
  obtain⟨M2,e2,R2,c2⟩:=ug h (by rw[BP];rfl) R1
  obtain⟨M3,e3,R3,c3⟩:=yK h (by rw[BP];rfl) R2
  have c23:=c2.trans c3
  have d2:bw.drop 2=(B.vs.take j).map A_++((B.as.take (j - B.vs.length)).map zG++((B.es.take (j - B.vs.length - B.as.length)).map zx++[w::tl])):=by rw[BP];exact WK
  obtain⟨vs,hvs⟩:∃vs,vs=B.vs.take j:=⟨_,rfl⟩
  obtain⟨as,has⟩:∃as,as=B.as.take (j - B.vs.length):=⟨_,rfl⟩
  obtain⟨es,hes⟩:∃es,es=B.es.take (j - B.vs.length - B.as.length):=⟨_,rfl⟩
  rw[←hvs,←has,←hes]at d2
  have ov:∀p∈vs,GC p:=fun p hp=>h.vs p (by rw[hvs]at hp;exact List.mem_of_mem_take hp)
  have oa:∀p∈as,Gd p:=fun p hp=>h.as p (by rw[has]at hp;exact List.mem_of_mem_take hp)
  have oe:∀p∈es,Ay p:=fun p hp=>h.es p (by rw[hes]at hp;exact List.mem_of_mem_take hp)
  have lv:vs.length<1000:=by have:=h.lv;rw[hvs,List.length_take];omega
  have la:as.length<1000:=by have:=h.la;rw[has,List.length_take];omega
  have le:es.length<1000:=by have:=h.le;rw[hes,List.length_take];omega
  obtain⟨w1,t1,amu,n1,k1,l1⟩:=Ss oa oe hc
  rcases CZ (i:=2) R3 (by rw[d2,n1]) k1 l1 ov (by rw[hvs];exact h.vo.sublist (List.take_sublist _ _)) lv with⟨M4,e4,R4,c4⟩ | ⟨t,M4,e4,ht,c4⟩
  ·have c24:=c23.trans c4
   have d3:=uN d2
   obtain⟨w2,t2,amt,n2,k2,l2⟩:=VG oe hc
   rcases Bp R4 (by rw[d3,n2]) k2 l2 oa (by rw[has];exact h.ao.sublist (List.take_sublist _ _)) la with⟨M5,e5,R5,c5⟩ | ⟨t,M5,e5,ht,c5⟩
   ·have c25:=c24.trans c5
    have d4:=uN d3
    rcases Bo R5 d4 hc oe le with⟨q,M6,e6,q6,R6,c6⟩ | ⟨t,M6,e6,ht,c6⟩
    ·have Z4:=c25.trans c6
     obtain⟨M7,e7,Rw,g7⟩:=Dr (M:=M6) (b:=B.b) (bt:=B.bt) (br:=B.roll) q6
     have R7:=R6.gr g7
     obtain⟨M8,e8,g8⟩:=O6 R7 (i:=j+2) (by rw[hlen];rfl) hat hc (fun v hv=>by
      have:=hbad v hv
      rw[hlen]
      intro z
      exact this (by rw[z];congr 1;omega))
     refine⟨(bw.length:Int),M8,?_,.inl ?_,gr ((Z4.trans g7.ch).trans g8.ch)⟩
     ·simp only[cO,cC]
      simp[e1,e2,e3,e4,e5,e6,Bk.roll]at e7 ⊢
      simp[e7,R7.me (m:= "finish") rfl,e8]
     ·rw[hlen];rfl
    ·refine⟨t,M6,?_,by omega,gr (c25.trans c6)⟩
     simp only[cO,cC]
     simp[e1,e2,e3,e4,e5,e6,Bk.roll]
   ·refine⟨t,M5,?_,by omega,gr (c24.trans c5)⟩
    simp only[cO,cC]
    simp[e1,e2,e3,e4,e5]
  ·refine⟨t,M4,?_,by omega,gr (c23.trans c4)⟩
   simp only[cO,cC]
   simp[e1,e2,e3,e4]
theorem O1{c:Nat}{w:List Nat}:∀{x:List (List Nat)},x≠[]→cZ c (w::x)=w++c::cZ c x
 | [],h=>absurd rfl h
 | _::_,_=>rfl
theorem yW{c:Nat}:∀(ws:List (List Nat)) (m:Nat),ws≠[]→m≤(cZ c ws).length→
  ∃j v n,ws[j]? = some v∧n≤v.length∧(cZ c ws).take m=cZ c (ws.take j++[v.take n])∧(m<(cZ c ws).length→n<v.length∨j+1<ws.length)
 | [],_,h,_=>absurd rfl h
 | [w],m,_,hm=>⟨0,w,m,rfl,hm,rfl,fun z=> .inl z⟩
 | w::v::r,m,_,hm=>by
  have e:cZ c (w::v::r)=w++c::cZ c (v::r):=rfl
  rw[e]at hm ⊢
  by_cases h:m≤w.length
  ·exact⟨0,w,m,rfl,h,by rw[List.take_append_of_le_length h];rfl,fun _=> .inr (by simp)⟩
  ·rw[List.length_append,List.length_cons]at hm
   obtain⟨m',hm'⟩:∃m',m=w.length+1+m':=⟨m - w.length - 1,by omega⟩
   obtain⟨j,x,n,h1,h2,h3,h4⟩:=yW (c:=c) (v::r) m' (by simp) (by omega)
   refine⟨j+1,x,n,by simpa using h1,h2,?_,fun z=> ?_⟩
   ·rw[List.take_append,List.take_of_length_le (by omega),show m - w.length=m'+1 by omega,List.take_succ_cons,h3]
    rw[List.take_succ_cons,List.cons_append,O1 (by simp)]
   ·rw[List.length_append,List.length_cons]at z
    rcases h4 (by omega)with q | q
    ·exact .inl q
    ·exact .inr (by simp at q ⊢;omega)
theorem Iz(bw:List (List (List Nat))):Txt.join "\n" (bw.map bh)=bM (cZ 10 (bw.map (cZ 32))):=by
 have e:bw.map bh=(bw.map (cZ 32)).map bM:=by rw[List.map_map];exact List.map_congr_left fun ws _=>zZ ws
 rw[Qz,e,vP]
theorem Y4{ws:List (List Nat)}{j n:Nat}{v:List Nat}(h:qY ws)(hv:ws[j]? = some v):qY (ws.take j++[v.take n]):=by
 have hj:=(List.getElem?_eq_some_iff.mp hv).1
 have hv':=h.2.2 v (List.mem_of_getElem? hv)
 refine⟨by simp,by have:=h.2.1;simp;omega,fun w hw=> ?_⟩
 rcases List.mem_append.mp hw with q | q
 ·exact h.2.2 w (List.mem_of_mem_take q)
 ·rw[List.mem_singleton.mp q]
  exact⟨fun z=>hv'.1 (List.mem_of_mem_take z),fun z=>hv'.2.1 (List.mem_of_mem_take z),by rw[List.length_take];have:=hv'.2.2;omega⟩
theorem WD{bw:List (List (List Nat))}(h0:bw≠[]){m:Nat}(hm:m<(cZ 10 (bw.map (cZ 32))).length)(hne:∀ws∈bw,ws≠[]):
  ∃i ws j v n,bw[i]? = some ws∧ws[j]? = some v∧n≤v.length∧bM ((cZ 10 (bw.map (cZ 32))).take m)=Txt.join "\n" ((bw.take i++[ws.take j++[v.take n]]).map bh)∧(i+1=bw.length→j+1=ws.length→n<v.length):=by
 obtain⟨i,u,n1,h1,h2,h3,h4⟩:=yW (c:=10) (bw.map (cZ 32)) m (by simpa using h0) (by omega)
 rw[List.getElem?_map]at h1
 obtain⟨ws,hws,rfl⟩:=Option.map_eq_some_iff.mp h1
 obtain⟨j,v,n,q1,q2,q3,q4⟩:=yW (c:=32) ws n1 (hne ws (List.mem_of_getElem? hws)) h2
 refine⟨i,ws,j,v,n,hws,q1,q2,?_,fun z1 z2=> ?_⟩
 ·rw[Iz,h3,q3]
  simp[List.map_take]
 ·rcases h4 hm with z | z
  ·rcases q4 z with y | y
   ·exact y
   ·omega
  ·simp at z;omega
theorem Wy:∀N:Nat,N<201→∀a:Nat,a<(o7 N).length→a≠0→PySem.NumText.digitsVal ((o7 N).take a)≠N:=by decide +kernel
theorem Yq{N a:Nat}(h:N<201)(ha:a<(aN (N:Int)).length):PySem.intText? (bM ((aN (N:Int)).take a))≠some (N:Int):=by
 have e:aN (N:Int)=o7 N:=by
  have:¬((N:Int)<0):=by omega
  simp only[aN,this,if_false,Int.natAbs_natCast]
 rw[e]at ha ⊢
 by_cases h0:a=0
 ·subst h0
  have:PySem.intText? (bM ((o7 N).take 0))=none:=by rw[List.take_zero];decide +kernel
  rw[this];exact fun z=>nomatch z
 ·have hl:=Fw (k:=40) (m:=N) (Nat.lt_of_lt_of_le h (by decide))
  rw[PySem.intText_digits (x:=bM ((o7 N).take a)) (by rw[bz];exact fun c hc=>qz _ c (List.mem_of_mem_take hc)) (by
   rw[bz]
   intro z
   have:=congrArg List.length z
   rw[List.length_take,List.length_nil]at this
   omega) (by rw[fP,bz,List.length_take];omega),bz]
  intro z
  exact Wy N h a ha h0 (by have:=Option.some.inj z;omega)
theorem Pb{B:Bk}:∀ws∈B.body,∃w tl,ws=w::tl∧bM w≠ "end" := by
 intro ws hm
 simp only[Bk.body,List.mem_append,List.mem_cons,List.mem_map]at hm
 rcases hm with rfl | rfl | ⟨p,_,rfl⟩ | ⟨p,_,rfl⟩ | ⟨p,_,rfl⟩
 ·exact⟨_,_,rfl,by rw[wk];decide⟩
 ·exact⟨_,_,rfl,by rw[wk];decide⟩
 ·exact⟨_,_,rfl,by rw[wk];decide⟩
 ·exact⟨_,_,rfl,by rw[wk];decide⟩
 ·exact⟨_,_,rfl,by rw[wk];decide⟩
theorem Wz{B:Bk}(h:B.Ok){m:Nat}(hm:m<B.text.length):∃s:Str,bM ((Lw B.text).take m)=s∧∃i:Nat,(∃rows:List Str,Txt.split s "\n" = rows∧rows.length=i+1)∧s.length+2≤16777216∧∀M,∃t M',cO [.str s] M= .exc 2 (.int t) M'∧(t=(i:Int)+1∨t=(i:Int)+2)∧Gr M M':=by
 have hw:=zM h
 have hb:=tD h
 have hT:B.text=bM (cZ 10 (B.bw.map (cZ 32))):=Iz _
 rw[hT]at hm ⊢
 rw[qQ,uc]at hm
 rw[uc]
 obtain⟨i,ws,j,v,n,h1,h2,h3,h4,h5⟩:=WD (bw:=B.bw) (by simp[Bk.bw]) hm (fun ws hx=>(hw ws hx).1)
 have hWs:=hw ws (List.mem_of_getElem? h1)
 have hcw:qY (ws.take j++[v.take n]):=Y4 hWs h2
 have hlw:B.bw.length=B.body.length+1:=by simp[Bk.bw]
 have hi:i≤B.body.length:=by have:=(List.getElem?_eq_some_iff.mp h1).1;omega
 have htk:B.bw.take i=B.body.take i:=by unfold Bk.bw;rw[List.take_append_of_le_length hi]
 rw[htk]at h4
 have hall:∀x∈B.body.take i++[ws.take j++[v.take n]],qY x:=fun x hx=>by
  rcases List.mem_append.mp hx with q | q
  ·exact hw x (by unfold Bk.bw;exact List.mem_append_left _ (List.mem_of_mem_take q))
  ·rw[List.mem_singleton.mp q];exact hcw
 have hlen:(B.body.take i++[ws.take j++[v.take n]]).length=i+1:=by simp;omega
 refine⟨_,h4,i,⟨_,yV (by simp) hall,by rw[List.length_map];exact hlen⟩,by have:=text_len hall (by omega);omega,fun M=> ?_⟩
 obtain⟨w,tl,hwt⟩:∃w tl,ws.take j++[v.take n]=w::tl:=by
  cases hq:ws.take j++[v.take n]with
  | nil=>simp at hq
  | cons w tl=>exact⟨w,tl,rfl⟩
 rw[hwt]at hcw ⊢
 refine RP h hi hcw fun x hx=> ?_
 rw[←hwt]at hx
 have hl2:(ws.take j++[v.take n]).length=2:=by have:=congrArg List.length hx;simpa[ts]using this
 have hj:j<ws.length:=(List.getElem?_eq_some_iff.mp h2).1
 have hj1:j=1:=by simp at hl2;omega
 subst hj1
 have hvx:bM x=bM (v.take n):=by
  have:(ts (ws.take 1++[v.take n]))[1]? = some (.str (bM x)):=by rw[hx];rfl
  cases ws with
  | nil=>simp at h2
  | cons a r=>simpa[ts]using this.symm
 have hfirst:∃a r,ws=a::r∧bM a= "end" := by
  have:(ts (ws.take 1++[v.take n]))[0]? = some (.str "end"):=by rw[hx];rfl
  cases ws with
  | nil=>simp at h2
  | cons a r=>exact⟨a,r,rfl,by simpa[ts]using this⟩
 obtain⟨a,r,rfl,ha⟩:=hfirst
 by_cases hlt:i<B.body.length
 ·have:B.bw[i]? = B.body[i]? := by unfold Bk.bw;rw[List.getElem?_append_left hlt]
  rw[this]at h1
  obtain⟨w',tl',e,hne⟩:=Pb _ (List.mem_of_getElem? h1)
  cases e
  exact absurd ha hne
 ·have ei:i=B.body.length:=by omega
  subst ei
  have:B.bw[B.body.length]? = some [W "end",aN B.body.length]:=by unfold Bk.bw;rw[List.getElem?_append_right (Nat.le_refl _)];simp
  rw[this]at h1
  cases h1
  have hv:v=aN (B.body.length:Int):=by simpa using h2.symm
  subst hv
  have hn:=h5 (by omega) (by simp)
  rw[hvx]
  exact Yq (by omega) hn
theorem Zb{M:Mem}(ns:List Int)(k:Nat){kk:Int}(hk:kk=k):mJ [.cl (ns.map D.int),.int kk] M= .ok (.int (cell ns k)) M:=by
 subst hk
 simp only[mJ,jd,wF]
 by_cases h:k<ns.length
 ·have e:bx (.cl (ns.map D.int)) (.int k) M= .ok (.int ns[k]) M:=U7 (by omega) (by simp[h])
  simp[h,e,cell]
 ·simp[h,cell]
def Rk(n:Nat)(xs:List Int):Prop:=xs.length=n∧∀x∈xs,0≤x∧x<2147483647
structure Pr(M:Mem)(c:Int)(n i:Nat)(e:Sl)(M':Mem):Prop where
 h:∃(xs:List Int) (num:Int) (v:Option D),Rk i xs∧0≤num∧num<2147483647∧e=[some (.int c),some (.int n),some (.ref M.length),some (.int num),v]∧M'=M++[.lst (xs.map D.int)]
theorem VL(z:Int):0≤z % 2147483647∧z % 2147483647<2147483647:=⟨Int.emod_nonneg _ (by omega),Int.emod_lt_of_pos _ (by omega)⟩
theorem Uu{M:Mem}{c:Int}{n i:Nat}{d:D}{e:Sl}{M2:Mem}(hn:n≤1000)(hd:(zE 0 n)[i]? = some d)(h:Pr M c n i e M2):∃e1,gN 4 d e=some e1∧
  (rN e1 M2).to (Pr M c n (i+1)) fun _ _=>False:=by
 obtain⟨xs,num,v,⟨hx,hxb⟩,h0,h1,rfl,rfl⟩:=h
 obtain⟨hi,rfl⟩:=Dm hd
 refine⟨_,rfl,?_⟩
 have a1:Ob (.int num) (.int 1009) (M++[.lst (xs.map D.int)])= .ok (.int (num / 1009)) (M++[.lst (xs.map D.int)]):=Lf (by omega) (by omega)
 have a2:yE (.int num) (.int (num / 1009+69621)) (M++[.lst (xs.map D.int)])= .ok (.int (num*(num / 1009+69621))) (M++[.lst (xs.map D.int)]):=zW (.inl (by constructor<;>omega))
 have a3:∀z:Int,lW (.int z) (.int 2147483647) (M++[.lst (xs.map D.int)])= .ok (.int (z % 2147483647)) (M++[.lst (xs.map D.int)]):=fun z=>Ej (by omega)
 have a4:Di "list" (.ref M.length) (M++[.lst (xs.map D.int)])=true:=iJ bf
 have a5:∀z:Int,lX (.ref M.length) [.int z] (M++[.lst (xs.map D.int)])= .ok .non (M++[.lst ((xs++[z]).map D.int)]):=fun z=>by
  rw[gq bf (by rw[List.length_map];omega)]
  simp
 simp[rN,a1,a2,a3,a4,a5]
 refine⟨xs++[(num*(num / 1009+69621)+i+1) % 2147483647],(num*(num / 1009+69621)+i+1) % 2147483647,_,⟨by simp[hx],fun x hm=> ?_⟩,(VL _).1,(VL _).2,rfl,by simp⟩
 rcases List.mem_append.mp hm with h | h
 ·exact hxb x h
 ·rw[List.mem_singleton.mp h];exact VL _
theorem Ry{M:Mem}(c:Int)(n:Nat){nn:Int}(hnn:nn=n)(hn:n≤1000):∃xs:List Int,Rk n xs∧lZ [.int c,.int nn] M= .ok (.ref M.length) (M++[.lst (xs.map D.int)]):=by
 subst hnn
 have e1:yE (.int c) (.int 48271) (M++[.lst []])= .ok (.int (c*48271)) (M++[.lst []]):=zW (.inr (by omega))
 have e2:lW (.int (c*48271+7919)) (.int 2147483647) (M++[.lst []])= .ok (.int ((c*48271+7919) % 2147483647)) (M++[.lst []]):=Ej (by omega)
 have e3:Jj [.int n] (M++[.lst []])= .ok ⟨none,zE 0 n⟩ (M++[.lst []]):=by
  have:=Em (M:=M++[.lst []]) (j:=n) (by omega) (by omega)
  simpa using this
 obtain⟨e',M',hl,hh⟩:=Hz (Pr M c n) (ds:=zE 0 n) (e:=[some (.int c),some (.int n),some (.ref M.length),some (.int ((c*48271+7919) % 2147483647)),none]) (M:=M++[.lst []]) (src:=none)
  ⟨[],_,none,⟨rfl,by simp⟩,(VL _).1,(VL _).2,rfl,rfl⟩ (fun _ _ _ _ _=>trivial) fun i d e M2 hd h=>Uu hn hd h
 obtain⟨xs,num,v,hx,_,_,rfl,rfl⟩:=hh
 rw[Qo]at hx
 refine⟨xs,hx,?_⟩
 simp only[lZ,i_,yd]
 simp[e1,e2,e3,hl]
theorem pQ{n:Nat}{xs:List Int}(h:Rk n xs){i:Nat}(hi:i<n):∃x,xs[i]? = some x∧0≤x∧x<2147483647:=by
 have hl:i<xs.length:=by rw[h.1];exact hi
 exact⟨xs[i],List.getElem?_eq_getElem hl,h.2 _ (List.getElem_mem hl)⟩
theorem tY{M:Mem}{n i:Nat}{xs:List Int}{x:Int}{k:Int}(hM:M[n]? = some (.lst (xs.map D.int)))(hk:k=i)(h:xs[i]? = some x):bx (.ref n) (.int k) M= .ok (.int x) M:=
 yt hM (by omega) (by subst hk;simp[h])
theorem DR{M:Mem}(c:Int)(n:Nat){nn:Int}(hnn:nn=n)(hn:n≤1000):∃xs x M1,Rk n xs∧lZ [.int c,.int nn] M= .ok (.ref x) M1∧M1[x]? = some (.lst (xs.map D.int))∧Gr M M1:=by
 obtain⟨xs,h,e⟩:=Ry (M:=M) c n hnn hn
 exact⟨xs,_,_,h,e,bf,Gr.app⟩
theorem n_(z:Int){j:Int}(h:0<j):0≤z % j∧z % j<j:=⟨Int.emod_nonneg _ (by omega),Int.emod_lt_of_pos _ h⟩
theorem ZK{M:Mem}{n:Nat}{ds:List D}{z j:Int}(h:M[n]? = some (.lst ds))(hj:j=ds.length)(h0:0<j):∃d∈ds,bx (.ref n) (.int (z % j)) M= .ok d M:=by
 have:=n_ z h0
 have hl:(z % j).toNat<ds.length:=by omega
 exact⟨ds[(z % j).toNat],List.getElem_mem hl,yt h this.1 (List.getElem?_eq_getElem hl)⟩
theorem Y5{α β:Type}(f:α→β)(xs:List α)(lo hi:Option Int):cut (xs.map f) lo hi=(cut xs lo hi).map f:=by
 unfold cut
 rw[List.length_map,List.map_take,List.map_drop]
theorem md(z j:Int)(M:Mem)(h:0<j):lW (.int z) (.int j) M= .ok (.int (z % j)) M:=Ej h
theorem dv(z j:Int)(M:Mem)(h:0<j)(h':j<1073741824):Ob (.int z) (.int j) M= .ok (.int (z / j)) M:=Lf h h'
theorem Ot(c:Nat)(n:Int)(h:0≤n):(PySem.Txt.mul ⟨#[c]⟩ n).cps.toList=List.replicate n.toNat c:=by
 have fold:∀(k:Nat) (acc:Array Nat),((List.replicate k #[c]).foldl (· ++ ·) acc).toList=acc.toList++List.replicate k c:=by
  intro k
  induction k with
  | zero=>intro acc;simp
  | succ k ih=>intro acc;rw[List.replicate_succ,List.foldl_cons,ih];simp[List.replicate_succ]
 unfold PySem.Txt.mul
 split
 ·rename_i h1
  have:n.toNat=0:=by omega
  rw[this];rfl
 ·split
  ·rename_i h1 h2
   rcases Bool.or_eq_true_iff.mp h2 with q | q
   ·have:n=1:=by simpa using q
    subst this;rfl
   ·have:(1:Nat)=0:=by simpa[Str.length]using q
    omega
  ·show((List.replicate n.toNat #[c]).foldl (· ++ ·) #[]).toList=_
   rw[fold];simp
theorem Xh{M:Mem}(c:Int){T:Int}(hT:0<T)(hT1:T≤10 ^ 40)(pw:∀M:Mem,Ei (.int 10) (.int 40) M= .ok (.int T) M):∃(x:Wt) (M':Mem),pH [.int c] M= .ok x.d M'∧x.Ok∧Gr M M':=by
 obtain⟨xs,x,M1,hxs,e1,hx1,g1⟩:=DR (M:=M) c 3 (nn:=3) rfl (by decide)
 obtain⟨x0,p0,z0,_⟩:=pQ hxs (i:=0) (by decide)
 obtain⟨x1,p1,z1,y1⟩:=pQ hxs (i:=1) (by decide)
 obtain⟨x2,p2,z2,y2⟩:=pQ hxs (i:=2) (by decide)
 have b1:=n_ x1 (j:=4095) (by decide)
 have b2:=n_ x2 (j:=4096) (by decide)
 have b3:=n_ x2 (j:=30) (by decide)
 have b4:=n_ x2 (j:=100) (by decide)
 have b5:=n_ c (j:=1000) (by decide)
 have bT:=n_ c hT
 have sx:∀M,yE (.int (c % 1000)) (.int 10) M= .ok (.int (c % 1000*10)) M:=fun M=>zW (.inr ⟨by decide,by decide⟩)
 obtain⟨A,hA⟩:∃A:Wt,A= .ask (c % T) (-x1) (.add (W "xyz") (x2 % 30 - 15)):=⟨_,rfl⟩
 obtain⟨B,hB⟩:∃B:Wt,B= .ask x1 (x2 % 100) (.swap (W "q") 10 (c % 1000*10)):=⟨_,rfl⟩
 have dA:A.d= .tup [.str "ask",.int (c % T),.int (-x1),.tup [.str "add",.str "xyz",.int (x2 % 30 - 15)]]:=by rw[hA];simp[Wt.d,Od.d]
 have dB:B.d= .tup [.str "ask",.int x1,.int (x2 % 100),.tup [.str "swap",.str "q",.int 10,.int (c % 1000*10)]]:=by rw[hB];simp[Wt.d,Od.d]
 have oA:A.Ok:=by rw[hA];exact⟨by unfold Sm;omega,by unfold Sm;omega,by decide,by unfold Sm;omega⟩
 have oB:B.Ok:=by rw[hB];exact⟨by unfold Sm;omega,by unfold Sm;omega,by decide,by unfold Sm;omega,by unfold Sm;omega⟩
 obtain⟨M2,BW⟩:∃M2,M2=M1++[MO.lst [.tup [.str "start"],.tup [.str "roll",.int (1+x1 % 4095),.int (x2 % 4096)],.tup [.str "roll",.int 3,.int 0]]]:=⟨_,rfl⟩
 have h2:M2[M1.length]? = some (.lst [.tup [.str "start"],.tup [.str "roll",.int (1+x1 % 4095),.int (x2 % 4096)],.tup [.str "roll",.int 3,.int 0]]):=by rw[BW];exact bf
 have e2:=gq (d:=A.d) h2 (by simp)
 obtain⟨M3,hM3⟩:∃M3,M3=M2.set M1.length (.lst ([.tup [.str "start"],.tup [.str "roll",.int (1+x1 % 4095),.int (x2 % 4096)],.tup [.str "roll",.int 3,.int 0]]++[A.d])):=⟨_,rfl⟩
 have h3:=get_set (x:= .lst ([.tup [.str "start"],.tup [.str "roll",.int (1+x1 % 4095),.int (x2 % 4096)],.tup [.str "roll",.int 3,.int 0]]++[A.d])) h2
 rw[←hM3]at e2 h3
 have e3:=gq (d:=B.d) h3 (by simp)
 obtain⟨M4,wW⟩:∃M4,M4=M3.set M1.length (.lst ([.tup [.str "start"],.tup [.str "roll",.int (1+x1 % 4095),.int (x2 % 4096)],.tup [.str "roll",.int 3,.int 0]]++[A.d]++[B.d])):=⟨_,rfl⟩
 have h4:=get_set (x:= .lst ([.tup [.str "start"],.tup [.str "roll",.int (1+x1 % 4095),.int (x2 % 4096)],.tup [.str "roll",.int 3,.int 0]]++[A.d]++[B.d])) h3
 rw[←wW]at e3 h4
 have c2:Ch (· = M1.length) M1 M2:=by rw[BW];exact Gr.app.ch
 have c3:Ch (· = M1.length) M2 M3:=by rw[hM3];exact Ch.set rfl
 have c4:Ch (· = M1.length) M3 M4:=by rw[wW];exact Ch.set rfl
 have lx:=gZ hx1
 have nx:¬(x=M1.length):=by omega
 have k2:=c2.2 _ _ nx hx1
 have k3:=c3.2 _ _ nx k2
 have k4:=c4.2 _ _ nx k3
 have ix:∀{k:Int} {i:Nat} {v:Int} {M2:Mem},M2[x]? = some (.lst (xs.map D.int))→k=i→xs[i]? = some v→bx (.ref x) (.int k) M2= .ok (.int v) M2:=fun h hk hv=>tY h hk hv
 have a1:=ix (k:=1) (i:=1) hx1 rfl p1
 have a2:=ix (k:=2) (i:=2) hx1 rfl p2
 have a1':=ix (k:=1) (i:=1) k2 rfl p1
 have a2':=ix (k:=2) (i:=2) k2 rfl p2
 have al2:=ix (k:=1) (i:=1) k3 rfl p1
 have al1:=ix (k:=2) (i:=2) k3 rfl p2
 have a0:=ix (k:=0) (i:=0) k4 rfl p0
 obtain⟨d,hd,ed⟩:=ZK (M:=M4) (n:=M1.length) (z:=x0) (j:=5) h4 rfl (by decide)
 have fin:∃y:Wt,d=y.d∧y.Ok:=by
  simp at hd
  rcases hd with rfl | rfl | rfl | rfl | rfl
  ·exact⟨.start,rfl,trivial⟩
  ·exact⟨.roll (1+x1 % 4095) (x2 % 4096),rfl,by omega,by omega,by omega,by omega⟩
  ·exact⟨.roll 3 0,rfl,by decide,by decide,by decide,by decide⟩
  ·exact⟨A,rfl,oA⟩
  ·exact⟨B,rfl,oB⟩
 obtain⟨y,hy,oy⟩:=fin
 refine⟨y,M4,?_,oy,g1.trans (((c2.trans c3).trans c4).new fun i hi=>by omega)⟩
 rw[dA]at e2
 rw[dB]at e3
 rw[hy]at ed
 simp only[pH,nQ]
 simp[e1,a1,a2,md,←BW,iJ h2,a1',a2',hT,pw,e2,iJ h3,al2,al1,sx,e3,a0,ed]
theorem Vf(x:Nat):∀{a b:Nat},a<b→List.replicate a x<List.replicate b x
 | 0,b+1,_=>by rw[List.replicate_succ];exact List.nil_lt_cons _ _
 | a+1,b+1,h=>by
  rw[List.replicate_succ,List.replicate_succ]
  exact List.cons_lt_cons_iff.mpr (.inr ⟨rfl,Vf x (by omega)⟩)
def Xb:List Int:=[9,90,1009,100003,1000000000]
theorem I_{k:Nat}(h:k<5):∃z,Xb[k]? = some z∧0<z∧z≤1000000000:=by
 match k,h with
 | 0,_=>exact⟨_,rfl,by decide,by decide⟩
 | 1,_=>exact⟨_,rfl,by decide,by decide⟩
 | 2,_=>exact⟨_,rfl,by decide,by decide⟩
 | 3,_=>exact⟨_,rfl,by decide,by decide⟩
 | 4,_=>exact⟨_,rfl,by decide,by decide⟩
theorem alX:("c" : Str)=⟨#[99]⟩:=by decide
def WM(xs:List Int)(k:Nat):List Nat×Int:=(List.replicate (k+1) 99,1+(xs[k]?).getD 0 % (Xb[k]?).getD 1)
def WN(xs:List Int)(k:Nat):(Int×Int)×Int:=(((k:Int) - 3,(xs[k]?).getD 0 % 1000),0 - (xs[k+1]?).getD 0 % (Xb[k]?).getD 1)
theorem Zd{xs:List Int}{k:Nat}(h:k<5):GC (WM xs k):=by
 obtain⟨z,hz,z0,z1⟩:=I_ h
 have:=n_ ((xs[k]?).getD 0) z0
 refine⟨?_,?_,?_⟩
 ·show pI (List.replicate (k+1) 99)=true
  match k,h with
  | 0,_=>decide
  | 1,_=>decide
  | 2,_=>decide
  | 3,_=>decide
  | 4,_=>decide
 ·show Sm (1+(xs[k]?).getD 0 % (Xb[k]?).getD 1)
  rw[hz,Option.getD_some]
  unfold Sm;omega
 ·show 1+(xs[k]?).getD 0 % (Xb[k]?).getD 1≠0
  rw[hz,Option.getD_some]
  omega
theorem Ze{xs:List Int}{k:Nat}(h:k<5):Gd (WN xs k):=by
 obtain⟨z,hz,z0,z1⟩:=I_ h
 have b1:=n_ ((xs[k+1]?).getD 0) z0
 have b2:=n_ ((xs[k]?).getD 0) (j:=1000) (by decide)
 refine⟨?_,?_,?_⟩
 ·show Sm ((k:Int) - 3)
  unfold Sm;omega
 ·show Sm ((xs[k]?).getD 0 % 1000)
  unfold Sm;omega
 ·show Sm (0 - (xs[k+1]?).getD 0 % (Xb[k]?).getD 1)
  rw[hz,Option.getD_some]
  unfold Sm;omega
theorem Vh{α:Type}{f:Nat→α}{lt:α→α→Prop}(h:∀i j,i<j→lt (f i) (f j))(n:Nat):((List.range n).map f).Pairwise lt:=by
 rw[List.pairwise_map]
 exact List.pairwise_lt_range.imp fun{a b} z=>h a b z
section
variable{M:Mem}{x y:Nat}{xs:List Int}
theorem Rt(hx:M[x]? = some (.lst (xs.map D.int)))(hl:xs.length=7)(hy:M[y]? = some (.lst (Xb.map D.int))){n:Nat}(hn:n≤5):
  rF none oV (jP (aq (aK yE (mC (.str "c")) (aK j0 (az 0) (mC (.int 1)))) (aq (aK j0 (mC (.int 1)) (aK lW (aK bx (az 1) (az 0)) (aK bx (az 2) (az 0)))) aH))) [some (.ref x),some (.ref y)] (zE 0 n) [] M= .ok (.ref M.length) (M++[.lst (((List.range n).map (WM xs)).map wN)]):=by
 rw[Ar (src:=none) (M:=M) (fun d=>match d with | .int k=>wN (WM xs k.toNat) | d=>d) trivial fun d hd=> ?_]
 ·simp[zE,List.map_map]
 ·obtain⟨i,hi,rfl⟩:=List.getElem_of_mem hd
  obtain⟨hin,e⟩:=Dm (List.getElem?_eq_getElem hi)
  rw[e]
  obtain⟨z,hz,z0,z1⟩:=I_ (k:=i) (by omega)
  have hxi:xs[i]? = some xs[i]:=List.getElem?_eq_getElem (by omega)
  have i1:bx (.ref x) (.int (0+(i:Int))) M= .ok (.int xs[i]) M:=tY hx (by omega) hxi
  have i2:bx (.ref y) (.int (0+(i:Int))) M= .ok (.int z) M:=tY hy (by omega) hz
  have m1:yE (.str "c") (.int (0+(i:Int)+1)) M= .ok (.str (bM (List.replicate (i+1) 99))) M:=by
   rw[UW (by decide +kernel) (by omega) (by omega)]
   congr 2
   apply rG
   rw[alX,Ot _ _ (by omega),bz]
   congr 1
   omega
  simp only[Int.zero_add]at i1 i2 m1 ⊢
  simp[i1,i2,m1,md,z0,wN,WM,hxi,hz]
theorem W4(hx:M[x]? = some (.lst (xs.map D.int)))(hl:xs.length=7)(hy:M[y]? = some (.lst (Xb.map D.int))){n:Nat}(hn:n≤5):
  rF none oV (jP (aq (aK Gm (az 0) (mC (.int 3))) (aq (aK lW (aK bx (az 1) (az 0)) (mC (.int 1000))) (aq (aK Gm (mC (.int 0)) (aK lW (aK bx (az 1) (aK j0 (az 0) (mC (.int 1)))) (aK bx (az 2) (az 0)))) aH)))) [some (.ref x),some (.ref y)] (zE 0 n) [] M= .ok (.ref M.length) (M++[.lst (((List.range n).map (WN xs)).map wR)]):=by
 rw[Ar (src:=none) (M:=M) (fun d=>match d with | .int k=>wR (WN xs k.toNat) | d=>d) trivial fun d hd=> ?_]
 ·simp[zE,List.map_map]
 ·obtain⟨i,hi,rfl⟩:=List.getElem_of_mem hd
  obtain⟨hin,e⟩:=Dm (List.getElem?_eq_getElem hi)
  rw[e]
  obtain⟨z,hz,z0,z1⟩:=I_ (k:=i) (by omega)
  have hxi:xs[i]? = some xs[i]:=List.getElem?_eq_getElem (by omega)
  have hxj:xs[i+1]? = some xs[i+1]:=List.getElem?_eq_getElem (by omega)
  have i1:bx (.ref x) (.int (0+(i:Int))) M= .ok (.int xs[i]) M:=tY hx (by omega) hxi
  have i3:bx (.ref x) (.int (0+(i:Int)+1)) M= .ok (.int xs[i+1]) M:=tY hx (by omega) hxj
  have i2:bx (.ref y) (.int (0+(i:Int))) M= .ok (.int z) M:=tY hy (by omega) hz
  simp only[Int.zero_add]at i1 i2 i3 ⊢
  simp[i1,i2,i3,md,z0,wR,WN,hxi,hxj,hz]
end
theorem S_{M:Mem}{x:Nat}{xs ns:List Int}{x4 T:Int}(hx:M[x]? = some (.lst (xs.map D.int)))(h4:xs[4]? = some x4)(hT:0<T)(hT1:T≤10 ^ 40)(pw:∀M:Mem,Ei (.int 10) (.int 40) M= .ok (.int T) M){n:Nat}(hn:n≤10)(hl:n=0∨n+2≤ns.length):
  ∃(es:List (Int×Wt)) (z:Nat) (M':Mem),rF none oV (jP (aq (aK yE (az 0) (aK lW (aK bx (az 2) (mC (.int 4))) (mC (.int 12)))) (aq (fG pH 1 [] (aq (aK bx (az 1) (az 0)) aH)) aH))) [some (.cl (ns.map D.int)),some (.ref x)] (zE 2 n) [] M= .ok (.ref z) M'∧
   M'[z]? = some (.lst (es.map Gf))∧(∀p∈es,Ay p)∧es.length≤64∧Gr M M':=by
 obtain⟨ys,M',e,es,hy',ho,hlen,g⟩:=Fz (src:=none) (tt:=oV) (te:=jP (aq (aK yE (az 0) (aK lW (aK bx (az 2) (mC (.int 4))) (mC (.int 12)))) (aq (fG pH 1 [] (aq (aK bx (az 1) (az 0)) aH)) aH))) (ce:=[some (.cl (ns.map D.int)),some (.ref x)])
  (fun i ys M'=>∃es:List (Int×Wt),ys=es.map Gf∧(∀p∈es,Ay p)∧es.length=i∧Gr M M') (zE 2 n) 0 (ys:=[]) (M:=M) ⟨[],rfl,by simp,rfl,Gr.refl⟩
  (fun i ys M' _ _ h=>trivial) (fun i d ys M2 hd h=>by
   obtain⟨es,h1,h2,h3,g⟩:=h
   rw[Nat.zero_add]at h3 ⊢
   obtain⟨hin,rfl⟩:=Dm hd
   have hk:i+2<ns.length:=by omega
   have i1:bx (.ref x) (.int 4) M2= .ok (.int x4) M2:=tY (g _ _ hx) rfl h4
   have i2:bx (.cl (ns.map D.int)) (.int (2+(i:Int))) M2= .ok (.int ns[i+2]) M2:=U7 (by omega) (by rw[show(2+(i:Int)).toNat=i+2 by omega,List.getElem?_map,List.getElem?_eq_getElem hk];rfl)
   have b4:=n_ x4 (j:=12) (by decide)
   have m1:yE (.int (2+(i:Int))) (.int (x4 % 12)) M2= .ok (.int ((2+(i:Int))*(x4 % 12))) M2:=zW (.inr ⟨by omega,by omega⟩)
   obtain⟨w,M4,e4,hw,g4⟩:=Xh (M:=M2) ns[i+2] hT hT1 pw
   have hb:0≤(2+(i:Int))*(x4 % 12)∧(2+(i:Int))*(x4 % 12)≤12*12:=⟨Int.mul_nonneg (by omega) b4.1,Int.mul_le_mul (by omega) (by omega) b4.1 (by omega)⟩
   refine⟨true,M2,rfl,.inr ⟨rfl,Gf ((2+(i:Int))*(x4 % 12),w),M4,?_,es++[((2+(i:Int))*(x4 % 12),w)],by rw[h1];simp,fun p hp=> ?_,by simp[h3],g.trans g4⟩⟩
   ·simp[i1,i2,md,m1,e4,Gf]
   ·rcases List.mem_append.mp hp with q | q
    ·exact h2 p q
    ·rw[List.mem_singleton.mp q]
     exact⟨hb.1,by show Sm _;unfold Sm;omega,hw⟩)
 refine⟨es,_,_,e,by rw[bf,hy'],ho,?_,g.trans Gr.app⟩
 rw[hlen,Qo];omega
theorem Vd{M:Mem}{i j:Int}(h: -(2 ^ 62)≤i∧i<2 ^ 62∧ -(2 ^ 62)≤j∧j<2 ^ 62∧j - i≤2 ^ 24):Oe [.int i,.int j] M= .ok ⟨none,zE i (j - i).toNat⟩ M:=by simp only[Oe];rw[if_pos h]
theorem Zm{M:Mem}{ns:List Int}(hns:ns.length≤63){T:Int}(hT:0<T)(hT1:T≤10 ^ 40)(pw:∀M:Mem,Ei (.int 10) (.int 40) M= .ok (.int T) M):
  ∃(B:Bk) (k r l:Nat) (M':Mem),vK [.cl (ns.map D.int)] M= .ok (.ref k) M'∧wU M' k r l B.tm B.vd B.b B.bt B.roll B.kept B.ents∧B.Ok∧Gr M M':=by
 have c0:mJ [.cl (ns.map D.int),.int 0] M= .ok (.int (cell ns 0)) M:=Zb ns 0 rfl
 obtain⟨xs,x,M1,hxs,e1,hx1,g1⟩:=DR (M:=M) (cell ns 0) 7 (nn:=7) rfl (by decide)
 obtain⟨x0,p0,z0,_⟩:=pQ hxs (i:=0) (by decide)
 obtain⟨x1,p1,z1,_⟩:=pQ hxs (i:=1) (by decide)
 obtain⟨x2,p2,z2,_⟩:=pQ hxs (i:=2) (by decide)
 obtain⟨x3,p3,z3,_⟩:=pQ hxs (i:=3) (by decide)
 obtain⟨x4,p4,z4,_⟩:=pQ hxs (i:=4) (by decide)
 obtain⟨x5,p5,z5,_⟩:=pQ hxs (i:=5) (by decide)
 obtain⟨x6,p6,z6,_⟩:=pQ hxs (i:=6) (by decide)
 have ix:∀{k:Int} {i:Nat} {v:Int} {M2:Mem},k=i→xs[i]? = some v→Gr M1 M2→bx (.ref x) (.int k) M2= .ok (.int v) M2:=fun hk hv g=>tY (g _ _ hx1) hk hv
 have pw9:∀M:Mem,Ei (.int 10) (.int 9) M= .ok (.int 1000000000) M:=fun M=>by rw[Lb (by decide)];rfl
 obtain⟨M2,BW⟩:∃M2,M2=M1++[MO.lst (Xb.map D.int)]:=⟨_,rfl⟩
 have alG:M2=M1++[MO.lst [.int 9,.int 90,.int 1009,.int 100003,.int 1000000000]]:=BW
 have u2:M2[M1.length]? = some (.lst (Xb.map D.int)):=by rw[BW];exact bf
 have g2:Gr M1 M2:=by rw[BW];exact Gr.app
 have b5:=n_ x5 (j:=6) (by decide)
 have b6:=n_ x6 (j:=6) (by decide)
 have r5:∀M,Jj [.int (x5 % 6)] M= .ok ⟨none,zE 0 (x5 % 6).toNat⟩ M:=fun M=>Em (by omega) (by omega)
 have r6:∀M,Jj [.int (x6 % 6)] M= .ok ⟨none,zE 0 (x6 % 6).toNat⟩ M:=fun M=>Em (by omega) (by omega)
 have e3:=Rt (g2 _ _ hx1) hxs.1 u2 (n:=(x5 % 6).toNat) (by omega)
 obtain⟨vs,hvs⟩:∃vs,vs=(List.range (x5 % 6).toNat).map (WM xs):=⟨_,rfl⟩
 obtain⟨M3,hM3⟩:∃M3,M3=M2++[MO.lst (vs.map wN)]:=⟨_,rfl⟩
 rw[←hvs,←hM3]at e3
 have u3:M3[M2.length]? = some (.lst (vs.map wN)):=by rw[hM3];exact bf
 have g3:Gr M2 M3:=by rw[hM3];exact Gr.app
 have g13:=g2.trans g3
 have e4:=W4 (g13 _ _ hx1) hxs.1 (g3 _ _ u2) (n:=(x6 % 6).toNat) (by omega)
 obtain⟨as,has⟩:∃as,as=(List.range (x6 % 6).toNat).map (WN xs):=⟨_,rfl⟩
 obtain⟨M4,wW⟩:∃M4,M4=M3++[MO.lst (as.map wR)]:=⟨_,rfl⟩
 rw[←has,←wW]at e4
 have u4:M4[M3.length]? = some (.lst (as.map wR)):=by rw[wW];exact bf
 have g4:Gr M3 M4:=by rw[wW];exact Gr.app
 have g14:=g13.trans g4
 obtain⟨m,hm⟩:∃m:Int,m=if(12:Int)<(ns.length:Int)then 12 else(ns.length:Int):=⟨_,rfl⟩
 have hm1:0≤m∧m≤12∧m≤ns.length:=by rw[hm];split<;>omega
 have r7:∀M,Oe [.int 2,.int m] M= .ok ⟨none,zE 2 (m - 2).toNat⟩ M:=fun M=>Vd (by omega)
 obtain⟨es,z,M5,e5,u5,oe,le,g5⟩:=S_ (g14 _ _ hx1) p4 hT hT1 pw (n:=(m - 2).toNat) (ns:=ns) (by omega) (by omega)
 have g15:=g14.trans g5
 have bT:=n_ (cell ns 0) hT
 have b0:=n_ x0 (j:=100) (by decide)
 have b1:=n_ x1 (j:=100) (by decide)
 have b2:=n_ x2 (j:=1000) (by decide)
 have b3:=n_ x3 (j:=50) (by decide)
 have b4:=n_ x4 (j:=60) (by decide)
 obtain⟨M6,e6,R6,g6⟩:=Dr (M:=M5) (b:=x0 % 100) (bt:=x1 % 100) (br:= .tup [.int (1+x2 % 1000),.int (x3 % 50)]) u5
 obtain⟨M7,hM7⟩:∃M7,M7=M6++[MO.lst [.non,.int (x4 % 60)]]:=⟨_,rfl⟩
 have g7:Gr M6 M7:=by rw[hM7];exact Gr.app
 have hv:∃vt:Option Int,bx (.ref M6.length) (.int (x4 / 60 % 2)) M7= .ok (match vt with | none=> .non | some v=> .int v) M7∧∀v,vt=some v→0≤v∧v<60:=by
  obtain⟨d,hd,e⟩:=ZK (M:=M7) (n:=M6.length) (z:=x4 / 60) (j:=2) (by rw[hM7];exact bf) rfl (by decide)
  simp at hd
  rcases hd with rfl | rfl
  ·exact⟨none,e,fun v h=>nomatch h⟩
  ·exact⟨some (x4 % 60),e,fun v h=>by cases h;omega⟩
 obtain⟨vt,ev,hvt⟩:=hv
 obtain⟨B,hB⟩:∃B:Bk,B=⟨cell ns 0 % T,vt,x0 % 100,x1 % 100,1+x2 % 1000,x3 % 50,vs,as,es⟩:=⟨_,rfl⟩
 have ZW:B.Ok:=by
  rw[hB]
  refine⟨⟨bT.1,by show Sm (cell ns 0 % T);unfold Sm;omega⟩,hvt,⟨b0.1,by show Sm (x0 % 100);unfold Sm;omega⟩,⟨b1.1,by show Sm (x1 % 100);unfold Sm;omega⟩,⟨by show 1≤1+x2 % 1000;omega,by show 1+x2 % 1000<_;omega,by show 0≤x3 % 50;omega,by show x3 % 50<_;omega⟩,fun p hp=> ?_,?_,fun p hp=> ?_,?_,oe,?_,?_,le⟩
  ·rw[show Bk.vs _=vs from rfl,hvs]at hp
   obtain⟨k,hk,rfl⟩:=List.mem_map.mp hp
   exact Zd (by have:=List.mem_range.mp hk;omega)
  ·show vs.Pairwise _
   rw[hvs]
   exact Vh (lt:=fun p q:List Nat×Int=>p.1<q.1) (fun i j hij=>Vf 99 (by omega)) _
  ·rw[show Bk.as _=as from rfl,has]at hp
   obtain⟨k,hk,rfl⟩:=List.mem_map.mp hp
   exact Ze (by have:=List.mem_range.mp hk;omega)
  ·show as.Pairwise _
   rw[has]
   exact Vh (fun i j hij=> .inl (by show(i:Int) - 3<(j:Int) - 3;omega)) _
  ·show vs.length<64
   rw[hvs];simp;omega
  ·show as.length<64
   rw[has];simp;omega
 obtain⟨M8,e8,K8,g8⟩:=Rf (tm:=cell ns 0 % T) (vt:=B.vd) (kept:= .tup [.tup (vs.map wN),.tup (as.map wR)]) (R6.gr g7)
 have evd:bx (.ref M6.length) (.int (x4 / 60 % 2)) M7= .ok B.vd M7:=by rw[ev,hB];rfl
 refine⟨B,M7.length,M7.length+1,M7.length+2,M8,?_,?_,ZW,((((g1.trans g15).trans g6).trans g7).trans g8)⟩
 ·have a5:=ix (k:=5) (i:=5) rfl p5 g2
  have a6:=ix (k:=6) (i:=6) rfl p6 g13
  have a0:=ix (k:=0) (i:=0) rfl p0 g15
  have a1:=ix (k:=1) (i:=1) rfl p1 g15
  have a2:=ix (k:=2) (i:=2) rfl p2 g15
  have a3:=ix (k:=3) (i:=3) rfl p3 g15
  have a4:=ix (k:=4) (i:=4) rfl p4 (g15.trans g6)
  have a4':=ix (k:=4) (i:=4) rfl p4 ((g15.trans g6).trans g7)
  have ec1:∀(a b c d e:Option D),o8 [2,3] [a,b,some (.ref x),some (.ref M1.length),c,d,e,none]=[some (.ref x),some (.ref M1.length)]:=fun _ _ _ _ _=>rfl
  have ec2:∀(a b c d e f:Option D),o8 [0,2] [some (.cl (ns.map D.int)),a,some (.ref x),b,c,d,e,f]=[some (.cl (ns.map D.int)),some (.ref x)]:=fun _ _ _ _ _ _=>rfl
  simp only[vK,nR]
  simp[c0,e1,pw9,←alG,a5,md,r5,ec1,e3,jc u3,a6,r6,e4,jc u4,←hm,r7,ec2,e5,a0,a1,a2,a3]
  simp[e6,hT,pw,md,a4,←hM7,a4',dv,evd,e8]
 ·rw[hB]at K8 ⊢
  exact K8
theorem Ui(B:Bk):0<B.text.length:=by
 have e:B.text=bM (cZ 10 (B.bw.map (cZ 32))):=Iz _
 rw[e,qQ,uc]
 have:∃r,B.bw.map (cZ 32)=(W "book" ++ 32::cZ 32 [aN B.tm,B.vw])::r:=⟨_,rfl⟩
 obtain⟨r,hr⟩:=this
 rw[hr]
 cases r with
 | nil=>simp[cZ];omega
 | cons a r=>simp[cZ];omega
theorem Uy{w:Str}{n:Int}(h0:0≤n)(h1:n≤w.length):Txt.slice w none (some n)=bM ((Lw w).take n.toNat):=by
 have e:=StrLaws.sliceText_to (x:=w) (j:=n) ⟨h0,by rw[←fP];exact h1⟩
 refine Eq.trans e ?_
 apply rG
 rw[bz]
 simp[Lw]
theorem abp:∀ns:List Int,ns.length≤63→∃M,VP [.cl (ns.map D.int)] []= .ok (.bl true) M:=by
 intro ns hns
 obtain⟨T,hT⟩:∃T:Int,T=10 ^ 40:=⟨_,rfl⟩
 have hT0:0<T:=by rw[hT];decide
 have hT1:T≤10 ^ 40:=by rw[hT];exact Int.le_refl _
 have pw:∀M:Mem,Ei (.int 10) (.int 40) M= .ok (.int T) M:=fun M=>by rw[hT];exact Lb (by decide)
 clear hT
 obtain⟨B,k,r,l,M1,e1,K1,ZW,g1⟩:=Zm (M:=[]) hns hT0 hT1 pw
 obtain⟨M2,e2,g2⟩:=Dw ZW K1
 obtain⟨k',r',l',M3,e3,K3,g3,_⟩:=Jo (M:=M2) ZW
 obtain⟨M4,e4,g4⟩:=Dw ZW K3
 obtain⟨cs,hcs⟩:∃cs,cs=cut ns (some 1) (some 30):=⟨_,rfl⟩
 have sl:cut (ns.map D.int) (some 1) (some 30)=cs.map D.int:=by rw[hcs];exact Y5 D.int ns _ _
 obtain⟨M5,Wg⟩:∃M5,M5=M4++[MO.lst (cs.map D.int)]:=⟨_,rfl⟩
 have u5:M5[M4.length]? = some (.lst (cs.map D.int)):=by rw[Wg];exact bf
 have htl:B.text.length≤16777216:=by
  have:=text_len (zM ZW) (by have:=(tD ZW).2;simp[Bk.bw];omega)
  unfold Bk.text;omega
 have hpos:=Ui B
 obtain⟨e',M6,e6,g6,v2,v3,v4,v5,he⟩:=Hz (src:=some (M4.length,cs.map D.int)) (g:=gN 2) (b:=IK)
  (fun _ e M'=>Gr M5 M'∧∃v2 v3 v4 v5:Option D,e=[some (.cl (ns.map D.int)),some (.str B.text),v2,v3,v4,v5,none]) (ds:=cs.map D.int) (e:=[some (.cl (ns.map D.int)),some (.str B.text),none,none,none,none,none]) (M:=M5) ⟨Gr.refl,none,none,none,none,rfl⟩
  (fun i e M' _ h=>dU (h.1 _ _ u5)) (fun i d e M' hd h=>by
   obtain⟨g,v2,v3,v4,v5,rfl⟩:=h
   rw[List.getElem?_map]at hd
   obtain⟨c,_,rfl⟩:=Option.map_eq_some_iff.mp hd
   refine⟨_,rfl,?_⟩
   have hp':(0:Int)<B.text.length:=by omega
   have bm:=n_ c hp'
   have el:=QH (M:=M') htl
   have em:=md c (B.text.length:Int) M' hp'
   obtain⟨s,hs,i,⟨rows,hr,hrl⟩,hsl,tor⟩:=Wz ZW (m:=(c % (B.text.length:Int)).toNat) (by omega)
   have es:Ge (.str B.text) none (some (c % (B.text.length:Int))) M'= .ok (.str s) M':=by
    rw[←hs,←Uy bm.1 (by omega)]
    simp only[Ge,yD,pZ,htl,if_true]
   have e7:=Bj (M:=M') (y:=s) (z:= "\n") hsl (by decide)
   rw[hr]at e7
   obtain⟨M7,hM7⟩:∃M7,M7=M'++[MO.lst (rows.map D.str)]:=⟨_,rfl⟩
   rw[←hM7]at e7
   have u7:M7[M'.length]? = some (.lst (rows.map D.str)):=by rw[hM7];exact bf
   have g7:Gr M' M7:=by rw[hM7];exact Gr.app
   have e8:kO [.ref M'.length] M7= .ok (.int ((i:Int)+1)) M7:=by rw[dJ u7,List.length_map,hrl];simp
   obtain⟨t,M8,e9,ht,g8⟩:=tor M7
   have et:∀(a b:Option D),J2 [some (.cl (ns.map D.int)),some (.str B.text),a,some (.str s),b,some .non,none] M7= .next [some (.cl (ns.map D.int)),some (.str B.text),a,some (.str s),b,some (.int t),none] M8:=fun a b=>by
    simp only[J2,PK,P0]
    simp[e9]
    rw[Ug (by rfl)]
    simp
   have h1:¬(t<(i:Int)+1):=by omega
   have h2:¬((i:Int)+1+1<t):=by omega
   simp only[IK,QM]
   simp[el,em,es,Di,e7,e8,et,h1,h2]
   exact(g.trans g7).trans g8)
 subst he
 refine⟨M6,?_⟩
 simp only[VP,HY,QS,QZ]
 simp[e1,e2,e3,e4,sl,←Wg,mK u5,e6]
end My
namespace My
open PySem L2 S
def top(i:Nat):Stmt:=PySem.Challenge.pw_chairvote_k24_a_cut_book_is_torn.main.body.getD i (.Pass ⟨0,0,0,0⟩)
abbrev oM:Stmt:=top 20
abbrev fV:Stmt:=top 21
abbrev fW:Stmt:=inClass (top 16) 1
abbrev lU:Stmt:=top 22
abbrev fU:Stmt:=top 32
abbrev gR:Stmt:=top 33
abbrev jx:Stmt:=top 34
abbrev jA:Stmt:=inClass (top 16) 0
abbrev jz:Stmt:=inClass (top 16) 17
abbrev iU:Stmt:=inClass (top 19) 0
abbrev jy:Stmt:=top 35
abbrev fY:Stmt:=inClass (top 14) 0
abbrev cX:Stmt:=inClass (top 2) 0
abbrev eF:Stmt:=inClass (top 14) 1
abbrev cH:Stmt:=inClass (top 14) 3
abbrev rA:Stmt:=top 11
abbrev iT:Stmt:=top 12
abbrev eG:Stmt:=inClass (top 14) 5
abbrev bQ:Stmt:=inClass (top 14) 6
abbrev eO:Stmt:=inClass (top 14) 7
abbrev fZ:Stmt:=inClass (top 14) 8
abbrev eN:Stmt:=inClass (top 14) 4
abbrev iM:Stmt:=top 23
abbrev cg:Stmt:=inClass (top 14) 9
abbrev iR:Stmt:=top 24
abbrev dz:Stmt:=inClass (top 14) 2
abbrev lV:Stmt:=top 13
abbrev fX:Stmt:=inClass (top 14) 10
abbrev fQ:Stmt:=top 25
abbrev eE:Stmt:=top 26
abbrev gQ:Stmt:=top 27
abbrev iK:Stmt:=top 28
abbrev d_:Stmt:=top 29
abbrev dw:Stmt:=inClass (top 14) 11
abbrev iQ:Stmt:=top 30
abbrev zU:Stmt:=top 36
structure Adr where
 yc:Addr
 yf:FuncData
 mR:Addr
 m6:FuncData
 mU:Addr
 m7:FuncData
 uK:Addr
 uO:FuncData
 mQ:Addr
 m5:FuncData
 oX:Addr
 oZ:FuncData
 sI:Addr
 sW:FuncData
 sS:Addr
 sZ:FuncData
 sO:Addr
 sY:FuncData
 qx:Addr
 qJ:FuncData
 sJ:Addr
 sX:FuncData
 mW:Addr
 m9:FuncData
 jl:Addr
 mj:FuncData
 lq:Addr
 lD:FuncData
 iY:Addr
 iZ:FuncData
 Am:Addr
 Aq:FuncData
 qw:Addr
 qI:FuncData
 lu:Addr
 lE:FuncData
 gG:Addr
 gH:FuncData
 lA:Addr
 lG:FuncData
 mX:Addr
 m_:FuncData
 lz:Addr
 lF:FuncData
 qm:Addr
 qF:FuncData
 ie:Addr
 ig:FuncData
 qt:Addr
 qH:FuncData
 jT:Addr
 jV:FuncData
 uL:Addr
 uP:FuncData
 mV:Addr
 m8:FuncData
 mO:Addr
 mZ:FuncData
 lg:Addr
 lC:FuncData
 oW:Addr
 oY:FuncData
 ql:Addr
 qD:FuncData
 k_:Addr
 lB:FuncData
 jR:Addr
 jU:FuncData
 qp:Addr
 qG:FuncData
 HB:Addr
 CJ:FuncData
 yh:Addr
 vY:Addr
 fK:Addr
 dh:Addr
 lH:Addr
 Hw:Tok
 QX:Tok
 Hv:Tok
 xT:Tok
 xR:Tok
 uq:Addr
structure Txt(K:PySem.W.Frag)(mg:Str→Option Value)(t:Adr):Prop where
 ou:b7 K "worded" "worded" oM .none t.yc t.yf
 jW:Binds K t.yf ["parts"] []
 pF:mg "worded" = some (.ref t.yc)
 sG:b7 K "entry_parts" "entry_parts" fV .none t.mR t.m6
 je:Binds K t.m6 ["entry"] []
 xH:mg "entry_parts" = some (.ref t.mR)
 xX:b7 K "entries" "Row.entries" fW .none t.mU t.m7
 jf:Binds K t.m7 ["self"] []
 xK:Meth K t.yh "entries" t.mU
 vQ:b7 K "written" "written" lU .none t.uK t.uO
 oF:Binds K t.uO ["book"] []
 zm:mg "written" = some (.ref t.uK)
 sE:b7 K "_law_cell_at" "_law_cell_at" fU .none t.mQ t.m5
 jd:Binds K t.m5 ["_law_script","_law_k"] []
 xG:mg "_law_cell_at" = some (.ref t.mQ)
 qb:b7 K "_law_stream" "_law_stream" gR .none t.oX t.oZ
 i_:Binds K t.oZ ["_law_cell","_law_size"] []
 um:mg "_law_stream" = some (.ref t.oX)
 xV:b7 K "_law_what" "_law_what" jx .none t.sI t.sW
 nQ:Binds K t.sW ["_law_cell"] []
 Cq:mg "_law_what" = some (.ref t.sI)
 CG:b7 K "__init__" "Row.__init__" jA .none t.sS t.sZ
 jJ:Binds K t.sZ ["self","base","base_term","base_roll","entries"] []
 xx:Mk K t.yh t.sS
 Cz:b7 K "twin" "Row.twin" jz .none t.sO t.sY
 nU:Binds K t.sY ["self"] []
 Cu:Meth K t.yh "twin" t.sO
 Al:b7 K "__init__" "Book.__init__" iU .none t.qx t.qJ
 jr:Binds K t.qJ ["self","term","vote","row","kept"] []
 vH:Mk K t.vY t.qx
 xW:b7 K "_law_book" "_law_book" jy .none t.sJ t.sX
 nR:Binds K t.sX ["_law_script"] []
 Cr:mg "_law_book" = some (.ref t.sJ)
 xZ:b7 K "__init__" "Reader.__init__" fY .none t.mW t.m9
 jg:Binds K t.m9 ["self","text"] []
 rK:Mk K t.fK t.mW
 t7:b7 K "__init__" "HallError.__init__" cX .none t.jl t.mj
 bC:Binds K t.mj ["self","at"] []
 wI:b7 K "words" "Reader.words" eF .none t.lq t.lD
 dm:Binds K t.lD ["self"] []
 nC:Meth K t.fK "words" t.lq
 sH:b7 K "words_of" "Reader.words_of" cH .none t.iY t.iZ
 a_:Binds K t.iZ ["self","first","count"] []
 fO:Meth K t.fK "words_of" t.iY
 Ak:b7 K "is_of" "is_of" rA .none t.Am t.Aq
 qe:Binds K t.Aq ["word","signs","most"] []
 Fd:mg "is_of" = some (.ref t.Am)
 vW:b7 K "is_number" "is_number" iT .none t.qw t.qI
 lK:Binds K t.qI ["word"] []
 Ab:mg "is_number" = some (.ref t.qw)
 wJ:b7 K "whole" "Reader.whole" eG .none t.lu t.lE
 bL:Binds K t.lE ["self","word"] []
 fB:Meth K t.fK "whole" t.lu
 pq:b7 K "from_nought" "Reader.from_nought" bQ .none t.gG t.gH
 aQ:Binds K t.gH ["self","word"] []
 di:Meth K t.fK "from_nought" t.gG
 wL:b7 K "below" "Reader.below" eO .none t.lA t.lG
 cj:Binds K t.lG ["self","word","bound"] []
 nF:Meth K t.fK "below" t.lA
 x_:b7 K "hand" "Reader.hand" fZ .none t.mX t.m_
 gk:Binds K t.m_ ["self","word"] []
 xN:Meth K t.fK "hand" t.mX
 wK:b7 K "go_on" "Reader.go_on" eN .none t.lz t.lF
 cQ:Binds K t.lF ["self"] []
 iH:Meth K t.fK "go_on" t.lz
 vU:b7 K "read_head" "read_head" iM .none t.qm t.qF
 gJ:Binds K t.qF ["reader"] []
 z_:mg "read_head" = some (.ref t.qm)
 qX:b7 K "both_sets" "Reader.both_sets" cg .none t.ie t.ig
 bD:Binds K t.ig ["self","one","two"] []
 mD:Meth K t.fK "both_sets" t.ie
 vV:b7 K "read_base" "read_base" iR .none t.qt t.qH
 dX:Binds K t.qH ["reader"] []
 Aa:mg "read_base" = some (.ref t.qt)
 uJ:b7 K "begins" "Reader.begins" dz .none t.jT t.jV
 cU:Binds K t.jV ["self","word"] []
 lY:Meth K t.fK "begins" t.jT
 zq:b7 K "is_name" "is_name" lV .none t.uL t.uP
 pN:Binds K t.uP ["word"] []
 Fe:mg "is_name" = some (.ref t.uL)
 xY:b7 K "name" "Reader.name" fX .none t.mV t.m8
 dZ:Binds K t.m8 ["self","word"] []
 rZ:Meth K t.fK "name" t.mV
 sy:b7 K "read_values" "read_values" fQ .none t.mO t.mZ
 dY:Binds K t.mZ ["reader"] []
 xF:mg "read_values" = some (.ref t.mO)
 qN:b7 K "read_answers" "read_answers" eE .none t.lg t.lC
 fj:Binds K t.lC ["reader"] []
 wz:mg "read_answers" = some (.ref t.lg)
 ur:b7 K "read_order" "read_order" gQ .none t.oW t.oY
 e_:Binds K t.oY ["reader","words"] []
 yM:mg "read_order" = some (.ref t.oW)
 vR:b7 K "read_what" "read_what" iK .none t.ql t.qD
 bR:Binds K t.qD ["reader","words"] []
 z9:mg "read_what" = some (.ref t.ql)
 qM:b7 K "read_entries" "read_entries" d_ .none t.k_ t.lB
 fc:Binds K t.lB ["reader"] []
 wu:mg "read_entries" = some (.ref t.k_)
 uI:b7 K "finish" "Reader.finish" dw .none t.jR t.jU
 cT:Binds K t.jU ["self"] []
 uD:Meth K t.fK "finish" t.jR
 rC:b7 K "read_book" "read_book" iQ .none t.qp t.qG
 cC:Binds K t.qG ["text"] []
 vI:mg "read_book" = some (.ref t.qp)
 O5:b7 K "law" "law" zU .none t.HB t.CJ
 HY:Binds K t.CJ ["_law_script"] []
 VM:mg "law" = some (.ref t.HB)
 j5:Np K t.yh
 JH:mg "Row" = some (.ref t.yh)
 jq:j7 K t.yh "base"
 dM:j7 K t.yh "base_term"
 dN:j7 K t.yh "base_roll"
 gB:j7 K t.yh "kept"
 kj:Np K t.vY
 JL:mg "Book" = some (.ref t.vY)
 jC:j7 K t.vY "term"
 iV:j7 K t.vY "vote"
 kW:j7 K t.vY "row"
 eV:j7 K t.vY "kept"
 aF:Np K t.fK
 Hi:mg "Reader" = some (.ref t.fK)
 eU:j7 K t.fK "rows"
 aO:j7 K t.fK "here"
 JK:mg "HallError" = some (.ref t.dh)
 Im:XMk K t.dh t.jl
 zL:Ax K t.dh "at"
 zK:XIs K t.dh
 uZ:PySem.W.exmOne K (.ref t.dh) (.ref t.dh)=some true
 vO:PySem.W.kitOne K (.ref t.dh) (.ref t.dh)=some true
 tO:PySem.W.exmOne K (.ref t.dh) (.ref t.lH)=some false
 Ah:PySem.W.kitOne K (.ref t.dh) (.ref t.lH)=some false
 jD:mg "Torn" = some (.ref t.lH)
 j8:XMk K t.lH t.jl
 ju:Ax K t.lH "at"
 PN:XIs K t.lH
 zJ:PySem.W.exmOne K (.ref t.lH) (.ref t.dh)=some true
 Ag:PySem.W.kitOne K (.ref t.lH) (.ref t.dh)=some true
 zH:PySem.W.exmOne K (.ref t.lH) (.ref t.lH)=some true
 JP:PySem.W.kitOne K (.ref t.lH) (.ref t.lH)=some true
 ZR:mg "all" = none
 ZQ:mg "int" = none
 qU:mg "len" = none
 Ow:mg "list" = none
 ZP:mg "min" = none
 Ad:mg "range" = none
 ZM:mg "str" = none
 vJ:mg "tuple" = none
 Fg:mg "FIGURES" = some (.str "0123456789" t.Hw)
 Ac:mg "HANDS" = some (.int 60 t.QX)
 Ff:mg "LETTERS" = some (.str "abcdefghijklmnopqrstuvwxyz" t.Hv)
 wB:mg "MOST_FIGURES" = some (.int 100 t.xT)
 wA:mg "MOST_LETTERS" = some (.int 8 t.xR)
 xJ:mg "ORDER_WORDS" = some (.ref t.uq)
 wZ:acD K t.uq [("put",3),("add",3),("swap",4)]
def cV(t:Adr):Nat→Addr:=fun k=>match k with
 | 4=>t.yh
 | 5=>t.vY
 | 3=>t.fK
 | 0=>t.dh
 | 2=>t.lH
 | _=>0
section
variable{P:Program}{w:World}{K:PySem.W.Frag}{mg:Str→Option Value}{base:Heap}{t:Adr}
theorem RJ:bu ["parts"] ["parts"] (au oM):=wV
theorem xm:bu ["entry","what"] ["entry"] (au fV):=wV
theorem Ed:bu ["self"] ["self"] (au fW):=wV
theorem za:bu ["book","row","rows"] ["book"] (au lU):=wV
theorem Ec:bu ["_law_script","_law_k"] ["_law_script","_law_k"] (au fU):=wV
theorem mG:bu ["_law_cell","_law_size","_law_found","_law_number","_law_k"] ["_law_cell","_law_size"] (au gR):=wV
theorem xg:bu ["_law_cell","_law_xs","_law_some"] ["_law_cell"] (au jx):=wV
theorem K_:bu ["self","base","base_term","base_roll","entries"] ["self","base","base_term","base_roll","entries"] (au jA):=wV
theorem K9:bu ["self"] ["self"] (au jz):=wV
theorem Je:bu ["self","term","vote","row","kept"] ["self","term","vote","row","kept"] (au iU):=wV
theorem jo:bu ["_law_script","_law_cell","_law_xs","_law_sizes","_law_values","_law_answers","_law_entries","_law_row"] ["_law_script"] (au jy):=wV
theorem Eg:bu ["self","text"] ["self","text"] (au fY):=wV
theorem zT:bu ["self","at"] ["self","at"] (au cX):=wV
theorem CT:bu ["self"] ["self"] (au eF):=wV
theorem rP:bu ["self","first","count","words"] ["self","first","count"] (au cH):=wV
theorem UL:bu ["word","signs","most"] ["word","signs","most"] (au rA):=wV
theorem vz:bu ["word","figures"] ["word"] (au iT):=wV
theorem CV:bu ["self","word"] ["self","word"] (au eG):=wV
theorem o_:bu ["self","word","number"] ["self","word"] (au bQ):=wV
theorem v_:bu ["self","word","bound","number"] ["self","word","bound"] (au eO):=wV
theorem Eh:bu ["self","word"] ["self","word"] (au fZ):=wV
theorem CW:bu ["self"] ["self"] (au eN):=wV
theorem oK:bu ["reader","words","vote","head"] ["reader"] (au iM):=wV
theorem qR:bu ["self","one","two","roll"] ["self","one","two"] (au cg):=wV
theorem rz:bu ["reader","words","place","base"] ["reader"] (au iR):=wV
theorem Bg:bu ["self","word"] ["self","word"] (au dz):=wV
theorem N5:bu ["word"] ["word"] (au lV):=wV
theorem Ef:bu ["self","word"] ["self","word"] (au fX):=wV
theorem oJ:bu ["reader","values","words","value"] ["reader"] (au fQ):=wV
theorem nA:bu ["reader","answers","words","answer"] ["reader"] (au eE):=wV
theorem yJ:bu ["reader","words","numbers"] ["reader","words"] (au gQ):=wV
theorem Jd:bu ["reader","words"] ["reader","words"] (au iK):=wV
theorem nu:bu ["reader","entries","words","what"] ["reader"] (au d_):=wV
theorem uB:bu ["self","words"] ["self"] (au dw):=wV
theorem jw:bu ["text","reader","head","base","values","answers","row"] ["text"] (au iQ):=wV
theorem xj:bu ["_law_script","_law_text","_law_cell","_law_part","_law_size","_law_torn","e"] ["_law_script"] (au zU):=wV
theorem Sd(T:Txt K mg t):bB P w K mg base (iD P w) 1 t.yc t.yf ["parts"] (spS K (cV t) cY 1):=by
 show bB P w K mg base (iD P w) (0+1) t.yc t.yf ["parts"] (spS K (cV t) (cI 1 jW) 1)
 refine kZ (n:=1) (ar:=1) (k:=0) (b:=jW) T.ou RJ rfl rfl ?_
 intro cdv A outer s H E W hr
 exact(aR (cD (o9 PySem.F.plainAttrs_str PySem.F.slot_str_join PySem.F.type_str_join QD bU (aj (vq rfl [] [] (y_ (ak 0)) True.intro (fun _ _ _ _ _=>pP) (fun _ _ _ _ _=>(mF abM rfl T.ZM acn (aj (ak 0) aA))) (by decide +kernel) (by decide +kernel) (by decide +kernel) (by decide +kernel)) aA))))
theorem Et(T:Txt K mg t):bB P w K mg base (iD P w) 1 t.mR t.m6 ["entry"] (spS K (cV t) jZ 1):=by
 show bB P w K mg base (iD P w) (0+1) t.mR t.m6 ["entry"] (spS K (cV t) (cI 2 je) 1)
 refine kZ (n:=2) (ar:=1) (k:=0) (b:=je) T.sG xm rfl rfl ?_
 intro cdv A outer s H E W hr
 exact(aC (bH (i:=1) xm.nd rfl (Or.inl rfl) (bF hr.units (ak 0) aB))
  (aC (mq (fM (Av hr.units) (bF hr.units (ak 1) aB) bU (dG _)) (aR (cD (aX jF (d9 (aj bU (aj (bF hr.units (ak 0) aB) (aj bU (aj (bF hr.units (ak 1) aB) (aj (bF hr.units (ak 1) aB) aA)))))) (bF hr.units (ak 1) aB)))) iC)
  (aR (cD (aX jF (d9 (aj bU (aj (bF hr.units (ak 0) aB) aA))) (ak 1))))))
theorem Eu(T:Txt K mg t):bB P w K mg base (iD P w) 1 t.mU t.m7 ["self"] (spS K (cV t) pW 1):=by
 show bB P w K mg base (iD P w) (0+1) t.mU t.m7 ["self"] (spS K (cV t) (cI 1 jf) 1)
 refine kZ (n:=1) (ar:=1) (k:=0) (b:=jf) T.xX Ed rfl rfl ?_
 intro cdv A outer s H E W hr
 exact(aR (cD (mF Q_ rfl T.Ow Rb (aj (cN (cs:=[4,5]) ⟨⟨T.j5,T.gB⟩,⟨⟨T.kj,T.eV⟩,True.intro⟩⟩ (ak 0)) aA))))
theorem Oo(T:Txt K mg t):bB P w K mg base (iD P w) 2 t.uK t.uO ["book"] (spS K (cV t) uE 1):=by
 show bB P w K mg base (iD P w) (1+1) t.uK t.uO ["book"] (spS K (cV t) (cI 3 oF) 1)
 have uV:= @Sd P w K mg base t T
 have GJ:= @Et P w K mg base t T
 have GK:= @Eu P w K mg base t T
 refine kZ (n:=3) (ar:=1) (k:=1) (b:=oF) T.vQ za rfl rfl ?_
 intro cdv A outer s H E W hr
 exact(aC (bH (i:=1) za.nd rfl (Or.inl rfl) (cN (cs:=[5]) ⟨⟨T.kj,T.kW⟩,True.intro⟩ (ak 0)))
  (aC (bH (i:=2) za.nd rfl (Or.inl rfl) (vm (aj (cW uV Tk.wish (hr.mono (by decide)) rfl T.pF T.ou.kp T.jW .nil (aj (d9 (aj bU (aj (cN (cs:=[5]) ⟨⟨T.kj,T.jC⟩,True.intro⟩ (ak 0)) (aj (adt (fM Z5 (cN (cs:=[5]) ⟨⟨T.kj,T.iV⟩,True.intro⟩ (ak 0)) Ea (dG _)) bU (cN (cs:=[5]) ⟨⟨T.kj,T.iV⟩,True.intro⟩ (ak 0))) aA)))) aA)) aA)))
  (aC (iu (o9 PySem.F.plainAttrs_list PySem.F.slot_list_append PySem.F.type_list_append n6 (ak 2) (aj (cW uV Tk.wish (hr.mono (by decide)) rfl T.pF T.ou.kp T.jW .nil (aj (aX jF (d9 (aj bU (aj (cN (cs:=[4]) ⟨⟨T.j5,T.jq⟩,True.intro⟩ (ak 1)) (aj (cN (cs:=[4]) ⟨⟨T.j5,T.dM⟩,True.intro⟩ (ak 1)) aA)))) (cN (cs:=[4]) ⟨⟨T.j5,T.dN⟩,True.intro⟩ (ak 1))) aA)) aA)))
  (aC (iu (o9 PySem.F.plainAttrs_list PySem.F.slot_list_extend PySem.F.type_list_extend Bx (ak 2) (aj (vq rfl [] [] (y_ (bF hr.units (cN (cs:=[4,5]) ⟨⟨T.j5,T.gB⟩,⟨⟨T.kj,T.eV⟩,True.intro⟩⟩ (ak 0)) aB)) True.intro (fun _ _ _ _ _=>pP) (fun _ _ _ _ _=>(cW uV Tk.none (hr.mono (by decide)) rfl T.pF T.ou.kp T.jW .nil (aj (aX jF (d9 (aj bU aA)) (ak 0)) aA))) (by decide +kernel) (by decide +kernel) (by decide +kernel) (by decide +kernel)) aA)))
  (aC (iu (o9 PySem.F.plainAttrs_list PySem.F.slot_list_extend PySem.F.type_list_extend Bx (ak 2) (aj (vq rfl [] [] (y_ (bF hr.units (cN (cs:=[4,5]) ⟨⟨T.j5,T.gB⟩,⟨⟨T.kj,T.eV⟩,True.intro⟩⟩ (ak 0)) aB)) True.intro (fun _ _ _ _ _=>pP) (fun _ _ _ _ _=>(cW uV Tk.none (hr.mono (by decide)) rfl T.pF T.ou.kp T.jW .nil (aj (aX jF (d9 (aj bU aA)) (ak 0)) aA))) (by decide +kernel) (by decide +kernel) (by decide +kernel) (by decide +kernel)) aA)))
  (aC (iu (o9 PySem.F.plainAttrs_list PySem.F.slot_list_extend PySem.F.type_list_extend Bx (ak 2) (aj (vq rfl [] [] (y_ (kJ (kc:=4) (ak 1) T.j5 T.xK GK Tk.wish (hr.mono (by decide)) T.jf .nil)) True.intro (fun _ _ _ _ _=>pP) (fun _ _ _ _ _=>(cW uV Tk.none (hr.mono (by decide)) rfl T.pF T.ou.kp T.jW .nil (aj (cW GJ Tk.none (hr.mono (by decide)) rfl T.xH T.sG.kp T.je .nil (aj (ak 0) aA)) aA))) (by decide +kernel) (by decide +kernel) (by decide +kernel) (by decide +kernel)) aA)))
  (aC (iu (o9 PySem.F.plainAttrs_list PySem.F.slot_list_append PySem.F.type_list_append n6 (ak 2) (aj (cW uV Tk.wish (hr.mono (by decide)) rfl T.pF T.ou.kp T.jW .nil (aj (d9 (aj bU (aj (gm nO rfl T.qU nP (aj (ak 2) aA)) aA))) aA)) aA)))
  (aR (cD (o9 PySem.F.plainAttrs_str PySem.F.slot_str_join PySem.F.type_str_join QD bU (aj (ak 2) aA)))))))))))
theorem Es(T:Txt K mg t):bB P w K mg base (iD P w) 1 t.mQ t.m5 ["_law_script","_law_k"] (spS K (cV t) mJ 2):=by
 show bB P w K mg base (iD P w) (0+1) t.mQ t.m5 ["_law_script","_law_k"] (spS K (cV t) (cI 2 jd) 2)
 refine kZ (n:=2) (ar:=2) (k:=0) (b:=jd) T.sE Ec rfl rfl ?_
 intro cdv A outer s H E W hr
 exact(aC (mq (fM (Ko hr.units) (ak 1) (gm nO rfl T.qU nP (aj (ak 0) aA)) (dG _)) (aR (cD (bF hr.units (ak 0) (ak 1)))) iC)
  (aR (cD aB)))
theorem yL(T:Txt K mg t):bB P w K mg base (iD P w) 1 t.oX t.oZ ["_law_cell","_law_size"] (spS K (cV t) lZ 2):=by
 show bB P w K mg base (iD P w) (0+1) t.oX t.oZ ["_law_cell","_law_size"] (spS K (cV t) (cI 5 i_) 2)
 refine kZ (n:=5) (ar:=2) (k:=0) (b:=i_) T.qb mG rfl rfl ?_
 intro cdv A outer s H E W hr
 exact(aC (bH (i:=2) mG.nd rfl (Or.inl rfl) (vm aA))
  (aC (bH (i:=3) mG.nd rfl (Or.inl rfl) (aX ir (aX jF (aX FP (ak 0) aB) aB) aB))
  (aC (Uw (xq rfl rfl) rfl (Bf rfl T.Ad (aj (ak 1) aA)) (Qe (i:=4) mG.nd rfl (Or.inl rfl)) (aC (bH (i:=3) mG.nd rfl (Or.inl rfl) (aX ir (aX jF (aX jF (aX FP (ak 3) (aX jF (aX WX (ak 3) aB) aB)) (ak 4)) aB) aB))
  (aR (iu (o9 PySem.F.plainAttrs_list PySem.F.slot_list_append PySem.F.type_list_append n6 (ak 2) (aj (ak 3) aA))))))
  (aR (cD (ak 2))))))
theorem Li(T:Txt K mg t):bB P w K mg base (iD P w) 2 t.sI t.sW ["_law_cell"] (spS K (cV t) pH 1):=by
 show bB P w K mg base (iD P w) (1+1) t.sI t.sW ["_law_cell"] (spS K (cV t) (cI 3 nQ) 1)
 have v8:= @yL P w K mg base t T
 refine kZ (n:=3) (ar:=1) (k:=1) (b:=nQ) T.xV xg rfl rfl ?_
 intro cdv A outer s H E W hr
 exact(aC (bH (i:=1) xg.nd rfl (Or.inl rfl) (cW v8 Tk.wish (hr.mono (by decide)) rfl T.um T.qb.kp T.i_ .nil (aj (ak 0) (aj aB aA))))
  (aC (bH (i:=2) xg.nd rfl (Or.inl rfl) (vm (aj (d9 (aj bU aA)) (aj (d9 (aj bU (aj (aX jF aB (aX ir (bF hr.units (ak 1) aB) aB)) (aj (aX ir (bF hr.units (ak 1) aB) aB) aA)))) (aj (d9 (aj bU (aj aB (aj aB aA)))) aA)))))
  (aC (iu (o9 PySem.F.plainAttrs_list PySem.F.slot_list_append PySem.F.type_list_append n6 (ak 2) (aj (d9 (aj bU (aj (aX ir (ak 0) (aX Pa aB aB)) (aj (aX Cg aB (bF hr.units (ak 1) aB)) (aj (d9 (aj bU (aj bU (aj (aX Cg (aX ir (bF hr.units (ak 1) aB) aB) aB) aA)))) aA))))) aA)))
  (aC (iu (o9 PySem.F.plainAttrs_list PySem.F.slot_list_append PySem.F.type_list_append n6 (ak 2) (aj (d9 (aj bU (aj (bF hr.units (ak 1) aB) (aj (aX ir (bF hr.units (ak 1) aB) aB) (aj (d9 (aj bU (aj bU (aj aB (aj (aX FP (aX ir (ak 0) aB) aB) aA))))) aA))))) aA)))
  (aR (cD (bF hr.units (ak 2) (aX ir (bF hr.units (ak 1) aB) aB))))))))
theorem xr(T:Txt K mg t):bB P w K mg base (iD P w) 1 t.sS t.sZ ["self","base","base_term","base_roll","entries"] (spS K (cV t) nJ 5):=by
 show bB P w K mg base (iD P w) (0+1) t.sS t.sZ ["self","base","base_term","base_roll","entries"] (spS K (cV t) (cI 5 jJ) 5)
 refine kZ (n:=5) (ar:=5) (k:=0) (b:=jJ) T.CG K_ rfl rfl ?_
 intro cdv A outer s H E W hr
 exact(aC (rO (cs:=[4]) ⟨⟨T.j5,T.jq⟩,True.intro⟩ (ak 0) (ak 1))
  (aC (rO (cs:=[4]) ⟨⟨T.j5,T.dM⟩,True.intro⟩ (ak 0) (ak 2))
  (aC (rO (cs:=[4]) ⟨⟨T.j5,T.dN⟩,True.intro⟩ (ak 0) (ak 3))
  (aR (rO (cs:=[4,5]) ⟨⟨T.j5,T.gB⟩,⟨⟨T.kj,T.eV⟩,True.intro⟩⟩ (ak 0) (mF Q_ rfl T.Ow Rb (aj (ak 4) aA)))))))
theorem Ln(T:Txt K mg t):bB P w K mg base (iD P w) 3 t.sO t.sY ["self"] (spS K (cV t) vM 1):=by
 show bB P w K mg base (iD P w) (2+1) t.sO t.sY ["self"] (spS K (cV t) (cI 1 nU) 1)
 have tK:= @xr P w K mg base t T
 refine kZ (n:=1) (ar:=1) (k:=2) (b:=nU) T.Cz K9 rfl rfl ?_
 intro cdv A outer s H E W hr
 exact(aR (cD (yr (kc:=4) T.xx tK Tk.wish (hr.mono (by decide)) rfl T.JH T.jJ .nil (aj (cN (cs:=[4]) ⟨⟨T.j5,T.jq⟩,True.intro⟩ (ak 0)) (aj (cN (cs:=[4]) ⟨⟨T.j5,T.dM⟩,True.intro⟩ (ak 0)) (aj (cN (cs:=[4]) ⟨⟨T.j5,T.dN⟩,True.intro⟩ (ak 0)) (aj (cN (cs:=[4,5]) ⟨⟨T.j5,T.gB⟩,⟨⟨T.kj,T.eV⟩,True.intro⟩⟩ (ak 0)) aA)))))))
theorem z8(T:Txt K mg t):bB P w K mg base (iD P w) 4 t.qx t.qJ ["self","term","vote","row","kept"] (spS K (cV t) qj 5):=by
 show bB P w K mg base (iD P w) (3+1) t.qx t.qJ ["self","term","vote","row","kept"] (spS K (cV t) (cI 5 jr) 5)
 have Pz:= @Ln P w K mg base t T
 refine kZ (n:=5) (ar:=5) (k:=3) (b:=jr) T.Al Je rfl rfl ?_
 intro cdv A outer s H E W hr
 exact(aC (rO (cs:=[5]) ⟨⟨T.kj,T.jC⟩,True.intro⟩ (ak 0) (ak 1))
  (aC (rO (cs:=[5]) ⟨⟨T.kj,T.iV⟩,True.intro⟩ (ak 0) (ak 2))
  (aC (rO (cs:=[5]) ⟨⟨T.kj,T.kW⟩,True.intro⟩ (ak 0) (kJ (kc:=4) (ak 3) T.j5 T.Cu Pz Tk.wish (hr.mono (by decide)) T.nU .nil))
  (aR (rO (cs:=[4,5]) ⟨⟨T.j5,T.gB⟩,⟨⟨T.kj,T.eV⟩,True.intro⟩⟩ (ak 0) (ak 4))))))
theorem Lj(T:Txt K mg t):bB P w K mg base (iD P w) 6 t.sJ t.sX ["_law_script"] (spS K (cV t) vK 1):=by
 show bB P w K mg base (iD P w) (5+1) t.sJ t.sX ["_law_script"] (spS K (cV t) (cI 8 nR) 1)
 have GF:= @Es P w K mg base t T
 have v8:= @yL P w K mg base t T
 have Px:= @Li P w K mg base t T
 have tK:= @xr P w K mg base t T
 have yo:= @z8 P w K mg base t T
 refine kZ (n:=8) (ar:=1) (k:=5) (b:=nR) T.xW jo rfl rfl ?_
 intro cdv A outer s H E W hr
 exact(aC (bH (i:=1) jo.nd rfl (Or.inl rfl) (cW GF Tk.wish (hr.mono (by decide)) rfl T.xG T.sE.kp T.jd .nil (aj (ak 0) (aj aB aA))))
  (aC (bH (i:=2) jo.nd rfl (Or.inr rfl) (cW v8 Tk.wish (hr.mono (by decide)) rfl T.um T.qb.kp T.i_ .nil (aj (ak 1) (aj aB aA))))
  (aC (bH (i:=3) jo.nd rfl (Or.inr rfl) (vm (aj aB (aj aB (aj aB (aj aB (aj (aX Pa aB aB) aA)))))))
  (aC (bH (i:=4) jo.nd rfl (Or.inl rfl) (mF uQ rfl T.vJ uR (aj (vq rfl ["_law_xs","_law_sizes"] [2,3] (Bf rfl T.Ad (aj (aX ir (bF hr.units (ak 2) aB) aB) aA)) ⟨⟨rfl,rfl,by first | exact .inl rfl | exact .inr rfl⟩,⟨⟨rfl,rfl,by first | exact .inl rfl | exact .inr rfl⟩,True.intro⟩⟩ (fun _ _ _ _ _=>pP) (fun _ _ _ _ _=>(d9 (aj (aX FP bU (aX jF (ak 0) aB)) (aj (aX jF aB (aX ir (bF hr.units (ak 1) (ak 0)) (bF hr.units (ak 2) (ak 0)))) aA)))) (by decide +kernel) (by decide +kernel) (by decide +kernel) (by decide +kernel)) aA)))
  (aC (bH (i:=5) jo.nd rfl (Or.inl rfl) (mF uQ rfl T.vJ uR (aj (vq rfl ["_law_xs","_law_sizes"] [2,3] (Bf rfl T.Ad (aj (aX ir (bF hr.units (ak 2) aB) aB) aA)) ⟨⟨rfl,rfl,by first | exact .inl rfl | exact .inr rfl⟩,⟨⟨rfl,rfl,by first | exact .inl rfl | exact .inr rfl⟩,True.intro⟩⟩ (fun _ _ _ _ _=>pP) (fun _ _ _ _ _=>(d9 (aj (aX Cg (ak 0) aB) (aj (aX ir (bF hr.units (ak 1) (ak 0)) aB) (aj (aX Cg aB (aX ir (bF hr.units (ak 1) (aX jF (ak 0) aB)) (bF hr.units (ak 2) (ak 0)))) aA))))) (by decide +kernel) (by decide +kernel) (by decide +kernel) (by decide +kernel)) aA)))
  (aC (Xu (k:=6) rfl ["_law_script","_law_xs"] [0,2] jo.nd rfl rfl (RD rfl T.Ad (aj aB (aj (gm (Y6 rfl) rfl T.ZP aco (aj (gm nO rfl T.qU nP (aj (ak 0) aA)) (aj aB aA))) aA))) ⟨⟨rfl,rfl,by first | exact .inl rfl | exact .inr rfl⟩,⟨⟨rfl,rfl,by first | exact .inl rfl | exact .inr rfl⟩,True.intro⟩⟩ (fun _ _ _ _ _=>pP) (fun _ _ _ _ _=>(d9 (aj (aX FP (ak 0) (aX ir (bF hr.units (ak 2) aB) aB)) (aj (cW Px Tk.none (hr.mono (by decide)) rfl T.Cq T.xV.kp T.nQ .nil (aj (bF hr.units (ak 1) (ak 0)) aA)) aA)))) (by decide +kernel) (by decide +kernel) (by decide +kernel) (by decide +kernel))
  (aC (bH (i:=7) jo.nd rfl (Or.inl rfl) (yr (kc:=4) T.xx tK Tk.wish (hr.mono (by decide)) rfl T.JH T.jJ .nil (aj (aX ir (bF hr.units (ak 2) aB) aB) (aj (aX ir (bF hr.units (ak 2) aB) aB) (aj (d9 (aj (aX jF aB (aX ir (bF hr.units (ak 2) aB) aB)) (aj (aX ir (bF hr.units (ak 2) aB) aB) aA))) (aj (ak 6) aA))))))
  (aR (cD (yr (kc:=5) T.vH yo Tk.wish (hr.mono (by decide)) rfl T.JL T.jr .nil (aj (aX ir (ak 1) (aX Pa aB aB)) (aj (bF hr.units (vm (aj Ea (aj (aX ir (bF hr.units (ak 2) aB) aB) aA))) (aX ir (aX WX (bF hr.units (ak 2) aB) aB) aB)) (aj (ak 7) (aj (d9 (aj (ak 4) (aj (ak 5) aA))) aA))))))))))))))
theorem Ew(T:Txt K mg t):bB P w K mg base (iD P w) 1 t.mW t.m9 ["self","text"] (spS K (cV t) pX 2):=by
 show bB P w K mg base (iD P w) (0+1) t.mW t.m9 ["self","text"] (spS K (cV t) (cI 2 jg) 2)
 refine kZ (n:=2) (ar:=2) (k:=0) (b:=jg) T.xZ Eg rfl rfl ?_
 intro cdv A outer s H E W hr
 exact(aC (rO (cs:=[3]) ⟨⟨T.aF,T.eU⟩,True.intro⟩ (ak 0) (o9 PySem.F.plainAttrs_str PySem.F.slot_str_split PySem.F.type_str_split E_ (ak 1) (aj bU aA)))
  (aR (rO (cs:=[3]) ⟨⟨T.aF,T.aO⟩,True.intro⟩ (ak 0) aB)))
theorem bJ(T:Txt K mg t):bB P w K mg base TJ 1 t.jl t.mj ["self","at"] (yq K "at"):=
 Wm (k:=0) T.t7 zT rfl fun cdv A outer s H E=>Qs (X3 (pv 0) (pv 1) rfl)
theorem qL(T:Txt K mg t):bB P w K mg base (iD P w) 3 t.lq t.lD ["self"] (spS K (cV t) eY 1):=by
 show bB P w K mg base (iD P w) (2+1) t.lq t.lD ["self"] (spS K (cV t) (cI 1 dm) 1)
 have aM:= @bJ P w K mg base t T
 refine kZ (n:=1) (ar:=1) (k:=2) (b:=dm) T.wI CT rfl rfl ?_
 intro cdv A outer s H E W hr
 exact(aC (mq (fM Mu (cN (cs:=[3]) ⟨⟨T.aF,T.aO⟩,True.intro⟩ (ak 0)) (gm nO rfl T.qU nP (aj (cN (cs:=[3]) ⟨⟨T.aF,T.eU⟩,True.intro⟩ (ak 0)) aA)) (dG _)) (aR (ji (c:=2) T.j8 T.ju aM (hr.mono (by decide)) T.bC rfl T.jD rfl Tk.wish (aj (cN (cs:=[3]) ⟨⟨T.aF,T.aO⟩,True.intro⟩ (ak 0)) aA))) iC)
  (aR (cD (o9 PySem.F.plainAttrs_str PySem.F.slot_str_split PySem.F.type_str_split E_ (bF hr.units (cN (cs:=[3]) ⟨⟨T.aF,T.eU⟩,True.intro⟩ (ak 0)) (aX Cg (cN (cs:=[3]) ⟨⟨T.aF,T.aO⟩,True.intro⟩ (ak 0)) aB)) (aj bU aA)))))
theorem h_(T:Txt K mg t):bB P w K mg base (iD P w) 4 t.iY t.iZ ["self","first","count"] (spS K (cV t) aU 3):=by
 show bB P w K mg base (iD P w) (3+1) t.iY t.iZ ["self","first","count"] (spS K (cV t) (cI 4 a_) 3)
 have lN:= @qL P w K mg base t T
 have aM:= @bJ P w K mg base t T
 refine kZ (n:=4) (ar:=3) (k:=3) (b:=a_) T.sH rP rfl rfl ?_
 intro cdv A outer s H E W hr
 exact(aC (bH (i:=3) rP.nd rfl (Or.inl rfl) (kJ (kc:=3) (ak 0) T.aF T.nC lN Tk.wish (hr.mono (by decide)) T.dm .nil))
  (aC (mq (SW.pt (Qc (fM (HQ hr.units) (bF hr.units (ak 3) aB) (ak 1) (dG _)) (NP (fM (HQ hr.units) (gm nO rfl T.qU nP (aj (ak 3) aA)) (ak 2) (dG _))))) (aR (ji (c:=2) T.j8 T.ju aM (hr.mono (by decide)) T.bC rfl T.jD rfl Tk.wish (aj (cN (cs:=[3]) ⟨⟨T.aF,T.aO⟩,True.intro⟩ (ak 0)) aA))) iC)
  (aR (cD (ak 3)))))
theorem Lk(T:Txt K mg t):bB P w K mg base (iD P w) 1 t.Am t.Aq ["word","signs","most"] (spS K (cV t) vL 3):=by
 show bB P w K mg base (iD P w) (0+1) t.Am t.Aq ["word","signs","most"] (spS K (cV t) (cI 3 qe) 3)
 refine kZ (n:=3) (ar:=3) (k:=0) (b:=qe) T.Ak UL rfl rfl ?_
 intro cdv A outer s H E W hr
 exact(aR (cD (UJ (Eb WW aB (gm nO rfl T.qU nP (aj (ak 0) aA)) (dG _)) (UJ (Eb WW (gm nO rfl T.qU nP (aj (ak 0) aA)) (ak 2) (dG _)) (Uz (gm (abO rfl) rfl T.ZR acq (aj (vq rfl ["signs"] [1] (aal (ak 0)) ⟨⟨rfl,rfl,by first | exact .inl rfl | exact .inr rfl⟩,True.intro⟩ (fun _ _ _ _ _=>pP) (fun _ _ _ _ _=>(Eb acw (ak 0) (ak 1) (by with_unfolding_all rfl))) (by decide +kernel) (by decide +kernel) (by decide +kernel) (by decide +kernel)) aA)))))))
theorem Jy(T:Txt K mg t):bB P w K mg base (iD P w) 2 t.qw t.qI ["word"] (spS K (cV t) tW 1):=by
 show bB P w K mg base (iD P w) (1+1) t.qw t.qI ["word"] (spS K (cV t) (cI 2 lK) 1)
 have Kz:= @Lk P w K mg base t T
 refine kZ (n:=2) (ar:=1) (k:=1) (b:=lK) T.vW vz rfl rfl ?_
 intro cdv A outer s H E W hr
 exact(aC (bH (i:=1) vz.nd rfl (Or.inl rfl) (ak 0))
  (aC (mq (yZ (o9 PySem.F.plainAttrs_str PySem.F.slot_str_startswith PySem.F.type_str_startswith Hh (ak 0) (aj bU aA))) (aR (bH (i:=1) vz.nd rfl (Or.inl rfl) (zQ (ak 0) (pR aB) tQ))) iC)
  (aC (mq (NQ (yZ (cW Kz Tk.wish (hr.mono (by decide)) rfl T.Fd T.Ak.kp T.qe .nil (aj (ak 1) (aj (Qf rfl T.Fg) (aj (zR rfl T.wB) aA)))))) (aR (cD Qg)) iC)
  (aR (cD (adq (Eb (Av hr.units) (ak 0) bU (dG _)) (Uz (aan (o9 PySem.F.plainAttrs_str PySem.F.slot_str_startswith PySem.F.type_str_startswith Hh (ak 1) (aj bU aA))))))))))
theorem iG(T:Txt K mg t):bB P w K mg base (iD P w) 3 t.lu t.lE ["self","word"] (spS K (cV t) aZ 2):=by
 show bB P w K mg base (iD P w) (2+1) t.lu t.lE ["self","word"] (spS K (cV t) (cI 2 bL) 2)
 have Nf:= @Jy P w K mg base t T
 have aM:= @bJ P w K mg base t T
 refine kZ (n:=2) (ar:=2) (k:=2) (b:=bL) T.wJ CV rfl rfl ?_
 intro cdv A outer s H E W hr
 exact(aC (mq (NQ (yZ (cW Nf Tk.wish (hr.mono (by decide)) rfl T.Ab T.vW.kp T.lK .nil (aj (ak 1) aA)))) (aR (ji (c:=2) T.j8 T.ju aM (hr.mono (by decide)) T.bC rfl T.jD rfl Tk.wish (aj (cN (cs:=[3]) ⟨⟨T.aF,T.aO⟩,True.intro⟩ (ak 0)) aA))) iC)
  (aR (cD (mF abN rfl T.ZQ acp (aj (ak 1) aA)))))
theorem iw(T:Txt K mg t):bB P w K mg base (iD P w) 4 t.gG t.gH ["self","word"] (spS K (cV t) aV 2):=by
 show bB P w K mg base (iD P w) (3+1) t.gG t.gH ["self","word"] (spS K (cV t) (cI 3 aQ) 2)
 have cu:= @iG P w K mg base t T
 have aM:= @bJ P w K mg base t T
 refine kZ (n:=3) (ar:=2) (k:=3) (b:=aQ) T.pq o_ rfl rfl ?_
 intro cdv A outer s H E W hr
 exact(aC (bH (i:=2) o_.nd rfl (Or.inl rfl) (cM (kc:=3) (ak 0) T.aF T.fB cu Tk.wish (hr.mono (by decide)) T.bL .nil (aj (ak 1) aA)))
  (aC (mq (fM (Ko hr.units) (ak 2) aB (dG _)) (aR (ji (c:=2) T.j8 T.ju aM (hr.mono (by decide)) T.bC rfl T.jD rfl Tk.wish (aj (cN (cs:=[3]) ⟨⟨T.aF,T.aO⟩,True.intro⟩ (ak 0)) aA))) iC)
  (aR (cD (ak 2)))))
theorem wj(T:Txt K mg t):bB P w K mg base (iD P w) 5 t.lA t.lG ["self","word","bound"] (spS K (cV t) cP 3):=by
 show bB P w K mg base (iD P w) (4+1) t.lA t.lG ["self","word","bound"] (spS K (cV t) (cI 4 cj) 3)
 have b8:= @iw P w K mg base t T
 have aM:= @bJ P w K mg base t T
 refine kZ (n:=4) (ar:=3) (k:=4) (b:=cj) T.wL v_ rfl rfl ?_
 intro cdv A outer s H E W hr
 exact(aC (bH (i:=3) v_.nd rfl (Or.inl rfl) (cM (kc:=3) (ak 0) T.aF T.di b8 Tk.wish (hr.mono (by decide)) T.aQ .nil (aj (ak 1) aA)))
  (aC (mq (fM agI (ak 3) (ak 2) (dG _)) (aR (ji (c:=2) T.j8 T.ju aM (hr.mono (by decide)) T.bC rfl T.jD rfl Tk.wish (aj (cN (cs:=[3]) ⟨⟨T.aF,T.aO⟩,True.intro⟩ (ak 0)) aA))) iC)
  (aR (cD (ak 3)))))
theorem Ex(T:Txt K mg t):bB P w K mg base (iD P w) 6 t.mX t.m_ ["self","word"] (spS K (cV t) gY 2):=by
 show bB P w K mg base (iD P w) (5+1) t.mX t.m_ ["self","word"] (spS K (cV t) (cI 2 gk) 2)
 have o4:= @wj P w K mg base t T
 refine kZ (n:=2) (ar:=2) (k:=5) (b:=gk) T.x_ Eh rfl rfl ?_
 intro cdv A outer s H E W hr
 exact(aR (cD (cM (kc:=3) (ak 0) T.aF T.nF o4 Tk.wish (hr.mono (by decide)) T.cj .nil (aj (ak 1) (aj (zR rfl T.Ac) aA)))))
theorem jO(T:Txt K mg t):bB P w K mg base (iD P w) 1 t.lz t.lF ["self"] (spS K (cV t) gF 1):=by
 show bB P w K mg base (iD P w) (0+1) t.lz t.lF ["self"] (spS K (cV t) (cI 1 cQ) 1)
 refine kZ (n:=1) (ar:=1) (k:=0) (b:=cQ) T.wK CW rfl rfl ?_
 intro cdv A outer s H E W hr
 exact(aR (rO (cs:=[3]) ⟨⟨T.aF,T.aO⟩,True.intro⟩ (ak 0) (aX jF (cN (cs:=[3]) ⟨⟨T.aF,T.aO⟩,True.intro⟩ (ak 0)) aB)))
theorem Jv(T:Txt K mg t):bB P w K mg base (iD P w) 7 t.qm t.qF ["reader"] (spS K (cV t) gW 1):=by
 show bB P w K mg base (iD P w) (6+1) t.qm t.qF ["reader"] (spS K (cV t) (cI 4 gJ) 1)
 have cJ:= @h_ P w K mg base t T
 have GQ:= @Ex P w K mg base t T
 have b8:= @iw P w K mg base t T
 have fu:= @jO P w K mg base t T
 refine kZ (n:=4) (ar:=1) (k:=6) (b:=gJ) T.vU oK rfl rfl ?_
 intro cdv A outer s H E W hr
 exact(aC (bH (i:=1) oK.nd rfl (Or.inl rfl) (cM (kc:=3) (ak 0) T.aF T.fO cJ Tk.wish (hr.mono (by decide)) T.a_ .nil (aj bU (aj aB aA))))
  (aC (bH (i:=2) oK.nd rfl (Or.inl rfl) Ea)
  (aC (mq (fM (HQ hr.units) (bF hr.units (ak 1) aB) bU (dG _)) (aR (bH (i:=2) oK.nd rfl (Or.inl rfl) (cM (kc:=3) (ak 0) T.aF T.xN GQ Tk.wish (hr.mono (by decide)) T.gk .nil (aj (bF hr.units (ak 1) aB) aA)))) iC)
  (aC (bH (i:=3) oK.nd rfl (Or.inl rfl) (d9 (aj (cM (kc:=3) (ak 0) T.aF T.di b8 Tk.wish (hr.mono (by decide)) T.aQ .nil (aj (bF hr.units (ak 1) aB) aA)) (aj (ak 2) aA))))
  (aC (iu (kJ (kc:=3) (ak 0) T.aF T.iH fu Tk.wish (hr.mono (by decide)) T.cQ .nil))
  (aR (cD (ak 3))))))))
theorem qT(T:Txt K mg t):bB P w K mg base (iD P w) 6 t.ie t.ig ["self","one","two"] (spS K (cV t) bK 3):=by
 show bB P w K mg base (iD P w) (5+1) t.ie t.ig ["self","one","two"] (spS K (cV t) (cI 4 bD) 3)
 have o4:= @wj P w K mg base t T
 have aM:= @bJ P w K mg base t T
 refine kZ (n:=4) (ar:=3) (k:=5) (b:=bD) T.qX qR rfl rfl ?_
 intro cdv A outer s H E W hr
 exact(aC (bH (i:=3) qR.nd rfl (Or.inl rfl) (d9 (aj (cM (kc:=3) (ak 0) T.aF T.nF o4 Tk.wish (hr.mono (by decide)) T.cj .nil (aj (ak 1) (aj (aX WR aB (zR rfl T.Ac)) aA))) (aj (cM (kc:=3) (ak 0) T.aF T.nF o4 Tk.wish (hr.mono (by decide)) T.cj .nil (aj (ak 2) (aj (aX WR aB (zR rfl T.Ac)) aA))) aA))))
  (aC (mq (fM (Av hr.units) (bF hr.units (ak 3) aB) aB (dG _)) (aR (ji (c:=2) T.j8 T.ju aM (hr.mono (by decide)) T.bC rfl T.jD rfl Tk.wish (aj (cN (cs:=[3]) ⟨⟨T.aF,T.aO⟩,True.intro⟩ (ak 0)) aA))) iC)
  (aR (cD (ak 3)))))
theorem Jx(T:Txt K mg t):bB P w K mg base (iD P w) 7 t.qt t.qH ["reader"] (spS K (cV t) dR 1):=by
 show bB P w K mg base (iD P w) (6+1) t.qt t.qH ["reader"] (spS K (cV t) (cI 4 dX) 1)
 have cJ:= @h_ P w K mg base t T
 have b8:= @iw P w K mg base t T
 have nW:= @qT P w K mg base t T
 have fu:= @jO P w K mg base t T
 refine kZ (n:=4) (ar:=1) (k:=6) (b:=dX) T.vV rz rfl rfl ?_
 intro cdv A outer s H E W hr
 exact(aC (bH (i:=1) rz.nd rfl (Or.inl rfl) (cM (kc:=3) (ak 0) T.aF T.fO cJ Tk.wish (hr.mono (by decide)) T.a_ .nil (aj bU (aj aB aA))))
  (aC (bH (i:=2) rz.nd rfl (Or.inl rfl) (cM (kc:=3) (ak 0) T.aF T.di b8 Tk.wish (hr.mono (by decide)) T.aQ .nil (aj (bF hr.units (ak 1) aB) aA)))
  (aC (bH (i:=3) rz.nd rfl (Or.inl rfl) (d9 (aj (ak 2) (aj (cM (kc:=3) (ak 0) T.aF T.di b8 Tk.wish (hr.mono (by decide)) T.aQ .nil (aj (bF hr.units (ak 1) aB) aA)) (aj (cM (kc:=3) (ak 0) T.aF T.mD nW Tk.wish (hr.mono (by decide)) T.bD .nil (aj (bF hr.units (ak 1) aB) (aj (bF hr.units (ak 1) aB) aA))) aA)))))
  (aC (iu (kJ (kc:=3) (ak 0) T.aF T.iH fu Tk.wish (hr.mono (by decide)) T.cQ .nil))
  (aR (cD (ak 3)))))))
theorem pC(T:Txt K mg t):bB P w K mg base (iD P w) 4 t.jT t.jV ["self","word"] (spS K (cV t) dD 2):=by
 show bB P w K mg base (iD P w) (3+1) t.jT t.jV ["self","word"] (spS K (cV t) (cI 2 cU) 2)
 have lN:= @qL P w K mg base t T
 refine kZ (n:=2) (ar:=2) (k:=3) (b:=cU) T.uJ Bg rfl rfl ?_
 intro cdv A outer s H E W hr
 exact(aR (cD (Eb (Av hr.units) (bF hr.units (kJ (kc:=3) (ak 0) T.aF T.nC lN Tk.wish (hr.mono (by decide)) T.dm .nil) aB) (ak 1) (dG _))))
theorem Oq(T:Txt K mg t):bB P w K mg base (iD P w) 2 t.uL t.uP ["word"] (spS K (cV t) yu 1):=by
 show bB P w K mg base (iD P w) (1+1) t.uL t.uP ["word"] (spS K (cV t) (cI 1 pN) 1)
 have Kz:= @Lk P w K mg base t T
 refine kZ (n:=1) (ar:=1) (k:=1) (b:=pN) T.zq N5 rfl rfl ?_
 intro cdv A outer s H E W hr
 exact(aR (cD (cW Kz Tk.wish (hr.mono (by decide)) rfl T.Fd T.Ak.kp T.qe .nil (aj (ak 0) (aj (Qf rfl T.Ff) (aj (zR rfl T.wA) aA))))))
theorem xu(T:Txt K mg t):bB P w K mg base (iD P w) 3 t.mV t.m8 ["self","word"] (spS K (cV t) gf 2):=by
 show bB P w K mg base (iD P w) (2+1) t.mV t.m8 ["self","word"] (spS K (cV t) (cI 2 dZ) 2)
 have TF:= @Oq P w K mg base t T
 have aM:= @bJ P w K mg base t T
 refine kZ (n:=2) (ar:=2) (k:=2) (b:=dZ) T.xY Ef rfl rfl ?_
 intro cdv A outer s H E W hr
 exact(aC (mq (NQ (yZ (cW TF Tk.wish (hr.mono (by decide)) rfl T.Fe T.zq.kp T.pN .nil (aj (ak 1) aA)))) (aR (ji (c:=2) T.j8 T.ju aM (hr.mono (by decide)) T.bC rfl T.jD rfl Tk.wish (aj (cN (cs:=[3]) ⟨⟨T.aF,T.aO⟩,True.intro⟩ (ak 0)) aA))) iC)
  (aR (cD (ak 1))))
theorem Er(T:Txt K mg t):bB P w K mg base (iD P w) 5 t.mO t.mZ ["reader"] (spS K (cV t) dj 1):=by
 show bB P w K mg base (iD P w) (4+1) t.mO t.mZ ["reader"] (spS K (cV t) (cI 4 dY) 1)
 have jX:= @pC P w K mg base t T
 have cJ:= @h_ P w K mg base t T
 have uw:= @xu P w K mg base t T
 have cu:= @iG P w K mg base t T
 have aM:= @bJ P w K mg base t T
 have fu:= @jO P w K mg base t T
 refine kZ (n:=4) (ar:=1) (k:=4) (b:=dY) T.sy oJ rfl rfl ?_
 intro cdv A outer s H E W hr
 exact(aC (bH (i:=1) oJ.nd rfl (Or.inl rfl) (vm aA))
  (aC (DX (xq rfl rfl) (yZ (cM (kc:=3) (ak 0) T.aF T.lY jX Tk.wish (hr.mono (by decide)) T.cU .nil (aj bU aA))) (aC (bH (i:=2) oJ.nd rfl (Or.inl rfl) (cM (kc:=3) (ak 0) T.aF T.fO cJ Tk.wish (hr.mono (by decide)) T.a_ .nil (aj bU (aj aB aA))))
  (aC (bH (i:=3) oJ.nd rfl (Or.inl rfl) (d9 (aj (cM (kc:=3) (ak 0) T.aF T.rZ uw Tk.wish (hr.mono (by decide)) T.dZ .nil (aj (bF hr.units (ak 2) aB) aA)) (aj (cM (kc:=3) (ak 0) T.aF T.fB cu Tk.wish (hr.mono (by decide)) T.bL .nil (aj (bF hr.units (ak 2) aB) aA)) aA))))
  (aC (mq (SW.pt (Qc (fM (Av hr.units) (bF hr.units (ak 3) aB) aB (dG _)) (NP (SW.pt (Ja (fM Mu (gm nO rfl T.qU nP (aj (ak 1) aA)) aB (dG _)) (Dj (fM (WT hr.units) (bF hr.units (ak 3) aB) (bF hr.units (bF hr.units (ak 1) (Zz Uc aB)) aB) (dG _)))))))) (aR (ji (c:=2) T.j8 T.ju aM (hr.mono (by decide)) T.bC rfl T.jD rfl Tk.wish (aj (cN (cs:=[3]) ⟨⟨T.aF,T.aO⟩,True.intro⟩ (ak 0)) aA))) iC)
  (aC (iu (o9 PySem.F.plainAttrs_list PySem.F.slot_list_append PySem.F.type_list_append n6 (ak 1) (aj (ak 3) aA)))
  (aR (iu (kJ (kc:=3) (ak 0) T.aF T.iH fu Tk.wish (hr.mono (by decide)) T.cQ .nil))))))))
  (aR (cD (mF uQ rfl T.vJ uR (aj (ak 1) aA))))))
theorem Dd(T:Txt K mg t):bB P w K mg base (iD P w) 5 t.lg t.lC ["reader"] (spS K (cV t) eX 1):=by
 show bB P w K mg base (iD P w) (4+1) t.lg t.lC ["reader"] (spS K (cV t) (cI 4 fj) 1)
 have jX:= @pC P w K mg base t T
 have cJ:= @h_ P w K mg base t T
 have cu:= @iG P w K mg base t T
 have aM:= @bJ P w K mg base t T
 have fu:= @jO P w K mg base t T
 refine kZ (n:=4) (ar:=1) (k:=4) (b:=fj) T.qN nA rfl rfl ?_
 intro cdv A outer s H E W hr
 exact(aC (bH (i:=1) nA.nd rfl (Or.inl rfl) (vm aA))
  (aC (DX (xq rfl rfl) (yZ (cM (kc:=3) (ak 0) T.aF T.lY jX Tk.wish (hr.mono (by decide)) T.cU .nil (aj bU aA))) (aC (bH (i:=2) nA.nd rfl (Or.inl rfl) (cM (kc:=3) (ak 0) T.aF T.fO cJ Tk.wish (hr.mono (by decide)) T.a_ .nil (aj bU (aj aB aA))))
  (aC (bH (i:=3) nA.nd rfl (Or.inl rfl) (mF uQ rfl T.vJ uR (aj (UG Tk.wish rfl rfl rfl ["reader"] [0] (y_ (zQ (ak 2) (pR aB) tQ)) ⟨⟨rfl,rfl,by first | exact .inl rfl | exact .inr rfl⟩,True.intro⟩ (fun _ _ _ _ _ _=>pP) (fun _ _ _ _ _ _=>(cM (kc:=3) (ak 1) T.aF T.fB cu Tk.wish (hr.mono (by decide)) T.bL .nil (aj (ak 0) aA))) (by decide +kernel) (by decide +kernel) (by decide +kernel) (by decide +kernel)) aA)))
  (aC (mq (SW.pt (Ja (fM Mu (gm nO rfl T.qU nP (aj (ak 1) aA)) aB (dG _)) (Dj (fM (WT hr.units) (zQ (ak 3) tQ (pR aB)) (zQ (bF hr.units (ak 1) (Zz Uc aB)) tQ (pR aB)) (dG _))))) (aR (ji (c:=2) T.j8 T.ju aM (hr.mono (by decide)) T.bC rfl T.jD rfl Tk.wish (aj (cN (cs:=[3]) ⟨⟨T.aF,T.aO⟩,True.intro⟩ (ak 0)) aA))) iC)
  (aC (iu (o9 PySem.F.plainAttrs_list PySem.F.slot_list_append PySem.F.type_list_append n6 (ak 1) (aj (ak 3) aA)))
  (aR (iu (kJ (kc:=3) (ak 0) T.aF T.iH fu Tk.wish (hr.mono (by decide)) T.cQ .nil))))))))
  (aR (cD (mF uQ rfl T.vJ uR (aj (ak 1) aA))))))
theorem Gu(T:Txt K mg t):bB P w K mg base (iD P w) 4 t.oW t.oY ["reader","words"] (spS K (cV t) gb 2):=by
 show bB P w K mg base (iD P w) (3+1) t.oW t.oY ["reader","words"] (spS K (cV t) (cI 3 e_) 2)
 have aM:= @bJ P w K mg base t T
 have cu:= @iG P w K mg base t T
 have uw:= @xu P w K mg base t T
 refine kZ (n:=3) (ar:=2) (k:=3) (b:=e_) T.ur yJ rfl rfl ?_
 intro cdv A outer s H E W hr
 exact(aC (mq (fM (HQ hr.units) (Xy [("put",3),("add",3),("swap",4)] rfl T.xJ T.wZ (bF hr.units (ak 1) aB)) (gm nO rfl T.qU nP (aj (ak 1) aA)) (dG _)) (aR (ji (c:=2) T.j8 T.ju aM (hr.mono (by decide)) T.bC rfl T.jD rfl Tk.wish (aj (cN (cs:=[3]) ⟨⟨T.aF,T.aO⟩,True.intro⟩ (ak 0)) aA))) iC)
  (aC (Ux (k:=2) Tk.wish rfl rfl rfl ["reader"] [0] yJ.nd rfl rfl (y_ (zQ (ak 1) (pR aB) tQ)) ⟨⟨rfl,rfl,by first | exact .inl rfl | exact .inr rfl⟩,True.intro⟩ (fun _ _ _ _ _ _=>pP) (fun _ _ _ _ _ _=>(cM (kc:=3) (ak 1) T.aF T.fB cu Tk.wish (hr.mono (by decide)) T.bL .nil (aj (ak 0) aA))) (by decide +kernel) (by decide +kernel) (by decide +kernel) (by decide +kernel))
  (aR (cD (aX jF (d9 (aj (bF hr.units (ak 1) aB) (aj (cM (kc:=3) (ak 0) T.aF T.rZ uw Tk.wish (hr.mono (by decide)) T.dZ .nil (aj (bF hr.units (ak 1) aB) aA)) aA))) (mF uQ rfl T.vJ uR (aj (ak 2) aA)))))))
theorem Ju(T:Txt K mg t):bB P w K mg base (iD P w) 7 t.ql t.qD ["reader","words"] (spS K (cV t) bV 2):=by
 show bB P w K mg base (iD P w) (6+1) t.ql t.qD ["reader","words"] (spS K (cV t) (cI 2 bR) 2)
 have nW:= @qT P w K mg base t T
 have cu:= @iG P w K mg base t T
 have Ky:= @Gu P w K mg base t T
 have aM:= @bJ P w K mg base t T
 refine kZ (n:=2) (ar:=2) (k:=6) (b:=bR) T.vR Jd rfl rfl ?_
 intro cdv A outer s H E W hr
 exact(aC (mq (fM (Av hr.units) (ak 1) (vm (aj bU aA)) (dG _)) (aR (cD (d9 (aj bU aA)))) iC)
  (aC (mq (SW.pt (Ja (fM (Av hr.units) (gm nO rfl T.qU nP (aj (ak 1) aA)) aB (dG _)) (Dj (fM (Av hr.units) (bF hr.units (ak 1) aB) bU (dG _))))) (aR (cD (aX jF (d9 (aj bU aA)) (cM (kc:=3) (ak 0) T.aF T.mD nW Tk.wish (hr.mono (by decide)) T.bD .nil (aj (bF hr.units (ak 1) aB) (aj (bF hr.units (ak 1) aB) aA)))))) iC)
  (aC (mq (SW.pt (Ja (fM Mu (gm nO rfl T.qU nP (aj (ak 1) aA)) aB (dG _)) (Dj (fM (Av hr.units) (bF hr.units (ak 1) aB) bU (dG _))))) (aR (cD (d9 (aj bU (aj (cM (kc:=3) (ak 0) T.aF T.fB cu Tk.wish (hr.mono (by decide)) T.bL .nil (aj (bF hr.units (ak 1) aB) aA)) (aj (cM (kc:=3) (ak 0) T.aF T.fB cu Tk.wish (hr.mono (by decide)) T.bL .nil (aj (bF hr.units (ak 1) aB) aA)) (aj (cW Ky Tk.wish (hr.mono (by decide)) rfl T.yM T.ur.kp T.e_ .nil (aj (ak 0) (aj (zQ (ak 1) (pR aB) tQ) aA))) aA))))))) iC)
  (aR (ji (c:=2) T.j8 T.ju aM (hr.mono (by decide)) T.bC rfl T.jD rfl Tk.wish (aj (cN (cs:=[3]) ⟨⟨T.aF,T.aO⟩,True.intro⟩ (ak 0)) aA))))))
theorem Dc(T:Txt K mg t):bB P w K mg base (iD P w) 8 t.k_ t.lB ["reader"] (spS K (cV t) gC 1):=by
 show bB P w K mg base (iD P w) (7+1) t.k_ t.lB ["reader"] (spS K (cV t) (cI 4 fc) 1)
 have jX:= @pC P w K mg base t T
 have lN:= @qL P w K mg base t T
 have MP:= @Ju P w K mg base t T
 have b8:= @iw P w K mg base t T
 have fu:= @jO P w K mg base t T
 refine kZ (n:=4) (ar:=1) (k:=7) (b:=fc) T.qM nu rfl rfl ?_
 intro cdv A outer s H E W hr
 exact(aC (bH (i:=1) nu.nd rfl (Or.inl rfl) (vm aA))
  (aC (DX (xq rfl rfl) (yZ (cM (kc:=3) (ak 0) T.aF T.lY jX Tk.wish (hr.mono (by decide)) T.cU .nil (aj bU aA))) (aC (bH (i:=2) nu.nd rfl (Or.inl rfl) (kJ (kc:=3) (ak 0) T.aF T.nC lN Tk.wish (hr.mono (by decide)) T.dm .nil))
  (aC (bH (i:=3) nu.nd rfl (Or.inl rfl) (cW MP Tk.wish (hr.mono (by decide)) rfl T.z9 T.vR.kp T.bR .nil (aj (ak 0) (aj (zQ (ak 2) (pR aB) tQ) aA))))
  (aC (iu (o9 PySem.F.plainAttrs_list PySem.F.slot_list_append PySem.F.type_list_append n6 (ak 1) (aj (d9 (aj (cM (kc:=3) (ak 0) T.aF T.di b8 Tk.wish (hr.mono (by decide)) T.aQ .nil (aj (bF hr.units (ak 2) aB) aA)) (aj (ak 3) aA))) aA)))
  (aR (iu (kJ (kc:=3) (ak 0) T.aF T.iH fu Tk.wish (hr.mono (by decide)) T.cQ .nil)))))))
  (aR (cD (ak 1)))))
theorem Bv(T:Txt K mg t):bB P w K mg base (iD P w) 5 t.jR t.jU ["self"] (spS K (cV t) fC 1):=by
 show bB P w K mg base (iD P w) (4+1) t.jR t.jU ["self"] (spS K (cV t) (cI 2 cT) 1)
 have cJ:= @h_ P w K mg base t T
 have cu:= @iG P w K mg base t T
 have aM:= @bJ P w K mg base t T
 refine kZ (n:=2) (ar:=1) (k:=4) (b:=cT) T.uI uB rfl rfl ?_
 intro cdv A outer s H E W hr
 exact(aC (bH (i:=1) uB.nd rfl (Or.inl rfl) (cM (kc:=3) (ak 0) T.aF T.fO cJ Tk.wish (hr.mono (by decide)) T.a_ .nil (aj bU (aj aB aA))))
  (aC (mq (fM (HQ hr.units) (cM (kc:=3) (ak 0) T.aF T.fB cu Tk.wish (hr.mono (by decide)) T.bL .nil (aj (bF hr.units (ak 1) aB) aA)) (aX Cg (cN (cs:=[3]) ⟨⟨T.aF,T.aO⟩,True.intro⟩ (ak 0)) aB) (dG _)) (aR (ji (c:=2) T.j8 T.ju aM (hr.mono (by decide)) T.bC rfl T.jD rfl Tk.wish (aj (cN (cs:=[3]) ⟨⟨T.aF,T.aO⟩,True.intro⟩ (ak 0)) aA))) iC)
  (aR (mq (fM (Ko hr.units) (cN (cs:=[3]) ⟨⟨T.aF,T.aO⟩,True.intro⟩ (ak 0)) (gm nO rfl T.qU nP (aj (cN (cs:=[3]) ⟨⟨T.aF,T.eU⟩,True.intro⟩ (ak 0)) aA)) (dG _)) (aR (ji (c:=2) T.j8 T.ju aM (hr.mono (by decide)) T.bC rfl T.jD rfl Tk.wish (aj (aX jF (cN (cs:=[3]) ⟨⟨T.aF,T.aO⟩,True.intro⟩ (ak 0)) aB) aA))) iC))))
theorem Jw(T:Txt K mg t):bB P w K mg base (iD P w) 9 t.qp t.qG ["text"] (spS K (cV t) cO 1):=by
 show bB P w K mg base (iD P w) (8+1) t.qp t.qG ["text"] (spS K (cV t) (cI 7 cC) 1)
 have GP:= @Ew P w K mg base t T
 have M_:= @Jv P w K mg base t T
 have Nb:= @Jx P w K mg base t T
 have GD:= @Er P w K mg base t T
 have F_:= @Dd P w K mg base t T
 have tK:= @xr P w K mg base t T
 have FZ:= @Dc P w K mg base t T
 have Dg:= @Bv P w K mg base t T
 have yo:= @z8 P w K mg base t T
 refine kZ (n:=7) (ar:=1) (k:=8) (b:=cC) T.rC jw rfl rfl ?_
 intro cdv A outer s H E W hr
 exact(aC (bH (i:=1) jw.nd rfl (Or.inl rfl) (yr (kc:=3) T.rK GP Tk.wish (hr.mono (by decide)) rfl T.Hi T.jg .nil (aj (ak 0) aA)))
  (aC (bH (i:=2) jw.nd rfl (Or.inl rfl) (cW M_ Tk.wish (hr.mono (by decide)) rfl T.z_ T.vU.kp T.gJ .nil (aj (ak 1) aA)))
  (aC (bH (i:=3) jw.nd rfl (Or.inl rfl) (cW Nb Tk.wish (hr.mono (by decide)) rfl T.Aa T.vV.kp T.dX .nil (aj (ak 1) aA)))
  (aC (bH (i:=4) jw.nd rfl (Or.inl rfl) (cW GD Tk.wish (hr.mono (by decide)) rfl T.xF T.sy.kp T.dY .nil (aj (ak 1) aA)))
  (aC (bH (i:=5) jw.nd rfl (Or.inl rfl) (cW F_ Tk.wish (hr.mono (by decide)) rfl T.wz T.qN.kp T.fj .nil (aj (ak 1) aA)))
  (aC (bH (i:=6) jw.nd rfl (Or.inl rfl) (yr (kc:=4) T.xx tK Tk.wish (hr.mono (by decide)) rfl T.JH T.jJ .nil (aj (bF hr.units (ak 3) aB) (aj (bF hr.units (ak 3) aB) (aj (bF hr.units (ak 3) aB) (aj (cW FZ Tk.wish (hr.mono (by decide)) rfl T.wu T.qM.kp T.fc .nil (aj (ak 1) aA)) aA))))))
  (aC (iu (kJ (kc:=3) (ak 1) T.aF T.uD Dg Tk.wish (hr.mono (by decide)) T.cT .nil))
  (aR (cD (yr (kc:=5) T.vH yo Tk.wish (hr.mono (by decide)) rfl T.JL T.jr .nil (aj (bF hr.units (ak 2) aB) (aj (bF hr.units (ak 2) aB) (aj (ak 6) (aj (d9 (aj (ak 4) (aj (ak 5) aA))) aA))))))))))))))
theorem abd(T:Txt K mg t):bB P w K mg base (iD P w) 10 t.HB t.CJ ["_law_script"] (spS K (cV t) VP 1):=by
 show bB P w K mg base (iD P w) (9+1) t.HB t.CJ ["_law_script"] (spS K (cV t) (cI 7 HY) 1)
 have Ia:= @Oo P w K mg base t T
 have Py:= @Lj P w K mg base t T
 have CQ:= @Jw P w K mg base t T
 refine kZ (n:=7) (ar:=1) (k:=9) (b:=HY) T.O5 xj rfl rfl ?_
 intro cdv A outer s H E W hr
 exact(aC (bH (i:=1) xj.nd rfl (Or.inl rfl) (cW Ia Tk.wish (hr.mono (by decide)) rfl T.zm T.vQ.kp T.oF .nil (aj (cW Py Tk.wish (hr.mono (by decide)) rfl T.Cr T.xW.kp T.nR .nil (aj (ak 0) aA)) aA)))
  (aC (mq (fM (HQ hr.units) (cW Ia Tk.wish (hr.mono (by decide)) rfl T.zm T.vQ.kp T.oF .nil (aj (cW CQ Tk.wish (hr.mono (by decide)) rfl T.vI T.rC.kp T.cC .nil (aj (ak 1) aA)) aA)) (ak 1) (dG _)) (aR (cD Qg)) iC)
  (aC (Uw (xq rfl rfl) rfl (y_ (zQ (ak 0) (pR aB) (pR aB))) (Qe (i:=2) xj.nd rfl (Or.inl rfl)) (aC (bH (i:=3) xj.nd rfl (Or.inl rfl) (zQ (ak 1) tQ (pR (aX ir (ak 2) (gm nO rfl T.qU nP (aj (ak 1) aA))))))
  (aC (bH (i:=4) xj.nd rfl (Or.inl rfl) (gm nO rfl T.qU nP (aj (o9 PySem.F.plainAttrs_str PySem.F.slot_str_split PySem.F.type_str_split E_ (ak 3) (aj bU aA)) aA)))
  (aC (bH (i:=5) xj.nd rfl (Or.inl rfl) Ea)
  (aC (Uv (i:=6) (cl:=[(0,false),(2,true)]) (v:= .ref t.lH) (cv:= .ref t.lH) rfl rfl Tk.wish (fun _ z=>z) (fun _=>Dp (v:= .ref t.lH) rfl T.jD rfl) ⟨T.tO,⟨T.zH,True.intro⟩⟩ xj.nd rfl rfl rfl (fun _ _=>(aR (iu (cW CQ Tk.wish (hr.mono (by decide)) rfl T.vI T.rC.kp T.cC .nil (aj (ak 3) aA))))) (fun _=>(aR (bH (i:=5) xj.nd rfl (Or.inl rfl) (aam (cs:=[0,2]) ⟨⟨T.zL,T.zK⟩,⟨⟨T.ju,T.PN⟩,True.intro⟩⟩ (ak 6))))))
  (aR (mq (SW.pt (Qc (fM Z5 (ak 5) Ea (dG _)) (Qc (fM (Ko hr.units) (ak 5) (ak 4) (dG _)) (NP (fM Mu (ak 5) (aX jF (ak 4) aB) (dG _)))))) (aR (cD Qg)) iC)))))))
  (aR (cD Qg)))))
theorem SM(T:Txt K mg t)(s:Shared)(u:Value):BindsTo s t.CJ ⟨[u],[]⟩ [("_law_script",u)]:=by
 obtain⟨oc,od,kV,doc,pm,an,cdv,ct,osl,e,_⟩:=T.O5.ex
 rw[e]
 exact .of_eq rfl
theorem Yk(T:Txt K mg t):bB P w K mg base TJ 10 t.HB t.CJ ["_law_script"] (spL K):=aeQ (abd T) abp
end
theorem all_mk{K:PySem.W.Frag}{h:Heap}{mg:Str→Option Value}(X:K.In h)(G:h.Ns mainGlobals mg)
  {tL pO dg b_ nY f0 f1 f2 f3 f4 f5 f6 f7 f8 f9 f10 f11 f12 f13 f14 f15 f16 f17 f18 f19 f20 f21 f22 f23 f24 f25 f26 f27 f28 f29 f30 f31 f32 f33 f34 f35 qg:Addr}
  {oc0 kV0 dc0 pm0 cd0 ct0 oc1 kV1 dc1 pm1 cd1 ct1 oc2 kV2 dc2 pm2 cd2 ct2 oc3 kV3 dc3 pm3 cd3 ct3 oc4 kV4 dc4 pm4 cd4 ct4 oc5 kV5 dc5 pm5 cd5 ct5 oc6 kV6 dc6 pm6 cd6 ct6 oc7 kV7 dc7 pm7 cd7 ct7 oc8 kV8 dc8 pm8 cd8 ct8 oc9 kV9 dc9 pm9 cd9 ct9 akZ afg age aeg ach agG akY afe agd aef acg agF akX afd agc aee acf agE akW afc agb aed ace agD akV afb aga aec acd agC akU afa af_ aeb ab_ agB akT ae_ af9 aea ab9 agA akS ae9 af8 ad_ ab8 agz akR ae8 af7 ad9 ab7 agy akQ ae7 af6 ad8 ab6 agx akP ae6 af5 ad7 ab5 agw akO ae5 af4 ad6 ab4 agv akN ae4 af3 ad5 ab3 agu akM ae3 af2 ad4 ab2 agt akL ae2 af1 ad3 ab1 ags akK ae1 af0 ad2 ab0 agr akJ ae0 afZ ad1 abZ agq akI aeZ afY ad0 abY agp akH aeY afX adZ abX ago akG aeX afW adY abW agn akF aeW afV adX abV agm akE aeV afU adW abU agl akD aeU afT adV abT agk akC aeT afS adU abS agj akB aeS afR adT abR agi akA aeR afQ adS abQ agh:Value}
  {od0 an0 od1 an1 od2 an2 od3 an3 od4 an4 od5 an5 od6 an6 od7 an7 od8 an8 od9 an9 akz aha aky ag9 akx ag8 akv ag7 aku ag6 akt ag5 aks ag4 akr ag3 akq ag2 akp ag1 ako ag0 akn agZ akm agY akl agX akk agW akj agV aki agU akh agT akg agS akf agR ake agQ akd agP akc agO akb agN aka agM aj_ agL:Option Addr}
  {sl0 sl1 sl2 sl3 sl4 sl5 sl6 sl7 sl8 sl9 ajS ajR ajQ ajP ajO ajN ajM ajL ajK ajJ ajI ajH ajG ajF ajE ajD ajC ajB ajA ajz ajy ajx ajw ajv aju ajt:Array (Option Value)}
  {rY:Obj}
  {Ft:Nat}
  {Ie Rp Ib ym yj:Tok}
  {ye:Array DictEntry}
  {JF Jr:Str} {MN:Addr} {Kp jG:List Value} {Jb:List Str} {Jf:List Value} {Ku:Bool} {Kf:Option Bool} {Kd:Option Addr} {JW JV JS JR JQ:Option Value}
  {Yr XN:Str} {acF:Addr} {Zk vZ:List Value} {Xv:List Str} {Xz:List Value} {Zo:Bool} {Y_:Option Bool} {YZ:Option Addr} {YC YB Yz Yy Yx:Option Value}
  (Pq:PySem.W.nsIn K mainGlobals "Row" = some (some (.ref tL)))
  (Kw:PySem.W.nsIn K mainGlobals "Book" = some (some (.ref pO)))
  (Cj:PySem.W.nsIn K mainGlobals "Reader" = some (some (.ref dg)))
  (v7:PySem.W.nsIn K mainGlobals "HallError" = some (some (.ref b_)))
  (Kv:PySem.W.nsIn K mainGlobals "Torn" = some (some (.ref nY)))
  (a0:PySem.W.nsIn K mainGlobals "worded" = some (some (.ref f0)))
  (l0:K.lookup f0=some ⟨oc0,od0,.func (PySem.W.fnOf "worded" "worded" (aJ oM) (aG oM) (au oM) .none kV0 dc0 pm0 an0 cd0 ct0),sl0⟩)
  (c0:PySem.W.codeIn K cd0 "worded" = true)
  (k0:PySem.W.keepIn K (.ref f0)=true)
  (a1:PySem.W.nsIn K mainGlobals "entry_parts" = some (some (.ref f1)))
  (l1:K.lookup f1=some ⟨oc1,od1,.func (PySem.W.fnOf "entry_parts" "entry_parts" (aJ fV) (aG fV) (au fV) .none kV1 dc1 pm1 an1 cd1 ct1),sl1⟩)
  (c1:PySem.W.codeIn K cd1 "entry_parts" = true)
  (k1:PySem.W.keepIn K (.ref f1)=true)
  (a2:PySem.W.findIn K (.ref tL) "entries" = some (some (.ref f2)))
  (i2:PySem.W.isFn K (.ref f2)=true)
  (l2:K.lookup f2=some ⟨oc2,od2,.func (PySem.W.fnOf "entries" "Row.entries" (aJ fW) (aG fW) (au fW) .none kV2 dc2 pm2 an2 cd2 ct2),sl2⟩)
  (c2:PySem.W.codeIn K cd2 "Row.entries" = true)
  (k2:PySem.W.keepIn K (.ref f2)=true)
  (a3:PySem.W.nsIn K mainGlobals "written" = some (some (.ref f3)))
  (l3:K.lookup f3=some ⟨oc3,od3,.func (PySem.W.fnOf "written" "written" (aJ lU) (aG lU) (au lU) .none kV3 dc3 pm3 an3 cd3 ct3),sl3⟩)
  (c3:PySem.W.codeIn K cd3 "written" = true)
  (k3:PySem.W.keepIn K (.ref f3)=true)
  (a4:PySem.W.nsIn K mainGlobals "_law_cell_at" = some (some (.ref f4)))
  (l4:K.lookup f4=some ⟨oc4,od4,.func (PySem.W.fnOf "_law_cell_at" "_law_cell_at" (aJ fU) (aG fU) (au fU) .none kV4 dc4 pm4 an4 cd4 ct4),sl4⟩)
  (c4:PySem.W.codeIn K cd4 "_law_cell_at" = true)
  (k4:PySem.W.keepIn K (.ref f4)=true)
  (a5:PySem.W.nsIn K mainGlobals "_law_stream" = some (some (.ref f5)))
  (l5:K.lookup f5=some ⟨oc5,od5,.func (PySem.W.fnOf "_law_stream" "_law_stream" (aJ gR) (aG gR) (au gR) .none kV5 dc5 pm5 an5 cd5 ct5),sl5⟩)
  (c5:PySem.W.codeIn K cd5 "_law_stream" = true)
  (k5:PySem.W.keepIn K (.ref f5)=true)
  (a6:PySem.W.nsIn K mainGlobals "_law_what" = some (some (.ref f6)))
  (l6:K.lookup f6=some ⟨oc6,od6,.func (PySem.W.fnOf "_law_what" "_law_what" (aJ jx) (aG jx) (au jx) .none kV6 dc6 pm6 an6 cd6 ct6),sl6⟩)
  (c6:PySem.W.codeIn K cd6 "_law_what" = true)
  (k6:PySem.W.keepIn K (.ref f6)=true)
  (a7:PySem.W.findIn K (.ref tL) "__init__" = some (some (.ref f7)))
  (i7:PySem.W.isFn K (.ref f7)=true)
  (l7:K.lookup f7=some ⟨oc7,od7,.func (PySem.W.fnOf "__init__" "Row.__init__" (aJ jA) (aG jA) (au jA) .none kV7 dc7 pm7 an7 cd7 ct7),sl7⟩)
  (c7:PySem.W.codeIn K cd7 "Row.__init__" = true)
  (k7:PySem.W.keepIn K (.ref f7)=true)
  (a8:PySem.W.findIn K (.ref tL) "twin" = some (some (.ref f8)))
  (i8:PySem.W.isFn K (.ref f8)=true)
  (l8:K.lookup f8=some ⟨oc8,od8,.func (PySem.W.fnOf "twin" "Row.twin" (aJ jz) (aG jz) (au jz) .none kV8 dc8 pm8 an8 cd8 ct8),sl8⟩)
  (c8:PySem.W.codeIn K cd8 "Row.twin" = true)
  (k8:PySem.W.keepIn K (.ref f8)=true)
  (a9:PySem.W.findIn K (.ref pO) "__init__" = some (some (.ref f9)))
  (i9:PySem.W.isFn K (.ref f9)=true)
  (l9:K.lookup f9=some ⟨oc9,od9,.func (PySem.W.fnOf "__init__" "Book.__init__" (aJ iU) (aG iU) (au iU) .none kV9 dc9 pm9 an9 cd9 ct9),sl9⟩)
  (c9:PySem.W.codeIn K cd9 "Book.__init__" = true)
  (k9:PySem.W.keepIn K (.ref f9)=true)
  (a10:PySem.W.nsIn K mainGlobals "_law_book" = some (some (.ref f10)))
  (l10:K.lookup f10=some ⟨akZ,akz,.func (PySem.W.fnOf "_law_book" "_law_book" (aJ jy) (aG jy) (au jy) .none afg age aeg aha ach agG),ajS⟩)
  (c10:PySem.W.codeIn K ach "_law_book" = true)
  (k10:PySem.W.keepIn K (.ref f10)=true)
  (a11:PySem.W.findIn K (.ref dg) "__init__" = some (some (.ref f11)))
  (i11:PySem.W.isFn K (.ref f11)=true)
  (l11:K.lookup f11=some ⟨akY,aky,.func (PySem.W.fnOf "__init__" "Reader.__init__" (aJ fY) (aG fY) (au fY) .none afe agd aef ag9 acg agF),ajR⟩)
  (c11:PySem.W.codeIn K acg "Reader.__init__" = true)
  (k11:PySem.W.keepIn K (.ref f11)=true)
  (a12:PySem.W.findIn K (.ref b_) "__init__" = some (some (.ref f12)))
  (i12:PySem.W.isFn K (.ref f12)=true)
  (l12:K.lookup f12=some ⟨akX,akx,.func (PySem.W.fnOf "__init__" "HallError.__init__" (aJ cX) (aG cX) (au cX) .none afd agc aee ag8 acf agE),ajQ⟩)
  (c12:PySem.W.codeIn K acf "HallError.__init__" = true)
  (k12:PySem.W.keepIn K (.ref f12)=true)
  (a13:PySem.W.findIn K (.ref dg) "words" = some (some (.ref f13)))
  (i13:PySem.W.isFn K (.ref f13)=true)
  (l13:K.lookup f13=some ⟨akW,akv,.func (PySem.W.fnOf "words" "Reader.words" (aJ eF) (aG eF) (au eF) .none afc agb aed ag7 ace agD),ajP⟩)
  (c13:PySem.W.codeIn K ace "Reader.words" = true)
  (k13:PySem.W.keepIn K (.ref f13)=true)
  (a14:PySem.W.findIn K (.ref dg) "words_of" = some (some (.ref f14)))
  (i14:PySem.W.isFn K (.ref f14)=true)
  (l14:K.lookup f14=some ⟨akV,aku,.func (PySem.W.fnOf "words_of" "Reader.words_of" (aJ cH) (aG cH) (au cH) .none afb aga aec ag6 acd agC),ajO⟩)
  (c14:PySem.W.codeIn K acd "Reader.words_of" = true)
  (k14:PySem.W.keepIn K (.ref f14)=true)
  (a15:PySem.W.nsIn K mainGlobals "is_of" = some (some (.ref f15)))
  (l15:K.lookup f15=some ⟨akU,akt,.func (PySem.W.fnOf "is_of" "is_of" (aJ rA) (aG rA) (au rA) .none afa af_ aeb ag5 ab_ agB),ajN⟩)
  (c15:PySem.W.codeIn K ab_ "is_of" = true)
  (k15:PySem.W.keepIn K (.ref f15)=true)
  (a16:PySem.W.nsIn K mainGlobals "is_number" = some (some (.ref f16)))
  (l16:K.lookup f16=some ⟨akT,aks,.func (PySem.W.fnOf "is_number" "is_number" (aJ iT) (aG iT) (au iT) .none ae_ af9 aea ag4 ab9 agA),ajM⟩)
  (c16:PySem.W.codeIn K ab9 "is_number" = true)
  (k16:PySem.W.keepIn K (.ref f16)=true)
  (a17:PySem.W.findIn K (.ref dg) "whole" = some (some (.ref f17)))
  (i17:PySem.W.isFn K (.ref f17)=true)
  (l17:K.lookup f17=some ⟨akS,akr,.func (PySem.W.fnOf "whole" "Reader.whole" (aJ eG) (aG eG) (au eG) .none ae9 af8 ad_ ag3 ab8 agz),ajL⟩)
  (c17:PySem.W.codeIn K ab8 "Reader.whole" = true)
  (k17:PySem.W.keepIn K (.ref f17)=true)
  (a18:PySem.W.findIn K (.ref dg) "from_nought" = some (some (.ref f18)))
  (i18:PySem.W.isFn K (.ref f18)=true)
  (l18:K.lookup f18=some ⟨akR,akq,.func (PySem.W.fnOf "from_nought" "Reader.from_nought" (aJ bQ) (aG bQ) (au bQ) .none ae8 af7 ad9 ag2 ab7 agy),ajK⟩)
  (c18:PySem.W.codeIn K ab7 "Reader.from_nought" = true)
  (k18:PySem.W.keepIn K (.ref f18)=true)
  (a19:PySem.W.findIn K (.ref dg) "below" = some (some (.ref f19)))
  (i19:PySem.W.isFn K (.ref f19)=true)
  (l19:K.lookup f19=some ⟨akQ,akp,.func (PySem.W.fnOf "below" "Reader.below" (aJ eO) (aG eO) (au eO) .none ae7 af6 ad8 ag1 ab6 agx),ajJ⟩)
  (c19:PySem.W.codeIn K ab6 "Reader.below" = true)
  (k19:PySem.W.keepIn K (.ref f19)=true)
  (a20:PySem.W.findIn K (.ref dg) "hand" = some (some (.ref f20)))
  (i20:PySem.W.isFn K (.ref f20)=true)
  (l20:K.lookup f20=some ⟨akP,ako,.func (PySem.W.fnOf "hand" "Reader.hand" (aJ fZ) (aG fZ) (au fZ) .none ae6 af5 ad7 ag0 ab5 agw),ajI⟩)
  (c20:PySem.W.codeIn K ab5 "Reader.hand" = true)
  (k20:PySem.W.keepIn K (.ref f20)=true)
  (a21:PySem.W.findIn K (.ref dg) "go_on" = some (some (.ref f21)))
  (i21:PySem.W.isFn K (.ref f21)=true)
  (l21:K.lookup f21=some ⟨akO,akn,.func (PySem.W.fnOf "go_on" "Reader.go_on" (aJ eN) (aG eN) (au eN) .none ae5 af4 ad6 agZ ab4 agv),ajH⟩)
  (c21:PySem.W.codeIn K ab4 "Reader.go_on" = true)
  (k21:PySem.W.keepIn K (.ref f21)=true)
  (a22:PySem.W.nsIn K mainGlobals "read_head" = some (some (.ref f22)))
  (l22:K.lookup f22=some ⟨akN,akm,.func (PySem.W.fnOf "read_head" "read_head" (aJ iM) (aG iM) (au iM) .none ae4 af3 ad5 agY ab3 agu),ajG⟩)
  (c22:PySem.W.codeIn K ab3 "read_head" = true)
  (k22:PySem.W.keepIn K (.ref f22)=true)
  (a23:PySem.W.findIn K (.ref dg) "both_sets" = some (some (.ref f23)))
  (i23:PySem.W.isFn K (.ref f23)=true)
  (l23:K.lookup f23=some ⟨akM,akl,.func (PySem.W.fnOf "both_sets" "Reader.both_sets" (aJ cg) (aG cg) (au cg) .none ae3 af2 ad4 agX ab2 agt),ajF⟩)
  (c23:PySem.W.codeIn K ab2 "Reader.both_sets" = true)
  (k23:PySem.W.keepIn K (.ref f23)=true)
  (a24:PySem.W.nsIn K mainGlobals "read_base" = some (some (.ref f24)))
  (l24:K.lookup f24=some ⟨akL,akk,.func (PySem.W.fnOf "read_base" "read_base" (aJ iR) (aG iR) (au iR) .none ae2 af1 ad3 agW ab1 ags),ajE⟩)
  (c24:PySem.W.codeIn K ab1 "read_base" = true)
  (k24:PySem.W.keepIn K (.ref f24)=true)
  (a25:PySem.W.findIn K (.ref dg) "begins" = some (some (.ref f25)))
  (i25:PySem.W.isFn K (.ref f25)=true)
  (l25:K.lookup f25=some ⟨akK,akj,.func (PySem.W.fnOf "begins" "Reader.begins" (aJ dz) (aG dz) (au dz) .none ae1 af0 ad2 agV ab0 agr),ajD⟩)
  (c25:PySem.W.codeIn K ab0 "Reader.begins" = true)
  (k25:PySem.W.keepIn K (.ref f25)=true)
  (a26:PySem.W.nsIn K mainGlobals "is_name" = some (some (.ref f26)))
  (l26:K.lookup f26=some ⟨akJ,aki,.func (PySem.W.fnOf "is_name" "is_name" (aJ lV) (aG lV) (au lV) .none ae0 afZ ad1 agU abZ agq),ajC⟩)
  (Z4:PySem.W.codeIn K abZ "is_name" = true)
  (k26:PySem.W.keepIn K (.ref f26)=true)
  (a27:PySem.W.findIn K (.ref dg) "name" = some (some (.ref f27)))
  (i27:PySem.W.isFn K (.ref f27)=true)
  (l27:K.lookup f27=some ⟨akI,akh,.func (PySem.W.fnOf "name" "Reader.name" (aJ fX) (aG fX) (au fX) .none aeZ afY ad0 agT abY agp),ajB⟩)
  (c27:PySem.W.codeIn K abY "Reader.name" = true)
  (k27:PySem.W.keepIn K (.ref f27)=true)
  (a28:PySem.W.nsIn K mainGlobals "read_values" = some (some (.ref f28)))
  (l28:K.lookup f28=some ⟨akH,akg,.func (PySem.W.fnOf "read_values" "read_values" (aJ fQ) (aG fQ) (au fQ) .none aeY afX adZ agS abX ago),ajA⟩)
  (c28:PySem.W.codeIn K abX "read_values" = true)
  (k28:PySem.W.keepIn K (.ref f28)=true)
  (a29:PySem.W.nsIn K mainGlobals "read_answers" = some (some (.ref f29)))
  (l29:K.lookup f29=some ⟨akG,akf,.func (PySem.W.fnOf "read_answers" "read_answers" (aJ eE) (aG eE) (au eE) .none aeX afW adY agR abW agn),ajz⟩)
  (c29:PySem.W.codeIn K abW "read_answers" = true)
  (k29:PySem.W.keepIn K (.ref f29)=true)
  (a30:PySem.W.nsIn K mainGlobals "read_order" = some (some (.ref f30)))
  (l30:K.lookup f30=some ⟨akF,ake,.func (PySem.W.fnOf "read_order" "read_order" (aJ gQ) (aG gQ) (au gQ) .none aeW afV adX agQ abV agm),ajy⟩)
  (c30:PySem.W.codeIn K abV "read_order" = true)
  (k30:PySem.W.keepIn K (.ref f30)=true)
  (a31:PySem.W.nsIn K mainGlobals "read_what" = some (some (.ref f31)))
  (l31:K.lookup f31=some ⟨akE,akd,.func (PySem.W.fnOf "read_what" "read_what" (aJ iK) (aG iK) (au iK) .none aeV afU adW agP abU agl),ajx⟩)
  (c31:PySem.W.codeIn K abU "read_what" = true)
  (k31:PySem.W.keepIn K (.ref f31)=true)
  (a32:PySem.W.nsIn K mainGlobals "read_entries" = some (some (.ref f32)))
  (l32:K.lookup f32=some ⟨akD,akc,.func (PySem.W.fnOf "read_entries" "read_entries" (aJ d_) (aG d_) (au d_) .none aeU afT adV agO abT agk),ajw⟩)
  (c32:PySem.W.codeIn K abT "read_entries" = true)
  (k32:PySem.W.keepIn K (.ref f32)=true)
  (a33:PySem.W.findIn K (.ref dg) "finish" = some (some (.ref f33)))
  (i33:PySem.W.isFn K (.ref f33)=true)
  (l33:K.lookup f33=some ⟨akC,akb,.func (PySem.W.fnOf "finish" "Reader.finish" (aJ dw) (aG dw) (au dw) .none aeT afS adU agN abS agj),ajv⟩)
  (c33:PySem.W.codeIn K abS "Reader.finish" = true)
  (k33:PySem.W.keepIn K (.ref f33)=true)
  (a34:PySem.W.nsIn K mainGlobals "read_book" = some (some (.ref f34)))
  (l34:K.lookup f34=some ⟨akB,aka,.func (PySem.W.fnOf "read_book" "read_book" (aJ iQ) (aG iQ) (au iQ) .none aeS afR adT agM abR agi),aju⟩)
  (c34:PySem.W.codeIn K abR "read_book" = true)
  (k34:PySem.W.keepIn K (.ref f34)=true)
  (a35:PySem.W.nsIn K mainGlobals "law" = some (some (.ref f35)))
  (l35:K.lookup f35=some ⟨akA,aj_,.func (PySem.W.fnOf "law" "law" (aJ zU) (aG zU) (au zU) .none aeR afQ adS agL abQ agh),ajt⟩)
  (c35:PySem.W.codeIn K abQ "law" = true)
  (k35:PySem.W.keepIn K (.ref f35)=true)
  (Oj:PySem.W.plainGet K tL Str.empty=true)
  (O2:PySem.W.hasDictIn K tL=true)
  (Oh:PySem.W.plainOver K tL=true)
  (N6:PySem.W.findIn K (.ref tL) "__setattr__" = some (some (.builtin "object.__setattr__")))
  (xx:PySem.W.makesIn K tL=true)
  (OJ:PySem.W.keepIn K (.ref tL)=true)
  (jq:PySem.W.findIn K (.ref tL) "base" = some none)
  (dM:PySem.W.findIn K (.ref tL) "base_term" = some none)
  (dN:PySem.W.findIn K (.ref tL) "base_roll" = some none)
  (gB:PySem.W.findIn K (.ref tL) "kept" = some none)
  (Jt:PySem.W.plainGet K pO Str.empty=true)
  (J5:PySem.W.hasDictIn K pO=true)
  (Js:PySem.W.plainOver K pO=true)
  (Jg:PySem.W.findIn K (.ref pO) "__setattr__" = some (some (.builtin "object.__setattr__")))
  (vH:PySem.W.makesIn K pO=true)
  (JT:PySem.W.keepIn K (.ref pO)=true)
  (jC:PySem.W.findIn K (.ref pO) "term" = some none)
  (iV:PySem.W.findIn K (.ref pO) "vote" = some none)
  (kW:PySem.W.findIn K (.ref pO) "row" = some none)
  (eV:PySem.W.findIn K (.ref pO) "kept" = some none)
  (Bt:PySem.W.plainGet K dg Str.empty=true)
  (BR:PySem.W.hasDictIn K dg=true)
  (Br:PySem.W.plainOver K dg=true)
  (Bh:PySem.W.findIn K (.ref dg) "__setattr__" = some (some (.builtin "object.__setattr__")))
  (rK:PySem.W.makesIn K dg=true)
  (BL:PySem.W.keepIn K (.ref dg)=true)
  (eU:PySem.W.findIn K (.ref dg) "rows" = some none)
  (aO:PySem.W.findIn K (.ref dg) "here" = some none)
  (hn_:PySem.W.specialIn K (.builtin "object.__class__") "__get__" = some (some (.builtin "getset_descriptor.__get__")))
  (tk_:PySem.W.takesIn K (.builtin "object.__class__")=some true)
  (gU:K.lookup b_=some (excClassObj JF Jr b_ MN Kp jG true Jb Jf Ku Kf Kd JW JV JS JR JQ "ValueError.__new__"))
  (vf:jG.contains (.type "ValueError")=true)
  (u_:jG.contains (.type "AttributeError")=false)
  (uY:jG.contains (.type "NameError")=false)
  (lO:jG.contains (.type "BaseException")=true)
  (q_:jG.contains (.type "object")=true)
  (vC:jG=[].map Value.ref++[.type "ValueError",.type "Exception",.type "BaseException",.type "object"])
  (vG:PySem.W.findIn K (.ref b_) "__init__" = some (some (.ref f12)))
  (vN:PySem.W.keepIn K (.ref b_)=true)
  (uX:PySem.W.findIn K (.ref b_) "__setattr__" = some (some (.builtin "object.__setattr__")))
  (u9:PySem.W.findIn K (.ref b_) "__getattribute__" = some (some (.builtin "BaseException.__getattribute__")))
  (uW:PySem.W.findIn K (.ref b_) "at" = some none)
  (u6:PySem.W.findIn K (.ref b_) "__getattr__" = some none)
  (u0:PySem.W.findIn K (.ref b_) "__class__" = some (some (.builtin "object.__class__")))
  (rB:K.lookup nY=some (excClassObj Yr XN nY acF Zk vZ true Xv Xz Zo Y_ YZ YC YB Yz Yy Yx "ValueError.__new__"))
  (Iu:vZ.contains (.type "ValueError")=true)
  (Ir:vZ.contains (.type "AttributeError")=false)
  (Ik:vZ.contains (.type "NameError")=false)
  (yp:vZ.contains (.type "BaseException")=true)
  (Dh:vZ.contains (.type "object")=true)
  (Jk:vZ=[b_].map Value.ref++[.type "ValueError",.type "Exception",.type "BaseException",.type "object"])
  (JD:PySem.W.findIn K (.ref nY) "__init__" = some (some (.ref f12)))
  (JN:PySem.W.keepIn K (.ref nY)=true)
  (Ij:PySem.W.findIn K (.ref nY) "__setattr__" = some (some (.builtin "object.__setattr__")))
  (Ip:PySem.W.findIn K (.ref nY) "__getattribute__" = some (some (.builtin "BaseException.__getattribute__")))
  (Ii:PySem.W.findIn K (.ref nY) "at" = some none)
  (Io:PySem.W.findIn K (.ref nY) "__getattr__" = some none)
  (Il:PySem.W.findIn K (.ref nY) "__class__" = some (some (.builtin "object.__class__")))
  (gP:PySem.W.subIn K (.ref b_) (.ref b_)=some true)
  (j_:PySem.W.subIn K (.ref b_) (.ref nY)=some false)
  (j9:PySem.W.subIn K (.ref nY) (.ref b_)=some true)
  (rm:PySem.W.subIn K (.ref nY) (.ref nY)=some true)
  (zB:PySem.W.nsIn K mainGlobals "FIGURES" = some (some (.str "0123456789" Ie)))
  (FW:PySem.W.nsIn K mainGlobals "HANDS" = some (some (.int 60 Rp)))
  (zA:PySem.W.nsIn K mainGlobals "LETTERS" = some (some (.str "abcdefghijklmnopqrstuvwxyz" Ib)))
  (qP:PySem.W.nsIn K mainGlobals "MOST_FIGURES" = some (some (.int 100 ym)))
  (qO:PySem.W.nsIn K mainGlobals "MOST_LETTERS" = some (some (.int 8 yj)))
  (tE:PySem.W.nsIn K mainGlobals "ORDER_WORDS" = some (some (.ref qg)))
  (rQ:(qg==sysModules)=false)
  (sr:K.lookup qg=some rY)
  (rM:rY.ExactDict)
  (tu:rY.data= .dict ye Ft)
  (rT:PyProof.Rows.KTD.Rows (fun i v=>∃t,v=Value.int i t) ye.toList [("put",3),("add",3),("swap",4)])
  (T8:PySem.W.nsIn K mainGlobals "all" = some none)
  (T7:PySem.W.nsIn K mainGlobals "int" = some none)
  (T6:PySem.W.nsIn K mainGlobals "len" = some none)
  (Nq:PySem.W.nsIn K mainGlobals "list" = some none)
  (T5:PySem.W.nsIn K mainGlobals "min" = some none)
  (Ih:PySem.W.nsIn K mainGlobals "range" = some none)
  (T4:PySem.W.nsIn K mainGlobals "str" = some none)
  (Ig:PySem.W.nsIn K mainGlobals "tuple" = some none):
  ∃t,Txt K mg t:=
 ⟨{yh:=tL,
   vY:=pO,
   fK:=dg,
   dh:=b_,
   lH:=nY,
   yc:=f0,yf:=PySem.W.fnOf "worded" "worded" (aJ oM) (aG oM) (au oM) .none kV0 dc0 pm0 an0 cd0 ct0,
   mR:=f1,m6:=PySem.W.fnOf "entry_parts" "entry_parts" (aJ fV) (aG fV) (au fV) .none kV1 dc1 pm1 an1 cd1 ct1,
   mU:=f2,m7:=PySem.W.fnOf "entries" "Row.entries" (aJ fW) (aG fW) (au fW) .none kV2 dc2 pm2 an2 cd2 ct2,
   uK:=f3,uO:=PySem.W.fnOf "written" "written" (aJ lU) (aG lU) (au lU) .none kV3 dc3 pm3 an3 cd3 ct3,
   mQ:=f4,m5:=PySem.W.fnOf "_law_cell_at" "_law_cell_at" (aJ fU) (aG fU) (au fU) .none kV4 dc4 pm4 an4 cd4 ct4,
   oX:=f5,oZ:=PySem.W.fnOf "_law_stream" "_law_stream" (aJ gR) (aG gR) (au gR) .none kV5 dc5 pm5 an5 cd5 ct5,
   sI:=f6,sW:=PySem.W.fnOf "_law_what" "_law_what" (aJ jx) (aG jx) (au jx) .none kV6 dc6 pm6 an6 cd6 ct6,
   sS:=f7,sZ:=PySem.W.fnOf "__init__" "Row.__init__" (aJ jA) (aG jA) (au jA) .none kV7 dc7 pm7 an7 cd7 ct7,
   sO:=f8,sY:=PySem.W.fnOf "twin" "Row.twin" (aJ jz) (aG jz) (au jz) .none kV8 dc8 pm8 an8 cd8 ct8,
   qx:=f9,qJ:=PySem.W.fnOf "__init__" "Book.__init__" (aJ iU) (aG iU) (au iU) .none kV9 dc9 pm9 an9 cd9 ct9,
   sJ:=f10,sX:=PySem.W.fnOf "_law_book" "_law_book" (aJ jy) (aG jy) (au jy) .none afg age aeg aha ach agG,
   mW:=f11,m9:=PySem.W.fnOf "__init__" "Reader.__init__" (aJ fY) (aG fY) (au fY) .none afe agd aef ag9 acg agF,
   jl:=f12,mj:=PySem.W.fnOf "__init__" "HallError.__init__" (aJ cX) (aG cX) (au cX) .none afd agc aee ag8 acf agE,
   lq:=f13,lD:=PySem.W.fnOf "words" "Reader.words" (aJ eF) (aG eF) (au eF) .none afc agb aed ag7 ace agD,
   iY:=f14,iZ:=PySem.W.fnOf "words_of" "Reader.words_of" (aJ cH) (aG cH) (au cH) .none afb aga aec ag6 acd agC,
   Am:=f15,Aq:=PySem.W.fnOf "is_of" "is_of" (aJ rA) (aG rA) (au rA) .none afa af_ aeb ag5 ab_ agB,
   qw:=f16,qI:=PySem.W.fnOf "is_number" "is_number" (aJ iT) (aG iT) (au iT) .none ae_ af9 aea ag4 ab9 agA,
   lu:=f17,lE:=PySem.W.fnOf "whole" "Reader.whole" (aJ eG) (aG eG) (au eG) .none ae9 af8 ad_ ag3 ab8 agz,
   gG:=f18,gH:=PySem.W.fnOf "from_nought" "Reader.from_nought" (aJ bQ) (aG bQ) (au bQ) .none ae8 af7 ad9 ag2 ab7 agy,
   lA:=f19,lG:=PySem.W.fnOf "below" "Reader.below" (aJ eO) (aG eO) (au eO) .none ae7 af6 ad8 ag1 ab6 agx,
   mX:=f20,m_:=PySem.W.fnOf "hand" "Reader.hand" (aJ fZ) (aG fZ) (au fZ) .none ae6 af5 ad7 ag0 ab5 agw,
   lz:=f21,lF:=PySem.W.fnOf "go_on" "Reader.go_on" (aJ eN) (aG eN) (au eN) .none ae5 af4 ad6 agZ ab4 agv,
   qm:=f22,qF:=PySem.W.fnOf "read_head" "read_head" (aJ iM) (aG iM) (au iM) .none ae4 af3 ad5 agY ab3 agu,
   ie:=f23,ig:=PySem.W.fnOf "both_sets" "Reader.both_sets" (aJ cg) (aG cg) (au cg) .none ae3 af2 ad4 agX ab2 agt,
   qt:=f24,qH:=PySem.W.fnOf "read_base" "read_base" (aJ iR) (aG iR) (au iR) .none ae2 af1 ad3 agW ab1 ags,
   jT:=f25,jV:=PySem.W.fnOf "begins" "Reader.begins" (aJ dz) (aG dz) (au dz) .none ae1 af0 ad2 agV ab0 agr,
   uL:=f26,uP:=PySem.W.fnOf "is_name" "is_name" (aJ lV) (aG lV) (au lV) .none ae0 afZ ad1 agU abZ agq,
   mV:=f27,m8:=PySem.W.fnOf "name" "Reader.name" (aJ fX) (aG fX) (au fX) .none aeZ afY ad0 agT abY agp,
   mO:=f28,mZ:=PySem.W.fnOf "read_values" "read_values" (aJ fQ) (aG fQ) (au fQ) .none aeY afX adZ agS abX ago,
   lg:=f29,lC:=PySem.W.fnOf "read_answers" "read_answers" (aJ eE) (aG eE) (au eE) .none aeX afW adY agR abW agn,
   oW:=f30,oY:=PySem.W.fnOf "read_order" "read_order" (aJ gQ) (aG gQ) (au gQ) .none aeW afV adX agQ abV agm,
   ql:=f31,qD:=PySem.W.fnOf "read_what" "read_what" (aJ iK) (aG iK) (au iK) .none aeV afU adW agP abU agl,
   k_:=f32,lB:=PySem.W.fnOf "read_entries" "read_entries" (aJ d_) (aG d_) (au d_) .none aeU afT adV agO abT agk,
   jR:=f33,jU:=PySem.W.fnOf "finish" "Reader.finish" (aJ dw) (aG dw) (au dw) .none aeT afS adU agN abS agj,
   qp:=f34,qG:=PySem.W.fnOf "read_book" "read_book" (aJ iQ) (aG iQ) (au iQ) .none aeS afR adT agM abR agi,
   HB:=f35,CJ:=PySem.W.fnOf "law" "law" (aJ zU) (aG zU) (au zU) .none aeR afQ adS agL abQ agh,
   Hw:=Ie,
   QX:=Rp,
   Hv:=Ib,
   xT:=ym,
   xR:=yj,
   uq:=qg},
  {ou:=aL l0 c0 k0,
   jW:=(aL l0 c0 k0:b7 K _ _ oM .none _ _).binds (ps:=["parts"]) fun _ _ _ _ _ _ us hl=>match us,hl with | [_],_=>rfl,
   pF:=PySem.W.mg_of X G a0,
   sG:=aL l1 c1 k1,
   je:=(aL l1 c1 k1:b7 K _ _ fV .none _ _).binds (ps:=["entry"]) fun _ _ _ _ _ _ us hl=>match us,hl with | [_],_=>rfl,
   xH:=PySem.W.mg_of X G a1,
   xX:=aL l2 c2 k2,
   jf:=(aL l2 c2 k2:b7 K _ _ fW .none _ _).binds (ps:=["self"]) fun _ _ _ _ _ _ us hl=>match us,hl with | [_],_=>rfl,
   xK:=⟨a2,i2,k2⟩,
   vQ:=aL l3 c3 k3,
   oF:=(aL l3 c3 k3:b7 K _ _ lU .none _ _).binds (ps:=["book"]) fun _ _ _ _ _ _ us hl=>match us,hl with | [_],_=>rfl,
   zm:=PySem.W.mg_of X G a3,
   sE:=aL l4 c4 k4,
   jd:=(aL l4 c4 k4:b7 K _ _ fU .none _ _).binds (ps:=["_law_script","_law_k"]) fun _ _ _ _ _ _ us hl=>match us,hl with | [_,_],_=>rfl,
   xG:=PySem.W.mg_of X G a4,
   qb:=aL l5 c5 k5,
   i_:=(aL l5 c5 k5:b7 K _ _ gR .none _ _).binds (ps:=["_law_cell","_law_size"]) fun _ _ _ _ _ _ us hl=>match us,hl with | [_,_],_=>rfl,
   um:=PySem.W.mg_of X G a5,
   xV:=aL l6 c6 k6,
   nQ:=(aL l6 c6 k6:b7 K _ _ jx .none _ _).binds (ps:=["_law_cell"]) fun _ _ _ _ _ _ us hl=>match us,hl with | [_],_=>rfl,
   Cq:=PySem.W.mg_of X G a6,
   CG:=aL l7 c7 k7,
   jJ:=(aL l7 c7 k7:b7 K _ _ jA .none _ _).binds (ps:=["self","base","base_term","base_roll","entries"]) fun _ _ _ _ _ _ us hl=>match us,hl with | [_,_,_,_,_],_=>rfl,
   xx:=⟨xx,a7,i7,OJ⟩,
   Cz:=aL l8 c8 k8,
   nU:=(aL l8 c8 k8:b7 K _ _ jz .none _ _).binds (ps:=["self"]) fun _ _ _ _ _ _ us hl=>match us,hl with | [_],_=>rfl,
   Cu:=⟨a8,i8,k8⟩,
   Al:=aL l9 c9 k9,
   jr:=(aL l9 c9 k9:b7 K _ _ iU .none _ _).binds (ps:=["self","term","vote","row","kept"]) fun _ _ _ _ _ _ us hl=>match us,hl with | [_,_,_,_,_],_=>rfl,
   vH:=⟨vH,a9,i9,JT⟩,
   xW:=aL l10 c10 k10,
   nR:=(aL l10 c10 k10:b7 K _ _ jy .none _ _).binds (ps:=["_law_script"]) fun _ _ _ _ _ _ us hl=>match us,hl with | [_],_=>rfl,
   Cr:=PySem.W.mg_of X G a10,
   xZ:=aL l11 c11 k11,
   jg:=(aL l11 c11 k11:b7 K _ _ fY .none _ _).binds (ps:=["self","text"]) fun _ _ _ _ _ _ us hl=>match us,hl with | [_,_],_=>rfl,
   rK:=⟨rK,a11,i11,BL⟩,
   t7:=aL l12 c12 k12,
   bC:=(aL l12 c12 k12:b7 K _ _ cX .none _ _).binds (ps:=["self","at"]) fun _ _ _ _ _ _ us hl=>match us,hl with | [_,_],_=>rfl,
   wI:=aL l13 c13 k13,
   dm:=(aL l13 c13 k13:b7 K _ _ eF .none _ _).binds (ps:=["self"]) fun _ _ _ _ _ _ us hl=>match us,hl with | [_],_=>rfl,
   nC:=⟨a13,i13,k13⟩,
   sH:=aL l14 c14 k14,
   a_:=(aL l14 c14 k14:b7 K _ _ cH .none _ _).binds (ps:=["self","first","count"]) fun _ _ _ _ _ _ us hl=>match us,hl with | [_,_,_],_=>rfl,
   fO:=⟨a14,i14,k14⟩,
   Ak:=aL l15 c15 k15,
   qe:=(aL l15 c15 k15:b7 K _ _ rA .none _ _).binds (ps:=["word","signs","most"]) fun _ _ _ _ _ _ us hl=>match us,hl with | [_,_,_],_=>rfl,
   Fd:=PySem.W.mg_of X G a15,
   vW:=aL l16 c16 k16,
   lK:=(aL l16 c16 k16:b7 K _ _ iT .none _ _).binds (ps:=["word"]) fun _ _ _ _ _ _ us hl=>match us,hl with | [_],_=>rfl,
   Ab:=PySem.W.mg_of X G a16,
   wJ:=aL l17 c17 k17,
   bL:=(aL l17 c17 k17:b7 K _ _ eG .none _ _).binds (ps:=["self","word"]) fun _ _ _ _ _ _ us hl=>match us,hl with | [_,_],_=>rfl,
   fB:=⟨a17,i17,k17⟩,
   pq:=aL l18 c18 k18,
   aQ:=(aL l18 c18 k18:b7 K _ _ bQ .none _ _).binds (ps:=["self","word"]) fun _ _ _ _ _ _ us hl=>match us,hl with | [_,_],_=>rfl,
   di:=⟨a18,i18,k18⟩,
   wL:=aL l19 c19 k19,
   cj:=(aL l19 c19 k19:b7 K _ _ eO .none _ _).binds (ps:=["self","word","bound"]) fun _ _ _ _ _ _ us hl=>match us,hl with | [_,_,_],_=>rfl,
   nF:=⟨a19,i19,k19⟩,
   x_:=aL l20 c20 k20,
   gk:=(aL l20 c20 k20:b7 K _ _ fZ .none _ _).binds (ps:=["self","word"]) fun _ _ _ _ _ _ us hl=>match us,hl with | [_,_],_=>rfl,
   xN:=⟨a20,i20,k20⟩,
   wK:=aL l21 c21 k21,
   cQ:=(aL l21 c21 k21:b7 K _ _ eN .none _ _).binds (ps:=["self"]) fun _ _ _ _ _ _ us hl=>match us,hl with | [_],_=>rfl,
   iH:=⟨a21,i21,k21⟩,
   vU:=aL l22 c22 k22,
   gJ:=(aL l22 c22 k22:b7 K _ _ iM .none _ _).binds (ps:=["reader"]) fun _ _ _ _ _ _ us hl=>match us,hl with | [_],_=>rfl,
   z_:=PySem.W.mg_of X G a22,
   qX:=aL l23 c23 k23,
   bD:=(aL l23 c23 k23:b7 K _ _ cg .none _ _).binds (ps:=["self","one","two"]) fun _ _ _ _ _ _ us hl=>match us,hl with | [_,_,_],_=>rfl,
   mD:=⟨a23,i23,k23⟩,
   vV:=aL l24 c24 k24,
   dX:=(aL l24 c24 k24:b7 K _ _ iR .none _ _).binds (ps:=["reader"]) fun _ _ _ _ _ _ us hl=>match us,hl with | [_],_=>rfl,
   Aa:=PySem.W.mg_of X G a24,
   uJ:=aL l25 c25 k25,
   cU:=(aL l25 c25 k25:b7 K _ _ dz .none _ _).binds (ps:=["self","word"]) fun _ _ _ _ _ _ us hl=>match us,hl with | [_,_],_=>rfl,
   lY:=⟨a25,i25,k25⟩,
   zq:=aL l26 Z4 k26,
   pN:=(aL l26 Z4 k26:b7 K _ _ lV .none _ _).binds (ps:=["word"]) fun _ _ _ _ _ _ us hl=>match us,hl with | [_],_=>rfl,
   Fe:=PySem.W.mg_of X G a26,
   xY:=aL l27 c27 k27,
   dZ:=(aL l27 c27 k27:b7 K _ _ fX .none _ _).binds (ps:=["self","word"]) fun _ _ _ _ _ _ us hl=>match us,hl with | [_,_],_=>rfl,
   rZ:=⟨a27,i27,k27⟩,
   sy:=aL l28 c28 k28,
   dY:=(aL l28 c28 k28:b7 K _ _ fQ .none _ _).binds (ps:=["reader"]) fun _ _ _ _ _ _ us hl=>match us,hl with | [_],_=>rfl,
   xF:=PySem.W.mg_of X G a28,
   qN:=aL l29 c29 k29,
   fj:=(aL l29 c29 k29:b7 K _ _ eE .none _ _).binds (ps:=["reader"]) fun _ _ _ _ _ _ us hl=>match us,hl with | [_],_=>rfl,
   wz:=PySem.W.mg_of X G a29,
   ur:=aL l30 c30 k30,
   e_:=(aL l30 c30 k30:b7 K _ _ gQ .none _ _).binds (ps:=["reader","words"]) fun _ _ _ _ _ _ us hl=>match us,hl with | [_,_],_=>rfl,
   yM:=PySem.W.mg_of X G a30,
   vR:=aL l31 c31 k31,
   bR:=(aL l31 c31 k31:b7 K _ _ iK .none _ _).binds (ps:=["reader","words"]) fun _ _ _ _ _ _ us hl=>match us,hl with | [_,_],_=>rfl,
   z9:=PySem.W.mg_of X G a31,
   qM:=aL l32 c32 k32,
   fc:=(aL l32 c32 k32:b7 K _ _ d_ .none _ _).binds (ps:=["reader"]) fun _ _ _ _ _ _ us hl=>match us,hl with | [_],_=>rfl,
   wu:=PySem.W.mg_of X G a32,
   uI:=aL l33 c33 k33,
   cT:=(aL l33 c33 k33:b7 K _ _ dw .none _ _).binds (ps:=["self"]) fun _ _ _ _ _ _ us hl=>match us,hl with | [_],_=>rfl,
   uD:=⟨a33,i33,k33⟩,
   rC:=aL l34 c34 k34,
   cC:=(aL l34 c34 k34:b7 K _ _ iQ .none _ _).binds (ps:=["text"]) fun _ _ _ _ _ _ us hl=>match us,hl with | [_],_=>rfl,
   vI:=PySem.W.mg_of X G a34,
   O5:=aL l35 c35 k35,
   HY:=(aL l35 c35 k35:b7 K _ _ zU .none _ _).binds (ps:=["_law_script"]) fun _ _ _ _ _ _ us hl=>match us,hl with | [_],_=>rfl,
   VM:=PySem.W.mg_of X G a35,
   j5:=⟨Oj,O2,Oh,N6⟩,
   JH:=PySem.W.mg_of X G Pq,
   jq:=jq,
   dM:=dM,
   dN:=dN,
   gB:=gB,
   kj:=⟨Jt,J5,Js,Jg⟩,
   JL:=PySem.W.mg_of X G Kw,
   jC:=jC,
   iV:=iV,
   kW:=kW,
   eV:=eV,
   aF:=⟨Bt,BR,Br,Bh⟩,
   Hi:=PySem.W.mg_of X G Cj,
   eU:=eU,
   aO:=aO,
   JK:=PySem.W.mg_of X G v7,
   Im:=T9 gU vf u_ uY lO vG i12 vN,
   zL:=PX gU q_ lO (Cp vC) uX u9 uW,
   zK:=T_ gU q_ u6 u0 hn_ tk_,
   jD:=PySem.W.mg_of X G Kv,
   j8:=T9 rB Iu Ir Ik yp JD i12 JN,
   ju:=PX rB Dh yp (Cp Jk) Ij Ip Ii,
   PN:=T_ rB Dh Io Il hn_ tk_,
   uZ:=PL gU lO gP,
   vO:=QK gU gP,
   tO:=PL rB yp j_,
   Ah:=QK rB j_,
   zJ:=PL gU lO j9,
   Ag:=QK gU j9,
   zH:=PL rB yp rm,
   JP:=QK rB rm,
   Fg:=PySem.W.mg_of X G zB,
   Ac:=PySem.W.mg_of X G FW,
   Ff:=PySem.W.mg_of X G zA,
   wB:=PySem.W.mg_of X G qP,
   wA:=PySem.W.mg_of X G qO,
   xJ:=PySem.W.mg_of X G tE,
   wZ:=⟨rQ,_,_,_,sr,rM,tu,rT⟩,
   ZR:=PySem.W.mg_none_of X G T8,
   ZQ:=PySem.W.mg_none_of X G T7,
   qU:=PySem.W.mg_none_of X G T6,
   Ow:=PySem.W.mg_none_of X G Nq,
   ZP:=PySem.W.mg_none_of X G T5,
   Ad:=PySem.W.mg_none_of X G Ih,
   ZM:=PySem.W.mg_none_of X G T4,
   vJ:=PySem.W.mg_none_of X G Ig}⟩
end My
open PySem PySem.W PyProof.Rows
def PySem.W.Fast.tw15383881613066725024 : Nat := 0
def PySem.W.Fast.tw15577338499922613761 : Nat := 0
def PySem.W.Fast.tw9980960759091937443 : Nat := 0
def PySem.W.Fast.tw10096908098227176580 : Nat := 0
def PySem.W.Fast.tw8330938499350718373 : Nat := 0
def PySem.W.Fast.tw17038078727060381030 : Nat := 0
def PySem.W.Fast.tw1711221703916462503 : Nat := 0
def PySem.W.Fast.tw4179780261488296968 : Nat := 0
def PySem.W.Fast.tw3352679940546066153 : Nat := 0
def PySem.W.Fast.tw12379495353376471403 : Nat := 0
def PySem.W.Fast.tw7047046071876268523 : Nat := 0
def PySem.W.Fast.tw18431954652719614446 : Nat := 0
def PySem.W.Fast.tw17715586657902921422 : Nat := 0
def PySem.W.Fast.tw11811452339703782449 : Nat := 0
def PySem.W.Fast.tw16440611633949947665 : Nat := 0
def PySem.W.Fast.tw14475084780201646099 : Nat := 0
def PySem.W.Fast.tw12964130436576429396 : Nat := 0
def PySem.W.Fast.tw5014898525089525236 : Nat := 0
def PySem.W.Fast.tw14584142117328247732 : Nat := 0
def PySem.W.Fast.tw16543609061049140949 : Nat := 0
def PySem.W.Fast.tw10386332052578175192 : Nat := 0
def PySem.W.Fast.tw6645576160520661304 : Nat := 0
def PySem.W.Fast.tw2544075017666979356 : Nat := 0
def PySem.W.Fast.tw16192384106829578942 : Nat := 0
def PySem.W.Fast.tw18144170074677887134 : Nat := 0
theorem PySem.Challenge.cw_chairvote_k24_a_cut_book_is_torn_holds : PySem.Challenge.rw_chairvote_k24_a_cut_book_is_torn.Holds := by
 w_on;o_law;k_head;(case hw=>w_witness2)
 k_fill
 refine S.ac8 (l:=PySem.Challenge.rw_chairvote_k24_a_cut_book_is_torn) (x:= "_law_script") (k:=10) rfl rfl ⟨rfl,by decide,by decide⟩ (fun w h Y=>PySem.W.kIn_of Y) ?F
 case F=>
  intro w mg fa h KX G hmg
  have T:∃t,My.Txt (L2.KOf KX) mg t:=by
   dsimp only[L2.KOf]
   refine' My.all_mk KX G ?Pq ?Kw ?Cj ?v7 ?Kv ?a0 ?l0 ?c0 ?k0 ?a1 ?l1 ?c1 ?k1 ?a2 ?i2 ?l2 ?c2 ?k2 ?a3 ?l3 ?c3 ?k3 ?a4 ?l4 ?c4 ?k4 ?a5 ?l5 ?c5 ?k5 ?a6 ?l6 ?c6 ?k6 ?a7 ?i7 ?l7 ?c7 ?k7 ?a8 ?i8 ?l8 ?c8 ?k8 ?a9 ?i9 ?l9 ?c9 ?k9 ?a10 ?l10 ?c10 ?k10 ?a11 ?i11 ?l11 ?c11 ?k11 ?a12 ?i12 ?l12 ?c12 ?k12 ?a13 ?i13 ?l13 ?c13 ?k13 ?a14 ?i14 ?l14 ?c14 ?k14 ?a15 ?l15 ?c15 ?k15 ?a16 ?l16 ?c16 ?k16 ?a17 ?i17 ?l17 ?c17 ?k17 ?a18 ?i18 ?l18 ?c18 ?k18 ?a19 ?i19 ?l19 ?c19 ?k19 ?a20 ?i20 ?l20 ?c20 ?k20 ?a21 ?i21 ?l21 ?c21 ?k21 ?a22 ?l22 ?c22 ?k22 ?a23 ?i23 ?l23 ?c23 ?k23 ?a24 ?l24 ?c24 ?k24 ?a25 ?i25 ?l25 ?c25 ?k25 ?a26 ?l26 ?Z4 ?k26 ?a27 ?i27 ?l27 ?c27 ?k27 ?a28 ?l28 ?c28 ?k28 ?a29 ?l29 ?c29 ?k29 ?a30 ?l30 ?c30 ?k30 ?a31 ?l31 ?c31 ?k31 ?a32 ?l32 ?c32 ?k32 ?a33 ?i33 ?l33 ?c33 ?k33 ?a34 ?l34 ?c34 ?k34 ?a35 ?l35 ?c35 ?k35 ?Oj ?O2 ?Oh ?N6 ?xx ?OJ ?jq ?dM ?dN ?gB ?Jt ?J5 ?Js ?Jg ?vH ?JT ?jC ?iV ?kW ?eV ?Bt ?BR ?Br ?Bh ?rK ?BL ?eU ?aO ?hn_ ?tk_ ?gU ?vf ?u_ ?uY ?lO ?q_ ?vC ?vG ?vN ?uX ?u9 ?uW ?u6 ?u0 ?rB ?Iu ?Ir ?Ik ?yp ?Dh ?Jk ?JD ?JN ?Ij ?Ip ?Ii ?Io ?Il ?gP ?j_ ?j9 ?rm ?zB ?FW ?zA ?qP ?qO ?tE ?rQ ?sr ?rM ?tu ?rT ?T8 ?T7 ?T6 ?Nq ?T5 ?Ih ?T4 ?Ig
   case Pq | Kw | Cj | v7 | Kv | a0 | l0 | c0 | k0 | a1 | l1 | c1 | k1 | a2 | i2 | l2 | c2 | k2 | a3 | l3 | c3 | k3 | a4 | l4 | c4 | k4 | a5 | l5 | c5 | k5 | a6 | l6 | c6 | k6 | a7 | i7 | l7 | c7 | k7 | a8 | i8 | l8 | c8 | k8 | a9 | i9 | l9 | c9 | k9 | a10 | l10 | c10 | k10 | a11 | i11 | l11 | c11 | k11 | a12 | i12 | l12 | c12 | k12 | a13 | i13 | l13 | c13 | k13 | a14 | i14 | l14 | c14 | k14 | a15 | l15 | c15 | k15 | a16 | l16 | c16 | k16 | a17 | i17 | l17 | c17 | k17 | a18 | i18 | l18 | c18 | k18 | a19 | i19 | l19 | c19 | k19 | a20 | i20 | l20 | c20 | k20 | a21 | i21 | l21 | c21 | k21 | a22 | l22 | c22 | k22 | a23 | i23 | l23 | c23 | k23 | a24 | l24 | c24 | k24 | a25 | i25 | l25 | c25 | k25 | a26 | l26 | Z4 | k26 | a27 | i27 | l27 | c27 | k27 | a28 | l28 | c28 | k28 | a29 | l29 | c29 | k29 | a30 | l30 | c30 | k30 | a31 | l31 | c31 | k31 | a32 | l32 | c32 | k32 | a33 | i33 | l33 | c33 | k33 | a34 | l34 | c34 | k34 | a35 | l35 | c35 | k35 | Oj | O2 | Oh | N6 | xx | OJ | jq | dM | dN | gB | Jt | J5 | Js | Jg | vH | JT | jC | iV | kW | eV | Bt | BR | Br | Bh | rK | BL | eU | aO | hn_ | tk_ | gU=>k_is
   case vf | u_ | uY | lO | q_=>decide +kernel
   case vC=>rfl
   case vG | vN | uX | u9 | uW | u6 | u0 | rB=>k_is
   case Iu | Ir | Ik | yp | Dh=>decide +kernel
   case Jk=>rfl
   case JD | JN | Ij | Ip | Ii | Io | Il | gP | j_ | j9 | rm | zB | FW | zA | qP | qO | tE=>k_is
   case rQ=>decide
   case sr=>k_is
   case rM=>exact⟨rfl,rfl,rfl⟩
   case tu=>rfl
   case rT=>exact .cons rfl ⟨_,rfl⟩ (.cons rfl ⟨_,rfl⟩ (.cons rfl ⟨_,rfl⟩ (.nil)))
   case T8 | T7 | T6 | Nq | T5 | Ih | T4 | Ig=>k_is
  obtain⟨t,T⟩:=T
  have e0:=hmg.symm.trans T.VM
  cases e0
  exact⟨t.CJ,fun s u=>My.SM T s u,fun base _ _=>My.Yk T⟩

