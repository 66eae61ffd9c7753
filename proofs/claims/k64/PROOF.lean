import PyProof.Rows.All
import Wide.All
import OpenK.AllK
import Wide.FinOn
import Lean
import PyProof.EqAt
import PyProof.EqKinds
import PyProof.TupleCall
import PySem.Challenge.RW_chairvote_k64_settles
abbrev zC:=@PySem.wpAny_bind
abbrev zD:=@PySem.Heap.get?_push_of_some
abbrev zI:=@PySem.wpAny_pure
abbrev zS:=@PySem.Heap.lt_size
abbrev yA:=@Nat.lt_of_lt_of_le
abbrev yB:=@PySem.Heap.get?_push_size
abbrev yT:=@List.mem_cons_of_mem
abbrev yY:=@Nat.le_trans
abbrev xA:=@Bool.false_ne_true
abbrev xB:=@List.mem_cons_self
abbrev xD:=@Nat.ne_of_lt
abbrev xE:=@List.mem_append_right
abbrev xI:=@Option.some.inj
abbrev xL:=@PySem.Heap.get?_update_other
abbrev xS:=@Nat.ne_of_gt
abbrev wP:=@Nat.le_succ_of_le
abbrev wS:=@Nat.lt_irrefl
abbrev wT:=@PySem.wpAny_newObj_type
abbrev vE:=@PySem.wpAny_mono
abbrev vF:=@PySem.Heap.get?_update_self
abbrev vS:=@PySem.wpAny_field
abbrev vT:=@PySem.W.mg_none_of
abbrev uS:=@PySem.wpAny_call_entry
abbrev jI:=@PySem.W.mg_of
abbrev jS:=@True.intro
abbrev zaa:=@Nat.le_refl
abbrev zab:=@List.getElem?_eq_getElem
abbrev zac:=@List.getElem?_append_right
abbrev zad:=@List.getElem?_append_left
abbrev zae:=@decide_eq_false
abbrev zaf:=@decide_eq_true
abbrev zag:=@PySem.wpAny_callSpecial?_slot
abbrev zah:=@List.getElem?_set_ne
abbrev zai:=@List.getElem?_set_self
abbrev zak:=@Int.toNat_natCast
abbrev zal:=@List.getElem?_map
abbrev zam:=@List.length_map
noncomputable section
local macro_rules|`(())=>`(by omega)
open PySem.W (Frag fnOf findIn keepIn nsIn codeIn isFn kitOne subIn exmOne)
set_option Elab.async false
set_option linter.all false
set_option maxRecDepth 100000
namespace L2
open PySem PySem.Spec PyProof.Rows
abbrev Key:=Sum Int Str
noncomputable def LC:Key->Value->Bool
 | .inl k,v=>Value.isInt k v
 | .inr x,v=>Value.isStrOf x v
def aob(w:World):Key->Int
 | .inl k=>hashInt k
 | .inr x=>hashStr w x
theorem fK:∀{k:Key} {v:Value},LC k v=true->(∃i t,k=Sum.inl i/\v=Value.int i t)\/(∃x t,k=Sum.inr x/\v=Value.str x t)
 | .inl i,v,h=>by
  obtain⟨t,e⟩:=Value.isInt_shape (k:=i) (v:=v) h
  exact .inl ⟨i,t,rfl,e⟩
 | .inr x,v,h=>by
  obtain⟨t,e⟩:=Value.isStrOf_shape (x:=x) (v:=v) h
  exact .inr ⟨x,t,rfl,e⟩
theorem YX(i:Int)(t:Tok):LC (.inl i) (.int i t)=true:=by simp[LC,Value.isInt]
theorem YW(x:Str)(t:Tok):LC (.inr x) (.str x t)=true:=by simp[LC,Value.isStrOf]
theorem ahB(a b:Int):decide ((Sum.inl a:Key)=Sum.inl b)=(a==b):=by
 by_cases e:a=b
 ·subst e;simp
 ·have h:¬(Sum.inl a:Key)=Sum.inl b:=λq=>e (Sum.inl.inj q)
  rw[zae h]
  exact(beq_eq_false_iff_ne.mpr e).symm
theorem ahy(a b:Str):decide ((Sum.inr a:Key)=Sum.inr b)=decide (a=b):=by
 by_cases e:a=b
 ·subst e;simp
 ·have h:¬(Sum.inr a:Key)=Sum.inr b:=λq=>e (Sum.inr.inj q)
  rw[zae h,zae e]
theorem ahA(a:Int)(b:Str):decide ((Sum.inl a:Key)=Sum.inr b)=false:=zae (λq=>nomatch q)
theorem ahz(a:Str)(b:Int):decide ((Sum.inr a:Key)=Sum.inl b)=false:=zae (λq=>nomatch q)
def dG(prog:Program)(w:World):PySem.KeyKind prog w Key where
 is:=LC
 hash:=aob w
 inj:=λv a b ha hb=>by
  rcases fK ha with⟨i,t,rfl,rfl⟩ | ⟨x,t,rfl,rfl⟩
  ·rcases fK hb with⟨j,u,rfl,e⟩ | ⟨y,u,rfl,e⟩
   ·injection e with e1 _;rw[e1]
   ·exact nomatch e
  ·rcases fK hb with⟨j,u,rfl,e⟩ | ⟨y,u,rfl,e⟩
   ·exact nomatch e
   ·injection e with e1 _;rw[e1]
 byValue:=λk v h=>by
  rcases fK h with⟨i,t,rfl,rfl⟩ | ⟨x,t,rfl,rfl⟩<;>rfl
 pyHash:=λhv h=>by
  rcases fK hv with⟨i,t,rfl,rfl⟩ | ⟨x,t,rfl,rfl⟩
  ·exact wpAny_pyHash_int h
  ·exact wpAny_pyHash_str h
 eqBool:=λhu hv h=>by
  rcases fK hu with⟨i,t,rfl,rfl⟩ | ⟨x,t,rfl,rfl⟩
  ·rcases fK hv with⟨j,u,rfl,rfl⟩ | ⟨y,u,rfl,rfl⟩
   ·rw[ahB]at h;exact wpAny_eqBool_int h
   ·rw[ahA]at h;exact SeqAt.EqAt.int_str i t y u _ _ _ _ h
  ·rcases fK hv with⟨j,u,rfl,rfl⟩ | ⟨y,u,rfl,rfl⟩
   ·rw[ahz]at h;exact SeqAt.EqAt.str_int x t j u _ _ _ _ h
   ·rw[ahy]at h;exact wpAny_eqBool_str h
 «strs» := λk x t v h=>by
  rcases fK h with⟨i,u,rfl,e⟩ | ⟨y,u,rfl,e⟩
  ·exact nomatch e
  ·injection e with e1 _
   subst e1
   cases v<;>rfl
theorem S8(prog:Program)(w:World)(i:Int)(t:Tok):(dG prog w).is (.inl i) (.int i t)=true:=YX i t
theorem S7(prog:Program)(w:World)(x:Str)(t:Tok):(dG prog w).is (.inr x) (.str x t)=true:=YW x t
inductive V where
 | non | bl (b:Bool) | int (i:Int) | str (x:Str) | byt (b:Array UInt8) | flt (b:UInt64) | ref (a:Addr) | ty (n:String)
 deriving DecidableEq
def RelV:V->Value->Prop
 | .non,u=>u=Value.none
 | .bl b,u=>u=Value.bool b
 | .int i,u=>∃t,u=Value.int i t
 | .str x,u=>∃t,u=Value.str x t
 | .byt b,u=>∃t,u=Value.bytes b t
 | .flt b,u=>∃t,u=Value.float b t
 | .ref a,u=>u=Value.ref a
 | .ty n,u=>u=Value.type n
abbrev Vals:List V->List Value->Prop:=Paired RelV
theorem Vals.length(r:Vals xs us):xs.length=us.length:=Paired.length r
theorem Vals.get:∀{xs:List V} {us:List Value} {i:Nat} {x:V},Vals xs us->xs[i]? = some x->∃u,us[i]? = some u/\RelV x u
 | _,_,_,_,.nil,e=>by simp at e
 | _,_,0,_,.cons r _,e=>by simp at e;subst e;exact⟨_,rfl,r⟩
 | _,_,i+1,x,.cons _ t,e=>by
  obtain⟨u,h1,h2⟩:=Vals.get (i:=i) (x:=x) t (by simpa using e)
  exact⟨u,by simpa using h1,h2⟩
theorem Vals.append:∀{xs ys:List V} {us ws:List Value},Vals xs us->Vals ys ws->Vals (xs++ys) (us++ws)
 | _,_,_,_,.nil,s=>s
 | _,_,_,_,.cons r t,s=> .cons r (Vals.append t s)
theorem Vals.take:∀{xs:List V} {us:List Value} (n:Nat),Vals xs us->Vals (xs.take n) (us.take n)
 | _,_,0,_=> .nil
 | _,_,_+1,.nil=> .nil
 | _,_,n+1,.cons r t=> .cons r (Vals.take n t)
theorem Vals.drop:∀{xs:List V} {us:List Value} (n:Nat),Vals xs us->Vals (xs.drop n) (us.drop n)
 | _,_,0,r=>r
 | _,_,_+1,.nil=> .nil
 | _,_,n+1,.cons _ t=>Vals.drop n t
def zB:Option V->Option Value->Prop
 | some v,some u=>RelV v u
 | none,none=>True
 | _,_=>False
def KV{κ:Type}:List (κ×V)->List (κ×Value)->Prop:=Paired λ(p:κ×V) (q:κ×Value)=>p.1=q.1/\RelV p.2 q.2
def kV:Key->V
 | .inl i=> .int i
 | .inr x=> .str x
inductive HO where
 | lst (xs:List V)
 | tup (xs:List V)
 | dK (kvs:List (Key×V)) | dT (kvs:List (List Key×V))
 | set (S:Int->Bool) (n:Nat)
 | ins (C dx:Addr) (fs:List (Str×V))
 | own (x:Addr)
 | xd (fs:List (Str×V))
 | met (f x:Addr)
 | C_ (lo hi:Int)
 | mK (o:Obj) (u:HO)
 | Z7 (ps:Array Value)
 | ext (φ:Heap->Prop)
abbrev Hp:=Addr->Option HO
def upd(H:Hp)(a:Addr)(o:HO):Hp:=λb=>if b=a then some o else H b
theorem bA:upd H a o a=some o:=by unfold upd;rw[if_pos rfl]
theorem aL(h:b≠a):upd H a o b=H b:=by unfold upd;rw[if_neg h]
theorem ac3:upd (upd H a o) a u=upd H a u:=by
 funext b;unfold upd;split<;>rfl
theorem akd{H:Hp}{a b:Addr}{o u:HO}(h:H a=some o)(h':H b=some u)(d:o≠u):a≠b:=by
 intro e;subst e;rw[h]at h';exact d (xI h')
theorem bN{H:Hp}{a b:Addr}{o:HO}(h:H a=some o)(h':H b=none):a≠b:=by
 intro e;subst e;rw[h]at h';cases h'
section
variable(P:Program)(w:World)
def fC(H:Hp)(h:Heap)(a:Addr):HO->Prop
 | .lst xs=>xs.length<=sizeLine/\∃(its:List Value) (n:Nat),Vals xs its/\h.get? a=some {cls:= .type "list",data:= .seq its.toArray n}
 | .tup xs=>xs.length<=sizeLine/\∃its:List Value,Vals xs its/\IsTup h a its.toArray
 | .dK kvs=>kvs.length<=sizeLine/\(a==sysModules)=false/\∃vs,KV kvs vs/\h.DictOf (dG P w) a vs
 | .dT kvs=>kvs.length<=sizeLine/\(a==sysModules)=false/\∃xs:List (List Key×Addr×Value),
   Paired (λ(p:List Key×V) (q:List Key×Addr×Value)=>p.1=q.1/\H q.2.1=some (.tup (p.1.map kV))/\RelV p.2 q.2.2) kvs xs/\
   ∃o es ep,h.get? a=some o/\o.ExactDict/\o.data= .dict es ep/\es.toList=xs.map (entryOfKey (tupleKind (dG P w)))/\(xs.map (·.1)).Nodup
 | .set S n=>h.SetOf (intKind P w) a S n
 | .ins C dx fs=>H dx=some (.own a)/\fs.length<=1000/\dx≠a/\h.get? a=some (PySem.W.instObj C dx)/\
   ∃mA,h.Ns1 dx mA/\(∀f,zB (fs.lookup f) (mA f))/\PySem.Within mA (fs.map (·.1))
 | .own _=>∃o,h.get? a=some o
 | .xd fs=>∃mA,h.Ns1 a mA/\∀f,zB (fs.lookup f) (mA f)
 | .C_ lo hi=>∃t u v,h.get? a=some {cls:= .type "range",data:= .fields #[.int lo t,.int hi u,.int 1 v]}
 | .mK o u=>h.get? a=some o/\fC H h a u
 | .Z7 ps=>h.get? a=some {cls:= .none,data:= .fields ps}
 | .met f x=>h.get? a=some (PySem.W.methodObj (.ref f) (.ref x))
 | .ext φ=>φ h/\(∃o,h.get? a=some o)/\∀h1 h2:Heap,φ h1->(∀o,h1.get? a=some o->h2.get? a=some o)->φ h2
def uU(H:Hp)(h:Heap):Prop:=∀a o,H a=some o->fC P w H h a o
end
section
variable{P:Program}{w:World}{H H':Hp}{h h':Heap}{a:Addr}{o:HO}
theorem fC.lt(x:fC P w H h a o):a<h.objs.size:=by
 cases o with
 | lst xs=>obtain⟨_,_,_,_,e⟩:=x;exact zS e
 | tup xs=>obtain⟨_,_,_,p⟩:=x;exact p.lt
 | dK kvs=>obtain⟨_,_,_,_,o,_,_,e,_⟩:=x;exact zS e
 | dT kvs=>obtain⟨_,_,_,_,o,_,_,e,_⟩:=x;exact zS e
 | set S n=>obtain⟨o,_,_,_,e,_⟩:=x;exact zS e
 | ins C dx fs=>obtain⟨_,_,_,e,_⟩:=x;exact zS e
 | own y=>obtain⟨_,e⟩:=x;exact zS e
 | xd fs=>obtain⟨_,⟨_,_,_,e,_⟩,_⟩:=x;exact zS e
 | C_ lo hi=>obtain⟨_,_,_,e⟩:=x;exact zS e
 | mK ob u=>obtain⟨e,_⟩:=x;exact zS e
 | Z7 ps=>exact zS (show h.get? a=some _ from x)
 | met f y=>exact zS (show h.get? a=some _ from x)
 | ext φ=>obtain⟨_,⟨_,e⟩,_⟩:=x;exact zS e
theorem Paired.ahn{α β:Type}{F G:α->β->Prop}:∀{l₁:List α} {l₂:List β},Paired F l₁ l₂->(∀a b,F a b->G a b)->Paired G l₁ l₂
 | _,_,.nil,_=> .nil
 | _,_,.cons r t,f=> .cons (f _ _ r) (Paired.ahn t f)
theorem fC.stay(x:fC P w H h a o)(k:∀b u,(b=a\/H b=some (.own a))->h.get? b=some u->h'.get? b=some u)
  (ho:∀b,H b=some (.own a)->H' b=some (.own a)) (ht:∀b xs,H b=some (.tup xs)->H' b=some (.tup xs)):fC P w H' h' a o:=by
 induction o with
 | lst xs=>obtain⟨z,its,n,r,e⟩:=x;exact⟨z,its,n,r,k _ _ (.inl rfl) e⟩
 | tup xs=>obtain⟨z,its,r,ob,e,c⟩:=x;exact⟨z,its,r,ob,k _ _ (.inl rfl) e,c⟩
 | dK kvs=>obtain⟨z,y,vs,r,ob,es,ep,e,c⟩:=x;exact⟨z,y,vs,r,ob,es,ep,k _ _ (.inl rfl) e,c⟩
 | dT kvs=>
  obtain⟨z,y,xs,r,ob,es,ep,e,c⟩:=x
  exact⟨z,y,xs,Paired.ahn r λp q z=>⟨z.1,ht _ _ z.2.1,z.2.2⟩,ob,es,ep,k _ _ (.inl rfl) e,c⟩
 | set S n=>obtain⟨ob,es,ep,t,e,c⟩:=x;exact⟨ob,es,ep,t,k _ _ (.inl rfl) e,c⟩
 | ins C dx fs=>
  obtain⟨d,z,ne,e,mA,⟨od,es,ep,e2,c⟩,r⟩:=x
  exact⟨ho _ d,z,ne,k _ _ (.inl rfl) e,mA,⟨od,es,ep,k _ _ (.inr d) e2,c⟩,r⟩
 | own y=>obtain⟨ob,e⟩:=x;exact⟨ob,k _ _ (.inl rfl) e⟩
 | xd fs=>obtain⟨mA,⟨od,es,ep,e,c⟩,r⟩:=x;exact⟨mA,⟨od,es,ep,k _ _ (.inl rfl) e,c⟩,r⟩
 | C_ lo hi=>obtain⟨t,u,v,e⟩:=x;exact⟨t,u,v,k _ _ (.inl rfl) e⟩
 | mK ob u ih=>obtain⟨e,q⟩:=x;exact⟨k _ _ (.inl rfl) e,ih q⟩
 | Z7 ps=>
  have e:h.get? a=some {cls:= .none,data:= .fields ps}:=x
  show h'.get? a=some {cls:= .none,data:= .fields ps}
  exact k a _ (.inl rfl) e
 | met f y=>
  have e:h.get? a=some (PySem.W.methodObj (.ref f) (.ref y)):=x
  show h'.get? a=some (PySem.W.methodObj (.ref f) (.ref y))
  exact k a _ (.inl rfl) e
 | ext φ=>obtain⟨p,⟨o,e⟩,st⟩:=x;exact⟨st _ _ p λo q=>k _ _ (.inl rfl) q,⟨o,k _ _ (.inl rfl) e⟩,st⟩
theorem uU.lt(x:uU P w H h)(e:H a=some o):a<h.objs.size:=(x a o e).lt
theorem uU.fresh(x:uU P w H h)(e:h.objs.size<=a):H a=none:=by
 cases q:H a with
 | none=>rfl
 | some u=>exact absurd (yA (x.lt q) e) (wS _)
theorem uU.kept(x:uU P w H h)(k:∀b u,h.get? b=some u->h'.get? b=some u):uU P w H h':=λa o e=>
 (x a o e).stay (λb u _ q=>k b u q) (λ_ q=>q) λ_ _ q=>q
theorem uU.laid(x:uU P w H h)(k:∀b u,h.get? b=some u->h'.get? b=some u)(hp:h.objs.size<=a)(new:fC P w (upd H a o) h' a o):uU P w (upd H a o) h':=λb u e=>by
 have hn:=x.fresh hp
 by_cases hb:b=a
 ·subst hb;rw[bA]at e;cases e;exact new
 ·rw[aL hb]at e
  exact(x b u e).stay (λc v _ q=>k c v q) (λc q=>by rw[aL (bN q hn)];exact q) λc xs q=>by rw[aL (bN q hn)];exact q
end
def Rd(H:Hp)(a:Addr)(u:HO):Prop:=H a=some u\/∃o,H a=some (.mK o u)
theorem Rd.ok(r:Rd H a u)(x:uU P w H h):fC P w H h a u:=by
 rcases r with r | ⟨o,r⟩
 ·exact x a u r
 ·obtain⟨_,q⟩:=x a _ r
  exact q
def Mut:Option HO->Prop
 | some (.lst _)=>True
 | some (.dK _)=>True
 | some (.dT _)=>True
 | some (.set _ _)=>True
 | some (.ins _ _ _)=>True
 | some (.ext _)=>True
 | _=>False
section
variable{P:Program}{w:World}{H:Hp}{h h':Heap}{x e:Addr}{o':HO}
theorem uU.write(ok:uU P w H h)(mu:Mut (H x))(he:e=x\/H e=some (.own x))(k:∀b u,b≠e->h.get? b=some u->h'.get? b=some u)(heo:∃u,h'.get? e=some u)
  (new:fC P w (upd H x o') h' x o'):uU P w (upd H x o') h':=λb u q=>by
 have aj_:∀c y,H c=some (.own y)->c≠x:=λc y r z=>by subst z;rw[r]at mu;exact mu
 have anI:∀c xs,H c=some (.tup xs)->c≠x:=λc xs r z=>by subst z;rw[r]at mu;exact mu
 by_cases hb:b=x
 ·subst hb;rw[bA]at q;cases q;exact new
 ·rw[aL hb]at q
  by_cases hbe:b=e
  ·have q':H b=some (.own x):=by
    rcases he with z | z
    ·exact absurd (hbe.trans z) hb
    ·rw[hbe];exact z
   rw[q]at q';cases q'
   obtain⟨v,hv⟩:=heo
   exact⟨v,by rw[hbe];exact hv⟩
  ·refine(ok b u q).stay (λc v hc r=>k c v ?_ r) (λc r=>by rw[aL (aj_ c b r)];exact r) λc xs r=>by rw[aL (anI c xs r)];exact r
   rcases hc with rfl | hc
   ·exact hbe
   ·rintro rfl
    rcases he with z | z
    ·exact aj_ c b hc z
    ·rw[hc]at z;cases z;exact hb rfl
end
structure Un(fs ex:List Addr)(H H':Hp)(h h':Heap):Prop where
 keep:∀b o,h.get? b=some o->H b=none->b∉fs->b∉ex->h'.get? b=some o
 slot:∀b o,h.get? b=some o->H b=none->b∈fs->b∉ex->∃sl,h'.get? b=some {o with slots:=sl}
 free:∀b o,h.get? b=some o->H b=none->b∉ex->H' b=none
 there:∀b o,h.get? b=some o->b∉ex->∃o',h'.get? b=some o'
 tups:∀b xs,H b=some (.tup xs)->H' b=some (.tup xs)
 zy:∀b o u,H b=some (.mK o u)->H' b=some (.mK o u)
 Cv:∀b ps,H b=some (.Z7 ps)->∃more,H' b=some (.Z7 (ps++more))
section
variable{fs fs' ex ex':List Addr}{H H1 H2:Hp}{h h1 h2 h':Heap}{a x e:Addr}{o:HO}
theorem Un.any(u:Un fs ex H H1 h h1)(q:h.get? b=some ob)(n:H b=none)(hx:b∉ex):∃sl,h1.get? b=some {ob with slots:=sl}:=by
 by_cases hb:b∈fs
 ·exact u.slot b ob q n hb hx
 ·exact⟨ob.slots,u.keep b ob q n hb hx⟩
theorem Un.kept(k:∀b u,h.get? b=some u->h'.get? b=some u):Un fs ex H H h h':=
 ⟨λb ob q _ _ _=>k b ob q,λb ob q _ _ _=>⟨ob.slots,k b ob q⟩,λ_ _ _ n _=>n,λb ob q _=>⟨ob,k b ob q⟩,λ_ _ q=>q,λ_ _ _ q=>q,λ_ ps q=>⟨#[],by rw[q];simp⟩⟩
theorem Un.refl:Un fs ex H H h h:=Un.kept λ_ _ q=>q
theorem Un.laid(k:∀b u,h.get? b=some u->h'.get? b=some u)(hp:h.objs.size<=a)(hn:H a=none):Un fs ex H (upd H a o) h h' where
 keep:=λb u q _ _ _=>k b u q
 slot:=λb u q _ _ _=>⟨u.slots,k b u q⟩
 free:=λb u q n _=>by rw[aL (xD (yA (zS q) hp))];exact n
 there:=λb u q _=>⟨u,k b u q⟩
 tups:=λb xs q=>by rw[aL (bN q hn)];exact q
 zy:=λb u xs q=>by rw[aL (bN q hn)];exact q
 Cv:=λb ps q=>⟨#[],by rw[aL (bN q hn),q];simp⟩
theorem Un.write(mu:Mut (H x))(he:e=x\/H e=some (.own x))(k:∀b u,b≠e->h.get? b=some u->h'.get? b=some u)(heo:∃u,h'.get? e=some u):Un fs ex H (upd H x o) h h':=by
 have hx:∀b,H b=none->b≠x:=λb n z=>by subst z;rw[n]at mu;exact mu
 have hb:∀b,H b=none->b≠e:=λb n z=>by
  subst z
  rcases he with r | r
  ·exact hx b n r
  ·rw[n]at r;cases r
 have hm:∀b u,H b=some u->¬Mut (some u)->b≠x:=λb u q nm z=>by subst z;rw[q]at mu;exact nm mu
 refine⟨λb u q n _ _=>k b u (hb b n) q,λb u q n _ _=>⟨u.slots,k b u (hb b n) q⟩,λb u q n _=>by rw[aL (hx b n)];exact n,λb u q _=> ?_,
  λb xs q=>by rw[aL (hm b _ q λz=>z)];exact q,λb u xs q=>by rw[aL (hm b _ q λz=>z)];exact q,λb ps q=>⟨#[],by rw[aL (hm b _ q λz=>z),q];simp⟩⟩
 by_cases hbe:b=e
 ·subst hbe;exact heo
 ·exact⟨u,k b u hbe q⟩
end
def trk(h:Heap)(H:Hp):List Addr:=(List.range h.objs.size).filter λa=>(H a).isSome
def Qx(h:Heap)(H:Hp):Heap:=PySem.W.hideAll h (trk h H)
theorem Y5(h:Heap)(H:Hp):(Qx h H).objs.size=h.objs.size:=PySem.W.hideAll_size _ _
theorem abV(e:h.get? b=some o)(n:H b=none):(Qx h H).get? b=some o:=
 PySem.W.hideAll_get _ e λhm=>by
  have q:(H b).isSome=true:=(List.mem_filter.mp hm).2
  rw[n]at q;simp at q
theorem aeb(e:(Qx h H).get? b=some o):h.get? b=some o/\H b=none:=by
 have e':h.get? b=some o:=PySem.W.of_hideAll (trk h H) e
 refine⟨e',?_⟩
 cases q:H b with
 | none=>rfl
 | some x=>
  have hm:b∈trk h H:=List.mem_filter.mpr ⟨List.mem_range.mpr (zS e'),by simp[q]⟩
  have z:(Qx h H).get? b=none:=PySem.W.hideAll_none (trk h H) hm
  rw[z]at e;cases e
def ae9(g h:Heap)(L:Addr):List (Addr×Obj):=(List.range h.objs.size).filterMap λa=>if a=L\/(g.get? a).isSome=true then none else(h.get? a).map λo=>(a,o)
def rest(g h:Heap)(L d:Addr):List (Addr×Obj):=(ae9 g h L).filter λp=>decide (p.1≠d)
structure Mod(K:Frag)(mg:Str->Option Value)(base:Heap):Prop where
 kin:K.In base
 glob:base.Ns mainGlobals mg
 blt:∃mb,base.Ns builtinsNs mb/\∀x:Str,x≠ "__name__" -> mb x=bootBuiltins x
 nolimit:base.NoLimit
structure Cx where
 prog:Program
 w:World
 K:Frag
 mg:Str->Option Value
 base:Heap
 A:Around
 N:List Str
 s₀:Shared
 H₀:Hp
 env:Env
 outer:List Env
 stack:List Env
 ex:List Addr
 fn:Str->Bool
 calm:Bool
 pn:List (Addr×Obj)
 xe:Value->Shared->Prop
def frs(l:List Env):List Addr:=l.filterMap (·.frame)
abbrev Cx.fs(X:Cx):List Addr:=frs X.outer
def Vis(sc:Scope)(x:Str):Prop:=sc.names.lookup x=some .local\/sc.names.lookup x=some .cell\/sc.names.lookup x=some .free
def Loc(sc:Scope)(x:Str):Prop:=sc.names.lookup x=some .local\/sc.names.lookup x=some .cell
def Look(env:Env)(h:Heap)(m:Str->Option Value)(x:Str)(u:Value):Prop:=
 (env.kindOf x=some .local/\m x=some u)\/((env.kindOf x=some .cell\/env.kindOf x=some .free)/\∃c,env.cells.lookup x=some c/\h.IsCell c (some u))
structure Cx.Ok(X:Cx):Prop where
 mod:Mod X.K X.mg X.base
 kind:X.env.scope.kind= .function
 glob:X.env.globals=mainGlobals
 blt:X.env.builtins=builtinsNs
 above:X.s₀.heap.objs.size<=X.env.locals
 inj:∀x y c,X.env.cells.lookup x=some c->X.env.cells.lookup y=some c->x=y
 has:∀x,(X.env.kindOf x=some .cell\/X.env.kindOf x=some .free)->∃c,X.env.cells.lookup x=some c
 cab:∀x c,X.fn x=true->X.env.cells.lookup x=some c->X.s₀.heap.objs.size<=c
 hd:X.calm=true->X.A.handled=none
 frames:X.A.frames=some X.stack
 stk:X.stack=X.outer\/(X.stack=X.env::X.outer/\X.env.frame=some X.env.locals)
 exf:∀b∈X.ex,b≠X.env.locals/\∀x c,X.env.cells.lookup x=some c->c≠b
 bs:∀b o,X.base.get? b=some o->X.s₀.heap.get? b=some o/\X.H₀ b=none
 Zk:X.base.objs.size<=X.s₀.heap.objs.size
 SQ:∀b o,X.base.get? b=some o->b∉X.ex
 TJ:∀b∈X.ex,b∉X.fs
 CN:X.s₀.heap.FunFrames X.base X.outer
 frf:∀b∈X.fs,X.H₀ b=none
structure Inv(X:Cx)(pins:List (Addr×Obj))(σ:List (Option V))(H:Hp)(s:Shared):Prop where
 ok:X.Ok
 os:s.os=X.s₀.os
 bare:AllBare s.gens
 base:Un X.fs X.ex X.H₀ H X.s₀.heap s.heap
 loc:∃m,s.heap.Ns X.env.locals m/\∀(i:Nat) (x:Str) (v:V),X.N[i]? = some x->σ[i]? = some (some v)->Vis X.env.scope x->∃u,RelV v u/\Look X.env s.heap m x u
 cell:∀x c,X.env.cells.lookup x=some c->∃v,s.heap.IsCell c v
 free:H X.env.locals=none
 lO:∀x c,X.env.cells.lookup x=some c->H c=none
 pin:∀p∈X.pn++pins,s.heap.get? p.1=some p.2/\H p.1=none/\p.1≠X.env.locals/\p.1∉X.fs/\∀v,p.2.data≠ .cell v
 hok:uU X.prog X.w H s.heap
 len:σ.length=X.N.length
section
variable{X:Cx}{pins:List (Addr×Obj)}{σ:List (Option V)}{H H':Hp}{s:Shared}{h':Heap}
theorem Cx.Ok.anL(ok:X.Ok)(e:X.base.get? b=some o):b∉X.fs:=λhb=>by
 have:=(ok.CN.mem hb).1
 rw[e]at this;cases this
theorem Inv.bs(I:Inv X pins σ H s):∀b o,X.base.get? b=some o->s.heap.get? b=some o/\H b=none:=λb o e=>
 ⟨I.base.keep b o (I.ok.bs b o e).1 (I.ok.bs b o e).2 (I.ok.anL e) (I.ok.SQ b o e),I.base.free b o (I.ok.bs b o e).1 (I.ok.bs b o e).2 (I.ok.SQ b o e)⟩
theorem Inv.bk(I:Inv X pins σ H s):∀b o,X.base.get? b=some o->s.heap.get? b=some o:=λb o e=>(I.bs b o e).1
theorem Inv.mod(I:Inv X pins σ H s):Mod X.K X.mg X.base:=I.ok.mod
theorem Inv.Jb(I:Inv X pins σ H s):X.K.In s.heap:=I.ok.mod.kin.keeps I.bk
theorem Inv.fr(I:Inv X pins σ H s):∃m,Fr X.base X.env.locals s.heap m:=
 let⟨m,hn,_⟩:=I.loc
 ⟨m,hn,I.bk,yY I.ok.Zk I.ok.above⟩
theorem Inv.lt(I:Inv X pins σ H s):X.env.locals<s.heap.objs.size:=let⟨_,hn,_⟩:=I.loc;hn.lt
theorem Inv.sz(I:Inv X pins σ H s):X.s₀.heap.objs.size<=s.heap.objs.size:=yY I.ok.above (Nat.le_of_lt I.lt)
theorem Inv.anK(I:Inv X pins σ H s)(h:s.heap.objs.size<=a):a∉X.fs:=λhb=>by
 obtain⟨_,o,ho,_⟩:=I.ok.CN.mem hb
 exact absurd (yA (zS ho) (yY I.sz h)) (wS _)
theorem Inv.cne(I:Inv X pins σ H s):∀x c,X.env.cells.lookup x=some c->c≠X.env.locals:=λx c e z=>by
 obtain⟨v,o,ho,hd⟩:=I.cell x c e
 obtain⟨m,⟨o',es,ep,ho',hd',_⟩,_⟩:=I.loc
 rw[z,ho']at ho;cases ho;rw[hd']at hd;cases hd
theorem Inv.CN(I:Inv X pins σ H s):s.heap.FunFrames X.base X.outer:=by
 have all:∀(l:List Env),(∀b∈frs l,b∈X.fs)->X.s₀.heap.FunFrames X.base l->s.heap.FunFrames X.base l:=by
  intro l
  induction l with
  | nil=>intro _ _;trivial
  | cons env r ih=>
   intro hs hl
   obtain⟨hk,⟨L,o,hf,hn,ho,hd⟩,hr⟩:=hl
   have hL:L∈X.fs:=hs L (by unfold frs;rw[List.filterMap_cons,hf];exact xB)
   obtain⟨sl,e⟩:=I.base.slot L o ho (I.ok.frf L hL) hL λz=>I.ok.TJ L z hL
   exact⟨hk,⟨L,_,hf,hn,e,hd⟩,ih (λb hb=>hs b (by unfold frs;rw[List.filterMap_cons,hf];exact yT _ hb)) hr⟩
 exact all X.outer (λ_ hb=>hb) I.ok.CN
theorem Inv.stack(I:Inv X pins σ H s):s.heap.FunFrames X.base X.stack:=by
 rcases I.ok.stk with e | ⟨e,hf⟩
 ·rw[e];exact I.CN
 ·rw[e]
  obtain⟨m,hn,_⟩:=I.loc
  refine .cons (by rw[I.ok.kind];decide) hf hn ?_ I.CN
  exact Heap.get?_none_of_le (yY I.ok.Zk I.ok.above)
theorem Inv.Pj(I:Inv X pins σ H s):∀b∈frs X.stack,b∈X.env.locals::X.fs:=λb hb=>by
 rcases I.ok.stk with e | ⟨e,hf⟩
 ·rw[e]at hb;exact yT _ hb
 ·rw[e]at hb
  unfold frs at hb
  rw[List.filterMap_cons,hf]at hb
  exact hb
theorem Inv.JR(I:Inv X pins σ H s):∀b∈frs X.stack,H b=none:=λb hb=>by
 rcases List.mem_cons.mp (I.Pj b hb)with e | hb
 ·rw[e];exact I.free
 ·obtain⟨_,o,ho,_⟩:=I.ok.CN.mem hb
  exact I.base.free b o ho (I.ok.frf b hb) λz=>I.ok.TJ b z hb
theorem Inv.step{g':Array GenState}{t':Nat}{ch:List Addr}(I:Inv X pins σ H s)
  (hch:∀b∈ch,(b∈X.ex\/X.s₀.heap.objs.size<=b)/\b≠X.env.locals/\(∀x c,X.env.cells.lookup x=some c->c≠b)/\∀p∈X.pn++pins,p.1≠b)
  (keep:∀b o,b≠X.env.locals->b∉X.fs->b∉ch->s.heap.get? b=some o->H b=none->h'.get? b=some o)
  (slot:∀b o,b≠X.env.locals->b∈X.fs->b∉ch->s.heap.get? b=some o->H b=none->∃sl,h'.get? b=some {o with slots:=sl}) (free:∀b o,b∉ch->s.heap.get? b=some o->H b=none->H' b=none)
  (there:∀b o,b∉ch->s.heap.get? b=some o->∃o',h'.get? b=some o')
  (tups:∀b xs,H b=some (.tup xs)->H' b=some (.tup xs)) (zy:∀b o u,H b=some (.mK o u)->H' b=some (.mK o u)) (Cv:∀b ps,H b=some (.Z7 ps)->∃more,H' b=some (.Z7 (ps++more)))
  (ns:∀m,s.heap.Ns X.env.locals m->h'.Ns X.env.locals m) (hok:uU X.prog X.w H' h') (hg:AllBare g'):
  Inv X pins σ H' {s with heap:=h',gens:=g',drawn:=d',toks:=t'}:=by
 have neL:∀b o,X.s₀.heap.get? b=some o->b≠X.env.locals:=λb o e=>xD (yA (zS e) I.ok.above)
 have neC:∀b o,X.s₀.heap.get? b=some o->b∉X.ex->b∉ch:=λb o e hx hb=>by
  rcases(hch b hb).1 with z | z
  ·exact hx z
  ·exact absurd (yA (zS e) z) (wS _)
 have cellK:∀x c,X.env.cells.lookup x=some c->∀v,s.heap.IsCell c v->h'.IsCell c v:=λx c e v ⟨o,ho,hd⟩=>by
  have nch:c∉ch:=λz=>(hch c z).2.2.1 x c e rfl
  by_cases hc:c∈X.fs
  ·obtain⟨sl,q⟩:=slot c o (I.cne x c e) hc nch ho (I.lO x c e)
   exact⟨_,q,hd⟩
  ·exact⟨o,keep c o (I.cne x c e) hc nch ho (I.lO x c e),hd⟩
 refine⟨I.ok,I.os,hg,⟨λb o e n hb hx=> ?_,λb o e n hb hx=> ?_,λb o e n hx=> ?_,λb o e hx=> ?_,λb xs e=>tups b xs (I.base.tups b xs e),λb o xs e=>zy b o xs (I.base.zy b o xs e),λb ps e=> ?_⟩,?_,λx c e=> ?_,?_,λx c e=> ?_,λp hp=> ?_,hok,I.len⟩
 ·exact keep b o (neL b o e) hb (neC b o e hx) (I.base.keep b o e n hb hx) (I.base.free b o e n hx)
 ·obtain⟨sl,e1⟩:=I.base.slot b o e n hb hx
  obtain⟨sl',e2⟩:=slot b _ (neL b o e) hb (neC b o e hx) e1 (I.base.free b o e n hx)
  exact⟨sl',e2⟩
 ·obtain⟨o',e1⟩:=I.base.there b o e hx
  exact free b o' (neC b o e hx) e1 (I.base.free b o e n hx)
 ·obtain⟨o',e1⟩:=I.base.there b o e hx
  exact there b o' (neC b o e hx) e1
 ·obtain⟨m1,e1⟩:=I.base.Cv b ps e
  obtain⟨m2,e2⟩:=Cv b _ e1
  exact⟨m1++m2,by rw[e2,Array.append_assoc]⟩
 ·obtain⟨m,hn,hl⟩:=I.loc
  refine⟨m,ns m hn,λi x v e1 e2 e3=> ?_⟩
  obtain⟨u,r,l⟩:=hl i x v e1 e2 e3
  refine⟨u,r,?_⟩
  rcases l with l | ⟨k,c,e,z⟩
  ·exact .inl l
  ·exact .inr ⟨k,c,e,cellK x c e _ z⟩
 ·obtain⟨v,z⟩:=I.cell x c e
  exact⟨v,cellK x c e v z⟩
 ·obtain⟨m,⟨o,_,_,ho,_⟩,_⟩:=I.loc
  exact free _ o (λz=>(hch _ z).2.1 rfl) ho I.free
 ·obtain⟨v,o,ho,hd⟩:=I.cell x c e
  exact free c o (λz=>(hch c z).2.2.1 x c e rfl) ho (I.lO x c e)
 ·obtain⟨e,n,ne,nf,d⟩:=I.pin p hp
  have nch:p.1∉ch:=λz=>(hch p.1 z).2.2.2 p hp rfl
  exact⟨keep p.1 p.2 ne nf nch e n,free p.1 p.2 nch e n,ne,nf,d⟩
theorem Inv.un(I:Inv X pins σ H s)(u:Un X.fs [] H H' s.heap h')(hok:uU X.prog X.w H' h'):Inv X pins σ H' {s with heap:=h',toks:=t'}:=by
 obtain⟨m,⟨o,es,ep,ho,r⟩,_⟩:=id I.loc
 obtain⟨sl,hL⟩:=u.any ho I.free (by simp)
 exact I.step (g':=s.gens) (d':=s.drawn) (ch:=[]) (λ_ z=>nomatch z) (λb o _ hb _ e n=>u.keep b o e n hb (by simp)) (λb o _ hb _ e n=>u.slot b o e n hb (by simp)) (λb o _ e n=>u.free b o e n (by simp)) (λb o _ e=>u.there b o e (by simp)) u.tups u.zy u.Cv (λm' hm=>by
  obtain⟨o',es',ep',ho',r'⟩:=hm
  rw[ho]at ho';cases ho'
  exact⟨_,es',ep',hL,r'⟩) hok I.bare
theorem Inv.call(I:Inv X pins σ H s)(u:Un (frs X.stack) ch H H' s.heap h')(hok:uU X.prog X.w H' h')(hg:AllBare g')
  (hch:∀b∈ch,(b∈X.ex\/X.s₀.heap.objs.size<=b)/\b≠X.env.locals/\(∀x c,X.env.cells.lookup x=some c->c≠b)/\∀p∈X.pn++pins,p.1≠b):
  Inv X pins σ H' {s with heap:=h',gens:=g',drawn:=d',toks:=t'}:=by
 obtain⟨m,⟨o,es,ep,ho,r⟩,_⟩:=id I.loc
 obtain⟨sl,hL⟩:=u.any ho I.free λz=>(hch _ z).2.1 rfl
 exact I.step (ch:=ch) hch (λb o hL hb hc e n=>u.keep b o e n (λz=>(List.mem_cons.mp (I.Pj b z)).elim hL hb) hc) (λb o _ _ hc e n=>u.any e n hc) (λb o hc e n=>u.free b o e n hc) (λb o hc e=>u.there b o e hc) u.tups u.zy u.Cv (λm' hm=>by
  obtain⟨o',es',ep',ho',r'⟩:=hm
  rw[ho]at ho';cases ho'
  exact⟨_,es',ep',hL,r'⟩) hok hg
theorem Inv.turned(I:Inv X pins σ H s)(k:∀b o,b≠it->s.heap.get? b=some o->h'.get? b=some o)(hn:H it=none)(hL:it≠X.env.locals)
  (h1:it∈X.ex\/X.s₀.heap.objs.size<=it) (h2:∀x c,X.env.cells.lookup x=some c->c≠it) (h3:∀p∈X.pn++pins,p.1≠it):Inv X pins σ H {s with heap:=h',toks:=t'}:=by
 have nit:∀b u,H b=some u->b≠it:=λb u e z=>by rw[z,hn]at e;cases e
 refine I.step (g':=s.gens) (d':=s.drawn) (ch:=[it]) (λb hb=> ?_) (λb o _ _ hc e _=>k b o (λz=>hc (by simp[z])) e) (λb o _ _ hc e _=>⟨o.slots,k b o (λz=>hc (by simp[z])) e⟩) (λ_ _ _ _ n=>n)
  (λb o hc e=>⟨o,k b o (λz=>hc (by simp[z])) e⟩) (λ_ _ e=>e) (λ_ _ _ e=>e) (λb ps e=>⟨#[],by rw[e];simp⟩) (λm hm=> ?_) (λb u e=> ?_) I.bare
 ·have e:b=it:=by simpa using hb
  subst e
  exact⟨h1,hL,h2,h3⟩
 ·obtain⟨o,es,ep,ho,r⟩:=hm
  exact⟨o,es,ep,k _ o (Ne.symm hL) ho,r⟩
 ·refine(I.hok b u e).stay (λc v hc q=>k c v ?_ q) (λ_ q=>q) λ_ _ q=>q
  rcases hc with z | z
  ·rw[z];exact nit b u e
  ·exact nit c _ z
theorem Inv.tok(I:Inv X pins σ H s)(t:Nat):Inv X pins σ H {s with toks:=t}:=I.un (h':=s.heap) (t':=t) Un.refl I.hok
theorem Inv.kept(I:Inv X pins σ H s)(k:∀b u,s.heap.get? b=some u->h'.get? b=some u):Inv X pins σ H {s with heap:=h',toks:=t'}:=I.un (Un.kept k) (I.hok.kept k)
theorem Inv.laid(I:Inv X pins σ H s)(k:∀b u,s.heap.get? b=some u->h'.get? b=some u)(hp:s.heap.objs.size<=a)(new:fC X.prog X.w (upd H a o) h' a o):
  Inv X pins σ (upd H a o) {s with heap:=h',toks:=t'}:=I.un (Un.laid k hp (I.hok.fresh hp)) (I.hok.laid k hp new)
theorem Inv.write(I:Inv X pins σ H s)(mu:Mut (H x))(he:e=x\/H e=some (.own x))(k:∀b u,b≠e->s.heap.get? b=some u->h'.get? b=some u)(heo:∃u,h'.get? e=some u)
  (new:fC X.prog X.w (upd H x o) h' x o):Inv X pins σ (upd H x o) {s with heap:=h',toks:=t'}:=I.un (Un.write mu he k heo) (I.hok.write mu he k heo new)
theorem Inv.weak(I:Inv X pins σ H s)(hl:σ'.length=σ.length)(w:∀(i:Nat) v,σ'[i]? = some (some v)->σ[i]? = some (some v)):Inv X pins σ' H s:=
 ⟨I.ok,I.os,I.bare,I.base,let⟨m,hn,hl'⟩:=I.loc;⟨m,hn,λi x v e1 e2 e3=>hl' i x v e1 (w i v e2) e3⟩,I.cell,I.free,I.lO,I.pin,I.hok,hl.trans I.len⟩
theorem Inv.Gb(I:Inv X pins σ H s)(h:∀p∈Af,s.heap.get? p.1=some p.2/\H p.1=none/\p.1≠X.env.locals/\p.1∉X.fs/\∀v,p.2.data≠ .cell v):Inv X Af σ H s:=
 ⟨I.ok,I.os,I.bare,I.base,I.loc,I.cell,I.free,I.lO,λp hp=>(List.mem_append.mp hp).elim (λz=>I.pin p (List.mem_append_left _ z)) (h p),I.hok,I.len⟩
theorem SX{N:List Str}(hN:N.Nodup){i j:Nat}{x:Str}(a:N[i]? = some x)(b:N[j]? = some x):i=j:=by
 obtain⟨h1,e1⟩:=List.getElem?_eq_some_iff.mp a
 obtain⟨h2,e2⟩:=List.getElem?_eq_some_iff.mp b
 exact(List.getElem_inj hN).mp (e1.trans e2.symm)
theorem N7{E:Value->Shared->Prop}{Q:Unit->Shared->Prop}(I:Inv X pins σ H s)(hN:X.N.Nodup)(hi:X.N[i]? = some x)(hx:Loc X.env.scope x)(r:RelV v u)
  (h:∀s',Inv X pins (σ.set i (some v)) H s'->(∃a,Heap.SameBut a s.heap s'.heap/\(a=X.env.locals\/X.env.cells.lookup x=some a))->Q .unit s') (hf:X.fn x=true\/X.env.scope.names.lookup x=some .local:=by first | exact .inl rfl | exact .inr rfl | assumption):wpAny M A (storeName X.env x u) Q E s:=by
 obtain⟨m,hn,hl⟩:=id I.loc
 have hcls:(X.env.scope.kind== .class||(X.env.scope.kind== .module&&X.env.locals != X.env.globals))=false:=by rw[I.ok.kind];rfl
 have akL:i<σ.length:=by rw[I.len];exact(List.getElem?_eq_some_iff.mp hi).1
 have cne:=I.cne
 have tracked:∀{a:Addr} {h':Heap},(∃o,s.heap.get? a=some o/\H a=none)->Heap.SameBut a s.heap h'->uU X.prog X.w H h':=λ{a h'} ha hs b ob e=>by
  obtain⟨_,_,hfree⟩:=ha
  refine(I.hok b ob e).stay (λc w' hc q=>(hs.2 c ?_).trans q) (λ_ q=>q) λ_ _ q=>q
  rintro rfl
  rcases hc with rfl | hc
  ·rw[hfree]at e;cases e
  ·rw[hfree]at hc;cases hc
 rcases hx with hk | hk
 ·refine wpAny_storeName_local hk hn (λh' hn' hs=> ?_) hcls
  obtain⟨oL,_,_,hoL,_⟩:=id hn
  refine h _ ⟨I.ok,I.os,I.bare,⟨λb o e n hb hx=> ?_,λb o e n hb hx=> ?_,I.base.free,λb o e hx=> ?_,I.base.tups,I.base.zy,I.base.Cv⟩,⟨_,hn',λj y v' e1 e2 e3=> ?_⟩,λy c e=> ?_,I.free,I.lO,λp hp=> ?_,tracked ⟨oL,hoL,I.free⟩ hs,by simpa using I.len⟩ ⟨_,hs,.inl rfl⟩
  ·exact(hs.2 b (xD (yA (zS e) I.ok.above))).trans (I.base.keep b o e n hb hx)
  ·obtain⟨sl,e1⟩:=I.base.slot b o e n hb hx
   exact⟨sl,(hs.2 b (xD (yA (zS e) I.ok.above))).trans e1⟩
  ·obtain⟨o',e1⟩:=I.base.there b o e hx
   exact⟨o',(hs.2 b (xD (yA (zS e) I.ok.above))).trans e1⟩
  ·by_cases hj:j=i
   ·subst hj
    rw[hi]at e1;cases e1
    rw[zai akL]at e2
    cases e2
    exact⟨u,r,.inl ⟨hk,by simp⟩⟩
   ·rw[zah (Ne.symm hj)]at e2
    obtain⟨u',r',q⟩:=hl j y v' e1 e2 e3
    refine⟨u',r',?_⟩
    rcases q with⟨k,e⟩ | ⟨k,c,e,z⟩
    ·refine .inl ⟨k,?_⟩
     have:y≠x:=λe=>hj (SX hN e1 (e▸hi))
     simp[this,e]
    ·exact .inr ⟨k,c,e,z.sameBut hs (cne y c e)⟩
  ·obtain⟨w',z⟩:=I.cell y c e
   exact⟨w',z.sameBut hs (cne y c e)⟩
  ·obtain⟨e,n,ne,nf,d⟩:=I.pin p hp
   exact⟨(hs.2 p.1 ne).trans e,n,ne,nf,d⟩
 ·have hfn:X.fn x=true:=by
   rcases hf with z | z
   ·exact z
   ·rw[z]at hk;cases hk
  obtain⟨c,hc⟩:=I.ok.has x (.inl hk)
  obtain⟨w',z⟩:=I.cell x c hc
  refine wpAny_storeName_cell I.ok.kind hk hc z (λh' hc' hs=> ?_)
  obtain⟨oc,hoc,aok⟩:=id z
  refine h {s with heap:=h'} ⟨I.ok,I.os,I.bare,⟨λb o e n hb hx=> ?_,λb o e n hb hx=> ?_,I.base.free,λb o e hx=> ?_,I.base.tups,I.base.zy,I.base.Cv⟩,⟨m,hn.sameBut hs (Ne.symm (cne x c hc)),λj y v' e1 e2 e3=> ?_⟩,λy c' e=> ?_,I.free,I.lO,λp hp=> ?_,tracked ⟨oc,hoc,I.lO x c hc⟩ hs,by simpa using I.len⟩ ⟨c,hs,.inr hc⟩
  ·exact(hs.2 b (xD (yA (zS e) (I.ok.cab x c hfn hc)))).trans (I.base.keep b o e n hb hx)
  ·obtain⟨sl,e1⟩:=I.base.slot b o e n hb hx
   exact⟨sl,(hs.2 b (xD (yA (zS e) (I.ok.cab x c hfn hc)))).trans e1⟩
  ·obtain⟨o',e1⟩:=I.base.there b o e hx
   exact⟨o',(hs.2 b (xD (yA (zS e) (I.ok.cab x c hfn hc)))).trans e1⟩
  ·by_cases hj:j=i
   ·subst hj
    rw[hi]at e1;cases e1
    rw[zai akL]at e2
    cases e2
    exact⟨u,r,.inr ⟨.inl hk,c,hc,hc'⟩⟩
   ·rw[zah (Ne.symm hj)]at e2
    obtain⟨u',r',q⟩:=hl j y v' e1 e2 e3
    refine⟨u',r',?_⟩
    rcases q with q | ⟨k,c',e,z'⟩
    ·exact .inl q
    ·refine .inr ⟨k,c',e,z'.sameBut hs ?_⟩
     rintro rfl
     exact hj (SX hN e1 (I.ok.inj _ _ _ e hc▸hi))
  ·by_cases hcc:c'=c
   ·subst hcc;exact⟨_,hc'⟩
   ·obtain⟨w2,z2⟩:=I.cell y c' e
    exact⟨w2,z2.sameBut hs hcc⟩
  ·obtain⟨e,n,ne,nf,d⟩:=I.pin p hp
   refine⟨(hs.2 p.1 ?_).trans e,n,ne,nf,d⟩
   intro q
   rw[q,hoc]at e
   have q':oc=p.2:=xI e
   exact d w' (by rw[<-q'];exact aok)
theorem Ry{E:Value->Shared->Prop}{Q:Unit->Shared->Prop}(I:Inv X pins σ H s)(hN:X.N.Nodup)(hi:X.N[i]? = some x)(hx:Loc X.env.scope x)(r:RelV v u)
  (h:∀s',Inv X pins (σ.set i (some v)) H s'->Q .unit s') (hf:X.fn x=true\/X.env.scope.names.lookup x=some .local:=by first | exact .inl rfl | exact .inr rfl | assumption):wpAny M A (storeName X.env x u) Q E s:=
 N7 I hN hi hx r (λs' I' _=>h s' I') hf
theorem Inv.call'(I:Inv X pins σ H s)(ho:s'.os=s.os)(u:Un (frs X.stack) ch H H' s.heap s'.heap)(hok:uU X.prog X.w H' s'.heap)(hg:AllBare s'.gens)
  (hch:∀b∈ch,(b∈X.ex\/X.s₀.heap.objs.size<=b)/\b≠X.env.locals/\(∀x c,X.env.cells.lookup x=some c->c≠b)/\∀p∈X.pn++pins,p.1≠b):Inv X pins σ H' s':=by
 obtain⟨h',g',d',t',o'⟩:=s'
 have e:o'=s.os:=ho
 subst e
 exact I.call (g':=g') (t':=t') (d':=d') u hok hg hch
end
abbrev XK:=Value->Option Addr->Hp->Prop
abbrev St:=List (Option V)
abbrev VK:=V->Hp->Prop
abbrev TE:=St->Hp->VK->Prop
abbrev TT:=St->Hp->(Bool->Hp->Prop)->Prop
abbrev TA:=St->Hp->(List V->Hp->Prop)->Prop
structure Ends where
 nx:St->Hp->Prop
 rt:VK
 bk:St->Hp->Prop:=λ_ _=>False
 ct:St->Hp->Prop:=λ_ _=>False
abbrev TS:=Ends->St->Hp->Prop
def EP(X:Cx)(pins:List (Addr×Obj))(σ:St)(Q:VK)(u:Value)(s':Shared):Prop:=∃v H',Inv X pins σ H' s'/\RelV v u/\Q v H'
def TP(X:Cx)(pins:List (Addr×Obj))(σ:St)(Q:Bool->Hp->Prop)(b:Bool)(s':Shared):Prop:=∃H',Inv X pins σ H' s'/\Q b H'
def AP(X:Cx)(pins:List (Addr×Obj))(σ:St)(Q:List V->Hp->Prop)(us:List Value)(s':Shared):Prop:=∃vs H',Inv X pins σ H' s'/\Vals vs us/\Q vs H'
def SP(X:Cx)(pins:List (Addr×Obj))(D:Ends)(f:Flow)(s':Shared):Prop:=
 match f with
 | .next=>∃σ' H',Inv X pins σ' H' s'/\D.nx σ' H'
 | .brk=>∃σ' H',Inv X pins σ' H' s'/\D.bk σ' H'
 | .cont=>∃σ' H',Inv X pins σ' H' s'/\D.ct σ' H'
 | .ret u=>∃v σ' H',Inv X pins σ' H' s'/\RelV v u/\D.rt v H'
def PE(X:Cx)(e:Expr)(t:TE):Prop:=
 ∀(pins:List (Addr×Obj)) (s:Shared) (σ:St) (H:Hp) (Q:VK),Inv X pins σ H s->t σ H Q->wpAny (model X.prog X.w) X.A (eval e X.env) (EP X pins σ Q) X.xe s
def PT(X:Cx)(e:Expr)(t:TT):Prop:=
 ∀(pins:List (Addr×Obj)) (s:Shared) (σ:St) (H:Hp) (Q:Bool->Hp->Prop),Inv X pins σ H s->t σ H Q->wpAny (model X.prog X.w) X.A (isTrue e X.env (eval e X.env)) (TP X pins σ Q) X.xe s
def PW(X:Cx)(e:Expr)(t:TT):Prop:=
 ∀(whole:Sem Value) (pins:List (Addr×Obj)) (s:Shared) (σ:St) (H:Hp) (Q:Bool->Hp->Prop),Inv X pins σ H s->t σ H Q->wpAny (model X.prog X.w) X.A (isTrue e X.env whole) (TP X pins σ Q) X.xe s
theorem PW.pt(h:PW X e t):PT X e t:=h _
def PA(X:Cx)(es:List Expr)(t:TA):Prop:=
 ∀(pos:Pos) (pins:List (Addr×Obj)) (s:Shared) (σ:St) (H:Hp) (Q:List V->Hp->Prop),Inv X pins σ H s->t σ H Q->wpAny (model X.prog X.w) X.A (spliced (backTo pos (starEach es X.env))) (AP X pins σ Q) X.xe s
def PS(X:Cx)(st:Stmt)(t:TS):Prop:=
 ∀(pins:List (Addr×Obj)) (s:Shared) (σ:St) (H:Hp) (D:Ends),Inv X pins σ H s->t D σ H->wpAny (model X.prog X.w) X.A (exec st X.env) (SP X pins D) X.xe s
def Ke(X:Cx)(st:List Stmt)(t:TS):Prop:=
 ∀(pins:List (Addr×Obj)) (s:Shared) (σ:St) (H:Hp) (D:Ends),Inv X pins σ H s->t D σ H->wpAny (model X.prog X.w) X.A (execs st X.env) (SP X pins D) X.xe s
theorem fU{α:Type}{t:Sem α}{Q Q':α->Shared->Prop}{M:Model}{A:Around}{E:Value->Shared->Prop}{s:Shared}(h:wpAny M A t Q E s)(hQ:∀a s,Q a s->Q' a s):wpAny M A t Q' E s:=vE h hQ λ_ _ x=>x
section
variable{X:Cx}
def ada(i:Nat):TE:=λσ H Q=>∃v,σ[i]? = some (some v)/\Q v H
def tC(v:V):TE:=λ_ H Q=>Q v H
theorem aa0(hN:X.N[i]? = some x)(hv:Vis X.env.scope x)(hd:(x==("__debug__" : Str))=false:=by decide)(hcd:(x==("__classdict__" : Str))=false:=by decide):PE X (.Name x pos) (ada i):=by
 intro pins s σ H Q I h
 obtain⟨v,e,h⟩:=h
 obtain⟨m,hn,hl⟩:=I.loc
 obtain⟨u,r,l⟩:=hl i x v hN e hv
 have fin:EP X pins σ Q u s:=⟨v,H,I,r,h⟩
 rcases l with⟨hk,hm⟩ | ⟨hk,c,hc,hcell⟩
 ·exact wpAny_Name (wpAny_loadName_local I.ok.kind hk hn hm fin) hd
 ·rcases hk with hk | hk
  ·exact wpAny_Name (wpAny_loadName_cell I.ok.kind hk hc hcell fin) hd
  ·exact wpAny_Name (wpAny_loadName_free I.ok.kind hk hc hcell fin hcd) hd
theorem agT{i j pos}:PE X (.Constant (.int i) j pos) (tC (.int i)):=λ_ _ _ H _ I h=>wpAny_Constant_int ⟨.int i,H,I.tok _,⟨_,rfl⟩,h⟩
theorem aj2{b j pos}:PE X (.Constant (.bool b) j pos) (tC (.bl b)):=λ_ _ _ H _ I h=>Constant_bool ⟨.bl b,H,I,rfl,h⟩
theorem agR{j pos}:PE X (.Constant .none j pos) (tC .non):=λ_ _ _ H _ I h=>Constant_none ⟨.non,H,I,rfl,h⟩
theorem agO{x j pos}:PE X (.Constant (.str x) j pos) (tC (.str x)):=λ_ _ _ H _ I h=>Calls.Constant_str ⟨.str x,H,I.tok _,⟨_,rfl⟩,h⟩
def Gl(X:Cx)(x:Str):Prop:=X.env.kindOf x=some .globalImplicit
theorem Gy{E:Value->Shared->Prop}{Q:Value->Shared->Prop}(I:Inv X pins σ H s)(hg:Gl X x)(hm:X.mg x=some u)(h:Q u s)
  (hd:(x==("__debug__" : Str))=false:=by decide):wpAny (model X.prog X.w) X.A (eval (.Name x pos) X.env) Q E s:=
 Calls.Name_function_global I.ok.kind hg (Calls.loadGlobal_global (by rw[I.ok.glob];exact I.mod.glob.keeps I.bk) hm h) hd
theorem HN{E:Value->Shared->Prop}{Q:Value->Shared->Prop}(I:Inv X pins σ H s)(hg:Gl X x)(hm:X.mg x=none)(hv:bootBuiltins x=some u)(h:Q u s)
  (hn:x≠ "__name__" := by decide) (hd:(x==("__debug__" : Str))=false:=by decide):wpAny (model X.prog X.w) X.A (eval (.Name x pos) X.env) Q E s:=by
 obtain⟨mb,h1,h2⟩:=I.mod.blt
 exact Calls.Name_function_global I.ok.kind hg (Calls.loadGlobal_builtin (by rw[I.ok.glob];exact I.mod.glob.keeps I.bk) hm (by rw[I.ok.blt];exact h1.keeps I.bk) ((h2 x hn).trans hv) h) hd
theorem Qc(hg:Gl X x)(hm:X.mg x=some u)(r:RelV v u)(hd:(x==("__debug__" : Str))=false:=by decide):PE X (.Name x pos) (tC v):=
 λ_ _ _ H _ I h=>Gy I hg hm ⟨v,H,I,r,h⟩ hd
variable{a b:Expr}{ta tb:TE}{pos:Pos}
def tB(t:TE):TT:=λσ H Q=>t σ H λx H1=>∃c,x= .bl c/\Q c H1
theorem agF(h:PE X e t)(he:∀whole,isTrue e X.env whole=(do let v <-whole;standAt e.pos;holding [v] (truthy v)):=by intro _;rfl):PT X e (tB t):=by
 intro pins s σ H Q I hw
 refine isTrue_plain (fU (h pins s σ H _ I hw) ?_) (he _)
 rintro v s1 ⟨x,H1,I1,r1,q1⟩
 obtain⟨d,rfl,q⟩:=q1
 cases r1
 exact wpAny_truthy_bool ⟨H1,I1,q⟩
variable{tA tB':TT}{rest:List Expr}
def anc(t u:TT):TT:=λσ H Q=>t σ H λc H1=>if c=true then u σ H1 Q else Q false H1
def tOr(t u:TT):TT:=λσ H Q=>t σ H λc H1=>if c=true then Q true H1 else u σ H1 Q
def am6(t:TT):TT:=λσ H Q=>t σ H λc H1=>Q (!c) H1
theorem adF(ha:PT X a tA):PW X (.BoolOp .And [a] pos) tA:=by
 intro wh pins s σ H Q I h
 refine isTrue_and (fU (ha pins s σ H Q I h) λc s1 e=> ?_)
 cases c with
 | true=>exact isTrue_and_nil e
 | false=>exact e
theorem agD(ha:PT X a tA):PW X (.BoolOp .Or [a] pos) tA:=by
 intro wh pins s σ H Q I h
 refine isTrue_or (fU (ha pins s σ H Q I h) λc s1 e=> ?_)
 cases c with
 | false=>exact isTrue_or_nil e
 | true=>exact e
theorem agE(ha:PT X a tA)(hb:PW X (.BoolOp .And (b::rest) pos) tB'):PW X (.BoolOp .And (a::b::rest) pos) (anc tA tB'):=by
 intro wh pins s σ H Q I h
 refine isTrue_and (fU (ha pins s σ H _ I h) ?_)
 rintro c s1 ⟨H1,I1,q1⟩
 cases c with
 | true=>exact hb wh pins s1 σ H1 Q I1 q1
 | false=>exact⟨H1,I1,q1⟩
theorem ajU(ha:PT X a tA)(hb:PW X (.BoolOp .Or (b::rest) pos) tB'):PW X (.BoolOp .Or (a::b::rest) pos) (tOr tA tB'):=by
 intro wh pins s σ H Q I h
 refine isTrue_or (fU (ha pins s σ H _ I h) ?_)
 rintro c s1 ⟨H1,I1,q1⟩
 cases c with
 | true=>exact⟨H1,I1,q1⟩
 | false=>exact hb wh pins s1 σ H1 Q I1 q1
theorem agG(ha:PT X a tA):PT X (.UnaryOp .Not a pos) (am6 tA):=by
 intro pins s σ H Q I h
 exact isTrue_not (ha pins s σ H (λc H1=>Q (!c) H1) I h)
def ajj(ta tb:TE):TE:=λσ H Q=>ta σ H λx H1=>∃c,x= .bl c/\if c=true then tb σ H1 Q else Q (.bl false) H1
def am5(ta tb:TE):TE:=λσ H Q=>ta σ H λx H1=>∃c,x= .bl c/\if c=true then Q (.bl true) H1 else tb σ H1 Q
def ajb(ta:TE):TE:=λσ H Q=>ta σ H λx H1=>∃c,x= .bl c/\Q (.bl (!c)) H1
theorem agP{op}(h:PE X a t):PE X (.BoolOp op [a] pos) t:=λpins s σ H Q I hw=>BoolOp_one (h pins s σ H Q I hw)
theorem agV(ha:PE X a ta)(hb:PE X (.BoolOp .And (b::rest) pos) tb):PE X (.BoolOp .And (a::b::rest) pos) (ajj ta tb):=by
 intro pins s σ H Q I h
 refine BoolOp_and (fU (ha pins s σ H _ I h) ?_)
 rintro v s1 ⟨x,H1,I1,r1,q1⟩
 obtain⟨c,rfl,q1⟩:=q1
 cases r1
 refine wpAny_truthy_bool ?_
 cases c with
 | true=>exact hb pins s1 σ H1 Q I1 q1
 | false=>exact⟨.bl false,H1,I1,rfl,q1⟩
theorem ajY(ha:PE X a ta)(hb:PE X (.BoolOp .Or (b::rest) pos) tb):PE X (.BoolOp .Or (a::b::rest) pos) (am5 ta tb):=by
 intro pins s σ H Q I h
 refine BoolOp_or (fU (ha pins s σ H _ I h) ?_)
 rintro v s1 ⟨x,H1,I1,r1,q1⟩
 obtain⟨c,rfl,q1⟩:=q1
 cases r1
 refine wpAny_truthy_bool ?_
 cases c with
 | false=>exact hb pins s1 σ H1 Q I1 q1
 | true=>exact⟨.bl true,H1,I1,rfl,q1⟩
theorem agQ(ha:PE X a ta):PE X (.UnaryOp .Not a pos) (ajb ta):=by
 intro pins s σ H Q I h
 refine UnaryOp_ (fU (ha pins s σ H _ I h) ?_)
 rintro v s1 ⟨x,H1,I1,r1,q1⟩
 obtain⟨c,rfl,q1⟩:=q1
 cases r1
 exact not_of (wpAny_truthy_bool ⟨.bl (!c),H1,I1,rfl,q1⟩)
def tIf(t:TT)(ta tb:TE):TE:=λσ H Q=>t σ H λc H1=>if c=true then ta σ H1 Q else tb σ H1 Q
theorem aa3(hc:PT X c tA)(ha:PE X a ta)(hb:PE X b tb):PE X (.IfExp c a b pos) (tIf tA ta tb):=by
 intro pins s σ H Q I h
 refine wpAny_IfExp (fU (hc pins s σ H _ I h) ?_)
 rintro d s1 ⟨H1,I1,q1⟩
 cases d with
 | true=>exact ha pins s1 σ H1 Q I1 q1
 | false=>exact hb pins s1 σ H1 Q I1 q1
end
def rZ(K:Frag)(H:Hp)(a:Addr)(xs:List V):Prop:=
 Rd H a (.lst xs)\/
  ∃(o:Obj) (its:Array Value) (n:Nat),K.lookup a=some o/\o.cls= .type "list" /\ o.dict=none/\o.data= .seq its n/\its.size<=sizeLine/\Vals xs its.toList
def nu(K:Frag)(H:Hp)(a:Addr)(xs:List V):Prop:=
 Rd H a (.tup xs)\/
  ∃(o:Obj) (its:Array Value) (n:Nat),K.lookup a=some o/\o.cls= .type "tuple" /\ o.data= .seq its n/\its.size<=sizeLine/\Vals xs its.toList
noncomputable def apg:Value->Option V
 | .none=>some .non
 | .bool b=>some (.bl b)
 | .int i _=>some (.int i)
 | .str x _=>some (.str x)
 | .bytes b _=>some (.byt b)
 | .float b _=>some (.flt b)
 | .ref a=>some (.ref a)
 | .type n=>some (.ty n)
 | _=>none
theorem RelV.abs(r:RelV x u):apg u=some x:=by
 cases x with
 | non=>cases r;rfl
 | bl _=>cases r;rfl
 | int _=>obtain⟨t,rfl⟩:=r;rfl
 | str _=>obtain⟨t,rfl⟩:=r;rfl
 | byt _=>obtain⟨t,rfl⟩:=r;rfl
 | flt _=>obtain⟨t,rfl⟩:=r;rfl
 | ref _=>cases r;rfl
 | ty _=>cases r;rfl
theorem RelV.inj(r:RelV x u)(q:RelV y u):x=y:=xI (r.abs.symm.trans q.abs)
theorem Vals.inj:∀{xs ys:List V} {us:List Value},Vals xs us->Vals ys us->xs=ys
 | _,_,_,.nil,.nil=>rfl
 | _,_,_,.cons r t,.cons r' t'=>by rw[r.inj r',Vals.inj t t']
section
variable{X:Cx}{pins:List (Addr×Obj)}{σ:St}{H:Hp}{s:Shared}{a:Addr}{xs ys:List V}
theorem rZ.of{K:Frag}(h:H a=some (.lst xs)):rZ K H a xs:= .inl (.inl h)
theorem nu.of{K:Frag}(h:H a=some (.tup xs)):nu K H a xs:= .inl (.inl h)
theorem Inv.list(I:Inv X pins σ H s)(h:rZ X.K H a xs):∃its:List Value,Vals xs its/\PlainL s.heap a its.toArray/\xs.length<=sizeLine:=by
 rcases h with h | ⟨o,its,n,hk,hc,hd,hs,hz,r⟩
 ·obtain⟨z,its,n,r,e⟩:=h.ok I.hok
  exact⟨its,r,⟨_,n,e,rfl,rfl,rfl⟩,z⟩
 ·refine⟨its.toList,r,⟨o,n,I.Jb a o hk,hc,hd,by simpa using hs⟩,?_⟩
  have e:=r.length
  simp only[Array.length_toList]at e
  omega
theorem Inv.tuple(I:Inv X pins σ H s)(h:nu X.K H a xs):∃its:List Value,Vals xs its/\IsTup s.heap a its.toArray/\xs.length<=sizeLine:=by
 rcases h with h | ⟨o,its,n,hk,hc,hs,hz,r⟩
 ·obtain⟨z,its,r,p⟩:=h.ok I.hok
  exact⟨its,r,p,z⟩
 ·refine⟨its.toList,r,⟨o,I.Jb a o hk,hc,n,by simpa using hs⟩,?_⟩
  have e:=r.length
  simp only[Array.length_toList]at e
  omega
theorem Inv.Ls(I:Inv X pins σ H s)(h:rZ X.K H a xs)(h':rZ X.K H a ys):xs=ys:=by
 obtain⟨its,r,⟨o,n,e,_,_,d⟩,_⟩:=I.list h
 obtain⟨its',r',⟨o',n',e',_,_,d'⟩,_⟩:=I.list h'
 rw[e]at e';cases e'
 rw[d]at d'
 injection d' with d1 _
 have:its=its':=by simpa using congrArg Array.toList d1
 subst this
 exact r.inj r'
theorem Inv.Hi(I:Inv X pins σ H s)(h:nu X.K H a xs)(h':nu X.K H a ys):xs=ys:=by
 obtain⟨its,r,⟨o,e,_,n,d⟩,_⟩:=I.tuple h
 obtain⟨its',r',⟨o',e',_,n',d'⟩,_⟩:=I.tuple h'
 rw[e]at e';cases e'
 rw[d]at d'
 injection d' with d1 _
 have:its=its':=by simpa using congrArg Array.toList d1
 subst this
 exact r.inj r'
end
abbrev Cx.wish(X:Cx)(E:Value->Shared->Prop):Cx:={X with xe:=E}
abbrev Cx.nox(X:Cx):Cx:=X.wish λ_ _=>False
theorem Cx.Ok.wish{X:Cx}(ok:X.Ok)(E:Value->Shared->Prop):(X.wish E).Ok:=
 ⟨ok.mod,ok.kind,ok.glob,ok.blt,ok.above,ok.inj,ok.has,ok.cab,ok.hd,ok.frames,ok.stk,ok.exf,ok.bs,ok.Zk,ok.SQ,ok.TJ,ok.CN,ok.frf⟩
theorem Cx.Ok.oU{X:Cx}{E:Value->Shared->Prop}(ok:(X.wish E).Ok):X.Ok:=
 ⟨ok.mod,ok.kind,ok.glob,ok.blt,ok.above,ok.inj,ok.has,ok.cab,ok.hd,ok.frames,ok.stk,ok.exf,ok.bs,ok.Zk,ok.SQ,ok.TJ,ok.CN,ok.frf⟩
section
variable{X:Cx}{pins:List (Addr×Obj)}{σ:St}{H:Hp}{s:Shared}{E:Value->Shared->Prop}
theorem Inv.wish(I:Inv X pins σ H s)(E:Value->Shared->Prop):Inv (X.wish E) pins σ H s:=⟨I.ok.wish E,I.os,I.bare,I.base,I.loc,I.cell,I.free,I.lO,I.pin,I.hok,I.len⟩
theorem Inv.oU(I:Inv (X.wish E) pins σ H s):Inv X pins σ H s:=⟨I.ok.oU,I.os,I.bare,I.base,I.loc,I.cell,I.free,I.lO,I.pin,I.hok,I.len⟩
theorem SP.oU(h:SP (X.wish E) pins D f s'):SP X pins D f s':=by
 cases f with
 | next=>obtain⟨σ',H',I,q⟩:=h;exact⟨σ',H',I.oU,q⟩
 | brk=>obtain⟨σ',H',I,q⟩:=h;exact⟨σ',H',I.oU,q⟩
 | cont=>obtain⟨σ',H',I,q⟩:=h;exact⟨σ',H',I.oU,q⟩
 | ret u=>obtain⟨v,σ',H',I,r,q⟩:=h;exact⟨v,σ',H',I.oU,r,q⟩
theorem Ke.nox{st:List Stmt}(h:Ke X.nox st t):Ke X st t:=λpins s σ H D I hw=>
 vE (h pins s σ H D (I.wish _) hw) (λ_ _ q=>q.oU) λ_ _ z=>False.elim z
end
section
variable{X:Cx}{st:Stmt}{rest:List Stmt}{t u:TS}{e:Expr}{te:TE}{pos:Pos}
def afl:TS:=λD σ H=>D.nx σ H
def am3(t u:TS):TS:=λD σ H=>t {D with nx:=u D} σ H
theorem adK:Ke X [] afl:=λ_ _ σ H _ I h=>wpAny_execs_nil ⟨σ,H,I,h⟩
theorem aaR(h1:PS X st t)(h2:Ke X rest u):Ke X (st::rest) (am3 t u):=by
 intro pins s σ H D I h
 refine wpAny_execs_cons (fU (h1 pins s σ H {D with nx:=u D} I h) λf s1 q=> ?_)
 cases f with
 | next=>
  obtain⟨σ',H',I',q⟩:=q
  exact h2 pins s1 σ' H' D I' q
 | ret v=>exact q
 | brk=>exact q
 | cont=>exact q
theorem WX(h1:PS X st t):Ke X [st] t:=by
 intro pins s σ H D I h
 refine wpAny_execs_cons (fU (h1 pins s σ H D I h) λf s1 q=> ?_)
 cases f with
 | next=>exact wpAny_execs_nil q
 | ret v=>exact q
 | brk=>exact q
 | cont=>exact q
def ajg:TS:=λD σ H=>D.ct σ H
theorem Sh:PS X (.Continue pos) ajg:=λ_ _ σ H _ I h=>wpAny_Continue ⟨σ,H,I,h⟩
theorem Inv.quiet(I:Inv X pins σ H s):interactive X.env=false:=by simp[interactive,I.ok.kind]
def aje(te:TE):TS:=λD σ H=>te σ H λ_ H1=>D.nx σ H1
theorem adP(he:PE X e te)(hs:swapsWith e none pos.line X.env=pure false:=by rfl):PS X (.Expr e pos) (aje te):=by
 intro pins s σ H D I h
 exact wpAny_Expr_any (fU (he pins s σ H _ I h) λv s1 ⟨x,H1,I1,r1,q1⟩=>⟨σ,H1,I1,q1⟩) I.quiet hs
def am4(te:TE):TS:=λD σ H=>te σ H D.rt
theorem agI(he:PE X e te):PS X (.Return (some e) pos) (am4 te):=by
 intro pins s σ H D I h
 exact wpAny_Return_some (fU (he pins s σ H _ I h) λv s1 ⟨x,H1,I1,r1,q1⟩=>⟨x,σ,H1,I1,r1,q1⟩)
def ai_:TS:=λD _ H=>D.rt .non H
theorem adN:PS X (.Return none pos) ai_:=λ_ _ σ H _ I h=>wpAny_Return_none ⟨.non,σ,H,I,rfl,h⟩
def am8(c:TT)(t u:TS):TS:=λD σ H=>c σ H λb H1=>if b=true then t D σ H1 else u D σ H1
theorem ajV(hc:PT X c tc)(ha:Ke X a t)(hb:Ke X b u):PS X (.If c a b pos) (am8 tc t u):=by
 intro pins s σ H D I h
 refine wpAny_If (fU (hc pins s σ H _ I h) ?_)
 rintro d s1 ⟨H1,I1,q1⟩
 cases d with
 | true=>exact ha pins s1 σ H1 D I1 q1
 | false=>exact hb pins s1 σ H1 D I1 q1
end
abbrev TG:=V->St->Hp->(St->Hp->Prop)->Prop
abbrev TGs:=List V->St->Hp->(St->Hp->Prop)->Prop
def PG(X:Cx)(target:Expr)(t:TG):Prop:=
 ∀(pins:List (Addr×Obj)) (s:Shared) (σ:St) (H:Hp) (v:V) (u:Value) (Q:St->Hp->Prop),Inv X pins σ H s->RelV v u->t v σ H Q->
  wpAny (model X.prog X.w) X.A (assign target X.env u) (λ_ s'=>∃σ' H',Inv X pins σ' H' s'/\Q σ' H') X.xe s
def Zy(X:Cx)(ts:List Expr)(t:TGs):Prop:=
 ∀(pins:List (Addr×Obj)) (s:Shared) (σ:St) (H:Hp) (vs:List V) (us:List Value) (Q:St->Hp->Prop),Inv X pins σ H s->Vals vs us->t vs σ H Q->
  wpAny (model X.prog X.w) X.A (assignInOrder ((assignEach ts X.env).map (·.2)) us) (λ_ s'=>∃σ' H',Inv X pins σ' H' s'/\Q σ' H') X.xe s
section
variable{X:Cx}{pos:Pos}
def TF(i:Nat):TG:=λv σ H Q=>Q (σ.set i (some v)) H
theorem Qa(hN:X.N.Nodup)(hi:X.N[i]? = some x)(hx:Loc X.env.scope x)(hf:X.fn x=true\/X.env.scope.names.lookup x=some .local:=by first | exact .inl rfl | exact .inr rfl | assumption):PG X (.Name x pos) (TF i):=by
 intro pins s σ H v u Q I r h
 exact wpAny_assign_Name (Ry I hN hi hx r (λs' I'=>⟨_,H,I',h⟩) hf)
def aoF:TGs:=λvs σ H Q=>vs=[]/\Q σ H
def akV(t:TG)(u:TGs):TGs:=λvs σ H Q=>∃v r,vs=v::r/\t v σ H λσ' H'=>u r σ' H' Q
theorem WY:Zy X [] aoF:=by
 intro pins s σ H vs us Q I r h
 obtain⟨e,h⟩:=h
 subst e
 cases r
 exact assignInOrder_nil ⟨σ,H,I,h⟩
theorem Su(h1:PG X e t)(h2:Zy X es u)
  (hs:(assignEach (e::es) X.env).map (·.2)=assign e X.env::(assignEach es X.env).map (·.2):=by rfl):Zy X (e::es) (akV t u):=by
 intro pins s σ H vs us Q I r h
 obtain⟨v,vr,e1,h⟩:=h
 subst e1
 cases r with
 | cons r rr=>
  rw[hs]
  refine assignInOrder_cons (fU (h1 pins s σ H _ _ _ I r h) ?_)
  rintro _ s1 ⟨σ1,H1,I1,q1⟩
  exact h2 pins s1 σ1 H1 _ _ Q I1 rr q1
def aoE(K:Frag)(n:Nat)(t:TGs):TG:=λv σ H Q=>∃a xs,v= .ref a/\nu K H a xs/\xs.length=n/\t xs σ H Q
theorem aaZ(hc:X.calm=true)(h:Zy X es t)
  (hn:(assignEach es X.env).length=n:=by rfl) (hst:(assignEach es X.env).findIdx? (·.1)=none:=by rfl):PG X (.Tuple es k pos) (aoE X.K n t):=by
 intro pins s σ H v u Q I r hw
 obtain⟨a,xs,e1,hq,hl,hw⟩:=hw
 subst e1
 cases r
 obtain⟨its,rv,ht,hz⟩:=I.tuple hq
 refine assign_Tuple_tuple (I.ok.hd hc) ht (by simp[hn,<-hl,rv.length]) hst λh' hx=> ?_
 have I1:Inv X pins σ H {s with heap:=h'}:=I.kept (t':=s.toks) λb o e=>hx b o (xD (zS e)) e
 exact h pins _ σ H xs _ Q I1 (by simpa using rv) hw
def ade(te:TE)(g:TG):TS:=λD σ H=>te σ H λx H1=>g x σ H1 D.nx
theorem agL(he:PE X e te)(hg:PG X tg g)(hs:swapsWithSole [tg] e pos.line X.env=pure false:=by rfl)(hw:swappedStores [tg] e X.env=pure none:=by rfl)
  (h1:(assignEach [tg] X.env).map (·.2)=[assign tg X.env]:=by rfl):PS X (.Assign [tg] e pos) (ade te g):=by
 intro pins s σ H D I h
 refine wpAny_Assign_stores (fU (he pins s σ H _ I h) ?_) hs hw
 rintro v s1 ⟨x,H1,I1,r1,q1⟩
 rw[h1]
 exact fU (hg pins s1 σ H1 x v _ I1 r1 q1) λ_ s2 q=>q
theorem agH(hN:X.N.Nodup)(hi:X.N[i]? = some x)(hx:Loc X.env.scope x)(he:PE X e te)(hs:swapsWith e (some (.Name x pos')) pos.line X.env=pure false:=by rfl)(hf:X.fn x=true\/X.env.scope.names.lookup x=some .local:=by first | exact .inl rfl | exact .inr rfl | assumption):
  PS X (.Assign [.Name x pos'] e pos) (ade te (TF i)):=by
 intro pins s σ H D I h
 refine wpAny_Assign_Name (fU (he pins s σ H _ I h) ?_) hs
 rintro v s1 ⟨y,H1,I1,r1,q1⟩
 exact Ry I1 hN hi hx r1 (λs2 I2=>⟨_,H1,I2,q1⟩) hf
def af8(c:TT)(tb:TS):TS:=λD σ H=>∃W:Nat->St->Hp->Prop,(∃m,W m σ H)/\∀m σ H,W m σ H->
 c σ H λb H1=>if b=true then ∃N:St->Hp->Prop,(∀σ' H',N σ' H'->∃m',m'<m/\W m' σ' H')/\tb {D with nx:=N,ct:=N,bk:=D.nx} σ H1 else D.nx σ H1
theorem aaS(hp:PassesOwn (model X.prog X.w) X.A X.env X.xe)(hc:PT X c tc)(hb:Ke X body tb):PS X (.While c body [] pos) (af8 tc tb):=by
 intro pins s σ H D I h
 obtain⟨W,⟨m0,w0⟩,turn⟩:=h
 refine wpAny_While (codeAny_whileLoop (λn s'=>∃σ' H',Inv X pins σ' H' s'/\W n σ' H') ?_ m0 ⟨σ,H,I,w0⟩)
 rintro n s1 ⟨σ1,H1,I1,w1⟩
 refine wpAny_passesOwn hp (fU (hc pins s1 σ1 H1 _ I1 (turn n σ1 H1 w1)) ?_)
 rintro b s2 ⟨H2,I2,q2⟩
 cases b with
 | true=>
  obtain⟨N,hN,q2⟩:=q2
  rw[if_pos rfl]
  refine wpAny_passesOwn hp (fU (hb pins s2 σ1 H2 _ I2 q2) λf s3 q3=> ?_)
  cases f with
  | next=>
   obtain⟨σ3,H3,I3,n3⟩:=q3
   obtain⟨m',hm,w3⟩:=hN σ3 H3 n3
   exact⟨m',hm,σ3,H3,I3,w3⟩
  | cont=>
   obtain⟨σ3,H3,I3,n3⟩:=q3
   obtain⟨m',hm,w3⟩:=hN σ3 H3 n3
   exact⟨m',hm,σ3,H3,I3,w3⟩
  | brk=>exact q3
  | ret v=>exact q3
 | false=>
  rw[if_neg xA]
  exact wpAny_execs_nil ⟨σ1,H2,I2,q2⟩
end
structure It where
 go:Nat->Hp->Prop
 Yc:Nat->Hp->V->Hp->Prop
 stop:Nat->Hp->Prop
def CV(X:Cx)(pins:List (Addr×Obj))(H:Hp)(b:Addr):Prop:=
 H b=none/\b≠X.env.locals/\b∉X.fs/\(b∈X.ex\/X.s₀.heap.objs.size<=b)/\(∀x c,X.env.cells.lookup x=some c->c≠b)/\∀p∈X.pn++pins,p.1≠b
theorem Inv.Vz(I:Inv X pins σ H s)(hb:s.heap.objs.size<=b)(hn:H' b=none):CV X pins H' b:=by
 refine⟨hn,xS (yA I.lt hb),I.anK hb,.inr (yY I.sz hb),λx c e z=> ?_,λp hp z=> ?_⟩
 ·obtain⟨v,q⟩:=I.cell x c e
  exact absurd (yA q.lt (by rw[z];exact hb)) (wS _)
 ·exact absurd (yA (zS (I.pin p hp).1) (by rw[z];exact hb)) (wS _)
structure Turn(P:Program)(w:World)(K:Frag)(tg:Expr)(J:It)(fp:List Addr)(it:Addr)(tn:Nat->Heap->Prop):Prop where
 mem:it∈fp
 obj:∀i h,tn i h->∀b∈fp,∃o,h.get? b=some o/\∀v,o.data≠ .cell v
 keep:∀i h h',tn i h->(∀b∈fp,∀o,h.get? b=some o->h'.get? b=some o)->tn i h'
 item:∀(X:Cx),X.prog=P->X.w=w->X.K=K->X.calm=true->∀(i:Nat) (pins:List (Addr×Obj)) (s:Shared) (σ:St) (H:Hp) (E:Value->Shared->Prop),Inv X pins σ H s->(∀b∈fp,CV X pins H b)->tn i s.heap->J.go i H->
  wpAny (model P w) X.A (pyNext (.ref it)) (λr s1=>∃u,r=some u/\
   wpAny (model P w) X.A (letOwnedTupleGo tg (.ref it) u) (λ_ s2=>∃x H',Inv X pins σ H' s2/\RelV x u/\J.Yc i H x H'/\tn (i+1) s2.heap/\∀b∈fp,H' b=none) E s1) E s
 done:∀(X:Cx),X.prog=P->X.w=w->X.K=K->X.calm=true->∀(i:Nat) (pins:List (Addr×Obj)) (s:Shared) (σ:St) (H:Hp) (E:Value->Shared->Prop),Inv X pins σ H s->(∀b∈fp,CV X pins H b)->tn i s.heap->J.stop i H->
  wpAny (model P w) X.A (pyNext (.ref it)) (λr s1=>r=none/\Inv X pins σ H s1) E s
 self:∀(A:Around) (i:Nat) (s:Shared) (Q:Value->Shared->Prop) (E:Value->Shared->Prop),tn i s.heap->Q (.ref it) s->wpAny (model P w) A (pyIter (.ref it)) Q E s
abbrev TI:=St->Hp->(It->Hp->Prop)->Prop
def PIE(X:Cx)(pins:List (Addr×Obj))(σ:St)(tg:Expr)(R:It->Hp->Prop)(itv:Value)(s2:Shared):Prop:=
 ∃(it:Addr) (fp:List Addr) (tn:Nat->Heap->Prop) (J:It) (H':Hp),itv= .ref it/\Inv X pins σ H' s2/\Turn X.prog X.w X.K tg J fp it tn/\tn 0 s2.heap/\(∀b∈fp,CV X pins H' b)/\R J H'
def PI(X:Cx)(tg iter:Expr)(wi:TI):Prop:=
 ∀(pins:List (Addr×Obj)) (s:Shared) (σ:St) (H:Hp) (R:It->Hp->Prop),Inv X pins σ H s->wi σ H R->
  wpAny (model X.prog X.w) X.A (eval iter X.env) (λv s1=>wpAny (model X.prog X.w) X.A (pyIter v) (PIE X pins σ tg R) X.xe s1) X.xe s
theorem ab3{E:Value->Shared->Prop}{Q:Unit->Shared->Prop}(ho:s.heap.get? it=some o)(hc:o.cls= .type n)(hd:o.data= .fields vs)
  (hn:["enumerate","zip","dict_itemiterator","dict_reverseitemiterator","odict_iterator","itertools.zip_longest","itertools.pairwise"].contains n=false) (hQ:Q .unit s):wpAny M A (letOwnedTupleGo tg (.ref it) u) Q E s:=by
 unfold letOwnedTupleGo
 cases tg<;>first
  | exact zI hQ
  | (cases u<;>first
    | exact zI hQ
    | (refine zC (wpAny_load ho ?_)
       rw[hc,hd]
       show wpAny M A (if(["enumerate","zip","dict_itemiterator","dict_reverseitemiterator","odict_iterator","itertools.zip_longest","itertools.pairwise"].contains n&&vs[0]? == some (rawInt _))=true then _ else _) Q E s
       rw[if_neg (by intro h;rw[hn,Bool.false_and]at h;cases h)]
       exact zI hQ))
def Itl(K:Frag)(a:Addr):It:=
 ⟨λi H=>∃xs x,rZ K H a xs/\xs[i]? = some x,λi H x H'=>H'=H/\∀xs,rZ K H a xs->xs[i]? = some x,λi H=>∃xs,rZ K H a xs/\xs.length<=i⟩
def Itt(K:Frag)(a:Addr):It:=
 ⟨λi H=>∃xs x,nu K H a xs/\xs[i]? = some x,λi H x H'=>H'=H/\∀xs,nu K H a xs->xs[i]? = some x,λi H=>∃xs,nu K H a xs/\xs.length<=i⟩
def Itr(lo:Int)(n:Nat):It:=⟨λi _=>i<n,λi H x H'=>H'=H/\x= .int (lo+i),λi _=>n<=i⟩
theorem Ye{P:Program}{w:World}{K:Frag}{tg:Expr}(a it:Addr):Turn P w K tg (Itl K a) [it] it (λi h=>h.IsListIter it a i) where
 mem:=by simp
 obj:=λi h st b hb=>by
  have e:b=it:=by simpa using hb
  subst e
  obtain⟨o,e,c,d⟩:=st
  exact⟨o,e,λv z=>by rw[d]at z;cases z⟩
 keep:=λi h h' st k=>st.at λo e=>k it (by simp) o e
 item:=by
  intro X hP hw hK hc i pins s σ H E I hf st hg
  subst hP hw hK
  obtain⟨xs,x,hq,hx⟩:=hg
  obtain⟨its,rv,p,hz⟩:=I.list hq
  obtain⟨u,hu,ru⟩:=rv.get hx
  obtain⟨f0,f1,f2,f3,f4,f5⟩:=hf it (by simp)
  refine wpAny_pyNext_list_item st p.isList (x:=u) (by simpa using hu) λh' st' sb=> ?_
  have I1:Inv X pins σ H {s with heap:=h'}:=I.turned (t':=s.toks) (λb o hb e=>(sb.2 b hb).trans e) f0 f1 f3 f4 f5
  obtain⟨o,e,c,d⟩:=id st'
  exact⟨u,rfl,ab3 (s:={s with heap:=h'}) e c d (by decide) ⟨x,H,I1,ru,⟨rfl,λys hy=>by rw[I.Ls hy hq];exact hx⟩,st',λb hb=>(hf b hb).1⟩⟩
 done:=by
  intro X hP hw hK hc i pins s σ H E I hf st hg
  subst hP hw hK
  obtain⟨xs,hq,hx⟩:=hg
  obtain⟨its,rv,p,hz⟩:=I.list hq
  obtain⟨f0,f1,f2,f3,f4,f5⟩:=hf it (by simp)
  have hl:=rv.length
  exact wpAny_pyNext_list_end (I.ok.hd hc) st p.isList (by simp;omega) λh' eb=>⟨rfl,I.turned (t':=s.toks) (λb o hb e=>eb b o hb e) f0 f1 f3 f4 f5⟩
 self:=λ_ _ _ _ _ st h=>wpAny_pyIter_listiter st h
theorem Uw{P:Program}{w:World}{K:Frag}{tg:Expr}(a it:Addr):Turn P w K tg (Itt K a) [it] it (λi h=>h.IsTupleIter it a i) where
 mem:=by simp
 obj:=λi h st b hb=>by
  have e:b=it:=by simpa using hb
  subst e
  obtain⟨o,e,c,d⟩:=st
  exact⟨o,e,λv z=>by rw[d]at z;cases z⟩
 keep:=λi h h' st k=>st.at λo e=>k it (by simp) o e
 item:=by
  intro X hP hw hK hc i pins s σ H E I hf st hg
  subst hP hw hK
  obtain⟨xs,x,hq,hx⟩:=hg
  obtain⟨its,rv,p,hz⟩:=I.tuple hq
  obtain⟨u,hu,ru⟩:=rv.get hx
  obtain⟨f0,f1,f2,f3,f4,f5⟩:=hf it (by simp)
  refine wpAny_pyNext_tuple_item st (show s.heap.IsTuple a its.toArray from p) (x:=u) (by simpa using hu) λh' st' sb=> ?_
  have I1:Inv X pins σ H {s with heap:=h'}:=I.turned (t':=s.toks) (λb o hb e=>(sb.2 b hb).trans e) f0 f1 f3 f4 f5
  obtain⟨o,e,c,d⟩:=id st'
  exact⟨u,rfl,ab3 (s:={s with heap:=h'}) e c d (by decide) ⟨x,H,I1,ru,⟨rfl,λys hy=>by rw[I.Hi hy hq];exact hx⟩,st',λb hb=>(hf b hb).1⟩⟩
 done:=by
  intro X hP hw hK hc i pins s σ H E I hf st hg
  subst hP hw hK
  obtain⟨xs,hq,hx⟩:=hg
  obtain⟨its,rv,p,hz⟩:=I.tuple hq
  obtain⟨f0,f1,f2,f3,f4,f5⟩:=hf it (by simp)
  have hl:=rv.length
  exact wpAny_pyNext_tuple_end (I.ok.hd hc) st (show s.heap.IsTuple a its.toArray from p) (by simp;omega) λh' eb=>⟨rfl,I.turned (t':=s.toks) (λb o hb e=>eb b o hb e) f0 f1 f3 f4 f5⟩
 self:=λ_ _ _ _ _ st h=>wpAny_pyIter_tupleiter st h
theorem Ux{P:Program}{w:World}{K:Frag}{tg:Expr}(it:Addr)(lo:Int)(n:Nat):Turn P w K tg (Itr lo n) [it] it (λi h=>IsRangeIter h it (lo+(i:Nat)*1) ((n:Int) - (i:Nat)) 1) where
 mem:=by simp
 obj:=λi h st b hb=>by
  have e:b=it:=by simpa using hb
  subst e
  exact⟨_,st,λv z=>by
   have z':Data.fields _=Data.cell v:=z
   cases z'⟩
 keep:=λi h h' st k=>k it (by simp) _ st
 item:=by
  intro X hP hw hK hc i pins s σ H E I hf st hg
  subst hP hw hK
  obtain⟨f0,f1,f2,f3,f4,f5⟩:=hf it (by simp)
  have W:=Walks.range (prog:=X.prog) (w:=X.w) (I.ok.hd hc) it lo 1 n
  refine W.item i s _ _ hg st λv h' tk hv st' kk=> ?_
  obtain⟨t,rfl⟩:=hv
  have I1:Inv X pins σ H {s with heap:=h',toks:=tk}:=I.turned (λb o hb e=>kk b o (by simpa using hb) e) f0 f1 f3 f4 f5
  refine⟨_,rfl,ab3 (s:={s with heap:=h',toks:=tk}) (n:= "range_iterator") st' rfl rfl (by decide) ⟨.int (lo+i),H,I1,⟨t,?_⟩,⟨rfl,rfl⟩,st',λb hb=>(hf b hb).1⟩⟩
  rw[Int.mul_one]
 done:=by
  intro X hP hw hK hc i pins s σ H E I hf st hg
  subst hP hw hK
  obtain⟨f0,f1,f2,f3,f4,f5⟩:=hf it (by simp)
  exact wpAny_pyNext_range_end (I.ok.hd hc) st (by have:n<=i:=hg;omega) λh' eb=>⟨rfl,I.turned (t':=s.toks) (λb o hb e=>eb b o hb e) f0 f1 f3 f4 f5⟩
 self:=λ_ _ _ _ _ st h=>wpAny_pyIter_rangeiter st h
section
variable{X:Cx}{tg:Expr}
theorem aaP{pins:List (Addr×Obj)}{R:It->Hp->Prop}{E:Value->Shared->Prop}{lo hi:Int}{tk:Nat}(I:Inv X pins σ H s)(h1: -(2 ^ 62)<=lo)(h2:lo<2 ^ 62)(h3: -(2 ^ 62)<=hi)(h4:hi<2 ^ 62)
  (q:R (Itr lo (hi - lo).toNat) H):wpAny (model X.prog X.w) X.A (pyIter (.ref s.heap.objs.size)) (PIE X pins σ tg R) E {s with heap:=s.heap.push {cls:= .type "range",data:= .fields #[.int lo t,.int hi u,.int 1 v]},toks:=tk}:=by
 refine wpAny_pyIter_range (IsRange.new ..) (small_one h1 h2 h3 h4) ?_
 have I1:Inv X pins σ H {s with heap:=s.heap.push {cls:= .type "range",data:= .fields #[.int lo t,.int hi u,.int 1 v]},toks:=tk}:=I.kept λb o e=>zD _ e
 refine⟨(s.heap.push {cls:= .type "range",data:= .fields #[.int lo t,.int hi u,.int 1 v]}).objs.size,[(s.heap.push {cls:= .type "range",data:= .fields #[.int lo t,.int hi u,.int 1 v]}).objs.size],_,_,H,rfl,
  I1.kept (t':=tk) λb o e=>zD _ e,Ux _ lo (hi - lo).toNat,?_,λb hb=> ?_,q⟩
 ·have e1:lo+((0:Nat):Int)*1=lo:=by simp
  have e2:(((hi - lo).toNat:Nat):Int) - ((0:Nat):Int)=Builtin.Range.rangeSize lo hi 1:=by rw[rangeSize_one];split<;>omega
  show IsRangeIter _ _ (lo+((0:Nat):Int)*1) ((((hi - lo).toNat:Nat):Int) - ((0:Nat):Int)) 1
  rw[e1,e2]
  exact yB _ rfl
 ·have e:b=(s.heap.push {cls:= .type "range",data:= .fields #[.int lo t,.int hi u,.int 1 v]}).objs.size:=by simpa using hb
  subst e
  exact I1.Vz (zaa _) (I1.hok.fresh (zaa _))
def akI(ta:TA):TI:=λσ H R=>ta σ H λvs H1=>∃j:Int,vs=[.int j]/\ -(2 ^ 62)<=j/\j<2 ^ 62/\R (Itr 0 j.toNat) H1
theorem Yq(hg:Gl X "range")(hm:X.mg "range" = none)(ha:PA X [a] ta)(hs:starEach [a] X.env=[(false,eval a X.env)]:=by rfl):PI X tg (.Call (.Name "range" p) [a] [] pos) (akI ta):=by
 intro pins s σ H R I h
 refine Call_ (HN I hg hm boot_range (PyProof.Rows.callWith_type1 (fU (ha pos pins s σ H _ I h) ?_) hs rfl))
 rintro us s1 ⟨vs,H1,I1,r1,q1⟩
 obtain⟨j,e,q1,q2,q⟩:=q1
 subst e
 cases r1 with
 | cons r rr=>
  cases rr
  obtain⟨t,rfl⟩:=r
  exact call_range_1 (aaP I1 () () q1 q2 (by simpa using q))
def am9(wi:TI)(g:TG)(tb:TS):TS:=λD σ H=>wi σ H λJ H1=>∃W:Nat->Nat->St->Hp->Prop,(∃m,W 0 m σ H1)/\∀i m σ H,W i m σ H->
 (J.stop i H/\D.nx σ H)\/(J.go i H/\∃N:St->Hp->Prop,(∀σ' H',N σ' H'->∃m',m'<m/\W (i+1) m' σ' H')/\∀x H',J.Yc i H x H'->g x σ H' λσ2 H2=>tb {D with nx:=N,ct:=N,bk:=D.nx} σ2 H2)
def K_(fp:List Addr)(h:Heap):List (Addr×Obj):=fp.filterMap λb=>(h.get? b).map λo=>(b,o)
theorem ym(hb:b∈fp)(e:h.get? b=some o):(b,o)∈K_ fp h:=List.mem_filterMap.mpr ⟨b,hb,by rw[e];rfl⟩
theorem YB(hp:p∈K_ fp h):p.1∈fp/\h.get? p.1=some p.2:=by
 obtain⟨b,hb,e⟩:=List.mem_filterMap.mp hp
 cases q:h.get? b with
 | none=>rw[q]at e;cases e
 | some o=>
  rw[q]at e
  have e':(b,o)=p:=xI e
  subst e'
  exact⟨hb,q⟩
theorem Inv.pinned(I:Inv X pins σ H s)(hf:∀b∈fp,CV X pins H b)(ho:∀b∈fp,∃o,s.heap.get? b=some o/\∀v,o.data≠ .cell v):Inv X (pins++K_ fp s.heap) σ H s:=
 I.Gb λp hp=>(List.mem_append.mp hp).elim (λz=>I.pin p (xE _ z)) λz=>by
  obtain⟨hb,e⟩:=YB z
  obtain⟨f0,f1,f2,_⟩:=hf p.1 hb
  obtain⟨o,e',d⟩:=ho p.1 hb
  rw[e]at e';cases e'
  exact⟨e,f0,f1,f2,d⟩
theorem Inv.Fj(I:Inv X (pins++pl) σ H s):Inv X pins σ H s:=I.Gb λp hp=>I.pin p (xE _ (List.mem_append_left _ hp))
theorem agJ(hp:PassesOwn (model X.prog X.w) X.A X.env X.xe)(hc:X.calm=true)(hi:PI X tg iter wi)(hg:PG X tg g)(hb:Ke X body tb)
  (hs:∀x,foldedSetIterable iter X.env x=pure x:=by intro _;rfl):PS X (.For tg iter body [] pos) (am9 wi g tb):=by
 intro pins s σ H D I h
 refine wpAny_For (fU (hi pins s σ H _ I h) λv s1 h1=>fU h1 λitv s2 h2=> ?_) hs
 obtain⟨it,fp,tn,J,H2,e,I2,T,st2,f2,W,⟨m0,w0⟩,turn⟩:=h2
 subst e
 have stat:∀{H':Hp},(∀b∈fp,H' b=none)->∀b∈fp,CV X pins H' b:=λhn b hb=>⟨hn b hb,(f2 b hb).2⟩
 refine codeAny_forLoop_any (λn s'=>∃i σ' H',Inv X pins σ' H' s'/\tn i s'.heap/\(∀b∈fp,H' b=none)/\W i n σ' H') ?_ m0 ⟨0,σ,H2,I2,st2,λb hb=>(f2 b hb).1,w0⟩
 rintro n s3 ⟨i,σ3,H3,I3,st3,fr3,w3⟩
 rcases turn i n σ3 H3 w3 with⟨stop,qn⟩ | ⟨go,N,hN,step⟩
 ·refine wpAny_passesOwn hp (fU (T.done X rfl rfl rfl hc i pins s3 σ3 H3 X.xe I3 (stat fr3) st3 stop) ?_)
  rintro r s4 ⟨hr,I4⟩
  subst hr
  exact wpAny_execs_nil ⟨σ3,H3,I4,qn⟩
 ·refine wpAny_passesOwn hp (fU (T.item X rfl rfl rfl hc i pins s3 σ3 H3 X.xe I3 (stat fr3) st3 go) ?_)
  rintro r s4 ⟨u,hr,h4⟩
  subst hr
  refine wpAny_passesOwn hp (fU h4 ?_)
  rintro _ s5 ⟨x,H5,I5,r5,y5,st5,fr5⟩
  have I5':=I5.pinned (stat fr5) (T.obj _ _ st5)
  refine wpAny_passesOwn hp (fU (hg _ s5 σ3 H5 x u _ I5' r5 (step x H5 y5)) ?_)
  rintro _ s6 ⟨σ6,H6,I6,q6⟩
  refine wpAny_passesOwn hp (fU (hb _ s6 σ6 H6 _ I6 q6) λf s7 q7=> ?_)
  have again:∀{ZG:St} {H7:Hp},Inv X (pins++K_ fp s5.heap) ZG H7 s7->N ZG H7->∃m,m<n/\∃i σ' H',Inv X pins σ' H' s7/\tn i s7.heap/\(∀b∈fp,H' b=none)/\W i m σ' H':=λ{ZG H7} I7 n7=>by
   obtain⟨m',hm,w7⟩:=hN ZG H7 n7
   refine⟨m',hm,i+1,ZG,H7,I7.Fj,T.keep _ _ _ st5 λb hb o e=>(I7.pin (b,o) (xE _ (xE _ (ym hb e)))).1,λb hb=> ?_,w7⟩
   obtain⟨o,e,d⟩:=T.obj _ _ st5 b hb
   exact(I7.pin (b,o) (xE _ (xE _ (ym hb e)))).2.1
  cases f with
  | next=>obtain⟨ZG,H7,I7,n7⟩:=q7;exact again I7 n7
  | cont=>obtain⟨ZG,H7,I7,n7⟩:=q7;exact again I7 n7
  | brk=>obtain⟨ZG,H7,I7,q7⟩:=q7;exact⟨ZG,H7,I7.Fj,q7⟩
  | ret v=>obtain⟨x7,ZG,H7,I7,r7,q7⟩:=q7;exact⟨x7,ZG,H7,I7.Fj,r7,q7⟩
end
abbrev R2:=V->V->Hp->VK->Prop
def uT(X:Cx)(f:Value->Value->Sem Value)(r:R2):Prop:=
 ∀(pins:List (Addr×Obj)) (s:Shared) (σ:St) (H:Hp) (x y:V) (v u:Value) (Q:VK),Inv X pins σ H s->RelV x v->RelV y u->r x y H Q->
  wpAny (model X.prog X.w) X.A (f v u) (EP X pins σ Q) X.xe s
def UnR(X:Cx)(f:Value->Sem Value)(r:V->Hp->VK->Prop):Prop:=
 ∀(pins:List (Addr×Obj)) (s:Shared) (σ:St) (H:Hp) (x:V) (v:Value) (Q:VK),Inv X pins σ H s->RelV x v->r x H Q->
  wpAny (model X.prog X.w) X.A (f v) (EP X pins σ Q) X.xe s
def rM(X:Cx)(f:Value)(r:List V->Hp->VK->Prop):Prop:=
 ∀(pins:List (Addr×Obj)) (s:Shared) (σ:St) (H:Hp) (xs:List V) (us:List Value) (Q:VK),Inv X pins σ H s->Vals xs us->r xs H Q->
  wpAny (model X.prog X.w) X.A (call f us) (EP X pins σ Q) X.xe s
def tOp(r:R2)(ta tb:TE):TE:=λσ H Q=>ta σ H λx H1=>tb σ H1 λy H2=>r x y H2 Q
def tUn(r:V->Hp->VK->Prop)(ta:TE):TE:=λσ H Q=>ta σ H λx H1=>r x H1 Q
def rI(C:Int->Int->Prop)(g:Int->Int->V):R2:=λx y H Q=>∃i j,x= .int i/\y= .int j/\C i j/\Q (g i j) H
def ZD(g:Int->Int->V):R2:=λx y H Q=>∃i j,x= .int i/\y= .int j/\Q (g i j) H
def rU(g:Int->V):V->Hp->VK->Prop:=λx H Q=>∃i,x= .int i/\Q (g i) H
section
variable{X:Cx}{a b c:Expr}{ta tb tc:TE}{pos:Pos}
theorem aii(ha:PE X a ta)(hb:PE X b tb){R:V->V->Hp->Prop}(I:Inv X pins σ H s)
  (h:ta σ H λx H1=>tb σ H1 λy H2=>R x y H2) {Q:Value->Shared->Prop} {f:Value->Value->Sem Value}
  (hf:∀v u s2 x y H2,Inv X pins σ H2 s2->RelV x v->RelV y u->R x y H2->wpAny (model X.prog X.w) X.A (f v u) Q X.xe s2):
  wpAny (model X.prog X.w) X.A (eval a X.env) (λv s₁=>wpAny (model X.prog X.w) X.A (eval b X.env) (λu s₂=>wpAny (model X.prog X.w) X.A (f v u) Q X.xe s₂) X.xe s₁) X.xe s:=by
 refine fU (ha pins s σ H _ I h) ?_
 rintro v s1 ⟨x,H1,I1,r1,q1⟩
 refine fU (hb pins s1 σ H1 _ I1 q1) ?_
 rintro u s2 ⟨y,H2,I2,r2,q2⟩
 exact hf v u s2 x y H2 I2 r1 r2 q2
theorem ajZ(ho:uT X (binaryOp op) r)(ha:PE X a ta)(hb:PE X b tb):PE X (.BinOp a op b pos) (tOp r ta tb):=by
 intro pins s σ H Q I h
 exact wpAny_BinOp (aii ha hb I h λv u s2 x y H2 I2 rx ry q=>ho pins s2 σ H2 x y v u Q I2 rx ry q)
theorem ajX{r:V->Hp->VK->Prop}(ho:UnR X (unaryOp op) r)(ha:PE X a ta):PE X (.UnaryOp op a pos) (tUn r ta):=by
 intro pins s σ H Q I h
 exact UnaryOp_ (fU (ha pins s σ H _ I h) λv s1 ⟨x,H1,I1,r1,q1⟩=>ho pins s1 σ H1 x v Q I1 r1 q1)
theorem opI{f:Value->Value->Sem Value}{C:Int->Int->Prop}{g:Int->Int->Int}
  (rule:∀(i j:Int) (t u:Tok) (s:Shared) (Q:Value->Shared->Prop) (E:Value->Shared->Prop),C i j->Q (.int (g i j) s.toks) {s with toks:=s.toks+1}->wpAny (model X.prog X.w) X.A (f (.int i t) (.int j u)) Q E s):
  uT X f (rI C λi j=> .int (g i j)):=by
 intro pins s σ H x y v u Q I rx ry h
 obtain⟨i,j,rfl,rfl,hc,q⟩:=h
 obtain⟨t,rfl⟩:=rx
 obtain⟨t',rfl⟩:=ry
 exact rule i j t t' s _ _ hc ⟨.int (g i j),H,I.tok _,⟨_,rfl⟩,q⟩
theorem ad7{f:Value->Value->Sem Value}{g:Int->Int->Int}
  (rule:∀(i j:Int) (t u:Tok) (s:Shared) (Q:Value->Shared->Prop) (E:Value->Shared->Prop),Q (.int (g i j) s.toks) {s with toks:=s.toks+1}->wpAny (model X.prog X.w) X.A (f (.int i t) (.int j u)) Q E s):
  uT X f (ZD λi j=> .int (g i j)):=by
 intro pins s σ H x y v u Q I rx ry h
 obtain⟨i,j,rfl,rfl,q⟩:=h
 obtain⟨t,rfl⟩:=rx
 obtain⟨t',rfl⟩:=ry
 exact rule i j t t' s _ _ ⟨.int (g i j),H,I.tok _,⟨_,rfl⟩,q⟩
theorem ad8{f:Value->Value->Sem Value}{g:Int->Int->Bool}
  (rule:∀(i j:Int) (t u:Tok) (s:Shared) (Q:Value->Shared->Prop) (E:Value->Shared->Prop),Q (.bool (g i j)) s->wpAny (model X.prog X.w) X.A (f (.int i t) (.int j u)) Q E s):
  uT X f (ZD λi j=> .bl (g i j)):=by
 intro pins s σ H x y v u Q I rx ry h
 obtain⟨i,j,rfl,rfl,q⟩:=h
 obtain⟨t,rfl⟩:=rx
 obtain⟨t',rfl⟩:=ry
 exact rule i j t t' s _ _ ⟨.bl (g i j),H,I,rfl,q⟩
def apn(i j:Int):Prop:=0<j/\j<1073741824
def alJ(i j:Int):Prop:=0<=j/\j<=1000000/\i.natAbs<2 ^ 64
def aiq(i j:Int):Prop:=(-(2 ^ 64)<i/\i<2 ^ 64)\/(-(2 ^ 64)<j/\j<2 ^ 64)
theorem aiq.ok(h:aiq i j):IntMulOk i j:=by
 rcases h with⟨h1,h2⟩ | ⟨h1,h2⟩
 ·exact .of_left (intBits_le_64 h1 h2)
 ·exact .of_right (intBits_le_64 h1 h2)
theorem Uv(k:Nat):(0:Int)<=2 ^ k:=by
 rw[two_pow_cast]
 exact Int.natCast_nonneg _
theorem ahg:uT X (binaryOp .Add) (ZD λi j=> .int (i+j)):=ad7 λ_ _ _ _ _ _ _ q=>add_int q
theorem ag2:uT X (binaryOp .Sub) (ZD λi j=> .int (i - j)):=ad7 λ_ _ _ _ _ _ _ q=>sub_int q
theorem ag7:uT X (binaryOp .Mult) (rI aiq λi j=> .int (i*j)):=opI λ_ _ _ _ _ _ _ hc q=>mul_int q hc.ok
theorem ad4:uT X (binaryOp .FloorDiv) (rI apn λi j=> .int (i / j)):=opI λi j _ _ _ _ _ hc q=>by
 have h1:(0:Int)<j:=hc.1
 have h2:j<1073741824:=hc.2
 exact floordiv_int () (by rw[Int.fdiv_eq_ediv_of_nonneg i ()];exact q) (.inl (PyProof.noPylong_small ()))
theorem ag8:uT X (binaryOp .Mod) (rI (λ_ j=>0<j) λi j=> .int (i % j)):=opI λi j _ _ _ _ _ hc q=>by
 have h1:(0:Int)<j:=hc
 exact mod_int' () (by rw[Int.fmod_eq_emod_of_nonneg i ()];exact q)
theorem ag5:uT X (binaryOp .Pow) (rI alJ λi j=> .int (i ^ j.toNat)):=opI λ_ _ _ _ _ _ _ hc q=>pow_int_small hc.1 hc.2.1 hc.2.2 q
theorem ag4:uT X (binaryOp .LShift) (rI alJ λi j=> .int (i*2 ^ j.toNat)):=opI λ_ _ _ _ _ _ _ hc q=>lshift_int_small hc.1 hc.2.1 hc.2.2 q
theorem ag3:uT X (binaryOp .RShift) (rI (λ_ j=>0<=j) λi j=> .int (i / 2 ^ j.toNat)):=opI λi j _ _ _ _ _ hc q=>
 rshift_int hc (by rw[Int.fdiv_eq_ediv_of_nonneg i (Uv _)];exact q)
theorem ahf:uT X (binaryOp .BitAnd) (ZD λi j=> .int (Builtin.bitAnd i j)):=ad7 λ_ _ _ _ _ _ _ q=>and_int q
theorem aj3:uT X (binaryOp .BitOr) (ZD λi j=> .int (Builtin.bitOr i j)):=ad7 λ_ _ _ _ _ _ _ q=>or_int q
theorem unI{f:Value->Sem Value}{g:Int->Int}
  (rule:∀(i:Int) (t:Tok) (s:Shared) (Q:Value->Shared->Prop) (E:Value->Shared->Prop),Q (.int (g i) s.toks) {s with toks:=s.toks+1}->wpAny (model X.prog X.w) X.A (f (.int i t)) Q E s):
  UnR X f (rU λi=> .int (g i)):=by
 intro pins s σ H x v Q I rx h
 obtain⟨i,rfl,q⟩:=h
 obtain⟨t,rfl⟩:=rx
 exact rule i t s _ _ ⟨.int (g i),H,I.tok _,⟨_,rfl⟩,q⟩
theorem af5:UnR X (unaryOp .USub) (rU λi=> .int (-i)):=unI λ_ _ _ _ _ q=>neg_int q
theorem QH(I:Inv X pins σ H s)(q:Q (.bl k) H)(e:k=k'):EP X pins σ Q (.bool k') s:=by
 subst e
 exact⟨.bl k,H,I,rfl,q⟩
theorem aj4:uT X (compareOp .Lt) (ZD λi j=> .bl (decide (i<j))):=ad8 λ_ _ _ _ _ _ _ q=>lt_int q
theorem aj5:uT X (compareOp .LtE) (ZD λi j=> .bl (decide (i<=j))):=ad8 λ_ _ _ _ _ _ _ q=>le_int q
theorem aj6:uT X (compareOp .Gt) (ZD λi j=> .bl (decide (j<i))):=ad8 λ_ _ _ _ _ _ _ q=>gt_int q
theorem aj7:uT X (compareOp .GtE) (ZD λi j=> .bl (decide (j<=i))):=ad8 λ_ _ _ _ _ _ _ q=>ge_int q
theorem Yv:uT X (compareOp .Lt) (λx y H Q=>∃i j,x= .str i/\y= .str j/\Q (.bl (decide (i.cps.toList<j.cps.toList))) H):=by
 intro pins s σ H x y v u Q I rx ry h
 obtain⟨i,j,rfl,rfl,q⟩:=h
 obtain⟨t,rfl⟩:=rx
 obtain⟨t',rfl⟩:=ry
 exact lt_str (QH I q rfl)
theorem ahb:uT X (compareOp .Is) (λx y H Q=>y= .non/\Q (.bl (decide (x= .non))) H):=by
 intro pins s σ H x y v u Q I rx ry h
 obtain⟨rfl,q⟩:=h
 cases ry
 refine is_none_gen (QH I q ?_)
 cases x<;>first
  | (cases rx;rfl)
  | (obtain⟨t,rfl⟩:=rx;rfl)
theorem ad3:uT X (compareOp .IsNot) (λx y H Q=>y= .non/\Q (.bl (!decide (x= .non))) H):=by
 intro pins s σ H x y v u Q I rx ry h
 obtain⟨rfl,q⟩:=h
 cases ry
 refine isnot_none_gen (QH I q ?_)
 cases x<;>first
  | (cases rx;rfl)
  | (obtain⟨t,rfl⟩:=rx;rfl)
theorem uT.or(h:uT X f r)(h':uT X f r'):uT X f (λx y H Q=>r x y H Q\/r' x y H Q):=by
 intro pins s σ H x y v u Q I rx ry q
 rcases q with q | q
 ·exact h pins s σ H x y v u Q I rx ry q
 ·exact h' pins s σ H x y v u Q I rx ry q
theorem aJ(b:Expr)(h:op≠ .In:=by decide)(h2:op≠ .NotIn:=by decide):behindInMarks op b=false:=by
 have e1:(op==CmpOp.In)=false:=by cases op<;>first | rfl | exact absurd rfl h
 have e2:(op==CmpOp.NotIn)=false:=by cases op<;>first | rfl | exact absurd rfl h2
 cases b<;>simp[behindInMarks,e1,e2]
theorem adZ(ho:uT X (compareOp op) r)(ha:PE X a ta)(hb:PE X b tb)(hm:behindInMarks op b=false):PE X (.Compare a [op] [b] pos) (tOp r ta tb):=by
 intro pins s σ H Q I h
 exact wpAny_Compare1 (aii ha hb I h λv u s2 x y H2 I2 rx ry q=>ho pins s2 σ H2 x y v u Q I2 rx ry q) hm
def afk(t:TE):TT:=λσ H Q=>t σ H λx H'=>∃k,x= .bl k/\Q k H'
theorem adJ(ho:uT X (compareOp op) r)(ha:PE X a ta)(hb:PE X b tb)(hm:behindInMarks op b=false):PT X (.Compare a [op] [b] pos) (afk (tOp r ta tb)):=by
 intro pins s σ H Q I h
 refine wpAny_isTrue_Compare1 (fU (ha pins s σ H _ I h) λv s1 ⟨x,H1,I1,r1,q1⟩=>fU (hb pins s1 σ H1 _ I1 q1) λu s2 ⟨y,H2,I2,r2,q2⟩=>
  fU (ho pins s2 σ H2 x y v u _ I2 r1 r2 q2) λc s3 ⟨z,H3,I3,r3,k,e,q3⟩=> ?_) hm
 subst e
 cases r3
 exact wpAny_truthy_bool ⟨H3,I3,q3⟩
theorem Lw:(sizeLine:Nat)<2 ^ 63:=by rw[sizeLine_eq];decide
theorem Vb:uT X (binaryOp .Add) (λx y H Q=>∃i j,x= .str i/\y= .str j/\i.length+j.length<=sizeLine/\Q (.str (i++j)) H):=by
 intro pins s σ H x y v u Q I rx ry h
 obtain⟨i,j,rfl,rfl,hz,q⟩:=h
 obtain⟨t,rfl⟩:=rx
 obtain⟨t',rfl⟩:=ry
 exact add_str (λt' tk=>⟨.str (i++j),H,I.tok _,⟨_,rfl⟩,q⟩) hz
theorem vals1(r:Vals [x] us):∃u,us=[u]/\RelV x u:=by
 cases r with
 | cons r1 r2=>cases r2;exact⟨_,rfl,r1⟩
theorem vals2(r:Vals [x,y] us):∃u w',us=[u,w']/\RelV x u/\RelV y w':=by
 cases r with
 | cons r1 r2=>
  cases r2 with
  | cons r3 r4=>cases r4;exact⟨_,_,rfl,r1,r3⟩
theorem Zf(hc:X.calm=true):rM X (.builtin "max") (λxs H Q=>∃i j,xs=[.int i,.int j]/\Q (.int (if j > i then j else i)) H):=by
 intro pins s σ H xs us Q I r h
 obtain⟨i,j,rfl,q⟩:=h
 obtain⟨u,w',rfl,⟨t,rfl⟩,⟨t',rfl⟩⟩:=vals2 r
 refine max_two_ints (I.ok.hd hc) λh' tk k=>⟨_,H,I.kept k,?_,q⟩
 by_cases hj:j > i
 ·rw[if_pos hj,if_pos hj];exact⟨_,rfl⟩
 ·rw[if_neg hj,if_neg hj];exact⟨_,rfl⟩
theorem Ze(hc:X.calm=true):rM X (.builtin "min") (λxs H Q=>∃i j,xs=[.int i,.int j]/\Q (.int (if j<i then j else i)) H):=by
 intro pins s σ H xs us Q I r h
 obtain⟨i,j,rfl,q⟩:=h
 obtain⟨u,w',rfl,⟨t,rfl⟩,⟨t',rfl⟩⟩:=vals2 r
 refine min_two_ints (I.ok.hd hc) λh' tk k=>⟨_,H,I.kept k,?_,q⟩
 by_cases hj:j<i
 ·rw[if_pos hj,if_pos hj];exact⟨_,rfl⟩
 ·rw[if_neg hj,if_neg hj];exact⟨_,rfl⟩
end
structure V2(h:Heap)(x dx C:Addr)(mA:Str->Option Value):Prop where
 obj:h.get? x=some (PySem.W.instObj C dx)
 ns:h.Ns1 dx mA
 ne:dx≠x
theorem YQ{h:Heap}{dx:Addr}{mA:Str->Option Value}(n:h.Ns1 dx mA):∃od,h.get? dx=some od/\∀name,PySem.W.lookIn name od=some (mA name):=by
 obtain⟨o,es,ep,ho,hd,hk,_,hm⟩:=n
 refine⟨o,ho,λname=> ?_⟩
 have e:=hm name
 unfold nsFind findBy at e
 rw[<-Array.find?_toList]at e
 unfold PySem.W.lookIn
 rw[hd]
 dsimp only
 split
 ·rename_i y q
  rw[q]at e
  exact congrArg some e
 ·rename_i q
  rw[q]at e
  have a:es.toList.any (·.refKey)=false:=by
   rw[List.any_eq_false]
   intro y hy
   obtain⟨z,t,hkey⟩:=hk y (Array.mem_toList_iff.mp hy)
   simp[DictEntry.refKey,hkey]
  have a':¬es.toList.any (·.refKey)=true:=by rw[a];exact xA
  rw[if_neg a']
  exact congrArg some e
theorem V2.look(I:V2 h x dx C mA):∃od,PySem.W.InstAt h x (PySem.W.instObj C dx) C (some od)/\∀name,PySem.W.lookIn name od=some (mA name):=
 let⟨od,ho,hl⟩:=YQ I.ns
 ⟨od,⟨I.obj,rfl,rfl,ho⟩,hl⟩
section
variable{prog:Program}{w:World}{A:Around}{E:Value->Shared->Prop}{s:Shared}{K:Frag}{x dx C f:Addr}{mA:Str->Option Value}{name:Str}{v:Value}
theorem get_map{Q:Value->Shared->Prop}(X:K.In s.heap)(I:V2 s.heap x dx C mA)(hg:PySem.W.plainGet K C name=true)(hh:PySem.W.hasDictIn K C=true)
  (ha:findIn K (.ref C) name=some none) (hv:mA name=some v) (hv':PySem.W.handedIn v=true) (h:Q v {s with toks:=s.toks+1}):
  wpAny (model prog w) A (getAttr (.ref x) name expr) Q E s:=by
 obtain⟨od,J,hl⟩:=I.look
 exact PySem.W.get_value X J (PySem.W.plainGet_of hg).1 (PySem.W.findObj_own hh ha rfl (by rw[hl,hv])) hv' h
theorem ab6{Q:Value×List Value->Shared->Prop}(X:K.In s.heap)(I:V2 s.heap x dx C mA)(hg:PySem.W.plainGet K C name=true)
  (hf:findIn K (.ref C) name=some (some (.ref f))) (ht:isFn K (.ref f)=true) (hv:mA name=none) (h:Q (.ref f,[.ref x]) s):
  wpAny (model prog w) A (getMethod (.ref x) name pl) Q E s:=by
 obtain⟨od,J,hl⟩:=I.look
 exact PySem.W.method_fn X J (PySem.W.plainGet_of hg).1 (PySem.W.plainGet_of hg).2 hf (beq_iff_eq.mp ht) (by show(PySem.W.lookIn name od).map (·.isSome)=some false;rw[hl,hv];rfl) h
theorem adn{Q:Unit->Shared->Prop}(X:K.In s.heap)(I:V2 s.heap x dx C mA)
  (hs:findIn K (.ref C) "__setattr__" = some (some (.builtin "object.__setattr__"))) (hp:PySem.W.plainOver K C=true) (ht:PySem.W.takerIn K C name=some none) (hh:PySem.W.hasDictIn K C=true)
  (hw:PySem.Within mA ns) (hsz:ns.length<=sizeLine)
  (h:∀h',V2 h' x dx C (λy=>if y=name then some v else mA y)->Heap.SameBut dx s.heap h'->Q .unit {s with heap:=h',toks:=s.toks+2}):
  wpAny (model prog w) A (setAttr (.ref x) name v) Q E s:=by
 obtain⟨od,J,hl⟩:=I.look
 refine PySem.W.set_plain X J hs (PySem.W.osa_open (s:={s with toks:=s.toks+1}) (r:=none) X J hp ht λb=> ?_)
 obtain⟨cd,hc,hd'⟩:=PySem.W.any_some hh
 have hx:s.heap.get? x=some ⟨.ref C,some dx,.plain,#[]⟩:=I.obj
 refine zC (zI (zC (zC (wpAny_loadPart hx (zC (PySem.W.Looks.here (s:={s with toks:=s.toks+1}) (PySem.W.looks_clsIn X hc) ?_))))))
 rw[hd']
 refine zI (a:=some dx) (zC (zI (zC ?_)))
 refine wpAny_nsSet1 (s:={s with toks:=s.toks+1}) I.ns λh' hn2 hs2=> ?_
 obtain⟨oD,esD,epD,hoD,hdD,hcD⟩:=hn2.count (PySem.Within.cons name v hw)
 refine zC (wpAny_lookBehind hoD (by rw[hdD];exact pastItsLine_dict (yY hcD (by rw[List.length_cons];omega))) ?_)
 exact zI (h _ ⟨(hs2.2 _ (Ne.symm I.ne)).trans I.obj,hn2,I.ne⟩ hs2)
theorem abu{R:Result->Shared->Prop}(X:K.In s.heap)(hm:PySem.W.makesIn K C=true)
  (hi:findIn K (.ref C) "__init__" = some (some (.ref f))) (hf:PySem.W.typeIn K (.ref f)=some (.type "function"))
  (h:codeAny (model prog w) (A.under (.builtin "type.__call__" ⟨.ref C::vs,kw⟩)) (.call (.ref f) ⟨.ref (s.heap.objs.size+1)::vs,kw⟩) (PySem.W.InitBack (s.heap.objs.size+1) R)
   {s with heap:=(s.heap.push PySem.W.emptyDict).push (PySem.W.instObj C s.heap.objs.size)}):
  codeAny (model prog w) A (.call (.ref C) ⟨vs,kw⟩) R s:=by
 obtain⟨hh,g,d,t,os⟩:=s
 exact PySem.W.make_core (PySem.W.makes_of X hm) (PySem.W.looks_findIn X hi) (λself=>PySem.W.bind_fn X self hf) (.inl rfl) h
end
noncomputable def vg(f:Str)(v:V):List (Str×V)->List (Str×V)
 | []=>[(f,v)]
 | (g,x)::r=>if g=f then(g,v)::r else(g,x)::vg f v r
theorem IW(f g:Str)(v:V):∀fs:List (Str×V),(vg f v fs).lookup g=if g=f then some v else fs.lookup g
 | []=>by
  show List.lookup g [(f,v)]=_
  by_cases h:g=f
  ·have hb:(g==f)=true:=beq_iff_eq.mpr h
   simp only[List.lookup,hb,if_pos h]
  ·have hb:(g==f)=false:=beq_eq_false_iff_ne.mpr h
   simp only[List.lookup,hb,if_neg h]
 | (k,x)::r=>by
  have ih:=IW f g v r
  rw[show vg f v ((k,x)::r)=(if k=f then(k,v)::r else(k,x)::vg f v r)from rfl]
  by_cases hk:k=f
  ·rw[if_pos hk]
   by_cases h:g=k
   ·have hb:(g==k)=true:=beq_iff_eq.mpr h
    simp only[List.lookup,hb,if_pos (h.trans hk)]
   ·have hb:(g==k)=false:=beq_eq_false_iff_ne.mpr h
    simp only[List.lookup,hb,if_neg (λe:g=f=>h (e.trans hk.symm))]
  ·rw[if_neg hk]
   by_cases h:g=k
   ·have hb:(g==k)=true:=beq_iff_eq.mpr h
    simp only[List.lookup,hb,if_neg (λe:g=f=>hk (h.symm.trans e))]
   ·have hb:(g==k)=false:=beq_eq_false_iff_ne.mpr h
    simp only[List.lookup,hb]
    exact ih
theorem HQ(f:Str)(v:V):∀fs:List (Str×V),f∈(vg f v fs).map (·.1)/\∀g,g∈fs.map (·.1)->g∈(vg f v fs).map (·.1)
 | []=>⟨by simp[vg],λg h=>by simp at h⟩
 | (k,x)::r=>by
  obtain⟨i1,i2⟩:=HQ f v r
  rw[show vg f v ((k,x)::r)=(if k=f then(k,v)::r else(k,x)::vg f v r)from rfl]
  by_cases hk:k=f
  ·rw[if_pos hk]
   subst hk
   exact⟨by simp,λg h=>by simpa using h⟩
  ·rw[if_neg hk]
   refine⟨?_,λg h=> ?_⟩
   ·rw[List.map_cons]
    exact yT _ i1
   ·rw[List.map_cons]at h ⊢
    rcases List.mem_cons.mp h with e | e
    ·exact List.mem_cons.mpr (.inl e)
    ·exact yT _ (i2 g e)
theorem I_(f:Str)(v:V):∀fs:List (Str×V),(vg f v fs).length<=fs.length+1
 | []=>by simp[vg]
 | (k,x)::r=>by
  have ih:=I_ f v r
  rw[show vg f v ((k,x)::r)=(if k=f then(k,v)::r else(k,x)::vg f v r)from rfl]
  by_cases hk:k=f
  ·rw[if_pos hk,List.length_cons,List.length_cons];omega
  ·rw[if_neg hk,List.length_cons,List.length_cons];omega
theorem zB.some_of(r:zB (some v) o):∃u,o=some u/\RelV v u:=by
 cases o with
 | none=>exact(show False from r).elim
 | some u=>exact⟨u,rfl,r⟩
theorem zB.none_of(r:zB none o):o=none:=by
 cases o with
 | none=>rfl
 | some u=>exact(show False from r).elim
theorem Y6(r:RelV v u):PySem.W.handedIn u=true:=by
 cases v with
 | non=>cases(show u=Value.none from r);rfl
 | bl b=>cases(show u=Value.bool b from r);rfl
 | int i=>obtain⟨t,e⟩:=(show ∃t,u=Value.int i t from r);cases e;rfl
 | str x=>obtain⟨t,e⟩:=(show ∃t,u=Value.str x t from r);cases e;rfl
 | byt b=>obtain⟨t,e⟩:=(show ∃t,u=Value.bytes b t from r);cases e;rfl
 | flt b=>obtain⟨t,e⟩:=(show ∃t,u=Value.float b t from r);cases e;rfl
 | ref a=>cases(show u=Value.ref a from r);rfl
 | ty n=>cases(show u=Value.type n from r);rfl
section
variable{P:Program}{w:World}{H H':Hp}{h h':Heap}{a C dx:Addr}{fs fs':List (Str×V)}
theorem Qv(hok:uU P w H h)(e:H a=some (.ins C dx fs)):∃mA,V2 h a dx C mA/\(∀f,zB (fs.lookup f) (mA f))/\PySem.Within mA (fs.map (·.1))/\fs.length<=1000/\H dx=some (.own a):=by
 obtain⟨d,z,ne,ob,mA,n,r,q⟩:=(show fC P w H h a (.ins C dx fs)from hok a _ e)
 exact⟨mA,⟨ob,n,ne⟩,r,q,z,d⟩
end
structure M_(K:Frag)(C:Addr):Prop where
 pg:PySem.W.plainGet K C Str.empty=true
 hd:PySem.W.hasDictIn K C=true
 po:PySem.W.plainOver K C=true
 sa:findIn K (.ref C) "__setattr__" = some (some (.builtin "object.__setattr__"))
theorem M_.get{K:Frag}{C:Addr}(c:M_ K C)(f:Str):PySem.W.plainGet K C f=true:=c.pg
def vZ(K:Frag)(C:Addr)(f:Str):Prop:=findIn K (.ref C) f=some none
theorem vZ.taker{K:Frag}{C:Addr}{f:Str}(n:vZ K C f):PySem.W.takerIn K C f=some none:=by
 unfold PySem.W.takerIn
 rw[show findIn K (.ref C) f=some none from n]
 rfl
structure Meth(K:Frag)(C:Addr)(m:Str)(f:Addr):Prop where
 at_:findIn K (.ref C) m=some (some (.ref f))
 fn:isFn K (.ref f)=true
 kp:keepIn K (.ref f)=true
section
variable{X:Cx}{pins:List (Addr×Obj)}{σ:St}{H:Hp}{s:Shared}{a C dx:Addr}{fs:List (Str×V)}{f:Str}{v:V}{A:Around}{E:Value->Shared->Prop}
theorem Vx{Q:Value->Shared->Prop}(I:Inv X pins σ H s)(e:H a=some (.ins C dx fs))(c:M_ X.K C)(n:vZ X.K C f)(l:fs.lookup f=some v)
  (h:∀u s',Inv X pins σ H s'->RelV v u->Q u s'):wpAny (model X.prog X.w) A (getAttr (.ref a) f b) Q E s:=by
 obtain⟨mA,O,r,_,_,_⟩:=Qv I.hok e
 obtain⟨u,hu,ru⟩:=zB.some_of (v:=v) (o:=mA f) (by rw[<-l];exact r f)
 exact get_map I.Jb O (c.get f) c.hd n hu (Y6 ru) (h u _ (I.tok _) ru)
theorem Ma{Q:Value×List Value->Shared->Prop}(I:Inv X pins σ H s)(e:H a=some (.ins C dx fs))(c:M_ X.K C)(k:Meth X.K C m g)(l:fs.lookup m=none)
  (h:Q (.ref g,[.ref a]) s):wpAny (model X.prog X.w) A (getMethod (.ref a) m pl) Q E s:=by
 obtain⟨mA,O,r,_,_,_⟩:=Qv I.hok e
 have hn:mA m=none:=zB.none_of (by rw[<-l];exact r m)
 exact ab6 I.Jb O (c.get m) k.at_ k.fn hn h
theorem UT{Q:Unit->Shared->Prop}(I:Inv X pins σ H s)(e:H a=some (.ins C dx fs))(c:M_ X.K C)(n:vZ X.K C f)(hl:fs.length<1000)(ry:RelV y u)
  (h:∀s',Inv X pins σ (upd H a (.ins C dx (vg f y fs))) s'->Q .unit s'):wpAny (model X.prog X.w) A (setAttr (.ref a) f u) Q E s:=by
 obtain⟨mA,O,r,wi,_,ho⟩:=Qv I.hok e
 have hz:(fs.map (·.1)).length<=sizeLine:=by rw[zam,sizeLine_eq];omega
 refine adn I.Jb O c.sa c.po n.taker c.hd wi hz λh' O' sb=>h _ ?_
 have hd:∃o,h'.get? dx=some o:=let⟨o,_,_,e',_⟩:=O'.ns;⟨o,e'⟩
 refine I.write (x:=a) (e:=dx) (by rw[e];exact jS) (.inr ho) (λb q hb z=>(sb.2 b hb).trans z) hd ?_
 refine⟨by rw[aL O.ne];exact ho,?_,O.ne,O'.obj,_,O'.ns,λg=> ?_,λg hg=> ?_⟩
 ·have:=I_ f y fs;omega
 ·show zB ((vg f y fs).lookup g) (if g=f then some u else mA g)
  rw[IW]
  by_cases q:g=f
  ·rw[if_pos q,if_pos q];exact ry
  ·rw[if_neg q,if_neg q];exact r g
 ·by_cases q:g=f
  ·rw[q];exact(HQ f y fs).1
  ·refine(HQ f y fs).2 g (wi g λz=>hg ?_)
   show(if g=f then some u else mA g)=none
   rw[if_neg q];exact z
theorem Inv.made(I:Inv X pins σ H s):Inv X pins σ (upd (upd H s.heap.objs.size (.own (s.heap.objs.size+1))) (s.heap.objs.size+1) (.ins C s.heap.objs.size []))
  {s with heap:=(s.heap.push PySem.W.emptyDict).push (PySem.W.instObj C s.heap.objs.size)}:=by
 have e1:(s.heap.push PySem.W.emptyDict).get? s.heap.objs.size=some PySem.W.emptyDict:=yB s.heap rfl
 have e2:((s.heap.push PySem.W.emptyDict).push (PySem.W.instObj C s.heap.objs.size)).get? (s.heap.objs.size+1)=some (PySem.W.instObj C s.heap.objs.size):=by
  have:=yB (s.heap.push PySem.W.emptyDict) (o:=PySem.W.instObj C s.heap.objs.size) rfl
  rwa [Heap.size_push]at this
 have e3:(s.heap.push PySem.W.emptyDict).Ns s.heap.objs.size (λ_=>none):=⟨PySem.W.emptyDict,#[],_,e1,rfl,(λe he=>absurd he (by simp)),λ_=>rfl⟩
 have I1:=I.laid (a:=s.heap.objs.size) (o:= .own (s.heap.objs.size+1)) (h':=s.heap.push PySem.W.emptyDict) (t':=s.toks) (λb u q=>zD _ q) (zaa _) ⟨_,e1⟩
 refine I1.laid (a:=s.heap.objs.size+1) (o:= .ins C s.heap.objs.size []) (t':=s.toks) (λb u q=>zD _ q) (Nat.le_of_eq (Heap.size_push _ _)) ?_
 have ne:s.heap.objs.size≠s.heap.objs.size+1:=xD (Nat.lt_succ_self _)
 refine⟨by rw[aL ne,bA],Nat.zero_le _,ne,e2,λ_=>none,(Heap.Ns1.of_empty e3).at λo q=>zD _ q,λ_=>jS,λy hy=>absurd rfl hy⟩
theorem ae4{Q:Value->Shared->Prop}(hb:attributeBase e f env (eval e env)=eval e env)
  (h:wpAny (model prog w) A (eval e env) (λo s₁=>wpAny (model prog w) A (getAttr o f true) Q E s₁) E s):wpAny (model prog w) A (eval (.Attribute e f pos) env) Q E s:=
 Attribute_any_ h (by rw[arm_eval_Attribute,hb])
end
def am_(K:Frag)(ta:TE)(f:Str):TE:=λσ H Q=>ta σ H λx H1=>∃a C dx fs v,x= .ref a/\H1 a=some (.ins C dx fs)/\M_ K C/\vZ K C f/\fs.lookup f=some v/\Q v H1
def anm(K:Frag)(ta tv:TE)(f:Str):TS:=λD σ H=>tv σ H λy H1=>ta σ H1 λx H2=>∃a C dx fs,x= .ref a/\H2 a=some (.ins C dx fs)/\M_ K C/\vZ K C f/\fs.length<1000/\
 D.nx σ (upd H2 a (.ins C dx (vg f y fs)))
section
variable{X:Cx}{o e value:Expr}{f:Str}{pos pos' tpos:Pos}{ta tv:TE}
theorem agU(he:PE X e ta)(hb:attributeBase e f X.env (eval e X.env)=eval e X.env):PE X (.Attribute e f pos) (am_ X.K ta f):=by
 intro pins s σ H Q I h
 refine ae4 hb (fU (he pins s σ H _ I h) ?_)
 rintro u s1 ⟨x,H1,I1,rx,a,C,dx,fs,v,ex,ea,c,n,l,q⟩
 subst ex
 obtain rfl:u=Value.ref a:=rx
 exact Vx I1 ea c n l λu' s2 I2 ru=>⟨v,H1,I2,ru,q⟩
theorem agK(ha:PE X o ta)(hv:PE X value tv)(hs:swapsWith value (some (.Attribute o f pos')) pos.line X.env=pure false):PS X (.Assign [.Attribute o f pos'] value pos) (anm X.K ta tv f):=by
 intro pins s σ H D I h
 refine plainObj_wpAny_Assign_Attribute (fU (hv pins s σ H _ I h) ?_) hs
 rintro u s1 ⟨y,H1,I1,ry,q⟩
 refine fU (ha pins s1 σ H1 _ I1 q) ?_
 rintro ov s2 ⟨x,H2,I2,rx,a,C,dx,fs,ex,ea,c,n,l,q2⟩
 subst ex
 obtain rfl:ov=Value.ref a:=rx
 exact UT I2 ea c n l ry λs3 I3=>⟨σ,_,I3,q2⟩
end
structure iM(k:Nat)(A:Around):Prop where
 hd:A.handled=none
 dp:A.depth+3*k+5<recursionLimit
 un:A.units+16*k+200<cLine
theorem iM.mono(r:iM k A)(h:j<=k):iM j A:=⟨r.hd,by have:=r.dp;omega,by have:=r.un;omega⟩
theorem iM.deeper(r:iM (k+1) A)(env:Env):iM k (A.deeper env):=
 ⟨r.hd,by have:=r.dp;show A.depth+1+3*k+5<_;omega,by have:=r.un;show A.units+3+16*k+200<_;omega⟩
theorem Vg{A:Around}{C:Addr}{us:List Value}{kw:List (Str×Value)}:(A.under (.builtin "type.__call__" ⟨.ref C::us,kw⟩)).depth=A.depth+1:=by
 first | rfl | simp[Around.under,Code.weight,Code.isCreation,Code.isGuard,Code.isCaller,Code.frames,Code.isFrame,guardIds]
theorem Vf{A:Around}{C:Addr}{us:List Value}{kw:List (Str×Value)}:(A.under (.builtin "type.__call__" ⟨.ref C::us,kw⟩)).units=A.units+1:=by
 first | rfl | simp[Around.under,Code.cUnits,Code.frames,Code.isFrame]
theorem iM.make(r:iM (k+1) A)(C:Addr)(us:List Value)(kw:List (Str×Value)):iM k (A.under (.builtin "type.__call__" ⟨.ref C::us,kw⟩)):=
 ⟨r.hd,by have:=r.dp;rw[Vg];omega,by have:=r.un;rw[Vf];omega⟩
theorem iM.depth(r:iM k A):A.depth<recursionLimit:=by have:=r.dp;omega
theorem iM.units(r:iM k A):A.units+64<cLine:=by have:=r.un;omega
def af9:TA:=λ_ H Q=>Q [] H
def ajh(ta:TE)(tr:TA):TA:=λσ H Q=>ta σ H λx H1=>tr σ H1 λxs H2=>Q (x::xs) H2
section
variable{X:Cx}{e:Expr}{es:List Expr}{te:TE}{t:TA}{pos:Pos}
theorem agW:PA X [] af9:=λ_ _ _ _ H Q I h=>Calls.spliced_nil ⟨[],H,I,.nil,h⟩
theorem ad1(ha:PE X e te)(hr:PA X es t)(hs:starEach (e::es) X.env=(false,eval e X.env)::starEach es X.env:=by rfl):PA X (e::es) (ajh te t):=by
 intro pos pins s σ H Q I h
 rw[hs]
 show wpAny _ _ (spliced ((false,eval e X.env)::backTo pos (starEach es X.env))) _ _ s
 refine Calls.spliced_cons (fU (ha pins s σ H _ I h) ?_)
 rintro u s1 ⟨x,H1,I1,r1,q1⟩
 exact fU (hr pos pins s1 σ H1 _ I1 q1) λus s2 ⟨xs,H2,I2,r2,q2⟩=>⟨x::xs,H2,I2,.cons r1 r2,q2⟩
def am1(t:TA):TE:=λσ H Q=>t σ H λxs H1=>xs.length<=sizeLine/\∀p,H1 p=none->Q (.ref p) (upd H1 p (.tup xs))
def am7(t:TA):TE:=λσ H Q=>t σ H λxs H1=>xs.length<=sizeLine/\∀p,H1 p=none->Q (.ref p) (upd H1 p (.lst xs))
theorem agN{x1}(h:PA X es t):PE X (.Tuple es x1 pos) (am1 t):=by
 intro pins s σ H Q I hq
 refine wpAny_Tuple_spliced (fU (h pos pins s σ H _ I hq) λus s1 ⟨xs,H1,I1,r,z,q⟩=>⟨by rw[<-r.length];exact z,?_⟩)
 have hf:H1 s1.heap.objs.size=none:=I1.hok.fresh (zaa _)
 refine⟨.ref s1.heap.objs.size,upd H1 s1.heap.objs.size (.tup xs),I1.laid (t':=s1.toks) (λb u e=>zD _ e) (zaa _) ?_,rfl,q _ hf⟩
 exact⟨z,us,r,⟨_,yB _ rfl,rfl,_,rfl⟩⟩
theorem agS(h:PA X es t):PE X (.List es pos) (am7 t):=by
 intro pins s σ H Q I hq
 refine wpAny_List_spliced (fU (h pos pins s σ H _ I hq) λus s1 ⟨xs,H1,I1,r,z,q⟩=>⟨by rw[<-r.length];exact z,?_⟩)
 have hf:H1 s1.heap.objs.size=none:=I1.hok.fresh (zaa _)
 refine⟨.ref s1.heap.objs.size,upd H1 s1.heap.objs.size (.lst xs),I1.laid (t':=s1.toks) (λb u e=>zD _ e) (zaa _) ?_,rfl,q _ hf⟩
 exact⟨z,us,0,r,yB _ rfl⟩
end
abbrev Sp:=List V->Hp->VK->XK->Prop
abbrev V6:=List Env->Hp->Shared->XK->Value->Shared->Prop
structure V4(P:Program)(w:World)(K:Frag)(mg:Str->Option Value)(base:Heap)(A:Around)(outer:List Env)(s:Shared)(H:Hp):Prop where
 frames:A.frames=some outer
 mod:Mod K mg base
 bs:∀b o,base.get? b=some o->s.heap.get? b=some o/\H b=none
 Zk:base.objs.size<=s.heap.objs.size
 CN:s.heap.FunFrames base outer
 frf:∀b∈frs outer,H b=none
 hok:uU P w H s.heap
 bare:AllBare s.gens
def CE(outer:List Env)(P:Program)(w:World)(H:Hp)(s:Shared)(Q:VK)(u:Value)(s':Shared):Prop:=
 ∃v H',s'.os=s.os/\AllBare s'.gens/\Un (frs outer) [] H H' s.heap s'.heap/\uU P w H' s'.heap/\RelV v u/\Q v H'
def CR(CX:V6)(outer:List Env)(P:Program)(w:World)(H:Hp)(s:Shared)(Q:VK)(E:XK)(r:Result)(s':Shared):Prop:=
 match r with
 | .ok (.ret u)=>CE outer P w H s Q u s'
 | .ok _=>False
 | .error e=>CX outer H s E e s'
structure ie(P:Program)(w:World)(K:Frag)(mg:Str->Option Value)(base:Heap)(CX:V6)(k:Nat)(f:Addr)(fd:FuncData)(ps:List Str)(sp:Sp):Prop where
 len:∀vs H Q E,sp vs H Q E->vs.length=ps.length
 run:∀(A:Around) (outer:List Env) (s:Shared) (H:Hp) (args:Args) (us:List Value) (vs:List V) (Q:VK) (E:XK),iM k A->V4 P w K mg base A outer s H->BindsTo s fd args (ps.zip us)->Vals vs us->sp vs H Q E->
  codeAny (model P w) A (.call (.ref f) args) (CR CX outer P w H s Q E) s
theorem ie.imp{P:Program}{w:World}{K:Frag}{mg:Str->Option Value}{base:Heap}{CX:V6}{k:Nat}{f:Addr}{fd:FuncData}{ps:List Str}{sp sp':Sp}(F:ie P w K mg base CX k f fd ps sp)
  (h:∀vs H Q E,sp' vs H Q E->sp vs H Q E):ie P w K mg base CX k f fd ps sp':=
 ⟨λvs H Q E q=>F.len vs H Q E (h _ _ _ _ q),λA outer s H args us vs Q E hr he hb hv hs=>F.run A outer s H args us vs Q E hr he hb hv (h _ _ _ _ hs)⟩
theorem V4.make{P:Program}{w:World}{K:Frag}{mg:Str->Option Value}{base:Heap}{A:Around}{outer:List Env}{s:Shared}{H:Hp}(e:V4 P w K mg base A outer s H)(C:Addr)(us:List Value)(kw:List (Str×Value)):
  V4 P w K mg base (A.under (.builtin "type.__call__" ⟨.ref C::us,kw⟩)) outer s H:=⟨by first | exact e.frames | (simpa[Around.under,Code.envs,Code.isFrame,pushEnvs]using e.frames),e.mod,e.bs,e.Zk,e.CN,e.frf,e.hok,e.bare⟩
section
variable{X:Cx}{pins:List (Addr×Obj)}{σ:St}{H:Hp}{s s':Shared}
theorem Inv.env0(I:Inv X pins σ H s):V4 X.prog X.w X.K X.mg X.base X.A X.stack s H:=
 ⟨I.ok.frames,I.ok.mod,I.bs,yY I.ok.Zk I.sz,I.stack,I.JR,I.hok,I.bare⟩
theorem Inv.after(I:Inv X pins σ H s)(h:CE X.stack X.prog X.w H s Q u s'):EP X pins σ Q u s':=by
 obtain⟨v,H',os,bare,un,hok,r,q⟩:=h
 obtain⟨hh,g,d,t,os'⟩:=s'
 obtain rfl:os'=s.os:=os
 exact⟨v,H',I.call (h':=hh) (g':=g) (d':=d) (t':=t) (ch:=[]) un hok bare (λb z=>absurd z (by simp)),r,q⟩
end
def Binds(K:Frag)(fd:FuncData)(ps:List Str)(ds:List Value):Prop:=
 ∀(s:Shared) (us:List Value),K.In s.heap->(us++ds).length=ps.length->BindsTo s fd ⟨us,[]⟩ (ps.zip (us++ds))
theorem Binds.all{K:Frag}{fd:FuncData}{ps:List Str}(h:∀us:List Value,us.length=ps.length->bindArgs fd ⟨us,[]⟩=pure (ps.zip us)):Binds K fd ps []:=λs us _ hl=>by
 rw[List.append_nil]at hl ⊢
 exact .of_eq (h us hl)
section
variable{X:Cx}{CX:V6}{k:Nat}{f C:Addr}{fd:FuncData}{ps:List Str}{sp:Sp}{zA:List V}{ds:List Value}{E:XK}{x m:Str}{p pos apos:Pos}{e o:Expr}{es:List Expr}{ta:TE}{t:TA}
structure Mk(K:Frag)(C f:Addr):Prop where
 makes:PySem.W.makesIn K C=true
 init:findIn K (.ref C) "__init__" = some (some (.ref f))
 fn:isFn K (.ref f)=true
 kp:keepIn K (.ref C)=true
end
structure sy(N P:List Str)(sc:Scope):Prop where
 kind:sc.kind= .function
 co:sc.isCoroutine=false
 gen:sc.isGenerator=false
 nd:N.Nodup
 pre:N.take P.length=P
 par:∀x∈P,sc.names.lookup x=some .local\/sc.names.lookup x=some .cell
 ahi:∀y∈sc.names,y.2≠ .free
theorem O1{kindOf:Str->Option NameKind}{x:Str}:∀{binds:List (Str×Value)} {m:Str->Option Value},(∀v,(x,v)∉binds)->bindL kindOf binds m x=m x
 | [],_,_=>rfl
 | (n,v)::r,m,h=>by
  unfold bindL
  rw[O1 λw hw=>h w (yT _ hw)]
  split
  ·have:x≠n:=by rintro rfl;exact h v xB
   simp[this]
  ·rfl
theorem O3{kindOf:Str->Option NameKind}{x:Str}:∀{binds:List (Str×Value)} {m:Str->Option Value},(∀v,(x,v)∉binds)->bindC kindOf binds m x=m x
 | [],_,_=>rfl
 | (n,v)::r,m,h=>by
  unfold bindC
  rw[O3 λw hw=>h w (yT _ hw)]
  split
  ·rfl
  ·have:x≠n:=by rintro rfl;exact h v xB
   simp[this]
theorem O2{kindOf:Str->Option NameKind}{x:Str}:∀{P:List Str} {vs:List Value} {i:Nat} {m:Str->Option Value},P.Nodup->P[i]? = some x->vs[i]? = some v->kindOf x=some .local->
  bindL kindOf (P.zip vs) m x=some v
 | [],_,_,_,_,h,_,_=>by simp at h
 | _::_,[],_,_,_,_,h,_=>by simp at h
 | p::P,w::vs,0,m,nd,h1,h2,hk=>by
  simp at h1 h2;subst h1;subst h2
  show bindL kindOf ((p,w)::P.zip vs) m p=_
  unfold bindL
  rw[O1 λv hv=>(List.nodup_cons.mp nd).1 (List.of_mem_zip hv).1,if_pos hk]
  simp
 | p::P,w::vs,i+1,m,nd,h1,h2,hk=>by
  show bindL kindOf ((p,w)::P.zip vs) m x=_
  unfold bindL
  exact O2 (i:=i) (List.nodup_cons.mp nd).2 (by simpa using h1) (by simpa using h2) hk
theorem O4{kindOf:Str->Option NameKind}{x:Str}:∀{P:List Str} {vs:List Value} {i:Nat} {m:Str->Option Value},P.Nodup->P[i]? = some x->vs[i]? = some v->kindOf x≠some .local->
  bindC kindOf (P.zip vs) m x=some v
 | [],_,_,_,_,h,_,_=>by simp at h
 | _::_,[],_,_,_,_,h,_=>by simp at h
 | p::P,w::vs,0,m,nd,h1,h2,hk=>by
  simp at h1 h2;subst h1;subst h2
  show bindC kindOf ((p,w)::P.zip vs) m p=_
  unfold bindC
  rw[O3 λv hv=>(List.nodup_cons.mp nd).1 (List.of_mem_zip hv).1,if_neg hk]
  simp
 | p::P,w::vs,i+1,m,nd,h1,h2,hk=>by
  show bindC kindOf ((p,w)::P.zip vs) m x=_
  unfold bindC
  exact O4 (i:=i) (List.nodup_cons.mp nd).2 (by simpa using h1) (by simpa using h2) hk
def start(N:List Str)(vs:List V):St:=vs.map some++List.replicate (N.length - vs.length) none
noncomputable def yJ(CX:V6)(P:Program)(w:World)(K:Frag)(mg:Str->Option Value)(base:Heap)(N:List Str)(qual:Str)(scope:Scope)(f:Addr)(cd:Value)(A:Around)(outer:List Env)(s:Shared)(H:Hp)(E:XK):Cx where
 prog:=P
 w:=w
 K:=K
 mg:=mg
 base:=base
 A:=A.deeper (envOfC qual scope s.heap.objs.size f cd)
 N:=N
 s₀:=s
 H₀:=H
 env:=envOfC qual scope s.heap.objs.size f cd
 outer:=outer
 stack:=envOfC qual scope s.heap.objs.size f cd::outer
 ex:=[]
 calm:=true
 fn:=λ_=>true
 pn:=[]
 xe:=λe s'=>wpAny (model P w) (A.deeper (envOfC qual scope s.heap.objs.size f cd)) (leaving (envOfC qual scope s.heap.objs.size f cd) e) (λ_ s''=>CX outer H s E e s'') (λe' s''=>CX outer H s E e' s'') s'
theorem T9{sc:Scope}{n:Nat}{x:Str}(h:sc.names.lookup x=some .cell):∃c,(cellsFrom n sc.names []).lookup x=some c:=by
 have q:=PySem.W.cellsFrom_some sc.names n [] (.inl h)
 exact Option.isSome_iff_exists.mp q
theorem Y4{CX:V6}{P:Program}{w:World}{K:Frag}{mg:Str->Option Value}{base:Heap}{N ps:List Str}{qual:Str}{scope:Scope}{f:Addr}{cd:Value}{A:Around}{outer:List Env}{s s1:Shared}{H:Hp}{E:XK}{us:List Value}{vs:List V}
  (S:sy N ps scope) (hd:A.handled=none) (e0:V4 P w K mg base A outer s H) (hl:vs.length=ps.length) (r:Vals vs us)
  (x:InCallC s s.heap.objs.size (bindL (envOfC qual scope s.heap.objs.size f cd).kindOf (ps.zip us) λ_=>none) (cellsFrom (s.heap.objs.size+1) scope.names []) (bindC (envOfC qual scope s.heap.objs.size f cd).kindOf (ps.zip us) λ_=>none) s1):
  Inv (yJ CX P w K mg base N qual scope f cd A outer s H E) [] (start N vs) H s1:=by
 have hpl:ps.length<=N.length:=by have:=congrArg List.length S.pre;rw[List.length_take]at this;omega
 obtain⟨h1,tk,rfl,hk⟩:=x.done
 have noA:∀b:Addr,b∉(yJ CX P w K mg base N qual scope f cd A outer s H E).ex:=λb z=>absurd (show b∈([]:List Addr)from z) (by simp)
 refine⟨⟨e0.mod,S.kind,rfl,rfl,zaa _,λy z c h1 h2=> ?_,λy hy=> ?_,λy c _ h=> ?_,λ_=>hd,Around.frames_deeper e0.frames,.inr ⟨rfl,rfl⟩,λb z=>absurd z (noA b),e0.bs,e0.Zk,λb _ _=>noA b,λb z=>absurd z (noA b),e0.CN,e0.frf⟩,
  rfl,e0.bare,Un.kept hk,⟨_,x.toInCall.ns,λi y v h1 h2 h3=> ?_⟩,λy c h=>⟨_,x.cell y c h⟩,e0.hok.fresh (zaa _),λy c h=> ?_,λp hp=>absurd (show p∈([]:List (Addr×Obj))from hp) (by simp),e0.hok.kept hk,?_⟩
 ·exact name_of_addr x.apart (PySem.mem_of_lookup h1) (PySem.mem_of_lookup h2)
 ·have hy:scope.names.lookup y=some .cell\/scope.names.lookup y=some .free:=hy
  rcases hy with hy | hy
  ·exact T9 hy
  ·exact absurd rfl (S.ahi _ (PySem.mem_of_lookup hy))
 ·exact Nat.le_of_lt (x.above y c (PySem.mem_of_lookup h))
 ·have hi:i<vs.length:=by
   unfold start at h2
   by_cases hi:i<vs.length
   ·exact hi
   ·rw[zac (by simpa using hi)]at h2
    rw[List.getElem?_replicate]at h2
    split at h2<;>cases h2
  have ha:vs[i]? = some v:=by
   unfold start at h2
   rw[zad (by simpa using hi),zal]at h2
   cases e:vs[i]? with
   | none=>rw[e]at h2;cases h2
   | some a=>rw[e]at h2;cases h2;rfl
  obtain⟨u,hu,rv⟩:=r.get ha
  have hp:ps[i]? = some y:=by
   rw[<-S.pre,List.getElem?_take_of_lt ()];exact h1
  have ndP:ps.Nodup:=by rw[<-S.pre];exact S.nd.sublist (List.take_sublist _ _)
  refine⟨u,rv,?_⟩
  rcases S.par y (List.mem_of_getElem? hp)with k | k
  ·exact .inl ⟨k,O2 ndP hp hu k⟩
  ·obtain⟨c,e⟩:=T9 (n:=s.heap.objs.size+1) k
   refine .inr ⟨.inl k,c,e,?_⟩
   have q:=x.cell y c e
   rw[O4 ndP hp hu (by show scope.names.lookup y≠_;rw[k];decide)]at q
   exact q
 ·exact e0.hok.fresh (Nat.le_of_lt (x.above y c (PySem.mem_of_lookup h)))
 ·unfold start
  show _=N.length
  rw[List.length_append,zam,List.length_replicate]
  omega
theorem afM{CX:V6}{P:Program}{w:World}{K:Frag}{mg:Str->Option Value}{base:Heap}{k:Nat}{f:Addr}{name qual:Str}{params:Arguments}{body:List Stmt}{scope:Scope}{dV kV doc pm cdv ct oc:Value}{an od:Option Addr}
  {osl:Array (Option Value)} {N ps:List Str} {sp:Sp} (lk:K.lookup f=some ⟨oc,od,.func (fnOf name qual params body scope dV kV doc pm an cdv ct),osl⟩) (hcd:codeIn K cdv qual=true) (S:sy N ps scope)
  (len:∀vs H Q E,sp vs H Q E->vs.length=ps.length)
  (hbody:∀(A:Around) (outer:List Env) (s:Shared) (H:Hp) (vs:List V) (Q:VK) (E:XK),iM k (A.deeper (envOfC qual scope s.heap.objs.size f cdv))->sp vs H Q E->
   ∃t,Ke (yJ CX P w K mg base N qual scope f cdv A outer s H E) body t/\t {nx:=λ_ H'=>Q .non H',rt:=Q} (start N vs) H):
  ie P w K mg base CX (k+1) f (fnOf name qual params body scope dV kV doc pm an cdv ct) ps sp:=by
 refine⟨len,λA outer s H args us vs Q E hr e0 hb r hsp=> ?_⟩
 have hl:=len _ _ _ _ hsp
 have KX:K.In s.heap:=e0.mod.kin.keeps λb o e=>(e0.bs b o e).1
 have lim:s.heap.NoLimit:=e0.mod.nolimit.keeps λb o e=>(e0.bs b o e).1
 have hkind:∀y∈ps.zip us,scope.names.lookup y.1=some .local\/(scope.names.lookup y.1=some .cell/\((cellsFrom (s.heap.objs.size+1) scope.names []).lookup y.1).isSome=true):=λ⟨n,v⟩ hy=>by
  rcases S.par n (List.of_mem_zip hy).1 with q | q
  ·exact .inl q
  ·exact .inr ⟨q,PySem.W.cellsFrom_some _ _ _ (.inl q)⟩
 refine codeAny_call_function hr.depth (KX _ _ lk) rfl S.co S.gen rfl (PySem.W.codeRec_of KX hcd) (hb _ _ _ _ ?_)
 refine wpAny_newFunctionEnv_cells S.kind hkind λenv he s1 x=> ?_
 subst he
 refine⟨lim.keeps x.toInCall.keep,codeAny_func ?_⟩
 obtain⟨t,ht,hq⟩:=hbody A outer s H vs Q E (hr.deeper _) hsp
 have I:Inv (yJ CX P w K mg base N qual scope f cdv A outer s H E) [] (start N vs) H s1:=Y4 S hr.hd e0 hl r x
 refine vE (ht [] s1 (start N vs) H _ I hq) (λfl s' hs=> ?_) λe s' hs=>hs
 have fin:∀{σ':St} {H':Hp} {v:V} {u:Value},Inv (yJ CX P w K mg base N qual scope f cdv A outer s H E) [] σ' H' s'->RelV v u->Q v H'->CE outer P w H s Q u s':=
  λ{σ' H' v u} J rv q=>⟨v,H',J.os,J.bare,J.base,J.hok,rv,q⟩
 cases fl with
 | ret u=>
  obtain⟨v,σ',H',J,rv,q⟩:=hs
  exact fin J rv q
 | next=>
  obtain⟨σ',H',J,q⟩:=hs
  exact fin (v:=V.non) (u:=Value.none) J rfl q
 | brk=>
  obtain⟨_,_,_,q⟩:=hs
  exact False.elim q
 | cont=>
  obtain⟨_,_,_,q⟩:=hs
  exact False.elim q
section
variable{X:Cx}{x:Str}{p pos:Pos}{e:Expr}{es:List Expr}{t:TA}{id T:String}{r:List V->Hp->VK->Prop}
def tCB(r:List V->Hp->VK->Prop)(t:TA):TE:=λσ H Q=>t σ H λvs H1=>r vs H1 Q
theorem aa9(hc:rM X (.builtin id) r)(hg:Gl X x)(hm:X.mg x=none)(hv:bootBuiltins x=some (.builtin id))(ha:PA X (e::es) t)(hn:x≠ "__name__" := by decide)(hdb:(x==("__debug__" : Str))=false:=by decide)
  (he:starEach (e::es) X.env=(false,eval e X.env)::starEach es X.env:=by rfl) (hpl:(backTo pos (starEach es X.env)).any (·.1)=false:=by rfl):PE X (.Call (.Name x p) (e::es) [] pos) (tCB r t):=by
 intro pins s σ H Q I h
 refine wpAny_Call_Name_kw (HN I hg hm hv ?_ hn hdb)
 exact PyProof.Rows.callWith_builtin1 (fU (ha pos pins s σ H _ I h) λus s1 ⟨vs,H1,I1,r1,q1⟩=>hc pins s1 σ H1 vs us Q I1 r1 q1) he hpl
theorem Yt(hc:rM X (.type T) r)(hg:Gl X x)(hm:X.mg x=none)(hv:bootBuiltins x=some (.type T))(ha:PA X (e::es) t)(hn:x≠ "__name__" := by decide)(hdb:(x==("__debug__" : Str))=false:=by decide)
  (he:starEach (e::es) X.env=(false,eval e X.env)::starEach es X.env:=by rfl) (hpl:(backTo pos (starEach es X.env)).any (·.1)=false:=by rfl):PE X (.Call (.Name x p) (e::es) [] pos) (tCB r t):=by
 intro pins s σ H Q I h
 refine wpAny_Call_Name_kw (HN I hg hm hv ?_ hn hdb)
 exact PyProof.Rows.callWith_type1 (fU (ha pos pins s σ H _ I h) λus s1 ⟨vs,H1,I1,r1,q1⟩=>hc pins s1 σ H1 vs us Q I1 r1 q1) he hpl
end
end L2
namespace HT
open PySem PyProof.Rows
noncomputable def lexLt:List Int->List Int->Bool
 | [],[]=>false
 | [],_::_=>true
 | _::_,[]=>false
 | x::xs,y::ys=>if x=y then lexLt xs ys else decide (x<y)
theorem Vn(x y:Int)(xs ys:List Int):lexLt (x::xs) (y::ys)=if x=y then lexLt xs ys else decide (x<y):=rfl
theorem Nv:lexLt [] []=false:=rfl
theorem Lx(y:Int)(ys:List Int):lexLt [] (y::ys)=true:=rfl
theorem Ly(x:Int)(xs:List Int):lexLt (x::xs) []=false:=rfl
theorem acn(A:Around)(s:Shared)(a:Int)(t:Tok)(c:Int)(u:Tok):∃e,SeqAt.EqAt A s (.int a t) (.int c u) e/\(e=true↔a=c):=
 ⟨(a==c),SeqAt.EqAt.int_int a t c u,by simp⟩
theorem aaO(A:Around)(s:Shared)(a:Int)(t:Tok)(c:Int)(u:Tok)(prog:Program)(w:World)(E:Value->Shared->Prop)(Q:Value->Shared->Prop)(h:Q (.bool (decide (a<c))) s):
  wpAny (model prog w) A (richCompare .Lt (.int a t) (.int c u)) Q E s:=
 (PyProof.Rows.lt_int h:wpAny (model prog w) A (compareOp .Lt (.int a t) (.int c u)) Q E s)
section
open PySem.SeqAt
open PySem.AutoSeq1 (wpAny_loadPart')
open PySem.MeetsSeq PySem.MeetsSeq2 PySem.MeetsSeq3
theorem Nf(l b:Addr)(items items2:Array Value)(n n2:Nat)(dd dd2:Option Addr)(sl sl2:Array (Option Value))(ns ms:List Int)(hi:IntsAre items.toList ns)(hj:IntsAre items2.toList ms):
  Meets (Builtin.«tuple.__lt__» ⟨[.ref l,.ref b],[]⟩)
   (λ_ R s=>s.heap.get? l=some {cls:= .type "tuple",dict:=dd,data:= .seq items n,slots:=sl}/\s.heap.get? b=some {cls:= .type "tuple",dict:=dd2,data:= .seq items2 n2,slots:=sl2}/\
    R (.ok (.ret (.bool (lexLt ns ms)))) s):=
 .of_wp λprog w A R s h=>by
  obtain⟨hp,g,d,tk,os⟩:=s;obtain⟨hl,hb,h⟩:=h
  have f2:=AutoSeq1.sub_tuple_tuple
  have z1:items.size=ns.length:=by rw[<-hi.length];simp
  have z2:items2.size=ms.length:=by rw[<-hj.length];simp
  wp_walk using wpAny_loadPart' hl,wpAny_loadPart' hb,wpAny_forIn_list _ (λrest b s'=>b.1=none/\s'=⟨hp,g,d,tk,os⟩/\∃(vs ws:List Value) (ns' ms':List Int),rest=vs.zip ws/\
   IntsAre vs ns'/\IntsAre ws ms'/\ns'.length+items2.size=ms'.length+items.size/\R (.ok (.ret (.bool (lexLt ns' ms')))) ⟨hp,g,d,tk,os⟩) _
  case turn=>
   rintro⟨y,x⟩ rest b s' ⟨hb',rfl,vs,ws,ns',ms',hz,hvi,hwi,hlen,hR⟩
   cases hvi with
   | nil=>rw[List.zip_nil_left]at hz;cases hz
   | cons a t aoh=>
    cases hwi with
    | nil=>rw[List.zip_nil_right]at hz;cases hz
    | cons c u aog=>
     rw[List.zip_cons_cons]at hz
     injection hz with hyx hrest
     injection hyx with hy hx
     subst hy hx
     rw[Vn]at hR
     simp only[List.length_cons]at hlen
     obtain⟨e,he,hiff⟩:=acn A.in1 ⟨hp,g,d,tk,os⟩ a t c u
     refine zC (he prog w _ _ ?_)
     cases e with
     | true=>
      rw[if_pos (hiff.mp rfl)]at hR
      wp_walk
      exact⟨rfl,rfl,_,_,_,_,hrest,aoh,aog,(),hR⟩
     | false=>
      rw[if_neg (λq=>absurd (hiff.mpr q) xA)]at hR
      have hri:=aaO A.in1 ⟨hp,g,d,tk,os⟩ a t c u prog w
      wp_walk using hri
      exact⟨_,rfl,by simpa using hR⟩
  case fin=>
   rintro⟨b1,b2⟩ s' ⟨hb',rfl,vs,ws,ns',ms',hz,hvi,hwi,hlen,hR⟩
   simp only at hb'
   subst hb'
   have hv:lexLt ns' ms'=decide (items.size<items2.size):=by
    cases hvi with
    | nil=>
     cases hwi with
     | nil=>
      simp only[List.length_nil]at hlen
      rw[Nv]
      exact(zae ()).symm
     | cons c u hw=>
      simp only[List.length_nil,List.length_cons]at hlen
      rw[Lx]
      exact(zaf ()).symm
    | cons a t hv=>
     cases hwi with
     | nil=>
      simp only[List.length_nil,List.length_cons]at hlen
      rw[Ly]
      exact(zae ()).symm
     | cons c u hw=>
      rw[List.zip_cons_cons]at hz
      cases hz
   rw[hv]at hR
   wp_walk
   exact⟨_,rfl,by simpa[Builtin.Tuple.tupleCompareSizes]using hR⟩
  case h=>
   exact⟨rfl,rfl,items.toList,items2.toList,ns,ms,rfl,hi,hj,(),h⟩
end
section
variable{prog:Program}{w:World}{A:Around}{E:Value->Shared->Prop}{s:Shared}
theorem Vk{Q:Value->Shared->Prop}(hl:IsTup s.heap l items)(hb:IsTup s.heap b items2)(hi:IntsAre items.toList ns)(hj:IntsAre items2.toList ms)
  (hu:A.units<cLine) (h:Q (.bool (lexLt ns ms)) s):wpAny (model prog w) A (compareOp .Lt (.ref l) (.ref b)) Q E s:=by
 obtain⟨⟨cls,dd,data,sl⟩,ho,hc,n,hd⟩:=id hl
 obtain⟨⟨cls2,dd2,data2,sl2⟩,ho2,hc2,n2,hd2⟩:=id hb
 simp only at hc hd hc2 hd2
 subst hc hd hc2 hd2
 exact richCompare_meets_room (op:= .Lt) ⟨_,ho,rfl⟩ ⟨_,ho2,rfl⟩ PySem.F.slot_tuple_lt PySem.F.entry_tuple_lt (PySem.F.args_tuple_lt_2 _ _) (Nf l b items items2 n n2 dd dd2 sl sl2 ns ms hi hj)
  ⟨ho,ho2,show Value.bool (lexLt ns ms)≠Value.notImplemented/\Q (.bool (lexLt ns ms)) s from⟨(λx=>nomatch x),h⟩⟩ hu
theorem aeT{Q:Value->Shared->Prop}(ht:IsTup s.heap t vs.toArray)(hb:IsTup s.heap b ws.toArray)(hv:vs≠[])
  (h1:ws=[]->Q (.ref t) s) (h2:ws≠[]->Q (.ref s.heap.objs.size) {s with heap:=s.heap.push {cls:= .type "tuple",data:= .seq (vs++ws).toArray}})
  (hsz:vs.length+ws.length<=sizeLine):wpAny (model prog w) A (binaryOp .Add (.ref t) (.ref b)) Q E s:=by
 obtain⟨⟨cls,dd,data,sl⟩,ho,hc,n,hd⟩:=id ht
 obtain⟨⟨cls2,dd2,data2,sl2⟩,ho2,hc2,n2,hd2⟩:=id hb
 simp only at hc hd hc2 hd2
 subst hc hd hc2 hd2
 have e:vs.toArray++ws.toArray=(vs++ws).toArray:=by simp
 by_cases hw:ws=[]
 ·exact concat_meets ⟨_,ho,rfl⟩ ⟨_,ho2,rfl⟩ noFill_tuple_add seq_tuple_add PySem.F.slot_tuple_add PySem.F.entry_tuple_add (PySem.F.args_tuple_add_2 _ _)
   (tuple_addW1 t b vs.toArray ws.toArray n n2 dd dd2 sl sl2 (by simpa using hv) (by simp[hw])) ⟨ho,ho2,h1 hw⟩
 ·refine concat_meets ⟨_,ho,rfl⟩ ⟨_,ho2,rfl⟩ noFill_tuple_add seq_tuple_add PySem.F.slot_tuple_add PySem.F.entry_tuple_add (PySem.F.args_tuple_add_2 _ _)
   (tuple_addW2 t b vs.toArray ws.toArray n n2 dd dd2 sl sl2 (by simpa using hv) (by simpa using hw) (by rw[List.size_toArray,List.size_toArray];exact hsz)) ⟨ho,ho2,?_⟩
  rw[e]
  exact h2 hw
def a_(n d:Nat):Option Int->Nat
 | none=>d
 | some v=>if v<0 then(v+(n:Int)).toNat else min v.toNat n
theorem aay(n d:Nat):a_ n d none=d:=rfl
theorem ady(n d k:Nat):a_ n d (some (k:Int))=min k n:=by
 show(if(k:Int)<0 then((k:Int)+(n:Int)).toNat else min (k:Int).toNat n)=min k n
 rw[if_neg (),zak]
theorem agr(n d:Nat)(hd:d<=n)(o:Option Int):a_ n d o<=n:=by
 cases o with
 | none=>exact hd
 | some v=>
  show(if v<0 then(v+(n:Int)).toNat else min v.toNat n)<=n
  by_cases hv:v<0
  ·rw[if_pos hv];omega
  ·rw[if_neg hv];exact Nat.min_le_right _ _
theorem XJ(v:Int)(n d:Nat):(if v<0 then max (v+(n:Int)) 0 else min v (n:Int))=((a_ n d (some v):Nat):Int):=by
 show(if v<0 then max (v+(n:Int)) 0 else min v (n:Int))=(((if v<0 then(v+(n:Int)).toNat else min v.toNat n):Nat):Int)
 by_cases hv:v<0
 ·simp only[if_pos hv];omega
 ·simp only[if_neg hv];omega
theorem V1(lo hi:Option Int)(n:Nat):Builtin.Slice.sliceAdjust lo hi 1 (n:Int)=(((a_ n 0 lo:Nat):Int),((a_ n n hi:Nat):Int)):=by
 have h1:¬((1:Int)<0):=()
 unfold Builtin.Slice.sliceAdjust
 simp only[h1,if_false]
 refine Prod.ext ?_ ?_
 ·cases lo with
  | none=>rfl
  | some v=>exact XJ v n 0
 ·cases hi with
  | none=>rfl
  | some v=>exact XJ v n n
theorem U_(i j:Nat):Builtin.Slice.slicePlaces (i:Int) (j:Int) 1=j - i:=by
 unfold Builtin.Slice.slicePlaces
 have h1:(1:Int) > 0:=()
 simp only[h1,if_true,Int.ediv_one]
 split<;>omega
theorem KD{Q:Option Int->Shared->Prop}(p:IsPart v o)(h:Q o s):wpAny (model prog w) A (Builtin.Slice.slicePartIndex v) Q E s:=by
 cases p with
 | none=>exact slicePart_none h
 | int i t=>exact slicePart_int h
theorem v_{lo hi:Option Int}{n:Nat}{Q:Int×Int×Nat->Shared->Prop}(hs:s.heap.IsSliceOf sl vl vu .none)(pl:IsPart vl lo)(pu:IsPart vu hi)
  (h:Q (((a_ n 0 lo:Nat):Int),1,a_ n n hi - a_ n 0 lo) s):wpAny (model prog w) A (Builtin.Slice.sliceApplied (.ref sl) (pure (n:Int))) Q E s:=by
 obtain⟨os,hos,hcs,hds⟩:=id hs
 unfold Builtin.Slice.sliceApplied Builtin.Slice.sliceFields
 refine zC (zC (vS hos hds (x:=vl) rfl (zC (vS hos hds (x:=vu) rfl (zC (vS hos hds (x:= .none) rfl (zI ?_)))))))
 refine zC (slicePart_none ?_)
 show wpAny _ _ (if((1:Int)==0)=true then _ else _) _ _ s
 rw[if_neg (by decide)]
 refine zC (KD pl (zC (KD pu (zC (zI ?_)))))
 show wpAny _ _ (match Builtin.Slice.sliceAdjust lo hi 1 (n:Int)with | (lo,hi)=>pure (lo,(1:Int),Builtin.Slice.slicePlaces lo hi 1)) _ _ s
 rw[V1 lo hi n]
 show wpAny _ _ (pure (((a_ n 0 lo:Nat):Int),(1:Int),Builtin.Slice.slicePlaces ((a_ n 0 lo:Nat):Int) ((a_ n n hi:Nat):Int) 1)) _ _ s
 rw[U_]
 exact zI h
theorem aaV(xs:Array Value)(i k:Nat):((List.range k).filterMap λ(m:Nat)=>xs[((i:Int)+(m:Int)*1).toNat]?).toArray=((xs.toList.drop i).take k).toArray:=by
 have e:(λ(m:Nat)=>xs[((i:Int)+(m:Int)*1).toNat]?)=λm=>xs[i+m]? := by
  funext m
  have:((i:Int)+(m:Int)*1).toNat=i+m:=()
  rw[this]
 rw[e]
 have:=pick_run xs i k
 rw[List.filterMap_map]at this
 have e2:((λx=>xs[x]?)∘λx=>i+x)=λm=>xs[i+m]? := rfl
 rw[e2]at this
 rw[this]
theorem GQ{items:Array Value}{lo hi:Option Int}{Q:Value->Shared->Prop}(ht:IsTup s.heap t items)(hs:s.heap.IsSliceOf sl vl vu .none)(pl:IsPart vl lo)(pu:IsPart vu hi)
  (hw:¬(a_ items.size 0 lo=0/\a_ items.size items.size hi=items.size))
  (h:Q (.ref s.heap.objs.size) {s with heap:=s.heap.push {cls:= .type "tuple",data:= .seq ((items.toList.drop (a_ items.size 0 lo)).take (a_ items.size items.size hi - a_ items.size 0 lo)).toArray}})
  (hsz:items.size<=sizeLine):wpAny (model prog w) A (getItem (.ref t) (.ref sl)) Q E s:=by
 have Xl:sizeOk (.seq ((items.toList.drop (a_ items.size 0 lo)).take (a_ items.size items.size hi - a_ items.size 0 lo)).toArray):=by
  show((items.toList.drop (a_ items.size 0 lo)).take (a_ items.size items.size hi - a_ items.size 0 lo)).toArray.size<=sizeLine
  rw[List.size_toArray,List.length_take,List.length_drop,Array.length_toList]
  omega
 have hj:a_ items.size items.size hi<=items.size:=agr _ _ (zaa _) hi
 obtain⟨os,hos,hcs,hds⟩:=id hs
 have hTs:s.TypeIs (.ref sl) "slice" := ⟨os,hos,hcs⟩
 unfold getItem
 try with_reducible refine wpAny_holding ?_
 first | refine zC (zI ?_) | skip
 refine zC (wpAny_sequenceKey ht.typeIs (by decide) ?_)
 refine zC (zag (name:=Str.ofString "__getitem__") ht.typeIs PyProof.Rows.slot_tuple_getitem
  (uS PyProof.Rows.slot_tuple_getitem ht.typeIs entry_tuple_getitem ?_ (args_tuple_getitem _ _)))
 show wpAny _ _ (Builtin.Tuple.tupleItemsOf (.ref t) >>= _) _ _ s
 refine zC (tupleItemsOf_ ht ?_)
 refine zC (wpAny_typeOf hTs ?_)
 rw[if_pos (by decide)]
 refine zC (v_ hs pl pu ?_)
 have hno:¬((((a_ items.size 0 lo:Nat):Int)==0&&(1:Int)==1&&(a_ items.size items.size hi - a_ items.size 0 lo)==items.size)=true):=by
  intro q
  rw[Bool.and_eq_true,Bool.and_eq_true]at q
  have q1:((a_ items.size 0 lo:Nat):Int)=0:=eq_of_beq q.1.1
  have q2:a_ items.size items.size hi - a_ items.size 0 lo=items.size:=eq_of_beq q.2
  exact hw ⟨(),()⟩
 show wpAny _ _ (if(((a_ items.size 0 lo:Nat):Int)==0&&(1:Int)==1&&(a_ items.size items.size hi - a_ items.size 0 lo)==items.size)=true then _ else _) _ _ s
 rw[if_neg hno,aaV]
 first
  | exact zC (m:=Builtin.Tuple.tupleExact _) (wT (zI ⟨_,rfl,zI h⟩) Xl)
  | exact zC (m:=Builtin.Tuple.tupleExact _) (wT (zC (zI (zI ⟨_,rfl,zI h⟩))) Xl)
  | exact zC (zC (m:=Builtin.Tuple.tupleExact _) (wT (zI (zI ⟨_,rfl,zI h⟩)) Xl))
  | exact zC (zC (m:=Builtin.Tuple.tupleExact _) (wT (zI ⟨_,rfl,zI h⟩) Xl))
end
end HT
namespace L2
open PySem PySem.Spec PyProof.Rows
abbrev TO:=St->Hp->(Option Int->Hp->Prop)->Prop
def PO(X:Cx)(e:Option Expr)(t:TO):Prop:=
 ∀(pins:List (Addr×Obj)) (s:Shared) (σ:St) (H:Hp) (Q:Option Int->Hp->Prop),Inv X pins σ H s->t σ H Q->
  wpAny (model X.prog X.w) X.A (evalPart e X.env) (λu s'=>∃o H',Inv X pins σ H' s'/\IsPart u o/\Q o H') X.xe s
def adb:TO:=λ_ H Q=>Q none H
def aja(t:TE):TO:=λσ H Q=>t σ H λx H1=>∃i,x= .int i/\Q (some i) H1
theorem intsAre_of:∀{us:List Value},Vals (ns.map V.int) us->IntsAre us ns:=by
 induction ns with
 | nil=>intro us r;rw[List.map_nil]at r;cases r;exact .nil
 | cons n ns ih=>
  intro us r
  rw[List.map_cons]at r
  cases r with
  | cons r1 r2=>
   obtain⟨t,e⟩:=r1
   subst e
   exact .cons n t (ih r2)
section
variable{X:Cx}{e:Expr}{te:TE}{lo hi:Option Expr}{tl th:TO}{pos p2:Pos}
theorem adT:PO X none adb:=by
 intro pins s σ H Q I h
 rw[evalPart_none]
 exact zI ⟨none,H,I,.none,h⟩
theorem adS(h:PE X e te):PO X (some e) (aja te):=by
 intro pins s σ H Q I hw
 rw[evalPart_some]
 refine fU (h pins s σ H _ I hw) ?_
 rintro u s1 ⟨x,H1,I1,r1,q1⟩
 obtain⟨i,rfl,q⟩:=q1
 obtain⟨t,rfl⟩:=r1
 exact⟨some i,H1,I1,.int i t,q⟩
def SlR(X:Cx)(r:V->Option Int->Option Int->Hp->VK->Prop):Prop:=
 ∀(pins:List (Addr×Obj)) (s:Shared) (σ:St) (H:Hp) (x:V) (v vl vu:Value) (lo hi:Option Int) (sl:Addr) (Q:VK),Inv X pins σ H s->RelV x v->s.heap.IsSliceOf sl vl vu .none->IsPart vl lo->IsPart vu hi->r x lo hi H Q->
  ∃T id,typeLookup (.type T) "__getitem__" = pure (some (.builtin id))/\s.TypeIs v T/\wpAny (model X.prog X.w) X.A (getItem v (.ref sl)) (EP X pins σ Q) X.xe s
theorem SlR.or{r r':V->Option Int->Option Int->Hp->VK->Prop}(h:SlR X r)(h':SlR X r'):SlR X (λx lo hi H Q=>r x lo hi H Q\/r' x lo hi H Q):=by
 intro pins s σ H x v vl vu lo hi sl Q I rx hs pl pu q
 rcases q with q | q
 ·exact h pins s σ H x v vl vu lo hi sl Q I rx hs pl pu q
 ·exact h' pins s σ H x v vl vu lo hi sl Q I rx hs pl pu q
def tSl(r:V->Option Int->Option Int->Hp->VK->Prop)(te:TE)(tl th:TO):TE:=λσ H Q=>te σ H λx H1=>tl σ H1 λl H2=>th σ H2 λu H3=>r x l u H3 Q
theorem Sv{r:V->Option Int->Option Int->Hp->VK->Prop}(hr:SlR X r)(he:PE X e te)(hl:PO X lo tl)(hu:PO X hi th):PE X (.Subscript e (.Slice lo hi none p2) pos) (tSl r te tl th):=by
 intro pins s σ H Q I h
 refine Subscript_ (fU (he pins s σ H _ I h) ?_)
 rintro v s1 ⟨x,H1,I1,r1,q1⟩
 refine wpAny_Slice (fU (hl pins s1 σ H1 _ I1 q1) ?_)
 rintro vl s2 ⟨l,H2,I2,pl,q2⟩
 refine fU (hu pins s2 σ H2 _ I2 q2) ?_
 rintro vu s3 ⟨u,H3,I3,pu,q3⟩
 rw[evalPart_none]
 refine zI ?_
 have I4:Inv X pins σ H3 {s3 with heap:=s3.heap.push {cls:= .type "slice",data:= .fields #[vl,vu,.none]}}:=I3.kept (t':=s3.toks) λb ob q=>zD _ q
 obtain⟨T,id,hT,ht,hg⟩:=hr pins {s3 with heap:=s3.heap.push {cls:= .type "slice",data:= .fields #[vl,vu,.none]}} σ H3 x v vl vu l u s3.heap.objs.size Q I4 r1 (Heap.IsSliceOf.new ..) pl pu q3
 show wpAny (model X.prog X.w) X.A (subscriptTail e (.Slice lo hi none p2) v (.ref s3.heap.objs.size)) (EP X pins σ Q) X.xe {s3 with heap:=s3.heap.push {cls:= .type "slice",data:= .fields #[vl,vu,.none]}}
 exact tail_any (ops:=[.ref s3.heap.objs.size,v]) ht hT hg (by with_unfolding_all rfl)
def T6(xs:List V)(lo hi:Option Int):List V:=(xs.drop (HT.a_ xs.length 0 lo)).take (HT.a_ xs.length xs.length hi - HT.a_ xs.length 0 lo)
theorem Jj(xs:List V)(lo hi:Option Int):(T6 xs lo hi).length<=xs.length:=by
 unfold T6
 rw[List.length_take,List.length_drop]
 omega
def anv(K:Frag):V->Option Int->Option Int->Hp->VK->Prop:=λx lo hi H Q=>∃a xs,x= .ref a/\nu K H a xs/\
 ¬(HT.a_ xs.length 0 lo=0/\HT.a_ xs.length xs.length hi=xs.length)/\∀p,H p=none->Q (.ref p) (upd H p (.tup (T6 xs lo hi)))
theorem aai:SlR X (anv X.K):=by
 intro pins s σ H x v vl vu lo hi sl Q I rx hs pl pu h
 obtain⟨a,xs,rfl,hx,hw,q⟩:=h
 cases rx
 obtain⟨its,r,ht,hz⟩:=I.tuple hx
 have hlen:its.toArray.size=xs.length:=by rw[List.size_toArray];exact r.length.symm
 refine⟨"tuple",_,PyProof.Rows.slot_tuple_getitem.lookup,ht.typeIs,?_⟩
 refine HT.GQ ht hs pl pu (by rw[hlen];exact hw) ?_ (by rw[hlen];exact hz)
 rw[hlen]
 refine⟨.ref s.heap.objs.size,_,I.laid (t':=s.toks) (o:= .tup (T6 xs lo hi)) (λb ob q=>zD _ q) (zaa _) ?_,rfl,q _ (I.hok.fresh (zaa _))⟩
 exact⟨yY (Jj xs lo hi) hz,_,(r.drop (HT.a_ xs.length 0 lo)).take (HT.a_ xs.length xs.length hi - HT.a_ xs.length 0 lo),IsTup.new _ _⟩
def anB(K:Frag):R2:=λx y H Q=>∃a b ns ms,x= .ref a/\y= .ref b/\nu K H a (ns.map V.int)/\nu K H b (ms.map V.int)/\Q (.bl (HT.lexLt ns ms)) H
theorem ag9(hu:X.A.units<cLine):uT X (compareOp .Lt) (anB X.K):=by
 intro pins s σ H x y v u Q I rx ry h
 obtain⟨a,b,ns,ms,rfl,rfl,ha,hb,q⟩:=h
 cases rx
 cases ry
 obtain⟨its,r1,p1,_⟩:=I.tuple ha
 obtain⟨its2,r2,p2,_⟩:=I.tuple hb
 have i1:IntsAre its.toArray.toList ns:=intsAre_of r1
 have i2:IntsAre its2.toArray.toList ms:=intsAre_of r2
 exact HT.Vk p1 p2 i1 i2 hu ⟨.bl (HT.lexLt ns ms),H,I,rfl,q⟩
def ajR(K:Frag):R2:=λx y H Q=>∃a b xs ys,x= .ref a/\y= .ref b/\nu K H a xs/\nu K H b ys/\xs≠[]/\xs.length+ys.length<=sizeLine/\
 (ys=[]->Q (.ref a) H)/\(ys≠[]->∀p,H p=none->Q (.ref p) (upd H p (.tup (xs++ys))))
theorem Vals.Qj(r:Vals xs us):us=[]↔xs=[]:=by
 cases r with
 | nil=>simp
 | cons _ _=>simp
theorem ad5:uT X (binaryOp .Add) (ajR X.K):=by
 intro pins s σ H x y v u Q I rx ry h
 obtain⟨a,b,xs,ys,rfl,rfl,ha,hb,hx,hz,q1,q2⟩:=h
 cases rx
 cases ry
 obtain⟨its,r1,p1,_⟩:=I.tuple ha
 obtain⟨its2,r2,p2,_⟩:=I.tuple hb
 refine HT.aeT p1 p2 (λz=>hx (r1.Qj.mp z)) (λz=>⟨.ref a,H,I,rfl,q1 (r2.Qj.mp z)⟩) (λz=> ?_) (by rw[<-r1.length,<-r2.length];exact hz)
 refine⟨.ref s.heap.objs.size,_,I.laid (t':=s.toks) (o:= .tup (xs++ys)) (λb ob q=>zD _ q) (zaa _) ?_,rfl,q2 (λw=>z (r2.Qj.mpr w)) _ (I.hok.fresh (zaa _))⟩
 exact⟨by rw[List.length_append];exact hz,_,r1.append r2,IsTup.new _ _⟩
end
def ixN(n:Nat)(i:Int):Option Nat:=if 0<=i then(if i<n then some i.toNat else none)else if -(n:Int)<=i then some (i+n).toNat else none
def Nz{α:Type}(xs:List α)(i:Int):Option α:=(ixN xs.length i).bind λj=>xs[j]?
theorem aew(h:ixN n i=some j):seqIndex? i n=some j/\j<n/\ -(n:Int)<=i/\i<n:=by
 unfold ixN at h
 by_cases h0:0<=i
 ·rw[if_pos h0]at h
  by_cases h1:i<n
  ·rw[if_pos h1]at h
   have e:i.toNat=j:=xI h
   exact⟨by rw[seqIndex_of h0 h1,e],(),(),h1⟩
  ·rw[if_neg h1]at h;cases h
 ·rw[if_neg h0]at h
  by_cases h1: -(n:Int)<=i
  ·rw[if_pos h1]at h
   have e:(i+n).toNat=j:=xI h
   exact⟨by rw[seqIndex_neg () h1,e],(),h1,()⟩
  ·rw[if_neg h1]at h;cases h
theorem Q6{α:Type}{xs:List α}{i:Int}{v:α}(h:Nz xs i=some v):∃j,seqIndex? i xs.length=some j/\xs[j]? = some v/\j<xs.length/\ -(xs.length:Int)<=i/\i<xs.length:=by
 unfold Nz at h
 cases e:ixN xs.length i with
 | none=>rw[e]at h;cases h
 | some j=>
  rw[e]at h
  obtain⟨h1,h2,h3,h4⟩:=aew e
  exact⟨j,h1,h,h2,h3,h4⟩
def X8(b:Expr):Prop:=∀o i,subscripted b false o i=operate [o,i] (getItem o i)
def IxR(X:Cx)(r:R2):Prop:=
 ∀(value slice:Expr) (pins:List (Addr×Obj)) (s:Shared) (σ:St) (H:Hp) (x y:V) (v u:Value) (Q:VK),Inv X pins σ H s->RelV x v->RelV y u->r x y H Q->
  subscripted slice false v u=operate [v,u] (getItem v u)->wpAny (model X.prog X.w) X.A (subscriptTail value slice v u) (EP X pins σ Q) X.xe s
def MtR(X:Cx)(id:String)(r:V->List V->Hp->VK->Prop):Prop:=
 ∀(pins:List (Addr×Obj)) (s:Shared) (σ:St) (H:Hp) (x:V) (xs:List V) (v:Value) (us:List Value) (Q:VK),Inv X pins σ H s->RelV x v->Vals xs us->r x xs H Q->
  wpAny (model X.prog X.w) X.A (call (.builtin id) (v::us)) (EP X pins σ Q) X.xe s
section
variable{X:Cx}{a b:Expr}{ta tb:TE}{pos:Pos}
theorem IxR.or(h:IxR X r)(h':IxR X r'):IxR X (λx y H Q=>r x y H Q\/r' x y H Q):=by
 intro value slice pins s σ H x y v u Q I rx ry q hs
 rcases q with q | q
 ·exact h value slice pins s σ H x y v u Q I rx ry q hs
 ·exact h' value slice pins s σ H x y v u Q I rx ry q hs
theorem aj0(hr:IxR X r)(ha:PE X a ta)(hb:PE X b tb)(hs:X8 b):PE X (.Subscript a b pos) (tOp r ta tb):=by
 intro pins s σ H Q I h
 exact Subscript_ (aii ha hb I h λv u s2 x y H2 I2 rx ry q=>hr a b pins s2 σ H2 x y v u Q I2 rx ry q (hs _ _))
def ajP(K:Frag):R2:=λx y H Q=>∃p xs i v,x= .ref p/\y= .int i/\rZ K H p xs/\Nz xs i=some v/\Q v H
def ajN(K:Frag):R2:=λx y H Q=>∃p xs i v,x= .ref p/\y= .int i/\nu K H p xs/\Nz xs i=some v/\Q v H
def ajO:R2:=λx y H Q=>∃z i c,x= .str z/\y= .int i/\z.length<=sizeLine/\Nz z.cps.toList i=some c/\Q (.str ⟨#[c]⟩) H
theorem aeu:IxR X (ajP X.K):=by
 intro value slice pins s σ H x y v u Q I rx ry h hs
 obtain⟨p,xs,i,z,rfl,rfl,hq,he,q⟩:=h
 cases rx
 obtain⟨t,rfl⟩:=ry
 obtain⟨its,r,pl,hz⟩:=I.list hq
 obtain⟨j,h1,h2,h3,h4,h5⟩:=Q6 he
 obtain⟨w,ew,rw'⟩:=r.get h2
 have hl:=r.length
 have hn:=Lw
 have fin:EP X pins σ Q w s:=⟨z,H,I,rw',q⟩
 by_cases h0:0<=i
 ·have hj:i.toNat=j:=by
   rw[seqIndex_of h0 h5]at h1
   exact xI h1
  exact item_listR pl.isList h0 () (by rw[hj];simpa using ew) fin hs
 ·have hj:(i+(its.toArray.size:Int)).toNat=j:=by
   rw[seqIndex_neg () h4]at h1
   rw[List.size_toArray,<-hl]
   exact xI h1
  exact subscriptTail_builtinR (x:=w) pl.isList.typeIs slot_list_getitem.lookup
   (wpAny_getItem_list_neg (Q:=λr s'=>r=w/\EP X pins σ Q r s') pl.isList () (by rw[List.size_toArray]<;>omega) () (by rw[hj];simpa using ew) ⟨rfl,fin⟩) hs
theorem ahC:IxR X (ajN X.K):=by
 intro value slice pins s σ H x y v u Q I rx ry h hs
 obtain⟨p,xs,i,z,rfl,rfl,hq,he,q⟩:=h
 cases rx
 obtain⟨t,rfl⟩:=ry
 obtain⟨its,r,pl,hz⟩:=I.tuple hq
 obtain⟨j,h1,h2,h3,h4,h5⟩:=Q6 he
 obtain⟨w,ew,rw'⟩:=r.get h2
 have hl:=r.length
 have hn:=Lw
 have fin:EP X pins σ Q w s:=⟨z,H,I,rw',q⟩
 exact subscriptTail_builtinR (x:=w) pl.typeIs slot_tuple_getitem.lookup
  (getItem_tuple (j:=j) (Q:=λr s'=>r=w/\EP X pins σ Q r s') pl () () (by rw[List.size_toArray,<-hl];exact h1) (by simpa using ew) ⟨rfl,fin⟩) hs
theorem ahD:IxR X ajO:=by
 intro value slice pins s σ H x y v u Q I rx ry h hs
 obtain⟨z,i,c,rfl,rfl,hz,he,q⟩:=h
 obtain⟨t,rfl⟩:=rx
 obtain⟨t',rfl⟩:=ry
 obtain⟨j,h1,h2,h3,h4,h5⟩:=Q6 he
 have hl:z.cps.toList.length=z.length:=by simp[Str.length]
 rw[hl]at h1 h4 h5
 have hn:=Lw
 exact tail_any (typeIs_str s z t) slot_str_getitem.lookup (getItem_str (c:=c) (by
  have e1:decide (i< -(2 ^ 63:Int))=false:=zae ()
  have e2:decide (i>=2 ^ 63)=false:=zae ()
  rw[e1,e2,Bool.or_false]) (by rw[h1];simpa using h2) ⟨.str ⟨#[c]⟩,H,I.tok _,⟨_,rfl⟩,q⟩) hs
theorem Pq(lo hi:Option Int)(n:Nat):(sliceBounds lo hi none n).1=((HT.a_ n 0 lo:Nat):Int)/\(sliceBounds lo hi none n).2.1=((HT.a_ n n hi:Nat):Int)/\(sliceBounds lo hi none n).2.2=1:=by
 refine⟨?_,?_,rfl⟩
 ·cases lo with
  | none=>simp[sliceBounds,HT.a_]
  | some i=>
   simp only[sliceBounds,HT.a_,Option.getD_none,show(1:Int) > 0 by decide,if_true]
   by_cases h:i<0
   ·simp only[h,if_true]<;>omega
   ·simp only[h,if_false]<;>omega
 ·cases hi with
  | none=>simp[sliceBounds,HT.a_]
  | some i=>
   simp only[sliceBounds,HT.a_,Option.getD_none,show(1:Int) > 0 by decide,if_true]
   by_cases h:i<0
   ·simp only[h,if_true]<;>omega
   ·simp only[h,if_false]<;>omega
theorem Ng(its:List Value)(lo hi:Option Int):slicePick its.toArray lo hi none=((its.drop (HT.a_ its.length 0 lo)).take (HT.a_ its.length its.length hi - HT.a_ its.length 0 lo)).toArray:=by
 obtain⟨h1,h2,h3⟩:=Pq lo hi its.toArray.size
 unfold slicePick
 rw[h1,h2,h3]
 simp only[sliceRange_one,pick_run,List.size_toArray]<;>rfl
def anx(K:Frag):V->Option Int->Option Int->Hp->VK->Prop:=λx lo hi H Q=>∃a xs,x= .ref a/\rZ K H a xs/\∀p,H p=none->Q (.ref p) (upd H p (.lst (T6 xs lo hi)))
theorem adk:SlR X (anx X.K):=by
 intro pins s σ H x v vl vu lo hi sl Q I rx hs pl pu h
 obtain⟨a,xs,rfl,hx,q⟩:=h
 cases rx
 obtain⟨its,r,ht,hz⟩:=I.list hx
 have hlen:=r.length
 refine⟨"list",_,slot_list_getitem.lookup,ht.isList.typeIs,?_⟩
 refine wpAny_getItem_list_slice ht.isList hs pl pu .none (by simp) ?_ (by rw[List.size_toArray]<;>omega)
 rw[Ng,<-hlen]
 refine⟨.ref s.heap.objs.size,_,I.laid (t':=s.toks) (o:= .lst (T6 xs lo hi)) (λb ob q=>zD _ q) (zaa _) ?_,rfl,q _ (I.hok.fresh (zaa _))⟩
 exact⟨yY (Jj xs lo hi) hz,_,0,(r.drop (HT.a_ xs.length 0 lo)).take (HT.a_ xs.length xs.length hi - HT.a_ xs.length 0 lo),yB _ rfl⟩
noncomputable def Dl:V->Bool
 | .non=>true
 | .bl _=>true
 | .int _=>true
 | .str _=>true
 | _=>false
noncomputable def eqV:V->V->Bool
 | .non,.non=>true
 | .bl a,.bl b=>a==b
 | .bl a,.int b=>(if a then 1 else 0)==b
 | .int a,.bl b=>a==(if b then 1 else 0)
 | .int a,.int b=>a==b
 | .str a,.str b=>a==b
 | _,_=>false
theorem ahW(ry:RelV y u)(rx:RelV x v)(fy:Dl y=true)(fx:Dl x=true):SeqAt.EqAt A s u v (eqV y x):=by
 cases y with
 | non=>
  cases ry
  cases x with
  | non=>cases rx;exact SeqAt.EqAt.same _
  | bl b=>cases rx;exact SeqAt.EqAt.none_bool b
  | int b=>obtain⟨t,rfl⟩:=rx;exact SeqAt.EqAt.none_int b t
  | str b=>obtain⟨t,rfl⟩:=rx;exact SeqAt.EqAt.none_str b t
  | _=>exact absurd (show false=true from fx) xA
 | bl a=>
  cases ry
  cases x with
  | non=>cases rx;exact SeqAt.EqAt.bool_none a
  | bl b=>cases rx;exact SeqAt.EqAt.bool_bool a b
  | int b=>obtain⟨t,rfl⟩:=rx;exact SeqAt.EqAt.bool_int a b t
  | str b=>obtain⟨t,rfl⟩:=rx;exact SeqAt.EqAt.bool_str a b t
  | _=>exact absurd (show false=true from fx) xA
 | int a=>
  obtain⟨t',rfl⟩:=ry
  cases x with
  | non=>cases rx;exact SeqAt.EqAt.int_none a t'
  | bl b=>cases rx;exact SeqAt.EqAt.int_bool a t' b
  | int b=>obtain⟨t,rfl⟩:=rx;exact SeqAt.EqAt.int_int a t' b t
  | str b=>obtain⟨t,rfl⟩:=rx;exact SeqAt.EqAt.int_str a t' b t
  | _=>exact absurd (show false=true from fx) xA
 | str a=>
  obtain⟨t',rfl⟩:=ry
  cases x with
  | non=>cases rx;exact SeqAt.EqAt.str_none a t'
  | bl b=>cases rx;exact SeqAt.EqAt.str_bool a t' b
  | int b=>obtain⟨t,rfl⟩:=rx;exact SeqAt.EqAt.str_int a t' b t
  | str b=>obtain⟨t,rfl⟩:=rx;exact SeqAt.EqAt.str_str a t' b t
  | _=>exact absurd (show false=true from fx) xA
 | _=>exact absurd (show false=true from fy) xA
def VB(x:V)(u:Value):Bool:=match u with
 | .none=>eqV .non x
 | .bool b=>eqV (.bl b) x
 | .int i _=>eqV (.int i) x
 | .str z _=>eqV (.str z) x
 | _=>false
theorem ach(r:RelV y u)(f:Dl y=true):VB x u=eqV y x:=by
 cases y with
 | non=>cases r;rfl
 | bl b=>cases r;rfl
 | int i=>obtain⟨t,rfl⟩:=r;rfl
 | str z=>obtain⟨t,rfl⟩:=r;rfl
 | _=>exact absurd (show false=true from f) xA
theorem Hf:∀{xs:List V} {us:List Value},Vals xs us->xs.all Dl=true->us.any (VB x)=xs.any λy=>eqV y x
 | _,_,.nil,_=>rfl
 | y::xs,u::us,.cons r t,f=>by
  rw[List.all_cons,Bool.and_eq_true]at f
  rw[List.any_cons,List.any_cons,ach r f.1,Hf t f.2]
theorem Ax(rx:RelV x v)(fx:Dl x=true):∀{xs:List V} {us:List Value},Vals xs us->xs.all Dl=true->∀u∈us,SeqAt.EqAt A s u v (VB x u)
 | _,_,.nil,_=>λu hu=>by cases hu
 | y::xs,u::us,.cons r t,f=>λu' hu=>by
  rw[List.all_cons,Bool.and_eq_true]at f
  rcases List.mem_cons.mp hu with rfl | hu
  ·rw[ach r f.1];exact ahW r rx f.1 fx
  ·exact Ax rx fx t f.2 u' hu
def inV(x:V)(xs:List V):Bool:=xs.any λy=>eqV y x
def rIn(K:Frag)(neg:Bool):R2:=λx y H Q=>∃p xs,y= .ref p/\(rZ K H p xs\/nu K H p xs)/\Dl x=true/\xs.all Dl=true/\Q (.bl (if neg then !inV x xs else inV x xs)) H
theorem Yx:uT X (compareOp .In) (rIn X.K false):=by
 intro pins s σ H x y v u Q I rx ry h
 obtain⟨p,xs,rfl,hq,fx,fs,q⟩:=h
 cases ry
 rcases hq with hq | hq
 ·obtain⟨its,r,pl,hz⟩:=I.list hq
  refine SeqAt.in_listAt (VB x) pl.isList (λw hw=>Ax rx fx r fs w (by simpa using hw)) ⟨.bl _,H,I,rfl,?_⟩
  rw[show its.toArray.any (VB x)=its.any (VB x) by simp,Hf r fs]
  exact q
 ·obtain⟨its,r,pl,hz⟩:=I.tuple hq
  refine SeqAt.in_tupleAt (VB x) pl (λw hw=>Ax rx fx r fs w (by simpa using hw)) ⟨.bl _,H,I,rfl,?_⟩
  rw[show its.toArray.any (VB x)=its.any (VB x) by simp,Hf r fs]
  exact q
theorem Qd:uT X (compareOp .NotIn) (rIn X.K true):=by
 intro pins s σ H x y v u Q I rx ry h
 obtain⟨p,xs,rfl,hq,fx,fs,q⟩:=h
 cases ry
 rcases hq with hq | hq
 ·obtain⟨its,r,pl,hz⟩:=I.list hq
  refine SeqAt.notIn_listAt (VB x) pl.isList (λw hw=>Ax rx fx r fs w (by simpa using hw)) ⟨.bl _,H,I,rfl,?_⟩
  rw[show its.toArray.any (VB x)=its.any (VB x) by simp,Hf r fs]
  exact q
 ·obtain⟨its,r,pl,hz⟩:=I.tuple hq
  refine SeqAt.notIn_tupleAt (VB x) pl (λw hw=>Ax rx fx r fs w (by simpa using hw)) ⟨.bl _,H,I,rfl,?_⟩
  rw[show its.toArray.any (VB x)=its.any (VB x) by simp,Hf r fs]
  exact q
theorem QZ:rM X (.builtin "len") (λxs H Q=>∃p ys,xs=[.ref p]/\(rZ X.K H p ys\/nu X.K H p ys)/\Q (.int ys.length) H):=by
 intro pins s σ H xs us Q I r h
 obtain⟨p,ys,rfl,hq,q⟩:=h
 obtain⟨u,rfl,rx⟩:=vals1 r
 cases rx
 have hn:=Lw
 rcases hq with hq | hq
 ·obtain⟨its,r',pl,hz⟩:=I.list hq
  have hlen:=r'.length
  exact Calls.call_len_list pl.isList (by simp only[List.size_toArray]<;>omega) ⟨.int ys.length,H,I.tok _,⟨s.toks+1,by rw[List.size_toArray,hlen]⟩,q⟩
 ·obtain⟨its,r',pl,hz⟩:=I.tuple hq
  have hlen:=r'.length
  exact len_tuple pl (by simp only[List.size_toArray]<;>omega) ⟨.int ys.length,H,I.tok _,⟨s.toks+1,by rw[List.size_toArray,hlen]⟩,q⟩
theorem QX:rM X (.builtin "len") (λxs H Q=>∃z,xs=[.str z]/\z.length<=sizeLine/\Q (.int z.length) H):=by
 intro pins s σ H xs us Q I r h
 obtain⟨z,rfl,hz,q⟩:=h
 obtain⟨u,rfl,t,rfl⟩:=vals1 r
 have hn:=Lw
 exact len_str () ⟨.int z.length,H,I.tok _,⟨_,rfl⟩,q⟩
theorem rM.or{r r':List V->Hp->VK->Prop}(h:rM X f r)(h':rM X f r'):rM X f (λxs H Q=>r xs H Q\/r' xs H Q):=by
 intro pins s σ H xs us Q I rs q
 rcases q with q | q
 ·exact h pins s σ H xs us Q I rs q
 ·exact h' pins s σ H xs us Q I rs q
theorem QW:rM X (.type "list") (λxs H Q=>∃p ys,xs=[.ref p]/\(rZ X.K H p ys\/nu X.K H p ys)/\∀l,H l=none->Q (.ref l) (upd H l (.lst ys))):=by
 intro pins s σ H xs us Q I r h
 obtain⟨p,ys,rfl,hq,q⟩:=h
 obtain⟨u,rfl,rx⟩:=vals1 r
 cases rx
 have fin:∀(its:List Value),Vals ys its->ys.length<=sizeLine->∀(h':Heap) (c':Nat),(∀b o',s.heap.get? b=some o'->h'.get? b=some o')->
   h'.get? s.heap.objs.size=some {cls:= .type "list",dict:=none,data:= .seq its.toArray c',slots:= #[]}->EP X pins σ Q (.ref s.heap.objs.size) {s with heap:=h'}:=λits r' hz h' c' kp e=>
  ⟨.ref s.heap.objs.size,_,I.laid (t':=s.toks) kp (zaa _) (show fC X.prog X.w _ h' _ (.lst ys)from⟨hz,its,c',r',e⟩),rfl,q _ (I.hok.fresh (zaa _))⟩
 rcases hq with hq | hq
 ·obtain⟨its,r',pl,hz⟩:=I.list hq
  have hlen:=r'.length
  obtain⟨o,ho,hc,n,hd⟩:=pl.isList
  exact call_list_seq p (.inl rfl) ho hc hd (λh' c' kp e=>fin its r' hz h' c' kp e) (by simp only[List.size_toArray]<;>omega)
 ·obtain⟨its,r',pl,hz⟩:=I.tuple hq
  have hlen:=r'.length
  obtain⟨o,ho,hc,n,hd⟩:=pl
  exact call_list_seq p (.inr rfl) ho hc hd (λh' c' kp e=>fin its r' hz h' c' kp e) (by simp only[List.size_toArray]<;>omega)
def tyV(K:Frag)(T:String)(x:V)(H:Hp):Prop:=match x with
 | .str _=>T= "str"
 | .int _=>T= "int"
 | .ref p=>(T= "list" /\ ∃xs,rZ K H p xs)\/(T= "tuple" /\ ∃o,K.lookup p=some o/\o.cls= .type "tuple" /\ o.dict=none)\/
   (T= "dict" /\ ((∃kvs,H p=some (.dK kvs))\/∃kvs,H p=some (.dT kvs)))\/(T= "set" /\ ∃S n,H p=some (.set S n))
 | _=>False
theorem ZW(I:Inv X pins σ H s)(r:RelV x v)(ty:tyV X.K T x H):
  s.TypeIs v T/\∀a,v= .ref a->∃ob,s.heap.get? a=some ob/\ob.dict=none:=by
 cases x with
 | str z=>
  obtain⟨t,rfl⟩:=r
  cases(show T= "str" from ty)
  exact⟨typeIs_str s z t,λ_ e=>nomatch e⟩
 | int i=>
  obtain⟨t,rfl⟩:=r
  cases(show T= "int" from ty)
  exact⟨typeIs_int s i t,λ_ e=>nomatch e⟩
 | ref p=>
  cases r
  rcases ty with⟨rfl,xs,hq⟩ | ⟨rfl,o,hk,hc,hd⟩ | ⟨rfl,hk⟩ | ⟨rfl,S,n,hk⟩
  ·obtain⟨its,_,pl,_⟩:=I.list hq
   refine⟨pl.isList.typeIs,λa e=> ?_⟩
   cases e
   obtain⟨o,n,e,c,hd,_⟩:=pl
   exact⟨o,e,hd⟩
  ·refine⟨⟨o,I.Jb p o hk,hc⟩,λa e=> ?_⟩
   cases e
   exact⟨o,I.Jb _ o hk,hd⟩
  ·have z:∃o,s.heap.get? p=some o/\o.ExactDict:=by
    rcases hk with⟨kvs,hk⟩ | ⟨kvs,hk⟩
    ·obtain⟨_,_,_,_,o,_,_,e,ex,_⟩:=I.hok p _ hk
     exact⟨o,e,ex⟩
    ·obtain⟨_,_,_,_,o,_,_,e,ex,_⟩:=I.hok p _ hk
     exact⟨o,e,ex⟩
   obtain⟨o,e,ex⟩:=z
   refine⟨⟨o,e,ex.1⟩,λa e2=> ?_⟩
   cases e2
   exact⟨o,e,ex.2.1⟩
  ·obtain⟨o,_,_,_,e,ex,_⟩:=I.hok p _ hk
   refine⟨⟨o,e,ex.1⟩,λa e2=> ?_⟩
   cases e2
   exact⟨o,e,ex.2.1⟩
 | _=>exact False.elim ty
def anb(K:Frag)(T:String)(r:V->List V->Hp->VK->Prop)(to:TE):TE:=λσ H Q=>to σ H λx H1=>tyV K T x H1/\r x [] H1 Q
def tBM(K:Frag)(T:String)(r:V->List V->Hp->VK->Prop)(to:TE)(t:TA):TE:=λσ H Q=>to σ H λx H1=>tyV K T x H1/\t σ H1 λxs H2=>r x xs H2 Q
variable{o e:Expr}{es:List Expr}{to:TE}{t:TA}{name:Str}{apos cpos:Pos}{T id:String}{r:V->List V->Hp->VK->Prop}
theorem aa_(pa:PlainAttrs T)(slot:Slot T name id)(hty:typeOf (.builtin id)=pure (.type "method_descriptor"))(hm:MtR X id r)(ho:PE X o to)
  (hbase:attributeBase o name X.env (eval o X.env)=eval o X.env:=by rfl) (hline:(apos.endLine==cpos.line)=true:=by rfl):PE X (.Call (.Attribute o name apos) [] [] cpos) (anb X.K T r to):=by
 intro pins s σ H Q I h
 refine wpAny_Call_method0_late hbase hline (fU (ho pins s σ H _ I h) ?_)
 rintro v s1 ⟨x,H1,I1,r1,ty,q1⟩
 obtain⟨h1,h2⟩:=ZW I1 r1 ty
 exact⟨T,id,pa,slot,hty,h1,h2,Calls.callWith_builtin rfl (PySem.evalArgs_none (hm pins s1 σ H1 x [] v [] Q I1 r1 .nil q1))⟩
theorem aj1(pa:PlainAttrs T)(slot:Slot T name id)(hty:typeOf (.builtin id)=pure (.type "method_descriptor"))(hm:MtR X id r)(ho:PE X o to)(ha:PA X (e::es) t)
  (hbase:attributeBase o name X.env (eval o X.env)=eval o X.env:=by rfl)
  (hfew:((backTo cpos (starEach (e::es) X.env)).all (λx=> !x.1)&&(backToKw cpos (keywordEach [] X.env)).all (λx=>x.1.isSome)
   && decide ((e::es).length+([]:List Keyword).length+(if([]:List Keyword).isEmpty then 0 else 1)<30))=true:=by rfl)
  (hline:(apos.endLine==cpos.line)=true:=by rfl) (hs:starEach (e::es) X.env=(false,eval e X.env)::starEach es X.env:=by rfl) (hplain:(backTo cpos (starEach es X.env)).any (·.1)=false:=by rfl):
  PE X (.Call (.Attribute o name apos) (e::es) [] cpos) (tBM X.K T r to t):=by
 intro pins s σ H Q I h
 refine wpAny_Call_method_late hbase hfew hline rfl (fU (ho pins s σ H _ I h) ?_)
 rintro v s1 ⟨x,H1,I1,r1,ty,q1⟩
 obtain⟨h1,h2⟩:=ZW I1 r1 ty
 refine⟨T,id,pa,slot,hty,h1,h2,?_⟩
 have hA:=ha cpos pins s1 σ H1 _ I1 q1
 rw[hs]at hA ⊢
 refine Calls.callWith_builtin (by show(false||(backTo cpos (starEach es X.env)).any (·.1))=false;rw[hplain]<;>rfl) (Calls.evalArgs_plain ?_)
 exact fU hA λus s2 ⟨vs,H2,I2,r2,q2⟩=>hm pins s2 σ H2 x vs v us Q I2 r1 r2 q2
end
def MtM(X:Cx)(id:String)(r:V->List V->Hp->VK->Prop):Prop:=
 ∀(pins:List (Addr×Obj)) (s:Shared) (σ:St) (H:Hp) (x:V) (xs:List V) (v:Value) (us:List Value) (Q:VK),Inv X pins σ H s->RelV x v->Vals xs us->r x xs H Q->
  wpAny (model X.prog X.w) X.A (call (.builtin id) (v::us)) (EP X pins σ Q) X.xe s
theorem Vals.one:∀{x:V} {us:List Value},Vals [x] us->∃u,us=[u]/\RelV x u
 | _,_,.cons r .nil=>⟨_,rfl,r⟩
section
variable{X:Cx}{pins:List (Addr×Obj)}{σ:St}{H:Hp}{s:Shared}{l b:Addr}{xs ys zs:List V}
theorem Inv.akB{its its':List Value}{n:Nat}{f:Array Value->Array Value}{t':Nat}(I:Inv X pins σ H s)(hH:H l=some (.lst xs))
  (e:s.heap.get? l=some {cls:= .type "list",data:= .seq its.toArray n}) (hf:f its.toArray=its'.toArray) (hv:Vals ys its') (hz:ys.length<=sizeLine):
  Inv X pins σ (upd H l (.lst ys)) {s with heap:=s.heap.update l (Obj.mapSeq f),toks:=t'}:=by
 have q:=PySem.IsL.update e f
 rw[hf]at q
 refine I.write (x:=l) (e:=l) (by rw[hH];exact trivial) (.inl rfl) (λb' u hb hu=>(xL s.heap (Obj.mapSeq f) (Ne.symm hb)).trans hu) ⟨_,q⟩ ?_
 exact⟨hz,its',_,hv,q⟩
theorem Inv.akC(I:Inv X pins σ H s)(hv:Vals ys its)(hz:ys.length<=sizeLine):
  Inv X pins σ (upd H s.heap.objs.size (.lst ys)) {s with heap:=s.heap.push {cls:= .type "list",data:= .seq its.toArray},toks:=t'}:=
 I.laid (λ_ _ q=>zD _ q) (zaa _) ⟨hz,its,0,hv,yB _ rfl⟩
theorem Inv.fresh(I:Inv X pins σ H s):H s.heap.objs.size=none:=I.hok.fresh (zaa _)
theorem Inv.YM(I:Inv X pins σ H s)(hH:H l=some (.lst xs)):xs.length<=sizeLine/\∃(its:List Value) (n:Nat),Vals xs its/\xs.length=its.length/\s.heap.get? l=some {cls:= .type "list",data:= .seq its.toArray n}:=by
 obtain⟨z,its,n,r,e⟩:=I.hok l _ hH
 exact⟨z,its,n,r,r.length,e⟩
theorem abh(h:n<=sizeLine):Builtin.List.listTooLong n=false:=by
 unfold Builtin.List.listTooLong
 exact zae ()
end
section
variable{X:Cx}
def adE:V->List V->Hp->VK->Prop:=λx vs H Q=>∃l xs y,x= .ref l/\vs=[y]/\H l=some (.lst xs)/\xs.length<sizeLine/\Q .non (upd H l (.lst (xs++[y])))
theorem YD:MtM X "list.append" adE:=by
 intro pins s σ H x vs v us Q I rx rv h
 obtain⟨l,xs,y,rfl,rfl,hH,hz,q⟩:=h
 cases rx
 obtain⟨u,rfl,ru⟩:=rv.one
 obtain⟨z,its,n,r,hl,e⟩:=I.YM hH
 refine call_meets F.slot_list_append ⟨_,e,rfl⟩ F.entry_list_append (F.args_list_append_2 _ _) (PySem.list_append l its.toArray n u (by rw[List.size_toArray];omega)) ⟨e,?_⟩
 refine⟨.non,_,I.akB (its':=its++[u]) hH e (by simp) (r.append (.cons ru .nil)) ?_,rfl,q⟩
 rw[List.length_append,List.length_singleton]
 omega
def adD:V->List V->Hp->VK->Prop:=λx vs H Q=>∃l b xs zs,x= .ref l/\vs=[.ref b]/\H l=some (.lst xs)/\H b=some (.lst zs)/\xs.length+zs.length<=sizeLine/\Q .non (upd H l (.lst (xs++zs)))
theorem aiC:MtM X "list.extend" adD:=by
 intro pins s σ H x vs v us Q I rx rv h
 obtain⟨l,b,xs,zs,rfl,rfl,hH,hB,hz,q⟩:=h
 cases rx
 obtain⟨u,rfl,ru⟩:=rv.one
 cases ru
 obtain⟨z,its,n,r,hl,e⟩:=I.YM hH
 obtain⟨z2,its2,n2,r2,hl2,e2⟩:=I.YM hB
 have hsz:its.toArray.size+its2.toArray.size<=sizeLine:=by rw[List.size_toArray,List.size_toArray];omega
 have akK:¬(!its.toArray.isEmpty&&Builtin.List.listTooLong (its.toArray.size+its2.toArray.size))=true:=by
  rw[abh hsz,Bool.and_false]
  exact xA
 refine call_meets F.slot_list_extend ⟨_,e,rfl⟩ F.entry_list_extend (F.args_list_extend_2 _ _)
  (AutoSeq1.list_extend_list_list_0 l its.toArray n b its2.toArray n2 akK (by rw[List.size_toArray];omega) ()) ⟨e,e2,?_⟩
 refine⟨.non,_,I.akB (its':=its++its2) hH e (by simp) (r.append r2) ?_,rfl,q⟩
 rw[List.length_append]
 omega
def anE:R2:=λx y H Q=>∃l b xs zs,x= .ref l/\y= .ref b/\H l=some (.lst xs)/\H b=some (.lst zs)/\xs.length+zs.length<=sizeLine/\∀p,H p=none->Q (.ref p) (upd H p (.lst (xs++zs)))
theorem ahe:uT X (binaryOp .Add) anE:=by
 intro pins s σ H x y v u Q I rx ry h
 obtain⟨l,b,xs,zs,rfl,rfl,hH,hB,hz,q⟩:=h
 cases rx
 cases ry
 obtain⟨z,its,n,r,hl,e⟩:=I.YM hH
 obtain⟨z2,its2,n2,r2,hl2,e2⟩:=I.YM hB
 refine PySem.P.add_list e e2 ?_ (by rw[List.size_toArray,List.size_toArray];omega)
 have ea:its.toArray++its2.toArray=(its++its2).toArray:=by simp
 rw[ea]
 exact⟨.ref _,_,I.akC (t':=s.toks) (r.append r2) (by rw[List.length_append];omega),rfl,q _ I.fresh⟩
end
end L2
namespace Att
open PySem PySem.W PySem.Calls PyProof.Rows
theorem JK:∀(ns:List Int) (vs:List Value),WellAll P h vs (ns.map WData.int)->IntsAre vs ns:=by
 intro ns
 induction ns with
 | nil=>
  intro vs w
  rw[List.map_nil]at w
  cases w
  exact .nil
 | cons n ns ih=>
  intro vs w
  rw[List.map_cons]at w
  cases w with
  | cons a b=>
   cases a
   exact .cons _ _ (ih _ b)
theorem Yi{l:OpenLaw}{n:Nat}(hn:l.most=some n){P:Params}{h:Heap}{args:List WData}{vals:List Value}
  (hpre:l.row.toRowW.claim.pre args=true) (hwl:WellAll P h vals args):
  ∃a vs ns,vals=[Value.ref a]/\args=[WData.list (ns.map WData.int)]/\h.get? a=some {cls:= .type "list",data:= .seq vs.toArray}/\IntsAre vs ns/\ns.length<=n:=by
 have hsh:WShape.hasAll [] args [.list .int]=true:=(pre_splitW hpre).1
 have hc:l.pre.holds [] {args:=args}=true:=(pre_splitW hpre).2
 obtain⟨d,r,rfl,h1,h2⟩:=hasAllW_cons hsh
 obtain rfl:=hasAllW_nil h2
 obtain⟨xs,rfl,h3⟩:=hasW_list h1
 obtain⟨ns,rfl⟩:=items_int h3
 have hlen:ns.length<=n:=by
  unfold OpenLaw.pre at hc
  have h4:(WTm.not (.lt (.lit (.int (n:Int))) (.len (.arg 0)))).holds [] {args:=[.list (ns.map .int)]}=true:=by
   have h4:=(holds_andW hc).1
   rw[hn]at h4
   exact h4
  have h5:=condW_of h4 (w_not (w_lt w_lit (w_len_list (w_arg rfl))))
  rw[zam]at h5
  refine Nat.le_of_not_lt λq=> ?_
  have q':(n:Int)<((ns.length:Nat):Int):=()
  first
   | (rw[zaf q']at h5;exact absurd h5 (by decide))
   | (simp at h5;omega)
 cases hwl with
 | cons w1 w2=>
  cases w2
  cases w1 with
  | list ho hall=>exact⟨_,_,ns,rfl,rfl,ho,JK ns _ hall,hlen⟩
theorem Yp(l:OpenLaw)(args:List WData):l.row.toRowW.claim.post args (.bool true) args=true:=
 postW_of (r:=l.row.toRowW) (X:=(true==true))
  (show WShape.has [] (.bool true) .bool=true by first | rfl | decide | simp[WShape.has,WShape.arms,WShape.armsAll])
  (show(WTm.eq .res (.lit (.bool true))).value [] {args:=args,res:=some (.bool true),after:=args}=some (.bool (true==true))from w_eq_bool (w_res rfl) w_lit) rfl
theorem Ud{l:OpenLaw}{n:Nat}{q:Program}{loose:List Str}{XP:(Str->Option Value)->Heap->Prop}{YP:World->Heap->Prop}{d:DefRec}
  (hn:l.most=some n) (hdf:d.params.defaults=[])
  (call:∀(w:World) (s₀ s₁:Shared) (mg mb:Str->Option Value) (fa:Addr) (o:Obj) (pm cd doc:Value) (a:Addr) (vs:List Value) (ns:List Int),
   Ground q loose [] XP w s₀ mg mb s₁.heap->YP w s₁.heap->
   s₁.heap.get? fa=some o->o.data= .func (docDef d.name d.params d.body d.scope pm cd doc)->s₁.heap.CodeRec cd d.name->mg d.name=some (.ref fa)->
   s₁.heap.get? a=some {cls:= .type "list",data:= .seq vs.toArray}->IntsAre vs ns->ns.length<=n->s₁.gens= #[]->
   codeAny (model l.prog w) callerA (.call (.ref fa) ⟨[.ref a],[]⟩) (λr s'=>r= .ok (.ret (.bool true))/\OldK s₁.heap s'.heap/\s'.os=s₁.os/\AllBare s'.gens) s₁):
  WalkO q loose XP YP l.row.toRowW d [] (λf vs=>PySem.call f vs):=by
 intro w s₀ s₁ mg mb G Y fa o pm cd doc dV kV ho hd hcd hD hmg hg args vals as hpre hlay hrd hwl hlo
 obtain rfl:dV= .none:=Dflts.none hD hdf
 obtain rfl:kV= .none:=Dflts.noKw hD
 obtain⟨a,vs,ns,rfl,rfl,hobj,hints,hlen⟩:=Yi hn hpre hwl
 refine enter_call (codeAny_mono (call w s₀ s₁ mg mb fa o pm cd doc a vs ns G Y ho (fd_plain hd) hcd hmg hobj hints hlen hg) λr s' hq=> ?_)
 obtain⟨rfl,h2,h3,h4⟩:=hq
 exact⟨.inl ⟨.bool true,.bool true,[],rfl,λ_=>rfl,.bool true,Yp l _,λ_=>⟨List.Pairwise.nil,λ_ hm=>(nomatch hm)⟩⟩,h2,h3,h4⟩
end Att
namespace L2
open PySem PySem.Spec PyProof.Rows
theorem Hh:∀{vs:List Value} {ns:List Int},IntsAre vs ns->Vals (ns.map V.int) vs
 | _,_,.nil=> .nil
 | _,_,.cons n t h=> .cons ⟨t,rfl⟩ (Hh h)
def Only(H:Hp):Prop:=∀b,H b=none\/∃o xs,H b=some (.mK o (.lst xs))
theorem abL{P:Program}{w:World}{K:Frag}{mg mb:Str->Option Value}{CX:V6}{k:Nat}{fa a:Addr}{fd:FuncData}{x:Str}{sp:Sp}{s₁:Shared}{vs:List Value}{ns:List Int}
  (KX:K.In s₁.heap) (hns:s₁.heap.Ns mainGlobals mg) (hb:s₁.heap.Ns builtinsNs mb) (hbb:∀x:Str,x≠ "__name__" -> mb x=bootBuiltins x) (hlim:s₁.heap.NoLimit) (hg:s₁.gens= #[])
  (ha:s₁.heap.get? a=some {cls:= .type "list",data:= .seq vs.toArray}) (hi:IntsAre vs ns) (hl:ns.length<=sizeLine) (hr:iM k callerA)
  (F:∀base:Heap,K.In base->base.Ns mainGlobals mg->ie P w K mg base CX k fa fd [x] sp) (hbind:∀(s:Shared) (u:Value),BindsTo s fd ⟨[u],[]⟩ [(x,u)])
  (hsp:∀H:Hp,Only H->rZ K H a (ns.map V.int)->sp [.ref a] H (λv _=>v= .bl true) λ_ _ _=>False)
  (hCX:∀H e s',CX [] H s₁ (λ_ _ _=>False) e s'->False):
  codeAny (model P w) callerA (.call (.ref fa) ⟨[.ref a],[]⟩) (λr s'=>r= .ok (.ret (.bool true))/\OldK s₁.heap s'.heap/\s'.os=s₁.os/\AllBare s'.gens) s₁:=by
 have rv:=Hh hi
 have lenV:=hi.length
 have core:∀H:Hp,Only H->rZ K H a (ns.map V.int)->uU P w H s₁.heap->(∀b,H b≠none->b=a)->(H a≠none->K.lookup a=none)->
   codeAny (model P w) callerA (.call (.ref fa) ⟨[.ref a],[]⟩) (λr s'=>r= .ok (.ret (.bool true))/\OldK s₁.heap s'.heap/\s'.os=s₁.os/\AllBare s'.gens) s₁:=by
  intro H hO hS hok hA hK
  have X3:∀{b:Addr} {o:Obj},s₁.heap.get? b=some o->H b=none->(Qx s₁.heap H).get? b=some o:=λe n=>abV e n
  have noA:∀{b:Addr} {o:Obj} {es:Array DictEntry} {ep:Nat},s₁.heap.get? b=some o->o.data= .dict es ep->H b=none:=λ{b o es ep} e d=>by
   cases q:H b with
   | none=>rfl
   | some u=>
    have e':b=a:=hA b (by rw[q];simp)
    subst e'
    rw[ha]at e;cases e
    have d':Data.seq vs.toArray _=Data.dict es ep:=d
    cases d'
  have nsK:∀{b:Addr} {m:Str->Option Value},s₁.heap.Ns b m->(Qx s₁.heap H).Ns b m:=λ{b m} ⟨o,es,ep,e,d,r⟩=>⟨o,es,ep,X3 e (noA e d),d,r⟩
  have hKb:K.In (Qx s₁.heap H):=λb o e=>X3 (KX b o e) (by
   cases q:H b with
   | none=>rfl
   | some u=>
    have e':b=a:=hA b (by rw[q];simp)
    subst e'
    rw[hK (by rw[q];simp)]at e;cases e)
  have hM:Mod K mg (Qx s₁.heap H):=⟨hKb,nsK hns,⟨mb,nsK hb,hbb⟩,let⟨mc,h1,h2⟩:=hlim;⟨mc,nsK h1,h2⟩⟩
  have e0:V4 P w K mg (Qx s₁.heap H) callerA [] s₁ H:=⟨rfl,hM,λb o e=>aeb e,Nat.le_of_eq (Y5 _ _),trivial,λb hb=>absurd (show b∈([]:List Addr)from hb) (by simp),hok,.of_eq hg⟩
  refine codeAny_mono ((F _ hKb (nsK hns)).run callerA [] s₁ H ⟨[.ref a],[]⟩ [.ref a] [.ref a] _ _ hr e0 (hbind s₁ (.ref a)) (.cons rfl .nil) (hsp H hO hS)) λr s' h=> ?_
  cases r with
  | error e=>exact(hCX H e s' h).elim
  | ok fl=>
   cases fl with
   | next=>exact False.elim h
   | brk=>exact False.elim h
   | cont=>exact False.elim h
   | ret u=>
    obtain⟨v,H',os,bare,un,hok',r',q⟩:=h
    have q':v= .bl true:=q
    subst q'
    obtain rfl:u=Value.bool true:=r'
    refine⟨rfl,OldK.of_keep λb o e=> ?_,os,bare⟩
    cases q:H b with
    | none=>exact un.keep b o e q (by intro z;exact absurd (show b∈([]:List Addr)from z) (by simp)) (by simp)
    | some u=>
     rcases hO b with z | ⟨ob,xs,z⟩
     ·rw[q]at z;cases z
     ·have z2:=un.zy b ob _ z
      obtain⟨e1,_⟩:=hok b _ z
      obtain⟨e2,_⟩:=hok' b _ z2
      rw[e]at e1;cases e1
      exact e2
 cases hk:K.lookup a with
 | some o=>
  have e:=KX a o hk
  rw[ha]at e
  cases e
  refine core (λ_=>none) (λ_=> .inl rfl) (.inr ⟨_,vs.toArray,_,hk,rfl,rfl,rfl,by rw[List.size_toArray,lenV];exact hl,by simpa using rv⟩) (λb u z=>by have z':(none:Option HO)=some u:=z;cases z') (λb z=>absurd rfl z) λz=>absurd rfl z
 | none=>
  refine core (λb=>if b=a then some (.mK {cls:= .type "list",data:= .seq vs.toArray} (.lst (ns.map V.int)))else none) (λb=> ?_) (.inl (.inr ⟨{cls:= .type "list",data:= .seq vs.toArray},if_pos rfl⟩)) (λb u z=> ?_) (λb z=> ?_) λ_=>hk
  ·by_cases hb:b=a
   ·exact .inr ⟨_,_,if_pos hb⟩
   ·exact .inl (if_neg hb)
  ·by_cases hb:b=a
   ·have z':=(if_pos hb).symm.trans z
    cases z'
    subst hb
    exact⟨ha,by rw[zam];exact hl,vs,_,rv,ha⟩
   ·have z':=(if_neg hb).symm.trans z
    cases z'
  ·by_cases hb:b=a
   ·exact hb
   ·exact absurd (if_neg hb) z
abbrev KOf{K:Frag}{h:Heap}(_:K.In h):Frag:=K
theorem ac1{l:PySem.W.OpenLaw}{n k:Nat}{loose:List Str}{XP:(Str->Option Value)->Heap->Prop}{YP:World->Heap->Prop}{K:Params->Frag}{CX:World->V6}{sp:World->Sp}{x:Str}
  (hn:l.most=some n) (hn2:n<=sizeLine) (hdf:d.params.defaults=[]) (hr:iM k callerA)
  (hY:∀(w:World) (h:Heap),YP w h->(K w.params).In h)
  (F:∀(w:World) (mg:Str->Option Value) (fa:Addr) (h:Heap),(K w.params).In h->h.Ns mainGlobals mg->mg d.name=some (.ref fa)->
   ∃fd:FuncData,(∀(s:Shared) (u:Value),BindsTo s fd ⟨[u],[]⟩ [(x,u)])/\
    ∀base:Heap,(K w.params).In base->base.Ns mainGlobals mg->ie l.prog w (K w.params) mg base (CX w) k fa fd [x] (sp w))
  (hsp:∀(w:World) (H:Hp) (a:Addr) (ns:List Int),ns.length<=n->Only H->rZ (K w.params) H a (ns.map V.int)->sp w [.ref a] H (λv _=>v= .bl true) λ_ _ _=>False)
  (hCX:∀(w:World) (H:Hp) (s:Shared) (e:Value) (s':Shared),CX w [] H s (λ_ _ _=>False) e s'->False):
  PySem.W.WalkO q loose XP YP l.row.toRowW d [] (λf vs=>PySem.call f vs):=by
 refine Att.Ud hn hdf λw s₀ s₁ mg mb fa o pm cd doc a vs ns G Y ho hd hcd hmg hobj hints hlen hg=> ?_
 have KX:=hY w _ Y
 obtain⟨fd,hb,hF⟩:=F w mg fa _ KX G.T.g hmg
 exact abL KX G.T.g G.T.b G.T.builtins G.T.nolimit hg hobj hints (yY hlen hn2) hr hF hb (λH hO hS=>hsp w H a ns hlen hO hS) λH e s'=>hCX w H s₁ e s'
def inClass(s:Stmt)(j:Nat):Stmt:=match s with
 | .ClassDef _ _ _ body _ _ _ _ _ _ _=>body.getD j (.Pass ⟨0,0,0,0⟩)
 | _=> .Pass ⟨0,0,0,0⟩
def gf(s:Stmt):Arguments:=match s with
 | .FunctionDef _ a _ _ _ _ _ _ _ _=>a
 | _=>{posonlyargs:=[],args:=[],vararg:=none,kwonlyargs:=[],kw_defaults:=[],kwarg:=none,defaults:=[]}
def dM(s:Stmt):List Stmt:=match s with
 | .FunctionDef _ _ b _ _ _ _ _ _ _=>b
 | _=>[]
def bu(s:Stmt):Scope:=match s with
 | .FunctionDef _ _ _ _ _ _ sc _ _ _=>sc
 | _=>{kind:= .function,names:=[],isGenerator:=false,isCoroutine:=false}
abbrev Zz:V6:=λ_ _ _ _ _ _=>False
abbrev E0:XK:=λ_ _ _=>False
section
variable{X:Cx}
theorem pv(i:Nat)(hN:X.N[i]? = some x:=by rfl)(hv:Vis X.env.scope x:=by first | exact Or.inl rfl | exact Or.inr (Or.inl rfl) | exact Or.inr (Or.inr rfl))(hd:(x==("__debug__" : Str))=false:=by decide)
  (hcd:(x==("__classdict__" : Str))=false:=by decide):PE X (.Name x pos) (ada i):=aa0 hN hv hd hcd
end
theorem Ei(h:∀n,(n,NameKind.free)∈scope.names->∃c,env.cells.lookup n=some c):
  ∃cl,closureFor scope env=pure cl/\(∀n c,cl.lookup n=some c->env.cells.lookup n=some c)/\∀n,(n,NameKind.free)∈scope.names->∃c,cl.lookup n=some c:=by
 have go:∀(names:List (Str×NameKind)) (acc:List (Str×Addr)),(∀n,(n,NameKind.free)∈names->∃c,env.cells.lookup n=some c)->(∀n c,acc.lookup n=some c->env.cells.lookup n=some c)->
   ∃cl,(forIn names acc λ(x:Str×NameKind) (r:List (Str×Addr))=>if(x.2==NameKind.free)=true then do let a <-cellOf env x.1;pure (ForInStep.yield ((x.1,a)::r))else pure (ForInStep.yield r):Sem (List (Str×Addr)))=pure cl/\
    (∀n c,cl.lookup n=some c->env.cells.lookup n=some c)/\(∀n,(n,NameKind.free)∈names->∃c,cl.lookup n=some c)/\∀n c,acc.lookup n=some c->∃c,cl.lookup n=some c:=by
  intro names
  induction names with
  | nil=>intro acc _ h2;exact⟨acc,rfl,h2,(λ_ z=>nomatch z),λn c e=>⟨c,e⟩⟩
  | cons x r ih=>
   intro acc h1 h2
   obtain⟨n,k⟩:=x
   by_cases hk:k=NameKind.free
   ·subst hk
    obtain⟨c,hc⟩:=h1 n xB
    obtain⟨cl,e1,e2,e3,e4⟩:=ih ((n,c)::acc) (λm z=>h1 m (yT _ z)) (λm d e=>by
     rw[List.lookup_cons]at e
     cases q:m==n with
     | true=>rw[q]at e;cases e;rw[eq_of_beq q];exact hc
     | false=>rw[q]at e;exact h2 m d e)
    refine⟨cl,?_,e2,λm z=> ?_,λm d e=> ?_⟩
    ·rw[List.forIn_cons]
     have:cellOf env n=pure c:=by unfold cellOf;rw[hc]
     simp only[this,beq_self_eq_true,if_true]
     exact e1
    ·rcases List.mem_cons.mp z with z | z
     ·cases z
      exact e4 n c (by rw[List.lookup_cons,beq_self_eq_true])
     ·exact e3 m z
    ·cases q:m==n with
     | true=>exact e4 m c (by rw[List.lookup_cons,q])
     | false=>exact e4 m d (by rw[List.lookup_cons,q];exact e)
   ·obtain⟨cl,e1,e2,e3,e4⟩:=ih acc (λm z=>h1 m (yT _ z)) h2
    refine⟨cl,?_,e2,λm z=> ?_,e4⟩
    ·rw[List.forIn_cons]
     have:(k==NameKind.free)=false:=by simpa using hk
     simp only[this,Bool.false_eq_true,if_false]
     exact e1
    ·rcases List.mem_cons.mp z with z | z
     ·cases z;exact absurd rfl hk
     ·exact e3 m z
 obtain⟨cl,e1,e2,e3,_⟩:=go scope.names [] h (λ_ _ e=>nomatch e)
 refine⟨cl,?_,e2,e3⟩
 unfold closureFor
 show(forIn scope.names [] _ >>= λr=>pure r)=_
 rw[show(forIn scope.names [] λ(x:Str×NameKind) (r:List (Str×Addr))=>_:Sem (List (Str×Addr)))=pure cl from e1]
 rfl
noncomputable def eE(env:Env)(x:Str×NameKind):Str×NameKind:=if(x.2== .free&&env.scope.kind== .function&&env.kindOf x.1==some .cell)then(x.1,.cell)else(x.1,x.2)
theorem K8(env:Env)(x:Str×NameKind):(eE env x).1=x.1:=by
 unfold eE;split<;>rfl
theorem WR:∀{names:List (Str×NameKind)},(∀z∈names,z.2≠ .cell)->((names.map (eE env)).lookup y=some .cell\/(names.map (eE env)).lookup y=some .free)->(y,NameKind.free)∈names
 | [],_,h=>by rcases h with h | h<;>cases h
 | (n,k)::r,hc,h=>by
  rw[List.map_cons]at h
  have e1:(eE env (n,k)).1=n:=K8 env (n,k)
  cases hx:y==n with
  | true=>
   have ey:=eq_of_beq hx
   subst ey
   have hk:k≠ .cell:=hc (y,k) xB
   have q:(eE env (y,k)).2= .cell\/(eE env (y,k)).2= .free:=by
    have l:∀kk,List.lookup y (eE env (y,k)::List.map (eE env) r)=some kk->(eE env (y,k)).2=kk:=λkk z=>by
     rw[show eE env (y,k)=(y,(eE env (y,k)).2)from Prod.ext e1 rfl,List.lookup_cons,beq_self_eq_true]at z
     exact xI z
    rcases h with h | h
    ·exact .inl (l _ h)
    ·exact .inr (l _ h)
   have hk2:k= .free:=by
    unfold eE at q
    split at q
    ·rename_i z
     rw[Bool.and_eq_true,Bool.and_eq_true]at z
     simpa using z.1.1
    ·rcases q with q | q
     ·exact absurd q hk
     ·exact q
   rw[hk2]
   exact xB
  | false=>
   have l:List.lookup y (eE env (n,k)::List.map (eE env) r)=List.lookup y (List.map (eE env) r):=by
    rw[show eE env (n,k)=(n,(eE env (n,k)).2)from Prod.ext e1 rfl,List.lookup_cons,hx]
   rw[l]at h
   exact yT _ (WR (λz hz=>hc z (yT _ hz)) h)
theorem aaN:∀{names:List (Str×NameKind)},names.lookup y=some .free->(names.map (eE env)).lookup y=some .cell\/(names.map (eE env)).lookup y=some .free
 | [],h=>by cases h
 | (n,k)::r,h=>by
  rw[List.map_cons]
  have e1:(eE env (n,k)).1=n:=K8 env (n,k)
  rw[show eE env (n,k)=(n,(eE env (n,k)).2)from Prod.ext e1 rfl,List.lookup_cons]
  rw[List.lookup_cons]at h
  cases hx:y==n with
  | true=>
   rw[hx]at h
   have hk:k= .free:=xI h
   subst hk
   show some (eE env (n,NameKind.free)).2=some NameKind.cell\/some (eE env (n,NameKind.free)).2=some NameKind.free
   unfold eE
   split
   ·exact .inl rfl
   ·exact .inr rfl
  | false=>
   rw[hx]at h
   exact aaN h
section
variable{prog:Program}{w:World}{A:Around}{R:Result->Shared->Prop}
theorem Z1(W:Nat->Shared->Prop)
  (turn:∀n s,W n s->wpAny (model prog w) A (pyNext it) (λr s1=>match r with
   | none=>R (.ok .next) s1
   | some v=>wpAny (model prog w) A (letOwnedTupleGo tg it v) (λ_ s2=>wpAny (model prog w) A (assign tg env v) (λ_ s3=>
     wpAny (model prog w) A (forIn ifs true λc r=>if r=true then do let ok <-isTrue c env (eval c env);pure (ForInStep.yield ok)else pure (ForInStep.yield r)) (λok s4=>
      if ok=true then wpAny (model prog w) A (eval elt env) (λx s5=>wpAny (model prog w) A (call (.builtin "list.append") [acc,x]) (λ_ s6=>∃m,m<n/\W m s6) (λ_ _=>False) s5) (λ_ _=>False) s4
      else ∃m,m<n/\W m s4) (λ_ _=>False) s3) (λ_ _=>False) s2) (λ_ _=>False) s1) (λ_ _=>False) s)
  (n:Nat) (h:W n s):codeAny (model prog w) A (.compLoop (.ListComp elt [⟨tg,iter,ifs,0⟩] scope pos) 0 it acc env) R s:=by
 have ex:∀{α:Type} {t:Sem α} {Q Q':α->Shared->Prop} {E:Value->Shared->Prop} {s:Shared},wpAny (model prog w) A t Q (λ_ _=>False) s->(∀a s,Q a s->Q' a s)->wpAny (model prog w) A t Q' E s:=
  λh f=>vE h f λ_ _ z=>z.elim
 refine codeAny_loop rfl W (λn s hI=> ?_) n h
 show wpAny _ A ((compTurn (.ListComp elt [⟨tg,iter,ifs,0⟩] scope pos) 0 it acc env).onRaise (λx=>do noteFrame x env;theTreesLotGoes x)) _ _ s
 refine wpAny_noted ?_
 rw[compTurn_list]
 refine zC (wpAny_standAt (zC (ex (turn n s hI) λr s1 h1=> ?_)))
 cases r with
 | none=>exact zI h1
 | some v=>
  refine zC (ex h1 λ_ s2 h2=>zC (ex h2 λ_ s3 h3=>zC (ex h3 λok s4 h4=> ?_)))
  cases ok with
  | false=>exact zI ⟨rfl,h4⟩
  | true=>exact zC (zC (ex h4 λx s5 h5=>zC (ex h5 λ_ s6 h6=>zI (zI ⟨rfl,h6⟩))))
end
noncomputable def dz(X:Cx)(scope:Scope)(cl:List (Str×Addr))(C:Addr)(N:List Str)(fp:List Addr)(s:Shared)(H:Hp):Cx where
 prog:=X.prog
 w:=X.w
 K:=X.K
 mg:=X.mg
 base:=X.base
 A:=X.A
 N:=N
 s₀:=s
 H₀:=H
 env:=compEnvC scope cl C X.env
 outer:=X.stack
 stack:=X.stack
 ex:=fp
 fn:=λ_=>false
 calm:=X.calm
 pn:=[]
 xe:=λ_ _=>False
def uv(X:Cx)(scope:Scope):List Str->List Nat->Prop
 | [],[]=>True
 | y::cs,i::js=>(X.N[i]? = some y/\scope.names.lookup y=some .free/\(X.env.kindOf y=some .cell\/X.env.kindOf y=some .free))/\uv X scope cs js
 | _,_=>False
theorem uv.len:∀{cs:List Str} {js:List Nat},uv X scope cs js->js.length=cs.length
 | [],[],_=>rfl
 | _::_,_::_,h=>by rw[List.length_cons,List.length_cons,uv.len h.2]
 | [],_::_,h=>h.elim
 | _::_,[],h=>h.elim
theorem uv.get:∀{cs:List Str} {js:List Nat} {j:Nat},uv X scope cs js->cs[j]? = some y->
  ∃i,js[j]? = some i/\X.N[i]? = some y/\scope.names.lookup y=some .free/\(X.env.kindOf y=some .cell\/X.env.kindOf y=some .free)
 | [],[],_,_,e=>by simp at e
 | _::_,i::_,0,h,e=>by simp at e;subst e;exact⟨i,rfl,h.1.1,h.1.2⟩
 | _::_,_::_,j+1,h,e=>by
  obtain⟨i,e1,r⟩:=uv.get (j:=j) h.2 (by simpa using e)
  exact⟨i,by simpa using e1,r⟩
 | [],_::_,_,h,_=>h.elim
 | _::_,[],_,h,_=>h.elim
def caps(js:List Nat)(σ:St):St:=js.map λi=>(σ[i]?).join
def PTs(X:Cx)(ifs:List Expr)(t:TT):Prop:=
 ∀(pins:List (Addr×Obj)) (s:Shared) (σ:St) (H:Hp) (Q:Bool->Hp->Prop),Inv X pins σ H s->t σ H Q->
  wpAny (model X.prog X.w) X.A (forIn ifs true λc r=>if r=true then do let ok <-isTrue c X.env (eval c X.env);pure (ForInStep.yield ok)else pure (ForInStep.yield r)) (TP X pins σ Q) X.xe s
def ane:TT:=λ_ H Q=>Q true H
theorem adI:PTs X [] ane:=λ_ _ _ H _ I h=>zI ⟨H,I,h⟩
theorem adH(h:PT X c t):PTs X [c] t:=by
 intro pins s σ H Q I hq
 rw[List.forIn_cons]
 simp only[if_true]
 exact zC (zC (fU (h pins s σ H Q I hq) λok s1 q=>zI (zI q)))
def aip(js:List Nat)(tt:TT)(te:TE)(σ:St)(Q:VK)(J:It)(H1:Hp):Prop:=
 ∃W:Nat->Nat->List V->Hp->Prop,(∃m,W 0 m [] H1)/\∀i m ys H,W i m ys H->
  (J.stop i H/\ys.length<=sizeLine/\∀p,H p=none->Q (.ref p) (upd H p (.lst ys)))\/
  (J.go i H/\∃N:List V->Hp->Prop,(∀ys' H',N ys' H'->ys'.length<=sizeLine/\∃m',m'<m/\W (i+1) m' ys' H')/\∀x H',J.Yc i H x H'->tt (some x::caps js σ) H' λb H2=>
   if b=true then te (some x::caps js σ) H2 λy H3=>N (ys++[y]) H3 else N ys H2)
def aaa(js:List Nat)(wi:TI)(tt:TT)(te:TE):TE:=λσ H Q=>wi σ H λJ H1=>aip js tt te σ Q J H1
theorem uU.track(x:uU P w H h)(hn:H a=none)(new:fC P w (upd H a o) h a o):uU P w (upd H a o) h:=λb u e=>by
 by_cases hb:b=a
 ·subst hb;rw[bA]at e;cases e;exact new
 ·rw[aL hb]at e
  exact(x b u e).stay (λc v _ q=>q) (λc q=>by rw[aL (bN q hn)];exact q) λc xs q=>by rw[aL (bN q hn)];exact q
theorem Un.track(u:Un fs ex H H1 h h1)(hn:h.get? a=none)(hH:H a=none):Un fs ex H (upd H1 a o) h h1 where
 keep:=u.keep
 slot:=u.slot
 free:=λb ob e n hx=>by rw[aL (by rintro rfl;rw[hn]at e;cases e)];exact u.free b ob e n hx
 there:=u.there
 tups:=λb xs e=>by rw[aL (bN e hH)];exact u.tups b xs e
 zy:=λb ob xs e=>by rw[aL (bN e hH)];exact u.zy b ob xs e
 Cv:=λb ps e=>by rw[aL (bN e hH)];exact u.Cv b ps e
def Iw(xs:List Str):St:=xs.map λ_=>none
section
variable{X:Cx}{x:Str}{px:Pos}{tg elt iter:Expr}{ifs:List Expr}{scope:Scope}{xs cs:List Str}{js:List Nat}{tt:TT}{te:TE}{pos:Pos}
theorem Jk{g:TG}{cl:List (Str×Addr)}{pins:List (Addr×Obj)}{σ:St}{H2:Hp}{s2:Shared}{it:Addr}{fp:List Addr}{tn:Nat->Heap->Prop}{J:It}{Q:VK}{RR:Value->Addr->Result->Shared->Prop}
  (hc:X.calm=true) (hcap:uv X scope cs js) (ht:∀cl C fp s H,PTs (dz X scope cl C (xs++cs) fp s H) ifs tt) (he:∀cl C fp s H,PE (dz X scope cl C (xs++cs) fp s H) elt te)
  (hcell:∀y∈scope.names,y.2≠ .cell) (hkind:scope.kind= .function) (hg:∀cl C fp s H,PG (dz X scope cl C (xs++cs) fp s H) tg g)
  (Ef:∀n c,cl.lookup n=some c->X.env.cells.lookup n=some c) (Nx:∀n,(n,NameKind.free)∈scope.names->∃c,cl.lookup n=some c)
  (I2:Inv X pins σ H2 s2) (T:Turn X.prog X.w X.K (tg) J fp it tn) (st2:tn 0 s2.heap) (f2:∀b∈fp,CV X pins H2 b)
  (W:Nat->Nat->List V->Hp->Prop) (w0:∃m,W 0 m [] H2)
  (step:∀i m ys H,W i m ys H->
   (J.stop i H/\ys.length<=sizeLine/\∀p,H p=none->Q (.ref p) (upd H p (.lst ys)))\/
   (J.go i H/\∃N:List V->Hp->Prop,(∀ys' H',N ys' H'->ys'.length<=sizeLine/\∃m',m'<m/\W (i+1) m' ys' H')/\∀x H',J.Yc i H x H'->g x (Iw xs++caps js σ) H' λσ1 H1=>(σ1.length=(Iw xs++caps js σ).length/\σ1.drop xs.length=caps js σ)/\tt σ1 H1 λb H2=>
    if b=true then te σ1 H2 λy H3=>N (ys++[y]) H3 else N ys H2))
  (fin:∀(D C:Addr) (H3:Hp) (s4:Shared) (m':Str->Option Value),Inv X pins σ H3 s4->s4.heap.Ns C m'->s2.heap.objs.size<=C->H3 C=none->Q (.ref D) H3->RR (.ref D) C (.ok .next) s4):
  wpAny (model X.prog X.w) X.A (newList []) (λacc s3=>wpAny (model X.prog X.w) X.A (newFunctionEnv scope X.env.globals cl [] X.env.qual none .none (some X.env)) (λcenv s4=>
   codeAny (model X.prog X.w) X.A (.compStart (.ListComp elt [⟨tg,iter,ifs,0⟩] scope pos) 0 (.ref it) acc {cenv with scope:=relabel scope X.env}) (RR acc cenv.locals) s4) X.xe s3) X.xe s2:=by
 refine wT (wpAny_newFunctionEnv hcell (by intro y hy;simp at hy) (λh1 hns hsb=> ?_) hkind)
 dsimp only at hns hsb ⊢
 generalize hP:s2.heap.push {cls:= .type "list",dict:=none,data:= .seq ([]:List Value).toArray}=hq at hns hsb ⊢
 have eC:hq.objs.size=s2.heap.objs.size+1:=by rw[<-hP,Heap.size_push]
 generalize eD:s2.heap.objs.size=D at eC ⊢
 generalize eCC:hq.objs.size=C at hns hsb eC ⊢
 have DC:D≠C:=()
 have old:∀b o,s2.heap.get? b=some o->h1.get? b=some o:=λb o e=>by
  have lt: @LT.lt Nat _ b s2.heap.objs.size:=zS e
  exact hsb.extBut b o (λz=>by subst z;omega) (zD _ (hP▸zD _ e))
 have apf:h1.get? D=some {cls:= .type "list",dict:=none,data:= .seq ([]:List Value).toArray}:=hsb.extBut _ _ DC (zD _ (hP▸eD▸yB _ rfl))
 have noD:s2.heap.get? D=none:=Heap.get?_none_of_le ()
 have HD:H2 D=none:=I2.hok.fresh ()
 have HC:H2 C=none:=I2.hok.fresh ()
 have akY:∀b∈fp,@LT.lt Nat _ b D:=λb hb=>by
  obtain⟨o,e,_⟩:=T.obj _ _ st2 b hb
  have q: @LT.lt Nat _ b s2.heap.objs.size:=zS e
  omega
 have Dfp:D∉fp:=λz=>wS _ (akY D z)
 have aoI:∀b∈frs X.stack,@LT.lt Nat _ b D:=λb hb=>by
  obtain⟨_,o,ho,_⟩:=I2.stack.mem hb
  have q: @LT.lt Nat _ b s2.heap.objs.size:=zS ho
  omega
 have aoW:∀y c,cl.lookup y=some c-> @LT.lt Nat _ c D:=λy c e=>by
  obtain⟨v,z⟩:=I2.cell y c (Ef y c e)
  have q: @LT.lt Nat _ c s2.heap.objs.size:=z.lt
  omega
 have ok:(dz X scope cl C (xs++cs) fp s2 H2).Ok:=by
  refine⟨I2.ok.mod,hkind,I2.ok.glob,I2.ok.blt,(by show s2.heap.objs.size<=C;omega),λy z c e1 e2=>I2.ok.inj y z c (Ef y c e1) (Ef z c e2),λy hy=>Nx y (WR hcell hy),λy c e=>(by cases e),I2.ok.hd,I2.ok.frames,.inl rfl,
   λb hb=>⟨?_,λy c e=>(f2 b hb).2.2.2.2.1 y c (Ef y c e)⟩,I2.bs,yY I2.ok.Zk I2.sz,λb o e hb=> ?_,λb hb z=> ?_,I2.stack,I2.JR⟩
  ·have q:=akY b hb
   show b≠C
   intro z
   subst z
   omega
  ·rcases(f2 b hb).2.2.2.1 with z | z
   ·exact I2.ok.SQ b o e z
   ·have l: @LT.lt Nat _ b X.base.objs.size:=zS e
    have l2:=I2.ok.Zk
    have l3: @LE.le Nat _ X.s₀.heap.objs.size b:=z
    omega
  ·rcases List.mem_cons.mp (I2.Pj b z)with e | e
   ·exact(f2 b hb).2.1 e
   ·exact(f2 b hb).2.2.1 e
 have I0:Inv (dz X scope cl C (xs++cs) fp s2 H2) [(D,{cls:= .type "list",dict:=none,data:= .seq ([]:List Value).toArray})] (Iw xs++caps js σ) H2 {s2 with heap:=h1,toks:=s2.toks+([]:List (Str×Value)).length}:=by
  refine⟨ok,rfl,I2.bare,Un.kept old,⟨_,hns,λi y v e1 e2 e3=> ?_⟩,λy c e=> ?_,HC,λy c e=>I2.lO y c (Ef y c e),λp hp=> ?_,I2.hok.kept old,?_⟩
  ·have hi:xs.length<=i:=by
    rcases Nat.lt_or_ge i xs.length with q | q
    ·rw[zad (by simpa[Iw]using q)]at e2
     simp[Iw]at e2
    ·exact q
   obtain⟨j,rfl⟩:∃j,i=xs.length+j:=⟨i - xs.length,()⟩
   ·have e1':cs[j]? = some y:=by
     have:(xs++cs)[xs.length+j]? = some y:=e1
     rw[zac ()]at this
     simpa using this
    obtain⟨i0,q1,q2,q3,q4⟩:=hcap.get e1'
    have e2':σ[i0]? = some (some v):=by
     have z:(caps js σ)[j]? = some (some v):=by
      rw[zac (by simp[Iw])]at e2
      simpa[Iw]using e2
     unfold caps at z
     rw[zal,q1]at z
     have z':(σ[i0]?).join=some v:=by simpa using z
     cases r:σ[i0]? with
     | none=>rw[r]at z';cases z'
     | some r'=>rw[r]at z';exact congrArg some z'
    obtain⟨m,_,hl⟩:=I2.loc
    obtain⟨u,r,l⟩:=hl i0 y v q2 e2' (by rcases q4 with q | q;exact .inr (.inl q);exact .inr (.inr q))
    obtain⟨c,hcy⟩:=Nx y (PySem.mem_of_lookup q3)
    refine⟨u,r,.inr ⟨aaN q3,c,hcy,?_⟩⟩
    rcases l with⟨k,_⟩ | ⟨_,c',ec,o,ho,hd⟩
    ·rcases q4 with q | q<;>rw[q]at k<;>cases k
    ·rw[Ef y c hcy]at ec
     cases ec
     exact⟨o,old _ _ ho,hd⟩
  ·obtain⟨v,o,ho,hd⟩:=I2.cell y c (Ef y c e)
   exact⟨v,o,old _ _ ho,hd⟩
  ·have ep:p=(D,{cls:= .type "list",dict:=none,data:= .seq ([]:List Value).toArray}):=by simpa[dz]using hp
   subst ep
   exact⟨apf,HD,(by show D≠C;omega),(λz=>wS _ (aoI D z)),λv z=>by cases z⟩
  ·show(Iw xs++caps js σ).length=(xs++cs).length
   unfold caps Iw
   rw[List.length_append,List.length_append,zam,zam,hcap.len]
 have stat:∀{pn:List (Addr×Obj)} {H':Hp},(∀b∈fp,H' b=none)->(∀p∈pn,p.1∉fp)->∀b∈fp,CV (dz X scope cl C (xs++cs) fp s2 H2) pn H' b:=λhn hpn b hb=>
  ⟨hn b hb,(ok.exf b hb).1,ok.TJ b hb,.inl hb,λy c e=>(ok.exf b hb).2 y c e,λp hp z=>hpn p (by simpa[dz]using hp) (z▸hb)⟩
 have loop:∀s3:Shared,s3={s2 with heap:=h1,toks:=s2.toks+([]:List (Str×Value)).length}->
   codeAny (model X.prog X.w) X.A (.compLoop (.ListComp elt [⟨tg,iter,ifs,0⟩] scope pos) 0 (.ref it) (.ref D) (compEnvC scope cl C X.env)) (RR (.ref D) C) s3:=by
  rintro s3 rfl
  obtain⟨m0,w0⟩:=w0
  refine Z1 (λn s=>∃(i:Nat) (ys:List V) (its:List Value) (c:Nat) (H:Hp),Inv (dz X scope cl C (xs++cs) fp s2 H2) [(D,{cls:= .type "list",data:= .seq its.toArray c})] (Iw xs++caps js σ) H s/\
   tn i s.heap/\(∀b∈fp,H b=none)/\Vals ys its/\W i n ys H) ?_ m0 ⟨0,[],[],0,H2,I0,T.keep _ _ _ st2 λb _ o e=>old b o e,λb hb=>(f2 b hb).1,.nil,w0⟩
  rintro n s3 ⟨i,ys,its,c,H3,I3,st3,fr3,rv,w3⟩
  have pD:∀p∈[((D,{cls:= .type "list",data:= .seq its.toArray c}):Addr×Obj)],p.1∉fp:=λp hp=>by
   have:p=(D,{cls:= .type "list",data:= .seq its.toArray c}):=by simpa using hp
   subst this
   exact Dfp
  rcases step i n ys H3 w3 with⟨stop,hlen,qn⟩ | ⟨go,N,hN,step⟩
  ·refine fU (T.done (dz X scope cl C (xs++cs) fp s2 H2) rfl rfl rfl hc i _ s3 _ H3 (λ_ _=>False) I3 (stat fr3 pD) st3 stop) ?_
   rintro r s4 ⟨hr,I4⟩
   subst hr
   obtain⟨gD,nD,_⟩:=I4.pin _ (xE _ xB)
   obtain⟨m',hn',_⟩:=id I4.loc
   have u4:Un (frs X.stack) fp H2 H3 s2.heap s4.heap:=I4.base
   have k4:uU X.prog X.w (upd H3 D (.lst ys)) s4.heap:=uU.track I4.hok nD ⟨hlen,its,c,rv,gD⟩
   have I5:Inv X pins σ (upd H3 D (.lst ys)) s4:=I2.call' (ch:=fp) I4.os (u4.track noD HD) k4 I4.bare λb hb=>⟨(f2 b hb).2.2.2.1,(f2 b hb).2.1,(f2 b hb).2.2.2.2.1,(f2 b hb).2.2.2.2.2⟩
   exact fin D C _ s4 m' I5 hn' () (by rw[aL (Ne.symm DC)];exact I4.free) (qn D nD)
  ·refine fU (T.item (dz X scope cl C (xs++cs) fp s2 H2) rfl rfl rfl hc i _ s3 _ H3 (λ_ _=>False) I3 (stat fr3 pD) st3 go) ?_
   rintro r s4 ⟨u,hr,h4⟩
   subst hr
   refine fU h4 ?_
   rintro _ s5 ⟨v,H5,I5,r5,y5,st5,fr5⟩
   have I5':=I5.pinned (stat fr5 pD) (T.obj _ _ st5)
   refine fU (hg cl C fp s2 H2 _ s5 (Iw xs++caps js σ) H5 v u _ I5' r5 (step v H5 y5)) ?_
   rintro _ s6 ⟨σ6,H6,I6,⟨an9,ak8⟩,q6⟩
   have weak:∀{pn:List (Addr×Obj)} {H':Hp} {s':Shared},Inv (dz X scope cl C (xs++cs) fp s2 H2) pn σ6 H' s'->Inv (dz X scope cl C (xs++cs) fp s2 H2) pn (Iw xs++caps js σ) H' s':=λI'=>
    I'.weak an9.symm λj z e=>by
     have hj:xs.length<=j:=by
      rcases Nat.lt_or_ge j xs.length with q | q
      ·rw[zad (by simpa[Iw]using q)]at e
       simp[Iw]at e
      ·exact q
     rw[zac (by simpa[Iw]using hj),<-ak8]at e
     rw[List.getElem?_drop]at e
     rw[<-e]
     congr 1
     simp[Iw]
     omega
   have tnK:∀{σ':St} {H':Hp} {s':Shared},Inv (dz X scope cl C (xs++cs) fp s2 H2) ([(D,{cls:= .type "list",data:= .seq its.toArray c})]++K_ fp s5.heap) σ' H' s'->(∀b∈fp,∀o,s5.heap.get? b=some o->s'.heap.get? b=some o)/\∀b∈fp,H' b=none:=λI'=>
    ⟨λb hb o e=>(I'.pin (b,o) (xE _ (xE _ (ym hb e)))).1,λb hb=>by
     obtain⟨o,e,_⟩:=T.obj _ _ st5 b hb
     exact(I'.pin (b,o) (xE _ (xE _ (ym hb e)))).2.1⟩
   refine fU (ht cl C fp s2 H2 _ s6 σ6 H6 _ I6 q6) ?_
   rintro b s7 ⟨H7,I7,q7⟩
   cases b with
   | false=>
    rw[if_neg xA]at q7 ⊢
    obtain⟨_,m',hm,w7⟩:=hN _ _ q7
    exact⟨m',hm,i+1,ys,its,c,H7,weak I7.Fj,T.keep _ _ _ st5 (tnK I7).1,(tnK I7).2,rv,w7⟩
   | true=>
    rw[if_pos rfl]at q7 ⊢
    refine fU (he cl C fp s2 H2 _ s7 σ6 H7 _ I7 q7) ?_
    rintro yv s8 ⟨y,H8,I8,r8,q8⟩
    obtain⟨hl8,m',hm,w8⟩:=hN _ _ q8
    rw[List.length_append,List.length_singleton]at hl8
    obtain⟨gD,nD,dC,dF,_⟩:=I8.pin (D,{cls:= .type "list",data:= .seq its.toArray c}) (xE _ (List.mem_append_left _ xB))
    have el:=rv.length
    refine wpAny_list_append_plain (hsz:=by rw[List.size_toArray];omega) ⟨c,gD⟩ λh9 p9 sb9=> ?_
    obtain⟨c9,g9⟩:=p9
    have g9':h9.get? D=some {cls:= .type "list",data:= .seq (its++[yv]).toArray c9}:=by simpa using g9
    have I9:Inv (dz X scope cl C (xs++cs) fp s2 H2) [] (Iw xs++caps js σ) H8 {s8 with heap:=h9}:=
     (weak (I8.Gb (Af:=[]) (λp hp=>nomatch hp))).turned (t':=s8.toks) (it:=D) (λb o hb e=>(sb9.2 b hb).trans e) nD dC (.inr (by show s2.heap.objs.size<=D;omega)) (λy c e z=>by have q:=aoW y c e;subst z;omega) (λp hp=>nomatch hp)
    refine⟨m',hm,i+1,ys++[y],its++[yv],c9,H8,I9.Gb λp hp=> ?_,?_,(tnK I8).2,rv.append (.cons r8 .nil),w8⟩
    ·have:p=(D,{cls:= .type "list",data:= .seq (its++[yv]).toArray c9}):=by simpa using hp
     subst this
     exact⟨g9',nD,dC,dF,λv z=>by cases z⟩
    ·exact T.keep _ _ _ st5 λb hb o e=>(sb9.2 b (λz=>Dfp (z▸hb))).trans ((tnK I8).1 b hb o e)
 exact codeAny_compStart_list (loop _ rfl) (T.self _ 0 _ _ _ (T.keep _ _ _ st2 λb _ o e=>old b o e) (loop _ rfl))
theorem Mr{cl:List (Str×Addr)}{pins:List (Addr×Obj)}{σ:St}{H2:Hp}{s2:Shared}{it:Addr}{fp:List Addr}{tn:Nat->Heap->Prop}{J:It}{Q:VK}{RR:Value->Addr->Result->Shared->Prop}
  (hc:X.calm=true) (hcap:uv X scope cs js) (ht:∀cl C fp s H,PTs (dz X scope cl C (x::cs) fp s H) ifs tt) (he:∀cl C fp s H,PE (dz X scope cl C (x::cs) fp s H) elt te)
  (hcell:∀y∈scope.names,y.2≠ .cell) (hkind:scope.kind= .function) (hx:scope.names.lookup x=some .local) (hnd:(x::cs).Nodup)
  (Ef:∀n c,cl.lookup n=some c->X.env.cells.lookup n=some c) (Nx:∀n,(n,NameKind.free)∈scope.names->∃c,cl.lookup n=some c)
  (I2:Inv X pins σ H2 s2) (T:Turn X.prog X.w X.K (.Name x px) J fp it tn) (st2:tn 0 s2.heap) (f2:∀b∈fp,CV X pins H2 b)
  (W:Nat->Nat->List V->Hp->Prop) (w0:∃m,W 0 m [] H2)
  (step:∀i m ys H,W i m ys H->
   (J.stop i H/\ys.length<=sizeLine/\∀p,H p=none->Q (.ref p) (upd H p (.lst ys)))\/
   (J.go i H/\∃N:List V->Hp->Prop,(∀ys' H',N ys' H'->ys'.length<=sizeLine/\∃m',m'<m/\W (i+1) m' ys' H')/\∀x H',J.Yc i H x H'->tt (some x::caps js σ) H' λb H2=>
    if b=true then te (some x::caps js σ) H2 λy H3=>N (ys++[y]) H3 else N ys H2))
  (fin:∀(D C:Addr) (H3:Hp) (s4:Shared) (m':Str->Option Value),Inv X pins σ H3 s4->s4.heap.Ns C m'->s2.heap.objs.size<=C->H3 C=none->Q (.ref D) H3->RR (.ref D) C (.ok .next) s4):
  wpAny (model X.prog X.w) X.A (newList []) (λacc s3=>wpAny (model X.prog X.w) X.A (newFunctionEnv scope X.env.globals cl [] X.env.qual none .none (some X.env)) (λcenv s4=>
   codeAny (model X.prog X.w) X.A (.compStart (.ListComp elt [⟨.Name x px,iter,ifs,0⟩] scope pos) 0 (.ref it) acc {cenv with scope:=relabel scope X.env}) (RR acc cenv.locals) s4) X.xe s3) X.xe s2:=
 Jk (xs:=[x]) (g:=TF 0) hc hcap ht he hcell hkind (λcl C fp s H=>Qa hnd rfl (.inl (lookup_relabel_local hx)) (.inr (lookup_relabel_local hx))) Ef Nx I2 T st2 f2 W w0
  (λi m ys H h=>(step i m ys H h).imp id λ⟨go,N,hN,st⟩=>⟨go,N,hN,λx H' y=>⟨⟨rfl,rfl⟩,st x H' y⟩⟩) fin
theorem Inv.letGo(I2:Inv X pins σ2 H2 s2)(I:Inv X pins σ H s)(hC:s2.heap.objs.size<=C)(hn:H C=none)(sb:Heap.SameBut C s.heap h'):Inv X pins σ H {s with heap:=h'}:=
 I.turned (t':=s.toks) (λb o hb e=>(sb.2 b hb).trans e) hn (xS (yA I2.lt hC)) (.inr (yY I2.sz hC))
  (λy c e z=>by obtain⟨v,q⟩:=I2.cell y c e;exact absurd (yA q.lt (by rw[z];exact hC)) (wS _))
  (λp hp z=>absurd (yA (zS (I2.pin p hp).1) (by rw[z];exact hC)) (wS _))
theorem adY(hc:X.calm=true)(cs:List Str)(js:List Nat)(hi:PI X (.Name x px) iter wi)(hcap:uv X scope cs js)(ht:∀cl C fp s H,PTs (dz X scope cl C (x::cs) fp s H) ifs tt)(he:∀cl C fp s H,PE (dz X scope cl C (x::cs) fp s H) elt te)
  (hall:∀y∈scope.names,y.2= .free->y.1∈cs) (hcell:∀y∈scope.names,y.2≠ .cell) (hnames:∀y∈scope.names,y.2= .local->scope.names.lookup y.1=some .local) (hnd:(x::cs).Nodup)
  (hkind:scope.kind= .function:=by rfl) (hx:scope.names.lookup x=some .local:=by rfl) (hs:∀v,foldedSetIterable iter X.env v=pure v:=by intro _;rfl):
  PE X (.ListComp elt [⟨.Name x px,iter,ifs,0⟩] scope pos) (aaa js wi tt te):=by
 intro pins s σ H Q I h
 obtain⟨cl,abX,Ef,Nx⟩:=Ei (env:=X.env) (scope:=scope) λn hn=>by
  obtain⟨j,hj⟩:=List.getElem?_of_mem (hall _ hn rfl)
  obtain⟨_,_,_,_,k⟩:=hcap.get hj
  exact I.ok.has n k
 rw[eval_ListComp]
 refine wpAny_comprehension_free (use:=none) rfl hs abX hkind hnames (fU (hi pins s σ H _ I h) λv s1 h1=>fU h1 λitv s2 h2=> ?_)
 obtain⟨it,fp,tn,J,H2,e,I2,T,st2,f2,W,w0,step⟩:=h2
 subst e
 refine Mr (Q:=Q) (RR:=λacc C=>compPost (model X.prog X.w) X.A X.xe none (EP X pins σ Q) acc C) hc hcap ht he hcell hkind hx hnd Ef Nx I2 T st2 f2 W w0 step λD C H3 s4 m' I4 hn hC hH q=> ?_
 exact⟨m',hn,λh' sb=>⟨.ref D,H3,I2.letGo I4 hC hH sb,rfl,q⟩⟩
theorem adR(hc:X.calm=true)(cs:List Str)(js:List Nat)(hN:X.N.Nodup)(hk:X.N[k]? = some y)(hy:X.env.scope.names.lookup y=some .local)(hi:PI X (.Name x px) iter wi)(hcap:uv X scope cs js)
  (ht:∀cl C fp s H,PTs (dz X scope cl C (x::cs) fp s H) ifs tt) (he:∀cl C fp s H,PE (dz X scope cl C (x::cs) fp s H) elt te)
  (hall:∀y∈scope.names,y.2= .free->y.1∈cs) (hcell:∀y∈scope.names,y.2≠ .cell) (hnames:∀y∈scope.names,y.2= .local->scope.names.lookup y.1=some .local) (hnd:(x::cs).Nodup)
  (hsw:swapsWith (.ListComp elt [⟨.Name x px,iter,ifs,0⟩] scope pos) (some (.Name y py)) spos.line X.env=pure true:=by rfl)
  (hkind:scope.kind= .function:=by rfl) (hx:scope.names.lookup x=some .local:=by rfl) (hs:∀v,foldedSetIterable iter X.env v=pure v:=by intro _;rfl):
  PS X (.Assign [.Name y py] (.ListComp elt [⟨.Name x px,iter,ifs,0⟩] scope pos) spos) (ade (aaa js wi tt te) (TF k)):=by
 intro pins s σ H D I h
 obtain⟨cl,abX,Ef,Nx⟩:=Ei (env:=X.env) (scope:=scope) λn hn=>by
  obtain⟨j,hj⟩:=List.getElem?_of_mem (hall _ hn rfl)
  obtain⟨_,_,_,_,k⟩:=hcap.get hj
  exact I.ok.has n k
 rw[exec_Assign_Name_used _ _ _ _ hsw]
 refine zC (wpAny_standAt (zC ?_))
 show wpAny _ X.A (do let _ <-comprehension (.ListComp elt [⟨.Name x px,iter,ifs,0⟩] scope pos) scope X.env _ (newList []) false (eval iter X.env) (some (assign (.Name y py) X.env))) _ _ s
 refine zC (fU (wpAny_comprehension_free (use:=some (assign (.Name y py) X.env)) (Q:=λ_ s'=>SP X pins D .next s') rfl hs abX hkind hnames (fU (hi pins s σ H _ I h) λv s1 h1=>fU h1 λitv s2 h2=> ?_)) (λ_ s' q=>zI (zI q)))
 obtain⟨it,fp,tn,J,H2,e,I2,T,st2,f2,W,w0,step⟩:=h2
 subst e
 refine Mr (Q:=λx H1=>TF k x σ H1 D.nx) (RR:=λacc C=>compPost (model X.prog X.w) X.A X.xe (some (assign (.Name y py) X.env)) (λ_ s'=>SP X pins D .next s') acc C) hc hcap ht he hcell hkind hx hnd Ef Nx I2 T st2 f2 W w0 step λD' C H3 s4 m' I4 hn hC hH q=> ?_
 show wpAny _ X.A (assign (.Name y py) X.env (.ref D')) _ _ _
 refine wpAny_assign_Name (N7 (v:= .ref D') I4 hN hk (.inl hy) rfl (?_) (.inr hy))
 rintro s5 I5 ⟨a,sb,ha⟩
 have neC:C≠a:=by
  rcases ha with e | e
  ·rw[e];exact xS (yA I2.lt hC)
  ·intro z
   obtain⟨v,q⟩:=I2.cell y a e
   exact absurd (yA q.lt (by rw[<-z];exact hC)) (wS _)
 exact⟨m',hn.sameBut sb neC,λh' sb'=>⟨_,H3,I2.letGo I5 hC hH sb',q⟩⟩
end
def afN:HO->Bool
 | .dT _=>false
 | .mK _ (.dT _)=>false
 | .mK _ (.ins _ _ _)=>false
 | .mK _ (.mK _ _)=>false
 | _=>true
def Flat(H:Hp):Prop:=∀a o,H a=some o->afN o=true
def X_(H:Hp):Prop:=∀a C dx fs,H a=some (.ins C dx fs)->H dx=some (.own a)
structure Fgt(H H' Ul:Hp):Prop where
 sub:∀a o,Ul a=some o->H' a=some o
 flat:Flat Ul
 own:X_ H->X_ Ul
 tup:∀b xs,H b=some (.tup xs)->Ul b=some (.tup xs)
 mK:∀b o u,H b=some (.mK o u)->Ul b=some (.mK o u)
 Z7:∀b ps,H b=some (.Z7 ps)->∃more,Ul b=some (.Z7 (ps++more))
theorem fC.less(x:fC P w H' h a o)(f:afN o=true)(hw:∀C dx fs,o= .ins C dx fs->H dx=some (.own a)):fC P w H h a o:=by
 cases o with
 | dT kvs=>exact absurd f xA
 | ins C dx fs=>exact⟨hw C dx fs rfl,x.2⟩
 | mK ob u=>
  cases u with
  | dT _=>exact absurd f xA
  | ins _ _ _=>exact absurd f xA
  | mK _ _=>exact absurd f xA
  | _=>exact x
 | _=>exact x
theorem uU.less(x:uU P w H' h)(s:∀a o,H a=some o->H' a=some o)(f:Flat H)(hw:X_ H):uU P w H h:=λa o e=>
 (x a o (s a o e)).less (f a o e) λC dx fs z=>hw a C dx fs (by rw[<-z];exact e)
theorem uU.own(x:uU P w H h):X_ H:=λa _ _ _ e=>(x a _ e).1
def gcK(H:Hp)(Q:VK):VK:=λv H'=>Q v H'\/∃Ul,Fgt H H' Ul/\Q v Ul
theorem ie.gc{P:Program}{w:World}{K:Frag}{mg:Str->Option Value}{base:Heap}{CX:V6}{k:Nat}{f:Addr}{fd:FuncData}{ps:List Str}{sp sp':Sp}(F:ie P w K mg base CX k f fd ps sp)
  (h:∀vs H Q E,sp' vs H Q E->sp vs H (gcK H Q) E):ie P w K mg base CX k f fd ps sp':=by
 refine⟨λvs H Q E q=>F.len vs H _ E (h _ _ _ _ q),λA outer s H args us vs Q E hr he hb hv hs=>codeAny_mono (F.run A outer s H args us vs (gcK H Q) E hr he hb hv (h _ _ _ _ hs)) λr s' hq=> ?_⟩
 cases r with
 | error e=>exact hq
 | ok fl=>
  cases fl with
  | ret u=>
   obtain⟨v,H',os,bare,un,hok,rv,q⟩:=hq
   rcases q with q | ⟨Ul,g,q⟩
   ·exact⟨v,H',os,bare,un,hok,rv,q⟩
   refine⟨v,Ul,os,bare,⟨un.keep,un.slot,λb o e n hx=> ?_,un.there,g.tup,g.mK,g.Z7⟩,hok.less g.sub g.flat (g.own he.hok.own),rv,q⟩
   cases z:Ul b with
   | none=>rfl
   | some o'=>
    have z':=g.sub b o' z
    rw[un.free b o e n hx]at z'
    cases z'
  | next=>exact hq
  | brk=>exact hq
  | cont=>exact hq
structure zE(K:Frag)(x qual:Str)(st:Stmt)(dV:Value)(f:Addr)(fd:FuncData):Prop where
 ex:∃(oc:Value) (od:Option Addr) (kV doc pm:Value) (an:Option Addr) (cdv ct:Value) (osl:Array (Option Value)),
  fd=fnOf x qual (gf st) (dM st) (bu st) dV kV doc pm an cdv ct/\K.lookup f=some ⟨oc,od,.func fd,osl⟩/\codeIn K cdv qual=true
 kp:keepIn K (.ref f)=true
section
variable{P:Program}{w:World}{K:Frag}{mg:Str->Option Value}{base:Heap}
theorem zE.ok{x qual:Str}{st:Stmt}{dV:Value}{f:Addr}{fd:FuncData}{N ps:List Str}{k:Nat}{sp:Sp}(F:zE K x qual st dV f fd)(S:sy N ps (bu st))(len:∀vs H Q E,sp vs H Q E->vs.length=ps.length)
  (hbody:∀(cdv:Value) (A:Around) (outer:List Env) (s:Shared) (H:Hp) (vs:List V) (Q:VK) (E:XK),iM k (A.deeper (envOfC qual (bu st) s.heap.objs.size f cdv))->sp vs H Q E->
   ∃t,Ke (yJ Zz P w K mg base N qual (bu st) f cdv A outer s H E).nox (dM st) t/\t {nx:=λ_ H'=>gcK H Q .non H',rt:=gcK H Q} (start N vs) H):ie P w K mg base Zz (k+1) f fd ps sp:=by
 obtain⟨oc,od,kV,doc,pm,an,cdv,ct,osl,rfl,lk,hcd⟩:=F.ex
 refine ie.gc (sp:=λvs H Q' E=>∃Q,sp vs H Q E/\Q'=gcK H Q) (afM lk hcd S (λvs H Q E ⟨Q0,q,_⟩=>len vs H Q0 E q) λA outer s H vs Q' E hr hsp=> ?_) λvs H Q E q=>⟨Q,q,rfl⟩
 obtain⟨Q,hsp,rfl⟩:=hsp
 obtain⟨t,h,q⟩:=hbody cdv A outer s H vs Q E hr hsp
 exact⟨t,h.nox,q⟩
theorem zE.binds{x qual:Str}{st:Stmt}{dV:Value}{f:Addr}{fd:FuncData}{ps:List Str}(F:zE K x qual st dV f fd)
  (h:∀(kV doc pm:Value) (an:Option Addr) (cdv ct:Value) (us:List Value),us.length=ps.length->bindArgs (fnOf x qual (gf st) (dM st) (bu st) dV kV doc pm an cdv ct) ⟨us,[]⟩=pure (ps.zip us)):Binds K fd ps []:=by
 obtain⟨oc,od,kV,doc,pm,an,cdv,ct,osl,rfl,lk,hcd⟩:=F.ex
 exact .all (h kV doc pm an cdv ct)
theorem yF{x qual:Str}{st:Stmt}{dV:Value}{f:Addr}{oc:Value}{od an:Option Addr}{osl:Array (Option Value)}{kV doc pm cdv ct:Value}(l:K.lookup f=some ⟨oc,od,.func (fnOf x qual (gf st) (dM st) (bu st) dV kV doc pm an cdv ct),osl⟩)
  (c:codeIn K cdv qual=true) (k:keepIn K (.ref f)=true):zE K x qual st dV f (fnOf x qual (gf st) (dM st) (bu st) dV kV doc pm an cdv ct):=⟨⟨oc,od,kV,doc,pm,an,cdv,ct,osl,rfl,l,c⟩,k⟩
end
theorem jb:bootBuiltins "len" = some (.builtin "len"):=by decide +kernel
theorem ah_:bootBuiltins "min" = some (.builtin "min"):=by decide +kernel
theorem Ia:bootBuiltins "max" = some (.builtin "max"):=by decide +kernel
theorem acy:bootBuiltins "all" = some (.builtin "all"):=by decide +kernel
theorem aeV:bootBuiltins "list" = some (.type "list"):=by decide +kernel
def ajT:V->List V->Hp->VK->Prop:=λx vs H Q=>∃i,x= .int i/\vs=[]/\Q (.int (Builtin.Int.intBits i:Nat)) H
section
variable{X:Cx}
theorem aef:MtR X "int.bit_length" ajT:=by
 intro pins s σ H x vs v us Q I rx r h
 obtain⟨i,rfl,rfl,q⟩:=h
 obtain⟨t,rfl⟩:=rx
 cases r
 exact call_int_bit_length ⟨.int _,H,I.tok _,⟨_,rfl⟩,q⟩
end
def alD(g:TG)(tb:TS)(D:Ends)(σ:St)(J:It)(H1:Hp):Prop:=
 ∃W:Nat->Nat->St->Hp->Prop,(∃m,W 0 m σ H1)/\∀i m σ H,W i m σ H->
  (J.stop i H/\D.nx σ H)\/(J.go i H/\∃N:St->Hp->Prop,(∀σ' H',N σ' H'->∃m',m'<m/\W (i+1) m' σ' H')/\∀x H',J.Yc i H x H'->g x σ H' λσ2 H2=>tb {D with nx:=N,ct:=N,bk:=D.nx} σ2 H2)
def ajd(wi:TI)(g:TG)(tb:TS):TS:=λD σ H=>wi σ H λJ H1=>alD g tb D σ J H1
theorem adO(hp:PassesOwn (model X.prog X.w) X.A X.env X.xe)(hc:X.calm=true)(hi:PI X tg iter wi)(hg:PG X tg g)(hb:Ke X body tb)
  (hs:∀x,foldedSetIterable iter X.env x=pure x:=by intro _;rfl):PS X (.For tg iter body [] pos) (ajd wi g tb):=agJ hp hc hi hg hb hs
theorem Ql{α:Type}{us:List α}(h:us.length=1):∃a,us=[a]:=match us,h with | [a],_=>⟨a,rfl⟩
theorem yu{α:Type}{us:List α}(h:us.length=2):∃a b,us=[a,b]:=match us,h with | [a,b],_=>⟨a,b,rfl⟩
theorem Gx{α:Type}{us:List α}(h:us.length=3):∃a b c,us=[a,b,c]:=match us,h with | [a,b,c],_=>⟨a,b,c,rfl⟩
theorem Xe{α:Type}{us:List α}(h:us.length=4):∃a b c d,us=[a,b,c,d]:=match us,h with | [a,b,c,d],_=>⟨a,b,c,d,rfl⟩
inductive Dt where
 | non | bl (b:Bool) | int (i:Int) | str (x:Str) | tup (ds:List Dt) | lst (ds:List Dt)
mutual
inductive Is (K:Frag) (H:Hp):V->Dt->Prop
 | non:Is K H .non .non
 | bl (b:Bool):Is K H (.bl b) (.bl b)
 | int (i:Int):Is K H (.int i) (.int i)
 | str (x:Str):Is K H (.str x) (.str x)
 | tup {a:Addr} {xs:List V} {ds:List Dt}:nu K H a xs->Uq K H xs ds->Is K H (.ref a) (.tup ds)
 | lst {a:Addr} {xs:List V} {ds:List Dt}:rZ K H a xs->Uq K H xs ds->Is K H (.ref a) (.lst ds)
inductive Uq (K:Frag) (H:Hp):List V->List Dt->Prop
 | nil:Uq K H [] []
 | cons {x:V} {d:Dt} {xs:List V} {ds:List Dt}:Is K H x d->Uq K H xs ds->Uq K H (x::xs) (d::ds)
end
mutual
def jy:Dt->Dt->Bool
 | .non,.non=>true
 | .bl a,.bl b=>a==b
 | .bl a,.int b=>(if a then 1 else 0)==b
 | .int a,.bl b=>a==(if b then 1 else 0)
 | .int a,.int b=>a==b
 | .str a,.str b=>a==b
 | .tup ds,.tup es=>yI ds es
 | .lst ds,.lst es=>yI ds es
 | _,_=>false
def yI:List Dt->List Dt->Bool
 | [],[]=>true
 | d::ds,e::es=>jy d e&&yI ds es
 | _,_=>false
end
mutual
def dep:Dt->Nat
 | .tup ds=>deps ds+1
 | .lst ds=>deps ds+1
 | _=>0
def deps:List Dt->Nat
 | []=>0
 | d::ds=>max (dep d) (deps ds)
end
mutual
theorem wY:∀d:Dt,jy d d=true
 | .non=>by unfold jy;rfl
 | .bl a=>by unfold jy;simp
 | .int a=>by unfold jy;simp
 | .str a=>by unfold jy;simp
 | .tup ds=>by unfold jy;exact H9 ds
 | .lst ds=>by unfold jy;exact H9 ds
theorem H9:∀ds:List Dt,yI ds ds=true
 | []=>by unfold yI;rfl
 | d::ds=>by unfold yI;rw[wY d,H9 ds];rfl
end
theorem G5:∀{ds es:List Dt},ds.length≠es.length->yI ds es=false
 | [],[],h=>absurd rfl h
 | [],_::_,_=>by unfold yI;rfl
 | _::_,[],_=>by unfold yI;rfl
 | d::ds,e::es,h=>by
  unfold yI
  rw[G5 (ds:=ds) (es:=es) λz=>h (by rw[List.length_cons,List.length_cons,z]),Bool.and_false]
theorem Ml:∀{ds es:List Dt},ds.length=es.length->(List.range ds.length).all (λj=>jy (ds.getD j .non) (es.getD j .non))=yI ds es
 | [],[],_=>by unfold yI;rfl
 | [],_::_,h=>by cases h
 | _::_,[],h=>by cases h
 | d::ds,e::es,h=>by
  have ih:=Ml (ds:=ds) (es:=es) (Nat.succ.inj h)
  rw[List.length_cons,List.range_succ_eq_map,List.all_cons,List.all_map,yI,<-ih]
  rfl
theorem Uq.length{K:Frag}{H:Hp}:∀{xs:List V} {ds:List Dt},Uq K H xs ds->xs.length=ds.length
 | _,_,.nil=>rfl
 | _,_,.cons _ r=>by rw[List.length_cons,List.length_cons,Uq.length r]
theorem Uq.get{K:Frag}{H:Hp}:∀{xs:List V} {ds:List Dt} {i:Nat} {x:V},Uq K H xs ds->xs[i]? = some x->∃d,ds[i]? = some d/\Is K H x d
 | _,_,_,_,.nil,e=>by simp at e
 | _,_,0,_,.cons r _,e=>by simp at e;subst e;exact⟨_,rfl,r⟩
 | _,_,i+1,x,.cons _ t,e=>by
  obtain⟨d,h1,h2⟩:=Uq.get (i:=i) (x:=x) t (by simpa using e)
  exact⟨d,by simpa using h1,h2⟩
theorem aeI(ds es:List Dt):jy (.tup ds) (.tup es)=yI ds es:=by unfold jy;rfl
theorem XD(ds es:List Dt):jy (.lst ds) (.lst es)=yI ds es:=by unfold jy;rfl
section
variable{X:Cx}{pins:List (Addr×Obj)}{σ:St}{H:Hp}{s:Shared}
theorem Inv.SM(I:Inv X pins σ H s)(h:nu X.K H a xs)(h':rZ X.K H a ys):False:=by
 obtain⟨its,_,pt,_⟩:=I.tuple h
 obtain⟨jts,_,pl,_⟩:=I.list h'
 obtain⟨o,e,c,_⟩:=pt
 obtain⟨o',n',e',c',_⟩:=pl
 rw[e]at e';cases e'
 rw[c]at c'
 injection c' with z
 exact absurd z (by decide)
mutual
theorem Inv.abR(I:Inv X pins σ H s):∀{v:V} {d e:Dt},Is X.K H v d->Is X.K H v e->d=e
 | _,_,_,.non,.non=>rfl
 | _,_,_,.bl _,.bl _=>rfl
 | _,_,_,.int _,.int _=>rfl
 | _,_,_,.str _,.str _=>rfl
 | _,_,_,.tup q r,.tup q' r'=>congrArg Dt.tup (Inv.Qt I r (I.Hi q q'▸r'))
 | _,_,_,.lst q r,.lst q' r'=>congrArg Dt.lst (Inv.Qt I r (I.Ls q q'▸r'))
 | _,_,_,.tup q _,.lst q' _=>(I.SM q q').elim
 | _,_,_,.lst q _,.tup q' _=>(I.SM q' q).elim
theorem Inv.Qt(I:Inv X pins σ H s):∀{vs:List V} {ds es:List Dt},Uq X.K H vs ds->Uq X.K H vs es->ds=es
 | _,_,_,.nil,.nil=>rfl
 | _,_,_,.cons r t,.cons r' t'=>by rw[Inv.abR I r r',Inv.Qt I t t']
end
theorem VF:∀{ds:List Dt} {j:Nat} {d:Dt},ds[j]? = some d->dep d<=deps ds
 | [],_,_,e=>by simp at e
 | d'::ds,0,d,e=>by simp at e;subst e;unfold deps;exact Nat.le_max_left _ _
 | d'::ds,j+1,d,e=>by
  have:=VF (ds:=ds) (j:=j) (d:=d) (by simpa using e)
  unfold deps
  exact yY this (Nat.le_max_right _ _)
theorem Tw(r1:Vals xs its)(r2:Vals ys jts)(q1:Uq X.K H xs ds)(q2:Uq X.K H ys es)
  (ih:∀(j:Nat) (x y:V) (d e:Dt) (u v:Value),ds[j]? = some d->es[j]? = some e->Is X.K H x d->Is X.K H y e->RelV x u->RelV y v->SeqAt.EqAt A s u v (jy d e)):
  ∀j (h1:j<its.toArray.size) (h2:j<jts.toArray.size),SeqAt.EqAt A s its.toArray[j] jts.toArray[j] (jy (ds.getD j .non) (es.getD j .non)):=λj h1 h2=>by
 have l1:=r1.length
 have l2:=r2.length
 have j1:j<xs.length:=by simp at h1;omega
 have j2:j<ys.length:=by simp at h2;omega
 obtain⟨w1,g1,p1⟩:=r1.get (i:=j) (x:=xs[j]) (by simp[j1])
 obtain⟨w2,g2,p2⟩:=r2.get (i:=j) (x:=ys[j]) (by simp[j2])
 obtain⟨d,e1,i1⟩:=q1.get (i:=j) (x:=xs[j]) (by simp[j1])
 obtain⟨e,e2,i2⟩:=q2.get (i:=j) (x:=ys[j]) (by simp[j2])
 have d1:ds.getD j .non=d:=by simp[List.getD,e1]
 have d2:es.getD j .non=e:=by simp[List.getD,e2]
 have c1:its.toArray[j]=w1:=by
  have:=List.getElem?_eq_some_iff.mp g1
  simpa using this.2
 have c2:jts.toArray[j]=w2:=by
  have:=List.getElem?_eq_some_iff.mp g2
  simpa using this.2
 rw[d1,d2,c1,c2]
 exact ih j _ _ d e _ _ e1 e2 i1 i2 p1 p2
theorem Yo(h:n=m)(p:Nat->Bool):((List.range (min n m)).all p&&n==m)=(List.range n).all p:=by
 subst h
 rw[Nat.min_self]
 simp
theorem ak3(hf:∀x t,u≠ .float x t)(hs:u=v->b=true)(h:SeqAt.RcAt A s u v b):SeqAt.EqAt A s u v b:=λprog w E Q hq=>by
 unfold eqBool
 refine wpAny_holding (wpAny_ite_split (λz=> ?_) λ_=> ?_)
 ·rw[hs (eq_of_beq z)]at hq
  exact zC (wpAny_rule (zI hq))
 ·cases u<;>first | exact absurd rfl (hf _ _) | exact zC (h prog w E _ (wpAny_truthy_bool hq))
theorem afz(I:Inv X pins σ H s):∀(n:Nat) (A:Around) (x y:V) (d e:Dt) (u v:Value),dep d<=n->A.units+n<cLine->Is X.K H x d->Is X.K H y e->RelV x u->RelV y v->SeqAt.RcAt A s u v (jy d e)/\SeqAt.RcNeAt A s u v (!jy d e):=by
 intro n
 induction n using Nat.strongRecOn with
 | ind n ih=>
  intro A x y d e u v hd hu hx hy rx ry
  have hu0:A.units<cLine:=()
  have in1:A.in1.units=A.units+1:=rfl
  have ih':∀d',dep d'<n->∀(x y:V) (e:Dt) (u v:Value),Is X.K H x d'->Is X.K H y e->RelV x u->RelV y v->SeqAt.EqAt A.in1 s u v (jy d' e):=λd' hd x y e u v hx hy rx ry=>ak3 (λb t z=>by
   subst z
   cases hx<;>first | (obtain⟨_,z⟩:=rx;cases z) | cases rx) (λz=>by
   subst z
   cases rx.inj ry
   rw[I.abR hx hy,wY]) (ih _ hd A.in1 x y d' e u v (zaa _) () hx hy rx ry).1
  cases hx with
  | non=>
   cases rx
   cases hy with
   | non=>cases ry;unfold jy;exact⟨.none_none,.none_none⟩
   | bl b=>cases ry;unfold jy;exact⟨.none_bool b,.none_bool b⟩
   | int b=>obtain⟨t,rfl⟩:=ry;unfold jy;exact⟨.none_int b t,.none_int b t⟩
   | str b=>obtain⟨t,rfl⟩:=ry;unfold jy;exact⟨.none_str b t,.none_str b t⟩
   | tup q r=>cases ry;obtain⟨_,_,p,_⟩:=I.tuple q;unfold jy;exact⟨.none_tuple p hu0,.none_tuple p hu0⟩
   | lst q r=>cases ry;obtain⟨_,_,p,_⟩:=I.list q;unfold jy;exact⟨.none_list p.isList hu0,.none_list p.isList hu0⟩
  | bl a=>
   cases rx
   cases hy with
   | non=>cases ry;unfold jy;exact⟨.bool_none a,.bool_none a⟩
   | bl b=>cases ry;unfold jy;exact⟨.bool_bool a b,.bool_bool a b⟩
   | int b=>obtain⟨t,rfl⟩:=ry;unfold jy;exact⟨.bool_int a b t,.bool_int a b t⟩
   | str b=>obtain⟨t,rfl⟩:=ry;unfold jy;exact⟨.bool_str a b t,.bool_str a b t⟩
   | tup q r=>cases ry;obtain⟨_,_,p,_⟩:=I.tuple q;unfold jy;exact⟨.bool_tuple a p hu0,.bool_tuple a p hu0⟩
   | lst q r=>cases ry;obtain⟨_,_,p,_⟩:=I.list q;unfold jy;exact⟨.bool_list a p.isList hu0,.bool_list a p.isList hu0⟩
  | int a=>
   obtain⟨t',rfl⟩:=rx
   cases hy with
   | non=>cases ry;unfold jy;exact⟨.int_none a t',.int_none a t'⟩
   | bl b=>cases ry;unfold jy;exact⟨.int_bool a t' b,.int_bool a t' b⟩
   | int b=>obtain⟨t,rfl⟩:=ry;unfold jy;exact⟨.int_int a t' b t,.int_int a t' b t⟩
   | str b=>obtain⟨t,rfl⟩:=ry;unfold jy;exact⟨.int_str a t' b t,.int_str a t' b t⟩
   | tup q r=>cases ry;obtain⟨_,_,p,_⟩:=I.tuple q;unfold jy;exact⟨.int_tuple a t' p hu0,.int_tuple a t' p hu0⟩
   | lst q r=>cases ry;obtain⟨_,_,p,_⟩:=I.list q;unfold jy;exact⟨.int_list a t' p.isList hu0,.int_list a t' p.isList hu0⟩
  | str a=>
   obtain⟨t',rfl⟩:=rx
   cases hy with
   | non=>cases ry;unfold jy;exact⟨.str_none a t',.str_none a t'⟩
   | bl b=>cases ry;unfold jy;exact⟨.str_bool a t' b,.str_bool a t' b⟩
   | int b=>obtain⟨t,rfl⟩:=ry;unfold jy;exact⟨.str_int a t' b t,.str_int a t' b t⟩
   | str b=>obtain⟨t,rfl⟩:=ry;unfold jy;exact⟨.str_str a t' b t,.str_str a t' b t⟩
   | tup q r=>cases ry;obtain⟨_,_,p,_⟩:=I.tuple q;unfold jy;exact⟨.str_tuple a t' p hu0,.str_tuple a t' p hu0⟩
   | lst q r=>cases ry;obtain⟨_,_,p,_⟩:=I.list q;unfold jy;exact⟨.str_list a t' p.isList hu0,.str_list a t' p.isList hu0⟩
  | @tup a xs ds q r=>
   cases(show u=Value.ref a from rx)
   obtain⟨its,r1,p1,_⟩:=I.tuple q
   cases hy with
   | non=>cases ry;unfold jy;exact⟨.tuple_none p1 hu0,.tuple_none p1 hu0⟩
   | bl b=>cases ry;unfold jy;exact⟨.tuple_bool b p1 hu0,.tuple_bool b p1 hu0⟩
   | int b=>obtain⟨t,rfl⟩:=ry;unfold jy;exact⟨.tuple_int b t p1 hu0,.tuple_int b t p1 hu0⟩
   | str b=>obtain⟨t,rfl⟩:=ry;unfold jy;exact⟨.tuple_str b t p1 hu0,.tuple_str b t p1 hu0⟩
   | lst q' r'=>cases ry;obtain⟨_,_,p,_⟩:=I.list q';unfold jy;exact⟨.tuple_list p1 p.isList hu0,.tuple_list p1 p.isList hu0⟩
   | @tup b ys es q' r'=>
    cases(show v=Value.ref b from ry)
    obtain⟨jts,r2,p2,_⟩:=I.tuple q'
    have l1:=r1.length
    have l2:=r2.length
    have l3:=r.length
    have l4:=r'.length
    have dl:deps ds<n:=by unfold dep at hd;omega
    have it:=Tw (A:=A.in1) (s:=s) r1 r2 r r' λj x y d e u v h1 h2 ix iy rx ry=>ih' d (Nat.lt_of_le_of_lt (VF h1) dl) x y e u v ix iy rx ry
    have ez:((List.range (min its.toArray.size jts.toArray.size)).all (λj=>jy (ds.getD j .non) (es.getD j .non))&&its.toArray.size==jts.toArray.size)=jy (.tup ds) (.tup es):=by
     rw[aeI]
     by_cases hl:ds.length=es.length
     ·rw[Yo (by simp;omega),<-Ml hl]
      congr 2
      simp;omega
     ·rw[G5 hl]
      have:(its.toArray.size==jts.toArray.size)=false:=by simp;omega
      rw[this,Bool.and_false]
    rw[<-ez]
    exact⟨.tuples (e:=λj=>jy (ds.getD j .non) (es.getD j .non)) p1 p2 hu0 it,.tuples (e:=λj=>jy (ds.getD j .non) (es.getD j .non)) p1 p2 hu0 it⟩
  | @lst a xs ds q r=>
   cases(show u=Value.ref a from rx)
   obtain⟨its,r1,p1,_⟩:=I.list q
   cases hy with
   | non=>cases ry;unfold jy;exact⟨.list_none p1.isList hu0,.list_none p1.isList hu0⟩
   | bl b=>cases ry;unfold jy;exact⟨.list_bool b p1.isList hu0,.list_bool b p1.isList hu0⟩
   | int b=>obtain⟨t,rfl⟩:=ry;unfold jy;exact⟨.list_int b t p1.isList hu0,.list_int b t p1.isList hu0⟩
   | str b=>obtain⟨t,rfl⟩:=ry;unfold jy;exact⟨.list_str b t p1.isList hu0,.list_str b t p1.isList hu0⟩
   | tup q' r'=>cases ry;obtain⟨_,_,p,_⟩:=I.tuple q';unfold jy;exact⟨.list_tuple p1.isList p hu0,.list_tuple p1.isList p hu0⟩
   | @lst b ys es q' r'=>
    cases(show v=Value.ref b from ry)
    obtain⟨jts,r2,p2,_⟩:=I.list q'
    have l1:=r1.length
    have l2:=r2.length
    have l3:=r.length
    have l4:=r'.length
    have dl:deps ds<n:=by unfold dep at hd;omega
    have it:=Tw (A:=A.in1) (s:=s) r1 r2 r r' λj x y d e u v h1 h2 ix iy rx ry=>ih' d (Nat.lt_of_le_of_lt (VF h1) dl) x y e u v ix iy rx ry
    by_cases hl:ds.length=es.length
    ·have ez:(List.range its.toArray.size).all (λj=>jy (ds.getD j .non) (es.getD j .non))=jy (.lst ds) (.lst es):=by
      rw[XD,<-Ml hl]
      congr 2
      simp;omega
     have sz:its.toArray.size=jts.toArray.size:=by simp;omega
     rw[<-ez]
     exact⟨.lists (e:=λj=>jy (ds.getD j .non) (es.getD j .non)) p1.isList p2.isList sz hu0 it,.lists (e:=λj=>jy (ds.getD j .non) (es.getD j .non)) p1.isList p2.isList sz hu0 it⟩
    ·have sz:(its.toArray.size != jts.toArray.size)=true:=by simp;omega
     rw[XD,G5 hl]
     exact⟨.lists_lengths p1.isList p2.isList sz hu0,.lists_lengths p1.isList p2.isList sz hu0⟩
end
def anD(K:Frag):R2:=λx y H Q=>∃d e,Is K H x d/\Is K H y e/\dep d<=20/\Q (.bl (jy d e)) H
def anA(K:Frag):R2:=λx y H Q=>∃d e,Is K H x d/\Is K H y e/\dep d<=20/\Q (.bl (!jy d e)) H
theorem ahc(hu:X.A.units+64<cLine):uT X (compareOp .Eq) (anD X.K):=by
 intro pins s σ H x y v u Q I rx ry h
 obtain⟨d,e,hx,hy,hd,q⟩:=h
 exact(afz I 20 X.A _ _ _ _ _ _ hd () hx hy rx ry).1 _ _ _ _ ⟨.bl _,H,I,rfl,q⟩
theorem ag6(hu:X.A.units+64<cLine):uT X (compareOp .NotEq) (anA X.K):=by
 intro pins s σ H x y v u Q I rx ry h
 obtain⟨d,e,hx,hy,hd,q⟩:=h
 exact(afz I 20 X.A _ _ _ _ _ _ hd () hx hy rx ry).2 _ _ _ _ ⟨.bl _,H,I,rfl,q⟩
end L2
namespace HM
open PySem
theorem Q5(x:Int):Builtin.bitNot (Builtin.bitNot x)=x:=by
 unfold Builtin.bitNot;omega
theorem Ua(n:Nat):¬(0<=Builtin.bitNot (n:Int)):=by
 unfold Builtin.bitNot;omega
theorem t8(a b:Nat):Builtin.bitAnd (a:Int) (b:Int)=((a &&& b:Nat):Int):=by
 unfold Builtin.bitAnd
 simp
theorem Q4(a b:Nat):Builtin.bitOr (a:Int) (b:Int)=((a ||| b:Nat):Int):=by
 unfold Builtin.bitOr Builtin.bitAnd
 rw[zae (Ua a),zae (Ua b)]
 dsimp only
 rw[Q5,Q5,Q5]
 simp
theorem Zn(x:Int)(p:Nat):∃n:Nat,Builtin.bitAnd x (p:Int)=(n:Int)/\n<=p:=by
 by_cases h:0<=x
 ·obtain⟨m,rfl⟩:=Int.eq_ofNat_of_zero_le h
  exact⟨m &&& p,t8 m p,Nat.and_le_right⟩
 ·unfold Builtin.bitAnd
  rw[zae h,zaf (Int.natCast_nonneg p)]
  dsimp only
  refine⟨p - (p &&& (Builtin.bitNot x).toNat),?_,Nat.sub_le _ _⟩
  have:p &&& (Builtin.bitNot x).toNat<=p:=Nat.and_le_left
  simp
  omega
def bW(n:Nat):List Nat:=(List.range 60).filter λh=>n.testBit h
def cnt(n:Nat):Nat:=(bW n).length
theorem Qe(h:Nat):(1:Int)*2 ^ h=((2 ^ h:Nat):Int):=by simp
theorem M6(n h:Nat):(n &&& 2 ^ h≠0)↔n.testBit h=true:=by
 constructor
 ·intro hn
  cases e:n.testBit h with
  | true=>rfl
  | false=>
   refine absurd (Nat.eq_of_testBit_eq λi=> ?_) hn
   rw[Nat.testBit_and,Nat.testBit_two_pow,Nat.zero_testBit]
   by_cases hi:h=i
   ·subst hi;simp[e]
   ·simp[hi]
 ·intro e hz
  have t:(n &&& 2 ^ h).testBit h=true:=by rw[Nat.testBit_and,e,Nat.testBit_two_pow];simp
  rw[hz,Nat.zero_testBit]at t
  cases t
theorem RG(n h:Nat):((n / 2 ^ h) &&& 1=1)↔n.testBit h=true:=by
 rw[Nat.and_one_is_mod,Nat.testBit_eq_decide_div_mod_eq]
 simp
theorem UG(hn:n<2 ^ 60)(e:n.testBit h=true):h<60:=by
 by_cases hh:h<60
 ·exact hh
 ·have:n<2 ^ h:=yA hn (Nat.pow_le_pow_right (by decide) ())
  rw[Nat.testBit_lt_two_pow this]at e
  cases e
theorem yZ(hab:a<=b)(h:∀i,a<=i->i<b->p i=false):(List.range b).filter p=(List.range a).filter p:=by
 obtain⟨k,rfl⟩:=Nat.exists_eq_add_of_le hab
 rw[List.range_add,List.filter_append]
 have:(List.map (λx=>a+x) (List.range k)).filter p=[]:=by
  rw[List.filter_eq_nil_iff]
  intro x hx
  obtain⟨j,hj,rfl⟩:=List.mem_map.mp hx
  rw[h (a+j) () (by have:=List.mem_range.mp hj;omega)]
  decide
 rw[this,List.append_nil]
theorem Qy(n:Nat)(hn:n<2 ^ 60):(List.range (Builtin.Int.intBits (n:Int))).filter (λh=>n.testBit h)=bW n:=by
 unfold bW
 have aom:∀h,n.testBit h=true->h<Builtin.Int.intBits (n:Int):=by
  intro h e
  have h0:n≠0:=by rintro rfl;rw[Nat.zero_testBit]at e;cases e
  unfold Builtin.Int.intBits
  have:¬((n:Int)==0)=true:=by simp[h0]
  rw[if_neg this]
  by_cases hh:h<n.log2+1
  ·simpa using hh
  ·have:n<2 ^ h:=yA (Nat.lt_log2_self) (Nat.pow_le_pow_right (by decide) ())
   rw[Nat.testBit_lt_two_pow this]at e
   cases e
 rcases Nat.le_total (Builtin.Int.intBits (n:Int)) 60 with h | h
 ·refine(yZ h λi hi _=> ?_).symm
  cases e:n.testBit i with
  | false=>rfl
  | true=>have:=aom i e;omega
 ·refine yZ h λi hi _=> ?_
  cases e:n.testBit i with
  | false=>rfl
  | true=>have:=UG hn e;omega
theorem intBits_le(n:Nat)(hn:n<2 ^ 60):Builtin.Int.intBits (n:Int)<=60:=by
 unfold Builtin.Int.intBits
 split
 ·decide
 ·rename_i h
  have h0:n≠0:=by rintro rfl;simp at h
  have:(n:Int).natAbs.log2<60:=by
   have e:(n:Int).natAbs=n:=by simp
   rw[e]
   exact(Nat.log2_lt h0).mpr hn
  omega
theorem uM:h∈bW n↔h<60/\n.testBit h=true:=by
 unfold bW;rw[List.mem_filter,List.mem_range]
end HM
set_option Elab.async false
set_option linter.all false
set_option maxRecDepth 100000
namespace L2
open PySem PySem.Spec PyProof.Rows
section
variable{κ:Type}[DecidableEq κ]
noncomputable def Cu(kvs:List (κ×V))(k:κ):Option V:=(kvs.find? λkv=>decide (kv.1=k)).map (·.2)
noncomputable def putK(kvs:List (κ×V))(k:κ)(v:V):List (κ×V):=
 if(kvs.any λkv=>decide (kv.1=k))=true then kvs.map (λkv=>if kv.1=k then(kv.1,v)else kv)else kvs++[(k,v)]
theorem Fe{p:κ×V}{r:List (κ×V)}{k:κ}(e:p.1=k):Cu (p::r) k=some p.2:=by simp[Cu,List.find?_cons,e]
theorem Ff{p:κ×V}{r:List (κ×V)}{k:κ}(e:¬p.1=k):Cu (p::r) k=Cu r k:=by simp[Cu,List.find?_cons,e]
theorem Rk(k:κ):∀kvs:List (κ×V),(kvs.any λkv=>decide (kv.1=k))=(Cu kvs k).isSome
 | []=>rfl
 | p::r=>by
  rw[List.any_cons]
  by_cases e:p.1=k
  ·simp only[Fe e,zaf e,Bool.true_or,Option.isSome_some]
  ·rw[Ff e,zae e,Bool.false_or];exact Rk k r
theorem Bf(kvs:List (κ×V))(k:κ)(v:V):(putK kvs k v).length<=kvs.length+1:=by
 unfold putK
 split
 ·rw[zam];omega
 ·rw[List.length_append,List.length_cons,List.length_nil];omega
theorem zB.wV(r:zB o u):o.isSome=u.isSome:=by
 cases o with
 | none=>cases u with
  | none=>rfl
  | some _=>exact(show False from r).elim
 | some _=>cases u with
  | none=>exact(show False from r).elim
  | some _=>rfl
theorem zB.getD(r:zB o u)(rd:RelV d d'):RelV (o.getD d) (u.getD d'):=by
 cases o with
 | none=>cases u with
  | none=>exact rd
  | some _=>exact(show False from r).elim
 | some _=>cases u with
  | none=>exact(show False from r).elim
  | some _=>exact r
theorem KV.val(r:KV kvs vs)(k:κ):zB (Cu kvs k) (valueAt vs k):=by
 unfold KV at r
 induction r with
 | nil=>exact jS
 | @cons p q ps qs h t ih=>
  obtain⟨h1,h2⟩:=h
  by_cases e:p.1=k
  ·have e':q.1=k:=h1.symm.trans e
   have b:valueAt (q::qs) k=some q.2:=by simp[valueAt,List.find?_cons,e']
   rw[Fe e,b];exact h2
  ·have e':¬q.1=k:=λz=>e (h1.trans z)
   have b:valueAt (q::qs) k=valueAt qs k:=by simp[valueAt,List.find?_cons,e']
   rw[Ff e,b];exact ih
theorem KV.any(r:KV kvs vs)(k:κ):(kvs.any λkv=>decide (kv.1=k))=vs.any λkv=>decide (kv.1=k):=by
 unfold KV at r
 induction r with
 | nil=>rfl
 | cons h t ih=>rw[List.any_cons,List.any_cons,ih,h.1]
theorem KV.repl(r:KV kvs vs)(k:κ)(ry:RelV y u):
  KV (kvs.map λkv=>if kv.1=k then(kv.1,y)else kv) (vs.map λkv=>if kv.1=k then(kv.1,u)else kv):=by
 unfold KV at r ⊢
 induction r with
 | nil=>exact .nil
 | @cons p q ps qs h t ih=>
  rw[List.map_cons,List.map_cons]
  refine .cons ?_ ih
  obtain⟨h1,h2⟩:=h
  by_cases e:p.1=k
  ·rw[if_pos e,if_pos (h1.symm.trans e)];exact⟨h1,ry⟩
  ·rw[if_neg e,if_neg (λz=>e (h1.trans z))];exact⟨h1,h2⟩
theorem KV.put(r:KV kvs vs)(k:κ)(ry:RelV y u):KV (putK kvs k y) (stored vs k u):=by
 unfold putK stored
 rw[r.any k]
 by_cases e:(vs.any λkv=>decide (kv.1=k))=true
 ·rw[if_pos e,if_pos e];exact r.repl k ry
 ·rw[if_neg e,if_neg e];exact Paired.snoc r ⟨rfl,ry⟩
theorem KV.length(r:KV kvs vs):kvs.length=vs.length:=Paired.length r
end
theorem Ja(r:RelV (kV k) u):(dG P w).is k u=true:=by
 cases k with
 | inl i=>obtain⟨t,e⟩:=(show ∃t,u=Value.int i t from r);subst e;exact S8 P w i t
 | inr x=>obtain⟨t,e⟩:=(show ∃t,u=Value.str x t from r);subst e;exact S7 P w x t
theorem Oq:∀{ks:List Key} {us:List Value},Vals (ks.map kV) us->ItemsAre (dG P w) ks us
 | [],_,r=>by rw[List.map_nil]at r;cases r;exact .nil
 | k::ks,_,r=>by
  rw[List.map_cons]at r
  cases r with
  | cons h t=>exact .cons (Ja h) (Oq t)
abbrev KT(H:Hp):List (List Key×V)->List (List Key×Addr×Value)->Prop:=Paired λp q=>p.1=q.1/\H q.2.1=some (.tup (p.1.map kV))/\RelV p.2 q.2.2
theorem KT.val(r:KT H kvs xs)(k:List Key):zB (Cu kvs k) ((atKey xs k).map (·.2)):=by
 induction r with
 | nil=>exact jS
 | @cons p q ps qs h t ih=>
  obtain⟨h1,_,h2⟩:=h
  by_cases e:p.1=k
  ·have e':q.1=k:=h1.symm.trans e
   have b:atKey (q::qs) k=some q.2:=by simp[atKey,List.find?_cons,e']
   rw[Fe e,b];exact h2
  ·have e':¬q.1=k:=λz=>e (h1.trans z)
   have b:atKey (q::qs) k=atKey qs k:=by simp[atKey,List.find?_cons,e']
   rw[Ff e,b];exact ih
theorem KT.repl(r:KT H kvs xs)(k:List Key)(ry:RelV y u):
  KT H (kvs.map λkv=>if kv.1=k then(kv.1,y)else kv) (xs.map (putAt k u)):=by
 induction r with
 | nil=>exact .nil
 | @cons p q ps qs h t ih=>
  rw[List.map_cons,List.map_cons]
  refine .cons ?_ ih
  obtain⟨h1,h2,h3⟩:=h
  unfold putAt
  by_cases e:p.1=k
  ·rw[if_pos e,if_pos (h1.symm.trans e)];exact⟨h1,h2,ry⟩
  ·rw[if_neg e,if_neg (λz=>e (h1.trans z))];exact⟨h1,h2,h3⟩
theorem KT.put(r:KT H kvs xs)(k:List Key)(hb:H b=some (.tup (k.map kV)))(ry:RelV y u):
  KT H (putK kvs k y) (storedH xs k b u):=by
 have e:(kvs.any λkv=>decide (kv.1=k))=(atKey xs k).isSome:=by
  rw[Rk,(r.val k).wV,Option.isSome_map]
 unfold putK storedH
 rw[e]
 by_cases q:(atKey xs k).isSome=true
 ·rw[if_pos q,if_pos q];exact r.repl k ry
 ·rw[if_neg q,if_neg q];exact Paired.snoc r ⟨rfl,hb,ry⟩
theorem KT.keeps(r:KT H kvs xs)(ht:∀b ys,H b=some (.tup ys)->H' b=some (.tup ys)):KT H' kvs xs:=
 Paired.ahn r λ_ _ z=>⟨z.1,ht _ _ z.2.1,z.2.2⟩
section
variable{P:Program}{w:World}{H:Hp}{h:Heap}{a:Addr}
theorem afy(ok:uU P w H h)(e:Rd H a u):fC P w H h a u:=e.ok ok
theorem G4(ok:uU P w H h)(e:Rd H a (.dK kvs)):kvs.length<=sizeLine/\(a==sysModules)=false/\∃vs,KV kvs vs/\h.DictOf (dG P w) a vs:=
 show fC P w H h a (.dK kvs)from afy ok e
theorem XC(ok:uU P w H h)(e:H a=some (.dK kvs)):kvs.length<=sizeLine/\(a==sysModules)=false/\∃vs,KV kvs vs/\h.DictOf (dG P w) a vs:=G4 ok (.inl e)
theorem DX(ok:uU P w H h)(e:H a=some (.tup (ks.map kV))):(tupleKind (dG P w)).is h ks a:=by
 obtain⟨_,its,r,o,h1,h2,n,h3⟩:=(show fC P w H h a (.tup (ks.map kV))from ok a _ e)
 exact⟨o,its.toArray,n,h1,h2,h3,by simpa using Oq r⟩
theorem Ji(ok:uU P w H h)(e:Rd H a (.dT kvs)):kvs.length<=sizeLine/\(a==sysModules)=false/\
  ∃xs,KT H kvs xs/\h.DictOfH (tupleKind (dG P w)) a xs:=by
 obtain⟨z,y,xs,r,o,es,ep,h1,h2,h3,h4,h5⟩:=(show fC P w H h a (.dT kvs)from afy ok e)
 refine⟨z,y,xs,r,o,es,ep,h1,h2,h3,h4,λx hx=> ?_,h5⟩
 have all:∀{l:List (List Key×V)} {m:List (List Key×Addr×Value)},KT H l m->∀x∈m,(tupleKind (dG P w)).is h x.1 x.2.1:=by
  intro l m q
  induction q with
  | nil=>intro x hx;exact nomatch hx
  | @cons p q ps qs hq t ih=>
   intro x hx
   rcases List.mem_cons.mp hx with e | hx
   ·subst e
    exact DX ok (by rw[<-hq.1];exact hq.2.1)
   ·exact ih x hx
 exact all r x hx
theorem afQ(ok:uU P w H h)(e:H a=some (.dT kvs)):kvs.length<=sizeLine/\(a==sysModules)=false/\
  ∃xs,KT H kvs xs/\h.DictOfH (tupleKind (dG P w)) a xs:=Ji ok (.inl e)
end
def Ey(H:Hp)(a:Addr)(y:V)(r:Option V):Prop:=
 (∃kvs k,Rd H a (.dK kvs)/\y=kV k/\r=Cu kvs k)\/∃kvs k b,Rd H a (.dT kvs)/\y= .ref b/\H b=some (.tup (k.map kV))/\r=Cu kvs k
def Q_(H:Hp)(a:Addr)(y v:V)(H':Hp):Prop:=
 (∃kvs k,H a=some (.dK kvs)/\y=kV k/\kvs.length<sizeLine/\H'=upd H a (.dK (putK kvs k v)))\/
 ∃kvs k b,H a=some (.dT kvs)/\y= .ref b/\H b=some (.tup (k.map kV))/\kvs.length<sizeLine/\H'=upd H a (.dT (putK kvs k v))
theorem Ey.k{H:Hp}{a:Addr}{kvs:List (Key×V)}{k:Key}(e:H a=some (.dK kvs)):Ey H a (kV k) (Cu kvs k):= .inl ⟨kvs,k,.inl e,rfl,rfl⟩
theorem Ey.t{kvs:List (List Key×V)}{k:List Key}(e:H a=some (.dT kvs))(eb:H b=some (.tup (k.map kV))):Ey H a (.ref b) (Cu kvs k):= .inr ⟨kvs,k,b,.inl e,rfl,eb,rfl⟩
theorem Q_.k{H:Hp}{a:Addr}{kvs:List (Key×V)}{k:Key}{v:V}(e:H a=some (.dK kvs))(hl:kvs.length<sizeLine):Q_ H a (kV k) v (upd H a (.dK (putK kvs k v))):= .inl ⟨kvs,k,e,rfl,hl,rfl⟩
theorem Q_.t{kvs:List (List Key×V)}{k:List Key}(e:H a=some (.dT kvs))(eb:H b=some (.tup (k.map kV)))(hl:kvs.length<sizeLine):
  Q_ H a (.ref b) v (upd H a (.dT (putK kvs k v))):= .inr ⟨kvs,k,b,e,rfl,eb,hl,rfl⟩
section
variable{X:Cx}{pins:List (Addr×Obj)}{σ:St}{H:Hp}{s:Shared}{a:Addr}{y v:V}{u r:Value}{o:Option V}{A:Around}{E:Value->Shared->Prop}
theorem Inv.big(I:Inv X pins σ H s):sysModules<s.heap.objs.size:=by
 have h:mainGlobals<s.heap.objs.size:=(I.mod.glob.keeps I.bk).lt
 exact Nat.lt_trans (by decide) h
theorem Zc{Q:Value->Shared->Prop}(hu:A.units+1<cLine)(I:Inv X pins σ H s)(g:Ey H a y (some v))(ry:RelV y u)(h:∀w' s',Inv X pins σ H s'->RelV v w'->Q w' s'):
  wpAny (model X.prog X.w) A (getItem (.ref a) u) Q E s:=by
 rcases g with⟨kvs,k,e,ey,l⟩ | ⟨kvs,k,b,e,ey,eb,l⟩
 ·subst ey
  obtain⟨z,hd,vs,rel,dd⟩:=G4 I.hok e
  obtain⟨w',hw,rw'⟩:=zB.some_of (v:=v) (o:=valueAt vs k) (by rw[l];exact rel.val k)
  exact wpAny_getItem_of (Ja ry) dd.mapOf hw (h w' _ (I.tok _) rw')
 ·subst ey
  cases(show u=Value.ref b from ry)
  obtain⟨z,hd,xs,rel,dd⟩:=Ji I.hok e
  obtain⟨w',hw,rw'⟩:=zB.some_of (v:=v) (o:=(atKey xs k).map (·.2)) (by rw[l];exact rel.val k)
  obtain⟨p,hp,hp2⟩:=Option.map_eq_some_iff.mp hw
  refine wpAny_getItem_heap (tupleKind_room_in1 hu) (DX I.hok eb) dd hp ?_
  rw[hp2]
  exact h w' _ (I.tok _) rw'
theorem aoU{Q:Value->Shared->Prop}(hu:A.units+1<cLine)(I:Inv X pins σ H s)(g:Ey H a y o)(ry:RelV y u)(h:∀s',Inv X pins σ H s'->Q (.bool o.isSome) s'):
  wpAny (model X.prog X.w) A (compareOp .In u (.ref a)) Q E s:=by
 rcases g with⟨kvs,k,e,ey,l⟩ | ⟨kvs,k,b,e,ey,eb,l⟩
 ·subst ey
  obtain⟨z,hd,vs,rel,dd⟩:=G4 I.hok e
  refine wpAny_in_of (Ja ry) hd dd.mapOf ?_
  rw[<-(rel.val k).wV,<-l]
  exact h _ (I.tok _)
 ·subst ey
  cases(show u=Value.ref b from ry)
  obtain⟨z,hd,xs,rel,dd⟩:=Ji I.hok e
  refine wpAny_in_heap (tupleKind_room_in1 hu) (DX I.hok eb) hd dd ?_
  have q:=(rel.val k).wV
  rw[Option.isSome_map]at q
  rw[<-q,<-l]
  exact h _ (I.tok _)
theorem aeK{Q:Value->Shared->Prop}(hu:A.units+1<cLine)(I:Inv X pins σ H s)(g:Ey H a y o)(ry:RelV y u)(h:∀s',Inv X pins σ H s'->Q (.bool (!o.isSome)) s'):
  wpAny (model X.prog X.w) A (compareOp .NotIn u (.ref a)) Q E s:=by
 rcases g with⟨kvs,k,e,ey,l⟩ | ⟨kvs,k,b,e,ey,eb,l⟩
 ·subst ey
  obtain⟨z,hd,vs,rel,dd⟩:=G4 I.hok e
  refine wpAny_notIn_of (Ja ry) hd dd.mapOf ?_
  rw[<-(rel.val k).wV,<-l]
  exact h _ (I.tok _)
 ·subst ey
  cases(show u=Value.ref b from ry)
  obtain⟨z,hd,xs,rel,dd⟩:=Ji I.hok e
  refine wpAny_notIn_heap (tupleKind_room_in1 hu) (DX I.hok eb) hd dd ?_
  have q:=(rel.val k).wV
  rw[Option.isSome_map]at q
  rw[<-q,<-l]
  exact h _ (I.tok _)
theorem Kc(I:Inv X pins σ H s)(mu:Mut (H a))(hs:Heap.SameBut a s.heap h')(he:∃q,h'.get? a=some q)(new:fC X.prog X.w (upd H a ob) h' a ob):
  Inv X pins σ (upd H a ob) {s with heap:=h',toks:=t'}:=
 I.write (x:=a) (e:=a) mu (.inl rfl) (λb q hb z=>(hs.2 b hb).trans z) he new
theorem acq(z:kvs.length<=sizeLine)(hd:(a==sysModules)=false)(rel:KV kvs vs)(dd:h'.DictOf (dG P w) a vs):
  fC P w H' h' a (.dK kvs):=⟨z,hd,vs,rel,dd⟩
theorem OD{Q:Unit->Shared->Prop}(hu:A.units+1<cLine)(I:Inv X pins σ H s)(g:Q_ H a y v H')(ry:RelV y u)(rv:RelV v r)(h:∀s',Inv X pins σ H' s'->Q .unit s'):
  wpAny (model X.prog X.w) A (setItem (.ref a) u r) Q E s:=by
 rcases g with⟨kvs,k,e,ey,l,eH⟩ | ⟨kvs,k,b,e,ey,eb,l,eH⟩
 ·subst ey eH
  obtain⟨z,hd,vs,rel,dd⟩:=XC I.hok e
  have hz:vs.length<=sizeLine:=by rw[<-rel.length];exact z
  have hl:(putK kvs k v).length<=sizeLine:=by have:=Bf kvs k v;omega
  refine wpAny_setItem_pairs (hsz:=hz) (Ja ry) dd λh' dd' hs=>h _ ?_
  have he:∃q,h'.get? a=some q:=let⟨q,_,_,hq,_⟩:=dd';⟨q,hq⟩
  exact Kc I (by rw[e];exact jS) hs he (acq hl hd (rel.put k rv) dd')
 ·subst ey eH
  cases(show u=Value.ref b from ry)
  obtain⟨z,hd,xs,rel,dd⟩:=afQ I.hok e
  have hz:xs.length<=sizeLine:=by rw[<-Paired.length rel];exact z
  have hl:(putK kvs k v).length<=sizeLine:=by have:=Bf kvs k v;omega
  refine wpAny_setItem_heap (hsz:=hz) (tupleKind_room_in1 hu) (DX I.hok eb) dd λh' dd' hs=>h _ ?_
  obtain⟨q,es,ep,hq,h2,h3,h4,_,h5⟩:=dd'
  refine Kc I (by rw[e];exact jS) hs ⟨q,hq⟩ ⟨hl,hd,_,(rel.put k eb rv).keeps λc ys ec=> ?_,q,es,ep,hq,h2,h3,h4,h5⟩
  rw[aL (akd ec e (λz=>nomatch z))]
  exact ec
end
section
variable{X:Cx}{pins:List (Addr×Obj)}{σ:St}{H:Hp}{s:Shared}{a:Addr}{kvs:List (Key×V)}{k:Key}{u:Value}{A:Around}{E:Value->Shared->Prop}
theorem ala{Q:Value->Shared->Prop}(I:Inv X pins σ H s)(e:Rd H a (.dK kvs))(h:∀t s',Inv X pins σ H s'->Q (.int kvs.length t) s'):wpAny (model X.prog X.w) A (call (.builtin "len") [.ref a]) Q E s:=by
 obtain⟨z,hd,vs,rel,dd⟩:=G4 I.hok e
 refine call_len_dict hd dd (by rw[<-rel.length];rw[sizeLine_eq]at z;omega) ?_
 rw[<-rel.length]
 exact h _ _ (I.tok _)
end
theorem T4(I:Inv X pins σ H s)(g:Ey H a y o):s.TypeIs (.ref a) "dict" := by
 rcases g with⟨kvs,k,e,_,_⟩ | ⟨kvs,k,b,e,_,_,_⟩
 ·obtain⟨_,_,vs,_,dd⟩:=G4 I.hok e
  exact dd.typeIs
 ·obtain⟨_,_,xs,_,dd⟩:=Ji I.hok e
  exact dd.typeIs
theorem T3(h:Heap)(hb:sysModules<h.objs.size):fC P w H (h.push {cls:= .type "dict",data:= .dict #[]}) h.objs.size (.dK []):=
 ⟨Nat.zero_le _,beq_eq_false_iff_ne.mpr (Ne.symm (xD hb)),[],.nil,Heap.DictOf.new h⟩
def agb:TE:=λ_ H Q=>∀p,H p=none->Q (.ref p) (upd H p (.dK []))
section
variable{X:Cx}{pos:Pos}
theorem aa6:PE X (.Dict [] [] pos) agb:=λpins s σ H Q I h=>
 wpAny_Dict_empty ⟨.ref s.heap.objs.size,_,I.laid (a:=s.heap.objs.size) (o:= .dK []) (t':=s.toks) (λ_ _ q=>zD _ q) (zaa _) (T3 s.heap I.big),rfl,h _ (I.hok.fresh (zaa _))⟩
end
def Ky:List (TE×TE)->St->Hp->(List (V×V)->Hp->Prop)->Prop
 | [],_,H,Q=>Q [] H
 | (tk,tv)::r,σ,H,Q=>tk σ H λx H1=>tv σ H1 λy H2=>Ky r σ H2 λps H3=>Q ((x,y)::ps) H3
abbrev VV:List (V×V)->List (Value×Value)->Prop:=Paired λp q=>RelV p.1 q.1/\RelV p.2 q.2
def PPs(X:Cx)(pos:Pos)(keys:List (Option Expr))(values:List Expr)(trs:List (TE×TE)):Prop:=
 ∀(pins:List (Addr×Obj)) (s:Shared) (σ:St) (H:Hp) (Q:List (V×V)->Hp->Prop),Inv X pins σ H s->Ky trs σ H Q->
  wpAny (model X.prog X.w) X.A (evalPairs (pairTrees keys values X.env pos)) (λvs s'=>∃ps H',Inv X pins σ H' s'/\VV ps vs/\Q ps H') X.xe s
theorem F_:PPs X pos [] [] []:=λpins s σ H Q I h=>pairTrees_nil_walk ⟨[],H,I,.nil,h⟩
theorem nG(hk:PE X k tk)(hv:PE X v tv)(hr:PPs X pos ks vs trs):
  PPs X pos (some k::ks) (v::vs) ((tk,tv)::trs):=λpins s σ H Q I h=>
 pairTrees_cons_walk (fU (hk pins s σ H _ I h) λu s1 ⟨x,H1,I1,rx,q1⟩=>fU (hv pins s1 σ H1 _ I1 q1) λw2 s2 ⟨y,H2,I2,ry,q2⟩=>
  fU (hr pins s2 σ H2 _ I2 q2) λws s3 ⟨ps,H3,I3,rel,q3⟩=>⟨(x,y)::ps,H3,I3,.cons ⟨rx,ry⟩ rel,q3⟩)
def vq(kvs more:List (Key×V)):List (Key×V):=more.foldl (λacc kv=>putK acc kv.1 kv.2) kvs
theorem KV.merge:∀{more:List (Key×V)} {rs:List (Key×Value)} {kvs:List (Key×V)} {vs:List (Key×Value)},KV more rs->KV kvs vs->KV (vq kvs more) (merged vs rs):=by
 intro more rs kvs vs r
 unfold KV at r
 induction r generalizing kvs vs with
 | nil=>intro q;exact q
 | @cons p q ps qs h t ih=>
  intro r0
  have e:KV (putK kvs p.1 p.2) (stored vs q.1 q.2):=by
   have:=r0.put p.1 h.2
   rw[<-h.1];exact this
  exact ih e
theorem Dh:∀(more kvs:List (Key×V)),(vq kvs more).length<=kvs.length+more.length
 | [],kvs=>by show kvs.length<=kvs.length+0;omega
 | p::r,kvs=>by
  have h1:=Dh r (putK kvs p.1 p.2)
  have h2:=Bf kvs p.1 p.2
  show(vq (putK kvs p.1 p.2) r).length<=_
  rw[List.length_cons];omega
theorem Mu:∀{kvs:List (Key×V)} {ws:List (Value×Value)},VV (kvs.map λkv=>(kV kv.1,kv.2)) ws->∃rs,Carries (dG P w) ws rs/\KV kvs rs
 | [],_,r=>by rw[List.map_nil]at r;cases r;exact⟨[],jS,.nil⟩
 | p::kvs,_,r=>by
  rw[List.map_cons]at r
  cases r with
  | @cons a b as bs h t=>
   obtain⟨rs,c,q⟩:=Mu (P:=P) (w:=w) t
   obtain⟨b1,b2⟩:=b
   exact⟨(p.1,b2)::rs,⟨Ja h.1,rfl,c⟩,.cons ⟨rfl,h.2⟩ q⟩
def ajf(trs:List (TE×TE)):TE:=λσ H Q=>∀p,H p=none->Ky trs σ (upd H p (.dK [])) λps H2=>H2 p=some (.dK [])/\∃kvs:List (Key×V),ps=kvs.map (λkv=>(kV kv.1,kv.2))/\kvs.length<=15/\Q (.ref p) (upd H2 p (.dK (vq [] kvs)))
theorem adX(h:PPs X pos keys values trs)(hall:keys.all (·.isSome)=true)(hl:keys.length=values.length)(h0:keys≠[])
  (h15:keys.length<=15):PE X (.Dict keys values pos) (ajf trs):=by
 intro pins s σ H Q I q
 have hn:=I.hok.fresh (zaa s.heap.objs.size)
 have I1:=I.laid (a:=s.heap.objs.size) (o:= .dK []) (h':=s.heap.push {cls:= .type "dict",data:= .dict #[]}) (t':=s.toks) (λ_ _ q=>zD _ q) (zaa _) (T3 s.heap I.big)
 refine wpAny_Dict_walk (knd:=dG X.prog X.w) hall hl h0 h15 (fU (h pins _ σ _ _ I1 (q _ hn)) λws s2 ⟨ps,H2,I2,rel,e,kvs,ep,lk,q2⟩=> ?_)
 subst ep
 obtain⟨rs,c,rk⟩:=Mu (P:=X.prog) (w:=X.w) rel
 obtain⟨z,hd,vs0,r0,dd⟩:=XC I2.hok e
 cases r0
 refine⟨rs,c,dd,λh' dd' hs=>⟨.ref s.heap.objs.size,_,?_,rfl,q2⟩⟩
 have hz:(vq [] kvs).length<=sizeLine:=by
  have h1:=Dh kvs []
  rw[List.length_nil]at h1
  rw[sizeLine_eq];omega
 have he:∃q,h'.get? s.heap.objs.size=some q:=let⟨q,_,_,hq,_⟩:=dd';⟨q,hq⟩
 exact Kc I2 (by rw[e];exact jS) hs he (acq hz hd (rk.merge .nil) dd')
structure M1(X:Cx)(o:Expr)(m:Str)(apos:Pos)(e:Expr)(cpos:Pos):Prop where
 base:attributeBase o m X.env (eval o X.env)=eval o X.env
 few:((backTo cpos (starEach [e] X.env)).all (λx=> !x.1)&&(backToKw cpos (keywordEach [] X.env)).all (λx=>x.1.isSome)
  && decide (([e]:List Expr).length+([]:List Keyword).length+(if([]:List Keyword).isEmpty then 0 else 1)<30))=true
 line:(apos.endLine==cpos.line)=true
 trees:backTo cpos (starEach [e] X.env)=[(false,eval e X.env)]
structure M2(X:Cx)(o:Expr)(m:Str)(apos:Pos)(e f:Expr)(cpos:Pos):Prop where
 base:attributeBase o m X.env (eval o X.env)=eval o X.env
 few:((backTo cpos (starEach [e,f] X.env)).all (λx=> !x.1)&&(backToKw cpos (keywordEach [] X.env)).all (λx=>x.1.isSome)
  && decide (([e,f]:List Expr).length+([]:List Keyword).length+(if([]:List Keyword).isEmpty then 0 else 1)<30))=true
 line:(apos.endLine==cpos.line)=true
 trees:backTo cpos (starEach [e,f] X.env)=[(false,eval e X.env),(false,eval f X.env)]
def IsD(H:Hp)(a:Addr):Prop:=(∃kvs,Rd H a (.dK kvs))\/∃kvs,Rd H a (.dT kvs)
theorem Vu(I:Inv X pins σ H s)(d:IsD H a):
  s.TypeIs (.ref a) "dict" /\ (∀b,Value.ref a= .ref b->∃ob,s.heap.get? b=some ob/\ob.dict=none)/\(a==sysModules)=false:=by
 rcases d with⟨kvs,e⟩ | ⟨kvs,e⟩
 ·obtain⟨_,hd,vs,_,dd⟩:=G4 I.hok e
  refine⟨dd.typeIs,λb q=> ?_,hd⟩
  cases q
  obtain⟨ob,_,_,h1,h2,_⟩:=dd
  exact⟨ob,h1,h2.2.1⟩
 ·obtain⟨_,hd,xs,_,dd⟩:=Ji I.hok e
  refine⟨dd.typeIs,λb q=> ?_,hd⟩
  cases q
  obtain⟨ob,_,_,h1,h2,_⟩:=dd
  exact⟨ob,h1,h2.2.1⟩
section
variable{X:Cx}{pins:List (Addr×Obj)}{σ:St}{H:Hp}{s:Shared}{a:Addr}{y d:V}{u r:Value}{o:Option V}{A:Around}{E:Value->Shared->Prop}
theorem ah5{Q:Value->Shared->Prop}(hu:A.units+1<cLine)(I:Inv X pins σ H s)(g:Ey H a y o)(ry:RelV y u)(h:∀w' s',Inv X pins σ H s'->RelV (o.getD .non) w'->Q w' s'):
  wpAny (model X.prog X.w) A (call (.builtin "dict.get") [.ref a,u]) Q E s:=by
 rcases g with⟨kvs,k,e,ey,l⟩ | ⟨kvs,k,b,e,ey,eb,l⟩
 ·subst ey
  obtain⟨z,hd,vs,rel,dd⟩:=G4 I.hok e
  refine call_meetsIn PySem.F.slot_dict_get dd.typeIs PySem.F.entry_dict_get (PySem.F.args_dict_get_2 _ _) (meets_dict_get (dG X.prog X.w) a (Ja ry) hd) ⟨_,dd.mapOf,h _ _ (I.tok _) ?_⟩
  rw[l]
  exact(rel.val k).getD rfl
 ·subst ey
  cases(show u=Value.ref b from ry)
  obtain⟨z,hd,xs,rel,dd⟩:=Ji I.hok e
  refine call_meetsIn PySem.F.slot_dict_get dd.typeIs PySem.F.entry_dict_get (PySem.F.args_dict_get_2 _ _) (meetsH_dict_get (tupleKind (dG X.prog X.w)) a b hd) ⟨tupleKind_room_in1 hu,k,xs,DX I.hok eb,dd,h _ _ (I.tok _) ?_⟩
  rw[l]
  exact(rel.val k).getD rfl
theorem ah4{Q:Value->Shared->Prop}(hu:A.units+1<cLine)(I:Inv X pins σ H s)(g:Ey H a y o)(ry:RelV y u)(rd:RelV d r)(h:∀w' s',Inv X pins σ H s'->RelV (o.getD d) w'->Q w' s'):
  wpAny (model X.prog X.w) A (call (.builtin "dict.get") [.ref a,u,r]) Q E s:=by
 rcases g with⟨kvs,k,e,ey,l⟩ | ⟨kvs,k,b,e,ey,eb,l⟩
 ·subst ey
  obtain⟨z,hd,vs,rel,dd⟩:=G4 I.hok e
  refine call_meetsIn PySem.F.slot_dict_get dd.typeIs PySem.F.entry_dict_get (PySem.F.args_dict_get_3 _ _ _) (meets_dict_get_default (dG X.prog X.w) a (Ja ry) hd r) ⟨_,dd.mapOf,h _ _ (I.tok _) ?_⟩
  rw[l]
  exact(rel.val k).getD rd
 ·subst ey
  cases(show u=Value.ref b from ry)
  obtain⟨z,hd,xs,rel,dd⟩:=Ji I.hok e
  refine call_meetsIn PySem.F.slot_dict_get dd.typeIs PySem.F.entry_dict_get (PySem.F.args_dict_get_3 _ _ _) (meetsH_dict_get_default (tupleKind (dG X.prog X.w)) a b hd r) ⟨tupleKind_room_in1 hu,k,xs,DX I.hok eb,dd,h _ _ (I.tok _) ?_⟩
  rw[l]
  exact(rel.val k).getD rd
end
section
variable{X:Cx}
theorem Zh:rM X (.builtin "len") (λxs H Q=>∃a kvs,xs=[V.ref a]/\H a=some (.dK kvs)/\Q (.int kvs.length) H):=by
 intro pins s σ H xs us Q I r h
 obtain⟨a,kvs,rfl,ha,q⟩:=h
 obtain⟨u,rfl,ru⟩:=vals1 r
 cases ru
 exact ala I (.inl ha) λt s' I'=>⟨.int kvs.length,H,I',⟨t,rfl⟩,q⟩
end
section
variable{prog:Program}{w:World}{A:Around}{E:Value->Shared->Prop}{s:Shared}
theorem Jl{Q Q₁:Value->Shared->Prop}(ft:TypeCalled T newId initId)
  (hct:checkTypeCall T ⟨args,kw⟩=pure .unit) (hcn:checkBuiltinCall newId ⟨.type T::args,kw⟩=pure .unit)
  (entryN:entryFor table newId=some Bn) (entryI:entryFor table initId=some Bi)
  (h:wpAny (model prog w) A.in1.in1 (Bn ⟨.type T::args,kw⟩) (λfin s₁=>∃obj,fin= .done (.ret obj)/\Q₁ obj s₁) E s)
  (hnext:∀obj s₁,Q₁ obj s₁->s₁.TypeIs obj T/\argsOk initId ⟨obj::args,kw⟩/\wpAny (model prog w) A.in1.in1 (Bi ⟨obj::args,kw⟩) (λfin s₂=>fin= .done (.ret .none)/\Q obj s₂) E s₁):
  wpAny (model prog w) A (call (.type T) args kw) Q E s:=by
 obtain⟨c,tl,hmro⟩:=ft.mro
 have hmade:=ft.made
 have hsub:=ft.sub
 refine wpAny_call (codeAny_of_tree ?_)
 show wpAny _ _ (callAny (.type T) _) _ _ _
 refine zI ⟨Code.quiet_builtin _ (by decide +kernel),codeAny_builtin F.entry_type_call ?_⟩
 rw[Around.under_plain (weight_type_call_type T args kw) (units_type_call_type T args kw)]
 have h1:=ft.notType
 have h2:=ft.canCreate
 repeat (any_goals (first | assumption | wp_step))
 refine codeAny_mono (codeAny_call_builtin (R:=λr s₁=>match r with | .ok (.ret obj)=>Q₁ obj s₁ | .ok _=>False | .error e=>E e s₁) ft.plain entryN (wpAny_of_eq hcn (vE h (λfin s₁ ⟨obj,e,q⟩=>by subst e;exact q) λe s₁ q=>q))) λr s₁ hr=> ?_
 cases r with
 | error e=>exact hr
 | ok fl=>
  cases fl with
  | ret obj=>
   obtain⟨hT,hok,hsi⟩:=hnext _ _ hr
   have hli:=ft.init.lookup
   have hbi:=ft.init.bind obj
   repeat (any_goals (first | assumption | wp_step))
   refine codeAny_mono (codeAny_call_builtin (R:=λr s₂=>match r with | .ok (.ret v)=>v= .none/\Q obj s₂ | .ok _=>False | .error e=>E e s₂) ft.init.plain entryI (ft.init.check _ _ _ _ _ _ _ _ hT hok (vE hsi (λfin s₂ ⟨e,q⟩=>by subst e;exact⟨rfl,q⟩) λe s₂ q=>q))) λr₂ s₂ hr₂=> ?_
   cases r₂ with
   | error e=>exact hr₂
   | ok fl₂=>
    cases fl₂ with
    | ret r=>
     obtain⟨rfl,hq⟩:=hr₂
     repeat (any_goals (first | assumption | wp_step))
    | _=>exact hr₂.elim
  | _=>exact hr.elim
theorem Ao{Q:Fin->Shared->Prop}(hl:typeLookup (.type T) "__init__" = pure (some (.builtin "object.__init__")))
  (hm:Bind.madeBy (.type T)=pure (some newId)) (hne:(some newId != some "object.__new__")=true) (hT:s.TypeIs self T) (hq:Q (.done (.ret .none)) s):
  wpAny (model prog w) A (Builtin.«object.__init__» ⟨[self,a],kw⟩) Q E s:=by
 repeat (any_goals (first | assumption | wp_step))
theorem Kr(a b:Value):checkTypeCall "enumerate" ⟨[a],[("start",b)]⟩=pure .unit:=by kernel_rfl
theorem Nt(a b:Value):checkBuiltinCall "enumerate.__new__" ⟨[.type "enumerate",a],[("start",b)]⟩=pure .unit:=by kernel_rfl
theorem VR(o a b:Value):argsOk "object.__init__" ⟨[o,a],[("start",b)]⟩:=by
 first | kernel_rfl | (unfold argsOk;kernel_rfl)
def given(i:Int)(t:Tok):Value:=if Builtin.SmallTypes.fitsIndex i=true then .none else .int i t
theorem TX{Q:Fin->Shared->Prop}
  (hx:wpAny (model prog w) A (pyIter x) (λitv s1=>Q (.done (.ret (.ref s1.heap.objs.size))) {s1 with heap:=s1.heap.push {cls:= .type "enumerate",data:= .fields #[.none,.bool false,itv,rawInt i,given i t,.none]}}) E s):
  wpAny (model prog w) A (Builtin.«enumerate.__new__» ⟨[.type "enumerate",x],[("start",.int i t)]⟩) Q E s:=by
 have hsub:=sub_enumerate
 wp_walk
 refine wpAny_stack_any λst=>zI ?_
 have key:∀b:Bool,wpAny (model prog w) A (do
   let itv <-pyIter x
   let r <-Builtin.SmallTypes.newRecord (Value.type "enumerate") (Builtin.SmallTypes.ownedTupleFields++[itv,rawInt i,given i t,Value.none])
   ret r) Q E s:=λb=>by
  refine zC (vE hx (λitv s1 h1=> ?_) λ_ _ z=>z)
  wp_walk
  first | exact h1 | exact⟨_,rfl,h1⟩
 split
 ·rename_i c _ _ _ _ _
  cases(c==Value.type "enumerate")
  ·wp_walk
   cases z:Builtin.SmallTypes.fitsIndex i with
   | true=>
    have e:given i t= .none:=by unfold given;rw[if_pos z]
    have k:=key true
    rw[e]at k
    exact k
   | false=>
    have e:given i t= .int i t:=by unfold given;rw[if_neg (by rw[z];decide)]
    have k:=key true
    rw[e]at k
    exact zC (wpAny_rule (zC (zI k)))
  ·wp_walk
   cases z:Builtin.SmallTypes.fitsIndex i with
   | true=>
    have e:given i t= .none:=by unfold given;rw[if_pos z]
    have k:=key true
    rw[e]at k
    exact k
   | false=>
    have e:given i t= .int i t:=by unfold given;rw[if_neg (by rw[z];decide)]
    have k:=key true
    rw[e]at k
    exact zC (wpAny_rule (zC (zI k)))
 ·wp_walk
  cases z:Builtin.SmallTypes.fitsIndex i with
  | true=>
   have e:given i t= .none:=by unfold given;rw[if_pos z]
   have k:=key true
   rw[e]at k
   exact k
  | false=>
   have e:given i t= .int i t:=by unfold given;rw[if_neg (by rw[z];decide)]
   have k:=key true
   rw[e]at k
   exact zC (wpAny_rule (zC (zI k)))
abbrev kj(h:Heap)(e it:Addr)(i:Int)(gv old:Value):Prop:=
 h.get? e=some {cls:= .type "enumerate",dict:=none,data:= .fields #[.none,.bool false,.ref it,rawInt i,gv,old],slots:= #[]}
def Jo(gv:Value)(c:Int):Prop:=gv= .none\/∃t,gv= .int c t
theorem TV{P:Nat->Value->Prop}{St:Nat->Heap->Prop}{Q:Value->Shared->Prop}
  (D:Draws prog w A it fp n P St) (he:kj s.heap e it c gv old) (hg:Jo gv c) (hst:St i s.heap) (hlt:i<n) (hne:e≠it) (hef:e∉fp)
  (hQ:∀x h' tk tk',P i x->IsEnumOut h' e it (c+1) x s.heap.objs.size->St (i+1) h'->
   h'.get? s.heap.objs.size=some {cls:= .type "tuple",data:= .seq #[.int c tk,x]}->h'.objs.size=s.heap.objs.size+1->
   (∀b o,b≠e->b≠it->s.heap.get? b=some o->h'.get? b=some o)->Q (.ref s.heap.objs.size) {s with heap:=h',toks:=tk'}):
  wpAny (model prog w) A (Builtin.«enumerate.__next__» ⟨[.ref e],[]⟩) (λfin s'=>∃v,fin= .done (.ret v)/\Q v s') E s:=by
 obtain⟨hp,g,d,tk₀,os⟩:=s
 show wpAny _ _ (field (.ref e) 2 >>= _) _ _ _
 refine zC (vS he rfl (x:= .ref it) rfl ?_)
 refine zC (D.item i _ _ _ hlt hst λx h₁ tk hPx hit₁ hs₁=> ?_)
 replace hs₁:Heap.SameBut it hp h₁:=hs₁
 have he₁:kj h₁ e it c gv old:=(hs₁.2 e hne).trans he
 show wpAny _ _ (field (.ref e) 3 >>= _) _ _ ⟨h₁,g,d,tk,os⟩
 refine zC (vS he₁ rfl (x:=rawInt c) rfl ?_)
 show wpAny _ _ (field (.ref e) 4 >>= _) _ _ ⟨h₁,g,d,tk,os⟩
 refine zC (vS he₁ rfl (x:=gv) rfl ?_)
 have rest:∀(ti:Tok) (tk1:Nat),wpAny (model prog w) A (do
   setField (.ref e) 3 (rawInt (c+1));setField (.ref e) 4 .none
   let result <-newTuple [.int c ti,x]
   if <-Builtin.SmallTypes.ownedTupleIsFree (.ref e)then
    rule "enumerate.__next__.owned-tuple-again"
    let old <-field (.ref e) 5
    setField (.ref e) 5 x
    Builtin.SmallTypes.ownedTupleHandOut (.ref e) result
    letGo [old] [result]
   ret result) (λfin s'=>∃v,fin= .done (.ret v)/\Q v s') E ⟨h₁,g,d,tk1,os⟩:=λti tk1=>by
  refine zC (wpAny_setField_rec he₁ (by simp) λh₂ he₂ hs₂=> ?_)
  replace hs₂:Heap.SameBut e h₁ h₂:=hs₂
  replace he₂:kj h₂ e it (c+1) gv old:=he₂
  refine zC (wpAny_setField_rec he₂ (by simp) λh₃ he₃ hs₃=> ?_)
  replace hs₃:Heap.SameBut e h₂ h₃:=hs₃
  replace he₃:IsEnum h₃ e it (c+1) old:=he₃
  refine zC (wpAny_newTuple ?_)
  have he₄:IsEnum (h₃.push {cls:= .type "tuple",data:= .seq #[.int c ti,x]}) e it (c+1) old:=zD _ he₃
  generalize hh₄:h₃.push {cls:= .type "tuple",data:= .seq #[.int c ti,x]}=h₄ at he₄
  have hsz:h₃.objs.size=hp.objs.size:=by rw[hs₃.1,hs₂.1,hs₁.1]
  have hel:e<hp.objs.size:=zS he
  have ht₄:h₄.get? hp.objs.size=some {cls:= .type "tuple",data:= .seq #[.int c ti,x]}:=by rw[<-hh₄,<-hsz];exact yB _ rfl
  have hz₄:h₄.objs.size=hp.objs.size+1:=by rw[<-hh₄,Heap.size_push,hsz]
  have hk₄:∀b o,b≠e->b≠it->hp.get? b=some o->h₄.get? b=some o:=λb o hbe hbi hb=>by
   rw[<-hh₄];exact zD _ (hs₃.extBut b o hbe (hs₂.extBut b o hbe (hs₁.extBut b o hbi hb)))
  have hit₄:St (i+1) h₄:=D.frame _ _ _ hit₁ λb hb o y=>by
   have hbe:b≠e:=λq=>hef (q▸hb)
   rw[<-hh₄];exact zD _ (hs₃.extBut b o hbe (hs₂.extBut b o hbe y))
  show wpAny _ _ (Builtin.SmallTypes.ownedTupleIsFree (.ref e) >>= _) _ _ ⟨h₄,g,d,tk1,os⟩
  rw[hsz]
  refine zC ?_
  ·unfold Builtin.SmallTypes.ownedTupleIsFree
   refine zC (vS he₄ rfl (x:= .none) rfl (zI ?_))
   simp only[if_true]
   refine zC (wpAny_rule ?_)
   refine zC (vS he₄ rfl (x:=old) rfl ?_)
   refine zC (wpAny_setField_rec he₄ (by simp) λh₅ he₅ hs₅=> ?_)
   replace hs₅:Heap.SameBut e h₄ h₅:=hs₅
   replace he₅:IsEnum h₅ e it (c+1) x:=he₅
   show wpAny _ _ (Builtin.SmallTypes.ownedTupleHandOut (.ref e) (.ref hp.objs.size) >>= _) _ _ ⟨h₅,g,d,tk1,os⟩
   refine zC ?_
   ·unfold Builtin.SmallTypes.ownedTupleHandOut
    refine zC (wpAny_setField_rec he₅ (by simp) λh₆ he₆ hs₆=> ?_)
    replace hs₆:Heap.SameBut e h₅ h₆:=hs₆
    replace he₆:IsEnumOut h₆ e it (c+1) x hp.objs.size:=he₆
    refine wpAny_setField_rec he₆ (by simp) λh₇ he₇ hs₇=> ?_
    replace hs₇:Heap.SameBut e h₆ h₇:=hs₇
    replace he₇:IsEnumOut h₇ e it (c+1) x hp.objs.size:=he₇
    refine zC (wpAny_letGo (zI ⟨_,rfl,hQ x h₇ ti tk1 hPx he₇ ?_ ?_ ?_ ?_⟩))
    ·exact D.frame _ _ _ hit₄ λb hb o y=>by
      have hbe:b≠e:=λq=>hef (q▸hb)
      exact hs₇.extBut b o hbe (hs₆.extBut b o hbe (hs₅.extBut b o hbe y))
    ·exact hs₇.extBut _ _ (xS hel) (hs₆.extBut _ _ (xS hel) (hs₅.extBut _ _ (xS hel) ht₄))
    ·rw[hs₇.1,hs₆.1,hs₅.1,hz₄]
    ·exact λb o hbe hbi hb=>hs₇.extBut b o hbe (hs₆.extBut b o hbe (hs₅.extBut b o hbe (hk₄ b o hbe hbi hb)))
 rcases hg with rfl | ⟨ti,rfl⟩
 ·show wpAny _ _ (mkInt c >>= _) _ _ ⟨h₁,g,d,tk,os⟩
  exact zC (wpAny_mkInt (rest tk (tk+1)))
 ·exact rest ti tk
theorem Gp{items}{Q:Value->Shared->Prop}(hit:s.heap.IsTupleIter it l i)(hl:s.heap.IsTuple l items)(hx:items[i]? = some x)
  (hQ:∀h',h'.IsTupleIter it l (i+1)->Heap.SameBut it s.heap h'->Q x {s with heap:=h'}):
  wpAny (model prog w) A (Builtin.SmallTypes.nextOf (.ref it)) Q E s:=by
 obtain⟨o,ho,hc,hd⟩:=id hit
 obtain⟨ol,hol,_,nl,hdl⟩:=hl
 unfold Builtin.SmallTypes.nextOf
 refine zC (zag (name:=Str.ofString "__next__") hit.typeIs F.slot_tuple_iterator_next
  (uS F.slot_tuple_iterator_next hit.typeIs F.entry_tuple_iterator_next ?_ (F.args_tuple_iterator_next_1 _)))
 show wpAny _ _ (field (.ref it) 0 >>= _) _ _ s
 refine zC (vS ho hd (x:= .ref l) rfl ?_)
 show wpAny _ _ (if(Value.ref l==Value.none)=true then _ else _) _ _ s
 rw[if_neg (show ¬((Value.ref l==Value.none)=true)from xA)]
 show wpAny _ _ (field (.ref it) 1 >>= _) _ _ s
 refine zC (vS ho hd (x:= .int i 0) rfl ?_)
 show wpAny _ _ (seqItems? (.ref l) >>= _) _ _ s
 refine zC (wpAny_seqItems hol hdl ?_)
 simp only[zak,hx]
 refine zC (wpAny_setField ho hd (by simp) (zI ⟨x,rfl,zI (hQ _ ?_ (Heap.SameBut.update ..))⟩))
 exact⟨_,vF _ ho (Obj.isFreed_of_fields (Obj.data_mapFields hd _)),(Obj.cls_mapFields ..).trans hc,by
  rw[Obj.data_mapFields hd];simp[rawInt]⟩
theorem wJ{items}{Q:Value->Shared->Prop}(hh:A.handled=none)
  (hit:s.heap.IsTupleIter it l i) (hl:s.heap.IsTuple l items) (hx:items[i]? = none)
  (hE:∀h' e,Heap.ExtBut it s.heap h'->(∃o,h'.get? e=some o/\o.cls= .type "StopIteration")->E (.ref e) {s with heap:=h'}):
  wpAny (model prog w) A (Builtin.SmallTypes.nextOf (.ref it)) Q E s:=by
 obtain⟨o,ho,hc,hd⟩:=id hit
 obtain⟨ol,hol,_,nl,hdl⟩:=hl
 unfold Builtin.SmallTypes.nextOf
 refine zC (zag (name:=Str.ofString "__next__") hit.typeIs F.slot_tuple_iterator_next
  (uS F.slot_tuple_iterator_next hit.typeIs F.entry_tuple_iterator_next ?_ (F.args_tuple_iterator_next_1 _)))
 show wpAny _ _ (field (.ref it) 0 >>= _) _ _ s
 refine zC (vS ho hd (x:= .ref l) rfl ?_)
 show wpAny _ _ (if(Value.ref l==Value.none)=true then _ else _) _ _ s
 rw[if_neg (show ¬((Value.ref l==Value.none)=true)from xA)]
 show wpAny _ _ (field (.ref it) 1 >>= _) _ _ s
 refine zC (vS ho hd (x:= .int i 0) rfl ?_)
 show wpAny _ _ (seqItems? (.ref l) >>= _) _ _ s
 refine zC (wpAny_seqItems hol hdl ?_)
 simp only[zak,hx]
 refine zC (wpAny_rule (zC (wpAny_setField ho hd (by simp) ?_)))
 show wpAny _ _ (newExc (.type "StopIteration") [] >>= _) _ _ _
 refine zC ?_
 simp only[newExc,newTuple]
 refine zC (wT ?_ (by size_fits))
 refine zC (m:=firstArgMember _ _) (wpAny_of_eq (a:=Value.none) (by first | rfl | (simp only[firstArgMember];rfl)) ?_)
 refine wT ?_ (by size_fits)
 simp only[raiseNew]
 refine zC (wpAny_handled ?_)
 first | rw[show A.in1.handled=none from hh] | rw[hh]
 refine zC (zI (wpAny_throw ?_))
 exact hE _ _ (((Heap.SameBut.update ..).extBut.push _).push _) ⟨_,yB _ rfl,rfl⟩
theorem TY(hh:A.handled=none)(it l:Addr)(hne:l≠it)(items:Array Value):
  Draws prog w A it [it,l] items.size (λi v=>items[i]? = some v) (λi h=>h.IsTupleIter it l i/\h.IsTuple l items) where
 live:=λ_ _ st=>let⟨o,ho,_⟩:=st.1;⟨o,ho⟩
 frame:=λ_ _ _ st hk=>⟨let⟨o,ho,a⟩:=st.1;⟨o,hk it (by simp) o ho,a⟩,let⟨o,ho,a⟩:=st.2;⟨o,hk l (by simp) o ho,a⟩⟩
 item:=λi s Q E hi st hQ=>by
  refine Gp st.1 st.2 (x:=items[i]) (by simp[hi]) λh' hit' hs'=> ?_
  exact hQ _ h' s.toks (by simp[hi]) ⟨hit',let⟨o,ho,a⟩:=st.2;⟨o,hs'.extBut l o hne ho,a⟩⟩ hs'
 done:=λs Q E st hE=>wJ hh st.1 st.2 (by simp) hE
theorem PX{P:Nat->Value->Prop}{St:Nat->Heap->Prop}{Q:Option Value->Shared->Prop}
  (D:Draws prog w A.in1 it fp n P St) (he:kj s.heap e it c gv old) (hg:Jo gv c) (hst:St i s.heap) (hlt:i<n) (hne:e≠it) (hef:e∉fp)
  (hQ:∀x h' tk tk',P i x->IsEnumOut h' e it (c+1) x s.heap.objs.size->St (i+1) h'->
   h'.get? s.heap.objs.size=some {cls:= .type "tuple",data:= .seq #[.int c tk,x]}->h'.objs.size=s.heap.objs.size+1->
   (∀b o,b≠e->b≠it->s.heap.get? b=some o->h'.get? b=some o)->Q (some (.ref s.heap.objs.size)) {s with heap:=h',toks:=tk'}):
  wpAny (model prog w) A (pyNext (.ref e)) Q E s:=by
 have hT:s.TypeIs (.ref e) "enumerate" := ⟨_,he,rfl⟩
 unfold pyNext
 exact zC (wpAny_attempt (zag (name:=Str.ofString "__next__") hT F.slot_enumerate_next
  (uS F.slot_enumerate_next hT F.entry_enumerate_next
   (TV D he hg hst hlt hne hef λx h' tk tk' a b c d k q=>zI (hQ x h' tk tk' a b c d k q)) (F.args_enumerate_next_1 _))))
end
section
variable{X:Cx}{pins:List (Addr×Obj)}{σ:L2.St}{H:Hp}{s:Shared}{h':Heap}
theorem Inv.ac5(I:Inv X pins σ H s)(k:∀c o,c≠a->c≠b->s.heap.get? c=some o->h'.get? c=some o)(fa:CV X pins H a)(fb:CV X pins H b):Inv X pins σ H {s with heap:=h',toks:=t'}:=by
 obtain⟨na,La,_,a1,a2,a3⟩:=fa
 obtain⟨nb,Lb,_,b1,b2,b3⟩:=fb
 have nit:∀c u,H c=some u->c≠a/\c≠b:=λc u e=>⟨(λz=>by rw[z,na]at e;cases e),(λz=>by rw[z,nb]at e;cases e)⟩
 have kk:∀c o,c∉[a,b]->s.heap.get? c=some o->h'.get? c=some o:=λc o hc e=>k c o (λz=>hc (by simp[z])) (λz=>hc (by simp[z])) e
 refine I.step (g':=s.gens) (d':=s.drawn) (ch:=[a,b]) (λc hc=> ?_) (λc o _ _ hc e _=>kk c o hc e) (λc o _ _ hc e _=>⟨o.slots,kk c o hc e⟩) (λ_ _ _ _ n=>n)
  (λc o hc e=>⟨o,kk c o hc e⟩) (λ_ _ e=>e) (λ_ _ _ e=>e) (λc ps e=>⟨#[],by rw[e];simp⟩) (λm hm=> ?_) (λc u e=> ?_) I.bare
 ·rcases List.mem_cons.mp hc with rfl | hc
  ·exact⟨a1,La,a2,a3⟩
  ·obtain rfl:c=b:=by simpa using hc
   exact⟨b1,Lb,b2,b3⟩
 ·obtain⟨o,es,ep,ho,r⟩:=hm
  exact⟨o,es,ep,k _ o (Ne.symm La) (Ne.symm Lb) ho,r⟩
 ·refine(I.hok c u e).stay (λd v hd q=> ?_) (λ_ q=>q) λ_ _ q=>q
  rcases hd with z | z
  ·rw[z]at q ⊢;exact k _ v (nit c u e).1 (nit c u e).2 q
  ·exact k _ v (nit d _ z).1 (nit d _ z).2 q
theorem Inv.Rn(I:Inv X pins σ H s)(k:∀c o,c≠a->c≠b->s.heap.get? c=some o->h'.get? c=some o)(fa:CV X pins H a)(fb:CV X pins H b)(hT:s.heap.objs.size<=T)(new:fC X.prog X.w (upd H T o) h' T o):
  Inv X pins σ (upd H T o) {s with heap:=h',toks:=t'}:=by
 have J:Inv X pins σ H {s with heap:=h',toks:=t'}:=I.ac5 k fa fb
 have hn:H T=none:=I.hok.fresh hT
 obtain⟨na,La,_,a1,a2,a3⟩:=fa
 obtain⟨nb,Lb,_,b1,b2,b3⟩:=fb
 have kk:∀c o,c∉[a,b]->s.heap.get? c=some o->h'.get? c=some o:=λc o hc e=>k c o (λz=>hc (by simp[z])) (λz=>hc (by simp[z])) e
 have ne:∀{c:Addr} {u:Obj},s.heap.get? c=some u->c≠T:=λ{c u} e=>xD (yA (zS e) hT)
 refine I.step (g':=s.gens) (d':=s.drawn) (ch:=[a,b]) (λc hc=> ?_) (λc o _ _ hc e _=>kk c o hc e) (λc o _ _ hc e _=>⟨o.slots,kk c o hc e⟩) (λc u _ e n=>by rw[aL (ne e)];exact n)
  (λc o hc e=>⟨o,kk c o hc e⟩) (λc xs e=>by rw[aL (bN e hn)];exact e) (λc ob u e=>by rw[aL (bN e hn)];exact e) (λc ps e=>⟨#[],by rw[aL (bN e hn),e];simp⟩) (λm hm=> ?_) (J.hok.track hn new) I.bare
 ·rcases List.mem_cons.mp hc with rfl | hc
  ·exact⟨a1,La,a2,a3⟩
  ·obtain rfl:c=b:=by simpa using hc
   exact⟨b1,Lb,b2,b3⟩
 ·obtain⟨o,es,ep,ho,r⟩:=hm
  exact⟨o,es,ep,k _ o (Ne.symm La) (Ne.symm Lb) ho,r⟩
end
def Ite(Sq:Hp->List V->Prop)(k:Int):It where
 go i H:=∃xs x,Sq H xs/\xs[i]? = some x
 Yc i H x H':=∃p y,H p=none/\x= .ref p/\H'=upd H p (.tup [.int (k+i),y])/\∀ys,Sq H ys->ys[i]? = some y
 stop i H:=∃xs,Sq H xs/\xs.length<=i
theorem Rm:(2:Nat)<=sizeLine:=by rw[sizeLine_eq];decide
section
variable{P:Program}{w:World}{K:Frag}{es:List Expr}{n:Nat}{pos:Pos}
structure Src(K:Frag)(Sq:Hp->List V->Prop)(a it:Addr)(At:Nat->Heap->Prop):Prop where
 get:∀(X:Cx) (pins:List (Addr×Obj)) (σ:L2.St) (H:Hp) (s:Shared) (xs:List V),X.K=K->Inv X pins σ H s->Sq H xs->∃its:List Value,Vals xs its/\(∃o,s.heap.get? a=some o/\o.cls≠ .type "enumerate")/\
  ∀(i:Nat) (A:Around),A.handled=none->At i s.heap->∃St:Nat->Heap->Prop,Draws X.prog X.w A it [it,a] its.length (λi v=>its[i]? = some v) St/\St i s.heap/\(∀j h,St j h->At j h)/\
   (its.length<=i->∀(Q:Value->Shared->Prop) (E:Value->Shared->Prop),(∀h' e,Heap.ExtBut it s.heap h'->(∃o,h'.get? e=some o/\o.cls= .type "StopIteration")->E (.ref e) {s with heap:=h'})->wpAny (model X.prog X.w) A (Builtin.SmallTypes.nextOf (.ref it)) Q E s)
 inj:∀(X:Cx) (pins:List (Addr×Obj)) (σ:L2.St) (H:Hp) (s:Shared) (xs ys:List V),X.K=K->Inv X pins σ H s->Sq H xs->Sq H ys->xs=ys
 keep:∀i h h',At i h->(∀o,h.get? it=some o->h'.get? it=some o)->At i h'
 obj:∀i h,At i h->∃o,h.get? it=some o/\(∀v,o.data≠ .cell v)/\o.cls≠ .type "enumerate"
theorem src_list(a it:Addr):Src K (λH xs=>rZ K H a xs) a it (λi h=>h.IsListIter it a i) where
 get:=by
  intro X pins σ H s xs hK I hq
  subst hK
  obtain⟨its,rv,p,_⟩:=I.list hq
  refine⟨its,rv,?_,λi A hh st=> ?_⟩
  ·obtain⟨o,m,e,c,_⟩:=p
   exact⟨o,e,by rw[c];decide⟩
  ·have hne:a≠it:=λz=>by
    subst z
    obtain⟨o,m,e,c,_⟩:=p
    obtain⟨o',e',c',_⟩:=st
    rw[e]at e';cases e'
    rw[c]at c'
    exact absurd c' (by decide)
   have D:=Draws.list (prog:=X.prog) (w:=X.w) hh it a hne its.toArray
   refine⟨λi h=>h.IsListIter it a i/\h.IsList a its.toArray,by simpa using D,⟨st,p.isList⟩,λj h q=>q.1,λhl Q E hE=>wpAny_nextOf_list_end hh st p.isList (by simp;omega) hE⟩
 inj:=λX pins σ H s xs ys hK I h1 h2=>by subst hK;exact I.Ls h1 h2
 keep:=λi h h' st k=>st.at λo e=>k o e
 obj:=λi h st=>by obtain⟨o,e,c,d⟩:=st;exact⟨o,e,(λv z=>by rw[d]at z;cases z),by rw[c];decide⟩
theorem Wl(a it:Addr):Src K (λH xs=>nu K H a xs) a it (λi h=>h.IsTupleIter it a i) where
 get:=by
  intro X pins σ H s xs hK I hq
  subst hK
  obtain⟨its,rv,p,_⟩:=I.tuple hq
  refine⟨its,rv,?_,λi A hh st=> ?_⟩
  ·obtain⟨o,e,c,_⟩:=p
   exact⟨o,e,by rw[c];decide⟩
  ·have hne:a≠it:=λz=>by
    subst z
    obtain⟨o,e,c,_⟩:=p
    obtain⟨o',e',c',_⟩:=st
    rw[e]at e';cases e'
    rw[c]at c'
    exact absurd c' (by decide)
   have D:=TY (prog:=X.prog) (w:=X.w) hh it a hne its.toArray
   refine⟨λi h=>h.IsTupleIter it a i/\h.IsTuple a its.toArray,by simpa using D,⟨st,p⟩,λj h q=>q.1,λhl Q E hE=>wJ hh st (show s.heap.IsTuple a its.toArray from p) (by simp;omega) hE⟩
 inj:=λX pins σ H s xs ys hK I h1 h2=>by subst hK;exact I.Hi h1 h2
 keep:=λi h h' st k=>by obtain⟨o,e,a⟩:=st;exact⟨o,k o e,a⟩
 obj:=λi h st=>by obtain⟨o,e,c,d⟩:=st;exact⟨o,e,(λv z=>by rw[d]at z;cases z),by rw[c];decide⟩
theorem BV{Sq:Hp->List V->Prop}{At:Nat->Heap->Prop}(S:Src K Sq a it At)(hei:e≠it)(k:Int):
  Turn P w K (.Tuple es n pos) (Ite Sq k) [e,it] e (λi h=>(∃gv old,kj h e it (k+(i:Nat)) gv old/\Jo gv (k+(i:Nat)))/\At i h) where
 mem:=by simp
 obj:=λi h st b hb=>by
  obtain⟨⟨gv,old,he,_⟩,st⟩:=st
  rcases List.mem_cons.mp hb with rfl | hb
  ·exact⟨_,he,λv z=>by cases(show Data.fields _=Data.cell v from z)⟩
  ·obtain rfl:b=it:=by simpa using hb
   obtain⟨o,e1,e2,_⟩:=S.obj i h st
   exact⟨o,e1,e2⟩
 keep:=λi h h' st q=>by
  obtain⟨⟨gv,old,he,hg⟩,st⟩:=st
  exact⟨⟨gv,old,q e (by simp) _ he,hg⟩,S.keep i h h' st λo eo=>q it (by simp) o eo⟩
 item:=by
  intro X hP hw hK hc i pins s σ H E I hf st hgo
  subst hP hw
  obtain⟨⟨gv,old,he,hg⟩,st⟩:=st
  obtain⟨xs,x,hq,hx⟩:=hgo
  obtain⟨its,rv,⟨oa,ha,ca⟩,D⟩:=S.get X pins σ H s xs hK I hq
  obtain⟨St,D,hst,back,_⟩:=D i X.A.in1 (I.ok.hd hc) st
  obtain⟨u,hu,ru⟩:=rv.get hx
  have hlt:i<its.length:=(List.getElem?_eq_some_iff.mp hu).1
  have hea:e≠a:=λz=>by subst z;rw[he]at ha;cases ha;exact ca rfl
  refine PX D he hg hst hlt hei (by simp[hei,hea]) λy h1 tk tk' hy ho aoi hT hsz hk=> ?_
  have ey:y=u:=by
   have:=hy.symm.trans hu
   exact xI this
  subst ey
  refine⟨_,rfl,wpAny_letOwnedTupleGo_enum ho λh2 he2 hs2=> ?_⟩
  have hTe:s.heap.objs.size≠e:=xS (zS he)
  have hT2:h2.get? s.heap.objs.size=some {cls:= .type "tuple",data:= .seq #[.int (k+(i:Nat)) tk,y]}:=(hs2.2 _ hTe).trans hT
  have hf0:H s.heap.objs.size=none:=I.hok.fresh (zaa _)
  refine⟨.ref s.heap.objs.size,upd H s.heap.objs.size (.tup [.int (k+(i:Nat)),x]),?_,rfl,⟨_,x,hf0,rfl,rfl,λys hy=>by rw[S.inj X pins σ H s ys xs hK I hy hq];exact hx⟩,⟨⟨.none,y,?_,.inl rfl⟩,S.keep _ _ _ (back _ _ aoi) λo eo=>(hs2.2 it (Ne.symm hei)).trans eo⟩,λb hb=> ?_⟩
  ·refine I.Rn (λb o n1 n2 eb=>(hs2.2 b n1).trans (hk b o n1 n2 eb)) (hf e (by simp)) (hf it (by simp)) (zaa _) ?_
   exact⟨Rm,[.int (k+(i:Nat)) tk,y],.cons ⟨tk,rfl⟩ (.cons ru .nil),⟨_,hT2,rfl,_,rfl⟩⟩
  ·have ec:k+((i+1:Nat):Int)=k+(i:Nat)+1:=()
   rw[ec]
   exact he2
  ·rw[aL]
   ·exact(hf b hb).1
   ·rcases List.mem_cons.mp hb with rfl | hb
    ·exact Ne.symm hTe
    ·obtain rfl:b=it:=by simpa using hb
     obtain⟨o,e1,_,_⟩:=S.obj i s.heap st
     exact xD (zS e1)
 done:=by
  intro X hP hw hK hc i pins s σ H E I hf st hgo
  subst hP hw
  obtain⟨⟨gv,old,he,hg⟩,st⟩:=st
  obtain⟨xs,hq,hx⟩:=hgo
  obtain⟨its,rv,⟨oa,ha,ca⟩,D⟩:=S.get X pins σ H s xs hK I hq
  obtain⟨St,_,_,_,fin⟩:=D i X.A.in1 (I.ok.hd hc) st
  have hT:s.TypeIs (.ref e) "enumerate" := ⟨_,he,rfl⟩
  obtain⟨f0,f1,f2,f3,f4,f5⟩:=hf it (by simp)
  unfold pyNext
  refine zC (wpAny_attempt (zag (name:=Str.ofString "__next__") hT F.slot_enumerate_next
   (uS F.slot_enumerate_next hT F.entry_enumerate_next ?_ (F.args_enumerate_next_1 _))))
  show wpAny _ _ (field (.ref e) 2 >>= _) _ _ _
  refine zC (vS he rfl (x:= .ref it) rfl ?_)
  refine zC (fin (by rw[<-rv.length];exact hx) _ _ λh' x he' hx'=> ?_)
  obtain⟨o,ho,hc⟩:=hx'
  refine zC (wpAny_isInstance (T:= "StopIteration") (b:=true) ⟨o,ho,hc⟩ isSubtype_stop ?_)
  exact zI ⟨rfl,I.turned (t':=s.toks) (λb o hb e=>he' b o hb e) f0 f1 f3 f4 f5⟩
 self:=λA i s Q E st hQ=>by
  obtain⟨⟨gv,old,he,_⟩,_⟩:=st
  have hT:s.TypeIs (.ref e) "enumerate" := ⟨_,he,rfl⟩
  refine wpAny_pyIter_slot hT F.slot_enumerate_iter (uS F.slot_enumerate_iter hT F.entry_enumerate_iter ?_ (F.args_enumerate_iter_1 _))
  show wpAny _ _ (ret (.ref e)) _ _ s
  exact zI ⟨_,rfl,"enumerate",_,hT,F.slot_enumerate_next.lookup,hQ⟩
end
theorem G8:bootBuiltins "enumerate" = some (.type "enumerate"):=by decide +kernel
section
variable{M:Model}{A:Around}{E:Value->Shared->Prop}{s:Shared}{env:Env}
theorem H_{T:String}{rest:List Expr}{kws:List Keyword}{Q:Value->Shared->Prop}
  (h:wpAny M A (spliced (backTo pos (starEach (e::rest) env))) (λvs s₁=>wpAny M A (evalAll ((backToKw pos (keywordEach kws env)).map (·.2)))
   (λkvs s₂=>wpAny M A (call (.type T) vs (((backToKw pos (keywordEach kws env)).filterMap (·.1)).zip kvs)) Q E s₂) E s₁) E s)
  (he:backTo pos (starEach (e::rest) env)=(false,eval e env)::backTo pos (starEach rest env))
  (hplain:(backTo pos (starEach (e::rest) env)).any (·.1)=false)
  (hall:(backToKw pos (keywordEach kws env)).all (·.1.isSome)=true)
  (hkw:(backToKw pos (keywordEach kws env)).any (·.1.isNone)=false):
  wpAny M A (callWith pos (.type T) [] (backTo pos (starEach (e::rest) env)) (backToKw pos (keywordEach kws env))) Q E s:=by
 have h2:wpAny M A (evalArgs (.type T) true (backTo pos (starEach (e::rest) env)) (backToKw pos (keywordEach kws env))) (λa s₁=>wpAny M A (call (.type T) ([]++a.pos) a.kw) Q E s₁) E s:=by
  rw[he]at h ⊢
  exact evalArgs_kwB hall h
 unfold callWith
 refine zC (wpAny_holding (vE h2 (λa s₁ h₁=>zC (wpAny_standAt ?_)) λ_ _ x=>x))
 simp only[hplain,hkw,Bool.or_false]
 refine zC (zI ?_)
 exact zC (vE h₁ (λr s₂ hr=>zC (wpAny_holding (wpAny_point (zI hr)))) λ_ _ x=>x)
end
section
variable{X:Cx}
theorem Y9{pins:List (Addr×Obj)}{σ:L2.St}{H:Hp}{s:Shared}{x:Value}{i:Int}{t:Tok}{Q:Value->Shared->Prop}{E:Value->Shared->Prop}
  (hx:wpAny (model X.prog X.w) X.A.in1.in1 (pyIter x) (λitv s1=>Q (.ref s1.heap.objs.size) {s1 with heap:=s1.heap.push {cls:= .type "enumerate",data:= .fields #[.none,.bool false,itv,rawInt i,given i t,.none]}}) E s):
  wpAny (model X.prog X.w) X.A (call (.type "enumerate") [x] [("start",.int i t)]) Q E s:=by
 refine Jl (Q₁:=λobj s₁=>s₁.TypeIs obj "enumerate" /\ Q obj s₁) F.called_enumerate (Kr _ _) (Nt _ _) F.entry_enumerate_new F.entry_object_init (TX (vE hx (λitv s1 q=> ?_) λ_ _ z=>z)) λobj s₁ q=>⟨q.1,VR _ _ _,?_⟩
 ·exact⟨_,rfl,⟨_,yB _ rfl,rfl⟩,q⟩
 ·exact Ao F.called_enumerate.init.lookup F.called_enumerate.made (by decide) q.1 ⟨rfl,q.2⟩
def akJ(K:Frag)(ta tb:TE):TI:=λσ H R=>ta σ H λx H1=>tb σ H1 λy H2=>∃l i,x= .ref l/\y= .int i/\
 (((∃xs,rZ K H2 l xs)/\((∀xs,rZ K H2 l xs->xs.length<=sizeLine)->R (Ite (λH xs=>rZ K H l xs) i) H2))\/((∃xs,nu K H2 l xs)/\((∀xs,nu K H2 l xs->xs.length<=sizeLine)->R (Ite (λH xs=>nu K H l xs) i) H2)))
theorem Ou(i:Int)(t:Tok):Jo (given i t) i:=by
 unfold given
 split
 ·exact .inl rfl
 ·exact .inr ⟨t,rfl⟩
set_option maxHeartbeats 4000000 in
theorem aaX(hg:Gl X "enumerate")(hm:X.mg "enumerate" = none)(ha:PE X a ta)(hb:PE X b tb)
  (he:backTo pos (starEach [a] X.env)=(false,eval a X.env)::backTo pos (starEach [] X.env):=by rfl)
  (hs:starEach [a] X.env=(false,eval a X.env)::starEach [] X.env:=by rfl)
  (hplain:(backTo pos (starEach [a] X.env)).any (·.1)=false:=by rfl)
  (hall:(backToKw pos (keywordEach [⟨some "start",b,kp⟩] X.env)).all (·.1.isSome)=true:=by rfl)
  (hkw:(backToKw pos (keywordEach [⟨some "start",b,kp⟩] X.env)).any (·.1.isNone)=false:=by rfl)
  (hnm:(backToKw pos (keywordEach [⟨some "start",b,kp⟩] X.env)).filterMap (·.1)=[("start" : Str)]:=by rfl):
  PI X (.Tuple es n tp) (.Call (.Name "enumerate" p) [a] [⟨some "start",b,kp⟩] pos) (akJ X.K ta tb):=by
 intro pins s σ H R I h
 refine wpAny_Call_Name_kw (HN I hg hm G8 (H_ ?_ he hplain hall hkw))
 rw[hs]
 show wpAny _ _ (spliced ((false,eval a X.env)::backTo pos (starEach [] X.env))) _ _ s
 refine Calls.spliced_cons (fU (ha pins s σ H _ I h) ?_)
 rintro u s1 ⟨x,H1,I1,r1,q1⟩
 refine Calls.spliced_nil ?_
 refine kws_cons (fU (hb pins s1 σ H1 _ I1 q1) ?_)
 rintro u2 s2 ⟨y,H2,I2,r2,q2⟩
 refine kws_nil ?_
 rw[hnm]
 obtain⟨l,i,rfl,rfl,q⟩:=q2
 obtain⟨t,rfl⟩:=r2
 cases(show u=Value.ref l from r1)
 show wpAny _ _ (call (.type "enumerate") [Value.ref l] [("start",.int i t)]) _ _ s2
 refine Y9 (X:=X) (pins:=pins) (σ:=σ) (H:=H2) ?_
 have f0:∀{h:Heap} {b:Addr},s2.heap.objs.size<=b->CV X pins H2 b:=λ{h b} hb=>I2.Vz hb (I2.hok.fresh hb)
 rcases q with⟨⟨xs,hq⟩,q⟩ | ⟨⟨xs,hq⟩,q⟩
 ·obtain⟨its,rv,pp,hz⟩:=I2.list hq
  have q:=q λys hy=>by obtain⟨_,_,_,hz⟩:=I2.list hy;exact hz
  refine wpAny_pyIter_list pp.isList ?_
  have hsz:(s2.heap.push {cls:= .type "list_iterator",data:= .fields #[.ref l,.int 0 0]}).objs.size=s2.heap.objs.size+1:=Heap.size_push ..
  have hE:∀h,kj h (s2.heap.objs.size+1) s2.heap.objs.size i (given i t) .none->h.IsListIter s2.heap.objs.size l 0->(∀b o,s2.heap.get? b=some o->h.get? b=some o)->
    wpAny (model X.prog X.w) X.A (pyIter (.ref (s2.heap.objs.size+1))) (PIE X pins σ (.Tuple es n tp) R) X.xe {s2 with heap:=h}:=λh he hit hk=>by
   have T:=BV (P:=X.prog) (w:=X.w) (es:=es) (n:=n) (pos:=tp) (src_list (K:=X.K) l s2.heap.objs.size) (e:=s2.heap.objs.size+1) (xS (Nat.lt_succ_self _)) i
   have Z4:(∃gv old,kj h (s2.heap.objs.size+1) s2.heap.objs.size (i+((0:Nat):Int)) gv old/\Jo gv (i+((0:Nat):Int)))/\h.IsListIter s2.heap.objs.size l 0:=by
    have e0:i+((0:Nat):Int)=i:=by simp
    rw[e0]
    exact⟨⟨_,_,he,Ou i t⟩,hit⟩
   refine T.self X.A 0 {s2 with heap:=h} _ _ Z4 ?_
   refine⟨_,_,_,_,H2,rfl,I2.kept (t':=s2.toks) hk,T,Z4,λb hb=> ?_,q⟩
   rcases List.mem_cons.mp hb with rfl | hb
   ·exact f0 (h:=h) (Nat.le_succ _)
   ·obtain rfl:b=s2.heap.objs.size:=by simpa using hb
    exact f0 (h:=h) (zaa _)
  show wpAny _ _ (pyIter (.ref (s2.heap.push _).objs.size)) _ _ _
  rw[hsz]
  refine hE _ ?_ ⟨_,zD _ (yB _ rfl),rfl,rfl⟩ λb o eb=>zD _ (zD _ eb)
  have:=yB (s2.heap.push {cls:= .type "list_iterator",data:= .fields #[.ref l,.int 0 0]}) (o:={cls:= .type "enumerate",data:= .fields #[.none,.bool false,.ref s2.heap.objs.size,rawInt i,given i t,.none]}) rfl
  rw[hsz]at this
  exact this
 ·obtain⟨its,rv,pp,hz⟩:=I2.tuple hq
  have q:=q λys hy=>by obtain⟨_,_,_,hz⟩:=I2.tuple hy;exact hz
  refine wpAny_pyIter_tuple (show s2.heap.IsTuple l its.toArray from pp) ?_
  have hsz:(s2.heap.push {cls:= .type "tuple_iterator",data:= .fields #[.ref l,.int 0 0]}).objs.size=s2.heap.objs.size+1:=Heap.size_push ..
  have hE:∀h,kj h (s2.heap.objs.size+1) s2.heap.objs.size i (given i t) .none->h.IsTupleIter s2.heap.objs.size l 0->(∀b o,s2.heap.get? b=some o->h.get? b=some o)->
    wpAny (model X.prog X.w) X.A (pyIter (.ref (s2.heap.objs.size+1))) (PIE X pins σ (.Tuple es n tp) R) X.xe {s2 with heap:=h}:=λh he hit hk=>by
   have T:=BV (P:=X.prog) (w:=X.w) (es:=es) (n:=n) (pos:=tp) (Wl (K:=X.K) l s2.heap.objs.size) (e:=s2.heap.objs.size+1) (xS (Nat.lt_succ_self _)) i
   have Z4:(∃gv old,kj h (s2.heap.objs.size+1) s2.heap.objs.size (i+((0:Nat):Int)) gv old/\Jo gv (i+((0:Nat):Int)))/\h.IsTupleIter s2.heap.objs.size l 0:=by
    have e0:i+((0:Nat):Int)=i:=by simp
    rw[e0]
    exact⟨⟨_,_,he,Ou i t⟩,hit⟩
   refine T.self X.A 0 {s2 with heap:=h} _ _ Z4 ?_
   refine⟨_,_,_,_,H2,rfl,I2.kept (t':=s2.toks) hk,T,Z4,λb hb=> ?_,q⟩
   rcases List.mem_cons.mp hb with rfl | hb
   ·exact f0 (h:=h) (Nat.le_succ _)
   ·obtain rfl:b=s2.heap.objs.size:=by simpa using hb
    exact f0 (h:=h) (zaa _)
  show wpAny _ _ (pyIter (.ref (s2.heap.push _).objs.size)) _ _ _
  rw[hsz]
  refine hE _ ?_ ⟨_,zD _ (yB _ rfl),rfl,rfl⟩ λb o eb=>zD _ (zD _ eb)
  have:=yB (s2.heap.push {cls:= .type "tuple_iterator",data:= .fields #[.ref l,.int 0 0]}) (o:={cls:= .type "enumerate",data:= .fields #[.none,.bool false,.ref s2.heap.objs.size,rawInt i,given i t,.none]}) rfl
  rw[hsz]at this
  exact this
end
section
variable{prog:Program}{w:World}{A:Around}{E:Value->Shared->Prop}{s:Shared}
theorem Y8{Q:Fin->Shared->Prop}
  (hx:wpAny (model prog w) A (pyIter x) (λitv s1=>Q (.done (.ret (.ref s1.heap.objs.size))) {s1 with heap:=s1.heap.push {cls:= .type "enumerate",data:= .fields #[.none,.bool false,itv,rawInt 0,.none,.none]}}) E s):
  wpAny (model prog w) A (Builtin.«enumerate.__new__» ⟨[.type "enumerate",x],[]⟩) Q E s:=by
 have hsub:=sub_enumerate
 have key:wpAny (model prog w) A (do
   let itv <-pyIter x
   let r <-Builtin.SmallTypes.newRecord (Value.type "enumerate") (Builtin.SmallTypes.ownedTupleFields++[itv,rawInt 0,Value.none,Value.none])
   ret r) Q E s:=by
  refine zC (vE hx (λitv s1 h1=> ?_) λ_ _ z=>z)
  wp_walk
  first | exact h1 | exact⟨_,rfl,h1⟩
 wp_walk
 refine wpAny_stack_any λst=>zI ?_
 split
 ·rename_i c _ _ _ _ _
  cases(c==Value.type "enumerate")
  ·first | exact key | exact wpAny_rule key | (wp_step;first | exact key | (wp_step;exact key))
  ·first | exact key | exact wpAny_rule key | (wp_step;first | exact key | (wp_step;exact key))
 ·first | exact key | exact wpAny_rule key | (wp_step;first | exact key | (wp_step;exact key))
end
section
variable{X:Cx}
theorem VD{Q:Value->Shared->Prop}{E:Value->Shared->Prop}
  (hx:wpAny (model X.prog X.w) X.A.in1.in1 (pyIter x) (λitv s1=>Q (.ref s1.heap.objs.size) {s1 with heap:=s1.heap.push {cls:= .type "enumerate",data:= .fields #[.none,.bool false,itv,rawInt 0,.none,.none]}}) E s):
  wpAny (model X.prog X.w) X.A (call (.type "enumerate") [x]) Q E s:=by
 refine Jl (Q₁:=λobj s₁=>s₁.TypeIs obj "enumerate" /\ Q obj s₁) F.called_enumerate (F.typeCall_enumerate_1 _) (F.newCall_enumerate_1 _) F.entry_enumerate_new F.entry_object_init (Y8 (vE hx (λitv s1 q=> ?_) λ_ _ z=>z)) λobj s₁ q=>⟨q.1,F.args_object_init_2 _ _,?_⟩
 ·exact⟨_,rfl,⟨_,yB _ rfl,rfl⟩,q⟩
 ·exact Ao F.called_enumerate.init.lookup F.called_enumerate.made (by decide) q.1 ⟨rfl,q.2⟩
def ahH(K:Frag)(ta:TE):TI:=λσ H R=>ta σ H λx H2=>∃l,x= .ref l/\
 (((∃xs,rZ K H2 l xs)/\((∀xs,rZ K H2 l xs->xs.length<=sizeLine)->R (Ite (λH xs=>rZ K H l xs) 0) H2))\/((∃xs,nu K H2 l xs)/\((∀xs,nu K H2 l xs->xs.length<=sizeLine)->R (Ite (λH xs=>nu K H l xs) 0) H2)))
set_option maxHeartbeats 4000000 in
theorem aaY(hg:Gl X "enumerate")(hm:X.mg "enumerate" = none)(ha:PE X a ta)
  (hs:starEach [a] X.env=[(false,eval a X.env)]:=by rfl):
  PI X (.Tuple es n tp) (.Call (.Name "enumerate" p) [a] [] pos) (ahH X.K ta):=by
 intro pins s σ H R I h
 refine Call_ (HN I hg hm G8 (PyProof.Rows.callWith_type1 ?_ hs rfl))
 rw[hs]
 refine Calls.spliced_cons (fU (ha pins s σ H _ I h) ?_)
 rintro u s2 ⟨x,H2,I2,r1,q2⟩
 refine Calls.spliced_nil ?_
 obtain⟨l,rfl,q⟩:=q2
 cases(show u=Value.ref l from r1)
 show wpAny _ _ (call (.type "enumerate") [Value.ref l]) _ _ s2
 refine VD (X:=X) ?_
 have f0:∀{h:Heap} {b:Addr},s2.heap.objs.size<=b->CV X pins H2 b:=λ{h b} hb=>I2.Vz hb (I2.hok.fresh hb)
 rcases q with⟨⟨xs,hq⟩,q⟩ | ⟨⟨xs,hq⟩,q⟩
 ·obtain⟨its,rv,pp,hz⟩:=I2.list hq
  have q:=q λys hy=>by obtain⟨_,_,_,hz⟩:=I2.list hy;exact hz
  refine wpAny_pyIter_list pp.isList ?_
  have hsz:(s2.heap.push {cls:= .type "list_iterator",data:= .fields #[.ref l,.int 0 0]}).objs.size=s2.heap.objs.size+1:=Heap.size_push ..
  have hE:∀h,kj h (s2.heap.objs.size+1) s2.heap.objs.size 0 .none .none->h.IsListIter s2.heap.objs.size l 0->(∀b o,s2.heap.get? b=some o->h.get? b=some o)->
    wpAny (model X.prog X.w) X.A (pyIter (.ref (s2.heap.objs.size+1))) (PIE X pins σ (.Tuple es n tp) R) X.xe {s2 with heap:=h}:=λh he hit hk=>by
   have T:=BV (P:=X.prog) (w:=X.w) (es:=es) (n:=n) (pos:=tp) (src_list (K:=X.K) l s2.heap.objs.size) (e:=s2.heap.objs.size+1) (xS (Nat.lt_succ_self _)) 0
   have Z4:(∃gv old,kj h (s2.heap.objs.size+1) s2.heap.objs.size (0+((0:Nat):Int)) gv old/\Jo gv (0+((0:Nat):Int)))/\h.IsListIter s2.heap.objs.size l 0:=
    ⟨⟨_,_,he,.inl rfl⟩,hit⟩
   refine T.self X.A 0 {s2 with heap:=h} _ _ Z4 ?_
   refine⟨_,_,_,_,H2,rfl,I2.kept (t':=s2.toks) hk,T,Z4,λb hb=> ?_,q⟩
   rcases List.mem_cons.mp hb with rfl | hb
   ·exact f0 (h:=h) (Nat.le_succ _)
   ·obtain rfl:b=s2.heap.objs.size:=by simpa using hb
    exact f0 (h:=h) (zaa _)
  show wpAny _ _ (pyIter (.ref (s2.heap.push _).objs.size)) _ _ _
  rw[hsz]
  refine hE _ ?_ ⟨_,zD _ (yB _ rfl),rfl,rfl⟩ λb o eb=>zD _ (zD _ eb)
  have:=yB (s2.heap.push {cls:= .type "list_iterator",data:= .fields #[.ref l,.int 0 0]}) (o:={cls:= .type "enumerate",data:= .fields #[.none,.bool false,.ref s2.heap.objs.size,rawInt 0,.none,.none]}) rfl
  rw[hsz]at this
  exact this
 ·obtain⟨its,rv,pp,hz⟩:=I2.tuple hq
  have q:=q λys hy=>by obtain⟨_,_,_,hz⟩:=I2.tuple hy;exact hz
  refine wpAny_pyIter_tuple (show s2.heap.IsTuple l its.toArray from pp) ?_
  have hsz:(s2.heap.push {cls:= .type "tuple_iterator",data:= .fields #[.ref l,.int 0 0]}).objs.size=s2.heap.objs.size+1:=Heap.size_push ..
  have hE:∀h,kj h (s2.heap.objs.size+1) s2.heap.objs.size 0 .none .none->h.IsTupleIter s2.heap.objs.size l 0->(∀b o,s2.heap.get? b=some o->h.get? b=some o)->
    wpAny (model X.prog X.w) X.A (pyIter (.ref (s2.heap.objs.size+1))) (PIE X pins σ (.Tuple es n tp) R) X.xe {s2 with heap:=h}:=λh he hit hk=>by
   have T:=BV (P:=X.prog) (w:=X.w) (es:=es) (n:=n) (pos:=tp) (Wl (K:=X.K) l s2.heap.objs.size) (e:=s2.heap.objs.size+1) (xS (Nat.lt_succ_self _)) 0
   have Z4:(∃gv old,kj h (s2.heap.objs.size+1) s2.heap.objs.size (0+((0:Nat):Int)) gv old/\Jo gv (0+((0:Nat):Int)))/\h.IsTupleIter s2.heap.objs.size l 0:=
    ⟨⟨_,_,he,.inl rfl⟩,hit⟩
   refine T.self X.A 0 {s2 with heap:=h} _ _ Z4 ?_
   refine⟨_,_,_,_,H2,rfl,I2.kept (t':=s2.toks) hk,T,Z4,λb hb=> ?_,q⟩
   rcases List.mem_cons.mp hb with rfl | hb
   ·exact f0 (h:=h) (Nat.le_succ _)
   ·obtain rfl:b=s2.heap.objs.size:=by simpa using hb
    exact f0 (h:=h) (zaa _)
  show wpAny _ _ (pyIter (.ref (s2.heap.push _).objs.size)) _ _ _
  rw[hsz]
  refine hE _ ?_ ⟨_,zD _ (yB _ rfl),rfl,rfl⟩ λb o eb=>zD _ (zD _ eb)
  have:=yB (s2.heap.push {cls:= .type "tuple_iterator",data:= .fields #[.ref l,.int 0 0]}) (o:={cls:= .type "enumerate",data:= .fields #[.none,.bool false,.ref s2.heap.objs.size,rawInt 0,.none,.none]}) rfl
  rw[hsz]at this
  exact this
end
structure NB(K:Frag)(C:Addr)(name:Str):Prop where
 cd:∃cd,PySem.W.clsIn K C=some cd/\cd.hasDict=true/\cd.mro.isEmpty=false/\cd.mro.contains (.type "object")=true/\cd.mro.contains (.type "BaseException")=true/\(∀self,refuseLoop self "__setattr__" cd.mro=pure .unit)
 sa:findIn K (.ref C) "__setattr__" = some (some (.builtin "object.__setattr__"))
 ga:findIn K (.ref C) "__getattribute__" = some (some (.builtin "BaseException.__getattribute__"))
 no:findIn K (.ref C) name=some none
section
variable{prog:Program}{w:World}{A:Around}{E:Value->Shared->Prop}{s:Shared}{K:Frag}{x C:Addr}{name:Str}{v:Value}
def XAt(h:Heap)(x C:Addr)(vs:Array Value)(dx:Option Addr):Prop:=h.get? x=some {cls:= .ref C,dict:=dx,data:= .fields vs}
theorem aiX(a:XAt h x C vs none):PySem.W.InstAt h x {cls:= .ref C,dict:=none,data:= .fields vs} C none:=⟨a,rfl,rfl,trivial⟩
theorem aiU{Q:Unit->Shared->Prop}(X:K.In s.heap)(F:NB K C name)(hx:XAt s.heap x C vs none)
  (h:∀h' dx,s.heap.objs.size=dx->XAt h' x C vs (some dx)->h'.Ns1 dx (λy=>if y=name then some v else none)->(∀b o,b≠x->s.heap.get? b=some o->h'.get? b=some o)->Q .unit {s with heap:=h',toks:=s.toks+2}):
  wpAny (model prog w) A (setAttr (.ref x) name v) Q E s:=by
 have I:=aiX hx
 obtain⟨cd,hc,hhd,hne,hob,_,hre⟩:=F.cd
 have SF:=PySem.F.store_object
 refine PySem.W.set_plain X I F.sa ?_
 have sub:PySem.W.Looks (model prog w) s.heap (isInstance (.ref x) (.type "object")) true:=I.type.andThen (PySem.W.looks_mroIn X (by unfold PySem.W.mroIn;rw[hc,Option.bind_some,if_neg (by rw[hne];decide),hob]))
 refine codeAny_call_builtin SF.slot.plain SF.entry (@PySem.W.check_slot (model prog w) _ _ {s with toks:=s.toks+1} "object.__setattr__" "object" "__setattr__" (.ref x) [.str name s.toks,v] [] _ SF.kind SF.split sub (SF.args (.ref x) (.str name s.toks) v) ?_)
 have hm:PySem.W.Looks (model prog w) s.heap (mroOf (.ref C)) cd.mro:=(PySem.W.looks_clsIn X hc).andThen .now
 have L3:PySem.W.Looks (model prog w) s.heap (Builtin.ObjectAttr.storeTaker? none) none:= .now
 rw[PySem.W.osa_eq,refuse_eq]
 refine zC (zC (PySem.W.Looks.here (s:={s with toks:=s.toks+1}) I.type (zC (PySem.W.Looks.here (s:={s with toks:=s.toks+1}) hm ?_))))
 rw[hre]
 refine zI (zC (PySem.W.Looks.here (s:={s with toks:=s.toks+1}) I.type (zC (PySem.W.Looks.here (s:={s with toks:=s.toks+1}) (PySem.W.looks_findIn X F.no) (zC (PySem.W.Looks.here (s:={s with toks:=s.toks+1}) L3 ?_))))))
 refine zC (zI (zC (zC (wpAny_loadPart (s:={s with toks:=s.toks+1}) hx (zC (PySem.W.Looks.here (s:={s with toks:=s.toks+1}) (PySem.W.looks_clsIn X hc) ?_))))))
 rw[hhd]
 rw[if_neg (by decide)]
 dsimp only
 rw[if_neg (by simp[typeHasDict])]
 have hxs:x≠s.heap.objs.size:=xD (zS hx)
 have hx₁:(s.heap.push {cls:= .type "dict",data:= .dict #[]}).get? x=some {cls:= .ref C,dict:=none,data:= .fields vs}:=zD _ hx
 refine zC (wpAny_alloc' (zC (wpAny_update' hx₁ (zI ?_))))
 have hgd:((s.heap.push {cls:= .type "dict",data:= .dict #[]}).update x λo=>{cls:=o.cls,dict:=some s.heap.objs.size,data:=o.data,slots:=o.slots}).get? s.heap.objs.size=some {cls:= .type "dict",data:= .dict #[]}:=
  (Heap.get?_update_ne _ _ _ _ hxs.symm).trans (Heap.get?_push_at rfl rfl)
 have hnd:((s.heap.push {cls:= .type "dict",data:= .dict #[]}).update x λo=>{cls:=o.cls,dict:=some s.heap.objs.size,data:=o.data,slots:=o.slots}).Ns s.heap.objs.size (λ_=>none):=
  ⟨_,#[],_,hgd,rfl,λe he=>absurd he (by simp),λ_=>rfl⟩
 show wpAny _ _ (Builtin.ObjectAttr.storeInDict s.heap.objs.size (.str name s.toks) name v) _ _ _
 unfold Builtin.ObjectAttr.storeInDict Builtin.ObjectAttr.newKeyGuard
 refine zC (zI (zC (wpAny_nsSet1 (Heap.Ns1.of_empty hnd) λh' hn' hs=> ?_)))
 obtain⟨oD,esD,epD,hoD,hdD,hcD⟩:=hn'.count (Within.cons name v Within.nil)
 refine zC (wpAny_lookBehind hoD (by rw[hdD];exact pastItsLine_dict (yY hcD (by rw[List.length_cons,List.length_nil,sizeLine_eq];omega))) ?_)
 wp_walk
 have hx':h'.get? x=some {cls:= .ref C,dict:=some s.heap.objs.size,data:= .fields vs}:=(hs.2 x hxs).trans (vF _ hx₁ rfl)
 refine h h' _ rfl hx' hn' λb ob hb e=> ?_
 exact(hs.2 b (xD (zS e))).trans ((Heap.get?_update_ne _ _ _ _ hb).trans (zD _ e))
end
end L2
namespace L2
open PySem
section
variable{prog:Program}{w:World}{A:Around}{E:Value->Shared->Prop}{h:Heap}{g:Array GenState}{d:Drawn}{t:Nat}{os:OsState}
variable{nm q:Str}{C N:Addr}{bs bm bmB:List Value}{hdct:Bool}{sn:List Str}{sub:List Value}{ab:Bool}{col:Option Bool}{dd:Option Addr}{k0 k1 k2 k3 k5:Option Value}{B newId initId:String}
structure Uj(B:String)(bm:List Value):Prop where
 has:bm.contains (.type B)=true
 noA:bm.contains (.type "AttributeError")=false
 noN:bm.contains (.type "NameError")=false
theorem Ri(F:ExcBaseFacts B newId initId bmB)(T:Uj B bm){rest:List Value}{Q:Unit->Shared->Prop}(hC:h.get? C=some (excClassObj nm q C N bs bm hdct sn sub ab col dd k0 k1 k2 k3 k5 newId))
  (hq:Q .unit ⟨h,g,d,t,os⟩):wpAny M A (checkBuiltinCall newId ⟨.ref C::rest,[]⟩) Q E ⟨h,g,d,t,os⟩:=by
 have hcont:(Value.ref C::bm).contains (.type B)=true:=by rw[List.contains_cons,T.has,Bool.or_true]
 have hstar:=F.noStar
 simp only[checkBuiltinCall,F.newKind,F.newSplit,F.newRow]
 repeat (first | refine wpAny_loadPart_at hC ?_ | (refine wpAny_isSubtype_exc hC ?_;rw[hcont]) | refine wpAny_staticBase_exc hC ?_ | refine wpAny_madeBy_exc hC ?_ | simp only[bne_self_eq_false,Bool.false_eq_true,if_false] | wp_step)
 exact hq
theorem aiW{R:Result->Shared->Prop}(F:ExcBaseFacts B newId initId bmB)(T:Uj B bm){rest:List Value}(hC:h.get? C=some (excClassObj nm q C N bs bm hdct sn sub ab col dd k0 k1 k2 k3 k5 newId))
  (hq:R (.ok (.ret (.ref (h.objs.size+1)))) ⟨(h.push {cls:= .type "tuple",data:= .seq rest.toArray}).push
   {cls:= .ref C,data:= .fields #[.ref h.objs.size,.none,.none,.none,.bool false,.none]},g,d,t,os⟩) (hrest:rest.length<=sizeLine):
  codeAny (model prog w) A (.builtin newId ⟨.ref C::rest,[]⟩) R ⟨h,g,d,t,os⟩:=by
 have hends:=F.ends
 have hcB:(Value.ref C::bm).contains (.type B)=true:=by rw[List.contains_cons,T.has,Bool.or_true]
 have hcA:(Value.ref C::bm).contains (.type "AttributeError")=false:=by rw[List.contains_cons,T.noA];rfl
 have hcN:(Value.ref C::bm).contains (.type "NameError")=false:=by rw[List.contains_cons,T.noN];rfl
 refine codeAny_builtinAt F.entry ?_
 unfold Builtin.«BaseException.__new__»
 refine wpAt_bind ?_
 show wpAt _ _ _ (stack >>= _) _ _ _
 refine wpAt_bind (wpAt_stack λp below=>wpAt_of_wpAny ?_)
 wp_walk
 refine wpAt_of_wpAny ?_
 rw[F.owner]
 repeat (first | with_reducible refine wpAny_madeHere_exc F.canon hC ?_ | with_reducible refine wpAny_loadPart_at hC ?_ | (with_reducible refine wpAny_isSubtype_exc hC ?_;first | rw[hcB] | rw[hcA] | rw[hcN]) | wp_step)
 show R _ _
 rw[Heap.size_push]
 exact hq
theorem Rf(F:ExcBaseFacts B newId initId bmB)(T:Uj B bm){rest:List Value}{Q:Fin->Shared->Prop}
  (hC:h.get? C=some (excClassObj nm q C N bs bm hdct sn sub ab col dd k0 k1 k2 k3 k5 newId)) (hi:PySem.W.Looks (model prog w) h (typeLookup (.ref C) "__init__") (some (.ref fI)))
  (hfI:h.get? fI=some oI) (hfc:oI.cls= .type "function")
  (hq:∀h' e,h.objs.size<=e->Heap.MadeExcOf h h' e (.ref C) rest->
   wpAny (model prog w) A (call (.ref fI) (.ref e::rest)) (λr s'=>r= .none/\Q (.done (.ret (.ref e))) s') E ⟨h',g,d,t,os⟩) (hrest:rest.length<=sizeLine):
  wpAny (model prog w) A (Builtin.«type.__call__» ⟨.ref C::rest,[]⟩) Q E ⟨h,g,d,t,os⟩:=by
 repeat (first | with_reducible refine wpAny_loadPart_at hC ?_ | with_reducible refine wpAny_madeBy_exc hC ?_ | wp_step)
 refine codeAny_call_builtin_code (Code.quiet_builtin _ F.quiet) (Ri F T hC ?_)
 refine aiW F T hC ?_ hrest
 show wpAny _ _ _ _ _ _
 have hC₁:=zD {cls:= .ref C,data:= .fields #[.ref h.objs.size,.none,.none,.none,.bool false,.none]}
  (zD {cls:= .type "tuple",data:= .seq rest.toArray} hC)
 have hfI₁:=zD {cls:= .ref C,data:= .fields #[.ref h.objs.size,.none,.none,.none,.bool false,.none]}
  (zD {cls:= .type "tuple",data:= .seq rest.toArray} hfI)
 have hget:((h.push {cls:= .type "tuple",data:= .seq rest.toArray}).push
   {cls:= .ref C,data:= .fields #[.ref h.objs.size,.none,.none,.none,.bool false,.none]}).get? (h.objs.size+1)=some
   {cls:= .ref C,data:= .fields #[.ref h.objs.size,.none,.none,.none,.bool false,.none]}:=by heap_get
 have hcC:(Value.ref C::bm).contains (.ref C)=true:=by simp
 unfold isInstance
 repeat (first | with_reducible refine wpAny_loadPart_at hget ?_ | (with_reducible refine wpAny_isSubtype_exc hC₁ ?_;rw[hcC]) | wp_step)
 show wpAny _ _ (typeLookup (.ref C) _) _ _ _
 refine hi _ _ _ _ (λb o hb=>zD _ (zD _ hb)) ?_
 refine wpAny_holding (zC ?_)
 unfold bindSpecial
 refine zC (wpAny_typeOf (T:= "function") ⟨_,hfI₁,hfc⟩ ?_)
 rw[if_pos (by decide)]
 refine zI (zC (vE (hq _ (h.objs.size+1) (Nat.le_succ _) ⟨λb o hb=>zD _ (zD _ hb),Heap.get?_none_of_le (Nat.le_succ _),h.objs.size,hget,Heap.get?_none_of_le (zaa _),?_⟩) (λr s' hr=> ?_) λ_ _ x=>x))
 ·exact zD _ (Heap.get?_push_at rfl rfl)
 ·obtain⟨rfl,hQ⟩:=hr
  wp_walk
  exact hQ
theorem x_call(F:ExcBaseFacts B newId initId bmB)(T:Uj B bm){rest:List Value}{Q:Value->Shared->Prop}
  (hC:h.get? C=some (excClassObj nm q C N bs bm hdct sn sub ab col dd k0 k1 k2 k3 k5 newId)) (hi:PySem.W.Looks (model prog w) h (typeLookup (.ref C) "__init__") (some (.ref fI)))
  (hfI:h.get? fI=some oI) (hfc:oI.cls= .type "function")
  (hq:∀h' e,h.objs.size<=e->Heap.MadeExcOf h h' e (.ref C) rest->
   wpAny (model prog w) (A.under (.builtin "type.__call__" ⟨.ref C::rest,[]⟩)) (call (.ref fI) (.ref e::rest)) (λr s'=>r= .none/\Q (.ref e) s') E ⟨h',g,d,t,os⟩) (hrest:rest.length<=sizeLine):
  wpAny (model prog w) A (call (.ref C) rest) Q E ⟨h,g,d,t,os⟩:=by
 have f1:=tc_lookup
 have f2:=tc_bind (.ref C)
 have hT:(⟨h,g,d,t,os⟩:Shared).TypeIs (.ref C) "type" := ⟨_,hC,rfl⟩
 refine wpAny_call (codeAny_of_tree ?_)
 show wpAny _ _ (callAny (.ref C) _) _ _ _
 repeat (any_goals (first | assumption | with_reducible refine wpAny_loadPart_at hC ?_ | wp_step))
 refine⟨rfl,?_⟩
 refine codeAny_call_builtin_at (Code.quiet_builtin _ (by decide +kernel)) entry_typeCall (wpAny_check_type_call_sub hC (Rf (hrest:=hrest) F T hC hi hfI hfc λh' e hs hm=> ?_))
 exact hq h' e hs hm
end
structure Exc(h:Heap)(e C:Addr)(dx T:Option Addr)(fl:Value):Prop where
 at_:∃vs,h.get? e=some {cls:= .ref C,dict:=dx,data:= .fields vs}/\(match T with
  | none=>vs[1]? = some .none
  | some T=>vs[1]? = some (.ref T)/\T≠e/\∃oT ts,h.get? T=some oT/\oT.data= .fields ts/\ts[3]? = some fl)
def oO(fs:List Addr)(e:Addr)(T:Option Addr)(h h':Heap):Prop:=
 (h.objs.size<=h'.objs.size/\∀b o,h.get? b=some o->∃o',h'.get? b=some o')/\(∀b o,b≠e->some b≠T->b∉fs->h.get? b=some o->h'.get? b=some o)/\(∀b o,b≠e->some b≠T->h.get? b=some o->∃sl,h'.get? b=some {o with slots:=sl})
theorem oO.refl:oO fs e T h h:=⟨⟨zaa _,λb o q=>⟨o,q⟩⟩,λ_ _ _ _ _ x=>x,λ_ o _ _ x=>⟨o.slots,x⟩⟩
theorem oO.trans(x:oO fs e T h h1)(y:oO fs e T' h1 h2)(hT:T'=T\/∃t,T'=some t/\h.objs.size<=t):oO fs e T h h2:=by
 have ne:∀b o,some b≠T->h.get? b=some o->some b≠T':=λb o n q z=>by
  rcases hT with r | ⟨t,r,q2⟩
  ·exact n (z.trans r)
  ·rw[r]at z;cases z
   exact absurd (yA (zS q) q2) (wS _)
 refine⟨⟨yY x.1.1 y.1.1,λb o q=>let⟨o1,q1⟩:=x.1.2 b o q;y.1.2 b o1 q1⟩,λb o n1 n2 n3 q=>y.2.1 b o n1 (ne b o n2 q) n3 (x.2.1 b o n1 n2 n3 q),λb o n1 n2 q=> ?_⟩
 obtain⟨sl,e1⟩:=x.2.2 b o n1 n2 q
 obtain⟨sl2,e2⟩:=y.2.2 b _ n1 (ne b o n2 q) e1
 exact⟨sl2,e2⟩
section
variable{M:Model}{A:Around}{E:Value->Shared->Prop}{s:Shared}
theorem V9{Q:Unit->Shared->Prop}
  (hfr:A.frames=some (env::outer)) (hl:s.heap.FunFrames base (env::outer)) (hf:env.frame=some L)
  (he:s.heap.get? e=some {cls:= .ref C,dict:=dx,data:= .fields vs}) (hsz:1<vs.size)
  (h:∀h' T,s.heap.objs.size<=T->oO ((env::outer).filterMap (·.frame)) e (some T) s.heap h'->Exc h' e C dx (some T) (rawInt L)->Q .unit {s with heap:=h'}):
  wpAny M A (do let a <-frameOf env;let pl <-entryPlaceOf L hadNext;let b <-EntryCells.newEntry head a .none (rawInt L) .none pl;setField (.ref e) 1 b) Q E s:=by
 have hene:e∉(env::outer).filterMap (·.frame):=λhm=>by
  obtain⟨_,o,ho,hnf⟩:=hl.mem hm
  rw[he]at ho;injection ho with ho;subst ho;exact hnf vs rfl
 refine zC (wpAny_frameOf_fun hfr hl hf λh₁ hs₁=> ?_)
 refine zC (wpAny_entryPlaceOf λpl hpl=> ?_)
 unfold EntryCells.newEntry newFields
 refine zC (wT ?_ (hpl.sizeOk5 _ _ _ _ _))
 have he₁:h₁.get? e=some {cls:= .ref C,dict:=dx,data:= .fields vs}:=(hs₁.2.1 e hene).trans he
 have he₂:=zD (h:=h₁) {cls:= .type "traceback",dict:=none,data:= .fields ([head,.ref L,.none,rawInt L,.none]++(if pl.isEmpty then List.replicate 6 Value.none else pl)).toArray} he₁
 refine wpAny_setField he₂ rfl hsz (h _ h₁.objs.size (by rw[hs₁.1];exact zaa _) ?_ ?_)
 ·refine⟨⟨?_,λb o q=> ?_⟩,λb o n1 n2 n3 q=> ?_,λb o n1 n2 q=> ?_⟩
  ·rw[Heap.size_after_update,Heap.size_push,hs₁.1];omega
  ·by_cases n1:b=e
   ·subst n1
    exact⟨_,vF _ he₂ (Obj.isFreed_of_fields (Obj.data_mapFields rfl _))⟩
   ·obtain⟨sl,q1⟩:=hs₁.2.2 b o q
    exact⟨_,(xL _ _ (Ne.symm n1)).trans (zD _ q1)⟩
  ·rw[xL _ _ (Ne.symm n1)]
   exact zD _ ((hs₁.2.1 b n3).trans q)
  ·obtain⟨sl,q1⟩:=hs₁.2.2 b o q
   refine⟨sl,?_⟩
   rw[xL _ _ (Ne.symm n1)]
   exact zD _ q1
 ·have hTe:h₁.objs.size≠e:=xS (zS he₁)
  have hd₃:=Obj.data_mapFields (o:={cls:= .ref C,dict:=dx,data:= .fields vs}) rfl (·.setIfInBounds 1 (Value.ref h₁.objs.size))
  have he₃:=vF (Obj.mapFields (·.setIfInBounds 1 (Value.ref h₁.objs.size))) he₂ (Obj.isFreed_of_fields hd₃)
  have hT₃:=(xL (h₁.push {cls:= .type "traceback",dict:=none,data:= .fields ([head,.ref L,.none,rawInt L,.none]++(if pl.isEmpty then List.replicate 6 Value.none else pl)).toArray})
   (Obj.mapFields (·.setIfInBounds 1 (Value.ref h₁.objs.size))) (Ne.symm hTe)).trans (yB h₁ rfl)
  refine⟨⟨_,he₃,by simp[hsz],hTe,_,_,hT₃,rfl,by first | (simp;done) | (rcases hpl with rfl | ⟨_,_,_,_,_,_,_,rfl⟩<;>simp)⟩⟩
theorem oO.upd(ho:h.get? T=some oT)(hfr:(f oT).isFreed=false):oO fs e (some T) h (h.update T f):=by
 have k:∀b o,some b≠some T->h.get? b=some o->(h.update T f).get? b=some o:=λb o n q=>by
  rw[xL _ _ (λz=>n (by rw[z]))];exact q
 refine⟨⟨by rw[Heap.size_after_update];exact zaa _,λb o q=> ?_⟩,λb o _ n2 _ q=>k b o n2 q,λb o _ n2 q=>⟨o.slots,k b o n2 q⟩⟩
 by_cases z:b=T
 ·subst z;exact⟨_,vF _ ho hfr⟩
 ·exact⟨o,k b o (λy=>z (xI y)) q⟩
theorem zP{Q:Unit->Shared->Prop}(x:Exc s.heap e C dx T fl)
  (h:∀h',oO [] e T s.heap h'->Exc h' e C dx T (fr.elim .none λf=>rawInt f)->Q .unit {s with heap:=h'}):wpAny M A (setFlight (.ref e) fr) Q E s:=by
 obtain⟨vs,he,hT⟩:=x.at_
 unfold setFlight
 cases T with
 | none=>
  refine zC (vS he rfl hT ?_)
  rw[if_neg (by decide)]
  exact zI (h s.heap .refl ⟨vs,he,hT⟩)
 | some T=>
  obtain⟨h1,hne,oT,ts,hoT,hd,h3⟩:=hT
  refine zC (vS he rfl h1 ?_)
  rw[if_pos (show(Value.ref T != Value.none)=true from by simp)]
  have hsz3:3<ts.size:=(Array.getElem?_eq_some_iff.mp h3).1
  refine wpAny_setField hoT hd hsz3 (h _ (.upd hoT (Obj.isFreed_of_fields (Obj.data_mapFields hd _))) ⟨vs,?_,h1,hne,_,_,vF _ hoT (Obj.isFreed_of_fields (Obj.data_mapFields hd _)),Obj.data_mapFields hd _,by simp[hsz3]⟩)
  rw[xL _ _ hne];exact he
theorem Us{Q:Unit->Shared->Prop}
  (hfr:A.frames=some (env::outer)) (hl:s.heap.FunFrames base (env::outer)) (hf:env.frame=some L) (x:Exc s.heap e C dx T fl) (hfl:fl=fl\/fl=rawInt L)
  (h:∀h' T',(T=some T'\/s.heap.objs.size<=T')->oO ((env::outer).filterMap (·.frame)) e T s.heap h'->Exc h' e C dx (some T') (rawInt L)->Q .unit {s with heap:=h'}):wpAny M A (noteFrame (.ref e) env) Q E s:=by
 obtain⟨vs,he,hT⟩:=x.at_
 unfold noteFrame
 simp only[hf]
 cases T with
 | none=>
  refine zC (vS he rfl hT ?_)
  rw[if_neg (by decide)]
  refine V9 hfr hl hf he (Array.getElem?_eq_some_iff.mp hT).1 λh' T hs k x'=>h h' T (.inr hs) ?_ x'
  exact⟨k.1,λb o n1 _ n3 q=>k.2.1 b o n1 (λz=>by cases z;exact absurd (yA (zS q) hs) (wS _)) n3 q,λb o n1 _ q=>k.2.2 b o n1 (λz=>by cases z;exact absurd (yA (zS q) hs) (wS _)) q⟩
 | some T=>
  obtain⟨h1,hne,oT,ts,hoT,hd,h3⟩:=hT
  refine zC (vS he rfl h1 ?_)
  rw[if_pos (show(Value.ref T != Value.none)=true from by simp)]
  refine zC (vS hoT hd h3 ?_)
  by_cases hq:fl=rawInt L
  ·subst hq
   rw[if_pos (show(rawInt L==rawInt L)=true from by simp)]
   exact zI (h s.heap T (.inl rfl) .refl x)
  ·rw[if_neg (show ¬((fl==rawInt L)=true)from by simpa using hq)]
   have hsz3:3<ts.size:=(Array.getElem?_eq_some_iff.mp h3).1
   refine zC (wpAny_setField hoT hd hsz3 ?_)
   have other:∀b,b≠T->(s.heap.update T (Obj.mapFields (·.setIfInBounds 3 Value.none))).get? b=s.heap.get? b:=λb hb=>xL _ _ (Ne.symm hb)
   have noRecord:∀b o,s.heap.get? b=some o->(∀vs,o.data≠ .fields vs)->b≠T:=λb o hb hnf q=>by
    rw[q,hoT]at hb;injection hb with hb;subst hb;exact hnf ts hd
   refine V9 hfr (hl.of_keeps λb o hb hnf=>⟨o,(other b (noRecord b o hb hnf)).trans hb,rfl⟩) hf ((other e (Ne.symm hne)).trans he) (Array.getElem?_eq_some_iff.mp h1).1 λh' T' hs k x'=> ?_
   rw[Heap.size_after_update]at hs
   exact h h' T' (.inr hs) ((oO.upd hoT (Obj.isFreed_of_fields (Obj.data_mapFields hd _))).trans k (.inr ⟨T',rfl,hs⟩)) x'
theorem acZ{Q:Unit->Shared->Prop}
  (hfr:A.frames=some (env::outer)) (hl:s.heap.FunFrames base (env::outer)) (hf:env.frame=some L) (x:Exc s.heap e C dx T fl) (hfl:fl=fl\/fl=rawInt L)
  (h:∀h' T',(T=some T'\/s.heap.objs.size<=T')->oO ((env::outer).filterMap (·.frame)) e T s.heap h'->Exc h' e C dx (some T') .none->Q .unit {s with heap:=h'}):wpAny M A (leaving env (.ref e)) Q E s:=by
 unfold leaving
 refine zC (Us hfr hl hf x hfl λh' T' hT k x'=> ?_)
 refine zP (fr:=none) (s:={s with heap:=h'}) x' λh2 k2 x2=>h h2 T' hT (k.trans (T':=some T') ⟨k2.1,λb o n1 n2 _ q=>k2.2.1 b o n1 n2 (by simp) q,k2.2.2⟩ ?_) x2
 rcases hT with r | r
 ·exact .inl r.symm
 ·exact .inr ⟨T',rfl,r⟩
end
end L2
namespace L2
open PySem PySem.Spec PyProof.Rows
abbrev xO(a C:Addr)(dx:Option Addr):HO:= .ext λh=>Exc h a C dx none .none
theorem afe(x:Exc h a C dx none .none):fC P w H h a (xO a C dx):=by
 refine⟨x,?_,λh1 h2 y k=> ?_⟩
 ·obtain⟨vs,e,_⟩:=x.at_;exact⟨_,e⟩
 ·obtain⟨vs,e,q⟩:=y.at_;exact⟨vs,k _ e,q⟩
theorem afg(x:fC P w H h a (xO a C dx)):Exc h a C dx none .none:=x.1
section
variable{X:Cx}{pins:List (Addr×Obj)}{σ:St}{H:Hp}{s:Shared}{a C:Addr}{f:Str}{A:Around}{E:Value->Shared->Prop}
theorem Rb{Q:Unit->Shared->Prop}(I:Inv X pins σ H s)(e:H a=some (xO a C none))(F:NB X.K C f)(ry:RelV y u)
  (h:∀dx s',H dx=none->dx≠a->Inv X pins σ (upd (upd H dx (.xd [(f,y)])) a (xO a C (some dx))) s'->Q .unit s'):wpAny (model X.prog X.w) A (setAttr (.ref a) f u) Q E s:=by
 obtain⟨vs,hx,h1⟩:=(afg (I.hok a _ e)).at_
 refine aiU I.Jb F hx λh' dx ed hx' hn kp=> ?_
 subst ed
 have hd0:H s.heap.objs.size=none:=I.hok.fresh (zaa _)
 have nea:s.heap.objs.size≠a:=xS (I.hok.lt e)
 refine h _ _ hd0 nea (I.un ⟨λb o q n _ _=>kp b o (λz=>by subst z;rw[e]at n;cases n) q,λb o q n _ _=>⟨o.slots,kp b o (λz=>by subst z;rw[e]at n;cases n) q⟩,λb o q n _=> ?_,λb o q _=> ?_,λb xs q=> ?_,λb o xs q=> ?_,λb ps q=>⟨#[],?_⟩⟩ λb o q=> ?_)
 ·have n1:b≠a:=λz=>by subst z;rw[e]at n;cases n
  rw[aL n1,aL (xD (zS q))];exact n
 ·by_cases z:b=a
  ·subst z;exact⟨_,hx'⟩
  ·exact⟨o,kp b o z q⟩
 ·have n1:b≠a:=λz=>by subst z;rw[e]at q;cases q
  have n2:b≠s.heap.objs.size:=λz=>by subst z;rw[hd0]at q;cases q
  rw[aL n1,aL n2];exact q
 ·have n1:b≠a:=λz=>by subst z;rw[e]at q;cases q
  have n2:b≠s.heap.objs.size:=λz=>by subst z;rw[hd0]at q;cases q
  rw[aL n1,aL n2];exact q
 ·have n1:b≠a:=λz=>by subst z;rw[e]at q;cases q
  have n2:b≠s.heap.objs.size:=λz=>by subst z;rw[hd0]at q;cases q
  rw[aL n1,aL n2,q];simp
 ·by_cases z:b=a
  ·subst z
   rw[bA]at q;cases q
   exact afe ⟨vs,hx',h1⟩
  ·rw[aL z]at q
   by_cases z2:b=s.heap.objs.size
   ·subst z2
    rw[bA]at q;cases q
    refine⟨_,hn,λg=> ?_⟩
    by_cases zg:g=f
    ·subst zg;simp[List.lookup];exact ry
    ·have:(g==f)=false:=by simpa using zg
     simp[List.lookup,this,zg];exact jS
   ·rw[aL z2]at q
    refine(I.hok b o q).stay (λb' u' hb q'=> ?_) (λb' q'=> ?_) λb' xs q'=> ?_
    ·refine kp b' u' (λz'=> ?_) q'
     rcases hb with r | r
     ·exact z (r▸z')
     ·rw[z',e]at r;cases r
    ·have n1:b'≠a:=λz=>by subst z;rw[e]at q';cases q'
     have n2:b'≠s.heap.objs.size:=λz=>by subst z;rw[hd0]at q';cases q'
     rw[aL n1,aL n2];exact q'
    ·have n1:b'≠a:=λz=>by subst z;rw[e]at q';cases q'
     have n2:b'≠s.heap.objs.size:=λz=>by subst z;rw[hd0]at q';cases q'
     rw[aL n1,aL n2];exact q'
end
section
variable{X:Cx}{o value:Expr}{ta tv:TE}{f:Str}{pos pos':Pos}
def afs(K:Frag)(ta tv:TE)(f:Str):TS:=λD σ H=>tv σ H λy H1=>ta σ H1 λx H2=>∃a C,x= .ref a/\H2 a=some (xO a C none)/\NB K C f/\
 ∀dx,H2 dx=none->dx≠a->D.nx σ (upd (upd H2 dx (.xd [(f,y)])) a (xO a C (some dx)))
theorem adL(ha:PE X o ta)(hv:PE X value tv)(hs:swapsWith value (some (.Attribute o f pos')) pos.line X.env=pure false):PS X (.Assign [.Attribute o f pos'] value pos) (afs X.K ta tv f):=by
 intro pins s σ H D I h
 refine plainObj_wpAny_Assign_Attribute (fU (hv pins s σ H _ I h) ?_) hs
 rintro u s1 ⟨y,H1,I1,ry,q⟩
 refine fU (ha pins s1 σ H1 _ I1 q) ?_
 rintro ov s2 ⟨x,H2,I2,rx,a,C,ex,ea,F,q2⟩
 subst ex
 obtain rfl:ov=Value.ref a:=rx
 exact Rb I2 ea F ry λdx s3 hd ne I3=>⟨σ,_,I3,q2 dx hd ne⟩
end
def BZ(K:Frag)(f:Str):Sp:=λvs H Q _=>∃a C y,vs=[.ref a,y]/\H a=some (xO a C none)/\NB K C f/\∀dx,H dx=none->dx≠a->Q .non (upd (upd H dx (.xd [(f,y)])) a (xO a C (some dx)))
section
variable{P:Program}{w:World}{K:Frag}{mg:Str->Option Value}{base:Heap}
theorem acd{x qual g:Str}{st:Stmt}{dV:Value}{f:Addr}{fd:FuncData}{N ps:List Str}{k:Nat}(F:zE K x qual st dV f fd)(S:sy N ps (bu st))(hps:ps.length=2)
  (hbody:∀(cdv:Value) (A:Around) (outer:List Env) (s:Shared) (H:Hp) (E:XK),Ke (yJ Zz P w K mg base N qual (bu st) f cdv A outer s H E).nox (dM st) (afs K (ada 0) (ada 1) g)):
  ie P w K mg base Zz (k+1) f fd ps (BZ K g):=by
 refine F.ok S (λvs H Q E ⟨a,C,y,e,_⟩=>by rw[e,hps];rfl) λcdv A outer s H vs Q E hr ⟨a,C,y,e,hH,hF,q⟩=> ?_
 subst e
 refine⟨_,hbody cdv A outer s H E,y,rfl,.ref a,rfl,a,C,rfl,hH,hF,λdx hd ne=> .inl (q dx hd ne)⟩
end
structure XMk(K:Frag)(C f:Addr):Prop where
 obj:∃(nm q:Str) (N:Addr) (bs bm:List Value) (hdct:Bool) (sn:List Str) (sub:List Value) (ab:Bool) (col:Option Bool) (dd:Option Addr) (k0 k1 k2 k3 k5:Option Value),
  K.lookup C=some (excClassObj nm q C N bs bm hdct sn sub ab col dd k0 k1 k2 k3 k5 "ValueError.__new__")/\Uj "ValueError" bm/\bm.contains (.type "BaseException")=true
 init:findIn K (.ref C) "__init__" = some (some (.ref f))
 fn:isFn K (.ref f)=true
 kp:keepIn K (.ref C)=true
section
variable{X:Cx}{k:Nat}{f C:Addr}{fd:FuncData}{ps:List Str}{g:Str}
theorem Inv.aiV(I:Inv X pins σ H s)(hs:s.heap.objs.size<=e)(m:Heap.MadeExcOf s.heap h' e (.ref C) us):
  Inv X pins σ (upd H e (xO e C none)) {s with heap:=h'}:=by
 obtain⟨t,he,_,_⟩:=m.there
 exact I.laid (t':=s.toks) (λb u q=>m.keeps b u q) hs (afe ⟨_,he,rfl⟩)
theorem Ym(M:XMk X.K C f)(hX:NB X.K C g)(F:ie X.prog X.w X.K X.mg X.base Zz k f fd ps (BZ X.K g))(hr:iM (k+1) X.A)(hb:Binds X.K fd ps [])
  (I:Inv X pins σ H s) (r:RelV y u)
  (h:∀x dx,H x=none->H dx=none->dx≠x->s.heap.objs.size<=x->Q (.ref x) (upd (upd (upd H x (xO x C none)) dx (.xd [(g,y)])) x (xO x C (some dx)))):
  wpAny (model X.prog X.w) X.A (call (.ref C) [u]) (EP X pins σ Q) X.xe s:=by
 obtain⟨nm,q,N,bs,bm,hdct,sn,sub,ab,col,dd,k0,k1,k2,k3,k5,hC,hT,hB⟩:=M.obj
 have hfn:=beq_iff_eq.mp M.fn
 have lk:∃oI,X.K.lookup f=some oI/\oI.cls= .type "function" := by
  obtain⟨o,ho,hc⟩:=Option.map_eq_some_iff.mp hfn
  exact⟨o,ho,hc⟩
 obtain⟨oI,hoI,hcI⟩:=lk
 obtain⟨hp,gg,d,t,os⟩:=s
 refine x_call PySem.F.excBase_ValueError hT (I.Jb _ _ hC) (PySem.W.looks_findIn I.Jb M.init) (I.Jb _ _ hoI) hcI (λh' e hs m=> ?_) (by show 1<=sizeLine;decide)
 have I2:=I.aiV hs m
 have r2:Vals [V.ref e,y] [Value.ref e,u]:= .cons rfl (.cons r .nil)
 have n0:H e=none:=I.hok.fresh hs
 have hq:BZ X.K g [V.ref e,y] (upd H e (xO e C none)) (λv H2=>v= .non/\Q (.ref e) H2) E0:=by
  refine⟨e,C,y,rfl,bA,hX,λdx hd ne=>⟨rfl,h e dx n0 ?_ ne hs⟩⟩
  rw[aL ne]at hd;exact hd
 have hl:([Value.ref e,u]++[]).length=ps.length:=by rw[List.append_nil,<-r2.length];exact F.len _ _ _ _ hq
 refine wpAny_call (codeAny_mono (F.run _ X.stack _ _ ⟨[Value.ref e,u],[]⟩ [Value.ref e,u] _ _ E0 (hr.make C [u] []) (I2.env0.make C [u] []) (by simpa using hb _ [Value.ref e,u] I2.Jb hl) r2 hq) λr s' hq'=> ?_)
 cases r with
 | error e=>exact hq'.elim
 | ok fl=>
  cases fl with
  | ret u=>
   obtain⟨v,H',I3,rv,ev,q3⟩:=I2.after hq'
   subst ev
   exact⟨rv,⟨V.ref e,H',I3,rfl,q3⟩⟩
  | next=>exact False.elim hq'
  | brk=>exact False.elim hq'
  | cont=>exact False.elim hq'
end
def drop(H:Hp)(a:Addr):Hp:=λb=>if b=a then none else H b
theorem Xz(h:b≠a):drop H a b=H b:=by unfold drop;rw[if_neg h]
theorem Oz:drop H a a=none:=by unfold drop;rw[if_pos rfl]
section
variable{X:Cx}{pins:List (Addr×Obj)}{σ:St}{H:Hp}{s:Shared}{a:Addr}{φ:Heap->Prop}
theorem Inv.ak7(I:Inv X pins σ H s)(e:H a=some (.ext φ)):Inv X pins σ (drop H a) s:=by
 have nn:∀b,H b=none->drop H a b=none:=λb q=>by unfold drop;split<;>first | rfl | exact q
 have kk:∀b u,H b=some u->(∀ψ,u≠ .ext ψ)->drop H a b=some u:=λb u q n=>by
  have:b≠a:=λz=>by subst z;rw[e]at q;cases q;exact n _ rfl
  rw[Xz this];exact q
 refine⟨I.ok,I.os,I.bare,⟨I.base.keep,I.base.slot,λb o q n x=>nn b (I.base.free b o q n x),I.base.there,λb xs q=>kk b _ (I.base.tups b xs q) (by simp),λb o u q=>kk b _ (I.base.zy b o u q) (by simp),λb ps q=> ?_⟩,I.loc,I.cell,nn _ I.free,λx c q=>nn _ (I.lO x c q),λp hp=> ?_,λb o q=> ?_,I.len⟩
 ·obtain⟨m,z⟩:=I.base.Cv b ps q;exact⟨m,kk b _ z (by simp)⟩
 ·obtain⟨z1,z2,z3⟩:=I.pin p hp;exact⟨z1,nn _ z2,z3⟩
 ·have nb:b≠a:=λz=>by subst z;rw[Oz]at q;cases q
  rw[Xz nb]at q
  exact(I.hok b o q).stay (λ_ _ _ z=>z) (λb' z=>kk b' _ z (by simp)) λb' xs z=>kk b' _ z (by simp)
end
def EY(P:Program)(w:World):V6:=λouter H s E ev s'=>∃e C dx T H',ev=Value.ref e/\s'.os=s.os/\AllBare s'.gens/\Un (frs outer) [] H H' s.heap s'.heap/\uU P w H' s'.heap/\Exc s'.heap e C (some dx) (some T) .none/\
 s.heap.objs.size<=e/\s.heap.objs.size<=T/\H' e=none/\H' T=none/\E (.ref C) (some dx) H'
abbrev bC:=Addr->Addr->St->Hp->Prop
structure BP(X:Cx)(pins:List (Addr×Obj))(H:Hp)(a:Addr):Prop where
 no:H a=none
 new:X.s₀.heap.objs.size<=a
 pin:∀p∈X.pn++pins,p.1≠a
def iQ(X:Cx)(W:bC):Value->Shared->Prop:=λev s=>∃e C dx T fl pins σ H,ev=Value.ref e/\Inv X pins σ H s/\Exc s.heap e C (some dx) T fl/\(fl=fl\/fl=rawInt X.env.locals)/\BP X pins H e/\(∀t,T=some t->BP X pins H t)/\W C dx σ H
section
variable{X:Cx}{pins:List (Addr×Obj)}{σ:St}{H:Hp}{s:Shared}
theorem iQ.W4(I:Inv X pins σ H s)(h:EY X.prog X.w X.stack H s E ev s')(hE:∀C dx H',E (.ref C) (some dx) H'->W C dx σ H'):iQ X W ev s':=by
 obtain⟨e,C,dx,T,H',rfl,os,bare,un,hok,x,ne,nT,fe,fT,hq⟩:=h
 have old:∀a,s.heap.objs.size<=a->∀p∈X.pn++pins,p.1≠a:=λa ha p hp z=>by
  have:=zS (I.pin p hp).1
  rw[z]at this
  exact absurd (yA this ha) (wS _)
 exact⟨e,C,dx,some T,.none,pins,σ,H',rfl,I.call' os un hok bare (λb z=>absurd z (by simp)),x,.inl rfl,⟨fe,yY I.sz ne,old e ne⟩,λt z=>by cases z;exact⟨fT,yY I.sz nT,old T nT⟩,hE C dx H' hq⟩
theorem Ov(ok:uU P w H h)(k:oO fs e T h h')(he:H e=none)(hT:∀t,T=some t->H t=none)(hf:∀b∈fs,H b=none):uU P w H h':=by
 have kp:∀b u o,H b=some o->h.get? b=some u->h'.get? b=some u:=λb u o q z=>
  k.2.1 b u (λy=>by subst y;rw[he]at q;cases q) (λy=>by rw[hT b y.symm]at q;cases q) (λy=>by rw[hf b y]at q;cases q) z
 intro b o q
 refine(ok b o q).stay (λb' u hb z=> ?_) (λ_ z=>z) λ_ _ z=>z
 rcases hb with rfl | hb
 ·exact kp _ u o q z
 ·exact kp _ u _ hb z
end
theorem iQ.leave{P:Program}{w:World}{K:Frag}{mg:Str->Option Value}{base:Heap}{N:List Str}{qual:Str}{scope:Scope}{f:Addr}{cd:Value}{A:Around}{outer:List Env}{s:Shared}{H:Hp}{E:XK}{W:bC}{ev:Value}{s':Shared}
  (h:iQ (yJ (EY P w) P w K mg base N qual scope f cd A outer s H E) W ev s') (hE:∀C dx σ H',W C dx σ H'->E (.ref C) (some dx) H'):
  (yJ (EY P w) P w K mg base N qual scope f cd A outer s H E).xe ev s':=by
 obtain⟨e,C,dx,T,fl,pins,σ,H',rfl,I,x,hfl,fe,fT,hW⟩:=h
 show wpAny _ _ (leaving _ (.ref e)) _ _ s'
 refine acZ I.ok.frames I.stack rfl x hfl λh2 T' hT k x'=> ?_
 have hTn:∀t,T=some t->H' t=none:=λt z=>(fT t z).no
 have nT:s.heap.objs.size<=T':=by
  rcases hT with r | r
  ·exact(fT T' r).new
  ·exact yY I.sz r
 have fT':H' T'=none:=by
  rcases hT with r | r
  ·exact hTn T' r
  ·exact I.hok.fresh r
 have ok2:=Ov I.hok k fe.no hTn I.JR
 have ne:∀b o,s.heap.get? b=some o->b≠e/\some b≠T:=λb o q=>⟨λz=>absurd (yA (zS q) (z▸fe.new)) (wS _),λz=>absurd (yA (zS q) (fT b z.symm).new) (wS _)⟩
 have nL:∀b o,s.heap.get? b=some o->b≠s.heap.objs.size:=λb o q=>xD (zS q)
 refine⟨e,C,dx,T',H',rfl,I.os,I.bare,⟨λb o q n hb _=> ?_,λb o q n hb _=> ?_,λb o q n _=>I.base.free b o q n (by simp[yJ]),λb o q _=> ?_,I.base.tups,I.base.zy,I.base.Cv⟩,ok2,x',fe.new,nT,fe.no,fT',hE C dx σ H' hW⟩
 ·obtain⟨n1,n2⟩:=ne b o q
  refine k.2.1 b o n1 n2 (λz=> ?_) (I.base.keep b o q n hb (by simp[yJ]))
  rcases List.mem_cons.mp (I.Pj b z)with y | y
  ·exact nL b o q y
  ·exact hb y
 ·obtain⟨n1,n2⟩:=ne b o q
  obtain⟨sl,q1⟩:=I.base.slot b o q n hb (by simp[yJ])
  obtain⟨sl2,q2⟩:=k.2.2 b _ n1 n2 q1
  exact⟨sl2,q2⟩
 ·obtain⟨n1,n2⟩:=ne b o q
  obtain⟨o1,q1⟩:=I.base.there b o q (by simp[yJ])
  obtain⟨sl2,q2⟩:=k.2.2 b _ n1 n2 q1
  exact⟨_,q2⟩
end L2
namespace L2
section
open PySem
variable{M:Model}{A:Around}{E:Value->Shared->Prop}{env:Env}
variable{nm q:Str}{C N:Addr}{bs bm:List Value}{hdct:Bool}{sn:List Str}{sub:List Value}{ab:Bool}{col:Option Bool}{dd:Option Addr}{k0 k1 k2 k3 k5:Option Value}{newId:String}
theorem Rh{Q:Flow->Shared->Prop}(hbase:bm.contains (.type "BaseException")=true)(hh:A.handled=none)
  (h:wpAny M A x (λv s₁=>∃e dx vs,v= .ref e/\s₁.heap.get? C=some (excClassObj nm q C N bs bm hdct sn sub ab col dd k0 k1 k2 k3 k5 newId)/\
   s₁.heap.get? e=some {cls:= .ref C,dict:=dx,data:= .fields vs}/\vs[1]? = some .none/\E (.ref e) s₁) E s):
  wpAny M A (raiseStmt env (some x) none) Q E s:=by
 have hcB:(Value.ref C::bm).contains (.type "BaseException")=true:=by rw[List.contains_cons,hbase,Bool.or_true]
 unfold raiseStmt
 refine zC (vE h (λv s₁ h₁=> ?_) λ_ _ x=>x)
 obtain⟨e,dx,vs,rfl,hC,he,h1,hE⟩:=h₁
 obtain⟨hp,g,d,tk,os⟩:=s₁
 have hfl:∀{Q:Unit->Shared->Prop},Q .unit ⟨hp,g,d,tk,os⟩->wpAny M A (setFlight (.ref e) none) Q E ⟨hp,g,d,tk,os⟩:=λhQ=>by
  unfold setFlight
  refine zC (vS he rfl h1 ?_)
  rw[if_neg (by decide)]
  exact zI hQ
 repeat (first | with_reducible refine wpAny_loadPart_at he ?_ | with_reducible refine wpAny_loadPart_at hC ?_ | (with_reducible refine wpAny_isSubtype_exc hC ?_;rw[hcB]) | with_reducible refine hfl ?_ | wp_step)
 exact wpAny_raiseNew_none hh hE
end
section
open PySem PySem.Spec PyProof.Rows
variable{X:Cx}{k:Nat}{f C:Addr}{fd:FuncData}{ps:List Str}{g:Str}{x:Str}{np cpos pos:Pos}{arg:Expr}{ta:TA}{W:bC}
theorem Zb{H:Hp}{x dx:Addr}{o1 o2 o3:HO}(hx:H x=none)(ne:dx≠x):drop (upd (upd (upd H x o1) dx o2) x o3) x=upd H dx o2:=by
 funext b
 unfold drop upd
 by_cases z:b=x
 ·subst z;rw[if_pos rfl,if_neg (Ne.symm ne),hx]
 ·rw[if_neg z,if_neg z]
  by_cases z2:b=dx
  ·rw[if_pos z2,if_pos z2]
  ·rw[if_neg z2,if_neg z2,if_neg z]
def agl(C:Addr)(g:Str)(W:bC)(ta:TA):TS:=λ_ σ H=>ta σ H λvs H1=>∃y,vs=[y]/\∀dx,H1 dx=none->W C dx σ (upd H1 dx (.xd [(g,y)]))
theorem aaT(M:XMk X.K C f)(hX:NB X.K C g)(F:ie X.prog X.w X.K X.mg X.base Zz k f fd ps (BZ X.K g))(hr:iM (k+1) X.A)(hb:Binds X.K fd ps [])(hg:Gl X x)(hm:X.mg x=some (.ref C))(hc:X.calm=true)
  (hW:∀ev s,iQ X W ev s->X.xe ev s) (ha:PA X [arg] ta) (hdb:(x==("__debug__" : Str))=false:=by decide) (he:starEach [arg] X.env=[(false,eval arg X.env)]:=by rfl):
  PS X (.Raise (some (.Call (.Name x np) [arg] [] cpos)) none pos) (agl C g W ta):=by
 intro pins s σ H D I h
 obtain⟨nm,q,N,bs,bm,hdct,sn,sub,ab,col,dd,k0,k1,k2,k3,k5,hC,hT,hB⟩:=M.obj
 rw[arm_exec_Raise]
 refine zC (wpAny_standAt (Rh (C:=C) (nm:=nm) (q:=q) (N:=N) (bs:=bs) (bm:=bm) (hdct:=hdct) (sn:=sn) (sub:=sub) (ab:=ab) (col:=col) (dd:=dd) (k0:=k0) (k1:=k1) (k2:=k2) (k3:=k3) (k5:=k5) (newId:= "ValueError.__new__") hB (I.ok.hd hc) ?_))
 have main:wpAny (model X.prog X.w) X.A (eval (.Call (.Name x np) [arg] [] cpos) X.env) (EP X pins σ λv H3=>∃e dx y H1,v= .ref e/\H1 e=none/\H1 dx=none/\dx≠e/\X.s₀.heap.objs.size<=e/\(∀p∈X.pn++pins,p.1≠e)/\H3=upd (upd (upd H1 e (xO e C none)) dx (.xd [(g,y)])) e (xO e C (some dx))/\W C dx σ (upd H1 dx (.xd [(g,y)]))) X.xe s:=by
  refine wpAny_Call_Name_kw (Gy I hg hm ?_ hdb)
  refine PySem.W.callWith_K (h₀:=X.base) I.ok.mod.kin M.kp (fU (ha cpos pins s σ H _ I h) ?_) he rfl
  rintro us s1 ⟨vs,H1,I1,r,y,ev,q⟩
  refine⟨I1.Jb,?_⟩
  subst ev
  cases r with
  | cons r1 r2=>
   cases r2
   refine Ym M hX F hr hb I1 r1 λe dx n1 n2 ne hs=>⟨e,dx,y,H1,rfl,n1,n2,ne,yY I1.sz hs,λp hp z=> ?_,rfl,q dx n2⟩
   have:=zS (I1.pin p hp).1
   rw[z]at this
   exact absurd (yA this hs) (wS _)
 refine zC (fU main ?_)
 rintro v s1 ⟨vv,H3,I3,rv,e,dx,y,H1,ev,n1,n2,ne,sz,pn,eH,hw⟩
 refine zC (wpAny_standAt (zI ?_))
 subst ev eH
 obtain rfl:v=Value.ref e:=rv
 have x0:Exc s1.heap e C (some dx) none .none:=afg (I3.hok e _ bA)
 obtain⟨vs,hat,h1⟩:=x0.at_
 refine⟨e,some dx,vs,rfl,I3.Jb _ _ hC,hat,h1,hW _ _ ⟨e,C,dx,none,.none,pins,σ,_,rfl,I3.ak7 bA,x0,.inl rfl,⟨Oz,sz,pn⟩,(λt z=>by cases z),?_⟩⟩
 rw[Zb n1 ne]
 exact hw
end
end L2
namespace L2
open PySem PySem.Spec PyProof.Rows
section
variable{X:Cx}{pins:List (Addr×Obj)}{σ:St}{H:Hp}{s:Shared}{e C:Addr}{dx T:Option Addr}{fl:Value}{h':Heap}{W:bC}
theorem Inv.Hw(I:Inv X pins σ H s)(h:s.heap.get? a=some o)(d:o.data= .fields vs):a≠X.env.locals/\∀x c,X.env.cells.lookup x=some c->c≠a:=by
 refine⟨λz=> ?_,λx c hc z=> ?_⟩
 ·obtain⟨m,⟨o',es,ep,ho,hd,_⟩,_⟩:=I.loc
  subst z
  rw[ho]at h;cases h;rw[hd]at d;cases d
 ·obtain⟨v,o',ho,hd⟩:=I.cell x c hc
  subst z
  rw[ho]at h;cases h;rw[hd]at d;cases d
theorem Inv.NK(I:Inv X pins σ H s)(x:Exc s.heap e C dx T fl)(fe:BP X pins H e)(fT:∀t,T=some t->BP X pins H t)(k:oO (frs X.stack) e T s.heap h')(hE:∃o,h'.get? e=some o)(hTt:∀t,T=some t->∃o,h'.get? t=some o):
  Inv X pins σ H {s with heap:=h'}:=by
 obtain⟨vs,he,hT⟩:=x.at_
 have ok2:=Ov I.hok k fe.no (λt z=>(fT t z).no) I.JR
 refine I.call (t':=s.toks) (g':=s.gens) (d':=s.drawn) (ch:=e::T.toList) ⟨λb o q n hb hc=> ?_,λb o q n hb hc=> ?_,λb o q n _=>n,λb o q hc=> ?_,λ_ _ q=>q,λ_ _ _ q=>q,λb ps q=>⟨#[],by rw[q];simp⟩⟩ ok2 I.bare λb hb=> ?_
 ·simp at hc
  exact k.2.1 b o hc.1 (λz=>hc.2 z.symm) hb q
 ·simp at hc
  exact k.2.2 b o hc.1 (λz=>hc.2 z.symm) q
 ·simp at hc
  obtain⟨sl,z⟩:=k.2.2 b o hc.1 (λz=>hc.2 z.symm) q
  exact⟨_,z⟩
 ·simp at hb
  rcases hb with rfl | hb
  ·exact⟨.inr fe.new,(I.Hw he rfl).1,(I.Hw he rfl).2,fe.pin⟩
  ·subst hb
   obtain⟨_,_,oT,ts,hoT,hd,_⟩:=hT
   exact⟨.inr (fT b rfl).new,(I.Hw hoT hd).1,(I.Hw hoT hd).2,(fT b rfl).pin⟩
theorem oO.mono(k:oO fs e T h h')(hs:∀b∈fs,b∈fs'):oO fs' e T h h':=⟨k.1,λb o n1 n2 n3 q=>k.2.1 b o n1 n2 (λz=>n3 (hs b z)) q,k.2.2⟩
theorem Exc.here(x:Exc h' e C dx T fl):(∃o,h'.get? e=some o)/\∀t,T=some t->∃o,h'.get? t=some o:=by
 obtain⟨vs,he,hT⟩:=x.at_
 refine⟨⟨_,he⟩,λt z=> ?_⟩
 subst z
 obtain⟨_,_,oT,_,hoT,_⟩:=hT
 exact⟨oT,hoT⟩
theorem iQ.Yu(hst:X.stack=X.env::X.outer)(hf:X.env.frame=some X.env.locals)(hA:A.frames=some X.stack):∀ev s',iQ X W ev s'->wpAny (model X.prog X.w) A (noteFrame ev X.env) (λ_ s2=>cameBackBy (model X.prog X.w) X.A X.env (iQ X W) ev s2) (cameBackBy (model X.prog X.w) X.A X.env (iQ X W)) s':=by
 rintro ev s' ⟨e,C,dx,T,fl,pins,σ,H,rfl,I,x,hfl,fe,fT,hW⟩
 have abU:=I.stack
 rw[hst]at abU
 refine Us (by rw[hA,hst]) abU hf x hfl λh1 T1 hT1 k1 x1=> ?_
 have fT1:BP X pins H T1:=by
  rcases hT1 with r | r
  ·exact fT T1 r
  ·refine⟨I.hok.fresh r,yY I.sz r,λp hp z=> ?_⟩
   have:=zS (I.pin p hp).1
   rw[z]at this
   exact absurd (yA this r) (wS _)
 have hTt:∀t,T=some t->∃o,h1.get? t=some o:=λt z=>by
  obtain⟨o,q⟩:=x.here.2 t z
  exact k1.1.2 t o q
 have I1:=I.NK x fe fT (k1.mono (by rw[hst];exact λb z=>z)) x1.here.1 hTt
 unfold cameBackBy
 obtain⟨vs,he,h2,_⟩:=x1.at_
 refine zC (vS he rfl h2 ?_)
 rw[if_neg (by simp)]
 refine zP (s:={s' with heap:=h1}) x1 λh2 k2 x2=>⟨e,C,dx,some T1,_,pins,σ,H,rfl,I1.NK x1 fe (λt z=>by cases z;exact fT1) (k2.mono (by simp)) x2.here.1 x2.here.2,x2,.inr (by rw[hf];rfl),fe,λt z=>by cases z;exact fT1,hW⟩
end
def Tk(X:Cx)(W:bC):Prop:=∀ev s,iQ X W ev s->X.xe ev s
def EW(W:bC)(σ:St):XK:=λcv dxo H'=>∃C dx,cv=Value.ref C/\dxo=some dx/\W C dx σ H'
theorem iQ.oU(h:iQ (X.wish (iQ X W)) W' ev s):iQ X W' ev s:=by
 obtain⟨e,C,dx,T,fl,pins,σ,H,ee,I,x,hfl,fe,fT,hW⟩:=h
 exact⟨e,C,dx,T,fl,pins,σ,H,ee,I.oU,x,hfl,⟨fe.no,fe.new,fe.pin⟩,λt z=>⟨(fT t z).no,(fT t z).new,(fT t z).pin⟩,hW⟩
theorem Tk.wish{X:Cx}{W:bC}:Tk (X.wish (iQ X W)) W:=λ_ _ h=>h.oU
section
variable{X:Cx}{k:Nat}{f C:Addr}{fd:FuncData}{ps:List Str}{sp:Sp}{zA:List V}{ds:List Value}{W:bC}{x m:Str}{p pos apos:Pos}{e o:Expr}{es:List Expr}{ta:TE}{t:TA}
theorem PL(F:ie X.prog X.w X.K X.mg X.base (EY X.prog X.w) k f fd ps sp)(hr:iM k X.A)(hb:Binds X.K fd ps ds)(hd:Vals zA ds)(hx:Tk X W)
  (I:Inv X pins σ H s) (r:Vals vs us) (h:sp (vs++zA) H Q (EW W σ)):wpAny (model X.prog X.w) X.A (call (.ref f) us) (EP X pins σ Q) X.xe s:=by
 have r2:=r.append hd
 have hl:(us++ds).length=ps.length:=by rw[<-r2.length];exact F.len _ _ _ _ h
 refine wpAny_call (codeAny_mono (F.run X.A X.stack s H ⟨us,[]⟩ (us++ds) (vs++zA) Q _ hr I.env0 (hb s us I.Jb hl) r2 h) λr s' hq=> ?_)
 match r,hq with
 | .error e,hq=>exact hx _ _ (iQ.W4 I hq λC dx H' ⟨C',dx',e1,e2,w⟩=>by cases e1;cases e2;exact w)
 | .ok (.ret u),hq=>exact I.after hq
def aac(sp:Sp)(zA:List V)(W:bC)(t:TA):TE:=λσ H Q=>t σ H λvs H1=>sp (vs++zA) H1 Q (EW W σ)
theorem aa8(F:ie X.prog X.w X.K X.mg X.base (EY X.prog X.w) k f fd ps sp)(hr:iM k X.A)(hg:Gl X x)(hm:X.mg x=some (.ref f))(hk:keepIn X.K (.ref f)=true)(hb:Binds X.K fd ps ds)(hd:Vals zA ds)(hx:Tk X W)
  (ha:PA X (e::es) t) (hdb:(x==("__debug__" : Str))=false:=by decide) (he:starEach (e::es) X.env=(false,eval e X.env)::starEach es X.env:=by rfl) (hpl:(backTo pos (starEach es X.env)).any (·.1)=false:=by rfl):
  PE X (.Call (.Name x p) (e::es) [] pos) (aac sp zA W t):=by
 intro pins s σ H Q I h
 exact wpAny_Call_Name_kw (Gy I hg hm (PySem.W.callWith_K (h₀:=X.base) I.ok.mod.kin hk (fU (ha pos pins s σ H _ I h) λus s1 ⟨vs,H1,I1,r,q⟩=>⟨I1.Jb,PL F hr hb hd hx I1 r q⟩) he hpl) hdb)
def UJ(C:Addr)(m:Str)(sp:Sp)(zA:List V)(W:bC)(ta:TE)(t:TA):TE:=λσ H Q=>ta σ H λx H1=>∃a dx fs,x= .ref a/\H1 a=some (.ins C dx fs)/\fs.lookup m=none/\t σ H1 λvs H2=>sp (x::(vs++zA)) H2 Q (EW W σ)
theorem aa1(he:PE X o ta)(c:M_ X.K C)(hm:Meth X.K C m f)(F:ie X.prog X.w X.K X.mg X.base (EY X.prog X.w) k f fd ps sp)(hr:iM k X.A)(hb:Binds X.K fd ps ds)(hd:Vals zA ds)(hx:Tk X W)(ha:PA X (e::es) t)
  (hst:starEach (e::es) X.env=(false,eval e X.env)::starEach es X.env:=by rfl) (hpl:(backTo pos (starEach es X.env)).any (·.1)=false:=by rfl)
  (ht:eval (.Call (.Attribute o m apos) (e::es) [] pos) X.env=(do
   let ov <-eval o X.env
   standAt apos.atName
   let(f,first) <-holding [ov] (getMethod ov m pl)
   callWith pos f first (backTo pos (starEach (e::es) X.env)) (backToKw pos (keywordEach [] X.env))):=by rfl):
  PE X (.Call (.Attribute o m apos) (e::es) [] pos) (UJ C m sp zA W ta t):=by
 intro pins s σ H Q I h
 refine PySem.W.methodCall_KW (pl:=pl) (fU (he pins s σ H _ I h) ?_) ht
 rintro u s1 ⟨x,H1,I1,rx,a,dx,fs,ex,ea,l,q⟩
 subst ex
 obtain rfl:u=Value.ref a:=rx
 refine Ma I1 ea c hm l ?_
 exact PySem.W.callWith_K (h₀:=X.base) (first:=[.ref a]) I1.ok.mod.kin hm.kp (fU (ha pos pins s1 σ H1 _ I1 q) λus s2 ⟨vs,H2,I2,r,q2⟩=>⟨I2.Jb,PL (us:= .ref a::us) (vs:= .ref a::vs) F hr hb hd hx I2 (.cons rfl r) q2⟩) hst hpl
theorem Yr(he:PE X o ta)(c:M_ X.K C)(hm:Meth X.K C m f)(F:ie X.prog X.w X.K X.mg X.base (EY X.prog X.w) k f fd ps sp)(hr:iM k X.A)(hb:Binds X.K fd ps ds)(hd:Vals zA ds)(hx:Tk X W)
  (ht:eval (.Call (.Attribute o m apos) [] [] pos) X.env=(do
   let ov <-eval o X.env
   standAt apos.atName
   let(f,first) <-holding [ov] (getMethod ov m pl)
   callWith pos f first (backTo pos (starEach [] X.env)) (backToKw pos (keywordEach [] X.env))):=by rfl):
  PE X (.Call (.Attribute o m apos) [] [] pos) (UJ C m sp zA W ta af9):=by
 intro pins s σ H Q I h
 refine PySem.W.methodCall_KW (pl:=pl) (fU (he pins s σ H _ I h) ?_) ht
 rintro u s1 ⟨x,H1,I1,rx,a,dx,fs,ex,ea,l,q⟩
 subst ex
 obtain rfl:u=Value.ref a:=rx
 exact Ma I1 ea c hm l (PySem.W.callWith_K0 (first:=[.ref a]) I1.Jb hm.kp (PL (us:=[.ref a]) (vs:=[.ref a]) F hr hb hd hx I1 (.cons rfl .nil) q))
end
theorem zE.okX{P:Program}{w:World}{K:Frag}{mg:Str->Option Value}{base:Heap}{x qual:Str}{st:Stmt}{dV:Value}{f:Addr}{fd:FuncData}{N ps:List Str}{k:Nat}{sp:Sp}(F:zE K x qual st dV f fd)(S:sy N ps (bu st))(len:∀vs H Q E,sp vs H Q E->vs.length=ps.length)
  (hbody:∀(cdv:Value) (A:Around) (outer:List Env) (s:Shared) (H:Hp) (vs:List V) (Q:VK) (E:XK),iM k (A.deeper (envOfC qual (bu st) s.heap.objs.size f cdv))->sp vs H Q E->
   ∃t W,(∀C dx σ H',W C dx σ H'->E (.ref C) (some dx) H')/\Ke ((yJ (EY P w) P w K mg base N qual (bu st) f cdv A outer s H E).wish (iQ (yJ (EY P w) P w K mg base N qual (bu st) f cdv A outer s H E) W)) (dM st) t/\t {nx:=λ_ H'=>gcK H Q .non H',rt:=gcK H Q} (start N vs) H):
  ie P w K mg base (EY P w) (k+1) f fd ps sp:=by
 obtain⟨oc,od,kV,doc,pm,an,cdv,ct,osl,rfl,lk,hcd⟩:=F.ex
 refine ie.gc (sp:=λvs H Q' E=>∃Q,sp vs H Q E/\Q'=gcK H Q) (afM lk hcd S (λvs H Q E ⟨Q0,q,_⟩=>len vs H Q0 E q) λA outer s H vs Q' E hr hsp=> ?_) λvs H Q E q=>⟨Q,q,rfl⟩
 obtain⟨Q,hsp,rfl⟩:=hsp
 obtain⟨t,W,hE,h,q⟩:=hbody cdv A outer s H vs Q E hr hsp
 refine⟨t,λpins s1 σ H1 D I h1=> ?_,q⟩
 exact vE (h pins s1 σ H1 D (I.wish _) h1) (λ_ _ z=>z.oU) λ_ _ z=>z.leave hE
abbrev Cx.pp(X:Cx)(pins:List (Addr×Obj)):Cx:={X with pn:=X.pn++pins}
abbrev Cx.held(X:Cx)(e:Addr):Cx:={X with A:=X.A.mark (some (.ref e)),calm:=false,xe:=λ_ _=>False}
section
variable{X:Cx}{pins Af:List (Addr×Obj)}{σ:St}{H:Hp}{s:Shared}{e:Addr}
theorem Inv.pp(I:Inv X (pins++Af) σ H s):Inv (X.pp pins) Af σ H s:=
 ⟨⟨I.ok.mod,I.ok.kind,I.ok.glob,I.ok.blt,I.ok.above,I.ok.inj,I.ok.has,I.ok.cab,I.ok.hd,I.ok.frames,I.ok.stk,I.ok.exf,I.ok.bs,I.ok.Zk,I.ok.SQ,I.ok.TJ,I.ok.CN,I.ok.frf⟩,I.os,I.bare,I.base,I.loc,I.cell,I.free,I.lO,λp hp=>I.pin p (by rw[<-List.append_assoc];exact hp),I.hok,I.len⟩
theorem Inv.aiZ(I:Inv (X.pp pins) Af σ H s):Inv X (pins++Af) σ H s:=
 ⟨⟨I.ok.mod,I.ok.kind,I.ok.glob,I.ok.blt,I.ok.above,I.ok.inj,I.ok.has,I.ok.cab,I.ok.hd,I.ok.frames,I.ok.stk,I.ok.exf,I.ok.bs,I.ok.Zk,I.ok.SQ,I.ok.TJ,I.ok.CN,I.ok.frf⟩,I.os,I.bare,I.base,I.loc,I.cell,I.free,I.lO,λp hp=>I.pin p (by rw[<-List.append_assoc]at hp;exact hp),I.hok,I.len⟩
theorem Inv.fewer(I:Inv X (pins++Af) σ H s):Inv X pins σ H s:=⟨I.ok,I.os,I.bare,I.base,I.loc,I.cell,I.free,I.lO,λp hp=>I.pin p (by rw[<-List.append_assoc];exact List.mem_append_left _ hp),I.hok,I.len⟩
theorem Inv.held(I:Inv X pins σ H s)(e:Addr):Inv (X.held e) pins σ H s:=
 ⟨⟨I.ok.mod,I.ok.kind,I.ok.glob,I.ok.blt,I.ok.above,I.ok.inj,I.ok.has,I.ok.cab,(λz=>by cases z),I.ok.frames,I.ok.stk,I.ok.exf,I.ok.bs,I.ok.Zk,I.ok.SQ,I.ok.TJ,I.ok.CN,I.ok.frf⟩,I.os,I.bare,I.base,I.loc,I.cell,I.free,I.lO,I.pin,I.hok,I.len⟩
theorem Inv.ZV(ok:X.Ok)(I:Inv (X.held e) pins σ H s):Inv X pins σ H s:=⟨ok,I.os,I.bare,I.base,I.loc,I.cell,I.free,I.lO,I.pin,I.hok,I.len⟩
theorem SP.map(g:∀σ H,Inv X' Af σ H s'->Inv X pins σ H s')(h:SP X' Af D f s'):SP X pins D f s':=by
 cases f with
 | next=>obtain⟨σ',H',I,q⟩:=h;exact⟨σ',H',g _ _ I,q⟩
 | brk=>obtain⟨σ',H',I,q⟩:=h;exact⟨σ',H',g _ _ I,q⟩
 | cont=>obtain⟨σ',H',I,q⟩:=h;exact⟨σ',H',g _ _ I,q⟩
 | ret u=>obtain⟨v,σ',H',I,r,q⟩:=h;exact⟨v,σ',H',g _ _ I,r,q⟩
end
def xmW(K:Frag)(cv:Value)(W:bC)(th:St->Hp->Prop):bC:=λC dx σ H=>∃b,exmOne K (.ref C) cv=some b/\(if b=true then th σ H else W C dx σ H)
section
variable{X:Cx}{W:bC}{c:Str}{cp hpos pos:Pos}{b₀:Stmt}{suite body:List Stmt}{tb:bC->TS}{ts:TS}{cv:Value}{v:V}
theorem Exc.typ(x:Exc h e C dx T fl):PySem.W.Looks M h (typeOf (.ref e)) (.ref C):=by
 obtain⟨vs,he,_⟩:=x.at_
 intro A Q E s k q
 exact zC (wpAny_loadPart (k _ _ he) (zI q))
theorem adM(hst:X.stack=X.env::X.outer)(hf:X.env.frame=some X.env.locals)(hx:Tk X W)(hv:∀u,RelV v u->u=cv)(hn:∀e,PE (X.held e) (.Name c cp) (tC v))
  (hb:∀pins W1,Ke ((X.pp pins).wish (iQ (X.pp pins) W1)) body (tb W1)) (hs:∀e,Ke (X.held e) (b₀::suite) ts):
  PS X (.Try body [.ExceptHandler (some (.Name c cp)) none (b₀::suite) hpos] [] [] pos) (λD σ H=>tb (xmW X.K cv W (ts D)) D σ H):=by
 intro pins s σ H D I h
 have ok:=I.ok
 refine wpAny_Try_except (vE (hb pins (xmW X.K cv W (ts D)) [] s σ H D (Inv.wish (Inv.pp (Af:=[]) (by rw[List.append_nil];exact I)) _) h) (λf s1 h1=> ?_) λev s1 h1=> ?_)
 ·have h2:SP X pins D f s1:=SP.map (λσ H z=>z.oU.aiZ.fewer) h1
  cases f with
  | next=>exact wpAny_execs_nil h2
  | brk=>exact h2
  | cont=>exact h2
  | ret u=>exact h2
 ·obtain⟨e,C,dx,T,fl,Ss,σ',H',rfl,I1,x,hfl,fe,fT,hW⟩:=h1
  have J1:=I1.aiZ
  have abU:=J1.stack
  rw[hst]at abU
  have cv1:∀{a},BP (X.pp pins) Ss H' a->BP X (pins++Ss) H' a:=λz=>⟨z.no,z.new,λp hp=>z.pin p (by rw[<-List.append_assoc]at hp;exact hp)⟩
  have fe':=cv1 fe
  have fT':∀t,T=some t->BP X (pins++Ss) H' t:=λt z=>cv1 (fT t z)
  refine Us (by rw[J1.ok.frames,hst]) abU hf x hfl λh1 T1 hT1 k1 x1=> ?_
  have fT1:BP X (pins++Ss) H' T1:=by
   rcases hT1 with r | r
   ·exact fT' T1 r
   ·refine⟨J1.hok.fresh r,yY J1.sz r,λp hp z=> ?_⟩
    have:=zS (J1.pin p hp).1
    rw[z]at this
    exact absurd (yA this r) (wS _)
  have I2:=J1.NK x fe' fT' (k1.mono (by rw[hst];exact λb z=>z)) x1.here.1 λt z=>let⟨o,q⟩:=x.here.2 t z;k1.1.2 t o q
  refine zP (fr:=none) (s:={s1 with heap:=h1}) x1 λh2 k2 x2=> ?_
  have I3:=I2.NK x1 fe' (λt z=>by cases z;exact fT1) (k2.mono (by simp)) x2.here.1 x2.here.2
  obtain⟨vs2,he2,h12,aol,oT,ts2,hoT,hdT,h32⟩:=x2.at_
  have nfs:∀{a:Addr} {o:Obj} {vs:Array Value},h2.get? a=some o->o.data= .fields vs->a∉X.fs:=λq d hm=>by
   obtain⟨_,o',ho',hd'⟩:=I3.CN.mem hm
   have q':h2.get? _=some o':=ho'
   rw[q]at q';cases q';exact hd' _ d
  have I4:Inv X (pins++[(e,{cls:= .ref C,dict:=some dx,data:= .fields vs2}),(T1,oT)]) σ' H' {s1 with heap:=h2}:=I3.Gb λp hp=>by
   rcases List.mem_append.mp hp with z | z
   ·exact I3.pin p (xE _ (List.mem_append_left _ z))
   ·simp at z
    rcases z with rfl | rfl
    ·exact⟨he2,fe'.no,(I3.Hw he2 rfl).1,nfs he2 rfl,λv z=>by cases z⟩
    ·exact⟨hoT,fT1.no,(I3.Hw hoT hdT).1,nfs hoT hdT,λv z=>by rw[hdT]at z;cases z⟩
  obtain⟨b,hm,hif⟩:=hW
  have fw:∀{a},BP X (pins++Ss) H' a->BP (X.held e) pins H' a:=λz=>⟨z.no,z.new,λp hp=>z.pin p (by rw[<-List.append_assoc];exact List.mem_append_left _ hp)⟩
  refine wpAny_handleBy_cons (codeAny_handlers_test (vE (hn e _ _ σ' H' (λv' Ul=>v'=v/\Ul=H') (I4.held e) ⟨rfl,rfl⟩) (λc' s3 ⟨v',Ul,I5,rv,e1,e2⟩=> ?_) λ_ _ z=>z.elim)) (by intro q;cases q)
  subst e1 e2
  obtain rfl:=hv c' rv
  have x5:Exc s3.heap e C (some dx) (some T1) .none:=⟨vs2,(I5.pin (e,_) (by simp)).1,h12,aol,oT,ts2,(I5.pin (T1,oT) (by simp)).1,hdT,h32⟩
  refine PySem.W.Looks.here (s:=s3) (PySem.W.exm_one I5.Jb x5.typ hm) ?_
  cases b with
  | true=>
   refine codeAny_handlers_suite (zP (fr:=none) x5 λh6 k6 x6=> ?_)
   have I6:=(I5.fewer).NK x5 (fw fe') (λt z=>by cases z;exact fw fT1) (k6.mono (by simp)) x6.here.1 x6.here.2
   refine vE (hs e pins _ σ' Ul D I6 hif) (λf s7 z=> ?_) λ_ _ z=>z.elim
   exact SP.map (λ_ _ y=>y.ZV ok) z
  | false=>
   refine wpAny_handleBy_nil ?_
   unfold PySem.passOn
   obtain⟨vs5,he5,h15,_⟩:=x5.at_
   refine zC (vS he5 rfl h15 ?_)
   rw[if_neg (by simp)]
   refine zC (zP x5 λh6 k6 x6=>wpAny_throw (hx _ _ ⟨e,C,dx,some T1,_,pins,σ',Ul,rfl,?_,x6,.inr (by rw[hf];rfl),⟨fe'.no,fe'.new,(fw fe').pin⟩,λt z=>by cases z;exact⟨fT1.no,fT1.new,(fw fT1).pin⟩,hif⟩))
   exact((I5.fewer).NK x5 (fw fe') (λt z=>by cases z;exact fw fT1) (k6.mono (by simp)) x6.here.1 x6.here.2).ZV ok
end
abbrev xC(a C dx:Addr):HO:= .ext λh=>∃vs,h.get? a=some {cls:= .ref C,dict:=some dx,data:= .fields vs}
structure XIs(K:Frag)(C:Addr):Prop where
 gn:findIn K (.ref C) "__getattr__" = some none
 ca:findIn K (.ref C) "__class__" = some (some (.builtin "object.__class__"))
 hn:PySem.W.specialIn K (.builtin "object.__class__") "__get__" = some (some (.builtin "getset_descriptor.__get__"))
 tk:PySem.W.takesIn K (.builtin "object.__class__")=some true
 mr:PySem.W.mroIn K C (.type "object")=some true
section
variable{X:Cx}{k:Nat}{f C:Addr}{fd:FuncData}{ps:List Str}{sp:Sp}{zA:List V}{ds:List Value}{W:bC}{x:Str}{p pos:Pos}{e:Expr}{es:List Expr}{t:TA}
def UL(C:Addr)(sp:Sp)(zA:List V)(W:bC)(t:TA):TE:=λσ H Q=>t σ H λvs H1=>∀x dx,H1 x=none->H1 dx=none->dx≠x->
 sp (.ref x::(vs++zA)) (upd (upd H1 dx (.own x)) x (.ins C dx [])) (λv H2=>v= .non/\Q (.ref x) H2) (EW W σ)
theorem Og(M:Mk X.K C f)(F:ie X.prog X.w X.K X.mg X.base (EY X.prog X.w) k f fd ps sp)(hr:iM (k+1) X.A)(hb:Binds X.K fd ps ds)(hd:Vals zA ds)
  (hx:Tk X W) (I:Inv X pins σ H s) (r:Vals vs us)
  (h:∀x dx,H x=none->H dx=none->dx≠x->sp (.ref x::(vs++zA)) (upd (upd H dx (.own x)) x (.ins C dx [])) (λv H2=>v= .non/\Q (.ref x) H2) (EW W σ)):
  wpAny (model X.prog X.w) X.A (call (.ref C) us) (EP X pins σ Q) X.xe s:=by
 have hq:=h (s.heap.objs.size+1) s.heap.objs.size (I.hok.fresh (Nat.le_succ _)) (I.hok.fresh (zaa _)) (xD (Nat.lt_succ_self _))
 have I2:=Inv.made (C:=C) I
 have r2:Vals (V.ref (s.heap.objs.size+1)::(vs++zA)) (Value.ref (s.heap.objs.size+1)::(us++ds)):= .cons rfl (r.append hd)
 have hl:(Value.ref (s.heap.objs.size+1)::us++ds).length=ps.length:=by
  have e:=r2.length
  rw[F.len _ _ _ _ hq]at e
  exact e.symm
 refine wpAny_call (abu (f:=f) I.Jb M.makes M.init (beq_iff_eq.mp M.fn) (codeAny_mono (F.run _ X.stack _ _ ⟨Value.ref (s.heap.objs.size+1)::us,[]⟩ (Value.ref (s.heap.objs.size+1)::(us++ds)) _ _ _ (hr.make C us [])
  (I2.env0.make C us []) (hb _ (Value.ref (s.heap.objs.size+1)::us) I2.Jb hl) r2 hq) λr s' hq'=> ?_))
 match r,hq' with
 | .error e,hq'=>exact hx _ _ (iQ.W4 I2 hq' λC dx H' ⟨C',dx',e1,e2,w⟩=>by cases e1;cases e2;exact w)
 | .ok (.ret u),hq'=>
  obtain⟨v,H',I3,rv,ev,q3⟩:=I2.after hq'
  subst ev
  exact⟨rv,⟨V.ref (s.heap.objs.size+1),H',I3,rfl,q3⟩⟩
theorem aa2(M:Mk X.K C f)(F:ie X.prog X.w X.K X.mg X.base (EY X.prog X.w) k f fd ps sp)(hr:iM (k+1) X.A)(hg:Gl X x)(hm:X.mg x=some (.ref C))(hb:Binds X.K fd ps ds)(hd:Vals zA ds)(hx:Tk X W)
  (ha:PA X (e::es) t) (hdb:(x==("__debug__" : Str))=false:=by decide) (he:starEach (e::es) X.env=(false,eval e X.env)::starEach es X.env:=by rfl) (hpl:(backTo pos (starEach es X.env)).any (·.1)=false:=by rfl):
  PE X (.Call (.Name x p) (e::es) [] pos) (UL C sp zA W t):=λpins s σ H Q I h=>
 wpAny_Call_Name_kw (Gy I hg hm (PySem.W.callWith_K (h₀:=X.base) I.ok.mod.kin M.kp (fU (ha pos pins s σ H _ I h) λus s1 ⟨vs,H1,I1,r,q⟩=>⟨I1.Jb,Og M F hr hb hd hx I1 r q⟩) he hpl) hdb)
theorem Ys(M:Mk X.K C f)(F:ie X.prog X.w X.K X.mg X.base (EY X.prog X.w) k f fd ps sp)(hr:iM (k+1) X.A)(hg:Gl X x)(hm:X.mg x=some (.ref C))(hb:Binds X.K fd ps ds)(hd:Vals zA ds)(hx:Tk X W)
  (hdb:(x==("__debug__" : Str))=false:=by decide):PE X (.Call (.Name x p) [] [] pos) (UL C sp zA W af9):=λpins s σ H Q I h=>
 wpAny_Call_Name_kw (Gy I hg hm (PySem.W.callWith_K0 I.Jb M.kp (Og (us:=[]) M F hr hb hd hx I .nil h)) hdb)
end
section
variable{K:Frag}{nm q:Str}{C N:Addr}{bs bm:List Value}{sn:List Str}{sub:List Value}{ab:Bool}{col:Option Bool}{dd:Option Addr}{k0 k1 k2 k3 k5:Option Value}{newId:String}{name:Str}
theorem V8(lo:K.lookup C=some (excClassObj nm q C N bs bm true sn sub ab col dd k0 k1 k2 k3 k5 newId))(h1:bm.contains (.type "object")=true)(h2:bm.contains (.type "BaseException")=true)(h3:∀self,refuseLoop self "__setattr__" bm=pure .unit)
  (sa:findIn K (.ref C) "__setattr__" = some (some (.builtin "object.__setattr__"))) (ga:findIn K (.ref C) "__getattribute__" = some (some (.builtin "BaseException.__getattribute__"))) (no:findIn K (.ref C) name=some none):NB K C name:=
 ⟨⟨_,by unfold PySem.W.clsIn;rw[lo],rfl,rfl,by rw[List.contains_cons,h1,Bool.or_true],by rw[List.contains_cons,h2,Bool.or_true],λself=>(refuseLoop_ref self _ C bm).trans (h3 self)⟩,sa,ga,no⟩
theorem ZQ(lo:K.lookup C=some (excClassObj nm q C N bs bm true sn sub ab col dd k0 k1 k2 k3 k5 newId))(h1:bm.contains (.type "object")=true)(gn:findIn K (.ref C) "__getattr__" = some none)(ca:findIn K (.ref C) "__class__" = some (some (.builtin "object.__class__")))
  (hn:PySem.W.specialIn K (.builtin "object.__class__") "__get__" = some (some (.builtin "getset_descriptor.__get__"))) (tk:PySem.W.takesIn K (.builtin "object.__class__")=some true):XIs K C:=
 ⟨gn,ca,hn,tk,by unfold PySem.W.mroIn PySem.W.clsIn;rw[lo];simp only[Option.bind_some];rw[if_neg (by simp),List.contains_cons,h1,Bool.or_true]⟩
theorem ZP(lo:K.lookup C=some (excClassObj nm q C N bs bm true sn sub ab col dd k0 k1 k2 k3 k5 "ValueError.__new__"))(h0:bm.contains (.type "ValueError")=true)(hA:bm.contains (.type "AttributeError")=false)(hN:bm.contains (.type "NameError")=false)(h2:bm.contains (.type "BaseException")=true)
  (init:findIn K (.ref C) "__init__" = some (some (.ref f))) (fn:isFn K (.ref f)=true) (kp:keepIn K (.ref C)=true):XMk K C f:=
 ⟨⟨nm,q,N,bs,bm,true,sn,sub,ab,col,dd,k0,k1,k2,k3,k5,lo,⟨h0,hA,hN⟩,h2⟩,init,fn,kp⟩
theorem Xi(lo:K.lookup C=some (excClassObj nm q C N bs bm true sn sub ab col dd k0 k1 k2 k3 k5 newId))(h:subIn K t (.ref C)=some b):PySem.W.kitCls K t (.ref C)=some b:=by
 unfold PySem.W.kitCls
 dsimp only
 rw[if_pos,h]
 unfold PySem.W.clsIn PySem.W.typeIn
 rw[lo]
 simp[lo]
theorem sub_self(lo:K.lookup C=some (excClassObj nm q C N bs bm true sn sub ab col dd k0 k1 k2 k3 k5 newId)):subIn K (.ref C) (.ref C)=some true:=by
 show PySem.W.mroIn K C (.ref C)=some true
 unfold PySem.W.mroIn PySem.W.clsIn
 rw[lo]
 simp
theorem V7(lo:K.lookup C=some (excClassObj nm q C N bs bm true sn sub ab col dd k0 k1 k2 k3 k5 newId))(h2:bm.contains (.type "BaseException")=true)(h:subIn K t (.ref C)=some b):exmOne K t (.ref C)=some b:=by
 unfold exmOne
 have e:subIn K (.ref C) (.type "BaseException")=some true:=by
  show PySem.W.mroIn K C _=some true
  unfold PySem.W.mroIn PySem.W.clsIn
  rw[lo]
  simp only[Option.bind_some]
  rw[if_neg (by simp),List.contains_cons,h2,Bool.or_true]
 rw[if_pos (by rw[e];simp)]
 exact Xi lo h
theorem Xf(lo:K.lookup C=some (excClassObj nm q C N bs bm true sn sub ab col dd k0 k1 k2 k3 k5 newId))(h:subIn K t (.ref C)=some b):kitOne K t (.ref C)=some b:=by
 unfold kitOne
 split
 ·rename_i z
  have z':t= .ref C:=beq_iff_eq.mp z
  subst z'
  rw[sub_self lo]at h
  exact h
 ·exact Xi lo h
end
end L2
namespace L2
open PySem
theorem Io{bm:List Value}{cs:List Addr}(e:bm=cs.map Value.ref++[.type "ValueError",.type "Exception",.type "BaseException",.type "object"]):∀self,refuseLoop self "__setattr__" bm=pure .unit:=by
 subst e
 intro self
 induction cs with
 | nil=>rfl
 | cons c r ih=>simp only[List.map_cons,List.cons_append,refuseLoop_ref];exact ih
end L2
namespace L2
open PySem PySem.Spec PyProof.Rows
def anw:V->Option Int->Option Int->Hp->VK->Prop:=λx lo hi H Q=>∃u,x= .str u/\u.length<=sizeLine/\Q (.str (Txt.slice u lo hi)) H
theorem agg:SlR X anw:=by
 intro pins s σ H x v vl vu lo hi sl Q I rx hs pl pu h
 obtain⟨u,rfl,hz,q⟩:=h
 obtain⟨t,rfl⟩:=rx
 have fin:∀(t':Tok) (k:Nat),EP X pins σ Q (.str (Txt.slice u lo hi) t') {s with toks:=k}:=λt' k=>⟨.str _,H,I.tok k,⟨t',rfl⟩,q⟩
 refine⟨"str",_,F.slot_str_getitem.lookup,typeIs_str _ _ _,?_⟩
 cases pl with
 | none=>
  cases pu with
  | none=>exact wpAny_getItem_str_slice (l:=none) (u:=none) (st:=none) hs rfl (post_val_or_str ⟨yY (Txt.slice_le u _ _) hz,fin⟩)
  | int j uj=>exact wpAny_getItem_str_slice (l:=none) (u:=some (j,uj)) (st:=none) hs rfl (post_val_or_str ⟨yY (Txt.slice_le u _ _) hz,fin⟩)
 | int i ui=>
  cases pu with
  | none=>exact wpAny_getItem_str_slice (l:=some (i,ui)) (u:=none) (st:=none) hs rfl (post_val_or_str ⟨yY (Txt.slice_le u _ _) hz,fin⟩)
  | int j uj=>exact wpAny_getItem_str_slice (l:=some (i,ui)) (u:=some (j,uj)) (st:=none) hs rfl (post_val_or_str ⟨yY (Txt.slice_le u _ _) hz,fin⟩)
theorem Uz{n:Nat}(h:n<=1000000):Builtin.Str.tooLong n=false:=by
 unfold Builtin.Str.tooLong
 exact zae (by have:(1000000:Nat)<=sizeLine:=(by decide);omega)
theorem mulOk_of(hx:x.length<=1000)(h0: -(2 ^ 62)<n)(h1:n<=1000):MulOk x n:=by
 refine⟨?_,?_,?_⟩
 ·rw[zae (),zae ()];rfl
 ·intro a b
  have:(1000:Int)<=(2 ^ 63 - 1) / n:=by
   rw[Int.le_ediv_iff_mul_le ()]
   omega
  omega
 ·intro a b
  refine Uz ?_
  have:n.toNat<=1000:=()
  calc x.length*n.toNat<=1000*1000:=Nat.mul_le_mul hx this
   _<=1000000:=by decide
theorem Va:uT X (binaryOp .Mult) (λx y H Q=>∃i j,x= .str i/\y= .int j/\MulOk i j/\Q (.str (PySem.Txt.mul i j)) H):=by
 intro pins s σ H x y v u Q I rx ry h
 obtain⟨i,j,rfl,rfl,hz,q⟩:=h
 obtain⟨t,rfl⟩:=rx
 obtain⟨t',rfl⟩:=ry
 exact SB.mul hz (λt' tk=>⟨.str (PySem.Txt.mul i j),H,I.tok _,⟨_,rfl⟩,q⟩)
section
variable{X:Cx}
theorem afS(I:Inv X pins σ H s)(e:H a=some (.dK [])):Inv X pins σ (upd H a (.dT [])) s:=by
 obtain⟨z,hd,vs,rel,o,es,ep,h1,h2,h3,h4,h5,h6⟩:=XC I.hok e
 have hv:vs=[]:=by cases rel;rfl
 subst hv
 have he:es.toList=[]:=by
  have:=h5.length
  exact List.length_eq_zero_iff.mp (by simpa using this)
 exact Kc (t':=s.toks) (h':=s.heap) I (by rw[e];exact jS) ⟨rfl,λ_ _=>rfl⟩ ⟨o,h1⟩ ⟨Nat.zero_le _,hd,[],.nil,o,es,ep,h1,h2,h3,by rw[he];rfl,List.nodup_nil⟩
def V5(H:Hp)(a:Addr)(y:V)(o:Option V)(H':Hp):Prop:=(Ey H a y o/\H'=H)\/(H a=some (.dK [])/\(∃(k:List Key) (b:Addr),y= .ref b/\H b=some (.tup (k.map kV)))/\o=none/\H'=upd H a (.dT []))
theorem V5.inv(g:V5 H a y o H')(I:Inv X pins σ H s):Inv X pins σ H' s/\Ey H' a y o:=by
 rcases g with⟨g,rfl⟩ | ⟨e,⟨k,b,rfl,eb⟩,rfl,rfl⟩
 ·exact⟨I,g⟩
 ·refine⟨afS I e,.inr ⟨[],k,b,.inl bA,rfl,?_,rfl⟩⟩
  rw[aL (λz=>by subst z;rw[e]at eb;cases eb)]
  exact eb
def agC(neg:Bool):R2:=λy x H Q=>∃a o H',x= .ref a/\V5 H a y o H'/\Q (.bl (if neg=true then !o.isSome else o.isSome)) H'
theorem ahd(hu:X.A.units+1<cLine):uT X (compareOp .In) (agC false):=by
 intro pins s σ H y x v u Q I ry rx h
 obtain⟨a,o,H',rfl,g,q⟩:=h
 obtain rfl:u=Value.ref a:=rx
 obtain⟨I1,g1⟩:=g.inv I
 exact aoU hu I1 g1 ry λs' I'=>⟨.bl _,H',I',rfl,q⟩
theorem Yy(hu:X.A.units+1<cLine):uT X (compareOp .NotIn) (agC true):=by
 intro pins s σ H y x v u Q I ry rx h
 obtain⟨a,o,H',rfl,g,q⟩:=h
 obtain rfl:u=Value.ref a:=rx
 obtain⟨I1,g1⟩:=g.inv I
 exact aeK hu I1 g1 ry λs' I'=>⟨.bl _,H',I',rfl,q⟩
def ajQ:R2:=λx y H Q=>∃a v,x= .ref a/\Ey H a y (some v)/\Q v H
theorem aev(hu:X.A.units+1<cLine):IxR X ajQ:=by
 intro value slice pins s σ H x y v u Q I rx ry h hs
 obtain⟨a,d,rfl,g,q⟩:=h
 obtain rfl:v=Value.ref a:=rx
 exact tail_any (T4 I g) PySem.F.slot_dict_getitem.lookup (Zc hu I g ry λw' s' I' rw'=>⟨d,H,I',rw',q⟩) hs
section
variable{o e f i value:Expr}{apos cpos pos pos':Pos}{td ty tx tv:TE}
def af_(td ty tx:TE):TE:=λσ H Q=>td σ H λx H1=>∃a,x= .ref a/\IsD H1 a/\ty σ H1 λy H2=>tx σ H2 λz H3=>∃o H4,V5 H3 a y o H4/\Q (o.getD z) H4
theorem aa4(hu:X.A.units+1<cLine)(ho:PE X o td)(he:PE X e ty)(hf:PE X f tx)(m:M2 X o "get" apos e f cpos):PE X (.Call (.Attribute o "get" apos) [e,f] [] cpos) (af_ td ty tx):=by
 intro pins s σ H Q I h
 refine wpAny_Call_method m.base m.few m.line PySem.F.plainAttrs_dict PySem.F.slot_dict_get PySem.F.type_dict_get (fU (ho pins s σ H _ I h) ?_)
 rintro u t ⟨x,H1,I1,rx,a,ex,d,q1⟩
 subst ex
 obtain rfl:u=Value.ref a:=rx
 have ty:=Vu I1 d
 refine⟨ty.1,ty.2.1,?_⟩
 rw[m.trees]
 refine Calls.callWith_builtin rfl (Calls.evalArgs_plain (Calls.spliced_cons (fU (he pins t σ H1 _ I1 q1) ?_)))
 rintro iv t2 ⟨y,H2,I2,ry,q2⟩
 refine Calls.spliced_cons (fU (hf pins t2 σ H2 _ I2 q2) ?_)
 rintro fv t3 ⟨z,H3,I3,rz,ov,H4,g,q3⟩
 refine Calls.spliced_nil ?_
 obtain⟨I4,g4⟩:=g.inv I3
 exact ah4 hu I4 g4 ry rz λw' t4 I5 rw'=>⟨_,H4,I5,rw',q3⟩
def aga(td ty:TE):TE:=λσ H Q=>td σ H λx H1=>∃a,x= .ref a/\IsD H1 a/\ty σ H1 λy H2=>∃o H3,V5 H2 a y o H3/\Q (o.getD .non) H3
theorem aa5(hu:X.A.units+1<cLine)(ho:PE X o td)(he:PE X e ty)(m:M1 X o "get" apos e cpos):PE X (.Call (.Attribute o "get" apos) [e] [] cpos) (aga td ty):=by
 intro pins s σ H Q I h
 refine wpAny_Call_method m.base m.few m.line PySem.F.plainAttrs_dict PySem.F.slot_dict_get PySem.F.type_dict_get (fU (ho pins s σ H _ I h) ?_)
 rintro u t ⟨x,H1,I1,rx,a,ex,d,q1⟩
 subst ex
 obtain rfl:u=Value.ref a:=rx
 have ty:=Vu I1 d
 refine⟨ty.1,ty.2.1,?_⟩
 rw[m.trees]
 refine Calls.callWith_builtin rfl (Calls.evalArgs_plain (Calls.spliced_cons (fU (he pins t σ H1 _ I1 q1) ?_)))
 rintro iv t2 ⟨y,H2,I2,ry,ov,H3,g,q2⟩
 refine Calls.spliced_nil ?_
 obtain⟨I3,g3⟩:=g.inv I2
 exact ah5 hu I3 g3 ry λw' t4 I5 rw'=>⟨_,H3,I5,rw',q2⟩
def alH(H:Hp)(a:Addr)(y v:V)(H':Hp):Prop:=Q_ H a y v H'\/∃(k:List Key) (b:Addr),H a=some (.dK [])/\y= .ref b/\H b=some (.tup (k.map kV))/\H'=upd H a (.dT [(k,v)])
def ajI(td ty tv:TE):TS:=λD σ H=>tv σ H λv H1=>td σ H1 λx H2=>ty σ H2 λy H3=>∃a H4,x= .ref a/\alH H3 a y v H4/\D.nx σ H4
theorem adQ(hu:X.A.units+1<cLine)(ho:PE X o td)(hi:PE X i ty)(hv:PE X value tv)(hs:swapsWith value (some (.Subscript o i pos')) pos.line X.env=pure false):PS X (.Assign [.Subscript o i pos'] value pos) (ajI td ty tv):=by
 intro pins s σ H D I h
 refine wpAny_Assign_Subscript (fU (hv pins s σ H _ I h) ?_) hs
 rintro r t1 ⟨v,H1,I1,rv,q1⟩
 refine fU (ho pins t1 σ H1 _ I1 q1) ?_
 rintro u t2 ⟨x,H2,I2,rx,q2⟩
 refine fU (hi pins t2 σ H2 _ I2 q2) ?_
 rintro iv t3 ⟨y,H3,I3,ry,a,H4,ex,g,q3⟩
 subst ex
 obtain rfl:u=Value.ref a:=rx
 rcases g with g | ⟨k,b,e,rfl,eb,rfl⟩
 ·exact OD hu I3 g ry rv λt4 I4=>⟨σ,H4,I4,q3⟩
 ·have eb':upd H3 a (.dT []) b=some (.tup (k.map kV)):=by
   rw[aL (λz=>by subst z;rw[e]at eb;cases eb)]
   exact eb
  refine OD hu (afS I3 e) (Q_.t bA eb' (by rw[sizeLine_eq];decide)) ry rv λt4 I4=>⟨σ,_,I4,?_⟩
  rw[ac3]
  exact q3
end
end
section
variable{prog:Program}{w:World}{A:Around}{E:Value->Shared->Prop}{s:Shared}{κ:Type}[DecidableEq κ]{knd:HeapKind prog w κ}{a:Addr}{xs:List (κ×Addr×Value)}
theorem Vp(hd:(a==sysModules)=false):MeetsIn prog w (Builtin.«dict.__len__» ⟨[.ref a],[]⟩) (λ_ R t=>∃ys:List (κ×Addr×Value),t.heap.DictOfH knd a ys/\R (.ok (.ret (.int ys.length t.toks))) {t with toks:=t.toks+1}):=
 .of_wp λA R t ⟨ys,hm,q⟩=>by
  obtain⟨o,es,ep,e1,_,e2,e3,_⟩:=hm
  show wpAny _ _ (dictSize a >>= _) _ _ t
  unfold dictSize
  refine zC (zC (wpAny_dictEntries e1 e2 (zI ?_)))
  show wpAny _ _ (Builtin.Dict.pendingCount a >>= _) _ _ t
  refine zC (wpAny_pendingCount_other hd (wpAny_ret_mkInt ?_))
  have sz:es.size=ys.length:=by rw[<-Array.length_toList,e3,zam]
  rw[Nat.add_zero,sz]
  exact q
theorem an8{Q:Value->Shared->Prop}(hd:(a==sysModules)=false)(hm:s.heap.DictOfH knd a xs)(hz:(xs.length:Int)<2 ^ 63)(q:Q (.int xs.length (s.toks+1)) {s with toks:=s.toks+1+1}):wpAny (model prog w) A (call (.builtin "len") [.ref a]) Q E s:=by
 refine Calls.call_function_entry kind_len plain_len entry_len (args_len1 _) ?_
 unfold Builtin.«len»
 refine zC (m:=oneArg "len" _) (zI (zC (m:=callSpecial? (.ref a) (Str.ofString "__len__")) ?_))
 refine zag (name:=Str.ofString "__len__") hm.typeIs F.slot_dict_len (call_meetsIn F.slot_dict_len hm.typeIs F.entry_dict_len (F.args_dict_len_1 _) (Vp (knd:=knd) hd) ⟨xs,hm,?_⟩)
 show wpAny (model prog w) _ _ _ _ {s with toks:=s.toks+1}
 refine zC (wpAny_holding (zI (zC (wpAny_letGo ?_))))
 show wpAny (model prog w) _ (if((xs.length:Nat):Int)<0 then _ else _) _ _ _
 rw[if_neg ()]
 show wpAny (model prog w) _ (if((xs.length:Nat):Int)>=2 ^ 63 then _ else _) _ _ _
 rw[if_neg ()]
 exact zC (wpAny_mkInt (zI ⟨_,rfl,q⟩))
end
theorem Zg:rM X (.builtin "len") (λxs H Q=>∃a kvs,xs=[V.ref a]/\H a=some (.dT kvs)/\Q (.int kvs.length) H):=by
 intro pins s σ H xs us Q I r h
 obtain⟨a,kvs,rfl,ha,q⟩:=h
 obtain⟨u,rfl,ru⟩:=vals1 r
 cases ru
 obtain⟨z,hd,ys,rel,dd⟩:=afQ I.hok ha
 have hl:=Paired.length rel
 refine an8 hd dd (by rw[<-hl];rw[sizeLine_eq]at z;omega) ⟨.int kvs.length,H,I.tok _,⟨_,by rw[hl]⟩,q⟩
end L2
namespace L2
open PySem PySem.W PyProof.Rows
section
variable{n:Nat}{O:KeyOrd}{k:Nat->O.α}
noncomputable def kk(k:Nat->O.α)(p:Array Nat)(i:Nat):O.α:=k (p.getD i 0)
end
end L2
namespace L2
open PySem PySem.Spec PySem.W PyProof.Rows
section
variable{X:Cx}{pins:List (Addr×Obj)}{σ:St}{H:Hp}{s:Shared}{A:Around}{E:Value->Shared->Prop}
theorem Inv.track(I:Inv X pins σ H s)(fp:CV X pins H a)(h0:X.s₀.heap.get? a=none)(new:fC X.prog X.w (upd H a o) s.heap a o):Inv X pins σ (upd H a o) s where
 ok:=I.ok
 os:=I.os
 bare:=I.bare
 base:={
  keep:=I.base.keep
  slot:=I.base.slot
  free:=λb ob e n hx=>by rw[aL (by rintro rfl;rw[h0]at e;cases e)];exact I.base.free b ob e n hx
  there:=I.base.there
  tups:=λb xs e=>by
   have:=I.base.tups b xs e
   rw[aL (bN this fp.1)];exact this
  zy:=λb ob xs e=>by
   have:=I.base.zy b ob xs e
   rw[aL (bN this fp.1)];exact this
  Cv:=λb ps e=>by
   obtain⟨ps',this⟩:=I.base.Cv b ps e
   exact⟨ps',by rw[aL (bN this fp.1)];exact this⟩}
 loc:=I.loc
 cell:=I.cell
 free:=by rw[aL (Ne.symm fp.2.1)];exact I.free
 lO:=λx c e=>by rw[aL (fp.2.2.2.2.1 x c e)];exact I.lO x c e
 pin:=λp hp=>by
  obtain⟨a1,a2,a3⟩:=I.pin p hp
  exact⟨a1,by rw[aL (fp.2.2.2.2.2 p hp)];exact a2,a3⟩
 hok:=uU.track I.hok fp.1 new
 len:=I.len
end
end L2
namespace L2
open PySem PySem.Spec PySem.W PySem.Calls PyProof.Rows
def alF(h:Heap)(d:Addr)(es:Array DictEntry)(ep:Nat):Prop:=∃o,h.get? d=some o/\o.ExactDict/\o.data= .dict es ep
section
variable{prog:Program}{w:World}{A:Around}{E:Value->Shared->Prop}{s:Shared}
theorem Vs{Q:Value->Shared->Prop}(hd:(d==sysModules)=false)(x:alF s.heap d es ep)
  (h:Q (.ref s.heap.objs.size) {s with heap:=s.heap.push {cls:= .type "dict_items",data:= .fields #[.ref d]}}):wpAny (model prog w) A (call (.builtin "dict.items") [.ref d]) Q E s:=by
 obtain⟨o,ho,ex,_⟩:=x
 have ty:s.TypeIs (.ref d) "dict" := ⟨o,ho,ex.1⟩
 refine uS PySem.F.slot_dict_items ty PySem.F.entry_dict_items ?_ (PySem.F.args_dict_items_1 _)
 unfold Builtin.«dict.items» Builtin.Dict.noArgs
 refine zC (zC (wpAny_notOrdered_dict ty (show wpAny _ _ (pure d) _ _ s from zI ?_)))
 show wpAny _ _ (Builtin.Dict.showsAll d >>= _) _ _ s
 unfold Builtin.Dict.showsAll
 rw[if_neg (by rw[hd];decide)]
 exact zC (zI (zC (wT (zI ⟨_,rfl,h⟩))))
end
section
variable{X:Cx}{pins:List (Addr×Obj)}{σ:St}{H:Hp}{s:Shared}{A:Around}{E:Value->Shared->Prop}
def Kq(v d:Addr):HO:= .ext λh=>h.IsItemsView v d
def agA:V->List V->Hp->VK->Prop:=λx us H Q=>∃d,x= .ref d/\us=[]/\IsD H d/\∀v,H v=none->Q (.ref v) (upd H v (Kq v d))
theorem afH(h:(dG P w).is k u=true):RelV (kV k) u:=by
 rcases fK (show LC k u=true from h)with⟨i,t,rfl,rfl⟩ | ⟨x,t,rfl,rfl⟩
 ·exact⟨t,rfl⟩
 ·exact⟨t,rfl⟩
theorem abl:MtR X "dict.items" agA:=by
 intro pins s σ H x xs v us Q I rx rs h
 obtain⟨d,rfl,rfl,dd,q⟩:=h
 cases rs
 obtain rfl:v= .ref d:=rx
 have ty:=Vu I dd
 have dd':(∃kvs,Rd H d (.dK kvs))\/∃kvs,Rd H d (.dT kvs):=dd
 have ents:∃es ep,alF s.heap d es ep:=by
  rcases dd' with⟨kvs,e⟩ | ⟨kvs,e⟩
  ·obtain⟨_,_,_,_,o,es,ep,ho,ex,hd,_⟩:=e.ok I.hok
   exact⟨es,ep,o,ho,ex,hd⟩
  ·obtain⟨_,_,_,_,o,es,ep,ho,ex,hd,_⟩:=e.ok I.hok
   exact⟨es,ep,o,ho,ex,hd⟩
 obtain⟨es,ep,en⟩:=ents
 refine Vs ty.2.2 en ?_
 have g:(s.heap.push {cls:= .type "dict_items",data:= .fields #[.ref d]}).IsItemsView s.heap.objs.size d:=⟨_,yB _ rfl,rfl,rfl⟩
 refine⟨.ref s.heap.objs.size,_,I.laid (t':=s.toks) (o:=Kq s.heap.objs.size d) (λb o e=>zD _ e) (zaa _) ⟨g,⟨_,yB _ rfl⟩,λh1 h2 a b=> ?_⟩,rfl,q _ (I.hok.fresh (zaa _))⟩
 obtain⟨o,e1,e2,e3⟩:=a
 exact⟨o,b o e1,e2,e3⟩
end
end L2
namespace L2
open PySem PySem.Spec PyProof.Rows
def afd(xs:List Str)(js:List Nat)(g:TG)(tt:TT)(te:TE)(σ:St)(Q:VK)(J:It)(H1:Hp):Prop:=
 ∃W:Nat->Nat->List V->Hp->Prop,(∃m,W 0 m [] H1)/\∀i m ys H,W i m ys H->
  (J.stop i H/\ys.length<=sizeLine/\∀p,H p=none->Q (.ref p) (upd H p (.lst ys)))\/
  (J.go i H/\∃N:List V->Hp->Prop,(∀ys' H',N ys' H'->ys'.length<=sizeLine/\∃m',m'<m/\W (i+1) m' ys' H')/\∀x H',J.Yc i H x H'->g x (Iw xs++caps js σ) H' λσ1 H1=>(σ1.length=(Iw xs++caps js σ).length/\σ1.drop xs.length=caps js σ)/\tt σ1 H1 λb H2=>
   if b=true then te σ1 H2 λy H3=>N (ys++[y]) H3 else N ys H2)
def agc(xs:List Str)(js:List Nat)(wi:TI)(g:TG)(tt:TT)(te:TE):TE:=λσ H Q=>wi σ H λJ H1=>afd xs js g tt te σ Q J H1
section
variable{X:Cx}{tg elt iter:Expr}{ifs:List Expr}{scope:Scope}{xs cs:List Str}{js:List Nat}{tt:TT}{te:TE}{pos:Pos}
theorem aa7(hc:X.calm=true)(xs cs:List Str)(js:List Nat)(hi:PI X (tg) iter wi)(hcap:uv X scope cs js)(ht:∀cl C fp s H,PTs (dz X scope cl C (xs++cs) fp s H) ifs tt)(he:∀cl C fp s H,PE (dz X scope cl C (xs++cs) fp s H) elt te)
  (hall:∀y∈scope.names,y.2= .free->y.1∈cs) (hcell:∀y∈scope.names,y.2≠ .cell) (hnames:∀y∈scope.names,y.2= .local->scope.names.lookup y.1=some .local) (hg:∀cl C fp s H,PG (dz X scope cl C (xs++cs) fp s H) tg g)
  (hkind:scope.kind= .function:=by rfl) (hs:∀v,foldedSetIterable iter X.env v=pure v:=by intro _;rfl):
  PE X (.ListComp elt [⟨tg,iter,ifs,0⟩] scope pos) (agc xs js wi g tt te):=by
 intro pins s σ H Q I h
 obtain⟨cl,abX,Ef,Nx⟩:=Ei (env:=X.env) (scope:=scope) λn hn=>by
  obtain⟨j,hj⟩:=List.getElem?_of_mem (hall _ hn rfl)
  obtain⟨_,_,_,_,k⟩:=hcap.get hj
  exact I.ok.has n k
 rw[eval_ListComp]
 refine wpAny_comprehension_free (use:=none) rfl hs abX hkind hnames (fU (hi pins s σ H _ I h) λv s1 h1=>fU h1 λitv s2 h2=> ?_)
 obtain⟨it,fp,tn,J,H2,e,I2,T,st2,f2,W,w0,step⟩:=h2
 subst e
 refine Jk (Q:=Q) (RR:=λacc C=>compPost (model X.prog X.w) X.A X.xe none (EP X pins σ Q) acc C) hc hcap ht he hcell hkind hg Ef Nx I2 T st2 f2 W w0 step λD C H3 s4 m' I4 hn hC hH q=> ?_
 exact⟨m',hn,λh' sb=>⟨.ref D,H3,I2.letGo I4 hC hH sb,rfl,q⟩⟩
end
end L2
namespace L2
open PySem PySem.Spec PySem.W PySem.Calls PyProof.Rows
section
variable{X:Cx}{pins:List (Addr×Obj)}{σ:St}{H:Hp}{s:Shared}
theorem ac2(hl:acc.length=ys.length)(h:∀(j:Nat) (v:Value),acc[j]? = some v->∃y,ys[j]? = some y/\RelV y v):Vals ys acc:=by
 induction ys generalizing acc with
 | nil=>cases acc with
  | nil=>exact .nil
  | cons _ _=>simp at hl
 | cons y ys ih=>cases acc with
  | nil=>simp at hl
  | cons v acc=>
   refine .cons ?_ (ih (by simpa using hl) λj u hu=> ?_)
   ·obtain⟨y',e,r⟩:=h 0 v rfl
    simp at e
    subst e
    exact r
   ·obtain⟨y',e,r⟩:=h (j+1) u (by simpa using hu)
    exact⟨y',by simpa using e,r⟩
theorem ahx{κ:Type}{kvs:List (κ×V)}{vs:List (κ×Value)}(r:KV kvs vs){j:Nat}{k:κ}{x:Value}(h:vs[j]? = some (k,x)):∃v,kvs[j]? = some (k,v)/\RelV v x:=by
 unfold KV at r
 induction r generalizing j with
 | nil=>simp at h
 | @cons p q _ _ a _ ih=>
  cases j with
  | zero=>
   simp at h
   subst h
   exact⟨p.2,by rw[<-show p.1=k from a.1];rfl,a.2⟩
  | succ j=>
   obtain⟨v,e,r⟩:=ih (j:=j) (by simpa using h)
   exact⟨v,by simpa using e,r⟩
end
end L2
namespace S
open PySem PySem.Spec PyProof.Rows L2
inductive D where
 | non | bl (b:Bool) | int (i:Int) | str (x:Str) | tup (ds:List D) | ref (n:Nat) | cl (ds:List D) | ty (n:String) | cls (c:Nat) | exc (c:Nat) (d:D) | nA (ds:List D)
inductive MO where
 | lst (ds:List D) | ins (c:Nat) (fs:List (Str×D)) | dk (kvs:List (Key×D)) | dt (kvs:List (List Key×D)) | fd (kvs:List (Key×D))
abbrev St:=L2.St
abbrev Mem:=List MO
abbrev Sl:=List (Option D)
inductive Out (α:Type) where
 | ok (a:α) (M:Mem)
 | exc (c:Nat) (d:D) (M:Mem)
 | bad
def Out.bind{α β:Type}(o:Out α)(f:α->Mem->Out β):Out β:=match o with
 | .ok a M=>f a M
 | .exc c d M=> .exc c d M
 | .bad=> .bad
@[simp] theorem Out.dU{α β:Type}(c:Nat)(d:D)(M:Mem)(f:α->Mem->Out β):(Out.exc c d M:Out α).bind f= .exc c d M:=id rfl
@[simp] theorem Out.bI{α β:Type}(a:α)(M:Mem)(f:α->Mem->Out β):(Out.ok a M).bind f=f a M:=id rfl
@[simp] theorem Out.b7{α β:Type}(f:α->Mem->Out β):(Out.bad:Out α).bind f= .bad:=id rfl
def FrL(K:Frag)(H:Hp)(a:Addr)(xs:List V):Prop:=(∃o,H a=some (.mK o (.lst xs)))\/
 ∃(o:Obj) (its:Array Value) (n:Nat),K.lookup a=some o/\o.cls= .type "list" /\ o.dict=none/\o.data= .seq its n/\its.size<=sizeLine/\Vals xs its.toList
theorem FrL.sq{K:Frag}{H:Hp}{a:Addr}{xs:List V}(h:FrL K H a xs):rZ K H a xs:=h.elim (λz=> .inl (.inr z)) .inr
def KT(K:Frag)(a:Addr)(xs:List V):Prop:=∃(o:Obj) (its:Array Value) (n:Nat),K.lookup a=some o/\o.cls= .type "tuple" /\ o.data= .seq its n/\its.size<=sizeLine/\Vals xs its.toList
mutual
inductive DV (K:Frag) (ct ι:Nat->Addr) (n:Nat) (H:Hp):D->V->Prop
 | non:DV K ct ι n H .non .non
 | bl (b:Bool):DV K ct ι n H (.bl b) (.bl b)
 | int (i:Int):DV K ct ι n H (.int i) (.int i)
 | str (x:Str):DV K ct ι n H (.str x) (.str x)
 | tup {a:Addr} {xs:List V} {ds:List D}:H a=some (.tup xs)->jo K ct ι n H ds xs->DV K ct ι n H (.tup ds) (.ref a)
 | ref {i:Nat}:i<n->DV K ct ι n H (.ref i) (.ref (ι i))
 | cl {a:Addr} {xs:List V} {ds:List D}:FrL K H a xs->jo K ct ι n H ds xs->DV K ct ι n H (.cl ds) (.ref a)
 | ty (s:String):DV K ct ι n H (.ty s) (.ty s)
 | cls (c:Nat):DV K ct ι n H (.cls c) (.ref (ct c))
 | exc {a dx:Addr} {c:Nat} {d:D} {v:V}:H a=some (xC a (ct c) dx)->H dx=some (.xd [("at",v)])->DV K ct ι n H d v->DV K ct ι n H (.exc c d) (.ref a)
 | nA {a:Addr} {xs:List V} {ds:List D}:KT K a xs->jo K ct ι n H ds xs->DV K ct ι n H (.nA ds) (.ref a)
inductive jo (K:Frag) (ct ι:Nat->Addr) (n:Nat) (H:Hp):List D->List V->Prop
 | nil:jo K ct ι n H [] []
 | cons {d:D} {x:V} {ds:List D} {xs:List V}:DV K ct ι n H d x->jo K ct ι n H ds xs->jo K ct ι n H (d::ds) (x::xs)
end
structure Ext(K:Frag)(ι:Nat->Addr)(n:Nat)(H:Hp)(ι':Nat->Addr)(n':Nat)(H':Hp):Prop where
 tup:∀a xs,H a=some (.tup xs)->H' a=some (.tup xs)
 mK:∀a xs,FrL K H a xs->FrL K H' a xs
 ex:∀a φ,H a=some (.ext φ)->H' a=some (.ext φ)
 xd:∀a fs,H a=some (.xd fs)->H' a=some (.xd fs)
 fz:∀a o u,H a=some (.mK o u)->H' a=some (.mK o u)
 le:n<=n'
 same:∀i,i<n->ι' i=ι i
theorem Ext.refl{K:Frag}{ι:Nat->Addr}{n:Nat}{H:Hp}:Ext K ι n H ι n H:=⟨λ_ _ h=>h,λ_ _ h=>h,λ_ _ h=>h,λ_ _ h=>h,λ_ _ _ h=>h,zaa _,λ_ _=>rfl⟩
theorem Ext.trans{K:Frag}{ι cB gk:Nat->Addr}{n n1 n2:Nat}{H H1 H2:Hp}(a:Ext K ι n H cB n1 H1)(b:Ext K cB n1 H1 gk n2 H2):Ext K ι n H gk n2 H2:=
 ⟨λx xs h=>b.tup x xs (a.tup x xs h),λx xs h=>b.mK x xs (a.mK x xs h),λx xs h=>b.ex x xs (a.ex x xs h),λx xs h=>b.xd x xs (a.xd x xs h),λx o u h=>b.fz x o u (a.fz x o u h),yY a.le b.le,λi hi=>(b.same i (yA hi a.le)).trans (a.same i hi)⟩
mutual
theorem DV.mono{K:Frag}{ct ι ι':Nat->Addr}{n n':Nat}{H H':Hp}(e:Ext K ι n H ι' n' H'):∀{d:D} {v:V},DV K ct ι n H d v->DV K ct ι' n' H' d v
 | _,_,.non=> .non
 | _,_,.bl b=> .bl b
 | _,_,.int i=> .int i
 | _,_,.str x=> .str x
 | _,_,.tup h hs=> .tup (e.tup _ _ h) (jo.mono e hs)
 | _,_,.ref (i:=i) h=>by rw[<-e.same i h];exact .ref (yA h e.le)
 | _,_,.cl h hs=> .cl (e.mK _ _ h) (jo.mono e hs)
 | _,_,.ty s=> .ty s
 | _,_,.cls c=> .cls c
 | _,_,.exc h1 h2 h3=> .exc (e.ex _ _ h1) (e.xd _ _ h2) (DV.mono e h3)
 | _,_,.nA h hs=> .nA h (jo.mono e hs)
theorem jo.mono{K:Frag}{ct ι ι':Nat->Addr}{n n':Nat}{H H':Hp}(e:Ext K ι n H ι' n' H'):∀{ds:List D} {vs:List V},jo K ct ι n H ds vs->jo K ct ι' n' H' ds vs
 | _,_,.nil=> .nil
 | _,_,.cons h hs=> .cons (DV.mono e h) (jo.mono e hs)
end
section
variable{K:Frag}{ct ι:Nat->Addr}{n:Nat}{H:Hp}
theorem jo.length:∀{ds:List D} {vs:List V},jo K ct ι n H ds vs->vs.length=ds.length
 | _,_,.nil=>rfl
 | _,_,.cons _ h=>congrArg (· + 1) h.length
theorem jo.at:∀{ds:List D} {vs:List V} {i:Nat} {d:D},jo K ct ι n H ds vs->ds[i]? = some d->∃v,vs[i]? = some v/\DV K ct ι n H d v
 | _,_,_,_,.nil,e=>by simp at e
 | _,_,0,_,.cons h _,e=>by simp at e;subst e;exact⟨_,rfl,h⟩
 | _,_,i+1,_,.cons _ hs,e=>by simpa using hs.at (i:=i) (by simpa using e)
theorem jo.append:∀{ds es:List D} {vs ws:List V},jo K ct ι n H ds vs->jo K ct ι n H es ws->jo K ct ι n H (ds++es) (vs++ws)
 | _,_,_,_,.nil,h=>h
 | _,_,_,_,.cons h hs,h'=> .cons h (hs.append h')
theorem jo.take:∀{ds:List D} {vs:List V} (k:Nat),jo K ct ι n H ds vs->jo K ct ι n H (ds.take k) (vs.take k)
 | _,_,0,_=>by simp;exact .nil
 | _,_,_+1,.nil=>by simp;exact .nil
 | _,_,k+1,.cons h hs=>by simp;exact .cons h (hs.take k)
theorem jo.drop:∀{ds:List D} {vs:List V} (k:Nat),jo K ct ι n H ds vs->jo K ct ι n H (ds.drop k) (vs.drop k)
 | _,_,0,h=>by simpa using h
 | _,_,_+1,.nil=>by simp;exact .nil
 | _,_,k+1,.cons _ hs=>by simp;exact hs.drop k
end
inductive O6 (K:Frag) (ct ι:Nat->Addr) (n:Nat) (H:Hp):List (Str×D)->List (Str×V)->Prop
 | nil:O6 K ct ι n H [] []
 | cons {x:Str} {d:D} {v:V} {fs:List (Str×D)} {vs:List (Str×V)}:DV K ct ι n H d v->O6 K ct ι n H fs vs->O6 K ct ι n H ((x,d)::fs) ((x,v)::vs)
theorem O6.mono{K:Frag}{ct ι ι':Nat->Addr}{n n':Nat}{H H':Hp}(e:Ext K ι n H ι' n' H'):∀{fs:List (Str×D)} {vs:List (Str×V)},O6 K ct ι n H fs vs->O6 K ct ι' n' H' fs vs
 | _,_,.nil=> .nil
 | _,_,.cons h hs=> .cons (h.mono e) (hs.mono e)
noncomputable def putD(f:Str)(d:D):List (Str×D)->List (Str×D)
 | []=>[(f,d)]
 | (x,e)::r=>if x=f then(x,d)::r else(x,e)::putD f d r
section
variable{K:Frag}{ct ι:Nat->Addr}{n:Nat}{H:Hp}
theorem O6.length:∀{fs:List (Str×D)} {vs:List (Str×V)},O6 K ct ι n H fs vs->vs.length=fs.length
 | _,_,.nil=>rfl
 | _,_,.cons _ h=>congrArg (· + 1) h.length
theorem O6.look:∀{fs:List (Str×D)} {vs:List (Str×V)} {d:D},O6 K ct ι n H fs vs->fs.lookup x=some d->∃v,vs.lookup x=some v/\DV K ct ι n H d v
 | _,_,_,.nil,e=>by simp at e
 | _,_,d,.cons (x:=y) h hs,e=>by
  rw[List.lookup_cons]at e ⊢
  cases z:x==y with
  | true=>rw[z]at e;exact⟨_,rfl,by cases e;exact h⟩
  | false=>rw[z]at e;exact hs.look e
theorem O6.afG:∀{fs:List (Str×D)} {vs:List (Str×V)},O6 K ct ι n H fs vs->fs.lookup x=none->vs.lookup x=none
 | _,_,.nil,_=>rfl
 | _,_,.cons (x:=y) h hs,e=>by
  rw[List.lookup_cons]at e ⊢
  cases z:x==y with
  | true=>rw[z]at e;cases e
  | false=>rw[z]at e;exact hs.afG e
end
inductive xq (K:Frag) (ct ι:Nat->Addr) (n:Nat) (H:Hp) {κ:Type}:List (κ×D)->List (κ×V)->Prop
 | nil:xq K ct ι n H [] []
 | cons {x:κ} {d:D} {v:V} {fs:List (κ×D)} {vs:List (κ×V)}:DV K ct ι n H d v->xq K ct ι n H fs vs->xq K ct ι n H ((x,d)::fs) ((x,v)::vs)
theorem xq.mono{K:Frag}{ct ι ι':Nat->Addr}{n n':Nat}{H H':Hp}(e:Ext K ι n H ι' n' H'){κ:Type}:∀{fs:List (κ×D)} {vs:List (κ×V)},xq K ct ι n H fs vs->xq K ct ι' n' H' fs vs
 | _,_,.nil=> .nil
 | _,_,.cons h hs=> .cons (h.mono e) (hs.mono e)
theorem xq.length{K:Frag}{ct ι:Nat->Addr}{n:Nat}{H:Hp}{κ:Type}:∀{fs:List (κ×D)} {vs:List (κ×V)},xq K ct ι n H fs vs->vs.length=fs.length
 | _,_,.nil=>rfl
 | _,_,.cons _ h=>congrArg (· + 1) h.length
def OR(K:Frag)(ct ι:Nat->Addr)(n:Nat)(H:Hp)(a:Addr):MO->Prop
 | .lst ds=>∃vs,H a=some (.lst vs)/\jo K ct ι n H ds vs
 | .ins c fs=>∃dx vs,H a=some (.ins (ct c) dx vs)/\O6 K ct ι n H fs vs
 | .dk kvs=>∃vs,H a=some (.dK vs)/\xq K ct ι n H kvs vs
 | .dt kvs=>∃vs,H a=some (.dT vs)/\xq K ct ι n H kvs vs
 | .fd kvs=>∃o vs,H a=some (.mK o (.dK vs))/\xq K ct ι n H kvs vs
structure Rl(K:Frag)(ct ι:Nat->Addr)(M:Mem)(H:Hp):Prop where
 inj:∀i j,i<M.length->j<M.length->ι i=ι j->i=j
 obj:∀(i:Nat) (o:MO),M[i]? = some o->OR K ct ι M.length H (ι i) o
structure Ws(K:Frag)(ct ι:Nat->Addr)(e:Sl)(M:Mem)(σ:St)(H:Hp):Prop where
 rl:Rl K ct ι M H
 len:σ.length=e.length
 env:∀(i:Nat) (d:D),e[i]? = some (some d)->∃v,σ[i]? = some (some v)/\DV K ct ι M.length H d v
section
variable{K:Frag}{ct ι:Nat->Addr}{M:Mem}{H:Hp}
theorem OR.some(h:OR K ct ι n H a o):∃u,H a=some u:=by
 cases o with
 | lst ds=>obtain⟨vs,e,_⟩:=h;exact⟨_,e⟩
 | ins c fs=>obtain⟨dx,vs,e,_⟩:=h;exact⟨_,e⟩
 | dk kvs=>obtain⟨vs,e,_⟩:=h;exact⟨_,e⟩
 | dt kvs=>obtain⟨vs,e,_⟩:=h;exact⟨_,e⟩
 | fd kvs=>obtain⟨o,vs,e,_⟩:=h;exact⟨_,e⟩
theorem QF(hp:∀b u,H p≠some (.mK b u))(h:FrL K H a xs):FrL K (upd H p o) a xs:=by
 rcases h with⟨b,h⟩ | h
 ·have ne:a≠p:=λe=>by subst e;exact hp _ _ h
  exact .inl ⟨b,by rw[aL ne];exact h⟩
 ·exact .inr h
theorem abi(hp:H p=none):∀b u,H p≠some (.mK b u):=λb u h=>by rw[hp]at h;cases h
theorem OR.keep(e:Ext K ι n H ι' n' H')(ea:a'=a)(hh:H' a=H a)(h:OR K ct ι n H a o):OR K ct ι' n' H' a' o:=by
 subst ea
 cases o with
 | lst ds=>obtain⟨vs,q,r⟩:=h;exact⟨vs,by rw[hh];exact q,r.mono e⟩
 | ins c fs=>obtain⟨dx,vs,q,r⟩:=h;exact⟨dx,vs,by rw[hh];exact q,r.mono e⟩
 | dk kvs=>obtain⟨vs,q,r⟩:=h;exact⟨vs,by rw[hh];exact q,r.mono e⟩
 | dt kvs=>obtain⟨vs,q,r⟩:=h;exact⟨vs,by rw[hh];exact q,r.mono e⟩
 | fd kvs=>obtain⟨o,vs,q,r⟩:=h;exact⟨o,vs,by rw[hh];exact q,r.mono e⟩
def iK(ι:Nat->Addr)(n:Nat)(p:Addr):Nat->Addr:=λi=>if i=n then p else ι i
theorem qL(hp:H p=none)(h:H a=some u):upd H p o a=some u:=by rw[aL (bN h hp)];exact h
theorem Ext.fresh(hp:H p=none):Ext K ι n H ι n (upd H p o):=⟨λ_ _ h=>qL hp h,λ_ _ h=>QF (abi hp) h,λ_ _ h=>qL hp h,λ_ _ h=>qL hp h,λ_ _ _ h=>qL hp h,zaa _,λ_ _=>rfl⟩
theorem Rl.lt(R:Rl K ct ι M H)(h:M[i]? = some o):∃u,H (ι i)=some u:=(R.obj i o h).some
theorem Rl.fresh(R:Rl K ct ι M H)(hp:H p=none):Rl K ct ι M (upd H p o):=by
 refine⟨R.inj,λi x h=> ?_⟩
 obtain⟨u,hu⟩:=R.lt h
 exact(R.obj i x h).keep (Ext.fresh hp) rfl (aL (bN hu hp))
theorem Ext.new(hp:H p=none):Ext K ι M.length H (iK ι M.length p) (M.length+1) (upd H p o):=
 ⟨λ_ _ h=>qL hp h,λ_ _ h=>QF (abi hp) h,λ_ _ h=>qL hp h,λ_ _ h=>qL hp h,λ_ _ _ h=>qL hp h,Nat.le_succ _,λi hi=>by unfold iK;rw[if_neg (xD hi)]⟩
theorem Rl.new(R:Rl K ct ι M H)(hp:H p=none)(h:OR K ct (iK ι M.length p) (M.length+1) (upd H p o) p x):Rl K ct (iK ι M.length p) (M++[x]) (upd H p o):=by
 have ne:∀i,i<M.length->ι i≠p:=λi hi=>by
  obtain⟨u,hu⟩:=R.lt (zab hi)
  exact bN hu hp
 have el:(M++[x]).length=M.length+1:=by simp
 refine⟨λi j hi hj e=> ?_,λi y hy=> ?_⟩
 ·rw[el]at hi hj
  unfold iK at e
  by_cases a:i=M.length
  ·by_cases b:j=M.length
   ·rw[a,b]
   ·rw[if_pos a,if_neg b]at e
    exact absurd e.symm (ne j ())
  ·by_cases b:j=M.length
   ·rw[if_neg a,if_pos b]at e
    exact absurd e (ne i ())
   ·rw[if_neg a,if_neg b]at e
    exact R.inj i j () () e
 ·rw[el]
  by_cases a:i<M.length
  ·rw[zad a]at hy
   obtain⟨u,hu⟩:=R.lt hy
   refine(R.obj i y hy).keep (Ext.new hp) ?_ (aL (bN hu hp))
   unfold iK
   rw[if_neg (xD a)]
  ·have hi:i<(M++[x]).length:=(List.getElem?_eq_some_iff.mp hy).1
   have e:i=M.length:=by rw[el]at hi;omega
   subst e
   rw[zac (zaa _)]at hy
   simp at hy
   subst hy
   have:iK ι M.length p M.length=p:=by unfold iK;rw[if_pos rfl]
   rw[this]
   exact h
theorem Ext.chg(h:H a=some u)(hu:∀xs,u≠ .tup xs)(hz:∀b x,u≠ .mK b x)(hx:∀φ,u≠ .ext φ:=by exact λ_ z=>nomatch z)(hd:∀fs,u≠ .xd fs:=by exact λ_ z=>nomatch z):Ext K ι n H ι n (upd H a o):=
 ⟨λb xs q=>by
  rw[aL (λe=>by subst e;rw[h]at q;exact hu xs (xI q))];exact q,λ_ _ q=>QF (λb x r=>by rw[h]at r;exact hz b x (xI r)) q,λb φ q=>by
  rw[aL (λe=>by subst e;rw[h]at q;exact hx φ (xI q))];exact q,λb fs q=>by
  rw[aL (λe=>by subst e;rw[h]at q;exact hd fs (xI q))];exact q,λb x y q=>by
  rw[aL (λe=>by subst e;rw[h]at q;exact hz x y (xI q))];exact q,zaa _,λ_ _=>rfl⟩
theorem Rl.chg(R:Rl K ct ι M H)(hi:i<M.length)(h:H (ι i)=some u)(hu:∀xs,u≠ .tup xs)(hz:∀b x,u≠ .mK b x)(hx:OR K ct ι M.length (upd H (ι i) o) (ι i) x)(hex:∀φ,u≠ .ext φ:=by exact λ_ z=>nomatch z)(hxd:∀fs,u≠ .xd fs:=by exact λ_ z=>nomatch z):Rl K ct ι (M.set i x) (upd H (ι i) o):=by
 refine⟨λj k hj hk e=>R.inj j k (by simpa using hj) (by simpa using hk) e,λj y hy=> ?_⟩
 rw[List.length_set]
 by_cases e:i=j
 ·subst e
  rw[zai hi]at hy
  cases hy
  exact hx
 ·rw[zah e]at hy
  have hj:j<M.length:=(List.getElem?_eq_some_iff.mp hy).1
  exact(R.obj j y hy).keep (Ext.chg h hu hz hex hxd) rfl (aL λz=>e (R.inj i j hi hj z.symm))
theorem Ws.ext(w:Ws K ct ι e M σ H)(x:Ext K ι M.length H ι' M'.length H')(r:Rl K ct ι' M' H'):Ws K ct ι' e M' σ H':=
 ⟨r,w.len,λi d h=>let⟨v,a,b⟩:=w.env i d h;⟨v,a,b.mono x⟩⟩
theorem Ws.set(w:Ws K ct ι e M σ H)(i:Nat)(h:DV K ct ι M.length H d v):Ws K ct ι (e.set i (some d)) M (σ.set i (some v)) H:=by
 refine⟨w.rl,by simp[w.len],λj d' hj=> ?_⟩
 by_cases z:i=j
 ·subst z
  have hi:i<e.length:=by have:=(List.getElem?_eq_some_iff.mp hj).1;simpa using this
  rw[zai hi]at hj
  cases hj
  exact⟨v,zai (by rw[w.len];exact hi),h⟩
 ·rw[zah z]at hj
  obtain⟨v',a,b⟩:=w.env j d' hj
  exact⟨v',by rw[zah z];exact a,b⟩
end
abbrev XW:=Addr->Addr->Hp->Prop
def wAt(W:bC)(σ:St):XW:=λC dx H=>W C dx σ H
def W0:bC:=λ_ _ _ _=>False
def gj{α β:Type}(rel:(Nat->Addr)->Mem->Hp->α->β->Prop)(K:Frag)(ct:Nat->Addr)(w:XW)(ι:Nat->Addr)(n:Nat)(H:Hp)(o:Out α)(Q:β->Hp->Prop):Prop:=match o with
 | .ok a M'=>∀ι' b H',Ext K ι n H ι' M'.length H'->Rl K ct ι' M' H'->rel ι' M' H' a b->Q b H'
 | .exc c d M'=>∀ι' dx v H',Ext K ι n H ι' M'.length H'->Rl K ct ι' M' H'->H' dx=some (.xd [("at",v)])->DV K ct ι' M'.length H' d v->w (ct c) dx H'
 | .bad=>False
def tG{α β:Type}(rel:(Nat->Addr)->Mem->Hp->α->β->Prop)(K:Frag)(ct:Nat->Addr)(W:bC)(m:Sl->Mem->Out α)(σ:St)(H:Hp)(Q:β->Hp->Prop):Prop:=
 ∃ι e M,Ws K ct ι e M σ H/\gj rel K ct (wAt W σ) ι M.length H (m e M) Q
abbrev dh(K:Frag)(ct:Nat->Addr):(Nat->Addr)->Mem->Hp->D->V->Prop:=λι M H d v=>DV K ct ι M.length H d v
abbrev Jx(K:Frag)(ct:Nat->Addr):(Nat->Addr)->Mem->Hp->List D->List V->Prop:=λι M H d v=>jo K ct ι M.length H d v
abbrev Hu:(Nat->Addr)->Mem->Hp->Bool->Bool->Prop:=λ_ _ _ a b=>a=b
abbrev ME:=Sl->Mem->Out D
abbrev MT:=Sl->Mem->Out Bool
abbrev MA:=Sl->Mem->Out (List D)
def SE(X:Cx)(ct:Nat->Addr)(W:bC)(e:Expr)(m:ME):Prop:=PE X e (tG (dh X.K ct) X.K ct W m)
def Zx(X:Cx)(ct:Nat->Addr)(W:bC)(e:Expr)(m:MT):Prop:=PT X e (tG Hu X.K ct W m)
def SW(X:Cx)(ct:Nat->Addr)(W:bC)(e:Expr)(m:MT):Prop:=PW X e (tG Hu X.K ct W m)
def SA(X:Cx)(ct:Nat->Addr)(W:bC)(es:List Expr)(m:MA):Prop:=PA X es (tG (Jx X.K ct) X.K ct W m)
theorem SW.pt(h:SW X ct W e m):Zx X ct W e m:=PW.pt h
section
variable{X:Cx}{ct:Nat->Addr}
theorem PE.imp(h:PE X e t)(hi:∀σ H Q,t' σ H Q->t σ H Q):PE X e t':=λpins s σ H Q I q=>h pins s σ H Q I (hi σ H Q q)
theorem PT.imp(h:PT X e t)(hi:∀σ H Q,t' σ H Q->t σ H Q):PT X e t':=λpins s σ H Q I q=>h pins s σ H Q I (hi σ H Q q)
theorem PW.imp(h:PW X e t)(hi:∀σ H Q,t' σ H Q->t σ H Q):PW X e t':=λwh pins s σ H Q I q=>h wh pins s σ H Q I (hi σ H Q q)
theorem PA.imp(h:PA X es t)(hi:∀σ H Q,t' σ H Q->t σ H Q):PA X es t':=λpos pins s σ H Q I q=>h pos pins s σ H Q I (hi σ H Q q)
end
theorem gj.ext{α β:Type}{rel:(Nat->Addr)->Mem->Hp->α->β->Prop}{K:Frag}{ct ι ι':Nat->Addr}{w:XW}{n n':Nat}{H H':Hp}{o:Out α}{Q:β->Hp->Prop}(h:gj rel K ct w ι n H o Q)(x:Ext K ι n H ι' n' H'):gj rel K ct w ι' n' H' o Q:=by
 cases o with
 | ok a M=>exact λgk b H2 x2 r q=>h gk b H2 (x.trans x2) r q
 | exc c d M=>exact λgk dx v H2 x2 r q1 q2=>h gk dx v H2 (x.trans x2) r q1 q2
 | bad=>exact h
theorem gj.mono{α β:Type}{rel:(Nat->Addr)->Mem->Hp->α->β->Prop}{K:Frag}{ct ι:Nat->Addr}{w:XW}{n:Nat}{H:Hp}{o:Out α}{Q Q':β->Hp->Prop}(h:gj rel K ct w ι n H o Q)(x:∀b H,Q b H->Q' b H):gj rel K ct w ι n H o Q':=by
 cases o with
 | ok a M=>exact λgk b H2 x2 r q=>x b H2 (h gk b H2 x2 r q)
 | exc c d M=>exact h
 | bad=>exact h
def apk{α β γ δ:Type}(d7:(Nat->Addr)->Mem->Hp->α->β->Prop)(WQ:(Nat->Addr)->Mem->Hp->γ->δ->Prop)(K:Frag)(ct:Nat->Addr)(W:bC)(f:α->Sl->Mem->Out γ)(σ:St)(Q:δ->Hp->Prop)(b:β)(H1:Hp):Prop:=
 ∃ι e M a,Ws K ct ι e M σ H1/\d7 ι M H1 a b/\gj WQ K ct (wAt W σ) ι M.length H1 (f a e M) Q
theorem bR{α β γ δ:Type}{d7:(Nat->Addr)->Mem->Hp->α->β->Prop}{WQ:(Nat->Addr)->Mem->Hp->γ->δ->Prop}{K:Frag}{ct:Nat->Addr}{W:bC}{ma:Sl->Mem->Out α}{f:α->Sl->Mem->Out γ}{σ:St}{H:Hp}{Q:δ->Hp->Prop}
  (h:tG WQ K ct W (λe M=>(ma e M).bind λa M1=>f a e M1) σ H Q):tG d7 K ct W ma σ H (apk d7 WQ K ct W f σ Q):=by
 obtain⟨ι,e,M,w,p⟩:=h
 refine⟨ι,e,M,w,?_⟩
 cases z:ma e M with
 | bad=>simp only[z,Out.b7]at p;exact p
 | exc xc xd xM=>simp only[z,Out.dU]at p;exact p
 | ok a M1=>
  simp only[z,Out.bI]at p
  exact λcB b H1 x r q=>⟨cB,e,M1,a,w.ext x r,q,p.ext x⟩
section
variable{X:Cx}{ct:Nat->Addr}{W:bC}{a b c:Expr}{ma mb mc:ME}{pos:Pos}
@[irreducible] def aq(i:Nat):ME:=λe M=>match e[i]? with
 | some (some d)=> .ok d M
 | _=> .bad
theorem fG(h:e[i]? = some (some d)):aq i e M= .ok d M:=by unfold aq;rw[h]
def mC(d:D):ME:=λ_ M=> .ok d M
theorem dY(h:PE X e t)(hi:∀σ H Q,tG (dh X.K ct) X.K ct W m σ H Q->t σ H Q):SE X ct W e m:=PE.imp h hi
theorem aj(i:Nat)(hN:X.N[i]? = some x:=by rfl)(hv:Vis X.env.scope x:=by first | exact Or.inl rfl | exact Or.inr (Or.inl rfl) | exact Or.inr (Or.inr rfl))(hd:(x==("__debug__" : Str))=false:=by decide)
  (hcd:(x==("__classdict__" : Str))=false:=by decide):SE X ct W (.Name x pos) (aq i):=dY (aa0 hN hv hd hcd) λσ H Q ⟨ι,e,M,w,p⟩=>by
 unfold aq at p
 cases z:e[i]? with
 | none=>rw[z]at p;exact p.elim
 | some o=>
  cases o with
  | none=>rw[z]at p;exact p.elim
  | some d=>
   rw[z]at p
   obtain⟨v,hv,dv⟩:=w.env i d z
   exact⟨v,hv,p ι v H .refl w.rl dv⟩
theorem Rx(dv:∀ι n,DV X.K ct ι n H d v)(h:tG (dh X.K ct) X.K ct W (mC d) σ H Q):tC v σ H Q:=by
 obtain⟨ι,e,M,w,p⟩:=h
 exact p ι v H .refl w.rl (dv _ _)
theorem aA{i j pos}:SE X ct W (.Constant (.int i) j pos) (mC (.int i)):=dY agT λ_ _ _ h=>Rx (λ_ _=> .int i) h
theorem lH{b j pos}:SE X ct W (.Constant (.bool b) j pos) (mC (.bl b)):=dY aj2 λ_ _ _ h=>Rx (λ_ _=> .bl b) h
theorem oX{j pos}:SE X ct W (.Constant .none j pos) (mC .non):=dY agR λ_ _ _ h=>Rx (λ_ _=> .non) h
theorem bF{x j pos}:SE X ct W (.Constant (.str x) j pos) (mC (.str x)):=dY agO λ_ _ _ h=>Rx (λ_ _=> .str x) h
abbrev su:=D->D->Mem->Out D
def aC(op:su)(ma mb:ME):ME:=λe M=>(ma e M).bind λd M1=>(mb e M1).bind λd' M2=>op d d' M2
def Q8(K:Frag)(ct:Nat->Addr)(op:su)(r:R2):Prop:=
 ∀{w:XW} ι M H d d' v v' Q,Rl K ct ι M H->DV K ct ι M.length H d v->DV K ct ι M.length H d' v'->gj (dh K ct) K ct w ι M.length H (op d d' M) Q->r v v' H Q
def gF(X:Cx)(ct:Nat->Addr)(f:Value->Value->Sem Value)(op:su):Prop:=∃r,uT X f r/\Q8 X.K ct op r
theorem Kz(hs:Q8 X.K ct op r)(h:tG (dh X.K ct) X.K ct W (aC op ma mb) σ H Q):
  tOp r (tG (dh X.K ct) X.K ct W ma) (tG (dh X.K ct) X.K ct W mb) σ H Q:=by
 obtain⟨ι,e,M,w,p⟩:=bR (d7:=dh X.K ct) h
 refine⟨ι,e,M,w,p.mono ?_⟩
 rintro x H1 ⟨cB,e1,M1,d1,w1,q1,p1⟩
 refine⟨cB,e1,M1,w1,?_⟩
 cases z:mb e1 M1 with
 | bad=>simp only[z,Out.b7]at p1;exact p1
 | exc xc xd xM=>simp only[z,Out.dU]at p1;exact p1
 | ok d2 M2=>
  simp only[z,Out.bI]at p1
  exact λgk y H2 x2 r2 q2=>hs gk M2 H2 d1 d2 x y Q r2 (q1.mono x2) q2 (p1.ext x2)
theorem aO(h:gF X ct (binaryOp op) sop)(ha:SE X ct W a ma)(hb:SE X ct W b mb):SE X ct W (.BinOp a op b pos) (aC sop ma mb):=by
 obtain⟨r,ho,hs⟩:=h
 exact dY (ajZ ho ha hb) λσ H Q q=>Kz hs q
theorem dg(h:gF X ct (compareOp op) sop)(ha:SE X ct W a ma)(hb:SE X ct W b mb)(hm:behindInMarks op b=false):SE X ct W (.Compare a [op] [b] pos) (aC sop ma mb):=by
 obtain⟨r,ho,hs⟩:=h
 exact dY (adZ ho ha hb hm) λσ H Q q=>Kz hs q
def Zr(d:D)(M:Mem):Out Bool:=match d with
 | .bl b=> .ok b M
 | _=> .bad
def aY(m:ME):MT:=λe M=>(m e M).bind Zr
theorem Rt{Q:Bool->Hp->Prop}(hi:∀Q,tG (dh X.K ct) X.K ct W m σ H Q->t σ H Q)(h:tG Hu X.K ct W (aY m) σ H Q):afk t σ H Q:=by
 refine hi _ ?_
 obtain⟨ι,e,M,w,p⟩:=bR (d7:=dh X.K ct) (f:=λd _ M=>Zr d M) h
 refine⟨ι,e,M,w,p.mono ?_⟩
 rintro x H1 ⟨cB,e1,M1,d1,w1,q1,p1⟩
 cases q1 with
 | bl b=>exact⟨b,rfl,p1 cB b H1 .refl w1.rl rfl⟩
 | _=>exact False.elim p1
theorem aV(h:gF X ct (compareOp op) sop)(ha:SE X ct W a ma)(hb:SE X ct W b mb)(hm:behindInMarks op b=false):Zx X ct W (.Compare a [op] [b] pos) (aY (aC sop ma mb)):=by
 obtain⟨r,ho,hs⟩:=h
 exact PT.imp (adJ ho ha hb hm) λσ H Q q=>Rt (λQ q=>Kz hs q) q
theorem uZ(h:SE X ct W a m)(he:∀whole,isTrue a X.env whole=(do let v <-whole;standAt a.pos;holding [v] (truthy v)):=by intro _;rfl):Zx X ct W a (aY m):=
 PT.imp (agF h he) λσ H Q q=>Rt (λQ q=>q) q
def mUn(op:D->Mem->Out D)(ma:ME):ME:=λe M=>(ma e M).bind op
def UnS(X:Cx)(ct:Nat->Addr)(f:Value->Sem Value)(op:D->Mem->Out D):Prop:=∃r,UnR X f r/\∀{w:XW} ι M H d v Q,Rl X.K ct ι M H->DV X.K ct ι M.length H d v->gj (dh X.K ct) X.K ct w ι M.length H (op d M) Q->r v H Q
theorem ajr(h:UnS X ct (unaryOp op) sop)(ha:SE X ct W a ma):SE X ct W (.UnaryOp op a pos) (mUn sop ma):=by
 obtain⟨r,ho,hs⟩:=h
 refine dY (ajX ho ha) λσ H Q q=> ?_
 obtain⟨ι,e,M,w,p⟩:=bR (d7:=dh X.K ct) (f:=λd _ M=>sop d M) q
 exact⟨ι,e,M,w,p.mono λx H1 ⟨cB,e1,M1,d1,w1,q1,p1⟩=>hs cB M1 H1 d1 x Q w1.rl q1 p1⟩
variable{t u:MT}{rest:List Expr}
def Nu(t u:MT):MT:=λe M=>(t e M).bind λk M1=>if k=true then u e M1 else .ok false M1
def YK(t u:MT):MT:=λe M=>(t e M).bind λk M1=>if k=true then .ok true M1 else u e M1
def YL(t:MT):MT:=λe M=>(t e M).bind λk M1=> .ok (!k) M1
theorem BX(ha:Zx X ct W a t):SW X ct W (.BoolOp .And [a] pos) t:=adF ha
theorem zT(ha:Zx X ct W a t):SW X ct W (.BoolOp .Or [a] pos) t:=agD ha
theorem zV(ha:Zx X ct W a t)(hb:SW X ct W (.BoolOp .And (b::rest) pos) u):SW X ct W (.BoolOp .And (a::b::rest) pos) (Nu t u):=PW.imp (agE ha hb) λσ H Q q=>by
 obtain⟨ι,e,M,w,p⟩:=bR (d7:=Hu) (f:=λk e M1=>if k=true then u e M1 else .ok false M1) q
 refine⟨ι,e,M,w,p.mono ?_⟩
 rintro k H1 ⟨cB,e1,M1,d1,w1,q1,p1⟩
 have L_:d1=k:=q1;subst L_
 cases d1 with
 | true=>exact⟨cB,e1,M1,w1,p1⟩
 | false=>exact p1 cB false H1 .refl w1.rl rfl
theorem zU(ha:Zx X ct W a t)(hb:SW X ct W (.BoolOp .Or (b::rest) pos) u):SW X ct W (.BoolOp .Or (a::b::rest) pos) (YK t u):=PW.imp (ajU ha hb) λσ H Q q=>by
 obtain⟨ι,e,M,w,p⟩:=bR (d7:=Hu) (f:=λk e M1=>if k=true then .ok true M1 else u e M1) q
 refine⟨ι,e,M,w,p.mono ?_⟩
 rintro k H1 ⟨cB,e1,M1,d1,w1,q1,p1⟩
 have L_:d1=k:=q1;subst L_
 cases d1 with
 | false=>exact⟨cB,e1,M1,w1,p1⟩
 | true=>exact p1 cB true H1 .refl w1.rl rfl
theorem Pk(ha:Zx X ct W a t):Zx X ct W (.UnaryOp .Not a pos) (YL t):=PT.imp (agG ha) λσ H Q q=>by
 obtain⟨ι,e,M,w,p⟩:=bR (d7:=Hu) (f:=λk e M1=> .ok (!k) M1) q
 refine⟨ι,e,M,w,p.mono ?_⟩
 rintro k H1 ⟨cB,e1,M1,d1,w1,q1,p1⟩
 have L_:d1=k:=q1;subst L_
 exact p1 cB _ H1 .refl w1.rl rfl
def wR(ma mb:ME):ME:=λe M=>(ma e M).bind λd M1=>(Zr d M1).bind λk M2=>if k=true then mb e M2 else .ok (.bl false) M2
def Th(ma mb:ME):ME:=λe M=>(ma e M).bind λd M1=>(Zr d M1).bind λk M2=>if k=true then .ok (.bl true) M2 else mb e M2
def W9(ma:ME):ME:=λe M=>(ma e M).bind λd M1=>(Zr d M1).bind λk M2=> .ok (.bl (!k)) M2
theorem mq{op}(h:SE X ct W a m):SE X ct W (.BoolOp op [a] pos) m:=agP h
theorem u_(ha:SE X ct W a ma)(hb:SE X ct W (.BoolOp .And (b::rest) pos) mb):SE X ct W (.BoolOp .And (a::b::rest) pos) (wR ma mb):=dY (agV ha hb) λσ H Q q=>by
 obtain⟨ι,e,M,w,p⟩:=bR (d7:=dh X.K ct) (f:=λd e M1=>(Zr d M1).bind λk M2=>if k=true then mb e M2 else .ok (.bl false) M2) q
 refine⟨ι,e,M,w,p.mono ?_⟩
 rintro x H1 ⟨cB,e1,M1,d1,w1,q1,p1⟩
 cases q1 with
 | bl k=>
  refine⟨k,rfl,?_⟩
  simp only[Zr,Out.bI]at p1
  cases k with
  | true=>exact⟨cB,e1,M1,w1,p1⟩
  | false=>exact p1 cB _ H1 .refl w1.rl (.bl false)
 | _=>exact False.elim p1
theorem RK(ha:SE X ct W a ma)(hb:SE X ct W (.BoolOp .Or (b::rest) pos) mb):SE X ct W (.BoolOp .Or (a::b::rest) pos) (Th ma mb):=dY (ajY ha hb) λσ H Q q=>by
 obtain⟨ι,e,M,w,p⟩:=bR (d7:=dh X.K ct) (f:=λd e M1=>(Zr d M1).bind λk M2=>if k=true then .ok (.bl true) M2 else mb e M2) q
 refine⟨ι,e,M,w,p.mono ?_⟩
 rintro x H1 ⟨cB,e1,M1,d1,w1,q1,p1⟩
 cases q1 with
 | bl k=>
  refine⟨k,rfl,?_⟩
  simp only[Zr,Out.bI]at p1
  cases k with
  | false=>exact⟨cB,e1,M1,w1,p1⟩
  | true=>exact p1 cB _ H1 .refl w1.rl (.bl true)
 | _=>exact False.elim p1
theorem aam(ha:SE X ct W a ma):SE X ct W (.UnaryOp .Not a pos) (W9 ma):=dY (agQ ha) λσ H Q q=>by
 obtain⟨ι,e,M,w,p⟩:=bR (d7:=dh X.K ct) (f:=λd _ M1=>(Zr d M1).bind λk M2=>(Out.ok (D.bl (!k)) M2:Out D)) q
 refine⟨ι,e,M,w,p.mono ?_⟩
 rintro x H1 ⟨cB,e1,M1,d1,w1,q1,p1⟩
 cases q1 with
 | bl k=>exact⟨k,rfl,p1 cB _ H1 .refl w1.rl (.bl _)⟩
 | _=>exact False.elim p1
def mIf(t:MT)(ma mb:ME):ME:=λe M=>(t e M).bind λk M1=>if k=true then ma e M1 else mb e M1
theorem ajs(hc:Zx X ct W c t)(ha:SE X ct W a ma)(hb:SE X ct W b mb):SE X ct W (.IfExp c a b pos) (mIf t ma mb):=dY (aa3 hc ha hb) λσ H Q q=>by
 obtain⟨ι,e,M,w,p⟩:=bR (d7:=Hu) (f:=λk e M1=>if k=true then ma e M1 else mb e M1) q
 refine⟨ι,e,M,w,p.mono ?_⟩
 rintro k H1 ⟨cB,e1,M1,d1,w1,q1,p1⟩
 have L_:d1=k:=q1;subst L_
 cases d1 with
 | true=>exact⟨cB,e1,M1,w1,p1⟩
 | false=>exact⟨cB,e1,M1,w1,p1⟩
variable{es:List Expr}{ms:MA}
def aF:MA:=λ_ M=> .ok [] M
def au(m:ME)(ms:MA):MA:=λe M=>(m e M).bind λd M1=>(ms e M1).bind λds M2=> .ok (d::ds) M2
theorem az:SA X ct W [] aF:=PA.imp agW λσ H Q ⟨ι,e,M,w,p⟩=>p ι [] H .refl w.rl .nil
theorem ao(ha:SE X ct W a ma)(hr:SA X ct W es ms)(hs:starEach (a::es) X.env=(false,eval a X.env)::starEach es X.env:=by rfl):SA X ct W (a::es) (au ma ms):=PA.imp (ad1 ha hr hs) λσ H Q q=>by
 obtain⟨ι,e,M,w,p⟩:=bR (d7:=dh X.K ct) (f:=λd e M1=>(ms e M1).bind λds M2=> .ok (d::ds) M2) q
 refine⟨ι,e,M,w,p.mono ?_⟩
 rintro x H1 ⟨cB,e1,M1,d1,w1,q1,p1⟩
 refine⟨cB,e1,M1,w1,?_⟩
 cases z:ms e1 M1 with
 | bad=>simp only[z,Out.b7]at p1;exact p1
 | exc xc xd xM=>simp only[z,Out.dU]at p1;exact p1
 | ok ds M2=>
  simp only[z,Out.bI]at p1
  exact λgk xs H2 x2 r2 q2=>p1 gk (x::xs) H2 x2 r2 (.cons (q1.mono x2) q2)
def gw(ms:MA):ME:=λe M=>(ms e M).bind λds M1=>if ds.length<=sizeLine then .ok (.tup ds) M1 else .bad
def A_(ms:MA):ME:=λe M=>(ms e M).bind λds M1=>if ds.length<=sizeLine then .ok (.ref M1.length) (M1++[.lst ds])else .bad
theorem Ga{w:XW}{K:Frag}{ι:Nat->Addr}{M:Mem}{H:Hp}{ds:List D}{xs:List V}{Q:VK}{p:Addr}(R:Rl K ct ι M H)(h:jo K ct ι M.length H ds xs)(hp:H p=none)(q:gj (dh K ct) K ct w ι M.length H (.ok (.tup ds) M) Q):Q (.ref p) (upd H p (.tup xs)):=
 q ι (.ref p) _ (Ext.fresh hp) (R.fresh hp) (.tup bA (h.mono (Ext.fresh hp)))
theorem tD{w:XW}{K:Frag}{ι:Nat->Addr}{M:Mem}{H:Hp}{ds:List D}{xs:List V}{Q:VK}{p:Addr}(R:Rl K ct ι M H)(h:jo K ct ι M.length H ds xs)(hp:H p=none)(q:gj (dh K ct) K ct w ι M.length H (.ok (.ref M.length) (M++[.lst ds])) Q):Q (.ref p) (upd H p (.lst xs)):=by
 have el:(M++[MO.lst ds]).length=M.length+1:=by simp
 have x:Ext K ι M.length H (iK ι M.length p) (M.length+1) (upd H p (.lst xs)):=Ext.new hp
 have e:(iK ι M.length p) M.length=p:=by unfold iK;rw[if_pos rfl]
 have dv:DV K ct (iK ι M.length p) (M++[MO.lst ds]).length (upd H p (.lst xs)) (.ref M.length) (.ref p):=by
  have:=DV.ref (K:=K) (ct:=ct) (ι:=iK ι M.length p) (n:=(M++[MO.lst ds]).length) (H:=upd H p (.lst xs)) (i:=M.length) (by rw[el];omega)
  rw[e]at this
  exact this
 exact q (iK ι M.length p) (.ref p) _ (by rw[el];exact x) (R.new hp ⟨xs,bA,h.mono x⟩) dv
theorem cA{x1}(h:SA X ct W es ms):SE X ct W (.Tuple es x1 pos) (gw ms):=dY (agN h) λσ H Q q=>by
 obtain⟨ι,e,M,w,p⟩:=bR (d7:=Jx X.K ct) (f:=λds _ M1=>if ds.length<=sizeLine then .ok (D.tup ds) M1 else .bad) q
 refine⟨ι,e,M,w,p.mono ?_⟩
 rintro xs H1 ⟨cB,e1,M1,ds,w1,q1,p1⟩
 by_cases z:ds.length<=sizeLine
 ·simp only[z,if_true]at p1
  exact⟨by rw[q1.length];exact z,λpp hp=>Ga w1.rl q1 hp p1⟩
 ·simp only[z,if_false]at p1
  exact p1.elim
theorem u9(h:SA X ct W es ms):SE X ct W (.List es pos) (A_ ms):=dY (agS h) λσ H Q q=>by
 obtain⟨ι,e,M,w,p⟩:=bR (d7:=Jx X.K ct) (f:=λds _ M1=>if ds.length<=sizeLine then .ok (D.ref M1.length) (M1++[.lst ds])else .bad) q
 refine⟨ι,e,M,w,p.mono ?_⟩
 rintro xs H1 ⟨cB,e1,M1,ds,w1,q1,p1⟩
 by_cases z:ds.length<=sizeLine
 ·simp only[z,if_true]at p1
  exact⟨by rw[q1.length];exact z,λpp hp=>tD w1.rl q1 hp p1⟩
 ·simp only[z,if_false]at p1
  exact p1.elim
noncomputable def j5(cs:List Nat)(f:Str)(d:D)(M:Mem):Out D:=match d with
 | .ref n=>match M[n]? with
  | some (.ins c fs)=>if c∈cs then(match fs.lookup f with
   | some v=> .ok v M
   | none=> .bad)else .bad
  | _=> .bad
 | _=> .bad
def cz(cs:List Nat)(m:ME)(f:Str):ME:=λe M=>(m e M).bind (j5 cs f)
def v5(K:Frag)(ct:Nat->Addr)(f:Str):List Nat->Prop
 | []=>True
 | c::cs=>(M_ K (ct c)/\vZ K (ct c) f)/\v5 K ct f cs
theorem v5.get{K:Frag}{ct:Nat->Addr}{f:Str}:∀{cs:List Nat} {c:Nat},v5 K ct f cs->c∈cs->M_ K (ct c)/\vZ K (ct c) f
 | [],_,_,h=>by simp at h
 | c::cs,d,⟨a,r⟩,h=>by
  rcases List.mem_cons.mp h with e | e
  ·subst e;exact a
  ·exact r.get e
theorem nW{K:Frag}{ι:Nat->Addr}{n:Nat}{H:Hp}{i:Nat}{v:V}(h:DV K ct ι n H (.ref i) v):i<n/\v= .ref (ι i):=by cases h with | ref h=>exact⟨h,rfl⟩
theorem aX(hc:v5 X.K ct f cs)(he:SE X ct W a ma)(hb:attributeBase a f X.env (eval a X.env)=eval a X.env:=by rfl):SE X ct W (.Attribute a f pos) (cz cs ma f):=dY (agU he hb) λσ H Q q=>by
 obtain⟨ι,e,M,w,p⟩:=bR (d7:=dh X.K ct) (f:=λd _ M1=>j5 cs f d M1) q
 refine⟨ι,e,M,w,p.mono ?_⟩
 rintro x H1 ⟨cB,e1,M1,d1,w1,q1,p1⟩
 cases d1 with
 | ref n=>
  obtain⟨hn,rfl⟩:=nW q1
  simp only[j5]at p1
  cases z:M1[n]? with
  | none=>simp only[z]at p1;exact p1.elim
  | some o=>
   cases o with
   | ins c fs=>
    simp only[z]at p1
    by_cases hcs:c∈cs
    ·simp only[hcs,if_true]at p1
     cases z2:fs.lookup f with
     | none=>simp only[z2]at p1;exact p1.elim
     | some d=>
      simp only[z2]at p1
      obtain⟨dx,vs,hH,fv⟩:=w1.rl.obj n _ z
      obtain⟨v,hv,dv⟩:=fv.look z2
      exact⟨_,_,dx,vs,v,rfl,hH,(hc.get hcs).1,(hc.get hcs).2,hv,p1 cB v H1 .refl w1.rl dv⟩
    ·simp only[hcs,if_false]at p1
     exact p1.elim
   | _=>simp only[z]at p1;exact p1.elim
 | _=>exact p1.elim
abbrev Fn:=List D->Mem->Out D
def wE(E:XK):XW:=λC dx H=>E (.ref C) (some dx) H
theorem gj.wish{α β:Type}{rel:(Nat->Addr)->Mem->Hp->α->β->Prop}{K:Frag}{ct ι:Nat->Addr}{w w':XW}{n:Nat}{H:Hp}{o:Out α}{Q:β->Hp->Prop}(h:gj rel K ct w ι n H o Q)(x:∀C dx H,w C dx H->w' C dx H):gj rel K ct w' ι n H o Q:=by
 cases o with
 | ok a M=>exact h
 | exc c d M=>exact λgk dx v H2 x2 r q1 q2=>x _ _ _ (h gk dx v H2 x2 r q1 q2)
 | bad=>exact h
theorem gj.toE{α β:Type}{rel:(Nat->Addr)->Mem->Hp->α->β->Prop}{K:Frag}{ct ι:Nat->Addr}{W:bC}{σ:St}{n:Nat}{H:Hp}{o:Out α}{Q:β->Hp->Prop}(h:gj rel K ct (wAt W σ) ι n H o Q):gj rel K ct (wE (EW W σ)) ι n H o Q:=
 h.wish λC dx _ q=>⟨C,dx,rfl,rfl,q⟩
def spS(K:Frag)(ct:Nat->Addr)(fn:Fn)(ar:Nat):Sp:=λvs H Q E=>∃ι ds M,ds.length=ar/\Rl K ct ι M H/\jo K ct ι M.length H ds vs/\gj (dh K ct) K ct (wE E) ι M.length H (fn ds M) Q
inductive Cst:D->V->Value->Prop
 | bl (b:Bool):Cst (.bl b) (.bl b) (.bool b)
 | non:Cst .non .non .none
 | str (x:Str) (t:Tok):Cst (.str x) (.str x) (.str x t)
inductive Ez:List D->List V->List Value->Prop
 | nil:Ez [] [] []
 | cons {d:D} {v:V} {u:Value} {ds:List D} {vs:List V} {us:List Value}:Cst d v u->Ez ds vs us->Ez (d::ds) (v::vs) (u::us)
theorem Cst.dv{K:Frag}{ι:Nat->Addr}{n:Nat}{H:Hp}{d:D}{v:V}{u:Value}(h:Cst d v u):DV K ct ι n H d v:=by
 cases h with
 | bl b=>exact .bl b
 | non=>exact .non
 | str x t=>exact .str x
theorem Cst.val{d:D}{v:V}{u:Value}(h:Cst d v u):RelV v u:=by
 cases h with
 | bl b=>exact rfl
 | non=>exact rfl
 | str x t=>exact⟨_,rfl⟩
theorem Ez.dv{K:Frag}{ι:Nat->Addr}{n:Nat}{H:Hp}{ds:List D}{vs:List V}{us:List Value}(h:Ez ds vs us):jo K ct ι n H ds vs:=by
 induction h with
 | nil=>exact .nil
 | cons c _ ih=>exact .cons c.dv ih
theorem Ez.vals(h:Ez ds vs us):Vals vs us:=by
 induction h with
 | nil=>exact .nil
 | cons c _ ih=>exact .cons c.val ih
def bG(fn:Fn)(ar:Nat)(dv:List D)(ms:MA):ME:=λe M=>(ms e M).bind λds M1=>if(ds++dv).length=ar then fn (ds++dv) M1 else .bad
variable{k:Nat}{f:Addr}{fd:FuncData}{ps:List Str}{fn:Fn}{dv:List D}{zA:List V}{Za:List Value}{x:Str}{p:Pos}
theorem aab(hd:Ez dv zA Za)(h:tG (dh X.K ct) X.K ct W (bG fn ps.length dv ms) σ H Q):aac (spS X.K ct fn ps.length) zA W (tG (Jx X.K ct) X.K ct W ms) σ H Q:=by
 obtain⟨ι,e,M,w,p⟩:=bR (d7:=Jx X.K ct) (f:=λds _ M1=>if(ds++dv).length=ps.length then fn (ds++dv) M1 else .bad) h
 refine⟨ι,e,M,w,p.mono ?_⟩
 rintro vs H1 ⟨cB,e1,M1,ds,w1,q1,p1⟩
 by_cases z:(ds++dv).length=ps.length
 ·simp only[z,if_true]at p1
  exact⟨cB,ds++dv,M1,z,w1.rl,q1.append hd.dv,p1.toE⟩
 ·simp only[z,if_false]at p1
  exact p1.elim
theorem aZ(F:ie X.prog X.w X.K X.mg X.base (EY X.prog X.w) k f fd ps (spS X.K ct fn ar))(hx:Tk X W)(hr:iM k X.A)(hg:Gl X x)(hm:X.mg x=some (.ref f))(hk:keepIn X.K (.ref f)=true)(hb:Binds X.K fd ps Za)(hd:Ez dv zA Za)
  (ha:SA X ct W (a::es) ms) (hdb:(x==("__debug__" : Str))=false:=by decide) (he:starEach (a::es) X.env=(false,eval a X.env)::starEach es X.env:=by rfl) (hpl:(backTo pos (starEach es X.env)).any (·.1)=false:=by rfl) (har:ps.length=ar:=by rfl):SE X ct W (.Call (.Name x p) (a::es) [] pos) (bG fn ar dv ms):=by
 subst har
 exact dY (aa8 F hr hg hm hk hb hd.vals hx ha hdb he hpl) λσ H Q q=>aab hd q
noncomputable def tW(k:Nat)(m:Str)(d:D)(M:Mem):Bool:=match d with
 | .ref n=>match M[n]? with
  | some (.ins c fs)=>c==k&&(fs.lookup m).isNone
  | _=>false
 | _=>false
noncomputable def aU(k:Nat)(m:Str)(fn:Fn)(ar:Nat)(dv:List D)(mo:ME)(ms:MA):ME:=λe M=>(mo e M).bind λd M1=>if tW k m d M1=true then(ms e M1).bind λds M2=>if(d::(ds++dv)).length=ar then fn (d::(ds++dv)) M2 else .bad else .bad
theorem abT{K:Frag}{ι:Nat->Addr}{M:Mem}{H:Hp}{k:Nat}{m:Str}{d:D}{v:V}(R:Rl K ct ι M H)(h:tW k m d M=true)(q:DV K ct ι M.length H d v):∃a dx fs,v= .ref a/\H a=some (.ins (ct k) dx fs)/\fs.lookup m=none:=by
 cases d with
 | ref n=>
  obtain⟨hn,rfl⟩:=nW q
  unfold tW at h
  cases z:M[n]? with
  | none=>simp only[z]at h;cases h
  | some o=>
   cases o with
   | ins c fs=>
    simp only[z,Bool.and_eq_true,beq_iff_eq,Option.isNone_iff_eq_none]at h
    obtain⟨rfl,hl⟩:=h
    obtain⟨dx,vs,hH,fv⟩:=R.obj n _ z
    exact⟨_,dx,vs,rfl,hH,fv.afG hl⟩
   | _=>simp only[z]at h;cases h
 | _=>exact absurd h xA
theorem Ru(hd:Ez dv zA Za)(h:tG (dh X.K ct) X.K ct W (aU kc m fn ps.length dv mo ms) σ H Q):
  UJ (ct kc) m (spS X.K ct fn ps.length) zA W (tG (dh X.K ct) X.K ct W mo) (tG (Jx X.K ct) X.K ct W ms) σ H Q:=by
 obtain⟨ι,e,M,w,p⟩:=bR (d7:=dh X.K ct) (f:=λd e M1=>if tW kc m d M1=true then(ms e M1).bind λds M2=>if(d::(ds++dv)).length=ps.length then fn (d::(ds++dv)) M2 else .bad else .bad) h
 refine⟨ι,e,M,w,p.mono ?_⟩
 rintro v H1 ⟨cB,e1,M1,d,w1,q1,p1⟩
 cases z:tW kc m d M1 with
 | false=>simp only[z,Bool.false_eq_true,if_false]at p1;exact p1.elim
 | true=>
  simp only[z,if_true]at p1
  obtain⟨a,dx,fs,rfl,hH,hl⟩:=abT w1.rl z q1
  refine⟨a,dx,fs,rfl,hH,hl,cB,e1,M1,w1,?_⟩
  cases z2:ms e1 M1 with
  | bad=>simp only[z2,Out.b7]at p1;exact p1
  | exc xc xd xM=>simp only[z2,Out.dU]at p1;exact p1
  | ok ds M2=>
   simp only[z2,Out.bI]at p1
   intro gk vs H2 x2 r2 q2
   by_cases z3:(d::(ds++dv)).length=ps.length
   ·rw[if_pos z3]at p1
    exact⟨gk,_,M2,z3,r2,.cons (q1.mono x2) (q2.append hd.dv),(p1.ext x2).toE⟩
   ·rw[if_neg z3]at p1
    exact p1.elim
variable{o:Expr}{mo:ME}{kc:Nat}{m:Str}{apos:Pos}
theorem aG(he:SE X ct W o mo)(c:M_ X.K (ct kc))(hm:Meth X.K (ct kc) m f)(F:ie X.prog X.w X.K X.mg X.base (EY X.prog X.w) k f fd ps (spS X.K ct fn ar))(hx:Tk X W)(hr:iM k X.A)(hb:Binds X.K fd ps Za)(hd:Ez dv zA Za)(ha:SA X ct W (a::es) ms)
  (hst:starEach (a::es) X.env=(false,eval a X.env)::starEach es X.env:=by rfl) (hpl:(backTo pos (starEach es X.env)).any (·.1)=false:=by rfl)
  (ht:eval (.Call (.Attribute o m apos) (a::es) [] pos) X.env=(do
   let ov <-eval o X.env
   standAt apos.atName
   let(f,first) <-holding [ov] (getMethod ov m pl)
   callWith pos f first (backTo pos (starEach (a::es) X.env)) (backToKw pos (keywordEach [] X.env))):=by rfl) (har:ps.length=ar:=by rfl):SE X ct W (.Call (.Attribute o m apos) (a::es) [] pos) (aU kc m fn ar dv mo ms):=by
 subst har
 exact dY (aa1 he c hm F hr hb hd.vals hx ha hst hpl ht) λσ H Q q=>Ru hd q
theorem RL(he:SE X ct W o mo)(c:M_ X.K (ct kc))(hm:Meth X.K (ct kc) m f)(F:ie X.prog X.w X.K X.mg X.base (EY X.prog X.w) k f fd ps (spS X.K ct fn ar))(hx:Tk X W)(hr:iM k X.A)(hb:Binds X.K fd ps Za)(hd:Ez dv zA Za)
  (ht:eval (.Call (.Attribute o m apos) [] [] pos) X.env=(do
   let ov <-eval o X.env
   standAt apos.atName
   let(f,first) <-holding [ov] (getMethod ov m pl)
   callWith pos f first (backTo pos (starEach [] X.env)) (backToKw pos (keywordEach [] X.env))):=by rfl) (har:ps.length=ar:=by rfl):SE X ct W (.Call (.Attribute o m apos) [] [] pos) (aU kc m fn ar dv mo aF):=by
 subst har
 exact dY (Yr he c hm F hr hb hd.vals hx ht) λσ H Q q=>by
  obtain⟨ι,e,M,w,p⟩:=Ru hd q
  refine⟨ι,e,M,w,p.mono λv H1 ⟨a,dx,fs,e1,e2,e3,cB,e4,M1,w1,p1⟩=>⟨a,dx,fs,e1,e2,e3,p1 cB [] H1 .refl w1.rl .nil⟩⟩
def Ot(d:D):Bool:=match d with
 | .non=>true
 | _=>false
noncomputable def yV(kc:Nat)(fn:Fn)(ar:Nat)(dv:List D)(ms:MA):ME:=λe M=>(ms e M).bind λds M1=>if(D.ref M1.length::(ds++dv)).length=ar then(fn (.ref M1.length::(ds++dv)) (M1++[.ins kc []])).bind λr M2=>if Ot r=true then .ok (.ref M1.length) M2 else .bad else .bad
theorem Rv(hd:Ez dv zA Za)(h:tG (dh X.K ct) X.K ct W (yV kc fn ps.length dv ms) σ H Q):UL (ct kc) (spS X.K ct fn ps.length) zA W (tG (Jx X.K ct) X.K ct W ms) σ H Q:=by
 obtain⟨ι,e,M,w,p⟩:=bR (d7:=Jx X.K ct) (f:=λds _ M1=>if(D.ref M1.length::(ds++dv)).length=ps.length then(fn (D.ref M1.length::(ds++dv)) (M1++[.ins kc []])).bind λr M2=>if Ot r=true then .ok (D.ref M1.length) M2 else .bad else .bad) h
 refine⟨ι,e,M,w,p.mono ?_⟩
 rintro vs H1 ⟨cB,e1,M1,ds,w1,q1,p1⟩
 intro a dx ha hdx ne
 dsimp only at p1
 by_cases z:(D.ref M1.length::(ds++dv)).length=ps.length
 ·rw[if_pos z]at p1
  have ha':upd H1 dx (.own a) a=none:=by rw[aL (Ne.symm ne)];exact ha
  have el:(M1++[MO.ins kc []]).length=M1.length+1:=by simp
  have x1:Ext X.K cB M1.length H1 cB M1.length (upd H1 dx (.own a)):=Ext.fresh hdx
  have r1:Rl X.K ct cB M1 (upd H1 dx (.own a)):=w1.rl.fresh hdx
  have x2:Ext X.K cB M1.length (upd H1 dx (.own a)) (iK cB M1.length a) (M1.length+1) (upd (upd H1 dx (.own a)) a (.ins (ct kc) dx [])):=Ext.new ha'
  have r2:Rl X.K ct (iK cB M1.length a) (M1++[MO.ins kc []]) (upd (upd H1 dx (.own a)) a (.ins (ct kc) dx [])):=r1.new ha' ⟨dx,[],bA,.nil⟩
  have e0:(iK cB M1.length a) M1.length=a:=by unfold iK;rw[if_pos rfl]
  have dv0:DV X.K ct (iK cB M1.length a) (M1++[MO.ins kc []]).length (upd (upd H1 dx (.own a)) a (.ins (ct kc) dx [])) (.ref M1.length) (.ref a):=by
   have:=DV.ref (K:=X.K) (ct:=ct) (ι:=iK cB M1.length a) (n:=(M1++[MO.ins kc []]).length) (H:=upd (upd H1 dx (.own a)) a (.ins (ct kc) dx [])) (i:=M1.length) (by rw[el];omega)
   rw[e0]at this
   exact this
  refine⟨iK cB M1.length a,_,M1++[.ins kc []],z,r2,.cons dv0 ?_,?_⟩
  ·rw[el];exact(q1.append hd.dv).mono (x1.trans x2)
  ·cases z2:fn (.ref M1.length::(ds++dv)) (M1++[.ins kc []])with
   | bad=>rw[z2]at p1;exact p1
   | exc xc xd xM=>
    rw[z2]at p1
    simp only[Out.dU]at p1
    have p2:=(p1.ext (x1.trans x2)).toE
    rw[el]
    exact λDs dx3 v3 H3 x3 r3 q3 q4=>p2 Ds dx3 v3 H3 x3 r3 q3 q4
   | ok r M2=>
    rw[z2]at p1
    simp only[Out.bI]at p1
    intro Ds v3 H3 x3 r3 q3
    cases q3 with
    | non=>
     refine⟨rfl,?_⟩
     simp only[Ot,if_true]at p1
     refine p1 Ds (.ref a) H3 ((x1.trans x2).trans (by rw[el]at x3;exact x3)) r3 (dv0.mono x3)
    | _=>exact False.elim p1
 ·rw[if_neg z]at p1
  exact p1.elim
theorem JT(Mk0:Mk X.K (ct kc) f)(F:ie X.prog X.w X.K X.mg X.base (EY X.prog X.w) k f fd ps (spS X.K ct fn ar))(hx:Tk X W)(hr:iM (k+1) X.A)(hg:Gl X x)(hm:X.mg x=some (.ref (ct kc)))(hb:Binds X.K fd ps Za)(hd:Ez dv zA Za)
  (ha:SA X ct W (a::es) ms) (hdb:(x==("__debug__" : Str))=false:=by decide) (he:starEach (a::es) X.env=(false,eval a X.env)::starEach es X.env:=by rfl) (hpl:(backTo pos (starEach es X.env)).any (·.1)=false:=by rfl) (har:ps.length=ar:=by rfl):SE X ct W (.Call (.Name x p) (a::es) [] pos) (yV kc fn ar dv ms):=by
 subst har
 exact dY (aa2 Mk0 F hr hg hm hb hd.vals hx ha hdb he hpl) λσ H Q q=>Rv hd q
theorem KH(Mk0:Mk X.K (ct kc) f)(F:ie X.prog X.w X.K X.mg X.base (EY X.prog X.w) k f fd ps (spS X.K ct fn ar))(hx:Tk X W)(hr:iM (k+1) X.A)(hg:Gl X x)(hm:X.mg x=some (.ref (ct kc)))(hb:Binds X.K fd ps Za)(hd:Ez dv zA Za)
  (hdb:(x==("__debug__" : Str))=false:=by decide) (har:ps.length=ar:=by rfl):SE X ct W (.Call (.Name x p) [] [] pos) (yV kc fn ar dv aF):=by
 subst har
 exact dY (Ys Mk0 F hr hg hm hb hd.vals hx hdb) λσ H Q q=>by
  obtain⟨ι,e,M,w,p⟩:=Rv hd q
  exact p ι [] H .refl w.rl .nil
abbrev Up:=List D->Mem->Out D
def Bb(op:Up)(ms:MA):ME:=λe M=>(ms e M).bind op
def uw(X:Cx)(ct:Nat->Addr)(f:Value)(op:Up):Prop:=∃r,rM X f r/\∀{w:XW} ι M H ds vs Q,Rl X.K ct ι M H->jo X.K ct ι M.length H ds vs->gj (dh X.K ct) X.K ct w ι M.length H (op ds M) Q->r vs H Q
variable{id T:String}{op:Up}
theorem aad{r:List V->Hp->VK->Prop}(hs:∀{w:XW} ι M H ds vs Q,Rl X.K ct ι M H->jo X.K ct ι M.length H ds vs->gj (dh X.K ct) X.K ct w ι M.length H (op ds M) Q->r vs H Q)
  (h:tG (dh X.K ct) X.K ct W (Bb op ms) σ H Q):tCB r (tG (Jx X.K ct) X.K ct W ms) σ H Q:=by
 obtain⟨ι,e,M,w,p⟩:=bR (d7:=Jx X.K ct) (f:=λds _ M1=>op ds M1) h
 exact⟨ι,e,M,w,p.mono λvs H1 ⟨cB,e1,M1,ds,w1,q1,p1⟩=>hs cB M1 H1 ds vs Q w1.rl q1 p1⟩
theorem bJ(h:uw X ct (.builtin id) op)(hg:Gl X x)(hm:X.mg x=none)(hv:bootBuiltins x=some (.builtin id))(ha:SA X ct W (a::es) ms)(hn:x≠ "__name__" := by decide)(hdb:(x==("__debug__" : Str))=false:=by decide)
  (he:starEach (a::es) X.env=(false,eval a X.env)::starEach es X.env:=by rfl) (hpl:(backTo pos (starEach es X.env)).any (·.1)=false:=by rfl):SE X ct W (.Call (.Name x p) (a::es) [] pos) (Bb op ms):=by
 obtain⟨r,hr,hs⟩:=h
 exact dY (aa9 hr hg hm hv ha hn hdb he hpl) λσ H Q q=>aad hs q
theorem aao(h:uw X ct (.type T) op)(hg:Gl X x)(hm:X.mg x=none)(hv:bootBuiltins x=some (.type T))(ha:SA X ct W (a::es) ms)(hn:x≠ "__name__" := by decide)(hdb:(x==("__debug__" : Str))=false:=by decide)
  (he:starEach (a::es) X.env=(false,eval a X.env)::starEach es X.env:=by rfl) (hpl:(backTo pos (starEach es X.env)).any (·.1)=false:=by rfl):SE X ct W (.Call (.Name x p) (a::es) [] pos) (Bb op ms):=by
 obtain⟨r,hr,hs⟩:=h
 exact dY (Yt hr hg hm hv ha hn hdb he hpl) λσ H Q q=>aad hs q
end
section
variable{X:Cx}{ct:Nat->Addr}{W:bC}
theorem pN{K:Frag}{ι:Nat->Addr}{n:Nat}{H:Hp}{i:Int}{v:V}(h:DV K ct ι n H (.int i) v):v= .int i:=by cases h;rfl
theorem pM{K:Frag}{ι:Nat->Addr}{n:Nat}{H:Hp}{i:Str}{v:V}(h:DV K ct ι n H (.str i) v):v= .str i:=by cases h;rfl
theorem QK{K:Frag}{ι:Nat->Addr}{n:Nat}{H:Hp}{ds:List D}{v:V}(h:DV K ct ι n H (.tup ds) v):∃a xs,v= .ref a/\nu K H a xs/\jo K ct ι n H ds xs:=by cases h with | tup a b=>exact⟨_,_,rfl,nu.of a,b⟩
theorem mj{K:Frag}{ι:Nat->Addr}{n:Nat}{H:Hp}{ds:List D}{v:V}(h:DV K ct ι n H (.tup ds) v):∃a xs,v= .ref a/\H a=some (.tup xs)/\jo K ct ι n H ds xs:=by cases h with | tup a b=>exact⟨_,_,rfl,a,b⟩
noncomputable def qK(M:Mem)(n:Nat):Option (List D):=match M[n]? with
 | some (.lst ds)=>some ds
 | _=>none
theorem dD(h:M[n]? = some (.lst ds)):qK M n=some ds:=by unfold qK;rw[h]
theorem jh:qK M n=some ds↔M[n]? = some (.lst ds):=by
 refine⟨λh=> ?_,dD⟩
 unfold qK at h
 split at h
 ·rename_i e;cases h;exact e
 ·cases h
noncomputable def Hl(M:Mem)(d:D):Option (List D):=match d with
 | .ref n=>qK M n
 | .cl ds=>some ds
 | _=>none
theorem Rl.seq{K:Frag}{ι:Nat->Addr}{M:Mem}{H:Hp}(R:Rl K ct ι M H){d:D}{v:V}{ds:List D}(h:Hl M d=some ds)(q:DV K ct ι M.length H d v):∃a xs,v= .ref a/\rZ K H a xs/\jo K ct ι M.length H ds xs:=by
 cases q with
 | @ref i hi=>obtain⟨vs,q,r⟩:=R.obj i _ (jh.mp h);exact⟨_,vs,rfl,rZ.of q,r⟩
 | cl h1 h2=>cases h;exact⟨_,_,rfl,h1.sq,h2⟩
 | _=>cases h
noncomputable def Qu(C:Int->Int->Bool)(g:Int->Int->D):su:=λd e M=>match d,e with
 | .int i,.int j=>if C i j=true then .ok (g i j) M else .bad
 | _,_=> .bad
theorem W3{P:Int->Int->Prop}(hP:∀i j,C i j=true->P i j)(hg:∀(K:Frag) ι n H i j,DV K ct ι n H (g i j) (gv i j)):Q8 X.K ct (Qu C g) (rI P gv):=by
 intro w ι M H d d' v v' Q R h h' p
 cases d with
 | int i=>
  cases d' with
  | int j=>
   cases pN h
   cases pN h'
   simp only[Qu]at p
   cases z:C i j with
   | false=>simp only[z,Bool.false_eq_true,if_false]at p;exact p.elim
   | true=>
    simp only[z,if_true]at p
    exact⟨i,j,rfl,rfl,hP i j z,p ι _ H .refl R (hg _ _ _ _ _ _)⟩
  | _=>exact p.elim
 | _=>cases d'<;>exact p.elim
def C1:Int->Int->Bool:=λ_ _=>true
theorem agB(h:rI (λ_ _=>True) g x y H Q):ZD g x y H Q:=let⟨i,j,a,b,_,q⟩:=h;⟨i,j,a,b,q⟩
theorem Q8.imp{K:Frag}{op:su}{r r':R2}(h:Q8 K ct op r)(i:∀x y H Q,r x y H Q->r' x y H Q):Q8 K ct op r':=λι M H d d' v v' Q R a b p=>i _ _ _ _ (h ι M H d d' v v' Q R a b p)
theorem qQ(h:uT X f (ZD gv))(hg:∀(K:Frag) ι n H i j,DV K ct ι n H (g i j) (gv i j)):gF X ct f (Qu C1 g):=
 ⟨_,h,Q8.imp (W3 (P:=λ_ _=>True) (λ_ _ _=>trivial) hg) λ_ _ _ _ q=>agB q⟩
theorem Cq{P:Int->Int->Prop}(h:uT X f (rI P gv))(hP:∀i j,C i j=true->P i j)(hg:∀(K:Frag) ι n H i j,DV K ct ι n H (g i j) (gv i j)):gF X ct f (Qu C g):=
 ⟨_,h,W3 hP hg⟩
def vh(a b:su):su:=λd e M=>match a d e M with
 | .bad=>b d e M
 | o=>o
theorem Q8.or{K:Frag}{a b:su}{r r':R2}(ha:Q8 K ct a r)(hb:Q8 K ct b r'):Q8 K ct (vh a b) (λx y H Q=>r x y H Q\/r' x y H Q):=by
 intro w ι M H d d' v v' Q R q q' p
 unfold vh at p
 cases z:a d d' M with
 | ok x M1=>rw[z]at p;exact .inl (ha ι M H d d' v v' Q R q q' (by rw[z];exact p))
 | exc xc xd xM=>rw[z]at p;exact .inl (ha ι M H d d' v v' Q R q q' (by rw[z];exact p))
 | bad=>rw[z]at p;exact .inr (hb ι M H d d' v v' Q R q q' p)
theorem lU(h:a d e M= .ok x M'):vh a b d e M= .ok x M':=by unfold vh;rw[h]
theorem wF(h:a d e M= .bad):vh a b d e M=b d e M:=by unfold vh;rw[h]
theorem gF.or(ha:gF X ct f a)(hb:gF X ct f b):gF X ct f (vh a b):=by
 obtain⟨r,h,hs⟩:=ha
 obtain⟨r',h',hs'⟩:=hb
 refine⟨_,h.or h',λι M H d d' v v' Q R q q' p=> ?_⟩
 unfold vh at p
 cases z:a d d' M with
 | ok x M1=>rw[z]at p;exact .inl (hs ι M H d d' v v' Q R q q' (by rw[z];exact p))
 | exc xc xd xM=>rw[z]at p;exact .inl (hs ι M H d d' v v' Q R q q' (by rw[z];exact p))
 | bad=>rw[z]at p;exact .inr (hs' ι M H d d' v v' Q R q q' p)
noncomputable def aij(i j:Int):Bool:=decide ((-(2 ^ 64)<i/\i<2 ^ 64)\/(-(2 ^ 64)<j/\j<2 ^ 64))
def aik(_ j:Int):Bool:=decide (0<j/\j<1073741824)
def alk(_ j:Int):Bool:=decide (0<j)
def Zq(i j:Int):Bool:=decide (0<=j/\j<=1000000/\i.natAbs<2 ^ 64)
def alj(_ j:Int):Bool:=decide (0<=j)
def afv:su:=Qu C1 λi j=> .int (i+j)
def UW:su:=Qu C1 λi j=> .int (i - j)
def aau:su:=Qu aij λi j=> .int (i*j)
def mz:su:=Qu aik λi j=> .int (i / j)
def jj:su:=Qu alk λi j=> .int (i % j)
def RX:su:=Qu Zq λi j=> .int (i ^ j.toNat)
def Dy:su:=Qu Zq λi j=> .int (i*2 ^ j.toNat)
def U0:su:=Qu alj λi j=> .int (i / 2 ^ j.toNat)
def K5:su:=Qu C1 λi j=> .int (Builtin.bitAnd i j)
def sOr:su:=Qu C1 λi j=> .int (Builtin.bitOr i j)
def ajy:su:=Qu C1 λi j=> .bl (decide (i<j))
def Hs:su:=Qu C1 λi j=> .bl (decide (i<=j))
def Ht:su:=Qu C1 λi j=> .bl (decide (j<i))
def U6:su:=Qu C1 λi j=> .bl (decide (j<=i))
theorem ae0:gF X ct (binaryOp .Add) afv:=qQ ahg λ_ _ _ _ _ _=> .int _
theorem Mv:gF X ct (binaryOp .Sub) UW:=qQ ag2 λ_ _ _ _ _ _=> .int _
theorem aeX:gF X ct (binaryOp .Mult) aau:=Cq ag7 (λi j h=>by unfold aij at h;exact(decide_eq_true_eq.mp h :)) λ_ _ _ _ _ _=> .int _
theorem lg:gF X ct (binaryOp .FloorDiv) mz:=Cq ad4 (λi j h=>by unfold aik at h;exact(decide_eq_true_eq.mp h :)) λ_ _ _ _ _ _=> .int _
theorem iH:gF X ct (binaryOp .Mod) jj:=Cq ag8 (λ_ _ h=>of_decide_eq_true h) λ_ _ _ _ _ _=> .int _
theorem VJ:gF X ct (binaryOp .Pow) RX:=Cq ag5 (λi j h=>by unfold Zq at h;exact(decide_eq_true_eq.mp h :)) λ_ _ _ _ _ _=> .int _
theorem Mw:gF X ct (binaryOp .LShift) Dy:=Cq ag4 (λi j h=>by unfold Zq at h;exact(decide_eq_true_eq.mp h :)) λ_ _ _ _ _ _=> .int _
theorem acz:gF X ct (binaryOp .RShift) U0:=Cq ag3 (λ_ _ h=>of_decide_eq_true h) λ_ _ _ _ _ _=> .int _
theorem Ej:gF X ct (binaryOp .BitAnd) K5:=qQ ahf λ_ _ _ _ _ _=> .int _
theorem acA:gF X ct (binaryOp .BitOr) sOr:=qQ aj3 λ_ _ _ _ _ _=> .int _
theorem alh:gF X ct (compareOp .Lt) ajy:=qQ aj4 λ_ _ _ _ _ _=> .bl _
theorem Dq:gF X ct (compareOp .LtE) Hs:=qQ aj5 λ_ _ _ _ _ _=> .bl _
theorem Bu:gF X ct (compareOp .Gt) Ht:=qQ aj6 λ_ _ _ _ _ _=> .bl _
theorem XR:gF X ct (compareOp .GtE) U6:=qQ aj7 λ_ _ _ _ _ _=> .bl _
noncomputable def agx:su:=λd e M=>match d,e with
 | .ref n,.ref m=>match M[n]?,M[m]? with
  | some (.lst xs),some (.lst ys)=>if xs.length+ys.length<=sizeLine then .ok (.ref M.length) (M++[.lst (xs++ys)])else .bad
  | _,_=> .bad
 | _,_=> .bad
theorem aih:gF X ct (binaryOp .Add) agx:=by
 refine⟨_,ahe,λι M H d d' v v' Q R h h' p=> ?_⟩
 cases d with
 | ref n=>
  cases d' with
  | ref m=>
   obtain⟨_,rfl⟩:=nW h
   obtain⟨_,rfl⟩:=nW h'
   simp only[agx]at p
   split at p
   ·rename_i xs ys e1 e2
    split at p
    ·rename_i hz
     obtain⟨vs,q,r⟩:=R.obj n _ e1
     obtain⟨vs',q',r'⟩:=R.obj m _ e2
     exact⟨_,_,vs,vs',rfl,rfl,q,q',by rw[r.length,r'.length];exact hz,λpp hp=>tD R (r.append r') hp p⟩
    ·exact p.elim
   ·exact p.elim
  | _=>exact p.elim
 | _=>cases d'<;>exact p.elim
noncomputable def aaE:su:=λd e M=>match d,e with
 | .str a,.str b=>if a.length+b.length<=sizeLine then .ok (.str (a++b)) M else .bad
 | _,_=> .bad
theorem aeZ:gF X ct (binaryOp .Add) aaE:=by
 refine⟨_,Vb,λι M H d d' v v' Q R h h' p=> ?_⟩
 unfold aaE at p
 split at p
 ·cases pM h
  cases pM h'
  split at p
  ·rename_i hz
   exact⟨_,_,rfl,rfl,hz,p ι _ H .refl R (.str _)⟩
  ·exact p.elim
 ·exact p.elim
noncomputable def aat:su:=λd e M=>match d,e with
 | .str a,.int n=>if a.length<=1000/\ -(2 ^ 62)<n/\n<=1000 then .ok (.str (PySem.Txt.mul a n)) M else .bad
 | _,_=> .bad
theorem aeW:gF X ct (binaryOp .Mult) aat:=by
 refine⟨_,Va,λι M H d d' v v' Q R h h' p=> ?_⟩
 unfold aat at p
 split at p
 ·cases pM h
  cases pN h'
  split at p
  ·rename_i hz
   exact⟨_,_,rfl,rfl,mulOk_of hz.1 hz.2.1 hz.2.2,p ι _ H .refl R (.str _)⟩
  ·exact p.elim
 ·exact p.elim
def R0:su:=vh aau aat
theorem VL:gF X ct (binaryOp .Mult) R0:=aeX.or aeW
noncomputable def Oe:su:=λd e M=>match d,e with
 | .tup xs,.tup ys=>if xs.isEmpty=false/\xs.length+ys.length<=sizeLine then .ok (.tup (xs++ys)) M else .bad
 | _,_=> .bad
theorem XS:gF X ct (binaryOp .Add) Oe:=by
 refine⟨_,ad5,λι M H d d' v v' Q R h h' p=> ?_⟩
 unfold Oe at p
 split at p
 ·rename_i xs ys
  obtain⟨a,vs,rfl,ha,hd⟩:=mj h
  obtain⟨b,us,rfl,hb,hd'⟩:=mj h'
  split at p
  ·rename_i hz
   have l1:=hd.length
   have l2:=hd'.length
   refine⟨a,b,vs,us,rfl,rfl,nu.of ha,nu.of hb,λz=> ?_,(),λz=> ?_,λ_ pp hp=>Ga R (hd.append hd') hp p⟩
   ·rw[z]at l1
    have:=hz.1
    cases xs with
    | nil=>cases this
    | cons _ _=>simp at l1
   ·subst z
    have e:ys=[]:=List.length_eq_zero_iff.mp l2.symm
    subst e
    rw[List.append_nil]at p
    exact p ι _ H .refl R (.tup ha hd)
  ·exact p.elim
 ·exact p.elim
def tu:su:=vh (vh afv agx) (vh aaE Oe)
theorem jL:gF X ct (binaryOp .Add) tu:=(ae0.or aih).or (aeZ.or XS)
def ago:su:=λd e M=>match d,e with
 | .str a,.str b=> .ok (.bl (decide (a.cps.toList<b.cps.toList))) M
 | _,_=> .bad
theorem aib:gF X ct (compareOp .Lt) ago:=by
 refine⟨_,Yv,λι M H d d' v v' Q R h h' p=> ?_⟩
 unfold ago at p
 split at p
 ·cases pM h
  cases pM h'
  exact⟨_,_,rfl,rfl,p ι _ H .refl R (.bl _)⟩
 ·exact p.elim
noncomputable def kO:List D->Option (List Int)
 | []=>some []
 | .int i::r=>(kO r).map (i:: ·)
 | _=>none
theorem oV{K:Frag}{ι:Nat->Addr}{n:Nat}{H:Hp}:∀{ds:List D} {is:List Int} {vs:List V},kO ds=some is->jo K ct ι n H ds vs->vs=is.map V.int
 | [],_,_,h,.nil=>by cases h;rfl
 | d::r,is,_,h,.cons q qs=>by
  cases q with
  | int i=>
   simp only[kO]at h
   obtain⟨js,h1,rfl⟩:=Option.map_eq_some_iff.mp h
   rw[oV h1 qs]
   rfl
  | _=>simp only[kO]at h;cases h
noncomputable def agn:su:=λd e M=>match d,e with
 | .tup xs,.tup ys=>match kO xs,kO ys with
  | some is,some js=> .ok (.bl (HT.lexLt is js)) M
  | _,_=> .bad
 | _,_=> .bad
theorem aia(hu:X.A.units+64<cLine):gF X ct (compareOp .Lt) agn:=by
 refine⟨_,ag9 (),λι M H d d' v v' Q R h h' p=> ?_⟩
 unfold agn at p
 split at p
 ·obtain⟨a,vs,rfl,ha,hd⟩:=mj h
  obtain⟨b,us,rfl,hb,hd'⟩:=mj h'
  split at p
  ·rename_i is js e1 e2
   have x1:=oV e1 hd
   have x2:=oV e2 hd'
   subst x1 x2
   exact⟨a,b,is,js,rfl,rfl,nu.of ha,nu.of hb,p ι _ H .refl R (.bl _)⟩
  ·exact p.elim
 ·exact p.elim
def sLt:su:=vh (vh ajy ago) agn
theorem Mz(hu:X.A.units+64<cLine):gF X ct (compareOp .Lt) sLt:=(alh.or aib).or (aia hu)
def agm:D->Mem->Out D:=λd M=>match d with
 | .int i=> .ok (.int (-i)) M
 | _=> .bad
theorem af4:UnS X ct (unaryOp .USub) agm:=⟨_,af5,λι M H d v Q R h p=>by
 cases d with
 | int i=>cases pN h;exact⟨i,rfl,p ι _ H .refl R (.int _)⟩
 | _=>exact p.elim⟩
noncomputable def vz(f:D->Option Dt):List D->Option (List Dt)
 | []=>some []
 | d::ds=>match f d,vz f ds with
  | some t,some ts=>some (t::ts)
  | _,_=>none
noncomputable def gm(M:Mem):Nat->D->Option Dt
 | 0,_=>none
 | k+1,d=>match d with
  | .non=>some .non
  | .bl b=>some (.bl b)
  | .int i=>some (.int i)
  | .str x=>some (.str x)
  | .tup ds=>(vz (gm M k) ds).map .tup
  | .ref n=>match qK M n with
   | some ds=>(vz (gm M k) ds).map .lst
   | none=>none
  | .cl ds=>(vz (gm M k) ds).map .lst
  | .ty _=>none
  | .cls _=>none
  | .exc _ _=>none
  | .nA _=>none
theorem J5{K:Frag}{ι:Nat->Addr}{n:Nat}{H:Hp}{k:Nat}{f:D->Option Dt}(hf:∀d t v,f d=some t->DV K ct ι n H d v->Is K H v t/\dep t<=k):
  ∀{ds:List D} {ts:List Dt} {vs:List V},vz f ds=some ts->jo K ct ι n H ds vs->Uq K H vs ts/\deps ts<=k
 | [],ts,_,h,.nil=>by cases h;exact⟨.nil,by unfold deps;exact Nat.zero_le _⟩
 | d::ds,ts,_,h,.cons q qs=>by
  simp only[vz]at h
  cases z:f d with
  | none=>rw[z]at h;cases h
  | some t=>
   cases z2:vz f ds with
   | none=>rw[z,z2]at h;cases h
   | some ts'=>
    rw[z,z2]at h
    cases h
    obtain⟨a,b⟩:=hf d t _ z q
    obtain⟨a',b'⟩:=J5 hf z2 qs
    exact⟨.cons a a',by unfold deps;exact Nat.max_le.mpr ⟨b,b'⟩⟩
theorem Fq{K:Frag}{ι:Nat->Addr}{M:Mem}{H:Hp}(R:Rl K ct ι M H):∀(k:Nat) (d:D) (t:Dt) (v:V),gm M k d=some t->DV K ct ι M.length H d v->Is K H v t/\dep t<=k
 | 0,d,t,v,h,_=>by simp only[gm]at h;cases h
 | k+1,d,t,v,h,q=>by
  cases q with
  | non=>simp only[gm]at h;cases h;exact⟨.non,by unfold dep;exact Nat.zero_le _⟩
  | bl b=>simp only[gm]at h;cases h;exact⟨.bl b,by unfold dep;exact Nat.zero_le _⟩
  | int b=>simp only[gm]at h;cases h;exact⟨.int b,by unfold dep;exact Nat.zero_le _⟩
  | str b=>simp only[gm]at h;cases h;exact⟨.str b,by unfold dep;exact Nat.zero_le _⟩
  | ty b=>simp only[gm]at h;cases h
  | cls b=>simp only[gm]at h;cases h
  | exc _ _ _=>simp only[gm]at h;cases h
  | nA _ _=>simp only[gm]at h;cases h
  | @tup a xs ds hs hd=>
   simp only[gm]at h
   cases z:vz (gm M k) ds with
   | none=>rw[z]at h;cases h
   | some ts=>
    rw[z]at h
    cases h
    obtain⟨a,b⟩:=J5 (λd t v=>Fq R k d t v) z hd
    exact⟨.tup (nu.of hs) a,by unfold dep;omega⟩
  | @ref i hi=>
   simp only[gm]at h
   cases z0:qK M i with
   | none=>rw[z0]at h;cases h
   | some ds=>
    rw[z0]at h
    obtain⟨xs,hs,hd⟩:=R.obj i _ (jh.mp z0)
    cases z:vz (gm M k) ds with
    | none=>simp only[z]at h;cases h
    | some ts=>
     simp only[z]at h
     cases h
     obtain⟨a,b⟩:=J5 (λd t v=>Fq R k d t v) z hd
     exact⟨.lst (rZ.of hs) a,by unfold dep;omega⟩
  | @cl a xs ds hs hd=>
   simp only[gm]at h
   cases z:vz (gm M k) ds with
   | none=>rw[z]at h;cases h
   | some ts=>
    rw[z]at h
    cases h
    obtain⟨a,b⟩:=J5 (λd t v=>Fq R k d t v) z hd
    exact⟨.lst hs.sq a,by unfold dep;omega⟩
def Uo(M:Mem)(d e:D):Option Bool:=match gm M 12 d,gm M 12 e with
 | some a,some b=>some (jy a b)
 | _,_=>none
def sEq:su:=λd e M=>match Uo M d e with
 | some b=> .ok (.bl b) M
 | none=> .bad
def sNe:su:=λd e M=>match Uo M d e with
 | some b=> .ok (.bl (!b)) M
 | none=> .bad
theorem aci{K:Frag}{ι:Nat->Addr}{M:Mem}{H:Hp}{d e:D}{v u:V}{b:Bool}(R:Rl K ct ι M H)(h:Uo M d e=some b)(q:DV K ct ι M.length H d v)(q':DV K ct ι M.length H e u):∃x y,Is K H v x/\Is K H u y/\dep x<=20/\b=jy x y:=by
 unfold Uo at h
 cases z:gm M 12 d with
 | none=>rw[z]at h;cases h
 | some x=>
  cases z2:gm M 12 e with
  | none=>rw[z,z2]at h;cases h
  | some y=>
   rw[z,z2]at h
   cases h
   obtain⟨a,c⟩:=Fq R 12 d x v z q
   obtain⟨a',_⟩:=Fq R 12 e y u z2 q'
   exact⟨x,y,a,a',(),rfl⟩
theorem cG(hu:X.A.units+64<cLine):gF X ct (compareOp .Eq) sEq:=by
 refine⟨_,ahc hu,λι M H d d' v v' Q R h h' p=> ?_⟩
 unfold sEq at p
 cases z:Uo M d d' with
 | none=>rw[z]at p;exact p.elim
 | some b=>
  rw[z]at p
  obtain⟨x,y,a,a',hd,rfl⟩:=aci R z h h'
  exact⟨x,y,a,a',hd,p ι _ H .refl R (.bl _)⟩
theorem rK(hu:X.A.units+64<cLine):gF X ct (compareOp .NotEq) sNe:=by
 refine⟨_,ag6 hu,λι M H d d' v v' Q R h h' p=> ?_⟩
 unfold sNe at p
 cases z:Uo M d d' with
 | none=>rw[z]at p;exact p.elim
 | some b=>
  rw[z]at p
  obtain⟨x,y,a,a',hd,rfl⟩:=aci R z h h'
  exact⟨x,y,a,a',hd,p ι _ H .refl R (.bl _)⟩
def LR(d:D):Bool:=match d with
 | .non=>true
 | _=>false
theorem abS{K:Frag}{ι:Nat->Addr}{n:Nat}{H:Hp}{d:D}{v:V}(q:DV K ct ι n H d v):decide (v= .non)=LR d:=by
 cases q<;>simp[LR]
def sIs:su:=λd e M=>match e with
 | .non=> .ok (.bl (LR d)) M
 | _=> .bad
def Dz:su:=λd e M=>match e with
 | .non=> .ok (.bl (!LR d)) M
 | _=> .bad
theorem XN:gF X ct (compareOp .Is) sIs:=by
 refine⟨_,ahb,λι M H d d' v v' Q R h h' p=> ?_⟩
 cases h' with
 | non=>exact⟨rfl,p ι _ H .refl R (by rw[abS h];exact .bl _)⟩
 | _=>exact p.elim
theorem Bt:gF X ct (compareOp .IsNot) Dz:=by
 refine⟨_,ad3,λι M H d d' v v' Q R h h' p=> ?_⟩
 cases h' with
 | non=>exact⟨rfl,p ι _ H .refl R (by rw[abS h];exact .bl _)⟩
 | _=>exact p.elim
theorem jo.Nz{K:Frag}{ι:Nat->Addr}{n:Nat}{H:Hp}{ds:List D}{vs:List V}{i:Int}{d:D}(h:jo K ct ι n H ds vs)(e:L2.Nz ds i=some d):∃v,L2.Nz vs i=some v/\DV K ct ι n H d v:=by
 unfold L2.Nz at*
 rw[h.length]
 cases z:ixN ds.length i with
 | none=>rw[z]at e;cases e
 | some j=>rw[z]at e;exact h.at e
variable{a b:Expr}{ma mb:ME}{pos:Pos}
section
variable{κ:Type}[DecidableEq κ]
noncomputable def uX(kvs:List (κ×D))(k:κ):Option D:=(kvs.find? λkv=>decide (kv.1=k)).map (·.2)
noncomputable def P_(kvs:List (κ×D))(k:κ)(d:D):List (κ×D):=if(kvs.any λkv=>decide (kv.1=k))=true then kvs.map (λkv=>if kv.1=k then(kv.1,d)else kv)else kvs++[(k,d)]
variable{K:Frag}{ι:Nat->Addr}{n:Nat}{H:Hp}
theorem xq.val:∀{kvs:List (κ×D)} {vs:List (κ×V)},xq K ct ι n H kvs vs->∀k,(∀d,uX kvs k=some d->∃v,Cu vs k=some v/\DV K ct ι n H d v)/\(uX kvs k=none->Cu vs k=none)
 | _,_,.nil,k=>⟨λd h=>by simp[uX]at h,λ_=>rfl⟩
 | _,_,.cons (x:=x) (d:=d) (v:=v) (fs:=fs) h hs,k=>by
  by_cases e:x=k
  ·have e1:uX ((x,d)::fs) k=some d:=by simp[uX,e]
   rw[e1,Fe (p:=(x,v)) e]
   exact⟨λd' q=>by cases q;exact⟨_,rfl,h⟩,λq=>by cases q⟩
  ·have e1:uX ((x,d)::fs) k=uX fs k:=by simp[uX,e]
   rw[e1,Ff (p:=(x,v)) e]
   exact hs.val k
theorem xq.any:∀{kvs:List (κ×D)} {vs:List (κ×V)},xq K ct ι n H kvs vs->∀k,(vs.any λkv=>decide (kv.1=k))=(kvs.any λkv=>decide (kv.1=k))
 | _,_,.nil,_=>rfl
 | _,_,.cons _ hs,k=>by simp only[List.any_cons,hs.any k]
theorem xq.repl(hd:DV K ct ι n H d v)(k:κ):∀{kvs:List (κ×D)} {vs:List (κ×V)},xq K ct ι n H kvs vs->xq K ct ι n H (kvs.map λkv=>if kv.1=k then(kv.1,d)else kv) (vs.map λkv=>if kv.1=k then(kv.1,v)else kv)
 | _,_,.nil=> .nil
 | _,_,.cons (x:=x) h hs=>by
  simp only[List.map_cons]
  by_cases e:x=k
  ·rw[if_pos e,if_pos e];exact .cons hd (hs.repl hd k)
  ·rw[if_neg e,if_neg e];exact .cons h (hs.repl hd k)
theorem xq.snoc(hd:DV K ct ι n H d v)(k:κ):∀{kvs:List (κ×D)} {vs:List (κ×V)},xq K ct ι n H kvs vs->xq K ct ι n H (kvs++[(k,d)]) (vs++[(k,v)])
 | _,_,.nil=> .cons hd .nil
 | _,_,.cons h hs=> .cons h (hs.snoc hd k)
theorem xq.put(h:xq K ct ι n H kvs vs)(hd:DV K ct ι n H d v)(k:κ):xq K ct ι n H (P_ kvs k d) (putK vs k v):=by
 unfold P_ putK
 rw[h.any k]
 split
 ·exact h.repl hd k
 ·exact h.snoc hd k
end
noncomputable def toKey:D->Option Key
 | .int i=>some (.inl i)
 | .str s=>some (.inr s)
 | _=>none
noncomputable def toKeys:List D->Option (List Key)
 | []=>some []
 | d::r=>match toKey d,toKeys r with
  | some k,some ks=>some (k::ks)
  | _,_=>none
section
variable{K:Frag}{ι:Nat->Addr}{n:Nat}{H:Hp}
theorem Fp(h:toKey d=some k)(q:DV K ct ι n H d v):v=kV k:=by
 cases q<;>simp only[toKey]at h<;>cases h<;>rfl
theorem v7:∀{ds:List D} {ks:List Key} {vs:List V},toKeys ds=some ks->jo K ct ι n H ds vs->vs=ks.map kV
 | [],ks,_,h,.nil=>by cases h;rfl
 | d::r,ks,_,h,.cons q qs=>by
  simp only[toKeys]at h
  cases z:toKey d with
  | none=>rw[z]at h;cases h
  | some k=>
   cases z2:toKeys r with
   | none=>rw[z,z2]at h;cases h
   | some kr=>
    rw[z,z2]at h
    cases h
    rw[Fp z q,v7 z2 qs]
    rfl
end
noncomputable def CP(M:Mem)(n:Nat)(y:D):Option (Option D×Mem):=match M[n]? with
 | some (.dk kvs)=>match toKey y with
  | some k=>some (uX kvs k,M)
  | none=>match y with
   | .tup ds=>match toKeys ds with
    | some _=>if kvs.isEmpty=true then some (none,M.set n (.dt []))else none
    | none=>none
   | _=>none
 | some (.dt kvs)=>match y with
  | .tup ds=>match toKeys ds with
   | some k=>some (uX kvs k,M)
   | none=>none
  | _=>none
 | _=>none
theorem Kd{K:Frag}{ι:Nat->Addr}{M M':Mem}{H:Hp}{n:Nat}{y:D}{vy:V}{o:Option D}(R:Rl K ct ι M H)(h:CP M n y=some (o,M'))(hn:n<M.length)(q:DV K ct ι M.length H y vy):
  ∃ov H',V5 H (ι n) vy ov H'/\Ext K ι M.length H ι M'.length H'/\Rl K ct ι M' H'/\(∀d,o=some d->∃v,ov=some v/\DV K ct ι M'.length H' d v/\H'=H/\M'=M)/\(o=none->ov=none):=by
 unfold CP at h
 split at h
 ·rename_i kvs e
  obtain⟨vs,hH,pv⟩:=R.obj n _ e
  split at h
  ·rename_i k ek
   cases h
   have ey:=Fp ek q
   subst ey
   refine⟨Cu vs k,H,.inl ⟨Ey.k hH,rfl⟩,.refl,R,λd hd=> ?_,λhd=>(pv.val k).2 hd⟩
   obtain⟨v,h1,h2⟩:=(pv.val k).1 d hd
   exact⟨v,h1,h2,rfl,rfl⟩
  ·split at h
   ·rename_i ds
    split at h
    ·rename_i ks eks
     split at h
     ·rename_i hem
      cases h
      have ek:kvs=[]:=List.isEmpty_iff.mp hem
      subst ek
      cases pv
      obtain⟨b,xs,rfl,hb,hd⟩:=mj q
      have ex:=v7 eks hd
      subst ex
      have x2:Ext K ι M.length H ι M.length (upd H (ι n) (.dT [])):=Ext.chg hH (λ_ z=>nomatch z) (λ_ _ z=>nomatch z)
      refine⟨none,upd H (ι n) (.dT []),.inr ⟨hH,⟨ks,b,rfl,hb⟩,rfl,rfl⟩,by rw[List.length_set];exact x2,R.chg hn hH (λ_ z=>nomatch z) (λ_ _ z=>nomatch z) ⟨[],bA,.nil⟩,(λd hd=>nomatch hd),λ_=>rfl⟩
     ·cases h
    ·cases h
   ·cases h
 ·rename_i kvs e
  obtain⟨vs,hH,pv⟩:=R.obj n _ e
  split at h
  ·rename_i ds
   split at h
   ·rename_i ks eks
    cases h
    obtain⟨b,xs,rfl,hb,hd⟩:=mj q
    have ex:=v7 eks hd
    subst ex
    refine⟨Cu vs ks,H,.inl ⟨Ey.t hH hb,rfl⟩,.refl,R,λd hd=> ?_,λhd=>(pv.val ks).2 hd⟩
    obtain⟨v,h1,h2⟩:=(pv.val ks).1 d hd
    exact⟨v,h1,h2,rfl,rfl⟩
   ·cases h
  ·cases h
 ·cases h
noncomputable def adz:su:=λd y M=>match d with
 | .ref n=>match CP M n y with
  | some (some v,_)=> .ok v M
  | _=> .bad
 | _=> .bad
theorem agZ{K:Frag}:Q8 K ct adz ajQ:=by
 intro w ι M H d d' v v' Q R h h' p
 cases d with
 | ref n=>
  obtain⟨hn,rfl⟩:=nW h
  simp only[adz]at p
  split at p
  ·rename_i x M' e
   obtain⟨ov,H',g,_,_,h1,_⟩:=Kd R e hn h'
   obtain⟨vx,rfl,dv,rfl,rfl⟩:=h1 x rfl
   rcases g with⟨g,_⟩ | ⟨_,_,z,_⟩
   ·exact⟨_,vx,rfl,g,p ι vx _ .refl R dv⟩
   ·cases z
  ·exact p.elim
 | _=>exact p.elim
noncomputable def PB:su:=λd e M=>match e with
 | .int i=>match d with
  | .tup ds=>match L2.Nz ds i with
   | some x=> .ok x M
   | none=> .bad
  | d=>match Hl M d with
   | some ds=>match L2.Nz ds i with
    | some x=> .ok x M
    | none=> .bad
   | none=> .bad
 | _=> .bad
theorem agY:Q8 X.K ct PB (λx y H Q=>ajP X.K x y H Q\/ajN X.K x y H Q):=by
 intro w ι M H d d' v v' Q R h h' p
 cases d' with
 | int i=>
  cases pN h'
  cases d with
  | tup ds=>
   obtain⟨aa,xs,rfl,hs,hd⟩:=QK h
   simp only[PB]at p
   cases z:L2.Nz ds i with
   | none=>rw[z]at p;exact p.elim
   | some x=>
    rw[z]at p
    obtain⟨v,e,dv⟩:=hd.Nz z
    exact .inr ⟨_,_,_,_,rfl,rfl,hs,e,p ι v H .refl R dv⟩
  | _=>
   simp only[PB]at p
   split at p
   ·rename_i ds z0
    obtain⟨aa,xs,rfl,hs,hd⟩:=R.seq z0 h
    cases z:L2.Nz ds i with
    | none=>rw[z]at p;exact p.elim
    | some x=>
     rw[z]at p
     obtain⟨v,e,dv⟩:=hd.Nz z
     exact .inl ⟨_,_,_,_,rfl,rfl,hs,e,p ι v H .refl R dv⟩
   ·exact p.elim
 | _=>exact p.elim
def agt:su:=λd e M=>match d,e with
 | .str z,.int i=>match L2.Nz z.cps.toList i with
  | some c=>if z.length<=sizeLine then .ok (.str ⟨#[c]⟩) M else .bad
  | none=> .bad
 | _,_=> .bad
theorem agX{K:Frag}:Q8 K ct agt ajO:=by
 intro w ι M H d d' v v' Q R h h' p
 unfold agt at p
 split at p
 ·rename_i z i
  cases pM h
  cases pN h'
  cases e:L2.Nz z.cps.toList i with
  | none=>rw[e]at p;exact p.elim
  | some c=>
   rw[e]at p
   dsimp only at p
   split at p
   ·rename_i hz
    exact⟨z,i,c,rfl,rfl,hz,e,p ι _ H .refl R (.str _)⟩
   ·exact p.elim
 ·exact p.elim
def a_:su:=vh (vh PB adz) agt
theorem aW(hu:X.A.units+64<cLine)(ha:SE X ct W a ma)(hb:SE X ct W b mb)(hs:X8 b:=by exact λ_ _=>rfl):SE X ct W (.Subscript a b pos) (aC a_ ma mb):=
 dY (aj0 (((aeu.or ahC).or (aev ())).or ahD) ha hb hs) λσ H Q q=>Kz (Q8.or (Q8.or agY agZ) agX) q
noncomputable def U5(neg:Bool):su:=λy x M=>match x with
 | .ref n=>match CP M n y with
  | some (o,M')=> .ok (.bl (if neg=true then !o.isSome else o.isSome)) M'
  | none=> .bad
 | _=> .bad
theorem abf{K:Frag}{neg:Bool}:Q8 K ct (U5 neg) (agC neg):=by
 intro w ι M H d d' v v' Q R h h' p
 cases d' with
 | ref n=>
  obtain⟨hn,rfl⟩:=nW h'
  simp only[U5]at p
  cases e:CP M n d with
  | none=>rw[e]at p;exact p.elim
  | some oM=>
   obtain⟨o,M'⟩:=oM
   rw[e]at p
   obtain⟨ov,H',g,x,R',h1,h2⟩:=Kd R e hn h
   have es:ov.isSome=o.isSome:=by
    cases o with
    | none=>rw[h2 rfl];rfl
    | some d=>obtain⟨v,rfl,_⟩:=h1 d rfl;rfl
   exact⟨_,ov,H',rfl,g,by rw[es];exact p ι _ H' x R' (.bl _)⟩
 | _=>cases d<;>exact p.elim
noncomputable def Rp:D->Option V
 | .non=>some .non
 | .bl b=>some (.bl b)
 | .int i=>some (.int i)
 | .str s=>some (.str s)
 | _=>none
noncomputable def Pa:List D->Option (List V)
 | []=>some []
 | d::r=>match Rp d,Pa r with
  | some v,some vs=>some (v::vs)
  | _,_=>none
theorem Wc{K:Frag}{ι:Nat->Addr}{n:Nat}{H:Hp}{d:D}{u v:V}(h:Rp d=some u)(q:DV K ct ι n H d v):v=u/\Dl u=true:=by
 cases q<;>simp only[Rp]at h<;>cases h<;>exact⟨rfl,rfl⟩
theorem Wb{K:Frag}{ι:Nat->Addr}{n:Nat}{H:Hp}:∀{ds:List D} {us vs:List V},Pa ds=some us->jo K ct ι n H ds vs->vs=us/\us.all Dl=true
 | [],_,_,h,.nil=>by cases h;exact⟨rfl,rfl⟩
 | d::r,us,_,h,.cons q qs=>by
  simp only[Pa]at h
  cases z:Rp d with
  | none=>rw[z]at h;cases h
  | some u=>
   cases z2:Pa r with
   | none=>rw[z,z2]at h;cases h
   | some ur=>
    rw[z,z2]at h
    cases h
    obtain⟨rfl,f1⟩:=Wc z q
    obtain⟨rfl,f2⟩:=Wb z2 qs
    exact⟨rfl,by simp[f1,f2]⟩
theorem aif(hu:X.A.units+64<cLine):gF X ct (compareOp .In) (U5 false):=⟨_,ahd (),abf⟩
theorem Zm(hu:X.A.units+64<cLine):gF X ct (compareOp .NotIn) (U5 true):=⟨_,Yy (),abf⟩
def cut{α:Type}(xs:List α)(lo hi:Option Int):List α:=(xs.drop (HT.a_ xs.length 0 lo)).take (HT.a_ xs.length xs.length hi - HT.a_ xs.length 0 lo)
theorem jo.cut{K:Frag}{ι:Nat->Addr}{n:Nat}{H:Hp}{ds:List D}{vs:List V}(h:jo K ct ι n H ds vs)(lo hi:Option Int):jo K ct ι n H (S.cut ds lo hi) (T6 vs lo hi):=by
 unfold S.cut T6
 rw[h.length]
 exact(h.drop _).take _
abbrev MO':=Sl->Mem->Out (Option Int)
def anu:(Nat->Addr)->Mem->Hp->Option Int->Option Int->Prop:=λ_ _ _ a b=>a=b
def SO(X:Cx)(ct:Nat->Addr)(W:bC)(e:Option Expr)(m:MO'):Prop:=PO X e (tG anu X.K ct W m)
def asI(d:D)(M:Mem):Out (Option Int):=match d with
 | .int i=> .ok (some i) M
 | _=> .bad
def uP:MO':=λ_ M=> .ok none M
def IK(m:ME):MO':=λe M=>(m e M).bind asI
theorem Ca:SO X ct W none uP:=λpins s σ H Q I ⟨ι,e,M,w,p⟩=>adT pins s σ H Q I (p ι none H .refl w.rl rfl)
theorem B_(h:SE X ct W a ma):SO X ct W (some a) (IK ma):=λpins s σ H Q I q=>adS h pins s σ H Q I (by
 obtain⟨ι,e,M,w,p⟩:=bR (d7:=dh X.K ct) (f:=λd _ M1=>asI d M1) q
 refine⟨ι,e,M,w,p.mono ?_⟩
 rintro v H1 ⟨cB,e1,M1,d,w1,q1,p1⟩
 cases q1 with
 | int i=>exact⟨i,rfl,p1 cB _ H1 .refl w1.rl rfl⟩
 | _=>exact p1.elim)
noncomputable def sSl(d:D)(lo hi:Option Int)(M:Mem):Out D:=match d with
 | .tup ds=>if HT.a_ ds.length 0 lo=0/\HT.a_ ds.length ds.length hi=ds.length then .bad else .ok (.tup (cut ds lo hi)) M
 | .str u=>if u.length<=sizeLine then .ok (.str (Txt.slice u lo hi)) M else .bad
 | d=>match Hl M d with
  | some ds=> .ok (.ref M.length) (M++[.lst (cut ds lo hi)])
  | none=> .bad
noncomputable def mSl(m:ME)(lo hi:MO'):ME:=λe M=>(m e M).bind λd M1=>(lo e M1).bind λl M2=>(hi e M2).bind λh M3=>sSl d l h M3
theorem afq{lo hi:Option Expr}{ml mh:MO'}(ha:SE X ct W a ma)(hl:SO X ct W lo ml)(hh:SO X ct W hi mh):SE X ct W (.Subscript a (.Slice lo hi none p2) pos) (mSl ma ml mh):=by
 refine dY (Sv ((adk.or aai).or agg) ha hl hh) λσ H Q q=> ?_
 obtain⟨ι,e,M,w,p⟩:=bR (d7:=dh X.K ct) (f:=λd e M1=>(ml e M1).bind λl M2=>(mh e M2).bind λh M3=>sSl d l h M3) q
 refine⟨ι,e,M,w,p.mono ?_⟩
 rintro v H1 ⟨cB,e1,M1,d,w1,q1,p1⟩
 refine⟨cB,e1,M1,w1,?_⟩
 cases z:ml e1 M1 with
 | bad=>simp only[z,Out.b7]at p1;exact p1
 | exc xc xd xM=>simp only[z,Out.dU]at p1;exact p1
 | ok l M2=>
  simp only[z,Out.bI]at p1
  intro gk l' H2 x2 r2 el
  have L_:l=l':=el;subst L_
  refine⟨gk,e1,M2,w1.ext x2 r2,?_⟩
  have p2:=p1.ext x2
  cases z2:mh e1 M2 with
  | bad=>simp only[z2,Out.b7]at p2;exact p2
  | exc xc xd xM=>simp only[z2,Out.dU]at p2;exact p2
  | ok h M3=>
   simp only[z2,Out.bI]at p2
   intro Ds h' H3 x3 r3 eh
   have L_:h=h':=eh;subst L_
   have p3:=p2.ext x3
   have q3:=(q1.mono x2).mono x3
   cases d with
   | tup ds=>
    obtain⟨aa,xs,rfl,hs,hd⟩:=QK q3
    simp only[sSl]at p3
    split at p3
    ·exact p3.elim
    ·rename_i hw
     exact .inl (.inr ⟨_,_,rfl,hs,by rw[hd.length];exact hw,λpp hp=>Ga r3 (hd.cut l h) hp p3⟩)
   | str u=>
    cases pM q3
    simp only[sSl]at p3
    split at p3
    ·rename_i hz
     exact .inr ⟨u,rfl,hz,p3 Ds _ H3 .refl r3 (.str _)⟩
    ·exact p3.elim
   | _=>
    simp only[sSl]at p3
    split at p3
    ·rename_i ds z0
     obtain⟨aa,xs,rfl,hs,hd⟩:=r3.seq z0 q3
     exact .inl (.inl ⟨_,_,rfl,hs,λpp hp=>tD r3 (hd.cut l h) hp p3⟩)
    ·exact p3.elim
theorem JL{K:Frag}{ι:Nat->Addr}{n:Nat}{H:Hp}{d:D}{vs:List V}(h:jo K ct ι n H [d] vs):∃v,vs=[v]/\DV K ct ι n H d v:=by
 cases h with | cons a b=>cases b;exact⟨_,rfl,a⟩
theorem ak6{K:Frag}{ι:Nat->Addr}{n:Nat}{H:Hp}{d d':D}{vs:List V}(h:jo K ct ι n H [d,d'] vs):∃v v',vs=[v,v']/\DV K ct ι n H d v/\DV K ct ι n H d' v':=by
 cases h with | cons a b=>obtain⟨v,rfl,q⟩:=JL b;exact⟨_,_,rfl,a,q⟩
noncomputable def zW(M:Mem)(d:D):Option (List D):=match d with
 | .tup ds=>some ds
 | .nA ds=>some ds
 | d=>Hl M d
theorem Rl.seqs{K:Frag}{ι:Nat->Addr}{M:Mem}{H:Hp}(R:Rl K ct ι M H){d:D}{v:V}{ds:List D}(h:zW M d=some ds)(q:DV K ct ι M.length H d v):∃a xs,v= .ref a/\(rZ K H a xs\/nu K H a xs)/\jo K ct ι M.length H ds xs:=by
 cases d with
 | tup es=>cases h;obtain⟨a,xs,e,hs,hd⟩:=QK q;exact⟨a,xs,e,.inr hs,hd⟩
 | nA es=>cases h;cases q with | nA h1 h2=>exact⟨_,_,rfl,.inr (.inr h1),h2⟩
 | _=>simp only[zW]at h;obtain⟨a,xs,e,hs,hd⟩:=R.seq h q;exact⟨a,xs,e,.inl hs,hd⟩
noncomputable def Wu:Up:=λds M=>match ds with
 | [d]=>match zW M d with
  | some es=> .ok (.int es.length) M
  | none=> .bad
 | _=> .bad
theorem aeQ:uw X ct (.builtin "len") Wu:=by
 refine⟨_,QZ,λι M H ds vs Q R h p=> ?_⟩
 unfold Wu at p
 split at p
 ·rename_i d
  obtain⟨v,rfl,q⟩:=JL h
  cases z:zW M d with
  | none=>rw[z]at p;exact p.elim
  | some es=>
   rw[z]at p
   obtain⟨a,xs,rfl,hs,hd⟩:=R.seqs z q
   exact⟨_,xs,rfl,hs,p ι _ H .refl R (by rw[hd.length];exact .int _)⟩
 ·exact p.elim
def orN(a b:Up):Up:=λds M=>match a ds M with
 | .bad=>b ds M
 | o=>o
theorem uw.or{f:Value}{a b:Up}(ha:uw X ct f a)(hb:uw X ct f b):uw X ct f (orN a b):=by
 obtain⟨r,h,hs⟩:=ha
 obtain⟨r',h',hs'⟩:=hb
 refine⟨_,h.or h',λι M H ds vs Q R q p=> ?_⟩
 unfold orN at p
 cases z:a ds M with
 | ok x M1=>rw[z]at p;exact .inl (hs ι M H ds vs Q R q (by rw[z];exact p))
 | exc xc xd xM=>rw[z]at p;exact .inl (hs ι M H ds vs Q R q (by rw[z];exact p))
 | bad=>rw[z]at p;exact .inr (hs' ι M H ds vs Q R q p)
theorem abg{a b:Up}{ds:List D}{x:D}{M M':Mem}(h:a ds M= .ok x M'):orN a b ds M= .ok x M':=by unfold orN;rw[h]
noncomputable def aaw:Up:=λds M=>match ds with
 | [.ref n]=>match M[n]? with
  | some (.dk kvs)=> .ok (.int kvs.length) M
  | some (.dt kvs)=> .ok (.int kvs.length) M
  | _=> .bad
 | _=> .bad
theorem aeR:uw X ct (.builtin "len") aaw:=by
 refine⟨_,Zh.or Zg,λι M H ds vs Q R h p=> ?_⟩
 unfold aaw at p
 split at p
 ·rename_i n
  obtain⟨v,rfl,q⟩:=JL h
  obtain⟨hn,rfl⟩:=nW q
  split at p
  ·rename_i kvs e
   obtain⟨ys,hH,pv⟩:=R.obj n _ e
   exact .inl ⟨_,ys,rfl,hH,by rw[pv.length];exact p ι _ H .refl R (.int _)⟩
  ·rename_i kvs e
   obtain⟨ys,hH,pv⟩:=R.obj n _ e
   exact .inr ⟨_,ys,rfl,hH,by rw[pv.length];exact p ι _ H .refl R (.int _)⟩
  ·exact p.elim
 ·exact p.elim
noncomputable def U4(neg:Bool):su:=λy x M=>match Rp y,zW M x with
 | some v,some ds=>match Pa ds with
  | some vs=> .ok (.bl (if neg=true then !inV v vs else inV v vs)) M
  | none=> .bad
 | _,_=> .bad
theorem abe{K:Frag}{neg:Bool}:Q8 K ct (U4 neg) (rIn K neg):=by
 intro w ι M H d d' v v' Q R h h' p
 unfold U4 at p
 split at p
 ·rename_i u ds e1 e2
  obtain⟨rfl,f1⟩:=Wc e1 h
  obtain⟨a,xs,rfl,hs,hd⟩:=R.seqs e2 h'
  cases e3:Pa ds with
  | none=>rw[e3]at p;exact p.elim
  | some us=>
   rw[e3]at p
   obtain⟨rfl,f2⟩:=Wb e3 hd
   exact⟨a,_,rfl,hs,f1,f2,p ι _ H .refl R (.bl _)⟩
 ·exact p.elim
def sIn:su:=vh (U5 false) (U4 false)
def U3:su:=vh (U5 true) (U4 true)
theorem XQ(hu:X.A.units+64<cLine):gF X ct (compareOp .In) sIn:=(aif hu).or ⟨_,Yx,abe⟩
theorem acB(hu:X.A.units+64<cLine):gF X ct (compareOp .NotIn) U3:=(Zm hu).or ⟨_,Qd,abe⟩
noncomputable def aav:Up:=λds M=>match ds with
 | [.str z]=>if z.length<=sizeLine then .ok (.int z.length) M else .bad
 | _=> .bad
theorem aeP:uw X ct (.builtin "len") aav:=by
 refine⟨_,QX,λι M H ds vs Q R h p=> ?_⟩
 unfold aav at p
 split at p
 ·obtain⟨v,rfl,q⟩:=JL h
  cases pM q
  split at p
  ·rename_i hz
   exact⟨_,rfl,hz,p ι _ H .refl R (.int _)⟩
  ·exact p.elim
 ·exact p.elim
def jz:Up:=orN (orN Wu aaw) aav
theorem i_:uw X ct (.builtin "len") jz:=(aeQ.or aeR).or aeP
noncomputable def Im:Up:=λds M=>match ds with
 | [.int i,.int j]=> .ok (.int (if j > i then j else i)) M
 | _=> .bad
def Wr:Up:=λds M=>match ds with
 | [.int i,.int j]=> .ok (.int (if j<i then j else i)) M
 | _=> .bad
theorem G7(hc:X.calm=true):uw X ct (.builtin "max") Im:=by
 refine⟨_,Zf hc,λι M H ds vs Q R h p=> ?_⟩
 unfold Im at p
 split at p
 ·obtain⟨v,v',rfl,q,q'⟩:=ak6 h
  cases pN q
  cases pN q'
  exact⟨_,_,rfl,p ι _ H .refl R (.int _)⟩
 ·exact p.elim
theorem aeN(hc:X.calm=true):uw X ct (.builtin "min") Wr:=by
 refine⟨_,Ze hc,λι M H ds vs Q R h p=> ?_⟩
 unfold Wr at p
 split at p
 ·obtain⟨v,v',rfl,q,q'⟩:=ak6 h
  cases pN q
  cases pN q'
  exact⟨_,_,rfl,p ι _ H .refl R (.int _)⟩
 ·exact p.elim
def Wt:Up:=λds M=>match ds with
 | [d]=>match zW M d with
  | some es=> .ok (.ref M.length) (M++[.lst es])
  | none=> .bad
 | _=> .bad
theorem aeO:uw X ct (.type "list") Wt:=by
 refine⟨_,QW,λι M H ds vs Q R h p=> ?_⟩
 unfold Wt at p
 split at p
 ·rename_i d
  obtain⟨v,rfl,q⟩:=JL h
  cases z:zW M d with
  | none=>rw[z]at p;exact p.elim
  | some es=>
   rw[z]at p
   obtain⟨a,xs,rfl,hs,hd⟩:=R.seqs z q
   exact⟨_,xs,rfl,hs,λpp hp=>tD R hd hp p⟩
 ·exact p.elim
def MtS(X:Cx)(ct:Nat->Addr)(T id:String)(op:D->List D->Mem->Out D):Prop:=∃r,MtR X id r/\∀{w:XW} ι M H d ds v vs Q,Rl X.K ct ι M H->DV X.K ct ι M.length H d v->jo X.K ct ι M.length H ds vs->gj (dh X.K ct) X.K ct w ι M.length H (op d ds M) Q->r v vs H Q
noncomputable def Wa(T:String)(d:D)(M:Mem):Bool:=match d with
 | .int _=>T== "int"
 | .str _=>T== "str"
 | .ref n=>T== "list" && (qK M n).isSome
 | _=>false
theorem ZX{K:Frag}{ι:Nat->Addr}{M:Mem}{H:Hp}{T:String}{d:D}{v:V}(R:Rl K ct ι M H)(h:Wa T d M=true)(q:DV K ct ι M.length H d v):tyV K T v H:=by
 cases q with
 | int i=>exact beq_iff_eq.mp h
 | str i=>exact beq_iff_eq.mp h
 | @ref i hi=>
  simp only[Wa,Bool.and_eq_true,beq_iff_eq]at h
  obtain⟨e,h2⟩:=h
  obtain⟨ds,z⟩:=Option.isSome_iff_exists.mp h2
  obtain⟨xs,hs,_⟩:=R.obj i _ (jh.mp z)
  exact .inl ⟨e,xs,rZ.of hs⟩
 | _=>exact absurd h xA
noncomputable def mBM(T:String)(op:D->List D->Mem->Out D)(mo:ME)(ms:MA):ME:=λe M=>(mo e M).bind λd M1=>if Wa T d M1=true then(ms e M1).bind λds M2=>op d ds M2 else .bad
variable{o:Expr}{es:List Expr}{mo:ME}{ms:MA}{name:Str}{apos cpos:Pos}{T id:String}{op:D->List D->Mem->Out D}
theorem agk(pa:PlainAttrs T)(slot:Slot T name id)(hty:typeOf (.builtin id)=pure (.type "method_descriptor"))(hm:MtS X ct T id op)(ho:SE X ct W o mo)
  (hbase:attributeBase o name X.env (eval o X.env)=eval o X.env:=by rfl) (hline:(apos.endLine==cpos.line)=true:=by rfl):SE X ct W (.Call (.Attribute o name apos) [] [] cpos) (mBM T op mo aF):=by
 obtain⟨r,hr,hs⟩:=hm
 refine dY (aa_ pa slot hty hr ho hbase hline) λσ H Q q=> ?_
 obtain⟨ι,e,M,w,p⟩:=bR (d7:=dh X.K ct) (f:=λd e M1=>if Wa T d M1=true then(aF e M1).bind λds M2=>op d ds M2 else .bad) q
 refine⟨ι,e,M,w,p.mono ?_⟩
 rintro v H1 ⟨cB,e1,M1,d,w1,q1,p1⟩
 cases z:Wa T d M1 with
 | false=>simp only[z,Bool.false_eq_true,if_false]at p1;exact p1.elim
 | true=>
  simp only[z,if_true,aF,Out.bI]at p1
  exact⟨ZX w1.rl z q1,hs cB M1 H1 d [] v [] Q w1.rl q1 .nil p1⟩
theorem aap(pa:PlainAttrs T)(slot:Slot T name id)(hty:typeOf (.builtin id)=pure (.type "method_descriptor"))(hm:MtS X ct T id op)(ho:SE X ct W o mo)(ha:SA X ct W (a::es) ms)
  (hbase:attributeBase o name X.env (eval o X.env)=eval o X.env:=by rfl)
  (hfew:((backTo cpos (starEach (a::es) X.env)).all (λx=> !x.1)&&(backToKw cpos (keywordEach [] X.env)).all (λx=>x.1.isSome)
   && decide ((a::es).length+([]:List Keyword).length+(if([]:List Keyword).isEmpty then 0 else 1)<30))=true:=by rfl)
  (hline:(apos.endLine==cpos.line)=true:=by rfl) (hs:starEach (a::es) X.env=(false,eval a X.env)::starEach es X.env:=by rfl) (hplain:(backTo cpos (starEach es X.env)).any (·.1)=false:=by rfl):
  SE X ct W (.Call (.Attribute o name apos) (a::es) [] cpos) (mBM T op mo ms):=by
 obtain⟨r,hr,hss⟩:=hm
 refine dY (aj1 pa slot hty hr ho ha hbase hfew hline hs hplain) λσ H Q q=> ?_
 obtain⟨ι,e,M,w,p⟩:=bR (d7:=dh X.K ct) (f:=λd e M1=>if Wa T d M1=true then(ms e M1).bind λds M2=>op d ds M2 else .bad) q
 refine⟨ι,e,M,w,p.mono ?_⟩
 rintro v H1 ⟨cB,e1,M1,d,w1,q1,p1⟩
 cases z:Wa T d M1 with
 | false=>simp only[z,Bool.false_eq_true,if_false]at p1;exact p1.elim
 | true=>
  simp only[z,if_true]at p1
  refine⟨ZX w1.rl z q1,cB,e1,M1,w1,?_⟩
  cases z2:ms e1 M1 with
  | bad=>simp only[z2,Out.b7]at p1;exact p1
  | exc xc xd xM=>simp only[z2,Out.dU]at p1;exact p1
  | ok ds M2=>
   simp only[z2,Out.bI]at p1
   exact λgk vs H2 x2 r2 q2=>hss gk M2 H2 d ds v vs Q r2 (q1.mono x2) q2 (p1.ext x2)
noncomputable def xV:D->List D->Mem->Out D:=λd ds M=>match d,ds with
 | .ref n,[x]=>match M[n]? with
  | some (.lst es)=>if es.length<sizeLine then .ok .non (M.set n (.lst (es++[x])))else .bad
  | _=> .bad
 | _,_=> .bad
theorem YF:MtS X ct "list" "list.append" xV:=by
 refine⟨_,YD,λι M H d ds v vs Q R q qs p=> ?_⟩
 unfold xV at p
 split at p
 ·rename_i n x
  obtain⟨hn,rfl⟩:=nW q
  obtain⟨y,rfl,qy⟩:=JL qs
  split at p
  ·rename_i es e1
   split at p
   ·rename_i hz
    obtain⟨xs,hH,hd⟩:=R.obj n _ e1
    have x2:Ext X.K ι M.length H ι M.length (upd H (ι n) (.lst (xs++[y]))):=Ext.chg hH (λ_ z=>nomatch z) (λ_ _ z=>nomatch z)
    refine⟨_,xs,y,rfl,rfl,hH,by rw[hd.length];exact hz,?_⟩
    refine p ι .non _ (by rw[List.length_set];exact x2) (R.chg hn hH (λ_ z=>nomatch z) (λ_ _ z=>nomatch z) ⟨_,bA,(hd.append (.cons qy .nil)).mono x2⟩) .non
   ·exact p.elim
  ·exact p.elim
 ·exact p.elim
def Wx:D->List D->Mem->Out D:=λd ds M=>match d,ds with
 | .int i,[]=> .ok (.int (Builtin.Int.intBits i:Nat)) M
 | _,_=> .bad
theorem aeh:MtS X ct "int" "int.bit_length" Wx:=by
 refine⟨_,aef,λι M H d ds v vs Q R q qs p=> ?_⟩
 unfold Wx at p
 split at p
 ·cases pN q
  cases qs
  exact⟨_,rfl,rfl,p ι _ H .refl R (.int _)⟩
 ·exact p.elim
end
inductive h_ where
 | next (e:Sl) (M:Mem) | ret (d:D) (M:Mem) | brk (e:Sl) (M:Mem) | cont (e:Sl) (M:Mem) | exc (c:Nat) (d:D) (e:Sl) (M:Mem) | bad
abbrev MS:=Sl->Mem->h_
def xj(K:Frag)(ct:Nat->Addr)(W:bC)(ι:Nat->Addr)(n:Nat)(H:Hp)(o:h_)(T:Ends):Prop:=match o with
 | .next e M=>∀ι' σ' H',Ext K ι n H ι' M.length H'->Ws K ct ι' e M σ' H'->T.nx σ' H'
 | .ret d M=>∀ι' v H',Ext K ι n H ι' M.length H'->Rl K ct ι' M H'->DV K ct ι' M.length H' d v->T.rt v H'
 | .brk e M=>∀ι' σ' H',Ext K ι n H ι' M.length H'->Ws K ct ι' e M σ' H'->T.bk σ' H'
 | .cont e M=>∀ι' σ' H',Ext K ι n H ι' M.length H'->Ws K ct ι' e M σ' H'->T.ct σ' H'
 | .exc c d e M=>∀ι' σ' dx v H',Ext K ι n H ι' M.length H'->Ws K ct ι' e M σ' H'->H' dx=some (.xd [("at",v)])->DV K ct ι' M.length H' d v->W (ct c) dx σ' H'
 | .bad=>False
def tS(K:Frag)(ct:Nat->Addr)(W:bC)(m:MS):TS:=λT σ H=>∃ι e M,Ws K ct ι e M σ H/\xj K ct W ι M.length H (m e M) T
def SS(X:Cx)(ct:Nat->Addr)(W:bC)(st:Stmt)(m:MS):Prop:=PS X st (tS X.K ct W m)
def ZF(X:Cx)(ct:Nat->Addr)(W:bC)(st:List Stmt)(m:MS):Prop:=Ke X st (tS X.K ct W m)
theorem xj.ext{K:Frag}{ct ι ι':Nat->Addr}{W:bC}{n n':Nat}{H H':Hp}{o:h_}{T:Ends}(h:xj K ct W ι n H o T)(x:Ext K ι n H ι' n' H'):xj K ct W ι' n' H' o T:=by
 cases o with
 | next e M=>exact λgk b H2 x2 w=>h gk b H2 (x.trans x2) w
 | ret d M=>exact λgk b H2 x2 r q=>h gk b H2 (x.trans x2) r q
 | brk e M=>exact λgk b H2 x2 w=>h gk b H2 (x.trans x2) w
 | cont e M=>exact λgk b H2 x2 w=>h gk b H2 (x.trans x2) w
 | exc c d e M=>exact λgk b dx v H2 x2 w q1 q2=>h gk b dx v H2 (x.trans x2) w q1 q2
 | bad=>exact h
def xm{α:Type}(e:Sl)(o:Out α)(f:α->Mem->h_):h_:=match o with
 | .ok a M=>f a M
 | .exc c d M=> .exc c d e M
 | .bad=> .bad
@[simp] theorem HF{α:Type}(e:Sl)(a:α)(M:Mem)(f:α->Mem->h_):xm e (.ok a M) f=f a M:=id rfl
@[simp] theorem J0{α:Type}(e:Sl)(c:Nat)(d:D)(M:Mem)(f:α->Mem->h_):xm e (.exc c d M:Out α) f= .exc c d e M:=id rfl
@[simp] theorem J2{α:Type}(e:Sl)(f:α->Mem->h_):xm e (.bad:Out α) f= .bad:=id rfl
theorem uF{α β:Type}{rel:(Nat->Addr)->Mem->Hp->α->β->Prop}{K:Frag}{ct:Nat->Addr}{W:bC}{m:Sl->Mem->Out α}{f:α->Sl->Mem->h_}{σ:St}{H:Hp}{T:Ends}
  (h:tS K ct W (λe M=>xm e (m e M) λa M1=>f a e M1) T σ H):tG rel K ct W m σ H (λb H1=>∃ι e M a,Ws K ct ι e M σ H1/\rel ι M H1 a b/\xj K ct W ι M.length H1 (f a e M) T):=by
 obtain⟨ι,e,M,w,p⟩:=h
 refine⟨ι,e,M,w,?_⟩
 cases z:m e M with
 | bad=>simp only[z,J2]at p;exact p
 | exc xc xd xM=>simp only[z,J0]at p;exact λcB dx v H1 x r q1 q2=>p cB σ dx v H1 x (w.ext x r) q1 q2
 | ok a M1=>
  simp only[z,HF]at p
  exact λcB b H1 x r q=>⟨cB,e,M1,a,w.ext x r,q,p.ext x⟩
section
variable{X:Cx}{ct:Nat->Addr}{W:bC}{st:Stmt}{rest:List Stmt}{s t:MS}{a:Expr}{ma:ME}{pos:Pos}
theorem PS.imp{st:Stmt}{t t':TS}(h:PS X st t)(hi:∀T σ H,t' T σ H->t T σ H):PS X st t':=λpins s σ H T I q=>h pins s σ H T I (hi T σ H q)
theorem Ke.imp{st:List Stmt}{t t':TS}(h:Ke X st t)(hi:∀T σ H,t' T σ H->t T σ H):Ke X st t':=λpins s σ H T I q=>h pins s σ H T I (hi T σ H q)
def bK:MS:=λe M=> .next e M
noncomputable def aQ(s t:MS):MS:=λe M=>match s e M with
 | .next e' M'=>t e' M'
 | o=>o
theorem Z_(h:tS X.K ct W bK T σ H):afl T σ H:=let⟨ι,_,_,w,p⟩:=h;p ι σ H .refl w
theorem bw:ZF X ct W [] bK:=Ke.imp adK λT σ H q=>Z_ q
theorem aB(h1:SS X ct W st s)(h2:ZF X ct W rest t):ZF X ct W (st::rest) (aQ s t):=Ke.imp (aaR h1 h2) λT σ H ⟨ι,e,M,w,p⟩=>by
 refine⟨ι,e,M,w,?_⟩
 unfold aQ at p
 cases z:s e M with
 | next e' M'=>rw[z]at p;exact λι' σ' H' x w'=>⟨ι',e',M',w',p.ext x⟩
 | ret d M'=>rw[z]at p;exact p
 | brk d M'=>rw[z]at p;exact p
 | cont d M'=>rw[z]at p;exact p
 | exc c d e M'=>rw[z]at p;exact p
 | bad=>rw[z]at p;exact p
theorem aD(h1:SS X ct W st s):ZF X ct W [st] s:=WX h1
def afu:MS:=λe M=> .cont e M
theorem RB:SS X ct W (.Continue pos) afu:=PS.imp Sh λT σ H ⟨ι,_,_,w,p⟩=>p ι σ H .refl w
def PK:MS:=λ_ _=> .bad
theorem qg:SS X ct W st PK:=λ_ _ _ _ _ _ ⟨_,_,_,_,p⟩=>p.elim
noncomputable def ig(m:ME):MS:=λe M=>xm e (m e M) λ_ M1=> .next e M1
theorem dH(he:SE X ct W a ma)(hs:swapsWith a none pos.line X.env=pure false:=by rfl):SS X ct W (.Expr a pos) (ig ma):=PS.imp (adP he hs) λT σ H q=>by
 obtain⟨ι,e,M,w,p⟩:=uF (rel:=dh X.K ct) (f:=λ_ e M1=> .next e M1) q
 exact⟨ι,e,M,w,p.mono λv H1 ⟨cB,e1,M1,d,w1,q1,p1⟩=>p1 cB σ H1 .refl w1⟩
noncomputable def bB(m:ME):MS:=λe M=>xm e (m e M) λd M1=> .ret d M1
theorem aK(he:SE X ct W a ma):SS X ct W (.Return (some a) pos) (bB ma):=PS.imp (agI he) λT σ H q=>by
 obtain⟨ι,e,M,w,p⟩:=uF (rel:=dh X.K ct) (f:=λd e M1=> .ret d M1) q
 exact⟨ι,e,M,w,p.mono λv H1 ⟨cB,e1,M1,d,w1,q1,p1⟩=>p1 cB v H1 .refl w1.rl q1⟩
def aft:MS:=λ_ M=> .ret .non M
theorem adg:SS X ct W (.Return none pos) aft:=PS.imp adN λT σ H ⟨ι,_,_,w,p⟩=>p ι .non H .refl w.rl .non
noncomputable def lK(c:MT)(s t:MS):MS:=λe M=>xm e (c e M) λk M1=>if k=true then s e M1 else t e M1
theorem bD{b b':List Stmt}(hc:Zx X ct W c mc)(ha:ZF X ct W b s)(hb:ZF X ct W b' t):SS X ct W (.If c b b' pos) (lK mc s t):=PS.imp (ajV hc ha hb) λT σ H q=>by
 obtain⟨ι,e,M,w,p⟩:=uF (rel:=Hu) (f:=λk e M1=>if k=true then s e M1 else t e M1) q
 refine⟨ι,e,M,w,p.mono ?_⟩
 rintro k H1 ⟨cB,e1,M1,d,w1,q1,p1⟩
 have L_:d=k:=q1;subst L_
 cases d with
 | true=>exact⟨cB,e1,M1,w1,p1⟩
 | false=>exact⟨cB,e1,M1,w1,p1⟩
abbrev Tg:=D->Sl->Option Sl
abbrev Tgs:=List D->Sl->Option Sl
def afW(K:Frag)(ct ι:Nat->Addr)(M:Mem)(H:Hp)(o:Option Sl)(Q:St->Hp->Prop):Prop:=match o with
 | some e'=>∀σ',Ws K ct ι e' M σ' H->Q σ' H
 | none=>False
def tT(K:Frag)(ct:Nat->Addr)(g:Tg):TG:=λv σ H Q=>∃ι e M d,Ws K ct ι e M σ H/\DV K ct ι M.length H d v/\afW K ct ι M H (g d e) Q
def tTs(K:Frag)(ct:Nat->Addr)(g:Tgs):TGs:=λvs σ H Q=>∃ι e M ds,Ws K ct ι e M σ H/\jo K ct ι M.length H ds vs/\afW K ct ι M H (g ds e) Q
def SG(X:Cx)(ct:Nat->Addr)(tg:Expr)(g:Tg):Prop:=PG X tg (tT X.K ct g)
def SGs(X:Cx)(ct:Nat->Addr)(tg:List Expr)(g:Tgs):Prop:=Zy X tg (tTs X.K ct g)
theorem PG.imp{tg:Expr}{t t':TG}(h:PG X tg t)(hi:∀v σ H Q,t' v σ H Q->t v σ H Q):PG X tg t':=λpins s σ H v u Q I r q=>h pins s σ H v u Q I r (hi v σ H Q q)
theorem Zy.imp{tg:List Expr}{t t':TGs}(h:Zy X tg t)(hi:∀v σ H Q,t' v σ H Q->t v σ H Q):Zy X tg t':=λpins s σ H v u Q I r q=>h pins s σ H v u Q I r (hi v σ H Q q)
def gN(i:Nat):Tg:=λd e=>some (e.set i (some d))
theorem eX{i:Nat}{x:Str}(hN:X.N.Nodup)(hi:X.N[i]? = some x)(hx:Loc X.env.scope x)(hf:X.fn x=true\/X.env.scope.names.lookup x=some .local:=by first | exact .inl rfl | exact .inr rfl | assumption):SG X ct (.Name x pos) (gN i):=
 PG.imp (Qa hN hi hx hf) λv σ H Q ⟨ι,e,M,d,w,q,p⟩=>p _ (w.set i q)
def tZ:Tgs:=λds e=>match ds with
 | []=>some e
 | _=>none
noncomputable def dw(g:Tg)(gs:Tgs):Tgs:=λds e=>match ds with
 | d::r=>(g d e).bind λe'=>gs r e'
 | []=>none
theorem JS:SGs X ct [] tZ:=Zy.imp WY λvs σ H Q ⟨ι,e,M,ds,w,q,p⟩=>by
 cases q with
 | nil=>exact⟨rfl,p σ w⟩
 | cons _ _=>exact p.elim
theorem lG{es:List Expr}{g:Tg}{gs:Tgs}(h1:SG X ct a g)(h2:SGs X ct es gs)
  (hs:(assignEach (a::es) X.env).map (·.2)=assign a X.env::(assignEach es X.env).map (·.2):=by rfl):SGs X ct (a::es) (dw g gs):=Zy.imp (Su h1 h2 hs) λvs σ H Q ⟨ι,e,M,ds,w,q,p⟩=>by
 cases q with
 | nil=>exact p.elim
 | @cons d x ds xs h hs=>
  refine⟨x,xs,rfl,ι,e,M,d,w,h,?_⟩
  simp only[dw]at p
  cases z:g d e with
  | none=>rw[z]at p;exact p.elim
  | some e'=>rw[z]at p;exact λσ' w'=>⟨ι,e',M,ds,w',hs,p⟩
noncomputable def gT(n:Nat)(gs:Tgs):Tg:=λd e=>match d with
 | .tup ds=>if ds.length=n then gs ds e else none
 | _=>none
theorem Pr{es:List Expr}{k:Nat}{n:Nat}(hc:X.calm=true)(h:SGs X ct es gs)
  (hn:(assignEach es X.env).length=n:=by rfl) (hst:(assignEach es X.env).findIdx? (·.1)=none:=by rfl):SG X ct (.Tuple es k pos) (gT n gs):=PG.imp (aaZ hc h hn hst) λv σ H Q ⟨ι,e,M,d,w,q,p⟩=>by
 cases q with
 | @tup a xs ds hs hd=>
  simp only[gT]at p
  split at p
  ·rename_i hl
   exact⟨a,xs,rfl,nu.of hs,by rw[hd.length];exact hl,ι,e,M,ds,w,hd,p⟩
  ·exact p.elim
 | _=>exact p.elim
noncomputable def cu(m:ME)(g:Tg):MS:=λe M=>xm e (m e M) λd M1=>match g d e with
 | some e'=> .next e' M1
 | none=> .bad
theorem Pg(he:∀Q,tG (dh X.K ct) X.K ct W m σ H Q->te σ H Q)(hg:∀v H Q,tT X.K ct g v σ H Q->tg v σ H Q)(h:tS X.K ct W (cu m g) T σ H):ade te tg T σ H:=by
 refine he _ ?_
 obtain⟨ι,e,M,w,p⟩:=uF (rel:=dh X.K ct) (f:=λd e M1=>match g d e with
  | some e'=> .next e' M1
  | none=> .bad) h
 refine⟨ι,e,M,w,p.mono ?_⟩
 rintro v H1 ⟨cB,e1,M1,d,w1,q1,p1⟩
 refine hg _ _ _ ⟨cB,e1,M1,d,w1,q1,?_⟩
 cases z:g d e1 with
 | none=>rw[z]at p1;exact p1
 | some e'=>rw[z]at p1;exact λσ' w'=>p1 cB σ' H1 .refl w'
theorem age(he:SE X ct W a ma)(hg:SG X ct tg g)(hs:swapsWithSole [tg] a pos.line X.env=pure false:=by rfl)(hw:swappedStores [tg] a X.env=pure none:=by rfl)
  (h1:(assignEach [tg] X.env).map (·.2)=[assign tg X.env]:=by rfl):SS X ct W (.Assign [tg] a pos) (cu ma g):=PS.imp (agL he hg hs hw h1) λT σ H q=>Pg (λ_ q=>q) (λ_ _ _ q=>q) q
theorem bh(hN:X.N.Nodup)(hi:X.N[i]? = some x)(hx:Loc X.env.scope x)(he:SE X ct W a ma)(hs:swapsWith a (some (.Name x pos')) pos.line X.env=pure false:=by rfl)(hf:X.fn x=true\/X.env.scope.names.lookup x=some .local:=by first | exact .inl rfl | exact .inr rfl | assumption):
  SS X ct W (.Assign [.Name x pos'] a pos) (cu ma (gN i)):=PS.imp (agH hN hi hx he hs hf) λT σ H q=>Pg (λ_ q=>q) (λv H Q ⟨ι,e,M,d,w,q,p⟩=>p _ (w.set i q)) q
noncomputable def ju(cs:List Nat)(f:Str)(d:D)(o:D)(M:Mem):Option Mem:=match o with
 | .ref n=>match M[n]? with
  | some (.ins c fs)=>if c∈cs/\fs.length<1000 then some (M.set n (.ins c (putD f d fs)))else none
  | _=>none
 | _=>none
noncomputable def dZ(cs:List Nat)(mo mv:ME)(f:Str):MS:=λe M=>xm e (mv e M) λd M1=>xm e (mo e M1) λo M2=>match ju cs f d o M2 with
 | some M3=> .next e M3
 | none=> .bad
theorem O6.put{K:Frag}{ι:Nat->Addr}{n:Nat}{H:Hp}{f:Str}{d:D}{v:V}(h:DV K ct ι n H d v):∀{fs:List (Str×D)} {vs:List (Str×V)},O6 K ct ι n H fs vs->O6 K ct ι n H (putD f d fs) (vg f v vs)
 | _,_,.nil=> .cons h .nil
 | _,_,.cons (x:=x) h' hs=>by
  unfold putD vg
  by_cases e:x=f
  ·rw[if_pos e,if_pos e];exact .cons h hs
  ·rw[if_neg e,if_neg e];exact .cons h' (hs.put h)
theorem cO{cs:List Nat}{f:Str}(hc:v5 X.K ct f cs)(ho:SE X ct W o mo)(hv:SE X ct W a ma)(hs:swapsWith a (some (.Attribute o f pos')) pos.line X.env=pure false:=by rfl):
  SS X ct W (.Assign [.Attribute o f pos'] a pos) (dZ cs mo ma f):=PS.imp (agK ho hv hs) λT σ H q=>by
 obtain⟨ι,e,M,w,p⟩:=uF (rel:=dh X.K ct) (f:=λd e M1=>xm e (mo e M1) λo M2=>match ju cs f d o M2 with
  | some M3=> .next e M3
  | none=> .bad) q
 refine⟨ι,e,M,w,p.mono ?_⟩
 rintro y H1 ⟨cB,e1,M1,d,w1,q1,p1⟩
 refine⟨cB,e1,M1,w1,?_⟩
 cases z:mo e1 M1 with
 | bad=>simp only[z,J2]at p1;exact p1
 | exc xc xd xM=>simp only[z,J0]at p1;exact λgk dx v H2 x r q1 q2=>p1 gk σ dx v H2 x (w1.ext x r) q1 q2
 | ok o' M2=>
  simp only[z,HF]at p1
  intro gk x H2 x2 r2 q2
  have p2:=p1.ext x2
  have w2:=w1.ext x2 r2
  have qd:=q1.mono x2
  cases q2 with
  | @ref n hn=>
   simp only[ju]at p2
   cases z0:M2[n]? with
   | none=>rw[z0]at p2;exact p2.elim
   | some ob=>
    cases ob with
    | lst _=>rw[z0]at p2;exact p2.elim
    | dk _=>rw[z0]at p2;exact p2.elim
    | dt _=>rw[z0]at p2;exact p2.elim
    | fd _=>rw[z0]at p2;exact p2.elim
    | ins c fs=>
     simp only[z0]at p2
     by_cases hcs:c∈cs/\fs.length<1000
     ·rw[if_pos hcs]at p2
      obtain⟨dx,vs,hH,fv⟩:=r2.obj n _ z0
      have x3:Ext X.K gk M2.length H2 gk M2.length (upd H2 (gk n) (.ins (ct c) dx (vg f y vs))):=Ext.chg hH (λ_ z=>nomatch z) (λ_ _ z=>nomatch z)
      refine⟨_,_,dx,vs,rfl,hH,(hc.get hcs.1).1,(hc.get hcs.1).2,by rw[fv.length];exact hcs.2,?_⟩
      have r3:=r2.chg (o:= .ins (ct c) dx (vg f y vs)) (x:= .ins c (putD f d fs)) hn hH (λ_ z=>nomatch z) (λ_ _ z=>nomatch z) ⟨dx,_,bA,(fv.put qd).mono x3⟩
      have x3':Ext X.K gk M2.length H2 gk (M2.set n (.ins c (putD f d fs))).length (upd H2 (gk n) (.ins (ct c) dx (vg f y vs))):=by rw[List.length_set];exact x3
      exact p2 gk σ _ x3' (w2.ext x3' r3)
     ·rw[if_neg hcs]at p2
      exact p2.elim
  | _=>exact p2.elim
structure Itm where
 src:Option (Nat×List D)
 ds:List D
def gh(s:Option (Nat×List D))(M:Mem):Prop:=match s with
 | none=>True
 | some (n,ds)=>qK M n=some ds
noncomputable instance{s:Option (Nat×List D)}{M:Mem}:Decidable (gh s M):=Classical.propDecidable _
def adB(K:Frag)(ct:Nat->Addr):(Nat->Addr)->Mem->Hp->Itm->It->Prop:=λι M H it J=>gh it.src M/\it.ds.length<=sizeLine/\∀ι' M' H',Ext K ι M.length H ι' M'.length H'->Rl K ct ι' M' H'->gh it.src M'->
 ∀i,(∀d,it.ds[i]? = some d->J.go i H'/\∀x H2,J.Yc i H' x H2->Ext K ι' M'.length H' ι' M'.length H2/\Rl K ct ι' M' H2/\DV K ct ι' M'.length H2 d x)/\(it.ds.length<=i->J.stop i H')
abbrev MI:=Sl->Mem->Out Itm
def SI(X:Cx)(ct:Nat->Addr)(W:bC)(tg e:Expr)(m:MI):Prop:=PI X tg e (tG (adB X.K ct) X.K ct W m)
theorem PI.imp{tg e:Expr}{t t':TI}(h:PI X tg e t)(hi:∀σ H R,t' σ H R->t σ H R):PI X tg e t':=λpins s σ H R I q=>h pins s σ H R I (hi σ H R q)
noncomputable def dR(src:Option (Nat×List D))(g:Tg)(b:MS):List D->Sl->Mem->h_
 | [],e,M=>if gh src M then .next e M else .bad
 | d::ds,e,M=>if gh src M then(match g d e with
   | none=> .bad
   | some e1=>match b e1 M with
    | .next e2 M2=>dR src g b ds e2 M2
    | .cont e2 M2=>dR src g b ds e2 M2
    | .brk e2 M2=> .next e2 M2
    | .ret d M2=> .ret d M2
    | .exc c d e2 M2=> .exc c d e2 M2
    | .bad=> .bad)else .bad
noncomputable def DG(mi:MI)(g:Tg)(b:MS):MS:=λe M=>xm e (mi e M) λit M1=>dR it.src g b it.ds e M1
theorem oW{body:List Stmt}(hp:X.Ok->PassesOwn (model X.prog X.w) X.A X.env X.xe)(hc:X.calm=true)(hi:SI X ct W tg iter mi)(hg:SG X ct tg g)(hb:ZF X ct W body b)
  (hs:∀x,foldedSetIterable iter X.env x=pure x:=by intro _;rfl):SS X ct W (.For tg iter body [] pos) (DG mi g b):=PS.imp (λpins s σ H D I h=>adO (hp I.ok) hc hi hg hb hs pins s σ H D I h) λT σ H q=>by
 obtain⟨ι,e,M,w,p⟩:=uF (rel:=adB X.K ct) (f:=λit e M1=>dR it.src g b it.ds e M1) q
 refine⟨ι,e,M,w,p.mono ?_⟩
 rintro J H1 ⟨cB,e1,M1,it,w1,q1,p1⟩
 obtain⟨ok1,_,step⟩:=q1
 refine⟨λi m σ' H'=>m=it.ds.length - i/\i<=it.ds.length/\∃ι' e' M',Ext X.K cB M1.length H1 ι' M'.length H'/\Ws X.K ct ι' e' M' σ' H'/\xj X.K ct W ι' M'.length H' (dR it.src g b (it.ds.drop i) e' M') T,
  ⟨it.ds.length,by simp,Nat.zero_le _,cB,e1,M1,.refl,w1,by simpa using p1⟩,?_⟩
 rintro i m σ' H' ⟨rfl,hi,ι',e',M',x',w',p'⟩
 by_cases hlt:i<it.ds.length
 ·rw[List.drop_eq_getElem_cons hlt]at p'
  unfold dR at p'
  by_cases ok':gh it.src M'
  ·rw[if_pos ok']at p'
   obtain⟨go,yl⟩:=(step ι' M' H' x' w'.rl ok' i).1 _ (zab hlt)
   refine .inr ⟨go,λσ2 H2=>∃gk e2 M2,Ext X.K cB M1.length H1 gk M2.length H2/\Ws X.K ct gk e2 M2 σ2 H2/\xj X.K ct W gk M2.length H2 (dR it.src g b (it.ds.drop (i+1)) e2 M2) T,?_,?_⟩
   ·rintro σ2 H2 ⟨gk,e2,M2,x2,w2,p2⟩
    exact⟨it.ds.length - (i+1),(),rfl,hlt,gk,e2,M2,x2,w2,p2⟩
   ·intro x H2 y
    obtain⟨x2,r2,dv⟩:=yl x H2 y
    have w2:=w'.ext x2 r2
    have p2:=p'.ext x2
    refine⟨ι',e',M',_,w2,dv,?_⟩
    cases z:g it.ds[i] e' with
    | none=>rw[z]at p2;exact p2
    | some e2=>
     rw[z]at p2
     intro σ3 w3
     refine⟨ι',e2,M',w3,?_⟩
     cases z3:b e2 M' with
     | next e4 M4=>simp only[z3]at p2;exact λι5 σ5 H5 x5 w5=>⟨ι5,e4,M4,(x'.trans x2).trans x5,w5,p2.ext x5⟩
     | cont e4 M4=>simp only[z3]at p2;exact λι5 σ5 H5 x5 w5=>⟨ι5,e4,M4,(x'.trans x2).trans x5,w5,p2.ext x5⟩
     | brk e4 M4=>simp only[z3]at p2;exact p2
     | ret d M4=>simp only[z3]at p2;exact p2
     | exc xc xd xe xM=>simp only[z3]at p2;exact p2
     | bad=>simp only[z3]at p2;exact p2
  ·rw[if_neg ok']at p'
   exact p'.elim
 ·have e0:i=it.ds.length:=()
  subst e0
  rw[List.drop_length]at p'
  unfold dR at p'
  by_cases ok':gh it.src M'
  ·rw[if_pos ok']at p'
   exact .inl ⟨(step ι' M' H' x' w'.rl ok' _).2 (zaa _),p' ι' σ' H' .refl w'⟩
  ·rw[if_neg ok']at p'
   exact p'.elim
noncomputable def Vt(d:D)(M1:Mem):Out Itm:=match d with
 | .ref n=>match qK M1 n with
  | some ds=> .ok ⟨some (n,ds),ds⟩ M1
  | none=> .bad
 | .cl ds=> .ok ⟨none,ds⟩ M1
 | .tup ds=> .ok ⟨none,ds⟩ M1
 | _=> .bad
def Ba(m:ME):MI:=λe M=>(m e M).bind Vt
theorem agM(hl:PE X l tl):PI X tg l (λσ H R=>tl σ H λx H1=>∃a,x= .ref a/\(((∃xs,rZ X.K H1 a xs)/\((∀xs,rZ X.K H1 a xs->xs.length<=sizeLine)->R (Itl X.K a) H1))\/((∃xs,nu X.K H1 a xs)/\((∀xs,nu X.K H1 a xs->xs.length<=sizeLine)->R (Itt X.K a) H1)))):=by
 intro pins s σ H R I h
 refine fU (hl pins s σ H _ I h) ?_
 rintro v s1 ⟨x,H1,I1,r1,q1⟩
 obtain⟨a,e,q⟩:=q1
 subst e
 cases r1
 rcases q with⟨⟨xs,hq⟩,q⟩ | ⟨⟨xs,hq⟩,q⟩
 ·obtain⟨its,rv,p,hz⟩:=I1.list hq
  have q:=q λys hy=>by obtain⟨_,_,_,hz⟩:=I1.list hy;exact hz
  refine wpAny_pyIter_list p.isList ?_
  refine⟨s1.heap.objs.size,[s1.heap.objs.size],_,_,H1,rfl,I1.kept (t':=s1.toks) λb o e=>zD _ e,Ye a _,⟨_,yB _ rfl,rfl,rfl⟩,λb hb=> ?_,q⟩
  have e:b=s1.heap.objs.size:=by simpa using hb
  subst e
  exact I1.Vz (zaa _) (I1.hok.fresh (zaa _))
 ·obtain⟨its,rv,p,hz⟩:=I1.tuple hq
  have q:=q λys hy=>by obtain⟨_,_,_,hz⟩:=I1.tuple hy;exact hz
  refine wpAny_pyIter_tuple (show s1.heap.IsTuple a its.toArray from p) ?_
  refine⟨s1.heap.objs.size,[s1.heap.objs.size],_,_,H1,rfl,I1.kept (t':=s1.toks) λb o e=>zD _ e,Uw a _,⟨_,yB _ rfl,rfl,rfl⟩,λb hb=> ?_,q⟩
  have e:b=s1.heap.objs.size:=by simpa using hb
  subst e
  exact I1.Vz (zaa _) (I1.hok.fresh (zaa _))
theorem Tv{K:Frag}{ι:Nat->Addr}{M:Mem}{H:Hp}{a:Addr}{xs:List V}{ds:List D}(R:Rl K ct ι M H)(hq:rZ K H a xs)(hd:jo K ct ι M.length H ds xs)(i:Nat):
  (∀d,ds[i]? = some d->(Itl K a).go i H/\∀x H2,(Itl K a).Yc i H x H2->Ext K ι M.length H ι M.length H2/\Rl K ct ι M H2/\DV K ct ι M.length H2 d x)/\(ds.length<=i->(Itl K a).stop i H):=by
 refine⟨λd e=> ?_,λh=>⟨xs,hq,by rw[hd.length];exact h⟩⟩
 obtain⟨v,hv,dv⟩:=hd.at e
 refine⟨⟨xs,v,hq,hv⟩,λx H2 y=> ?_⟩
 obtain⟨e2,y⟩:=y
 subst e2
 have z:=y xs hq
 rw[hv]at z
 cases z
 exact⟨.refl,R,dv⟩
theorem abP{K:Frag}{ι:Nat->Addr}{M:Mem}{H:Hp}{a:Addr}{xs:List V}{ds:List D}(R:Rl K ct ι M H)(hq:nu K H a xs)(hd:jo K ct ι M.length H ds xs)(i:Nat):
  (∀d,ds[i]? = some d->(Itt K a).go i H/\∀x H2,(Itt K a).Yc i H x H2->Ext K ι M.length H ι M.length H2/\Rl K ct ι M H2/\DV K ct ι M.length H2 d x)/\(ds.length<=i->(Itt K a).stop i H):=by
 refine⟨λd e=> ?_,λh=>⟨xs,hq,by rw[hd.length];exact h⟩⟩
 obtain⟨v,hv,dv⟩:=hd.at e
 refine⟨⟨xs,v,hq,hv⟩,λx H2 y=> ?_⟩
 obtain⟨e2,y⟩:=y
 subst e2
 have z:=y xs hq
 rw[hv]at z
 cases z
 exact⟨.refl,R,dv⟩
theorem xT{tg:Expr}(hl:SE X ct W a ma):SI X ct W tg a (Ba ma):=PI.imp (agM hl) λσ H R q=>by
 obtain⟨ι,e,M,w,p⟩:=bR (d7:=dh X.K ct) (f:=λd _ M1=>Vt d M1) q
 refine⟨ι,e,M,w,p.mono ?_⟩
 rintro v H1 ⟨cB,e1,M1,d,w1,q1,p1⟩
 cases q1 with
 | @ref n hn=>
  dsimp only[Vt]at p1
  cases z:qK M1 n with
  | none=>rw[z]at p1;exact p1.elim
  | some ds=>
   rw[z]at p1
   obtain⟨xs,hH,hd⟩:=w1.rl.obj n _ (jh.mp z)
   refine⟨_,rfl,.inl ⟨⟨xs,rZ.of hH⟩,λhz=>p1 cB _ H1 .refl w1.rl ⟨z,by rw[<-hd.length];exact hz xs (rZ.of hH),λgk M2 H2 x2 r2 ok2 i=> ?_⟩⟩⟩
   obtain⟨xs2,hH2,hd2⟩:=r2.obj n _ (jh.mp ok2)
   rw[<-x2.same n hn]
   exact Tv r2 (rZ.of hH2) hd2 i
 | cl h1 h2=>exact⟨_,rfl,.inl ⟨⟨_,h1.sq⟩,λhz=>p1 cB _ H1 .refl w1.rl ⟨trivial,by rw[<-h2.length];exact hz _ h1.sq,λgk M2 H2 x2 r2 ok2 i=>Tv r2 (x2.mK _ _ h1).sq (h2.mono x2) i⟩⟩⟩
 | tup h1 h2=>exact⟨_,rfl,.inr ⟨⟨_,nu.of h1⟩,λhz=>p1 cB _ H1 .refl w1.rl ⟨trivial,by rw[<-h2.length];exact hz _ (nu.of h1),λgk M2 H2 x2 r2 ok2 i=>abP r2 (nu.of (x2.tup _ _ h1)) (h2.mono x2) i⟩⟩⟩
 | _=>exact p1.elim
def C_(lo:Int)(n:Nat):List D:=(List.range n).map λ(k:Nat)=>D.int (lo+k)
noncomputable def Nh(ds:List D)(M1:Mem):Out Itm:=match ds with
 | [.int j]=>if -(2 ^ 62)<=j/\j<2 ^ 24 then .ok ⟨none,C_ 0 j.toNat⟩ M1 else .bad
 | _=> .bad
def Iz(ms:MA):MI:=λe M=>(ms e M).bind Nh
theorem abQ{K:Frag}{ι:Nat->Addr}{M:Mem}{H:Hp}(R:Rl K ct ι M H)(lo:Int)(n i:Nat):
  (∀d,(C_ lo n)[i]? = some d->(Itr lo n).go i H/\∀x H2,(Itr lo n).Yc i H x H2->Ext K ι M.length H ι M.length H2/\Rl K ct ι M H2/\DV K ct ι M.length H2 d x)/\((C_ lo n).length<=i->(Itr lo n).stop i H):=by
 refine⟨λd e=> ?_,λh=>(by simpa[C_]using h:n<=i)⟩
 unfold C_ at e
 rw[zal]at e
 obtain⟨k,hk,rfl⟩:=Option.map_eq_some_iff.mp e
 obtain⟨hi,e2⟩:=List.getElem?_eq_some_iff.mp hk
 have hi':i<n:=by simpa using hi
 have ek:k=i:=by rw[<-e2];simp
 subst ek
 refine⟨hi',λx H2 y=> ?_⟩
 obtain⟨e3,y⟩:=y
 subst e3 y
 exact⟨.refl,R,.int _⟩
theorem aht:(2 ^ 24:Nat)<=sizeLine:=by rw[sizeLine_eq];decide
theorem sE(hg:Gl X "range")(hm:X.mg "range" = none)(ha:SA X ct W [a] ms)(hs:starEach [a] X.env=[(false,eval a X.env)]:=by rfl):SI X ct W tg (.Call (.Name "range" p) [a] [] pos) (Iz ms):=PI.imp (Yq hg hm ha hs) λσ H R q=>by
 obtain⟨ι,e,M,w,p⟩:=bR (d7:=Jx X.K ct) (f:=λds _ M1=>Nh ds M1) q
 refine⟨ι,e,M,w,p.mono ?_⟩
 rintro v H1 ⟨cB,e1,M1,d,w1,q1,p1⟩
 dsimp only[Nh]at p1
 split at p1
 ·rename_i j
  obtain⟨v,rfl,q2⟩:=JL q1
  cases pN q2
  split at p1
  ·rename_i hj
   have hz:=aht
   exact⟨j,rfl,hj.1,(),p1 cB _ H1 .refl w1.rl ⟨trivial,by simp[C_];omega,λgk M2 H2 x2 r2 ok2 i=>abQ r2 0 _ i⟩⟩
  ·exact p1.elim
 ·exact p1.elim
noncomputable def Km(c:MT)(b:MS):Nat->Sl->Mem->h_
 | 0,_,_=> .bad
 | n+1,e,M=>match c e M with
  | .bad=> .bad
  | .exc c d M1=> .exc c d e M1
  | .ok false M1=> .next e M1
  | .ok true M1=>match b e M1 with
   | .next e2 M2=>Km c b n e2 M2
   | .cont e2 M2=>Km c b n e2 M2
   | .brk e2 M2=> .next e2 M2
   | .ret d M2=> .ret d M2
   | .exc c d e2 M2=> .exc c d e2 M2
   | .bad=> .bad
theorem Kl:∀(n:Nat) (e:Sl) (M:Mem),Km c b n e M≠ .bad->Km c b (n+1) e M=Km c b n e M
 | 0,_,_,h=>absurd rfl h
 | n+1,e,M,h=>by
  unfold Km at h ⊢
  cases z:c e M with
  | bad=>rfl
  | exc _ _ _=>rfl
  | ok k M1=>
   cases k with
   | false=>rfl
   | true=>
    simp only[z]at h ⊢
    cases z2:b e M1 with
    | next e2 M2=>simp only[z2]at h ⊢;exact Kl n e2 M2 h
    | cont e2 M2=>simp only[z2]at h ⊢;exact Kl n e2 M2 h
    | brk e2 M2=>rfl
    | ret d M2=>rfl
    | exc _ _ _ _=>rfl
    | bad=>rfl
theorem Uu(h:Km c b n e M≠ .bad):∀k,Km c b (n+k) e M=Km c b n e M
 | 0=>rfl
 | k+1=>by
  have ih:=Uu h k
  rw[<-Nat.add_assoc,Kl _ _ _ (by rw[ih];exact h)]
  exact ih
open Classical in
def Ho(c:MT)(b:MS):MS:=λe M=>if h:∃n,Km c b n e M≠ .bad then Km c b (Classical.choose h) e M else .bad
theorem Od(h:Km c b n e M=o)(ho:o≠ .bad):Ho c b e M=o:=by
 have ex:∃n,Km c b n e M≠ .bad:=⟨n,by rw[h];exact ho⟩
 unfold Ho
 rw[dif_pos ex]
 have h1:=Classical.choose_spec ex
 rcases Nat.le_total n (Classical.choose ex)with l | l
 ·obtain⟨k,hk⟩:=Nat.exists_eq_add_of_le l
  rw[hk,Uu (by rw[h];exact ho) k,h]
 ·obtain⟨k,hk⟩:=Nat.exists_eq_add_of_le l
  rw[<-h,hk,Uu h1 k]
theorem Rz(hp:X.Ok->PassesOwn (model X.prog X.w) X.A X.env X.xe)(hc:Zx X ct W c mc)(hb:ZF X ct W body b):SS X ct W (.While c body [] pos) (Ho mc b):=PS.imp (λpins s σ H D I h=>aaS (hp I.ok) hc hb pins s σ H D I h) λT σ H ⟨ι,e,M,w,p⟩=>by
 unfold Ho at p
 split at p
 ·rename_i ex
  refine⟨λm σ' H'=>∃ι' e' M',Ws X.K ct ι' e' M' σ' H'/\xj X.K ct W ι' M'.length H' (Km mc b m e' M') T,⟨_,ι,e,M,w,p⟩,?_⟩
  rintro m σ' H' ⟨ι',e',M',w',p'⟩
  cases m with
  | zero=>exact p'.elim
  | succ m=>
   refine⟨ι',e',M',w',?_⟩
   unfold Km at p'
   cases z:mc e' M' with
   | bad=>rw[z]at p';exact p'
   | exc xc xd xM=>rw[z]at p';exact λgk dx v H2 x r q1 q2=>p' gk σ' dx v H2 x (w'.ext x r) q1 q2
   | ok k M1=>
    intro gk k2 H2 x2 r2 ek
    have L_:k=k2:=ek;subst L_
    have w2:=w'.ext x2 r2
    cases k with
    | false=>rw[z]at p';exact p' gk σ' H2 x2 w2
    | true=>
     simp only[z]at p'
     have p2:=p'.ext x2
     show ∃N:St->Hp->Prop,_
     refine⟨λσ3 H3=>∃Ds e3 M3,Ws X.K ct Ds e3 M3 σ3 H3/\xj X.K ct W Ds M3.length H3 (Km mc b m e3 M3) T,λσ3 H3 q3=>⟨m,Nat.lt_succ_self _,q3⟩,gk,e',M1,w2,?_⟩
     cases z3:b e' M1 with
     | next e4 M4=>simp only[z3]at p2;exact λι5 σ5 H5 x5 w5=>⟨ι5,e4,M4,w5,p2.ext x5⟩
     | cont e4 M4=>simp only[z3]at p2;exact λι5 σ5 H5 x5 w5=>⟨ι5,e4,M4,w5,p2.ext x5⟩
     | brk e4 M4=>simp only[z3]at p2;exact p2
     | ret d M4=>simp only[z3]at p2;exact p2
     | exc xc xd xe xM=>simp only[z3]at p2;exact p2
     | bad=>simp only[z3]at p2;exact p2
 ·exact p.elim
def qP(js:List Nat)(e:Sl):Sl:=js.map λi=>(e[i]?).join
def Out.W5{α:Type}(o:Out α):Out α:=match o with
 | .ok a M=> .ok a M
 | _=> .bad
@[simp] theorem yf{α:Type}(a:α)(M:Mem):(Out.ok a M).W5= .ok a M:=id rfl
@[simp] theorem J4{α:Type}:(Out.bad:Out α).W5= .bad:=id rfl
@[simp] theorem J3{α:Type}(c:Nat)(d:D)(M:Mem):(Out.exc c d M:Out α).W5= .bad:=id rfl
def t7(src:Option (Nat×List D))(tt:MT)(te:ME)(ce:Sl):List D->List D->Mem->Out D
 | [],ys,M=>if gh src M then .ok (.ref M.length) (M++[.lst ys])else .bad
 | d::ds,ys,M=>if gh src M then(tt (some d::ce) M).W5.bind λk M1=>if k=true then(te (some d::ce) M1).W5.bind λy M2=>t7 src tt te ce ds (ys++[y]) M2 else t7 src tt te ce ds ys M1 else .bad
def IV(js:List Nat)(mi:MI)(tt:MT)(te:ME):ME:=λe M=>(mi e M).bind λit M1=>t7 it.src tt te (qP js e) it.ds [] M1
def STs(X:Cx)(ct:Nat->Addr)(W:bC)(ifs:List Expr)(m:MT):Prop:=PTs X ifs (tG Hu X.K ct W m)
def Lr:MT:=λ_ M=> .ok true M
theorem Ph:STs X ct W [] Lr:=λpins s σ H Q I ⟨ι,e,M,w,p⟩=>adI pins s σ H Q I (p ι true H .refl w.rl rfl)
theorem Wi(h:Zx X ct W c m):STs X ct W [c] m:=adH h
theorem Ws.caps{K:Frag}{ι:Nat->Addr}{e:Sl}{M:Mem}{σ:St}{H:Hp}{d:D}{v:V}(w:Ws K ct ι e M σ H)(js:List Nat)(h:DV K ct ι M.length H d v):Ws K ct ι (some d::qP js e) M (some v::L2.caps js σ) H:=by
 refine⟨w.rl,by simp[qP,L2.caps],λi x hx=> ?_⟩
 cases i with
 | zero=>simp at hx;subst hx;exact⟨v,rfl,h⟩
 | succ i=>
  simp only[List.getElem?_cons_succ,qP,zal]at hx
  obtain⟨j,hj,ej⟩:=Option.map_eq_some_iff.mp hx
  cases z:e[j]? with
  | none=>rw[z]at ej;cases ej
  | some o=>
   rw[z]at ej
   cases(show o=some x from ej)
   obtain⟨u,hu,du⟩:=w.env j x z
   refine⟨u,?_,du⟩
   simp only[List.getElem?_cons_succ,L2.caps,zal,hj,Option.map_some,hu]
   rfl
theorem Rw(h:tG (dh X.K ct) X.K ct W (IV js mi tt te) σ H Q):aaa js (tG (adB X.K ct) X.K ct W mi) (tG Hu X.K ct W0 tt) (tG (dh X.K ct) X.K ct W0 te) σ H Q:=by
 obtain⟨ι,e,M,w,p⟩:=bR (d7:=adB X.K ct) (f:=λit e M1=>t7 it.src tt te (qP js e) it.ds [] M1) h
 refine⟨ι,e,M,w,p.mono ?_⟩
 rintro J H1 ⟨cB,e1,M1,it,w1,q1,p1⟩
 obtain⟨ok1,hz,step⟩:=q1
 refine⟨λi m ys H'=>m=it.ds.length - i/\i<=it.ds.length/\ys.length<=i/\∃ι' M' ds',Ext X.K cB M1.length H1 ι' M'.length H'/\Rl X.K ct ι' M' H'/\jo X.K ct ι' M'.length H' ds' ys/\gj (dh X.K ct) X.K ct (wAt W σ) ι' M'.length H' (t7 it.src tt te (qP js e1) (it.ds.drop i) ds' M') Q,
  ⟨it.ds.length,by simp,Nat.zero_le _,zaa _,cB,M1,[],.refl,w1.rl,.nil,by simpa using p1⟩,?_⟩
 rintro i m ys H' ⟨rfl,hi,hy,ι',M',ds',x',r',dy,p'⟩
 by_cases hlt:i<it.ds.length
 ·rw[List.drop_eq_getElem_cons hlt]at p'
  unfold t7 at p'
  by_cases ok':gh it.src M'
  ·rw[if_pos ok']at p'
   obtain⟨go,yl⟩:=(step ι' M' H' x' r' ok' i).1 _ (zab hlt)
   refine .inr ⟨go,λZC H2=>ZC.length<=i+1/\∃gk M2 ds2,Ext X.K cB M1.length H1 gk M2.length H2/\Rl X.K ct gk M2 H2/\jo X.K ct gk M2.length H2 ds2 ZC/\gj (dh X.K ct) X.K ct (wAt W σ) gk M2.length H2 (t7 it.src tt te (qP js e1) (it.ds.drop (i+1)) ds2 M2) Q,?_,?_⟩
   ·rintro ZC H2 ⟨hl2,q2⟩
    exact⟨(),it.ds.length - (i+1),(),rfl,hlt,hl2,q2⟩
   ·intro x H2 y
    obtain⟨x2,r2,dv⟩:=yl x H2 y
    have w2:Ws X.K ct ι' (some it.ds[i]::qP js e1) M' (some x::L2.caps js σ) H2:=(w1.ext (x'.trans x2) r2).caps js dv
    have p2:=p'.ext x2
    refine⟨ι',_,M',w2,?_⟩
    cases z:tt (some it.ds[i]::qP js e1) M' with
    | bad=>simp only[z,J4,Out.b7]at p2;exact p2
    | exc xc xd xM=>simp only[z,J3,Out.b7]at p2;exact p2.elim
    | ok k M3=>
     simp only[z,yf,Out.bI]at p2
     intro Ds k3 H3 x3 r3 ek
     have L_:k=k3:=ek;subst L_
     have p3:=p2.ext x3
     have w3:=w2.ext x3 r3
     have dy3:=(dy.mono x2).mono x3
     cases k with
     | false=>exact⟨(),Ds,M3,ds',(x'.trans x2).trans x3,r3,dy3,p3⟩
     | true=>
      simp only[if_true]at p3 ⊢
      refine⟨Ds,_,M3,w3,?_⟩
      cases z4:te (some it.ds[i]::qP js e1) M3 with
      | bad=>simp only[z4,J4,Out.b7]at p3;exact p3
      | exc xc xd xM=>simp only[z4,J3,Out.b7]at p3;exact p3.elim
      | ok yy M4=>
       simp only[z4,yf,Out.bI]at p3
       intro ι4 v4 H4 x4 r4 d4
       exact⟨by rw[List.length_append];simp;omega,ι4,M4,ds'++[yy],((x'.trans x2).trans x3).trans x4,r4,(dy3.mono x4).append (.cons d4 .nil),p3.ext x4⟩
  ·rw[if_neg ok']at p'
   exact p'.elim
 ·have e0:i=it.ds.length:=()
  subst e0
  rw[List.drop_length]at p'
  unfold t7 at p'
  by_cases ok':gh it.src M'
  ·rw[if_pos ok']at p'
   exact .inl ⟨(step ι' M' H' x' r' ok' _).2 (zaa _),(),λpp hp=>tD r' dy hp p'⟩
  ·rw[if_neg ok']at p'
   exact p'.elim
variable{elt iter:Expr}{ifs:List Expr}{scope:Scope}{x:Str}{px:Pos}{mi:MI}{tt:MT}{te:ME}
theorem Py(hc:X.calm=true)(cs:List Str)(js:List Nat)(hi:SI X ct W (.Name x px) iter mi)(hcap:uv X scope cs js)(ht:∀cl C fp s H,STs (dz X scope cl C (x::cs) fp s H) ct W0 ifs tt)(he:∀cl C fp s H,SE (dz X scope cl C (x::cs) fp s H) ct W0 elt te)
  (hall:∀y∈scope.names,y.2= .free->y.1∈cs) (hcell:∀y∈scope.names,y.2≠ .cell) (hnames:∀y∈scope.names,y.2= .local->scope.names.lookup y.1=some .local) (hnd:(x::cs).Nodup)
  (hkind:scope.kind= .function:=by rfl) (hx:scope.names.lookup x=some .local:=by rfl) (hs:∀v,foldedSetIterable iter X.env v=pure v:=by intro _;rfl):
  SE X ct W (.ListComp elt [⟨.Name x px,iter,ifs,0⟩] scope pos) (IV js mi tt te):=
 dY (adY (tt:=tG Hu X.K ct W0 tt) (te:=tG (dh X.K ct) X.K ct W0 te) hc cs js hi hcap (λcl C fp s H=>ht cl C fp s H) (λcl C fp s H=>he cl C fp s H) hall hcell hnames hnd hkind hx hs) λσ H Q q=>Rw q
theorem adh(hc:X.calm=true)(cs:List Str)(js:List Nat)(hN:X.N.Nodup)(hk:X.N[k]? = some y)(hy:X.env.scope.names.lookup y=some .local)(hi:SI X ct W (.Name x px) iter mi)(hcap:uv X scope cs js)
  (ht:∀cl C fp s H,STs (dz X scope cl C (x::cs) fp s H) ct W0 ifs tt) (he:∀cl C fp s H,SE (dz X scope cl C (x::cs) fp s H) ct W0 elt te)
  (hall:∀y∈scope.names,y.2= .free->y.1∈cs) (hcell:∀y∈scope.names,y.2≠ .cell) (hnames:∀y∈scope.names,y.2= .local->scope.names.lookup y.1=some .local) (hnd:(x::cs).Nodup)
  (hsw:swapsWith (.ListComp elt [⟨.Name x px,iter,ifs,0⟩] scope pos) (some (.Name y py)) spos.line X.env=pure true:=by rfl)
  (hkind:scope.kind= .function:=by rfl) (hx:scope.names.lookup x=some .local:=by rfl) (hs:∀v,foldedSetIterable iter X.env v=pure v:=by intro _;rfl):
  SS X ct W (.Assign [.Name y py] (.ListComp elt [⟨.Name x px,iter,ifs,0⟩] scope pos) spos) (cu (IV js mi tt te) (gN k)):=
 PS.imp (adR (tt:=tG Hu X.K ct W0 tt) (te:=tG (dh X.K ct) X.K ct W0 te) hc cs js hN hk hy hi hcap (λcl C fp s H=>ht cl C fp s H) (λcl C fp s H=>he cl C fp s H) hall hcell hnames hnd hsw hkind hx hs) λT σ H q=>Pg (λ_ q=>Rw q) (λv H Q ⟨ι,e,M,d,w,q,p⟩=>p _ (w.set k q)) q
end
def slots(n:Nat)(ds:List D):Sl:=ds.map some++List.replicate (n - ds.length) none
noncomputable def aM(n:Nat)(b:MS):Fn:=λds M=>match b (slots n ds) M with
 | .ret d M'=> .ok d M'
 | .next _ M'=> .ok .non M'
 | .exc c d _ M'=> .exc c d M'
 | _=> .bad
theorem Ws.start{K:Frag}{ct ι:Nat->Addr}{M:Mem}{H:Hp}{ds:List D}{vs:List V}(N:List Str)(R:Rl K ct ι M H)(h:jo K ct ι M.length H ds vs):Ws K ct ι (slots N.length ds) M (L2.start N vs) H:=by
 refine⟨R,by simp[slots,L2.start,h.length],λi d hd=> ?_⟩
 unfold slots at hd
 by_cases z:i<ds.length
 ·rw[zad (by simpa using z),zal]at hd
  obtain⟨d',e1,e2⟩:=Option.map_eq_some_iff.mp hd
  cases e2
  obtain⟨v,hv,dv⟩:=h.at e1
  refine⟨v,?_,dv⟩
  unfold L2.start
  rw[zad (by rw[zam,h.length];exact z),zal,hv]
  rfl
 ·rw[zac (by simpa using z),List.getElem?_replicate]at hd
  split at hd<;>cases hd
section
variable{P:Program}{w:World}{K:Frag}{mg:Str->Option Value}{base:Heap}{ct:Nat->Addr}
theorem aoM{n ar:Nat}{b:MS}{x qual:Str}{st:Stmt}{dV:Value}{f:Addr}{fd:FuncData}{N ps:List Str}{k:Nat}(F:zE K x qual st dV f fd)(S:sy N ps (bu st))(hn:N.length=n)(har:ps.length=ar)
  (hbody:∀(cdv:Value) (A:Around) (outer:List PySem.Env) (s:Shared) (H:Hp) (E:XK) (W:bC),iM k (A.deeper (envOfC qual (bu st) s.heap.objs.size f cdv))->
   ZF ((yJ (EY P w) P w K mg base N qual (bu st) f cdv A outer s H E).wish (iQ (yJ (EY P w) P w K mg base N qual (bu st) f cdv A outer s H E) W)) ct W (dM st) b):
  ie P w K mg base (EY P w) (k+1) f fd ps (spS K ct (aM n b) ar):=by
 subst hn har
 refine F.okX S (λvs H Q E ⟨ι,ds,M,hl,_,hd,_⟩=>by rw[hd.length,hl]) ?_
 rintro cdv A outer s H vs Q E hr ⟨ι,ds,M,hl,R,hd,p⟩
 refine⟨_,λC dx _ H'=>E (.ref C) (some dx) H',λC dx σ H' z=>z,hbody cdv A outer s H E _ hr,ι,slots N.length ds,M,Ws.start N R hd,?_⟩
 unfold aM at p
 cases z:b (slots N.length ds) M with
 | ret d M'=>rw[z]at p;exact λι' v H' x r q=> .inl (p ι' v H' x r q)
 | next e M'=>rw[z]at p;exact λι' σ' H' x w'=> .inl (p ι' .non H' x w'.rl .non)
 | exc c d e M'=>rw[z]at p;exact λι' σ' dx v H' x w' q1 q2=>p ι' dx v H' x w'.rl q1 q2
 | brk e M'=>rw[z]at p;exact p.elim
 | cont e M'=>rw[z]at p;exact p.elim
 | bad=>rw[z]at p;exact p.elim
end
theorem akW{P:Program}{w:World}{K:Frag}{mg:Str->Option Value}{base:Heap}{k:Nat}{f:Addr}{fd:FuncData}{ps:List Str}{sp:Sp}(F:ie P w K mg base (EY P w) k f fd ps sp):ie P w K mg base Zz k f fd ps (λvs H Q _=>sp vs H Q E0):=
 ⟨λvs H Q _ h=>F.len vs H Q E0 h,λA outer s H args us vs Q E hr he hb hv hs=>codeAny_mono (F.run A outer s H args us vs Q E0 hr he hb hv hs) λr s' hq=>by
  match r,hq with
  | .error e,hq=>obtain⟨_,_,_,_,_,_,_,_,_,_,_,_,_,_,_,z⟩:=hq;exact z.elim
  | .ok (.ret u),hq=>exact hq⟩
theorem fO(hst:Y.stack=Y.env::Y.outer)(hf:Y.env.frame=some Y.env.locals)(ok:(Y.wish (iQ Y W)).Ok):PassesOwn (model Y.prog Y.w) Y.A Y.env (iQ Y W):=λev s' h=>iQ.Yu hst hf ok.frames ev s' h
theorem Tk.none:Tk X W0:=λ_ _ ⟨_,_,_,_,_,_,_,_,_,_,_,_,_,_,z⟩=>z.elim
def spL(K:Frag):Sp:=λvs H Q _=>∃(a:Addr) (ns:List Int),vs=[.ref a]/\FrL K H a (ns.map V.int)/\ns.length<=63/\∀H',Q (.bl true) H'
theorem Mj{K:Frag}{ct ι:Nat->Addr}{n:Nat}{H:Hp}:∀ns:List Int,jo K ct ι n H (ns.map D.int) (ns.map V.int)
 | []=> .nil
 | i::r=> .cons (.int i) (Mj r)
theorem akF{P:Program}{w:World}{K:Frag}{mg:Str->Option Value}{base:Heap}{ct:Nat->Addr}{k:Nat}{f:Addr}{fd:FuncData}{x:Str}{fn:Fn}(F:ie P w K mg base (EY P w) k f fd [x] (spS K ct fn 1))
  (h:∀ns:List Int,ns.length<=63->∃M,fn [.cl (ns.map D.int)] []= .ok (.bl true) M):ie P w K mg base Zz k f fd [x] (spL K):=by
 refine(akW F).imp ?_
 rintro vs H Q E ⟨a,ns,e,hf,hl,q⟩
 subst e
 obtain⟨M,e⟩:=h ns hl
 refine⟨λ_=>0,[.cl (ns.map D.int)],[],rfl,⟨λi j hi=>absurd hi (Nat.not_lt_zero _),λi o h=>by simp at h⟩,.cons (.cl hf (Mj ns)) .nil,?_⟩
 rw[e]
 intro ι' v H' _ _ dv
 cases dv
 exact q H'
theorem aiY{l:PySem.W.OpenLaw}{loose:List Str}{XP:(Str->Option Value)->Heap->Prop}{YP:World->Heap->Prop}{K:Params->Frag}{x:Str}{k:Nat}(hn:l.most=some 63)(hdf:d.params.defaults=[])(hr:iM k callerA)
  (hY:∀(w:World) (h:Heap),YP w h->(K w.params).In h)
  (F:∀(w:World) (mg:Str->Option Value) (fa:Addr) (h:Heap),(K w.params).In h->h.Ns mainGlobals mg->mg d.name=some (.ref fa)->
   ∃fd:FuncData,(∀(s:Shared) (u:Value),BindsTo s fd ⟨[u],[]⟩ [(x,u)])/\∀base:Heap,(K w.params).In base->base.Ns mainGlobals mg->ie l.prog w (K w.params) mg base Zz k fa fd [x] (spL (K w.params))):
  PySem.W.WalkO q loose XP YP l.row.toRowW d [] (λf vs=>PySem.call f vs):=
 ac1 (n:=63) (k:=k) (x:=x) (CX:=λ_=>Zz) (sp:=λw=>spL (K w.params)) hn (by decide) hdf hr hY F (λ_ H a ns hl hO hS=>⟨a,ns,rfl,by
  rcases hS with(z | z) | z
  ·rcases hO a with n | ⟨o,xs,n⟩
   ·rw[n]at z;cases z
   ·rw[n]at z;cases z
  ·exact .inl z
  ·exact .inr z,hl,λ_=>rfl⟩) λ_ _ _ _ _ z=>z
section
variable{e:Sl}{M:Mem}
@[simp low] theorem al_(h:e[i]? = some (some d)):aq i e M= .ok d M:=fG h
@[simp] theorem akk:aq 0 (some d::r) M= .ok d M:=fG rfl
@[simp] theorem ap3:aq 1 (o0::some d::r) M= .ok d M:=fG rfl
@[simp] theorem ap2:aq 2 (o0::o1::some d::r) M= .ok d M:=fG rfl
@[simp] theorem ap1:aq 3 (o0::o1::o2::some d::r) M= .ok d M:=fG rfl
@[simp] theorem ap0:aq 4 (o0::o1::o2::o3::some d::r) M= .ok d M:=fG rfl
@[simp] theorem apZ:aq 5 (o0::o1::o2::o3::o4::some d::r) M= .ok d M:=fG rfl
@[simp] theorem aby:aq 6 (o0::o1::o2::o3::o4::o5::some d::r) M= .ok d M:=fG rfl
@[simp] theorem akj:aq 7 (o0::o1::o2::o3::o4::o5::o6::some d::r) M= .ok d M:=fG rfl
@[simp] theorem abx:aq 8 (o0::o1::o2::o3::o4::o5::o6::o7::some d::r) M= .ok d M:=fG rfl
@[simp] theorem aki:aq 9 (o0::o1::o2::o3::o4::o5::o6::o7::o8::some d::r) M= .ok d M:=fG rfl
@[simp] theorem aho:aq 10 (o0::o1::o2::o3::o4::o5::o6::o7::o8::o9::some d::r) M= .ok d M:=fG rfl
@[simp] theorem anV:aq 11 (o0::o1::o2::o3::o4::o5::o6::o7::o8::o9::o10::some d::r) M= .ok d M:=fG rfl
@[simp] theorem anU:aq 12 (o0::o1::o2::o3::o4::o5::o6::o7::o8::o9::o10::o11::some d::r) M= .ok d M:=fG rfl
@[simp] theorem anT:aq 13 (o0::o1::o2::o3::o4::o5::o6::o7::o8::o9::o10::o11::o12::some d::r) M= .ok d M:=fG rfl
@[simp] theorem anS:aq 14 (o0::o1::o2::o3::o4::o5::o6::o7::o8::o9::o10::o11::o12::o13::some d::r) M= .ok d M:=fG rfl
@[simp] theorem anR:aq 15 (o0::o1::o2::o3::o4::o5::o6::o7::o8::o9::o10::o11::o12::o13::o14::some d::r) M= .ok d M:=fG rfl
@[simp] theorem Ti:mC d e M= .ok d M:=id rfl
def bd2{α β γ:Type}(op:α->β->Mem->Out γ)(mb:Sl->Mem->Out β)(e:Sl)(d:α)(M:Mem):Out γ:=(mb e M).bind (op d)
@[simp high] theorem MK{α β γ:Type}{op:α->β->Mem->Out γ}{mb:Sl->Mem->Out β}{d:α}:(Out.ok d M).bind (bd2 op mb e)=(mb e M).bind (op d):=id rfl
@[simp] theorem Cj:aC op ma mb e M=(ma e M).bind (bd2 op mb e):=id rfl
def cN{β:Type}(a b:Sl->Mem->β)(e:Sl)(k:Bool)(M:Mem):β:=if k=true then a e M else b e M
@[simp] theorem aqK{β:Type}{a b:Sl->Mem->β}{k:Bool}:cN a b e k M=if k=true then a e M else b e M:=id rfl
@[simp high] theorem asr{β:Type}{a b:Sl->Mem->Out β}:(Out.ok true M).bind (cN a b e)=a e M:=id rfl
@[simp high] theorem ass{β:Type}{a b:Sl->Mem->Out β}:(Out.ok false M).bind (cN a b e)=b e M:=id rfl
@[simp high] theorem alf:xm e (.ok true M) (cN a b e)=a e M:=id rfl
@[simp high] theorem alg:xm e (.ok false M) (cN a b e)=b e M:=id rfl
def bdB{β:Type}(f:Bool->Mem->Out β)(d:D)(M:Mem):Out β:=(Zr d M).bind f
@[simp high] theorem ao_{β:Type}{f:Bool->Mem->Out β}{b:Bool}:(Out.ok (.bl b) M).bind (bdB f)=(Out.ok b M).bind f:=id rfl
def mFl:MT:=λ_ M=> .ok false M
@[simp] theorem an6:mFl e M= .ok false M:=id rfl
@[simp] theorem ael:Lr e M= .ok true M:=id rfl
def akb(k:Bool)(M:Mem):Out Bool:= .ok (!k) M
@[simp] theorem al8:akb k M= .ok (!k) M:=id rfl
def aka(k:Bool)(M:Mem):Out D:= .ok (.bl (!k)) M
@[simp] theorem al7:aka k M= .ok (.bl (!k)) M:=id rfl
@[simp] theorem anW:mUn op ma e M=(ma e M).bind op:=id rfl
@[simp] theorem apd:Zr (.bl b) M= .ok b M:=id rfl
@[simp] theorem Gu:aY m e M=(m e M).bind Zr:=id rfl
@[simp] theorem Xa:Nu t u e M=(t e M).bind (cN u mFl e):=id rfl
@[simp] theorem ahp:YK t u e M=(t e M).bind (cN Lr u e):=id rfl
@[simp] theorem ame:YL t e M=(t e M).bind akb:=id rfl
@[simp] theorem aky:wR t u e M=(t e M).bind (bdB (cN u (mC (.bl false)) e)):=id rfl
@[simp] theorem amd:Th t u e M=(t e M).bind (bdB (cN (mC (.bl true)) u e)):=id rfl
@[simp] theorem akn:W9 t e M=(t e M).bind (bdB aka):=id rfl
@[simp] theorem an5:mIf t a b e M=(t e M).bind (cN a b e):=id rfl
@[simp] theorem amf:aF e M= .ok [] M:=id rfl
def okC(d:D)(ds:List D)(M:Mem):Out (List D):= .ok (d::ds) M
@[simp high] theorem anG:(Out.ok ds M).bind (okC d)= .ok (d::ds) M:=id rfl
@[simp] theorem abC:au m ms e M=(m e M).bind (bd2 okC ms e):=id rfl
theorem J7:sizeLine=16777216:=sizeLine_eq
def Ro(ds:List D)(M:Mem):Out D:=if ds.length<=sizeLine then .ok (.tup ds) M else .bad
@[simp low] theorem alM:Ro ds M=if ds.length<=16777216 then .ok (.tup ds) M else .bad:=by unfold Ro;rw[J7]
@[simp] theorem ama:gw ms e M=(ms e M).bind Ro:=id rfl
@[simp high] theorem apA:(Out.ok [a0] M).bind Ro= .ok (.tup [a0]) M:=by simp
@[simp high] theorem apz:(Out.ok [a0,a1] M).bind Ro= .ok (.tup [a0,a1]) M:=by simp
@[simp high] theorem apy:(Out.ok [a0,a1,a2] M).bind Ro= .ok (.tup [a0,a1,a2]) M:=by simp
@[simp high] theorem apx:(Out.ok [a0,a1,a2,a3] M).bind Ro= .ok (.tup [a0,a1,a2,a3]) M:=by simp
@[simp high] theorem apw:(Out.ok [a0,a1,a2,a3,a4] M).bind Ro= .ok (.tup [a0,a1,a2,a3,a4]) M:=by simp
def aen(ds:List D)(M:Mem):Out D:=if ds.length<=sizeLine then .ok (.ref M.length) (M++[.lst ds])else .bad
@[simp low] theorem amn:aen ds M=if ds.length<=16777216 then .ok (.ref M.length) (M++[.lst ds])else .bad:=by unfold aen;rw[J7]
@[simp high] theorem ap5:(Out.ok [] M).bind aen= .ok (.ref M.length) (M++[.lst []]):=by simp
@[simp] theorem amg:A_ ms e M=(ms e M).bind aen:=id rfl
@[simp] theorem ami:cz cs m f e M=(m e M).bind (j5 cs f):=id rfl
theorem cD(h:M[n]? = some (.ins c fs))(hc:c∈cs)(hf:fs.lookup f=some d):j5 cs f (.ref n) M= .ok d M:=by
 unfold j5;simp only[h,hc,if_true,hf]
def Dp(fn:Fn)(ar:Nat)(dv ds:List D)(M:Mem):Out D:=if(ds++dv).length=ar then fn (ds++dv) M else .bad
@[simp low] theorem ald:Dp fn ar dv ds M=if(ds++dv).length=ar then fn (ds++dv) M else .bad:=id rfl
@[simp high] theorem ao8:(Out.ok [a0] M).bind (Dp fn 1 [])=fn [a0] M:=id rfl
@[simp high] theorem ao7:(Out.ok [a0,a1] M).bind (Dp fn 2 [])=fn [a0,a1] M:=id rfl
@[simp high] theorem ao6:(Out.ok [a0,a1,a2] M).bind (Dp fn 3 [])=fn [a0,a1,a2] M:=id rfl
@[simp high] theorem ao5:(Out.ok [a0,a1,a2,a3] M).bind (Dp fn 4 [])=fn [a0,a1,a2,a3] M:=id rfl
@[simp high] theorem ao4:(Out.ok [a0,a1,a2,a3,a4] M).bind (Dp fn 5 [])=fn [a0,a1,a2,a3,a4] M:=id rfl
@[simp high] theorem ao3:(Out.ok [a0,a1,a2,a3,a4,a5] M).bind (Dp fn 6 [])=fn [a0,a1,a2,a3,a4,a5] M:=id rfl
@[simp] theorem akx:bG fn ar dv ms e M=(ms e M).bind (Dp fn ar dv):=id rfl
def callC(fn:Fn)(ar:Nat)(dv:List D)(d:D)(ds:List D)(M:Mem):Out D:=Dp fn ar dv (d::ds) M
@[simp high] theorem ale:(Out.ok ds M).bind (callC fn ar dv d)=(Out.ok (d::ds) M).bind (Dp fn ar dv):=id rfl
def afD(k:Nat)(m:Str)(fn:Fn)(ar:Nat)(dv:List D)(ms:MA)(e:Sl)(d:D)(M:Mem):Out D:=if tW k m d M=true then(ms e M).bind (callC fn ar dv d)else .bad
@[simp high] theorem akf:(Out.ok d M).bind (afD k m fn ar dv ms e)=if tW k m d M=true then(ms e M).bind (callC fn ar dv d)else .bad:=id rfl
@[simp] theorem ako:aU k m fn ar dv mo ms e M=(mo e M).bind (afD k m fn ar dv ms e):=id rfl
theorem wW(h:M[n]? = some (.ins k fs))(hf:fs.lookup m=none):tW k m (.ref n) M=true:=by
 unfold tW;simp[h,hf]
def mkR(n:Nat)(r:D)(M:Mem):Out D:=if Ot r=true then .ok (.ref n) M else .bad
@[simp] theorem anO:mkR n r M=if Ot r=true then .ok (.ref n) M else .bad:=id rfl
def mkO(kc:Nat)(fn:Fn)(ar:Nat)(dv ds:List D)(M:Mem):Out D:=if(D.ref M.length::(ds++dv)).length=ar then(fn (.ref M.length::(ds++dv)) (M++[.ins kc []])).bind (mkR M.length)else .bad
@[simp high] theorem anQ:(Out.ok ds M).bind (mkO kc fn ar dv)=if(D.ref M.length::(ds++dv)).length=ar then(fn (.ref M.length::(ds++dv)) (M++[.ins kc []])).bind (mkR M.length)else .bad:=id rfl
@[simp] theorem akp:yV kc fn ar dv ms e M=(ms e M).bind (mkO kc fn ar dv):=id rfl
@[simp] theorem aiL:Ot .non=true:=id rfl
@[simp] theorem ahr:Bb op ms e M=(ms e M).bind op:=id rfl
def bmO(T:String)(op:D->List D->Mem->Out D)(ms:MA)(e:Sl)(d:D)(M:Mem):Out D:=if Wa T d M=true then(ms e M).bind (op d)else .bad
@[simp high] theorem ao9:(Out.ok d M).bind (bmO T op ms e)=if Wa T d M=true then(ms e M).bind (op d)else .bad:=id rfl
@[simp] theorem an7:mBM T op mo ms e M=(mo e M).bind (bmO T op ms e):=id rfl
def bd3(op:D->Option Int->Option Int->Mem->Out D)(lo hi:MO')(e:Sl)(d:D)(M:Mem):Out D:=(lo e M).bind (bd2 (op d) hi e)
@[simp] theorem apa{op:D->Option Int->Option Int->Mem->Out D}{lo hi:MO'}:bd3 op lo hi e d M=(lo e M).bind (bd2 (op d) hi e):=id rfl
@[simp] theorem anZ{lo hi:MO'}:mSl m lo hi e M=(m e M).bind (bd3 sSl lo hi e):=id rfl
@[simp] theorem akm:IK m e M=(m e M).bind asI:=id rfl
@[simp] theorem ahq:uP e M= .ok none M:=id rfl
@[simp] theorem amN:asI (.int i) M= .ok (some i) M:=id rfl
@[simp] theorem akr:Ba m e M=(m e M).bind Vt:=id rfl
@[simp] theorem akH:Vt (.tup ds) M= .ok ⟨none,ds⟩ M:=id rfl
theorem qN(h:M[n]? = some (.lst ds)):Vt (.ref n) M= .ok ⟨some (n,ds),ds⟩ M:=by simp only[Vt,dD h]
@[simp] theorem akl:Iz ms e M=(ms e M).bind Nh:=id rfl
theorem FZ(h: -(2 ^ 62)<=j)(h2:j<2 ^ 24):Nh [.int j] M= .ok ⟨none,C_ 0 j.toNat⟩ M:=by simp only[Nh];rw[if_pos ⟨h,h2⟩]
def cpO(tt:MT)(te:ME)(ce:Sl)(it:Itm)(M:Mem):Out D:=t7 it.src tt te ce it.ds [] M
@[simp] theorem aoV:cpO tt te ce it M=t7 it.src tt te ce it.ds [] M:=id rfl
@[simp] theorem akv:IV js mi tt te e M=(mi e M).bind (cpO tt te (qP js e)):=id rfl
@[simp] theorem HR:Qu C g (.int i) (.int j) M=if C i j=true then .ok (g i j) M else .bad:=id rfl
@[simp] theorem ajJ:tu (.int i) (.int j) M= .ok (.int (i+j)) M:=id rfl
@[simp] theorem ajt:UW (.int i) (.int j) M= .ok (.int (i - j)) M:=id rfl
@[simp] theorem aaC:K5 (.int i) (.int j) M= .ok (.int (Builtin.bitAnd i j)) M:=id rfl
@[simp] theorem alW:sOr (.int i) (.int j) M= .ok (.int (Builtin.bitOr i j)) M:=id rfl
@[simp] theorem alZ:sLt (.int i) (.int j) M= .ok (.bl (decide (i<j))) M:=id rfl
@[simp] theorem ajC:Hs (.int i) (.int j) M= .ok (.bl (decide (i<=j))) M:=id rfl
@[simp] theorem ajF:Ht (.int i) (.int j) M= .ok (.bl (decide (j<i))) M:=id rfl
@[simp] theorem ajG:U6 (.int i) (.int j) M= .ok (.bl (decide (j<=i))) M:=id rfl
theorem RZ(h:(-(2 ^ 64)<i/\i<2 ^ 64)\/(-(2 ^ 64)<j/\j<2 ^ 64)):R0 (.int i) (.int j) M= .ok (.int (i*j)) M:=by
 refine lU ?_;unfold aau;rw[HR,if_pos (by unfold aij;exact zaf h)]
theorem qH(h:0<j)(h2:j<1073741824):mz (.int i) (.int j) M= .ok (.int (i / j)) M:=by
 unfold mz;rw[HR,if_pos (by unfold aik;exact zaf ⟨h,h2⟩)]
theorem jA(h:0<j):jj (.int i) (.int j) M= .ok (.int (i % j)) M:=by
 unfold jj;rw[HR,if_pos (by unfold alk;exact zaf h)]
theorem RW(h:0<=j/\j<=1000000/\i.natAbs<2 ^ 64):RX (.int i) (.int j) M= .ok (.int (i ^ j.toNat)) M:=by
 unfold RX;rw[HR,if_pos (by unfold Zq;exact zaf h)]
@[simp] theorem ajx:agm (.int i) M= .ok (.int (-i)) M:=id rfl
theorem Eh(h:gm M 12 d=some a)(h':gm M 12 d'=some b):Uo M d d'=some (jy a b):=by unfold Uo;rw[h,h']
theorem vf(h:Uo M d d'=some b):sEq d d' M= .ok (.bl b) M:=by unfold sEq;rw[h]
theorem Hr(h:Uo M d d'=some b):sNe d d' M= .ok (.bl (!b)) M:=by unfold sNe;rw[h]
theorem Xx:Uo M (.int i) (.int j)=some (decide (i=j)):=by
 rw[Eh (a:= .int i) (b:= .int j) rfl rfl];unfold jy;rw[Bool.beq_eq_decide_eq]
theorem Xw:Uo M (.str i) (.str j)=some (decide (i=j)):=by
 rw[Eh (a:= .str i) (b:= .str j) rfl rfl];unfold jy;rw[Bool.beq_eq_decide_eq]
theorem ack:Uo M (.bl i) (.bl j)=some (decide (i=j)):=by
 rw[Eh (a:= .bl i) (b:= .bl j) rfl rfl];unfold jy;rw[Bool.beq_eq_decide_eq]
@[simp] theorem Ww:sEq (.int i) (.int j) M= .ok (.bl (decide (i=j))) M:=vf Xx
@[simp] theorem alY:sNe (.int i) (.int j) M= .ok (.bl (!decide (i=j))) M:=Hr Xx
@[simp] theorem al4:sEq (.str i) (.str j) M= .ok (.bl (decide (i=j))) M:=vf Xw
@[simp] theorem alX:sNe (.str i) (.str j) M= .ok (.bl (!decide (i=j))) M:=Hr Xw
@[simp] theorem ano:sEq (.bl i) (.bl j) M= .ok (.bl (decide (i=j))) M:=vf ack
@[simp] theorem ank:sNe (.bl i) (.bl j) M= .ok (.bl (!decide (i=j))) M:=Hr ack
@[simp] theorem al2:sIs d .non M= .ok (.bl (LR d)) M:=id rfl
@[simp] theorem agv:Dz d .non M= .ok (.bl (!LR d)) M:=id rfl
@[simp] theorem amq:LR .non=true:=id rfl
@[simp] theorem amr:LR (.int i)=false:=id rfl
@[simp] theorem amo:LR (.ref i)=false:=id rfl
theorem VP{α:Type}{xs:List α}{k:Int}(h:0<=k):Nz xs k=xs[k.toNat]? := by
 unfold Nz ixN
 rw[if_pos h]
 by_cases z:k<xs.length
 ·rw[if_pos z];rfl
 ·rw[if_neg z]
  show none=_
  rw[List.getElem?_eq_none ()]
theorem xU(h0:0<=k)(h:ds[k.toNat]? = some d):a_ (.tup ds) (.int k) M= .ok d M:=
 lU (lU (by simp only[PB,VP h0,h]))
theorem ags(h0:0<=k)(h:ds[k.toNat]? = some d):a_ (.cl ds) (.int k) M= .ok d M:=
 lU (lU (by simp only[PB,Hl,VP h0,h]))
theorem jr(hM:M[n]? = some (.lst ds))(h0:0<=k)(h:ds[k.toNat]? = some d):a_ (.ref n) (.int k) M= .ok d M:=
 lU (lU (by simp only[PB,Hl,dD hM,VP h0,h]))
@[simp] theorem jB:a_ (.tup (d::r)) (.int 0) M= .ok d M:=xU (by decide) rfl
@[simp] theorem R1:a_ (.tup (d0::d::r)) (.int 1) M= .ok d M:=xU (by decide) rfl
@[simp] theorem ajE:a_ (.tup (d0::d1::d::r)) (.int 2) M= .ok d M:=xU (by decide) rfl
@[simp] theorem ajD:a_ (.tup (d0::d1::d2::d::r)) (.int 3) M= .ok d M:=xU (by decide) rfl
theorem qG(hM:M[n]? = some (.lst ds)):jz [.ref n] M= .ok (.int ds.length) M:=abg (abg (by simp only[Wu,zW,Hl,dD hM]))
@[simp] theorem ajz:jz [.tup ds] M= .ok (.int ds.length) M:=id rfl
@[simp] theorem al0:jz [.cl ds] M= .ok (.int ds.length) M:=id rfl
theorem adv{n:Nat}{ds:List D}{lo hi:Option Int}(hM:M[n]? = some (.lst ds)):sSl (.ref n) lo hi M= .ok (.ref M.length) (M++[.lst (cut ds lo hi)]):=by simp only[sSl,Hl,dD hM]
@[simp] theorem anh{ds:List D}{lo hi:Option Int}:sSl (.cl ds) lo hi M= .ok (.ref M.length) (M++[.lst (cut ds lo hi)]):=id rfl
theorem R4(hM:M[n]? = some (.lst ds))(h:ds.length<16777216):xV (.ref n) [d] M= .ok .non (M.set n (.lst (ds++[d]))):=by
 simp only[xV,hM];rw[J7,if_pos h]
theorem ZZ(hM:M[n]? = some (.lst ds)):Wa "list" (.ref n) M=true:=by simp[Wa,dD hM]
@[simp] theorem alL:Wa "int" (.int i) M=true:=id rfl
@[simp] theorem aiy:Wx (.int i) [] M= .ok (.int (Builtin.Int.intBits i:Nat)) M:=id rfl
@[simp] theorem aix:Im [.int i,.int j] M= .ok (.int (if j > i then j else i)) M:=id rfl
@[simp] theorem aiw:Wr [.int i,.int j] M= .ok (.int (if j<i then j else i)) M:=id rfl
@[simp] theorem ajw:bK e M= .next e M:=id rfl
def h_.seq(o:h_)(t:MS):h_:=match o with
 | .next e M=>t e M
 | .ret d M=> .ret d M
 | .brk e M=> .brk e M
 | .cont e M=> .cont e M
 | .exc c d e M=> .exc c d e M
 | .bad=> .bad
@[simp] theorem FW:aQ s t e M=(s e M).seq t:=by
 unfold aQ h_.seq
 cases s e M<;>rfl
@[simp] theorem RJ:(h_.next e M).seq t=t e M:=id rfl
@[simp] theorem ado:(h_.ret d M).seq t= .ret d M:=id rfl
@[simp] theorem aal:(h_.cont e M).seq t= .cont e M:=id rfl
@[simp] theorem alU:(h_.exc c d e M).seq t= .exc c d e M:=id rfl
@[simp] theorem aaA:ig m e M=xm e (m e M) λ_ M1=> .next e M1:=id rfl
@[simp] theorem adw:bB m e M=xm e (m e M) .ret:=id rfl
@[simp] theorem PJ:lK c s t e M=xm e (c e M) (cN s t e):=id rfl
def tgO(o:Option Sl)(M:Mem):h_:=match o with
 | some e'=> .next e' M
 | none=> .bad
@[simp] theorem Z5:tgO (some e) M= .next e M:=id rfl
def MP(g:Tg)(e:Sl)(d:D)(M:Mem):h_:=tgO (g d e) M
@[simp low] theorem ae5:MP g e d M=tgO (g d e) M:=id rfl
@[simp] theorem Wy:cu m g e M=xm e (m e M) (MP g e):=by
 unfold cu MP tgO;rfl
@[simp high] theorem aqS:xm e (.ok d M) (MP (gN 0) (o0::r))= .next (some d::r) M:=id rfl
@[simp high] theorem aqR:xm e (.ok d M) (MP (gN 1) (o0::o1::r))= .next (o0::some d::r) M:=id rfl
@[simp high] theorem aqQ:xm e (.ok d M) (MP (gN 2) (o0::o1::o2::r))= .next (o0::o1::some d::r) M:=id rfl
@[simp high] theorem aqP:xm e (.ok d M) (MP (gN 3) (o0::o1::o2::o3::r))= .next (o0::o1::o2::some d::r) M:=id rfl
@[simp high] theorem aqO:xm e (.ok d M) (MP (gN 4) (o0::o1::o2::o3::o4::r))= .next (o0::o1::o2::o3::some d::r) M:=id rfl
@[simp high] theorem aqN:xm e (.ok d M) (MP (gN 5) (o0::o1::o2::o3::o4::o5::r))= .next (o0::o1::o2::o3::o4::some d::r) M:=id rfl
@[simp high] theorem aqM:xm e (.ok d M) (MP (gN 7) (o0::o1::o2::o3::o4::o5::o6::o7::r))= .next (o0::o1::o2::o3::o4::o5::o6::some d::r) M:=id rfl
@[simp high] theorem apc:xm e (.ok d M) (MP (gN 10) (o0::o1::o2::o3::o4::o5::o6::o7::o8::o9::o10::r))= .next (o0::o1::o2::o3::o4::o5::o6::o7::o8::o9::some d::r) M:=id rfl
@[simp] theorem afK:gN i d e=some (e.set i (some d)):=id rfl
@[simp] theorem aqk:gT n gs (.tup ds) e=if ds.length=n then gs ds e else none:=id rfl
@[simp] theorem akU:dw g gs (d::ds) e=(g d e).bind (gs ds):=id rfl
@[simp] theorem amz:tZ [] e=some e:=id rfl
def Tc(o:Option Mem)(e:Sl):h_:=match o with
 | some M=> .next e M
 | none=> .bad
@[simp] theorem aiD:Tc (some M) e= .next e M:=id rfl
def fl2(cs:List Nat)(f:Str)(e:Sl)(d o:D)(M:Mem):h_:=Tc (ju cs f d o M) e
@[simp] theorem aoO:fl2 cs f e d o M=Tc (ju cs f d o M) e:=id rfl
def fl1(f:D->D->Mem->h_)(mo:ME)(e:Sl)(d:D)(M:Mem):h_:=xm e (mo e M) (f d)
@[simp] theorem aoQ:fl1 f mo e d M=xm e (mo e M) (f d):=id rfl
@[simp] theorem ajH:dZ cs mo mv f e M=xm e (mv e M) (fl1 (fl2 cs f e) mo e):=by
 unfold dZ fl1 fl2 Tc;rfl
theorem gK(h:M[n]? = some (.ins c fs))(hc:c∈cs)(hl:fs.length<1000):ju cs f d (.ref n) M=some (M.set n (.ins c (putD f d fs))):=by
 unfold ju;simp only[h];rw[if_pos ⟨hc,hl⟩]
def foO(g:Tg)(b:MS)(e:Sl)(it:Itm)(M:Mem):h_:=dR it.src g b it.ds e M
@[simp] theorem aoL:foO g b e it M=dR it.src g b it.ds e M:=id rfl
@[simp] theorem al3:DG mi g b e M=xm e (mi e M) (foO g b e):=id rfl
@[simp] theorem bV:slots (n+1) (d::ds)=some d::slots n ds:=by
 unfold slots
 simp
@[simp] theorem cj:slots (n+1) []=none::slots n []:=by
 unfold slots
 simp[List.replicate_succ]
@[simp] theorem bU:slots 0 []=[]:=id rfl
def aaK(o:h_):Out D:=match o with
 | .ret d M=> .ok d M
 | .next _ M=> .ok .non M
 | .exc c d _ M=> .exc c d M
 | _=> .bad
@[simp] theorem uK:aM n b ds M=aaK (b (slots n ds) M):=by
 unfold aM aaK
 cases b (slots n ds) M<;>rfl
@[simp] theorem aaJ:aaK (.ret d M)= .ok d M:=id rfl
@[simp] theorem ajM:aaK (.exc c d e M)= .exc c d M:=id rfl
@[simp] theorem Yn:aaK (.next e M)= .ok .non M:=id rfl
end
def h_.to(o:h_)(P:Sl->Mem->Prop)(R:D->Mem->Prop):Prop:=match o with
 | .next e M=>P e M
 | .cont e M=>P e M
 | .ret d M=>R d M
 | _=>False
@[simp] theorem alO{P:Sl->Mem->Prop}{R:D->Mem->Prop}:(h_.next e M).to P R=P e M:=id rfl
@[simp] theorem amZ{P:Sl->Mem->Prop}{R:D->Mem->Prop}:(h_.ret d M).to P R=R d M:=id rfl
theorem HX(P:Nat->Sl->Mem->Prop){R:D->Mem->Prop}:∀(ds:List D) (k:Nat) {e:Sl} {M:Mem},P k e M->
  (∀i e M,k<=i->i<=k+ds.length->P i e M->gh src M)->
  (∀i d e M,ds[i]? = some d->P (k+i) e M->∃e1,g d e=some e1/\(b e1 M).to (P (k+i+1)) R)->
  (∃e' M',dR src g b ds e M= .next e' M'/\P (k+ds.length) e' M')\/∃r M',dR src g b ds e M= .ret r M'/\R r M'
 | [],k,e,M,h0,hs,_=> .inl ⟨e,M,by unfold dR;rw[if_pos (hs k e M (zaa _) (zaa _) h0)],h0⟩
 | d::ds,k,e,M,h0,hs,hb=>by
  unfold dR
  rw[if_pos (hs k e M (zaa _) (Nat.le_add_right _ _) h0)]
  obtain⟨e1,hg,h⟩:=hb 0 d e M rfl h0
  rw[hg]
  have go:∀{e2:Sl} {M2:Mem},P (k+1) e2 M2->(∃e' M',dR src g b ds e2 M2= .next e' M'/\P (k+(d::ds).length) e' M')\/∃r M',dR src g b ds e2 M2= .ret r M'/\R r M':=λ{e2 M2} p=>by
   have go:=HX (src:=src) (g:=g) (b:=b) P (R:=R) ds (k+1) (e:=e2) (M:=M2) p
    (λi e M h1 h2=>hs i e M () (by simp only[List.length_cons];omega)) (λi d e M hd hp=>by
     have e4:k+(i+1)=k+1+i:=()
     have:=hb (i+1) d e M (by simpa using hd) (by rw[e4];exact hp)
     rw[e4]at this
     exact this)
   have el:k+1+ds.length=k+(d::ds).length:=by simp only[List.length_cons];omega
   rw[el]at go
   exact go
  cases z:b e1 M with
  | next e2 M2=>rw[z]at h;simp only[z];exact go h
  | cont e2 M2=>rw[z]at h;simp only[z];exact go h
  | ret r M2=>rw[z]at h;simp only[z];exact .inr ⟨r,M2,rfl,h⟩
  | brk _ _=>rw[z]at h;exact h.elim
  | exc _ _ _ _=>rw[z]at h;exact h.elim
  | bad=>rw[z]at h;exact h.elim
theorem pK(P:Nat->Sl->Mem->Prop)(h0:P 0 e M)
  (hs:∀i e M,i<=ds.length->P i e M->gh src M)
  (hb:∀i d e M,ds[i]? = some d->P i e M->∃e1,g d e=some e1/\(b e1 M).to (P (i+1)) λ_ _=>False):
  ∃e' M',dR src g b ds e M= .next e' M'/\P ds.length e' M':=by
 rcases HX (src:=src) (g:=g) (b:=b) P (R:=λ_ _=>False) ds 0 h0 (λi e M _ h2=>hs i e M ()) (λi d e M hd hp=>by
  rw[Nat.zero_add]at hp ⊢
  exact hb i d e M hd hp)with h | ⟨_,_,_,h⟩
 ·simpa using h
 ·exact h.elim
theorem Mq(P:Nat->List D->Mem->Prop):∀(ds:List D) (k:Nat) {ys:List D} {M:Mem},P k ys M->
  (∀i ys M,k<=i->i<=k+ds.length->P i ys M->gh src M)->
  (∀i d ys M,ds[i]? = some d->P (k+i) ys M->∃t M1,tt (some d::ce) M= .ok t M1/\((t=false/\P (k+i+1) ys M1)\/(t=true/\∃y M2,te (some d::ce) M1= .ok y M2/\P (k+i+1) (ys++[y]) M2)))->
  ∃ys' M',t7 src tt te ce ds ys M= .ok (.ref M'.length) (M'++[.lst ys'])/\P (k+ds.length) ys' M'
 | [],k,ys,M,h0,hs,_=>⟨ys,M,by unfold t7;rw[if_pos (hs k ys M (zaa _) (zaa _) h0)],h0⟩
 | d::ds,k,ys,M,h0,hs,hb=>by
  unfold t7
  rw[if_pos (hs k ys M (zaa _) (Nat.le_add_right _ _) h0)]
  obtain⟨t,M1,ht,h⟩:=hb 0 d ys M rfl h0
  rw[ht,yf,Out.bI]
  have el:k+1+ds.length=k+(d::ds).length:=by simp only[List.length_cons];omega
  have go:∀{ZC:List D} {M2:Mem},P (k+1) ZC M2->∃ys' M',t7 src tt te ce ds ZC M2= .ok (.ref M'.length) (M'++[.lst ys'])/\P (k+(d::ds).length) ys' M':=λ{ZC M2} p=>by
   have:=Mq (src:=src) (tt:=tt) (te:=te) (ce:=ce) P ds (k+1) (ys:=ZC) (M:=M2) p
    (λi e M h1 h2=>hs i e M () (by simp only[List.length_cons];omega)) (λi d e M hd hp=>by
     have:=hb (i+1) d e M (by simpa using hd) (by have:k+(i+1)=k+1+i:=()
                                                  rw[this];exact hp)
     have e3:k+(i+1)+1=k+1+i+1:=()
     rw[e3]at this
     exact this)
   rw[el]at this
   exact this
  rcases h with⟨rfl,p⟩ | ⟨rfl,y,M2,hy,p⟩
  ·exact go p
  ·simp only[if_true]
   rw[hy,yf,Out.bI]
   exact go p
theorem acv(f:D->D)(hs:gh src M)(hf:∀d∈ds,te (some d::ce) M= .ok (f d) M):t7 src Lr te ce ds [] M= .ok (.ref M.length) (M++[.lst (ds.map f)]):=by
 have key:∀(ds ys:List D),(∀d∈ds,te (some d::ce) M= .ok (f d) M)->t7 src Lr te ce ds ys M= .ok (.ref M.length) (M++[.lst (ys++ds.map f)]):=by
  intro ds
  induction ds with
  | nil=>intro ys _;unfold t7;rw[if_pos hs];simp
  | cons d r ih=>
   intro ys h
   unfold t7
   rw[if_pos hs,ael,yf,Out.bI]
   simp only[if_true]
   rw[h d xB,yf,Out.bI,ih _ λx hx=>h x (yT _ hx)]
   simp
 have:=key ds [] hf
 simpa using this
theorem Ce{lo:Int}{n i:Nat}(h:(C_ lo n)[i]? = some d):i<n/\d= .int (lo+i):=by
 unfold C_ at h
 rw[zal]at h
 obtain⟨k,hk,rfl⟩:=Option.map_eq_some_iff.mp h
 obtain⟨hi,e⟩:=List.getElem?_eq_some_iff.mp hk
 simp at hi e
 exact⟨hi,by rw[<-e]⟩
theorem JX{lo:Int}{n:Nat}:(C_ lo n).length=n:=by simp[C_]
section
variable{X:Cx}{ct:Nat->Addr}{W:bC}
noncomputable def Jm:List D->Option Bool
 | []=>some true
 | .bl b::r=>(Jm r).map λk=>b&&k
 | _=>none
theorem Ug:∀{ds:List D} {k:Bool},Jm ds=some k->∃bs:List Bool,ds=bs.map D.bl/\k=bs.all id
 | [],k,h=>by cases h;exact⟨[],rfl,rfl⟩
 | d::r,k,h=>by
  cases d with
  | bl b=>
   simp only[Jm]at h
   obtain⟨k',h1,rfl⟩:=Option.map_eq_some_iff.mp h
   obtain⟨bs,rfl,rfl⟩:=Ug h1
   exact⟨b::bs,rfl,rfl⟩
  | _=>simp only[Jm]at h;cases h
theorem Xy{K:Frag}{ι:Nat->Addr}{n:Nat}{H:Hp}:∀{bs:List Bool} {vs:List V},jo K ct ι n H (bs.map D.bl) vs->vs=bs.map V.bl
 | [],_,.nil=>rfl
 | b::bs,_,.cons h hs=>by cases h;rw[Xy hs];rfl
theorem acJ(bs:List Bool):(List.range bs.length).all (λj=>bs.getD j true)=bs.all id:=by
 rw[Bool.eq_iff_iff,List.all_eq_true,List.all_eq_true]
 constructor
 ·intro h b hb
  obtain⟨j,hj,e⟩:=List.mem_iff_getElem.mp hb
  have:=h j (List.mem_range.mpr hj)
  rw[List.getD_eq_getElem?_getD,zab hj]at this
  rw[<-e]
  exact this
 ·intro h j hj
  have hj':=List.mem_range.mp hj
  rw[List.getD_eq_getElem?_getD,zab hj']
  exact h _ (List.getElem_mem hj')
theorem Zi(hc:X.calm=true):rM X (.builtin "all") (λxs H Q=>∃(a:Addr) (bs:List Bool),xs=[.ref a]/\rZ X.K H a (bs.map V.bl)/\Q (.bl (bs.all id)) H):=by
 intro pins s σ H xs us Q I r h
 obtain⟨a,bs,rfl,hq,q⟩:=h
 obtain⟨u,rfl,ru⟩:=vals1 r
 cases(show u=Value.ref a from ru)
 obtain⟨its,rv,p,hz⟩:=I.list hq
 have hlt:a<s.heap.objs.size:=by obtain⟨o,n,e,_⟩:=p;exact zS e
 have hl:its.length=bs.length:=by rw[<-rv.length,zam]
 refine call_all_walk (wpAny_pyIter_list p.isList ⟨s.heap.objs.size,[s.heap.objs.size,a],[s.heap.objs.size],its.toArray.size,λi v=>its.toArray[i]? = some v,_,λj=>bs.getD j true,rfl,
  Walks.list (A:=X.A.in1) (I.ok.hd hc) s.heap.objs.size a (xD hlt) its.toArray,⟨⟨_,yB _ rfl,rfl,rfl⟩,p.isList.push _⟩,?_,λh' tk hk=> ?_⟩)
 ·intro i v s' Q' E' hP hQ
  have hP':its[i]? = some v:=by simpa using hP
  have hi:i<its.length:=(List.getElem?_eq_some_iff.mp hP').1
  have hb:bs[i]? = some bs[i]:=zab ()
  obtain⟨u,hu,ru⟩:=rv.get (i:=i) (x:=V.bl bs[i]) (by rw[zal,hb];rfl)
  rw[hP']at hu
  cases hu
  cases ru
  refine wpAny_truthy_bool ?_
  have e:bs.getD i true=bs[i]:=by rw[List.getD_eq_getElem?_getD,hb];rfl
  rw[<-e]
  exact hQ
 ·have e:(List.range its.toArray.size).all (λj=>bs.getD j true)=bs.all id:=by
   rw[List.size_toArray,hl]
   exact acJ bs
  rw[e]
  exact⟨.bl _,H,I.kept λb o eb=>hk b o (by simp;exact xD (zS eb)) (zD _ eb),rfl,q⟩
noncomputable def R6:Up:=λds M=>match ds with
 | [d]=>match Hl M d with
  | some es=>match Jm es with
   | some k=> .ok (.bl k) M
   | none=> .bad
  | none=> .bad
 | _=> .bad
theorem acu(hc:X.calm=true):uw X ct (.builtin "all") R6:=by
 refine⟨_,Zi hc,λι M H ds vs Q R h p=> ?_⟩
 unfold R6 at p
 split at p
 ·rename_i d
  obtain⟨v,rfl,q⟩:=JL h
  cases z:Hl M d with
  | none=>rw[z]at p;exact p.elim
  | some es=>
   rw[z]at p
   dsimp only at p
   obtain⟨a,xs,rfl,hs,hd⟩:=R.seq z q
   cases z2:Jm es with
   | none=>rw[z2]at p;exact p.elim
   | some k=>
    rw[z2]at p
    obtain⟨bs,rfl,rfl⟩:=Ug z2
    rw[Xy hd]at hs
    exact⟨a,bs,rfl,hs,p ι _ H .refl R (.bl _)⟩
 ·exact p.elim
theorem Zw(bs:List Bool):Jm (bs.map D.bl)=some (bs.all id):=by
 induction bs with
 | nil=>rfl
 | cons b r ih=>simp[Jm,ih]
theorem R5{n:Nat}{bs:List Bool}(h:M[n]? = some (.lst (bs.map D.bl))):R6 [.ref n] M= .ok (.bl (bs.all id)) M:=by
 simp only[R6,Hl,dD h,Zw]
end
noncomputable def lQ(i:Int):List D->List D
 | []=>[]
 | d::r=> .tup [.int i,d]::lQ (i+1) r
theorem Ox:∀(i:Int) (ds:List D) (k:Nat),(lQ i ds)[k]? = (ds[k]?).map λd=>D.tup [.int (i+k),d]
 | i,[],k=>by simp[lQ]
 | i,d::r,0=>by simp[lQ]
 | i,d::r,k+1=>by
  simp only[lQ,List.getElem?_cons_succ]
  rw[Ox (i+1) r k]
  have:i+1+(k:Int)=i+((k+1:Nat):Int):=()
  rw[this]
theorem ji:∀(i:Int) (ds:List D),(lQ i ds).length=ds.length
 | _,[]=>rfl
 | i,_::r=>by simp[lQ,ji (i+1) r]
noncomputable def t6(d k:D)(M:Mem):Out Itm:=match k with
 | .int i=>match d with
  | .ref n=>match qK M n with
   | some ds=> .ok ⟨some (n,ds),lQ i ds⟩ M
   | none=> .bad
  | .cl ds=> .ok ⟨none,lQ i ds⟩ M
  | .tup ds=> .ok ⟨none,lQ i ds⟩ M
  | .nA ds=> .ok ⟨none,lQ i ds⟩ M
  | _=> .bad
 | _=> .bad
def abB(ma mb:ME):MI:=λe M=>(ma e M).bind λd M1=>(mb e M1).bind λk M2=>t6 d k M2
section
variable{X:Cx}{ct:Nat->Addr}{W:bC}
theorem qM{K:Frag}{Sq:Hp->List V->Prop}{ι:Nat->Addr}{M:Mem}{H:Hp}{xs:List V}{ds:List D}{k:Int}(R:Rl K ct ι M H)(hq:Sq H xs)(hd:jo K ct ι M.length H ds xs)(i:Nat):
  (∀d,(lQ k ds)[i]? = some d->(Ite Sq k).go i H/\∀x H2,(Ite Sq k).Yc i H x H2->Ext K ι M.length H ι M.length H2/\Rl K ct ι M H2/\DV K ct ι M.length H2 d x)/\((lQ k ds).length<=i->(Ite Sq k).stop i H):=by
 refine⟨λd e=> ?_,λh=>⟨xs,hq,by rw[hd.length];rw[ji]at h;exact h⟩⟩
 rw[Ox]at e
 obtain⟨d0,e0,rfl⟩:=Option.map_eq_some_iff.mp e
 obtain⟨v,hv,dv⟩:=hd.at e0
 refine⟨⟨xs,v,hq,hv⟩,λx H2 y=> ?_⟩
 obtain⟨p,y0,hp,rfl,rfl,hy⟩:=y
 have z:=hy xs hq
 rw[hv]at z
 cases z
 exact⟨Ext.fresh hp,R.fresh hp,.tup bA (.cons (.int _) (.cons (dv.mono (Ext.fresh hp)) .nil))⟩
theorem aaj(hg:Gl X "enumerate")(hm:X.mg "enumerate" = none)(ha:SE X ct W a ma)(hb:SE X ct W b mb)
  (he:backTo pos (starEach [a] X.env)=(false,eval a X.env)::backTo pos (starEach [] X.env):=by rfl)
  (hs:starEach [a] X.env=(false,eval a X.env)::starEach [] X.env:=by rfl)
  (hplain:(backTo pos (starEach [a] X.env)).any (·.1)=false:=by rfl)
  (hall:(backToKw pos (keywordEach [⟨some "start",b,kp⟩] X.env)).all (·.1.isSome)=true:=by rfl)
  (hkw:(backToKw pos (keywordEach [⟨some "start",b,kp⟩] X.env)).any (·.1.isNone)=false:=by rfl)
  (hnm:(backToKw pos (keywordEach [⟨some "start",b,kp⟩] X.env)).filterMap (·.1)=[("start" : Str)]:=by rfl):
  SI X ct W (.Tuple es n tp) (.Call (.Name "enumerate" p) [a] [⟨some "start",b,kp⟩] pos) (abB ma mb):=PI.imp (aaX hg hm ha hb he hs hplain hall hkw hnm) λσ H R q=>by
 obtain⟨ι,e,M,w,p⟩:=bR (d7:=dh X.K ct) (f:=λd e M1=>(mb e M1).bind λk M2=>t6 d k M2) q
 refine⟨ι,e,M,w,p.mono ?_⟩
 rintro x H1 ⟨cB,e1,M1,d,w1,q1,p1⟩
 refine⟨cB,e1,M1,w1,?_⟩
 cases z:mb e1 M1 with
 | bad=>simp only[z,Out.b7]at p1;exact p1
 | exc xc xd xM=>simp only[z,Out.dU]at p1;exact p1
 | ok k M2=>
  simp only[z,Out.bI]at p1
  intro gk y H2 x2 r2 q2
  have p2:=p1.ext x2
  have q1:=q1.mono x2
  cases q2 with
  | int i=>
   cases q1 with
   | @ref m hm=>
    simp only[t6]at p2
    cases z0:qK M2 m with
    | none=>rw[z0]at p2;exact p2.elim
    | some ds=>
     simp only[z0]at p2
     obtain⟨xs,hH,hd⟩:=r2.obj m _ (jh.mp z0)
     refine⟨_,i,rfl,rfl,.inl ⟨⟨xs,rZ.of hH⟩,λhz=>p2 gk _ H2 .refl r2 ⟨z0,by rw[ji,<-hd.length];exact hz xs (rZ.of hH),λDs M3 H3 x3 r3 ok3 j=> ?_⟩⟩⟩
     obtain⟨xs3,hH3,hd3⟩:=r3.obj m _ (jh.mp ok3)
     rw[<-x3.same m hm]
     exact qM r3 (rZ.of hH3) hd3 j
   | cl h1 h2=>exact⟨_,i,rfl,rfl,.inl ⟨⟨_,h1.sq⟩,λhz=>p2 gk _ H2 .refl r2 ⟨trivial,by rw[ji,<-h2.length];exact hz _ h1.sq,λDs M3 H3 x3 r3 ok3 j=>qM (Sq:=λH xs=>rZ X.K H _ xs) r3 (x3.mK _ _ h1).sq (h2.mono x3) j⟩⟩⟩
   | tup h1 h2=>exact⟨_,i,rfl,rfl,.inr ⟨⟨_,nu.of h1⟩,λhz=>p2 gk _ H2 .refl r2 ⟨trivial,by rw[ji,<-h2.length];exact hz _ (nu.of h1),λDs M3 H3 x3 r3 ok3 j=>qM (Sq:=λH xs=>nu X.K H _ xs) r3 (nu.of (x3.tup _ _ h1)) (h2.mono x3) j⟩⟩⟩
   | nA h1 h2=>exact⟨_,i,rfl,rfl,.inr ⟨⟨_,.inr h1⟩,λhz=>p2 gk _ H2 .refl r2 ⟨trivial,by rw[ji,<-h2.length];exact hz _ (.inr h1),λDs M3 H3 x3 r3 ok3 j=>qM (Sq:=λH xs=>nu X.K H _ xs) r3 (.inr h1) (h2.mono x3) j⟩⟩⟩
   | _=>exact p2.elim
  | _=>exact p2.elim
@[simp] theorem akt:abB ma mb e M=(ma e M).bind (bd2 t6 mb e):=id rfl
@[simp] theorem ahX:t6 (.tup ds) (.int i) M= .ok ⟨none,lQ i ds⟩ M:=id rfl
def Vh(ma:ME):MI:=λe M=>(ma e M).bind λd M1=>t6 d (.int 0) M1
theorem aak(hg:Gl X "enumerate")(hm:X.mg "enumerate" = none)(ha:SE X ct W a ma)
  (hs:starEach [a] X.env=[(false,eval a X.env)]:=by rfl):
  SI X ct W (.Tuple es n tp) (.Call (.Name "enumerate" p) [a] [] pos) (Vh ma):=PI.imp (aaY hg hm ha hs) λσ H R q=>by
 obtain⟨ι,e,M,w,p⟩:=bR (d7:=dh X.K ct) (f:=λd _ M1=>t6 d (.int 0) M1) q
 refine⟨ι,e,M,w,p.mono ?_⟩
 rintro x H1 ⟨gk,e1,M2,d,w1,q1,p2⟩
 have r2:=w1.rl
 cases q1 with
 | @ref m hm=>
  simp only[t6]at p2
  cases z0:qK M2 m with
  | none=>rw[z0]at p2;exact p2.elim
  | some ds=>
   simp only[z0]at p2
   obtain⟨xs,hH,hd⟩:=r2.obj m _ (jh.mp z0)
   refine⟨_,rfl,.inl ⟨⟨xs,rZ.of hH⟩,λhz=>p2 gk _ H1 .refl r2 ⟨z0,by rw[ji,<-hd.length];exact hz xs (rZ.of hH),λDs M3 H3 x3 r3 ok3 j=> ?_⟩⟩⟩
   obtain⟨xs3,hH3,hd3⟩:=r3.obj m _ (jh.mp ok3)
   rw[<-x3.same m hm]
   exact qM r3 (rZ.of hH3) hd3 j
 | cl h1 h2=>exact⟨_,rfl,.inl ⟨⟨_,h1.sq⟩,λhz=>p2 gk _ H1 .refl r2 ⟨trivial,by rw[ji,<-h2.length];exact hz _ h1.sq,λDs M3 H3 x3 r3 ok3 j=>qM (Sq:=λH xs=>rZ X.K H _ xs) r3 (x3.mK _ _ h1).sq (h2.mono x3) j⟩⟩⟩
 | tup h1 h2=>exact⟨_,rfl,.inr ⟨⟨_,nu.of h1⟩,λhz=>p2 gk _ H1 .refl r2 ⟨trivial,by rw[ji,<-h2.length];exact hz _ (nu.of h1),λDs M3 H3 x3 r3 ok3 j=>qM (Sq:=λH xs=>nu X.K H _ xs) r3 (nu.of (x3.tup _ _ h1)) (h2.mono x3) j⟩⟩⟩
 | nA h1 h2=>exact⟨_,rfl,.inr ⟨⟨_,.inr h1⟩,λhz=>p2 gk _ H1 .refl r2 ⟨trivial,by rw[ji,<-h2.length];exact hz _ (.inr h1),λDs M3 H3 x3 r3 ok3 j=>qM (Sq:=λH xs=>nu X.K H _ xs) r3 (.inr h1) (h2.mono x3) j⟩⟩⟩
 | _=>exact p2.elim
@[simp] theorem aiE:Vh ma e M=(ma e M).bind λd M1=>t6 d (.int 0) M1:=id rfl
@[simp] theorem ahY:t6 (.nA ds) (.int i) M= .ok ⟨none,lQ i ds⟩ M:=id rfl
@[simp] theorem ajA:jz [.nA ds] M= .ok (.int ds.length) M:=id rfl
noncomputable def one(ds:List D)(c:Nat)(e:Sl)(M:Mem):h_:=match ds with
 | [d]=> .exc c d e M
 | _=> .bad
def sRz(c:Nat)(ms:MA):MS:=λe M=>xm e (ms e M) λds M1=>one ds c e M1
theorem aag(Mx:XMk X.K (ct c) f)(hX:NB X.K (ct c) "at")(F:ie X.prog X.w X.K X.mg X.base Zz k f fd ps (BZ X.K "at"))(hr:iM (k+1) X.A)(hb:Binds X.K fd ps [])
  (hg:Gl X x) (hm:X.mg x=some (.ref (ct c))) (hc:X.calm=true) (hW:Tk X W) (ha:SA X ct W [arg] ms) (hdb:(x==("__debug__" : Str))=false:=by decide) (he:starEach [arg] X.env=[(false,eval arg X.env)]:=by rfl):
  SS X ct W (.Raise (some (.Call (.Name x np) [arg] [] cpos)) none pos) (sRz c ms):=PS.imp (aaT Mx hX F hr hb hg hm hc hW ha hdb he) λT σ H q=>by
 obtain⟨ι,e,M,w,p⟩:=uF (rel:=Jx X.K ct) (f:=λds e M1=>one ds c e M1) q
 refine⟨ι,e,M,w,p.mono ?_⟩
 rintro vs H1 ⟨cB,e1,M1,ds,w1,q1,p1⟩
 unfold one at p1
 split at p1
 ·rename_i d
  obtain⟨v,rfl,qv⟩:=JL q1
  refine⟨v,rfl,λdx hd=> ?_⟩
  have x2:Ext X.K cB M1.length H1 cB M1.length (upd H1 dx (.xd [("at",v)])):=Ext.fresh hd
  exact p1 cB σ dx v _ x2 (w1.ext x2 (w1.rl.fresh hd)) bA (qv.mono x2)
 ·exact p1.elim
def X6(K:Frag)(ct:Nat->Addr)(cv:Value):List (Nat×Bool)->Prop
 | []=>True
 | (c,b)::r=>exmOne K (.ref (ct c)) cv=some b/\X6 K ct cv r
theorem X6.get{K:Frag}{cv:Value}:∀{cl:List (Nat×Bool)} {c:Nat} {b:Bool},X6 K ct cv cl->cl.lookup c=some b->exmOne K (.ref (ct c)) cv=some b
 | [],_,_,_,h=>by simp at h
 | (k,b')::r,c,b,⟨h1,h2⟩,h=>by
  rw[List.lookup_cons]at h
  cases z:c==k with
  | true=>rw[z]at h;cases h;cases(beq_iff_eq.mp z);exact h1
  | false=>rw[z]at h;exact h2.get h
noncomputable def h_.W5(o:h_):h_:=match o with
 | .exc _ _ _ _=> .bad
 | o=>o
noncomputable def Z2(cl:List (Nat×Bool))(h:Nat->D->Sl->Mem->h_)(o:h_):h_:=match o with
 | .exc c d e M=>match cl.lookup c with
  | some true=>h c d e M
  | some false=> .exc c d e M
  | none=> .bad
 | o=>o
def adu(cl:List (Nat×Bool))(b s:MS):MS:=λe M=>Z2 cl (λ_ _ e' M'=>(s e' M').W5) (b e M)
theorem xj.W5{K:Frag}{ι:Nat->Addr}{n:Nat}{H:Hp}{o:h_}{T:Ends}(h:xj K ct W ι n H o.W5 T):xj K ct W0 ι n H o T:=by
 cases o with
 | exc c d e M=>exact False.elim h
 | next e M=>exact h
 | ret e M=>exact h
 | brk e M=>exact h
 | cont e M=>exact h
 | bad=>exact h
variable{c:Str}{cp hpos pos:Pos}{b₀:Stmt}{suite body:List Stmt}{b s:MS}{cl:List (Nat×Bool)}{cv:Value}{v:V}
theorem agd(hst:X.stack=X.env::X.outer)(hf:X.env.frame=some X.env.locals)(hx:Tk X W)(hv:∀u,RelV v u->u=cv)(hn:∀e,PE (X.held e) (.Name c cp) (tC v))(hm:X6 X.K ct cv cl)
  (hb:∀pins W1,ZF ((X.pp pins).wish (iQ (X.pp pins) W1)) ct W1 body b) (hs:∀e,ZF (X.held e) ct W0 (b₀::suite) s):
  SS X ct W (.Try body [.ExceptHandler (some (.Name c cp)) none (b₀::suite) hpos] [] [] pos) (adu cl b s):=
 PS.imp (adM (tb:=λW1=>tS X.K ct W1 b) (ts:=tS X.K ct W0 s) hst hf hx hv hn hb hs) λT σ H ⟨ι,e,M,w,p⟩=>by
  refine⟨ι,e,M,w,?_⟩
  unfold adu at p
  cases z:b e M with
  | exc xc xd xe xM=>
   rw[z]at p
   simp only[Z2]at p
   cases z2:cl.lookup xc with
   | none=>simp only[z2]at p;exact p.elim
   | some k=>
    simp only[z2]at p
    have e2:=hm.get z2
    cases k with
    | false=>exact λι' σ' dx v' H' x w' q1 q2=>⟨false,e2,p ι' σ' dx v' H' x w' q1 q2⟩
    | true=>exact λι' σ' dx v' H' x w' q1 q2=>⟨true,e2,ι',xe,xM,w',(xj.W5 p).ext x⟩
  | next _ _=>rw[z]at p;exact p
  | ret _ _=>rw[z]at p;exact p
  | brk _ _=>rw[z]at p;exact p
  | cont _ _=>rw[z]at p;exact p
  | bad=>rw[z]at p;exact p
end
section
variable{e:Sl}{M:Mem}{c:Nat}{d:D}
@[simp] theorem ani:sRz c ms e M=xm e (ms e M) λds M1=>one ds c e M1:=id rfl
@[simp] theorem alV:adu cl b s e M=Z2 cl (λ_ _ e' M'=>(s e' M').W5) (b e M):=id rfl
@[simp] theorem akc:(h_.next e M).W5= .next e M:=id rfl
end
section
variable{X:Cx}{ct:Nat->Addr}{W:bC}{pos:Pos}
def uQ:ME:=λ_ M=> .ok (.ref M.length) (M++[.dk []])
theorem lR:SE X ct W (.Dict [] [] pos) uQ:=dY aa6 λσ H Q ⟨ι,e,M,w,p⟩ pp hp=>by
 have el:(M++[MO.dk []]).length=M.length+1:=by simp
 have x:Ext X.K ι M.length H (iK ι M.length pp) (M.length+1) (upd H pp (.dK [])):=Ext.new hp
 have e0:(iK ι M.length pp) M.length=pp:=by unfold iK;rw[if_pos rfl]
 have dv:DV X.K ct (iK ι M.length pp) (M++[MO.dk []]).length (upd H pp (.dK [])) (.ref M.length) (.ref pp):=by
  have:=DV.ref (K:=X.K) (ct:=ct) (ι:=iK ι M.length pp) (n:=(M++[MO.dk []]).length) (H:=upd H pp (.dK [])) (i:=M.length) (by rw[el];omega)
  rw[e0]at this
  exact this
 exact p (iK ι M.length pp) (.ref pp) _ (by rw[el];exact x) (w.rl.new hp ⟨[],bA,.nil⟩) dv
noncomputable def tX(d:D)(M:Mem):Bool:=match d with
 | .ref n=>match M[n]? with
  | some (.dk _)=>true
  | some (.dt _)=>true
  | _=>false
 | _=>false
theorem Tz{K:Frag}{ι:Nat->Addr}{M:Mem}{H:Hp}{d:D}{v:V}(R:Rl K ct ι M H)(h:tX d M=true)(q:DV K ct ι M.length H d v):∃n,d= .ref n/\n<M.length/\v= .ref (ι n)/\IsD H (ι n):=by
 cases d with
 | ref n=>
  obtain⟨hn,rfl⟩:=nW q
  refine⟨n,rfl,hn,rfl,?_⟩
  unfold tX at h
  dsimp only at h
  split at h
  ·rename_i kvs e
   obtain⟨vs,hH,_⟩:=R.obj n _ e
   exact .inl ⟨vs,.inl hH⟩
  ·rename_i kvs e
   obtain⟨vs,hH,_⟩:=R.obj n _ e
   exact .inr ⟨vs,.inl hH⟩
  ·cases h
 | _=>exact absurd h xA
noncomputable def CK(d k x:D)(M:Mem):Out D:=match d with
 | .ref n=>match CP M n k with
  | some (some v,M')=> .ok v M'
  | some (none,M')=> .ok x M'
  | none=> .bad
 | _=> .bad
noncomputable def wQ(mo mk mx:ME):ME:=λe M=>(mo e M).bind λd M1=>if tX d M1=true then(mk e M1).bind λk M2=>(mx e M2).bind λx M3=>CK d k x M3 else .bad
noncomputable def W_(mo mk:ME):ME:=λe M=>(mo e M).bind λd M1=>if tX d M1=true then(mk e M1).bind λk M2=>CK d k .non M2 else .bad
theorem Xp(R:Rl X.K ct ι M H)(hn:n<M.length)(qk:DV X.K ct ι M.length H k vk)(qx:DV X.K ct ι M.length H x vx)(p:gj (dh X.K ct) X.K ct w ι M.length H (CK (.ref n) k x M) Q):
  ∃o H',V5 H (ι n) vk o H'/\Q (o.getD vx) H':=by
 simp only[CK]at p
 split at p
 ·rename_i v M' e
  obtain⟨ov,H',g,x2,R',h1,_⟩:=Kd R e hn qk
  obtain⟨u,rfl,dv,_,_⟩:=h1 v rfl
  exact⟨_,H',g,p ι u H' x2 R' dv⟩
 ·rename_i M' e
  obtain⟨ov,H',g,x2,R',_,h2⟩:=Kd R e hn qk
  have:=h2 rfl
  subst this
  exact⟨_,H',g,p ι vx H' x2 R' (qx.mono x2)⟩
 ·exact p.elim
variable{o e f i value:Expr}{mo mk mx mv:ME}{apos cpos pos':Pos}
theorem nF(hu:X.A.units+64<cLine)(ho:SE X ct W o mo)(he:SE X ct W e mk)(hf:SE X ct W f mx)
  (base:attributeBase o "get" X.env (eval o X.env)=eval o X.env:=by rfl)
  (few:((backTo cpos (starEach [e,f] X.env)).all (λx=> !x.1)&&(backToKw cpos (keywordEach [] X.env)).all (λx=>x.1.isSome)
   && decide (([e,f]:List Expr).length+([]:List Keyword).length+(if([]:List Keyword).isEmpty then 0 else 1)<30))=true:=by rfl)
  (line:(apos.endLine==cpos.line)=true:=by rfl) (trees:backTo cpos (starEach [e,f] X.env)=[(false,eval e X.env),(false,eval f X.env)]:=by rfl):
  SE X ct W (.Call (.Attribute o "get" apos) [e,f] [] cpos) (wQ mo mk mx):=dY (aa4 () ho he hf ⟨base,few,line,trees⟩) λσ H Q q=>by
 obtain⟨ι,e,M,w,p⟩:=bR (d7:=dh X.K ct) (f:=λd e M1=>if tX d M1=true then(mk e M1).bind λk M2=>(mx e M2).bind λx M3=>CK d k x M3 else .bad) q
 refine⟨ι,e,M,w,p.mono ?_⟩
 rintro v H1 ⟨cB,e1,M1,d,w1,q1,p1⟩
 cases z:tX d M1 with
 | false=>simp only[z,Bool.false_eq_true,if_false]at p1;exact p1.elim
 | true=>
  simp only[z,if_true]at p1
  obtain⟨n,rfl,hn,rfl,hD⟩:=Tz w1.rl z q1
  refine⟨_,rfl,hD,cB,e1,M1,w1,?_⟩
  cases z2:mk e1 M1 with
  | bad=>simp only[z2,Out.b7]at p1;exact p1
  | exc xc xd xM=>simp only[z2,Out.dU]at p1;exact p1
  | ok k M2=>
   simp only[z2,Out.bI]at p1
   intro gk vk H2 x2 r2 q2
   refine⟨gk,e1,M2,w1.ext x2 r2,?_⟩
   have p2:=p1.ext x2
   cases z3:mx e1 M2 with
   | bad=>simp only[z3,Out.b7]at p2;exact p2
   | exc xc xd xM=>simp only[z3,Out.dU]at p2;exact p2
   | ok x M3=>
    simp only[z3,Out.bI]at p2
    intro Ds vx H3 x3 r3 q3
    have:=Xp r3 (yA (yA hn x2.le) x3.le) (q2.mono x3) q3 (p2.ext x3)
    rw[<-x2.same n hn,<-x3.same n (yA hn x2.le)]
    exact this
theorem Wq(hu:X.A.units+64<cLine)(ho:SE X ct W o mo)(he:SE X ct W e mk)
  (base:attributeBase o "get" X.env (eval o X.env)=eval o X.env:=by rfl)
  (few:((backTo cpos (starEach [e] X.env)).all (λx=> !x.1)&&(backToKw cpos (keywordEach [] X.env)).all (λx=>x.1.isSome)
   && decide (([e]:List Expr).length+([]:List Keyword).length+(if([]:List Keyword).isEmpty then 0 else 1)<30))=true:=by rfl)
  (line:(apos.endLine==cpos.line)=true:=by rfl) (trees:backTo cpos (starEach [e] X.env)=[(false,eval e X.env)]:=by rfl):
  SE X ct W (.Call (.Attribute o "get" apos) [e] [] cpos) (W_ mo mk):=dY (aa5 () ho he ⟨base,few,line,trees⟩) λσ H Q q=>by
 obtain⟨ι,e,M,w,p⟩:=bR (d7:=dh X.K ct) (f:=λd e M1=>if tX d M1=true then(mk e M1).bind λk M2=>CK d k .non M2 else .bad) q
 refine⟨ι,e,M,w,p.mono ?_⟩
 rintro v H1 ⟨cB,e1,M1,d,w1,q1,p1⟩
 cases z:tX d M1 with
 | false=>simp only[z,Bool.false_eq_true,if_false]at p1;exact p1.elim
 | true=>
  simp only[z,if_true]at p1
  obtain⟨n,rfl,hn,rfl,hD⟩:=Tz w1.rl z q1
  refine⟨_,rfl,hD,cB,e1,M1,w1,?_⟩
  cases z2:mk e1 M1 with
  | bad=>simp only[z2,Out.b7]at p1;exact p1
  | exc xc xd xM=>simp only[z2,Out.dU]at p1;exact p1
  | ok k M2=>
   simp only[z2,Out.bI]at p1
   intro gk vk H2 x2 r2 q2
   have:=Xp r2 (yA hn x2.le) q2 .non (p1.ext x2)
   rw[<-x2.same n hn]
   exact this
noncomputable def CQ(M:Mem)(o k d:D):Option Mem:=match o with
 | .ref n=>match M[n]? with
  | some (.dk kvs)=>match toKey k with
   | some kk=>if kvs.length<sizeLine then some (M.set n (.dk (P_ kvs kk d)))else none
   | none=>match k with
    | .tup ds=>match toKeys ds with
     | some ks=>if kvs.isEmpty=true then some (M.set n (.dt [(ks,d)]))else none
     | none=>none
    | _=>none
  | some (.dt kvs)=>match k with
   | .tup ds=>match toKeys ds with
    | some ks=>if kvs.length<sizeLine then some (M.set n (.dt (P_ kvs ks d)))else none
    | none=>none
   | _=>none
  | _=>none
 | _=>none
theorem aeL(R:Rl X.K ct ι M H)(h:CQ M (.ref n) k d=some M')(hn:n<M.length)(qk:DV X.K ct ι M.length H k vk)(qd:DV X.K ct ι M.length H d vd):
  ∃H',alH H (ι n) vk vd H'/\Ext X.K ι M.length H ι M'.length H'/\Rl X.K ct ι M' H':=by
 simp only[CQ]at h
 split at h
 ·rename_i kvs e
  obtain⟨vs,hH,pv⟩:=R.obj n _ e
  split at h
  ·rename_i kk ek
   split at h
   ·rename_i hz
    cases h
    have:=Fp ek qk
    subst this
    have x2:Ext X.K ι M.length H ι M.length (upd H (ι n) (.dK (putK vs kk vd))):=Ext.chg hH (λ_ z=>nomatch z) (λ_ _ z=>nomatch z)
    exact⟨_,.inl (Q_.k hH (by rw[pv.length];exact hz)),by rw[List.length_set];exact x2,R.chg hn hH (λ_ z=>nomatch z) (λ_ _ z=>nomatch z) ⟨_,bA,(pv.put qd kk).mono x2⟩⟩
   ·cases h
  ·split at h
   ·rename_i ds
    split at h
    ·rename_i ks eks
     split at h
     ·rename_i hem
      cases h
      have ek:kvs=[]:=List.isEmpty_iff.mp hem
      subst ek
      cases pv
      obtain⟨b,xs,rfl,hb,hd⟩:=mj qk
      have ex:=v7 eks hd
      subst ex
      have x2:Ext X.K ι M.length H ι M.length (upd H (ι n) (.dT [(ks,vd)])):=Ext.chg hH (λ_ z=>nomatch z) (λ_ _ z=>nomatch z)
      exact⟨_,.inr ⟨ks,b,hH,rfl,hb,rfl⟩,by rw[List.length_set];exact x2,R.chg hn hH (λ_ z=>nomatch z) (λ_ _ z=>nomatch z) ⟨_,bA,.cons (qd.mono x2) .nil⟩⟩
     ·cases h
    ·cases h
   ·cases h
 ·rename_i kvs e
  obtain⟨vs,hH,pv⟩:=R.obj n _ e
  split at h
  ·rename_i ds
   split at h
   ·rename_i ks eks
    split at h
    ·rename_i hz
     cases h
     obtain⟨b,xs,rfl,hb,hd⟩:=mj qk
     have ex:=v7 eks hd
     subst ex
     have x2:Ext X.K ι M.length H ι M.length (upd H (ι n) (.dT (putK vs ks vd))):=Ext.chg hH (λ_ z=>nomatch z) (λ_ _ z=>nomatch z)
     exact⟨_,.inl (Q_.t hH hb (by rw[pv.length];exact hz)),by rw[List.length_set];exact x2,R.chg hn hH (λ_ z=>nomatch z) (λ_ _ z=>nomatch z) ⟨_,bA,(pv.put qd ks).mono x2⟩⟩
    ·cases h
   ·cases h
  ·cases h
 ·cases h
noncomputable def mD(mo mk mv:ME):MS:=λe M=>xm e (mv e M) λd M1=>xm e (mo e M1) λo M2=>xm e (mk e M2) λk M3=>Tc (CQ M3 o k d) e
theorem jX(hu:X.A.units+64<cLine)(ho:SE X ct W o mo)(hi:SE X ct W i mk)(hv:SE X ct W value mv)(hs:swapsWith value (some (.Subscript o i pos')) pos.line X.env=pure false:=by rfl):
  SS X ct W (.Assign [.Subscript o i pos'] value pos) (mD mo mk mv):=PS.imp (adQ () ho hi hv hs) λT σ H q=>by
 obtain⟨ι,e,M,w,p⟩:=uF (rel:=dh X.K ct) (f:=λd e M1=>xm e (mo e M1) λo M2=>xm e (mk e M2) λk M3=>Tc (CQ M3 o k d) e) q
 refine⟨ι,e,M,w,p.mono ?_⟩
 rintro vd H1 ⟨cB,e1,M1,d,w1,q1,p1⟩
 refine⟨cB,e1,M1,w1,?_⟩
 cases z:mo e1 M1 with
 | bad=>simp only[z,J2]at p1;exact p1
 | exc xc xd xM=>simp only[z,J0]at p1;exact λgk dx v H2 x r q1 q2=>p1 gk σ dx v H2 x (w1.ext x r) q1 q2
 | ok o' M2=>
  simp only[z,HF]at p1
  intro gk vo H2 x2 r2 q2
  have p2:=p1.ext x2
  have w2:=w1.ext x2 r2
  refine⟨gk,e1,M2,w2,?_⟩
  cases z2:mk e1 M2 with
  | bad=>simp only[z2,J2]at p2;exact p2
  | exc xc xd xM=>simp only[z2,J0]at p2;exact λDs dx v H3 x r q1 q2=>p2 Ds σ dx v H3 x (w2.ext x r) q1 q2
  | ok k M3=>
   simp only[z2,HF]at p2
   intro Ds vk H3 x3 r3 q3
   have p3:=p2.ext x3
   have w3:=w2.ext x3 r3
   cases z3:CQ M3 o' k d with
   | none=>rw[z3]at p3;exact p3.elim
   | some M4=>
    rw[z3]at p3
    cases o' with
    | ref n=>
     obtain⟨hn,rfl⟩:=nW q2
     have hn3:n<M3.length:=yA hn x3.le
     obtain⟨H4,g,x4,r4⟩:=aeL r3 z3 hn3 q3 ((q1.mono x2).mono x3)
     refine⟨_,H4,rfl,?_,p3 Ds σ H4 x4 (w3.ext x4 r4)⟩
     rw[<-x3.same n hn]
     exact g
    | _=>simp only[CQ]at z3;cases z3
end
section
variable{e:Sl}{M:Mem}
@[simp] theorem aku:uQ e M= .ok (.ref M.length) (M++[.dk []]):=id rfl
def gt3(mx:ME)(e:Sl)(d k:D)(M:Mem):Out D:=(mx e M).bind (CK d k)
@[simp] theorem aox:gt3 mx e d k M=(mx e M).bind (CK d k):=id rfl
def gt2(f:D->D->Mem->Out D)(mk:ME)(e:Sl)(d:D)(M:Mem):Out D:=if tX d M=true then(mk e M).bind (f d)else .bad
@[simp] theorem aoy:gt2 f mk e d M=if tX d M=true then(mk e M).bind (f d)else .bad:=id rfl
@[simp] theorem abA:wQ mo mk mx e M=(mo e M).bind (gt2 (gt3 mx e) mk e):=id rfl
def gt1(d k:D)(M:Mem):Out D:=CK d k .non M
@[simp] theorem aoA:gt1 d k M=CK d k .non M:=id rfl
@[simp] theorem aks:W_ mo mk e M=(mo e M).bind (gt2 gt1 mk e):=id rfl
def ds3(p:Mem->D->D->D->Option Mem)(e:Sl)(d o k:D)(M:Mem):h_:=Tc (p M o k d) e
@[simp] theorem aoR:ds3 p e d o k M=Tc (p M o k d) e:=id rfl
def ds2(p:Mem->D->D->D->Option Mem)(mk:ME)(e:Sl)(d o:D)(M:Mem):h_:=xm e (mk e M) (ds3 p e d o)
@[simp] theorem aoT:ds2 p mk e d o M=xm e (mk e M) (ds3 p e d o):=id rfl
@[simp] theorem Yl:mD mo mk mv e M=xm e (mv e M) (fl1 (ds2 CQ mk e) mo e):=id rfl
theorem lZ(h:M[n]? = some (.dk kvs)):tX (.ref n) M=true:=by simp only[tX,h]
theorem aex(h:M[n]? = some (.dt kvs)):tX (.ref n) M=true:=by simp only[tX,h]
theorem QS(h:M[n]? = some (.dk kvs)):CP M n (.int s)=some (uX kvs (.inl s),M):=by simp only[CP,h,toKey]
theorem ah6(h:M[n]? = some (.dt kvs))(hk:toKeys ds=some ks):CP M n (.tup ds)=some (uX kvs ks,M):=by simp only[CP,h,hk]
theorem ah7(h:M[n]? = some (.dk []))(hk:toKeys ds=some ks):CP M n (.tup ds)=some (none,M.set n (.dt [])):=by simp only[CP,h,hk,toKey];rfl
end
section
variable{X:Cx}{ct:Nat->Addr}{W:bC}{pos:Pos}
def afX(K:Frag)(ct ι:Nat->Addr)(M:Mem)(H:Hp)(n:Nat)(σ:St)(o:Option Sl)(Q:St->Hp->Prop):Prop:=match o with
 | some e'=>∀σ',Ws K ct ι e' M σ' H->(σ'.length=σ.length/\σ'.drop n=σ.drop n)->Q σ' H
 | none=>False
def tTN(K:Frag)(ct:Nat->Addr)(n:Nat)(g:Tg):TG:=λv σ H Q=>∃ι e M d,Ws K ct ι e M σ H/\DV K ct ι M.length H d v/\afX K ct ι M H n σ (g d e) Q
def am2(K:Frag)(ct:Nat->Addr)(n:Nat)(g:Tgs):TGs:=λvs σ H Q=>∃ι e M ds,Ws K ct ι e M σ H/\jo K ct ι M.length H ds vs/\afX K ct ι M H n σ (g ds e) Q
def SN(X:Cx)(ct:Nat->Addr)(n:Nat)(tg:Expr)(g:Tg):Prop:=PG X tg (tTN X.K ct n g)
def SNs(X:Cx)(ct:Nat->Addr)(n:Nat)(tg:List Expr)(g:Tgs):Prop:=Zy X tg (am2 X.K ct n g)
theorem Wm(hN:X.N.Nodup)(hi:X.N[i]? = some x)(hx:Loc X.env.scope x)(hin:i<n)(hf:X.fn x=true\/X.env.scope.names.lookup x=some .local:=by first | exact .inl rfl | exact .inr rfl | assumption):SN X ct n (.Name x pos) (gN i):=
 PG.imp (Qa hN hi hx hf) λv σ H Q ⟨ι,e,M,d,w,q,p⟩=>p _ (w.set i q) ⟨List.length_set,List.drop_set_of_lt hin⟩
theorem adi{n:Nat}:SNs X ct n [] tZ:=Zy.imp WY λvs σ H Q ⟨ι,e,M,ds,w,q,p⟩=>by
 cases q with
 | nil=>exact⟨rfl,p σ w ⟨rfl,rfl⟩⟩
 | cons _ _=>exact p.elim
theorem RC{n:Nat}{es:List Expr}(h1:SN X ct n a g)(h2:SNs X ct n es gs)
  (hs:(assignEach (a::es) X.env).map (·.2)=assign a X.env::(assignEach es X.env).map (·.2):=by rfl):SNs X ct n (a::es) (dw g gs):=Zy.imp (Su h1 h2 hs) λvs σ H Q ⟨ι,e,M,ds,w,q,p⟩=>by
 cases q with
 | nil=>exact p.elim
 | @cons d x ds xs h hs=>
  refine⟨x,xs,rfl,ι,e,M,d,w,h,?_⟩
  simp only[dw]at p
  cases z:g d e with
  | none=>rw[z]at p;exact p.elim
  | some e'=>
   rw[z]at p
   refine λσ' w' hd=>⟨ι,e',M,ds,w',hs,?_⟩
   simp only[Option.bind_some]at p
   cases z2:gs ds e' with
   | none=>rw[z2]at p;exact p.elim
   | some e2=>rw[z2]at p;exact λσ2 w2 hd2=>p σ2 w2 ⟨hd2.1.trans hd.1,hd2.2.trans hd.2⟩
theorem agf(hc:X.calm=true)(h:SNs X ct m es gs)
  (hn:(assignEach es X.env).length=n:=by rfl) (hst:(assignEach es X.env).findIdx? (·.1)=none:=by rfl):SN X ct m (.Tuple es k pos) (gT n gs):=PG.imp (aaZ hc h hn hst) λv σ H Q ⟨ι,e,M,d,w,q,p⟩=>by
 cases q with
 | @tup a xs ds hs hd=>
  simp only[gT]at p
  split at p
  ·rename_i hl
   exact⟨a,xs,rfl,nu.of hs,by rw[hd.length];exact hl,ι,e,M,ds,w,hd,p⟩
  ·exact p.elim
 | _=>exact p.elim
def Gn(n:Nat):Sl:=List.replicate n none
noncomputable def Dn(src:Option (Nat×List D))(g:Tg)(n:Nat)(tt:MT)(te:ME)(ce:Sl):List D->List D->Mem->Out D
 | [],ys,M=>if gh src M then .ok (.ref M.length) (M++[.lst ys])else .bad
 | d::ds,ys,M=>if gh src M then match g d (Gn n++ce)with
   | some e1=>(tt e1 M).W5.bind λk M1=>if k=true then(te e1 M1).W5.bind λy M2=>Dn src g n tt te ce ds (ys++[y]) M2 else Dn src g n tt te ce ds ys M1
   | none=> .bad
  else .bad
theorem Ws.alc{K:Frag}{ι:Nat->Addr}{e:Sl}{M:Mem}{σ:St}{H:Hp}(w:Ws K ct ι e M σ H)(xs:List Str)(js:List Nat):Ws K ct ι (Gn xs.length++qP js e) M (Iw xs++L2.caps js σ) H:=by
 refine⟨w.rl,by simp[qP,L2.caps,Gn,Iw],λi x hx=> ?_⟩
 rcases Nat.lt_or_ge i xs.length with q | q
 ·rw[zad (by simpa[Gn]using q)]at hx
  simp[Gn,q]at hx
 ·rw[zac (by simpa[Gn]using q)]at hx
  rw[zac (by simpa[Iw]using q)]
  have l1:(Gn xs.length).length=xs.length:=by simp[Gn]
  have l2:(Iw xs).length=xs.length:=by simp[Iw]
  rw[l1]at hx
  rw[l2]
  simp only[qP,zal]at hx
  obtain⟨j,hj,ej⟩:=Option.map_eq_some_iff.mp hx
  cases z:e[j]? with
  | none=>rw[z]at ej;cases ej
  | some o=>
   rw[z]at ej
   cases(show o=some x from ej)
   obtain⟨u,hu,du⟩:=w.env j x z
   refine⟨u,?_,du⟩
   simp only[L2.caps,zal,hj,Option.map_some,hu]
   rfl
variable{tg elt iter:Expr}{ifs:List Expr}{scope:Scope}{mi:MI}{g:Tg}{tt:MT}{te:ME}
end
theorem OJ(c:D->Bool)(f:D->D):∀{ds ys:List D},gh src M->(∀d∈ds,∃e1,g d (Gn n++ce)=some e1/\tt e1 M= .ok (c d) M/\(c d=true->te e1 M= .ok (f d) M))->
  Dn src g n tt te ce ds ys M= .ok (.ref M.length) (M++[.lst (ys++(ds.filter c).map f)])
 | [],ys,hs,_=>by unfold Dn;rw[if_pos hs];simp
 | d::ds,ys,hs,h=>by
  unfold Dn
  rw[if_pos hs]
  obtain⟨e1,h1,h2,h3⟩:=h d xB
  have ih:=λys=>OJ (src:=src) (g:=g) (n:=n) (tt:=tt) (te:=te) (ce:=ce) (M:=M) c f (ds:=ds) (ys:=ys) hs λd' hd'=>h d' (yT _ hd')
  rw[h1]
  simp only[h2,yf,Out.bI]
  cases z:c d with
  | true=>simp[h3 z,ih,z]
  | false=>simp[ih,z]
end S
namespace S
theorem Zj:PySem.bootBuiltins "sorted" = some (.builtin "sorted"):=by rfl
open PySem PySem.Spec PyProof.Rows L2
section
variable{X:Cx}{ct:Nat->Addr}{W:bC}{pos:Pos}{K:Frag}{ι:Nat->Addr}{n:Nat}{H:Hp}
def Tn:Key->D
 | .inl i=> .int i
 | .inr s=> .str s
open Classical in
theorem Xg:DV K ct ι n H (Tn k) (kV k):=by
 cases k with
 | inl i=>exact .int i
 | inr s=>exact .str s
variable{o:Expr}{mo:ME}{apos p1 pos1:Pos}
end
end S
namespace S
open PySem PySem.Spec PyProof.Rows L2
section
variable{X:Cx}{ct:Nat->Addr}{W:bC}{pos:Pos}{K:Frag}{ι:Nat->Addr}{n:Nat}{H:Hp}
theorem adG(h:xq K ct ι n H kvs vs):jo K ct ι n H (kvs.map λp=>Tn p.1) (vs.map λp=>kV p.1):=by
 induction h with
 | nil=>exact .nil
 | cons _ _ ih=>exact .cons Xg ih
variable{o:Expr}{mo:ME}{apos p1 pos1:Pos}
end
end S
namespace L2
open PySem PySem.Spec PyProof.Rows
section
variable{X:Cx}
theorem NP:∀{ws:List Str} {us:List Value},Vals (ws.map V.str) us->∃l:List (Str×Tok),us=strValues l/\l.map (·.1)=ws
 | [],_,.nil=>⟨[],rfl,rfl⟩
 | w::ws,_,.cons ⟨t,e⟩ r=>by
  obtain⟨l,e1,e2⟩:=NP r
  subst e
  exact⟨(w,t)::l,by rw[e1];rfl,by rw[<-e2];rfl⟩
theorem N5:∀(l:List (Str×Tok)),Vals ((l.map (·.1)).map V.str) (strValues l)
 | []=> .nil
 | (_,t)::l=> .cons ⟨t,rfl⟩ (N5 l)
def rJoin:V->List V->Hp->VK->Prop:=λx vs H Q=>∃y a ws,x= .str y/\vs=[.ref a]/\H a=some (.lst (ws.map V.str))/\JoinOk y ws=true/\Q (.str (Txt.join y ws)) H
theorem aee:MtR X "str.join" rJoin:=by
 intro pins s σ H x vs v us Q I rx r h
 obtain⟨y,a,ws,rfl,rfl,hH,hk,q⟩:=h
 obtain⟨t,rfl⟩:=rx
 obtain⟨u,rfl,ru⟩:=vals1 r
 cases ru
 obtain⟨z,its,n,rv,hl,e⟩:=I.YM hH
 obtain⟨l,rfl,rfl⟩:=NP rv
 exact SC.join ⟨_,e,rfl,n,rfl⟩ rfl hk λt' k=>⟨.str _,H,I.tok k,⟨_,rfl⟩,q⟩
theorem split_len(x y:Str):(Txt.split x y).length<=x.length+2:=by
 unfold Txt.split
 split
 ·simp
 ·split
  ·simp
  ·rw[length_partsBetween]
   have:=StrLaws.occ_length_le x y 0 x.length (x.length+1)
   omega
def agz:V->List V->Hp->VK->Prop:=λx vs H Q=>∃y z,x= .str y/\vs=[.str z]/\y.length+2<=sizeLine/\(z.length==0)=false/\∀p,H p=none->Q (.ref p) (upd H p (.lst ((Txt.split y z).map V.str)))
theorem abk:MtR X "str.split" agz:=by
 intro pins s σ H x vs v us Q I rx r h
 obtain⟨y,z,rfl,rfl,hl,hz,q⟩:=h
 obtain⟨t,rfl⟩:=rx
 obtain⟨u,rfl,t',rfl⟩:=vals1 r
 have fin:∀(l:List (Str×Tok)) (k:Nat),l.map (·.1)=Txt.split y z->EP X pins σ Q (.ref s.heap.objs.size) {s with heap:=s.heap.push {cls:= .type "list",data:= .seq (strValues l).toArray},toks:=k}:=λl k e=>
  ⟨.ref _,_,I.akC (t':=k) (by rw[<-e];exact N5 l) (by rw[zam];exact yY (split_len y z) hl),rfl,q _ I.fresh⟩
 have ahK:(Builtin.Str.partsBetween y (Builtin.Str.occurrences y z 0 y.length (y.length+1)) z.length).length<=sizeLine:=by
  rw[length_partsBetween]
  have:=StrLaws.occ_length_le y z 0 y.length (y.length+1)
  omega
 cases h1:(decide (y.length<z.length)||decide (Builtin.Str.strKind y<Builtin.Str.strKind z))with
 | true=>exact call_meets F.slot_str_split (typeIs_str _ _ _) F.entry_str_split (F.args_str_split_2 _ _) (meets_str_split_cannot_occur y z t t' h1) (fin [(y,t)] s.toks (if_pos h1).symm)
 | false=>
  have n1:=ne_true_of_eq_false h1
  cases h2:(Builtin.Str.occurrences y z 0 y.length (y.length+1)).isEmpty with
  | true=>exact call_meets F.slot_str_split (typeIs_str _ _ _) F.entry_str_split (F.args_str_split_2 _ _) (meets_str_split_not_found y z t t' h1 hz h2) (fin [(y,t)] s.toks ((if_neg n1).trans (if_pos h2)).symm)
  | false=>
   have n2:=ne_true_of_eq_false h2
   refine call_meets F.slot_str_split (typeIs_str _ _ _) F.entry_str_split (F.args_str_split_2 _ _) (meets_str_split_sep y z t t' h1 hz h2 () ahK) ?_
   have:=fin (numbered s.toks (Builtin.Str.partsBetween y (Builtin.Str.occurrences y z 0 y.length (y.length+1)) z.length)) (s.toks+(Builtin.Str.partsBetween y (Builtin.Str.occurrences y z 0 y.length (y.length+1)) z.length).length) ((numbered_texts _ _).trans ((if_neg n1).trans (if_neg n2)).symm)
   rw[<-strsFrom_eq]at this
   exact this
theorem Yw:uT X (compareOp .LtE) (λx y H Q=>∃i j,x= .str i/\y= .str j/\Q (.bl (!(decide (j.cps.toList<i.cps.toList)))) H):=by
 intro pins s σ H x y v u Q I rx ry h
 obtain⟨i,j,rfl,rfl,q⟩:=h
 obtain⟨t,rfl⟩:=rx
 obtain⟨t',rfl⟩:=ry
 exact PySem.P.le_str (QH I q rfl)
end
end L2
namespace X7
open PySem PyProof.Rows PySem.SeqAt
open PySem.AutoSeq1 (wpAny_loadPart')
open PySem.MeetsSeq PySem.MeetsSeq2 PySem.MeetsSeq3
noncomputable def Ol:List Int->List Int->Bool
 | [],_=>true
 | _::_,[]=>false
 | x::xs,y::ys=>if x=y then Ol xs ys else decide (x<=y)
theorem abI:∀{vs ws:List Value} {ns ms:List Int},IntsAre vs ns->IntsAre ws ms->vs.zip ws=[]->Ol ns ms=decide (ns.length<=ms.length)
 | _,_,_,_,.nil,_,_=>by simp[Ol]
 | _,_,_,_,.cons _ _ _,.nil,_=>by simp[Ol]
 | _,_,_,_,.cons _ _ _,.cons _ _ _,h=>by rw[List.zip_cons_cons]at h;cases h
theorem akD(l b:Addr)(its its2:Array Value)(n n2:Nat)(dd dd2:Option Addr)(sl sl2:Array (Option Value))(ns ms:List Int)(hi:IntsAre its.toList ns)(hj:IntsAre its2.toList ms):
  Meets (Builtin.«tuple.__le__» ⟨[.ref l,.ref b],[]⟩)
   (λ_ R s=>s.heap.get? l=some {cls:= .type "tuple",dict:=dd,data:= .seq its n,slots:=sl}/\s.heap.get? b=some {cls:= .type "tuple",dict:=dd2,data:= .seq its2 n2,slots:=sl2}/\
    R (.ok (.ret (.bool (Ol ns ms)))) s):=
 .of_wp λprog w A R s h=>by
  obtain⟨hp,g,d,tk,os⟩:=s
  obtain⟨hl,hb,h⟩:=h
  have f2:=AutoSeq1.sub_tuple_tuple
  have z1:its.size=ns.length:=by rw[<-hi.length];simp
  have z2:its2.size=ms.length:=by rw[<-hj.length];simp
  wp_walk using wpAny_loadPart' hl,wpAny_loadPart' hb,wpAny_forIn_list _ (λrest b s'=>b.1=none/\s'=⟨hp,g,d,tk,os⟩/\∃(vs ws:List Value) (ns' ms':List Int),rest=vs.zip ws/\
   IntsAre vs ns'/\IntsAre ws ms'/\ns'.length+its2.size=ms'.length+its.size/\R (.ok (.ret (.bool (Ol ns' ms')))) ⟨hp,g,d,tk,os⟩) _
  case turn=>
   rintro⟨y,x⟩ rest b s' ⟨hb',rfl,vs,ws,ns',ms',hz,hvi,hwi,hlen,hR⟩
   cases hvi with
   | nil=>rw[List.zip_nil_left]at hz;cases hz
   | cons a t hv2=>
    cases hwi with
    | nil=>rw[List.zip_nil_right]at hz;cases hz
    | cons c u hw2=>
     rw[List.zip_cons_cons]at hz
     obtain⟨hyx,hrest⟩:=List.cons.inj hz
     cases hyx
     simp only[Ol]at hR
     simp only[List.length_cons]at hlen
     by_cases hac:a=c
     ·rw[if_pos hac]at hR
      refine zC ((SeqAt.EqAt.int_int a t c u:SeqAt.EqAt A.in1 ⟨hp,g,d,tk,os⟩ _ _ _) prog w _ _ ?_)
      rw[beq_iff_eq.mpr hac]
      wp_walk
      exact⟨rfl,rfl,_,_,_,_,hrest,hv2,hw2,(),hR⟩
     ·rw[if_neg hac]at hR
      refine zC ((SeqAt.EqAt.int_int a t c u:SeqAt.EqAt A.in1 ⟨hp,g,d,tk,os⟩ _ _ _) prog w _ _ ?_)
      rw[beq_eq_false_iff_ne.mpr hac]
      have hri:∀(E:Value->Shared->Prop) (Q:Value->Shared->Prop),Q (.bool (decide (a<=c))) ⟨hp,g,d,tk,os⟩->wpAny (model prog w) A.in1 (richCompare .LtE (.int a t) (.int c u)) Q E ⟨hp,g,d,tk,os⟩:=λE Q hq=>
       (PyProof.Rows.le_int hq:wpAny (model prog w) A.in1 (compareOp .LtE (.int a t) (.int c u)) Q E ⟨hp,g,d,tk,os⟩)
      wp_walk using hri
      exact⟨_,rfl,by simpa using hR⟩
  case fin=>
   rintro⟨b1,b2⟩ s' ⟨hb',rfl,vs,ws,ns',ms',hz,hvi,hwi,hlen,hR⟩
   simp only at hb'
   subst hb'
   have hv:Ol ns' ms'=decide (its.size<=its2.size):=by
    rw[abI hvi hwi hz.symm]
    exact decide_eq_decide.mpr ()
   rw[hv]at hR
   wp_walk
   exact⟨_,rfl,by simpa[Builtin.Tuple.tupleCompareSizes]using hR⟩
  case h=>
   exact⟨rfl,rfl,its.toList,its2.toList,ns,ms,rfl,hi,hj,(),h⟩
end X7
namespace L2
open PySem PySem.Spec PyProof.Rows
section
variable{X:Cx}
theorem aha(hu:X.A.units<cLine):uT X (compareOp .LtE) (λx y H Q=>∃a b ns ms,x= .ref a/\y= .ref b/\nu X.K H a (ns.map V.int)/\nu X.K H b (ms.map V.int)/\Q (.bl (X7.Ol ns ms)) H):=by
 intro pins s σ H x y v u Q I rx ry h
 obtain⟨a,b,ns,ms,rfl,rfl,ha,hb,q⟩:=h
 cases rx
 cases ry
 obtain⟨its,r1,p1,_⟩:=I.tuple ha
 obtain⟨its2,r2,p2,_⟩:=I.tuple hb
 obtain⟨⟨cls,dd,data,sl⟩,ho,hc,n,hd⟩:=id p1
 obtain⟨⟨cls2,dd2,data2,sl2⟩,ho2,hc2,n2,hd2⟩:=id p2
 simp only at hc hd hc2 hd2
 subst hc hd hc2 hd2
 exact richCompare_meets_room (op:= .LtE) ⟨_,ho,rfl⟩ ⟨_,ho2,rfl⟩ PySem.F.slot_tuple_le PySem.F.entry_tuple_le (PySem.F.args_tuple_le_2 _ _) (X7.akD a b _ _ n n2 dd dd2 sl sl2 ns ms (intsAre_of r1) (intsAre_of r2))
  ⟨ho,ho2,show Value.bool (X7.Ol ns ms)≠Value.notImplemented/\EP X pins σ Q (.bool (X7.Ol ns ms)) s from⟨(λx=>nomatch x),⟨.bl _,H,I,rfl,q⟩⟩⟩ hu
end
def aim(K:Frag)(a:Addr)(T:List (Str×Int)):Prop:=(a==sysModules)=false/\∃o es ep,K.lookup a=some o/\o.ExactDict/\o.data= .dict es ep/\PyProof.Rows.KTD.Rows (λi v=>∃t,v=Value.int i t) es.toList T
noncomputable def Hj(k:Str):List (Str×Int)->V
 | []=> .non
 | (x,i)::T=>if decide (k=x)=true then .int i else Hj k T
section
variable{X:Cx}{o e:Expr}{apos cpos:Pos}{td ty:TE}
theorem Rr{P:Value->Prop}:∀{T:List (Str×Int)},(∀v,RelV (Hj k T) v->P v)->PyProof.Rows.KTD.Each h k P (P .none) (T.map λp=>(p.1,PyProof.Rows.KTD.Dat.flat (PyData.int p.2)))
 | [],hp=>hp .none rfl
 | (x,i)::T,hp=>by
  show if decide (k=x)=true then _ else _
  unfold Hj at hp
  by_cases hk:decide (k=x)=true
  ·rw[if_pos hk]at hp ⊢
   exact λt=>hp _ ⟨t,rfl⟩
  ·rw[if_neg hk]at hp ⊢
   exact Rr hp
def ajc(K:Frag)(td ty:TE):TE:=λσ H Q=>td σ H λx H1=>∃a T,x= .ref a/\aim K a T/\ty σ H1 λy H2=>∃k,y= .str k/\Q (Hj k T) H2
theorem adW(ho:PE X o td)(he:PE X e ty)(m:M1 X o "get" apos e cpos):PE X (.Call (.Attribute o "get" apos) [e] [] cpos) (ajc X.K td ty):=by
 intro pins s σ H Q I h
 refine wpAny_Call_method m.base m.few m.line PySem.F.plainAttrs_dict PySem.F.slot_dict_get PySem.F.type_dict_get (fU (ho pins s σ H _ I h) ?_)
 rintro u t ⟨x,H1,I1,rx,a,T,ex,tb,q1⟩
 subst ex
 obtain rfl:u=Value.ref a:=rx
 obtain⟨hs,ob,es,ep,ho',hx,hd,hr⟩:=tb
 have here:∀(h:Heap),X.K.In h->PyProof.Rows.KTD.Here h h a (T.map λp=>(p.1,PyProof.Rows.KTD.Dat.flat (PyData.int p.2))):=λh hk=>
  ⟨⟨hs,ob,es,ep,hk _ _ ho',hx,hd,hr.mono (R':=PyProof.Rows.KTD.Dat.At h) (f:=λi=>PyProof.Rows.KTD.Dat.flat (PyData.int i)) λi v ⟨t,e⟩=>by subst e;exact .int i t⟩,λ_ _ z=>z⟩
 refine⟨(here _ I1.Jb).typeIs,(here _ I1.Jb).noDict,?_⟩
 rw[m.trees]
 refine Calls.callWith_builtin rfl (Calls.evalArgs_plain (Calls.spliced_cons (fU (he pins t σ H1 _ I1 q1) ?_)))
 rintro iv t2 ⟨y,H2,I2,ry,k,ek,q2⟩
 refine Calls.spliced_nil ?_
 subst ek
 obtain⟨tk,rfl⟩:=ry
 exact PyProof.Rows.KTD.get1_text (here _ I2.Jb) (Rr λv rv=>⟨_,H2,I2.tok _,rv,q2⟩)
end
end L2
namespace S
open PySem PySem.Spec PyProof.Rows L2
section
variable{X:Cx}{ct:Nat->Addr}{W:bC}{pos pos':Pos}
noncomputable def strsOf:List D->Option (List Str)
 | []=>some []
 | .str w::r=>(strsOf r).map (w:: ·)
 | _=>none
theorem N6{K:Frag}{ι:Nat->Addr}{n:Nat}{H:Hp}:∀{ds:List D} {ws:List Str} {vs:List V},strsOf ds=some ws->jo K ct ι n H ds vs->vs=ws.map V.str
 | [],_,_,h,.nil=>by cases h;rfl
 | d::r,ws,_,h,.cons q qs=>by
  cases q with
  | str w=>
   simp only[strsOf]at h
   obtain⟨us,h1,rfl⟩:=Option.map_eq_some_iff.mp h
   rw[N6 h1 qs]
   rfl
  | _=>simp only[strsOf]at h;cases h
theorem Wj{K:Frag}{ι:Nat->Addr}{n:Nat}{H:Hp}:∀(ws:List Str),jo K ct ι n H (ws.map D.str) (ws.map V.str)
 | []=> .nil
 | w::ws=> .cons (.str w) (Wj ws)
noncomputable def K3:D->List D->Mem->Out D:=λd ds M=>match d,ds with
 | .str y,[.ref n]=>match M[n]? with
  | some (.lst es)=>match strsOf es with
   | some ws=>if JoinOk y ws=true then .ok (.str (Txt.join y ws)) M else .bad
   | none=> .bad
  | _=> .bad
 | _,_=> .bad
theorem aeg:MtS X ct "str" "str.join" K3:=by
 refine⟨_,aee,λι M H d ds v vs Q R q qs p=> ?_⟩
 unfold K3 at p
 split at p
 ·rename_i y n
  cases pM q
  obtain⟨u,rfl,qu⟩:=JL qs
  obtain⟨hn,rfl⟩:=nW qu
  split at p
  ·rename_i es e1
   split at p
   ·rename_i ws e2
    split at p
    ·rename_i hk
     obtain⟨xs,hH,hd⟩:=R.obj n _ e1
     have ex:=N6 e2 hd
     subst ex
     exact⟨y,_,ws,rfl,rfl,hH,hk,p ι _ H .refl R (.str _)⟩
    ·exact p.elim
   ·exact p.elim
  ·exact p.elim
 ·exact p.elim
noncomputable def Hq:D->List D->Mem->Out D:=λd ds M=>match d,ds with
 | .str y,[.str z]=>if y.length+2<=sizeLine/\(z.length==0)=false then .ok (.ref M.length) (M++[.lst ((Txt.split y z).map D.str)])else .bad
 | _,_=> .bad
theorem abm:MtS X ct "str" "str.split" Hq:=by
 refine⟨_,abk,λι M H d ds v vs Q R q qs p=> ?_⟩
 unfold Hq at p
 split at p
 ·rename_i y z
  cases pM q
  obtain⟨u,rfl,qu⟩:=JL qs
  cases pM qu
  split at p
  ·rename_i hz
   exact⟨y,z,rfl,rfl,hz.1,hz.2,λpp hp=>tD R (Wj _) hp p⟩
  ·exact p.elim
 ·exact p.elim
noncomputable def agq:su:=λd e M=>match d,e with
 | .str a,.str b=> .ok (.bl (!decide (b.cps.toList<a.cps.toList))) M
 | _,_=> .bad
theorem aid:gF X ct (compareOp .LtE) agq:=by
 refine⟨_,Yw,λι M H d d' v v' Q R h h' p=> ?_⟩
 unfold agq at p
 split at p
 ·cases pM h
  cases pM h'
  exact⟨_,_,rfl,rfl,p ι _ H .refl R (.bl _)⟩
 ·exact p.elim
noncomputable def adx:su:=λd e M=>match d,e with
 | .tup xs,.tup ys=>match kO xs,kO ys with
  | some is,some js=> .ok (.bl (X7.Ol is js)) M
  | _,_=> .bad
 | _,_=> .bad
theorem aic(hu:X.A.units+64<cLine):gF X ct (compareOp .LtE) adx:=by
 refine⟨_,aha (),λι M H d d' v v' Q R h h' p=> ?_⟩
 unfold adx at p
 split at p
 ·obtain⟨a,vs,rfl,ha,hd⟩:=mj h
  obtain⟨b,us,rfl,hb,hd'⟩:=mj h'
  split at p
  ·rename_i is js e1 e2
   have x1:=oV e1 hd
   have x2:=oV e2 hd'
   subst x1 x2
   exact⟨a,b,is,js,rfl,rfl,nu.of ha,nu.of hb,p ι _ H .refl R (.bl _)⟩
  ·exact p.elim
 ·exact p.elim
def sLe:su:=vh (vh Hs agq) adx
theorem aie(hu:X.A.units+64<cLine):gF X ct (compareOp .LtE) sLe:=(Dq.or aid).or (aic hu)
def itS(d:D)(M1:Mem):Out Itm:=match d with
 | .str u=>if u.length<=sizeLine then .ok ⟨none,u.cps.toList.map λc=>D.str ⟨#[c]⟩⟩ M1 else .bad
 | _=> .bad
def Pb(k:Str):List (Str×Int)->D
 | []=> .non
 | (x,i)::T=>if decide (k=x)=true then .int i else Pb k T
theorem Wg{K:Frag}{ι:Nat->Addr}{n:Nat}{H:Hp}{k:Str}:∀(T:List (Str×Int)),DV K ct ι n H (Pb k T) (Hj k T)
 | []=> .non
 | (x,i)::T=>by
  unfold Pb Hj
  split
  ·exact .int i
  ·exact Wg T
def aet(T:List (Str×Int))(k:D)(M:Mem):Out D:=match k with
 | .str z=> .ok (Pb z T) M
 | _=> .bad
def abz(T:List (Str×Int))(mk:ME):ME:=λe M=>(mk e M).bind (aet T)
theorem adt(T:List (Str×Int))(hg:Gl X x)(hm:X.mg x=some (.ref a))(hT:aim X.K a T)(he:SE X ct W e mk)(hd:(x==("__debug__" : Str))=false:=by decide)
  (base:attributeBase (.Name x p) "get" X.env (eval (.Name x p) X.env)=eval (.Name x p) X.env:=by rfl)
  (few:((backTo cpos (starEach [e] X.env)).all (λx=> !x.1)&&(backToKw cpos (keywordEach [] X.env)).all (λx=>x.1.isSome)
   && decide (([e]:List Expr).length+([]:List Keyword).length+(if([]:List Keyword).isEmpty then 0 else 1)<30))=true:=by rfl)
  (line:(apos.endLine==cpos.line)=true:=by rfl) (trees:backTo cpos (starEach [e] X.env)=[(false,eval e X.env)]:=by rfl):
  SE X ct W (.Call (.Attribute (.Name x p) "get" apos) [e] [] cpos) (abz T mk):=dY (adW (Qc (v:= .ref a) hg hm rfl hd) he ⟨base,few,line,trees⟩) λσ H Q q=>by
 obtain⟨ι,e,M,w,p⟩:=bR (d7:=dh X.K ct) (f:=λk _ M1=>aet T k M1) q
 refine⟨a,T,rfl,hT,ι,e,M,w,p.mono ?_⟩
 rintro v H1 ⟨cB,e1,M1,d,w1,q1,p1⟩
 cases q1 with
 | str z=>exact⟨_,rfl,p1 cB _ H1 .refl w1.rl (Wg T)⟩
 | _=>exact p1.elim
end
theorem iJ(h1:sc.kind= .function:=by rfl)(h2:sc.isCoroutine=false:=by rfl)(h3:sc.isGenerator=false:=by rfl)(h4:N.Nodup:=by decide +kernel)(h5:N.take ps.length=ps:=by rfl)
  (h6:∀x∈ps,sc.names.lookup x=some .local\/sc.names.lookup x=some .cell:=by decide +kernel) (h7:∀y∈sc.names,y.2≠ .free:=by decide +kernel):sy N ps sc:=⟨h1,h2,h3,h4,h5,h6,h7⟩
section
variable{e:Sl}{M:Mem}
@[simp] theorem akq:abz T mk e M=(mk e M).bind (aet T):=id rfl
@[simp] theorem akG:aet T (.str z) M= .ok (Pb z T) M:=id rfl
theorem Yj(h:y.length+2<=16777216)(hz:(z.length==0)=false):Hq (.str y) [.str z] M= .ok (.ref M.length) (M++[.lst ((Txt.split y z).map D.str)]):=by
 simp only[Hq]
 rw[if_pos ⟨by rw[J7];exact h,hz⟩]
theorem KC:∀(ws:List Str),strsOf (ws.map D.str)=some ws
 | []=>rfl
 | w::ws=>by simp only[List.map_cons,strsOf,KC ws,Option.map_some]
theorem aax(h:M[n]? = some (.lst (ws.map D.str)))(hk:JoinOk y ws=true):K3 (.str y) [.ref n] M= .ok (.str (Txt.join y ws)) M:=by
 simp only[K3,h,KC,hk,if_true]
theorem ajB(h1:kO xs=some is)(h2:kO ys=some js):sLe (.tup xs) (.tup ys) M= .ok (.bl (X7.Ol is js)) M:=by
 refine(wF rfl).trans ?_
 simp only[adx,h1,h2]
end
section
variable{X:Cx}{ct:Nat->Addr}
def notStar:Expr->Bool
 | .Starred _ _=>false
 | _=>true
theorem ajm(h:notStar a=true):starEach (a::es) env=(false,eval a env)::starEach es env:=by
 cases a<;>first | rfl | cases h
theorem aR(ha:SE X ct W a ma)(hr:SA X ct W es ms)(h:notStar a=true:=by rfl):SA X ct W (a::es) (au ma ms):=ao ha hr (ajm h)
end
theorem Xd{α:Type}{us:List α}(h:us.length=5):∃a b c d e,us=[a,b,c,d,e]:=match us,h with | [a,b,c,d,e],_=>⟨a,b,c,d,e,rfl⟩
section
variable{X:Cx}{ct:Nat->Addr}{W:bC}
theorem Cd(hg:Gl X x)(hm:X.mg x=some (.ref a))(hk:∀ι n H,DV X.K ct ι n H (.nA ds) (.ref a))(hd:(x==("__debug__" : Str))=false:=by decide):SE X ct W (.Name x pos) (mC (.nA ds)):=
 dY (Qc (v:= .ref a) hg hm rfl hd) λ_ _ _ h=>Rx (λ_ _=>hk _ _ _) h
theorem HY{K:Frag}{ι:Nat->Addr}{n:Nat}{H:Hp}{a:Addr}{o:Obj}{its:Array Value}{k:Nat}{xs:List V}{ds:List D}(h1:K.lookup a=some o)(h2:o.cls= .type "tuple")(h3:o.data= .seq its k)
  (h4:its.size<=1000) (h5:Vals xs its.toList) (h6:jo K ct ι n H ds xs):DV K ct ι n H (.nA ds) (.ref a):=
 .nA ⟨o,its,k,h1,h2,h3,yY h4 (by simp[sizeLine]),h5⟩ h6
theorem Dv:∀(is:List Int),kO (is.map D.int)=some is
 | []=>rfl
 | i::is=>by simp only[List.map_cons,kO,Dv is];rfl
end
end S
namespace L2
open PySem PySem.Spec PyProof.Rows
section
variable{X:Cx}{pins:List (Addr×Obj)}{σ:St}{H:Hp}{s:Shared}{d:Addr}{o:Obj}{kvs:List (Key×V)}
def acO(X:Cx)(d:Addr):Prop:=∀o u,X.H₀ d≠some (.mK o u)
theorem Inv.anM(I:Inv X pins σ H s)(e:H d=some (.dK kvs)):acO X d:=λo u q=>by
 have:=I.base.zy d o u q
 rw[e]at this;cases this
theorem Inv.aeC(I:Inv X pins σ H s)(e:H d=some (.dK kvs))(ho:s.heap.get? d=some o):Inv X pins σ (upd H d (.mK o (.dK kvs))) s:=by
 have hk:∀b u,(∀ks,u≠ .dK ks)->H b=some u->upd H d (.mK o (.dK kvs)) b=some u:=λb u n q=>by
  rw[aL (λz=>by subst z;rw[e]at q;exact n _ (xI q).symm)];exact q
 have hz:∀b,H b=none->upd H d (.mK o (.dK kvs)) b=none:=λb q=>by
  rw[aL (λz=>by subst z;rw[e]at q;cases q)];exact q
 refine⟨I.ok,I.os,I.bare,⟨I.base.keep,I.base.slot,λb o q n z=>hz b (I.base.free b o q n z),I.base.there,λb xs q=>hk _ _ (λ_ z=>nomatch z) (I.base.tups b xs q),λb o u q=>hk _ _ (λ_ z=>nomatch z) (I.base.zy b o u q),λb ps q=> ?_⟩,
  I.loc,I.cell,hz _ I.free,λx c q=>hz _ (I.lO x c q),λp hp=> ?_,λb u q=> ?_,I.len⟩
 ·obtain⟨m,z⟩:=I.base.Cv b ps q;exact⟨m,hk _ _ (λ_ z=>nomatch z) z⟩
 ·obtain⟨z1,z2,z3⟩:=I.pin p hp;exact⟨z1,hz _ z2,z3⟩
 ·by_cases z:b=d
  ·subst z
   rw[bA]at q;cases q
   exact⟨ho,(I.hok b _ e).stay (λ_ _ _ y=>y) (λb' y=>hk _ _ (λ_ z=>nomatch z) y) λb' xs y=>hk _ _ (λ_ z=>nomatch z) y⟩
  ·rw[aL z]at q
   exact(I.hok b u q).stay (λ_ _ _ y=>y) (λb' y=>hk _ _ (λ_ z=>nomatch z) y) λb' xs y=>hk _ _ (λ_ z=>nomatch z) y
theorem Inv.ai8(I:Inv X pins σ H s)(nf:acO X d)(e:H d=some (.mK o (.dK kvs))):Inv X pins σ (upd H d (.dK kvs)) s:=by
 have hk:∀b u,(∀a z,u≠ .mK a z)->H b=some u->upd H d (.dK kvs) b=some u:=λb u n q=>by
  rw[aL (λz=>by subst z;rw[e]at q;exact n _ _ (xI q).symm)];exact q
 have hz:∀b,H b=none->upd H d (.dK kvs) b=none:=λb q=>by
  rw[aL (λz=>by subst z;rw[e]at q;cases q)];exact q
 refine⟨I.ok,I.os,I.bare,⟨I.base.keep,I.base.slot,λb o q n z=>hz b (I.base.free b o q n z),I.base.there,λb xs q=>hk _ _ (λ_ _ z=>nomatch z) (I.base.tups b xs q),λb o' u q=> ?_,λb ps q=> ?_⟩,
  I.loc,I.cell,hz _ I.free,λx c q=>hz _ (I.lO x c q),λp hp=> ?_,λb u q=> ?_,I.len⟩
 ·rw[aL (λz=>by subst z;exact nf _ _ q)]
  exact I.base.zy b o' u q
 ·obtain⟨m,z⟩:=I.base.Cv b ps q;exact⟨m,hk _ _ (λ_ _ z=>nomatch z) z⟩
 ·obtain⟨z1,z2,z3⟩:=I.pin p hp;exact⟨z1,hz _ z2,z3⟩
 ·by_cases z:b=d
  ·subst z
   rw[bA]at q;cases q
   exact(show fC X.prog X.w H s.heap b (.mK o (.dK kvs))from I.hok b _ e).2.stay (λ_ _ _ y=>y) (λb' y=>hk _ _ (λ_ _ z=>nomatch z) y) λb' xs y=>hk _ _ (λ_ _ z=>nomatch z) y
  ·rw[aL z]at q
   exact(I.hok b u q).stay (λ_ _ _ y=>y) (λb' y=>hk _ _ (λ_ _ z=>nomatch z) y) λb' xs y=>hk _ _ (λ_ _ z=>nomatch z) y
theorem Oh{α β:Type}{F:α->β->Prop}:∀{l₁:List α} {l₂:List β},Paired F l₁ l₂->∀{i:Nat} {a:α} {b:β},l₁[i]? = some a->l₂[i]? = some b->F a b
 | _,_,.nil,_,_,_,h,_=>by simp at h
 | _,_,.cons r t,0,_,_,h,h'=>by simp at h h';subst h h';exact r
 | _,_,.cons r t,i+1,_,_,h,h'=>Oh t (by simpa using h) (by simpa using h')
theorem ab7(I:Inv X pins σ H s)(e:H d=some (.mK o (.dK kvs)))(hep:o.data= .dict es ep):∃vs,KV kvs vs/\s.heap.DictAt (dG X.prog X.w) d vs ep:=by
 obtain⟨ho,z,hd,vs,rel,o',es',ep',g,r1,r2,r3⟩:=(show fC X.prog X.w H s.heap d (.mK o (.dK kvs))from I.hok d _ e)
 rw[ho]at g;cases g
 rw[hep]at r2;cases r2
 exact⟨vs,rel,o,es,ho,r1,hep,r3⟩
end
end L2
namespace S
open PySem PySem.Spec PyProof.Rows L2
structure Wk(K:Frag)(H H':Hp):Prop where
 tup:∀a xs,H a=some (.tup xs)->H' a=some (.tup xs)
 mK:∀a xs,FrL K H a xs->FrL K H' a xs
 ex:∀a φ,H a=some (.ext φ)->H' a=some (.ext φ)
 xd:∀a fs,H a=some (.xd fs)->H' a=some (.xd fs)
mutual
theorem DV.wk{K:Frag}{ct ι:Nat->Addr}{n:Nat}{H H':Hp}(e:Wk K H H'):∀{d:D} {v:V},DV K ct ι n H d v->DV K ct ι n H' d v
 | _,_,.non=> .non
 | _,_,.bl b=> .bl b
 | _,_,.int i=> .int i
 | _,_,.str x=> .str x
 | _,_,.tup h hs=> .tup (e.tup _ _ h) (jo.wk e hs)
 | _,_,.ref h=> .ref h
 | _,_,.cl h hs=> .cl (e.mK _ _ h) (jo.wk e hs)
 | _,_,.ty s=> .ty s
 | _,_,.cls c=> .cls c
 | _,_,.exc h1 h2 h3=> .exc (e.ex _ _ h1) (e.xd _ _ h2) (DV.wk e h3)
 | _,_,.nA h hs=> .nA h (jo.wk e hs)
theorem jo.wk{K:Frag}{ct ι:Nat->Addr}{n:Nat}{H H':Hp}(e:Wk K H H'):∀{ds:List D} {vs:List V},jo K ct ι n H ds vs->jo K ct ι n H' ds vs
 | _,_,.nil=> .nil
 | _,_,.cons h hs=> .cons (DV.wk e h) (jo.wk e hs)
end
section
variable{K:Frag}{ct ι:Nat->Addr}{n:Nat}{H H':Hp}{M:Mem}{d:Addr}{o:Obj}{ys:List (Key×V)}
theorem O6.wk(e:Wk K H H'):∀{fs:List (Str×D)} {vs:List (Str×V)},O6 K ct ι n H fs vs->O6 K ct ι n H' fs vs
 | _,_,.nil=> .nil
 | _,_,.cons h hs=> .cons (h.wk e) (O6.wk e hs)
theorem xq.wk{κ:Type}(e:Wk K H H'):∀{fs:List (κ×D)} {vs:List (κ×V)},xq K ct ι n H fs vs->xq K ct ι n H' fs vs
 | _,_,.nil=> .nil
 | _,_,.cons h hs=> .cons (h.wk e) (xq.wk e hs)
theorem OR.wk(e:Wk K H H')(hh:H' a=H a)(h:OR K ct ι n H a x):OR K ct ι n H' a x:=by
 cases x with
 | lst ds=>obtain⟨vs,q,r⟩:=h;exact⟨vs,by rw[hh];exact q,r.wk e⟩
 | ins c fs=>obtain⟨dx,vs,q,r⟩:=h;exact⟨dx,vs,by rw[hh];exact q,r.wk e⟩
 | dk kvs=>obtain⟨vs,q,r⟩:=h;exact⟨vs,by rw[hh];exact q,r.wk e⟩
 | dt kvs=>obtain⟨vs,q,r⟩:=h;exact⟨vs,by rw[hh];exact q,r.wk e⟩
 | fd kvs=>obtain⟨o,vs,q,r⟩:=h;exact⟨o,vs,by rw[hh];exact q,r.wk e⟩
theorem Wk.ac8(h:H d=some (.mK o (.dK ys))):Wk K H (upd H d (.dK ys)) where
 tup:=λa xs q=>by rw[aL (λz=>by subst z;rw[h]at q;cases q)];exact q
 mK:=λa xs q=>by
  rcases q with⟨b,q⟩ | q
  ·exact .inl ⟨b,by rw[aL (λz=>by subst z;rw[h]at q;cases q)];exact q⟩
  ·exact .inr q
 ex:=λa φ q=>by rw[aL (λz=>by subst z;rw[h]at q;cases q)];exact q
 xd:=λa fs q=>by rw[aL (λz=>by subst z;rw[h]at q;cases q)];exact q
theorem Rl.ac8(R:Rl K ct ι M H)(hi:i<M.length)(h:H (ι i)=some (.mK o (.dK ys)))(pv:xq K ct ι M.length H kvs ys):Rl K ct ι (M.set i (.dk kvs)) (upd H (ι i) (.dK ys)):=by
 refine⟨λj k hj hk e=>R.inj j k (by simpa using hj) (by simpa using hk) e,λj y hy=> ?_⟩
 rw[List.length_set]
 by_cases e:i=j
 ·subst e
  rw[zai hi]at hy
  cases hy
  exact⟨ys,bA,pv.wk (Wk.ac8 h)⟩
 ·rw[zah e]at hy
  have hj:j<M.length:=(List.getElem?_eq_some_iff.mp hy).1
  exact(R.obj j y hy).wk (Wk.ac8 h) (aL λz=>e (R.inj i j hi hj z.symm))
theorem acf(h1:H1 d=some (.dK ys1))(x:Ext K cB n1 (upd H1 d (.mK o1 (.dK ys1))) ι' n' H')(h':H' d=some (.mK o (.dK ys))):Ext K cB n1 H1 ι' n' (upd H' d (.dK ys)) where
 tup:=λa xs q=>by
  have ne:a≠d:=λz=>by subst z;rw[h1]at q;cases q
  rw[aL ne];exact x.tup a xs (by rw[aL ne];exact q)
 mK:=λa xs q=>by
  rcases q with⟨b,q⟩ | q
  ·have ne:a≠d:=λz=>by subst z;rw[h1]at q;cases q
   exact .inl ⟨b,by rw[aL ne];exact x.fz a b _ (by rw[aL ne];exact q)⟩
  ·exact .inr q
 ex:=λa φ q=>by
  have ne:a≠d:=λz=>by subst z;rw[h1]at q;cases q
  rw[aL ne];exact x.ex a φ (by rw[aL ne];exact q)
 xd:=λa fs q=>by
  have ne:a≠d:=λz=>by subst z;rw[h1]at q;cases q
  rw[aL ne];exact x.xd a fs (by rw[aL ne];exact q)
 fz:=λa b u q=>by
  have ne:a≠d:=λz=>by subst z;rw[h1]at q;cases q
  rw[aL ne];exact x.fz a b u (by rw[aL ne];exact q)
 le:=x.le
 same:=x.same
end
noncomputable def pJ:List (ME×ME)->Sl->Mem->Out (List (Key×D))
 | [],_,M=> .ok [] M
 | (mk,mv)::r,e,M=>(mk e M).bind λk M1=>match toKey k with
  | some kk=>(mv e M1).bind λv M2=>(pJ r e M2).bind λps M3=> .ok ((kk,v)::ps) M3
  | none=> .bad
def ant(K:Frag)(ct:Nat->Addr):(Nat->Addr)->Mem->Hp->List (Key×D)->List (V×V)->Prop:=λι M H ps qs=>∃kvs:List (Key×V),qs=kvs.map (λkv=>(kV kv.1,kv.2))/\xq K ct ι M.length H ps kvs
def yj(kvs more:List (Key×D)):List (Key×D):=more.foldl (λacc kv=>P_ acc kv.1 kv.2) kvs
noncomputable def m_(ms:List (ME×ME)):ME:=λe M=>(pJ ms e (M++[.dk []])).bind λps M2=>match M2[M.length]? with
 | some (.dk [])=>if ps.length<=15 then .ok (.ref M.length) (M2.set M.length (.dk (yj [] ps)))else .bad
 | _=> .bad
section
variable{X:Cx}{ct:Nat->Addr}{W:bC}
theorem xq.merge{K:Frag}{ι:Nat->Addr}{n:Nat}{H:Hp}{more:List (Key×D)}{mv:List (Key×V)}(h:xq K ct ι n H more mv):∀{kvs:List (Key×D)} {vs:List (Key×V)},xq K ct ι n H kvs vs->xq K ct ι n H (yj kvs more) (vq vs mv):=by
 induction h with
 | nil=>intro kvs vs h;exact h
 | @cons x d v fs vs' hd t ih=>
  intro kvs vs h
  show xq K ct ι n H (yj (P_ kvs x d) fs) (vq (putK vs x v) vs')
  exact ih (xq.put h hd x)
theorem NZ{K:Frag}:∀(ms:List (ME×ME)) {σ:St} {H:Hp} {Q:List (V×V)->Hp->Prop} {ι:Nat->Addr} {e:Sl} {M:Mem},Ws K ct ι e M σ H->gj (ant K ct) K ct (wAt W σ) ι M.length H (pJ ms e M) Q->
  Ky (ms.map λp=>(tG (dh K ct) K ct W p.1,tG (dh K ct) K ct W p.2)) σ H Q
 | [],σ,H,Q,ι,e,M,w,p=>p ι [] H .refl w.rl ⟨[],rfl,.nil⟩
 | (mk,mv)::r,σ,H,Q,ι,e,M,w,p=>by
  show tG (dh K ct) K ct W mk σ H λx H1=>tG (dh K ct) K ct W mv σ H1 λy H2=>Ky _ σ H2 λps H3=>Q ((x,y)::ps) H3
  refine⟨ι,e,M,w,?_⟩
  simp only[pJ]at p
  cases z:mk e M with
  | bad=>simp only[z,Out.b7]at p;exact p.elim
  | exc xc xd xM=>simp only[z,Out.dU]at p;exact p
  | ok k M1=>
   simp only[z,Out.bI]at p
   intro cB x H1 x1 r1 q1
   have w1:=w.ext x1 r1
   have p1:=p.ext x1
   cases zk:toKey k with
   | none=>simp only[zk]at p1;exact p1.elim
   | some kk=>
    simp only[zk]at p1
    have ex:x=kV kk:=Fp zk q1
    refine⟨cB,e,M1,w1,?_⟩
    cases z2:mv e M1 with
    | bad=>simp only[z2,Out.b7]at p1;exact p1.elim
    | exc xc xd xM=>simp only[z2,Out.dU]at p1;exact p1
    | ok v M2=>
     simp only[z2,Out.bI]at p1
     intro gk y H2 x2 r2 q2
     have w2:=w1.ext x2 r2
     have p2:=p1.ext x2
     refine NZ r (Q:=λps H3=>Q ((x,y)::ps) H3) w2 ?_
     cases z3:pJ r e M2 with
     | bad=>simp only[z3,Out.b7]at p2;exact p2.elim
     | exc xc xd xM=>simp only[z3,Out.dU]at p2;exact p2
     | ok ps M3=>
      simp only[z3,Out.bI]at p2
      intro Ds qs H3 x3 r3 q3
      obtain⟨kvs,hk,pv⟩:=q3
      exact p2 Ds ((x,y)::qs) H3 x3 r3 ⟨(kk,y)::kvs,by simp[hk,ex],.cons (q2.mono x3) pv⟩
theorem Fx{pos:Pos}{keys:List (Option Expr)}{values:List Expr}{ms:List (ME×ME)}(h:PPs X pos keys values (ms.map λp=>(tG (dh X.K ct) X.K ct W p.1,tG (dh X.K ct) X.K ct W p.2)))(hall:keys.all (·.isSome)=true:=by rfl)(hl:keys.length=values.length:=by rfl)(h0:keys≠[]:=by simp)
  (h15:keys.length<=15:=by decide):SE X ct W (.Dict keys values pos) (m_ ms):=dY (adX h hall hl h0 h15) λσ H Q q=>by
 obtain⟨ι,e,M,w,p⟩:=q
 intro pp hp
 have x0:Ext X.K ι M.length H (iK ι M.length pp) (M.length+1) (upd H pp (.dK [])):=Ext.new hp
 have r0:Rl X.K ct (iK ι M.length pp) (M++[.dk []]) (upd H pp (.dK [])):=w.rl.new hp ⟨[],bA,.nil⟩
 have el:(M++[MO.dk []]).length=M.length+1:=by simp
 have w0:Ws X.K ct (iK ι M.length pp) e (M++[.dk []]) σ (upd H pp (.dK [])):=w.ext (by rw[el];exact x0) r0
 have ipp:iK ι M.length pp M.length=pp:=by unfold iK;rw[if_pos rfl]
 refine NZ ms w0 ?_
 unfold m_ at p
 have p:=p.ext x0
 rw[el]
 cases z:pJ ms e (M++[.dk []])with
 | bad=>simp only[z,Out.b7]at p;exact p.elim
 | exc xc xd xM=>simp only[z,Out.dU]at p;exact p
 | ok ps M2=>
  simp only[z,Out.bI]at p
  intro gk qs H2 x2 r2 q2
  obtain⟨kvs,hk,pv⟩:=q2
  split at p
  ·rename_i hM
   have hn:M.length<M2.length:=(List.getElem?_eq_some_iff.mp hM).1
   obtain⟨vs,hH,pv0⟩:=r2.obj M.length _ hM
   have e2:gk M.length=pp:=(x2.same M.length (Nat.lt_succ_self _)).trans ipp
   rw[e2]at hH
   cases pv0
   split at p
   ·rename_i aov
    refine⟨hH,kvs,hk,by rw[pv.length];exact aov,?_⟩
    have xc:Ext X.K gk M2.length H2 gk M2.length (upd H2 pp (.dK (vq [] kvs))):=Ext.chg hH (λ_ z=>nomatch z) (λ_ _ z=>nomatch z)
    have rc:Rl X.K ct gk (M2.set M.length (.dk (yj [] ps))) (upd H2 pp (.dK (vq [] kvs))):=by
     have:=r2.chg (i:=M.length) (u:= .dK []) (o:= .dK (vq [] kvs)) (x:= .dk (yj [] ps)) hn (by rw[e2];exact hH) (λ_ z=>nomatch z) (λ_ _ z=>nomatch z) ⟨_,by rw[e2];exact bA,by rw[e2];exact(xq.merge pv .nil).mono xc⟩
     rw[e2]at this;exact this
    have:=p gk (.ref pp) _ (x2.trans (by rw[List.length_set];exact xc)) rc (by
     show DV X.K ct gk (M2.set M.length (.dk (yj [] ps))).length _ _ _
     rw[List.length_set,<-e2];exact .ref hn)
    exact this
   ·exact p.elim
  ·exact p.elim
end
end S
namespace S
theorem Xc{α:Type}{us:List α}(h:us.length=6):∃a b c d e f,us=[a,b,c,d,e,f]:=by
 match us,h with
 | [a,b,c,d,e,f],_=>exact⟨a,b,c,d,e,f,rfl⟩
theorem Xb{α:Type}{us:List α}(h:us.length=7):∃a b c d e f g,us=[a,b,c,d,e,f,g]:=by
 match us,h with
 | [a,b,c,d,e,f,g],_=>exact⟨a,b,c,d,e,f,g,rfl⟩
end S
namespace L2
open PySem PySem.Spec PyProof.Rows
section
variable{X:Cx}{pins:List (Addr×Obj)}{σ:St}{H:Hp}{s:Shared}{d:Addr}{o:Obj}{kvs:List (Key×V)}
def Iti(d:Addr)(o:Obj)(kvs:List (Key×V)):It:=
 ⟨λi H=>H d=some (.mK o (.dK kvs))/\i<kvs.length,λi H x H'=>∃a p,H a=none/\kvs[i]? = some p/\x= .ref a/\H'=upd H a (.tup [kV p.1,p.2]),λi H=>H d=some (.mK o (.dK kvs))/\kvs.length<=i⟩
theorem Uy{P:Program}{w:World}{K:Frag}{es:List Expr}{n:Nat}{tp:Pos}{ee:Array DictEntry}{ep:Nat}(hep:o.data= .dict ee ep)(it:Addr):
  Turn P w K (.Tuple es n tp) (Iti d o kvs) [it] it (λi h=>∃ok ov,IsItemIter h it d i kvs.length ep ok ov) where
 mem:=by simp
 obj:=λi h st b hb=>by
  have e:b=it:=by simpa using hb
  subst e
  obtain⟨ok,ov,e⟩:=st
  exact⟨_,e,λv z=>by cases(show Data.fields _=Data.cell v from z)⟩
 keep:=λi h h' ⟨ok,ov,e⟩ k=>⟨ok,ov,k it (by simp) _ e⟩
 item:=by
  intro X hP hw hK hc i pins s σ H E I hf st hg
  subst hP hw hK
  obtain⟨hq,hi⟩:=hg
  obtain⟨ok,ov,st⟩:=st
  obtain⟨vs,rel,dd⟩:=ab7 I hq hep
  have hl:vs.length=kvs.length:=rel.length.symm
  obtain⟨p,hp⟩:∃p,kvs[i]? = some p:=⟨_,zab hi⟩
  obtain⟨q,hq2⟩:∃q,vs[i]? = some q:=⟨_,zab ()⟩
  obtain⟨pq1,pq2⟩:=Oh rel hp hq2
  rw[<-hl]at st
  refine wpAny_pyNext_items_item (k:=q.1) (v:=q.2) st dd hq2 λkey h1 hkey ho hT hsz hk=>⟨_,rfl,wpAny_letOwnedTupleGo_items ho λh2 he2 hs2=> ?_⟩
  have hTe:s.heap.objs.size≠it:=xS (zS st)
  have hT2:h2.get? s.heap.objs.size=some {cls:= .type "tuple",data:= .seq #[key,q.2]}:=(hs2.2 _ hTe).trans hT
  have hf0:H s.heap.objs.size=none:=I.hok.fresh (zaa _)
  have hfi:=hf it (by simp)
  refine⟨.ref s.heap.objs.size,upd H s.heap.objs.size (.tup [kV p.1,p.2]),?_,rfl,⟨_,p,hf0,hp,rfl,rfl⟩,⟨key,q.2,by rw[<-hl];exact he2⟩,λb hb=> ?_⟩
  ·refine I.Rn (λb o n1 n2 eb=>(hs2.2 b n1).trans (hk b o n1 eb)) hfi hfi (zaa _) ?_
   exact⟨Rm,[key,q.2],.cons (by rw[pq1];exact afH hkey) (.cons pq2 .nil),⟨_,hT2,rfl,_,rfl⟩⟩
  ·have e:b=it:=by simpa using hb
   subst e
   rw[aL (Ne.symm hTe)]
   exact hfi.1
 done:=by
  intro X hP hw hK hc i pins s σ H E I hf st hg
  subst hP hw hK
  obtain⟨hq,hi⟩:=hg
  obtain⟨ok,ov,st⟩:=st
  obtain⟨vs,rel,dd⟩:=ab7 I hq hep
  have hl:vs.length=kvs.length:=rel.length.symm
  obtain⟨f0,f1,f2,f3,f4,f5⟩:=hf it (by simp)
  rw[<-hl]at st
  exact wpAny_pyNext_items_end (I.ok.hd hc) st dd (List.getElem?_eq_none ()) λh' eb=>⟨rfl,I.turned (t':=s.toks) (λb o hb e=>eb b o hb e) f0 f1 f3 f4 f5⟩
 self:=λ_ _ _ _ _ ⟨_,_,st⟩ h=>PySem.W.kcp_self st h
def ahG(tl:TE):TI:=λσ H R=>tl σ H λx H1=>∃v d kvs,x= .ref v/\H1 v=some (Kq v d)/\H1 d=some (.dK kvs)/\∀o,acO X d->kvs.length<=sizeLine->R (Iti d o kvs) (upd H1 d (.mK o (.dK kvs)))
theorem aaW(hl:PE X l tl):PI X (.Tuple es n tp) l (ahG (X:=X) tl):=by
 intro pins s σ H R I h
 refine fU (hl pins s σ H _ I h) ?_
 rintro v s1 ⟨x,H1,I1,r1,q1⟩
 obtain⟨vw,d,kvs,e,hv,hd,q⟩:=q1
 subst e
 cases r1
 obtain⟨z,hs,vs,rel,o,es',ep,g,r1,r2,r3⟩:=XC I1.hok hd
 have view:s1.heap.IsItemsView vw d:=(show fC X.prog X.w H1 s1.heap vw (Kq vw d)from I1.hok vw _ hv).1
 refine wpAny_pyIter_items (knd:=dG X.prog X.w) (kvs:=vs) (ep:=ep) view (show s1.heap.DictAt (dG X.prog X.w) d vs ep from⟨o,es',g,r1,r2,r3⟩) ?_
 have I2:Inv X pins σ H1 {s1 with heap:=s1.heap.push {cls:= .type "dict_itemiterator",data:= .fields #[.none,.bool false,.ref d,.int 0 0,.int vs.length 0,.int ep 0,.none,.none]}}:=I1.kept (t':=s1.toks) λb o e=>zD _ e
 have g2:(s1.heap.push {cls:= .type "dict_itemiterator",data:= .fields #[.none,.bool false,.ref d,.int 0 0,.int vs.length 0,.int ep 0,.none,.none]}).get? d=some o:=zD _ g
 have I3:=I2.aeC hd g2
 have hlt:d<s1.heap.objs.size:=zS g
 have hn:upd H1 d (.mK o (.dK kvs)) s1.heap.objs.size=none:=by
  rw[aL (xS hlt)];exact I1.hok.fresh (zaa _)
 refine⟨s1.heap.objs.size,[s1.heap.objs.size],_,_,_,rfl,I3,Uy (o:=o) (kvs:=kvs) r2 _,⟨_,_,by rw[rel.length];exact yB _ rfl⟩,λb hb=> ?_,q o (I1.anM hd) z⟩
 have e:b=s1.heap.objs.size:=by simpa using hb
 subst e
 exact I1.Vz (zaa _) hn
def ai9(X:Cx)(te:TE):TE:=λσ H Q=>te σ H λv H1=>∃d o kvs,acO X d/\H1 d=some (.mK o (.dK kvs))/\Q v (upd H1 d (.dK kvs))
theorem adU(h:PE X e te):PE X e (ai9 X te):=by
 intro pins s σ H Q I q
 refine vE (h pins s σ H _ I q) (λu s' z=> ?_) λ_ _ z=>z
 obtain⟨v,H',I',r,d,o,kvs,nf,e',q'⟩:=z
 exact⟨v,_,I'.ai8 nf e',r,q'⟩
end
end L2
namespace S
open PySem PySem.Spec PyProof.Rows L2
def Gd(p:Key×D):D:= .tup [Tn p.1,p.2]
noncomputable def NT(n:Nat)(o:Out D):Out D:=match o with
 | .ok d M=>match M[n]? with
  | some (.fd kvs)=> .ok d (M.set n (.dk kvs))
  | _=> .bad
 | _=> .bad
noncomputable def Ms(m:Nat)(js:List Nat)(g:Tg)(tt:MT)(te:ME)(e:Sl)(d:D)(M:Mem):Out D:=match d with
 | .ref n=>match M[n]? with
  | some (.dk kvs)=>NT n (Dn none g m tt te (qP js e) (kvs.map Gd) [] (M.set n (.fd kvs)))
  | _=> .bad
 | _=> .bad
def Vi(m:Nat)(js:List Nat)(mo:ME)(g:Tg)(tt:MT)(te:ME):ME:=λe M=>(mo e M).bind λd M1=>Ms m js g tt te e d M1
section
variable{X:Cx}{ct:Nat->Addr}{W:bC}{pos:Pos}
theorem pairs_at{K:Frag}{ι:Nat->Addr}{n:Nat}{H:Hp}:∀{kvs:List (Key×D)} {ys:List (Key×V)},xq K ct ι n H kvs ys->∀{i:Nat} {p:Key×V},ys[i]? = some p->∃q,kvs[i]? = some q/\q.1=p.1/\DV K ct ι n H q.2 p.2
 | _,_,.nil,_,_,h=>by simp at h
 | _,_,.cons (d:=d) r t,0,_,h=>by simp at h;subst h;exact⟨(_,d),rfl,rfl,r⟩
 | _,_,.cons r t,i+1,_,h=>by
  obtain⟨q,h1,h2⟩:=pairs_at t (i:=i) (by simpa using h)
  exact⟨q,by simpa using h1,h2⟩
theorem aan(hc:X.calm=true)(xs cs:List Str)(js:List Nat)(ho:SE X ct W o mo)(hcap:uv X scope cs js)
  (hg:∀cl C fp s H,SN (dz X scope cl C (xs++cs) fp s H) ct xs.length (.Tuple es kt tp) g) (ht:∀cl C fp s H,STs (dz X scope cl C (xs++cs) fp s H) ct W0 ifs tt) (he:∀cl C fp s H,SE (dz X scope cl C (xs++cs) fp s H) ct W0 elt te)
  (hall:∀y∈scope.names,y.2= .free->y.1∈cs) (hcell:∀y∈scope.names,y.2≠ .cell) (hnames:∀y∈scope.names,y.2= .local->scope.names.lookup y.1=some .local)
  (hbase:attributeBase o "items" X.env (eval o X.env)=eval o X.env:=by rfl) (hline:(apos.endLine==pos1.line)=true:=by rfl)
  (hkind:scope.kind= .function:=by rfl) (hs:∀v,foldedSetIterable (.Call (.Attribute o "items" apos) [] [] pos1) X.env v=pure v:=by intro _;rfl):
  SE X ct W (.ListComp elt [⟨.Tuple es kt tp,.Call (.Attribute o "items" apos) [] [] pos1,ifs,0⟩] scope pos) (Vi xs.length js mo g tt te):=by
 refine dY (adU (aa7 (g:=tTN X.K ct xs.length g) (tt:=tG Hu X.K ct W0 tt) (te:=tG (dh X.K ct) X.K ct W0 te) hc xs cs js (aaW (aa_ PySem.F.plainAttrs_dict PySem.F.slot_dict_items PySem.F.type_dict_items abl ho hbase hline)) hcap (λcl C fp s H=>ht cl C fp s H) (λcl C fp s H=>he cl C fp s H) hall hcell hnames (λcl C fp s H=>hg cl C fp s H) hkind hs)) λσ H Q q=> ?_
 obtain⟨ι,e,M,w,p⟩:=bR (d7:=dh X.K ct) (f:=λd e M1=>Ms xs.length js g tt te e d M1) q
 refine⟨ι,e,M,w,p.mono ?_⟩
 rintro v H1 ⟨cB,e1,M1,d,w1,q1,p1⟩
 replace p1:gj (dh X.K ct) X.K ct (wAt W σ) cB M1.length H1 (Ms xs.length js g tt te e1 d M1) Q:=p1
 unfold Ms at p1
 split at p1
 ·rename_i n
  split at p1
  ·rename_i kvs hM
   obtain⟨hn,rfl⟩:=nW q1
   obtain⟨ys,hH,pv⟩:=w1.rl.obj n _ hM
   have hkl:ys.length=kvs.length:=pv.length
   refine⟨.inr (.inr (.inl ⟨rfl,.inl ⟨ys,hH⟩⟩)),_,rfl,rfl,.inl ⟨ys,.inl hH⟩,λvw hvw=> ?_⟩
   have nev:cB n≠vw:=λz=>by rw[z,hvw]at hH;cases hH
   have xv:Ext X.K cB M1.length H1 cB M1.length (upd H1 vw (Kq vw (cB n))):=Ext.fresh hvw
   have rv:Rl X.K ct cB M1 (upd H1 vw (Kq vw (cB n))):=w1.rl.fresh hvw
   obtain⟨Hv,hHv⟩:∃Hv,Hv=upd H1 vw (Kq vw (cB n)):=⟨_,rfl⟩
   rw[<-hHv]at xv rv
   have hHd:Hv (cB n)=some (.dK ys):=by rw[hHv,aL nev];exact hH
   have pvv:xq X.K ct cB M1.length Hv kvs ys:=pv.mono xv
   have wv:Ws X.K ct cB e1 M1 σ Hv:=w1.ext xv rv
   have pv1:=p1.ext xv
   rw[<-hHv]
   refine⟨vw,cB n,ys,rfl,by rw[hHv];exact bA,hHd,λo nf hlen=> ?_⟩
   obtain⟨Hz,hHz⟩:∃Hz,Hz=upd Hv (cB n) (.mK o (.dK ys)):=⟨_,rfl⟩
   have hzd:Hz (cB n)=some (.mK o (.dK ys)):=by rw[hHz];exact bA
   have x0:Ext X.K cB M1.length Hv cB M1.length Hz:=by rw[hHz];exact Ext.chg hHd (λ_ z=>nomatch z) (λ_ _ z=>nomatch z)
   have r0:Rl X.K ct cB (M1.set n (.fd kvs)) Hz:=by
    have:=rv.chg (o:= .mK o (.dK ys)) (x:= .fd kvs) hn hHd (λ_ z=>nomatch z) (λ_ _ z=>nomatch z) ⟨o,ys,bA,pvv.mono (by rw[<-hHz];exact x0)⟩
    rw[hHz];exact this
   have w0:Ws X.K ct cB e1 (M1.set n (.fd kvs)) σ Hz:=wv.ext (by rw[List.length_set];exact x0) r0
   rw[<-hHz]
   obtain⟨ds,hds⟩:∃ds,ds=kvs.map Gd:=⟨_,rfl⟩
   rw[<-hds]at pv1
   have hdl:ds.length=ys.length:=by rw[hds,zam,hkl]
   have fin:∀ι' M' H' ds' zs pp,Ext X.K cB M1.length Hz ι' M'.length H'->Rl X.K ct ι' M' H'->jo X.K ct ι' M'.length H' ds' zs->H' pp=none->gj (dh X.K ct) X.K ct (wAt W σ) cB M1.length Hv (NT n (.ok (.ref M'.length) (M'++[.lst ds']))) Q->
     ∃d o kvs,acO X d/\(upd H' pp (.lst zs)) d=some (.mK o (.dK kvs))/\Q (.ref pp) (upd (upd H' pp (.lst zs)) d (.dK kvs)):=λι' M' H' ds' zs pp x' r' dy hp p'=>by
    have hn':n<M'.length:=yA hn x'.le
    have en:ι' n=cB n:=x'.same n hn
    unfold NT at p'
    simp only[zad hn']at p'
    cases z:M'[n]? with
    | none=>simp only[z]at p';exact p'.elim
    | some y=>
     cases y with
     | fd ks=>
      simp only[z]at p'
      obtain⟨o',ys',h',pv'⟩:=r'.obj n _ z
      rw[en]at h'
      have npp:cB n≠pp:=λq=>by rw[q,hp]at h';cases h'
      have hd2:(upd H' pp (.lst zs)) (cB n)=some (.mK o' (.dK ys')):=by rw[aL npp];exact h'
      refine⟨cB n,o',ys',nf,hd2,?_⟩
      have x2:Ext X.K ι' M'.length H' (iK ι' M'.length pp) (M'.length+1) (upd H' pp (.lst zs)):=Ext.new hp
      have e2:(iK ι' M'.length pp) M'.length=pp:=by unfold iK;rw[if_pos rfl]
      have en2:(iK ι' M'.length pp) n=cB n:=by rw[x2.same n hn',en]
      have r2:Rl X.K ct (iK ι' M'.length pp) (M'++[.lst ds']) (upd H' pp (.lst zs)):=r'.new hp ⟨zs,bA,dy.mono x2⟩
      have ln2:(M'++[MO.lst ds']).length=M'.length+1:=by simp
      have hn2:n<(M'++[MO.lst ds']).length:=by rw[ln2];omega
      have R3:=r2.ac8 (i:=n) (kvs:=ks) hn2 (by rw[en2];exact hd2) (by rw[ln2];exact pv'.mono x2)
      rw[en2]at R3
      refine p' (iK ι' M'.length pp) (.ref pp) _ ?_ R3 ?_
      ·rw[List.length_set,ln2]
       rw[hHz]at x'
       exact acf hHd (x'.trans x2) hd2
      ·have q9:∀(k:Nat) (HH:Hp),M'.length<k->DV X.K ct (iK ι' M'.length pp) k HH (.ref M'.length) (.ref ((iK ι' M'.length pp) M'.length)):=λk HH hk=> .ref hk
       rw[e2]at q9
       exact q9 _ _ (by rw[List.length_set,ln2];omega)
     | _=>simp only[z]at p';exact p'.elim
   refine⟨λi m zs H'=>m=ds.length - i/\i<=ds.length/\zs.length<=i/\∃ι' M' ds',Ext X.K cB M1.length Hz ι' M'.length H'/\Rl X.K ct ι' M' H'/\jo X.K ct ι' M'.length H' ds' zs/\gj (dh X.K ct) X.K ct (wAt W σ) cB M1.length Hv (NT n (Dn none g xs.length tt te (qP js e1) (ds.drop i) ds' M')) Q,
    ⟨ds.length,by simp,Nat.zero_le _,zaa _,cB,M1.set n (.fd kvs),[],by rw[List.length_set];exact .refl,r0,.nil,by simpa using pv1⟩,?_⟩
   rintro i m zs H' ⟨rfl,hi,hy,ι',M',ds',x',r',dy,p'⟩
   have hq:H' (cB n)=some (.mK o (.dK ys)):=x'.fz _ _ _ hzd
   by_cases hlt:i<ds.length
   ·rw[List.drop_eq_getElem_cons hlt]at p'
    unfold Dn at p'
    rw[if_pos (show gh none M' from trivial)]at p'
    refine .inr ⟨⟨hq,()⟩,λZC H2=>ZC.length<=i+1/\∃gk M2 ds2,Ext X.K cB M1.length Hz gk M2.length H2/\Rl X.K ct gk M2 H2/\jo X.K ct gk M2.length H2 ds2 ZC/\gj (dh X.K ct) X.K ct (wAt W σ) cB M1.length Hv (NT n (Dn none g xs.length tt te (qP js e1) (ds.drop (i+1)) ds2 M2)) Q,?_,?_⟩
    ·rintro ZC H2 ⟨hl2,q2⟩
     exact⟨(),ds.length - (i+1),(),rfl,hlt,hl2,q2⟩
    ·rintro x H2 ⟨a,pr,ha,hpr,rfl,rfl⟩
     have x2:Ext X.K ι' M'.length H' ι' M'.length (upd H' a (.tup [kV pr.1,pr.2])):=Ext.fresh ha
     have r2:Rl X.K ct ι' M' (upd H' a (.tup [kV pr.1,pr.2])):=r'.fresh ha
     obtain⟨qr,hq1,hq2,hq3⟩:=pairs_at pvv hpr
     have dsi:ds[i]=Gd qr:=by
      have h3:ds[i]? = some (Gd qr):=by rw[hds,zal,hq1];rfl
      rw[zab hlt]at h3
      exact xI h3
     have xz:Ext X.K cB M1.length Hv ι' M'.length (upd H' a (.tup [kV pr.1,pr.2])):=(x0.trans x').trans x2
     have dv:DV X.K ct ι' M'.length (upd H' a (.tup [kV pr.1,pr.2])) ds[i] (.ref a):=by
      rw[dsi]
      refine .tup bA (.cons ?_ (.cons (hq3.mono xz) .nil))
      rw[hq2];exact Xg
     have w2:Ws X.K ct ι' (Gn xs.length++qP js e1) M' (Iw xs++L2.caps js σ) (upd H' a (.tup [kV pr.1,pr.2])):=(wv.ext xz r2).alc xs js
     refine⟨ι',_,M',ds[i],w2,dv,?_⟩
     cases zg:g ds[i] (Gn xs.length++qP js e1)with
     | none=>rw[zg]at p';exact p'.elim
     | some eg=>
     rw[zg]at p'
     dsimp only at p'
     intro σ' wg hd
     refine⟨⟨hd.1,by rw[hd.2];simp[Iw]⟩,ι',eg,M',wg,?_⟩
     cases z:tt eg M' with
     | bad=>simp only[z,J4,Out.b7]at p';exact p'
     | exc xc xd xM=>simp only[z,J3,Out.b7]at p';exact p'.elim
     | ok k M3=>
      simp only[z,yf,Out.bI]at p'
      intro Ds k3 H3 x3 r3 ek
      have L_:k=k3:=ek;subst L_
      have w3:=wg.ext x3 r3
      have dy3:=(dy.mono x2).mono x3
      cases k with
      | false=>exact⟨(),Ds,M3,ds',(x'.trans x2).trans x3,r3,dy3,p'⟩
      | true=>
       simp only[if_true]at p' ⊢
       refine⟨Ds,_,M3,w3,?_⟩
       cases z4:te eg M3 with
       | bad=>simp only[z4,J4,Out.b7]at p';exact p'
       | exc xc xd xM=>simp only[z4,J3,Out.b7]at p';exact p'.elim
       | ok yy M4=>
        simp only[z4,yf,Out.bI]at p'
        intro ι4 v4 H4 x4 r4 d4
        exact⟨by rw[List.length_append];simp;omega,ι4,M4,ds'++[yy],((x'.trans x2).trans x3).trans x4,r4,(dy3.mono x4).append (.cons d4 .nil),p'⟩
   ·have e0:i=ds.length:=()
    subst e0
    rw[List.drop_length]at p'
    unfold Dn at p'
    rw[if_pos (show gh none M' from trivial)]at p'
    exact .inl ⟨⟨hq,()⟩,(),λpp hp=>fin ι' M' H' ds' zs pp x' r' dy hp p'⟩
  ·exact p1.elim
 ·exact p1.elim
end
section
variable{e:Sl}{M:Mem}
@[simp] theorem aiF:Vi m js mo g tt te e M=(mo e M).bind λd M1=>Ms m js g tt te e d M1:=id rfl
theorem set_same(h:M[n]? = some o):M.set n o=M:=by
 refine List.ext_getElem? λi=> ?_
 have hn:n<M.length:=(List.getElem?_eq_some_iff.mp h).1
 by_cases z:n=i
 ·subst z
  rw[zai hn,h]
 ·rw[zah z]
theorem Zd(h:M[n]? = some (.dk kvs))(c:D->Bool)(f:D->D)(hh:∀d∈kvs.map Gd,∃e1,g d (Gn m++qP js e)=some e1/\∀M',tt e1 M'= .ok (c d) M'/\(c d=true->te e1 M'= .ok (f d) M')):
  Ms m js g tt te e (.ref n) M= .ok (.ref M.length) (M++[.lst (((kvs.map Gd).filter c).map f)]):=by
 have hn:n<M.length:=(List.getElem?_eq_some_iff.mp h).1
 simp only[Ms,h]
 rw[OJ (src:=none) c f trivial λd hd=>by obtain⟨e1,h1,h2⟩:=hh d hd;exact⟨e1,h1,(h2 _).1,(h2 _).2⟩]
 rw[List.nil_append]
 have e1:(M.set n (.fd kvs)++[MO.lst (((kvs.map Gd).filter c).map f)])[n]? = some (.fd kvs):=by
  rw[zad (by rw[List.length_set];exact hn),zai hn]
 simp only[NT,e1,List.length_set]
 rw[List.set_append_left _ _ (by rw[List.length_set];exact hn),List.set_set,set_same h]
end
end S
namespace L2
open PySem PySem.Spec PyProof.Rows
abbrev Dsc:=Nat×Str×Str×Stmt×List Str
abbrev jf(c:Nat)(n q:Str)(s:Stmt)(p:List Str):Dsc:=(c,n,q,s,p)
set_option genInjectivity false in
structure Fv where
 f:Addr
 oc:Value
 kV:Value
 dc:Value
 pm:Value
 cd:Value
 ct:Value
 od:Option Addr
 an:Option Addr
 sl:Array (Option Value)
def fv0:Fv:=⟨0,.none,.none,.none,.none,.none,.none,none,none,#[]⟩
noncomputable def d0:Dsc:=(0,"","",.Pass ⟨0,0,0,0⟩,[])
noncomputable def Fv.fd(x:Fv)(d:Dsc):FuncData:=fnOf d.2.1 d.2.2.1 (gf d.2.2.2.1) (dM d.2.2.2.1) (bu d.2.2.2.1) .none x.kV x.dc x.pm x.an x.cd x.ct
def Bd(nm qn:Str)(st:Stmt)(ps:List Str):Prop:=∀(kV doc pm:Value) (an:Option Addr) (cdv ct:Value) (us:List Value),us.length=ps.length->bindArgs (fnOf nm qn (gf st) (dM st) (bu st) .none kV doc pm an cdv ct) ⟨us,[]⟩=pure (ps.zip us)
structure alG(K:Frag)(cls:Nat->Addr)(d:Dsc)(x:Fv):Prop where
 a0:(d.1==0)=true->nsIn K mainGlobals d.2.1=some (some (.ref x.f))
 a1:(d.1==0)=false->findIn K (.ref (cls (d.1 - 1))) d.2.1=some (some (.ref x.f))/\isFn K (.ref x.f)=true
 lk:K.lookup x.f=some ⟨x.oc,x.od,.func (x.fd d),x.sl⟩
 cd:codeIn K x.cd d.2.2.1=true
 kp:keepIn K (.ref x.f)=true
 bd:Bd d.2.1 d.2.2.1 d.2.2.2.1 d.2.2.2.2
def Q9(K:Frag)(cls:Nat->Addr):List Dsc->List Fv->Prop
 | [],[]=>True
 | d::ds,x::xs=>alG K cls d x/\Q9 K cls ds xs
 | _,_=>False
section
variable{K:Frag}{cls:Nat->Addr}
theorem Q9.ok:∀{ds:List Dsc} {xs:List Fv},Q9 K cls ds xs->∀{i:Nat},Nat.blt i ds.length=true->alG K cls (ds.getD i d0) (xs.getD i fv0)
 | [],_,_,i,hi=>by
  rw[Nat.blt_eq]at hi
  exact absurd hi (Nat.not_lt_zero _)
 | _::_,[],h,_,_=>h.elim
 | d::ds,x::xs,h,0,_=>h.1
 | d::ds,x::xs,h,i+1,hi=>by
  rw[Nat.blt_eq]at hi
  exact Q9.ok h.2 (by rw[Nat.blt_eq];simpa using hi)
theorem aeH:∃xs,Q9 K cls [] xs:=⟨[],trivial⟩
theorem ah3{nm:Str}{st:Stmt}{ps:List Str}{ds:List Dsc}{f:Addr}{oc kV dc pm cd ct:Value}{od an:Option Addr}{sl:Array (Option Value)}(h1:nsIn K mainGlobals nm=some (some (.ref f)))
  (h2:K.lookup f=some ⟨oc,od,.func (fnOf nm nm (gf st) (dM st) (bu st) .none kV dc pm an cd ct),sl⟩) (h3:codeIn K cd nm=true) (h4:keepIn K (.ref f)=true) (hb:Bd nm nm st ps) (r:∃xs,Q9 K cls ds xs):∃xs,Q9 K cls ((0,nm,nm,st,ps)::ds) xs:=
 let⟨xs,h⟩:=r
 ⟨⟨f,oc,kV,dc,pm,cd,ct,od,an,sl⟩::xs,⟨λ_=>h1,(λz=>nomatch z),h2,h3,h4,hb⟩,h⟩
theorem ah2{c:Nat}{nm qn:Str}{st:Stmt}{ps:List Str}{ds:List Dsc}{C f:Addr}{oc kV dc pm cd ct:Value}{od an:Option Addr}{sl:Array (Option Value)}(hC:cls c=C)(h1:findIn K (.ref C) nm=some (some (.ref f)))(h0:isFn K (.ref f)=true)
  (h2:K.lookup f=some ⟨oc,od,.func (fnOf nm qn (gf st) (dM st) (bu st) .none kV dc pm an cd ct),sl⟩) (h3:codeIn K cd qn=true) (h4:keepIn K (.ref f)=true) (hb:Bd nm qn st ps) (r:∃xs,Q9 K cls ds xs):∃xs,Q9 K cls ((c+1,nm,qn,st,ps)::ds) xs:=
 let⟨xs,h⟩:=r
 ⟨⟨f,oc,kV,dc,pm,cd,ct,od,an,sl⟩::xs,⟨(λz=>nomatch z),λ_=>⟨by rw[Nat.add_sub_cancel,hC];exact h1,h0⟩,h2,h3,h4,hb⟩,h⟩
variable{ds:List Dsc}{xs:List Fv}
theorem Q9.fn(h:Q9 K cls ds xs)(hi:Nat.blt i ds.length=true):zE K (ds.getD i d0).2.1 (ds.getD i d0).2.2.1 (ds.getD i d0).2.2.2.1 .none (xs.getD i fv0).f ((xs.getD i fv0).fd (ds.getD i d0)):=yF (h.ok hi).lk (h.ok hi).cd (h.ok hi).kp
theorem Q9.b(h:Q9 K cls ds xs)(hi:Nat.blt i ds.length=true):Binds K ((xs.getD i fv0).fd (ds.getD i d0)) (ds.getD i d0).2.2.2.2 []:=(h.fn hi).binds (h.ok hi).bd
theorem Q9.me(h:Q9 K cls ds xs)(hi:Nat.blt i ds.length=true)(h1:((ds.getD i d0).1==0)=false):Meth K (cls ((ds.getD i d0).1 - 1)) (ds.getD i d0).2.1 (xs.getD i fv0).f:=
 ⟨((h.ok hi).a1 h1).1,((h.ok hi).a1 h1).2,(h.ok hi).kp⟩
theorem Q9.mk(h:Q9 K cls ds xs)(hi:Nat.blt i ds.length=true)(h1:((ds.getD i d0).1==0)=false)(hn:(ds.getD i d0).2.1= "__init__")(hC:cls ((ds.getD i d0).1 - 1)=C)(m:PySem.W.makesIn K C=true)(k:keepIn K (.ref C)=true):Mk K C (xs.getD i fv0).f:=
 ⟨m,by rw[<-hC,<-hn];exact((h.ok hi).a1 h1).1,((h.ok hi).a1 h1).2,k⟩
def BR(K:Frag)(C:Addr):List Str->Prop
 | []=>True
 | a::l=>vZ K C a/\BR K C l
theorem BR.get:∀{l:List Str},BR K C l->∀{i:Nat},Nat.blt i l.length=true->vZ K C (l.getD i "")
 | [],_,i,hi=>by
  rw[Nat.blt_eq]at hi
  exact absurd hi (Nat.not_lt_zero _)
 | a::l,h,0,_=>h.1
 | a::l,h,i+1,hi=>by
  rw[Nat.blt_eq]at hi
  exact BR.get h.2 (by rw[Nat.blt_eq];simpa using hi)
theorem Ar:BR K C []:=trivial
theorem wI(h:findIn K (.ref C) a=some none)(r:BR K C l):BR K C (a::l):=⟨h,r⟩
end
noncomputable def MF(b:Int):List Int->Int
 | []=>b
 | n::l=>MF (if n > b then n else b) l
def maxD(d:Int):List Int->Int
 | []=>d
 | n::l=>MF n l
section
variable{prog:Program}{w:World}{A:Around}{R:Result->Shared->Prop}{I l S:Addr}{vs:List Value}{ns:List Int}{kw:List (Str×Value)}
theorem Gv:(toString "max" ++ toString ".loop" : String)= "max.loop" := by decide
theorem Xj(hr:Vals (ns.map V.int) vs){j:Nat}{n:Int}(h:ns[j]? = some n):∃t,vs.toArray[j]? = some (.int n t):=by
 obtain⟨u,hu,ru⟩:=hr.get (i:=j) (x:=V.int n) (by rw[zal,h];rfl)
 obtain⟨t,rfl⟩:=ru
 exact⟨t,by simpa using hu⟩
theorem aeA{Q:Value->Shared->Prop}{E:Value->Shared->Prop}(h:Q (.bool (decide (a > b))) s):wpAny (model prog w) A (richCompare .Gt (.int a t) (.int b u)) Q E s:=
 CmpOf.ints_gt (P:=λi v=>(i=0/\v= .int a t)\/(i=1/\v= .int b u)) (λi=>if i=0 then a else b) (λi v z=>by
  rcases z with⟨rfl,rfl⟩ | ⟨rfl,rfl⟩
  ·exact⟨t,rfl⟩
  ·exact⟨u,rfl⟩) 0 1 _ _ s Q E (.inl ⟨rfl,rfl⟩) (.inr ⟨rfl,rfl⟩) h
theorem YG(hh:A.handled=none)(hr:Vals (ns.map V.int) vs)(hlI:l≠I)(hlS:l≠S)(hIS:I≠S):∀(k j:Nat) (s:Shared) (b:Int) (tb:Tok) (c:Nat),j+k=ns.length->s.heap.IsListIter I l j->s.heap.IsList l vs.toArray->
      s.heap.get? S=some {cls:= .type "list",dict:=none,data:= .seq #[.int b tb,.int b tb] c,slots:= #[]}->
   (∀(t:Tok) (h':Heap),(∀x o,x≠I->x≠S->s.heap.get? x=some o->h'.get? x=some o)->R (.ok (.ret (.int (MF b (ns.drop j)) t))) {s with heap:=h'})->
   codeAny (model prog w) A (.builtin "max.loop" ⟨[.ref I,.none,.ref S],kw⟩) R s:=by
 intro k
 induction k with
 | zero=>
  intro j s b tb c hk hit hl hS hR
  have hj:j=ns.length:=()
  have hz:vs.length=ns.length:=by rw[<-hr.length,zam]
  refine codeAny_builtin PySem.F.entry_max_loop (by
   rw[Around.under_plainId PySem.F.plain_max_loop]
   show wpAny _ A.in1 (seqItems? (.ref S) >>= _) _ _ s
   refine zC (wpAny_seqItems hS rfl ?_)
   show wpAny _ A.in1 (tryCatch (pyNext (.ref I)) _ >>= _) _ _ s
   refine zC (wpAny_tryCatch (wpAny_pyNext_list_end (A:=A.in1) hh hit hl (by simp;omega) λh1 e1=> ?_))
   have hS1:=e1 S _ (Ne.symm hIS) hS
   show wpAny _ A.in1 (updateSeq S (λ_=> #[]) >>= _) _ _ {s with heap:=h1}
   refine zC (wpAny_updateSeq (s:={s with heap:=h1}) hS1 rfl (zC (wpAny_letGo (zI ?_))))
   have e0:ns.drop j=[]:=by rw[hj];exact List.drop_length
   have:=hR tb (h1.update S (Obj.mapSeq λ_=> #[])) λx o nI nS e=>(xL _ _ (Ne.symm nS)).trans (e1 x o nI e)
   rw[e0]at this
   exact this)
 | succ k ih=>
  intro j s b tb c hk hit hl hS hR
  have hlt:j<ns.length:=()
  have hn:ns[j]? = some ns[j]:=zab hlt
  obtain⟨t,hv⟩:=Xj hr hn
  have ed:ns.drop j=ns[j]::ns.drop (j+1):=List.drop_eq_getElem_cons hlt
  refine codeAny_builtin PySem.F.entry_max_loop (by
   rw[Around.under_plainId PySem.F.plain_max_loop]
   show wpAny _ A.in1 (seqItems? (.ref S) >>= _) _ _ s
   refine zC (wpAny_seqItems hS rfl ?_)
   show wpAny _ A.in1 (tryCatch (pyNext (.ref I)) _ >>= _) _ _ s
   refine zC (wpAny_tryCatch (wpAny_pyNext_list_item hit hl hv λh1 hit1 sb1=> ?_))
   have k1:∀x o,x≠I->s.heap.get? x=some o->h1.get? x=some o:=λx o nI e=>(sb1.2 x nI).trans e
   have hS1:=k1 S _ (Ne.symm hIS) hS
   have hl1:h1.IsList l vs.toArray:=hl.at λo e=>k1 l o hlI e
   show wpAny _ A.in1 (tryCatch (holding [.int ns[j] t,.int ns[j] t] (richCompare .Gt (.int ns[j] t) (.int b tb) >>= _)) _ >>= _) _ _ {s with heap:=h1}
   refine zC (wpAny_tryCatch (wpAny_holding (zC (aeA (s:={s with heap:=h1}) ?_))))
   refine zC (wpAny_holding (wpAny_truthy_bool (zC (wpAny_letGo (zI ?_)))))
   by_cases z:ns[j] > b
   ·rw[zaf z]
    simp only[if_true]
    refine zC (wpAny_updateSeq (s:={s with heap:=h1}) hS1 rfl (zC (wpAny_letGo ?_)))
    rw[Gv]
    have k2:∀x o,x≠S->h1.get? x=some o->(h1.update S (Obj.mapSeq λ_=> #[.int ns[j] t,.int ns[j] t])).get? x=some o:=λx o nS e=>(xL _ _ (Ne.symm nS)).trans e
    refine zI ⟨plainId_quiet PySem.F.plain_max_loop _,ih (j+1) _ ns[j] t _ () (hit1.at λo e=>k2 I o hIS e) (hl1.at λo e=>k2 l o hlS e) (vF _ hS1 rfl) λt' h' kk=> ?_⟩
    have:=hR t' h' λx o nI nS e=>kk x o nI nS (k2 x o nS (k1 x o nI e))
    rw[ed,MF,if_pos z]at this
    exact this
   ·rw[zae z]
    simp only[Bool.false_eq_true,if_false]
    refine zC (wpAny_letGo ?_)
    rw[Gv]
    refine zI ⟨plainId_quiet PySem.F.plain_max_loop _,ih (j+1) _ b tb c () hit1 hl1 hS1 λt' h' kk=> ?_⟩
    have:=hR t' h' λx o nI nS e=>kk x o nI nS (k1 x o nI e)
    rw[ed,MF,if_neg z]at this
    exact this)
theorem abr(a v:Value):argsOk "max" ⟨[a],[(Str.ofString "default",v)]⟩:=by unfold argsOk;kernel_rfl
theorem YH{Q:Value->Shared->Prop}{E:Value->Shared->Prop}(hh:A.handled=none)(hr:Vals (ns.map V.int) vs)(hl:s.heap.IsList l vs.toArray)
  (hQ:∀(t:Tok) (h':Heap),(∀x o,s.heap.get? x=some o->h'.get? x=some o)->Q (.int (maxD d ns) t) {s with heap:=h'}):wpAny (model prog w) A (call (.builtin "max") [.ref l] [(Str.ofString "default",.int d td)]) Q E s:=by
 obtain⟨ol,hol,_⟩:=id hl
 have hll:l<s.heap.objs.size:=zS hol
 refine kmk_tree PySem.F.kind_max PySem.F.plain_max PySem.F.entry_max (abr _ _) ?_
 refine zC (wpAny_of_eq (show Builtin.Builtins.bindParams "max" ["key","default"] 0 ⟨[],[(Str.ofString "default",.int d td)]⟩=pure [none,some (.int d td)]from rfl) ?_)
 refine zC (zI (zC (wpAny_pyIter_list hl ?_)))
 refine zC (wpAny_newList ?_ (Nat.zero_le _))
 rw[Gv]
 obtain⟨h1,e1⟩:∃h1,h1=s.heap.push {cls:= .type "list_iterator",data:= .fields #[.ref l,.int 0 0]}:=⟨_,rfl⟩
 obtain⟨h2,e2⟩:∃h2,h2=h1.push {cls:= .type "list",data:= .seq ([]:List Value).toArray}:=⟨_,rfl⟩
 have z1:h1.objs.size=s.heap.objs.size+1:=by rw[e1,Heap.size_push]
 have g:∀x o,s.heap.get? x=some o->h2.get? x=some o:=λx o e=>by rw[e2,e1];exact zD _ (zD _ e)
 have hI:h2.get? s.heap.objs.size=some {cls:= .type "list_iterator",data:= .fields #[.ref l,.int 0 0]}:=by rw[e2,e1];exact zD _ (yB _ rfl)
 have hS:h2.get? h1.objs.size=some {cls:= .type "list",dict:=none,data:= .seq #[] 0,slots:= #[]}:=by rw[e2];exact yB _ rfl
 have hit:h2.IsListIter s.heap.objs.size l 0:=⟨_,hI,rfl,rfl⟩
 have hl2:h2.IsList l vs.toArray:=hl.at λo e=>g l o e
 have hlI:l≠s.heap.objs.size:=xD hll
 have hlS:l≠h1.objs.size:=by rw[z1];exact xD (Nat.lt_succ_of_lt hll)
 have hIS:s.heap.objs.size≠h1.objs.size:=by rw[z1];exact xD (Nat.lt_succ_self _)
 have old:∀{x:Addr} {o:Obj},s.heap.get? x=some o->x≠s.heap.objs.size/\x≠h1.objs.size:=λ{x o} e=>by
  have q:x<s.heap.objs.size:=zS e
  exact⟨xD q,by rw[z1];exact xD (Nat.lt_succ_of_lt q)⟩
 rw[<-e1,<-e2]
 refine zI ⟨plainId_quiet PySem.F.plain_max_loop _,codeAny_builtin PySem.F.entry_max_loop (by
  rw[Around.under_plainId PySem.F.plain_max_loop]
  show wpAny _ A.in1 (seqItems? (.ref h1.objs.size) >>= _) _ _ {s with heap:=h2}
  refine zC (wpAny_seqItems (s:={s with heap:=h2}) hS rfl ?_)
  show wpAny _ A.in1 (tryCatch (pyNext (.ref s.heap.objs.size)) _ >>= _) _ _ {s with heap:=h2}
  have hz:vs.length=ns.length:=by rw[<-hr.length,zam]
  match ns,hr,hz,hQ with
  | [],hr,hz,hQ=>
   refine zC (wpAny_tryCatch (wpAny_pyNext_list_end (A:=A.in1) (s:={s with heap:=h2}) hh hit hl2 (by simp;simpa using hz) λh3 e3=> ?_))
   exact zC (wpAny_rule (zI (hQ td h3 λx o e=>e3 x o (old e).1 (g x o e))))
  | n::r,hr,hz,hQ=>
   obtain⟨t,hv⟩:=Xj (j:=0) (n:=n) hr rfl
   refine zC (wpAny_tryCatch (wpAny_pyNext_list_item (s:={s with heap:=h2}) hit hl2 hv λh3 aon sb3=> ?_))
   have k3:∀x o,x≠s.heap.objs.size->h2.get? x=some o->h3.get? x=some o:=λx o nI e=>(sb3.2 x nI).trans e
   have hS3:=k3 _ _ (Ne.symm hIS) hS
   show wpAny _ A.in1 (updateSeq h1.objs.size (λ_=> #[.int n t,.int n t]) >>= _) _ _ {s with heap:=h3}
   refine zC (wpAny_updateSeq (s:={s with heap:=h3}) hS3 rfl ?_)
   rw[Gv]
   have k4:∀x o,x≠h1.objs.size->h3.get? x=some o->(h3.update h1.objs.size (Obj.mapSeq λ_=> #[.int n t,.int n t])).get? x=some o:=λx o nS e=>(xL _ _ (Ne.symm nS)).trans e
   refine zI ⟨plainId_quiet PySem.F.plain_max_loop _,YG hh hr hlI hlS hIS r.length 1 _ n t _ (by simp;omega) (aon.at λo e=>k4 _ o hIS e) ((hl2.at λo e=>k3 l o hlI e).at λo e=>k4 l o hlS e) (vF _ hS3 rfl) λt' h' kk=> ?_⟩
   exact hQ t' h' λx o e=>kk x o (old e).1 (old e).2 (k4 x o (old e).2 (k3 x o (old e).1 (g x o e))))⟩
end
section
variable{X:Cx}
def afA(K:Frag):R2:=λx y H Q=>∃l ns d,x= .ref l/\y= .int d/\rZ K H l (ns.map V.int)/\Q (.int (maxD d ns)) H
theorem adV(hc:X.calm=true)(hg:Gl X "max")(hm:X.mg "max" = none)(ha:PE X a ta)(hb:PE X b tb)
  (he:backTo pos (starEach [a] X.env)=(false,eval a X.env)::backTo pos (starEach [] X.env):=by rfl) (hs:starEach [a] X.env=(false,eval a X.env)::starEach [] X.env:=by rfl) (hplain:(backTo pos (starEach [a] X.env)).any (·.1)=false:=by rfl)
  (hall:(backToKw pos (keywordEach [⟨some "default",b,kp⟩] X.env)).all (·.1.isSome)=true:=by rfl) (hkw:(backToKw pos (keywordEach [⟨some "default",b,kp⟩] X.env)).any (·.1.isNone)=false:=by rfl)
  (hnm:(backToKw pos (keywordEach [⟨some "default",b,kp⟩] X.env)).filterMap (·.1)=[("default" : Str)]:=by rfl):PE X (.Call (.Name "max" p) [a] [⟨some "default",b,kp⟩] pos) (tOp (afA X.K) ta tb):=by
 intro pins s σ H Q I h
 refine wpAny_Call_Name_kw (HN I hg hm Ia (callWith_kw ?_ he hplain hall hkw))
 rw[hs]
 show wpAny _ _ (spliced ((false,eval a X.env)::backTo pos (starEach [] X.env))) _ _ s
 refine Calls.spliced_cons (fU (ha pins s σ H _ I h) ?_)
 rintro u s1 ⟨x,H1,I1,r1,q1⟩
 refine Calls.spliced_nil ?_
 refine kws_cons (fU (hb pins s1 σ H1 _ I1 q1) ?_)
 rintro u2 s2 ⟨y,H2,I2,r2,q2⟩
 refine kws_nil ?_
 rw[hnm]
 obtain⟨l,ns,d,rfl,rfl,hq,q⟩:=q2
 obtain⟨t,rfl⟩:=r2
 cases(show u=Value.ref l from r1)
 obtain⟨its,rv,pl,hz⟩:=I2.list hq
 exact YH (A:=X.A) (I2.ok.hd hc) rv pl.isList λt' h' kk=>⟨.int _,H2,I2.kept (t':=s2.toks) kk,⟨t',rfl⟩,q⟩
end
end L2
namespace S
open PySem PySem.Spec PyProof.Rows L2
noncomputable def K1:su:=λd e M=>match d,e with
 | .ref n,.int k=>match qK M n with
  | some es=>match kO es with
   | some is=> .ok (.int (maxD k is)) M
   | none=> .bad
  | none=> .bad
 | _,_=> .bad
section
variable{X:Cx}{ct:Nat->Addr}{W:bC}
theorem ad2:Q8 X.K ct K1 (afA X.K):=by
 intro w ι M H d d' v v' Q R h h' p
 unfold K1 at p
 split at p
 ·rename_i n k
  obtain⟨hn,rfl⟩:=nW h
  cases pN h'
  split at p
  ·rename_i es z
   split at p
   ·rename_i is zi
    obtain⟨ys,hH,dy⟩:=R.obj n _ (jh.mp z)
    have e:=oV zi dy
    subst e
    exact⟨_,is,k,rfl,rfl,rZ.of hH,p ι _ H .refl R (.int _)⟩
   ·exact p.elim
  ·exact p.elim
 ·exact p.elim
theorem adq(hc:X.calm=true)(hg:Gl X "max")(hm:X.mg "max" = none)(ha:SE X ct W a ma)(hb:SE X ct W b mb)
  (he:backTo pos (starEach [a] X.env)=(false,eval a X.env)::backTo pos (starEach [] X.env):=by rfl) (hs:starEach [a] X.env=(false,eval a X.env)::starEach [] X.env:=by rfl) (hplain:(backTo pos (starEach [a] X.env)).any (·.1)=false:=by rfl)
  (hall:(backToKw pos (keywordEach [⟨some "default",b,kp⟩] X.env)).all (·.1.isSome)=true:=by rfl) (hkw:(backToKw pos (keywordEach [⟨some "default",b,kp⟩] X.env)).any (·.1.isNone)=false:=by rfl)
  (hnm:(backToKw pos (keywordEach [⟨some "default",b,kp⟩] X.env)).filterMap (·.1)=[("default" : Str)]:=by rfl):SE X ct W (.Call (.Name "max" p) [a] [⟨some "default",b,kp⟩] pos) (aC K1 ma mb):=
 dY (adV hc hg hm ha hb he hs hplain hall hkw hnm) λσ H Q q=>Kz ad2 q
end
theorem Yk(h:M[n]? = some (.lst (is.map D.int))):K1 (.ref n) (.int k) M= .ok (.int (maxD k is)) M:=by
 simp only[K1,dD h,Dv]
end S
namespace L2
open PySem PySem.Spec PyProof.Rows
open PySem.MeetsSeq PySem.MeetsSeq2 PySem.MeetsSeq3
section
variable{prog:Program}{w:World}{A:Around}{E:Value->Shared->Prop}{s:Shared}
theorem GR{items:Array Value}{lo hi:Option Int}{Q:Value->Shared->Prop}(ht:IsTup s.heap t items)(hs:s.heap.IsSliceOf sl vl vu .none)(pl:IsPart vl lo)(pu:IsPart vu hi)
  (hw:HT.a_ items.size 0 lo=0/\HT.a_ items.size items.size hi=items.size) (h:Q (.ref t) s):wpAny (model prog w) A (getItem (.ref t) (.ref sl)) Q E s:=by
 obtain⟨os,hos,hcs,hds⟩:=id hs
 have hTs:s.TypeIs (.ref sl) "slice" := ⟨os,hos,hcs⟩
 unfold getItem
 try with_reducible refine wpAny_holding ?_
 first | refine zC (zI ?_) | skip
 refine zC (wpAny_sequenceKey ht.typeIs (by decide) ?_)
 refine zC (zag (name:=Str.ofString "__getitem__") ht.typeIs PyProof.Rows.slot_tuple_getitem
  (uS PyProof.Rows.slot_tuple_getitem ht.typeIs entry_tuple_getitem ?_ (args_tuple_getitem _ _)))
 show wpAny _ _ (Builtin.Tuple.tupleItemsOf (.ref t) >>= _) _ _ s
 refine zC (tupleItemsOf_ ht ?_)
 refine zC (wpAny_typeOf hTs ?_)
 rw[if_pos (by decide)]
 refine zC (HT.v_ hs pl pu ?_)
 have yes:(((HT.a_ items.size 0 lo:Nat):Int)==0&&(1:Int)==1&&(HT.a_ items.size items.size hi - HT.a_ items.size 0 lo)==items.size)=true:=by
  rw[hw.1,hw.2];simp
 show wpAny _ _ (if(((HT.a_ items.size 0 lo:Nat):Int)==0&&(1:Int)==1&&(HT.a_ items.size items.size hi - HT.a_ items.size 0 lo)==items.size)=true then _ else _) _ _ s
 rw[if_pos yes]
 refine zC ?_
 unfold Builtin.Tuple.tupleIsExact
 refine zC (wpAny_typeOf ht.typeIs ?_)
 refine zI ?_
 rw[if_pos (by decide)]
 refine zC (wpAny_rule ?_)
 exact zI ⟨_,rfl,zI h⟩
end
section
variable{X:Cx}
def anz(K:Frag):V->Option Int->Option Int->Hp->VK->Prop:=λx lo hi H Q=>∃a xs,x= .ref a/\nu K H a xs/\
 (HT.a_ xs.length 0 lo=0/\HT.a_ xs.length xs.length hi=xs.length)/\Q (.ref a) H
theorem agh:SlR X (anz X.K):=by
 intro pins s σ H x v vl vu lo hi sl Q I rx hs pl pu h
 obtain⟨a,xs,rfl,hx,hw,q⟩:=h
 cases rx
 obtain⟨its,r,ht,hz⟩:=I.tuple hx
 have hlen:its.toArray.size=xs.length:=by rw[List.size_toArray];exact r.length.symm
 refine⟨"tuple",_,PyProof.Rows.slot_tuple_getitem.lookup,ht.typeIs,?_⟩
 exact GR ht hs pl pu (by rw[hlen];exact hw) ⟨.ref a,H,I,rfl,q⟩
end
end L2
namespace S
open PySem PySem.Spec PyProof.Rows L2
section
variable{X:Cx}{ct:Nat->Addr}{W:bC}{a:Expr}{ma:ME}{pos:Pos}
noncomputable def aas(d:D)(lo hi:Option Int)(M:Mem):Out D:=match d with
 | .tup ds=> .ok (.tup (cut ds lo hi)) M
 | _=> .bad
theorem XH{α:Type}{xs:List α}{lo hi:Option Int}(h:HT.a_ xs.length 0 lo=0/\HT.a_ xs.length xs.length hi=xs.length):cut xs lo hi=xs:=by
 unfold cut
 rw[h.1,h.2]
 simp
noncomputable def YJ(m:ME)(lo hi:MO'):ME:=λe M=>(m e M).bind λd M1=>(lo e M1).bind λl M2=>(hi e M2).bind λh M3=>aas d l h M3
theorem Px{lo hi:Option Expr}{ml mh:MO'}(ha:SE X ct W a ma)(hl:SO X ct W lo ml)(hh:SO X ct W hi mh):SE X ct W (.Subscript a (.Slice lo hi none p2) pos) (YJ ma ml mh):=by
 refine dY (Sv (aai.or agh) ha hl hh) λσ H Q q=> ?_
 obtain⟨ι,e,M,w,p⟩:=bR (d7:=dh X.K ct) (f:=λd e M1=>(ml e M1).bind λl M2=>(mh e M2).bind λh M3=>aas d l h M3) q
 refine⟨ι,e,M,w,p.mono ?_⟩
 rintro v H1 ⟨cB,e1,M1,d,w1,q1,p1⟩
 refine⟨cB,e1,M1,w1,?_⟩
 cases z:ml e1 M1 with
 | bad=>simp only[z,Out.b7]at p1;exact p1
 | exc xc xd xM=>simp only[z,Out.dU]at p1;exact p1
 | ok l M2=>
  simp only[z,Out.bI]at p1
  intro gk l' H2 x2 r2 el
  have L_:l=l':=el;subst L_
  refine⟨gk,e1,M2,w1.ext x2 r2,?_⟩
  have p2:=p1.ext x2
  cases z2:mh e1 M2 with
  | bad=>simp only[z2,Out.b7]at p2;exact p2
  | exc xc xd xM=>simp only[z2,Out.dU]at p2;exact p2
  | ok h M3=>
   simp only[z2,Out.bI]at p2
   intro Ds h' H3 x3 r3 eh
   have L_:h=h':=eh;subst L_
   have p3:=p2.ext x3
   have q3:=(q1.mono x2).mono x3
   cases d with
   | tup ds=>
    obtain⟨aa,xs,rfl,hs,hd⟩:=QK q3
    simp only[aas]at p3
    by_cases hw:HT.a_ ds.length 0 l=0/\HT.a_ ds.length ds.length h=ds.length
    ·rw[XH hw]at p3
     exact .inr ⟨_,_,rfl,hs,by rw[hd.length];exact hw,p3 Ds _ H3 .refl r3 q3⟩
    ·exact .inl ⟨_,_,rfl,hs,by rw[hd.length];exact hw,λpp hp=>Ga r3 (hd.cut l h) hp p3⟩
   | _=>exact p3.elim
@[simp] theorem amb{lo hi:MO'}:YJ m lo hi e M=(m e M).bind (bd3 aas lo hi e):=id rfl
@[simp] theorem aju{ds:List D}{lo hi:Option Int}:aas (.tup ds) lo hi M= .ok (.tup (cut ds lo hi)) M:=id rfl
end
end S
namespace L2
open PySem PySem.Spec PyProof.Rows
open PySem.MeetsSeq PySem.MeetsSeq2 PySem.MeetsSeq3 PySem.SeqAt
section
variable{prog:Program}{w:World}{A:Around}{E:Value->Shared->Prop}{s:Shared}
theorem acw{ws:List Value}{Q:Value->Shared->Prop}(ht:IsTup s.heap t ([]:List Value).toArray)(hb:IsTup s.heap b ws.toArray)(h:Q (.ref b) s):wpAny (model prog w) A (binaryOp .Add (.ref t) (.ref b)) Q E s:=by
 obtain⟨⟨cls,dd,data,sl⟩,ho,hc,n,hd⟩:=id ht
 obtain⟨⟨cls2,dd2,data2,sl2⟩,ho2,hc2,n2,hd2⟩:=id hb
 simp only at hc hd hc2 hd2
 subst hc hd hc2 hd2
 exact concat_meets ⟨_,ho,rfl⟩ ⟨_,ho2,rfl⟩ noFill_tuple_add seq_tuple_add PySem.F.slot_tuple_add PySem.F.entry_tuple_add (PySem.F.args_tuple_add_2 _ _)
  (tuple_addW0 t b ([]:List Value).toArray ws.toArray n n2 dd dd2 sl sl2 (by simp)) ⟨ho,ho2,h⟩
end
section
variable{X:Cx}
def ajS(K:Frag):R2:=λx y H Q=>∃a b ys,x= .ref a/\y= .ref b/\nu K H a []/\nu K H b ys/\Q (.ref b) H
theorem ad6:uT X (binaryOp .Add) (ajS X.K):=by
 intro pins s σ H x y v u Q I rx ry h
 obtain⟨a,b,ys,rfl,rfl,ha,hb,q⟩:=h
 cases rx
 cases ry
 obtain⟨its,r1,p1,_⟩:=I.tuple ha
 obtain⟨its2,r2,p2,_⟩:=I.tuple hb
 cases r1
 exact acw p1 p2 ⟨.ref b,H,I,rfl,q⟩
end
end L2
namespace S
open PySem PySem.Spec PyProof.Rows L2
section
variable{X:Cx}{ct:Nat->Addr}{M:Mem}
noncomputable def aaB:su:=λd e M=>match d,e with
 | .tup [],.tup ys=> .ok (.tup ys) M
 | _,_=> .bad
theorem aeY:gF X ct (binaryOp .Add) aaB:=by
 refine⟨_,ad6,λι M H d d' v v' Q R h h' p=> ?_⟩
 unfold aaB at p
 split at p
 ·rename_i ys
  obtain⟨a,vs,rfl,ha,hd⟩:=mj h
  obtain⟨b,us,rfl,hb,hd'⟩:=mj h'
  cases hd
  exact⟨a,b,us,rfl,rfl,nu.of ha,nu.of hb,p ι _ H .refl R (.tup hb hd')⟩
 ·exact p.elim
def K6:su:=vh Oe aaB
theorem XX:gF X ct (binaryOp .Add) K6:=XS.or aeY
theorem aaD(h:xs.length+ys.length<=sizeLine):K6 (.tup xs) (.tup ys) M= .ok (.tup (xs++ys)) M:=by
 cases xs with
 | nil=>exact(wF (by simp[Oe])).trans rfl
 | cons x xs=>exact lU (by simp only[Oe];exact if_pos ⟨rfl,h⟩)
end
end S
namespace L2
open PySem
theorem iM.mo(r:iM k A)(h:j<=k:=by decide):iM j A:=r.mono h
end L2
namespace S
open PySem PySem.Spec PyProof.Rows L2
theorem bT{P:Program}{w:World}{K:Frag}{mg:Str->Option Value}{base:Heap}{ct:Nat->Addr}{n ar:Nat}{b:MS}{x qual:Str}{st:Stmt}{dV:Value}{f:Addr}{fd:FuncData}{ps:List Str}{k:Nat}(N:List Str)(F:zE K x qual st dV f fd)(Z:sy N ps (bu st))
  (hbody:∀{cdv:Value} {A:Around} {outer:List PySem.Env} {s:Shared} {H:Hp} {E:XK} {W:bC},iM k (A.deeper (envOfC qual (bu st) s.heap.objs.size f cdv))->N.Nodup->(A.deeper (envOfC qual (bu st) s.heap.objs.size f cdv)).units+64<cLine->
   ZF ((yJ (EY P w) P w K mg base N qual (bu st) f cdv A outer s H E).wish (iQ (yJ (EY P w) P w K mg base N qual (bu st) f cdv A outer s H E) W)) ct W (dM st) b) (hn:N.length=n:=by rfl) (har:ps.length=ar:=by rfl):
  ie P w K mg base (EY P w) (k+1) f fd ps (spS K ct (aM n b) ar):=aoM F Z hn har λ_ _ _ _ _ _ _ hr=>hbody hr Z.nd hr.units
theorem cC{X:Cx}{W:bC}:Tk (X.wish (iQ X W)) W:=Tk.wish
theorem je{α:Type}{a:α}{q:Prop}:a=a\/q:=Or.inl rfl
end S
namespace L2
open PySem PySem.Spec PySem.W PySem.Calls PyProof.Rows
section
variable{X:Cx}
def aaQ:List V->Hp->VK->Prop:=λxs H Q=>∃d kvs ns,xs=[.ref d]/\H d=some (.dK kvs)/\kvs.length<64/\(kvs.map λp=>kV p.1)=ns.map V.int/\∀l,H l=none->Q (.ref l) (upd H l (.lst ((sortI ns).map V.int)))
theorem QV(hc:X.calm=true):rM X (.builtin "sorted") aaQ:=by
 intro pins s σ H xs us Q I r h
 obtain⟨d,kvs,ns,rfl,hd,h64,ek,q⟩:=h
 obtain⟨u,rfl,rx⟩:=vals1 r
 cases rx
 obtain⟨z,nm,vs,kv,dd⟩:=(show fC X.prog X.w H s.heap d (.dK kvs)from I.hok d _ hd)
 obtain⟨ep,da⟩:=dd.dictAt
 have lv:kvs.length=vs.length:=Paired.length kv
 refine Calls.call_function_entry kind_sorted plain_sorted entry_sorted (args_sorted1 _) ?_
 unfold Builtin.«sorted»
 refine zC (m:=checkCount "sorted" 1 1 _) (zI (zC (kdu_collect (A:=X.A.in1) (kdl_dict (knd:=dG X.prog X.w) (kvs:=vs) (ep:=ep) nm) (I.ok.hd hc) da () λh' tk acc kp it=> ?_)))
 have I1:Inv X pins σ H {s with heap:=h',toks:=tk}:=I.kept kp
 have rv:Vals (ns.map V.int) acc.toList:=by
  rw[<-ek]
  refine ac2 ?_ λj v hv=> ?_
  ·have:=it.1
   simp
   omega
  ·obtain⟨k,x,e1,e2⟩:=it.2 j v (by rw[<-Array.getElem?_toList];exact hv)
   obtain⟨y,e3,_⟩:=ahx kv e1
   exact⟨kV k,by rw[zal,e3];rfl,afH e2⟩
 have ia:=intsAre_of rv
 have line:(64:Nat)<=sizeLine:=by decide
 have el:acc.toList.length<64:=by have:=it.1;rw[Array.length_toList];omega
 refine zC (wpAny_newList ?_ ())
 have ho:(h'.push {cls:= .type "list",data:= .seq acc.toList.toArray}).get? h'.objs.size=some (seqObj "list" acc.toList.toArray 0):=yB _ rfl
 have I2:Inv X pins σ H {s with heap:=h'.push {cls:= .type "list",data:= .seq acc.toList.toArray},toks:=tk}:=I1.kept (t':=tk) λb o e=>zD _ e
 have fp:=I1.Vz (zaa _) (I1.hok.fresh (zaa _))
 refine zC (wpAny_holding (uS slot_list_sort ⟨_,ho,rfl⟩ entry_list_sort (list_sort_tree ho ia el λout ns' ia' pm pw=> ?_) (args_list_sort _)))
 obtain rfl:=eq_sortI pm pw
 have sb:=Heap.SameBut.update (h'.push {cls:= .type "list",data:= .seq acc.toList.toArray}) h'.objs.size (Obj.mapSeq λ_=>(#[]:Array Value))
 obtain⟨e1,ho1⟩:∃e1,((h'.push {cls:= .type "list",data:= .seq acc.toList.toArray}).update h'.objs.size (Obj.mapSeq λ_=>(#[]:Array Value))).get? h'.objs.size=some (seqObj "list" #[] e1):=⟨_,get?_update_seq ho λ_=> #[]⟩
 generalize hh:(((h'.push {cls:= .type "list",data:= .seq acc.toList.toArray}).update h'.objs.size (Obj.mapSeq λ_=>(#[]:Array Value))).push (seqObj "tuple" acc.toList.toArray 0)).push (seqObj "list" #[] 0)=h3
 have k3:∀b o,((h'.push {cls:= .type "list",data:= .seq acc.toList.toArray}).update h'.objs.size (Obj.mapSeq λ_=>(#[]:Array Value))).get? b=some o->h3.get? b=some o:=λb o e=>by
  rw[<-hh];exact zD _ (zD _ e)
 have sb':=Heap.SameBut.update h3 h'.objs.size (Obj.mapSeq λ_=>out)
 obtain⟨c2,hc2⟩:∃c2,(h3.update h'.objs.size (Obj.mapSeq λ_=>out)).get? h'.objs.size=some (seqObj "list" out c2):=⟨_,get?_update_seq (k3 _ _ ho1) λ_=>out⟩
 have es:sortedHeap (h'.push {cls:= .type "list",data:= .seq acc.toList.toArray}) h'.objs.size acc.toList out=h3.update h'.objs.size (Obj.mapSeq λ_=>out):=by
  unfold sortedHeap
  rw[<-hh]
 have I3:=I2.turned (t':=tk) (it:=h'.objs.size) (h':=h3.update h'.objs.size (Obj.mapSeq λ_=>out)) (λb o hb e=>(sb'.2 b hb).trans (k3 b o ((sb.2 b hb).trans e))) fp.1 fp.2.1 fp.2.2.2.1 fp.2.2.2.2.1 fp.2.2.2.2.2
 show ∃_,_
 rw[es]
 refine⟨_,rfl,zI ⟨_,rfl,.ref h'.objs.size,_,I3.track (o:= .lst ((sortI ns).map V.int)) fp (Heap.get?_none_of_le I1.sz) ⟨?_,out.toList,c2,Hh ia',by rw[Array.toArray_toList];exact hc2⟩,rfl,q _ fp.1⟩⟩
 have h1:=IntsAre.length ia
 have h2:=pm.length_eq
 rw[zam]
 omega
end
end L2
namespace S
open PySem PySem.Spec PyProof.Rows L2
def wD:Up:=λds M=>match ds with
 | [.ref n]=>match M[n]? with
  | some (.dk kvs)=>match kO (kvs.map λp=>Tn p.1)with
   | some ns=>if kvs.length<64 then .ok (.ref M.length) (M++[.lst ((PySem.W.sortI ns).map D.int)])else .bad
   | none=> .bad
  | _=> .bad
 | _=> .bad
theorem VH(hc:X.calm=true):uw X ct (.builtin "sorted") wD:=by
 refine⟨_,QV hc,λι M H ds vs Q R h p=> ?_⟩
 unfold wD at p
 split at p
 ·rename_i n
  obtain⟨v,rfl,q⟩:=JL h
  obtain⟨hn,rfl⟩:=nW q
  split at p
  ·rename_i kvs z
   split at p
   ·rename_i ns e
    split at p
    ·rename_i hs
     obtain⟨ys,hH,pv⟩:=R.obj n _ z
     have dy:=adG pv
     have hl:=dy.length
     simp only[zam]at hl
     exact⟨_,ys,ns,rfl,hH,(),oV e dy,λl hl'=>tD R (Mj _) hl' p⟩
    ·exact p.elim
   ·exact p.elim
  ·exact p.elim
 ·exact p.elim
theorem RV(h:M[n]? = some (.dk kvs))(hs:kO (kvs.map λp=>Tn p.1)=some ns)(hl:kvs.length<64):wD [.ref n] M= .ok (.ref M.length) (M++[.lst ((PySem.W.sortI ns).map D.int)]):=by
 simp only[wD,h,hs];rw[if_pos hl]
end S
set_option Elab.async false
set_option maxHeartbeats 0
set_option maxRecDepth 100000
set_option linter.all false
namespace My
open PySem L2 S
def yW:MS:=
 (lK (aY (aC sLt (aq 1) (Bb jz (au (aq 0) aF)))) (bB (aC a_ (aq 0) (aq 1))) bK)
def vQ:MS:=
 (aQ yW
 (bB (mC (.int 0))))
def b8:Fn:=aM 2 vQ
def zR:MS:=
 (cu (aC tu (aq 2) (aC Dy (aC K5 (aC U0 (aq 0) (aq 3)) (mC (.int 1))) (aC a_ (aq 1) (aq 3)))) (gN 2))
def Jg:MS:=
 (DG (Iz (au (mC (.int 5)) aF)) (gN 3) zR)
def Ib:MS:=
 (aQ (cu (mC (.int 0)) (gN 2))
 (aQ Jg
 (bB (aq 2))))
def pF:Fn:=aM 4 Ib
def Bk:MS:=
 (lK (YK (aY (aC U6 (aq 1) (Bb jz (au (aq 0) aF)))) (aY (aC U3 (aC a_ (aq 0) (aq 1)) (aq 2)))) (bB (aq 1)) bK)
def iz:MS:=
 Bk
def Bq:MS:=
 (DG (Vh (mC (.nA [(.nA [(.str "once"),(.str "free")]),(.nA [(.str "best"),(.str "any")]),(.nA [(.str "own"),(.str "old")]),(.nA [(.str "most"),(.str "half")])]))) (gT 2 (dw (gN 1) (dw (gN 2) tZ))) iz)
def Bj:MS:=
 (lK (aY (aC Ht (Bb jz (au (aq 0) aF)) (Bb jz (au (mC (.nA [(.nA [(.str "once"),(.str "free")]),(.nA [(.str "best"),(.str "any")]),(.nA [(.str "own"),(.str "old")]),(.nA [(.str "most"),(.str "half")])])) aF)))) (bB (Bb jz (au (mC (.nA [(.nA [(.str "once"),(.str "free")]),(.nA [(.str "best"),(.str "any")]),(.nA [(.str "own"),(.str "old")]),(.nA [(.str "most"),(.str "half")])])) aF))) bK)
def yL:MS:=
 (aQ Bq
 (aQ Bj
 (bB (mC .non))))
def yo:Fn:=aM 3 yL
def Bm:MS:=
 (lK (aY (aC Dz (aq 3) (mC .non))) PK bK)
def j9:MS:=
 (aQ (cu (mBM "str" Hq (aq 1) (au (mC (.str " ")) aF)) (gN 2))
 (aQ (cu (bG yo 1 [] (au (aq 2) aF)) (gN 3))
 (aQ Bm
 (aQ (dZ [6] (aq 0) (aC sEq (aC a_ (aq 2) (mC (.int 0))) (mC (.str "once"))) "once")
 (aQ (dZ [6] (aq 0) (aC sEq (aC a_ (aq 2) (mC (.int 1))) (mC (.str "best"))) "best")
 (aQ (dZ [6] (aq 0) (aC sEq (aC a_ (aq 2) (mC (.int 2))) (mC (.str "own"))) "own")
 (dZ [6] (aq 0) (aC sEq (aC a_ (aq 2) (mC (.int 3))) (mC (.str "most"))) "most")))))))
def gP:Fn:=aM 4 j9
def yN:MS:=
 (aQ (cu (yV 6 gP 2 [(.str "once best own most")] aF) (gN 1))
 (aQ (dZ [6] (aq 1) (cz [6] (aq 0) "once") "once")
 (aQ (dZ [6] (aq 1) (cz [6] (aq 0) "best") "best")
 (aQ (dZ [6] (aq 1) (cz [6] (aq 0) "own") "own")
 (aQ (dZ [6] (aq 1) (cz [6] (aq 0) "most") "most")
 (bB (aq 1)))))))
def rQ:Fn:=aM 2 yN
def uo:MS:=
 (aQ (dZ [0,7,8] (aq 0) (aq 1) "rules")
 (aQ (dZ [0] (aq 0) uQ "terms")
 (aQ (dZ [0] (aq 0) uQ "votes")
 (aQ (dZ [0] (aq 0) uQ "askings")
 (dZ [0] (aq 0) uQ "seated")))))
def tU:Fn:=aM 2 uo
def ue:MS:=
 (aQ (dZ [7] (aq 0) (aq 1) "first_roll")
 (aQ (dZ [0,7,8] (aq 0) (aq 2) "rules")
 (aQ (dZ [7] (aq 0) uQ "rows")
 (aQ (dZ [7] (aq 0) uQ "lines")
 (aQ (dZ [7] (aq 0) uQ "marks")
 (dZ [7] (aq 0) uQ "places"))))))
def tM:Fn:=aM 3 ue
def uf:MS:=
 (aQ (dZ [5] (aq 0) uQ "beats")
 (aQ (dZ [5] (aq 0) uQ "heard")
 (aQ (dZ [5] (aq 0) uQ "looks")
 (dZ [5] (aq 0) uQ "seen"))))
def tO:Fn:=aM 1 uf
def j_:MS:=
 (aQ (dZ [8] (aq 0) (aq 1) "first")
 (aQ (dZ [0,7,8] (aq 0) (mIf (aY (aC sIs (aq 2) (mC .non))) (yV 6 gP 2 [(.str "once best own most")] aF) (aU 6 "twin" rQ 1 [] (aq 2) aF)) "rules")
 (aQ (dZ [8] (aq 0) (yV 0 tU 2 [] (au (cz [0,7,8] (aq 0) "rules") aF)) "ballots")
 (aQ (dZ [8] (aq 0) (yV 7 tM 3 [] (au (gw (au (aq 1) (au (mC (.int 0)) aF))) (au (cz [0,7,8] (aq 0) "rules") aF))) "strides")
 (aQ (dZ [8] (aq 0) (yV 5 tO 1 [] aF) "replies")
 (aQ (dZ [8] (aq 0) (mC (.int 0)) "count")
 (dZ [8] (aq 0) (mC .non) "breach")))))))
def rT:Fn:=aM 3 j_
def nq:MS:=
 (bB (wR (aC Ht (Bb jz (au (aq 0) aF)) (mC (.int 0))) (aC sEq (abz [("vote",4),("chair",4),("write",4),("beat",3),("told",5),("settle",4),("answer",6),("look",6),("seen",8)] (aC a_ (aq 0) (mC (.int 0)))) (Bb jz (au (aq 0) aF)))))
def gM:Fn:=aM 1 nq
def qO:MS:=
 (lK (aY (aC sIn (aC a_ (aq 0) (mC (.int 0))) (mC (.nA [(.str "vote"),(.str "chair"),(.str "told")])))) (bB (aC a_ (aq 0) (mC (.int 2)))) bK)
def sG:MS:=
 (aQ qO
 (bB (aC a_ (aq 0) (mC (.int 1)))))
def jY:Fn:=aM 1 sG
def Ed:MS:=
 (lK (aY (aC sEq (Bb jz (au (aq 0) aF)) (mC (.int 0)))) (bB (gw (au (mC (.int 0)) (au (mC (.int 0)) aF)))) bK)
def G_:MS:=
 (aQ Ed
 (bB (gw (au (aC a_ (aC a_ (aq 0) (mUn agm (mC (.int 1)))) (mC (.int 0))) (au (Bb jz (au (aq 0) aF)) aF)))))
def Az:Fn:=aM 1 G_
def pR:MS:=
 (bB (wQ (cz [7] (aq 0) "rows") (aq 1) (gw aF)))
def b_:Fn:=aM 2 pR
def oA:MS:=
 (bB (wQ (cz [0] (aq 0) "terms") (aq 1) (mC (.int 0))))
def dJ:Fn:=aM 2 oA
def mU:MS:=
 (bB (wQ (cz [0] (aq 0) "votes") (gw (au (aq 1) (au (aq 2) aF))) (mC (.int 0))))
def dj:Fn:=aM 3 mU
def Dw:MS:=
 (cu (aC sOr (aq 1) (aC Dy (mC (.int 1)) (aq 2))) (gN 1))
def Mi:MS:=
 (DG (Ba (aq 0)) (gN 2) Dw)
def MN:MS:=
 (aQ (cu (mC (.int 0)) (gN 1))
 (aQ Mi
 (bB (aq 1))))
def nH:Fn:=aM 3 MN
def jJ:MS:=
 (lK (aY (cz [6] (cz [0,7,8] (aq 0) "rules") "once")) (bB (aC sNe (aq 4) (mC (.int 0)))) bK)
def jd:MS:=
 (aQ (cu (aU 0 "votes_of" dj 3 [] (aq 0) (au (aq 1) (au (aq 2) aF))) (gN 4))
 (aQ jJ
 (bB (aC sNe (aC K5 (aq 4) (bG nH 1 [] (au (A_ (au (aq 3) aF)) aF))) (mC (.int 0))))))
def iR:Fn:=aM 5 jd
def jU:MS:=
 (bB (W_ (cz [0] (aq 0) "askings") (gw (au (aq 1) (au (aq 2) aF)))))
def gQ:Fn:=aM 3 jU
def fQ:MS:=
 (lK (aY (aC sIs (aq 4) (mC .non))) (bB (mC (.bl false))) bK)
def d_:MS:=
 (aQ (cu (aU 0 "asked_with" gQ 3 [] (aq 0) (au (aq 1) (au (aq 2) aF))) (gN 4))
 (aQ fQ
 (bB (Th (aC sLe (aq 3) (aq 4)) (W9 (cz [6] (cz [0,7,8] (aq 0) "rules") "best"))))))
def d9:Fn:=aM 5 d_
def eV:MS:=
 (lK (YK (aY (aC sLt (aq 2) (aU 0 "term_of" dJ 2 [] (aq 0) (au (aq 1) aF)))) (aY (aU 0 "is_spent" iR 4 [] (aq 0) (au (aq 1) (au (aq 2) (au (aq 3) aF)))))) (bB (mC (.bl false))) bK)
def eU:MS:=
 (lK (aY (aC sEq (aq 3) (aq 1))) (bB (aC Ht (aq 2) (aU 0 "term_of" dJ 2 [] (aq 0) (au (aq 1) aF)))) bK)
def dX:MS:=
 (aQ eV
 (aQ eU
 (bB (aU 0 "is_good_enough" d9 4 [] (aq 0) (au (aq 3) (au (aq 2) (au (aq 4) aF)))))))
def dW:Fn:=aM 5 dX
def mV:MS:=
 (bB (W_ (cz [0] (aq 0) "seated") (aq 1)))
def cF:Fn:=aM 2 mV
def Er:MS:=
 (bB (IV [0] (Iz (au (mBM "int" Wx (aq 0) aF) aF)) (aY (aC sNe (aC K5 (aq 1) (aC Dy (mC (.int 1)) (aq 0))) (mC (.int 0)))) (aq 0)))
def tK:Fn:=aM 1 Er
def lz:MS:=
 (bB (Bb R6 (au (IV [2,0,3] (Ba (bG tK 1 [] (au (aq 1) aF))) Lr (aC sNe (aC K5 (aU 0 "votes_of" dj 3 [] (aq 2) (au (aq 0) (au (aq 1) aF))) (bG nH 1 [] (au (A_ (au (aq 3) aF)) aF))) (mC (.int 0)))) aF)))
def kZ:Fn:=aM 4 lz
def VM:MS:=
 (bB (Bb jz (au (bG tK 1 [] (au (aq 0) aF)) aF)))
def Lq:Fn:=aM 1 VM
def Je:MS:=
 (lK (aY (aq 2)) (bB (aC U6 (aq 3) (bG Lq 1 [] (au (aq 1) aF)))) bK)
def pP:MS:=
 (aQ (cu (aC R0 (mC (.int 2)) (bG Lq 1 [] (au (aC K5 (aq 0) (aq 1)) aF))) (gN 3))
 (aQ Je
 (bB (aC Ht (aq 3) (bG Lq 1 [] (au (aq 1) aF))))))
def Ci:Fn:=aM 4 pP
def Gz:MS:=
 (lK (YL (aY (bG Ci 3 [] (au (aq 1) (au (aC a_ (aq 0) (mC (.int 0))) (au (aq 2) aF)))))) (bB (mC (.bl false))) bK)
def Bv:MS:=
 (aQ Gz
 (bB (Th (aC sEq (aC a_ (aq 0) (mC (.int 1))) (mC (.int 0))) (bG Ci 3 [] (au (aq 1) (au (aC a_ (aq 0) (mC (.int 1))) (au (aq 2) aF)))))))
def Ln:Fn:=aM 3 Bv
def yM:MS:=
 (bB (bG Ln 3 [] (au (aq 1) (au (aq 2) (au (W9 (cz [6] (aq 0) "most")) aF)))))
def rP:Fn:=aM 3 yM
def c7:MS:=
 (lK (YK (aY (aC sNe (aU 0 "term_of" dJ 2 [] (aq 0) (au (aq 1) aF)) (aq 2))) (aY (aC sEq (aU 0 "chair_of" cF 2 [] (aq 0) (au (aq 2) aF)) (aq 1)))) (bB (mC (.bl false))) bK)
def cZ:MS:=
 (lK (aY (aC sNe (aU 0 "asked_with" gQ 3 [] (aq 0) (au (aq 1) (au (aq 2) aF))) (aq 4))) (bB (mC (.bl false))) bK)
def cV:MS:=
 (aQ c7
 (aQ cZ
 (bB (wR (aU 0 "voted_all" kZ 4 [] (aq 0) (au (aq 3) (au (aq 2) (au (aq 1) aF)))) (aU 6 "wins" rP 3 [] (cz [0,7,8] (aq 0) "rules") (au (aq 5) (au (aq 3) aF)))))))
def cT:Fn:=aM 6 cV
def gU:MT:=
 (Nu (aY (aC Ht (aq 1) (mC (.int 0)))) (aY (aC sNe (aC a_ (aC a_ (aC a_ (aq 0) (aC UW (aq 1) (mC (.int 1)))) (mC (.int 1))) (mC (.int 0))) (mC (.str "roll")))))
def jq:MS:=
 (cu (aC UW (aq 1) (mC (.int 1))) (gN 1))
def uC:MS:=
 (Ho gU jq)
def qZ:MS:=
 (aQ (cu (Bb jz (au (aq 0) aF)) (gN 1))
 (aQ uC
 (bB (aq 1))))
def lW:Fn:=aM 2 qZ
def Bl:MS:=
 (lK (aY (aC sEq (aq 2) (mC (.int 0)))) (bB (aq 1)) bK)
def Cr:MS:=
 (aQ (cu (bG lW 1 [] (au (aq 0) aF)) (gN 2))
 (aQ Bl
 (aQ (cu (aC a_ (aC a_ (aq 0) (aC UW (aq 2) (mC (.int 1)))) (mC (.int 1))) (gN 3))
 (bB (gw (au (aC a_ (aq 3) (mC (.int 1))) (au (aC a_ (aq 3) (mC (.int 2))) aF)))))))
def wN:Fn:=aM 4 Cr
def mO:MS:=
 (bB (bG wN 2 [] (au (aU 7 "row_of" b_ 2 [] (aq 0) (au (aq 1) aF)) (au (cz [7] (aq 0) "first_roll") aF))))
def mF:Fn:=aM 2 mO
def ud:MS:=
 (bB (wQ (cz [7] (aq 0) "lines") (aq 1) (gw aF)))
def bZ:Fn:=aM 2 ud
def mQ:MS:=
 (bB (wR (aC Hs (mC (.int 0)) (aq 2)) (aC Hs (aq 2) (Bb jz (au (aU 7 "line" bZ 2 [] (aq 0) (au (aq 1) aF)) aF)))))
def mG:Fn:=aM 3 mQ
def oh:MS:=
 (bB (wQ (cz [5] (aq 0) "beats") (aq 1) (mC (.int 0))))
def nJ:Fn:=aM 2 oh
def mR:MS:=
 (bB (wR (aC Hs (mC (.int 0)) (aq 2)) (aC Hs (aq 2) (aU 5 "beat_of" nJ 2 [] (aq 0) (au (aq 1) aF)))))
def mH:Fn:=aM 3 mR
def tY:MS:=
 (lK (YK (aY (aC sIs (aq 5) (mC .non))) (YK (aY (aC sEq (aq 5) (aq 1))) (aY (aC sLt (aq 2) (aU 0 "term_of" dJ 2 [] (cz [8] (aq 0) "ballots") (au (aq 1) aF)))))) (bB (mC (.bl false))) bK)
def pU:MS:=
 (aQ (cu (aU 0 "chair_of" cF 2 [] (cz [8] (aq 0) "ballots") (au (aq 2) aF)) (gN 5))
 (aQ tY
 (bB (wR (aU 7 "may_tell" mG 3 [] (cz [8] (aq 0) "strides") (au (aq 2) (au (aq 3) aF))) (aU 5 "may_hear" mH 3 [] (cz [8] (aq 0) "replies") (au (aq 2) (au (aq 4) aF)))))))
def pI:Fn:=aM 6 pU
def gb:MS:=
 (lK (aY (aC sEq (aC a_ (aq 1) (mC (.int 0))) (mC (.str "vote")))) (bB (aU 0 "may_vote" dW 5 [] (cz [8] (aq 0) "ballots") (au (aq 2) (au (aC a_ (aq 1) (mC (.int 2))) (au (aC a_ (aq 1) (mC (.int 3))) (au (aq 3) aF)))))) bK)
def f9:MS:=
 (lK (aY (aC sEq (aC a_ (aq 1) (mC (.int 0))) (mC (.str "chair")))) (bB (aU 0 "may_chair" cT 6 [] (cz [8] (aq 0) "ballots") (au (aq 2) (au (aC a_ (aq 1) (mC (.int 2))) (au (aC a_ (aq 1) (mC (.int 3))) (au (aq 3) (au (aU 7 "row_roll" mF 2 [] (cz [8] (aq 0) "strides") (au (aq 2) aF)) aF))))))) bK)
def fu:MS:=
 (aQ (cu (aC a_ (aq 1) (mC (.int 1))) (gN 2))
 (aQ (cu (bG Az 1 [] (au (aU 7 "row_of" b_ 2 [] (cz [8] (aq 0) "strides") (au (aq 2) aF)) aF)) (gN 3))
 (aQ gb
 (aQ f9
 (bB (aU 8 "may_tell" pI 5 [] (aq 0) (au (aq 2) (au (aC a_ (aq 1) (mC (.int 2))) (au (aC a_ (aq 1) (mC (.int 3))) (au (aC a_ (aq 1) (mC (.int 4))) aF))))))))))
def cg:Fn:=aM 4 fu
def kh:MS:=
 (bB (wR (aC sIn (aq 1) (cz [0] (aq 0) "seated")) (aC sEq (aU 0 "term_of" dJ 2 [] (aq 0) (au (aC a_ (cz [0] (aq 0) "seated") (aq 1)) aF)) (aq 1))))
def iD:Fn:=aM 2 kh
def mJ:MS:=
 (lK (aY (aC sEq (aC a_ (aq 3) (mC (.int 0))) (aq 1))) (bB (aq 2)) bK)
def fM:MS:=
 mJ
def mL:MS:=
 (DG (abB (aq 0) (mC (.int 1))) (gT 2 (dw (gN 2) (dw (gN 3) tZ))) fM)
def j8:MS:=
 (aQ mL
 (bB (mC .non)))
def jZ:Fn:=aM 4 j8
def jQ:MS:=
 (bB (aC K1 (Vi 2 [1] (cz [7] (aq 0) "marks") (gT 2 (dw (gN 0) (dw (gN 1) tZ))) (aY (aC Hs (aq 0) (aq 2))) (aq 1)) (mC (.int 0))))
def jF:Fn:=aM 2 jQ
def lq:MS:=
 (bB (bG wN 2 [] (au (aU 7 "line" bZ 2 [] (aq 0) (au (aq 1) aF)) (au (cz [7] (aq 0) "first_roll") aF))))
def iw:Fn:=aM 2 lq
def nQ:MS:=
 (lK (aY (aC Ht (bG lW 1 [] (au (aU 7 "line" bZ 2 [] (aq 0) (au (aq 1) aF)) aF)) (aU 7 "mark_up_to" jF 2 [] (aq 0) (au (aq 1) aF)))) (bB (mC (.bl false))) bK)
def nP:MS:=
 (lK (aY (aC sEq (aC a_ (aq 3) (mC (.int 1))) (mC (.int 0)))) (bB (wR (aC sEq (aC a_ (aq 2) (mC (.int 1))) (aC a_ (aq 3) (mC (.int 0)))) (aC sNe (aC a_ (aq 2) (mC (.int 2))) (mC (.int 0))))) bK)
def jP:MS:=
 (aQ nQ
 (aQ (cu (aU 7 "line_roll" iw 2 [] (aq 0) (au (aq 1) aF)) (gN 3))
 (aQ nP
 (bB (aC sEq (aq 2) (gw (au (mC (.str "roll")) (au (aC a_ (aq 3) (mC (.int 1))) (au (mC (.int 0)) aF)))))))))
def jE:Fn:=aM 4 jP
def cY:MS:=
 (lK (aY (aC sNe (aq 2) (aC tu (Bb jz (au (aq 4) aF)) (mC (.int 1))))) (bB (mC (.bl false))) bK)
def cX:MS:=
 (lK (aY (aC sNe (aq 5) (aC sEq (aq 3) (gw (au (mC (.str "start")) aF))))) (bB (mC (.bl false))) bK)
def cU:MS:=
 (aQ (cu (aU 7 "line" bZ 2 [] (aq 0) (au (aq 1) aF)) (gN 4))
 (aQ cY
 (aQ (cu (aC sIs (bG jZ 2 [] (au (aq 4) (au (aq 1) aF))) (mC .non)) (gN 5))
 (aQ cX
 (bB (Th (aC sNe (aC a_ (aq 3) (mC (.int 0))) (mC (.str "roll"))) (aU 7 "may_change" jE 3 [] (aq 0) (au (aq 1) (au (aq 3) aF)))))))))
def cR:Fn:=aM 6 cU
def uc:MS:=
 (bB (wQ (cz [7] (aq 0) "marks") (aq 1) (mC (.int 0))))
def jG:Fn:=aM 2 uc
def jN:MS:=
 (bB (wQ (cz [7] (aq 0) "places") (gw (au (aq 1) (au (aq 2) aF))) (mC (.int 0))))
def dB:Fn:=aM 3 jN
def jR:MS:=
 (bB (Bb R6 (au (IV [1,3,2,0] (Ba (bG tK 1 [] (au (aq 4) aF))) Lr (Th (aC sEq (aq 0) (aq 1)) (aC U6 (aU 7 "place_told" dB 3 [] (aq 4) (au (aq 0) (au (aq 3) aF))) (aq 2)))) aF)))
def gO:Fn:=aM 5 jR
def jm:MS:=
 (bB (aU 6 "wins" rP 3 [] (cz [0,7,8] (aq 0) "rules") (au (aU 7 "line_roll" iw 2 [] (aq 0) (au (aq 1) aF)) (au (aq 2) aF))))
def fX:Fn:=aM 3 jm
def nO:MS:=
 (lK (YK (aY (aC Hs (aq 3) (aU 7 "mark" jG 2 [] (aq 0) (au (aq 2) aF)))) (aY (aC Ht (aq 3) (Bb jz (au (aq 5) aF))))) (bB (mC (.bl false))) bK)
def nM:MS:=
 (lK (Nu (aY (cz [6] (cz [0,7,8] (aq 0) "rules") "own")) (aY (aC sNe (aC a_ (aC a_ (aq 5) (aC UW (aq 3) (mC (.int 1)))) (mC (.int 0))) (aq 2)))) (bB (mC (.bl false))) bK)
def jO:MS:=
 (aQ (cu (aU 7 "line" bZ 2 [] (aq 0) (au (aq 2) aF)) (gN 5))
 (aQ nO
 (aQ nM
 (bB (wR (aU 7 "have_place" gO 5 [] (aq 0) (au (aq 1) (au (aq 2) (au (aq 3) (au (aq 4) aF))))) (aU 7 "are_winners" fX 3 [] (aq 0) (au (aq 2) (au (aq 4) aF))))))))
def jD:Fn:=aM 6 jO
def iZ:MS:=
 (lK (aY (aC sEq (aC a_ (aq 1) (mC (.int 0))) (mC (.str "write")))) (bB (aU 7 "may_write" cR 4 [] (cz [8] (aq 0) "strides") (au (aq 2) (au (aC a_ (aq 1) (mC (.int 2))) (au (aC a_ (aq 1) (mC (.int 3))) aF))))) bK)
def nU:MS:=
 (lK (aY (aC sEq (aC a_ (aq 1) (mC (.int 0))) (mC (.str "beat")))) PK bK)
def nR:MS:=
 (lK (aY (aC sEq (aC a_ (aq 1) (mC (.int 0))) (mC (.str "settle")))) (bB (aU 7 "may_settle" jD 5 [] (cz [8] (aq 0) "strides") (au (aU 0 "chair_of" cF 2 [] (cz [8] (aq 0) "ballots") (au (aq 2) aF)) (au (aq 2) (au (aC a_ (aq 1) (mC (.int 2))) (au (aC a_ (aq 1) (mC (.int 3))) aF)))))) bK)
def yE:MS:=
 (lK (aY (aC sEq (aC a_ (aq 1) (mC (.int 0))) (mC (.str "answer")))) PK bK)
def yD:MS:=
 (lK (aY (aC sEq (aC a_ (aq 1) (mC (.int 0))) (mC (.str "look")))) PK bK)
def gY:MS:=
 (aQ (cu (aC a_ (aq 1) (mC (.int 1))) (gN 2))
 (aQ iZ
 (aQ nU
 (aQ nR
 (aQ yE
 (aQ yD
 PK))))))
def eG:Fn:=aM 3 gY
def cM:MS:=
 (lK (YK (aY (aC Dz (cz [8] (aq 0) "breach") (mC .non))) (YK (YL (aY (bG gM 1 [] (au (aq 1) aF)))) (aY (aC sLt (bG jY 1 [] (au (aq 1) aF)) (mC (.int 1)))))) (bB (mC (.bl false))) bK)
def cL:MS:=
 (lK (aY (aC sIn (aC a_ (aq 1) (mC (.int 0))) (mC (.nA [(.str "vote"),(.str "chair"),(.str "told")])))) (bB (aU 8 "allows_hand" cg 2 [] (aq 0) (au (aq 1) aF))) bK)
def di:MS:=
 (aQ cM
 (aQ cL
 (bB (wR (aU 0 "stands" iD 2 [] (cz [8] (aq 0) "ballots") (au (aC a_ (aq 1) (mC (.int 1))) aF)) (aU 8 "allows_chair" eG 2 [] (aq 0) (au (aq 1) aF))))))
def bH:Fn:=aM 2 di
def rm:MS:=
 (mD (cz [0] (aq 0) "terms") (aq 1) (aq 2))
def lX:Fn:=aM 3 rm
def j4:MS:=
 (lK (aY (aC sEq (aq 3) (aq 1))) (mD (cz [0] (aq 0) "askings") (gw (au (aq 1) (au (aq 2) aF))) (aq 4)) bK)
def uq:MS:=
 (aQ j4
 (aQ (mD (cz [0] (aq 0) "votes") (gw (au (aq 1) (au (aq 2) aF))) (aC sOr (aU 0 "votes_of" dj 3 [] (aq 0) (au (aq 1) (au (aq 2) aF))) (bG nH 1 [] (au (A_ (au (aq 3) aF)) aF))))
 (ig (aU 0 "reach" lX 3 [] (aq 0) (au (aq 1) (au (aq 2) aF))))))
def tV:Fn:=aM 5 uq
def lE:MS:=
 (mD (cz [0] (aq 0) "seated") (aq 2) (aq 1))
def k_:Fn:=aM 3 lE
def jT:MS:=
 (mD (cz [7] (aq 0) "lines") (aq 2) (aU 7 "row_of" b_ 2 [] (aq 0) (au (aq 1) aF)))
def jH:Fn:=aM 3 jT
def BJ:MS:=
 (bB (aC sEq (YJ (aq 0) uP (IK (aq 2))) (YJ (aq 1) uP (IK (aq 2)))))
def uO:Fn:=aM 3 BJ
def n_:MS:=
 (aQ (cu (aU 7 "mark" jG 2 [] (aq 0) (au (aq 1) aF)) (gN 3))
 (bB (Th (aC sEq (aq 3) (mC (.int 0))) (bG uO 3 [] (au (aU 7 "line" bZ 2 [] (aq 0) (au (aq 1) aF)) (au (aU 7 "line" bZ 2 [] (aq 0) (au (aq 2) aF)) (au (aq 3) aF)))))))
def jw:Fn:=aM 4 n_
def ni:MS:=
 (lK (YL (aY (aU 7 "is_kept" jw 3 [] (aq 0) (au (Bb Wr (au (aq 2) (au (aq 1) aF))) (au (Bb Im (au (aq 2) (au (aq 1) aF))) aF))))) (bB (Bb Im (au (aq 2) (au (aq 1) aF)))) bK)
def iB:MS:=
 ni
def nj:MS:=
 (DG (Ba (Bb wD (au (cz [7] (aq 0) "lines") aF))) (gN 2) iB)
def jl:MS:=
 (aQ nj
 (bB (mC .non)))
def jk:Fn:=aM 3 jl
def rJ:MS:=
 (lK (aY (aC Dz (aq 2) (mC .non))) (dZ [8] (aq 0) (gw (au (mC (.str "lost")) (au (aq 2) aF))) "breach") bK)
def ou:MS:=
 (aQ (cu (aU 7 "lost_behind" jk 2 [] (cz [8] (aq 0) "strides") (au (aq 1) aF)) (gN 2))
 rJ)
def jx:Fn:=aM 3 ou
def kJ:MS:=
 (lK (aY (aC Dz (aU 0 "chair_of" cF 2 [] (cz [8] (aq 0) "ballots") (au (aq 2) aF)) (mC .non))) (aQ (dZ [8] (aq 0) (gw (au (mC (.str "chairs")) (au (aq 2) aF))) "breach")
 aft) bK)
def iI:MS:=
 (aQ kJ
 (aQ (ig (aU 0 "take_seat" k_ 3 [] (cz [8] (aq 0) "ballots") (au (aq 1) (au (aq 2) aF))))
 (aQ (ig (aU 7 "begin_line" jH 3 [] (cz [8] (aq 0) "strides") (au (aq 1) (au (aq 2) aF))))
 (ig (aU 8 "find_lost" jx 2 [] (aq 0) (au (aq 2) aF))))))
def iC:Fn:=aM 3 iI
def Ec:MS:=
 (lK (aY (bG uO 3 [] (au (aq 1) (au (aq 0) (au (aq 2) aF))))) (bB (YJ (aq 1) uP uP)) bK)
def G9:MS:=
 (aQ Ec
 (bB (YJ (aq 0) uP (IK (aq 2)))))
def Gs:Fn:=aM 3 G9
def t_:MS:=
 (aQ (mD (cz [7] (aq 0) "rows") (aq 1) (bG Gs 3 [] (au (aU 7 "line" bZ 2 [] (aq 0) (au (aq 2) aF)) (au (aU 7 "row_of" b_ 2 [] (aq 0) (au (aq 1) aF)) (au (aq 3) aF)))))
 (mD (cz [7] (aq 0) "places") (gw (au (aq 1) (au (aq 2) aF))) (Bb Im (au (aq 3) (au (aU 7 "place_told" dB 3 [] (aq 0) (au (aq 1) (au (aq 2) aF))) aF)))))
def tL:Fn:=aM 4 t_
def lu:MS:=
 (bB (wQ (cz [5] (aq 0) "heard") (gw (au (aq 1) (au (aq 2) aF))) (mC (.int 0))))
def kY:Fn:=aM 3 lu
def ug:MS:=
 (mD (cz [5] (aq 0) "heard") (gw (au (aq 1) (au (aq 2) aF))) (Bb Im (au (aq 3) (au (aU 5 "beat_told" kY 3 [] (aq 0) (au (aq 1) (au (aq 2) aF))) aF))))
def tQ:Fn:=aM 4 ug
def fZ:MS:=
 (lK (aY (aC sEq (aC a_ (aq 1) (mC (.int 0))) (mC (.str "chair")))) (ig (aU 8 "follow_to_chair" iC 3 [] (aq 0) (au (aq 2) (au (aq 3) aF)))) (aQ (ig (aU 0 "reach" lX 3 [] (cz [8] (aq 0) "ballots") (au (aq 2) (au (aq 3) aF))))
 (aQ (ig (aU 7 "tell" tL 4 [] (cz [8] (aq 0) "strides") (au (aq 2) (au (aq 3) (au (aC a_ (aq 1) (mC (.int 3))) aF)))))
 (ig (aU 5 "hear" tQ 4 [] (cz [8] (aq 0) "replies") (au (aq 2) (au (aq 3) (au (aC a_ (aq 1) (mC (.int 4))) aF))))))))
def fY:MS:=
 (lK (aY (aC sEq (aC a_ (aq 1) (mC (.int 0))) (mC (.str "vote")))) (ig (aU 0 "cast" tV 5 [] (cz [8] (aq 0) "ballots") (au (aq 2) (au (aq 3) (au (aC a_ (aq 1) (mC (.int 3))) (au (bG Az 1 [] (au (aU 7 "row_of" b_ 2 [] (cz [8] (aq 0) "strides") (au (aq 2) aF)) aF)) aF)))))) fZ)
def fj:MS:=
 (aQ (cu (aC a_ (aq 1) (mC (.int 1))) (gN 2))
 (aQ (cu (aC a_ (aq 1) (mC (.int 2))) (gN 3))
 fY))
def dN:Fn:=aM 4 fj
def q_:MS:=
 (aQ (cu (gw (au (aq 2) (au (aq 3) aF))) (gN 4))
 (aQ (mD (cz [7] (aq 0) "lines") (aq 2) (aC K6 (aU 7 "line" bZ 2 [] (aq 0) (au (aq 2) aF)) (gw (au (aq 4) aF))))
 (mD (cz [7] (aq 0) "rows") (aq 1) (aC K6 (aU 7 "row_of" b_ 2 [] (aq 0) (au (aq 1) aF)) (gw (au (aq 4) aF))))))
def qX:Fn:=aM 5 q_
def pQ:MS:=
 (mD (cz [7] (aq 0) "marks") (aq 1) (aq 2))
def pH:Fn:=aM 3 pQ
def iY:MS:=
 (lK (aY (aC sEq (aC a_ (aq 1) (mC (.int 0))) (mC (.str "seen")))) PK bK)
def iW:MS:=
 (lK (aY (aC sEq (aC a_ (aq 1) (mC (.int 0))) (mC (.str "look")))) PK iY)
def iV:MS:=
 (lK (aY (aC sEq (aC a_ (aq 1) (mC (.int 0))) (mC (.str "settle")))) (aQ (ig (aU 7 "settle" pH 3 [] (cz [8] (aq 0) "strides") (au (aq 2) (au (aC a_ (aq 1) (mC (.int 2))) aF))))
 (ig (aU 8 "find_lost" jx 2 [] (aq 0) (au (aq 2) aF)))) iW)
def iU:MS:=
 (lK (aY (aC sEq (aC a_ (aq 1) (mC (.int 0))) (mC (.str "beat")))) PK iV)
def iT:MS:=
 (lK (aY (aC sEq (aC a_ (aq 1) (mC (.int 0))) (mC (.str "write")))) (ig (aU 7 "write" qX 4 [] (cz [8] (aq 0) "strides") (au (aU 0 "chair_of" cF 2 [] (cz [8] (aq 0) "ballots") (au (aq 2) aF)) (au (aq 2) (au (aC a_ (aq 1) (mC (.int 3))) aF))))) iU)
def gW:MS:=
 (aQ (cu (aC a_ (aq 1) (mC (.int 1))) (gN 2))
 iT)
def eF:Fn:=aM 3 gW
def eO:MS:=
 (lK (YL (aY (aU 8 "allows" bH 2 [] (aq 0) (au (aq 1) aF)))) (sRz 2 (au (cz [8] (aq 0) "count") aF)) bK)
def eN:MS:=
 (lK (aY (aC sIn (aC a_ (aq 1) (mC (.int 0))) (mC (.nA [(.str "vote"),(.str "chair"),(.str "told")])))) (ig (aU 8 "follow_hand" dN 2 [] (aq 0) (au (aq 1) aF))) (ig (aU 8 "follow_chair" eF 2 [] (aq 0) (au (aq 1) aF))))
def fJ:MS:=
 (aQ eO
 (aQ (dZ [8] (aq 0) (aC tu (cz [8] (aq 0) "count") (mC (.int 1))) "count")
 eN))
def aN:Fn:=aM 2 fJ
def GF:MS:=
 (lK (aY (aC sEq (aC a_ (aq 4) (mC (.int 0))) (mC (.str "roll")))) (cu (gw (au (aC a_ (aq 4) (mC (.int 1))) (au (aC a_ (aq 4) (mC (.int 2))) aF))) (gN 2)) bK)
def xR:MS:=
 GF
def G3:MS:=
 (DG (Ba (aq 0)) (gT 2 (dw (gN 3) (dw (gN 4) tZ))) xR)
def Eo:MS:=
 (aQ (cu (gw (au (aq 1) (au (mC (.int 0)) aF))) (gN 2))
 (aQ G3
 (bB (aq 2))))
def yq:Fn:=aM 5 Eo
def Di:MS:=
 (lK (aY (aC sEq (aq 8) (aq 3))) (ig (aU 8 "take" aN 2 [] (aq 0) (au (gw (au (mC (.str "vote")) (au (aq 7) (au (aq 4) (au (aq 7) aF))))) aF))) bK)
def uY:MS:=
 Di
def vH:MS:=
 (DG (Iz (au (mC (.int 5)) aF)) (gN 8) uY)
def p_:MS:=
 (ig (aU 8 "take" aN 2 [] (aq 0) (au (gw (au (mC (.str "vote")) (au (aC a_ (aq 1) (aq 8)) (au (aq 4) (au (aq 7) aF))))) aF)))
def vG:MS:=
 (DG (Ba (A_ (au (mC (.int 2)) (au (mC (.int 3)) (au (mC (.int 4)) aF))))) (gN 8) p_)
def lN:MS:=
 (lK (aY (aC Ht (aq 9) (mC (.int 0)))) (cu (gw (au (mC (.str "ask")) (au (aC jj (aC mz (aq 6) (mC (.int 4))) (aC RX (mC (.int 10)) (mC (.int 40)))) (au (aq 9) (au (gw (au (mC (.str "add")) (au (mC (.str "a")) (au (aC jj (aq 6) (aC RX (mC (.int 10)) (mC (.int 40)))) aF)))) aF))))) (gN 10)) bK)
def lM:MS:=
 (lK (Nu (aY (aC sEq (aq 9) (mC (.int 2)))) (Nu (aY (aC sEq (aC jj (aC mz (aq 6) (mC (.int 4))) (mC (.int 2))) (mC (.int 1)))) (Nu (aY (aC sEq (aq 3) (mC (.int 1)))) (aY (aC sEq (aC a_ (bG yq 2 [] (au (aq 5) (au (aq 2) aF))) (mC (.int 1))) (mC (.int 0))))))) (cu (gw (au (mC (.str "roll")) (au (aq 2) (au (bG pF 2 [] (au (aC tu (mC (.int 1)) (aC jj (aC mz (aq 6) (mC (.int 8))) (mC (.int 31)))) (au (aq 1) aF))) aF)))) (gN 10)) bK)
def lF:MS:=
 (aQ (cu (gw (au (mC (.str "start")) aF)) (gN 10))
 (aQ lN
 (aQ lM
 (aQ (ig (aU 8 "take" aN 2 [] (aq 0) (au (gw (au (mC (.str "write")) (au (aq 4) (au (aC tu (Bb jz (au (aq 5) aF)) (mC (.int 1))) (au (aq 10) aF))))) aF)))
 (ig (mBM "list" xV (aq 5) (au (gw (au (aq 4) (au (aq 10) aF))) aF)))))))
def Dm:MS:=
 (DG (Iz (au (aC tu (mC (.int 1)) (aC jj (aq 6) (mC (.int 4)))) aF)) (gN 9) lF)
def Bw:MS:=
 (aQ (cu (aC a_ (aq 1) (aq 3)) (gN 7))
 (aQ vH
 (aQ vG
 (aQ (ig (aU 8 "take" aN 2 [] (aq 0) (au (gw (au (mC (.str "chair")) (au (aq 7) (au (aq 4) (au (aC tu (aC Dy (mC (.int 1)) (aq 7)) (bG pF 2 [] (au (mC (.int 28)) (au (aq 1) aF)))) aF))))) aF)))
 (aQ Dm
 (bB (aq 5)))))))
def uN:Fn:=aM 11 Bw
def pO:MS:=
 (aQ (ig (aU 8 "take" aN 2 [] (aq 0) (au (gw (au (mC (.str "told")) (au (aC a_ (aq 1) (mC (.int 1))) (au (aq 2) (au (aC jj (aq 4) (aC tu (aq 3) (mC (.int 1)))) (au (mC (.int 0)) aF)))))) aF)))
 (bB (aC jj (aq 4) (aC tu (aq 3) (mC (.int 1))))))
def pB:Fn:=aM 5 pO
def El:MS:=
 (aQ (ig (aU 8 "take" aN 2 [] (aq 0) (au (gw (au (mC (.str "told")) (au (aq 2) (au (aq 3) (au (aq 4) (au (mC (.int 0)) aF)))))) aF)))
 (mD (aq 1) (aq 2) (Bb Im (au (aq 4) (au (wQ (aq 1) (aq 2) (mC (.int 0))) aF)))))
def DW:Fn:=aM 5 El
def GD:MS:=
 (lK (aY (aC U6 (wQ (aq 2) (aq 5) (mC (.int 0))) (aq 3))) (cu (aC sOr (aq 4) (aC Dy (mC (.int 1)) (aq 5))) (gN 4)) bK)
def xQ:MS:=
 GD
def GZ:MS:=
 (DG (Ba (aq 1)) (gN 5) xQ)
def GC:MS:=
 (lK (aY (aC Ht (aC jj (aq 0) (mC (.int 3))) (mC (.int 0)))) (aQ (cu (mC (.int 0)) (gN 4))
 GZ) bK)
def Em:MS:=
 (aQ (cu (bG pF 2 [] (au (aC jj (aC mz (aq 0) (mC (.int 3))) (mC (.int 32))) (au (aq 1) aF))) (gN 4))
 (aQ GC
 (bB (aq 4))))
def tH:Fn:=aM 6 Em
def j7:MT:=
 (aY (aC Ht (aq 0) (mC (.int 0))))
def rO:MS:=
 (aQ (cu (aC tu (aq 1) (aC jj (aq 0) (mC (.int 2)))) (gN 1))
 (cu (aC mz (aq 0) (mC (.int 2))) (gN 0)))
def Fd:MS:=
 (Ho j7 rO)
def Ep:MS:=
 (aQ (cu (mC (.int 0)) (gN 1))
 (aQ Fd
 (bB (aq 1))))
def yr:Fn:=aM 2 Ep
def yC:MS:=
 (lK (Nu (aY (aC sNe (aq 3) (mC (.int 0)))) (aY (aC Hs (aC tu (aC R0 (mC (.int 2)) (bG yr 1 [] (au (aC K5 (aq 3) (aq 1)) aF))) (aq 2)) (bG yr 1 [] (au (aq 3) aF))))) (bB (mC (.bl false))) bK)
def jW:MS:=
 yC
def GX:MS:=
 (DG (Ba (aq 0)) (gN 3) jW)
def Ek:MS:=
 (aQ GX
 (bB (mC (.bl true))))
def DR:Fn:=aM 4 Ek
def Jd:MS:=
 (lK (YK (aY (aC Hs (aq 8) (aq 4))) (YK (aY (aC Ht (aq 8) (Bb jz (au (aq 1) aF)))) (Nu (aY (aC sEq (aC a_ (aq 5) (mC (.int 0))) (mC (.int 0)))) (aY (aC sNe (aC a_ (aC a_ (aq 1) (aC UW (aq 8) (mC (.int 1)))) (mC (.int 0))) (aq 7)))))) (bB (mC (.bl false))) bK)
def Jc:MS:=
 (lK (Nu (aY (aC sEq (aC K5 (aC U0 (aq 9) (aq 10)) (mC (.int 1))) (mC (.int 1)))) (aY (aC sLt (wQ (aq 3) (aq 10) (mC (.int 0))) (aq 8)))) (bB (mC (.bl false))) bK)
def uE:MS:=
 Jc
def Jh:MS:=
 (DG (Iz (au (mC (.int 60)) aF)) (gN 10) uE)
def Ie:MS:=
 (aQ (cu (aq 0) (gT 4 (dw (gN 6) (dw (gN 7) (dw (gN 8) (dw (gN 9) tZ))))))
 (aQ Jd
 (aQ Jh
 (bB (bG DR 3 [] (au (bG yq 2 [] (au (aq 1) (au (aq 2) aF))) (au (aq 9) (au (aC a_ (aq 5) (mC (.int 1))) aF))))))))
def wO:Fn:=aM 11 Ie
def qT:MS:=
 (ig (aU 8 "take" aN 2 [] (aq 0) (au (aq 1) aF)))
def qU:MS:=
 (cu (mC (.bl true)) (gN 2))
def qY:MS:=
 (adu [(1,false),(2,true)] qT qU)
def qb:MS:=
 (aQ (cu (mC (.bl false)) (gN 2))
 (aQ qY
 (bB (aq 2))))
def d8:Fn:=aM 3 qb
def uh:MS:=
 (bB (cz [8] (aq 0) "breach"))
def tR:Fn:=aM 1 uh
def yO:MS:=
 (bB (aU 7 "mark" jG 2 [] (cz [8] (aq 0) "strides") (au (aq 1) aF)))
def rR:Fn:=aM 2 yO
def yP:MS:=
 (bB (Bb Wt (au (aU 7 "line" bZ 2 [] (cz [8] (aq 0) "strides") (au (aq 1) aF)) aF)))
def j0:Fn:=aM 2 yP
def Xk:MS:=
 (lK (aY (aC Hs (aq 16) (Bb jz (au (aq 10) aF)))) (ig (bG DW 5 [] (au (aq 5) (au (aC a_ (aq 12) (aq 8)) (au (aC a_ (aq 1) (aC tu (mC (.int 2)) (aC jj (aC mz (aq 14) (mC (.int 80))) (mC (.int 3))))) (au (aq 8) (au (aq 16) aF))))))) bK)
def GJ:MS:=
 (lK (aY (aC sEq (aC jj (aq 14) (mC (.int 2))) (mC (.int 0)))) (aQ Xk
 afu) bK)
def Ka:MS:=
 (lK (aY (aC sEq (bG d8 2 [] (au (aq 5) (au (aq 17) aF))) (aq 18))) (bB (mC (.bl false))) bK)
def J_:MS:=
 (lK (aY (aq 18)) (mD (aq 13) (aq 15) (aq 16)) bK)
def J9:MS:=
 (lK (YK (aY (aC Dz (aU 8 "broken" tR 1 [] (aq 5) aF) (mC .non))) (aY (aC sNe (aU 8 "mark" rR 2 [] (aq 5) (au (aq 6) aF)) (aC a_ (aq 13) (aq 6))))) (bB (mC (.bl false))) bK)
def J8:MS:=
 (lK (aY (aC sNe (aU 8 "mark" rR 2 [] (aq 5) (au (aq 8) aF)) (aC a_ (aq 13) (aq 8)))) (bB (mC (.bl false))) bK)
def JQ:MS:=
 (aQ (cu (aC a_ (A_ (au (aq 8) (au (aq 8) (au (aq 8) (au (aq 6) aF))))) (aC jj (aC mz (aq 14) (mC (.int 2))) (mC (.int 4)))) (gN 15))
 (aQ (cu (aC jj (aC mz (aq 14) (mC (.int 8))) (aC tu (Bb jz (au (aC a_ (aq 11) (aq 15)) aF)) (mC (.int 2)))) (gN 16))
 (aQ GJ
 (aQ (cu (gw (au (mC (.str "settle")) (au (aq 15) (au (aq 16) (au (bG tH 4 [] (au (aC mz (aq 14) (mC (.int 80))) (au (aq 1) (au (aC a_ (aq 12) (aq 15)) (au (aq 16) aF))))) aF))))) (gN 17))
 (aQ (cu (bG wO 6 [] (au (aq 17) (au (aC a_ (aq 11) (aq 15)) (au (aq 2) (au (aC a_ (aq 12) (aq 15)) (au (aC a_ (aq 13) (aq 15)) (au (aq 3) aF))))))) (gN 18))
 (aQ Ka
 (aQ J_
 (aQ J9
 J8))))))))
def Xv:MS:=
 (DG (Ba (mSl (aq 0) (IK (mC (.int 4))) (IK (mC (.int 44))))) (gN 14) JQ)
def acG:MS:=
 (aQ (cu (IV [0] (Iz (au (mC (.int 5)) aF)) Lr (aC tu (aC jj (bG b8 2 [] (au (aq 1) (au (mC (.int 0)) aF))) (mC (.int 16))) (aC R0 (mC (.int 11)) (aq 0)))) (gN 1))
 (aQ (cu (bG pF 2 [] (au (aC a_ (A_ (au (mC (.int 31)) (au (mC (.int 28)) (au (mC (.int 29)) (au (mC (.int 30)) (au (mC (.int 31)) aF)))))) (aC jj (aC mz (bG b8 2 [] (au (aq 0) (au (mC (.int 0)) aF))) (mC (.int 16))) (mC (.int 5)))) (au (aq 1) aF))) (gN 2))
 (aQ (cu (gw (au (aC mz (aC jj (bG b8 2 [] (au (aq 0) (au (mC (.int 1)) aF))) (mC (.int 3))) (mC (.int 2))) (au (aC mz (aC jj (aC mz (bG b8 2 [] (au (aq 0) (au (mC (.int 1)) aF))) (mC (.int 3))) (mC (.int 3))) (mC (.int 2))) aF))) (gN 3))
 (aQ (cu (mBM "str" K3 (mC (.str " ")) (au (A_ (au (mC (.str "once")) (au (mC (.str "best")) (au (aC a_ (A_ (au (mC (.str "own")) (au (mC (.str "old")) aF))) (aC a_ (aq 3) (mC (.int 0)))) (au (aC a_ (A_ (au (mC (.str "most")) (au (mC (.str "half")) aF))) (aC a_ (aq 3) (mC (.int 1)))) aF))))) aF)) (gN 4))
 (aQ (cu (yV 8 rT 3 [] (au (aq 2) (au (yV 6 gP 2 [] (au (aq 4) aF)) aF))) (gN 5))
 (aQ (cu (aC tu (mC (.int 1)) (aC jj (aC mz (bG b8 2 [] (au (aq 0) (au (mC (.int 1)) aF))) (mC (.int 9))) (aC RX (mC (.int 10)) (mC (.int 40))))) (gN 6))
 (aQ (cu (bG uN 7 [] (au (aq 5) (au (aq 1) (au (aq 2) (au (mC (.int 0)) (au (aq 6) (au (A_ aF) (au (bG b8 2 [] (au (aq 0) (au (mC (.int 2)) aF))) aF)))))))) (gN 7))
 (aQ (cu (aC tu (aC tu (aq 6) (mC (.int 1))) (aC jj (aC mz (bG b8 2 [] (au (aq 0) (au (mC (.int 3)) aF))) (mC (.int 7))) (mC (.int 3)))) (gN 8))
 (aQ (cu (bG pB 5 [] (au (aq 5) (au (aq 1) (au (aq 6) (au (Bb jz (au (aq 7) aF)) (au (bG b8 2 [] (au (aq 0) (au (mC (.int 3)) aF))) aF)))))) (gN 9))
 (aQ (cu (bG uN 7 [] (au (aq 5) (au (aq 1) (au (aq 2) (au (mC (.int 1)) (au (aq 8) (au (mSl (aq 7) uP (IK (aq 9))) (au (aC mz (bG b8 2 [] (au (aq 0) (au (mC (.int 3)) aF))) (mC (.int 21))) aF)))))))) (gN 10))
 (aQ (cu (m_ [((aq 6),(aq 7)),((aq 8),(aq 10))]) (gN 11))
 (aQ (cu (m_ [((aq 6),(m_ [((aC a_ (aq 1) (mC (.int 0))),(mC (.int 100))),((aC a_ (aq 1) (mC (.int 1))),(aq 9))])),((aq 8),(m_ [((aC a_ (aq 1) (mC (.int 1))),(mC (.int 100)))]))]) (gN 12))
 (aQ (cu (m_ [((aq 6),(mC (.int 0))),((aq 8),(mC (.int 0)))]) (gN 13))
 (aQ Xv
 (bB (wR (aC sEq (aU 8 "line" j0 2 [] (aq 5) (au (aq 6) aF)) (aq 7)) (aC sEq (aU 8 "line" j0 2 [] (aq 5) (au (aq 8) aF)) (aq 10))))))))))))))))))
def afF:Fn:=aM 19 acG
def Gr(M M':Mem):Prop:=∀(i:Nat) (o:MO),M[i]? = some o->M'[i]? = some o
theorem Gr.trans{M M1 M2:Mem}(a:Gr M M1)(b:Gr M1 M2):Gr M M2:=λi o h=>b i o (a i o h)
theorem Gr.app:Gr M (M++xs):=λi o h=>by
 rw[zad (List.getElem?_eq_some_iff.mp h).1];exact h
theorem Bc{M:Mem}{i:Nat}{o:MO}(h:M[i]? = some o):i<M.length:=(List.getElem?_eq_some_iff.mp h).1
theorem bL:(M++[o])[M.length]? = some o:=by simp
theorem T7(q:D->Bool)(f:D->D)(hs:gh src M)(ht:∀d∈ds,tt (some d::ce) M= .ok (q d) M)(hf:∀d∈ds,te (some d::ce) M= .ok (f d) M):
  t7 src tt te ce ds [] M= .ok (.ref M.length) (M++[.lst ((ds.filter q).map f)]):=by
 have key:∀(ds ys:List D),(∀d∈ds,tt (some d::ce) M= .ok (q d) M)->(∀d∈ds,te (some d::ce) M= .ok (f d) M)->t7 src tt te ce ds ys M= .ok (.ref M.length) (M++[.lst (ys++(ds.filter q).map f)]):=by
  intro ds
  induction ds with
  | nil=>intro ys _ _;unfold t7;rw[if_pos hs];simp
  | cons d r ih=>
   intro ys h1 h2
   unfold t7
   rw[if_pos hs,h1 d xB]
   show(Out.ok _ _).bind _=_
   rw[Out.bI]
   cases z:q d with
   | false=>
    simp only[Bool.false_eq_true,if_false]
    rw[ih _ (λx hx=>h1 x (yT _ hx)) λx hx=>h2 x (yT _ hx),List.filter_cons,z]
    simp
   | true=>
    simp only[if_true]
    rw[h2 d xB]
    show(Out.ok _ _).bind _=_
    rw[Out.bI,ih _ (λx hx=>h1 x (yT _ hx)) λx hx=>h2 x (yT _ hx),List.filter_cons,z]
    simp
 have:=key ds [] ht hf
 simpa using this
def hv(hs:List Nat):List D:=hs.map λ(h:Nat)=>D.int (h:Int)
theorem U9(n:Nat)(p:Nat->Bool)(q:D->Bool)(h:∀i,i<n->q (.int (0+(i:Int)))=p i):((C_ 0 n).filter q).map (λd=>d)=hv ((List.range n).filter p):=by
 unfold C_ hv
 rw[List.map_id',List.filter_map]
 have:(List.range n).filter (q∘λ(k:Nat)=>D.int (0+(k:Int)))=(List.range n).filter p:=by
  refine List.filter_congr λi hi=> ?_
  exact h i (List.mem_range.mp hi)
 rw[this]
 refine List.map_congr_left λi _=> ?_
 show D.int (0+(i:Int))=D.int (i:Int)
 rw[Int.zero_add]
theorem Fw(h:0<=j/\j<=1000000/\i.natAbs<2 ^ 64):Dy (.int i) (.int j) M= .ok (.int (i*2 ^ j.toNat)) M:=by
 unfold Dy;rw[HR,if_pos (by unfold Zq;exact zaf h)]
theorem Wn(h:0<=j):U0 (.int i) (.int j) M= .ok (.int (i / 2 ^ j.toNat)) M:=by
 unfold U0;rw[HR,if_pos (by unfold alj;exact zaf h)]
theorem ail(n i:Nat):(!decide (Builtin.bitAnd (n:Int) (1*2 ^ (0+(i:Int)).toNat)=0))=n.testBit i:=by
 have e1:Builtin.bitAnd (n:Int) (1*2 ^ (0+(i:Int)).toNat)=((n &&& 2 ^ i:Nat):Int):=by
  rw[Int.zero_add,zak,HM.Qe,HM.t8]
 rw[e1]
 have q:=HM.M6 n i
 cases z:n.testBit i with
 | true=>
  have q':=q.mpr z
  simp only[Bool.not_eq_true',decide_eq_false_iff_not]
  omega
 | false=>
  have q':¬(n &&& 2 ^ i≠0):=λr=>by rw[q.mp r]at z;cases z
  simp only[Bool.not_eq_false',decide_eq_true_eq]
  omega
theorem adl(n i:Nat):decide (Builtin.bitAnd ((n:Int) / 2 ^ (0+(i:Int)).toNat) 1=1)=n.testBit i:=by
 have e1:Builtin.bitAnd ((n:Int) / 2 ^ (0+(i:Int)).toNat) 1=((n / 2 ^ i &&& 1:Nat):Int):=by
  have:((n:Int) / 2 ^ (0+(i:Int)).toNat)=((n / 2 ^ i:Nat):Int):=by
   rw[Int.zero_add,zak]
   simp
  rw[this]
  exact HM.t8 _ 1
 rw[e1]
 have q:=HM.RG n i
 cases z:n.testBit i with
 | true=>
  have q':=q.mpr z
  simp only[decide_eq_true_eq]
  omega
 | false=>
  have q':¬(n / 2 ^ i &&& 1=1):=λr=>by rw[q.mp r]at z;cases z
  simp only[decide_eq_false_iff_not]
  omega
def qB(f:Int->Bool)(d:D):Bool:=match d with
 | .int j=>f j
 | _=>false
theorem W6{lo:Int}{n:Nat}{d:D}(h:d∈C_ lo n):∃i:Nat,i<n/\d= .int (lo+i):=by
 obtain⟨i,hi⟩:=List.getElem?_of_mem h
 exact⟨i,(Ce hi).1,(Ce hi).2⟩
theorem Bp(n:Nat)(hn:n<2 ^ 60):tK [.int n] M= .ok (.ref M.length) (M++[.lst (hv (HM.bW n))]):=by
 have hz:=HM.intBits_le n hn
 have e1:Nh [.int (Builtin.Int.intBits n:Nat)] M= .ok ⟨none,C_ 0 (Builtin.Int.intBits n)⟩ M:=by
  have:=FZ (M:=M) (j:=(Builtin.Int.intBits n:Nat)) () ()
  simpa using this
 have e2:=T7 (src:=none) (tt:=aY (aC sNe (aC K5 (aq 1) (aC Dy (mC (.int 1)) (aq 0))) (mC (.int 0)))) (te:=aq 0) (ce:=[some (.int n)]) (M:=M) (qB λj=> !decide (Builtin.bitAnd (n:Int) (1*2 ^ j.toNat)=0)) (λd=>d) (ds:=C_ 0 (Builtin.Int.intBits n)) trivial
  (λd hd=>by
   obtain⟨i,hi,rfl⟩:=W6 hd
   have:Dy (.int 1) (.int (0+(i:Int))) M= .ok (.int (1*2 ^ (0+(i:Int)).toNat)) M:=Fw ⟨(),(),by decide⟩
   simp[this,qB,aaC,-Int.zero_add,-Int.one_mul])
  (λd hd=>akk)
 have e3:=U9 (Builtin.Int.intBits n) (λh=>n.testBit h) (qB λj=> !decide (Builtin.bitAnd (n:Int) (1*2 ^ j.toNat)=0)) (λi _=>ail n i)
 rw[HM.Qy n hn]at e3
 rw[e3]at e2
 simp only[tK,Er]
 simp[qP,e1,e2]
theorem W8(n:Nat)(hn:n<2 ^ 60):∃M',Lq [.int n] M= .ok (.int (HM.cnt n:Nat)) M'/\Gr M M':=by
 refine⟨M++[.lst (hv (HM.bW n))],?_,Gr.app⟩
 simp only[Lq,VM]
 simp[Bp n hn,qG bL,hv,HM.cnt]
theorem afx:Nh [.int 60] M= .ok ⟨none,C_ 0 60⟩ M:=FZ () ()
def jK(S p:Nat)(h:Bool):Bool:=if h then decide (HM.cnt p<=2*HM.cnt (S &&& p))else decide (HM.cnt p<2*HM.cnt (S &&& p))
theorem V0(hp:p<2 ^ 60):S &&& p<2 ^ 60:=Nat.lt_of_le_of_lt Nat.and_le_right hp
theorem aed:R0 (.int 2) (.int j) M= .ok (.int (2*j)) M:=RZ (.inl ())
theorem Mt(S p:Nat)(h:Bool)(hp:p<2 ^ 60):∃M',Ci [.int S,.int p,.bl h] M= .ok (.bl (jK S p h)) M'/\Gr M M':=by
 obtain⟨M1,e1,g1⟩:=W8 (M:=M) (S &&& p) (V0 hp)
 obtain⟨M2,e2,g2⟩:=W8 (M:=M1) p hp
 refine⟨M2,?_,g1.trans g2⟩
 have ea:Builtin.bitAnd (S:Int) (p:Int)=((S &&& p:Nat):Int):=HM.t8 S p
 simp only[Ci,pP,Je]
 cases h with
 | true=>
  simp[ea,e1,aed,e2,jK]
  omega
 | false=>
  simp[ea,e1,aed,e2,jK]
  omega
theorem ac0(S p q:Nat)(h:Bool)(hp:p<2 ^ 60)(hq:q<2 ^ 60):∃M',Ln [.tup [.int p,.int q],.int S,.bl h] M= .ok (.bl (jK S p h&&(decide (q=0)||jK S q h))) M'/\Gr M M':=by
 obtain⟨M1,e1,g1⟩:=Mt (M:=M) S p h hp
 cases z:jK S p h with
 | false=>
  rw[z]at e1
  exact⟨M1,by simp[Ln,Bv,Gz,e1],g1⟩
 | true=>
  rw[z]at e1
  by_cases hq0:q=0
  ·subst hq0
   exact⟨M1,by simp[Ln,Bv,Gz,e1],g1⟩
  ·obtain⟨M2,e2,g2⟩:=Mt (M:=M1) S q h hq
   exact⟨M2,by simp[Ln,Bv,Gz,e1,hq0,e2],g1.trans g2⟩
def Ch(p:Nat->Prop)(M M':Mem):Prop:=M.length<=M'.length/\∀(i:Nat) (o:MO),¬p i->M[i]? = some o->M'[i]? = some o
theorem Ch.refl{p:Nat->Prop}:Ch p M M:=⟨zaa _,λ_ _ _ h=>h⟩
theorem Ch.trans{p:Nat->Prop}{M M1 M2:Mem}(a:Ch p M M1)(b:Ch p M1 M2):Ch p M M2:=⟨yY a.1 b.1,λi o n h=>b.2 i o n (a.2 i o n h)⟩
theorem Ch.mono{p q:Nat->Prop}{M M1:Mem}(a:Ch p M M1)(h:∀i,i<M.length->p i->q i):Ch q M M1:=⟨a.1,λi o n e=>a.2 i o (λz=>n (h i (Bc e) z)) e⟩
theorem Gr.le(h:Gr M M'):M.length<=M'.length:=by
 by_cases z:M.length=0
 ·omega
 ·have:=Bc (h (M.length - 1) _ (zab ()))
  omega
theorem Gr.ch{p:Nat->Prop}(h:Gr M M'):Ch p M M':=⟨h.le,λi o _ e=>h i o e⟩
theorem Ch.set{p:Nat->Prop}(h:p n):Ch p M (M.set n o):=⟨by simp,λi x z e=>by
 by_cases q:i=n
 ·subst q;exact absurd h z
 ·rw[zah (Ne.symm q)];exact e⟩
theorem ir{M:Mem}{n:Nat}{o o':MO}(h:M[n]? = some o'):(M.set n o)[n]? = some o:=by
 rw[zai (Bc h)]
theorem sI{M:Mem}{n m:Nat}{o x:MO}(h:M[n]? = some x)(hn:n≠m):(M.set m o)[n]? = some x:=by
 rw[zah (Ne.symm hn)];exact h
section
variable{κ α:Type}[DecidableEq κ]
noncomputable def gv(l:List (κ×α))(k:κ):Option α:=(l.find? λp=>decide (p.1=k)).map (·.2)
noncomputable def gp(l:List (κ×α))(k:κ)(x:α):List (κ×α):=if(l.any λp=>decide (p.1=k))=true then l.map (λp=>if p.1=k then(p.1,x)else p)else l++[(k,x)]
@[simp] theorem ab0:gv ([]:List (κ×α)) k=none:=rfl
theorem l_{p:κ×α}{l:List (κ×α)}{k:κ}:gv (p::l) k=if p.1=k then some p.2 else gv l k:=by
 by_cases h:p.1=k<;>simp[gv,h]
theorem acI{l:List (κ×α)}{k:κ}:(l.any λp=>decide (p.1=k))=(gv l k).isSome:=by
 induction l with
 | nil=>rfl
 | cons p l ih=>rw[List.any_cons,ih,l_];by_cases h:p.1=k<;>simp[h]
theorem ahN{l:List (κ×α)}{k k':κ}{i:α}:gv (l.map (λp=>if p.1=k then(p.1,i)else p)) k'=if k'=k then(gv l k).map λ_=>i else gv l k':=by
 induction l with
 | nil=>simp
 | cons p l ih=>
  rw[List.map_cons,l_,l_,l_,ih]
  by_cases h:p.1=k
  ·by_cases h':k'=k
   ·subst h';simp[h]
   ·simp[h,h',Ne.symm h',λz:k=k'=>h' z.symm]
  ·by_cases h':k'=k
   ·subst h';simp[h]
   ·simp[h,h']
theorem ahO{l:List (κ×α)}{k k':κ}{i:α}:gv (l++[(k,i)]) k'=(gv l k').or (if k=k' then some i else none):=by
 induction l with
 | nil=>simp[l_]
 | cons p l ih=>rw[List.cons_append,l_,l_,ih];by_cases h:p.1=k'<;>simp[h]
theorem Jf{l:List (κ×α)}{k k':κ}{i:α}:gv (gp l k i) k'=if k'=k then some i else gv l k':=by
 unfold gp
 rw[acI]
 split
 ·rename_i h
  rw[ahN]
  obtain⟨j,hj⟩:=Option.isSome_iff_exists.mp h
  simp[hj]
 ·rename_i h
  rw[ahO]
  by_cases z:k'=k
  ·subst z
   rw[Option.not_isSome_iff_eq_none.mp h];simp
  ·rw[if_neg (λq:k=k'=>z q.symm),if_neg z];simp
theorem ab2{l:List (κ×α)}{k:κ}{i:α}:(gp l k i).length<=l.length+1:=by
 unfold gp
 split<;>simp
variable{κ':Type}[DecidableEq κ']
def ge(f:κ->κ')(g:α->D)(l:List (κ×α)):List (κ'×D):=l.map λp=>(f p.1,g p.2)
theorem Mg{f:κ->κ'}{g:α->D}(hf:∀a b,f a=f b->a=b){l:List (κ×α)}{k:κ}:uX (ge f g l) (f k)=(gv l k).map g:=by
 induction l with
 | nil=>rfl
 | cons p l ih=>
  rw[l_]
  have e:ge f g (p::l)=(f p.1,g p.2)::ge f g l:=rfl
  rw[e]
  by_cases h:p.1=k
  ·subst h;simp[uX]
  ·have:f p.1≠f k:=λz=>h (hf _ _ z)
   have e2:uX ((f p.1,g p.2)::ge f g l) (f k)=uX (ge f g l) (f k):=by simp[uX,this]
   rw[e2,ih];simp[h]
theorem Vy{f:κ->κ'}{g:α->D}(hf:∀a b,f a=f b->a=b){l:List (κ×α)}{k:κ}{i:α}:P_ (ge f g l) (f k) (g i)=ge f g (gp l k i):=by
 have e:((ge f g l).any λkv=>decide (kv.1=f k))=(l.any λp=>decide (p.1=k)):=by
  unfold ge
  rw[List.any_map]
  congr 1
  funext p
  have:(f p.1=f k)=(p.1=k):=propext ⟨hf _ _,λz=>by rw[z]⟩
  simp[this]
 unfold P_ gp
 rw[e]
 split
 ·unfold ge
  rw[List.map_map,List.map_map]
  congr 1
  funext p
  by_cases h:p.1=k
  ·simp[h]
  ·have:f p.1≠f k:=λz=>h (hf _ _ z)
   simp[h,this]
 ·unfold ge
  simp
@[simp] theorem QC:(ge f g l).length=l.length:=by simp[ge]
end
def kN(h:Nat):Key:= .inl (h:Int)
def kI(t:Int):Key:= .inl t
def kP(p:Nat×Int):List Key:=[.inl (p.1:Int),.inl p.2]
def kQ(p:Int×Nat):List Key:=[.inl p.1,.inl (p.2:Int)]
theorem abN(a b:Nat)(h:kN a=kN b):a=b:=by
 have:(a:Int)=(b:Int):=by simpa[kN]using h
 omega
theorem Qs(a b:Int)(h:kI a=kI b):a=b:=by simpa[kI]using h
theorem abM(a b:Nat×Int)(h:kP a=kP b):a=b:=by
 obtain⟨a1,a2⟩:=a
 obtain⟨b1,b2⟩:=b
 simp[kP]at h
 have:a1=b1:=()
 simp[h,this]
def nD(n:Nat):D:= .int (n:Int)
def eD(e:Int×Nat):D:= .tup [.int e.1,.int (e.2:Int)]
def Nb(M:Mem)(n:Nat)(kvs:List (List Key×D)):Prop:=M[n]? = some (.dt kvs)\/M[n]? = some (.dk [])/\kvs=[]
theorem Nb.ch{p:Nat->Prop}(h:Nb M n kvs)(c:Ch p M M')(hn:¬p n):Nb M' n kvs:=h.imp (c.2 _ _ hn) λz=>⟨c.2 _ _ hn z.1,z.2⟩
theorem Nb.dic(h:Nb M n kvs):tX (.ref n) M=true:=by
 rcases h with h | h
 ·exact aex h
 ·exact lZ h.1
theorem Nb.some(h:Nb M n kvs):∃o,M[n]? = some o:=by
 rcases h with h | h
 ·exact⟨_,h⟩
 ·exact⟨_,h.1⟩
section
variable{M:Mem}{n:Nat}{α:Type}{g:α->D}
theorem Kw:toKeys [.int (p.1:Int),.int p.2]=some (kP p):=rfl
theorem ajq{κ:Type}[DecidableEq κ]{f:κ->List Key}(hf:∀a b,f a=f b->a=b){l:List (κ×α)}{ds:List D}{k:κ}(h:Nb M n (ge f g l))(hk:toKeys ds=some (f k)):
  ∃M',CP M n (.tup ds)=some ((gv l k).map g,M')/\Nb M' n (ge f g l)/\Ch (· = n) M M':=by
 rcases h with h | ⟨h,e⟩
 ·exact⟨M,by rw[ah6 h hk,Mg hf],.inl h,Ch.refl⟩
 ·have e':l=[]:=by cases l with
   | nil=>rfl
   | cons _ _=>simp[ge]at e
  subst e'
  exact⟨_,by rw[ah7 h hk];rfl,.inl (ir h),Ch.set rfl⟩
theorem QB(h:CP M n k=Option.some (o,M')):CK (.ref n) k x M= .ok (o.getD x) M':=by
 simp only[CK,h]
 cases o<;>rfl
theorem Xn(h:Nb M n (ge kP g l))(p:Nat×Int)(x:D):
  ∃M',CK (.ref n) (.tup [.int (p.1:Int),.int p.2]) x M= .ok (((gv l p).map g).getD x) M'/\Nb M' n (ge kP g l)/\Ch (· = n) M M':=by
 obtain⟨M',e,t,c⟩:=ajq abM h (Kw (p:=p))
 exact⟨M',QB e,t,c⟩
theorem WT(h:Nb M n (ge kP g l))(p:Nat×Int)(x:α)(hl:l.length<=1000):CQ M (.ref n) (.tup [.int (p.1:Int),.int p.2]) (g x)=some (M.set n (.dt (ge kP g (gp l p x)))):=by
 have hz:(ge kP g l).length<sizeLine:=by
  rw[QC]
  have:1000<sizeLine:=by decide
  omega
 rcases h with h | ⟨h,e⟩
 ·simp only[CQ,h,Kw,if_pos hz,<-Vy abM]
 ·have e':l=[]:=by cases l with
   | nil=>rfl
   | cons _ _=>simp[ge]at e
  subst e'
  simp only[CQ,h,Kw,toKey]
  rfl
theorem ab5(h:M[n]? = some (.dk (ge kN g l)))(k:Nat)(x:D):CK (.ref n) (.int (k:Int)) x M= .ok (((gv l k).map g).getD x) M:=
 QB (by rw[QS h];show some (uX (ge kN g l) (kN k),M)=_;rw[Mg abN])
theorem Xo(h:M[n]? = some (.dk (ge kI g l)))(k:Int)(x:D):CK (.ref n) (.int k) x M= .ok (((gv l k).map g).getD x) M:=
 QB (by rw[QS h];show some (uX (ge kI g l) (kI k),M)=_;rw[Mg Qs])
theorem WW(h:M[n]? = some (.dk (ge kN g l)))(k:Nat)(x:α)(hl:l.length<=1000):CQ M (.ref n) (.int (k:Int)) (g x)=some (M.set n (.dk (ge kN g (gp l k x)))):=by
 have hz:(ge kN g l).length<sizeLine:=by
  rw[QC]
  have:1000<sizeLine:=by decide
  omega
 simp only[CQ,h,toKey,if_pos hz]
 rw[<-Vy abN]
 rfl
theorem Sd(h:M[n]? = some (.dk (ge kI g l)))(k:Int)(x:α)(hl:l.length<=1000):CQ M (.ref n) (.int k) (g x)=some (M.set n (.dk (ge kI g (gp l k x)))):=by
 have hz:(ge kI g l).length<sizeLine:=by
  rw[QC]
  have:1000<sizeLine:=by decide
  omega
 simp only[CQ,h,toKey,if_pos hz]
 rw[<-Vy Qs]
 rfl
theorem aof(h:M[n]? = some (.dk (ge kI g l)))(k:Int):sIn (.int k) (.ref n) M= .ok (.bl (gv l k).isSome) M:=by
 refine lU ?_
 have:CP M n (.int k)=some ((gv l k).map g,M):=by rw[QS h];show some (uX (ge kI g l) (kI k),M)=_;rw[Mg Qs]
 simp only[U5,this]
 simp
end
inductive Wh where
 | st
 | ask (w n:Int) (o:D)
 | K7 (a b:Nat)
noncomputable def Wh.d:Wh->D
 | .st=> .tup [.str "start"]
 | .ask w n o=> .tup [.str "ask",.int w,.int n,o]
 | .K7 a b=> .tup [.str "roll",.int (a:Int),.int (b:Int)]
abbrev En:=Int×Wh
def oK(e:En):D:= .tup [.int e.1,e.2.d]
def esD(es:List En):D:= .tup (es.map oK)
set_option genInjectivity false in
structure BA where
 b:Nat
 rl:Nat
 bl:Nat
 tm:Nat
 vt:Nat
 ak:Nat
 se:Nat
 sd:Nat
 ro:Nat
 ln:Nat
 mr:Nat
 pl:Nat
 rp:Nat
 bt:Nat
 hd:Nat
 lk:Nat
 sn:Nat
set_option genInjectivity false in
structure BO where
 S:Nat
 r1:Bool
 r2:Bool
 r3:Bool
 r4:Bool
 cnt:Nat
 br:D
 tm:List (Nat×Int)
 vt:List ((Nat×Int)×Nat)
 ak:List ((Nat×Int)×(Int×Nat))
 se:List (Int×Nat)
 ro:List (Nat×List En)
 ln:List (Int×List En)
 mr:List (Int×Nat)
 pl:List ((Nat×Int)×Nat)
 bt:List (Int×Nat)
 hd:List ((Nat×Int)×Nat)
 lk:List ((Int×Nat)×D)
 sn:List ((Int×Nat)×Bool)
noncomputable def uz(a b c d:Bool):MO:= .ins 6 [("once",.bl a),("best",.bl b),("own",.bl c),("most",.bl d)]
noncomputable def MJ(a:BA)(S cnt:Nat)(br:D):MO:= .ins 8 [("first",.int (S:Int)),("rules",.ref a.rl),("ballots",.ref a.bl),("strides",.ref a.sd),("replies",.ref a.rp),("count",.int (cnt:Int)),("breach",br)]
noncomputable def ali(a:BA):MO:= .ins 0 [("rules",.ref a.rl),("terms",.ref a.tm),("votes",.ref a.vt),("askings",.ref a.ak),("seated",.ref a.se)]
noncomputable def anf(a:BA)(S:Nat):MO:= .ins 7 [("first_roll",.tup [.int (S:Int),.int 0]),("rules",.ref a.rl),("rows",.ref a.ro),("lines",.ref a.ln),("marks",.ref a.mr),("places",.ref a.pl)]
noncomputable def anr(a:BA):MO:= .ins 5 [("beats",.ref a.bt),("heard",.ref a.hd),("looks",.ref a.lk),("seen",.ref a.sn)]
def Oo(a:BA):Prop:=a.b<a.rl/\a.rl<a.bl/\a.bl<a.tm/\a.tm<a.vt/\a.vt<a.ak/\a.ak<a.se/\a.se<a.sd/\a.sd<a.ro/\a.ro<a.ln/\a.ln<a.mr/\a.mr<a.pl/\a.pl<a.rp/\a.rp<a.bt/\a.bt<a.hd/\a.hd<a.lk/\a.lk<a.sn
structure bQ(M:Mem)(a:BA)(s:BO):Prop where
 b:M[a.b]? = some (MJ a s.S s.cnt s.br)
 rl:M[a.rl]? = some (uz s.r1 s.r2 s.r3 s.r4)
 bl:M[a.bl]? = some (ali a)
 tm:M[a.tm]? = some (.dk (ge kN D.int s.tm))
 vt:Nb M a.vt (ge kP nD s.vt)
 ak:Nb M a.ak (ge kP eD s.ak)
 se:M[a.se]? = some (.dk (ge kI nD s.se))
 sd:M[a.sd]? = some (anf a s.S)
 ro:M[a.ro]? = some (.dk (ge kN esD s.ro))
 ln:M[a.ln]? = some (.dk (ge kI esD s.ln))
 mr:M[a.mr]? = some (.dk (ge kI nD s.mr))
 pl:Nb M a.pl (ge kP nD s.pl)
 rp:M[a.rp]? = some (anr a)
 bt:M[a.bt]? = some (.dk (ge kI nD s.bt))
 hd:Nb M a.hd (ge kP nD s.hd)
 lk:Nb M a.lk (ge kQ id s.lk)
 sn:Nb M a.sn (ge kQ D.bl s.sn)
 o:a.b<a.rl/\a.rl<a.bl/\a.bl<a.tm/\a.tm<a.vt/\a.vt<a.ak/\a.ak<a.se/\a.se<a.sd/\a.sd<a.ro/\a.ro<a.ln/\a.ln<a.mr/\a.mr<a.pl/\a.pl<a.rp/\a.rp<a.bt/\a.bt<a.hd/\a.hd<a.lk/\a.lk<a.sn
def Rg(a:BA):Nat->Prop:=λi=>a.b<=i/\i<=a.sn
theorem wU{fs:List (Str×D)}{m:Str}(h:(fs.map (·.1)).contains m=false):fs.lookup m=none:=by
 induction fs with
 | nil=>rfl
 | cons p l ih=>
  rw[List.map_cons,List.contains_cons,Bool.or_eq_false_iff]at h
  rw[List.lookup_cons,h.1]
  exact ih h.2
section
variable{M M':Mem}{a:BA}{s:BO}
noncomputable def ad(a:BA)(i:Nat):Nat:=[a.b,a.rl,a.bl,a.tm,a.vt,a.ak,a.se,a.sd,a.ro,a.ln,a.mr,a.pl,a.rp,a.bt,a.hd,a.lk,a.sn].getD i 0
theorem aln(o:Oo a):∀i,i<16->ad a i<ad a (i+1)
 | 0,_=>o.1
 | 1,_=>o.2.1
 | 2,_=>o.2.2.1
 | 3,_=>o.2.2.2.1
 | 4,_=>o.2.2.2.2.1
 | 5,_=>o.2.2.2.2.2.1
 | 6,_=>o.2.2.2.2.2.2.1
 | 7,_=>o.2.2.2.2.2.2.2.1
 | 8,_=>o.2.2.2.2.2.2.2.2.1
 | 9,_=>o.2.2.2.2.2.2.2.2.2.1
 | 10,_=>o.2.2.2.2.2.2.2.2.2.2.1
 | 11,_=>o.2.2.2.2.2.2.2.2.2.2.2.1
 | 12,_=>o.2.2.2.2.2.2.2.2.2.2.2.2.1
 | 13,_=>o.2.2.2.2.2.2.2.2.2.2.2.2.2.1
 | 14,_=>o.2.2.2.2.2.2.2.2.2.2.2.2.2.2.1
 | 15,_=>o.2.2.2.2.2.2.2.2.2.2.2.2.2.2.2
 | n+16,h=>absurd h (Nat.not_lt.mpr (Nat.le_add_left 16 n))
theorem O5(o:Oo a):∀j i,i<j->j<=16->ad a i<ad a j
 | 0,_,h,_=>absurd h (Nat.not_lt_zero _)
 | j+1,i,h,k=>by
  rcases Nat.lt_or_eq_of_le (Nat.le_of_lt_succ h)with z | z
  ·exact Nat.lt_trans (O5 o j i z (Nat.le_of_lt k)) (aln o j k)
  ·subst z;exact aln o _ k
theorem Dr(o:Oo a)(i j:Nat)(h:(decide (i≠j)&&(decide (i<=16)&&decide (j<=16)))=true):ad a i≠ad a j:=by
 simp only[Bool.and_eq_true,decide_eq_true_eq]at h
 rcases Nat.lt_or_gt_of_ne h.1 with z | z
 ·exact xD (O5 o j i z h.2.2)
 ·exact xS (O5 o i j z h.2.1)
theorem qR(o:Oo a)(i:Nat)(h:decide (i<=16)=true):Rg a (ad a i):=by
 have h:=of_decide_eq_true h
 constructor
 ·cases i with
  | zero=>exact zaa _
  | succ n=>exact Nat.le_of_lt (O5 o (n+1) 0 (Nat.succ_pos n) h)
 ·rcases Nat.lt_or_eq_of_le h with z | z
  ·exact Nat.le_of_lt (O5 o 16 i z (zaa _))
  ·subst z;exact zaa _
theorem bQ.ch{p:Nat->Prop}(h:bQ M a s)(c:Ch p M M')(hp:∀i,a.b<=i->i<=a.sn->¬p i):bQ M' a s:=by
 have o:=h.o
 have r:=λi=> @qR a o i
 exact⟨c.2 _ _ (hp _ (r 0 rfl).1 (r 0 rfl).2) h.b,c.2 _ _ (hp _ (r 1 rfl).1 (r 1 rfl).2) h.rl,c.2 _ _ (hp _ (r 2 rfl).1 (r 2 rfl).2) h.bl,c.2 _ _ (hp _ (r 3 rfl).1 (r 3 rfl).2) h.tm,h.vt.ch c (hp _ (r 4 rfl).1 (r 4 rfl).2),h.ak.ch c (hp _ (r 5 rfl).1 (r 5 rfl).2),c.2 _ _ (hp _ (r 6 rfl).1 (r 6 rfl).2) h.se,c.2 _ _ (hp _ (r 7 rfl).1 (r 7 rfl).2) h.sd,c.2 _ _ (hp _ (r 8 rfl).1 (r 8 rfl).2) h.ro,c.2 _ _ (hp _ (r 9 rfl).1 (r 9 rfl).2) h.ln,c.2 _ _ (hp _ (r 10 rfl).1 (r 10 rfl).2) h.mr,h.pl.ch c (hp _ (r 11 rfl).1 (r 11 rfl).2),c.2 _ _ (hp _ (r 12 rfl).1 (r 12 rfl).2) h.rp,c.2 _ _ (hp _ (r 13 rfl).1 (r 13 rfl).2) h.bt,h.hd.ch c (hp _ (r 14 rfl).1 (r 14 rfl).2),h.lk.ch c (hp _ (r 15 rfl).1 (r 15 rfl).2),h.sn.ch c (hp _ (r 16 rfl).1 (r 16 rfl).2),o⟩
theorem bQ.u_b(h:bQ M a s)(c:Ch (· = a.b) M M')(e:M'[a.b]? = some (MJ a s.S m d)):bQ M' a {s with cnt:=m,br:=d}:=by
 have o:=h.o
 have n:=λi=> @Dr a o i 0
 exact⟨e,c.2 _ _ (n 1 rfl) h.rl,c.2 _ _ (n 2 rfl) h.bl,c.2 _ _ (n 3 rfl) h.tm,h.vt.ch c (n 4 rfl),h.ak.ch c (n 5 rfl),c.2 _ _ (n 6 rfl) h.se,c.2 _ _ (n 7 rfl) h.sd,c.2 _ _ (n 8 rfl) h.ro,c.2 _ _ (n 9 rfl) h.ln,c.2 _ _ (n 10 rfl) h.mr,h.pl.ch c (n 11 rfl),c.2 _ _ (n 12 rfl) h.rp,c.2 _ _ (n 13 rfl) h.bt,h.hd.ch c (n 14 rfl),h.lk.ch c (n 15 rfl),h.sn.ch c (n 16 rfl),o⟩
theorem bQ.amW(h:bQ M a s)(c:Ch (· = a.tm) M M')(e:M'[a.tm]? = some (.dk (ge kN D.int l))):bQ M' a {s with tm:=l}:=by
 have o:=h.o
 have n:=λi=> @Dr a o i 3
 exact⟨c.2 _ _ (n 0 rfl) h.b,c.2 _ _ (n 1 rfl) h.rl,c.2 _ _ (n 2 rfl) h.bl,e,h.vt.ch c (n 4 rfl),h.ak.ch c (n 5 rfl),c.2 _ _ (n 6 rfl) h.se,c.2 _ _ (n 7 rfl) h.sd,c.2 _ _ (n 8 rfl) h.ro,c.2 _ _ (n 9 rfl) h.ln,c.2 _ _ (n 10 rfl) h.mr,h.pl.ch c (n 11 rfl),c.2 _ _ (n 12 rfl) h.rp,c.2 _ _ (n 13 rfl) h.bt,h.hd.ch c (n 14 rfl),h.lk.ch c (n 15 rfl),h.sn.ch c (n 16 rfl),o⟩
theorem bQ.ai0(h:bQ M a s)(c:Ch (· = a.vt) M M')(e:Nb M' a.vt (ge kP nD l)):bQ M' a {s with vt:=l}:=by
 have o:=h.o
 have n:=λi=> @Dr a o i 4
 exact⟨c.2 _ _ (n 0 rfl) h.b,c.2 _ _ (n 1 rfl) h.rl,c.2 _ _ (n 2 rfl) h.bl,c.2 _ _ (n 3 rfl) h.tm,e,h.ak.ch c (n 5 rfl),c.2 _ _ (n 6 rfl) h.se,c.2 _ _ (n 7 rfl) h.sd,c.2 _ _ (n 8 rfl) h.ro,c.2 _ _ (n 9 rfl) h.ln,c.2 _ _ (n 10 rfl) h.mr,h.pl.ch c (n 11 rfl),c.2 _ _ (n 12 rfl) h.rp,c.2 _ _ (n 13 rfl) h.bt,h.hd.ch c (n 14 rfl),h.lk.ch c (n 15 rfl),h.sn.ch c (n 16 rfl),o⟩
theorem bQ.ai5(h:bQ M a s)(c:Ch (· = a.ak) M M')(e:Nb M' a.ak (ge kP eD l)):bQ M' a {s with ak:=l}:=by
 have o:=h.o
 have n:=λi=> @Dr a o i 5
 exact⟨c.2 _ _ (n 0 rfl) h.b,c.2 _ _ (n 1 rfl) h.rl,c.2 _ _ (n 2 rfl) h.bl,c.2 _ _ (n 3 rfl) h.tm,h.vt.ch c (n 4 rfl),e,c.2 _ _ (n 6 rfl) h.se,c.2 _ _ (n 7 rfl) h.sd,c.2 _ _ (n 8 rfl) h.ro,c.2 _ _ (n 9 rfl) h.ln,c.2 _ _ (n 10 rfl) h.mr,h.pl.ch c (n 11 rfl),c.2 _ _ (n 12 rfl) h.rp,c.2 _ _ (n 13 rfl) h.bt,h.hd.ch c (n 14 rfl),h.lk.ch c (n 15 rfl),h.sn.ch c (n 16 rfl),o⟩
theorem bQ.amX(h:bQ M a s)(c:Ch (· = a.se) M M')(e:M'[a.se]? = some (.dk (ge kI nD l))):bQ M' a {s with se:=l}:=by
 have o:=h.o
 have n:=λi=> @Dr a o i 6
 exact⟨c.2 _ _ (n 0 rfl) h.b,c.2 _ _ (n 1 rfl) h.rl,c.2 _ _ (n 2 rfl) h.bl,c.2 _ _ (n 3 rfl) h.tm,h.vt.ch c (n 4 rfl),h.ak.ch c (n 5 rfl),e,c.2 _ _ (n 7 rfl) h.sd,c.2 _ _ (n 8 rfl) h.ro,c.2 _ _ (n 9 rfl) h.ln,c.2 _ _ (n 10 rfl) h.mr,h.pl.ch c (n 11 rfl),c.2 _ _ (n 12 rfl) h.rp,c.2 _ _ (n 13 rfl) h.bt,h.hd.ch c (n 14 rfl),h.lk.ch c (n 15 rfl),h.sn.ch c (n 16 rfl),o⟩
theorem bQ.ai1(h:bQ M a s)(c:Ch (· = a.ro) M M')(e:M'[a.ro]? = some (.dk (ge kN esD l))):bQ M' a {s with ro:=l}:=by
 have o:=h.o
 have n:=λi=> @Dr a o i 8
 exact⟨c.2 _ _ (n 0 rfl) h.b,c.2 _ _ (n 1 rfl) h.rl,c.2 _ _ (n 2 rfl) h.bl,c.2 _ _ (n 3 rfl) h.tm,h.vt.ch c (n 4 rfl),h.ak.ch c (n 5 rfl),c.2 _ _ (n 6 rfl) h.se,c.2 _ _ (n 7 rfl) h.sd,e,c.2 _ _ (n 9 rfl) h.ln,c.2 _ _ (n 10 rfl) h.mr,h.pl.ch c (n 11 rfl),c.2 _ _ (n 12 rfl) h.rp,c.2 _ _ (n 13 rfl) h.bt,h.hd.ch c (n 14 rfl),h.lk.ch c (n 15 rfl),h.sn.ch c (n 16 rfl),o⟩
theorem bQ.ai3(h:bQ M a s)(c:Ch (· = a.ln) M M')(e:M'[a.ln]? = some (.dk (ge kI esD l))):bQ M' a {s with ln:=l}:=by
 have o:=h.o
 have n:=λi=> @Dr a o i 9
 exact⟨c.2 _ _ (n 0 rfl) h.b,c.2 _ _ (n 1 rfl) h.rl,c.2 _ _ (n 2 rfl) h.bl,c.2 _ _ (n 3 rfl) h.tm,h.vt.ch c (n 4 rfl),h.ak.ch c (n 5 rfl),c.2 _ _ (n 6 rfl) h.se,c.2 _ _ (n 7 rfl) h.sd,c.2 _ _ (n 8 rfl) h.ro,e,c.2 _ _ (n 10 rfl) h.mr,h.pl.ch c (n 11 rfl),c.2 _ _ (n 12 rfl) h.rp,c.2 _ _ (n 13 rfl) h.bt,h.hd.ch c (n 14 rfl),h.lk.ch c (n 15 rfl),h.sn.ch c (n 16 rfl),o⟩
theorem bQ.amY(h:bQ M a s)(c:Ch (· = a.mr) M M')(e:M'[a.mr]? = some (.dk (ge kI nD l))):bQ M' a {s with mr:=l}:=by
 have o:=h.o
 have n:=λi=> @Dr a o i 10
 exact⟨c.2 _ _ (n 0 rfl) h.b,c.2 _ _ (n 1 rfl) h.rl,c.2 _ _ (n 2 rfl) h.bl,c.2 _ _ (n 3 rfl) h.tm,h.vt.ch c (n 4 rfl),h.ak.ch c (n 5 rfl),c.2 _ _ (n 6 rfl) h.se,c.2 _ _ (n 7 rfl) h.sd,c.2 _ _ (n 8 rfl) h.ro,c.2 _ _ (n 9 rfl) h.ln,e,h.pl.ch c (n 11 rfl),c.2 _ _ (n 12 rfl) h.rp,c.2 _ _ (n 13 rfl) h.bt,h.hd.ch c (n 14 rfl),h.lk.ch c (n 15 rfl),h.sn.ch c (n 16 rfl),o⟩
theorem bQ.ai2(h:bQ M a s)(c:Ch (· = a.pl) M M')(e:Nb M' a.pl (ge kP nD l)):bQ M' a {s with pl:=l}:=by
 have o:=h.o
 have n:=λi=> @Dr a o i 11
 exact⟨c.2 _ _ (n 0 rfl) h.b,c.2 _ _ (n 1 rfl) h.rl,c.2 _ _ (n 2 rfl) h.bl,c.2 _ _ (n 3 rfl) h.tm,h.vt.ch c (n 4 rfl),h.ak.ch c (n 5 rfl),c.2 _ _ (n 6 rfl) h.se,c.2 _ _ (n 7 rfl) h.sd,c.2 _ _ (n 8 rfl) h.ro,c.2 _ _ (n 9 rfl) h.ln,c.2 _ _ (n 10 rfl) h.mr,e,c.2 _ _ (n 12 rfl) h.rp,c.2 _ _ (n 13 rfl) h.bt,h.hd.ch c (n 14 rfl),h.lk.ch c (n 15 rfl),h.sn.ch c (n 16 rfl),o⟩
theorem bQ.ai4(h:bQ M a s)(c:Ch (· = a.hd) M M')(e:Nb M' a.hd (ge kP nD l)):bQ M' a {s with hd:=l}:=by
 have o:=h.o
 have n:=λi=> @Dr a o i 14
 exact⟨c.2 _ _ (n 0 rfl) h.b,c.2 _ _ (n 1 rfl) h.rl,c.2 _ _ (n 2 rfl) h.bl,c.2 _ _ (n 3 rfl) h.tm,h.vt.ch c (n 4 rfl),h.ak.ch c (n 5 rfl),c.2 _ _ (n 6 rfl) h.se,c.2 _ _ (n 7 rfl) h.sd,c.2 _ _ (n 8 rfl) h.ro,c.2 _ _ (n 9 rfl) h.ln,c.2 _ _ (n 10 rfl) h.mr,h.pl.ch c (n 11 rfl),c.2 _ _ (n 12 rfl) h.rp,c.2 _ _ (n 13 rfl) h.bt,e,h.lk.ch c (n 15 rfl),h.sn.ch c (n 16 rfl),o⟩
theorem bQ.fbl(h:bQ M a s):j5 [8] "ballots" (.ref a.b) M= .ok (.ref a.bl) M:=cD h.b (by simp) rfl
theorem bQ.Xr(h:bQ M a s):j5 [8] "strides" (.ref a.b) M= .ok (.ref a.sd) M:=cD h.b (by simp) rfl
theorem bQ.frp(h:bQ M a s):j5 [8] "replies" (.ref a.b) M= .ok (.ref a.rp) M:=cD h.b (by simp) rfl
theorem bQ.frb(h:bQ M a s):j5 [0,7,8] "rules" (.ref a.bl) M= .ok (.ref a.rl) M:=cD h.bl (by simp) rfl
theorem bQ.ftm(h:bQ M a s):j5 [0] "terms" (.ref a.bl) M= .ok (.ref a.tm) M:=cD h.bl (by simp) rfl
theorem bQ.fvt(h:bQ M a s):j5 [0] "votes" (.ref a.bl) M= .ok (.ref a.vt) M:=cD h.bl (by simp) rfl
theorem bQ.fak(h:bQ M a s):j5 [0] "askings" (.ref a.bl) M= .ok (.ref a.ak) M:=cD h.bl (by simp) rfl
theorem bQ.fse(h:bQ M a s):j5 [0] "seated" (.ref a.bl) M= .ok (.ref a.se) M:=cD h.bl (by simp) rfl
theorem bQ.frs(h:bQ M a s):j5 [0,7,8] "rules" (.ref a.sd) M= .ok (.ref a.rl) M:=cD h.sd (by simp) rfl
theorem bQ.fro(h:bQ M a s):j5 [7] "rows" (.ref a.sd) M= .ok (.ref a.ro) M:=cD h.sd (by simp) rfl
theorem bQ.fln(h:bQ M a s):j5 [7] "lines" (.ref a.sd) M= .ok (.ref a.ln) M:=cD h.sd (by simp) rfl
theorem bQ.fmk(h:bQ M a s):j5 [7] "marks" (.ref a.sd) M= .ok (.ref a.mr) M:=cD h.sd (by simp) rfl
theorem bQ.fpl(h:bQ M a s):j5 [7] "places" (.ref a.sd) M= .ok (.ref a.pl) M:=cD h.sd (by simp) rfl
theorem bQ.fbt(h:bQ M a s):j5 [5] "beats" (.ref a.rp) M= .ok (.ref a.bt) M:=cD h.rp (by simp) rfl
theorem bQ.fhd(h:bQ M a s):j5 [5] "heard" (.ref a.rp) M= .ok (.ref a.hd) M:=cD h.rp (by simp) rfl
theorem bQ.fcn(h:bQ M a s):j5 [8] "count" (.ref a.b) M= .ok (.int (s.cnt:Int)) M:=cD h.b (by simp) rfl
theorem bQ.fbr(h:bQ M a s):j5 [8] "breach" (.ref a.b) M= .ok s.br M:=cD h.b (by simp) rfl
theorem bQ.ffr(h:bQ M a s):j5 [7] "first_roll" (.ref a.sd) M= .ok (.tup [.int (s.S:Int),.int 0]) M:=cD h.sd (by simp) rfl
theorem bQ.f1(h:bQ M a s):j5 [6] "once" (.ref a.rl) M= .ok (.bl s.r1) M:=cD h.rl (by simp) rfl
theorem bQ.f2(h:bQ M a s):j5 [6] "best" (.ref a.rl) M= .ok (.bl s.r2) M:=cD h.rl (by simp) rfl
theorem bQ.f3(h:bQ M a s):j5 [6] "own" (.ref a.rl) M= .ok (.bl s.r3) M:=cD h.rl (by simp) rfl
theorem bQ.f4(h:bQ M a s):j5 [6] "most" (.ref a.rl) M= .ok (.bl s.r4) M:=cD h.rl (by simp) rfl
theorem bQ.Fb(h:bQ M a s){m:Str}(hm:(["first","rules","ballots","strides","replies","count","breach"]:List Str).contains m=false):tW 8 m (.ref a.b) M=true:=wW h.b (wU hm)
theorem bQ.pG(h:bQ M a s){m:Str}(hm:(["rules","terms","votes","askings","seated"]:List Str).contains m=false):tW 0 m (.ref a.bl) M=true:=wW h.bl (wU hm)
theorem bQ.gq(h:bQ M a s){m:Str}(hm:(["first_roll","rules","rows","lines","marks","places"]:List Str).contains m=false):tW 7 m (.ref a.sd) M=true:=wW h.sd (wU hm)
theorem bQ.aej(h:bQ M a s){m:Str}(hm:(["beats","heard","looks","seen"]:List Str).contains m=false):tW 5 m (.ref a.rp) M=true:=wW h.rp (wU hm)
theorem bQ.akh(h:bQ M a s){m:Str}(hm:(["once","best","own","most"]:List Str).contains m=false):tW 6 m (.ref a.rl) M=true:=wW h.rl (wU hm)
end
theorem ab1(g:Gr M0 M)(h:M0.length<=r):Gr M0 (M.set r o):=λi q hq=>by
 have:=Bc hq
 rw[zah ()]
 exact g i q hq
theorem get_set{M:Mem}{n:Nat}{o x:MO}(h:M[n]? = some o):(M.set n x)[n]? = some x:=zai (Bc h)
theorem abO{l i:Nat}{ws:List Str}{w:Str}(h:M[l]? = some (.lst (ws.map D.str)))(hw:ws[i]? = some w):a_ (.ref l) (.int (i:Int)) M= .ok (.str w) M:=
 jr h () (by simp[hw])
theorem YC:U3 (.str w) (.nA [.str a,.str b]) M= .ok (.bl (!(decide (a=w)||decide (b=w)))) M:=by
 refine(wF rfl).trans ?_
 simp only[U4,Rp,zW,Pa]
 simp[inV,eqV,Bool.beq_eq_decide_eq]
def af0(w0 w1 w2 w3:Str):Prop:=(w0= "once" \/ w0= "free")/\(w1= "best" \/ w1= "any")/\(w2= "own" \/ w2= "old")/\(w3= "most" \/ w3= "half")
theorem JN{l i:Nat}{ws:List Str}{w a b:Str}{ds:List D}{u v:Option D}(hM:M[l]? = some (.lst (ws.map D.str)))(hw:ws[i]? = some w)(h:w=a\/w=b):
  dR none (gT 2 (dw (gN 1) (dw (gN 2) tZ))) iz (.tup [.int (i:Int),.nA [.str a,.str b]]::ds) [some (.ref l),u,v] M=dR none (gT 2 (dw (gN 1) (dw (gN 2) tZ))) iz ds [some (.ref l),some (.int (i:Int)),some (.nA [.str a,.str b])] M:=by
 have hl:¬((ws.length:Int)<=(i:Int)):=by have:=(List.getElem?_eq_some_iff.mp hw).1;omega
 have e:iz [some (.ref l),some (.int (i:Int)),some (.nA [.str a,.str b])] M= .next [some (.ref l),some (.int (i:Int)),some (.nA [.str a,.str b])] M:=by
  have hb:(!(decide (a=w)||decide (b=w)))=false:=by rcases h with z | z<;>simp[z]
  simp only[iz,Bk]
  simp only[PJ,ahp,Gu,Cj,MK]
  simp[qG hM,abO hM hw,YC,hl]
  exact λq=>h.elim (λz=>absurd z.symm q) Eq.symm
 rw[dR,if_pos (show gh none M from trivial)]
 simp[e]
theorem Ut(hM:M[l]? = some (.lst ([w0,w1,w2,w3].map D.str)))(hg:af0 w0 w1 w2 w3):yo [.ref l] M= .ok .non M:=by
 obtain⟨g0,g1,g2,g3⟩:=hg
 have en:∀ds:List D,t6 (.nA ds) (.int 0) M= .ok ⟨none,lQ 0 ds⟩ M:=λds=>rfl
 have s0:=λds=>JN (i:=0) (ds:=ds) (u:=none) (v:=none) hM rfl g0
 have s1:=λds u v=>JN (i:=1) (ds:=ds) (u:=u) (v:=v) hM rfl g1
 have s2:=λds u v=>JN (i:=2) (ds:=ds) (u:=u) (v:=v) hM rfl g2
 have s3:=λds u v=>JN (i:=3) (ds:=ds) (u:=u) (v:=v) hM rfl g3
 have lp:dR none (gT 2 (dw (gN 1) (dw (gN 2) tZ))) iz (lQ 0 [.nA [.str "once",.str "free"],.nA [.str "best",.str "any"],.nA [.str "own",.str "old"],.nA [.str "most",.str "half"]]) [some (.ref l),none,none] M= .next [some (.ref l),some (.int 3),some (.nA [.str "most",.str "half"])] M:=by
  refine(s0 _).trans ((s1 _ _ _).trans ((s2 _ _ _).trans ((s3 _ _ _).trans ?_)))
  show dR _ _ _ [] _ _=_
  rw[dR,if_pos (show gh none M from trivial)]
  rfl
 simp only[yo,yL,Bq,Bj]
 simp[lp,qG hM]
theorem R7(hy:y.length<=1000)(hs:Txt.split y " " = [w0,w1,w2,w3])(hg:af0 w0 w1 w2 w3):
  ∃M',gP [.ref M.length,.str y] (M++[.ins 6 []])= .ok .non M'/\Gr M M'/\M'[M.length]? = some (uz (decide (w0= "once")) (decide (w1= "best")) (decide (w2= "own")) (decide (w3= "most"))):=by
 obtain⟨N,hN⟩:∃N,N=M++[MO.ins 6 []]:=⟨_,rfl⟩
 obtain⟨N1,Ow⟩:∃N1,N1=N++[MO.lst ([w0,w1,w2,w3].map D.str)]:=⟨_,rfl⟩
 have g:Gr M N:=by rw[hN];exact Gr.app
 have g1:Gr N N1:=by rw[Ow];exact Gr.app
 have hl:N1[N.length]? = some (.lst ([w0,w1,w2,w3].map D.str)):=by rw[Ow];exact bL
 have h0:N1[M.length]? = some (.ins 6 []):=g1 _ _ (by rw[hN];exact bL)
 have nl:N.length=M.length+1:=by rw[hN];simp
 have e1:Hq (.str y) [.str " "] N= .ok (.ref N.length) N1:=by rw[Yj () (by decide),hs,<-Ow]
 have ty:Wa "str" (.str y) N=true:=rfl
 have e2:=Ut hl hg
 obtain⟨b0,hb0⟩:∃b0,b0=decide (w0= "once"):=⟨_,rfl⟩
 obtain⟨b1,hb1⟩:∃b1,b1=decide (w1= "best"):=⟨_,rfl⟩
 obtain⟨b2,hb2⟩:∃b2,b2=decide (w2= "own"):=⟨_,rfl⟩
 obtain⟨b3,hb3⟩:∃b3,b3=decide (w3= "most"):=⟨_,rfl⟩
 have q1:ju [6] "once" (.bl b0) (.ref M.length) N1=some (N1.set M.length (.ins 6 [("once",.bl b0)])):=by
  rw[gK h0 (by simp) (by simp)];rfl
 have q2:ju [6] "best" (.bl b1) (.ref M.length) (N1.set M.length (.ins 6 [("once",.bl b0)]))=some (N1.set M.length (.ins 6 [("once",.bl b0),("best",.bl b1)])):=by
  rw[gK (get_set h0) (by simp) (by simp),List.set_set];rfl
 have q3:ju [6] "own" (.bl b2) (.ref M.length) (N1.set M.length (.ins 6 [("once",.bl b0),("best",.bl b1)]))=some (N1.set M.length (.ins 6 [("once",.bl b0),("best",.bl b1),("own",.bl b2)])):=by
  rw[gK (get_set h0) (by simp) (by simp),List.set_set];rfl
 have q4:ju [6] "most" (.bl b3) (.ref M.length) (N1.set M.length (.ins 6 [("once",.bl b0),("best",.bl b1),("own",.bl b2)]))=some (N1.set M.length (uz b0 b1 b2 b3)):=by
  rw[gK (get_set h0) (by simp) (by simp),List.set_set];rfl
 have ix:∀(o:MO) (i:Nat) (w:Str),[w0,w1,w2,w3][i]? = some w->a_ (.ref N.length) (.int (i:Int)) (N1.set M.length o)= .ok (.str w) (N1.set M.length o):=λo i w hw=>abO (by rw[zah ()];exact hl) hw
 have i0:a_ (.ref N.length) (.int 0) N1= .ok (.str w0) N1:=abO (i:=0) hl rfl
 have i1:=λo=>ix o 1 w1 rfl
 have i2:=λo=>ix o 2 w2 rfl
 have i3:=λo=>ix o 3 w3 rfl
 simp only[Int.cast_ofNat_Int]at i1 i2 i3
 refine⟨N1.set M.length (uz b0 b1 b2 b3),?_,ab1 (g.trans g1) (zaa _),by rw[<-hb0,<-hb1,<-hb2,<-hb3];exact get_set h0⟩
 simp only[gP,j9,Bm]
 simp[<-hN,ty,e1,e2,i0,i1,i2,i3,<-hb0,<-hb1,<-hb2,<-hb3,q1,q2,q3,q4]
theorem U8:∃M',gP [.ref M.length,.str "once best own most"] (M++[.ins 6 []])= .ok .non M'/\Gr M M'/\M'[M.length]? = some (uz true true true true):=
 R7 (by decide) (show Txt.split "once best own most" " " = ([("once" : Str),"best","own","most"]:List Str) by decide +kernel) ⟨.inl rfl,.inl rfl,.inl rfl,.inl rfl⟩
theorem U7(hR:M[r]? = some (uz a b c d)):∃M',rQ [.ref r] M= .ok (.ref M.length) M'/\Gr M M'/\M'[M.length]? = some (uz a b c d):=by
 obtain⟨M1,e1,g1,o1⟩:=U8 (M:=M)
 have hr:=Bc hR
 have fs:∀o:MO,(M1.set M.length o)[r]? = some (uz a b c d):=λo=>by rw[zah ()];exact g1 _ _ hR
 have f1:j5 [6] "once" (.ref r) M1= .ok (.bl a) M1:=cD (g1 _ _ hR) (by simp) rfl
 have f2:∀o,j5 [6] "best" (.ref r) (M1.set M.length o)= .ok (.bl b) (M1.set M.length o):=λo=>cD (fs o) (by simp) rfl
 have f3:∀o,j5 [6] "own" (.ref r) (M1.set M.length o)= .ok (.bl c) (M1.set M.length o):=λo=>cD (fs o) (by simp) rfl
 have f4:∀o,j5 [6] "most" (.ref r) (M1.set M.length o)= .ok (.bl d) (M1.set M.length o):=λo=>cD (fs o) (by simp) rfl
 have p1:ju [6] "once" (.bl a) (.ref M.length) M1=some (M1.set M.length (uz a true true true)):=by
  rw[gK o1 (by simp) (by simp)];rfl
 have p2:ju [6] "best" (.bl b) (.ref M.length) (M1.set M.length (uz a true true true))=some (M1.set M.length (uz a b true true)):=by
  unfold uz;rw[gK (get_set o1) (by simp) (by simp),List.set_set];rfl
 have p3:ju [6] "own" (.bl c) (.ref M.length) (M1.set M.length (uz a b true true))=some (M1.set M.length (uz a b c true)):=by
  unfold uz;rw[gK (get_set o1) (by simp) (by simp),List.set_set];rfl
 have p4:ju [6] "most" (.bl d) (.ref M.length) (M1.set M.length (uz a b c true))=some (M1.set M.length (uz a b c d)):=by
  unfold uz;rw[gK (get_set o1) (by simp) (by simp),List.set_set];rfl
 refine⟨M1.set M.length (uz a b c d),?_,ab1 g1 (zaa _),get_set o1⟩
 simp only[rQ,yN]
 simp[e1,f1,p1,f2,p2,f3,p3,f4,p4]
def BO.term(s:BO)(h:Nat):Int:=(gv s.tm h).getD 0
def BO.zQ(s:BO)(h:Nat)(t:Int):Nat:=(gv s.vt (h,t)).getD 0
def BO.ask(s:BO)(h:Nat)(t:Int):Option (Int×Nat):=gv s.ak (h,t)
def BO.head(s:BO)(t:Int):Option Nat:=gv s.se t
def BO.row(s:BO)(h:Nat):List En:=(gv s.ro h).getD []
def BO.line(s:BO)(t:Int):List En:=(gv s.ln t).getD []
def BO.mark(s:BO)(t:Int):Nat:=(gv s.mr t).getD 0
structure Bx(M:Mem)(a:BA)(s:BO)(M':Mem):Prop where
 h:bQ M' a s
 c:Ch (Rg a) M M'
section
variable{M M1 M2 M':Mem}{a:BA}{s s':BO}
theorem Bx.trans(x:Bx M a s M1)(y:Bx M1 a s' M2):Bx M a s' M2:=⟨y.h,x.c.trans y.c⟩
theorem Bx.of(h:bQ M a s):Bx M a s M:=⟨h,Ch.refl⟩
theorem Bx.gr(h:bQ M a s)(g:Gr M M'):Bx M a s M':=⟨h.ch (p:=λ_=>False) g.ch (λ_ _ _ z=>z),g.ch⟩
theorem Ch.one(c:Ch (· = n) M M')(hn:Rg a n):Ch (Rg a) M M':=c.mono λi _ z=>by have z:i=n:=z;subst z;exact hn
theorem HS{o:Option Nat}:(o.map nD).getD (.int 0)= .int ((o.getD 0:Nat):Int):=by cases o<;>rfl
theorem ahS{o:Option Int}:(o.map D.int).getD (.int 0)= .int (o.getD 0):=by cases o<;>rfl
theorem Xq{o:Option (List En)}:(o.map esD).getD (.tup [])=esD (o.getD []):=by cases o<;>rfl
theorem Ft(h:bQ M a s)(k:Nat):dJ [.ref a.bl,.int (k:Int)] M= .ok (.int (s.term k)) M:=by
 have e:=ab5 h.tm k (.int 0)
 rw[ahS]at e
 simp only[dJ,oA]
 simp[h.ftm,lZ h.tm,e,BO.term]
theorem Ko(h:bQ M a s)(k:Nat)(t:Int):∃M',dj [.ref a.bl,.int (k:Int),.int t] M= .ok (.int (s.zQ k t:Nat)) M'/\Bx M a s M':=by
 obtain⟨M',e,tt,c⟩:=Xn h.vt (k,t) (.int 0)
 rw[HS]at e
 refine⟨M',?_,h.ai0 c tt,c.one (qR h.o 4 rfl)⟩
 simp only[dj,mU]
 simp[h.fvt,h.vt.dic,e,BO.zQ]
theorem Ue(h:bQ M a s)(k:Nat)(t:Int):∃M',gQ [.ref a.bl,.int (k:Int),.int t] M= .ok (((s.ask k t).map eD).getD .non) M'/\Bx M a s M':=by
 obtain⟨M',e,tt,c⟩:=Xn h.ak (k,t) .non
 refine⟨M',?_,h.ai5 c tt,c.one (qR h.o 5 rfl)⟩
 simp only[gQ,jU]
 simp[h.fak,h.ak.dic,e,BO.ask]
theorem GK(h:bQ M a s)(t:Int):cF [.ref a.bl,.int t] M= .ok (((s.head t).map nD).getD .non) M:=by
 have e:=Xo h.se t .non
 simp only[cF,mV]
 simp[h.fse,lZ h.se,e,BO.head]
theorem Ad(h:bQ M a s)(k:Nat):b_ [.ref a.sd,.int (k:Int)] M= .ok (esD (s.row k)) M:=by
 have e:=ab5 h.ro k (.tup [])
 rw[Xq]at e
 simp only[b_,pR]
 simp[h.fro,lZ h.ro,e,BO.row]
theorem or_zero(w:Nat):Builtin.bitOr 0 (1*2 ^ ((w:Int)).toNat)=((2 ^ w:Nat):Int):=by
 have:Builtin.bitOr ((0:Nat):Int) ((2 ^ w:Nat):Int)=((0 ||| 2 ^ w:Nat):Int):=HM.Q4 0 (2 ^ w)
 rw[Nat.zero_or]at this
 rw[zak,HM.Qe]
 exact this
theorem Pu{n w:Nat}(hM:M[n]? = some (.lst [.int (w:Int)]))(hw:w<60):nH [.ref n] M= .ok (.int ((2 ^ w:Nat):Int)) M:=by
 have sh:Dy (.int 1) (.int (w:Int)) M= .ok (.int (1*2 ^ ((w:Int)).toNat)) M:=Fw ⟨(),(),by decide⟩
 have ok:gh (some (n,[D.int (w:Int)])) M:=dD hM
 have lp:dR (some (n,[D.int (w:Int)])) (gN 2) Dw [.int (w:Int)] [some (.ref n),some (.int 0),none] M= .next [some (.ref n),some (.int ((2 ^ w:Nat):Int)),some (.int (w:Int))] M:=by
  rw[dR,if_pos ok]
  simp only[afK,Dw]
  simp only[Wy,Cj,MK]
  have oz:=or_zero w
  simp at oz
  simp[sh]
  rw[dR,if_pos ok,oz]
 simp only[nH,MN,Mi]
 simp[qN hM,lp]
theorem X4(n w:Nat):(!decide (Builtin.bitAnd (n:Int) ((2 ^ w:Nat):Int)=0))=n.testBit w:=by
 rw[HM.t8]
 have q:=HM.M6 n w
 cases z:n.testBit w with
 | true=>
  have q':=q.mpr z
  simp only[Bool.not_eq_true',decide_eq_false_iff_not]
  omega
 | false=>
  have q':¬(n &&& 2 ^ w≠0):=λr=>by rw[q.mp r]at z;cases z
  simp only[Bool.not_eq_false',decide_eq_true_eq]
  omega
def BO.spent(s:BO)(h:Nat)(t:Int)(w:Nat):Bool:=if s.r1=true then !decide (s.zQ h t=0)else(s.zQ h t).testBit w
theorem aah(h:bQ M a s)(k:Nat)(t:Int){w:Nat}(hw:w<60):∃M',iR [.ref a.bl,.int (k:Int),.int t,.int (w:Int)] M= .ok (.bl (s.spent k t w)) M'/\Bx M a s M':=by
 obtain⟨M1,e1,x1⟩:=Ko h k t
 have me:=h.pG (m:= "votes_of") rfl
 cases z:s.r1 with
 | true=>
  refine⟨M1,?_,x1⟩
  simp only[iR,jd,jJ]
  simp[me,e1,x1.h.frb,x1.h.f1,z,BO.spent,Int.ofNat_eq_zero]
 | false=>
  obtain⟨N,hN⟩:∃N,N=M1++[MO.lst [.int (w:Int)]]:=⟨_,rfl⟩
  have g:Gr M1 N:=by rw[hN];exact Gr.app
  have e2:nH [.ref M1.length] N= .ok (.int ((2 ^ w:Nat):Int)) N:=Pu (by rw[hN];exact bL) hw
  refine⟨N,?_,x1.trans (Bx.gr x1.h g)⟩
  have b:=X4 (s.zQ k t) w
  simp only[iR,jd,jJ]
  simp only[uK]
  simp[me,e1,x1.h.frb,x1.h.f1,z,BO.spent,<-hN,e2]
  simpa using b
noncomputable def BO.good(s:BO)(w:Nat)(t:Int)(e:Int×Nat):Bool:=match s.ask w t with
 | none=>false
 | some q=>X7.Ol [e.1,(e.2:Int)] [q.1,(q.2:Int)]|| !s.r2
theorem aeB(h:bQ M a s)(w:Nat)(t:Int)(e:Int×Nat):∃M',d9 [.ref a.bl,.int (w:Int),.int t,eD e] M= .ok (.bl (s.good w t e)) M'/\Bx M a s M':=by
 obtain⟨M1,e1,x1⟩:=Ue h w t
 have me:=h.pG (m:= "asked_with") rfl
 refine⟨M1,?_,x1⟩
 cases z:s.ask w t with
 | none=>
  rw[z]at e1
  simp only[d9,d_,fQ]
  simp at e1
  simp[me,e1,BO.good,z]
 | some q=>
  rw[z]at e1
  have le:sLe (eD e) (eD q) M1= .ok (.bl (X7.Ol [e.1,(e.2:Int)] [q.1,(q.2:Int)])) M1:=ajB rfl rfl
  simp only[Option.map_some,Option.getD_some]at e1
  have nn:LR (eD q)=false:=rfl
  simp only[d9,d_,fQ]
  simp only[uK]
  cases zz:X7.Ol [e.1,(e.2:Int)] [q.1,(q.2:Int)]with
  | true=>rw[zz]at le;simp[me,e1,nn,le,BO.good,z,zz]
  | false=>rw[zz]at le;simp[me,e1,nn,le,BO.good,z,zz,x1.h.frb,x1.h.f2]
def BO.lV(s:BO)(h:Nat)(t:Int)(w:Nat)(e:Int×Nat):Bool:=if t<s.term h\/s.spent h t w=true then false else if w=h then decide (s.term h<t)else s.good w t e
theorem Ve(h:bQ M a s)(k:Nat)(t:Int){w:Nat}(hw:w<60)(e:Int×Nat):∃M',dW [.ref a.bl,.int (k:Int),.int t,.int (w:Int),eD e] M= .ok (.bl (s.lV k t w e)) M'/\Bx M a s M':=by
 have e0:=Ft h k
 have m0:=h.pG (m:= "term_of") rfl
 have m1:=h.pG (m:= "is_spent") rfl
 by_cases c0:t<s.term k
 ·refine⟨M,?_,Bx.of h⟩
  simp only[dW,dX,eV,eU]
  simp[m0,e0,c0,BO.lV]
 ·obtain⟨M1,e1,x1⟩:=aah h k t hw
  cases c1:s.spent k t w with
  | true=>
   rw[c1]at e1
   refine⟨M1,?_,x1⟩
   simp only[dW,dX,eV,eU]
   simp[m0,m1,e0,c0,e1,BO.lV,c1]
  | false=>
   rw[c1]at e1
   by_cases c2:w=k
   ·subst c2
    have e2:=Ft x1.h w
    have m2:=x1.h.pG (m:= "term_of") rfl
    refine⟨M1,?_,x1⟩
    simp only[dW,dX,eV,eU]
    simp[m0,m1,e0,c0,e1,BO.lV,c1,m2,e2]
   ·obtain⟨M2,e2,x2⟩:=aeB x1.h w t e
    have m2:=x1.h.pG (m:= "is_good_enough") rfl
    have c2':¬((w:Int)=(k:Int)):=()
    refine⟨M2,?_,x1.trans x2⟩
    simp only[dW,dX,eV,eU]
    simp[m0,m1,e0,c0,e1,BO.lV,c1,m2,e2,c2,c2']
theorem bQ.lt(h:bQ M a s):a.sn<M.length:=by
 obtain⟨o,e⟩:=h.sn.some
 exact Bc e
theorem bQ.nrg(h:bQ M a s)(hn:M.length<=n):¬Rg a n:=λz=>by
 have:=h.lt
 have:n<=a.sn:=z.2
 omega
theorem aeF{o:Option Nat}{k:Nat}:sEq ((o.map nD).getD .non) (.int (k:Int)) M= .ok (.bl (decide (o=some k))) M:=by
 cases o with
 | none=>exact vf rfl
 | some j=>
  show sEq (.int (j:Int)) (.int (k:Int)) M=_
  rw[Ww]
  congr 2
  by_cases z:j=k
  ·subst z;simp
  ·have:¬((j:Int)=(k:Int)):=()
   simp[z,this]
theorem acj:Uo M (eD e) (eD q)=some (decide (e=q)):=by
 have:Uo M (eD e) (eD q)=some (jy (.tup [.int e.1,.int (e.2:Int)]) (.tup [.int q.1,.int (q.2:Int)])):=rfl
 rw[this]
 congr 1
 obtain⟨e1,e2⟩:=e
 obtain⟨q1,q2⟩:=q
 by_cases z:e1=q1
 ·by_cases z2:e2=q2
  ·subst z z2;simp[wY]
  ·have:¬((e2:Int)=(q2:Int)):=()
   simp[jy,yI,z,z2,this]
 ·simp[jy,yI,z]
theorem ahm:sNe ((o.map eD).getD .non) (eD e) M= .ok (.bl (!decide (o=some e))) M:=by
 cases o with
 | none=>exact Hr (b:=false) rfl
 | some q=>
  show sNe (eD q) (eD e) M=_
  rw[Hr (b:=decide (q=e)) acj];simp
def BO.sH(s:BO)(V:Nat)(t:Int)(w:Nat):Bool:=(HM.bW V).all λv=>(s.zQ v t).testBit w
structure alo(M0:Mem)(a:BA)(s:BO)(V:Nat)(t:Int)(w:Nat)(i:Nat)(ys:List D)(M:Mem):Prop where
 y:ys=((HM.bW V).take i).map λv=>D.bl ((s.zQ v t).testBit w)
 x:Bx M0 a s M
theorem Rj(h:bQ M a s){V:Nat}(hV:V<2 ^ 60)(t:Int){w:Nat}(hw:w<60):∃M',kZ [.ref a.bl,.int (V:Int),.int t,.int (w:Int)] M= .ok (.bl (s.sH V t w)) M'/\Bx M a s M':=by
 have e0:=Bp (M:=M) V hV
 obtain⟨N,hN⟩:∃N,N=M++[MO.lst (hv (HM.bW V))]:=⟨_,rfl⟩
 rw[<-hN]at e0
 have g:Gr M N:=by rw[hN];exact Gr.app
 have x0:Bx M a s N:=Bx.gr h g
 have hl:N[M.length]? = some (.lst (hv (HM.bW V))):=by rw[hN];exact bL
 have keep:∀{M':Mem},Bx N a s M'->M'[M.length]? = some (.lst (hv (HM.bW V))):=λ{M'} x=>x.c.2 _ _ (h.nrg (zaa _)) hl
 obtain⟨ys,M1,e1,hy,x1⟩:=Mq (src:=some (M.length,hv (HM.bW V))) (tt:=Lr) (te:=aC sNe (aC K5 (aU 0 "votes_of" dj 3 [] (aq 2) (au (aq 0) (au (aq 1) aF))) (bG nH 1 [] (au (A_ (au (aq 3) aF)) aF))) (mC (.int 0)))
  (ce:=[some (.int t),some (.ref a.bl),some (.int (w:Int))]) (alo N a s V t w) (hv (HM.bW V)) 0 (ys:=[]) (M:=N) ⟨by simp,Bx.of x0.h⟩ (λi ys M' _ _ p=>dD (keep p.x)) (λi d ys M' hd p=>by
   rw[Nat.zero_add]at p ⊢
   obtain⟨v,hv1,rfl⟩:∃v,(HM.bW V)[i]? = some v/\D.int (v:Int)=d:=by simpa[hv]using hd
   obtain⟨M2,e2,x2⟩:=Ko p.x.h v t
   obtain⟨N2,hN2⟩:∃N2,N2=M2++[MO.lst [.int (w:Int)]]:=⟨_,rfl⟩
   have g2:Gr M2 N2:=by rw[hN2];exact Gr.app
   have e3:nH [.ref M2.length] N2= .ok (.int ((2 ^ w:Nat):Int)) N2:=Pu (by rw[hN2];exact bL) hw
   have b:=X4 (s.zQ v t) w
   refine⟨true,M',rfl,.inr ⟨rfl,.bl ((s.zQ v t).testBit w),N2,?_,?_,p.x.trans (x2.trans (Bx.gr x2.h g2))⟩⟩
   ·simp[p.x.h.pG (m:= "votes_of") rfl,e2,<-hN2,e3]
    simpa using b
   ·rw[p.y,List.take_succ,hv1]
    simp)
 rw[Nat.zero_add]at hy
 have hy':ys=((HM.bW V).map λv=>(s.zQ v t).testBit w).map D.bl:=by
  rw[hy,List.take_of_length_le (by simp[hv])]
  simp
 have x1':Bx M a s M1:=x0.trans x1
 obtain⟨N1,Ow⟩:∃N1,N1=M1++[MO.lst ys]:=⟨_,rfl⟩
 rw[<-Ow]at e1
 have g1:Gr M1 N1:=by rw[Ow];exact Gr.app
 have al:R6 [.ref M1.length] N1= .ok (.bl (s.sH V t w)) N1:=by
  have q:N1[M1.length]? = some (.lst (((HM.bW V).map λv=>(s.zQ v t).testBit w).map D.bl)):=by rw[Ow,hy'];exact bL
  rw[R5 q]
  simp[BO.sH,List.all_map]
 refine⟨N1,?_,x1'.trans (Bx.gr x1'.h g1)⟩
 simp only[kZ,lz]
 simp[e0,qN hl,qP,e1,al]
theorem Wz(h:bQ M a s){V p q:Nat}(hp:p<2 ^ 60)(hq:q<2 ^ 60):∃M',rP [.ref a.rl,.tup [.int (p:Int),.int (q:Int)],.int (V:Int)] M= .ok (.bl (jK V p (!s.r4)&&(decide (q=0)||jK V q (!s.r4)))) M'/\Bx M a s M':=by
 obtain⟨M1,e1,g1⟩:=ac0 (M:=M) V p q (!s.r4) hp hq
 refine⟨M1,?_,Bx.gr h g1⟩
 simp only[rP,yM]
 simp[h.f4,e1]
def BO.Yd(s:BO)(V p q:Nat):Bool:=jK V p (!s.r4)&&(decide (q=0)||jK V q (!s.r4))
def BO.jC(s:BO)(h:Nat)(t:Int)(V:Nat)(e:Int×Nat)(p q:Nat):Bool:=
 if s.term h≠t\/s.head t=some h then false else if s.ask h t≠some e then false else s.sH V t h&&s.Yd V p q
theorem Te(h:bQ M a s){k:Nat}(hk:k<60)(t:Int){V p q:Nat}(hV:V<2 ^ 60)(hp:p<2 ^ 60)(hq:q<2 ^ 60)(e:Int×Nat):
  ∃M',cT [.ref a.bl,.int (k:Int),.int t,.int (V:Int),eD e,.tup [.int (p:Int),.int (q:Int)]] M= .ok (.bl (s.jC k t V e p q)) M'/\Bx M a s M':=by
 have e0:=Ft h k
 have m0:=h.pG (m:= "term_of") rfl
 have m1:=h.pG (m:= "chair_of") rfl
 have m2:=h.pG (m:= "asked_with") rfl
 have e1:=GK h t
 have q1:=aeF (M:=M) (o:=s.head t) (k:=k)
 by_cases c0:s.term k=t
 ·by_cases c1:s.head t=some k
  ·refine⟨M,?_,Bx.of h⟩
   rw[c1]at q1
   simp only[cT,cV,c7,cZ]
   simp[m0,m1,e0,c0,e1,c1,q1,BO.jC]
   simp at q1
   simp[q1]
  ·obtain⟨M1,e2,x1⟩:=Ue h k t
   have q2:=ahm (M:=M1) (o:=s.ask k t) (e:=e)
   rw[zae c1]at q1
   by_cases c2:s.ask k t=some e
   ·have q2':sNe (eD e) (eD e) M1= .ok (.bl false) M1:=by rw[Hr (b:=true) (by rw[acj];simp)];rfl
    obtain⟨M2,e3,x2⟩:=Rj x1.h hV t hk
    have m3:=x1.h.pG (m:= "voted_all") rfl
    obtain⟨M3,e4,x3⟩:=Wz x2.h (V:=V) hp hq
    have m4:=x2.h.akh (m:= "wins") rfl
    have fr:=x2.h.frb
    cases c3:s.sH V t k with
    | true=>
     rw[c3]at e3
     refine⟨M3,?_,x1.trans (x2.trans x3)⟩
     simp only[cT,cV,c7,cZ]
     simp only[uK]
     simp[m0,m1,e0,c0,e1,q1,m2,e2,q2',m3,e3,fr,m4,e4,BO.jC,c1,c2,c3,BO.Yd]
    | false=>
     rw[c3]at e3
     refine⟨M2,?_,x1.trans x2⟩
     simp only[cT,cV,c7,cZ]
     simp only[uK]
     simp[m0,m1,e0,c0,e1,q1,m2,e2,q2',m3,e3,BO.jC,c1,c2,c3]
   ·rw[zae c2]at q2
    refine⟨M1,?_,x1⟩
    simp only[cT,cV,c7,cZ]
    simp only[uK]
    simp[m0,m1,e0,c0,e1,q1,m2,e2,q2,BO.jC,c1,c2]
 ·refine⟨M,?_,Bx.of h⟩
  simp only[cT,cV,c7,cZ]
  simp[m0,e0,c0,BO.jC]
theorem afT:(("chair" : Str)= "vote")=False:=eq_false (by decide)
theorem in_of:sIn (.str x) (.nA [.str "vote",.str "chair",.str "told"]) M= .ok (.bl (decide ("vote" = x)||(decide ("chair" = x)||decide ("told" = x)))) M:=by
 refine(wF rfl).trans ?_
 simp only[U4,Rp,zW,Pa]
 simp[inV,eqV,Bool.beq_eq_decide_eq]
def pap(x:Str)(h:Nat)(t:Int)(y:Nat):D:= .tup [.str x,.int (h:Int),.int t,.int (y:Int)]
abbrev pV(h:Nat)(t:Int)(w:Nat):D:=pap "vote" h t w
abbrev pC(h:Nat)(t:Int)(V:Nat):D:=pap "chair" h t V
def OfH(x:Str):Prop:=x= "vote" \/ x= "chair"
section
variable{x:Str}{h y:Nat}{t:Int}
theorem ab_(hx:OfH x):gM [pap x h t y] M= .ok (.bl true) M:=by
 have k:Pb x [("vote",4),("chair",4),("write",4),("beat",3),("told",5),("settle",4),("answer",6),("look",6),("seen",8)]= .int 4:=by rcases hx with rfl | rfl<;>rfl
 simp only[gM,nq,pap]
 simp[k]
theorem ahF(hx:OfH x):sIn (.str x) (.nA [.str "vote",.str "chair",.str "told"]) M= .ok (.bl true) M:=by
 rw[in_of]
 rcases hx with rfl | rfl<;>simp
theorem Z6(hx:OfH x):jY [pap x h t y] M= .ok (.int t) M:=by
 simp only[jY,sG,qO,pap]
 simp[ahF hx]
end
def BO.Ip(s:BO)(t:Int)(r:Bool):Bool:=LR s.br&&decide (1<=t)&&r
theorem X5(h:bQ M a s)(hx:OfH x)(hh:∃M',cg [.ref a.b,pap x k t y] M= .ok (.bl r) M'/\Bx M a s M'):∃M',bH [.ref a.b,pap x k t y] M= .ok (.bl (s.Ip t r)) M'/\Bx M a s M':=by
 have f:=ab_ (M:=M) (h:=k) (t:=t) (y:=y) hx
 have tn:=Z6 (M:=M) (h:=k) (t:=t) (y:=y) hx
 have i0:a_ (pap x k t y) (.int 0) M= .ok (.str x) M:=jB
 cases c0:LR s.br with
 | false=>
  refine⟨M,?_,Bx.of h⟩
  simp only[bH,di,cM,cL]
  simp[h.fbr,c0,BO.Ip]
 | true=>
  by_cases c1:t<1
  ·refine⟨M,?_,Bx.of h⟩
   have c1':¬(1<=t):=()
   simp only[bH,di,cM,cL]
   simp[h.fbr,c0,f,tn,c1,c1',BO.Ip]
  ·have c1':1<=t:=()
   obtain⟨M1,e1,x1⟩:=hh
   refine⟨M1,?_,x1⟩
   simp only[bH,di,cM,cL]
   simp[h.fbr,c0,f,tn,c1,i0,ahF hx,h.Fb (m:= "allows_hand") rfl,e1,BO.Ip,c1']
structure Few(s:BO):Prop where
 tm:s.tm.length<=900
 vt:s.vt.length<=900
 ak:s.ak.length<=900
 se:s.se.length<=900
 ln:s.ln.length<=60
def BO.cast(s:BO)(h:Nat)(t:Int)(w:Nat)(e:Int×Nat):BO:=
 {s with ak:=if w=h then gp s.ak (h,t) e else s.ak,vt:=gp s.vt (h,t) (s.zQ h t ||| 2 ^ w),tm:=gp s.tm h t}
theorem ag0(n w:Nat):Builtin.bitOr (n:Int) ((2:Int) ^ w)=((n ||| 2 ^ w:Nat):Int):=by
 have:=HM.Q4 n (2 ^ w)
 rwa [show((2 ^ w:Nat):Int)=(2:Int) ^ w by simp]at this
theorem R9(h:bQ M a s)(hl:s.tm.length<=1000)(k:Nat)(t:Int):∃M',lX [.ref a.bl,.int (k:Int),.int t] M= .ok .non M'/\Bx M a {s with tm:=gp s.tm k t} M':=by
 have p:=WW h.tm k t hl
 refine⟨_,?_,h.amW (Ch.set rfl) (ir h.tm),Ch.one (Ch.set rfl) (qR h.o 3 rfl)⟩
 simp only[lX,rm]
 simp[h.ftm,p]
theorem aeU(h:bQ M a s)(hf:Few s)(k:Nat)(t:Int){w:Nat}(hw:w<60)(e:Int×Nat):∃M',tV [.ref a.bl,.int (k:Int),.int t,.int (w:Int),eD e] M= .ok .non M'/\Bx M a (s.cast k t w e) M':=by
 obtain⟨M1,e1,x1⟩:∃M1,j4 [some (.ref a.bl),some (.int (k:Int)),some (.int t),some (.int (w:Int)),some (eD e)] M= .next [some (.ref a.bl),some (.int (k:Int)),some (.int t),some (.int (w:Int)),some (eD e)] M1/\Bx M a {s with ak:=if w=k then gp s.ak (k,t) e else s.ak} M1:=by
  by_cases c:w=k
  ·subst c
   have p:=WT h.ak (w,t) e (by have:=hf.ak;omega)
   refine⟨_,?_,by rw[if_pos rfl];exact h.ai5 (Ch.set rfl) (.inl (by obtain⟨o,q⟩:=h.ak.some;exact ir q)),Ch.one (Ch.set rfl) (show Rg a a.ak from qR h.o 5 rfl)⟩
   simp only[j4]
   simp[h.fak,p]
  ·have c':¬((w:Int)=(k:Int)):=()
   refine⟨M,?_,by rw[if_neg c];exact Bx.of h⟩
   simp only[j4]
   simp[c']
 obtain⟨M2,e2,x2⟩:=Ko x1.h k t
 obtain⟨N,hN⟩:∃N,N=M2++[MO.lst [.int (w:Int)]]:=⟨_,rfl⟩
 have g:Gr M2 N:=by rw[hN];exact Gr.app
 have e3:nH [.ref M2.length] N= .ok (.int ((2 ^ w:Nat):Int)) N:=Pu (by rw[hN];exact bL) hw
 have x3:=x1.trans (x2.trans (Bx.gr x2.h g))
 have p:=WT x3.h.vt (k,t) (s.zQ k t ||| 2 ^ w) (by have:=hf.vt;show s.vt.length<=1000;omega)
 have x4:Bx N a {s with ak:=if w=k then gp s.ak (k,t) e else s.ak,vt:=gp s.vt (k,t) (s.zQ k t ||| 2 ^ w)} (N.set a.vt (.dt (ge kP nD (gp s.vt (k,t) (s.zQ k t ||| 2 ^ w))))):=
  ⟨x3.h.ai0 (Ch.set rfl) (.inl (by obtain⟨o,q⟩:=x3.h.vt.some;exact ir q)),Ch.one (Ch.set rfl) (qR h.o 4 rfl)⟩
 obtain⟨M5,e5,x5⟩:=R9 x4.h (by have:=hf.tm;show s.tm.length<=1000;omega) k t
 refine⟨M5,?_,x3.trans (x4.trans x5)⟩
 have o2:=ag0 (s.zQ k t) w
 have e2':dj [.ref a.bl,.int (k:Int),.int t] M1= .ok (.int ((s.zQ k t:Nat):Int)) M2:=e2
 have nn:D.int ((s.zQ k t ||| 2 ^ w:Nat):Int)=nD (s.zQ k t ||| 2 ^ w):=rfl
 simp only[tV,uq]
 simp only[uK,bV,bU,FW,e1,RJ]
 simp[x1.h.pG (m:= "votes_of") rfl,e2',<-hN,e3,o2,x3.h.fvt]
 rw[nn,p]
 simp[x4.h.pG (m:= "reach") rfl,e5]
theorem adp(h:bQ M a s)(hl:s.se.length<=1000)(k:Nat)(t:Int):∃M',k_ [.ref a.bl,.int (k:Int),.int t] M= .ok .non M'/\Bx M a {s with se:=gp s.se t k} M':=by
 have p:=Sd h.se t k hl
 refine⟨_,?_,h.amX (Ch.set rfl) (ir h.se),Ch.one (Ch.set rfl) (qR h.o 6 rfl)⟩
 simp only[k_,lE]
 have nn:D.int (k:Int)=nD k:=rfl
 simp[h.fse]
 rw[nn,p]
 simp
theorem acF(h:bQ M a s)(hl:s.ln.length<=1000)(k:Nat)(t:Int):∃M',jH [.ref a.sd,.int (k:Int),.int t] M= .ok .non M'/\Bx M a {s with ln:=gp s.ln t (s.row k)} M':=by
 have p:=Sd h.ln t (s.row k) hl
 have e:=Ad h k
 refine⟨_,?_,h.ai3 (Ch.set rfl) (ir h.ln),Ch.one (Ch.set rfl) (qR h.o 9 rfl)⟩
 simp only[jH,jT]
 simp[h.gq (m:= "row_of") rfl,e,h.fln,p]
def kys(l:List (Int×List En)):List D:=(PySem.W.sortI (l.map (·.1))).map D.int
theorem aes:kO ((ge kI esD l).map λp=>Tn p.1)=some (l.map (·.1)):=by
 have e:((ge kI esD l).map λp=>Tn p.1)=(l.map (·.1)).map D.int:=by
  unfold ge
  rw[List.map_map,List.map_map]
  rfl
 rw[e,Dv]
theorem mem_keys(h:d∈kys l):∃t:Int,d= .int t/\(gv l t).isSome=true:=by
 obtain⟨t,ht,rfl⟩:=List.mem_map.mp h
 obtain⟨q,hq,rfl⟩:=List.mem_map.mp ((PySem.W.sortI_perm _).mem_iff.mp ht)
 refine⟨_,rfl,?_⟩
 rw[<-acI,List.any_eq_true]
 exact⟨q,hq,by simp⟩
structure aly(M0:Mem)(a:BA)(t:Int)(i:Nat)(e:Sl)(M:Mem):Prop where
 m:M0=M
 e:∃v,e=[some (.ref a.sd),some (.int t),v]
theorem P0(h:bQ M a s):∃M',ju [8] "count" (.int ((s.cnt:Int)+1)) (.ref a.b) M=some M'/\Bx M a {s with cnt:=s.cnt+1} M':=by
 refine⟨_,gK h.b (by simp) (by simp),?_⟩
 refine⟨h.u_b (Ch.set rfl) (ir h.b),Ch.one (Ch.set rfl) (qR h.o 0 rfl)⟩
theorem Z9(h:bQ M a s)(hx:OfH x)(ha:∃M',bH [.ref a.b,pap x k t y] M= .ok (.bl c) M'/\Bx M a s M')
  (hf:∀M2,bQ M2 a {s with cnt:=s.cnt+1}->∃M',dN [.ref a.b,pap x k t y] M2= .ok .non M'/\Bx M2 a s3 M'):
  (c=true/\∃M',aN [.ref a.b,pap x k t y] M= .ok .non M'/\Bx M a s3 M')\/(c=false/\∃M',aN [.ref a.b,pap x k t y] M= .exc 2 (.int (s.cnt:Int)) M'/\Bx M a s M'):=by
 obtain⟨M1,e1,x1⟩:=ha
 have m1:=h.Fb (m:= "allows") rfl
 have i0:∀M,a_ (pap x k t y) (.int 0) M= .ok (.str x) M:=λM=>jB
 cases c with
 | false=>
  refine .inr ⟨rfl,M1,?_,x1⟩
  simp only[aN,fJ,eO,eN]
  simp[m1,e1,x1.h.fcn,one]
 | true=>
  obtain⟨M2,e2,x2⟩:=P0 x1.h
  obtain⟨M3,e4,x3⟩:=hf M2 x2.h
  refine .inl ⟨rfl,M3,?_,x1.trans (x2.trans x3)⟩
  simp only[aN,fJ,eO,eN]
  simp[m1,e1,x1.h.fcn,e2,i0,ahF hx,x2.h.Fb (m:= "follow_hand") rfl,e4]
end
theorem acH{α:Type}{xs:List α}{k:Nat}(h:xs.length=k+1):Nz xs (-1)=xs[k]? := by
 unfold Nz ixN
 rw[if_neg (by decide),if_pos (),h]
 show xs[(-1+((k+1:Nat):Int)).toNat]? = _
 congr 1
 omega
section
variable{M:Mem}
def pL(es:List En):Int×Nat:=match es.getLast? with
 | none=>(0,0)
 | some e=>(e.1,es.length)
theorem ahR{es:List En}{n:Nat}(h:es[n]? = some e):(es.map oK)[n]? = some (oK e):=by simp[h]
theorem agu{es:List En}{n:Nat}(h:es[n]? = some e):a_ (esD es) (.int (n:Int)) M= .ok (oK e) M:=
 xU () (by rw[zak];exact ahR h)
theorem anl(hl:es.length=k+1)(h:es[k]? = some e):a_ (esD es) (.int (-1)) M= .ok (oK e) M:=by
 have q:=acH (xs:=es.map oK) (k:=k) (by simpa using hl)
 rw[ahR h]at q
 exact lU (lU (by simp only[esD,PB,Hl,q]))
theorem QJ:Az [esD es] M= .ok (eD (pL es)) M:=by
 cases z:es.length with
 | zero=>
  have:=List.length_eq_zero_iff.mp z
  subst this
  simp only[Az,G_,Ed,esD]
  simp[eD,pL]
 | succ k=>
  have hk:es[k]? = some (es[k]'()):=zab ()
  have q:=anl (M:=M) z hk
  have g:pL es=((es[k]'()).1,es.length):=by
   simp only[pL,List.getLast?_eq_getElem?,z,Nat.add_sub_cancel,hk]
  have ln:jz [esD es] M= .ok (.int ((k+1:Nat):Int)) M:=by simp[esD,z]
  have n0:¬(((k+1:Nat):Int)=0):=()
  simp only[Az,G_,Ed]
  simp only[Int.natCast_add,Int.cast_ofNat_Int]at ln n0
  simp[ln,n0,q,g,eD,oK,z]
def Wh.Y0:Wh->Bool
 | .K7 _ _=>true
 | _=>false
def WL(es:List En):Nat->Nat
 | 0=>0
 | n+1=>match es[n]? with
  | some e=>if e.2.Y0=true then n+1 else WL es n
  | none=>0
def JW(es:List En):Nat:=WL es es.length
theorem afn:(("start" : Str)= "roll")=False:=eq_false (by decide)
theorem afU:(("ask" : Str)= "roll")=False:=eq_false (by decide)
theorem afh(w:Wh):∃d,a_ w.d (.int 0) M= .ok d M/\sNe d (.str "roll") M= .ok (.bl (!w.Y0)) M:=by
 cases w with
 | st=>exact⟨.str "start",jB,by simp[Wh.Y0,afn]⟩
 | ask a b c=>exact⟨.str "ask",jB,by simp[Wh.Y0,afU]⟩
 | K7 a b=>exact⟨.str "roll",jB,by simp[Wh.Y0]⟩
theorem afw:∀n,n<=es.length->Km gU jq (n+1) [some (esD es),some (.int (n:Int))] M= .next [some (esD es),some (.int (WL es n:Nat))] M
 | 0,_=>by
  unfold Km
  simp[gU,WL]
 | n+1,h=>by
  have hn:es[n]? = some (es[n]'()):=zab ()
  have q:=agu (M:=M) hn
  obtain⟨d,e1,e2⟩:=afh (M:=M) (es[n]'()).2
  have s1:((n+1:Nat):Int) - 1=(n:Int):=()
  have p0:(0:Int)<((n+1:Nat):Int):=()
  have ih:=afw (es:=es) n ()
  simp only[gU,jq]at ih
  unfold Km
  simp only[gU,WL,hn]
  cases z:(es[n]'()).2.Y0 with
  | true=>
   rw[z]at e2
   simp only[Xa,Gu,Cj,MK]
   simp[p0,s1,q,oK,e1,e2]
  | false=>
   rw[z]at e2
   simp only[Xa,Gu,Cj,MK]
   simp[p0,s1,q,oK,e1,e2,jq,ih]
theorem R8:lW [esD es] M= .ok (.int (JW es:Nat)) M:=by
 have w:=Od (afw (M:=M) (es:=es) es.length (zaa _)) (λz=>nomatch z)
 have ln:jz [esD es] M= .ok (.int (es.length:Int)) M:=by simp[esD]
 simp only[lW,qZ,uC]
 simp[ln,w,JW]
def jt(es:List En)(S:Nat):Nat×Nat:=match JW es with
 | 0=>(S,0)
 | n+1=>match es[n]? with
  | some (_,.K7 a b)=>(a,b)
  | _=>(0,0)
theorem aaG:∀{n m:Nat},WL es n=m+1->∃t a b,es[m]? = some (t,.K7 a b)
 | 0,_,h=>nomatch h
 | n+1,m,h=>by
  unfold WL at h
  cases z:es[n]? with
  | none=>rw[z]at h;cases h
  | some e=>
   rw[z]at h
   dsimp only at h
   split at h
   ·rename_i q
    obtain rfl:n=m:=()
    obtain⟨t,w⟩:=e
    cases w with
    | K7 a b=>exact⟨t,a,b,z⟩
    | st=>cases q
    | ask _ _ _=>cases q
   ·exact aaG h
theorem WM{es:List En}{S:Nat}:wN [esD es,.tup [.int (S:Int),.int 0]] M= .ok (.tup [.int ((jt es S).1:Int),.int ((jt es S).2:Int)]) M:=by
 have e:=R8 (M:=M) (es:=es)
 cases z:JW es with
 | zero=>
  rw[z]at e
  simp only[wN,Cr,Bl]
  simp at e
  simp[e,jt,z]
 | succ n=>
  rw[z]at e
  obtain⟨t,a,b,hn⟩:=aaG z
  have q:=agu (M:=M) hn
  have n0:¬(((n+1:Nat):Int)=0):=()
  have s1:((n+1:Nat):Int) - 1=(n:Int):=()
  simp only[Int.natCast_add,Int.cast_ofNat_Int]at e n0 s1
  simp only[wN,Cr,Bl]
  simp[e,n0,s1,q,oK,Wh.d,jt,z,hn]
end
section
variable{M:Mem}{t:Int}{x:D}
def stE(es:List En)(t:Int):Bool:=es.any λe=>decide (e.1=t)
theorem afo:∀(es:List En) (i:Int) (v2 v3:Option D),(stE es t=true/\∃k:Int,dR none (gT 2 (dw (gN 2) (dw (gN 3) tZ))) fM (lQ i (es.map oK)) [some x,some (.int t),v2,v3] M= .ret (.int k) M)
  \/ (stE es t=false/\∃e,dR none (gT 2 (dw (gN 2) (dw (gN 3) tZ))) fM (lQ i (es.map oK)) [some x,some (.int t),v2,v3] M= .next e M)
 | [],i,v2,v3=> .inr ⟨rfl,_,by simp only[List.map_nil,lQ];exact if_pos (show gh none M from trivial)⟩
 | e::es,i,v2,v3=>by
  have sk:gh none M:=trivial
  simp only[List.map_cons,lQ]
  rw[dR,if_pos sk]
  by_cases z:e.1=t
  ·refine .inl ⟨by simp[stE,z],i,?_⟩
   simp[fM,mJ,oK,z]
  ·have ih:=afo es (i+1) (some (.int i)) (some (oK e))
   have q:stE (e::es) t=stE es t:=by simp[stE,z]
   rw[q]
   simp only[fM,mJ]at ih ⊢
   simp only[oK]at ih ⊢
   simpa[z]using ih
theorem ajn:∃d,jZ [esD es,.int t] M= .ok d M/\LR d=(!stE es t):=by
 rcases afo (M:=M) (t:=t) (x:=esD es) es 1 none none with⟨h,k,e⟩ | ⟨h,v,e⟩
 ·refine⟨.int k,?_,by rw[h];rfl⟩
  simp only[jZ,j8,mL,esD]at e ⊢
  simp[e]
 ·refine⟨.non,?_,by rw[h];rfl⟩
  simp only[jZ,j8,mL,esD]at e ⊢
  simp[e]
end
section
variable{M:Mem}
def JM(e:En):Prop:=∃t,∀M,gm M 11 (oK e)=some t
theorem W7{es:List En}(h:∀e∈es,JM e):∃ts,ts.length=es.length/\∀M:Mem,vz (gm M 11) (es.map oK)=some ts:=by
 induction es with
 | nil=>exact⟨[],rfl,λM=>rfl⟩
 | cons d r ih=>
  obtain⟨ts,l,h1⟩:=ih λx hx=>h x (yT _ hx)
  obtain⟨t,h2⟩:=h d xB
  exact⟨t::ts,by simp[l],λM=>by simp only[List.map_cons,vz,h2 M,h1 M]⟩
theorem Wd(h:∀e∈es,JM e):∃ts,ts.length=es.length/\∀M:Mem,gm M 12 (esD es)=some (.tup ts):=by
 obtain⟨ts,l,q⟩:=W7 h
 refine⟨ts,l,λM=> ?_⟩
 show(vz (gm M 11) (es.map oK)).map Dt.tup=_
 rw[q M]
 rfl
theorem ak4(hx:∀e∈xs,JM e)(hy:∀e∈ys,JM e)(h:xs.length=ys.length->xs=ys):Uo M (esD xs) (esD ys)=some (decide (xs.length=ys.length)):=by
 obtain⟨ts,l1,e1⟩:=Wd hx
 obtain⟨us,l2,e2⟩:=Wd hy
 rw[Eh (e1 M) (e2 M)]
 congr 1
 by_cases z:xs.length=ys.length
 ·have q:=h z
  subst q
  have:=(e1 M).symm.trans (e2 M)
  cases this
  simp[wY]
 ·rw[zae z]
  unfold jy
  exact G5 ()
theorem acs{α:Type}(xs:List α)(p:Nat):cut xs none (some (p:Int))=xs.take p:=by
 unfold cut
 rw[HT.aay,HT.ady]
 by_cases z:p<=xs.length
 ·simp[Nat.min_eq_left z]
 ·rw[Nat.min_eq_right ()]
  simp
  rw[List.take_of_length_le ()]
theorem Uh{xs ys:List En}{p:Nat}(hx:∀e∈xs,JM e)(hy:∀e∈ys,JM e)(h:(xs.take p).length=(ys.take p).length->xs.take p=ys.take p):
  uO [esD xs,esD ys,.int (p:Int)] M= .ok (.bl (decide ((xs.take p).length=(ys.take p).length))) M:=by
 have e:=ak4 (M:=M) (xs:=xs.take p) (ys:=ys.take p) (λe he=>hx e (List.mem_of_mem_take he)) (λe he=>hy e (List.mem_of_mem_take he)) h
 have c:∀zs:List En,cut (zs.map oK) none (some (p:Int))=(zs.take p).map oK:=λzs=>by rw[acs,List.map_take]
 have e:=vf e
 simp only[uO,BJ,esD]at e ⊢
 simp[c]at e ⊢
 simp[e]
theorem ahu{line row:List En}{p:Nat}(hx:∀e∈line,JM e)(hy:∀e∈row,JM e)(h:(row.take p).length=(line.take p).length->row.take p=line.take p):
  Gs [esD line,esD row,.int (p:Int)] M= .ok (esD (if(row.take p).length=(line.take p).length then row else line.take p)) M:=by
 have e:=Uh (M:=M) hy hx h
 have c0:cut (row.map oK) none none=row.map oK:=XH ⟨rfl,rfl⟩
 have c:cut (line.map oK) none (some (p:Int))=(line.take p).map oK:=by rw[acs,List.map_take]
 by_cases z:(row.take p).length=(line.take p).length
 ·rw[if_pos z]
  rw[zaf z]at e
  simp only[Gs,G9,Ec]
  simp[e]
  simp[esD,c0]
 ·rw[if_neg z]
  rw[zae z]at e
  simp only[Gs,G9,Ec]
  simp[e]
  simp[esD,c]
end
section
variable{M M':Mem}{a:BA}{s s':BO}
def muC(t:Int):D->Bool
 | .tup [.int u,_]=>decide (u<=t)
 | _=>false
def muF:D->D
 | .tup [_,x]=>x
 | _=> .non
def BO.upTo(s:BO)(t:Int):Int:=maxD 0 ((s.mr.filter λp=>decide (p.1<=t)).map λp=>(p.2:Int))
theorem ac4(h:bQ M a s)(t:Int):∃M',jF [.ref a.sd,.int t] M= .ok (.int (s.upTo t)) M'/\Bx M a s M':=by
 have e1:=Zd (M:=M) (e:=[some (.ref a.sd),some (.int t)]) (m:=2) (js:=[1]) (g:=gT 2 (dw (gN 0) (dw (gN 1) tZ))) (tt:=aY (aC Hs (aq 0) (aq 2))) (te:=aq 1) h.mr (muC t) muF (λd hd=>by
  obtain⟨q,hq,rfl⟩:=List.mem_map.mp hd
  obtain⟨p,_,rfl⟩:=List.mem_map.mp hq
  refine⟨_,rfl,λM'=>⟨?_,λ_=> ?_⟩⟩
  ·simp[qP,muC,kI,Tn,Gn];rfl
  ·simp[qP,muF,Gn];rfl)
 have el:(((ge kI nD s.mr).map Gd).filter (muC t)).map muF=((s.mr.filter λp=>decide (p.1<=t)).map λp=>(p.2:Int)).map D.int:=by
  generalize s.mr=l
  induction l with
  | nil=>rfl
  | cons p l ih=>
   have e:ge kI nD (p::l)=(kI p.1,nD p.2)::ge kI nD l:=rfl
   have m:muC t (Gd (kI p.1,nD p.2))=decide (p.1<=t):=rfl
   rw[e,List.map_cons,List.filter_cons,List.filter_cons,m]
   by_cases z:p.1<=t
   ·simp only[z,decide_true,if_true,List.map_cons]
    rw[ih];rfl
   ·simp only[z,decide_false,Bool.false_eq_true,if_false]
    exact ih
 rw[el]at e1
 obtain⟨N,hN⟩:∃N,N=M++[MO.lst (((s.mr.filter λp=>decide (p.1<=t)).map λp=>(p.2:Int)).map D.int)]:=⟨_,rfl⟩
 rw[<-hN]at e1
 have g:Gr M N:=by rw[hN];exact Gr.app
 have mx:K1 (.ref M.length) (.int 0) N= .ok (.int (s.upTo t)) N:=Yk (by rw[hN];exact bL)
 refine⟨N,?_,Bx.gr h g⟩
 simp only[jF,jQ]
 simp[h.fmk,e1,mx]
theorem lY(h:bQ M a s)(t:Int):bZ [.ref a.sd,.int t] M= .ok (esD (s.line t)) M:=by
 have e:=Xo h.ln t (.tup [])
 rw[Xq]at e
 simp only[bZ,ud]
 simp[h.fln,lZ h.ln,e,BO.line]
theorem Cg(h:bQ M a s)(t:Int):jG [.ref a.sd,.int t] M= .ok (.int (s.mark t:Nat)) M:=by
 have e:=Xo h.mr t (.int 0)
 rw[HS]at e
 simp only[jG,uc]
 simp[h.fmk,lZ h.mr,e,BO.mark]
theorem Tj(h:bQ M a s)(t:Int):iw [.ref a.sd,.int t] M= .ok (.tup [.int ((jt (s.line t) s.S).1:Int),.int ((jt (s.line t) s.S).2:Int)]) M:=by
 simp only[iw,lq]
 simp[h.gq (m:= "line") rfl,lY h t,h.ffr,WM]
theorem aaF(h:bQ M a s)(k:Nat):mF [.ref a.sd,.int (k:Int)] M= .ok (.tup [.int ((jt (s.row k) s.S).1:Int),.int ((jt (s.row k) s.S).2:Int)]) M:=by
 simp only[mF,mO]
 simp[h.gq (m:= "row_of") rfl,Ad h k,h.ffr,WM]
theorem Xh(h:bQ M a s)(h1:∀e∈s.line t,JM e)(h2:∀e∈s.line u,JM e)(hp:(s.line t).take (s.mark t)=(s.line u).take (s.mark t)):jw [.ref a.sd,.int t,.int u] M= .ok (.bl true) M:=by
 have e:=Uh (M:=M) h1 h2 λ_=>hp
 rw[zaf (by rw[hp])]at e
 simp only[jw,n_]
 simp[h.gq (m:= "mark") rfl,Cg h,h.gq (m:= "line") rfl,lY h,e]
structure Kp(s:BO):Prop where
 ok:∀t,∀e∈s.line t,JM e
 kp:∀t u,t<=u->(gv s.ln t).isSome=true->(gv s.ln u).isSome=true->(s.line t).take (s.mark t)=(s.line u).take (s.mark t)
theorem aeo(h:bQ M a s)(k:Kp s)(hl:s.ln.length<=60)(ht:(gv s.ln t).isSome=true):∃M',jk [.ref a.sd,.int t] M= .ok .non M'/\Bx M a s M':=by
 have sd:wD [.ref a.ln] M= .ok (.ref M.length) (M++[.lst (kys s.ln)]):=RV h.ln aes (by rw[QC];omega)
 obtain⟨N,hN⟩:∃N,N=M++[MO.lst (kys s.ln)]:=⟨_,rfl⟩
 rw[<-hN]at sd
 have g:Gr M N:=by rw[hN];exact Gr.app
 have x:=Bx.gr h g
 have hL:N[M.length]? = some (.lst (kys s.ln)):=by rw[hN];exact bL
 obtain⟨e',M1,lp,hm1,v,rfl⟩:=pK (src:=some (M.length,kys s.ln)) (g:=gN 2) (b:=iB) (aly N a t) (ds:=kys s.ln) (e:=[some (.ref a.sd),some (.int t),none]) (M:=N)
  ⟨rfl,_,rfl⟩ (λi e M' _ p=>by rw[<-p.m];exact dD hL) λi d e M' hd p=>by
   obtain⟨pm,v,rfl⟩:=p
   subst pm
   obtain⟨u,rfl,hu⟩:=mem_keys (List.mem_of_getElem? hd)
   refine⟨_,rfl,?_⟩
   have kk:jw [.ref a.sd,.int (if t<u then t else u),.int (if u<t then t else u)] N= .ok (.bl true) N:=by
    rcases Int.le_total u t with z | z
    ·rw[if_neg ()]
     have q:(if u<t then t else u)=t:=by split<;>omega
     rw[q]
     exact Xh x.h (k.ok _) (k.ok _) (k.kp _ _ z hu ht)
    ·rw[if_neg (show ¬u<t by omega)]
     have q:(if t<u then t else u)=t:=by split<;>omega
     rw[q]
     exact Xh x.h (k.ok _) (k.ok _) (k.kp _ _ z ht hu)
   simp only[iB,ni]
   simp[x.h.gq (m:= "is_kept") rfl,kk]
   exact⟨rfl,_,rfl⟩
 subst hm1
 refine⟨N,?_,x⟩
 simp only[jk,jl,nj]
 simp[h.fln,sd,qN hL,lp]
theorem Xu(h:bQ M a s)(k:Kp s)(hl:s.ln.length<=60)(ht:(gv s.ln t).isSome=true):∃M',jx [.ref a.b,.int t] M= .ok .non M'/\Bx M a s M':=by
 obtain⟨M1,e1,x1⟩:=aeo h k hl ht
 refine⟨M1,?_,x1⟩
 simp only[jx,ou,rJ]
 simp[h.Xr,h.gq (m:= "lost_behind") rfl,e1]
def WOk:Wh->Prop
 | .ask _ _ o=>∃t,∀(k:Nat) (M:Mem),gm M (k+2) o=some t
 | _=>True
def Wh.isS:Wh->Bool
 | .st=>true
 | _=>false
theorem WOk.dt(h:WOk w):∃ts,∀(k:Nat) (M:Mem),gm M (k+4) w.d=some (.tup ts):=by
 cases w with
 | st=>exact⟨[.str "start"],λk M=>rfl⟩
 | K7 p q=>exact⟨[.str "roll",.int p,.int q],λk M=>rfl⟩
 | ask p q o=>
  obtain⟨t,h⟩:=h
  refine⟨[.str "ask",.int p,.int q,t],λk M=> ?_⟩
  have e:=h (k+1) M
  show(vz (gm M (k+3)) [.str "ask",.int p,.int q,o]).map Dt.tup=_
  have e':gm M (k+3) o=some t:=e
  have e1:gm M (k+3) (.str "ask")=some (.str "ask"):=rfl
  have e2:∀i:Int,gm M (k+3) (.int i)=some (.int i):=λ_=>rfl
  simp only[vz,e',e1,e2]
  rfl
theorem WOk.en(h:WOk w)(t:Int):JM (t,w):=by
 obtain⟨ts,h⟩:=h.dt
 refine⟨.tup [.int t,.tup ts],λM=> ?_⟩
 show(vz (gm M 10) [.int t,w.d]).map Dt.tup=_
 have e:=h 6 M
 have e2:gm M 10 (.int t)=some (.int t):=rfl
 simp only[vz,e,e2]
 rfl
theorem ak2(h:WOk w):sEq w.d (.tup [.str "start"]) M= .ok (.bl w.isS) M:=by
 cases w with
 | st=>exact vf rfl
 | K7 p q=>exact vf rfl
 | ask p q o=>
  obtain⟨t,h⟩:=h
  have e1:gm M 12 (Wh.ask p q o).d=some (.tup [.str "ask",.int p,.int q,t]):=by
   have e:=h 9 M
   show(vz (gm M 11) [.str "ask",.int p,.int q,o]).map Dt.tup=_
   have e':gm M 11 o=some t:=e
   have e1:gm M 11 (.str "ask")=some (.str "ask"):=rfl
   have e2:∀i:Int,gm M 11 (.int i)=some (.int i):=λ_=>rfl
   simp only[vz,e',e1,e2]
   rfl
  refine vf ((Eh e1 (b:= .tup [.str "start"]) rfl).trans ?_)
  congr 1
noncomputable def BO.Oj(s:BO)(t:Int)(p q:Nat):Bool:=if s.upTo t<(JW (s.line t):Int)then false else if(jt (s.line t) s.S).2=0 then decide (p=(jt (s.line t) s.S).1)&& !decide (q=0)else decide (p=(jt (s.line t) s.S).2)&&decide (q=0)
theorem aqt{p q:Nat}:sEq (.int (p:Int)) (.int (q:Int)) M= .ok (.bl (decide (p=q))) M:=by
 rw[Ww]
 congr 2
 by_cases z:p=q
 ·subst z;simp
 ·have:¬((p:Int)=(q:Int)):=()
  simp[z,this]
theorem ahV{p q r:Nat}:sEq (.tup [.str "roll",.int (p:Int),.int (q:Int)]) (.tup [.str "roll",.int (r:Int),.int 0]) M= .ok (.bl (decide (p=r)&&decide (q=0))) M:=by
 refine vf ((Eh (a:= .tup [.str "roll",.int p,.int q]) (b:= .tup [.str "roll",.int r,.int 0]) rfl rfl).trans ?_)
 congr 1
 by_cases z:p=r
 ·by_cases z2:q=0
  ·subst z z2;simp[wY]
  ·have:¬((q:Int)=0):=()
   simp[jy,yI,z,z2,this]
 ·have:¬((p:Int)=(r:Int)):=()
  simp[jy,yI,z,this]
theorem abq(h:bQ M a s)(t:Int)(p q:Nat):∃M',jE [.ref a.sd,.int t,(Wh.K7 p q).d] M= .ok (.bl (s.Oj t p q)) M'/\Bx M a s M':=by
 have e0:=lY h t
 obtain⟨M1,e1,x1⟩:=ac4 h t
 have e2:=Tj x1.h t
 have m1:=h.gq (m:= "line") rfl
 have m2:=h.gq (m:= "mark_up_to") rfl
 have m3:=x1.h.gq (m:= "line_roll") rfl
 refine⟨M1,?_,x1⟩
 obtain⟨P,hP⟩:∃P,P=jt (s.line t) s.S:=⟨_,rfl⟩
 rw[<-hP]at e2
 simp only[jE,jP,nQ,nP,BO.Oj,<-hP]
 by_cases z:s.upTo t<(JW (s.line t):Int)
 ·simp[m1,e0,R8,m2,e1,z]
 ·by_cases z2:P.2=0
  ·rw[z2]at e2
   simp at e2
   simp only[if_neg z,if_pos z2]
   by_cases z3:p=P.1
   ·have z3':(p:Int)=(P.1:Int):=by rw[z3]
    simp[m1,e0,R8,m2,e1,z,m3,e2,Wh.d,z3,Int.ofNat_eq_zero]
   ·have z3':¬((p:Int)=(P.1:Int)):=()
    simp[m1,e0,R8,m2,e1,z,m3,e2,Wh.d,z3,z3']
  ·have z2':¬((P.2:Int)=0):=()
   have q2:=ahV (M:=M1) (p:=p) (q:=q) (r:=P.2)
   simp[m1,e0,R8,m2,e1,z,m3,e2,z2,z2',Wh.d,q2]
theorem Vr{α:Type}{g:α->D}{n:Nat}{l:List (Int×α)}(h:M[n]? = some (.dk (ge kI g l))){k:Int}{x:α}(hx:gv l k=some x):a_ (.ref n) (.int k) M= .ok (g x) M:=by
 have e:CP M n (.int k)=some (some (g x),M):=by rw[QS h];show some (uX (ge kI g l) (kI k),M)=_;rw[Mg Qs,hx];rfl
 refine lU ((wF ?_).trans ?_)
 ·simp only[PB,Hl,qK,h]
 ·simp only[adz,e]
def BO.stands(s:BO)(t:Int):Bool:=match s.head t with
 | none=>false
 | some h=>decide (s.term h=t)
theorem N8(h:bQ M a s)(t:Int):iD [.ref a.bl,.int t] M= .ok (.bl (s.stands t)) M:=by
 have i:=aof h.se t
 cases z:gv s.se t with
 | none=>
  rw[z]at i
  have e:s.stands t=false:=by simp[BO.stands,BO.head,z]
  simp only[iD,kh]
  simp at i
  simp[h.fse,i,e]
 | some k=>
  rw[z]at i
  have e:s.stands t=decide (s.term k=t):=by simp[BO.stands,BO.head,z]
  have x:=Vr (M:=M) h.se z
  have q:=Ft h k
  simp only[nD]at x
  simp only[iD,kh]
  simp at i
  simp[h.fse,i,e,x,h.pG (m:= "term_of") rfl,q]
def BO.Dg(s:BO)(t p:Int)(w:Wh):Bool:=if p=(s.line t).length+1/\(!stE (s.line t) t)=w.isS then(match w with
 | .K7 x y=>s.Oj t x y
 | _=>true)else false
theorem abo(h:bQ M a s)(t p:Int)(hw:WOk w):∃M',cR [.ref a.sd,.int t,.int p,w.d] M= .ok (.bl (s.Dg t p w)) M'/\Bx M a s M':=by
 have e0:=lY h t
 have m0:=h.gq (m:= "line") rfl
 have ln:jz [esD (s.line t)] M= .ok (.int ((s.line t).length:Int)) M:=by simp[esD]
 obtain⟨d,e1,e2⟩:=ajn (M:=M) (t:=t) (es:=s.line t)
 have e3:=ak2 (M:=M) hw
 by_cases z1:p=(s.line t).length+1
 ·by_cases z2:(!stE (s.line t) t)=w.isS
  ·obtain⟨d2,e4,e5⟩:=afh (M:=M) w
   rw[z2]at e2
   cases w with
   | K7 x y=>
    obtain⟨M1,e6,x6⟩:=abq h t x y
    refine⟨M1,?_,x6⟩
    have q:s.Dg t p (.K7 x y)=s.Oj t x y:=if_pos ⟨z1,z2⟩
    rw[q]
    simp only[cR,cU,cY,cX]
    simp only[Wh.Y0]at e5
    simp[m0,e0,ln,<-z1,e1,e2,e3,e4,e5,h.gq (m:= "may_change") rfl,e6]
   | st=>
    refine⟨M,?_,Bx.of h⟩
    have q:s.Dg t p .st=true:=if_pos ⟨z1,z2⟩
    rw[q]
    simp only[cR,cU,cY,cX]
    simp only[Wh.Y0]at e5
    simp[m0,e0,ln,<-z1,e1,e2,e3,e4,e5]
   | ask x y o=>
    refine⟨M,?_,Bx.of h⟩
    have q:s.Dg t p (.ask x y o)=true:=if_pos ⟨z1,z2⟩
    rw[q]
    simp only[cR,cU,cY,cX]
    simp only[Wh.Y0]at e5
    simp[m0,e0,ln,<-z1,e1,e2,e3,e4,e5]
  ·refine⟨M,?_,Bx.of h⟩
   have q:s.Dg t p w=false:=if_neg λr=>z2 r.2
   rw[q]
   simp only[cR,cU,cY,cX]
   rw[<-e2]at z2
   simp[m0,e0,ln,<-z1,e1,e3,z2]
 ·refine⟨M,?_,Bx.of h⟩
  have q:s.Dg t p w=false:=if_neg λr=>z1 r.1
  rw[q]
  simp only[cR,cU,cY,cX]
  simp[m0,e0,ln,z1]
theorem agi(h:n<=1000):n+1<=sizeLine:=yY (Nat.succ_le_succ h) (by decide)
theorem acK(h:es.length<=1000):K6 (esD es) (.tup [oK e]) M= .ok (esD (es++[e])) M:=by
 have q:=aaD (M:=M) (xs:=es.map oK) (ys:=[oK e]) (by simpa using agi h)
 simpa[esD]using q
theorem ZR(h:bQ M a s)(hl:s.ln.length<=1000)(hr:s.ro.length<=1000)(h1:(s.line t).length<=1000)(h2:(s.row k).length<=1000):
  ∃M',qX [.ref a.sd,.int (k:Int),.int t,w.d] M= .ok .non M'/\Bx M a {s with ln:=gp s.ln t (s.line t++[(t,w)]),ro:=gp s.ro k (s.row k++[(t,w)])} M':=by
 have e0:=lY h t
 have a1:∀M:Mem,K6 (esD (s.line t)) (.tup [.tup [.int t,w.d]]) M= .ok (esD (s.line t++[(t,w)])) M:=λM=>acK (e:=(t,w)) h1
 have a2:∀M:Mem,K6 (esD (s.row k)) (.tup [.tup [.int t,w.d]]) M= .ok (esD (s.row k++[(t,w)])) M:=λM=>acK (e:=(t,w)) h2
 have p1:=Sd h.ln t (s.line t++[(t,w)]) hl
 have b1:=h.ai3 (Ch.set rfl) (ir (o:= .dk (ge kI esD (gp s.ln t (s.line t++[(t,w)])))) h.ln)
 have c1:Ch (Rg a) M (M.set a.ln (.dk (ge kI esD (gp s.ln t (s.line t++[(t,w)]))))):=Ch.set (show Rg a a.ln from qR h.o 9 rfl)
 obtain⟨M1,hM1⟩:∃M1,M1=M.set a.ln (.dk (ge kI esD (gp s.ln t (s.line t++[(t,w)])))):=⟨_,rfl⟩
 rw[<-hM1]at p1 b1 c1
 have e1:b_ [.ref a.sd,.int (k:Int)] M1= .ok (esD (s.row k)) M1:=Ad b1 k
 have p2:=WW b1.ro k (s.row k++[(t,w)]) hr
 have b2:=b1.ai1 (Ch.set rfl) (ir (o:= .dk (ge kN esD (gp s.ro k (s.row k++[(t,w)])))) b1.ro)
 have c2:Ch (Rg a) M1 (M1.set a.ro (.dk (ge kN esD (gp s.ro k (s.row k++[(t,w)]))))):=Ch.set (show Rg a a.ro from qR h.o 8 rfl)
 refine⟨_,?_,b2,c1.trans c2⟩
 simp only[qX,q_]
 simp[h.fln,h.gq (m:= "line") rfl,e0,a1,p1,b1.fro,b1.gq (m:= "row_of") rfl,e1,a2,p2]
theorem Yg(h:bQ M a s)(hl:s.mr.length<=1000)(t:Int)(p:Nat):∃M',pH [.ref a.sd,.int t,.int (p:Int)] M= .ok .non M'/\Bx M a {s with mr:=gp s.mr t p} M':=by
 have q:=Sd h.mr t p hl
 refine⟨_,?_,h.amY (Ch.set rfl) (ir h.mr),Ch.set (show Rg a a.mr from qR h.o 10 rfl)⟩
 simp only[pH,pQ]
 have nn:D.int (p:Int)=nD p:=rfl
 simp[h.fmk]
 rw[nn,q]
 simp
def BO.Hx(s:BO)(k:Nat)(t:Int):Nat:=(gv s.pl (k,t)).getD 0
theorem aaU(h:bQ M a s)(k:Nat)(t:Int):∃M',dB [.ref a.sd,.int (k:Int),.int t] M= .ok (.int (s.Hx k t:Nat)) M'/\Bx M a s M':=by
 obtain⟨M',e,tt,c⟩:=Xn h.pl (k,t) (.int 0)
 rw[HS]at e
 refine⟨M',?_,h.ai2 c tt,c.one (show Rg a a.pl from qR h.o 11 rfl)⟩
 simp only[dB,jN]
 simp[h.fpl,h.pl.dic,e,BO.Hx]
def BO.GP(s:BO)(c:Nat)(t:Int)(p V:Nat):Bool:=(HM.bW V).all λv=>decide (v=c)||decide (p<=s.Hx v t)
structure alC(M0:Mem)(a:BA)(s:BO)(c:Nat)(t:Int)(p V:Nat)(i:Nat)(ys:List D)(M:Mem):Prop where
 y:ys=((HM.bW V).take i).map λv=>D.bl (decide (v=c)||decide (p<=s.Hx v t))
 x:Bx M0 a s M
theorem abY(h:bQ M a s){V:Nat}(hV:V<2 ^ 60)(c:Nat)(t:Int)(p:Nat):∃M',gO [.ref a.sd,.int (c:Int),.int t,.int (p:Int),.int (V:Int)] M= .ok (.bl (s.GP c t p V)) M'/\Bx M a s M':=by
 have e0:=Bp (M:=M) V hV
 obtain⟨N,hN⟩:∃N,N=M++[MO.lst (hv (HM.bW V))]:=⟨_,rfl⟩
 rw[<-hN]at e0
 have g:Gr M N:=by rw[hN];exact Gr.app
 have x0:Bx M a s N:=Bx.gr h g
 have hl:N[M.length]? = some (.lst (hv (HM.bW V))):=by rw[hN];exact bL
 have keep:∀{M':Mem},Bx N a s M'->M'[M.length]? = some (.lst (hv (HM.bW V))):=λ{M'} x=>x.c.2 _ _ (h.nrg (zaa _)) hl
 obtain⟨ys,M1,e1,hy,x1⟩:=Mq (src:=some (M.length,hv (HM.bW V))) (tt:=Lr) (te:=Th (aC sEq (aq 0) (aq 1)) (aC U6 (aU 7 "place_told" dB 3 [] (aq 4) (au (aq 0) (au (aq 3) aF))) (aq 2)))
  (ce:=[some (.int (c:Int)),some (.int (p:Int)),some (.int t),some (.ref a.sd)]) (alC N a s c t p V) (hv (HM.bW V)) 0 (ys:=[]) (M:=N) ⟨by simp,Bx.of x0.h⟩ (λi ys M' _ _ q=>dD (keep q.x)) (λi d ys M' hd q=>by
   rw[Nat.zero_add]at q ⊢
   obtain⟨v,hv1,rfl⟩:∃v,(HM.bW V)[i]? = some v/\D.int (v:Int)=d:=by simpa[hv]using hd
   by_cases z:v=c
   ·refine⟨true,M',rfl,.inr ⟨rfl,.bl true,M',?_,?_,q.x⟩⟩
    ·simp[z]
    ·rw[q.y,List.take_succ,hv1]
     simp[z]
   ·obtain⟨M2,e2,x2⟩:=aaU q.x.h v t
    have z':¬((v:Int)=(c:Int)):=()
    refine⟨true,M',rfl,.inr ⟨rfl,.bl (decide (p<=s.Hx v t)),M2,?_,?_,q.x.trans x2⟩⟩
    ·simp[z',q.x.h.gq (m:= "place_told") rfl,e2]
    ·rw[q.y,List.take_succ,hv1]
     simp[z])
 rw[Nat.zero_add]at hy
 have hy':ys=((HM.bW V).map λv=>decide (v=c)||decide (p<=s.Hx v t)).map D.bl:=by
  rw[hy,List.take_of_length_le (by simp[hv])]
  simp
 have x1':Bx M a s M1:=x0.trans x1
 obtain⟨N1,Ow⟩:∃N1,N1=M1++[MO.lst ys]:=⟨_,rfl⟩
 rw[<-Ow]at e1
 have g1:Gr M1 N1:=by rw[Ow];exact Gr.app
 have al:R6 [.ref M1.length] N1= .ok (.bl (s.GP c t p V)) N1:=by
  have q:N1[M1.length]? = some (.lst (((HM.bW V).map λv=>decide (v=c)||decide (p<=s.Hx v t)).map D.bl)):=by rw[Ow,hy'];exact bL
  rw[R5 q]
  simp[BO.GP,List.all_map]
 refine⟨N1,?_,x1'.trans (Bx.gr x1'.h g1)⟩
 simp only[gO,jR]
 simp[e0,qN hl,qP,e1,al]
theorem af3(h:bQ M a s)(t:Int){V:Nat}(h1:(jt (s.line t) s.S).1<2 ^ 60)(h2:(jt (s.line t) s.S).2<2 ^ 60):
  ∃M',fX [.ref a.sd,.int t,.int (V:Int)] M= .ok (.bl (s.Yd V (jt (s.line t) s.S).1 (jt (s.line t) s.S).2)) M'/\Bx M a s M':=by
 obtain⟨M1,e1,x1⟩:=Wz h (V:=V) h1 h2
 refine⟨M1,?_,x1⟩
 simp only[fX,jm]
 simp[h.frs,h.akh (m:= "wins") rfl,h.gq (m:= "line_roll") rfl,Tj h t,e1,BO.Yd]
def BO.beat(s:BO)(t:Int):Nat:=(gv s.bt t).getD 0
theorem ae1(h:bQ M a s)(t:Int):nJ [.ref a.rp,.int t] M= .ok (.int (s.beat t:Nat)) M:=by
 have e:=Xo h.bt t (.int 0)
 rw[HS]at e
 simp only[nJ,oh]
 simp[h.fbt,lZ h.bt,e,BO.beat]
def BO.hrd(s:BO)(k:Nat)(t:Int):Nat:=(gv s.hd (k,t)).getD 0
theorem ahJ(h:bQ M a s)(k:Nat)(t:Int):∃M',kY [.ref a.rp,.int (k:Int),.int t] M= .ok (.int (s.hrd k t:Nat)) M'/\Bx M a s M':=by
 obtain⟨M',e,tt,c⟩:=Xn h.hd (k,t) (.int 0)
 rw[HS]at e
 refine⟨M',?_,h.ai4 c tt,c.one (show Rg a a.hd from qR h.o 14 rfl)⟩
 simp only[kY,lu]
 simp[h.fhd,h.hd.dic,e,BO.hrd]
theorem abW(h:bQ M a s)(hl:s.hd.length<=1000)(k:Nat)(t:Int):∃M',tQ [.ref a.rp,.int (k:Int),.int t,.int 0] M= .ok .non M'/\Bx M a {s with hd:=gp s.hd (k,t) (s.hrd k t)} M':=by
 obtain⟨M1,e1,x1⟩:=ahJ h k t
 have p:=WT x1.h.hd (k,t) (s.hrd k t) hl
 refine⟨_,?_,x1.h.ai4 (Ch.set rfl) (.inl (by obtain⟨o,q⟩:=x1.h.hd.some;exact ir q)),x1.c.trans (Ch.set (show Rg a a.hd from qR h.o 14 rfl))⟩
 have nn:D.int (if 0<s.hrd k t then((s.hrd k t:Nat):Int)else 0)=nD (s.hrd k t):=by
  unfold nD
  congr 1
  split<;>omega
 simp only[tQ,ug]
 simp[h.aej (m:= "beat_told") rfl,e1,x1.h.fhd]
 rw[nn,p]
 simp
theorem ac9(h:bQ M a s)(hl:s.ro.length<=1000)(hp:s.pl.length<=1000)(h1:∀e∈s.line t,JM e)(h2:∀e∈s.row k,JM e)(hq:((s.row k).take p).length=((s.line t).take p).length->(s.row k).take p=(s.line t).take p):
  ∃M',tL [.ref a.sd,.int (k:Int),.int t,.int (p:Int)] M= .ok .non M'/\Bx M a {s with ro:=gp s.ro k (if((s.row k).take p).length=((s.line t).take p).length then s.row k else(s.line t).take p),pl:=gp s.pl (k,t) (max p (s.Hx k t))} M':=by
 have e0:=ahu (M:=M) h1 h2 hq
 obtain⟨R,hR⟩:∃R,R=(if((s.row k).take p).length=((s.line t).take p).length then s.row k else(s.line t).take p):=⟨_,rfl⟩
 rw[<-hR]at e0 ⊢
 have p1:=WW h.ro k R hl
 have b1:=h.ai1 (Ch.set rfl) (ir (o:= .dk (ge kN esD (gp s.ro k R))) h.ro)
 have c1:Ch (Rg a) M (M.set a.ro (.dk (ge kN esD (gp s.ro k R)))):=Ch.set (show Rg a a.ro from qR h.o 8 rfl)
 obtain⟨M1,hM1⟩:∃M1,M1=M.set a.ro (.dk (ge kN esD (gp s.ro k R))):=⟨_,rfl⟩
 rw[<-hM1]at p1 b1 c1
 obtain⟨M2,e2,x2⟩:=aaU b1 k t
 have e2':dB [.ref a.sd,.int (k:Int),.int t] M1= .ok (.int (s.Hx k t:Nat)) M2:=e2
 have q:=WT x2.h.pl (k,t) (max p (s.Hx k t)) hp
 refine⟨_,?_,x2.h.ai2 (Ch.set rfl) (.inl (by obtain⟨o,w⟩:=x2.h.pl.some;exact ir w)),c1.trans (x2.c.trans (Ch.set (show Rg a a.pl from qR h.o 11 rfl)))⟩
 have nn:D.int (if(p:Int)<((s.Hx k t:Nat):Int)then((s.Hx k t:Nat):Int)else(p:Int))=nD (max p (s.Hx k t)):=by
  unfold nD
  congr 1
  split<;>omega
 simp only[tL,t_]
 simp[h.fro,h.gq (m:= "line") rfl,lY h t,h.gq (m:= "row_of") rfl,Ad h k,e0,p1,b1.gq (m:= "place_told") rfl,e2',x2.h.fpl]
 simp at nn
 rw[nn,q]
 simp
theorem afi:(("told" : Str)= "vote")=False:=eq_false (by decide)
theorem afj:(("told" : Str)= "chair")=False:=eq_false (by decide)
def pT(k:Nat)(t:Int)(p:Nat):D:= .tup [.str "told",.int (k:Int),.int t,.int (p:Int),.int 0]
theorem Td(h:bQ M a s)(hc:s.head t=some c)(hk:c≠k)(ht:s.term k<=t)(hp:p<=(s.line t).length):
  pI [.ref a.b,.int (k:Int),.int t,.int (p:Int),.int 0] M= .ok (.bl true) M:=by
 have e0:=GK h t
 rw[hc]at e0
 simp only[Option.map_some,Option.getD_some,nD]at e0
 have e1:=Ft h k
 have e2:=lY h t
 have e3:=ae1 h t
 have ln:jz [esD (s.line t)] M= .ok (.int ((s.line t).length:Int)) M:=by simp[esD]
 have n1:¬((c:Int)=(k:Int)):=()
 have n2:¬(t<s.term k):=()
 have f1:mG [.ref a.sd,.int t,.int (p:Int)] M= .ok (.bl true) M:=by
  simp only[mG,mQ]
  simp[h.gq (m:= "line") rfl,e2,ln,hp]
 have f2:mH [.ref a.rp,.int t,.int 0] M= .ok (.bl true) M:=by
  simp only[mH,mR]
  simp[h.aej (m:= "beat_of") rfl,e3]
 simp only[pI,pU,tY]
 simp[h.fbl,h.pG (m:= "chair_of") rfl,e0,n1,h.pG (m:= "term_of") rfl,e1,n2,h.Xr,h.gq (m:= "may_tell") rfl,f1,h.frp,h.aej (m:= "may_hear") rfl,f2]
theorem ab9:gM [pT k t p] M= .ok (.bl true) M:=by
 have q:Pb "told" [("vote",4),("chair",4),("write",4),("beat",3),("told",5),("settle",4),("answer",6),("look",6),("seen",8)]= .int 5:=rfl
 simp only[gM,nq,pT]
 simp[q]
theorem Vv:sIn (.str "told") (.nA [.str "vote",.str "chair",.str "told"]) M= .ok (.bl true) M:=by
 refine(wF rfl).trans ?_
 simp only[U4,Rp,zW,Pa]
 simp[inV,eqV,Bool.beq_eq_decide_eq]
theorem ae7(h:bQ M a s)(hb:LR s.br=true)(t1:1<=t)(hc:s.head t=some c)(hk:c≠k)(ht:s.term k<=t)(hp:p<=(s.line t).length):
  bH [.ref a.b,pT k t p] M= .ok (.bl true) M:=by
 have e:=Td h hc hk ht hp
 have f:=ab9 (M:=M) (k:=k) (p:=p) (t:=t)
 have tn:jY [pT k t p] M= .ok (.int t) M:=by
  simp only[jY,sG,qO,pT]
  simp[Vv]
 have ah:cg [.ref a.b,pT k t p] M= .ok (.bl true) M:=by
  simp only[cg,fu,gb,f9,pT]
  have i4:a_ (.tup [.str "told",.int (k:Int),.int t,.int (p:Int),.int 0]) (.int 4) M= .ok (.int 0) M:=xU (by decide) rfl
  simp[h.Xr,h.gq (m:= "row_of") rfl,Ad h k,QJ,afi,afj,h.Fb (m:= "may_tell") rfl,i4,e]
 have n1:¬(t<1):=()
 have i0:a_ (pT k t p) (.int 0) M= .ok (.str "told") M:=jB
 simp only[bH,di,cM,cL]
 simp[h.fbr,hb,f,tn,n1,i0,Vv,h.Fb (m:= "allows_hand") rfl,ah]
structure alE(s:BO):Prop where
 tm:s.tm.length<=1000
 ro:s.ro.length<=1000
 pl:s.pl.length<=1000
 hd:s.hd.length<=1000
def BO.led(s:BO)(k:Nat)(t:Int)(p:Nat):List En:=if((s.row k).take p).length=((s.line t).take p).length then s.row k else(s.line t).take p
def BO.told(s:BO)(k:Nat)(t:Int)(p:Nat):BO:={s with cnt:=s.cnt+1,tm:=gp s.tm k t,ro:=gp s.ro k (s.led k t p),pl:=gp s.pl (k,t) (max p (s.Hx k t)),hd:=gp s.hd (k,t) (s.hrd k t)}
theorem Z8(h:bQ M a s)(f:alE s)(hb:LR s.br=true)(t1:1<=t)(hc:s.head t=some c)(hk:c≠k)(ht:s.term k<=t)(hp:p<=(s.line t).length)
  (h1:∀e∈s.line t,JM e) (h2:∀e∈s.row k,JM e) (hq:((s.row k).take p).length=((s.line t).take p).length->(s.row k).take p=(s.line t).take p):
  ∃M',aN [.ref a.b,pT k t p] M= .ok .non M'/\Bx M a (s.told k t p) M':=by
 have e0:=ae7 h hb t1 hc hk ht hp
 obtain⟨M2,e2,x2⟩:=P0 h
 obtain⟨M3,e3,x3⟩:=R9 x2.h f.tm k t
 obtain⟨M4,e4,x4⟩:=ac9 x3.h (k:=k) (t:=t) (p:=p) f.ro f.pl h1 h2 hq
 obtain⟨M5,e5,x5⟩:=abW x4.h f.hd k t
 have fh:dN [.ref a.b,pT k t p] M2= .ok .non M5:=by
  have i4:∀M:Mem,a_ (.tup [.str "told",.int (k:Int),.int t,.int (p:Int),.int 0]) (.int 4) M= .ok (.int 0) M:=λM=>xU (by decide) rfl
  simp only[dN,fj,fZ,fY,pT]
  simp[afi,afj,x2.h.fbl,x2.h.pG (m:= "reach") rfl,e3,x3.h.Xr,x3.h.gq (m:= "tell") rfl,e4,x4.h.frp,x4.h.aej (m:= "hear") rfl,i4,e5]
 refine⟨M5,?_,x2.trans (x3.trans (x4.trans x5))⟩
 have i0:∀M:Mem,a_ (pT k t p) (.int 0) M= .ok (.str "told") M:=λM=>jB
 simp only[aN,fJ,eO,eN]
 simp[h.Fb (m:= "allows") rfl,e0,h.fcn,e2,i0,Vv,x2.h.Fb (m:= "follow_hand") rfl,fh]
theorem Zt(h:bQ M a s)(k:Nat)(t:Int)(hw:w<60):∃M',cg [.ref a.b,pV k t w] M= .ok (.bl (s.lV k t w (pL (s.row k)))) M'/\Bx M a s M':=by
 obtain⟨M1,e1,x1⟩:=Ve h k t hw (pL (s.row k))
 refine⟨M1,?_,x1⟩
 simp only[cg,fu,gb,f9,pap]
 simp[h.Xr,h.gq (m:= "row_of") rfl,Ad h k,QJ,h.fbl,h.pG (m:= "may_vote") rfl,e1]
theorem Zu(h:bQ M a s){k:Nat}(hk:k<60)(t:Int){V:Nat}(hV:V<2 ^ 60)(h1:(jt (s.row k) s.S).1<2 ^ 60)(h2:(jt (s.row k) s.S).2<2 ^ 60):
  ∃M',cg [.ref a.b,pC k t V] M= .ok (.bl (s.jC k t V (pL (s.row k)) (jt (s.row k) s.S).1 (jt (s.row k) s.S).2)) M'/\Bx M a s M':=by
 obtain⟨M1,e1,x1⟩:=Te h hk t hV h1 h2 (pL (s.row k))
 refine⟨M1,?_,x1⟩
 simp only[cg,fu,gb,f9,pap]
 simp[afT,h.Xr,h.gq (m:= "row_of") rfl,Ad h k,QJ,h.fbl,h.pG (m:= "may_chair") rfl,h.gq (m:= "row_roll") rfl,aaF h k,e1]
theorem We(h:bQ M a s)(hf:Few s)(k:Nat)(t:Int)(hw:w<60)(hb:LR s.br=true)(t1:1<=t)(hv:s.lV k t w (pL (s.row k))=true):
  ∃M',aN [.ref a.b,pV k t w] M= .ok .non M'/\Bx M a ({s with cnt:=s.cnt+1}.cast k t w (pL (s.row k))) M':=by
 have r:=Z9 h (.inl rfl) (X5 h (.inl rfl) (Zt h k t hw)) (s3:={s with cnt:=s.cnt+1}.cast k t w (pL (s.row k))) λM2 h2=>by
  obtain⟨M3,e3,x3⟩:=aeU h2 ⟨hf.tm,hf.vt,hf.ak,hf.se,hf.ln⟩ k t hw (pL (s.row k))
  have r:b_ [.ref a.sd,.int (k:Int)] M2= .ok (esD (s.row k)) M2:=Ad h2 k
  refine⟨M3,?_,x3⟩
  simp only[dN,fj,fZ,fY,pap]
  simp[h2.fbl,h2.Xr,h2.gq (m:= "row_of") rfl,r,QJ,h2.pG (m:= "cast") rfl,e3]
 have o:s.Ip t (s.lV k t w (pL (s.row k)))=true:=by simp[BO.Ip,hb,t1,hv]
 rcases r with⟨_,r⟩ | ⟨r,_⟩
 ·exact r
 ·rw[o]at r;cases r
theorem Z3(h:bQ M a s)(hf:Few s)(hn:s.head t=none)(kp:Kp {s with se:=gp s.se t k,ln:=gp s.ln t (s.row k)})(hl:s.ln.length<60):
  ∃M',iC [.ref a.b,.int (k:Int),.int t] M= .ok .non M'/\Bx M a {s with se:=gp s.se t k,ln:=gp s.ln t (s.row k)} M':=by
 have e0:=GK h t
 rw[hn]at e0
 obtain⟨M1,e1,x1⟩:=adp h (by have:=hf.se;omega) k t
 obtain⟨M2,e2,x2⟩:=acF x1.h (by show s.ln.length<=1000;omega) k t
 obtain⟨M3,e3,x3⟩:=Xu x2.h kp (by show(gp s.ln t _).length<=60;exact yY ab2 ()) (t:=t) (by show(gv (gp s.ln t _) t).isSome=true;rw[Jf,if_pos rfl];rfl)
 refine⟨M3,?_,x1.trans (x2.trans x3)⟩
 simp only[Option.map_none,Option.getD_none]at e0
 simp only[iC,iI,kJ]
 simp[h.fbl,h.pG (m:= "chair_of") rfl,e0,h.pG (m:= "take_seat") rfl,e1,x1.h.Xr,x1.h.gq (m:= "begin_line") rfl,e2,x2.h.Fb (m:= "find_lost") rfl,e3]
theorem ac_(h:bQ M a s)(hf:Few s){k:Nat}(hk:k<60){t:Int}{V:Nat}(hV:V<2 ^ 60)(h1:(jt (s.row k) s.S).1<2 ^ 60)(h2:(jt (s.row k) s.S).2<2 ^ 60)(hb:LR s.br=true)(t1:1<=t)
  (hn:s.head t=none) (kp:Kp {s with se:=gp s.se t k,ln:=gp s.ln t (s.row k)}) (hl:s.ln.length<60) (hc:s.jC k t V (pL (s.row k)) (jt (s.row k) s.S).1 (jt (s.row k) s.S).2=true):
  ∃M',aN [.ref a.b,pC k t V] M= .ok .non M'/\Bx M a {s with cnt:=s.cnt+1,se:=gp s.se t k,ln:=gp s.ln t (s.row k)} M':=by
 have r:=Z9 h (.inr rfl) (X5 h (.inr rfl) (Zu h hk t hV h1 h2)) (s3:={s with cnt:=s.cnt+1,se:=gp s.se t k,ln:=gp s.ln t (s.row k)}) λM2 b2=>by
  obtain⟨M3,e3,x3⟩:=Z3 b2 ⟨hf.tm,hf.vt,hf.ak,hf.se,hf.ln⟩ (k:=k) (t:=t) hn ⟨kp.ok,kp.kp⟩ hl
  refine⟨M3,?_,x3⟩
  simp only[dN,fj,fZ,fY,pap]
  simp[afT,b2.Fb (m:= "follow_to_chair") rfl,e3]
 have o:s.Ip t (s.jC k t V (pL (s.row k)) (jt (s.row k) s.S).1 (jt (s.row k) s.S).2)=true:=by simp[BO.Ip,hb,t1,hc]
 rcases r with⟨_,r⟩ | ⟨r,_⟩
 ·exact r
 ·rw[o]at r;cases r
def pW(t p:Int)(w:Wh):D:= .tup [.str "write",.int t,.int p,w.d]
theorem ab8:gM [pW t p w] M= .ok (.bl true) M:=by
 have q:Pb "write" [("vote",4),("chair",4),("write",4),("beat",3),("told",5),("settle",4),("answer",6),("look",6),("seen",8)]= .int 4:=rfl
 simp only[gM,nq,pW]
 simp[q]
theorem Qw:sIn (.str "write") (.nA [.str "vote",.str "chair",.str "told"]) M= .ok (.bl false) M:=by
 rw[in_of]
 have e1:(("vote" : Str)= "write")=False:=eq_false (by decide)
 have e2:(("chair" : Str)= "write")=False:=eq_false (by decide)
 have e3:(("told" : Str)= "write")=False:=eq_false (by decide)
 simp[e1,e2,e3]
def BO.pX(s:BO)(t p:Int)(w:Wh):Bool:=decide (1<=t)&&(s.stands t&&s.Dg t p w)
theorem ae6(h:bQ M a s)(hb:LR s.br=true)(t p:Int)(hw:WOk w):∃M',bH [.ref a.b,pW t p w] M= .ok (.bl (s.pX t p w)) M'/\Bx M a s M':=by
 have f:=ab8 (M:=M) (t:=t) (p:=p) (w:=w)
 have tn:jY [pW t p w] M= .ok (.int t) M:=by
  simp only[jY,sG,qO,pW]
  simp[Qw]
 have i0:a_ (pW t p w) (.int 0) M= .ok (.str "write") M:=jB
 have i1:a_ (pW t p w) (.int 1) M= .ok (.int t) M:=R1
 have e1:=N8 h t
 by_cases z1:t<1
 ·refine⟨M,?_,Bx.of h⟩
  have q:s.pX t p w=false:=by simp[BO.pX,show ¬1<=t by omega]
  rw[q]
  simp only[bH,di,cM,cL]
  simp[h.fbr,hb,f,tn,z1]
 ·have z1':1<=t:=()
  cases z2:s.stands t with
  | false=>
   rw[z2]at e1
   refine⟨M,?_,Bx.of h⟩
   have q:s.pX t p w=false:=by simp[BO.pX,z2]
   rw[q]
   simp only[bH,di,cM,cL]
   simp[h.fbr,hb,f,tn,z1,i0,i1,Qw,h.fbl,h.pG (m:= "stands") rfl,e1]
  | true=>
   rw[z2]at e1
   obtain⟨M1,e2,x2⟩:=abo h t p hw
   have ac:eG [.ref a.b,pW t p w] M= .ok (.bl (s.Dg t p w)) M1:=by
    simp only[eG,gY,iZ,pW]
    simp[h.Xr,h.gq (m:= "may_write") rfl,e2]
   refine⟨M1,?_,x2⟩
   have q:s.pX t p w=s.Dg t p w:=by simp[BO.pX,z2,z1']
   rw[q]
   simp only[bH,di,cM,cL]
   simp[h.fbr,hb,f,tn,z1,i0,i1,Qw,h.fbl,h.pG (m:= "stands") rfl,e1,h.Fb (m:= "allows_chair") rfl,ac]
theorem af7(h:bQ M a s)(hb:LR s.br=true)(hl:s.ln.length<=1000)(hr:s.ro.length<=1000)(t p:Int)(hw:WOk w)(l1:(s.line t).length<=1000)(l2:∀k,(s.row k).length<=1000):
  (s.pX t p w=true/\∃k M',s.head t=some k/\aN [.ref a.b,pW t p w] M= .ok .non M'/\Bx M a {s with cnt:=s.cnt+1,ln:=gp s.ln t (s.line t++[(t,w)]),ro:=gp s.ro k (s.row k++[(t,w)])} M')
  \/ (s.pX t p w=false/\∃M',aN [.ref a.b,pW t p w] M= .exc 2 (.int (s.cnt:Int)) M'/\Bx M a s M'):=by
 obtain⟨M1,e1,x1⟩:=ae6 h hb t p hw
 have m1:=h.Fb (m:= "allows") rfl
 have i0:∀M:Mem,a_ (pW t p w) (.int 0) M= .ok (.str "write") M:=λM=>jB
 cases c:s.pX t p w with
 | false=>
  rw[c]at e1
  refine .inr ⟨rfl,M1,?_,x1⟩
  simp only[aN,fJ,eO,eN]
  simp[m1,e1,x1.h.fcn,one]
 | true=>
  rw[c]at e1
  obtain⟨k,hk⟩:∃k,s.head t=some k:=by
   cases z:s.head t with
   | none=>simp[BO.pX,BO.stands,z]at c
   | some k=>exact⟨k,rfl⟩
  obtain⟨M2,e2,x2⟩:=P0 x1.h
  obtain⟨M3,e3,x3⟩:=ZR x2.h (k:=k) (t:=t) (w:=w) hl hr l1 (l2 k)
  have hd:cF [.ref a.bl,.int t] M2= .ok (.int (k:Int)) M2:=by
   have q:=GK x2.h t
   have hk':({s with cnt:=s.cnt+1}:BO).head t=some k:=hk
   rw[hk']at q
   exact q
  have fc:eF [.ref a.b,pW t p w] M2= .ok .non M3:=by
   simp only[eF,gW,iY,iW,iV,iU,iT,pW]
   simp[x2.h.Xr,x2.h.fbl,x2.h.pG (m:= "chair_of") rfl,hd,x2.h.gq (m:= "write") rfl,e3]
  refine .inl ⟨rfl,k,M3,hk,?_,x1.trans (x2.trans x3)⟩
  simp only[aN,fJ,eO,eN]
  simp[m1,e1,x1.h.fcn,e2,i0,Qw,x2.h.Fb (m:= "follow_chair") rfl,fc]
end
section
variable{M:Mem}
theorem pf(h:c∈cs)(h2:fs.length<1000):ju cs f d (.ref M.length) (M++(MO.ins c fs::xs))=some (M++(MO.ins c (putD f d fs)::xs)):=by
 rw[gK (by simp:(M++(MO.ins c fs::xs))[M.length]? = some (.ins c fs)) h h2]
 simp
theorem abb:∀{fs:List (Str×D)},(putD f d fs).length<=fs.length+1
 | []=>zaa _
 | (x,e)::r=>by
  unfold putD
  split
  ·exact Nat.le_succ _
  ·exact Nat.succ_le_succ abb
theorem aba(h:fs.length<n):(putD f d fs).length<n+1:=Nat.lt_of_le_of_lt abb (Nat.succ_lt_succ h)
theorem Zo:tU [.ref M.length,.ref r] (M++[.ins 0 []])= .ok .non (M++[.ins 0 [("rules",.ref r),("terms",.ref (M.length+1)),("votes",.ref (M.length+2)),("askings",.ref (M.length+3)),("seated",.ref (M.length+4))],.dk [],.dk [],.dk [],.dk []]):=by
 simp only[tU,uo]
 simp(maxDischargeDepth:=9) [pf,aba]
 rfl
theorem aae:tM [.ref M.length,dd,.ref r] (M++[.ins 7 []])= .ok .non (M++[.ins 7 [("first_roll",dd),("rules",.ref r),("rows",.ref (M.length+1)),("lines",.ref (M.length+2)),("marks",.ref (M.length+3)),("places",.ref (M.length+4))],.dk [],.dk [],.dk [],.dk []]):=by
 simp only[tM,ue]
 simp(maxDischargeDepth:=9) [pf,aba]
 rfl
theorem aaL : tO [.ref M.length] (M++[.ins 5 []])= .ok .non (M++[.ins 5 [("beats",.ref (M.length+1)),("heard",.ref (M.length+2)),("looks",.ref (M.length+3)),("seen",.ref (M.length+4))],.dk [],.dk [],.dk [],.dk []]):=by
 simp only[tO,uf]
 simp(maxDischargeDepth:=9) [pf,aba]
 rfl
def adr(b n:Nat):BA:=⟨b,b+1,n,n+1,n+2,n+3,n+4,n+5,n+6,n+7,n+8,n+9,n+10,n+11,n+12,n+13,n+14⟩
def b0(S:Nat)(r1 r2 r3 r4:Bool):BO:=⟨S,r1,r2,r3,r4,0,.non,[],[],[],[],[],[],[],[],[],[],[],[]⟩
theorem acD{S:Nat}{b1 b2 b3 b4:Bool}
  (hr:∀(o:MO) (e:Sl),mIf (aY (aC sIs (aq 2) (mC .non))) (yV 6 gP 2 [(.str "once best own most")] aF) (aU 6 "twin" rQ 1 [] (aq 2) aF) [some (.ref M.length),some (.int (S:Int)),some r] (M++[.ins 8 [("first",.int (S:Int))]])= .ok (.ref (M.length+1)) N1)
  (g:Gr (M++[.ins 8 [("first",.int (S:Int))]]) N1) (hN:N1[M.length+1]? = some (uz b1 b2 b3 b4)):
  ∃M',rT [.ref M.length,.int (S:Int),r] (M++[.ins 8 []])= .ok .non M'/\bQ M' (adr M.length N1.length) (b0 S b1 b2 b3 b4)/\Gr M M':=by
 have hl:=Bc hN
 obtain⟨a,ha⟩:∃a,a=adr M.length N1.length:=⟨_,rfl⟩
 have h1:N1[M.length]? = some (.ins 8 [("first",.int (S:Int))]):=g _ _ (by simp)
 have p1:ju [8] "first" (.int (S:Int)) (.ref M.length) (M++[.ins 8 []])=some (M++[.ins 8 [("first",.int (S:Int))]]):=by
  rw[gK (by simp:(M++[MO.ins 8 []])[M.length]? = some (.ins 8 [])) (by simp) (by simp)]
  simp[putD]
 have p2:ju [0,7,8] "rules" (.ref (M.length+1)) (.ref M.length) N1=some (N1.set M.length (.ins 8 [("first",.int (S:Int)),("rules",.ref (M.length+1))])):=by
  rw[gK h1 (by simp) (by simp)];rfl
 obtain⟨A,hA⟩:∃A,A=N1.set M.length (.ins 8 [("first",.int (S:Int)),("rules",.ref (M.length+1))]):=⟨_,rfl⟩
 have lA:A.length=N1.length:=by rw[hA,List.length_set]
 have hA0:A[M.length]? = some (.ins 8 [("first",.int (S:Int)),("rules",.ref (M.length+1))]):=by rw[hA];exact get_set h1
 have fA:j5 [0,7,8] "rules" (.ref M.length) A= .ok (.ref (M.length+1)) A:=cD hA0 (by simp) rfl
 have e3:=Zo (M:=A) (r:=M.length+1)
 obtain⟨B0,hB0⟩:∃B0,B0=A++[MO.ins 0 [("rules",.ref (M.length+1)),("terms",.ref (A.length+1)),("votes",.ref (A.length+2)),("askings",.ref (A.length+3)),("seated",.ref (A.length+4))],.dk [],.dk [],.dk [],.dk []]:=⟨_,rfl⟩
 rw[<-hB0]at e3
 have akR:B0[M.length]? = some (.ins 8 [("first",.int (S:Int)),("rules",.ref (M.length+1))]):=by rw[hB0];exact Gr.app _ _ hA0
 have p3:ju [8] "ballots" (.ref A.length) (.ref M.length) B0=some (B0.set M.length (.ins 8 [("first",.int (S:Int)),("rules",.ref (M.length+1)),("ballots",.ref A.length)])):=by
  rw[gK akR (by simp) (by simp)];rfl
 obtain⟨B,hB⟩:∃B,B=B0.set M.length (.ins 8 [("first",.int (S:Int)),("rules",.ref (M.length+1)),("ballots",.ref A.length)]):=⟨_,rfl⟩
 have lB:B.length=A.length+5:=by rw[hB,List.length_set,hB0];simp
 have hB1:B[M.length]? = some (.ins 8 [("first",.int (S:Int)),("rules",.ref (M.length+1)),("ballots",.ref A.length)]):=by rw[hB];exact get_set akR
 have fB:j5 [0,7,8] "rules" (.ref M.length) B= .ok (.ref (M.length+1)) B:=cD hB1 (by simp) rfl
 have e4:=aae (M:=B) (r:=M.length+1) (dd:= .tup [.int (S:Int),.int 0])
 obtain⟨C0,hC0⟩:∃C0,C0=B++[MO.ins 7 [("first_roll",.tup [.int (S:Int),.int 0]),("rules",.ref (M.length+1)),("rows",.ref (B.length+1)),("lines",.ref (B.length+2)),("marks",.ref (B.length+3)),("places",.ref (B.length+4))],.dk [],.dk [],.dk [],.dk []]:=⟨_,rfl⟩
 rw[<-hC0]at e4
 have akQ:C0[M.length]? = some (.ins 8 [("first",.int (S:Int)),("rules",.ref (M.length+1)),("ballots",.ref A.length)]):=by rw[hC0];exact Gr.app _ _ hB1
 have p4:ju [8] "strides" (.ref B.length) (.ref M.length) C0=some (C0.set M.length (.ins 8 [("first",.int (S:Int)),("rules",.ref (M.length+1)),("ballots",.ref A.length),("strides",.ref B.length)])):=by
  rw[gK akQ (by simp) (by simp)];rfl
 obtain⟨C,hC⟩:∃C,C=C0.set M.length (.ins 8 [("first",.int (S:Int)),("rules",.ref (M.length+1)),("ballots",.ref A.length),("strides",.ref B.length)]):=⟨_,rfl⟩
 have lC:C.length=B.length+5:=by rw[hC,List.length_set,hC0];simp
 have hC1:C[M.length]? = some (.ins 8 [("first",.int (S:Int)),("rules",.ref (M.length+1)),("ballots",.ref A.length),("strides",.ref B.length)]):=by rw[hC];exact get_set akQ
 have e5:=aaL (M:=C)
 obtain⟨E0,hE0⟩:∃E0,E0=C++[MO.ins 5 [("beats",.ref (C.length+1)),("heard",.ref (C.length+2)),("looks",.ref (C.length+3)),("seen",.ref (C.length+4))],.dk [],.dk [],.dk [],.dk []]:=⟨_,rfl⟩
 rw[<-hE0]at e5
 have aey:E0[M.length]? = some (.ins 8 [("first",.int (S:Int)),("rules",.ref (M.length+1)),("ballots",.ref A.length),("strides",.ref B.length)]):=by rw[hE0];exact Gr.app _ _ hC1
 have p5:ju [8] "replies" (.ref C.length) (.ref M.length) E0=some (E0.set M.length (.ins 8 [("first",.int (S:Int)),("rules",.ref (M.length+1)),("ballots",.ref A.length),("strides",.ref B.length),("replies",.ref C.length)])):=by
  rw[gK aey (by simp) (by simp)];rfl
 have p6:ju [8] "count" (.int 0) (.ref M.length) (E0.set M.length (.ins 8 [("first",.int (S:Int)),("rules",.ref (M.length+1)),("ballots",.ref A.length),("strides",.ref B.length),("replies",.ref C.length)]))=some (E0.set M.length (.ins 8 [("first",.int (S:Int)),("rules",.ref (M.length+1)),("ballots",.ref A.length),("strides",.ref B.length),("replies",.ref C.length),("count",.int 0)])):=by
  rw[gK (get_set aey) (by simp) (by simp),List.set_set];rfl
 have p7:ju [8] "breach" .non (.ref M.length) (E0.set M.length (.ins 8 [("first",.int (S:Int)),("rules",.ref (M.length+1)),("ballots",.ref A.length),("strides",.ref B.length),("replies",.ref C.length),("count",.int 0)]))=some (E0.set M.length (MJ a S 0 .non)):=by
  rw[gK (get_set aey) (by simp) (by simp),List.set_set,ha,lC,lB,lA];rfl
 obtain⟨Z,hZ⟩:∃Z,Z=E0.set M.length (MJ a S 0 .non):=⟨_,rfl⟩
 rw[<-hZ]at p7
 refine⟨Z,?_,?_,?_⟩
 ·simp only[rT,j_]
  have hr':=hr (.dk []) []
  simp[p1]
  simp at hr'
  simp[hr',p2,<-hA,fA,e3,p3,<-hB,fB,e4,p4,<-hC,e5,p5,p6,p7]
 ·
  have kA:∀i o,i≠M.length->N1[i]? = some o->A[i]? = some o:=λi o hi h=>by rw[hA];exact sI h hi
  have kB:∀i o,i≠M.length->A[i]? = some o->B[i]? = some o:=λi o hi h=>by rw[hB];exact sI (by rw[hB0];exact Gr.app _ _ h) hi
  have kC:∀i o,i≠M.length->B[i]? = some o->C[i]? = some o:=λi o hi h=>by rw[hC];exact sI (by rw[hC0];exact Gr.app _ _ h) hi
  have kE:∀i o,i≠M.length->C[i]? = some o->Z[i]? = some o:=λi o hi h=>by rw[hZ];exact sI (by rw[hE0];exact Gr.app _ _ h) hi
  have qB:∀(j:Nat) (o:MO),([MO.ins 0 [("rules",.ref (M.length+1)),("terms",.ref (A.length+1)),("votes",.ref (A.length+2)),("askings",.ref (A.length+3)),("seated",.ref (A.length+4))],.dk [],.dk [],.dk [],.dk []]:List MO)[j]? = some o->Z[N1.length+j]? = some o:=λj o h=>
   kE _ _ () (kC _ _ () (by rw[hB];refine sI ?_ ();rw[hB0,zac (),lA,Nat.add_sub_cancel_left,<-lA];exact h))
  have qC:∀(j:Nat) (o:MO),([MO.ins 7 [("first_roll",.tup [.int (S:Int),.int 0]),("rules",.ref (M.length+1)),("rows",.ref (B.length+1)),("lines",.ref (B.length+2)),("marks",.ref (B.length+3)),("places",.ref (B.length+4))],.dk [],.dk [],.dk [],.dk []]:List MO)[j]? = some o->Z[N1.length+5+j]? = some o:=λj o h=>
   kE _ _ () (by rw[hC];refine sI ?_ ();rw[hC0,zac (),show N1.length+5+j - B.length=j by omega];exact h)
  have qE:∀(j:Nat) (o:MO),([MO.ins 5 [("beats",.ref (C.length+1)),("heard",.ref (C.length+2)),("looks",.ref (C.length+3)),("seen",.ref (C.length+4))],.dk [],.dk [],.dk [],.dk []]:List MO)[j]? = some o->Z[N1.length+10+j]? = some o:=λj o h=>by
   rw[hZ]
   refine sI ?_ ()
   rw[hE0,zac (),show N1.length+10+j - C.length=j by omega];exact h
  have hz0:Z[M.length]? = some (MJ (adr M.length N1.length) S 0 .non):=by rw[hZ,<-ha];exact get_set aey
  have eA:A.length=N1.length:=lA
  have eB:B.length=N1.length+5:=()
  have eC:C.length=N1.length+10:=()
  rw[eA]at qB
  rw[eB]at qC
  rw[eC]at qE
  refine⟨?_,?_,?_,?_,.inr ⟨?_,rfl⟩,.inr ⟨?_,rfl⟩,?_,?_,?_,?_,?_,.inr ⟨?_,rfl⟩,?_,?_,.inr ⟨?_,rfl⟩,.inr ⟨?_,rfl⟩,.inr ⟨?_,rfl⟩,?_⟩
  ·exact hz0
  ·exact kE _ _ (by simp[adr]) (kC _ _ (by simp[adr]) (kB _ _ (by simp[adr]) (kA _ _ (by simp[adr]) hN)))
  ·exact qB 0 _ rfl
  ·exact qB 1 _ rfl
  ·exact qB 2 _ rfl
  ·exact qB 3 _ rfl
  ·exact qB 4 _ rfl
  ·exact qC 0 _ rfl
  ·exact qC 1 _ rfl
  ·exact qC 2 _ rfl
  ·exact qC 3 _ rfl
  ·exact qC 4 _ rfl
  ·exact qE 0 _ rfl
  ·exact qE 1 _ rfl
  ·exact qE 2 _ rfl
  ·exact qE 3 _ rfl
  ·exact qE 4 _ rfl
  ·simp only[adr];omega
 ·
  intro i o h
  have hi:=Bc h
  have h':N1[i]? = some o:=g _ _ (Gr.app _ _ h)
  rw[hZ]
  refine sI ?_ ()
  rw[hE0]
  refine Gr.app _ _ ?_
  rw[hC]
  refine sI ?_ ()
  rw[hC0]
  refine Gr.app _ _ ?_
  rw[hB]
  refine sI ?_ ()
  rw[hB0]
  refine Gr.app _ _ ?_
  rw[hA]
  exact sI h' ()
theorem acE{S r:Nat}{b1 b2 b3 b4:Bool}(hR:M[r]? = some (uz b1 b2 b3 b4)):∃a M',rT [.ref M.length,.int (S:Int),.ref r] (M++[.ins 8 []])= .ok .non M'/\a.b=M.length/\bQ M' a (b0 S b1 b2 b3 b4)/\Gr M M':=by
 have hR':=Gr.app (xs:=[MO.ins 8 [("first",.int (S:Int))]]) _ _ hR
 obtain⟨N1,e,g,o⟩:=U7 hR'
 have l:(M++[MO.ins 8 [("first",.int (S:Int))]]).length=M.length+1:=by simp
 rw[l]at e o
 have me:tW 6 "twin" (.ref r) (M++[MO.ins 8 [("first",.int (S:Int))]])=true:=wW hR' rfl
 obtain⟨M',e',h,g'⟩:=acD (M:=M) (S:=S) (r:= .ref r) (N1:=N1) (λ_ _=>by simp[me,e]) g o
 exact⟨_,M',e',rfl,h,g'⟩
end
section
variable{M M':Mem}{e e':Sl}{s t:MS}{c:MT}{m:ME}{d:D}{R:h_}
theorem fL(h:s e M= .next e' M')(k:t e' M'=R):aQ s t e M=R:=by rw[FW,h,RJ];exact k
theorem ahQ(h:s e M= .ret d M'):aQ s t e M= .ret d M':=by rw[FW,h,ado]
theorem ahP(h:c e M= .ok true M')(k:s e M'=R):lK c s t e M=R:=by rw[PJ,h,alf];exact k
theorem aoB(h:c e M= .ok false M')(k:t e M'=R):lK c s t e M=R:=by rw[PJ,h,alg];exact k
theorem Qz(h:m e M= .ok d M'):bB m e M= .ret d M':=by rw[adw,h,HF]
theorem ab4(h:s (slots n ds) M= .ret d M'):aM n s ds M= .ok d M':=by rw[uK,h,aaJ]
theorem akT(h:s (slots n ds) M= .next e' M'):aM n s ds M= .ok .non M':=by rw[uK,h,Yn]
end
section
variable{M M':Mem}{a:BA}{s s':BO}
def Y_(es:List En)(p:Nat):Int:=(es[p - 1]?.map (·.1)).getD 0
def BO.mZ(s:BO)(c:Nat)(t:Int)(p V:Nat):Bool:=if p<=s.mark t\/(s.line t).length<p then false else if s.r3=true/\Y_ (s.line t) p≠t then false else s.GP c t p V&&s.Yd V (jt (s.line t) s.S).1 (jt (s.line t) s.S).2
theorem abp(h:bQ M a s){c:Nat}{t:Int}{p V:Nat}(hV:V<2 ^ 60)(h1:(jt (s.line t) s.S).1<2 ^ 60)(h2:(jt (s.line t) s.S).2<2 ^ 60):
  ∃M',jD [.ref a.sd,.int (c:Int),.int t,.int (p:Int),.int (V:Int)] M= .ok (.bl (s.mZ c t p V)) M'/\Bx M a s M':=by
 have ln:jz [esD (s.line t)] M= .ok (.int ((s.line t).length:Int)) M:=by simp[esD]
 simp only[jD,jO,nO,nM,BO.mZ]
 by_cases z0:p<=s.mark t\/(s.line t).length<p
 ·refine⟨M,?_,Bx.of h⟩
  rw[if_pos z0]
  by_cases z1:(p:Int)<=(s.mark t:Int)
  ·simp[h.gq (m:= "line") rfl,lY h t,h.gq (m:= "mark") rfl,Cg h t,z1]
  ·have z2:((s.line t).length:Int)<(p:Int):=()
   simp[h.gq (m:= "line") rfl,lY h t,h.gq (m:= "mark") rfl,Cg h t,ln,z1,z2]
 ·rw[if_neg z0]
  have n1:¬((p:Int)<=(s.mark t:Int)):=()
  have n2:¬(((s.line t).length:Int)<(p:Int)):=()
  obtain⟨e,he⟩:∃e,(s.line t)[p - 1]? = some e:=⟨_,zab ()⟩
  have ix:=agu (M:=M) he
  have pc:((p - 1:Nat):Int)=(p:Int) - 1:=()
  rw[pc]at ix
  have et:Y_ (s.line t) p=e.1:=by unfold Y_;rw[he];rfl
  rw[et]
  have f:=h.f3
  by_cases z3:s.r3=true/\e.1≠t
  ·refine⟨M,?_,Bx.of h⟩
   rw[if_pos z3]
   rw[z3.1]at f
   simp[h.gq (m:= "line") rfl,lY h t,h.gq (m:= "mark") rfl,Cg h t,ln,n1,n2,h.frs,f,ix,oK,z3.2]
  ·rw[if_neg z3]
   obtain⟨M1,e1,x1⟩:=abY h hV c t p
   have lst:∃M',wR (aU 7 "have_place" gO 5 [] (aq 0) (au (aq 1) (au (aq 2) (au (aq 3) (au (aq 4) aF))))) (aU 7 "are_winners" fX 3 [] (aq 0) (au (aq 2) (au (aq 4) aF)))
     [some (.ref a.sd),some (.int (c:Int)),some (.int t),some (.int (p:Int)),some (.int (V:Int)),some (esD (s.line t))] M= .ok (.bl (s.GP c t p V&&s.Yd V (jt (s.line t) s.S).1 (jt (s.line t) s.S).2)) M'/\Bx M a s M':=by
    cases z4:s.GP c t p V with
    | false=>
     rw[z4]at e1
     exact⟨M1,by simp[h.gq (m:= "have_place") rfl,e1],x1⟩
    | true=>
     rw[z4]at e1
     obtain⟨M2,e2,x2⟩:=af3 x1.h t (V:=V) h1 h2
     exact⟨M2,by simp[h.gq (m:= "have_place") rfl,e1,x1.h.gq (m:= "are_winners") rfl,e2],x1.trans x2⟩
   obtain⟨M2,e2,x2⟩:=lst
   refine⟨M2,?_,x2⟩
   refine ab4 ?_
   simp only[bV,cj,bU]
   refine fL (by simp[h.gq (m:= "line") rfl,lY h t];exact⟨rfl,rfl⟩) (fL (by simp[h.gq (m:= "mark") rfl,Cg h t,ln,n1,n2];exact⟨rfl,rfl⟩) (fL (e':=_) (M':=M) ?_ (Qz e2)))
   cases z5:s.r3 with
   | false=>
    rw[z5]at f
    simp[h.frs,f]
   | true=>
    rw[z5]at f
    have q:e.1=t:=Classical.byContradiction λq=>z3 ⟨z5,q⟩
    simp[h.frs,f,ix,oK,q]
def pS(t:Int)(p V:Nat):D:= .tup [.str "settle",.int t,.int (p:Int),.int (V:Int)]
theorem Vw:sIn (.str "settle") (.nA [.str "vote",.str "chair",.str "told"]) M= .ok (.bl false) M:=by
 rw[in_of]
 have e1:(("vote" : Str)= "settle")=False:=eq_false (by decide)
 have e2:(("chair" : Str)= "settle")=False:=eq_false (by decide)
 have e3:(("told" : Str)= "settle")=False:=eq_false (by decide)
 simp[e1,e2,e3]
theorem ae8(h:bQ M a s)(hb:LR s.br=true){c:Nat}{t:Int}{p V:Nat}(t1:1<=t)(hc:s.head t=some c)(ht:s.term c=t)(hV:V<2 ^ 60)
  (h1:(jt (s.line t) s.S).1<2 ^ 60) (h2:(jt (s.line t) s.S).2<2 ^ 60):∃M',bH [.ref a.b,pS t p V] M= .ok (.bl (s.mZ c t p V)) M'/\Bx M a s M':=by
 have ws:(("settle" : Str)= "write")=False:=eq_false (by decide)
 have bs:(("settle" : Str)= "beat")=False:=eq_false (by decide)
 have f:gM [pS t p V] M= .ok (.bl true) M:=by
  have q:Pb "settle" [("vote",4),("chair",4),("write",4),("beat",3),("told",5),("settle",4),("answer",6),("look",6),("seen",8)]= .int 4:=rfl
  simp only[gM,nq,pS]
  simp[q]
 have tn:jY [pS t p V] M= .ok (.int t) M:=by
  simp only[jY,sG,qO,pS]
  simp[Vw]
 have i0:∀M:Mem,a_ (pS t p V) (.int 0) M= .ok (.str "settle") M:=λM=>jB
 have i1:∀M:Mem,a_ (pS t p V) (.int 1) M= .ok (.int t) M:=λM=>R1
 have e1:iD [.ref a.bl,.int t] M= .ok (.bl true) M:=by rw[N8 h t];simp[BO.stands,hc,ht]
 obtain⟨M1,e2,x2⟩:=abp h (c:=c) (t:=t) (p:=p) hV h1 h2
 have hd:=GK h t
 rw[hc]at hd
 simp only[Option.map_some,Option.getD_some,nD]at hd
 have ac:eG [.ref a.b,pS t p V] M= .ok (.bl (s.mZ c t p V)) M1:=by
  simp only[eG,gY,iZ,nU,nR,pS]
  simp[ws,bs,h.Xr,h.fbl,h.pG (m:= "chair_of") rfl,hd,h.gq (m:= "may_settle") rfl,e2]
 refine⟨M1,?_,x2⟩
 simp only[bH,di,cM,cL]
 simp[h.fbr,hb,f,tn,show ¬t<1 by omega,i0,i1,Vw,h.fbl,h.pG (m:= "stands") rfl,e1,h.Fb (m:= "allows_chair") rfl,ac]
theorem Wf(h:bQ M a s)(hb:LR s.br=true)(hl:s.mr.length<=1000)(hn:s.ln.length<=60){c:Nat}{t:Int}{p V:Nat}(t1:1<=t)(hc:s.head t=some c)(ht:s.term c=t)(hV:V<2 ^ 60)
  (h1:(jt (s.line t) s.S).1<2 ^ 60) (h2:(jt (s.line t) s.S).2<2 ^ 60) (kp:s.mZ c t p V=true->Kp {s with mr:=gp s.mr t p}) (hs:(gv s.ln t).isSome=true):
  (s.mZ c t p V=true/\∃M',aN [.ref a.b,pS t p V] M= .ok .non M'/\Bx M a {s with cnt:=s.cnt+1,mr:=gp s.mr t p} M')
  \/ (s.mZ c t p V=false/\∃M',aN [.ref a.b,pS t p V] M= .exc 2 (.int (s.cnt:Int)) M'/\Bx M a s M'):=by
 have ws:(("settle" : Str)= "write")=False:=eq_false (by decide)
 have bs:(("settle" : Str)= "beat")=False:=eq_false (by decide)
 have i0:∀M:Mem,a_ (pS t p V) (.int 0) M= .ok (.str "settle") M:=λM=>jB
 obtain⟨M1,al,x2⟩:=ae8 h hb (p:=p) t1 hc ht hV h1 h2
 cases z:s.mZ c t p V with
 | false=>
  rw[z]at al
  refine .inr ⟨rfl,M1,?_,x2⟩
  simp only[aN,fJ,eO,eN]
  simp[h.Fb (m:= "allows") rfl,al,x2.h.fcn,one]
 | true=>
  rw[z]at al
  have kp:=kp z
  obtain⟨M2,e3,x3⟩:=P0 x2.h
  obtain⟨M3,e4,x4⟩:=Yg x3.h hl t p
  obtain⟨M4,e5,x5⟩:=Xu x4.h ⟨kp.ok,kp.kp⟩ hn (t:=t) hs
  have fc:eF [.ref a.b,pS t p V] M2= .ok .non M4:=by
   simp only[eF,gW,iY,iW,iV,iU,iT,pS]
   simp[ws,bs,x3.h.Xr,x3.h.gq (m:= "settle") rfl,e4,x4.h.Fb (m:= "find_lost") rfl,e5]
  refine .inl ⟨rfl,M4,?_,x2.trans (x3.trans (x4.trans x5))⟩
  simp only[aN,fJ,eO,eN]
  simp[h.Fb (m:= "allows") rfl,al,x2.h.fcn,e3,i0,Vw,x3.h.Fb (m:= "follow_chair") rfl,fc]
end
def hds(c:Nat):List Nat:=[c,c+11,c+22,c+33,c+44]
theorem Bo(hc:c<16)(hh:h∈hds c):h<60:=by
 simp[hds]at hh
 omega
theorem Xm(hi:i<5):(hds c)[i]? = some (c+11*i):=by
 match i,hi with
 | 0,_=>rfl
 | 1,_=>rfl
 | 2,_=>rfl
 | 3,_=>rfl
 | 4,_=>rfl
theorem Ck(hi:i<5):c+11*i∈hds c:=List.mem_of_getElem? (Xm hi)
def Sub(c p:Nat):Prop:=∀j,p.testBit j=true->j∈hds c
theorem sub_zero:Sub c 0:=λj h=>by rw[Nat.zero_testBit]at h;cases h
theorem Sub.lt(hc:c<16)(h:Sub c p):p<2 ^ 60:=Nat.lt_pow_two_of_testBit p λi hi=>by
 cases z:p.testBit i with
 | false=>rfl
 | true=>exact absurd (Bo hc (h i z)) (Nat.not_lt.mpr hi)
theorem Sub.and{c p V:Nat}(h:Sub c p):Sub c (V &&& p):=λj hj=>by
 rw[Nat.testBit_and,Bool.and_eq_true]at hj
 exact h j hj.2
theorem Sub.or{c p V:Nat}(h:Sub c p)(h2:Sub c V):Sub c (V ||| p):=λj hj=>by
 rw[Nat.testBit_or,Bool.or_eq_true]at hj
 exact hj.elim (h2 j) (h j)
theorem adf(h:x∈hds c):Sub c (2 ^ x):=λj hj=>by
 rw[Nat.testBit_two_pow]at hj
 rw[<-of_decide_eq_true hj];exact h
theorem aeD:∀c,c<16->(List.range 60).filter (λj=>decide (j∈hds c))=hds c:=by decide +kernel
theorem ace:((x::xs).filter f).length=(f x).toNat+(xs.filter f).length:=by
 rw[List.filter_cons]
 cases f x
 ·show(xs.filter f).length=0+_
  rw[Nat.zero_add]
 ·show(xs.filter f).length+1=1+_
  rw[Nat.add_comm]
theorem aeS(hc:c<16)(h:Sub c P):HM.cnt P=(P.testBit c).toNat+(P.testBit (c+11)).toNat+(P.testBit (c+22)).toNat+(P.testBit (c+33)).toNat+(P.testBit (c+44)).toNat:=by
 have e:HM.bW P=(hds c).filter λj=>P.testBit j:=by
  rw[<-aeD c hc,List.filter_filter]
  unfold HM.bW
  refine List.filter_congr λj _=> ?_
  cases z:P.testBit j with
  | false=>rfl
  | true=>rw[zaf (h j z)];rfl
 show(HM.bW P).length=_
 rw[e]
 unfold hds
 rw[ace,ace,ace,ace,ace]
 show _+(_+(_+(_+(_+0))))=_
 simp only[Nat.add_zero,Nat.add_assoc]
theorem ae_(hP:P<2 ^ m)(hn:n<=1)(j:Nat):(P+n*2 ^ m).testBit j=(P.testBit j||(decide (n=1)&&decide (j=m))):=by
 have q:=Nat.two_pow_add_eq_or_of_lt hP n
 have e:P+n*2 ^ m=2 ^ m*n ||| P:=by rw[<-q,Nat.mul_comm,Nat.add_comm]
 rw[e,Nat.testBit_or]
 have:n=0\/n=1:=()
 rcases this with rfl | rfl
 ·simp
 ·rw[Nat.mul_one,Nat.testBit_two_pow,Bool.or_comm]
  by_cases z:m=j
  ·simp[z]
  ·have z':¬j=m:=λw=>z w.symm
   simp[z,z']
structure alq(M0:Mem)(c hl:Nat)(x:Int)(i:Nat)(e:Sl)(M:Mem):Prop where
 m:M0=M
 e:∃(P:Nat) (v:Option D),e=[some (.int x),some (.ref hl),some (.int (P:Int)),v]/\P<2 ^ (c+11*i)/\Sub c P/\∀k,k<i->P.testBit (c+11*k)=decide (Builtin.bitAnd (x / 2 ^ k) 1=1)
section
variable{M:Mem}
theorem r5:Nh [.int 5] M= .ok ⟨none,C_ 0 5⟩ M:=FZ () ()
theorem YZ{hl c i:Nat}(hM:M[hl]? = some (.lst (hv (hds c))))(hi:i<5):a_ (.ref hl) (.int (i:Int)) M= .ok (.int ((c+11*i:Nat):Int)) M:=by
 refine jr hM () ?_
 simp only[hv,zal,zak,Xm hi]
 rfl
theorem J6(hc:c<16)(hM:M[hl]? = some (.lst (hv (hds c))))(x:Int):∃P:Nat,pF [.int x,.ref hl] M= .ok (.int (P:Int)) M/\Sub c P/\∀k,k<5->P.testBit (c+11*k)=decide (Builtin.bitAnd (x / 2 ^ k) 1=1):=by
 obtain⟨e',M1,lp,hm,P,v,rfl,h1,h2,h3⟩:=pK (src:=none) (g:=gN 3) (b:=zR) (alq M c hl x) (ds:=C_ 0 5) (e:=[some (.int x),some (.ref hl),some (.int 0),none]) (M:=M)
  ⟨rfl,0,none,rfl,Nat.two_pow_pos _,sub_zero,λk h=>absurd h (Nat.not_lt_zero _)⟩ (λ_ _ _ _ _=>trivial) λi d e M' hd p=>by
   obtain⟨pm,P,v,rfl,h1,h2,h3⟩:=p
   subst pm
   obtain⟨hi,rfl⟩:=Ce hd
   obtain⟨n,hn,hn1⟩:=HM.Zn (x / 2 ^ i) 1
   have hn':Builtin.bitAnd (x / 2 ^ i) 1=(n:Int):=hn
   have ix:a_ (.ref hl) (.int (i:Int)) M= .ok (.int ((c:Int)+11*(i:Int))) M:=by
    rw[YZ hM hi];simp
   have sh:Dy (.int (n:Int)) (.int ((c:Int)+11*(i:Int))) M= .ok (.int ((n:Int)*2 ^ (c+11*i))) M:=by
    rw[Fw ⟨(),(),()⟩,show((c:Int)+11*(i:Int)).toNat=c+11*i by omega]
   have sr:U0 (.int x) (.int (i:Int)) M= .ok (.int (x / 2 ^ i)) M:=by
    rw[Wn (),zak]
   refine⟨_,rfl,?_⟩
   simp only[zR]
   simp[sr,hn',ix,sh]
   have pc:(P:Int)+(n:Int)*2 ^ (c+11*i)=((P+n*2 ^ (c+11*i):Nat):Int):=by simp
   have ab:=ae_ h1 hn1
   refine⟨rfl,P+n*2 ^ (c+11*i),some (.int (i:Int)),by rw[pc],?_,?_,?_⟩
   ·have:n*2 ^ (c+11*i)<=1*2 ^ (c+11*i):=Nat.mul_le_mul_right _ hn1
    have q:2 ^ (c+11*i+1)<=2 ^ (c+11*(i+1)):=Nat.pow_le_pow_right (by decide) ()
    rw[Nat.pow_succ]at q
    omega
   ·intro j hj
    rw[ab]at hj
    simp at hj
    rcases hj with hj | ⟨_,rfl⟩
    ·exact h2 j hj
    ·exact Ck hi
   ·intro k hk
    rw[ab]
    rcases Nat.lt_or_eq_of_le (Nat.le_of_lt_succ hk)with z | z
    ·rw[h3 k z,zae (p:=c+11*k=c+11*i) ()];simp
    ·subst z
     have b0:P.testBit (c+11*k)=false:=Nat.testBit_lt_two_pow h1
     rw[b0,hn']
     simp
     omega
 subst hm
 refine⟨P,?_,h2,?_⟩
 ·simp only[pF,Ib,Jg]
  simp[r5,lp]
 ·have h5:(C_ 0 5).length=5:=JX
  rw[h5]at h3
  exact h3
end
def pcn:Nat->Nat->Nat
 | 0,_=>0
 | k+1,n=>n % 2+pcn k (n / 2)
theorem Sw:∀k,pcn k 0=0
 | 0=>rfl
 | k+1=>by simp[pcn,Sw k]
theorem W2:∀(k n:Nat),((List.range k).filter λh=>n.testBit h).length=pcn k n
 | 0,n=>rfl
 | k+1,n=>by
  have ih:=W2 k (n / 2)
  have e:(λh=>n.testBit h)∘Nat.succ=λh=>(n / 2).testBit h:=by
   funext h
   exact Nat.testBit_succ n h
  rw[List.range_succ_eq_map,List.filter_cons,List.filter_map,e,pcn]
  rcases Nat.mod_two_eq_zero_or_one n with z | z
  ·have:n.testBit 0=false:=by simp[Nat.testBit_zero,z]
   simp[this,ih,z]
  ·have:n.testBit 0=true:=by simp[Nat.testBit_zero,z]
   simp[this,ih,z]
   omega
theorem ad0(n:Nat):pcn 60 n=HM.cnt n:=(W2 60 n).symm
theorem abt:∀(k n:Nat) (c:Int),n<2 ^ k->Km j7 rO (k+1) [some (.int (n:Int)),some (.int c)] M= .next [some (.int 0),some (.int (c+pcn k n))] M:=by
 intro k
 induction k with
 | zero=>
  intro n c h
  have z:n=0:=by simpa using h
  subst z
  unfold Km
  simp[j7,pcn]
 | succ k ih=>
  intro n c h
  by_cases z:n=0
  ·subst z
   unfold Km
   simp[j7,Sw]
  ·have h2:n / 2<2 ^ k:=by rw[Nat.pow_succ]at h;omega
   have q:=ih (n / 2) (c+(n:Int) % 2) h2
   have e1:((n / 2:Nat):Int)=(n:Int) / 2:=()
   rw[e1]at q
   have d:mz (.int (n:Int)) (.int 2) M= .ok (.int ((n:Int) / 2)) M:=qH () ()
   have m:jj (.int (n:Int)) (.int 2) M= .ok (.int ((n:Int) % 2)) M:=jA ()
   have c1:j7 [some (.int (n:Int)),some (.int c)] M= .ok true M:=by
    simp only[j7]
    simp
    omega
   have b1:rO [some (.int (n:Int)),some (.int c)] M= .next [some (.int ((n:Int) / 2)),some (.int (c+(n:Int) % 2))] M:=by
    simp only[rO]
    simp[m,d]
   unfold Km
   rw[c1]
   simp only[b1]
   rw[q,pcn]
   have e2:c+(n:Int) % 2+(pcn k (n / 2):Nat)=c+((n % 2+pcn k (n / 2):Nat):Int):=()
   rw[e2]
theorem Gw{M:Mem}{n:Nat}(h:n<2 ^ 60):yr [.int (n:Int)] M= .ok (.int (HM.cnt n:Nat)) M:=by
 have w:=Od (abt (M:=M) 60 n 0 h) (λz=>nomatch z)
 rw[ad0]at w
 simp only[yr,Ep,Fd]
 simp[w]
theorem WK:∀n,n<=xs.length->WL (xs++[e]) n=WL xs n
 | 0,_=>rfl
 | n+1,h=>by
  unfold WL
  rw[zad (),WK n ()]
theorem JV:JW (xs++[e])=if e.2.Y0=true then xs.length+1 else JW xs:=by
 unfold JW
 rw[List.length_append,List.length_singleton]
 show WL (xs++[e]) (xs.length+1)=_
 rw[WL]
 have:(xs++[e])[xs.length]? = some e:=by simp
 rw[this]
 dsimp only
 rw[WK _ (zaa _)]
theorem aaI:∀n,WL xs n<=n
 | 0=>zaa _
 | n+1=>by
  unfold WL
  split
  ·split
   ·exact zaa _
   ·exact wP (aaI n)
  ·exact Nat.zero_le _
theorem WN:jt (xs++[(t,.K7 a b)]) S=(a,b):=by
 have e:JW (xs++[(t,.K7 a b)])=xs.length+1:=by rw[JV];rfl
 simp[jt,e]
theorem JZ(h:e.2.Y0=false):jt (xs++[e]) S=jt xs S:=by
 have q:JW (xs++[e])=JW xs:=by rw[JV,h];rfl
 unfold jt
 rw[q]
 cases z:JW xs with
 | zero=>rfl
 | succ n=>
  have l:n<xs.length:=by
   have:=aaI (xs:=xs) xs.length
   unfold JW at z
   omega
  dsimp only
  rw[zad l]
section
variable{M:Mem}
structure alx(M0:Mem)(l:Nat)(L:List En)(S:Nat)(i:Nat)(e:Sl)(M:Mem):Prop where
 m:M0=M
 e:∃v w,e=[some (.ref l),some (.int (S:Int)),some (.tup [.int ((jt (L.take i) S).1:Int),.int ((jt (L.take i) S).2:Int)]),v,w]
theorem HJ{l S:Nat}{L:List En}(h:M[l]? = some (.lst (L.map oK))):yq [.ref l,.int (S:Int)] M= .ok (.tup [.int ((jt L S).1:Int),.int ((jt L S).2:Int)]) M:=by
 obtain⟨e',M1,lp,hm,v,v',rfl⟩:=pK (src:=some (l,L.map oK)) (g:=gT 2 (dw (gN 3) (dw (gN 4) tZ))) (b:=xR) (alx M l L S) (ds:=L.map oK) (e:=[some (.ref l),some (.int (S:Int)),some (.tup [.int (S:Int),.int 0]),none,none]) (M:=M)
  ⟨rfl,_,_,rfl⟩ (λi e M' _ p=>by have:=p.m;subst this;exact dD h) λi d e M' hd p=>by
   obtain⟨pm,v,v',rfl⟩:=p
   subst pm
   rw[zal,Option.map_eq_some_iff]at hd
   obtain⟨⟨t,x⟩,hn,rfl⟩:=hd
   have tk:L.take (i+1)=L.take i++[(t,x)]:=by rw[List.take_succ,hn];rfl
   refine⟨[some (.ref l),some (.int (S:Int)),some (.tup [.int ((jt (L.take i) S).1:Int),.int ((jt (L.take i) S).2:Int)]),some (.int t),some x.d],rfl,?_⟩
   simp only[xR,GF]
   cases x with
   | K7 p q=>
    simp[Wh.d]
    exact⟨rfl,_,_,by rw[tk,WN]⟩
   | st=>
    simp[Wh.d,afn]
    exact⟨rfl,_,_,by rw[tk,JZ rfl]⟩
   | ask p q o=>
    simp[Wh.d,afU]
    exact⟨rfl,_,_,by rw[tk,JZ rfl]⟩
 subst hm
 rw[zam,List.take_of_length_le (zaa _)]at lp
 simp only[yq,Eo,G3]
 simp[qN h,lp]
def hf(b:Bool):Int:=if b=true then 1 else 0
theorem abE{V p:Nat}{b:Bool}{x:D}(hp:p<2 ^ 60)(hq:p≠0/\jK V p b=false):jW [some x,some (.int (V:Int)),some (.int (hf b)),some (.int (p:Int))] M= .ret (.bl false) M:=by
 have e1:Builtin.bitAnd (p:Int) (V:Int)=((V &&& p:Nat):Int):=by rw[HM.t8,Nat.and_comm]
 have k:2*((HM.cnt (V &&& p):Nat):Int)+hf b<=((HM.cnt p:Nat):Int):=by
  have q:=hq.2
  unfold jK at q
  unfold hf
  cases b<;>simp at q ⊢ <;> omega
 simp only[jW,yC]
 simp[hq.1,e1,Gw (V0 hp),aed,Gw hp,k]
theorem Vj{V p:Nat}{b:Bool}{x:D}(hp:p<2 ^ 60)(hq:p=0\/jK V p b=true):jW [some x,some (.int (V:Int)),some (.int (hf b)),some (.int (p:Int))] M= .next [some x,some (.int (V:Int)),some (.int (hf b)),some (.int (p:Int))] M:=by
 simp only[jW,yC]
 by_cases z:p=0
 ·simp[z]
 ·have e1:Builtin.bitAnd (p:Int) (V:Int)=((V &&& p:Nat):Int):=by rw[HM.t8,Nat.and_comm]
  have k:¬(2*((HM.cnt (V &&& p):Nat):Int)+hf b<=((HM.cnt p:Nat):Int)):=by
   have q:=hq.resolve_left z
   unfold jK at q
   unfold hf
   cases b<;>simp at q ⊢ <;> omega
  simp[z,e1,Gw (V0 hp),aed,Gw hp,k]
def lwB(V p q:Nat)(b:Bool):Bool:=(decide (p=0)||jK V p b)&&(decide (q=0)||jK V q b)
theorem Y7{src:Option (Nat×List D)}{g:Tg}{b:MS}{d:D}{ds:List D}{e e1 e2:Sl}{M M2:Mem}(hs:gh src M)(hg:g d e=some e1)(hb:b e1 M= .next e2 M2):dR src g b (d::ds) e M=dR src g b ds e2 M2:=by
 rw[dR,if_pos hs,hg]
 simp only[hb]
theorem akZ{src:Option (Nat×List D)}{g:Tg}{b:MS}{d r:D}{ds:List D}{e e1:Sl}{M M2:Mem}(hs:gh src M)(hg:g d e=some e1)(hb:b e1 M= .ret r M2):dR src g b (d::ds) e M= .ret r M2:=by
 rw[dR,if_pos hs,hg]
 simp only[hb]
theorem ak0(hs:gh src M):dR src g b [] e M= .next e M:=by
 rw[dR,if_pos hs]
theorem abD{V p q:Nat}{b:Bool}(hp:p<2 ^ 60)(hq:q<2 ^ 60):DR [.tup [.int (p:Int),.int (q:Int)],.int (V:Int),.int (hf b)] M= .ok (.bl (lwB V p q b)) M:=by
 have key:∀x:Nat,(x≠0/\jK V x b=false)\/(x=0\/jK V x b=true):=λx=>by
  by_cases z:x=0
  ·exact .inr (.inl z)
  ·cases c:jK V x b
   ·exact .inl ⟨z,rfl⟩
   ·exact .inr (.inr rfl)
 have g:∀(x y:D) (v:Option D),gN 3 y [some x,some (.int (V:Int)),some (.int (hf b)),v]=some [some x,some (.int (V:Int)),some (.int (hf b)),some y]:=λ_ _ _=>rfl
 have fin:∃o,dR none (gN 3) jW [.int (p:Int),.int (q:Int)] [some (.tup [.int (p:Int),.int (q:Int)]),some (.int (V:Int)),some (.int (hf b)),none] M=o/\o.seq (bB (mC (.bl true)))= .ret (.bl (lwB V p q b)) M:=by
  unfold lwB
  rcases key p with z | z
  ·refine⟨_,akZ trivial (g _ _ _) (abE hp z),?_⟩
   simp[z.1,z.2]
  ·have z':(decide (p=0)||jK V p b)=true:=by simpa using z
   rcases key q with y | y
   ·refine⟨_,(Y7 (src:=none) trivial (g _ _ _) (Vj hp z)).trans (akZ trivial (g _ _ _) (abE hq y)),?_⟩
    simp[y.1,y.2]
   ·have y':(decide (q=0)||jK V q b)=true:=by simpa using y
    refine⟨_,(Y7 (src:=none) trivial (g _ _ _) (Vj hp z)).trans ((Y7 (src:=none) trivial (g _ _ _) (Vj hq y)).trans (ak0 trivial)),?_⟩
    simp[z',y']
 obtain⟨o,e1,e2⟩:=fin
 simp only[DR,Ek,GX]
 refine ab4 ?_
 simp only[bV,cj,bU]
 rw[FW]
 simp[e1,e2]
end
section
variable{M:Mem}{L:List En}{S l d m p V:Nat}{tl:List (Nat×Nat)}{T:Int}{r3 b:Bool}
def tv(tl:List (Nat×Nat))(v:Nat):Nat:=(gv tl v).getD 0
theorem Mf(h:M[d]? = some (.dk (ge kN nD tl)))(v:Nat):CK (.ref d) (.int (v:Int)) (.int 0) M= .ok (.int (tv tl v:Nat)) M:=by
 have e:=ab5 h v (.int 0)
 rw[HS]at e
 exact e
theorem adm(n w:Nat):decide (Builtin.bitAnd ((n:Int) / 2 ^ ((w:Int)).toNat) 1=1)=n.testBit w:=by
 have:=adl n w
 simpa[qB]using this
theorem agj{w:Nat}{n:Int}:U0 (.int n) (.int (w:Int)) M= .ok (.int (n / 2 ^ ((w:Int)).toNat)) M:=Wn ()
def dE(x:D)(l S d m:Nat)(ws:D)(T:Int)(p V:Nat)(v:Option D):Sl:=[some x,some (.ref l),some (.int (S:Int)),some (.ref d),some (.int (m:Int)),some ws,some (.str "settle"),some (.int T),some (.int (p:Int)),some (.int (V:Int)),v]
structure Yb(M0:Mem)(tl:List (Nat×Nat))(V p:Nat)(e0:Option D->Sl)(i:Nat)(e:Sl)(M:Mem):Prop where
 m:M0=M
 e:∃v,e=e0 v
 g:∀v,v<i->V.testBit v=true->p<=tv tl v
theorem aeG{x ws:D}{i:Nat}{y:D}{e:Sl}{M2:Mem}(hd:M[d]? = some (.dk (ge kN nD tl)))(hy:(C_ 0 60)[i]? = some y)(h:Yb M tl V p (dE x l S d m ws T p V) i e M2):
  ∃e1,gN 10 y e=some e1/\(uE e1 M2).to (Yb M tl V p (dE x l S d m ws T p V) (i+1)) λr M3=>r= .bl false/\M3=M/\∃v,v<60/\V.testBit v=true/\¬p<=tv tl v:=by
 obtain⟨rfl,⟨v,rfl⟩,g⟩:=h
 obtain⟨hi,rfl⟩:=Ce hy
 rw[Int.zero_add]
 refine⟨dE x l S d m ws T p V (some (.int (i:Int))),rfl,?_⟩
 have sV:=adm V i
 simp only[uE,Jc,dE]
 have more:(V.testBit i=true->p<=tv tl i)->Yb M tl V p (dE x l S d m ws T p V) (i+1) (dE x l S d m ws T p V (some (.int (i:Int)))) M:=λq=>⟨rfl,⟨_,rfl⟩,λv hv q'=>by
  by_cases q2:v=i
  ·subst q2;exact q q'
  ·exact g v () q'⟩
 cases z:V.testBit i with
 | false=>
  rw[z]at sV more
  have sV':=of_decide_eq_false sV
  simp at sV'
  simp[agj,sV']
  exact more (λq=>by cases q)
 | true=>
  rw[z]at sV more
  have sV':=of_decide_eq_true sV
  simp at sV'
  by_cases z2:p<=tv tl i
  ·simp[agj,sV',lZ hd,Mf hd,Nat.not_lt.mpr z2]
   exact more λ_=>z2
  ·simp[agj,sV',lZ hd,Mf hd,Nat.lt_of_not_le z2]
   exact⟨i,hi,z,Nat.lt_of_not_le z2⟩
def Zv(tl:List (Nat×Nat))(p V:Nat):Bool:=(HM.bW V).all λv=>decide (p<=tv tl v)
def ldB(L:List En)(S:Nat)(tl:List (Nat×Nat))(m:Nat)(r3 b:Bool)(T:Int)(p V:Nat):Bool:=
 if p<=m\/L.length<p then false else if r3=true/\Y_ L p≠T then false else Zv tl p V&&lwB V (jt L S).1 (jt L S).2 b
theorem aeq(h:M[l]? = some (.lst (L.map oK)))(hd:M[d]? = some (.dk (ge kN nD tl)))(h1:(jt L S).1<2 ^ 60)(h2:(jt L S).2<2 ^ 60):
  wO [pS T p V,.ref l,.int (S:Int),.ref d,.int (m:Int),.tup [.int (hf (!r3)),.int (hf b)]] M= .ok (.bl (ldB L S tl m r3 b T p V)) M:=by
 have ln:jz [.ref l] M= .ok (.int (L.length:Int)) M:=by rw[qG h];simp
 obtain⟨E,hE⟩:∃E,E=dE (pS T p V) l S d m (.tup [.int (hf (!r3)),.int (hf b)]) T p V:=⟨_,rfl⟩
 unfold ldB
 simp only[wO,Ie,Jd,Jh]
 refine ab4 ?_
 simp only[bV,cj,bU]
 refine fL (e':=E none) (M':=M) (by simp[pS,hE,dE]) ?_
 simp only[hE,dE]
 by_cases z0:p<=m\/L.length<p
 ·rw[if_pos z0]
  refine ahQ ?_
  by_cases z1:(p:Int)<=(m:Int)
  ·simp[z1]
  ·have z2:((L.length:Nat):Int)<(p:Int):=()
   simp[z1,ln,z2]
 ·rw[if_neg z0]
  have n1:¬p<=m:=λq=>z0 (.inl q)
  have n2:¬L.length<p:=λq=>z0 (.inr q)
  obtain⟨e,he⟩:∃e,L[p - 1]? = some e:=⟨_,zab ()⟩
  have ix:a_ (.ref l) (.int ((p:Int) - 1)) M= .ok (oK e) M:=by
   refine jr h () ?_
   rw[show((p:Int) - 1).toNat=p - 1 by omega]
   exact ahR he
  have et:Y_ L p=e.1:=by unfold Y_;rw[he];rfl
  rw[et]
  by_cases z3:r3=true/\e.1≠T
  ·rw[if_pos z3]
   refine ahQ ?_
   simp[n1,ln,n2,z3.1,hf,ix,oK,z3.2]
  ·rw[if_neg z3]
   refine fL (e':=E none) (M':=M) ?_ ?_
   ·cases z5:r3 with
    | false=>simp[n1,ln,n2,hf,hE,dE,z5]
    | true=>
     have q:e.1=T:=Classical.byContradiction λq=>z3 ⟨z5,q⟩
     simp[n1,ln,n2,hf,ix,oK,q,hE,dE,z5]
   ·have lr:=HJ (S:=S) h
    have lw:=abD (M:=M) (V:=V) (b:=b) h1 h2
    rcases HX (src:=none) (g:=gN 10) (b:=uE) (Yb M tl V p E) (R:=λr M3=>r= .bl false/\M3=M/\∃v,v<60/\V.testBit v=true/\¬p<=tv tl v) (C_ 0 60) 0
      (e:=E none) (M:=M) ⟨rfl,⟨_,rfl⟩,λv hv=>absurd hv (Nat.not_lt_zero _)⟩ (λ_ _ _ _ _ _=>trivial) (λi y e M' hy q=>by
       rw[Nat.zero_add]at q ⊢
       rw[hE]at q ⊢
       exact aeG hd hy q)with⟨e',M',lp,rfl,⟨v,rfl⟩,g⟩ | ⟨r,M',lp,rfl,rfl,v,hv,bv,nv⟩
    ·have al:Zv tl p V=true:=by
      unfold Zv
      rw[List.all_eq_true]
      intro v hv
      obtain⟨h1,h2⟩:=HM.uM.mp hv
      exact zaf (g v (by rw[JX];omega) h2)
     refine fL (e':=E v) (M':=M) ?_ (Qz ?_)
     ·simp only[hE,dE]at lp ⊢
      simp[afx,lp]
     ·simp[hE,dE,lr,lw,al]
    ·have al:Zv tl p V=false:=by
      unfold Zv
      rw[List.all_eq_false]
      exact⟨v,HM.uM.mpr ⟨hv,bv⟩,by simpa using nv⟩
     refine ahQ ?_
     simp only[hE,dE]at lp ⊢
     simp[afx,lp,al]
structure alr(M0:Mem)(c:Nat)(e0:Nat->Option D->Sl)(i:Nat)(e:Sl)(M:Mem):Prop where
 m:M0=M
 e:∃(V:Nat) (v:Option D),e=e0 V v/\Sub c V
theorem abH(hc:c<16)(hh:M[hl]? = some (.lst (hv (hds c))))(hd:M[d]? = some (.dk (ge kN nD tl)))(x:Int):∃V:Nat,tH [.int x,.ref hl,.ref d,.int (p:Int)] M= .ok (.int (V:Int)) M/\Sub c V:=by
 have md:∀(z j:Int) (M:Mem),0<j->jj (.int z) (.int j) M= .ok (.int (z % j)) M:=λz j M h=>jA h
 have dv:∀(z j:Int) (M:Mem),0<j->j<1073741824->mz (.int z) (.int j) M= .ok (.int (z / j)) M:=λz j M h h'=>qH h h'
 obtain⟨P,e1,s1,_⟩:=J6 hc hh (x / 3 % 32)
 simp only[tH,Em,GC,GZ]
 by_cases z:0<x % 3
 ·obtain⟨e',M',lp,rfl,V,v,rfl,hV⟩:=pK (src:=some (hl,hv (hds c))) (g:=gN 5) (b:=xQ) (alr M c λV v=>[some (.int x),some (.ref hl),some (.ref d),some (.int (p:Int)),some (.int (V:Int)),v]) (ds:=hv (hds c))
   (e:=[some (.int x),some (.ref hl),some (.ref d),some (.int (p:Int)),some (.int ((0:Nat):Int)),none]) (M:=M) ⟨rfl,0,none,rfl,sub_zero⟩ (λi e M' _ q=>by have:=q.m;subst this;exact dD hh) λi y e M' hy q=>by
    obtain⟨rfl,V,v,rfl,hV⟩:=q
    unfold hv at hy
    rw[zal,Option.map_eq_some_iff]at hy
    obtain⟨h,hn,rfl⟩:=hy
    have hm:=List.mem_of_getElem? hn
    refine⟨_,rfl,?_⟩
    simp only[xQ,GD]
    have sh:Dy (.int 1) (.int (h:Int)) M= .ok (.int ((2 ^ h:Nat):Int)) M:=by
     have:=Bo hc hm
     rw[Fw ⟨(),(),by decide⟩,zak,HM.Qe]
    have or_:Builtin.bitOr (V:Int) ((2 ^ h:Nat):Int)=((V ||| 2 ^ h:Nat):Int):=HM.Q4 _ _
    by_cases z2:p<=tv tl h
    ·simp only[PJ,Gu,Cj]
     simp[lZ hd,Mf hd,z2,sh,-Int.natCast_pow]
     exact⟨rfl,V ||| 2 ^ h,some (.int (h:Int)),by rw[or_],(adf hm).or hV⟩
    ·simp[lZ hd,Mf hd,z2]
     exact⟨rfl,V,some (.int (h:Int)),rfl,hV⟩
  refine⟨V,?_,hV⟩
  simp at lp
  simp[md,dv,e1,z,qN hh,lp]
 ·exact⟨P,by simp[md,dv,e1,z],s1⟩
end
structure Lg(n j:Nat)(s:BO):Prop where
 tm:s.tm.length<=n
 vt:s.vt.length<=n
 ak:s.ak.length<=n
 ro:s.ro.length<=n
 pl:s.pl.length<=n
 hd:s.hd.length<=n
 se:s.se.length<=j
 ln:s.ln.length<=j
 mr:s.mr.length<=j
section
variable{M M':Mem}{a:BA}{s s':BO}{T T':Int}{m n j k w:Nat}
theorem aep(h:x<=n)(hn:n<=800):x<=1000:=()
theorem ahv(h:x<=n)(hn:n<=800):x<=900:=()
theorem Lg.few(g:Lg n j s)(hn:n<=800)(hj:j<=50):Few s:=⟨ahv g.tm hn,ahv g.vt hn,ahv g.ak hn,by have:=g.se;omega,by have:=g.ln;omega⟩
theorem Lg.ak1(g:Lg n j s)(hn:n<=800):alE s:=⟨aep g.tm hn,aep g.ro hn,aep g.pl hn,aep g.hd hn⟩
theorem wX{κ α:Type}[DecidableEq κ]{l:List (κ×α)}{k:κ}{x:α}(h:l.length<=n):(gp l k x).length<=n+1:=yY ab2 (Nat.succ_le_succ h)
theorem gvD{κ α:Type}[DecidableEq κ]{l:List (κ×α)}{k k':κ}{x d:α}:(gv (gp l k x) k').getD d=if k'=k then x else(gv l k').getD d:=by
 rw[Jf]
 split<;>rfl
def cst(s:BO)(h:Nat)(t:Int)(w:Nat):BO:={s with cnt:=s.cnt+1}.cast h t w (pL (s.row h))
theorem Lg.cst(g:Lg n j s)(h:Nat)(t:Int)(w:Nat):Lg (n+1) j (cst s h t w):=by
 refine⟨wX g.tm,wX g.vt,?_,wP g.ro,wP g.pl,wP g.hd,g.se,g.ln,g.mr⟩
 show(if w=h then gp s.ak (h,t) _ else s.ak).length<=n+1
 split
 ·exact wX g.ak
 ·exact wP g.ak
theorem G6:(cst s h t w).term x=if x=h then t else s.term x:=by
 show(gv (gp s.tm h t) x).getD 0=_
 rw[gvD]
 rfl
theorem Cp:(cst s h t w).zQ x u=if(x,u)=(h,t)then s.zQ h t ||| 2 ^ w else s.zQ x u:=by
 show(gv (gp s.vt (h,t) _) (x,u)).getD 0=_
 rw[gvD]
 rfl
theorem aeM:(cst s h t h).ask h t=some (pL (s.row h)):=by
 show gv (if h=h then gp s.ak (h,t) _ else s.ak) (h,t)=_
 rw[if_pos rfl,Jf,if_pos rfl]
theorem VG(z:w≠h):(cst s h t w).ask x u=s.ask x u:=by
 show gv (if w=h then gp s.ak (h,t) _ else s.ak) (x,u)=_
 rw[if_neg z]
 rfl
theorem acC(p w:Nat):(p ||| 2 ^ w).testBit w=true:=by rw[Nat.testBit_or,Nat.testBit_two_pow_self,Bool.or_true]
def sat(s:BO)(w:Nat)(t:Int):BO:={s with cnt:=s.cnt+1,se:=gp s.se t w,ln:=gp s.ln t (s.row w)}
theorem aaq:(sat s w t).line u=if u=t then s.row w else s.line u:=by
 show(gv (gp s.ln t (s.row w)) u).getD []=_
 rw[gvD]
 rfl
theorem RN:(sat s w t).head u=if u=t then some w else s.head u:=by
 show gv (gp s.se t w) u=_
 rw[Jf]
 rfl
theorem Lg.sat(g:Lg n j s)(w:Nat)(t:Int):Lg n (j+1) (sat s w t):=⟨g.tm,g.vt,g.ak,g.ro,g.pl,g.hd,wX g.se,wX g.ln,wP g.mr⟩
theorem ang(h:w<60):Dy (.int 1) (.int (w:Int)) M= .ok (.int ((2 ^ w:Nat):Int)) M:=by
 rw[Fw ⟨(),(),by decide⟩]
 simp
end
structure Pv(c S w:Nat)(T':Int)(L0:List En)(s:BO):Prop where
 hS:s.S=S
 r1:s.r1=true
 br:s.br= .non
 mr:s.mr=[]
 rw:s.row w=L0
 r0:∀x∈[c+22,c+33,c+44],s.row x=[]
 tm:∀x∈hds c,s.term x<T'
 vt:∀x,s.zQ x T'=0
 hd:s.head T'=none
 ok:∀t,∀e∈s.line t,JM e
 okL:∀e∈L0,JM e
 nr:jt L0 S=(S,0)
 e0:0<=(pL L0).1
 t1:1<=T'
structure Sg(c S:Nat):Prop where
 hc:c<16
 sb:Sub c S
 s2:S.testBit (c+22)=true
 s3:S.testBit (c+33)=true
 s4:S.testBit (c+44)=true
theorem Sg.lt(h:Sg c S):S<2 ^ 60:=h.sb.lt h.hc
theorem Sg.ne(h:Sg c S):S≠0:=λz=>by
 have:=h.s2
 rw[z,Nat.zero_testBit]at this
 cases this
theorem ag1(hw:w<n)(h:∀j,j<n->P.testBit j=false):2 ^ w+P=2 ^ w ||| P:=by
 have z:P % 2 ^ n=0:=by
  apply Nat.eq_of_testBit_eq
  intro j
  rw[Nat.testBit_mod_two_pow,Nat.zero_testBit]
  by_cases q:j<n
  ·rw[h j q];simp
  ·simp[q]
 have e:P=2 ^ n*(P / 2 ^ n):=by have:=Nat.div_add_mod P (2 ^ n);omega
 have q:=Nat.two_pow_add_eq_or_of_lt (Nat.pow_lt_pow_right (by decide:1<2) hw) (P / 2 ^ n)
 rw[<-e]at q
 rw[Nat.add_comm,q,Nat.or_comm]
theorem tn1(b:Bool):b.toNat<=1:=by cases b<;>decide
section
variable{M M':Mem}{a:BA}{s s':BO}{c S w:Nat}{T':Int}{L0:List En}{n j:Nat}
structure Vo(c w V:Nat):Prop where
 b:∀x,V.testBit x=true↔x=w\/x=c+22\/x=c+33\/x=c+44
theorem Vo.Yd{V:Nat}(h:Sg c S)(v:Vo c w V):s.Yd V S 0=true:=by
 have a2:=(v.b (c+22)).mpr ()
 have a3:=(v.b (c+33)).mpr ()
 have a4:=(v.b (c+44)).mpr ()
 have e1:=aeS h.hc h.sb
 have e2:=aeS h.hc (h.sb.and (V:=V))
 rw[h.s2,h.s3,h.s4]at e1
 rw[Nat.testBit_and,Nat.testBit_and,Nat.testBit_and,Nat.testBit_and,Nat.testBit_and,a2,a3,a4,h.s2,h.s3,h.s4]at e2
 have b0:=tn1 (S.testBit c)
 have b1:=tn1 (S.testBit (c+11))
 simp at e1 e2
 unfold BO.Yd jK
 simp
 split<;>omega
theorem aec(p:Pv c S w T' L0 s)(hw:w∈hds c):s.lV w T' w (pL (s.row w))=true:=by
 have t:=p.tm w hw
 unfold BO.lV BO.spent
 rw[p.r1,p.vt w]
 have:¬T'<s.term w:=()
 simp[this,t]
theorem an_{a:Int}{k:Nat}(h:0<=a):X7.Ol [0,0] [a,(k:Int)]=true:=by
 unfold X7.Ol
 split
 ·unfold X7.Ol
  split
  ·rfl
  ·exact zaf ()
 ·exact zaf h
theorem abj(r1:s.r1=true)(tm:s.term x<T')(vt:s.zQ x T'=0)(hx:x≠w)(r0:s.row x=[])(as:s.ask w T'=some (pL L0))(e0:0<=(pL L0).1):s.lV x T' w (pL (s.row x))=true:=by
 unfold BO.lV BO.spent
 rw[r1,vt]
 have:¬T'<s.term x:=()
 have g:s.good w T' (pL (s.row x))=true:=by
  unfold BO.good
  rw[as,r0]
  show(X7.Ol [0,0] _||_)=true
  rw[an_ e0];rfl
 simp[this,Ne.symm hx,g]
def vs(s:BO)(T':Int)(w:Nat)(xs:List Nat):BO:=xs.foldl (λs x=>cst s x T' w) s
structure Vm(c S w:Nat)(T':Int)(L0:List En)(xs:List Nat)(s0 s:BO):Prop where
 k:s={s0 with cnt:=s.cnt,tm:=s.tm,vt:=s.vt,ak:=s.ak}
 y:∀x∈xs,s.term x=T'/\(s.zQ x T').testBit w=true
 n:∀x,x∉xs->s.term x=s0.term x/\s.zQ x T'=s0.zQ x T'
 u:∀x u,u≠T'->s.zQ x u=s0.zQ x u
 as:s.ask w T'=some (pL L0)
theorem Vm.more(h:Vm c S w T' L0 xs s0 s)(hx:x≠w):Vm c S w T' L0 (x::xs) s0 (cst s x T' w):=by
 refine⟨?_,λz hz=> ?_,λz hz=> ?_,λz u hu=> ?_,?_⟩
 ·have k:=h.k
  rw[k]
  rfl
 ·rw[G6,Cp]
  by_cases q:z=x
  ·subst q
   rw[if_pos rfl,if_pos rfl]
   exact⟨rfl,acC _ _⟩
  ·rw[if_neg q,if_neg (λe=>q (congrArg Prod.fst e))]
   exact h.y z ((List.mem_cons.mp hz).resolve_left q)
 ·have q:z≠x:=λe=>hz (e▸xB)
  rw[G6,Cp,if_neg q,if_neg (λe=>q (congrArg Prod.fst e))]
  exact h.n z λe=>hz (yT _ e)
 ·rw[Cp,if_neg (λe=>hu (congrArg Prod.snd e))]
  exact h.u z u hu
 ·rw[VG (Ne.symm hx)]
  exact h.as
theorem Vm.one(p:Pv c S w T' L0 s):Vm c S w T' L0 [w] s (cst s w T' w):=by
 refine⟨rfl,λz hz=> ?_,λz hz=> ?_,λz u hu=> ?_,?_⟩
 ·rw[List.mem_singleton.mp hz,G6,Cp,if_pos rfl,if_pos rfl]
  exact⟨rfl,acC _ _⟩
 ·have q:z≠w:=λe=>hz (e▸List.mem_singleton_self _)
  rw[G6,Cp,if_neg q,if_neg (λe=>q (congrArg Prod.fst e))]
  exact⟨rfl,rfl⟩
 ·rw[Cp,if_neg (λe=>hu (congrArg Prod.snd e))]
 ·rw[aeM,p.rw]
end
section
variable{M M':Mem}{a:BA}{s s':BO}{c S w k hl ll:Nat}{T' cell:Int}{L0:List En}{n j:Nat}
def uy(a:BA)(hl S k:Nat)(T':Int)(ll:Nat)(cell:Int)(w:Nat)(v8 v9 v10:Option D):Sl:=[some (.ref a.b),some (.ref hl),some (.int (S:Int)),some (.int (k:Int)),some (.int T'),some (.ref ll),some (.int cell),some (.int (w:Int)),v8,v9,v10]
structure alp(M0 M1:Mem)(k:Nat)(e0:Option D->Sl)(i:Nat)(e:Sl)(M:Mem):Prop where
 e:∃v,e=e0 v
 m:M=if k<i then M1 else M0
theorem aer(h:bQ M a s)(p:Pv c S w T' L0 s)(hw:w=c+11*k)(hk:k<5)(hc:c<16)(hf:Few s):∃M1 v,vH (uy a hl S k T' ll cell w none none none) M= .next (uy a hl S k T' ll cell w v none none) M1/\Bx M a (cst s w T' w) M1:=by
 have hm:w∈hds c:=hw▸Ck hk
 have br:LR s.br=true:=by rw[p.br];rfl
 obtain⟨M1,e1,x1⟩:=We h hf w T' (Bo hc hm) br p.t1 (aec p hm)
 have e1':aN [.ref a.b,.tup [.str "vote",.int (w:Int),.int T',.int (w:Int)]] M= .ok .non M1:=e1
 obtain⟨e',M2,lp,⟨v,rfl⟩,q⟩:=pK (src:=none) (g:=gN 8) (b:=uY) (alp M M1 k λv=>uy a hl S k T' ll cell w v none none) (ds:=C_ 0 5) (e:=uy a hl S k T' ll cell w none none none) (M:=M)
  ⟨⟨_,rfl⟩,by rw[if_neg (Nat.not_lt_zero _)]⟩ (λ_ _ _ _ _=>trivial) λi d e M' hd q=>by
   obtain⟨⟨v,rfl⟩,qm⟩:=q
   obtain⟨hi,rfl⟩:=Ce hd
   rw[Int.zero_add]
   refine⟨uy a hl S k T' ll cell w (some (.int (i:Int))) none none,rfl,?_⟩
   simp only[uY,Di,uy]
   by_cases z:i=k
   ·subst z
    rw[if_neg (wS _)]at qm
    subst qm
    simp[h.Fb (m:= "take") rfl,e1']
    exact⟨⟨_,rfl⟩,by rw[if_pos (Nat.lt_succ_self _)]⟩
   ·have z':¬((i:Int)=(k:Int)):=()
    simp[z']
    refine⟨⟨_,rfl⟩,?_⟩
    rw[qm]
    by_cases z2:k<i
    ·rw[if_pos z2,if_pos ()]
    ·rw[if_neg z2,if_neg ()]
 have h5:(C_ 0 5).length=5:=JX
 rw[h5,if_pos hk]at q
 subst q
 refine⟨M2,v,?_,x1⟩
 simp only[vH]
 simp only[uy]at lp ⊢
 simp[r5,lp]
theorem Vm.st(h:Vm c S w T' L0 xs s0 s):s.r1=s0.r1/\s.br=s0.br/\s.ro=s0.ro/\s.S=s0.S/\s.se=s0.se/\s.ln=s0.ln/\s.mr=s0.mr:=by
 have k:=h.k
 refine⟨?_,?_,?_,?_,?_,?_,?_⟩<;>rw[k]
theorem Vm.row(h:Vm c S w T' L0 xs s0 s)(x:Nat):s.row x=s0.row x:=by unfold BO.row;rw[h.st.2.2.1]
theorem Vq(h:bQ M a s)(p:Pv c S w T' L0 s0)(q:Vm c S w T' L0 xs s0 s)(hf:Few s)(hc:c<16)(hh:M[hl]? = some (.lst (hv (hds c))))(hw:w∈hds c)(hi:i<5)(h2:2<=i)(hx:c+11*i∉xs)(hn:c+11*i≠w):
  ∃M1,p_ (uy a hl S k T' ll cell w (some (.int (i:Int))) none none) M= .next (uy a hl S k T' ll cell w (some (.int (i:Int))) none none) M1/\Bx M a (cst s (c+11*i) T' w) M1/\Vm c S w T' L0 ((c+11*i)::xs) s0 (cst s (c+11*i) T' w):=by
 obtain⟨r1,br,_,_,_,_,_⟩:=q.st
 have hm:=Ck (c:=c) hi
 have r0:s.row (c+11*i)=[]:=by
  rw[q.row]
  refine p.r0 _ ?_
  simp
  omega
 obtain⟨tm,vt⟩:=q.n _ hx
 obtain⟨M1,e1,x1⟩:=We h hf (c+11*i) T' (Bo hc hw) (by rw[br,p.br];rfl) p.t1 (abj (r1.trans p.r1) (by rw[tm];exact p.tm _ hm) (by rw[vt];exact p.vt _) hn r0 q.as p.e0)
 have e1':aN [.ref a.b,.tup [.str "vote",.int ((c+11*i:Nat):Int),.int T',.int (w:Int)]] M= .ok .non M1:=e1
 refine⟨M1,?_,x1,q.more hn⟩
 simp only[p_,uy]
 simp only[aaA]
 rw[show(some (D.int (i:Int)):Option D)=some (.int (i:Int))from rfl]
 simp[h.Fb (m:= "take") rfl,YZ hh hi,-Int.natCast_add,e1']
theorem sk(h:M[n]? = some (.lst ds)):gh (some (n,ds)) M:=dD h
theorem yX(h:hl<a.b):¬Rg a hl:=λz=>Nat.not_lt.mpr z.1 h
theorem abJ(h:bQ M a s)(p:Pv c S w T' L0 s0)(q:Vm c S w T' L0 [w] s0 s)(g:Lg n j s)(hn:n<=600)(hj:j<=40)(hc:c<16)(hh:M[hl]? = some (.lst (hv (hds c))))(hb:hl<a.b)(hw:w=c+11*k)(hk:k<2):
  ∃(s1:BO) (M1:Mem) (v':Option D),vG (uy a hl S k T' ll cell w v none none) M= .next (uy a hl S k T' ll cell w v' none none) M1/\Bx M a s1 M1/\Vm c S w T' L0 [c+11*4,c+11*3,c+11*2,w] s0 s1/\Lg (n+3) j s1:=by
 have hm:w∈hds c:=hw▸Ck ()
 obtain⟨M0,hM0⟩:∃M0:Mem,M0=M++[.lst [.int 2,.int 3,.int 4]]:=⟨_,rfl⟩
 have g0:Gr M M0:=by rw[hM0];exact Gr.app
 have x0:=Bx.gr h g0
 have so:M0[M.length]? = some (.lst [.int 2,.int 3,.int 4]):=by rw[hM0];exact bL
 have nr:¬Rg a M.length:=h.nrg (zaa _)
 obtain⟨M1,e1,x1,q1⟩:=Vq (k:=k) (ll:=ll) (cell:=cell) x0.h p q (g.few () ()) hc (g0 _ _ hh) hm (i:=2) () () (by rw[List.mem_singleton];omega) ()
 have g1:=g.cst (c+11*2) T' w
 obtain⟨M2,e2,x2,q2⟩:=Vq (k:=k) (ll:=ll) (cell:=cell) x1.h p q1 (g1.few () ()) hc (x1.c.2 _ _ (yX hb) (g0 _ _ hh)) hm (i:=3) () () (by simp;omega) ()
 have g2:=g1.cst (c+11*3) T' w
 obtain⟨M3,e3,x3,q3⟩:=Vq (k:=k) (ll:=ll) (cell:=cell) x2.h p q2 (g2.few () ()) hc (x2.c.2 _ _ (yX hb) (x1.c.2 _ _ (yX hb) (g0 _ _ hh))) hm (i:=4) () () (by simp;omega) ()
 refine⟨_,M3,some (.int 4),?_,x0.trans (x1.trans (x2.trans x3)),q3,g2.cst _ T' w⟩
 have s1:=x1.c.2 _ _ nr so
 have s2:=x2.c.2 _ _ nr s1
 have lp:dR (some (M.length,[.int 2,.int 3,.int 4])) (gN 8) p_ [.int 2,.int 3,.int 4] (uy a hl S k T' ll cell w v none none) M0= .next (uy a hl S k T' ll cell w (some (.int 4)) none none) M3:=
  (Y7 (sk so) rfl e1).trans ((Y7 (sk s1) rfl e2).trans ((Y7 (sk s2) rfl e3).trans (ak0 (sk (x3.c.2 _ _ nr s2)))))
 simp only[vG]
 simp only[uy]at lp ⊢
 simp[<-hM0,qN so,lp]
theorem abK(h:bQ M a s)(p:Pv c S w T' L0 s0)(sg:Sg c S)(q:Vm c S w T' L0 [c+11*4,c+11*3,c+11*2,w] s0 s)(g:Lg n j s)(hn:n<=600)(hj:j<=40)(hh:M[hl]? = some (.lst (hv (hds c))))(hw:w=c+11*k)(hk:k<2):
  ∃M1,ig (aU 8 "take" aN 2 [] (aq 0) (au (gw (au (mC (.str "chair")) (au (aq 7) (au (aq 4) (au (aC tu (aC Dy (mC (.int 1)) (aq 7)) (bG pF 2 [] (au (mC (.int 28)) (au (aq 1) aF)))) aF))))) aF)) (uy a hl S k T' ll cell w v none none) M= .next (uy a hl S k T' ll cell w v none none) M1/\Bx M a (sat s w T') M1:=by
 have hc:=sg.hc
 have hm:w∈hds c:=hw▸Ck ()
 obtain⟨P,e1,sp,b⟩:=J6 hc hh 28
 have b0:P.testBit c=false:=b 0 ()
 have b1:P.testBit (c+11)=false:=b 1 ()
 have b2:P.testBit (c+22)=true:=b 2 ()
 have b3:P.testBit (c+33)=true:=b 3 ()
 have b4:P.testBit (c+44)=true:=b 4 ()
 have lo:∀x,P.testBit x=true↔x=c+22\/x=c+33\/x=c+44:=λx=>by
  constructor
  ·intro z
   have m:=sp x z
   simp[hds]at m
   rcases m with rfl | rfl | rfl | rfl | rfl
   ·rw[b0]at z;cases z
   ·rw[b1]at z;cases z
   ·exact .inl rfl
   ·exact .inr (.inl rfl)
   ·exact .inr (.inr rfl)
  ·rintro(rfl | rfl | rfl)
   ·exact b2
   ·exact b3
   ·exact b4
 have oa:2 ^ w+P=2 ^ w ||| P:=ag1 (n:=c+22) () λx hx=>by
  cases z:P.testBit x with
  | false=>rfl
  | true=>have:=(lo x).mp z;omega
 obtain⟨V,hV⟩:∃V,V=2 ^ w ||| P:=⟨_,rfl⟩
 have vo:Vo c w V:=⟨λx=>by
  rw[hV,Nat.testBit_or,Bool.or_eq_true,lo x,Nat.testBit_two_pow,decide_eq_true_eq]
  omega⟩
 have vl:V<2 ^ 60:=by rw[hV];exact Nat.or_lt_two_pow (Nat.pow_lt_pow_right (by decide) (Bo hc hm)) (sp.lt hc)
 obtain⟨r1,br,_,sS,se,sl,smr⟩:=q.st
 have rw_:s.row w=L0:=(q.row w).trans p.rw
 have nr:jt (s.row w) s.S=(S,0):=by rw[rw_,sS,p.hS,p.nr]
 have yw:=q.y w (by simp)
 have mc:s.jC w T' V (pL (s.row w)) (jt (s.row w) s.S).1 (jt (s.row w) s.S).2=true:=by
  have hd:s.head T'=none:=by unfold BO.head;rw[se];exact p.hd
  unfold BO.jC
  rw[if_neg (by rw[hd];simp[yw.1]),if_neg (by rw[q.as,rw_];simp),nr,vo.Yd sg]
  have:s.sH V T' w=true:=by
   unfold BO.sH
   rw[List.all_eq_true]
   intro x hx
   have:=(vo.b x).mp (HM.uM.mp hx).2
   refine(q.y x ?_).2
   simp
   omega
  rw[this];rfl
 have hd:s.head T'=none:=by unfold BO.head;rw[se];exact p.hd
 have kp:Kp {s with se:=gp s.se T' w,ln:=gp s.ln T' (s.row w)}:=by
  constructor
  ·intro t e he
   have e2:BO.line {s with se:=gp s.se T' w,ln:=gp s.ln T' (s.row w)} t=if t=T' then s.row w else s.line t:=aaq (s:=s) (w:=w) (t:=T') (u:=t)
   rw[e2]at he
   split at he
   ·rw[rw_]at he;exact p.okL e he
   ·refine p.ok t e ?_
    unfold BO.line at he ⊢
    rw[sl]at he
    exact he
  ·intro t u _ _ _
   have:BO.mark {s with se:=gp s.se T' w,ln:=gp s.ln T' (s.row w)} t=0:=by
    show(gv s.mr t).getD 0=0
    rw[smr,p.mr];rfl
   rw[this]
   rfl
 obtain⟨M1,e2,x2⟩:=ac_ h (g.few () ()) (Bo hc hm) vl (by rw[nr];exact sg.lt) (by rw[nr];exact Nat.two_pow_pos 60) (by rw[br,p.br];rfl) p.t1 hd kp (by have:=g.ln;omega) mc
 have e2':aN [.ref a.b,.tup [.str "chair",.int (w:Int),.int T',.int (V:Int)]] M= .ok .non M1:=e2
 refine⟨M1,?_,x2⟩
 have sh:=ang (M:=M) (Bo hc hm)
 have ad:(((2 ^ w:Nat):Int)+(P:Int))=(V:Int):=by rw[hV,<-oa];simp
 simp only[uy]
 simp[h.Fb (m:= "take") rfl,sh,e1,ad,-Int.natCast_pow,e2']
end
section
variable{M M':Mem}{a:BA}{s s':BO}{c S w k hl ll:Nat}{T' cell:Int}{L L0:List En}{n j:Nat}
structure Wv(c S w k:Nat)(T':Int)(L0:List En)(s0:BO)(i:Nat)(s:BO)(L:List En):Prop where
 kk:s={s0 with cnt:=s.cnt,ln:=s.ln,ro:=s.ro}
 lT:gv s.ln T'=some L
 lo:∀t,t≠T'->gv s.ln t=gv s0.ln t
 rw:s.row w=L
 ro:∀x,x≠w->s.row x=s0.row x
 len:L.length=L0.length+i
 ok:∀e∈L,JM e
 st:stE L T'=decide (0<i)
 nr:(i<=2\/k=0)->JW L=0
 rl:(jt L S).1=S/\Sub c (jt L S).2
 tT:∀e∈L,0<=e.1/\e.1<=T'
structure Ch0(S w:Nat)(T':Int)(s:BO):Prop where
 hS:s.S=S
 br:s.br= .non
 mr:s.mr=[]
 hd:s.head T'=some w
 tm:s.term w=T'
theorem Wv.st0(h:Wv c S w k T' L0 s0 i s L)(q:Ch0 S w T' s0):Ch0 S w T' s:=by
 have kk:=h.kk
 refine⟨?_,?_,?_,?_,?_⟩<;>rw[kk]
 ·exact q.hS
 ·exact q.br
 ·exact q.mr
 ·exact q.hd
 ·exact q.tm
theorem ape:∀x,x<32->0<x->(List.range 5).any (λk=>decide (Builtin.bitAnd ((x:Nat) / 2 ^ k:Int) 1=1))=true:=by decide +kernel
theorem whs{i:Nat}{v10:Option D}{rest:MS}(sg:Sg c S)(hh:M[hl]? = some (.lst (hv (hds c))))(hL:M[ll]? = some (.lst (L.map oK)))(hk:k<2):
  ∃x:Wh,aQ (cu (gw (au (mC (.str "start")) aF)) (gN 10)) (aQ lN (aQ lM rest)) (uy a hl S k T' ll cell w v8 (some (.int (i:Int))) v10) M=rest (uy a hl S k T' ll cell w v8 (some (.int (i:Int))) (some x.d)) M
   /\ WOk x/\x.isS=decide (i=0)/\∀p q,x= .K7 p q->i=2/\k=1/\p=S/\q≠0/\Sub c q:=by
 have md:∀(z j:Int) (M:Mem),0<j->jj (.int z) (.int j) M= .ok (.int (z % j)) M:=λz j M h=>jA h
 have dv:∀(z j:Int) (M:Mem),0<j->j<1073741824->mz (.int z) (.int j) M= .ok (.int (z / j)) M:=λz j M h h'=>qH h h'
 obtain⟨T,hT⟩:∃T:Int,T=10 ^ 40:=⟨_,rfl⟩
 have hT0:0<T:=by rw[hT];decide
 have pw:∀M:Mem,RX (.int 10) (.int 40) M= .ok (.int T) M:=λM=>by rw[RW ⟨(),(),by decide⟩,hT];rfl
 clear hT
 have a1:cu (gw (au (mC (.str "start")) aF)) (gN 10) (uy a hl S k T' ll cell w v8 (some (.int (i:Int))) v10) M= .next (uy a hl S k T' ll cell w v8 (some (.int (i:Int))) (some (Wh.st).d)) M:=by
  simp[uy,Wh.d]
 have nx:∀(x:Wh),¬(i=2/\cell / 4 % 2=1/\k=1/\(jt L S).2=0)->lM (uy a hl S k T' ll cell w v8 (some (.int (i:Int))) (some x.d)) M= .next (uy a hl S k T' ll cell w v8 (some (.int (i:Int))) (some x.d)) M:=by
  intro x hn
  simp only[lM,uy]
  by_cases z1:(i:Int)=2
  ·by_cases z2:cell / 4 % 2=1
   ·by_cases z3:(k:Int)=1
    ·have z4:¬(jt L S).2=0:=()
     simp[z1,md,dv,z2,z3,HJ (S:=S) hL,z4]
    ·simp[z1,md,dv,z2,z3]
   ·simp[z1,md,dv,z2]
  ·simp[z1]
 by_cases z0:i=0
 ·subst z0
  refine⟨.st,?_,trivial,rfl,λp q e=>nomatch e⟩
  refine fL a1 (fL (e':=uy a hl S k T' ll cell w v8 (some (.int ((0:Nat):Int))) (some (Wh.st).d)) (M':=M) ?_ (fL (nx .st ()) rfl))
  simp only[lN,uy]
  simp
 ·obtain⟨A,hA⟩:∃A:Wh,A= .ask (cell / 4 % T) (i:Int) (.tup [.str "add",.str "a",.int (cell % T)]):=⟨_,rfl⟩
  have a2:lN (uy a hl S k T' ll cell w v8 (some (.int (i:Int))) (some (Wh.st).d)) M= .next (uy a hl S k T' ll cell w v8 (some (.int (i:Int))) (some A.d)) M:=by
   have z:(0:Int)<(i:Int):=()
   rw[hA]
   simp only[lN,uy]
   simp[z,md,dv,pw,hT0,Wh.d]
   omega
  have okA:WOk A:=by rw[hA];exact⟨_,λ_ _=>rfl⟩
  by_cases z1:i=2/\cell / 4 % 2=1/\k=1/\(jt L S).2=0
  ·obtain⟨rfl,z2,rfl,z4⟩:=z1
   obtain⟨P,e1,sp,b⟩:=J6 sg.hc hh (1+cell / 8 % 31)
   refine⟨.K7 S P,?_,trivial,rfl,λp q e=> ?_⟩
   ·refine fL a1 (fL a2 (fL (e':=uy a hl S 1 T' ll cell w v8 (some (.int ((2:Nat):Int))) (some (Wh.K7 S P).d)) (M':=M) ?_ rfl))
    simp only[lM,uy]
    simp[md,dv,z2,HJ (S:=S) hL,z4,e1,Wh.d]
   ·injection e with e2 e3
    refine⟨rfl,rfl,e2.symm,?_,e3▸sp⟩
    rw[<-e3]
    intro z
    obtain⟨y,hy⟩:∃y:Nat,1+cell / 8 % 31=(y:Int):=⟨(1+cell / 8 % 31).toNat,()⟩
    have an:=ape y () ()
    rw[List.any_eq_true]at an
    obtain⟨k,hk,q⟩:=an
    have hb:=b k (List.mem_range.mp hk)
    rw[z,Nat.zero_testBit,hy]at hb
    rw[q]at hb
    cases hb
  ·refine⟨A,fL a1 (fL a2 (fL (nx A z1) rfl)),okA,by rw[hA,zae z0];rfl,λp q e=>by rw[hA]at e;cases e⟩
theorem rl0(h:JW L=0):jt L S=(S,0):=by unfold jt;rw[h]
theorem alm(q:Wv c S w k T' L0 s0 i s L)(q0:Ch0 S w T' s0)(t1:1<=T')(isx:x.isS=decide (i=0))(rx:∀p q,x= .K7 p q->i=2/\k=1/\p=S/\q≠0/\Sub c q):s.pX T' ((L.length:Int)+1) x=true:=by
 have q1:=q.st0 q0
 have lnT:s.line T'=L:=by unfold BO.line;rw[q.lT];rfl
 unfold BO.pX BO.stands BO.Dg
 rw[q1.hd,lnT,q.st]
 have e:(!decide (0<i))=x.isS:=by rw[isx];by_cases z:i=0<;>simp[z];omega
 rw[if_pos ⟨rfl,e⟩]
 cases x with
 | st=>simp[t1,q1.tm]
 | ask _ _ _=>simp[t1,q1.tm]
 | K7 p r=>
  obtain⟨rfl,_,rfl,h0,_⟩:=rx p r rfl
  have r0:=q.nr (.inl (zaa _))
  have m:s.Oj T' p r=true:=by
   unfold BO.Oj
   have u:s.upTo T'=0:=by unfold BO.upTo;rw[q1.mr];rfl
   rw[lnT,r0,u,q1.hS,rl0 r0]
   simp[h0]
  simp[t1,q1.tm,m]
theorem Wv.more(q:Wv c S w k T' L0 s0 i s L)(t1:1<=T')(okx:WOk x)(rx:∀p q,x= .K7 p q->i=2/\k=1/\p=S/\q≠0/\Sub c q):
  Wv c S w k T' L0 s0 (i+1) {s with cnt:=s.cnt+1,ln:=gp s.ln T' (s.line T'++[(T',x)]),ro:=gp s.ro w (s.row w++[(T',x)])} (L++[(T',x)]):=by
 have lnT:s.line T'=L:=by unfold BO.line;rw[q.lT];rfl
 rw[lnT,q.rw]
 refine⟨?_,?_,λt ht=> ?_,?_,λy hy=> ?_,?_,λe he=> ?_,?_,λz=> ?_,?_,λe he=> ?_⟩
 ·have kk:=q.kk
  rw[kk]
 ·show gv (gp s.ln T' _) T'=_
  rw[Jf,if_pos rfl]
 ·show gv (gp s.ln T' _) t=_
  rw[Jf,if_neg ht]
  exact q.lo t ht
 ·show(gv (gp s.ro w _) w).getD []=_
  rw[gvD,if_pos rfl]
 ·show(gv (gp s.ro w _) y).getD []=_
  rw[gvD,if_neg hy]
  exact q.ro y hy
 ·rw[List.length_append,q.len];rfl
 ·rcases List.mem_append.mp he with z | z
  ·exact q.ok e z
  ·rw[List.mem_singleton.mp z];exact okx.en T'
 ·unfold stE
  rw[List.any_append]
  simp
 ·have nx:x.Y0=false:=by
   cases x with
   | st=>rfl
   | ask _ _ _=>rfl
   | K7 p r=>have:=rx p r rfl;omega
  rw[JV,if_neg (by show ¬x.Y0=true;rw[nx];exact xA)]
  exact q.nr (z.imp (λz=>()) id)
 ·cases x with
  | st=>rw[JZ rfl];exact q.rl
  | ask _ _ _=>rw[JZ rfl];exact q.rl
  | K7 p r=>
   rw[WN]
   obtain⟨_,_,hp,_,hr⟩:=rx p r rfl
   exact⟨hp,hr⟩
 ·rcases List.mem_append.mp he with z | z
  ·exact q.tT e z
  ·rw[List.mem_singleton.mp z];exact⟨(),Int.le_refl _⟩
theorem aem(h:bQ M a s)(q:Wv c S w k T' L0 s0 i s L)(q0:Ch0 S w T' s0)(sg:Sg c S)(hh:M[hl]? = some (.lst (hv (hds c))))(hL:M[ll]? = some (.lst (L.map oK)))(ho:a.sn<ll)(t1:1<=T')(g:Lg (n+i) (j+i) s)(hn:n+i<=600)(hj:j+i<=40)(hk:k<2)(hl0:L.length<=100)(hr:∀y,(s.row y).length<=1000):
  ∃s1 L1 M1 v',lF (uy a hl S k T' ll cell w v8 (some (.int (i:Int))) v10) M= .next (uy a hl S k T' ll cell w v8 (some (.int (i:Int))) v') M1/\bQ M1 a s1/\Ch (λx=>Rg a x\/x=ll) M M1/\M1[ll]? = some (.lst (L1.map oK))/\Wv c S w k T' L0 s0 (i+1) s1 L1/\Lg (n+(i+1)) (j+(i+1)) s1:=by
 obtain⟨x,e1,okx,isx,rx⟩:=whs (a:=a) (T':=T') (cell:=cell) (w:=w) (v8:=v8) (i:=i) (v10:=v10) (rest:=aQ (ig (aU 8 "take" aN 2 [] (aq 0) (au (gw (au (mC (.str "write")) (au (aq 4) (au (aC tu (Bb jz (au (aq 5) aF)) (mC (.int 1))) (au (aq 10) aF))))) aF)))
  (ig (mBM "list" xV (aq 5) (au (gw (au (aq 4) (au (aq 10) aF))) aF)))) sg hh hL hk
 have q1:=q.st0 q0
 have lnT:s.line T'=L:=by unfold BO.line;rw[q.lT];rfl
 have aw:=alm q q0 t1 isx rx
 have ln:jz [.ref ll] M= .ok (.int (L.length:Int)) M:=by rw[qG hL];simp
 rcases af7 h (by rw[q1.br];rfl) (by have:=g.ln;omega) (by have:=g.ro;omega) T' ((L.length:Int)+1) okx (by rw[lnT];omega) hr with⟨_,k',M1,hk',e2,x2⟩ | ⟨f,_⟩
 ·have kw:k'=w:=xI (hk'.symm.trans q1.hd)
  subst kw
  have e2':aN [.ref a.b,.tup [.str "write",.int T',.int ((L.length:Int)+1),x.d]] M= .ok .non M1:=e2
  have nl:¬Rg a ll:=λz=>Nat.not_lt.mpr z.2 ho
  have l1:=x2.c.2 _ _ nl hL
  obtain⟨M2,hM2⟩:∃M2:Mem,M2=M1.set ll (.lst (L.map oK++[oK (T',x)])):=⟨_,rfl⟩
  have ap:xV (.ref ll) [.tup [.int T',x.d]] M1= .ok .non M2:=by
   rw[hM2]
   exact R4 l1 (by rw[zam];omega)
  have c2:Ch (· = ll) M1 M2:=by rw[hM2];exact Ch.set rfl
  refine⟨_,L++[(T',x)],M2,some x.d,?_,x2.h.ch c2 (λi _ h2 z=>Nat.not_lt.mpr h2 (z▸ho)),(x2.c.mono λ_ _ z=> .inl z).trans (c2.mono λ_ _ z=> .inr z),?_,q.more t1 okx rx,?_⟩
  ·simp only[lF]
   rw[e1]
   refine fL (e':=uy a hl S k T' ll cell k' v8 (some (.int (i:Int))) (some x.d)) (M':=M1) ?_ ?_
   ·simp only[uy]
    simp[h.Fb (m:= "take") rfl,ln,e2']
   ·simp only[uy]
    simp[ZZ l1,ap]
  ·rw[hM2,List.map_append]
   exact ir l1
  ·exact⟨wP g.tm,wP g.vt,wP g.ak,wX g.ro,wP g.pl,wP g.hd,wP g.se,wX g.ln,wP g.mr⟩
 ·rw[aw]at f;cases f
structure apj(a:BA)(c S w k hl ll:Nat)(T' cell:Int)(L0:List En)(s0:BO)(n j:Nat)(v8:Option D)(M0:Mem)(i:Nat)(e:Sl)(M:Mem):Prop where
 h:∃s L v9 v10,e=uy a hl S k T' ll cell w v8 v9 v10/\bQ M a s/\Ch (λx=>Rg a x\/x=ll) M0 M/\M[ll]? = some (.lst (L.map oK))/\Wv c S w k T' L0 s0 i s L/\Lg (n+i) (j+i) s
structure Po(c S w:Nat)(T':Int)(s s':BO)(L':List En):Prop where
 r3:s'.r3=s.r3
 r4:s'.r4=s.r4
 pl:s'.pl=s.pl
 r1:s'.r1=s.r1
 hS:s'.S=s.S
 br:s'.br= .non
 mr:s'.mr=[]
 hd:∀t,s'.head t=if t=T' then some w else s.head t
 ln:∀t,gv s'.ln t=if t=T' then some L' else gv s.ln t
 ro:∀x,s'.row x=if x=w then L' else s.row x
 ty:∀x∈[c+11*4,c+11*3,c+11*2,w],s'.term x=T'
 tn:∀x,x∉[c+11*4,c+11*3,c+11*2,w]->s'.term x=s.term x
 vt:∀x u,u≠T'->s'.zQ x u=s.zQ x u
theorem ajW(p:Pv c S w T' L0 s)(q:Vm c S w T' L0 [c+11*4,c+11*3,c+11*2,w] s sv)(u:Wv c S w k T' L0 (sat sv w T') i s' L):Po c S w T' s s' L:=by
 have e1:=u.kk
 have e2:=q.k
 obtain⟨_,br,ro,hS,se,ln,mr⟩:=q.st
 have tm':∀x,s'.term x=sv.term x:=λx=>by rw[e1];rfl
 have vt':∀x u,s'.zQ x u=sv.zQ x u:=λx u=>by rw[e1];rfl
 refine⟨by rw[e1,e2];rfl,by rw[e1,e2];rfl,by rw[e1,e2];rfl,by rw[e1,e2];rfl,by rw[e1,e2];rfl,?_,?_,λt=> ?_,λt=> ?_,λx=> ?_,λx hx=> ?_,λx hx=> ?_,λx u hu=> ?_⟩
 ·rw[e1];show sv.br=_;rw[br,p.br]
 ·rw[e1];show sv.mr=_;rw[mr,p.mr]
 ·have:s'.head t=(sat sv w T').head t:=by rw[e1];rfl
  rw[this,RN]
  unfold BO.head
  rw[se]
 ·by_cases z:t=T'
  ·rw[if_pos z,z];exact u.lT
  ·rw[if_neg z,u.lo t z]
   show gv (gp sv.ln T' _) t=_
   rw[Jf,if_neg z,ln]
 ·by_cases z:x=w
  ·rw[if_pos z,z];exact u.rw
  ·rw[if_neg z,u.ro x z]
   exact q.row x
 ·rw[tm'];exact(q.y x hx).1
 ·rw[tm'];exact(q.n x hx).1
 ·rw[vt'];exact q.u x u hu
theorem Om(h:bQ M a s)(p:Pv c S w T' L0 s)(sg:Sg c S)(g:Lg n j s)(hn:n<=500)(hj:j<=30)(hh:M[hl]? = some (.lst (hv (hds c))))(hb:hl<a.b)(hL:M[ll]? = some (.lst (L0.map oK)))(ho:a.sn<ll)(hw:w=c+11*k)(hk:k<2)
  (l0:L0.length<=10) (r0:JW L0=0) (st0:∀e∈L0,0<=e.1/\e.1<T') (hr:∀y,(s.row y).length<=50):
  ∃(s':BO) (L':List En) (M':Mem),uN [.ref a.b,.ref hl,.int (S:Int),.int (k:Int),.int T',.ref ll,.int cell] M= .ok (.ref ll) M'/\bQ M' a s'/\Ch (λx=>Rg a x\/x=ll) M M'/\M'[ll]? = some (.lst (L'.map oK))/\Po c S w T' s s' L'/\Lg (n+10) (j+5) s'
   /\ L'.length<=L0.length+4/\(∀e∈L',JM e)/\(k=0->JW L'=0)/\(jt L' S).1=S/\Sub c (jt L' S).2/\∀e∈L',0<=e.1/\e.1<=T':=by
 have hc:=sg.hc
 obtain⟨M1,v1,e1,x1⟩:=aer (hl:=hl) (ll:=ll) (cell:=cell) h p hw () hc (g.few () ())
 have hh1:=x1.c.2 _ _ (yX hb) hh
 obtain⟨sv,M2,v2,e2,x2,q2,g2⟩:=abJ (ll:=ll) (cell:=cell) (v:=v1) x1.h p (Vm.one p) (g.cst w T' w) () () hc hh1 hb hw hk
 have hh2:=x2.c.2 _ _ (yX hb) hh1
 obtain⟨M3,e3,x3⟩:=abK (ll:=ll) (cell:=cell) (v:=v2) x2.h p sg q2 g2 () () hh2 hw hk
 have nl:¬Rg a ll:=λz=>Nat.not_lt.mpr z.2 ho
 have hL3:=x3.c.2 _ _ nl (x2.c.2 _ _ nl (x1.c.2 _ _ nl hL))
 have hh3:=x3.c.2 _ _ (yX hb) hh2
 obtain⟨r1,br,ro,hS,se,ln,mr⟩:=q2.st
 have c0:Ch0 S w T' (sat sv w T'):=⟨hS.trans p.hS,br.trans p.br,mr.trans p.mr,by rw[RN,if_pos rfl],(q2.y w (by simp)).1⟩
 have rww:sv.row w=L0:=(q2.row w).trans p.rw
 have w0:Wv c S w k T' L0 (sat sv w T') 0 (sat sv w T') L0:=by
  refine⟨rfl,?_,λ_ _=>rfl,rww,λ_ _=>rfl,rfl,p.okL,?_,λ_=>r0,?_,λe he=>⟨(st0 e he).1,Int.le_of_lt (st0 e he).2⟩⟩
  ·show gv (gp sv.ln T' (sv.row w)) T'=_
   rw[Jf,if_pos rfl,rww]
  ·rw[zae (wS 0)]
   unfold stE
   rw[List.any_eq_false]
   intro e he
   have:=(st0 e he).2
   simp
   omega
  ·rw[rl0 r0];exact⟨rfl,sub_zero⟩
 obtain⟨m,hm⟩:∃m:Nat,1+cell % 4=(m:Int):=⟨(1+cell % 4).toNat,()⟩
 obtain⟨e',M4,lp,s',L',v9,v10,rfl,b4,c4,l4,w4,g4⟩:=pK (src:=none) (g:=gN 9) (b:=lF) (apj a c S w k hl ll T' cell L0 (sat sv w T') (n+4) (j+1) v2 M3) (ds:=C_ 0 m) (e:=uy a hl S k T' ll cell w v2 none none) (M:=M3)
  ⟨_,L0,none,none,rfl,x3.h,Ch.refl,hL3,w0,g2.sat w T'⟩ (λ_ _ _ _ _=>trivial) λi d e M' hd q=>by
   obtain⟨s,L,v9,v10,rfl,b,cc,l,u,g⟩:=q
   obtain⟨hi,rfl⟩:=Ce hd
   rw[Int.zero_add]
   have hi4:i<4:=()
   obtain⟨s1,L1,M1',v',e5,b5,c5,l5,w5,g5⟩:=aem (cell:=cell) (v8:=v2) (v10:=v10) b u c0 sg (cc.2 _ _ (λz=>z.elim (yX hb) λz=>by have:=h.o;exact yX hb ()) hh3) l ho p.t1 g () () hk (by have:=u.len;omega) (λy=>by
    by_cases z:y=w
    ·rw[z,u.rw,u.len];omega
    ·rw[u.ro y z]
     have r:=hr y
     have e:(sat sv w T').row y=_:=q2.row y
     rw[e]
     omega)
   refine⟨_,rfl,?_⟩
   have e5':lF ((uy a hl S k T' ll cell w v2 v9 v10).set 9 (some (.int (i:Int)))) M'=_:=e5
   rw[e5']
   exact⟨s1,L1,_,_,rfl,b5,cc.trans c5,l5,w5,g5⟩
 rw[JX]at w4 g4
 refine⟨s',L',M4,?_,b4,((x1.c.trans (x2.c.trans x3.c)).mono λ_ _ z=> .inl z).trans c4,l4,ajW p q2 w4,?_,by have:=w4.len;omega,w4.ok,λz=>w4.nr (.inr z),w4.rl.1,w4.rl.2,w4.tT⟩
 ·simp only[uN,Bw]
  refine ab4 ?_
  simp only[bV,cj,bU]
  have ix:=YZ hh (i:=k) ()
  rw[<-hw]at ix
  refine fL (e':=uy a hl S k T' ll cell w none none none) (M':=M) ?_ (fL e1 (fL e2 (fL e3 (fL (e':=uy a hl S k T' ll cell w v2 v9 v10) (M':=M4) ?_ (Qz ?_)))))
  ·simp[uy,ix]
  ·simp only[Dm]
   simp only[uy]at lp ⊢
   have md:jj (.int cell) (.int 4) M3= .ok (.int (cell % 4)) M3:=jA ()
   have rg:Nh [.int (m:Int)] M3= .ok ⟨none,C_ 0 m⟩ M3:=FZ () ()
   simp[md,hm,rg,lp]
  ·simp[uy]
 ·exact⟨by have:=g4.tm;omega,by have:=g4.vt;omega,by have:=g4.ak;omega,by have:=g4.ro;omega,by have:=g4.pl;omega,by have:=g4.hd;omega,by have:=g4.se;omega,by have:=g4.ln;omega,by have:=g4.mr;omega⟩
end
set_option genInjectivity false in
structure LP where
 hl:Nat
 l1:Nat
 l2:Nat
 dl:Nat
 dt:Nat
 d1:Nat
 d2:Nat
 dm:Nat
 sl:Nat
 c:Nat
 S:Nat
 cs:List Int
 T1:Int
 T2:Int
 L1:List En
 L2:List En
 r3:Bool
 r4:Bool
structure CT(M:Mem)(a:BA)(s:BO)(p:LP)(t1 t2:List (Nat×Nat))(m:Nat):Prop where
 b:bQ M a s
 hs:M[p.hl]? = some (.lst (hv (hds p.c)))
 e1:M[p.l1]? = some (.lst (p.L1.map oK))
 e2:M[p.l2]? = some (.lst (p.L2.map oK))
 dl:M[p.dl]? = some (.dk (ge kI D.ref [(p.T1,p.l1),(p.T2,p.l2)]))
 dt:M[p.dt]? = some (.dk (ge kI D.ref [(p.T1,p.d1),(p.T2,p.d2)]))
 d1:M[p.d1]? = some (.dk (ge kN nD t1))
 d2:M[p.d2]? = some (.dk (ge kN nD t2))
 dm:M[p.dm]? = some (.dk (ge kI nD [(p.T1,0),(p.T2,m)]))
 sc:M[p.sl]? = some (.lst (p.cs.map D.int))
 o:p.hl<a.b/\a.sn<p.l1/\p.l1<p.l2/\p.l2<p.dl/\p.dl<p.dt/\p.dt<p.d1/\p.d1<p.d2/\p.d2<p.dm/\p.dm<p.sl
structure Cn(p:LP):Prop where
 sg:Sg p.c p.S
 T1:1<=p.T1
 T12:p.T1<p.T2
 k1:∀e∈p.L1,JM e
 k2:∀e∈p.L2,JM e
 r1:JW p.L1=0
 r2:(jt p.L2 p.S).1=p.S
 r3:Sub p.c (jt p.L2 p.S).2
 n1:p.L1.length<=20
 n2:p.L2.length<=20
structure Iv(p:LP)(s:BO)(t1 t2:List (Nat×Nat))(m:Nat):Prop where
 hS:s.S=p.S
 br:s.br= .non
 h1:s.head p.T1=some p.c
 h2:s.head p.T2=some (p.c+11)
 g1:gv s.ln p.T1=some p.L1
 g2:gv s.ln p.T2=some p.L2
 lo:∀t,(gv s.ln t).isSome=true->t=p.T1\/t=p.T2
 u1:s.term p.c=p.T1
 u2:s.term (p.c+11)=p.T2
 ux:∀i,2<=i->i<5->s.term (p.c+11*i)=p.T2
 ro:∀i,2<=i->i<5->s.row (p.c+11*i) <+: p.L2
 p1:∀v,tv t1 v=if v=p.c then 100 else s.Hx v p.T1
 p2:∀v,tv t2 v=if v=p.c+11 then 100 else s.Hx v p.T2
 px:∀v,v≠p.c->v≠p.c+11->s.Hx v p.T1=0
 mm:s.mark p.T2=m
 mo:∀t,t≠p.T2->s.mark t=0
 q3:s.r3=p.r3
 q4:s.r4=p.r4
section
variable{M M':Mem}{a:BA}{s s':BO}{p:LP}{t1 t2 t2':List (Nat×Nat)}{m m':Nat}{n j:Nat}
theorem CT.bx(h:CT M a s p t1 t2 m)(x:Bx M a s' M'):CT M' a s' p t1 t2 m:=by
 obtain⟨o1,o2,o3,o4,o5,o6,o7,o8,o9⟩:=h.o
 have f:∀{i:Nat} {o:MO},a.sn<i->M[i]? = some o->M'[i]? = some o:=λhi e=>x.c.2 _ _ (λz=>Nat.not_lt.mpr z.2 hi) e
 have q2:=Nat.lt_trans o2 o3
 have q3:=Nat.lt_trans q2 o4
 have q4:=Nat.lt_trans q3 o5
 have q5:=Nat.lt_trans q4 o6
 have q6:=Nat.lt_trans q5 o7
 have q7:=Nat.lt_trans q6 o8
 exact⟨x.h,x.c.2 _ _ (yX o1) h.hs,f o2 h.e1,f q2 h.e2,f q3 h.dl,f q4 h.dt,f q5 h.d1,f q6 h.d2,f q7 h.dm,f (Nat.lt_trans q7 o9) h.sc,h.o⟩
theorem CT.gr(h:CT M a s p t1 t2 m)(g:Gr M M'):CT M' a s p t1 t2 m:=h.bx (Bx.gr h.b g)
theorem bQ.bs(h:bQ M a s):a.b<a.sn:=O5 h.o 16 0 (by decide) (by decide)
theorem CT.u2(h:CT M a s p t1 t2 m)(c:Ch (· = p.d2) M M')(e:M'[p.d2]? = some (.dk (ge kN nD t2'))):CT M' a s p t1 t2' m:=by
 have o:=h.o
 have r:=h.b.bs
 have f:∀{i:Nat} {o:MO},i≠p.d2->M[i]? = some o->M'[i]? = some o:=λhi e=>c.2 _ _ hi e
 exact⟨h.b.ch c (λi _ h2 z=>()),f () h.hs,f () h.e1,f () h.e2,f () h.dl,f () h.dt,f () h.d1,e,f () h.dm,f () h.sc,h.o⟩
theorem CT.um(h:CT M a s p t1 t2 m)(c:Ch (· = p.dm) M M')(e:M'[p.dm]? = some (.dk (ge kI nD [(p.T1,0),(p.T2,m')]))):CT M' a s p t1 t2 m':=by
 have o:=h.o
 have r:=h.b.bs
 have f:∀{i:Nat} {o:MO},i≠p.dm->M[i]? = some o->M'[i]? = some o:=λhi e=>c.2 _ _ hi e
 exact⟨h.b.ch c (λi _ h2 z=>()),f () h.hs,f () h.e1,f () h.e2,f () h.dl,f () h.dt,f () h.d1,f () h.d2,e,f () h.sc,h.o⟩
theorem gv2{α:Type}{A B:Int}{x y:α}(h:A<B):gv [(A,x),(B,y)] A=some x/\gv [(A,x),(B,y)] B=some y:=by
 have:¬A=B:=()
 simp[l_,this]
theorem ahj(cn:Cn p)(iv:Iv p s t1 t2 m)(q V:Nat):s.mZ p.c p.T1 q V=false:=by
 have sg:=cn.sg
 unfold BO.mZ
 split
 ·rfl
 ·rename_i z0
  split
  ·rfl
  ·rw[Bool.and_eq_false_iff]
   by_cases z:s.GP p.c p.T1 q V=true
   ·right
    have l1:s.line p.T1=p.L1:=by unfold BO.line;rw[iv.g1];rfl
    rw[l1,iv.hS,rl0 cn.r1]
    unfold BO.GP at z
    rw[List.all_eq_true]at z
    have bz:∀i,2<=i->i<5->V.testBit (p.c+11*i)=false:=λi h2 h5=>by
     cases b:V.testBit (p.c+11*i)with
     | false=>rfl
     | true=>
      have:=z _ (HM.uM.mpr ⟨Bo sg.hc (Ck h5),b⟩)
      rw[iv.px _ () ()]at this
      simp at this
      omega
    have a2:V.testBit (p.c+22)=false:=bz 2 () ()
    have a3:V.testBit (p.c+33)=false:=bz 3 () ()
    have a4:V.testBit (p.c+44)=false:=bz 4 () ()
    have e1:=aeS sg.hc sg.sb
    have e2:=aeS sg.hc (sg.sb.and (V:=V))
    rw[sg.s2,sg.s3,sg.s4]at e1
    rw[Nat.testBit_and,Nat.testBit_and,Nat.testBit_and,Nat.testBit_and,Nat.testBit_and,a2,a3,a4]at e2
    have b0:(V.testBit p.c&&p.S.testBit p.c).toNat<=(p.S.testBit p.c).toNat:=by cases V.testBit p.c<;>simp
    have b1:(V.testBit (p.c+11)&&p.S.testBit (p.c+11)).toNat<=(p.S.testBit (p.c+11)).toNat:=by cases V.testBit (p.c+11)<;>simp
    have c0:=tn1 (p.S.testBit p.c)
    have c1:=tn1 (p.S.testBit (p.c+11))
    simp at e1 e2
    unfold BO.Yd jK
    simp
    split<;>omega
   ·left
    simpa using z
theorem ahs{V x y:Nat}(h:x≠0):lwB V x y (!s.r4)=s.Yd V x y:=by
 unfold lwB BO.Yd
 rw[zae h]
 rfl
theorem acp{L:List En}{tl:List (Nat×Nat)}{c' q V m0:Nat}{T:Int}(hl:s.line T=L)(hL:L.length<=20)(hm:s.mark T=m0)(hp:∀v,tv tl v=if v=c' then 100 else s.Hx v T)(h0:(jt L s.S).1≠0):ldB L s.S tl m0 s.r3 (!s.r4) T q V=s.mZ c' T q V:=by
 unfold ldB BO.mZ
 rw[hl,hm,ahs h0]
 split
 ·rfl
 ·rename_i z
  split
  ·rfl
  ·congr 1
   unfold Zv BO.GP
   congr 1
   funext v
   rw[hp v]
   by_cases e:v=c'
   ·rw[if_pos e,zaf e,zaf (show q<=100 by omega)];rfl
   ·rw[if_neg e,zae e];rfl
theorem adC(h:bQ M a s)(e:aN [.ref a.b,P] M= .ok .non M'):d8 [.ref a.b,P] M= .ok (.bl false) M':=by
 simp only[d8,qb,qY,qT,qU]
 simp[h.Fb (m:= "take") rfl,e,Z2]
theorem aaM(h:bQ M a s)(e:aN [.ref a.b,P] M= .exc 2 d M'):d8 [.ref a.b,P] M= .ok (.bl true) M':=by
 simp only[d8,qb,qY,qT,qU]
 simp[h.Fb (m:= "take") rfl,e,Z2,List.lookup]
theorem Fo:(s.told x t q).term y=if y=x then t else s.term y:=by
 show(gv (gp s.tm x t) y).getD 0=_
 rw[gvD];rfl
theorem BW:(s.told x t q).row y=if y=x then s.led x t q else s.row y:=by
 show(gv (gp s.ro x _) y).getD []=_
 rw[gvD];rfl
theorem JP:(s.told x t q).Hx y u=if(y,u)=(x,t)then max q (s.Hx x t)else s.Hx y u:=by
 show(gv (gp s.pl (x,t) _) (y,u)).getD 0=_
 rw[gvD];rfl
theorem Iv.l2(iv:Iv p s t1 t2 m):s.line p.T2=p.L2:=by unfold BO.line;rw[iv.g2];rfl
theorem Iv.l1(iv:Iv p s t1 t2 m):s.line p.T1=p.L1:=by unfold BO.line;rw[iv.g1];rfl
theorem Iv.told(cn:Cn p)(iv:Iv p s t1 t2 m)(h2:2<=i)(h5:i<5):Iv p (s.told (p.c+11*i) p.T2 q) t1 (gp t2 (p.c+11*i) (max q (tv t2 (p.c+11*i)))) m:=by
 have ne:∀y,(y,p.T1)≠(p.c+11*i,p.T2):=λy e=>by
  have:=congrArg Prod.snd e
  have:=cn.T12
  simp at*
  omega
 refine⟨iv.hS,iv.br,iv.h1,iv.h2,iv.g1,iv.g2,iv.lo,?_,?_,λk k2 k5=> ?_,λk k2 k5=> ?_,λv=> ?_,λv=> ?_,λv v1 v2=> ?_,iv.mm,iv.mo,iv.q3,iv.q4⟩
 ·rw[Fo,if_neg ()];exact iv.u1
 ·rw[Fo,if_neg ()];exact iv.u2
 ·rw[Fo]
  split
  ·rfl
  ·exact iv.ux k k2 k5
 ·rw[BW]
  split
  ·unfold BO.led
   split
   ·exact iv.ro i h2 h5
   ·rw[iv.l2];exact List.take_prefix _ _
  ·exact iv.ro k k2 k5
 ·rw[JP,if_neg (ne v)];exact iv.p1 v
 ·rw[JP]
  unfold tv
  rw[gvD]
  by_cases z:v=p.c+11*i
  ·subst z
   have:=iv.p2 (p.c+11*i)
   rw[if_neg ()]at this
   rw[if_pos rfl,if_neg (),if_pos rfl,<-this]
   rfl
  ·rw[if_neg z,if_neg (λe:(v,p.T2)=_=>z (congrArg Prod.fst e))]
   exact iv.p2 v
 ·rw[JP,if_neg (ne v)];exact iv.px v v1 v2
theorem akg(x y:Nat):(if x<y then(y:Int)else(x:Int))=((max x y:Nat):Int):=by
 by_cases z:x<y
 ·rw[if_pos z];omega
 ·rw[if_neg z];omega
theorem Lg.told(g:Lg n j s)(x q:Nat)(T:Int):Lg (n+1) j (s.told x T q):=⟨wX g.tm,wP g.vt,wP g.ak,wX g.ro,wX g.pl,wX g.hd,g.se,g.ln,g.mr⟩
theorem abF(l:CT M a s p t1 t2 m)(cn:Cn p)(iv:Iv p s t1 t2 m')(g:Lg n j s)(hn:n<=700)(ht:t2.length<=1000)(h2:2<=i)(h5:i<5)(hq:q<=p.L2.length):
  ∃M',DW [.ref a.b,.ref p.d2,.int ((p.c+11*i:Nat):Int),.int p.T2,.int (q:Int)] M= .ok .non M'/\CT M' a (s.told (p.c+11*i) p.T2 q) p t1 (gp t2 (p.c+11*i) (max q (tv t2 (p.c+11*i)))) m:=by
 have pr:=iv.ro i h2 h5
 obtain⟨M1,e1,x1⟩:=Z8 l.b (g.ak1 ()) (by rw[iv.br];rfl) (p:=q) (k:=p.c+11*i) (t:=p.T2) (by have:=cn.T1;have:=cn.T12;omega) iv.h2 () (by rw[iv.ux i h2 h5];exact Int.le_refl _) (by rw[iv.l2];exact hq) (by rw[iv.l2];exact cn.k2)
  (λe he=>cn.k2 e (pr.subset he)) (λz=>by
   rw[iv.l2]at z ⊢
   obtain⟨t,ht⟩:=pr
   rw[<-ht]at z ⊢
   rw[List.take_append]at z ⊢
   rw[List.length_append]at z
   have:(t.take (q - (s.row (p.c+11*i)).length))=[]:=List.length_eq_zero_iff.mp ()
   rw[this,List.append_nil])
 have l1:=l.bx x1
 have e1':aN [.ref a.b,.tup [.str "told",.int ((p.c+11*i:Nat):Int),.int p.T2,.int (q:Int),.int 0]] M= .ok .non M1:=e1
 have gt:=Mf l1.d2 (p.c+11*i)
 obtain⟨M2,hM2⟩:∃M2:Mem,M2=M1.set p.d2 (.dk (ge kN nD (gp t2 (p.c+11*i) (max q (tv t2 (p.c+11*i)))))):=⟨_,rfl⟩
 have pt:CQ M1 (.ref p.d2) (.int ((p.c+11*i:Nat):Int)) (.int ((max q (tv t2 (p.c+11*i)):Nat):Int))=some M2:=by
  rw[hM2]
  exact WW l1.d2 _ _ ht
 refine⟨M2,?_,l1.u2 (by rw[hM2];exact Ch.set rfl) (by rw[hM2];exact ir l1.d2)⟩
 simp only[DW,El]
 refine akT (e':=[some (.ref a.b),some (.ref p.d2),some (.int ((p.c+11*i:Nat):Int)),some (.int p.T2),some (.int (q:Int))]) ?_
 simp only[bV,cj,bU]
 obtain⟨X,hX⟩:∃X:Int,X=((p.c+11*i:Nat):Int):=⟨_,rfl⟩
 rw[<-hX]at e1' gt pt ⊢
 refine fL (e':=[some (.ref a.b),some (.ref p.d2),some (.int X),some (.int p.T2),some (.int (q:Int))]) (M':=M1) (by simp[l.b.Fb (m:= "take") rfl,e1']) ?_
 have mx:=akg q (tv t2 (p.c+11*i))
 obtain⟨Y,hY⟩:∃Y:Int,Y=((max q (tv t2 (p.c+11*i)):Nat):Int):=⟨_,rfl⟩
 rw[<-hY]at mx pt
 simp only[Yl,ahr,abC,abA]
 simp[lZ l1.d2,gt,mx,pt]
def stl(s:BO)(T:Int)(q:Nat):BO:={s with cnt:=s.cnt+1,mr:=gp s.mr T q}
theorem aaf:(stl s T q).mark u=if u=T then q else s.mark u:=by
 show(gv (gp s.mr T q) u).getD 0=_
 rw[gvD];rfl
theorem Iv.stl(iv:Iv p s t1 t2 m)(q:Nat):Iv p (stl s p.T2 q) t1 t2 q:=
 ⟨iv.hS,iv.br,iv.h1,iv.h2,iv.g1,iv.g2,iv.lo,iv.u1,iv.u2,iv.ux,iv.ro,iv.p1,iv.p2,iv.px,by rw[aaf,if_pos rfl],λt ht=>by rw[aaf,if_neg ht];exact iv.mo t ht,iv.q3,iv.q4⟩
theorem Iv.kp(cn:Cn p)(iv:Iv p s t1 t2 m):Kp s:=by
 constructor
 ·intro t e he
  cases z:gv s.ln t with
  | none=>unfold BO.line at he;rw[z]at he;cases he
  | some x=>
   rcases iv.lo t (by rw[z];rfl)with rfl | rfl
   ·rw[iv.l1]at he;exact cn.k1 e he
   ·rw[iv.l2]at he;exact cn.k2 e he
 ·intro t u htu ht hu
  rcases iv.lo t ht with rfl | rfl
  ·rw[iv.mo _ (by have:=cn.T12;omega)];rfl
  ·rcases iv.lo u hu with rfl | rfl
   ·have:=cn.T12;omega
   ·rfl
def LP.T(p:LP)(b:Bool):Int:=if b=true then p.T2 else p.T1
def LP.l(p:LP)(b:Bool):Nat:=if b=true then p.l2 else p.l1
def LP.d(p:LP)(b:Bool):Nat:=if b=true then p.d2 else p.d1
def LP.k(p:LP)(b:Bool):Nat:=if b=true then p.c+11 else p.c
def LP.L(p:LP)(b:Bool):List En:=if b=true then p.L2 else p.L1
theorem Vl(l:CT M a s p t1 t2 m)(cn:Cn p)(iv:Iv p s t1 t2 m)(g:Lg n j s)(hn:n<=700)(hj:j<=50)(b:Bool){q V:Nat}(hV:Sub p.c V):
  ∃M' s' m',d8 [.ref a.b,pS (p.T b) q V] M= .ok (.bl (!s.mZ (p.k b) (p.T b) q V)) M'/\CT M' a s' p t1 t2 m/\Iv p s' t1 t2 m'/\Lg n (j+1) s'/\((s.mZ (p.k b) (p.T b) q V=true/\b=true/\m'=q)\/(s.mZ (p.k b) (p.T b) q V=false/\m'=m)):=by
 have vl:=hV.lt cn.sg.hc
 have bn:LR s.br=true:=by rw[iv.br];rfl
 have gl:∀{x:Nat},x<=j->x<=1000:=λh=>()
 have gs:Lg n (j+1) s:=⟨g.tm,g.vt,g.ak,g.ro,g.pl,g.hd,wP g.se,wP g.ln,wP g.mr⟩
 cases b with
 | false=>
  have no:=ahj cn iv q V
  rcases Wf l.b bn (gl g.mr) (by have:=g.ln;omega) (p:=q) (V:=V) cn.T1 iv.h1 iv.u1 vl (by rw[iv.l1,iv.hS,rl0 cn.r1];exact cn.sg.lt) (by rw[iv.l1,iv.hS,rl0 cn.r1];exact Nat.two_pow_pos 60) (λz=>by rw[no]at z;cases z) (by rw[iv.g1];rfl)with⟨z,_⟩ | ⟨z,M1,e1,x1⟩
  ·rw[no]at z;cases z
  ·refine⟨M1,s,m,?_,l.bx x1,iv,gs,.inr ⟨z,rfl⟩⟩
   show d8 [.ref a.b,pS p.T1 q V] M= .ok (.bl (!s.mZ p.c p.T1 q V)) M1
   rw[z]
   exact aaM l.b e1
 | true=>
  have i2:=iv.stl q
  have kp:=i2.kp cn
  rcases Wf l.b bn (gl g.mr) (by have:=g.ln;omega) (p:=q) (V:=V) (by have:=cn.T1;have:=cn.T12;omega) iv.h2 iv.u2 vl (by rw[iv.l2,iv.hS,cn.r2];exact cn.sg.lt) (by rw[iv.l2,iv.hS];exact cn.r3.lt cn.sg.hc) (λ_=>⟨kp.ok,kp.kp⟩) (by rw[iv.g2];rfl)with⟨z,M1,e1,x1⟩ | ⟨z,M1,e1,x1⟩
  ·refine⟨M1,stl s p.T2 q,q,?_,l.bx x1,i2,⟨g.tm,g.vt,g.ak,g.ro,g.pl,g.hd,wP g.se,wP g.ln,wX g.mr⟩,.inl ⟨z,rfl,rfl⟩⟩
   show d8 [.ref a.b,pS p.T2 q V] M= .ok (.bl (!s.mZ (p.c+11) p.T2 q V)) M1
   rw[z]
   exact adC l.b e1
  ·refine⟨M1,s,m,?_,l.bx x1,iv,gs,.inr ⟨z,rfl⟩⟩
   show d8 [.ref a.b,pS p.T2 q V] M= .ok (.bl (!s.mZ (p.c+11) p.T2 q V)) M1
   rw[z]
   exact aaM l.b e1
end
section
variable{M M':Mem}{a:BA}{s s':BO}{p:LP}{t1 t2 t2':List (Nat×Nat)}{m m':Nat}{n j:Nat}{ns:List Int}{tx:D}{sz:Int}{v14 Um V_ Hg E_:Option D}
def lvE(ns:List Int)(a:BA)(p:LP)(tx:D)(sz:Int)(v14 Um V_ Hg E_:Option D):Sl:=[some (.cl (ns.map D.int)),some (.ref p.hl),some (.int (p.S:Int)),some (.tup [.int (hf (!p.r3)),.int (hf (!p.r4))]),some tx,some (.ref a.b),some (.int p.T1),some (.ref p.l1),some (.int p.T2),some (.int sz),some (.ref p.l2),some (.ref p.dl),some (.ref p.dt),some (.ref p.dm),v14,Um,V_,Hg,E_]
theorem aoC{s t:MS}{e e':Sl}(h:s e M= .cont e' M'):aQ s t e M= .cont e' M':=by rw[FW,h,aal]
theorem CT.ixl(l:CT M a s p t1 t2 m)(cn:Cn p)(b:Bool):a_ (.ref p.dl) (.int (p.T b)) M= .ok (.ref (p.l b)) M:=by
 have g:=gv2 (x:=p.l1) (y:=p.l2) cn.T12
 cases b
 ·exact Vr l.dl g.1
 ·exact Vr l.dl g.2
theorem CT.ixt(l:CT M a s p t1 t2 m)(cn:Cn p)(b:Bool):a_ (.ref p.dt) (.int (p.T b)) M= .ok (.ref (p.d b)) M:=by
 have g:=gv2 (x:=p.d1) (y:=p.d2) cn.T12
 cases b
 ·exact Vr l.dt g.1
 ·exact Vr l.dt g.2
def mB(m:Nat)(b:Bool):Nat:=if b=true then m else 0
theorem CT.ixm(l:CT M a s p t1 t2 m)(cn:Cn p)(b:Bool):a_ (.ref p.dm) (.int (p.T b)) M= .ok (.int (mB m b:Nat)) M:=by
 have g:=gv2 (x:=(0:Nat)) (y:=m) cn.T12
 cases b
 ·exact Vr l.dm g.1
 ·exact Vr l.dm g.2
theorem CT.lst(l:CT M a s p t1 t2 m)(b:Bool):M[p.l b]? = some (.lst ((p.L b).map oK)):=by
 cases b
 ·exact l.e1
 ·exact l.e2
def tB(t1 t2:List (Nat×Nat))(b:Bool):List (Nat×Nat):=if b=true then t2 else t1
theorem CT.tld(l:CT M a s p t1 t2 m)(b:Bool):M[p.d b]? = some (.dk (ge kN nD (tB t1 t2 b))):=by
 cases b
 ·exact l.d1
 ·exact l.d2
theorem Iv.due(cn:Cn p)(iv:Iv p s t1 t2 m)(b:Bool)(q V:Nat):ldB (p.L b) p.S (tB t1 t2 b) (mB m b) p.r3 (!p.r4) (p.T b) q V=s.mZ (p.k b) (p.T b) q V:=by
 rw[<-iv.q3,<-iv.q4,<-iv.hS]
 cases b
 ·exact acp iv.l1 cn.n1 (iv.mo _ (by have:=cn.T12;show p.T1≠p.T2;omega)) iv.p1 (by show(jt p.L1 s.S).1≠0;rw[iv.hS,rl0 cn.r1];exact cn.sg.ne)
 ·exact acp iv.l2 cn.n2 iv.mm iv.p2 (by show(jt p.L2 s.S).1≠0;rw[iv.hS,cn.r2];exact cn.sg.ne)
theorem akA(l:CT M a s p t1 t2 m)(x:Int):∃b:Bool,cu (aC a_ (A_ (au (aq 8) (au (aq 8) (au (aq 8) (au (aq 6) aF))))) (aC jj (aC mz (aq 14) (mC (.int 2))) (mC (.int 4)))) (gN 15) (lvE ns a p tx sz (some (.int x)) Um V_ Hg E_) M
  = .next (lvE ns a p tx sz (some (.int x)) (some (.int (p.T b))) V_ Hg E_) (M++[.lst [.int p.T2,.int p.T2,.int p.T2,.int p.T1]]):=by
 obtain⟨M1,hM1⟩:∃M1:Mem,M1=M++[.lst [.int p.T2,.int p.T2,.int p.T2,.int p.T1]]:=⟨_,rfl⟩
 have so:M1[M.length]? = some (.lst [.int p.T2,.int p.T2,.int p.T2,.int p.T1]):=by rw[hM1];exact bL
 have dv:mz (.int x) (.int 2) M1= .ok (.int (x / 2)) M1:=qH () ()
 have md:jj (.int (x / 2)) (.int 4) M1= .ok (.int (x / 2 % 4)) M1:=jA ()
 obtain⟨y,hy⟩:∃y,y=x / 2 % 4:=⟨_,rfl⟩
 have h:∃b:Bool,a_ (.ref M.length) (.int y) M1= .ok (.int (p.T b)) M1:=by
  have:y=0\/y=1\/y=2\/y=3:=()
  rcases this with rfl | rfl | rfl | rfl
  ·exact⟨true,jr so (by decide) rfl⟩
  ·exact⟨true,jr so (by decide) rfl⟩
  ·exact⟨true,jr so (by decide) rfl⟩
  ·exact⟨false,jr so (by decide) rfl⟩
 obtain⟨b,e⟩:=h
 rw[<-hy]at md
 refine⟨b,?_⟩
 rw[<-hM1]
 simp only[lvE]
 simp[<-hM1,dv,md,e]
theorem akz(l:CT M a s p t1 t2 m)(cn:Cn p)(b:Bool)(x:Int):∃q:Nat,cu (aC jj (aC mz (aq 14) (mC (.int 8))) (aC tu (Bb jz (au (aC a_ (aq 11) (aq 15)) aF)) (mC (.int 2)))) (gN 16) (lvE ns a p tx sz (some (.int x)) (some (.int (p.T b))) V_ Hg E_) M
  = .next (lvE ns a p tx sz (some (.int x)) (some (.int (p.T b))) (some (.int (q:Int))) Hg E_) M:=by
 have dv:mz (.int x) (.int 8) M= .ok (.int (x / 8)) M:=qH () ()
 have ln:jz [.ref (p.l b)] M= .ok (.int ((p.L b).length:Int)) M:=by rw[qG (l.lst b)];simp
 have md:jj (.int (x / 8)) (.int (((p.L b).length:Int)+2)) M= .ok (.int (x / 8 % (((p.L b).length:Int)+2))) M:=jA ()
 obtain⟨q,hq⟩:∃q:Nat,x / 8 % (((p.L b).length:Int)+2)=(q:Int):=⟨(x / 8 % (((p.L b).length:Int)+2)).toNat,by
  have:=Int.emod_nonneg (x / 8) (b:=((p.L b).length:Int)+2) ()
  omega⟩
 rw[hq]at md
 refine⟨q,?_⟩
 simp only[lvE]
 simp[dv,l.ixl cn b,ln,md]
theorem Ub(h:bQ M a s)(t:Int):rR [.ref a.b,.int t] M= .ok (.int (s.mark t:Nat)) M:=by
 simp only[rR,yO]
 simp[h.Xr,h.gq (m:= "mark") rfl,Cg h t]
theorem ae2(h:bQ M a s):tR [.ref a.b] M= .ok s.br M:=by
 simp only[tR,uh]
 simp[h.fbr]
structure acM(ns:List Int)(a:BA)(p:LP)(tx:D)(sz:Int)(t1:List (Nat×Nat))(n j:Nat)(i:Nat)(e:Sl)(M:Mem):Prop where
 h:∃s t2 m v14 Um V_ Hg E_,e=lvE ns a p tx sz v14 Um V_ Hg E_/\CT M a s p t1 t2 m/\Iv p s t1 t2 m/\Lg (n+i) (j+i) s/\t2.length<=10+i
theorem Lg.one(g:Lg n j s):Lg (n+1) (j+1) s:=⟨wP g.tm,wP g.vt,wP g.ak,wP g.ro,wP g.pl,wP g.hd,wP g.se,wP g.ln,wP g.mr⟩
theorem Lg.oj(g:Lg n j s):Lg n (j+1) s:=⟨g.tm,g.vt,g.ak,g.ro,g.pl,g.hd,wP g.se,wP g.ln,wP g.mr⟩
theorem Lg.on(g:Lg n j s):Lg (n+1) j s:=⟨wP g.tm,wP g.vt,wP g.ak,wP g.ro,wP g.pl,wP g.hd,g.se,g.ln,g.mr⟩
theorem ac6{i q:Nat}{x:Int}(l:CT M a s p t1 t2 m)(cn:Cn p)(iv:Iv p s t1 t2 m)(g:Lg (n+i) (j+i) s)(hn:n+i<=600)(ht:t2.length<=10+i)(hi:i<40)(z:x % 2=0):
  ∃e' M',GJ (lvE ns a p tx sz (some (.int x)) Um (some (.int (q:Int))) Hg E_) M= .cont e' M'/\acM ns a p tx sz t1 n j (i+1) e' M':=by
 have md:∀(z j:Int) (M:Mem),0<j->jj (.int z) (.int j) M= .ok (.int (z % j)) M:=λz j M h=>jA h
 have dv:∀(z j:Int) (M:Mem),0<j->j<1073741824->mz (.int z) (.int j) M= .ok (.int (z / j)) M:=λz j M h h'=>qH h h'
 have ln:jz [.ref p.l2] M= .ok (.int (p.L2.length:Int)) M:=by rw[qG l.e2];simp
 simp only[GJ,Xk]
 by_cases zq:q<=p.L2.length
 ·obtain⟨k,hk⟩:∃k:Nat,2+x / 80 % 3=(k:Int):=⟨(2+x / 80 % 3).toNat,()⟩
  obtain⟨M1,e1,l1⟩:=abF l cn iv g () () (i:=k) (q:=q) () () zq
  have ix:=YZ (i:=k) l.hs ()
  have it:a_ (.ref p.dt) (.int p.T2) M= .ok (.ref p.d2) M:=l.ixt cn true
  refine⟨lvE ns a p tx sz (some (.int x)) Um (some (.int (q:Int))) Hg E_,M1,?_,_,_,m,_,_,_,_,_,rfl,l1,iv.told cn () (),(g.told _ _ _).oj,yY (wX (zaa _)) ()⟩
  obtain⟨X,hX⟩:∃X:Int,X=((p.c+11*k:Nat):Int):=⟨_,rfl⟩
  rw[<-hX]at e1 ix
  refine ahP (M':=M) (by simp[lvE,md,z]) (fL (e':=lvE ns a p tx sz (some (.int x)) Um (some (.int (q:Int))) Hg E_) (M':=M1) (ahP (M':=M) (by simp[lvE,ln,zq]) ?_) rfl)
  simp only[lvE]
  simp[it,md,dv,hk,ix,e1]
 ·refine⟨lvE ns a p tx sz (some (.int x)) Um (some (.int (q:Int))) Hg E_,M,?_,s,t2,m,_,_,_,_,_,rfl,l,iv,g.one,()⟩
  exact ahP (M':=M) (by simp[lvE,md,z]) (fL (e':=lvE ns a p tx sz (some (.int x)) Um (some (.int (q:Int))) Hg E_) (M':=M) (aoB (M':=M) (by simp[lvE,ln,zq]) rfl) rfl)
theorem Cn.b1(cn:Cn p)(b:Bool):(jt (p.L b) p.S).1<2 ^ 60:=by
 cases b
 ·show(jt p.L1 p.S).1<_
  rw[rl0 cn.r1];exact cn.sg.lt
 ·show(jt p.L2 p.S).1<_
  rw[cn.r2];exact cn.sg.lt
theorem Cn.b2(cn:Cn p)(b:Bool):(jt (p.L b) p.S).2<2 ^ 60:=by
 cases b
 ·show(jt p.L1 p.S).2<_
  rw[rl0 cn.r1];exact Nat.two_pow_pos 60
 ·exact cn.r3.lt cn.sg.hc
theorem gp2{A B:Int}{x y z:Nat}(h:A<B):gp [(A,x),(B,y)] B z=[(A,x),(B,z)]:=by
 have:¬A=B:=()
 simp[gp,this]
theorem ac7{i q:Nat}{x:Int}{b:Bool}(l:CT M a s p t1 t2 m)(cn:Cn p)(iv:Iv p s t1 t2 m)(g:Lg (n+i) (j+i) s)(hn:n+i<=600)(hj:j+i<=50)(ht:t2.length<=10+i):
  ∃e' M',aQ (cu (gw (au (mC (.str "settle")) (au (aq 15) (au (aq 16) (au (bG tH 4 [] (au (aC mz (aq 14) (mC (.int 80))) (au (aq 1) (au (aC a_ (aq 12) (aq 15)) (au (aq 16) aF))))) aF))))) (gN 17))
   (aQ (cu (bG wO 6 [] (au (aq 17) (au (aC a_ (aq 11) (aq 15)) (au (aq 2) (au (aC a_ (aq 12) (aq 15)) (au (aC a_ (aq 13) (aq 15)) (au (aq 3) aF))))))) (gN 18))
   (aQ Ka (aQ J_ (aQ J9 J8)))) (lvE ns a p tx sz (some (.int x)) (some (.int (p.T b))) (some (.int (q:Int))) Hg E_) M= .next e' M'/\acM ns a p tx sz t1 n j (i+1) e' M':=by
 have dv:mz (.int x) (.int 80) M= .ok (.int (x / 80)) M:=qH () ()
 obtain⟨V,e1,sV⟩:=abH (p:=q) cn.sg.hc l.hs (l.tld b) (x / 80)
 have e2:=aeq (S:=p.S) (m:=mB m b) (p:=q) (V:=V) (T:=p.T b) (r3:=p.r3) (b:= !p.r4) (l.lst b) (l.tld b) (cn.b1 b) (cn.b2 b)
 rw[iv.due cn b q V]at e2
 obtain⟨M1,s1,m1,e3,l1,i1,g1,alt⟩:=Vl l cn iv g () hj b (q:=q) sV
 obtain⟨Du,hD⟩:∃Du,Du=s.mZ (p.k b) (p.T b) q V:=⟨_,rfl⟩
 rw[<-hD]at e2 e3 alt
 obtain⟨E,hE⟩:∃E,E=lvE ns a p tx sz (some (.int x)) (some (.int (p.T b))) (some (.int (q:Int))) (some (pS (p.T b) q V)) (some (.bl Du)):=⟨_,rfl⟩
 have a1:cu (gw (au (mC (.str "settle")) (au (aq 15) (au (aq 16) (au (bG tH 4 [] (au (aC mz (aq 14) (mC (.int 80))) (au (aq 1) (au (aC a_ (aq 12) (aq 15)) (au (aq 16) aF))))) aF))))) (gN 17) (lvE ns a p tx sz (some (.int x)) (some (.int (p.T b))) (some (.int (q:Int))) Hg E_) M
   = .next (lvE ns a p tx sz (some (.int x)) (some (.int (p.T b))) (some (.int (q:Int))) (some (pS (p.T b) q V)) E_) M:=by
  simp only[lvE]
  simp[dv,l.ixt cn b,e1,pS]
 have a2:cu (bG wO 6 [] (au (aq 17) (au (aC a_ (aq 11) (aq 15)) (au (aq 2) (au (aC a_ (aq 12) (aq 15)) (au (aC a_ (aq 13) (aq 15)) (au (aq 3) aF))))))) (gN 18) (lvE ns a p tx sz (some (.int x)) (some (.int (p.T b))) (some (.int (q:Int))) (some (pS (p.T b) q V)) E_) M
   = .next E M:=by
  simp only[hE,lvE]
  simp[l.ixl cn b,l.ixt cn b,l.ixm cn b,e2]
 have a3:Ka E M= .next E M1:=by
  simp only[Ka,hE,lvE]
  simp[e3]
 have a4:∃M2,J_ E M1= .next E M2/\CT M2 a s1 p t1 t2 m1:=by
  simp only[J_,hE,lvE]
  rcases alt with⟨rfl,rfl,rfl⟩ | ⟨rfl,rfl⟩
  ·have pt:=Sd (g:=nD) l1.dm p.T2 m1 (show 2<=1000 by decide)
   rw[gp2 cn.T12]at pt
   have pt':CQ M1 (.ref p.dm) (.int (p.T true)) (.int (m1:Int))=some _:=pt
   exact⟨_,by simp[pt'],l1.um (Ch.set rfl) (ir l1.dm)⟩
  ·exact⟨M1,by simp,l1⟩
 obtain⟨M2,a4,l2⟩:=a4
 have m1':a_ (.ref p.dm) (.int p.T1) M2= .ok (.int 0) M2:=l2.ixm cn false
 have m2':a_ (.ref p.dm) (.int p.T2) M2= .ok (.int (m1:Int)) M2:=l2.ixm cn true
 have b1:=Ub l2.b p.T1
 rw[i1.mo _ (by have:=cn.T12;omega)]at b1
 have b2:=Ub l2.b p.T2
 rw[i1.mm]at b2
 have bk:=ae2 l2.b
 rw[i1.br]at bk
 have a5:J9 E M2= .next E M2:=by
  simp only[J9,hE,lvE]
  simp[l2.b.Fb (m:= "broken") rfl,bk,l2.b.Fb (m:= "mark") rfl,b1,m1']
 have a6:J8 E M2= .next E M2:=by
  simp only[J8,hE,lvE]
  simp[l2.b.Fb (m:= "mark") rfl,b2,m2']
 exact⟨_,M2,fL a1 (fL a2 (fL a3 (fL a4 (fL a5 a6)))),s1,t2,m1,_,_,_,_,_,hE,l2,i1,g1.on,()⟩
theorem ai6(cn:Cn p)(hn:n<=500)(hj:j<=10)(hc:p.cs.length<=40)(hd:(p.cs.map D.int)[i]? = some d)(h:acM ns a p tx sz t1 n j i e M):∃e1,gN 14 d e=some e1/\(JQ e1 M).to (acM ns a p tx sz t1 n j (i+1)) λ_ _=>False:=by
 obtain⟨s,t2,m,v14,Um,V_,Hg,E_,rfl,l,iv,g,ht⟩:=h
 rw[zal,Option.map_eq_some_iff]at hd
 obtain⟨x,hx,rfl⟩:=hd
 have hi:i<40:=yA (List.getElem?_eq_some_iff.mp hx).1 hc
 refine⟨lvE ns a p tx sz (some (.int x)) Um V_ Hg E_,rfl,?_⟩
 obtain⟨b,a1⟩:=akA (ns:=ns) (tx:=tx) (sz:=sz) (Um:=Um) (V_:=V_) (Hg:=Hg) (E_:=E_) l x
 have l1:=l.gr (Gr.app (xs:=[MO.lst [.int p.T2,.int p.T2,.int p.T2,.int p.T1]]))
 obtain⟨q,a2⟩:=akz (ns:=ns) (tx:=tx) (sz:=sz) (V_:=V_) (Hg:=Hg) (E_:=E_) l1 cn b x
 have md:∀(z j:Int) (M:Mem),0<j->jj (.int z) (.int j) M= .ok (.int (z % j)) M:=λz j M h=>jA h
 simp only[JQ]
 by_cases z:x % 2=0
 ·obtain⟨e',M',a3,inv⟩:=ac6 (ns:=ns) (tx:=tx) (sz:=sz) (Um:=some (.int (p.T b))) (Hg:=Hg) (E_:=E_) (q:=q) l1 cn iv g () ht hi z
  rw[fL a1 (fL a2 (aoC a3))]
  exact inv
 ·obtain⟨e',M',a4,inv⟩:=ac7 (ns:=ns) (tx:=tx) (sz:=sz) (Hg:=Hg) (E_:=E_) (q:=q) (x:=x) (b:=b) l1 cn iv g () () ht
  have a3:GJ (lvE ns a p tx sz (some (.int x)) (some (.int (p.T b))) (some (.int (q:Int))) Hg E_) (M++[.lst [.int p.T2,.int p.T2,.int p.T2,.int p.T1]])= .next (lvE ns a p tx sz (some (.int x)) (some (.int (p.T b))) (some (.int (q:Int))) Hg E_) (M++[.lst [.int p.T2,.int p.T2,.int p.T2,.int p.T1]]):=by
   simp only[GJ,lvE]
   simp[md,z]
  rw[fL a1 (fL a2 (fL a3 a4))]
  exact inv
end
def cell(ns:List Int)(k:Nat):Int:=ns.getD k 0
theorem XM(ns:List Int)(k:Nat){kk:Int}(hk:kk=k):b8 [.cl (ns.map D.int),.int kk] M= .ok (.int (cell ns k)) M:=by
 subst hk
 simp only[b8,vQ,yW]
 by_cases h:k<ns.length
 ·have e:a_ (.cl (ns.map D.int)) (.int k) M= .ok (.int ns[k]) M:=ags () (by simp[h])
  simp[h,e,cell]
 ·simp[h,cell]
theorem XF{α β:Type}(f:α->β)(xs:List α)(lo hi:Option Int):cut (xs.map f) lo hi=(cut xs lo hi).map f:=by
 unfold cut
 rw[zam,List.map_take,List.map_drop]
section
variable{M M':Mem}{a:BA}{s s':BO}{c S w k hl ll:Nat}{T' aqH:Int}{L L0:List En}{n j:Nat}{e:Sl}
theorem aaH:∀(ys xs:List En),JW (xs++ys)=0->JW xs=0
 | [],xs,h=>by rw[List.append_nil]at h;exact h
 | y::ys,xs,h=>by
  have e:xs++y::ys=(xs++[y])++ys:=by simp
  rw[e]at h
  have q:=aaH ys (xs++[y]) h
  rw[JV]at q
  split at q
  ·cases q
  ·exact q
theorem WD(h:JW L=0)(k:Nat):JW (L.take k)=0:=aaH (L.drop k) _ (by rw[List.take_append_drop];exact h)
theorem ahZ(h:∀e∈L,0<=e.1):0<=(pL L).1:=by
 unfold pL
 cases z:L.getLast? with
 | none=>exact Int.le_refl _
 | some e=>exact h e (List.mem_of_getLast? z)
theorem ah8{α:Type}{xs:List α}{k:Nat}(h:k<=xs.length):cut xs none (some (k:Int))=xs.take k:=by
 unfold cut
 have e0:HT.a_ xs.length 0 none=0:=rfl
 have e1:HT.a_ xs.length xs.length (some (k:Int))=k:=by
  simp[HT.a_]
  rw[if_neg ()]
  omega
 rw[e0,e1]
 simp
theorem afP(hx:M[x]? = some (.lst (L.map oK)))(hy:M[y]? = some (.lst (L.map oK)))(ok:∀e∈L,JM e):sEq (.ref x) (.ref y) M= .ok (.bl true) M:=by
 obtain⟨ts,_,q⟩:=W7 ok
 have t:∀{l:Nat},M[l]? = some (.lst (L.map oK))->gm M 12 (.ref l)=some (.lst ts):=λ{l} h=>by
  show(match qK M l with | some ds=>(vz (gm M 11) ds).map Dt.lst | none=>none)=_
  rw[dD h]
  show(vz (gm M 11) (L.map oK)).map Dt.lst=_
  rw[q M]
  rfl
 rw[vf (Eh (t hx) (t hy)),wY]
theorem Uc(h:bQ M a s)(hT:s.line T=L):j0 [.ref a.b,.int T] M= .ok (.ref M.length) (M++[.lst (L.map oK)]):=by
 have ls:Wt [esD L] M= .ok (.ref M.length) (M++[.lst (L.map oK)]):=rfl
 have e:=lY h T
 rw[hT]at e
 simp only[j0,yP]
 simp[h.Xr,h.gq (m:= "line") rfl,e,ls]
theorem YT(h:bQ M a s)(g:Lg n j s)(hn:n<=600)(hh:M[hl]? = some (.lst (hv (hds c))))(hb:s.br= .non)(t1:1<=T')(hd:s.head T'=some c)(ht:s.term (c+11)<=T')(hL:s.line T'=L)(ok:∀e∈L,JM e)(r0:s.row (c+11)=[])(x:Int):
  ∃(k:Nat) (M':Mem),k<=L.length/\pB [.ref a.b,.ref hl,.int T',.int (L.length:Int),.int x] M= .ok (.int (k:Int)) M'/\Bx M a (s.told (c+11) T' k) M'/\(s.told (c+11) T' k).row (c+11)=L.take k:=by
 obtain⟨k,hk⟩:∃k:Nat,x % ((L.length:Int)+1)=(k:Int):=⟨(x % ((L.length:Int)+1)).toNat,by
  have:=Int.emod_nonneg x (b:=(L.length:Int)+1) ()
  omega⟩
 have kl:k<=L.length:=by
  have:=Int.emod_lt_of_pos x (b:=(L.length:Int)+1) ()
  omega
 obtain⟨M1,e1,x1⟩:=Z8 h (g.ak1 ()) (by rw[hb];rfl) (p:=k) (k:=c+11) t1 hd () ht (by rw[hL];exact kl) (by rw[hL];exact ok) (by rw[r0];intro e he;cases he) (λz=>by
  rw[r0,hL]at z ⊢
  rw[List.take_nil]at z ⊢
  exact(List.length_eq_zero_iff.mp z.symm).symm)
 refine⟨k,M1,kl,?_,x1,?_⟩
 ·have e1':aN [.ref a.b,.tup [.str "told",.int ((c+11:Nat):Int),.int T',.int (k:Int),.int 0]] M= .ok .non M1:=e1
  have ix:a_ (.ref hl) (.int 1) M= .ok (.int ((c+11:Nat):Int)) M:=YZ (i:=1) hh ()
  have md:∀M:Mem,jj (.int x) (.int ((L.length:Int)+1)) M= .ok (.int (k:Int)) M:=λM=>by rw[jA (),hk]
  obtain⟨X,hX⟩:∃X:Int,X=((c+11:Nat):Int):=⟨_,rfl⟩
  rw[<-hX]at e1' ix
  simp only[pB,pO]
  simp[h.Fb (m:= "take") rfl,ix,md,e1']
 ·rw[BW,if_pos rfl]
  unfold BO.led
  rw[r0,hL,List.take_nil]
  split
  ·rename_i z
   exact(List.length_eq_zero_iff.mp z.symm).symm
  ·rfl
end
section
variable{M M':Mem}{a:BA}{s s':BO}{c S:Nat}{e:Sl}
theorem afC(h:M[n]? = some (.lst [x,y])):a_ (.ref n) (.int (hf (!b))) M= .ok (if b=true then x else y) M:=by
 cases b
 ·exact jr h (by decide) rfl
 ·exact jr h (by decide) rfl
def txW(r3 r4:Bool):List Str:=["once","best",if r3=true then "own" else "old",if r4=true then "most" else "half"]
theorem Z0(r3 r4:Bool):JoinOk " " (txW r3 r4)=true/\(Txt.join " " (txW r3 r4)).length<=1000/\Txt.split (Txt.join " " (txW r3 r4)) " " = txW r3 r4:=by
 cases r3<;>cases r4<;>exact⟨by decide +kernel,by decide +kernel,by decide +kernel⟩
theorem two(b:Bool):(if b=true then x else y)=x\/(if b=true then x else y)=y:=by
 cases b
 ·exact .inr rfl
 ·exact .inl rfl
theorem agy(r3 r4:Bool):∃M',gP [.ref M.length,.str (Txt.join " " (txW r3 r4))] (M++[.ins 6 []])= .ok .non M'/\Gr M M'/\M'[M.length]? = some (uz true true r3 r4):=by
 obtain⟨_,j2,j3⟩:=Z0 r3 r4
 obtain⟨M',e,g,o⟩:=R7 (M:=M) j2 j3 ⟨.inl rfl,.inl rfl,two r3,two r4⟩
 refine⟨M',e,g,?_⟩
 rw[o]
 have d1:decide (("once" : Str)= "once")=true:=by decide
 have d2:decide (("best" : Str)= "best")=true:=by decide
 have d3:decide ((if r3=true then("own" : Str)else "old")= "own")=r3:=by cases r3<;>decide
 have d4:decide ((if r4=true then("most" : Str)else "half")= "most")=r4:=by cases r4<;>decide
 rw[d1,d2,d3,d4]
theorem abG(h3:e[3]? = some (some (.tup [.int (hf (!r3)),.int (hf (!r4))]))):∃M',mBM "str" K3 (mC (.str " ")) (au (A_ (au (mC (.str "once")) (au (mC (.str "best")) (au (aC a_ (A_ (au (mC (.str "own")) (au (mC (.str "old")) aF))) (aC a_ (aq 3) (mC (.int 0)))) (au (aC a_ (A_ (au (mC (.str "most")) (au (mC (.str "half")) aF))) (aC a_ (aq 3) (mC (.int 1)))) aF))))) aF) e M
  = .ok (.str (Txt.join " " (txW r3 r4))) M'/\Gr M M':=by
 obtain⟨A,hA⟩:∃A,A=M++[MO.lst [.str "own",.str "old"]]:=⟨_,rfl⟩
 obtain⟨B,hB⟩:∃B,B=A++[MO.lst [.str "most",.str "half"]]:=⟨_,rfl⟩
 obtain⟨E,hE⟩:∃E,E=B++[MO.lst ((txW r3 r4).map D.str)]:=⟨_,rfl⟩
 have gA:Gr M A:=by rw[hA];exact Gr.app
 have gB:Gr A B:=by rw[hB];exact Gr.app
 have gE:Gr B E:=by rw[hE];exact Gr.app
 have v3:∀M:Mem,aq 3 e M= .ok (.tup [.int (hf (!r3)),.int (hf (!r4))]) M:=λM=>fG h3
 have x0:a_ (.ref M.length) (.int (hf (!r3))) A= .ok (.str (if r3=true then "own" else "old")) A:=by
  rw[afC (by rw[hA];exact bL)];split<;>rfl
 have x1:a_ (.ref A.length) (.int (hf (!r4))) B= .ok (.str (if r4=true then "most" else "half")) B:=by
  rw[afC (by rw[hB];exact bL)];split<;>rfl
 have jn:K3 (.str " ") [.ref B.length] E= .ok (.str (Txt.join " " (txW r3 r4))) E:=aax (ws:=txW r3 r4) (by rw[hE];exact bL) (Z0 r3 r4).1
 have ty:∀M:Mem,Wa "str" (.str " ") M=true:=λ_=>rfl
 refine⟨E,?_,gA.trans (gB.trans gE)⟩
 have hE':E=B++[MO.lst [.str "once",.str "best",.str (if r3=true then "own" else "old"),.str (if r4=true then "most" else "half")]]:=hE
 simp[ty,<-hA,v3,x0,<-hB,x1,<-hE',jn]
theorem QL(h:pJ ms e (M++[.dk []])= .ok ps M')(h2:M'[M.length]? = some (.dk []))(hl:ps.length<=15):m_ ms e M= .ok (.ref M.length) (M'.set M.length (.dk (yj [] ps))):=by
 unfold m_
 rw[h,Out.bI]
 simp only[h2,if_pos hl]
theorem abn(h:x≠y):yj [] [(x,u),(y,v)]=[(x,u),(y,v)]:=by
 have:¬x=y:=h
 simp[yj,P_,this]
theorem aoD{α:Type}{g:α->D}{A B:Int}{x y:α}:ge kI g [(A,x),(B,y)]=[(.inl A,g x),(.inl B,g y)]:=rfl
theorem Wo:(M++[o]).set M.length o'=M++[o']:=by simp
theorem acr{mA mx mB my:ME}{A B:Int}{x y:D}{N:Mem}(hN:N=M++[.dk []])(hA:mA e N= .ok (.int A) N)(hx:mx e N= .ok x N)(hB:mB e N= .ok (.int B) N)(hy:my e N= .ok y N)(h:A<B):m_ [(mA,mx),(mB,my)] e M= .ok (.ref M.length) (M++[.dk [(.inl A,x),(.inl B,y)]]):=by
 subst hN
 have p:pJ [(mA,mx),(mB,my)] e (M++[.dk []])= .ok [(.inl A,x),(.inl B,y)] (M++[.dk []]):=by
  simp[pJ,hA,hx,hB,hy,toKey]
 rw[QL p bL (show 2<=15 by decide),abn (by intro z;injection z;omega),Wo]
theorem ak_(hN:N=M++[.dk []])(hA:mA e N= .ok (.int A) N)(hx:mx e N= .ok x N):m_ [(mA,mx)] e M= .ok (.ref M.length) (M++[.dk [(.inl A,x)]]):=by
 subst hN
 have p:pJ [(mA,mx)] e (M++[.dk []])= .ok [(.inl A,x)] (M++[.dk []]):=by
  simp[pJ,hA,hx,toKey]
 rw[QL p bL (show 1<=15 by decide),Wo]
 rfl
theorem ak9{m6 m8 m9:ME}{hl k:Nat}{A B:Int}(hh:M[hl]? = some (.lst (hv (hds c))))(h1:e[1]? = some (some (.ref hl)))(h6:∀M,m6 e M= .ok (.int A) M)(h8:∀M,m8 e M= .ok (.int B) M)(h9:∀M,m9 e M= .ok (.int (k:Int)) M)(h:A<B):
  m_ [(m6,m_ [(aC a_ (aq 1) (mC (.int 0)),mC (.int 100)),(aC a_ (aq 1) (mC (.int 1)),m9)]),(m8,m_ [(aC a_ (aq 1) (mC (.int 1)),mC (.int 100))])] e M
  = .ok (.ref M.length) (M++[.dk (ge kI D.ref [(A,M.length+1),(B,M.length+2)]),.dk (ge kN nD [(c,100),(c+11,k)]),.dk (ge kN nD [(c+11,100)])]):=by
 have v1:∀M:Mem,aq 1 e M= .ok (.ref hl) M:=λM=>fG h1
 have gi:∀{N:Mem} (i:Nat),i<5->Gr M N->aC a_ (aq 1) (mC (.int (i:Int))) e N= .ok (.int ((c+11*i:Nat):Int)) N:=λ{N} i hi g=>by
  have:=YZ (g _ _ hh) hi
  simp only[Cj,v1]
  simp only[MK,Ti,Out.bI]
  exact this
 obtain⟨N0,hN0⟩:∃N0:Mem,N0=M++[.dk []]:=⟨_,rfl⟩
 have g0:Gr M N0:=by rw[hN0];exact Gr.app
 obtain⟨N1,Ow⟩:∃N1:Mem,N1=N0++[.dk (ge kN nD [(c,100),(c+11,k)])]:=⟨_,rfl⟩
 have g1:Gr N0 N1:=by rw[Ow];exact Gr.app
 obtain⟨N2,hN2⟩:∃N2:Mem,N2=N1++[.dk (ge kN nD [(c+11,100)])]:=⟨_,rfl⟩
 have a1:m_ [(aC a_ (aq 1) (mC (.int 0)),mC (.int 100)),(aC a_ (aq 1) (mC (.int 1)),m9)] e N0= .ok (.ref N0.length) N1:=by
  refine(acr rfl (gi 0 () (g0.trans Gr.app)) Ti (gi 1 () (g0.trans Gr.app)) (h9 _) ()).trans ?_
  rw[Ow]
  rfl
 have a2:m_ [(aC a_ (aq 1) (mC (.int 1)),mC (.int 100))] e N1= .ok (.ref N1.length) N2:=by
  refine(ak_ rfl (gi 1 () (g0.trans (g1.trans Gr.app))) Ti).trans ?_
  rw[hN2]
  rfl
 have l0:N0.length=M.length+1:=by rw[hN0];simp
 have l1:N1.length=M.length+2:=by rw[Ow];simp[l0]
 rw[l0]at a1
 rw[l1]at a2
 have p:pJ [(m6,m_ [(aC a_ (aq 1) (mC (.int 0)),mC (.int 100)),(aC a_ (aq 1) (mC (.int 1)),m9)]),(m8,m_ [(aC a_ (aq 1) (mC (.int 1)),mC (.int 100))])] e (M++[.dk []])= .ok [(.inl A,.ref (M.length+1)),(.inl B,.ref (M.length+2))] N2:=by
  rw[<-hN0]
  simp only[pJ,h6,Out.bI,a1,h8,a2,toKey]
 have e2:N2=M++[.dk [],.dk (ge kN nD [(c,100),(c+11,k)]),.dk (ge kN nD [(c+11,100)])]:=by rw[hN2,Ow,hN0];simp
 rw[QL p (by rw[e2];simp) (show 2<=15 by decide),abn (by intro z;injection z;omega),e2]
 simp[aoD]
end
section
variable{M M':Mem}{a:BA}{s1 s3:BO}{c S k:Nat}{T1 T2:Int}{L1 L2:List En}{n:Nat}{r3 r4:Bool}
theorem pv1(t1:1<=T1):Pv c S c T1 [] (b0 S true true r3 r4):=
 ⟨rfl,rfl,rfl,rfl,rfl,λ_ _=>rfl,λx _=>(show(0:Int)<T1 by omega),λ_=>rfl,rfl,λt e he=>(by cases he),λe he=>(by cases he),rfl,Int.le_refl _,t1⟩
theorem tk2(h:x∈hds c)(h1:x≠c+11):x∈[c+11*4,c+11*3,c+11*2,c]:=by
 simp[hds]at h ⊢
 omega
theorem pv2(po:Po c S c T1 (b0 S true true r3 r4) s1 L1)(ok:∀e∈L1,JM e)(r0:JW L1=0)(tT:∀e∈L1,0<=e.1/\e.1<=T1)(hr:(s1.told (c+11) T1 k).row (c+11)=L1.take k)(hT:T1<T2)(t1:1<=T1):Pv c S (c+11) T2 (L1.take k) (s1.told (c+11) T1 k):=by
 have ne:T2≠T1:=()
 refine⟨po.hS,po.r1,po.br,po.mr,hr,λx hx=> ?_,λx hx=> ?_,λx=> ?_,?_,λt e he=> ?_,λe he=>ok e (List.mem_of_mem_take he),?_,ahZ λe he=>(tT e (List.mem_of_mem_take he)).1,()⟩
 ·simp at hx
  rw[BW,if_neg (),po.ro,if_neg ()]
  rfl
 ·rw[Fo]
  split
  ·exact hT
  ·rename_i z
   rw[po.ty x (tk2 hx z)];exact hT
 ·have:(s1.told (c+11) T1 k).zQ x T2=s1.zQ x T2:=rfl
  rw[this,po.vt x T2 ne]
  rfl
 ·have:(s1.told (c+11) T1 k).head T2=s1.head T2:=rfl
  rw[this,po.hd,if_neg ne]
  rfl
 ·have q:gv s1.ln t=if t=T1 then some L1 else none:=po.ln t
  have he:e∈(gv s1.ln t).getD []:=he
  rw[q]at he
  split at he
  ·exact ok e he
  ·cases he
 ·rw[rl0 (WD r0 k)]
theorem iv0(hp:p.c=c/\p.S=S/\p.T1=T1/\p.T2=T2/\p.L1=L1/\p.L2=L2/\p.r3=r3/\p.r4=r4)(po:Po c S c T1 (b0 S true true r3 r4) s1 L1)(Ra:Po c S (c+11) T2 (s1.told (c+11) T1 k) s3 L2)(hT:T1<T2):Iv p s3 [(c,100),(c+11,k)] [(c+11,100)] 0:=by
 obtain⟨rfl,rfl,rfl,rfl,rfl,rfl,rfl,rfl⟩:=hp
 have ne:¬p.T1=p.T2:=()
 have ne':¬p.T2=p.T1:=()
 have pl0:∀v t,s1.Hx v t=0:=λv t=>by unfold BO.Hx;rw[po.pl];rfl
 have pl3:∀v t,s3.Hx v t=if(v,t)=(p.c+11,p.T1)then max k 0 else 0:=λv t=>by
  have e:s3.Hx v t=(s1.told (p.c+11) p.T1 k).Hx v t:=by unfold BO.Hx;rw[Ra.pl]
  rw[e,JP,pl0,pl0]
 refine⟨Ra.hS.trans po.hS,Ra.br,?_,?_,?_,?_,λt ht=> ?_,?_,Ra.ty _ (by simp),λi h2 h5=> ?_,λi h2 h5=> ?_,λv=> ?_,λv=> ?_,λv v1 v2=> ?_,?_,λt _=> ?_,Ra.r3.trans po.r3,Ra.r4.trans po.r4⟩
 ·rw[Ra.hd,if_neg ne]
  exact(po.hd _).trans (if_pos rfl)
 ·rw[Ra.hd,if_pos rfl]
 ·rw[Ra.ln,if_neg ne]
  exact(po.ln _).trans (if_pos rfl)
 ·rw[Ra.ln,if_pos rfl]
 ·rw[Ra.ln]at ht
  split at ht
  ·exact .inr ‹_›
  ·have q:gv s1.ln t=if t=p.T1 then some p.L1 else none:=po.ln t
   have ht:(gv s1.ln t).isSome=true:=ht
   rw[q]at ht
   split at ht
   ·exact .inl ‹_›
   ·cases ht
 ·rw[Ra.tn _ (by simp),Fo,if_neg ()]
  exact po.ty _ (by simp)
 ·refine Ra.ty _ ?_
  simp
  omega
 ·rw[Ra.ro,if_neg (),BW,if_neg (),po.ro,if_neg ()]
  exact List.nil_prefix
 ·rw[pl3]
  unfold tv
  rw[l_,l_,ab0]
  by_cases z:v=p.c
  ·rw[if_pos z.symm,if_pos z];rfl
  ·by_cases y:v=p.c+11
   ·subst y
    rw[if_neg (by show ¬p.c=_;omega),if_pos rfl,if_neg (),if_pos rfl]
    simp
   ·rw[if_neg (λe=>z e.symm),if_neg (λe=>y e.symm),if_neg z,if_neg (λe=>y (congrArg Prod.fst e))]
    rfl
 ·rw[pl3,if_neg (λe=>ne' (congrArg Prod.snd e))]
  unfold tv
  rw[l_,ab0]
  by_cases y:v=p.c+11
  ·rw[if_pos y.symm,if_pos y];rfl
  ·rw[if_neg (λe=>y e.symm),if_neg y];rfl
 ·rw[pl3,if_neg (λe=>v2 (congrArg Prod.fst e))]
 ·unfold BO.mark;rw[Ra.mr];rfl
 ·unfold BO.mark;rw[Ra.mr];rfl
theorem Yh(h:ds.length<n):(slots n ds).set ds.length (some d)=slots n (ds++[d]):=by
 unfold slots
 have e:n - ds.length=(n - (ds++[d]).length)+1:=by rw[List.length_append,List.length_singleton];omega
 rw[e,List.replicate_succ,List.map_append,List.set_append_right _ _ (by simp)]
 simp
theorem xg(hk:ds.length=k)(hn:k<n)(h:m (slots n ds) M= .ok d M'):cu m (gN k) (slots n ds) M= .next (slots n (ds++[d])) M':=by
 subst hk
 rw[Wy,h,HF,ae5,afK,Yh hn,Z5]
theorem alb(ns:List Int):(cut ns (some 4) (some 44)).length<=40:=by
 unfold cut
 rw[List.length_take]
 refine yY (Nat.min_le_left _ _) ?_
 simp[HT.a_]
 omega
theorem anq:C_ 0 5=[.int 0,.int 1,.int 2,.int 3,.int 4]:=rfl
def hB(x:Int)(d:D):D:=match d with
 | .int j=> .int (x+11*j)
 | d=>d
theorem abZ(ns:List Int):∃c:Nat,c<16/\t7 none Lr (aC tu (aC jj (bG b8 2 [] (au (aq 1) (au (mC (.int 0)) aF))) (mC (.int 16))) (aC R0 (mC (.int 11)) (aq 0))) [some (.cl (ns.map D.int))] (C_ 0 5) [] M= .ok (.ref M.length) (M++[.lst (hv (hds c))]):=by
 have c0:=XM (M:=M) ns 0 (kk:=0) rfl
 have m16:jj (.int (cell ns 0)) (.int 16) M= .ok (.int (cell ns 0 % 16)) M:=jA ()
 refine⟨(cell ns 0 % 16).toNat,(),?_⟩
 rw[acv (src:=none) (hB (cell ns 0 % 16)) trivial λd hd=>by
  obtain⟨j,hj,rfl⟩:=W6 hd
  have mu:R0 (.int 11) (.int (0+(j:Int))) M= .ok (.int (11*(0+(j:Int)))) M:=RZ (.inl ())
  simp[c0,m16]
  simp at mu
  simp[mu,hB]]
 congr 3
 have:cell ns 0 % 16=((cell ns 0 % 16).toNat:Int):=()
 rw[anq]
 simp only[List.map_cons,List.map_nil,hB,hds,hv]
 congr 1
 simp only[List.cons.injEq,D.int.injEq,and_true]
 refine⟨(),(),(),(),()⟩
theorem ajp(hc:c<16)(sp:Sub c P)(b:∀k,k<5->P.testBit (c+11*k)=decide (Builtin.bitAnd (x / 2 ^ k) 1=1))(hx:x=31\/x=28\/x=29\/x=30):Sg c P:=by
 refine⟨hc,sp,(b 2 ()).trans ?_,(b 3 ()).trans ?_,(b 4 ()).trans ?_⟩<;>rcases hx with rfl | rfl | rfl | rfl<;>rfl
theorem afI(h:y=0\/y=1):∃b:Bool,y=hf (!b):=by
 rcases h with rfl | rfl
 ·exact⟨true,rfl⟩
 ·exact⟨false,rfl⟩
end
section
variable{M:Mem}
theorem ahw(ns:List Int)(hn:ns.length<=63):∃M,afF [.cl (ns.map D.int)] []= .ok (.bl true) M:=by
 have md:∀(z j:Int) (M:Mem),0<j->jj (.int z) (.int j) M= .ok (.int (z % j)) M:=λz j M h=>jA h
 have dv:∀(z j:Int) (M:Mem),0<j->j<1073741824->mz (.int z) (.int j) M= .ok (.int (z / j)) M:=λz j M h h'=>qH h h'
 obtain⟨T,hT⟩:∃T:Int,T=10 ^ 40:=⟨_,rfl⟩
 have hT0:0<T:=by rw[hT];decide
 have pw:∀M:Mem,RX (.int 10) (.int 40) M= .ok (.int T) M:=λM=>by rw[RW ⟨(),(),by decide⟩,hT];rfl
 clear hT
 have ce:∀(M:Mem) (k:Nat),b8 [.cl (ns.map D.int),.int (k:Int)] M= .ok (.int (cell ns k)) M:=λM k=>XM ns k rfl
 have ce0:=λM=>ce M 0
 have ce1:=λM=>ce M 1
 have ce2:=λM=>ce M 2
 have ce3:=λM=>ce M 3
 simp only[Int.cast_ofNat_Int]at ce0 ce1 ce2 ce3
 obtain⟨c,hc,e1⟩:=abZ (M:=[]) ns
 obtain⟨A,hA⟩:∃A:Mem,A=[]++[MO.lst (hv (hds c))]:=⟨_,rfl⟩
 rw[<-hA]at e1
 have hA0:A[0]? = some (.lst (hv (hds c))):=by rw[hA];rfl
 obtain⟨A1,hA1⟩:∃A1:Mem,A1=A++[.lst [.int 31,.int 28,.int 29,.int 30,.int 31]]:=⟨_,rfl⟩
 have gA1:Gr A A1:=by rw[hA1];exact Gr.app
 have so:A1[A.length]? = some (.lst [.int 31,.int 28,.int 29,.int 30,.int 31]):=by rw[hA1];exact bL
 obtain⟨x,hx,ex⟩:∃x:Int,(x=31\/x=28\/x=29\/x=30)/\a_ (.ref A.length) (.int (cell ns 0 / 16 % 5)) A1= .ok (.int x) A1:=by
  have:cell ns 0 / 16 % 5=0\/cell ns 0 / 16 % 5=1\/cell ns 0 / 16 % 5=2\/cell ns 0 / 16 % 5=3\/cell ns 0 / 16 % 5=4:=()
  rcases this with e | e | e | e | e<;>rw[e]
  ·exact⟨31,(),jr so (by decide) rfl⟩
  ·exact⟨28,(),jr so (by decide) rfl⟩
  ·exact⟨29,(),jr so (by decide) rfl⟩
  ·exact⟨30,(),jr so (by decide) rfl⟩
  ·exact⟨31,(),jr so (by decide) rfl⟩
 obtain⟨S,e2,sp,bits⟩:=J6 (M:=A1) (hl:=0) hc (gA1 _ _ hA0) x
 have sg:=ajp hc sp bits hx
 obtain⟨r3,h3⟩:=afI (y:=cell ns 1 % 3 / 2) ()
 obtain⟨r4,h4⟩:=afI (y:=cell ns 1 / 3 % 3 / 2) ()
 obtain⟨A2,e4,g2⟩:=abG (M:=A1) (e:=slots 19 [.cl (ns.map D.int),.ref 0,.int (S:Int),.tup [.int (hf (!r3)),.int (hf (!r4))]]) (r3:=r3) (r4:=r4) rfl
 obtain⟨A3,e5,g3,o3⟩:=agy (M:=A2) r3 r4
 obtain⟨a,C,e6,ab,hb,gC⟩:=acE (M:=A3) (S:=S) o3
 have z0:(0:Nat)<a.b:=by
  rw[ab]
  have:=(gA1.trans (g2.trans g3)).le
  rw[hA]at this
  simp at this
  omega
 have hC0:C[0]? = some (.lst (hv (hds c))):=gC _ _ (g3 _ _ (g2 _ _ (gA1 _ _ hA0)))
 obtain⟨T1,hT1⟩:∃T1:Int,T1=1+cell ns 1 / 9 % T:=⟨_,rfl⟩
 have t1:1<=T1:=by
  have:=Int.emod_nonneg (cell ns 1 / 9) (Int.ne_of_gt hT0)
  omega
 obtain⟨C1,hC1⟩:∃C1:Mem,C1=C++[.lst []]:=⟨_,rfl⟩
 have gC1:Gr C C1:=by rw[hC1];exact Gr.app
 have q0:(0:Nat)<=0:=zaa 0
 obtain⟨s1,L1,D1,e7,b1,c1,l1,po1,g1,n1,ok1,rp1,_,_,tT1⟩:=Om (cell:=cell ns 2) (k:=0) (Bx.gr hb gC1).h (pv1 (c:=c) (S:=S) t1) sg (n:=0) (j:=0) ⟨q0,q0,q0,q0,q0,q0,q0,q0,q0⟩ () () (gC1 _ _ hC0) z0 (ll:=C.length) (by rw[hC1];exact bL) hb.lt rfl () (by decide) rfl (λe he=>by cases he) (λy=>by show([]:List En).length<=50;decide)
 have rp1:=rp1 rfl
 have n1:L1.length<=4:=by simpa using n1
 have ln1:s1.line T1=L1:=by unfold BO.line;rw[po1.ln,if_pos rfl];rfl
 have hD1:D1[0]? = some (.lst (hv (hds c))):=c1.2 _ _ (λz=>z.elim (yX z0) λz=>by have:=hb.lt;have:=hb.bs;omega) (gC1 _ _ hC0)
 obtain⟨T2,hT2⟩:∃T2:Int,T2=T1+1+cell ns 3 / 7 % 3:=⟨_,rfl⟩
 have t12:T1<T2:=()
 obtain⟨k,D2,kl,e9,x9,ajL⟩:=YT (hl:=0) b1 g1 () hD1 po1.br t1 ((po1.hd T1).trans (if_pos rfl)) (by rw[po1.tn _ (by simp)];show(0:Int)<=T1;omega) ln1 ok1 (by rw[po1.ro,if_neg ()];rfl) (cell ns 3)
 have l1':=x9.c.2 _ _ (λz=>Nat.not_lt.mpr z.2 hb.lt) l1
 have hD2:=x9.c.2 _ _ (yX z0) hD1
 obtain⟨D3,hD3⟩:∃D3:Mem,D3=D2++[.lst ((L1.take k).map oK)]:=⟨_,rfl⟩
 have gD3:Gr D2 D3:=by rw[hD3];exact Gr.app
 have lC2:C.length<D2.length:=Bc l1'
 obtain⟨s3,L2,D4,e10,b4,c4,l4,Ra,g4,n4,ok4,_,rl4,sb4,_⟩:=Om (cell:=cell ns 3 / 21) (k:=1) (Bx.gr x9.h gD3).h (pv2 po1 ok1 rp1 tT1 ajL t12 t1) sg (g1.told _ _ _) () () (gD3 _ _ hD2) z0 (ll:=D2.length) (by rw[hD3];exact bL) (Nat.lt_trans hb.lt lC2) rfl () (by rw[List.length_take];omega) (WD rp1 k) (λe he=>by
   have:=tT1 e (List.mem_of_mem_take he)
   omega) (λy=>by
   rw[BW]
   split
   ·rw[<-BW (s:=s1) (x:=c+11) (y:=c+11) (t:=T1) (q:=k) |>.trans (if_pos rfl),ajL,List.length_take]
    omega
   ·rw[po1.ro]
    split
    ·omega
    ·show([]:List En).length<=50
     decide)
 have n4:L2.length<=20:=by rw[List.length_take]at n4;omega
 have nC:∀{i:Nat},a.sn<i->i≠D2.length->¬(Rg a i\/i=D2.length):=λh1 h2 z=>z.elim (λz=>Nat.not_lt.mpr z.2 h1) h2
 have lD4:=c4.2 _ _ (nC hb.lt (xD lC2)) (gD3 _ _ l1')
 have hD4:D4[0]? = some (.lst (hv (hds c))):=c4.2 _ _ (λz=>z.elim (yX z0) λz=>()) (gD3 _ _ hD2)
 obtain⟨D5,hD5⟩:∃D5:Mem,D5=D4++[.dk [(.inl T1,.ref C.length),(.inl T2,.ref D2.length)]]:=⟨_,rfl⟩
 obtain⟨D6,hD6⟩:∃D6:Mem,D6=D5++[.dk (ge kI D.ref [(T1,D5.length+1),(T2,D5.length+2)]),.dk (ge kN nD [(c,100),(c+11,k)]),.dk (ge kN nD [(c+11,100)])]:=⟨_,rfl⟩
 obtain⟨D7,hD7⟩:∃D7:Mem,D7=D6++[.dk [(.inl T1,.int 0),(.inl T2,.int 0)]]:=⟨_,rfl⟩
 obtain⟨cs,hcs⟩:∃cs,cs=cut ns (some 4) (some 44):=⟨_,rfl⟩
 have akN:cs.length<=40:=by rw[hcs];exact alb ns
 obtain⟨D8,hD8⟩:∃D8:Mem,D8=D7++[.lst (cs.map D.int)]:=⟨_,rfl⟩
 have g5:Gr D4 D5:=by rw[hD5];exact Gr.app
 have g6:Gr D5 D6:=by rw[hD6];exact Gr.app
 have g7:Gr D6 D7:=by rw[hD7];exact Gr.app
 have g8:Gr D7 D8:=by rw[hD8];exact Gr.app
 have n5:D5.length=D4.length+1:=by rw[hD5];simp
 have n6:D6.length=D5.length+3:=by rw[hD6];simp
 have n7:D7.length=D6.length+1:=by rw[hD7];simp
 have lD:D2.length<D4.length:=Bc l4
 obtain⟨p,hp⟩:∃p:LP,p=⟨0,C.length,D2.length,D4.length,D5.length,D5.length+1,D5.length+2,D6.length,D7.length,c,S,cs,T1,T2,L1,L2,r3,r4⟩:=⟨_,rfl⟩
 have iv:=iv0 (p:=p) (c:=c) (S:=S) (T1:=T1) (T2:=T2) (L1:=L1) (L2:=L2) (r3:=r3) (r4:=r4) (by rw[hp];exact⟨rfl,rfl,rfl,rfl,rfl,rfl,rfl,rfl⟩) po1 Ra t12
 have cn:Cn p:=by rw[hp];exact⟨sg,t1,t12,ok1,ok4,rp1,rl4,sb4,by show L1.length<=20;omega,n4⟩
 have la:CT D8 a s3 p [(c,100),(c+11,k)] [(c+11,100)] 0:=by
  rw[hp]
  refine⟨(Bx.gr b4 (g5.trans (g6.trans (g7.trans g8)))).h,g8 _ _ (g7 _ _ (g6 _ _ (g5 _ _ hD4))),g8 _ _ (g7 _ _ (g6 _ _ (g5 _ _ lD4))),g8 _ _ (g7 _ _ (g6 _ _ (g5 _ _ l4))),g8 _ _ (g7 _ _ (g6 _ _ (by rw[hD5];exact bL))),g8 _ _ (g7 _ _ ?_),g8 _ _ (g7 _ _ ?_),g8 _ _ (g7 _ _ ?_),g8 _ _ (by rw[hD7];exact bL),by rw[hD8];exact bL,z0,hb.lt,lC2,lD,?_,?_,?_,?_,?_⟩
  ·rw[hD6];simp
  ·rw[hD6];simp
  ·rw[hD6];simp
  ·show D4.length<D5.length;omega
  ·show D5.length<D5.length+1;omega
  ·show D5.length+1<D5.length+2;omega
  ·show D5.length+2<D6.length;omega
  ·show D6.length<D7.length;omega
 obtain⟨tx,htx⟩:∃tx:D,tx= .str (Txt.join " " (txW r3 r4)):=⟨_,rfl⟩
 obtain⟨e',M1,lp,s5,t5,m5,w14,w15,w16,w17,w18,rfl,l5,i5,_⟩:=pK (src:=some (p.sl,p.cs.map D.int)) (g:=gN 14) (b:=JQ) (acM ns a p tx (k:Int) [(c,100),(c+11,k)] 21 10) (ds:=p.cs.map D.int)
  (e:=lvE ns a p tx (k:Int) none none none none none) (M:=D8) ⟨s3,_,0,none,none,none,none,none,rfl,la,iv,g4,by simp⟩
  (λi e M' _ q=>by
   obtain⟨s,_,_,_,_,_,_,_,_,l,_⟩:=q.h
   exact dD l.sc)
  λi d e M2 hd hh=>ai6 cn () () (by rw[hp];exact akN) hd hh
 obtain⟨N1,Ow⟩:∃N1:Mem,N1=M1++[.lst (L1.map oK)]:=⟨_,rfl⟩
 have gN1:Gr M1 N1:=by rw[Ow];exact Gr.app
 have l6:=l5.gr gN1
 obtain⟨N2,hN2⟩:∃N2:Mem,N2=N1++[.lst (L2.map oK)]:=⟨_,rfl⟩
 have gN2:Gr N1 N2:=by rw[hN2];exact Gr.app
 have l7:=l6.gr gN2
 have y1:j0 [.ref a.b,.int T1] M1= .ok (.ref M1.length) N1:=by rw[Ow];exact Uc l5.b (by have:=i5.l1;rw[hp]at this;exact this)
 have y2:j0 [.ref a.b,.int T2] N1= .ok (.ref N1.length) N2:=by rw[hN2];exact Uc l6.b (by have:=i5.l2;rw[hp]at this;exact this)
 have z1:sEq (.ref M1.length) (.ref C.length) N1= .ok (.bl true) N1:=afP (L:=L1) (by rw[Ow];exact bL) (by have:=l6.e1;rw[hp]at this;exact this) ok1
 have z2:sEq (.ref N1.length) (.ref D2.length) N2= .ok (.bl true) N2:=afP (L:=L2) (by rw[hN2];exact bL) (by have:=l7.e2;rw[hp]at this;exact this) ok4
 refine⟨N2,?_⟩
 simp only[afF,acG,Xv]
 refine ab4 ?_
 refine fL (xg (d:= .ref 0) (M':=A) rfl (by decide) ?_) ?_
 ·simp only[bV,cj,bU]
  simp[r5,qP]
  simp only[List.length_nil]at e1
  simp[e1]
 refine fL (xg (d:= .int (S:Int)) (M':=A1) rfl (by decide) ?_) ?_
 ·simp only[List.cons_append,List.nil_append,bV,cj,bU]
  simp[<-hA1,ce0,md,dv,ex,e2]
 refine fL (xg (d:= .tup [.int (hf (!r3)),.int (hf (!r4))]) (M':=A1) rfl (by decide) ?_) ?_
 ·simp only[List.cons_append,List.nil_append,bV,cj,bU]
  simp[ce1,md,dv,h3,h4]
 refine fL (xg (d:=tx) (M':=A2) rfl (by decide) ?_) ?_
 ·rw[htx]
  exact e4
 refine fL (xg (d:= .ref a.b) (M':=C) rfl (by decide) ?_) ?_
 ·simp only[List.cons_append,List.nil_append,bV,cj,bU]
  rw[ab]
  simp[htx,e5,e6]
 refine fL (xg (d:= .int T1) (M':=C) rfl (by decide) ?_) ?_
 ·simp only[List.cons_append,List.nil_append,bV,cj,bU]
  simp[ce1,dv,pw,md,hT0,<-hT1]
 refine fL (xg (d:= .ref C.length) (M':=D1) rfl (by decide) ?_) ?_
 ·simp only[List.cons_append,List.nil_append,bV,cj,bU]
  simp at e7
  simp[<-hC1,ce2,e7]
 refine fL (xg (d:= .int T2) (M':=D1) rfl (by decide) ?_) ?_
 ·simp only[List.cons_append,List.nil_append,bV,cj,bU]
  simp[ce3,dv,md,<-hT2]
 refine fL (xg (d:= .int (k:Int)) (M':=D2) rfl (by decide) ?_) ?_
 ·simp only[List.cons_append,List.nil_append,bV,cj,bU]
  have ln:jz [.ref C.length] D1= .ok (.int (L1.length:Int)) D1:=by rw[qG l1];simp
  simp[ln,ce3,e9]
 refine fL (xg (d:= .ref D2.length) (M':=D4) rfl (by decide) ?_) ?_
 ·simp only[List.cons_append,List.nil_append,bV,cj,bU]
  have sl:sSl (.ref C.length) none (some (k:Int)) D2= .ok (.ref D2.length) D3:=by
   rw[adv l1',XF,ah8 kl,<-hD3]
  simp at e10
  simp[sl,ce3,dv,e10]
 refine fL (xg (d:= .ref D4.length) (M':=D5) rfl (by decide) ?_) ?_
 ·rw[hD5]
  simp only[List.cons_append,List.nil_append,bV,cj,bU]
  exact acr rfl aby akj abx aho t12
 refine fL (xg (d:= .ref D5.length) (M':=D6) rfl (by decide) ?_) ?_
 ·rw[hD6]
  simp only[List.cons_append,List.nil_append,bV,cj,bU]
  exact ak9 (g5 _ _ hD4) rfl (λ_=>aby) (λ_=>abx) (λ_=>aki) t12
 refine fL (xg (d:= .ref D6.length) (M':=D7) rfl (by decide) ?_) ?_
 ·rw[hD7]
  simp only[List.cons_append,List.nil_append,bV,cj,bU]
  exact acr rfl aby Ti abx Ti t12
 refine fL (e':=lvE ns a p tx (k:Int) w14 w15 w16 w17 w18) (M':=M1) ?_ (Qz ?_)
 ·have cm:cut (ns.map D.int) (some 4) (some 44)=cs.map D.int:=by rw[XF,<-hcs]
  have itr:=qN (M:=D8) (n:=D7.length) (ds:=cs.map D.int) (by rw[hD8];exact bL)
  rw[hp]at lp ⊢
  simp only[lvE]at lp ⊢
  simp only[List.cons_append,List.nil_append,bV,cj,bU]
  simp[cm,<-hD8,itr]
  exact lp
 ·rw[hp]
  simp only[lvE]
  simp[l5.b.Fb (m:= "line") rfl,y1,z1,l6.b.Fb (m:= "line") rfl,y2,z2]
end
def top(i:Nat):Stmt:=PySem.Challenge.pw_chairvote_k64_settles.main.body.getD i (.Pass ⟨0,0,0,0⟩)
abbrev CZ:Stmt:=top 43
abbrev Ob:Stmt:=top 45
abbrev Fz:Stmt:=top 32
abbrev gH:Stmt:=inClass (top 33) 0
abbrev FN:Stmt:=inClass (top 33) 2
abbrev Ab:Stmt:=inClass (top 9) 0
abbrev z7:Stmt:=inClass (top 35) 0
abbrev z8:Stmt:=inClass (top 29) 0
abbrev gJ:Stmt:=inClass (top 41) 0
abbrev Ik:Stmt:=top 39
abbrev N_:Stmt:=top 40
abbrev RT:Stmt:=top 18
abbrev wA:Stmt:=inClass (top 35) 1
abbrev uJ:Stmt:=inClass (top 9) 1
abbrev sW:Stmt:=inClass (top 9) 3
abbrev RP:Stmt:=top 2
abbrev sY:Stmt:=inClass (top 9) 6
abbrev qF:Stmt:=inClass (top 9) 4
abbrev lJ:Stmt:=inClass (top 9) 7
abbrev sX:Stmt:=inClass (top 9) 5
abbrev sZ:Stmt:=inClass (top 9) 11
abbrev KZ:Stmt:=top 3
abbrev rF:Stmt:=inClass (top 9) 10
abbrev aar:Stmt:=top 4
abbrev mX:Stmt:=top 5
abbrev zX:Stmt:=top 6
abbrev FJ:Stmt:=inClass (top 33) 1
abbrev rH:Stmt:=inClass (top 9) 9
abbrev yR:Stmt:=top 19
abbrev Oa:Stmt:=top 20
abbrev sJ:Stmt:=inClass (top 35) 6
abbrev z6:Stmt:=inClass (top 35) 2
abbrev sO:Stmt:=inClass (top 35) 13
abbrev uH:Stmt:=inClass (top 29) 1
abbrev sU:Stmt:=inClass (top 29) 4
abbrev wB:Stmt:=inClass (top 41) 5
abbrev rE:Stmt:=inClass (top 41) 3
abbrev wC:Stmt:=inClass (top 9) 13
abbrev wj:Stmt:=top 21
abbrev qp:Stmt:=inClass (top 35) 4
abbrev rB:Stmt:=inClass (top 35) 7
abbrev ql:Stmt:=inClass (top 35) 11
abbrev rA:Stmt:=inClass (top 35) 10
abbrev zZ:Stmt:=inClass (top 35) 3
abbrev qi:Stmt:=inClass (top 35) 5
abbrev qt:Stmt:=inClass (top 35) 16
abbrev oG:Stmt:=inClass (top 35) 8
abbrev qj:Stmt:=inClass (top 35) 15
abbrev qD:Stmt:=inClass (top 41) 4
abbrev Aa:Stmt:=inClass (top 41) 2
abbrev cI:Stmt:=inClass (top 11) 0
abbrev yU:Stmt:=inClass (top 9) 2
abbrev Ac:Stmt:=inClass (top 9) 8
abbrev rG:Stmt:=inClass (top 9) 12
abbrev qw:Stmt:=inClass (top 35) 9
abbrev Il:Stmt:=top 22
abbrev uG:Stmt:=inClass (top 35) 20
abbrev oF:Stmt:=inClass (top 35) 19
abbrev uI:Stmt:=inClass (top 41) 12
abbrev mY:Stmt:=inClass (top 41) 10
abbrev RQ:Stmt:=top 23
abbrev zY:Stmt:=inClass (top 35) 14
abbrev rC:Stmt:=inClass (top 29) 5
abbrev z9:Stmt:=inClass (top 29) 6
abbrev rD:Stmt:=inClass (top 41) 9
abbrev yS:Stmt:=inClass (top 35) 12
abbrev wz:Stmt:=inClass (top 35) 17
abbrev qz:Stmt:=inClass (top 41) 11
abbrev FP:Stmt:=inClass (top 41) 1
abbrev KR:Stmt:=top 46
abbrev Ij:Stmt:=top 48
abbrev wu:Stmt:=top 51
abbrev KN:Stmt:=top 49
abbrev KQ:Stmt:=top 53
abbrev KY:Stmt:=top 44
abbrev KJ:Stmt:=top 47
abbrev Oc:Stmt:=top 52
abbrev CW:Stmt:=top 50
abbrev z_:Stmt:=inClass (top 41) 13
abbrev FQ:Stmt:=inClass (top 41) 19
abbrev FT:Stmt:=inClass (top 41) 18
abbrev afr:Stmt:=top 54
noncomputable def oN:List Dsc:=jf 0 "_law_cell_at" "_law_cell_at" CZ ["_law_script","_law_k"]::
 jf 0 "_law_set" "_law_set" Ob ["_law_cell","_law_hands"]::
 jf 0 "wrong_word" "wrong_word" Fz ["words"]::
 jf 7 "twin" "Rules.twin" FN ["self"]::
 jf 1 "__init__" "Ballots.__init__" Ab ["self","rules"]::
 jf 8 "__init__" "Strides.__init__" z7 ["self","first_roll","rules"]::
 jf 6 "__init__" "Replies.__init__" z8 ["self"]::
 jf 0 "is_formed" "is_formed" Ik ["paper"]::
 jf 0 "term_on" "term_on" N_ ["paper"]::
 jf 0 "end_of" "end_of" RT ["entries"]::
 jf 8 "row_of" "Strides.row_of" wA ["self","hand"]::
 jf 1 "term_of" "Ballots.term_of" uJ ["self","hand"]::
 jf 1 "votes_of" "Ballots.votes_of" sW ["self","hand","term"]::
 jf 0 "set_of" "set_of" RP ["hands"]::
 jf 1 "is_spent" "Ballots.is_spent" sY ["self","hand","term","whom"]::
 jf 1 "asked_with" "Ballots.asked_with" qF ["self","hand","term"]::
 jf 1 "is_good_enough" "Ballots.is_good_enough" lJ ["self","whom","term","end"]::
 jf 1 "may_vote" "Ballots.may_vote" sX ["self","hand","term","whom","end"]::
 jf 1 "chair_of" "Ballots.chair_of" sZ ["self","term"]::
 jf 0 "hands_of" "hands_of" KZ ["S"]::
 jf 1 "voted_all" "Ballots.voted_all" rF ["self","voters","term","whom"]::
 jf 0 "many" "many" aar ["S"]::
 jf 7 "wins" "Rules.wins" FJ ["self","roll","S"]::
 jf 1 "may_chair" "Ballots.may_chair" rH ["self","hand","term","voters","end","roll"]::
 jf 0 "roll_place_of" "roll_place_of" yR ["entries"]::
 jf 0 "roll_of" "roll_of" Oa ["entries","first_roll"]::
 jf 8 "row_roll" "Strides.row_roll" sJ ["self","hand"]::
 jf 8 "line" "Strides.line" z6 ["self","term"]::
 jf 8 "may_tell" "Strides.may_tell" sO ["self","term","place"]::
 jf 6 "beat_of" "Replies.beat_of" uH ["self","term"]::
 jf 6 "may_hear" "Replies.may_hear" sU ["self","term","beat"]::
 jf 9 "may_tell" "Bench.may_tell" wB ["self","hand","term","place","beat"]::
 jf 9 "allows_hand" "Bench.allows_hand" rE ["self","paper"]::
 jf 1 "stands" "Ballots.stands" wC ["self","term"]::
 jf 0 "start_place_of" "start_place_of" wj ["entries","term"]::
 jf 8 "mark_up_to" "Strides.mark_up_to" qp ["self","term"]::
 jf 8 "line_roll" "Strides.line_roll" rB ["self","term"]::
 jf 8 "may_change" "Strides.may_change" ql ["self","term","what"]::
 jf 8 "may_write" "Strides.may_write" rA ["self","term","place","what"]::
 jf 8 "mark" "Strides.mark" zZ ["self","term"]::
 jf 8 "place_told" "Strides.place_told" qi ["self","hand","term"]::
 jf 8 "have_place" "Strides.have_place" qt ["self","chair","term","place","hands"]::
 jf 8 "are_winners" "Strides.are_winners" oG ["self","term","hands"]::
 jf 8 "may_settle" "Strides.may_settle" qj ["self","chair","term","place","hands"]::
 jf 9 "allows_chair" "Bench.allows_chair" qD ["self","paper"]::
 jf 9 "allows" "Bench.allows" Aa ["self","paper"]::
 jf 1 "reach" "Ballots.reach" yU ["self","hand","term"]::
 jf 1 "cast" "Ballots.cast" Ac ["self","hand","term","whom","end"]::
 jf 1 "take_seat" "Ballots.take_seat" rG ["self","hand","term"]::
 jf 8 "begin_line" "Strides.begin_line" qw ["self","hand","term"]::
 jf 0 "are_alike" "are_alike" Il ["one","two","place"]::
 jf 8 "is_kept" "Strides.is_kept" uG ["self","lesser","greater"]::
 jf 8 "lost_behind" "Strides.lost_behind" oF ["self","term"]::
 jf 9 "find_lost" "Bench.find_lost" uI ["self","term"]::
 jf 9 "follow_to_chair" "Bench.follow_to_chair" mY ["self","hand","term"]::
 jf 0 "led_by" "led_by" RQ ["line","row","place"]::
 jf 8 "tell" "Strides.tell" zY ["self","hand","term","place"]::
 jf 6 "beat_told" "Replies.beat_told" rC ["self","hand","term"]::
 jf 6 "hear" "Replies.hear" z9 ["self","hand","term","beat"]::
 jf 9 "follow_hand" "Bench.follow_hand" rD ["self","paper"]::
 jf 8 "write" "Strides.write" yS ["self","hand","term","what"]::
 jf 8 "settle" "Strides.settle" wz ["self","term","place"]::
 jf 9 "follow_chair" "Bench.follow_chair" qz ["self","paper"]::
 jf 9 "take" "Bench.take" FP ["self","paper"]::
 jf 0 "_law_roll" "_law_roll" KR ["_law_line","_law_first"]::
 jf 0 "_law_chair" "_law_chair" Ij ["_law_bench","_law_hands","_law_first","_law_k","_law_term","_law_row","_law_cell"]::
 jf 0 "_law_told_ahead" "_law_told_ahead" wu ["_law_bench","_law_hands","_law_term","_law_most","_law_cell"]::
 jf 0 "_law_told" "_law_told" KN ["_law_bench","_law_tolds","_law_hand","_law_term","_law_place"]::
 jf 0 "_law_some" "_law_some" KQ ["_law_cell","_law_hands","_law_tolds","_law_place"]::
 jf 0 "_law_many" "_law_many" KY ["_law_some_here"]::
 jf 0 "_law_wins" "_law_wins" KJ ["_law_roll_here","_law_some_here","_law_half"]::
 jf 0 "_law_due" "_law_due" Oc ["_law_paper","_law_line","_law_first","_law_tolds","_law_mark","_law_words"]::
 jf 0 "_law_refused" "_law_refused" CW ["_law_bench","_law_paper"]::
 jf 9 "broken" "Bench.broken" z_ ["self"]::
 jf 9 "mark" "Bench.mark" FQ ["self","term"]::
 jf 9 "line" "Bench.line" FT ["self","term"]::
 jf 0 "law" "law" afr ["_law_script"]::[]
set_option genInjectivity false in
structure Adr where
 c:Nat->Addr
 xs:List Fv
 rW:Addr
 nY:FuncData
 Fg:Addr
 Fl:Tok
 rY:Addr
 nZ:FuncData
 Fi:Addr
 Cm:Addr
 wZ:FuncData
 NQ:Addr
 Mh:Addr
 Mm:FuncData
 ZS:Addr
 iG:Addr
 j6:FuncData
 HW:Addr
 Eg:Addr
 QD:Addr
def Adr.f(t:Adr)(i:Nat):Addr:=(t.xs.getD i fv0).f
def Adr.d(t:Adr)(i:Nat):FuncData:=(t.xs.getD i fv0).fd (oN.getD i d0)
structure Txt(K:Frag)(mg:Str->Option Value)(t:Adr):Prop where
 D:Q9 K t.c oN t.xs
 G:∀(x:Str) (f:Addr),nsIn K mainGlobals x=some (some (.ref f))->mg x=some (.ref f)
 Dj:zE K "__init__" "Rules.__init__" gH (.ref t.Fg) t.rW t.nY
 j9:Binds K t.nY ["self","text"] []
 vR:Binds K t.nY ["self","text"] [.str "once best own most" t.Fl]
 Dk:zE K "__init__" "Bench.__init__" gJ (.ref t.Fi) t.rY t.nZ
 j_:Binds K t.nZ ["self","S","rules"] []
 Ny:Binds K t.nZ ["self","S","rules"] [.none]
 yG:zE K "carries" "carries" mX (.ref t.NQ) t.Cm t.wZ
 pP:Binds K t.wZ ["S","part","half"] []
 VN:Binds K t.wZ ["S","part","half"] [.bool false]
 DQ:mg "carries" = some (.ref t.Cm)
 QG:zE K "wins" "wins" zX (.ref t.ZS) t.Mh t.Mm
 Bv:Binds K t.Mm ["roll","S","half"] []
 ae3:Binds K t.Mm ["roll","S","half"] [.bool false]
 aei:mg "wins" = some (.ref t.Mh)
 uR:zE K "__init__" "HallError.__init__" cI .none t.iG t.j6
 w6:Binds K t.j6 ["self","at"] []
 qJ:Mk K (t.c 6) t.rW
 n8:M_ K (t.c 6)
 Gq:mg "Rules" = some (.ref (t.c 6))
 wK:BR K (t.c 6) ["once","best","own","most"]
 pA:Mk K (t.c 0) (t.f 4)
 aP:M_ K (t.c 0)
 Lk:mg "Ballots" = some (.ref (t.c 0))
 cQ:BR K (t.c 0) ["rules","terms","votes","askings","seated"]
 o_:Mk K (t.c 7) (t.f 5)
 aH:M_ K (t.c 7)
 Li:mg "Strides" = some (.ref (t.c 7))
 cP:BR K (t.c 7) ["first_roll","rules","rows","lines","marks","places"]
 pq:Mk K (t.c 5) (t.f 6)
 g_:M_ K (t.c 5)
 Lj:mg "Replies" = some (.ref (t.c 5))
 oZ:BR K (t.c 5) ["beats","heard","looks","seen"]
 wM:Mk K (t.c 8) t.rY
 bO:M_ K (t.c 8)
 S_:mg "Bench" = some (.ref (t.c 8))
 wL:BR K (t.c 8) ["first","rules","ballots","strides","replies","count","breach"]
 Qk:mg "HallError" = some (.ref (t.c 1))
 O8:XMk K (t.c 1) t.iG
 O_:NB K (t.c 1) "at"
 O9:XIs K (t.c 1)
 xF:exmOne K (.ref (t.c 1)) (.ref (t.c 1))=some true
 yz:kitOne K (.ref (t.c 1)) (.ref (t.c 1))=some true
 oE:exmOne K (.ref (t.c 1)) (.ref (t.c 2))=some false
 zu:kitOne K (.ref (t.c 1)) (.ref (t.c 2))=some false
 Aw:mg "BadPaper" = some (.ref (t.c 2))
 Ih:XMk K (t.c 2) t.iG
 Ii:NB K (t.c 2) "at"
 Rc:XIs K (t.c 2)
 y_:exmOne K (.ref (t.c 2)) (.ref (t.c 1))=some true
 zx:kitOne K (.ref (t.c 2)) (.ref (t.c 1))=some true
 qe:exmOne K (.ref (t.c 2)) (.ref (t.c 2))=some true
 Bh:kitOne K (.ref (t.c 2)) (.ref (t.c 2))=some true
 Df:mg "wins_rolls" = some (.ref t.Mh)
 abw:mg "all" = none
 Ay:mg "enumerate" = none
 m7:mg "len" = none
 abv:mg "list" = none
 Lp:mg "max" = none
 afE:mg "min" = none
 yp:mg "range" = none
 Tf:mg "sorted" = none
 yh:mg "CHOICES" = some (.ref t.HW)
 xP:∀ct ι n H,S.DV K ct ι n H (.nA [(.nA [(.str "once"),(.str "free")]),(.nA [(.str "best"),(.str "any")]),(.nA [(.str "own"),(.str "old")]),(.nA [(.str "most"),(.str "half")])]) (.ref t.HW)
 uL:mg "OF_HANDS" = some (.ref t.Eg)
 uD:∀ct ι n H,S.DV K ct ι n H (.nA [(.str "vote"),(.str "chair"),(.str "told")]) (.ref t.Eg)
 S9:mg "SIZES" = some (.ref t.QD)
 Rq:aim K t.QD [("vote",4),("chair",4),("write",4),("beat",3),("told",5),("settle",4),("answer",6),("look",6),("seen",8)]
section
variable{P:Program}{w:World}{K:Frag}{mg:Str->Option Value}{base:Heap}{t:Adr}
theorem Txt.fn(T:Txt K mg t)(i:Nat)(h:Nat.blt i oN.length=true:=by rfl):zE K (oN.getD i d0).2.1 (oN.getD i d0).2.2.1 (oN.getD i d0).2.2.2.1 .none (t.f i) (t.d i):=T.D.fn h
theorem Txt.kp(T:Txt K mg t)(i:Nat)(h:Nat.blt i oN.length=true:=by rfl):keepIn K (.ref (t.f i))=true:=(T.D.ok h).kp
theorem Txt.b(T:Txt K mg t)(i:Nat)(h:Nat.blt i oN.length=true:=by rfl):Binds K (t.d i) (oN.getD i d0).2.2.2.2 []:=T.D.b h
theorem Txt.me(T:Txt K mg t)(i:Nat)(h:Nat.blt i oN.length=true:=by rfl)(h1:((oN.getD i d0).1==0)=false:=by rfl):Meth K (t.c ((oN.getD i d0).1 - 1)) (oN.getD i d0).2.1 (t.f i):=T.D.me h h1
theorem Txt.mf(T:Txt K mg t)(i:Nat)(h:Nat.blt i oN.length=true:=by rfl)(h1:((oN.getD i d0).1==0)=true:=by rfl):mg (oN.getD i d0).2.1=some (.ref (t.f i)):=T.G _ _ ((T.D.ok h).a0 h1)
theorem Fy:sy ["self","at"] ["self","at"] (bu cI):=iJ
abbrev jg{K:Frag}{mg:Str->Option Value}{t:Adr}(_:Txt K mg t)(i lv:Nat)(m:S.Fn)(ar:Nat):Prop:=∀{P:Program} {w:World} {base:Heap},ie P w K mg base (EY P w) lv (t.f i) (t.d i) (oN.getD i d0).2.2.2.2 (S.spS K t.c m ar)
theorem Txt.iu(T:Txt K mg t)(i:Nat)(e:Nat.blt i (["once","best","own","most"]:List Str).length=true:=by rfl):S.v5 K t.c ((["once","best","own","most"]:List Str).getD i "") [6]:=⟨⟨T.n8,T.wK.get e⟩,jS⟩
theorem Txt.eY(T:Txt K mg t)(i:Nat)(e:Nat.blt i (["rules","terms","votes","askings","seated"]:List Str).length=true:=by rfl):S.v5 K t.c ((["rules","terms","votes","askings","seated"]:List Str).getD i "") [0]:=⟨⟨T.aP,T.cQ.get e⟩,jS⟩
theorem Txt.cJ(T:Txt K mg t)(i:Nat)(e:Nat.blt i (["first_roll","rules","rows","lines","marks","places"]:List Str).length=true:=by rfl):S.v5 K t.c ((["first_roll","rules","rows","lines","marks","places"]:List Str).getD i "") [7]:=⟨⟨T.aH,T.cP.get e⟩,jS⟩
theorem Txt.oY(T:Txt K mg t)(i:Nat)(e:Nat.blt i (["beats","heard","looks","seen"]:List Str).length=true:=by rfl):S.v5 K t.c ((["beats","heard","looks","seen"]:List Str).getD i "") [5]:=⟨⟨T.g_,T.oZ.get e⟩,jS⟩
theorem Txt.bf(T:Txt K mg t)(i:Nat)(e:Nat.blt i (["first","rules","ballots","strides","replies","count","breach"]:List Str).length=true:=by rfl):S.v5 K t.c ((["first","rules","ballots","strides","replies","count","breach"]:List Str).getD i "") [8]:=⟨⟨T.bO,T.wL.get e⟩,jS⟩
theorem dI(T:Txt K mg t):jg T 0 1 (aM 2 vQ) 2:=bT (st:=CZ) ["_law_script","_law_k"] (T.fn 0) iJ λh n u=>
 (aB (bD (aV (Mz u) (aj 1) (bJ i_ rfl T.m7 jb (ao (aj 0) az)) (aJ _)) (aD (aK (aW u (aj 0) (aj 1)))) bw)
  (aD (aK aA)))
theorem xX(T:Txt K mg t):jg T 1 1 (aM 4 Ib) 2:=bT (st:=Ob) ["_law_cell","_law_hands","_law_some_here","_law_k"] (T.fn 1) iJ λh n u=>
 (aB (bh (i:=2) n rfl je aA)
  (aB (oW (fO rfl rfl) rfl (sE rfl T.yp (ao aA az)) (eX (i:=3) n rfl je) (aD (bh (i:=2) n rfl je (aO jL (aj 2) (aO Mw (aO Ej (aO acz (aj 0) (aj 3)) aA) (aW u (aj 1) (aj 3)))))))
  (aD (aK (aj 2)))))
theorem Ni(T:Txt K mg t):jg T 2 1 (aM 3 yL) 1:=bT (st:=Fz) ["words","k","choice"] (T.fn 2) iJ λh n u=>
 (aB (oW (fO rfl rfl) rfl (aak rfl T.Ay (Cd rfl T.yh λι n H=>T.xP _ ι n H)) (Pr rfl (lG (eX (i:=1) n rfl je) (lG (eX (i:=2) n rfl je) JS))) (aD (bD (SW.pt (zU (aV XR (aj 1) (bJ i_ rfl T.m7 jb (ao (aj 0) az)) (aJ _)) (zT (aV (acB u) (aW u (aj 0) (aj 1)) (aj 2) (by with_unfolding_all rfl))))) (aD (aK (aj 1))) bw)))
  (aB (bD (aV Bu (bJ i_ rfl T.m7 jb (ao (aj 0) az)) (bJ i_ rfl T.m7 jb (ao (Cd rfl T.yh λι n H=>T.xP _ ι n H) az)) (aJ _)) (aD (aK (bJ i_ rfl T.m7 jb (ao (Cd rfl T.yh λι n H=>T.xP _ ι n H) az)))) bw)
  (aD (aK oX))))
theorem vm(T:Txt K mg t):ie P w K mg base (EY P w) (1+1) t.rW t.nY ["self","text"] (spS K t.c (aM 4 j9) 2):=bT (st:=gH) ["self","text","words","wrong"] T.Dj iJ λh n u=>
 (aB (bh (i:=2) n rfl je (aap PySem.F.plainAttrs_str PySem.F.slot_str_split PySem.F.type_str_split abm (aj 1) (ao bF az)))
  (aB (bh (i:=3) n rfl je (aZ (Ni T) cC h.mo rfl (T.mf 2) (T.kp 2) (T.b 2) .nil (ao (aj 2) az)))
  (aB (bD (aV Bt (aj 3) oX (aJ _)) (aD qg) bw)
  (aB (cO (T.iu 0) (aj 0) (dg (cG u) (aW u (aj 2) aA) bF (aJ _)))
  (aB (cO (T.iu 1) (aj 0) (dg (cG u) (aW u (aj 2) aA) bF (aJ _)))
  (aB (cO (T.iu 2) (aj 0) (dg (cG u) (aW u (aj 2) aA) bF (aJ _)))
  (aD (cO (T.iu 3) (aj 0) (dg (cG u) (aW u (aj 2) aA) bF (aJ _))))))))))
theorem Nj(T:Txt K mg t):jg T 3 4 (aM 2 yN) 1:=bT (st:=FN) ["self","like"] (T.fn 3) iJ λh n u=>
 (aB (bh (i:=1) n rfl je (KH (kc:=6) T.qJ (vm T) cC h.mo rfl T.Gq T.vR (.cons (.str _ _) .nil)))
  (aB (cO (T.iu 0) (aj 1) (aX (T.iu 0) (aj 0)))
  (aB (cO (T.iu 1) (aj 1) (aX (T.iu 1) (aj 0)))
  (aB (cO (T.iu 2) (aj 1) (aX (T.iu 2) (aj 0)))
  (aB (cO (T.iu 3) (aj 1) (aX (T.iu 3) (aj 0)))
  (aD (aK (aj 1))))))))
theorem JG(T:Txt K mg t):jg T 4 1 (aM 2 uo) 2:=bT (st:=Ab) ["self","rules"] (T.fn 4) iJ λh n u=>
 (aB (cO (cs:=[0,7,8]) ⟨⟨T.aP,(T.cQ.get (i:=0) rfl)⟩,⟨⟨T.aH,(T.cP.get (i:=1) rfl)⟩,(T.bf 1)⟩⟩ (aj 0) (aj 1))
  (aB (cO (T.eY 1) (aj 0) lR)
  (aB (cO (T.eY 2) (aj 0) lR)
  (aB (cO (T.eY 3) (aj 0) lR)
  (aD (cO (T.eY 4) (aj 0) lR))))))
theorem Jz(T:Txt K mg t):jg T 5 1 (aM 3 ue) 3:=bT (st:=z7) ["self","first_roll","rules"] (T.fn 5) iJ λh n u=>
 (aB (cO (T.cJ 0) (aj 0) (aj 1))
  (aB (cO (cs:=[0,7,8]) ⟨⟨T.aP,(T.cQ.get (i:=0) rfl)⟩,⟨⟨T.aH,(T.cP.get (i:=1) rfl)⟩,(T.bf 1)⟩⟩ (aj 0) (aj 2))
  (aB (cO (T.cJ 2) (aj 0) lR)
  (aB (cO (T.cJ 3) (aj 0) lR)
  (aB (cO (T.cJ 4) (aj 0) lR)
  (aD (cO (T.cJ 5) (aj 0) lR)))))))
theorem JB(T:Txt K mg t):jg T 6 1 (aM 1 uf) 1:=bT (st:=z8) ["self"] (T.fn 6) iJ λh n u=>
 (aB (cO (T.oY 0) (aj 0) lR)
  (aB (cO (T.oY 1) (aj 0) lR)
  (aB (cO (T.oY 2) (aj 0) lR)
  (aD (cO (T.oY 3) (aj 0) lR)))))
theorem Nk(T:Txt K mg t):ie P w K mg base (EY P w) (4+1) t.rY t.nZ ["self","S","rules"] (spS K t.c (aM 3 j_) 3):=bT (st:=gJ) ["self","S","rules"] T.Dk iJ λh n u=>
 (aB (cO (T.bf 0) (aj 0) (aj 1))
  (aB (cO (cs:=[0,7,8]) ⟨⟨T.aP,(T.cQ.get (i:=0) rfl)⟩,⟨⟨T.aH,(T.cP.get (i:=1) rfl)⟩,(T.bf 1)⟩⟩ (aj 0) (ajs (aV XN (aj 2) oX (aJ _)) (KH (kc:=6) T.qJ (vm T) cC h.mo rfl T.Gq T.vR (.cons (.str _ _) .nil)) (RL (kc:=6) (aj 2) T.n8 (T.me 3) (Nj T) cC h.mo (T.b 3) .nil)))
  (aB (cO (T.bf 2) (aj 0) (JT (kc:=0) T.pA (JG T) cC h.mo rfl T.Lk (T.b 4) .nil (ao (aX (cs:=[0,7,8]) ⟨⟨T.aP,(T.cQ.get (i:=0) rfl)⟩,⟨⟨T.aH,(T.cP.get (i:=1) rfl)⟩,(T.bf 1)⟩⟩ (aj 0)) az)))
  (aB (cO (T.bf 3) (aj 0) (JT (kc:=7) T.o_ (Jz T) cC h.mo rfl T.Li (T.b 5) .nil (ao (cA (ao (aj 1) (ao aA az))) (ao (aX (cs:=[0,7,8]) ⟨⟨T.aP,(T.cQ.get (i:=0) rfl)⟩,⟨⟨T.aH,(T.cP.get (i:=1) rfl)⟩,(T.bf 1)⟩⟩ (aj 0)) az))))
  (aB (cO (T.bf 4) (aj 0) (KH (kc:=5) T.pq (JB T) cC h.mo rfl T.Lj (T.b 6) .nil))
  (aB (cO (T.bf 5) (aj 0) aA)
  (aD (cO (T.bf 6) (aj 0) oX))))))))
theorem Qg(T:Txt K mg t):jg T 7 1 (aM 1 nq) 1:=bT (st:=Ik) ["paper"] (T.fn 7) iJ λh n u=>
 (aD (aK (u_ (dg Bu (bJ i_ rfl T.m7 jb (ao (aj 0) az)) aA (aJ _)) (mq (dg (cG u) (adt [("vote",4),("chair",4),("write",4),("beat",3),("told",5),("settle",4),("answer",6),("look",6),("seen",8)] rfl T.S9 T.Rq (aW u (aj 0) aA)) (bJ i_ rfl T.m7 jb (ao (aj 0) az)) (aJ _))))))
theorem Vc(T:Txt K mg t):jg T 8 1 (aM 1 sG) 1:=bT (st:=N_) ["paper"] (T.fn 8) iJ λh n u=>
 (aB (bD (aV (XQ u) (aW u (aj 0) aA) (Cd rfl T.uL λι n H=>T.uD _ ι n H) (by with_unfolding_all rfl)) (aD (aK (aW u (aj 0) aA))) bw)
  (aD (aK (aW u (aj 0) aA))))
theorem Oi(T:Txt K mg t):jg T 9 1 (aM 1 G_) 1:=bT (st:=RT) ["entries"] (T.fn 9) iJ λh n u=>
 (aB (bD (aV (cG u) (bJ i_ rfl T.m7 jb (ao (aj 0) az)) aA (aJ _)) (aD (aK (cA (ao aA (ao aA az))))) bw)
  (aD (aK (cA (ao (aW u (aW u (aj 0) (ajr af4 aA)) aA) (ao (bJ i_ rfl T.m7 jb (ao (aj 0) az)) az))))))
theorem eZ(T:Txt K mg t):jg T 10 1 (aM 2 pR) 2:=bT (st:=wA) ["self","hand"] (T.fn 10) iJ λh n u=>
 (aD (aK (nF u (aX (T.cJ 2) (aj 0)) (aj 1) (cA az))))
theorem fP(T:Txt K mg t):jg T 11 1 (aM 2 oA) 2:=bT (st:=uJ) ["self","hand"] (T.fn 11) iJ λh n u=>
 (aD (aK (nF u (aX (T.eY 1) (aj 0)) (aj 1) aA)))
theorem kW(T:Txt K mg t):jg T 12 1 (aM 3 mU) 3:=bT (st:=sW) ["self","hand","term"] (T.fn 12) iJ λh n u=>
 (aD (aK (nF u (aX (T.eY 2) (aj 0)) (cA (ao (aj 1) (ao (aj 2) az))) aA)))
theorem Hy(T:Txt K mg t):jg T 13 1 (aM 3 MN) 1:=bT (st:=RP) ["hands","S","hand"] (T.fn 13) iJ λh n u=>
 (aB (bh (i:=1) n rfl je aA)
  (aB (oW (fO rfl rfl) rfl (xT (aj 0)) (eX (i:=2) n rfl je) (aD (bh (i:=1) n rfl je (aO acA (aj 1) (aO Mw aA (aj 2))))))
  (aD (aK (aj 1)))))
theorem CJ(T:Txt K mg t):jg T 14 2 (aM 5 jd) 4:=bT (st:=sY) ["self","hand","term","whom","votes"] (T.fn 14) iJ λh n u=>
 (aB (bh (i:=4) n rfl je (aG (kc:=0) (aj 0) T.aP (T.me 12) (kW T) cC h.mo (T.b 12) .nil (ao (aj 1) (ao (aj 2) az))))
  (aB (bD (uZ (aX (T.iu 0) (aX (cs:=[0,7,8]) ⟨⟨T.aP,(T.cQ.get (i:=0) rfl)⟩,⟨⟨T.aH,(T.cP.get (i:=1) rfl)⟩,(T.bf 1)⟩⟩ (aj 0)))) (aD (aK (dg (rK u) (aj 4) aA (aJ _)))) bw)
  (aD (aK (dg (rK u) (aO Ej (aj 4) (aZ (Hy T) cC h.mo rfl (T.mf 13) (T.kp 13) (T.b 13) .nil (ao (u9 (ao (aj 3) az)) az))) aA (aJ _))))))
theorem oJ(T:Txt K mg t):jg T 15 1 (aM 3 jU) 3:=bT (st:=qF) ["self","hand","term"] (T.fn 15) iJ λh n u=>
 (aD (aK (Wq u (aX (T.eY 3) (aj 0)) (cA (ao (aj 1) (ao (aj 2) az))))))
theorem uA(T:Txt K mg t):jg T 16 2 (aM 5 d_) 4:=bT (st:=lJ) ["self","whom","term","end","asked"] (T.fn 16) iJ λh n u=>
 (aB (bh (i:=4) n rfl je (aG (kc:=0) (aj 0) T.aP (T.me 15) (oJ T) cC h.mo (T.b 15) .nil (ao (aj 1) (ao (aj 2) az))))
  (aB (bD (aV XN (aj 4) oX (aJ _)) (aD (aK lH)) bw)
  (aD (aK (RK (dg (aie u) (aj 3) (aj 4) (aJ _)) (mq (aam (aX (T.iu 1) (aX (cs:=[0,7,8]) ⟨⟨T.aP,(T.cQ.get (i:=0) rfl)⟩,⟨⟨T.aH,(T.cP.get (i:=1) rfl)⟩,(T.bf 1)⟩⟩ (aj 0))))))))))
theorem CG(T:Txt K mg t):jg T 17 3 (aM 5 dX) 5:=bT (st:=sX) ["self","hand","term","whom","end"] (T.fn 17) iJ λh n u=>
 (aB (bD (SW.pt (zU (aV (Mz u) (aj 2) (aG (kc:=0) (aj 0) T.aP (T.me 11) (fP T) cC h.mo (T.b 11) .nil (ao (aj 1) az)) (aJ _)) (zT (uZ (aG (kc:=0) (aj 0) T.aP (T.me 14) (CJ T) cC h.mo (T.b 14) .nil (ao (aj 1) (ao (aj 2) (ao (aj 3) az)))))))) (aD (aK lH)) bw)
  (aB (bD (aV (cG u) (aj 3) (aj 1) (aJ _)) (aD (aK (dg Bu (aj 2) (aG (kc:=0) (aj 0) T.aP (T.me 11) (fP T) cC h.mo (T.b 11) .nil (ao (aj 1) az)) (aJ _)))) bw)
  (aD (aK (aG (kc:=0) (aj 0) T.aP (T.me 16) (uA T) cC h.mo (T.b 16) .nil (ao (aj 3) (ao (aj 2) (ao (aj 4) az))))))))
theorem e_(T:Txt K mg t):jg T 18 1 (aM 2 mV) 2:=bT (st:=sZ) ["self","term"] (T.fn 18) iJ λh n u=>
 (aD (aK (Wq u (aX (T.eY 4) (aj 0)) (aj 1))))
theorem Ag(T:Txt K mg t):jg T 19 1 (aM 1 Er) 1:=bT (st:=KZ) ["S"] (T.fn 19) iJ λh n u=>
 (aD (aK (Py rfl ["S"] [0] (sE rfl T.yp (ao (agk PySem.F.plainAttrs_int PySem.F.slot_int_bit_length PySem.F.type_int_bit_length aeh (aj 0)) az)) ⟨⟨rfl,rfl,by first | exact .inl rfl | exact .inr rfl⟩,jS⟩ (λ_ _ _ _ _=>(Wi (aV (rK u) (aO Ej (aj 1) (aO Mw aA (aj 0))) aA (aJ _)))) (λ_ _ _ _ _=>(aj 0)) (by decide +kernel) (by decide +kernel) (by decide +kernel) (by decide +kernel))))
theorem Al(T:Txt K mg t):jg T 20 2 (aM 4 lz) 4:=bT (st:=rF) ["self","voters","term","whom"] (T.fn 20) iJ λh n u=>
 (aD (aK (bJ (acu rfl) rfl T.abw acy (ao (Py rfl ["term","self","whom"] [2,0,3] (xT (aZ (Ag T) cC h.mo rfl (T.mf 19) (T.kp 19) (T.b 19) .nil (ao (aj 1) az))) ⟨⟨rfl,rfl,by first | exact .inl rfl | exact .inr rfl⟩,⟨⟨rfl,rfl,by first | exact .inl rfl | exact .inr rfl⟩,⟨⟨rfl,rfl,by first | exact .inl rfl | exact .inr rfl⟩,jS⟩⟩⟩ (λ_ _ _ _ _=>Ph) (λ_ _ _ _ _=>(dg (rK u) (aO Ej (aG (kc:=0) (aj 2) T.aP (T.me 12) (kW T) Tk.none h.mo (T.b 12) .nil (ao (aj 0) (ao (aj 1) az))) (aZ (Hy T) Tk.none h.mo rfl (T.mf 13) (T.kp 13) (T.b 13) .nil (ao (u9 (ao (aj 3) az)) az))) aA (aJ _))) (by decide +kernel) (by decide +kernel) (by decide +kernel) (by decide +kernel)) az))))
theorem Qf(T:Txt K mg t):jg T 21 2 (aM 1 VM) 1:=bT (st:=aar) ["S"] (T.fn 21) iJ λh n u=>
 (aD (aK (bJ i_ rfl T.m7 jb (ao (aZ (Ag T) cC h.mo rfl (T.mf 19) (T.kp 19) (T.b 19) .nil (ao (aj 0) az)) az))))
theorem Lf(T:Txt K mg t):ie P w K mg base (EY P w) (2+1) t.Cm t.wZ ["S","part","half"] (spS K t.c (aM 4 pP) 3):=bT (st:=mX) ["S","part","half","twice"] T.yG iJ λh n u=>
 (aB (bh (i:=3) n rfl je (aO VL aA (aZ (Qf T) cC h.mo rfl (T.mf 21) (T.kp 21) (T.b 21) .nil (ao (aO Ej (aj 0) (aj 1)) az))))
  (aB (bD (uZ (aj 2)) (aD (aK (dg XR (aj 3) (aZ (Qf T) cC h.mo rfl (T.mf 21) (T.kp 21) (T.b 21) .nil (ao (aj 1) az)) (aJ _)))) bw)
  (aD (aK (dg Bu (aj 3) (aZ (Qf T) cC h.mo rfl (T.mf 21) (T.kp 21) (T.b 21) .nil (ao (aj 1) az)) (aJ _))))))
theorem ad9(T:Txt K mg t):ie P w K mg base (EY P w) (3+1) t.Mh t.Mm ["roll","S","half"] (spS K t.c (aM 3 Bv) 3):=bT (st:=zX) ["roll","S","half"] T.QG iJ λh n u=>
 (aB (bD (Pk (uZ (aZ (Lf T) cC h.mo rfl T.DQ T.yG.kp T.pP .nil (ao (aj 1) (ao (aW u (aj 0) aA) (ao (aj 2) az)))))) (aD (aK lH)) bw)
  (aD (aK (RK (dg (cG u) (aW u (aj 0) aA) aA (aJ _)) (mq (aZ (Lf T) cC h.mo rfl T.DQ T.yG.kp T.pP .nil (ao (aj 1) (ao (aW u (aj 0) aA) (ao (aj 2) az)))))))))
theorem Dc(T:Txt K mg t):jg T 22 5 (aM 3 yM) 3:=bT (st:=FJ) ["self","roll","S"] (T.fn 22) iJ λh n u=>
 (aD (aK (aZ (ad9 T) cC h.mo rfl T.Df T.QG.kp T.Bv .nil (ao (aj 1) (ao (aj 2) (ao (aam (aX (T.iu 3) (aj 0))) az))))))
theorem An(T:Txt K mg t):jg T 23 6 (aM 6 cV) 6:=bT (st:=rH) ["self","hand","term","voters","end","roll"] (T.fn 23) iJ λh n u=>
 (aB (bD (SW.pt (zU (aV (rK u) (aG (kc:=0) (aj 0) T.aP (T.me 11) (fP T) cC h.mo (T.b 11) .nil (ao (aj 1) az)) (aj 2) (aJ _)) (zT (aV (cG u) (aG (kc:=0) (aj 0) T.aP (T.me 18) (e_ T) cC h.mo (T.b 18) .nil (ao (aj 2) az)) (aj 1) (aJ _))))) (aD (aK lH)) bw)
  (aB (bD (aV (rK u) (aG (kc:=0) (aj 0) T.aP (T.me 15) (oJ T) cC h.mo (T.b 15) .nil (ao (aj 1) (ao (aj 2) az))) (aj 4) (aJ _)) (aD (aK lH)) bw)
  (aD (aK (u_ (aG (kc:=0) (aj 0) T.aP (T.me 20) (Al T) cC h.mo (T.b 20) .nil (ao (aj 3) (ao (aj 2) (ao (aj 1) az)))) (mq (aG (kc:=6) (aX (cs:=[0,7,8]) ⟨⟨T.aP,(T.cQ.get (i:=0) rfl)⟩,⟨⟨T.aH,(T.cP.get (i:=1) rfl)⟩,(T.bf 1)⟩⟩ (aj 0)) T.n8 (T.me 22) (Dc T) cC h.mo (T.b 22) .nil (ao (aj 5) (ao (aj 3) az)))))))))
theorem wG(T:Txt K mg t):jg T 24 1 (aM 2 qZ) 1:=bT (st:=yR) ["entries","place"] (T.fn 24) iJ λh n u=>
 (aB (bh (i:=1) n rfl je (bJ i_ rfl T.m7 jb (ao (aj 0) az)))
  (aB (Rz (fO rfl rfl) (SW.pt (zV (aV Bu (aj 1) aA (aJ _)) (BX (aV (rK u) (aW u (aW u (aW u (aj 0) (aO Mv (aj 1) aA)) aA) aA) bF (aJ _))))) (aD (bh (i:=1) n rfl je (aO Mv (aj 1) aA))))
  (aD (aK (aj 1)))))
theorem Ld(T:Txt K mg t):jg T 25 2 (aM 4 Cr) 2:=bT (st:=Oa) ["entries","first_roll","place","what"] (T.fn 25) iJ λh n u=>
 (aB (bh (i:=2) n rfl je (aZ (wG T) cC h.mo rfl (T.mf 24) (T.kp 24) (T.b 24) .nil (ao (aj 0) az)))
  (aB (bD (aV (cG u) (aj 2) aA (aJ _)) (aD (aK (aj 1))) bw)
  (aB (bh (i:=3) n rfl je (aW u (aW u (aj 0) (aO Mv (aj 2) aA)) aA))
  (aD (aK (cA (ao (aW u (aj 3) aA) (ao (aW u (aj 3) aA) az))))))))
theorem Cw(T:Txt K mg t):jg T 26 3 (aM 2 mO) 2:=bT (st:=sJ) ["self","hand"] (T.fn 26) iJ λh n u=>
 (aD (aK (aZ (Ld T) cC h.mo rfl (T.mf 25) (T.kp 25) (T.b 25) .nil (ao (aG (kc:=7) (aj 0) T.aH (T.me 10) (eZ T) cC h.mo (T.b 10) .nil (ao (aj 1) az)) (ao (aX (T.cJ 0) (aj 0)) az)))))
theorem cH(T:Txt K mg t):jg T 27 1 (aM 2 ud) 2:=bT (st:=z6) ["self","term"] (T.fn 27) iJ λh n u=>
 (aD (aK (nF u (aX (T.cJ 3) (aj 0)) (aj 1) (cA az))))
theorem Cy(T:Txt K mg t):jg T 28 2 (aM 3 mQ) 3:=bT (st:=sO) ["self","term","place"] (T.fn 28) iJ λh n u=>
 (aD (aK (u_ (dg Dq aA (aj 2) (aJ _)) (mq (dg Dq (aj 2) (bJ i_ rfl T.m7 jb (ao (aG (kc:=7) (aj 0) T.aH (T.me 27) (cH T) cC h.mo (T.b 27) .nil (ao (aj 1) az)) az)) (aJ _))))))
theorem DN(T:Txt K mg t):jg T 29 1 (aM 2 oh) 2:=bT (st:=uH) ["self","term"] (T.fn 29) iJ λh n u=>
 (aD (aK (nF u (aX (T.oY 0) (aj 0)) (aj 1) aA)))
theorem Cz(T:Txt K mg t):jg T 30 2 (aM 3 mR) 3:=bT (st:=sU) ["self","term","beat"] (T.fn 30) iJ λh n u=>
 (aD (aK (u_ (dg Dq aA (aj 2) (aJ _)) (mq (dg Dq (aj 2) (aG (kc:=5) (aj 0) T.g_ (T.me 29) (DN T) cC h.mo (T.b 29) .nil (ao (aj 1) az)) (aJ _))))))
theorem Gk(T:Txt K mg t):jg T 31 3 (aM 6 pU) 5:=bT (st:=wB) ["self","hand","term","place","beat","chair"] (T.fn 31) iJ λh n u=>
 (aB (bh (i:=5) n rfl je (aG (kc:=0) (aX (T.bf 2) (aj 0)) T.aP (T.me 18) (e_ T) cC h.mo (T.b 18) .nil (ao (aj 2) az)))
  (aB (bD (SW.pt (zU (aV XN (aj 5) oX (aJ _)) (zU (aV (cG u) (aj 5) (aj 1) (aJ _)) (zT (aV (Mz u) (aj 2) (aG (kc:=0) (aX (T.bf 2) (aj 0)) T.aP (T.me 11) (fP T) cC h.mo (T.b 11) .nil (ao (aj 1) az)) (aJ _)))))) (aD (aK lH)) bw)
  (aD (aK (u_ (aG (kc:=7) (aX (T.bf 3) (aj 0)) T.aH (T.me 28) (Cy T) cC h.mo (T.b 28) .nil (ao (aj 2) (ao (aj 3) az))) (mq (aG (kc:=5) (aX (T.bf 4) (aj 0)) T.g_ (T.me 30) (Cz T) cC h.mo (T.b 30) .nil (ao (aj 2) (ao (aj 4) az)))))))))
theorem Ak(T:Txt K mg t):jg T 32 7 (aM 4 fu) 2:=bT (st:=rE) ["self","paper","hand","end"] (T.fn 32) iJ λh n u=>
 (@aB _ _ _ _ _ _ _ (bh (i:=2) n rfl je (aW u (aj 1) aA)) (@aB _ _ _ _ _ _ _ (bh (i:=3) n rfl je (aZ (Oi T) cC h.mo rfl (T.mf 9) (T.kp 9) (T.b 9) .nil (ao (aG (kc:=7) (aX (T.bf 3) (aj 0)) T.aH (T.me 10) (eZ T) cC h.mo (T.b 10) .nil (ao (aj 2) az)) az))) (@aB _ _ _ _ _ _ _ (bD (aV (cG u) (aW u (aj 1) aA) bF (aJ _)) (aD (aK (aG (kc:=0) (aX (T.bf 2) (aj 0)) T.aP (T.me 17) (CG T) cC h.mo (T.b 17) .nil (ao (aj 2) (ao (aW u (aj 1) aA) (ao (aW u (aj 1) aA) (ao (aj 3) az))))))) bw) (@aB _ _ _ _ _ _ _ (@bD _ _ _ _ _ _ _ _ _ _ (aV (cG u) (aW u (aj 1) aA) bF (aJ _)) (@aD _ _ _ _ _ (@aK _ _ _ _ _ _ (@aG _ _ _ _ _ _ _ _ _ _ _ _ _ _ _ _ _ (0) _ _ _ _ (aX (T.bf 2) (aj 0)) T.aP (T.me 23) (An T) cC h.mo (T.b 23) .nil (@aR _ _ _ _ _ _ _ (aj 2) (@aR _ _ _ _ _ _ _ (aW u (aj 1) aA) (@aR _ _ _ _ _ _ _ (aW u (aj 1) aA) (@aR _ _ _ _ _ _ _ (aj 3) (@aR _ _ _ _ _ _ _ (aG (kc:=7) (aX (T.bf 3) (aj 0)) T.aH (T.me 26) (Cw T) cC h.mo (T.b 26) .nil (ao (aj 2) az)) az rfl) rfl) rfl) rfl) rfl) rfl rfl rfl rfl))) bw) (aD (aK (aG (kc:=8) (aj 0) T.bO (T.me 31) (Gk T) cC h.mo (T.b 31) .nil (ao (aj 2) (ao (aW u (aj 1) aA) (ao (aW u (aj 1) aA) (ao (aW u (aj 1) aA) az)))))))))))
theorem Gm(T:Txt K mg t):jg T 33 2 (aM 2 kh) 2:=bT (st:=wC) ["self","term"] (T.fn 33) iJ λh n u=>
 (aD (aK (u_ (dg (XQ u) (aj 1) (aX (T.eY 4) (aj 0)) (by with_unfolding_all rfl)) (mq (dg (cG u) (aG (kc:=0) (aj 0) T.aP (T.me 11) (fP T) cC h.mo (T.b 11) .nil (ao (aW u (aX (T.eY 4) (aj 0)) (aj 1)) az)) (aj 1) (aJ _))))))
theorem Ge(T:Txt K mg t):jg T 34 1 (aM 4 j8) 2:=bT (st:=wj) ["entries","term","place","entry"] (T.fn 34) iJ λh n u=>
 (aB (oW (fO rfl rfl) rfl (aaj rfl T.Ay (aj 0) aA) (Pr rfl (lG (eX (i:=2) n rfl je) (lG (eX (i:=3) n rfl je) JS))) (aD (bD (aV (cG u) (aW u (aj 3) aA) (aj 1) (aJ _)) (aD (aK (aj 2))) bw)))
  (aD (aK oX)))
theorem zc(T:Txt K mg t):jg T 35 1 (aM 2 jQ) 2:=bT (st:=qp) ["self","term"] (T.fn 35) iJ λh n u=>
 (aD (aK (adq rfl rfl T.Lp (aan rfl ["other","mark"] ["term"] [1] (aX (T.cJ 4) (aj 0)) ⟨⟨rfl,rfl,by first | exact .inl rfl | exact .inr rfl⟩,jS⟩ (λ_ _ _ _ _=>(agf rfl (RC (Wm (i:=0) (show((["other","mark"]:List Str)++(["term"]:List Str)).Nodup from by decide +kernel) rfl (.inl (lookup_relabel_local rfl)) (by decide) (.inr (lookup_relabel_local rfl))) (RC (Wm (i:=1) (show((["other","mark"]:List Str)++(["term"]:List Str)).Nodup from by decide +kernel) rfl (.inl (lookup_relabel_local rfl)) (by decide) (.inr (lookup_relabel_local rfl))) adi)))) (λ_ _ _ _ _=>(Wi (aV Dq (aj 0) (aj 2) (aJ _)))) (λ_ _ _ _ _=>(aj 1)) (by decide +kernel) (by decide +kernel) (by decide +kernel)) aA)))
theorem qI(T:Txt K mg t):jg T 36 3 (aM 2 lq) 2:=bT (st:=rB) ["self","term"] (T.fn 36) iJ λh n u=>
 (aD (aK (aZ (Ld T) cC h.mo rfl (T.mf 25) (T.kp 25) (T.b 25) .nil (ao (aG (kc:=7) (aj 0) T.aH (T.me 27) (cH T) cC h.mo (T.b 27) .nil (ao (aj 1) az)) (ao (aX (T.cJ 0) (aj 0)) az)))))
theorem zb(T:Txt K mg t):jg T 37 4 (aM 4 jP) 3:=bT (st:=ql) ["self","term","what","roll"] (T.fn 37) iJ λh n u=>
 (aB (bD (aV Bu (aZ (wG T) cC h.mo rfl (T.mf 24) (T.kp 24) (T.b 24) .nil (ao (aG (kc:=7) (aj 0) T.aH (T.me 27) (cH T) cC h.mo (T.b 27) .nil (ao (aj 1) az)) az)) (aG (kc:=7) (aj 0) T.aH (T.me 35) (zc T) cC h.mo (T.b 35) .nil (ao (aj 1) az)) (aJ _)) (aD (aK lH)) bw)
  (aB (bh (i:=3) n rfl je (aG (kc:=7) (aj 0) T.aH (T.me 36) (qI T) cC h.mo (T.b 36) .nil (ao (aj 1) az)))
  (aB (bD (aV (cG u) (aW u (aj 3) aA) aA (aJ _)) (aD (aK (u_ (dg (cG u) (aW u (aj 2) aA) (aW u (aj 3) aA) (aJ _)) (mq (dg (rK u) (aW u (aj 2) aA) aA (aJ _)))))) bw)
  (aD (aK (dg (cG u) (aj 2) (cA (ao bF (ao (aW u (aj 3) aA) (ao aA az)))) (aJ _)))))))
theorem Ah(T:Txt K mg t):jg T 38 5 (aM 6 cU) 4:=bT (st:=rA) ["self","term","place","what","line","is_first"] (T.fn 38) iJ λh n u=>
 (aB (bh (i:=4) n rfl je (aG (kc:=7) (aj 0) T.aH (T.me 27) (cH T) cC h.mo (T.b 27) .nil (ao (aj 1) az)))
  (aB (bD (aV (rK u) (aj 2) (aO jL (bJ i_ rfl T.m7 jb (ao (aj 4) az)) aA) (aJ _)) (aD (aK lH)) bw)
  (aB (bh (i:=5) n rfl je (dg XN (aZ (Ge T) cC h.mo rfl (T.mf 34) (T.kp 34) (T.b 34) .nil (ao (aj 4) (ao (aj 1) az))) oX (aJ _)))
  (aB (bD (aV (rK u) (aj 5) (dg (cG u) (aj 3) (cA (ao bF az)) (aJ _)) (aJ _)) (aD (aK lH)) bw)
  (aD (aK (RK (dg (rK u) (aW u (aj 3) aA) bF (aJ _)) (mq (aG (kc:=7) (aj 0) T.aH (T.me 37) (zb T) cC h.mo (T.b 37) .nil (ao (aj 1) (ao (aj 3) az)))))))))))
theorem qW(T:Txt K mg t):jg T 39 1 (aM 2 uc) 2:=bT (st:=zZ) ["self","term"] (T.fn 39) iJ λh n u=>
 (aD (aK (nF u (aX (T.cJ 4) (aj 0)) (aj 1) aA)))
theorem oH(T:Txt K mg t):jg T 40 1 (aM 3 jN) 3:=bT (st:=qi) ["self","hand","term"] (T.fn 40) iJ λh n u=>
 (aD (aK (nF u (aX (T.cJ 5) (aj 0)) (cA (ao (aj 1) (ao (aj 2) az))) aA)))
theorem zf(T:Txt K mg t):jg T 41 2 (aM 5 jR) 5:=bT (st:=qt) ["self","chair","term","place","hands"] (T.fn 41) iJ λh n u=>
 (aD (aK (bJ (acu rfl) rfl T.abw acy (ao (Py rfl ["chair","place","term","self"] [1,3,2,0] (xT (aZ (Ag T) cC h.mo rfl (T.mf 19) (T.kp 19) (T.b 19) .nil (ao (aj 4) az))) ⟨⟨rfl,rfl,by first | exact .inl rfl | exact .inr rfl⟩,⟨⟨rfl,rfl,by first | exact .inl rfl | exact .inr rfl⟩,⟨⟨rfl,rfl,by first | exact .inl rfl | exact .inr rfl⟩,⟨⟨rfl,rfl,by first | exact .inl rfl | exact .inr rfl⟩,jS⟩⟩⟩⟩ (λ_ _ _ _ _=>Ph) (λ_ _ _ _ _=>(RK (dg (cG u) (aj 0) (aj 1) (aJ _)) (mq (dg XR (aG (kc:=7) (aj 4) T.aH (T.me 40) (oH T) Tk.none h.mo (T.b 40) .nil (ao (aj 0) (ao (aj 3) az))) (aj 2) (aJ _))))) (by decide +kernel) (by decide +kernel) (by decide +kernel) (by decide +kernel)) az))))
theorem xZ(T:Txt K mg t):jg T 42 6 (aM 3 jm) 3:=bT (st:=oG) ["self","term","hands"] (T.fn 42) iJ λh n u=>
 (aD (aK (aG (kc:=6) (aX (cs:=[0,7,8]) ⟨⟨T.aP,(T.cQ.get (i:=0) rfl)⟩,⟨⟨T.aH,(T.cP.get (i:=1) rfl)⟩,(T.bf 1)⟩⟩ (aj 0)) T.n8 (T.me 22) (Dc T) cC h.mo (T.b 22) .nil (ao (aG (kc:=7) (aj 0) T.aH (T.me 36) (qI T) cC h.mo (T.b 36) .nil (ao (aj 1) az)) (ao (aj 2) az)))))
theorem za(T:Txt K mg t):jg T 43 7 (aM 6 jO) 5:=bT (st:=qj) ["self","chair","term","place","hands","line"] (T.fn 43) iJ λh n u=>
 (aB (bh (i:=5) n rfl je (aG (kc:=7) (aj 0) T.aH (T.me 27) (cH T) cC h.mo (T.b 27) .nil (ao (aj 2) az)))
  (aB (bD (SW.pt (zU (aV Dq (aj 3) (aG (kc:=7) (aj 0) T.aH (T.me 39) (qW T) cC h.mo (T.b 39) .nil (ao (aj 2) az)) (aJ _)) (zT (aV Bu (aj 3) (bJ i_ rfl T.m7 jb (ao (aj 5) az)) (aJ _))))) (aD (aK lH)) bw)
  (aB (bD (SW.pt (zV (uZ (aX (T.iu 2) (aX (cs:=[0,7,8]) ⟨⟨T.aP,(T.cQ.get (i:=0) rfl)⟩,⟨⟨T.aH,(T.cP.get (i:=1) rfl)⟩,(T.bf 1)⟩⟩ (aj 0)))) (BX (aV (rK u) (aW u (aW u (aj 5) (aO Mv (aj 3) aA)) aA) (aj 2) (aJ _))))) (aD (aK lH)) bw)
  (aD (aK (u_ (aG (kc:=7) (aj 0) T.aH (T.me 41) (zf T) cC h.mo (T.b 41) .nil (ao (aj 1) (ao (aj 2) (ao (aj 3) (ao (aj 4) az))))) (mq (aG (kc:=7) (aj 0) T.aH (T.me 42) (xZ T) cC h.mo (T.b 42) .nil (ao (aj 2) (ao (aj 4) az))))))))))
theorem zp(T:Txt K mg t):jg T 44 8 (aM 3 gY) 2:=bT (st:=qD) ["self","paper","term"] (T.fn 44) iJ λh n u=>
 (aB (bh (i:=2) n rfl je (aW u (aj 1) aA))
  (aB (bD (aV (cG u) (aW u (aj 1) aA) bF (aJ _)) (aD (aK (aG (kc:=7) (aX (T.bf 3) (aj 0)) T.aH (T.me 38) (Ah T) cC h.mo (T.b 38) .nil (ao (aj 2) (ao (aW u (aj 1) aA) (ao (aW u (aj 1) aA) az)))))) bw)
  (aB (bD (aV (cG u) (aW u (aj 1) aA) bF (aJ _)) (aD qg) bw)
  (aB (bD (aV (cG u) (aW u (aj 1) aA) bF (aJ _)) (aD (aK (aG (kc:=7) (aX (T.bf 3) (aj 0)) T.aH (T.me 43) (za T) cC h.mo (T.b 43) .nil (ao (aG (kc:=0) (aX (T.bf 2) (aj 0)) T.aP (T.me 18) (e_ T) cC h.mo (T.b 18) .nil (ao (aj 2) az)) (ao (aj 2) (ao (aW u (aj 1) aA) (ao (aW u (aj 1) aA) az))))))) bw)
  (aB (bD (aV (cG u) (aW u (aj 1) aA) bF (aJ _)) (aD qg) bw)
  (aB (bD (aV (cG u) (aW u (aj 1) aA) bF (aJ _)) (aD qg) bw)
  (aD qg)))))))
theorem JF(T:Txt K mg t):jg T 45 9 (aM 2 di) 2:=bT (st:=Aa) ["self","paper"] (T.fn 45) iJ λh n u=>
 (aB (bD (SW.pt (zU (aV Bt (aX (T.bf 6) (aj 0)) oX (aJ _)) (zU (Pk (uZ (aZ (Qg T) cC h.mo rfl (T.mf 7) (T.kp 7) (T.b 7) .nil (ao (aj 1) az)))) (zT (aV (Mz u) (aZ (Vc T) cC h.mo rfl (T.mf 8) (T.kp 8) (T.b 8) .nil (ao (aj 1) az)) aA (aJ _)))))) (aD (aK lH)) bw)
  (aB (bD (aV (XQ u) (aW u (aj 1) aA) (Cd rfl T.uL λι n H=>T.uD _ ι n H) (by with_unfolding_all rfl)) (aD (aK (aG (kc:=8) (aj 0) T.bO (T.me 32) (Ak T) cC h.mo (T.b 32) .nil (ao (aj 1) az)))) bw)
  (aD (aK (u_ (aG (kc:=0) (aX (T.bf 2) (aj 0)) T.aP (T.me 33) (Gm T) cC h.mo (T.b 33) .nil (ao (aW u (aj 1) aA) az)) (mq (aG (kc:=8) (aj 0) T.bO (T.me 44) (zp T) cC h.mo (T.b 44) .nil (ao (aj 1) az))))))))
theorem Gj(T:Txt K mg t):ie P w K mg base Zz 1 t.iG t.j6 ["self","at"] (BZ K "at"):=
 acd (k:=0) T.uR Fy rfl λcdv A outer s H E=>WX (adL (pv 0) (pv 1) rfl)
theorem wH(T:Txt K mg t):jg T 46 1 (aM 3 rm) 3:=bT (st:=yU) ["self","hand","term"] (T.fn 46) iJ λh n u=>
 (aD (jX u (aX (T.eY 1) (aj 0)) (aj 1) (aj 2)))
theorem JH(T:Txt K mg t):jg T 47 2 (aM 5 uq) 5:=bT (st:=Ac) ["self","hand","term","whom","end"] (T.fn 47) iJ λh n u=>
 (aB (bD (aV (cG u) (aj 3) (aj 1) (aJ _)) (aD (jX u (aX (T.eY 3) (aj 0)) (cA (ao (aj 1) (ao (aj 2) az))) (aj 4))) bw)
  (aB (jX u (aX (T.eY 2) (aj 0)) (cA (ao (aj 1) (ao (aj 2) az))) (aO acA (aG (kc:=0) (aj 0) T.aP (T.me 12) (kW T) cC h.mo (T.b 12) .nil (ao (aj 1) (ao (aj 2) az))) (aZ (Hy T) cC h.mo rfl (T.mf 13) (T.kp 13) (T.b 13) .nil (ao (u9 (ao (aj 3) az)) az))))
  (aD (dH (aG (kc:=0) (aj 0) T.aP (T.me 46) (wH T) cC h.mo (T.b 46) .nil (ao (aj 1) (ao (aj 2) az)))))))
theorem Am(T:Txt K mg t):jg T 48 1 (aM 3 lE) 3:=bT (st:=rG) ["self","hand","term"] (T.fn 48) iJ λh n u=>
 (aD (jX u (aX (T.eY 4) (aj 0)) (aj 2) (aj 1)))
theorem zj(T:Txt K mg t):jg T 49 2 (aM 3 jT) 3:=bT (st:=qw) ["self","hand","term"] (T.fn 49) iJ λh n u=>
 (aD (jX u (aX (T.cJ 3) (aj 0)) (aj 2) (aG (kc:=7) (aj 0) T.aH (T.me 10) (eZ T) cC h.mo (T.b 10) .nil (ao (aj 1) az))))
theorem Gh(T:Txt K mg t):jg T 50 1 (aM 3 BJ) 3:=bT (st:=Il) ["one","two","place"] (T.fn 50) iJ λh n u=>
 (aD (aK (dg (cG u) (Px (aj 0) Ca (B_ (aj 2))) (Px (aj 1) Ca (B_ (aj 2))) (aJ _))))
theorem DK(T:Txt K mg t):jg T 51 2 (aM 4 n_) 3:=bT (st:=uG) ["self","lesser","greater","mark"] (T.fn 51) iJ λh n u=>
 (aB (bh (i:=3) n rfl je (aG (kc:=7) (aj 0) T.aH (T.me 39) (qW T) cC h.mo (T.b 39) .nil (ao (aj 1) az)))
  (aD (aK (RK (dg (cG u) (aj 3) aA (aJ _)) (mq (aZ (Gh T) cC h.mo rfl (T.mf 50) (T.kp 50) (T.b 50) .nil (ao (aG (kc:=7) (aj 0) T.aH (T.me 27) (cH T) cC h.mo (T.b 27) .nil (ao (aj 1) az)) (ao (aG (kc:=7) (aj 0) T.aH (T.me 27) (cH T) cC h.mo (T.b 27) .nil (ao (aj 2) az)) (ao (aj 3) az)))))))))
theorem xY(T:Txt K mg t):jg T 52 3 (aM 3 jl) 2:=bT (st:=oF) ["self","term","other"] (T.fn 52) iJ λh n u=>
 (aB (oW (fO rfl rfl) rfl (xT (bJ (VH rfl) rfl T.Tf Zj (ao (aX (T.cJ 3) (aj 0)) az))) (eX (i:=2) n rfl je) (aD (bD (Pk (uZ (aG (kc:=7) (aj 0) T.aH (T.me 51) (DK T) cC h.mo (T.b 51) .nil (ao (bJ (aeN rfl) rfl T.afE ah_ (ao (aj 2) (ao (aj 1) az))) (ao (bJ (G7 rfl) rfl T.Lp Ia (ao (aj 2) (ao (aj 1) az))) az))))) (aD (aK (bJ (G7 rfl) rfl T.Lp Ia (ao (aj 2) (ao (aj 1) az))))) bw)))
  (aD (aK oX)))
theorem tE(T:Txt K mg t):jg T 53 4 (aM 3 ou) 2:=bT (st:=uI) ["self","term","lost"] (T.fn 53) iJ λh n u=>
 (aB (bh (i:=2) n rfl je (aG (kc:=7) (aX (T.bf 3) (aj 0)) T.aH (T.me 52) (xY T) cC h.mo (T.b 52) .nil (ao (aj 1) az)))
  (aD (bD (aV Bt (aj 2) oX (aJ _)) (aD (cO (T.bf 6) (aj 0) (cA (ao bF (ao (aj 2) az))))) bw)))
theorem vp(T:Txt K mg t):jg T 54 5 (aM 3 iI) 3:=bT (st:=mY) ["self","hand","term"] (T.fn 54) iJ λh n u=>
 (aB (bD (aV Bt (aG (kc:=0) (aX (T.bf 2) (aj 0)) T.aP (T.me 18) (e_ T) cC h.mo (T.b 18) .nil (ao (aj 2) az)) oX (aJ _)) (aB (cO (T.bf 6) (aj 0) (cA (ao bF (ao (aj 2) az))))
  (aD adg)) bw)
  (aB (dH (aG (kc:=0) (aX (T.bf 2) (aj 0)) T.aP (T.me 48) (Am T) cC h.mo (T.b 48) .nil (ao (aj 1) (ao (aj 2) az))))
  (aB (dH (aG (kc:=7) (aX (T.bf 3) (aj 0)) T.aH (T.me 49) (zj T) cC h.mo (T.b 49) .nil (ao (aj 1) (ao (aj 2) az))))
  (aD (dH (aG (kc:=8) (aj 0) T.bO (T.me 53) (tE T) cC h.mo (T.b 53) .nil (ao (aj 2) az)))))))
theorem Yz(T:Txt K mg t):jg T 55 2 (aM 3 G9) 3:=bT (st:=RQ) ["line","row","place"] (T.fn 55) iJ λh n u=>
 (aB (bD (uZ (aZ (Gh T) cC h.mo rfl (T.mf 50) (T.kp 50) (T.b 50) .nil (ao (aj 1) (ao (aj 0) (ao (aj 2) az))))) (aD (aK (Px (aj 1) Ca Ca))) bw)
  (aD (aK (Px (aj 0) Ca (B_ (aj 2))))))
theorem Jy(T:Txt K mg t):jg T 56 3 (aM 4 t_) 4:=bT (st:=zY) ["self","hand","term","place"] (T.fn 56) iJ λh n u=>
 (aB (jX u (aX (T.cJ 2) (aj 0)) (aj 1) (aZ (Yz T) cC h.mo rfl (T.mf 55) (T.kp 55) (T.b 55) .nil (ao (aG (kc:=7) (aj 0) T.aH (T.me 27) (cH T) cC h.mo (T.b 27) .nil (ao (aj 2) az)) (ao (aG (kc:=7) (aj 0) T.aH (T.me 10) (eZ T) cC h.mo (T.b 10) .nil (ao (aj 1) az)) (ao (aj 3) az)))))
  (aD (jX u (aX (T.cJ 5) (aj 0)) (cA (ao (aj 1) (ao (aj 2) az))) (bJ (G7 rfl) rfl T.Lp Ia (ao (aj 3) (ao (aG (kc:=7) (aj 0) T.aH (T.me 40) (oH T) cC h.mo (T.b 40) .nil (ao (aj 1) (ao (aj 2) az))) az))))))
theorem Ai(T:Txt K mg t):jg T 57 1 (aM 3 lu) 3:=bT (st:=rC) ["self","hand","term"] (T.fn 57) iJ λh n u=>
 (aD (aK (nF u (aX (T.oY 1) (aj 0)) (cA (ao (aj 1) (ao (aj 2) az))) aA)))
theorem JC(T:Txt K mg t):jg T 58 2 (aM 4 ug) 4:=bT (st:=z9) ["self","hand","term","beat"] (T.fn 58) iJ λh n u=>
 (aD (jX u (aX (T.oY 1) (aj 0)) (cA (ao (aj 1) (ao (aj 2) az))) (bJ (G7 rfl) rfl T.Lp Ia (ao (aj 3) (ao (aG (kc:=5) (aj 0) T.g_ (T.me 57) (Ai T) cC h.mo (T.b 57) .nil (ao (aj 1) (ao (aj 2) az))) az)))))
theorem Aj(T:Txt K mg t):jg T 59 6 (aM 4 fj) 2:=bT (st:=rD) ["self","paper","hand","term"] (T.fn 59) iJ λh n u=>
 (aB (bh (i:=2) n rfl je (aW u (aj 1) aA))
  (aB (bh (i:=3) n rfl je (aW u (aj 1) aA))
  (aD (bD (aV (cG u) (aW u (aj 1) aA) bF (aJ _)) (aD (dH (aG (kc:=0) (aX (T.bf 2) (aj 0)) T.aP (T.me 47) (JH T) cC h.mo (T.b 47) .nil (ao (aj 2) (ao (aj 3) (ao (aW u (aj 1) aA) (ao (aZ (Oi T) cC h.mo rfl (T.mf 9) (T.kp 9) (T.b 9) .nil (ao (aG (kc:=7) (aX (T.bf 3) (aj 0)) T.aH (T.me 10) (eZ T) cC h.mo (T.b 10) .nil (ao (aj 2) az)) az)) az))))))) (aD (bD (aV (cG u) (aW u (aj 1) aA) bF (aJ _)) (aD (dH (aG (kc:=8) (aj 0) T.bO (T.me 54) (vp T) cC h.mo (T.b 54) .nil (ao (aj 2) (ao (aj 3) az))))) (aB (dH (aG (kc:=0) (aX (T.bf 2) (aj 0)) T.aP (T.me 46) (wH T) cC h.mo (T.b 46) .nil (ao (aj 2) (ao (aj 3) az))))
  (aB (dH (aG (kc:=7) (aX (T.bf 3) (aj 0)) T.aH (T.me 56) (Jy T) cC h.mo (T.b 56) .nil (ao (aj 2) (ao (aj 3) (ao (aW u (aj 1) aA) az)))))
  (aD (dH (aG (kc:=5) (aX (T.bf 4) (aj 0)) T.g_ (T.me 58) (JC T) cC h.mo (T.b 58) .nil (ao (aj 2) (ao (aj 3) (ao (aW u (aj 1) aA) az))))))))))))))
theorem HB(T:Txt K mg t):jg T 60 2 (aM 5 q_) 4:=bT (st:=yS) ["self","hand","term","what","entry"] (T.fn 60) iJ λh n u=>
 (aB (bh (i:=4) n rfl je (cA (ao (aj 2) (ao (aj 3) az))))
  (aB (jX u (aX (T.cJ 3) (aj 0)) (aj 2) (aO XX (aG (kc:=7) (aj 0) T.aH (T.me 27) (cH T) cC h.mo (T.b 27) .nil (ao (aj 2) az)) (cA (ao (aj 4) az))))
  (aD (jX u (aX (T.cJ 2) (aj 0)) (aj 1) (aO XX (aG (kc:=7) (aj 0) T.aH (T.me 10) (eZ T) cC h.mo (T.b 10) .nil (ao (aj 1) az)) (cA (ao (aj 4) az)))))))
theorem Gi(T:Txt K mg t):jg T 61 1 (aM 3 pQ) 3:=bT (st:=wz) ["self","term","place"] (T.fn 61) iJ λh n u=>
 (aD (jX u (aX (T.cJ 4) (aj 0)) (aj 1) (aj 2)))
theorem zm(T:Txt K mg t):jg T 62 5 (aM 3 gW) 2:=bT (st:=qz) ["self","paper","term"] (T.fn 62) iJ λh n u=>
 (aB (bh (i:=2) n rfl je (aW u (aj 1) aA))
  (aD (bD (aV (cG u) (aW u (aj 1) aA) bF (aJ _)) (aD (dH (aG (kc:=7) (aX (T.bf 3) (aj 0)) T.aH (T.me 60) (HB T) cC h.mo (T.b 60) .nil (ao (aG (kc:=0) (aX (T.bf 2) (aj 0)) T.aP (T.me 18) (e_ T) cC h.mo (T.b 18) .nil (ao (aj 2) az)) (ao (aj 2) (ao (aW u (aj 1) aA) az)))))) (aD (bD (aV (cG u) (aW u (aj 1) aA) bF (aJ _)) (aD qg) (aD (bD (aV (cG u) (aW u (aj 1) aA) bF (aJ _)) (aB (dH (aG (kc:=7) (aX (T.bf 3) (aj 0)) T.aH (T.me 61) (Gi T) cC h.mo (T.b 61) .nil (ao (aj 2) (ao (aW u (aj 1) aA) az))))
  (aD (dH (aG (kc:=8) (aj 0) T.bO (T.me 53) (tE T) cC h.mo (T.b 53) .nil (ao (aj 2) az))))) (aD (bD (aV (cG u) (aW u (aj 1) aA) bF (aJ _)) (aD qg) (aD (bD (aV (cG u) (aW u (aj 1) aA) bF (aJ _)) (aD qg) bw)))))))))))
theorem gZ(T:Txt K mg t):jg T 63 10 (aM 2 fJ) 2:=bT (st:=FP) ["self","paper"] (T.fn 63) iJ λh n u=>
 (aB (bD (Pk (uZ (aG (kc:=8) (aj 0) T.bO (T.me 45) (JF T) cC h.mo (T.b 45) .nil (ao (aj 1) az)))) (aD (aag (c:=2) T.Ih T.Ii (Gj T) h.mo T.w6 rfl T.Aw rfl cC (ao (aX (T.bf 5) (aj 0)) az))) bw)
  (aB (cO (T.bf 5) (aj 0) (aO jL (aX (T.bf 5) (aj 0)) aA))
  (aD (bD (aV (XQ u) (aW u (aj 1) aA) (Cd rfl T.uL λι n H=>T.uD _ ι n H) (by with_unfolding_all rfl)) (aD (dH (aG (kc:=8) (aj 0) T.bO (T.me 59) (Aj T) cC h.mo (T.b 59) .nil (ao (aj 1) az)))) (aD (dH (aG (kc:=8) (aj 0) T.bO (T.me 62) (zm T) cC h.mo (T.b 62) .nil (ao (aj 1) az))))))))
theorem Ir(T:Txt K mg t):jg T 64 1 (aM 5 Eo) 2:=bT (st:=KR) ["_law_line","_law_first","_law_found","_law_term","_law_what"] (T.fn 64) iJ λh n u=>
 (aB (bh (i:=2) n rfl je (cA (ao (aj 1) (ao aA az))))
  (aB (oW (fO rfl rfl) rfl (xT (aj 0)) (Pr rfl (lG (eX (i:=3) n rfl je) (lG (eX (i:=4) n rfl je) JS))) (aD (bD (aV (cG u) (aW u (aj 4) aA) bF (aJ _)) (aD (bh (i:=2) n rfl je (cA (ao (aW u (aj 4) aA) (ao (aW u (aj 4) aA) az))))) bw)))
  (aD (aK (aj 2)))))
theorem Gg(T:Txt K mg t):jg T 65 11 (aM 11 Bw) 7:=bT (st:=Ij) ["_law_bench","_law_hands","_law_first","_law_k","_law_term","_law_row","_law_cell","_law_hand","_law_other","_law_step","_law_what"] (T.fn 65) iJ λh n u=>
 (aB (bh (i:=7) n rfl je (aW u (aj 1) (aj 3)))
  (aB (oW (fO rfl rfl) rfl (sE rfl T.yp (ao aA az)) (eX (i:=8) n rfl je) (aD (bD (aV (cG u) (aj 8) (aj 3) (aJ _)) (aD (dH (aG (kc:=8) (aj 0) T.bO (T.me 63) (gZ T) cC h.mo (T.b 63) .nil (ao (cA (ao bF (ao (aj 7) (ao (aj 4) (ao (aj 7) az))))) az)))) bw)))
  (aB (oW (fO rfl rfl) rfl (xT (u9 (ao aA (ao aA (ao aA az))))) (eX (i:=8) n rfl je) (aD (dH (aG (kc:=8) (aj 0) T.bO (T.me 63) (gZ T) cC h.mo (T.b 63) .nil (ao (cA (ao bF (ao (aW u (aj 1) (aj 8)) (ao (aj 4) (ao (aj 7) az))))) az)))))
  (aB (dH (aG (kc:=8) (aj 0) T.bO (T.me 63) (gZ T) cC h.mo (T.b 63) .nil (ao (cA (ao bF (ao (aj 7) (ao (aj 4) (ao (aO jL (aO Mw aA (aj 7)) (aZ (xX T) cC h.mo rfl (T.mf 1) (T.kp 1) (T.b 1) .nil (ao aA (ao (aj 1) az)))) az))))) az)))
  (aB (oW (fO rfl rfl) rfl (sE rfl T.yp (ao (aO jL aA (aO iH (aj 6) aA)) az)) (eX (i:=9) n rfl je) (aB (bh (i:=10) n rfl je (cA (ao bF az)))
  (aB (bD (aV Bu (aj 9) aA (aJ _)) (aD (bh (i:=10) n rfl je (cA (ao bF (ao (aO iH (aO lg (aj 6) aA) (aO VJ aA aA)) (ao (aj 9) (ao (cA (ao bF (ao bF (ao (aO iH (aj 6) (aO VJ aA aA)) az)))) az))))))) bw)
  (aB (bD (SW.pt (zV (aV (cG u) (aj 9) aA (aJ _)) (zV (aV (cG u) (aO iH (aO lg (aj 6) aA) aA) aA (aJ _)) (zV (aV (cG u) (aj 3) aA (aJ _)) (BX (aV (cG u) (aW u (aZ (Ir T) cC h.mo rfl (T.mf 64) (T.kp 64) (T.b 64) .nil (ao (aj 5) (ao (aj 2) az))) aA) aA (aJ _))))))) (aD (bh (i:=10) n rfl je (cA (ao bF (ao (aj 2) (ao (aZ (xX T) cC h.mo rfl (T.mf 1) (T.kp 1) (T.b 1) .nil (ao (aO jL aA (aO iH (aO lg (aj 6) aA) aA)) (ao (aj 1) az))) az)))))) bw)
  (aB (dH (aG (kc:=8) (aj 0) T.bO (T.me 63) (gZ T) cC h.mo (T.b 63) .nil (ao (cA (ao bF (ao (aj 4) (ao (aO jL (bJ i_ rfl T.m7 jb (ao (aj 5) az)) aA) (ao (aj 10) az))))) az)))
  (aD (dH (aap PySem.F.plainAttrs_list PySem.F.slot_list_append PySem.F.type_list_append YF (aj 5) (ao (cA (ao (aj 4) (ao (aj 10) az))) az)))))))))
  (aD (aK (aj 5))))))))
theorem Gf(T:Txt K mg t):jg T 66 11 (aM 5 pO) 5:=bT (st:=wu) ["_law_bench","_law_hands","_law_term","_law_most","_law_cell"] (T.fn 66) iJ λh n u=>
 (@aB _ _ _ _ _ _ _ (@dH _ _ _ _ _ _ (@aG _ _ _ _ _ _ _ _ _ _ _ _ _ _ _ _ _ (8) _ _ _ _ (aj 0) T.bO (T.me 63) (gZ T) cC h.mo (T.b 63) .nil (@ao _ _ _ _ _ _ _ (@cA _ _ _ _ _ _ _ (@aR _ _ _ _ _ _ _ bF (@aR _ _ _ _ _ _ _ (aW u (aj 1) aA) (@aR _ _ _ _ _ _ _ (aj 2) (@aR _ _ _ _ _ _ _ (aO iH (aj 4) (aO jL (aj 3) aA)) (@aR _ _ _ _ _ _ _ aA az rfl) rfl) rfl) rfl) rfl)) az rfl) rfl rfl rfl rfl) rfl) (aD (aK (aO iH (aj 4) (aO jL (aj 3) aA)))))
theorem Sy(T:Txt K mg t):jg T 67 11 (aM 5 El) 5:=bT (st:=KN) ["_law_bench","_law_tolds","_law_hand","_law_term","_law_place"] (T.fn 67) iJ λh n u=>
 (@aB _ _ _ _ _ _ _ (@dH _ _ _ _ _ _ (@aG _ _ _ _ _ _ _ _ _ _ _ _ _ _ _ _ _ (8) _ _ _ _ (aj 0) T.bO (T.me 63) (gZ T) cC h.mo (T.b 63) .nil (@ao _ _ _ _ _ _ _ (@cA _ _ _ _ _ _ _ (@aR _ _ _ _ _ _ _ bF (@aR _ _ _ _ _ _ _ (aj 2) (@aR _ _ _ _ _ _ _ (aj 3) (@aR _ _ _ _ _ _ _ (aj 4) (@aR _ _ _ _ _ _ _ aA az rfl) rfl) rfl) rfl) rfl)) az rfl) rfl rfl rfl rfl) rfl) (aD (jX u (aj 1) (aj 2) (bJ (G7 rfl) rfl T.Lp Ia (ao (aj 4) (ao (nF u (aj 1) (aj 2) aA) az))))))
theorem SJ(T:Txt K mg t):jg T 68 2 (aM 6 Em) 4:=bT (st:=KQ) ["_law_cell","_law_hands","_law_tolds","_law_place","_law_some_here","_law_hand"] (T.fn 68) iJ λh n u=>
 (aB (bh (i:=4) n rfl je (aZ (xX T) cC h.mo rfl (T.mf 1) (T.kp 1) (T.b 1) .nil (ao (aO iH (aO lg (aj 0) aA) aA) (ao (aj 1) az))))
  (aB (bD (aV Bu (aO iH (aj 0) aA) aA (aJ _)) (aB (bh (i:=4) n rfl je aA)
  (aD (oW (fO rfl rfl) rfl (xT (aj 1)) (eX (i:=5) n rfl je) (aD (bD (aV XR (nF u (aj 2) (aj 5) aA) (aj 3) (aJ _)) (aD (bh (i:=4) n rfl je (aO acA (aj 4) (aO Mw aA (aj 5))))) bw))))) bw)
  (aD (aK (aj 4)))))
theorem Iu(T:Txt K mg t):jg T 69 1 (aM 2 Ep) 1:=bT (st:=KY) ["_law_some_here","_law_count"] (T.fn 69) iJ λh n u=>
 (aB (bh (i:=1) n rfl je aA)
  (aB (Rz (fO rfl rfl) (aV Bu (aj 0) aA (aJ _)) (aB (bh (i:=1) n rfl je (aO jL (aj 1) (aO iH (aj 0) aA)))
  (aD (bh (i:=0) n rfl je (aO lg (aj 0) aA)))))
  (aD (aK (aj 1)))))
theorem Sx(T:Txt K mg t):jg T 70 2 (aM 4 Ek) 3:=bT (st:=KJ) ["_law_roll_here","_law_some_here","_law_half","_law_part"] (T.fn 70) iJ λh n u=>
 (aB (oW (fO rfl rfl) rfl (xT (aj 0)) (eX (i:=3) n rfl je) (aD (bD (SW.pt (zV (aV (rK u) (aj 3) aA (aJ _)) (BX (aV Dq (aO jL (aO VL aA (aZ (Iu T) cC h.mo rfl (T.mf 69) (T.kp 69) (T.b 69) .nil (ao (aO Ej (aj 3) (aj 1)) az))) (aj 2)) (aZ (Iu T) cC h.mo rfl (T.mf 69) (T.kp 69) (T.b 69) .nil (ao (aj 3) az)) (aJ _))))) (aD (aK lH)) bw)))
  (aD (aK lH)))
theorem Vd(T:Txt K mg t):jg T 71 3 (aM 11 Ie) 6:=bT (st:=Oc) ["_law_paper","_law_line","_law_first","_law_tolds","_law_mark","_law_words","_law_word","_law_term","_law_place","_law_some_here","_law_hand"] (T.fn 71) iJ λh n u=>
 (aB (age (aj 0) (Pr rfl (lG (eX (i:=6) n rfl je) (lG (eX (i:=7) n rfl je) (lG (eX (i:=8) n rfl je) (lG (eX (i:=9) n rfl je) JS))))))
  (aB (bD (SW.pt (zU (aV Dq (aj 8) (aj 4) (aJ _)) (zU (aV Bu (aj 8) (bJ i_ rfl T.m7 jb (ao (aj 1) az)) (aJ _)) (zT (SW.pt (zV (aV (cG u) (aW u (aj 5) aA) aA (aJ _)) (BX (aV (rK u) (aW u (aW u (aj 1) (aO Mv (aj 8) aA)) aA) (aj 7) (aJ _))))))))) (aD (aK lH)) bw)
  (aB (oW (fO rfl rfl) rfl (sE rfl T.yp (ao aA az)) (eX (i:=10) n rfl je) (aD (bD (SW.pt (zV (aV (cG u) (aO Ej (aO acz (aj 9) (aj 10)) aA) aA (aJ _)) (BX (aV (Mz u) (nF u (aj 3) (aj 10) aA) (aj 8) (aJ _))))) (aD (aK lH)) bw)))
  (aD (aK (aZ (Sx T) cC h.mo rfl (T.mf 70) (T.kp 70) (T.b 70) .nil (ao (aZ (Ir T) cC h.mo rfl (T.mf 64) (T.kp 64) (T.b 64) .nil (ao (aj 1) (ao (aj 2) az))) (ao (aj 9) (ao (aW u (aj 5) aA) az)))))))))
theorem Le(T:Txt K mg t):jg T 72 11 (aM 3 qb) 2:=bT (st:=CW) ["_law_bench","_law_paper","_law_refused_here"] (T.fn 72) iJ λh n u=>
 (aB (bh (i:=2) n rfl je lH)
  (aB (agd (cl:=[(1,false),(2,true)]) (v:= .ref (t.c 2)) (cv:= .ref (t.c 2)) rfl rfl cC (λ_ z=>z) (λ_=>Qc (v:= .ref (t.c 2)) rfl T.Aw rfl) ⟨T.oE,⟨T.qe,jS⟩⟩ (λ_ _=>(aD (dH (aG (kc:=8) (aj 0) T.bO (T.me 63) (gZ T) cC h.mo (T.b 63) .nil (ao (aj 1) az))))) (λ_=>(aD (bh (i:=2) n rfl je lH))))
  (aD (aK (aj 2)))))
theorem JD(T:Txt K mg t):jg T 73 1 (aM 1 uh) 1:=bT (st:=z_) ["self"] (T.fn 73) iJ λh n u=>
 (aD (aK (aX (T.bf 6) (aj 0))))
theorem Dd(T:Txt K mg t):jg T 74 2 (aM 2 yO) 2:=bT (st:=FQ) ["self","term"] (T.fn 74) iJ λh n u=>
 (aD (aK (aG (kc:=7) (aX (T.bf 3) (aj 0)) T.aH (T.me 39) (qW T) cC h.mo (T.b 39) .nil (ao (aj 1) az))))
theorem De(T:Txt K mg t):jg T 75 2 (aM 2 yP) 2:=bT (st:=FT) ["self","term"] (T.fn 75) iJ λh n u=>
 (aD (aK (aao aeO rfl T.abv aeV (ao (aG (kc:=7) (aX (T.bf 3) (aj 0)) T.aH (T.me 27) (cH T) cC h.mo (T.b 27) .nil (ao (aj 1) az)) az))))
theorem ahh(T:Txt K mg t):jg T 76 12 (aM 19 acG) 1:=bT (st:=afr) ["_law_script","_law_hands","_law_first","_law_words","_law_text","_law_bench","_law_term","_law_ahead","_law_later","_law_size","_law_line","_law_lines","_law_tolds","_law_marks","_law_cell","_law_at","_law_place","_law_paper","_law_due_here"] (T.fn 76) iJ λh n u=>
 (@aB _ _ _ _ _ _ _ (adh (k:=1) rfl ["_law_script"] [0] n rfl rfl (sE rfl T.yp (ao aA az)) ⟨⟨rfl,rfl,by first | exact .inl rfl | exact .inr rfl⟩,jS⟩ (λ_ _ _ _ _=>Ph) (λ_ _ _ _ _=>(aO jL (aO iH (aZ (dI T) Tk.none h.mo rfl (T.mf 0) (T.kp 0) (T.b 0) .nil (ao (aj 1) (ao aA az))) aA) (aO VL aA (aj 0)))) (by decide +kernel) (by decide +kernel) (by decide +kernel) (by decide +kernel)) (@aB _ _ _ _ _ _ _ (@bh _ _ _ _ _ _ (2) _ _ n rfl je (@aZ _ _ _ _ _ _ _ _ _ _ _ _ _ _ _ _ _ _ (xX T) cC h.mo rfl (T.mf 1) (T.kp 1) (T.b 1) .nil (@ao _ _ _ _ _ _ _ (@aW _ _ _ _ _ _ _ _ u (@u9 _ _ _ _ _ _ (@aR _ _ _ _ _ _ _ aA (@aR _ _ _ _ _ _ _ aA (@aR _ _ _ _ _ _ _ aA (@aR _ _ _ _ _ _ _ aA (@aR _ _ _ _ _ _ _ aA az rfl) rfl) rfl) rfl) rfl)) (aO iH (aO lg (aZ (dI T) cC h.mo rfl (T.mf 0) (T.kp 0) (T.b 0) .nil (ao (aj 0) (ao aA az))) aA) aA) (by exact λ_ _=>rfl)) (ao (aj 1) az) rfl) (by decide) rfl rfl rfl) rfl (by first | exact .inl rfl | exact .inr rfl | assumption)) (@aB _ _ _ _ _ _ _ (bh (i:=3) n rfl je (cA (ao (aO lg (aO iH (aZ (dI T) cC h.mo rfl (T.mf 0) (T.kp 0) (T.b 0) .nil (ao (aj 0) (ao aA az))) aA) aA) (ao (aO lg (aO iH (aO lg (aZ (dI T) cC h.mo rfl (T.mf 0) (T.kp 0) (T.b 0) .nil (ao (aj 0) (ao aA az))) aA) aA) aA) az)))) (@aB _ _ _ _ _ _ _ (bh (i:=4) n rfl je (aap PySem.F.plainAttrs_str PySem.F.slot_str_join PySem.F.type_str_join aeg bF (ao (u9 (ao bF (ao bF (ao (aW u (u9 (ao bF (ao bF az))) (aW u (aj 3) aA)) (ao (aW u (u9 (ao bF (ao bF az))) (aW u (aj 3) aA)) az))))) az))) (@aB _ _ _ _ _ _ _ (bh (i:=5) n rfl je (JT (kc:=8) T.wM (Nk T) cC h.mo rfl T.S_ T.j_ .nil (ao (aj 2) (ao (JT (kc:=6) T.qJ (vm T) cC h.mo rfl T.Gq T.j9 .nil (ao (aj 4) az)) az)))) (@aB _ _ _ _ _ _ _ (bh (i:=6) n rfl je (aO jL aA (aO iH (aO lg (aZ (dI T) cC h.mo rfl (T.mf 0) (T.kp 0) (T.b 0) .nil (ao (aj 0) (ao aA az))) aA) (aO VJ aA aA)))) (@aB _ _ _ _ _ _ _ (@bh _ _ _ _ _ _ (7) _ _ n rfl je (@aZ _ _ _ _ _ _ _ _ _ _ _ _ _ _ _ _ _ _ (Gg T) cC h.mo rfl (T.mf 65) (T.kp 65) (T.b 65) .nil (@aR _ _ _ _ _ _ _ (aj 5) (@aR _ _ _ _ _ _ _ (aj 1) (@aR _ _ _ _ _ _ _ (aj 2) (@aR _ _ _ _ _ _ _ aA (@aR _ _ _ _ _ _ _ (aj 6) (@aR _ _ _ _ _ _ _ (u9 az) (@aR _ _ _ _ _ _ _ (aZ (dI T) cC h.mo rfl (T.mf 0) (T.kp 0) (T.b 0) .nil (ao (aj 0) (ao aA az))) az rfl) rfl) rfl) rfl) rfl) rfl) rfl) (by decide) rfl rfl rfl) rfl (by first | exact .inl rfl | exact .inr rfl | assumption)) (@aB _ _ _ _ _ _ _ (bh (i:=8) n rfl je (aO jL (aO jL (aj 6) aA) (aO iH (aO lg (aZ (dI T) cC h.mo rfl (T.mf 0) (T.kp 0) (T.b 0) .nil (ao (aj 0) (ao aA az))) aA) aA))) (@aB _ _ _ _ _ _ _ (@bh _ _ _ _ _ _ (9) _ _ n rfl je (@aZ _ _ _ _ _ _ _ _ _ _ _ _ _ _ _ _ _ _ (Gf T) cC h.mo rfl (T.mf 66) (T.kp 66) (T.b 66) .nil (@aR _ _ _ _ _ _ _ (aj 5) (@aR _ _ _ _ _ _ _ (aj 1) (@aR _ _ _ _ _ _ _ (aj 6) (@aR _ _ _ _ _ _ _ (bJ i_ rfl T.m7 jb (ao (aj 7) az)) (@aR _ _ _ _ _ _ _ (aZ (dI T) cC h.mo rfl (T.mf 0) (T.kp 0) (T.b 0) .nil (ao (aj 0) (ao aA az))) az rfl) rfl) rfl) rfl) rfl) (by decide) rfl rfl rfl) rfl (by first | exact .inl rfl | exact .inr rfl | assumption)) (@aB _ _ _ _ _ _ _ (@bh _ _ _ _ _ _ (10) _ _ n rfl je (@aZ _ _ _ _ _ _ _ _ _ _ _ _ _ _ _ _ _ _ (Gg T) cC h.mo rfl (T.mf 65) (T.kp 65) (T.b 65) .nil (@aR _ _ _ _ _ _ _ (aj 5) (@aR _ _ _ _ _ _ _ (aj 1) (@aR _ _ _ _ _ _ _ (aj 2) (@aR _ _ _ _ _ _ _ aA (@aR _ _ _ _ _ _ _ (aj 8) (@aR _ _ _ _ _ _ _ (afq (aj 7) Ca (B_ (aj 9))) (@aR _ _ _ _ _ _ _ (aO lg (aZ (dI T) cC h.mo rfl (T.mf 0) (T.kp 0) (T.b 0) .nil (ao (aj 0) (ao aA az))) aA) az rfl) rfl) rfl) rfl) rfl) rfl) rfl) (by decide) rfl rfl rfl) rfl (by first | exact .inl rfl | exact .inr rfl | assumption)) (@aB _ _ _ _ _ _ _ (bh (i:=11) n rfl je (Fx (ms:=[((aq 6),(aq 7)),((aq 8),(aq 10))]) (nG (aj 6) (aj 7) (nG (aj 8) (aj 10) F_)))) (@aB _ _ _ _ _ _ _ (bh (i:=12) n rfl je (Fx (ms:=[((aq 6),(m_ [((aC a_ (aq 1) (mC (.int 0))),(mC (.int 100))),((aC a_ (aq 1) (mC (.int 1))),(aq 9))])),((aq 8),(m_ [((aC a_ (aq 1) (mC (.int 1))),(mC (.int 100)))]))]) (nG (aj 6) (Fx (ms:=[((aC a_ (aq 1) (mC (.int 0))),(mC (.int 100))),((aC a_ (aq 1) (mC (.int 1))),(aq 9))]) (nG (aW u (aj 1) aA) aA (nG (aW u (aj 1) aA) (aj 9) F_))) (nG (aj 8) (Fx (ms:=[((aC a_ (aq 1) (mC (.int 1))),(mC (.int 100)))]) (nG (aW u (aj 1) aA) aA F_)) F_)))) (@aB _ _ _ _ _ _ _ (bh (i:=13) n rfl je (Fx (ms:=[((aq 6),(mC (.int 0))),((aq 8),(mC (.int 0)))]) (nG (aj 6) aA (nG (aj 8) aA F_)))) (@aB _ _ _ _ _ _ _ (@oW _ _ _ _ _ _ _ _ _ _ (fO rfl rfl) rfl (xT (afq (aj 0) (B_ aA) (B_ aA))) (eX (i:=14) n rfl je) (@aB _ _ _ _ _ _ _ (bh (i:=15) n rfl je (aW u (u9 (ao (aj 8) (ao (aj 8) (ao (aj 8) (ao (aj 6) az))))) (aO iH (aO lg (aj 14) aA) aA))) (@aB _ _ _ _ _ _ _ (bh (i:=16) n rfl je (aO iH (aO lg (aj 14) aA) (aO jL (bJ i_ rfl T.m7 jb (ao (aW u (aj 11) (aj 15)) az)) aA))) (@aB _ _ _ _ _ _ _ (@bD _ _ _ _ _ _ _ _ _ _ (aV (cG u) (aO iH (aj 14) aA) aA (aJ _)) (@aB _ _ _ _ _ _ _ (@bD _ _ _ _ _ _ _ _ _ _ (aV Dq (aj 16) (bJ i_ rfl T.m7 jb (ao (aj 10) az)) (aJ _)) (@aD _ _ _ _ _ (@dH _ _ _ _ _ _ (@aZ _ _ _ _ _ _ _ _ _ _ _ _ _ _ _ _ _ _ (Sy T) cC h.mo rfl (T.mf 67) (T.kp 67) (T.b 67) .nil (@aR _ _ _ _ _ _ _ (aj 5) (@aR _ _ _ _ _ _ _ (aW u (aj 12) (aj 8)) (@aR _ _ _ _ _ _ _ (aW u (aj 1) (aO jL aA (aO iH (aO lg (aj 14) aA) aA))) (@aR _ _ _ _ _ _ _ (aj 8) (@aR _ _ _ _ _ _ _ (aj 16) az rfl) rfl) rfl) rfl) rfl) (by decide) rfl rfl rfl) rfl)) bw) (aD RB)) bw) (@aB _ _ _ _ _ _ _ (bh (i:=17) n rfl je (cA (ao bF (ao (aj 15) (ao (aj 16) (ao (aZ (SJ T) cC h.mo rfl (T.mf 68) (T.kp 68) (T.b 68) .nil (ao (aO lg (aj 14) aA) (ao (aj 1) (ao (aW u (aj 12) (aj 15)) (ao (aj 16) az))))) az)))))) (@aB _ _ _ _ _ _ _ (@bh _ _ _ _ _ _ (18) _ _ n rfl je (@aZ _ _ _ _ _ _ _ _ _ _ _ _ _ _ _ _ _ _ (Vd T) cC h.mo rfl (T.mf 71) (T.kp 71) (T.b 71) .nil (@aR _ _ _ _ _ _ _ (aj 17) (@aR _ _ _ _ _ _ _ (aW u (aj 11) (aj 15)) (@aR _ _ _ _ _ _ _ (aj 2) (@aR _ _ _ _ _ _ _ (aW u (aj 12) (aj 15)) (@aR _ _ _ _ _ _ _ (aW u (aj 13) (aj 15)) (@aR _ _ _ _ _ _ _ (aj 3) az rfl) rfl) rfl) rfl) rfl) rfl) (by decide) rfl rfl rfl) rfl (by first | exact .inl rfl | exact .inr rfl | assumption)) (aB (bD (aV (cG u) (aZ (Le T) cC h.mo rfl (T.mf 72) (T.kp 72) (T.b 72) .nil (ao (aj 5) (ao (aj 17) az))) (aj 18) (aJ _)) (aD (aK lH)) bw)
  (aB (bD (uZ (aj 18)) (aD (jX u (aj 13) (aj 15) (aj 16))) bw)
  (aB (bD (SW.pt (zU (aV Bt (RL (kc:=8) (aj 5) T.bO (T.me 73) (JD T) cC h.mo (T.b 73) .nil) oX (aJ _)) (zT (aV (rK u) (aG (kc:=8) (aj 5) T.bO (T.me 74) (Dd T) cC h.mo (T.b 74) .nil (ao (aj 6) az)) (aW u (aj 13) (aj 6)) (aJ _))))) (aD (aK lH)) bw)
  (aD (bD (aV (rK u) (aG (kc:=8) (aj 5) T.bO (T.me 74) (Dd T) cC h.mo (T.b 74) .nil (ao (aj 8) az)) (aW u (aj 13) (aj 8)) (aJ _)) (aD (aK lH)) bw)))))))))) (by intro _ ;rfl)) (aD (aK (u_ (dg (cG u) (aG (kc:=8) (aj 5) T.bO (T.me 75) (De T) cC h.mo (T.b 75) .nil (ao (aj 6) az)) (aj 7) (aJ _)) (mq (dg (cG u) (aG (kc:=8) (aj 5) T.bO (T.me 75) (De T) cC h.mo (T.b 75) .nil (ao (aj 8) az)) (aj 10) (aJ _))))))))))))))))))))
theorem YS(T:Txt K mg t)(s:Shared)(u:Value):BindsTo s (t.d 76) ⟨[u],[]⟩ [("_law_script",u)]:=by
 obtain⟨oc,od,kV,doc,pm,an,cdv,ct,osl,e,_⟩:=(T.fn 76 rfl).ex
 rw[e]
 exact .of_eq rfl
theorem ad_(T:Txt K mg t):ie P w K mg base Zz 12 (t.f 76) (t.d 76) ["_law_script"] (spL K):=akF (ahh T) ahw
end
set_option autoImplicit true in
theorem all_mk{K:Frag}{h:Heap}{mg:Str->Option Value}(X:K.In h)(G:h.Ns mainGlobals mg){vo0 vo1 vo2 vo3 DP ye yd yc x_ Aq Lh:Obj}{vn0 vn1 vn2 vn3 S5 Nr Nq Np Nm Qh aco:Nat}{tk0 Jw Jv Ju Jt Js Jr Jq Jp Kv Ku Ks:Tok}{TQ:Array DictEntry}{Qi PN:Str}{Uk:Addr}{Q3 jc:List Value}{Pn:List Str}{Pz:List Value}{Q7:Bool}{QT:Option Bool}{QM:Option Addr}{Qq Qp Qo Qn Qm:Option Value}{S6 R_:Str}{V3:Addr}{T_ jM:List Value}{RD:List Str}{RM:List Value}{Ui:Bool}{T8:Option Bool}{T5:Option Addr}{Tu Tt Tr Tq Tp:Option Value}(M8:nsIn K mainGlobals "Rules" = some (some (.ref uV)))(Ew:nsIn K mainGlobals "Ballots" = some (some (.ref p8)))(Et:nsIn K mainGlobals "Strides" = some (some (.ref pY)))(Eu:nsIn K mainGlobals "Replies" = some (some (.ref pZ)))(M9:nsIn K mainGlobals "Bench" = some (some (.ref uW)))(yQ:nsIn K mainGlobals "HallError" = some (some (.ref bM)))(BL:nsIn K mainGlobals "BadPaper" = some (some (.ref cW)))(a0:findIn K (.ref uV) "__init__" = some (some (.ref f0)))(i0:isFn K (.ref f0)=true)(l0:K.lookup f0=some ⟨oc0,od0,.func (fnOf "__init__" "Rules.__init__" (gf gH) (dM gH) (bu gH) (.ref v0) kV0 dc0 pm0 an0 cd0 ct0),sl0⟩)(c0:codeIn K cd0 "Rules.__init__" = true)(k0:keepIn K (.ref f0)=true)(lv0:K.lookup v0=some vo0)(dv0:vo0.data= .seq #[.str "once best own most" tk0] vn0)(a1:findIn K (.ref uW) "__init__" = some (some (.ref f1)))(i1:isFn K (.ref f1)=true)(l1:K.lookup f1=some ⟨oc1,od1,.func (fnOf "__init__" "Bench.__init__" (gf gJ) (dM gJ) (bu gJ) (.ref v1) kV1 dc1 pm1 an1 cd1 ct1),sl1⟩)(c1:codeIn K cd1 "Bench.__init__" = true)(k1:keepIn K (.ref f1)=true)(lv1:K.lookup v1=some vo1)(dv1:vo1.data= .seq #[.none] vn1)(a2:nsIn K mainGlobals "carries" = some (some (.ref f2)))(l2:K.lookup f2=some ⟨oc2,od2,.func (fnOf "carries" "carries" (gf mX) (dM mX) (bu mX) (.ref v2) kV2 dc2 pm2 an2 cd2 ct2),sl2⟩)(c2:codeIn K cd2 "carries" = true)(k2:keepIn K (.ref f2)=true)(lv2:K.lookup v2=some vo2)(dv2:vo2.data= .seq #[.bool false] vn2)(a3:nsIn K mainGlobals "wins" = some (some (.ref f3)))(l3:K.lookup f3=some ⟨oc3,od3,.func (fnOf "wins" "wins" (gf zX) (dM zX) (bu zX) (.ref v3) kV3 dc3 pm3 an3 cd3 ct3),sl3⟩)(c3:codeIn K cd3 "wins" = true)(k3:keepIn K (.ref f3)=true)(lv3:K.lookup v3=some vo3)(dv3:vo3.data= .seq #[.bool false] vn3)(a4:findIn K (.ref bM) "__init__" = some (some (.ref f4)))(i4:isFn K (.ref f4)=true)(l4:K.lookup f4=some ⟨oc4,od4,.func (fnOf "__init__" "HallError.__init__" (gf cI) (dM cI) (bu cI) .none kV4 dc4 pm4 an4 cd4 ct4),sl4⟩)(c4:codeIn K cd4 "HallError.__init__" = true)(k4:keepIn K (.ref f4)=true)(n8:M_ K uV)(qJ:PySem.W.makesIn K uV=true)(LK:keepIn K (.ref uV)=true)(wK:BR K uV ["once","best","own","most"])(aP:M_ K p8)(pA:PySem.W.makesIn K p8=true)(Eb:keepIn K (.ref p8)=true)(cQ:BR K p8 ["rules","terms","votes","askings","seated"])(aH:M_ K pY)(o_:PySem.W.makesIn K pY=true)(DY:keepIn K (.ref pY)=true)(cP:BR K pY ["first_roll","rules","rows","lines","marks","places"])(g_:M_ K pZ)(pq:PySem.W.makesIn K pZ=true)(Ea:keepIn K (.ref pZ)=true)(oZ:BR K pZ ["beats","heard","looks","seen"])(bO:M_ K uW)(wM:PySem.W.makesIn K uW=true)(LQ:keepIn K (.ref uW)=true)(wL:BR K uW ["first","rules","ballots","strides","replies","count","breach"])(hn_:PySem.W.specialIn K (.builtin "object.__class__") "__get__" = some (some (.builtin "getset_descriptor.__get__")))(tk_:PySem.W.takesIn K (.builtin "object.__class__")=some true)(fH:K.lookup bM=some (excClassObj Qi PN bM Uk Q3 jc true Pn Pz Q7 QT QM Qq Qp Qo Qn Qm "ValueError.__new__"))(xN:jc.contains (.type "ValueError")=true)(xK:jc.contains (.type "AttributeError")=false)(xx:jc.contains (.type "NameError")=false)(jV:jc.contains (.type "BaseException")=true)(rN:jc.contains (.type "object")=true)(xW:jc=[].map Value.ref++[.type "ValueError",.type "Exception",.type "BaseException",.type "object"])(yg:findIn K (.ref bM) "__init__" = some (some (.ref f4)))(yx:keepIn K (.ref bM)=true)(xu:findIn K (.ref bM) "__setattr__" = some (some (.builtin "object.__setattr__")))(xJ:findIn K (.ref bM) "__getattribute__" = some (some (.builtin "BaseException.__getattribute__")))(xr:findIn K (.ref bM) "at" = some none)(xH:findIn K (.ref bM) "__getattr__" = some none)(xG:findIn K (.ref bM) "__class__" = some (some (.builtin "object.__class__")))(gR:K.lookup cW=some (excClassObj S6 R_ cW V3 T_ jM true RD RM Ui T8 T5 Tu Tt Tr Tq Tp "ValueError.__new__"))(zO:jM.contains (.type "ValueError")=true)(zN:jM.contains (.type "AttributeError")=false)(zJ:jM.contains (.type "NameError")=false)(mW:jM.contains (.type "BaseException")=true)(uB:jM.contains (.type "object")=true)(Ae:jM=[bM].map Value.ref++[.type "ValueError",.type "Exception",.type "BaseException",.type "object"])(Av:findIn K (.ref cW) "__init__" = some (some (.ref f4)))(Bg:keepIn K (.ref cW)=true)(zH:findIn K (.ref cW) "__setattr__" = some (some (.builtin "object.__setattr__")))(zM:findIn K (.ref cW) "__getattribute__" = some (some (.builtin "BaseException.__getattribute__")))(zG:findIn K (.ref cW) "at" = some none)(zL:findIn K (.ref cW) "__getattr__" = some none)(zK:findIn K (.ref cW) "__class__" = some (some (.builtin "object.__class__")))(fD:subIn K (.ref bM) (.ref bM)=some true)(fV:subIn K (.ref bM) (.ref cW)=some false)(fW:subIn K (.ref cW) (.ref bM)=some true)(gG:subIn K (.ref cW) (.ref cW)=some true)(Es:nsIn K mainGlobals "CHOICES" = some (some (.ref Ig)))(Be:K.lookup Ig=some DP)(Bs:DP.cls= .type "tuple")(Br:DP.data= .seq #[.ref vX,.ref vW,.ref vV,.ref vU] S5)(vD:K.lookup vX=some ye)(vP:ye.cls= .type "tuple")(vL:ye.data= .seq #[.str "once" Jw,.str "free" Jv] Nr)(vC:K.lookup vW=some yd)(vO:yd.cls= .type "tuple")(vK:yd.data= .seq #[.str "best" Ju,.str "any" Jt] Nq)(vB:K.lookup vV=some yc)(vN:yc.cls= .type "tuple")(vJ:yc.data= .seq #[.str "own" Js,.str "old" Jr] Np)(vA:K.lookup vU=some x_)(vM:x_.cls= .type "tuple")(vI:x_.data= .seq #[.str "most" Jq,.str "half" Jp] Nm)(BK:nsIn K mainGlobals "OF_HANDS" = some (some (.ref Ex)))(yt:K.lookup Ex=some Aq)(yK:Aq.cls= .type "tuple")(yH:Aq.data= .seq #[.str "vote" Kv,.str "chair" Ku,.str "told" Ks] Qh)(M7:nsIn K mainGlobals "SIZES" = some (some (.ref Kf)))(K4:(Kf==sysModules)=false)(Lz:K.lookup Kf=some Lh)(Kh:Lh.ExactDict)(Mp:Lh.data= .dict TQ aco)(K9:PyProof.Rows.KTD.Rows (λi v=>∃t,v=Value.int i t) TQ.toList [("vote",4),("chair",4),("write",4),("beat",3),("told",5),("settle",4),("answer",6),("look",6),("seen",8)])(vY:nsIn K mainGlobals "wins_rolls" = some (some (.ref f3)))(ZM:nsIn K mainGlobals "all" = some none)(zF:nsIn K mainGlobals "enumerate" = some none)(ZL:nsIn K mainGlobals "len" = some none)(Ur:nsIn K mainGlobals "list" = some none)(ZK:nsIn K mainGlobals "max" = some none)(ZJ:nsIn K mainGlobals "min" = some none)(O7:nsIn K mainGlobals "range" = some none)(Kg:nsIn K mainGlobals "sorted" = some none)(D_:∃xs,Q9 K (λk=>match k with | 6=>uV | 0=>p8 | 7=>pY | 5=>pZ | 8=>uW | 1=>bM | 2=>cW | _=>0) oN xs):
  ∃t,Txt K mg t:=
 let⟨xs_,D⟩:=D_
 ⟨{c:=λk=>match k with | 6=>uV | 0=>p8 | 7=>pY | 5=>pZ | 8=>uW | 1=>bM | 2=>cW | _=>0,xs:=xs_,rW:=f0,nY:=fnOf "__init__" "Rules.__init__" (gf gH) (dM gH) (bu gH) (.ref v0) kV0 dc0 pm0 an0 cd0 ct0,
   Fg:=v0,
   Fl:=tk0,
   rY:=f1,nZ:=fnOf "__init__" "Bench.__init__" (gf gJ) (dM gJ) (bu gJ) (.ref v1) kV1 dc1 pm1 an1 cd1 ct1,
   Fi:=v1,
   Cm:=f2,wZ:=fnOf "carries" "carries" (gf mX) (dM mX) (bu mX) (.ref v2) kV2 dc2 pm2 an2 cd2 ct2,
   NQ:=v2,
   Mh:=f3,Mm:=fnOf "wins" "wins" (gf zX) (dM zX) (bu zX) (.ref v3) kV3 dc3 pm3 an3 cd3 ct3,
   ZS:=v3,
   iG:=f4,j6:=fnOf "__init__" "HallError.__init__" (gf cI) (dM cI) (bu cI) .none kV4 dc4 pm4 an4 cd4 ct4,
   HW:=Ig,
   Eg:=Ex,
   QD:=Kf},
  {D:=D,G:=λ_ _ a=>jI X G a,Dj:=yF l0 c0 k0,
   j9:=λs us X hl=>by obtain⟨u0,u1,rfl⟩:=yu (us:=us) (by simpa using hl);exact PySem.W.binds_K X rfl lv0 dv0 rfl rfl,
   vR:=λs us X hl=>by obtain⟨u0,rfl⟩:=Ql (us:=us) (by simpa using hl);exact PySem.W.binds_K X rfl lv0 dv0 rfl rfl,
   Dk:=yF l1 c1 k1,
   j_:=λs us X hl=>by obtain⟨u0,u1,u2,rfl⟩:=Gx (us:=us) (by simpa using hl);exact PySem.W.binds_K X rfl lv1 dv1 rfl rfl,
   Ny:=λs us X hl=>by obtain⟨u0,u1,rfl⟩:=yu (us:=us) (by simpa using hl);exact PySem.W.binds_K X rfl lv1 dv1 rfl rfl,
   yG:=yF l2 c2 k2,
   pP:=λs us X hl=>by obtain⟨u0,u1,u2,rfl⟩:=Gx (us:=us) (by simpa using hl);exact PySem.W.binds_K X rfl lv2 dv2 rfl rfl,
   VN:=λs us X hl=>by obtain⟨u0,u1,rfl⟩:=yu (us:=us) (by simpa using hl);exact PySem.W.binds_K X rfl lv2 dv2 rfl rfl,
   DQ:=jI X G a2,
   QG:=yF l3 c3 k3,
   Bv:=λs us X hl=>by obtain⟨u0,u1,u2,rfl⟩:=Gx (us:=us) (by simpa using hl);exact PySem.W.binds_K X rfl lv3 dv3 rfl rfl,
   ae3:=λs us X hl=>by obtain⟨u0,u1,rfl⟩:=yu (us:=us) (by simpa using hl);exact PySem.W.binds_K X rfl lv3 dv3 rfl rfl,
   aei:=jI X G a3,
   uR:=yF l4 c4 k4,
   w6:=(yF l4 c4 k4:zE K _ _ cI .none _ _).binds (ps:=["self","at"]) λ_ _ _ _ _ _ us hl=>by obtain⟨u0,u1,rfl⟩:=yu hl;rfl,
   qJ:=⟨qJ,a0,i0,LK⟩,
   n8:=n8,
   Gq:=jI X G M8,
   wK:=wK,
   pA:=D.mk (i:=4) rfl rfl rfl rfl pA Eb,
   aP:=aP,
   Lk:=jI X G Ew,
   cQ:=cQ,
   o_:=D.mk (i:=5) rfl rfl rfl rfl o_ DY,
   aH:=aH,
   Li:=jI X G Et,
   cP:=cP,
   pq:=D.mk (i:=6) rfl rfl rfl rfl pq Ea,
   g_:=g_,
   Lj:=jI X G Eu,
   oZ:=oZ,
   wM:=⟨wM,a1,i1,LQ⟩,
   bO:=bO,
   S_:=jI X G M9,
   wL:=wL,
   Qk:=jI X G yQ,
   O8:=ZP fH xN xK xx jV yg i4 yx,
   O_:=V8 fH rN jV (Io xW) xu xJ xr,
   O9:=ZQ fH rN xH xG hn_ tk_,
   Aw:=jI X G BL,
   Ih:=ZP gR zO zN zJ mW Av i4 Bg,
   Ii:=V8 gR uB mW (Io Ae) zH zM zG,
   Rc:=ZQ gR uB zL zK hn_ tk_,
   xF:=V7 fH jV fD,
   yz:=Xf fH fD,
   oE:=V7 gR mW fV,
   zu:=Xf gR fV,
   y_:=V7 fH jV fW,
   zx:=Xf fH fW,
   qe:=V7 gR mW gG,
   Bh:=Xf gR gG,
   yh:=jI X G Es,
   xP:=λct ι n H=>(S.HY (xs:=[.ref vX,.ref vW,.ref vV,.ref vU]) Be Bs Br (by simp) (.cons rfl (.cons rfl (.cons rfl (.cons rfl .nil)))) (.cons (S.HY (xs:=[.str "once",.str "free"]) vD vP vL (by simp) (.cons ⟨_,rfl⟩ (.cons ⟨_,rfl⟩ .nil)) (.cons (.str _) (.cons (.str _) .nil))) (.cons (S.HY (xs:=[.str "best",.str "any"]) vC vO vK (by simp) (.cons ⟨_,rfl⟩ (.cons ⟨_,rfl⟩ .nil)) (.cons (.str _) (.cons (.str _) .nil))) (.cons (S.HY (xs:=[.str "own",.str "old"]) vB vN vJ (by simp) (.cons ⟨_,rfl⟩ (.cons ⟨_,rfl⟩ .nil)) (.cons (.str _) (.cons (.str _) .nil))) (.cons (S.HY (xs:=[.str "most",.str "half"]) vA vM vI (by simp) (.cons ⟨_,rfl⟩ (.cons ⟨_,rfl⟩ .nil)) (.cons (.str _) (.cons (.str _) .nil))) .nil))))),
   uL:=jI X G BK,
   uD:=λct ι n H=>(S.HY (xs:=[.str "vote",.str "chair",.str "told"]) yt yK yH (by simp) (.cons ⟨_,rfl⟩ (.cons ⟨_,rfl⟩ (.cons ⟨_,rfl⟩ .nil))) (.cons (.str _) (.cons (.str _) (.cons (.str _) .nil)))),
   S9:=jI X G M7,
   Rq:=⟨K4,_,_,_,Lz,Kh,Mp,K9⟩,
   Df:=jI X G vY,
   abw:=vT X G ZM,
   Ay:=vT X G zF,
   m7:=vT X G ZL,
   abv:=vT X G Ur,
   Lp:=vT X G ZK,
   afE:=vT X G ZJ,
   yp:=vT X G O7,
   Tf:=vT X G Kg}⟩
end My
open PySem PySem.W PyProof.Rows L2
structure PySem.W.Fast:Prop where(tw3362780729127248128 tw6689385488283207040 tw2693815137818849824 tw16914391749100978720 tw7252770971894682240 tw1605119116769342400 tw8284756962051056641 tw3606152661460831265 tw7567063036868528417 tw4225742127627394337 tw11856176872732214721 tw3052570600116960769 tw12714973595789031041 tw12495338259970184961 tw4896821106463496961 tw16684047174361844609 tw8144443023487041409 tw684390584270473218 tw6255799019345487010 tw7902825907611501762 tw6218306369529124258 tw13555489426168000962 tw8903113619323069954 tw17631060443932004898 tw4631500553530615330 tw15300839526419416738 tw1464572909672754850 tw8180319235406544706 tw13996803782777548738 tw1918708588012397538 tw4613935060260676035 tw2619009249591042627 tw16437673331823216291 tw14881672024101499683 tw12689519371314432835 tw6186456545271158595 tw17600907544631335747 tw8144780982749457283 tw427887302759568291 tw13355480027283116068 tw5846641248316070020 tw3259823575544211652 tw9384275181091245348 tw6548158719346914628 tw17622984737274768868 tw14767462947654416900 tw5879676298051810820 tw1076241419293236900 tw8890092863324041892 tw2217022229050152676 tw15655686252764195556 tw730144832210945796 tw10816305437972823812 tw266539846057710372 tw12046670266367882052 tw16392515383751031716 tw17270419667455445988 tw9417956782247692325 tw881299658356007109 tw2645851035634831557 tw7066998682164922693 tw9498620153392859461 tw3265636833066958277 tw15733508954140568005 tw12889607952544791045 tw4390123125782699589 tw13652943134748357221 tw3218186608083777125 tw837775038524854981 tw6152062752206463781 tw11225764375033674565 tw10552997965468042085 tw6479208978326178918 tw3175982317323707526 tw4916085987183203526 tw14876298783133526214 tw12453684614668984550 tw10168146650801999110 tw5197045332732532230 tw12885547319750135526 tw15917575591268725542 tw15401145515501951814 tw16503414363265310598 tw920644889641919430 tw6018534346680178662 tw9541178235836113991 tw10610276412375462151 tw4616532782716646695 tw1677429045197470023 tw8067790550786343271 tw4559915132958348775 tw14142014760404335079 tw17766398724654284263 tw16828859485434733255 tw15943041401648940775 tw11762596443019610855 tw6039149897851540231 tw6944851231844346663 tw4373175553723140935 tw4331121912294089896 tw4762757046035323080 tw5619505289114083560 tw1126859574001632616 tw1903195194976479752 tw4279823208919402024 tw9837944327833896488 tw921435502893980232 tw4378560902539902536 tw15739068470340169352 tw11974791028924183208 tw484658017612090056 tw12917683500205822888 tw13208295102270799784 tw224800289873862729 tw9346520025306735689 tw17579672704804504681 tw6246882773892301961 tw7173650914853778569 tw8553850280006747305 tw3126930396721999081 tw11837452306427560329 tw5528777408338811273 tw10322243774281758185 tw6779830534176723433 tw8539228602313209353 tw6501003253814213353 tw10694064806607938409 tw9910252685028222857 tw12190909048161850281 tw14521536343104364489 tw17517038198510288873 tw14681629468915534858 tw12616625542748902442 tw1684532356740684906 tw17818190788388148330 tw9761891565238306954 tw55391863936880042 tw13866563395578394218 tw12763513676646716234 tw762139122209640298 tw13483544716410989482 tw1421219729307580330 tw15863472577452854218 tw1124725382953952267 tw11369691817049841739 tw7334302821705074795 tw7679960844637197419 tw17303682404101026955 tw1460038074300094635 tw2960377195780736203 tw5909730820000464107 tw10357295141431637323 tw17284625013936861547 tw10887178004474657227 tw9830099590538880491 tw15713491259290647083 tw18097877881744455275 tw9063417330114002571 tw6094534034531316427 tw7735540935377209067 tw4448068566948565739 tw13954111311754538859 tw6632117143484317643 tw11716082516744849516 tw15358559540859141228 tw12436451694890742188 tw17659963083360405004 tw226796268005487180 tw15497478547869231724 tw8975287953944819340 tw3440105959960979116 tw17088108995376200588 tw4430491093465961420 tw638865032206221325 tw17316211216336290861 tw10761142031909026957 tw1378820792755848493 tw5161657258050186541 tw5730127157705278861 tw15750406335908254125 tw740623590022534701 tw15248486112160641613 tw904754814322004589 tw5361028178707466125 tw815310532025442221 tw9256046549642933165 tw614350234308021197 tw3579933224860867565 tw2229373219328336877 tw6116471361001263182 tw2987620133948255342 tw17536737968303967374 tw17525701621269937390 tw3516424879737481550 tw1381008856834048430 tw15884513043527181934 tw2201183299695052430 tw4696513519335714478 tw16329852211445505838 tw9278183160028813134 tw14817796323025293134 tw17276268761309374318 tw3507463547749788590 tw17124760652756774894 tw6927433715255145487 tw14998757405631651023 tw13485420842598896879 tw10250716958059791631 tw7611736939064039919 tw4588719198418144847 tw3769734037030564463 tw3526867493023615695 tw12941735813587070703 tw9660227912067282671 tw5718658501424103279 tw8794987616414004240 tw15566103547199684688 tw15040732877701961808 tw7177277446577593456 tw717227196267994352 tw4172894190006869456 tw14145694362362504656 tw8076137541818856944 tw5637588146194581040 tw4693423558092031536 tw5843689185281609264 tw12599851117620895312 tw7916553952180967024 tw5232137008737193616 tw621154867347927696 tw1320185287004961424 tw599591135209441040 tw6871302896992268048 tw2858075389421709232 tw5987265476791050224 tw15986541039034616881 tw4116178807770019985 tw4842464945115017553 tw3754005769109813649 tw373715585283384785 tw9437533207545921105 tw975647754044252817 tw11178201573175293841 tw10324635825622803377 tw10771837744922093682 tw3823775874794609010 tw7988849273093867922 tw12687769575661076946 tw9935651470001579538 tw9748169118289685170 tw18327347609039824722 tw15829794262278142802 tw15974133164389876755 tw15709335599413763155 tw15851729763228198035 tw4063775265948221843 tw1557772910386945459 tw9170411198117910099 tw13627722803039609459 tw2682235963900313267 tw12501139977715206931 tw7117957833961202643 tw5276814139781087284 tw1131753847274899508 tw7970345423966384180 tw8469322157083953268 tw9636570782440872052 tw1004511049127554164 tw1908843640635333780 tw6893073740529773716 tw14621568708002956052 tw16946804822448912212 tw5042779267989322612 tw16807008820300584852 tw13276980285059345300 tw13035562777511079860 tw1209221456753217621 tw17521456751738040437 tw9926872078799770837 tw9789179467746041045 tw1292525626916672789 tw118464347469595925 tw6365835200100529429 tw3199279154128977173 tw10726608468270974325 tw1290276047192651157 tw13857131928151669205 tw14120800017423579765 tw10715122000643883637 tw4340833223741080373 tw16008994055261986613 tw5279729734990822293 tw1095154219357440981 tw218185567615224821 tw11286783091247741014 tw13464099393664862326 tw4848238942531671254 tw1411222862550365398 tw151874542966578422 tw3216344172238375254 tw847666070314180950 tw7619255004489640278 tw5105106353827794454 tw6551766960844079734 tw15185560731189668790 tw9991028473949692918 tw13587248313941384279 tw15455598526628864119 tw10195181115835830391 tw1185969724909482103 tw18260534422103392919 tw13915460449932982935 tw16792579427237001015 tw4108519005832892472 tw15984513483919394040 tw13408509425531280760 tw3367774077793705368 tw12335473709509996152 tw13484418801036269240 tw6628154892569043736 tw3238666662582803224 tw5996893221006857112 tw15238576530974604184 tw5700486798074282009 tw1882788353267768377 tw16677491051434097721 tw14625306801745509465 tw6977400947867908281 tw8862689301506931961 tw7602733098451734841 tw7683924936123305305 tw16645903289943031289 tw5289063849737430617 tw14584205537034696345 tw10199356434734990009 tw12758001279951535801 tw10358015012746149593 tw10478794908767645401 tw16221842611068885785 tw13145446673270451033 tw4925448348589286393 tw8507256086433912058 tw1421898794520257882 tw9252711854066671002 tw16171024019048544666 tw17584206957439829690 tw3147753387487564506 tw11533366357204606714 tw5601417447548470042 tw3992043405205297978 tw6828575175364393850 tw6911168967535934330 tw6108147894128785338 tw9871090773759371291 tw17603095559142055003 tw1422319082011657371 tw11398463535208480923 tw5353405575795042523 tw17669970506250652987 tw6239335395774262619 tw13576602584561319291 tw17278263418962444763 tw13189584486548232859 tw10965789872705546939 tw15483236241811286747 tw6282280519934080795 tw572578522824257403 tw6329815284147223740 tw2910697563651898556 tw14791067301159982300 tw15495025792454454556 tw2985223596840381724 tw13629842931235295676 tw1836304507626325468 tw3340145394240179708 tw16589969373293758012 tw1919930719346344796 tw11727360520252750716 tw830116241917008796 tw17221148113247867836 tw4760612475728363581 tw6158741274922081341 tw1803390948012632189 tw15971035191975471261 tw5891953541100585405 tw4476218308568123869 tw4242578100765751805 tw10307618325713782333 tw17592148199913978429 tw5739676916598974141 tw3382081000519800637 tw10237642816767061853 tw638378848009891709 tw6328731564951295869 tw7571808897911733149 tw16001639396606026717 tw9116218899425924190 tw8593659972374124734 tw17241321055417494814 tw8844267195188246846 tw12564923571692448062 tw14933684060680677758 tw2393442674579507742 tw7541975519963529758 tw6415449253327592030 tw16616401974687588958 tw11708900705898613470 tw7535534982852505374 tw18272988772043095838 tw7802008529299844094 tw14373159107874959391 tw8217179331361102943 tw15886288482399459423 tw17984172666797381759 tw3427924165970579903 tw6095158204527213023 tw2967811788717640223 tw13851096404655908447 tw15589385526200437375 tw7418313164288506495 tw2846037392802854751 tw3300588694855191551 tw16657932944496934911 tw11132479636863713872:True)
theorem PySem.Challenge.cw_chairvote_k64_settles_holds : PySem.Challenge.rw_chairvote_k64_settles.Holds := by
 w_on;o_law;k_head;(case hw=>w_witness2)
 k_fill
 refine S.aiY (l:=PySem.Challenge.rw_chairvote_k64_settles) (x:= "_law_script") (k:=12) rfl rfl ⟨rfl,by decide,by decide⟩ (fun w h Y=>PySem.W.kIn_of Y) ?F
 case F=>
  intro w mg fa h KX G hmg
  have T:∃t,My.Txt (L2.KOf KX) mg t:=by
   dsimp only[L2.KOf]
   refine' My.all_mk KX G ?M8 ?Ew ?Et ?Eu ?M9 ?yQ ?BL ?a0 ?i0 ?l0 ?c0 ?k0 ?lv0 ?dv0 ?a1 ?i1 ?l1 ?c1 ?k1 ?lv1 ?dv1 ?a2 ?l2 ?c2 ?k2 ?lv2 ?dv2 ?a3 ?l3 ?c3 ?k3 ?lv3 ?dv3 ?a4 ?i4 ?l4 ?c4 ?k4 ?n8 ?qJ ?LK ?wK ?aP ?pA ?Eb ?cQ ?aH ?o_ ?DY ?cP ?g_ ?pq ?Ea ?oZ ?bO ?wM ?LQ ?wL ?hn_ ?tk_ ?fH ?xN ?xK ?xx ?jV ?rN ?xW ?yg ?yx ?xu ?xJ ?xr ?xH ?xG ?gR ?zO ?zN ?zJ ?mW ?uB ?Ae ?Av ?Bg ?zH ?zM ?zG ?zL ?zK ?fD ?fV ?fW ?gG ?Es ?Be ?Bs ?Br ?vD ?vP ?vL ?vC ?vO ?vK ?vB ?vN ?vJ ?vA ?vM ?vI ?BK ?yt ?yK ?yH ?M7 ?K4 ?Lz ?Kh ?Mp ?K9 ?vY ?ZM ?zF ?ZL ?Ur ?ZK ?ZJ ?O7 ?Kg ?D_
   case M8 | Ew | Et | Eu | M9 | yQ | BL | a0 | i0 | l0 | c0 | k0 | lv0=>k_is
   case dv0=>rfl
   case a1 | i1 | l1 | c1 | k1 | lv1=>k_is
   case dv1=>rfl
   case a2 | l2 | c2 | k2 | lv2=>k_is
   case dv2=>rfl
   case a3 | l3 | c3 | k3 | lv3=>k_is
   case dv3=>rfl
   case a4 | i4 | l4 | c4 | k4=>k_is
   case n8=>exact⟨by k_is,by k_is,by k_is,by k_is⟩
   case qJ | LK=>k_is
   case wK=>(repeat (refine wI (by k_is) ?_));exact Ar
   case aP=>exact⟨by k_is,by k_is,by k_is,by k_is⟩
   case pA | Eb=>k_is
   case cQ=>(repeat (refine wI (by k_is) ?_));exact Ar
   case aH=>exact⟨by k_is,by k_is,by k_is,by k_is⟩
   case o_ | DY=>k_is
   case cP=>(repeat (refine wI (by k_is) ?_));exact Ar
   case g_=>exact⟨by k_is,by k_is,by k_is,by k_is⟩
   case pq | Ea=>k_is
   case oZ=>(repeat (refine wI (by k_is) ?_));exact Ar
   case bO=>exact⟨by k_is,by k_is,by k_is,by k_is⟩
   case wM | LQ=>k_is
   case wL=>(repeat (refine wI (by k_is) ?_));exact Ar
   case hn_ | tk_ | fH=>k_is
   case xN | xK | xx | jV | rN=>decide +kernel
   case xW=>rfl
   case yg | yx | xu | xJ | xr | xH | xG | gR=>k_is
   case zO | zN | zJ | mW | uB=>decide +kernel
   case Ae=>rfl
   case Av | Bg | zH | zM | zG | zL | zK | fD | fV | fW | gG | Es | Be=>k_is
   case Bs | Br=>rfl
   case vD=>k_is
   case vP | vL=>rfl
   case vC=>k_is
   case vO | vK=>rfl
   case vB=>k_is
   case vN | vJ=>rfl
   case vA=>k_is
   case vM | vI=>rfl
   case BK | yt=>k_is
   case yK | yH=>rfl
   case M7=>k_is
   case K4=>decide
   case Lz=>k_is
   case Kh=>exact⟨rfl,rfl,rfl⟩
   case Mp=>rfl
   case K9=>exact .cons rfl ⟨_,rfl⟩ (.cons rfl ⟨_,rfl⟩ (.cons rfl ⟨_,rfl⟩ (.cons rfl ⟨_,rfl⟩ (.cons rfl ⟨_,rfl⟩ (.cons rfl ⟨_,rfl⟩ (.cons rfl ⟨_,rfl⟩ (.cons rfl ⟨_,rfl⟩ (.cons rfl ⟨_,rfl⟩ (.nil)))))))))
   case vY | ZM | zF | ZL | Ur | ZK | ZJ | O7 | Kg=>k_is
   case D_=>(repeat (first | refine ah3 (by k_is) (by k_is) (by k_is) (by k_is) (by intro kV dc pm an cd ct us hl;first | (obtain⟨u0,rfl⟩:=Ql hl;rfl) | (obtain⟨u0,u1,rfl⟩:=yu hl;rfl) | (obtain⟨u0,u1,u2,rfl⟩:=Gx hl;rfl) | (obtain⟨u0,u1,u2,u3,rfl⟩:=Xe hl;rfl) | (obtain⟨u0,u1,u2,u3,u4,rfl⟩:=S.Xd hl;rfl) | (obtain⟨u0,u1,u2,u3,u4,u5,rfl⟩:=S.Xc hl;rfl) | (obtain⟨u0,u1,u2,u3,u4,u5,u6,rfl⟩:=S.Xb hl;rfl)) ?_ | refine ah2 rfl (by k_is) (by k_is) (by k_is) (by k_is) (by k_is) (by intro kV dc pm an cd ct us hl;first | (obtain⟨u0,rfl⟩:=Ql hl;rfl) | (obtain⟨u0,u1,rfl⟩:=yu hl;rfl) | (obtain⟨u0,u1,u2,rfl⟩:=Gx hl;rfl) | (obtain⟨u0,u1,u2,u3,rfl⟩:=Xe hl;rfl) | (obtain⟨u0,u1,u2,u3,u4,rfl⟩:=S.Xd hl;rfl) | (obtain⟨u0,u1,u2,u3,u4,u5,rfl⟩:=S.Xc hl;rfl) | (obtain⟨u0,u1,u2,u3,u4,u5,u6,rfl⟩:=S.Xb hl;rfl)) ?_));exact aeH
  obtain⟨t,T⟩:=T
  have e0:=hmg.symm.trans (T.mf 76 rfl rfl)
  cases e0
  exact⟨(t.d 76),fun s u=>My.YS T s u,fun base _ _=>My.ad_ T⟩

