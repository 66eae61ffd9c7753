import PyProof.Rows.All
import Wide.All
import OpenK.AllK
import Wide.FinOn
import Lean
import PyProof.EqAt
import PyProof.EqKinds
import PyProof.TupleCall
import PySem.Challenge.RW_chairvote_k63_tolds
abbrev zC:=@PySem.wpAny_bind
abbrev zD:=@PySem.Heap.get?_push_of_some
abbrev zI:=@PySem.wpAny_pure
abbrev zS:=@PySem.Heap.lt_size
abbrev yA:=@Nat.lt_of_lt_of_le
abbrev yB:=@PySem.Heap.get?_push_size
abbrev yT:=@List.mem_cons_of_mem
abbrev yY:=@Nat.le_trans
abbrev xA:=@Bool.false_ne_true
abbrev xB:=@List.mem_cons_self
abbrev xD:=@Nat.ne_of_lt
abbrev xE:=@List.mem_append_right
abbrev xI:=@Option.some.inj
abbrev xL:=@PySem.Heap.get?_update_other
abbrev xS:=@Nat.ne_of_gt
abbrev wP:=@Nat.le_succ_of_le
abbrev wS:=@Nat.lt_irrefl
abbrev wT:=@PySem.wpAny_newObj_type
abbrev vE:=@PySem.wpAny_mono
abbrev vF:=@PySem.wpAny_setField_rec
abbrev vS:=@PySem.Heap.get?_update_self
abbrev vT:=@PySem.wpAny_field
abbrev uS:=@PySem.W.mg_none_of
abbrev jI:=@PySem.wpAny_call_entry
abbrev jS:=@PySem.W.mg_of
abbrev zaa:=@List.mem_of_getElem?
abbrev zab:=@True.intro
abbrev zac:=@Nat.le_refl
abbrev zad:=@List.getElem?_eq_getElem
abbrev zae:=@List.getElem?_append_right
abbrev zaf:=@List.getElem?_append_left
abbrev zag:=@decide_eq_false
abbrev zah:=@decide_eq_true
abbrev zai:=@PySem.wpAny_callSpecial?_slot
abbrev zaj:=@List.getElem?_set_ne
abbrev zak:=@List.getElem?_set_self
abbrev zam:=@Int.toNat_natCast
abbrev zan:=@List.getElem?_map
abbrev zao:=@List.length_map
noncomputable section
local macro_rules|`(())=>`(by omega)
open PySem.W (Frag fnOf findIn keepIn nsIn codeIn isFn kitOne subIn exmOne)
set_option Elab.async false
set_option linter.all false
set_option maxRecDepth 100000
namespace L2
open PySem PySem.Spec PyProof.Rows
abbrev Key:=Sum Int Str
noncomputable def J0:Key->Value->Bool
 | .inl k,v=>Value.isInt k v
 | .inr x,v=>Value.isStrOf x v
def ana(w:World):Key->Int
 | .inl k=>hashInt k
 | .inr x=>hashStr w x
theorem fC:∀{k:Key} {v:Value},J0 k v=true->(∃i t,k=Sum.inl i/\v=Value.int i t)\/(∃x t,k=Sum.inr x/\v=Value.str x t)
 | .inl i,v,h=>by
  obtain⟨t,e⟩:=Value.isInt_shape (k:=i) (v:=v) h
  exact .inl ⟨i,t,rfl,e⟩
 | .inr x,v,h=>by
  obtain⟨t,e⟩:=Value.isStrOf_shape (x:=x) (v:=v) h
  exact .inr ⟨x,t,rfl,e⟩
theorem Yk(i:Int)(t:Tok):J0 (.inl i) (.int i t)=true:=by simp[J0,Value.isInt]
theorem Yj(x:Str)(t:Tok):J0 (.inr x) (.str x t)=true:=by simp[J0,Value.isStrOf]
theorem agP(a b:Int):decide ((Sum.inl a:Key)=Sum.inl b)=(a==b):=by
 by_cases e:a=b
 ·subst e;simp
 ·have h:¬(Sum.inl a:Key)=Sum.inl b:=λq=>e (Sum.inl.inj q)
  rw[zag h]
  exact(beq_eq_false_iff_ne.mpr e).symm
theorem agM(a b:Str):decide ((Sum.inr a:Key)=Sum.inr b)=decide (a=b):=by
 by_cases e:a=b
 ·subst e;simp
 ·have h:¬(Sum.inr a:Key)=Sum.inr b:=λq=>e (Sum.inr.inj q)
  rw[zag h,zag e]
theorem agO(a:Int)(b:Str):decide ((Sum.inl a:Key)=Sum.inr b)=false:=zag (λq=>nomatch q)
theorem agN(a:Str)(b:Int):decide ((Sum.inr a:Key)=Sum.inl b)=false:=zag (λq=>nomatch q)
def bI(prog:Program)(w:World):PySem.KeyKind prog w Key where
 is:=J0
 hash:=ana w
 inj:=λv a b ha hb=>by
  rcases fC ha with⟨i,t,rfl,rfl⟩ | ⟨x,t,rfl,rfl⟩
  ·rcases fC hb with⟨j,u,rfl,e⟩ | ⟨y,u,rfl,e⟩
   ·injection e with e1 _;rw[e1]
   ·exact nomatch e
  ·rcases fC hb with⟨j,u,rfl,e⟩ | ⟨y,u,rfl,e⟩
   ·exact nomatch e
   ·injection e with e1 _;rw[e1]
 byValue:=λk v h=>by
  rcases fC h with⟨i,t,rfl,rfl⟩ | ⟨x,t,rfl,rfl⟩<;>rfl
 pyHash:=λhv h=>by
  rcases fC hv with⟨i,t,rfl,rfl⟩ | ⟨x,t,rfl,rfl⟩
  ·exact wpAny_pyHash_int h
  ·exact wpAny_pyHash_str h
 eqBool:=λhu hv h=>by
  rcases fC hu with⟨i,t,rfl,rfl⟩ | ⟨x,t,rfl,rfl⟩
  ·rcases fC hv with⟨j,u,rfl,rfl⟩ | ⟨y,u,rfl,rfl⟩
   ·rw[agP]at h;exact wpAny_eqBool_int h
   ·rw[agO]at h;exact SeqAt.EqAt.int_str i t y u _ _ _ _ h
  ·rcases fC hv with⟨j,u,rfl,rfl⟩ | ⟨y,u,rfl,rfl⟩
   ·rw[agN]at h;exact SeqAt.EqAt.str_int x t j u _ _ _ _ h
   ·rw[agM]at h;exact wpAny_eqBool_str h
 «strs» := λk x t v h=>by
  rcases fC h with⟨i,u,rfl,e⟩ | ⟨y,u,rfl,e⟩
  ·exact nomatch e
  ·injection e with e1 _
   subst e1
   cases v<;>rfl
theorem Rr(prog:Program)(w:World)(i:Int)(t:Tok):(bI prog w).is (.inl i) (.int i t)=true:=Yk i t
theorem Rq(prog:Program)(w:World)(x:Str)(t:Tok):(bI prog w).is (.inr x) (.str x t)=true:=Yj x t
inductive V where
 | non | bl (b:Bool) | int (i:Int) | str (x:Str) | byt (b:Array UInt8) | flt (b:UInt64) | ref (a:Addr) | ty (n:String)
 deriving DecidableEq
def RelV:V->Value->Prop
 | .non,u=>u=Value.none
 | .bl b,u=>u=Value.bool b
 | .int i,u=>∃t,u=Value.int i t
 | .str x,u=>∃t,u=Value.str x t
 | .byt b,u=>∃t,u=Value.bytes b t
 | .flt b,u=>∃t,u=Value.float b t
 | .ref a,u=>u=Value.ref a
 | .ty n,u=>u=Value.type n
abbrev Vals:List V->List Value->Prop:=Paired RelV
theorem Vals.length(r:Vals xs us):xs.length=us.length:=Paired.length r
theorem Vals.get:∀{xs:List V} {us:List Value} {i:Nat} {x:V},Vals xs us->xs[i]? = some x->∃u,us[i]? = some u/\RelV x u
 | _,_,_,_,.nil,e=>by simp at e
 | _,_,0,_,.cons r _,e=>by simp at e;subst e;exact⟨_,rfl,r⟩
 | _,_,i+1,x,.cons _ t,e=>by
  obtain⟨u,h1,h2⟩:=Vals.get (i:=i) (x:=x) t (by simpa using e)
  exact⟨u,by simpa using h1,h2⟩
theorem Vals.append:∀{xs ys:List V} {us ws:List Value},Vals xs us->Vals ys ws->Vals (xs++ys) (us++ws)
 | _,_,_,_,.nil,s=>s
 | _,_,_,_,.cons r t,s=> .cons r (Vals.append t s)
theorem Vals.take:∀{xs:List V} {us:List Value} (n:Nat),Vals xs us->Vals (xs.take n) (us.take n)
 | _,_,0,_=> .nil
 | _,_,_+1,.nil=> .nil
 | _,_,n+1,.cons r t=> .cons r (Vals.take n t)
theorem Vals.drop:∀{xs:List V} {us:List Value} (n:Nat),Vals xs us->Vals (xs.drop n) (us.drop n)
 | _,_,0,r=>r
 | _,_,_+1,.nil=> .nil
 | _,_,n+1,.cons _ t=>Vals.drop n t
def yD:Option V->Option Value->Prop
 | some v,some u=>RelV v u
 | none,none=>True
 | _,_=>False
def KV{κ:Type}:List (κ×V)->List (κ×Value)->Prop:=Paired λ(p:κ×V) (q:κ×Value)=>p.1=q.1/\RelV p.2 q.2
def kV:Key->V
 | .inl i=> .int i
 | .inr x=> .str x
inductive HO where
 | lst (xs:List V)
 | tup (xs:List V)
 | dK (kvs:List (Key×V)) | dT (kvs:List (List Key×V))
 | set (S:Int->Bool) (n:Nat)
 | ins (C dx:Addr) (fs:List (Str×V))
 | own (x:Addr)
 | xd (fs:List (Str×V))
 | met (f x:Addr)
 | FT (lo hi:Int)
 | lV (o:Obj) (u:HO)
 | Zx (ps:Array Value)
 | ext (φ:Heap->Prop)
abbrev Hp:=Addr->Option HO
def upd(H:Hp)(a:Addr)(o:HO):Hp:=λb=>if b=a then some o else H b
theorem bw:upd H a o a=some o:=by unfold upd;rw[if_pos rfl]
theorem aH(h:b≠a):upd H a o b=H b:=by unfold upd;rw[if_neg h]
theorem ab8:upd (upd H a o) a u=upd H a u:=by
 funext b;unfold upd;split<;>rfl
theorem ajE{H:Hp}{a b:Addr}{o u:HO}(h:H a=some o)(h':H b=some u)(d:o≠u):a≠b:=by
 intro e;subst e;rw[h]at h';exact d (xI h')
theorem bJ{H:Hp}{a b:Addr}{o:HO}(h:H a=some o)(h':H b=none):a≠b:=by
 intro e;subst e;rw[h]at h';cases h'
section
variable(P:Program)(w:World)
def cY(H:Hp)(h:Heap)(a:Addr):HO->Prop
 | .lst xs=>xs.length<=sizeLine/\∃(its:List Value) (n:Nat),Vals xs its/\h.get? a=some {cls:= .type "list",data:= .seq its.toArray n}
 | .tup xs=>xs.length<=sizeLine/\∃its:List Value,Vals xs its/\IsTup h a its.toArray
 | .dK kvs=>kvs.length<=sizeLine/\(a==sysModules)=false/\∃vs,KV kvs vs/\h.DictOf (bI P w) a vs
 | .dT kvs=>kvs.length<=sizeLine/\(a==sysModules)=false/\∃xs:List (List Key×Addr×Value),
   Paired (λ(p:List Key×V) (q:List Key×Addr×Value)=>p.1=q.1/\H q.2.1=some (.tup (p.1.map kV))/\RelV p.2 q.2.2) kvs xs/\
   ∃o es ep,h.get? a=some o/\o.ExactDict/\o.data= .dict es ep/\es.toList=xs.map (entryOfKey (tupleKind (bI P w)))/\(xs.map (·.1)).Nodup
 | .set S n=>h.SetOf (intKind P w) a S n
 | .ins C dx fs=>H dx=some (.own a)/\fs.length<=1000/\dx≠a/\h.get? a=some (PySem.W.instObj C dx)/\
   ∃mA,h.Ns1 dx mA/\(∀f,yD (fs.lookup f) (mA f))/\PySem.Within mA (fs.map (·.1))
 | .own _=>∃o,h.get? a=some o
 | .xd fs=>∃mA,h.Ns1 a mA/\∀f,yD (fs.lookup f) (mA f)
 | .FT lo hi=>∃t u v,h.get? a=some {cls:= .type "range",data:= .fields #[.int lo t,.int hi u,.int 1 v]}
 | .lV o u=>h.get? a=some o/\cY H h a u
 | .Zx ps=>h.get? a=some {cls:= .none,data:= .fields ps}
 | .met f x=>h.get? a=some (PySem.W.methodObj (.ref f) (.ref x))
 | .ext φ=>φ h/\(∃o,h.get? a=some o)/\∀h1 h2:Heap,φ h1->(∀o,h1.get? a=some o->h2.get? a=some o)->φ h2
def ug(H:Hp)(h:Heap):Prop:=∀a o,H a=some o->cY P w H h a o
end
section
variable{P:Program}{w:World}{H H':Hp}{h h':Heap}{a:Addr}{o:HO}
theorem cY.lt(x:cY P w H h a o):a<h.objs.size:=by
 cases o with
 | lst xs=>obtain⟨_,_,_,_,e⟩:=x;exact zS e
 | tup xs=>obtain⟨_,_,_,p⟩:=x;exact p.lt
 | dK kvs=>obtain⟨_,_,_,_,o,_,_,e,_⟩:=x;exact zS e
 | dT kvs=>obtain⟨_,_,_,_,o,_,_,e,_⟩:=x;exact zS e
 | set S n=>obtain⟨o,_,_,_,e,_⟩:=x;exact zS e
 | ins C dx fs=>obtain⟨_,_,_,e,_⟩:=x;exact zS e
 | own y=>obtain⟨_,e⟩:=x;exact zS e
 | xd fs=>obtain⟨_,⟨_,_,_,e,_⟩,_⟩:=x;exact zS e
 | FT lo hi=>obtain⟨_,_,_,e⟩:=x;exact zS e
 | lV ob u=>obtain⟨e,_⟩:=x;exact zS e
 | Zx ps=>exact zS (show h.get? a=some _ from x)
 | met f y=>exact zS (show h.get? a=some _ from x)
 | ext φ=>obtain⟨_,⟨_,e⟩,_⟩:=x;exact zS e
theorem Paired.agy{α β:Type}{F G:α->β->Prop}:∀{l₁:List α} {l₂:List β},Paired F l₁ l₂->(∀a b,F a b->G a b)->Paired G l₁ l₂
 | _,_,.nil,_=> .nil
 | _,_,.cons r t,f=> .cons (f _ _ r) (Paired.agy t f)
theorem cY.stay(x:cY P w H h a o)(k:∀b u,(b=a\/H b=some (.own a))->h.get? b=some u->h'.get? b=some u)
  (ho:∀b,H b=some (.own a)->H' b=some (.own a)) (ht:∀b xs,H b=some (.tup xs)->H' b=some (.tup xs)):cY P w H' h' a o:=by
 induction o with
 | lst xs=>obtain⟨z,its,n,r,e⟩:=x;exact⟨z,its,n,r,k _ _ (.inl rfl) e⟩
 | tup xs=>obtain⟨z,its,r,ob,e,c⟩:=x;exact⟨z,its,r,ob,k _ _ (.inl rfl) e,c⟩
 | dK kvs=>obtain⟨z,y,vs,r,ob,es,ep,e,c⟩:=x;exact⟨z,y,vs,r,ob,es,ep,k _ _ (.inl rfl) e,c⟩
 | dT kvs=>
  obtain⟨z,y,xs,r,ob,es,ep,e,c⟩:=x
  exact⟨z,y,xs,Paired.agy r λp q z=>⟨z.1,ht _ _ z.2.1,z.2.2⟩,ob,es,ep,k _ _ (.inl rfl) e,c⟩
 | set S n=>obtain⟨ob,es,ep,t,e,c⟩:=x;exact⟨ob,es,ep,t,k _ _ (.inl rfl) e,c⟩
 | ins C dx fs=>
  obtain⟨d,z,ne,e,mA,⟨od,es,ep,e2,c⟩,r⟩:=x
  exact⟨ho _ d,z,ne,k _ _ (.inl rfl) e,mA,⟨od,es,ep,k _ _ (.inr d) e2,c⟩,r⟩
 | own y=>obtain⟨ob,e⟩:=x;exact⟨ob,k _ _ (.inl rfl) e⟩
 | xd fs=>obtain⟨mA,⟨od,es,ep,e,c⟩,r⟩:=x;exact⟨mA,⟨od,es,ep,k _ _ (.inl rfl) e,c⟩,r⟩
 | FT lo hi=>obtain⟨t,u,v,e⟩:=x;exact⟨t,u,v,k _ _ (.inl rfl) e⟩
 | lV ob u ih=>obtain⟨e,q⟩:=x;exact⟨k _ _ (.inl rfl) e,ih q⟩
 | Zx ps=>
  have e:h.get? a=some {cls:= .none,data:= .fields ps}:=x
  show h'.get? a=some {cls:= .none,data:= .fields ps}
  exact k a _ (.inl rfl) e
 | met f y=>
  have e:h.get? a=some (PySem.W.methodObj (.ref f) (.ref y)):=x
  show h'.get? a=some (PySem.W.methodObj (.ref f) (.ref y))
  exact k a _ (.inl rfl) e
 | ext φ=>obtain⟨p,⟨o,e⟩,st⟩:=x;exact⟨st _ _ p λo q=>k _ _ (.inl rfl) q,⟨o,k _ _ (.inl rfl) e⟩,st⟩
theorem ug.lt(x:ug P w H h)(e:H a=some o):a<h.objs.size:=(x a o e).lt
theorem ug.fresh(x:ug P w H h)(e:h.objs.size<=a):H a=none:=by
 cases q:H a with
 | none=>rfl
 | some u=>exact absurd (yA (x.lt q) e) (wS _)
theorem ug.kept(x:ug P w H h)(k:∀b u,h.get? b=some u->h'.get? b=some u):ug P w H h':=λa o e=>
 (x a o e).stay (λb u _ q=>k b u q) (λ_ q=>q) λ_ _ q=>q
theorem ug.laid(x:ug P w H h)(k:∀b u,h.get? b=some u->h'.get? b=some u)(hp:h.objs.size<=a)(new:cY P w (upd H a o) h' a o):ug P w (upd H a o) h':=λb u e=>by
 have hn:=x.fresh hp
 by_cases hb:b=a
 ·subst hb;rw[bw]at e;cases e;exact new
 ·rw[aH hb]at e
  exact(x b u e).stay (λc v _ q=>k c v q) (λc q=>by rw[aH (bJ q hn)];exact q) λc xs q=>by rw[aH (bJ q hn)];exact q
end
def Rd(H:Hp)(a:Addr)(u:HO):Prop:=H a=some u\/∃o,H a=some (.lV o u)
theorem Rd.ok(r:Rd H a u)(x:ug P w H h):cY P w H h a u:=by
 rcases r with r | ⟨o,r⟩
 ·exact x a u r
 ·obtain⟨_,q⟩:=x a _ r
  exact q
def Mut:Option HO->Prop
 | some (.lst _)=>True
 | some (.dK _)=>True
 | some (.dT _)=>True
 | some (.set _ _)=>True
 | some (.ins _ _ _)=>True
 | some (.ext _)=>True
 | _=>False
section
variable{P:Program}{w:World}{H:Hp}{h h':Heap}{x e:Addr}{o':HO}
theorem ug.write(ok:ug P w H h)(mu:Mut (H x))(he:e=x\/H e=some (.own x))(k:∀b u,b≠e->h.get? b=some u->h'.get? b=some u)(heo:∃u,h'.get? e=some u)
  (new:cY P w (upd H x o') h' x o'):ug P w (upd H x o') h':=λb u q=>by
 have ajz:∀c y,H c=some (.own y)->c≠x:=λc y r z=>by subst z;rw[r]at mu;exact mu
 have amN:∀c xs,H c=some (.tup xs)->c≠x:=λc xs r z=>by subst z;rw[r]at mu;exact mu
 by_cases hb:b=x
 ·subst hb;rw[bw]at q;cases q;exact new
 ·rw[aH hb]at q
  by_cases hbe:b=e
  ·have q':H b=some (.own x):=by
    rcases he with z | z
    ·exact absurd (hbe.trans z) hb
    ·rw[hbe];exact z
   rw[q]at q';cases q'
   obtain⟨v,hv⟩:=heo
   exact⟨v,by rw[hbe];exact hv⟩
  ·refine(ok b u q).stay (λc v hc r=>k c v ?_ r) (λc r=>by rw[aH (ajz c b r)];exact r) λc xs r=>by rw[aH (amN c xs r)];exact r
   rcases hc with rfl | hc
   ·exact hbe
   ·rintro rfl
    rcases he with z | z
    ·exact ajz c b hc z
    ·rw[hc]at z;cases z;exact hb rfl
end
structure Un(fs ex:List Addr)(H H':Hp)(h h':Heap):Prop where
 keep:∀b o,h.get? b=some o->H b=none->b∉fs->b∉ex->h'.get? b=some o
 slot:∀b o,h.get? b=some o->H b=none->b∈fs->b∉ex->∃sl,h'.get? b=some {o with slots:=sl}
 free:∀b o,h.get? b=some o->H b=none->b∉ex->H' b=none
 there:∀b o,h.get? b=some o->b∉ex->∃o',h'.get? b=some o'
 tups:∀b xs,H b=some (.tup xs)->H' b=some (.tup xs)
 yt:∀b o u,H b=some (.lV o u)->H' b=some (.lV o u)
 BJ:∀b ps,H b=some (.Zx ps)->∃more,H' b=some (.Zx (ps++more))
section
variable{fs fs' ex ex':List Addr}{H H1 H2:Hp}{h h1 h2 h':Heap}{a x e:Addr}{o:HO}
theorem Un.any(u:Un fs ex H H1 h h1)(q:h.get? b=some ob)(n:H b=none)(hx:b∉ex):∃sl,h1.get? b=some {ob with slots:=sl}:=by
 by_cases hb:b∈fs
 ·exact u.slot b ob q n hb hx
 ·exact⟨ob.slots,u.keep b ob q n hb hx⟩
theorem Un.kept(k:∀b u,h.get? b=some u->h'.get? b=some u):Un fs ex H H h h':=
 ⟨λb ob q _ _ _=>k b ob q,λb ob q _ _ _=>⟨ob.slots,k b ob q⟩,λ_ _ _ n _=>n,λb ob q _=>⟨ob,k b ob q⟩,λ_ _ q=>q,λ_ _ _ q=>q,λ_ ps q=>⟨#[],by rw[q];simp⟩⟩
theorem Un.refl:Un fs ex H H h h:=Un.kept λ_ _ q=>q
theorem Un.laid(k:∀b u,h.get? b=some u->h'.get? b=some u)(hp:h.objs.size<=a)(hn:H a=none):Un fs ex H (upd H a o) h h' where
 keep:=λb u q _ _ _=>k b u q
 slot:=λb u q _ _ _=>⟨u.slots,k b u q⟩
 free:=λb u q n _=>by rw[aH (xD (yA (zS q) hp))];exact n
 there:=λb u q _=>⟨u,k b u q⟩
 tups:=λb xs q=>by rw[aH (bJ q hn)];exact q
 yt:=λb u xs q=>by rw[aH (bJ q hn)];exact q
 BJ:=λb ps q=>⟨#[],by rw[aH (bJ q hn),q];simp⟩
theorem Un.write(mu:Mut (H x))(he:e=x\/H e=some (.own x))(k:∀b u,b≠e->h.get? b=some u->h'.get? b=some u)(heo:∃u,h'.get? e=some u):Un fs ex H (upd H x o) h h':=by
 have hx:∀b,H b=none->b≠x:=λb n z=>by subst z;rw[n]at mu;exact mu
 have hb:∀b,H b=none->b≠e:=λb n z=>by
  subst z
  rcases he with r | r
  ·exact hx b n r
  ·rw[n]at r;cases r
 have hm:∀b u,H b=some u->¬Mut (some u)->b≠x:=λb u q nm z=>by subst z;rw[q]at mu;exact nm mu
 refine⟨λb u q n _ _=>k b u (hb b n) q,λb u q n _ _=>⟨u.slots,k b u (hb b n) q⟩,λb u q n _=>by rw[aH (hx b n)];exact n,λb u q _=> ?_,
  λb xs q=>by rw[aH (hm b _ q λz=>z)];exact q,λb u xs q=>by rw[aH (hm b _ q λz=>z)];exact q,λb ps q=>⟨#[],by rw[aH (hm b _ q λz=>z),q];simp⟩⟩
 by_cases hbe:b=e
 ·subst hbe;exact heo
 ·exact⟨u,k b u hbe q⟩
end
def trk(h:Heap)(H:Hp):List Addr:=(List.range h.objs.size).filter λa=>(H a).isSome
def OJ(h:Heap)(H:Hp):Heap:=PySem.W.hideAll h (trk h H)
theorem Yo(h:Heap)(H:Hp):(OJ h H).objs.size=h.objs.size:=PySem.W.hideAll_size _ _
theorem abj(e:h.get? b=some o)(n:H b=none):(OJ h H).get? b=some o:=
 PySem.W.hideAll_get _ e λhm=>by
  have q:(H b).isSome=true:=(List.mem_filter.mp hm).2
  rw[n]at q;simp at q
theorem adg(e:(OJ h H).get? b=some o):h.get? b=some o/\H b=none:=by
 have e':h.get? b=some o:=PySem.W.of_hideAll (trk h H) e
 refine⟨e',?_⟩
 cases q:H b with
 | none=>rfl
 | some x=>
  have hm:b∈trk h H:=List.mem_filter.mpr ⟨List.mem_range.mpr (zS e'),by simp[q]⟩
  have z:(OJ h H).get? b=none:=PySem.W.hideAll_none (trk h H) hm
  rw[z]at e;cases e
def aeb(g h:Heap)(L:Addr):List (Addr×Obj):=(List.range h.objs.size).filterMap λa=>if a=L\/(g.get? a).isSome=true then none else(h.get? a).map λo=>(a,o)
def rest(g h:Heap)(L d:Addr):List (Addr×Obj):=(aeb g h L).filter λp=>decide (p.1≠d)
structure Mod(K:Frag)(mg:Str->Option Value)(base:Heap):Prop where
 kin:K.In base
 glob:base.Ns mainGlobals mg
 blt:∃mb,base.Ns builtinsNs mb/\∀x:Str,x≠ "__name__" -> mb x=bootBuiltins x
 nolimit:base.NoLimit
structure Cx where
 prog:Program
 w:World
 K:Frag
 mg:Str->Option Value
 base:Heap
 A:Around
 N:List Str
 s₀:Shared
 H₀:Hp
 env:Env
 outer:List Env
 stack:List Env
 ex:List Addr
 fn:Str->Bool
 calm:Bool
 pn:List (Addr×Obj)
 xe:Value->Shared->Prop
def frs(l:List Env):List Addr:=l.filterMap (·.frame)
abbrev Cx.fs(X:Cx):List Addr:=frs X.outer
def Vis(sc:Scope)(x:Str):Prop:=sc.names.lookup x=some .local\/sc.names.lookup x=some .cell\/sc.names.lookup x=some .free
def Loc(sc:Scope)(x:Str):Prop:=sc.names.lookup x=some .local\/sc.names.lookup x=some .cell
def Look(env:Env)(h:Heap)(m:Str->Option Value)(x:Str)(u:Value):Prop:=
 (env.kindOf x=some .local/\m x=some u)\/((env.kindOf x=some .cell\/env.kindOf x=some .free)/\∃c,env.cells.lookup x=some c/\h.IsCell c (some u))
structure Cx.Ok(X:Cx):Prop where
 mod:Mod X.K X.mg X.base
 kind:X.env.scope.kind= .function
 glob:X.env.globals=mainGlobals
 blt:X.env.builtins=builtinsNs
 above:X.s₀.heap.objs.size<=X.env.locals
 inj:∀x y c,X.env.cells.lookup x=some c->X.env.cells.lookup y=some c->x=y
 has:∀x,(X.env.kindOf x=some .cell\/X.env.kindOf x=some .free)->∃c,X.env.cells.lookup x=some c
 cab:∀x c,X.fn x=true->X.env.cells.lookup x=some c->X.s₀.heap.objs.size<=c
 hd:X.calm=true->X.A.handled=none
 frames:X.A.frames=some X.stack
 stk:X.stack=X.outer\/(X.stack=X.env::X.outer/\X.env.frame=some X.env.locals)
 exf:∀b∈X.ex,b≠X.env.locals/\∀x c,X.env.cells.lookup x=some c->c≠b
 bs:∀b o,X.base.get? b=some o->X.s₀.heap.get? b=some o/\X.H₀ b=none
 YF:X.base.objs.size<=X.s₀.heap.objs.size
 Rk:∀b o,X.base.get? b=some o->b∉X.ex
 RZ:∀b∈X.ex,b∉X.fs
 BW:X.s₀.heap.FunFrames X.base X.outer
 frf:∀b∈X.fs,X.H₀ b=none
structure Inv(X:Cx)(pins:List (Addr×Obj))(σ:List (Option V))(H:Hp)(s:Shared):Prop where
 ok:X.Ok
 os:s.os=X.s₀.os
 bare:AllBare s.gens
 base:Un X.fs X.ex X.H₀ H X.s₀.heap s.heap
 loc:∃m,s.heap.Ns X.env.locals m/\∀(i:Nat) (x:Str) (v:V),X.N[i]? = some x->σ[i]? = some (some v)->Vis X.env.scope x->∃u,RelV v u/\Look X.env s.heap m x u
 cell:∀x c,X.env.cells.lookup x=some c->∃v,s.heap.IsCell c v
 free:H X.env.locals=none
 j9:∀x c,X.env.cells.lookup x=some c->H c=none
 pin:∀p∈X.pn++pins,s.heap.get? p.1=some p.2/\H p.1=none/\p.1≠X.env.locals/\p.1∉X.fs/\∀v,p.2.data≠ .cell v
 hok:ug X.prog X.w H s.heap
 len:σ.length=X.N.length
section
variable{X:Cx}{pins:List (Addr×Obj)}{σ:List (Option V)}{H H':Hp}{s:Shared}{h':Heap}
theorem Cx.Ok.amP(ok:X.Ok)(e:X.base.get? b=some o):b∉X.fs:=λhb=>by
 have:=(ok.BW.mem hb).1
 rw[e]at this;cases this
theorem Inv.bs(I:Inv X pins σ H s):∀b o,X.base.get? b=some o->s.heap.get? b=some o/\H b=none:=λb o e=>
 ⟨I.base.keep b o (I.ok.bs b o e).1 (I.ok.bs b o e).2 (I.ok.amP e) (I.ok.Rk b o e),I.base.free b o (I.ok.bs b o e).1 (I.ok.bs b o e).2 (I.ok.Rk b o e)⟩
theorem Inv.bk(I:Inv X pins σ H s):∀b o,X.base.get? b=some o->s.heap.get? b=some o:=λb o e=>(I.bs b o e).1
theorem Inv.mod(I:Inv X pins σ H s):Mod X.K X.mg X.base:=I.ok.mod
theorem Inv.G6(I:Inv X pins σ H s):X.K.In s.heap:=I.ok.mod.kin.keeps I.bk
theorem Inv.fr(I:Inv X pins σ H s):∃m,Fr X.base X.env.locals s.heap m:=
 let⟨m,hn,_⟩:=I.loc
 ⟨m,hn,I.bk,yY I.ok.YF I.ok.above⟩
theorem Inv.lt(I:Inv X pins σ H s):X.env.locals<s.heap.objs.size:=let⟨_,hn,_⟩:=I.loc;hn.lt
theorem Inv.sz(I:Inv X pins σ H s):X.s₀.heap.objs.size<=s.heap.objs.size:=yY I.ok.above (Nat.le_of_lt I.lt)
theorem Inv.amO(I:Inv X pins σ H s)(h:s.heap.objs.size<=a):a∉X.fs:=λhb=>by
 obtain⟨_,o,ho,_⟩:=I.ok.BW.mem hb
 exact absurd (yA (zS ho) (yY I.sz h)) (wS _)
theorem Inv.cne(I:Inv X pins σ H s):∀x c,X.env.cells.lookup x=some c->c≠X.env.locals:=λx c e z=>by
 obtain⟨v,o,ho,hd⟩:=I.cell x c e
 obtain⟨m,⟨o',es,ep,ho',hd',_⟩,_⟩:=I.loc
 rw[z,ho']at ho;cases ho;rw[hd']at hd;cases hd
theorem Inv.BW(I:Inv X pins σ H s):s.heap.FunFrames X.base X.outer:=by
 have all:∀(l:List Env),(∀b∈frs l,b∈X.fs)->X.s₀.heap.FunFrames X.base l->s.heap.FunFrames X.base l:=by
  intro l
  induction l with
  | nil=>intro _ _;trivial
  | cons env r ih=>
   intro hs hl
   obtain⟨hk,⟨L,o,hf,hn,ho,hd⟩,hr⟩:=hl
   have hL:L∈X.fs:=hs L (by unfold frs;rw[List.filterMap_cons,hf];exact xB)
   obtain⟨sl,e⟩:=I.base.slot L o ho (I.ok.frf L hL) hL λz=>I.ok.RZ L z hL
   exact⟨hk,⟨L,_,hf,hn,e,hd⟩,ih (λb hb=>hs b (by unfold frs;rw[List.filterMap_cons,hf];exact yT _ hb)) hr⟩
 exact all X.outer (λ_ hb=>hb) I.ok.BW
theorem Inv.stack(I:Inv X pins σ H s):s.heap.FunFrames X.base X.stack:=by
 rcases I.ok.stk with e | ⟨e,hf⟩
 ·rw[e];exact I.BW
 ·rw[e]
  obtain⟨m,hn,_⟩:=I.loc
  refine .cons (by rw[I.ok.kind];decide) hf hn ?_ I.BW
  exact Heap.get?_none_of_le (yY I.ok.YF I.ok.above)
theorem Inv.Np(I:Inv X pins σ H s):∀b∈frs X.stack,b∈X.env.locals::X.fs:=λb hb=>by
 rcases I.ok.stk with e | ⟨e,hf⟩
 ·rw[e]at hb;exact yT _ hb
 ·rw[e]at hb
  unfold frs at hb
  rw[List.filterMap_cons,hf]at hb
  exact hb
theorem Inv.Ie(I:Inv X pins σ H s):∀b∈frs X.stack,H b=none:=λb hb=>by
 rcases List.mem_cons.mp (I.Np b hb)with e | hb
 ·rw[e];exact I.free
 ·obtain⟨_,o,ho,_⟩:=I.ok.BW.mem hb
  exact I.base.free b o ho (I.ok.frf b hb) λz=>I.ok.RZ b z hb
theorem Inv.step{g':Array GenState}{t':Nat}{ch:List Addr}(I:Inv X pins σ H s)
  (hch:∀b∈ch,(b∈X.ex\/X.s₀.heap.objs.size<=b)/\b≠X.env.locals/\(∀x c,X.env.cells.lookup x=some c->c≠b)/\∀p∈X.pn++pins,p.1≠b)
  (keep:∀b o,b≠X.env.locals->b∉X.fs->b∉ch->s.heap.get? b=some o->H b=none->h'.get? b=some o)
  (slot:∀b o,b≠X.env.locals->b∈X.fs->b∉ch->s.heap.get? b=some o->H b=none->∃sl,h'.get? b=some {o with slots:=sl}) (free:∀b o,b∉ch->s.heap.get? b=some o->H b=none->H' b=none)
  (there:∀b o,b∉ch->s.heap.get? b=some o->∃o',h'.get? b=some o')
  (tups:∀b xs,H b=some (.tup xs)->H' b=some (.tup xs)) (yt:∀b o u,H b=some (.lV o u)->H' b=some (.lV o u)) (BJ:∀b ps,H b=some (.Zx ps)->∃more,H' b=some (.Zx (ps++more)))
  (ns:∀m,s.heap.Ns X.env.locals m->h'.Ns X.env.locals m) (hok:ug X.prog X.w H' h') (hg:AllBare g'):
  Inv X pins σ H' {s with heap:=h',gens:=g',drawn:=d',toks:=t'}:=by
 have neL:∀b o,X.s₀.heap.get? b=some o->b≠X.env.locals:=λb o e=>xD (yA (zS e) I.ok.above)
 have neC:∀b o,X.s₀.heap.get? b=some o->b∉X.ex->b∉ch:=λb o e hx hb=>by
  rcases(hch b hb).1 with z | z
  ·exact hx z
  ·exact absurd (yA (zS e) z) (wS _)
 have cellK:∀x c,X.env.cells.lookup x=some c->∀v,s.heap.IsCell c v->h'.IsCell c v:=λx c e v ⟨o,ho,hd⟩=>by
  have nch:c∉ch:=λz=>(hch c z).2.2.1 x c e rfl
  by_cases hc:c∈X.fs
  ·obtain⟨sl,q⟩:=slot c o (I.cne x c e) hc nch ho (I.j9 x c e)
   exact⟨_,q,hd⟩
  ·exact⟨o,keep c o (I.cne x c e) hc nch ho (I.j9 x c e),hd⟩
 refine⟨I.ok,I.os,hg,⟨λb o e n hb hx=> ?_,λb o e n hb hx=> ?_,λb o e n hx=> ?_,λb o e hx=> ?_,λb xs e=>tups b xs (I.base.tups b xs e),λb o xs e=>yt b o xs (I.base.yt b o xs e),λb ps e=> ?_⟩,?_,λx c e=> ?_,?_,λx c e=> ?_,λp hp=> ?_,hok,I.len⟩
 ·exact keep b o (neL b o e) hb (neC b o e hx) (I.base.keep b o e n hb hx) (I.base.free b o e n hx)
 ·obtain⟨sl,e1⟩:=I.base.slot b o e n hb hx
  obtain⟨sl',e2⟩:=slot b _ (neL b o e) hb (neC b o e hx) e1 (I.base.free b o e n hx)
  exact⟨sl',e2⟩
 ·obtain⟨o',e1⟩:=I.base.there b o e hx
  exact free b o' (neC b o e hx) e1 (I.base.free b o e n hx)
 ·obtain⟨o',e1⟩:=I.base.there b o e hx
  exact there b o' (neC b o e hx) e1
 ·obtain⟨m1,e1⟩:=I.base.BJ b ps e
  obtain⟨m2,e2⟩:=BJ b _ e1
  exact⟨m1++m2,by rw[e2,Array.append_assoc]⟩
 ·obtain⟨m,hn,hl⟩:=I.loc
  refine⟨m,ns m hn,λi x v e1 e2 e3=> ?_⟩
  obtain⟨u,r,l⟩:=hl i x v e1 e2 e3
  refine⟨u,r,?_⟩
  rcases l with l | ⟨k,c,e,z⟩
  ·exact .inl l
  ·exact .inr ⟨k,c,e,cellK x c e _ z⟩
 ·obtain⟨v,z⟩:=I.cell x c e
  exact⟨v,cellK x c e v z⟩
 ·obtain⟨m,⟨o,_,_,ho,_⟩,_⟩:=I.loc
  exact free _ o (λz=>(hch _ z).2.1 rfl) ho I.free
 ·obtain⟨v,o,ho,hd⟩:=I.cell x c e
  exact free c o (λz=>(hch c z).2.2.1 x c e rfl) ho (I.j9 x c e)
 ·obtain⟨e,n,ne,nf,d⟩:=I.pin p hp
  have nch:p.1∉ch:=λz=>(hch p.1 z).2.2.2 p hp rfl
  exact⟨keep p.1 p.2 ne nf nch e n,free p.1 p.2 nch e n,ne,nf,d⟩
theorem Inv.un(I:Inv X pins σ H s)(u:Un X.fs [] H H' s.heap h')(hok:ug X.prog X.w H' h'):Inv X pins σ H' {s with heap:=h',toks:=t'}:=by
 obtain⟨m,⟨o,es,ep,ho,r⟩,_⟩:=id I.loc
 obtain⟨sl,hL⟩:=u.any ho I.free (by simp)
 exact I.step (g':=s.gens) (d':=s.drawn) (ch:=[]) (λ_ z=>nomatch z) (λb o _ hb _ e n=>u.keep b o e n hb (by simp)) (λb o _ hb _ e n=>u.slot b o e n hb (by simp)) (λb o _ e n=>u.free b o e n (by simp)) (λb o _ e=>u.there b o e (by simp)) u.tups u.yt u.BJ (λm' hm=>by
  obtain⟨o',es',ep',ho',r'⟩:=hm
  rw[ho]at ho';cases ho'
  exact⟨_,es',ep',hL,r'⟩) hok I.bare
theorem Inv.call(I:Inv X pins σ H s)(u:Un (frs X.stack) ch H H' s.heap h')(hok:ug X.prog X.w H' h')(hg:AllBare g')
  (hch:∀b∈ch,(b∈X.ex\/X.s₀.heap.objs.size<=b)/\b≠X.env.locals/\(∀x c,X.env.cells.lookup x=some c->c≠b)/\∀p∈X.pn++pins,p.1≠b):
  Inv X pins σ H' {s with heap:=h',gens:=g',drawn:=d',toks:=t'}:=by
 obtain⟨m,⟨o,es,ep,ho,r⟩,_⟩:=id I.loc
 obtain⟨sl,hL⟩:=u.any ho I.free λz=>(hch _ z).2.1 rfl
 exact I.step (ch:=ch) hch (λb o hL hb hc e n=>u.keep b o e n (λz=>(List.mem_cons.mp (I.Np b z)).elim hL hb) hc) (λb o _ _ hc e n=>u.any e n hc) (λb o hc e n=>u.free b o e n hc) (λb o hc e=>u.there b o e hc) u.tups u.yt u.BJ (λm' hm=>by
  obtain⟨o',es',ep',ho',r'⟩:=hm
  rw[ho]at ho';cases ho'
  exact⟨_,es',ep',hL,r'⟩) hok hg
theorem Inv.turned(I:Inv X pins σ H s)(k:∀b o,b≠it->s.heap.get? b=some o->h'.get? b=some o)(hn:H it=none)(hL:it≠X.env.locals)
  (h1:it∈X.ex\/X.s₀.heap.objs.size<=it) (h2:∀x c,X.env.cells.lookup x=some c->c≠it) (h3:∀p∈X.pn++pins,p.1≠it):Inv X pins σ H {s with heap:=h',toks:=t'}:=by
 have nit:∀b u,H b=some u->b≠it:=λb u e z=>by rw[z,hn]at e;cases e
 refine I.step (g':=s.gens) (d':=s.drawn) (ch:=[it]) (λb hb=> ?_) (λb o _ _ hc e _=>k b o (λz=>hc (by simp[z])) e) (λb o _ _ hc e _=>⟨o.slots,k b o (λz=>hc (by simp[z])) e⟩) (λ_ _ _ _ n=>n)
  (λb o hc e=>⟨o,k b o (λz=>hc (by simp[z])) e⟩) (λ_ _ e=>e) (λ_ _ _ e=>e) (λb ps e=>⟨#[],by rw[e];simp⟩) (λm hm=> ?_) (λb u e=> ?_) I.bare
 ·have e:b=it:=by simpa using hb
  subst e
  exact⟨h1,hL,h2,h3⟩
 ·obtain⟨o,es,ep,ho,r⟩:=hm
  exact⟨o,es,ep,k _ o (Ne.symm hL) ho,r⟩
 ·refine(I.hok b u e).stay (λc v hc q=>k c v ?_ q) (λ_ q=>q) λ_ _ q=>q
  rcases hc with z | z
  ·rw[z];exact nit b u e
  ·exact nit c _ z
theorem Inv.tok(I:Inv X pins σ H s)(t:Nat):Inv X pins σ H {s with toks:=t}:=I.un (h':=s.heap) (t':=t) Un.refl I.hok
theorem Inv.kept(I:Inv X pins σ H s)(k:∀b u,s.heap.get? b=some u->h'.get? b=some u):Inv X pins σ H {s with heap:=h',toks:=t'}:=I.un (Un.kept k) (I.hok.kept k)
theorem Inv.laid(I:Inv X pins σ H s)(k:∀b u,s.heap.get? b=some u->h'.get? b=some u)(hp:s.heap.objs.size<=a)(new:cY X.prog X.w (upd H a o) h' a o):
  Inv X pins σ (upd H a o) {s with heap:=h',toks:=t'}:=I.un (Un.laid k hp (I.hok.fresh hp)) (I.hok.laid k hp new)
theorem Inv.write(I:Inv X pins σ H s)(mu:Mut (H x))(he:e=x\/H e=some (.own x))(k:∀b u,b≠e->s.heap.get? b=some u->h'.get? b=some u)(heo:∃u,h'.get? e=some u)
  (new:cY X.prog X.w (upd H x o) h' x o):Inv X pins σ (upd H x o) {s with heap:=h',toks:=t'}:=I.un (Un.write mu he k heo) (I.hok.write mu he k heo new)
theorem Inv.weak(I:Inv X pins σ H s)(hl:σ'.length=σ.length)(w:∀(i:Nat) v,σ'[i]? = some (some v)->σ[i]? = some (some v)):Inv X pins σ' H s:=
 ⟨I.ok,I.os,I.bare,I.base,let⟨m,hn,hl'⟩:=I.loc;⟨m,hn,λi x v e1 e2 e3=>hl' i x v e1 (w i v e2) e3⟩,I.cell,I.free,I.j9,I.pin,I.hok,hl.trans I.len⟩
theorem Inv.wL(I:Inv X pins σ H s)(h:∀p∈zF,s.heap.get? p.1=some p.2/\H p.1=none/\p.1≠X.env.locals/\p.1∉X.fs/\∀v,p.2.data≠ .cell v):Inv X zF σ H s:=
 ⟨I.ok,I.os,I.bare,I.base,I.loc,I.cell,I.free,I.j9,λp hp=>(List.mem_append.mp hp).elim (λz=>I.pin p (List.mem_append_left _ z)) (h p),I.hok,I.len⟩
theorem Rm{N:List Str}(hN:N.Nodup){i j:Nat}{x:Str}(a:N[i]? = some x)(b:N[j]? = some x):i=j:=by
 obtain⟨h1,e1⟩:=List.getElem?_eq_some_iff.mp a
 obtain⟨h2,e2⟩:=List.getElem?_eq_some_iff.mp b
 exact(List.getElem_inj hN).mp (e1.trans e2.symm)
theorem Lr{E:Value->Shared->Prop}{Q:Unit->Shared->Prop}(I:Inv X pins σ H s)(hN:X.N.Nodup)(hi:X.N[i]? = some x)(hx:Loc X.env.scope x)(r:RelV v u)
  (h:∀s',Inv X pins (σ.set i (some v)) H s'->(∃a,Heap.SameBut a s.heap s'.heap/\(a=X.env.locals\/X.env.cells.lookup x=some a))->Q .unit s') (hf:X.fn x=true\/X.env.scope.names.lookup x=some .local:=by first | exact .inl rfl | exact .inr rfl | assumption):wpAny M A (storeName X.env x u) Q E s:=by
 obtain⟨m,hn,hl⟩:=id I.loc
 have hcls:(X.env.scope.kind== .class||(X.env.scope.kind== .module&&X.env.locals != X.env.globals))=false:=by rw[I.ok.kind];rfl
 have aj6:i<σ.length:=by rw[I.len];exact(List.getElem?_eq_some_iff.mp hi).1
 have cne:=I.cne
 have tracked:∀{a:Addr} {h':Heap},(∃o,s.heap.get? a=some o/\H a=none)->Heap.SameBut a s.heap h'->ug X.prog X.w H h':=λ{a h'} ha hs b ob e=>by
  obtain⟨_,_,hfree⟩:=ha
  refine(I.hok b ob e).stay (λc w' hc q=>(hs.2 c ?_).trans q) (λ_ q=>q) λ_ _ q=>q
  rintro rfl
  rcases hc with rfl | hc
  ·rw[hfree]at e;cases e
  ·rw[hfree]at hc;cases hc
 rcases hx with hk | hk
 ·refine wpAny_storeName_local hk hn (λh' hn' hs=> ?_) hcls
  obtain⟨oL,_,_,hoL,_⟩:=id hn
  refine h _ ⟨I.ok,I.os,I.bare,⟨λb o e n hb hx=> ?_,λb o e n hb hx=> ?_,I.base.free,λb o e hx=> ?_,I.base.tups,I.base.yt,I.base.BJ⟩,⟨_,hn',λj y v' e1 e2 e3=> ?_⟩,λy c e=> ?_,I.free,I.j9,λp hp=> ?_,tracked ⟨oL,hoL,I.free⟩ hs,by simpa using I.len⟩ ⟨_,hs,.inl rfl⟩
  ·exact(hs.2 b (xD (yA (zS e) I.ok.above))).trans (I.base.keep b o e n hb hx)
  ·obtain⟨sl,e1⟩:=I.base.slot b o e n hb hx
   exact⟨sl,(hs.2 b (xD (yA (zS e) I.ok.above))).trans e1⟩
  ·obtain⟨o',e1⟩:=I.base.there b o e hx
   exact⟨o',(hs.2 b (xD (yA (zS e) I.ok.above))).trans e1⟩
  ·by_cases hj:j=i
   ·subst hj
    rw[hi]at e1;cases e1
    rw[zak aj6]at e2
    cases e2
    exact⟨u,r,.inl ⟨hk,by simp⟩⟩
   ·rw[zaj (Ne.symm hj)]at e2
    obtain⟨u',r',q⟩:=hl j y v' e1 e2 e3
    refine⟨u',r',?_⟩
    rcases q with⟨k,e⟩ | ⟨k,c,e,z⟩
    ·refine .inl ⟨k,?_⟩
     have:y≠x:=λe=>hj (Rm hN e1 (e▸hi))
     simp[this,e]
    ·exact .inr ⟨k,c,e,z.sameBut hs (cne y c e)⟩
  ·obtain⟨w',z⟩:=I.cell y c e
   exact⟨w',z.sameBut hs (cne y c e)⟩
  ·obtain⟨e,n,ne,nf,d⟩:=I.pin p hp
   exact⟨(hs.2 p.1 ne).trans e,n,ne,nf,d⟩
 ·have hfn:X.fn x=true:=by
   rcases hf with z | z
   ·exact z
   ·rw[z]at hk;cases hk
  obtain⟨c,hc⟩:=I.ok.has x (.inl hk)
  obtain⟨w',z⟩:=I.cell x c hc
  refine wpAny_storeName_cell I.ok.kind hk hc z (λh' hc' hs=> ?_)
  obtain⟨oc,hoc,anj⟩:=id z
  refine h {s with heap:=h'} ⟨I.ok,I.os,I.bare,⟨λb o e n hb hx=> ?_,λb o e n hb hx=> ?_,I.base.free,λb o e hx=> ?_,I.base.tups,I.base.yt,I.base.BJ⟩,⟨m,hn.sameBut hs (Ne.symm (cne x c hc)),λj y v' e1 e2 e3=> ?_⟩,λy c' e=> ?_,I.free,I.j9,λp hp=> ?_,tracked ⟨oc,hoc,I.j9 x c hc⟩ hs,by simpa using I.len⟩ ⟨c,hs,.inr hc⟩
  ·exact(hs.2 b (xD (yA (zS e) (I.ok.cab x c hfn hc)))).trans (I.base.keep b o e n hb hx)
  ·obtain⟨sl,e1⟩:=I.base.slot b o e n hb hx
   exact⟨sl,(hs.2 b (xD (yA (zS e) (I.ok.cab x c hfn hc)))).trans e1⟩
  ·obtain⟨o',e1⟩:=I.base.there b o e hx
   exact⟨o',(hs.2 b (xD (yA (zS e) (I.ok.cab x c hfn hc)))).trans e1⟩
  ·by_cases hj:j=i
   ·subst hj
    rw[hi]at e1;cases e1
    rw[zak aj6]at e2
    cases e2
    exact⟨u,r,.inr ⟨.inl hk,c,hc,hc'⟩⟩
   ·rw[zaj (Ne.symm hj)]at e2
    obtain⟨u',r',q⟩:=hl j y v' e1 e2 e3
    refine⟨u',r',?_⟩
    rcases q with q | ⟨k,c',e,z'⟩
    ·exact .inl q
    ·refine .inr ⟨k,c',e,z'.sameBut hs ?_⟩
     rintro rfl
     exact hj (Rm hN e1 (I.ok.inj _ _ _ e hc▸hi))
  ·by_cases hcc:c'=c
   ·subst hcc;exact⟨_,hc'⟩
   ·obtain⟨w2,z2⟩:=I.cell y c' e
    exact⟨w2,z2.sameBut hs hcc⟩
  ·obtain⟨e,n,ne,nf,d⟩:=I.pin p hp
   refine⟨(hs.2 p.1 ?_).trans e,n,ne,nf,d⟩
   intro q
   rw[q,hoc]at e
   have q':oc=p.2:=xI e
   exact d w' (by rw[<-q'];exact anj)
theorem QD{E:Value->Shared->Prop}{Q:Unit->Shared->Prop}(I:Inv X pins σ H s)(hN:X.N.Nodup)(hi:X.N[i]? = some x)(hx:Loc X.env.scope x)(r:RelV v u)
  (h:∀s',Inv X pins (σ.set i (some v)) H s'->Q .unit s') (hf:X.fn x=true\/X.env.scope.names.lookup x=some .local:=by first | exact .inl rfl | exact .inr rfl | assumption):wpAny M A (storeName X.env x u) Q E s:=
 Lr I hN hi hx r (λs' I' _=>h s' I') hf
theorem Inv.call'(I:Inv X pins σ H s)(ho:s'.os=s.os)(u:Un (frs X.stack) ch H H' s.heap s'.heap)(hok:ug X.prog X.w H' s'.heap)(hg:AllBare s'.gens)
  (hch:∀b∈ch,(b∈X.ex\/X.s₀.heap.objs.size<=b)/\b≠X.env.locals/\(∀x c,X.env.cells.lookup x=some c->c≠b)/\∀p∈X.pn++pins,p.1≠b):Inv X pins σ H' s':=by
 obtain⟨h',g',d',t',o'⟩:=s'
 have e:o'=s.os:=ho
 subst e
 exact I.call (g':=g') (t':=t') (d':=d') u hok hg hch
end
abbrev XK:=Value->Option Addr->Hp->Prop
abbrev St:=List (Option V)
abbrev VK:=V->Hp->Prop
abbrev TE:=St->Hp->VK->Prop
abbrev TT:=St->Hp->(Bool->Hp->Prop)->Prop
abbrev TA:=St->Hp->(List V->Hp->Prop)->Prop
structure Ends where
 nx:St->Hp->Prop
 rt:VK
 bk:St->Hp->Prop:=λ_ _=>False
 ct:St->Hp->Prop:=λ_ _=>False
abbrev TS:=Ends->St->Hp->Prop
def EP(X:Cx)(pins:List (Addr×Obj))(σ:St)(Q:VK)(u:Value)(s':Shared):Prop:=∃v H',Inv X pins σ H' s'/\RelV v u/\Q v H'
def TP(X:Cx)(pins:List (Addr×Obj))(σ:St)(Q:Bool->Hp->Prop)(b:Bool)(s':Shared):Prop:=∃H',Inv X pins σ H' s'/\Q b H'
def AP(X:Cx)(pins:List (Addr×Obj))(σ:St)(Q:List V->Hp->Prop)(us:List Value)(s':Shared):Prop:=∃vs H',Inv X pins σ H' s'/\Vals vs us/\Q vs H'
def SP(X:Cx)(pins:List (Addr×Obj))(D:Ends)(f:Flow)(s':Shared):Prop:=
 match f with
 | .next=>∃σ' H',Inv X pins σ' H' s'/\D.nx σ' H'
 | .brk=>∃σ' H',Inv X pins σ' H' s'/\D.bk σ' H'
 | .cont=>∃σ' H',Inv X pins σ' H' s'/\D.ct σ' H'
 | .ret u=>∃v σ' H',Inv X pins σ' H' s'/\RelV v u/\D.rt v H'
def PE(X:Cx)(e:Expr)(t:TE):Prop:=
 ∀(pins:List (Addr×Obj)) (s:Shared) (σ:St) (H:Hp) (Q:VK),Inv X pins σ H s->t σ H Q->wpAny (model X.prog X.w) X.A (eval e X.env) (EP X pins σ Q) X.xe s
def PT(X:Cx)(e:Expr)(t:TT):Prop:=
 ∀(pins:List (Addr×Obj)) (s:Shared) (σ:St) (H:Hp) (Q:Bool->Hp->Prop),Inv X pins σ H s->t σ H Q->wpAny (model X.prog X.w) X.A (isTrue e X.env (eval e X.env)) (TP X pins σ Q) X.xe s
def PW(X:Cx)(e:Expr)(t:TT):Prop:=
 ∀(whole:Sem Value) (pins:List (Addr×Obj)) (s:Shared) (σ:St) (H:Hp) (Q:Bool->Hp->Prop),Inv X pins σ H s->t σ H Q->wpAny (model X.prog X.w) X.A (isTrue e X.env whole) (TP X pins σ Q) X.xe s
theorem PW.pt(h:PW X e t):PT X e t:=h _
def PA(X:Cx)(es:List Expr)(t:TA):Prop:=
 ∀(pos:Pos) (pins:List (Addr×Obj)) (s:Shared) (σ:St) (H:Hp) (Q:List V->Hp->Prop),Inv X pins σ H s->t σ H Q->wpAny (model X.prog X.w) X.A (spliced (backTo pos (starEach es X.env))) (AP X pins σ Q) X.xe s
def PS(X:Cx)(st:Stmt)(t:TS):Prop:=
 ∀(pins:List (Addr×Obj)) (s:Shared) (σ:St) (H:Hp) (D:Ends),Inv X pins σ H s->t D σ H->wpAny (model X.prog X.w) X.A (exec st X.env) (SP X pins D) X.xe s
def HY(X:Cx)(st:List Stmt)(t:TS):Prop:=
 ∀(pins:List (Addr×Obj)) (s:Shared) (σ:St) (H:Hp) (D:Ends),Inv X pins σ H s->t D σ H->wpAny (model X.prog X.w) X.A (execs st X.env) (SP X pins D) X.xe s
theorem gj{α:Type}{t:Sem α}{Q Q':α->Shared->Prop}{M:Model}{A:Around}{E:Value->Shared->Prop}{s:Shared}(h:wpAny M A t Q E s)(hQ:∀a s,Q a s->Q' a s):wpAny M A t Q' E s:=vE h hQ λ_ _ x=>x
section
variable{X:Cx}
def acf(i:Nat):TE:=λσ H Q=>∃v,σ[i]? = some (some v)/\Q v H
def tC(v:V):TE:=λ_ H Q=>Q v H
theorem aaE(hN:X.N[i]? = some x)(hv:Vis X.env.scope x)(hd:(x==("__debug__" : Str))=false:=by decide)(hcd:(x==("__classdict__" : Str))=false:=by decide):PE X (.Name x pos) (acf i):=by
 intro pins s σ H Q I h
 obtain⟨v,e,h⟩:=h
 obtain⟨m,hn,hl⟩:=I.loc
 obtain⟨u,r,l⟩:=hl i x v hN e hv
 have fin:EP X pins σ Q u s:=⟨v,H,I,r,h⟩
 rcases l with⟨hk,hm⟩ | ⟨hk,c,hc,hcell⟩
 ·exact wpAny_Name (wpAny_loadName_local I.ok.kind hk hn hm fin) hd
 ·rcases hk with hk | hk
  ·exact wpAny_Name (wpAny_loadName_cell I.ok.kind hk hc hcell fin) hd
  ·exact wpAny_Name (wpAny_loadName_free I.ok.kind hk hc hcell fin hcd) hd
theorem af6{i j pos}:PE X (.Constant (.int i) j pos) (tC (.int i)):=λ_ _ _ H _ I h=>wpAny_Constant_int ⟨.int i,H,I.tok _,⟨_,rfl⟩,h⟩
theorem ajr{b j pos}:PE X (.Constant (.bool b) j pos) (tC (.bl b)):=λ_ _ _ H _ I h=>Constant_bool ⟨.bl b,H,I,rfl,h⟩
theorem af4{j pos}:PE X (.Constant .none j pos) (tC .non):=λ_ _ _ H _ I h=>Constant_none ⟨.non,H,I,rfl,h⟩
theorem af1{x j pos}:PE X (.Constant (.str x) j pos) (tC (.str x)):=λ_ _ _ H _ I h=>Calls.Constant_str ⟨.str x,H,I.tok _,⟨_,rfl⟩,h⟩
def Gl(X:Cx)(x:Str):Prop:=X.env.kindOf x=some .globalImplicit
theorem Ew{E:Value->Shared->Prop}{Q:Value->Shared->Prop}(I:Inv X pins σ H s)(hg:Gl X x)(hm:X.mg x=some u)(h:Q u s)
  (hd:(x==("__debug__" : Str))=false:=by decide):wpAny (model X.prog X.w) X.A (eval (.Name x pos) X.env) Q E s:=
 Calls.Name_function_global I.ok.kind hg (Calls.loadGlobal_global (by rw[I.ok.glob];exact I.mod.glob.keeps I.bk) hm h) hd
theorem JX{E:Value->Shared->Prop}{Q:Value->Shared->Prop}(I:Inv X pins σ H s)(hg:Gl X x)(hm:X.mg x=none)(hv:bootBuiltins x=some u)(h:Q u s)
  (hn:x≠ "__name__" := by decide) (hd:(x==("__debug__" : Str))=false:=by decide):wpAny (model X.prog X.w) X.A (eval (.Name x pos) X.env) Q E s:=by
 obtain⟨mb,h1,h2⟩:=I.mod.blt
 exact Calls.Name_function_global I.ok.kind hg (Calls.loadGlobal_builtin (by rw[I.ok.glob];exact I.mod.glob.keeps I.bk) hm (by rw[I.ok.blt];exact h1.keeps I.bk) ((h2 x hn).trans hv) h) hd
theorem N6(hg:Gl X x)(hm:X.mg x=some u)(r:RelV v u)(hd:(x==("__debug__" : Str))=false:=by decide):PE X (.Name x pos) (tC v):=
 λ_ _ _ H _ I h=>Ew I hg hm ⟨v,H,I,r,h⟩ hd
variable{a b:Expr}{ta tb:TE}{pos:Pos}
def tB(t:TE):TT:=λσ H Q=>t σ H λx H1=>∃c,x= .bl c/\Q c H1
theorem afO(h:PE X e t)(he:∀whole,isTrue e X.env whole=(do let v <-whole;standAt e.pos;holding [v] (truthy v)):=by intro _;rfl):PT X e (tB t):=by
 intro pins s σ H Q I hw
 refine isTrue_plain (gj (h pins s σ H _ I hw) ?_) (he _)
 rintro v s1 ⟨x,H1,I1,r1,q1⟩
 obtain⟨d,rfl,q⟩:=q1
 cases r1
 exact wpAny_truthy_bool ⟨H1,I1,q⟩
variable{tA tB':TT}{rest:List Expr}
def ami(t u:TT):TT:=λσ H Q=>t σ H λc H1=>if c=true then u σ H1 Q else Q false H1
def tOr(t u:TT):TT:=λσ H Q=>t σ H λc H1=>if c=true then Q true H1 else u σ H1 Q
def amb(t:TT):TT:=λσ H Q=>t σ H λc H1=>Q (!c) H1
theorem acM(ha:PT X a tA):PW X (.BoolOp .And [a] pos) tA:=by
 intro wh pins s σ H Q I h
 refine isTrue_and (gj (ha pins s σ H Q I h) λc s1 e=> ?_)
 cases c with
 | true=>exact isTrue_and_nil e
 | false=>exact e
theorem afL(ha:PT X a tA):PW X (.BoolOp .Or [a] pos) tA:=by
 intro wh pins s σ H Q I h
 refine isTrue_or (gj (ha pins s σ H Q I h) λc s1 e=> ?_)
 cases c with
 | false=>exact isTrue_or_nil e
 | true=>exact e
theorem afM(ha:PT X a tA)(hb:PW X (.BoolOp .And (b::rest) pos) tB'):PW X (.BoolOp .And (a::b::rest) pos) (ami tA tB'):=by
 intro wh pins s σ H Q I h
 refine isTrue_and (gj (ha pins s σ H _ I h) ?_)
 rintro c s1 ⟨H1,I1,q1⟩
 cases c with
 | true=>exact hb wh pins s1 σ H1 Q I1 q1
 | false=>exact⟨H1,I1,q1⟩
theorem ajk(ha:PT X a tA)(hb:PW X (.BoolOp .Or (b::rest) pos) tB'):PW X (.BoolOp .Or (a::b::rest) pos) (tOr tA tB'):=by
 intro wh pins s σ H Q I h
 refine isTrue_or (gj (ha pins s σ H _ I h) ?_)
 rintro c s1 ⟨H1,I1,q1⟩
 cases c with
 | true=>exact⟨H1,I1,q1⟩
 | false=>exact hb wh pins s1 σ H1 Q I1 q1
theorem afP(ha:PT X a tA):PT X (.UnaryOp .Not a pos) (amb tA):=by
 intro pins s σ H Q I h
 exact isTrue_not (ha pins s σ H (λc H1=>Q (!c) H1) I h)
def aiL(ta tb:TE):TE:=λσ H Q=>ta σ H λx H1=>∃c,x= .bl c/\if c=true then tb σ H1 Q else Q (.bl false) H1
def ama(ta tb:TE):TE:=λσ H Q=>ta σ H λx H1=>∃c,x= .bl c/\if c=true then Q (.bl true) H1 else tb σ H1 Q
def aiG(ta:TE):TE:=λσ H Q=>ta σ H λx H1=>∃c,x= .bl c/\Q (.bl (!c)) H1
theorem af2{op}(h:PE X a t):PE X (.BoolOp op [a] pos) t:=λpins s σ H Q I hw=>BoolOp_one (h pins s σ H Q I hw)
theorem af8(ha:PE X a ta)(hb:PE X (.BoolOp .And (b::rest) pos) tb):PE X (.BoolOp .And (a::b::rest) pos) (aiL ta tb):=by
 intro pins s σ H Q I h
 refine BoolOp_and (gj (ha pins s σ H _ I h) ?_)
 rintro v s1 ⟨x,H1,I1,r1,q1⟩
 obtain⟨c,rfl,q1⟩:=q1
 cases r1
 refine wpAny_truthy_bool ?_
 cases c with
 | true=>exact hb pins s1 σ H1 Q I1 q1
 | false=>exact⟨.bl false,H1,I1,rfl,q1⟩
theorem ajo(ha:PE X a ta)(hb:PE X (.BoolOp .Or (b::rest) pos) tb):PE X (.BoolOp .Or (a::b::rest) pos) (ama ta tb):=by
 intro pins s σ H Q I h
 refine BoolOp_or (gj (ha pins s σ H _ I h) ?_)
 rintro v s1 ⟨x,H1,I1,r1,q1⟩
 obtain⟨c,rfl,q1⟩:=q1
 cases r1
 refine wpAny_truthy_bool ?_
 cases c with
 | false=>exact hb pins s1 σ H1 Q I1 q1
 | true=>exact⟨.bl true,H1,I1,rfl,q1⟩
theorem af3(ha:PE X a ta):PE X (.UnaryOp .Not a pos) (aiG ta):=by
 intro pins s σ H Q I h
 refine UnaryOp_ (gj (ha pins s σ H _ I h) ?_)
 rintro v s1 ⟨x,H1,I1,r1,q1⟩
 obtain⟨c,rfl,q1⟩:=q1
 cases r1
 exact not_of (wpAny_truthy_bool ⟨.bl (!c),H1,I1,rfl,q1⟩)
def tIf(t:TT)(ta tb:TE):TE:=λσ H Q=>t σ H λc H1=>if c=true then ta σ H1 Q else tb σ H1 Q
theorem aaH(hc:PT X c tA)(ha:PE X a ta)(hb:PE X b tb):PE X (.IfExp c a b pos) (tIf tA ta tb):=by
 intro pins s σ H Q I h
 refine wpAny_IfExp (gj (hc pins s σ H _ I h) ?_)
 rintro d s1 ⟨H1,I1,q1⟩
 cases d with
 | true=>exact ha pins s1 σ H1 Q I1 q1
 | false=>exact hb pins s1 σ H1 Q I1 q1
end
def qO(K:Frag)(H:Hp)(a:Addr)(xs:List V):Prop:=
 Rd H a (.lst xs)\/
  ∃(o:Obj) (its:Array Value) (n:Nat),K.lookup a=some o/\o.cls= .type "list" /\ o.dict=none/\o.data= .seq its n/\its.size<=sizeLine/\Vals xs its.toList
def lY(K:Frag)(H:Hp)(a:Addr)(xs:List V):Prop:=
 Rd H a (.tup xs)\/
  ∃(o:Obj) (its:Array Value) (n:Nat),K.lookup a=some o/\o.cls= .type "tuple" /\ o.data= .seq its n/\its.size<=sizeLine/\Vals xs its.toList
noncomputable def aok:Value->Option V
 | .none=>some .non
 | .bool b=>some (.bl b)
 | .int i _=>some (.int i)
 | .str x _=>some (.str x)
 | .bytes b _=>some (.byt b)
 | .float b _=>some (.flt b)
 | .ref a=>some (.ref a)
 | .type n=>some (.ty n)
 | _=>none
theorem RelV.abs(r:RelV x u):aok u=some x:=by
 cases x with
 | non=>cases r;rfl
 | bl _=>cases r;rfl
 | int _=>obtain⟨t,rfl⟩:=r;rfl
 | str _=>obtain⟨t,rfl⟩:=r;rfl
 | byt _=>obtain⟨t,rfl⟩:=r;rfl
 | flt _=>obtain⟨t,rfl⟩:=r;rfl
 | ref _=>cases r;rfl
 | ty _=>cases r;rfl
theorem RelV.inj(r:RelV x u)(q:RelV y u):x=y:=xI (r.abs.symm.trans q.abs)
theorem Vals.inj:∀{xs ys:List V} {us:List Value},Vals xs us->Vals ys us->xs=ys
 | _,_,_,.nil,.nil=>rfl
 | _,_,_,.cons r t,.cons r' t'=>by rw[r.inj r',Vals.inj t t']
section
variable{X:Cx}{pins:List (Addr×Obj)}{σ:St}{H:Hp}{s:Shared}{a:Addr}{xs ys:List V}
theorem qO.of{K:Frag}(h:H a=some (.lst xs)):qO K H a xs:= .inl (.inl h)
theorem lY.of{K:Frag}(h:H a=some (.tup xs)):lY K H a xs:= .inl (.inl h)
theorem Inv.list(I:Inv X pins σ H s)(h:qO X.K H a xs):∃its:List Value,Vals xs its/\PlainL s.heap a its.toArray/\xs.length<=sizeLine:=by
 rcases h with h | ⟨o,its,n,hk,hc,hd,hs,hz,r⟩
 ·obtain⟨z,its,n,r,e⟩:=h.ok I.hok
  exact⟨its,r,⟨_,n,e,rfl,rfl,rfl⟩,z⟩
 ·refine⟨its.toList,r,⟨o,n,I.G6 a o hk,hc,hd,by simpa using hs⟩,?_⟩
  have e:=r.length
  simp only[Array.length_toList]at e
  omega
theorem Inv.tuple(I:Inv X pins σ H s)(h:lY X.K H a xs):∃its:List Value,Vals xs its/\IsTup s.heap a its.toArray/\xs.length<=sizeLine:=by
 rcases h with h | ⟨o,its,n,hk,hc,hs,hz,r⟩
 ·obtain⟨z,its,r,p⟩:=h.ok I.hok
  exact⟨its,r,p,z⟩
 ·refine⟨its.toList,r,⟨o,I.G6 a o hk,hc,n,by simpa using hs⟩,?_⟩
  have e:=r.length
  simp only[Array.length_toList]at e
  omega
theorem Inv.JR(I:Inv X pins σ H s)(h:qO X.K H a xs)(h':qO X.K H a ys):xs=ys:=by
 obtain⟨its,r,⟨o,n,e,_,_,d⟩,_⟩:=I.list h
 obtain⟨its',r',⟨o',n',e',_,_,d'⟩,_⟩:=I.list h'
 rw[e]at e';cases e'
 rw[d]at d'
 injection d' with d1 _
 have:its=its':=by simpa using congrArg Array.toList d1
 subst this
 exact r.inj r'
theorem Inv.Fx(I:Inv X pins σ H s)(h:lY X.K H a xs)(h':lY X.K H a ys):xs=ys:=by
 obtain⟨its,r,⟨o,e,_,n,d⟩,_⟩:=I.tuple h
 obtain⟨its',r',⟨o',e',_,n',d'⟩,_⟩:=I.tuple h'
 rw[e]at e';cases e'
 rw[d]at d'
 injection d' with d1 _
 have:its=its':=by simpa using congrArg Array.toList d1
 subst this
 exact r.inj r'
end
abbrev Cx.wish(X:Cx)(E:Value->Shared->Prop):Cx:={X with xe:=E}
abbrev Cx.nox(X:Cx):Cx:=X.wish λ_ _=>False
theorem Cx.Ok.wish{X:Cx}(ok:X.Ok)(E:Value->Shared->Prop):(X.wish E).Ok:=
 ⟨ok.mod,ok.kind,ok.glob,ok.blt,ok.above,ok.inj,ok.has,ok.cab,ok.hd,ok.frames,ok.stk,ok.exf,ok.bs,ok.YF,ok.Rk,ok.RZ,ok.BW,ok.frf⟩
theorem Cx.Ok.nj{X:Cx}{E:Value->Shared->Prop}(ok:(X.wish E).Ok):X.Ok:=
 ⟨ok.mod,ok.kind,ok.glob,ok.blt,ok.above,ok.inj,ok.has,ok.cab,ok.hd,ok.frames,ok.stk,ok.exf,ok.bs,ok.YF,ok.Rk,ok.RZ,ok.BW,ok.frf⟩
section
variable{X:Cx}{pins:List (Addr×Obj)}{σ:St}{H:Hp}{s:Shared}{E:Value->Shared->Prop}
theorem Inv.wish(I:Inv X pins σ H s)(E:Value->Shared->Prop):Inv (X.wish E) pins σ H s:=⟨I.ok.wish E,I.os,I.bare,I.base,I.loc,I.cell,I.free,I.j9,I.pin,I.hok,I.len⟩
theorem Inv.nj(I:Inv (X.wish E) pins σ H s):Inv X pins σ H s:=⟨I.ok.nj,I.os,I.bare,I.base,I.loc,I.cell,I.free,I.j9,I.pin,I.hok,I.len⟩
theorem SP.nj(h:SP (X.wish E) pins D f s'):SP X pins D f s':=by
 cases f with
 | next=>obtain⟨σ',H',I,q⟩:=h;exact⟨σ',H',I.nj,q⟩
 | brk=>obtain⟨σ',H',I,q⟩:=h;exact⟨σ',H',I.nj,q⟩
 | cont=>obtain⟨σ',H',I,q⟩:=h;exact⟨σ',H',I.nj,q⟩
 | ret u=>obtain⟨v,σ',H',I,r,q⟩:=h;exact⟨v,σ',H',I.nj,r,q⟩
theorem HY.nox{st:List Stmt}(h:HY X.nox st t):HY X st t:=λpins s σ H D I hw=>
 vE (h pins s σ H D (I.wish _) hw) (λ_ _ q=>q.nj) λ_ _ z=>False.elim z
end
section
variable{X:Cx}{st:Stmt}{rest:List Stmt}{t u:TS}{e:Expr}{te:TE}{pos:Pos}
def aeo:TS:=λD σ H=>D.nx σ H
def al9(t u:TS):TS:=λD σ H=>t {D with nx:=u D} σ H
theorem acQ:HY X [] aeo:=λ_ _ σ H _ I h=>wpAny_execs_nil ⟨σ,H,I,h⟩
theorem aaw(h1:PS X st t)(h2:HY X rest u):HY X (st::rest) (al9 t u):=by
 intro pins s σ H D I h
 refine wpAny_execs_cons (gj (h1 pins s σ H {D with nx:=u D} I h) λf s1 q=> ?_)
 cases f with
 | next=>
  obtain⟨σ',H',I',q⟩:=q
  exact h2 pins s1 σ' H' D I' q
 | ret v=>exact q
 | brk=>exact q
 | cont=>exact q
theorem V0(h1:PS X st t):HY X [st] t:=by
 intro pins s σ H D I h
 refine wpAny_execs_cons (gj (h1 pins s σ H D I h) λf s1 q=> ?_)
 cases f with
 | next=>exact wpAny_execs_nil q
 | ret v=>exact q
 | brk=>exact q
 | cont=>exact q
theorem Inv.quiet(I:Inv X pins σ H s):interactive X.env=false:=by simp[interactive,I.ok.kind]
def aiI(te:TE):TS:=λD σ H=>te σ H λ_ H1=>D.nx σ H1
theorem acV(he:PE X e te)(hs:swapsWith e none pos.line X.env=pure false:=by rfl):PS X (.Expr e pos) (aiI te):=by
 intro pins s σ H D I h
 exact wpAny_Expr_any (gj (he pins s σ H _ I h) λv s1 ⟨x,H1,I1,r1,q1⟩=>⟨σ,H1,I1,q1⟩) I.quiet hs
def al_(te:TE):TS:=λD σ H=>te σ H D.rt
theorem afR(he:PE X e te):PS X (.Return (some e) pos) (al_ te):=by
 intro pins s σ H D I h
 exact wpAny_Return_some (gj (he pins s σ H _ I h) λv s1 ⟨x,H1,I1,r1,q1⟩=>⟨x,σ,H1,I1,r1,q1⟩)
def aiD:TS:=λD _ H=>D.rt .non H
theorem acT:PS X (.Return none pos) aiD:=λ_ _ σ H _ I h=>wpAny_Return_none ⟨.non,σ,H,I,rfl,h⟩
def amd(c:TT)(t u:TS):TS:=λD σ H=>c σ H λb H1=>if b=true then t D σ H1 else u D σ H1
theorem ajl(hc:PT X c tc)(ha:HY X a t)(hb:HY X b u):PS X (.If c a b pos) (amd tc t u):=by
 intro pins s σ H D I h
 refine wpAny_If (gj (hc pins s σ H _ I h) ?_)
 rintro d s1 ⟨H1,I1,q1⟩
 cases d with
 | true=>exact ha pins s1 σ H1 D I1 q1
 | false=>exact hb pins s1 σ H1 D I1 q1
end
abbrev TG:=V->St->Hp->(St->Hp->Prop)->Prop
abbrev TGs:=List V->St->Hp->(St->Hp->Prop)->Prop
def PG(X:Cx)(target:Expr)(t:TG):Prop:=
 ∀(pins:List (Addr×Obj)) (s:Shared) (σ:St) (H:Hp) (v:V) (u:Value) (Q:St->Hp->Prop),Inv X pins σ H s->RelV v u->t v σ H Q->
  wpAny (model X.prog X.w) X.A (assign target X.env u) (λ_ s'=>∃σ' H',Inv X pins σ' H' s'/\Q σ' H') X.xe s
def PGs(X:Cx)(ts:List Expr)(t:TGs):Prop:=
 ∀(pins:List (Addr×Obj)) (s:Shared) (σ:St) (H:Hp) (vs:List V) (us:List Value) (Q:St->Hp->Prop),Inv X pins σ H s->Vals vs us->t vs σ H Q->
  wpAny (model X.prog X.w) X.A (assignInOrder ((assignEach ts X.env).map (·.2)) us) (λ_ s'=>∃σ' H',Inv X pins σ' H' s'/\Q σ' H') X.xe s
section
variable{X:Cx}{pos:Pos}
def RW(i:Nat):TG:=λv σ H Q=>Q (σ.set i (some v)) H
theorem V3(hN:X.N.Nodup)(hi:X.N[i]? = some x)(hx:Loc X.env.scope x)(hf:X.fn x=true\/X.env.scope.names.lookup x=some .local:=by first | exact .inl rfl | exact .inr rfl | assumption):PG X (.Name x pos) (RW i):=by
 intro pins s σ H v u Q I r h
 exact wpAny_assign_Name (QD I hN hi hx r (λs' I'=>⟨_,H,I',h⟩) hf)
def anD:TGs:=λvs σ H Q=>vs=[]/\Q σ H
def ake(t:TG)(u:TGs):TGs:=λvs σ H Q=>∃v r,vs=v::r/\t v σ H λσ' H'=>u r σ' H' Q
theorem ac1:PGs X [] anD:=by
 intro pins s σ H vs us Q I r h
 obtain⟨e,h⟩:=h
 subst e
 cases r
 exact assignInOrder_nil ⟨σ,H,I,h⟩
theorem aaD(h1:PG X e t)(h2:PGs X es u)
  (hs:(assignEach (e::es) X.env).map (·.2)=assign e X.env::(assignEach es X.env).map (·.2):=by rfl):PGs X (e::es) (ake t u):=by
 intro pins s σ H vs us Q I r h
 obtain⟨v,vr,e1,h⟩:=h
 subst e1
 cases r with
 | cons r rr=>
  rw[hs]
  refine assignInOrder_cons (gj (h1 pins s σ H _ _ _ I r h) ?_)
  rintro _ s1 ⟨σ1,H1,I1,q1⟩
  exact h2 pins s1 σ1 H1 _ _ Q I1 rr q1
def anC(K:Frag)(n:Nat)(t:TGs):TG:=λv σ H Q=>∃a xs,v= .ref a/\lY K H a xs/\xs.length=n/\t xs σ H Q
theorem afZ(hc:X.calm=true)(h:PGs X es t)
  (hn:(assignEach es X.env).length=n:=by rfl) (hst:(assignEach es X.env).findIdx? (·.1)=none:=by rfl):PG X (.Tuple es k pos) (anC X.K n t):=by
 intro pins s σ H v u Q I r hw
 obtain⟨a,xs,e1,hq,hl,hw⟩:=hw
 subst e1
 cases r
 obtain⟨its,rv,ht,hz⟩:=I.tuple hq
 refine assign_Tuple_tuple (I.ok.hd hc) ht (by simp[hn,<-hl,rv.length]) hst λh' hx=> ?_
 have I1:Inv X pins σ H {s with heap:=h'}:=I.kept (t':=s.toks) λb o e=>hx b o (xD (zS e)) e
 exact h pins _ σ H xs _ Q I1 (by simpa using rv) hw
def ach(te:TE)(g:TG):TS:=λD σ H=>te σ H λx H1=>g x σ H1 D.nx
theorem afU(he:PE X e te)(hg:PG X tg g)(hs:swapsWithSole [tg] e pos.line X.env=pure false:=by rfl)(hw:swappedStores [tg] e X.env=pure none:=by rfl)
  (h1:(assignEach [tg] X.env).map (·.2)=[assign tg X.env]:=by rfl):PS X (.Assign [tg] e pos) (ach te g):=by
 intro pins s σ H D I h
 refine wpAny_Assign_stores (gj (he pins s σ H _ I h) ?_) hs hw
 rintro v s1 ⟨x,H1,I1,r1,q1⟩
 rw[h1]
 exact gj (hg pins s1 σ H1 x v _ I1 r1 q1) λ_ s2 q=>q
theorem afQ(hN:X.N.Nodup)(hi:X.N[i]? = some x)(hx:Loc X.env.scope x)(he:PE X e te)(hs:swapsWith e (some (.Name x pos')) pos.line X.env=pure false:=by rfl)(hf:X.fn x=true\/X.env.scope.names.lookup x=some .local:=by first | exact .inl rfl | exact .inr rfl | assumption):
  PS X (.Assign [.Name x pos'] e pos) (ach te (RW i)):=by
 intro pins s σ H D I h
 refine wpAny_Assign_Name (gj (he pins s σ H _ I h) ?_) hs
 rintro v s1 ⟨y,H1,I1,r1,q1⟩
 exact QD I1 hN hi hx r1 (λs2 I2=>⟨_,H1,I2,q1⟩) hf
def afh(c:TT)(tb:TS):TS:=λD σ H=>∃W:Nat->St->Hp->Prop,(∃m,W m σ H)/\∀m σ H,W m σ H->
 c σ H λb H1=>if b=true then ∃N:St->Hp->Prop,(∀σ' H',N σ' H'->∃m',m'<m/\W m' σ' H')/\tb {D with nx:=N,ct:=N,bk:=D.nx} σ H1 else D.nx σ H1
theorem aax(hp:PassesOwn (model X.prog X.w) X.A X.env X.xe)(hc:PT X c tc)(hb:HY X body tb):PS X (.While c body [] pos) (afh tc tb):=by
 intro pins s σ H D I h
 obtain⟨W,⟨m0,w0⟩,turn⟩:=h
 refine wpAny_While (codeAny_whileLoop (λn s'=>∃σ' H',Inv X pins σ' H' s'/\W n σ' H') ?_ m0 ⟨σ,H,I,w0⟩)
 rintro n s1 ⟨σ1,H1,I1,w1⟩
 refine wpAny_passesOwn hp (gj (hc pins s1 σ1 H1 _ I1 (turn n σ1 H1 w1)) ?_)
 rintro b s2 ⟨H2,I2,q2⟩
 cases b with
 | true=>
  obtain⟨N,hN,q2⟩:=q2
  rw[if_pos rfl]
  refine wpAny_passesOwn hp (gj (hb pins s2 σ1 H2 _ I2 q2) λf s3 q3=> ?_)
  cases f with
  | next=>
   obtain⟨σ3,H3,I3,n3⟩:=q3
   obtain⟨m',hm,w3⟩:=hN σ3 H3 n3
   exact⟨m',hm,σ3,H3,I3,w3⟩
  | cont=>
   obtain⟨σ3,H3,I3,n3⟩:=q3
   obtain⟨m',hm,w3⟩:=hN σ3 H3 n3
   exact⟨m',hm,σ3,H3,I3,w3⟩
  | brk=>exact q3
  | ret v=>exact q3
 | false=>
  rw[if_neg xA]
  exact wpAny_execs_nil ⟨σ1,H2,I2,q2⟩
end
structure It where
 go:Nat->Hp->Prop
 YW:Nat->Hp->V->Hp->Prop
 stop:Nat->Hp->Prop
def yF(X:Cx)(pins:List (Addr×Obj))(H:Hp)(b:Addr):Prop:=
 H b=none/\b≠X.env.locals/\b∉X.fs/\(b∈X.ex\/X.s₀.heap.objs.size<=b)/\(∀x c,X.env.cells.lookup x=some c->c≠b)/\∀p∈X.pn++pins,p.1≠b
theorem Inv.O7(I:Inv X pins σ H s)(hb:s.heap.objs.size<=b)(hn:H' b=none):yF X pins H' b:=by
 refine⟨hn,xS (yA I.lt hb),I.amO hb,.inr (yY I.sz hb),λx c e z=> ?_,λp hp z=> ?_⟩
 ·obtain⟨v,q⟩:=I.cell x c e
  exact absurd (yA q.lt (by rw[z];exact hb)) (wS _)
 ·exact absurd (yA (zS (I.pin p hp).1) (by rw[z];exact hb)) (wS _)
structure Turn(P:Program)(w:World)(K:Frag)(tg:Expr)(J:It)(fp:List Addr)(it:Addr)(tn:Nat->Heap->Prop):Prop where
 mem:it∈fp
 obj:∀i h,tn i h->∀b∈fp,∃o,h.get? b=some o/\∀v,o.data≠ .cell v
 keep:∀i h h',tn i h->(∀b∈fp,∀o,h.get? b=some o->h'.get? b=some o)->tn i h'
 item:∀(X:Cx),X.prog=P->X.w=w->X.K=K->X.calm=true->∀(i:Nat) (pins:List (Addr×Obj)) (s:Shared) (σ:St) (H:Hp) (E:Value->Shared->Prop),Inv X pins σ H s->(∀b∈fp,yF X pins H b)->tn i s.heap->J.go i H->
  wpAny (model P w) X.A (pyNext (.ref it)) (λr s1=>∃u,r=some u/\
   wpAny (model P w) X.A (letOwnedTupleGo tg (.ref it) u) (λ_ s2=>∃x H',Inv X pins σ H' s2/\RelV x u/\J.YW i H x H'/\tn (i+1) s2.heap/\∀b∈fp,H' b=none) E s1) E s
 done:∀(X:Cx),X.prog=P->X.w=w->X.K=K->X.calm=true->∀(i:Nat) (pins:List (Addr×Obj)) (s:Shared) (σ:St) (H:Hp) (E:Value->Shared->Prop),Inv X pins σ H s->(∀b∈fp,yF X pins H b)->tn i s.heap->J.stop i H->
  wpAny (model P w) X.A (pyNext (.ref it)) (λr s1=>r=none/\Inv X pins σ H s1) E s
 self:∀(A:Around) (i:Nat) (s:Shared) (Q:Value->Shared->Prop) (E:Value->Shared->Prop),tn i s.heap->Q (.ref it) s->wpAny (model P w) A (pyIter (.ref it)) Q E s
abbrev TI:=St->Hp->(It->Hp->Prop)->Prop
def PIE(X:Cx)(pins:List (Addr×Obj))(σ:St)(tg:Expr)(R:It->Hp->Prop)(itv:Value)(s2:Shared):Prop:=
 ∃(it:Addr) (fp:List Addr) (tn:Nat->Heap->Prop) (J:It) (H':Hp),itv= .ref it/\Inv X pins σ H' s2/\Turn X.prog X.w X.K tg J fp it tn/\tn 0 s2.heap/\(∀b∈fp,yF X pins H' b)/\R J H'
def PI(X:Cx)(tg iter:Expr)(wi:TI):Prop:=
 ∀(pins:List (Addr×Obj)) (s:Shared) (σ:St) (H:Hp) (R:It->Hp->Prop),Inv X pins σ H s->wi σ H R->
  wpAny (model X.prog X.w) X.A (eval iter X.env) (λv s1=>wpAny (model X.prog X.w) X.A (pyIter v) (PIE X pins σ tg R) X.xe s1) X.xe s
theorem Wz{E:Value->Shared->Prop}{Q:Unit->Shared->Prop}(ho:s.heap.get? it=some o)(hc:o.cls= .type n)(hd:o.data= .fields vs)
  (hn:["enumerate","zip","dict_itemiterator","dict_reverseitemiterator","odict_iterator","itertools.zip_longest","itertools.pairwise"].contains n=false) (hQ:Q .unit s):wpAny M A (letOwnedTupleGo tg (.ref it) u) Q E s:=by
 unfold letOwnedTupleGo
 cases tg<;>first
  | exact zI hQ
  | (cases u<;>first
    | exact zI hQ
    | (refine zC (wpAny_load ho ?_)
       rw[hc,hd]
       show wpAny M A (if(["enumerate","zip","dict_itemiterator","dict_reverseitemiterator","odict_iterator","itertools.zip_longest","itertools.pairwise"].contains n&&vs[0]? == some (rawInt _))=true then _ else _) Q E s
       rw[if_neg (by intro h;rw[hn,Bool.false_and]at h;cases h)]
       exact zI hQ))
def Itl(K:Frag)(a:Addr):It:=
 ⟨λi H=>∃xs x,qO K H a xs/\xs[i]? = some x,λi H x H'=>H'=H/\∀xs,qO K H a xs->xs[i]? = some x,λi H=>∃xs,qO K H a xs/\xs.length<=i⟩
def Itt(K:Frag)(a:Addr):It:=
 ⟨λi H=>∃xs x,lY K H a xs/\xs[i]? = some x,λi H x H'=>H'=H/\∀xs,lY K H a xs->xs[i]? = some x,λi H=>∃xs,lY K H a xs/\xs.length<=i⟩
def Itr(lo:Int)(n:Nat):It:=⟨λi _=>i<n,λi H x H'=>H'=H/\x= .int (lo+i),λi _=>n<=i⟩
theorem Xj{P:Program}{w:World}{K:Frag}{tg:Expr}(a it:Addr):Turn P w K tg (Itl K a) [it] it (λi h=>h.IsListIter it a i) where
 mem:=by simp
 obj:=λi h st b hb=>by
  have e:b=it:=by simpa using hb
  subst e
  obtain⟨o,e,c,d⟩:=st
  exact⟨o,e,λv z=>by rw[d]at z;cases z⟩
 keep:=λi h h' st k=>st.at λo e=>k it (by simp) o e
 item:=by
  intro X hP hw hK hc i pins s σ H E I hf st hg
  subst hP hw hK
  obtain⟨xs,x,hq,hx⟩:=hg
  obtain⟨its,rv,p,hz⟩:=I.list hq
  obtain⟨u,hu,ru⟩:=rv.get hx
  obtain⟨f0,f1,f2,f3,f4,f5⟩:=hf it (by simp)
  refine wpAny_pyNext_list_item st p.isList (x:=u) (by simpa using hu) λh' st' sb=> ?_
  have I1:Inv X pins σ H {s with heap:=h'}:=I.turned (t':=s.toks) (λb o hb e=>(sb.2 b hb).trans e) f0 f1 f3 f4 f5
  obtain⟨o,e,c,d⟩:=id st'
  exact⟨u,rfl,Wz (s:={s with heap:=h'}) e c d (by decide) ⟨x,H,I1,ru,⟨rfl,λys hy=>by rw[I.JR hy hq];exact hx⟩,st',λb hb=>(hf b hb).1⟩⟩
 done:=by
  intro X hP hw hK hc i pins s σ H E I hf st hg
  subst hP hw hK
  obtain⟨xs,hq,hx⟩:=hg
  obtain⟨its,rv,p,hz⟩:=I.list hq
  obtain⟨f0,f1,f2,f3,f4,f5⟩:=hf it (by simp)
  have hl:=rv.length
  exact wpAny_pyNext_list_end (I.ok.hd hc) st p.isList (by simp;omega) λh' eb=>⟨rfl,I.turned (t':=s.toks) (λb o hb e=>eb b o hb e) f0 f1 f3 f4 f5⟩
 self:=λ_ _ _ _ _ st h=>wpAny_pyIter_listiter st h
theorem Tj{P:Program}{w:World}{K:Frag}{tg:Expr}(a it:Addr):Turn P w K tg (Itt K a) [it] it (λi h=>h.IsTupleIter it a i) where
 mem:=by simp
 obj:=λi h st b hb=>by
  have e:b=it:=by simpa using hb
  subst e
  obtain⟨o,e,c,d⟩:=st
  exact⟨o,e,λv z=>by rw[d]at z;cases z⟩
 keep:=λi h h' st k=>st.at λo e=>k it (by simp) o e
 item:=by
  intro X hP hw hK hc i pins s σ H E I hf st hg
  subst hP hw hK
  obtain⟨xs,x,hq,hx⟩:=hg
  obtain⟨its,rv,p,hz⟩:=I.tuple hq
  obtain⟨u,hu,ru⟩:=rv.get hx
  obtain⟨f0,f1,f2,f3,f4,f5⟩:=hf it (by simp)
  refine wpAny_pyNext_tuple_item st (show s.heap.IsTuple a its.toArray from p) (x:=u) (by simpa using hu) λh' st' sb=> ?_
  have I1:Inv X pins σ H {s with heap:=h'}:=I.turned (t':=s.toks) (λb o hb e=>(sb.2 b hb).trans e) f0 f1 f3 f4 f5
  obtain⟨o,e,c,d⟩:=id st'
  exact⟨u,rfl,Wz (s:={s with heap:=h'}) e c d (by decide) ⟨x,H,I1,ru,⟨rfl,λys hy=>by rw[I.Fx hy hq];exact hx⟩,st',λb hb=>(hf b hb).1⟩⟩
 done:=by
  intro X hP hw hK hc i pins s σ H E I hf st hg
  subst hP hw hK
  obtain⟨xs,hq,hx⟩:=hg
  obtain⟨its,rv,p,hz⟩:=I.tuple hq
  obtain⟨f0,f1,f2,f3,f4,f5⟩:=hf it (by simp)
  have hl:=rv.length
  exact wpAny_pyNext_tuple_end (I.ok.hd hc) st (show s.heap.IsTuple a its.toArray from p) (by simp;omega) λh' eb=>⟨rfl,I.turned (t':=s.toks) (λb o hb e=>eb b o hb e) f0 f1 f3 f4 f5⟩
 self:=λ_ _ _ _ _ st h=>wpAny_pyIter_tupleiter st h
theorem Tn{P:Program}{w:World}{K:Frag}{tg:Expr}(it:Addr)(lo:Int)(n:Nat):Turn P w K tg (Itr lo n) [it] it (λi h=>IsRangeIter h it (lo+(i:Nat)*1) ((n:Int) - (i:Nat)) 1) where
 mem:=by simp
 obj:=λi h st b hb=>by
  have e:b=it:=by simpa using hb
  subst e
  exact⟨_,st,λv z=>by
   have z':Data.fields _=Data.cell v:=z
   cases z'⟩
 keep:=λi h h' st k=>k it (by simp) _ st
 item:=by
  intro X hP hw hK hc i pins s σ H E I hf st hg
  subst hP hw hK
  obtain⟨f0,f1,f2,f3,f4,f5⟩:=hf it (by simp)
  have W:=Walks.range (prog:=X.prog) (w:=X.w) (I.ok.hd hc) it lo 1 n
  refine W.item i s _ _ hg st λv h' tk hv st' kk=> ?_
  obtain⟨t,rfl⟩:=hv
  have I1:Inv X pins σ H {s with heap:=h',toks:=tk}:=I.turned (λb o hb e=>kk b o (by simpa using hb) e) f0 f1 f3 f4 f5
  refine⟨_,rfl,Wz (s:={s with heap:=h',toks:=tk}) (n:= "range_iterator") st' rfl rfl (by decide) ⟨.int (lo+i),H,I1,⟨t,?_⟩,⟨rfl,rfl⟩,st',λb hb=>(hf b hb).1⟩⟩
  rw[Int.mul_one]
 done:=by
  intro X hP hw hK hc i pins s σ H E I hf st hg
  subst hP hw hK
  obtain⟨f0,f1,f2,f3,f4,f5⟩:=hf it (by simp)
  exact wpAny_pyNext_range_end (I.ok.hd hc) st (by have:n<=i:=hg;omega) λh' eb=>⟨rfl,I.turned (t':=s.toks) (λb o hb e=>eb b o hb e) f0 f1 f3 f4 f5⟩
 self:=λ_ _ _ _ _ st h=>wpAny_pyIter_rangeiter st h
section
variable{X:Cx}{tg:Expr}
theorem aat{pins:List (Addr×Obj)}{R:It->Hp->Prop}{E:Value->Shared->Prop}{lo hi:Int}{tk:Nat}(I:Inv X pins σ H s)(h1: -(2 ^ 62)<=lo)(h2:lo<2 ^ 62)(h3: -(2 ^ 62)<=hi)(h4:hi<2 ^ 62)
  (q:R (Itr lo (hi - lo).toNat) H):wpAny (model X.prog X.w) X.A (pyIter (.ref s.heap.objs.size)) (PIE X pins σ tg R) E {s with heap:=s.heap.push {cls:= .type "range",data:= .fields #[.int lo t,.int hi u,.int 1 v]},toks:=tk}:=by
 refine wpAny_pyIter_range (IsRange.new ..) (small_one h1 h2 h3 h4) ?_
 have I1:Inv X pins σ H {s with heap:=s.heap.push {cls:= .type "range",data:= .fields #[.int lo t,.int hi u,.int 1 v]},toks:=tk}:=I.kept λb o e=>zD _ e
 refine⟨(s.heap.push {cls:= .type "range",data:= .fields #[.int lo t,.int hi u,.int 1 v]}).objs.size,[(s.heap.push {cls:= .type "range",data:= .fields #[.int lo t,.int hi u,.int 1 v]}).objs.size],_,_,H,rfl,
  I1.kept (t':=tk) λb o e=>zD _ e,Tn _ lo (hi - lo).toNat,?_,λb hb=> ?_,q⟩
 ·have e1:lo+((0:Nat):Int)*1=lo:=by simp
  have e2:(((hi - lo).toNat:Nat):Int) - ((0:Nat):Int)=Builtin.Range.rangeSize lo hi 1:=by rw[rangeSize_one];split<;>omega
  show IsRangeIter _ _ (lo+((0:Nat):Int)*1) ((((hi - lo).toNat:Nat):Int) - ((0:Nat):Int)) 1
  rw[e1,e2]
  exact yB _ rfl
 ·have e:b=(s.heap.push {cls:= .type "range",data:= .fields #[.int lo t,.int hi u,.int 1 v]}).objs.size:=by simpa using hb
  subst e
  exact I1.O7 (zac _) (I1.hok.fresh (zac _))
def aj2(ta:TA):TI:=λσ H R=>ta σ H λvs H1=>∃j:Int,vs=[.int j]/\ -(2 ^ 62)<=j/\j<2 ^ 62/\R (Itr 0 j.toNat) H1
theorem XD(hg:Gl X "range")(hm:X.mg "range" = none)(ha:PA X [a] ta)(hs:starEach [a] X.env=[(false,eval a X.env)]:=by rfl):PI X tg (.Call (.Name "range" p) [a] [] pos) (aj2 ta):=by
 intro pins s σ H R I h
 refine Call_ (JX I hg hm boot_range (PyProof.Rows.callWith_type1 (gj (ha pos pins s σ H _ I h) ?_) hs rfl))
 rintro us s1 ⟨vs,H1,I1,r1,q1⟩
 obtain⟨j,e,q1,q2,q⟩:=q1
 subst e
 cases r1 with
 | cons r rr=>
  cases rr
  obtain⟨t,rfl⟩:=r
  exact call_range_1 (aat I1 () () q1 q2 (by simpa using q))
def ame(wi:TI)(g:TG)(tb:TS):TS:=λD σ H=>wi σ H λJ H1=>∃W:Nat->Nat->St->Hp->Prop,(∃m,W 0 m σ H1)/\∀i m σ H,W i m σ H->
 (J.stop i H/\D.nx σ H)\/(J.go i H/\∃N:St->Hp->Prop,(∀σ' H',N σ' H'->∃m',m'<m/\W (i+1) m' σ' H')/\∀x H',J.YW i H x H'->g x σ H' λσ2 H2=>tb {D with nx:=N,ct:=N,bk:=D.nx} σ2 H2)
def Jw(fp:List Addr)(h:Heap):List (Addr×Obj):=fp.filterMap λb=>(h.get? b).map λo=>(b,o)
theorem wW(hb:b∈fp)(e:h.get? b=some o):(b,o)∈Jw fp h:=List.mem_filterMap.mpr ⟨b,hb,by rw[e];rfl⟩
theorem X4(hp:p∈Jw fp h):p.1∈fp/\h.get? p.1=some p.2:=by
 obtain⟨b,hb,e⟩:=List.mem_filterMap.mp hp
 cases q:h.get? b with
 | none=>rw[q]at e;cases e
 | some o=>
  rw[q]at e
  have e':(b,o)=p:=xI e
  subst e'
  exact⟨hb,q⟩
theorem Inv.pinned(I:Inv X pins σ H s)(hf:∀b∈fp,yF X pins H b)(ho:∀b∈fp,∃o,s.heap.get? b=some o/\∀v,o.data≠ .cell v):Inv X (pins++Jw fp s.heap) σ H s:=
 I.wL λp hp=>(List.mem_append.mp hp).elim (λz=>I.pin p (xE _ z)) λz=>by
  obtain⟨hb,e⟩:=X4 z
  obtain⟨f0,f1,f2,_⟩:=hf p.1 hb
  obtain⟨o,e',d⟩:=ho p.1 hb
  rw[e]at e';cases e'
  exact⟨e,f0,f1,f2,d⟩
theorem Inv.Dw(I:Inv X (pins++pl) σ H s):Inv X pins σ H s:=I.wL λp hp=>I.pin p (xE _ (List.mem_append_left _ hp))
theorem afS(hp:PassesOwn (model X.prog X.w) X.A X.env X.xe)(hc:X.calm=true)(hi:PI X tg iter wi)(hg:PG X tg g)(hb:HY X body tb)
  (hs:∀x,foldedSetIterable iter X.env x=pure x:=by intro _;rfl):PS X (.For tg iter body [] pos) (ame wi g tb):=by
 intro pins s σ H D I h
 refine wpAny_For (gj (hi pins s σ H _ I h) λv s1 h1=>gj h1 λitv s2 h2=> ?_) hs
 obtain⟨it,fp,tn,J,H2,e,I2,T,st2,f2,W,⟨m0,w0⟩,turn⟩:=h2
 subst e
 have stat:∀{H':Hp},(∀b∈fp,H' b=none)->∀b∈fp,yF X pins H' b:=λhn b hb=>⟨hn b hb,(f2 b hb).2⟩
 refine codeAny_forLoop_any (λn s'=>∃i σ' H',Inv X pins σ' H' s'/\tn i s'.heap/\(∀b∈fp,H' b=none)/\W i n σ' H') ?_ m0 ⟨0,σ,H2,I2,st2,λb hb=>(f2 b hb).1,w0⟩
 rintro n s3 ⟨i,σ3,H3,I3,st3,fr3,w3⟩
 rcases turn i n σ3 H3 w3 with⟨stop,qn⟩ | ⟨go,N,hN,step⟩
 ·refine wpAny_passesOwn hp (gj (T.done X rfl rfl rfl hc i pins s3 σ3 H3 X.xe I3 (stat fr3) st3 stop) ?_)
  rintro r s4 ⟨hr,I4⟩
  subst hr
  exact wpAny_execs_nil ⟨σ3,H3,I4,qn⟩
 ·refine wpAny_passesOwn hp (gj (T.item X rfl rfl rfl hc i pins s3 σ3 H3 X.xe I3 (stat fr3) st3 go) ?_)
  rintro r s4 ⟨u,hr,h4⟩
  subst hr
  refine wpAny_passesOwn hp (gj h4 ?_)
  rintro _ s5 ⟨x,H5,I5,r5,y5,st5,fr5⟩
  have I5':=I5.pinned (stat fr5) (T.obj _ _ st5)
  refine wpAny_passesOwn hp (gj (hg _ s5 σ3 H5 x u _ I5' r5 (step x H5 y5)) ?_)
  rintro _ s6 ⟨σ6,H6,I6,q6⟩
  refine wpAny_passesOwn hp (gj (hb _ s6 σ6 H6 _ I6 q6) λf s7 q7=> ?_)
  have again:∀{Y6:St} {H7:Hp},Inv X (pins++Jw fp s5.heap) Y6 H7 s7->N Y6 H7->∃m,m<n/\∃i σ' H',Inv X pins σ' H' s7/\tn i s7.heap/\(∀b∈fp,H' b=none)/\W i m σ' H':=λ{Y6 H7} I7 n7=>by
   obtain⟨m',hm,w7⟩:=hN Y6 H7 n7
   refine⟨m',hm,i+1,Y6,H7,I7.Dw,T.keep _ _ _ st5 λb hb o e=>(I7.pin (b,o) (xE _ (xE _ (wW hb e)))).1,λb hb=> ?_,w7⟩
   obtain⟨o,e,d⟩:=T.obj _ _ st5 b hb
   exact(I7.pin (b,o) (xE _ (xE _ (wW hb e)))).2.1
  cases f with
  | next=>obtain⟨Y6,H7,I7,n7⟩:=q7;exact again I7 n7
  | cont=>obtain⟨Y6,H7,I7,n7⟩:=q7;exact again I7 n7
  | brk=>obtain⟨Y6,H7,I7,q7⟩:=q7;exact⟨Y6,H7,I7.Dw,q7⟩
  | ret v=>obtain⟨x7,Y6,H7,I7,r7,q7⟩:=q7;exact⟨x7,Y6,H7,I7.Dw,r7,q7⟩
end
abbrev R2:=V->V->Hp->VK->Prop
def tE(X:Cx)(f:Value->Value->Sem Value)(r:R2):Prop:=
 ∀(pins:List (Addr×Obj)) (s:Shared) (σ:St) (H:Hp) (x y:V) (v u:Value) (Q:VK),Inv X pins σ H s->RelV x v->RelV y u->r x y H Q->
  wpAny (model X.prog X.w) X.A (f v u) (EP X pins σ Q) X.xe s
def UnR(X:Cx)(f:Value->Sem Value)(r:V->Hp->VK->Prop):Prop:=
 ∀(pins:List (Addr×Obj)) (s:Shared) (σ:St) (H:Hp) (x:V) (v:Value) (Q:VK),Inv X pins σ H s->RelV x v->r x H Q->
  wpAny (model X.prog X.w) X.A (f v) (EP X pins σ Q) X.xe s
def mV(X:Cx)(f:Value)(r:List V->Hp->VK->Prop):Prop:=
 ∀(pins:List (Addr×Obj)) (s:Shared) (σ:St) (H:Hp) (xs:List V) (us:List Value) (Q:VK),Inv X pins σ H s->Vals xs us->r xs H Q->
  wpAny (model X.prog X.w) X.A (call f us) (EP X pins σ Q) X.xe s
def tOp(r:R2)(ta tb:TE):TE:=λσ H Q=>ta σ H λx H1=>tb σ H1 λy H2=>r x y H2 Q
def tUn(r:V->Hp->VK->Prop)(ta:TE):TE:=λσ H Q=>ta σ H λx H1=>r x H1 Q
def rI(C:Int->Int->Prop)(g:Int->Int->V):R2:=λx y H Q=>∃i j,x= .int i/\y= .int j/\C i j/\Q (g i j) H
def YZ(g:Int->Int->V):R2:=λx y H Q=>∃i j,x= .int i/\y= .int j/\Q (g i j) H
def rU(g:Int->V):V->Hp->VK->Prop:=λx H Q=>∃i,x= .int i/\Q (g i) H
section
variable{X:Cx}{a b c:Expr}{ta tb tc:TE}{pos:Pos}
theorem ahH(ha:PE X a ta)(hb:PE X b tb){R:V->V->Hp->Prop}(I:Inv X pins σ H s)
  (h:ta σ H λx H1=>tb σ H1 λy H2=>R x y H2) {Q:Value->Shared->Prop} {f:Value->Value->Sem Value}
  (hf:∀v u s2 x y H2,Inv X pins σ H2 s2->RelV x v->RelV y u->R x y H2->wpAny (model X.prog X.w) X.A (f v u) Q X.xe s2):
  wpAny (model X.prog X.w) X.A (eval a X.env) (λv s₁=>wpAny (model X.prog X.w) X.A (eval b X.env) (λu s₂=>wpAny (model X.prog X.w) X.A (f v u) Q X.xe s₂) X.xe s₁) X.xe s:=by
 refine gj (ha pins s σ H _ I h) ?_
 rintro v s1 ⟨x,H1,I1,r1,q1⟩
 refine gj (hb pins s1 σ H1 _ I1 q1) ?_
 rintro u s2 ⟨y,H2,I2,r2,q2⟩
 exact hf v u s2 x y H2 I2 r1 r2 q2
theorem ajp(ho:tE X (binaryOp op) r)(ha:PE X a ta)(hb:PE X b tb):PE X (.BinOp a op b pos) (tOp r ta tb):=by
 intro pins s σ H Q I h
 exact wpAny_BinOp (ahH ha hb I h λv u s2 x y H2 I2 rx ry q=>ho pins s2 σ H2 x y v u Q I2 rx ry q)
theorem ajn{r:V->Hp->VK->Prop}(ho:UnR X (unaryOp op) r)(ha:PE X a ta):PE X (.UnaryOp op a pos) (tUn r ta):=by
 intro pins s σ H Q I h
 exact UnaryOp_ (gj (ha pins s σ H _ I h) λv s1 ⟨x,H1,I1,r1,q1⟩=>ho pins s1 σ H1 x v Q I1 r1 q1)
theorem opI{f:Value->Value->Sem Value}{C:Int->Int->Prop}{g:Int->Int->Int}
  (rule:∀(i j:Int) (t u:Tok) (s:Shared) (Q:Value->Shared->Prop) (E:Value->Shared->Prop),C i j->Q (.int (g i j) s.toks) {s with toks:=s.toks+1}->wpAny (model X.prog X.w) X.A (f (.int i t) (.int j u)) Q E s):
  tE X f (rI C λi j=> .int (g i j)):=by
 intro pins s σ H x y v u Q I rx ry h
 obtain⟨i,j,rfl,rfl,hc,q⟩:=h
 obtain⟨t,rfl⟩:=rx
 obtain⟨t',rfl⟩:=ry
 exact rule i j t t' s _ _ hc ⟨.int (g i j),H,I.tok _,⟨_,rfl⟩,q⟩
theorem ac_{f:Value->Value->Sem Value}{g:Int->Int->Int}
  (rule:∀(i j:Int) (t u:Tok) (s:Shared) (Q:Value->Shared->Prop) (E:Value->Shared->Prop),Q (.int (g i j) s.toks) {s with toks:=s.toks+1}->wpAny (model X.prog X.w) X.A (f (.int i t) (.int j u)) Q E s):
  tE X f (YZ λi j=> .int (g i j)):=by
 intro pins s σ H x y v u Q I rx ry h
 obtain⟨i,j,rfl,rfl,q⟩:=h
 obtain⟨t,rfl⟩:=rx
 obtain⟨t',rfl⟩:=ry
 exact rule i j t t' s _ _ ⟨.int (g i j),H,I.tok _,⟨_,rfl⟩,q⟩
theorem ada{f:Value->Value->Sem Value}{g:Int->Int->Bool}
  (rule:∀(i j:Int) (t u:Tok) (s:Shared) (Q:Value->Shared->Prop) (E:Value->Shared->Prop),Q (.bool (g i j)) s->wpAny (model X.prog X.w) X.A (f (.int i t) (.int j u)) Q E s):
  tE X f (YZ λi j=> .bl (g i j)):=by
 intro pins s σ H x y v u Q I rx ry h
 obtain⟨i,j,rfl,rfl,q⟩:=h
 obtain⟨t,rfl⟩:=rx
 obtain⟨t',rfl⟩:=ry
 exact rule i j t t' s _ _ ⟨.bl (g i j),H,I,rfl,q⟩
def aou(i j:Int):Prop:=0<j/\j<1073741824
def akN(i j:Int):Prop:=0<=j/\j<=1000000/\i.natAbs<2 ^ 64
def ahS(i j:Int):Prop:=(-(2 ^ 64)<i/\i<2 ^ 64)\/(-(2 ^ 64)<j/\j<2 ^ 64)
theorem ahS.ok(h:ahS i j):IntMulOk i j:=by
 rcases h with⟨h1,h2⟩ | ⟨h1,h2⟩
 ·exact .of_left (intBits_le_64 h1 h2)
 ·exact .of_right (intBits_le_64 h1 h2)
theorem ags:tE X (binaryOp .Add) (YZ λi j=> .int (i+j)):=ac_ λ_ _ _ _ _ _ _ q=>add_int q
theorem agf:tE X (binaryOp .Sub) (YZ λi j=> .int (i - j)):=ac_ λ_ _ _ _ _ _ _ q=>sub_int q
theorem agj:tE X (binaryOp .Mult) (rI ahS λi j=> .int (i*j)):=opI λ_ _ _ _ _ _ _ hc q=>mul_int q hc.ok
theorem ac7:tE X (binaryOp .FloorDiv) (rI aou λi j=> .int (i / j)):=opI λi j _ _ _ _ _ hc q=>by
 have h1:(0:Int)<j:=hc.1
 have h2:j<1073741824:=hc.2
 exact floordiv_int () (by rw[Int.fdiv_eq_ediv_of_nonneg i ()];exact q) (.inl (PyProof.noPylong_small ()))
theorem agk:tE X (binaryOp .Mod) (rI (λ_ j=>0<j) λi j=> .int (i % j)):=opI λi j _ _ _ _ _ hc q=>by
 have h1:(0:Int)<j:=hc
 exact mod_int' () (by rw[Int.fmod_eq_emod_of_nonneg i ()];exact q)
theorem agh:tE X (binaryOp .Pow) (rI akN λi j=> .int (i ^ j.toNat)):=opI λ_ _ _ _ _ _ _ hc q=>pow_int_small hc.1 hc.2.1 hc.2.2 q
theorem agg:tE X (binaryOp .LShift) (rI akN λi j=> .int (i*2 ^ j.toNat)):=opI λ_ _ _ _ _ _ _ hc q=>lshift_int_small hc.1 hc.2.1 hc.2.2 q
theorem agr:tE X (binaryOp .BitAnd) (YZ λi j=> .int (Builtin.bitAnd i j)):=ac_ λ_ _ _ _ _ _ _ q=>and_int q
theorem ajs:tE X (binaryOp .BitOr) (YZ λi j=> .int (Builtin.bitOr i j)):=ac_ λ_ _ _ _ _ _ _ q=>or_int q
theorem unI{f:Value->Sem Value}{g:Int->Int}
  (rule:∀(i:Int) (t:Tok) (s:Shared) (Q:Value->Shared->Prop) (E:Value->Shared->Prop),Q (.int (g i) s.toks) {s with toks:=s.toks+1}->wpAny (model X.prog X.w) X.A (f (.int i t)) Q E s):
  UnR X f (rU λi=> .int (g i)):=by
 intro pins s σ H x v Q I rx h
 obtain⟨i,rfl,q⟩:=h
 obtain⟨t,rfl⟩:=rx
 exact rule i t s _ _ ⟨.int (g i),H,I.tok _,⟨_,rfl⟩,q⟩
theorem afd:UnR X (unaryOp .USub) (rU λi=> .int (-i)):=unI λ_ _ _ _ _ q=>neg_int q
theorem O9(I:Inv X pins σ H s)(q:Q (.bl k) H)(e:k=k'):EP X pins σ Q (.bool k') s:=by
 subst e
 exact⟨.bl k,H,I,rfl,q⟩
theorem ajt:tE X (compareOp .Lt) (YZ λi j=> .bl (decide (i<j))):=ada λ_ _ _ _ _ _ _ q=>lt_int q
theorem aju:tE X (compareOp .LtE) (YZ λi j=> .bl (decide (i<=j))):=ada λ_ _ _ _ _ _ _ q=>le_int q
theorem ajv:tE X (compareOp .Gt) (YZ λi j=> .bl (decide (j<i))):=ada λ_ _ _ _ _ _ _ q=>gt_int q
theorem ajw:tE X (compareOp .GtE) (YZ λi j=> .bl (decide (j<=i))):=ada λ_ _ _ _ _ _ _ q=>ge_int q
theorem XQ:tE X (compareOp .Lt) (λx y H Q=>∃i j,x= .str i/\y= .str j/\Q (.bl (decide (i.cps.toList<j.cps.toList))) H):=by
 intro pins s σ H x y v u Q I rx ry h
 obtain⟨i,j,rfl,rfl,q⟩:=h
 obtain⟨t,rfl⟩:=rx
 obtain⟨t',rfl⟩:=ry
 exact lt_str (O9 I q rfl)
theorem agn:tE X (compareOp .Is) (λx y H Q=>y= .non/\Q (.bl (decide (x= .non))) H):=by
 intro pins s σ H x y v u Q I rx ry h
 obtain⟨rfl,q⟩:=h
 cases ry
 refine is_none_gen (O9 I q ?_)
 cases x<;>first
  | (cases rx;rfl)
  | (obtain⟨t,rfl⟩:=rx;rfl)
theorem ac6:tE X (compareOp .IsNot) (λx y H Q=>y= .non/\Q (.bl (!decide (x= .non))) H):=by
 intro pins s σ H x y v u Q I rx ry h
 obtain⟨rfl,q⟩:=h
 cases ry
 refine isnot_none_gen (O9 I q ?_)
 cases x<;>first
  | (cases rx;rfl)
  | (obtain⟨t,rfl⟩:=rx;rfl)
theorem tE.or(h:tE X f r)(h':tE X f r'):tE X f (λx y H Q=>r x y H Q\/r' x y H Q):=by
 intro pins s σ H x y v u Q I rx ry q
 rcases q with q | q
 ·exact h pins s σ H x y v u Q I rx ry q
 ·exact h' pins s σ H x y v u Q I rx ry q
theorem aL(b:Expr)(h:op≠ .In:=by decide)(h2:op≠ .NotIn:=by decide):behindInMarks op b=false:=by
 have e1:(op==CmpOp.In)=false:=by cases op<;>first | rfl | exact absurd rfl h
 have e2:(op==CmpOp.NotIn)=false:=by cases op<;>first | rfl | exact absurd rfl h2
 cases b<;>simp[behindInMarks,e1,e2]
theorem ac4(ho:tE X (compareOp op) r)(ha:PE X a ta)(hb:PE X b tb)(hm:behindInMarks op b=false):PE X (.Compare a [op] [b] pos) (tOp r ta tb):=by
 intro pins s σ H Q I h
 exact wpAny_Compare1 (ahH ha hb I h λv u s2 x y H2 I2 rx ry q=>ho pins s2 σ H2 x y v u Q I2 rx ry q) hm
def aen(t:TE):TT:=λσ H Q=>t σ H λx H'=>∃k,x= .bl k/\Q k H'
theorem acP(ho:tE X (compareOp op) r)(ha:PE X a ta)(hb:PE X b tb)(hm:behindInMarks op b=false):PT X (.Compare a [op] [b] pos) (aen (tOp r ta tb)):=by
 intro pins s σ H Q I h
 refine wpAny_isTrue_Compare1 (gj (ha pins s σ H _ I h) λv s1 ⟨x,H1,I1,r1,q1⟩=>gj (hb pins s1 σ H1 _ I1 q1) λu s2 ⟨y,H2,I2,r2,q2⟩=>
  gj (ho pins s2 σ H2 x y v u _ I2 r1 r2 q2) λc s3 ⟨z,H3,I3,r3,k,e,q3⟩=> ?_) hm
 subst e
 cases r3
 exact wpAny_truthy_bool ⟨H3,I3,q3⟩
def ZF(r r':R2)(ta tb tc:TE):TE:=λσ H Q=>ta σ H λx H1=>tb σ H1 λy H2=>r x y H2 λz H3=>∃k,z= .bl k/\
 (if k=true then tc σ H3 λw' H4=>r' y w' H4 Q else Q (.bl false) H3)
theorem aaL(ho:tE X (compareOp op) r)(ho':tE X (compareOp op') r')(ha:PE X a ta)(hb:PE X b tb)(hc:PE X c tc)
  (hm:lastMarks [op,op'] [b,c]=false:=by with_unfolding_all rfl):PE X (.Compare a [op,op'] [b,c] pos) (ZF r r' ta tb tc):=by
 intro pins s σ H Q I h
 refine Compare_chain (gj (ha pins s σ H _ I h) λv s1 ⟨x,H1,I1,r1,q1⟩=>chain_link (gj (hb pins s1 σ H1 _ I1 q1) λu s2 ⟨y,H2,I2,r2,q2⟩=>
  gj (ho pins s2 σ H2 x y v u _ I2 r1 r2 q2) λd s3 ⟨z,H3,I3,r3,k,e,q3⟩=> ?_)) hm
 subst e
 cases r3
 refine wpAny_truthy_bool ?_
 cases k with
 | false=>exact ite_ff ⟨.bl false,H3,I3,rfl,q3⟩
 | true=>exact ite_tt (chain_last (gj (hc pins s3 σ H3 _ I3 q3) λw' s4 ⟨z',H4,I4,r4,q4⟩=>ho' pins s4 σ H4 y z' u w' Q I4 r2 r4 q4))
theorem JS:(sizeLine:Nat)<2 ^ 63:=by rw[sizeLine_eq];decide
theorem Ub:tE X (binaryOp .Add) (λx y H Q=>∃i j,x= .str i/\y= .str j/\i.length+j.length<=sizeLine/\Q (.str (i++j)) H):=by
 intro pins s σ H x y v u Q I rx ry h
 obtain⟨i,j,rfl,rfl,hz,q⟩:=h
 obtain⟨t,rfl⟩:=rx
 obtain⟨t',rfl⟩:=ry
 exact add_str (λt' tk=>⟨.str (i++j),H,I.tok _,⟨_,rfl⟩,q⟩) hz
theorem vals1(r:Vals [x] us):∃u,us=[u]/\RelV x u:=by
 cases r with
 | cons r1 r2=>cases r2;exact⟨_,rfl,r1⟩
theorem vals2(r:Vals [x,y] us):∃u w',us=[u,w']/\RelV x u/\RelV y w':=by
 cases r with
 | cons r1 r2=>
  cases r2 with
  | cons r3 r4=>cases r4;exact⟨_,_,rfl,r1,r3⟩
theorem Yz(hc:X.calm=true):mV X (.builtin "max") (λxs H Q=>∃i j,xs=[.int i,.int j]/\Q (.int (if j > i then j else i)) H):=by
 intro pins s σ H xs us Q I r h
 obtain⟨i,j,rfl,q⟩:=h
 obtain⟨u,w',rfl,⟨t,rfl⟩,⟨t',rfl⟩⟩:=vals2 r
 refine max_two_ints (I.ok.hd hc) λh' tk k=>⟨_,H,I.kept k,?_,q⟩
 by_cases hj:j > i
 ·rw[if_pos hj,if_pos hj];exact⟨_,rfl⟩
 ·rw[if_neg hj,if_neg hj];exact⟨_,rfl⟩
theorem Yy(hc:X.calm=true):mV X (.builtin "min") (λxs H Q=>∃i j,xs=[.int i,.int j]/\Q (.int (if j<i then j else i)) H):=by
 intro pins s σ H xs us Q I r h
 obtain⟨i,j,rfl,q⟩:=h
 obtain⟨u,w',rfl,⟨t,rfl⟩,⟨t',rfl⟩⟩:=vals2 r
 refine min_two_ints (I.ok.hd hc) λh' tk k=>⟨_,H,I.kept k,?_,q⟩
 by_cases hj:j<i
 ·rw[if_pos hj,if_pos hj];exact⟨_,rfl⟩
 ·rw[if_neg hj,if_neg hj];exact⟨_,rfl⟩
end
structure Vd(h:Heap)(x dx C:Addr)(mA:Str->Option Value):Prop where
 obj:h.get? x=some (PySem.W.instObj C dx)
 ns:h.Ns1 dx mA
 ne:dx≠x
theorem Ye{h:Heap}{dx:Addr}{mA:Str->Option Value}(n:h.Ns1 dx mA):∃od,h.get? dx=some od/\∀name,PySem.W.lookIn name od=some (mA name):=by
 obtain⟨o,es,ep,ho,hd,hk,_,hm⟩:=n
 refine⟨o,ho,λname=> ?_⟩
 have e:=hm name
 unfold nsFind findBy at e
 rw[<-Array.find?_toList]at e
 unfold PySem.W.lookIn
 rw[hd]
 dsimp only
 split
 ·rename_i y q
  rw[q]at e
  exact congrArg some e
 ·rename_i q
  rw[q]at e
  have a:es.toList.any (·.refKey)=false:=by
   rw[List.any_eq_false]
   intro y hy
   obtain⟨z,t,hkey⟩:=hk y (Array.mem_toList_iff.mp hy)
   simp[DictEntry.refKey,hkey]
  have a':¬es.toList.any (·.refKey)=true:=by rw[a];exact xA
  rw[if_neg a']
  exact congrArg some e
theorem Vd.look(I:Vd h x dx C mA):∃od,PySem.W.InstAt h x (PySem.W.instObj C dx) C (some od)/\∀name,PySem.W.lookIn name od=some (mA name):=
 let⟨od,ho,hl⟩:=Ye I.ns
 ⟨od,⟨I.obj,rfl,rfl,ho⟩,hl⟩
section
variable{prog:Program}{w:World}{A:Around}{E:Value->Shared->Prop}{s:Shared}{K:Frag}{x dx C f:Addr}{mA:Str->Option Value}{name:Str}{v:Value}
theorem get_map{Q:Value->Shared->Prop}(X:K.In s.heap)(I:Vd s.heap x dx C mA)(hg:PySem.W.plainGet K C name=true)(hh:PySem.W.hasDictIn K C=true)
  (ha:findIn K (.ref C) name=some none) (hv:mA name=some v) (hv':PySem.W.handedIn v=true) (h:Q v {s with toks:=s.toks+1}):
  wpAny (model prog w) A (getAttr (.ref x) name expr) Q E s:=by
 obtain⟨od,J,hl⟩:=I.look
 exact PySem.W.get_value X J (PySem.W.plainGet_of hg).1 (PySem.W.findObj_own hh ha rfl (by rw[hl,hv])) hv' h
theorem abo{Q:Value×List Value->Shared->Prop}(X:K.In s.heap)(I:Vd s.heap x dx C mA)(hg:PySem.W.plainGet K C name=true)
  (hf:findIn K (.ref C) name=some (some (.ref f))) (ht:isFn K (.ref f)=true) (hv:mA name=none) (h:Q (.ref f,[.ref x]) s):
  wpAny (model prog w) A (getMethod (.ref x) name pl) Q E s:=by
 obtain⟨od,J,hl⟩:=I.look
 exact PySem.W.method_fn X J (PySem.W.plainGet_of hg).1 (PySem.W.plainGet_of hg).2 hf (beq_iff_eq.mp ht) (by show(PySem.W.lookIn name od).map (·.isSome)=some false;rw[hl,hv];rfl) h
theorem acr{Q:Unit->Shared->Prop}(X:K.In s.heap)(I:Vd s.heap x dx C mA)
  (hs:findIn K (.ref C) "__setattr__" = some (some (.builtin "object.__setattr__"))) (hp:PySem.W.plainOver K C=true) (ht:PySem.W.takerIn K C name=some none) (hh:PySem.W.hasDictIn K C=true)
  (hw:PySem.Within mA ns) (hsz:ns.length<=sizeLine)
  (h:∀h',Vd h' x dx C (λy=>if y=name then some v else mA y)->Heap.SameBut dx s.heap h'->Q .unit {s with heap:=h',toks:=s.toks+2}):
  wpAny (model prog w) A (setAttr (.ref x) name v) Q E s:=by
 obtain⟨od,J,hl⟩:=I.look
 refine PySem.W.set_plain X J hs (PySem.W.osa_open (s:={s with toks:=s.toks+1}) (r:=none) X J hp ht λb=> ?_)
 obtain⟨cd,hc,hd'⟩:=PySem.W.any_some hh
 have hx:s.heap.get? x=some ⟨.ref C,some dx,.plain,#[]⟩:=I.obj
 refine zC (zI (zC (zC (wpAny_loadPart hx (zC (PySem.W.Looks.here (s:={s with toks:=s.toks+1}) (PySem.W.looks_clsIn X hc) ?_))))))
 rw[hd']
 refine zI (a:=some dx) (zC (zI (zC ?_)))
 refine wpAny_nsSet1 (s:={s with toks:=s.toks+1}) I.ns λh' hn2 hs2=> ?_
 obtain⟨oD,esD,epD,hoD,hdD,hcD⟩:=hn2.count (PySem.Within.cons name v hw)
 refine zC (wpAny_lookBehind hoD (by rw[hdD];exact pastItsLine_dict (yY hcD (by rw[List.length_cons];omega))) ?_)
 exact zI (h _ ⟨(hs2.2 _ (Ne.symm I.ne)).trans I.obj,hn2,I.ne⟩ hs2)
theorem aaY{R:Result->Shared->Prop}(X:K.In s.heap)(hm:PySem.W.makesIn K C=true)
  (hi:findIn K (.ref C) "__init__" = some (some (.ref f))) (hf:PySem.W.typeIn K (.ref f)=some (.type "function"))
  (h:codeAny (model prog w) (A.under (.builtin "type.__call__" ⟨.ref C::vs,kw⟩)) (.call (.ref f) ⟨.ref (s.heap.objs.size+1)::vs,kw⟩) (PySem.W.InitBack (s.heap.objs.size+1) R)
   {s with heap:=(s.heap.push PySem.W.emptyDict).push (PySem.W.instObj C s.heap.objs.size)}):
  codeAny (model prog w) A (.call (.ref C) ⟨vs,kw⟩) R s:=by
 obtain⟨hh,g,d,t,os⟩:=s
 exact PySem.W.make_core (PySem.W.makes_of X hm) (PySem.W.looks_findIn X hi) (λself=>PySem.W.bind_fn X self hf) (.inl rfl) h
end
noncomputable def uy(f:Str)(v:V):List (Str×V)->List (Str×V)
 | []=>[(f,v)]
 | (g,x)::r=>if g=f then(g,v)::r else(g,x)::uy f v r
theorem G3(f g:Str)(v:V):∀fs:List (Str×V),(uy f v fs).lookup g=if g=f then some v else fs.lookup g
 | []=>by
  show List.lookup g [(f,v)]=_
  by_cases h:g=f
  ·have hb:(g==f)=true:=beq_iff_eq.mpr h
   simp only[List.lookup,hb,if_pos h]
  ·have hb:(g==f)=false:=beq_eq_false_iff_ne.mpr h
   simp only[List.lookup,hb,if_neg h]
 | (k,x)::r=>by
  have ih:=G3 f g v r
  rw[show uy f v ((k,x)::r)=(if k=f then(k,v)::r else(k,x)::uy f v r)from rfl]
  by_cases hk:k=f
  ·rw[if_pos hk]
   by_cases h:g=k
   ·have hb:(g==k)=true:=beq_iff_eq.mpr h
    simp only[List.lookup,hb,if_pos (h.trans hk)]
   ·have hb:(g==k)=false:=beq_eq_false_iff_ne.mpr h
    simp only[List.lookup,hb,if_neg (λe:g=f=>h (e.trans hk.symm))]
  ·rw[if_neg hk]
   by_cases h:g=k
   ·have hb:(g==k)=true:=beq_iff_eq.mpr h
    simp only[List.lookup,hb,if_neg (λe:g=f=>hk (h.symm.trans e))]
   ·have hb:(g==k)=false:=beq_eq_false_iff_ne.mpr h
    simp only[List.lookup,hb]
    exact ih
theorem Gg(f:Str)(v:V):∀fs:List (Str×V),f∈(uy f v fs).map (·.1)/\∀g,g∈fs.map (·.1)->g∈(uy f v fs).map (·.1)
 | []=>⟨by simp[uy],λg h=>by simp at h⟩
 | (k,x)::r=>by
  obtain⟨i1,i2⟩:=Gg f v r
  rw[show uy f v ((k,x)::r)=(if k=f then(k,v)::r else(k,x)::uy f v r)from rfl]
  by_cases hk:k=f
  ·rw[if_pos hk]
   subst hk
   exact⟨by simp,λg h=>by simpa using h⟩
  ·rw[if_neg hk]
   refine⟨?_,λg h=> ?_⟩
   ·rw[List.map_cons]
    exact yT _ i1
   ·rw[List.map_cons]at h ⊢
    rcases List.mem_cons.mp h with e | e
    ·exact List.mem_cons.mpr (.inl e)
    ·exact yT _ (i2 g e)
theorem G4(f:Str)(v:V):∀fs:List (Str×V),(uy f v fs).length<=fs.length+1
 | []=>by simp[uy]
 | (k,x)::r=>by
  have ih:=G4 f v r
  rw[show uy f v ((k,x)::r)=(if k=f then(k,v)::r else(k,x)::uy f v r)from rfl]
  by_cases hk:k=f
  ·rw[if_pos hk,List.length_cons,List.length_cons];omega
  ·rw[if_neg hk,List.length_cons,List.length_cons];omega
theorem yD.some_of(r:yD (some v) o):∃u,o=some u/\RelV v u:=by
 cases o with
 | none=>exact(show False from r).elim
 | some u=>exact⟨u,rfl,r⟩
theorem yD.none_of(r:yD none o):o=none:=by
 cases o with
 | none=>rfl
 | some u=>exact(show False from r).elim
theorem Yp(r:RelV v u):PySem.W.handedIn u=true:=by
 cases v with
 | non=>cases(show u=Value.none from r);rfl
 | bl b=>cases(show u=Value.bool b from r);rfl
 | int i=>obtain⟨t,e⟩:=(show ∃t,u=Value.int i t from r);cases e;rfl
 | str x=>obtain⟨t,e⟩:=(show ∃t,u=Value.str x t from r);cases e;rfl
 | byt b=>obtain⟨t,e⟩:=(show ∃t,u=Value.bytes b t from r);cases e;rfl
 | flt b=>obtain⟨t,e⟩:=(show ∃t,u=Value.float b t from r);cases e;rfl
 | ref a=>cases(show u=Value.ref a from r);rfl
 | ty n=>cases(show u=Value.type n from r);rfl
section
variable{P:Program}{w:World}{H H':Hp}{h h':Heap}{a C dx:Addr}{fs fs':List (Str×V)}
theorem OD(hok:ug P w H h)(e:H a=some (.ins C dx fs)):∃mA,Vd h a dx C mA/\(∀f,yD (fs.lookup f) (mA f))/\PySem.Within mA (fs.map (·.1))/\fs.length<=1000/\H dx=some (.own a):=by
 obtain⟨d,z,ne,ob,mA,n,r,q⟩:=(show cY P w H h a (.ins C dx fs)from hok a _ e)
 exact⟨mA,⟨ob,n,ne⟩,r,q,z,d⟩
end
structure KC(K:Frag)(C:Addr):Prop where
 pg:PySem.W.plainGet K C Str.empty=true
 hd:PySem.W.hasDictIn K C=true
 po:PySem.W.plainOver K C=true
 sa:findIn K (.ref C) "__setattr__" = some (some (.builtin "object.__setattr__"))
theorem KC.get{K:Frag}{C:Addr}(c:KC K C)(f:Str):PySem.W.plainGet K C f=true:=c.pg
def u_(K:Frag)(C:Addr)(f:Str):Prop:=findIn K (.ref C) f=some none
theorem u_.taker{K:Frag}{C:Addr}{f:Str}(n:u_ K C f):PySem.W.takerIn K C f=some none:=by
 unfold PySem.W.takerIn
 rw[show findIn K (.ref C) f=some none from n]
 rfl
structure Meth(K:Frag)(C:Addr)(m:Str)(f:Addr):Prop where
 at_:findIn K (.ref C) m=some (some (.ref f))
 fn:isFn K (.ref f)=true
 kp:keepIn K (.ref f)=true
section
variable{X:Cx}{pins:List (Addr×Obj)}{σ:St}{H:Hp}{s:Shared}{a C dx:Addr}{fs:List (Str×V)}{f:Str}{v:V}{A:Around}{E:Value->Shared->Prop}
theorem UJ{Q:Value->Shared->Prop}(I:Inv X pins σ H s)(e:H a=some (.ins C dx fs))(c:KC X.K C)(n:u_ X.K C f)(l:fs.lookup f=some v)
  (h:∀u s',Inv X pins σ H s'->RelV v u->Q u s'):wpAny (model X.prog X.w) A (getAttr (.ref a) f b) Q E s:=by
 obtain⟨mA,O,r,_,_,_⟩:=OD I.hok e
 obtain⟨u,hu,ru⟩:=yD.some_of (v:=v) (o:=mA f) (by rw[<-l];exact r f)
 exact get_map I.G6 O (c.get f) c.hd n hu (Yp ru) (h u _ (I.tok _) ru)
theorem J8{Q:Value×List Value->Shared->Prop}(I:Inv X pins σ H s)(e:H a=some (.ins C dx fs))(c:KC X.K C)(k:Meth X.K C m g)(l:fs.lookup m=none)
  (h:Q (.ref g,[.ref a]) s):wpAny (model X.prog X.w) A (getMethod (.ref a) m pl) Q E s:=by
 obtain⟨mA,O,r,_,_,_⟩:=OD I.hok e
 have hn:mA m=none:=yD.none_of (by rw[<-l];exact r m)
 exact abo I.G6 O (c.get m) k.at_ k.fn hn h
theorem TQ{Q:Unit->Shared->Prop}(I:Inv X pins σ H s)(e:H a=some (.ins C dx fs))(c:KC X.K C)(n:u_ X.K C f)(hl:fs.length<1000)(ry:RelV y u)
  (h:∀s',Inv X pins σ (upd H a (.ins C dx (uy f y fs))) s'->Q .unit s'):wpAny (model X.prog X.w) A (setAttr (.ref a) f u) Q E s:=by
 obtain⟨mA,O,r,wi,_,ho⟩:=OD I.hok e
 have hz:(fs.map (·.1)).length<=sizeLine:=by rw[zao,sizeLine_eq];omega
 refine acr I.G6 O c.sa c.po n.taker c.hd wi hz λh' O' sb=>h _ ?_
 have hd:∃o,h'.get? dx=some o:=let⟨o,_,_,e',_⟩:=O'.ns;⟨o,e'⟩
 refine I.write (x:=a) (e:=dx) (by rw[e];exact zab) (.inr ho) (λb q hb z=>(sb.2 b hb).trans z) hd ?_
 refine⟨by rw[aH O.ne];exact ho,?_,O.ne,O'.obj,_,O'.ns,λg=> ?_,λg hg=> ?_⟩
 ·have:=G4 f y fs;omega
 ·show yD ((uy f y fs).lookup g) (if g=f then some u else mA g)
  rw[G3]
  by_cases q:g=f
  ·rw[if_pos q,if_pos q];exact ry
  ·rw[if_neg q,if_neg q];exact r g
 ·by_cases q:g=f
  ·rw[q];exact(Gg f y fs).1
  ·refine(Gg f y fs).2 g (wi g λz=>hg ?_)
   show(if g=f then some u else mA g)=none
   rw[if_neg q];exact z
theorem Inv.made(I:Inv X pins σ H s):Inv X pins σ (upd (upd H s.heap.objs.size (.own (s.heap.objs.size+1))) (s.heap.objs.size+1) (.ins C s.heap.objs.size []))
  {s with heap:=(s.heap.push PySem.W.emptyDict).push (PySem.W.instObj C s.heap.objs.size)}:=by
 have e1:(s.heap.push PySem.W.emptyDict).get? s.heap.objs.size=some PySem.W.emptyDict:=yB s.heap rfl
 have e2:((s.heap.push PySem.W.emptyDict).push (PySem.W.instObj C s.heap.objs.size)).get? (s.heap.objs.size+1)=some (PySem.W.instObj C s.heap.objs.size):=by
  have:=yB (s.heap.push PySem.W.emptyDict) (o:=PySem.W.instObj C s.heap.objs.size) rfl
  rwa [Heap.size_push]at this
 have e3:(s.heap.push PySem.W.emptyDict).Ns s.heap.objs.size (λ_=>none):=⟨PySem.W.emptyDict,#[],_,e1,rfl,(λe he=>absurd he (by simp)),λ_=>rfl⟩
 have I1:=I.laid (a:=s.heap.objs.size) (o:= .own (s.heap.objs.size+1)) (h':=s.heap.push PySem.W.emptyDict) (t':=s.toks) (λb u q=>zD _ q) (zac _) ⟨_,e1⟩
 refine I1.laid (a:=s.heap.objs.size+1) (o:= .ins C s.heap.objs.size []) (t':=s.toks) (λb u q=>zD _ q) (Nat.le_of_eq (Heap.size_push _ _)) ?_
 have ne:s.heap.objs.size≠s.heap.objs.size+1:=xD (Nat.lt_succ_self _)
 refine⟨by rw[aH ne,bw],Nat.zero_le _,ne,e2,λ_=>none,(Heap.Ns1.of_empty e3).at λo q=>zD _ q,λ_=>zab,λy hy=>absurd rfl hy⟩
theorem ad9{Q:Value->Shared->Prop}(hb:attributeBase e f env (eval e env)=eval e env)
  (h:wpAny (model prog w) A (eval e env) (λo s₁=>wpAny (model prog w) A (getAttr o f true) Q E s₁) E s):wpAny (model prog w) A (eval (.Attribute e f pos) env) Q E s:=
 Attribute_any_ h (by rw[arm_eval_Attribute,hb])
end
def amf(K:Frag)(ta:TE)(f:Str):TE:=λσ H Q=>ta σ H λx H1=>∃a C dx fs v,x= .ref a/\H1 a=some (.ins C dx fs)/\KC K C/\u_ K C f/\fs.lookup f=some v/\Q v H1
def amu(K:Frag)(ta tv:TE)(f:Str):TS:=λD σ H=>tv σ H λy H1=>ta σ H1 λx H2=>∃a C dx fs,x= .ref a/\H2 a=some (.ins C dx fs)/\KC K C/\u_ K C f/\fs.length<1000/\
 D.nx σ (upd H2 a (.ins C dx (uy f y fs)))
section
variable{X:Cx}{o e value:Expr}{f:Str}{pos pos' tpos:Pos}{ta tv:TE}
theorem af7(he:PE X e ta)(hb:attributeBase e f X.env (eval e X.env)=eval e X.env):PE X (.Attribute e f pos) (amf X.K ta f):=by
 intro pins s σ H Q I h
 refine ad9 hb (gj (he pins s σ H _ I h) ?_)
 rintro u s1 ⟨x,H1,I1,rx,a,C,dx,fs,v,ex,ea,c,n,l,q⟩
 subst ex
 obtain rfl:u=Value.ref a:=rx
 exact UJ I1 ea c n l λu' s2 I2 ru=>⟨v,H1,I2,ru,q⟩
theorem afT(ha:PE X o ta)(hv:PE X value tv)(hs:swapsWith value (some (.Attribute o f pos')) pos.line X.env=pure false):PS X (.Assign [.Attribute o f pos'] value pos) (amu X.K ta tv f):=by
 intro pins s σ H D I h
 refine plainObj_wpAny_Assign_Attribute (gj (hv pins s σ H _ I h) ?_) hs
 rintro u s1 ⟨y,H1,I1,ry,q⟩
 refine gj (ha pins s1 σ H1 _ I1 q) ?_
 rintro ov s2 ⟨x,H2,I2,rx,a,C,dx,fs,ex,ea,c,n,l,q2⟩
 subst ex
 obtain rfl:ov=Value.ref a:=rx
 exact TQ I2 ea c n l ry λs3 I3=>⟨σ,_,I3,q2⟩
end
structure iw(k:Nat)(A:Around):Prop where
 hd:A.handled=none
 dp:A.depth+3*k+5<recursionLimit
 un:A.units+16*k+200<cLine
theorem iw.mono(r:iw k A)(h:j<=k):iw j A:=⟨r.hd,by have:=r.dp;omega,by have:=r.un;omega⟩
theorem iw.deeper(r:iw (k+1) A)(env:Env):iw k (A.deeper env):=
 ⟨r.hd,by have:=r.dp;show A.depth+1+3*k+5<_;omega,by have:=r.un;show A.units+3+16*k+200<_;omega⟩
theorem Uj{A:Around}{C:Addr}{us:List Value}{kw:List (Str×Value)}:(A.under (.builtin "type.__call__" ⟨.ref C::us,kw⟩)).depth=A.depth+1:=by
 first | rfl | simp[Around.under,Code.weight,Code.isCreation,Code.isGuard,Code.isCaller,Code.frames,Code.isFrame,guardIds]
theorem Ui{A:Around}{C:Addr}{us:List Value}{kw:List (Str×Value)}:(A.under (.builtin "type.__call__" ⟨.ref C::us,kw⟩)).units=A.units+1:=by
 first | rfl | simp[Around.under,Code.cUnits,Code.frames,Code.isFrame]
theorem iw.make(r:iw (k+1) A)(C:Addr)(us:List Value)(kw:List (Str×Value)):iw k (A.under (.builtin "type.__call__" ⟨.ref C::us,kw⟩)):=
 ⟨r.hd,by have:=r.dp;rw[Uj];omega,by have:=r.un;rw[Ui];omega⟩
theorem iw.depth(r:iw k A):A.depth<recursionLimit:=by have:=r.dp;omega
theorem iw.units(r:iw k A):A.units+64<cLine:=by have:=r.un;omega
def afi:TA:=λ_ H Q=>Q [] H
def aiJ(ta:TE)(tr:TA):TA:=λσ H Q=>ta σ H λx H1=>tr σ H1 λxs H2=>Q (x::xs) H2
section
variable{X:Cx}{e:Expr}{es:List Expr}{te:TE}{t:TA}{pos:Pos}
theorem aaQ:PA X [] afi:=λ_ _ _ _ H Q I h=>Calls.spliced_nil ⟨[],H,I,.nil,h⟩
theorem V5(ha:PE X e te)(hr:PA X es t)(hs:starEach (e::es) X.env=(false,eval e X.env)::starEach es X.env:=by rfl):PA X (e::es) (aiJ te t):=by
 intro pos pins s σ H Q I h
 rw[hs]
 show wpAny _ _ (spliced ((false,eval e X.env)::backTo pos (starEach es X.env))) _ _ s
 refine Calls.spliced_cons (gj (ha pins s σ H _ I h) ?_)
 rintro u s1 ⟨x,H1,I1,r1,q1⟩
 exact gj (hr pos pins s1 σ H1 _ I1 q1) λus s2 ⟨xs,H2,I2,r2,q2⟩=>⟨x::xs,H2,I2,.cons r1 r2,q2⟩
def al8(t:TA):TE:=λσ H Q=>t σ H λxs H1=>xs.length<=sizeLine/\∀p,H1 p=none->Q (.ref p) (upd H1 p (.tup xs))
def amc(t:TA):TE:=λσ H Q=>t σ H λxs H1=>xs.length<=sizeLine/\∀p,H1 p=none->Q (.ref p) (upd H1 p (.lst xs))
theorem af0{x1}(h:PA X es t):PE X (.Tuple es x1 pos) (al8 t):=by
 intro pins s σ H Q I hq
 refine wpAny_Tuple_spliced (gj (h pos pins s σ H _ I hq) λus s1 ⟨xs,H1,I1,r,z,q⟩=>⟨by rw[<-r.length];exact z,?_⟩)
 have hf:H1 s1.heap.objs.size=none:=I1.hok.fresh (zac _)
 refine⟨.ref s1.heap.objs.size,upd H1 s1.heap.objs.size (.tup xs),I1.laid (t':=s1.toks) (λb u e=>zD _ e) (zac _) ?_,rfl,q _ hf⟩
 exact⟨z,us,r,⟨_,yB _ rfl,rfl,_,rfl⟩⟩
theorem af5(h:PA X es t):PE X (.List es pos) (amc t):=by
 intro pins s σ H Q I hq
 refine wpAny_List_spliced (gj (h pos pins s σ H _ I hq) λus s1 ⟨xs,H1,I1,r,z,q⟩=>⟨by rw[<-r.length];exact z,?_⟩)
 have hf:H1 s1.heap.objs.size=none:=I1.hok.fresh (zac _)
 refine⟨.ref s1.heap.objs.size,upd H1 s1.heap.objs.size (.lst xs),I1.laid (t':=s1.toks) (λb u e=>zD _ e) (zac _) ?_,rfl,q _ hf⟩
 exact⟨z,us,0,r,yB _ rfl⟩
end
abbrev Sp:=List V->Hp->VK->XK->Prop
abbrev Vi:=List Env->Hp->Shared->XK->Value->Shared->Prop
structure Vg(P:Program)(w:World)(K:Frag)(mg:Str->Option Value)(base:Heap)(A:Around)(outer:List Env)(s:Shared)(H:Hp):Prop where
 frames:A.frames=some outer
 mod:Mod K mg base
 bs:∀b o,base.get? b=some o->s.heap.get? b=some o/\H b=none
 YF:base.objs.size<=s.heap.objs.size
 BW:s.heap.FunFrames base outer
 frf:∀b∈frs outer,H b=none
 hok:ug P w H s.heap
 bare:AllBare s.gens
def CE(outer:List Env)(P:Program)(w:World)(H:Hp)(s:Shared)(Q:VK)(u:Value)(s':Shared):Prop:=
 ∃v H',s'.os=s.os/\AllBare s'.gens/\Un (frs outer) [] H H' s.heap s'.heap/\ug P w H' s'.heap/\RelV v u/\Q v H'
def CR(CX:Vi)(outer:List Env)(P:Program)(w:World)(H:Hp)(s:Shared)(Q:VK)(E:XK)(r:Result)(s':Shared):Prop:=
 match r with
 | .ok (.ret u)=>CE outer P w H s Q u s'
 | .ok _=>False
 | .error e=>CX outer H s E e s'
structure gP(P:Program)(w:World)(K:Frag)(mg:Str->Option Value)(base:Heap)(CX:Vi)(k:Nat)(f:Addr)(fd:FuncData)(ps:List Str)(sp:Sp):Prop where
 len:∀vs H Q E,sp vs H Q E->vs.length=ps.length
 run:∀(A:Around) (outer:List Env) (s:Shared) (H:Hp) (args:Args) (us:List Value) (vs:List V) (Q:VK) (E:XK),iw k A->Vg P w K mg base A outer s H->BindsTo s fd args (ps.zip us)->Vals vs us->sp vs H Q E->
  codeAny (model P w) A (.call (.ref f) args) (CR CX outer P w H s Q E) s
theorem gP.imp{P:Program}{w:World}{K:Frag}{mg:Str->Option Value}{base:Heap}{CX:Vi}{k:Nat}{f:Addr}{fd:FuncData}{ps:List Str}{sp sp':Sp}(F:gP P w K mg base CX k f fd ps sp)
  (h:∀vs H Q E,sp' vs H Q E->sp vs H Q E):gP P w K mg base CX k f fd ps sp':=
 ⟨λvs H Q E q=>F.len vs H Q E (h _ _ _ _ q),λA outer s H args us vs Q E hr he hb hv hs=>F.run A outer s H args us vs Q E hr he hb hv (h _ _ _ _ hs)⟩
theorem Vg.make{P:Program}{w:World}{K:Frag}{mg:Str->Option Value}{base:Heap}{A:Around}{outer:List Env}{s:Shared}{H:Hp}(e:Vg P w K mg base A outer s H)(C:Addr)(us:List Value)(kw:List (Str×Value)):
  Vg P w K mg base (A.under (.builtin "type.__call__" ⟨.ref C::us,kw⟩)) outer s H:=⟨by first | exact e.frames | (simpa[Around.under,Code.envs,Code.isFrame,pushEnvs]using e.frames),e.mod,e.bs,e.YF,e.BW,e.frf,e.hok,e.bare⟩
section
variable{X:Cx}{pins:List (Addr×Obj)}{σ:St}{H:Hp}{s s':Shared}
theorem Inv.env0(I:Inv X pins σ H s):Vg X.prog X.w X.K X.mg X.base X.A X.stack s H:=
 ⟨I.ok.frames,I.ok.mod,I.bs,yY I.ok.YF I.sz,I.stack,I.Ie,I.hok,I.bare⟩
theorem Inv.after(I:Inv X pins σ H s)(h:CE X.stack X.prog X.w H s Q u s'):EP X pins σ Q u s':=by
 obtain⟨v,H',os,bare,un,hok,r,q⟩:=h
 obtain⟨hh,g,d,t,os'⟩:=s'
 obtain rfl:os'=s.os:=os
 exact⟨v,H',I.call (h':=hh) (g':=g) (d':=d) (t':=t) (ch:=[]) un hok bare (λb z=>absurd z (by simp)),r,q⟩
end
def Binds(K:Frag)(fd:FuncData)(ps:List Str)(ds:List Value):Prop:=
 ∀(s:Shared) (us:List Value),K.In s.heap->(us++ds).length=ps.length->BindsTo s fd ⟨us,[]⟩ (ps.zip (us++ds))
theorem Binds.all{K:Frag}{fd:FuncData}{ps:List Str}(h:∀us:List Value,us.length=ps.length->bindArgs fd ⟨us,[]⟩=pure (ps.zip us)):Binds K fd ps []:=λs us _ hl=>by
 rw[List.append_nil]at hl ⊢
 exact .of_eq (h us hl)
section
variable{X:Cx}{CX:Vi}{k:Nat}{f C:Addr}{fd:FuncData}{ps:List Str}{sp:Sp}{yu:List V}{ds:List Value}{E:XK}{x m:Str}{p pos apos:Pos}{e o:Expr}{es:List Expr}{ta:TE}{t:TA}
structure Mk(K:Frag)(C f:Addr):Prop where
 makes:PySem.W.makesIn K C=true
 init:findIn K (.ref C) "__init__" = some (some (.ref f))
 fn:isFn K (.ref f)=true
 kp:keepIn K (.ref C)=true
end
structure qP(N P:List Str)(sc:Scope):Prop where
 kind:sc.kind= .function
 co:sc.isCoroutine=false
 gen:sc.isGenerator=false
 nd:N.Nodup
 pre:N.take P.length=P
 par:∀x∈P,sc.names.lookup x=some .local\/sc.names.lookup x=some .cell
 agu:∀y∈sc.names,y.2≠ .free
theorem Mz{kindOf:Str->Option NameKind}{x:Str}:∀{binds:List (Str×Value)} {m:Str->Option Value},(∀v,(x,v)∉binds)->bindL kindOf binds m x=m x
 | [],_,_=>rfl
 | (n,v)::r,m,h=>by
  unfold bindL
  rw[Mz λw hw=>h w (yT _ hw)]
  split
  ·have:x≠n:=by rintro rfl;exact h v xB
   simp[this]
  ·rfl
theorem MJ{kindOf:Str->Option NameKind}{x:Str}:∀{binds:List (Str×Value)} {m:Str->Option Value},(∀v,(x,v)∉binds)->bindC kindOf binds m x=m x
 | [],_,_=>rfl
 | (n,v)::r,m,h=>by
  unfold bindC
  rw[MJ λw hw=>h w (yT _ hw)]
  split
  ·rfl
  ·have:x≠n:=by rintro rfl;exact h v xB
   simp[this]
theorem MF{kindOf:Str->Option NameKind}{x:Str}:∀{P:List Str} {vs:List Value} {i:Nat} {m:Str->Option Value},P.Nodup->P[i]? = some x->vs[i]? = some v->kindOf x=some .local->
  bindL kindOf (P.zip vs) m x=some v
 | [],_,_,_,_,h,_,_=>by simp at h
 | _::_,[],_,_,_,_,h,_=>by simp at h
 | p::P,w::vs,0,m,nd,h1,h2,hk=>by
  simp at h1 h2;subst h1;subst h2
  show bindL kindOf ((p,w)::P.zip vs) m p=_
  unfold bindL
  rw[Mz λv hv=>(List.nodup_cons.mp nd).1 (List.of_mem_zip hv).1,if_pos hk]
  simp
 | p::P,w::vs,i+1,m,nd,h1,h2,hk=>by
  show bindL kindOf ((p,w)::P.zip vs) m x=_
  unfold bindL
  exact MF (i:=i) (List.nodup_cons.mp nd).2 (by simpa using h1) (by simpa using h2) hk
theorem MK{kindOf:Str->Option NameKind}{x:Str}:∀{P:List Str} {vs:List Value} {i:Nat} {m:Str->Option Value},P.Nodup->P[i]? = some x->vs[i]? = some v->kindOf x≠some .local->
  bindC kindOf (P.zip vs) m x=some v
 | [],_,_,_,_,h,_,_=>by simp at h
 | _::_,[],_,_,_,_,h,_=>by simp at h
 | p::P,w::vs,0,m,nd,h1,h2,hk=>by
  simp at h1 h2;subst h1;subst h2
  show bindC kindOf ((p,w)::P.zip vs) m p=_
  unfold bindC
  rw[MJ λv hv=>(List.nodup_cons.mp nd).1 (List.of_mem_zip hv).1,if_neg hk]
  simp
 | p::P,w::vs,i+1,m,nd,h1,h2,hk=>by
  show bindC kindOf ((p,w)::P.zip vs) m x=_
  unfold bindC
  exact MK (i:=i) (List.nodup_cons.mp nd).2 (by simpa using h1) (by simpa using h2) hk
def start(N:List Str)(vs:List V):St:=vs.map some++List.replicate (N.length - vs.length) none
noncomputable def xQ(CX:Vi)(P:Program)(w:World)(K:Frag)(mg:Str->Option Value)(base:Heap)(N:List Str)(qual:Str)(scope:Scope)(f:Addr)(cd:Value)(A:Around)(outer:List Env)(s:Shared)(H:Hp)(E:XK):Cx where
 prog:=P
 w:=w
 K:=K
 mg:=mg
 base:=base
 A:=A.deeper (envOfC qual scope s.heap.objs.size f cd)
 N:=N
 s₀:=s
 H₀:=H
 env:=envOfC qual scope s.heap.objs.size f cd
 outer:=outer
 stack:=envOfC qual scope s.heap.objs.size f cd::outer
 ex:=[]
 calm:=true
 fn:=λ_=>true
 pn:=[]
 xe:=λe s'=>wpAny (model P w) (A.deeper (envOfC qual scope s.heap.objs.size f cd)) (leaving (envOfC qual scope s.heap.objs.size f cd) e) (λ_ s''=>CX outer H s E e s'') (λe' s''=>CX outer H s E e' s'') s'
theorem Su{sc:Scope}{n:Nat}{x:Str}(h:sc.names.lookup x=some .cell):∃c,(cellsFrom n sc.names []).lookup x=some c:=by
 have q:=PySem.W.cellsFrom_some sc.names n [] (.inl h)
 exact Option.isSome_iff_exists.mp q
theorem Yn{CX:Vi}{P:Program}{w:World}{K:Frag}{mg:Str->Option Value}{base:Heap}{N ps:List Str}{qual:Str}{scope:Scope}{f:Addr}{cd:Value}{A:Around}{outer:List Env}{s s1:Shared}{H:Hp}{E:XK}{us:List Value}{vs:List V}
  (S:qP N ps scope) (hd:A.handled=none) (e0:Vg P w K mg base A outer s H) (hl:vs.length=ps.length) (r:Vals vs us)
  (x:InCallC s s.heap.objs.size (bindL (envOfC qual scope s.heap.objs.size f cd).kindOf (ps.zip us) λ_=>none) (cellsFrom (s.heap.objs.size+1) scope.names []) (bindC (envOfC qual scope s.heap.objs.size f cd).kindOf (ps.zip us) λ_=>none) s1):
  Inv (xQ CX P w K mg base N qual scope f cd A outer s H E) [] (start N vs) H s1:=by
 have hpl:ps.length<=N.length:=by have:=congrArg List.length S.pre;rw[List.length_take]at this;omega
 obtain⟨h1,tk,rfl,hk⟩:=x.done
 have noA:∀b:Addr,b∉(xQ CX P w K mg base N qual scope f cd A outer s H E).ex:=λb z=>absurd (show b∈([]:List Addr)from z) (by simp)
 refine⟨⟨e0.mod,S.kind,rfl,rfl,zac _,λy z c h1 h2=> ?_,λy hy=> ?_,λy c _ h=> ?_,λ_=>hd,Around.frames_deeper e0.frames,.inr ⟨rfl,rfl⟩,λb z=>absurd z (noA b),e0.bs,e0.YF,λb _ _=>noA b,λb z=>absurd z (noA b),e0.BW,e0.frf⟩,
  rfl,e0.bare,Un.kept hk,⟨_,x.toInCall.ns,λi y v h1 h2 h3=> ?_⟩,λy c h=>⟨_,x.cell y c h⟩,e0.hok.fresh (zac _),λy c h=> ?_,λp hp=>absurd (show p∈([]:List (Addr×Obj))from hp) (by simp),e0.hok.kept hk,?_⟩
 ·exact name_of_addr x.apart (PySem.mem_of_lookup h1) (PySem.mem_of_lookup h2)
 ·have hy:scope.names.lookup y=some .cell\/scope.names.lookup y=some .free:=hy
  rcases hy with hy | hy
  ·exact Su hy
  ·exact absurd rfl (S.agu _ (PySem.mem_of_lookup hy))
 ·exact Nat.le_of_lt (x.above y c (PySem.mem_of_lookup h))
 ·have hi:i<vs.length:=by
   unfold start at h2
   by_cases hi:i<vs.length
   ·exact hi
   ·rw[zae (by simpa using hi)]at h2
    rw[List.getElem?_replicate]at h2
    split at h2<;>cases h2
  have ha:vs[i]? = some v:=by
   unfold start at h2
   rw[zaf (by simpa using hi),zan]at h2
   cases e:vs[i]? with
   | none=>rw[e]at h2;cases h2
   | some a=>rw[e]at h2;cases h2;rfl
  obtain⟨u,hu,rv⟩:=r.get ha
  have hp:ps[i]? = some y:=by
   rw[<-S.pre,List.getElem?_take_of_lt ()];exact h1
  have ndP:ps.Nodup:=by rw[<-S.pre];exact S.nd.sublist (List.take_sublist _ _)
  refine⟨u,rv,?_⟩
  rcases S.par y (zaa hp)with k | k
  ·exact .inl ⟨k,MF ndP hp hu k⟩
  ·obtain⟨c,e⟩:=Su (n:=s.heap.objs.size+1) k
   refine .inr ⟨.inl k,c,e,?_⟩
   have q:=x.cell y c e
   rw[MK ndP hp hu (by show scope.names.lookup y≠_;rw[k];decide)]at q
   exact q
 ·exact e0.hok.fresh (Nat.le_of_lt (x.above y c (PySem.mem_of_lookup h)))
 ·unfold start
  show _=N.length
  rw[List.length_append,zao,List.length_replicate]
  omega
theorem aeV{CX:Vi}{P:Program}{w:World}{K:Frag}{mg:Str->Option Value}{base:Heap}{k:Nat}{f:Addr}{name qual:Str}{params:Arguments}{body:List Stmt}{scope:Scope}{dV kV doc pm cdv ct oc:Value}{an od:Option Addr}
  {osl:Array (Option Value)} {N ps:List Str} {sp:Sp} (lk:K.lookup f=some ⟨oc,od,.func (fnOf name qual params body scope dV kV doc pm an cdv ct),osl⟩) (hcd:codeIn K cdv qual=true) (S:qP N ps scope)
  (len:∀vs H Q E,sp vs H Q E->vs.length=ps.length)
  (hbody:∀(A:Around) (outer:List Env) (s:Shared) (H:Hp) (vs:List V) (Q:VK) (E:XK),iw k (A.deeper (envOfC qual scope s.heap.objs.size f cdv))->sp vs H Q E->
   ∃t,HY (xQ CX P w K mg base N qual scope f cdv A outer s H E) body t/\t {nx:=λ_ H'=>Q .non H',rt:=Q} (start N vs) H):
  gP P w K mg base CX (k+1) f (fnOf name qual params body scope dV kV doc pm an cdv ct) ps sp:=by
 refine⟨len,λA outer s H args us vs Q E hr e0 hb r hsp=> ?_⟩
 have hl:=len _ _ _ _ hsp
 have KX:K.In s.heap:=e0.mod.kin.keeps λb o e=>(e0.bs b o e).1
 have lim:s.heap.NoLimit:=e0.mod.nolimit.keeps λb o e=>(e0.bs b o e).1
 have hkind:∀y∈ps.zip us,scope.names.lookup y.1=some .local\/(scope.names.lookup y.1=some .cell/\((cellsFrom (s.heap.objs.size+1) scope.names []).lookup y.1).isSome=true):=λ⟨n,v⟩ hy=>by
  rcases S.par n (List.of_mem_zip hy).1 with q | q
  ·exact .inl q
  ·exact .inr ⟨q,PySem.W.cellsFrom_some _ _ _ (.inl q)⟩
 refine codeAny_call_function hr.depth (KX _ _ lk) rfl S.co S.gen rfl (PySem.W.codeRec_of KX hcd) (hb _ _ _ _ ?_)
 refine wpAny_newFunctionEnv_cells S.kind hkind λenv he s1 x=> ?_
 subst he
 refine⟨lim.keeps x.toInCall.keep,codeAny_func ?_⟩
 obtain⟨t,ht,hq⟩:=hbody A outer s H vs Q E (hr.deeper _) hsp
 have I:Inv (xQ CX P w K mg base N qual scope f cdv A outer s H E) [] (start N vs) H s1:=Yn S hr.hd e0 hl r x
 refine vE (ht [] s1 (start N vs) H _ I hq) (λfl s' hs=> ?_) λe s' hs=>hs
 have fin:∀{σ':St} {H':Hp} {v:V} {u:Value},Inv (xQ CX P w K mg base N qual scope f cdv A outer s H E) [] σ' H' s'->RelV v u->Q v H'->CE outer P w H s Q u s':=
  λ{σ' H' v u} J rv q=>⟨v,H',J.os,J.bare,J.base,J.hok,rv,q⟩
 cases fl with
 | ret u=>
  obtain⟨v,σ',H',J,rv,q⟩:=hs
  exact fin J rv q
 | next=>
  obtain⟨σ',H',J,q⟩:=hs
  exact fin (v:=V.non) (u:=Value.none) J rfl q
 | brk=>
  obtain⟨_,_,_,q⟩:=hs
  exact False.elim q
 | cont=>
  obtain⟨_,_,_,q⟩:=hs
  exact False.elim q
section
variable{X:Cx}{x:Str}{p pos:Pos}{e:Expr}{es:List Expr}{t:TA}{id T:String}{r:List V->Hp->VK->Prop}
def tCB(r:List V->Hp->VK->Prop)(t:TA):TE:=λσ H Q=>t σ H λvs H1=>r vs H1 Q
theorem Rf(hc:mV X (.builtin id) r)(hg:Gl X x)(hm:X.mg x=none)(hv:bootBuiltins x=some (.builtin id))(ha:PA X (e::es) t)(hn:x≠ "__name__" := by decide)(hdb:(x==("__debug__" : Str))=false:=by decide)
  (he:starEach (e::es) X.env=(false,eval e X.env)::starEach es X.env:=by rfl) (hpl:(backTo pos (starEach es X.env)).any (·.1)=false:=by rfl):PE X (.Call (.Name x p) (e::es) [] pos) (tCB r t):=by
 intro pins s σ H Q I h
 refine wpAny_Call_Name_kw (JX I hg hm hv ?_ hn hdb)
 exact PyProof.Rows.callWith_builtin1 (gj (ha pos pins s σ H _ I h) λus s1 ⟨vs,H1,I1,r1,q1⟩=>hc pins s1 σ H1 vs us Q I1 r1 q1) he hpl
theorem XJ(hc:mV X (.type T) r)(hg:Gl X x)(hm:X.mg x=none)(hv:bootBuiltins x=some (.type T))(ha:PA X (e::es) t)(hn:x≠ "__name__" := by decide)(hdb:(x==("__debug__" : Str))=false:=by decide)
  (he:starEach (e::es) X.env=(false,eval e X.env)::starEach es X.env:=by rfl) (hpl:(backTo pos (starEach es X.env)).any (·.1)=false:=by rfl):PE X (.Call (.Name x p) (e::es) [] pos) (tCB r t):=by
 intro pins s σ H Q I h
 refine wpAny_Call_Name_kw (JX I hg hm hv ?_ hn hdb)
 exact PyProof.Rows.callWith_type1 (gj (ha pos pins s σ H _ I h) λus s1 ⟨vs,H1,I1,r1,q1⟩=>hc pins s1 σ H1 vs us Q I1 r1 q1) he hpl
end
end L2
namespace HT
open PySem PyProof.Rows
noncomputable def lexLt:List Int->List Int->Bool
 | [],[]=>false
 | [],_::_=>true
 | _::_,[]=>false
 | x::xs,y::ys=>if x=y then lexLt xs ys else decide (x<y)
theorem Ur(x y:Int)(xs ys:List Int):lexLt (x::xs) (y::ys)=if x=y then lexLt xs ys else decide (x<y):=rfl
theorem K9:lexLt [] []=false:=rfl
theorem JT(y:Int)(ys:List Int):lexLt [] (y::ys)=true:=rfl
theorem JV(x:Int)(xs:List Int):lexLt (x::xs) []=false:=rfl
theorem abD(A:Around)(s:Shared)(a:Int)(t:Tok)(c:Int)(u:Tok):∃e,SeqAt.EqAt A s (.int a t) (.int c u) e/\(e=true↔a=c):=
 ⟨(a==c),SeqAt.EqAt.int_int a t c u,by simp⟩
theorem aas(A:Around)(s:Shared)(a:Int)(t:Tok)(c:Int)(u:Tok)(prog:Program)(w:World)(E:Value->Shared->Prop)(Q:Value->Shared->Prop)(h:Q (.bool (decide (a<c))) s):
  wpAny (model prog w) A (richCompare .Lt (.int a t) (.int c u)) Q E s:=
 (PyProof.Rows.lt_int h:wpAny (model prog w) A (compareOp .Lt (.int a t) (.int c u)) Q E s)
section
open PySem.SeqAt
open PySem.AutoSeq1 (wpAny_loadPart')
open PySem.MeetsSeq PySem.MeetsSeq2 PySem.MeetsSeq3
theorem KH(l b:Addr)(items items2:Array Value)(n n2:Nat)(dd dd2:Option Addr)(sl sl2:Array (Option Value))(ns ms:List Int)(hi:IntsAre items.toList ns)(hj:IntsAre items2.toList ms):
  Meets (Builtin.«tuple.__lt__» ⟨[.ref l,.ref b],[]⟩)
   (λ_ R s=>s.heap.get? l=some {cls:= .type "tuple",dict:=dd,data:= .seq items n,slots:=sl}/\s.heap.get? b=some {cls:= .type "tuple",dict:=dd2,data:= .seq items2 n2,slots:=sl2}/\
    R (.ok (.ret (.bool (lexLt ns ms)))) s):=
 .of_wp λprog w A R s h=>by
  obtain⟨hp,g,d,tk,os⟩:=s;obtain⟨hl,hb,h⟩:=h
  have f2:=AutoSeq1.sub_tuple_tuple
  have z1:items.size=ns.length:=by rw[<-hi.length];simp
  have z2:items2.size=ms.length:=by rw[<-hj.length];simp
  wp_walk using wpAny_loadPart' hl,wpAny_loadPart' hb,wpAny_forIn_list _ (λrest b s'=>b.1=none/\s'=⟨hp,g,d,tk,os⟩/\∃(vs ws:List Value) (ns' ms':List Int),rest=vs.zip ws/\
   IntsAre vs ns'/\IntsAre ws ms'/\ns'.length+items2.size=ms'.length+items.size/\R (.ok (.ret (.bool (lexLt ns' ms')))) ⟨hp,g,d,tk,os⟩) _
  case turn=>
   rintro⟨y,x⟩ rest b s' ⟨hb',rfl,vs,ws,ns',ms',hz,hvi,hwi,hlen,hR⟩
   cases hvi with
   | nil=>rw[List.zip_nil_left]at hz;cases hz
   | cons a t anf=>
    cases hwi with
    | nil=>rw[List.zip_nil_right]at hz;cases hz
    | cons c u ane=>
     rw[List.zip_cons_cons]at hz
     injection hz with hyx hrest
     injection hyx with hy hx
     subst hy hx
     rw[Ur]at hR
     simp only[List.length_cons]at hlen
     obtain⟨e,he,hiff⟩:=abD A.in1 ⟨hp,g,d,tk,os⟩ a t c u
     refine zC (he prog w _ _ ?_)
     cases e with
     | true=>
      rw[if_pos (hiff.mp rfl)]at hR
      wp_walk
      exact⟨rfl,rfl,_,_,_,_,hrest,anf,ane,(),hR⟩
     | false=>
      rw[if_neg (λq=>absurd (hiff.mpr q) xA)]at hR
      have hri:=aas A.in1 ⟨hp,g,d,tk,os⟩ a t c u prog w
      wp_walk using hri
      exact⟨_,rfl,by simpa using hR⟩
  case fin=>
   rintro⟨b1,b2⟩ s' ⟨hb',rfl,vs,ws,ns',ms',hz,hvi,hwi,hlen,hR⟩
   simp only at hb'
   subst hb'
   have hv:lexLt ns' ms'=decide (items.size<items2.size):=by
    cases hvi with
    | nil=>
     cases hwi with
     | nil=>
      simp only[List.length_nil]at hlen
      rw[K9]
      exact(zag ()).symm
     | cons c u hw=>
      simp only[List.length_nil,List.length_cons]at hlen
      rw[JT]
      exact(zah ()).symm
    | cons a t hv=>
     cases hwi with
     | nil=>
      simp only[List.length_nil,List.length_cons]at hlen
      rw[JV]
      exact(zag ()).symm
     | cons c u hw=>
      rw[List.zip_cons_cons]at hz
      cases hz
   rw[hv]at hR
   wp_walk
   exact⟨_,rfl,by simpa[Builtin.Tuple.tupleCompareSizes]using hR⟩
  case h=>
   exact⟨rfl,rfl,items.toList,items2.toList,ns,ms,rfl,hi,hj,(),h⟩
end
section
variable{prog:Program}{w:World}{A:Around}{E:Value->Shared->Prop}{s:Shared}
theorem Up{Q:Value->Shared->Prop}(hl:IsTup s.heap l items)(hb:IsTup s.heap b items2)(hi:IntsAre items.toList ns)(hj:IntsAre items2.toList ms)
  (hu:A.units<cLine) (h:Q (.bool (lexLt ns ms)) s):wpAny (model prog w) A (compareOp .Lt (.ref l) (.ref b)) Q E s:=by
 obtain⟨⟨cls,dd,data,sl⟩,ho,hc,n,hd⟩:=id hl
 obtain⟨⟨cls2,dd2,data2,sl2⟩,ho2,hc2,n2,hd2⟩:=id hb
 simp only at hc hd hc2 hd2
 subst hc hd hc2 hd2
 exact richCompare_meets_room (op:= .Lt) ⟨_,ho,rfl⟩ ⟨_,ho2,rfl⟩ PySem.F.slot_tuple_lt PySem.F.entry_tuple_lt (PySem.F.args_tuple_lt_2 _ _) (KH l b items items2 n n2 dd dd2 sl sl2 ns ms hi hj)
  ⟨ho,ho2,show Value.bool (lexLt ns ms)≠Value.notImplemented/\Q (.bool (lexLt ns ms)) s from⟨(λx=>nomatch x),h⟩⟩ hu
theorem ad0{Q:Value->Shared->Prop}(ht:IsTup s.heap t vs.toArray)(hb:IsTup s.heap b ws.toArray)(hv:vs≠[])
  (h1:ws=[]->Q (.ref t) s) (h2:ws≠[]->Q (.ref s.heap.objs.size) {s with heap:=s.heap.push {cls:= .type "tuple",data:= .seq (vs++ws).toArray}})
  (hsz:vs.length+ws.length<=sizeLine):wpAny (model prog w) A (binaryOp .Add (.ref t) (.ref b)) Q E s:=by
 obtain⟨⟨cls,dd,data,sl⟩,ho,hc,n,hd⟩:=id ht
 obtain⟨⟨cls2,dd2,data2,sl2⟩,ho2,hc2,n2,hd2⟩:=id hb
 simp only at hc hd hc2 hd2
 subst hc hd hc2 hd2
 have e:vs.toArray++ws.toArray=(vs++ws).toArray:=by simp
 by_cases hw:ws=[]
 ·exact concat_meets ⟨_,ho,rfl⟩ ⟨_,ho2,rfl⟩ noFill_tuple_add seq_tuple_add PySem.F.slot_tuple_add PySem.F.entry_tuple_add (PySem.F.args_tuple_add_2 _ _)
   (tuple_addW1 t b vs.toArray ws.toArray n n2 dd dd2 sl sl2 (by simpa using hv) (by simp[hw])) ⟨ho,ho2,h1 hw⟩
 ·refine concat_meets ⟨_,ho,rfl⟩ ⟨_,ho2,rfl⟩ noFill_tuple_add seq_tuple_add PySem.F.slot_tuple_add PySem.F.entry_tuple_add (PySem.F.args_tuple_add_2 _ _)
   (tuple_addW2 t b vs.toArray ws.toArray n n2 dd dd2 sl sl2 (by simpa using hv) (by simpa using hw) (by rw[List.size_toArray,List.size_toArray];exact hsz)) ⟨ho,ho2,?_⟩
  rw[e]
  exact h2 hw
def bf(n d:Nat):Option Int->Nat
 | none=>d
 | some v=>if v<0 then(v+(n:Int)).toNat else min v.toNat n
theorem aaa(n d:Nat):bf n d none=d:=rfl
theorem acA(n d k:Nat):bf n d (some (k:Int))=min k n:=by
 show(if(k:Int)<0 then((k:Int)+(n:Int)).toNat else min (k:Int).toNat n)=min k n
 rw[if_neg (),zam]
theorem afA(n d:Nat)(hd:d<=n)(o:Option Int):bf n d o<=n:=by
 cases o with
 | none=>exact hd
 | some v=>
  show(if v<0 then(v+(n:Int)).toNat else min v.toNat n)<=n
  by_cases hv:v<0
  ·rw[if_pos hv];omega
  ·rw[if_neg hv];exact Nat.min_le_right _ _
theorem W4(v:Int)(n d:Nat):(if v<0 then max (v+(n:Int)) 0 else min v (n:Int))=((bf n d (some v):Nat):Int):=by
 show(if v<0 then max (v+(n:Int)) 0 else min v (n:Int))=(((if v<0 then(v+(n:Int)).toNat else min v.toNat n):Nat):Int)
 by_cases hv:v<0
 ·simp only[if_pos hv];omega
 ·simp only[if_neg hv];omega
theorem Vc(lo hi:Option Int)(n:Nat):Builtin.Slice.sliceAdjust lo hi 1 (n:Int)=(((bf n 0 lo:Nat):Int),((bf n n hi:Nat):Int)):=by
 have h1:¬((1:Int)<0):=()
 unfold Builtin.Slice.sliceAdjust
 simp only[h1,if_false]
 refine Prod.ext ?_ ?_
 ·cases lo with
  | none=>rfl
  | some v=>exact W4 v n 0
 ·cases hi with
  | none=>rfl
  | some v=>exact W4 v n n
theorem T9(i j:Nat):Builtin.Slice.slicePlaces (i:Int) (j:Int) 1=j - i:=by
 unfold Builtin.Slice.slicePlaces
 have h1:(1:Int) > 0:=()
 simp only[h1,if_true,Int.ediv_one]
 split<;>omega
theorem Ji{Q:Option Int->Shared->Prop}(p:IsPart v o)(h:Q o s):wpAny (model prog w) A (Builtin.Slice.slicePartIndex v) Q E s:=by
 cases p with
 | none=>exact slicePart_none h
 | int i t=>exact slicePart_int h
theorem vh{lo hi:Option Int}{n:Nat}{Q:Int×Int×Nat->Shared->Prop}(hs:s.heap.IsSliceOf sl vl vu .none)(pl:IsPart vl lo)(pu:IsPart vu hi)
  (h:Q (((bf n 0 lo:Nat):Int),1,bf n n hi - bf n 0 lo) s):wpAny (model prog w) A (Builtin.Slice.sliceApplied (.ref sl) (pure (n:Int))) Q E s:=by
 obtain⟨os,hos,hcs,hds⟩:=id hs
 unfold Builtin.Slice.sliceApplied Builtin.Slice.sliceFields
 refine zC (zC (vT hos hds (x:=vl) rfl (zC (vT hos hds (x:=vu) rfl (zC (vT hos hds (x:= .none) rfl (zI ?_)))))))
 refine zC (slicePart_none ?_)
 show wpAny _ _ (if((1:Int)==0)=true then _ else _) _ _ s
 rw[if_neg (by decide)]
 refine zC (Ji pl (zC (Ji pu (zC (zI ?_)))))
 show wpAny _ _ (match Builtin.Slice.sliceAdjust lo hi 1 (n:Int)with | (lo,hi)=>pure (lo,(1:Int),Builtin.Slice.slicePlaces lo hi 1)) _ _ s
 rw[Vc lo hi n]
 show wpAny _ _ (pure (((bf n 0 lo:Nat):Int),(1:Int),Builtin.Slice.slicePlaces ((bf n 0 lo:Nat):Int) ((bf n n hi:Nat):Int) 1)) _ _ s
 rw[T9]
 exact zI h
theorem aaA(xs:Array Value)(i k:Nat):((List.range k).filterMap λ(m:Nat)=>xs[((i:Int)+(m:Int)*1).toNat]?).toArray=((xs.toList.drop i).take k).toArray:=by
 have e:(λ(m:Nat)=>xs[((i:Int)+(m:Int)*1).toNat]?)=λm=>xs[i+m]? := by
  funext m
  have:((i:Int)+(m:Int)*1).toNat=i+m:=()
  rw[this]
 rw[e]
 have:=pick_run xs i k
 rw[List.filterMap_map]at this
 have e2:((λx=>xs[x]?)∘λx=>i+x)=λm=>xs[i+m]? := rfl
 rw[e2]at this
 rw[this]
theorem Ey{items:Array Value}{lo hi:Option Int}{Q:Value->Shared->Prop}(ht:IsTup s.heap t items)(hs:s.heap.IsSliceOf sl vl vu .none)(pl:IsPart vl lo)(pu:IsPart vu hi)
  (hw:¬(bf items.size 0 lo=0/\bf items.size items.size hi=items.size))
  (h:Q (.ref s.heap.objs.size) {s with heap:=s.heap.push {cls:= .type "tuple",data:= .seq ((items.toList.drop (bf items.size 0 lo)).take (bf items.size items.size hi - bf items.size 0 lo)).toArray}})
  (hsz:items.size<=sizeLine):wpAny (model prog w) A (getItem (.ref t) (.ref sl)) Q E s:=by
 have Ww:sizeOk (.seq ((items.toList.drop (bf items.size 0 lo)).take (bf items.size items.size hi - bf items.size 0 lo)).toArray):=by
  show((items.toList.drop (bf items.size 0 lo)).take (bf items.size items.size hi - bf items.size 0 lo)).toArray.size<=sizeLine
  rw[List.size_toArray,List.length_take,List.length_drop,Array.length_toList]
  omega
 have hj:bf items.size items.size hi<=items.size:=afA _ _ (zac _) hi
 obtain⟨os,hos,hcs,hds⟩:=id hs
 have hTs:s.TypeIs (.ref sl) "slice" := ⟨os,hos,hcs⟩
 unfold getItem
 try with_reducible refine wpAny_holding ?_
 first | refine zC (zI ?_) | skip
 refine zC (wpAny_sequenceKey ht.typeIs (by decide) ?_)
 refine zC (zai (name:=Str.ofString "__getitem__") ht.typeIs PyProof.Rows.slot_tuple_getitem
  (jI PyProof.Rows.slot_tuple_getitem ht.typeIs entry_tuple_getitem ?_ (args_tuple_getitem _ _)))
 show wpAny _ _ (Builtin.Tuple.tupleItemsOf (.ref t) >>= _) _ _ s
 refine zC (tupleItemsOf_ ht ?_)
 refine zC (wpAny_typeOf hTs ?_)
 rw[if_pos (by decide)]
 refine zC (vh hs pl pu ?_)
 have hno:¬((((bf items.size 0 lo:Nat):Int)==0&&(1:Int)==1&&(bf items.size items.size hi - bf items.size 0 lo)==items.size)=true):=by
  intro q
  rw[Bool.and_eq_true,Bool.and_eq_true]at q
  have q1:((bf items.size 0 lo:Nat):Int)=0:=eq_of_beq q.1.1
  have q2:bf items.size items.size hi - bf items.size 0 lo=items.size:=eq_of_beq q.2
  exact hw ⟨(),()⟩
 show wpAny _ _ (if(((bf items.size 0 lo:Nat):Int)==0&&(1:Int)==1&&(bf items.size items.size hi - bf items.size 0 lo)==items.size)=true then _ else _) _ _ s
 rw[if_neg hno,aaA]
 first
  | exact zC (m:=Builtin.Tuple.tupleExact _) (wT (zI ⟨_,rfl,zI h⟩) Ww)
  | exact zC (m:=Builtin.Tuple.tupleExact _) (wT (zC (zI (zI ⟨_,rfl,zI h⟩))) Ww)
  | exact zC (zC (m:=Builtin.Tuple.tupleExact _) (wT (zI (zI ⟨_,rfl,zI h⟩)) Ww))
  | exact zC (zC (m:=Builtin.Tuple.tupleExact _) (wT (zI ⟨_,rfl,zI h⟩) Ww))
end
end HT
namespace L2
open PySem PySem.Spec PyProof.Rows
abbrev TO:=St->Hp->(Option Int->Hp->Prop)->Prop
def PO(X:Cx)(e:Option Expr)(t:TO):Prop:=
 ∀(pins:List (Addr×Obj)) (s:Shared) (σ:St) (H:Hp) (Q:Option Int->Hp->Prop),Inv X pins σ H s->t σ H Q->
  wpAny (model X.prog X.w) X.A (evalPart e X.env) (λu s'=>∃o H',Inv X pins σ H' s'/\IsPart u o/\Q o H') X.xe s
def acg:TO:=λ_ H Q=>Q none H
def aiE(t:TE):TO:=λσ H Q=>t σ H λx H1=>∃i,x= .int i/\Q (some i) H1
theorem intsAre_of:∀{us:List Value},Vals (ns.map V.int) us->IntsAre us ns:=by
 induction ns with
 | nil=>intro us r;rw[List.map_nil]at r;cases r;exact .nil
 | cons n ns ih=>
  intro us r
  rw[List.map_cons]at r
  cases r with
  | cons r1 r2=>
   obtain⟨t,e⟩:=r1
   subst e
   exact .cons n t (ih r2)
section
variable{X:Cx}{e:Expr}{te:TE}{lo hi:Option Expr}{tl th:TO}{pos p2:Pos}
theorem acZ:PO X none acg:=by
 intro pins s σ H Q I h
 rw[evalPart_none]
 exact zI ⟨none,H,I,.none,h⟩
theorem acY(h:PE X e te):PO X (some e) (aiE te):=by
 intro pins s σ H Q I hw
 rw[evalPart_some]
 refine gj (h pins s σ H _ I hw) ?_
 rintro u s1 ⟨x,H1,I1,r1,q1⟩
 obtain⟨i,rfl,q⟩:=q1
 obtain⟨t,rfl⟩:=r1
 exact⟨some i,H1,I1,.int i t,q⟩
def SlR(X:Cx)(r:V->Option Int->Option Int->Hp->VK->Prop):Prop:=
 ∀(pins:List (Addr×Obj)) (s:Shared) (σ:St) (H:Hp) (x:V) (v vl vu:Value) (lo hi:Option Int) (sl:Addr) (Q:VK),Inv X pins σ H s->RelV x v->s.heap.IsSliceOf sl vl vu .none->IsPart vl lo->IsPart vu hi->r x lo hi H Q->
  ∃T id,typeLookup (.type T) "__getitem__" = pure (some (.builtin id))/\s.TypeIs v T/\wpAny (model X.prog X.w) X.A (getItem v (.ref sl)) (EP X pins σ Q) X.xe s
theorem SlR.or{r r':V->Option Int->Option Int->Hp->VK->Prop}(h:SlR X r)(h':SlR X r'):SlR X (λx lo hi H Q=>r x lo hi H Q\/r' x lo hi H Q):=by
 intro pins s σ H x v vl vu lo hi sl Q I rx hs pl pu q
 rcases q with q | q
 ·exact h pins s σ H x v vl vu lo hi sl Q I rx hs pl pu q
 ·exact h' pins s σ H x v vl vu lo hi sl Q I rx hs pl pu q
def tSl(r:V->Option Int->Option Int->Hp->VK->Prop)(te:TE)(tl th:TO):TE:=λσ H Q=>te σ H λx H1=>tl σ H1 λl H2=>th σ H2 λu H3=>r x l u H3 Q
theorem Rc{r:V->Option Int->Option Int->Hp->VK->Prop}(hr:SlR X r)(he:PE X e te)(hl:PO X lo tl)(hu:PO X hi th):PE X (.Subscript e (.Slice lo hi none p2) pos) (tSl r te tl th):=by
 intro pins s σ H Q I h
 refine Subscript_ (gj (he pins s σ H _ I h) ?_)
 rintro v s1 ⟨x,H1,I1,r1,q1⟩
 refine wpAny_Slice (gj (hl pins s1 σ H1 _ I1 q1) ?_)
 rintro vl s2 ⟨l,H2,I2,pl,q2⟩
 refine gj (hu pins s2 σ H2 _ I2 q2) ?_
 rintro vu s3 ⟨u,H3,I3,pu,q3⟩
 rw[evalPart_none]
 refine zI ?_
 have I4:Inv X pins σ H3 {s3 with heap:=s3.heap.push {cls:= .type "slice",data:= .fields #[vl,vu,.none]}}:=I3.kept (t':=s3.toks) λb ob q=>zD _ q
 obtain⟨T,id,hT,ht,hg⟩:=hr pins {s3 with heap:=s3.heap.push {cls:= .type "slice",data:= .fields #[vl,vu,.none]}} σ H3 x v vl vu l u s3.heap.objs.size Q I4 r1 (Heap.IsSliceOf.new ..) pl pu q3
 show wpAny (model X.prog X.w) X.A (subscriptTail e (.Slice lo hi none p2) v (.ref s3.heap.objs.size)) (EP X pins σ Q) X.xe {s3 with heap:=s3.heap.push {cls:= .type "slice",data:= .fields #[vl,vu,.none]}}
 exact tail_any (ops:=[.ref s3.heap.objs.size,v]) ht hT hg (by with_unfolding_all rfl)
def R9(xs:List V)(lo hi:Option Int):List V:=(xs.drop (HT.bf xs.length 0 lo)).take (HT.bf xs.length xs.length hi - HT.bf xs.length 0 lo)
theorem G_(xs:List V)(lo hi:Option Int):(R9 xs lo hi).length<=xs.length:=by
 unfold R9
 rw[List.length_take,List.length_drop]
 omega
def amy(K:Frag):V->Option Int->Option Int->Hp->VK->Prop:=λx lo hi H Q=>∃a xs,x= .ref a/\lY K H a xs/\
 ¬(HT.bf xs.length 0 lo=0/\HT.bf xs.length xs.length hi=xs.length)/\∀p,H p=none->Q (.ref p) (upd H p (.tup (R9 xs lo hi)))
theorem ZW:SlR X (amy X.K):=by
 intro pins s σ H x v vl vu lo hi sl Q I rx hs pl pu h
 obtain⟨a,xs,rfl,hx,hw,q⟩:=h
 cases rx
 obtain⟨its,r,ht,hz⟩:=I.tuple hx
 have hlen:its.toArray.size=xs.length:=by rw[List.size_toArray];exact r.length.symm
 refine⟨"tuple",_,PyProof.Rows.slot_tuple_getitem.lookup,ht.typeIs,?_⟩
 refine HT.Ey ht hs pl pu (by rw[hlen];exact hw) ?_ (by rw[hlen];exact hz)
 rw[hlen]
 refine⟨.ref s.heap.objs.size,_,I.laid (t':=s.toks) (o:= .tup (R9 xs lo hi)) (λb ob q=>zD _ q) (zac _) ?_,rfl,q _ (I.hok.fresh (zac _))⟩
 exact⟨yY (G_ xs lo hi) hz,_,(r.drop (HT.bf xs.length 0 lo)).take (HT.bf xs.length xs.length hi - HT.bf xs.length 0 lo),IsTup.new _ _⟩
def amD(K:Frag):R2:=λx y H Q=>∃a b ns ms,x= .ref a/\y= .ref b/\lY K H a (ns.map V.int)/\lY K H b (ms.map V.int)/\Q (.bl (HT.lexLt ns ms)) H
theorem agl(hu:X.A.units<cLine):tE X (compareOp .Lt) (amD X.K):=by
 intro pins s σ H x y v u Q I rx ry h
 obtain⟨a,b,ns,ms,rfl,rfl,ha,hb,q⟩:=h
 cases rx
 cases ry
 obtain⟨its,r1,p1,_⟩:=I.tuple ha
 obtain⟨its2,r2,p2,_⟩:=I.tuple hb
 have i1:IntsAre its.toArray.toList ns:=intsAre_of r1
 have i2:IntsAre its2.toArray.toList ms:=intsAre_of r2
 exact HT.Up p1 p2 i1 i2 hu ⟨.bl (HT.lexLt ns ms),H,I,rfl,q⟩
def ajh(K:Frag):R2:=λx y H Q=>∃a b xs ys,x= .ref a/\y= .ref b/\lY K H a xs/\lY K H b ys/\xs≠[]/\xs.length+ys.length<=sizeLine/\
 (ys=[]->Q (.ref a) H)/\(ys≠[]->∀p,H p=none->Q (.ref p) (upd H p (.tup (xs++ys))))
theorem Vals.Oe(r:Vals xs us):us=[]↔xs=[]:=by
 cases r with
 | nil=>simp
 | cons _ _=>simp
theorem ac8:tE X (binaryOp .Add) (ajh X.K):=by
 intro pins s σ H x y v u Q I rx ry h
 obtain⟨a,b,xs,ys,rfl,rfl,ha,hb,hx,hz,q1,q2⟩:=h
 cases rx
 cases ry
 obtain⟨its,r1,p1,_⟩:=I.tuple ha
 obtain⟨its2,r2,p2,_⟩:=I.tuple hb
 refine HT.ad0 p1 p2 (λz=>hx (r1.Oe.mp z)) (λz=>⟨.ref a,H,I,rfl,q1 (r2.Oe.mp z)⟩) (λz=> ?_) (by rw[<-r1.length,<-r2.length];exact hz)
 refine⟨.ref s.heap.objs.size,_,I.laid (t':=s.toks) (o:= .tup (xs++ys)) (λb ob q=>zD _ q) (zac _) ?_,rfl,q2 (λw=>z (r2.Oe.mpr w)) _ (I.hok.fresh (zac _))⟩
 exact⟨by rw[List.length_append];exact hz,_,r1.append r2,IsTup.new _ _⟩
end
def ixN(n:Nat)(i:Int):Option Nat:=if 0<=i then(if i<n then some i.toNat else none)else if -(n:Int)<=i then some (i+n).toNat else none
def Le{α:Type}(xs:List α)(i:Int):Option α:=(ixN xs.length i).bind λj=>xs[j]?
theorem adE(h:ixN n i=some j):seqIndex? i n=some j/\j<n/\ -(n:Int)<=i/\i<n:=by
 unfold ixN at h
 by_cases h0:0<=i
 ·rw[if_pos h0]at h
  by_cases h1:i<n
  ·rw[if_pos h1]at h
   have e:i.toNat=j:=xI h
   exact⟨by rw[seqIndex_of h0 h1,e],(),(),h1⟩
  ·rw[if_neg h1]at h;cases h
 ·rw[if_neg h0]at h
  by_cases h1: -(n:Int)<=i
  ·rw[if_pos h1]at h
   have e:(i+n).toNat=j:=xI h
   exact⟨by rw[seqIndex_neg () h1,e],(),h1,()⟩
  ·rw[if_neg h1]at h;cases h
theorem P0{α:Type}{xs:List α}{i:Int}{v:α}(h:Le xs i=some v):∃j,seqIndex? i xs.length=some j/\xs[j]? = some v/\j<xs.length/\ -(xs.length:Int)<=i/\i<xs.length:=by
 unfold Le at h
 cases e:ixN xs.length i with
 | none=>rw[e]at h;cases h
 | some j=>
  rw[e]at h
  obtain⟨h1,h2,h3,h4⟩:=adE e
  exact⟨j,h1,h,h2,h3,h4⟩
def Qc(b:Expr):Prop:=∀o i,subscripted b false o i=operate [o,i] (getItem o i)
def IxR(X:Cx)(r:R2):Prop:=
 ∀(value slice:Expr) (pins:List (Addr×Obj)) (s:Shared) (σ:St) (H:Hp) (x y:V) (v u:Value) (Q:VK),Inv X pins σ H s->RelV x v->RelV y u->r x y H Q->
  subscripted slice false v u=operate [v,u] (getItem v u)->wpAny (model X.prog X.w) X.A (subscriptTail value slice v u) (EP X pins σ Q) X.xe s
def MtR(X:Cx)(id:String)(r:V->List V->Hp->VK->Prop):Prop:=
 ∀(pins:List (Addr×Obj)) (s:Shared) (σ:St) (H:Hp) (x:V) (xs:List V) (v:Value) (us:List Value) (Q:VK),Inv X pins σ H s->RelV x v->Vals xs us->r x xs H Q->
  wpAny (model X.prog X.w) X.A (call (.builtin id) (v::us)) (EP X pins σ Q) X.xe s
section
variable{X:Cx}{a b:Expr}{ta tb:TE}{pos:Pos}
theorem IxR.or(h:IxR X r)(h':IxR X r'):IxR X (λx y H Q=>r x y H Q\/r' x y H Q):=by
 intro value slice pins s σ H x y v u Q I rx ry q hs
 rcases q with q | q
 ·exact h value slice pins s σ H x y v u Q I rx ry q hs
 ·exact h' value slice pins s σ H x y v u Q I rx ry q hs
theorem aeB(hr:IxR X r)(ha:PE X a ta)(hb:PE X b tb)(hs:Qc b):PE X (.Subscript a b pos) (tOp r ta tb):=by
 intro pins s σ H Q I h
 exact Subscript_ (ahH ha hb I h λv u s2 x y H2 I2 rx ry q=>hr a b pins s2 σ H2 x y v u Q I2 rx ry q (hs _ _))
def ajg(K:Frag):R2:=λx y H Q=>∃p xs i v,x= .ref p/\y= .int i/\qO K H p xs/\Le xs i=some v/\Q v H
def aje(K:Frag):R2:=λx y H Q=>∃p xs i v,x= .ref p/\y= .int i/\lY K H p xs/\Le xs i=some v/\Q v H
def ajf:R2:=λx y H Q=>∃z i c,x= .str z/\y= .int i/\z.length<=sizeLine/\Le z.cps.toList i=some c/\Q (.str ⟨#[c]⟩) H
theorem adD:IxR X (ajg X.K):=by
 intro value slice pins s σ H x y v u Q I rx ry h hs
 obtain⟨p,xs,i,z,rfl,rfl,hq,he,q⟩:=h
 cases rx
 obtain⟨t,rfl⟩:=ry
 obtain⟨its,r,pl,hz⟩:=I.list hq
 obtain⟨j,h1,h2,h3,h4,h5⟩:=P0 he
 obtain⟨w,ew,rw'⟩:=r.get h2
 have hl:=r.length
 have hn:=JS
 have fin:EP X pins σ Q w s:=⟨z,H,I,rw',q⟩
 by_cases h0:0<=i
 ·have hj:i.toNat=j:=by
   rw[seqIndex_of h0 h5]at h1
   exact xI h1
  exact item_listR pl.isList h0 () (by rw[hj];simpa using ew) fin hs
 ·have hj:(i+(its.toArray.size:Int)).toNat=j:=by
   rw[seqIndex_neg () h4]at h1
   rw[List.size_toArray,<-hl]
   exact xI h1
  exact subscriptTail_builtinR (x:=w) pl.isList.typeIs slot_list_getitem.lookup
   (wpAny_getItem_list_neg (Q:=λr s'=>r=w/\EP X pins σ Q r s') pl.isList () (by rw[List.size_toArray]<;>omega) () (by rw[hj];simpa using ew) ⟨rfl,fin⟩) hs
theorem agQ:IxR X (aje X.K):=by
 intro value slice pins s σ H x y v u Q I rx ry h hs
 obtain⟨p,xs,i,z,rfl,rfl,hq,he,q⟩:=h
 cases rx
 obtain⟨t,rfl⟩:=ry
 obtain⟨its,r,pl,hz⟩:=I.tuple hq
 obtain⟨j,h1,h2,h3,h4,h5⟩:=P0 he
 obtain⟨w,ew,rw'⟩:=r.get h2
 have hl:=r.length
 have hn:=JS
 have fin:EP X pins σ Q w s:=⟨z,H,I,rw',q⟩
 exact subscriptTail_builtinR (x:=w) pl.typeIs slot_tuple_getitem.lookup
  (getItem_tuple (j:=j) (Q:=λr s'=>r=w/\EP X pins σ Q r s') pl () () (by rw[List.size_toArray,<-hl];exact h1) (by simpa using ew) ⟨rfl,fin⟩) hs
theorem agR:IxR X ajf:=by
 intro value slice pins s σ H x y v u Q I rx ry h hs
 obtain⟨z,i,c,rfl,rfl,hz,he,q⟩:=h
 obtain⟨t,rfl⟩:=rx
 obtain⟨t',rfl⟩:=ry
 obtain⟨j,h1,h2,h3,h4,h5⟩:=P0 he
 have hl:z.cps.toList.length=z.length:=by simp[Str.length]
 rw[hl]at h1 h4 h5
 have hn:=JS
 exact tail_any (typeIs_str s z t) slot_str_getitem.lookup (getItem_str (c:=c) (by
  have e1:decide (i< -(2 ^ 63:Int))=false:=zag ()
  have e2:decide (i>=2 ^ 63)=false:=zag ()
  rw[e1,e2,Bool.or_false]) (by rw[h1];simpa using h2) ⟨.str ⟨#[c]⟩,H,I.tok _,⟨_,rfl⟩,q⟩) hs
theorem Nr(lo hi:Option Int)(n:Nat):(sliceBounds lo hi none n).1=((HT.bf n 0 lo:Nat):Int)/\(sliceBounds lo hi none n).2.1=((HT.bf n n hi:Nat):Int)/\(sliceBounds lo hi none n).2.2=1:=by
 refine⟨?_,?_,rfl⟩
 ·cases lo with
  | none=>simp[sliceBounds,HT.bf]
  | some i=>
   simp only[sliceBounds,HT.bf,Option.getD_none,show(1:Int) > 0 by decide,if_true]
   by_cases h:i<0
   ·simp only[h,if_true]<;>omega
   ·simp only[h,if_false]<;>omega
 ·cases hi with
  | none=>simp[sliceBounds,HT.bf]
  | some i=>
   simp only[sliceBounds,HT.bf,Option.getD_none,show(1:Int) > 0 by decide,if_true]
   by_cases h:i<0
   ·simp only[h,if_true]<;>omega
   ·simp only[h,if_false]<;>omega
theorem KJ(its:List Value)(lo hi:Option Int):slicePick its.toArray lo hi none=((its.drop (HT.bf its.length 0 lo)).take (HT.bf its.length its.length hi - HT.bf its.length 0 lo)).toArray:=by
 obtain⟨h1,h2,h3⟩:=Nr lo hi its.toArray.size
 unfold slicePick
 rw[h1,h2,h3]
 simp only[sliceRange_one,pick_run,List.size_toArray]<;>rfl
def amA(K:Frag):V->Option Int->Option Int->Hp->VK->Prop:=λx lo hi H Q=>∃a xs,x= .ref a/\qO K H a xs/\∀p,H p=none->Q (.ref p) (upd H p (.lst (R9 xs lo hi)))
theorem acp:SlR X (amA X.K):=by
 intro pins s σ H x v vl vu lo hi sl Q I rx hs pl pu h
 obtain⟨a,xs,rfl,hx,q⟩:=h
 cases rx
 obtain⟨its,r,ht,hz⟩:=I.list hx
 have hlen:=r.length
 refine⟨"list",_,slot_list_getitem.lookup,ht.isList.typeIs,?_⟩
 refine wpAny_getItem_list_slice ht.isList hs pl pu .none (by simp) ?_ (by rw[List.size_toArray]<;>omega)
 rw[KJ,<-hlen]
 refine⟨.ref s.heap.objs.size,_,I.laid (t':=s.toks) (o:= .lst (R9 xs lo hi)) (λb ob q=>zD _ q) (zac _) ?_,rfl,q _ (I.hok.fresh (zac _))⟩
 exact⟨yY (G_ xs lo hi) hz,_,0,(r.drop (HT.bf xs.length 0 lo)).take (HT.bf xs.length xs.length hi - HT.bf xs.length 0 lo),yB _ rfl⟩
noncomputable def Cr:V->Bool
 | .non=>true
 | .bl _=>true
 | .int _=>true
 | .str _=>true
 | _=>false
noncomputable def eqV:V->V->Bool
 | .non,.non=>true
 | .bl a,.bl b=>a==b
 | .bl a,.int b=>(if a then 1 else 0)==b
 | .int a,.bl b=>a==(if b then 1 else 0)
 | .int a,.int b=>a==b
 | .str a,.str b=>a==b
 | _,_=>false
theorem ahh(ry:RelV y u)(rx:RelV x v)(fy:Cr y=true)(fx:Cr x=true):SeqAt.EqAt A s u v (eqV y x):=by
 cases y with
 | non=>
  cases ry
  cases x with
  | non=>cases rx;exact SeqAt.EqAt.same _
  | bl b=>cases rx;exact SeqAt.EqAt.none_bool b
  | int b=>obtain⟨t,rfl⟩:=rx;exact SeqAt.EqAt.none_int b t
  | str b=>obtain⟨t,rfl⟩:=rx;exact SeqAt.EqAt.none_str b t
  | _=>exact absurd (show false=true from fx) xA
 | bl a=>
  cases ry
  cases x with
  | non=>cases rx;exact SeqAt.EqAt.bool_none a
  | bl b=>cases rx;exact SeqAt.EqAt.bool_bool a b
  | int b=>obtain⟨t,rfl⟩:=rx;exact SeqAt.EqAt.bool_int a b t
  | str b=>obtain⟨t,rfl⟩:=rx;exact SeqAt.EqAt.bool_str a b t
  | _=>exact absurd (show false=true from fx) xA
 | int a=>
  obtain⟨t',rfl⟩:=ry
  cases x with
  | non=>cases rx;exact SeqAt.EqAt.int_none a t'
  | bl b=>cases rx;exact SeqAt.EqAt.int_bool a t' b
  | int b=>obtain⟨t,rfl⟩:=rx;exact SeqAt.EqAt.int_int a t' b t
  | str b=>obtain⟨t,rfl⟩:=rx;exact SeqAt.EqAt.int_str a t' b t
  | _=>exact absurd (show false=true from fx) xA
 | str a=>
  obtain⟨t',rfl⟩:=ry
  cases x with
  | non=>cases rx;exact SeqAt.EqAt.str_none a t'
  | bl b=>cases rx;exact SeqAt.EqAt.str_bool a t' b
  | int b=>obtain⟨t,rfl⟩:=rx;exact SeqAt.EqAt.str_int a t' b t
  | str b=>obtain⟨t,rfl⟩:=rx;exact SeqAt.EqAt.str_str a t' b t
  | _=>exact absurd (show false=true from fx) xA
 | _=>exact absurd (show false=true from fy) xA
def UW(x:V)(u:Value):Bool:=match u with
 | .none=>eqV .non x
 | .bool b=>eqV (.bl b) x
 | .int i _=>eqV (.int i) x
 | .str z _=>eqV (.str z) x
 | _=>false
theorem abA(r:RelV y u)(f:Cr y=true):UW x u=eqV y x:=by
 cases y with
 | non=>cases r;rfl
 | bl b=>cases r;rfl
 | int i=>obtain⟨t,rfl⟩:=r;rfl
 | str z=>obtain⟨t,rfl⟩:=r;rfl
 | _=>exact absurd (show false=true from f) xA
theorem Fo:∀{xs:List V} {us:List Value},Vals xs us->xs.all Cr=true->us.any (UW x)=xs.any λy=>eqV y x
 | _,_,.nil,_=>rfl
 | y::xs,u::us,.cons r t,f=>by
  rw[List.all_cons,Bool.and_eq_true]at f
  rw[List.any_cons,List.any_cons,abA r f.1,Fo t f.2]
theorem zV(rx:RelV x v)(fx:Cr x=true):∀{xs:List V} {us:List Value},Vals xs us->xs.all Cr=true->∀u∈us,SeqAt.EqAt A s u v (UW x u)
 | _,_,.nil,_=>λu hu=>by cases hu
 | y::xs,u::us,.cons r t,f=>λu' hu=>by
  rw[List.all_cons,Bool.and_eq_true]at f
  rcases List.mem_cons.mp hu with rfl | hu
  ·rw[abA r f.1];exact ahh r rx f.1 fx
  ·exact zV rx fx t f.2 u' hu
def inV(x:V)(xs:List V):Bool:=xs.any λy=>eqV y x
def rIn(K:Frag)(neg:Bool):R2:=λx y H Q=>∃p xs,y= .ref p/\(qO K H p xs\/lY K H p xs)/\Cr x=true/\xs.all Cr=true/\Q (.bl (if neg then !inV x xs else inV x xs)) H
theorem XS:tE X (compareOp .In) (rIn X.K false):=by
 intro pins s σ H x y v u Q I rx ry h
 obtain⟨p,xs,rfl,hq,fx,fs,q⟩:=h
 cases ry
 rcases hq with hq | hq
 ·obtain⟨its,r,pl,hz⟩:=I.list hq
  refine SeqAt.in_listAt (UW x) pl.isList (λw hw=>zV rx fx r fs w (by simpa using hw)) ⟨.bl _,H,I,rfl,?_⟩
  rw[show its.toArray.any (UW x)=its.any (UW x) by simp,Fo r fs]
  exact q
 ·obtain⟨its,r,pl,hz⟩:=I.tuple hq
  refine SeqAt.in_tupleAt (UW x) pl (λw hw=>zV rx fx r fs w (by simpa using hw)) ⟨.bl _,H,I,rfl,?_⟩
  rw[show its.toArray.any (UW x)=its.any (UW x) by simp,Fo r fs]
  exact q
theorem N7:tE X (compareOp .NotIn) (rIn X.K true):=by
 intro pins s σ H x y v u Q I rx ry h
 obtain⟨p,xs,rfl,hq,fx,fs,q⟩:=h
 cases ry
 rcases hq with hq | hq
 ·obtain⟨its,r,pl,hz⟩:=I.list hq
  refine SeqAt.notIn_listAt (UW x) pl.isList (λw hw=>zV rx fx r fs w (by simpa using hw)) ⟨.bl _,H,I,rfl,?_⟩
  rw[show its.toArray.any (UW x)=its.any (UW x) by simp,Fo r fs]
  exact q
 ·obtain⟨its,r,pl,hz⟩:=I.tuple hq
  refine SeqAt.notIn_tupleAt (UW x) pl (λw hw=>zV rx fx r fs w (by simpa using hw)) ⟨.bl _,H,I,rfl,?_⟩
  rw[show its.toArray.any (UW x)=its.any (UW x) by simp,Fo r fs]
  exact q
theorem Px:mV X (.builtin "len") (λxs H Q=>∃p ys,xs=[.ref p]/\(qO X.K H p ys\/lY X.K H p ys)/\Q (.int ys.length) H):=by
 intro pins s σ H xs us Q I r h
 obtain⟨p,ys,rfl,hq,q⟩:=h
 obtain⟨u,rfl,rx⟩:=vals1 r
 cases rx
 have hn:=JS
 rcases hq with hq | hq
 ·obtain⟨its,r',pl,hz⟩:=I.list hq
  have hlen:=r'.length
  exact Calls.call_len_list pl.isList (by simp only[List.size_toArray]<;>omega) ⟨.int ys.length,H,I.tok _,⟨s.toks+1,by rw[List.size_toArray,hlen]⟩,q⟩
 ·obtain⟨its,r',pl,hz⟩:=I.tuple hq
  have hlen:=r'.length
  exact len_tuple pl (by simp only[List.size_toArray]<;>omega) ⟨.int ys.length,H,I.tok _,⟨s.toks+1,by rw[List.size_toArray,hlen]⟩,q⟩
theorem Pu:mV X (.builtin "len") (λxs H Q=>∃z,xs=[.str z]/\z.length<=sizeLine/\Q (.int z.length) H):=by
 intro pins s σ H xs us Q I r h
 obtain⟨z,rfl,hz,q⟩:=h
 obtain⟨u,rfl,t,rfl⟩:=vals1 r
 have hn:=JS
 exact len_str () ⟨.int z.length,H,I.tok _,⟨_,rfl⟩,q⟩
theorem mV.or{r r':List V->Hp->VK->Prop}(h:mV X f r)(h':mV X f r'):mV X f (λxs H Q=>r xs H Q\/r' xs H Q):=by
 intro pins s σ H xs us Q I rs q
 rcases q with q | q
 ·exact h pins s σ H xs us Q I rs q
 ·exact h' pins s σ H xs us Q I rs q
theorem Pr:mV X (.type "list") (λxs H Q=>∃p ys,xs=[.ref p]/\(qO X.K H p ys\/lY X.K H p ys)/\∀l,H l=none->Q (.ref l) (upd H l (.lst ys))):=by
 intro pins s σ H xs us Q I r h
 obtain⟨p,ys,rfl,hq,q⟩:=h
 obtain⟨u,rfl,rx⟩:=vals1 r
 cases rx
 have fin:∀(its:List Value),Vals ys its->ys.length<=sizeLine->∀(h':Heap) (c':Nat),(∀b o',s.heap.get? b=some o'->h'.get? b=some o')->
   h'.get? s.heap.objs.size=some {cls:= .type "list",dict:=none,data:= .seq its.toArray c',slots:= #[]}->EP X pins σ Q (.ref s.heap.objs.size) {s with heap:=h'}:=λits r' hz h' c' kp e=>
  ⟨.ref s.heap.objs.size,_,I.laid (t':=s.toks) kp (zac _) (show cY X.prog X.w _ h' _ (.lst ys)from⟨hz,its,c',r',e⟩),rfl,q _ (I.hok.fresh (zac _))⟩
 rcases hq with hq | hq
 ·obtain⟨its,r',pl,hz⟩:=I.list hq
  have hlen:=r'.length
  obtain⟨o,ho,hc,n,hd⟩:=pl.isList
  exact call_list_seq p (.inl rfl) ho hc hd (λh' c' kp e=>fin its r' hz h' c' kp e) (by simp only[List.size_toArray]<;>omega)
 ·obtain⟨its,r',pl,hz⟩:=I.tuple hq
  have hlen:=r'.length
  obtain⟨o,ho,hc,n,hd⟩:=pl
  exact call_list_seq p (.inr rfl) ho hc hd (λh' c' kp e=>fin its r' hz h' c' kp e) (by simp only[List.size_toArray]<;>omega)
def tyV(K:Frag)(T:String)(x:V)(H:Hp):Prop:=match x with
 | .str _=>T= "str"
 | .int _=>T= "int"
 | .ref p=>(T= "list" /\ ∃xs,qO K H p xs)\/(T= "tuple" /\ ∃o,K.lookup p=some o/\o.cls= .type "tuple" /\ o.dict=none)\/
   (T= "dict" /\ ((∃kvs,H p=some (.dK kvs))\/∃kvs,H p=some (.dT kvs)))\/(T= "set" /\ ∃S n,H p=some (.set S n))
 | _=>False
theorem Zk(I:Inv X pins σ H s)(r:RelV x v)(ty:tyV X.K T x H):
  s.TypeIs v T/\∀a,v= .ref a->∃ob,s.heap.get? a=some ob/\ob.dict=none:=by
 cases x with
 | str z=>
  obtain⟨t,rfl⟩:=r
  cases(show T= "str" from ty)
  exact⟨typeIs_str s z t,λ_ e=>nomatch e⟩
 | int i=>
  obtain⟨t,rfl⟩:=r
  cases(show T= "int" from ty)
  exact⟨typeIs_int s i t,λ_ e=>nomatch e⟩
 | ref p=>
  cases r
  rcases ty with⟨rfl,xs,hq⟩ | ⟨rfl,o,hk,hc,hd⟩ | ⟨rfl,hk⟩ | ⟨rfl,S,n,hk⟩
  ·obtain⟨its,_,pl,_⟩:=I.list hq
   refine⟨pl.isList.typeIs,λa e=> ?_⟩
   cases e
   obtain⟨o,n,e,c,hd,_⟩:=pl
   exact⟨o,e,hd⟩
  ·refine⟨⟨o,I.G6 p o hk,hc⟩,λa e=> ?_⟩
   cases e
   exact⟨o,I.G6 _ o hk,hd⟩
  ·have z:∃o,s.heap.get? p=some o/\o.ExactDict:=by
    rcases hk with⟨kvs,hk⟩ | ⟨kvs,hk⟩
    ·obtain⟨_,_,_,_,o,_,_,e,ex,_⟩:=I.hok p _ hk
     exact⟨o,e,ex⟩
    ·obtain⟨_,_,_,_,o,_,_,e,ex,_⟩:=I.hok p _ hk
     exact⟨o,e,ex⟩
   obtain⟨o,e,ex⟩:=z
   refine⟨⟨o,e,ex.1⟩,λa e2=> ?_⟩
   cases e2
   exact⟨o,e,ex.2.1⟩
  ·obtain⟨o,_,_,_,e,ex,_⟩:=I.hok p _ hk
   refine⟨⟨o,e,ex.1⟩,λa e2=> ?_⟩
   cases e2
   exact⟨o,e,ex.2.1⟩
 | _=>exact False.elim ty
def amh(K:Frag)(T:String)(r:V->List V->Hp->VK->Prop)(to:TE):TE:=λσ H Q=>to σ H λx H1=>tyV K T x H1/\r x [] H1 Q
def tBM(K:Frag)(T:String)(r:V->List V->Hp->VK->Prop)(to:TE)(t:TA):TE:=λσ H Q=>to σ H λx H1=>tyV K T x H1/\t σ H1 λxs H2=>r x xs H2 Q
variable{o e:Expr}{es:List Expr}{to:TE}{t:TA}{name:Str}{apos cpos:Pos}{T id:String}{r:V->List V->Hp->VK->Prop}
theorem aaN(pa:PlainAttrs T)(slot:Slot T name id)(hty:typeOf (.builtin id)=pure (.type "method_descriptor"))(hm:MtR X id r)(ho:PE X o to)
  (hbase:attributeBase o name X.env (eval o X.env)=eval o X.env:=by rfl) (hline:(apos.endLine==cpos.line)=true:=by rfl):PE X (.Call (.Attribute o name apos) [] [] cpos) (amh X.K T r to):=by
 intro pins s σ H Q I h
 refine wpAny_Call_method0_late hbase hline (gj (ho pins s σ H _ I h) ?_)
 rintro v s1 ⟨x,H1,I1,r1,ty,q1⟩
 obtain⟨h1,h2⟩:=Zk I1 r1 ty
 exact⟨T,id,pa,slot,hty,h1,h2,Calls.callWith_builtin rfl (PySem.evalArgs_none (hm pins s1 σ H1 x [] v [] Q I1 r1 .nil q1))⟩
theorem ajq(pa:PlainAttrs T)(slot:Slot T name id)(hty:typeOf (.builtin id)=pure (.type "method_descriptor"))(hm:MtR X id r)(ho:PE X o to)(ha:PA X (e::es) t)
  (hbase:attributeBase o name X.env (eval o X.env)=eval o X.env:=by rfl)
  (hfew:((backTo cpos (starEach (e::es) X.env)).all (λx=> !x.1)&&(backToKw cpos (keywordEach [] X.env)).all (λx=>x.1.isSome)
   && decide ((e::es).length+([]:List Keyword).length+(if([]:List Keyword).isEmpty then 0 else 1)<30))=true:=by rfl)
  (hline:(apos.endLine==cpos.line)=true:=by rfl) (hs:starEach (e::es) X.env=(false,eval e X.env)::starEach es X.env:=by rfl) (hplain:(backTo cpos (starEach es X.env)).any (·.1)=false:=by rfl):
  PE X (.Call (.Attribute o name apos) (e::es) [] cpos) (tBM X.K T r to t):=by
 intro pins s σ H Q I h
 refine wpAny_Call_method_late hbase hfew hline rfl (gj (ho pins s σ H _ I h) ?_)
 rintro v s1 ⟨x,H1,I1,r1,ty,q1⟩
 obtain⟨h1,h2⟩:=Zk I1 r1 ty
 refine⟨T,id,pa,slot,hty,h1,h2,?_⟩
 have hA:=ha cpos pins s1 σ H1 _ I1 q1
 rw[hs]at hA ⊢
 refine Calls.callWith_builtin (by show(false||(backTo cpos (starEach es X.env)).any (·.1))=false;rw[hplain]<;>rfl) (Calls.evalArgs_plain ?_)
 exact gj hA λus s2 ⟨vs,H2,I2,r2,q2⟩=>hm pins s2 σ H2 x vs v us Q I2 r1 r2 q2
end
def MtM(X:Cx)(id:String)(r:V->List V->Hp->VK->Prop):Prop:=
 ∀(pins:List (Addr×Obj)) (s:Shared) (σ:St) (H:Hp) (x:V) (xs:List V) (v:Value) (us:List Value) (Q:VK),Inv X pins σ H s->RelV x v->Vals xs us->r x xs H Q->
  wpAny (model X.prog X.w) X.A (call (.builtin id) (v::us)) (EP X pins σ Q) X.xe s
theorem Vals.one:∀{x:V} {us:List Value},Vals [x] us->∃u,us=[u]/\RelV x u
 | _,_,.cons r .nil=>⟨_,rfl,r⟩
section
variable{X:Cx}{pins:List (Addr×Obj)}{σ:St}{H:Hp}{s:Shared}{l b:Addr}{xs ys zs:List V}
theorem Inv.ajU{its its':List Value}{n:Nat}{f:Array Value->Array Value}{t':Nat}(I:Inv X pins σ H s)(hH:H l=some (.lst xs))
  (e:s.heap.get? l=some {cls:= .type "list",data:= .seq its.toArray n}) (hf:f its.toArray=its'.toArray) (hv:Vals ys its') (hz:ys.length<=sizeLine):
  Inv X pins σ (upd H l (.lst ys)) {s with heap:=s.heap.update l (Obj.mapSeq f),toks:=t'}:=by
 have q:=PySem.IsL.update e f
 rw[hf]at q
 refine I.write (x:=l) (e:=l) (by rw[hH];exact trivial) (.inl rfl) (λb' u hb hu=>(xL s.heap (Obj.mapSeq f) (Ne.symm hb)).trans hu) ⟨_,q⟩ ?_
 exact⟨hz,its',_,hv,q⟩
theorem Inv.ajV(I:Inv X pins σ H s)(hv:Vals ys its)(hz:ys.length<=sizeLine):
  Inv X pins σ (upd H s.heap.objs.size (.lst ys)) {s with heap:=s.heap.push {cls:= .type "list",data:= .seq its.toArray},toks:=t'}:=
 I.laid (λ_ _ q=>zD _ q) (zac _) ⟨hz,its,0,hv,yB _ rfl⟩
theorem Inv.fresh(I:Inv X pins σ H s):H s.heap.objs.size=none:=I.hok.fresh (zac _)
theorem Inv.aa3(I:Inv X pins σ H s)(hH:H l=some (.lst xs)):xs.length<=sizeLine/\∃(its:List Value) (n:Nat),Vals xs its/\xs.length=its.length/\s.heap.get? l=some {cls:= .type "list",data:= .seq its.toArray n}:=by
 obtain⟨z,its,n,r,e⟩:=I.hok l _ hH
 exact⟨z,its,n,r,r.length,e⟩
theorem aaT(h:n<=sizeLine):Builtin.List.listTooLong n=false:=by
 unfold Builtin.List.listTooLong
 exact zag ()
end
section
variable{X:Cx}
def acL:V->List V->Hp->VK->Prop:=λx vs H Q=>∃l xs y,x= .ref l/\vs=[y]/\H l=some (.lst xs)/\xs.length<sizeLine/\Q .non (upd H l (.lst (xs++[y])))
theorem X7:MtM X "list.append" acL:=by
 intro pins s σ H x vs v us Q I rx rv h
 obtain⟨l,xs,y,rfl,rfl,hH,hz,q⟩:=h
 cases rx
 obtain⟨u,rfl,ru⟩:=rv.one
 obtain⟨z,its,n,r,hl,e⟩:=I.aa3 hH
 refine call_meets F.slot_list_append ⟨_,e,rfl⟩ F.entry_list_append (F.args_list_append_2 _ _) (PySem.list_append l its.toArray n u (by rw[List.size_toArray];omega)) ⟨e,?_⟩
 refine⟨.non,_,I.ajU (its':=its++[u]) hH e (by simp) (r.append (.cons ru .nil)) ?_,rfl,q⟩
 rw[List.length_append,List.length_singleton]
 omega
def acK:V->List V->Hp->VK->Prop:=λx vs H Q=>∃l b xs zs,x= .ref l/\vs=[.ref b]/\H l=some (.lst xs)/\H b=some (.lst zs)/\xs.length+zs.length<=sizeLine/\Q .non (upd H l (.lst (xs++zs)))
theorem ah4:MtM X "list.extend" acK:=by
 intro pins s σ H x vs v us Q I rx rv h
 obtain⟨l,b,xs,zs,rfl,rfl,hH,hB,hz,q⟩:=h
 cases rx
 obtain⟨u,rfl,ru⟩:=rv.one
 cases ru
 obtain⟨z,its,n,r,hl,e⟩:=I.aa3 hH
 obtain⟨z2,its2,n2,r2,hl2,e2⟩:=I.aa3 hB
 have hsz:its.toArray.size+its2.toArray.size<=sizeLine:=by rw[List.size_toArray,List.size_toArray];omega
 have aj5:¬(!its.toArray.isEmpty&&Builtin.List.listTooLong (its.toArray.size+its2.toArray.size))=true:=by
  rw[aaT hsz,Bool.and_false]
  exact xA
 refine call_meets F.slot_list_extend ⟨_,e,rfl⟩ F.entry_list_extend (F.args_list_extend_2 _ _)
  (AutoSeq1.list_extend_list_list_0 l its.toArray n b its2.toArray n2 aj5 (by rw[List.size_toArray];omega) ()) ⟨e,e2,?_⟩
 refine⟨.non,_,I.ajU (its':=its++its2) hH e (by simp) (r.append r2) ?_,rfl,q⟩
 rw[List.length_append]
 omega
def amG:R2:=λx y H Q=>∃l b xs zs,x= .ref l/\y= .ref b/\H l=some (.lst xs)/\H b=some (.lst zs)/\xs.length+zs.length<=sizeLine/\∀p,H p=none->Q (.ref p) (upd H p (.lst (xs++zs)))
theorem agq:tE X (binaryOp .Add) amG:=by
 intro pins s σ H x y v u Q I rx ry h
 obtain⟨l,b,xs,zs,rfl,rfl,hH,hB,hz,q⟩:=h
 cases rx
 cases ry
 obtain⟨z,its,n,r,hl,e⟩:=I.aa3 hH
 obtain⟨z2,its2,n2,r2,hl2,e2⟩:=I.aa3 hB
 refine PySem.P.add_list e e2 ?_ (by rw[List.size_toArray,List.size_toArray];omega)
 have ea:its.toArray++its2.toArray=(its++its2).toArray:=by simp
 rw[ea]
 exact⟨.ref _,_,I.ajV (t':=s.toks) (r.append r2) (by rw[List.length_append];omega),rfl,q _ I.fresh⟩
end
end L2
namespace Att
open PySem PySem.W PySem.Calls PyProof.Rows
theorem HX:∀(ns:List Int) (vs:List Value),WellAll P h vs (ns.map WData.int)->IntsAre vs ns:=by
 intro ns
 induction ns with
 | nil=>
  intro vs w
  rw[List.map_nil]at w
  cases w
  exact .nil
 | cons n ns ih=>
  intro vs w
  rw[List.map_cons]at w
  cases w with
  | cons a b=>
   cases a
   exact .cons _ _ (ih _ b)
theorem Xp{l:OpenLaw}{n:Nat}(hn:l.most=some n){P:Params}{h:Heap}{args:List WData}{vals:List Value}
  (hpre:l.row.toRowW.claim.pre args=true) (hwl:WellAll P h vals args):
  ∃a vs ns,vals=[Value.ref a]/\args=[WData.list (ns.map WData.int)]/\h.get? a=some {cls:= .type "list",data:= .seq vs.toArray}/\IntsAre vs ns/\ns.length<=n:=by
 have hsh:WShape.hasAll [] args [.list .int]=true:=(pre_splitW hpre).1
 have hc:l.pre.holds [] {args:=args}=true:=(pre_splitW hpre).2
 obtain⟨d,r,rfl,h1,h2⟩:=hasAllW_cons hsh
 obtain rfl:=hasAllW_nil h2
 obtain⟨xs,rfl,h3⟩:=hasW_list h1
 obtain⟨ns,rfl⟩:=items_int h3
 have hlen:ns.length<=n:=by
  unfold OpenLaw.pre at hc
  have h4:(WTm.not (.lt (.lit (.int (n:Int))) (.len (.arg 0)))).holds [] {args:=[.list (ns.map .int)]}=true:=by
   have h4:=(holds_andW hc).1
   rw[hn]at h4
   exact h4
  have h5:=condW_of h4 (w_not (w_lt w_lit (w_len_list (w_arg rfl))))
  rw[zao]at h5
  refine Nat.le_of_not_lt λq=> ?_
  have q':(n:Int)<((ns.length:Nat):Int):=()
  first
   | (rw[zah q']at h5;exact absurd h5 (by decide))
   | (simp at h5;omega)
 cases hwl with
 | cons w1 w2=>
  cases w2
  cases w1 with
  | list ho hall=>exact⟨_,_,ns,rfl,rfl,ho,HX ns _ hall,hlen⟩
theorem XC(l:OpenLaw)(args:List WData):l.row.toRowW.claim.post args (.bool true) args=true:=
 postW_of (r:=l.row.toRowW) (X:=(true==true))
  (show WShape.has [] (.bool true) .bool=true by first | rfl | decide | simp[WShape.has,WShape.arms,WShape.armsAll])
  (show(WTm.eq .res (.lit (.bool true))).value [] {args:=args,res:=some (.bool true),after:=args}=some (.bool (true==true))from w_eq_bool (w_res rfl) w_lit) rfl
theorem SJ{l:OpenLaw}{n:Nat}{q:Program}{loose:List Str}{XP:(Str->Option Value)->Heap->Prop}{YP:World->Heap->Prop}{d:DefRec}
  (hn:l.most=some n) (hdf:d.params.defaults=[])
  (call:∀(w:World) (s₀ s₁:Shared) (mg mb:Str->Option Value) (fa:Addr) (o:Obj) (pm cd doc:Value) (a:Addr) (vs:List Value) (ns:List Int),
   Ground q loose [] XP w s₀ mg mb s₁.heap->YP w s₁.heap->
   s₁.heap.get? fa=some o->o.data= .func (docDef d.name d.params d.body d.scope pm cd doc)->s₁.heap.CodeRec cd d.name->mg d.name=some (.ref fa)->
   s₁.heap.get? a=some {cls:= .type "list",data:= .seq vs.toArray}->IntsAre vs ns->ns.length<=n->s₁.gens= #[]->
   codeAny (model l.prog w) callerA (.call (.ref fa) ⟨[.ref a],[]⟩) (λr s'=>r= .ok (.ret (.bool true))/\OldK s₁.heap s'.heap/\s'.os=s₁.os/\AllBare s'.gens) s₁):
  WalkO q loose XP YP l.row.toRowW d [] (λf vs=>PySem.call f vs):=by
 intro w s₀ s₁ mg mb G Y fa o pm cd doc dV kV ho hd hcd hD hmg hg args vals as hpre hlay hrd hwl hlo
 obtain rfl:dV= .none:=Dflts.none hD hdf
 obtain rfl:kV= .none:=Dflts.noKw hD
 obtain⟨a,vs,ns,rfl,rfl,hobj,hints,hlen⟩:=Xp hn hpre hwl
 refine enter_call (codeAny_mono (call w s₀ s₁ mg mb fa o pm cd doc a vs ns G Y ho (fd_plain hd) hcd hmg hobj hints hlen hg) λr s' hq=> ?_)
 obtain⟨rfl,h2,h3,h4⟩:=hq
 exact⟨.inl ⟨.bool true,.bool true,[],rfl,λ_=>rfl,.bool true,XC l _,λ_=>⟨List.Pairwise.nil,λ_ hm=>(nomatch hm)⟩⟩,h2,h3,h4⟩
end Att
namespace L2
open PySem PySem.Spec PyProof.Rows
theorem Ft:∀{vs:List Value} {ns:List Int},IntsAre vs ns->Vals (ns.map V.int) vs
 | _,_,.nil=> .nil
 | _,_,.cons n t h=> .cons ⟨t,rfl⟩ (Ft h)
def Only(H:Hp):Prop:=∀b,H b=none\/∃o xs,H b=some (.lV o (.lst xs))
theorem aa8{P:Program}{w:World}{K:Frag}{mg mb:Str->Option Value}{CX:Vi}{k:Nat}{fa a:Addr}{fd:FuncData}{x:Str}{sp:Sp}{s₁:Shared}{vs:List Value}{ns:List Int}
  (KX:K.In s₁.heap) (hns:s₁.heap.Ns mainGlobals mg) (hb:s₁.heap.Ns builtinsNs mb) (hbb:∀x:Str,x≠ "__name__" -> mb x=bootBuiltins x) (hlim:s₁.heap.NoLimit) (hg:s₁.gens= #[])
  (ha:s₁.heap.get? a=some {cls:= .type "list",data:= .seq vs.toArray}) (hi:IntsAre vs ns) (hl:ns.length<=sizeLine) (hr:iw k callerA)
  (F:∀base:Heap,K.In base->base.Ns mainGlobals mg->gP P w K mg base CX k fa fd [x] sp) (hbind:∀(s:Shared) (u:Value),BindsTo s fd ⟨[u],[]⟩ [(x,u)])
  (hsp:∀H:Hp,Only H->qO K H a (ns.map V.int)->sp [.ref a] H (λv _=>v= .bl true) λ_ _ _=>False)
  (hCX:∀H e s',CX [] H s₁ (λ_ _ _=>False) e s'->False):
  codeAny (model P w) callerA (.call (.ref fa) ⟨[.ref a],[]⟩) (λr s'=>r= .ok (.ret (.bool true))/\OldK s₁.heap s'.heap/\s'.os=s₁.os/\AllBare s'.gens) s₁:=by
 have rv:=Ft hi
 have lenV:=hi.length
 have core:∀H:Hp,Only H->qO K H a (ns.map V.int)->ug P w H s₁.heap->(∀b,H b≠none->b=a)->(H a≠none->K.lookup a=none)->
   codeAny (model P w) callerA (.call (.ref fa) ⟨[.ref a],[]⟩) (λr s'=>r= .ok (.ret (.bool true))/\OldK s₁.heap s'.heap/\s'.os=s₁.os/\AllBare s'.gens) s₁:=by
  intro H hO hS hok hA hK
  have Xa:∀{b:Addr} {o:Obj},s₁.heap.get? b=some o->H b=none->(OJ s₁.heap H).get? b=some o:=λe n=>abj e n
  have noA:∀{b:Addr} {o:Obj} {es:Array DictEntry} {ep:Nat},s₁.heap.get? b=some o->o.data= .dict es ep->H b=none:=λ{b o es ep} e d=>by
   cases q:H b with
   | none=>rfl
   | some u=>
    have e':b=a:=hA b (by rw[q];simp)
    subst e'
    rw[ha]at e;cases e
    have d':Data.seq vs.toArray _=Data.dict es ep:=d
    cases d'
  have nsK:∀{b:Addr} {m:Str->Option Value},s₁.heap.Ns b m->(OJ s₁.heap H).Ns b m:=λ{b m} ⟨o,es,ep,e,d,r⟩=>⟨o,es,ep,Xa e (noA e d),d,r⟩
  have hKb:K.In (OJ s₁.heap H):=λb o e=>Xa (KX b o e) (by
   cases q:H b with
   | none=>rfl
   | some u=>
    have e':b=a:=hA b (by rw[q];simp)
    subst e'
    rw[hK (by rw[q];simp)]at e;cases e)
  have hM:Mod K mg (OJ s₁.heap H):=⟨hKb,nsK hns,⟨mb,nsK hb,hbb⟩,let⟨mc,h1,h2⟩:=hlim;⟨mc,nsK h1,h2⟩⟩
  have e0:Vg P w K mg (OJ s₁.heap H) callerA [] s₁ H:=⟨rfl,hM,λb o e=>adg e,Nat.le_of_eq (Yo _ _),trivial,λb hb=>absurd (show b∈([]:List Addr)from hb) (by simp),hok,.of_eq hg⟩
  refine codeAny_mono ((F _ hKb (nsK hns)).run callerA [] s₁ H ⟨[.ref a],[]⟩ [.ref a] [.ref a] _ _ hr e0 (hbind s₁ (.ref a)) (.cons rfl .nil) (hsp H hO hS)) λr s' h=> ?_
  cases r with
  | error e=>exact(hCX H e s' h).elim
  | ok fl=>
   cases fl with
   | next=>exact False.elim h
   | brk=>exact False.elim h
   | cont=>exact False.elim h
   | ret u=>
    obtain⟨v,H',os,bare,un,hok',r',q⟩:=h
    have q':v= .bl true:=q
    subst q'
    obtain rfl:u=Value.bool true:=r'
    refine⟨rfl,OldK.of_keep λb o e=> ?_,os,bare⟩
    cases q:H b with
    | none=>exact un.keep b o e q (by intro z;exact absurd (show b∈([]:List Addr)from z) (by simp)) (by simp)
    | some u=>
     rcases hO b with z | ⟨ob,xs,z⟩
     ·rw[q]at z;cases z
     ·have z2:=un.yt b ob _ z
      obtain⟨e1,_⟩:=hok b _ z
      obtain⟨e2,_⟩:=hok' b _ z2
      rw[e]at e1;cases e1
      exact e2
 cases hk:K.lookup a with
 | some o=>
  have e:=KX a o hk
  rw[ha]at e
  cases e
  refine core (λ_=>none) (λ_=> .inl rfl) (.inr ⟨_,vs.toArray,_,hk,rfl,rfl,rfl,by rw[List.size_toArray,lenV];exact hl,by simpa using rv⟩) (λb u z=>by have z':(none:Option HO)=some u:=z;cases z') (λb z=>absurd rfl z) λz=>absurd rfl z
 | none=>
  refine core (λb=>if b=a then some (.lV {cls:= .type "list",data:= .seq vs.toArray} (.lst (ns.map V.int)))else none) (λb=> ?_) (.inl (.inr ⟨{cls:= .type "list",data:= .seq vs.toArray},if_pos rfl⟩)) (λb u z=> ?_) (λb z=> ?_) λ_=>hk
  ·by_cases hb:b=a
   ·exact .inr ⟨_,_,if_pos hb⟩
   ·exact .inl (if_neg hb)
  ·by_cases hb:b=a
   ·have z':=(if_pos hb).symm.trans z
    cases z'
    subst hb
    exact⟨ha,by rw[zao];exact hl,vs,_,rv,ha⟩
   ·have z':=(if_neg hb).symm.trans z
    cases z'
  ·by_cases hb:b=a
   ·exact hb
   ·exact absurd (if_neg hb) z
abbrev KOf{K:Frag}{h:Heap}(_:K.In h):Frag:=K
theorem ab5{l:PySem.W.OpenLaw}{n k:Nat}{loose:List Str}{XP:(Str->Option Value)->Heap->Prop}{YP:World->Heap->Prop}{K:Params->Frag}{CX:World->Vi}{sp:World->Sp}{x:Str}
  (hn:l.most=some n) (hn2:n<=sizeLine) (hdf:d.params.defaults=[]) (hr:iw k callerA)
  (hY:∀(w:World) (h:Heap),YP w h->(K w.params).In h)
  (F:∀(w:World) (mg:Str->Option Value) (fa:Addr) (h:Heap),(K w.params).In h->h.Ns mainGlobals mg->mg d.name=some (.ref fa)->
   ∃fd:FuncData,(∀(s:Shared) (u:Value),BindsTo s fd ⟨[u],[]⟩ [(x,u)])/\
    ∀base:Heap,(K w.params).In base->base.Ns mainGlobals mg->gP l.prog w (K w.params) mg base (CX w) k fa fd [x] (sp w))
  (hsp:∀(w:World) (H:Hp) (a:Addr) (ns:List Int),ns.length<=n->Only H->qO (K w.params) H a (ns.map V.int)->sp w [.ref a] H (λv _=>v= .bl true) λ_ _ _=>False)
  (hCX:∀(w:World) (H:Hp) (s:Shared) (e:Value) (s':Shared),CX w [] H s (λ_ _ _=>False) e s'->False):
  PySem.W.WalkO q loose XP YP l.row.toRowW d [] (λf vs=>PySem.call f vs):=by
 refine Att.SJ hn hdf λw s₀ s₁ mg mb fa o pm cd doc a vs ns G Y ho hd hcd hmg hobj hints hlen hg=> ?_
 have KX:=hY w _ Y
 obtain⟨fd,hb,hF⟩:=F w mg fa _ KX G.T.g hmg
 exact aa8 KX G.T.g G.T.b G.T.builtins G.T.nolimit hg hobj hints (yY hlen hn2) hr hF hb (λH hO hS=>hsp w H a ns hlen hO hS) λH e s'=>hCX w H s₁ e s'
def inClass(s:Stmt)(j:Nat):Stmt:=match s with
 | .ClassDef _ _ _ body _ _ _ _ _ _ _=>body.getD j (.Pass ⟨0,0,0,0⟩)
 | _=> .Pass ⟨0,0,0,0⟩
def fZ(s:Stmt):Arguments:=match s with
 | .FunctionDef _ a _ _ _ _ _ _ _ _=>a
 | _=>{posonlyargs:=[],args:=[],vararg:=none,kwonlyargs:=[],kw_defaults:=[],kwarg:=none,defaults:=[]}
def cX(s:Stmt):List Stmt:=match s with
 | .FunctionDef _ _ b _ _ _ _ _ _ _=>b
 | _=>[]
def aX(s:Stmt):Scope:=match s with
 | .FunctionDef _ _ _ _ _ _ sc _ _ _=>sc
 | _=>{kind:= .function,names:=[],isGenerator:=false,isCoroutine:=false}
abbrev YT:Vi:=λ_ _ _ _ _ _=>False
abbrev E0:XK:=λ_ _ _=>False
section
variable{X:Cx}
theorem pv(i:Nat)(hN:X.N[i]? = some x:=by rfl)(hv:Vis X.env.scope x:=by first | exact Or.inl rfl | exact Or.inr (Or.inl rfl) | exact Or.inr (Or.inr rfl))(hd:(x==("__debug__" : Str))=false:=by decide)
  (hcd:(x==("__classdict__" : Str))=false:=by decide):PE X (.Name x pos) (acf i):=aaE hN hv hd hcd
end
theorem Km(h:∀n,(n,NameKind.free)∈scope.names->∃c,env.cells.lookup n=some c):
  ∃cl,closureFor scope env=pure cl/\(∀n c,cl.lookup n=some c->env.cells.lookup n=some c)/\∀n,(n,NameKind.free)∈scope.names->∃c,cl.lookup n=some c:=by
 have go:∀(names:List (Str×NameKind)) (acc:List (Str×Addr)),(∀n,(n,NameKind.free)∈names->∃c,env.cells.lookup n=some c)->(∀n c,acc.lookup n=some c->env.cells.lookup n=some c)->
   ∃cl,(forIn names acc λ(x:Str×NameKind) (r:List (Str×Addr))=>if(x.2==NameKind.free)=true then do let a <-cellOf env x.1;pure (ForInStep.yield ((x.1,a)::r))else pure (ForInStep.yield r):Sem (List (Str×Addr)))=pure cl/\
    (∀n c,cl.lookup n=some c->env.cells.lookup n=some c)/\(∀n,(n,NameKind.free)∈names->∃c,cl.lookup n=some c)/\∀n c,acc.lookup n=some c->∃c,cl.lookup n=some c:=by
  intro names
  induction names with
  | nil=>intro acc _ h2;exact⟨acc,rfl,h2,(λ_ z=>nomatch z),λn c e=>⟨c,e⟩⟩
  | cons x r ih=>
   intro acc h1 h2
   obtain⟨n,k⟩:=x
   by_cases hk:k=NameKind.free
   ·subst hk
    obtain⟨c,hc⟩:=h1 n xB
    obtain⟨cl,e1,e2,e3,e4⟩:=ih ((n,c)::acc) (λm z=>h1 m (yT _ z)) (λm d e=>by
     rw[List.lookup_cons]at e
     cases q:m==n with
     | true=>rw[q]at e;cases e;rw[eq_of_beq q];exact hc
     | false=>rw[q]at e;exact h2 m d e)
    refine⟨cl,?_,e2,λm z=> ?_,λm d e=> ?_⟩
    ·rw[List.forIn_cons]
     have:cellOf env n=pure c:=by unfold cellOf;rw[hc]
     simp only[this,beq_self_eq_true,if_true]
     exact e1
    ·rcases List.mem_cons.mp z with z | z
     ·cases z
      exact e4 n c (by rw[List.lookup_cons,beq_self_eq_true])
     ·exact e3 m z
    ·cases q:m==n with
     | true=>exact e4 m c (by rw[List.lookup_cons,q])
     | false=>exact e4 m d (by rw[List.lookup_cons,q];exact e)
   ·obtain⟨cl,e1,e2,e3,e4⟩:=ih acc (λm z=>h1 m (yT _ z)) h2
    refine⟨cl,?_,e2,λm z=> ?_,e4⟩
    ·rw[List.forIn_cons]
     have:(k==NameKind.free)=false:=by simpa using hk
     simp only[this,Bool.false_eq_true,if_false]
     exact e1
    ·rcases List.mem_cons.mp z with z | z
     ·cases z;exact absurd rfl hk
     ·exact e3 m z
 obtain⟨cl,e1,e2,e3,_⟩:=go scope.names [] h (λ_ _ e=>nomatch e)
 refine⟨cl,?_,e2,e3⟩
 unfold closureFor
 show(forIn scope.names [] _ >>= λr=>pure r)=_
 rw[show(forIn scope.names [] λ(x:Str×NameKind) (r:List (Str×Addr))=>_:Sem (List (Str×Addr)))=pure cl from e1]
 rfl
noncomputable def dY(env:Env)(x:Str×NameKind):Str×NameKind:=if(x.2== .free&&env.scope.kind== .function&&env.kindOf x.1==some .cell)then(x.1,.cell)else(x.1,x.2)
theorem Ju(env:Env)(x:Str×NameKind):(dY env x).1=x.1:=by
 unfold dY;split<;>rfl
theorem VN:∀{names:List (Str×NameKind)},(∀z∈names,z.2≠ .cell)->((names.map (dY env)).lookup y=some .cell\/(names.map (dY env)).lookup y=some .free)->(y,NameKind.free)∈names
 | [],_,h=>by rcases h with h | h<;>cases h
 | (n,k)::r,hc,h=>by
  rw[List.map_cons]at h
  have e1:(dY env (n,k)).1=n:=Ju env (n,k)
  cases hx:y==n with
  | true=>
   have ey:=eq_of_beq hx
   subst ey
   have hk:k≠ .cell:=hc (y,k) xB
   have q:(dY env (y,k)).2= .cell\/(dY env (y,k)).2= .free:=by
    have l:∀kk,List.lookup y (dY env (y,k)::List.map (dY env) r)=some kk->(dY env (y,k)).2=kk:=λkk z=>by
     rw[show dY env (y,k)=(y,(dY env (y,k)).2)from Prod.ext e1 rfl,List.lookup_cons,beq_self_eq_true]at z
     exact xI z
    rcases h with h | h
    ·exact .inl (l _ h)
    ·exact .inr (l _ h)
   have hk2:k= .free:=by
    unfold dY at q
    split at q
    ·rename_i z
     rw[Bool.and_eq_true,Bool.and_eq_true]at z
     simpa using z.1.1
    ·rcases q with q | q
     ·exact absurd q hk
     ·exact q
   rw[hk2]
   exact xB
  | false=>
   have l:List.lookup y (dY env (n,k)::List.map (dY env) r)=List.lookup y (List.map (dY env) r):=by
    rw[show dY env (n,k)=(n,(dY env (n,k)).2)from Prod.ext e1 rfl,List.lookup_cons,hx]
   rw[l]at h
   exact yT _ (VN (λz hz=>hc z (yT _ hz)) h)
theorem aar:∀{names:List (Str×NameKind)},names.lookup y=some .free->(names.map (dY env)).lookup y=some .cell\/(names.map (dY env)).lookup y=some .free
 | [],h=>by cases h
 | (n,k)::r,h=>by
  rw[List.map_cons]
  have e1:(dY env (n,k)).1=n:=Ju env (n,k)
  rw[show dY env (n,k)=(n,(dY env (n,k)).2)from Prod.ext e1 rfl,List.lookup_cons]
  rw[List.lookup_cons]at h
  cases hx:y==n with
  | true=>
   rw[hx]at h
   have hk:k= .free:=xI h
   subst hk
   show some (dY env (n,NameKind.free)).2=some NameKind.cell\/some (dY env (n,NameKind.free)).2=some NameKind.free
   unfold dY
   split
   ·exact .inl rfl
   ·exact .inr rfl
  | false=>
   rw[hx]at h
   exact aar h
section
variable{prog:Program}{w:World}{A:Around}{R:Result->Shared->Prop}
theorem Zq(W:Nat->Shared->Prop)
  (turn:∀n s,W n s->wpAny (model prog w) A (pyNext it) (λr s1=>match r with
   | none=>R (.ok .next) s1
   | some v=>wpAny (model prog w) A (letOwnedTupleGo tg it v) (λ_ s2=>wpAny (model prog w) A (assign tg env v) (λ_ s3=>
     wpAny (model prog w) A (forIn ifs true λc r=>if r=true then do let ok <-isTrue c env (eval c env);pure (ForInStep.yield ok)else pure (ForInStep.yield r)) (λok s4=>
      if ok=true then wpAny (model prog w) A (eval elt env) (λx s5=>wpAny (model prog w) A (call (.builtin "list.append") [acc,x]) (λ_ s6=>∃m,m<n/\W m s6) (λ_ _=>False) s5) (λ_ _=>False) s4
      else ∃m,m<n/\W m s4) (λ_ _=>False) s3) (λ_ _=>False) s2) (λ_ _=>False) s1) (λ_ _=>False) s)
  (n:Nat) (h:W n s):codeAny (model prog w) A (.compLoop (.ListComp elt [⟨tg,iter,ifs,0⟩] scope pos) 0 it acc env) R s:=by
 have ex:∀{α:Type} {t:Sem α} {Q Q':α->Shared->Prop} {E:Value->Shared->Prop} {s:Shared},wpAny (model prog w) A t Q (λ_ _=>False) s->(∀a s,Q a s->Q' a s)->wpAny (model prog w) A t Q' E s:=
  λh f=>vE h f λ_ _ z=>z.elim
 refine codeAny_loop rfl W (λn s hI=> ?_) n h
 show wpAny _ A ((compTurn (.ListComp elt [⟨tg,iter,ifs,0⟩] scope pos) 0 it acc env).onRaise (λx=>do noteFrame x env;theTreesLotGoes x)) _ _ s
 refine wpAny_noted ?_
 rw[compTurn_list]
 refine zC (wpAny_standAt (zC (ex (turn n s hI) λr s1 h1=> ?_)))
 cases r with
 | none=>exact zI h1
 | some v=>
  refine zC (ex h1 λ_ s2 h2=>zC (ex h2 λ_ s3 h3=>zC (ex h3 λok s4 h4=> ?_)))
  cases ok with
  | false=>exact zI ⟨rfl,h4⟩
  | true=>exact zC (zC (ex h4 λx s5 h5=>zC (ex h5 λ_ s6 h6=>zI (zI ⟨rfl,h6⟩))))
end
noncomputable def eY(X:Cx)(scope:Scope)(cl:List (Str×Addr))(C:Addr)(N:List Str)(fp:List Addr)(s:Shared)(H:Hp):Cx where
 prog:=X.prog
 w:=X.w
 K:=X.K
 mg:=X.mg
 base:=X.base
 A:=X.A
 N:=N
 s₀:=s
 H₀:=H
 env:=compEnvC scope cl C X.env
 outer:=X.stack
 stack:=X.stack
 ex:=fp
 fn:=λ_=>false
 calm:=X.calm
 pn:=[]
 xe:=λ_ _=>False
def vU(X:Cx)(scope:Scope):List Str->List Nat->Prop
 | [],[]=>True
 | y::cs,i::js=>(X.N[i]? = some y/\scope.names.lookup y=some .free/\(X.env.kindOf y=some .cell\/X.env.kindOf y=some .free))/\vU X scope cs js
 | _,_=>False
theorem vU.len:∀{cs:List Str} {js:List Nat},vU X scope cs js->js.length=cs.length
 | [],[],_=>rfl
 | _::_,_::_,h=>by rw[List.length_cons,List.length_cons,vU.len h.2]
 | [],_::_,h=>h.elim
 | _::_,[],h=>h.elim
theorem vU.get:∀{cs:List Str} {js:List Nat} {j:Nat},vU X scope cs js->cs[j]? = some y->
  ∃i,js[j]? = some i/\X.N[i]? = some y/\scope.names.lookup y=some .free/\(X.env.kindOf y=some .cell\/X.env.kindOf y=some .free)
 | [],[],_,_,e=>by simp at e
 | _::_,i::_,0,h,e=>by simp at e;subst e;exact⟨i,rfl,h.1.1,h.1.2⟩
 | _::_,_::_,j+1,h,e=>by
  obtain⟨i,e1,r⟩:=vU.get (j:=j) h.2 (by simpa using e)
  exact⟨i,by simpa using e1,r⟩
 | [],_::_,_,h,_=>h.elim
 | _::_,[],_,h,_=>h.elim
def caps(js:List Nat)(σ:St):St:=js.map λi=>(σ[i]?).join
def PTs(X:Cx)(ifs:List Expr)(t:TT):Prop:=
 ∀(pins:List (Addr×Obj)) (s:Shared) (σ:St) (H:Hp) (Q:Bool->Hp->Prop),Inv X pins σ H s->t σ H Q->
  wpAny (model X.prog X.w) X.A (forIn ifs true λc r=>if r=true then do let ok <-isTrue c X.env (eval c X.env);pure (ForInStep.yield ok)else pure (ForInStep.yield r)) (TP X pins σ Q) X.xe s
def amj:TT:=λ_ H Q=>Q true H
theorem acO:PTs X [] amj:=λ_ _ _ H _ I h=>zI ⟨H,I,h⟩
theorem acN(h:PT X c t):PTs X [c] t:=by
 intro pins s σ H Q I hq
 rw[List.forIn_cons]
 simp only[if_true]
 exact zC (zC (gj (h pins s σ H Q I hq) λok s1 q=>zI (zI q)))
def ahR(js:List Nat)(tt:TT)(te:TE)(σ:St)(Q:VK)(J:It)(H1:Hp):Prop:=
 ∃W:Nat->Nat->List V->Hp->Prop,(∃m,W 0 m [] H1)/\∀i m ys H,W i m ys H->
  (J.stop i H/\ys.length<=sizeLine/\∀p,H p=none->Q (.ref p) (upd H p (.lst ys)))\/
  (J.go i H/\∃N:List V->Hp->Prop,(∀ys' H',N ys' H'->ys'.length<=sizeLine/\∃m',m'<m/\W (i+1) m' ys' H')/\∀x H',J.YW i H x H'->tt (some x::caps js σ) H' λb H2=>
   if b=true then te (some x::caps js σ) H2 λy H3=>N (ys++[y]) H3 else N ys H2)
def ZD(js:List Nat)(wi:TI)(tt:TT)(te:TE):TE:=λσ H Q=>wi σ H λJ H1=>ahR js tt te σ Q J H1
theorem ug.track(x:ug P w H h)(hn:H a=none)(new:cY P w (upd H a o) h a o):ug P w (upd H a o) h:=λb u e=>by
 by_cases hb:b=a
 ·subst hb;rw[bw]at e;cases e;exact new
 ·rw[aH hb]at e
  exact(x b u e).stay (λc v _ q=>q) (λc q=>by rw[aH (bJ q hn)];exact q) λc xs q=>by rw[aH (bJ q hn)];exact q
theorem Un.track(u:Un fs ex H H1 h h1)(hn:h.get? a=none)(hH:H a=none):Un fs ex H (upd H1 a o) h h1 where
 keep:=u.keep
 slot:=u.slot
 free:=λb ob e n hx=>by rw[aH (by rintro rfl;rw[hn]at e;cases e)];exact u.free b ob e n hx
 there:=u.there
 tups:=λb xs e=>by rw[aH (bJ e hH)];exact u.tups b xs e
 yt:=λb ob xs e=>by rw[aH (bJ e hH)];exact u.yt b ob xs e
 BJ:=λb ps e=>by rw[aH (bJ e hH)];exact u.BJ b ps e
def Rj(xs:List Str):St:=xs.map λ_=>none
section
variable{X:Cx}{x:Str}{px:Pos}{tg elt iter:Expr}{ifs:List Expr}{scope:Scope}{xs cs:List Str}{js:List Nat}{tt:TT}{te:TE}{pos:Pos}
theorem Sh{g:TG}{cl:List (Str×Addr)}{pins:List (Addr×Obj)}{σ:St}{H2:Hp}{s2:Shared}{it:Addr}{fp:List Addr}{tn:Nat->Heap->Prop}{J:It}{Q:VK}{RR:Value->Addr->Result->Shared->Prop}
  (hc:X.calm=true) (hcap:vU X scope cs js) (ht:∀cl C fp s H,PTs (eY X scope cl C (xs++cs) fp s H) ifs tt) (he:∀cl C fp s H,PE (eY X scope cl C (xs++cs) fp s H) elt te)
  (hcell:∀y∈scope.names,y.2≠ .cell) (hkind:scope.kind= .function) (hg:∀cl C fp s H,PG (eY X scope cl C (xs++cs) fp s H) tg g)
  (Gi:∀n c,cl.lookup n=some c->X.env.cells.lookup n=some c) (RT:∀n,(n,NameKind.free)∈scope.names->∃c,cl.lookup n=some c)
  (I2:Inv X pins σ H2 s2) (T:Turn X.prog X.w X.K (tg) J fp it tn) (st2:tn 0 s2.heap) (f2:∀b∈fp,yF X pins H2 b)
  (W:Nat->Nat->List V->Hp->Prop) (w0:∃m,W 0 m [] H2)
  (step:∀i m ys H,W i m ys H->
   (J.stop i H/\ys.length<=sizeLine/\∀p,H p=none->Q (.ref p) (upd H p (.lst ys)))\/
   (J.go i H/\∃N:List V->Hp->Prop,(∀ys' H',N ys' H'->ys'.length<=sizeLine/\∃m',m'<m/\W (i+1) m' ys' H')/\∀x H',J.YW i H x H'->g x (Rj xs++caps js σ) H' λσ1 H1=>(σ1.length=(Rj xs++caps js σ).length/\σ1.drop xs.length=caps js σ)/\tt σ1 H1 λb H2=>
    if b=true then te σ1 H2 λy H3=>N (ys++[y]) H3 else N ys H2))
  (fin:∀(D C:Addr) (H3:Hp) (s4:Shared) (m':Str->Option Value),Inv X pins σ H3 s4->s4.heap.Ns C m'->s2.heap.objs.size<=C->H3 C=none->Q (.ref D) H3->RR (.ref D) C (.ok .next) s4):
  wpAny (model X.prog X.w) X.A (newList []) (λacc s3=>wpAny (model X.prog X.w) X.A (newFunctionEnv scope X.env.globals cl [] X.env.qual none .none (some X.env)) (λcenv s4=>
   codeAny (model X.prog X.w) X.A (.compStart (.ListComp elt [⟨tg,iter,ifs,0⟩] scope pos) 0 (.ref it) acc {cenv with scope:=relabel scope X.env}) (RR acc cenv.locals) s4) X.xe s3) X.xe s2:=by
 refine wT (wpAny_newFunctionEnv hcell (by intro y hy;simp at hy) (λh1 hns hsb=> ?_) hkind)
 dsimp only at hns hsb ⊢
 generalize hP:s2.heap.push {cls:= .type "list",dict:=none,data:= .seq ([]:List Value).toArray}=hq at hns hsb ⊢
 have eC:hq.objs.size=s2.heap.objs.size+1:=by rw[<-hP,Heap.size_push]
 generalize eD:s2.heap.objs.size=D at eC ⊢
 generalize eCC:hq.objs.size=C at hns hsb eC ⊢
 have DC:D≠C:=()
 have old:∀b o,s2.heap.get? b=some o->h1.get? b=some o:=λb o e=>by
  have lt: @LT.lt Nat _ b s2.heap.objs.size:=zS e
  exact hsb.extBut b o (λz=>by subst z;omega) (zD _ (hP▸zD _ e))
 have aoj:h1.get? D=some {cls:= .type "list",dict:=none,data:= .seq ([]:List Value).toArray}:=hsb.extBut _ _ DC (zD _ (hP▸eD▸yB _ rfl))
 have noD:s2.heap.get? D=none:=Heap.get?_none_of_le ()
 have HD:H2 D=none:=I2.hok.fresh ()
 have HC:H2 C=none:=I2.hok.fresh ()
 have akh:∀b∈fp,@LT.lt Nat _ b D:=λb hb=>by
  obtain⟨o,e,_⟩:=T.obj _ _ st2 b hb
  have q: @LT.lt Nat _ b s2.heap.objs.size:=zS e
  omega
 have Dfp:D∉fp:=λz=>wS _ (akh D z)
 have anE:∀b∈frs X.stack,@LT.lt Nat _ b D:=λb hb=>by
  obtain⟨_,o,ho,_⟩:=I2.stack.mem hb
  have q: @LT.lt Nat _ b s2.heap.objs.size:=zS ho
  omega
 have anS:∀y c,cl.lookup y=some c-> @LT.lt Nat _ c D:=λy c e=>by
  obtain⟨v,z⟩:=I2.cell y c (Gi y c e)
  have q: @LT.lt Nat _ c s2.heap.objs.size:=z.lt
  omega
 have ok:(eY X scope cl C (xs++cs) fp s2 H2).Ok:=by
  refine⟨I2.ok.mod,hkind,I2.ok.glob,I2.ok.blt,(by show s2.heap.objs.size<=C;omega),λy z c e1 e2=>I2.ok.inj y z c (Gi y c e1) (Gi z c e2),λy hy=>RT y (VN hcell hy),λy c e=>(by cases e),I2.ok.hd,I2.ok.frames,.inl rfl,
   λb hb=>⟨?_,λy c e=>(f2 b hb).2.2.2.2.1 y c (Gi y c e)⟩,I2.bs,yY I2.ok.YF I2.sz,λb o e hb=> ?_,λb hb z=> ?_,I2.stack,I2.Ie⟩
  ·have q:=akh b hb
   show b≠C
   intro z
   subst z
   omega
  ·rcases(f2 b hb).2.2.2.1 with z | z
   ·exact I2.ok.Rk b o e z
   ·have l: @LT.lt Nat _ b X.base.objs.size:=zS e
    have l2:=I2.ok.YF
    have l3: @LE.le Nat _ X.s₀.heap.objs.size b:=z
    omega
  ·rcases List.mem_cons.mp (I2.Np b z)with e | e
   ·exact(f2 b hb).2.1 e
   ·exact(f2 b hb).2.2.1 e
 have I0:Inv (eY X scope cl C (xs++cs) fp s2 H2) [(D,{cls:= .type "list",dict:=none,data:= .seq ([]:List Value).toArray})] (Rj xs++caps js σ) H2 {s2 with heap:=h1,toks:=s2.toks+([]:List (Str×Value)).length}:=by
  refine⟨ok,rfl,I2.bare,Un.kept old,⟨_,hns,λi y v e1 e2 e3=> ?_⟩,λy c e=> ?_,HC,λy c e=>I2.j9 y c (Gi y c e),λp hp=> ?_,I2.hok.kept old,?_⟩
  ·have hi:xs.length<=i:=by
    rcases Nat.lt_or_ge i xs.length with q | q
    ·rw[zaf (by simpa[Rj]using q)]at e2
     simp[Rj]at e2
    ·exact q
   obtain⟨j,rfl⟩:∃j,i=xs.length+j:=⟨i - xs.length,()⟩
   ·have e1':cs[j]? = some y:=by
     have:(xs++cs)[xs.length+j]? = some y:=e1
     rw[zae ()]at this
     simpa using this
    obtain⟨i0,q1,q2,q3,q4⟩:=hcap.get e1'
    have e2':σ[i0]? = some (some v):=by
     have z:(caps js σ)[j]? = some (some v):=by
      rw[zae (by simp[Rj])]at e2
      simpa[Rj]using e2
     unfold caps at z
     rw[zan,q1]at z
     have z':(σ[i0]?).join=some v:=by simpa using z
     cases r:σ[i0]? with
     | none=>rw[r]at z';cases z'
     | some r'=>rw[r]at z';exact congrArg some z'
    obtain⟨m,_,hl⟩:=I2.loc
    obtain⟨u,r,l⟩:=hl i0 y v q2 e2' (by rcases q4 with q | q;exact .inr (.inl q);exact .inr (.inr q))
    obtain⟨c,hcy⟩:=RT y (PySem.mem_of_lookup q3)
    refine⟨u,r,.inr ⟨aar q3,c,hcy,?_⟩⟩
    rcases l with⟨k,_⟩ | ⟨_,c',ec,o,ho,hd⟩
    ·rcases q4 with q | q<;>rw[q]at k<;>cases k
    ·rw[Gi y c hcy]at ec
     cases ec
     exact⟨o,old _ _ ho,hd⟩
  ·obtain⟨v,o,ho,hd⟩:=I2.cell y c (Gi y c e)
   exact⟨v,o,old _ _ ho,hd⟩
  ·have ep:p=(D,{cls:= .type "list",dict:=none,data:= .seq ([]:List Value).toArray}):=by simpa[eY]using hp
   subst ep
   exact⟨aoj,HD,(by show D≠C;omega),(λz=>wS _ (anE D z)),λv z=>by cases z⟩
  ·show(Rj xs++caps js σ).length=(xs++cs).length
   unfold caps Rj
   rw[List.length_append,List.length_append,zao,zao,hcap.len]
 have stat:∀{pn:List (Addr×Obj)} {H':Hp},(∀b∈fp,H' b=none)->(∀p∈pn,p.1∉fp)->∀b∈fp,yF (eY X scope cl C (xs++cs) fp s2 H2) pn H' b:=λhn hpn b hb=>
  ⟨hn b hb,(ok.exf b hb).1,ok.RZ b hb,.inl hb,λy c e=>(ok.exf b hb).2 y c e,λp hp z=>hpn p (by simpa[eY]using hp) (z▸hb)⟩
 have loop:∀s3:Shared,s3={s2 with heap:=h1,toks:=s2.toks+([]:List (Str×Value)).length}->
   codeAny (model X.prog X.w) X.A (.compLoop (.ListComp elt [⟨tg,iter,ifs,0⟩] scope pos) 0 (.ref it) (.ref D) (compEnvC scope cl C X.env)) (RR (.ref D) C) s3:=by
  rintro s3 rfl
  obtain⟨m0,w0⟩:=w0
  refine Zq (λn s=>∃(i:Nat) (ys:List V) (its:List Value) (c:Nat) (H:Hp),Inv (eY X scope cl C (xs++cs) fp s2 H2) [(D,{cls:= .type "list",data:= .seq its.toArray c})] (Rj xs++caps js σ) H s/\
   tn i s.heap/\(∀b∈fp,H b=none)/\Vals ys its/\W i n ys H) ?_ m0 ⟨0,[],[],0,H2,I0,T.keep _ _ _ st2 λb _ o e=>old b o e,λb hb=>(f2 b hb).1,.nil,w0⟩
  rintro n s3 ⟨i,ys,its,c,H3,I3,st3,fr3,rv,w3⟩
  have pD:∀p∈[((D,{cls:= .type "list",data:= .seq its.toArray c}):Addr×Obj)],p.1∉fp:=λp hp=>by
   have:p=(D,{cls:= .type "list",data:= .seq its.toArray c}):=by simpa using hp
   subst this
   exact Dfp
  rcases step i n ys H3 w3 with⟨stop,hlen,qn⟩ | ⟨go,N,hN,step⟩
  ·refine gj (T.done (eY X scope cl C (xs++cs) fp s2 H2) rfl rfl rfl hc i _ s3 _ H3 (λ_ _=>False) I3 (stat fr3 pD) st3 stop) ?_
   rintro r s4 ⟨hr,I4⟩
   subst hr
   obtain⟨gD,nD,_⟩:=I4.pin _ (xE _ xB)
   obtain⟨m',hn',_⟩:=id I4.loc
   have u4:Un (frs X.stack) fp H2 H3 s2.heap s4.heap:=I4.base
   have k4:ug X.prog X.w (upd H3 D (.lst ys)) s4.heap:=ug.track I4.hok nD ⟨hlen,its,c,rv,gD⟩
   have I5:Inv X pins σ (upd H3 D (.lst ys)) s4:=I2.call' (ch:=fp) I4.os (u4.track noD HD) k4 I4.bare λb hb=>⟨(f2 b hb).2.2.2.1,(f2 b hb).2.1,(f2 b hb).2.2.2.2.1,(f2 b hb).2.2.2.2.2⟩
   exact fin D C _ s4 m' I5 hn' () (by rw[aH (Ne.symm DC)];exact I4.free) (qn D nD)
  ·refine gj (T.item (eY X scope cl C (xs++cs) fp s2 H2) rfl rfl rfl hc i _ s3 _ H3 (λ_ _=>False) I3 (stat fr3 pD) st3 go) ?_
   rintro r s4 ⟨u,hr,h4⟩
   subst hr
   refine gj h4 ?_
   rintro _ s5 ⟨v,H5,I5,r5,y5,st5,fr5⟩
   have I5':=I5.pinned (stat fr5 pD) (T.obj _ _ st5)
   refine gj (hg cl C fp s2 H2 _ s5 (Rj xs++caps js σ) H5 v u _ I5' r5 (step v H5 y5)) ?_
   rintro _ s6 ⟨σ6,H6,I6,⟨am9,akp⟩,q6⟩
   have weak:∀{pn:List (Addr×Obj)} {H':Hp} {s':Shared},Inv (eY X scope cl C (xs++cs) fp s2 H2) pn σ6 H' s'->Inv (eY X scope cl C (xs++cs) fp s2 H2) pn (Rj xs++caps js σ) H' s':=λI'=>
    I'.weak am9.symm λj z e=>by
     have hj:xs.length<=j:=by
      rcases Nat.lt_or_ge j xs.length with q | q
      ·rw[zaf (by simpa[Rj]using q)]at e
       simp[Rj]at e
      ·exact q
     rw[zae (by simpa[Rj]using hj),<-akp]at e
     rw[List.getElem?_drop]at e
     rw[<-e]
     congr 1
     simp[Rj]
     omega
   have tnK:∀{σ':St} {H':Hp} {s':Shared},Inv (eY X scope cl C (xs++cs) fp s2 H2) ([(D,{cls:= .type "list",data:= .seq its.toArray c})]++Jw fp s5.heap) σ' H' s'->(∀b∈fp,∀o,s5.heap.get? b=some o->s'.heap.get? b=some o)/\∀b∈fp,H' b=none:=λI'=>
    ⟨λb hb o e=>(I'.pin (b,o) (xE _ (xE _ (wW hb e)))).1,λb hb=>by
     obtain⟨o,e,_⟩:=T.obj _ _ st5 b hb
     exact(I'.pin (b,o) (xE _ (xE _ (wW hb e)))).2.1⟩
   refine gj (ht cl C fp s2 H2 _ s6 σ6 H6 _ I6 q6) ?_
   rintro b s7 ⟨H7,I7,q7⟩
   cases b with
   | false=>
    rw[if_neg xA]at q7 ⊢
    obtain⟨_,m',hm,w7⟩:=hN _ _ q7
    exact⟨m',hm,i+1,ys,its,c,H7,weak I7.Dw,T.keep _ _ _ st5 (tnK I7).1,(tnK I7).2,rv,w7⟩
   | true=>
    rw[if_pos rfl]at q7 ⊢
    refine gj (he cl C fp s2 H2 _ s7 σ6 H7 _ I7 q7) ?_
    rintro yv s8 ⟨y,H8,I8,r8,q8⟩
    obtain⟨hl8,m',hm,w8⟩:=hN _ _ q8
    rw[List.length_append,List.length_singleton]at hl8
    obtain⟨gD,nD,dC,dF,_⟩:=I8.pin (D,{cls:= .type "list",data:= .seq its.toArray c}) (xE _ (List.mem_append_left _ xB))
    have el:=rv.length
    refine wpAny_list_append_plain (hsz:=by rw[List.size_toArray];omega) ⟨c,gD⟩ λh9 p9 sb9=> ?_
    obtain⟨c9,g9⟩:=p9
    have g9':h9.get? D=some {cls:= .type "list",data:= .seq (its++[yv]).toArray c9}:=by simpa using g9
    have I9:Inv (eY X scope cl C (xs++cs) fp s2 H2) [] (Rj xs++caps js σ) H8 {s8 with heap:=h9}:=
     (weak (I8.wL (zF:=[]) (λp hp=>nomatch hp))).turned (t':=s8.toks) (it:=D) (λb o hb e=>(sb9.2 b hb).trans e) nD dC (.inr (by show s2.heap.objs.size<=D;omega)) (λy c e z=>by have q:=anS y c e;subst z;omega) (λp hp=>nomatch hp)
    refine⟨m',hm,i+1,ys++[y],its++[yv],c9,H8,I9.wL λp hp=> ?_,?_,(tnK I8).2,rv.append (.cons r8 .nil),w8⟩
    ·have:p=(D,{cls:= .type "list",data:= .seq (its++[yv]).toArray c9}):=by simpa using hp
     subst this
     exact⟨g9',nD,dC,dF,λv z=>by cases z⟩
    ·exact T.keep _ _ _ st5 λb hb o e=>(sb9.2 b (λz=>Dfp (z▸hb))).trans ((tnK I8).1 b hb o e)
 exact codeAny_compStart_list (loop _ rfl) (T.self _ 0 _ _ _ (T.keep _ _ _ st2 λb _ o e=>old b o e) (loop _ rfl))
theorem Kl{cl:List (Str×Addr)}{pins:List (Addr×Obj)}{σ:St}{H2:Hp}{s2:Shared}{it:Addr}{fp:List Addr}{tn:Nat->Heap->Prop}{J:It}{Q:VK}{RR:Value->Addr->Result->Shared->Prop}
  (hc:X.calm=true) (hcap:vU X scope cs js) (ht:∀cl C fp s H,PTs (eY X scope cl C (x::cs) fp s H) ifs tt) (he:∀cl C fp s H,PE (eY X scope cl C (x::cs) fp s H) elt te)
  (hcell:∀y∈scope.names,y.2≠ .cell) (hkind:scope.kind= .function) (hx:scope.names.lookup x=some .local) (hnd:(x::cs).Nodup)
  (Gi:∀n c,cl.lookup n=some c->X.env.cells.lookup n=some c) (RT:∀n,(n,NameKind.free)∈scope.names->∃c,cl.lookup n=some c)
  (I2:Inv X pins σ H2 s2) (T:Turn X.prog X.w X.K (.Name x px) J fp it tn) (st2:tn 0 s2.heap) (f2:∀b∈fp,yF X pins H2 b)
  (W:Nat->Nat->List V->Hp->Prop) (w0:∃m,W 0 m [] H2)
  (step:∀i m ys H,W i m ys H->
   (J.stop i H/\ys.length<=sizeLine/\∀p,H p=none->Q (.ref p) (upd H p (.lst ys)))\/
   (J.go i H/\∃N:List V->Hp->Prop,(∀ys' H',N ys' H'->ys'.length<=sizeLine/\∃m',m'<m/\W (i+1) m' ys' H')/\∀x H',J.YW i H x H'->tt (some x::caps js σ) H' λb H2=>
    if b=true then te (some x::caps js σ) H2 λy H3=>N (ys++[y]) H3 else N ys H2))
  (fin:∀(D C:Addr) (H3:Hp) (s4:Shared) (m':Str->Option Value),Inv X pins σ H3 s4->s4.heap.Ns C m'->s2.heap.objs.size<=C->H3 C=none->Q (.ref D) H3->RR (.ref D) C (.ok .next) s4):
  wpAny (model X.prog X.w) X.A (newList []) (λacc s3=>wpAny (model X.prog X.w) X.A (newFunctionEnv scope X.env.globals cl [] X.env.qual none .none (some X.env)) (λcenv s4=>
   codeAny (model X.prog X.w) X.A (.compStart (.ListComp elt [⟨.Name x px,iter,ifs,0⟩] scope pos) 0 (.ref it) acc {cenv with scope:=relabel scope X.env}) (RR acc cenv.locals) s4) X.xe s3) X.xe s2:=
 Sh (xs:=[x]) (g:=RW 0) hc hcap ht he hcell hkind (λcl C fp s H=>V3 hnd rfl (.inl (lookup_relabel_local hx)) (.inr (lookup_relabel_local hx))) Gi RT I2 T st2 f2 W w0
  (λi m ys H h=>(step i m ys H h).imp id λ⟨go,N,hN,st⟩=>⟨go,N,hN,λx H' y=>⟨⟨rfl,rfl⟩,st x H' y⟩⟩) fin
theorem Inv.letGo(I2:Inv X pins σ2 H2 s2)(I:Inv X pins σ H s)(hC:s2.heap.objs.size<=C)(hn:H C=none)(sb:Heap.SameBut C s.heap h'):Inv X pins σ H {s with heap:=h'}:=
 I.turned (t':=s.toks) (λb o hb e=>(sb.2 b hb).trans e) hn (xS (yA I2.lt hC)) (.inr (yY I2.sz hC))
  (λy c e z=>by obtain⟨v,q⟩:=I2.cell y c e;exact absurd (yA q.lt (by rw[z];exact hC)) (wS _))
  (λp hp z=>absurd (yA (zS (I2.pin p hp).1) (by rw[z];exact hC)) (wS _))
theorem ac3(hc:X.calm=true)(cs:List Str)(js:List Nat)(hi:PI X (.Name x px) iter wi)(hcap:vU X scope cs js)(ht:∀cl C fp s H,PTs (eY X scope cl C (x::cs) fp s H) ifs tt)(he:∀cl C fp s H,PE (eY X scope cl C (x::cs) fp s H) elt te)
  (hall:∀y∈scope.names,y.2= .free->y.1∈cs) (hcell:∀y∈scope.names,y.2≠ .cell) (hnames:∀y∈scope.names,y.2= .local->scope.names.lookup y.1=some .local) (hnd:(x::cs).Nodup)
  (hkind:scope.kind= .function:=by rfl) (hx:scope.names.lookup x=some .local:=by rfl) (hs:∀v,foldedSetIterable iter X.env v=pure v:=by intro _;rfl):
  PE X (.ListComp elt [⟨.Name x px,iter,ifs,0⟩] scope pos) (ZD js wi tt te):=by
 intro pins s σ H Q I h
 obtain⟨cl,agZ,Gi,RT⟩:=Km (env:=X.env) (scope:=scope) λn hn=>by
  obtain⟨j,hj⟩:=List.getElem?_of_mem (hall _ hn rfl)
  obtain⟨_,_,_,_,k⟩:=hcap.get hj
  exact I.ok.has n k
 rw[eval_ListComp]
 refine wpAny_comprehension_free (use:=none) rfl hs agZ hkind hnames (gj (hi pins s σ H _ I h) λv s1 h1=>gj h1 λitv s2 h2=> ?_)
 obtain⟨it,fp,tn,J,H2,e,I2,T,st2,f2,W,w0,step⟩:=h2
 subst e
 refine Kl (Q:=Q) (RR:=λacc C=>compPost (model X.prog X.w) X.A X.xe none (EP X pins σ Q) acc C) hc hcap ht he hcell hkind hx hnd Gi RT I2 T st2 f2 W w0 step λD C H3 s4 m' I4 hn hC hH q=> ?_
 exact⟨m',hn,λh' sb=>⟨.ref D,H3,I2.letGo I4 hC hH sb,rfl,q⟩⟩
theorem acX(hc:X.calm=true)(cs:List Str)(js:List Nat)(hN:X.N.Nodup)(hk:X.N[k]? = some y)(hy:X.env.scope.names.lookup y=some .local)(hi:PI X (.Name x px) iter wi)(hcap:vU X scope cs js)
  (ht:∀cl C fp s H,PTs (eY X scope cl C (x::cs) fp s H) ifs tt) (he:∀cl C fp s H,PE (eY X scope cl C (x::cs) fp s H) elt te)
  (hall:∀y∈scope.names,y.2= .free->y.1∈cs) (hcell:∀y∈scope.names,y.2≠ .cell) (hnames:∀y∈scope.names,y.2= .local->scope.names.lookup y.1=some .local) (hnd:(x::cs).Nodup)
  (hsw:swapsWith (.ListComp elt [⟨.Name x px,iter,ifs,0⟩] scope pos) (some (.Name y py)) spos.line X.env=pure true:=by rfl)
  (hkind:scope.kind= .function:=by rfl) (hx:scope.names.lookup x=some .local:=by rfl) (hs:∀v,foldedSetIterable iter X.env v=pure v:=by intro _;rfl):
  PS X (.Assign [.Name y py] (.ListComp elt [⟨.Name x px,iter,ifs,0⟩] scope pos) spos) (ach (ZD js wi tt te) (RW k)):=by
 intro pins s σ H D I h
 obtain⟨cl,agZ,Gi,RT⟩:=Km (env:=X.env) (scope:=scope) λn hn=>by
  obtain⟨j,hj⟩:=List.getElem?_of_mem (hall _ hn rfl)
  obtain⟨_,_,_,_,k⟩:=hcap.get hj
  exact I.ok.has n k
 rw[exec_Assign_Name_used _ _ _ _ hsw]
 refine zC (wpAny_standAt (zC ?_))
 show wpAny _ X.A (do let _ <-comprehension (.ListComp elt [⟨.Name x px,iter,ifs,0⟩] scope pos) scope X.env _ (newList []) false (eval iter X.env) (some (assign (.Name y py) X.env))) _ _ s
 refine zC (gj (wpAny_comprehension_free (use:=some (assign (.Name y py) X.env)) (Q:=λ_ s'=>SP X pins D .next s') rfl hs agZ hkind hnames (gj (hi pins s σ H _ I h) λv s1 h1=>gj h1 λitv s2 h2=> ?_)) (λ_ s' q=>zI (zI q)))
 obtain⟨it,fp,tn,J,H2,e,I2,T,st2,f2,W,w0,step⟩:=h2
 subst e
 refine Kl (Q:=λx H1=>RW k x σ H1 D.nx) (RR:=λacc C=>compPost (model X.prog X.w) X.A X.xe (some (assign (.Name y py) X.env)) (λ_ s'=>SP X pins D .next s') acc C) hc hcap ht he hcell hkind hx hnd Gi RT I2 T st2 f2 W w0 step λD' C H3 s4 m' I4 hn hC hH q=> ?_
 show wpAny _ X.A (assign (.Name y py) X.env (.ref D')) _ _ _
 refine wpAny_assign_Name (Lr (v:= .ref D') I4 hN hk (.inl hy) rfl (?_) (.inr hy))
 rintro s5 I5 ⟨a,sb,ha⟩
 have neC:C≠a:=by
  rcases ha with e | e
  ·rw[e];exact xS (yA I2.lt hC)
  ·intro z
   obtain⟨v,q⟩:=I2.cell y a e
   exact absurd (yA q.lt (by rw[<-z];exact hC)) (wS _)
 exact⟨m',hn.sameBut sb neC,λh' sb'=>⟨_,H3,I2.letGo I5 hC hH sb',q⟩⟩
end
def aeW:HO->Bool
 | .dT _=>false
 | .lV _ (.dT _)=>false
 | .lV _ (.ins _ _ _)=>false
 | .lV _ (.lV _ _)=>false
 | _=>true
def Flat(H:Hp):Prop:=∀a o,H a=some o->aeW o=true
def Xg(H:Hp):Prop:=∀a C dx fs,H a=some (.ins C dx fs)->H dx=some (.own a)
structure Fgt(H H' S8:Hp):Prop where
 sub:∀a o,S8 a=some o->H' a=some o
 flat:Flat S8
 own:Xg H->Xg S8
 tup:∀b xs,H b=some (.tup xs)->S8 b=some (.tup xs)
 lV:∀b o u,H b=some (.lV o u)->S8 b=some (.lV o u)
 Zx:∀b ps,H b=some (.Zx ps)->∃more,S8 b=some (.Zx (ps++more))
theorem cY.less(x:cY P w H' h a o)(f:aeW o=true)(hw:∀C dx fs,o= .ins C dx fs->H dx=some (.own a)):cY P w H h a o:=by
 cases o with
 | dT kvs=>exact absurd f xA
 | ins C dx fs=>exact⟨hw C dx fs rfl,x.2⟩
 | lV ob u=>
  cases u with
  | dT _=>exact absurd f xA
  | ins _ _ _=>exact absurd f xA
  | lV _ _=>exact absurd f xA
  | _=>exact x
 | _=>exact x
theorem ug.less(x:ug P w H' h)(s:∀a o,H a=some o->H' a=some o)(f:Flat H)(hw:Xg H):ug P w H h:=λa o e=>
 (x a o (s a o e)).less (f a o e) λC dx fs z=>hw a C dx fs (by rw[<-z];exact e)
theorem ug.own(x:ug P w H h):Xg H:=λa _ _ _ e=>(x a _ e).1
def gcK(H:Hp)(Q:VK):VK:=λv H'=>Q v H'\/∃S8,Fgt H H' S8/\Q v S8
theorem gP.gc{P:Program}{w:World}{K:Frag}{mg:Str->Option Value}{base:Heap}{CX:Vi}{k:Nat}{f:Addr}{fd:FuncData}{ps:List Str}{sp sp':Sp}(F:gP P w K mg base CX k f fd ps sp)
  (h:∀vs H Q E,sp' vs H Q E->sp vs H (gcK H Q) E):gP P w K mg base CX k f fd ps sp':=by
 refine⟨λvs H Q E q=>F.len vs H _ E (h _ _ _ _ q),λA outer s H args us vs Q E hr he hb hv hs=>codeAny_mono (F.run A outer s H args us vs (gcK H Q) E hr he hb hv (h _ _ _ _ hs)) λr s' hq=> ?_⟩
 cases r with
 | error e=>exact hq
 | ok fl=>
  cases fl with
  | ret u=>
   obtain⟨v,H',os,bare,un,hok,rv,q⟩:=hq
   rcases q with q | ⟨S8,g,q⟩
   ·exact⟨v,H',os,bare,un,hok,rv,q⟩
   refine⟨v,S8,os,bare,⟨un.keep,un.slot,λb o e n hx=> ?_,un.there,g.tup,g.lV,g.Zx⟩,hok.less g.sub g.flat (g.own he.hok.own),rv,q⟩
   cases z:S8 b with
   | none=>rfl
   | some o'=>
    have z':=g.sub b o' z
    rw[un.free b o e n hx]at z'
    cases z'
  | next=>exact hq
  | brk=>exact hq
  | cont=>exact hq
structure yE(K:Frag)(x qual:Str)(st:Stmt)(dV:Value)(f:Addr)(fd:FuncData):Prop where
 ex:∃(oc:Value) (od:Option Addr) (kV doc pm:Value) (an:Option Addr) (cdv ct:Value) (osl:Array (Option Value)),
  fd=fnOf x qual (fZ st) (cX st) (aX st) dV kV doc pm an cdv ct/\K.lookup f=some ⟨oc,od,.func fd,osl⟩/\codeIn K cdv qual=true
 kp:keepIn K (.ref f)=true
section
variable{P:Program}{w:World}{K:Frag}{mg:Str->Option Value}{base:Heap}
theorem yE.ok{x qual:Str}{st:Stmt}{dV:Value}{f:Addr}{fd:FuncData}{N ps:List Str}{k:Nat}{sp:Sp}(F:yE K x qual st dV f fd)(S:qP N ps (aX st))(len:∀vs H Q E,sp vs H Q E->vs.length=ps.length)
  (hbody:∀(cdv:Value) (A:Around) (outer:List Env) (s:Shared) (H:Hp) (vs:List V) (Q:VK) (E:XK),iw k (A.deeper (envOfC qual (aX st) s.heap.objs.size f cdv))->sp vs H Q E->
   ∃t,HY (xQ YT P w K mg base N qual (aX st) f cdv A outer s H E).nox (cX st) t/\t {nx:=λ_ H'=>gcK H Q .non H',rt:=gcK H Q} (start N vs) H):gP P w K mg base YT (k+1) f fd ps sp:=by
 obtain⟨oc,od,kV,doc,pm,an,cdv,ct,osl,rfl,lk,hcd⟩:=F.ex
 refine gP.gc (sp:=λvs H Q' E=>∃Q,sp vs H Q E/\Q'=gcK H Q) (aeV lk hcd S (λvs H Q E ⟨Q0,q,_⟩=>len vs H Q0 E q) λA outer s H vs Q' E hr hsp=> ?_) λvs H Q E q=>⟨Q,q,rfl⟩
 obtain⟨Q,hsp,rfl⟩:=hsp
 obtain⟨t,h,q⟩:=hbody cdv A outer s H vs Q E hr hsp
 exact⟨t,h.nox,q⟩
theorem yE.binds{x qual:Str}{st:Stmt}{dV:Value}{f:Addr}{fd:FuncData}{ps:List Str}(F:yE K x qual st dV f fd)
  (h:∀(kV doc pm:Value) (an:Option Addr) (cdv ct:Value) (us:List Value),us.length=ps.length->bindArgs (fnOf x qual (fZ st) (cX st) (aX st) dV kV doc pm an cdv ct) ⟨us,[]⟩=pure (ps.zip us)):Binds K fd ps []:=by
 obtain⟨oc,od,kV,doc,pm,an,cdv,ct,osl,rfl,lk,hcd⟩:=F.ex
 exact .all (h kV doc pm an cdv ct)
theorem xK{x qual:Str}{st:Stmt}{dV:Value}{f:Addr}{oc:Value}{od an:Option Addr}{osl:Array (Option Value)}{kV doc pm cdv ct:Value}(l:K.lookup f=some ⟨oc,od,.func (fnOf x qual (fZ st) (cX st) (aX st) dV kV doc pm an cdv ct),osl⟩)
  (c:codeIn K cdv qual=true) (k:keepIn K (.ref f)=true):yE K x qual st dV f (fnOf x qual (fZ st) (cX st) (aX st) dV kV doc pm an cdv ct):=⟨⟨oc,od,kV,doc,pm,an,cdv,ct,osl,rfl,l,c⟩,k⟩
end
theorem iQ:bootBuiltins "len" = some (.builtin "len"):=by decide +kernel
theorem ahy:bootBuiltins "min" = some (.builtin "min"):=by decide +kernel
theorem Py:bootBuiltins "max" = some (.builtin "max"):=by decide +kernel
theorem ahz:bootBuiltins "all" = some (.builtin "all"):=by decide +kernel
theorem Pz:bootBuiltins "list" = some (.type "list"):=by decide +kernel
theorem W5:bootBuiltins "dict" = some (.type "dict"):=by decide +kernel
def ajj:V->List V->Hp->VK->Prop:=λx vs H Q=>∃i,x= .int i/\vs=[]/\Q (.int (Builtin.Int.intBits i:Nat)) H
section
variable{X:Cx}
theorem adi:MtR X "int.bit_length" ajj:=by
 intro pins s σ H x vs v us Q I rx r h
 obtain⟨i,rfl,rfl,q⟩:=h
 obtain⟨t,rfl⟩:=rx
 cases r
 exact call_int_bit_length ⟨.int _,H,I.tok _,⟨_,rfl⟩,q⟩
end
def akJ(g:TG)(tb:TS)(D:Ends)(σ:St)(J:It)(H1:Hp):Prop:=
 ∃W:Nat->Nat->St->Hp->Prop,(∃m,W 0 m σ H1)/\∀i m σ H,W i m σ H->
  (J.stop i H/\D.nx σ H)\/(J.go i H/\∃N:St->Hp->Prop,(∀σ' H',N σ' H'->∃m',m'<m/\W (i+1) m' σ' H')/\∀x H',J.YW i H x H'->g x σ H' λσ2 H2=>tb {D with nx:=N,ct:=N,bk:=D.nx} σ2 H2)
def aep(wi:TI)(g:TG)(tb:TS):TS:=λD σ H=>wi σ H λJ H1=>akJ g tb D σ J H1
theorem V1(hp:PassesOwn (model X.prog X.w) X.A X.env X.xe)(hc:X.calm=true)(hi:PI X tg iter wi)(hg:PG X tg g)(hb:HY X body tb)
  (hs:∀x,foldedSetIterable iter X.env x=pure x:=by intro _;rfl):PS X (.For tg iter body [] pos) (aep wi g tb):=afS hp hc hi hg hb hs
theorem Oi{α:Type}{us:List α}(h:us.length=1):∃a,us=[a]:=match us,h with | [a],_=>⟨a,rfl⟩
theorem xj{α:Type}{us:List α}(h:us.length=2):∃a b,us=[a,b]:=match us,h with | [a,b],_=>⟨a,b,rfl⟩
theorem Eu{α:Type}{us:List α}(h:us.length=3):∃a b c,us=[a,b,c]:=match us,h with | [a,b,c],_=>⟨a,b,c,rfl⟩
theorem Wl{α:Type}{us:List α}(h:us.length=4):∃a b c d,us=[a,b,c,d]:=match us,h with | [a,b,c,d],_=>⟨a,b,c,d,rfl⟩
inductive Dt where
 | non | bl (b:Bool) | int (i:Int) | str (x:Str) | tup (ds:List Dt) | lst (ds:List Dt)
mutual
inductive Is (K:Frag) (H:Hp):V->Dt->Prop
 | non:Is K H .non .non
 | bl (b:Bool):Is K H (.bl b) (.bl b)
 | int (i:Int):Is K H (.int i) (.int i)
 | str (x:Str):Is K H (.str x) (.str x)
 | tup {a:Addr} {xs:List V} {ds:List Dt}:lY K H a xs->S9 K H xs ds->Is K H (.ref a) (.tup ds)
 | lst {a:Addr} {xs:List V} {ds:List Dt}:qO K H a xs->S9 K H xs ds->Is K H (.ref a) (.lst ds)
inductive S9 (K:Frag) (H:Hp):List V->List Dt->Prop
 | nil:S9 K H [] []
 | cons {x:V} {d:Dt} {xs:List V} {ds:List Dt}:Is K H x d->S9 K H xs ds->S9 K H (x::xs) (d::ds)
end
mutual
def jl:Dt->Dt->Bool
 | .non,.non=>true
 | .bl a,.bl b=>a==b
 | .bl a,.int b=>(if a then 1 else 0)==b
 | .int a,.bl b=>a==(if b then 1 else 0)
 | .int a,.int b=>a==b
 | .str a,.str b=>a==b
 | .tup ds,.tup es=>yx ds es
 | .lst ds,.lst es=>yx ds es
 | _,_=>false
def yx:List Dt->List Dt->Bool
 | [],[]=>true
 | d::ds,e::es=>jl d e&&yx ds es
 | _,_=>false
end
mutual
def dep:Dt->Nat
 | .tup ds=>deps ds+1
 | .lst ds=>deps ds+1
 | _=>0
def deps:List Dt->Nat
 | []=>0
 | d::ds=>max (dep d) (deps ds)
end
mutual
theorem E_:∀d:Dt,jl d d=true
 | .non=>by unfold jl;rfl
 | .bl a=>by unfold jl;simp
 | .int a=>by unfold jl;simp
 | .str a=>by unfold jl;simp
 | .tup ds=>by unfold jl;exact Gn ds
 | .lst ds=>by unfold jl;exact Gn ds
theorem Gn:∀ds:List Dt,yx ds ds=true
 | []=>by unfold yx;rfl
 | d::ds=>by unfold yx;rw[E_ d,Gn ds];rfl
end
theorem Kc:∀{ds es:List Dt},ds.length≠es.length->yx ds es=false
 | [],[],h=>absurd rfl h
 | [],_::_,_=>by unfold yx;rfl
 | _::_,[],_=>by unfold yx;rfl
 | d::ds,e::es,h=>by
  unfold yx
  rw[Kc (ds:=ds) (es:=es) λz=>h (by rw[List.length_cons,List.length_cons,z]),Bool.and_false]
theorem Kd:∀{ds es:List Dt},ds.length=es.length->(List.range ds.length).all (λj=>jl (ds.getD j .non) (es.getD j .non))=yx ds es
 | [],[],_=>by unfold yx;rfl
 | [],_::_,h=>by cases h
 | _::_,[],h=>by cases h
 | d::ds,e::es,h=>by
  have ih:=Kd (ds:=ds) (es:=es) (Nat.succ.inj h)
  rw[List.length_cons,List.range_succ_eq_map,List.all_cons,List.all_map,yx,<-ih]
  rfl
theorem S9.length{K:Frag}{H:Hp}:∀{xs:List V} {ds:List Dt},S9 K H xs ds->xs.length=ds.length
 | _,_,.nil=>rfl
 | _,_,.cons _ r=>by rw[List.length_cons,List.length_cons,S9.length r]
theorem S9.get{K:Frag}{H:Hp}:∀{xs:List V} {ds:List Dt} {i:Nat} {x:V},S9 K H xs ds->xs[i]? = some x->∃d,ds[i]? = some d/\Is K H x d
 | _,_,_,_,.nil,e=>by simp at e
 | _,_,0,_,.cons r _,e=>by simp at e;subst e;exact⟨_,rfl,r⟩
 | _,_,i+1,x,.cons _ t,e=>by
  obtain⟨d,h1,h2⟩:=S9.get (i:=i) (x:=x) t (by simpa using e)
  exact⟨d,by simpa using h1,h2⟩
theorem adR(ds es:List Dt):jl (.tup ds) (.tup es)=yx ds es:=by unfold jl;rfl
theorem W2(ds es:List Dt):jl (.lst ds) (.lst es)=yx ds es:=by unfold jl;rfl
section
variable{X:Cx}{pins:List (Addr×Obj)}{σ:St}{H:Hp}{s:Shared}
theorem Inv.Ri(I:Inv X pins σ H s)(h:lY X.K H a xs)(h':qO X.K H a ys):False:=by
 obtain⟨its,_,pt,_⟩:=I.tuple h
 obtain⟨jts,_,pl,_⟩:=I.list h'
 obtain⟨o,e,c,_⟩:=pt
 obtain⟨o',n',e',c',_⟩:=pl
 rw[e]at e';cases e'
 rw[c]at c'
 injection c' with z
 exact absurd z (by decide)
mutual
theorem Inv.abf(I:Inv X pins σ H s):∀{v:V} {d e:Dt},Is X.K H v d->Is X.K H v e->d=e
 | _,_,_,.non,.non=>rfl
 | _,_,_,.bl _,.bl _=>rfl
 | _,_,_,.int _,.int _=>rfl
 | _,_,_,.str _,.str _=>rfl
 | _,_,_,.tup q r,.tup q' r'=>congrArg Dt.tup (Inv.Oz I r (I.Fx q q'▸r'))
 | _,_,_,.lst q r,.lst q' r'=>congrArg Dt.lst (Inv.Oz I r (I.JR q q'▸r'))
 | _,_,_,.tup q _,.lst q' _=>(I.Ri q q').elim
 | _,_,_,.lst q _,.tup q' _=>(I.Ri q' q).elim
theorem Inv.Oz(I:Inv X pins σ H s):∀{vs:List V} {ds es:List Dt},S9 X.K H vs ds->S9 X.K H vs es->ds=es
 | _,_,_,.nil,.nil=>rfl
 | _,_,_,.cons r t,.cons r' t'=>by rw[Inv.abf I r r',Inv.Oz I t t']
end
theorem U3:∀{ds:List Dt} {j:Nat} {d:Dt},ds[j]? = some d->dep d<=deps ds
 | [],_,_,e=>by simp at e
 | d'::ds,0,d,e=>by simp at e;subst e;unfold deps;exact Nat.le_max_left _ _
 | d'::ds,j+1,d,e=>by
  have:=U3 (ds:=ds) (j:=j) (d:=d) (by simpa using e)
  unfold deps
  exact yY this (Nat.le_max_right _ _)
theorem RP(r1:Vals xs its)(r2:Vals ys jts)(q1:S9 X.K H xs ds)(q2:S9 X.K H ys es)
  (ih:∀(j:Nat) (x y:V) (d e:Dt) (u v:Value),ds[j]? = some d->es[j]? = some e->Is X.K H x d->Is X.K H y e->RelV x u->RelV y v->SeqAt.EqAt A s u v (jl d e)):
  ∀j (h1:j<its.toArray.size) (h2:j<jts.toArray.size),SeqAt.EqAt A s its.toArray[j] jts.toArray[j] (jl (ds.getD j .non) (es.getD j .non)):=λj h1 h2=>by
 have l1:=r1.length
 have l2:=r2.length
 have j1:j<xs.length:=by simp at h1;omega
 have j2:j<ys.length:=by simp at h2;omega
 obtain⟨w1,g1,p1⟩:=r1.get (i:=j) (x:=xs[j]) (by simp[j1])
 obtain⟨w2,g2,p2⟩:=r2.get (i:=j) (x:=ys[j]) (by simp[j2])
 obtain⟨d,e1,i1⟩:=q1.get (i:=j) (x:=xs[j]) (by simp[j1])
 obtain⟨e,e2,i2⟩:=q2.get (i:=j) (x:=ys[j]) (by simp[j2])
 have d1:ds.getD j .non=d:=by simp[List.getD,e1]
 have d2:es.getD j .non=e:=by simp[List.getD,e2]
 have c1:its.toArray[j]=w1:=by
  have:=List.getElem?_eq_some_iff.mp g1
  simpa using this.2
 have c2:jts.toArray[j]=w2:=by
  have:=List.getElem?_eq_some_iff.mp g2
  simpa using this.2
 rw[d1,d2,c1,c2]
 exact ih j _ _ d e _ _ e1 e2 i1 i2 p1 p2
theorem Xz(h:n=m)(p:Nat->Bool):((List.range (min n m)).all p&&n==m)=(List.range n).all p:=by
 subst h
 rw[Nat.min_self]
 simp
theorem akl(hf:∀x t,u≠ .float x t)(hs:u=v->b=true)(h:SeqAt.RcAt A s u v b):SeqAt.EqAt A s u v b:=λprog w E Q hq=>by
 unfold eqBool
 refine wpAny_holding (wpAny_ite_split (λz=> ?_) λ_=> ?_)
 ·rw[hs (eq_of_beq z)]at hq
  exact zC (wpAny_rule (zI hq))
 ·cases u<;>first | exact absurd rfl (hf _ _) | exact zC (h prog w E _ (wpAny_truthy_bool hq))
theorem aeA(I:Inv X pins σ H s):∀(n:Nat) (A:Around) (x y:V) (d e:Dt) (u v:Value),dep d<=n->A.units+n<cLine->Is X.K H x d->Is X.K H y e->RelV x u->RelV y v->SeqAt.RcAt A s u v (jl d e)/\SeqAt.RcNeAt A s u v (!jl d e):=by
 intro n
 induction n using Nat.strongRecOn with
 | ind n ih=>
  intro A x y d e u v hd hu hx hy rx ry
  have hu0:A.units<cLine:=()
  have in1:A.in1.units=A.units+1:=rfl
  have ih':∀d',dep d'<n->∀(x y:V) (e:Dt) (u v:Value),Is X.K H x d'->Is X.K H y e->RelV x u->RelV y v->SeqAt.EqAt A.in1 s u v (jl d' e):=λd' hd x y e u v hx hy rx ry=>akl (λb t z=>by
   subst z
   cases hx<;>first | (obtain⟨_,z⟩:=rx;cases z) | cases rx) (λz=>by
   subst z
   cases rx.inj ry
   rw[I.abf hx hy,E_]) (ih _ hd A.in1 x y d' e u v (zac _) () hx hy rx ry).1
  cases hx with
  | non=>
   cases rx
   cases hy with
   | non=>cases ry;unfold jl;exact⟨.none_none,.none_none⟩
   | bl b=>cases ry;unfold jl;exact⟨.none_bool b,.none_bool b⟩
   | int b=>obtain⟨t,rfl⟩:=ry;unfold jl;exact⟨.none_int b t,.none_int b t⟩
   | str b=>obtain⟨t,rfl⟩:=ry;unfold jl;exact⟨.none_str b t,.none_str b t⟩
   | tup q r=>cases ry;obtain⟨_,_,p,_⟩:=I.tuple q;unfold jl;exact⟨.none_tuple p hu0,.none_tuple p hu0⟩
   | lst q r=>cases ry;obtain⟨_,_,p,_⟩:=I.list q;unfold jl;exact⟨.none_list p.isList hu0,.none_list p.isList hu0⟩
  | bl a=>
   cases rx
   cases hy with
   | non=>cases ry;unfold jl;exact⟨.bool_none a,.bool_none a⟩
   | bl b=>cases ry;unfold jl;exact⟨.bool_bool a b,.bool_bool a b⟩
   | int b=>obtain⟨t,rfl⟩:=ry;unfold jl;exact⟨.bool_int a b t,.bool_int a b t⟩
   | str b=>obtain⟨t,rfl⟩:=ry;unfold jl;exact⟨.bool_str a b t,.bool_str a b t⟩
   | tup q r=>cases ry;obtain⟨_,_,p,_⟩:=I.tuple q;unfold jl;exact⟨.bool_tuple a p hu0,.bool_tuple a p hu0⟩
   | lst q r=>cases ry;obtain⟨_,_,p,_⟩:=I.list q;unfold jl;exact⟨.bool_list a p.isList hu0,.bool_list a p.isList hu0⟩
  | int a=>
   obtain⟨t',rfl⟩:=rx
   cases hy with
   | non=>cases ry;unfold jl;exact⟨.int_none a t',.int_none a t'⟩
   | bl b=>cases ry;unfold jl;exact⟨.int_bool a t' b,.int_bool a t' b⟩
   | int b=>obtain⟨t,rfl⟩:=ry;unfold jl;exact⟨.int_int a t' b t,.int_int a t' b t⟩
   | str b=>obtain⟨t,rfl⟩:=ry;unfold jl;exact⟨.int_str a t' b t,.int_str a t' b t⟩
   | tup q r=>cases ry;obtain⟨_,_,p,_⟩:=I.tuple q;unfold jl;exact⟨.int_tuple a t' p hu0,.int_tuple a t' p hu0⟩
   | lst q r=>cases ry;obtain⟨_,_,p,_⟩:=I.list q;unfold jl;exact⟨.int_list a t' p.isList hu0,.int_list a t' p.isList hu0⟩
  | str a=>
   obtain⟨t',rfl⟩:=rx
   cases hy with
   | non=>cases ry;unfold jl;exact⟨.str_none a t',.str_none a t'⟩
   | bl b=>cases ry;unfold jl;exact⟨.str_bool a t' b,.str_bool a t' b⟩
   | int b=>obtain⟨t,rfl⟩:=ry;unfold jl;exact⟨.str_int a t' b t,.str_int a t' b t⟩
   | str b=>obtain⟨t,rfl⟩:=ry;unfold jl;exact⟨.str_str a t' b t,.str_str a t' b t⟩
   | tup q r=>cases ry;obtain⟨_,_,p,_⟩:=I.tuple q;unfold jl;exact⟨.str_tuple a t' p hu0,.str_tuple a t' p hu0⟩
   | lst q r=>cases ry;obtain⟨_,_,p,_⟩:=I.list q;unfold jl;exact⟨.str_list a t' p.isList hu0,.str_list a t' p.isList hu0⟩
  | @tup a xs ds q r=>
   cases(show u=Value.ref a from rx)
   obtain⟨its,r1,p1,_⟩:=I.tuple q
   cases hy with
   | non=>cases ry;unfold jl;exact⟨.tuple_none p1 hu0,.tuple_none p1 hu0⟩
   | bl b=>cases ry;unfold jl;exact⟨.tuple_bool b p1 hu0,.tuple_bool b p1 hu0⟩
   | int b=>obtain⟨t,rfl⟩:=ry;unfold jl;exact⟨.tuple_int b t p1 hu0,.tuple_int b t p1 hu0⟩
   | str b=>obtain⟨t,rfl⟩:=ry;unfold jl;exact⟨.tuple_str b t p1 hu0,.tuple_str b t p1 hu0⟩
   | lst q' r'=>cases ry;obtain⟨_,_,p,_⟩:=I.list q';unfold jl;exact⟨.tuple_list p1 p.isList hu0,.tuple_list p1 p.isList hu0⟩
   | @tup b ys es q' r'=>
    cases(show v=Value.ref b from ry)
    obtain⟨jts,r2,p2,_⟩:=I.tuple q'
    have l1:=r1.length
    have l2:=r2.length
    have l3:=r.length
    have l4:=r'.length
    have dl:deps ds<n:=by unfold dep at hd;omega
    have it:=RP (A:=A.in1) (s:=s) r1 r2 r r' λj x y d e u v h1 h2 ix iy rx ry=>ih' d (Nat.lt_of_le_of_lt (U3 h1) dl) x y e u v ix iy rx ry
    have ez:((List.range (min its.toArray.size jts.toArray.size)).all (λj=>jl (ds.getD j .non) (es.getD j .non))&&its.toArray.size==jts.toArray.size)=jl (.tup ds) (.tup es):=by
     rw[adR]
     by_cases hl:ds.length=es.length
     ·rw[Xz (by simp;omega),<-Kd hl]
      congr 2
      simp;omega
     ·rw[Kc hl]
      have:(its.toArray.size==jts.toArray.size)=false:=by simp;omega
      rw[this,Bool.and_false]
    rw[<-ez]
    exact⟨.tuples (e:=λj=>jl (ds.getD j .non) (es.getD j .non)) p1 p2 hu0 it,.tuples (e:=λj=>jl (ds.getD j .non) (es.getD j .non)) p1 p2 hu0 it⟩
  | @lst a xs ds q r=>
   cases(show u=Value.ref a from rx)
   obtain⟨its,r1,p1,_⟩:=I.list q
   cases hy with
   | non=>cases ry;unfold jl;exact⟨.list_none p1.isList hu0,.list_none p1.isList hu0⟩
   | bl b=>cases ry;unfold jl;exact⟨.list_bool b p1.isList hu0,.list_bool b p1.isList hu0⟩
   | int b=>obtain⟨t,rfl⟩:=ry;unfold jl;exact⟨.list_int b t p1.isList hu0,.list_int b t p1.isList hu0⟩
   | str b=>obtain⟨t,rfl⟩:=ry;unfold jl;exact⟨.list_str b t p1.isList hu0,.list_str b t p1.isList hu0⟩
   | tup q' r'=>cases ry;obtain⟨_,_,p,_⟩:=I.tuple q';unfold jl;exact⟨.list_tuple p1.isList p hu0,.list_tuple p1.isList p hu0⟩
   | @lst b ys es q' r'=>
    cases(show v=Value.ref b from ry)
    obtain⟨jts,r2,p2,_⟩:=I.list q'
    have l1:=r1.length
    have l2:=r2.length
    have l3:=r.length
    have l4:=r'.length
    have dl:deps ds<n:=by unfold dep at hd;omega
    have it:=RP (A:=A.in1) (s:=s) r1 r2 r r' λj x y d e u v h1 h2 ix iy rx ry=>ih' d (Nat.lt_of_le_of_lt (U3 h1) dl) x y e u v ix iy rx ry
    by_cases hl:ds.length=es.length
    ·have ez:(List.range its.toArray.size).all (λj=>jl (ds.getD j .non) (es.getD j .non))=jl (.lst ds) (.lst es):=by
      rw[W2,<-Kd hl]
      congr 2
      simp;omega
     have sz:its.toArray.size=jts.toArray.size:=by simp;omega
     rw[<-ez]
     exact⟨.lists (e:=λj=>jl (ds.getD j .non) (es.getD j .non)) p1.isList p2.isList sz hu0 it,.lists (e:=λj=>jl (ds.getD j .non) (es.getD j .non)) p1.isList p2.isList sz hu0 it⟩
    ·have sz:(its.toArray.size != jts.toArray.size)=true:=by simp;omega
     rw[W2,Kc hl]
     exact⟨.lists_lengths p1.isList p2.isList sz hu0,.lists_lengths p1.isList p2.isList sz hu0⟩
end
def amF(K:Frag):R2:=λx y H Q=>∃d e,Is K H x d/\Is K H y e/\dep d<=20/\Q (.bl (jl d e)) H
def amC(K:Frag):R2:=λx y H Q=>∃d e,Is K H x d/\Is K H y e/\dep d<=20/\Q (.bl (!jl d e)) H
theorem ago(hu:X.A.units+64<cLine):tE X (compareOp .Eq) (amF X.K):=by
 intro pins s σ H x y v u Q I rx ry h
 obtain⟨d,e,hx,hy,hd,q⟩:=h
 exact(aeA I 20 X.A _ _ _ _ _ _ hd () hx hy rx ry).1 _ _ _ _ ⟨.bl _,H,I,rfl,q⟩
theorem agi(hu:X.A.units+64<cLine):tE X (compareOp .NotEq) (amC X.K):=by
 intro pins s σ H x y v u Q I rx ry h
 obtain⟨d,e,hx,hy,hd,q⟩:=h
 exact(aeA I 20 X.A _ _ _ _ _ _ hd () hx hy rx ry).2 _ _ _ _ ⟨.bl _,H,I,rfl,q⟩
end L2
namespace HM
open PySem
theorem PL(x:Int):Builtin.bitNot (Builtin.bitNot x)=x:=by
 unfold Builtin.bitNot;omega
theorem Sy(n:Nat):¬(0<=Builtin.bitNot (n:Int)):=by
 unfold Builtin.bitNot;omega
theorem Ks(a b:Nat):Builtin.bitAnd (a:Int) (b:Int)=((a &&& b:Nat):Int):=by
 unfold Builtin.bitAnd
 simp
theorem W9(a b:Nat):Builtin.bitOr (a:Int) (b:Int)=((a ||| b:Nat):Int):=by
 unfold Builtin.bitOr Builtin.bitAnd
 rw[zag (Sy a),zag (Sy b)]
 dsimp only
 rw[PL,PL,PL]
 simp
def eG(n:Nat):List Nat:=(List.range 60).filter λh=>n.testBit h
def cnt(n:Nat):Nat:=(eG n).length
theorem V7(h:Nat):(1:Int)*2 ^ h=((2 ^ h:Nat):Int):=by simp
theorem Kv(n h:Nat):(n &&& 2 ^ h≠0)↔n.testBit h=true:=by
 constructor
 ·intro hn
  cases e:n.testBit h with
  | true=>rfl
  | false=>
   refine absurd (Nat.eq_of_testBit_eq λi=> ?_) hn
   rw[Nat.testBit_and,Nat.testBit_two_pow,Nat.zero_testBit]
   by_cases hi:h=i
   ·subst hi;simp[e]
   ·simp[hi]
 ·intro e hz
  have t:(n &&& 2 ^ h).testBit h=true:=by rw[Nat.testBit_and,e,Nat.testBit_two_pow];simp
  rw[hz,Nat.zero_testBit]at t
  cases t
theorem Tu(hn:n<2 ^ 60)(e:n.testBit h=true):h<60:=by
 by_cases hh:h<60
 ·exact hh
 ·have:n<2 ^ h:=yA hn (Nat.pow_le_pow_right (by decide) ())
  rw[Nat.testBit_lt_two_pow this]at e
  cases e
theorem yg(hab:a<=b)(h:∀i,a<=i->i<b->p i=false):(List.range b).filter p=(List.range a).filter p:=by
 obtain⟨k,rfl⟩:=Nat.exists_eq_add_of_le hab
 rw[List.range_add,List.filter_append]
 have:(List.map (λx=>a+x) (List.range k)).filter p=[]:=by
  rw[List.filter_eq_nil_iff]
  intro x hx
  obtain⟨j,hj,rfl⟩:=List.mem_map.mp hx
  rw[h (a+j) () (by have:=List.mem_range.mp hj;omega)]
  decide
 rw[this,List.append_nil]
theorem O1(n:Nat)(hn:n<2 ^ 60):(List.range (Builtin.Int.intBits (n:Int))).filter (λh=>n.testBit h)=eG n:=by
 unfold eG
 have anl:∀h,n.testBit h=true->h<Builtin.Int.intBits (n:Int):=by
  intro h e
  have h0:n≠0:=by rintro rfl;rw[Nat.zero_testBit]at e;cases e
  unfold Builtin.Int.intBits
  have:¬((n:Int)==0)=true:=by simp[h0]
  rw[if_neg this]
  by_cases hh:h<n.log2+1
  ·simpa using hh
  ·have:n<2 ^ h:=yA (Nat.lt_log2_self) (Nat.pow_le_pow_right (by decide) ())
   rw[Nat.testBit_lt_two_pow this]at e
   cases e
 rcases Nat.le_total (Builtin.Int.intBits (n:Int)) 60 with h | h
 ·refine(yg h λi hi _=> ?_).symm
  cases e:n.testBit i with
  | false=>rfl
  | true=>have:=anl i e;omega
 ·refine yg h λi hi _=> ?_
  cases e:n.testBit i with
  | false=>rfl
  | true=>have:=Tu hn e;omega
theorem intBits_le(n:Nat)(hn:n<2 ^ 60):Builtin.Int.intBits (n:Int)<=60:=by
 unfold Builtin.Int.intBits
 split
 ·decide
 ·rename_i h
  have h0:n≠0:=by rintro rfl;simp at h
  have:(n:Int).natAbs.log2<60:=by
   have e:(n:Int).natAbs=n:=by simp
   rw[e]
   exact(Nat.log2_lt h0).mpr hn
  omega
theorem Rv:h∈eG n↔h<60/\n.testBit h=true:=by
 unfold eG;rw[List.mem_filter,List.mem_range]
end HM
set_option Elab.async false
set_option linter.all false
set_option maxRecDepth 100000
namespace L2
open PySem PySem.Spec PyProof.Rows
section
variable{κ:Type}[DecidableEq κ]
noncomputable def Bw(kvs:List (κ×V))(k:κ):Option V:=(kvs.find? λkv=>decide (kv.1=k)).map (·.2)
noncomputable def putK(kvs:List (κ×V))(k:κ)(v:V):List (κ×V):=
 if(kvs.any λkv=>decide (kv.1=k))=true then kvs.map (λkv=>if kv.1=k then(kv.1,v)else kv)else kvs++[(k,v)]
theorem Dr{p:κ×V}{r:List (κ×V)}{k:κ}(e:p.1=k):Bw (p::r) k=some p.2:=by simp[Bw,List.find?_cons,e]
theorem Ds{p:κ×V}{r:List (κ×V)}{k:κ}(e:¬p.1=k):Bw (p::r) k=Bw r k:=by simp[Bw,List.find?_cons,e]
theorem Qq(k:κ):∀kvs:List (κ×V),(kvs.any λkv=>decide (kv.1=k))=(Bw kvs k).isSome
 | []=>rfl
 | p::r=>by
  rw[List.any_cons]
  by_cases e:p.1=k
  ·simp only[Dr e,zah e,Bool.true_or,Option.isSome_some]
  ·rw[Ds e,zag e,Bool.false_or];exact Qq k r
theorem z9(kvs:List (κ×V))(k:κ)(v:V):(putK kvs k v).length<=kvs.length+1:=by
 unfold putK
 split
 ·rw[zao];omega
 ·rw[List.length_append,List.length_cons,List.length_nil];omega
theorem yD.vO(r:yD o u):o.isSome=u.isSome:=by
 cases o with
 | none=>cases u with
  | none=>rfl
  | some _=>exact(show False from r).elim
 | some _=>cases u with
  | none=>exact(show False from r).elim
  | some _=>rfl
theorem yD.getD(r:yD o u)(rd:RelV d d'):RelV (o.getD d) (u.getD d'):=by
 cases o with
 | none=>cases u with
  | none=>exact rd
  | some _=>exact(show False from r).elim
 | some _=>cases u with
  | none=>exact(show False from r).elim
  | some _=>exact r
theorem KV.val(r:KV kvs vs)(k:κ):yD (Bw kvs k) (valueAt vs k):=by
 unfold KV at r
 induction r with
 | nil=>exact zab
 | @cons p q ps qs h t ih=>
  obtain⟨h1,h2⟩:=h
  by_cases e:p.1=k
  ·have e':q.1=k:=h1.symm.trans e
   have b:valueAt (q::qs) k=some q.2:=by simp[valueAt,List.find?_cons,e']
   rw[Dr e,b];exact h2
  ·have e':¬q.1=k:=λz=>e (h1.trans z)
   have b:valueAt (q::qs) k=valueAt qs k:=by simp[valueAt,List.find?_cons,e']
   rw[Ds e,b];exact ih
theorem KV.any(r:KV kvs vs)(k:κ):(kvs.any λkv=>decide (kv.1=k))=vs.any λkv=>decide (kv.1=k):=by
 unfold KV at r
 induction r with
 | nil=>rfl
 | cons h t ih=>rw[List.any_cons,List.any_cons,ih,h.1]
theorem KV.repl(r:KV kvs vs)(k:κ)(ry:RelV y u):
  KV (kvs.map λkv=>if kv.1=k then(kv.1,y)else kv) (vs.map λkv=>if kv.1=k then(kv.1,u)else kv):=by
 unfold KV at r ⊢
 induction r with
 | nil=>exact .nil
 | @cons p q ps qs h t ih=>
  rw[List.map_cons,List.map_cons]
  refine .cons ?_ ih
  obtain⟨h1,h2⟩:=h
  by_cases e:p.1=k
  ·rw[if_pos e,if_pos (h1.symm.trans e)];exact⟨h1,ry⟩
  ·rw[if_neg e,if_neg (λz=>e (h1.trans z))];exact⟨h1,h2⟩
theorem KV.put(r:KV kvs vs)(k:κ)(ry:RelV y u):KV (putK kvs k y) (stored vs k u):=by
 unfold putK stored
 rw[r.any k]
 by_cases e:(vs.any λkv=>decide (kv.1=k))=true
 ·rw[if_pos e,if_pos e];exact r.repl k ry
 ·rw[if_neg e,if_neg e];exact Paired.snoc r ⟨rfl,ry⟩
theorem KV.length(r:KV kvs vs):kvs.length=vs.length:=Paired.length r
end
theorem G5(r:RelV (kV k) u):(bI P w).is k u=true:=by
 cases k with
 | inl i=>obtain⟨t,e⟩:=(show ∃t,u=Value.int i t from r);subst e;exact Rr P w i t
 | inr x=>obtain⟨t,e⟩:=(show ∃t,u=Value.str x t from r);subst e;exact Rq P w x t
theorem Mi:∀{ks:List Key} {us:List Value},Vals (ks.map kV) us->ItemsAre (bI P w) ks us
 | [],_,r=>by rw[List.map_nil]at r;cases r;exact .nil
 | k::ks,_,r=>by
  rw[List.map_cons]at r
  cases r with
  | cons h t=>exact .cons (G5 h) (Mi t)
abbrev KT(H:Hp):List (List Key×V)->List (List Key×Addr×Value)->Prop:=Paired λp q=>p.1=q.1/\H q.2.1=some (.tup (p.1.map kV))/\RelV p.2 q.2.2
theorem KT.val(r:KT H kvs xs)(k:List Key):yD (Bw kvs k) ((atKey xs k).map (·.2)):=by
 induction r with
 | nil=>exact zab
 | @cons p q ps qs h t ih=>
  obtain⟨h1,_,h2⟩:=h
  by_cases e:p.1=k
  ·have e':q.1=k:=h1.symm.trans e
   have b:atKey (q::qs) k=some q.2:=by simp[atKey,List.find?_cons,e']
   rw[Dr e,b];exact h2
  ·have e':¬q.1=k:=λz=>e (h1.trans z)
   have b:atKey (q::qs) k=atKey qs k:=by simp[atKey,List.find?_cons,e']
   rw[Ds e,b];exact ih
theorem KT.repl(r:KT H kvs xs)(k:List Key)(ry:RelV y u):
  KT H (kvs.map λkv=>if kv.1=k then(kv.1,y)else kv) (xs.map (putAt k u)):=by
 induction r with
 | nil=>exact .nil
 | @cons p q ps qs h t ih=>
  rw[List.map_cons,List.map_cons]
  refine .cons ?_ ih
  obtain⟨h1,h2,h3⟩:=h
  unfold putAt
  by_cases e:p.1=k
  ·rw[if_pos e,if_pos (h1.symm.trans e)];exact⟨h1,h2,ry⟩
  ·rw[if_neg e,if_neg (λz=>e (h1.trans z))];exact⟨h1,h2,h3⟩
theorem KT.put(r:KT H kvs xs)(k:List Key)(hb:H b=some (.tup (k.map kV)))(ry:RelV y u):
  KT H (putK kvs k y) (storedH xs k b u):=by
 have e:(kvs.any λkv=>decide (kv.1=k))=(atKey xs k).isSome:=by
  rw[Qq,(r.val k).vO,Option.isSome_map]
 unfold putK storedH
 rw[e]
 by_cases q:(atKey xs k).isSome=true
 ·rw[if_pos q,if_pos q];exact r.repl k ry
 ·rw[if_neg q,if_neg q];exact Paired.snoc r ⟨rfl,hb,ry⟩
theorem KT.keeps(r:KT H kvs xs)(ht:∀b ys,H b=some (.tup ys)->H' b=some (.tup ys)):KT H' kvs xs:=
 Paired.agy r λ_ _ z=>⟨z.1,ht _ _ z.2.1,z.2.2⟩
section
variable{P:Program}{w:World}{H:Hp}{h:Heap}{a:Addr}
theorem aez(ok:ug P w H h)(e:Rd H a u):cY P w H h a u:=e.ok ok
theorem EY(ok:ug P w H h)(e:Rd H a (.dK kvs)):kvs.length<=sizeLine/\(a==sysModules)=false/\∃vs,KV kvs vs/\h.DictOf (bI P w) a vs:=
 show cY P w H h a (.dK kvs)from aez ok e
theorem abF(ok:ug P w H h)(e:H a=some (.dK kvs)):kvs.length<=sizeLine/\(a==sysModules)=false/\∃vs,KV kvs vs/\h.DictOf (bI P w) a vs:=EY ok (.inl e)
theorem CT(ok:ug P w H h)(e:H a=some (.tup (ks.map kV))):(tupleKind (bI P w)).is h ks a:=by
 obtain⟨_,its,r,o,h1,h2,n,h3⟩:=(show cY P w H h a (.tup (ks.map kV))from ok a _ e)
 exact⟨o,its.toArray,n,h1,h2,h3,by simpa using Mi r⟩
theorem G9(ok:ug P w H h)(e:Rd H a (.dT kvs)):kvs.length<=sizeLine/\(a==sysModules)=false/\
  ∃xs,KT H kvs xs/\h.DictOfH (tupleKind (bI P w)) a xs:=by
 obtain⟨z,y,xs,r,o,es,ep,h1,h2,h3,h4,h5⟩:=(show cY P w H h a (.dT kvs)from aez ok e)
 refine⟨z,y,xs,r,o,es,ep,h1,h2,h3,h4,λx hx=> ?_,h5⟩
 have all:∀{l:List (List Key×V)} {m:List (List Key×Addr×Value)},KT H l m->∀x∈m,(tupleKind (bI P w)).is h x.1 x.2.1:=by
  intro l m q
  induction q with
  | nil=>intro x hx;exact nomatch hx
  | @cons p q ps qs hq t ih=>
   intro x hx
   rcases List.mem_cons.mp hx with e | hx
   ·subst e
    exact CT ok (by rw[<-hq.1];exact hq.2.1)
   ·exact ih x hx
 exact all r x hx
theorem aeZ(ok:ug P w H h)(e:H a=some (.dT kvs)):kvs.length<=sizeLine/\(a==sysModules)=false/\
  ∃xs,KT H kvs xs/\h.DictOfH (tupleKind (bI P w)) a xs:=G9 ok (.inl e)
end
def Dm(H:Hp)(a:Addr)(y:V)(r:Option V):Prop:=
 (∃kvs k,Rd H a (.dK kvs)/\y=kV k/\r=Bw kvs k)\/∃kvs k b,Rd H a (.dT kvs)/\y= .ref b/\H b=some (.tup (k.map kV))/\r=Bw kvs k
def Qf(H:Hp)(a:Addr)(y v:V)(H':Hp):Prop:=
 (∃kvs k,H a=some (.dK kvs)/\y=kV k/\kvs.length<sizeLine/\H'=upd H a (.dK (putK kvs k v)))\/
 ∃kvs k b,H a=some (.dT kvs)/\y= .ref b/\H b=some (.tup (k.map kV))/\kvs.length<sizeLine/\H'=upd H a (.dT (putK kvs k v))
theorem Dm.k{H:Hp}{a:Addr}{kvs:List (Key×V)}{k:Key}(e:H a=some (.dK kvs)):Dm H a (kV k) (Bw kvs k):= .inl ⟨kvs,k,.inl e,rfl,rfl⟩
theorem Dm.t{kvs:List (List Key×V)}{k:List Key}(e:H a=some (.dT kvs))(eb:H b=some (.tup (k.map kV))):Dm H a (.ref b) (Bw kvs k):= .inr ⟨kvs,k,b,.inl e,rfl,eb,rfl⟩
theorem Qf.k{H:Hp}{a:Addr}{kvs:List (Key×V)}{k:Key}{v:V}(e:H a=some (.dK kvs))(hl:kvs.length<sizeLine):Qf H a (kV k) v (upd H a (.dK (putK kvs k v))):= .inl ⟨kvs,k,e,rfl,hl,rfl⟩
theorem Qf.t{kvs:List (List Key×V)}{k:List Key}(e:H a=some (.dT kvs))(eb:H b=some (.tup (k.map kV)))(hl:kvs.length<sizeLine):
  Qf H a (.ref b) v (upd H a (.dT (putK kvs k v))):= .inr ⟨kvs,k,b,e,rfl,eb,hl,rfl⟩
section
variable{X:Cx}{pins:List (Addr×Obj)}{σ:St}{H:Hp}{s:Shared}{a:Addr}{y v:V}{u r:Value}{o:Option V}{A:Around}{E:Value->Shared->Prop}
theorem Inv.big(I:Inv X pins σ H s):sysModules<s.heap.objs.size:=by
 have h:mainGlobals<s.heap.objs.size:=(I.mod.glob.keeps I.bk).lt
 exact Nat.lt_trans (by decide) h
theorem Yw{Q:Value->Shared->Prop}(hu:A.units+1<cLine)(I:Inv X pins σ H s)(g:Dm H a y (some v))(ry:RelV y u)(h:∀w' s',Inv X pins σ H s'->RelV v w'->Q w' s'):
  wpAny (model X.prog X.w) A (getItem (.ref a) u) Q E s:=by
 rcases g with⟨kvs,k,e,ey,l⟩ | ⟨kvs,k,b,e,ey,eb,l⟩
 ·subst ey
  obtain⟨z,hd,vs,rel,dd⟩:=EY I.hok e
  obtain⟨w',hw,rw'⟩:=yD.some_of (v:=v) (o:=valueAt vs k) (by rw[l];exact rel.val k)
  exact wpAny_getItem_of (G5 ry) dd.mapOf hw (h w' _ (I.tok _) rw')
 ·subst ey
  cases(show u=Value.ref b from ry)
  obtain⟨z,hd,xs,rel,dd⟩:=G9 I.hok e
  obtain⟨w',hw,rw'⟩:=yD.some_of (v:=v) (o:=(atKey xs k).map (·.2)) (by rw[l];exact rel.val k)
  obtain⟨p,hp,hp2⟩:=Option.map_eq_some_iff.mp hw
  refine wpAny_getItem_heap (tupleKind_room_in1 hu) (CT I.hok eb) dd hp ?_
  rw[hp2]
  exact h w' _ (I.tok _) rw'
theorem anR{Q:Value->Shared->Prop}(hu:A.units+1<cLine)(I:Inv X pins σ H s)(g:Dm H a y o)(ry:RelV y u)(h:∀s',Inv X pins σ H s'->Q (.bool o.isSome) s'):
  wpAny (model X.prog X.w) A (compareOp .In u (.ref a)) Q E s:=by
 rcases g with⟨kvs,k,e,ey,l⟩ | ⟨kvs,k,b,e,ey,eb,l⟩
 ·subst ey
  obtain⟨z,hd,vs,rel,dd⟩:=EY I.hok e
  refine wpAny_in_of (G5 ry) hd dd.mapOf ?_
  rw[<-(rel.val k).vO,<-l]
  exact h _ (I.tok _)
 ·subst ey
  cases(show u=Value.ref b from ry)
  obtain⟨z,hd,xs,rel,dd⟩:=G9 I.hok e
  refine wpAny_in_heap (tupleKind_room_in1 hu) (CT I.hok eb) hd dd ?_
  have q:=(rel.val k).vO
  rw[Option.isSome_map]at q
  rw[<-q,<-l]
  exact h _ (I.tok _)
theorem adS{Q:Value->Shared->Prop}(hu:A.units+1<cLine)(I:Inv X pins σ H s)(g:Dm H a y o)(ry:RelV y u)(h:∀s',Inv X pins σ H s'->Q (.bool (!o.isSome)) s'):
  wpAny (model X.prog X.w) A (compareOp .NotIn u (.ref a)) Q E s:=by
 rcases g with⟨kvs,k,e,ey,l⟩ | ⟨kvs,k,b,e,ey,eb,l⟩
 ·subst ey
  obtain⟨z,hd,vs,rel,dd⟩:=EY I.hok e
  refine wpAny_notIn_of (G5 ry) hd dd.mapOf ?_
  rw[<-(rel.val k).vO,<-l]
  exact h _ (I.tok _)
 ·subst ey
  cases(show u=Value.ref b from ry)
  obtain⟨z,hd,xs,rel,dd⟩:=G9 I.hok e
  refine wpAny_notIn_heap (tupleKind_room_in1 hu) (CT I.hok eb) hd dd ?_
  have q:=(rel.val k).vO
  rw[Option.isSome_map]at q
  rw[<-q,<-l]
  exact h _ (I.tok _)
theorem Ph(I:Inv X pins σ H s)(mu:Mut (H a))(hs:Heap.SameBut a s.heap h')(he:∃q,h'.get? a=some q)(new:cY X.prog X.w (upd H a ob) h' a ob):
  Inv X pins σ (upd H a ob) {s with heap:=h',toks:=t'}:=
 I.write (x:=a) (e:=a) mu (.inl rfl) (λb q hb z=>(hs.2 b hb).trans z) he new
theorem abG(z:kvs.length<=sizeLine)(hd:(a==sysModules)=false)(rel:KV kvs vs)(dd:h'.DictOf (bI P w) a vs):
  cY P w H' h' a (.dK kvs):=⟨z,hd,vs,rel,dd⟩
theorem Mv{Q:Unit->Shared->Prop}(hu:A.units+1<cLine)(I:Inv X pins σ H s)(g:Qf H a y v H')(ry:RelV y u)(rv:RelV v r)(h:∀s',Inv X pins σ H' s'->Q .unit s'):
  wpAny (model X.prog X.w) A (setItem (.ref a) u r) Q E s:=by
 rcases g with⟨kvs,k,e,ey,l,eH⟩ | ⟨kvs,k,b,e,ey,eb,l,eH⟩
 ·subst ey eH
  obtain⟨z,hd,vs,rel,dd⟩:=abF I.hok e
  have hz:vs.length<=sizeLine:=by rw[<-rel.length];exact z
  have hl:(putK kvs k v).length<=sizeLine:=by have:=z9 kvs k v;omega
  refine wpAny_setItem_pairs (hsz:=hz) (G5 ry) dd λh' dd' hs=>h _ ?_
  have he:∃q,h'.get? a=some q:=let⟨q,_,_,hq,_⟩:=dd';⟨q,hq⟩
  exact Ph I (by rw[e];exact zab) hs he (abG hl hd (rel.put k rv) dd')
 ·subst ey eH
  cases(show u=Value.ref b from ry)
  obtain⟨z,hd,xs,rel,dd⟩:=aeZ I.hok e
  have hz:xs.length<=sizeLine:=by rw[<-Paired.length rel];exact z
  have hl:(putK kvs k v).length<=sizeLine:=by have:=z9 kvs k v;omega
  refine wpAny_setItem_heap (hsz:=hz) (tupleKind_room_in1 hu) (CT I.hok eb) dd λh' dd' hs=>h _ ?_
  obtain⟨q,es,ep,hq,h2,h3,h4,_,h5⟩:=dd'
  refine Ph I (by rw[e];exact zab) hs ⟨q,hq⟩ ⟨hl,hd,_,(rel.put k eb rv).keeps λc ys ec=> ?_,q,es,ep,hq,h2,h3,h4,h5⟩
  rw[aH (ajE ec e (λz=>nomatch z))]
  exact ec
end
section
variable{X:Cx}{pins:List (Addr×Obj)}{σ:St}{H:Hp}{s:Shared}{a:Addr}{kvs:List (Key×V)}{k:Key}{u:Value}{A:Around}{E:Value->Shared->Prop}
theorem akq{Q:Value->Shared->Prop}(I:Inv X pins σ H s)(e:Rd H a (.dK kvs))(h:∀t s',Inv X pins σ H s'->Q (.int kvs.length t) s'):wpAny (model X.prog X.w) A (call (.builtin "len") [.ref a]) Q E s:=by
 obtain⟨z,hd,vs,rel,dd⟩:=EY I.hok e
 refine call_len_dict hd dd (by rw[<-rel.length];rw[sizeLine_eq]at z;omega) ?_
 rw[<-rel.length]
 exact h _ _ (I.tok _)
end
theorem R7(I:Inv X pins σ H s)(g:Dm H a y o):s.TypeIs (.ref a) "dict" := by
 rcases g with⟨kvs,k,e,_,_⟩ | ⟨kvs,k,b,e,_,_,_⟩
 ·obtain⟨_,_,vs,_,dd⟩:=EY I.hok e
  exact dd.typeIs
 ·obtain⟨_,_,xs,_,dd⟩:=G9 I.hok e
  exact dd.typeIs
theorem abH(h:Heap)(hb:sysModules<h.objs.size):cY P w H (h.push {cls:= .type "dict",data:= .dict #[]}) h.objs.size (.dK []):=
 ⟨Nat.zero_le _,beq_eq_false_iff_ne.mpr (Ne.symm (xD hb)),[],.nil,Heap.DictOf.new h⟩
def afl:TE:=λ_ H Q=>∀p,H p=none->Q (.ref p) (upd H p (.dK []))
section
variable{X:Cx}{pos:Pos}
theorem aaK:PE X (.Dict [] [] pos) afl:=λpins s σ H Q I h=>
 wpAny_Dict_empty ⟨.ref s.heap.objs.size,_,I.laid (a:=s.heap.objs.size) (o:= .dK []) (t':=s.toks) (λ_ _ q=>zD _ q) (zac _) (abH s.heap I.big),rfl,h _ (I.hok.fresh (zac _))⟩
end
def uB(kvs more:List (Key×V)):List (Key×V):=more.foldl (λacc kv=>putK acc kv.1 kv.2) kvs
theorem KV.merge:∀{more:List (Key×V)} {rs:List (Key×Value)} {kvs:List (Key×V)} {vs:List (Key×Value)},KV more rs->KV kvs vs->KV (uB kvs more) (merged vs rs):=by
 intro more rs kvs vs r
 unfold KV at r
 induction r generalizing kvs vs with
 | nil=>intro q;exact q
 | @cons p q ps qs h t ih=>
  intro r0
  have e:KV (putK kvs p.1 p.2) (stored vs q.1 q.2):=by
   have:=r0.put p.1 h.2
   rw[<-h.1];exact this
  exact ih e
theorem Cj:∀(more kvs:List (Key×V)),(uB kvs more).length<=kvs.length+more.length
 | [],kvs=>by show kvs.length<=kvs.length+0;omega
 | p::r,kvs=>by
  have h1:=Cj r (putK kvs p.1 p.2)
  have h2:=z9 kvs p.1 p.2
  show(uB (putK kvs p.1 p.2) r).length<=_
  rw[List.length_cons];omega
structure M1(X:Cx)(o:Expr)(m:Str)(apos:Pos)(e:Expr)(cpos:Pos):Prop where
 base:attributeBase o m X.env (eval o X.env)=eval o X.env
 few:((backTo cpos (starEach [e] X.env)).all (λx=> !x.1)&&(backToKw cpos (keywordEach [] X.env)).all (λx=>x.1.isSome)
  && decide (([e]:List Expr).length+([]:List Keyword).length+(if([]:List Keyword).isEmpty then 0 else 1)<30))=true
 line:(apos.endLine==cpos.line)=true
 trees:backTo cpos (starEach [e] X.env)=[(false,eval e X.env)]
structure M2(X:Cx)(o:Expr)(m:Str)(apos:Pos)(e f:Expr)(cpos:Pos):Prop where
 base:attributeBase o m X.env (eval o X.env)=eval o X.env
 few:((backTo cpos (starEach [e,f] X.env)).all (λx=> !x.1)&&(backToKw cpos (keywordEach [] X.env)).all (λx=>x.1.isSome)
  && decide (([e,f]:List Expr).length+([]:List Keyword).length+(if([]:List Keyword).isEmpty then 0 else 1)<30))=true
 line:(apos.endLine==cpos.line)=true
 trees:backTo cpos (starEach [e,f] X.env)=[(false,eval e X.env),(false,eval f X.env)]
def IsD(H:Hp)(a:Addr):Prop:=(∃kvs,Rd H a (.dK kvs))\/∃kvs,Rd H a (.dT kvs)
theorem Uz(I:Inv X pins σ H s)(d:IsD H a):
  s.TypeIs (.ref a) "dict" /\ (∀b,Value.ref a= .ref b->∃ob,s.heap.get? b=some ob/\ob.dict=none)/\(a==sysModules)=false:=by
 rcases d with⟨kvs,e⟩ | ⟨kvs,e⟩
 ·obtain⟨_,hd,vs,_,dd⟩:=EY I.hok e
  refine⟨dd.typeIs,λb q=> ?_,hd⟩
  cases q
  obtain⟨ob,_,_,h1,h2,_⟩:=dd
  exact⟨ob,h1,h2.2.1⟩
 ·obtain⟨_,hd,xs,_,dd⟩:=G9 I.hok e
  refine⟨dd.typeIs,λb q=> ?_,hd⟩
  cases q
  obtain⟨ob,_,_,h1,h2,_⟩:=dd
  exact⟨ob,h1,h2.2.1⟩
section
variable{X:Cx}{pins:List (Addr×Obj)}{σ:St}{H:Hp}{s:Shared}{a:Addr}{y d:V}{u r:Value}{o:Option V}{A:Around}{E:Value->Shared->Prop}
theorem ahq{Q:Value->Shared->Prop}(hu:A.units+1<cLine)(I:Inv X pins σ H s)(g:Dm H a y o)(ry:RelV y u)(h:∀w' s',Inv X pins σ H s'->RelV (o.getD .non) w'->Q w' s'):
  wpAny (model X.prog X.w) A (call (.builtin "dict.get") [.ref a,u]) Q E s:=by
 rcases g with⟨kvs,k,e,ey,l⟩ | ⟨kvs,k,b,e,ey,eb,l⟩
 ·subst ey
  obtain⟨z,hd,vs,rel,dd⟩:=EY I.hok e
  refine call_meetsIn PySem.F.slot_dict_get dd.typeIs PySem.F.entry_dict_get (PySem.F.args_dict_get_2 _ _) (meets_dict_get (bI X.prog X.w) a (G5 ry) hd) ⟨_,dd.mapOf,h _ _ (I.tok _) ?_⟩
  rw[l]
  exact(rel.val k).getD rfl
 ·subst ey
  cases(show u=Value.ref b from ry)
  obtain⟨z,hd,xs,rel,dd⟩:=G9 I.hok e
  refine call_meetsIn PySem.F.slot_dict_get dd.typeIs PySem.F.entry_dict_get (PySem.F.args_dict_get_2 _ _) (meetsH_dict_get (tupleKind (bI X.prog X.w)) a b hd) ⟨tupleKind_room_in1 hu,k,xs,CT I.hok eb,dd,h _ _ (I.tok _) ?_⟩
  rw[l]
  exact(rel.val k).getD rfl
theorem ahp{Q:Value->Shared->Prop}(hu:A.units+1<cLine)(I:Inv X pins σ H s)(g:Dm H a y o)(ry:RelV y u)(rd:RelV d r)(h:∀w' s',Inv X pins σ H s'->RelV (o.getD d) w'->Q w' s'):
  wpAny (model X.prog X.w) A (call (.builtin "dict.get") [.ref a,u,r]) Q E s:=by
 rcases g with⟨kvs,k,e,ey,l⟩ | ⟨kvs,k,b,e,ey,eb,l⟩
 ·subst ey
  obtain⟨z,hd,vs,rel,dd⟩:=EY I.hok e
  refine call_meetsIn PySem.F.slot_dict_get dd.typeIs PySem.F.entry_dict_get (PySem.F.args_dict_get_3 _ _ _) (meets_dict_get_default (bI X.prog X.w) a (G5 ry) hd r) ⟨_,dd.mapOf,h _ _ (I.tok _) ?_⟩
  rw[l]
  exact(rel.val k).getD rd
 ·subst ey
  cases(show u=Value.ref b from ry)
  obtain⟨z,hd,xs,rel,dd⟩:=G9 I.hok e
  refine call_meetsIn PySem.F.slot_dict_get dd.typeIs PySem.F.entry_dict_get (PySem.F.args_dict_get_3 _ _ _) (meetsH_dict_get_default (tupleKind (bI X.prog X.w)) a b hd r) ⟨tupleKind_room_in1 hu,k,xs,CT I.hok eb,dd,h _ _ (I.tok _) ?_⟩
  rw[l]
  exact(rel.val k).getD rd
end
section
variable{X:Cx}
theorem YC:mV X (.builtin "len") (λxs H Q=>∃a kvs,xs=[V.ref a]/\H a=some (.dK kvs)/\Q (.int kvs.length) H):=by
 intro pins s σ H xs us Q I r h
 obtain⟨a,kvs,rfl,ha,q⟩:=h
 obtain⟨u,rfl,ru⟩:=vals1 r
 cases ru
 exact akq I (.inl ha) λt s' I'=>⟨.int kvs.length,H,I',⟨t,rfl⟩,q⟩
end
section
variable{prog:Program}{w:World}{A:Around}{E:Value->Shared->Prop}{s:Shared}
theorem Hf{Q Q₁:Value->Shared->Prop}(ft:TypeCalled T newId initId)
  (hct:checkTypeCall T ⟨args,kw⟩=pure .unit) (hcn:checkBuiltinCall newId ⟨.type T::args,kw⟩=pure .unit)
  (entryN:entryFor table newId=some Bn) (entryI:entryFor table initId=some Bi)
  (h:wpAny (model prog w) A.in1.in1 (Bn ⟨.type T::args,kw⟩) (λfin s₁=>∃obj,fin= .done (.ret obj)/\Q₁ obj s₁) E s)
  (hnext:∀obj s₁,Q₁ obj s₁->s₁.TypeIs obj T/\argsOk initId ⟨obj::args,kw⟩/\wpAny (model prog w) A.in1.in1 (Bi ⟨obj::args,kw⟩) (λfin s₂=>fin= .done (.ret .none)/\Q obj s₂) E s₁):
  wpAny (model prog w) A (call (.type T) args kw) Q E s:=by
 obtain⟨c,tl,hmro⟩:=ft.mro
 have hmade:=ft.made
 have hsub:=ft.sub
 refine wpAny_call (codeAny_of_tree ?_)
 show wpAny _ _ (callAny (.type T) _) _ _ _
 refine zI ⟨Code.quiet_builtin _ (by decide +kernel),codeAny_builtin F.entry_type_call ?_⟩
 rw[Around.under_plain (weight_type_call_type T args kw) (units_type_call_type T args kw)]
 have h1:=ft.notType
 have h2:=ft.canCreate
 repeat (any_goals (first | assumption | wp_step))
 refine codeAny_mono (codeAny_call_builtin (R:=λr s₁=>match r with | .ok (.ret obj)=>Q₁ obj s₁ | .ok _=>False | .error e=>E e s₁) ft.plain entryN (wpAny_of_eq hcn (vE h (λfin s₁ ⟨obj,e,q⟩=>by subst e;exact q) λe s₁ q=>q))) λr s₁ hr=> ?_
 cases r with
 | error e=>exact hr
 | ok fl=>
  cases fl with
  | ret obj=>
   obtain⟨hT,hok,hsi⟩:=hnext _ _ hr
   have hli:=ft.init.lookup
   have hbi:=ft.init.bind obj
   repeat (any_goals (first | assumption | wp_step))
   refine codeAny_mono (codeAny_call_builtin (R:=λr s₂=>match r with | .ok (.ret v)=>v= .none/\Q obj s₂ | .ok _=>False | .error e=>E e s₂) ft.init.plain entryI (ft.init.check _ _ _ _ _ _ _ _ hT hok (vE hsi (λfin s₂ ⟨e,q⟩=>by subst e;exact⟨rfl,q⟩) λe s₂ q=>q))) λr₂ s₂ hr₂=> ?_
   cases r₂ with
   | error e=>exact hr₂
   | ok fl₂=>
    cases fl₂ with
    | ret r=>
     obtain⟨rfl,hq⟩:=hr₂
     repeat (any_goals (first | assumption | wp_step))
    | _=>exact hr₂.elim
  | _=>exact hr.elim
theorem zP{Q:Fin->Shared->Prop}(hl:typeLookup (.type T) "__init__" = pure (some (.builtin "object.__init__")))
  (hm:Bind.madeBy (.type T)=pure (some newId)) (hne:(some newId != some "object.__new__")=true) (hT:s.TypeIs self T) (hq:Q (.done (.ret .none)) s):
  wpAny (model prog w) A (Builtin.«object.__init__» ⟨[self,a],kw⟩) Q E s:=by
 repeat (any_goals (first | assumption | wp_step))
theorem Ja(a b:Value):checkTypeCall "enumerate" ⟨[a],[("start",b)]⟩=pure .unit:=by kernel_rfl
theorem K8(a b:Value):checkBuiltinCall "enumerate.__new__" ⟨[.type "enumerate",a],[("start",b)]⟩=pure .unit:=by kernel_rfl
theorem Vb(o a b:Value):argsOk "object.__init__" ⟨[o,a],[("start",b)]⟩:=by
 first | kernel_rfl | (unfold argsOk;kernel_rfl)
def given(i:Int)(t:Tok):Value:=if Builtin.SmallTypes.fitsIndex i=true then .none else .int i t
theorem R5{Q:Fin->Shared->Prop}
  (hx:wpAny (model prog w) A (pyIter x) (λitv s1=>Q (.done (.ret (.ref s1.heap.objs.size))) {s1 with heap:=s1.heap.push {cls:= .type "enumerate",data:= .fields #[.none,.bool false,itv,rawInt i,given i t,.none]}}) E s):
  wpAny (model prog w) A (Builtin.«enumerate.__new__» ⟨[.type "enumerate",x],[("start",.int i t)]⟩) Q E s:=by
 have hsub:=sub_enumerate
 wp_walk
 refine wpAny_stack_any λst=>zI ?_
 have key:∀b:Bool,wpAny (model prog w) A (do
   let itv <-pyIter x
   let r <-Builtin.SmallTypes.newRecord (Value.type "enumerate") (Builtin.SmallTypes.ownedTupleFields++[itv,rawInt i,given i t,Value.none])
   ret r) Q E s:=λb=>by
  refine zC (vE hx (λitv s1 h1=> ?_) λ_ _ z=>z)
  wp_walk
  first | exact h1 | exact⟨_,rfl,h1⟩
 split
 ·rename_i c _ _ _ _ _
  cases(c==Value.type "enumerate")
  ·wp_walk
   cases z:Builtin.SmallTypes.fitsIndex i with
   | true=>
    have e:given i t= .none:=by unfold given;rw[if_pos z]
    have k:=key true
    rw[e]at k
    exact k
   | false=>
    have e:given i t= .int i t:=by unfold given;rw[if_neg (by rw[z];decide)]
    have k:=key true
    rw[e]at k
    exact zC (wpAny_rule (zC (zI k)))
  ·wp_walk
   cases z:Builtin.SmallTypes.fitsIndex i with
   | true=>
    have e:given i t= .none:=by unfold given;rw[if_pos z]
    have k:=key true
    rw[e]at k
    exact k
   | false=>
    have e:given i t= .int i t:=by unfold given;rw[if_neg (by rw[z];decide)]
    have k:=key true
    rw[e]at k
    exact zC (wpAny_rule (zC (zI k)))
 ·wp_walk
  cases z:Builtin.SmallTypes.fitsIndex i with
  | true=>
   have e:given i t= .none:=by unfold given;rw[if_pos z]
   have k:=key true
   rw[e]at k
   exact k
  | false=>
   have e:given i t= .int i t:=by unfold given;rw[if_neg (by rw[z];decide)]
   have k:=key true
   rw[e]at k
   exact zC (wpAny_rule (zC (zI k)))
abbrev jL(h:Heap)(e it:Addr)(i:Int)(gv old:Value):Prop:=
 h.get? e=some {cls:= .type "enumerate",dict:=none,data:= .fields #[.none,.bool false,.ref it,rawInt i,gv,old],slots:= #[]}
def Hi(gv:Value)(c:Int):Prop:=gv= .none\/∃t,gv= .int c t
theorem R4{P:Nat->Value->Prop}{St:Nat->Heap->Prop}{Q:Value->Shared->Prop}
  (D:Draws prog w A it fp n P St) (he:jL s.heap e it c gv old) (hg:Hi gv c) (hst:St i s.heap) (hlt:i<n) (hne:e≠it) (hef:e∉fp)
  (hQ:∀x h' tk tk',P i x->IsEnumOut h' e it (c+1) x s.heap.objs.size->St (i+1) h'->
   h'.get? s.heap.objs.size=some {cls:= .type "tuple",data:= .seq #[.int c tk,x]}->h'.objs.size=s.heap.objs.size+1->
   (∀b o,b≠e->b≠it->s.heap.get? b=some o->h'.get? b=some o)->Q (.ref s.heap.objs.size) {s with heap:=h',toks:=tk'}):
  wpAny (model prog w) A (Builtin.«enumerate.__next__» ⟨[.ref e],[]⟩) (λfin s'=>∃v,fin= .done (.ret v)/\Q v s') E s:=by
 obtain⟨hp,g,d,tk₀,os⟩:=s
 show wpAny _ _ (field (.ref e) 2 >>= _) _ _ _
 refine zC (vT he rfl (x:= .ref it) rfl ?_)
 refine zC (D.item i _ _ _ hlt hst λx h₁ tk hPx hit₁ hs₁=> ?_)
 replace hs₁:Heap.SameBut it hp h₁:=hs₁
 have he₁:jL h₁ e it c gv old:=(hs₁.2 e hne).trans he
 show wpAny _ _ (field (.ref e) 3 >>= _) _ _ ⟨h₁,g,d,tk,os⟩
 refine zC (vT he₁ rfl (x:=rawInt c) rfl ?_)
 show wpAny _ _ (field (.ref e) 4 >>= _) _ _ ⟨h₁,g,d,tk,os⟩
 refine zC (vT he₁ rfl (x:=gv) rfl ?_)
 have rest:∀(ti:Tok) (tk1:Nat),wpAny (model prog w) A (do
   setField (.ref e) 3 (rawInt (c+1));setField (.ref e) 4 .none
   let result <-newTuple [.int c ti,x]
   if <-Builtin.SmallTypes.ownedTupleIsFree (.ref e)then
    rule "enumerate.__next__.owned-tuple-again"
    let old <-field (.ref e) 5
    setField (.ref e) 5 x
    Builtin.SmallTypes.ownedTupleHandOut (.ref e) result
    letGo [old] [result]
   ret result) (λfin s'=>∃v,fin= .done (.ret v)/\Q v s') E ⟨h₁,g,d,tk1,os⟩:=λti tk1=>by
  refine zC (vF he₁ (by simp) λh₂ he₂ hs₂=> ?_)
  replace hs₂:Heap.SameBut e h₁ h₂:=hs₂
  replace he₂:jL h₂ e it (c+1) gv old:=he₂
  refine zC (vF he₂ (by simp) λh₃ he₃ hs₃=> ?_)
  replace hs₃:Heap.SameBut e h₂ h₃:=hs₃
  replace he₃:IsEnum h₃ e it (c+1) old:=he₃
  refine zC (wpAny_newTuple ?_)
  have he₄:IsEnum (h₃.push {cls:= .type "tuple",data:= .seq #[.int c ti,x]}) e it (c+1) old:=zD _ he₃
  generalize hh₄:h₃.push {cls:= .type "tuple",data:= .seq #[.int c ti,x]}=h₄ at he₄
  have hsz:h₃.objs.size=hp.objs.size:=by rw[hs₃.1,hs₂.1,hs₁.1]
  have hel:e<hp.objs.size:=zS he
  have ht₄:h₄.get? hp.objs.size=some {cls:= .type "tuple",data:= .seq #[.int c ti,x]}:=by rw[<-hh₄,<-hsz];exact yB _ rfl
  have hz₄:h₄.objs.size=hp.objs.size+1:=by rw[<-hh₄,Heap.size_push,hsz]
  have hk₄:∀b o,b≠e->b≠it->hp.get? b=some o->h₄.get? b=some o:=λb o hbe hbi hb=>by
   rw[<-hh₄];exact zD _ (hs₃.extBut b o hbe (hs₂.extBut b o hbe (hs₁.extBut b o hbi hb)))
  have hit₄:St (i+1) h₄:=D.frame _ _ _ hit₁ λb hb o y=>by
   have hbe:b≠e:=λq=>hef (q▸hb)
   rw[<-hh₄];exact zD _ (hs₃.extBut b o hbe (hs₂.extBut b o hbe y))
  show wpAny _ _ (Builtin.SmallTypes.ownedTupleIsFree (.ref e) >>= _) _ _ ⟨h₄,g,d,tk1,os⟩
  rw[hsz]
  refine zC ?_
  ·unfold Builtin.SmallTypes.ownedTupleIsFree
   refine zC (vT he₄ rfl (x:= .none) rfl (zI ?_))
   simp only[if_true]
   refine zC (wpAny_rule ?_)
   refine zC (vT he₄ rfl (x:=old) rfl ?_)
   refine zC (vF he₄ (by simp) λh₅ he₅ hs₅=> ?_)
   replace hs₅:Heap.SameBut e h₄ h₅:=hs₅
   replace he₅:IsEnum h₅ e it (c+1) x:=he₅
   show wpAny _ _ (Builtin.SmallTypes.ownedTupleHandOut (.ref e) (.ref hp.objs.size) >>= _) _ _ ⟨h₅,g,d,tk1,os⟩
   refine zC ?_
   ·unfold Builtin.SmallTypes.ownedTupleHandOut
    refine zC (vF he₅ (by simp) λh₆ he₆ hs₆=> ?_)
    replace hs₆:Heap.SameBut e h₅ h₆:=hs₆
    replace he₆:IsEnumOut h₆ e it (c+1) x hp.objs.size:=he₆
    refine vF he₆ (by simp) λh₇ he₇ hs₇=> ?_
    replace hs₇:Heap.SameBut e h₆ h₇:=hs₇
    replace he₇:IsEnumOut h₇ e it (c+1) x hp.objs.size:=he₇
    refine zC (wpAny_letGo (zI ⟨_,rfl,hQ x h₇ ti tk1 hPx he₇ ?_ ?_ ?_ ?_⟩))
    ·exact D.frame _ _ _ hit₄ λb hb o y=>by
      have hbe:b≠e:=λq=>hef (q▸hb)
      exact hs₇.extBut b o hbe (hs₆.extBut b o hbe (hs₅.extBut b o hbe y))
    ·exact hs₇.extBut _ _ (xS hel) (hs₆.extBut _ _ (xS hel) (hs₅.extBut _ _ (xS hel) ht₄))
    ·rw[hs₇.1,hs₆.1,hs₅.1,hz₄]
    ·exact λb o hbe hbi hb=>hs₇.extBut b o hbe (hs₆.extBut b o hbe (hs₅.extBut b o hbe (hk₄ b o hbe hbi hb)))
 rcases hg with rfl | ⟨ti,rfl⟩
 ·show wpAny _ _ (mkInt c >>= _) _ _ ⟨h₁,g,d,tk,os⟩
  exact zC (wpAny_mkInt (rest tk (tk+1)))
 ·exact rest ti tk
theorem Ej{items}{Q:Value->Shared->Prop}(hit:s.heap.IsTupleIter it l i)(hl:s.heap.IsTuple l items)(hx:items[i]? = some x)
  (hQ:∀h',h'.IsTupleIter it l (i+1)->Heap.SameBut it s.heap h'->Q x {s with heap:=h'}):
  wpAny (model prog w) A (Builtin.SmallTypes.nextOf (.ref it)) Q E s:=by
 obtain⟨o,ho,hc,hd⟩:=id hit
 obtain⟨ol,hol,_,nl,hdl⟩:=hl
 unfold Builtin.SmallTypes.nextOf
 refine zC (zai (name:=Str.ofString "__next__") hit.typeIs F.slot_tuple_iterator_next
  (jI F.slot_tuple_iterator_next hit.typeIs F.entry_tuple_iterator_next ?_ (F.args_tuple_iterator_next_1 _)))
 show wpAny _ _ (field (.ref it) 0 >>= _) _ _ s
 refine zC (vT ho hd (x:= .ref l) rfl ?_)
 show wpAny _ _ (if(Value.ref l==Value.none)=true then _ else _) _ _ s
 rw[if_neg (show ¬((Value.ref l==Value.none)=true)from xA)]
 show wpAny _ _ (field (.ref it) 1 >>= _) _ _ s
 refine zC (vT ho hd (x:= .int i 0) rfl ?_)
 show wpAny _ _ (seqItems? (.ref l) >>= _) _ _ s
 refine zC (wpAny_seqItems hol hdl ?_)
 simp only[zam,hx]
 refine zC (wpAny_setField ho hd (by simp) (zI ⟨x,rfl,zI (hQ _ ?_ (Heap.SameBut.update ..))⟩))
 exact⟨_,vS _ ho (Obj.isFreed_of_fields (Obj.data_mapFields hd _)),(Obj.cls_mapFields ..).trans hc,by
  rw[Obj.data_mapFields hd];simp[rawInt]⟩
theorem vH{items}{Q:Value->Shared->Prop}(hh:A.handled=none)
  (hit:s.heap.IsTupleIter it l i) (hl:s.heap.IsTuple l items) (hx:items[i]? = none)
  (hE:∀h' e,Heap.ExtBut it s.heap h'->(∃o,h'.get? e=some o/\o.cls= .type "StopIteration")->E (.ref e) {s with heap:=h'}):
  wpAny (model prog w) A (Builtin.SmallTypes.nextOf (.ref it)) Q E s:=by
 obtain⟨o,ho,hc,hd⟩:=id hit
 obtain⟨ol,hol,_,nl,hdl⟩:=hl
 unfold Builtin.SmallTypes.nextOf
 refine zC (zai (name:=Str.ofString "__next__") hit.typeIs F.slot_tuple_iterator_next
  (jI F.slot_tuple_iterator_next hit.typeIs F.entry_tuple_iterator_next ?_ (F.args_tuple_iterator_next_1 _)))
 show wpAny _ _ (field (.ref it) 0 >>= _) _ _ s
 refine zC (vT ho hd (x:= .ref l) rfl ?_)
 show wpAny _ _ (if(Value.ref l==Value.none)=true then _ else _) _ _ s
 rw[if_neg (show ¬((Value.ref l==Value.none)=true)from xA)]
 show wpAny _ _ (field (.ref it) 1 >>= _) _ _ s
 refine zC (vT ho hd (x:= .int i 0) rfl ?_)
 show wpAny _ _ (seqItems? (.ref l) >>= _) _ _ s
 refine zC (wpAny_seqItems hol hdl ?_)
 simp only[zam,hx]
 refine zC (wpAny_rule (zC (wpAny_setField ho hd (by simp) ?_)))
 show wpAny _ _ (newExc (.type "StopIteration") [] >>= _) _ _ _
 refine zC ?_
 simp only[newExc,newTuple]
 refine zC (wT ?_ (by size_fits))
 refine zC (m:=firstArgMember _ _) (wpAny_of_eq (a:=Value.none) (by first | rfl | (simp only[firstArgMember];rfl)) ?_)
 refine wT ?_ (by size_fits)
 simp only[raiseNew]
 refine zC (wpAny_handled ?_)
 first | rw[show A.in1.handled=none from hh] | rw[hh]
 refine zC (zI (wpAny_throw ?_))
 exact hE _ _ (((Heap.SameBut.update ..).extBut.push _).push _) ⟨_,yB _ rfl,rfl⟩
theorem R6(hh:A.handled=none)(it l:Addr)(hne:l≠it)(items:Array Value):
  Draws prog w A it [it,l] items.size (λi v=>items[i]? = some v) (λi h=>h.IsTupleIter it l i/\h.IsTuple l items) where
 live:=λ_ _ st=>let⟨o,ho,_⟩:=st.1;⟨o,ho⟩
 frame:=λ_ _ _ st hk=>⟨let⟨o,ho,a⟩:=st.1;⟨o,hk it (by simp) o ho,a⟩,let⟨o,ho,a⟩:=st.2;⟨o,hk l (by simp) o ho,a⟩⟩
 item:=λi s Q E hi st hQ=>by
  refine Ej st.1 st.2 (x:=items[i]) (by simp[hi]) λh' hit' hs'=> ?_
  exact hQ _ h' s.toks (by simp[hi]) ⟨hit',let⟨o,ho,a⟩:=st.2;⟨o,hs'.extBut l o hne ho,a⟩⟩ hs'
 done:=λs Q E st hE=>vH hh st.1 st.2 (by simp) hE
theorem NZ{P:Nat->Value->Prop}{St:Nat->Heap->Prop}{Q:Option Value->Shared->Prop}
  (D:Draws prog w A.in1 it fp n P St) (he:jL s.heap e it c gv old) (hg:Hi gv c) (hst:St i s.heap) (hlt:i<n) (hne:e≠it) (hef:e∉fp)
  (hQ:∀x h' tk tk',P i x->IsEnumOut h' e it (c+1) x s.heap.objs.size->St (i+1) h'->
   h'.get? s.heap.objs.size=some {cls:= .type "tuple",data:= .seq #[.int c tk,x]}->h'.objs.size=s.heap.objs.size+1->
   (∀b o,b≠e->b≠it->s.heap.get? b=some o->h'.get? b=some o)->Q (some (.ref s.heap.objs.size)) {s with heap:=h',toks:=tk'}):
  wpAny (model prog w) A (pyNext (.ref e)) Q E s:=by
 have hT:s.TypeIs (.ref e) "enumerate" := ⟨_,he,rfl⟩
 unfold pyNext
 exact zC (wpAny_attempt (zai (name:=Str.ofString "__next__") hT F.slot_enumerate_next
  (jI F.slot_enumerate_next hT F.entry_enumerate_next
   (R4 D he hg hst hlt hne hef λx h' tk tk' a b c d k q=>zI (hQ x h' tk tk' a b c d k q)) (F.args_enumerate_next_1 _))))
end
section
variable{X:Cx}{pins:List (Addr×Obj)}{σ:L2.St}{H:Hp}{s:Shared}{h':Heap}
theorem Inv.ab9(I:Inv X pins σ H s)(k:∀c o,c≠a->c≠b->s.heap.get? c=some o->h'.get? c=some o)(fa:yF X pins H a)(fb:yF X pins H b):Inv X pins σ H {s with heap:=h',toks:=t'}:=by
 obtain⟨na,La,_,a1,a2,a3⟩:=fa
 obtain⟨nb,Lb,_,b1,b2,b3⟩:=fb
 have nit:∀c u,H c=some u->c≠a/\c≠b:=λc u e=>⟨(λz=>by rw[z,na]at e;cases e),(λz=>by rw[z,nb]at e;cases e)⟩
 have kk:∀c o,c∉[a,b]->s.heap.get? c=some o->h'.get? c=some o:=λc o hc e=>k c o (λz=>hc (by simp[z])) (λz=>hc (by simp[z])) e
 refine I.step (g':=s.gens) (d':=s.drawn) (ch:=[a,b]) (λc hc=> ?_) (λc o _ _ hc e _=>kk c o hc e) (λc o _ _ hc e _=>⟨o.slots,kk c o hc e⟩) (λ_ _ _ _ n=>n)
  (λc o hc e=>⟨o,kk c o hc e⟩) (λ_ _ e=>e) (λ_ _ _ e=>e) (λc ps e=>⟨#[],by rw[e];simp⟩) (λm hm=> ?_) (λc u e=> ?_) I.bare
 ·rcases List.mem_cons.mp hc with rfl | hc
  ·exact⟨a1,La,a2,a3⟩
  ·obtain rfl:c=b:=by simpa using hc
   exact⟨b1,Lb,b2,b3⟩
 ·obtain⟨o,es,ep,ho,r⟩:=hm
  exact⟨o,es,ep,k _ o (Ne.symm La) (Ne.symm Lb) ho,r⟩
 ·refine(I.hok c u e).stay (λd v hd q=> ?_) (λ_ q=>q) λ_ _ q=>q
  rcases hd with z | z
  ·rw[z]at q ⊢;exact k _ v (nit c u e).1 (nit c u e).2 q
  ·exact k _ v (nit d _ z).1 (nit d _ z).2 q
theorem Inv.Zr(I:Inv X pins σ H s)(k:∀c o,c≠a->c≠b->s.heap.get? c=some o->h'.get? c=some o)(fa:yF X pins H a)(fb:yF X pins H b)(hT:s.heap.objs.size<=T)(new:cY X.prog X.w (upd H T o) h' T o):
  Inv X pins σ (upd H T o) {s with heap:=h',toks:=t'}:=by
 have J:Inv X pins σ H {s with heap:=h',toks:=t'}:=I.ab9 k fa fb
 have hn:H T=none:=I.hok.fresh hT
 obtain⟨na,La,_,a1,a2,a3⟩:=fa
 obtain⟨nb,Lb,_,b1,b2,b3⟩:=fb
 have kk:∀c o,c∉[a,b]->s.heap.get? c=some o->h'.get? c=some o:=λc o hc e=>k c o (λz=>hc (by simp[z])) (λz=>hc (by simp[z])) e
 have ne:∀{c:Addr} {u:Obj},s.heap.get? c=some u->c≠T:=λ{c u} e=>xD (yA (zS e) hT)
 refine I.step (g':=s.gens) (d':=s.drawn) (ch:=[a,b]) (λc hc=> ?_) (λc o _ _ hc e _=>kk c o hc e) (λc o _ _ hc e _=>⟨o.slots,kk c o hc e⟩) (λc u _ e n=>by rw[aH (ne e)];exact n)
  (λc o hc e=>⟨o,kk c o hc e⟩) (λc xs e=>by rw[aH (bJ e hn)];exact e) (λc ob u e=>by rw[aH (bJ e hn)];exact e) (λc ps e=>⟨#[],by rw[aH (bJ e hn),e];simp⟩) (λm hm=> ?_) (J.hok.track hn new) I.bare
 ·rcases List.mem_cons.mp hc with rfl | hc
  ·exact⟨a1,La,a2,a3⟩
  ·obtain rfl:c=b:=by simpa using hc
   exact⟨b1,Lb,b2,b3⟩
 ·obtain⟨o,es,ep,ho,r⟩:=hm
  exact⟨o,es,ep,k _ o (Ne.symm La) (Ne.symm Lb) ho,r⟩
end
def Ite(Sq:Hp->List V->Prop)(k:Int):It where
 go i H:=∃xs x,Sq H xs/\xs[i]? = some x
 YW i H x H':=∃p y,H p=none/\x= .ref p/\H'=upd H p (.tup [.int (k+i),y])/\∀ys,Sq H ys->ys[i]? = some y
 stop i H:=∃xs,Sq H xs/\xs.length<=i
theorem Zo:(2:Nat)<=sizeLine:=by rw[sizeLine_eq];decide
section
variable{P:Program}{w:World}{K:Frag}{es:List Expr}{n:Nat}{pos:Pos}
structure Src(K:Frag)(Sq:Hp->List V->Prop)(a it:Addr)(At:Nat->Heap->Prop):Prop where
 get:∀(X:Cx) (pins:List (Addr×Obj)) (σ:L2.St) (H:Hp) (s:Shared) (xs:List V),X.K=K->Inv X pins σ H s->Sq H xs->∃its:List Value,Vals xs its/\(∃o,s.heap.get? a=some o/\o.cls≠ .type "enumerate")/\
  ∀(i:Nat) (A:Around),A.handled=none->At i s.heap->∃St:Nat->Heap->Prop,Draws X.prog X.w A it [it,a] its.length (λi v=>its[i]? = some v) St/\St i s.heap/\(∀j h,St j h->At j h)/\
   (its.length<=i->∀(Q:Value->Shared->Prop) (E:Value->Shared->Prop),(∀h' e,Heap.ExtBut it s.heap h'->(∃o,h'.get? e=some o/\o.cls= .type "StopIteration")->E (.ref e) {s with heap:=h'})->wpAny (model X.prog X.w) A (Builtin.SmallTypes.nextOf (.ref it)) Q E s)
 inj:∀(X:Cx) (pins:List (Addr×Obj)) (σ:L2.St) (H:Hp) (s:Shared) (xs ys:List V),X.K=K->Inv X pins σ H s->Sq H xs->Sq H ys->xs=ys
 keep:∀i h h',At i h->(∀o,h.get? it=some o->h'.get? it=some o)->At i h'
 obj:∀i h,At i h->∃o,h.get? it=some o/\(∀v,o.data≠ .cell v)/\o.cls≠ .type "enumerate"
theorem src_list(a it:Addr):Src K (λH xs=>qO K H a xs) a it (λi h=>h.IsListIter it a i) where
 get:=by
  intro X pins σ H s xs hK I hq
  subst hK
  obtain⟨its,rv,p,_⟩:=I.list hq
  refine⟨its,rv,?_,λi A hh st=> ?_⟩
  ·obtain⟨o,m,e,c,_⟩:=p
   exact⟨o,e,by rw[c];decide⟩
  ·have hne:a≠it:=λz=>by
    subst z
    obtain⟨o,m,e,c,_⟩:=p
    obtain⟨o',e',c',_⟩:=st
    rw[e]at e';cases e'
    rw[c]at c'
    exact absurd c' (by decide)
   have D:=Draws.list (prog:=X.prog) (w:=X.w) hh it a hne its.toArray
   refine⟨λi h=>h.IsListIter it a i/\h.IsList a its.toArray,by simpa using D,⟨st,p.isList⟩,λj h q=>q.1,λhl Q E hE=>wpAny_nextOf_list_end hh st p.isList (by simp;omega) hE⟩
 inj:=λX pins σ H s xs ys hK I h1 h2=>by subst hK;exact I.JR h1 h2
 keep:=λi h h' st k=>st.at λo e=>k o e
 obj:=λi h st=>by obtain⟨o,e,c,d⟩:=st;exact⟨o,e,(λv z=>by rw[d]at z;cases z),by rw[c];decide⟩
theorem Vv(a it:Addr):Src K (λH xs=>lY K H a xs) a it (λi h=>h.IsTupleIter it a i) where
 get:=by
  intro X pins σ H s xs hK I hq
  subst hK
  obtain⟨its,rv,p,_⟩:=I.tuple hq
  refine⟨its,rv,?_,λi A hh st=> ?_⟩
  ·obtain⟨o,e,c,_⟩:=p
   exact⟨o,e,by rw[c];decide⟩
  ·have hne:a≠it:=λz=>by
    subst z
    obtain⟨o,e,c,_⟩:=p
    obtain⟨o',e',c',_⟩:=st
    rw[e]at e';cases e'
    rw[c]at c'
    exact absurd c' (by decide)
   have D:=R6 (prog:=X.prog) (w:=X.w) hh it a hne its.toArray
   refine⟨λi h=>h.IsTupleIter it a i/\h.IsTuple a its.toArray,by simpa using D,⟨st,p⟩,λj h q=>q.1,λhl Q E hE=>vH hh st (show s.heap.IsTuple a its.toArray from p) (by simp;omega) hE⟩
 inj:=λX pins σ H s xs ys hK I h1 h2=>by subst hK;exact I.Fx h1 h2
 keep:=λi h h' st k=>by obtain⟨o,e,a⟩:=st;exact⟨o,k o e,a⟩
 obj:=λi h st=>by obtain⟨o,e,c,d⟩:=st;exact⟨o,e,(λv z=>by rw[d]at z;cases z),by rw[c];decide⟩
theorem Be{Sq:Hp->List V->Prop}{At:Nat->Heap->Prop}(S:Src K Sq a it At)(hei:e≠it)(k:Int):
  Turn P w K (.Tuple es n pos) (Ite Sq k) [e,it] e (λi h=>(∃gv old,jL h e it (k+(i:Nat)) gv old/\Hi gv (k+(i:Nat)))/\At i h) where
 mem:=by simp
 obj:=λi h st b hb=>by
  obtain⟨⟨gv,old,he,_⟩,st⟩:=st
  rcases List.mem_cons.mp hb with rfl | hb
  ·exact⟨_,he,λv z=>by cases(show Data.fields _=Data.cell v from z)⟩
  ·obtain rfl:b=it:=by simpa using hb
   obtain⟨o,e1,e2,_⟩:=S.obj i h st
   exact⟨o,e1,e2⟩
 keep:=λi h h' st q=>by
  obtain⟨⟨gv,old,he,hg⟩,st⟩:=st
  exact⟨⟨gv,old,q e (by simp) _ he,hg⟩,S.keep i h h' st λo eo=>q it (by simp) o eo⟩
 item:=by
  intro X hP hw hK hc i pins s σ H E I hf st hgo
  subst hP hw
  obtain⟨⟨gv,old,he,hg⟩,st⟩:=st
  obtain⟨xs,x,hq,hx⟩:=hgo
  obtain⟨its,rv,⟨oa,ha,ca⟩,D⟩:=S.get X pins σ H s xs hK I hq
  obtain⟨St,D,hst,back,_⟩:=D i X.A.in1 (I.ok.hd hc) st
  obtain⟨u,hu,ru⟩:=rv.get hx
  have hlt:i<its.length:=(List.getElem?_eq_some_iff.mp hu).1
  have hea:e≠a:=λz=>by subst z;rw[he]at ha;cases ha;exact ca rfl
  refine NZ D he hg hst hlt hei (by simp[hei,hea]) λy h1 tk tk' hy ho anh hT hsz hk=> ?_
  have ey:y=u:=by
   have:=hy.symm.trans hu
   exact xI this
  subst ey
  refine⟨_,rfl,wpAny_letOwnedTupleGo_enum ho λh2 he2 hs2=> ?_⟩
  have hTe:s.heap.objs.size≠e:=xS (zS he)
  have hT2:h2.get? s.heap.objs.size=some {cls:= .type "tuple",data:= .seq #[.int (k+(i:Nat)) tk,y]}:=(hs2.2 _ hTe).trans hT
  have hf0:H s.heap.objs.size=none:=I.hok.fresh (zac _)
  refine⟨.ref s.heap.objs.size,upd H s.heap.objs.size (.tup [.int (k+(i:Nat)),x]),?_,rfl,⟨_,x,hf0,rfl,rfl,λys hy=>by rw[S.inj X pins σ H s ys xs hK I hy hq];exact hx⟩,⟨⟨.none,y,?_,.inl rfl⟩,S.keep _ _ _ (back _ _ anh) λo eo=>(hs2.2 it (Ne.symm hei)).trans eo⟩,λb hb=> ?_⟩
  ·refine I.Zr (λb o n1 n2 eb=>(hs2.2 b n1).trans (hk b o n1 n2 eb)) (hf e (by simp)) (hf it (by simp)) (zac _) ?_
   exact⟨Zo,[.int (k+(i:Nat)) tk,y],.cons ⟨tk,rfl⟩ (.cons ru .nil),⟨_,hT2,rfl,_,rfl⟩⟩
  ·have ec:k+((i+1:Nat):Int)=k+(i:Nat)+1:=()
   rw[ec]
   exact he2
  ·rw[aH]
   ·exact(hf b hb).1
   ·rcases List.mem_cons.mp hb with rfl | hb
    ·exact Ne.symm hTe
    ·obtain rfl:b=it:=by simpa using hb
     obtain⟨o,e1,_,_⟩:=S.obj i s.heap st
     exact xD (zS e1)
 done:=by
  intro X hP hw hK hc i pins s σ H E I hf st hgo
  subst hP hw
  obtain⟨⟨gv,old,he,hg⟩,st⟩:=st
  obtain⟨xs,hq,hx⟩:=hgo
  obtain⟨its,rv,⟨oa,ha,ca⟩,D⟩:=S.get X pins σ H s xs hK I hq
  obtain⟨St,_,_,_,fin⟩:=D i X.A.in1 (I.ok.hd hc) st
  have hT:s.TypeIs (.ref e) "enumerate" := ⟨_,he,rfl⟩
  obtain⟨f0,f1,f2,f3,f4,f5⟩:=hf it (by simp)
  unfold pyNext
  refine zC (wpAny_attempt (zai (name:=Str.ofString "__next__") hT F.slot_enumerate_next
   (jI F.slot_enumerate_next hT F.entry_enumerate_next ?_ (F.args_enumerate_next_1 _))))
  show wpAny _ _ (field (.ref e) 2 >>= _) _ _ _
  refine zC (vT he rfl (x:= .ref it) rfl ?_)
  refine zC (fin (by rw[<-rv.length];exact hx) _ _ λh' x he' hx'=> ?_)
  obtain⟨o,ho,hc⟩:=hx'
  refine zC (wpAny_isInstance (T:= "StopIteration") (b:=true) ⟨o,ho,hc⟩ isSubtype_stop ?_)
  exact zI ⟨rfl,I.turned (t':=s.toks) (λb o hb e=>he' b o hb e) f0 f1 f3 f4 f5⟩
 self:=λA i s Q E st hQ=>by
  obtain⟨⟨gv,old,he,_⟩,_⟩:=st
  have hT:s.TypeIs (.ref e) "enumerate" := ⟨_,he,rfl⟩
  refine wpAny_pyIter_slot hT F.slot_enumerate_iter (jI F.slot_enumerate_iter hT F.entry_enumerate_iter ?_ (F.args_enumerate_iter_1 _))
  show wpAny _ _ (ret (.ref e)) _ _ s
  exact zI ⟨_,rfl,"enumerate",_,hT,F.slot_enumerate_next.lookup,hQ⟩
end
theorem Fe:bootBuiltins "enumerate" = some (.type "enumerate"):=by decide +kernel
section
variable{M:Model}{A:Around}{E:Value->Shared->Prop}{s:Shared}{env:Env}
theorem Gs{T:String}{rest:List Expr}{kws:List Keyword}{Q:Value->Shared->Prop}
  (h:wpAny M A (spliced (backTo pos (starEach (e::rest) env))) (λvs s₁=>wpAny M A (evalAll ((backToKw pos (keywordEach kws env)).map (·.2)))
   (λkvs s₂=>wpAny M A (call (.type T) vs (((backToKw pos (keywordEach kws env)).filterMap (·.1)).zip kvs)) Q E s₂) E s₁) E s)
  (he:backTo pos (starEach (e::rest) env)=(false,eval e env)::backTo pos (starEach rest env))
  (hplain:(backTo pos (starEach (e::rest) env)).any (·.1)=false)
  (hall:(backToKw pos (keywordEach kws env)).all (·.1.isSome)=true)
  (hkw:(backToKw pos (keywordEach kws env)).any (·.1.isNone)=false):
  wpAny M A (callWith pos (.type T) [] (backTo pos (starEach (e::rest) env)) (backToKw pos (keywordEach kws env))) Q E s:=by
 have h2:wpAny M A (evalArgs (.type T) true (backTo pos (starEach (e::rest) env)) (backToKw pos (keywordEach kws env))) (λa s₁=>wpAny M A (call (.type T) ([]++a.pos) a.kw) Q E s₁) E s:=by
  rw[he]at h ⊢
  exact evalArgs_kwB hall h
 unfold callWith
 refine zC (wpAny_holding (vE h2 (λa s₁ h₁=>zC (wpAny_standAt ?_)) λ_ _ x=>x))
 simp only[hplain,hkw,Bool.or_false]
 refine zC (zI ?_)
 exact zC (vE h₁ (λr s₂ hr=>zC (wpAny_holding (wpAny_point (zI hr)))) λ_ _ x=>x)
end
section
variable{X:Cx}
theorem Ys{pins:List (Addr×Obj)}{σ:L2.St}{H:Hp}{s:Shared}{x:Value}{i:Int}{t:Tok}{Q:Value->Shared->Prop}{E:Value->Shared->Prop}
  (hx:wpAny (model X.prog X.w) X.A.in1.in1 (pyIter x) (λitv s1=>Q (.ref s1.heap.objs.size) {s1 with heap:=s1.heap.push {cls:= .type "enumerate",data:= .fields #[.none,.bool false,itv,rawInt i,given i t,.none]}}) E s):
  wpAny (model X.prog X.w) X.A (call (.type "enumerate") [x] [("start",.int i t)]) Q E s:=by
 refine Hf (Q₁:=λobj s₁=>s₁.TypeIs obj "enumerate" /\ Q obj s₁) F.called_enumerate (Ja _ _) (K8 _ _) F.entry_enumerate_new F.entry_object_init (R5 (vE hx (λitv s1 q=> ?_) λ_ _ z=>z)) λobj s₁ q=>⟨q.1,Vb _ _ _,?_⟩
 ·exact⟨_,rfl,⟨_,yB _ rfl,rfl⟩,q⟩
 ·exact zP F.called_enumerate.init.lookup F.called_enumerate.made (by decide) q.1 ⟨rfl,q.2⟩
def aj3(K:Frag)(ta tb:TE):TI:=λσ H R=>ta σ H λx H1=>tb σ H1 λy H2=>∃l i,x= .ref l/\y= .int i/\
 (((∃xs,qO K H2 l xs)/\((∀xs,qO K H2 l xs->xs.length<=sizeLine)->R (Ite (λH xs=>qO K H l xs) i) H2))\/((∃xs,lY K H2 l xs)/\((∀xs,lY K H2 l xs->xs.length<=sizeLine)->R (Ite (λH xs=>lY K H l xs) i) H2)))
theorem Mm(i:Int)(t:Tok):Hi (given i t) i:=by
 unfold given
 split
 ·exact .inl rfl
 ·exact .inr ⟨t,rfl⟩
set_option maxHeartbeats 4000000 in
theorem aaB(hg:Gl X "enumerate")(hm:X.mg "enumerate" = none)(ha:PE X a ta)(hb:PE X b tb)
  (he:backTo pos (starEach [a] X.env)=(false,eval a X.env)::backTo pos (starEach [] X.env):=by rfl)
  (hs:starEach [a] X.env=(false,eval a X.env)::starEach [] X.env:=by rfl)
  (hplain:(backTo pos (starEach [a] X.env)).any (·.1)=false:=by rfl)
  (hall:(backToKw pos (keywordEach [⟨some "start",b,kp⟩] X.env)).all (·.1.isSome)=true:=by rfl)
  (hkw:(backToKw pos (keywordEach [⟨some "start",b,kp⟩] X.env)).any (·.1.isNone)=false:=by rfl)
  (hnm:(backToKw pos (keywordEach [⟨some "start",b,kp⟩] X.env)).filterMap (·.1)=[("start" : Str)]:=by rfl):
  PI X (.Tuple es n tp) (.Call (.Name "enumerate" p) [a] [⟨some "start",b,kp⟩] pos) (aj3 X.K ta tb):=by
 intro pins s σ H R I h
 refine wpAny_Call_Name_kw (JX I hg hm Fe (Gs ?_ he hplain hall hkw))
 rw[hs]
 show wpAny _ _ (spliced ((false,eval a X.env)::backTo pos (starEach [] X.env))) _ _ s
 refine Calls.spliced_cons (gj (ha pins s σ H _ I h) ?_)
 rintro u s1 ⟨x,H1,I1,r1,q1⟩
 refine Calls.spliced_nil ?_
 refine kws_cons (gj (hb pins s1 σ H1 _ I1 q1) ?_)
 rintro u2 s2 ⟨y,H2,I2,r2,q2⟩
 refine kws_nil ?_
 rw[hnm]
 obtain⟨l,i,rfl,rfl,q⟩:=q2
 obtain⟨t,rfl⟩:=r2
 cases(show u=Value.ref l from r1)
 show wpAny _ _ (call (.type "enumerate") [Value.ref l] [("start",.int i t)]) _ _ s2
 refine Ys (X:=X) (pins:=pins) (σ:=σ) (H:=H2) ?_
 have f0:∀{h:Heap} {b:Addr},s2.heap.objs.size<=b->yF X pins H2 b:=λ{h b} hb=>I2.O7 hb (I2.hok.fresh hb)
 rcases q with⟨⟨xs,hq⟩,q⟩ | ⟨⟨xs,hq⟩,q⟩
 ·obtain⟨its,rv,pp,hz⟩:=I2.list hq
  have q:=q λys hy=>by obtain⟨_,_,_,hz⟩:=I2.list hy;exact hz
  refine wpAny_pyIter_list pp.isList ?_
  have hsz:(s2.heap.push {cls:= .type "list_iterator",data:= .fields #[.ref l,.int 0 0]}).objs.size=s2.heap.objs.size+1:=Heap.size_push ..
  have hE:∀h,jL h (s2.heap.objs.size+1) s2.heap.objs.size i (given i t) .none->h.IsListIter s2.heap.objs.size l 0->(∀b o,s2.heap.get? b=some o->h.get? b=some o)->
    wpAny (model X.prog X.w) X.A (pyIter (.ref (s2.heap.objs.size+1))) (PIE X pins σ (.Tuple es n tp) R) X.xe {s2 with heap:=h}:=λh he hit hk=>by
   have T:=Be (P:=X.prog) (w:=X.w) (es:=es) (n:=n) (pos:=tp) (src_list (K:=X.K) l s2.heap.objs.size) (e:=s2.heap.objs.size+1) (xS (Nat.lt_succ_self _)) i
   have Zu:(∃gv old,jL h (s2.heap.objs.size+1) s2.heap.objs.size (i+((0:Nat):Int)) gv old/\Hi gv (i+((0:Nat):Int)))/\h.IsListIter s2.heap.objs.size l 0:=by
    have e0:i+((0:Nat):Int)=i:=by simp
    rw[e0]
    exact⟨⟨_,_,he,Mm i t⟩,hit⟩
   refine T.self X.A 0 {s2 with heap:=h} _ _ Zu ?_
   refine⟨_,_,_,_,H2,rfl,I2.kept (t':=s2.toks) hk,T,Zu,λb hb=> ?_,q⟩
   rcases List.mem_cons.mp hb with rfl | hb
   ·exact f0 (h:=h) (Nat.le_succ _)
   ·obtain rfl:b=s2.heap.objs.size:=by simpa using hb
    exact f0 (h:=h) (zac _)
  show wpAny _ _ (pyIter (.ref (s2.heap.push _).objs.size)) _ _ _
  rw[hsz]
  refine hE _ ?_ ⟨_,zD _ (yB _ rfl),rfl,rfl⟩ λb o eb=>zD _ (zD _ eb)
  have:=yB (s2.heap.push {cls:= .type "list_iterator",data:= .fields #[.ref l,.int 0 0]}) (o:={cls:= .type "enumerate",data:= .fields #[.none,.bool false,.ref s2.heap.objs.size,rawInt i,given i t,.none]}) rfl
  rw[hsz]at this
  exact this
 ·obtain⟨its,rv,pp,hz⟩:=I2.tuple hq
  have q:=q λys hy=>by obtain⟨_,_,_,hz⟩:=I2.tuple hy;exact hz
  refine wpAny_pyIter_tuple (show s2.heap.IsTuple l its.toArray from pp) ?_
  have hsz:(s2.heap.push {cls:= .type "tuple_iterator",data:= .fields #[.ref l,.int 0 0]}).objs.size=s2.heap.objs.size+1:=Heap.size_push ..
  have hE:∀h,jL h (s2.heap.objs.size+1) s2.heap.objs.size i (given i t) .none->h.IsTupleIter s2.heap.objs.size l 0->(∀b o,s2.heap.get? b=some o->h.get? b=some o)->
    wpAny (model X.prog X.w) X.A (pyIter (.ref (s2.heap.objs.size+1))) (PIE X pins σ (.Tuple es n tp) R) X.xe {s2 with heap:=h}:=λh he hit hk=>by
   have T:=Be (P:=X.prog) (w:=X.w) (es:=es) (n:=n) (pos:=tp) (Vv (K:=X.K) l s2.heap.objs.size) (e:=s2.heap.objs.size+1) (xS (Nat.lt_succ_self _)) i
   have Zu:(∃gv old,jL h (s2.heap.objs.size+1) s2.heap.objs.size (i+((0:Nat):Int)) gv old/\Hi gv (i+((0:Nat):Int)))/\h.IsTupleIter s2.heap.objs.size l 0:=by
    have e0:i+((0:Nat):Int)=i:=by simp
    rw[e0]
    exact⟨⟨_,_,he,Mm i t⟩,hit⟩
   refine T.self X.A 0 {s2 with heap:=h} _ _ Zu ?_
   refine⟨_,_,_,_,H2,rfl,I2.kept (t':=s2.toks) hk,T,Zu,λb hb=> ?_,q⟩
   rcases List.mem_cons.mp hb with rfl | hb
   ·exact f0 (h:=h) (Nat.le_succ _)
   ·obtain rfl:b=s2.heap.objs.size:=by simpa using hb
    exact f0 (h:=h) (zac _)
  show wpAny _ _ (pyIter (.ref (s2.heap.push _).objs.size)) _ _ _
  rw[hsz]
  refine hE _ ?_ ⟨_,zD _ (yB _ rfl),rfl,rfl⟩ λb o eb=>zD _ (zD _ eb)
  have:=yB (s2.heap.push {cls:= .type "tuple_iterator",data:= .fields #[.ref l,.int 0 0]}) (o:={cls:= .type "enumerate",data:= .fields #[.none,.bool false,.ref s2.heap.objs.size,rawInt i,given i t,.none]}) rfl
  rw[hsz]at this
  exact this
end
section
variable{prog:Program}{w:World}{A:Around}{E:Value->Shared->Prop}{s:Shared}
theorem Yr{Q:Fin->Shared->Prop}
  (hx:wpAny (model prog w) A (pyIter x) (λitv s1=>Q (.done (.ret (.ref s1.heap.objs.size))) {s1 with heap:=s1.heap.push {cls:= .type "enumerate",data:= .fields #[.none,.bool false,itv,rawInt 0,.none,.none]}}) E s):
  wpAny (model prog w) A (Builtin.«enumerate.__new__» ⟨[.type "enumerate",x],[]⟩) Q E s:=by
 have hsub:=sub_enumerate
 have key:wpAny (model prog w) A (do
   let itv <-pyIter x
   let r <-Builtin.SmallTypes.newRecord (Value.type "enumerate") (Builtin.SmallTypes.ownedTupleFields++[itv,rawInt 0,Value.none,Value.none])
   ret r) Q E s:=by
  refine zC (vE hx (λitv s1 h1=> ?_) λ_ _ z=>z)
  wp_walk
  first | exact h1 | exact⟨_,rfl,h1⟩
 wp_walk
 refine wpAny_stack_any λst=>zI ?_
 split
 ·rename_i c _ _ _ _ _
  cases(c==Value.type "enumerate")
  ·first | exact key | exact wpAny_rule key | (wp_step;first | exact key | (wp_step;exact key))
  ·first | exact key | exact wpAny_rule key | (wp_step;first | exact key | (wp_step;exact key))
 ·first | exact key | exact wpAny_rule key | (wp_step;first | exact key | (wp_step;exact key))
end
section
variable{X:Cx}
theorem U0{Q:Value->Shared->Prop}{E:Value->Shared->Prop}
  (hx:wpAny (model X.prog X.w) X.A.in1.in1 (pyIter x) (λitv s1=>Q (.ref s1.heap.objs.size) {s1 with heap:=s1.heap.push {cls:= .type "enumerate",data:= .fields #[.none,.bool false,itv,rawInt 0,.none,.none]}}) E s):
  wpAny (model X.prog X.w) X.A (call (.type "enumerate") [x]) Q E s:=by
 refine Hf (Q₁:=λobj s₁=>s₁.TypeIs obj "enumerate" /\ Q obj s₁) F.called_enumerate (F.typeCall_enumerate_1 _) (F.newCall_enumerate_1 _) F.entry_enumerate_new F.entry_object_init (Yr (vE hx (λitv s1 q=> ?_) λ_ _ z=>z)) λobj s₁ q=>⟨q.1,F.args_object_init_2 _ _,?_⟩
 ·exact⟨_,rfl,⟨_,yB _ rfl,rfl⟩,q⟩
 ·exact zP F.called_enumerate.init.lookup F.called_enumerate.made (by decide) q.1 ⟨rfl,q.2⟩
def agV(K:Frag)(ta:TE):TI:=λσ H R=>ta σ H λx H2=>∃l,x= .ref l/\
 (((∃xs,qO K H2 l xs)/\((∀xs,qO K H2 l xs->xs.length<=sizeLine)->R (Ite (λH xs=>qO K H l xs) 0) H2))\/((∃xs,lY K H2 l xs)/\((∀xs,lY K H2 l xs->xs.length<=sizeLine)->R (Ite (λH xs=>lY K H l xs) 0) H2)))
set_option maxHeartbeats 4000000 in
theorem aaC(hg:Gl X "enumerate")(hm:X.mg "enumerate" = none)(ha:PE X a ta)
  (hs:starEach [a] X.env=[(false,eval a X.env)]:=by rfl):
  PI X (.Tuple es n tp) (.Call (.Name "enumerate" p) [a] [] pos) (agV X.K ta):=by
 intro pins s σ H R I h
 refine Call_ (JX I hg hm Fe (PyProof.Rows.callWith_type1 ?_ hs rfl))
 rw[hs]
 refine Calls.spliced_cons (gj (ha pins s σ H _ I h) ?_)
 rintro u s2 ⟨x,H2,I2,r1,q2⟩
 refine Calls.spliced_nil ?_
 obtain⟨l,rfl,q⟩:=q2
 cases(show u=Value.ref l from r1)
 show wpAny _ _ (call (.type "enumerate") [Value.ref l]) _ _ s2
 refine U0 (X:=X) ?_
 have f0:∀{h:Heap} {b:Addr},s2.heap.objs.size<=b->yF X pins H2 b:=λ{h b} hb=>I2.O7 hb (I2.hok.fresh hb)
 rcases q with⟨⟨xs,hq⟩,q⟩ | ⟨⟨xs,hq⟩,q⟩
 ·obtain⟨its,rv,pp,hz⟩:=I2.list hq
  have q:=q λys hy=>by obtain⟨_,_,_,hz⟩:=I2.list hy;exact hz
  refine wpAny_pyIter_list pp.isList ?_
  have hsz:(s2.heap.push {cls:= .type "list_iterator",data:= .fields #[.ref l,.int 0 0]}).objs.size=s2.heap.objs.size+1:=Heap.size_push ..
  have hE:∀h,jL h (s2.heap.objs.size+1) s2.heap.objs.size 0 .none .none->h.IsListIter s2.heap.objs.size l 0->(∀b o,s2.heap.get? b=some o->h.get? b=some o)->
    wpAny (model X.prog X.w) X.A (pyIter (.ref (s2.heap.objs.size+1))) (PIE X pins σ (.Tuple es n tp) R) X.xe {s2 with heap:=h}:=λh he hit hk=>by
   have T:=Be (P:=X.prog) (w:=X.w) (es:=es) (n:=n) (pos:=tp) (src_list (K:=X.K) l s2.heap.objs.size) (e:=s2.heap.objs.size+1) (xS (Nat.lt_succ_self _)) 0
   have Zu:(∃gv old,jL h (s2.heap.objs.size+1) s2.heap.objs.size (0+((0:Nat):Int)) gv old/\Hi gv (0+((0:Nat):Int)))/\h.IsListIter s2.heap.objs.size l 0:=
    ⟨⟨_,_,he,.inl rfl⟩,hit⟩
   refine T.self X.A 0 {s2 with heap:=h} _ _ Zu ?_
   refine⟨_,_,_,_,H2,rfl,I2.kept (t':=s2.toks) hk,T,Zu,λb hb=> ?_,q⟩
   rcases List.mem_cons.mp hb with rfl | hb
   ·exact f0 (h:=h) (Nat.le_succ _)
   ·obtain rfl:b=s2.heap.objs.size:=by simpa using hb
    exact f0 (h:=h) (zac _)
  show wpAny _ _ (pyIter (.ref (s2.heap.push _).objs.size)) _ _ _
  rw[hsz]
  refine hE _ ?_ ⟨_,zD _ (yB _ rfl),rfl,rfl⟩ λb o eb=>zD _ (zD _ eb)
  have:=yB (s2.heap.push {cls:= .type "list_iterator",data:= .fields #[.ref l,.int 0 0]}) (o:={cls:= .type "enumerate",data:= .fields #[.none,.bool false,.ref s2.heap.objs.size,rawInt 0,.none,.none]}) rfl
  rw[hsz]at this
  exact this
 ·obtain⟨its,rv,pp,hz⟩:=I2.tuple hq
  have q:=q λys hy=>by obtain⟨_,_,_,hz⟩:=I2.tuple hy;exact hz
  refine wpAny_pyIter_tuple (show s2.heap.IsTuple l its.toArray from pp) ?_
  have hsz:(s2.heap.push {cls:= .type "tuple_iterator",data:= .fields #[.ref l,.int 0 0]}).objs.size=s2.heap.objs.size+1:=Heap.size_push ..
  have hE:∀h,jL h (s2.heap.objs.size+1) s2.heap.objs.size 0 .none .none->h.IsTupleIter s2.heap.objs.size l 0->(∀b o,s2.heap.get? b=some o->h.get? b=some o)->
    wpAny (model X.prog X.w) X.A (pyIter (.ref (s2.heap.objs.size+1))) (PIE X pins σ (.Tuple es n tp) R) X.xe {s2 with heap:=h}:=λh he hit hk=>by
   have T:=Be (P:=X.prog) (w:=X.w) (es:=es) (n:=n) (pos:=tp) (Vv (K:=X.K) l s2.heap.objs.size) (e:=s2.heap.objs.size+1) (xS (Nat.lt_succ_self _)) 0
   have Zu:(∃gv old,jL h (s2.heap.objs.size+1) s2.heap.objs.size (0+((0:Nat):Int)) gv old/\Hi gv (0+((0:Nat):Int)))/\h.IsTupleIter s2.heap.objs.size l 0:=
    ⟨⟨_,_,he,.inl rfl⟩,hit⟩
   refine T.self X.A 0 {s2 with heap:=h} _ _ Zu ?_
   refine⟨_,_,_,_,H2,rfl,I2.kept (t':=s2.toks) hk,T,Zu,λb hb=> ?_,q⟩
   rcases List.mem_cons.mp hb with rfl | hb
   ·exact f0 (h:=h) (Nat.le_succ _)
   ·obtain rfl:b=s2.heap.objs.size:=by simpa using hb
    exact f0 (h:=h) (zac _)
  show wpAny _ _ (pyIter (.ref (s2.heap.push _).objs.size)) _ _ _
  rw[hsz]
  refine hE _ ?_ ⟨_,zD _ (yB _ rfl),rfl,rfl⟩ λb o eb=>zD _ (zD _ eb)
  have:=yB (s2.heap.push {cls:= .type "tuple_iterator",data:= .fields #[.ref l,.int 0 0]}) (o:={cls:= .type "enumerate",data:= .fields #[.none,.bool false,.ref s2.heap.objs.size,rawInt 0,.none,.none]}) rfl
  rw[hsz]at this
  exact this
end
structure Lf(K:Frag)(C:Addr)(name:Str):Prop where
 cd:∃cd,PySem.W.clsIn K C=some cd/\cd.hasDict=true/\cd.mro.isEmpty=false/\cd.mro.contains (.type "object")=true/\cd.mro.contains (.type "BaseException")=true/\(∀self,refuseLoop self "__setattr__" cd.mro=pure .unit)
 sa:findIn K (.ref C) "__setattr__" = some (some (.builtin "object.__setattr__"))
 ga:findIn K (.ref C) "__getattribute__" = some (some (.builtin "BaseException.__getattribute__"))
 no:findIn K (.ref C) name=some none
section
variable{prog:Program}{w:World}{A:Around}{E:Value->Shared->Prop}{s:Shared}{K:Frag}{x C:Addr}{name:Str}{v:Value}
def XAt(h:Heap)(x C:Addr)(vs:Array Value)(dx:Option Addr):Prop:=h.get? x=some {cls:= .ref C,dict:=dx,data:= .fields vs}
theorem air(a:XAt h x C vs none):PySem.W.InstAt h x {cls:= .ref C,dict:=none,data:= .fields vs} C none:=⟨a,rfl,rfl,trivial⟩
theorem aio{Q:Unit->Shared->Prop}(X:K.In s.heap)(F:Lf K C name)(hx:XAt s.heap x C vs none)
  (h:∀h' dx,s.heap.objs.size=dx->XAt h' x C vs (some dx)->h'.Ns1 dx (λy=>if y=name then some v else none)->(∀b o,b≠x->s.heap.get? b=some o->h'.get? b=some o)->Q .unit {s with heap:=h',toks:=s.toks+2}):
  wpAny (model prog w) A (setAttr (.ref x) name v) Q E s:=by
 have I:=air hx
 obtain⟨cd,hc,hhd,hne,hob,_,hre⟩:=F.cd
 have SF:=PySem.F.store_object
 refine PySem.W.set_plain X I F.sa ?_
 have sub:PySem.W.Looks (model prog w) s.heap (isInstance (.ref x) (.type "object")) true:=I.type.andThen (PySem.W.looks_mroIn X (by unfold PySem.W.mroIn;rw[hc,Option.bind_some,if_neg (by rw[hne];decide),hob]))
 refine codeAny_call_builtin SF.slot.plain SF.entry (@PySem.W.check_slot (model prog w) _ _ {s with toks:=s.toks+1} "object.__setattr__" "object" "__setattr__" (.ref x) [.str name s.toks,v] [] _ SF.kind SF.split sub (SF.args (.ref x) (.str name s.toks) v) ?_)
 have hm:PySem.W.Looks (model prog w) s.heap (mroOf (.ref C)) cd.mro:=(PySem.W.looks_clsIn X hc).andThen .now
 have L3:PySem.W.Looks (model prog w) s.heap (Builtin.ObjectAttr.storeTaker? none) none:= .now
 rw[PySem.W.osa_eq,refuse_eq]
 refine zC (zC (PySem.W.Looks.here (s:={s with toks:=s.toks+1}) I.type (zC (PySem.W.Looks.here (s:={s with toks:=s.toks+1}) hm ?_))))
 rw[hre]
 refine zI (zC (PySem.W.Looks.here (s:={s with toks:=s.toks+1}) I.type (zC (PySem.W.Looks.here (s:={s with toks:=s.toks+1}) (PySem.W.looks_findIn X F.no) (zC (PySem.W.Looks.here (s:={s with toks:=s.toks+1}) L3 ?_))))))
 refine zC (zI (zC (zC (wpAny_loadPart (s:={s with toks:=s.toks+1}) hx (zC (PySem.W.Looks.here (s:={s with toks:=s.toks+1}) (PySem.W.looks_clsIn X hc) ?_))))))
 rw[hhd]
 rw[if_neg (by decide)]
 dsimp only
 rw[if_neg (by simp[typeHasDict])]
 have hxs:x≠s.heap.objs.size:=xD (zS hx)
 have hx₁:(s.heap.push {cls:= .type "dict",data:= .dict #[]}).get? x=some {cls:= .ref C,dict:=none,data:= .fields vs}:=zD _ hx
 refine zC (wpAny_alloc' (zC (wpAny_update' hx₁ (zI ?_))))
 have hgd:((s.heap.push {cls:= .type "dict",data:= .dict #[]}).update x λo=>{cls:=o.cls,dict:=some s.heap.objs.size,data:=o.data,slots:=o.slots}).get? s.heap.objs.size=some {cls:= .type "dict",data:= .dict #[]}:=
  (Heap.get?_update_ne _ _ _ _ hxs.symm).trans (Heap.get?_push_at rfl rfl)
 have hnd:((s.heap.push {cls:= .type "dict",data:= .dict #[]}).update x λo=>{cls:=o.cls,dict:=some s.heap.objs.size,data:=o.data,slots:=o.slots}).Ns s.heap.objs.size (λ_=>none):=
  ⟨_,#[],_,hgd,rfl,λe he=>absurd he (by simp),λ_=>rfl⟩
 show wpAny _ _ (Builtin.ObjectAttr.storeInDict s.heap.objs.size (.str name s.toks) name v) _ _ _
 unfold Builtin.ObjectAttr.storeInDict Builtin.ObjectAttr.newKeyGuard
 refine zC (zI (zC (wpAny_nsSet1 (Heap.Ns1.of_empty hnd) λh' hn' hs=> ?_)))
 obtain⟨oD,esD,epD,hoD,hdD,hcD⟩:=hn'.count (Within.cons name v Within.nil)
 refine zC (wpAny_lookBehind hoD (by rw[hdD];exact pastItsLine_dict (yY hcD (by rw[List.length_cons,List.length_nil,sizeLine_eq];omega))) ?_)
 wp_walk
 have hx':h'.get? x=some {cls:= .ref C,dict:=some s.heap.objs.size,data:= .fields vs}:=(hs.2 x hxs).trans (vS _ hx₁ rfl)
 refine h h' _ rfl hx' hn' λb ob hb e=> ?_
 exact(hs.2 b (xD (zS e))).trans ((Heap.get?_update_ne _ _ _ _ hb).trans (zD _ e))
end
end L2
namespace L2
open PySem
section
variable{prog:Program}{w:World}{A:Around}{E:Value->Shared->Prop}{h:Heap}{g:Array GenState}{d:Drawn}{t:Nat}{os:OsState}
variable{nm q:Str}{C N:Addr}{bs bm bmB:List Value}{hdct:Bool}{sn:List Str}{sub:List Value}{ab:Bool}{col:Option Bool}{dd:Option Addr}{k0 k1 k2 k3 k5:Option Value}{B newId initId:String}
structure S6(B:String)(bm:List Value):Prop where
 has:bm.contains (.type B)=true
 noA:bm.contains (.type "AttributeError")=false
 noN:bm.contains (.type "NameError")=false
theorem Qo(F:ExcBaseFacts B newId initId bmB)(T:S6 B bm){rest:List Value}{Q:Unit->Shared->Prop}(hC:h.get? C=some (excClassObj nm q C N bs bm hdct sn sub ab col dd k0 k1 k2 k3 k5 newId))
  (hq:Q .unit ⟨h,g,d,t,os⟩):wpAny M A (checkBuiltinCall newId ⟨.ref C::rest,[]⟩) Q E ⟨h,g,d,t,os⟩:=by
 have hcont:(Value.ref C::bm).contains (.type B)=true:=by rw[List.contains_cons,T.has,Bool.or_true]
 have hstar:=F.noStar
 simp only[checkBuiltinCall,F.newKind,F.newSplit,F.newRow]
 repeat (first | refine wpAny_loadPart_at hC ?_ | (refine wpAny_isSubtype_exc hC ?_;rw[hcont]) | refine wpAny_staticBase_exc hC ?_ | refine wpAny_madeBy_exc hC ?_ | simp only[bne_self_eq_false,Bool.false_eq_true,if_false] | wp_step)
 exact hq
theorem aiq{R:Result->Shared->Prop}(F:ExcBaseFacts B newId initId bmB)(T:S6 B bm){rest:List Value}(hC:h.get? C=some (excClassObj nm q C N bs bm hdct sn sub ab col dd k0 k1 k2 k3 k5 newId))
  (hq:R (.ok (.ret (.ref (h.objs.size+1)))) ⟨(h.push {cls:= .type "tuple",data:= .seq rest.toArray}).push
   {cls:= .ref C,data:= .fields #[.ref h.objs.size,.none,.none,.none,.bool false,.none]},g,d,t,os⟩) (hrest:rest.length<=sizeLine):
  codeAny (model prog w) A (.builtin newId ⟨.ref C::rest,[]⟩) R ⟨h,g,d,t,os⟩:=by
 have hends:=F.ends
 have hcB:(Value.ref C::bm).contains (.type B)=true:=by rw[List.contains_cons,T.has,Bool.or_true]
 have hcA:(Value.ref C::bm).contains (.type "AttributeError")=false:=by rw[List.contains_cons,T.noA];rfl
 have hcN:(Value.ref C::bm).contains (.type "NameError")=false:=by rw[List.contains_cons,T.noN];rfl
 refine codeAny_builtinAt F.entry ?_
 unfold Builtin.«BaseException.__new__»
 refine wpAt_bind ?_
 show wpAt _ _ _ (stack >>= _) _ _ _
 refine wpAt_bind (wpAt_stack λp below=>wpAt_of_wpAny ?_)
 wp_walk
 refine wpAt_of_wpAny ?_
 rw[F.owner]
 repeat (first | with_reducible refine wpAny_madeHere_exc F.canon hC ?_ | with_reducible refine wpAny_loadPart_at hC ?_ | (with_reducible refine wpAny_isSubtype_exc hC ?_;first | rw[hcB] | rw[hcA] | rw[hcN]) | wp_step)
 show R _ _
 rw[Heap.size_push]
 exact hq
theorem Qm(F:ExcBaseFacts B newId initId bmB)(T:S6 B bm){rest:List Value}{Q:Fin->Shared->Prop}
  (hC:h.get? C=some (excClassObj nm q C N bs bm hdct sn sub ab col dd k0 k1 k2 k3 k5 newId)) (hi:PySem.W.Looks (model prog w) h (typeLookup (.ref C) "__init__") (some (.ref fI)))
  (hfI:h.get? fI=some oI) (hfc:oI.cls= .type "function")
  (hq:∀h' e,h.objs.size<=e->Heap.MadeExcOf h h' e (.ref C) rest->
   wpAny (model prog w) A (call (.ref fI) (.ref e::rest)) (λr s'=>r= .none/\Q (.done (.ret (.ref e))) s') E ⟨h',g,d,t,os⟩) (hrest:rest.length<=sizeLine):
  wpAny (model prog w) A (Builtin.«type.__call__» ⟨.ref C::rest,[]⟩) Q E ⟨h,g,d,t,os⟩:=by
 repeat (first | with_reducible refine wpAny_loadPart_at hC ?_ | with_reducible refine wpAny_madeBy_exc hC ?_ | wp_step)
 refine codeAny_call_builtin_code (Code.quiet_builtin _ F.quiet) (Qo F T hC ?_)
 refine aiq F T hC ?_ hrest
 show wpAny _ _ _ _ _ _
 have hC₁:=zD {cls:= .ref C,data:= .fields #[.ref h.objs.size,.none,.none,.none,.bool false,.none]}
  (zD {cls:= .type "tuple",data:= .seq rest.toArray} hC)
 have hfI₁:=zD {cls:= .ref C,data:= .fields #[.ref h.objs.size,.none,.none,.none,.bool false,.none]}
  (zD {cls:= .type "tuple",data:= .seq rest.toArray} hfI)
 have hget:((h.push {cls:= .type "tuple",data:= .seq rest.toArray}).push
   {cls:= .ref C,data:= .fields #[.ref h.objs.size,.none,.none,.none,.bool false,.none]}).get? (h.objs.size+1)=some
   {cls:= .ref C,data:= .fields #[.ref h.objs.size,.none,.none,.none,.bool false,.none]}:=by heap_get
 have hcC:(Value.ref C::bm).contains (.ref C)=true:=by simp
 unfold isInstance
 repeat (first | with_reducible refine wpAny_loadPart_at hget ?_ | (with_reducible refine wpAny_isSubtype_exc hC₁ ?_;rw[hcC]) | wp_step)
 show wpAny _ _ (typeLookup (.ref C) _) _ _ _
 refine hi _ _ _ _ (λb o hb=>zD _ (zD _ hb)) ?_
 refine wpAny_holding (zC ?_)
 unfold bindSpecial
 refine zC (wpAny_typeOf (T:= "function") ⟨_,hfI₁,hfc⟩ ?_)
 rw[if_pos (by decide)]
 refine zI (zC (vE (hq _ (h.objs.size+1) (Nat.le_succ _) ⟨λb o hb=>zD _ (zD _ hb),Heap.get?_none_of_le (Nat.le_succ _),h.objs.size,hget,Heap.get?_none_of_le (zac _),?_⟩) (λr s' hr=> ?_) λ_ _ x=>x))
 ·exact zD _ (Heap.get?_push_at rfl rfl)
 ·obtain⟨rfl,hQ⟩:=hr
  wp_walk
  exact hQ
theorem x_call(F:ExcBaseFacts B newId initId bmB)(T:S6 B bm){rest:List Value}{Q:Value->Shared->Prop}
  (hC:h.get? C=some (excClassObj nm q C N bs bm hdct sn sub ab col dd k0 k1 k2 k3 k5 newId)) (hi:PySem.W.Looks (model prog w) h (typeLookup (.ref C) "__init__") (some (.ref fI)))
  (hfI:h.get? fI=some oI) (hfc:oI.cls= .type "function")
  (hq:∀h' e,h.objs.size<=e->Heap.MadeExcOf h h' e (.ref C) rest->
   wpAny (model prog w) (A.under (.builtin "type.__call__" ⟨.ref C::rest,[]⟩)) (call (.ref fI) (.ref e::rest)) (λr s'=>r= .none/\Q (.ref e) s') E ⟨h',g,d,t,os⟩) (hrest:rest.length<=sizeLine):
  wpAny (model prog w) A (call (.ref C) rest) Q E ⟨h,g,d,t,os⟩:=by
 have f1:=tc_lookup
 have f2:=tc_bind (.ref C)
 have hT:(⟨h,g,d,t,os⟩:Shared).TypeIs (.ref C) "type" := ⟨_,hC,rfl⟩
 refine wpAny_call (codeAny_of_tree ?_)
 show wpAny _ _ (callAny (.ref C) _) _ _ _
 repeat (any_goals (first | assumption | with_reducible refine wpAny_loadPart_at hC ?_ | wp_step))
 refine⟨rfl,?_⟩
 refine codeAny_call_builtin_at (Code.quiet_builtin _ (by decide +kernel)) entry_typeCall (wpAny_check_type_call_sub hC (Qm (hrest:=hrest) F T hC hi hfI hfc λh' e hs hm=> ?_))
 exact hq h' e hs hm
end
structure Exc(h:Heap)(e C:Addr)(dx T:Option Addr)(fl:Value):Prop where
 at_:∃vs,h.get? e=some {cls:= .ref C,dict:=dx,data:= .fields vs}/\(match T with
  | none=>vs[1]? = some .none
  | some T=>vs[1]? = some (.ref T)/\T≠e/\∃oT ts,h.get? T=some oT/\oT.data= .fields ts/\ts[3]? = some fl)
def ni(fs:List Addr)(e:Addr)(T:Option Addr)(h h':Heap):Prop:=
 (h.objs.size<=h'.objs.size/\∀b o,h.get? b=some o->∃o',h'.get? b=some o')/\(∀b o,b≠e->some b≠T->b∉fs->h.get? b=some o->h'.get? b=some o)/\(∀b o,b≠e->some b≠T->h.get? b=some o->∃sl,h'.get? b=some {o with slots:=sl})
theorem ni.refl:ni fs e T h h:=⟨⟨zac _,λb o q=>⟨o,q⟩⟩,λ_ _ _ _ _ x=>x,λ_ o _ _ x=>⟨o.slots,x⟩⟩
theorem ni.trans(x:ni fs e T h h1)(y:ni fs e T' h1 h2)(hT:T'=T\/∃t,T'=some t/\h.objs.size<=t):ni fs e T h h2:=by
 have ne:∀b o,some b≠T->h.get? b=some o->some b≠T':=λb o n q z=>by
  rcases hT with r | ⟨t,r,q2⟩
  ·exact n (z.trans r)
  ·rw[r]at z;cases z
   exact absurd (yA (zS q) q2) (wS _)
 refine⟨⟨yY x.1.1 y.1.1,λb o q=>let⟨o1,q1⟩:=x.1.2 b o q;y.1.2 b o1 q1⟩,λb o n1 n2 n3 q=>y.2.1 b o n1 (ne b o n2 q) n3 (x.2.1 b o n1 n2 n3 q),λb o n1 n2 q=> ?_⟩
 obtain⟨sl,e1⟩:=x.2.2 b o n1 n2 q
 obtain⟨sl2,e2⟩:=y.2.2 b _ n1 (ne b o n2 q) e1
 exact⟨sl2,e2⟩
section
variable{M:Model}{A:Around}{E:Value->Shared->Prop}{s:Shared}
theorem Vl{Q:Unit->Shared->Prop}
  (hfr:A.frames=some (env::outer)) (hl:s.heap.FunFrames base (env::outer)) (hf:env.frame=some L)
  (he:s.heap.get? e=some {cls:= .ref C,dict:=dx,data:= .fields vs}) (hsz:1<vs.size)
  (h:∀h' T,s.heap.objs.size<=T->ni ((env::outer).filterMap (·.frame)) e (some T) s.heap h'->Exc h' e C dx (some T) (rawInt L)->Q .unit {s with heap:=h'}):
  wpAny M A (do let a <-frameOf env;let pl <-entryPlaceOf L hadNext;let b <-EntryCells.newEntry head a .none (rawInt L) .none pl;setField (.ref e) 1 b) Q E s:=by
 have hene:e∉(env::outer).filterMap (·.frame):=λhm=>by
  obtain⟨_,o,ho,hnf⟩:=hl.mem hm
  rw[he]at ho;injection ho with ho;subst ho;exact hnf vs rfl
 refine zC (wpAny_frameOf_fun hfr hl hf λh₁ hs₁=> ?_)
 refine zC (wpAny_entryPlaceOf λpl hpl=> ?_)
 unfold EntryCells.newEntry newFields
 refine zC (wT ?_ (hpl.sizeOk5 _ _ _ _ _))
 have he₁:h₁.get? e=some {cls:= .ref C,dict:=dx,data:= .fields vs}:=(hs₁.2.1 e hene).trans he
 have he₂:=zD (h:=h₁) {cls:= .type "traceback",dict:=none,data:= .fields ([head,.ref L,.none,rawInt L,.none]++(if pl.isEmpty then List.replicate 6 Value.none else pl)).toArray} he₁
 refine wpAny_setField he₂ rfl hsz (h _ h₁.objs.size (by rw[hs₁.1];exact zac _) ?_ ?_)
 ·refine⟨⟨?_,λb o q=> ?_⟩,λb o n1 n2 n3 q=> ?_,λb o n1 n2 q=> ?_⟩
  ·rw[Heap.size_after_update,Heap.size_push,hs₁.1];omega
  ·by_cases n1:b=e
   ·subst n1
    exact⟨_,vS _ he₂ (Obj.isFreed_of_fields (Obj.data_mapFields rfl _))⟩
   ·obtain⟨sl,q1⟩:=hs₁.2.2 b o q
    exact⟨_,(xL _ _ (Ne.symm n1)).trans (zD _ q1)⟩
  ·rw[xL _ _ (Ne.symm n1)]
   exact zD _ ((hs₁.2.1 b n3).trans q)
  ·obtain⟨sl,q1⟩:=hs₁.2.2 b o q
   refine⟨sl,?_⟩
   rw[xL _ _ (Ne.symm n1)]
   exact zD _ q1
 ·have hTe:h₁.objs.size≠e:=xS (zS he₁)
  have hd₃:=Obj.data_mapFields (o:={cls:= .ref C,dict:=dx,data:= .fields vs}) rfl (·.setIfInBounds 1 (Value.ref h₁.objs.size))
  have he₃:=vS (Obj.mapFields (·.setIfInBounds 1 (Value.ref h₁.objs.size))) he₂ (Obj.isFreed_of_fields hd₃)
  have hT₃:=(xL (h₁.push {cls:= .type "traceback",dict:=none,data:= .fields ([head,.ref L,.none,rawInt L,.none]++(if pl.isEmpty then List.replicate 6 Value.none else pl)).toArray})
   (Obj.mapFields (·.setIfInBounds 1 (Value.ref h₁.objs.size))) (Ne.symm hTe)).trans (yB h₁ rfl)
  refine⟨⟨_,he₃,by simp[hsz],hTe,_,_,hT₃,rfl,by first | (simp;done) | (rcases hpl with rfl | ⟨_,_,_,_,_,_,_,rfl⟩<;>simp)⟩⟩
theorem ni.upd(ho:h.get? T=some oT)(hfr:(f oT).isFreed=false):ni fs e (some T) h (h.update T f):=by
 have k:∀b o,some b≠some T->h.get? b=some o->(h.update T f).get? b=some o:=λb o n q=>by
  rw[xL _ _ (λz=>n (by rw[z]))];exact q
 refine⟨⟨by rw[Heap.size_after_update];exact zac _,λb o q=> ?_⟩,λb o _ n2 _ q=>k b o n2 q,λb o _ n2 q=>⟨o.slots,k b o n2 q⟩⟩
 by_cases z:b=T
 ·subst z;exact⟨_,vS _ ho hfr⟩
 ·exact⟨o,k b o (λy=>z (xI y)) q⟩
theorem yR{Q:Unit->Shared->Prop}(x:Exc s.heap e C dx T fl)
  (h:∀h',ni [] e T s.heap h'->Exc h' e C dx T (fr.elim .none λf=>rawInt f)->Q .unit {s with heap:=h'}):wpAny M A (setFlight (.ref e) fr) Q E s:=by
 obtain⟨vs,he,hT⟩:=x.at_
 unfold setFlight
 cases T with
 | none=>
  refine zC (vT he rfl hT ?_)
  rw[if_neg (by decide)]
  exact zI (h s.heap .refl ⟨vs,he,hT⟩)
 | some T=>
  obtain⟨h1,hne,oT,ts,hoT,hd,h3⟩:=hT
  refine zC (vT he rfl h1 ?_)
  rw[if_pos (show(Value.ref T != Value.none)=true from by simp)]
  have hsz3:3<ts.size:=(Array.getElem?_eq_some_iff.mp h3).1
  refine wpAny_setField hoT hd hsz3 (h _ (.upd hoT (Obj.isFreed_of_fields (Obj.data_mapFields hd _))) ⟨vs,?_,h1,hne,_,_,vS _ hoT (Obj.isFreed_of_fields (Obj.data_mapFields hd _)),Obj.data_mapFields hd _,by simp[hsz3]⟩)
  rw[xL _ _ hne];exact he
theorem Te{Q:Unit->Shared->Prop}
  (hfr:A.frames=some (env::outer)) (hl:s.heap.FunFrames base (env::outer)) (hf:env.frame=some L) (x:Exc s.heap e C dx T fl) (hfl:fl=fl\/fl=rawInt L)
  (h:∀h' T',(T=some T'\/s.heap.objs.size<=T')->ni ((env::outer).filterMap (·.frame)) e T s.heap h'->Exc h' e C dx (some T') (rawInt L)->Q .unit {s with heap:=h'}):wpAny M A (noteFrame (.ref e) env) Q E s:=by
 obtain⟨vs,he,hT⟩:=x.at_
 unfold noteFrame
 simp only[hf]
 cases T with
 | none=>
  refine zC (vT he rfl hT ?_)
  rw[if_neg (by decide)]
  refine Vl hfr hl hf he (Array.getElem?_eq_some_iff.mp hT).1 λh' T hs k x'=>h h' T (.inr hs) ?_ x'
  exact⟨k.1,λb o n1 _ n3 q=>k.2.1 b o n1 (λz=>by cases z;exact absurd (yA (zS q) hs) (wS _)) n3 q,λb o n1 _ q=>k.2.2 b o n1 (λz=>by cases z;exact absurd (yA (zS q) hs) (wS _)) q⟩
 | some T=>
  obtain⟨h1,hne,oT,ts,hoT,hd,h3⟩:=hT
  refine zC (vT he rfl h1 ?_)
  rw[if_pos (show(Value.ref T != Value.none)=true from by simp)]
  refine zC (vT hoT hd h3 ?_)
  by_cases hq:fl=rawInt L
  ·subst hq
   rw[if_pos (show(rawInt L==rawInt L)=true from by simp)]
   exact zI (h s.heap T (.inl rfl) .refl x)
  ·rw[if_neg (show ¬((fl==rawInt L)=true)from by simpa using hq)]
   have hsz3:3<ts.size:=(Array.getElem?_eq_some_iff.mp h3).1
   refine zC (wpAny_setField hoT hd hsz3 ?_)
   have other:∀b,b≠T->(s.heap.update T (Obj.mapFields (·.setIfInBounds 3 Value.none))).get? b=s.heap.get? b:=λb hb=>xL _ _ (Ne.symm hb)
   have noRecord:∀b o,s.heap.get? b=some o->(∀vs,o.data≠ .fields vs)->b≠T:=λb o hb hnf q=>by
    rw[q,hoT]at hb;injection hb with hb;subst hb;exact hnf ts hd
   refine Vl hfr (hl.of_keeps λb o hb hnf=>⟨o,(other b (noRecord b o hb hnf)).trans hb,rfl⟩) hf ((other e (Ne.symm hne)).trans he) (Array.getElem?_eq_some_iff.mp h1).1 λh' T' hs k x'=> ?_
   rw[Heap.size_after_update]at hs
   exact h h' T' (.inr hs) ((ni.upd hoT (Obj.isFreed_of_fields (Obj.data_mapFields hd _))).trans k (.inr ⟨T',rfl,hs⟩)) x'
theorem ab3{Q:Unit->Shared->Prop}
  (hfr:A.frames=some (env::outer)) (hl:s.heap.FunFrames base (env::outer)) (hf:env.frame=some L) (x:Exc s.heap e C dx T fl) (hfl:fl=fl\/fl=rawInt L)
  (h:∀h' T',(T=some T'\/s.heap.objs.size<=T')->ni ((env::outer).filterMap (·.frame)) e T s.heap h'->Exc h' e C dx (some T') .none->Q .unit {s with heap:=h'}):wpAny M A (leaving env (.ref e)) Q E s:=by
 unfold leaving
 refine zC (Te hfr hl hf x hfl λh' T' hT k x'=> ?_)
 refine yR (fr:=none) (s:={s with heap:=h'}) x' λh2 k2 x2=>h h2 T' hT (k.trans (T':=some T') ⟨k2.1,λb o n1 n2 _ q=>k2.2.1 b o n1 n2 (by simp) q,k2.2.2⟩ ?_) x2
 rcases hT with r | r
 ·exact .inl r.symm
 ·exact .inr ⟨T',rfl,r⟩
end
end L2
namespace L2
open PySem PySem.Spec PyProof.Rows
abbrev xO(a C:Addr)(dx:Option Addr):HO:= .ext λh=>Exc h a C dx none .none
theorem aeh(x:Exc h a C dx none .none):cY P w H h a (xO a C dx):=by
 refine⟨x,?_,λh1 h2 y k=> ?_⟩
 ·obtain⟨vs,e,_⟩:=x.at_;exact⟨_,e⟩
 ·obtain⟨vs,e,q⟩:=y.at_;exact⟨vs,k _ e,q⟩
theorem aei(x:cY P w H h a (xO a C dx)):Exc h a C dx none .none:=x.1
section
variable{X:Cx}{pins:List (Addr×Obj)}{σ:St}{H:Hp}{s:Shared}{a C:Addr}{f:Str}{A:Around}{E:Value->Shared->Prop}
theorem Qk{Q:Unit->Shared->Prop}(I:Inv X pins σ H s)(e:H a=some (xO a C none))(F:Lf X.K C f)(ry:RelV y u)
  (h:∀dx s',H dx=none->dx≠a->Inv X pins σ (upd (upd H dx (.xd [(f,y)])) a (xO a C (some dx))) s'->Q .unit s'):wpAny (model X.prog X.w) A (setAttr (.ref a) f u) Q E s:=by
 obtain⟨vs,hx,h1⟩:=(aei (I.hok a _ e)).at_
 refine aio I.G6 F hx λh' dx ed hx' hn kp=> ?_
 subst ed
 have hd0:H s.heap.objs.size=none:=I.hok.fresh (zac _)
 have nea:s.heap.objs.size≠a:=xS (I.hok.lt e)
 refine h _ _ hd0 nea (I.un ⟨λb o q n _ _=>kp b o (λz=>by subst z;rw[e]at n;cases n) q,λb o q n _ _=>⟨o.slots,kp b o (λz=>by subst z;rw[e]at n;cases n) q⟩,λb o q n _=> ?_,λb o q _=> ?_,λb xs q=> ?_,λb o xs q=> ?_,λb ps q=>⟨#[],?_⟩⟩ λb o q=> ?_)
 ·have n1:b≠a:=λz=>by subst z;rw[e]at n;cases n
  rw[aH n1,aH (xD (zS q))];exact n
 ·by_cases z:b=a
  ·subst z;exact⟨_,hx'⟩
  ·exact⟨o,kp b o z q⟩
 ·have n1:b≠a:=λz=>by subst z;rw[e]at q;cases q
  have n2:b≠s.heap.objs.size:=λz=>by subst z;rw[hd0]at q;cases q
  rw[aH n1,aH n2];exact q
 ·have n1:b≠a:=λz=>by subst z;rw[e]at q;cases q
  have n2:b≠s.heap.objs.size:=λz=>by subst z;rw[hd0]at q;cases q
  rw[aH n1,aH n2];exact q
 ·have n1:b≠a:=λz=>by subst z;rw[e]at q;cases q
  have n2:b≠s.heap.objs.size:=λz=>by subst z;rw[hd0]at q;cases q
  rw[aH n1,aH n2,q];simp
 ·by_cases z:b=a
  ·subst z
   rw[bw]at q;cases q
   exact aeh ⟨vs,hx',h1⟩
  ·rw[aH z]at q
   by_cases z2:b=s.heap.objs.size
   ·subst z2
    rw[bw]at q;cases q
    refine⟨_,hn,λg=> ?_⟩
    by_cases zg:g=f
    ·subst zg;simp[List.lookup];exact ry
    ·have:(g==f)=false:=by simpa using zg
     simp[List.lookup,this,zg];exact zab
   ·rw[aH z2]at q
    refine(I.hok b o q).stay (λb' u' hb q'=> ?_) (λb' q'=> ?_) λb' xs q'=> ?_
    ·refine kp b' u' (λz'=> ?_) q'
     rcases hb with r | r
     ·exact z (r▸z')
     ·rw[z',e]at r;cases r
    ·have n1:b'≠a:=λz=>by subst z;rw[e]at q';cases q'
     have n2:b'≠s.heap.objs.size:=λz=>by subst z;rw[hd0]at q';cases q'
     rw[aH n1,aH n2];exact q'
    ·have n1:b'≠a:=λz=>by subst z;rw[e]at q';cases q'
     have n2:b'≠s.heap.objs.size:=λz=>by subst z;rw[hd0]at q';cases q'
     rw[aH n1,aH n2];exact q'
end
section
variable{X:Cx}{o value:Expr}{ta tv:TE}{f:Str}{pos pos':Pos}
def aev(K:Frag)(ta tv:TE)(f:Str):TS:=λD σ H=>tv σ H λy H1=>ta σ H1 λx H2=>∃a C,x= .ref a/\H2 a=some (xO a C none)/\Lf K C f/\
 ∀dx,H2 dx=none->dx≠a->D.nx σ (upd (upd H2 dx (.xd [(f,y)])) a (xO a C (some dx)))
theorem acR(ha:PE X o ta)(hv:PE X value tv)(hs:swapsWith value (some (.Attribute o f pos')) pos.line X.env=pure false):PS X (.Assign [.Attribute o f pos'] value pos) (aev X.K ta tv f):=by
 intro pins s σ H D I h
 refine plainObj_wpAny_Assign_Attribute (gj (hv pins s σ H _ I h) ?_) hs
 rintro u s1 ⟨y,H1,I1,ry,q⟩
 refine gj (ha pins s1 σ H1 _ I1 q) ?_
 rintro ov s2 ⟨x,H2,I2,rx,a,C,ex,ea,F,q2⟩
 subst ex
 obtain rfl:ov=Value.ref a:=rx
 exact Qk I2 ea F ry λdx s3 hd ne I3=>⟨σ,_,I3,q2 dx hd ne⟩
end
def Bh(K:Frag)(f:Str):Sp:=λvs H Q _=>∃a C y,vs=[.ref a,y]/\H a=some (xO a C none)/\Lf K C f/\∀dx,H dx=none->dx≠a->Q .non (upd (upd H dx (.xd [(f,y)])) a (xO a C (some dx)))
section
variable{P:Program}{w:World}{K:Frag}{mg:Str->Option Value}{base:Heap}
theorem abv{x qual g:Str}{st:Stmt}{dV:Value}{f:Addr}{fd:FuncData}{N ps:List Str}{k:Nat}(F:yE K x qual st dV f fd)(S:qP N ps (aX st))(hps:ps.length=2)
  (hbody:∀(cdv:Value) (A:Around) (outer:List Env) (s:Shared) (H:Hp) (E:XK),HY (xQ YT P w K mg base N qual (aX st) f cdv A outer s H E).nox (cX st) (aev K (acf 0) (acf 1) g)):
  gP P w K mg base YT (k+1) f fd ps (Bh K g):=by
 refine F.ok S (λvs H Q E ⟨a,C,y,e,_⟩=>by rw[e,hps];rfl) λcdv A outer s H vs Q E hr ⟨a,C,y,e,hH,hF,q⟩=> ?_
 subst e
 refine⟨_,hbody cdv A outer s H E,y,rfl,.ref a,rfl,a,C,rfl,hH,hF,λdx hd ne=> .inl (q dx hd ne)⟩
end
structure XMk(K:Frag)(C f:Addr):Prop where
 obj:∃(nm q:Str) (N:Addr) (bs bm:List Value) (hdct:Bool) (sn:List Str) (sub:List Value) (ab:Bool) (col:Option Bool) (dd:Option Addr) (k0 k1 k2 k3 k5:Option Value),
  K.lookup C=some (excClassObj nm q C N bs bm hdct sn sub ab col dd k0 k1 k2 k3 k5 "ValueError.__new__")/\S6 "ValueError" bm/\bm.contains (.type "BaseException")=true
 init:findIn K (.ref C) "__init__" = some (some (.ref f))
 fn:isFn K (.ref f)=true
 kp:keepIn K (.ref C)=true
section
variable{X:Cx}{k:Nat}{f C:Addr}{fd:FuncData}{ps:List Str}{g:Str}
theorem Inv.aip(I:Inv X pins σ H s)(hs:s.heap.objs.size<=e)(m:Heap.MadeExcOf s.heap h' e (.ref C) us):
  Inv X pins σ (upd H e (xO e C none)) {s with heap:=h'}:=by
 obtain⟨t,he,_,_⟩:=m.there
 exact I.laid (t':=s.toks) (λb u q=>m.keeps b u q) hs (aeh ⟨_,he,rfl⟩)
theorem Xx(M:XMk X.K C f)(hX:Lf X.K C g)(F:gP X.prog X.w X.K X.mg X.base YT k f fd ps (Bh X.K g))(hr:iw (k+1) X.A)(hb:Binds X.K fd ps [])
  (I:Inv X pins σ H s) (r:RelV y u)
  (h:∀x dx,H x=none->H dx=none->dx≠x->s.heap.objs.size<=x->Q (.ref x) (upd (upd (upd H x (xO x C none)) dx (.xd [(g,y)])) x (xO x C (some dx)))):
  wpAny (model X.prog X.w) X.A (call (.ref C) [u]) (EP X pins σ Q) X.xe s:=by
 obtain⟨nm,q,N,bs,bm,hdct,sn,sub,ab,col,dd,k0,k1,k2,k3,k5,hC,hT,hB⟩:=M.obj
 have hfn:=beq_iff_eq.mp M.fn
 have lk:∃oI,X.K.lookup f=some oI/\oI.cls= .type "function" := by
  obtain⟨o,ho,hc⟩:=Option.map_eq_some_iff.mp hfn
  exact⟨o,ho,hc⟩
 obtain⟨oI,hoI,hcI⟩:=lk
 obtain⟨hp,gg,d,t,os⟩:=s
 refine x_call PySem.F.excBase_ValueError hT (I.G6 _ _ hC) (PySem.W.looks_findIn I.G6 M.init) (I.G6 _ _ hoI) hcI (λh' e hs m=> ?_) (by show 1<=sizeLine;decide)
 have I2:=I.aip hs m
 have r2:Vals [V.ref e,y] [Value.ref e,u]:= .cons rfl (.cons r .nil)
 have n0:H e=none:=I.hok.fresh hs
 have hq:Bh X.K g [V.ref e,y] (upd H e (xO e C none)) (λv H2=>v= .non/\Q (.ref e) H2) E0:=by
  refine⟨e,C,y,rfl,bw,hX,λdx hd ne=>⟨rfl,h e dx n0 ?_ ne hs⟩⟩
  rw[aH ne]at hd;exact hd
 have hl:([Value.ref e,u]++[]).length=ps.length:=by rw[List.append_nil,<-r2.length];exact F.len _ _ _ _ hq
 refine wpAny_call (codeAny_mono (F.run _ X.stack _ _ ⟨[Value.ref e,u],[]⟩ [Value.ref e,u] _ _ E0 (hr.make C [u] []) (I2.env0.make C [u] []) (by simpa using hb _ [Value.ref e,u] I2.G6 hl) r2 hq) λr s' hq'=> ?_)
 cases r with
 | error e=>exact hq'.elim
 | ok fl=>
  cases fl with
  | ret u=>
   obtain⟨v,H',I3,rv,ev,q3⟩:=I2.after hq'
   subst ev
   exact⟨rv,⟨V.ref e,H',I3,rfl,q3⟩⟩
  | next=>exact False.elim hq'
  | brk=>exact False.elim hq'
  | cont=>exact False.elim hq'
end
def drop(H:Hp)(a:Addr):Hp:=λb=>if b=a then none else H b
theorem WY(h:b≠a):drop H a b=H b:=by unfold drop;rw[if_neg h]
theorem Mu:drop H a a=none:=by unfold drop;rw[if_pos rfl]
section
variable{X:Cx}{pins:List (Addr×Obj)}{σ:St}{H:Hp}{s:Shared}{a:Addr}{φ:Heap->Prop}
theorem Inv.ako(I:Inv X pins σ H s)(e:H a=some (.ext φ)):Inv X pins σ (drop H a) s:=by
 have nn:∀b,H b=none->drop H a b=none:=λb q=>by unfold drop;split<;>first | rfl | exact q
 have kk:∀b u,H b=some u->(∀ψ,u≠ .ext ψ)->drop H a b=some u:=λb u q n=>by
  have:b≠a:=λz=>by subst z;rw[e]at q;cases q;exact n _ rfl
  rw[WY this];exact q
 refine⟨I.ok,I.os,I.bare,⟨I.base.keep,I.base.slot,λb o q n x=>nn b (I.base.free b o q n x),I.base.there,λb xs q=>kk b _ (I.base.tups b xs q) (by simp),λb o u q=>kk b _ (I.base.yt b o u q) (by simp),λb ps q=> ?_⟩,I.loc,I.cell,nn _ I.free,λx c q=>nn _ (I.j9 x c q),λp hp=> ?_,λb o q=> ?_,I.len⟩
 ·obtain⟨m,z⟩:=I.base.BJ b ps q;exact⟨m,kk b _ z (by simp)⟩
 ·obtain⟨z1,z2,z3⟩:=I.pin p hp;exact⟨z1,nn _ z2,z3⟩
 ·have nb:b≠a:=λz=>by subst z;rw[Mu]at q;cases q
  rw[WY nb]at q
  exact(I.hok b o q).stay (λ_ _ _ z=>z) (λb' z=>kk b' _ z (by simp)) λb' xs z=>kk b' _ z (by simp)
end
def Dp(P:Program)(w:World):Vi:=λouter H s E ev s'=>∃e C dx T H',ev=Value.ref e/\s'.os=s.os/\AllBare s'.gens/\Un (frs outer) [] H H' s.heap s'.heap/\ug P w H' s'.heap/\Exc s'.heap e C (some dx) (some T) .none/\
 s.heap.objs.size<=e/\s.heap.objs.size<=T/\H' e=none/\H' T=none/\E (.ref C) (some dx) H'
abbrev a_:=Addr->Addr->St->Hp->Prop
structure Ba(X:Cx)(pins:List (Addr×Obj))(H:Hp)(a:Addr):Prop where
 no:H a=none
 new:X.s₀.heap.objs.size<=a
 pin:∀p∈X.pn++pins,p.1≠a
def iB(X:Cx)(W:a_):Value->Shared->Prop:=λev s=>∃e C dx T fl pins σ H,ev=Value.ref e/\Inv X pins σ H s/\Exc s.heap e C (some dx) T fl/\(fl=fl\/fl=rawInt X.env.locals)/\Ba X pins H e/\(∀t,T=some t->Ba X pins H t)/\W C dx σ H
section
variable{X:Cx}{pins:List (Addr×Obj)}{σ:St}{H:Hp}{s:Shared}
theorem iB.V8(I:Inv X pins σ H s)(h:Dp X.prog X.w X.stack H s E ev s')(hE:∀C dx H',E (.ref C) (some dx) H'->W C dx σ H'):iB X W ev s':=by
 obtain⟨e,C,dx,T,H',rfl,os,bare,un,hok,x,ne,nT,fe,fT,hq⟩:=h
 have old:∀a,s.heap.objs.size<=a->∀p∈X.pn++pins,p.1≠a:=λa ha p hp z=>by
  have:=zS (I.pin p hp).1
  rw[z]at this
  exact absurd (yA this ha) (wS _)
 exact⟨e,C,dx,some T,.none,pins,σ,H',rfl,I.call' os un hok bare (λb z=>absurd z (by simp)),x,.inl rfl,⟨fe,yY I.sz ne,old e ne⟩,λt z=>by cases z;exact⟨fT,yY I.sz nT,old T nT⟩,hE C dx H' hq⟩
theorem Mp(ok:ug P w H h)(k:ni fs e T h h')(he:H e=none)(hT:∀t,T=some t->H t=none)(hf:∀b∈fs,H b=none):ug P w H h':=by
 have kp:∀b u o,H b=some o->h.get? b=some u->h'.get? b=some u:=λb u o q z=>
  k.2.1 b u (λy=>by subst y;rw[he]at q;cases q) (λy=>by rw[hT b y.symm]at q;cases q) (λy=>by rw[hf b y]at q;cases q) z
 intro b o q
 refine(ok b o q).stay (λb' u hb z=> ?_) (λ_ z=>z) λ_ _ z=>z
 rcases hb with rfl | hb
 ·exact kp _ u o q z
 ·exact kp _ u _ hb z
end
theorem iB.leave{P:Program}{w:World}{K:Frag}{mg:Str->Option Value}{base:Heap}{N:List Str}{qual:Str}{scope:Scope}{f:Addr}{cd:Value}{A:Around}{outer:List Env}{s:Shared}{H:Hp}{E:XK}{W:a_}{ev:Value}{s':Shared}
  (h:iB (xQ (Dp P w) P w K mg base N qual scope f cd A outer s H E) W ev s') (hE:∀C dx σ H',W C dx σ H'->E (.ref C) (some dx) H'):
  (xQ (Dp P w) P w K mg base N qual scope f cd A outer s H E).xe ev s':=by
 obtain⟨e,C,dx,T,fl,pins,σ,H',rfl,I,x,hfl,fe,fT,hW⟩:=h
 show wpAny _ _ (leaving _ (.ref e)) _ _ s'
 refine ab3 I.ok.frames I.stack rfl x hfl λh2 T' hT k x'=> ?_
 have hTn:∀t,T=some t->H' t=none:=λt z=>(fT t z).no
 have nT:s.heap.objs.size<=T':=by
  rcases hT with r | r
  ·exact(fT T' r).new
  ·exact yY I.sz r
 have fT':H' T'=none:=by
  rcases hT with r | r
  ·exact hTn T' r
  ·exact I.hok.fresh r
 have ok2:=Mp I.hok k fe.no hTn I.Ie
 have ne:∀b o,s.heap.get? b=some o->b≠e/\some b≠T:=λb o q=>⟨λz=>absurd (yA (zS q) (z▸fe.new)) (wS _),λz=>absurd (yA (zS q) (fT b z.symm).new) (wS _)⟩
 have nL:∀b o,s.heap.get? b=some o->b≠s.heap.objs.size:=λb o q=>xD (zS q)
 refine⟨e,C,dx,T',H',rfl,I.os,I.bare,⟨λb o q n hb _=> ?_,λb o q n hb _=> ?_,λb o q n _=>I.base.free b o q n (by simp[xQ]),λb o q _=> ?_,I.base.tups,I.base.yt,I.base.BJ⟩,ok2,x',fe.new,nT,fe.no,fT',hE C dx σ H' hW⟩
 ·obtain⟨n1,n2⟩:=ne b o q
  refine k.2.1 b o n1 n2 (λz=> ?_) (I.base.keep b o q n hb (by simp[xQ]))
  rcases List.mem_cons.mp (I.Np b z)with y | y
  ·exact nL b o q y
  ·exact hb y
 ·obtain⟨n1,n2⟩:=ne b o q
  obtain⟨sl,q1⟩:=I.base.slot b o q n hb (by simp[xQ])
  obtain⟨sl2,q2⟩:=k.2.2 b _ n1 n2 q1
  exact⟨sl2,q2⟩
 ·obtain⟨n1,n2⟩:=ne b o q
  obtain⟨o1,q1⟩:=I.base.there b o q (by simp[xQ])
  obtain⟨sl2,q2⟩:=k.2.2 b _ n1 n2 q1
  exact⟨_,q2⟩
end L2
namespace L2
section
open PySem
variable{M:Model}{A:Around}{E:Value->Shared->Prop}{env:Env}
variable{nm q:Str}{C N:Addr}{bs bm:List Value}{hdct:Bool}{sn:List Str}{sub:List Value}{ab:Bool}{col:Option Bool}{dd:Option Addr}{k0 k1 k2 k3 k5:Option Value}{newId:String}
theorem Qn{Q:Flow->Shared->Prop}(hbase:bm.contains (.type "BaseException")=true)(hh:A.handled=none)
  (h:wpAny M A x (λv s₁=>∃e dx vs,v= .ref e/\s₁.heap.get? C=some (excClassObj nm q C N bs bm hdct sn sub ab col dd k0 k1 k2 k3 k5 newId)/\
   s₁.heap.get? e=some {cls:= .ref C,dict:=dx,data:= .fields vs}/\vs[1]? = some .none/\E (.ref e) s₁) E s):
  wpAny M A (raiseStmt env (some x) none) Q E s:=by
 have hcB:(Value.ref C::bm).contains (.type "BaseException")=true:=by rw[List.contains_cons,hbase,Bool.or_true]
 unfold raiseStmt
 refine zC (vE h (λv s₁ h₁=> ?_) λ_ _ x=>x)
 obtain⟨e,dx,vs,rfl,hC,he,h1,hE⟩:=h₁
 obtain⟨hp,g,d,tk,os⟩:=s₁
 have hfl:∀{Q:Unit->Shared->Prop},Q .unit ⟨hp,g,d,tk,os⟩->wpAny M A (setFlight (.ref e) none) Q E ⟨hp,g,d,tk,os⟩:=λhQ=>by
  unfold setFlight
  refine zC (vT he rfl h1 ?_)
  rw[if_neg (by decide)]
  exact zI hQ
 repeat (first | with_reducible refine wpAny_loadPart_at he ?_ | with_reducible refine wpAny_loadPart_at hC ?_ | (with_reducible refine wpAny_isSubtype_exc hC ?_;rw[hcB]) | with_reducible refine hfl ?_ | wp_step)
 exact wpAny_raiseNew_none hh hE
end
section
open PySem PySem.Spec PyProof.Rows
variable{X:Cx}{k:Nat}{f C:Addr}{fd:FuncData}{ps:List Str}{g:Str}{x:Str}{np cpos pos:Pos}{arg:Expr}{ta:TA}{W:a_}
theorem Yu{H:Hp}{x dx:Addr}{o1 o2 o3:HO}(hx:H x=none)(ne:dx≠x):drop (upd (upd (upd H x o1) dx o2) x o3) x=upd H dx o2:=by
 funext b
 unfold drop upd
 by_cases z:b=x
 ·subst z;rw[if_pos rfl,if_neg (Ne.symm ne),hx]
 ·rw[if_neg z,if_neg z]
  by_cases z2:b=dx
  ·rw[if_pos z2,if_pos z2]
  ·rw[if_neg z2,if_neg z2,if_neg z]
def afu(C:Addr)(g:Str)(W:a_)(ta:TA):TS:=λ_ σ H=>ta σ H λvs H1=>∃y,vs=[y]/\∀dx,H1 dx=none->W C dx σ (upd H1 dx (.xd [(g,y)]))
theorem aay(M:XMk X.K C f)(hX:Lf X.K C g)(F:gP X.prog X.w X.K X.mg X.base YT k f fd ps (Bh X.K g))(hr:iw (k+1) X.A)(hb:Binds X.K fd ps [])(hg:Gl X x)(hm:X.mg x=some (.ref C))(hc:X.calm=true)
  (hW:∀ev s,iB X W ev s->X.xe ev s) (ha:PA X [arg] ta) (hdb:(x==("__debug__" : Str))=false:=by decide) (he:starEach [arg] X.env=[(false,eval arg X.env)]:=by rfl):
  PS X (.Raise (some (.Call (.Name x np) [arg] [] cpos)) none pos) (afu C g W ta):=by
 intro pins s σ H D I h
 obtain⟨nm,q,N,bs,bm,hdct,sn,sub,ab,col,dd,k0,k1,k2,k3,k5,hC,hT,hB⟩:=M.obj
 rw[arm_exec_Raise]
 refine zC (wpAny_standAt (Qn (C:=C) (nm:=nm) (q:=q) (N:=N) (bs:=bs) (bm:=bm) (hdct:=hdct) (sn:=sn) (sub:=sub) (ab:=ab) (col:=col) (dd:=dd) (k0:=k0) (k1:=k1) (k2:=k2) (k3:=k3) (k5:=k5) (newId:= "ValueError.__new__") hB (I.ok.hd hc) ?_))
 have main:wpAny (model X.prog X.w) X.A (eval (.Call (.Name x np) [arg] [] cpos) X.env) (EP X pins σ λv H3=>∃e dx y H1,v= .ref e/\H1 e=none/\H1 dx=none/\dx≠e/\X.s₀.heap.objs.size<=e/\(∀p∈X.pn++pins,p.1≠e)/\H3=upd (upd (upd H1 e (xO e C none)) dx (.xd [(g,y)])) e (xO e C (some dx))/\W C dx σ (upd H1 dx (.xd [(g,y)]))) X.xe s:=by
  refine wpAny_Call_Name_kw (Ew I hg hm ?_ hdb)
  refine PySem.W.callWith_K (h₀:=X.base) I.ok.mod.kin M.kp (gj (ha cpos pins s σ H _ I h) ?_) he rfl
  rintro us s1 ⟨vs,H1,I1,r,y,ev,q⟩
  refine⟨I1.G6,?_⟩
  subst ev
  cases r with
  | cons r1 r2=>
   cases r2
   refine Xx M hX F hr hb I1 r1 λe dx n1 n2 ne hs=>⟨e,dx,y,H1,rfl,n1,n2,ne,yY I1.sz hs,λp hp z=> ?_,rfl,q dx n2⟩
   have:=zS (I1.pin p hp).1
   rw[z]at this
   exact absurd (yA this hs) (wS _)
 refine zC (gj main ?_)
 rintro v s1 ⟨vv,H3,I3,rv,e,dx,y,H1,ev,n1,n2,ne,sz,pn,eH,hw⟩
 refine zC (wpAny_standAt (zI ?_))
 subst ev eH
 obtain rfl:v=Value.ref e:=rv
 have x0:Exc s1.heap e C (some dx) none .none:=aei (I3.hok e _ bw)
 obtain⟨vs,hat,h1⟩:=x0.at_
 refine⟨e,some dx,vs,rfl,I3.G6 _ _ hC,hat,h1,hW _ _ ⟨e,C,dx,none,.none,pins,σ,_,rfl,I3.ako bw,x0,.inl rfl,⟨Mu,sz,pn⟩,(λt z=>by cases z),?_⟩⟩
 rw[Yu n1 ne]
 exact hw
end
end L2
namespace L2
open PySem PySem.Spec PyProof.Rows
section
variable{X:Cx}{pins:List (Addr×Obj)}{σ:St}{H:Hp}{s:Shared}{e C:Addr}{dx T:Option Addr}{fl:Value}{h':Heap}{W:a_}
theorem Inv.FW(I:Inv X pins σ H s)(h:s.heap.get? a=some o)(d:o.data= .fields vs):a≠X.env.locals/\∀x c,X.env.cells.lookup x=some c->c≠a:=by
 refine⟨λz=> ?_,λx c hc z=> ?_⟩
 ·obtain⟨m,⟨o',es,ep,ho,hd,_⟩,_⟩:=I.loc
  subst z
  rw[ho]at h;cases h;rw[hd]at d;cases d
 ·obtain⟨v,o',ho,hd⟩:=I.cell x c hc
  subst z
  rw[ho]at h;cases h;rw[hd]at d;cases d
theorem Inv.Li(I:Inv X pins σ H s)(x:Exc s.heap e C dx T fl)(fe:Ba X pins H e)(fT:∀t,T=some t->Ba X pins H t)(k:ni (frs X.stack) e T s.heap h')(hE:∃o,h'.get? e=some o)(hTt:∀t,T=some t->∃o,h'.get? t=some o):
  Inv X pins σ H {s with heap:=h'}:=by
 obtain⟨vs,he,hT⟩:=x.at_
 have ok2:=Mp I.hok k fe.no (λt z=>(fT t z).no) I.Ie
 refine I.call (t':=s.toks) (g':=s.gens) (d':=s.drawn) (ch:=e::T.toList) ⟨λb o q n hb hc=> ?_,λb o q n hb hc=> ?_,λb o q n _=>n,λb o q hc=> ?_,λ_ _ q=>q,λ_ _ _ q=>q,λb ps q=>⟨#[],by rw[q];simp⟩⟩ ok2 I.bare λb hb=> ?_
 ·simp at hc
  exact k.2.1 b o hc.1 (λz=>hc.2 z.symm) hb q
 ·simp at hc
  exact k.2.2 b o hc.1 (λz=>hc.2 z.symm) q
 ·simp at hc
  obtain⟨sl,z⟩:=k.2.2 b o hc.1 (λz=>hc.2 z.symm) q
  exact⟨_,z⟩
 ·simp at hb
  rcases hb with rfl | hb
  ·exact⟨.inr fe.new,(I.FW he rfl).1,(I.FW he rfl).2,fe.pin⟩
  ·subst hb
   obtain⟨_,_,oT,ts,hoT,hd,_⟩:=hT
   exact⟨.inr (fT b rfl).new,(I.FW hoT hd).1,(I.FW hoT hd).2,(fT b rfl).pin⟩
theorem ni.mono(k:ni fs e T h h')(hs:∀b∈fs,b∈fs'):ni fs' e T h h':=⟨k.1,λb o n1 n2 n3 q=>k.2.1 b o n1 n2 (λz=>n3 (hs b z)) q,k.2.2⟩
theorem Exc.here(x:Exc h' e C dx T fl):(∃o,h'.get? e=some o)/\∀t,T=some t->∃o,h'.get? t=some o:=by
 obtain⟨vs,he,hT⟩:=x.at_
 refine⟨⟨_,he⟩,λt z=> ?_⟩
 subst z
 obtain⟨_,_,oT,_,hoT,_⟩:=hT
 exact⟨oT,hoT⟩
theorem iB.XM(hst:X.stack=X.env::X.outer)(hf:X.env.frame=some X.env.locals)(hA:A.frames=some X.stack):∀ev s',iB X W ev s'->wpAny (model X.prog X.w) A (noteFrame ev X.env) (λ_ s2=>cameBackBy (model X.prog X.w) X.A X.env (iB X W) ev s2) (cameBackBy (model X.prog X.w) X.A X.env (iB X W)) s':=by
 rintro ev s' ⟨e,C,dx,T,fl,pins,σ,H,rfl,I,x,hfl,fe,fT,hW⟩
 have abi:=I.stack
 rw[hst]at abi
 refine Te (by rw[hA,hst]) abi hf x hfl λh1 T1 hT1 k1 x1=> ?_
 have fT1:Ba X pins H T1:=by
  rcases hT1 with r | r
  ·exact fT T1 r
  ·refine⟨I.hok.fresh r,yY I.sz r,λp hp z=> ?_⟩
   have:=zS (I.pin p hp).1
   rw[z]at this
   exact absurd (yA this r) (wS _)
 have hTt:∀t,T=some t->∃o,h1.get? t=some o:=λt z=>by
  obtain⟨o,q⟩:=x.here.2 t z
  exact k1.1.2 t o q
 have I1:=I.Li x fe fT (k1.mono (by rw[hst];exact λb z=>z)) x1.here.1 hTt
 unfold cameBackBy
 obtain⟨vs,he,h2,_⟩:=x1.at_
 refine zC (vT he rfl h2 ?_)
 rw[if_neg (by simp)]
 refine yR (s:={s' with heap:=h1}) x1 λh2 k2 x2=>⟨e,C,dx,some T1,_,pins,σ,H,rfl,I1.Li x1 fe (λt z=>by cases z;exact fT1) (k2.mono (by simp)) x2.here.1 x2.here.2,x2,.inr (by rw[hf];rfl),fe,λt z=>by cases z;exact fT1,hW⟩
end
def Tk(X:Cx)(W:a_):Prop:=∀ev s,iB X W ev s->X.xe ev s
def EW(W:a_)(σ:St):XK:=λcv dxo H'=>∃C dx,cv=Value.ref C/\dxo=some dx/\W C dx σ H'
theorem iB.nj(h:iB (X.wish (iB X W)) W' ev s):iB X W' ev s:=by
 obtain⟨e,C,dx,T,fl,pins,σ,H,ee,I,x,hfl,fe,fT,hW⟩:=h
 exact⟨e,C,dx,T,fl,pins,σ,H,ee,I.nj,x,hfl,⟨fe.no,fe.new,fe.pin⟩,λt z=>⟨(fT t z).no,(fT t z).new,(fT t z).pin⟩,hW⟩
theorem Tk.wish{X:Cx}{W:a_}:Tk (X.wish (iB X W)) W:=λ_ _ h=>h.nj
section
variable{X:Cx}{k:Nat}{f C:Addr}{fd:FuncData}{ps:List Str}{sp:Sp}{yu:List V}{ds:List Value}{W:a_}{x m:Str}{p pos apos:Pos}{e o:Expr}{es:List Expr}{ta:TE}{t:TA}
theorem NQ(F:gP X.prog X.w X.K X.mg X.base (Dp X.prog X.w) k f fd ps sp)(hr:iw k X.A)(hb:Binds X.K fd ps ds)(hd:Vals yu ds)(hx:Tk X W)
  (I:Inv X pins σ H s) (r:Vals vs us) (h:sp (vs++yu) H Q (EW W σ)):wpAny (model X.prog X.w) X.A (call (.ref f) us) (EP X pins σ Q) X.xe s:=by
 have r2:=r.append hd
 have hl:(us++ds).length=ps.length:=by rw[<-r2.length];exact F.len _ _ _ _ h
 refine wpAny_call (codeAny_mono (F.run X.A X.stack s H ⟨us,[]⟩ (us++ds) (vs++yu) Q _ hr I.env0 (hb s us I.G6 hl) r2 h) λr s' hq=> ?_)
 match r,hq with
 | .error e,hq=>exact hx _ _ (iB.V8 I hq λC dx H' ⟨C',dx',e1,e2,w⟩=>by cases e1;cases e2;exact w)
 | .ok (.ret u),hq=>exact I.after hq
def ZJ(sp:Sp)(yu:List V)(W:a_)(t:TA):TE:=λσ H Q=>t σ H λvs H1=>sp (vs++yu) H1 Q (EW W σ)
theorem aaM(F:gP X.prog X.w X.K X.mg X.base (Dp X.prog X.w) k f fd ps sp)(hr:iw k X.A)(hg:Gl X x)(hm:X.mg x=some (.ref f))(hk:keepIn X.K (.ref f)=true)(hb:Binds X.K fd ps ds)(hd:Vals yu ds)(hx:Tk X W)
  (ha:PA X (e::es) t) (hdb:(x==("__debug__" : Str))=false:=by decide) (he:starEach (e::es) X.env=(false,eval e X.env)::starEach es X.env:=by rfl) (hpl:(backTo pos (starEach es X.env)).any (·.1)=false:=by rfl):
  PE X (.Call (.Name x p) (e::es) [] pos) (ZJ sp yu W t):=by
 intro pins s σ H Q I h
 exact wpAny_Call_Name_kw (Ew I hg hm (PySem.W.callWith_K (h₀:=X.base) I.ok.mod.kin hk (gj (ha pos pins s σ H _ I h) λus s1 ⟨vs,H1,I1,r,q⟩=>⟨I1.G6,NQ F hr hb hd hx I1 r q⟩) he hpl) hdb)
def Tv(C:Addr)(m:Str)(sp:Sp)(yu:List V)(W:a_)(ta:TE)(t:TA):TE:=λσ H Q=>ta σ H λx H1=>∃a dx fs,x= .ref a/\H1 a=some (.ins C dx fs)/\fs.lookup m=none/\t σ H1 λvs H2=>sp (x::(vs++yu)) H2 Q (EW W σ)
theorem aaF(he:PE X o ta)(c:KC X.K C)(hm:Meth X.K C m f)(F:gP X.prog X.w X.K X.mg X.base (Dp X.prog X.w) k f fd ps sp)(hr:iw k X.A)(hb:Binds X.K fd ps ds)(hd:Vals yu ds)(hx:Tk X W)(ha:PA X (e::es) t)
  (hst:starEach (e::es) X.env=(false,eval e X.env)::starEach es X.env:=by rfl) (hpl:(backTo pos (starEach es X.env)).any (·.1)=false:=by rfl)
  (ht:eval (.Call (.Attribute o m apos) (e::es) [] pos) X.env=(do
   let ov <-eval o X.env
   standAt apos.atName
   let(f,first) <-holding [ov] (getMethod ov m pl)
   callWith pos f first (backTo pos (starEach (e::es) X.env)) (backToKw pos (keywordEach [] X.env))):=by rfl):
  PE X (.Call (.Attribute o m apos) (e::es) [] pos) (Tv C m sp yu W ta t):=by
 intro pins s σ H Q I h
 refine PySem.W.methodCall_KW (pl:=pl) (gj (he pins s σ H _ I h) ?_) ht
 rintro u s1 ⟨x,H1,I1,rx,a,dx,fs,ex,ea,l,q⟩
 subst ex
 obtain rfl:u=Value.ref a:=rx
 refine J8 I1 ea c hm l ?_
 exact PySem.W.callWith_K (h₀:=X.base) (first:=[.ref a]) I1.ok.mod.kin hm.kp (gj (ha pos pins s1 σ H1 _ I1 q) λus s2 ⟨vs,H2,I2,r,q2⟩=>⟨I2.G6,NQ (us:= .ref a::us) (vs:= .ref a::vs) F hr hb hd hx I2 (.cons rfl r) q2⟩) hst hpl
theorem XF(he:PE X o ta)(c:KC X.K C)(hm:Meth X.K C m f)(F:gP X.prog X.w X.K X.mg X.base (Dp X.prog X.w) k f fd ps sp)(hr:iw k X.A)(hb:Binds X.K fd ps ds)(hd:Vals yu ds)(hx:Tk X W)
  (ht:eval (.Call (.Attribute o m apos) [] [] pos) X.env=(do
   let ov <-eval o X.env
   standAt apos.atName
   let(f,first) <-holding [ov] (getMethod ov m pl)
   callWith pos f first (backTo pos (starEach [] X.env)) (backToKw pos (keywordEach [] X.env))):=by rfl):
  PE X (.Call (.Attribute o m apos) [] [] pos) (Tv C m sp yu W ta afi):=by
 intro pins s σ H Q I h
 refine PySem.W.methodCall_KW (pl:=pl) (gj (he pins s σ H _ I h) ?_) ht
 rintro u s1 ⟨x,H1,I1,rx,a,dx,fs,ex,ea,l,q⟩
 subst ex
 obtain rfl:u=Value.ref a:=rx
 exact J8 I1 ea c hm l (PySem.W.callWith_K0 (first:=[.ref a]) I1.G6 hm.kp (NQ (us:=[.ref a]) (vs:=[.ref a]) F hr hb hd hx I1 (.cons rfl .nil) q))
end
theorem yE.okX{P:Program}{w:World}{K:Frag}{mg:Str->Option Value}{base:Heap}{x qual:Str}{st:Stmt}{dV:Value}{f:Addr}{fd:FuncData}{N ps:List Str}{k:Nat}{sp:Sp}(F:yE K x qual st dV f fd)(S:qP N ps (aX st))(len:∀vs H Q E,sp vs H Q E->vs.length=ps.length)
  (hbody:∀(cdv:Value) (A:Around) (outer:List Env) (s:Shared) (H:Hp) (vs:List V) (Q:VK) (E:XK),iw k (A.deeper (envOfC qual (aX st) s.heap.objs.size f cdv))->sp vs H Q E->
   ∃t W,(∀C dx σ H',W C dx σ H'->E (.ref C) (some dx) H')/\HY ((xQ (Dp P w) P w K mg base N qual (aX st) f cdv A outer s H E).wish (iB (xQ (Dp P w) P w K mg base N qual (aX st) f cdv A outer s H E) W)) (cX st) t/\t {nx:=λ_ H'=>gcK H Q .non H',rt:=gcK H Q} (start N vs) H):
  gP P w K mg base (Dp P w) (k+1) f fd ps sp:=by
 obtain⟨oc,od,kV,doc,pm,an,cdv,ct,osl,rfl,lk,hcd⟩:=F.ex
 refine gP.gc (sp:=λvs H Q' E=>∃Q,sp vs H Q E/\Q'=gcK H Q) (aeV lk hcd S (λvs H Q E ⟨Q0,q,_⟩=>len vs H Q0 E q) λA outer s H vs Q' E hr hsp=> ?_) λvs H Q E q=>⟨Q,q,rfl⟩
 obtain⟨Q,hsp,rfl⟩:=hsp
 obtain⟨t,W,hE,h,q⟩:=hbody cdv A outer s H vs Q E hr hsp
 refine⟨t,λpins s1 σ H1 D I h1=> ?_,q⟩
 exact vE (h pins s1 σ H1 D (I.wish _) h1) (λ_ _ z=>z.nj) λ_ _ z=>z.leave hE
abbrev Cx.pp(X:Cx)(pins:List (Addr×Obj)):Cx:={X with pn:=X.pn++pins}
abbrev Cx.held(X:Cx)(e:Addr):Cx:={X with A:=X.A.mark (some (.ref e)),calm:=false,xe:=λ_ _=>False}
section
variable{X:Cx}{pins zF:List (Addr×Obj)}{σ:St}{H:Hp}{s:Shared}{e:Addr}
theorem Inv.pp(I:Inv X (pins++zF) σ H s):Inv (X.pp pins) zF σ H s:=
 ⟨⟨I.ok.mod,I.ok.kind,I.ok.glob,I.ok.blt,I.ok.above,I.ok.inj,I.ok.has,I.ok.cab,I.ok.hd,I.ok.frames,I.ok.stk,I.ok.exf,I.ok.bs,I.ok.YF,I.ok.Rk,I.ok.RZ,I.ok.BW,I.ok.frf⟩,I.os,I.bare,I.base,I.loc,I.cell,I.free,I.j9,λp hp=>I.pin p (by rw[<-List.append_assoc];exact hp),I.hok,I.len⟩
theorem Inv.aiu(I:Inv (X.pp pins) zF σ H s):Inv X (pins++zF) σ H s:=
 ⟨⟨I.ok.mod,I.ok.kind,I.ok.glob,I.ok.blt,I.ok.above,I.ok.inj,I.ok.has,I.ok.cab,I.ok.hd,I.ok.frames,I.ok.stk,I.ok.exf,I.ok.bs,I.ok.YF,I.ok.Rk,I.ok.RZ,I.ok.BW,I.ok.frf⟩,I.os,I.bare,I.base,I.loc,I.cell,I.free,I.j9,λp hp=>I.pin p (by rw[<-List.append_assoc]at hp;exact hp),I.hok,I.len⟩
theorem Inv.fewer(I:Inv X (pins++zF) σ H s):Inv X pins σ H s:=⟨I.ok,I.os,I.bare,I.base,I.loc,I.cell,I.free,I.j9,λp hp=>I.pin p (by rw[<-List.append_assoc];exact List.mem_append_left _ hp),I.hok,I.len⟩
theorem Inv.held(I:Inv X pins σ H s)(e:Addr):Inv (X.held e) pins σ H s:=
 ⟨⟨I.ok.mod,I.ok.kind,I.ok.glob,I.ok.blt,I.ok.above,I.ok.inj,I.ok.has,I.ok.cab,(λz=>by cases z),I.ok.frames,I.ok.stk,I.ok.exf,I.ok.bs,I.ok.YF,I.ok.Rk,I.ok.RZ,I.ok.BW,I.ok.frf⟩,I.os,I.bare,I.base,I.loc,I.cell,I.free,I.j9,I.pin,I.hok,I.len⟩
theorem Inv.Zj(ok:X.Ok)(I:Inv (X.held e) pins σ H s):Inv X pins σ H s:=⟨ok,I.os,I.bare,I.base,I.loc,I.cell,I.free,I.j9,I.pin,I.hok,I.len⟩
theorem SP.map(g:∀σ H,Inv X' zF σ H s'->Inv X pins σ H s')(h:SP X' zF D f s'):SP X pins D f s':=by
 cases f with
 | next=>obtain⟨σ',H',I,q⟩:=h;exact⟨σ',H',g _ _ I,q⟩
 | brk=>obtain⟨σ',H',I,q⟩:=h;exact⟨σ',H',g _ _ I,q⟩
 | cont=>obtain⟨σ',H',I,q⟩:=h;exact⟨σ',H',g _ _ I,q⟩
 | ret u=>obtain⟨v,σ',H',I,r,q⟩:=h;exact⟨v,σ',H',g _ _ I,r,q⟩
end
def xmW(K:Frag)(cv:Value)(W:a_)(th:St->Hp->Prop):a_:=λC dx σ H=>∃b,exmOne K (.ref C) cv=some b/\(if b=true then th σ H else W C dx σ H)
section
variable{X:Cx}{W:a_}{c:Str}{cp hpos pos:Pos}{b₀:Stmt}{suite body:List Stmt}{tb:a_->TS}{ts:TS}{cv:Value}{v:V}
theorem Exc.typ(x:Exc h e C dx T fl):PySem.W.Looks M h (typeOf (.ref e)) (.ref C):=by
 obtain⟨vs,he,_⟩:=x.at_
 intro A Q E s k q
 exact zC (wpAny_loadPart (k _ _ he) (zI q))
theorem acS(hst:X.stack=X.env::X.outer)(hf:X.env.frame=some X.env.locals)(hx:Tk X W)(hv:∀u,RelV v u->u=cv)(hn:∀e,PE (X.held e) (.Name c cp) (tC v))
  (hb:∀pins W1,HY ((X.pp pins).wish (iB (X.pp pins) W1)) body (tb W1)) (hs:∀e,HY (X.held e) (b₀::suite) ts):
  PS X (.Try body [.ExceptHandler (some (.Name c cp)) none (b₀::suite) hpos] [] [] pos) (λD σ H=>tb (xmW X.K cv W (ts D)) D σ H):=by
 intro pins s σ H D I h
 have ok:=I.ok
 refine wpAny_Try_except (vE (hb pins (xmW X.K cv W (ts D)) [] s σ H D (Inv.wish (Inv.pp (zF:=[]) (by rw[List.append_nil];exact I)) _) h) (λf s1 h1=> ?_) λev s1 h1=> ?_)
 ·have h2:SP X pins D f s1:=SP.map (λσ H z=>z.nj.aiu.fewer) h1
  cases f with
  | next=>exact wpAny_execs_nil h2
  | brk=>exact h2
  | cont=>exact h2
  | ret u=>exact h2
 ·obtain⟨e,C,dx,T,fl,Rb,σ',H',rfl,I1,x,hfl,fe,fT,hW⟩:=h1
  have J1:=I1.aiu
  have abi:=J1.stack
  rw[hst]at abi
  have cv1:∀{a},Ba (X.pp pins) Rb H' a->Ba X (pins++Rb) H' a:=λz=>⟨z.no,z.new,λp hp=>z.pin p (by rw[<-List.append_assoc]at hp;exact hp)⟩
  have fe':=cv1 fe
  have fT':∀t,T=some t->Ba X (pins++Rb) H' t:=λt z=>cv1 (fT t z)
  refine Te (by rw[J1.ok.frames,hst]) abi hf x hfl λh1 T1 hT1 k1 x1=> ?_
  have fT1:Ba X (pins++Rb) H' T1:=by
   rcases hT1 with r | r
   ·exact fT' T1 r
   ·refine⟨J1.hok.fresh r,yY J1.sz r,λp hp z=> ?_⟩
    have:=zS (J1.pin p hp).1
    rw[z]at this
    exact absurd (yA this r) (wS _)
  have I2:=J1.Li x fe' fT' (k1.mono (by rw[hst];exact λb z=>z)) x1.here.1 λt z=>let⟨o,q⟩:=x.here.2 t z;k1.1.2 t o q
  refine yR (fr:=none) (s:={s1 with heap:=h1}) x1 λh2 k2 x2=> ?_
  have I3:=I2.Li x1 fe' (λt z=>by cases z;exact fT1) (k2.mono (by simp)) x2.here.1 x2.here.2
  obtain⟨vs2,he2,h12,ank,oT,ts2,hoT,hdT,h32⟩:=x2.at_
  have nfs:∀{a:Addr} {o:Obj} {vs:Array Value},h2.get? a=some o->o.data= .fields vs->a∉X.fs:=λq d hm=>by
   obtain⟨_,o',ho',hd'⟩:=I3.BW.mem hm
   have q':h2.get? _=some o':=ho'
   rw[q]at q';cases q';exact hd' _ d
  have I4:Inv X (pins++[(e,{cls:= .ref C,dict:=some dx,data:= .fields vs2}),(T1,oT)]) σ' H' {s1 with heap:=h2}:=I3.wL λp hp=>by
   rcases List.mem_append.mp hp with z | z
   ·exact I3.pin p (xE _ (List.mem_append_left _ z))
   ·simp at z
    rcases z with rfl | rfl
    ·exact⟨he2,fe'.no,(I3.FW he2 rfl).1,nfs he2 rfl,λv z=>by cases z⟩
    ·exact⟨hoT,fT1.no,(I3.FW hoT hdT).1,nfs hoT hdT,λv z=>by rw[hdT]at z;cases z⟩
  obtain⟨b,hm,hif⟩:=hW
  have fw:∀{a},Ba X (pins++Rb) H' a->Ba (X.held e) pins H' a:=λz=>⟨z.no,z.new,λp hp=>z.pin p (by rw[<-List.append_assoc];exact List.mem_append_left _ hp)⟩
  refine wpAny_handleBy_cons (codeAny_handlers_test (vE (hn e _ _ σ' H' (λv' S8=>v'=v/\S8=H') (I4.held e) ⟨rfl,rfl⟩) (λc' s3 ⟨v',S8,I5,rv,e1,e2⟩=> ?_) λ_ _ z=>z.elim)) (by intro q;cases q)
  subst e1 e2
  obtain rfl:=hv c' rv
  have x5:Exc s3.heap e C (some dx) (some T1) .none:=⟨vs2,(I5.pin (e,_) (by simp)).1,h12,ank,oT,ts2,(I5.pin (T1,oT) (by simp)).1,hdT,h32⟩
  refine PySem.W.Looks.here (s:=s3) (PySem.W.exm_one I5.G6 x5.typ hm) ?_
  cases b with
  | true=>
   refine codeAny_handlers_suite (yR (fr:=none) x5 λh6 k6 x6=> ?_)
   have I6:=(I5.fewer).Li x5 (fw fe') (λt z=>by cases z;exact fw fT1) (k6.mono (by simp)) x6.here.1 x6.here.2
   refine vE (hs e pins _ σ' S8 D I6 hif) (λf s7 z=> ?_) λ_ _ z=>z.elim
   exact SP.map (λ_ _ y=>y.Zj ok) z
  | false=>
   refine wpAny_handleBy_nil ?_
   unfold PySem.passOn
   obtain⟨vs5,he5,h15,_⟩:=x5.at_
   refine zC (vT he5 rfl h15 ?_)
   rw[if_neg (by simp)]
   refine zC (yR x5 λh6 k6 x6=>wpAny_throw (hx _ _ ⟨e,C,dx,some T1,_,pins,σ',S8,rfl,?_,x6,.inr (by rw[hf];rfl),⟨fe'.no,fe'.new,(fw fe').pin⟩,λt z=>by cases z;exact⟨fT1.no,fT1.new,(fw fT1).pin⟩,hif⟩))
   exact((I5.fewer).Li x5 (fw fe') (λt z=>by cases z;exact fw fT1) (k6.mono (by simp)) x6.here.1 x6.here.2).Zj ok
end
abbrev xC(a C dx:Addr):HO:= .ext λh=>∃vs,h.get? a=some {cls:= .ref C,dict:=some dx,data:= .fields vs}
structure XIs(K:Frag)(C:Addr):Prop where
 gn:findIn K (.ref C) "__getattr__" = some none
 ca:findIn K (.ref C) "__class__" = some (some (.builtin "object.__class__"))
 hn:PySem.W.specialIn K (.builtin "object.__class__") "__get__" = some (some (.builtin "getset_descriptor.__get__"))
 tk:PySem.W.takesIn K (.builtin "object.__class__")=some true
 mr:PySem.W.mroIn K C (.type "object")=some true
section
variable{X:Cx}{k:Nat}{f C:Addr}{fd:FuncData}{ps:List Str}{sp:Sp}{yu:List V}{ds:List Value}{W:a_}{x:Str}{p pos:Pos}{e:Expr}{es:List Expr}{t:TA}
def Tw(C:Addr)(sp:Sp)(yu:List V)(W:a_)(t:TA):TE:=λσ H Q=>t σ H λvs H1=>∀x dx,H1 x=none->H1 dx=none->dx≠x->
 sp (.ref x::(vs++yu)) (upd (upd H1 dx (.own x)) x (.ins C dx [])) (λv H2=>v= .non/\Q (.ref x) H2) (EW W σ)
theorem LQ(M:Mk X.K C f)(F:gP X.prog X.w X.K X.mg X.base (Dp X.prog X.w) k f fd ps sp)(hr:iw (k+1) X.A)(hb:Binds X.K fd ps ds)(hd:Vals yu ds)
  (hx:Tk X W) (I:Inv X pins σ H s) (r:Vals vs us)
  (h:∀x dx,H x=none->H dx=none->dx≠x->sp (.ref x::(vs++yu)) (upd (upd H dx (.own x)) x (.ins C dx [])) (λv H2=>v= .non/\Q (.ref x) H2) (EW W σ)):
  wpAny (model X.prog X.w) X.A (call (.ref C) us) (EP X pins σ Q) X.xe s:=by
 have hq:=h (s.heap.objs.size+1) s.heap.objs.size (I.hok.fresh (Nat.le_succ _)) (I.hok.fresh (zac _)) (xD (Nat.lt_succ_self _))
 have I2:=Inv.made (C:=C) I
 have r2:Vals (V.ref (s.heap.objs.size+1)::(vs++yu)) (Value.ref (s.heap.objs.size+1)::(us++ds)):= .cons rfl (r.append hd)
 have hl:(Value.ref (s.heap.objs.size+1)::us++ds).length=ps.length:=by
  have e:=r2.length
  rw[F.len _ _ _ _ hq]at e
  exact e.symm
 refine wpAny_call (aaY (f:=f) I.G6 M.makes M.init (beq_iff_eq.mp M.fn) (codeAny_mono (F.run _ X.stack _ _ ⟨Value.ref (s.heap.objs.size+1)::us,[]⟩ (Value.ref (s.heap.objs.size+1)::(us++ds)) _ _ _ (hr.make C us [])
  (I2.env0.make C us []) (hb _ (Value.ref (s.heap.objs.size+1)::us) I2.G6 hl) r2 hq) λr s' hq'=> ?_))
 match r,hq' with
 | .error e,hq'=>exact hx _ _ (iB.V8 I2 hq' λC dx H' ⟨C',dx',e1,e2,w⟩=>by cases e1;cases e2;exact w)
 | .ok (.ret u),hq'=>
  obtain⟨v,H',I3,rv,ev,q3⟩:=I2.after hq'
  subst ev
  exact⟨rv,⟨V.ref (s.heap.objs.size+1),H',I3,rfl,q3⟩⟩
theorem aaG(M:Mk X.K C f)(F:gP X.prog X.w X.K X.mg X.base (Dp X.prog X.w) k f fd ps sp)(hr:iw (k+1) X.A)(hg:Gl X x)(hm:X.mg x=some (.ref C))(hb:Binds X.K fd ps ds)(hd:Vals yu ds)(hx:Tk X W)
  (ha:PA X (e::es) t) (hdb:(x==("__debug__" : Str))=false:=by decide) (he:starEach (e::es) X.env=(false,eval e X.env)::starEach es X.env:=by rfl) (hpl:(backTo pos (starEach es X.env)).any (·.1)=false:=by rfl):
  PE X (.Call (.Name x p) (e::es) [] pos) (Tw C sp yu W t):=λpins s σ H Q I h=>
 wpAny_Call_Name_kw (Ew I hg hm (PySem.W.callWith_K (h₀:=X.base) I.ok.mod.kin M.kp (gj (ha pos pins s σ H _ I h) λus s1 ⟨vs,H1,I1,r,q⟩=>⟨I1.G6,LQ M F hr hb hd hx I1 r q⟩) he hpl) hdb)
theorem XH(M:Mk X.K C f)(F:gP X.prog X.w X.K X.mg X.base (Dp X.prog X.w) k f fd ps sp)(hr:iw (k+1) X.A)(hg:Gl X x)(hm:X.mg x=some (.ref C))(hb:Binds X.K fd ps ds)(hd:Vals yu ds)(hx:Tk X W)
  (hdb:(x==("__debug__" : Str))=false:=by decide):PE X (.Call (.Name x p) [] [] pos) (Tw C sp yu W afi):=λpins s σ H Q I h=>
 wpAny_Call_Name_kw (Ew I hg hm (PySem.W.callWith_K0 I.G6 M.kp (LQ (us:=[]) M F hr hb hd hx I .nil h)) hdb)
end
section
variable{K:Frag}{nm q:Str}{C N:Addr}{bs bm:List Value}{sn:List Str}{sub:List Value}{ab:Bool}{col:Option Bool}{dd:Option Addr}{k0 k1 k2 k3 k5:Option Value}{newId:String}{name:Str}
theorem Vk(lo:K.lookup C=some (excClassObj nm q C N bs bm true sn sub ab col dd k0 k1 k2 k3 k5 newId))(h1:bm.contains (.type "object")=true)(h2:bm.contains (.type "BaseException")=true)(h3:∀self,refuseLoop self "__setattr__" bm=pure .unit)
  (sa:findIn K (.ref C) "__setattr__" = some (some (.builtin "object.__setattr__"))) (ga:findIn K (.ref C) "__getattribute__" = some (some (.builtin "BaseException.__getattribute__"))) (no:findIn K (.ref C) name=some none):Lf K C name:=
 ⟨⟨_,by unfold PySem.W.clsIn;rw[lo],rfl,rfl,by rw[List.contains_cons,h1,Bool.or_true],by rw[List.contains_cons,h2,Bool.or_true],λself=>(refuseLoop_ref self _ C bm).trans (h3 self)⟩,sa,ga,no⟩
theorem Zd(lo:K.lookup C=some (excClassObj nm q C N bs bm true sn sub ab col dd k0 k1 k2 k3 k5 newId))(h1:bm.contains (.type "object")=true)(gn:findIn K (.ref C) "__getattr__" = some none)(ca:findIn K (.ref C) "__class__" = some (some (.builtin "object.__class__")))
  (hn:PySem.W.specialIn K (.builtin "object.__class__") "__get__" = some (some (.builtin "getset_descriptor.__get__"))) (tk:PySem.W.takesIn K (.builtin "object.__class__")=some true):XIs K C:=
 ⟨gn,ca,hn,tk,by unfold PySem.W.mroIn PySem.W.clsIn;rw[lo];simp only[Option.bind_some];rw[if_neg (by simp),List.contains_cons,h1,Bool.or_true]⟩
theorem Zc(lo:K.lookup C=some (excClassObj nm q C N bs bm true sn sub ab col dd k0 k1 k2 k3 k5 "ValueError.__new__"))(h0:bm.contains (.type "ValueError")=true)(hA:bm.contains (.type "AttributeError")=false)(hN:bm.contains (.type "NameError")=false)(h2:bm.contains (.type "BaseException")=true)
  (init:findIn K (.ref C) "__init__" = some (some (.ref f))) (fn:isFn K (.ref f)=true) (kp:keepIn K (.ref C)=true):XMk K C f:=
 ⟨⟨nm,q,N,bs,bm,true,sn,sub,ab,col,dd,k0,k1,k2,k3,k5,lo,⟨h0,hA,hN⟩,h2⟩,init,fn,kp⟩
theorem Wo(lo:K.lookup C=some (excClassObj nm q C N bs bm true sn sub ab col dd k0 k1 k2 k3 k5 newId))(h:subIn K t (.ref C)=some b):PySem.W.kitCls K t (.ref C)=some b:=by
 unfold PySem.W.kitCls
 dsimp only
 rw[if_pos,h]
 unfold PySem.W.clsIn PySem.W.typeIn
 rw[lo]
 simp[lo]
theorem sub_self(lo:K.lookup C=some (excClassObj nm q C N bs bm true sn sub ab col dd k0 k1 k2 k3 k5 newId)):subIn K (.ref C) (.ref C)=some true:=by
 show PySem.W.mroIn K C (.ref C)=some true
 unfold PySem.W.mroIn PySem.W.clsIn
 rw[lo]
 simp
theorem Vj(lo:K.lookup C=some (excClassObj nm q C N bs bm true sn sub ab col dd k0 k1 k2 k3 k5 newId))(h2:bm.contains (.type "BaseException")=true)(h:subIn K t (.ref C)=some b):exmOne K t (.ref C)=some b:=by
 unfold exmOne
 have e:subIn K (.ref C) (.type "BaseException")=some true:=by
  show PySem.W.mroIn K C _=some true
  unfold PySem.W.mroIn PySem.W.clsIn
  rw[lo]
  simp only[Option.bind_some]
  rw[if_neg (by simp),List.contains_cons,h2,Bool.or_true]
 rw[if_pos (by rw[e];simp)]
 exact Wo lo h
theorem Wn(lo:K.lookup C=some (excClassObj nm q C N bs bm true sn sub ab col dd k0 k1 k2 k3 k5 newId))(h:subIn K t (.ref C)=some b):kitOne K t (.ref C)=some b:=by
 unfold kitOne
 split
 ·rename_i z
  have z':t= .ref C:=beq_iff_eq.mp z
  subst z'
  rw[sub_self lo]at h
  exact h
 ·exact Wo lo h
end
end L2
namespace L2
open PySem
theorem GQ{bm:List Value}{cs:List Addr}(e:bm=cs.map Value.ref++[.type "ValueError",.type "Exception",.type "BaseException",.type "object"]):∀self,refuseLoop self "__setattr__" bm=pure .unit:=by
 subst e
 intro self
 induction cs with
 | nil=>rfl
 | cons c r ih=>simp only[List.map_cons,List.cons_append,refuseLoop_ref];exact ih
end L2
namespace L2
open PySem PySem.Spec PyProof.Rows
def amz:V->Option Int->Option Int->Hp->VK->Prop:=λx lo hi H Q=>∃u,x= .str u/\u.length<=sizeLine/\Q (.str (Txt.slice u lo hi)) H
theorem afp:SlR X amz:=by
 intro pins s σ H x v vl vu lo hi sl Q I rx hs pl pu h
 obtain⟨u,rfl,hz,q⟩:=h
 obtain⟨t,rfl⟩:=rx
 have fin:∀(t':Tok) (k:Nat),EP X pins σ Q (.str (Txt.slice u lo hi) t') {s with toks:=k}:=λt' k=>⟨.str _,H,I.tok k,⟨t',rfl⟩,q⟩
 refine⟨"str",_,F.slot_str_getitem.lookup,typeIs_str _ _ _,?_⟩
 cases pl with
 | none=>
  cases pu with
  | none=>exact wpAny_getItem_str_slice (l:=none) (u:=none) (st:=none) hs rfl (post_val_or_str ⟨yY (Txt.slice_le u _ _) hz,fin⟩)
  | int j uj=>exact wpAny_getItem_str_slice (l:=none) (u:=some (j,uj)) (st:=none) hs rfl (post_val_or_str ⟨yY (Txt.slice_le u _ _) hz,fin⟩)
 | int i ui=>
  cases pu with
  | none=>exact wpAny_getItem_str_slice (l:=some (i,ui)) (u:=none) (st:=none) hs rfl (post_val_or_str ⟨yY (Txt.slice_le u _ _) hz,fin⟩)
  | int j uj=>exact wpAny_getItem_str_slice (l:=some (i,ui)) (u:=some (j,uj)) (st:=none) hs rfl (post_val_or_str ⟨yY (Txt.slice_le u _ _) hz,fin⟩)
theorem Tp{n:Nat}(h:n<=1000000):Builtin.Str.tooLong n=false:=by
 unfold Builtin.Str.tooLong
 exact zag (by have:(1000000:Nat)<=sizeLine:=(by decide);omega)
theorem mulOk_of(hx:x.length<=1000)(h0: -(2 ^ 62)<n)(h1:n<=1000):MulOk x n:=by
 refine⟨?_,?_,?_⟩
 ·rw[zag (),zag ()];rfl
 ·intro a b
  have:(1000:Int)<=(2 ^ 63 - 1) / n:=by
   rw[Int.le_ediv_iff_mul_le ()]
   omega
  omega
 ·intro a b
  refine Tp ?_
  have:n.toNat<=1000:=()
  calc x.length*n.toNat<=1000*1000:=Nat.mul_le_mul hx this
   _<=1000000:=by decide
theorem Ua:tE X (binaryOp .Mult) (λx y H Q=>∃i j,x= .str i/\y= .int j/\MulOk i j/\Q (.str (PySem.Txt.mul i j)) H):=by
 intro pins s σ H x y v u Q I rx ry h
 obtain⟨i,j,rfl,rfl,hz,q⟩:=h
 obtain⟨t,rfl⟩:=rx
 obtain⟨t',rfl⟩:=ry
 exact SB.mul hz (λt' tk=>⟨.str (PySem.Txt.mul i j),H,I.tok _,⟨_,rfl⟩,q⟩)
section
variable{X:Cx}
theorem ae0(I:Inv X pins σ H s)(e:H a=some (.dK [])):Inv X pins σ (upd H a (.dT [])) s:=by
 obtain⟨z,hd,vs,rel,o,es,ep,h1,h2,h3,h4,h5,h6⟩:=abF I.hok e
 have hv:vs=[]:=by cases rel;rfl
 subst hv
 have he:es.toList=[]:=by
  have:=h5.length
  exact List.length_eq_zero_iff.mp (by simpa using this)
 exact Ph (t':=s.toks) (h':=s.heap) I (by rw[e];exact zab) ⟨rfl,λ_ _=>rfl⟩ ⟨o,h1⟩ ⟨Nat.zero_le _,hd,[],.nil,o,es,ep,h1,h2,h3,by rw[he];rfl,List.nodup_nil⟩
def Vh(H:Hp)(a:Addr)(y:V)(o:Option V)(H':Hp):Prop:=(Dm H a y o/\H'=H)\/(H a=some (.dK [])/\(∃(k:List Key) (b:Addr),y= .ref b/\H b=some (.tup (k.map kV)))/\o=none/\H'=upd H a (.dT []))
theorem Vh.inv(g:Vh H a y o H')(I:Inv X pins σ H s):Inv X pins σ H' s/\Dm H' a y o:=by
 rcases g with⟨g,rfl⟩ | ⟨e,⟨k,b,rfl,eb⟩,rfl,rfl⟩
 ·exact⟨I,g⟩
 ·refine⟨ae0 I e,.inr ⟨[],k,b,.inl bw,rfl,?_,rfl⟩⟩
  rw[aH (λz=>by subst z;rw[e]at eb;cases eb)]
  exact eb
def afK(neg:Bool):R2:=λy x H Q=>∃a o H',x= .ref a/\Vh H a y o H'/\Q (.bl (if neg=true then !o.isSome else o.isSome)) H'
theorem agp(hu:X.A.units+1<cLine):tE X (compareOp .In) (afK false):=by
 intro pins s σ H y x v u Q I ry rx h
 obtain⟨a,o,H',rfl,g,q⟩:=h
 obtain rfl:u=Value.ref a:=rx
 obtain⟨I1,g1⟩:=g.inv I
 exact anR hu I1 g1 ry λs' I'=>⟨.bl _,H',I',rfl,q⟩
theorem XX(hu:X.A.units+1<cLine):tE X (compareOp .NotIn) (afK true):=by
 intro pins s σ H y x v u Q I ry rx h
 obtain⟨a,o,H',rfl,g,q⟩:=h
 obtain rfl:u=Value.ref a:=rx
 obtain⟨I1,g1⟩:=g.inv I
 exact adS hu I1 g1 ry λs' I'=>⟨.bl _,H',I',rfl,q⟩
def afG:R2:=λx y H Q=>∃a v,x= .ref a/\Dm H a y (some v)/\Q v H
theorem Wq(hu:X.A.units+1<cLine):IxR X afG:=by
 intro value slice pins s σ H x y v u Q I rx ry h hs
 obtain⟨a,d,rfl,g,q⟩:=h
 obtain rfl:v=Value.ref a:=rx
 exact tail_any (R7 I g) PySem.F.slot_dict_getitem.lookup (Yw hu I g ry λw' s' I' rw'=>⟨d,H,I',rw',q⟩) hs
section
variable{o e f i value:Expr}{apos cpos pos pos':Pos}{td ty tx tv:TE}
def afj(td ty tx:TE):TE:=λσ H Q=>td σ H λx H1=>∃a,x= .ref a/\IsD H1 a/\ty σ H1 λy H2=>tx σ H2 λz H3=>∃o H4,Vh H3 a y o H4/\Q (o.getD z) H4
theorem aaI(hu:X.A.units+1<cLine)(ho:PE X o td)(he:PE X e ty)(hf:PE X f tx)(m:M2 X o "get" apos e f cpos):PE X (.Call (.Attribute o "get" apos) [e,f] [] cpos) (afj td ty tx):=by
 intro pins s σ H Q I h
 refine wpAny_Call_method m.base m.few m.line PySem.F.plainAttrs_dict PySem.F.slot_dict_get PySem.F.type_dict_get (gj (ho pins s σ H _ I h) ?_)
 rintro u t ⟨x,H1,I1,rx,a,ex,d,q1⟩
 subst ex
 obtain rfl:u=Value.ref a:=rx
 have ty:=Uz I1 d
 refine⟨ty.1,ty.2.1,?_⟩
 rw[m.trees]
 refine Calls.callWith_builtin rfl (Calls.evalArgs_plain (Calls.spliced_cons (gj (he pins t σ H1 _ I1 q1) ?_)))
 rintro iv t2 ⟨y,H2,I2,ry,q2⟩
 refine Calls.spliced_cons (gj (hf pins t2 σ H2 _ I2 q2) ?_)
 rintro fv t3 ⟨z,H3,I3,rz,ov,H4,g,q3⟩
 refine Calls.spliced_nil ?_
 obtain⟨I4,g4⟩:=g.inv I3
 exact ahp hu I4 g4 ry rz λw' t4 I5 rw'=>⟨_,H4,I5,rw',q3⟩
def afk(td ty:TE):TE:=λσ H Q=>td σ H λx H1=>∃a,x= .ref a/\IsD H1 a/\ty σ H1 λy H2=>∃o H3,Vh H2 a y o H3/\Q (o.getD .non) H3
theorem aaJ(hu:X.A.units+1<cLine)(ho:PE X o td)(he:PE X e ty)(m:M1 X o "get" apos e cpos):PE X (.Call (.Attribute o "get" apos) [e] [] cpos) (afk td ty):=by
 intro pins s σ H Q I h
 refine wpAny_Call_method m.base m.few m.line PySem.F.plainAttrs_dict PySem.F.slot_dict_get PySem.F.type_dict_get (gj (ho pins s σ H _ I h) ?_)
 rintro u t ⟨x,H1,I1,rx,a,ex,d,q1⟩
 subst ex
 obtain rfl:u=Value.ref a:=rx
 have ty:=Uz I1 d
 refine⟨ty.1,ty.2.1,?_⟩
 rw[m.trees]
 refine Calls.callWith_builtin rfl (Calls.evalArgs_plain (Calls.spliced_cons (gj (he pins t σ H1 _ I1 q1) ?_)))
 rintro iv t2 ⟨y,H2,I2,ry,ov,H3,g,q2⟩
 refine Calls.spliced_nil ?_
 obtain⟨I3,g3⟩:=g.inv I2
 exact ahq hu I3 g3 ry λw' t4 I5 rw'=>⟨_,H3,I5,rw',q2⟩
def akM(H:Hp)(a:Addr)(y v:V)(H':Hp):Prop:=Qf H a y v H'\/∃(k:List Key) (b:Addr),H a=some (.dK [])/\y= .ref b/\H b=some (.tup (k.map kV))/\H'=upd H a (.dT [(k,v)])
def aja(td ty tv:TE):TS:=λD σ H=>tv σ H λv H1=>td σ H1 λx H2=>ty σ H2 λy H3=>∃a H4,x= .ref a/\akM H3 a y v H4/\D.nx σ H4
theorem acW(hu:X.A.units+1<cLine)(ho:PE X o td)(hi:PE X i ty)(hv:PE X value tv)(hs:swapsWith value (some (.Subscript o i pos')) pos.line X.env=pure false):PS X (.Assign [.Subscript o i pos'] value pos) (aja td ty tv):=by
 intro pins s σ H D I h
 refine wpAny_Assign_Subscript (gj (hv pins s σ H _ I h) ?_) hs
 rintro r t1 ⟨v,H1,I1,rv,q1⟩
 refine gj (ho pins t1 σ H1 _ I1 q1) ?_
 rintro u t2 ⟨x,H2,I2,rx,q2⟩
 refine gj (hi pins t2 σ H2 _ I2 q2) ?_
 rintro iv t3 ⟨y,H3,I3,ry,a,H4,ex,g,q3⟩
 subst ex
 obtain rfl:u=Value.ref a:=rx
 rcases g with g | ⟨k,b,e,rfl,eb,rfl⟩
 ·exact Mv hu I3 g ry rv λt4 I4=>⟨σ,H4,I4,q3⟩
 ·have eb':upd H3 a (.dT []) b=some (.tup (k.map kV)):=by
   rw[aH (λz=>by subst z;rw[e]at eb;cases eb)]
   exact eb
  refine Mv hu (ae0 I3 e) (Qf.t bw eb' (by rw[sizeLine_eq];decide)) ry rv λt4 I4=>⟨σ,_,I4,?_⟩
  rw[ab8]
  exact q3
end
end
section
variable{prog:Program}{w:World}{A:Around}{E:Value->Shared->Prop}{s:Shared}{κ:Type}[DecidableEq κ]{knd:HeapKind prog w κ}{a:Addr}{xs:List (κ×Addr×Value)}
theorem Us(hd:(a==sysModules)=false):MeetsIn prog w (Builtin.«dict.__len__» ⟨[.ref a],[]⟩) (λ_ R t=>∃ys:List (κ×Addr×Value),t.heap.DictOfH knd a ys/\R (.ok (.ret (.int ys.length t.toks))) {t with toks:=t.toks+1}):=
 .of_wp λA R t ⟨ys,hm,q⟩=>by
  obtain⟨o,es,ep,e1,_,e2,e3,_⟩:=hm
  show wpAny _ _ (dictSize a >>= _) _ _ t
  unfold dictSize
  refine zC (zC (wpAny_dictEntries e1 e2 (zI ?_)))
  show wpAny _ _ (Builtin.Dict.pendingCount a >>= _) _ _ t
  refine zC (wpAny_pendingCount_other hd (wpAny_ret_mkInt ?_))
  have sz:es.size=ys.length:=by rw[<-Array.length_toList,e3,zao]
  rw[Nat.add_zero,sz]
  exact q
theorem am8{Q:Value->Shared->Prop}(hd:(a==sysModules)=false)(hm:s.heap.DictOfH knd a xs)(hz:(xs.length:Int)<2 ^ 63)(q:Q (.int xs.length (s.toks+1)) {s with toks:=s.toks+1+1}):wpAny (model prog w) A (call (.builtin "len") [.ref a]) Q E s:=by
 refine Calls.call_function_entry kind_len plain_len entry_len (args_len1 _) ?_
 unfold Builtin.«len»
 refine zC (m:=oneArg "len" _) (zI (zC (m:=callSpecial? (.ref a) (Str.ofString "__len__")) ?_))
 refine zai (name:=Str.ofString "__len__") hm.typeIs F.slot_dict_len (call_meetsIn F.slot_dict_len hm.typeIs F.entry_dict_len (F.args_dict_len_1 _) (Us (knd:=knd) hd) ⟨xs,hm,?_⟩)
 show wpAny (model prog w) _ _ _ _ {s with toks:=s.toks+1}
 refine zC (wpAny_holding (zI (zC (wpAny_letGo ?_))))
 show wpAny (model prog w) _ (if((xs.length:Nat):Int)<0 then _ else _) _ _ _
 rw[if_neg ()]
 show wpAny (model prog w) _ (if((xs.length:Nat):Int)>=2 ^ 63 then _ else _) _ _ _
 rw[if_neg ()]
 exact zC (wpAny_mkInt (zI ⟨_,rfl,q⟩))
end
theorem YB:mV X (.builtin "len") (λxs H Q=>∃a kvs,xs=[V.ref a]/\H a=some (.dT kvs)/\Q (.int kvs.length) H):=by
 intro pins s σ H xs us Q I r h
 obtain⟨a,kvs,rfl,ha,q⟩:=h
 obtain⟨u,rfl,ru⟩:=vals1 r
 cases ru
 obtain⟨z,hd,ys,rel,dd⟩:=aeZ I.hok ha
 have hl:=Paired.length rel
 refine am8 hd dd (by rw[<-hl];rw[sizeLine_eq]at z;omega) ⟨.int kvs.length,H,I.tok _,⟨_,by rw[hl]⟩,q⟩
end L2
namespace L2
open PySem PySem.W PyProof.Rows
section
variable{n:Nat}{O:KeyOrd}{k:Nat->O.α}
noncomputable def kk(k:Nat->O.α)(p:Array Nat)(i:Nat):O.α:=k (p.getD i 0)
end
end L2
namespace L2
open PySem PySem.Spec PySem.W PyProof.Rows
section
variable{X:Cx}{pins:List (Addr×Obj)}{σ:St}{H:Hp}{s:Shared}{A:Around}{E:Value->Shared->Prop}
theorem Inv.track(I:Inv X pins σ H s)(fp:yF X pins H a)(h0:X.s₀.heap.get? a=none)(new:cY X.prog X.w (upd H a o) s.heap a o):Inv X pins σ (upd H a o) s where
 ok:=I.ok
 os:=I.os
 bare:=I.bare
 base:={
  keep:=I.base.keep
  slot:=I.base.slot
  free:=λb ob e n hx=>by rw[aH (by rintro rfl;rw[h0]at e;cases e)];exact I.base.free b ob e n hx
  there:=I.base.there
  tups:=λb xs e=>by
   have:=I.base.tups b xs e
   rw[aH (bJ this fp.1)];exact this
  yt:=λb ob xs e=>by
   have:=I.base.yt b ob xs e
   rw[aH (bJ this fp.1)];exact this
  BJ:=λb ps e=>by
   obtain⟨ps',this⟩:=I.base.BJ b ps e
   exact⟨ps',by rw[aH (bJ this fp.1)];exact this⟩}
 loc:=I.loc
 cell:=I.cell
 free:=by rw[aH (Ne.symm fp.2.1)];exact I.free
 j9:=λx c e=>by rw[aH (fp.2.2.2.2.1 x c e)];exact I.j9 x c e
 pin:=λp hp=>by
  obtain⟨a1,a2,a3⟩:=I.pin p hp
  exact⟨a1,by rw[aH (fp.2.2.2.2.2 p hp)];exact a2,a3⟩
 hok:=ug.track I.hok fp.1 new
 len:=I.len
theorem Xn:∀{vs:List Value},vs.length<2->(vs.toArray.zip vs.toArray).map (·.2)=((List.range vs.length).map λi=>vs.getD i Value.none).toArray
 | [],_=>by simp
 | [_],_=>by simp
 | _::_::_,h=>absurd h (by simp)
end
end L2
namespace L2
open PySem PySem.Spec PySem.W PySem.Calls PyProof.Rows
theorem Q8(d:Addr):¬((Value.ref d==Value.none)=true):=λz=>xA z
def H9(h:Heap)(d:Addr)(es:Array DictEntry)(ep:Nat):Prop:=∃o,h.get? d=some o/\o.ExactDict/\o.data= .dict es ep
theorem H9.keep(x:H9 h d es ep)(k:∀o,h.get? d=some o->h'.get? d=some o):H9 h' d es ep:=
 let⟨o,a,b⟩:=x;⟨o,k o a,b⟩
noncomputable def itO(f0 f1:Value)(d:Addr)(i n ep:Nat)(ok ov:Value):Obj:=
 {cls:= .type "dict_itemiterator",dict:=none,data:= .fields #[f0,f1,.ref d,.int i 0,.int n 0,.int ep 0,ok,ov],slots:= #[]}
def Vf(h:Heap)(it d S:Addr)(i n ep:Nat):Prop:=∃f0 f1 ok ov,h.get? it=some (itO f0 f1 d i n ep ok ov)/\(f0= .none\/∃(a:Addr) (b:Bool) (oa:Obj),f0=rawInt a/\f1= .bool b/\h.get? a=some oa/\a≠it/\a≠S)
theorem Vf.keep(x:Vf h it d S i n ep)(k:∀b o,b≠S->h.get? b=some o->h'.get? b=some o)(hS:it≠S):Vf h' it d S i n ep:=by
 obtain⟨f0,f1,ok,ov,e,z⟩:=x
 exact⟨f0,f1,ok,ov,k _ _ hS e,z.imp id λ⟨a,b,oa,q1,q2,q3,q4,q5⟩=>⟨a,b,oa,q1,q2,k _ _ q5 q3,q4,q5⟩⟩
section
variable{prog:Program}{w:World}{A:Around}{E:Value->Shared->Prop}{s:Shared}
theorem Uy{Q:Value->Shared->Prop}(hd:(d==sysModules)=false)(x:H9 s.heap d es ep)
  (h:Q (.ref s.heap.objs.size) {s with heap:=s.heap.push {cls:= .type "dict_items",data:= .fields #[.ref d]}}):wpAny (model prog w) A (call (.builtin "dict.items") [.ref d]) Q E s:=by
 obtain⟨o,ho,ex,_⟩:=x
 have ty:s.TypeIs (.ref d) "dict" := ⟨o,ho,ex.1⟩
 refine jI PySem.F.slot_dict_items ty PySem.F.entry_dict_items ?_ (PySem.F.args_dict_items_1 _)
 unfold Builtin.«dict.items» Builtin.Dict.noArgs
 refine zC (zC (wpAny_notOrdered_dict ty (show wpAny _ _ (pure d) _ _ s from zI ?_)))
 show wpAny _ _ (Builtin.Dict.showsAll d >>= _) _ _ s
 unfold Builtin.Dict.showsAll
 rw[if_neg (by rw[hd];decide)]
 exact zC (zI (zC (wT (zI ⟨_,rfl,h⟩))))
theorem Ux{Q:Value->Shared->Prop}(hv:s.heap.IsItemsView v d)(x:H9 s.heap d es ep)
  (h:Q (.ref s.heap.objs.size) {s with heap:=s.heap.push (itO .none (.bool false) d 0 es.size ep .none .none)}):wpAny (model prog w) A (pyIter (.ref v)) Q E s:=by
 obtain⟨o1,g1,c1,d1⟩:=id hv
 obtain⟨o,ho,ex,hdat⟩:=x
 refine wpAny_pyIter_slot hv.typeIs PySem.F.slot_dict_items_iter (jI PySem.F.slot_dict_items_iter hv.typeIs PySem.F.entry_dict_items_iter ?_ (PySem.F.args_dict_items_iter_1 _))
 unfold Builtin.«dict_items.__iter__» Builtin.Dict_items.dictOf Builtin.Dict_items.newIterator
 refine zC (zI (zC (zC (vT g1 d1 (x:= .ref d) rfl (zI (zC (zC (wpAny_dictEntries ho hdat (zC (wpAny_dictEpoch ho hdat ?_))))))))))
 simp only[show Builtin.Dict_items.ownsTuple "dict_itemiterator" = true from by decide,if_true]
 refine wT (zI ⟨_,rfl,"dict_itemiterator",_,⟨_,yB _ rfl,rfl⟩,PySem.F.slot_dict_itemiterator_next.lookup,?_⟩)
  (by simp only[sizeOk,Builtin.Dict_items.ownedTupleFields,List.size_toArray,List.length_append,List.length_cons,List.length_nil,sizeLine_eq];omega)
 simpa[rawInt,itO,Builtin.Dict_items.ownedTupleFields]using h
theorem Uw{Q:Option Value->Shared->Prop}(g:Vf s.heap it d S i es.size ep)(x:H9 s.heap d es ep)(hS:S<s.heap.objs.size)(hi:i<es.size)
  (h:∀h':Heap,Vf h' it d S (i+1) es.size ep->h'.get? s.heap.objs.size=some {cls:= .type "tuple",data:= .seq #[es[i].key,es[i].val]}->h'.objs.size=s.heap.objs.size+1->
   (∀b o,b≠it->s.heap.get? b=some o->h'.get? b=some o)->Q (some (.ref s.heap.objs.size)) {s with heap:=h'}):wpAny (model prog w) A (pyNext (.ref it)) Q E s:=by
 obtain⟨f0,f1,ok,ov,e0,ff⟩:=g
 obtain⟨o,ho,ex,hdat⟩:=x
 obtain⟨hp,gs,dr,tk,os⟩:=s
 have ty:Shared.TypeIs ⟨hp,gs,dr,tk,os⟩ (.ref it) "dict_itemiterator" := ⟨_,e0,rfl⟩
 have own:Builtin.Dict_items.ownsTuple "dict_itemiterator" = true:=by decide
 have lt:it<hp.objs.size:=zS e0
 unfold pyNext
 refine zC (wpAny_attempt (zai (name:=Str.ofString "__next__") ty PySem.F.slot_dict_itemiterator_next (jI PySem.F.slot_dict_itemiterator_next ty PySem.F.entry_dict_itemiterator_next ?_ (PySem.F.args_dict_itemiterator_next_1 _))))
 refine zC (zI (zC (zC (zC (wpAny_typeNameOfWhole_itemiter ty (zI (zC (wpAny_fieldsOf e0 rfl ?_))))))))
 simp only[own,if_true]
 show wpAny _ _ (if(Value.ref d==Value.none)=true then _ else _) _ _ _
 rw[if_neg (Q8 d)]
 refine zC (zI (zC (wpAny_dictEntries ho hdat ?_)))
 rw[if_neg (by simp)]
 refine zC (zI (zC (wpAny_dictEpoch ho hdat ?_)))
 rw[if_neg (by simp)]
 refine zI ?_
 simp only[show ¬((i:Int)<0) by omega,if_false,zam,Array.getElem?_eq_getElem hi]
 refine zC (zC (wpAny_typeNameOfWhole_itemiter ty (zI (zC (wpAny_isOneOf_itemiter ty ?_)))))
 show wpAny _ _ (setField (.ref it) 3 (rawInt ((i:Int)+1)) >>= _) _ _ ⟨hp,gs,dr,tk,os⟩
 refine zC (vF e0 (by simp) λh1 e1 b1=> ?_)
 have e1':h1.get? it=some (itO f0 f1 d (i+1) es.size ep ok ov):=by
  have z:((i+1:Nat):Int)=(i:Int)+1:=()
  unfold itO
  rw[z]
  simpa[rawInt]using e1
 replace b1:Heap.SameBut it hp h1:=b1
 have ty1:Shared.TypeIs ⟨h1,gs,dr,tk,os⟩ (.ref it) "dict_itemiterator" := ⟨_,e1',rfl⟩
 refine zC (wpAny_holding (zC (wpAny_isOneOf_itemiter ty1 (zC (wpAny_isOneOf_itemiter ty1 ?_)))))
 show wpAny _ _ (Builtin.Dict_items.pairFromOwner (.ref it) 6 es[i].key es[i].val) _ _ ⟨h1,gs,dr,tk,os⟩
 have z1:h1.objs.size=hp.objs.size:=b1.1
 unfold Builtin.Dict_items.pairFromOwner
 refine zC (wpAny_newTuple ?_)
 generalize eh2:h1.push {cls:= .type "tuple",data:= .seq [es[i].key,es[i].val].toArray}=h2
 have e2:h2.get? it=some (itO f0 f1 d (i+1) es.size ep ok ov):=by rw[<-eh2];exact zD _ e1'
 have t2:h2.get? hp.objs.size=some {cls:= .type "tuple",data:= .seq #[es[i].key,es[i].val]}:=by rw[<-eh2,<-z1];exact yB _ rfl
 have z2:h2.objs.size=hp.objs.size+1:=by rw[<-eh2,Heap.size_push,z1]
 have k2:∀b o,b≠it->hp.get? b=some o->h2.get? b=some o:=λb o hb q=>by rw[<-eh2];exact zD _ (b1.extBut b o hb q)
 have done:∀h3:Heap,(∃f0 f1 ok ov,h3.get? it=some (itO f0 f1 d (i+1) es.size ep ok ov)/\(f0= .none\/∃(a:Addr) (b:Bool) (oa:Obj),f0=rawInt a/\f1= .bool b/\h3.get? a=some oa/\a≠it/\a≠S))->Heap.SameBut it h2 h3->Q (some (.ref hp.objs.size)) ⟨h3,gs,dr,tk,os⟩:=λh3 q1 q2=>
  h h3 q1 (q2.extBut _ _ (xS lt) t2) (by show h3.objs.size=hp.objs.size+1;rw[q2.1,z2]) λb o hb q=>q2.extBut b o hb (k2 b o hb q)
 show wpAny _ _ (Builtin.Dict_items.ownedTupleIsFree (.ref it) >>= _) _ _ ⟨h2,gs,dr,tk,os⟩
 rw[z1]
 unfold Builtin.Dict_items.ownedTupleIsFree
 rcases ff with rfl | ⟨a,b,oa,rfl,rfl,ha,hai,haS⟩
 ·refine zC (zC (vT e2 rfl (x:= .none) rfl (zI ?_)))
  simp only[if_true]
  refine zC (vT e2 rfl (x:=ok) rfl (zC (vT e2 rfl (x:=ov) rfl (zC (vF e2 (by simp) λh3 e3 b3=> ?_)))))
  replace b3:Heap.SameBut it h2 h3:=b3
  refine zC (vF e3 (by simp) λh4 e4 b4=>zC (vF e4 (by simp) λh5 e5 b5=>zC (vF e5 (by simp) λh6 e6 b6=> ?_)))
  replace b4:Heap.SameBut it h3 h4:=b4
  replace b5:Heap.SameBut it h4 h5:=b5
  replace b6:Heap.SameBut it h5 h6:=b6
  have sb:Heap.SameBut it h2 h6:=⟨by rw[b6.1,b5.1,b4.1,b3.1],λc hc=>(b6.2 c hc).trans ((b5.2 c hc).trans ((b4.2 c hc).trans (b3.2 c hc)))⟩
  refine zC (wpAny_letGo (zI (zI ⟨_,rfl,zI (done h6 ⟨_,_,_,_,e6,.inr ⟨hp.objs.size,false,_,rfl,rfl,sb.extBut _ _ (xS lt) t2,xS lt,xS hS⟩⟩ sb)⟩)))
 ·refine zC (zC (vT e2 rfl (x:=rawInt a) rfl ?_))
  show wpAny _ _ (loadIfAlive ((a:Int).toNat) >>= _) _ _ _
  rw[zam]
  have ha2:=k2 a oa hai ha
  refine zC (kdx_alive ha2 ?_)
  simp only[Option.isNone_some,Bool.false_eq_true,if_false]
  refine zC (vT e2 rfl (x:= .bool b) rfl ?_)
  cases b with
  | true=>
   rw[if_neg (by decide)]
   refine zI ?_
   simp only[Bool.false_eq_true,if_false]
   exact zI (zI ⟨_,rfl,zI (done h2 ⟨_,_,_,_,e2,.inr ⟨a,true,oa,rfl,rfl,ha2,hai,haS⟩⟩ (Heap.SameBut.refl _ _))⟩)
  | false=>
   rw[if_pos (by decide)]
   refine zC (vF e2 (by simp) λh3 e3 b3=>zI ?_)
   replace b3:Heap.SameBut it h2 h3:=b3
   simp only[Bool.false_eq_true,if_false]
   exact zI (zI ⟨_,rfl,zI (done h3 ⟨_,_,_,_,e3,.inr ⟨a,true,oa,rfl,rfl,b3.extBut _ _ hai ha2,hai,haS⟩⟩ b3)⟩)
theorem Uv{Q:Option Value->Shared->Prop}(hh:A.handled=none)(g:Vf s.heap it d S i es.size ep)(x:H9 s.heap d es ep)(hi:es.size<=i)
  (h:∀h':Heap,Heap.ExtBut it s.heap h'->Q none {s with heap:=h'}):wpAny (model prog w) A (pyNext (.ref it)) Q E s:=by
 obtain⟨f0,f1,ok,ov,e0,_⟩:=g
 obtain⟨o,ho,ex,hdat⟩:=x
 have ty:s.TypeIs (.ref it) "dict_itemiterator" := ⟨_,e0,rfl⟩
 have own:Builtin.Dict_items.ownsTuple "dict_itemiterator" = true:=by decide
 unfold pyNext
 refine zC (wpAny_attempt (zai (name:=Str.ofString "__next__") ty PySem.F.slot_dict_itemiterator_next (jI PySem.F.slot_dict_itemiterator_next ty PySem.F.entry_dict_itemiterator_next ?_ (PySem.F.args_dict_itemiterator_next_1 _))))
 refine zC (zI (zC (zC (zC (wpAny_typeNameOfWhole_itemiter ty (zI (zC (wpAny_fieldsOf e0 rfl ?_))))))))
 simp only[own,if_true]
 show wpAny _ _ (if(Value.ref d==Value.none)=true then _ else _) _ _ s
 rw[if_neg (Q8 d)]
 refine zC (zI (zC (wpAny_dictEntries ho hdat ?_)))
 rw[if_neg (by simp)]
 refine zC (zI (zC (wpAny_dictEpoch ho hdat ?_)))
 rw[if_neg (by simp)]
 refine zI ?_
 simp only[show ¬((i:Int)<0) by omega,if_false,zam,Array.getElem?_eq_none hi]
 refine zC (zC (wpAny_typeNameOfWhole_itemiter ty (zI ?_)))
 show wpAny _ _ (setField (.ref it) 2 .none >>= _) _ _ s
 refine zC (wpAny_setField e0 rfl (by simp) ?_)
 show wpAny _ _ (newExc (.type "StopIteration") [] >>= _) _ _ _
 simp only[newExc,newTuple]
 refine zC (zC (wT (zC (m:=firstArgMember _ _) (wpAny_of_eq (a:=Value.none) (by first | rfl | (simp only[firstArgMember];rfl)) (wT ?_ (by size_fits)))) (by size_fits)))
 simp only[raiseNew]
 refine zC (wpAny_handled ?_)
 rw[show A.in1.handled=none from hh]
 refine zC (zI (wpAny_throw ?_))
 refine zC (wpAny_isInstance (T:= "StopIteration") (b:=true) ⟨_,yB _ rfl,rfl⟩ isSubtype_stop (zI ?_))
 exact h _ (((Heap.SameBut.update ..).extBut.push _).push _)
structure Prs(es:Array DictEntry)(lo:Addr)(h:Heap)(as:List Addr):Prop where
 lt:∀a∈as,lo<a/\a<h.objs.size
 up:as.Pairwise (· < ·)
 ix:∀(j:Nat) (a:Addr),as[j]? = some a->∃e,es[j]? = some e/\h.get? a=some {cls:= .type "tuple",data:= .seq #[e.key,e.val]}
theorem J4{S I d:Addr}{es:Array DictEntry}{ep:Nat}{R:Result->Shared->Prop}(hh:A.handled=none)(hSI:S<I)(hSd:d≠S)(hId:d≠I)(hn:es.size<=sizeLine)(res:Value){h0:Heap}
  (hR:∀h' tk (acc:Array Value) c as,(∀b o,b≠S->b≠I->h0.get? b=some o->h'.get? b=some o)->h'.get? S=some {cls:= .type "list",data:= .seq acc c}->as.length=es.size->Prs es I h' as->acc.toList=as.map Value.ref->R (.ok (.ret res)) {s with heap:=h',toks:=tk}):
  ∀(k i:Nat) (h:Heap) (tk c:Nat) (acc:Array Value) (as:List Addr),es.size=i+k->Vf h I d S i es.size ep->H9 h d es ep->(∀b o,b≠S->b≠I->h0.get? b=some o->h.get? b=some o)->h.get? S=some {cls:= .type "list",data:= .seq acc c}->
   acc.toList=as.map Value.ref->as.length=i->Prs es I h as->codeAny (model prog w) A (.builtin "list.extend.loop" ⟨[.ref S,.ref I,res],[]⟩) R {s with heap:=h,toks:=tk}
 | 0,i,h,tk,c,acc,as,hk,g,x,kp,hS,ha,hl,pr=>by
  refine codeAny_builtin PySem.F.entry_extend_loop ?_
  rw[Around.under_plainId PySem.F.plain_extend_loop _]
  show wpAny _ A.in1 (pyNext (.ref I) >>= _) _ _ _
  refine zC (Uv (s:={s with heap:=h,toks:=tk}) (A:=A.in1) hh g x () λh' he=>zI ?_)
  refine hR h' tk acc c as (λb o q1 q2 e=>he b o q2 (kp b o q1 q2 e)) (he S _ (xD hSI) hS) () ⟨λa m=>⟨(pr.lt a m).1,?_⟩,pr.up,λj a m=> ?_⟩ ha
  ·obtain⟨j,m'⟩:=List.mem_iff_getElem?.mp m
   obtain⟨e,_,q⟩:=pr.ix j a m'
   exact zS (he a _ (xS (pr.lt a m).1) q)
  ·obtain⟨e,q1,q2⟩:=pr.ix j a m
   exact⟨e,q1,he a _ (xS (pr.lt a (zaa m)).1) q2⟩
 | k+1,i,h,tk,c,acc,as,hk,g,x,kp,hS,ha,hl,pr=>by
  have hi:i<es.size:=()
  have ne:S≠I:=xD hSI
  have sl:S<h.objs.size:=zS hS
  have il:I<h.objs.size:=let⟨_,_,_,_,e,_⟩:=g;zS e
  have za:acc.size=i:=by rw[<-Array.length_toList,ha,zao,hl]
  refine codeAny_builtin PySem.F.entry_extend_loop ?_
  rw[Around.under_plainId PySem.F.plain_extend_loop _]
  show wpAny _ A.in1 (pyNext (.ref I) >>= _) _ _ _
  refine zC (Uw (s:={s with heap:=h,toks:=tk}) g x sl hi λh' g' ht hz kp'=> ?_)
  dsimp only at ht hz kp' ⊢
  have hS':=kp' S _ ne hS
  generalize eu:h'.update S (Obj.mapSeq (·.push (Value.ref h.objs.size)))=h2
  have up:∀b o,b≠S->h'.get? b=some o->h2.get? b=some o:=λb o hb e=>by rw[<-eu];exact(xL _ _ (Ne.symm hb)).trans e
  have ht2:=up _ _ (xS sl) ht
  show wpAny _ A.in1 (updateSeq S (·.push (Value.ref h.objs.size)) >>= _) _ _ _
  refine zC (wpAny_updateSeq hS' rfl (zI ⟨plainId_quiet PySem.F.plain_extend_loop _,?_⟩) (by rw[za];omega) (by show(acc.push _).size<=_;rw[Array.size_push,za];omega))
  rw[eu]
  refine J4 hh hSI hSd hId hn res hR k (i+1) h2 tk _ (acc.push (.ref h.objs.size)) (as++[h.objs.size]) () (g'.keep up (Ne.symm ne)) (x.keep λo e=>up d o hSd (kp' d o hId e))
   (λb o q1 q2 e=>up b o q1 (kp' b o q2 (kp b o q1 q2 e))) (by rw[<-eu];exact vS _ hS' rfl) (by rw[Array.toList_push,ha,List.map_append];rfl) (by rw[List.length_append,hl];rfl) ⟨λa m=> ?_,?_,λj a m=> ?_⟩
  ·rcases List.mem_append.mp m with m | m
   ·have:=pr.lt a m
    have l2:=zS ht2
    exact⟨this.1,Nat.lt_trans this.2 l2⟩
   ·rw[List.mem_singleton.mp m]
    exact⟨il,zS ht2⟩
  ·refine List.pairwise_append.mpr ⟨pr.up,List.pairwise_singleton _ _,λa m b m'=> ?_⟩
   rw[List.mem_singleton.mp m']
   exact(pr.lt a m).2
  ·rcases Nat.lt_or_ge j as.length with q | q
   ·rw[zaf q]at m
    obtain⟨e,q1,q2⟩:=pr.ix j a m
    have:=(pr.lt a (zaa m)).1
    exact⟨e,q1,up a _ (xS (Nat.lt_trans hSI this)) (kp' a _ (xS this) q2)⟩
   ·rw[zae q]at m
    have j0:j=i:=by
     have:=(List.getElem?_eq_some_iff.mp m).1
     simp at this
     omega
    subst j0
    have:h.objs.size=a:=by rw[hl]at m;simpa using m
    subst this
    exact⟨es[j],Array.getElem?_eq_getElem hi,ht2⟩
theorem Ox{R:Result->Shared->Prop}(hh:A.handled=none)(hv:s.heap.IsItemsView r d)(x:H9 s.heap d es ep)(hSr:S≠r)(hSd:d≠S)(res:Value)(c0:Nat)(hS:s.heap.get? S=some {cls:= .type "list",data:= .seq #[] c0})(hn:es.size<=sizeLine)
  (hR:∀h' tk (acc:Array Value) c as,(∀b o,b≠S->s.heap.get? b=some o->h'.get? b=some o)->h'.get? S=some {cls:= .type "list",data:= .seq acc c}->as.length=es.size->Prs es s.heap.objs.size h' as->acc.toList=as.map Value.ref->R (.ok (.ret res)) {s with heap:=h',toks:=tk}):
  wpAny (model prog w) A.in1 (Builtin.List.listExtendWith (.ref S) (.ref r) res) (λfin s'=>match fin with | .done f=>R (.ok f) s' | .again c'=>c'.quiet=true/\codeAny (model prog w) A c' R s') (λe s'=>R (.error e) s') s:=by
 have sl:S<s.heap.objs.size:=zS hS
 have dl:d<s.heap.objs.size:=let⟨_,e,_⟩:=x;zS e
 have go:∀(h:Heap) (c1 tk:Nat),(∀b o,b≠S->(s.heap.push (itO .none (.bool false) d 0 es.size ep .none .none)).get? b=some o->h.get? b=some o)->h.get? S=some {cls:= .type "list",data:= .seq #[] c1}->
   codeAny (model prog w) A (.builtin "list.extend.loop" ⟨[.ref S,.ref s.heap.objs.size,res],[]⟩) R {s with heap:=h,toks:=tk}:=λh c1 tk kp h1=>
  J4 (s:=s) (h0:=s.heap) hh sl hSd (xD dl) hn res (λh' tk' acc c as k'=>hR h' tk' acc c as λb o hb e=>k' b o hb (xD (zS e)) e) es.size 0 h tk c1 #[] [] ()
   ⟨_,_,_,_,kp _ _ (xS sl) (yB _ rfl),.inl rfl⟩ (x.keep λo e=>kp d o hSd (zD _ e)) (λb o hb _ e=>kp b o hb (zD _ e)) h1 rfl rfl ⟨(λa m=>nomatch m),List.Pairwise.nil,(λj a m=>by simp at m)⟩
 unfold Builtin.List.listExtendWith
 refine zC (wpAny_typeOf (T:= "dict_items") hv.typeIs ?_)
 simp only[show Builtin.List.listSameRef (.ref S) (.ref r)=false by simp[Builtin.List.listSameRef,hSr],show(Value.type "dict_items" == Value.type "list")=false by decide,show(Value.type "dict_items" == Value.type "tuple")=false by decide,Bool.or_false,Bool.false_eq_true,if_false]
 refine zC (Ux hv x (zC (wpAny_holding (kdx_hint (let⟨o,ho,hc,_⟩:=hv;⟨o,zD _ ho,hc⟩) ?_))))
 have h1:=zD (itO .none (.bool false) d 0 es.size ep .none .none) hS
 refine wpAny_ite_split (λ_=> ?_) (λ_=>zI ⟨plainId_quiet PySem.F.plain_extend_loop _,go _ c0 _ (λb o _ e=>e) h1⟩)
 refine zC (wpAny_rule (zC ?_))
 show wpAny _ _ (updateSeq S (·.push .none) >>= λ_=>updateSeq S (·.pop)) _ _ _
 have h2:=vS (Obj.mapSeq (·.push Value.none)) h1 rfl
 have h3:=vS (Obj.mapSeq (·.pop)) h2 rfl
 refine zC (wpAny_updateSeq h1 rfl (wpAny_updateSeq (hz:=by seq_fits) h2 rfl (zI ⟨plainId_quiet PySem.F.plain_extend_loop _,go _ _ _ (λb o hb e=> ?_) h3⟩)))
 exact(xL _ _ (Ne.symm hb)).trans ((xL _ _ (Ne.symm hb)).trans e)
theorem K_{R:List Value->Shared->Prop}(hh:A.handled=none)(hv:s.heap.IsItemsView r d)(x:H9 s.heap d es ep)(hn:es.size<=sizeLine)
  (h:∀(h':Heap) (tk:Nat) (as:List Addr),(∀b o,s.heap.get? b=some o->h'.get? b=some o)->as.length=es.size->Prs es s.heap.objs.size h' as->R (as.map Value.ref) {s with heap:=h',toks:=tk}):
  wpAny (model prog w) A (collect (.ref r)) R E s:=by
 have rl:r<s.heap.objs.size:=let⟨_,e,_⟩:=hv;zS e
 have dl:d<s.heap.objs.size:=let⟨_,e,_⟩:=x;zS e
 have hS:(s.heap.push {cls:= .type "list",data:= .seq ([]:List Value).toArray}).get? s.heap.objs.size=some {cls:= .type "list",data:= .seq #[]}:=yB _ rfl
 unfold collect
 refine zC (wpAny_runValue (codeAny_builtin entry_proto_collect' ?_))
 rw[Around.under_plainId PySem.F.plain_proto_collect _]
 show wpAny _ A.in1 (newList [] >>= λl=>again (.builtin "list.__iadd__" ⟨[l,.ref r],[]⟩)) _ _ s
 refine zC (wT (zI ⟨plainId_quiet PySem.F.plain_list_iadd _,codeAny_builtin entry_list_iadd' ?_⟩))
 rw[Around.under_plainId PySem.F.plain_list_iadd _]
 show wpAny _ A.in1 (Builtin.List.listExtendWith (.ref s.heap.objs.size) (.ref r) (.ref s.heap.objs.size)) _ _ _
 have key:=Ox (prog:=prog) (w:=w) (A:=A) (s:={s with heap:=s.heap.push {cls:= .type "list",data:= .seq ([]:List Value).toArray}}) (es:=es) (ep:=ep) (S:=s.heap.objs.size)
  (R:=λq s'=>∃(h':Heap) (tk:Nat) (acc:Array Value) (c:Nat) (as:List Addr),q= .ok (.ret (.ref s.heap.objs.size))/\s'={s with heap:=h',toks:=tk}/\(∀b o,s.heap.get? b=some o->h'.get? b=some o)/\
   h'.get? s.heap.objs.size=some {cls:= .type "list",data:= .seq acc c}/\as.length=es.size/\Prs es s.heap.objs.size h' as/\acc.toList=as.map Value.ref)
  hh (let⟨o,ho,y⟩:=hv;⟨o,zD _ ho,y⟩) (x.keep λo e=>zD _ e) (xS rl) (xD dl) (.ref s.heap.objs.size) 0 hS hn
  λh' tk acc c as k1 k2 k3 k4 k5=>⟨h',tk,acc,c,as,rfl,rfl,λb o e=>k1 b o (xD (zS e)) (zD _ e),k2,k3,
   ⟨λa m=>⟨by have:=(k4.lt a m).1;rw[Heap.size_push]at this;exact Nat.lt_of_succ_lt this,(k4.lt a m).2⟩,k4.up,k4.ix⟩,k5⟩
 have out:∀{s':Shared} {q:Result},(∃(h':Heap) (tk:Nat) (acc:Array Value) (c:Nat) (as:List Addr),q= .ok (.ret (.ref s.heap.objs.size))/\s'={s with heap:=h',toks:=tk}/\(∀b o,s.heap.get? b=some o->h'.get? b=some o)/\
   h'.get? s.heap.objs.size=some {cls:= .type "list",data:= .seq acc c}/\as.length=es.size/\Prs es s.heap.objs.size h' as/\acc.toList=as.map Value.ref)->∃as:List Addr,q= .ok (.ret (.ref s.heap.objs.size))/\(∃o acc c,s'.heap.get? s.heap.objs.size=some o/\o.data= .seq acc c/\acc.toList=as.map Value.ref)/\R (as.map Value.ref) s':=by
  rintro s' q ⟨h',tk,acc,c,as,rfl,rfl,k1,k2,k3,k4,k5⟩
  exact⟨as,rfl,⟨_,acc,c,k2,rfl,k5⟩,h h' tk as k1 k3 k4⟩
 refine vE key (λfin s' y=> ?_) λe s' y=> ?_
 ·cases fin with
  | done f=>
   obtain⟨as,e,⟨o,acc,c,ho,hd,ha⟩,q⟩:=out y
   cases e
   show wpAny _ A (load s.heap.objs.size >>= _) _ _ _
   refine zC (wpAny_load ho ?_)
   rw[hd]
   refine zI ?_
   show R acc.toList _
   rw[ha];exact q
  | again c1=>
   refine⟨y.1,codeAny_mono y.2 λq s2 z=> ?_⟩
   obtain⟨as,rfl,⟨o,acc,c,ho,hd,ha⟩,q⟩:=out z
   show wpAny _ A (load s.heap.objs.size >>= _) _ _ _
   refine zC (wpAny_load ho ?_)
   rw[hd]
   refine zI ?_
   show R acc.toList _
   rw[ha];exact q
 ·obtain⟨as,e,_⟩:=out y
  cases e
end
section
variable{X:Cx}{pins:List (Addr×Obj)}{σ:St}{H:Hp}{s:Shared}{A:Around}{E:Value->Shared->Prop}
def I_(v d:Addr):HO:= .ext λh=>h.IsItemsView v d
def afH:V->List V->Hp->VK->Prop:=λx us H Q=>∃d,x= .ref d/\us=[]/\IsD H d/\∀v,H v=none->Q (.ref v) (upd H v (I_ v d))
def aot(H:Hp)(d:Addr)(ps:List (V×V)):Prop:=(∃kvs,H d=some (.dK kvs)/\ps=kvs.map λp=>(kV p.1,p.2))\/
 ∃kvs:List (List Key×V),H d=some (.dT kvs)/\Paired (λ(p:List Key×V) (q:V×V)=>∃b,q.1= .ref b/\H b=some (.tup (p.1.map kV))/\q.2=p.2) kvs ps
theorem aa_(h:(bI P w).is k u=true):RelV (kV k) u:=by
 rcases fC (show J0 k u=true from h)with⟨i,t,rfl,rfl⟩ | ⟨x,t,rfl,rfl⟩
 ·exact⟨t,rfl⟩
 ·exact⟨t,rfl⟩
theorem adP(I:Inv X pins σ H s)(h:(∃kvs,H d=some (.dK kvs))\/∃kvs,H d=some (.dT kvs)):∃es ep ps,H9 s.heap d es ep/\aot H d ps/\es.size<=sizeLine/\Paired (λ(p:V×V) (e:DictEntry)=>RelV p.1 e.key/\RelV p.2 e.val) ps es.toList:=by
 rcases h with⟨kvs,e⟩ | ⟨kvs,e⟩
 ·obtain⟨z,_,vs,r,o,es,ep,ho,ex,hd,_,pr,_⟩:=(show cY X.prog X.w H s.heap d (.dK kvs)from I.hok d _ e)
  have pz:∀{es:List DictEntry} {vs:List (Key×Value)} {kvs:List (Key×V)},Pairs (bI X.prog X.w) es vs->KV kvs vs->Paired (λ(p:V×V) (e:DictEntry)=>RelV p.1 e.key/\RelV p.2 e.val) (kvs.map λp=>(kV p.1,p.2)) es:=by
   intro es vs kvs a b
   induction a generalizing kvs with
   | nil=>cases b;exact .nil
   | cons h1 h2 _ ih=>
    cases b with
    | cons q qs=>
     refine .cons ⟨?_,?_⟩ (ih qs)
     ·have:=aa_ h1;rw[<-q.1]at this;exact this
     ·rw[h2];exact q.2
  have pp:=pz pr r
  refine⟨es,ep,_,⟨o,ho,ex,hd⟩,.inl ⟨kvs,e,rfl⟩,?_,pp⟩
  have h1:=pp.length
  have h2:es.toList.length=es.size:=Array.length_toList
  rw[zao]at h1
  omega
 ·obtain⟨z,_,xs,r,o,es,ep,ho,ex,hd,he,_⟩:=(show cY X.prog X.w H s.heap d (.dT kvs)from I.hok d _ e)
  have pz:∀{kvs:List (List Key×V)} {xs:List (List Key×Addr×Value)},Paired (λ(p:List Key×V) (q:List Key×Addr×Value)=>p.1=q.1/\H q.2.1=some (.tup (p.1.map kV))/\RelV p.2 q.2.2) kvs xs->
    ∃ps:List (V×V),Paired (λ(p:List Key×V) (q:V×V)=>∃b,q.1= .ref b/\H b=some (.tup (p.1.map kV))/\q.2=p.2) kvs ps/\Paired (λ(p:V×V) (e:DictEntry)=>RelV p.1 e.key/\RelV p.2 e.val) ps (xs.map (entryOfKey (tupleKind (bI X.prog X.w)))):=by
   intro kvs xs a
   induction a with
   | nil=>exact⟨[],.nil,.nil⟩
   | @cons p q _ _ h _ ih=>
    obtain⟨ps,i1,i2⟩:=ih
    exact⟨(.ref q.2.1,p.2)::ps,.cons ⟨q.2.1,rfl,h.2.1,rfl⟩ i1,.cons ⟨rfl,h.2.2⟩ i2⟩
  obtain⟨ps,p1,p2⟩:=pz r
  rw[<-he]at p2
  refine⟨es,ep,ps,⟨o,ho,ex,hd⟩,.inr ⟨kvs,e,p1⟩,?_,p2⟩
  have h0:=p1.length
  have h1:=p2.length
  have h2:es.toList.length=es.size:=Array.length_toList
  omega
theorem aaW:MtR X "dict.items" afH:=by
 intro pins s σ H x xs v us Q I rx rs h
 obtain⟨d,rfl,rfl,dd,q⟩:=h
 cases rs
 obtain rfl:v= .ref d:=rx
 have ty:=Uz I dd
 have dd':(∃kvs,Rd H d (.dK kvs))\/∃kvs,Rd H d (.dT kvs):=dd
 have ents:∃es ep,H9 s.heap d es ep:=by
  rcases dd' with⟨kvs,e⟩ | ⟨kvs,e⟩
  ·obtain⟨_,_,_,_,o,es,ep,ho,ex,hd,_⟩:=e.ok I.hok
   exact⟨es,ep,o,ho,ex,hd⟩
  ·obtain⟨_,_,_,_,o,es,ep,ho,ex,hd,_⟩:=e.ok I.hok
   exact⟨es,ep,o,ho,ex,hd⟩
 obtain⟨es,ep,en⟩:=ents
 refine Uy ty.2.2 en ?_
 have g:(s.heap.push {cls:= .type "dict_items",data:= .fields #[.ref d]}).IsItemsView s.heap.objs.size d:=⟨_,yB _ rfl,rfl,rfl⟩
 refine⟨.ref s.heap.objs.size,_,I.laid (t':=s.toks) (o:=I_ s.heap.objs.size d) (λb o e=>zD _ e) (zac _) ⟨g,⟨_,yB _ rfl⟩,λh1 h2 a b=> ?_⟩,rfl,q _ (I.hok.fresh (zac _))⟩
 obtain⟨o,e1,e2,e3⟩:=a
 exact⟨o,b o e1,e2,e3⟩
def Fw(H:Hp):List (Addr×HO)->Hp
 | []=>H
 | p::r=>Fw (upd H p.1 p.2) r
theorem Lk:∀{l:List (Addr×HO)} {H:Hp},H a=some o->(∀p∈l,p.1≠a)->Fw H l a=some o
 | [],_,h,_=>h
 | p::l,H,h,n=>Lk (l:=l) (by rw[aH (Ne.symm (n p xB))];exact h) λq hq=>n q (yT _ hq)
theorem Nh:∀{l:List (Addr×HO)} {H:Hp} {i:Nat} {p:Addr×HO},(l.map (·.1)).Nodup->l[i]? = some p->Fw H l p.1=some p.2
 | q::l,H,0,p,nd,e=>by
  simp at e
  subst e
  rw[List.map_cons,List.nodup_cons]at nd
  show Fw (upd H q.1 q.2) l q.1=some q.2
  exact Lk bw λr hr z=>nd.1 (by rw[<-z];exact List.mem_map_of_mem hr)
 | q::l,H,i+1,p,nd,e=>by
  rw[List.map_cons,List.nodup_cons]at nd
  show Fw (upd H q.1 q.2) l p.1=some p.2
  exact Nh (i:=i) nd.2 (by simpa using e)
 | [],_,_,_,_,e=>by simp at e
def prs(as:List Addr)(ps:List (V×V)):List (Addr×HO):=(as.zip ps).map λp=>(p.1,.tup [p.2.1,p.2.2])
theorem Xl(qs:Paired (λ(a:Addr) (p:V×V)=>∃u v,RelV p.1 u/\RelV p.2 v/\s.heap.get? a=some {cls:= .type "tuple",data:= .seq #[u,v]}) as ps):
  ∀{H:Hp},Inv X pins σ H s->as.Pairwise (· < ·)->(∀a∈as,yF X pins H a/\X.s₀.heap.get? a=none)->Inv X pins σ (Fw H (prs as ps)) s:=by
 induction qs with
 | nil=>intro H I _ _;exact I
 | @cons a p as ps q _ ih=>
  intro H I nd h
  obtain⟨f,z⟩:=h a xB
  obtain⟨u,v,r1,r2,e⟩:=q
  rw[List.pairwise_cons]at nd
  have new:cY X.prog X.w (upd H a (.tup [p.1,p.2])) s.heap a (.tup [p.1,p.2]):=⟨by show 2<=sizeLine;decide,[u,v],.cons r1 (.cons r2 .nil),_,e,rfl,0,rfl⟩
  have I1:Inv X pins σ (upd H a (.tup [p.1,p.2])) s:=I.track f z new
  show Inv X pins σ (Fw (upd H a (.tup [p.1,p.2])) (prs as ps)) s
  refine ih I1 nd.2 λb hb=> ?_
  obtain⟨f',z'⟩:=h b (yT _ hb)
  exact⟨⟨by rw[aH (xS (nd.1 b hb))];exact f'.1,f'.2⟩,z'⟩
end
section
variable{X:Cx}{pins:List (Addr×Obj)}{σ:St}{H:Hp}{s:Shared}
theorem ab6(hl:acc.length=ys.length)(h:∀(j:Nat) (v:Value),acc[j]? = some v->∃y,ys[j]? = some y/\RelV y v):Vals ys acc:=by
 induction ys generalizing acc with
 | nil=>cases acc with
  | nil=>exact .nil
  | cons _ _=>simp at hl
 | cons y ys ih=>cases acc with
  | nil=>simp at hl
  | cons v acc=>
   refine .cons ?_ (ih (by simpa using hl) λj u hu=> ?_)
   ·obtain⟨y',e,r⟩:=h 0 v rfl
    simp at e
    subst e
    exact r
   ·obtain⟨y',e,r⟩:=h (j+1) u (by simpa using hu)
    exact⟨y',by simpa using e,r⟩
theorem agL{κ:Type}{kvs:List (κ×V)}{vs:List (κ×Value)}(r:KV kvs vs){j:Nat}{k:κ}{x:Value}(h:vs[j]? = some (k,x)):∃v,kvs[j]? = some (k,v)/\RelV v x:=by
 unfold KV at r
 induction r generalizing j with
 | nil=>simp at h
 | @cons p q _ _ a _ ih=>
  cases j with
  | zero=>
   simp at h
   subst h
   exact⟨p.2,by rw[<-show p.1=k from a.1];rfl,a.2⟩
  | succ j=>
   obtain⟨v,e,r⟩:=ih (j:=j) (by simpa using h)
   exact⟨v,by simpa using e,r⟩
end
end L2
namespace S
open PySem PySem.Spec PyProof.Rows L2
inductive D where
 | non | bl (b:Bool) | int (i:Int) | str (x:Str) | tup (ds:List D) | ref (n:Nat) | cl (ds:List D) | ty (n:String) | cls (c:Nat) | exc (c:Nat) (d:D) | mJ (ds:List D)
inductive MO where
 | lst (ds:List D) | ins (c:Nat) (fs:List (Str×D)) | dk (kvs:List (Key×D)) | dt (kvs:List (List Key×D)) | fd (kvs:List (Key×D))
abbrev St:=L2.St
abbrev Mem:=List MO
abbrev Sl:=List (Option D)
inductive Out (α:Type) where
 | ok (a:α) (M:Mem)
 | exc (c:Nat) (d:D) (M:Mem)
 | bad
def Out.bind{α β:Type}(o:Out α)(f:α->Mem->Out β):Out β:=match o with
 | .ok a M=>f a M
 | .exc c d M=> .exc c d M
 | .bad=> .bad
@[simp] theorem Out.d_{α β:Type}(c:Nat)(d:D)(M:Mem)(f:α->Mem->Out β):(Out.exc c d M:Out α).bind f= .exc c d M:=id rfl
@[simp] theorem Out.bC{α β:Type}(a:α)(M:Mem)(f:α->Mem->Out β):(Out.ok a M).bind f=f a M:=id rfl
@[simp] theorem Out.cL{α β:Type}(f:α->Mem->Out β):(Out.bad:Out α).bind f= .bad:=id rfl
def FrL(K:Frag)(H:Hp)(a:Addr)(xs:List V):Prop:=(∃o,H a=some (.lV o (.lst xs)))\/
 ∃(o:Obj) (its:Array Value) (n:Nat),K.lookup a=some o/\o.cls= .type "list" /\ o.dict=none/\o.data= .seq its n/\its.size<=sizeLine/\Vals xs its.toList
theorem FrL.sq{K:Frag}{H:Hp}{a:Addr}{xs:List V}(h:FrL K H a xs):qO K H a xs:=h.elim (λz=> .inl (.inr z)) .inr
def KT(K:Frag)(a:Addr)(xs:List V):Prop:=∃(o:Obj) (its:Array Value) (n:Nat),K.lookup a=some o/\o.cls= .type "tuple" /\ o.data= .seq its n/\its.size<=sizeLine/\Vals xs its.toList
mutual
inductive DV (K:Frag) (ct ι:Nat->Addr) (n:Nat) (H:Hp):D->V->Prop
 | non:DV K ct ι n H .non .non
 | bl (b:Bool):DV K ct ι n H (.bl b) (.bl b)
 | int (i:Int):DV K ct ι n H (.int i) (.int i)
 | str (x:Str):DV K ct ι n H (.str x) (.str x)
 | tup {a:Addr} {xs:List V} {ds:List D}:H a=some (.tup xs)->jm K ct ι n H ds xs->DV K ct ι n H (.tup ds) (.ref a)
 | ref {i:Nat}:i<n->DV K ct ι n H (.ref i) (.ref (ι i))
 | cl {a:Addr} {xs:List V} {ds:List D}:FrL K H a xs->jm K ct ι n H ds xs->DV K ct ι n H (.cl ds) (.ref a)
 | ty (s:String):DV K ct ι n H (.ty s) (.ty s)
 | cls (c:Nat):DV K ct ι n H (.cls c) (.ref (ct c))
 | exc {a dx:Addr} {c:Nat} {d:D} {v:V}:H a=some (xC a (ct c) dx)->H dx=some (.xd [("at",v)])->DV K ct ι n H d v->DV K ct ι n H (.exc c d) (.ref a)
 | mJ {a:Addr} {xs:List V} {ds:List D}:KT K a xs->jm K ct ι n H ds xs->DV K ct ι n H (.mJ ds) (.ref a)
inductive jm (K:Frag) (ct ι:Nat->Addr) (n:Nat) (H:Hp):List D->List V->Prop
 | nil:jm K ct ι n H [] []
 | cons {d:D} {x:V} {ds:List D} {xs:List V}:DV K ct ι n H d x->jm K ct ι n H ds xs->jm K ct ι n H (d::ds) (x::xs)
end
structure Ext(K:Frag)(ι:Nat->Addr)(n:Nat)(H:Hp)(ι':Nat->Addr)(n':Nat)(H':Hp):Prop where
 tup:∀a xs,H a=some (.tup xs)->H' a=some (.tup xs)
 lV:∀a xs,FrL K H a xs->FrL K H' a xs
 ex:∀a φ,H a=some (.ext φ)->H' a=some (.ext φ)
 xd:∀a fs,H a=some (.xd fs)->H' a=some (.xd fs)
 fz:∀a o u,H a=some (.lV o u)->H' a=some (.lV o u)
 le:n<=n'
 same:∀i,i<n->ι' i=ι i
theorem Ext.refl{K:Frag}{ι:Nat->Addr}{n:Nat}{H:Hp}:Ext K ι n H ι n H:=⟨λ_ _ h=>h,λ_ _ h=>h,λ_ _ h=>h,λ_ _ h=>h,λ_ _ _ h=>h,zac _,λ_ _=>rfl⟩
theorem Ext.trans{K:Frag}{ι bV gQ:Nat->Addr}{n n1 n2:Nat}{H H1 H2:Hp}(a:Ext K ι n H bV n1 H1)(b:Ext K bV n1 H1 gQ n2 H2):Ext K ι n H gQ n2 H2:=
 ⟨λx xs h=>b.tup x xs (a.tup x xs h),λx xs h=>b.lV x xs (a.lV x xs h),λx xs h=>b.ex x xs (a.ex x xs h),λx xs h=>b.xd x xs (a.xd x xs h),λx o u h=>b.fz x o u (a.fz x o u h),yY a.le b.le,λi hi=>(b.same i (yA hi a.le)).trans (a.same i hi)⟩
mutual
theorem DV.mono{K:Frag}{ct ι ι':Nat->Addr}{n n':Nat}{H H':Hp}(e:Ext K ι n H ι' n' H'):∀{d:D} {v:V},DV K ct ι n H d v->DV K ct ι' n' H' d v
 | _,_,.non=> .non
 | _,_,.bl b=> .bl b
 | _,_,.int i=> .int i
 | _,_,.str x=> .str x
 | _,_,.tup h hs=> .tup (e.tup _ _ h) (jm.mono e hs)
 | _,_,.ref (i:=i) h=>by rw[<-e.same i h];exact .ref (yA h e.le)
 | _,_,.cl h hs=> .cl (e.lV _ _ h) (jm.mono e hs)
 | _,_,.ty s=> .ty s
 | _,_,.cls c=> .cls c
 | _,_,.exc h1 h2 h3=> .exc (e.ex _ _ h1) (e.xd _ _ h2) (DV.mono e h3)
 | _,_,.mJ h hs=> .mJ h (jm.mono e hs)
theorem jm.mono{K:Frag}{ct ι ι':Nat->Addr}{n n':Nat}{H H':Hp}(e:Ext K ι n H ι' n' H'):∀{ds:List D} {vs:List V},jm K ct ι n H ds vs->jm K ct ι' n' H' ds vs
 | _,_,.nil=> .nil
 | _,_,.cons h hs=> .cons (DV.mono e h) (jm.mono e hs)
end
section
variable{K:Frag}{ct ι:Nat->Addr}{n:Nat}{H:Hp}
theorem jm.length:∀{ds:List D} {vs:List V},jm K ct ι n H ds vs->vs.length=ds.length
 | _,_,.nil=>rfl
 | _,_,.cons _ h=>congrArg (· + 1) h.length
theorem jm.at:∀{ds:List D} {vs:List V} {i:Nat} {d:D},jm K ct ι n H ds vs->ds[i]? = some d->∃v,vs[i]? = some v/\DV K ct ι n H d v
 | _,_,_,_,.nil,e=>by simp at e
 | _,_,0,_,.cons h _,e=>by simp at e;subst e;exact⟨_,rfl,h⟩
 | _,_,i+1,_,.cons _ hs,e=>by simpa using hs.at (i:=i) (by simpa using e)
theorem jm.append:∀{ds es:List D} {vs ws:List V},jm K ct ι n H ds vs->jm K ct ι n H es ws->jm K ct ι n H (ds++es) (vs++ws)
 | _,_,_,_,.nil,h=>h
 | _,_,_,_,.cons h hs,h'=> .cons h (hs.append h')
theorem jm.take:∀{ds:List D} {vs:List V} (k:Nat),jm K ct ι n H ds vs->jm K ct ι n H (ds.take k) (vs.take k)
 | _,_,0,_=>by simp;exact .nil
 | _,_,_+1,.nil=>by simp;exact .nil
 | _,_,k+1,.cons h hs=>by simp;exact .cons h (hs.take k)
theorem jm.drop:∀{ds:List D} {vs:List V} (k:Nat),jm K ct ι n H ds vs->jm K ct ι n H (ds.drop k) (vs.drop k)
 | _,_,0,h=>by simpa using h
 | _,_,_+1,.nil=>by simp;exact .nil
 | _,_,k+1,.cons _ hs=>by simp;exact hs.drop k
end
inductive MN (K:Frag) (ct ι:Nat->Addr) (n:Nat) (H:Hp):List (Str×D)->List (Str×V)->Prop
 | nil:MN K ct ι n H [] []
 | cons {x:Str} {d:D} {v:V} {fs:List (Str×D)} {vs:List (Str×V)}:DV K ct ι n H d v->MN K ct ι n H fs vs->MN K ct ι n H ((x,d)::fs) ((x,v)::vs)
theorem MN.mono{K:Frag}{ct ι ι':Nat->Addr}{n n':Nat}{H H':Hp}(e:Ext K ι n H ι' n' H'):∀{fs:List (Str×D)} {vs:List (Str×V)},MN K ct ι n H fs vs->MN K ct ι' n' H' fs vs
 | _,_,.nil=> .nil
 | _,_,.cons h hs=> .cons (h.mono e) (hs.mono e)
noncomputable def putD(f:Str)(d:D):List (Str×D)->List (Str×D)
 | []=>[(f,d)]
 | (x,e)::r=>if x=f then(x,d)::r else(x,e)::putD f d r
section
variable{K:Frag}{ct ι:Nat->Addr}{n:Nat}{H:Hp}
theorem MN.length:∀{fs:List (Str×D)} {vs:List (Str×V)},MN K ct ι n H fs vs->vs.length=fs.length
 | _,_,.nil=>rfl
 | _,_,.cons _ h=>congrArg (· + 1) h.length
theorem MN.look:∀{fs:List (Str×D)} {vs:List (Str×V)} {d:D},MN K ct ι n H fs vs->fs.lookup x=some d->∃v,vs.lookup x=some v/\DV K ct ι n H d v
 | _,_,_,.nil,e=>by simp at e
 | _,_,d,.cons (x:=y) h hs,e=>by
  rw[List.lookup_cons]at e ⊢
  cases z:x==y with
  | true=>rw[z]at e;exact⟨_,rfl,by cases e;exact h⟩
  | false=>rw[z]at e;exact hs.look e
theorem MN.aeO:∀{fs:List (Str×D)} {vs:List (Str×V)},MN K ct ι n H fs vs->fs.lookup x=none->vs.lookup x=none
 | _,_,.nil,_=>rfl
 | _,_,.cons (x:=y) h hs,e=>by
  rw[List.lookup_cons]at e ⊢
  cases z:x==y with
  | true=>rw[z]at e;cases e
  | false=>rw[z]at e;exact hs.aeO e
end
inductive u9 (K:Frag) (ct ι:Nat->Addr) (n:Nat) (H:Hp) {κ:Type}:List (κ×D)->List (κ×V)->Prop
 | nil:u9 K ct ι n H [] []
 | cons {x:κ} {d:D} {v:V} {fs:List (κ×D)} {vs:List (κ×V)}:DV K ct ι n H d v->u9 K ct ι n H fs vs->u9 K ct ι n H ((x,d)::fs) ((x,v)::vs)
theorem u9.mono{K:Frag}{ct ι ι':Nat->Addr}{n n':Nat}{H H':Hp}(e:Ext K ι n H ι' n' H'){κ:Type}:∀{fs:List (κ×D)} {vs:List (κ×V)},u9 K ct ι n H fs vs->u9 K ct ι' n' H' fs vs
 | _,_,.nil=> .nil
 | _,_,.cons h hs=> .cons (h.mono e) (hs.mono e)
theorem u9.length{K:Frag}{ct ι:Nat->Addr}{n:Nat}{H:Hp}{κ:Type}:∀{fs:List (κ×D)} {vs:List (κ×V)},u9 K ct ι n H fs vs->vs.length=fs.length
 | _,_,.nil=>rfl
 | _,_,.cons _ h=>congrArg (· + 1) h.length
def OR(K:Frag)(ct ι:Nat->Addr)(n:Nat)(H:Hp)(a:Addr):MO->Prop
 | .lst ds=>∃vs,H a=some (.lst vs)/\jm K ct ι n H ds vs
 | .ins c fs=>∃dx vs,H a=some (.ins (ct c) dx vs)/\MN K ct ι n H fs vs
 | .dk kvs=>∃vs,H a=some (.dK vs)/\u9 K ct ι n H kvs vs
 | .dt kvs=>∃vs,H a=some (.dT vs)/\u9 K ct ι n H kvs vs
 | .fd kvs=>∃o vs,H a=some (.lV o (.dK vs))/\u9 K ct ι n H kvs vs
structure Rl(K:Frag)(ct ι:Nat->Addr)(M:Mem)(H:Hp):Prop where
 inj:∀i j,i<M.length->j<M.length->ι i=ι j->i=j
 obj:∀(i:Nat) (o:MO),M[i]? = some o->OR K ct ι M.length H (ι i) o
structure Ws(K:Frag)(ct ι:Nat->Addr)(e:Sl)(M:Mem)(σ:St)(H:Hp):Prop where
 rl:Rl K ct ι M H
 len:σ.length=e.length
 env:∀(i:Nat) (d:D),e[i]? = some (some d)->∃v,σ[i]? = some (some v)/\DV K ct ι M.length H d v
section
variable{K:Frag}{ct ι:Nat->Addr}{M:Mem}{H:Hp}
theorem OR.some(h:OR K ct ι n H a o):∃u,H a=some u:=by
 cases o with
 | lst ds=>obtain⟨vs,e,_⟩:=h;exact⟨_,e⟩
 | ins c fs=>obtain⟨dx,vs,e,_⟩:=h;exact⟨_,e⟩
 | dk kvs=>obtain⟨vs,e,_⟩:=h;exact⟨_,e⟩
 | dt kvs=>obtain⟨vs,e,_⟩:=h;exact⟨_,e⟩
 | fd kvs=>obtain⟨o,vs,e,_⟩:=h;exact⟨_,e⟩
theorem O6(hp:∀b u,H p≠some (.lV b u))(h:FrL K H a xs):FrL K (upd H p o) a xs:=by
 rcases h with⟨b,h⟩ | h
 ·have ne:a≠p:=λe=>by subst e;exact hp _ _ h
  exact .inl ⟨b,by rw[aH ne];exact h⟩
 ·exact .inr h
theorem aaU(hp:H p=none):∀b u,H p≠some (.lV b u):=λb u h=>by rw[hp]at h;cases h
theorem OR.keep(e:Ext K ι n H ι' n' H')(ea:a'=a)(hh:H' a=H a)(h:OR K ct ι n H a o):OR K ct ι' n' H' a' o:=by
 subst ea
 cases o with
 | lst ds=>obtain⟨vs,q,r⟩:=h;exact⟨vs,by rw[hh];exact q,r.mono e⟩
 | ins c fs=>obtain⟨dx,vs,q,r⟩:=h;exact⟨dx,vs,by rw[hh];exact q,r.mono e⟩
 | dk kvs=>obtain⟨vs,q,r⟩:=h;exact⟨vs,by rw[hh];exact q,r.mono e⟩
 | dt kvs=>obtain⟨vs,q,r⟩:=h;exact⟨vs,by rw[hh];exact q,r.mono e⟩
 | fd kvs=>obtain⟨o,vs,q,r⟩:=h;exact⟨o,vs,by rw[hh];exact q,r.mono e⟩
def jF(ι:Nat->Addr)(n:Nat)(p:Addr):Nat->Addr:=λi=>if i=n then p else ι i
theorem pF(hp:H p=none)(h:H a=some u):upd H p o a=some u:=by rw[aH (bJ h hp)];exact h
theorem Ext.fresh(hp:H p=none):Ext K ι n H ι n (upd H p o):=⟨λ_ _ h=>pF hp h,λ_ _ h=>O6 (aaU hp) h,λ_ _ h=>pF hp h,λ_ _ h=>pF hp h,λ_ _ _ h=>pF hp h,zac _,λ_ _=>rfl⟩
theorem Rl.lt(R:Rl K ct ι M H)(h:M[i]? = some o):∃u,H (ι i)=some u:=(R.obj i o h).some
theorem Rl.fresh(R:Rl K ct ι M H)(hp:H p=none):Rl K ct ι M (upd H p o):=by
 refine⟨R.inj,λi x h=> ?_⟩
 obtain⟨u,hu⟩:=R.lt h
 exact(R.obj i x h).keep (Ext.fresh hp) rfl (aH (bJ hu hp))
theorem Ext.new(hp:H p=none):Ext K ι M.length H (jF ι M.length p) (M.length+1) (upd H p o):=
 ⟨λ_ _ h=>pF hp h,λ_ _ h=>O6 (aaU hp) h,λ_ _ h=>pF hp h,λ_ _ h=>pF hp h,λ_ _ _ h=>pF hp h,Nat.le_succ _,λi hi=>by unfold jF;rw[if_neg (xD hi)]⟩
theorem Rl.new(R:Rl K ct ι M H)(hp:H p=none)(h:OR K ct (jF ι M.length p) (M.length+1) (upd H p o) p x):Rl K ct (jF ι M.length p) (M++[x]) (upd H p o):=by
 have ne:∀i,i<M.length->ι i≠p:=λi hi=>by
  obtain⟨u,hu⟩:=R.lt (zad hi)
  exact bJ hu hp
 have el:(M++[x]).length=M.length+1:=by simp
 refine⟨λi j hi hj e=> ?_,λi y hy=> ?_⟩
 ·rw[el]at hi hj
  unfold jF at e
  by_cases a:i=M.length
  ·by_cases b:j=M.length
   ·rw[a,b]
   ·rw[if_pos a,if_neg b]at e
    exact absurd e.symm (ne j ())
  ·by_cases b:j=M.length
   ·rw[if_neg a,if_pos b]at e
    exact absurd e (ne i ())
   ·rw[if_neg a,if_neg b]at e
    exact R.inj i j () () e
 ·rw[el]
  by_cases a:i<M.length
  ·rw[zaf a]at hy
   obtain⟨u,hu⟩:=R.lt hy
   refine(R.obj i y hy).keep (Ext.new hp) ?_ (aH (bJ hu hp))
   unfold jF
   rw[if_neg (xD a)]
  ·have hi:i<(M++[x]).length:=(List.getElem?_eq_some_iff.mp hy).1
   have e:i=M.length:=by rw[el]at hi;omega
   subst e
   rw[zae (zac _)]at hy
   simp at hy
   subst hy
   have:jF ι M.length p M.length=p:=by unfold jF;rw[if_pos rfl]
   rw[this]
   exact h
theorem Ext.chg(h:H a=some u)(hu:∀xs,u≠ .tup xs)(hz:∀b x,u≠ .lV b x)(hx:∀φ,u≠ .ext φ:=by exact λ_ z=>nomatch z)(hd:∀fs,u≠ .xd fs:=by exact λ_ z=>nomatch z):Ext K ι n H ι n (upd H a o):=
 ⟨λb xs q=>by
  rw[aH (λe=>by subst e;rw[h]at q;exact hu xs (xI q))];exact q,λ_ _ q=>O6 (λb x r=>by rw[h]at r;exact hz b x (xI r)) q,λb φ q=>by
  rw[aH (λe=>by subst e;rw[h]at q;exact hx φ (xI q))];exact q,λb fs q=>by
  rw[aH (λe=>by subst e;rw[h]at q;exact hd fs (xI q))];exact q,λb x y q=>by
  rw[aH (λe=>by subst e;rw[h]at q;exact hz x y (xI q))];exact q,zac _,λ_ _=>rfl⟩
theorem Rl.chg(R:Rl K ct ι M H)(hi:i<M.length)(h:H (ι i)=some u)(hu:∀xs,u≠ .tup xs)(hz:∀b x,u≠ .lV b x)(hx:OR K ct ι M.length (upd H (ι i) o) (ι i) x)(hex:∀φ,u≠ .ext φ:=by exact λ_ z=>nomatch z)(hxd:∀fs,u≠ .xd fs:=by exact λ_ z=>nomatch z):Rl K ct ι (M.set i x) (upd H (ι i) o):=by
 refine⟨λj k hj hk e=>R.inj j k (by simpa using hj) (by simpa using hk) e,λj y hy=> ?_⟩
 rw[List.length_set]
 by_cases e:i=j
 ·subst e
  rw[zak hi]at hy
  cases hy
  exact hx
 ·rw[zaj e]at hy
  have hj:j<M.length:=(List.getElem?_eq_some_iff.mp hy).1
  exact(R.obj j y hy).keep (Ext.chg h hu hz hex hxd) rfl (aH λz=>e (R.inj i j hi hj z.symm))
theorem Ws.ext(w:Ws K ct ι e M σ H)(x:Ext K ι M.length H ι' M'.length H')(r:Rl K ct ι' M' H'):Ws K ct ι' e M' σ H':=
 ⟨r,w.len,λi d h=>let⟨v,a,b⟩:=w.env i d h;⟨v,a,b.mono x⟩⟩
theorem Ws.set(w:Ws K ct ι e M σ H)(i:Nat)(h:DV K ct ι M.length H d v):Ws K ct ι (e.set i (some d)) M (σ.set i (some v)) H:=by
 refine⟨w.rl,by simp[w.len],λj d' hj=> ?_⟩
 by_cases z:i=j
 ·subst z
  have hi:i<e.length:=by have:=(List.getElem?_eq_some_iff.mp hj).1;simpa using this
  rw[zak hi]at hj
  cases hj
  exact⟨v,zak (by rw[w.len];exact hi),h⟩
 ·rw[zaj z]at hj
  obtain⟨v',a,b⟩:=w.env j d' hj
  exact⟨v',by rw[zaj z];exact a,b⟩
end
abbrev XW:=Addr->Addr->Hp->Prop
def wAt(W:a_)(σ:St):XW:=λC dx H=>W C dx σ H
def W0:a_:=λ_ _ _ _=>False
def iV{α β:Type}(rel:(Nat->Addr)->Mem->Hp->α->β->Prop)(K:Frag)(ct:Nat->Addr)(w:XW)(ι:Nat->Addr)(n:Nat)(H:Hp)(o:Out α)(Q:β->Hp->Prop):Prop:=match o with
 | .ok a M'=>∀ι' b H',Ext K ι n H ι' M'.length H'->Rl K ct ι' M' H'->rel ι' M' H' a b->Q b H'
 | .exc c d M'=>∀ι' dx v H',Ext K ι n H ι' M'.length H'->Rl K ct ι' M' H'->H' dx=some (.xd [("at",v)])->DV K ct ι' M'.length H' d v->w (ct c) dx H'
 | .bad=>False
def tG{α β:Type}(rel:(Nat->Addr)->Mem->Hp->α->β->Prop)(K:Frag)(ct:Nat->Addr)(W:a_)(m:Sl->Mem->Out α)(σ:St)(H:Hp)(Q:β->Hp->Prop):Prop:=
 ∃ι e M,Ws K ct ι e M σ H/\iV rel K ct (wAt W σ) ι M.length H (m e M) Q
abbrev cP(K:Frag)(ct:Nat->Addr):(Nat->Addr)->Mem->Hp->D->V->Prop:=λι M H d v=>DV K ct ι M.length H d v
abbrev Hw(K:Frag)(ct:Nat->Addr):(Nat->Addr)->Mem->Hp->List D->List V->Prop:=λι M H d v=>jm K ct ι M.length H d v
abbrev Hv:(Nat->Addr)->Mem->Hp->Bool->Bool->Prop:=λ_ _ _ a b=>a=b
abbrev ME:=Sl->Mem->Out D
abbrev MT:=Sl->Mem->Out Bool
abbrev MA:=Sl->Mem->Out (List D)
def SE(X:Cx)(ct:Nat->Addr)(W:a_)(e:Expr)(m:ME):Prop:=PE X e (tG (cP X.K ct) X.K ct W m)
def YQ(X:Cx)(ct:Nat->Addr)(W:a_)(e:Expr)(m:MT):Prop:=PT X e (tG Hv X.K ct W m)
def SW(X:Cx)(ct:Nat->Addr)(W:a_)(e:Expr)(m:MT):Prop:=PW X e (tG Hv X.K ct W m)
def SA(X:Cx)(ct:Nat->Addr)(W:a_)(es:List Expr)(m:MA):Prop:=PA X es (tG (Hw X.K ct) X.K ct W m)
theorem SW.pt(h:SW X ct W e m):YQ X ct W e m:=PW.pt h
section
variable{X:Cx}{ct:Nat->Addr}
theorem PE.imp(h:PE X e t)(hi:∀σ H Q,t' σ H Q->t σ H Q):PE X e t':=λpins s σ H Q I q=>h pins s σ H Q I (hi σ H Q q)
theorem PT.imp(h:PT X e t)(hi:∀σ H Q,t' σ H Q->t σ H Q):PT X e t':=λpins s σ H Q I q=>h pins s σ H Q I (hi σ H Q q)
theorem PW.imp(h:PW X e t)(hi:∀σ H Q,t' σ H Q->t σ H Q):PW X e t':=λwh pins s σ H Q I q=>h wh pins s σ H Q I (hi σ H Q q)
theorem PA.imp(h:PA X es t)(hi:∀σ H Q,t' σ H Q->t σ H Q):PA X es t':=λpos pins s σ H Q I q=>h pos pins s σ H Q I (hi σ H Q q)
end
theorem iV.ext{α β:Type}{rel:(Nat->Addr)->Mem->Hp->α->β->Prop}{K:Frag}{ct ι ι':Nat->Addr}{w:XW}{n n':Nat}{H H':Hp}{o:Out α}{Q:β->Hp->Prop}(h:iV rel K ct w ι n H o Q)(x:Ext K ι n H ι' n' H'):iV rel K ct w ι' n' H' o Q:=by
 cases o with
 | ok a M=>exact λgQ b H2 x2 r q=>h gQ b H2 (x.trans x2) r q
 | exc c d M=>exact λgQ dx v H2 x2 r q1 q2=>h gQ dx v H2 (x.trans x2) r q1 q2
 | bad=>exact h
theorem iV.mono{α β:Type}{rel:(Nat->Addr)->Mem->Hp->α->β->Prop}{K:Frag}{ct ι:Nat->Addr}{w:XW}{n:Nat}{H:Hp}{o:Out α}{Q Q':β->Hp->Prop}(h:iV rel K ct w ι n H o Q)(x:∀b H,Q b H->Q' b H):iV rel K ct w ι n H o Q':=by
 cases o with
 | ok a M=>exact λgQ b H2 x2 r q=>x b H2 (h gQ b H2 x2 r q)
 | exc c d M=>exact h
 | bad=>exact h
def aoo{α β γ δ:Type}(dm:(Nat->Addr)->Mem->Hp->α->β->Prop)(VM:(Nat->Addr)->Mem->Hp->γ->δ->Prop)(K:Frag)(ct:Nat->Addr)(W:a_)(f:α->Sl->Mem->Out γ)(σ:St)(Q:δ->Hp->Prop)(b:β)(H1:Hp):Prop:=
 ∃ι e M a,Ws K ct ι e M σ H1/\dm ι M H1 a b/\iV VM K ct (wAt W σ) ι M.length H1 (f a e M) Q
theorem bH{α β γ δ:Type}{dm:(Nat->Addr)->Mem->Hp->α->β->Prop}{VM:(Nat->Addr)->Mem->Hp->γ->δ->Prop}{K:Frag}{ct:Nat->Addr}{W:a_}{ma:Sl->Mem->Out α}{f:α->Sl->Mem->Out γ}{σ:St}{H:Hp}{Q:δ->Hp->Prop}
  (h:tG VM K ct W (λe M=>(ma e M).bind λa M1=>f a e M1) σ H Q):tG dm K ct W ma σ H (aoo dm VM K ct W f σ Q):=by
 obtain⟨ι,e,M,w,p⟩:=h
 refine⟨ι,e,M,w,?_⟩
 cases z:ma e M with
 | bad=>simp only[z,Out.cL]at p;exact p
 | exc xc xd xM=>simp only[z,Out.d_]at p;exact p
 | ok a M1=>
  simp only[z,Out.bC]at p
  exact λbV b H1 x r q=>⟨bV,e,M1,a,w.ext x r,q,p.ext x⟩
section
variable{X:Cx}{ct:Nat->Addr}{W:a_}{a b c:Expr}{ma mb mc:ME}{pos:Pos}
@[irreducible] def aq(i:Nat):ME:=λe M=>match e[i]? with
 | some (some d)=> .ok d M
 | _=> .bad
theorem cO(h:e[i]? = some (some d)):aq i e M= .ok d M:=by unfold aq;rw[h]
def mC(d:D):ME:=λ_ M=> .ok d M
theorem dJ(h:PE X e t)(hi:∀σ H Q,tG (cP X.K ct) X.K ct W m σ H Q->t σ H Q):SE X ct W e m:=PE.imp h hi
theorem aj(i:Nat)(hN:X.N[i]? = some x:=by rfl)(hv:Vis X.env.scope x:=by first | exact Or.inl rfl | exact Or.inr (Or.inl rfl) | exact Or.inr (Or.inr rfl))(hd:(x==("__debug__" : Str))=false:=by decide)
  (hcd:(x==("__classdict__" : Str))=false:=by decide):SE X ct W (.Name x pos) (aq i):=dJ (aaE hN hv hd hcd) λσ H Q ⟨ι,e,M,w,p⟩=>by
 unfold aq at p
 cases z:e[i]? with
 | none=>rw[z]at p;exact p.elim
 | some o=>
  cases o with
  | none=>rw[z]at p;exact p.elim
  | some d=>
   rw[z]at p
   obtain⟨v,hv,dv⟩:=w.env i d z
   exact⟨v,hv,p ι v H .refl w.rl dv⟩
theorem QB(dv:∀ι n,DV X.K ct ι n H d v)(h:tG (cP X.K ct) X.K ct W (mC d) σ H Q):tC v σ H Q:=by
 obtain⟨ι,e,M,w,p⟩:=h
 exact p ι v H .refl w.rl (dv _ _)
theorem aB{i j pos}:SE X ct W (.Constant (.int i) j pos) (mC (.int i)):=dJ af6 λ_ _ _ h=>QB (λ_ _=> .int i) h
theorem qg{b j pos}:SE X ct W (.Constant (.bool b) j pos) (mC (.bl b)):=dJ ajr λ_ _ _ h=>QB (λ_ _=> .bl b) h
theorem kJ{j pos}:SE X ct W (.Constant .none j pos) (mC .non):=dJ af4 λ_ _ _ h=>QB (λ_ _=> .non) h
theorem b_{x j pos}:SE X ct W (.Constant (.str x) j pos) (mC (.str x)):=dJ af1 λ_ _ _ h=>QB (λ_ _=> .str x) h
abbrev qe:=D->D->Mem->Out D
def aD(op:qe)(ma mb:ME):ME:=λe M=>(ma e M).bind λd M1=>(mb e M1).bind λd' M2=>op d d' M2
def Lh(K:Frag)(ct:Nat->Addr)(op:qe)(r:R2):Prop:=
 ∀{w:XW} ι M H d d' v v' Q,Rl K ct ι M H->DV K ct ι M.length H d v->DV K ct ι M.length H d' v'->iV (cP K ct) K ct w ι M.length H (op d d' M) Q->r v v' H Q
def f9(X:Cx)(ct:Nat->Addr)(f:Value->Value->Sem Value)(op:qe):Prop:=∃r,tE X f r/\Lh X.K ct op r
theorem Jh(hs:Lh X.K ct op r)(h:tG (cP X.K ct) X.K ct W (aD op ma mb) σ H Q):
  tOp r (tG (cP X.K ct) X.K ct W ma) (tG (cP X.K ct) X.K ct W mb) σ H Q:=by
 obtain⟨ι,e,M,w,p⟩:=bH (dm:=cP X.K ct) h
 refine⟨ι,e,M,w,p.mono ?_⟩
 rintro x H1 ⟨bV,e1,M1,d1,w1,q1,p1⟩
 refine⟨bV,e1,M1,w1,?_⟩
 cases z:mb e1 M1 with
 | bad=>simp only[z,Out.cL]at p1;exact p1
 | exc xc xd xM=>simp only[z,Out.d_]at p1;exact p1
 | ok d2 M2=>
  simp only[z,Out.bC]at p1
  exact λgQ y H2 x2 r2 q2=>hs gQ M2 H2 d1 d2 x y Q r2 (q1.mono x2) q2 (p1.ext x2)
theorem aQ(h:f9 X ct (binaryOp op) sop)(ha:SE X ct W a ma)(hb:SE X ct W b mb):SE X ct W (.BinOp a op b pos) (aD sop ma mb):=by
 obtain⟨r,ho,hs⟩:=h
 exact dJ (ajp ho ha hb) λσ H Q q=>Jh hs q
theorem cR(h:f9 X ct (compareOp op) sop)(ha:SE X ct W a ma)(hb:SE X ct W b mb)(hm:behindInMarks op b=false):SE X ct W (.Compare a [op] [b] pos) (aD sop ma mb):=by
 obtain⟨r,ho,hs⟩:=h
 exact dJ (ac4 ho ha hb hm) λσ H Q q=>Jh hs q
def Va(d:D)(M:Mem):Out Bool:=match d with
 | .bl b=> .ok b M
 | _=> .bad
def aZ(m:ME):MT:=λe M=>(m e M).bind Va
theorem Qw{Q:Bool->Hp->Prop}(hi:∀Q,tG (cP X.K ct) X.K ct W m σ H Q->t σ H Q)(h:tG Hv X.K ct W (aZ m) σ H Q):aen t σ H Q:=by
 refine hi _ ?_
 obtain⟨ι,e,M,w,p⟩:=bH (dm:=cP X.K ct) (f:=λd _ M=>Va d M) h
 refine⟨ι,e,M,w,p.mono ?_⟩
 rintro x H1 ⟨bV,e1,M1,d1,w1,q1,p1⟩
 cases q1 with
 | bl b=>exact⟨b,rfl,p1 bV b H1 .refl w1.rl rfl⟩
 | _=>exact False.elim p1
theorem aY(h:f9 X ct (compareOp op) sop)(ha:SE X ct W a ma)(hb:SE X ct W b mb)(hm:behindInMarks op b=false):YQ X ct W (.Compare a [op] [b] pos) (aZ (aD sop ma mb)):=by
 obtain⟨r,ho,hs⟩:=h
 exact PT.imp (acP ho ha hb hm) λσ H Q q=>Qw (λQ q=>Jh hs q) q
theorem qU(h:SE X ct W a m)(he:∀whole,isTrue a X.env whole=(do let v <-whole;standAt a.pos;holding [v] (truthy v)):=by intro _;rfl):YQ X ct W a (aZ m):=
 PT.imp (afO h he) λσ H Q q=>Qw (λQ q=>q) q
noncomputable def JQ(o1 o2:qe)(ma mb mc:ME):ME:=λe M=>(ma e M).bind λd1 M1=>(mb e M1).bind λd2 M2=>(o1 d1 d2 M2).bind λr M3=>(Va r M3).bind λk M4=>
 if k=true then(mc e M4).bind λd3 M5=>o2 d2 d3 M5 else .ok (.bl false) M4
theorem Xm(h1:Lh X.K ct o1 r)(h2:Lh X.K ct o2 r')(h:tG (cP X.K ct) X.K ct W (JQ o1 o2 ma mb mc) σ H Q):
  ZF r r' (tG (cP X.K ct) X.K ct W ma) (tG (cP X.K ct) X.K ct W mb) (tG (cP X.K ct) X.K ct W mc) σ H Q:=by
 obtain⟨ι,e,M,w,p⟩:=bH (dm:=cP X.K ct) h
 refine⟨ι,e,M,w,p.mono ?_⟩
 rintro x H1 ⟨bV,e1,M1,d1,w1,q1,p1⟩
 refine⟨bV,e1,M1,w1,?_⟩
 cases z:mb e1 M1 with
 | bad=>simp only[z,Out.cL]at p1;exact p1
 | exc xc xd xM=>simp only[z,Out.d_]at p1;exact p1
 | ok d2 M2=>
  simp only[z,Out.bC]at p1
  intro gQ y H2 x2 r2 q2
  refine h1 (w:=wAt W σ) gQ M2 H2 d1 d2 x y _ r2 (q1.mono x2) q2 ?_
  have p2:=p1.ext x2
  cases z2:o1 d1 d2 M2 with
  | bad=>simp only[z2,Out.cL]at p2;exact p2
  | exc xc xd xM=>simp only[z2,Out.d_]at p2;exact p2
  | ok rr M3=>
   simp only[z2,Out.bC]at p2
   intro Dq zz H3 x3 r3 q3
   have p3:=p2.ext x3
   have w3:=(w1.ext x2 r2).ext x3 r3
   cases q3 with
   | bl k=>
    refine⟨k,rfl,?_⟩
    simp only[Va,Out.bC]at p3
    cases k with
    | false=>exact p3 Dq (.bl false) H3 .refl r3 (.bl false)
    | true=>
     show tG (cP X.K ct) X.K ct W mc σ H3 _
     refine⟨Dq,e1,M3,w3,?_⟩
     simp only[if_true]at p3
     cases z4:mc e1 M3 with
     | bad=>simp only[z4,Out.cL]at p3;exact p3
     | exc xc xd xM=>simp only[z4,Out.d_]at p3;exact p3
     | ok d3 M5=>
      simp only[z4,Out.bC]at p3
      exact λQj y5 H5 x5 r5 q5=>h2 Qj M5 H5 d2 d3 y y5 Q r5 (q2.mono (x3.trans x5)) q5 (p3.ext x5)
   | _=>exact False.elim p3
theorem QJ(h1:f9 X ct (compareOp op) o1)(h2:f9 X ct (compareOp op') o2)(ha:SE X ct W a ma)(hb:SE X ct W b mb)(hc:SE X ct W c mc)
  (hm:lastMarks [op,op'] [b,c]=false:=by with_unfolding_all rfl):SE X ct W (.Compare a [op,op'] [b,c] pos) (JQ o1 o2 ma mb mc):=by
 obtain⟨r,ho,hs⟩:=h1
 obtain⟨r',ho',hs'⟩:=h2
 exact dJ (aaL ho ho' ha hb hc hm) λσ H Q q=>Xm hs hs' q
def mUn(op:D->Mem->Out D)(ma:ME):ME:=λe M=>(ma e M).bind op
def UnS(X:Cx)(ct:Nat->Addr)(f:Value->Sem Value)(op:D->Mem->Out D):Prop:=∃r,UnR X f r/\∀{w:XW} ι M H d v Q,Rl X.K ct ι M H->DV X.K ct ι M.length H d v->iV (cP X.K ct) X.K ct w ι M.length H (op d M) Q->r v H Q
theorem aiR(h:UnS X ct (unaryOp op) sop)(ha:SE X ct W a ma):SE X ct W (.UnaryOp op a pos) (mUn sop ma):=by
 obtain⟨r,ho,hs⟩:=h
 refine dJ (ajn ho ha) λσ H Q q=> ?_
 obtain⟨ι,e,M,w,p⟩:=bH (dm:=cP X.K ct) (f:=λd _ M=>sop d M) q
 exact⟨ι,e,M,w,p.mono λx H1 ⟨bV,e1,M1,d1,w1,q1,p1⟩=>hs bV M1 H1 d1 x Q w1.rl q1 p1⟩
variable{t u:MT}{rest:List Expr}
def agD(t u:MT):MT:=λe M=>(t e M).bind λk M1=>if k=true then u e M1 else .ok false M1
def Y0(t u:MT):MT:=λe M=>(t e M).bind λk M1=>if k=true then .ok true M1 else u e M1
def Rz(t:MT):MT:=λe M=>(t e M).bind λk M1=> .ok (!k) M1
theorem aci(ha:YQ X ct W a t):SW X ct W (.BoolOp .And [a] pos) t:=acM ha
theorem Cy(ha:YQ X ct W a t):SW X ct W (.BoolOp .Or [a] pos) t:=afL ha
theorem afm(ha:YQ X ct W a t)(hb:SW X ct W (.BoolOp .And (b::rest) pos) u):SW X ct W (.BoolOp .And (a::b::rest) pos) (agD t u):=PW.imp (afM ha hb) λσ H Q q=>by
 obtain⟨ι,e,M,w,p⟩:=bH (dm:=Hv) (f:=λk e M1=>if k=true then u e M1 else .ok false M1) q
 refine⟨ι,e,M,w,p.mono ?_⟩
 rintro k H1 ⟨bV,e1,M1,d1,w1,q1,p1⟩
 have Ld:d1=k:=q1;subst Ld
 cases d1 with
 | true=>exact⟨bV,e1,M1,w1,p1⟩
 | false=>exact p1 bV false H1 .refl w1.rl rfl
theorem BZ(ha:YQ X ct W a t)(hb:SW X ct W (.BoolOp .Or (b::rest) pos) u):SW X ct W (.BoolOp .Or (a::b::rest) pos) (Y0 t u):=PW.imp (ajk ha hb) λσ H Q q=>by
 obtain⟨ι,e,M,w,p⟩:=bH (dm:=Hv) (f:=λk e M1=>if k=true then .ok true M1 else u e M1) q
 refine⟨ι,e,M,w,p.mono ?_⟩
 rintro k H1 ⟨bV,e1,M1,d1,w1,q1,p1⟩
 have Ld:d1=k:=q1;subst Ld
 cases d1 with
 | false=>exact⟨bV,e1,M1,w1,p1⟩
 | true=>exact p1 bV true H1 .refl w1.rl rfl
theorem FJ(ha:YQ X ct W a t):YQ X ct W (.UnaryOp .Not a pos) (Rz t):=PT.imp (afP ha) λσ H Q q=>by
 obtain⟨ι,e,M,w,p⟩:=bH (dm:=Hv) (f:=λk e M1=> .ok (!k) M1) q
 refine⟨ι,e,M,w,p.mono ?_⟩
 rintro k H1 ⟨bV,e1,M1,d1,w1,q1,p1⟩
 have Ld:d1=k:=q1;subst Ld
 exact p1 bV _ H1 .refl w1.rl rfl
def z7(ma mb:ME):ME:=λe M=>(ma e M).bind λd M1=>(Va d M1).bind λk M2=>if k=true then mb e M2 else .ok (.bl false) M2
def Yc(ma mb:ME):ME:=λe M=>(ma e M).bind λd M1=>(Va d M1).bind λk M2=>if k=true then .ok (.bl true) M2 else mb e M2
def Wd(ma:ME):ME:=λe M=>(ma e M).bind λd M1=>(Va d M1).bind λk M2=> .ok (.bl (!k)) M2
theorem pN{op}(h:SE X ct W a m):SE X ct W (.BoolOp op [a] pos) m:=af2 h
theorem yV(ha:SE X ct W a ma)(hb:SE X ct W (.BoolOp .And (b::rest) pos) mb):SE X ct W (.BoolOp .And (a::b::rest) pos) (z7 ma mb):=dJ (af8 ha hb) λσ H Q q=>by
 obtain⟨ι,e,M,w,p⟩:=bH (dm:=cP X.K ct) (f:=λd e M1=>(Va d M1).bind λk M2=>if k=true then mb e M2 else .ok (.bl false) M2) q
 refine⟨ι,e,M,w,p.mono ?_⟩
 rintro x H1 ⟨bV,e1,M1,d1,w1,q1,p1⟩
 cases q1 with
 | bl k=>
  refine⟨k,rfl,?_⟩
  simp only[Va,Out.bC]at p1
  cases k with
  | true=>exact⟨bV,e1,M1,w1,p1⟩
  | false=>exact p1 bV _ H1 .refl w1.rl (.bl false)
 | _=>exact False.elim p1
theorem Vw(ha:SE X ct W a ma)(hb:SE X ct W (.BoolOp .Or (b::rest) pos) mb):SE X ct W (.BoolOp .Or (a::b::rest) pos) (Yc ma mb):=dJ (ajo ha hb) λσ H Q q=>by
 obtain⟨ι,e,M,w,p⟩:=bH (dm:=cP X.K ct) (f:=λd e M1=>(Va d M1).bind λk M2=>if k=true then .ok (.bl true) M2 else mb e M2) q
 refine⟨ι,e,M,w,p.mono ?_⟩
 rintro x H1 ⟨bV,e1,M1,d1,w1,q1,p1⟩
 cases q1 with
 | bl k=>
  refine⟨k,rfl,?_⟩
  simp only[Va,Out.bC]at p1
  cases k with
  | false=>exact⟨bV,e1,M1,w1,p1⟩
  | true=>exact p1 bV _ H1 .refl w1.rl (.bl true)
 | _=>exact False.elim p1
theorem Z1(ha:SE X ct W a ma):SE X ct W (.UnaryOp .Not a pos) (Wd ma):=dJ (af3 ha) λσ H Q q=>by
 obtain⟨ι,e,M,w,p⟩:=bH (dm:=cP X.K ct) (f:=λd _ M1=>(Va d M1).bind λk M2=>(Out.ok (D.bl (!k)) M2:Out D)) q
 refine⟨ι,e,M,w,p.mono ?_⟩
 rintro x H1 ⟨bV,e1,M1,d1,w1,q1,p1⟩
 cases q1 with
 | bl k=>exact⟨k,rfl,p1 bV _ H1 .refl w1.rl (.bl _)⟩
 | _=>exact False.elim p1
def mIf(t:MT)(ma mb:ME):ME:=λe M=>(t e M).bind λk M1=>if k=true then ma e M1 else mb e M1
theorem aiS(hc:YQ X ct W c t)(ha:SE X ct W a ma)(hb:SE X ct W b mb):SE X ct W (.IfExp c a b pos) (mIf t ma mb):=dJ (aaH hc ha hb) λσ H Q q=>by
 obtain⟨ι,e,M,w,p⟩:=bH (dm:=Hv) (f:=λk e M1=>if k=true then ma e M1 else mb e M1) q
 refine⟨ι,e,M,w,p.mono ?_⟩
 rintro k H1 ⟨bV,e1,M1,d1,w1,q1,p1⟩
 have Ld:d1=k:=q1;subst Ld
 cases d1 with
 | true=>exact⟨bV,e1,M1,w1,p1⟩
 | false=>exact⟨bV,e1,M1,w1,p1⟩
variable{es:List Expr}{ms:MA}
def aF:MA:=λ_ M=> .ok [] M
def au(m:ME)(ms:MA):MA:=λe M=>(m e M).bind λd M1=>(ms e M1).bind λds M2=> .ok (d::ds) M2
theorem az:SA X ct W [] aF:=PA.imp aaQ λσ H Q ⟨ι,e,M,w,p⟩=>p ι [] H .refl w.rl .nil
theorem ao(ha:SE X ct W a ma)(hr:SA X ct W es ms)(hs:starEach (a::es) X.env=(false,eval a X.env)::starEach es X.env:=by rfl):SA X ct W (a::es) (au ma ms):=PA.imp (V5 ha hr hs) λσ H Q q=>by
 obtain⟨ι,e,M,w,p⟩:=bH (dm:=cP X.K ct) (f:=λd e M1=>(ms e M1).bind λds M2=> .ok (d::ds) M2) q
 refine⟨ι,e,M,w,p.mono ?_⟩
 rintro x H1 ⟨bV,e1,M1,d1,w1,q1,p1⟩
 refine⟨bV,e1,M1,w1,?_⟩
 cases z:ms e1 M1 with
 | bad=>simp only[z,Out.cL]at p1;exact p1
 | exc xc xd xM=>simp only[z,Out.d_]at p1;exact p1
 | ok ds M2=>
  simp only[z,Out.bC]at p1
  exact λgQ xs H2 x2 r2 q2=>p1 gQ (x::xs) H2 x2 r2 (.cons (q1.mono x2) q2)
def fL(ms:MA):ME:=λe M=>(ms e M).bind λds M1=>if ds.length<=sizeLine then .ok (.tup ds) M1 else .bad
def Ep(ms:MA):ME:=λe M=>(ms e M).bind λds M1=>if ds.length<=sizeLine then .ok (.ref M1.length) (M1++[.lst ds])else .bad
theorem Eb{w:XW}{K:Frag}{ι:Nat->Addr}{M:Mem}{H:Hp}{ds:List D}{xs:List V}{Q:VK}{p:Addr}(R:Rl K ct ι M H)(h:jm K ct ι M.length H ds xs)(hp:H p=none)(q:iV (cP K ct) K ct w ι M.length H (.ok (.tup ds) M) Q):Q (.ref p) (upd H p (.tup xs)):=
 q ι (.ref p) _ (Ext.fresh hp) (R.fresh hp) (.tup bw (h.mono (Ext.fresh hp)))
theorem o_{w:XW}{K:Frag}{ι:Nat->Addr}{M:Mem}{H:Hp}{ds:List D}{xs:List V}{Q:VK}{p:Addr}(R:Rl K ct ι M H)(h:jm K ct ι M.length H ds xs)(hp:H p=none)(q:iV (cP K ct) K ct w ι M.length H (.ok (.ref M.length) (M++[.lst ds])) Q):Q (.ref p) (upd H p (.lst xs)):=by
 have el:(M++[MO.lst ds]).length=M.length+1:=by simp
 have x:Ext K ι M.length H (jF ι M.length p) (M.length+1) (upd H p (.lst xs)):=Ext.new hp
 have e:(jF ι M.length p) M.length=p:=by unfold jF;rw[if_pos rfl]
 have dv:DV K ct (jF ι M.length p) (M++[MO.lst ds]).length (upd H p (.lst xs)) (.ref M.length) (.ref p):=by
  have:=DV.ref (K:=K) (ct:=ct) (ι:=jF ι M.length p) (n:=(M++[MO.lst ds]).length) (H:=upd H p (.lst xs)) (i:=M.length) (by rw[el];omega)
  rw[e]at this
  exact this
 exact q (jF ι M.length p) (.ref p) _ (by rw[el];exact x) (R.new hp ⟨xs,bw,h.mono x⟩) dv
theorem bZ{x1}(h:SA X ct W es ms):SE X ct W (.Tuple es x1 pos) (fL ms):=dJ (af0 h) λσ H Q q=>by
 obtain⟨ι,e,M,w,p⟩:=bH (dm:=Hw X.K ct) (f:=λds _ M1=>if ds.length<=sizeLine then .ok (D.tup ds) M1 else .bad) q
 refine⟨ι,e,M,w,p.mono ?_⟩
 rintro xs H1 ⟨bV,e1,M1,ds,w1,q1,p1⟩
 by_cases z:ds.length<=sizeLine
 ·simp only[z,if_true]at p1
  exact⟨by rw[q1.length];exact z,λpp hp=>Eb w1.rl q1 hp p1⟩
 ·simp only[z,if_false]at p1
  exact p1.elim
theorem Cz(h:SA X ct W es ms):SE X ct W (.List es pos) (Ep ms):=dJ (af5 h) λσ H Q q=>by
 obtain⟨ι,e,M,w,p⟩:=bH (dm:=Hw X.K ct) (f:=λds _ M1=>if ds.length<=sizeLine then .ok (D.ref M1.length) (M1++[.lst ds])else .bad) q
 refine⟨ι,e,M,w,p.mono ?_⟩
 rintro xs H1 ⟨bV,e1,M1,ds,w1,q1,p1⟩
 by_cases z:ds.length<=sizeLine
 ·simp only[z,if_true]at p1
  exact⟨by rw[q1.length];exact z,λpp hp=>o_ w1.rl q1 hp p1⟩
 ·simp only[z,if_false]at p1
  exact p1.elim
noncomputable def mX(cs:List Nat)(f:Str)(d:D)(M:Mem):Out D:=match d with
 | .ref n=>match M[n]? with
  | some (.ins c fs)=>if c∈cs then(match fs.lookup f with
   | some v=> .ok v M
   | none=> .bad)else .bad
  | _=> .bad
 | _=> .bad
def bQ(cs:List Nat)(m:ME)(f:Str):ME:=λe M=>(m e M).bind (mX cs f)
def vf(K:Frag)(ct:Nat->Addr)(f:Str):List Nat->Prop
 | []=>True
 | c::cs=>(KC K (ct c)/\u_ K (ct c) f)/\vf K ct f cs
theorem vf.get{K:Frag}{ct:Nat->Addr}{f:Str}:∀{cs:List Nat} {c:Nat},vf K ct f cs->c∈cs->KC K (ct c)/\u_ K (ct c) f
 | [],_,_,h=>by simp at h
 | c::cs,d,⟨a,r⟩,h=>by
  rcases List.mem_cons.mp h with e | e
  ·subst e;exact a
  ·exact r.get e
theorem kZ{K:Frag}{ι:Nat->Addr}{n:Nat}{H:Hp}{i:Nat}{v:V}(h:DV K ct ι n H (.ref i) v):i<n/\v= .ref (ι i):=by cases h with | ref h=>exact⟨h,rfl⟩
theorem aR(hc:vf X.K ct f cs)(he:SE X ct W a ma)(hb:attributeBase a f X.env (eval a X.env)=eval a X.env:=by rfl):SE X ct W (.Attribute a f pos) (bQ cs ma f):=dJ (af7 he hb) λσ H Q q=>by
 obtain⟨ι,e,M,w,p⟩:=bH (dm:=cP X.K ct) (f:=λd _ M1=>mX cs f d M1) q
 refine⟨ι,e,M,w,p.mono ?_⟩
 rintro x H1 ⟨bV,e1,M1,d1,w1,q1,p1⟩
 cases d1 with
 | ref n=>
  obtain⟨hn,rfl⟩:=kZ q1
  simp only[mX]at p1
  cases z:M1[n]? with
  | none=>simp only[z]at p1;exact p1.elim
  | some o=>
   cases o with
   | ins c fs=>
    simp only[z]at p1
    by_cases hcs:c∈cs
    ·simp only[hcs,if_true]at p1
     cases z2:fs.lookup f with
     | none=>simp only[z2]at p1;exact p1.elim
     | some d=>
      simp only[z2]at p1
      obtain⟨dx,vs,hH,fv⟩:=w1.rl.obj n _ z
      obtain⟨v,hv,dv⟩:=fv.look z2
      exact⟨_,_,dx,vs,v,rfl,hH,(hc.get hcs).1,(hc.get hcs).2,hv,p1 bV v H1 .refl w1.rl dv⟩
    ·simp only[hcs,if_false]at p1
     exact p1.elim
   | _=>simp only[z]at p1;exact p1.elim
 | _=>exact p1.elim
abbrev Fn:=List D->Mem->Out D
def wE(E:XK):XW:=λC dx H=>E (.ref C) (some dx) H
theorem iV.wish{α β:Type}{rel:(Nat->Addr)->Mem->Hp->α->β->Prop}{K:Frag}{ct ι:Nat->Addr}{w w':XW}{n:Nat}{H:Hp}{o:Out α}{Q:β->Hp->Prop}(h:iV rel K ct w ι n H o Q)(x:∀C dx H,w C dx H->w' C dx H):iV rel K ct w' ι n H o Q:=by
 cases o with
 | ok a M=>exact h
 | exc c d M=>exact λgQ dx v H2 x2 r q1 q2=>x _ _ _ (h gQ dx v H2 x2 r q1 q2)
 | bad=>exact h
theorem iV.toE{α β:Type}{rel:(Nat->Addr)->Mem->Hp->α->β->Prop}{K:Frag}{ct ι:Nat->Addr}{W:a_}{σ:St}{n:Nat}{H:Hp}{o:Out α}{Q:β->Hp->Prop}(h:iV rel K ct (wAt W σ) ι n H o Q):iV rel K ct (wE (EW W σ)) ι n H o Q:=
 h.wish λC dx _ q=>⟨C,dx,rfl,rfl,q⟩
def spS(K:Frag)(ct:Nat->Addr)(fn:Fn)(ar:Nat):Sp:=λvs H Q E=>∃ι ds M,ds.length=ar/\Rl K ct ι M H/\jm K ct ι M.length H ds vs/\iV (cP K ct) K ct (wE E) ι M.length H (fn ds M) Q
inductive Cst:D->V->Value->Prop
 | bl (b:Bool):Cst (.bl b) (.bl b) (.bool b)
 | non:Cst .non .non .none
 | str (x:Str) (t:Tok):Cst (.str x) (.str x) (.str x t)
inductive Dn:List D->List V->List Value->Prop
 | nil:Dn [] [] []
 | cons {d:D} {v:V} {u:Value} {ds:List D} {vs:List V} {us:List Value}:Cst d v u->Dn ds vs us->Dn (d::ds) (v::vs) (u::us)
theorem Cst.dv{K:Frag}{ι:Nat->Addr}{n:Nat}{H:Hp}{d:D}{v:V}{u:Value}(h:Cst d v u):DV K ct ι n H d v:=by
 cases h with
 | bl b=>exact .bl b
 | non=>exact .non
 | str x t=>exact .str x
theorem Cst.val{d:D}{v:V}{u:Value}(h:Cst d v u):RelV v u:=by
 cases h with
 | bl b=>exact rfl
 | non=>exact rfl
 | str x t=>exact⟨_,rfl⟩
theorem Dn.dv{K:Frag}{ι:Nat->Addr}{n:Nat}{H:Hp}{ds:List D}{vs:List V}{us:List Value}(h:Dn ds vs us):jm K ct ι n H ds vs:=by
 induction h with
 | nil=>exact .nil
 | cons c _ ih=>exact .cons c.dv ih
theorem Dn.vals(h:Dn ds vs us):Vals vs us:=by
 induction h with
 | nil=>exact .nil
 | cons c _ ih=>exact .cons c.val ih
def dw(fn:Fn)(ar:Nat)(dv:List D)(ms:MA):ME:=λe M=>(ms e M).bind λds M1=>if(ds++dv).length=ar then fn (ds++dv) M1 else .bad
variable{k:Nat}{f:Addr}{fd:FuncData}{ps:List Str}{fn:Fn}{dv:List D}{yu:List V}{Yt:List Value}{x:Str}{p:Pos}
theorem ZG(hd:Dn dv yu Yt)(h:tG (cP X.K ct) X.K ct W (dw fn ps.length dv ms) σ H Q):ZJ (spS X.K ct fn ps.length) yu W (tG (Hw X.K ct) X.K ct W ms) σ H Q:=by
 obtain⟨ι,e,M,w,p⟩:=bH (dm:=Hw X.K ct) (f:=λds _ M1=>if(ds++dv).length=ps.length then fn (ds++dv) M1 else .bad) h
 refine⟨ι,e,M,w,p.mono ?_⟩
 rintro vs H1 ⟨bV,e1,M1,ds,w1,q1,p1⟩
 by_cases z:(ds++dv).length=ps.length
 ·simp only[z,if_true]at p1
  exact⟨bV,ds++dv,M1,z,w1.rl,q1.append hd.dv,p1.toE⟩
 ·simp only[z,if_false]at p1
  exact p1.elim
theorem bM(F:gP X.prog X.w X.K X.mg X.base (Dp X.prog X.w) k f fd ps (spS X.K ct fn ar))(hx:Tk X W)(hr:iw k X.A)(hg:Gl X x)(hm:X.mg x=some (.ref f))(hk:keepIn X.K (.ref f)=true)(hb:Binds X.K fd ps Yt)(hd:Dn dv yu Yt)
  (ha:SA X ct W (a::es) ms) (hdb:(x==("__debug__" : Str))=false:=by decide) (he:starEach (a::es) X.env=(false,eval a X.env)::starEach es X.env:=by rfl) (hpl:(backTo pos (starEach es X.env)).any (·.1)=false:=by rfl) (har:ps.length=ar:=by rfl):SE X ct W (.Call (.Name x p) (a::es) [] pos) (dw fn ar dv ms):=by
 subst har
 exact dJ (aaM F hr hg hm hk hb hd.vals hx ha hdb he hpl) λσ H Q q=>ZG hd q
noncomputable def t7(k:Nat)(m:Str)(d:D)(M:Mem):Bool:=match d with
 | .ref n=>match M[n]? with
  | some (.ins c fs)=>c==k&&(fs.lookup m).isNone
  | _=>false
 | _=>false
noncomputable def aU(k:Nat)(m:Str)(fn:Fn)(ar:Nat)(dv:List D)(mo:ME)(ms:MA):ME:=λe M=>(mo e M).bind λd M1=>if t7 k m d M1=true then(ms e M1).bind λds M2=>if(d::(ds++dv)).length=ar then fn (d::(ds++dv)) M2 else .bad else .bad
theorem abh{K:Frag}{ι:Nat->Addr}{M:Mem}{H:Hp}{k:Nat}{m:Str}{d:D}{v:V}(R:Rl K ct ι M H)(h:t7 k m d M=true)(q:DV K ct ι M.length H d v):∃a dx fs,v= .ref a/\H a=some (.ins (ct k) dx fs)/\fs.lookup m=none:=by
 cases d with
 | ref n=>
  obtain⟨hn,rfl⟩:=kZ q
  unfold t7 at h
  cases z:M[n]? with
  | none=>simp only[z]at h;cases h
  | some o=>
   cases o with
   | ins c fs=>
    simp only[z,Bool.and_eq_true,beq_iff_eq,Option.isNone_iff_eq_none]at h
    obtain⟨rfl,hl⟩:=h
    obtain⟨dx,vs,hH,fv⟩:=R.obj n _ z
    exact⟨_,dx,vs,rfl,hH,fv.aeO hl⟩
   | _=>simp only[z]at h;cases h
 | _=>exact absurd h xA
theorem Qx(hd:Dn dv yu Yt)(h:tG (cP X.K ct) X.K ct W (aU kc m fn ps.length dv mo ms) σ H Q):
  Tv (ct kc) m (spS X.K ct fn ps.length) yu W (tG (cP X.K ct) X.K ct W mo) (tG (Hw X.K ct) X.K ct W ms) σ H Q:=by
 obtain⟨ι,e,M,w,p⟩:=bH (dm:=cP X.K ct) (f:=λd e M1=>if t7 kc m d M1=true then(ms e M1).bind λds M2=>if(d::(ds++dv)).length=ps.length then fn (d::(ds++dv)) M2 else .bad else .bad) h
 refine⟨ι,e,M,w,p.mono ?_⟩
 rintro v H1 ⟨bV,e1,M1,d,w1,q1,p1⟩
 cases z:t7 kc m d M1 with
 | false=>simp only[z,Bool.false_eq_true,if_false]at p1;exact p1.elim
 | true=>
  simp only[z,if_true]at p1
  obtain⟨a,dx,fs,rfl,hH,hl⟩:=abh w1.rl z q1
  refine⟨a,dx,fs,rfl,hH,hl,bV,e1,M1,w1,?_⟩
  cases z2:ms e1 M1 with
  | bad=>simp only[z2,Out.cL]at p1;exact p1
  | exc xc xd xM=>simp only[z2,Out.d_]at p1;exact p1
  | ok ds M2=>
   simp only[z2,Out.bC]at p1
   intro gQ vs H2 x2 r2 q2
   by_cases z3:(d::(ds++dv)).length=ps.length
   ·rw[if_pos z3]at p1
    exact⟨gQ,_,M2,z3,r2,.cons (q1.mono x2) (q2.append hd.dv),(p1.ext x2).toE⟩
   ·rw[if_neg z3]at p1
    exact p1.elim
variable{o:Expr}{mo:ME}{kc:Nat}{m:Str}{apos:Pos}
theorem aG(he:SE X ct W o mo)(c:KC X.K (ct kc))(hm:Meth X.K (ct kc) m f)(F:gP X.prog X.w X.K X.mg X.base (Dp X.prog X.w) k f fd ps (spS X.K ct fn ar))(hx:Tk X W)(hr:iw k X.A)(hb:Binds X.K fd ps Yt)(hd:Dn dv yu Yt)(ha:SA X ct W (a::es) ms)
  (hst:starEach (a::es) X.env=(false,eval a X.env)::starEach es X.env:=by rfl) (hpl:(backTo pos (starEach es X.env)).any (·.1)=false:=by rfl)
  (ht:eval (.Call (.Attribute o m apos) (a::es) [] pos) X.env=(do
   let ov <-eval o X.env
   standAt apos.atName
   let(f,first) <-holding [ov] (getMethod ov m pl)
   callWith pos f first (backTo pos (starEach (a::es) X.env)) (backToKw pos (keywordEach [] X.env))):=by rfl) (har:ps.length=ar:=by rfl):SE X ct W (.Call (.Attribute o m apos) (a::es) [] pos) (aU kc m fn ar dv mo ms):=by
 subst har
 exact dJ (aaF he c hm F hr hb hd.vals hx ha hst hpl ht) λσ H Q q=>Qx hd q
theorem DN(he:SE X ct W o mo)(c:KC X.K (ct kc))(hm:Meth X.K (ct kc) m f)(F:gP X.prog X.w X.K X.mg X.base (Dp X.prog X.w) k f fd ps (spS X.K ct fn ar))(hx:Tk X W)(hr:iw k X.A)(hb:Binds X.K fd ps Yt)(hd:Dn dv yu Yt)
  (ht:eval (.Call (.Attribute o m apos) [] [] pos) X.env=(do
   let ov <-eval o X.env
   standAt apos.atName
   let(f,first) <-holding [ov] (getMethod ov m pl)
   callWith pos f first (backTo pos (starEach [] X.env)) (backToKw pos (keywordEach [] X.env))):=by rfl) (har:ps.length=ar:=by rfl):SE X ct W (.Call (.Attribute o m apos) [] [] pos) (aU kc m fn ar dv mo aF):=by
 subst har
 exact dJ (XF he c hm F hr hb hd.vals hx ht) λσ H Q q=>by
  obtain⟨ι,e,M,w,p⟩:=Qx hd q
  refine⟨ι,e,M,w,p.mono λv H1 ⟨a,dx,fs,e1,e2,e3,bV,e4,M1,w1,p1⟩=>⟨a,dx,fs,e1,e2,e3,p1 bV [] H1 .refl w1.rl .nil⟩⟩
def Mj(d:D):Bool:=match d with
 | .non=>true
 | _=>false
noncomputable def z6(kc:Nat)(fn:Fn)(ar:Nat)(dv:List D)(ms:MA):ME:=λe M=>(ms e M).bind λds M1=>if(D.ref M1.length::(ds++dv)).length=ar then(fn (.ref M1.length::(ds++dv)) (M1++[.ins kc []])).bind λr M2=>if Mj r=true then .ok (.ref M1.length) M2 else .bad else .bad
theorem Qy(hd:Dn dv yu Yt)(h:tG (cP X.K ct) X.K ct W (z6 kc fn ps.length dv ms) σ H Q):Tw (ct kc) (spS X.K ct fn ps.length) yu W (tG (Hw X.K ct) X.K ct W ms) σ H Q:=by
 obtain⟨ι,e,M,w,p⟩:=bH (dm:=Hw X.K ct) (f:=λds _ M1=>if(D.ref M1.length::(ds++dv)).length=ps.length then(fn (D.ref M1.length::(ds++dv)) (M1++[.ins kc []])).bind λr M2=>if Mj r=true then .ok (D.ref M1.length) M2 else .bad else .bad) h
 refine⟨ι,e,M,w,p.mono ?_⟩
 rintro vs H1 ⟨bV,e1,M1,ds,w1,q1,p1⟩
 intro a dx ha hdx ne
 dsimp only at p1
 by_cases z:(D.ref M1.length::(ds++dv)).length=ps.length
 ·rw[if_pos z]at p1
  have ha':upd H1 dx (.own a) a=none:=by rw[aH (Ne.symm ne)];exact ha
  have el:(M1++[MO.ins kc []]).length=M1.length+1:=by simp
  have x1:Ext X.K bV M1.length H1 bV M1.length (upd H1 dx (.own a)):=Ext.fresh hdx
  have r1:Rl X.K ct bV M1 (upd H1 dx (.own a)):=w1.rl.fresh hdx
  have x2:Ext X.K bV M1.length (upd H1 dx (.own a)) (jF bV M1.length a) (M1.length+1) (upd (upd H1 dx (.own a)) a (.ins (ct kc) dx [])):=Ext.new ha'
  have r2:Rl X.K ct (jF bV M1.length a) (M1++[MO.ins kc []]) (upd (upd H1 dx (.own a)) a (.ins (ct kc) dx [])):=r1.new ha' ⟨dx,[],bw,.nil⟩
  have e0:(jF bV M1.length a) M1.length=a:=by unfold jF;rw[if_pos rfl]
  have dv0:DV X.K ct (jF bV M1.length a) (M1++[MO.ins kc []]).length (upd (upd H1 dx (.own a)) a (.ins (ct kc) dx [])) (.ref M1.length) (.ref a):=by
   have:=DV.ref (K:=X.K) (ct:=ct) (ι:=jF bV M1.length a) (n:=(M1++[MO.ins kc []]).length) (H:=upd (upd H1 dx (.own a)) a (.ins (ct kc) dx [])) (i:=M1.length) (by rw[el];omega)
   rw[e0]at this
   exact this
  refine⟨jF bV M1.length a,_,M1++[.ins kc []],z,r2,.cons dv0 ?_,?_⟩
  ·rw[el];exact(q1.append hd.dv).mono (x1.trans x2)
  ·cases z2:fn (.ref M1.length::(ds++dv)) (M1++[.ins kc []])with
   | bad=>rw[z2]at p1;exact p1
   | exc xc xd xM=>
    rw[z2]at p1
    simp only[Out.d_]at p1
    have p2:=(p1.ext (x1.trans x2)).toE
    rw[el]
    exact λDq dx3 v3 H3 x3 r3 q3 q4=>p2 Dq dx3 v3 H3 x3 r3 q3 q4
   | ok r M2=>
    rw[z2]at p1
    simp only[Out.bC]at p1
    intro Dq v3 H3 x3 r3 q3
    cases q3 with
    | non=>
     refine⟨rfl,?_⟩
     simp only[Mj,if_true]at p1
     refine p1 Dq (.ref a) H3 ((x1.trans x2).trans (by rw[el]at x3;exact x3)) r3 (dv0.mono x3)
    | _=>exact False.elim p1
 ·rw[if_neg z]at p1
  exact p1.elim
theorem Ny(Mk0:Mk X.K (ct kc) f)(F:gP X.prog X.w X.K X.mg X.base (Dp X.prog X.w) k f fd ps (spS X.K ct fn ar))(hx:Tk X W)(hr:iw (k+1) X.A)(hg:Gl X x)(hm:X.mg x=some (.ref (ct kc)))(hb:Binds X.K fd ps Yt)(hd:Dn dv yu Yt)
  (ha:SA X ct W (a::es) ms) (hdb:(x==("__debug__" : Str))=false:=by decide) (he:starEach (a::es) X.env=(false,eval a X.env)::starEach es X.env:=by rfl) (hpl:(backTo pos (starEach es X.env)).any (·.1)=false:=by rfl) (har:ps.length=ar:=by rfl):SE X ct W (.Call (.Name x p) (a::es) [] pos) (z6 kc fn ar dv ms):=by
 subst har
 exact dJ (aaG Mk0 F hr hg hm hb hd.vals hx ha hdb he hpl) λσ H Q q=>Qy hd q
theorem Jj(Mk0:Mk X.K (ct kc) f)(F:gP X.prog X.w X.K X.mg X.base (Dp X.prog X.w) k f fd ps (spS X.K ct fn ar))(hx:Tk X W)(hr:iw (k+1) X.A)(hg:Gl X x)(hm:X.mg x=some (.ref (ct kc)))(hb:Binds X.K fd ps Yt)(hd:Dn dv yu Yt)
  (hdb:(x==("__debug__" : Str))=false:=by decide) (har:ps.length=ar:=by rfl):SE X ct W (.Call (.Name x p) [] [] pos) (z6 kc fn ar dv aF):=by
 subst har
 exact dJ (XH Mk0 F hr hg hm hb hd.vals hx hdb) λσ H Q q=>by
  obtain⟨ι,e,M,w,p⟩:=Qy hd q
  exact p ι [] H .refl w.rl .nil
abbrev Qd:=List D->Mem->Out D
def vV(op:Qd)(ms:MA):ME:=λe M=>(ms e M).bind op
def pL(X:Cx)(ct:Nat->Addr)(f:Value)(op:Qd):Prop:=∃r,mV X f r/\∀{w:XW} ι M H ds vs Q,Rl X.K ct ι M H->jm X.K ct ι M.length H ds vs->iV (cP X.K ct) X.K ct w ι M.length H (op ds M) Q->r vs H Q
variable{id T:String}{op:Qd}
theorem ZK{r:List V->Hp->VK->Prop}(hs:∀{w:XW} ι M H ds vs Q,Rl X.K ct ι M H->jm X.K ct ι M.length H ds vs->iV (cP X.K ct) X.K ct w ι M.length H (op ds M) Q->r vs H Q)
  (h:tG (cP X.K ct) X.K ct W (vV op ms) σ H Q):tCB r (tG (Hw X.K ct) X.K ct W ms) σ H Q:=by
 obtain⟨ι,e,M,w,p⟩:=bH (dm:=Hw X.K ct) (f:=λds _ M1=>op ds M1) h
 exact⟨ι,e,M,w,p.mono λvs H1 ⟨bV,e1,M1,ds,w1,q1,p1⟩=>hs bV M1 H1 ds vs Q w1.rl q1 p1⟩
theorem bD(h:pL X ct (.builtin id) op)(hg:Gl X x)(hm:X.mg x=none)(hv:bootBuiltins x=some (.builtin id))(ha:SA X ct W (a::es) ms)(hn:x≠ "__name__" := by decide)(hdb:(x==("__debug__" : Str))=false:=by decide)
  (he:starEach (a::es) X.env=(false,eval a X.env)::starEach es X.env:=by rfl) (hpl:(backTo pos (starEach es X.env)).any (·.1)=false:=by rfl):SE X ct W (.Call (.Name x p) (a::es) [] pos) (vV op ms):=by
 obtain⟨r,hr,hs⟩:=h
 exact dJ (Rf hr hg hm hv ha hn hdb he hpl) λσ H Q q=>ZK hs q
theorem yU(h:pL X ct (.type T) op)(hg:Gl X x)(hm:X.mg x=none)(hv:bootBuiltins x=some (.type T))(ha:SA X ct W (a::es) ms)(hn:x≠ "__name__" := by decide)(hdb:(x==("__debug__" : Str))=false:=by decide)
  (he:starEach (a::es) X.env=(false,eval a X.env)::starEach es X.env:=by rfl) (hpl:(backTo pos (starEach es X.env)).any (·.1)=false:=by rfl):SE X ct W (.Call (.Name x p) (a::es) [] pos) (vV op ms):=by
 obtain⟨r,hr,hs⟩:=h
 exact dJ (XJ hr hg hm hv ha hn hdb he hpl) λσ H Q q=>ZK hs q
end
section
variable{X:Cx}{ct:Nat->Addr}{W:a_}
theorem pX{K:Frag}{ι:Nat->Addr}{n:Nat}{H:Hp}{i:Int}{v:V}(h:DV K ct ι n H (.int i) v):v= .int i:=by cases h;rfl
theorem pW{K:Frag}{ι:Nat->Addr}{n:Nat}{H:Hp}{i:Str}{v:V}(h:DV K ct ι n H (.str i) v):v= .str i:=by cases h;rfl
theorem Pb{K:Frag}{ι:Nat->Addr}{n:Nat}{H:Hp}{ds:List D}{v:V}(h:DV K ct ι n H (.tup ds) v):∃a xs,v= .ref a/\lY K H a xs/\jm K ct ι n H ds xs:=by cases h with | tup a b=>exact⟨_,_,rfl,lY.of a,b⟩
theorem kj{K:Frag}{ι:Nat->Addr}{n:Nat}{H:Hp}{ds:List D}{v:V}(h:DV K ct ι n H (.tup ds) v):∃a xs,v= .ref a/\H a=some (.tup xs)/\jm K ct ι n H ds xs:=by cases h with | tup a b=>exact⟨_,_,rfl,a,b⟩
noncomputable def m6(M:Mem)(n:Nat):Option (List D):=match M[n]? with
 | some (.lst ds)=>some ds
 | _=>none
theorem eF(h:M[n]? = some (.lst ds)):m6 M n=some ds:=by unfold m6;rw[h]
theorem jE:m6 M n=some ds↔M[n]? = some (.lst ds):=by
 refine⟨λh=> ?_,eF⟩
 unfold m6 at h
 split at h
 ·rename_i e;cases h;exact e
 ·cases h
noncomputable def wD(M:Mem)(d:D):Option (List D):=match d with
 | .ref n=>m6 M n
 | .cl ds=>some ds
 | _=>none
theorem Rl.seq{K:Frag}{ι:Nat->Addr}{M:Mem}{H:Hp}(R:Rl K ct ι M H){d:D}{v:V}{ds:List D}(h:wD M d=some ds)(q:DV K ct ι M.length H d v):∃a xs,v= .ref a/\qO K H a xs/\jm K ct ι M.length H ds xs:=by
 cases q with
 | @ref i hi=>obtain⟨vs,q,r⟩:=R.obj i _ (jE.mp h);exact⟨_,vs,rfl,qO.of q,r⟩
 | cl h1 h2=>cases h;exact⟨_,_,rfl,h1.sq,h2⟩
 | _=>cases h
noncomputable def Qh(C:Int->Int->Bool)(g:Int->Int->D):qe:=λd e M=>match d,e with
 | .int i,.int j=>if C i j=true then .ok (g i j) M else .bad
 | _,_=> .bad
theorem V6{P:Int->Int->Prop}(hP:∀i j,C i j=true->P i j)(hg:∀(K:Frag) ι n H i j,DV K ct ι n H (g i j) (gv i j)):Lh X.K ct (Qh C g) (rI P gv):=by
 intro w ι M H d d' v v' Q R h h' p
 cases d with
 | int i=>
  cases d' with
  | int j=>
   cases pX h
   cases pX h'
   simp only[Qh]at p
   cases z:C i j with
   | false=>simp only[z,Bool.false_eq_true,if_false]at p;exact p.elim
   | true=>
    simp only[z,if_true]at p
    exact⟨i,j,rfl,rfl,hP i j z,p ι _ H .refl R (hg _ _ _ _ _ _)⟩
  | _=>exact p.elim
 | _=>cases d'<;>exact p.elim
def C1:Int->Int->Bool:=λ_ _=>true
theorem afI(h:rI (λ_ _=>True) g x y H Q):YZ g x y H Q:=let⟨i,j,a,b,_,q⟩:=h;⟨i,j,a,b,q⟩
theorem Lh.imp{K:Frag}{op:qe}{r r':R2}(h:Lh K ct op r)(i:∀x y H Q,r x y H Q->r' x y H Q):Lh K ct op r':=λι M H d d' v v' Q R a b p=>i _ _ _ _ (h ι M H d d' v v' Q R a b p)
theorem pJ(h:tE X f (YZ gv))(hg:∀(K:Frag) ι n H i j,DV K ct ι n H (g i j) (gv i j)):f9 X ct f (Qh C1 g):=
 ⟨_,h,Lh.imp (V6 (P:=λ_ _=>True) (λ_ _ _=>trivial) hg) λ_ _ _ _ q=>afI q⟩
theorem Fg{P:Int->Int->Prop}(h:tE X f (rI P gv))(hP:∀i j,C i j=true->P i j)(hg:∀(K:Frag) ι n H i j,DV K ct ι n H (g i j) (gv i j)):f9 X ct f (Qh C g):=
 ⟨_,h,V6 hP hg⟩
def uz(a b:qe):qe:=λd e M=>match a d e M with
 | .bad=>b d e M
 | o=>o
theorem Lh.or{K:Frag}{a b:qe}{r r':R2}(ha:Lh K ct a r)(hb:Lh K ct b r'):Lh K ct (uz a b) (λx y H Q=>r x y H Q\/r' x y H Q):=by
 intro w ι M H d d' v v' Q R q q' p
 unfold uz at p
 cases z:a d d' M with
 | ok x M1=>rw[z]at p;exact .inl (ha ι M H d d' v v' Q R q q' (by rw[z];exact p))
 | exc xc xd xM=>rw[z]at p;exact .inl (ha ι M H d d' v v' Q R q q' (by rw[z];exact p))
 | bad=>rw[z]at p;exact .inr (hb ι M H d d' v v' Q R q q' p)
theorem jg(h:a d e M= .ok x M'):uz a b d e M= .ok x M':=by unfold uz;rw[h]
theorem pA(h:a d e M= .bad):uz a b d e M=b d e M:=by unfold uz;rw[h]
theorem f9.or(ha:f9 X ct f a)(hb:f9 X ct f b):f9 X ct f (uz a b):=by
 obtain⟨r,h,hs⟩:=ha
 obtain⟨r',h',hs'⟩:=hb
 refine⟨_,h.or h',λι M H d d' v v' Q R q q' p=> ?_⟩
 unfold uz at p
 cases z:a d d' M with
 | ok x M1=>rw[z]at p;exact .inl (hs ι M H d d' v v' Q R q q' (by rw[z];exact p))
 | exc xc xd xM=>rw[z]at p;exact .inl (hs ι M H d d' v v' Q R q q' (by rw[z];exact p))
 | bad=>rw[z]at p;exact .inr (hs' ι M H d d' v v' Q R q q' p)
noncomputable def ahJ(i j:Int):Bool:=decide ((-(2 ^ 64)<i/\i<2 ^ 64)\/(-(2 ^ 64)<j/\j<2 ^ 64))
def ahK(_ j:Int):Bool:=decide (0<j/\j<1073741824)
def aky(_ j:Int):Bool:=decide (0<j)
def YJ(i j:Int):Bool:=decide (0<=j/\j<=1000000/\i.natAbs<2 ^ 64)
def aex:qe:=Qh C1 λi j=> .int (i+j)
def TX:qe:=Qh C1 λi j=> .int (i - j)
def Z8:qe:=Qh ahJ λi j=> .int (i*j)
def tu:qe:=Qh ahK λi j=> .int (i / j)
def j5:qe:=Qh aky λi j=> .int (i % j)
def NB:qe:=Qh YJ λi j=> .int (i ^ j.toNat)
def sZ:qe:=Qh YJ λi j=> .int (i*2 ^ j.toNat)
def Q6:qe:=Qh C1 λi j=> .int (Builtin.bitAnd i j)
def sOr:qe:=Qh C1 λi j=> .int (Builtin.bitOr i j)
def aiY:qe:=Qh C1 λi j=> .bl (decide (i<j))
def Jq:qe:=Qh C1 λi j=> .bl (decide (i<=j))
def Q4:qe:=Qh C1 λi j=> .bl (decide (j<i))
def acD:qe:=Qh C1 λi j=> .bl (decide (j<=i))
theorem ad6:f9 X ct (binaryOp .Add) aex:=pJ ags λ_ _ _ _ _ _=> .int _
theorem Kp:f9 X ct (binaryOp .Sub) TX:=pJ agf λ_ _ _ _ _ _=> .int _
theorem ad3:f9 X ct (binaryOp .Mult) Z8:=Fg agj (λi j h=>by unfold ahJ at h;exact(decide_eq_true_eq.mp h :)) λ_ _ _ _ _ _=> .int _
theorem sy:f9 X ct (binaryOp .FloorDiv) tu:=Fg ac7 (λi j h=>by unfold ahK at h;exact(decide_eq_true_eq.mp h :)) λ_ _ _ _ _ _=> .int _
theorem jT:f9 X ct (binaryOp .Mod) j5:=Fg agk (λ_ _ h=>of_decide_eq_true h) λ_ _ _ _ _ _=> .int _
theorem PB:f9 X ct (binaryOp .Pow) NB:=Fg agh (λi j h=>by unfold YJ at h;exact(decide_eq_true_eq.mp h :)) λ_ _ _ _ _ _=> .int _
theorem Gv:f9 X ct (binaryOp .LShift) sZ:=Fg agg (λi j h=>by unfold YJ at h;exact(decide_eq_true_eq.mp h :)) λ_ _ _ _ _ _=> .int _
theorem PJ:f9 X ct (binaryOp .BitAnd) Q6:=pJ agr λ_ _ _ _ _ _=> .int _
theorem ae3:f9 X ct (binaryOp .BitOr) sOr:=pJ ajs λ_ _ _ _ _ _=> .int _
theorem akv:f9 X ct (compareOp .Lt) aiY:=pJ ajt λ_ _ _ _ _ _=> .bl _
theorem Ff:f9 X ct (compareOp .LtE) Jq:=pJ aju λ_ _ _ _ _ _=> .bl _
theorem Mw:f9 X ct (compareOp .Gt) Q4:=pJ ajv λ_ _ _ _ _ _=> .bl _
theorem ae4:f9 X ct (compareOp .GtE) acD:=pJ ajw λ_ _ _ _ _ _=> .bl _
noncomputable def afD:qe:=λd e M=>match d,e with
 | .ref n,.ref m=>match M[n]?,M[m]? with
  | some (.lst xs),some (.lst ys)=>if xs.length+ys.length<=sizeLine then .ok (.ref M.length) (M++[.lst (xs++ys)])else .bad
  | _,_=> .bad
 | _,_=> .bad
theorem ahG:f9 X ct (binaryOp .Add) afD:=by
 refine⟨_,agq,λι M H d d' v v' Q R h h' p=> ?_⟩
 cases d with
 | ref n=>
  cases d' with
  | ref m=>
   obtain⟨_,rfl⟩:=kZ h
   obtain⟨_,rfl⟩:=kZ h'
   simp only[afD]at p
   split at p
   ·rename_i xs ys e1 e2
    split at p
    ·rename_i hz
     obtain⟨vs,q,r⟩:=R.obj n _ e1
     obtain⟨vs',q',r'⟩:=R.obj m _ e2
     exact⟨_,_,vs,vs',rfl,rfl,q,q',by rw[r.length,r'.length];exact hz,λpp hp=>o_ R (r.append r') hp p⟩
    ·exact p.elim
   ·exact p.elim
  | _=>exact p.elim
 | _=>cases d'<;>exact p.elim
noncomputable def aai:qe:=λd e M=>match d,e with
 | .str a,.str b=>if a.length+b.length<=sizeLine then .ok (.str (a++b)) M else .bad
 | _,_=> .bad
theorem ad5:f9 X ct (binaryOp .Add) aai:=by
 refine⟨_,Ub,λι M H d d' v v' Q R h h' p=> ?_⟩
 unfold aai at p
 split at p
 ·cases pW h
  cases pW h'
  split at p
  ·rename_i hz
   exact⟨_,_,rfl,rfl,hz,p ι _ H .refl R (.str _)⟩
  ·exact p.elim
 ·exact p.elim
noncomputable def Z7:qe:=λd e M=>match d,e with
 | .str a,.int n=>if a.length<=1000/\ -(2 ^ 62)<n/\n<=1000 then .ok (.str (PySem.Txt.mul a n)) M else .bad
 | _,_=> .bad
theorem ad2:f9 X ct (binaryOp .Mult) Z7:=by
 refine⟨_,Ua,λι M H d d' v v' Q R h h' p=> ?_⟩
 unfold Z7 at p
 split at p
 ·cases pW h
  cases pX h'
  split at p
  ·rename_i hz
   exact⟨_,_,rfl,rfl,mulOk_of hz.1 hz.2.1 hz.2.2,p ι _ H .refl R (.str _)⟩
  ·exact p.elim
 ·exact p.elim
def TY:qe:=uz Z8 Z7
theorem abK:f9 X ct (binaryOp .Mult) TY:=ad3.or ad2
noncomputable def LK:qe:=λd e M=>match d,e with
 | .tup xs,.tup ys=>if xs.isEmpty=false/\xs.length+ys.length<=sizeLine then .ok (.tup (xs++ys)) M else .bad
 | _,_=> .bad
theorem W7:f9 X ct (binaryOp .Add) LK:=by
 refine⟨_,ac8,λι M H d d' v v' Q R h h' p=> ?_⟩
 unfold LK at p
 split at p
 ·rename_i xs ys
  obtain⟨a,vs,rfl,ha,hd⟩:=kj h
  obtain⟨b,us,rfl,hb,hd'⟩:=kj h'
  split at p
  ·rename_i hz
   have l1:=hd.length
   have l2:=hd'.length
   refine⟨a,b,vs,us,rfl,rfl,lY.of ha,lY.of hb,λz=> ?_,(),λz=> ?_,λ_ pp hp=>Eb R (hd.append hd') hp p⟩
   ·rw[z]at l1
    have:=hz.1
    cases xs with
    | nil=>cases this
    | cons _ _=>simp at l1
   ·subst z
    have e:ys=[]:=List.length_eq_zero_iff.mp l2.symm
    subst e
    rw[List.append_nil]at p
    exact p ι _ H .refl R (.tup ha hd)
  ·exact p.elim
 ·exact p.elim
def oZ:qe:=uz (uz aex afD) (uz aai LK)
theorem jb:f9 X ct (binaryOp .Add) oZ:=(ad6.or ahG).or (ad5.or W7)
def afx:qe:=λd e M=>match d,e with
 | .str a,.str b=> .ok (.bl (decide (a.cps.toList<b.cps.toList))) M
 | _,_=> .bad
theorem ahB:f9 X ct (compareOp .Lt) afx:=by
 refine⟨_,XQ,λι M H d d' v v' Q R h h' p=> ?_⟩
 unfold afx at p
 split at p
 ·cases pW h
  cases pW h'
  exact⟨_,_,rfl,rfl,p ι _ H .refl R (.bl _)⟩
 ·exact p.elim
noncomputable def gU:List D->Option (List Int)
 | []=>some []
 | .int i::r=>(gU r).map (i:: ·)
 | _=>none
theorem lK{K:Frag}{ι:Nat->Addr}{n:Nat}{H:Hp}:∀{ds:List D} {is:List Int} {vs:List V},gU ds=some is->jm K ct ι n H ds vs->vs=is.map V.int
 | [],_,_,h,.nil=>by cases h;rfl
 | d::r,is,_,h,.cons q qs=>by
  cases q with
  | int i=>
   simp only[gU]at h
   obtain⟨js,h1,rfl⟩:=Option.map_eq_some_iff.mp h
   rw[lK h1 qs]
   rfl
  | _=>simp only[gU]at h;cases h
noncomputable def afw:qe:=λd e M=>match d,e with
 | .tup xs,.tup ys=>match gU xs,gU ys with
  | some is,some js=> .ok (.bl (HT.lexLt is js)) M
  | _,_=> .bad
 | _,_=> .bad
theorem ahA(hu:X.A.units+64<cLine):f9 X ct (compareOp .Lt) afw:=by
 refine⟨_,agl (),λι M H d d' v v' Q R h h' p=> ?_⟩
 unfold afw at p
 split at p
 ·obtain⟨a,vs,rfl,ha,hd⟩:=kj h
  obtain⟨b,us,rfl,hb,hd'⟩:=kj h'
  split at p
  ·rename_i is js e1 e2
   have x1:=lK e1 hd
   have x2:=lK e2 hd'
   subst x1 x2
   exact⟨a,b,is,js,rfl,rfl,lY.of ha,lY.of hb,p ι _ H .refl R (.bl _)⟩
  ·exact p.elim
 ·exact p.elim
def sLt:qe:=uz (uz aiY afx) afw
theorem Kq(hu:X.A.units+64<cLine):f9 X ct (compareOp .Lt) sLt:=(akv.or ahB).or (ahA hu)
def afv:D->Mem->Out D:=λd M=>match d with
 | .int i=> .ok (.int (-i)) M
 | _=> .bad
theorem afc:UnS X ct (unaryOp .USub) afv:=⟨_,afd,λι M H d v Q R h p=>by
 cases d with
 | int i=>cases pX h;exact⟨i,rfl,p ι _ H .refl R (.int _)⟩
 | _=>exact p.elim⟩
noncomputable def rG(f:D->Option Dt):List D->Option (List Dt)
 | []=>some []
 | d::ds=>match f d,rG f ds with
  | some t,some ts=>some (t::ts)
  | _,_=>none
noncomputable def fH(M:Mem):Nat->D->Option Dt
 | 0,_=>none
 | k+1,d=>match d with
  | .non=>some .non
  | .bl b=>some (.bl b)
  | .int i=>some (.int i)
  | .str x=>some (.str x)
  | .tup ds=>(rG (fH M k) ds).map .tup
  | .ref n=>match m6 M n with
   | some ds=>(rG (fH M k) ds).map .lst
   | none=>none
  | .cl ds=>(rG (fH M k) ds).map .lst
  | .ty _=>none
  | .cls _=>none
  | .exc _ _=>none
  | .mJ _=>none
theorem Il{K:Frag}{ι:Nat->Addr}{n:Nat}{H:Hp}{k:Nat}{f:D->Option Dt}(hf:∀d t v,f d=some t->DV K ct ι n H d v->Is K H v t/\dep t<=k):
  ∀{ds:List D} {ts:List Dt} {vs:List V},rG f ds=some ts->jm K ct ι n H ds vs->S9 K H vs ts/\deps ts<=k
 | [],ts,_,h,.nil=>by cases h;exact⟨.nil,by unfold deps;exact Nat.zero_le _⟩
 | d::ds,ts,_,h,.cons q qs=>by
  simp only[rG]at h
  cases z:f d with
  | none=>rw[z]at h;cases h
  | some t=>
   cases z2:rG f ds with
   | none=>rw[z,z2]at h;cases h
   | some ts'=>
    rw[z,z2]at h
    cases h
    obtain⟨a,b⟩:=hf d t _ z q
    obtain⟨a',b'⟩:=Il hf z2 qs
    exact⟨.cons a a',by unfold deps;exact Nat.max_le.mpr ⟨b,b'⟩⟩
theorem Dz{K:Frag}{ι:Nat->Addr}{M:Mem}{H:Hp}(R:Rl K ct ι M H):∀(k:Nat) (d:D) (t:Dt) (v:V),fH M k d=some t->DV K ct ι M.length H d v->Is K H v t/\dep t<=k
 | 0,d,t,v,h,_=>by simp only[fH]at h;cases h
 | k+1,d,t,v,h,q=>by
  cases q with
  | non=>simp only[fH]at h;cases h;exact⟨.non,by unfold dep;exact Nat.zero_le _⟩
  | bl b=>simp only[fH]at h;cases h;exact⟨.bl b,by unfold dep;exact Nat.zero_le _⟩
  | int b=>simp only[fH]at h;cases h;exact⟨.int b,by unfold dep;exact Nat.zero_le _⟩
  | str b=>simp only[fH]at h;cases h;exact⟨.str b,by unfold dep;exact Nat.zero_le _⟩
  | ty b=>simp only[fH]at h;cases h
  | cls b=>simp only[fH]at h;cases h
  | exc _ _ _=>simp only[fH]at h;cases h
  | mJ _ _=>simp only[fH]at h;cases h
  | @tup a xs ds hs hd=>
   simp only[fH]at h
   cases z:rG (fH M k) ds with
   | none=>rw[z]at h;cases h
   | some ts=>
    rw[z]at h
    cases h
    obtain⟨a,b⟩:=Il (λd t v=>Dz R k d t v) z hd
    exact⟨.tup (lY.of hs) a,by unfold dep;omega⟩
  | @ref i hi=>
   simp only[fH]at h
   cases z0:m6 M i with
   | none=>rw[z0]at h;cases h
   | some ds=>
    rw[z0]at h
    obtain⟨xs,hs,hd⟩:=R.obj i _ (jE.mp z0)
    cases z:rG (fH M k) ds with
    | none=>simp only[z]at h;cases h
    | some ts=>
     simp only[z]at h
     cases h
     obtain⟨a,b⟩:=Il (λd t v=>Dz R k d t v) z hd
     exact⟨.lst (qO.of hs) a,by unfold dep;omega⟩
  | @cl a xs ds hs hd=>
   simp only[fH]at h
   cases z:rG (fH M k) ds with
   | none=>rw[z]at h;cases h
   | some ts=>
    rw[z]at h
    cases h
    obtain⟨a,b⟩:=Il (λd t v=>Dz R k d t v) z hd
    exact⟨.lst hs.sq a,by unfold dep;omega⟩
def Qi(M:Mem)(d e:D):Option Bool:=match fH M 12 d,fH M 12 e with
 | some a,some b=>some (jl a b)
 | _,_=>none
def sEq:qe:=λd e M=>match Qi M d e with
 | some b=> .ok (.bl b) M
 | none=> .bad
def sNe:qe:=λd e M=>match Qi M d e with
 | some b=> .ok (.bl (!b)) M
 | none=> .bad
theorem abB{K:Frag}{ι:Nat->Addr}{M:Mem}{H:Hp}{d e:D}{v u:V}{b:Bool}(R:Rl K ct ι M H)(h:Qi M d e=some b)(q:DV K ct ι M.length H d v)(q':DV K ct ι M.length H e u):∃x y,Is K H v x/\Is K H u y/\dep x<=20/\b=jl x y:=by
 unfold Qi at h
 cases z:fH M 12 d with
 | none=>rw[z]at h;cases h
 | some x=>
  cases z2:fH M 12 e with
  | none=>rw[z,z2]at h;cases h
  | some y=>
   rw[z,z2]at h
   cases h
   obtain⟨a,c⟩:=Dz R 12 d x v z q
   obtain⟨a',_⟩:=Dz R 12 e y u z2 q'
   exact⟨x,y,a,a',(),rfl⟩
theorem d9(hu:X.A.units+64<cLine):f9 X ct (compareOp .Eq) sEq:=by
 refine⟨_,ago hu,λι M H d d' v v' Q R h h' p=> ?_⟩
 unfold sEq at p
 cases z:Qi M d d' with
 | none=>rw[z]at p;exact p.elim
 | some b=>
  rw[z]at p
  obtain⟨x,y,a,a',hd,rfl⟩:=abB R z h h'
  exact⟨x,y,a,a',hd,p ι _ H .refl R (.bl _)⟩
theorem su(hu:X.A.units+64<cLine):f9 X ct (compareOp .NotEq) sNe:=by
 refine⟨_,agi hu,λι M H d d' v v' Q R h h' p=> ?_⟩
 unfold sNe at p
 cases z:Qi M d d' with
 | none=>rw[z]at p;exact p.elim
 | some b=>
  rw[z]at p
  obtain⟨x,y,a,a',hd,rfl⟩:=abB R z h h'
  exact⟨x,y,a,a',hd,p ι _ H .refl R (.bl _)⟩
def Ml(d:D):Bool:=match d with
 | .non=>true
 | _=>false
theorem abg{K:Frag}{ι:Nat->Addr}{n:Nat}{H:Hp}{d:D}{v:V}(q:DV K ct ι n H d v):decide (v= .non)=Ml d:=by
 cases q<;>simp[Ml]
def sIs:qe:=λd e M=>match e with
 | .non=> .ok (.bl (Ml d)) M
 | _=> .bad
def CG:qe:=λd e M=>match e with
 | .non=> .ok (.bl (!Ml d)) M
 | _=> .bad
theorem Sw:f9 X ct (compareOp .Is) sIs:=by
 refine⟨_,agn,λι M H d d' v v' Q R h h' p=> ?_⟩
 cases h' with
 | non=>exact⟨rfl,p ι _ H .refl R (by rw[abg h];exact .bl _)⟩
 | _=>exact p.elim
theorem Av:f9 X ct (compareOp .IsNot) CG:=by
 refine⟨_,ac6,λι M H d d' v v' Q R h h' p=> ?_⟩
 cases h' with
 | non=>exact⟨rfl,p ι _ H .refl R (by rw[abg h];exact .bl _)⟩
 | _=>exact p.elim
theorem jm.Le{K:Frag}{ι:Nat->Addr}{n:Nat}{H:Hp}{ds:List D}{vs:List V}{i:Int}{d:D}(h:jm K ct ι n H ds vs)(e:L2.Le ds i=some d):∃v,L2.Le vs i=some v/\DV K ct ι n H d v:=by
 unfold L2.Le at*
 rw[h.length]
 cases z:ixN ds.length i with
 | none=>rw[z]at e;cases e
 | some j=>rw[z]at e;exact h.at e
variable{a b:Expr}{ma mb:ME}{pos:Pos}
section
variable{κ:Type}[DecidableEq κ]
noncomputable def pM(kvs:List (κ×D))(k:κ):Option D:=(kvs.find? λkv=>decide (kv.1=k)).map (·.2)
noncomputable def N5(kvs:List (κ×D))(k:κ)(d:D):List (κ×D):=if(kvs.any λkv=>decide (kv.1=k))=true then kvs.map (λkv=>if kv.1=k then(kv.1,d)else kv)else kvs++[(k,d)]
variable{K:Frag}{ι:Nat->Addr}{n:Nat}{H:Hp}
theorem u9.val:∀{kvs:List (κ×D)} {vs:List (κ×V)},u9 K ct ι n H kvs vs->∀k,(∀d,pM kvs k=some d->∃v,Bw vs k=some v/\DV K ct ι n H d v)/\(pM kvs k=none->Bw vs k=none)
 | _,_,.nil,k=>⟨λd h=>by simp[pM]at h,λ_=>rfl⟩
 | _,_,.cons (x:=x) (d:=d) (v:=v) (fs:=fs) h hs,k=>by
  by_cases e:x=k
  ·have e1:pM ((x,d)::fs) k=some d:=by simp[pM,e]
   rw[e1,Dr (p:=(x,v)) e]
   exact⟨λd' q=>by cases q;exact⟨_,rfl,h⟩,λq=>by cases q⟩
  ·have e1:pM ((x,d)::fs) k=pM fs k:=by simp[pM,e]
   rw[e1,Ds (p:=(x,v)) e]
   exact hs.val k
theorem u9.any:∀{kvs:List (κ×D)} {vs:List (κ×V)},u9 K ct ι n H kvs vs->∀k,(vs.any λkv=>decide (kv.1=k))=(kvs.any λkv=>decide (kv.1=k))
 | _,_,.nil,_=>rfl
 | _,_,.cons _ hs,k=>by simp only[List.any_cons,hs.any k]
theorem u9.repl(hd:DV K ct ι n H d v)(k:κ):∀{kvs:List (κ×D)} {vs:List (κ×V)},u9 K ct ι n H kvs vs->u9 K ct ι n H (kvs.map λkv=>if kv.1=k then(kv.1,d)else kv) (vs.map λkv=>if kv.1=k then(kv.1,v)else kv)
 | _,_,.nil=> .nil
 | _,_,.cons (x:=x) h hs=>by
  simp only[List.map_cons]
  by_cases e:x=k
  ·rw[if_pos e,if_pos e];exact .cons hd (hs.repl hd k)
  ·rw[if_neg e,if_neg e];exact .cons h (hs.repl hd k)
theorem u9.snoc(hd:DV K ct ι n H d v)(k:κ):∀{kvs:List (κ×D)} {vs:List (κ×V)},u9 K ct ι n H kvs vs->u9 K ct ι n H (kvs++[(k,d)]) (vs++[(k,v)])
 | _,_,.nil=> .cons hd .nil
 | _,_,.cons h hs=> .cons h (hs.snoc hd k)
theorem u9.put(h:u9 K ct ι n H kvs vs)(hd:DV K ct ι n H d v)(k:κ):u9 K ct ι n H (N5 kvs k d) (putK vs k v):=by
 unfold N5 putK
 rw[h.any k]
 split
 ·exact h.repl hd k
 ·exact h.snoc hd k
end
noncomputable def toKey:D->Option Key
 | .int i=>some (.inl i)
 | .str s=>some (.inr s)
 | _=>none
noncomputable def toKeys:List D->Option (List Key)
 | []=>some []
 | d::r=>match toKey d,toKeys r with
  | some k,some ks=>some (k::ks)
  | _,_=>none
section
variable{K:Frag}{ι:Nat->Addr}{n:Nat}{H:Hp}
theorem yS(h:toKey d=some k)(q:DV K ct ι n H d v):v=kV k:=by
 cases q<;>simp only[toKey]at h<;>cases h<;>rfl
theorem vg:∀{ds:List D} {ks:List Key} {vs:List V},toKeys ds=some ks->jm K ct ι n H ds vs->vs=ks.map kV
 | [],ks,_,h,.nil=>by cases h;rfl
 | d::r,ks,_,h,.cons q qs=>by
  simp only[toKeys]at h
  cases z:toKey d with
  | none=>rw[z]at h;cases h
  | some k=>
   cases z2:toKeys r with
   | none=>rw[z,z2]at h;cases h
   | some kr=>
    rw[z,z2]at h
    cases h
    rw[yS z q,vg z2 qs]
    rfl
end
noncomputable def yz(M:Mem)(n:Nat)(y:D):Option (Option D×Mem):=match M[n]? with
 | some (.dk kvs)=>match toKey y with
  | some k=>some (pM kvs k,M)
  | none=>match y with
   | .tup ds=>match toKeys ds with
    | some _=>if kvs.isEmpty=true then some (none,M.set n (.dt []))else none
    | none=>none
   | _=>none
 | some (.dt kvs)=>match y with
  | .tup ds=>match toKeys ds with
   | some k=>some (pM kvs k,M)
   | none=>none
  | _=>none
 | _=>none
theorem Ip{K:Frag}{ι:Nat->Addr}{M M':Mem}{H:Hp}{n:Nat}{y:D}{vy:V}{o:Option D}(R:Rl K ct ι M H)(h:yz M n y=some (o,M'))(hn:n<M.length)(q:DV K ct ι M.length H y vy):
  ∃ov H',Vh H (ι n) vy ov H'/\Ext K ι M.length H ι M'.length H'/\Rl K ct ι M' H'/\(∀d,o=some d->∃v,ov=some v/\DV K ct ι M'.length H' d v/\H'=H/\M'=M)/\(o=none->ov=none):=by
 unfold yz at h
 split at h
 ·rename_i kvs e
  obtain⟨vs,hH,pv⟩:=R.obj n _ e
  split at h
  ·rename_i k ek
   cases h
   have ey:=yS ek q
   subst ey
   refine⟨Bw vs k,H,.inl ⟨Dm.k hH,rfl⟩,.refl,R,λd hd=> ?_,λhd=>(pv.val k).2 hd⟩
   obtain⟨v,h1,h2⟩:=(pv.val k).1 d hd
   exact⟨v,h1,h2,rfl,rfl⟩
  ·split at h
   ·rename_i ds
    split at h
    ·rename_i ks eks
     split at h
     ·rename_i hem
      cases h
      have ek:kvs=[]:=List.isEmpty_iff.mp hem
      subst ek
      cases pv
      obtain⟨b,xs,rfl,hb,hd⟩:=kj q
      have ex:=vg eks hd
      subst ex
      have x2:Ext K ι M.length H ι M.length (upd H (ι n) (.dT [])):=Ext.chg hH (λ_ z=>nomatch z) (λ_ _ z=>nomatch z)
      refine⟨none,upd H (ι n) (.dT []),.inr ⟨hH,⟨ks,b,rfl,hb⟩,rfl,rfl⟩,by rw[List.length_set];exact x2,R.chg hn hH (λ_ z=>nomatch z) (λ_ _ z=>nomatch z) ⟨[],bw,.nil⟩,(λd hd=>nomatch hd),λ_=>rfl⟩
     ·cases h
    ·cases h
   ·cases h
 ·rename_i kvs e
  obtain⟨vs,hH,pv⟩:=R.obj n _ e
  split at h
  ·rename_i ds
   split at h
   ·rename_i ks eks
    cases h
    obtain⟨b,xs,rfl,hb,hd⟩:=kj q
    have ex:=vg eks hd
    subst ex
    refine⟨Bw vs ks,H,.inl ⟨Dm.t hH hb,rfl⟩,.refl,R,λd hd=> ?_,λhd=>(pv.val ks).2 hd⟩
    obtain⟨v,h1,h2⟩:=(pv.val ks).1 d hd
    exact⟨v,h1,h2,rfl,rfl⟩
   ·cases h
  ·cases h
 ·cases h
noncomputable def aab:qe:=λd y M=>match d with
 | .ref n=>match yz M n y with
  | some (some v,_)=> .ok v M
  | _=> .bad
 | _=> .bad
theorem agd{K:Frag}:Lh K ct aab afG:=by
 intro w ι M H d d' v v' Q R h h' p
 cases d with
 | ref n=>
  obtain⟨hn,rfl⟩:=kZ h
  simp only[aab]at p
  split at p
  ·rename_i x M' e
   obtain⟨ov,H',g,_,_,h1,_⟩:=Ip R e hn h'
   obtain⟨vx,rfl,dv,rfl,rfl⟩:=h1 x rfl
   rcases g with⟨g,_⟩ | ⟨_,_,z,_⟩
   ·exact⟨_,vx,rfl,g,p ι vx _ .refl R dv⟩
   ·cases z
  ·exact p.elim
 | _=>exact p.elim
noncomputable def KN:qe:=λd e M=>match e with
 | .int i=>match d with
  | .tup ds=>match L2.Le ds i with
   | some x=> .ok x M
   | none=> .bad
  | d=>match wD M d with
   | some ds=>match L2.Le ds i with
    | some x=> .ok x M
    | none=> .bad
   | none=> .bad
 | _=> .bad
theorem agb:Lh X.K ct KN (λx y H Q=>ajg X.K x y H Q\/aje X.K x y H Q):=by
 intro w ι M H d d' v v' Q R h h' p
 cases d' with
 | int i=>
  cases pX h'
  cases d with
  | tup ds=>
   obtain⟨aa,xs,rfl,hs,hd⟩:=Pb h
   simp only[KN]at p
   cases z:L2.Le ds i with
   | none=>rw[z]at p;exact p.elim
   | some x=>
    rw[z]at p
    obtain⟨v,e,dv⟩:=hd.Le z
    exact .inr ⟨_,_,_,_,rfl,rfl,hs,e,p ι v H .refl R dv⟩
  | _=>
   simp only[KN]at p
   split at p
   ·rename_i ds z0
    obtain⟨aa,xs,rfl,hs,hd⟩:=R.seq z0 h
    cases z:L2.Le ds i with
    | none=>rw[z]at p;exact p.elim
    | some x=>
     rw[z]at p
     obtain⟨v,e,dv⟩:=hd.Le z
     exact .inl ⟨_,_,_,_,rfl,rfl,hs,e,p ι v H .refl R dv⟩
   ·exact p.elim
 | _=>exact p.elim
def acB:qe:=λd e M=>match d,e with
 | .str z,.int i=>match L2.Le z.cps.toList i with
  | some c=>if z.length<=sizeLine then .ok (.str ⟨#[c]⟩) M else .bad
  | none=> .bad
 | _,_=> .bad
theorem aga{K:Frag}:Lh K ct acB ajf:=by
 intro w ι M H d d' v v' Q R h h' p
 unfold acB at p
 split at p
 ·rename_i z i
  cases pW h
  cases pX h'
  cases e:L2.Le z.cps.toList i with
  | none=>rw[e]at p;exact p.elim
  | some c=>
   rw[e]at p
   dsimp only at p
   split at p
   ·rename_i hz
    exact⟨z,i,c,rfl,rfl,hz,e,p ι _ H .refl R (.str _)⟩
   ·exact p.elim
 ·exact p.elim
def bf:qe:=uz (uz KN aab) acB
theorem aP(hu:X.A.units+64<cLine)(ha:SE X ct W a ma)(hb:SE X ct W b mb)(hs:Qc b:=by exact λ_ _=>rfl):SE X ct W (.Subscript a b pos) (aD bf ma mb):=
 dJ (aeB (((adD.or agQ).or (Wq ())).or agR) ha hb hs) λσ H Q q=>Jh (Lh.or (Lh.or agb agd) aga) q
noncomputable def Q3(neg:Bool):qe:=λy x M=>match x with
 | .ref n=>match yz M n y with
  | some (o,M')=> .ok (.bl (if neg=true then !o.isSome else o.isSome)) M'
  | none=> .bad
 | _=> .bad
theorem aaS{K:Frag}{neg:Bool}:Lh K ct (Q3 neg) (afK neg):=by
 intro w ι M H d d' v v' Q R h h' p
 cases d' with
 | ref n=>
  obtain⟨hn,rfl⟩:=kZ h'
  simp only[Q3]at p
  cases e:yz M n d with
  | none=>rw[e]at p;exact p.elim
  | some oM=>
   obtain⟨o,M'⟩:=oM
   rw[e]at p
   obtain⟨ov,H',g,x,R',h1,h2⟩:=Ip R e hn h
   have es:ov.isSome=o.isSome:=by
    cases o with
    | none=>rw[h2 rfl];rfl
    | some d=>obtain⟨v,rfl,_⟩:=h1 d rfl;rfl
   exact⟨_,ov,H',rfl,g,by rw[es];exact p ι _ H' x R' (.bl _)⟩
 | _=>cases d<;>exact p.elim
noncomputable def Qt:D->Option V
 | .non=>some .non
 | .bl b=>some (.bl b)
 | .int i=>some (.int i)
 | .str s=>some (.str s)
 | _=>none
noncomputable def Nj:List D->Option (List V)
 | []=>some []
 | d::r=>match Qt d,Nj r with
  | some v,some vs=>some (v::vs)
  | _,_=>none
theorem Vq{K:Frag}{ι:Nat->Addr}{n:Nat}{H:Hp}{d:D}{u v:V}(h:Qt d=some u)(q:DV K ct ι n H d v):v=u/\Cr u=true:=by
 cases q<;>simp only[Qt]at h<;>cases h<;>exact⟨rfl,rfl⟩
theorem Vp{K:Frag}{ι:Nat->Addr}{n:Nat}{H:Hp}:∀{ds:List D} {us vs:List V},Nj ds=some us->jm K ct ι n H ds vs->vs=us/\us.all Cr=true
 | [],_,_,h,.nil=>by cases h;exact⟨rfl,rfl⟩
 | d::r,us,_,h,.cons q qs=>by
  simp only[Nj]at h
  cases z:Qt d with
  | none=>rw[z]at h;cases h
  | some u=>
   cases z2:Nj r with
   | none=>rw[z,z2]at h;cases h
   | some ur=>
    rw[z,z2]at h
    cases h
    obtain⟨rfl,f1⟩:=Vq z q
    obtain⟨rfl,f2⟩:=Vp z2 qs
    exact⟨rfl,by simp[f1,f2]⟩
theorem ahF(hu:X.A.units+64<cLine):f9 X ct (compareOp .In) (Q3 false):=⟨_,agp (),aaS⟩
theorem YG(hu:X.A.units+64<cLine):f9 X ct (compareOp .NotIn) (Q3 true):=⟨_,XX (),aaS⟩
def cut{α:Type}(xs:List α)(lo hi:Option Int):List α:=(xs.drop (HT.bf xs.length 0 lo)).take (HT.bf xs.length xs.length hi - HT.bf xs.length 0 lo)
theorem jm.cut{K:Frag}{ι:Nat->Addr}{n:Nat}{H:Hp}{ds:List D}{vs:List V}(h:jm K ct ι n H ds vs)(lo hi:Option Int):jm K ct ι n H (S.cut ds lo hi) (R9 vs lo hi):=by
 unfold S.cut R9
 rw[h.length]
 exact(h.drop _).take _
abbrev MO':=Sl->Mem->Out (Option Int)
def amx:(Nat->Addr)->Mem->Hp->Option Int->Option Int->Prop:=λ_ _ _ a b=>a=b
def SO(X:Cx)(ct:Nat->Addr)(W:a_)(e:Option Expr)(m:MO'):Prop:=PO X e (tG amx X.K ct W m)
def asI(d:D)(M:Mem):Out (Option Int):=match d with
 | .int i=> .ok (some i) M
 | _=> .bad
def mz:MO':=λ_ M=> .ok none M
def zZ(m:ME):MO':=λe M=>(m e M).bind asI
theorem qK:SO X ct W none mz:=λpins s σ H Q I ⟨ι,e,M,w,p⟩=>acZ pins s σ H Q I (p ι none H .refl w.rl rfl)
theorem qJ(h:SE X ct W a ma):SO X ct W (some a) (zZ ma):=λpins s σ H Q I q=>acY h pins s σ H Q I (by
 obtain⟨ι,e,M,w,p⟩:=bH (dm:=cP X.K ct) (f:=λd _ M1=>asI d M1) q
 refine⟨ι,e,M,w,p.mono ?_⟩
 rintro v H1 ⟨bV,e1,M1,d,w1,q1,p1⟩
 cases q1 with
 | int i=>exact⟨i,rfl,p1 bV _ H1 .refl w1.rl rfl⟩
 | _=>exact p1.elim)
noncomputable def Xu(d:D)(lo hi:Option Int)(M:Mem):Out D:=match d with
 | .tup ds=>if HT.bf ds.length 0 lo=0/\HT.bf ds.length ds.length hi=ds.length then .bad else .ok (.tup (cut ds lo hi)) M
 | .str u=>if u.length<=sizeLine then .ok (.str (Txt.slice u lo hi)) M else .bad
 | d=>match wD M d with
  | some ds=> .ok (.ref M.length) (M++[.lst (cut ds lo hi)])
  | none=> .bad
noncomputable def mSl(m:ME)(lo hi:MO'):ME:=λe M=>(m e M).bind λd M1=>(lo e M1).bind λl M2=>(hi e M2).bind λh M3=>Xu d l h M3
theorem QH{lo hi:Option Expr}{ml mh:MO'}(ha:SE X ct W a ma)(hl:SO X ct W lo ml)(hh:SO X ct W hi mh):SE X ct W (.Subscript a (.Slice lo hi none p2) pos) (mSl ma ml mh):=by
 refine dJ (Rc ((acp.or ZW).or afp) ha hl hh) λσ H Q q=> ?_
 obtain⟨ι,e,M,w,p⟩:=bH (dm:=cP X.K ct) (f:=λd e M1=>(ml e M1).bind λl M2=>(mh e M2).bind λh M3=>Xu d l h M3) q
 refine⟨ι,e,M,w,p.mono ?_⟩
 rintro v H1 ⟨bV,e1,M1,d,w1,q1,p1⟩
 refine⟨bV,e1,M1,w1,?_⟩
 cases z:ml e1 M1 with
 | bad=>simp only[z,Out.cL]at p1;exact p1
 | exc xc xd xM=>simp only[z,Out.d_]at p1;exact p1
 | ok l M2=>
  simp only[z,Out.bC]at p1
  intro gQ l' H2 x2 r2 el
  have Ld:l=l':=el;subst Ld
  refine⟨gQ,e1,M2,w1.ext x2 r2,?_⟩
  have p2:=p1.ext x2
  cases z2:mh e1 M2 with
  | bad=>simp only[z2,Out.cL]at p2;exact p2
  | exc xc xd xM=>simp only[z2,Out.d_]at p2;exact p2
  | ok h M3=>
   simp only[z2,Out.bC]at p2
   intro Dq h' H3 x3 r3 eh
   have Ld:h=h':=eh;subst Ld
   have p3:=p2.ext x3
   have q3:=(q1.mono x2).mono x3
   cases d with
   | tup ds=>
    obtain⟨aa,xs,rfl,hs,hd⟩:=Pb q3
    simp only[Xu]at p3
    split at p3
    ·exact p3.elim
    ·rename_i hw
     exact .inl (.inr ⟨_,_,rfl,hs,by rw[hd.length];exact hw,λpp hp=>Eb r3 (hd.cut l h) hp p3⟩)
   | str u=>
    cases pW q3
    simp only[Xu]at p3
    split at p3
    ·rename_i hz
     exact .inr ⟨u,rfl,hz,p3 Dq _ H3 .refl r3 (.str _)⟩
    ·exact p3.elim
   | _=>
    simp only[Xu]at p3
    split at p3
    ·rename_i ds z0
     obtain⟨aa,xs,rfl,hs,hd⟩:=r3.seq z0 q3
     exact .inl (.inl ⟨_,_,rfl,hs,λpp hp=>o_ r3 (hd.cut l h) hp p3⟩)
    ·exact p3.elim
theorem Gk{K:Frag}{ι:Nat->Addr}{n:Nat}{H:Hp}{d:D}{vs:List V}(h:jm K ct ι n H [d] vs):∃v,vs=[v]/\DV K ct ι n H d v:=by
 cases h with | cons a b=>cases b;exact⟨_,rfl,a⟩
theorem akm{K:Frag}{ι:Nat->Addr}{n:Nat}{H:Hp}{d d':D}{vs:List V}(h:jm K ct ι n H [d,d'] vs):∃v v',vs=[v,v']/\DV K ct ι n H d v/\DV K ct ι n H d' v':=by
 cases h with | cons a b=>obtain⟨v,rfl,q⟩:=Gk b;exact⟨_,_,rfl,a,q⟩
noncomputable def vp(M:Mem)(d:D):Option (List D):=match d with
 | .tup ds=>some ds
 | .mJ ds=>some ds
 | d=>wD M d
theorem Rl.seqs{K:Frag}{ι:Nat->Addr}{M:Mem}{H:Hp}(R:Rl K ct ι M H){d:D}{v:V}{ds:List D}(h:vp M d=some ds)(q:DV K ct ι M.length H d v):∃a xs,v= .ref a/\(qO K H a xs\/lY K H a xs)/\jm K ct ι M.length H ds xs:=by
 cases d with
 | tup es=>cases h;obtain⟨a,xs,e,hs,hd⟩:=Pb q;exact⟨a,xs,e,.inr hs,hd⟩
 | mJ es=>cases h;cases q with | mJ h1 h2=>exact⟨_,_,rfl,.inr (.inr h1),h2⟩
 | _=>simp only[vp]at h;obtain⟨a,xs,e,hs,hd⟩:=R.seq h q;exact⟨a,xs,e,.inl hs,hd⟩
noncomputable def QZ:Qd:=λds M=>match ds with
 | [d]=>match vp M d with
  | some es=> .ok (.int es.length) M
  | none=> .bad
 | _=> .bad
theorem adY:pL X ct (.builtin "len") QZ:=by
 refine⟨_,Px,λι M H ds vs Q R h p=> ?_⟩
 unfold QZ at p
 split at p
 ·rename_i d
  obtain⟨v,rfl,q⟩:=Gk h
  cases z:vp M d with
  | none=>rw[z]at p;exact p.elim
  | some es=>
   rw[z]at p
   obtain⟨a,xs,rfl,hs,hd⟩:=R.seqs z q
   exact⟨_,xs,rfl,hs,p ι _ H .refl R (by rw[hd.length];exact .int _)⟩
 ·exact p.elim
def orN(a b:Qd):Qd:=λds M=>match a ds M with
 | .bad=>b ds M
 | o=>o
theorem pL.or{f:Value}{a b:Qd}(ha:pL X ct f a)(hb:pL X ct f b):pL X ct f (orN a b):=by
 obtain⟨r,h,hs⟩:=ha
 obtain⟨r',h',hs'⟩:=hb
 refine⟨_,h.or h',λι M H ds vs Q R q p=> ?_⟩
 unfold orN at p
 cases z:a ds M with
 | ok x M1=>rw[z]at p;exact .inl (hs ι M H ds vs Q R q (by rw[z];exact p))
 | exc xc xd xM=>rw[z]at p;exact .inl (hs ι M H ds vs Q R q (by rw[z];exact p))
 | bad=>rw[z]at p;exact .inr (hs' ι M H ds vs Q R q p)
theorem T_{a b:Qd}{ds:List D}{x:D}{M M':Mem}(h:a ds M= .ok x M'):orN a b ds M= .ok x M':=by unfold orN;rw[h]
theorem ac5{a b:Qd}{ds:List D}{M:Mem}(h:a ds M= .bad):orN a b ds M=b ds M:=by unfold orN;rw[h]
noncomputable def VB:Qd:=λds M=>match ds with
 | [.ref n]=>match M[n]? with
  | some (.dk kvs)=> .ok (.int kvs.length) M
  | some (.dt kvs)=> .ok (.int kvs.length) M
  | _=> .bad
 | _=> .bad
theorem adZ:pL X ct (.builtin "len") VB:=by
 refine⟨_,YC.or YB,λι M H ds vs Q R h p=> ?_⟩
 unfold VB at p
 split at p
 ·rename_i n
  obtain⟨v,rfl,q⟩:=Gk h
  obtain⟨hn,rfl⟩:=kZ q
  split at p
  ·rename_i kvs e
   obtain⟨ys,hH,pv⟩:=R.obj n _ e
   exact .inl ⟨_,ys,rfl,hH,by rw[pv.length];exact p ι _ H .refl R (.int _)⟩
  ·rename_i kvs e
   obtain⟨ys,hH,pv⟩:=R.obj n _ e
   exact .inr ⟨_,ys,rfl,hH,by rw[pv.length];exact p ι _ H .refl R (.int _)⟩
  ·exact p.elim
 ·exact p.elim
noncomputable def T4(neg:Bool):qe:=λy x M=>match Qt y,vp M x with
 | some v,some ds=>match Nj ds with
  | some vs=> .ok (.bl (if neg=true then !inV v vs else inV v vs)) M
  | none=> .bad
 | _,_=> .bad
theorem aaR{K:Frag}{neg:Bool}:Lh K ct (T4 neg) (rIn K neg):=by
 intro w ι M H d d' v v' Q R h h' p
 unfold T4 at p
 split at p
 ·rename_i u ds e1 e2
  obtain⟨rfl,f1⟩:=Vq e1 h
  obtain⟨a,xs,rfl,hs,hd⟩:=R.seqs e2 h'
  cases e3:Nj ds with
  | none=>rw[e3]at p;exact p.elim
  | some us=>
   rw[e3]at p
   obtain⟨rfl,f2⟩:=Vp e3 hd
   exact⟨a,_,rfl,hs,f1,f2,p ι _ H .refl R (.bl _)⟩
 ·exact p.elim
def sIn:qe:=uz (Q3 false) (T4 false)
def Jo:qe:=uz (Q3 true) (T4 true)
theorem W6(hu:X.A.units+64<cLine):f9 X ct (compareOp .In) sIn:=(ahF hu).or ⟨_,XS,aaR⟩
theorem Sv(hu:X.A.units+64<cLine):f9 X ct (compareOp .NotIn) Jo:=(YG hu).or ⟨_,N7,aaR⟩
noncomputable def Z9:Qd:=λds M=>match ds with
 | [.str z]=>if z.length<=sizeLine then .ok (.int z.length) M else .bad
 | _=> .bad
theorem adX:pL X ct (.builtin "len") Z9:=by
 refine⟨_,Pu,λι M H ds vs Q R h p=> ?_⟩
 unfold Z9 at p
 split at p
 ·obtain⟨v,rfl,q⟩:=Gk h
  cases pW q
  split at p
  ·rename_i hz
   exact⟨_,rfl,hz,p ι _ H .refl R (.int _)⟩
  ·exact p.elim
 ·exact p.elim
def jj:Qd:=orN (orN QZ VB) Z9
theorem iM:pL X ct (.builtin "len") jj:=(adY.or adZ).or adX
noncomputable def Jp:Qd:=λds M=>match ds with
 | [.int i,.int j]=> .ok (.int (if j > i then j else i)) M
 | _=> .bad
def Vz:Qd:=λds M=>match ds with
 | [.int i,.int j]=> .ok (.int (if j<i then j else i)) M
 | _=> .bad
theorem Ir(hc:X.calm=true):pL X ct (.builtin "max") Jp:=by
 refine⟨_,Yz hc,λι M H ds vs Q R h p=> ?_⟩
 unfold Jp at p
 split at p
 ·obtain⟨v,v',rfl,q,q'⟩:=akm h
  cases pX q
  cases pX q'
  exact⟨_,_,rfl,p ι _ H .refl R (.int _)⟩
 ·exact p.elim
theorem adW(hc:X.calm=true):pL X ct (.builtin "min") Vz:=by
 refine⟨_,Yy hc,λι M H ds vs Q R h p=> ?_⟩
 unfold Vz at p
 split at p
 ·obtain⟨v,v',rfl,q,q'⟩:=akm h
  cases pX q
  cases pX q'
  exact⟨_,_,rfl,p ι _ H .refl R (.int _)⟩
 ·exact p.elim
def Ca:Qd:=λds M=>match ds with
 | [d]=>match vp M d with
  | some es=> .ok (.ref M.length) (M++[.lst es])
  | none=> .bad
 | _=> .bad
theorem Pj:pL X ct (.type "list") Ca:=by
 refine⟨_,Pr,λι M H ds vs Q R h p=> ?_⟩
 unfold Ca at p
 split at p
 ·rename_i d
  obtain⟨v,rfl,q⟩:=Gk h
  cases z:vp M d with
  | none=>rw[z]at p;exact p.elim
  | some es=>
   rw[z]at p
   obtain⟨a,xs,rfl,hs,hd⟩:=R.seqs z q
   exact⟨_,xs,rfl,hs,λpp hp=>o_ R hd hp p⟩
 ·exact p.elim
def MtS(X:Cx)(ct:Nat->Addr)(T id:String)(op:D->List D->Mem->Out D):Prop:=∃r,MtR X id r/\∀{w:XW} ι M H d ds v vs Q,Rl X.K ct ι M H->DV X.K ct ι M.length H d v->jm X.K ct ι M.length H ds vs->iV (cP X.K ct) X.K ct w ι M.length H (op d ds M) Q->r v vs H Q
noncomputable def Xi(T:String)(d:D)(M:Mem):Bool:=match d with
 | .int _=>T== "int"
 | .str _=>T== "str"
 | .ref n=>T== "list" && (m6 M n).isSome
 | _=>false
theorem Zm{K:Frag}{ι:Nat->Addr}{M:Mem}{H:Hp}{T:String}{d:D}{v:V}(R:Rl K ct ι M H)(h:Xi T d M=true)(q:DV K ct ι M.length H d v):tyV K T v H:=by
 cases q with
 | int i=>exact beq_iff_eq.mp h
 | str i=>exact beq_iff_eq.mp h
 | @ref i hi=>
  simp only[Xi,Bool.and_eq_true,beq_iff_eq]at h
  obtain⟨e,h2⟩:=h
  obtain⟨ds,z⟩:=Option.isSome_iff_exists.mp h2
  obtain⟨xs,hs,_⟩:=R.obj i _ (jE.mp z)
  exact .inl ⟨e,xs,qO.of hs⟩
 | _=>exact absurd h xA
noncomputable def mBM(T:String)(op:D->List D->Mem->Out D)(mo:ME)(ms:MA):ME:=λe M=>(mo e M).bind λd M1=>if Xi T d M1=true then(ms e M1).bind λds M2=>op d ds M2 else .bad
variable{o:Expr}{es:List Expr}{mo:ME}{ms:MA}{name:Str}{apos cpos:Pos}{T id:String}{op:D->List D->Mem->Out D}
theorem aft(pa:PlainAttrs T)(slot:Slot T name id)(hty:typeOf (.builtin id)=pure (.type "method_descriptor"))(hm:MtS X ct T id op)(ho:SE X ct W o mo)
  (hbase:attributeBase o name X.env (eval o X.env)=eval o X.env:=by rfl) (hline:(apos.endLine==cpos.line)=true:=by rfl):SE X ct W (.Call (.Attribute o name apos) [] [] cpos) (mBM T op mo aF):=by
 obtain⟨r,hr,hs⟩:=hm
 refine dJ (aaN pa slot hty hr ho hbase hline) λσ H Q q=> ?_
 obtain⟨ι,e,M,w,p⟩:=bH (dm:=cP X.K ct) (f:=λd e M1=>if Xi T d M1=true then(aF e M1).bind λds M2=>op d ds M2 else .bad) q
 refine⟨ι,e,M,w,p.mono ?_⟩
 rintro v H1 ⟨bV,e1,M1,d,w1,q1,p1⟩
 cases z:Xi T d M1 with
 | false=>simp only[z,Bool.false_eq_true,if_false]at p1;exact p1.elim
 | true=>
  simp only[z,if_true,aF,Out.bC]at p1
  exact⟨Zm w1.rl z q1,hs bV M1 H1 d [] v [] Q w1.rl q1 .nil p1⟩
theorem aet(pa:PlainAttrs T)(slot:Slot T name id)(hty:typeOf (.builtin id)=pure (.type "method_descriptor"))(hm:MtS X ct T id op)(ho:SE X ct W o mo)(ha:SA X ct W (a::es) ms)
  (hbase:attributeBase o name X.env (eval o X.env)=eval o X.env:=by rfl)
  (hfew:((backTo cpos (starEach (a::es) X.env)).all (λx=> !x.1)&&(backToKw cpos (keywordEach [] X.env)).all (λx=>x.1.isSome)
   && decide ((a::es).length+([]:List Keyword).length+(if([]:List Keyword).isEmpty then 0 else 1)<30))=true:=by rfl)
  (hline:(apos.endLine==cpos.line)=true:=by rfl) (hs:starEach (a::es) X.env=(false,eval a X.env)::starEach es X.env:=by rfl) (hplain:(backTo cpos (starEach es X.env)).any (·.1)=false:=by rfl):
  SE X ct W (.Call (.Attribute o name apos) (a::es) [] cpos) (mBM T op mo ms):=by
 obtain⟨r,hr,hss⟩:=hm
 refine dJ (ajq pa slot hty hr ho ha hbase hfew hline hs hplain) λσ H Q q=> ?_
 obtain⟨ι,e,M,w,p⟩:=bH (dm:=cP X.K ct) (f:=λd e M1=>if Xi T d M1=true then(ms e M1).bind λds M2=>op d ds M2 else .bad) q
 refine⟨ι,e,M,w,p.mono ?_⟩
 rintro v H1 ⟨bV,e1,M1,d,w1,q1,p1⟩
 cases z:Xi T d M1 with
 | false=>simp only[z,Bool.false_eq_true,if_false]at p1;exact p1.elim
 | true=>
  simp only[z,if_true]at p1
  refine⟨Zm w1.rl z q1,bV,e1,M1,w1,?_⟩
  cases z2:ms e1 M1 with
  | bad=>simp only[z2,Out.cL]at p1;exact p1
  | exc xc xd xM=>simp only[z2,Out.d_]at p1;exact p1
  | ok ds M2=>
   simp only[z2,Out.bC]at p1
   exact λgQ vs H2 x2 r2 q2=>hss gQ M2 H2 d ds v vs Q r2 (q1.mono x2) q2 (p1.ext x2)
noncomputable def wH:D->List D->Mem->Out D:=λd ds M=>match d,ds with
 | .ref n,[x]=>match M[n]? with
  | some (.lst es)=>if es.length<sizeLine then .ok .non (M.set n (.lst (es++[x])))else .bad
  | _=> .bad
 | _,_=> .bad
theorem X8:MtS X ct "list" "list.append" wH:=by
 refine⟨_,X7,λι M H d ds v vs Q R q qs p=> ?_⟩
 unfold wH at p
 split at p
 ·rename_i n x
  obtain⟨hn,rfl⟩:=kZ q
  obtain⟨y,rfl,qy⟩:=Gk qs
  split at p
  ·rename_i es e1
   split at p
   ·rename_i hz
    obtain⟨xs,hH,hd⟩:=R.obj n _ e1
    have x2:Ext X.K ι M.length H ι M.length (upd H (ι n) (.lst (xs++[y]))):=Ext.chg hH (λ_ z=>nomatch z) (λ_ _ z=>nomatch z)
    refine⟨_,xs,y,rfl,rfl,hH,by rw[hd.length];exact hz,?_⟩
    refine p ι .non _ (by rw[List.length_set];exact x2) (R.chg hn hH (λ_ z=>nomatch z) (λ_ _ z=>nomatch z) ⟨_,bw,(hd.append (.cons qy .nil)).mono x2⟩) .non
   ·exact p.elim
  ·exact p.elim
 ·exact p.elim
def VD:D->List D->Mem->Out D:=λd ds M=>match d,ds with
 | .int i,[]=> .ok (.int (Builtin.Int.intBits i:Nat)) M
 | _,_=> .bad
theorem adk:MtS X ct "int" "int.bit_length" VD:=by
 refine⟨_,adi,λι M H d ds v vs Q R q qs p=> ?_⟩
 unfold VD at p
 split at p
 ·cases pX q
  cases qs
  exact⟨_,rfl,rfl,p ι _ H .refl R (.int _)⟩
 ·exact p.elim
end
inductive gh where
 | next (e:Sl) (M:Mem) | ret (d:D) (M:Mem) | brk (e:Sl) (M:Mem) | cont (e:Sl) (M:Mem) | exc (c:Nat) (d:D) (e:Sl) (M:Mem) | bad
abbrev MS:=Sl->Mem->gh
def pK(K:Frag)(ct:Nat->Addr)(W:a_)(ι:Nat->Addr)(n:Nat)(H:Hp)(o:gh)(T:Ends):Prop:=match o with
 | .next e M=>∀ι' σ' H',Ext K ι n H ι' M.length H'->Ws K ct ι' e M σ' H'->T.nx σ' H'
 | .ret d M=>∀ι' v H',Ext K ι n H ι' M.length H'->Rl K ct ι' M H'->DV K ct ι' M.length H' d v->T.rt v H'
 | .brk e M=>∀ι' σ' H',Ext K ι n H ι' M.length H'->Ws K ct ι' e M σ' H'->T.bk σ' H'
 | .cont e M=>∀ι' σ' H',Ext K ι n H ι' M.length H'->Ws K ct ι' e M σ' H'->T.ct σ' H'
 | .exc c d e M=>∀ι' σ' dx v H',Ext K ι n H ι' M.length H'->Ws K ct ι' e M σ' H'->H' dx=some (.xd [("at",v)])->DV K ct ι' M.length H' d v->W (ct c) dx σ' H'
 | .bad=>False
def tS(K:Frag)(ct:Nat->Addr)(W:a_)(m:MS):TS:=λT σ H=>∃ι e M,Ws K ct ι e M σ H/\pK K ct W ι M.length H (m e M) T
def SS(X:Cx)(ct:Nat->Addr)(W:a_)(st:Stmt)(m:MS):Prop:=PS X st (tS X.K ct W m)
def YS(X:Cx)(ct:Nat->Addr)(W:a_)(st:List Stmt)(m:MS):Prop:=HY X st (tS X.K ct W m)
theorem pK.ext{K:Frag}{ct ι ι':Nat->Addr}{W:a_}{n n':Nat}{H H':Hp}{o:gh}{T:Ends}(h:pK K ct W ι n H o T)(x:Ext K ι n H ι' n' H'):pK K ct W ι' n' H' o T:=by
 cases o with
 | next e M=>exact λgQ b H2 x2 w=>h gQ b H2 (x.trans x2) w
 | ret d M=>exact λgQ b H2 x2 r q=>h gQ b H2 (x.trans x2) r q
 | brk e M=>exact λgQ b H2 x2 w=>h gQ b H2 (x.trans x2) w
 | cont e M=>exact λgQ b H2 x2 w=>h gQ b H2 (x.trans x2) w
 | exc c d e M=>exact λgQ b dx v H2 x2 w q1 q2=>h gQ b dx v H2 (x.trans x2) w q1 q2
 | bad=>exact h
def tW{α:Type}(e:Sl)(o:Out α)(f:α->Mem->gh):gh:=match o with
 | .ok a M=>f a M
 | .exc c d M=> .exc c d e M
 | .bad=> .bad
@[simp] theorem Ge{α:Type}(e:Sl)(a:α)(M:Mem)(f:α->Mem->gh):tW e (.ok a M) f=f a M:=id rfl
@[simp] theorem Ij{α:Type}(e:Sl)(c:Nat)(d:D)(M:Mem)(f:α->Mem->gh):tW e (.exc c d M:Out α) f= .exc c d e M:=id rfl
@[simp] theorem Ik{α:Type}(e:Sl)(f:α->Mem->gh):tW e (.bad:Out α) f= .bad:=id rfl
theorem qI{α β:Type}{rel:(Nat->Addr)->Mem->Hp->α->β->Prop}{K:Frag}{ct:Nat->Addr}{W:a_}{m:Sl->Mem->Out α}{f:α->Sl->Mem->gh}{σ:St}{H:Hp}{T:Ends}
  (h:tS K ct W (λe M=>tW e (m e M) λa M1=>f a e M1) T σ H):tG rel K ct W m σ H (λb H1=>∃ι e M a,Ws K ct ι e M σ H1/\rel ι M H1 a b/\pK K ct W ι M.length H1 (f a e M) T):=by
 obtain⟨ι,e,M,w,p⟩:=h
 refine⟨ι,e,M,w,?_⟩
 cases z:m e M with
 | bad=>simp only[z,Ik]at p;exact p
 | exc xc xd xM=>simp only[z,Ij]at p;exact λbV dx v H1 x r q1 q2=>p bV σ dx v H1 x (w.ext x r) q1 q2
 | ok a M1=>
  simp only[z,Ge]at p
  exact λbV b H1 x r q=>⟨bV,e,M1,a,w.ext x r,q,p.ext x⟩
section
variable{X:Cx}{ct:Nat->Addr}{W:a_}{st:Stmt}{rest:List Stmt}{s t:MS}{a:Expr}{ma:ME}{pos:Pos}
theorem PS.imp{st:Stmt}{t t':TS}(h:PS X st t)(hi:∀T σ H,t' T σ H->t T σ H):PS X st t':=λpins s σ H T I q=>h pins s σ H T I (hi T σ H q)
theorem HY.imp{st:List Stmt}{t t':TS}(h:HY X st t)(hi:∀T σ H,t' T σ H->t T σ H):HY X st t':=λpins s σ H T I q=>h pins s σ H T I (hi T σ H q)
def bU:MS:=λe M=> .next e M
noncomputable def aO(s t:MS):MS:=λe M=>match s e M with
 | .next e' M'=>t e' M'
 | o=>o
theorem ZC(h:tS X.K ct W bU T σ H):aeo T σ H:=let⟨ι,_,_,w,p⟩:=h;p ι σ H .refl w
theorem bz:YS X ct W [] bU:=HY.imp acQ λT σ H q=>ZC q
theorem aA(h1:SS X ct W st s)(h2:YS X ct W rest t):YS X ct W (st::rest) (aO s t):=HY.imp (aaw h1 h2) λT σ H ⟨ι,e,M,w,p⟩=>by
 refine⟨ι,e,M,w,?_⟩
 unfold aO at p
 cases z:s e M with
 | next e' M'=>rw[z]at p;exact λι' σ' H' x w'=>⟨ι',e',M',w',p.ext x⟩
 | ret d M'=>rw[z]at p;exact p
 | brk d M'=>rw[z]at p;exact p
 | cont d M'=>rw[z]at p;exact p
 | exc c d e M'=>rw[z]at p;exact p
 | bad=>rw[z]at p;exact p
theorem aC(h1:SS X ct W st s):YS X ct W [st] s:=V0 h1
def NP:MS:=λ_ _=> .bad
theorem oJ:SS X ct W st NP:=λ_ _ _ _ _ _ ⟨_,_,_,_,p⟩=>p.elim
noncomputable def gZ(m:ME):MS:=λe M=>tW e (m e M) λ_ M1=> .next e M1
theorem dR(he:SE X ct W a ma)(hs:swapsWith a none pos.line X.env=pure false:=by rfl):SS X ct W (.Expr a pos) (gZ ma):=PS.imp (acV he hs) λT σ H q=>by
 obtain⟨ι,e,M,w,p⟩:=qI (rel:=cP X.K ct) (f:=λ_ e M1=> .next e M1) q
 exact⟨ι,e,M,w,p.mono λv H1 ⟨bV,e1,M1,d,w1,q1,p1⟩=>p1 bV σ H1 .refl w1⟩
noncomputable def bx(m:ME):MS:=λe M=>tW e (m e M) λd M1=> .ret d M1
theorem aJ(he:SE X ct W a ma):SS X ct W (.Return (some a) pos) (bx ma):=PS.imp (afR he) λT σ H q=>by
 obtain⟨ι,e,M,w,p⟩:=qI (rel:=cP X.K ct) (f:=λd e M1=> .ret d M1) q
 exact⟨ι,e,M,w,p.mono λv H1 ⟨bV,e1,M1,d,w1,q1,p1⟩=>p1 bV v H1 .refl w1.rl q1⟩
def Z6:MS:=λ_ M=> .ret .non M
theorem ack:SS X ct W (.Return none pos) Z6:=PS.imp acT λT σ H ⟨ι,_,_,w,p⟩=>p ι .non H .refl w.rl .non
noncomputable def nq(c:MT)(s t:MS):MS:=λe M=>tW e (c e M) λk M1=>if k=true then s e M1 else t e M1
theorem bN{b b':List Stmt}(hc:YQ X ct W c mc)(ha:YS X ct W b s)(hb:YS X ct W b' t):SS X ct W (.If c b b' pos) (nq mc s t):=PS.imp (ajl hc ha hb) λT σ H q=>by
 obtain⟨ι,e,M,w,p⟩:=qI (rel:=Hv) (f:=λk e M1=>if k=true then s e M1 else t e M1) q
 refine⟨ι,e,M,w,p.mono ?_⟩
 rintro k H1 ⟨bV,e1,M1,d,w1,q1,p1⟩
 have Ld:d=k:=q1;subst Ld
 cases d with
 | true=>exact⟨bV,e1,M1,w1,p1⟩
 | false=>exact⟨bV,e1,M1,w1,p1⟩
abbrev Tg:=D->Sl->Option Sl
abbrev Tgs:=List D->Sl->Option Sl
def ae5(K:Frag)(ct ι:Nat->Addr)(M:Mem)(H:Hp)(o:Option Sl)(Q:St->Hp->Prop):Prop:=match o with
 | some e'=>∀σ',Ws K ct ι e' M σ' H->Q σ' H
 | none=>False
def tT(K:Frag)(ct:Nat->Addr)(g:Tg):TG:=λv σ H Q=>∃ι e M d,Ws K ct ι e M σ H/\DV K ct ι M.length H d v/\ae5 K ct ι M H (g d e) Q
def tTs(K:Frag)(ct:Nat->Addr)(g:Tgs):TGs:=λvs σ H Q=>∃ι e M ds,Ws K ct ι e M σ H/\jm K ct ι M.length H ds vs/\ae5 K ct ι M H (g ds e) Q
def SG(X:Cx)(ct:Nat->Addr)(tg:Expr)(g:Tg):Prop:=PG X tg (tT X.K ct g)
def SGs(X:Cx)(ct:Nat->Addr)(tg:List Expr)(g:Tgs):Prop:=PGs X tg (tTs X.K ct g)
theorem PG.imp{tg:Expr}{t t':TG}(h:PG X tg t)(hi:∀v σ H Q,t' v σ H Q->t v σ H Q):PG X tg t':=λpins s σ H v u Q I r q=>h pins s σ H v u Q I r (hi v σ H Q q)
theorem PGs.imp{tg:List Expr}{t t':TGs}(h:PGs X tg t)(hi:∀v σ H Q,t' v σ H Q->t v σ H Q):PGs X tg t':=λpins s σ H v u Q I r q=>h pins s σ H v u Q I r (hi v σ H Q q)
def gN(i:Nat):Tg:=λd e=>some (e.set i (some d))
theorem cM{i:Nat}{x:Str}(hN:X.N.Nodup)(hi:X.N[i]? = some x)(hx:Loc X.env.scope x)(hf:X.fn x=true\/X.env.scope.names.lookup x=some .local:=by first | exact .inl rfl | exact .inr rfl | assumption):SG X ct (.Name x pos) (gN i):=
 PG.imp (V3 hN hi hx hf) λv σ H Q ⟨ι,e,M,d,w,q,p⟩=>p _ (w.set i q)
def Al:Tgs:=λds e=>match ds with
 | []=>some e
 | _=>none
noncomputable def dG(g:Tg)(gs:Tgs):Tgs:=λds e=>match ds with
 | d::r=>(g d e).bind λe'=>gs r e'
 | []=>none
theorem Ig:SGs X ct [] Al:=PGs.imp ac1 λvs σ H Q ⟨ι,e,M,ds,w,q,p⟩=>by
 cases q with
 | nil=>exact⟨rfl,p σ w⟩
 | cons _ _=>exact p.elim
theorem gq{es:List Expr}{g:Tg}{gs:Tgs}(h1:SG X ct a g)(h2:SGs X ct es gs)
  (hs:(assignEach (a::es) X.env).map (·.2)=assign a X.env::(assignEach es X.env).map (·.2):=by rfl):SGs X ct (a::es) (dG g gs):=PGs.imp (aaD h1 h2 hs) λvs σ H Q ⟨ι,e,M,ds,w,q,p⟩=>by
 cases q with
 | nil=>exact p.elim
 | @cons d x ds xs h hs=>
  refine⟨x,xs,rfl,ι,e,M,d,w,h,?_⟩
  simp only[dG]at p
  cases z:g d e with
  | none=>rw[z]at p;exact p.elim
  | some e'=>rw[z]at p;exact λσ' w'=>⟨ι,e',M,ds,w',hs,p⟩
noncomputable def gT(n:Nat)(gs:Tgs):Tg:=λd e=>match d with
 | .tup ds=>if ds.length=n then gs ds e else none
 | _=>none
theorem Nu{es:List Expr}{k:Nat}{n:Nat}(hc:X.calm=true)(h:SGs X ct es gs)
  (hn:(assignEach es X.env).length=n:=by rfl) (hst:(assignEach es X.env).findIdx? (·.1)=none:=by rfl):SG X ct (.Tuple es k pos) (gT n gs):=PG.imp (afZ hc h hn hst) λv σ H Q ⟨ι,e,M,d,w,q,p⟩=>by
 cases q with
 | @tup a xs ds hs hd=>
  simp only[gT]at p
  split at p
  ·rename_i hl
   exact⟨a,xs,rfl,lY.of hs,by rw[hd.length];exact hl,ι,e,M,ds,w,hd,p⟩
  ·exact p.elim
 | _=>exact p.elim
noncomputable def cD(m:ME)(g:Tg):MS:=λe M=>tW e (m e M) λd M1=>match g d e with
 | some e'=> .next e' M1
 | none=> .bad
theorem Nm(he:∀Q,tG (cP X.K ct) X.K ct W m σ H Q->te σ H Q)(hg:∀v H Q,tT X.K ct g v σ H Q->tg v σ H Q)(h:tS X.K ct W (cD m g) T σ H):ach te tg T σ H:=by
 refine he _ ?_
 obtain⟨ι,e,M,w,p⟩:=qI (rel:=cP X.K ct) (f:=λd e M1=>match g d e with
  | some e'=> .next e' M1
  | none=> .bad) h
 refine⟨ι,e,M,w,p.mono ?_⟩
 rintro v H1 ⟨bV,e1,M1,d,w1,q1,p1⟩
 refine hg _ _ _ ⟨bV,e1,M1,d,w1,q1,?_⟩
 cases z:g d e1 with
 | none=>rw[z]at p1;exact p1
 | some e'=>rw[z]at p1;exact λσ' w'=>p1 bV σ' H1 .refl w'
theorem ZS(he:SE X ct W a ma)(hg:SG X ct tg g)(hs:swapsWithSole [tg] a pos.line X.env=pure false:=by rfl)(hw:swappedStores [tg] a X.env=pure none:=by rfl)
  (h1:(assignEach [tg] X.env).map (·.2)=[assign tg X.env]:=by rfl):SS X ct W (.Assign [tg] a pos) (cD ma g):=PS.imp (afU he hg hs hw h1) λT σ H q=>Nm (λ_ q=>q) (λ_ _ _ q=>q) q
theorem bh(hN:X.N.Nodup)(hi:X.N[i]? = some x)(hx:Loc X.env.scope x)(he:SE X ct W a ma)(hs:swapsWith a (some (.Name x pos')) pos.line X.env=pure false:=by rfl)(hf:X.fn x=true\/X.env.scope.names.lookup x=some .local:=by first | exact .inl rfl | exact .inr rfl | assumption):
  SS X ct W (.Assign [.Name x pos'] a pos) (cD ma (gN i)):=PS.imp (afQ hN hi hx he hs hf) λT σ H q=>Nm (λ_ q=>q) (λv H Q ⟨ι,e,M,d,w,q,p⟩=>p _ (w.set i q)) q
noncomputable def j6(cs:List Nat)(f:Str)(d:D)(o:D)(M:Mem):Option Mem:=match o with
 | .ref n=>match M[n]? with
  | some (.ins c fs)=>if c∈cs/\fs.length<1000 then some (M.set n (.ins c (putD f d fs)))else none
  | _=>none
 | _=>none
noncomputable def dM(cs:List Nat)(mo mv:ME)(f:Str):MS:=λe M=>tW e (mv e M) λd M1=>tW e (mo e M1) λo M2=>match j6 cs f d o M2 with
 | some M3=> .next e M3
 | none=> .bad
theorem MN.put{K:Frag}{ι:Nat->Addr}{n:Nat}{H:Hp}{f:Str}{d:D}{v:V}(h:DV K ct ι n H d v):∀{fs:List (Str×D)} {vs:List (Str×V)},MN K ct ι n H fs vs->MN K ct ι n H (putD f d fs) (uy f v vs)
 | _,_,.nil=> .cons h .nil
 | _,_,.cons (x:=x) h' hs=>by
  unfold putD uy
  by_cases e:x=f
  ·rw[if_pos e,if_pos e];exact .cons h hs
  ·rw[if_neg e,if_neg e];exact .cons h' (hs.put h)
theorem cj{cs:List Nat}{f:Str}(hc:vf X.K ct f cs)(ho:SE X ct W o mo)(hv:SE X ct W a ma)(hs:swapsWith a (some (.Attribute o f pos')) pos.line X.env=pure false:=by rfl):
  SS X ct W (.Assign [.Attribute o f pos'] a pos) (dM cs mo ma f):=PS.imp (afT ho hv hs) λT σ H q=>by
 obtain⟨ι,e,M,w,p⟩:=qI (rel:=cP X.K ct) (f:=λd e M1=>tW e (mo e M1) λo M2=>match j6 cs f d o M2 with
  | some M3=> .next e M3
  | none=> .bad) q
 refine⟨ι,e,M,w,p.mono ?_⟩
 rintro y H1 ⟨bV,e1,M1,d,w1,q1,p1⟩
 refine⟨bV,e1,M1,w1,?_⟩
 cases z:mo e1 M1 with
 | bad=>simp only[z,Ik]at p1;exact p1
 | exc xc xd xM=>simp only[z,Ij]at p1;exact λgQ dx v H2 x r q1 q2=>p1 gQ σ dx v H2 x (w1.ext x r) q1 q2
 | ok o' M2=>
  simp only[z,Ge]at p1
  intro gQ x H2 x2 r2 q2
  have p2:=p1.ext x2
  have w2:=w1.ext x2 r2
  have qd:=q1.mono x2
  cases q2 with
  | @ref n hn=>
   simp only[j6]at p2
   cases z0:M2[n]? with
   | none=>rw[z0]at p2;exact p2.elim
   | some ob=>
    cases ob with
    | lst _=>rw[z0]at p2;exact p2.elim
    | dk _=>rw[z0]at p2;exact p2.elim
    | dt _=>rw[z0]at p2;exact p2.elim
    | fd _=>rw[z0]at p2;exact p2.elim
    | ins c fs=>
     simp only[z0]at p2
     by_cases hcs:c∈cs/\fs.length<1000
     ·rw[if_pos hcs]at p2
      obtain⟨dx,vs,hH,fv⟩:=r2.obj n _ z0
      have x3:Ext X.K gQ M2.length H2 gQ M2.length (upd H2 (gQ n) (.ins (ct c) dx (uy f y vs))):=Ext.chg hH (λ_ z=>nomatch z) (λ_ _ z=>nomatch z)
      refine⟨_,_,dx,vs,rfl,hH,(hc.get hcs.1).1,(hc.get hcs.1).2,by rw[fv.length];exact hcs.2,?_⟩
      have r3:=r2.chg (o:= .ins (ct c) dx (uy f y vs)) (x:= .ins c (putD f d fs)) hn hH (λ_ z=>nomatch z) (λ_ _ z=>nomatch z) ⟨dx,_,bw,(fv.put qd).mono x3⟩
      have x3':Ext X.K gQ M2.length H2 gQ (M2.set n (.ins c (putD f d fs))).length (upd H2 (gQ n) (.ins (ct c) dx (uy f y vs))):=by rw[List.length_set];exact x3
      exact p2 gQ σ _ x3' (w2.ext x3' r3)
     ·rw[if_neg hcs]at p2
      exact p2.elim
  | _=>exact p2.elim
structure Itm where
 src:Option (Nat×List D)
 ds:List D
def ig(s:Option (Nat×List D))(M:Mem):Prop:=match s with
 | none=>True
 | some (n,ds)=>m6 M n=some ds
noncomputable instance{s:Option (Nat×List D)}{M:Mem}:Decidable (ig s M):=Classical.propDecidable _
def acJ(K:Frag)(ct:Nat->Addr):(Nat->Addr)->Mem->Hp->Itm->It->Prop:=λι M H it J=>ig it.src M/\it.ds.length<=sizeLine/\∀ι' M' H',Ext K ι M.length H ι' M'.length H'->Rl K ct ι' M' H'->ig it.src M'->
 ∀i,(∀d,it.ds[i]? = some d->J.go i H'/\∀x H2,J.YW i H' x H2->Ext K ι' M'.length H' ι' M'.length H2/\Rl K ct ι' M' H2/\DV K ct ι' M'.length H2 d x)/\(it.ds.length<=i->J.stop i H')
abbrev MI:=Sl->Mem->Out Itm
def SI(X:Cx)(ct:Nat->Addr)(W:a_)(tg e:Expr)(m:MI):Prop:=PI X tg e (tG (acJ X.K ct) X.K ct W m)
theorem PI.imp{tg e:Expr}{t t':TI}(h:PI X tg e t)(hi:∀σ H R,t' σ H R->t σ H R):PI X tg e t':=λpins s σ H R I q=>h pins s σ H R I (hi σ H R q)
noncomputable def cC(src:Option (Nat×List D))(g:Tg)(b:MS):List D->Sl->Mem->gh
 | [],e,M=>if ig src M then .next e M else .bad
 | d::ds,e,M=>if ig src M then(match g d e with
   | none=> .bad
   | some e1=>match b e1 M with
    | .next e2 M2=>cC src g b ds e2 M2
    | .cont e2 M2=>cC src g b ds e2 M2
    | .brk e2 M2=> .next e2 M2
    | .ret d M2=> .ret d M2
    | .exc c d e2 M2=> .exc c d e2 M2
    | .bad=> .bad)else .bad
noncomputable def FP(mi:MI)(g:Tg)(b:MS):MS:=λe M=>tW e (mi e M) λit M1=>cC it.src g b it.ds e M1
theorem qW{body:List Stmt}(hp:X.Ok->PassesOwn (model X.prog X.w) X.A X.env X.xe)(hc:X.calm=true)(hi:SI X ct W tg iter mi)(hg:SG X ct tg g)(hb:YS X ct W body b)
  (hs:∀x,foldedSetIterable iter X.env x=pure x:=by intro _;rfl):SS X ct W (.For tg iter body [] pos) (FP mi g b):=PS.imp (λpins s σ H D I h=>V1 (hp I.ok) hc hi hg hb hs pins s σ H D I h) λT σ H q=>by
 obtain⟨ι,e,M,w,p⟩:=qI (rel:=acJ X.K ct) (f:=λit e M1=>cC it.src g b it.ds e M1) q
 refine⟨ι,e,M,w,p.mono ?_⟩
 rintro J H1 ⟨bV,e1,M1,it,w1,q1,p1⟩
 obtain⟨ok1,_,step⟩:=q1
 refine⟨λi m σ' H'=>m=it.ds.length - i/\i<=it.ds.length/\∃ι' e' M',Ext X.K bV M1.length H1 ι' M'.length H'/\Ws X.K ct ι' e' M' σ' H'/\pK X.K ct W ι' M'.length H' (cC it.src g b (it.ds.drop i) e' M') T,
  ⟨it.ds.length,by simp,Nat.zero_le _,bV,e1,M1,.refl,w1,by simpa using p1⟩,?_⟩
 rintro i m σ' H' ⟨rfl,hi,ι',e',M',x',w',p'⟩
 by_cases hlt:i<it.ds.length
 ·rw[List.drop_eq_getElem_cons hlt]at p'
  unfold cC at p'
  by_cases ok':ig it.src M'
  ·rw[if_pos ok']at p'
   obtain⟨go,yl⟩:=(step ι' M' H' x' w'.rl ok' i).1 _ (zad hlt)
   refine .inr ⟨go,λσ2 H2=>∃gQ e2 M2,Ext X.K bV M1.length H1 gQ M2.length H2/\Ws X.K ct gQ e2 M2 σ2 H2/\pK X.K ct W gQ M2.length H2 (cC it.src g b (it.ds.drop (i+1)) e2 M2) T,?_,?_⟩
   ·rintro σ2 H2 ⟨gQ,e2,M2,x2,w2,p2⟩
    exact⟨it.ds.length - (i+1),(),rfl,hlt,gQ,e2,M2,x2,w2,p2⟩
   ·intro x H2 y
    obtain⟨x2,r2,dv⟩:=yl x H2 y
    have w2:=w'.ext x2 r2
    have p2:=p'.ext x2
    refine⟨ι',e',M',_,w2,dv,?_⟩
    cases z:g it.ds[i] e' with
    | none=>rw[z]at p2;exact p2
    | some e2=>
     rw[z]at p2
     intro σ3 w3
     refine⟨ι',e2,M',w3,?_⟩
     cases z3:b e2 M' with
     | next e4 M4=>simp only[z3]at p2;exact λQj σ5 H5 x5 w5=>⟨Qj,e4,M4,(x'.trans x2).trans x5,w5,p2.ext x5⟩
     | cont e4 M4=>simp only[z3]at p2;exact λQj σ5 H5 x5 w5=>⟨Qj,e4,M4,(x'.trans x2).trans x5,w5,p2.ext x5⟩
     | brk e4 M4=>simp only[z3]at p2;exact p2
     | ret d M4=>simp only[z3]at p2;exact p2
     | exc xc xd xe xM=>simp only[z3]at p2;exact p2
     | bad=>simp only[z3]at p2;exact p2
  ·rw[if_neg ok']at p'
   exact p'.elim
 ·have e0:i=it.ds.length:=()
  subst e0
  rw[List.drop_length]at p'
  unfold cC at p'
  by_cases ok':ig it.src M'
  ·rw[if_pos ok']at p'
   exact .inl ⟨(step ι' M' H' x' w'.rl ok' _).2 (zac _),p' ι' σ' H' .refl w'⟩
  ·rw[if_neg ok']at p'
   exact p'.elim
noncomputable def Ym(d:D)(M1:Mem):Out Itm:=match d with
 | .ref n=>match m6 M1 n with
  | some ds=> .ok ⟨some (n,ds),ds⟩ M1
  | none=> .bad
 | .cl ds=> .ok ⟨none,ds⟩ M1
 | .tup ds=> .ok ⟨none,ds⟩ M1
 | _=> .bad
def t6(m:ME):MI:=λe M=>(m e M).bind Ym
theorem afY(hl:PE X l tl):PI X tg l (λσ H R=>tl σ H λx H1=>∃a,x= .ref a/\(((∃xs,qO X.K H1 a xs)/\((∀xs,qO X.K H1 a xs->xs.length<=sizeLine)->R (Itl X.K a) H1))\/((∃xs,lY X.K H1 a xs)/\((∀xs,lY X.K H1 a xs->xs.length<=sizeLine)->R (Itt X.K a) H1)))):=by
 intro pins s σ H R I h
 refine gj (hl pins s σ H _ I h) ?_
 rintro v s1 ⟨x,H1,I1,r1,q1⟩
 obtain⟨a,e,q⟩:=q1
 subst e
 cases r1
 rcases q with⟨⟨xs,hq⟩,q⟩ | ⟨⟨xs,hq⟩,q⟩
 ·obtain⟨its,rv,p,hz⟩:=I1.list hq
  have q:=q λys hy=>by obtain⟨_,_,_,hz⟩:=I1.list hy;exact hz
  refine wpAny_pyIter_list p.isList ?_
  refine⟨s1.heap.objs.size,[s1.heap.objs.size],_,_,H1,rfl,I1.kept (t':=s1.toks) λb o e=>zD _ e,Xj a _,⟨_,yB _ rfl,rfl,rfl⟩,λb hb=> ?_,q⟩
  have e:b=s1.heap.objs.size:=by simpa using hb
  subst e
  exact I1.O7 (zac _) (I1.hok.fresh (zac _))
 ·obtain⟨its,rv,p,hz⟩:=I1.tuple hq
  have q:=q λys hy=>by obtain⟨_,_,_,hz⟩:=I1.tuple hy;exact hz
  refine wpAny_pyIter_tuple (show s1.heap.IsTuple a its.toArray from p) ?_
  refine⟨s1.heap.objs.size,[s1.heap.objs.size],_,_,H1,rfl,I1.kept (t':=s1.toks) λb o e=>zD _ e,Tj a _,⟨_,yB _ rfl,rfl,rfl⟩,λb hb=> ?_,q⟩
  have e:b=s1.heap.objs.size:=by simpa using hb
  subst e
  exact I1.O7 (zac _) (I1.hok.fresh (zac _))
theorem RN{K:Frag}{ι:Nat->Addr}{M:Mem}{H:Hp}{a:Addr}{xs:List V}{ds:List D}(R:Rl K ct ι M H)(hq:qO K H a xs)(hd:jm K ct ι M.length H ds xs)(i:Nat):
  (∀d,ds[i]? = some d->(Itl K a).go i H/\∀x H2,(Itl K a).YW i H x H2->Ext K ι M.length H ι M.length H2/\Rl K ct ι M H2/\DV K ct ι M.length H2 d x)/\(ds.length<=i->(Itl K a).stop i H):=by
 refine⟨λd e=> ?_,λh=>⟨xs,hq,by rw[hd.length];exact h⟩⟩
 obtain⟨v,hv,dv⟩:=hd.at e
 refine⟨⟨xs,v,hq,hv⟩,λx H2 y=> ?_⟩
 obtain⟨e2,y⟩:=y
 subst e2
 have z:=y xs hq
 rw[hv]at z
 cases z
 exact⟨.refl,R,dv⟩
theorem abd{K:Frag}{ι:Nat->Addr}{M:Mem}{H:Hp}{a:Addr}{xs:List V}{ds:List D}(R:Rl K ct ι M H)(hq:lY K H a xs)(hd:jm K ct ι M.length H ds xs)(i:Nat):
  (∀d,ds[i]? = some d->(Itt K a).go i H/\∀x H2,(Itt K a).YW i H x H2->Ext K ι M.length H ι M.length H2/\Rl K ct ι M H2/\DV K ct ι M.length H2 d x)/\(ds.length<=i->(Itt K a).stop i H):=by
 refine⟨λd e=> ?_,λh=>⟨xs,hq,by rw[hd.length];exact h⟩⟩
 obtain⟨v,hv,dv⟩:=hd.at e
 refine⟨⟨xs,v,hq,hv⟩,λx H2 y=> ?_⟩
 obtain⟨e2,y⟩:=y
 subst e2
 have z:=y xs hq
 rw[hv]at z
 cases z
 exact⟨.refl,R,dv⟩
theorem ux{tg:Expr}(hl:SE X ct W a ma):SI X ct W tg a (t6 ma):=PI.imp (afY hl) λσ H R q=>by
 obtain⟨ι,e,M,w,p⟩:=bH (dm:=cP X.K ct) (f:=λd _ M1=>Ym d M1) q
 refine⟨ι,e,M,w,p.mono ?_⟩
 rintro v H1 ⟨bV,e1,M1,d,w1,q1,p1⟩
 cases q1 with
 | @ref n hn=>
  dsimp only[Ym]at p1
  cases z:m6 M1 n with
  | none=>rw[z]at p1;exact p1.elim
  | some ds=>
   rw[z]at p1
   obtain⟨xs,hH,hd⟩:=w1.rl.obj n _ (jE.mp z)
   refine⟨_,rfl,.inl ⟨⟨xs,qO.of hH⟩,λhz=>p1 bV _ H1 .refl w1.rl ⟨z,by rw[<-hd.length];exact hz xs (qO.of hH),λgQ M2 H2 x2 r2 ok2 i=> ?_⟩⟩⟩
   obtain⟨xs2,hH2,hd2⟩:=r2.obj n _ (jE.mp ok2)
   rw[<-x2.same n hn]
   exact RN r2 (qO.of hH2) hd2 i
 | cl h1 h2=>exact⟨_,rfl,.inl ⟨⟨_,h1.sq⟩,λhz=>p1 bV _ H1 .refl w1.rl ⟨trivial,by rw[<-h2.length];exact hz _ h1.sq,λgQ M2 H2 x2 r2 ok2 i=>RN r2 (x2.lV _ _ h1).sq (h2.mono x2) i⟩⟩⟩
 | tup h1 h2=>exact⟨_,rfl,.inr ⟨⟨_,lY.of h1⟩,λhz=>p1 bV _ H1 .refl w1.rl ⟨trivial,by rw[<-h2.length];exact hz _ (lY.of h1),λgQ M2 H2 x2 r2 ok2 i=>abd r2 (lY.of (x2.tup _ _ h1)) (h2.mono x2) i⟩⟩⟩
 | _=>exact p1.elim
def FT(lo:Int)(n:Nat):List D:=(List.range n).map λ(k:Nat)=>D.int (lo+k)
noncomputable def Jt(ds:List D)(M1:Mem):Out Itm:=match ds with
 | [.int j]=>if -(2 ^ 62)<=j/\j<2 ^ 24 then .ok ⟨none,FT 0 j.toNat⟩ M1 else .bad
 | _=> .bad
def JM(ms:MA):MI:=λe M=>(ms e M).bind Jt
theorem abe{K:Frag}{ι:Nat->Addr}{M:Mem}{H:Hp}(R:Rl K ct ι M H)(lo:Int)(n i:Nat):
  (∀d,(FT lo n)[i]? = some d->(Itr lo n).go i H/\∀x H2,(Itr lo n).YW i H x H2->Ext K ι M.length H ι M.length H2/\Rl K ct ι M H2/\DV K ct ι M.length H2 d x)/\((FT lo n).length<=i->(Itr lo n).stop i H):=by
 refine⟨λd e=> ?_,λh=>(by simpa[FT]using h:n<=i)⟩
 unfold FT at e
 rw[zan]at e
 obtain⟨k,hk,rfl⟩:=Option.map_eq_some_iff.mp e
 obtain⟨hi,e2⟩:=List.getElem?_eq_some_iff.mp hk
 have hi':i<n:=by simpa using hi
 have ek:k=i:=by rw[<-e2];simp
 subst ek
 refine⟨hi',λx H2 y=> ?_⟩
 obtain⟨e3,y⟩:=y
 subst e3 y
 exact⟨.refl,R,.int _⟩
theorem agG:(2 ^ 24:Nat)<=sizeLine:=by rw[sizeLine_eq];decide
theorem vm(hg:Gl X "range")(hm:X.mg "range" = none)(ha:SA X ct W [a] ms)(hs:starEach [a] X.env=[(false,eval a X.env)]:=by rfl):SI X ct W tg (.Call (.Name "range" p) [a] [] pos) (JM ms):=PI.imp (XD hg hm ha hs) λσ H R q=>by
 obtain⟨ι,e,M,w,p⟩:=bH (dm:=Hw X.K ct) (f:=λds _ M1=>Jt ds M1) q
 refine⟨ι,e,M,w,p.mono ?_⟩
 rintro v H1 ⟨bV,e1,M1,d,w1,q1,p1⟩
 dsimp only[Jt]at p1
 split at p1
 ·rename_i j
  obtain⟨v,rfl,q2⟩:=Gk q1
  cases pX q2
  split at p1
  ·rename_i hj
   have hz:=agG
   exact⟨j,rfl,hj.1,(),p1 bV _ H1 .refl w1.rl ⟨trivial,by simp[FT];omega,λgQ M2 H2 x2 r2 ok2 i=>abe r2 0 _ i⟩⟩
  ·exact p1.elim
 ·exact p1.elim
noncomputable def Ng(c:MT)(b:MS):Nat->Sl->Mem->gh
 | 0,_,_=> .bad
 | n+1,e,M=>match c e M with
  | .bad=> .bad
  | .exc c d M1=> .exc c d e M1
  | .ok false M1=> .next e M1
  | .ok true M1=>match b e M1 with
   | .next e2 M2=>Ng c b n e2 M2
   | .cont e2 M2=>Ng c b n e2 M2
   | .brk e2 M2=> .next e2 M2
   | .ret d M2=> .ret d M2
   | .exc c d e2 M2=> .exc c d e2 M2
   | .bad=> .bad
theorem IV:∀(n:Nat) (e:Sl) (M:Mem),Ng c b n e M≠ .bad->Ng c b (n+1) e M=Ng c b n e M
 | 0,_,_,h=>absurd rfl h
 | n+1,e,M,h=>by
  unfold Ng at h ⊢
  cases z:c e M with
  | bad=>rfl
  | exc _ _ _=>rfl
  | ok k M1=>
   cases k with
   | false=>rfl
   | true=>
    simp only[z]at h ⊢
    cases z2:b e M1 with
    | next e2 M2=>simp only[z2]at h ⊢;exact IV n e2 M2 h
    | cont e2 M2=>simp only[z2]at h ⊢;exact IV n e2 M2 h
    | brk e2 M2=>rfl
    | ret d M2=>rfl
    | exc _ _ _ _=>rfl
    | bad=>rfl
theorem Th(h:Ng c b n e M≠ .bad):∀k,Ng c b (n+k) e M=Ng c b n e M
 | 0=>rfl
 | k+1=>by
  have ih:=Th h k
  rw[<-Nat.add_assoc,IV _ _ _ (by rw[ih];exact h)]
  exact ih
open Classical in
def Jm(c:MT)(b:MS):MS:=λe M=>if h:∃n,Ng c b n e M≠ .bad then Ng c b (Classical.choose h) e M else .bad
theorem Xq(h:Ng c b n e M=o)(ho:o≠ .bad):Jm c b e M=o:=by
 have ex:∃n,Ng c b n e M≠ .bad:=⟨n,by rw[h];exact ho⟩
 unfold Jm
 rw[dif_pos ex]
 have h1:=Classical.choose_spec ex
 rcases Nat.le_total n (Classical.choose ex)with l | l
 ·obtain⟨k,hk⟩:=Nat.exists_eq_add_of_le l
  rw[hk,Th (by rw[h];exact ho) k,h]
 ·obtain⟨k,hk⟩:=Nat.exists_eq_add_of_le l
  rw[<-h,hk,Th h1 k]
theorem ZQ(hp:X.Ok->PassesOwn (model X.prog X.w) X.A X.env X.xe)(hc:YQ X ct W c mc)(hb:YS X ct W body b):SS X ct W (.While c body [] pos) (Jm mc b):=PS.imp (λpins s σ H D I h=>aax (hp I.ok) hc hb pins s σ H D I h) λT σ H ⟨ι,e,M,w,p⟩=>by
 unfold Jm at p
 split at p
 ·rename_i ex
  refine⟨λm σ' H'=>∃ι' e' M',Ws X.K ct ι' e' M' σ' H'/\pK X.K ct W ι' M'.length H' (Ng mc b m e' M') T,⟨_,ι,e,M,w,p⟩,?_⟩
  rintro m σ' H' ⟨ι',e',M',w',p'⟩
  cases m with
  | zero=>exact p'.elim
  | succ m=>
   refine⟨ι',e',M',w',?_⟩
   unfold Ng at p'
   cases z:mc e' M' with
   | bad=>rw[z]at p';exact p'
   | exc xc xd xM=>rw[z]at p';exact λgQ dx v H2 x r q1 q2=>p' gQ σ' dx v H2 x (w'.ext x r) q1 q2
   | ok k M1=>
    intro gQ k2 H2 x2 r2 ek
    have Ld:k=k2:=ek;subst Ld
    have w2:=w'.ext x2 r2
    cases k with
    | false=>rw[z]at p';exact p' gQ σ' H2 x2 w2
    | true=>
     simp only[z]at p'
     have p2:=p'.ext x2
     show ∃N:St->Hp->Prop,_
     refine⟨λσ3 H3=>∃Dq e3 M3,Ws X.K ct Dq e3 M3 σ3 H3/\pK X.K ct W Dq M3.length H3 (Ng mc b m e3 M3) T,λσ3 H3 q3=>⟨m,Nat.lt_succ_self _,q3⟩,gQ,e',M1,w2,?_⟩
     cases z3:b e' M1 with
     | next e4 M4=>simp only[z3]at p2;exact λQj σ5 H5 x5 w5=>⟨Qj,e4,M4,w5,p2.ext x5⟩
     | cont e4 M4=>simp only[z3]at p2;exact λQj σ5 H5 x5 w5=>⟨Qj,e4,M4,w5,p2.ext x5⟩
     | brk e4 M4=>simp only[z3]at p2;exact p2
     | ret d M4=>simp only[z3]at p2;exact p2
     | exc xc xd xe xM=>simp only[z3]at p2;exact p2
     | bad=>simp only[z3]at p2;exact p2
 ·exact p.elim
def Ar(js:List Nat)(e:Sl):Sl:=js.map λi=>(e[i]?).join
def Out.X6{α:Type}(o:Out α):Out α:=match o with
 | .ok a M=> .ok a M
 | _=> .bad
@[simp] theorem Gf{α:Type}(a:α)(M:Mem):(Out.ok a M).X6= .ok a M:=id rfl
@[simp] theorem V_{α:Type}:(Out.bad:Out α).X6= .bad:=id rfl
@[simp] theorem V9{α:Type}(c:Nat)(d:D)(M:Mem):(Out.exc c d M:Out α).X6= .bad:=id rfl
def k_(src:Option (Nat×List D))(tt:MT)(te:ME)(ce:Sl):List D->List D->Mem->Out D
 | [],ys,M=>if ig src M then .ok (.ref M.length) (M++[.lst ys])else .bad
 | d::ds,ys,M=>if ig src M then(tt (some d::ce) M).X6.bind λk M1=>if k=true then(te (some d::ce) M1).X6.bind λy M2=>k_ src tt te ce ds (ys++[y]) M2 else k_ src tt te ce ds ys M1 else .bad
def ye(js:List Nat)(mi:MI)(tt:MT)(te:ME):ME:=λe M=>(mi e M).bind λit M1=>k_ it.src tt te (Ar js e) it.ds [] M1
def STs(X:Cx)(ct:Nat->Addr)(W:a_)(ifs:List Expr)(m:MT):Prop:=PTs X ifs (tG Hv X.K ct W m)
def vM:MT:=λ_ M=> .ok true M
theorem DK:STs X ct W [] vM:=λpins s σ H Q I ⟨ι,e,M,w,p⟩=>acO pins s σ H Q I (p ι true H .refl w.rl rfl)
theorem acj(h:YQ X ct W c m):STs X ct W [c] m:=acN h
theorem Ws.caps{K:Frag}{ι:Nat->Addr}{e:Sl}{M:Mem}{σ:St}{H:Hp}{d:D}{v:V}(w:Ws K ct ι e M σ H)(js:List Nat)(h:DV K ct ι M.length H d v):Ws K ct ι (some d::Ar js e) M (some v::L2.caps js σ) H:=by
 refine⟨w.rl,by simp[Ar,L2.caps],λi x hx=> ?_⟩
 cases i with
 | zero=>simp at hx;subst hx;exact⟨v,rfl,h⟩
 | succ i=>
  simp only[List.getElem?_cons_succ,Ar,zan]at hx
  obtain⟨j,hj,ej⟩:=Option.map_eq_some_iff.mp hx
  cases z:e[j]? with
  | none=>rw[z]at ej;cases ej
  | some o=>
   rw[z]at ej
   cases(show o=some x from ej)
   obtain⟨u,hu,du⟩:=w.env j x z
   refine⟨u,?_,du⟩
   simp only[List.getElem?_cons_succ,L2.caps,zan,hj,Option.map_some,hu]
   rfl
theorem Qz(h:tG (cP X.K ct) X.K ct W (ye js mi tt te) σ H Q):ZD js (tG (acJ X.K ct) X.K ct W mi) (tG Hv X.K ct W0 tt) (tG (cP X.K ct) X.K ct W0 te) σ H Q:=by
 obtain⟨ι,e,M,w,p⟩:=bH (dm:=acJ X.K ct) (f:=λit e M1=>k_ it.src tt te (Ar js e) it.ds [] M1) h
 refine⟨ι,e,M,w,p.mono ?_⟩
 rintro J H1 ⟨bV,e1,M1,it,w1,q1,p1⟩
 obtain⟨ok1,hz,step⟩:=q1
 refine⟨λi m ys H'=>m=it.ds.length - i/\i<=it.ds.length/\ys.length<=i/\∃ι' M' ds',Ext X.K bV M1.length H1 ι' M'.length H'/\Rl X.K ct ι' M' H'/\jm X.K ct ι' M'.length H' ds' ys/\iV (cP X.K ct) X.K ct (wAt W σ) ι' M'.length H' (k_ it.src tt te (Ar js e1) (it.ds.drop i) ds' M') Q,
  ⟨it.ds.length,by simp,Nat.zero_le _,zac _,bV,M1,[],.refl,w1.rl,.nil,by simpa using p1⟩,?_⟩
 rintro i m ys H' ⟨rfl,hi,hy,ι',M',ds',x',r',dy,p'⟩
 by_cases hlt:i<it.ds.length
 ·rw[List.drop_eq_getElem_cons hlt]at p'
  unfold k_ at p'
  by_cases ok':ig it.src M'
  ·rw[if_pos ok']at p'
   obtain⟨go,yl⟩:=(step ι' M' H' x' r' ok' i).1 _ (zad hlt)
   refine .inr ⟨go,λys2 H2=>ys2.length<=i+1/\∃gQ M2 ds2,Ext X.K bV M1.length H1 gQ M2.length H2/\Rl X.K ct gQ M2 H2/\jm X.K ct gQ M2.length H2 ds2 ys2/\iV (cP X.K ct) X.K ct (wAt W σ) gQ M2.length H2 (k_ it.src tt te (Ar js e1) (it.ds.drop (i+1)) ds2 M2) Q,?_,?_⟩
   ·rintro ys2 H2 ⟨hl2,q2⟩
    exact⟨(),it.ds.length - (i+1),(),rfl,hlt,hl2,q2⟩
   ·intro x H2 y
    obtain⟨x2,r2,dv⟩:=yl x H2 y
    have w2:Ws X.K ct ι' (some it.ds[i]::Ar js e1) M' (some x::L2.caps js σ) H2:=(w1.ext (x'.trans x2) r2).caps js dv
    have p2:=p'.ext x2
    refine⟨ι',_,M',w2,?_⟩
    cases z:tt (some it.ds[i]::Ar js e1) M' with
    | bad=>simp only[z,V_,Out.cL]at p2;exact p2
    | exc xc xd xM=>simp only[z,V9,Out.cL]at p2;exact p2.elim
    | ok k M3=>
     simp only[z,Gf,Out.bC]at p2
     intro Dq k3 H3 x3 r3 ek
     have Ld:k=k3:=ek;subst Ld
     have p3:=p2.ext x3
     have w3:=w2.ext x3 r3
     have dy3:=(dy.mono x2).mono x3
     cases k with
     | false=>exact⟨(),Dq,M3,ds',(x'.trans x2).trans x3,r3,dy3,p3⟩
     | true=>
      simp only[if_true]at p3 ⊢
      refine⟨Dq,_,M3,w3,?_⟩
      cases z4:te (some it.ds[i]::Ar js e1) M3 with
      | bad=>simp only[z4,V_,Out.cL]at p3;exact p3
      | exc xc xd xM=>simp only[z4,V9,Out.cL]at p3;exact p3.elim
      | ok yy M4=>
       simp only[z4,Gf,Out.bC]at p3
       intro ι4 v4 H4 x4 r4 d4
       exact⟨by rw[List.length_append];simp;omega,ι4,M4,ds'++[yy],((x'.trans x2).trans x3).trans x4,r4,(dy3.mono x4).append (.cons d4 .nil),p3.ext x4⟩
  ·rw[if_neg ok']at p'
   exact p'.elim
 ·have e0:i=it.ds.length:=()
  subst e0
  rw[List.drop_length]at p'
  unfold k_ at p'
  by_cases ok':ig it.src M'
  ·rw[if_pos ok']at p'
   exact .inl ⟨(step ι' M' H' x' r' ok' _).2 (zac _),(),λpp hp=>o_ r' dy hp p'⟩
  ·rw[if_neg ok']at p'
   exact p'.elim
variable{elt iter:Expr}{ifs:List Expr}{scope:Scope}{x:Str}{px:Pos}{mi:MI}{tt:MT}{te:ME}
theorem DP(hc:X.calm=true)(cs:List Str)(js:List Nat)(hi:SI X ct W (.Name x px) iter mi)(hcap:vU X scope cs js)(ht:∀cl C fp s H,STs (eY X scope cl C (x::cs) fp s H) ct W0 ifs tt)(he:∀cl C fp s H,SE (eY X scope cl C (x::cs) fp s H) ct W0 elt te)
  (hall:∀y∈scope.names,y.2= .free->y.1∈cs) (hcell:∀y∈scope.names,y.2≠ .cell) (hnames:∀y∈scope.names,y.2= .local->scope.names.lookup y.1=some .local) (hnd:(x::cs).Nodup)
  (hkind:scope.kind= .function:=by rfl) (hx:scope.names.lookup x=some .local:=by rfl) (hs:∀v,foldedSetIterable iter X.env v=pure v:=by intro _;rfl):
  SE X ct W (.ListComp elt [⟨.Name x px,iter,ifs,0⟩] scope pos) (ye js mi tt te):=
 dJ (ac3 (tt:=tG Hv X.K ct W0 tt) (te:=tG (cP X.K ct) X.K ct W0 te) hc cs js hi hcap (λcl C fp s H=>ht cl C fp s H) (λcl C fp s H=>he cl C fp s H) hall hcell hnames hnd hkind hx hs) λσ H Q q=>Qz q
theorem aco(hc:X.calm=true)(cs:List Str)(js:List Nat)(hN:X.N.Nodup)(hk:X.N[k]? = some y)(hy:X.env.scope.names.lookup y=some .local)(hi:SI X ct W (.Name x px) iter mi)(hcap:vU X scope cs js)
  (ht:∀cl C fp s H,STs (eY X scope cl C (x::cs) fp s H) ct W0 ifs tt) (he:∀cl C fp s H,SE (eY X scope cl C (x::cs) fp s H) ct W0 elt te)
  (hall:∀y∈scope.names,y.2= .free->y.1∈cs) (hcell:∀y∈scope.names,y.2≠ .cell) (hnames:∀y∈scope.names,y.2= .local->scope.names.lookup y.1=some .local) (hnd:(x::cs).Nodup)
  (hsw:swapsWith (.ListComp elt [⟨.Name x px,iter,ifs,0⟩] scope pos) (some (.Name y py)) spos.line X.env=pure true:=by rfl)
  (hkind:scope.kind= .function:=by rfl) (hx:scope.names.lookup x=some .local:=by rfl) (hs:∀v,foldedSetIterable iter X.env v=pure v:=by intro _;rfl):
  SS X ct W (.Assign [.Name y py] (.ListComp elt [⟨.Name x px,iter,ifs,0⟩] scope pos) spos) (cD (ye js mi tt te) (gN k)):=
 PS.imp (acX (tt:=tG Hv X.K ct W0 tt) (te:=tG (cP X.K ct) X.K ct W0 te) hc cs js hN hk hy hi hcap (λcl C fp s H=>ht cl C fp s H) (λcl C fp s H=>he cl C fp s H) hall hcell hnames hnd hsw hkind hx hs) λT σ H q=>Nm (λ_ q=>Qz q) (λv H Q ⟨ι,e,M,d,w,q,p⟩=>p _ (w.set k q)) q
end
def slots(n:Nat)(ds:List D):Sl:=ds.map some++List.replicate (n - ds.length) none
noncomputable def aN(n:Nat)(b:MS):Fn:=λds M=>match b (slots n ds) M with
 | .ret d M'=> .ok d M'
 | .next _ M'=> .ok .non M'
 | .exc c d _ M'=> .exc c d M'
 | _=> .bad
theorem Ws.start{K:Frag}{ct ι:Nat->Addr}{M:Mem}{H:Hp}{ds:List D}{vs:List V}(N:List Str)(R:Rl K ct ι M H)(h:jm K ct ι M.length H ds vs):Ws K ct ι (slots N.length ds) M (L2.start N vs) H:=by
 refine⟨R,by simp[slots,L2.start,h.length],λi d hd=> ?_⟩
 unfold slots at hd
 by_cases z:i<ds.length
 ·rw[zaf (by simpa using z),zan]at hd
  obtain⟨d',e1,e2⟩:=Option.map_eq_some_iff.mp hd
  cases e2
  obtain⟨v,hv,dv⟩:=h.at e1
  refine⟨v,?_,dv⟩
  unfold L2.start
  rw[zaf (by rw[zao,h.length];exact z),zan,hv]
  rfl
 ·rw[zae (by simpa using z),List.getElem?_replicate]at hd
  split at hd<;>cases hd
section
variable{P:Program}{w:World}{K:Frag}{mg:Str->Option Value}{base:Heap}{ct:Nat->Addr}
theorem anI{n ar:Nat}{b:MS}{x qual:Str}{st:Stmt}{dV:Value}{f:Addr}{fd:FuncData}{N ps:List Str}{k:Nat}(F:yE K x qual st dV f fd)(S:qP N ps (aX st))(hn:N.length=n)(har:ps.length=ar)
  (hbody:∀(cdv:Value) (A:Around) (outer:List PySem.Env) (s:Shared) (H:Hp) (E:XK) (W:a_),iw k (A.deeper (envOfC qual (aX st) s.heap.objs.size f cdv))->
   YS ((xQ (Dp P w) P w K mg base N qual (aX st) f cdv A outer s H E).wish (iB (xQ (Dp P w) P w K mg base N qual (aX st) f cdv A outer s H E) W)) ct W (cX st) b):
  gP P w K mg base (Dp P w) (k+1) f fd ps (spS K ct (aN n b) ar):=by
 subst hn har
 refine F.okX S (λvs H Q E ⟨ι,ds,M,hl,_,hd,_⟩=>by rw[hd.length,hl]) ?_
 rintro cdv A outer s H vs Q E hr ⟨ι,ds,M,hl,R,hd,p⟩
 refine⟨_,λC dx _ H'=>E (.ref C) (some dx) H',λC dx σ H' z=>z,hbody cdv A outer s H E _ hr,ι,slots N.length ds,M,Ws.start N R hd,?_⟩
 unfold aN at p
 cases z:b (slots N.length ds) M with
 | ret d M'=>rw[z]at p;exact λι' v H' x r q=> .inl (p ι' v H' x r q)
 | next e M'=>rw[z]at p;exact λι' σ' H' x w'=> .inl (p ι' .non H' x w'.rl .non)
 | exc c d e M'=>rw[z]at p;exact λι' σ' dx v H' x w' q1 q2=>p ι' dx v H' x w'.rl q1 q2
 | brk e M'=>rw[z]at p;exact p.elim
 | cont e M'=>rw[z]at p;exact p.elim
 | bad=>rw[z]at p;exact p.elim
end
theorem akf{P:Program}{w:World}{K:Frag}{mg:Str->Option Value}{base:Heap}{k:Nat}{f:Addr}{fd:FuncData}{ps:List Str}{sp:Sp}(F:gP P w K mg base (Dp P w) k f fd ps sp):gP P w K mg base YT k f fd ps (λvs H Q _=>sp vs H Q E0):=
 ⟨λvs H Q _ h=>F.len vs H Q E0 h,λA outer s H args us vs Q E hr he hb hv hs=>codeAny_mono (F.run A outer s H args us vs Q E0 hr he hb hv hs) λr s' hq=>by
  match r,hq with
  | .error e,hq=>obtain⟨_,_,_,_,_,_,_,_,_,_,_,_,_,_,_,z⟩:=hq;exact z.elim
  | .ok (.ret u),hq=>exact hq⟩
theorem g8(hst:Y.stack=Y.env::Y.outer)(hf:Y.env.frame=some Y.env.locals)(ok:(Y.wish (iB Y W)).Ok):PassesOwn (model Y.prog Y.w) Y.A Y.env (iB Y W):=λev s' h=>iB.XM hst hf ok.frames ev s' h
theorem Tk.none:Tk X W0:=λ_ _ ⟨_,_,_,_,_,_,_,_,_,_,_,_,_,_,z⟩=>z.elim
def spL(K:Frag):Sp:=λvs H Q _=>∃(a:Addr) (ns:List Int),vs=[.ref a]/\FrL K H a (ns.map V.int)/\ns.length<=63/\∀H',Q (.bl true) H'
theorem Ka{K:Frag}{ct ι:Nat->Addr}{n:Nat}{H:Hp}:∀ns:List Int,jm K ct ι n H (ns.map D.int) (ns.map V.int)
 | []=> .nil
 | i::r=> .cons (.int i) (Ka r)
theorem ajX{P:Program}{w:World}{K:Frag}{mg:Str->Option Value}{base:Heap}{ct:Nat->Addr}{k:Nat}{f:Addr}{fd:FuncData}{x:Str}{fn:Fn}(F:gP P w K mg base (Dp P w) k f fd [x] (spS K ct fn 1))
  (h:∀ns:List Int,ns.length<=63->∃M,fn [.cl (ns.map D.int)] []= .ok (.bl true) M):gP P w K mg base YT k f fd [x] (spL K):=by
 refine(akf F).imp ?_
 rintro vs H Q E ⟨a,ns,e,hf,hl,q⟩
 subst e
 obtain⟨M,e⟩:=h ns hl
 refine⟨λ_=>0,[.cl (ns.map D.int)],[],rfl,⟨λi j hi=>absurd hi (Nat.not_lt_zero _),λi o h=>by simp at h⟩,.cons (.cl hf (Ka ns)) .nil,?_⟩
 rw[e]
 intro ι' v H' _ _ dv
 cases dv
 exact q H'
theorem ais{l:PySem.W.OpenLaw}{loose:List Str}{XP:(Str->Option Value)->Heap->Prop}{YP:World->Heap->Prop}{K:Params->Frag}{x:Str}{k:Nat}(hn:l.most=some 63)(hdf:d.params.defaults=[])(hr:iw k callerA)
  (hY:∀(w:World) (h:Heap),YP w h->(K w.params).In h)
  (F:∀(w:World) (mg:Str->Option Value) (fa:Addr) (h:Heap),(K w.params).In h->h.Ns mainGlobals mg->mg d.name=some (.ref fa)->
   ∃fd:FuncData,(∀(s:Shared) (u:Value),BindsTo s fd ⟨[u],[]⟩ [(x,u)])/\∀base:Heap,(K w.params).In base->base.Ns mainGlobals mg->gP l.prog w (K w.params) mg base YT k fa fd [x] (spL (K w.params))):
  PySem.W.WalkO q loose XP YP l.row.toRowW d [] (λf vs=>PySem.call f vs):=
 ab5 (n:=63) (k:=k) (x:=x) (CX:=λ_=>YT) (sp:=λw=>spL (K w.params)) hn (by decide) hdf hr hY F (λ_ H a ns hl hO hS=>⟨a,ns,rfl,by
  rcases hS with(z | z) | z
  ·rcases hO a with n | ⟨o,xs,n⟩
   ·rw[n]at z;cases z
   ·rw[n]at z;cases z
  ·exact .inl z
  ·exact .inr z,hl,λ_=>rfl⟩) λ_ _ _ _ _ z=>z
section
variable{e:Sl}{M:Mem}
@[simp] theorem ajI:aq 0 (some d::r) M= .ok d M:=cO rfl
@[simp] theorem aeM:aq 1 (o0::some d::r) M= .ok d M:=cO rfl
@[simp] theorem ao6:aq 2 (o0::o1::some d::r) M= .ok d M:=cO rfl
@[simp] theorem ao5:aq 3 (o0::o1::o2::some d::r) M= .ok d M:=cO rfl
@[simp] theorem ao4:aq 4 (o0::o1::o2::o3::some d::r) M= .ok d M:=cO rfl
@[simp] theorem ao3:aq 5 (o0::o1::o2::o3::o4::some d::r) M= .ok d M:=cO rfl
@[simp] theorem ao2:aq 6 (o0::o1::o2::o3::o4::o5::some d::r) M= .ok d M:=cO rfl
@[simp] theorem ao1:aq 7 (o0::o1::o2::o3::o4::o5::o6::some d::r) M= .ok d M:=cO rfl
@[simp] theorem ao0:aq 8 (o0::o1::o2::o3::o4::o5::o6::o7::some d::r) M= .ok d M:=cO rfl
@[simp] theorem aoZ:aq 9 (o0::o1::o2::o3::o4::o5::o6::o7::o8::some d::r) M= .ok d M:=cO rfl
@[simp] theorem am1:aq 10 (o0::o1::o2::o3::o4::o5::o6::o7::o8::o9::some d::r) M= .ok d M:=cO rfl
@[simp] theorem am0:aq 11 (o0::o1::o2::o3::o4::o5::o6::o7::o8::o9::o10::some d::r) M= .ok d M:=cO rfl
@[simp] theorem amZ:aq 12 (o0::o1::o2::o3::o4::o5::o6::o7::o8::o9::o10::o11::some d::r) M= .ok d M:=cO rfl
@[simp] theorem amY:aq 13 (o0::o1::o2::o3::o4::o5::o6::o7::o8::o9::o10::o11::o12::some d::r) M= .ok d M:=cO rfl
@[simp] theorem amX:aq 14 (o0::o1::o2::o3::o4::o5::o6::o7::o8::o9::o10::o11::o12::o13::some d::r) M= .ok d M:=cO rfl
@[simp] theorem amW:aq 15 (o0::o1::o2::o3::o4::o5::o6::o7::o8::o9::o10::o11::o12::o13::o14::some d::r) M= .ok d M:=cO rfl
@[simp] theorem ao8:mC d e M= .ok d M:=id rfl
def bd2{α β γ:Type}(op:α->β->Mem->Out γ)(mb:Sl->Mem->Out β)(e:Sl)(d:α)(M:Mem):Out γ:=(mb e M).bind (op d)
@[simp high] theorem PN{α β γ:Type}{op:α->β->Mem->Out γ}{mb:Sl->Mem->Out β}{d:α}:(Out.ok d M).bind (bd2 op mb e)=(mb e M).bind (op d):=id rfl
@[simp] theorem Im:aD op ma mb e M=(ma e M).bind (bd2 op mb e):=id rfl
def cN{β:Type}(a b:Sl->Mem->β)(e:Sl)(k:Bool)(M:Mem):β:=if k=true then a e M else b e M
@[simp] theorem apS{β:Type}{a b:Sl->Mem->β}{k:Bool}:cN a b e k M=if k=true then a e M else b e M:=id rfl
@[simp high] theorem arB{β:Type}{a b:Sl->Mem->Out β}:(Out.ok true M).bind (cN a b e)=a e M:=id rfl
@[simp high] theorem arC{β:Type}{a b:Sl->Mem->Out β}:(Out.ok false M).bind (cN a b e)=b e M:=id rfl
@[simp high] theorem aku:tW e (.ok true M) (cN a b e)=a e M:=id rfl
@[simp high] theorem apR:tW e (.ok false M) (cN a b e)=b e M:=id rfl
def bdB{β:Type}(f:Bool->Mem->Out β)(d:D)(M:Mem):Out β:=(Va d M).bind f
@[simp high] theorem aoc{β:Type}{f:Bool->Mem->Out β}{b:Bool}:(Out.ok (.bl b) M).bind (bdB f)=(Out.ok b M).bind f:=id rfl
def mFl:MT:=λ_ M=> .ok false M
@[simp] theorem am6:mFl e M= .ok false M:=id rfl
@[simp] theorem Wg:vM e M= .ok true M:=id rfl
def ajB(k:Bool)(M:Mem):Out Bool:= .ok (!k) M
@[simp] theorem ale:ajB k M= .ok (!k) M:=id rfl
def ajA(k:Bool)(M:Mem):Out D:= .ok (.bl (!k)) M
@[simp] theorem ald:ajA k M= .ok (.bl (!k)) M:=id rfl
@[simp] theorem am2:mUn op ma e M=(ma e M).bind op:=id rfl
@[simp] theorem aoh:Va (.bl b) M= .ok b M:=id rfl
@[simp] theorem JK:aZ m e M=(m e M).bind Va:=id rfl
@[simp] theorem Wf:agD t u e M=(t e M).bind (cN u mFl e):=id rfl
@[simp] theorem agA:Y0 t u e M=(t e M).bind (cN vM u e):=id rfl
@[simp] theorem ali:Rz t e M=(t e M).bind ajB:=id rfl
@[simp] theorem ajT:z7 t u e M=(t e M).bind (bdB (cN u (mC (.bl false)) e)):=id rfl
@[simp] theorem alh:Yc t u e M=(t e M).bind (bdB (cN (mC (.bl true)) u e)):=id rfl
@[simp] theorem ajL:Wd t e M=(t e M).bind (bdB ajA):=id rfl
@[simp] theorem am5:mIf t a b e M=(t e M).bind (cN a b e):=id rfl
def ch3(o2:qe)(mc:ME)(e:Sl)(d:D)(k:Bool)(M:Mem):Out D:=if k=true then(mc e M).bind (o2 d)else .ok (.bl false) M
def ch2(o1 o2:qe)(mc:ME)(e:Sl)(d1 d2:D)(M:Mem):Out D:=(o1 d1 d2 M).bind (bdB (ch3 o2 mc e d2))
@[simp low] theorem anT:ch3 o2 mc e d k M=if k=true then(mc e M).bind (o2 d)else .ok (.bl false) M:=id rfl
@[simp] theorem apP:ch3 o2 mc e d true M=(mc e M).bind (o2 d):=id rfl
@[simp] theorem anU:ch2 o1 o2 mc e d1 d2 M=(o1 d1 d2 M).bind (bdB (ch3 o2 mc e d2)):=id rfl
@[simp] theorem ah7:JQ o1 o2 ma mb mc e M=(ma e M).bind (bd2 (ch2 o1 o2 mc e) mb e):=id rfl
@[simp] theorem alj:aF e M= .ok [] M:=id rfl
def okC(d:D)(ds:List D)(M:Mem):Out (List D):= .ok (d::ds) M
@[simp high] theorem amK:(Out.ok ds M).bind (okC d)= .ok (d::ds) M:=id rfl
@[simp] theorem Er:au m ms e M=(m e M).bind (bd2 okC ms e):=id rfl
theorem Et:sizeLine=16777216:=sizeLine_eq
def Qs(ds:List D)(M:Mem):Out D:=if ds.length<=sizeLine then .ok (.tup ds) M else .bad
@[simp low] theorem akS:Qs ds M=if ds.length<=16777216 then .ok (.tup ds) M else .bad:=by unfold Qs;rw[Et]
@[simp] theorem alf:fL ms e M=(ms e M).bind Qs:=id rfl
@[simp high] theorem aoI:(Out.ok [a0] M).bind Qs= .ok (.tup [a0]) M:=by simp
@[simp high] theorem aoH:(Out.ok [a0,a1] M).bind Qs= .ok (.tup [a0,a1]) M:=by simp
@[simp high] theorem aoG:(Out.ok [a0,a1,a2] M).bind Qs= .ok (.tup [a0,a1,a2]) M:=by simp
@[simp high] theorem aoF:(Out.ok [a0,a1,a2,a3] M).bind Qs= .ok (.tup [a0,a1,a2,a3]) M:=by simp
@[simp high] theorem aoE:(Out.ok [a0,a1,a2,a3,a4] M).bind Qs= .ok (.tup [a0,a1,a2,a3,a4]) M:=by simp
def adt(ds:List D)(M:Mem):Out D:=if ds.length<=sizeLine then .ok (.ref M.length) (M++[.lst ds])else .bad
@[simp low] theorem alu:adt ds M=if ds.length<=16777216 then .ok (.ref M.length) (M++[.lst ds])else .bad:=by unfold adt;rw[Et]
@[simp high] theorem ao_:(Out.ok [] M).bind adt= .ok (.ref M.length) (M++[.lst []]):=by simp
@[simp] theorem alm:Ep ms e M=(ms e M).bind adt:=id rfl
@[simp] theorem alo:bQ cs m f e M=(m e M).bind (mX cs f):=id rfl
theorem dj(h:M[n]? = some (.ins c fs))(hc:c∈cs)(hf:fs.lookup f=some d):mX cs f (.ref n) M= .ok d M:=by
 unfold mX;simp only[h,hc,if_true,hf]
def Fd(fn:Fn)(ar:Nat)(dv ds:List D)(M:Mem):Out D:=if(ds++dv).length=ar then fn (ds++dv) M else .bad
@[simp high] theorem aoa:(Out.ok [a0] M).bind (Fd fn 1 [])=fn [a0] M:=id rfl
@[simp high] theorem an_:(Out.ok [a0,a1] M).bind (Fd fn 2 [])=fn [a0,a1] M:=id rfl
@[simp high] theorem an9:(Out.ok [a0,a1,a2] M).bind (Fd fn 3 [])=fn [a0,a1,a2] M:=id rfl
@[simp high] theorem an8:(Out.ok [a0,a1,a2,a3] M).bind (Fd fn 4 [])=fn [a0,a1,a2,a3] M:=id rfl
@[simp high] theorem an7:(Out.ok [a0,a1,a2,a3,a4] M).bind (Fd fn 5 [])=fn [a0,a1,a2,a3,a4] M:=id rfl
@[simp high] theorem an6:(Out.ok [a0,a1,a2,a3,a4,a5] M).bind (Fd fn 6 [])=fn [a0,a1,a2,a3,a4,a5] M:=id rfl
@[simp] theorem ajR:dw fn ar dv ms e M=(ms e M).bind (Fd fn ar dv):=id rfl
def callC(fn:Fn)(ar:Nat)(dv:List D)(d:D)(ds:List D)(M:Mem):Out D:=Fd fn ar dv (d::ds) M
@[simp high] theorem akt:(Out.ok ds M).bind (callC fn ar dv d)=(Out.ok (d::ds) M).bind (Fd fn ar dv):=id rfl
def aeG(k:Nat)(m:Str)(fn:Fn)(ar:Nat)(dv:List D)(ms:MA)(e:Sl)(d:D)(M:Mem):Out D:=if t7 k m d M=true then(ms e M).bind (callC fn ar dv d)else .bad
@[simp high] theorem ajH:(Out.ok d M).bind (aeG k m fn ar dv ms e)=if t7 k m d M=true then(ms e M).bind (callC fn ar dv d)else .bad:=id rfl
@[simp] theorem ajM:aU k m fn ar dv mo ms e M=(mo e M).bind (aeG k m fn ar dv ms e):=id rfl
theorem Ac(h:M[n]? = some (.ins k fs))(hf:fs.lookup m=none):t7 k m (.ref n) M=true:=by
 unfold t7;simp[h,hf]
def mkR(n:Nat)(r:D)(M:Mem):Out D:=if Mj r=true then .ok (.ref n) M else .bad
@[simp] theorem amS:mkR n r M=if Mj r=true then .ok (.ref n) M else .bad:=id rfl
def mkO(kc:Nat)(fn:Fn)(ar:Nat)(dv ds:List D)(M:Mem):Out D:=if(D.ref M.length::(ds++dv)).length=ar then(fn (.ref M.length::(ds++dv)) (M++[.ins kc []])).bind (mkR M.length)else .bad
@[simp high] theorem amU:(Out.ok ds M).bind (mkO kc fn ar dv)=if(D.ref M.length::(ds++dv)).length=ar then(fn (.ref M.length::(ds++dv)) (M++[.ins kc []])).bind (mkR M.length)else .bad:=id rfl
@[simp] theorem aaZ:z6 kc fn ar dv ms e M=(ms e M).bind (mkO kc fn ar dv):=id rfl
@[simp] theorem ah_:Mj .non=true:=id rfl
@[simp] theorem Uo:vV op ms e M=(ms e M).bind op:=id rfl
def bmO(T:String)(op:D->List D->Mem->Out D)(ms:MA)(e:Sl)(d:D)(M:Mem):Out D:=if Xi T d M=true then(ms e M).bind (op d)else .bad
@[simp high] theorem aob:(Out.ok d M).bind (bmO T op ms e)=if Xi T d M=true then(ms e M).bind (op d)else .bad:=id rfl
@[simp] theorem am7:mBM T op mo ms e M=(mo e M).bind (bmO T op ms e):=id rfl
def bd3(op:D->Option Int->Option Int->Mem->Out D)(lo hi:MO')(e:Sl)(d:D)(M:Mem):Out D:=(lo e M).bind (bd2 (op d) hi e)
@[simp] theorem aod{op:D->Option Int->Option Int->Mem->Out D}{lo hi:MO'}:bd3 op lo hi e d M=(lo e M).bind (bd2 (op d) hi e):=id rfl
@[simp] theorem am4{lo hi:MO'}:mSl m lo hi e M=(m e M).bind (bd3 Xu lo hi e):=id rfl
@[simp] theorem ajK:zZ m e M=(m e M).bind asI:=id rfl
@[simp] theorem agB:mz e M= .ok none M:=id rfl
@[simp] theorem alT:asI (.int i) M= .ok (some i) M:=id rfl
@[simp] theorem JN:t6 m e M=(m e M).bind Ym:=id rfl
theorem j7(h:M[n]? = some (.lst ds)):Ym (.ref n) M= .ok ⟨some (n,ds),ds⟩ M:=by simp only[Ym,eF h]
@[simp] theorem ajJ:JM ms e M=(ms e M).bind Jt:=id rfl
theorem zA(h: -(2 ^ 62)<=j)(h2:j<2 ^ 24):Jt [.int j] M= .ok ⟨none,FT 0 j.toNat⟩ M:=by simp only[Jt];rw[if_pos ⟨h,h2⟩]
def cpO(tt:MT)(te:ME)(ce:Sl)(it:Itm)(M:Mem):Out D:=k_ it.src tt te ce it.ds [] M
@[simp] theorem U5:cpO tt te ce it M=k_ it.src tt te ce it.ds [] M:=id rfl
@[simp] theorem JP:ye js mi tt te e M=(mi e M).bind (cpO tt te (Ar js e)):=id rfl
@[simp] theorem J5:Qh C g (.int i) (.int j) M=if C i j=true then .ok (g i j) M else .bad:=id rfl
@[simp] theorem ajb:oZ (.int i) (.int j) M= .ok (.int (i+j)) M:=id rfl
@[simp] theorem aiT:TX (.int i) (.int j) M= .ok (.int (i - j)) M:=id rfl
@[simp] theorem aaf:Q6 (.int i) (.int j) M= .ok (.int (Builtin.bitAnd i j)) M:=id rfl
@[simp] theorem ak3:sOr (.int i) (.int j) M= .ok (.int (Builtin.bitOr i j)) M:=id rfl
@[simp] theorem ak7:sLt (.int i) (.int j) M= .ok (.bl (decide (i<j))) M:=id rfl
@[simp] theorem ai2:Jq (.int i) (.int j) M= .ok (.bl (decide (i<=j))) M:=id rfl
@[simp] theorem ai6:Q4 (.int i) (.int j) M= .ok (.bl (decide (j<i))) M:=id rfl
@[simp] theorem ai7:acD (.int i) (.int j) M= .ok (.bl (decide (j<=i))) M:=id rfl
theorem QX(h:(-(2 ^ 64)<i/\i<2 ^ 64)\/(-(2 ^ 64)<j/\j<2 ^ 64)):TY (.int i) (.int j) M= .ok (.int (i*j)) M:=by
 refine jg ?_;unfold Z8;rw[J5,if_pos (by unfold ahJ;exact zah h)]
theorem rB(h:0<j)(h2:j<1073741824):tu (.int i) (.int j) M= .ok (.int (i / j)) M:=by
 unfold tu;rw[J5,if_pos (by unfold ahK;exact zah ⟨h,h2⟩)]
theorem jn(h:0<j):j5 (.int i) (.int j) M= .ok (.int (i % j)) M:=by
 unfold j5;rw[J5,if_pos (by unfold aky;exact zah h)]
theorem QW(h:0<=j/\j<=1000000/\i.natAbs<2 ^ 64):NB (.int i) (.int j) M= .ok (.int (i ^ j.toNat)) M:=by
 unfold NB;rw[J5,if_pos (by unfold YJ;exact zah h)]
@[simp] theorem aiX:afv (.int i) M= .ok (.int (-i)) M:=id rfl
theorem uK(h:fH M 12 d=some a)(h':fH M 12 d'=some b):Qi M d d'=some (jl a b):=by unfold Qi;rw[h,h']
theorem FQ(h:Qi M d d'=some b):sEq d d' M= .ok (.bl b) M:=by unfold sEq;rw[h]
theorem wF(h:Qi M d d'=some b):sNe d d' M= .ok (.bl (!b)) M:=by unfold sNe;rw[h]
theorem WW:Qi M (.int i) (.int j)=some (decide (i=j)):=by
 rw[uK (a:= .int i) (b:= .int j) rfl rfl];unfold jl;rw[Bool.beq_eq_decide_eq]
theorem WT:Qi M (.str i) (.str j)=some (decide (i=j)):=by
 rw[uK (a:= .str i) (b:= .str j) rfl rfl];unfold jl;rw[Bool.beq_eq_decide_eq]
theorem ahg:Qi M (.bl i) (.bl j)=some (decide (i=j)):=by
 rw[uK (a:= .bl i) (b:= .bl j) rfl rfl];unfold jl;rw[Bool.beq_eq_decide_eq]
@[simp] theorem acE:sEq (.int i) (.int j) M= .ok (.bl (decide (i=j))) M:=FQ WW
@[simp] theorem ak6:sNe (.int i) (.int j) M= .ok (.bl (!decide (i=j))) M:=wF WW
@[simp] theorem alb:sEq (.str i) (.str j) M= .ok (.bl (decide (i=j))) M:=FQ WT
@[simp] theorem ak5:sNe (.str i) (.str j) M= .ok (.bl (!decide (i=j))) M:=wF WT
@[simp] theorem ams:sNe (.bl i) (.bl j) M= .ok (.bl (!decide (i=j))) M:=wF ahg
@[simp] theorem ak_:sIs d .non M= .ok (.bl (Ml d)) M:=id rfl
@[simp] theorem afC:CG d .non M= .ok (.bl (!Ml d)) M:=id rfl
@[simp] theorem aly:Ml .non=true:=id rfl
@[simp] theorem alz:Ml (.int i)=false:=id rfl
@[simp] theorem alx:Ml (.tup i)=false:=id rfl
theorem PX{α:Type}{xs:List α}{k:Int}(h:0<=k):Le xs k=xs[k.toNat]? := by
 unfold Le ixN
 rw[if_pos h]
 by_cases z:k<xs.length
 ·rw[if_pos z];rfl
 ·rw[if_neg z]
  show none=_
  rw[List.getElem?_eq_none ()]
theorem wG(h0:0<=k)(h:ds[k.toNat]? = some d):bf (.tup ds) (.int k) M= .ok d M:=
 jg (jg (by simp only[KN,PX h0,h]))
theorem afB(h0:0<=k)(h:ds[k.toNat]? = some d):bf (.cl ds) (.int k) M= .ok d M:=
 jg (jg (by simp only[KN,wD,PX h0,h]))
theorem NK(hM:M[n]? = some (.lst ds))(h0:0<=k)(h:ds[k.toNat]? = some d):bf (.ref n) (.int k) M= .ok d M:=
 jg (jg (by simp only[KN,wD,eF hM,PX h0,h]))
@[simp] theorem oY:bf (.tup (d::r)) (.int 0) M= .ok d M:=wG (by decide) rfl
@[simp] theorem Z_:bf (.tup (d0::d::r)) (.int 1) M= .ok d M:=wG (by decide) rfl
@[simp] theorem ai4:bf (.tup (d0::d1::d::r)) (.int 2) M= .ok d M:=wG (by decide) rfl
@[simp] theorem ai3:bf (.tup (d0::d1::d2::d::r)) (.int 3) M= .ok d M:=wG (by decide) rfl
theorem oX(hM:M[n]? = some (.lst ds)):jj [.ref n] M= .ok (.int ds.length) M:=T_ (T_ (by simp only[QZ,vp,wD,eF hM]))
@[simp] theorem aiZ:jj [.tup ds] M= .ok (.int ds.length) M:=id rfl
@[simp] theorem ak8:jj [.cl ds] M= .ok (.int ds.length) M:=id rfl
theorem Xv(hM:M[n]? = some (.lst ds)):Ca [.ref n] M= .ok (.ref M.length) (M++[.lst ds]):=by simp only[Ca,vp,wD,eF hM]
theorem Ih{n:Nat}{ds:List D}{lo hi:Option Int}(hM:M[n]? = some (.lst ds)):Xu (.ref n) lo hi M= .ok (.ref M.length) (M++[.lst (cut ds lo hi)]):=by simp only[Xu,wD,eF hM]
@[simp] theorem amo{ds:List D}{lo hi:Option Int}:Xu (.cl ds) lo hi M= .ok (.ref M.length) (M++[.lst (cut ds lo hi)]):=id rfl
theorem Q5(hM:M[n]? = some (.lst ds))(h:ds.length<16777216):wH (.ref n) [d] M= .ok .non (M.set n (.lst (ds++[d]))):=by
 simp only[wH,hM];rw[Et,if_pos h]
theorem Zn(hM:M[n]? = some (.lst ds)):Xi "list" (.ref n) M=true:=by simp[Xi,eF hM]
@[simp] theorem akR:Xi "int" (.int i) M=true:=id rfl
@[simp] theorem ah0:VD (.int i) [] M= .ok (.int (Builtin.Int.intBits i:Nat)) M:=id rfl
@[simp] theorem ahY:Jp [.int i,.int j] M= .ok (.int (if j > i then j else i)) M:=id rfl
@[simp] theorem ahX:Vz [.int i,.int j] M= .ok (.int (if j<i then j else i)) M:=id rfl
@[simp] theorem aiW:bU e M= .next e M:=id rfl
def gh.seq(o:gh)(t:MS):gh:=match o with
 | .next e M=>t e M
 | .ret d M=> .ret d M
 | .brk e M=> .brk e M
 | .cont e M=> .cont e M
 | .exc c d e M=> .exc c d e M
 | .bad=> .bad
@[simp] theorem Vy:aO s t e M=(s e M).seq t:=by
 unfold aO gh.seq
 cases s e M<;>rfl
@[simp] theorem QG:(gh.next e M).seq t=t e M:=id rfl
@[simp] theorem akZ:(gh.ret d M).seq t= .ret d M:=id rfl
@[simp] theorem ak0:(gh.exc c d e M).seq t= .exc c d e M:=id rfl
@[simp] theorem ai_:gZ m e M=tW e (m e M) λ_ M1=> .next e M1:=id rfl
@[simp] theorem acw:bx m e M=tW e (m e M) .ret:=id rfl
@[simp] theorem aiV:Z6 e M= .ret .non M:=id rfl
@[simp] theorem aac:nq c s t e M=tW e (c e M) (cN s t e):=id rfl
def tgO(o:Option Sl)(M:Mem):gh:=match o with
 | some e'=> .next e' M
 | none=> .bad
@[simp] theorem Zv:tgO (some e) M= .next e M:=id rfl
def Gx(g:Tg)(e:Sl)(d:D)(M:Mem):gh:=tgO (g d e) M
@[simp low] theorem ad_:Gx g e d M=tgO (g d e) M:=id rfl
@[simp] theorem VF:cD m g e M=tW e (m e M) (Gx g e):=by
 unfold cD Gx tgO;rfl
@[simp high] theorem ap2:tW e (.ok d M) (Gx (gN 1) (o0::o1::r))= .next (o0::some d::r) M:=id rfl
@[simp high] theorem ap1:tW e (.ok d M) (Gx (gN 2) (o0::o1::o2::r))= .next (o0::o1::some d::r) M:=id rfl
@[simp high] theorem ap0:tW e (.ok d M) (Gx (gN 3) (o0::o1::o2::o3::r))= .next (o0::o1::o2::some d::r) M:=id rfl
@[simp high] theorem apZ:tW e (.ok d M) (Gx (gN 4) (o0::o1::o2::o3::o4::r))= .next (o0::o1::o2::o3::some d::r) M:=id rfl
@[simp high] theorem apY:tW e (.ok d M) (Gx (gN 5) (o0::o1::o2::o3::o4::o5::r))= .next (o0::o1::o2::o3::o4::some d::r) M:=id rfl
@[simp high] theorem apW:tW e (.ok d M) (Gx (gN 6) (o0::o1::o2::o3::o4::o5::o6::r))= .next (o0::o1::o2::o3::o4::o5::some d::r) M:=id rfl
@[simp high] theorem apV:tW e (.ok d M) (Gx (gN 7) (o0::o1::o2::o3::o4::o5::o6::o7::r))= .next (o0::o1::o2::o3::o4::o5::o6::some d::r) M:=id rfl
@[simp high] theorem apU:tW e (.ok d M) (Gx (gN 8) (o0::o1::o2::o3::o4::o5::o6::o7::o8::r))= .next (o0::o1::o2::o3::o4::o5::o6::o7::some d::r) M:=id rfl
@[simp high] theorem aog:tW e (.ok d M) (Gx (gN 11) (o0::o1::o2::o3::o4::o5::o6::o7::o8::o9::o10::o11::r))= .next (o0::o1::o2::o3::o4::o5::o6::o7::o8::o9::o10::some d::r) M:=id rfl
@[simp high] theorem aof:tW e (.ok d M) (Gx (gN 12) (o0::o1::o2::o3::o4::o5::o6::o7::o8::o9::o10::o11::o12::r))= .next (o0::o1::o2::o3::o4::o5::o6::o7::o8::o9::o10::o11::some d::r) M:=id rfl
@[simp] theorem aeT:gN i d e=some (e.set i (some d)):=id rfl
@[simp] theorem apr:gT n gs (.tup ds) e=if ds.length=n then gs ds e else none:=id rfl
@[simp] theorem akd:dG g gs (d::ds) e=(g d e).bind (gs ds):=id rfl
@[simp] theorem alF:Al [] e=some e:=id rfl
def Rw(o:Option Mem)(e:Sl):gh:=match o with
 | some M=> .next e M
 | none=> .bad
@[simp] theorem ah5:Rw (some M) e= .next e M:=id rfl
def fl2(cs:List Nat)(f:Str)(e:Sl)(d o:D)(M:Mem):gh:=Rw (j6 cs f d o M) e
@[simp] theorem anJ:fl2 cs f e d o M=Rw (j6 cs f d o M) e:=id rfl
def fl1(f:D->D->Mem->gh)(mo:ME)(e:Sl)(d:D)(M:Mem):gh:=tW e (mo e M) (f d)
@[simp] theorem anL:fl1 f mo e d M=tW e (mo e M) (f d):=id rfl
@[simp] theorem ai9:dM cs mo mv f e M=tW e (mv e M) (fl1 (fl2 cs f e) mo e):=by
 unfold dM fl1 fl2 Rw;rfl
theorem jf(h:M[n]? = some (.ins c fs))(hc:c∈cs)(hl:fs.length<1000):j6 cs f d (.ref n) M=some (M.set n (.ins c (putD f d fs))):=by
 unfold j6;simp only[h];rw[if_pos ⟨hc,hl⟩]
def foO(g:Tg)(b:MS)(e:Sl)(it:Itm)(M:Mem):gh:=cC it.src g b it.ds e M
@[simp] theorem anH:foO g b e it M=cC it.src g b it.ds e M:=id rfl
@[simp] theorem ala:FP mi g b e M=tW e (mi e M) (foO g b e):=id rfl
@[simp] theorem eU:slots (n+1) (d::ds)=some d::slots n ds:=by
 unfold slots
 simp
@[simp] theorem fK:slots (n+1) []=none::slots n []:=by
 unfold slots
 simp[List.replicate_succ]
@[simp] theorem eO:slots 0 []=[]:=id rfl
def aap(o:gh):Out D:=match o with
 | .ret d M=> .ok d M
 | .next _ M=> .ok .non M
 | .exc c d _ M=> .exc c d M
 | _=> .bad
@[simp] theorem wI:aN n b ds M=aap (b (slots n ds) M):=by
 unfold aN aap
 cases b (slots n ds) M<;>rfl
@[simp] theorem aao:aap (.ret d M)= .ok d M:=id rfl
@[simp] theorem ajd:aap (.exc c d e M)= .exc c d M:=id rfl
@[simp] theorem ah1:aap (.next e M)= .ok .non M:=id rfl
end
def gh.to(o:gh)(P:Sl->Mem->Prop)(R:D->Mem->Prop):Prop:=match o with
 | .next e M=>P e M
 | .cont e M=>P e M
 | .ret d M=>R d M
 | _=>False
@[simp] theorem akU{P:Sl->Mem->Prop}{R:D->Mem->Prop}:(gh.next e M).to P R=P e M:=id rfl
theorem Mr(P:Nat->Sl->Mem->Prop){R:D->Mem->Prop}:∀(ds:List D) (k:Nat) {e:Sl} {M:Mem},P k e M->
  (∀i e M,k<=i->i<=k+ds.length->P i e M->ig src M)->
  (∀i d e M,ds[i]? = some d->P (k+i) e M->∃e1,g d e=some e1/\(b e1 M).to (P (k+i+1)) R)->
  (∃e' M',cC src g b ds e M= .next e' M'/\P (k+ds.length) e' M')\/∃r M',cC src g b ds e M= .ret r M'/\R r M'
 | [],k,e,M,h0,hs,_=> .inl ⟨e,M,by unfold cC;rw[if_pos (hs k e M (zac _) (zac _) h0)],h0⟩
 | d::ds,k,e,M,h0,hs,hb=>by
  unfold cC
  rw[if_pos (hs k e M (zac _) (Nat.le_add_right _ _) h0)]
  obtain⟨e1,hg,h⟩:=hb 0 d e M rfl h0
  rw[hg]
  have go:∀{e2:Sl} {M2:Mem},P (k+1) e2 M2->(∃e' M',cC src g b ds e2 M2= .next e' M'/\P (k+(d::ds).length) e' M')\/∃r M',cC src g b ds e2 M2= .ret r M'/\R r M':=λ{e2 M2} p=>by
   have go:=Mr (src:=src) (g:=g) (b:=b) P (R:=R) ds (k+1) (e:=e2) (M:=M2) p
    (λi e M h1 h2=>hs i e M () (by simp only[List.length_cons];omega)) (λi d e M hd hp=>by
     have e4:k+(i+1)=k+1+i:=()
     have:=hb (i+1) d e M (by simpa using hd) (by rw[e4];exact hp)
     rw[e4]at this
     exact this)
   have el:k+1+ds.length=k+(d::ds).length:=by simp only[List.length_cons];omega
   rw[el]at go
   exact go
  cases z:b e1 M with
  | next e2 M2=>rw[z]at h;simp only[z];exact go h
  | cont e2 M2=>rw[z]at h;simp only[z];exact go h
  | ret r M2=>rw[z]at h;simp only[z];exact .inr ⟨r,M2,rfl,h⟩
  | brk _ _=>rw[z]at h;exact h.elim
  | exc _ _ _ _=>rw[z]at h;exact h.elim
  | bad=>rw[z]at h;exact h.elim
theorem qR(P:Nat->Sl->Mem->Prop)(h0:P 0 e M)
  (hs:∀i e M,i<=ds.length->P i e M->ig src M)
  (hb:∀i d e M,ds[i]? = some d->P i e M->∃e1,g d e=some e1/\(b e1 M).to (P (i+1)) λ_ _=>False):
  ∃e' M',cC src g b ds e M= .next e' M'/\P ds.length e' M':=by
 rcases Mr (src:=src) (g:=g) (b:=b) P (R:=λ_ _=>False) ds 0 h0 (λi e M _ h2=>hs i e M ()) (λi d e M hd hp=>by
  rw[Nat.zero_add]at hp ⊢
  exact hb i d e M hd hp)with h | ⟨_,_,_,h⟩
 ·simpa using h
 ·exact h.elim
theorem Sg(P:Nat->List D->Mem->Prop):∀(ds:List D) (k:Nat) {ys:List D} {M:Mem},P k ys M->
  (∀i ys M,k<=i->i<=k+ds.length->P i ys M->ig src M)->
  (∀i d ys M,ds[i]? = some d->P (k+i) ys M->∃t M1,tt (some d::ce) M= .ok t M1/\((t=false/\P (k+i+1) ys M1)\/(t=true/\∃y M2,te (some d::ce) M1= .ok y M2/\P (k+i+1) (ys++[y]) M2)))->
  ∃ys' M',k_ src tt te ce ds ys M= .ok (.ref M'.length) (M'++[.lst ys'])/\P (k+ds.length) ys' M'
 | [],k,ys,M,h0,hs,_=>⟨ys,M,by unfold k_;rw[if_pos (hs k ys M (zac _) (zac _) h0)],h0⟩
 | d::ds,k,ys,M,h0,hs,hb=>by
  unfold k_
  rw[if_pos (hs k ys M (zac _) (Nat.le_add_right _ _) h0)]
  obtain⟨t,M1,ht,h⟩:=hb 0 d ys M rfl h0
  rw[ht,Gf,Out.bC]
  have el:k+1+ds.length=k+(d::ds).length:=by simp only[List.length_cons];omega
  have go:∀{ys2:List D} {M2:Mem},P (k+1) ys2 M2->∃ys' M',k_ src tt te ce ds ys2 M2= .ok (.ref M'.length) (M'++[.lst ys'])/\P (k+(d::ds).length) ys' M':=λ{ys2 M2} p=>by
   have:=Sg (src:=src) (tt:=tt) (te:=te) (ce:=ce) P ds (k+1) (ys:=ys2) (M:=M2) p
    (λi e M h1 h2=>hs i e M () (by simp only[List.length_cons];omega)) (λi d e M hd hp=>by
     have:=hb (i+1) d e M (by simpa using hd) (by have:k+(i+1)=k+1+i:=()
                                                  rw[this];exact hp)
     have e3:k+(i+1)+1=k+1+i+1:=()
     rw[e3]at this
     exact this)
   rw[el]at this
   exact this
  rcases h with⟨rfl,p⟩ | ⟨rfl,y,M2,hy,p⟩
  ·exact go p
  ·simp only[if_true]
   rw[hy,Gf,Out.bC]
   exact go p
theorem Kh(f:D->D)(hs:ig src M)(hf:∀d∈ds,te (some d::ce) M= .ok (f d) M):k_ src vM te ce ds [] M= .ok (.ref M.length) (M++[.lst (ds.map f)]):=by
 have key:∀(ds ys:List D),(∀d∈ds,te (some d::ce) M= .ok (f d) M)->k_ src vM te ce ds ys M= .ok (.ref M.length) (M++[.lst (ys++ds.map f)]):=by
  intro ds
  induction ds with
  | nil=>intro ys _;unfold k_;rw[if_pos hs];simp
  | cons d r ih=>
   intro ys h
   unfold k_
   rw[if_pos hs,Wg,Gf,Out.bC]
   simp only[if_true]
   rw[h d xB,Gf,Out.bC,ih _ λx hx=>h x (yT _ hx)]
   simp
 have:=key ds [] hf
 simpa using this
theorem Ii{lo:Int}{n i:Nat}(h:(FT lo n)[i]? = some d):i<n/\d= .int (lo+i):=by
 unfold FT at h
 rw[zan]at h
 obtain⟨k,hk,rfl⟩:=Option.map_eq_some_iff.mp h
 obtain⟨hi,e⟩:=List.getElem?_eq_some_iff.mp hk
 simp at hi e
 exact⟨hi,by rw[<-e]⟩
theorem VL{lo:Int}{n:Nat}:(FT lo n).length=n:=by simp[FT]
section
variable{X:Cx}{ct:Nat->Addr}{W:a_}
noncomputable def Hh:List D->Option Bool
 | []=>some true
 | .bl b::r=>(Hh r).map λk=>b&&k
 | _=>none
theorem SN:∀{ds:List D} {k:Bool},Hh ds=some k->∃bs:List Bool,ds=bs.map D.bl/\k=bs.all id
 | [],k,h=>by cases h;exact⟨[],rfl,rfl⟩
 | d::r,k,h=>by
  cases d with
  | bl b=>
   simp only[Hh]at h
   obtain⟨k',h1,rfl⟩:=Option.map_eq_some_iff.mp h
   obtain⟨bs,rfl,rfl⟩:=SN h1
   exact⟨b::bs,rfl,rfl⟩
  | _=>simp only[Hh]at h;cases h
theorem WX{K:Frag}{ι:Nat->Addr}{n:Nat}{H:Hp}:∀{bs:List Bool} {vs:List V},jm K ct ι n H (bs.map D.bl) vs->vs=bs.map V.bl
 | [],_,.nil=>rfl
 | b::bs,_,.cons h hs=>by cases h;rw[WX hs];rfl
theorem abS(bs:List Bool):(List.range bs.length).all (λj=>bs.getD j true)=bs.all id:=by
 rw[Bool.eq_iff_iff,List.all_eq_true,List.all_eq_true]
 constructor
 ·intro h b hb
  obtain⟨j,hj,e⟩:=List.mem_iff_getElem.mp hb
  have:=h j (List.mem_range.mpr hj)
  rw[List.getD_eq_getElem?_getD,zad hj]at this
  rw[<-e]
  exact this
 ·intro h j hj
  have hj':=List.mem_range.mp hj
  rw[List.getD_eq_getElem?_getD,zad hj']
  exact h _ (List.getElem_mem hj')
theorem YD(hc:X.calm=true):mV X (.builtin "all") (λxs H Q=>∃(a:Addr) (bs:List Bool),xs=[.ref a]/\qO X.K H a (bs.map V.bl)/\Q (.bl (bs.all id)) H):=by
 intro pins s σ H xs us Q I r h
 obtain⟨a,bs,rfl,hq,q⟩:=h
 obtain⟨u,rfl,ru⟩:=vals1 r
 cases(show u=Value.ref a from ru)
 obtain⟨its,rv,p,hz⟩:=I.list hq
 have hlt:a<s.heap.objs.size:=by obtain⟨o,n,e,_⟩:=p;exact zS e
 have hl:its.length=bs.length:=by rw[<-rv.length,zao]
 refine call_all_walk (wpAny_pyIter_list p.isList ⟨s.heap.objs.size,[s.heap.objs.size,a],[s.heap.objs.size],its.toArray.size,λi v=>its.toArray[i]? = some v,_,λj=>bs.getD j true,rfl,
  Walks.list (A:=X.A.in1) (I.ok.hd hc) s.heap.objs.size a (xD hlt) its.toArray,⟨⟨_,yB _ rfl,rfl,rfl⟩,p.isList.push _⟩,?_,λh' tk hk=> ?_⟩)
 ·intro i v s' Q' E' hP hQ
  have hP':its[i]? = some v:=by simpa using hP
  have hi:i<its.length:=(List.getElem?_eq_some_iff.mp hP').1
  have hb:bs[i]? = some bs[i]:=zad ()
  obtain⟨u,hu,ru⟩:=rv.get (i:=i) (x:=V.bl bs[i]) (by rw[zan,hb];rfl)
  rw[hP']at hu
  cases hu
  cases ru
  refine wpAny_truthy_bool ?_
  have e:bs.getD i true=bs[i]:=by rw[List.getD_eq_getElem?_getD,hb];rfl
  rw[<-e]
  exact hQ
 ·have e:(List.range its.toArray.size).all (λj=>bs.getD j true)=bs.all id:=by
   rw[List.size_toArray,hl]
   exact abS bs
  rw[e]
  exact⟨.bl _,H,I.kept λb o eb=>hk b o (by simp;exact xD (zS eb)) (zD _ eb),rfl,q⟩
noncomputable def Xw:Qd:=λds M=>match ds with
 | [d]=>match wD M d with
  | some es=>match Hh es with
   | some k=> .ok (.bl k) M
   | none=> .bad
  | none=> .bad
 | _=> .bad
theorem ahv(hc:X.calm=true):pL X ct (.builtin "all") Xw:=by
 refine⟨_,YD hc,λι M H ds vs Q R h p=> ?_⟩
 unfold Xw at p
 split at p
 ·rename_i d
  obtain⟨v,rfl,q⟩:=Gk h
  cases z:wD M d with
  | none=>rw[z]at p;exact p.elim
  | some es=>
   rw[z]at p
   dsimp only at p
   obtain⟨a,xs,rfl,hs,hd⟩:=R.seq z q
   cases z2:Hh es with
   | none=>rw[z2]at p;exact p.elim
   | some k=>
    rw[z2]at p
    obtain⟨bs,rfl,rfl⟩:=SN z2
    rw[WX hd]at hs
    exact⟨a,bs,rfl,hs,p ι _ H .refl R (.bl _)⟩
 ·exact p.elim
theorem YM(bs:List Bool):Hh (bs.map D.bl)=some (bs.all id):=by
 induction bs with
 | nil=>rfl
 | cons b r ih=>simp[Hh,ih]
theorem aag{n:Nat}{bs:List Bool}(h:M[n]? = some (.lst (bs.map D.bl))):Xw [.ref n] M= .ok (.bl (bs.all id)) M:=by
 simp only[Xw,wD,eF h,YM]
end
noncomputable def j_(i:Int):List D->List D
 | []=>[]
 | d::r=> .tup [.int i,d]::j_ (i+1) r
theorem Ms:∀(i:Int) (ds:List D) (k:Nat),(j_ i ds)[k]? = (ds[k]?).map λd=>D.tup [.int (i+k),d]
 | i,[],k=>by simp[j_]
 | i,d::r,0=>by simp[j_]
 | i,d::r,k+1=>by
  simp only[j_,List.getElem?_cons_succ]
  rw[Ms (i+1) r k]
  have:i+1+(k:Int)=i+((k+1:Nat):Int):=()
  rw[this]
theorem iY:∀(i:Int) (ds:List D),(j_ i ds).length=ds.length
 | _,[]=>rfl
 | i,_::r=>by simp[j_,iY (i+1) r]
noncomputable def sr(d k:D)(M:Mem):Out Itm:=match k with
 | .int i=>match d with
  | .ref n=>match m6 M n with
   | some ds=> .ok ⟨some (n,ds),j_ i ds⟩ M
   | none=> .bad
  | .cl ds=> .ok ⟨none,j_ i ds⟩ M
  | .tup ds=> .ok ⟨none,j_ i ds⟩ M
  | .mJ ds=> .ok ⟨none,j_ i ds⟩ M
  | _=> .bad
 | _=> .bad
def aa1(ma mb:ME):MI:=λe M=>(ma e M).bind λd M1=>(mb e M1).bind λk M2=>sr d k M2
section
variable{X:Cx}{ct:Nat->Addr}{W:a_}
theorem pG{K:Frag}{Sq:Hp->List V->Prop}{ι:Nat->Addr}{M:Mem}{H:Hp}{xs:List V}{ds:List D}{k:Int}(R:Rl K ct ι M H)(hq:Sq H xs)(hd:jm K ct ι M.length H ds xs)(i:Nat):
  (∀d,(j_ k ds)[i]? = some d->(Ite Sq k).go i H/\∀x H2,(Ite Sq k).YW i H x H2->Ext K ι M.length H ι M.length H2/\Rl K ct ι M H2/\DV K ct ι M.length H2 d x)/\((j_ k ds).length<=i->(Ite Sq k).stop i H):=by
 refine⟨λd e=> ?_,λh=>⟨xs,hq,by rw[hd.length];rw[iY]at h;exact h⟩⟩
 rw[Ms]at e
 obtain⟨d0,e0,rfl⟩:=Option.map_eq_some_iff.mp e
 obtain⟨v,hv,dv⟩:=hd.at e0
 refine⟨⟨xs,v,hq,hv⟩,λx H2 y=> ?_⟩
 obtain⟨p,y0,hp,rfl,rfl,hy⟩:=y
 have z:=hy xs hq
 rw[hv]at z
 cases z
 exact⟨Ext.fresh hp,R.fresh hp,.tup bw (.cons (.int _) (.cons (dv.mono (Ext.fresh hp)) .nil))⟩
theorem ZX(hg:Gl X "enumerate")(hm:X.mg "enumerate" = none)(ha:SE X ct W a ma)(hb:SE X ct W b mb)
  (he:backTo pos (starEach [a] X.env)=(false,eval a X.env)::backTo pos (starEach [] X.env):=by rfl)
  (hs:starEach [a] X.env=(false,eval a X.env)::starEach [] X.env:=by rfl)
  (hplain:(backTo pos (starEach [a] X.env)).any (·.1)=false:=by rfl)
  (hall:(backToKw pos (keywordEach [⟨some "start",b,kp⟩] X.env)).all (·.1.isSome)=true:=by rfl)
  (hkw:(backToKw pos (keywordEach [⟨some "start",b,kp⟩] X.env)).any (·.1.isNone)=false:=by rfl)
  (hnm:(backToKw pos (keywordEach [⟨some "start",b,kp⟩] X.env)).filterMap (·.1)=[("start" : Str)]:=by rfl):
  SI X ct W (.Tuple es n tp) (.Call (.Name "enumerate" p) [a] [⟨some "start",b,kp⟩] pos) (aa1 ma mb):=PI.imp (aaB hg hm ha hb he hs hplain hall hkw hnm) λσ H R q=>by
 obtain⟨ι,e,M,w,p⟩:=bH (dm:=cP X.K ct) (f:=λd e M1=>(mb e M1).bind λk M2=>sr d k M2) q
 refine⟨ι,e,M,w,p.mono ?_⟩
 rintro x H1 ⟨bV,e1,M1,d,w1,q1,p1⟩
 refine⟨bV,e1,M1,w1,?_⟩
 cases z:mb e1 M1 with
 | bad=>simp only[z,Out.cL]at p1;exact p1
 | exc xc xd xM=>simp only[z,Out.d_]at p1;exact p1
 | ok k M2=>
  simp only[z,Out.bC]at p1
  intro gQ y H2 x2 r2 q2
  have p2:=p1.ext x2
  have q1:=q1.mono x2
  cases q2 with
  | int i=>
   cases q1 with
   | @ref m hm=>
    simp only[sr]at p2
    cases z0:m6 M2 m with
    | none=>rw[z0]at p2;exact p2.elim
    | some ds=>
     simp only[z0]at p2
     obtain⟨xs,hH,hd⟩:=r2.obj m _ (jE.mp z0)
     refine⟨_,i,rfl,rfl,.inl ⟨⟨xs,qO.of hH⟩,λhz=>p2 gQ _ H2 .refl r2 ⟨z0,by rw[iY,<-hd.length];exact hz xs (qO.of hH),λDq M3 H3 x3 r3 ok3 j=> ?_⟩⟩⟩
     obtain⟨xs3,hH3,hd3⟩:=r3.obj m _ (jE.mp ok3)
     rw[<-x3.same m hm]
     exact pG r3 (qO.of hH3) hd3 j
   | cl h1 h2=>exact⟨_,i,rfl,rfl,.inl ⟨⟨_,h1.sq⟩,λhz=>p2 gQ _ H2 .refl r2 ⟨trivial,by rw[iY,<-h2.length];exact hz _ h1.sq,λDq M3 H3 x3 r3 ok3 j=>pG (Sq:=λH xs=>qO X.K H _ xs) r3 (x3.lV _ _ h1).sq (h2.mono x3) j⟩⟩⟩
   | tup h1 h2=>exact⟨_,i,rfl,rfl,.inr ⟨⟨_,lY.of h1⟩,λhz=>p2 gQ _ H2 .refl r2 ⟨trivial,by rw[iY,<-h2.length];exact hz _ (lY.of h1),λDq M3 H3 x3 r3 ok3 j=>pG (Sq:=λH xs=>lY X.K H _ xs) r3 (lY.of (x3.tup _ _ h1)) (h2.mono x3) j⟩⟩⟩
   | mJ h1 h2=>exact⟨_,i,rfl,rfl,.inr ⟨⟨_,.inr h1⟩,λhz=>p2 gQ _ H2 .refl r2 ⟨trivial,by rw[iY,<-h2.length];exact hz _ (.inr h1),λDq M3 H3 x3 r3 ok3 j=>pG (Sq:=λH xs=>lY X.K H _ xs) r3 (.inr h1) (h2.mono x3) j⟩⟩⟩
   | _=>exact p2.elim
  | _=>exact p2.elim
@[simp] theorem ajQ:aa1 ma mb e M=(ma e M).bind (bd2 sr mb e):=id rfl
@[simp] theorem ahi:sr (.tup ds) (.int i) M= .ok ⟨none,j_ i ds⟩ M:=id rfl
def Um(ma:ME):MI:=λe M=>(ma e M).bind λd M1=>sr d (.int 0) M1
theorem ZZ(hg:Gl X "enumerate")(hm:X.mg "enumerate" = none)(ha:SE X ct W a ma)
  (hs:starEach [a] X.env=[(false,eval a X.env)]:=by rfl):
  SI X ct W (.Tuple es n tp) (.Call (.Name "enumerate" p) [a] [] pos) (Um ma):=PI.imp (aaC hg hm ha hs) λσ H R q=>by
 obtain⟨ι,e,M,w,p⟩:=bH (dm:=cP X.K ct) (f:=λd _ M1=>sr d (.int 0) M1) q
 refine⟨ι,e,M,w,p.mono ?_⟩
 rintro x H1 ⟨gQ,e1,M2,d,w1,q1,p2⟩
 have r2:=w1.rl
 cases q1 with
 | @ref m hm=>
  simp only[sr]at p2
  cases z0:m6 M2 m with
  | none=>rw[z0]at p2;exact p2.elim
  | some ds=>
   simp only[z0]at p2
   obtain⟨xs,hH,hd⟩:=r2.obj m _ (jE.mp z0)
   refine⟨_,rfl,.inl ⟨⟨xs,qO.of hH⟩,λhz=>p2 gQ _ H1 .refl r2 ⟨z0,by rw[iY,<-hd.length];exact hz xs (qO.of hH),λDq M3 H3 x3 r3 ok3 j=> ?_⟩⟩⟩
   obtain⟨xs3,hH3,hd3⟩:=r3.obj m _ (jE.mp ok3)
   rw[<-x3.same m hm]
   exact pG r3 (qO.of hH3) hd3 j
 | cl h1 h2=>exact⟨_,rfl,.inl ⟨⟨_,h1.sq⟩,λhz=>p2 gQ _ H1 .refl r2 ⟨trivial,by rw[iY,<-h2.length];exact hz _ h1.sq,λDq M3 H3 x3 r3 ok3 j=>pG (Sq:=λH xs=>qO X.K H _ xs) r3 (x3.lV _ _ h1).sq (h2.mono x3) j⟩⟩⟩
 | tup h1 h2=>exact⟨_,rfl,.inr ⟨⟨_,lY.of h1⟩,λhz=>p2 gQ _ H1 .refl r2 ⟨trivial,by rw[iY,<-h2.length];exact hz _ (lY.of h1),λDq M3 H3 x3 r3 ok3 j=>pG (Sq:=λH xs=>lY X.K H _ xs) r3 (lY.of (x3.tup _ _ h1)) (h2.mono x3) j⟩⟩⟩
 | mJ h1 h2=>exact⟨_,rfl,.inr ⟨⟨_,.inr h1⟩,λhz=>p2 gQ _ H1 .refl r2 ⟨trivial,by rw[iY,<-h2.length];exact hz _ (.inr h1),λDq M3 H3 x3 r3 ok3 j=>pG (Sq:=λH xs=>lY X.K H _ xs) r3 (.inr h1) (h2.mono x3) j⟩⟩⟩
 | _=>exact p2.elim
@[simp] theorem ah6:Um ma e M=(ma e M).bind λd M1=>sr d (.int 0) M1:=id rfl
@[simp] theorem ahj:sr (.mJ ds) (.int i) M= .ok ⟨none,j_ i ds⟩ M:=id rfl
@[simp] theorem ai0:jj [.mJ ds] M= .ok (.int ds.length) M:=id rfl
noncomputable def one(ds:List D)(c:Nat)(e:Sl)(M:Mem):gh:=match ds with
 | [d]=> .exc c d e M
 | _=> .bad
def sRz(c:Nat)(ms:MA):MS:=λe M=>tW e (ms e M) λds M1=>one ds c e M1
theorem ZR(Mx:XMk X.K (ct c) f)(hX:Lf X.K (ct c) "at")(F:gP X.prog X.w X.K X.mg X.base YT k f fd ps (Bh X.K "at"))(hr:iw (k+1) X.A)(hb:Binds X.K fd ps [])
  (hg:Gl X x) (hm:X.mg x=some (.ref (ct c))) (hc:X.calm=true) (hW:Tk X W) (ha:SA X ct W [arg] ms) (hdb:(x==("__debug__" : Str))=false:=by decide) (he:starEach [arg] X.env=[(false,eval arg X.env)]:=by rfl):
  SS X ct W (.Raise (some (.Call (.Name x np) [arg] [] cpos)) none pos) (sRz c ms):=PS.imp (aay Mx hX F hr hb hg hm hc hW ha hdb he) λT σ H q=>by
 obtain⟨ι,e,M,w,p⟩:=qI (rel:=Hw X.K ct) (f:=λds e M1=>one ds c e M1) q
 refine⟨ι,e,M,w,p.mono ?_⟩
 rintro vs H1 ⟨bV,e1,M1,ds,w1,q1,p1⟩
 unfold one at p1
 split at p1
 ·rename_i d
  obtain⟨v,rfl,qv⟩:=Gk q1
  refine⟨v,rfl,λdx hd=> ?_⟩
  have x2:Ext X.K bV M1.length H1 bV M1.length (upd H1 dx (.xd [("at",v)])):=Ext.fresh hd
  exact p1 bV σ dx v _ x2 (w1.ext x2 (w1.rl.fresh hd)) bw (qv.mono x2)
 ·exact p1.elim
def Xe(K:Frag)(ct:Nat->Addr)(cv:Value):List (Nat×Bool)->Prop
 | []=>True
 | (c,b)::r=>exmOne K (.ref (ct c)) cv=some b/\Xe K ct cv r
theorem Xe.get{K:Frag}{cv:Value}:∀{cl:List (Nat×Bool)} {c:Nat} {b:Bool},Xe K ct cv cl->cl.lookup c=some b->exmOne K (.ref (ct c)) cv=some b
 | [],_,_,_,h=>by simp at h
 | (k,b')::r,c,b,⟨h1,h2⟩,h=>by
  rw[List.lookup_cons]at h
  cases z:c==k with
  | true=>rw[z]at h;cases h;cases(beq_iff_eq.mp z);exact h1
  | false=>rw[z]at h;exact h2.get h
noncomputable def gh.X6(o:gh):gh:=match o with
 | .exc _ _ _ _=> .bad
 | o=>o
noncomputable def Zt(cl:List (Nat×Bool))(h:Nat->D->Sl->Mem->gh)(o:gh):gh:=match o with
 | .exc c d e M=>match cl.lookup c with
  | some true=>h c d e M
  | some false=> .exc c d e M
  | none=> .bad
 | o=>o
def acv(cl:List (Nat×Bool))(b s:MS):MS:=λe M=>Zt cl (λ_ _ e' M'=>(s e' M').X6) (b e M)
theorem pK.X6{K:Frag}{ι:Nat->Addr}{n:Nat}{H:Hp}{o:gh}{T:Ends}(h:pK K ct W ι n H o.X6 T):pK K ct W0 ι n H o T:=by
 cases o with
 | exc c d e M=>exact False.elim h
 | next e M=>exact h
 | ret e M=>exact h
 | brk e M=>exact h
 | cont e M=>exact h
 | bad=>exact h
variable{c:Str}{cp hpos pos:Pos}{b₀:Stmt}{suite body:List Stmt}{b s:MS}{cl:List (Nat×Bool)}{cv:Value}{v:V}
theorem afo(hst:X.stack=X.env::X.outer)(hf:X.env.frame=some X.env.locals)(hx:Tk X W)(hv:∀u,RelV v u->u=cv)(hn:∀e,PE (X.held e) (.Name c cp) (tC v))(hm:Xe X.K ct cv cl)
  (hb:∀pins W1,YS ((X.pp pins).wish (iB (X.pp pins) W1)) ct W1 body b) (hs:∀e,YS (X.held e) ct W0 (b₀::suite) s):
  SS X ct W (.Try body [.ExceptHandler (some (.Name c cp)) none (b₀::suite) hpos] [] [] pos) (acv cl b s):=
 PS.imp (acS (tb:=λW1=>tS X.K ct W1 b) (ts:=tS X.K ct W0 s) hst hf hx hv hn hb hs) λT σ H ⟨ι,e,M,w,p⟩=>by
  refine⟨ι,e,M,w,?_⟩
  unfold acv at p
  cases z:b e M with
  | exc xc xd xe xM=>
   rw[z]at p
   simp only[Zt]at p
   cases z2:cl.lookup xc with
   | none=>simp only[z2]at p;exact p.elim
   | some k=>
    simp only[z2]at p
    have e2:=hm.get z2
    cases k with
    | false=>exact λι' σ' dx v' H' x w' q1 q2=>⟨false,e2,p ι' σ' dx v' H' x w' q1 q2⟩
    | true=>exact λι' σ' dx v' H' x w' q1 q2=>⟨true,e2,ι',xe,xM,w',(pK.X6 p).ext x⟩
  | next _ _=>rw[z]at p;exact p
  | ret _ _=>rw[z]at p;exact p
  | brk _ _=>rw[z]at p;exact p
  | cont _ _=>rw[z]at p;exact p
  | bad=>rw[z]at p;exact p
end
section
variable{e:Sl}{M:Mem}{c:Nat}{d:D}
@[simp] theorem amq:sRz c ms e M=tW e (ms e M) λds M1=>one ds c e M1:=id rfl
@[simp] theorem ak2:acv cl b s e M=Zt cl (λ_ _ e' M'=>(s e' M').X6) (b e M):=id rfl
@[simp] theorem ajC:(gh.next e M).X6= .next e M:=id rfl
end
section
variable{X:Cx}{ct:Nat->Addr}{W:a_}{pos:Pos}
def qF:ME:=λ_ M=> .ok (.ref M.length) (M++[.dk []])
theorem je:SE X ct W (.Dict [] [] pos) qF:=dJ aaK λσ H Q ⟨ι,e,M,w,p⟩ pp hp=>by
 have el:(M++[MO.dk []]).length=M.length+1:=by simp
 have x:Ext X.K ι M.length H (jF ι M.length pp) (M.length+1) (upd H pp (.dK [])):=Ext.new hp
 have e0:(jF ι M.length pp) M.length=pp:=by unfold jF;rw[if_pos rfl]
 have dv:DV X.K ct (jF ι M.length pp) (M++[MO.dk []]).length (upd H pp (.dK [])) (.ref M.length) (.ref pp):=by
  have:=DV.ref (K:=X.K) (ct:=ct) (ι:=jF ι M.length pp) (n:=(M++[MO.dk []]).length) (H:=upd H pp (.dK [])) (i:=M.length) (by rw[el];omega)
  rw[e0]at this
  exact this
 exact p (jF ι M.length pp) (.ref pp) _ (by rw[el];exact x) (w.rl.new hp ⟨[],bw,.nil⟩) dv
noncomputable def rY(d:D)(M:Mem):Bool:=match d with
 | .ref n=>match M[n]? with
  | some (.dk _)=>true
  | some (.dt _)=>true
  | _=>false
 | _=>false
theorem RQ{K:Frag}{ι:Nat->Addr}{M:Mem}{H:Hp}{d:D}{v:V}(R:Rl K ct ι M H)(h:rY d M=true)(q:DV K ct ι M.length H d v):∃n,d= .ref n/\n<M.length/\v= .ref (ι n)/\IsD H (ι n):=by
 cases d with
 | ref n=>
  obtain⟨hn,rfl⟩:=kZ q
  refine⟨n,rfl,hn,rfl,?_⟩
  unfold rY at h
  dsimp only at h
  split at h
  ·rename_i kvs e
   obtain⟨vs,hH,_⟩:=R.obj n _ e
   exact .inl ⟨vs,.inl hH⟩
  ·rename_i kvs e
   obtain⟨vs,hH,_⟩:=R.obj n _ e
   exact .inr ⟨vs,.inl hH⟩
  ·cases h
 | _=>exact absurd h xA
noncomputable def Dd(d k x:D)(M:Mem):Out D:=match d with
 | .ref n=>match yz M n k with
  | some (some v,M')=> .ok v M'
  | some (none,M')=> .ok x M'
  | none=> .bad
 | _=> .bad
noncomputable def Ci(mo mk mx:ME):ME:=λe M=>(mo e M).bind λd M1=>if rY d M1=true then(mk e M1).bind λk M2=>(mx e M2).bind λx M3=>Dd d k x M3 else .bad
noncomputable def We(mo mk:ME):ME:=λe M=>(mo e M).bind λd M1=>if rY d M1=true then(mk e M1).bind λk M2=>Dd d k .non M2 else .bad
theorem WL(R:Rl X.K ct ι M H)(hn:n<M.length)(qk:DV X.K ct ι M.length H k vk)(qx:DV X.K ct ι M.length H x vx)(p:iV (cP X.K ct) X.K ct w ι M.length H (Dd (.ref n) k x M) Q):
  ∃o H',Vh H (ι n) vk o H'/\Q (o.getD vx) H':=by
 simp only[Dd]at p
 split at p
 ·rename_i v M' e
  obtain⟨ov,H',g,x2,R',h1,_⟩:=Ip R e hn qk
  obtain⟨u,rfl,dv,_,_⟩:=h1 v rfl
  exact⟨_,H',g,p ι u H' x2 R' dv⟩
 ·rename_i M' e
  obtain⟨ov,H',g,x2,R',_,h2⟩:=Ip R e hn qk
  have:=h2 rfl
  subst this
  exact⟨_,H',g,p ι vx H' x2 R' (qx.mono x2)⟩
 ·exact p.elim
variable{o e f i value:Expr}{mo mk mx mv:ME}{apos cpos pos':Pos}
theorem tO(hu:X.A.units+64<cLine)(ho:SE X ct W o mo)(he:SE X ct W e mk)(hf:SE X ct W f mx)
  (base:attributeBase o "get" X.env (eval o X.env)=eval o X.env:=by rfl)
  (few:((backTo cpos (starEach [e,f] X.env)).all (λx=> !x.1)&&(backToKw cpos (keywordEach [] X.env)).all (λx=>x.1.isSome)
   && decide (([e,f]:List Expr).length+([]:List Keyword).length+(if([]:List Keyword).isEmpty then 0 else 1)<30))=true:=by rfl)
  (line:(apos.endLine==cpos.line)=true:=by rfl) (trees:backTo cpos (starEach [e,f] X.env)=[(false,eval e X.env),(false,eval f X.env)]:=by rfl):
  SE X ct W (.Call (.Attribute o "get" apos) [e,f] [] cpos) (Ci mo mk mx):=dJ (aaI () ho he hf ⟨base,few,line,trees⟩) λσ H Q q=>by
 obtain⟨ι,e,M,w,p⟩:=bH (dm:=cP X.K ct) (f:=λd e M1=>if rY d M1=true then(mk e M1).bind λk M2=>(mx e M2).bind λx M3=>Dd d k x M3 else .bad) q
 refine⟨ι,e,M,w,p.mono ?_⟩
 rintro v H1 ⟨bV,e1,M1,d,w1,q1,p1⟩
 cases z:rY d M1 with
 | false=>simp only[z,Bool.false_eq_true,if_false]at p1;exact p1.elim
 | true=>
  simp only[z,if_true]at p1
  obtain⟨n,rfl,hn,rfl,hD⟩:=RQ w1.rl z q1
  refine⟨_,rfl,hD,bV,e1,M1,w1,?_⟩
  cases z2:mk e1 M1 with
  | bad=>simp only[z2,Out.cL]at p1;exact p1
  | exc xc xd xM=>simp only[z2,Out.d_]at p1;exact p1
  | ok k M2=>
   simp only[z2,Out.bC]at p1
   intro gQ vk H2 x2 r2 q2
   refine⟨gQ,e1,M2,w1.ext x2 r2,?_⟩
   have p2:=p1.ext x2
   cases z3:mx e1 M2 with
   | bad=>simp only[z3,Out.cL]at p2;exact p2
   | exc xc xd xM=>simp only[z3,Out.d_]at p2;exact p2
   | ok x M3=>
    simp only[z3,Out.bC]at p2
    intro Dq vx H3 x3 r3 q3
    have:=WL r3 (yA (yA hn x2.le) x3.le) (q2.mono x3) q3 (p2.ext x3)
    rw[<-x2.same n hn,<-x3.same n (yA hn x2.le)]
    exact this
theorem Vx(hu:X.A.units+64<cLine)(ho:SE X ct W o mo)(he:SE X ct W e mk)
  (base:attributeBase o "get" X.env (eval o X.env)=eval o X.env:=by rfl)
  (few:((backTo cpos (starEach [e] X.env)).all (λx=> !x.1)&&(backToKw cpos (keywordEach [] X.env)).all (λx=>x.1.isSome)
   && decide (([e]:List Expr).length+([]:List Keyword).length+(if([]:List Keyword).isEmpty then 0 else 1)<30))=true:=by rfl)
  (line:(apos.endLine==cpos.line)=true:=by rfl) (trees:backTo cpos (starEach [e] X.env)=[(false,eval e X.env)]:=by rfl):
  SE X ct W (.Call (.Attribute o "get" apos) [e] [] cpos) (We mo mk):=dJ (aaJ () ho he ⟨base,few,line,trees⟩) λσ H Q q=>by
 obtain⟨ι,e,M,w,p⟩:=bH (dm:=cP X.K ct) (f:=λd e M1=>if rY d M1=true then(mk e M1).bind λk M2=>Dd d k .non M2 else .bad) q
 refine⟨ι,e,M,w,p.mono ?_⟩
 rintro v H1 ⟨bV,e1,M1,d,w1,q1,p1⟩
 cases z:rY d M1 with
 | false=>simp only[z,Bool.false_eq_true,if_false]at p1;exact p1.elim
 | true=>
  simp only[z,if_true]at p1
  obtain⟨n,rfl,hn,rfl,hD⟩:=RQ w1.rl z q1
  refine⟨_,rfl,hD,bV,e1,M1,w1,?_⟩
  cases z2:mk e1 M1 with
  | bad=>simp only[z2,Out.cL]at p1;exact p1
  | exc xc xd xM=>simp only[z2,Out.d_]at p1;exact p1
  | ok k M2=>
   simp only[z2,Out.bC]at p1
   intro gQ vk H2 x2 r2 q2
   have:=WL r2 (yA hn x2.le) q2 .non (p1.ext x2)
   rw[<-x2.same n hn]
   exact this
noncomputable def yC(M:Mem)(o k d:D):Option Mem:=match o with
 | .ref n=>match M[n]? with
  | some (.dk kvs)=>match toKey k with
   | some kk=>if kvs.length<sizeLine then some (M.set n (.dk (N5 kvs kk d)))else none
   | none=>match k with
    | .tup ds=>match toKeys ds with
     | some ks=>if kvs.isEmpty=true then some (M.set n (.dt [(ks,d)]))else none
     | none=>none
    | _=>none
  | some (.dt kvs)=>match k with
   | .tup ds=>match toKeys ds with
    | some ks=>if kvs.length<sizeLine then some (M.set n (.dt (N5 kvs ks d)))else none
    | none=>none
   | _=>none
  | _=>none
 | _=>none
theorem adT(R:Rl X.K ct ι M H)(h:yC M (.ref n) k d=some M')(hn:n<M.length)(qk:DV X.K ct ι M.length H k vk)(qd:DV X.K ct ι M.length H d vd):
  ∃H',akM H (ι n) vk vd H'/\Ext X.K ι M.length H ι M'.length H'/\Rl X.K ct ι M' H':=by
 simp only[yC]at h
 split at h
 ·rename_i kvs e
  obtain⟨vs,hH,pv⟩:=R.obj n _ e
  split at h
  ·rename_i kk ek
   split at h
   ·rename_i hz
    cases h
    have:=yS ek qk
    subst this
    have x2:Ext X.K ι M.length H ι M.length (upd H (ι n) (.dK (putK vs kk vd))):=Ext.chg hH (λ_ z=>nomatch z) (λ_ _ z=>nomatch z)
    exact⟨_,.inl (Qf.k hH (by rw[pv.length];exact hz)),by rw[List.length_set];exact x2,R.chg hn hH (λ_ z=>nomatch z) (λ_ _ z=>nomatch z) ⟨_,bw,(pv.put qd kk).mono x2⟩⟩
   ·cases h
  ·split at h
   ·rename_i ds
    split at h
    ·rename_i ks eks
     split at h
     ·rename_i hem
      cases h
      have ek:kvs=[]:=List.isEmpty_iff.mp hem
      subst ek
      cases pv
      obtain⟨b,xs,rfl,hb,hd⟩:=kj qk
      have ex:=vg eks hd
      subst ex
      have x2:Ext X.K ι M.length H ι M.length (upd H (ι n) (.dT [(ks,vd)])):=Ext.chg hH (λ_ z=>nomatch z) (λ_ _ z=>nomatch z)
      exact⟨_,.inr ⟨ks,b,hH,rfl,hb,rfl⟩,by rw[List.length_set];exact x2,R.chg hn hH (λ_ z=>nomatch z) (λ_ _ z=>nomatch z) ⟨_,bw,.cons (qd.mono x2) .nil⟩⟩
     ·cases h
    ·cases h
   ·cases h
 ·rename_i kvs e
  obtain⟨vs,hH,pv⟩:=R.obj n _ e
  split at h
  ·rename_i ds
   split at h
   ·rename_i ks eks
    split at h
    ·rename_i hz
     cases h
     obtain⟨b,xs,rfl,hb,hd⟩:=kj qk
     have ex:=vg eks hd
     subst ex
     have x2:Ext X.K ι M.length H ι M.length (upd H (ι n) (.dT (putK vs ks vd))):=Ext.chg hH (λ_ z=>nomatch z) (λ_ _ z=>nomatch z)
     exact⟨_,.inl (Qf.t hH hb (by rw[pv.length];exact hz)),by rw[List.length_set];exact x2,R.chg hn hH (λ_ z=>nomatch z) (λ_ _ z=>nomatch z) ⟨_,bw,(pv.put qd ks).mono x2⟩⟩
    ·cases h
   ·cases h
  ·cases h
 ·cases h
noncomputable def iC(mo mk mv:ME):MS:=λe M=>tW e (mv e M) λd M1=>tW e (mo e M1) λo M2=>tW e (mk e M2) λk M3=>Rw (yC M3 o k d) e
theorem gm(hu:X.A.units+64<cLine)(ho:SE X ct W o mo)(hi:SE X ct W i mk)(hv:SE X ct W value mv)(hs:swapsWith value (some (.Subscript o i pos')) pos.line X.env=pure false:=by rfl):
  SS X ct W (.Assign [.Subscript o i pos'] value pos) (iC mo mk mv):=PS.imp (acW () ho hi hv hs) λT σ H q=>by
 obtain⟨ι,e,M,w,p⟩:=qI (rel:=cP X.K ct) (f:=λd e M1=>tW e (mo e M1) λo M2=>tW e (mk e M2) λk M3=>Rw (yC M3 o k d) e) q
 refine⟨ι,e,M,w,p.mono ?_⟩
 rintro vd H1 ⟨bV,e1,M1,d,w1,q1,p1⟩
 refine⟨bV,e1,M1,w1,?_⟩
 cases z:mo e1 M1 with
 | bad=>simp only[z,Ik]at p1;exact p1
 | exc xc xd xM=>simp only[z,Ij]at p1;exact λgQ dx v H2 x r q1 q2=>p1 gQ σ dx v H2 x (w1.ext x r) q1 q2
 | ok o' M2=>
  simp only[z,Ge]at p1
  intro gQ vo H2 x2 r2 q2
  have p2:=p1.ext x2
  have w2:=w1.ext x2 r2
  refine⟨gQ,e1,M2,w2,?_⟩
  cases z2:mk e1 M2 with
  | bad=>simp only[z2,Ik]at p2;exact p2
  | exc xc xd xM=>simp only[z2,Ij]at p2;exact λDq dx v H3 x r q1 q2=>p2 Dq σ dx v H3 x (w2.ext x r) q1 q2
  | ok k M3=>
   simp only[z2,Ge]at p2
   intro Dq vk H3 x3 r3 q3
   have p3:=p2.ext x3
   have w3:=w2.ext x3 r3
   cases z3:yC M3 o' k d with
   | none=>rw[z3]at p3;exact p3.elim
   | some M4=>
    rw[z3]at p3
    cases o' with
    | ref n=>
     obtain⟨hn,rfl⟩:=kZ q2
     have hn3:n<M3.length:=yA hn x3.le
     obtain⟨H4,g,x4,r4⟩:=adT r3 z3 hn3 q3 ((q1.mono x2).mono x3)
     refine⟨_,H4,rfl,?_,p3 Dq σ H4 x4 (w3.ext x4 r4)⟩
     rw[<-x3.same n hn]
     exact g
    | _=>simp only[yC]at z3;cases z3
end
section
variable{e:Sl}{M:Mem}
@[simp] theorem RB:qF e M= .ok (.ref M.length) (M++[.dk []]):=id rfl
def gt3(mx:ME)(e:Sl)(d k:D)(M:Mem):Out D:=(mx e M).bind (Dd d k)
@[simp] theorem anw:gt3 mx e d k M=(mx e M).bind (Dd d k):=id rfl
def gt2(f:D->D->Mem->Out D)(mk:ME)(e:Sl)(d:D)(M:Mem):Out D:=if rY d M=true then(mk e M).bind (f d)else .bad
@[simp] theorem anx:gt2 f mk e d M=if rY d M=true then(mk e M).bind (f d)else .bad:=id rfl
@[simp] theorem ajO:Ci mo mk mx e M=(mo e M).bind (gt2 (gt3 mx e) mk e):=id rfl
def gt1(d k:D)(M:Mem):Out D:=Dd d k .non M
@[simp] theorem anA:gt1 d k M=Dd d k .non M:=id rfl
@[simp] theorem ajP:We mo mk e M=(mo e M).bind (gt2 gt1 mk e):=id rfl
def ds3(p:Mem->D->D->D->Option Mem)(e:Sl)(d o k:D)(M:Mem):gh:=Rw (p M o k d) e
@[simp] theorem anO:ds3 p e d o k M=Rw (p M o k d) e:=id rfl
def ds2(p:Mem->D->D->D->Option Mem)(mk:ME)(e:Sl)(d o:D)(M:Mem):gh:=tW e (mk e M) (ds3 p e d o)
@[simp] theorem anQ:ds2 p mk e d o M=tW e (mk e M) (ds3 p e d o):=id rfl
@[simp] theorem ahZ:iC mo mk mv e M=tW e (mv e M) (fl1 (ds2 yC mk e) mo e):=id rfl
theorem xr(h:M[n]? = some (.dk kvs)):rY (.ref n) M=true:=by simp only[rY,h]
theorem adH(h:M[n]? = some (.dt kvs)):rY (.ref n) M=true:=by simp only[rY,h]
theorem Gp(h:M[n]? = some (.dk kvs)):yz M n (.int s)=some (pM kvs (.inl s),M):=by simp only[yz,h,toKey]
theorem ahr(h:M[n]? = some (.dt kvs))(hk:toKeys ds=some ks):yz M n (.tup ds)=some (pM kvs ks,M):=by simp only[yz,h,hk]
theorem ahs(h:M[n]? = some (.dk []))(hk:toKeys ds=some ks):yz M n (.tup ds)=some (none,M.set n (.dt [])):=by simp only[yz,h,hk,toKey];rfl
end
end S
namespace S
open PySem L2
variable{M:Mem}
theorem acz(h0:0<=k)(h:a.cps.toList[k.toNat]? = some c)(hl:a.length<=16777216):bf (.str a) (.int k) M= .ok (.str ⟨#[c]⟩) M:=by
 refine(pA rfl).trans ?_
 simp only[acB,PX h0,h]
 rw[if_pos (by rw[Et];exact hl)]
end S
namespace S
theorem Gu:PySem.bootBuiltins "sorted" = some (.builtin "sorted"):=by rfl
open PySem PySem.Spec PyProof.Rows L2
section
variable{X:Cx}{ct:Nat->Addr}{W:a_}{pos:Pos}{K:Frag}{ι:Nat->Addr}{n:Nat}{H:Hp}
def Ab:Key->D
 | .inl i=> .int i
 | .inr s=> .str s
open Classical in
theorem Ol:DV K ct ι n H (Ab k) (kV k):=by
 cases k with
 | inl i=>exact .int i
 | inr s=>exact .str s
theorem Zi:∀{H:Hp},(∀p∈ps,H p.1=none)->(ps.map (·.1)).Nodup->Ext K ι n H ι n (Fw H ps):=by
 induction ps with
 | nil=>intro H _ _;exact .refl
 | cons p ps ih=>
  intro H h nd
  rw[List.map_cons,List.nodup_cons]at nd
  refine(Ext.fresh (o:=p.2) (h p xB)).trans (ih (λq hq=> ?_) nd.2)
  rw[aH (λz=>nd.1 (by rw[<-z];exact List.mem_map_of_mem hq))]
  exact h q (yT _ hq)
theorem ab7:∀{H:Hp},Rl K ct ι M H->(∀p∈ps,H p.1=none)->(ps.map (·.1)).Nodup->Rl K ct ι M (Fw H ps):=by
 induction ps with
 | nil=>intro H R _ _;exact R
 | cons p ps ih=>
  intro H R h nd
  rw[List.map_cons,List.nodup_cons]at nd
  refine ih (R.fresh (o:=p.2) (h p xB)) (λq hq=> ?_) nd.2
  rw[aH (λz=>nd.1 (by rw[<-z];exact List.mem_map_of_mem hq))]
  exact h q (yT _ hq)
theorem V2(h:as.length=qs.length):(prs as qs).map (·.1)=as:=by
 unfold prs
 rw[List.map_map]
 have e:((λx=>x.fst)∘λ(p:Addr×V×V)=>(p.1,HO.tup [p.2.1,p.2.2]))=Prod.fst:=rfl
 rw[e,List.map_fst_zip]
 omega
variable{o:Expr}{mo:ME}{apos p1 pos1:Pos}
end
end S
namespace S
open PySem PySem.Spec PyProof.Rows L2
section
variable{X:Cx}{ct:Nat->Addr}{W:a_}{pos:Pos}{K:Frag}{ι:Nat->Addr}{n:Nat}{H:Hp}
theorem VR(h:u9 K ct ι n H kvs vs):jm K ct ι n H (kvs.map λp=>Ab p.1) (vs.map λp=>kV p.1):=by
 induction h with
 | nil=>exact .nil
 | cons _ _ ih=>exact .cons Ol ih
variable{o:Expr}{mo:ME}{apos p1 pos1:Pos}
end
end S
namespace L2
open PySem PySem.Spec PyProof.Rows
section
variable{X:Cx}
theorem Lq:∀(l:List (Str×Tok)),Vals ((l.map (·.1)).map V.str) (strValues l)
 | []=> .nil
 | (_,t)::l=> .cons ⟨t,rfl⟩ (Lq l)
theorem split_len(x y:Str):(Txt.split x y).length<=x.length+2:=by
 unfold Txt.split
 split
 ·simp
 ·split
  ·simp
  ·rw[length_partsBetween]
   have:=StrLaws.occ_length_le x y 0 x.length (x.length+1)
   omega
def afF:V->List V->Hp->VK->Prop:=λx vs H Q=>∃y z,x= .str y/\vs=[.str z]/\y.length+2<=sizeLine/\(z.length==0)=false/\∀p,H p=none->Q (.ref p) (upd H p (.lst ((Txt.split y z).map V.str)))
theorem aaV:MtR X "str.split" afF:=by
 intro pins s σ H x vs v us Q I rx r h
 obtain⟨y,z,rfl,rfl,hl,hz,q⟩:=h
 obtain⟨t,rfl⟩:=rx
 obtain⟨u,rfl,t',rfl⟩:=vals1 r
 have fin:∀(l:List (Str×Tok)) (k:Nat),l.map (·.1)=Txt.split y z->EP X pins σ Q (.ref s.heap.objs.size) {s with heap:=s.heap.push {cls:= .type "list",data:= .seq (strValues l).toArray},toks:=k}:=λl k e=>
  ⟨.ref _,_,I.ajV (t':=k) (by rw[<-e];exact Lq l) (by rw[zao];exact yY (split_len y z) hl),rfl,q _ I.fresh⟩
 have agY:(Builtin.Str.partsBetween y (Builtin.Str.occurrences y z 0 y.length (y.length+1)) z.length).length<=sizeLine:=by
  rw[length_partsBetween]
  have:=StrLaws.occ_length_le y z 0 y.length (y.length+1)
  omega
 cases h1:(decide (y.length<z.length)||decide (Builtin.Str.strKind y<Builtin.Str.strKind z))with
 | true=>exact call_meets F.slot_str_split (typeIs_str _ _ _) F.entry_str_split (F.args_str_split_2 _ _) (meets_str_split_cannot_occur y z t t' h1) (fin [(y,t)] s.toks (if_pos h1).symm)
 | false=>
  have n1:=ne_true_of_eq_false h1
  cases h2:(Builtin.Str.occurrences y z 0 y.length (y.length+1)).isEmpty with
  | true=>exact call_meets F.slot_str_split (typeIs_str _ _ _) F.entry_str_split (F.args_str_split_2 _ _) (meets_str_split_not_found y z t t' h1 hz h2) (fin [(y,t)] s.toks ((if_neg n1).trans (if_pos h2)).symm)
  | false=>
   have n2:=ne_true_of_eq_false h2
   refine call_meets F.slot_str_split (typeIs_str _ _ _) F.entry_str_split (F.args_str_split_2 _ _) (meets_str_split_sep y z t t' h1 hz h2 () agY) ?_
   have:=fin (numbered s.toks (Builtin.Str.partsBetween y (Builtin.Str.occurrences y z 0 y.length (y.length+1)) z.length)) (s.toks+(Builtin.Str.partsBetween y (Builtin.Str.occurrences y z 0 y.length (y.length+1)) z.length).length) ((numbered_texts _ _).trans ((if_neg n1).trans (if_neg n2)).symm)
   rw[<-strsFrom_eq]at this
   exact this
theorem XR:tE X (compareOp .LtE) (λx y H Q=>∃i j,x= .str i/\y= .str j/\Q (.bl (!(decide (j.cps.toList<i.cps.toList)))) H):=by
 intro pins s σ H x y v u Q I rx ry h
 obtain⟨i,j,rfl,rfl,q⟩:=h
 obtain⟨t,rfl⟩:=rx
 obtain⟨t',rfl⟩:=ry
 exact PySem.P.le_str (O9 I q rfl)
end
end L2
namespace Xf
open PySem PyProof.Rows PySem.SeqAt
open PySem.AutoSeq1 (wpAny_loadPart')
open PySem.MeetsSeq PySem.MeetsSeq2 PySem.MeetsSeq3
noncomputable def Mh:List Int->List Int->Bool
 | [],_=>true
 | _::_,[]=>false
 | x::xs,y::ys=>if x=y then Mh xs ys else decide (x<=y)
theorem aa5:∀{vs ws:List Value} {ns ms:List Int},IntsAre vs ns->IntsAre ws ms->vs.zip ws=[]->Mh ns ms=decide (ns.length<=ms.length)
 | _,_,_,_,.nil,_,_=>by simp[Mh]
 | _,_,_,_,.cons _ _ _,.nil,_=>by simp[Mh]
 | _,_,_,_,.cons _ _ _,.cons _ _ _,h=>by rw[List.zip_cons_cons]at h;cases h
theorem ajW(l b:Addr)(its its2:Array Value)(n n2:Nat)(dd dd2:Option Addr)(sl sl2:Array (Option Value))(ns ms:List Int)(hi:IntsAre its.toList ns)(hj:IntsAre its2.toList ms):
  Meets (Builtin.«tuple.__le__» ⟨[.ref l,.ref b],[]⟩)
   (λ_ R s=>s.heap.get? l=some {cls:= .type "tuple",dict:=dd,data:= .seq its n,slots:=sl}/\s.heap.get? b=some {cls:= .type "tuple",dict:=dd2,data:= .seq its2 n2,slots:=sl2}/\
    R (.ok (.ret (.bool (Mh ns ms)))) s):=
 .of_wp λprog w A R s h=>by
  obtain⟨hp,g,d,tk,os⟩:=s
  obtain⟨hl,hb,h⟩:=h
  have f2:=AutoSeq1.sub_tuple_tuple
  have z1:its.size=ns.length:=by rw[<-hi.length];simp
  have z2:its2.size=ms.length:=by rw[<-hj.length];simp
  wp_walk using wpAny_loadPart' hl,wpAny_loadPart' hb,wpAny_forIn_list _ (λrest b s'=>b.1=none/\s'=⟨hp,g,d,tk,os⟩/\∃(vs ws:List Value) (ns' ms':List Int),rest=vs.zip ws/\
   IntsAre vs ns'/\IntsAre ws ms'/\ns'.length+its2.size=ms'.length+its.size/\R (.ok (.ret (.bool (Mh ns' ms')))) ⟨hp,g,d,tk,os⟩) _
  case turn=>
   rintro⟨y,x⟩ rest b s' ⟨hb',rfl,vs,ws,ns',ms',hz,hvi,hwi,hlen,hR⟩
   cases hvi with
   | nil=>rw[List.zip_nil_left]at hz;cases hz
   | cons a t hv2=>
    cases hwi with
    | nil=>rw[List.zip_nil_right]at hz;cases hz
    | cons c u hw2=>
     rw[List.zip_cons_cons]at hz
     obtain⟨hyx,hrest⟩:=List.cons.inj hz
     cases hyx
     simp only[Mh]at hR
     simp only[List.length_cons]at hlen
     by_cases hac:a=c
     ·rw[if_pos hac]at hR
      refine zC ((SeqAt.EqAt.int_int a t c u:SeqAt.EqAt A.in1 ⟨hp,g,d,tk,os⟩ _ _ _) prog w _ _ ?_)
      rw[beq_iff_eq.mpr hac]
      wp_walk
      exact⟨rfl,rfl,_,_,_,_,hrest,hv2,hw2,(),hR⟩
     ·rw[if_neg hac]at hR
      refine zC ((SeqAt.EqAt.int_int a t c u:SeqAt.EqAt A.in1 ⟨hp,g,d,tk,os⟩ _ _ _) prog w _ _ ?_)
      rw[beq_eq_false_iff_ne.mpr hac]
      have hri:∀(E:Value->Shared->Prop) (Q:Value->Shared->Prop),Q (.bool (decide (a<=c))) ⟨hp,g,d,tk,os⟩->wpAny (model prog w) A.in1 (richCompare .LtE (.int a t) (.int c u)) Q E ⟨hp,g,d,tk,os⟩:=λE Q hq=>
       (PyProof.Rows.le_int hq:wpAny (model prog w) A.in1 (compareOp .LtE (.int a t) (.int c u)) Q E ⟨hp,g,d,tk,os⟩)
      wp_walk using hri
      exact⟨_,rfl,by simpa using hR⟩
  case fin=>
   rintro⟨b1,b2⟩ s' ⟨hb',rfl,vs,ws,ns',ms',hz,hvi,hwi,hlen,hR⟩
   simp only at hb'
   subst hb'
   have hv:Mh ns' ms'=decide (its.size<=its2.size):=by
    rw[aa5 hvi hwi hz.symm]
    exact decide_eq_decide.mpr ()
   rw[hv]at hR
   wp_walk
   exact⟨_,rfl,by simpa[Builtin.Tuple.tupleCompareSizes]using hR⟩
  case h=>
   exact⟨rfl,rfl,its.toList,its2.toList,ns,ms,rfl,hi,hj,(),h⟩
end Xf
namespace L2
open PySem PySem.Spec PyProof.Rows
section
variable{X:Cx}
theorem agm(hu:X.A.units<cLine):tE X (compareOp .LtE) (λx y H Q=>∃a b ns ms,x= .ref a/\y= .ref b/\lY X.K H a (ns.map V.int)/\lY X.K H b (ms.map V.int)/\Q (.bl (Xf.Mh ns ms)) H):=by
 intro pins s σ H x y v u Q I rx ry h
 obtain⟨a,b,ns,ms,rfl,rfl,ha,hb,q⟩:=h
 cases rx
 cases ry
 obtain⟨its,r1,p1,_⟩:=I.tuple ha
 obtain⟨its2,r2,p2,_⟩:=I.tuple hb
 obtain⟨⟨cls,dd,data,sl⟩,ho,hc,n,hd⟩:=id p1
 obtain⟨⟨cls2,dd2,data2,sl2⟩,ho2,hc2,n2,hd2⟩:=id p2
 simp only at hc hd hc2 hd2
 subst hc hd hc2 hd2
 exact richCompare_meets_room (op:= .LtE) ⟨_,ho,rfl⟩ ⟨_,ho2,rfl⟩ PySem.F.slot_tuple_le PySem.F.entry_tuple_le (PySem.F.args_tuple_le_2 _ _) (Xf.ajW a b _ _ n n2 dd dd2 sl sl2 ns ms (intsAre_of r1) (intsAre_of r2))
  ⟨ho,ho2,show Value.bool (Xf.Mh ns ms)≠Value.notImplemented/\EP X pins σ Q (.bool (Xf.Mh ns ms)) s from⟨(λx=>nomatch x),⟨.bl _,H,I,rfl,q⟩⟩⟩ hu
end
def ahO(K:Frag)(a:Addr)(T:List (Str×Int)):Prop:=(a==sysModules)=false/\∃o es ep,K.lookup a=some o/\o.ExactDict/\o.data= .dict es ep/\PyProof.Rows.KTD.Rows (λi v=>∃t,v=Value.int i t) es.toList T
noncomputable def Fy(k:Str):List (Str×Int)->V
 | []=> .non
 | (x,i)::T=>if decide (k=x)=true then .int i else Fy k T
section
variable{X:Cx}{o e:Expr}{apos cpos:Pos}{td ty:TE}
theorem Qv{P:Value->Prop}:∀{T:List (Str×Int)},(∀v,RelV (Fy k T) v->P v)->PyProof.Rows.KTD.Each h k P (P .none) (T.map λp=>(p.1,PyProof.Rows.KTD.Dat.flat (PyData.int p.2)))
 | [],hp=>hp .none rfl
 | (x,i)::T,hp=>by
  show if decide (k=x)=true then _ else _
  unfold Fy at hp
  by_cases hk:decide (k=x)=true
  ·rw[if_pos hk]at hp ⊢
   exact λt=>hp _ ⟨t,rfl⟩
  ·rw[if_neg hk]at hp ⊢
   exact Qv hp
def aiH(K:Frag)(td ty:TE):TE:=λσ H Q=>td σ H λx H1=>∃a T,x= .ref a/\ahO K a T/\ty σ H1 λy H2=>∃k,y= .str k/\Q (Fy k T) H2
theorem ac2(ho:PE X o td)(he:PE X e ty)(m:M1 X o "get" apos e cpos):PE X (.Call (.Attribute o "get" apos) [e] [] cpos) (aiH X.K td ty):=by
 intro pins s σ H Q I h
 refine wpAny_Call_method m.base m.few m.line PySem.F.plainAttrs_dict PySem.F.slot_dict_get PySem.F.type_dict_get (gj (ho pins s σ H _ I h) ?_)
 rintro u t ⟨x,H1,I1,rx,a,T,ex,tb,q1⟩
 subst ex
 obtain rfl:u=Value.ref a:=rx
 obtain⟨hs,ob,es,ep,ho',hx,hd,hr⟩:=tb
 have here:∀(h:Heap),X.K.In h->PyProof.Rows.KTD.Here h h a (T.map λp=>(p.1,PyProof.Rows.KTD.Dat.flat (PyData.int p.2))):=λh hk=>
  ⟨⟨hs,ob,es,ep,hk _ _ ho',hx,hd,hr.mono (R':=PyProof.Rows.KTD.Dat.At h) (f:=λi=>PyProof.Rows.KTD.Dat.flat (PyData.int i)) λi v ⟨t,e⟩=>by subst e;exact .int i t⟩,λ_ _ z=>z⟩
 refine⟨(here _ I1.G6).typeIs,(here _ I1.G6).noDict,?_⟩
 rw[m.trees]
 refine Calls.callWith_builtin rfl (Calls.evalArgs_plain (Calls.spliced_cons (gj (he pins t σ H1 _ I1 q1) ?_)))
 rintro iv t2 ⟨y,H2,I2,ry,k,ek,q2⟩
 refine Calls.spliced_nil ?_
 subst ek
 obtain⟨tk,rfl⟩:=ry
 exact PyProof.Rows.KTD.get1_text (here _ I2.G6) (Qv λv rv=>⟨_,H2,I2.tok _,rv,q2⟩)
end
end L2
namespace S
open PySem PySem.Spec PyProof.Rows L2
section
variable{X:Cx}{ct:Nat->Addr}{W:a_}{pos pos':Pos}
noncomputable def strsOf:List D->Option (List Str)
 | []=>some []
 | .str w::r=>(strsOf r).map (w:: ·)
 | _=>none
theorem Vu{K:Frag}{ι:Nat->Addr}{n:Nat}{H:Hp}:∀(ws:List Str),jm K ct ι n H (ws.map D.str) (ws.map V.str)
 | []=> .nil
 | w::ws=> .cons (.str w) (Vu ws)
noncomputable def aoK:D->List D->Mem->Out D:=λd ds M=>match d,ds with
 | .str y,[.ref n]=>match M[n]? with
  | some (.lst es)=>match strsOf es with
   | some ws=>if JoinOk y ws=true then .ok (.str (Txt.join y ws)) M else .bad
   | none=> .bad
  | _=> .bad
 | _,_=> .bad
noncomputable def FN:D->List D->Mem->Out D:=λd ds M=>match d,ds with
 | .str y,[.str z]=>if y.length+2<=sizeLine/\(z.length==0)=false then .ok (.ref M.length) (M++[.lst ((Txt.split y z).map D.str)])else .bad
 | _,_=> .bad
theorem aaX:MtS X ct "str" "str.split" FN:=by
 refine⟨_,aaV,λι M H d ds v vs Q R q qs p=> ?_⟩
 unfold FN at p
 split at p
 ·rename_i y z
  cases pW q
  obtain⟨u,rfl,qu⟩:=Gk qs
  cases pW qu
  split at p
  ·rename_i hz
   exact⟨y,z,rfl,rfl,hz.1,hz.2,λpp hp=>o_ R (Vu _) hp p⟩
  ·exact p.elim
 ·exact p.elim
noncomputable def afz:qe:=λd e M=>match d,e with
 | .str a,.str b=> .ok (.bl (!decide (b.cps.toList<a.cps.toList))) M
 | _,_=> .bad
theorem ahD:f9 X ct (compareOp .LtE) afz:=by
 refine⟨_,XR,λι M H d d' v v' Q R h h' p=> ?_⟩
 unfold afz at p
 split at p
 ·cases pW h
  cases pW h'
  exact⟨_,_,rfl,rfl,p ι _ H .refl R (.bl _)⟩
 ·exact p.elim
noncomputable def acy:qe:=λd e M=>match d,e with
 | .tup xs,.tup ys=>match gU xs,gU ys with
  | some is,some js=> .ok (.bl (Xf.Mh is js)) M
  | _,_=> .bad
 | _,_=> .bad
theorem ahC(hu:X.A.units+64<cLine):f9 X ct (compareOp .LtE) acy:=by
 refine⟨_,agm (),λι M H d d' v v' Q R h h' p=> ?_⟩
 unfold acy at p
 split at p
 ·obtain⟨a,vs,rfl,ha,hd⟩:=kj h
  obtain⟨b,us,rfl,hb,hd'⟩:=kj h'
  split at p
  ·rename_i is js e1 e2
   have x1:=lK e1 hd
   have x2:=lK e2 hd'
   subst x1 x2
   exact⟨a,b,is,js,rfl,rfl,lY.of ha,lY.of hb,p ι _ H .refl R (.bl _)⟩
  ·exact p.elim
 ·exact p.elim
def sLe:qe:=uz (uz Jq afz) acy
theorem ahE(hu:X.A.units+64<cLine):f9 X ct (compareOp .LtE) sLe:=(Ff.or ahD).or (ahC hu)
def itS(d:D)(M1:Mem):Out Itm:=match d with
 | .str u=>if u.length<=sizeLine then .ok ⟨none,u.cps.toList.map λc=>D.str ⟨#[c]⟩⟩ M1 else .bad
 | _=> .bad
def Nk(k:Str):List (Str×Int)->D
 | []=> .non
 | (x,i)::T=>if decide (k=x)=true then .int i else Nk k T
theorem Vt{K:Frag}{ι:Nat->Addr}{n:Nat}{H:Hp}{k:Str}:∀(T:List (Str×Int)),DV K ct ι n H (Nk k T) (Fy k T)
 | []=> .non
 | (x,i)::T=>by
  unfold Nk Fy
  split
  ·exact .int i
  ·exact Vt T
def adB(T:List (Str×Int))(k:D)(M:Mem):Out D:=match k with
 | .str z=> .ok (Nk z T) M
 | _=> .bad
def aa0(T:List (Str×Int))(mk:ME):ME:=λe M=>(mk e M).bind (adB T)
theorem acu(T:List (Str×Int))(hg:Gl X x)(hm:X.mg x=some (.ref a))(hT:ahO X.K a T)(he:SE X ct W e mk)(hd:(x==("__debug__" : Str))=false:=by decide)
  (base:attributeBase (.Name x p) "get" X.env (eval (.Name x p) X.env)=eval (.Name x p) X.env:=by rfl)
  (few:((backTo cpos (starEach [e] X.env)).all (λx=> !x.1)&&(backToKw cpos (keywordEach [] X.env)).all (λx=>x.1.isSome)
   && decide (([e]:List Expr).length+([]:List Keyword).length+(if([]:List Keyword).isEmpty then 0 else 1)<30))=true:=by rfl)
  (line:(apos.endLine==cpos.line)=true:=by rfl) (trees:backTo cpos (starEach [e] X.env)=[(false,eval e X.env)]:=by rfl):
  SE X ct W (.Call (.Attribute (.Name x p) "get" apos) [e] [] cpos) (aa0 T mk):=dJ (ac2 (N6 (v:= .ref a) hg hm rfl hd) he ⟨base,few,line,trees⟩) λσ H Q q=>by
 obtain⟨ι,e,M,w,p⟩:=bH (dm:=cP X.K ct) (f:=λk _ M1=>adB T k M1) q
 refine⟨a,T,rfl,hT,ι,e,M,w,p.mono ?_⟩
 rintro v H1 ⟨bV,e1,M1,d,w1,q1,p1⟩
 cases q1 with
 | str z=>exact⟨_,rfl,p1 bV _ H1 .refl w1.rl (Vt T)⟩
 | _=>exact p1.elim
end
theorem iZ(h1:sc.kind= .function:=by rfl)(h2:sc.isCoroutine=false:=by rfl)(h3:sc.isGenerator=false:=by rfl)(h4:N.Nodup:=by decide +kernel)(h5:N.take ps.length=ps:=by rfl)
  (h6:∀x∈ps,sc.names.lookup x=some .local\/sc.names.lookup x=some .cell:=by decide +kernel) (h7:∀y∈sc.names,y.2≠ .free:=by decide +kernel):qP N ps sc:=⟨h1,h2,h3,h4,h5,h6,h7⟩
section
variable{e:Sl}{M:Mem}
@[simp] theorem ajN:aa0 T mk e M=(mk e M).bind (adB T):=id rfl
@[simp] theorem aj0:adB T (.str z) M= .ok (Nk z T) M:=id rfl
theorem Xr(h:y.length+2<=16777216)(hz:(z.length==0)=false):FN (.str y) [.str z] M= .ok (.ref M.length) (M++[.lst ((Txt.split y z).map D.str)]):=by
 simp only[FN]
 rw[if_pos ⟨by rw[Et];exact h,hz⟩]
theorem ai1(h1:gU xs=some is)(h2:gU ys=some js):sLe (.tup xs) (.tup ys) M= .ok (.bl (Xf.Mh is js)) M:=by
 refine(pA rfl).trans ?_
 simp only[acy,h1,h2]
end
section
variable{X:Cx}{ct:Nat->Addr}
def notStar:Expr->Bool
 | .Starred _ _=>false
 | _=>true
theorem aiM(h:notStar a=true):starEach (a::es) env=(false,eval a env)::starEach es env:=by
 cases a<;>first | rfl | cases h
theorem bu(ha:SE X ct W a ma)(hr:SA X ct W es ms)(h:notStar a=true:=by rfl):SA X ct W (a::es) (au ma ms):=ao ha hr (aiM h)
end
theorem Wj{α:Type}{us:List α}(h:us.length=5):∃a b c d e,us=[a,b,c,d,e]:=match us,h with | [a,b,c,d,e],_=>⟨a,b,c,d,e,rfl⟩
section
variable{X:Cx}{ct:Nat->Addr}{W:a_}
theorem Bj(hg:Gl X x)(hm:X.mg x=some (.ref a))(hk:∀ι n H,DV X.K ct ι n H (.mJ ds) (.ref a))(hd:(x==("__debug__" : Str))=false:=by decide):SE X ct W (.Name x pos) (mC (.mJ ds)):=
 dJ (N6 (v:= .ref a) hg hm rfl hd) λ_ _ _ h=>QB (λ_ _=>hk _ _ _) h
theorem Gm{K:Frag}{ι:Nat->Addr}{n:Nat}{H:Hp}{a:Addr}{o:Obj}{its:Array Value}{k:Nat}{xs:List V}{ds:List D}(h1:K.lookup a=some o)(h2:o.cls= .type "tuple")(h3:o.data= .seq its k)
  (h4:its.size<=1000) (h5:Vals xs its.toList) (h6:jm K ct ι n H ds xs):DV K ct ι n H (.mJ ds) (.ref a):=
 .mJ ⟨o,its,k,h1,h2,h3,yY h4 (by simp[sizeLine]),h5⟩ h6
theorem preSum_getD(ns:List Int):∀k,preSum (λj=>ns.getD j 0) k=(ns.take k).sum
 | 0=>by simp[preSum]
 | k+1=>by
  have ih:=preSum_getD ns k
  unfold preSum
  rw[ih]
  by_cases h:k<ns.length
  ·rw[List.take_succ_eq_append_getElem h,List.sum_append,List.getD_eq_getElem?_getD,zad h]
   simp
  ·rw[List.take_of_length_le (),List.take_of_length_le (),List.getD_eq_getElem?_getD,List.getElem?_eq_none ()]
   simp
theorem Yx(hc:X.calm=true):mV X (.builtin "sum") (λxs H Q=>∃(a:Addr) (ns:List Int),xs=[.ref a]/\qO X.K H a (ns.map V.int)/\Q (.int ns.sum) H):=by
 intro pins s σ H xs us Q I r h
 obtain⟨a,ns,rfl,hq,q⟩:=h
 obtain⟨u,rfl,ru⟩:=vals1 r
 cases(show u=Value.ref a from ru)
 obtain⟨its,rv,p,hz⟩:=I.list hq
 have hlt:a<s.heap.objs.size:=by obtain⟨o,n,e,_⟩:=p;exact zS e
 have hl:its.length=ns.length:=by rw[<-rv.length,zao]
 refine call_sum_walkG (wpAny_pyIter_list p.isList ⟨s.heap.objs.size,[s.heap.objs.size,a],[s.heap.objs.size],its.toArray.size,λi v=>its.toArray[i]? = some v,_,λj=>ns.getD j 0,rfl,
  Walks.list (A:=X.A.in1) (I.ok.hd hc) s.heap.objs.size a (xD hlt) its.toArray,⟨⟨_,yB _ rfl,rfl,rfl⟩,p.isList.push _⟩,?_,?_,λh' tk t' hk=> ?_⟩)
 ·intro b hb
  simp only[List.mem_cons,List.not_mem_nil,or_false]at hb
  have:(s.heap.push {cls:= .type "list_iterator",data:= .fields #[.ref a,.int 0 0]}).objs.size=s.heap.objs.size+1:=Heap.size_push ..
  rcases hb with rfl | rfl
  ·rw[this];exact Nat.lt_succ_self _
  ·rw[this];exact Nat.lt_succ_of_lt hlt
 ·intro i v hP
  have hP':its[i]? = some v:=by simpa using hP
  have hi:i<its.length:=(List.getElem?_eq_some_iff.mp hP').1
  have hb:ns[i]? = some ns[i]:=zad ()
  obtain⟨u,hu,ru⟩:=rv.get (i:=i) (x:=V.int ns[i]) (by rw[zan,hb];rfl)
  rw[hP']at hu
  cases hu
  obtain⟨t,rfl⟩:=ru
  refine⟨t,?_⟩
  have e:ns.getD i 0=ns[i]:=by rw[List.getD_eq_getElem?_getD,hb];rfl
  show Value.int ns[i] t=Value.int (ns.getD i 0) t
  rw[e]
 ·have e:preSum (λj=>ns.getD j 0) its.toArray.size=ns.sum:=by
   rw[preSum_getD,List.take_of_length_le (by simp;omega)]
  rw[e]
  exact⟨.int _,H,I.kept λb o eb=>hk b o (by simp;exact xD (zS eb)) (zD _ eb),⟨_,rfl⟩,q⟩
noncomputable def QV:Qd:=λds M=>match ds with
 | [d]=>match wD M d with
  | some es=>match gU es with
   | some is=> .ok (.int is.sum) M
   | none=> .bad
  | none=> .bad
 | _=> .bad
theorem ahu(hc:X.calm=true):pL X ct (.builtin "sum") QV:=by
 refine⟨_,Yx hc,λι M H ds vs Q R h p=> ?_⟩
 unfold QV at p
 split at p
 ·rename_i d
  obtain⟨v,rfl,q⟩:=Gk h
  cases z:wD M d with
  | none=>rw[z]at p;exact p.elim
  | some es=>
   rw[z]at p
   cases z2:gU es with
   | none=>simp only[z2]at p;exact p.elim
   | some is=>
    simp only[z2]at p
    obtain⟨a,xs,rfl,hs,hd⟩:=R.seq z q
    have x1:=lK z2 hd
    subst x1
    exact⟨a,is,rfl,hs,p ι _ H .refl R (.int _)⟩
 ·exact p.elim
theorem wA:∀(is:List Int),gU (is.map D.int)=some is
 | []=>rfl
 | i::is=>by simp only[List.map_cons,gU,wA is];rfl
theorem Z4{M:Mem}{n:Nat}{is:List Int}(h:M[n]? = some (.lst (is.map D.int))):QV [.ref n] M= .ok (.int is.sum) M:=by
 simp only[QV,wD,eF h,wA]
theorem ahx:bootBuiltins "sum" = some (.builtin "sum"):=by decide +kernel
end
end S
namespace L2
open PySem PySem.Spec PyProof.Rows
section
variable{X:Cx}{pins:List (Addr×Obj)}{σ:St}{H:Hp}{s:Shared}{d:Addr}{o:Obj}{kvs:List (Key×V)}
def abV(X:Cx)(d:Addr):Prop:=∀o u,X.H₀ d≠some (.lV o u)
theorem Inv.amQ(I:Inv X pins σ H s)(e:H d=some (.dK kvs)):abV X d:=λo u q=>by
 have:=I.base.yt d o u q
 rw[e]at this;cases this
theorem Inv.adM(I:Inv X pins σ H s)(e:H d=some (.dK kvs))(ho:s.heap.get? d=some o):Inv X pins σ (upd H d (.lV o (.dK kvs))) s:=by
 have hk:∀b u,(∀ks,u≠ .dK ks)->H b=some u->upd H d (.lV o (.dK kvs)) b=some u:=λb u n q=>by
  rw[aH (λz=>by subst z;rw[e]at q;exact n _ (xI q).symm)];exact q
 have hz:∀b,H b=none->upd H d (.lV o (.dK kvs)) b=none:=λb q=>by
  rw[aH (λz=>by subst z;rw[e]at q;cases q)];exact q
 refine⟨I.ok,I.os,I.bare,⟨I.base.keep,I.base.slot,λb o q n z=>hz b (I.base.free b o q n z),I.base.there,λb xs q=>hk _ _ (λ_ z=>nomatch z) (I.base.tups b xs q),λb o u q=>hk _ _ (λ_ z=>nomatch z) (I.base.yt b o u q),λb ps q=> ?_⟩,
  I.loc,I.cell,hz _ I.free,λx c q=>hz _ (I.j9 x c q),λp hp=> ?_,λb u q=> ?_,I.len⟩
 ·obtain⟨m,z⟩:=I.base.BJ b ps q;exact⟨m,hk _ _ (λ_ z=>nomatch z) z⟩
 ·obtain⟨z1,z2,z3⟩:=I.pin p hp;exact⟨z1,hz _ z2,z3⟩
 ·by_cases z:b=d
  ·subst z
   rw[bw]at q;cases q
   exact⟨ho,(I.hok b _ e).stay (λ_ _ _ y=>y) (λb' y=>hk _ _ (λ_ z=>nomatch z) y) λb' xs y=>hk _ _ (λ_ z=>nomatch z) y⟩
  ·rw[aH z]at q
   exact(I.hok b u q).stay (λ_ _ _ y=>y) (λb' y=>hk _ _ (λ_ z=>nomatch z) y) λb' xs y=>hk _ _ (λ_ z=>nomatch z) y
theorem Inv.ael(I:Inv X pins σ H s)(nf:abV X d)(e:H d=some (.lV o (.dK kvs))):Inv X pins σ (upd H d (.dK kvs)) s:=by
 have hk:∀b u,(∀a z,u≠ .lV a z)->H b=some u->upd H d (.dK kvs) b=some u:=λb u n q=>by
  rw[aH (λz=>by subst z;rw[e]at q;exact n _ _ (xI q).symm)];exact q
 have hz:∀b,H b=none->upd H d (.dK kvs) b=none:=λb q=>by
  rw[aH (λz=>by subst z;rw[e]at q;cases q)];exact q
 refine⟨I.ok,I.os,I.bare,⟨I.base.keep,I.base.slot,λb o q n z=>hz b (I.base.free b o q n z),I.base.there,λb xs q=>hk _ _ (λ_ _ z=>nomatch z) (I.base.tups b xs q),λb o' u q=> ?_,λb ps q=> ?_⟩,
  I.loc,I.cell,hz _ I.free,λx c q=>hz _ (I.j9 x c q),λp hp=> ?_,λb u q=> ?_,I.len⟩
 ·rw[aH (λz=>by subst z;exact nf _ _ q)]
  exact I.base.yt b o' u q
 ·obtain⟨m,z⟩:=I.base.BJ b ps q;exact⟨m,hk _ _ (λ_ _ z=>nomatch z) z⟩
 ·obtain⟨z1,z2,z3⟩:=I.pin p hp;exact⟨z1,hz _ z2,z3⟩
 ·by_cases z:b=d
  ·subst z
   rw[bw]at q;cases q
   exact(show cY X.prog X.w H s.heap b (.lV o (.dK kvs))from I.hok b _ e).2.stay (λ_ _ _ y=>y) (λb' y=>hk _ _ (λ_ _ z=>nomatch z) y) λb' xs y=>hk _ _ (λ_ _ z=>nomatch z) y
  ·rw[aH z]at q
   exact(I.hok b u q).stay (λ_ _ _ y=>y) (λb' y=>hk _ _ (λ_ _ z=>nomatch z) y) λb' xs y=>hk _ _ (λ_ _ z=>nomatch z) y
theorem Mf{α β:Type}{F:α->β->Prop}:∀{l₁:List α} {l₂:List β},Paired F l₁ l₂->∀{i:Nat} {a:α} {b:β},l₁[i]? = some a->l₂[i]? = some b->F a b
 | _,_,.nil,_,_,_,h,_=>by simp at h
 | _,_,.cons r t,0,_,_,h,h'=>by simp at h h';subst h h';exact r
 | _,_,.cons r t,i+1,_,_,h,h'=>Mf t (by simpa using h) (by simpa using h')
def Itk(d:Addr)(o:Obj)(kvs:List (Key×V)):It:=
 ⟨λi H=>H d=some (.lV o (.dK kvs))/\i<kvs.length,λi H x H'=>H'=H/\∃p,kvs[i]? = some p/\x=kV p.1,λi H=>H d=some (.lV o (.dK kvs))/\kvs.length<=i⟩
theorem abq(I:Inv X pins σ H s)(e:H d=some (.lV o (.dK kvs)))(hep:o.data= .dict es ep):∃vs,KV kvs vs/\s.heap.DictAt (bI X.prog X.w) d vs ep:=by
 obtain⟨ho,z,hd,vs,rel,o',es',ep',g,r1,r2,r3⟩:=(show cY X.prog X.w H s.heap d (.lV o (.dK kvs))from I.hok d _ e)
 rw[ho]at g;cases g
 rw[hep]at r2;cases r2
 exact⟨vs,rel,o,es,ho,r1,hep,r3⟩
theorem Xk{P:Program}{w:World}{K:Frag}{tg:Expr}{es:Array DictEntry}{ep:Nat}(hep:o.data= .dict es ep)(it:Addr):Turn P w K tg (Itk d o kvs) [it] it (λi h=>h.IsKeyIter it d i kvs.length ep) where
 mem:=by simp
 obj:=λi h st b hb=>by
  have e:b=it:=by simpa using hb
  subst e
  obtain⟨o,e,c,dd⟩:=st
  exact⟨o,e,λv z=>by rw[dd]at z;cases z⟩
 keep:=λi h h' st k=>st.at λo e=>k it (by simp) o e
 item:=by
  intro X hP hw hK hc i pins s σ H E I hf st hg
  subst hP hw hK
  obtain⟨hq,hi⟩:=hg
  obtain⟨vs,rel,dd⟩:=abq I hq hep
  have hl:vs.length=kvs.length:=rel.length.symm
  obtain⟨f0,f1,f2,f3,f4,f5⟩:=hf it (by simp)
  obtain⟨p,hp⟩:∃p,kvs[i]? = some p:=⟨_,zad hi⟩
  obtain⟨q,hq2⟩:∃q,vs[i]? = some q:=⟨_,zad ()⟩
  have pq:p.1=q.1:=(Mf rel hp hq2).1
  rw[<-hl]at st
  refine wpAny_pyNext_dict_item st dd (k:=q.1) (v:=q.2) hq2 λkey h' hkey st' sb=> ?_
  have I1:Inv X pins σ H {s with heap:=h'}:=I.turned (t':=s.toks) (λb o hb e=>(sb.2 b hb).trans e) f0 f1 f3 f4 f5
  obtain⟨o2,e2,c2,d2⟩:=id st'
  refine⟨key,rfl,Wz (s:={s with heap:=h'}) e2 c2 d2 (by decide) ⟨kV p.1,H,I1,?_,⟨rfl,p,hp,rfl⟩,by rw[hl]at st';exact st',λb hb=>(hf b hb).1⟩⟩
  rw[pq]
  exact aa_ hkey
 done:=by
  intro X hP hw hK hc i pins s σ H E I hf st hg
  subst hP hw hK
  obtain⟨hq,hi⟩:=hg
  obtain⟨vs,rel,dd⟩:=abq I hq hep
  have hl:vs.length=kvs.length:=rel.length.symm
  obtain⟨f0,f1,f2,f3,f4,f5⟩:=hf it (by simp)
  rw[<-hl]at st
  exact wpAny_pyNext_dict_end (I.ok.hd hc) st dd (List.getElem?_eq_none ()) λh' eb=>⟨rfl,I.turned (t':=s.toks) (λb o hb e=>eb b o hb e) f0 f1 f3 f4 f5⟩
 self:=λ_ _ _ _ _ st h=>wpAny_pyIter_keyiter st h
def aeP(tl:TE):TI:=λσ H R=>tl σ H λx H1=>∃d kvs,x= .ref d/\H1 d=some (.dK kvs)/\∀o,abV X d->kvs.length<=sizeLine->R (Itk d o kvs) (upd H1 d (.lV o (.dK kvs)))
theorem ac0(hl:PE X l tl):PI X tg l (aeP (X:=X) tl):=by
 intro pins s σ H R I h
 refine gj (hl pins s σ H _ I h) ?_
 rintro v s1 ⟨x,H1,I1,r1,q1⟩
 obtain⟨d,kvs,e,hd,q⟩:=q1
 subst e
 cases r1
 obtain⟨z,hs,vs,rel,o,es,ep,g,r1,r2,r3⟩:=abF I1.hok hd
 refine wpAny_pyIter_dict hs (show s1.heap.DictAt (bI X.prog X.w) d vs ep from⟨o,es,g,r1,r2,r3⟩) ?_
 have I2:Inv X pins σ H1 {s1 with heap:=s1.heap.push {cls:= .type "dict_keyiterator",data:= .fields #[.ref d,.int 0 0,.int vs.length 0,.int ep 0]}}:=I1.kept (t':=s1.toks) λb o e=>zD _ e
 have g2:(s1.heap.push {cls:= .type "dict_keyiterator",data:= .fields #[.ref d,.int 0 0,.int vs.length 0,.int ep 0]}).get? d=some o:=zD _ g
 have I3:=I2.adM hd g2
 have hlt:d<s1.heap.objs.size:=zS g
 have hn:upd H1 d (.lV o (.dK kvs)) s1.heap.objs.size=none:=by
  rw[aH (xS hlt)];exact I1.hok.fresh (zac _)
 refine⟨s1.heap.objs.size,[s1.heap.objs.size],_,_,_,rfl,I3,Xk (o:=o) (kvs:=kvs) r2 _,⟨_,yB _ rfl,rfl,by rw[rel.length];rfl⟩,λb hb=> ?_,q o (I1.amQ hd) z⟩
 have e:b=s1.heap.objs.size:=by simpa using hb
 subst e
 exact I1.O7 (zac _) hn
end
section
variable{X:Cx}
def Jg(X:Cx)(T:Ends):Ends where
 nx:=λσ H=>∃d o kvs,abV X d/\H d=some (.lV o (.dK kvs))/\T.nx σ (upd H d (.dK kvs))
 rt:=λv H=>∃d o kvs,abV X d/\H d=some (.lV o (.dK kvs))/\T.rt v (upd H d (.dK kvs))
theorem acU(hp:PassesOwn (model X.prog X.w) X.A X.env X.xe)(hc:X.calm=true)(hl:PE X l tl)(hg:PG X tg g)(hb:HY X body tb)
  (hs:∀x,foldedSetIterable l X.env x=pure x:=by intro _;rfl):PS X (.For tg l body [] pos) (λT σ H=>aep (aeP (X:=X) tl) g tb (Jg X T) σ H):=by
 intro pins s σ H D I h
 refine vE (V1 hp hc (ac0 hl) hg hb hs pins s σ H _ I h) (λf s' q=> ?_) λ_ _ z=>z
 cases f with
 | next=>
  obtain⟨σ',H',I',d,o,kvs,nf,e,q⟩:=(show ∃σ' H',Inv X pins σ' H' s'/\(Jg X D).nx σ' H' from q)
  exact⟨σ',_,I'.ael nf e,q⟩
 | ret u=>
  obtain⟨v,σ',H',I',r,d,o,kvs,nf,e,q⟩:=(show ∃v σ' H',Inv X pins σ' H' s'/\RelV v u/\(Jg X D).rt v H' from q)
  exact⟨v,σ',_,I'.ael nf e,r,q⟩
 | brk=>
  obtain⟨σ',H',I',q⟩:=(show ∃σ' H',Inv X pins σ' H' s'/\(Jg X D).bk σ' H' from q)
  exact q.elim
 | cont=>
  obtain⟨σ',H',I',q⟩:=(show ∃σ' H',Inv X pins σ' H' s'/\(Jg X D).ct σ' H' from q)
  exact q.elim
end
end L2
namespace S
open PySem PySem.Spec PyProof.Rows L2
structure Wk(K:Frag)(H H':Hp):Prop where
 tup:∀a xs,H a=some (.tup xs)->H' a=some (.tup xs)
 lV:∀a xs,FrL K H a xs->FrL K H' a xs
 ex:∀a φ,H a=some (.ext φ)->H' a=some (.ext φ)
 xd:∀a fs,H a=some (.xd fs)->H' a=some (.xd fs)
mutual
theorem DV.wk{K:Frag}{ct ι:Nat->Addr}{n:Nat}{H H':Hp}(e:Wk K H H'):∀{d:D} {v:V},DV K ct ι n H d v->DV K ct ι n H' d v
 | _,_,.non=> .non
 | _,_,.bl b=> .bl b
 | _,_,.int i=> .int i
 | _,_,.str x=> .str x
 | _,_,.tup h hs=> .tup (e.tup _ _ h) (jm.wk e hs)
 | _,_,.ref h=> .ref h
 | _,_,.cl h hs=> .cl (e.lV _ _ h) (jm.wk e hs)
 | _,_,.ty s=> .ty s
 | _,_,.cls c=> .cls c
 | _,_,.exc h1 h2 h3=> .exc (e.ex _ _ h1) (e.xd _ _ h2) (DV.wk e h3)
 | _,_,.mJ h hs=> .mJ h (jm.wk e hs)
theorem jm.wk{K:Frag}{ct ι:Nat->Addr}{n:Nat}{H H':Hp}(e:Wk K H H'):∀{ds:List D} {vs:List V},jm K ct ι n H ds vs->jm K ct ι n H' ds vs
 | _,_,.nil=> .nil
 | _,_,.cons h hs=> .cons (DV.wk e h) (jm.wk e hs)
end
section
variable{K:Frag}{ct ι:Nat->Addr}{n:Nat}{H H':Hp}{M:Mem}{d:Addr}{o:Obj}{ys:List (Key×V)}
theorem MN.wk(e:Wk K H H'):∀{fs:List (Str×D)} {vs:List (Str×V)},MN K ct ι n H fs vs->MN K ct ι n H' fs vs
 | _,_,.nil=> .nil
 | _,_,.cons h hs=> .cons (h.wk e) (MN.wk e hs)
theorem u9.wk{κ:Type}(e:Wk K H H'):∀{fs:List (κ×D)} {vs:List (κ×V)},u9 K ct ι n H fs vs->u9 K ct ι n H' fs vs
 | _,_,.nil=> .nil
 | _,_,.cons h hs=> .cons (h.wk e) (u9.wk e hs)
theorem OR.wk(e:Wk K H H')(hh:H' a=H a)(h:OR K ct ι n H a x):OR K ct ι n H' a x:=by
 cases x with
 | lst ds=>obtain⟨vs,q,r⟩:=h;exact⟨vs,by rw[hh];exact q,r.wk e⟩
 | ins c fs=>obtain⟨dx,vs,q,r⟩:=h;exact⟨dx,vs,by rw[hh];exact q,r.wk e⟩
 | dk kvs=>obtain⟨vs,q,r⟩:=h;exact⟨vs,by rw[hh];exact q,r.wk e⟩
 | dt kvs=>obtain⟨vs,q,r⟩:=h;exact⟨vs,by rw[hh];exact q,r.wk e⟩
 | fd kvs=>obtain⟨o,vs,q,r⟩:=h;exact⟨o,vs,by rw[hh];exact q,r.wk e⟩
theorem Wk.Tt(h:H d=some (.lV o (.dK ys))):Wk K H (upd H d (.dK ys)) where
 tup:=λa xs q=>by rw[aH (λz=>by subst z;rw[h]at q;cases q)];exact q
 lV:=λa xs q=>by
  rcases q with⟨b,q⟩ | q
  ·exact .inl ⟨b,by rw[aH (λz=>by subst z;rw[h]at q;cases q)];exact q⟩
  ·exact .inr q
 ex:=λa φ q=>by rw[aH (λz=>by subst z;rw[h]at q;cases q)];exact q
 xd:=λa fs q=>by rw[aH (λz=>by subst z;rw[h]at q;cases q)];exact q
theorem Rl.Tt(R:Rl K ct ι M H)(hi:i<M.length)(h:H (ι i)=some (.lV o (.dK ys)))(pv:u9 K ct ι M.length H kvs ys):Rl K ct ι (M.set i (.dk kvs)) (upd H (ι i) (.dK ys)):=by
 refine⟨λj k hj hk e=>R.inj j k (by simpa using hj) (by simpa using hk) e,λj y hy=> ?_⟩
 rw[List.length_set]
 by_cases e:i=j
 ·subst e
  rw[zak hi]at hy
  cases hy
  exact⟨ys,bw,pv.wk (Wk.Tt h)⟩
 ·rw[zaj e]at hy
  have hj:j<M.length:=(List.getElem?_eq_some_iff.mp hy).1
  exact(R.obj j y hy).wk (Wk.Tt h) (aH λz=>e (R.inj i j hi hj z.symm))
theorem RX(h1:H1 d=some (.dK ys1))(x:Ext K bV n1 (upd H1 d (.lV o1 (.dK ys1))) ι' n' H')(h':H' d=some (.lV o (.dK ys))):Ext K bV n1 H1 ι' n' (upd H' d (.dK ys)) where
 tup:=λa xs q=>by
  have ne:a≠d:=λz=>by subst z;rw[h1]at q;cases q
  rw[aH ne];exact x.tup a xs (by rw[aH ne];exact q)
 lV:=λa xs q=>by
  rcases q with⟨b,q⟩ | q
  ·have ne:a≠d:=λz=>by subst z;rw[h1]at q;cases q
   exact .inl ⟨b,by rw[aH ne];exact x.fz a b _ (by rw[aH ne];exact q)⟩
  ·exact .inr q
 ex:=λa φ q=>by
  have ne:a≠d:=λz=>by subst z;rw[h1]at q;cases q
  rw[aH ne];exact x.ex a φ (by rw[aH ne];exact q)
 xd:=λa fs q=>by
  have ne:a≠d:=λz=>by subst z;rw[h1]at q;cases q
  rw[aH ne];exact x.xd a fs (by rw[aH ne];exact q)
 fz:=λa b u q=>by
  have ne:a≠d:=λz=>by subst z;rw[h1]at q;cases q
  rw[aH ne];exact x.fz a b u (by rw[aH ne];exact q)
 le:=x.le
 same:=x.same
end
noncomputable def BX(n:Nat)(o:gh):gh:=match o with
 | .next e M=>match M[n]? with
  | some (.fd kvs)=> .next e (M.set n (.dk kvs))
  | _=> .bad
 | .ret d M=>match M[n]? with
  | some (.fd kvs)=> .ret d (M.set n (.dk kvs))
  | _=> .bad
 | _=> .bad
noncomputable def UT(g:Tg)(b:MS)(d:D)(e:Sl)(M:Mem):gh:=match d with
 | .ref n=>match M[n]? with
  | some (.dk kvs)=>BX n (cC none g b (kvs.map λp=>Ab p.1) e (M.set n (.fd kvs)))
  | _=> .bad
 | _=> .bad
def aad(ma:ME)(g:Tg)(b:MS):MS:=λe M=>tW e (ma e M) λd M1=>UT g b d e M1
theorem u9.key{K:Frag}{ct ι:Nat->Addr}{n:Nat}{H:Hp}{κ:Type}:∀{fs:List (κ×D)} {vs:List (κ×V)},u9 K ct ι n H fs vs->∀{i:Nat} {a:κ×D} {b:κ×V},fs[i]? = some a->vs[i]? = some b->a.1=b.1
 | _,_,.nil,_,_,_,h,_=>by simp at h
 | _,_,.cons r t,0,_,_,h,h'=>by simp at h h';subst h h';rfl
 | _,_,.cons r t,i+1,_,_,h,h'=>u9.key t (by simpa using h) (by simpa using h')
section
variable{X:Cx}{ct:Nat->Addr}{W:a_}{pos:Pos}
theorem acn(hp:X.Ok->PassesOwn (model X.prog X.w) X.A X.env X.xe)(hc:X.calm=true)(hl:SE X ct W l ma)(hg:SG X ct tg g)(hb:YS X ct W body b)
  (hs:∀x,foldedSetIterable l X.env x=pure x:=by intro _;rfl):SS X ct W (.For tg l body [] pos) (aad ma g b):=PS.imp (λpins s σ H D I h=>acU (hp I.ok) hc hl hg hb hs pins s σ H D I h) λT σ H q=>by
 obtain⟨ι,e,M,w,p⟩:=qI (rel:=cP X.K ct) (f:=λd e M1=>UT g b d e M1) q
 refine⟨ι,e,M,w,p.mono ?_⟩
 rintro v H1 ⟨bV,e1,M1,d,w1,q1,p1⟩
 unfold UT at p1
 split at p1
 ·rename_i n
  split at p1
  ·rename_i kvs hM
   obtain⟨hn,rfl⟩:=kZ q1
   obtain⟨ys,hH,pv⟩:=w1.rl.obj n _ hM
   have hkl:ys.length=kvs.length:=pv.length
   refine⟨bV n,ys,rfl,hH,λo nf hlen=> ?_⟩
   obtain⟨Hz,hHz⟩:∃Hz,Hz=upd H1 (bV n) (.lV o (.dK ys)):=⟨_,rfl⟩
   have hzd:Hz (bV n)=some (.lV o (.dK ys)):=by rw[hHz];exact bw
   have x0:Ext X.K bV M1.length H1 bV M1.length Hz:=by rw[hHz];exact Ext.chg hH (λ_ z=>nomatch z) (λ_ _ z=>nomatch z)
   have r0:Rl X.K ct bV (M1.set n (.fd kvs)) Hz:=by
    have:=w1.rl.chg (o:= .lV o (.dK ys)) (x:= .fd kvs) hn hH (λ_ z=>nomatch z) (λ_ _ z=>nomatch z) ⟨o,ys,bw,pv.mono (by rw[<-hHz];exact x0)⟩
    rw[hHz];exact this
   have w0:Ws X.K ct bV e1 (M1.set n (.fd kvs)) σ Hz:=w1.ext (by rw[List.length_set];exact x0) r0
   rw[<-hHz]
   obtain⟨ds,hds⟩:∃ds,ds=kvs.map λp=>Ab p.1:=⟨_,rfl⟩
   rw[<-hds]at p1
   have hdl:ds.length=ys.length:=by rw[hds,zao,hkl]
   have fin:∀ι' e' M' σ' H',Ext X.K bV M1.length Hz ι' M'.length H'->Ws X.K ct ι' e' M' σ' H'->pK X.K ct W bV M1.length H1 (BX n (.next e' M')) T->(Jg X T).nx σ' H':=λι' e' M' σ' H' x' w' p'=>by
    unfold BX at p'
    cases z:M'[n]? with
    | none=>simp only[z]at p';exact p'.elim
    | some y=>
     cases y with
     | fd ks=>
      simp only[z]at p'
      obtain⟨o',ys',h',pv'⟩:=w'.rl.obj n _ z
      have en:ι' n=bV n:=x'.same n hn
      have hn':n<M'.length:=(List.getElem?_eq_some_iff.mp z).1
      rw[en]at h'
      have R2:=w'.rl.Tt (i:=n) (kvs:=ks) hn' (by rw[en];exact h') pv'
      rw[en]at R2
      refine⟨bV n,o',ys',nf,h',p' ι' σ' _ ?_ ⟨R2,w'.len,λi d hd=> ?_⟩⟩
      ·rw[List.length_set]
       rw[hHz]at x'
       exact RX hH x' h'
      ·obtain⟨v,h1,h2⟩:=w'.env i d hd
       rw[List.length_set]
       exact⟨v,h1,h2.wk (Wk.Tt h')⟩
     | _=>simp only[z]at p';exact p'.elim
   have anN:∀ι' d M' v H',Ext X.K bV M1.length Hz ι' M'.length H'->Rl X.K ct ι' M' H'->DV X.K ct ι' M'.length H' d v->pK X.K ct W bV M1.length H1 (BX n (.ret d M')) T->(Jg X T).rt v H':=λι' d M' v H' x' r' q' p'=>by
    unfold BX at p'
    cases z:M'[n]? with
    | none=>simp only[z]at p';exact p'.elim
    | some y=>
     cases y with
     | fd ks=>
      simp only[z]at p'
      obtain⟨o',ys',h',pv'⟩:=r'.obj n _ z
      have en:ι' n=bV n:=x'.same n hn
      have hn':n<M'.length:=(List.getElem?_eq_some_iff.mp z).1
      rw[en]at h'
      have R2:=r'.Tt (i:=n) (kvs:=ks) hn' (by rw[en];exact h') pv'
      rw[en]at R2
      refine⟨bV n,o',ys',nf,h',p' ι' v _ ?_ R2 ?_⟩
      ·rw[List.length_set]
       rw[hHz]at x'
       exact RX hH x' h'
      ·rw[List.length_set]
       exact q'.wk (Wk.Tt h')
     | _=>simp only[z]at p';exact p'.elim
   refine⟨λi m σ' H'=>m=ds.length - i/\i<=ds.length/\∃ι' e' M',Ext X.K bV M1.length Hz ι' M'.length H'/\Ws X.K ct ι' e' M' σ' H'/\pK X.K ct W bV M1.length H1 (BX n (cC none g b (ds.drop i) e' M')) T,
    ⟨ds.length,by simp,Nat.zero_le _,bV,e1,_,by rw[List.length_set];exact .refl,w0,by simpa using p1⟩,?_⟩
   rintro i m σ' H' ⟨rfl,hi,ι',e',M',x',w',p'⟩
   have hq:H' (bV n)=some (.lV o (.dK ys)):=x'.fz _ _ _ hzd
   by_cases hlt:i<ds.length
   ·rw[List.drop_eq_getElem_cons hlt]at p'
    unfold cC at p'
    rw[if_pos (show ig none M' from trivial)]at p'
    refine .inr ⟨⟨hq,()⟩,λσ2 H2=>∃gQ e2 M2,Ext X.K bV M1.length Hz gQ M2.length H2/\Ws X.K ct gQ e2 M2 σ2 H2/\pK X.K ct W bV M1.length H1 (BX n (cC none g b (ds.drop (i+1)) e2 M2)) T,?_,?_⟩
    ·rintro σ2 H2 ⟨gQ,e2,M2,x2,w2,p2⟩
     exact⟨ds.length - (i+1),(),rfl,hlt,gQ,e2,M2,x2,w2,p2⟩
    ·rintro y H2 ⟨rfl,pr,hpr,rfl⟩
     have hki:ds[i]=Ab pr.1:=by
      have hik:i<kvs.length:=()
      have h1:kvs[i]? = some kvs[i]:=zad hik
      have h2:=pv.key h1 hpr
      have h3:ds[i]? = some (Ab kvs[i].1):=by rw[hds,zan,h1];rfl
      rw[zad hlt]at h3
      rw[xI h3,h2]
     refine⟨ι',e',M',ds[i],w',by rw[hki];exact Ol,?_⟩
     cases z:g ds[i] e' with
     | none=>rw[z]at p';exact p'.elim
     | some e2=>
      simp only[z]at p'
      intro σ3 w3
      refine⟨ι',e2,M',w3,?_⟩
      cases z3:b e2 M' with
      | next e4 M4=>simp only[z3]at p';exact λQj σ5 H5 x5 w5=>⟨Qj,e4,M4,x'.trans x5,w5,p'⟩
      | cont e4 M4=>simp only[z3]at p';exact λQj σ5 H5 x5 w5=>⟨Qj,e4,M4,x'.trans x5,w5,p'⟩
      | brk e4 M4=>simp only[z3]at p';exact λQj σ5 H5 x5 w5=>fin Qj e4 M4 σ5 H5 (x'.trans x5) w5 p'
      | ret d M4=>simp only[z3]at p';exact λQj v5 H5 x5 r5 q5=>anN Qj d M4 v5 H5 (x'.trans x5) r5 q5 p'
      | exc xc xd xe xM=>simp only[z3]at p';exact p'.elim
      | bad=>simp only[z3]at p';exact p'.elim
   ·have e0:i=ds.length:=()
    subst e0
    rw[List.drop_length]at p'
    unfold cC at p'
    rw[if_pos (show ig none M' from trivial)]at p'
    exact .inl ⟨⟨hq,()⟩,fin ι' e' M' σ' H' x' w' p'⟩
  ·exact p1.elim
 ·exact p1.elim
end
end S
namespace S
open PySem L2
section
variable{e:Sl}{M:Mem}
def fkO(g:Tg)(b:MS)(e:Sl)(d:D)(M:Mem):gh:=UT g b d e M
@[simp] theorem anM:fkO g b e d M=UT g b d e M:=id rfl
@[simp] theorem ai8:aad ma g b e M=tW e (ma e M) (fkO g b e):=id rfl
theorem abu(h:M[n]? = some (.dk kvs)):UT g b (.ref n) e M=BX n (cC none g b (kvs.map λp=>Ab p.1) e (M.set n (.fd kvs))):=by simp only[UT,h]
theorem Tr(h:M[n]? = some (.fd kvs)):BX n (.next e M)= .next e (M.set n (.dk kvs)):=by simp only[BX,h]
end
end S
namespace S
open PySem PySem.Spec PyProof.Rows L2
def rF(kvs more:List (Key×D)):List (Key×D):=more.foldl (λacc kv=>N5 acc kv.1 kv.2) kvs
section
variable{X:Cx}{ct:Nat->Addr}{W:a_}
theorem u9.merge{K:Frag}{ι:Nat->Addr}{n:Nat}{H:Hp}{more:List (Key×D)}{mv:List (Key×V)}(h:u9 K ct ι n H more mv):∀{kvs:List (Key×D)} {vs:List (Key×V)},u9 K ct ι n H kvs vs->u9 K ct ι n H (rF kvs more) (uB vs mv):=by
 induction h with
 | nil=>intro kvs vs h;exact h
 | @cons x d v fs vs' hd t ih=>
  intro kvs vs h
  show u9 K ct ι n H (rF (N5 kvs x d) fs) (uB (putK vs x v) vs')
  exact ih (u9.put h hd x)
end
end S
namespace S
theorem Wi{α:Type}{us:List α}(h:us.length=6):∃a b c d e f,us=[a,b,c,d,e,f]:=by
 match us,h with
 | [a,b,c,d,e,f],_=>exact⟨a,b,c,d,e,f,rfl⟩
end S
namespace L2
open PySem PySem.Spec PyProof.Rows
abbrev Dsc:=Nat×Str×Str×Stmt×List Str
abbrev jy(c:Nat)(n q:Str)(s:Stmt)(p:List Str):Dsc:=(c,n,q,s,p)
set_option genInjectivity false in
structure Fv where
 f:Addr
 oc:Value
 kV:Value
 dc:Value
 pm:Value
 cd:Value
 ct:Value
 od:Option Addr
 an:Option Addr
 sl:Array (Option Value)
def fv0:Fv:=⟨0,.none,.none,.none,.none,.none,.none,none,none,#[]⟩
noncomputable def d0:Dsc:=(0,"","",.Pass ⟨0,0,0,0⟩,[])
noncomputable def Fv.fd(x:Fv)(d:Dsc):FuncData:=fnOf d.2.1 d.2.2.1 (fZ d.2.2.2.1) (cX d.2.2.2.1) (aX d.2.2.2.1) .none x.kV x.dc x.pm x.an x.cd x.ct
def Bd(nm qn:Str)(st:Stmt)(ps:List Str):Prop:=∀(kV doc pm:Value) (an:Option Addr) (cdv ct:Value) (us:List Value),us.length=ps.length->bindArgs (fnOf nm qn (fZ st) (cX st) (aX st) .none kV doc pm an cdv ct) ⟨us,[]⟩=pure (ps.zip us)
structure akL(K:Frag)(cls:Nat->Addr)(d:Dsc)(x:Fv):Prop where
 a0:(d.1==0)=true->nsIn K mainGlobals d.2.1=some (some (.ref x.f))
 a1:(d.1==0)=false->findIn K (.ref (cls (d.1 - 1))) d.2.1=some (some (.ref x.f))/\isFn K (.ref x.f)=true
 lk:K.lookup x.f=some ⟨x.oc,x.od,.func (x.fd d),x.sl⟩
 cd:codeIn K x.cd d.2.2.1=true
 kp:keepIn K (.ref x.f)=true
 bd:Bd d.2.1 d.2.2.1 d.2.2.2.1 d.2.2.2.2
def Qe(K:Frag)(cls:Nat->Addr):List Dsc->List Fv->Prop
 | [],[]=>True
 | d::ds,x::xs=>akL K cls d x/\Qe K cls ds xs
 | _,_=>False
section
variable{K:Frag}{cls:Nat->Addr}
theorem Qe.ok:∀{ds:List Dsc} {xs:List Fv},Qe K cls ds xs->∀{i:Nat},Nat.blt i ds.length=true->akL K cls (ds.getD i d0) (xs.getD i fv0)
 | [],_,_,i,hi=>by
  rw[Nat.blt_eq]at hi
  exact absurd hi (Nat.not_lt_zero _)
 | _::_,[],h,_,_=>h.elim
 | d::ds,x::xs,h,0,_=>h.1
 | d::ds,x::xs,h,i+1,hi=>by
  rw[Nat.blt_eq]at hi
  exact Qe.ok h.2 (by rw[Nat.blt_eq];simpa using hi)
theorem adQ:∃xs,Qe K cls [] xs:=⟨[],trivial⟩
theorem aho{nm:Str}{st:Stmt}{ps:List Str}{ds:List Dsc}{f:Addr}{oc kV dc pm cd ct:Value}{od an:Option Addr}{sl:Array (Option Value)}(h1:nsIn K mainGlobals nm=some (some (.ref f)))
  (h2:K.lookup f=some ⟨oc,od,.func (fnOf nm nm (fZ st) (cX st) (aX st) .none kV dc pm an cd ct),sl⟩) (h3:codeIn K cd nm=true) (h4:keepIn K (.ref f)=true) (hb:Bd nm nm st ps) (r:∃xs,Qe K cls ds xs):∃xs,Qe K cls ((0,nm,nm,st,ps)::ds) xs:=
 let⟨xs,h⟩:=r
 ⟨⟨f,oc,kV,dc,pm,cd,ct,od,an,sl⟩::xs,⟨λ_=>h1,(λz=>nomatch z),h2,h3,h4,hb⟩,h⟩
theorem ahn{c:Nat}{nm qn:Str}{st:Stmt}{ps:List Str}{ds:List Dsc}{C f:Addr}{oc kV dc pm cd ct:Value}{od an:Option Addr}{sl:Array (Option Value)}(hC:cls c=C)(h1:findIn K (.ref C) nm=some (some (.ref f)))(h0:isFn K (.ref f)=true)
  (h2:K.lookup f=some ⟨oc,od,.func (fnOf nm qn (fZ st) (cX st) (aX st) .none kV dc pm an cd ct),sl⟩) (h3:codeIn K cd qn=true) (h4:keepIn K (.ref f)=true) (hb:Bd nm qn st ps) (r:∃xs,Qe K cls ds xs):∃xs,Qe K cls ((c+1,nm,qn,st,ps)::ds) xs:=
 let⟨xs,h⟩:=r
 ⟨⟨f,oc,kV,dc,pm,cd,ct,od,an,sl⟩::xs,⟨(λz=>nomatch z),λ_=>⟨by rw[Nat.add_sub_cancel,hC];exact h1,h0⟩,h2,h3,h4,hb⟩,h⟩
variable{ds:List Dsc}{xs:List Fv}
theorem Qe.fn(h:Qe K cls ds xs)(hi:Nat.blt i ds.length=true):yE K (ds.getD i d0).2.1 (ds.getD i d0).2.2.1 (ds.getD i d0).2.2.2.1 .none (xs.getD i fv0).f ((xs.getD i fv0).fd (ds.getD i d0)):=xK (h.ok hi).lk (h.ok hi).cd (h.ok hi).kp
theorem Qe.b(h:Qe K cls ds xs)(hi:Nat.blt i ds.length=true):Binds K ((xs.getD i fv0).fd (ds.getD i d0)) (ds.getD i d0).2.2.2.2 []:=(h.fn hi).binds (h.ok hi).bd
theorem Qe.me(h:Qe K cls ds xs)(hi:Nat.blt i ds.length=true)(h1:((ds.getD i d0).1==0)=false):Meth K (cls ((ds.getD i d0).1 - 1)) (ds.getD i d0).2.1 (xs.getD i fv0).f:=
 ⟨((h.ok hi).a1 h1).1,((h.ok hi).a1 h1).2,(h.ok hi).kp⟩
theorem Qe.mk(h:Qe K cls ds xs)(hi:Nat.blt i ds.length=true)(h1:((ds.getD i d0).1==0)=false)(hn:(ds.getD i d0).2.1= "__init__")(hC:cls ((ds.getD i d0).1 - 1)=C)(m:PySem.W.makesIn K C=true)(k:keepIn K (.ref C)=true):Mk K C (xs.getD i fv0).f:=
 ⟨m,by rw[<-hC,<-hn];exact((h.ok hi).a1 h1).1,((h.ok hi).a1 h1).2,k⟩
def Bb(K:Frag)(C:Addr):List Str->Prop
 | []=>True
 | a::l=>u_ K C a/\Bb K C l
theorem Bb.get:∀{l:List Str},Bb K C l->∀{i:Nat},Nat.blt i l.length=true->u_ K C (l.getD i "")
 | [],_,i,hi=>by
  rw[Nat.blt_eq]at hi
  exact absurd hi (Nat.not_lt_zero _)
 | a::l,h,0,_=>h.1
 | a::l,h,i+1,hi=>by
  rw[Nat.blt_eq]at hi
  exact Bb.get h.2 (by rw[Nat.blt_eq];simpa using hi)
theorem zR:Bb K C []:=trivial
theorem vG(h:findIn K (.ref C) a=some none)(r:Bb K C l):Bb K C (a::l):=⟨h,r⟩
end
end L2
namespace S
open PySem PySem.Spec PyProof.Rows L2
def ajS:ME:=λ_ _=> .bad
theorem Z2:SE X ct W e ajS:=λpins s σ H Q I ⟨_,_,_,_,p⟩=>p.elim
end S
namespace L2
open PySem PySem.Spec PyProof.Rows
open PySem.MeetsSeq PySem.MeetsSeq2 PySem.MeetsSeq3
section
variable{prog:Program}{w:World}{A:Around}{E:Value->Shared->Prop}{s:Shared}
theorem Ez{items:Array Value}{lo hi:Option Int}{Q:Value->Shared->Prop}(ht:IsTup s.heap t items)(hs:s.heap.IsSliceOf sl vl vu .none)(pl:IsPart vl lo)(pu:IsPart vu hi)
  (hw:HT.bf items.size 0 lo=0/\HT.bf items.size items.size hi=items.size) (h:Q (.ref t) s):wpAny (model prog w) A (getItem (.ref t) (.ref sl)) Q E s:=by
 obtain⟨os,hos,hcs,hds⟩:=id hs
 have hTs:s.TypeIs (.ref sl) "slice" := ⟨os,hos,hcs⟩
 unfold getItem
 try with_reducible refine wpAny_holding ?_
 first | refine zC (zI ?_) | skip
 refine zC (wpAny_sequenceKey ht.typeIs (by decide) ?_)
 refine zC (zai (name:=Str.ofString "__getitem__") ht.typeIs PyProof.Rows.slot_tuple_getitem
  (jI PyProof.Rows.slot_tuple_getitem ht.typeIs entry_tuple_getitem ?_ (args_tuple_getitem _ _)))
 show wpAny _ _ (Builtin.Tuple.tupleItemsOf (.ref t) >>= _) _ _ s
 refine zC (tupleItemsOf_ ht ?_)
 refine zC (wpAny_typeOf hTs ?_)
 rw[if_pos (by decide)]
 refine zC (HT.vh hs pl pu ?_)
 have yes:(((HT.bf items.size 0 lo:Nat):Int)==0&&(1:Int)==1&&(HT.bf items.size items.size hi - HT.bf items.size 0 lo)==items.size)=true:=by
  rw[hw.1,hw.2];simp
 show wpAny _ _ (if(((HT.bf items.size 0 lo:Nat):Int)==0&&(1:Int)==1&&(HT.bf items.size items.size hi - HT.bf items.size 0 lo)==items.size)=true then _ else _) _ _ s
 rw[if_pos yes]
 refine zC ?_
 unfold Builtin.Tuple.tupleIsExact
 refine zC (wpAny_typeOf ht.typeIs ?_)
 refine zI ?_
 rw[if_pos (by decide)]
 refine zC (wpAny_rule ?_)
 exact zI ⟨_,rfl,zI h⟩
end
section
variable{X:Cx}
def amB(K:Frag):V->Option Int->Option Int->Hp->VK->Prop:=λx lo hi H Q=>∃a xs,x= .ref a/\lY K H a xs/\
 (HT.bf xs.length 0 lo=0/\HT.bf xs.length xs.length hi=xs.length)/\Q (.ref a) H
theorem afq:SlR X (amB X.K):=by
 intro pins s σ H x v vl vu lo hi sl Q I rx hs pl pu h
 obtain⟨a,xs,rfl,hx,hw,q⟩:=h
 cases rx
 obtain⟨its,r,ht,hz⟩:=I.tuple hx
 have hlen:its.toArray.size=xs.length:=by rw[List.size_toArray];exact r.length.symm
 refine⟨"tuple",_,PyProof.Rows.slot_tuple_getitem.lookup,ht.typeIs,?_⟩
 exact Ez ht hs pl pu (by rw[hlen];exact hw) ⟨.ref a,H,I,rfl,q⟩
end
end L2
namespace S
open PySem PySem.Spec PyProof.Rows L2
section
variable{X:Cx}{ct:Nat->Addr}{W:a_}{a:Expr}{ma:ME}{pos:Pos}
noncomputable def Z5(d:D)(lo hi:Option Int)(M:Mem):Out D:=match d with
 | .tup ds=> .ok (.tup (cut ds lo hi)) M
 | _=> .bad
theorem W3{α:Type}{xs:List α}{lo hi:Option Int}(h:HT.bf xs.length 0 lo=0/\HT.bf xs.length xs.length hi=xs.length):cut xs lo hi=xs:=by
 unfold cut
 rw[h.1,h.2]
 simp
noncomputable def Yb(m:ME)(lo hi:MO'):ME:=λe M=>(m e M).bind λd M1=>(lo e M1).bind λl M2=>(hi e M2).bind λh M3=>Z5 d l h M3
theorem Nx{lo hi:Option Expr}{ml mh:MO'}(ha:SE X ct W a ma)(hl:SO X ct W lo ml)(hh:SO X ct W hi mh):SE X ct W (.Subscript a (.Slice lo hi none p2) pos) (Yb ma ml mh):=by
 refine dJ (Rc (ZW.or afq) ha hl hh) λσ H Q q=> ?_
 obtain⟨ι,e,M,w,p⟩:=bH (dm:=cP X.K ct) (f:=λd e M1=>(ml e M1).bind λl M2=>(mh e M2).bind λh M3=>Z5 d l h M3) q
 refine⟨ι,e,M,w,p.mono ?_⟩
 rintro v H1 ⟨bV,e1,M1,d,w1,q1,p1⟩
 refine⟨bV,e1,M1,w1,?_⟩
 cases z:ml e1 M1 with
 | bad=>simp only[z,Out.cL]at p1;exact p1
 | exc xc xd xM=>simp only[z,Out.d_]at p1;exact p1
 | ok l M2=>
  simp only[z,Out.bC]at p1
  intro gQ l' H2 x2 r2 el
  have Ld:l=l':=el;subst Ld
  refine⟨gQ,e1,M2,w1.ext x2 r2,?_⟩
  have p2:=p1.ext x2
  cases z2:mh e1 M2 with
  | bad=>simp only[z2,Out.cL]at p2;exact p2
  | exc xc xd xM=>simp only[z2,Out.d_]at p2;exact p2
  | ok h M3=>
   simp only[z2,Out.bC]at p2
   intro Dq h' H3 x3 r3 eh
   have Ld:h=h':=eh;subst Ld
   have p3:=p2.ext x3
   have q3:=(q1.mono x2).mono x3
   cases d with
   | tup ds=>
    obtain⟨aa,xs,rfl,hs,hd⟩:=Pb q3
    simp only[Z5]at p3
    by_cases hw:HT.bf ds.length 0 l=0/\HT.bf ds.length ds.length h=ds.length
    ·rw[W3 hw]at p3
     exact .inr ⟨_,_,rfl,hs,by rw[hd.length];exact hw,p3 Dq _ H3 .refl r3 q3⟩
    ·exact .inl ⟨_,_,rfl,hs,by rw[hd.length];exact hw,λpp hp=>Eb r3 (hd.cut l h) hp p3⟩
   | _=>exact p3.elim
@[simp] theorem alg{lo hi:MO'}:Yb m lo hi e M=(m e M).bind (bd3 Z5 lo hi e):=id rfl
@[simp] theorem aiU{ds:List D}{lo hi:Option Int}:Z5 (.tup ds) lo hi M= .ok (.tup (cut ds lo hi)) M:=id rfl
end
end S
namespace L2
open PySem PySem.Spec PyProof.Rows
open PySem.MeetsSeq PySem.MeetsSeq2 PySem.MeetsSeq3 PySem.SeqAt
section
variable{prog:Program}{w:World}{A:Around}{E:Value->Shared->Prop}{s:Shared}
theorem abI{ws:List Value}{Q:Value->Shared->Prop}(ht:IsTup s.heap t ([]:List Value).toArray)(hb:IsTup s.heap b ws.toArray)(h:Q (.ref b) s):wpAny (model prog w) A (binaryOp .Add (.ref t) (.ref b)) Q E s:=by
 obtain⟨⟨cls,dd,data,sl⟩,ho,hc,n,hd⟩:=id ht
 obtain⟨⟨cls2,dd2,data2,sl2⟩,ho2,hc2,n2,hd2⟩:=id hb
 simp only at hc hd hc2 hd2
 subst hc hd hc2 hd2
 exact concat_meets ⟨_,ho,rfl⟩ ⟨_,ho2,rfl⟩ noFill_tuple_add seq_tuple_add PySem.F.slot_tuple_add PySem.F.entry_tuple_add (PySem.F.args_tuple_add_2 _ _)
  (tuple_addW0 t b ([]:List Value).toArray ws.toArray n n2 dd dd2 sl sl2 (by simp)) ⟨ho,ho2,h⟩
end
section
variable{X:Cx}
def aji(K:Frag):R2:=λx y H Q=>∃a b ys,x= .ref a/\y= .ref b/\lY K H a []/\lY K H b ys/\Q (.ref b) H
theorem ac9:tE X (binaryOp .Add) (aji X.K):=by
 intro pins s σ H x y v u Q I rx ry h
 obtain⟨a,b,ys,rfl,rfl,ha,hb,q⟩:=h
 cases rx
 cases ry
 obtain⟨its,r1,p1,_⟩:=I.tuple ha
 obtain⟨its2,r2,p2,_⟩:=I.tuple hb
 cases r1
 exact abI p1 p2 ⟨.ref b,H,I,rfl,q⟩
end
end L2
namespace S
open PySem PySem.Spec PyProof.Rows L2
section
variable{X:Cx}{ct:Nat->Addr}{M:Mem}
noncomputable def aae:qe:=λd e M=>match d,e with
 | .tup [],.tup ys=> .ok (.tup ys) M
 | _,_=> .bad
theorem ad4:f9 X ct (binaryOp .Add) aae:=by
 refine⟨_,ac9,λι M H d d' v v' Q R h h' p=> ?_⟩
 unfold aae at p
 split at p
 ·rename_i ys
  obtain⟨a,vs,rfl,ha,hd⟩:=kj h
  obtain⟨b,us,rfl,hb,hd'⟩:=kj h'
  cases hd
  exact⟨a,b,us,rfl,rfl,lY.of ha,lY.of hb,p ι _ H .refl R (.tup hb hd')⟩
 ·exact p.elim
def Js:qe:=uz LK aae
theorem W8:f9 X ct (binaryOp .Add) Js:=W7.or ad4
theorem aah(h:xs.length+ys.length<=sizeLine):Js (.tup xs) (.tup ys) M= .ok (.tup (xs++ys)) M:=by
 cases xs with
 | nil=>exact(pA (by simp[LK])).trans rfl
 | cons x xs=>exact jg (by simp only[LK];exact if_pos ⟨rfl,h⟩)
end
end S
namespace L2
open PySem
theorem iw.mo(r:iw k A)(h:j<=k:=by decide):iw j A:=r.mono h
end L2
namespace S
open PySem PySem.Spec PyProof.Rows L2
theorem bR{P:Program}{w:World}{K:Frag}{mg:Str->Option Value}{base:Heap}{ct:Nat->Addr}{n ar:Nat}{b:MS}{x qual:Str}{st:Stmt}{dV:Value}{f:Addr}{fd:FuncData}{ps:List Str}{k:Nat}(N:List Str)(F:yE K x qual st dV f fd)(Z:qP N ps (aX st))
  (hbody:∀{cdv:Value} {A:Around} {outer:List PySem.Env} {s:Shared} {H:Hp} {E:XK} {W:a_},iw k (A.deeper (envOfC qual (aX st) s.heap.objs.size f cdv))->N.Nodup->(A.deeper (envOfC qual (aX st) s.heap.objs.size f cdv)).units+64<cLine->
   YS ((xQ (Dp P w) P w K mg base N qual (aX st) f cdv A outer s H E).wish (iB (xQ (Dp P w) P w K mg base N qual (aX st) f cdv A outer s H E) W)) ct W (cX st) b) (hn:N.length=n:=by rfl) (har:ps.length=ar:=by rfl):
  gP P w K mg base (Dp P w) (k+1) f fd ps (spS K ct (aN n b) ar):=anI F Z hn har λ_ _ _ _ _ _ _ hr=>hbody hr Z.nd hr.units
theorem di{X:Cx}{W:a_}:Tk (X.wish (iB X W)) W:=Tk.wish
theorem jk{α:Type}{a:α}{q:Prop}:a=a\/q:=Or.inl rfl
end S
namespace L2
open PySem PySem.Spec PySem.W PySem.Calls PyProof.Rows
section
variable{X:Cx}
def aau:List V->Hp->VK->Prop:=λxs H Q=>∃d kvs ns,xs=[.ref d]/\H d=some (.dK kvs)/\kvs.length<64/\(kvs.map λp=>kV p.1)=ns.map V.int/\∀l,H l=none->Q (.ref l) (upd H l (.lst ((sortI ns).map V.int)))
theorem Pn(hc:X.calm=true):mV X (.builtin "sorted") aau:=by
 intro pins s σ H xs us Q I r h
 obtain⟨d,kvs,ns,rfl,hd,h64,ek,q⟩:=h
 obtain⟨u,rfl,rx⟩:=vals1 r
 cases rx
 obtain⟨z,nm,vs,kv,dd⟩:=(show cY X.prog X.w H s.heap d (.dK kvs)from I.hok d _ hd)
 obtain⟨ep,da⟩:=dd.dictAt
 have lv:kvs.length=vs.length:=Paired.length kv
 refine Calls.call_function_entry kind_sorted plain_sorted entry_sorted (args_sorted1 _) ?_
 unfold Builtin.«sorted»
 refine zC (m:=checkCount "sorted" 1 1 _) (zI (zC (kdu_collect (A:=X.A.in1) (kdl_dict (knd:=bI X.prog X.w) (kvs:=vs) (ep:=ep) nm) (I.ok.hd hc) da () λh' tk acc kp it=> ?_)))
 have I1:Inv X pins σ H {s with heap:=h',toks:=tk}:=I.kept kp
 have rv:Vals (ns.map V.int) acc.toList:=by
  rw[<-ek]
  refine ab6 ?_ λj v hv=> ?_
  ·have:=it.1
   simp
   omega
  ·obtain⟨k,x,e1,e2⟩:=it.2 j v (by rw[<-Array.getElem?_toList];exact hv)
   obtain⟨y,e3,_⟩:=agL kv e1
   exact⟨kV k,by rw[zan,e3];rfl,aa_ e2⟩
 have ia:=intsAre_of rv
 have line:(64:Nat)<=sizeLine:=by decide
 have el:acc.toList.length<64:=by have:=it.1;rw[Array.length_toList];omega
 refine zC (wpAny_newList ?_ ())
 have ho:(h'.push {cls:= .type "list",data:= .seq acc.toList.toArray}).get? h'.objs.size=some (seqObj "list" acc.toList.toArray 0):=yB _ rfl
 have I2:Inv X pins σ H {s with heap:=h'.push {cls:= .type "list",data:= .seq acc.toList.toArray},toks:=tk}:=I1.kept (t':=tk) λb o e=>zD _ e
 have fp:=I1.O7 (zac _) (I1.hok.fresh (zac _))
 refine zC (wpAny_holding (jI slot_list_sort ⟨_,ho,rfl⟩ entry_list_sort (list_sort_tree ho ia el λout ns' ia' pm pw=> ?_) (args_list_sort _)))
 obtain rfl:=eq_sortI pm pw
 have sb:=Heap.SameBut.update (h'.push {cls:= .type "list",data:= .seq acc.toList.toArray}) h'.objs.size (Obj.mapSeq λ_=>(#[]:Array Value))
 obtain⟨e1,ho1⟩:∃e1,((h'.push {cls:= .type "list",data:= .seq acc.toList.toArray}).update h'.objs.size (Obj.mapSeq λ_=>(#[]:Array Value))).get? h'.objs.size=some (seqObj "list" #[] e1):=⟨_,get?_update_seq ho λ_=> #[]⟩
 generalize hh:(((h'.push {cls:= .type "list",data:= .seq acc.toList.toArray}).update h'.objs.size (Obj.mapSeq λ_=>(#[]:Array Value))).push (seqObj "tuple" acc.toList.toArray 0)).push (seqObj "list" #[] 0)=h3
 have k3:∀b o,((h'.push {cls:= .type "list",data:= .seq acc.toList.toArray}).update h'.objs.size (Obj.mapSeq λ_=>(#[]:Array Value))).get? b=some o->h3.get? b=some o:=λb o e=>by
  rw[<-hh];exact zD _ (zD _ e)
 have sb':=Heap.SameBut.update h3 h'.objs.size (Obj.mapSeq λ_=>out)
 obtain⟨c2,hc2⟩:∃c2,(h3.update h'.objs.size (Obj.mapSeq λ_=>out)).get? h'.objs.size=some (seqObj "list" out c2):=⟨_,get?_update_seq (k3 _ _ ho1) λ_=>out⟩
 have es:sortedHeap (h'.push {cls:= .type "list",data:= .seq acc.toList.toArray}) h'.objs.size acc.toList out=h3.update h'.objs.size (Obj.mapSeq λ_=>out):=by
  unfold sortedHeap
  rw[<-hh]
 have I3:=I2.turned (t':=tk) (it:=h'.objs.size) (h':=h3.update h'.objs.size (Obj.mapSeq λ_=>out)) (λb o hb e=>(sb'.2 b hb).trans (k3 b o ((sb.2 b hb).trans e))) fp.1 fp.2.1 fp.2.2.2.1 fp.2.2.2.2.1 fp.2.2.2.2.2
 show ∃_,_
 rw[es]
 refine⟨_,rfl,zI ⟨_,rfl,.ref h'.objs.size,_,I3.track (o:= .lst ((sortI ns).map V.int)) fp (Heap.get?_none_of_le I1.sz) ⟨?_,out.toList,c2,Ft ia',by rw[Array.toArray_toList];exact hc2⟩,rfl,q _ fp.1⟩⟩
 have h1:=IntsAre.length ia
 have h2:=pm.length_eq
 rw[zao]
 omega
end
end L2
namespace S
open PySem PySem.Spec PyProof.Rows L2
def oW:Qd:=λds M=>match ds with
 | [.ref n]=>match M[n]? with
  | some (.dk kvs)=>match gU (kvs.map λp=>Ab p.1)with
   | some ns=>if kvs.length<64 then .ok (.ref M.length) (M++[.lst ((PySem.W.sortI ns).map D.int)])else .bad
   | none=> .bad
  | _=> .bad
 | _=> .bad
theorem Kg(hc:X.calm=true):pL X ct (.builtin "sorted") oW:=by
 refine⟨_,Pn hc,λι M H ds vs Q R h p=> ?_⟩
 unfold oW at p
 split at p
 ·rename_i n
  obtain⟨v,rfl,q⟩:=Gk h
  obtain⟨hn,rfl⟩:=kZ q
  split at p
  ·rename_i kvs z
   split at p
   ·rename_i ns e
    split at p
    ·rename_i hs
     obtain⟨ys,hH,pv⟩:=R.obj n _ z
     have dy:=VR pv
     have hl:=dy.length
     simp only[zao]at hl
     exact⟨_,ys,ns,rfl,hH,(),lK e dy,λl hl'=>o_ R (Ka _) hl' p⟩
    ·exact p.elim
   ·exact p.elim
  ·exact p.elim
 ·exact p.elim
theorem GP(h:M[n]? = some (.dk kvs))(hs:gU (kvs.map λp=>Ab p.1)=some ns)(hl:kvs.length<64):oW [.ref n] M= .ok (.ref M.length) (M++[.lst ((PySem.W.sortI ns).map D.int)]):=by
 simp only[oW,h,hs];rw[if_pos hl]
end S
namespace L2
open PySem PySem.Spec PySem.W PySem.Calls PyProof.Rows
section
variable{prog:Program}{w:World}{A:Around}{E:Value->Shared->Prop}{s:Shared}
theorem Yi{Q:Option Value->Shared->Prop}(hx:s.heap.get? a=some o)(hc:o.cls= .type "list")(hdat:o.data= .seq xs k)(hd:o.dict=none)(hA:A.handled=none)
  (h:∀h' tk,(∀b ob,s.heap.get? b=some ob->h'.get? b=some ob)->Q none {s with heap:=h',toks:=tk}):wpAny (model prog w) A (getAttr? (.ref a) "keys") Q E s:=by
 obtain⟨c,dct,dat,sl⟩:=o
 simp only at hc hdat hd
 subst hc hdat hd
 obtain⟨hp,g,d,tk,os⟩:=s
 have hT:∀tk',(⟨hp,g,d,tk',os⟩:Shared).TypeIs (.ref a) "list" := λ_=>⟨_,hx,rfl⟩
 have f1:=sub_AttributeError
 have f3:=F.slot_list_getattribute.lookup
 have f4:=F.slot_list_getattribute.bind (.ref a)
 have f5:=am_list_getattr_none
 have hmiss:typeLookup (.type "list") "keys" = pure none:=am_miss_of_fast (by decide +kernel)
 unfold getAttr? getAttrBy? getAttrBy
 repeat (any_goals (first | assumption | exact hT _ | ((with_reducible show wpAny _ _ (call (Value.builtin "list.__getattribute__") _ _) _ _ _);refine call_meets F.slot_list_getattribute (hT _) am_entry_list_getattribute (F.args_list_getattribute_2 _ _) (meets_getattribute_miss_list a xs k sl "keys" _ hmiss (by decide) (by size_fits)) ⟨hx,hA,λh' tk' e hx'=> ?_⟩) | wp_step))
 obtain⟨t',u',he⟩:=hx'.there
 show wpAny _ _ (getattributeRaised _ _ _ _ _ _ _) _ _ _
 unfold getattributeRaised
 repeat (any_goals (first | assumption | wp_step))
 exact h _ _ hx'.keeps
theorem Mt:entryFor table "dict.update.loop" = some Builtin.«dict.update.loop» := entryFor_of_tree (by kernel_rfl)
theorem Bk:plainId "dict.update.loop" = true:=by decide +kernel
theorem pair_items{Q:List Value->Shared->Prop}(ho:s.heap.get? b=some ob)(hc:ob.cls= .type "tuple")(hd:ob.data= .seq xs n)(h:Q xs.toList s):wpAny (model prog w) A (PySem.Builtin.Dict.pairItems (Value.ref b)) Q E s:=by
 unfold PySem.Builtin.Dict.pairItems
 refine zC (wpAny_typeOf (T:= "tuple") ⟨_,ho,hc⟩ ?_)
 rw[if_pos (by decide)]
 refine zC (wpAny_seqItems ho hd ?_)
 exact zI h
theorem Yv{R:Result->Shared->Prop}{I l d:Addr}{its:Array Value}{ps:List (Key×Value)}{h₀:Heap}(hne:l≠I)(hdI:d≠I)(hdl:d≠l)(hh:A.in1.handled=none)
  (tp:∀(i:Nat) (v:Value),its[i]? = some v->∃(b:Addr) (ob:Obj) (kx:Value) (k:Key) (x:Value) (nn:Nat),v= .ref b/\h₀.get? b=some ob/\ob.cls= .type "tuple" /\ ob.data= .seq #[kx,x] nn/\ps[i]? = some (k,x)/\(bI prog w).is k kx=true/\b≠I/\b≠d) (hl:its.size=ps.length) (hz:ps.length<=1000):
  ∀(k i:Nat) (s:Shared),its.size - i=k->i<=its.size->s.heap.IsListIter I l i->s.heap.IsList l its->(∀b o,b≠I->b≠d->h₀.get? b=some o->s.heap.get? b=some o)->s.heap.DictOf (bI prog w) d (merged [] (ps.take i))->
   (∀h' tk,(∀b o,b≠I->b≠d->s.heap.get? b=some o->h'.get? b=some o)->h'.DictOf (bI prog w) d (merged [] ps)->R (.ok (.ret .none)) {s with heap:=h',toks:=tk})->
   codeAny (model prog w) A (.builtin "dict.update.loop" ⟨[.ref d,.ref I,rawInt (i:Int),.none],[]⟩) R s:=by
 have W:=Walks.list (prog:=prog) (w:=w) hh I l hne its
 intro k
 induction k with
 | zero=>
  intro i s hk hi hit hls keep hd hR
  have hin:i=its.size:=()
  subst hin
  refine codeAny_builtin Mt ?_
  rw[Around.under_plainId Bk _]
  unfold Builtin.«dict.update.loop»
  show wpAny _ A.in1 (pyNext (.ref I) >>= _) _ _ s
  refine zC (W.done s _ _ ⟨hit,hls⟩ λh' tk kp=> ?_)
  show wpAny _ A.in1 (Builtin.Dict.addKeywords d [] >>= _) _ _ _
  refine zC (zI (zI ?_))
  refine hR h' tk (λb o hb _ e=>kp b o (by simpa using hb) e) ?_
  rw[hl,List.take_length]at hd
  obtain⟨o,es,ep,ho,rest⟩:=hd
  exact⟨o,es,ep,kp _ _ (by simpa using hdI) ho,rest⟩
 | succ k ih=>
  intro i s hk hi hit hls keep hd hR
  have hlt:i<its.size:=()
  refine codeAny_builtin Mt ?_
  rw[Around.under_plainId Bk _]
  unfold Builtin.«dict.update.loop»
  show wpAny _ A.in1 (pyNext (.ref I) >>= _) _ _ s
  refine zC (W.item i s _ _ hlt ⟨hit,hls⟩ λv h' tk hP st' kp=> ?_)
  obtain⟨b,ob,kx,kk,x,nn,rfl,hb,hcb,hdb,hps,hkey,hbI,hbd⟩:=tp i v hP
  have hb':h'.get? b=some ob:=kp _ _ (by simpa using hbI) (keep _ _ hbI hbd hb)
  have hd':h'.DictOf (bI prog w) d (merged [] (ps.take i)):=by
   obtain⟨o,es,ep,ho,rest⟩:=hd
   exact⟨o,es,ep,kp _ _ (by simpa using hdI) ho,rest⟩
  refine zC (wpAny_holding (zC (wpAny_tryCatch (pair_items (s:={s with heap:=h',toks:=tk}) hb' hcb hdb ?_))))
  show wpAny _ A.in1 (holding [kx,x] (dictSet d kx x)) _ _ _
  have lz:(merged [] (ps.take i)).length<=sizeLine:=by
   have:=merged_length_le [] (ps.take i)
   rw[List.length_take]at this
   have line:(1000:Nat)<=sizeLine:=by decide
   simp at this
   omega
  refine wpAny_holding (wpAny_dictSet_pairs (knd:=bI prog w) hkey hd' (λh2 hd2 sb=> ?_) lz)
  have tk2:=merged_take_succ [] ps i (kk,x) hps
  rw[<-tk2]at hd2
  refine zI ⟨plainId_quiet Bk _,?_⟩
  have st2:=W.frame (i+1) h' h2 st' λb hb o e=>(sb.2 b (by
   simp at hb
   rcases hb with rfl | rfl
   ·exact Ne.symm hdI
   ·exact Ne.symm hdl)).trans e
  refine ih (i+1) _ () hlt st2.1 st2.2 (λc o h1 h3 e=>(sb.2 c h3).trans (kp _ _ (by simpa using h1) (keep _ _ h1 h3 e))) hd2 λh3 tk3 kp3 hd3=> ?_
  exact hR h3 tk3 (λc o h1 h4 e=>kp3 c o h1 h4 ((sb.2 c h4).trans (kp _ _ (by simpa using h1) e))) hd3
theorem U6{Q:Value->Shared->Prop}(hh:A.handled=none)(ho:s.heap.get? l=some ol)(hc:ol.cls= .type "list")(hdt:ol.data= .seq its nn)(hdc:ol.dict=none)
  (tp:∀(i:Nat) (v:Value),its[i]? = some v->∃(b:Addr) (ob:Obj) (kx:Value) (k:Key) (x:Value) (nn:Nat),v= .ref b/\s.heap.get? b=some ob/\ob.cls= .type "tuple" /\ ob.data= .seq #[kx,x] nn/\ps[i]? = some (k,x)/\(bI prog w).is k kx=true) (hl:its.size=ps.length) (hz:ps.length<=1000)
  (h:∀h' tk,h'.DictOf (bI prog w) s.heap.objs.size (merged [] ps)->(∀b o,s.heap.get? b=some o->h'.get? b=some o)->Q (.ref s.heap.objs.size) {s with heap:=h',toks:=tk}):
  wpAny (model prog w) A (call (.type "dict") [.ref l]) Q E s:=by
 refine callType_codes (Q₁:=λobj s₁=>obj= .ref s.heap.objs.size/\s₁={s with heap:=s.heap.push {cls:= .type "dict",data:= .dict #[]}}) F.kt_called_dict (F.kt_typeCall_dict_1 _) F.entry_dict_init (kt_code_dict_new _ ⟨rfl,rfl⟩) ?_
 rintro obj s₁ ⟨rfl,rfl⟩
 have hnew:(s.heap.push {cls:= .type "dict",data:= .dict #[]}).DictOf (bI prog w) s.heap.objs.size []:=Heap.DictOf.new s.heap
 refine⟨hnew.typeIs,F.args_dict_init_2 _ _,?_⟩
 unfold Builtin.«dict.__init__»
 refine zC ?_
 unfold Builtin.Dict.selfAndRest
 refine zC (wpAny_notOrdered_dict hnew.typeIs ?_)
 show wpAny _ _ (pure (s.heap.objs.size,[Value.ref l])) _ _ _
 refine zI ?_
 show wpAny _ _ (Builtin.Dict.updateFrom "dict.__init__" s.heap.objs.size (.ref l) [] .none) _ _ _
 unfold Builtin.Dict.updateFrom
 have ho1:(s.heap.push {cls:= .type "dict",data:= .dict #[]}).get? l=some ol:=zD _ ho
 refine zC (wpAny_typeOf (T:= "list") ⟨_,ho1,hc⟩ ?_)
 rw[if_pos (by decide)]
 refine zC (Yi ho1 hc hdt hdc (by simpa using hh) λh1 tk1 kp1=> ?_)
 simp only[Option.isNone_none,if_true]
 have lt0:l<s.heap.objs.size:=zS ho
 have ho2:=kp1 _ _ ho1
 have hd2:h1.DictOf (bI prog w) s.heap.objs.size []:=by
  obtain⟨o,es,ep,ho,rest⟩:=hnew
  exact⟨o,es,ep,kp1 _ _ ho,rest⟩
 have dlt:s.heap.objs.size<h1.objs.size:=by
  obtain⟨o,es,ep,ho,rest⟩:=hd2
  exact zS ho
 have hl1:h1.IsList l its:=⟨_,ho2,hc,nn,hdt⟩
 refine zC (wpAny_rule (zC (wpAny_pyIter_list hl1 (zI ⟨plainId_quiet Bk _,?_⟩))))
 refine Yv (A:=A.in1) (I:=h1.objs.size) (l:=l) (h₀:=s.heap) (ps:=ps) (its:=its) (xD (Nat.lt_trans lt0 dlt)) (xD dlt) (xS lt0) (by simpa using hh) (λi v hv=> ?_) hl hz its.size 0 _ () (Nat.zero_le _) ⟨_,yB _ rfl,rfl,rfl⟩ (hl1.push _) (λb o h1' h2' e=>zD _ (kp1 _ _ (zD _ e))) ?_ λh' tk kp hd'=>⟨rfl,?_⟩
 ·obtain⟨b,ob,kx,k,x,nn,e1,e2,e3⟩:=tp i v hv
  have:=zS e2
  exact⟨b,ob,kx,k,x,nn,e1,e2,e3.1,e3.2.1,e3.2.2.1,e3.2.2.2,xD (Nat.lt_trans this dlt),xD this⟩
 ·obtain⟨o,es,ep,ho,rest⟩:=hd2
  exact⟨o,es,ep,zD _ ho,rest⟩
 ·refine h h' tk hd' λb o e=> ?_
  have:=zS e
  exact kp b o (xD (Nat.lt_trans this dlt)) (xD this) (zD _ (kp1 _ _ (zD _ e)))
end
section
variable{X:Cx}{pins:List (Addr×Obj)}{σ:St}{H:Hp}{s:Shared}
inductive Prz (H:Hp):List V->List (Key×V)->Prop
 | nil:Prz H [] []
 | cons {b:Addr} {k:Key} {x:V} {ys:List V} {ps:List (Key×V)}:H b=some (.tup [kV k,x])->Prz H ys ps->Prz H (.ref b::ys) ((k,x)::ps)
theorem afV(I:Inv X pins σ H s)(h:Prz H ys ps):∀{its:List Value},Vals ys its->∃vps:List (Key×Value),KV ps vps/\its.length=vps.length/\∀(i:Nat) (v:Value),its[i]? = some v->
  ∃(b:Addr) (ob:Obj) (kx:Value) (k:Key) (x:Value) (nn:Nat),v= .ref b/\s.heap.get? b=some ob/\ob.cls= .type "tuple" /\ ob.data= .seq #[kx,x] nn/\vps[i]? = some (k,x)/\(bI X.prog X.w).is k kx=true:=by
 induction h with
 | nil=>
  intro its r
  cases r
  exact⟨[],.nil,rfl,λi v h=>by simp at h⟩
 | @cons b k x ys ps hb _ ih=>
  intro its r
  cases r with
  | cons r0 r1=>
   rename_i u us
   cases(show u=Value.ref b from r0)
   obtain⟨vps,kv,hl,at_⟩:=ih r1
   obtain⟨its2,r2,⟨o,ho,hc,nn,hd⟩,_⟩:=I.tuple (a:=b) (xs:=[kV k,x]) (.inl (.inl hb))
   obtain⟨kx,xv,rfl,rk,rx⟩:=vals2 r2
   refine⟨(k,xv)::vps,.cons ⟨rfl,rx⟩ kv,by simp[hl],λi v hv=> ?_⟩
   cases i with
   | zero=>
    simp at hv
    exact⟨b,o,kx,k,xv,nn,hv.symm,ho,hc,hd,rfl,G5 rk⟩
   | succ i=>
    simp at hv
    exact at_ i v hv
def afJ(K:Frag):List V->Hp->VK->Prop:=λxs H Q=>∃l ys ps,xs=[.ref l]/\qO K H l ys/\Prz H ys ps/\ps.length<=1000/\∀p,H p=none->Q (.ref p) (upd H p (.dK (uB [] ps)))
theorem U7(hc:X.calm=true):mV X (.type "dict") (afJ X.K):=by
 intro pins s σ H xs us Q I r h
 obtain⟨l,ys,ps,rfl,hl,hp,hz,q⟩:=h
 obtain⟨u,rfl,rx⟩:=vals1 r
 cases(show u=Value.ref l from rx)
 obtain⟨its,r',⟨o,nn,ho,hcl,hd,hdt⟩,_⟩:=I.list hl
 obtain⟨vps,kv,el,at_⟩:=afV I hp r'
 have le:=KV.length kv
 refine U6 (I.ok.hd hc) ho hcl hdt hd (λi v hv=>at_ i v (by simpa using hv)) (by simpa using el) () λh' tk dd kp=> ?_
 have line:(1000:Nat)<=sizeLine:=by decide
 have lz:(uB [] ps).length<=sizeLine:=by
  have:=Cj ps []
  simp at this
  omega
 exact⟨.ref s.heap.objs.size,_,I.laid (t':=tk) kp (zac _) (abG lz (beq_eq_false_iff_ne.mpr (Ne.symm (xD I.big))) (KV.merge kv .nil) dd),rfl,q _ (I.hok.fresh (zac _))⟩
end
end L2
namespace S
open PySem PySem.Spec PyProof.Rows L2
def Je:List D->Option (List (Key×D))
 | []=>some []
 | .tup [k,x]::r=>match toKey k,Je r with
  | some kk,some ps=>some ((kk,x)::ps)
  | _,_=>none
 | _=>none
def zy:Qd:=λds M=>match ds with
 | [.ref n]=>match M[n]? with
  | some (.lst es)=>match Je es with
   | some ps=>if ps.length<=1000 then .ok (.ref M.length) (M++[.dk (rF [] ps)])else .bad
   | none=> .bad
  | _=> .bad
 | _=> .bad
theorem aaz{K:Frag}{ct ι:Nat->Addr}{n:Nat}{H:Hp}:∀{es:List D} {ps:List (Key×D)} {vs:List V},Je es=some ps->jm K ct ι n H es vs->∃qs,Prz H vs qs/\u9 K ct ι n H ps qs
 | [],ps,vs,h,d=>by
  cases d
  cases h
  exact⟨[],.nil,.nil⟩
 | e::r,ps,vs,h,d=>by
  cases d with
  | cons d0 d1=>
   unfold Je at h
   split at h
   ·rename_i e1;cases e1
   ·rename_i k x r' e1
    injection e1 with e2 e3
    subst e2 e3
    split at h
    ·rename_i kk qs hk hq
     cases h
     obtain⟨rs,p1,p2⟩:=aaz hq d1
     cases d0 with
     | tup hb dd=>
      cases dd with
      | cons dk dr=>
       cases dr with
       | cons dx dn=>
        cases dn
        cases yS hk dk
        exact⟨_,.cons hb p1,.cons dx p2⟩
    ·cases h
   ·cases h
theorem VP{K:Frag}{ct ι:Nat->Addr}{n:Nat}{H:Hp}{ps:List (Key×D)}{qs:List (Key×V)}(h:u9 K ct ι n H ps qs):ps.length=qs.length:=by
 induction h with
 | nil=>rfl
 | cons _ _ ih=>rw[List.length_cons,List.length_cons,ih]
theorem R_(hc:X.calm=true):pL X ct (.type "dict") zy:=by
 refine⟨_,U7 hc,λι M H ds vs Q R h p=> ?_⟩
 unfold zy at p
 split at p
 ·rename_i n
  obtain⟨v,rfl,q⟩:=Gk h
  obtain⟨hn,rfl⟩:=kZ q
  split at p
  ·rename_i es hM
   split at p
   ·rename_i ps e
    split at p
    ·rename_i hz
     obtain⟨ys,hH,dv⟩:=R.obj n _ hM
     obtain⟨qs,p1,p2⟩:=aaz e dv
     refine⟨_,ys,qs,rfl,.inl (.inl hH),p1,by rw[<-VP p2];exact hz,λpp hp=> ?_⟩
     have x0:Ext X.K ι M.length H (jF ι M.length pp) (M.length+1) (upd H pp (.dK (uB [] qs))):=Ext.new hp
     have r0:Rl X.K ct (jF ι M.length pp) (M++[.dk (rF [] ps)]) (upd H pp (.dK (uB [] qs))):=R.new hp ⟨_,bw,(u9.merge p2 .nil).mono x0⟩
     have el:(M++[MO.dk (rF [] ps)]).length=M.length+1:=by simp
     have ipp:jF ι M.length pp M.length=pp:=by unfold jF;rw[if_pos rfl]
     refine p (jF ι M.length pp) (.ref pp) _ (by rw[el];exact x0) r0 ?_
     show DV X.K ct (jF ι M.length pp) (M++[MO.dk (rF [] ps)]).length _ _ _
     rw[el]
     have:=DV.ref (K:=X.K) (ct:=ct) (ι:=jF ι M.length pp) (n:=M.length+1) (H:=upd H pp (.dK (uB [] qs))) (i:=M.length) (Nat.lt_succ_self _)
     rw[ipp]at this
     exact this
    ·exact p.elim
   ·exact p.elim
  ·exact p.elim
 ·exact p.elim
theorem Lz(h:M[n]? = some (.lst es))(hs:Je es=some ps)(hl:ps.length<=1000):zy [.ref n] M= .ok (.ref M.length) (M++[.dk (rF [] ps)]):=by
 simp only[zy,h,hs];rw[if_pos hl]
end S
namespace L2
open PySem PySem.Spec PySem.W PySem.Calls PyProof.Rows
def xX(n:Nat){α:Type}:KasT α->(α->Prop)->Prop
 | .ret a,Q=>Q a
 | .ask i j k,Q=>j<i/\i<n/\xX n (k false) Q
theorem xX.bind{n:Nat}{α β:Type}{f:α->KasT β}{Q:β->Prop}:∀{t:KasT α},xX n t (λa=>xX n (f a) Q)->xX n (t.bind f) Q
 | .ret _,h=>h
 | .ask _ _ _,h=>⟨h.1,h.2.1,xX.bind h.2.2⟩
theorem xX.mono{n:Nat}{α:Type}{Q Q':α->Prop}(hq:∀a,Q a->Q' a):∀{t:KasT α},xX n t Q->xX n t Q'
 | .ret _,h=>hq _ h
 | .ask _ _ _,h=>⟨h.1,h.2.1,xX.mono hq h.2.2⟩
theorem xX.wp{n:Nat}{G:Shared->Prop}{cmp:Nat->Nat->(Bool->Shared->Prop)->Shared->Prop}(hc:∀i j,j<i->i<n->∀(C:Bool->Shared->Prop) s,G s->(∀s',G s'->C false s')->cmp i j C s){α:Type}{R:α->Shared->Prop}{Q:α->Prop}(hR:∀a s,Q a->G s->R a s):
  ∀{t:KasT α} {s:Shared},xX n t Q->G s->t.kasWp cmp R s
 | .ret _,_,h,g=>hR _ _ h g
 | .ask i j k,s,h,g=>hc i j h.1 h.2.1 _ s g λ_ g'=>xX.wp hc hR h.2.2 g'
theorem Xb:∀(f m:Nat),1<=m->m+f=n->xX n (kas_asc (List.range n).toArray f m) (· = n)
 | 0,m,_,h=>(show m=n by omega)
 | f+1,m,h1,h=>by
  have g:∀i,i<n->(List.range n).toArray.getD i 0=i:=λi hi=>by simp[hi]
  refine⟨?_,?_,?_⟩
  ·rw[g m (),g (m - 1) ()];omega
  ·rw[g m ()];omega
  ·exact Xb f (m+1) () ()
theorem abR(h:1<=n):xX n (kas_sort n) (· = (List.range n).toArray):=by
 unfold kas_sort kas_count
 refine xX.bind (xX.bind ((Xb (n - 1) 1 (zac _) ()).mono λa e=> ?_))
 subst e
 rw[if_pos (by simp)]
 show xX _ (if _<_ then _ else _) _
 rw[if_neg (wS _)]
 rfl
section
variable{X:Cx}{pins:List (Addr×Obj)}{σ:St}{H:Hp}{s:Shared}{A:Around}{E:Value->Shared->Prop}
def Ris(H:Hp)(as:List Addr)(ks:List Int):Prop:=as.length=ks.length/\(∀(i:Nat) (a:Addr) (k:Int),as[i]? = some a->ks[i]? = some k->∃xs,H a=some (.tup (.int k::xs)))/\ks.Pairwise (· < ·)
theorem Q7(I:Inv X pins σ H s):∀{as:List Addr} {ks:List Int},as.length=ks.length->(∀(i:Nat) (a:Addr) (k:Int),as[i]? = some a->ks[i]? = some k->∃xs,H a=some (.tup (.int k::xs)))->
  ∃fs,KatTups s.heap (as.map Value.ref) fs/\fs.length=as.length/\∀M,∀v∈fs,Looks M s.heap (typeOf v) (.type "int")
 | [],_,_,_=>⟨[],KatTups.nil,rfl,λ_ v h=>by cases h⟩
 | a::as,[],l,_=>by cases l
 | a::as,k::ks,l,h=>by
  obtain⟨fs,t,hl,hf⟩:=Q7 I (as:=as) (ks:=ks) (by simpa using l) λi b c h1 h2=>h (i+1) b c h1 h2
  obtain⟨xs,ha⟩:=h 0 a k rfl rfl
  obtain⟨_,its,r1,o,ho,hc,n,hd⟩:=(show cY X.prog X.w H s.heap a (.tup (.int k::xs))from I.hok a _ ha)
  cases r1 with
  | @cons _ u _ us r0 r0s=>
   refine⟨u::fs,KatTups.cons ho hc hd (by simp) t,by simp[hl],λM v hv=> ?_⟩
   rcases List.mem_cons.mp hv with rfl | q
   ·obtain⟨t',rfl⟩:=r0;exact Looks.now
   ·exact hf M v q
theorem afE(I:Inv X pins σ H s)(h:Ris H as ks)(hij:j<i)(hi:i<as.length){Q:Bool->Shared->Prop}(q:Q false s):wpAny (model X.prog X.w) A (keyLt' (tuples' (Value.type "int" != Value.type "tuple")) ((as.map Value.ref).getD i Value.none) ((as.map Value.ref).getD j Value.none)) Q E s:=by
 obtain⟨hl,hh,pw⟩:=h
 have hi':i<ks.length:=()
 have lt:=List.pairwise_iff_getElem.mp pw j i () hi' hij
 obtain⟨xs,ha⟩:=hh i _ _ (zad hi) (zad hi')
 obtain⟨ys,hb⟩:=hh j _ _ (zad ()) (zad ())
 obtain⟨_,its,r1,o,ho,hc,n,hd⟩:=(show cY X.prog X.w H s.heap _ (.tup _)from I.hok _ _ ha)
 obtain⟨_,its',r1',o',ho',hc',n',hd'⟩:=(show cY X.prog X.w H s.heap _ (.tup _)from I.hok _ _ hb)
 have e1:(as.map Value.ref).getD i Value.none= .ref as[i]:=by simp[hi]
 have e2:(as.map Value.ref).getD j Value.none= .ref (as[j]'()):=by simp[show j<as.length by omega]
 rw[e1,e2]
 refine kat_lt ho hd ho' hd' ?_
 cases r1 with
 | cons r0 _=>
  cases r1' with
  | cons r0' _=>
   obtain⟨t,rfl⟩:=r0
   obtain⟨t',rfl⟩:=r0'
   show KatLex _ _ _ _ _ _ (List.zip (_::_) (_::_)) 0 s
   rw[List.zip_cons_cons]
   refine kat_cons (wpAny_eqBool_int ?_)
   have ne:(ks[i]==ks[j])=false:=by simp;omega
   rw[ne]
   refine kat_no ?_
   have q':Q (decide (ks[i]<ks[j])) s:=by rw[zag ()];exact q
   exact oneLt_int q'
theorem range_getD:(List.range vs.length).map (λi=>vs.getD i Value.none)=vs:=by
 apply List.ext_getElem?
 intro i
 rw[zan]
 by_cases h:i<vs.length
 ·simp[h]
 ·simp[h]
theorem TJ{P:PySem.Fin->Shared->Prop}(I:Inv X pins σ H s)(fp:yF X pins H l)(hv:vs=as.map Value.ref)(ho:s.heap.get? l=some (seqObj "list" vs.toArray n))(h64:vs.length<64)(rs:Ris H as ks)
  (h:∀(c:Nat) (s':Shared),s'.heap.get? l=some (seqObj "list" vs.toArray c)->Inv X pins σ H s'->P (.done (.ret .none)) s'):wpAny (model X.prog X.w) A (Builtin.«list.sort» ⟨[.ref l],[]⟩) P E s:=by
 have el:vs.length=as.length:=by rw[hv,zao]
 have hl:l<s.heap.objs.size:=zS ho
 have line:(64:Nat)<=sizeLine:=by decide
 obtain⟨e1,ho1⟩:∃e1,(s.heap.update l (Obj.mapSeq λ_=>(#[]:Array Value))).get? l=some (seqObj "list" #[] e1):=⟨_,get?_update_seq ho λ_=> #[]⟩
 have sb:=Heap.SameBut.update s.heap l (Obj.mapSeq λ_=>(#[]:Array Value))
 generalize hh:((s.heap.update l (Obj.mapSeq λ_=>(#[]:Array Value))).push (seqObj "tuple" vs.toArray 0)).push (seqObj "list" #[] 0)=h3
 have k3:∀b o,(s.heap.update l (Obj.mapSeq λ_=>(#[]:Array Value))).get? b=some o->h3.get? b=some o:=λb o e=>by
  rw[<-hh];exact zD _ (zD _ e)
 have ho3:h3.get? l=some (seqObj "list" #[] e1):=k3 _ _ ho1
 have I3:Inv X pins σ H {s with heap:=h3}:=I.turned (t':=s.toks) (it:=l) (λb o hb e=>k3 b o ((sb.2 b hb).trans e)) fp.1 fp.2.1 fp.2.2.2.1 fp.2.2.2.2.1 fp.2.2.2.2.2
 have fin:∀(s':Shared),Inv X pins σ H s'->s'.heap.get? l=some (seqObj "list" #[] e1)->
   wpAny (model X.prog X.w) A (seqEpoch l) (λafter s''=>wpAny (model X.prog X.w) A (Builtin.List.listUpdate (.ref l) λ_=>vs.toArray) (λ_ s3=>after=e1/\P (.done (.ret .none)) s3) E s'') E s':=λs' I' ho'=>by
  refine seqEpoch_at ho' rfl ?_
  refine listUpdate_at ho' rfl ⟨rfl,?_⟩ (Nat.zero_le _) (by simp only[List.size_toArray];omega)
  obtain⟨c2,hc2⟩:∃c2,(s'.heap.update l (Obj.mapSeq λ_=>vs.toArray)).get? l=some (seqObj "list" vs.toArray c2):=⟨_,get?_update_seq ho' λ_=>_⟩
  have sb':=Heap.SameBut.update s'.heap l (Obj.mapSeq λ_=>vs.toArray)
  exact h c2 _ hc2 (I'.turned (t':=s'.toks) (it:=l) (λb o hb e=>(sb'.2 b hb).trans e) fp.1 fp.2.1 fp.2.2.2.1 fp.2.2.2.2.1 fp.2.2.2.2.2)
 rw[list_sort_plain]
 refine zC (listItems_at ho rfl (zC (listUpdate_at ho rfl (zC (seqEpoch_at ho1 rfl (zC (wpAny_newTuple (zC (wpAny_newList (wpAny_holding ?_) (Nat.zero_le _))) (by show vs.length<=_;omega))))) (by simp only[List.size_toArray];omega) (Nat.zero_le _))))
 show wpAny _ A _ P E {s with heap:=((s.heap.update l (Obj.mapSeq λ_=>(#[]:Array Value))).push (seqObj "tuple" vs.toArray 0)).push (seqObj "list" #[] 0)}
 rw[hh]
 dsimp only
 by_cases h2:vs.toArray.size<2
 ·rw[if_pos h2,if_pos h2]
  refine zC (zI ?_)
  rw[StateT.run_pure]
  refine zC (zI ?_)
  dsimp only
  have hs:vs.length<2:=by simpa using h2
  have out:(arrOf (SortSt.mk' general' (vs.toArray.zip vs.toArray) #[] 7 none)).map (·.2)=vs.toArray:=by
   have ea:arrOf (SortSt.mk' general' (vs.toArray.zip vs.toArray) #[] 7 none)=vs.toArray.zip vs.toArray:=rfl
   rw[ea,Xn hs,range_getD]
  rw[out]
  refine zC (vE (fin _ I3 ho3) (λafter s'' hq=> ?_) λ_ _ z=>z)
  refine zC (vE hq (λ_ s3 hz=> ?_) λ_ _ z=>z)
  obtain⟨rfl,hz⟩:=hz
  simp only[bne_self_eq_false,Bool.false_eq_true,if_false]
  exact zI hz
 ·rw[if_neg h2,if_neg h2]
  have hs:2<=vs.length:=by simpa using h2
  have I4:Inv X ((l,seqObj "list" #[] e1)::pins) σ H {s with heap:=h3}:=I3.wL λp hp=>by
   rcases List.mem_cons.mp hp with rfl | hp
   ·exact⟨ho3,fp.1,fp.2.1,fp.2.2.1,λv z=>by cases z⟩
   ·exact I3.pin p (xE _ hp)
  obtain⟨fs,t,lf,lk⟩:=Q7 I3 rs.1 rs.2.1
  refine zC (kat_kind (T:=Value.type "int") (by rw[hv];exact t) () (λv hv=>lk _ v hv) (by decide) ?_)
  have wp:=xX.wp (G:=λs'=>Inv X ((l,seqObj "list" #[] e1)::pins) σ H s') (cmp:=kas_ask X.prog X.w A (tuples' (Value.type "int" != Value.type "tuple")) vs)
   (R:=λp s'=>p=(List.range vs.length).toArray/\Inv X ((l,seqObj "list" #[] e1)::pins) σ H s')
   (λi j hij hi C s' g hc=>by
    unfold kas_ask
    rw[hv]
    exact afE g rs hij () (hc s' g)) (λa s' h1 h2=>⟨h1,h2⟩) (abR (n:=vs.length) ()) I4
  refine zC (vE (kat_run (Q:=λst' s'=>∃p:Array Nat,arrOf st'=p.map (kas_item (vs.toArray.zip vs.toArray))/\failedOf st'=none/\p=(List.range vs.length).toArray/\Inv X ((l,seqObj "list" #[] e1)::pins) σ H s')
   rfl hs () (λp st' s' _ a2 a3 a4=>⟨p,a2,a3,a4⟩) wp) ?_ λ_ _ e=>e)
  rintro⟨⟨⟩,st'⟩ s' ⟨p,har,hf,rfl,I5⟩
  dsimp only
  rw[kat_snds rfl har,List.toList_toArray,range_getD]
  have ho5:=(I5.pin (l,seqObj "list" #[] e1) (xE _ xB)).1
  have I6:Inv X pins σ H s':=I5.wL λp hp=>I5.pin p (xE _ (yT _ hp))
  refine zC (vE (fin s' I6 ho5) (λafter s'' hq=> ?_) λ_ _ z=>z)
  refine zC (vE hq (λ_ s3 hz=> ?_) λ_ _ z=>z)
  obtain⟨rfl,hz⟩:=hz
  rw[hf]
  simp only[bne_self_eq_false,Bool.false_eq_true,if_false]
  exact zI hz
def aav:List V->Hp->VK->Prop:=λxs H Q=>∃(v d:Addr) (kvs:List (Key×V)) (ks:List Int),xs=[.ref v]/\H v=some (I_ v d)/\H d=some (.dK kvs)/\kvs.length<64/\(kvs.map λp=>kV p.1)=ks.map V.int/\ks.Pairwise (· < ·)/\
 ∀as l,as.length=kvs.length->as.Nodup->(∀a∈as,H a=none)->Fw H (prs as (kvs.map λp=>(kV p.1,p.2))) l=none->Q (.ref l) (upd (Fw H (prs as (kvs.map λp=>(kV p.1,p.2)))) l (.lst (as.map V.ref)))
theorem Pq(hc:X.calm=true):mV X (.builtin "sorted") aav:=by
 intro pins s σ H xs us Q I r h
 obtain⟨v,d,kvs,ks,rfl,hv,hd,h64,ek,pw,q⟩:=h
 obtain⟨u,rfl,rx⟩:=vals1 r
 cases rx
 obtain⟨es,ep,ps,en,hp,hz,pe⟩:=adP I (.inl ⟨kvs,hd⟩)
 have eps:ps=kvs.map λp=>(kV p.1,p.2):=by
  rcases hp with⟨kvs',h1,h2⟩ | ⟨kvs',h1,_⟩
  ·rw[hd]at h1
   injection h1 with h1
   injection h1 with h1
   rw[h2,h1]
  ·rw[hd]at h1
   injection h1 with h1
   cases h1
 rw[<-eps]at q
 have lk:ps.length=kvs.length:=by rw[eps,zao]
 have view:s.heap.IsItemsView v d:=(show cY X.prog X.w H s.heap v (I_ v d)from I.hok v _ hv).1
 have lp0:=pe.length
 have lp1:es.toList.length=es.size:=Array.length_toList
 have lp:ps.length=es.size:=lp0.trans lp1
 refine Calls.call_function_entry kind_sorted plain_sorted entry_sorted (args_sorted1 _) ?_
 unfold Builtin.«sorted»
 refine zC (m:=checkCount "sorted" 1 1 _) (zI (zC (K_ (A:=X.A.in1) (I.ok.hd hc) view en hz λh' tk as kp la pr=> ?_)))
 have I1:Inv X pins σ H {s with heap:=h',toks:=tk}:=I.kept kp
 have fr:∀a∈as,s.heap.objs.size<=a:=λa ha=>Nat.le_of_lt (pr.lt a ha).1
 have fresh:∀a∈as,H a=none:=λa ha=>I.hok.fresh (fr a ha)
 have aj4:Paired (λ(a:Addr) (p:V×V)=>∃u v,RelV p.1 u/\RelV p.2 v/\h'.get? a=some {cls:= .type "tuple",data:= .seq #[u,v]}) as ps:=by
  have go:∀{as:List Addr} {ps:List (V×V)} {es:List DictEntry},as.length=es.length->Paired (λ(p:V×V) (e:DictEntry)=>RelV p.1 e.key/\RelV p.2 e.val) ps es->(∀(j:Nat) (a:Addr),as[j]? = some a->∃e,es[j]? = some e/\h'.get? a=some {cls:= .type "tuple",data:= .seq #[e.key,e.val]})->
    Paired (λ(a:Addr) (p:V×V)=>∃u v,RelV p.1 u/\RelV p.2 v/\h'.get? a=some {cls:= .type "tuple",data:= .seq #[u,v]}) as ps:=by
   intro as
   induction as with
   | nil=>intro ps es l a _;cases a with
    | nil=>exact .nil
    | cons _ _=>simp at l
   | cons a as ih=>
    intro ps es l b h
    cases b with
    | nil=>simp at l
    | @cons p e _ _ r rs=>
     refine .cons ?_ (ih (by simpa using l) rs λj a ha=> ?_)
     ·obtain⟨e',q1,q2⟩:=h 0 a rfl
      simp at q1
      subst q1
      exact⟨_,_,r.1,r.2,q2⟩
     ·obtain⟨e',q1,q2⟩:=h (j+1) a (by simpa using ha)
      exact⟨e',by simpa using q1,q2⟩
  exact go (by rw[la,Array.length_toList]) pe λj a ha=>by
   obtain⟨e,q1,q2⟩:=pr.ix j a ha
   exact⟨e,by rw[Array.getElem?_toList];exact q1,q2⟩
 have I2:=Xl (s:={s with heap:=h',toks:=tk}) aj4 I1 pr.up (λa ha=>⟨I.O7 (fr a ha) (fresh a ha),Heap.get?_none_of_le (yY I.sz (fr a ha))⟩)
 have nd:as.Nodup:=pr.up.imp λh=>xD h
 have ndz:((prs as ps).map (·.1)).Nodup:=by
  have:(prs as ps).map (·.1)=as:=by
   unfold prs
   rw[List.map_map]
   have e:((λx=>x.fst)∘λ(p:Addr×V×V)=>(p.1,HO.tup [p.2.1,p.2.2]))=Prod.fst:=rfl
   rw[e,List.map_fst_zip]
   omega
  rw[this];exact nd
 have lks:kvs.length=ks.length:=by
  have:=congrArg List.length ek
  simpa using this
 have ris:Ris (Fw H (prs as ps)) as ks:=by
  refine⟨(),λi a k ha hk=> ?_,pw⟩
  have hi:i<ps.length:=by
   have:=(List.getElem?_eq_some_iff.mp ha).1
   omega
  have hpi:ps[i]? = some ps[i]:=zad hi
  have e0:ps[i].1= .int k:=by
   have e1:(ps.map (·.1))[i]? = some (V.int k):=by
    have:ps.map (·.1)=ks.map V.int:=by
     rw[<-ek,eps,List.map_map]
     rfl
    rw[this,zan,hk]
    rfl
   rw[zan,hpi]at e1
   exact xI e1
  have:(prs as ps)[i]? = some (a,.tup [ps[i].1,ps[i].2]):=by
   unfold prs
   rw[zan,show(as.zip ps)[i]? = some (a,ps[i])from List.getElem?_zip_eq_some.mpr ⟨ha,hpi⟩]
   rfl
  have q:=Nh ndz this (H:=H)
  rw[e0]at q
  exact⟨_,q⟩
 have line:(64:Nat)<=sizeLine:=by decide
 have ll:(as.map Value.ref).length<64:=by rw[zao];omega
 refine zC (wpAny_newList ?_ ())
 have ho:(h'.push {cls:= .type "list",data:= .seq (as.map Value.ref).toArray}).get? h'.objs.size=some (seqObj "list" (as.map Value.ref).toArray 0):=yB _ rfl
 have I3:Inv X pins σ (Fw H (prs as ps)) {s with heap:=h'.push {cls:= .type "list",data:= .seq (as.map Value.ref).toArray},toks:=tk}:=I2.kept (t':=tk) λb o e=>zD _ e
 have fp:=I2.O7 (zac _) (I2.hok.fresh (zac _))
 refine zC (wpAny_holding (jI slot_list_sort ⟨_,ho,rfl⟩ entry_list_sort (TJ I3 fp rfl ho ll ris λc s' e I4=> ?_) (args_list_sort _)))
 have va:∀as:List Addr,Vals (as.map V.ref) (as.map Value.ref):=λas=>by
  induction as with
  | nil=>exact .nil
  | cons a as ih=>exact .cons rfl ih
 refine⟨_,rfl,zI ⟨_,rfl,.ref h'.objs.size,_,I4.track (o:= .lst (as.map V.ref)) fp (Heap.get?_none_of_le I2.sz) ⟨?_,_,c,va as,e⟩,rfl,q as _ () nd fresh fp.1⟩⟩
 rw[zao]at ll ⊢
 omega
end
end L2
namespace S
open PySem PySem.Spec PyProof.Rows L2
def V4(p:Key×D):D:= .tup [Ab p.1,p.2]
open Classical in
def wC(d:D)(M:Mem):Out D:=match d with
 | .ref n=>match M[n]? with
  | some (.dk kvs)=>match gU (kvs.map λp=>Ab p.1)with
   | some ks=>if ks.Pairwise (· < ·)/\kvs.length<64 then .ok (.ref M.length) (M++[.lst (kvs.map V4)])else .bad
   | none=> .bad
  | _=> .bad
 | _=> .bad
def JL(mo:ME):ME:=λe M=>(mo e M).bind wC
section
variable{X:Cx}{ct:Nat->Addr}{W:a_}{o:Expr}{mo:ME}{apos p1 pos1 pos:Pos}
theorem XN{K:Frag}{ι:Nat->Addr}{n:Nat}{H:Hp}{kvs:List (Key×D)}{ys:List (Key×V)}(h:u9 K ct ι n H kvs ys):∀{as:List Addr},as.length=ys.length->(∀(i:Nat) (a:Addr) (q:Key×V),as[i]? = some a->ys[i]? = some q->H a=some (.tup [kV q.1,q.2]))->jm K ct ι n H (kvs.map V4) (as.map V.ref):=by
 induction h with
 | nil=>
  intro as la _
  cases as with
  | nil=>exact .nil
  | cons _ _=>simp at la
 | @cons x d v fs vs hd _ ih=>
  intro as la hh
  cases as with
  | nil=>simp at la
  | cons a as=>
   exact .cons (.tup (hh 0 a _ rfl rfl) (.cons Ol (.cons hd .nil))) (ih (by simpa using la) λi a q h1 h2=>hh (i+1) a q (by simpa using h1) (by simpa using h2))
theorem TV(hc:X.calm=true)(ho:SE X ct W o mo)(hg:Gl X "sorted")(hm:X.mg "sorted" = none)
  (hbase:attributeBase o "items" X.env (eval o X.env)=eval o X.env:=by rfl) (hline:(apos.endLine==pos1.line)=true:=by rfl)
  (he:starEach [.Call (.Attribute o "items" apos) [] [] pos1] X.env=(false,eval (.Call (.Attribute o "items" apos) [] [] pos1) X.env)::starEach [] X.env:=by rfl) (hpl:(backTo pos (starEach [] X.env)).any (·.1)=false:=by rfl):
  SE X ct W (.Call (.Name "sorted" p1) [.Call (.Attribute o "items" apos) [] [] pos1] [] pos) (JL mo):=by
 refine dJ (Rf (Pq hc) hg hm Gu (V5 (aaN PySem.F.plainAttrs_dict PySem.F.slot_dict_items PySem.F.type_dict_items aaW ho hbase hline) aaQ he) (by decide) (by decide) he hpl) λσ H Q q=> ?_
 obtain⟨ι,e,M,w,p⟩:=bH (dm:=cP X.K ct) (f:=λd _ M1=>wC d M1) q
 refine⟨ι,e,M,w,p.mono ?_⟩
 rintro v H1 ⟨bV,e1,M1,d,w1,q1,p1⟩
 dsimp only at p1
 unfold wC at p1
 split at p1
 ·rename_i m
  obtain⟨hn,rfl⟩:=kZ q1
  have R1:=w1.rl
  split at p1
  ·rename_i kvs z
   split at p1
   ·rename_i ks ek
    split at p1
    ·rename_i hs
     obtain⟨ys,hH,pv⟩:=R1.obj m _ z
     have dy:=VR pv
     refine⟨.inr (.inr (.inl ⟨rfl,.inl ⟨ys,hH⟩⟩)),_,rfl,rfl,.inl ⟨ys,.inl hH⟩,λv hv=> ?_⟩
     have ne:bV m≠v:=λz'=>by rw[z',hv]at hH;cases hH
     have x2:Ext X.K bV M1.length H1 bV M1.length (upd H1 v (I_ v (bV m))):=Ext.fresh hv
     have R2:Rl X.K ct bV M1 (upd H1 v (I_ v (bV m))):=R1.fresh hv
     have p2:=p1.ext x2
     have ly:=VP pv
     refine⟨v,bV m,ys,ks,rfl,bw,by rw[aH ne];exact hH,(),lK ek dy,hs.1,λas l la nd fr hl=> ?_⟩
     have la':as.length=(ys.map λp=>(kV p.1,p.2)).length:=by rw[zao];exact la
     have fr':∀p∈prs as (ys.map λp=>(kV p.1,p.2)),upd H1 v (I_ v (bV m)) p.1=none:=λp hp=>by
      have:p.1∈(prs as (ys.map λp=>(kV p.1,p.2))).map (·.1):=List.mem_map_of_mem hp
      rw[V2 la']at this
      exact fr _ this
     have nd':((prs as (ys.map λp=>(kV p.1,p.2))).map (·.1)).Nodup:=by rw[V2 la'];exact nd
     have x3:=Zi (K:=X.K) (ι:=bV) (n:=M1.length) fr' nd'
     have R3:=ab7 R2 fr' nd'
     have dv3:=XN ((pv.mono x2).mono x3) la λi a q ha hq=>by
      have:(prs as (ys.map λp=>(kV p.1,p.2)))[i]? = some (a,.tup [kV q.1,q.2]):=by
       unfold prs
       rw[zan,show(as.zip (ys.map λp=>(kV p.1,p.2)))[i]? = some (a,(kV q.1,q.2))from List.getElem?_zip_eq_some.mpr ⟨ha,by rw[zan,hq];rfl⟩]
       rfl
      exact Nh nd' this
     exact o_ R3 dv3 hl (p2.ext x3)
    ·exact p1.elim
   ·exact p1.elim
  ·exact p1.elim
 ·exact p1.elim
end
section
variable{e:Sl}{M:Mem}
@[simp] theorem aeN:JL mo e M=(mo e M).bind wC:=id rfl
theorem TF(h:M[n]? = some (.dk kvs))(hk:gU (kvs.map λp=>Ab p.1)=some ks)(hs:ks.Pairwise (· < ·))(hl:kvs.length<64):wC (.ref n) M= .ok (.ref M.length) (M++[.lst (kvs.map V4)]):=by
 simp only[wC,h,hk];rw[if_pos ⟨hs,hl⟩]
end
def T3:qe:=λd y M=>match d with
 | .ref n=>match M[n]? with
  | some (.fd kvs)=>match toKey y with
   | some k=>match pM kvs k with
    | some v=> .ok v M
    | none=> .bad
   | none=> .bad
  | _=> .bad
 | _=> .bad
section
variable{X:Cx}{ct:Nat->Addr}{W:a_}{a b:Expr}{ma mb:ME}{pos:Pos}
theorem agc{K:Frag}:Lh K ct T3 afG:=by
 intro w ι M H d d' v v' Q R h h' p
 unfold T3 at p
 split at p
 ·rename_i n
  obtain⟨hn,rfl⟩:=kZ h
  split at p
  ·rename_i kvs e
   obtain⟨o,vs,hH,pv⟩:=R.obj n _ e
   split at p
   ·rename_i k ek
    have ey:=yS ek h'
    subst ey
    split at p
    ·rename_i x ex
     obtain⟨vx,h1,h2⟩:=(pv.val k).1 x ex
     exact⟨_,vx,rfl,.inl ⟨vs,k,.inr ⟨o,hH⟩,rfl,h1.symm⟩,p ι vx _ .refl R h2⟩
    ·exact p.elim
   ·exact p.elim
  ·exact p.elim
 ·exact p.elim
theorem afs(hu:X.A.units+64<cLine)(ha:SE X ct W a ma)(hb:SE X ct W b mb)(hs:Qc b:=by exact λ_ _=>rfl):SE X ct W (.Subscript a b pos) (aD T3 ma mb):=
 dJ (aeB (Wq ()) ha hb hs) λσ H Q q=>Jh agc q
end
theorem acC(h:M[n]? = some (.fd kvs))(hv:pM kvs (.inl i)=some v):T3 (.ref n) (.int i) M= .ok v M:=by
 simp only[T3,h,toKey,hv]
end S
set_option Elab.async false
set_option maxHeartbeats 0
set_option maxRecDepth 100000
set_option linter.all false
namespace My
open PySem L2 S
def yf:MS:=
 (nq (aZ (aD sLt (aq 1) (vV jj (au (aq 0) aF)))) (bx (aD bf (aq 0) (aq 1))) bU)
def uU:MS:=
 (aO yf
 (bx (mC (.int 0))))
def cQ:Fn:=aN 2 uU
def Ae:MS:=
 (nq (Y0 (aZ (aD acD (aq 1) (vV jj (au (aq 0) aF)))) (aZ (aD Jo (aD bf (aq 0) (aq 1)) (aq 2)))) (bx (aq 1)) bU)
def gW:MS:=
 Ae
def Am:MS:=
 (FP (Um (mC (.mJ [(.mJ [(.str "once"),(.str "free")]),(.mJ [(.str "best"),(.str "any")]),(.mJ [(.str "own"),(.str "old")]),(.mJ [(.str "most"),(.str "half")])]))) (gT 2 (dG (gN 1) (dG (gN 2) Al))) gW)
def Ad:MS:=
 (nq (aZ (aD Q4 (vV jj (au (aq 0) aF)) (vV jj (au (mC (.mJ [(.mJ [(.str "once"),(.str "free")]),(.mJ [(.str "best"),(.str "any")]),(.mJ [(.str "own"),(.str "old")]),(.mJ [(.str "most"),(.str "half")])])) aF)))) (bx (vV jj (au (mC (.mJ [(.mJ [(.str "once"),(.str "free")]),(.mJ [(.str "best"),(.str "any")]),(.mJ [(.str "own"),(.str "old")]),(.mJ [(.str "most"),(.str "half")])])) aF))) bU)
def xT:MS:=
 (aO Am
 (aO Ad
 (bx (mC .non))))
def wX:Fn:=aN 3 xT
def Ai:MS:=
 (nq (aZ (aD CG (aq 3) (mC .non))) NP bU)
def mL:MS:=
 (aO (cD (mBM "str" FN (aq 1) (au (mC (.str " ")) aF)) (gN 2))
 (aO (cD (dw wX 1 [] (au (aq 2) aF)) (gN 3))
 (aO Ai
 (aO (dM [6] (aq 0) (aD sEq (aD bf (aq 2) (mC (.int 0))) (mC (.str "once"))) "once")
 (aO (dM [6] (aq 0) (aD sEq (aD bf (aq 2) (mC (.int 1))) (mC (.str "best"))) "best")
 (aO (dM [6] (aq 0) (aD sEq (aD bf (aq 2) (mC (.int 2))) (mC (.str "own"))) "own")
 (dM [6] (aq 0) (aD sEq (aD bf (aq 2) (mC (.int 3))) (mC (.str "most"))) "most")))))))
def jD:Fn:=aN 4 mL
def Fl:MS:=
 (aO (cD (z6 6 jD 2 [(.str "once best own most")] aF) (gN 1))
 (aO (dM [6] (aq 1) (bQ [6] (aq 0) "once") "once")
 (aO (dM [6] (aq 1) (bQ [6] (aq 0) "best") "best")
 (aO (dM [6] (aq 1) (bQ [6] (aq 0) "own") "own")
 (aO (dM [6] (aq 1) (bQ [6] (aq 0) "most") "most")
 (bx (aq 1)))))))
def Eo:Fn:=aN 2 Fl
def sX:MS:=
 (aO (dM [0,7,8] (aq 0) (aq 1) "rules")
 (aO (dM [0] (aq 0) qF "terms")
 (aO (dM [0] (aq 0) qF "votes")
 (aO (dM [0] (aq 0) qF "askings")
 (dM [0] (aq 0) qF "seated")))))
def rR:Fn:=aN 2 sX
def sI:MS:=
 (aO (dM [7] (aq 0) (aq 1) "first_roll")
 (aO (dM [0,7,8] (aq 0) (aq 2) "rules")
 (aO (dM [7] (aq 0) qF "rows")
 (aO (dM [7] (aq 0) qF "lines")
 (aO (dM [7] (aq 0) qF "marks")
 (dM [7] (aq 0) qF "places"))))))
def rK:Fn:=aN 3 sI
def sJ:MS:=
 (aO (dM [5] (aq 0) qF "beats")
 (aO (dM [5] (aq 0) qF "heard")
 (aO (dM [5] (aq 0) qF "looks")
 (dM [5] (aq 0) qF "seen"))))
def rM:Fn:=aN 1 sJ
def mQ:MS:=
 (aO (dM [8] (aq 0) (aq 1) "first")
 (aO (dM [0,7,8] (aq 0) (mIf (aZ (aD sIs (aq 2) (mC .non))) (z6 6 jD 2 [(.str "once best own most")] aF) (aU 6 "twin" Eo 1 [] (aq 2) aF)) "rules")
 (aO (dM [8] (aq 0) (z6 0 rR 2 [] (au (bQ [0,7,8] (aq 0) "rules") aF)) "ballots")
 (aO (dM [8] (aq 0) (z6 7 rK 3 [] (au (fL (au (aq 1) (au (mC (.int 0)) aF))) (au (bQ [0,7,8] (aq 0) "rules") aF))) "strides")
 (aO (dM [8] (aq 0) (z6 5 rM 1 [] aF) "replies")
 (aO (dM [8] (aq 0) (mC (.int 0)) "count")
 (dM [8] (aq 0) (mC .non) "breach")))))))
def qL:Fn:=aN 3 mQ
def lX:MS:=
 (bx (z7 (aD Q4 (vV jj (au (aq 0) aF)) (mC (.int 0))) (aD sEq (aa0 [("vote",4),("chair",4),("write",4),("beat",3),("told",5),("settle",4),("answer",6),("look",6),("seen",8)] (aD bf (aq 0) (mC (.int 0)))) (vV jj (au (aq 0) aF)))))
def iz:Fn:=aN 1 lX
def t8:MS:=
 (nq (aZ (aD sIn (aD bf (aq 0) (mC (.int 0))) (mC (.mJ [(.str "vote"),(.str "chair"),(.str "told")])))) (bx (aD bf (aq 0) (mC (.int 2)))) bU)
def vQ:MS:=
 (aO t8
 (bx (aD bf (aq 0) (mC (.int 1)))))
def nG:Fn:=aN 1 vQ
def Dc:MS:=
 (nq (aZ (aD sEq (vV jj (au (aq 0) aF)) (mC (.int 0)))) (bx (fL (au (mC (.int 0)) (au (mC (.int 0)) aF)))) bU)
def Fj:MS:=
 (aO Dc
 (bx (fL (au (aD bf (aD bf (aq 0) (mUn afv (mC (.int 1)))) (mC (.int 0))) (au (vV jj (au (aq 0) aF)) aF)))))
def zY:Fn:=aN 1 Fj
def nQ:MS:=
 (bx (Ci (bQ [7] (aq 0) "rows") (aq 1) (fL aF)))
def bK:Fn:=aN 2 nQ
def mU:MS:=
 (bx (Ci (bQ [0] (aq 0) "terms") (aq 1) (mC (.int 0))))
def cB:Fn:=aN 2 mU
def lG:MS:=
 (bx (Ci (bQ [0] (aq 0) "votes") (fL (au (aq 1) (au (aq 2) aF))) (mC (.int 0))))
def cJ:Fn:=aN 3 lG
def Cw:MS:=
 (cD (aD sOr (aq 1) (aD sZ (mC (.int 1)) (aq 2))) (gN 1))
def J_:MS:=
 (FP (t6 (aq 0)) (gN 2) Cw)
def Ku:MS:=
 (aO (cD (mC (.int 0)) (gN 1))
 (aO J_
 (bx (aq 1))))
def l_:Fn:=aN 3 Ku
def jr:MS:=
 (nq (aZ (bQ [6] (bQ [0,7,8] (aq 0) "rules") "once")) (bx (aD sNe (aq 4) (mC (.int 0)))) bU)
def iU:MS:=
 (aO (cD (aU 0 "votes_of" cJ 3 [] (aq 0) (au (aq 1) (au (aq 2) aF))) (gN 4))
 (aO jr
 (bx (aD sNe (aD Q6 (aq 4) (dw l_ 1 [] (au (Ep (au (aq 3) aF)) aF))) (mC (.int 0))))))
def iI:Fn:=aN 5 iU
def jx:MS:=
 (bx (We (bQ [0] (aq 0) "askings") (fL (au (aq 1) (au (aq 2) aF)))))
def gH:Fn:=aN 3 jx
def fO:MS:=
 (nq (aZ (aD sIs (aq 4) (mC .non))) (bx (mC (.bl false))) bU)
def dX:MS:=
 (aO (cD (aU 0 "asked_with" gH 3 [] (aq 0) (au (aq 1) (au (aq 2) aF))) (gN 4))
 (aO fO
 (bx (Yc (aD sLe (aq 3) (aq 4)) (Wd (bQ [6] (bQ [0,7,8] (aq 0) "rules") "best"))))))
def dW:Fn:=aN 5 dX
def d7:MS:=
 (nq (Y0 (aZ (aD sLt (aq 2) (aU 0 "term_of" cB 2 [] (aq 0) (au (aq 1) aF)))) (aZ (aU 0 "is_spent" iI 4 [] (aq 0) (au (aq 1) (au (aq 2) (au (aq 3) aF)))))) (bx (mC (.bl false))) bU)
def dZ:MS:=
 (nq (aZ (aD sEq (aq 3) (aq 1))) (bx (aD Q4 (aq 2) (aU 0 "term_of" cB 2 [] (aq 0) (au (aq 1) aF)))) bU)
def dI:MS:=
 (aO d7
 (aO dZ
 (bx (aU 0 "is_good_enough" dW 4 [] (aq 0) (au (aq 3) (au (aq 2) (au (aq 4) aF)))))))
def dD:Fn:=aN 5 dI
def lH:MS:=
 (bx (We (bQ [0] (aq 0) "seated") (aq 1)))
def bW:Fn:=aN 2 lH
def Dg:MS:=
 (bx (ye [0] (JM (au (mBM "int" VD (aq 0) aF) aF)) (aZ (aD sNe (aD Q6 (aq 1) (aD sZ (mC (.int 1)) (aq 0))) (mC (.int 0)))) (aq 0)))
def wY:Fn:=aN 1 Dg
def jX:MS:=
 (bx (vV Xw (au (ye [2,0,3] (t6 (dw wY 1 [] (au (aq 1) aF))) vM (aD sNe (aD Q6 (aU 0 "votes_of" cJ 3 [] (aq 2) (au (aq 0) (au (aq 1) aF))) (dw l_ 1 [] (au (Ep (au (aq 3) aF)) aF))) (mC (.int 0)))) aF)))
def jQ:Fn:=aN 4 jX
def U9:MS:=
 (bx (vV jj (au (dw wY 1 [] (au (aq 0) aF)) aF)))
def JG:Fn:=aN 1 U9
def G7:MS:=
 (nq (aZ (aq 2)) (bx (aD acD (aq 3) (dw JG 1 [] (au (aq 1) aF)))) bU)
def nP:MS:=
 (aO (cD (aD TY (mC (.int 2)) (dw JG 1 [] (au (aD Q6 (aq 0) (aq 1)) aF))) (gN 3))
 (aO G7
 (bx (aD Q4 (aq 3) (dw JG 1 [] (au (aq 1) aF))))))
def Bp:Fn:=aN 4 nP
def Ex:MS:=
 (nq (Rz (aZ (dw Bp 3 [] (au (aq 1) (au (aD bf (aq 0) (mC (.int 0))) (au (aq 2) aF)))))) (bx (mC (.bl false))) bU)
def Aw:MS:=
 (aO Ex
 (bx (Yc (aD sEq (aD bf (aq 0) (mC (.int 1))) (mC (.int 0))) (dw Bp 3 [] (au (aq 1) (au (aD bf (aq 0) (mC (.int 1))) (au (aq 2) aF)))))))
def JF:Fn:=aN 3 Aw
def xU:MS:=
 (bx (dw JF 3 [] (au (aq 1) (au (aq 2) (au (Wd (bQ [6] (aq 0) "most")) aF)))))
def wZ:Fn:=aN 3 xU
def cH:MS:=
 (nq (Y0 (aZ (aD sNe (aU 0 "term_of" cB 2 [] (aq 0) (au (aq 1) aF)) (aq 2))) (aZ (aD sEq (aU 0 "chair_of" bW 2 [] (aq 0) (au (aq 2) aF)) (aq 1)))) (bx (mC (.bl false))) bU)
def cG:MS:=
 (nq (aZ (aD sNe (aU 0 "asked_with" gH 3 [] (aq 0) (au (aq 1) (au (aq 2) aF))) (aq 4))) (bx (mC (.bl false))) bU)
def cz:MS:=
 (aO cH
 (aO cG
 (bx (z7 (aU 0 "voted_all" jQ 4 [] (aq 0) (au (aq 3) (au (aq 2) (au (aq 1) aF)))) (aU 6 "wins" wZ 3 [] (bQ [0,7,8] (aq 0) "rules") (au (aq 5) (au (aq 3) aF)))))))
def cu:Fn:=aN 6 cz
def gK:MT:=
 (agD (aZ (aD Q4 (aq 1) (mC (.int 0)))) (aZ (aD sNe (aD bf (aD bf (aD bf (aq 0) (aD TX (aq 1) (mC (.int 1)))) (mC (.int 1))) (mC (.int 0))) (mC (.str "roll")))))
def jd:MS:=
 (cD (aD TX (aq 1) (mC (.int 1))) (gN 1))
def tK:MS:=
 (Jm gK jd)
def pY:MS:=
 (aO (cD (vV jj (au (aq 0) aF)) (gN 1))
 (aO tK
 (bx (aq 1))))
def pP:Fn:=aN 2 pY
def Af:MS:=
 (nq (aZ (aD sEq (aq 2) (mC (.int 0)))) (bx (aq 1)) bU)
def Bt:MS:=
 (aO (cD (dw pP 1 [] (au (aq 0) aF)) (gN 2))
 (aO Af
 (aO (cD (aD bf (aD bf (aq 0) (aD TX (aq 2) (mC (.int 1)))) (mC (.int 1))) (gN 3))
 (bx (fL (au (aD bf (aq 3) (mC (.int 1))) (au (aD bf (aq 3) (mC (.int 2))) aF)))))))
def Bm:Fn:=aN 4 Bt
def lu:MS:=
 (bx (dw Bm 2 [] (au (aU 7 "row_of" bK 2 [] (aq 0) (au (aq 1) aF)) (au (bQ [7] (aq 0) "first_roll") aF))))
def kO:Fn:=aN 2 lu
def sH:MS:=
 (bx (Ci (bQ [7] (aq 0) "lines") (aq 1) (fL aF)))
def cW:Fn:=aN 2 sH
def lE:MS:=
 (bx (z7 (aD Jq (mC (.int 0)) (aq 2)) (aD Jq (aq 2) (vV jj (au (aU 7 "line" cW 2 [] (aq 0) (au (aq 1) aF)) aF)))))
def iG:Fn:=aN 3 lE
def mO:MS:=
 (bx (Ci (bQ [5] (aq 0) "beats") (aq 1) (mC (.int 0))))
def jh:Fn:=aN 2 mO
def lF:MS:=
 (bx (z7 (aD Jq (mC (.int 0)) (aq 2)) (aD Jq (aq 2) (aU 5 "beat_of" jh 2 [] (aq 0) (au (aq 1) aF)))))
def iH:Fn:=aN 3 lF
def fM:MS:=
 (nq (Y0 (aZ (aD sIs (aq 5) (mC .non))) (Y0 (aZ (aD sEq (aq 5) (aq 1))) (aZ (aD sLt (aq 2) (aU 0 "term_of" cB 2 [] (bQ [8] (aq 0) "ballots") (au (aq 1) aF)))))) (bx (mC (.bl false))) bU)
def nR:MS:=
 (aO (cD (aU 0 "chair_of" bW 2 [] (bQ [8] (aq 0) "ballots") (au (aq 2) aF)) (gN 5))
 (aO fM
 (bx (z7 (aU 7 "may_tell" iG 3 [] (bQ [8] (aq 0) "strides") (au (aq 2) (au (aq 3) aF))) (aU 5 "may_hear" iH 3 [] (bQ [8] (aq 0) "replies") (au (aq 2) (au (aq 4) aF)))))))
def nH:Fn:=aN 6 nR
def fY:MS:=
 (nq (aZ (aD sEq (aD bf (aq 1) (mC (.int 0))) (mC (.str "vote")))) (bx (aU 0 "may_vote" dD 5 [] (bQ [8] (aq 0) "ballots") (au (aq 2) (au (aD bf (aq 1) (mC (.int 2))) (au (aD bf (aq 1) (mC (.int 3))) (au (aq 3) aF)))))) bU)
def fX:MS:=
 (nq (aZ (aD sEq (aD bf (aq 1) (mC (.int 0))) (mC (.str "chair")))) (bx (aU 0 "may_chair" cu 6 [] (bQ [8] (aq 0) "ballots") (au (aq 2) (au (aD bf (aq 1) (mC (.int 2))) (au (aD bf (aq 1) (mC (.int 3))) (au (aq 3) (au (aU 7 "row_roll" kO 2 [] (bQ [8] (aq 0) "strides") (au (aq 2) aF)) aF))))))) bU)
def e_:MS:=
 (aO (cD (aD bf (aq 1) (mC (.int 1))) (gN 2))
 (aO (cD (dw zY 1 [] (au (aU 7 "row_of" bK 2 [] (bQ [8] (aq 0) "strides") (au (aq 2) aF)) aF)) (gN 3))
 (aO fY
 (aO fX
 (bx (aU 8 "may_tell" nH 5 [] (aq 0) (au (aq 2) (au (aD bf (aq 1) (mC (.int 2))) (au (aD bf (aq 1) (mC (.int 3))) (au (aD bf (aq 1) (mC (.int 4))) aF))))))))))
def bO:Fn:=aN 4 e_
def nU:MS:=
 (bx (z7 (aD sIn (aq 1) (bQ [0] (aq 0) "seated")) (aD sEq (aU 0 "term_of" cB 2 [] (aq 0) (au (aD bf (bQ [0] (aq 0) "seated") (aq 1)) aF)) (aq 1))))
def nJ:Fn:=aN 2 nU
def kW:MS:=
 (nq (aZ (aD sEq (aD bf (aq 3) (mC (.int 0))) (aq 1))) (bx (aq 2)) bU)
def fJ:MS:=
 kW
def kY:MS:=
 (FP (aa1 (aq 0) (mC (.int 1))) (gT 2 (dG (gN 2) (dG (gN 3) Al))) fJ)
def jK:MS:=
 (aO kY
 (bx (mC .non)))
def jC:Fn:=aN 4 jK
def m8:MS:=
 (nq (aZ (aD sNe (aq 2) (aD oZ (vV jj (au (aq 4) aF)) (mC (.int 1))))) (bx (mC (.bl false))) bU)
def m7:MS:=
 (nq (aZ (aD sNe (aq 5) (aD sEq (aq 3) (fL (au (mC (.str "start")) aF))))) (bx (mC (.bl false))) bU)
def jU:MS:=
 (aO (cD (aU 7 "line" cW 2 [] (aq 0) (au (aq 1) aF)) (gN 4))
 (aO m8
 (aO (cD (aD sIs (dw jC 2 [] (au (aq 4) (au (aq 1) aF))) (mC .non)) (gN 5))
 (aO m7
 (bx (Yc (aD sNe (aD bf (aq 3) (mC (.int 0))) (mC (.str "roll"))) ajS))))))
def jN:Fn:=aN 6 jU
def jV:MS:=
 (bx (aD sEq (aq 2) (aD oZ (aU 5 "beat_of" jh 2 [] (aq 0) (au (aq 1) aF)) (mC (.int 1)))))
def jO:Fn:=aN 3 jV
def iK:MS:=
 (nq (aZ (aD sEq (aD bf (aq 1) (mC (.int 0))) (mC (.str "write")))) (bx (aU 7 "may_write" jN 4 [] (bQ [8] (aq 0) "strides") (au (aq 2) (au (aD bf (aq 1) (mC (.int 2))) (au (aD bf (aq 1) (mC (.int 3))) aF))))) bU)
def mF:MS:=
 (nq (aZ (aD sEq (aD bf (aq 1) (mC (.int 0))) (mC (.str "beat")))) (bx (aU 5 "may_begin" jO 3 [] (bQ [8] (aq 0) "replies") (au (aq 2) (au (aD bf (aq 1) (mC (.int 2))) aF)))) bU)
def xJ:MS:=
 (nq (aZ (aD sEq (aD bf (aq 1) (mC (.int 0))) (mC (.str "settle")))) NP bU)
def xH:MS:=
 (nq (aZ (aD sEq (aD bf (aq 1) (mC (.int 0))) (mC (.str "answer")))) NP bU)
def xG:MS:=
 (nq (aZ (aD sEq (aD bf (aq 1) (mC (.int 0))) (mC (.str "look")))) NP bU)
def gO:MS:=
 (aO (cD (aD bf (aq 1) (mC (.int 1))) (gN 2))
 (aO iK
 (aO mF
 (aO xJ
 (aO xH
 (aO xG
 NP))))))
def gG:Fn:=aN 3 gO
def fG:MS:=
 (nq (Y0 (aZ (aD CG (bQ [8] (aq 0) "breach") (mC .non))) (Y0 (Rz (aZ (dw iz 1 [] (au (aq 1) aF)))) (aZ (aD sLt (dw nG 1 [] (au (aq 1) aF)) (mC (.int 1)))))) (bx (mC (.bl false))) bU)
def fD:MS:=
 (nq (aZ (aD sIn (aD bf (aq 1) (mC (.int 0))) (mC (.mJ [(.str "vote"),(.str "chair"),(.str "told")])))) (bx (aU 8 "allows_hand" bO 2 [] (aq 0) (au (aq 1) aF))) bU)
def fP:MS:=
 (aO fG
 (aO fD
 (bx (z7 (aU 0 "stands" nJ 2 [] (bQ [8] (aq 0) "ballots") (au (aD bf (aq 1) (mC (.int 1))) aF)) (aU 8 "allows_chair" gG 2 [] (aq 0) (au (aq 1) aF))))))
def cI:Fn:=aN 2 fP
def qb:MS:=
 (iC (bQ [0] (aq 0) "terms") (aq 1) (aq 2))
def kh:Fn:=aN 3 qb
def jG:MS:=
 (nq (aZ (aD sEq (aq 3) (aq 1))) (iC (bQ [0] (aq 0) "askings") (fL (au (aq 1) (au (aq 2) aF))) (aq 4)) bU)
def sY:MS:=
 (aO jG
 (aO (iC (bQ [0] (aq 0) "votes") (fL (au (aq 1) (au (aq 2) aF))) (aD sOr (aU 0 "votes_of" cJ 3 [] (aq 0) (au (aq 1) (au (aq 2) aF))) (dw l_ 1 [] (au (Ep (au (aq 3) aF)) aF))))
 (gZ (aU 0 "reach" kh 3 [] (aq 0) (au (aq 1) (au (aq 2) aF))))))
def rT:Fn:=aN 5 sY
def jY:MS:=
 (iC (bQ [0] (aq 0) "seated") (aq 2) (aq 1))
def jR:Fn:=aN 3 jY
def jw:MS:=
 (iC (bQ [7] (aq 0) "lines") (aq 2) (aU 7 "row_of" bK 2 [] (aq 0) (au (aq 1) aF)))
def jq:Fn:=aN 3 jw
def sG:MS:=
 (bx (Ci (bQ [7] (aq 0) "marks") (aq 1) (mC (.int 0))))
def rJ:Fn:=aN 2 sG
def Ay:MS:=
 (bx (aD sEq (Yb (aq 0) mz (zZ (aq 2))) (Yb (aq 1) mz (zZ (aq 2)))))
def tZ:Fn:=aN 3 Ay
def mK:MS:=
 (aO (cD (aU 7 "mark" rJ 2 [] (aq 0) (au (aq 1) aF)) (gN 3))
 (bx (Yc (aD sEq (aq 3) (mC (.int 0))) (dw tZ 3 [] (au (aU 7 "line" cW 2 [] (aq 0) (au (aq 1) aF)) (au (aU 7 "line" cW 2 [] (aq 0) (au (aq 2) aF)) (au (aq 3) aF)))))))
def mq:Fn:=aN 4 mK
def lU:MS:=
 (nq (Rz (aZ (aU 7 "is_kept" mq 3 [] (aq 0) (au (vV Vz (au (aq 2) (au (aq 1) aF))) (au (vV Jp (au (aq 2) (au (aq 1) aF))) aF))))) (bx (vV Jp (au (aq 2) (au (aq 1) aF)))) bU)
def gY:MS:=
 lU
def lW:MS:=
 (FP (t6 (vV oW (au (bQ [7] (aq 0) "lines") aF))) (gN 2) gY)
def jc:MS:=
 (aO lW
 (bx (mC .non)))
def i_:Fn:=aN 3 jc
def qG:MS:=
 (nq (aZ (aD CG (aq 2) (mC .non))) (dM [8] (aq 0) (fL (au (mC (.str "lost")) (au (aq 2) aF))) "breach") bU)
def mR:MS:=
 (aO (cD (aU 7 "lost_behind" i_ 2 [] (bQ [8] (aq 0) "strides") (au (aq 1) aF)) (gN 2))
 qG)
def ji:Fn:=aN 3 mR
def gf:MS:=
 (nq (aZ (aD CG (aU 0 "chair_of" bW 2 [] (bQ [8] (aq 0) "ballots") (au (aq 2) aF)) (mC .non))) (aO (dM [8] (aq 0) (fL (au (mC (.str "chairs")) (au (aq 2) aF))) "breach")
 Z6) bU)
def eN:MS:=
 (aO gf
 (aO (gZ (aU 0 "take_seat" jR 3 [] (bQ [8] (aq 0) "ballots") (au (aq 1) (au (aq 2) aF))))
 (aO (gZ (aU 7 "begin_line" jq 3 [] (bQ [8] (aq 0) "strides") (au (aq 1) (au (aq 2) aF))))
 (gZ (aU 8 "find_lost" ji 2 [] (aq 0) (au (aq 2) aF))))))
def eE:Fn:=aN 3 eN
def C_:MS:=
 (nq (aZ (dw tZ 3 [] (au (aq 1) (au (aq 0) (au (aq 2) aF))))) (bx (Yb (aq 1) mz mz)) bU)
def Fi:MS:=
 (aO C_
 (bx (Yb (aq 0) mz (zZ (aq 2)))))
def Em:Fn:=aN 3 Fi
def ju:MS:=
 (bx (Ci (bQ [7] (aq 0) "places") (fL (au (aq 1) (au (aq 2) aF))) (mC (.int 0))))
def gB:Fn:=aN 3 ju
def sE:MS:=
 (aO (iC (bQ [7] (aq 0) "rows") (aq 1) (dw Em 3 [] (au (aU 7 "line" cW 2 [] (aq 0) (au (aq 2) aF)) (au (aU 7 "row_of" bK 2 [] (aq 0) (au (aq 1) aF)) (au (aq 3) aF)))))
 (iC (bQ [7] (aq 0) "places") (fL (au (aq 1) (au (aq 2) aF))) (vV Jp (au (aq 3) (au (aU 7 "place_told" gB 3 [] (aq 0) (au (aq 1) (au (aq 2) aF))) aF)))))
def rH:Fn:=aN 4 sE
def jW:MS:=
 (bx (Ci (bQ [5] (aq 0) "heard") (fL (au (aq 1) (au (aq 2) aF))) (mC (.int 0))))
def jP:Fn:=aN 3 jW
def sO:MS:=
 (iC (bQ [5] (aq 0) "heard") (fL (au (aq 1) (au (aq 2) aF))) (vV Jp (au (aq 3) (au (aU 5 "beat_told" jP 3 [] (aq 0) (au (aq 1) (au (aq 2) aF))) aF))))
def rN:Fn:=aN 4 sO
def fW:MS:=
 (nq (aZ (aD sEq (aD bf (aq 1) (mC (.int 0))) (mC (.str "chair")))) (gZ (aU 8 "follow_to_chair" eE 3 [] (aq 0) (au (aq 2) (au (aq 3) aF)))) (aO (gZ (aU 0 "reach" kh 3 [] (bQ [8] (aq 0) "ballots") (au (aq 2) (au (aq 3) aF))))
 (aO (gZ (aU 7 "tell" rH 4 [] (bQ [8] (aq 0) "strides") (au (aq 2) (au (aq 3) (au (aD bf (aq 1) (mC (.int 3))) aF)))))
 (gZ (aU 5 "hear" rN 4 [] (bQ [8] (aq 0) "replies") (au (aq 2) (au (aq 3) (au (aD bf (aq 1) (mC (.int 4))) aF))))))))
def fV:MS:=
 (nq (aZ (aD sEq (aD bf (aq 1) (mC (.int 0))) (mC (.str "vote")))) (gZ (aU 0 "cast" rT 5 [] (bQ [8] (aq 0) "ballots") (au (aq 2) (au (aq 3) (au (aD bf (aq 1) (mC (.int 3))) (au (dw zY 1 [] (au (aU 7 "row_of" bK 2 [] (bQ [8] (aq 0) "strides") (au (aq 2) aF)) aF)) aF)))))) fW)
def eZ:MS:=
 (aO (cD (aD bf (aq 1) (mC (.int 1))) (gN 2))
 (aO (cD (aD bf (aq 1) (mC (.int 2))) (gN 3))
 fV))
def dg:Fn:=aN 4 eZ
def pZ:MS:=
 (aO (cD (fL (au (aq 2) (au (aq 3) aF))) (gN 4))
 (aO (iC (bQ [7] (aq 0) "lines") (aq 2) (aD Js (aU 7 "line" cW 2 [] (aq 0) (au (aq 2) aF)) (fL (au (aq 4) aF))))
 (iC (bQ [7] (aq 0) "rows") (aq 1) (aD Js (aU 7 "row_of" bK 2 [] (aq 0) (au (aq 1) aF)) (fL (au (aq 4) aF))))))
def pQ:Fn:=aN 5 pZ
def p8:MS:=
 (iC (bQ [5] (aq 0) "beats") (aq 1) (aq 2))
def pR:Fn:=aN 3 p8
def xF:MS:=
 (nq (aZ (aD sEq (aD bf (aq 1) (mC (.int 0))) (mC (.str "seen")))) NP bU)
def xx:MS:=
 (nq (aZ (aD sEq (aD bf (aq 1) (mC (.int 0))) (mC (.str "look")))) NP xF)
def xu:MS:=
 (nq (aZ (aD sEq (aD bf (aq 1) (mC (.int 0))) (mC (.str "settle")))) (aO NP
 (gZ (aU 8 "find_lost" ji 2 [] (aq 0) (au (aq 2) aF)))) xx)
def mD:MS:=
 (nq (aZ (aD sEq (aD bf (aq 1) (mC (.int 0))) (mC (.str "beat")))) (gZ (aU 5 "begin" pR 3 [] (bQ [8] (aq 0) "replies") (au (aq 2) (au (aD bf (aq 1) (mC (.int 2))) aF)))) xu)
def iJ:MS:=
 (nq (aZ (aD sEq (aD bf (aq 1) (mC (.int 0))) (mC (.str "write")))) (gZ (aU 7 "write" pQ 4 [] (bQ [8] (aq 0) "strides") (au (aU 0 "chair_of" bW 2 [] (bQ [8] (aq 0) "ballots") (au (aq 2) aF)) (au (aq 2) (au (aD bf (aq 1) (mC (.int 3))) aF))))) mD)
def gM:MS:=
 (aO (cD (aD bf (aq 1) (mC (.int 1))) (gN 2))
 iJ)
def gF:Fn:=aN 3 gM
def h_:MS:=
 (nq (Rz (aZ (aU 8 "allows" cI 2 [] (aq 0) (au (aq 1) aF)))) (sRz 2 (au (bQ [8] (aq 0) "count") aF)) bU)
def g_:MS:=
 (nq (aZ (aD sIn (aD bf (aq 1) (mC (.int 0))) (mC (.mJ [(.str "vote"),(.str "chair"),(.str "told")])))) (gZ (aU 8 "follow_hand" dg 2 [] (aq 0) (au (aq 1) aF))) (gZ (aU 8 "follow_chair" gF 2 [] (aq 0) (au (aq 1) aF))))
def iT:MS:=
 (aO h_
 (aO (dM [8] (aq 0) (aD oZ (bQ [8] (aq 0) "count") (mC (.int 1))) "count")
 g_))
def aV:Fn:=aN 2 iT
def Df:MS:=
 (aO (cD (fL (au (mC (.str "put")) (au (aD bf (mC (.str "abcdefghijklmnopqrstuvwxyz")) (aD j5 (aq 0) (mC (.int 26)))) (au (aD j5 (aD tu (aq 0) (mC (.int 26))) (aD NB (mC (.int 10)) (mC (.int 40)))) aF)))) (gN 1))
 (bx (fL (au (mC (.str "ask")) (au (aD j5 (aq 0) (aD NB (mC (.int 10)) (mC (.int 40)))) (au (aD j5 (aD tu (aq 0) (mC (.int 3))) (aD NB (mC (.int 10)) (mC (.int 40)))) (au (aq 1) aF)))))))
def CQ:Fn:=aN 2 Df
def uG:MS:=
 (nq (aZ (aD CG (aq 4) (mC .non))) (aO (cD (aD j5 (aq 5) (aD oZ (vV jj (au (aD bf (aq 4) (mC (.int 1))) aF)) (mC (.int 1)))) (gN 8))
 (aO (gZ (aU 8 "take" aV 2 [] (aq 0) (au (fL (au (mC (.str "told")) (au (aq 6) (au (aD bf (aq 4) (mC (.int 0))) (au (aq 8) (au (mC (.int 0)) aF)))))) aF)))
 (cD (mSl (aD bf (aq 4) (mC (.int 1))) mz (zZ (aq 8))) (gN 7)))) bU)
def oh:MS:=
 (gZ (aU 8 "take" aV 2 [] (aq 0) (au (fL (au (mC (.str "vote")) (au (aD bf (aq 1) (aq 9)) (au (aq 3) (au (aq 6) aF))))) aF)))
def oG:MS:=
 (FP (t6 (Ep (au (aq 2) (au (mC (.int 3)) (au (mC (.int 4)) aF))))) (gN 9) oh)
def ou:MS:=
 (nq (aZ (aD Q4 (aq 10) (mC (.int 0)))) (cD (dw CQ 1 [] (au (aD tu (aq 5) (aD oZ (mC (.int 42)) (aq 10))) aF)) (gN 11)) bU)
def jZ:MS:=
 (aO (cD (fL (au (mC (.str "start")) aF)) (gN 11))
 (aO ou
 (aO (gZ (aU 8 "take" aV 2 [] (aq 0) (au (fL (au (mC (.str "write")) (au (aq 3) (au (aD oZ (vV jj (au (aq 7) aF)) (mC (.int 1))) (au (aq 11) aF))))) aF)))
 (gZ (mBM "list" wH (aq 7) (au (fL (au (aq 3) (au (aq 11) aF))) aF))))))
def oF:MS:=
 (FP (JM (au (aD oZ (mC (.int 1)) (aD j5 (aD tu (aq 5) (mC (.int 7))) (mC (.int 6)))) aF)) (gN 10) jZ)
def uw:MS:=
 (gZ (aU 8 "take" aV 2 [] (aq 0) (au (fL (au (mC (.str "beat")) (au (aq 3) (au (aD oZ (aq 12) (mC (.int 1))) aF)))) aF)))
def oE:MS:=
 (FP (JM (au (aD j5 (aD tu (aq 5) (mC (.int 42))) (mC (.int 4))) aF)) (gN 12) uw)
def uf:MS:=
 (aO (cD (aD bf (aq 1) (aq 2)) (gN 6))
 (aO (cD (Ep aF) (gN 7))
 (aO uG
 (aO oG
 (aO (gZ (aU 8 "take" aV 2 [] (aq 0) (au (fL (au (mC (.str "chair")) (au (aq 6) (au (aq 3) (au (aD oZ (aD oZ (aD sZ (mC (.int 1)) (aq 6)) (aD sZ (mC (.int 1)) (aD bf (aq 1) (mC (.int 3))))) (aD sZ (mC (.int 1)) (aD bf (aq 1) (mC (.int 4))))) aF))))) aF)))
 (aO oF
 (aO oE
 (bx (fL (au (aq 3) (au (aq 7) (au (aD j5 (aD tu (aq 5) (mC (.int 42))) (mC (.int 4))) aF))))))))))))
def tY:Fn:=aN 13 uf
def pH:MS:=
 (nq (Y0 (aZ (aD Jo (aq 6) (aq 0))) (Y0 (aZ (aD sEq (aD bf (aq 2) (aq 6)) (aq 5))) (aZ (aD sLt (aq 6) (aD bf (aq 1) (aq 5)))))) (bx (mC (.bl false))) bU)
def Gw:MS:=
 (aO (cD (aq 3) (gT 5 (dG (gN 4) (dG (gN 5) (dG (gN 6) (dG (gN 7) (dG (gN 8) Al)))))))
 (aO pH
 (bx (z7 (JQ Jq Jq (mC (.int 0)) (aq 7) (vV jj (au (aD bf (aD bf (aq 0) (aq 6)) (mC (.int 0))) aF))) (JQ Jq Jq (mC (.int 0)) (aq 8) (aD bf (aD bf (aq 0) (aq 6)) (mC (.int 1))))))))
def vL:Fn:=aN 9 Gw
def yH:MS:=
 (gZ (aU 8 "take" aV 2 [] (aq 0) (au (aq 5) aF)))
def yQ:MS:=
 (cD (mC (.bl true)) (gN 7))
def uc:MS:=
 (acv [(1,false),(2,true)] yH yQ)
def t_:MS:=
 (nq (aZ (aD sNe (mSl (aD bf (aq 4) (aq 9)) mz (zZ (aq 11))) (mSl (aD bf (aD bf (aq 1) (aq 10)) (mC (.int 0))) mz (zZ (aq 11))))) (iC (aq 4) (aq 9) (mSl (aD bf (aD bf (aq 1) (aq 10)) (mC (.int 0))) mz (zZ (aq 11)))) bU)
def Ag:MS:=
 (nq (aZ (aq 6)) (aO (cD (aq 5) (gT 5 (dG (gN 8) (dG (gN 9) (dG (gN 10) (dG (gN 11) (dG (gN 12) Al)))))))
 (aO (iC (aq 2) (aq 9) (aq 10))
 t_)) bU)
def Bu:MS:=
 (aO (cD (dw vL 4 [] (au (aq 1) (au (aq 2) (au (aq 3) (au (aq 5) aF))))) (gN 6))
 (aO (cD (mC (.bl false)) (gN 7))
 (aO uc
 (aO Ag
 (bx (aD sNe (aq 7) (aq 6)))))))
def qQ:Fn:=aN 13 Bu
def p_:MS:=
 (bx (aU 0 "term_of" cB 2 [] (bQ [8] (aq 0) "ballots") (au (aq 1) aF)))
def pU:Fn:=aN 2 p_
def sU:MS:=
 (bx (vV Ca (au (aU 7 "row_of" bK 2 [] (bQ [8] (aq 0) "strides") (au (aq 1) aF)) aF)))
def rO:Fn:=aN 2 sU
def xV:MS:=
 (bx (vV Ca (au (aU 7 "line" cW 2 [] (bQ [8] (aq 0) "strides") (au (aq 1) aF)) aF)))
def w6:Fn:=aN 2 xV
def nW:MS:=
 (bx (JL (bQ [0] (aq 0) "seated")))
def nM:Fn:=aN 1 nW
def sV:MS:=
 (bx (aU 0 "chairs" nM 1 [] (bQ [8] (aq 0) "ballots") aF))
def rP:Fn:=aN 1 sV
def Cm:MS:=
 (nq (Y0 (aZ (aD sNe (aU 8 "term_of" pU 2 [] (aq 0) (au (aq 5) aF)) (aD bf (aq 3) (aq 5)))) (aZ (aD sNe (aU 8 "row_of" rO 2 [] (aq 0) (au (aq 5) aF)) (aD bf (aq 4) (aq 5))))) (bx (mC (.bl false))) bU)
def uv:MS:=
 Cm
def uJ:MS:=
 (FP (t6 (aq 1)) (gN 5) uv)
def Ck:MS:=
 (nq (aZ (aD sNe (aU 8 "line" w6 2 [] (aq 0) (au (aq 6) aF)) (aD bf (aD T3 (aq 2) (aq 6)) (mC (.int 0))))) (bx (mC (.bl false))) bU)
def uq:MS:=
 Ck
def uI:MS:=
 (aad (aq 2) (gN 6) uq)
def Ax:MS:=
 (aO uJ
 (aO uI
 (bx (aD sEq (vV jj (au (aU 8 "chairs" rP 1 [] (aq 0) aF) aF)) (vV jj (au (aq 2) aF))))))
def zW:Fn:=aN 7 Ax
def sW:MS:=
 (bx (bQ [8] (aq 0) "breach"))
def rQ:Fn:=aN 1 sW
def Ib:MS:=
 (iC (aq 6) (aD bf (aq 1) (aq 10)) (aq 7))
def WR:MS:=
 (FP (t6 (Ep (au (aq 9) (au (mC (.int 3)) (au (mC (.int 4)) aF))))) (gN 10) Ib)
def Ia:MS:=
 (aO (cD (aD oZ (aD oZ (aq 7) (mC (.int 1))) (aD j5 (aD tu (dw cQ 2 [] (au (aq 0) (au (mC (.int 1)) aF))) (aD oZ (mC (.int 2)) (aq 9))) (mC (.int 3)))) (gN 7))
 (aO (cD (dw tY 6 [] (au (aq 2) (au (aq 1) (au (aq 9) (au (aq 7) (au (aq 8) (au (dw cQ 2 [] (au (aq 0) (au (aD oZ (mC (.int 2)) (aq 9)) aF))) aF))))))) (gN 8))
 (aO (iC (aq 3) (aq 7) (fL (au (aD bf (aq 8) (mC (.int 1))) (au (aD bf (aq 8) (mC (.int 2))) aF))))
 (aO (iC (aq 4) (aq 7) (aD bf (aq 1) (aq 9)))
 (aO (iC (aq 5) (aD bf (aq 1) (aq 9)) (vV Ca (au (aD bf (aq 8) (mC (.int 1))) aF)))
 WR)))))
def WQ:MS:=
 (FP (JM (au (mC (.int 3)) aF)) (gN 9) Ia)
def Wu:MS:=
 (nq (aZ (aD sEq (aD j5 (aD tu (aq 11) (mC (.int 15))) (mC (.int 8))) (mC (.int 7)))) (cD (aD oZ (aq 7) (mC (.int 1))) (gN 7)) bU)
def Wt:MS:=
 (nq (Rz (aZ (dw qQ 6 [] (au (aq 2) (au (aq 3) (au (aq 6) (au (aq 4) (au (aq 5) (au (fL (au (mC (.str "told")) (au (aq 12) (au (aq 7) (au (aq 14) (au (aq 15) aF)))))) aF))))))))) (bx (mC (.bl false))) bU)
def Wr:MS:=
 (nq (Rz (aZ (dw zW 5 [] (au (aq 2) (au (aq 1) (au (aq 3) (au (aq 6) (au (aq 5) aF)))))))) (bx (mC (.bl false))) bU)
def DG:MS:=
 (aO (cD (aD bf (aq 1) (aD j5 (aq 11) (mC (.int 5)))) (gN 12))
 (aO (cD (vV oW (au (aq 3) aF)) (gN 13))
 (aO (cD (aD bf (aq 13) (aD j5 (aD tu (aq 11) (mC (.int 5))) (mC (.int 3)))) (gN 7))
 (aO (cD (aD TX (aD j5 (aD tu (aq 11) (mC (.int 30))) (aD oZ (vV jj (au (aD bf (aD bf (aq 3) (aq 7)) (mC (.int 0))) aF)) (mC (.int 4)))) (mC (.int 1))) (gN 14))
 (aO (cD (aD TX (aD j5 (aD tu (aq 11) (mC (.int 210))) (aD oZ (aD bf (aD bf (aq 3) (aq 7)) (mC (.int 1))) (mC (.int 3)))) (mC (.int 1))) (gN 15))
 (aO Wu
 (aO Wt
 Wr)))))))
def WN:MS:=
 (FP (t6 (mSl (aq 0) (zZ (mC (.int 5))) (zZ (mC (.int 45))))) (gN 11) DG)
def abP:MS:=
 (aO (cD (ye [0] (JM (au (mC (.int 5)) aF)) vM (aD oZ (aD j5 (dw cQ 2 [] (au (aq 1) (au (mC (.int 0)) aF))) (mC (.int 16))) (aD TY (mC (.int 11)) (aq 0)))) (gN 1))
 (aO (cD (z6 8 qL 3 [.non] (au (vV QV (au (ye [] (t6 (aq 1)) vM (aD sZ (mC (.int 1)) (aq 0))) aF)) aF)) (gN 2))
 (aO (cD qF (gN 3))
 (aO (cD qF (gN 4))
 (aO (cD (vV zy (au (ye [] (t6 (aq 1)) vM (fL (au (aq 0) (au (Ep aF) aF)))) aF)) (gN 5))
 (aO (cD (vV zy (au (ye [] (t6 (aq 1)) vM (fL (au (aq 0) (au (mC (.int 0)) aF)))) aF)) (gN 6))
 (aO (cD (aD j5 (dw cQ 2 [] (au (aq 0) (au (mC (.int 1)) aF))) (aD NB (mC (.int 10)) (mC (.int 40)))) (gN 7))
 (aO (cD (mC .non) (gN 8))
 (aO WQ
 (aO WN
 (bx (aD sIs (aU 8 "broken" rQ 1 [] (aq 2) aF) (mC .non)))))))))))))
def aeK:Fn:=aN 16 abP
def Gr(M M':Mem):Prop:=∀(i:Nat) (o:MO),M[i]? = some o->M'[i]? = some o
theorem Gr.refl:Gr M M:=λ_ _ h=>h
theorem Gr.trans{M M1 M2:Mem}(a:Gr M M1)(b:Gr M1 M2):Gr M M2:=λi o h=>b i o (a i o h)
theorem Gr.app:Gr M (M++xs):=λi o h=>by
 rw[zaf (List.getElem?_eq_some_iff.mp h).1];exact h
theorem GZ{M:Mem}{i:Nat}{o:MO}(h:M[i]? = some o):i<M.length:=(List.getElem?_eq_some_iff.mp h).1
theorem bB:(M++[o])[M.length]? = some o:=by simp
theorem Sd(q:D->Bool)(f:D->D)(hs:ig src M)(ht:∀d∈ds,tt (some d::ce) M= .ok (q d) M)(hf:∀d∈ds,te (some d::ce) M= .ok (f d) M):
  k_ src tt te ce ds [] M= .ok (.ref M.length) (M++[.lst ((ds.filter q).map f)]):=by
 have key:∀(ds ys:List D),(∀d∈ds,tt (some d::ce) M= .ok (q d) M)->(∀d∈ds,te (some d::ce) M= .ok (f d) M)->k_ src tt te ce ds ys M= .ok (.ref M.length) (M++[.lst (ys++(ds.filter q).map f)]):=by
  intro ds
  induction ds with
  | nil=>intro ys _ _;unfold k_;rw[if_pos hs];simp
  | cons d r ih=>
   intro ys h1 h2
   unfold k_
   rw[if_pos hs,h1 d xB]
   show(Out.ok _ _).bind _=_
   rw[Out.bC]
   cases z:q d with
   | false=>
    simp only[Bool.false_eq_true,if_false]
    rw[ih _ (λx hx=>h1 x (yT _ hx)) λx hx=>h2 x (yT _ hx),List.filter_cons,z]
    simp
   | true=>
    simp only[if_true]
    rw[h2 d xB]
    show(Out.ok _ _).bind _=_
    rw[Out.bC,ih _ (λx hx=>h1 x (yT _ hx)) λx hx=>h2 x (yT _ hx),List.filter_cons,z]
    simp
 have:=key ds [] ht hf
 simpa using this
def hv(hs:List Nat):List D:=hs.map λ(h:Nat)=>D.int (h:Int)
theorem T7(n:Nat)(p:Nat->Bool)(q:D->Bool)(h:∀i,i<n->q (.int (0+(i:Int)))=p i):((FT 0 n).filter q).map (λd=>d)=hv ((List.range n).filter p):=by
 unfold FT hv
 rw[List.map_id',List.filter_map]
 have:(List.range n).filter (q∘λ(k:Nat)=>D.int (0+(k:Int)))=(List.range n).filter p:=by
  refine List.filter_congr λi hi=> ?_
  exact h i (List.mem_range.mp hi)
 rw[this]
 refine List.map_congr_left λi _=> ?_
 show D.int (0+(i:Int))=D.int (i:Int)
 rw[Int.zero_add]
theorem Nt(h:0<=j/\j<=1000000/\i.natAbs<2 ^ 64):sZ (.int i) (.int j) M= .ok (.int (i*2 ^ j.toNat)) M:=by
 unfold sZ;rw[J5,if_pos (by unfold YJ;exact zah h)]
theorem ahL(n i:Nat):(!decide (Builtin.bitAnd (n:Int) (1*2 ^ (0+(i:Int)).toNat)=0))=n.testBit i:=by
 have e1:Builtin.bitAnd (n:Int) (1*2 ^ (0+(i:Int)).toNat)=((n &&& 2 ^ i:Nat):Int):=by
  rw[Int.zero_add,zam,HM.V7,HM.Ks]
 rw[e1]
 have q:=HM.Kv n i
 cases z:n.testBit i with
 | true=>
  have q':=q.mpr z
  simp only[Bool.not_eq_true',decide_eq_false_iff_not]
  omega
 | false=>
  have q':¬(n &&& 2 ^ i≠0):=λr=>by rw[q.mp r]at z;cases z
  simp only[Bool.not_eq_false',decide_eq_true_eq]
  omega
def qB(f:Int->Bool)(d:D):Bool:=match d with
 | .int j=>f j
 | _=>false
theorem Wa{lo:Int}{n:Nat}{d:D}(h:d∈FT lo n):∃i:Nat,i<n/\d= .int (lo+i):=by
 obtain⟨i,hi⟩:=List.getElem?_of_mem h
 exact⟨i,(Ii hi).1,(Ii hi).2⟩
theorem G8(n:Nat)(hn:n<2 ^ 60):wY [.int n] M= .ok (.ref M.length) (M++[.lst (hv (HM.eG n))]):=by
 have hz:=HM.intBits_le n hn
 have e1:Jt [.int (Builtin.Int.intBits n:Nat)] M= .ok ⟨none,FT 0 (Builtin.Int.intBits n)⟩ M:=by
  have:=zA (M:=M) (j:=(Builtin.Int.intBits n:Nat)) () ()
  simpa using this
 have e2:=Sd (src:=none) (tt:=aZ (aD sNe (aD Q6 (aq 1) (aD sZ (mC (.int 1)) (aq 0))) (mC (.int 0)))) (te:=aq 0) (ce:=[some (.int n)]) (M:=M) (qB λj=> !decide (Builtin.bitAnd (n:Int) (1*2 ^ j.toNat)=0)) (λd=>d) (ds:=FT 0 (Builtin.Int.intBits n)) trivial
  (λd hd=>by
   obtain⟨i,hi,rfl⟩:=Wa hd
   have:sZ (.int 1) (.int (0+(i:Int))) M= .ok (.int (1*2 ^ (0+(i:Int)).toNat)) M:=Nt ⟨(),(),by decide⟩
   simp[this,qB,aaf,-Int.zero_add,-Int.one_mul])
  (λd hd=>ajI)
 have e3:=T7 (Builtin.Int.intBits n) (λh=>n.testBit h) (qB λj=> !decide (Builtin.bitAnd (n:Int) (1*2 ^ j.toNat)=0)) (λi _=>ahL n i)
 rw[HM.O1 n hn]at e3
 rw[e3]at e2
 simp only[wY,Dg]
 simp[Ar,e1,e2]
theorem Wc(n:Nat)(hn:n<2 ^ 60):∃M',JG [.int n] M= .ok (.int (HM.cnt n:Nat)) M'/\Gr M M':=by
 refine⟨M++[.lst (hv (HM.eG n))],?_,Gr.app⟩
 simp only[JG,U9]
 simp[G8 n hn,oX bB,hv,HM.cnt]
def Aq(S p:Nat)(h:Bool):Bool:=if h then decide (HM.cnt p<=2*HM.cnt (S &&& p))else decide (HM.cnt p<2*HM.cnt (S &&& p))
theorem ahM(hp:p<2 ^ 60):S &&& p<2 ^ 60:=Nat.lt_of_le_of_lt Nat.and_le_right hp
theorem ajG:TY (.int 2) (.int j) M= .ok (.int (2*j)) M:=QX (.inl ())
theorem Ko(S p:Nat)(h:Bool)(hp:p<2 ^ 60):∃M',Bp [.int S,.int p,.bl h] M= .ok (.bl (Aq S p h)) M'/\Gr M M':=by
 obtain⟨M1,e1,g1⟩:=Wc (M:=M) (S &&& p) (ahM hp)
 obtain⟨M2,e2,g2⟩:=Wc (M:=M1) p hp
 refine⟨M2,?_,g1.trans g2⟩
 have ea:Builtin.bitAnd (S:Int) (p:Int)=((S &&& p:Nat):Int):=HM.Ks S p
 simp only[Bp,nP,G7]
 cases h with
 | true=>
  simp[ea,e1,ajG,e2,Aq]
  omega
 | false=>
  simp[ea,e1,ajG,e2,Aq]
  omega
theorem ab4(S p q:Nat)(h:Bool)(hp:p<2 ^ 60)(hq:q<2 ^ 60):∃M',JF [.tup [.int p,.int q],.int S,.bl h] M= .ok (.bl (Aq S p h&&(decide (q=0)||Aq S q h))) M'/\Gr M M':=by
 obtain⟨M1,e1,g1⟩:=Ko (M:=M) S p h hp
 cases z:Aq S p h with
 | false=>
  rw[z]at e1
  exact⟨M1,by simp[JF,Aw,Ex,e1],g1⟩
 | true=>
  rw[z]at e1
  by_cases hq0:q=0
  ·subst hq0
   exact⟨M1,by simp[JF,Aw,Ex,e1],g1⟩
  ·obtain⟨M2,e2,g2⟩:=Ko (M:=M1) S q h hq
   exact⟨M2,by simp[JF,Aw,Ex,e1,hq0,e2],g1.trans g2⟩
def Ch(p:Nat->Prop)(M M':Mem):Prop:=M.length<=M'.length/\∀(i:Nat) (o:MO),¬p i->M[i]? = some o->M'[i]? = some o
theorem Ch.refl{p:Nat->Prop}:Ch p M M:=⟨zac _,λ_ _ _ h=>h⟩
theorem Ch.trans{p:Nat->Prop}{M M1 M2:Mem}(a:Ch p M M1)(b:Ch p M1 M2):Ch p M M2:=⟨yY a.1 b.1,λi o n h=>b.2 i o n (a.2 i o n h)⟩
theorem Ch.mono{p q:Nat->Prop}{M M1:Mem}(a:Ch p M M1)(h:∀i,i<M.length->p i->q i):Ch q M M1:=⟨a.1,λi o n e=>a.2 i o (λz=>n (h i (GZ e) z)) e⟩
theorem Gr.le(h:Gr M M'):M.length<=M'.length:=by
 by_cases z:M.length=0
 ·omega
 ·have:=GZ (h (M.length - 1) _ (zad ()))
  omega
theorem Gr.ch{p:Nat->Prop}(h:Gr M M'):Ch p M M':=⟨h.le,λi o _ e=>h i o e⟩
theorem Ch.set{p:Nat->Prop}(h:p n):Ch p M (M.set n o):=⟨by simp,λi x z e=>by
 by_cases q:i=n
 ·subst q;exact absurd h z
 ·rw[zaj (Ne.symm q)];exact e⟩
theorem dU{M:Mem}{n:Nat}{o o':MO}(h:M[n]? = some o'):(M.set n o)[n]? = some o:=by
 rw[zak (GZ h)]
theorem eV{M:Mem}{n m:Nat}{o x:MO}(h:M[n]? = some x)(hn:n≠m):(M.set m o)[n]? = some x:=by
 rw[zaj (Ne.symm hn)];exact h
section
variable{κ α:Type}[DecidableEq κ]
noncomputable def gv(l:List (κ×α))(k:κ):Option α:=(l.find? λp=>decide (p.1=k)).map (·.2)
noncomputable def gp(l:List (κ×α))(k:κ)(x:α):List (κ×α):=if(l.any λp=>decide (p.1=k))=true then l.map (λp=>if p.1=k then(p.1,x)else p)else l++[(k,x)]
@[simp] theorem ag6:gv ([]:List (κ×α)) k=none:=rfl
theorem jH{p:κ×α}{l:List (κ×α)}{k:κ}:gv (p::l) k=if p.1=k then some p.2 else gv l k:=by
 by_cases h:p.1=k<;>simp[gv,h]
theorem P_{l:List (κ×α)}{k:κ}:(l.any λp=>decide (p.1=k))=(gv l k).isSome:=by
 induction l with
 | nil=>rfl
 | cons p l ih=>rw[List.any_cons,ih,jH];by_cases h:p.1=k<;>simp[h]
theorem ag7{l:List (κ×α)}{k k':κ}{i:α}:gv (l.map (λp=>if p.1=k then(p.1,i)else p)) k'=if k'=k then(gv l k).map λ_=>i else gv l k':=by
 induction l with
 | nil=>simp
 | cons p l ih=>
  rw[List.map_cons,jH,jH,jH,ih]
  by_cases h:p.1=k
  ·by_cases h':k'=k
   ·subst h';simp[h]
   ·simp[h,h',Ne.symm h',λz:k=k'=>h' z.symm]
  ·by_cases h':k'=k
   ·subst h';simp[h]
   ·simp[h,h']
theorem ag8{l:List (κ×α)}{k k':κ}{i:α}:gv (l++[(k,i)]) k'=(gv l k').or (if k=k' then some i else none):=by
 induction l with
 | nil=>simp[jH]
 | cons p l ih=>rw[List.cons_append,jH,jH,ih];by_cases h:p.1=k'<;>simp[h]
theorem rZ{l:List (κ×α)}{k k':κ}{i:α}:gv (gp l k i) k'=if k'=k then some i else gv l k':=by
 unfold gp
 rw[P_]
 split
 ·rename_i h
  rw[ag7]
  obtain⟨j,hj⟩:=Option.isSome_iff_exists.mp h
  simp[hj]
 ·rename_i h
  rw[ag8]
  by_cases z:k'=k
  ·subst z
   rw[Option.not_isSome_iff_eq_none.mp h];simp
  ·rw[if_neg (λq:k=k'=>z q.symm),if_neg z];simp
theorem abn{l:List (κ×α)}{k:κ}{i:α}:(gp l k i).length<=l.length+1:=by
 unfold gp
 split<;>simp
variable{κ':Type}[DecidableEq κ']
def ge(f:κ->κ')(g:α->D)(l:List (κ×α)):List (κ'×D):=l.map λp=>(f p.1,g p.2)
theorem Aj{f:κ->κ'}{g:α->D}(hf:∀a b,f a=f b->a=b){l:List (κ×α)}{k:κ}:pM (ge f g l) (f k)=(gv l k).map g:=by
 induction l with
 | nil=>rfl
 | cons p l ih=>
  rw[jH]
  have e:ge f g (p::l)=(f p.1,g p.2)::ge f g l:=rfl
  rw[e]
  by_cases h:p.1=k
  ·subst h;simp[pM]
  ·have:f p.1≠f k:=λz=>h (hf _ _ z)
   have e2:pM ((f p.1,g p.2)::ge f g l) (f k)=pM (ge f g l) (f k):=by simp[pM,this]
   rw[e2,ih];simp[h]
theorem O4{f:κ->κ'}{g:α->D}(hf:∀a b,f a=f b->a=b){l:List (κ×α)}{k:κ}{i:α}:N5 (ge f g l) (f k) (g i)=ge f g (gp l k i):=by
 have e:((ge f g l).any λkv=>decide (kv.1=f k))=(l.any λp=>decide (p.1=k)):=by
  unfold ge
  rw[List.any_map]
  congr 1
  funext p
  have:(f p.1=f k)=(p.1=k):=propext ⟨hf _ _,λz=>by rw[z]⟩
  simp[this]
 unfold N5 gp
 rw[e]
 split
 ·unfold ge
  rw[List.map_map,List.map_map]
  congr 1
  funext p
  by_cases h:p.1=k
  ·simp[h]
  ·have:f p.1≠f k:=λz=>h (hf _ _ z)
   simp[h,this]
 ·unfold ge
  simp
@[simp] theorem Ak:(ge f g l).length=l.length:=by simp[ge]
end
def kN(h:Nat):Key:= .inl (h:Int)
def kI(t:Int):Key:= .inl t
def kP(p:Nat×Int):List Key:=[.inl (p.1:Int),.inl p.2]
def kQ(p:Int×Nat):List Key:=[.inl p.1,.inl (p.2:Int)]
theorem Ow(a b:Nat)(h:kN a=kN b):a=b:=by
 have:(a:Int)=(b:Int):=by simpa[kN]using h
 omega
theorem Gh(a b:Int)(h:kI a=kI b):a=b:=by simpa[kI]using h
theorem aba(a b:Nat×Int)(h:kP a=kP b):a=b:=by
 obtain⟨a1,a2⟩:=a
 obtain⟨b1,b2⟩:=b
 simp[kP]at h
 have:a1=b1:=()
 simp[h,this]
def nD(n:Nat):D:= .int (n:Int)
def eD(e:Int×Nat):D:= .tup [.int e.1,.int (e.2:Int)]
def KD(M:Mem)(n:Nat)(kvs:List (List Key×D)):Prop:=M[n]? = some (.dt kvs)\/M[n]? = some (.dk [])/\kvs=[]
theorem KD.ch{p:Nat->Prop}(h:KD M n kvs)(c:Ch p M M')(hn:¬p n):KD M' n kvs:=h.imp (c.2 _ _ hn) λz=>⟨c.2 _ _ hn z.1,z.2⟩
theorem KD.dic(h:KD M n kvs):rY (.ref n) M=true:=by
 rcases h with h | h
 ·exact adH h
 ·exact xr h.1
theorem KD.some(h:KD M n kvs):∃o,M[n]? = some o:=by
 rcases h with h | h
 ·exact⟨_,h⟩
 ·exact⟨_,h.1⟩
section
variable{M:Mem}{n:Nat}{α:Type}{g:α->D}
theorem Jf:toKeys [.int (p.1:Int),.int p.2]=some (kP p):=rfl
theorem aiQ{κ:Type}[DecidableEq κ]{f:κ->List Key}(hf:∀a b,f a=f b->a=b){l:List (κ×α)}{ds:List D}{k:κ}(h:KD M n (ge f g l))(hk:toKeys ds=some (f k)):
  ∃M',yz M n (.tup ds)=some ((gv l k).map g,M')/\KD M' n (ge f g l)/\Ch (· = n) M M':=by
 rcases h with h | ⟨h,e⟩
 ·exact⟨M,by rw[ahr h hk,Aj hf],.inl h,Ch.refl⟩
 ·have e':l=[]:=by cases l with
   | nil=>rfl
   | cons _ _=>simp[ge]at e
  subst e'
  exact⟨_,by rw[ahs h hk];rfl,.inl (dU h),Ch.set rfl⟩
theorem O2(h:yz M n k=Option.some (o,M')):Dd (.ref n) k x M= .ok (o.getD x) M':=by
 simp only[Dd,h]
 cases o<;>rfl
theorem WD(h:KD M n (ge kP g l))(p:Nat×Int)(x:D):
  ∃M',Dd (.ref n) (.tup [.int (p.1:Int),.int p.2]) x M= .ok (((gv l p).map g).getD x) M'/\KD M' n (ge kP g l)/\Ch (· = n) M M':=by
 obtain⟨M',e,t,c⟩:=aiQ aba h (Jf (p:=p))
 exact⟨M',O2 e,t,c⟩
theorem VV(h:KD M n (ge kP g l))(p:Nat×Int)(x:α)(hl:l.length<=1000):yC M (.ref n) (.tup [.int (p.1:Int),.int p.2]) (g x)=some (M.set n (.dt (ge kP g (gp l p x)))):=by
 have hz:(ge kP g l).length<sizeLine:=by
  rw[Ak]
  have:1000<sizeLine:=by decide
  omega
 rcases h with h | ⟨h,e⟩
 ·simp only[yC,h,Jf,if_pos hz,<-O4 aba]
 ·have e':l=[]:=by cases l with
   | nil=>rfl
   | cons _ _=>simp[ge]at e
  subst e'
  simp only[yC,h,Jf,toKey]
  rfl
theorem aeR(h:M[n]? = some (.dk (ge kN g l)))(k:Nat)(x:D):Dd (.ref n) (.int (k:Int)) x M= .ok (((gv l k).map g).getD x) M:=
 O2 (by rw[Gp h];show some (pM (ge kN g l) (kN k),M)=_;rw[Aj Ow])
theorem WK(h:M[n]? = some (.dk (ge kI g l)))(k:Int)(x:D):Dd (.ref n) (.int k) x M= .ok (((gv l k).map g).getD x) M:=
 O2 (by rw[Gp h];show some (pM (ge kI g l) (kI k),M)=_;rw[Aj Gh])
theorem Ra(h:M[n]? = some (.dk (ge kN g l)))(k:Nat)(x:α)(hl:l.length<=1000):yC M (.ref n) (.int (k:Int)) (g x)=some (M.set n (.dk (ge kN g (gp l k x)))):=by
 have hz:(ge kN g l).length<sizeLine:=by
  rw[Ak]
  have:1000<sizeLine:=by decide
  omega
 simp only[yC,h,toKey,if_pos hz]
 rw[<-O4 Ow]
 rfl
theorem L_(h:M[n]? = some (.dk (ge kI g l)))(k:Int)(x:α)(hl:l.length<=1000):yC M (.ref n) (.int k) (g x)=some (M.set n (.dk (ge kI g (gp l k x)))):=by
 have hz:(ge kI g l).length<sizeLine:=by
  rw[Ak]
  have:1000<sizeLine:=by decide
  omega
 simp only[yC,h,toKey,if_pos hz]
 rw[<-O4 Gh]
 rfl
theorem anb(h:M[n]? = some (.dk (ge kI g l)))(k:Int):sIn (.int k) (.ref n) M= .ok (.bl (gv l k).isSome) M:=by
 refine jg ?_
 have:yz M n (.int k)=some ((gv l k).map g,M):=by rw[Gp h];show some (pM (ge kI g l) (kI k),M)=_;rw[Aj Gh]
 simp only[Q3,this]
 simp
end
inductive Wh where
 | st
 | ask (w n:Int) (o:D)
 | rol (a b:Nat)
noncomputable def Wh.d:Wh->D
 | .st=> .tup [.str "start"]
 | .ask w n o=> .tup [.str "ask",.int w,.int n,o]
 | .rol a b=> .tup [.str "roll",.int (a:Int),.int (b:Int)]
abbrev En:=Int×Wh
def mW(e:En):D:= .tup [.int e.1,e.2.d]
def esD(es:List En):D:= .tup (es.map mW)
set_option genInjectivity false in
structure BA where
 b:Nat
 rl:Nat
 bl:Nat
 tm:Nat
 vt:Nat
 ak:Nat
 se:Nat
 sd:Nat
 ro:Nat
 ln:Nat
 mr:Nat
 pl:Nat
 rp:Nat
 bt:Nat
 hd:Nat
 lk:Nat
 sn:Nat
set_option genInjectivity false in
structure BO where
 S:Nat
 r1:Bool
 r2:Bool
 r3:Bool
 r4:Bool
 cnt:Nat
 br:D
 tm:List (Nat×Int)
 vt:List ((Nat×Int)×Nat)
 ak:List ((Nat×Int)×(Int×Nat))
 se:List (Int×Nat)
 ro:List (Nat×List En)
 ln:List (Int×List En)
 mr:List (Int×Nat)
 pl:List ((Nat×Int)×Nat)
 bt:List (Int×Nat)
 hd:List ((Nat×Int)×Nat)
 lk:List ((Int×Nat)×D)
 sn:List ((Int×Nat)×Bool)
noncomputable def Xy(a b c d:Bool):MO:= .ins 6 [("once",.bl a),("best",.bl b),("own",.bl c),("most",.bl d)]
noncomputable def Kr(a:BA)(S cnt:Nat)(br:D):MO:= .ins 8 [("first",.int (S:Int)),("rules",.ref a.rl),("ballots",.ref a.bl),("strides",.ref a.sd),("replies",.ref a.rp),("count",.int (cnt:Int)),("breach",br)]
noncomputable def akx(a:BA):MO:= .ins 0 [("rules",.ref a.rl),("terms",.ref a.tm),("votes",.ref a.vt),("askings",.ref a.ak),("seated",.ref a.se)]
noncomputable def amk(a:BA)(S:Nat):MO:= .ins 7 [("first_roll",.tup [.int (S:Int),.int 0]),("rules",.ref a.rl),("rows",.ref a.ro),("lines",.ref a.ln),("marks",.ref a.mr),("places",.ref a.pl)]
noncomputable def amw(a:BA):MO:= .ins 5 [("beats",.ref a.bt),("heard",.ref a.hd),("looks",.ref a.lk),("seen",.ref a.sn)]
def Oo(a:BA):Prop:=a.b<a.rl/\a.rl<a.bl/\a.bl<a.tm/\a.tm<a.vt/\a.vt<a.ak/\a.ak<a.se/\a.se<a.sd/\a.sd<a.ro/\a.ro<a.ln/\a.ln<a.mr/\a.mr<a.pl/\a.pl<a.rp/\a.rp<a.bt/\a.bt<a.hd/\a.hd<a.lk/\a.lk<a.sn
structure bA(M:Mem)(a:BA)(s:BO):Prop where
 b:M[a.b]? = some (Kr a s.S s.cnt s.br)
 rl:M[a.rl]? = some (Xy s.r1 s.r2 s.r3 s.r4)
 bl:M[a.bl]? = some (akx a)
 tm:M[a.tm]? = some (.dk (ge kN D.int s.tm))
 vt:KD M a.vt (ge kP nD s.vt)
 ak:KD M a.ak (ge kP eD s.ak)
 se:M[a.se]? = some (.dk (ge kI nD s.se))
 sd:M[a.sd]? = some (amk a s.S)
 ro:M[a.ro]? = some (.dk (ge kN esD s.ro))
 ln:M[a.ln]? = some (.dk (ge kI esD s.ln))
 mr:M[a.mr]? = some (.dk (ge kI nD s.mr))
 pl:KD M a.pl (ge kP nD s.pl)
 rp:M[a.rp]? = some (amw a)
 bt:M[a.bt]? = some (.dk (ge kI nD s.bt))
 hd:KD M a.hd (ge kP nD s.hd)
 lk:KD M a.lk (ge kQ id s.lk)
 sn:KD M a.sn (ge kQ D.bl s.sn)
 o:a.b<a.rl/\a.rl<a.bl/\a.bl<a.tm/\a.tm<a.vt/\a.vt<a.ak/\a.ak<a.se/\a.se<a.sd/\a.sd<a.ro/\a.ro<a.ln/\a.ln<a.mr/\a.mr<a.pl/\a.pl<a.rp/\a.rp<a.bt/\a.bt<a.hd/\a.hd<a.lk/\a.lk<a.sn
def Rg(a:BA):Nat->Prop:=λi=>a.b<=i/\i<=a.sn
theorem vN{fs:List (Str×D)}{m:Str}(h:(fs.map (·.1)).contains m=false):fs.lookup m=none:=by
 induction fs with
 | nil=>rfl
 | cons p l ih=>
  rw[List.map_cons,List.contains_cons,Bool.or_eq_false_iff]at h
  rw[List.lookup_cons,h.1]
  exact ih h.2
section
variable{M M':Mem}{a:BA}{s:BO}
noncomputable def ad(a:BA)(i:Nat):Nat:=[a.b,a.rl,a.bl,a.tm,a.vt,a.ak,a.se,a.sd,a.ro,a.ln,a.mr,a.pl,a.rp,a.bt,a.hd,a.lk,a.sn].getD i 0
theorem akA(o:Oo a):∀i,i<16->ad a i<ad a (i+1)
 | 0,_=>o.1
 | 1,_=>o.2.1
 | 2,_=>o.2.2.1
 | 3,_=>o.2.2.2.1
 | 4,_=>o.2.2.2.2.1
 | 5,_=>o.2.2.2.2.2.1
 | 6,_=>o.2.2.2.2.2.2.1
 | 7,_=>o.2.2.2.2.2.2.2.1
 | 8,_=>o.2.2.2.2.2.2.2.2.1
 | 9,_=>o.2.2.2.2.2.2.2.2.2.1
 | 10,_=>o.2.2.2.2.2.2.2.2.2.2.1
 | 11,_=>o.2.2.2.2.2.2.2.2.2.2.2.1
 | 12,_=>o.2.2.2.2.2.2.2.2.2.2.2.2.1
 | 13,_=>o.2.2.2.2.2.2.2.2.2.2.2.2.2.1
 | 14,_=>o.2.2.2.2.2.2.2.2.2.2.2.2.2.2.1
 | 15,_=>o.2.2.2.2.2.2.2.2.2.2.2.2.2.2.2
 | n+16,h=>absurd h (Nat.not_lt.mpr (Nat.le_add_left 16 n))
theorem SX(o:Oo a):∀j i,i<j->j<=16->ad a i<ad a j
 | 0,_,h,_=>absurd h (Nat.not_lt_zero _)
 | j+1,i,h,k=>by
  rcases Nat.lt_or_eq_of_le (Nat.le_of_lt_succ h)with z | z
  ·exact Nat.lt_trans (SX o j i z (Nat.le_of_lt k)) (akA o j k)
  ·subst z;exact akA o _ k
theorem Cv(o:Oo a)(i j:Nat)(h:(decide (i≠j)&&(decide (i<=16)&&decide (j<=16)))=true):ad a i≠ad a j:=by
 simp only[Bool.and_eq_true,decide_eq_true_eq]at h
 rcases Nat.lt_or_gt_of_ne h.1 with z | z
 ·exact xD (SX o j i z h.2.2)
 ·exact xS (SX o i j z h.2.1)
theorem m_(o:Oo a)(i:Nat)(h:decide (i<=16)=true):Rg a (ad a i):=by
 have h:=of_decide_eq_true h
 constructor
 ·cases i with
  | zero=>exact zac _
  | succ n=>exact Nat.le_of_lt (SX o (n+1) 0 (Nat.succ_pos n) h)
 ·rcases Nat.lt_or_eq_of_le h with z | z
  ·exact Nat.le_of_lt (SX o 16 i z (zac _))
  ·subst z;exact zac _
theorem bA.ch{p:Nat->Prop}(h:bA M a s)(c:Ch p M M')(hp:∀i,a.b<=i->i<=a.sn->¬p i):bA M' a s:=by
 have o:=h.o
 have r:=λi=> @m_ a o i
 exact⟨c.2 _ _ (hp _ (r 0 rfl).1 (r 0 rfl).2) h.b,c.2 _ _ (hp _ (r 1 rfl).1 (r 1 rfl).2) h.rl,c.2 _ _ (hp _ (r 2 rfl).1 (r 2 rfl).2) h.bl,c.2 _ _ (hp _ (r 3 rfl).1 (r 3 rfl).2) h.tm,h.vt.ch c (hp _ (r 4 rfl).1 (r 4 rfl).2),h.ak.ch c (hp _ (r 5 rfl).1 (r 5 rfl).2),c.2 _ _ (hp _ (r 6 rfl).1 (r 6 rfl).2) h.se,c.2 _ _ (hp _ (r 7 rfl).1 (r 7 rfl).2) h.sd,c.2 _ _ (hp _ (r 8 rfl).1 (r 8 rfl).2) h.ro,c.2 _ _ (hp _ (r 9 rfl).1 (r 9 rfl).2) h.ln,c.2 _ _ (hp _ (r 10 rfl).1 (r 10 rfl).2) h.mr,h.pl.ch c (hp _ (r 11 rfl).1 (r 11 rfl).2),c.2 _ _ (hp _ (r 12 rfl).1 (r 12 rfl).2) h.rp,c.2 _ _ (hp _ (r 13 rfl).1 (r 13 rfl).2) h.bt,h.hd.ch c (hp _ (r 14 rfl).1 (r 14 rfl).2),h.lk.ch c (hp _ (r 15 rfl).1 (r 15 rfl).2),h.sn.ch c (hp _ (r 16 rfl).1 (r 16 rfl).2),o⟩
theorem bA.u_b(h:bA M a s)(c:Ch (· = a.b) M M')(e:M'[a.b]? = some (Kr a s.S m d)):bA M' a {s with cnt:=m,br:=d}:=by
 have o:=h.o
 have n:=λi=> @Cv a o i 0
 exact⟨e,c.2 _ _ (n 1 rfl) h.rl,c.2 _ _ (n 2 rfl) h.bl,c.2 _ _ (n 3 rfl) h.tm,h.vt.ch c (n 4 rfl),h.ak.ch c (n 5 rfl),c.2 _ _ (n 6 rfl) h.se,c.2 _ _ (n 7 rfl) h.sd,c.2 _ _ (n 8 rfl) h.ro,c.2 _ _ (n 9 rfl) h.ln,c.2 _ _ (n 10 rfl) h.mr,h.pl.ch c (n 11 rfl),c.2 _ _ (n 12 rfl) h.rp,c.2 _ _ (n 13 rfl) h.bt,h.hd.ch c (n 14 rfl),h.lk.ch c (n 15 rfl),h.sn.ch c (n 16 rfl),o⟩
theorem bA.al2(h:bA M a s)(c:Ch (· = a.tm) M M')(e:M'[a.tm]? = some (.dk (ge kN D.int l))):bA M' a {s with tm:=l}:=by
 have o:=h.o
 have n:=λi=> @Cv a o i 3
 exact⟨c.2 _ _ (n 0 rfl) h.b,c.2 _ _ (n 1 rfl) h.rl,c.2 _ _ (n 2 rfl) h.bl,e,h.vt.ch c (n 4 rfl),h.ak.ch c (n 5 rfl),c.2 _ _ (n 6 rfl) h.se,c.2 _ _ (n 7 rfl) h.sd,c.2 _ _ (n 8 rfl) h.ro,c.2 _ _ (n 9 rfl) h.ln,c.2 _ _ (n 10 rfl) h.mr,h.pl.ch c (n 11 rfl),c.2 _ _ (n 12 rfl) h.rp,c.2 _ _ (n 13 rfl) h.bt,h.hd.ch c (n 14 rfl),h.lk.ch c (n 15 rfl),h.sn.ch c (n 16 rfl),o⟩
theorem bA.aiv(h:bA M a s)(c:Ch (· = a.vt) M M')(e:KD M' a.vt (ge kP nD l)):bA M' a {s with vt:=l}:=by
 have o:=h.o
 have n:=λi=> @Cv a o i 4
 exact⟨c.2 _ _ (n 0 rfl) h.b,c.2 _ _ (n 1 rfl) h.rl,c.2 _ _ (n 2 rfl) h.bl,c.2 _ _ (n 3 rfl) h.tm,e,h.ak.ch c (n 5 rfl),c.2 _ _ (n 6 rfl) h.se,c.2 _ _ (n 7 rfl) h.sd,c.2 _ _ (n 8 rfl) h.ro,c.2 _ _ (n 9 rfl) h.ln,c.2 _ _ (n 10 rfl) h.mr,h.pl.ch c (n 11 rfl),c.2 _ _ (n 12 rfl) h.rp,c.2 _ _ (n 13 rfl) h.bt,h.hd.ch c (n 14 rfl),h.lk.ch c (n 15 rfl),h.sn.ch c (n 16 rfl),o⟩
theorem bA.aiC(h:bA M a s)(c:Ch (· = a.ak) M M')(e:KD M' a.ak (ge kP eD l)):bA M' a {s with ak:=l}:=by
 have o:=h.o
 have n:=λi=> @Cv a o i 5
 exact⟨c.2 _ _ (n 0 rfl) h.b,c.2 _ _ (n 1 rfl) h.rl,c.2 _ _ (n 2 rfl) h.bl,c.2 _ _ (n 3 rfl) h.tm,h.vt.ch c (n 4 rfl),e,c.2 _ _ (n 6 rfl) h.se,c.2 _ _ (n 7 rfl) h.sd,c.2 _ _ (n 8 rfl) h.ro,c.2 _ _ (n 9 rfl) h.ln,c.2 _ _ (n 10 rfl) h.mr,h.pl.ch c (n 11 rfl),c.2 _ _ (n 12 rfl) h.rp,c.2 _ _ (n 13 rfl) h.bt,h.hd.ch c (n 14 rfl),h.lk.ch c (n 15 rfl),h.sn.ch c (n 16 rfl),o⟩
theorem bA.al3(h:bA M a s)(c:Ch (· = a.se) M M')(e:M'[a.se]? = some (.dk (ge kI nD l))):bA M' a {s with se:=l}:=by
 have o:=h.o
 have n:=λi=> @Cv a o i 6
 exact⟨c.2 _ _ (n 0 rfl) h.b,c.2 _ _ (n 1 rfl) h.rl,c.2 _ _ (n 2 rfl) h.bl,c.2 _ _ (n 3 rfl) h.tm,h.vt.ch c (n 4 rfl),h.ak.ch c (n 5 rfl),e,c.2 _ _ (n 7 rfl) h.sd,c.2 _ _ (n 8 rfl) h.ro,c.2 _ _ (n 9 rfl) h.ln,c.2 _ _ (n 10 rfl) h.mr,h.pl.ch c (n 11 rfl),c.2 _ _ (n 12 rfl) h.rp,c.2 _ _ (n 13 rfl) h.bt,h.hd.ch c (n 14 rfl),h.lk.ch c (n 15 rfl),h.sn.ch c (n 16 rfl),o⟩
theorem bA.aiw(h:bA M a s)(c:Ch (· = a.ro) M M')(e:M'[a.ro]? = some (.dk (ge kN esD l))):bA M' a {s with ro:=l}:=by
 have o:=h.o
 have n:=λi=> @Cv a o i 8
 exact⟨c.2 _ _ (n 0 rfl) h.b,c.2 _ _ (n 1 rfl) h.rl,c.2 _ _ (n 2 rfl) h.bl,c.2 _ _ (n 3 rfl) h.tm,h.vt.ch c (n 4 rfl),h.ak.ch c (n 5 rfl),c.2 _ _ (n 6 rfl) h.se,c.2 _ _ (n 7 rfl) h.sd,e,c.2 _ _ (n 9 rfl) h.ln,c.2 _ _ (n 10 rfl) h.mr,h.pl.ch c (n 11 rfl),c.2 _ _ (n 12 rfl) h.rp,c.2 _ _ (n 13 rfl) h.bt,h.hd.ch c (n 14 rfl),h.lk.ch c (n 15 rfl),h.sn.ch c (n 16 rfl),o⟩
theorem bA.aiy(h:bA M a s)(c:Ch (· = a.ln) M M')(e:M'[a.ln]? = some (.dk (ge kI esD l))):bA M' a {s with ln:=l}:=by
 have o:=h.o
 have n:=λi=> @Cv a o i 9
 exact⟨c.2 _ _ (n 0 rfl) h.b,c.2 _ _ (n 1 rfl) h.rl,c.2 _ _ (n 2 rfl) h.bl,c.2 _ _ (n 3 rfl) h.tm,h.vt.ch c (n 4 rfl),h.ak.ch c (n 5 rfl),c.2 _ _ (n 6 rfl) h.se,c.2 _ _ (n 7 rfl) h.sd,c.2 _ _ (n 8 rfl) h.ro,e,c.2 _ _ (n 10 rfl) h.mr,h.pl.ch c (n 11 rfl),c.2 _ _ (n 12 rfl) h.rp,c.2 _ _ (n 13 rfl) h.bt,h.hd.ch c (n 14 rfl),h.lk.ch c (n 15 rfl),h.sn.ch c (n 16 rfl),o⟩
theorem bA.aix(h:bA M a s)(c:Ch (· = a.pl) M M')(e:KD M' a.pl (ge kP nD l)):bA M' a {s with pl:=l}:=by
 have o:=h.o
 have n:=λi=> @Cv a o i 11
 exact⟨c.2 _ _ (n 0 rfl) h.b,c.2 _ _ (n 1 rfl) h.rl,c.2 _ _ (n 2 rfl) h.bl,c.2 _ _ (n 3 rfl) h.tm,h.vt.ch c (n 4 rfl),h.ak.ch c (n 5 rfl),c.2 _ _ (n 6 rfl) h.se,c.2 _ _ (n 7 rfl) h.sd,c.2 _ _ (n 8 rfl) h.ro,c.2 _ _ (n 9 rfl) h.ln,c.2 _ _ (n 10 rfl) h.mr,e,c.2 _ _ (n 12 rfl) h.rp,c.2 _ _ (n 13 rfl) h.bt,h.hd.ch c (n 14 rfl),h.lk.ch c (n 15 rfl),h.sn.ch c (n 16 rfl),o⟩
theorem bA.al6(h:bA M a s)(c:Ch (· = a.bt) M M')(e:M'[a.bt]? = some (.dk (ge kI nD l))):bA M' a {s with bt:=l}:=by
 have o:=h.o
 have n:=λi=> @Cv a o i 13
 exact⟨c.2 _ _ (n 0 rfl) h.b,c.2 _ _ (n 1 rfl) h.rl,c.2 _ _ (n 2 rfl) h.bl,c.2 _ _ (n 3 rfl) h.tm,h.vt.ch c (n 4 rfl),h.ak.ch c (n 5 rfl),c.2 _ _ (n 6 rfl) h.se,c.2 _ _ (n 7 rfl) h.sd,c.2 _ _ (n 8 rfl) h.ro,c.2 _ _ (n 9 rfl) h.ln,c.2 _ _ (n 10 rfl) h.mr,h.pl.ch c (n 11 rfl),c.2 _ _ (n 12 rfl) h.rp,e,h.hd.ch c (n 14 rfl),h.lk.ch c (n 15 rfl),h.sn.ch c (n 16 rfl),o⟩
theorem bA.aiz(h:bA M a s)(c:Ch (· = a.hd) M M')(e:KD M' a.hd (ge kP nD l)):bA M' a {s with hd:=l}:=by
 have o:=h.o
 have n:=λi=> @Cv a o i 14
 exact⟨c.2 _ _ (n 0 rfl) h.b,c.2 _ _ (n 1 rfl) h.rl,c.2 _ _ (n 2 rfl) h.bl,c.2 _ _ (n 3 rfl) h.tm,h.vt.ch c (n 4 rfl),h.ak.ch c (n 5 rfl),c.2 _ _ (n 6 rfl) h.se,c.2 _ _ (n 7 rfl) h.sd,c.2 _ _ (n 8 rfl) h.ro,c.2 _ _ (n 9 rfl) h.ln,c.2 _ _ (n 10 rfl) h.mr,h.pl.ch c (n 11 rfl),c.2 _ _ (n 12 rfl) h.rp,c.2 _ _ (n 13 rfl) h.bt,e,h.lk.ch c (n 15 rfl),h.sn.ch c (n 16 rfl),o⟩
theorem bA.fbl(h:bA M a s):mX [8] "ballots" (.ref a.b) M= .ok (.ref a.bl) M:=dj h.b (by simp) rfl
theorem bA.Yq(h:bA M a s):mX [8] "strides" (.ref a.b) M= .ok (.ref a.sd) M:=dj h.b (by simp) rfl
theorem bA.frp(h:bA M a s):mX [8] "replies" (.ref a.b) M= .ok (.ref a.rp) M:=dj h.b (by simp) rfl
theorem bA.frb(h:bA M a s):mX [0,7,8] "rules" (.ref a.bl) M= .ok (.ref a.rl) M:=dj h.bl (by simp) rfl
theorem bA.ftm(h:bA M a s):mX [0] "terms" (.ref a.bl) M= .ok (.ref a.tm) M:=dj h.bl (by simp) rfl
theorem bA.fvt(h:bA M a s):mX [0] "votes" (.ref a.bl) M= .ok (.ref a.vt) M:=dj h.bl (by simp) rfl
theorem bA.fak(h:bA M a s):mX [0] "askings" (.ref a.bl) M= .ok (.ref a.ak) M:=dj h.bl (by simp) rfl
theorem bA.fse(h:bA M a s):mX [0] "seated" (.ref a.bl) M= .ok (.ref a.se) M:=dj h.bl (by simp) rfl
theorem bA.fro(h:bA M a s):mX [7] "rows" (.ref a.sd) M= .ok (.ref a.ro) M:=dj h.sd (by simp) rfl
theorem bA.fln(h:bA M a s):mX [7] "lines" (.ref a.sd) M= .ok (.ref a.ln) M:=dj h.sd (by simp) rfl
theorem bA.fmk(h:bA M a s):mX [7] "marks" (.ref a.sd) M= .ok (.ref a.mr) M:=dj h.sd (by simp) rfl
theorem bA.fpl(h:bA M a s):mX [7] "places" (.ref a.sd) M= .ok (.ref a.pl) M:=dj h.sd (by simp) rfl
theorem bA.fbt(h:bA M a s):mX [5] "beats" (.ref a.rp) M= .ok (.ref a.bt) M:=dj h.rp (by simp) rfl
theorem bA.fhd(h:bA M a s):mX [5] "heard" (.ref a.rp) M= .ok (.ref a.hd) M:=dj h.rp (by simp) rfl
theorem bA.fcn(h:bA M a s):mX [8] "count" (.ref a.b) M= .ok (.int (s.cnt:Int)) M:=dj h.b (by simp) rfl
theorem bA.fbr(h:bA M a s):mX [8] "breach" (.ref a.b) M= .ok s.br M:=dj h.b (by simp) rfl
theorem bA.ffr(h:bA M a s):mX [7] "first_roll" (.ref a.sd) M= .ok (.tup [.int (s.S:Int),.int 0]) M:=dj h.sd (by simp) rfl
theorem bA.f1(h:bA M a s):mX [6] "once" (.ref a.rl) M= .ok (.bl s.r1) M:=dj h.rl (by simp) rfl
theorem bA.f2(h:bA M a s):mX [6] "best" (.ref a.rl) M= .ok (.bl s.r2) M:=dj h.rl (by simp) rfl
theorem bA.f4(h:bA M a s):mX [6] "most" (.ref a.rl) M= .ok (.bl s.r4) M:=dj h.rl (by simp) rfl
theorem bA.JH(h:bA M a s){m:Str}(hm:(["first","rules","ballots","strides","replies","count","breach"]:List Str).contains m=false):t7 8 m (.ref a.b) M=true:=Ac h.b (vN hm)
theorem bA.mj(h:bA M a s){m:Str}(hm:(["rules","terms","votes","askings","seated"]:List Str).contains m=false):t7 0 m (.ref a.bl) M=true:=Ac h.bl (vN hm)
theorem bA.pO(h:bA M a s){m:Str}(hm:(["first_roll","rules","rows","lines","marks","places"]:List Str).contains m=false):t7 7 m (.ref a.sd) M=true:=Ac h.sd (vN hm)
theorem bA.Uk(h:bA M a s){m:Str}(hm:(["beats","heard","looks","seen"]:List Str).contains m=false):t7 5 m (.ref a.rp) M=true:=Ac h.rp (vN hm)
theorem bA.amV(h:bA M a s){m:Str}(hm:(["once","best","own","most"]:List Str).contains m=false):t7 6 m (.ref a.rl) M=true:=Ac h.rl (vN hm)
end
theorem ag9(g:Gr M0 M)(h:M0.length<=r):Gr M0 (M.set r o):=λi q hq=>by
 have:=GZ hq
 rw[zaj ()]
 exact g i q hq
theorem get_set{M:Mem}{n:Nat}{o x:MO}(h:M[n]? = some o):(M.set n x)[n]? = some x:=zak (GZ h)
theorem abb{l i:Nat}{ws:List Str}{w:Str}(h:M[l]? = some (.lst (ws.map D.str)))(hw:ws[i]? = some w):bf (.ref l) (.int (i:Int)) M= .ok (.str w) M:=
 NK h () (by simp[hw])
theorem X5:Jo (.str w) (.mJ [.str a,.str b]) M= .ok (.bl (!(decide (a=w)||decide (b=w)))) M:=by
 refine(pA rfl).trans ?_
 simp only[T4,Qt,vp,Nj]
 simp[inV,eqV,Bool.beq_eq_decide_eq]
def ae7(w0 w1 w2 w3:Str):Prop:=(w0= "once" \/ w0= "free")/\(w1= "best" \/ w1= "any")/\(w2= "own" \/ w2= "old")/\(w3= "most" \/ w3= "half")
theorem H_{l i:Nat}{ws:List Str}{w a b:Str}{ds:List D}{u v:Option D}(hM:M[l]? = some (.lst (ws.map D.str)))(hw:ws[i]? = some w)(h:w=a\/w=b):
  cC none (gT 2 (dG (gN 1) (dG (gN 2) Al))) gW (.tup [.int (i:Int),.mJ [.str a,.str b]]::ds) [some (.ref l),u,v] M=cC none (gT 2 (dG (gN 1) (dG (gN 2) Al))) gW ds [some (.ref l),some (.int (i:Int)),some (.mJ [.str a,.str b])] M:=by
 have hl:¬((ws.length:Int)<=(i:Int)):=by have:=(List.getElem?_eq_some_iff.mp hw).1;omega
 have e:gW [some (.ref l),some (.int (i:Int)),some (.mJ [.str a,.str b])] M= .next [some (.ref l),some (.int (i:Int)),some (.mJ [.str a,.str b])] M:=by
  have hb:(!(decide (a=w)||decide (b=w)))=false:=by rcases h with z | z<;>simp[z]
  simp only[gW,Ae]
  simp only[aac,agA,JK,Im,PN]
  simp[oX hM,abb hM hw,X5,hl]
  exact λq=>h.elim (λz=>absurd z.symm q) Eq.symm
 rw[cC,if_pos (show ig none M from trivial)]
 simp[e]
theorem Tf(hM:M[l]? = some (.lst ([w0,w1,w2,w3].map D.str)))(hg:ae7 w0 w1 w2 w3):wX [.ref l] M= .ok .non M:=by
 obtain⟨g0,g1,g2,g3⟩:=hg
 have en:∀ds:List D,sr (.mJ ds) (.int 0) M= .ok ⟨none,j_ 0 ds⟩ M:=λds=>rfl
 have s0:=λds=>H_ (i:=0) (ds:=ds) (u:=none) (v:=none) hM rfl g0
 have s1:=λds u v=>H_ (i:=1) (ds:=ds) (u:=u) (v:=v) hM rfl g1
 have s2:=λds u v=>H_ (i:=2) (ds:=ds) (u:=u) (v:=v) hM rfl g2
 have s3:=λds u v=>H_ (i:=3) (ds:=ds) (u:=u) (v:=v) hM rfl g3
 have lp:cC none (gT 2 (dG (gN 1) (dG (gN 2) Al))) gW (j_ 0 [.mJ [.str "once",.str "free"],.mJ [.str "best",.str "any"],.mJ [.str "own",.str "old"],.mJ [.str "most",.str "half"]]) [some (.ref l),none,none] M= .next [some (.ref l),some (.int 3),some (.mJ [.str "most",.str "half"])] M:=by
  refine(s0 _).trans ((s1 _ _ _).trans ((s2 _ _ _).trans ((s3 _ _ _).trans ?_)))
  show cC _ _ _ [] _ _=_
  rw[cC,if_pos (show ig none M from trivial)]
  rfl
 simp only[wX,xT,Am,Ad]
 simp[lp,oX hM]
theorem aaj(hy:y.length<=1000)(hs:Txt.split y " " = [w0,w1,w2,w3])(hg:ae7 w0 w1 w2 w3):
  ∃M',jD [.ref M.length,.str y] (M++[.ins 6 []])= .ok .non M'/\Gr M M'/\M'[M.length]? = some (Xy (decide (w0= "once")) (decide (w1= "best")) (decide (w2= "own")) (decide (w3= "most"))):=by
 obtain⟨N,hN⟩:∃N,N=M++[MO.ins 6 []]:=⟨_,rfl⟩
 obtain⟨N1,hN1⟩:∃N1,N1=N++[MO.lst ([w0,w1,w2,w3].map D.str)]:=⟨_,rfl⟩
 have g:Gr M N:=by rw[hN];exact Gr.app
 have g1:Gr N N1:=by rw[hN1];exact Gr.app
 have hl:N1[N.length]? = some (.lst ([w0,w1,w2,w3].map D.str)):=by rw[hN1];exact bB
 have h0:N1[M.length]? = some (.ins 6 []):=g1 _ _ (by rw[hN];exact bB)
 have nl:N.length=M.length+1:=by rw[hN];simp
 have e1:FN (.str y) [.str " "] N= .ok (.ref N.length) N1:=by rw[Xr () (by decide),hs,<-hN1]
 have ty:Xi "str" (.str y) N=true:=rfl
 have e2:=Tf hl hg
 obtain⟨b0,hb0⟩:∃b0,b0=decide (w0= "once"):=⟨_,rfl⟩
 obtain⟨b1,hb1⟩:∃b1,b1=decide (w1= "best"):=⟨_,rfl⟩
 obtain⟨b2,hb2⟩:∃b2,b2=decide (w2= "own"):=⟨_,rfl⟩
 obtain⟨b3,hb3⟩:∃b3,b3=decide (w3= "most"):=⟨_,rfl⟩
 have q1:j6 [6] "once" (.bl b0) (.ref M.length) N1=some (N1.set M.length (.ins 6 [("once",.bl b0)])):=by
  rw[jf h0 (by simp) (by simp)];rfl
 have q2:j6 [6] "best" (.bl b1) (.ref M.length) (N1.set M.length (.ins 6 [("once",.bl b0)]))=some (N1.set M.length (.ins 6 [("once",.bl b0),("best",.bl b1)])):=by
  rw[jf (get_set h0) (by simp) (by simp),List.set_set];rfl
 have q3:j6 [6] "own" (.bl b2) (.ref M.length) (N1.set M.length (.ins 6 [("once",.bl b0),("best",.bl b1)]))=some (N1.set M.length (.ins 6 [("once",.bl b0),("best",.bl b1),("own",.bl b2)])):=by
  rw[jf (get_set h0) (by simp) (by simp),List.set_set];rfl
 have q4:j6 [6] "most" (.bl b3) (.ref M.length) (N1.set M.length (.ins 6 [("once",.bl b0),("best",.bl b1),("own",.bl b2)]))=some (N1.set M.length (Xy b0 b1 b2 b3)):=by
  rw[jf (get_set h0) (by simp) (by simp),List.set_set];rfl
 have ix:∀(o:MO) (i:Nat) (w:Str),[w0,w1,w2,w3][i]? = some w->bf (.ref N.length) (.int (i:Int)) (N1.set M.length o)= .ok (.str w) (N1.set M.length o):=λo i w hw=>abb (by rw[zaj ()];exact hl) hw
 have i0:bf (.ref N.length) (.int 0) N1= .ok (.str w0) N1:=abb (i:=0) hl rfl
 have i1:=λo=>ix o 1 w1 rfl
 have i2:=λo=>ix o 2 w2 rfl
 have i3:=λo=>ix o 3 w3 rfl
 simp only[Int.cast_ofNat_Int]at i1 i2 i3
 refine⟨N1.set M.length (Xy b0 b1 b2 b3),?_,ag9 (g.trans g1) (zac _),by rw[<-hb0,<-hb1,<-hb2,<-hb3];exact get_set h0⟩
 simp only[jD,mL,Ai]
 simp[<-hN,ty,e1,e2,i0,i1,i2,i3,<-hb0,<-hb1,<-hb2,<-hb3,q1,q2,q3,q4]
theorem T5:∃M',jD [.ref M.length,.str "once best own most"] (M++[.ins 6 []])= .ok .non M'/\Gr M M'/\M'[M.length]? = some (Xy true true true true):=
 aaj (by decide) (show Txt.split "once best own most" " " = ([("once" : Str),"best","own","most"]:List Str) by decide +kernel) ⟨.inl rfl,.inl rfl,.inl rfl,.inl rfl⟩
def BO.term(s:BO)(h:Nat):Int:=(gv s.tm h).getD 0
def BO.Bc(s:BO)(h:Nat)(t:Int):Nat:=(gv s.vt (h,t)).getD 0
def BO.ask(s:BO)(h:Nat)(t:Int):Option (Int×Nat):=gv s.ak (h,t)
def BO.head(s:BO)(t:Int):Option Nat:=gv s.se t
def BO.row(s:BO)(h:Nat):List En:=(gv s.ro h).getD []
def BO.line(s:BO)(t:Int):List En:=(gv s.ln t).getD []
structure Bx(M:Mem)(a:BA)(s:BO)(M':Mem):Prop where
 h:bA M' a s
 c:Ch (Rg a) M M'
section
variable{M M1 M2 M':Mem}{a:BA}{s s':BO}
theorem Bx.trans(x:Bx M a s M1)(y:Bx M1 a s' M2):Bx M a s' M2:=⟨y.h,x.c.trans y.c⟩
theorem Bx.of(h:bA M a s):Bx M a s M:=⟨h,Ch.refl⟩
theorem Bx.gr(h:bA M a s)(g:Gr M M'):Bx M a s M':=⟨h.ch (p:=λ_=>False) g.ch (λ_ _ _ z=>z),g.ch⟩
theorem Ch.one(c:Ch (· = n) M M')(hn:Rg a n):Ch (Rg a) M M':=c.mono λi _ z=>by have z:i=n:=z;subst z;exact hn
theorem O3{o:Option Nat}:(o.map nD).getD (.int 0)= .int ((o.getD 0:Nat):Int):=by cases o<;>rfl
theorem aha{o:Option Int}:(o.map D.int).getD (.int 0)= .int (o.getD 0):=by cases o<;>rfl
theorem WM{o:Option (List En)}:(o.map esD).getD (.tup [])=esD (o.getD []):=by cases o<;>rfl
theorem Bg(h:bA M a s)(k:Nat):cB [.ref a.bl,.int (k:Int)] M= .ok (.int (s.term k)) M:=by
 have e:=aeR h.tm k (.int 0)
 rw[aha]at e
 simp only[cB,mU]
 simp[h.ftm,xr h.tm,e,BO.term]
theorem IW(h:bA M a s)(k:Nat)(t:Int):∃M',cJ [.ref a.bl,.int (k:Int),.int t] M= .ok (.int (s.Bc k t:Nat)) M'/\Bx M a s M':=by
 obtain⟨M',e,tt,c⟩:=WD h.vt (k,t) (.int 0)
 rw[O3]at e
 refine⟨M',?_,h.aiv c tt,c.one (m_ h.o 4 rfl)⟩
 simp only[cJ,lG]
 simp[h.fvt,h.vt.dic,e,BO.Bc]
theorem SM(h:bA M a s)(k:Nat)(t:Int):∃M',gH [.ref a.bl,.int (k:Int),.int t] M= .ok (((s.ask k t).map eD).getD .non) M'/\Bx M a s M':=by
 obtain⟨M',e,tt,c⟩:=WD h.ak (k,t) .non
 refine⟨M',?_,h.aiC c tt,c.one (m_ h.o 5 rfl)⟩
 simp only[gH,jx]
 simp[h.fak,h.ak.dic,e,BO.ask]
theorem Io(h:bA M a s)(t:Int):bW [.ref a.bl,.int t] M= .ok (((s.head t).map nD).getD .non) M:=by
 have e:=WK h.se t .non
 simp only[bW,lH]
 simp[h.fse,xr h.se,e,BO.head]
theorem wJ(h:bA M a s)(k:Nat):bK [.ref a.sd,.int (k:Int)] M= .ok (esD (s.row k)) M:=by
 have e:=aeR h.ro k (.tup [])
 rw[WM]at e
 simp only[bK,nQ]
 simp[h.fro,xr h.ro,e,BO.row]
theorem or_zero(w:Nat):Builtin.bitOr 0 (1*2 ^ ((w:Int)).toNat)=((2 ^ w:Nat):Int):=by
 have:Builtin.bitOr ((0:Nat):Int) ((2 ^ w:Nat):Int)=((0 ||| 2 ^ w:Nat):Int):=HM.W9 0 (2 ^ w)
 rw[Nat.zero_or]at this
 rw[zam,HM.V7]
 exact this
theorem Nv{n w:Nat}(hM:M[n]? = some (.lst [.int (w:Int)]))(hw:w<60):l_ [.ref n] M= .ok (.int ((2 ^ w:Nat):Int)) M:=by
 have sh:sZ (.int 1) (.int (w:Int)) M= .ok (.int (1*2 ^ ((w:Int)).toNat)) M:=Nt ⟨(),(),by decide⟩
 have ok:ig (some (n,[D.int (w:Int)])) M:=eF hM
 have lp:cC (some (n,[D.int (w:Int)])) (gN 2) Cw [.int (w:Int)] [some (.ref n),some (.int 0),none] M= .next [some (.ref n),some (.int ((2 ^ w:Nat):Int)),some (.int (w:Int))] M:=by
  rw[cC,if_pos ok]
  simp only[aeT,Cw]
  simp only[VF,Im,PN]
  have oz:=or_zero w
  simp at oz
  simp[sh]
  rw[cC,if_pos ok,oz]
 simp only[l_,Ku,J_]
 simp[j7 hM,lp]
theorem Xc(n w:Nat):(!decide (Builtin.bitAnd (n:Int) ((2 ^ w:Nat):Int)=0))=n.testBit w:=by
 rw[HM.Ks]
 have q:=HM.Kv n w
 cases z:n.testBit w with
 | true=>
  have q':=q.mpr z
  simp only[Bool.not_eq_true',decide_eq_false_iff_not]
  omega
 | false=>
  have q':¬(n &&& 2 ^ w≠0):=λr=>by rw[q.mp r]at z;cases z
  simp only[Bool.not_eq_false',decide_eq_true_eq]
  omega
def BO.spent(s:BO)(h:Nat)(t:Int)(w:Nat):Bool:=if s.r1=true then !decide (s.Bc h t=0)else(s.Bc h t).testBit w
theorem ZV(h:bA M a s)(k:Nat)(t:Int){w:Nat}(hw:w<60):∃M',iI [.ref a.bl,.int (k:Int),.int t,.int (w:Int)] M= .ok (.bl (s.spent k t w)) M'/\Bx M a s M':=by
 obtain⟨M1,e1,x1⟩:=IW h k t
 have me:=h.mj (m:= "votes_of") rfl
 cases z:s.r1 with
 | true=>
  refine⟨M1,?_,x1⟩
  simp only[iI,iU,jr]
  simp[me,e1,x1.h.frb,x1.h.f1,z,BO.spent,Int.ofNat_eq_zero]
 | false=>
  obtain⟨N,hN⟩:∃N,N=M1++[MO.lst [.int (w:Int)]]:=⟨_,rfl⟩
  have g:Gr M1 N:=by rw[hN];exact Gr.app
  have e2:l_ [.ref M1.length] N= .ok (.int ((2 ^ w:Nat):Int)) N:=Nv (by rw[hN];exact bB) hw
  refine⟨N,?_,x1.trans (Bx.gr x1.h g)⟩
  have b:=Xc (s.Bc k t) w
  simp only[iI,iU,jr]
  simp only[wI]
  simp[me,e1,x1.h.frb,x1.h.f1,z,BO.spent,<-hN,e2]
  simpa using b
noncomputable def BO.good(s:BO)(w:Nat)(t:Int)(e:Int×Nat):Bool:=match s.ask w t with
 | none=>false
 | some q=>Xf.Mh [e.1,(e.2:Int)] [q.1,(q.2:Int)]|| !s.r2
theorem adL(h:bA M a s)(w:Nat)(t:Int)(e:Int×Nat):∃M',dW [.ref a.bl,.int (w:Int),.int t,eD e] M= .ok (.bl (s.good w t e)) M'/\Bx M a s M':=by
 obtain⟨M1,e1,x1⟩:=SM h w t
 have me:=h.mj (m:= "asked_with") rfl
 refine⟨M1,?_,x1⟩
 cases z:s.ask w t with
 | none=>
  rw[z]at e1
  simp only[dW,dX,fO]
  simp at e1
  simp[me,e1,BO.good,z]
 | some q=>
  rw[z]at e1
  have le:sLe (eD e) (eD q) M1= .ok (.bl (Xf.Mh [e.1,(e.2:Int)] [q.1,(q.2:Int)])) M1:=ai1 rfl rfl
  simp only[Option.map_some,Option.getD_some]at e1
  have nn:Ml (eD q)=false:=rfl
  simp only[dW,dX,fO]
  simp only[wI]
  cases zz:Xf.Mh [e.1,(e.2:Int)] [q.1,(q.2:Int)]with
  | true=>rw[zz]at le;simp[me,e1,nn,le,BO.good,z,zz]
  | false=>rw[zz]at le;simp[me,e1,nn,le,BO.good,z,zz,x1.h.frb,x1.h.f2]
def BO.jB(s:BO)(h:Nat)(t:Int)(w:Nat)(e:Int×Nat):Bool:=if t<s.term h\/s.spent h t w=true then false else if w=h then decide (s.term h<t)else s.good w t e
theorem Uh(h:bA M a s)(k:Nat)(t:Int){w:Nat}(hw:w<60)(e:Int×Nat):∃M',dD [.ref a.bl,.int (k:Int),.int t,.int (w:Int),eD e] M= .ok (.bl (s.jB k t w e)) M'/\Bx M a s M':=by
 have e0:=Bg h k
 have m0:=h.mj (m:= "term_of") rfl
 have m1:=h.mj (m:= "is_spent") rfl
 by_cases c0:t<s.term k
 ·refine⟨M,?_,Bx.of h⟩
  simp only[dD,dI,d7,dZ]
  simp[m0,e0,c0,BO.jB]
 ·obtain⟨M1,e1,x1⟩:=ZV h k t hw
  cases c1:s.spent k t w with
  | true=>
   rw[c1]at e1
   refine⟨M1,?_,x1⟩
   simp only[dD,dI,d7,dZ]
   simp[m0,m1,e0,c0,e1,BO.jB,c1]
  | false=>
   rw[c1]at e1
   by_cases c2:w=k
   ·subst c2
    have e2:=Bg x1.h w
    have m2:=x1.h.mj (m:= "term_of") rfl
    refine⟨M1,?_,x1⟩
    simp only[dD,dI,d7,dZ]
    simp[m0,m1,e0,c0,e1,BO.jB,c1,m2,e2]
   ·obtain⟨M2,e2,x2⟩:=adL x1.h w t e
    have m2:=x1.h.mj (m:= "is_good_enough") rfl
    have c2':¬((w:Int)=(k:Int)):=()
    refine⟨M2,?_,x1.trans x2⟩
    simp only[dD,dI,d7,dZ]
    simp[m0,m1,e0,c0,e1,BO.jB,c1,m2,e2,c2,c2']
theorem bA.lt(h:bA M a s):a.sn<M.length:=by
 obtain⟨o,e⟩:=h.sn.some
 exact GZ e
theorem bA.nrg(h:bA M a s)(hn:M.length<=n):¬Rg a n:=λz=>by
 have:=h.lt
 have:n<=a.sn:=z.2
 omega
theorem adO{o:Option Nat}{k:Nat}:sEq ((o.map nD).getD .non) (.int (k:Int)) M= .ok (.bl (decide (o=some k))) M:=by
 cases o with
 | none=>exact FQ rfl
 | some j=>
  show sEq (.int (j:Int)) (.int (k:Int)) M=_
  rw[acE]
  congr 2
  by_cases z:j=k
  ·subst z;simp
  ·have:¬((j:Int)=(k:Int)):=()
   simp[z,this]
theorem abC:Qi M (eD e) (eD q)=some (decide (e=q)):=by
 have:Qi M (eD e) (eD q)=some (jl (.tup [.int e.1,.int (e.2:Int)]) (.tup [.int q.1,.int (q.2:Int)])):=rfl
 rw[this]
 congr 1
 obtain⟨e1,e2⟩:=e
 obtain⟨q1,q2⟩:=q
 by_cases z:e1=q1
 ·by_cases z2:e2=q2
  ·subst z z2;simp[E_]
  ·have:¬((e2:Int)=(q2:Int)):=()
   simp[jl,yx,z,z2,this]
 ·simp[jl,yx,z]
theorem agx:sNe ((o.map eD).getD .non) (eD e) M= .ok (.bl (!decide (o=some e))) M:=by
 cases o with
 | none=>exact wF (b:=false) rfl
 | some q=>
  show sNe (eD q) (eD e) M=_
  rw[wF (b:=decide (q=e)) abC];simp
def BO.qT(s:BO)(V:Nat)(t:Int)(w:Nat):Bool:=(HM.eG V).all λv=>(s.Bc v t).testBit w
structure akB(M0:Mem)(a:BA)(s:BO)(V:Nat)(t:Int)(w:Nat)(i:Nat)(ys:List D)(M:Mem):Prop where
 y:ys=((HM.eG V).take i).map λv=>D.bl ((s.Bc v t).testBit w)
 x:Bx M0 a s M
theorem Qp(h:bA M a s){V:Nat}(hV:V<2 ^ 60)(t:Int){w:Nat}(hw:w<60):∃M',jQ [.ref a.bl,.int (V:Int),.int t,.int (w:Int)] M= .ok (.bl (s.qT V t w)) M'/\Bx M a s M':=by
 have e0:=G8 (M:=M) V hV
 obtain⟨N,hN⟩:∃N,N=M++[MO.lst (hv (HM.eG V))]:=⟨_,rfl⟩
 rw[<-hN]at e0
 have g:Gr M N:=by rw[hN];exact Gr.app
 have x0:Bx M a s N:=Bx.gr h g
 have hl:N[M.length]? = some (.lst (hv (HM.eG V))):=by rw[hN];exact bB
 have keep:∀{M':Mem},Bx N a s M'->M'[M.length]? = some (.lst (hv (HM.eG V))):=λ{M'} x=>x.c.2 _ _ (h.nrg (zac _)) hl
 obtain⟨ys,M1,e1,hy,x1⟩:=Sg (src:=some (M.length,hv (HM.eG V))) (tt:=vM) (te:=aD sNe (aD Q6 (aU 0 "votes_of" cJ 3 [] (aq 2) (au (aq 0) (au (aq 1) aF))) (dw l_ 1 [] (au (Ep (au (aq 3) aF)) aF))) (mC (.int 0)))
  (ce:=[some (.int t),some (.ref a.bl),some (.int (w:Int))]) (akB N a s V t w) (hv (HM.eG V)) 0 (ys:=[]) (M:=N) ⟨by simp,Bx.of x0.h⟩ (λi ys M' _ _ p=>eF (keep p.x)) (λi d ys M' hd p=>by
   rw[Nat.zero_add]at p ⊢
   obtain⟨v,hv1,rfl⟩:∃v,(HM.eG V)[i]? = some v/\D.int (v:Int)=d:=by simpa[hv]using hd
   obtain⟨M2,e2,x2⟩:=IW p.x.h v t
   obtain⟨N2,hN2⟩:∃N2,N2=M2++[MO.lst [.int (w:Int)]]:=⟨_,rfl⟩
   have g2:Gr M2 N2:=by rw[hN2];exact Gr.app
   have e3:l_ [.ref M2.length] N2= .ok (.int ((2 ^ w:Nat):Int)) N2:=Nv (by rw[hN2];exact bB) hw
   have b:=Xc (s.Bc v t) w
   refine⟨true,M',rfl,.inr ⟨rfl,.bl ((s.Bc v t).testBit w),N2,?_,?_,p.x.trans (x2.trans (Bx.gr x2.h g2))⟩⟩
   ·simp[p.x.h.mj (m:= "votes_of") rfl,e2,<-hN2,e3]
    simpa using b
   ·rw[p.y,List.take_succ,hv1]
    simp)
 rw[Nat.zero_add]at hy
 have hy':ys=((HM.eG V).map λv=>(s.Bc v t).testBit w).map D.bl:=by
  rw[hy,List.take_of_length_le (by simp[hv])]
  simp
 have x1':Bx M a s M1:=x0.trans x1
 obtain⟨N1,hN1⟩:∃N1,N1=M1++[MO.lst ys]:=⟨_,rfl⟩
 rw[<-hN1]at e1
 have g1:Gr M1 N1:=by rw[hN1];exact Gr.app
 have al:Xw [.ref M1.length] N1= .ok (.bl (s.qT V t w)) N1:=by
  have q:N1[M1.length]? = some (.lst (((HM.eG V).map λv=>(s.Bc v t).testBit w).map D.bl)):=by rw[hN1,hy'];exact bB
  rw[aag q]
  simp[BO.qT,List.all_map]
 refine⟨N1,?_,x1'.trans (Bx.gr x1'.h g1)⟩
 simp only[jQ,jX]
 simp[e0,j7 hl,Ar,e1,al]
theorem acF(h:bA M a s){V p q:Nat}(hp:p<2 ^ 60)(hq:q<2 ^ 60):∃M',wZ [.ref a.rl,.tup [.int (p:Int),.int (q:Int)],.int (V:Int)] M= .ok (.bl (Aq V p (!s.r4)&&(decide (q=0)||Aq V q (!s.r4)))) M'/\Bx M a s M':=by
 obtain⟨M1,e1,g1⟩:=ab4 (M:=M) V p q (!s.r4) hp hq
 refine⟨M1,?_,Bx.gr h g1⟩
 simp only[wZ,xU]
 simp[h.f4,e1]
def BO.won(s:BO)(V p q:Nat):Bool:=Aq V p (!s.r4)&&(decide (q=0)||Aq V q (!s.r4))
def BO.jo(s:BO)(h:Nat)(t:Int)(V:Nat)(e:Int×Nat)(p q:Nat):Bool:=
 if s.term h≠t\/s.head t=some h then false else if s.ask h t≠some e then false else s.qT V t h&&s.won V p q
theorem Rx(h:bA M a s){k:Nat}(hk:k<60)(t:Int){V p q:Nat}(hV:V<2 ^ 60)(hp:p<2 ^ 60)(hq:q<2 ^ 60)(e:Int×Nat):
  ∃M',cu [.ref a.bl,.int (k:Int),.int t,.int (V:Int),eD e,.tup [.int (p:Int),.int (q:Int)]] M= .ok (.bl (s.jo k t V e p q)) M'/\Bx M a s M':=by
 have e0:=Bg h k
 have m0:=h.mj (m:= "term_of") rfl
 have m1:=h.mj (m:= "chair_of") rfl
 have m2:=h.mj (m:= "asked_with") rfl
 have e1:=Io h t
 have q1:=adO (M:=M) (o:=s.head t) (k:=k)
 by_cases c0:s.term k=t
 ·by_cases c1:s.head t=some k
  ·refine⟨M,?_,Bx.of h⟩
   rw[c1]at q1
   simp only[cu,cz,cH,cG]
   simp[m0,m1,e0,c0,e1,c1,q1,BO.jo]
   simp at q1
   simp[q1]
  ·obtain⟨M1,e2,x1⟩:=SM h k t
   have q2:=agx (M:=M1) (o:=s.ask k t) (e:=e)
   rw[zag c1]at q1
   by_cases c2:s.ask k t=some e
   ·have q2':sNe (eD e) (eD e) M1= .ok (.bl false) M1:=by rw[wF (b:=true) (by rw[abC];simp)];rfl
    obtain⟨M2,e3,x2⟩:=Qp x1.h hV t hk
    have m3:=x1.h.mj (m:= "voted_all") rfl
    obtain⟨M3,e4,x3⟩:=acF x2.h (V:=V) hp hq
    have m4:=x2.h.amV (m:= "wins") rfl
    have fr:=x2.h.frb
    cases c3:s.qT V t k with
    | true=>
     rw[c3]at e3
     refine⟨M3,?_,x1.trans (x2.trans x3)⟩
     simp only[cu,cz,cH,cG]
     simp only[wI]
     simp[m0,m1,e0,c0,e1,q1,m2,e2,q2',m3,e3,fr,m4,e4,BO.jo,c1,c2,c3,BO.won]
    | false=>
     rw[c3]at e3
     refine⟨M2,?_,x1.trans x2⟩
     simp only[cu,cz,cH,cG]
     simp only[wI]
     simp[m0,m1,e0,c0,e1,q1,m2,e2,q2',m3,e3,BO.jo,c1,c2,c3]
   ·rw[zag c2]at q2
    refine⟨M1,?_,x1⟩
    simp only[cu,cz,cH,cG]
    simp only[wI]
    simp[m0,m1,e0,c0,e1,q1,m2,e2,q2,BO.jo,c1,c2]
 ·refine⟨M,?_,Bx.of h⟩
  simp only[cu,cz,cH,cG]
  simp[m0,e0,c0,BO.jo]
theorem ae1:(("chair" : Str)= "vote")=False:=eq_false (by decide)
theorem in_of:sIn (.str x) (.mJ [.str "vote",.str "chair",.str "told"]) M= .ok (.bl (decide ("vote" = x)||(decide ("chair" = x)||decide ("told" = x)))) M:=by
 refine(pA rfl).trans ?_
 simp only[T4,Qt,vp,Nj]
 simp[inV,eqV,Bool.beq_eq_decide_eq]
def pap(x:Str)(h:Nat)(t:Int)(y:Nat):D:= .tup [.str x,.int (h:Int),.int t,.int (y:Int)]
abbrev pV(h:Nat)(t:Int)(w:Nat):D:=pap "vote" h t w
abbrev pC(h:Nat)(t:Int)(V:Nat):D:=pap "chair" h t V
def OfH(x:Str):Prop:=x= "vote" \/ x= "chair"
section
variable{x:Str}{h y:Nat}{t:Int}
theorem abt(hx:OfH x):iz [pap x h t y] M= .ok (.bl true) M:=by
 have k:Nk x [("vote",4),("chair",4),("write",4),("beat",3),("told",5),("settle",4),("answer",6),("look",6),("seen",8)]= .int 4:=by rcases hx with rfl | rfl<;>rfl
 simp only[iz,lX,pap]
 simp[k]
theorem agT(hx:OfH x):sIn (.str x) (.mJ [.str "vote",.str "chair",.str "told"]) M= .ok (.bl true) M:=by
 rw[in_of]
 rcases hx with rfl | rfl<;>simp
theorem Zw(hx:OfH x):nG [pap x h t y] M= .ok (.int t) M:=by
 simp only[nG,vQ,t8,pap]
 simp[agT hx]
end
def BO.GR(s:BO)(t:Int)(r:Bool):Bool:=Ml s.br&&decide (1<=t)&&r
theorem Xd(h:bA M a s)(hx:OfH x)(hh:∃M',bO [.ref a.b,pap x k t y] M= .ok (.bl r) M'/\Bx M a s M'):∃M',cI [.ref a.b,pap x k t y] M= .ok (.bl (s.GR t r)) M'/\Bx M a s M':=by
 have f:=abt (M:=M) (h:=k) (t:=t) (y:=y) hx
 have tn:=Zw (M:=M) (h:=k) (t:=t) (y:=y) hx
 have i0:bf (pap x k t y) (.int 0) M= .ok (.str x) M:=oY
 cases c0:Ml s.br with
 | false=>
  refine⟨M,?_,Bx.of h⟩
  simp only[cI,fP,fG,fD]
  simp[h.fbr,c0,BO.GR]
 | true=>
  by_cases c1:t<1
  ·refine⟨M,?_,Bx.of h⟩
   have c1':¬(1<=t):=()
   simp only[cI,fP,fG,fD]
   simp[h.fbr,c0,f,tn,c1,c1',BO.GR]
  ·have c1':1<=t:=()
   obtain⟨M1,e1,x1⟩:=hh
   refine⟨M1,?_,x1⟩
   simp only[cI,fP,fG,fD]
   simp[h.fbr,c0,f,tn,c1,i0,agT hx,h.JH (m:= "allows_hand") rfl,e1,BO.GR,c1']
structure Few(s:BO):Prop where
 tm:s.tm.length<=900
 vt:s.vt.length<=900
 ak:s.ak.length<=900
 se:s.se.length<=900
 ln:s.ln.length<=60
def BO.cast(s:BO)(h:Nat)(t:Int)(w:Nat)(e:Int×Nat):BO:=
 {s with ak:=if w=h then gp s.ak (h,t) e else s.ak,vt:=gp s.vt (h,t) (s.Bc h t ||| 2 ^ w),tm:=gp s.tm h t}
theorem age(n w:Nat):Builtin.bitOr (n:Int) ((2:Int) ^ w)=((n ||| 2 ^ w:Nat):Int):=by
 have:=HM.W9 n (2 ^ w)
 rwa [show((2 ^ w:Nat):Int)=(2:Int) ^ w by simp]at this
theorem Q9(h:bA M a s)(hl:s.tm.length<=1000)(k:Nat)(t:Int):∃M',kh [.ref a.bl,.int (k:Int),.int t] M= .ok .non M'/\Bx M a {s with tm:=gp s.tm k t} M':=by
 have p:=Ra h.tm k t hl
 refine⟨_,?_,h.al2 (Ch.set rfl) (dU h.tm),Ch.one (Ch.set rfl) (m_ h.o 3 rfl)⟩
 simp only[kh,qb]
 simp[h.ftm,p]
theorem ad1(h:bA M a s)(hf:Few s)(k:Nat)(t:Int){w:Nat}(hw:w<60)(e:Int×Nat):∃M',rT [.ref a.bl,.int (k:Int),.int t,.int (w:Int),eD e] M= .ok .non M'/\Bx M a (s.cast k t w e) M':=by
 obtain⟨M1,e1,x1⟩:∃M1,jG [some (.ref a.bl),some (.int (k:Int)),some (.int t),some (.int (w:Int)),some (eD e)] M= .next [some (.ref a.bl),some (.int (k:Int)),some (.int t),some (.int (w:Int)),some (eD e)] M1/\Bx M a {s with ak:=if w=k then gp s.ak (k,t) e else s.ak} M1:=by
  by_cases c:w=k
  ·subst c
   have p:=VV h.ak (w,t) e (by have:=hf.ak;omega)
   refine⟨_,?_,by rw[if_pos rfl];exact h.aiC (Ch.set rfl) (.inl (by obtain⟨o,q⟩:=h.ak.some;exact dU q)),Ch.one (Ch.set rfl) (show Rg a a.ak from m_ h.o 5 rfl)⟩
   simp only[jG]
   simp[h.fak,p]
  ·have c':¬((w:Int)=(k:Int)):=()
   refine⟨M,?_,by rw[if_neg c];exact Bx.of h⟩
   simp only[jG]
   simp[c']
 obtain⟨M2,e2,x2⟩:=IW x1.h k t
 obtain⟨N,hN⟩:∃N,N=M2++[MO.lst [.int (w:Int)]]:=⟨_,rfl⟩
 have g:Gr M2 N:=by rw[hN];exact Gr.app
 have e3:l_ [.ref M2.length] N= .ok (.int ((2 ^ w:Nat):Int)) N:=Nv (by rw[hN];exact bB) hw
 have x3:=x1.trans (x2.trans (Bx.gr x2.h g))
 have p:=VV x3.h.vt (k,t) (s.Bc k t ||| 2 ^ w) (by have:=hf.vt;show s.vt.length<=1000;omega)
 have x4:Bx N a {s with ak:=if w=k then gp s.ak (k,t) e else s.ak,vt:=gp s.vt (k,t) (s.Bc k t ||| 2 ^ w)} (N.set a.vt (.dt (ge kP nD (gp s.vt (k,t) (s.Bc k t ||| 2 ^ w))))):=
  ⟨x3.h.aiv (Ch.set rfl) (.inl (by obtain⟨o,q⟩:=x3.h.vt.some;exact dU q)),Ch.one (Ch.set rfl) (m_ h.o 4 rfl)⟩
 obtain⟨M5,e5,x5⟩:=Q9 x4.h (by have:=hf.tm;show s.tm.length<=1000;omega) k t
 refine⟨M5,?_,x3.trans (x4.trans x5)⟩
 have o2:=age (s.Bc k t) w
 have e2':cJ [.ref a.bl,.int (k:Int),.int t] M1= .ok (.int ((s.Bc k t:Nat):Int)) M2:=e2
 have nn:D.int ((s.Bc k t ||| 2 ^ w:Nat):Int)=nD (s.Bc k t ||| 2 ^ w):=rfl
 simp only[rT,sY]
 simp only[wI,eU,eO,Vy,e1,QG]
 simp[x1.h.mj (m:= "votes_of") rfl,e2',<-hN,e3,o2,x3.h.fvt]
 rw[nn,p]
 simp[x4.h.mj (m:= "reach") rfl,e5]
theorem acs(h:bA M a s)(hl:s.se.length<=1000)(k:Nat)(t:Int):∃M',jR [.ref a.bl,.int (k:Int),.int t] M= .ok .non M'/\Bx M a {s with se:=gp s.se t k} M':=by
 have p:=L_ h.se t k hl
 refine⟨_,?_,h.al3 (Ch.set rfl) (dU h.se),Ch.one (Ch.set rfl) (m_ h.o 6 rfl)⟩
 simp only[jR,jY]
 have nn:D.int (k:Int)=nD k:=rfl
 simp[h.fse]
 rw[nn,p]
 simp
theorem abO(h:bA M a s)(hl:s.ln.length<=1000)(k:Nat)(t:Int):∃M',jq [.ref a.sd,.int (k:Int),.int t] M= .ok .non M'/\Bx M a {s with ln:=gp s.ln t (s.row k)} M':=by
 have p:=L_ h.ln t (s.row k) hl
 have e:=wJ h k
 refine⟨_,?_,h.aiy (Ch.set rfl) (dU h.ln),Ch.one (Ch.set rfl) (m_ h.o 9 rfl)⟩
 simp only[jq,jw]
 simp[h.pO (m:= "row_of") rfl,e,h.fln,p]
theorem aa9(h:bA M a s)(hm:s.mr=[])(t u:Int):mq [.ref a.sd,.int t,.int u] M= .ok (.bl true) M:=by
 have e:=WK h.mr t (.int 0)
 rw[hm]at e
 have e1:rJ [.ref a.sd,.int t] M= .ok (.int 0) M:=by
  simp only[rJ,sG]
  simp at e
  simp[h.fmk,xr h.mr,e]
 simp only[mq,mK]
 simp[h.pO (m:= "mark") rfl,e1]
def kys(l:List (Int×List En)):List D:=(PySem.W.sortI (l.map (·.1))).map D.int
theorem adA:gU ((ge kI esD l).map λp=>Ab p.1)=some (l.map (·.1)):=by
 have e:((ge kI esD l).map λp=>Ab p.1)=(l.map (·.1)).map D.int:=by
  unfold ge
  rw[List.map_map,List.map_map]
  rfl
 rw[e,wA]
theorem mem_keys(h:d∈kys l):∃t:Int,d= .int t/\(gv l t).isSome=true:=by
 obtain⟨t,ht,rfl⟩:=List.mem_map.mp h
 obtain⟨q,hq,rfl⟩:=List.mem_map.mp ((PySem.W.sortI_perm _).mem_iff.mp ht)
 refine⟨_,rfl,?_⟩
 rw[<-P_,List.any_eq_true]
 exact⟨q,hq,by simp⟩
structure akF(M0:Mem)(a:BA)(t:Int)(i:Nat)(e:Sl)(M:Mem):Prop where
 m:M0=M
 e:∃v,e=[some (.ref a.sd),some (.int t),v]
theorem aa4(h:bA M a s)(hm:s.mr=[])(hl:s.ln.length<=60)(t:Int):∃M',i_ [.ref a.sd,.int t] M= .ok .non M'/\Bx M a s M':=by
 have sd:oW [.ref a.ln] M= .ok (.ref M.length) (M++[.lst (kys s.ln)]):=GP h.ln adA (by rw[Ak];omega)
 obtain⟨N,hN⟩:∃N,N=M++[MO.lst (kys s.ln)]:=⟨_,rfl⟩
 rw[<-hN]at sd
 have g:Gr M N:=by rw[hN];exact Gr.app
 have x:=Bx.gr h g
 have hL:N[M.length]? = some (.lst (kys s.ln)):=by rw[hN];exact bB
 obtain⟨e',M1,lp,hm1,v,rfl⟩:=qR (src:=some (M.length,kys s.ln)) (g:=gN 2) (b:=gY) (akF N a t) (ds:=kys s.ln) (e:=[some (.ref a.sd),some (.int t),none]) (M:=N)
  ⟨rfl,_,rfl⟩ (λi e M' _ p=>by rw[<-p.m];exact eF hL) λi d e M' hd p=>by
   obtain⟨pm,v,rfl⟩:=p
   subst pm
   obtain⟨u,rfl,_⟩:=mem_keys (zaa hd)
   refine⟨_,rfl,?_⟩
   have k:=aa9 x.h hm
   simp only[gY,lU]
   simp[x.h.pO (m:= "is_kept") rfl,k]
   exact⟨rfl,_,rfl⟩
 subst hm1
 refine⟨N,?_,x⟩
 simp only[i_,jc,lW]
 simp[h.fln,sd,j7 hL,lp]
theorem abx(h:bA M a s)(hm:s.mr=[])(hl:s.ln.length<=60)(t:Int):∃M',ji [.ref a.b,.int t] M= .ok .non M'/\Bx M a s M':=by
 obtain⟨M1,e1,x1⟩:=aa4 h hm hl t
 refine⟨M1,?_,x1⟩
 simp only[ji,mR,qG]
 simp[h.Yq,h.pO (m:= "lost_behind") rfl,e1]
def BO.Z0(s:BO)(h:Nat)(t:Int):BO:=if(s.head t).isSome=true then{s with br:= .tup [.str "chairs",.int t]}else{s with se:=gp s.se t h,ln:=gp s.ln t (s.row h)}
theorem afN(h:bA M a s)(d:D):∃M',j6 [8] "breach" d (.ref a.b) M=some M'/\Bx M a {s with br:=d} M':=by
 refine⟨_,jf h.b (by simp) (by simp),?_⟩
 refine⟨h.u_b (Ch.set rfl) (dU h.b),Ch.one (Ch.set rfl) (m_ h.o 0 rfl)⟩
theorem T8(h:bA M a s):∃M',j6 [8] "count" (.int ((s.cnt:Int)+1)) (.ref a.b) M=some M'/\Bx M a {s with cnt:=s.cnt+1} M':=by
 refine⟨_,jf h.b (by simp) (by simp),?_⟩
 refine⟨h.u_b (Ch.set rfl) (dU h.b),Ch.one (Ch.set rfl) (m_ h.o 0 rfl)⟩
theorem Tq(h:bA M a s)(hf:Few s)(hm:s.mr=[])(hl:s.ln.length<60)(k:Nat)(t:Int):∃M',eE [.ref a.b,.int (k:Int),.int t] M= .ok .non M'/\Bx M a (s.Z0 k t) M':=by
 have e0:=Io h t
 cases c:s.head t with
 | some j=>
  rw[c]at e0
  obtain⟨M1,e1,x1⟩:=afN h (.tup [.str "chairs",.int t])
  refine⟨M1,?_,by simp only[BO.Z0,c];exact x1⟩
  simp only[Option.map_some,Option.getD_some,nD]at e0
  simp only[eE,eN,gf]
  simp[h.fbl,h.mj (m:= "chair_of") rfl,e0,e1]
 | none=>
  rw[c]at e0
  obtain⟨M1,e1,x1⟩:=acs h (by have:=hf.se;omega) k t
  obtain⟨M2,e2,x2⟩:=abO x1.h (by show s.ln.length<=1000;omega) k t
  obtain⟨M3,e3,x3⟩:=abx x2.h hm (by show(gp s.ln t _).length<=60;exact yY abn ()) t
  refine⟨M3,?_,by simp only[BO.Z0,c];exact x1.trans (x2.trans x3)⟩
  simp only[Option.map_none,Option.getD_none]at e0
  simp only[eE,eN,gf]
  simp[h.fbl,h.mj (m:= "chair_of") rfl,e0,h.mj (m:= "take_seat") rfl,e1,x1.h.Yq,x1.h.pO (m:= "begin_line") rfl,e2,x2.h.JH (m:= "find_lost") rfl,e3]
theorem Zz(h:bA M a s)(hx:OfH x)(ha:∃M',cI [.ref a.b,pap x k t y] M= .ok (.bl c) M'/\Bx M a s M')
  (hf:∀M2,bA M2 a {s with cnt:=s.cnt+1}->∃M',dg [.ref a.b,pap x k t y] M2= .ok .non M'/\Bx M2 a s3 M'):
  (c=true/\∃M',aV [.ref a.b,pap x k t y] M= .ok .non M'/\Bx M a s3 M')\/(c=false/\∃M',aV [.ref a.b,pap x k t y] M= .exc 2 (.int (s.cnt:Int)) M'/\Bx M a s M'):=by
 obtain⟨M1,e1,x1⟩:=ha
 have m1:=h.JH (m:= "allows") rfl
 have i0:∀M,bf (pap x k t y) (.int 0) M= .ok (.str x) M:=λM=>oY
 cases c with
 | false=>
  refine .inr ⟨rfl,M1,?_,x1⟩
  simp only[aV,iT,h_,g_]
  simp[m1,e1,x1.h.fcn,one]
 | true=>
  obtain⟨M2,e2,x2⟩:=T8 x1.h
  obtain⟨M3,e4,x3⟩:=hf M2 x2.h
  refine .inl ⟨rfl,M3,?_,x1.trans (x2.trans x3)⟩
  simp only[aV,iT,h_,g_]
  simp[m1,e1,x1.h.fcn,e2,i0,agT hx,x2.h.JH (m:= "follow_hand") rfl,e4]
end
theorem abQ{α:Type}{xs:List α}{k:Nat}(h:xs.length=k+1):Le xs (-1)=xs[k]? := by
 unfold Le ixN
 rw[if_neg (by decide),if_pos (),h]
 show xs[(-1+((k+1:Nat):Int)).toNat]? = _
 congr 1
 omega
section
variable{M:Mem}
def nO(es:List En):Int×Nat:=match es.getLast? with
 | none=>(0,0)
 | some e=>(e.1,es.length)
theorem akc{es:List En}{n:Nat}(h:es[n]? = some e):(es.map mW)[n]? = some (mW e):=by simp[h]
theorem ai5{es:List En}{n:Nat}(h:es[n]? = some e):bf (esD es) (.int (n:Int)) M= .ok (mW e) M:=
 wG () (by rw[zam];exact akc h)
theorem amt(hl:es.length=k+1)(h:es[k]? = some e):bf (esD es) (.int (-1)) M= .ok (mW e) M:=by
 have q:=abQ (xs:=es.map mW) (k:=k) (by simpa using hl)
 rw[akc h]at q
 exact jg (jg (by simp only[esD,KN,wD,q]))
theorem Pa:zY [esD es] M= .ok (eD (nO es)) M:=by
 cases z:es.length with
 | zero=>
  have:=List.length_eq_zero_iff.mp z
  subst this
  simp only[zY,Fj,Dc,esD]
  simp[eD,nO]
 | succ k=>
  have hk:es[k]? = some (es[k]'()):=zad ()
  have q:=amt (M:=M) z hk
  have g:nO es=((es[k]'()).1,es.length):=by
   simp only[nO,List.getLast?_eq_getElem?,z,Nat.add_sub_cancel,hk]
  have ln:jj [esD es] M= .ok (.int ((k+1:Nat):Int)) M:=by simp[esD,z]
  have n0:¬(((k+1:Nat):Int)=0):=()
  simp only[zY,Fj,Dc]
  simp only[Int.natCast_add,Int.cast_ofNat_Int]at ln n0
  simp[ln,n0,q,g,eD,mW,z]
def Wh.isR:Wh->Bool
 | .rol _ _=>true
 | _=>false
def YX(es:List En):Nat->Nat
 | 0=>0
 | n+1=>match es[n]? with
  | some e=>if e.2.isR=true then n+1 else YX es n
  | none=>0
def Qg(es:List En):Nat:=YX es es.length
theorem aiN:(("start" : Str)= "roll")=False:=eq_false (by decide)
theorem akz:(("ask" : Str)= "roll")=False:=eq_false (by decide)
theorem aej(w:Wh):∃d,bf w.d (.int 0) M= .ok d M/\sNe d (.str "roll") M= .ok (.bl (!w.isR)) M:=by
 cases w with
 | st=>exact⟨.str "start",oY,by simp[Wh.isR,aiN]⟩
 | ask a b c=>exact⟨.str "ask",oY,by simp[Wh.isR,akz]⟩
 | rol a b=>exact⟨.str "roll",oY,by simp[Wh.isR]⟩
theorem aey:∀n,n<=es.length->Ng gK jd (n+1) [some (esD es),some (.int (n:Int))] M= .next [some (esD es),some (.int (YX es n:Nat))] M
 | 0,_=>by
  unfold Ng
  simp[gK,YX]
 | n+1,h=>by
  have hn:es[n]? = some (es[n]'()):=zad ()
  have q:=ai5 (M:=M) hn
  obtain⟨d,e1,e2⟩:=aej (M:=M) (es[n]'()).2
  have s1:((n+1:Nat):Int) - 1=(n:Int):=()
  have p0:(0:Int)<((n+1:Nat):Int):=()
  have ih:=aey (es:=es) n ()
  simp only[gK,jd]at ih
  unfold Ng
  simp only[gK,YX,hn]
  cases z:(es[n]'()).2.isR with
  | true=>
   rw[z]at e2
   simp only[Wf,JK,Im,PN]
   simp[p0,s1,q,mW,e1,e2]
  | false=>
   rw[z]at e2
   simp only[Wf,JK,Im,PN]
   simp[p0,s1,q,mW,e1,e2,jd,ih]
theorem ajc:pP [esD es] M= .ok (.int (Qg es:Nat)) M:=by
 have w:=Xq (aey (M:=M) (es:=es) es.length (zac _)) (λz=>nomatch z)
 have ln:jj [esD es] M= .ok (.int (es.length:Int)) M:=by simp[esD]
 simp only[pP,pY,tK]
 simp[ln,w,Qg]
def KQ(es:List En)(S:Nat):Nat×Nat:=match Qg es with
 | 0=>(S,0)
 | n+1=>match es[n]? with
  | some (_,.rol a b)=>(a,b)
  | _=>(0,0)
theorem aal:∀{n m:Nat},YX es n=m+1->∃t a b,es[m]? = some (t,.rol a b)
 | 0,_,h=>nomatch h
 | n+1,m,h=>by
  unfold YX at h
  cases z:es[n]? with
  | none=>rw[z]at h;cases h
  | some e=>
   rw[z]at h
   dsimp only at h
   split at h
   ·rename_i q
    obtain rfl:n=m:=()
    obtain⟨t,w⟩:=e
    cases w with
    | rol a b=>exact⟨t,a,b,z⟩
    | st=>cases q
    | ask _ _ _=>cases q
   ·exact aal h
theorem acH{es:List En}{S:Nat}:Bm [esD es,.tup [.int (S:Int),.int 0]] M= .ok (.tup [.int ((KQ es S).1:Int),.int ((KQ es S).2:Int)]) M:=by
 have e:=ajc (M:=M) (es:=es)
 cases z:Qg es with
 | zero=>
  rw[z]at e
  simp only[Bm,Bt,Af]
  simp at e
  simp[e,KQ,z]
 | succ n=>
  rw[z]at e
  obtain⟨t,a,b,hn⟩:=aal z
  have q:=ai5 (M:=M) hn
  have n0:¬(((n+1:Nat):Int)=0):=()
  have s1:((n+1:Nat):Int) - 1=(n:Int):=()
  simp only[Int.natCast_add,Int.cast_ofNat_Int]at e n0 s1
  simp only[Bm,Bt,Af]
  simp[e,n0,s1,q,mW,Wh.d,KQ,z,hn]
end
section
variable{M:Mem}{t:Int}{x:D}
def stE(es:List En)(t:Int):Bool:=es.any λe=>decide (e.1=t)
theorem aer:∀(es:List En) (i:Int) (v2 v3:Option D),(stE es t=true/\∃k:Int,cC none (gT 2 (dG (gN 2) (dG (gN 3) Al))) fJ (j_ i (es.map mW)) [some x,some (.int t),v2,v3] M= .ret (.int k) M)
  \/ (stE es t=false/\∃e,cC none (gT 2 (dG (gN 2) (dG (gN 3) Al))) fJ (j_ i (es.map mW)) [some x,some (.int t),v2,v3] M= .next e M)
 | [],i,v2,v3=> .inr ⟨rfl,_,by simp only[List.map_nil,j_];exact if_pos (show ig none M from trivial)⟩
 | e::es,i,v2,v3=>by
  have sk:ig none M:=trivial
  simp only[List.map_cons,j_]
  rw[cC,if_pos sk]
  by_cases z:e.1=t
  ·refine .inl ⟨by simp[stE,z],i,?_⟩
   simp[fJ,kW,mW,z]
  ·have ih:=aer es (i+1) (some (.int i)) (some (mW e))
   have q:stE (e::es) t=stE es t:=by simp[stE,z]
   rw[q]
   simp only[fJ,kW]at ih ⊢
   simp only[mW]at ih ⊢
   simpa[z]using ih
theorem aiO:∃d,jC [esD es,.int t] M= .ok d M/\Ml d=(!stE es t):=by
 rcases aer (M:=M) (t:=t) (x:=esD es) es 1 none none with⟨h,k,e⟩ | ⟨h,v,e⟩
 ·refine⟨.int k,?_,by rw[h];rfl⟩
  simp only[jC,jK,kY,esD]at e ⊢
  simp[e]
 ·refine⟨.non,?_,by rw[h];rfl⟩
  simp only[jC,jK,kY,esD]at e ⊢
  simp[e]
end
section
variable{M:Mem}{xs ys:List En}
def Fp(e:En):Prop:=∃t,∀M,fH M 11 (mW e)=some t
theorem Bl{es:List En}(h:∀e∈es,Fp e):∃ts,ts.length=es.length/\∀M:Mem,rG (fH M 11) (es.map mW)=some ts:=by
 induction es with
 | nil=>exact⟨[],rfl,λM=>rfl⟩
 | cons d r ih=>
  obtain⟨ts,l,h1⟩:=ih λx hx=>h x (yT _ hx)
  obtain⟨t,h2⟩:=h d xB
  exact⟨t::ts,by simp[l],λM=>by simp only[List.map_cons,rG,h2 M,h1 M]⟩
theorem n_(h:∀M:Mem,rG (fH M 11) (es.map mW)=some ts)(M:Mem):fH M 12 (esD es)=some (.tup ts):=by
 show(rG (fH M 11) (es.map mW)).map Dt.tup=_
 rw[h M]
 rfl
theorem Vr{es:List En}{ts:List Dt}(h:∀M:Mem,rG (fH M 11) (es.map mW)=some ts){l:Nat}(hl:M[l]? = some (.lst (es.map mW))):fH M 12 (.ref l)=some (.lst ts):=by
 show(match m6 M l with | some ds=>(rG (fH M 11) ds).map Dt.lst | none=>none)=_
 rw[eF hl]
 show(rG (fH M 11) (es.map mW)).map Dt.lst=_
 rw[h M]
 rfl
def Y4(xs ys:List En):Bool:=(Qi [] (esD xs) (esD ys)).getD false
theorem aeY(hx:∀e∈xs,Fp e)(hy:∀e∈ys,Fp e):Qi M (esD xs) (esD ys)=some (Y4 xs ys):=by
 obtain⟨ts,l1,e1⟩:=Bl hx
 obtain⟨us,l2,e2⟩:=Bl hy
 unfold Y4
 rw[uK (n_ e1 M) (n_ e2 M),uK (n_ e1 []) (n_ e2 [])]
 rfl
theorem aby(h1:M[x]? = some (.lst (xs.map mW)))(h2:M[y]? = some (.lst (ys.map mW)))(hx:∀e∈xs,Fp e)(hy:∀e∈ys,Fp e):Qi M (.ref x) (.ref y)=some (Y4 xs ys):=by
 obtain⟨ts,l1,e1⟩:=Bl hx
 obtain⟨us,l2,e2⟩:=Bl hy
 rw[<-aeY (M:=[]) hx hy,uK (Vr e1 h1) (Vr e2 h2),uK (n_ e1 []) (n_ e2 [])]
 unfold jl
 rfl
theorem SQ(hx:∀e∈xs,Fp e):Y4 xs xs=true:=by
 obtain⟨ts,l1,e1⟩:=Bl hx
 unfold Y4
 rw[uK (n_ e1 []) (n_ e1 []),E_]
 rfl
theorem aec(hy:∀e∈ys,Fp e)(h:Y4 [] ys=true):ys=[]:=by
 obtain⟨us,l2,e2⟩:=Bl hy
 unfold Y4 at h
 rw[uK (n_ (es:=[]) (ts:=[]) (λ_=>rfl) []) (n_ e2 [])]at h
 cases us with
 | nil=>exact List.length_eq_zero_iff.mp l2.symm
 | cons u us=>unfold jl at h;simp[yx]at h
theorem aht{α:Type}(xs:List α)(p:Nat):cut xs none (some (p:Int))=xs.take p:=by
 unfold cut
 rw[HT.aaa,HT.acA]
 by_cases z:p<=xs.length
 ·simp[Nat.min_eq_left z]
 ·rw[Nat.min_eq_right ()]
  simp
  rw[List.take_of_length_le ()]
theorem Lp(hx:∀e∈xs,Fp e)(p:Nat):∀e∈xs.take p,Fp e:=λe he=>hx e (List.mem_of_mem_take he)
theorem Gq(p:Nat):cut (xs.map mW) none (some (p:Int))=(xs.take p).map mW:=by rw[aht,List.map_take]
theorem abT{p:Nat}(hx:∀e∈xs,Fp e)(hy:∀e∈ys,Fp e):tZ [esD xs,esD ys,.int (p:Int)] M= .ok (.bl (Y4 (xs.take p) (ys.take p))) M:=by
 have e:=FQ (aeY (M:=M) (Lp hx p) (Lp hy p))
 simp only[tZ,Ay,esD]at e ⊢
 simp[Gq]at e ⊢
 simp[e]
def JW(line row:List En)(p:Nat):List En:=if Y4 (row.take p) (line.take p)=true then row else line.take p
theorem agI{line row:List En}{p:Nat}(hx:∀e∈line,Fp e)(hy:∀e∈row,Fp e):Em [esD line,esD row,.int (p:Int)] M= .ok (esD (JW line row p)) M:=by
 have e:=abT (M:=M) (p:=p) hy hx
 have c0:cut (row.map mW) none none=row.map mW:=W3 ⟨rfl,rfl⟩
 unfold JW
 cases z:Y4 (row.take p) (line.take p)
 ·rw[z]at e
  simp only[Em,Fi,C_]
  simp[e]
  simp[esD,Gq]
 ·rw[z]at e
  simp only[Em,Fi,C_]
  simp[e]
  simp[esD,c0]
end
section
variable{M M':Mem}{a:BA}{s s':BO}
theorem Es(h:bA M a s)(t:Int):cW [.ref a.sd,.int t] M= .ok (esD (s.line t)) M:=by
 have e:=WK h.ln t (.tup [])
 rw[WM]at e
 simp only[cW,sH]
 simp[h.fln,xr h.ln,e,BO.line]
theorem aak(h:bA M a s)(k:Nat):kO [.ref a.sd,.int (k:Int)] M= .ok (.tup [.int ((KQ (s.row k) s.S).1:Int),.int ((KQ (s.row k) s.S).2:Int)]) M:=by
 simp only[kO,lu]
 simp[h.pO (m:= "row_of") rfl,wJ h k,h.ffr,acH]
def Y5:Wh->Prop
 | .ask _ _ o=>∃t,∀(k:Nat) (M:Mem),fH M (k+2) o=some t
 | .st=>True
 | _=>False
def Wh.isS:Wh->Bool
 | .st=>true
 | _=>false
theorem Y5.dt(h:Y5 w):∃ts,∀(k:Nat) (M:Mem),fH M (k+4) w.d=some (.tup ts):=by
 cases w with
 | st=>exact⟨[.str "start"],λk M=>rfl⟩
 | rol p q=>cases h
 | ask p q o=>
  obtain⟨t,h⟩:=h
  refine⟨[.str "ask",.int p,.int q,t],λk M=> ?_⟩
  have e:=h (k+1) M
  show(rG (fH M (k+3)) [.str "ask",.int p,.int q,o]).map Dt.tup=_
  have e':fH M (k+3) o=some t:=e
  have e1:fH M (k+3) (.str "ask")=some (.str "ask"):=rfl
  have e2:∀i:Int,fH M (k+3) (.int i)=some (.int i):=λ_=>rfl
  simp only[rG,e',e1,e2]
  rfl
theorem Y5.en(h:Y5 w)(t:Int):Fp (t,w):=by
 obtain⟨ts,h⟩:=h.dt
 refine⟨.tup [.int t,.tup ts],λM=> ?_⟩
 show(rG (fH M 10) [.int t,w.d]).map Dt.tup=_
 have e:=h 6 M
 have e2:fH M 10 (.int t)=some (.int t):=rfl
 simp only[rG,e,e2]
 rfl
theorem akk(h:Y5 w):sEq w.d (.tup [.str "start"]) M= .ok (.bl w.isS) M:=by
 cases w with
 | st=>exact FQ rfl
 | rol p q=>cases h
 | ask p q o=>
  obtain⟨t,h⟩:=h
  have e1:fH M 12 (Wh.ask p q o).d=some (.tup [.str "ask",.int p,.int q,t]):=by
   have e:=h 9 M
   show(rG (fH M 11) [.str "ask",.int p,.int q,o]).map Dt.tup=_
   have e':fH M 11 o=some t:=e
   have e1:fH M 11 (.str "ask")=some (.str "ask"):=rfl
   have e2:∀i:Int,fH M 11 (.int i)=some (.int i):=λ_=>rfl
   simp only[rG,e',e1,e2]
   rfl
  refine FQ ((uK e1 (b:= .tup [.str "start"]) rfl).trans ?_)
  congr 1
theorem Y5.ne(h:Y5 w):w.isR=false:=by
 cases w with
 | rol p q=>cases h
 | st=>rfl
 | ask _ _ _=>rfl
theorem Yl{α:Type}{g:α->D}{n:Nat}{l:List (Int×α)}(h:M[n]? = some (.dk (ge kI g l))){k:Int}{x:α}(hx:gv l k=some x):bf (.ref n) (.int k) M= .ok (g x) M:=by
 have e:yz M n (.int k)=some (some (g x),M):=by rw[Gp h];show some (pM (ge kI g l) (kI k),M)=_;rw[Aj Gh,hx];rfl
 refine jg ((pA ?_).trans ?_)
 ·simp only[KN,wD,m6,h]
 ·simp only[aab,e]
theorem Tz(h:bA M a s)(hd:s.head t=some k)(ht:s.term k=t):nJ [.ref a.bl,.int t] M= .ok (.bl true) M:=by
 have i:=anb h.se t
 rw[show gv s.se t=some k from hd]at i
 have x:=Yl (M:=M) h.se hd
 have q:=Bg h k
 simp only[nD]at x
 simp only[nJ,nU]
 simp at i
 simp[h.fse,i,x,h.mj (m:= "term_of") rfl,q,ht]
theorem X_(h:bA M a s)(hw:Y5 w)(hs:(!stE (s.line t) t)=w.isS):jN [.ref a.sd,.int t,.int ((s.line t).length+1),w.d] M= .ok (.bl true) M:=by
 have e0:=Es h t
 have m0:=h.pO (m:= "line") rfl
 have ln:jj [esD (s.line t)] M= .ok (.int ((s.line t).length:Int)) M:=by simp[esD]
 obtain⟨d,e1,e2⟩:=aiO (M:=M) (t:=t) (es:=s.line t)
 have e3:=akk (M:=M) hw
 obtain⟨d2,e4,e5⟩:=aej (M:=M) w
 rw[hs]at e2
 rw[hw.ne]at e5
 simp only[jN,jU,m8,m7]
 simp[m0,e0,ln,e1,e2,e3,e4,e5]
theorem afr(h:n<=1000):n+1<=sizeLine:=yY (Nat.succ_le_succ h) (by decide)
theorem abU(h:es.length<=1000):Js (esD es) (.tup [mW e]) M= .ok (esD (es++[e])) M:=by
 have q:=aah (M:=M) (xs:=es.map mW) (ys:=[mW e]) (by simpa using afr h)
 simpa[esD]using q
theorem Ze(h:bA M a s)(hl:s.ln.length<=1000)(hr:s.ro.length<=1000)(h1:(s.line t).length<=1000)(h2:(s.row k).length<=1000):
  ∃M',pQ [.ref a.sd,.int (k:Int),.int t,w.d] M= .ok .non M'/\Bx M a {s with ln:=gp s.ln t (s.line t++[(t,w)]),ro:=gp s.ro k (s.row k++[(t,w)])} M':=by
 have e0:=Es h t
 have a1:∀M:Mem,Js (esD (s.line t)) (.tup [.tup [.int t,w.d]]) M= .ok (esD (s.line t++[(t,w)])) M:=λM=>abU (e:=(t,w)) h1
 have a2:∀M:Mem,Js (esD (s.row k)) (.tup [.tup [.int t,w.d]]) M= .ok (esD (s.row k++[(t,w)])) M:=λM=>abU (e:=(t,w)) h2
 have p1:=L_ h.ln t (s.line t++[(t,w)]) hl
 have b1:=h.aiy (Ch.set rfl) (dU (o:= .dk (ge kI esD (gp s.ln t (s.line t++[(t,w)])))) h.ln)
 have c1:Ch (Rg a) M (M.set a.ln (.dk (ge kI esD (gp s.ln t (s.line t++[(t,w)]))))):=Ch.set (show Rg a a.ln from m_ h.o 9 rfl)
 obtain⟨M1,hM1⟩:∃M1,M1=M.set a.ln (.dk (ge kI esD (gp s.ln t (s.line t++[(t,w)])))):=⟨_,rfl⟩
 rw[<-hM1]at p1 b1 c1
 have e1:bK [.ref a.sd,.int (k:Int)] M1= .ok (esD (s.row k)) M1:=wJ b1 k
 have p2:=Ra b1.ro k (s.row k++[(t,w)]) hr
 have b2:=b1.aiw (Ch.set rfl) (dU (o:= .dk (ge kN esD (gp s.ro k (s.row k++[(t,w)])))) b1.ro)
 have c2:Ch (Rg a) M1 (M1.set a.ro (.dk (ge kN esD (gp s.ro k (s.row k++[(t,w)]))))):=Ch.set (show Rg a a.ro from m_ h.o 8 rfl)
 refine⟨_,?_,b2,c1.trans c2⟩
 simp only[pQ,pZ]
 simp[h.fln,h.pO (m:= "line") rfl,e0,a1,p1,b1.fro,b1.pO (m:= "row_of") rfl,e1,a2,p2]
end
section
variable{M M':Mem}{e e':Sl}{s t:MS}{c:MT}{m:ME}{d:D}{R:gh}
theorem d8(h:s e M= .next e' M')(k:t e' M'=R):aO s t e M=R:=by rw[Vy,h,QG];exact k
theorem anB(h:c e M= .ok true M')(k:s e M'=R):nq c s t e M=R:=by rw[aac,h,aku];exact k
theorem J7(h:m e M= .ok d M'):bx m e M= .ret d M':=by rw[acw,h,Ge]
theorem RV(h:s (slots n ds) M= .ret d M'):aN n s ds M= .ok d M':=by rw[wI,h,aao]
end
section
variable{M M':Mem}{a:BA}{s s':BO}
def BO.beat(s:BO)(t:Int):Nat:=(gv s.bt t).getD 0
theorem W_(h:bA M a s)(t:Int):jh [.ref a.rp,.int t] M= .ok (.int (s.beat t:Nat)) M:=by
 have e:=WK h.bt t (.int 0)
 rw[O3]at e
 simp only[jh,mO]
 simp[h.fbt,xr h.bt,e,BO.beat]
def BO.plc(s:BO)(k:Nat)(t:Int):Nat:=(gv s.pl (k,t)).getD 0
theorem afW(h:bA M a s)(k:Nat)(t:Int):∃M',gB [.ref a.sd,.int (k:Int),.int t] M= .ok (.int (s.plc k t:Nat)) M'/\Bx M a s M':=by
 obtain⟨M',e,tt,c⟩:=WD h.pl (k,t) (.int 0)
 rw[O3]at e
 refine⟨M',?_,h.aix c tt,c.one (show Rg a a.pl from m_ h.o 11 rfl)⟩
 simp only[gB,ju]
 simp[h.fpl,h.pl.dic,e,BO.plc]
def BO.hrd(s:BO)(k:Nat)(t:Int):Nat:=(gv s.hd (k,t)).getD 0
theorem agX(h:bA M a s)(k:Nat)(t:Int):∃M',jP [.ref a.rp,.int (k:Int),.int t] M= .ok (.int (s.hrd k t:Nat)) M'/\Bx M a s M':=by
 obtain⟨M',e,tt,c⟩:=WD h.hd (k,t) (.int 0)
 rw[O3]at e
 refine⟨M',?_,h.aiz c tt,c.one (show Rg a a.hd from m_ h.o 14 rfl)⟩
 simp only[jP,jW]
 simp[h.fhd,h.hd.dic,e,BO.hrd]
theorem aeH{p q:Nat}:D.int (if(p:Int)<(q:Int)then(q:Int)else(p:Int))=nD (max p q):=by
 unfold nD
 congr 1
 split<;>omega
theorem adI(h:bA M a s)(hl:s.hd.length<=1000)(k:Nat)(t:Int)(b:Nat):∃M',rN [.ref a.rp,.int (k:Int),.int t,.int (b:Int)] M= .ok .non M'/\Bx M a {s with hd:=gp s.hd (k,t) (max b (s.hrd k t))} M':=by
 obtain⟨M1,e1,x1⟩:=agX h k t
 have p:=VV x1.h.hd (k,t) (max b (s.hrd k t)) hl
 refine⟨_,?_,x1.h.aiz (Ch.set rfl) (.inl (by obtain⟨o,q⟩:=x1.h.hd.some;exact dU q)),x1.c.trans (Ch.set (show Rg a a.hd from m_ h.o 14 rfl))⟩
 have nn:=aeH (p:=b) (q:=s.hrd k t)
 simp only[rN,sO]
 simp[h.Uk (m:= "beat_told") rfl,e1,x1.h.fhd]
 simp at nn
 rw[nn,p]
 simp
theorem ab_(h:bA M a s)(hl:s.ro.length<=1000)(hp:s.pl.length<=1000){k:Nat}{t:Int}{p:Nat}(h1:∀e∈s.line t,Fp e)(h2:∀e∈s.row k,Fp e):
  ∃M',rH [.ref a.sd,.int (k:Int),.int t,.int (p:Int)] M= .ok .non M'/\Bx M a {s with ro:=gp s.ro k (JW (s.line t) (s.row k) p),pl:=gp s.pl (k,t) (max p (s.plc k t))} M':=by
 have e0:=agI (M:=M) (p:=p) h1 h2
 obtain⟨R,hR⟩:∃R,R=JW (s.line t) (s.row k) p:=⟨_,rfl⟩
 rw[<-hR]at e0 ⊢
 have p1:=Ra h.ro k R hl
 have b1:=h.aiw (Ch.set rfl) (dU (o:= .dk (ge kN esD (gp s.ro k R))) h.ro)
 have c1:Ch (Rg a) M (M.set a.ro (.dk (ge kN esD (gp s.ro k R)))):=Ch.set (show Rg a a.ro from m_ h.o 8 rfl)
 obtain⟨M1,hM1⟩:∃M1,M1=M.set a.ro (.dk (ge kN esD (gp s.ro k R))):=⟨_,rfl⟩
 rw[<-hM1]at p1 b1 c1
 obtain⟨M2,e2,x2⟩:=afW b1 k t
 have e2':gB [.ref a.sd,.int (k:Int),.int t] M1= .ok (.int (s.plc k t:Nat)) M2:=e2
 have q:=VV x2.h.pl (k,t) (max p (s.plc k t)) hp
 refine⟨_,?_,x2.h.aix (Ch.set rfl) (.inl (by obtain⟨o,w⟩:=x2.h.pl.some;exact dU w)),c1.trans (x2.c.trans (Ch.set (show Rg a a.pl from m_ h.o 11 rfl)))⟩
 have nn:=aeH (p:=p) (q:=s.plc k t)
 simp only[rH,sE]
 simp[h.fro,h.pO (m:= "line") rfl,Es h t,h.pO (m:= "row_of") rfl,wJ h k,e0,p1,b1.pO (m:= "place_told") rfl,e2',x2.h.fpl]
 simp at nn
 rw[nn,q]
 simp
theorem aek:(("told" : Str)= "vote")=False:=eq_false (by decide)
theorem aem:(("told" : Str)= "chair")=False:=eq_false (by decide)
def pT(k:Nat)(t p b:Int):D:= .tup [.str "told",.int (k:Int),.int t,.int p,.int b]
def BO.inT(s:BO)(t p b:Int):Bool:=(decide (0<=p)&&decide (p<=(s.line t).length))&&(decide (0<=b)&&decide (b<=s.beat t))
def BO.Ek(s:BO)(k:Nat)(t p b:Int):Bool:=match s.head t with
 | none=>false
 | some c=>if c=k\/t<s.term k then false else s.inT t p b
theorem agU(h:bA M a s)(t p b:Int)(h0:e[0]? = some (some (.ref a.b)))(h2:e[2]? = some (some (.int t)))(h3:e[3]? = some (some (.int p)))(h4:e[4]? = some (some (.int b))):
  bx (z7 (aU 7 "may_tell" iG 3 [] (bQ [8] (aq 0) "strides") (au (aq 2) (au (aq 3) aF))) (aU 5 "may_hear" iH 3 [] (bQ [8] (aq 0) "replies") (au (aq 2) (au (aq 4) aF)))) e M= .ret (.bl (s.inT t p b)) M:=by
 have ln:jj [esD (s.line t)] M= .ok (.int ((s.line t).length:Int)) M:=by simp[esD]
 have f1:iG [.ref a.sd,.int t,.int p] M= .ok (.bl (decide (0<=p)&&decide (p<=(s.line t).length))) M:=by
  simp only[iG,lE]
  by_cases z:0<=p
  ·simp[h.pO (m:= "line") rfl,Es h t,ln,z]
  ·simp[z]
 have f2:iH [.ref a.rp,.int t,.int b] M= .ok (.bl (decide (0<=b)&&decide (b<=s.beat t))) M:=by
  simp only[iH,lF]
  by_cases z:0<=b
  ·simp[h.Uk (m:= "beat_of") rfl,W_ h t,z]
  ·simp[z]
 obtain⟨A,hA⟩:∃A,A=(decide (0<=p)&&decide (p<=(s.line t).length)):=⟨_,rfl⟩
 obtain⟨B,hB⟩:∃B,B=(decide (0<=b)&&decide (b<=(s.beat t:Int))):=⟨_,rfl⟩
 rw[<-hA]at f1
 rw[<-hB]at f2
 unfold BO.inT
 rw[<-hA,<-hB]
 have v0:aq 0 e M= .ok (.ref a.b) M:=cO h0
 have v2:aq 2 e M= .ok (.int t) M:=cO h2
 have v3:aq 3 e M= .ok (.int p) M:=cO h3
 have v4:aq 4 e M= .ok (.int b) M:=cO h4
 cases A
 ·simp[v0,v2,v3,h.Yq,h.pO (m:= "may_tell") rfl,f1]
 ·simp[v0,v2,v3,v4,h.Yq,h.pO (m:= "may_tell") rfl,f1,h.frp,h.Uk (m:= "may_hear") rfl,f2]
theorem adm(h:bA M a s)(k:Nat)(t p b:Int):nH [.ref a.b,.int (k:Int),.int t,.int p,.int b] M= .ok (.bl (s.Ek k t p b)) M:=by
 have e0:=Io h t
 have e1:=Bg h k
 simp only[nH,nR]
 unfold BO.Ek
 cases z:s.head t with
 | none=>
  rw[z]at e0
  simp only[Option.map_none,Option.getD_none]at e0
  simp[fM,h.fbl,h.mj (m:= "chair_of") rfl,e0]
 | some c=>
  rw[z]at e0
  simp only[Option.map_some,Option.getD_some,nD]at e0
  refine RV ?_
  simp only[eU,fK,eO]
  have a1:cD (aU 0 "chair_of" bW 2 [] (bQ [8] (aq 0) "ballots") (au (aq 2) aF)) (gN 5) [some (.ref a.b),some (.int (k:Int)),some (.int t),some (.int p),some (.int b),none] M= .next [some (.ref a.b),some (.int (k:Int)),some (.int t),some (.int p),some (.int b),some (.int (c:Int))] M:=by
   simp[h.fbl,h.mj (m:= "chair_of") rfl,e0]
  refine d8 a1 ?_
  by_cases z1:c=k
  ·rw[if_pos (.inl z1)]
   subst z1
   simp[fM]
  ·have z1':¬((c:Int)=(k:Int)):=()
   by_cases z2:t<s.term k
   ·rw[if_pos (.inr z2)]
    simp[fM,z1,h.fbl,h.mj (m:= "term_of") rfl,e1,z2]
   ·rw[if_neg ()]
    refine d8 (e':=[some (.ref a.b),some (.int (k:Int)),some (.int t),some (.int p),some (.int b),some (.int (c:Int))]) (M':=M) ?_ (agU h t p b rfl rfl rfl rfl)
    simp[fM,z1',h.fbl,h.mj (m:= "term_of") rfl,e1,z2]
theorem abr:iz [pT k t p b] M= .ok (.bl true) M:=by
 have q:Nk "told" [("vote",4),("chair",4),("write",4),("beat",3),("told",5),("settle",4),("answer",6),("look",6),("seen",8)]= .int 5:=rfl
 simp only[iz,lX,pT]
 simp[q]
theorem UG:sIn (.str "told") (.mJ [.str "vote",.str "chair",.str "told"]) M= .ok (.bl true) M:=by
 refine(pA rfl).trans ?_
 simp only[T4,Qt,vp,Nj]
 simp[inV,eqV,Bool.beq_eq_decide_eq]
theorem aea(h:bA M a s)(hb:Ml s.br=true)(t1:1<=t):cI [.ref a.b,pT k t p b] M= .ok (.bl (s.Ek k t p b)) M:=by
 have e:=adm h k t p b
 have f:=abr (M:=M) (k:=k) (p:=p) (t:=t) (b:=b)
 have tn:nG [pT k t p b] M= .ok (.int t) M:=by
  simp only[nG,vQ,t8,pT]
  simp[UG]
 have ah:bO [.ref a.b,pT k t p b] M= .ok (.bl (s.Ek k t p b)) M:=by
  simp only[bO,e_,fY,fX,pT]
  have i4:bf (.tup [.str "told",.int (k:Int),.int t,.int p,.int b]) (.int 4) M= .ok (.int b) M:=wG (by decide) rfl
  simp[h.Yq,h.pO (m:= "row_of") rfl,wJ h k,Pa,aek,aem,h.JH (m:= "may_tell") rfl,i4,e]
 have n1:¬(t<1):=()
 have i0:bf (pT k t p b) (.int 0) M= .ok (.str "told") M:=oY
 simp only[cI,fP,fG,fD]
 simp[h.fbr,hb,f,tn,n1,i0,UG,h.JH (m:= "allows_hand") rfl,ah]
structure akK(s:BO):Prop where
 tm:s.tm.length<=1000
 ro:s.ro.length<=1000
 pl:s.pl.length<=1000
 hd:s.hd.length<=1000
def BO.told(s:BO)(k:Nat)(t:Int)(p b:Nat):BO:={s with cnt:=s.cnt+1,tm:=gp s.tm k t,ro:=gp s.ro k (JW (s.line t) (s.row k) p),pl:=gp s.pl (k,t) (max p (s.plc k t)),hd:=gp s.hd (k,t) (max b (s.hrd k t))}
theorem Wb(h:s.Ek k t p b=true):0<=p/\p<=(s.line t).length/\0<=b:=by
 unfold BO.Ek at h
 split at h
 ·cases h
 ·split at h
  ·cases h
  ·simp[BO.inT]at h
   omega
theorem Zy(h:bA M a s)(f:akK s)(hb:Ml s.br=true)(t1:1<=t)(h1:∀e∈s.line t,Fp e)(h2:∀e∈s.row k,Fp e):
  (s.Ek k t p b=true/\∃M',aV [.ref a.b,pT k t p b] M= .ok .non M'/\Bx M a (s.told k t p.toNat b.toNat) M')
  \/ (s.Ek k t p b=false/\aV [.ref a.b,pT k t p b] M= .exc 2 (.int (s.cnt:Int)) M):=by
 have e0:=aea h hb (k:=k) (p:=p) (b:=b) t1
 have m1:=h.JH (m:= "allows") rfl
 cases c:s.Ek k t p b with
 | false=>
  rw[c]at e0
  refine .inr ⟨rfl,?_⟩
  simp only[aV,iT,h_,g_]
  simp[m1,e0,h.fcn,one]
 | true=>
  rw[c]at e0
  obtain⟨p0,_,b0⟩:=Wb c
  obtain⟨p,rfl⟩:=Int.eq_ofNat_of_zero_le p0
  obtain⟨b,rfl⟩:=Int.eq_ofNat_of_zero_le b0
  rw[zam,zam]
  obtain⟨M2,e2,x2⟩:=T8 h
  obtain⟨M3,e3,x3⟩:=Q9 x2.h f.tm k t
  obtain⟨M4,e4,x4⟩:=ab_ x3.h (k:=k) (t:=t) (p:=p) f.ro f.pl h1 h2
  obtain⟨M5,e5,x5⟩:=adI x4.h f.hd k t b
  have fh:dg [.ref a.b,pT k t p b] M2= .ok .non M5:=by
   have i4:∀M:Mem,bf (.tup [.str "told",.int (k:Int),.int t,.int (p:Int),.int (b:Int)]) (.int 4) M= .ok (.int (b:Int)) M:=λM=>wG (by decide) rfl
   simp only[dg,eZ,fW,fV,pT]
   simp[aek,aem,x2.h.fbl,x2.h.mj (m:= "reach") rfl,e3,x3.h.Yq,x3.h.pO (m:= "tell") rfl,e4,x4.h.frp,x4.h.Uk (m:= "hear") rfl,i4,e5]
  refine .inl ⟨rfl,M5,?_,x2.trans (x3.trans (x4.trans x5))⟩
  have i0:∀M:Mem,bf (pT k t p b) (.int 0) M= .ok (.str "told") M:=λM=>oY
  simp only[aV,iT,h_,g_]
  simp[m1,e0,h.fcn,e2,i0,UG,x2.h.JH (m:= "follow_hand") rfl,fh]
theorem YK(h:bA M a s)(k:Nat)(t:Int)(hw:w<60):∃M',bO [.ref a.b,pV k t w] M= .ok (.bl (s.jB k t w (nO (s.row k)))) M'/\Bx M a s M':=by
 obtain⟨M1,e1,x1⟩:=Uh h k t hw (nO (s.row k))
 refine⟨M1,?_,x1⟩
 simp only[bO,e_,fY,fX,pap]
 simp[h.Yq,h.pO (m:= "row_of") rfl,wJ h k,Pa,h.fbl,h.mj (m:= "may_vote") rfl,e1]
theorem YL(h:bA M a s){k:Nat}(hk:k<60)(t:Int){V:Nat}(hV:V<2 ^ 60)(h1:(KQ (s.row k) s.S).1<2 ^ 60)(h2:(KQ (s.row k) s.S).2<2 ^ 60):
  ∃M',bO [.ref a.b,pC k t V] M= .ok (.bl (s.jo k t V (nO (s.row k)) (KQ (s.row k) s.S).1 (KQ (s.row k) s.S).2)) M'/\Bx M a s M':=by
 obtain⟨M1,e1,x1⟩:=Rx h hk t hV h1 h2 (nO (s.row k))
 refine⟨M1,?_,x1⟩
 simp only[bO,e_,fY,fX,pap]
 simp[ae1,h.Yq,h.pO (m:= "row_of") rfl,wJ h k,Pa,h.fbl,h.mj (m:= "may_chair") rfl,h.pO (m:= "row_roll") rfl,aak h k,e1]
theorem acd(h:bA M a s)(hf:Few s)(k:Nat)(t:Int)(hw:w<60)(hb:Ml s.br=true)(t1:1<=t)(hv:s.jB k t w (nO (s.row k))=true):
  ∃M',aV [.ref a.b,pV k t w] M= .ok .non M'/\Bx M a ({s with cnt:=s.cnt+1}.cast k t w (nO (s.row k))) M':=by
 have r:=Zz h (.inl rfl) (Xd h (.inl rfl) (YK h k t hw)) (s3:={s with cnt:=s.cnt+1}.cast k t w (nO (s.row k))) λM2 h2=>by
  obtain⟨M3,e3,x3⟩:=ad1 h2 ⟨hf.tm,hf.vt,hf.ak,hf.se,hf.ln⟩ k t hw (nO (s.row k))
  have r:bK [.ref a.sd,.int (k:Int)] M2= .ok (esD (s.row k)) M2:=wJ h2 k
  refine⟨M3,?_,x3⟩
  simp only[dg,eZ,fW,fV,pap]
  simp[h2.fbl,h2.Yq,h2.pO (m:= "row_of") rfl,r,Pa,h2.mj (m:= "cast") rfl,e3]
 have o:s.GR t (s.jB k t w (nO (s.row k)))=true:=by simp[BO.GR,hb,t1,hv]
 rcases r with⟨_,r⟩ | ⟨r,_⟩
 ·exact r
 ·rw[o]at r;cases r
def sat(s:BO)(w:Nat)(t:Int):BO:={s with cnt:=s.cnt+1,se:=gp s.se t w,ln:=gp s.ln t (s.row w)}
theorem ace(h:bA M a s)(hf:Few s){k:Nat}(hk:k<60){t:Int}{V:Nat}(hV:V<2 ^ 60)(h1:(KQ (s.row k) s.S).1<2 ^ 60)(h2:(KQ (s.row k) s.S).2<2 ^ 60)(hb:Ml s.br=true)(t1:1<=t)
  (hn:s.head t=none) (hm:s.mr=[]) (hl:s.ln.length<60) (hc:s.jo k t V (nO (s.row k)) (KQ (s.row k) s.S).1 (KQ (s.row k) s.S).2=true):
  ∃M',aV [.ref a.b,pC k t V] M= .ok .non M'/\Bx M a (sat s k t) M':=by
 have r:=Zz h (.inr rfl) (Xd h (.inr rfl) (YL h hk t hV h1 h2)) (s3:=sat s k t) λM2 b2=>by
  obtain⟨M3,e3,x3⟩:=Tq b2 ⟨hf.tm,hf.vt,hf.ak,hf.se,hf.ln⟩ hm hl k t
  have e:BO.Z0 {s with cnt:=s.cnt+1} k t=sat s k t:=by
   unfold BO.Z0
   rw[if_neg (by rw[show BO.head {s with cnt:=s.cnt+1} t=none from hn];exact xA)]
   rfl
  rw[e]at x3
  refine⟨M3,?_,x3⟩
  simp only[dg,eZ,fW,fV,pap]
  simp[ae1,b2.JH (m:= "follow_to_chair") rfl,e3]
 have o:s.GR t (s.jo k t V (nO (s.row k)) (KQ (s.row k) s.S).1 (KQ (s.row k) s.S).2)=true:=by simp[BO.GR,hb,t1,hc]
 rcases r with⟨_,r⟩ | ⟨r,_⟩
 ·exact r
 ·rw[o]at r;cases r
theorem Vs(h:bA M a s)(hb:Ml s.br=true)(t1:1<=t)(hd:s.head t=some k)(ht:s.term k=t)
  (hx:x= "write" \/ x= "beat") (f:iz [.tup (.str x:: .int t::ds)] M= .ok (.bl true) M)
  (ac:gG [.ref a.b,.tup (.str x:: .int t::ds)] M= .ok (.bl true) M)
  (fc:∀M2,bA M2 a {s with cnt:=s.cnt+1}->∃M3,gF [.ref a.b,.tup (.str x:: .int t::ds)] M2= .ok .non M3/\Bx M2 a s' M3):
  ∃M',aV [.ref a.b,.tup (.str x:: .int t::ds)] M= .ok .non M'/\Bx M a s' M':=by
 have no:∀M:Mem,sIn (.str x) (.mJ [.str "vote",.str "chair",.str "told"]) M= .ok (.bl false) M:=λM=>by
  rw[in_of]
  have e1:(("vote" : Str)= "write")=False:=eq_false (by decide)
  have e2:(("chair" : Str)= "write")=False:=eq_false (by decide)
  have e3:(("told" : Str)= "write")=False:=eq_false (by decide)
  have e4:(("vote" : Str)= "beat")=False:=eq_false (by decide)
  have e5:(("chair" : Str)= "beat")=False:=eq_false (by decide)
  have e6:(("told" : Str)= "beat")=False:=eq_false (by decide)
  rcases hx with rfl | rfl
  ·simp[e1,e2,e3]
  ·simp[e4,e5,e6]
 obtain⟨P,hP⟩:∃P:D,P= .tup (.str x:: .int t::ds):=⟨_,rfl⟩
 have i0:∀M:Mem,bf P (.int 0) M= .ok (.str x) M:=λM=>by rw[hP];exact oY
 have i1:∀M:Mem,bf P (.int 1) M= .ok (.int t) M:=λM=>by rw[hP];exact Z_
 rw[<-hP]at f ac ⊢
 have tn:nG [P] M= .ok (.int t) M:=by
  simp only[nG,vQ,t8]
  simp[i0,no,i1]
 have e1:=Tz h hd ht
 have z1:¬t<1:=()
 have al:cI [.ref a.b,P] M= .ok (.bl true) M:=by
  simp only[cI,fP,fG,fD]
  simp[h.fbr,hb,f,tn,z1,i0,i1,no,h.fbl,h.mj (m:= "stands") rfl,e1,h.JH (m:= "allows_chair") rfl,ac]
 obtain⟨M2,e2,x2⟩:=T8 h
 obtain⟨M3,e3,x3⟩:=fc M2 x2.h
 rw[<-hP]at e3
 refine⟨M3,?_,x2.trans x3⟩
 simp only[aV,iT,h_,g_]
 simp[h.JH (m:= "allows") rfl,al,h.fcn,e2,i0,no,x2.h.JH (m:= "follow_chair") rfl,e3]
def wrt(s:BO)(k:Nat)(t:Int)(w:Wh):BO:={s with cnt:=s.cnt+1,ln:=gp s.ln t (s.line t++[(t,w)]),ro:=gp s.ro k (s.row k++[(t,w)])}
theorem afe(h:bA M a s)(hb:Ml s.br=true)(hl:s.ln.length<=1000)(hr:s.ro.length<=1000)(t1:1<=t)(hd:s.head t=some k)(ht:s.term k=t)(hw:Y5 w)(hs:(!stE (s.line t) t)=w.isS)(l1:(s.line t).length<=1000)(l2:(s.row k).length<=1000):
  ∃M',aV [.ref a.b,.tup [.str "write",.int t,.int ((s.line t).length+1),w.d]] M= .ok .non M'/\Bx M a (wrt s k t w) M':=by
 have e2:=X_ h hw hs
 have q:Nk "write" [("vote",4),("chair",4),("write",4),("beat",3),("told",5),("settle",4),("answer",6),("look",6),("seen",8)]= .int 4:=rfl
 refine Vs h hb t1 hd ht (.inl rfl) ?_ ?_ λM2 h2=> ?_
 ·simp only[iz,lX]
  simp[q]
 ·simp only[gG,gO,iK]
  simp[h.Yq,h.pO (m:= "may_write") rfl,e2]
 ·obtain⟨M3,e3,x3⟩:=Ze h2 (k:=k) (t:=t) (w:=w) hl hr l1 l2
  have hd2:bW [.ref a.bl,.int t] M2= .ok (.int (k:Int)) M2:=by
   have q:=Io h2 t
   rw[show BO.head {s with cnt:=s.cnt+1} t=some k from hd]at q
   exact q
  refine⟨M3,?_,x3⟩
  simp only[gF,gM,iJ]
  simp[h2.Yq,h2.fbl,h2.mj (m:= "chair_of") rfl,hd2,h2.pO (m:= "write") rfl,e3]
def btn(s:BO)(t:Int)(b:Nat):BO:={s with cnt:=s.cnt+1,bt:=gp s.bt t b}
theorem ae2:(("beat" : Str)= "write")=False:=eq_false (by decide)
theorem afg(h:bA M a s)(hb:Ml s.br=true)(hl:s.bt.length<=1000)(t1:1<=t)(hd:s.head t=some k)(ht:s.term k=t)(hn:s.beat t=n):
  ∃M',aV [.ref a.b,.tup [.str "beat",.int t,.int ((n:Int)+1)]] M= .ok .non M'/\Bx M a (btn s t (n+1)) M':=by
 have q:Nk "beat" [("vote",4),("chair",4),("write",4),("beat",3),("told",5),("settle",4),("answer",6),("look",6),("seen",8)]= .int 3:=rfl
 have e1:=W_ h t
 rw[hn]at e1
 have mb:jO [.ref a.rp,.int t,.int ((n:Int)+1)] M= .ok (.bl true) M:=by
  simp only[jO,jV]
  simp[h.Uk (m:= "beat_of") rfl,e1]
 refine Vs h hb t1 hd ht (.inr rfl) ?_ ?_ λM2 h2=> ?_
 ·simp only[iz,lX]
  simp[q]
 ·simp only[gG,gO,iK,mF]
  simp[ae2,h.frp,h.Uk (m:= "may_begin") rfl,mb]
 ·have p:=L_ h2.bt t (n+1) hl
  have e3:pR [.ref a.rp,.int t,.int ((n:Int)+1)] M2= .ok .non (M2.set a.bt (.dk (ge kI nD (gp s.bt t (n+1))))):=by
   have nn:D.int ((n:Int)+1)=nD (n+1):=by unfold nD;simp
   simp only[pR,p8]
   rw[nn]
   simp[h2.fbt,p]
  refine⟨_,?_,h2.al6 (Ch.set rfl) (dU h2.bt),Ch.set (show Rg a a.bt from m_ h.o 13 rfl)⟩
  simp only[gF,gM,iJ,mD]
  simp[ae2,h2.frp,h2.Uk (m:= "begin") rfl,e3]
end
def hds(c:Nat):List Nat:=[c,c+11,c+22,c+33,c+44]
theorem abk(hc:c<16)(hh:h∈hds c):h<60:=by
 simp[hds]at hh
 omega
theorem Wy(hi:i<5):(hds c)[i]? = some (c+11*i):=by
 match i,hi with
 | 0,_=>rfl
 | 1,_=>rfl
 | 2,_=>rfl
 | 3,_=>rfl
 | 4,_=>rfl
theorem Wx(hi:i<5):c+11*i∈hds c:=zaa (Wy hi)
def Sub(c p:Nat):Prop:=∀j,p.testBit j=true->j∈hds c
theorem Sub.lt(hc:c<16)(h:Sub c p):p<2 ^ 60:=Nat.lt_pow_two_of_testBit p λi hi=>by
 cases z:p.testBit i with
 | false=>rfl
 | true=>exact absurd (abk hc (h i z)) (Nat.not_lt.mpr hi)
theorem Sub.and{c p V:Nat}(h:Sub c p):Sub c (V &&& p):=λj hj=>by
 rw[Nat.testBit_and,Bool.and_eq_true]at hj
 exact h j hj.2
theorem adN:∀c,c<16->(List.range 60).filter (λj=>decide (j∈hds c))=hds c:=by decide +kernel
theorem abw:((x::xs).filter f).length=(f x).toNat+(xs.filter f).length:=by
 rw[List.filter_cons]
 cases f x
 ·show(xs.filter f).length=0+_
  rw[Nat.zero_add]
 ·show(xs.filter f).length+1=1+_
  rw[Nat.add_comm]
theorem aks(hc:c<16)(h:Sub c P):HM.cnt P=(P.testBit c).toNat+(P.testBit (c+11)).toNat+(P.testBit (c+22)).toNat+(P.testBit (c+33)).toNat+(P.testBit (c+44)).toNat:=by
 have e:HM.eG P=(hds c).filter λj=>P.testBit j:=by
  rw[<-adN c hc,List.filter_filter]
  unfold HM.eG
  refine List.filter_congr λj _=> ?_
  cases z:P.testBit j with
  | false=>rfl
  | true=>rw[zah (h j z)];rfl
 show(HM.eG P).length=_
 rw[e]
 unfold hds
 rw[abw,abw,abw,abw,abw]
 show _+(_+(_+(_+(_+0))))=_
 simp only[Nat.add_zero,Nat.add_assoc]
theorem aed(hP:P<2 ^ m)(hn:n<=1)(j:Nat):(P+n*2 ^ m).testBit j=(P.testBit j||(decide (n=1)&&decide (j=m))):=by
 have q:=Nat.two_pow_add_eq_or_of_lt hP n
 have e:P+n*2 ^ m=2 ^ m*n ||| P:=by rw[<-q,Nat.mul_comm,Nat.add_comm]
 rw[e,Nat.testBit_or]
 have:n=0\/n=1:=()
 rcases this with rfl | rfl
 ·simp
 ·rw[Nat.mul_one,Nat.testBit_two_pow,Bool.or_comm]
  by_cases z:m=j
  ·simp[z]
  ·have z':¬j=m:=λw=>z w.symm
   simp[z,z']
section
variable{M:Mem}
theorem r5:Jt [.int 5] M= .ok ⟨none,FT 0 5⟩ M:=zA () ()
theorem Uu{hl c i:Nat}(hM:M[hl]? = some (.lst (hv (hds c))))(hi:i<5):bf (.ref hl) (.int (i:Int)) M= .ok (.int ((c+11*i:Nat):Int)) M:=by
 refine NK hM () ?_
 simp only[hv,zan,zam,Wy hi]
 rfl
theorem Bs(h:P<2 ^ x)(j:Nat):(P+2 ^ x).testBit j=(P.testBit j||decide (j=x)):=by
 have q:=aed (n:=1) h (zac 1) j
 rw[Nat.one_mul]at q
 rw[q]
 rfl
theorem Fz(h:P<2 ^ x)(hy:x<y):P+2 ^ x<2 ^ y:=by
 have q:2 ^ (x+1)<=2 ^ y:=Nat.pow_le_pow_right (by decide) hy
 rw[Nat.pow_succ]at q
 omega
theorem Ti(h:x<y):2 ^ x<2 ^ y:=Nat.pow_lt_pow_right (by decide) h
theorem Vo:(2 ^ x).testBit j=decide (j=x):=by
 rw[Nat.testBit_two_pow]
 by_cases z:x=j
 ·simp[z]
 ·have z':¬j=x:=λw=>z w.symm
  simp[z,z']
def fs(c:Nat):Nat:=2 ^ c+2 ^ (c+11)+2 ^ (c+22)+2 ^ (c+33)+2 ^ (c+44)
theorem abp:(fs c).testBit j=decide (j∈hds c):=by
 have a0:=Ti (x:=c) (y:=c+11) ()
 have a1:=Fz a0 (y:=c+22) ()
 have a2:=Fz a1 (y:=c+33) ()
 have a3:=Fz a2 (y:=c+44) ()
 unfold fs
 rw[Bs a3,Bs a2,Bs a1,Bs a0,Vo]
 simp[hds,Bool.or_assoc]
theorem UL:Sub c (fs c):=λj h=>by rw[abp]at h;exact of_decide_eq_true h
def vt3(w x y:Nat):Nat:=2 ^ w+2 ^ x+2 ^ y
theorem Zf(hx:w<x)(hy:x<y):(vt3 w x y).testBit j=true↔j=w\/j=x\/j=y:=by
 have a0:=Ti hx
 unfold vt3
 rw[Bs (Fz a0 hy),Bs a0,Vo]
 simp[or_assoc]
theorem ait(hx:w<x)(hy:x<y)(h:y<60):vt3 w x y<2 ^ 60:=Fz (Fz (Ti hx) hy) h
theorem afa{s:BO}{c k:Nat}(hc:c<16)(hk:k<3):s.won (vt3 (c+11*k) (c+33) (c+44)) (fs c) 0=true:=by
 obtain⟨V,hV⟩:∃V,V=vt3 (c+11*k) (c+33) (c+44):=⟨_,rfl⟩
 have vb:∀j,V.testBit j=true↔j=c+11*k\/j=c+33\/j=c+44:=λj=>by rw[hV];exact Zf () ()
 have fb:∀j,j∈hds c->(fs c).testBit j=true:=λj h=>by rw[abp,zah h]
 have e1:=aks hc (UL (c:=c))
 have e2:=aks hc ((UL (c:=c)).and (V:=V))
 have f0:=fb c (by simp[hds])
 have f1:=fb (c+11) (by simp[hds])
 have f2:=fb (c+22) (by simp[hds])
 have f3:=fb (c+33) (by simp[hds])
 have f4:=fb (c+44) (by simp[hds])
 rw[f0,f1,f2,f3,f4]at e1
 rw[Nat.testBit_and,Nat.testBit_and,Nat.testBit_and,Nat.testBit_and,Nat.testBit_and,f0,f1,f2,f3,f4,(vb (c+33)).mpr (),(vb (c+44)).mpr ()]at e2
 have q:1<=(V.testBit c).toNat+(V.testBit (c+11)).toNat+(V.testBit (c+22)).toNat:=by
  have:k=0\/k=1\/k=2:=()
  rcases this with rfl | rfl | rfl
  ·have:=(vb c).mpr ();rw[this];simp;omega
  ·have:=(vb (c+11)).mpr ();rw[this];simp;omega
  ·have:=(vb (c+22)).mpr ();rw[this];simp
 rw[<-hV]
 simp at e1 e2
 unfold BO.won Aq
 simp
 split<;>omega
end
structure Lg(n j:Nat)(s:BO):Prop where
 tm:s.tm.length<=n
 vt:s.vt.length<=n
 ak:s.ak.length<=n
 ro:s.ro.length<=n
 pl:s.pl.length<=n
 hd:s.hd.length<=n
 bt:s.bt.length<=n
 se:s.se.length<=j
 ln:s.ln.length<=j
section
variable{M M':Mem}{a:BA}{s s':BO}{T T':Int}{m n j k w:Nat}
theorem adv(h:x<=n)(hn:n<=800):x<=1000:=()
theorem agJ(h:x<=n)(hn:n<=800):x<=900:=()
theorem Lg.few(g:Lg n j s)(hn:n<=800)(hj:j<=50):Few s:=⟨agJ g.tm hn,agJ g.vt hn,agJ g.ak hn,by have:=g.se;omega,by have:=g.ln;omega⟩
theorem Lg.aki(g:Lg n j s)(hn:n<=800):akK s:=⟨adv g.tm hn,adv g.ro hn,adv g.pl hn,adv g.hd hn⟩
theorem j8{κ α:Type}[DecidableEq κ]{l:List (κ×α)}{k:κ}{x:α}(h:l.length<=n):(gp l k x).length<=n+1:=yY abn (Nat.succ_le_succ h)
theorem gvD{κ α:Type}[DecidableEq κ]{l:List (κ×α)}{k k':κ}{x d:α}:(gv (gp l k x) k').getD d=if k'=k then x else(gv l k').getD d:=by
 rw[rZ]
 split<;>rfl
def cst(s:BO)(h:Nat)(t:Int)(w:Nat):BO:={s with cnt:=s.cnt+1}.cast h t w (nO (s.row h))
theorem Lg.cst(g:Lg n j s)(h:Nat)(t:Int)(w:Nat):Lg (n+1) j (cst s h t w):=by
 refine⟨j8 g.tm,j8 g.vt,?_,wP g.ro,wP g.pl,wP g.hd,wP g.bt,g.se,g.ln⟩
 show(if w=h then gp s.ak (h,t) _ else s.ak).length<=n+1
 split
 ·exact j8 g.ak
 ·exact wP g.ak
theorem Fb:(cst s h t w).term x=if x=h then t else s.term x:=by
 show(gv (gp s.tm h t) x).getD 0=_
 rw[gvD]
 rfl
theorem Br:(cst s h t w).Bc x u=if(x,u)=(h,t)then s.Bc h t ||| 2 ^ w else s.Bc x u:=by
 show(gv (gp s.vt (h,t) _) (x,u)).getD 0=_
 rw[gvD]
 rfl
theorem adV:(cst s h t h).ask h t=some (nO (s.row h)):=by
 show gv (if h=h then gp s.ak (h,t) _ else s.ak) (h,t)=_
 rw[if_pos rfl,rZ,if_pos rfl]
theorem U4(z:w≠h):(cst s h t w).ask x u=s.ask x u:=by
 show gv (if w=h then gp s.ak (h,t) _ else s.ak) (x,u)=_
 rw[if_neg z]
 rfl
theorem abM(p w:Nat):(p ||| 2 ^ w).testBit w=true:=by rw[Nat.testBit_or,Nat.testBit_two_pow_self,Bool.or_true]
theorem Lg.sat(g:Lg n j s)(w:Nat)(t:Int):Lg n (j+1) (sat s w t):=⟨g.tm,g.vt,g.ak,g.ro,g.pl,g.hd,g.bt,j8 g.se,j8 g.ln⟩
theorem acq(h:w<60):sZ (.int 1) (.int (w:Int)) M= .ok (.int ((2 ^ w:Nat):Int)) M:=by
 rw[Nt ⟨(),(),by decide⟩]
 simp
end
structure Pv(c w:Nat)(T':Int)(L0:List En)(s:BO):Prop where
 hS:s.S=fs c
 r1:s.r1=true
 br:s.br= .non
 mr:s.mr=[]
 rw:s.row w=L0
 r0:∀x∈[c+33,c+44],s.row x=[]
 tm:∀x,s.term x<T'
 vt:∀x,s.Bc x T'=0
 hd:s.head T'=none
 okL:∀e∈L0,Fp e
 nr:Qg L0=0
 tL:∀e∈L0,0<=e.1/\e.1<T'
 t1:1<=T'
 bt:s.beat T'=0
section
variable{M M':Mem}{a:BA}{s s':BO}{c w:Nat}{T':Int}{L L0:List En}{n j:Nat}
theorem ahk(h:∀e∈L,0<=e.1):0<=(nO L).1:=by
 unfold nO
 cases z:L.getLast? with
 | none=>exact Int.le_refl _
 | some e=>exact h e (List.mem_of_getLast? z)
theorem adh(p:Pv c w T' L0 s):s.jB w T' w (nO (s.row w))=true:=by
 have t:=p.tm w
 unfold BO.jB BO.spent
 rw[p.r1,p.vt w]
 have:¬T'<s.term w:=()
 simp[this,t]
theorem am_{a:Int}{k:Nat}(h:0<=a):Xf.Mh [0,0] [a,(k:Int)]=true:=by
 unfold Xf.Mh
 split
 ·unfold Xf.Mh
  split
  ·rfl
  ·exact zah ()
 ·exact zah h
theorem Rp(r1:s.r1=true)(tm:s.term x<T')(vt:s.Bc x T'=0)(hx:x≠w)(r0:s.row x=[])(as:s.ask w T'=some (nO L0))(e0:0<=(nO L0).1):s.jB x T' w (nO (s.row x))=true:=by
 unfold BO.jB BO.spent
 rw[r1,vt]
 have:¬T'<s.term x:=()
 have g:s.good w T' (nO (s.row x))=true:=by
  unfold BO.good
  rw[as,r0]
  show(Xf.Mh [0,0] _||_)=true
  rw[am_ e0];rfl
 simp[this,Ne.symm hx,g]
structure Vm(w:Nat)(T':Int)(L0:List En)(xs:List Nat)(s0 s:BO):Prop where
 k:s={s0 with cnt:=s.cnt,tm:=s.tm,vt:=s.vt,ak:=s.ak}
 y:∀x∈xs,s.term x=T'/\(s.Bc x T').testBit w=true
 n:∀x,x∉xs->s.term x=s0.term x/\s.Bc x T'=s0.Bc x T'
 u:∀x u,u≠T'->s.Bc x u=s0.Bc x u
 as:s.ask w T'=some (nO L0)
theorem Vm.more(h:Vm w T' L0 xs s0 s)(hx:x≠w):Vm w T' L0 (x::xs) s0 (cst s x T' w):=by
 refine⟨?_,λz hz=> ?_,λz hz=> ?_,λz u hu=> ?_,?_⟩
 ·have k:=h.k
  rw[k]
  rfl
 ·rw[Fb,Br]
  by_cases q:z=x
  ·subst q
   rw[if_pos rfl,if_pos rfl]
   exact⟨rfl,abM _ _⟩
  ·rw[if_neg q,if_neg (λe=>q (congrArg Prod.fst e))]
   exact h.y z ((List.mem_cons.mp hz).resolve_left q)
 ·have q:z≠x:=λe=>hz (e▸xB)
  rw[Fb,Br,if_neg q,if_neg (λe=>q (congrArg Prod.fst e))]
  exact h.n z λe=>hz (yT _ e)
 ·rw[Br,if_neg (λe=>hu (congrArg Prod.snd e))]
  exact h.u z u hu
 ·rw[U4 (Ne.symm hx)]
  exact h.as
theorem Vm.one(p:Pv c w T' L0 s):Vm w T' L0 [w] s (cst s w T' w):=by
 refine⟨rfl,λz hz=> ?_,λz hz=> ?_,λz u hu=> ?_,?_⟩
 ·rw[List.mem_singleton.mp hz,Fb,Br,if_pos rfl,if_pos rfl]
  exact⟨rfl,abM _ _⟩
 ·have q:z≠w:=λe=>hz (e▸List.mem_singleton_self _)
  rw[Fb,Br,if_neg q,if_neg (λe=>q (congrArg Prod.fst e))]
  exact⟨rfl,rfl⟩
 ·rw[Br,if_neg (λe=>hu (congrArg Prod.snd e))]
 ·rw[adV,p.rw]
theorem Vm.st(h:Vm w T' L0 xs s0 s):s.r1=s0.r1/\s.br=s0.br/\s.ro=s0.ro/\s.S=s0.S/\s.se=s0.se/\s.ln=s0.ln/\s.mr=s0.mr/\s.bt=s0.bt:=by
 have k:=h.k
 refine⟨?_,?_,?_,?_,?_,?_,?_,?_⟩<;>rw[k]
theorem Vm.row(h:Vm w T' L0 xs s0 s)(x:Nat):s.row x=s0.row x:=by unfold BO.row;rw[h.st.2.2.1]
end
section
variable{M M':Mem}{a:BA}{s s':BO}{c w k hl ll:Nat}{T' cell:Int}{ah:D}{L L0:List En}{n j:Nat}
def ue(a:BA)(hl k:Nat)(T':Int)(ah:D)(cell:Int)(w ll:Nat)(v8 v9 v10 v11 Fq:Option D):Sl:=[some (.ref a.b),some (.ref hl),some (.int (k:Int)),some (.int T'),some ah,some (.int cell),some (.int (w:Int)),some (.ref ll),v8,v9,v10,v11,Fq]
theorem O_{src:Option (Nat×List D)}{g:Tg}{b:MS}{d:D}{ds:List D}{e e1 e2:Sl}{M M2:Mem}(hs:ig src M)(hg:g d e=some e1)(hb:b e1 M= .next e2 M2):cC src g b (d::ds) e M=cC src g b ds e2 M2:=by
 rw[cC,if_pos hs,hg]
 simp only[hb]
theorem ahe(hs:ig src M):cC src g b [] e M= .next e M:=by
 rw[cC,if_pos hs]
theorem sk(h:M[n]? = some (.lst ds)):ig (some (n,ds)) M:=eF h
theorem Mq(h:hl<a.b):¬Rg a hl:=λz=>Nat.not_lt.mpr z.1 h
theorem Ut(h:bA M a s)(hf:Few s)(hh:M[hl]? = some (.lst (hv (hds c))))(hi:i<5)(hx:x=c+11*i)(hw:w<60)(br:s.br= .non)(t1:1<=T')(mv:s.jB x T' w (nO (s.row x))=true):
  ∃M1,oh (ue a hl k T' ah cell w ll v8 (some (.int (i:Int))) none none none) M= .next (ue a hl k T' ah cell w ll v8 (some (.int (i:Int))) none none none) M1/\Bx M a (cst s x T' w) M1:=by
 obtain⟨M1,e1,x1⟩:=acd h hf x T' hw (by rw[br];rfl) t1 mv
 have e1':aV [.ref a.b,.tup [.str "vote",.int (x:Int),.int T',.int (w:Int)]] M= .ok .non M1:=e1
 have ix:=Uu hh hi
 rw[<-hx]at ix
 refine⟨M1,?_,x1⟩
 simp only[oh,ue]
 simp[h.JH (m:= "take") rfl,ix,e1']
theorem aa6(h:bA M a s)(p:Pv c w T' L0 s)(g:Lg n j s)(hn:n<=600)(hj:j<=40)(hc:c<16)(hh:M[hl]? = some (.lst (hv (hds c))))(hb:hl<a.b)(hw:w=c+11*k)(hk:k<3):
  ∃(s1:BO) (M1:Mem),oG (ue a hl k T' ah cell w ll v8 none none none none) M= .next (ue a hl k T' ah cell w ll v8 (some (.int 4)) none none none) M1/\Bx M a s1 M1/\Vm w T' L0 [c+44,c+33,w] s s1/\Lg (n+3) j s1:=by
 have w60:w<60:=()
 have e0:=ahk λe he=>(p.tL e he).1
 obtain⟨M0,hM0⟩:∃M0:Mem,M0=M++[.lst [.int (k:Int),.int 3,.int 4]]:=⟨_,rfl⟩
 have g0:Gr M M0:=by rw[hM0];exact Gr.app
 have x0:=Bx.gr h g0
 have so:M0[M.length]? = some (.lst [.int (k:Int),.int 3,.int 4]):=by rw[hM0];exact bB
 have nr:¬Rg a M.length:=h.nrg (zac _)
 obtain⟨M1,e1,x1⟩:=Ut (k:=k) (ll:=ll) (cell:=cell) (ah:=ah) (v8:=v8) x0.h (g.few () ()) (g0 _ _ hh) (i:=k) () hw w60 p.br p.t1 (adh p)
 have q1:=Vm.one p
 have g1:=g.cst w T' w
 have h3:=q1.n (c+33) (by simp;omega)
 have s1:=q1.st
 obtain⟨M2,e2,x2⟩:=Ut (k:=k) (ll:=ll) (cell:=cell) (ah:=ah) (v8:=v8) x1.h (g1.few () ()) (x1.c.2 _ _ (Mq hb) (g0 _ _ hh)) (i:=3) (x:=c+33) () () w60 (s1.2.1.trans p.br) p.t1
  (Rp (s1.1.trans p.r1) (by rw[h3.1];exact p.tm _) (by rw[h3.2];exact p.vt _) () (by rw[q1.row];exact p.r0 _ (by simp)) q1.as e0)
 have q2:=q1.more (x:=c+33) ()
 have g2:=g1.cst (c+33) T' w
 have h4:=q2.n (c+44) (by simp;omega)
 have s2:=q2.st
 obtain⟨M3,e3,x3⟩:=Ut (k:=k) (ll:=ll) (cell:=cell) (ah:=ah) (v8:=v8) x2.h (g2.few () ()) (x2.c.2 _ _ (Mq hb) (x1.c.2 _ _ (Mq hb) (g0 _ _ hh))) (i:=4) (x:=c+44) () () w60 (s2.2.1.trans p.br) p.t1
  (Rp (s2.1.trans p.r1) (by rw[h4.1];exact p.tm _) (by rw[h4.2];exact p.vt _) () (by rw[q2.row];exact p.r0 _ (by simp)) q2.as e0)
 refine⟨_,M3,?_,x0.trans (x1.trans (x2.trans x3)),q2.more (),g2.cst _ T' w⟩
 have o1:=x1.c.2 _ _ nr so
 have o2:=x2.c.2 _ _ nr o1
 have lp:cC (some (M.length,[.int (k:Int),.int 3,.int 4])) (gN 9) oh [.int (k:Int),.int 3,.int 4] (ue a hl k T' ah cell w ll v8 none none none none) M0= .next (ue a hl k T' ah cell w ll v8 (some (.int 4)) none none none) M3:=
  (O_ (sk so) rfl e1).trans ((O_ (sk o1) rfl e2).trans ((O_ (sk o2) rfl e3).trans (ahe (sk (x3.c.2 _ _ nr o2)))))
 simp only[oG]
 simp only[ue]at lp ⊢
 simp[<-hM0,j7 so,lp]
theorem rl0(h:Qg L=0):KQ L S=(S,0):=by unfold KQ;rw[h]
theorem aa7(h:bA M a s)(p:Pv c w T' L0 s0)(hc:c<16)(q:Vm w T' L0 [c+44,c+33,w] s0 s)(g:Lg n j s)(hn:n<=600)(hj:j<=40)(hh:M[hl]? = some (.lst (hv (hds c))))(hw:w=c+11*k)(hk:k<3):
  ∃M1,gZ (aU 8 "take" aV 2 [] (aq 0) (au (fL (au (mC (.str "chair")) (au (aq 6) (au (aq 3) (au (aD oZ (aD oZ (aD sZ (mC (.int 1)) (aq 6)) (aD sZ (mC (.int 1)) (aD bf (aq 1) (mC (.int 3))))) (aD sZ (mC (.int 1)) (aD bf (aq 1) (mC (.int 4))))) aF))))) aF)) (ue a hl k T' ah cell w ll v8 (some (.int 4)) none none none) M= .next (ue a hl k T' ah cell w ll v8 (some (.int 4)) none none none) M1/\Bx M a (sat s w T') M1:=by
 obtain⟨V,hV⟩:∃V,V=vt3 w (c+33) (c+44):=⟨_,rfl⟩
 obtain⟨r1,br,_,sS,se,sl,smr,_⟩:=q.st
 have rw_:s.row w=L0:=(q.row w).trans p.rw
 have nr:KQ (s.row w) s.S=(fs c,0):=by rw[rw_,sS,p.hS,rl0 p.nr]
 have yw:=q.y w (by simp)
 have hd:s.head T'=none:=by unfold BO.head;rw[se];exact p.hd
 have mc:s.jo w T' V (nO (s.row w)) (KQ (s.row w) s.S).1 (KQ (s.row w) s.S).2=true:=by
  have wn:=afa (s:=s) hc hk
  rw[<-hw,<-hV]at wn
  unfold BO.jo
  rw[if_neg (by rw[hd];simp[yw.1]),if_neg (by rw[q.as,rw_];simp),nr,wn]
  have:s.qT V T' w=true:=by
   unfold BO.qT
   rw[List.all_eq_true]
   intro x hx
   have b:=(HM.Rv.mp hx).2
   rw[hV]at b
   have:=(Zf () ()).mp b
   refine(q.y x ?_).2
   simp
   omega
  rw[this];rfl
 obtain⟨M1,e2,x2⟩:=ace h (g.few () ()) (k:=w) () (hV▸ait () () ()) (by rw[nr];exact(UL (c:=c)).lt hc) (by rw[nr];exact Nat.two_pow_pos 60) (by rw[br,p.br];rfl) p.t1 hd (smr.trans p.mr) (by have:=g.ln;omega) mc
 have e2':aV [.ref a.b,.tup [.str "chair",.int (w:Int),.int T',.int (V:Int)]] M= .ok .non M1:=e2
 refine⟨M1,?_,x2⟩
 have sh:=acq (M:=M) (w:=w) ()
 have s3:=acq (M:=M) (w:=c+33) ()
 have s4:=acq (M:=M) (w:=c+44) ()
 have i3:bf (.ref hl) (.int 3) M= .ok (.int ((c+33:Nat):Int)) M:=Uu (i:=3) hh ()
 have i4:bf (.ref hl) (.int 4) M= .ok (.int ((c+44:Nat):Int)) M:=Uu (i:=4) hh ()
 have ad:((2 ^ w:Nat):Int)+((2 ^ (c+33):Nat):Int)+((2 ^ (c+44):Nat):Int)=(V:Int):=by rw[hV];unfold vt3;omega
 obtain⟨A,hA⟩:∃A:Int,A=((2 ^ w:Nat):Int):=⟨_,rfl⟩
 obtain⟨B,hB⟩:∃B:Int,B=((2 ^ (c+33):Nat):Int):=⟨_,rfl⟩
 obtain⟨C,hC⟩:∃C:Int,C=((2 ^ (c+44):Nat):Int):=⟨_,rfl⟩
 obtain⟨X,hX⟩:∃X:Int,X=((c+33:Nat):Int):=⟨_,rfl⟩
 obtain⟨Y,hY⟩:∃Y:Int,Y=((c+44:Nat):Int):=⟨_,rfl⟩
 rw[<-hA]at sh ad
 rw[<-hB,<-hX]at s3
 rw[<-hC,<-hY]at s4
 rw[<-hB,<-hC]at ad
 rw[<-hX]at i3
 rw[<-hY]at i4
 simp only[ue]
 simp[h.JH (m:= "take") rfl,sh,i3,s3,i4,s4,ad,e2']
end
section
variable{M M':Mem}{a:BA}{s s' s0:BO}{c w k hl ll:Nat}{T' cell:Int}{ah:D}{L L0:List En}{n j i:Nat}{v8 v9 v10 v11 Fq:Option D}
structure Ch0(w:Nat)(T':Int)(s:BO):Prop where
 br:s.br= .non
 hd:s.head T'=some w
 tm:s.term w=T'
structure Wv(w:Nat)(T':Int)(L0:List En)(s0:BO)(i:Nat)(s:BO)(L:List En):Prop where
 kk:s={s0 with cnt:=s.cnt,ln:=s.ln,ro:=s.ro}
 lT:s.line T'=L
 lo:∀t,t≠T'->s.line t=s0.line t
 rw:s.row w=L
 ro:∀x,x≠w->s.row x=s0.row x
 len:L.length=L0.length+i
 ok:∀e∈L,Fp e
 st:stE L T'=decide (0<i)
 nr:Qg L=0
 tT:∀e∈L,0<=e.1/\e.1<=T'
theorem VG:∀n,n<=xs.length->YX (xs++[e]) n=YX xs n
 | 0,_=>rfl
 | n+1,h=>by
  unfold YX
  rw[zaf (),VG n ()]
theorem VH:Qg (xs++[e])=if e.2.isR=true then xs.length+1 else Qg xs:=by
 unfold Qg
 rw[List.length_append,List.length_singleton]
 show YX (xs++[e]) (xs.length+1)=_
 rw[YX]
 have:(xs++[e])[xs.length]? = some e:=by simp
 rw[this]
 dsimp only
 rw[VG _ (zac _)]
theorem Wv.st0(h:Wv w T' L0 s0 i s L)(q:Ch0 w T' s0):Ch0 w T' s:=by
 have kk:=h.kk
 refine⟨?_,?_,?_⟩<;>rw[kk]
 ·exact q.br
 ·exact q.hd
 ·exact q.tm
theorem Wv.more(q:Wv w T' L0 s0 i s L)(t1:1<=T')(okx:Y5 x):Wv w T' L0 s0 (i+1) (wrt s w T' x) (L++[(T',x)]):=by
 refine⟨?_,?_,λt ht=> ?_,?_,λy hy=> ?_,?_,λe he=> ?_,?_,?_,λe he=> ?_⟩
 ·have kk:=q.kk
  rw[kk]
  rfl
 ·show(gv (gp s.ln T' (s.line T'++_)) T').getD []=_
  rw[gvD,if_pos rfl,q.lT]
 ·show(gv (gp s.ln T' _) t).getD []=_
  rw[gvD,if_neg ht]
  exact q.lo t ht
 ·show(gv (gp s.ro w (s.row w++_)) w).getD []=_
  rw[gvD,if_pos rfl,q.rw]
 ·show(gv (gp s.ro w _) y).getD []=_
  rw[gvD,if_neg hy]
  exact q.ro y hy
 ·rw[List.length_append,q.len];rfl
 ·rcases List.mem_append.mp he with z | z
  ·exact q.ok e z
  ·rw[List.mem_singleton.mp z];exact okx.en T'
 ·unfold stE
  rw[List.any_append]
  simp
 ·rw[VH,if_neg (by show ¬x.isR=true;rw[okx.ne];exact xA)]
  exact q.nr
 ·rcases List.mem_append.mp he with z | z
  ·exact q.tT e z
  ·rw[List.mem_singleton.mp z];exact⟨(),Int.le_refl _⟩
theorem aa2(x:Int):∃w:Wh,CQ [.int x] M= .ok w.d M/\Y5 w/\w.isS=false:=by
 obtain⟨T,hT⟩:∃T:Int,T=10 ^ 40:=⟨_,rfl⟩
 have hT0:0<T:=by rw[hT];decide
 have pw:∀M:Mem,NB (.int 10) (.int 40) M= .ok (.int T) M:=λM=>by rw[QW ⟨(),(),by decide⟩,hT];rfl
 clear hT
 have md:∀(z j:Int) (M:Mem),0<j->j5 (.int z) (.int j) M= .ok (.int (z % j)) M:=λz j M h=>jn h
 have dv:∀(z j:Int) (M:Mem),0<j->j<1073741824->tu (.int z) (.int j) M= .ok (.int (z / j)) M:=λz j M h h'=>rB h h'
 have hl:(x % 26).toNat<(Str.ofString "abcdefghijklmnopqrstuvwxyz").cps.toList.length:=by
  have:(Str.ofString "abcdefghijklmnopqrstuvwxyz").cps.toList.length=26:=by decide +kernel
  omega
 have ix:bf (.str "abcdefghijklmnopqrstuvwxyz") (.int (x % 26)) M= .ok (.str ⟨#[(Str.ofString "abcdefghijklmnopqrstuvwxyz").cps.toList[(x % 26).toNat]]⟩) M:=acz () (zad hl) (by decide +kernel)
 obtain⟨c,hc⟩:∃c,c=(Str.ofString "abcdefghijklmnopqrstuvwxyz").cps.toList[(x % 26).toNat]:=⟨_,rfl⟩
 rw[<-hc]at ix
 refine⟨.ask (x % T) (x / 3 % T) (.tup [.str "put",.str ⟨#[c]⟩,.int (x / 26 % T)]),?_,⟨_,λ_ _=>rfl⟩,rfl⟩
 simp only[CQ,Df]
 simp[md,dv,ix,pw,hT0,Wh.d]
theorem adn{rest:MS}(hi:i<6):∃x:Wh,aO (cD (fL (au (mC (.str "start")) aF)) (gN 11)) (aO ou rest) (ue a hl k T' ah cell w ll v8 v9 (some (.int (i:Int))) v11 Fq) M=rest (ue a hl k T' ah cell w ll v8 v9 (some (.int (i:Int))) (some x.d) Fq) M/\Y5 x/\x.isS=decide (i=0):=by
 have a1:cD (fL (au (mC (.str "start")) aF)) (gN 11) (ue a hl k T' ah cell w ll v8 v9 (some (.int (i:Int))) v11 Fq) M= .next (ue a hl k T' ah cell w ll v8 v9 (some (.int (i:Int))) (some (Wh.st).d) Fq) M:=by
  simp[ue,Wh.d]
 by_cases z0:i=0
 ·refine⟨.st,d8 a1 (d8 ?_ rfl),trivial,by rw[zah z0];rfl⟩
  simp only[ou,ue]
  simp[z0]
 ·have z:(0:Int)<(i:Int):=()
  obtain⟨x,ex,okx,sx⟩:=aa2 (M:=M) (cell / (42+(i:Int)))
  have dv:tu (.int cell) (.int (42+(i:Int))) M= .ok (.int (cell / (42+(i:Int)))) M:=rB () ()
  refine⟨x,d8 a1 (d8 ?_ rfl),okx,by rw[zag z0];exact sx⟩
  simp only[ou,ue]
  have z':0<i:=()
  simp[z',dv,ex]
theorem ado(h:bA M a s)(q:Wv w T' L0 s0 i s L)(q0:Ch0 w T' s0)(hL:M[ll]? = some (.lst (L.map mW)))(ho:a.sn<ll)(t1:1<=T')(g:Lg (n+i) (j+i) s)(hn:n+i<=600)(hj:j+i<=40)(hi:i<6)(l0:L.length<=100):
  ∃s1 L1 M1 v',jZ (ue a hl k T' ah cell w ll v8 v9 (some (.int (i:Int))) v11 none) M= .next (ue a hl k T' ah cell w ll v8 v9 (some (.int (i:Int))) v' none) M1/\bA M1 a s1/\Ch (λx=>Rg a x\/x=ll) M M1/\M1[ll]? = some (.lst (L1.map mW))/\Wv w T' L0 s0 (i+1) s1 L1/\Lg (n+(i+1)) (j+(i+1)) s1:=by
 obtain⟨x,e1,okx,isx⟩:=adn (a:=a) (hl:=hl) (k:=k) (T':=T') (ah:=ah) (cell:=cell) (w:=w) (ll:=ll) (v8:=v8) (v9:=v9) (v11:=v11) (Fq:=none) (M:=M) (i:=i) (rest:=aO (gZ (aU 8 "take" aV 2 [] (aq 0) (au (fL (au (mC (.str "write")) (au (aq 3) (au (aD oZ (vV jj (au (aq 7) aF)) (mC (.int 1))) (au (aq 11) aF))))) aF)))
  (gZ (mBM "list" wH (aq 7) (au (fL (au (aq 3) (au (aq 11) aF))) aF)))) hi
 have q1:=q.st0 q0
 have ln:jj [.ref ll] M= .ok (.int (L.length:Int)) M:=by rw[oX hL];simp
 obtain⟨M1,e2,x2⟩:=afe h (by rw[q1.br];rfl) (by have:=g.ln;omega) (by have:=g.ro;omega) t1 q1.hd q1.tm okx (by rw[q.lT,q.st,isx];by_cases z:i=0<;>simp[z];omega) (by rw[q.lT];omega) (by rw[q.rw];omega)
 rw[q.lT]at e2
 have nl:¬Rg a ll:=λz=>Nat.not_lt.mpr z.2 ho
 have l1:=x2.c.2 _ _ nl hL
 obtain⟨M2,hM2⟩:∃M2:Mem,M2=M1.set ll (.lst (L.map mW++[mW (T',x)])):=⟨_,rfl⟩
 have ap:wH (.ref ll) [.tup [.int T',x.d]] M1= .ok .non M2:=by
  rw[hM2]
  exact Q5 l1 (by rw[zao];omega)
 have c2:Ch (· = ll) M1 M2:=by rw[hM2];exact Ch.set rfl
 refine⟨_,L++[(T',x)],M2,some x.d,?_,x2.h.ch c2 (λi _ h2 z=>Nat.not_lt.mpr h2 (z▸ho)),(x2.c.mono λ_ _ z=> .inl z).trans (c2.mono λ_ _ z=> .inr z),?_,q.more t1 okx,?_⟩
 ·simp only[jZ]
  rw[e1]
  refine d8 (e':=ue a hl k T' ah cell w ll v8 v9 (some (.int (i:Int))) (some x.d) none) (M':=M1) ?_ ?_
  ·simp only[ue]
   simp[h.JH (m:= "take") rfl,ln,e2]
  ·simp only[ue]
   simp[Zn l1,ap]
 ·rw[hM2,List.map_append]
  exact dU l1
 ·exact⟨wP g.tm,wP g.vt,wP g.ak,j8 g.ro,wP g.pl,wP g.hd,wP g.bt,wP g.se,j8 g.ln⟩
structure aon(a:BA)(w k hl ll:Nat)(T' cell:Int)(ah:D)(L0:List En)(s0:BO)(n j:Nat)(v8 v9:Option D)(M0:Mem)(i:Nat)(e:Sl)(M:Mem):Prop where
 h:∃s L v10 v11,e=ue a hl k T' ah cell w ll v8 v9 v10 v11 none/\bA M a s/\Ch (λx=>Rg a x\/x=ll) M0 M/\M[ll]? = some (.lst (L.map mW))/\Wv w T' L0 s0 i s L/\Lg (n+i) (j+i) s
theorem adp(h:bA M a s0)(q0:Ch0 w T' s0)(w0:Wv w T' L0 s0 0 s0 L0)(hL:M[ll]? = some (.lst (L0.map mW)))(ho:a.sn<ll)(t1:1<=T')(g:Lg n j s0)(hn:n<=500)(hj:j<=30)(l0:L0.length<=50):
  ∃s1 L1 M1 v10 v11,oF (ue a hl k T' ah cell w ll v8 v9 none none none) M= .next (ue a hl k T' ah cell w ll v8 v9 v10 v11 none) M1/\bA M1 a s1/\Ch (λx=>Rg a x\/x=ll) M M1/\M1[ll]? = some (.lst (L1.map mW))/\(∃i,i<=6/\Wv w T' L0 s0 i s1 L1)/\Lg (n+6) (j+6) s1:=by
 obtain⟨m,hm⟩:∃m:Nat,1+cell / 7 % 6=(m:Int):=⟨(1+cell / 7 % 6).toNat,()⟩
 obtain⟨e',M4,lp,s',L',v10,v11,rfl,b4,c4,l4,w4,g4⟩:=qR (src:=none) (g:=gN 10) (b:=jZ) (aon a w k hl ll T' cell ah L0 s0 n j v8 v9 M) (ds:=FT 0 m) (e:=ue a hl k T' ah cell w ll v8 v9 none none none) (M:=M)
  ⟨_,L0,none,none,rfl,h,Ch.refl,hL,w0,g⟩ (λ_ _ _ _ _=>trivial) λi d e M' hd q=>by
   obtain⟨s,L,v10,v11,rfl,b,cc,l,u,g⟩:=q
   obtain⟨hi,rfl⟩:=Ii hd
   rw[Int.zero_add]
   obtain⟨s1,L1,M1',v',e5,b5,c5,l5,w5,g5⟩:=ado (hl:=hl) (k:=k) (ah:=ah) (cell:=cell) (v8:=v8) (v9:=v9) (v11:=v11) b u q0 l ho t1 g () () () (by have:=u.len;omega)
   refine⟨_,rfl,?_⟩
   have e5':jZ ((ue a hl k T' ah cell w ll v8 v9 v10 v11 none).set 10 (some (.int (i:Int)))) M'=_:=e5
   rw[e5']
   exact⟨s1,L1,_,_,rfl,b5,cc.trans c5,l5,w5,g5⟩
 rw[VL]at w4 g4
 refine⟨s',L',M4,v10,v11,?_,b4,c4,l4,⟨m,(),w4⟩,?_⟩
 ·simp only[oF]
  simp only[ue]at lp ⊢
  have dv:tu (.int cell) (.int 7) M= .ok (.int (cell / 7)) M:=rB () ()
  have md:j5 (.int (cell / 7)) (.int 6) M= .ok (.int (cell / 7 % 6)) M:=jn ()
  have rg:Jt [.int (m:Int)] M= .ok ⟨none,FT 0 m⟩ M:=zA () ()
  simp[dv,md,hm,rg,lp]
 ·exact⟨by have:=g4.tm;omega,by have:=g4.vt;omega,by have:=g4.ak;omega,by have:=g4.ro;omega,by have:=g4.pl;omega,by have:=g4.hd;omega,by have:=g4.bt;omega,by have:=g4.se;omega,by have:=g4.ln;omega⟩
structure Bv(T':Int)(s0:BO)(i:Nat)(s:BO):Prop where
 kk:s={s0 with cnt:=s.cnt,bt:=s.bt}
 bT:s.beat T'=i
 bo:∀t,t≠T'->s.beat t=s0.beat t
structure aov(a:BA)(w k hl ll:Nat)(T' cell:Int)(ah:D)(s0:BO)(n j:Nat)(v8 v9 v10 v11:Option D)(M0:Mem)(i:Nat)(e:Sl)(M:Mem):Prop where
 h:∃s Fq,e=ue a hl k T' ah cell w ll v8 v9 v10 v11 Fq/\Bx M0 a s M/\Bv T' s0 i s/\Lg (n+i) j s
theorem Bv.st(h:Bv T' s0 i s)(q:Ch0 w T' s0):Ch0 w T' s:=by
 have kk:=h.kk
 refine⟨?_,?_,?_⟩<;>rw[kk]
 ·exact q.br
 ·exact q.hd
 ·exact q.tm
theorem adx(h:bA M a s0)(q0:Ch0 w T' s0)(b0:s0.beat T'=0)(t1:1<=T')(g:Lg n j s0)(hn:n<=500):
  ∃s1 M1 Fq,oE (ue a hl k T' ah cell w ll v8 v9 v10 v11 none) M= .next (ue a hl k T' ah cell w ll v8 v9 v10 v11 Fq) M1/\Bx M a s1 M1/\Bv T' s0 (cell / 42 % 4).toNat s1/\Lg (n+4) j s1:=by
 obtain⟨m,hm⟩:∃m:Nat,cell / 42 % 4=(m:Int):=⟨(cell / 42 % 4).toNat,()⟩
 obtain⟨e',M4,lp,s',Fq,rfl,x4,w4,g4⟩:=qR (src:=none) (g:=gN 12) (b:=uw) (aov a w k hl ll T' cell ah s0 n j v8 v9 v10 v11 M) (ds:=FT 0 m) (e:=ue a hl k T' ah cell w ll v8 v9 v10 v11 none) (M:=M)
  ⟨_,none,rfl,Bx.of h,⟨rfl,b0,λ_ _=>rfl⟩,g⟩ (λ_ _ _ _ _=>trivial) λi d e M' hd q=>by
   obtain⟨s,Fq,rfl,x,u,g⟩:=q
   obtain⟨hi,rfl⟩:=Ii hd
   rw[Int.zero_add]
   have q1:=u.st q0
   obtain⟨M1,e1,x1⟩:=afg x.h (by rw[q1.br];rfl) (by have:=g.bt;omega) t1 q1.hd q1.tm u.bT
   refine⟨ue a hl k T' ah cell w ll v8 v9 v10 v11 (some (.int (i:Int))),rfl,?_⟩
   simp only[uw,ue]
   simp[x.h.JH (m:= "take") rfl,e1]
   refine⟨_,_,rfl,x.trans x1,⟨?_,?_,λt ht=> ?_⟩,⟨wP g.tm,wP g.vt,wP g.ak,wP g.ro,wP g.pl,wP g.hd,j8 g.bt,g.se,g.ln⟩⟩
   ·have kk:=u.kk
    rw[kk]
    rfl
   ·show(gv (gp s.bt T' _) T').getD 0=_
    rw[gvD,if_pos rfl]
   ·show(gv (gp s.bt T' _) t).getD 0=_
    rw[gvD,if_neg ht]
    exact u.bo t ht
 rw[VL]at w4 g4
 refine⟨s',M4,Fq,?_,x4,by rw[hm,zam];exact w4,?_⟩
 ·simp only[oE]
  simp only[ue]at lp ⊢
  have dv:tu (.int cell) (.int 42) M= .ok (.int (cell / 42)) M:=rB () ()
  have md:j5 (.int (cell / 42)) (.int 4) M= .ok (.int (cell / 42 % 4)) M:=jn ()
  have rg:Jt [.int (m:Int)] M= .ok ⟨none,FT 0 m⟩ M:=zA () ()
  simp[dv,md,hm,rg,lp]
 ·exact⟨by have:=g4.tm;omega,by have:=g4.vt;omega,by have:=g4.ak;omega,by have:=g4.ro;omega,by have:=g4.pl;omega,by have:=g4.hd;omega,by have:=g4.bt;omega,g4.se,g4.ln⟩
end
section
variable{M M':Mem}{a:BA}{s s' s0:BO}{c w k hl ll:Nat}{T T' cell:Int}{ah:D}{L L0:List En}{n j i nb:Nat}{v8:Option D}
structure Po(c w:Nat)(T':Int)(nb:Nat)(s s':BO)(L':List En):Prop where
 hS:s'.S=s.S
 r1:s'.r1=s.r1
 br:s'.br= .non
 mr:s'.mr=[]
 se:s'.se=gp s.se T' w
 ln:∀t,s'.line t=if t=T' then L' else s.line t
 bt:∀t,s'.beat t=if t=T' then nb else s.beat t
 ro:∀x,s'.row x=if x=w then L' else s.row x
 tm:∀x,s'.term x=if x=w\/x=c+33\/x=c+44 then T' else s.term x
 vt:∀x u,u≠T'->s'.Bc x u=s.Bc x u
theorem QL:(sat s w t).line u=if u=t then s.row w else s.line u:=by
 show(gv (gp s.ln t (s.row w)) u).getD []=_
 rw[gvD]
 rfl
theorem ajm(p:Pv c w T' L0 s)(q:Vm w T' L0 [c+44,c+33,w] s sv)(u:Wv w T' L0 (sat sv w T') i sw L)(b:Bv T' sw nb s'):Po c w T' nb s s' L:=by
 have e0:=b.kk
 have e1:=u.kk
 have e2:=q.k
 obtain⟨r1,br,ro,hS,se,ln,mr,bt⟩:=q.st
 have tm':∀x,s'.term x=sv.term x:=λx=>by rw[e0,e1];rfl
 have ro':∀x,s'.row x=sw.row x:=λx=>by rw[e0];rfl
 have ln':∀x,s'.line x=sw.line x:=λx=>by rw[e0];rfl
 refine⟨by rw[e0,e1,e2];rfl,by rw[e0,e1,e2];rfl,?_,?_,?_,λt=> ?_,λt=> ?_,λx=> ?_,λx=> ?_,λx u hu=> ?_⟩
 ·rw[e0,e1];show sv.br=_;rw[br,p.br]
 ·rw[e0,e1];show sv.mr=_;rw[mr,p.mr]
 ·rw[e0,e1];show gp sv.se T' w=_;rw[se]
 ·rw[ln']
  by_cases z:t=T'
  ·rw[if_pos z,z];exact u.lT
  ·rw[if_neg z,u.lo t z,QL,if_neg z]
   unfold BO.line
   rw[ln]
 ·by_cases z:t=T'
  ·rw[if_pos z,z];exact b.bT
  ·rw[if_neg z,b.bo t z,e1]
   show(gv sv.bt t).getD 0=_
   rw[bt]
   rfl
 ·rw[ro']
  by_cases z:x=w
  ·rw[if_pos z,z];exact u.rw
  ·rw[if_neg z,u.ro x z]
   exact q.row x
 ·rw[tm']
  split
  ·rename_i z
   exact(q.y x (by simp;omega)).1
  ·rename_i z
   exact(q.n x (by simp;omega)).1
 ·have:s'.Bc x u=sv.Bc x u:=by rw[e0,e1];rfl
  rw[this]
  exact q.u x u hu
theorem Wm(h:bA M a s)(p:Pv c w T' L0 s)(hc:c<16)(g:Lg n j s)(hn:n<=400)(hj:j<=20)(hh:M[hl]? = some (.lst (hv (hds c))))(hb:hl<a.b)(hL:M[ll]? = some (.lst (L0.map mW)))(ho:a.sn<ll)(hw:w=c+11*k)(hk:k<3)(l0:L0.length<=40):
  ∃(s':BO) (L':List En) (M':Mem),aO oG (aO (gZ (aU 8 "take" aV 2 [] (aq 0) (au (fL (au (mC (.str "chair")) (au (aq 6) (au (aq 3) (au (aD oZ (aD oZ (aD sZ (mC (.int 1)) (aq 6)) (aD sZ (mC (.int 1)) (aD bf (aq 1) (mC (.int 3))))) (aD sZ (mC (.int 1)) (aD bf (aq 1) (mC (.int 4))))) aF))))) aF)))
   (aO oF (aO oE (bx (fL (au (aq 3) (au (aq 7) (au (aD j5 (aD tu (aq 5) (mC (.int 42))) (mC (.int 4))) aF)))))))) (ue a hl k T' ah cell w ll v8 none none none none) M= .ret (.tup [.int T',.ref ll,.int (cell / 42 % 4)]) M'
   /\ bA M' a s'/\Ch (λx=>Rg a x\/x=ll) M M'/\M'[ll]? = some (.lst (L'.map mW))/\Po c w T' (cell / 42 % 4).toNat s s' L'/\Lg (n+20) (j+10) s'/\L'.length<=L0.length+6/\(∀e∈L',Fp e/\0<=e.1/\e.1<=T')/\Qg L'=0:=by
 obtain⟨sv,M2,e2,x2,q2,g2⟩:=aa6 (ah:=ah) (ll:=ll) (cell:=cell) (v8:=v8) h p g () () hc hh hb hw hk
 have hh2:=x2.c.2 _ _ (Mq hb) hh
 obtain⟨M3,e3,x3⟩:=aa7 (ah:=ah) (ll:=ll) (cell:=cell) (v8:=v8) x2.h p hc q2 g2 () () hh2 hw hk
 have nl:¬Rg a ll:=λz=>Nat.not_lt.mpr z.2 ho
 have hL3:=x3.c.2 _ _ nl (x2.c.2 _ _ nl hL)
 obtain⟨r1,br,ro,hS,se,ln,mr,bt⟩:=q2.st
 have c0:Ch0 w T' (sat sv w T'):=⟨br.trans p.br,by show gv (gp sv.se T' w) T'=_;rw[rZ,if_pos rfl],(q2.y w (by simp)).1⟩
 have rww:sv.row w=L0:=(q2.row w).trans p.rw
 have w0:Wv w T' L0 (sat sv w T') 0 (sat sv w T') L0:=by
  refine⟨rfl,?_,λ_ _=>rfl,rww,λ_ _=>rfl,rfl,p.okL,?_,p.nr,λe he=>⟨(p.tL e he).1,Int.le_of_lt (p.tL e he).2⟩⟩
  ·rw[QL,if_pos rfl,rww]
  ·rw[zag (wS 0)]
   unfold stE
   rw[List.any_eq_false]
   intro e he
   have:=(p.tL e he).2
   simp
   omega
 obtain⟨sw,L',M4,v10,v11,e4,b4,c4,l4,⟨i,hi,w4⟩,g4⟩:=adp (hl:=hl) (k:=k) (ah:=ah) (cell:=cell) (v8:=v8) (v9:=some (.int 4)) x3.h c0 w0 hL3 ho p.t1 (g2.sat w T') () () ()
 have c4':=w4.st0 c0
 have bt4:sw.beat T'=0:=by
  have e1:=w4.kk
  rw[e1]
  show(gv sv.bt T').getD 0=0
  rw[bt]
  exact p.bt
 obtain⟨s',M5,Fq,e5,x5,b5,g5⟩:=adx (hl:=hl) (ll:=ll) (k:=k) (ah:=ah) (cell:=cell) (v8:=v8) (v9:=some (.int 4)) (v10:=v10) (v11:=v11) b4 c4' bt4 p.t1 g4 ()
 refine⟨s',L',M5,?_,x5.h,((x2.c.trans x3.c).mono λ_ _ z=> .inl z).trans (c4.trans (x5.c.mono λ_ _ z=> .inl z)),x5.c.2 _ _ nl l4,ajm p q2 w4 b5,?_,by have:=w4.len;omega,λe he=>⟨w4.ok e he,w4.tT e he⟩,w4.nr⟩
 ·refine d8 e2 (d8 e3 (d8 e4 (d8 e5 (J7 ?_))))
  have dv:tu (.int cell) (.int 42) M5= .ok (.int (cell / 42)) M5:=rB () ()
  have md:j5 (.int (cell / 42)) (.int 4) M5= .ok (.int (cell / 42 % 4)) M5:=jn ()
  simp[ue,dv,md]
 ·exact⟨by have:=g5.tm;omega,by have:=g5.vt;omega,by have:=g5.ak;omega,by have:=g5.ro;omega,by have:=g5.pl;omega,by have:=g5.hd;omega,by have:=g5.bt;omega,by have:=g5.se;omega,by have:=g5.ln;omega⟩
structure Cs(c i:Nat)(T:Int)(s:BO):Prop where
 hS:s.S=fs c
 r1:s.r1=true
 br:s.br= .non
 mr:s.mr=[]
 r0:∀x,(∀j,j<i->x≠c+11*j)->s.row x=[]
 t0:∀x,(∀j,j<i->x≠c+11*j)->x≠c+33->x≠c+44->s.term x=0
 tm:∀x,s.term x<=T
 vt:∀x t,T<t->s.Bc x t=0
 hd:∀t,T<t->s.head t=none
 bt:∀t,T<t->s.beat t=0
 T0:0<=T
 ok:∀t,∀e∈s.line t,Fp e/\0<=e.1/\e.1<=T
 rp:∀t,Qg (s.line t)=0
 rl:∀t,(s.line t).length<=6*i
 rk:∀x,∀e∈s.row x,Fp e
def Ah(c i:Nat)(M:Mem)(a:BA)(s:BO)(ah:D):Prop:=(i=0/\ah= .non)\/(∃(m:Nat) (Ta:Int) (la:Nat) (na:Int),i=m+1/\ah= .tup [.int Ta,.ref la,.int na]/\M[la]? = some (.lst ((s.line Ta).map mW))/\s.head Ta=some (c+11*m)/\1<=Ta/\a.sn<la)
theorem Cs.po(cs:Cs c i T s)(hT:T<T')(po:Po c (c+11*i) T' nb s s' L)(ok:∀e∈L,Fp e/\0<=e.1/\e.1<=T')(rp:Qg L=0)(ll:L.length<=6*(i+1)):Cs c (i+1) T' s':=by
 have T0:=cs.T0
 refine⟨po.hS.trans cs.hS,po.r1.trans cs.r1,po.br,po.mr,λx hx=> ?_,λx hx h3 h4=> ?_,λx=> ?_,λx t ht=> ?_,λt ht=> ?_,λt ht=> ?_,(),λt e he=> ?_,λt=> ?_,λt=> ?_,λx e he=> ?_⟩
 ·rw[po.ro,if_neg (hx i (Nat.lt_succ_self _))]
  exact cs.r0 x λj hj=>hx j ()
 ·rw[po.tm,if_neg (by have:=hx i (Nat.lt_succ_self _);omega)]
  exact cs.t0 x (λj hj=>hx j ()) h3 h4
 ·rw[po.tm]
  split
  ·exact Int.le_refl _
  ·have:=cs.tm x;omega
 ·rw[po.vt x t ()]
  exact cs.vt x t ()
 ·show gv s'.se t=none
  rw[po.se,rZ,if_neg ()]
  exact cs.hd t ()
 ·rw[po.bt,if_neg ()]
  exact cs.bt t ()
 ·rw[po.ln]at he
  split at he
  ·exact ok e he
  ·have:=cs.ok t e he
   exact⟨this.1,this.2.1,()⟩
 ·rw[po.ln]
  split
  ·exact rp
  ·exact cs.rp t
 ·rw[po.ln]
  split
  ·exact ll
  ·have:=cs.rl t;omega
 ·rw[po.ro]at he
  split at he
  ·exact(ok e he).1
  ·exact cs.rk x e he
theorem aam:∀(ys xs:List En),Qg (xs++ys)=0->Qg xs=0
 | [],xs,h=>by rw[List.append_nil]at h;exact h
 | y::ys,xs,h=>by
  have e:xs++y::ys=(xs++[y])++ys:=by simp
  rw[e]at h
  have q:=aam ys (xs++[y]) h
  rw[VH]at q
  split at q
  ·cases q
  ·exact q
theorem acG(h:Qg L=0)(k:Nat):Qg (L.take k)=0:=aam (L.drop k) _ (by rw[List.take_append_drop];exact h)
theorem Ni:(s.told x t q b).term y=if y=x then t else s.term y:=by
 show(gv (gp s.tm x t) y).getD 0=_
 rw[gvD];rfl
theorem Bf:(s.told x t q b).row y=if y=x then JW (s.line t) (s.row x) q else s.row y:=by
 show(gv (gp s.ro x _) y).getD []=_
 rw[gvD];rfl
theorem Lg.told(g:Lg n j s)(x q b:Nat)(T:Int):Lg (n+1) j (s.told x T q b):=⟨j8 g.tm,wP g.vt,wP g.ak,j8 g.ro,j8 g.pl,j8 g.hd,wP g.bt,g.se,g.ln⟩
theorem adu(ok:∀e∈L,Fp e)(q:Nat):JW L [] q=L.take q:=by
 unfold JW
 rw[List.take_nil]
 split
 ·rename_i z
  exact(aec (Lp ok q) z).symm
 ·rfl
theorem Cs.pv(cs:Cs c k T s)(hk:k<3)(hT:T<T'):Pv c (c+11*k) T' [] s:=
 ⟨cs.hS,cs.r1,cs.br,cs.mr,cs.r0 _ (λj hj=>()),λx hx=>cs.r0 x (λj hj=>by simp at hx;omega),λx=>by have:=cs.tm x;omega,λx=>cs.vt x _ hT,cs.hd _ hT,λe he=>(by cases he),rfl,λe he=>(by cases he),by have:=cs.T0;omega,cs.bt _ hT⟩
theorem Yg(h:bA M a s)(cs:Cs c k T s)(hT:T<T')(hk:k<3)(hc:c<16)(g:Lg n j s)(hn:n<=300)(hj:j<=20)(hh:M[hl]? = some (.lst (hv (hds c))))(hb:hl<a.b)(ha:Ah c k M a s ah):
  ∃(s':BO) (L':List En) (M':Mem) (ll:Nat),tY [.ref a.b,.ref hl,.int (k:Int),.int T',ah,.int cell] M= .ok (.tup [.int T',.ref ll,.int (cell / 42 % 4)]) M'/\Bx M a s' M'/\M'[ll]? = some (.lst (L'.map mW))/\M.length<=ll/\Po c (c+11*k) T' (cell / 42 % 4).toNat s s' L'/\Lg (n+30) (j+10) s'/\(∀e∈L',Fp e/\0<=e.1/\e.1<=T')/\Qg L'=0/\L'.length<=6*(k+1):=by
 have ix:=Uu hh (i:=k) ()
 obtain⟨w,hw⟩:∃w,w=c+11*k:=⟨_,rfl⟩
 rw[<-hw]at ix ⊢
 have p:=cs.pv hk hT
 rw[<-hw]at p
 obtain⟨M0,hM0⟩:∃M0:Mem,M0=M++[.lst []]:=⟨_,rfl⟩
 have g0:Gr M M0:=by rw[hM0];exact Gr.app
 have x0:=Bx.gr h g0
 have hL0:M0[M.length]? = some (.lst (([]:List En).map mW)):=by rw[hM0];exact bB
 have a1:cD (aD bf (aq 1) (aq 2)) (gN 6) [some (.ref a.b),some (.ref hl),some (.int (k:Int)),some (.int T'),some ah,some (.int cell),none,none,none,none,none,none,none] M= .next [some (.ref a.b),some (.ref hl),some (.int (k:Int)),some (.int T'),some ah,some (.int cell),some (.int (w:Int)),none,none,none,none,none,none] M:=by
  simp[ix]
 have a2:cD (Ep aF) (gN 7) [some (.ref a.b),some (.ref hl),some (.int (k:Int)),some (.int T'),some ah,some (.int cell),some (.int (w:Int)),none,none,none,none,none,none] M= .next (ue a hl k T' ah cell w M.length none none none none none) M0:=by
  simp[ue,<-hM0]
 rcases ha with⟨k0,rfl⟩ | ⟨m,Ta,la,na,hm,rfl,hla,hdA,tA,oA⟩
 ·obtain⟨s',L',M',e1,b',c',l',po,g',len,ok,rp⟩:=Wm (ah:= .non) (cell:=cell) (v8:=none) x0.h p hc g () hj (g0 _ _ hh) hb hL0 h.lt hw hk (by simp)
  refine⟨s',L',M',M.length,?_,⟨b',(g0.ch.trans c').mono λi hi z=>z.resolve_right (xD hi)⟩,l',zac _,po,?_,ok,rp,by simp at len;omega⟩
  ·simp only[tY,uf]
   refine RV ?_
   simp only[eU,fK,eO]
   refine d8 a1 (d8 a2 (d8 (e':=ue a hl k T' .non cell w M.length none none none none none) (M':=M0) ?_ e1))
   simp only[uG,ue]
   simp
  ·exact⟨by have:=g'.tm;omega,by have:=g'.vt;omega,by have:=g'.ak;omega,by have:=g'.ro;omega,by have:=g'.pl;omega,by have:=g'.hd;omega,by have:=g'.bt;omega,g'.se,g'.ln⟩
 ·obtain⟨A,hA⟩:∃A,A=s.line Ta:=⟨_,rfl⟩
  rw[<-hA]at hla
  have okA:∀e∈A,Fp e:=λe he=>(cs.ok Ta e (hA▸he)).1
  have lA:A.length<=6*k:=hA▸cs.rl Ta
  obtain⟨q,hq⟩:∃q:Nat,cell % ((A.length:Int)+1)=(q:Int):=⟨(cell % ((A.length:Int)+1)).toNat,by
   have:=Int.emod_nonneg cell (b:=(A.length:Int)+1) ()
   omega⟩
  have ql:q<=A.length:=by
   have:=Int.emod_lt_of_pos cell (b:=(A.length:Int)+1) ()
   omega
  have tw:s.term w=0:=cs.t0 w (λj hj=>()) () ()
  have mt:s.Ek w Ta (q:Int) 0=true:=by
   unfold BO.Ek
   rw[hdA]
   dsimp only
   rw[if_neg ()]
   simp[BO.inT,<-hA,ql]
  rcases Zy x0.h (g.aki ()) (by rw[cs.br];rfl) (k:=w) (p:=(q:Int)) (b:=0) tA (by rw[<-hA];exact okA) (cs.rk w)with⟨_,M1,e1,x1⟩ | ⟨z,_⟩
  ·have e1':aV [.ref a.b,.tup [.str "told",.int (w:Int),.int Ta,.int (q:Int),.int 0]] M0= .ok .non M1:=e1
   rw[zam]at x1
   obtain⟨s1,hs1⟩:∃s1,s1=s.told w Ta q (0:Int).toNat:=⟨_,rfl⟩
   rw[<-hs1]at x1
   have anm:=x1.c.2 _ _ (λz=>Nat.not_lt.mpr z.2 oA) (g0 _ _ hla)
   obtain⟨M2,hM2⟩:∃M2:Mem,M2=M1++[.lst ((A.take q).map mW)]:=⟨_,rfl⟩
   have g2:Gr M1 M2:=by rw[hM2];exact Gr.app
   have rw1:s1.row w=A.take q:=by
    rw[hs1,Bf,if_pos rfl,p.rw,<-hA,adu okA]
   have p1:Pv c w T' (A.take q) s1:=by
    refine⟨by rw[hs1];exact p.hS,by rw[hs1];exact p.r1,by rw[hs1];exact p.br,by rw[hs1];exact p.mr,rw1,λx hx=> ?_,λx=> ?_,λx=>by rw[hs1];exact p.vt x,by rw[hs1];exact p.hd,Lp okA q,acG (hA▸cs.rp Ta) q,λe he=> ?_,p.t1,by rw[hs1];exact p.bt⟩
    ·rw[hs1,Bf,if_neg (by simp at hx;omega)]
     exact p.r0 x hx
    ·rw[hs1,Ni]
     split
     ·have:¬T<Ta:=λz=>by rw[cs.hd Ta z]at hdA;cases hdA
      omega
     ·exact p.tm x
    ·have:=cs.ok Ta e (hA▸List.mem_of_mem_take he)
     exact⟨this.2.1,()⟩
   have hh1:=x1.c.2 _ _ (Mq hb) (g0 _ _ hh)
   have l01:M.length<M1.length:=by
    have:=x1.c.1
    rw[hM0]at this
    simp at this
    omega
   obtain⟨s',L',M',e3,b',c',l',po,g',len,ok,rp⟩:=Wm (ah:= .tup [.int Ta,.ref la,.int na]) (cell:=cell) (v8:=some (.int (q:Int))) (Bx.gr x1.h g2).h p1 hc (hs1▸g.told w q _ Ta) () hj (g2 _ _ hh1) hb (ll:=M1.length) (by rw[hM2];exact bB) (Nat.lt_trans h.lt l01) hw hk (by rw[List.length_take];omega)
   have cc:Ch (Rg a) M M':=((((g0.ch (p:=λx=>Rg a x\/x=M1.length)).trans (x1.c.mono λ_ _ z=> .inl z)).trans g2.ch).trans c').mono λi hi z=>z.resolve_right ()
   refine⟨s',L',M',M1.length,?_,⟨b',cc⟩,l',Nat.le_of_lt l01,?_,?_,ok,rp,by rw[List.length_take]at len;omega⟩
   ·simp only[tY,uf]
    refine RV ?_
    simp only[eU,fK,eO]
    refine d8 a1 (d8 a2 (d8 (e':=ue a hl k T' (.tup [.int Ta,.ref la,.int na]) cell w M1.length (some (.int (q:Int))) none none none none) (M':=M2) ?_ e3))
    have ln:jj [.ref la] M0= .ok (.int (A.length:Int)) M0:=by rw[oX (g0 _ _ hla)];simp
    have md:j5 (.int cell) (.int ((A.length:Int)+1)) M0= .ok (.int (q:Int)) M0:=by rw[jn (),hq]
    have sl:Xu (.ref la) none (some (q:Int)) M1= .ok (.ref M1.length) M2:=by
     rw[Ih anm,Gq,<-hM2]
    simp only[uG,ue]
    simp[ln,md,x0.h.JH (m:= "take") rfl,e1',sl]
   ·refine⟨by rw[po.hS,hs1];rfl,by rw[po.r1,hs1];rfl,po.br,po.mr,by rw[po.se,hs1];rfl,λt=>by rw[po.ln,hs1];rfl,λt=>by rw[po.bt,hs1];rfl,λx=> ?_,λx=> ?_,λx u hu=>by rw[po.vt x u hu,hs1];rfl⟩
    ·rw[po.ro,hs1,Bf]
     by_cases z:x=w
     ·rw[if_pos z,if_pos z]
     ·rw[if_neg z,if_neg z,if_neg z]
    ·rw[po.tm,hs1,Ni]
     by_cases z:x=w
     ·rw[if_pos (.inl z),if_pos (.inl z)]
     ·rw[if_neg (show ¬x=w from z)]
   ·exact⟨by have:=g'.tm;omega,by have:=g'.vt;omega,by have:=g'.ak;omega,by have:=g'.ro;omega,by have:=g'.pl;omega,by have:=g'.hd;omega,by have:=g'.bt;omega,g'.se,g'.ln⟩
  ·rw[mt]at z;cases z
end
set_option genInjectivity false in
structure LP where
 hl:Nat
 dl:Nat
 dh:Nat
 dr:Nat
 dt:Nat
 c:Nat
def lD(q:Nat×Nat):D:= .tup [.ref q.1,.int (q.2:Int)]
structure LM(M:Mem)(a:BA)(p:LP)(ls:List (Int×(Nat×Nat)))(he:List (Int×Nat))(LC:Int->List En)(rs:List (Nat×Nat))(RC:Nat->List En)(ts:List (Nat×Int)):Prop where
 hs:M[p.hl]? = some (.lst (hv (hds p.c)))
 dl:M[p.dl]? = some (.dk (ge kI lD ls))
 dh:M[p.dh]? = some (.dk (ge kI nD he))
 dr:M[p.dr]? = some (.dk (ge kN D.ref rs))
 dt:M[p.dt]? = some (.dk (ge kN D.int ts))
 lv:∀t q,gv ls t=some q->M[q.1]? = some (.lst ((LC t).map mW))/\a.sn<q.1
 rv:∀x r,gv rs x=some r->M[r]? = some (.lst ((RC x).map mW))/\a.sn<r
 o:p.hl<a.b/\a.sn<p.dl/\p.dl<p.dh/\p.dh<p.dr/\p.dr<p.dt
def Cg(a:BA)(p:LP):Nat->Prop:=λx=>Rg a x\/x=p.dl\/x=p.dh\/x=p.dr\/x=p.dt
section
variable{M M':Mem}{a:BA}{p:LP}{ls:List (Int×(Nat×Nat))}{he:List (Int×Nat)}{LC:Int->List En}{rs:List (Nat×Nat)}{RC:Nat->List En}{ts:List (Nat×Int)}{s:BO}
theorem CJ(h:a.sn<x):¬Rg a x:=λz=>Nat.not_lt.mpr z.2 h
theorem LM.od(l:LM M a p ls he LC rs RC ts):a.sn<p.dl/\a.sn<p.dh/\a.sn<p.dr/\a.sn<p.dt:=by
 obtain⟨_,o1,o2,o3,o4⟩:=l.o
 omega
theorem LM.ch(l:LM M a p ls he LC rs RC ts)(c:Ch (Rg a) M M'):LM M' a p ls he LC rs RC ts:=by
 obtain⟨o1,o2,o3,o4⟩:=l.od
 exact⟨c.2 _ _ (Mq l.o.1) l.hs,c.2 _ _ (CJ o1) l.dl,c.2 _ _ (CJ o2) l.dh,c.2 _ _ (CJ o3) l.dr,c.2 _ _ (CJ o4) l.dt,λt q h=>⟨c.2 _ _ (CJ (l.lv t q h).2) (l.lv t q h).1,(l.lv t q h).2⟩,λx r h=>⟨c.2 _ _ (CJ (l.rv x r h).2) (l.rv x r h).1,(l.rv x r h).2⟩,l.o⟩
theorem LM.gr(l:LM M a p ls he LC rs RC ts)(g:Gr M M'):LM M' a p ls he LC rs RC ts:=l.ch g.ch
theorem RD{i d:Nat}{ds:List D}{kvs:List (Key×D)}(h:M[i]? = some (.lst ds))(hd:M[d]? = some (.dk kvs)):i≠d:=λz=>by
 subst z
 rw[hd]at h
 cases h
theorem LM.nc(l:LM M a p ls he LC rs RC ts)(h:M[i]? = some (.lst ds))(ho:a.sn<i):¬Cg a p i:=by
 rintro(z | z | z | z | z)
 ·exact CJ ho z
 ·exact RD h l.dl z
 ·exact RD h l.dh z
 ·exact RD h l.dr z
 ·exact RD h l.dt z
theorem bA.out(h:bA M a s){d:Nat}{o:MO}(hd:a.sn<d):bA (M.set d o) a s:=h.ch (p:=(· = d)) (Ch.set rfl) λi _ h2 z=>by
 have z:i=d:=z
 omega
theorem rW{M:Mem}{i d:Nat}{o:MO}{ds:List D}{kvs:List (Key×D)}(h:M[i]? = some (.lst ds))(hd:M[d]? = some (.dk kvs)):(M.set d o)[i]? = some (.lst ds):=eV h (RD h hd)
theorem LM.aiA(l:LM M a p ls he LC rs RC ts)(x:Nat)(t:Int)(hl:ts.length<=1000):∃M',yC M (.ref p.dt) (.int (x:Int)) (.int t)=some M'/\LM M' a p ls he LC rs RC (gp ts x t)/\Ch (Cg a p) M M'/\(∀s,bA M a s->bA M' a s):=by
 have od:=l.od
 have o:=l.o
 refine⟨_,Ra l.dt x t hl,⟨rW l.hs l.dt,eV l.dl (),eV l.dh (),eV l.dr (),dU l.dt,λt q h=>⟨rW (l.lv t q h).1 l.dt,(l.lv t q h).2⟩,λx r h=>⟨rW (l.rv x r h).1 l.dt,(l.rv x r h).2⟩,l.o⟩,Ch.set (.inr (.inr (.inr (.inr rfl)))),λs h=>h.out od.2.2.2⟩
theorem LM.aiB(l:LM M a p ls he LC rs RC ts)(x r:Nat)(hr:M[r]? = some (.lst (R.map mW)))(ho:a.sn<r)(hl:rs.length<=1000):∃M',yC M (.ref p.dr) (.int (x:Int)) (.ref r)=some M'/\LM M' a p ls he LC (gp rs x r) (λy=>if y=x then R else RC y) ts/\Ch (Cg a p) M M'/\(∀s,bA M a s->bA M' a s):=by
 have od:=l.od
 have o:=l.o
 refine⟨_,Ra l.dr x r hl,⟨rW l.hs l.dr,eV l.dl (),eV l.dh (),dU l.dr,eV l.dt (),λt q h=>⟨rW (l.lv t q h).1 l.dr,(l.lv t q h).2⟩,λy z h=> ?_,l.o⟩,Ch.set (.inr (.inr (.inr (.inl rfl)))),λs h=>h.out od.2.2.1⟩
 rw[rZ]at h
 split at h
 ·rename_i e
  cases h
  exact⟨by rw[if_pos e];exact rW hr l.dr,ho⟩
 ·rename_i e
  exact⟨by rw[if_neg e];exact rW (l.rv y z h).1 l.dr,(l.rv y z h).2⟩
theorem LM.al5(l:LM M a p ls he LC rs RC ts)(t:Int)(w:Nat)(hl:he.length<=1000):∃M',yC M (.ref p.dh) (.int t) (.int (w:Int))=some M'/\LM M' a p ls (gp he t w) LC rs RC ts/\Ch (Cg a p) M M'/\(∀s,bA M a s->bA M' a s):=by
 have od:=l.od
 have o:=l.o
 refine⟨_,L_ l.dh t w hl,⟨rW l.hs l.dh,eV l.dl (),dU l.dh,eV l.dr (),eV l.dt (),λt q h=>⟨rW (l.lv t q h).1 l.dh,(l.lv t q h).2⟩,λx r h=>⟨rW (l.rv x r h).1 l.dh,(l.rv x r h).2⟩,l.o⟩,Ch.set (.inr (.inr (.inl rfl))),λs h=>h.out od.2.1⟩
theorem LM.al4(l:LM M a p ls he LC rs RC ts)(t:Int)(r n:Nat)(hr:M[r]? = some (.lst (R.map mW)))(ho:a.sn<r)(hl:ls.length<=1000):∃M',yC M (.ref p.dl) (.int t) (.tup [.ref r,.int (n:Int)])=some M'/\LM M' a p (gp ls t (r,n)) he (λy=>if y=t then R else LC y) rs RC ts/\Ch (Cg a p) M M'/\(∀s,bA M a s->bA M' a s):=by
 have od:=l.od
 have o:=l.o
 refine⟨_,L_ l.dl t (r,n) hl,⟨rW l.hs l.dl,dU l.dl,eV l.dh (),eV l.dr (),eV l.dt (),λy z h=> ?_,λx r h=>⟨rW (l.rv x r h).1 l.dl,(l.rv x r h).2⟩,l.o⟩,Ch.set (.inr (.inl rfl)),λs h=>h.out od.1⟩
 rw[rZ]at h
 split at h
 ·rename_i e
  cases h
  exact⟨by rw[if_pos e];exact rW hr l.dl,ho⟩
 ·rename_i e
  exact⟨by rw[if_neg e];exact rW (l.lv y z h).1 l.dl,(l.lv y z h).2⟩
theorem LM.eq(l:LM M a p ls he LC rs RC ts)(h1:∀t,LC t=LC' t)(h2:∀x,RC x=RC' x)(h3:he=he'):LM M a p ls he' LC' rs RC' ts:=by
 have e1:LC=LC':=funext h1
 have e2:RC=RC':=funext h2
 subst e1 e2 h3
 exact l
theorem J6{κ α:Type}[DecidableEq κ]{l:List (κ×α)}{k:κ}{x:α}(h:gv l k=none):gp l k x=l++[(k,x)]:=by
 unfold gp
 rw[P_,h]
 rfl
theorem uH{κ α:Type}[DecidableEq κ]{l:List (κ×α)}{k:κ}:(gv l k).isSome=true↔k∈l.map (·.1):=by
 rw[<-P_,List.any_eq_true,List.mem_map]
 constructor
 ·rintro⟨q,h1,h2⟩
  exact⟨q,h1,of_decide_eq_true h2⟩
 ·rintro⟨q,h1,h2⟩
  exact⟨q,h1,zah h2⟩
structure Iv(p:LP)(s:BO)(ls:List (Int×(Nat×Nat)))(rs:List (Nat×Nat))(ts:List (Nat×Int))(m:Nat):Prop where
 li:ls.map (·.1)=s.se.map (·.1)
 bt:∀t q,gv ls t=some q->s.beat t=q.2
 rr:∀x∈hds p.c,(gv rs x).isSome=true
 tt:∀x∈hds p.c,gv ts x=some (s.term x)
 so:(s.se.map (·.1)).Pairwise (· < ·)
 t1:∀t∈s.se.map (·.1),1<=t
 nr:rs.length<=m
 nt:ts.length<=m
 br:s.br= .non
 okl:∀t,∀e∈s.line t,Fp e
 okr:∀x,∀e∈s.row x,Fp e
end
def cell(ns:List Int)(k:Nat):Int:=ns.getD k 0
theorem Iu(ns:List Int)(k:Nat){kk:Int}(hk:kk=k):cQ [.cl (ns.map D.int),.int kk] M= .ok (.int (cell ns k)) M:=by
 subst hk
 simp only[cQ,uU,yf]
 by_cases h:k<ns.length
 ·have e:bf (.cl (ns.map D.int)) (.int k) M= .ok (.int ns[k]) M:=afB () (by simp[h])
  simp[h,e,cell]
 ·simp[h,cell]
theorem adU{α β:Type}(f:α->β)(xs:List α)(lo hi:Option Int):cut (xs.map f) lo hi=(cut xs lo hi).map f:=by
 unfold cut
 rw[zao,List.map_take,List.map_drop]
section
variable{M M':Mem}{a:BA}{p:LP}{ls:List (Int×(Nat×Nat))}{rs:List (Nat×Nat)}{ts:List (Nat×Int)}{s:BO}{ns:List Int}{T T':Int}{ah:D}{n j m k:Nat}{v9 v10 v11 Fq Zh Xh Vn:Option D}
def lvE(ns:List Int)(a:BA)(p:LP)(T:Int)(ah:D)(v9 v10 v11 Fq Zh Xh Vn:Option D):Sl:=[some (.cl (ns.map D.int)),some (.ref p.hl),some (.ref a.b),some (.ref p.dl),some (.ref p.dh),some (.ref p.dr),some (.ref p.dt),some (.int T),some ah,v9,v10,v11,Fq,Zh,Xh,Vn]
theorem Uq(l:LM M a p ls he LC rs RC ts)(hl:ts.length<=1000)(hi:i<5)(hx:x=p.c+11*i):
  ∃M',Ib (lvE ns a p T ah v9 (some (.int (i:Int))) v11 Fq Zh Xh Vn) M= .next (lvE ns a p T ah v9 (some (.int (i:Int))) v11 Fq Zh Xh Vn) M'/\LM M' a p ls he LC rs RC (gp ts x T)/\Ch (Cg a p) M M'/\(∀s,bA M a s->bA M' a s):=by
 obtain⟨M1,e1,l1,c1,b1⟩:=l.aiA x T hl
 have ix:=Uu l.hs hi
 rw[<-hx]at ix
 refine⟨M1,?_,l1,c1,b1⟩
 simp only[Ib,lvE]
 simp[ix,e1]
theorem Oj(hb:bA M a s)(l:LM M a p ls s.se s.line rs s.row ts)(iv:Iv p s ls rs ts m)(cs:Cs p.c k T s)(hc:p.c<16)(ha:Ah p.c k M a s ah)(g:Lg n j s)(hn:n<=300)(hj:j<=20)(hm:m<=100)(hk:k<3)(hlen:s.se.length=k):
  ∃s' M' T' ah' ls' rs' ts' al1,Ia (lvE ns a p T ah (some (.int (k:Int))) v10 none none none none none) M= .next (lvE ns a p T' ah' (some (.int (k:Int))) al1 none none none none none) M'/\bA M' a s'/\LM M' a p ls' s'.se s'.line rs' s'.row ts'/\Iv p s' ls' rs' ts' (m+3)/\Cs p.c (k+1) T' s'/\Ah p.c (k+1) M' a s' ah'/\Lg (n+30) (j+10) s'/\s'.se.length=k+1:=by
 obtain⟨T',hT'⟩:∃T':Int,T'=T+1+cell ns 1 / (2+(k:Int)) % 3:=⟨_,rfl⟩
 have hT:T<T':=()
 obtain⟨x,hx⟩:∃x,x=cell ns (2+k):=⟨_,rfl⟩
 obtain⟨w,hw⟩:∃w,w=p.c+11*k:=⟨_,rfl⟩
 obtain⟨nb,hnb⟩:∃nb:Nat,x / 42 % 4=(nb:Int):=⟨(x / 42 % 4).toNat,()⟩
 obtain⟨s',L',M1,r,e1,x1,hr,r0,po,g',ok,rp,len⟩:=Yg (cell:=x) hb cs hT hk hc g hn hj l.hs l.o.1 ha
 have cs':=cs.po hT po ok rp len
 rw[hnb,zam,<-hw]at po
 rw[hnb]at e1
 have ro:a.sn<r:=yA hb.lt r0
 have l1:=l.ch x1.c
 have lls:ls.length=k:=by rw[<-hlen,<-zao (f:=(·.1)) (as:=s.se),<-iv.li,zao]
 obtain⟨M2,e2,l2,c2,b2⟩:=l1.al4 T' r nb hr ro ()
 obtain⟨M3,e3,l3,c3,b3⟩:=l2.al5 T' w ()
 have nc1:=l1.nc hr ro
 have hr2:=c2.2 _ _ nc1 hr
 have hr3:=c3.2 _ _ (l2.nc hr2 ro) hr2
 obtain⟨M4,hM4⟩:∃M4:Mem,M4=M3++[.lst (L'.map mW)]:=⟨_,rfl⟩
 have g4:Gr M3 M4:=by rw[hM4];exact Gr.app
 have n3:M1.length<=M3.length:=yY c2.1 c3.1
 have sn3:a.sn<M3.length:=yA x1.h.lt n3
 obtain⟨M5,e5,l5,c5,b5⟩:=(l3.gr g4).aiB w M3.length (R:=L') (by rw[hM4];exact bB) sn3 (by have:=iv.nr;omega)
 obtain⟨M6,hM6⟩:∃M6:Mem,M6=M5++[.lst [.int (k:Int),.int 3,.int 4]]:=⟨_,rfl⟩
 have g6:Gr M5 M6:=by rw[hM6];exact Gr.app
 have so:M6[M5.length]? = some (.lst [.int (k:Int),.int 3,.int 4]):=by rw[hM6];exact bB
 have sn5:a.sn<M5.length:=by
  have:=g4.le
  have:=c5.1
  omega
 have nt:=iv.nt
 obtain⟨M7,e7,l7,c7,b7⟩:=Uq (ns:=ns) (T:=T') (ah:= .tup [.int T',.ref r,.int (nb:Int)]) (v9:=some (.int (k:Int))) (v11:=none) (Fq:=none) (Zh:=none) (Xh:=none) (Vn:=none) (l5.gr g6) () (i:=k) () hw
 have so7:=c7.2 _ _ ((l5.gr g6).nc so sn5) so
 obtain⟨M8,e8,l8,c8,b8⟩:=Uq (ns:=ns) (T:=T') (ah:= .tup [.int T',.ref r,.int (nb:Int)]) (v9:=some (.int (k:Int))) (v11:=none) (Fq:=none) (Zh:=none) (Xh:=none) (Vn:=none) l7 (by have:=j8 (k:=w) (x:=T') nt;omega) (i:=3) (x:=p.c+33) () ()
 have so8:=c8.2 _ _ (l7.nc so7 sn5) so7
 obtain⟨M9,e9,l9,c9,b9⟩:=Uq (ns:=ns) (T:=T') (ah:= .tup [.int T',.ref r,.int (nb:Int)]) (v9:=some (.int (k:Int))) (v11:=none) (Fq:=none) (Zh:=none) (Xh:=none) (Vn:=none) l8 (by have:=j8 (k:=p.c+33) (x:=T') (j8 (k:=w) (x:=T') nt);omega) (i:=4) (x:=p.c+44) () ()
 have so9:=c9.2 _ _ (l8.nc so8 sn5) so8
 have lp:cC (some (M5.length,[.int (k:Int),.int 3,.int 4])) (gN 10) Ib [.int (k:Int),.int 3,.int 4] (lvE ns a p T' (.tup [.int T',.ref r,.int (nb:Int)]) (some (.int (k:Int))) v10 none none none none none) M6= .next (lvE ns a p T' (.tup [.int T',.ref r,.int (nb:Int)]) (some (.int (k:Int))) (some (.int 4)) none none none none none) M9:=
  (O_ (sk so) rfl e7).trans ((O_ (sk so7) rfl e8).trans ((O_ (sk so8) rfl e9).trans (ahe (sk so9))))
 have hd0:gv s.se T'=none:=cs.hd T' hT
 have hd1:gv ls T'=none:=by
  cases z:gv ls T' with
  | none=>rfl
  | some q=>
   have:(gv s.se T').isSome=true:=uH.mpr (iv.li▸uH.mp (by rw[z];rfl))
   rw[hd0]at this
   cases this
 have lM:LM M9 a p (gp ls T' (r,nb)) s'.se s'.line (gp rs w M3.length) s'.row (gp (gp (gp ts w T') (p.c+33) T') (p.c+44) T'):=l9.eq (λt=>(po.ln t).symm) (λx=>(po.ro x).symm) po.se.symm
 refine⟨s',M9,T',.tup [.int T',.ref r,.int (nb:Int)],_,_,_,some (.int 4),?_,b9 _ (b8 _ (b7 _ (Bx.gr (b5 _ (Bx.gr (b3 _ (b2 _ x1.h)) g4).h) g6).h)),lM,?_,cs',?_,g',?_⟩
 ·simp only[Ia]
  have k1:cQ [.cl (ns.map D.int),.int 1] M= .ok (.int (cell ns 1)) M:=Iu ns 1 rfl
  have k2:cQ [.cl (ns.map D.int),.int (2+(k:Int))] M= .ok (.int x) M:=by rw[hx];exact Iu ns (2+k) ()
  have dv:tu (.int (cell ns 1)) (.int (2+(k:Int))) M= .ok (.int (cell ns 1 / (2+(k:Int)))) M:=rB () ()
  have md:j5 (.int (cell ns 1 / (2+(k:Int)))) (.int 3) M= .ok (.int (cell ns 1 / (2+(k:Int)) % 3)) M:=jn ()
  have ix:∀{N:Mem},N[p.hl]? = some (.lst (hv (hds p.c)))->bf (.ref p.hl) (.int (k:Int)) N= .ok (.int (w:Int)) N:=λh=>by rw[hw];exact Uu h ()
  have i2:=ix l2.hs
  have i4:=ix (l3.gr g4).hs
  have sl:Ca [.ref r] M3= .ok (.ref M3.length) M4:=by rw[hM4];exact Xv hr3
  refine d8 (e':=lvE ns a p T' ah (some (.int (k:Int))) v10 none none none none none) (M':=M) ?_ (d8 (e':=lvE ns a p T' (.tup [.int T',.ref r,.int (nb:Int)]) (some (.int (k:Int))) v10 none none none none none) (M':=M1) ?_ (d8 (e':=lvE ns a p T' (.tup [.int T',.ref r,.int (nb:Int)]) (some (.int (k:Int))) v10 none none none none none) (M':=M2) ?_ (d8 (e':=lvE ns a p T' (.tup [.int T',.ref r,.int (nb:Int)]) (some (.int (k:Int))) v10 none none none none none) (M':=M3) ?_ (d8 (e':=lvE ns a p T' (.tup [.int T',.ref r,.int (nb:Int)]) (some (.int (k:Int))) v10 none none none none none) (M':=M5) ?_ ?_))))
  ·simp only[lvE]
   simp[k1,dv,md,<-hT']
  ·simp only[lvE]
   simp[k2,e1]
  ·simp only[lvE]
   simp[e2]
  ·simp only[lvE]
   simp[i2,e3]
  ·simp only[lvE]
   simp[sl,i4,e5]
  ·simp only[WR]
   simp only[lvE]at lp ⊢
   simp[<-hM6,j7 so,lp]
 ·have wm:w∈hds p.c:=hw▸Wx ()
  refine⟨?_,λt q h=> ?_,λy hy=> ?_,λy hy=> ?_,?_,λt ht=> ?_,yY (j8 iv.nr) (),j8 (j8 (j8 nt)),po.br,λt e he=>(cs'.ok t e he).1,cs'.rk⟩
  ·rw[po.se,J6 hd0,J6 hd1,List.map_append,List.map_append,iv.li]
   rfl
  ·rw[rZ]at h
   rw[po.bt]
   split at h
   ·rename_i z
    cases h
    rw[if_pos z]
   ·rename_i z
    rw[if_neg z]
    exact iv.bt t q h
  ·rw[rZ]
   split
   ·rfl
   ·exact iv.rr y hy
  ·rw[rZ,rZ,rZ,po.tm]
   by_cases z1:y=p.c+44
   ·rw[if_pos z1,if_pos (.inr (.inr z1))]
   ·by_cases z2:y=p.c+33
    ·rw[if_neg z1,if_pos z2,if_pos (.inr (.inl z2))]
    ·by_cases z3:y=w
     ·rw[if_neg z1,if_neg z2,if_pos z3,if_pos (.inl z3)]
     ·rw[if_neg z1,if_neg z2,if_neg z3,if_neg ()]
      exact iv.tt y hy
  ·rw[po.se,J6 hd0,List.map_append,List.pairwise_append]
   refine⟨iv.so,List.pairwise_singleton _ _,λx hx y hy=> ?_⟩
   have hy:y=T':=by simpa using hy
   rw[hy]
   have:¬T<x:=λz=>by
    have q:=uH.mpr hx
    rw[show gv s.se x=none from cs.hd x z]at q
    cases q
   omega
  ·rw[po.se,J6 hd0,List.map_append,List.mem_append]at ht
   rcases ht with z | z
   ·exact iv.t1 t z
   ·have z:t=T':=by simpa using z
    have:=cs.T0
    omega
 ·refine .inr ⟨k,T',r,(nb:Int),rfl,rfl,?_,?_,by have:=cs.T0;omega,ro⟩
  ·have:=(lM.lv T' (r,nb) (by rw[rZ,if_pos rfl])).1
   exact this
  ·show gv s'.se T'=_
   rw[po.se,rZ,if_pos rfl,hw]
 ·rw[po.se,J6 hd0,List.length_append,hlen]
  rfl
end
section
variable{M M':Mem}{a:BA}{p:LP}{ls:List (Int×(Nat×Nat))}{rs:List (Nat×Nat)}{ts:List (Nat×Int)}{s:BO}{t q b:Int}{n j m x:Nat}
theorem ajD{α:Type}{g:α->D}{n:Nat}{l:List (Int×α)}(h:M[n]? = some (.dk (ge kI g l)))(k:Int):Jo (.int k) (.ref n) M= .ok (.bl (!(gv l k).isSome)) M:=by
 refine jg ?_
 have:yz M n (.int k)=some ((gv l k).map g,M):=by rw[Gp h];show some (pM (ge kI g l) (kI k),M)=_;rw[Aj Gh]
 simp only[Q3,this]
 simp
theorem adC{α:Type}{g:α->D}{n:Nat}{l:List (Nat×α)}(h:M[n]? = some (.dk (ge kN g l))){k:Nat}{x:α}(hx:gv l k=some x):bf (.ref n) (.int (k:Int)) M= .ok (g x) M:=by
 have e:yz M n (.int (k:Int))=some (some (g x),M):=by rw[Gp h];show some (pM (ge kN g l) (kN k),M)=_;rw[Aj Ow,hx];rfl
 refine jg ((pA ?_).trans ?_)
 ·simp only[KN,wD,m6,h]
 ·simp only[aab,e]
theorem Iv.none(iv:Iv p s ls rs ts m)(h:gv ls t=none):s.head t=none:=by
 cases z:s.head t with
 | none=>rfl
 | some c=>
  have:(gv ls t).isSome=true:=uH.mpr (iv.li.symm▸uH.mp (by rw[show gv s.se t=some c from z];rfl))
  rw[h]at this
  cases this
theorem Iv.some(iv:Iv p s ls rs ts m)(h:gv ls t=some y):∃c,s.head t=some c:=by
 have:(gv s.se t).isSome=true:=uH.mpr (iv.li▸uH.mp (by rw[h];rfl))
 exact Option.isSome_iff_exists.mp this
theorem adw(l:LM M a p ls s.se s.line rs s.row ts)(iv:Iv p s ls rs ts m)(hx:x∈hds p.c):vL [.ref p.dl,.ref p.dt,.ref p.dh,pT x t q b] M= .ok (.bl (s.Ek x t q b)) M:=by
 have i0:=ajD l.dl t
 have ix:=adC l.dt (iv.tt x hx)
 simp only[vL,Gw]
 refine RV ?_
 simp only[eU,fK,eO]
 obtain⟨E,hE⟩:∃E:Sl,E=[some (.ref p.dl),some (.ref p.dt),some (.ref p.dh),some (pT x t q b),some (.str "told"),some (.int (x:Int)),some (.int t),some (.int q),some (.int b)]:=⟨_,rfl⟩
 refine d8 (e':=E) (M':=M) (by rw[hE];simp[pT]) ?_
 unfold BO.Ek
 cases z:gv ls t with
 | none=>
  rw[z]at i0
  rw[iv.none z]
  simp at i0
  simp only[pH,hE]
  simp[i0]
 | some y=>
  rw[z]at i0
  obtain⟨c,hc⟩:=iv.some z
  have ih:=Yl l.dh hc
  have il:=Yl l.dl z
  simp only[nD]at ih
  simp only[lD]at il
  obtain⟨hl,_⟩:=l.lv t y z
  have ln:jj [.ref y.1] M= .ok (.int ((s.line t).length:Int)) M:=by rw[oX hl];simp
  rw[hc]
  simp at i0
  dsimp only
  by_cases z1:c=x
  ·rw[if_pos (.inl z1)]
   subst z1
   simp only[pH,hE]
   simp[i0,ih]
  ·have z1':¬((c:Int)=(x:Int)):=()
   by_cases z2:t<s.term x
   ·rw[if_pos (.inr z2)]
    simp only[pH,hE]
    simp[i0,ih,z1',ix,z2]
   ·rw[if_neg ()]
    refine d8 (e':=E) (M':=M) ?_ (J7 ?_)
    ·simp only[pH,hE]
     simp[i0,ih,z1',ix,z2]
    ·rw[hE]
     unfold BO.inT
     rw[iv.bt t y z]
     by_cases z3:0<=q
     ·by_cases z4:q<=(s.line t).length
      ·by_cases z5:0<=b
       ·simp[z3,il,ln,z4,z5]
       ·simp[z3,il,ln,z4,z5]
      ·simp[z3,il,ln,z4]
     ·simp[z3]
theorem Iv.told(iv:Iv p s ls rs ts m){q b:Nat}{rs':List (Nat×Nat)}(hx:x∈hds p.c)(hr:∀y∈hds p.c,(gv rs' y).isSome=true)(nr:rs'.length<=m+1):Iv p (s.told x t q b) ls rs' (gp ts x t) (m+1):=by
 refine⟨iv.li,iv.bt,hr,λy hy=> ?_,iv.so,iv.t1,nr,j8 iv.nt,iv.br,iv.okl,λy e he=> ?_⟩
 ·rw[rZ,Ni]
  split
  ·rfl
  ·exact iv.tt y hy
 ·rw[Bf]at he
  split at he
  ·unfold JW at he
   split at he
   ·exact iv.okr x e he
   ·exact iv.okl t e (List.mem_of_mem_take he)
  ·exact iv.okr y e he
def Ln(a:BA)(p:LP)(P:D)(d f:Bool)(v8 v9 v10 v11 Fq:Option D):Sl:=[some (.ref a.b),some (.ref p.dl),some (.ref p.dt),some (.ref p.dh),some (.ref p.dr),some P,some (.bl d),some (.bl f),v8,v9,v10,v11,Fq]
theorem adq(h:bA M a s)(l:LM M a p ls s.se s.line rs s.row ts)(iv:Iv p s ls rs ts m)(hx:x∈hds p.c)(t1:1<=t)(g:Lg n j s)(hn:n<=700)(hm:m<=700):
  ∃s' M' rs' ts',qQ [.ref a.b,.ref p.dl,.ref p.dt,.ref p.dh,.ref p.dr,pT x t q b] M= .ok (.bl true) M'/\bA M' a s'/\LM M' a p ls s'.se s'.line rs' s'.row ts'/\Iv p s' ls rs' ts' (m+1)/\Lg (n+1) j s'/\Ch (Cg a p) M M'/\s'.se=s.se:=by
 have du:=adw (t:=t) (q:=q) (b:=b) l iv hx
 have mt:=h.JH (m:= "take") rfl
 have a1:∀d:Bool,vL [.ref p.dl,.ref p.dt,.ref p.dh,pT x t q b] M= .ok (.bl d) M->cD (dw vL 4 [] (au (aq 1) (au (aq 2) (au (aq 3) (au (aq 5) aF))))) (gN 6) [some (.ref a.b),some (.ref p.dl),some (.ref p.dt),some (.ref p.dh),some (.ref p.dr),some (pT x t q b),none,none,none,none,none,none,none] M= .next [some (.ref a.b),some (.ref p.dl),some (.ref p.dt),some (.ref p.dh),some (.ref p.dr),some (pT x t q b),some (.bl d),none,none,none,none,none,none] M:=λd e=>by
  simp[e]
 have a2:∀d:Bool,cD (mC (.bl false)) (gN 7) [some (.ref a.b),some (.ref p.dl),some (.ref p.dt),some (.ref p.dh),some (.ref p.dr),some (pT x t q b),some (.bl d),none,none,none,none,none,none] M= .next (Ln a p (pT x t q b) d false none none none none none) M:=λd=>by
  simp[Ln]
 rcases Zy h (g.aki ()) (by rw[iv.br];rfl) (k:=x) (p:=q) (b:=b) t1 (iv.okl t) (iv.okr x)with⟨y,M1,e1,x1⟩ | ⟨y,e1⟩
 ·rw[y]at du
  obtain⟨q0,_,b0⟩:=Wb y
  obtain⟨q,rfl⟩:=Int.eq_ofNat_of_zero_le q0
  obtain⟨b,rfl⟩:=Int.eq_ofNat_of_zero_le b0
  rw[zam,zam]at x1
  have hd:∃y,gv ls t=some y:=by
   cases z:gv ls t with
   | none=>unfold BO.Ek at y;rw[iv.none z]at y;cases y
   | some y=>exact⟨y,rfl⟩
  obtain⟨y2,z2⟩:=hd
  obtain⟨r,hr⟩:=Option.isSome_iff_exists.mp (iv.rr x hx)
  have l1:=l.ch x1.c
  obtain⟨M2,e2,l2,c2,b2⟩:=l1.aiA x t (by have:=iv.nt;omega)
  obtain⟨hr2,_⟩:=l2.rv x r hr
  obtain⟨hl2,_⟩:=l2.lv t y2 z2
  have ir:=adC l2.dr hr
  obtain⟨M3,hM3⟩:∃M3:Mem,M3=M2++[.lst (((s.row x).take q).map mW)]:=⟨_,rfl⟩
  obtain⟨M4,hM4⟩:∃M4:Mem,M4=M3++[.lst (((s.line t).take q).map mW)]:=⟨_,rfl⟩
  have g3:Gr M2 M3:=by rw[hM3];exact Gr.app
  have g4:Gr M3 M4:=by rw[hM4];exact Gr.app
  have il3:=Yl (l2.gr g3).dl z2
  simp only[lD]at il3
  have s3:Xu (.ref r) none (some (q:Int)) M2= .ok (.ref M2.length) M3:=by rw[Ih hr2,Gq,<-hM3]
  have s4:Xu (.ref y2.1) none (some (q:Int)) M3= .ok (.ref M3.length) M4:=by rw[Ih (g3 _ _ hl2),Gq,<-hM4]
  have ne:sNe (.ref M2.length) (.ref M3.length) M4= .ok (.bl (!Y4 ((s.row x).take q) ((s.line t).take q))) M4:=wF (aby (g4 _ _ (by rw[hM3];exact bB)) (by rw[hM4];exact bB) (Lp (iv.okr x) q) (Lp (iv.okl t) q))
  have l4:=(l2.gr g3).gr g4
  have c4:Ch (Cg a p) M M4:=((x1.c.mono λ_ _ z=> .inl z).trans c2).trans (g3.trans g4).ch
  have b4:bA M4 a (s.told x t q b):=(Bx.gr (b2 _ x1.h) (g3.trans g4)).h
  have e3:uc (Ln a p (pT x t q b) true false none none none none none) M= .next (Ln a p (pT x t q b) true false none none none none none) M1:=by
   simp only[uc,yH,yQ,Ln]
   simp[mt,e1,Zt]
  have fin:∀{E:Sl} {N:Mem},E[6]? = some (some (.bl true))->E[7]? = some (some (.bl false))->bx (aD sNe (aq 7) (aq 6)) E N= .ret (.bl true) N:=λh6 h7=>by
   have v6:∀N:Mem,aq 6 _ N= .ok (.bl true) N:=λN=>cO h6
   have v7:∀N:Mem,aq 7 _ N= .ok (.bl false) N:=λN=>cO h7
   simp[v6,v7]
  have go:∀{N:Mem},t_ (Ln a p (pT x t q b) true false (some (.str "told")) (some (.int (x:Int))) (some (.int t)) (some (.int (q:Int))) (some (.int (b:Int)))) M2= .next (Ln a p (pT x t q b) true false (some (.str "told")) (some (.int (x:Int))) (some (.int t)) (some (.int (q:Int))) (some (.int (b:Int)))) N->qQ [.ref a.b,.ref p.dl,.ref p.dt,.ref p.dh,.ref p.dr,pT x t q b] M= .ok (.bl true) N:=λ{N} e4=>by
   simp only[qQ,Bu]
   refine RV ?_
   simp only[eU,fK,eO]
   refine d8 (a1 true du) (d8 (a2 true) (d8 e3 (d8 (e':=Ln a p (pT x t q b) true false (some (.str "told")) (some (.int (x:Int))) (some (.int t)) (some (.int (q:Int))) (some (.int (b:Int)))) (M':=N) ?_ (fin rfl rfl))))
   simp only[Ag]
   refine anB (M':=M1) (by simp[Ln]) (d8 (e':=Ln a p (pT x t q b) true false (some (.str "told")) (some (.int (x:Int))) (some (.int t)) (some (.int (q:Int))) (some (.int (b:Int)))) (M':=M1) (by simp[Ln,pT]) (d8 (e':=Ln a p (pT x t q b) true false (some (.str "told")) (some (.int (x:Int))) (some (.int t)) (some (.int (q:Int))) (some (.int (b:Int)))) (M':=M2) (by simp[Ln,e2]) e4))
  cases z:Y4 ((s.row x).take q) ((s.line t).take q)with
  | true=>
   rw[z]at ne
   refine⟨s.told x t q b,M4,rs,gp ts x t,go ?_,b4,l4.eq (λ_=>rfl) (λy=> ?_) rfl,iv.told hx iv.rr (wP iv.nr),g.told x q b t,c4,rfl⟩
   ·simp only[t_,Ln]
    simp[ir,s3,il3,s4,ne]
   ·rw[Bf]
    split
    ·rename_i e
     rw[e]
     unfold JW
     rw[if_pos z]
    ·rfl
  | false=>
   rw[z]at ne
   obtain⟨M5,hM5⟩:∃M5:Mem,M5=M4++[.lst (((s.line t).take q).map mW)]:=⟨_,rfl⟩
   have g5:Gr M4 M5:=by rw[hM5];exact Gr.app
   have il4:=Yl l4.dl z2
   simp only[lD]at il4
   have s5:Xu (.ref y2.1) none (some (q:Int)) M4= .ok (.ref M4.length) M5:=by rw[Ih (l4.lv t y2 z2).1,Gq,<-hM5]
   obtain⟨M6,e6,l6,c6,b6⟩:=(l4.gr g5).aiB x M4.length (R:=(s.line t).take q) (by rw[hM5];exact bB) b4.lt (by have:=iv.nr;omega)
   refine⟨s.told x t q b,M6,gp rs x M4.length,gp ts x t,go ?_,b6 _ (Bx.gr b4 g5).h,l6.eq (λ_=>rfl) (λy=> ?_) rfl,iv.told hx (λy hy=> ?_) (j8 iv.nr),g.told x q b t,(c4.trans g5.ch).trans c6,rfl⟩
   ·simp only[t_,Ln]
    simp[ir,s3,il3,s4,ne,il4,s5,e6]
   ·rw[Bf]
    by_cases e:y=x
    ·rw[if_pos e,if_pos e]
     unfold JW
     rw[if_neg (by rw[z];exact xA)]
    ·rw[if_neg e,if_neg e]
   ·rw[rZ]
    split
    ·rfl
    ·exact iv.rr y hy
 ·rw[y]at du
  refine⟨s,M,rs,ts,?_,h,l,⟨iv.li,iv.bt,iv.rr,iv.tt,iv.so,iv.t1,wP iv.nr,wP iv.nt,iv.br,iv.okl,iv.okr⟩,⟨wP g.tm,wP g.vt,wP g.ak,wP g.ro,wP g.pl,wP g.hd,wP g.bt,g.se,g.ln⟩,Ch.refl,rfl⟩
  simp only[qQ,Bu]
  refine RV ?_
  simp only[eU,fK,eO]
  refine d8 (a1 false du) (d8 (a2 false) (d8 (e':=Ln a p (pT x t q b) false true none none none none none) (M':=M) ?_ (d8 (e':=Ln a p (pT x t q b) false true none none none none none) (M':=M) ?_ (J7 ?_))))
  ·simp only[uc,yH,yQ,Ln]
   simp[mt,e1,Zt,List.lookup]
  ·simp only[Ag,Ln]
   simp
  ·simp[Ln]
end
section
variable{M M':Mem}{a:BA}{p:LP}{ls:List (Int×(Nat×Nat))}{rs:List (Nat×Nat)}{ts:List (Nat×Int)}{s:BO}{t:Int}{m x:Nat}{v5 v6:Option D}
def T6(a:BA)(p:LP)(v5 v6:Option D):Sl:=[some (.ref a.b),some (.ref p.hl),some (.ref p.dl),some (.ref p.dt),some (.ref p.dr),v5,v6]
theorem abJ(h:bA M a s)(x:Nat):pU [.ref a.b,.int (x:Int)] M= .ok (.int (s.term x)) M:=by
 simp only[pU,p_]
 simp[h.fbl,h.mj (m:= "term_of") rfl,Bg h x]
theorem ad7(h:bA M a s)(x:Nat):rO [.ref a.b,.int (x:Int)] M= .ok (.ref M.length) (M++[.lst ((s.row x).map mW)]):=by
 have ls:Ca [esD (s.row x)] M= .ok (.ref M.length) (M++[.lst ((s.row x).map mW)]):=rfl
 simp only[rO,sU]
 simp[h.Yq,h.pO (m:= "row_of") rfl,wJ h x,ls]
theorem abL(h:bA M a s)(t:Int):w6 [.ref a.b,.int t] M= .ok (.ref M.length) (M++[.lst ((s.line t).map mW)]):=by
 have ls:Ca [esD (s.line t)] M= .ok (.ref M.length) (M++[.lst ((s.line t).map mW)]):=rfl
 simp only[w6,xV]
 simp[h.Yq,h.pO (m:= "line") rfl,Es h t,ls]
structure R1(M0:Mem)(a:BA)(p:LP)(i:Nat)(e:Sl)(M:Mem):Prop where
 g:Gr M0 M
 e:∃v,e=T6 a p v none
theorem agF(h:bA M a s)(l:LM M a p ls s.se s.line rs s.row ts)(iv:Iv p s ls rs ts m):
  ∃M1 v,uJ (T6 a p none none) M= .next (T6 a p v none) M1/\Gr M M1:=by
 obtain⟨e',M1,lp,hg,v,rfl⟩:=qR (src:=some (p.hl,hv (hds p.c))) (g:=gN 5) (b:=uv) (R1 M a p) (ds:=hv (hds p.c)) (e:=T6 a p none none) (M:=M)
  ⟨Gr.refl,_,rfl⟩ (λi e M' _ q=>sk (q.g _ _ l.hs)) λi d e M' hd q=>by
   obtain⟨gr,v,rfl⟩:=q
   obtain⟨x,hx,rfl⟩:∃x,x∈hds p.c/\D.int (x:Int)=d:=by
    rw[hv,zan,Option.map_eq_some_iff]at hd
    obtain⟨x,h1,h2⟩:=hd
    exact⟨x,zaa h1,h2⟩
   have b1:=(Bx.gr h gr).h
   have l1:=l.gr gr
   have e1:=abJ b1 x
   have e2:=ad7 b1 x
   have i1:=adC l1.dt (iv.tt x hx)
   obtain⟨r,hr⟩:=Option.isSome_iff_exists.mp (iv.rr x hx)
   obtain⟨N,hN⟩:∃N:Mem,N=M'++[.lst ((s.row x).map mW)]:=⟨_,rfl⟩
   rw[<-hN]at e2
   have g1:Gr M' N:=by rw[hN];exact Gr.app
   have i2:=adC (l1.gr g1).dr hr
   have ne:sNe (.ref M'.length) (.ref r) N= .ok (.bl false) N:=by
    rw[wF (aby (by rw[hN];exact bB) ((l1.gr g1).rv x r hr).1 (iv.okr x) (iv.okr x)),SQ (iv.okr x)]
    rfl
   refine⟨T6 a p (some (.int (x:Int))) none,rfl,?_⟩
   simp only[uv,Cm,T6]
   simp[b1.JH (m:= "term_of") rfl,e1,i1,b1.JH (m:= "row_of") rfl,e2,i2,ne]
   exact⟨gr.trans g1,_,rfl⟩
 refine⟨M1,v,?_,hg⟩
 simp only[uJ]
 simp only[T6]at lp ⊢
 simp[j7 l.hs,lp]
structure R2(M0:Mem)(a:BA)(p:LP)(v5:Option D)(i:Nat)(e:Sl)(M:Mem):Prop where
 g:Gr M0 M
 e:∃v,e=T6 a p v5 v
theorem agE(h:bA M a s)(l:LM M a p ls s.se s.line rs s.row ts)(iv:Iv p s ls rs ts m):
  ∃M1 v,uI (T6 a p v5 none) M= .next (T6 a p v5 v) M1/\Gr M M1:=by
 obtain⟨F,hF⟩:∃F:Mem,F=M.set p.dl (.fd (ge kI lD ls)):=⟨_,rfl⟩
 have fd:F[p.dl]? = some (.fd (ge kI lD ls)):=by rw[hF];exact dU l.dl
 have cF:Ch (· = p.dl) M F:=by rw[hF];exact Ch.set rfl
 have bF:bA F a s:=by rw[hF];exact h.out l.od.1
 have kp:∀{i:Nat} {ds:List D},M[i]? = some (.lst ds)->F[i]? = some (.lst ds):=λz=>by rw[hF];exact rW z l.dl
 obtain⟨e',M1,lp,hg,v,rfl⟩:=qR (src:=none) (g:=gN 6) (b:=uq) (R2 F a p v5) (ds:=(ge kI lD ls).map λq=>Ab q.1) (e:=T6 a p v5 none) (M:=F)
  ⟨Gr.refl,_,rfl⟩ (λ_ _ _ _ _=>trivial) λi d e M' hd q=>by
   obtain⟨gr,v,rfl⟩:=q
   obtain⟨t,ht,rfl⟩:∃t:Int,t∈ls.map (·.1)/\D.int t=d:=by
    unfold ge at hd
    rw[List.map_map,zan,Option.map_eq_some_iff]at hd
    obtain⟨q,h1,h2⟩:=hd
    exact⟨q.1,List.mem_map_of_mem (zaa h1),h2⟩
   obtain⟨y,hy⟩:=Option.isSome_iff_exists.mp (uH.mpr ht)
   have b1:=(Bx.gr bF gr).h
   have e2:=abL b1 t
   obtain⟨N,hN⟩:∃N:Mem,N=M'++[.lst ((s.line t).map mW)]:=⟨_,rfl⟩
   rw[<-hN]at e2
   have g1:Gr M' N:=by rw[hN];exact Gr.app
   have ix:T3 (.ref p.dl) (.int t) N= .ok (lD y) N:=acC (g1 _ _ (gr _ _ fd)) (by
    have q:=Aj (g:=lD) Gh (l:=ls) (k:=t)
    rw[hy]at q
    exact q)
   simp only[lD]at ix
   have ne:sNe (.ref M'.length) (.ref y.1) N= .ok (.bl false) N:=by
    rw[wF (aby (by rw[hN];exact bB) (g1 _ _ (gr _ _ (kp (l.lv t y hy).1))) (iv.okl t) (iv.okl t)),SQ (iv.okl t)]
    rfl
   refine⟨T6 a p v5 (some (.int t)),rfl,?_⟩
   simp only[uq,Ck,T6]
   simp[b1.JH (m:= "line") rfl,e2,ix,ne]
   exact⟨gr.trans g1,_,rfl⟩
 have fd1:=hg _ _ fd
 obtain⟨N,hN⟩:∃N:Mem,N=M1.set p.dl (.dk (ge kI lD ls)):=⟨_,rfl⟩
 have keep:∀{i:Nat} {o:MO},i≠p.dl->M[i]? = some o->N[i]? = some o:=λhi z=>by
  rw[hN]
  exact eV (hg _ _ (cF.2 _ _ hi z)) hi
 have dN:N[p.dl]? = some (.dk (ge kI lD ls)):=by rw[hN];exact dU fd1
 have gN:Gr M N:=λi o z=>by
  by_cases e:i=p.dl
  ·subst e
   rw[l.dl]at z
   cases z
   exact dN
  ·exact keep e z
 refine⟨N,v,?_,gN⟩
 simp only[uI]
 simp only[T6]at lp ⊢
 simp[abu l.dl,<-hF,lp,Tr fd1,<-hN]
theorem ajY{α:Type}{g:α->D}{l:List (Int×α)}:gU ((ge kI g l).map λp=>Ab p.1)=some (l.map (·.1)):=by
 have e:((ge kI g l).map λp=>Ab p.1)=(l.map (·.1)).map D.int:=by
  unfold ge
  rw[List.map_map,List.map_map]
  rfl
 rw[e,wA]
theorem agH(h:M[n]? = some (.dk kvs)):jj [.ref n] M= .ok (.int kvs.length) M:=by
 refine T_ ((ac5 ?_).trans ?_)
 ·simp only[QZ,vp,wD,m6,h]
 ·simp only[VB,h]
theorem Yd(h:bA M a s)(l:LM M a p ls s.se s.line rs s.row ts)(iv:Iv p s ls rs ts m)(hn:s.se.length<=50):
  ∃M',zW [.ref a.b,.ref p.hl,.ref p.dl,.ref p.dt,.ref p.dr] M= .ok (.bl true) M'/\Gr M M':=by
 obtain⟨M1,v,e1,g1⟩:=agF h l iv
 obtain⟨M2,v',e2,g2⟩:=agE (v5:=v) (Bx.gr h g1).h (l.gr g1) iv
 have b2:=(Bx.gr h (g1.trans g2)).h
 have l2:=l.gr (g1.trans g2)
 obtain⟨M3,hM3⟩:∃M3:Mem,M3=M2++[.lst ((ge kI nD s.se).map V4)]:=⟨_,rfl⟩
 have g3:Gr M2 M3:=by rw[hM3];exact Gr.app
 have so:wC (.ref a.se) M2= .ok (.ref M2.length) M3:=by
  rw[hM3]
  exact TF b2.se ajY iv.so (by rw[Ak];omega)
 have ch:rP [.ref a.b] M2= .ok (.ref M2.length) M3:=by
  have e:nM [.ref a.bl] M2= .ok (.ref M2.length) M3:=by
   simp only[nM,nW]
   simp[b2.fse,so]
  simp only[rP,sV]
  simp[b2.fbl,b2.mj (m:= "chairs") rfl,e]
 have n1:jj [.ref M2.length] M3= .ok (.int (s.se.length:Int)) M3:=by
  rw[oX (by rw[hM3];exact bB),zao,Ak]
 have n2:jj [.ref p.dl] M3= .ok (.int (s.se.length:Int)) M3:=by
  rw[agH (g3 _ _ l2.dl),Ak,<-zao (f:=(·.1)) (as:=ls),iv.li,zao]
 refine⟨M3,?_,(g1.trans g2).trans g3⟩
 simp only[zW,Ax]
 refine RV ?_
 simp only[eU,fK,eO]
 refine d8 e1 (d8 e2 (J7 ?_))
 simp[T6,b2.JH (m:= "chairs") rfl,ch,n1,n2]
end
section
variable{M M':Mem}{a:BA}{p:LP}{ls:List (Int×(Nat×Nat))}{rs:List (Nat×Nat)}{ts:List (Nat×Int)}{s:BO}{ns:List Int}{T:Int}{ah:D}{n j m:Nat}{v9 v10 Fq Zh Xh Vn:Option D}
theorem adz(h:bA M a s)(l:LM M a p ls s.se s.line rs s.row ts)(iv:Iv p s ls rs ts m)(g:Lg n j s)(hn:n<=700)(hm:m<=700)(h3:s.se.length=3)(x:Int):
  ∃s' M' rs' ts' T' w12 w13 w14 w15,DG (lvE ns a p T ah v9 v10 (some (.int x)) Fq Zh Xh Vn) M= .next (lvE ns a p T' ah v9 v10 (some (.int x)) w12 w13 w14 w15) M'/\bA M' a s'/\LM M' a p ls s'.se s'.line rs' s'.row ts'/\Iv p s' ls rs' ts' (m+1)/\Lg (n+1) j s'/\Ch (Cg a p) M M'/\s'.se.length=3:=by
 have md:∀(z j:Int) (M:Mem),0<j->j5 (.int z) (.int j) M= .ok (.int (z % j)) M:=λz j M h=>jn h
 have dv:∀(z j:Int) (M:Mem),0<j->j<1073741824->tu (.int z) (.int j) M= .ok (.int (z / j)) M:=λz j M h h'=>rB h h'
 obtain⟨i,hi⟩:∃i:Nat,x % 5=(i:Int):=⟨(x % 5).toNat,()⟩
 have i5:i<5:=()
 obtain⟨w,hw⟩:∃w,w=p.c+11*i:=⟨_,rfl⟩
 have ix:=Uu l.hs i5
 rw[<-hw]at ix
 have wm:w∈hds p.c:=hw▸Wx i5
 have n3:ls.length=3:=by rw[<-zao (f:=(·.1)) (as:=ls),iv.li,zao,h3]
 obtain⟨M1,hM1⟩:∃M1:Mem,M1=M++[.lst ((PySem.W.sortI (ls.map (·.1))).map D.int)]:=⟨_,rfl⟩
 have g1:Gr M M1:=by rw[hM1];exact Gr.app
 have so:oW [.ref p.dl] M= .ok (.ref M.length) M1:=by rw[hM1];exact GP l.dl ajY (by rw[Ak];omega)
 obtain⟨k,hk⟩:∃k:Nat,x / 5 % 3=(k:Int):=⟨(x / 5 % 3).toNat,()⟩
 have ln:(PySem.W.sortI (ls.map (·.1))).length=3:=by rw[(PySem.W.sortI_perm _).length_eq,zao,n3]
 obtain⟨u,hu⟩:∃u,(PySem.W.sortI (ls.map (·.1)))[k]? = some u:=⟨_,zad ()⟩
 have um:u∈ls.map (·.1):=(PySem.W.sortI_perm _).mem_iff.mp (zaa hu)
 have iu:bf (.ref M.length) (.int (k:Int)) M1= .ok (.int u) M1:=NK (by rw[hM1];exact bB) () (by rw[zam,zan,hu];rfl)
 obtain⟨y,hy⟩:=Option.isSome_iff_exists.mp (uH.mpr um)
 have l1:=l.gr g1
 have b1:=(Bx.gr h g1).h
 have il:=Yl l1.dl hy
 simp only[lD]at il
 have lq:jj [.ref y.1] M1= .ok (.int ((s.line u).length:Int)) M1:=by rw[oX (l1.lv u y hy).1];simp
 obtain⟨q,hq⟩:∃q:Int,q=x / 30 % ((s.line u).length+4) - 1:=⟨_,rfl⟩
 obtain⟨b,hb⟩:∃b:Int,b=x / 210 % (y.2+3) - 1:=⟨_,rfl⟩
 have u1:1<=u:=iv.t1 u (iv.li▸um)
 obtain⟨t,ht,t1⟩:∃t:Int,t=(if x / 15 % 8=7 then u+1 else u)/\1<=t:=⟨_,rfl,by split<;>omega⟩
 obtain⟨s',M2,rs',ts',e2,b2,l2,iv2,g2,c2,se2⟩:=adq (q:=q) (b:=b) b1 l1 iv wm t1 g hn hm
 have e2':qQ [.ref a.b,.ref p.dl,.ref p.dt,.ref p.dh,.ref p.dr,.tup [.str "told",.int (w:Int),.int t,.int q,.int b]] M1= .ok (.bl true) M2:=e2
 obtain⟨M3,e3,g3⟩:=Yd b2 l2 iv2 (by rw[se2];omega)
 refine⟨s',M3,rs',ts',t,some (.int (w:Int)),some (.ref M.length),some (.int q),some (.int b),?_,(Bx.gr b2 g3).h,l2.gr g3,iv2,g2,(g1.ch.trans c2).trans g3.ch,by rw[se2];exact h3⟩
 simp only[DG]
 refine d8 (e':=lvE ns a p T ah v9 v10 (some (.int x)) (some (.int (w:Int))) Zh Xh Vn) (M':=M) ?_ (d8 (e':=lvE ns a p T ah v9 v10 (some (.int x)) (some (.int (w:Int))) (some (.ref M.length)) Xh Vn) (M':=M1) ?_ (d8 (e':=lvE ns a p u ah v9 v10 (some (.int x)) (some (.int (w:Int))) (some (.ref M.length)) Xh Vn) (M':=M1) ?_
  (d8 (e':=lvE ns a p u ah v9 v10 (some (.int x)) (some (.int (w:Int))) (some (.ref M.length)) (some (.int q)) Vn) (M':=M1) ?_ (d8 (e':=lvE ns a p u ah v9 v10 (some (.int x)) (some (.int (w:Int))) (some (.ref M.length)) (some (.int q)) (some (.int b))) (M':=M1) ?_
  (d8 (e':=lvE ns a p t ah v9 v10 (some (.int x)) (some (.int (w:Int))) (some (.ref M.length)) (some (.int q)) (some (.int b))) (M':=M1) ?_ (d8 (e':=lvE ns a p t ah v9 v10 (some (.int x)) (some (.int (w:Int))) (some (.ref M.length)) (some (.int q)) (some (.int b))) (M':=M2) ?_ ?_))))))
 ·simp only[lvE]
  simp[md,hi,ix]
 ·simp only[lvE]
  simp[so]
 ·simp only[lvE]
  simp[dv,md,hk,iu]
 ·have m1:j5 (.int (x / 30)) (.int (((s.line u).length:Int)+4)) M1= .ok (.int (x / 30 % ((s.line u).length+4))) M1:=jn ()
  simp only[lvE]
  simp[dv,il,lq,m1,<-hq]
 ·have m1:j5 (.int (x / 210)) (.int ((y.2:Int)+3)) M1= .ok (.int (x / 210 % (y.2+3))) M1:=jn ()
  simp only[lvE]
  simp[dv,il,m1,<-hb]
 ·simp only[Wu,lvE]
  by_cases z:x / 15 % 8=7
  ·rw[if_pos z]at ht
   simp[dv,md,z,ht]
  ·rw[if_neg z]at ht
   simp[dv,md,z,ht]
 ·simp only[Wt,lvE]
  simp[e2']
 ·simp only[Wr,lvE]
  simp[e3]
structure aop(ns:List Int)(a:BA)(p:LP)(ls:List (Int×(Nat×Nat)))(ah:D)(v9 v10:Option D)(sl:Nat)(cs:List D)(n j m:Nat)(i:Nat)(e:Sl)(M:Mem):Prop where
 h:∃s rs ts T w11 w12 w13 w14 w15,e=lvE ns a p T ah v9 v10 w11 w12 w13 w14 w15/\bA M a s/\LM M a p ls s.se s.line rs s.row ts/\Iv p s ls rs ts (m+i)/\Lg (n+i) j s/\M[sl]? = some (.lst cs)/\s.se.length=3
theorem ady(h:bA M a s)(l:LM M a p ls s.se s.line rs s.row ts)(iv:Iv p s ls rs ts m)(g:Lg n j s)(hn:n<=500)(hm:m<=500)(h3:s.se.length=3){cs:List Int}{sl:Nat}(hs:M[sl]? = some (.lst (cs.map D.int)))(ho:a.sn<sl)(hl:cs.length<=100):
  ∃s' M' e',cC (some (sl,cs.map D.int)) (gN 11) DG (cs.map D.int) (lvE ns a p T ah v9 v10 none none none none none) M= .next e' M'/\bA M' a s'/\s'.br= .non/\e'[2]? = some (some (.ref a.b)):=by
 obtain⟨e',M1,lp,s',rs',ts',T',w11,w12,w13,w14,w15,rfl,b1,_,iv1,_⟩:=qR (src:=some (sl,cs.map D.int)) (g:=gN 11) (b:=DG) (aop ns a p ls ah v9 v10 sl (cs.map D.int) n j m) (ds:=cs.map D.int) (e:=lvE ns a p T ah v9 v10 none none none none none) (M:=M)
  ⟨s,rs,ts,T,none,none,none,none,none,rfl,h,l,iv,g,hs,h3⟩ (λi e M' _ q=>by
   obtain⟨_,_,_,_,_,_,_,_,_,_,_,_,_,_,z,_⟩:=q.h
   exact sk z) λi d e M' hd q=>by
   obtain⟨s,rs,ts,T,w11,w12,w13,w14,w15,rfl,b,l,iv,g,z,h3⟩:=q.h
   have hi:i<cs.length:=by have:=(List.getElem?_eq_some_iff.mp hd).1;simpa using this
   obtain⟨x,rfl⟩:∃x:Int,D.int x=d:=by
    rw[zan,Option.map_eq_some_iff]at hd
    obtain⟨x,_,h2⟩:=hd
    exact⟨x,h2⟩
   obtain⟨s',M2,rs',ts',T',y12,y13,y14,y15,e2,b2,l2,iv2,g2,c2,se2⟩:=adz (ns:=ns) (T:=T) (ah:=ah) (v9:=v9) (v10:=v10) (Fq:=w12) (Zh:=w13) (Xh:=w14) (Vn:=w15) b l iv g () () h3 x
   refine⟨lvE ns a p T ah v9 v10 (some (.int x)) w12 w13 w14 w15,rfl,?_⟩
   rw[e2]
   exact⟨s',rs',ts',T',_,_,_,_,_,rfl,b2,l2,iv2,g2,c2.2 _ _ (l.nc z ho) z,se2⟩
 exact⟨s',M1,_,lp,b1,iv1.br,rfl⟩
end
section
variable{M:Mem}
theorem pf{c:Nat}{cs:List Nat}{fs:List (Str×D)}{xs:List MO}{f:Str}{d:D}(h:c∈cs)(h2:fs.length<1000):j6 cs f d (.ref M.length) (M++(MO.ins c fs::xs))=some (M++(MO.ins c (putD f d fs)::xs)):=by
 rw[jf (by simp:(M++(MO.ins c fs::xs))[M.length]? = some (.ins c fs)) h h2]
 simp
theorem aaP:∀{fs:List (Str×D)},(putD f d fs).length<=fs.length+1
 | []=>zac _
 | (x,e)::r=>by
  unfold putD
  split
  ·exact Nat.le_succ _
  ·exact Nat.succ_le_succ aaP
theorem aaO{f:Str}{d:D}{fs:List (Str×D)}{n:Nat}(h:fs.length<n):(putD f d fs).length<n+1:=Nat.lt_of_le_of_lt aaP (Nat.succ_lt_succ h)
theorem YH:rR [.ref M.length,.ref r] (M++[.ins 0 []])= .ok .non (M++[.ins 0 [("rules",.ref r),("terms",.ref (M.length+1)),("votes",.ref (M.length+2)),("askings",.ref (M.length+3)),("seated",.ref (M.length+4))],.dk [],.dk [],.dk [],.dk []]):=by
 simp only[rR,sX]
 simp(maxDischargeDepth:=9) [pf,aaO]
 rfl
theorem ZP:rK [.ref M.length,dd,.ref r] (M++[.ins 7 []])= .ok .non (M++[.ins 7 [("first_roll",dd),("rules",.ref r),("rows",.ref (M.length+1)),("lines",.ref (M.length+2)),("marks",.ref (M.length+3)),("places",.ref (M.length+4))],.dk [],.dk [],.dk [],.dk []]):=by
 simp only[rK,sI]
 simp(maxDischargeDepth:=9) [pf,aaO]
 rfl
theorem aaq : rM [.ref M.length] (M++[.ins 5 []])= .ok .non (M++[.ins 5 [("beats",.ref (M.length+1)),("heard",.ref (M.length+2)),("looks",.ref (M.length+3)),("seen",.ref (M.length+4))],.dk [],.dk [],.dk [],.dk []]):=by
 simp only[rM,sJ]
 simp(maxDischargeDepth:=9) [pf,aaO]
 rfl
def adr(b n:Nat):BA:=⟨b,b+1,n,n+1,n+2,n+3,n+4,n+5,n+6,n+7,n+8,n+9,n+10,n+11,n+12,n+13,n+14⟩
def b0(S:Nat)(r1 r2 r3 r4:Bool):BO:=⟨S,r1,r2,r3,r4,0,.non,[],[],[],[],[],[],[],[],[],[],[],[]⟩
theorem abN{S:Nat}{b1 b2 b3 b4:Bool}
  (hr:∀(o:MO) (e:Sl),mIf (aZ (aD sIs (aq 2) (mC .non))) (z6 6 jD 2 [(.str "once best own most")] aF) (aU 6 "twin" Eo 1 [] (aq 2) aF) [some (.ref M.length),some (.int (S:Int)),some r] (M++[.ins 8 [("first",.int (S:Int))]])= .ok (.ref (M.length+1)) N1)
  (g:Gr (M++[.ins 8 [("first",.int (S:Int))]]) N1) (hN:N1[M.length+1]? = some (Xy b1 b2 b3 b4)):
  ∃M',qL [.ref M.length,.int (S:Int),r] (M++[.ins 8 []])= .ok .non M'/\bA M' (adr M.length N1.length) (b0 S b1 b2 b3 b4)/\Gr M M':=by
 have hl:=GZ hN
 obtain⟨a,ha⟩:∃a,a=adr M.length N1.length:=⟨_,rfl⟩
 have h1:N1[M.length]? = some (.ins 8 [("first",.int (S:Int))]):=g _ _ (by simp)
 have p1:j6 [8] "first" (.int (S:Int)) (.ref M.length) (M++[.ins 8 []])=some (M++[.ins 8 [("first",.int (S:Int))]]):=by
  rw[jf (by simp:(M++[MO.ins 8 []])[M.length]? = some (.ins 8 [])) (by simp) (by simp)]
  simp[putD]
 have p2:j6 [0,7,8] "rules" (.ref (M.length+1)) (.ref M.length) N1=some (N1.set M.length (.ins 8 [("first",.int (S:Int)),("rules",.ref (M.length+1))])):=by
  rw[jf h1 (by simp) (by simp)];rfl
 obtain⟨A,hA⟩:∃A,A=N1.set M.length (.ins 8 [("first",.int (S:Int)),("rules",.ref (M.length+1))]):=⟨_,rfl⟩
 have lA:A.length=N1.length:=by rw[hA,List.length_set]
 have hA0:A[M.length]? = some (.ins 8 [("first",.int (S:Int)),("rules",.ref (M.length+1))]):=by rw[hA];exact get_set h1
 have fA:mX [0,7,8] "rules" (.ref M.length) A= .ok (.ref (M.length+1)) A:=dj hA0 (by simp) rfl
 have e3:=YH (M:=A) (r:=M.length+1)
 obtain⟨B0,hB0⟩:∃B0,B0=A++[MO.ins 0 [("rules",.ref (M.length+1)),("terms",.ref (A.length+1)),("votes",.ref (A.length+2)),("askings",.ref (A.length+3)),("seated",.ref (A.length+4))],.dk [],.dk [],.dk [],.dk []]:=⟨_,rfl⟩
 rw[<-hB0]at e3
 have aka:B0[M.length]? = some (.ins 8 [("first",.int (S:Int)),("rules",.ref (M.length+1))]):=by rw[hB0];exact Gr.app _ _ hA0
 have p3:j6 [8] "ballots" (.ref A.length) (.ref M.length) B0=some (B0.set M.length (.ins 8 [("first",.int (S:Int)),("rules",.ref (M.length+1)),("ballots",.ref A.length)])):=by
  rw[jf aka (by simp) (by simp)];rfl
 obtain⟨B,hB⟩:∃B,B=B0.set M.length (.ins 8 [("first",.int (S:Int)),("rules",.ref (M.length+1)),("ballots",.ref A.length)]):=⟨_,rfl⟩
 have lB:B.length=A.length+5:=by rw[hB,List.length_set,hB0];simp
 have hB1:B[M.length]? = some (.ins 8 [("first",.int (S:Int)),("rules",.ref (M.length+1)),("ballots",.ref A.length)]):=by rw[hB];exact get_set aka
 have fB:mX [0,7,8] "rules" (.ref M.length) B= .ok (.ref (M.length+1)) B:=dj hB1 (by simp) rfl
 have e4:=ZP (M:=B) (r:=M.length+1) (dd:= .tup [.int (S:Int),.int 0])
 obtain⟨C0,hC0⟩:∃C0,C0=B++[MO.ins 7 [("first_roll",.tup [.int (S:Int),.int 0]),("rules",.ref (M.length+1)),("rows",.ref (B.length+1)),("lines",.ref (B.length+2)),("marks",.ref (B.length+3)),("places",.ref (B.length+4))],.dk [],.dk [],.dk [],.dk []]:=⟨_,rfl⟩
 rw[<-hC0]at e4
 have aj_:C0[M.length]? = some (.ins 8 [("first",.int (S:Int)),("rules",.ref (M.length+1)),("ballots",.ref A.length)]):=by rw[hC0];exact Gr.app _ _ hB1
 have p4:j6 [8] "strides" (.ref B.length) (.ref M.length) C0=some (C0.set M.length (.ins 8 [("first",.int (S:Int)),("rules",.ref (M.length+1)),("ballots",.ref A.length),("strides",.ref B.length)])):=by
  rw[jf aj_ (by simp) (by simp)];rfl
 obtain⟨C,hC⟩:∃C,C=C0.set M.length (.ins 8 [("first",.int (S:Int)),("rules",.ref (M.length+1)),("ballots",.ref A.length),("strides",.ref B.length)]):=⟨_,rfl⟩
 have lC:C.length=B.length+5:=by rw[hC,List.length_set,hC0];simp
 have hC1:C[M.length]? = some (.ins 8 [("first",.int (S:Int)),("rules",.ref (M.length+1)),("ballots",.ref A.length),("strides",.ref B.length)]):=by rw[hC];exact get_set aj_
 have e5:=aaq (M:=C)
 obtain⟨E0,hE0⟩:∃E0,E0=C++[MO.ins 5 [("beats",.ref (C.length+1)),("heard",.ref (C.length+2)),("looks",.ref (C.length+3)),("seen",.ref (C.length+4))],.dk [],.dk [],.dk [],.dk []]:=⟨_,rfl⟩
 rw[<-hE0]at e5
 have adJ:E0[M.length]? = some (.ins 8 [("first",.int (S:Int)),("rules",.ref (M.length+1)),("ballots",.ref A.length),("strides",.ref B.length)]):=by rw[hE0];exact Gr.app _ _ hC1
 have p5:j6 [8] "replies" (.ref C.length) (.ref M.length) E0=some (E0.set M.length (.ins 8 [("first",.int (S:Int)),("rules",.ref (M.length+1)),("ballots",.ref A.length),("strides",.ref B.length),("replies",.ref C.length)])):=by
  rw[jf adJ (by simp) (by simp)];rfl
 have p6:j6 [8] "count" (.int 0) (.ref M.length) (E0.set M.length (.ins 8 [("first",.int (S:Int)),("rules",.ref (M.length+1)),("ballots",.ref A.length),("strides",.ref B.length),("replies",.ref C.length)]))=some (E0.set M.length (.ins 8 [("first",.int (S:Int)),("rules",.ref (M.length+1)),("ballots",.ref A.length),("strides",.ref B.length),("replies",.ref C.length),("count",.int 0)])):=by
  rw[jf (get_set adJ) (by simp) (by simp),List.set_set];rfl
 have p7:j6 [8] "breach" .non (.ref M.length) (E0.set M.length (.ins 8 [("first",.int (S:Int)),("rules",.ref (M.length+1)),("ballots",.ref A.length),("strides",.ref B.length),("replies",.ref C.length),("count",.int 0)]))=some (E0.set M.length (Kr a S 0 .non)):=by
  rw[jf (get_set adJ) (by simp) (by simp),List.set_set,ha,lC,lB,lA];rfl
 obtain⟨Z,hZ⟩:∃Z,Z=E0.set M.length (Kr a S 0 .non):=⟨_,rfl⟩
 rw[<-hZ]at p7
 refine⟨Z,?_,?_,?_⟩
 ·simp only[qL,mQ]
  have hr':=hr (.dk []) []
  simp[p1]
  simp at hr'
  simp[hr',p2,<-hA,fA,e3,p3,<-hB,fB,e4,p4,<-hC,e5,p5,p6,p7]
 ·
  have kA:∀i o,i≠M.length->N1[i]? = some o->A[i]? = some o:=λi o hi h=>by rw[hA];exact eV h hi
  have kB:∀i o,i≠M.length->A[i]? = some o->B[i]? = some o:=λi o hi h=>by rw[hB];exact eV (by rw[hB0];exact Gr.app _ _ h) hi
  have kC:∀i o,i≠M.length->B[i]? = some o->C[i]? = some o:=λi o hi h=>by rw[hC];exact eV (by rw[hC0];exact Gr.app _ _ h) hi
  have kE:∀i o,i≠M.length->C[i]? = some o->Z[i]? = some o:=λi o hi h=>by rw[hZ];exact eV (by rw[hE0];exact Gr.app _ _ h) hi
  have qB:∀(j:Nat) (o:MO),([MO.ins 0 [("rules",.ref (M.length+1)),("terms",.ref (A.length+1)),("votes",.ref (A.length+2)),("askings",.ref (A.length+3)),("seated",.ref (A.length+4))],.dk [],.dk [],.dk [],.dk []]:List MO)[j]? = some o->Z[N1.length+j]? = some o:=λj o h=>
   kE _ _ () (kC _ _ () (by rw[hB];refine eV ?_ ();rw[hB0,zae (),lA,Nat.add_sub_cancel_left,<-lA];exact h))
  have qC:∀(j:Nat) (o:MO),([MO.ins 7 [("first_roll",.tup [.int (S:Int),.int 0]),("rules",.ref (M.length+1)),("rows",.ref (B.length+1)),("lines",.ref (B.length+2)),("marks",.ref (B.length+3)),("places",.ref (B.length+4))],.dk [],.dk [],.dk [],.dk []]:List MO)[j]? = some o->Z[N1.length+5+j]? = some o:=λj o h=>
   kE _ _ () (by rw[hC];refine eV ?_ ();rw[hC0,zae (),show N1.length+5+j - B.length=j by omega];exact h)
  have qE:∀(j:Nat) (o:MO),([MO.ins 5 [("beats",.ref (C.length+1)),("heard",.ref (C.length+2)),("looks",.ref (C.length+3)),("seen",.ref (C.length+4))],.dk [],.dk [],.dk [],.dk []]:List MO)[j]? = some o->Z[N1.length+10+j]? = some o:=λj o h=>by
   rw[hZ]
   refine eV ?_ ()
   rw[hE0,zae (),show N1.length+10+j - C.length=j by omega];exact h
  have hz0:Z[M.length]? = some (Kr (adr M.length N1.length) S 0 .non):=by rw[hZ,<-ha];exact get_set adJ
  have eA:A.length=N1.length:=lA
  have eB:B.length=N1.length+5:=()
  have eC:C.length=N1.length+10:=()
  rw[eA]at qB
  rw[eB]at qC
  rw[eC]at qE
  refine⟨?_,?_,?_,?_,.inr ⟨?_,rfl⟩,.inr ⟨?_,rfl⟩,?_,?_,?_,?_,?_,.inr ⟨?_,rfl⟩,?_,?_,.inr ⟨?_,rfl⟩,.inr ⟨?_,rfl⟩,.inr ⟨?_,rfl⟩,?_⟩
  ·exact hz0
  ·exact kE _ _ (by simp[adr]) (kC _ _ (by simp[adr]) (kB _ _ (by simp[adr]) (kA _ _ (by simp[adr]) hN)))
  ·exact qB 0 _ rfl
  ·exact qB 1 _ rfl
  ·exact qB 2 _ rfl
  ·exact qB 3 _ rfl
  ·exact qB 4 _ rfl
  ·exact qC 0 _ rfl
  ·exact qC 1 _ rfl
  ·exact qC 2 _ rfl
  ·exact qC 3 _ rfl
  ·exact qC 4 _ rfl
  ·exact qE 0 _ rfl
  ·exact qE 1 _ rfl
  ·exact qE 2 _ rfl
  ·exact qE 3 _ rfl
  ·exact qE 4 _ rfl
  ·simp only[adr];omega
 ·
  intro i o h
  have hi:=GZ h
  have h':N1[i]? = some o:=g _ _ (Gr.app _ _ h)
  rw[hZ]
  refine eV ?_ ()
  rw[hE0]
  refine Gr.app _ _ ?_
  rw[hC]
  refine eV ?_ ()
  rw[hC0]
  refine Gr.app _ _ ?_
  rw[hB]
  refine eV ?_ ()
  rw[hB0]
  refine Gr.app _ _ ?_
  rw[hA]
  exact eV h' ()
theorem U8{S:Nat}:∃a M',qL [.ref M.length,.int (S:Int),.non] (M++[.ins 8 []])= .ok .non M'/\a.b=M.length/\bA M' a (b0 S true true true true)/\Gr M M':=by
 obtain⟨N1,e,g,o⟩:=T5 (M:=M++[.ins 8 [("first",.int (S:Int))]])
 have l:(M++[MO.ins 8 [("first",.int (S:Int))]]).length=M.length+1:=by simp
 rw[l]at e o
 obtain⟨M',e',h,g'⟩:=abN (M:=M) (S:=S) (r:= .non) (N1:=N1) (λ_ _=>by simp at e;simp[e]) g o
 exact⟨_,M',e',rfl,h,g'⟩
end
section
variable{M M':Mem}{a:BA}{c k n:Nat}
theorem Xo(h:ds.length<n):(slots n ds).set ds.length (some d)=slots n (ds++[d]):=by
 unfold slots
 have e:n - ds.length=(n - (ds++[d]).length)+1:=by rw[List.length_append,List.length_singleton];omega
 rw[e,List.replicate_succ,List.map_append,List.set_append_right _ _ (by simp)]
 simp
theorem Hg(hk:ds.length=k)(hn:k<n)(h:m (slots n ds) M= .ok d M'):cD m (gN k) (slots n ds) M= .next (slots n (ds++[d])) M':=by
 subst hk
 rw[VF,h,Ge,ad_,aeT,Xo hn,Zv]
theorem akr(ns:List Int):(cut ns (some 5) (some 45)).length<=40:=by
 unfold cut
 rw[List.length_take]
 refine yY (Nat.min_le_left _ _) ?_
 simp[HT.bf]
 omega
theorem amv:FT 0 5=[.int 0,.int 1,.int 2,.int 3,.int 4]:=rfl
def hB(x:Int)(d:D):D:=match d with
 | .int j=> .int (x+11*j)
 | d=>d
theorem abl(ns:List Int):∃c:Nat,c<16/\k_ none vM (aD oZ (aD j5 (dw cQ 2 [] (au (aq 1) (au (mC (.int 0)) aF))) (mC (.int 16))) (aD TY (mC (.int 11)) (aq 0))) [some (.cl (ns.map D.int))] (FT 0 5) [] M= .ok (.ref M.length) (M++[.lst (hv (hds c))]):=by
 have c0:=Iu (M:=M) ns 0 (kk:=0) rfl
 have m16:j5 (.int (cell ns 0)) (.int 16) M= .ok (.int (cell ns 0 % 16)) M:=jn ()
 refine⟨(cell ns 0 % 16).toNat,(),?_⟩
 rw[Kh (src:=none) (hB (cell ns 0 % 16)) trivial λd hd=>by
  obtain⟨j,hj,rfl⟩:=Wa hd
  have mu:TY (.int 11) (.int (0+(j:Int))) M= .ok (.int (11*(0+(j:Int)))) M:=QX (.inl ())
  simp[c0,m16]
  simp at mu
  simp[mu,hB]]
 congr 3
 have:cell ns 0 % 16=((cell ns 0 % 16).toNat:Int):=()
 rw[amv]
 simp only[List.map_cons,List.map_nil,hB,hds,hv]
 congr 1
 simp only[List.cons.injEq,D.int.injEq,and_true]
 refine⟨(),(),(),(),()⟩
def pB(d:D):D:=match d with
 | .int j=> .int ((2 ^ j.toNat:Nat):Int)
 | d=>d
theorem af_:(hv hs).map pB=(hs.map λx=>((2 ^ x:Nat):Int)).map D.int:=by
 rw[hv,List.map_map,List.map_map]
 congr 1
theorem ahd:((hds c).map λx=>((2 ^ x:Nat):Int)).sum=(fs c:Int):=by
 simp only[fs,hds,List.map_cons,List.map_nil,List.sum_cons,List.sum_nil,Int.natCast_add]
 omega
theorem afn(hc:c<16)(hh:M[hl]? = some (.lst (hv (hds c))))(h1:e[1]? = some (some (.ref hl))):∃M',vV QV (au (ye [] (t6 (aq 1)) vM (aD sZ (mC (.int 1)) (aq 0))) aF) e M= .ok (.int (fs c:Int)) M'/\Gr M M':=by
 have v1:aq 1 e M= .ok (.ref hl) M:=cO h1
 have cp:k_ (some (hl,hv (hds c))) vM (aD sZ (mC (.int 1)) (aq 0)) [] (hv (hds c)) [] M=_:=Kh pB (sk hh) λd hd=>by
  obtain⟨x,hx,rfl⟩:=List.mem_map.mp hd
  have:=acq (M:=M) (abk hc hx)
  simp[this,pB]
 obtain⟨N,hN⟩:∃N:Mem,N=M++[.lst ((hv (hds c)).map pB)]:=⟨_,rfl⟩
 rw[<-hN]at cp
 have sm:QV [.ref M.length] N= .ok (.int (fs c:Int)) N:=by
  have q:=Z4 (M:=N) (n:=M.length) (is:=(hds c).map λx=>((2 ^ x:Nat):Int)) (by rw[hN,bB,af_])
  rw[q,ahd]
 refine⟨N,?_,by rw[hN];exact Gr.app⟩
 simp only[Uo,Er,JP,JN,v1,Out.bC,j7 hh,U5]
 have ce:Ar [] e=[]:=rfl
 rw[ce,cp]
 simp[sm]
def t5{α:Type}(c:Nat)(f:Nat->α):List (Nat×α):=[(c,f 0),(c+11,f 1),(c+22,f 2),(c+33,f 3),(c+44,f 4)]
theorem ZL{α:Type}{f:Nat->α}{x:Nat}{y:α}(h:gv (t5 c f) x=some y):∃i,i<5/\y=f i:=by
 unfold t5 at h
 rw[jH,jH,jH,jH,jH,ag6]at h
 split at h
 ·exact⟨0,(),(xI h).symm⟩
 ·split at h
  ·exact⟨1,(),(xI h).symm⟩
  ·split at h
   ·exact⟨2,(),(xI h).symm⟩
   ·split at h
    ·exact⟨3,(),(xI h).symm⟩
    ·split at h
     ·exact⟨4,(),(xI h).symm⟩
     ·cases h
theorem ZM{α:Type}{f:Nat->α}{x:Nat}(h:x∈hds c):(gv (t5 c f) x).isSome=true:=uH.mpr h
theorem QC{α:Type}{g:α->D}{f:Nat->α}:rF [] (ge kN g (t5 c f))=ge kN g (t5 c f):=by
 have e:∀(l:List (Nat×α)) (acc:List (Nat×α)),rF (ge kN g acc) (ge kN g l)=ge kN g (l.foldl (λacc p=>gp acc p.1 p.2) acc):=by
  intro l
  induction l with
  | nil=>intro acc;rfl
  | cons p l ih=>
   intro acc
   have:rF (ge kN g acc) (ge kN g (p::l))=rF (N5 (ge kN g acc) (kN p.1) (g p.2)) (ge kN g l):=rfl
   rw[this,O4 Ow,ih]
   rfl
 have q:=e (t5 c f) []
 rw[show ge kN g ([]:List (Nat×α))=[]from rfl]at q
 rw[q]
 simp[t5,gp]
def LR:List Nat->Nat->List D
 | [],_=>[]
 | x::xs,r=> .tup [.int (x:Int),.ref r]::LR xs (r+1)
theorem VJ:∀(hs:List Nat) (ys:List D) (M:Mem),(∀M',Gr M M'->ig src M')->k_ src vM (fL (au (aq 0) (au (Ep aF) aF))) [] (hv hs) ys M= .ok (.ref (M++List.replicate hs.length (MO.lst [])).length) ((M++List.replicate hs.length (MO.lst []))++[.lst (ys++LR hs M.length)])
 | [],ys,M,h=>by
  show k_ src vM _ [] [] ys M=_
  rw[k_,if_pos (h M Gr.refl)]
  simp[LR]
 | x::xs,ys,M,h=>by
  have g:Gr M (M++[.lst []]):=Gr.app
  have ih:=VJ (src:=src) xs (ys++[.tup [.int (x:Int),.ref M.length]]) (M++[.lst []]) λM' q=>h M' (g.trans q)
  show k_ src vM _ [] (.int (x:Int)::hv xs) ys M=_
  rw[k_,if_pos (h M Gr.refl)]
  have e:fL (au (aq 0) (au (Ep aF) aF)) [some (.int (x:Int))] M= .ok (.tup [.int (x:Int),.ref M.length]) (M++[.lst []]):=by simp
  refine Eq.trans (b:=k_ src vM (fL (au (aq 0) (au (Ep aF) aF))) [] (hv xs) (ys++[.tup [.int (x:Int),.ref M.length]]) (M++[.lst []])) ?_ (ih.trans ?_)
  ·simp only[Wg,Out.X6,Out.bC,if_true]
   rw[e]
   simp only[Out.bC]
  ·simp[LR,List.replicate_succ]
theorem aan:Je (LR (hds c) r)=some (ge kN D.ref (t5 c λi=>r+i)):=rfl
def zB(d:D):D:= .tup [d,.int 0]
theorem Y7:Je ((hv (hds c)).map zB)=some (ge kN D.int (t5 c λ_=>0)):=rfl
theorem cs0(c:Nat)(hT:0<=T):Cs c 0 T (b0 (fs c) true true true true):=
 ⟨rfl,rfl,rfl,rfl,λ_ _=>rfl,λ_ _ _ _=>rfl,λ_=>hT,λ_ _ _=>rfl,λ_ _=>rfl,λ_ _=>rfl,hT,λ_ e he=>(by cases he),λ_=>rfl,λ_=>zac _,λ_ e he=>(by cases he)⟩
end
section
variable{M:Mem}
theorem agK(ns:List Int)(hn:ns.length<=63):∃M,aeK [.cl (ns.map D.int)] []= .ok (.bl true) M:=by
 obtain⟨c,hc,e1⟩:=abl (M:=[]) ns
 obtain⟨A,hA⟩:∃A:Mem,A=[]++[MO.lst (hv (hds c))]:=⟨_,rfl⟩
 rw[<-hA]at e1
 have hA0:A[0]? = some (.lst (hv (hds c))):=by rw[hA];rfl
 obtain⟨A1,e2,g1⟩:=afn (e:=slots 16 [.cl (ns.map D.int),.ref 0]) hc hA0 rfl
 obtain⟨a,C,e3,ab,hb,gC⟩:=U8 (M:=A1) (S:=fs c)
 have z0:(0:Nat)<a.b:=by
  rw[ab]
  have:=g1.le
  rw[hA]at this
  simp at this
  omega
 have hC0:C[0]? = some (.lst (hv (hds c))):=gC _ _ (g1 _ _ hA0)
 obtain⟨D1,hD1⟩:∃D1:Mem,D1=C++[.dk []]:=⟨_,rfl⟩
 obtain⟨D2,hD2⟩:∃D2:Mem,D2=D1++[.dk []]:=⟨_,rfl⟩
 obtain⟨D3,hD3⟩:∃D3:Mem,D3=D2++List.replicate (hds c).length (MO.lst []):=⟨_,rfl⟩
 obtain⟨D4,hD4⟩:∃D4:Mem,D4=D3++[.lst (LR (hds c) D2.length)]:=⟨_,rfl⟩
 obtain⟨D5,hD5⟩:∃D5:Mem,D5=D4++[.dk (ge kN D.ref (t5 c λi=>D2.length+i))]:=⟨_,rfl⟩
 obtain⟨D6,hD6⟩:∃D6:Mem,D6=D5++[.lst ((hv (hds c)).map zB)]:=⟨_,rfl⟩
 obtain⟨D7,hD7⟩:∃D7:Mem,D7=D6++[.dk (ge kN D.int (t5 c λ_=>0))]:=⟨_,rfl⟩
 have q1:Gr C D1:=by rw[hD1];exact Gr.app
 have q2:Gr D1 D2:=by rw[hD2];exact Gr.app
 have q3:Gr D2 D3:=by rw[hD3];exact Gr.app
 have q4:Gr D3 D4:=by rw[hD4];exact Gr.app
 have q5:Gr D4 D5:=by rw[hD5];exact Gr.app
 have q6:Gr D5 D6:=by rw[hD6];exact Gr.app
 have q7:Gr D6 D7:=by rw[hD7];exact Gr.app
 have n1:D1.length=C.length+1:=by rw[hD1];simp
 have n2:D2.length=D1.length+1:=by rw[hD2];simp
 have n3:D3.length=D2.length+5:=by rw[hD3];simp[hds]
 have n4:D4.length=D3.length+1:=by rw[hD4];simp
 have n5:D5.length=D4.length+1:=by rw[hD5];simp
 have n6:D6.length=D5.length+1:=by rw[hD6];simp
 have sn:=hb.lt
 have r3:∀i,i<5->D3[D2.length+i]? = some (.lst []):=λi hi=>by
  rw[hD3,zae (Nat.le_add_right _ _),Nat.add_sub_cancel_left,List.getElem?_replicate,if_pos (show i<(hds c).length from hi)]
 obtain⟨p,hp⟩:∃p:LP,p=⟨0,C.length,D1.length,D4.length,D6.length,c⟩:=⟨_,rfl⟩
 have q37:=q4.trans (q5.trans (q6.trans q7))
 have q17:=q2.trans (q3.trans q37)
 obtain⟨s,hs⟩:∃s,s=b0 (fs c) true true true true:=⟨_,rfl⟩
 have b7:bA D7 a s:=hs▸(Bx.gr hb (q1.trans q17)).h
 have l7:LM D7 a p [] s.se s.line (t5 c λi=>D2.length+i) s.row (t5 c λ_=>0):=by
  rw[hs,hp]
  refine⟨q17 _ _ (q1 _ _ hC0),q17 _ _ (by rw[hD1];exact bB),(q3.trans q37) _ _ (by rw[hD2];exact bB),(q6.trans q7) _ _ (by rw[hD5];exact bB),by rw[hD7];exact bB,λt q h=>(by cases h),λx r h=> ?_,z0,sn,?_,?_,?_⟩
  ·obtain⟨i,hi,e⟩:=ZL h
   rw[e]
   refine⟨q37 _ _ (r3 i hi),?_⟩
   show a.sn<D2.length+i
   omega
  ·show C.length<D1.length;omega
  ·show D1.length<D4.length;omega
  ·show D4.length<D6.length;omega
 have pc:p.c=c:=by rw[hp]
 have i7:Iv p s [] (t5 c λi=>D2.length+i) (t5 c λ_=>0) 5:=by
  rw[hs]
  refine⟨rfl,λt q h=>(by cases h),λx hx=>ZM (pc▸hx),λx hx=> ?_,List.Pairwise.nil,λt h=>(by cases h),zac _,zac _,rfl,λt e he=>(by cases he),λt e he=>(by cases he)⟩
  obtain⟨y,hy⟩:=Option.isSome_iff_exists.mp (ZM (f:=λ_=>(0:Int)) (pc▸hx))
  obtain⟨_,_,e⟩:=ZL hy
  rw[hy,e]
  rfl
 obtain⟨T,hT⟩:∃T:Int,T=10 ^ 40:=⟨_,rfl⟩
 have hT0:0<T:=by rw[hT];decide
 have pw:NB (.int 10) (.int 40) D7= .ok (.int T) D7:=by rw[QW ⟨(),(),by decide⟩,hT];rfl
 clear hT
 obtain⟨T1,hT1⟩:∃T1:Int,T1=cell ns 1 % T:=⟨_,rfl⟩
 have t1:0<=T1:=by rw[hT1];exact Int.emod_nonneg _ (Int.ne_of_gt hT0)
 have zz:(0:Nat)<=0:=zac 0
 have lg:Lg 0 0 s:=by rw[hs];exact⟨zz,zz,zz,zz,zz,zz,zz,zz,zz⟩
 have af9:p.c<16:=pc▸hc
 obtain⟨sa,Ma,Ta,ha,la,ra,ta,va,ea,ba,lla,ia,ca,aa,ga,na⟩:=Oj (ns:=ns) (k:=0) (v10:=none) b7 l7 i7 (by rw[pc,hs];exact cs0 c t1) af9 (.inl ⟨rfl,rfl⟩) lg () () () () (by rw[hs];rfl)
 obtain⟨sb,Mb,Tb,ahb,lb,rb,tb,vb,eb,bb,llb,ib,cb,ab',gb,nb⟩:=Oj (ns:=ns) (k:=1) (v10:=va) ba lla ia ca af9 aa ga () () () () na
 obtain⟨sc,Mc,Tc,ahc,lc,rc,tc,vc,ec,bc,llc,ic,cc,ac,gc,nc⟩:=Oj (ns:=ns) (k:=2) (v10:=vb) bb llb ib cb af9 ab' gb () () () () nb
 have lp3:cC none (gN 9) Ia [.int 0,.int 1,.int 2] (lvE ns a p T1 .non none none none none none none none) D7= .next (lvE ns a p Tc ahc (some (.int 2)) vc none none none none none) Mc:=
  (O_ (src:=none) trivial rfl ea).trans ((O_ (src:=none) trivial rfl eb).trans ((O_ (src:=none) trivial rfl ec).trans (ahe trivial)))
 obtain⟨cs,hcs⟩:∃cs,cs=cut ns (some 5) (some 45):=⟨_,rfl⟩
 have apj:cs.length<=40:=by rw[hcs];exact akr ns
 obtain⟨Md,hMd⟩:∃Md:Mem,Md=Mc++[.lst (cs.map D.int)]:=⟨_,rfl⟩
 have gd:Gr Mc Md:=by rw[hMd];exact Gr.app
 have so:Md[Mc.length]? = some (.lst (cs.map D.int)):=by rw[hMd];exact bB
 obtain⟨s',Me,e',lp,be,br,he2⟩:=ady (ns:=ns) (T:=Tc) (ah:=ahc) (v9:=some (.int 2)) (v10:=vc) (Bx.gr bc gd).h (llc.gr gd) ic gc () () nc so bc.lt ()
 refine⟨Me,?_⟩
 simp only[aeK,abP]
 refine RV ?_
 refine d8 (Hg (d:= .ref 0) (M':=A) rfl (by decide) ?_) ?_
 ·simp only[eU,fK,eO]
  simp[r5,Ar]
  simp only[List.length_nil]at e1
  simp[e1]
 refine d8 (Hg (d:= .ref a.b) (M':=C) rfl (by decide) ?_) ?_
 ·simp only[List.cons_append,List.nil_append]
  have e2':au (vV QV (au (ye [] (t6 (aq 1)) vM (aD sZ (mC (.int 1)) (aq 0))) aF)) aF (slots 16 [.cl (ns.map D.int),.ref 0]) A= .ok [.int (fs c:Int)] A1:=by
   rw[Er,e2]
   simp
  rw[aaZ,e2',ab]
  simp[e3]
 refine d8 (Hg (d:= .ref C.length) (M':=D1) rfl (by decide) (by rw[hD1];exact RB)) ?_
 refine d8 (Hg (d:= .ref D1.length) (M':=D2) rfl (by decide) (by rw[hD2];exact RB)) ?_
 have h2:D2[0]? = some (.lst (hv (hds c))):=q2 _ _ (q1 _ _ hC0)
 refine d8 (Hg (d:= .ref D4.length) (M':=D5) rfl (by decide) ?_) ?_
 ·simp only[List.cons_append,List.nil_append,eU,fK,eO]
  have rg:=VJ (src:=some (0,hv (hds c))) (hds c) [] D2 λM' g=>sk (g _ _ h2)
  rw[<-hD3,List.nil_append,<-hD4]at rg
  have dp:zy [.ref D3.length] D4= .ok (.ref D4.length) D5:=by
   rw[Lz (by rw[hD4];exact bB) aan (show 5<=1000 by decide),QC,<-hD5]
  simp only[Uo,Er,JP,JN,aeM,Out.bC,j7 h2,U5]
  have ce:∀e:Sl,Ar [] e=[]:=λ_=>rfl
  rw[ce,rg]
  simp[dp]
 have h5:D5[0]? = some (.lst (hv (hds c))):=q5 _ _ (q4 _ _ (q3 _ _ h2))
 refine d8 (Hg (d:= .ref D6.length) (M':=D7) rfl (by decide) ?_) ?_
 ·simp only[List.cons_append,List.nil_append,eU,fK,eO]
  have rg:k_ (some (0,hv (hds c))) vM (fL (au (aq 0) (au (mC (.int 0)) aF))) [] (hv (hds c)) [] D5=_:=Kh zB (sk h5) λd hd=>by simp[zB]
  rw[<-hD6]at rg
  have dp:zy [.ref D5.length] D6= .ok (.ref D6.length) D7:=by
   rw[Lz (by rw[hD6];exact bB) Y7 (show 5<=1000 by decide),QC,<-hD7]
  simp only[Uo,Er,JP,JN,aeM,Out.bC,j7 h5,U5]
  have ce:∀e:Sl,Ar [] e=[]:=λ_=>rfl
  rw[ce,rg]
  simp[dp]
 refine d8 (Hg (d:= .int T1) (M':=D7) rfl (by decide) ?_) ?_
 ·simp only[List.cons_append,List.nil_append,eU,fK,eO]
  have k1:cQ [.cl (ns.map D.int),.int 1] D7= .ok (.int (cell ns 1)) D7:=Iu ns 1 rfl
  have md:j5 (.int (cell ns 1)) (.int T) D7= .ok (.int (cell ns 1 % T)) D7:=jn hT0
  simp[k1,pw,md,<-hT1]
 refine d8 (Hg (d:= .non) (M':=D7) rfl (by decide) (by simp)) ?_
 have es:slots 16 [.cl (ns.map D.int),.ref 0,.ref a.b,.ref C.length,.ref D1.length,.ref D4.length,.ref D6.length,.int T1,.non]=lvE ns a p T1 .non none none none none none none none:=by rw[hp];rfl
 simp only[List.cons_append,List.nil_append]
 rw[es]
 refine d8 (e':=lvE ns a p Tc ahc (some (.int 2)) vc none none none none none) (M':=Mc) ?_ (d8 (e':=e') (M':=Me) ?_ (J7 ?_))
 ·have rg:Jt [.int 3] D7= .ok ⟨none,[.int 0,.int 1,.int 2]⟩ D7:=zA () ()
  simp only[WQ]
  simp only[lvE]at lp3 ⊢
  simp[rg,lp3]
 ·have cm:cut (ns.map D.int) (some 5) (some 45)=cs.map D.int:=by rw[adU,<-hcs]
  have itr:=j7 (M:=Md) (n:=Mc.length) (ds:=cs.map D.int) so
  simp only[WN]
  simp only[lvE]at lp ⊢
  simp[cm,<-hMd,itr]
  exact lp
 ·have v2:aq 2 e' Me= .ok (.ref a.b) Me:=cO he2
  have bk:rQ [.ref a.b] Me= .ok .non Me:=by
   simp only[rQ,sW]
   simp[be.fbr,br]
  simp[v2,be.JH (m:= "broken") rfl,bk]
end
def top(i:Nat):Stmt:=PySem.Challenge.pw_chairvote_k63_tolds.main.body.getD i (.Pass ⟨0,0,0,0⟩)
abbrev B_:Stmt:=top 43
abbrev DR:Stmt:=top 32
abbrev gw:Stmt:=inClass (top 33) 0
abbrev DX:Stmt:=inClass (top 33) 2
abbrev zu:Stmt:=inClass (top 9) 0
abbrev zb:Stmt:=inClass (top 35) 0
abbrev zc:Stmt:=inClass (top 29) 0
abbrev gA:Stmt:=inClass (top 41) 0
abbrev GJ:Stmt:=top 39
abbrev Ls:Stmt:=top 40
abbrev QT:Stmt:=top 18
abbrev vz:Stmt:=inClass (top 35) 1
abbrev tV:Stmt:=inClass (top 9) 1
abbrev q9:Stmt:=inClass (top 9) 3
abbrev QM:Stmt:=top 2
abbrev rm:Stmt:=inClass (top 9) 6
abbrev oV:Stmt:=inClass (top 9) 4
abbrev j4:Stmt:=inClass (top 9) 7
abbrev q_:Stmt:=inClass (top 9) 5
abbrev rA:Stmt:=inClass (top 9) 11
abbrev Jl:Stmt:=top 3
abbrev qw:Stmt:=inClass (top 9) 10
abbrev Z3:Stmt:=top 4
abbrev lN:Stmt:=top 5
abbrev yW:Stmt:=top 6
abbrev DW:Stmt:=inClass (top 33) 1
abbrev qD:Stmt:=inClass (top 9) 9
abbrev xY:Stmt:=top 19
abbrev Lw:Stmt:=top 20
abbrev qX:Stmt:=inClass (top 35) 6
abbrev y_:Stmt:=inClass (top 35) 2
abbrev qY:Stmt:=inClass (top 35) 13
abbrev tR:Stmt:=inClass (top 29) 1
abbrev qZ:Stmt:=inClass (top 29) 4
abbrev vA:Stmt:=inClass (top 41) 5
abbrev qt:Stmt:=inClass (top 41) 3
abbrev vB:Stmt:=inClass (top 9) 13
abbrev vq:Stmt:=top 21
abbrev qi:Stmt:=inClass (top 35) 10
abbrev qj:Stmt:=inClass (top 29) 2
abbrev oU:Stmt:=inClass (top 41) 4
abbrev zq:Stmt:=inClass (top 41) 2
abbrev cg:Stmt:=inClass (top 11) 0
abbrev yd:Stmt:=inClass (top 9) 2
abbrev zx:Stmt:=inClass (top 9) 8
abbrev qz:Stmt:=inClass (top 9) 12
abbrev oN:Stmt:=inClass (top 35) 9
abbrev yZ:Stmt:=inClass (top 35) 3
abbrev GK:Stmt:=top 22
abbrev tQ:Stmt:=inClass (top 35) 20
abbrev mZ:Stmt:=inClass (top 35) 19
abbrev tU:Stmt:=inClass (top 41) 12
abbrev lO:Stmt:=inClass (top 41) 10
abbrev QS:Stmt:=top 23
abbrev oK:Stmt:=inClass (top 35) 5
abbrev yX:Stmt:=inClass (top 35) 14
abbrev qm:Stmt:=inClass (top 29) 5
abbrev zf:Stmt:=inClass (top 29) 6
abbrev qp:Stmt:=inClass (top 41) 9
abbrev xZ:Stmt:=inClass (top 35) 12
abbrev x_:Stmt:=inClass (top 29) 3
abbrev oO:Stmt:=inClass (top 41) 11
abbrev DY:Stmt:=inClass (top 41) 1
abbrev Jk:Stmt:=top 44
abbrev GF:Stmt:=top 45
abbrev Ly:Stmt:=top 46
abbrev Lx:Stmt:=top 48
abbrev yc:Stmt:=inClass (top 41) 14
abbrev zj:Stmt:=inClass (top 41) 15
abbrev Ea:Stmt:=inClass (top 41) 18
abbrev vC:Stmt:=inClass (top 9) 14
abbrev zm:Stmt:=inClass (top 41) 17
abbrev GD:Stmt:=top 47
abbrev zp:Stmt:=inClass (top 41) 13
abbrev aeu:Stmt:=top 49
noncomputable def m9:List Dsc:=jy 0 "_law_cell_at" "_law_cell_at" B_ ["_law_script","_law_k"]::
 jy 0 "wrong_word" "wrong_word" DR ["words"]::
 jy 7 "twin" "Rules.twin" DX ["self"]::
 jy 1 "__init__" "Ballots.__init__" zu ["self","rules"]::
 jy 8 "__init__" "Strides.__init__" zb ["self","first_roll","rules"]::
 jy 6 "__init__" "Replies.__init__" zc ["self"]::
 jy 0 "is_formed" "is_formed" GJ ["paper"]::
 jy 0 "term_on" "term_on" Ls ["paper"]::
 jy 0 "end_of" "end_of" QT ["entries"]::
 jy 8 "row_of" "Strides.row_of" vz ["self","hand"]::
 jy 1 "term_of" "Ballots.term_of" tV ["self","hand"]::
 jy 1 "votes_of" "Ballots.votes_of" q9 ["self","hand","term"]::
 jy 0 "set_of" "set_of" QM ["hands"]::
 jy 1 "is_spent" "Ballots.is_spent" rm ["self","hand","term","whom"]::
 jy 1 "asked_with" "Ballots.asked_with" oV ["self","hand","term"]::
 jy 1 "is_good_enough" "Ballots.is_good_enough" j4 ["self","whom","term","end"]::
 jy 1 "may_vote" "Ballots.may_vote" q_ ["self","hand","term","whom","end"]::
 jy 1 "chair_of" "Ballots.chair_of" rA ["self","term"]::
 jy 0 "hands_of" "hands_of" Jl ["S"]::
 jy 1 "voted_all" "Ballots.voted_all" qw ["self","voters","term","whom"]::
 jy 0 "many" "many" Z3 ["S"]::
 jy 7 "wins" "Rules.wins" DW ["self","roll","S"]::
 jy 1 "may_chair" "Ballots.may_chair" qD ["self","hand","term","voters","end","roll"]::
 jy 0 "roll_place_of" "roll_place_of" xY ["entries"]::
 jy 0 "roll_of" "roll_of" Lw ["entries","first_roll"]::
 jy 8 "row_roll" "Strides.row_roll" qX ["self","hand"]::
 jy 8 "line" "Strides.line" y_ ["self","term"]::
 jy 8 "may_tell" "Strides.may_tell" qY ["self","term","place"]::
 jy 6 "beat_of" "Replies.beat_of" tR ["self","term"]::
 jy 6 "may_hear" "Replies.may_hear" qZ ["self","term","beat"]::
 jy 9 "may_tell" "Bench.may_tell" vA ["self","hand","term","place","beat"]::
 jy 9 "allows_hand" "Bench.allows_hand" qt ["self","paper"]::
 jy 1 "stands" "Ballots.stands" vB ["self","term"]::
 jy 0 "start_place_of" "start_place_of" vq ["entries","term"]::
 jy 8 "may_write" "Strides.may_write" qi ["self","term","place","what"]::
 jy 6 "may_begin" "Replies.may_begin" qj ["self","term","beat"]::
 jy 9 "allows_chair" "Bench.allows_chair" oU ["self","paper"]::
 jy 9 "allows" "Bench.allows" zq ["self","paper"]::
 jy 1 "reach" "Ballots.reach" yd ["self","hand","term"]::
 jy 1 "cast" "Ballots.cast" zx ["self","hand","term","whom","end"]::
 jy 1 "take_seat" "Ballots.take_seat" qz ["self","hand","term"]::
 jy 8 "begin_line" "Strides.begin_line" oN ["self","hand","term"]::
 jy 8 "mark" "Strides.mark" yZ ["self","term"]::
 jy 0 "are_alike" "are_alike" GK ["one","two","place"]::
 jy 8 "is_kept" "Strides.is_kept" tQ ["self","lesser","greater"]::
 jy 8 "lost_behind" "Strides.lost_behind" mZ ["self","term"]::
 jy 9 "find_lost" "Bench.find_lost" tU ["self","term"]::
 jy 9 "follow_to_chair" "Bench.follow_to_chair" lO ["self","hand","term"]::
 jy 0 "led_by" "led_by" QS ["line","row","place"]::
 jy 8 "place_told" "Strides.place_told" oK ["self","hand","term"]::
 jy 8 "tell" "Strides.tell" yX ["self","hand","term","place"]::
 jy 6 "beat_told" "Replies.beat_told" qm ["self","hand","term"]::
 jy 6 "hear" "Replies.hear" zf ["self","hand","term","beat"]::
 jy 9 "follow_hand" "Bench.follow_hand" qp ["self","paper"]::
 jy 8 "write" "Strides.write" xZ ["self","hand","term","what"]::
 jy 6 "begin" "Replies.begin" x_ ["self","term","beat"]::
 jy 9 "follow_chair" "Bench.follow_chair" oO ["self","paper"]::
 jy 9 "take" "Bench.take" DY ["self","paper"]::
 jy 0 "_law_what" "_law_what" Jk ["_law_cell"]::
 jy 0 "_law_chair" "_law_chair" GF ["_law_bench","_law_hands","_law_k","_law_term","_law_ahead","_law_cell"]::
 jy 0 "_law_due" "_law_due" Ly ["_law_lines","_law_terms","_law_heads","_law_paper"]::
 jy 0 "_law_try" "_law_try" Lx ["_law_bench","_law_lines","_law_terms","_law_heads","_law_rows","_law_paper"]::
 jy 9 "term_of" "Bench.term_of" yc ["self","h"]::
 jy 9 "row_of" "Bench.row_of" zj ["self","h"]::
 jy 9 "line" "Bench.line" Ea ["self","term"]::
 jy 1 "chairs" "Ballots.chairs" vC ["self"]::
 jy 9 "chairs" "Bench.chairs" zm ["self"]::
 jy 0 "_law_right" "_law_right" GD ["_law_bench","_law_hands","_law_lines","_law_terms","_law_rows"]::
 jy 9 "broken" "Bench.broken" zp ["self"]::
 jy 0 "law" "law" aeu ["_law_script"]::[]
set_option genInjectivity false in
structure Adr where
 c:Nat->Addr
 xs:List Fv
 qM:Addr
 mG:FuncData
 Du:Addr
 Dy:Tok
 qN:Addr
 mH:FuncData
 Dv:Addr
 Bq:Addr
 vP:FuncData
 Lj:Addr
 J9:Addr
 Ke:FuncData
 Zg:Addr
 ie:Addr
 jJ:FuncData
 Gj:Addr
 De:Addr
 O5:Addr
def Adr.f(t:Adr)(i:Nat):Addr:=(t.xs.getD i fv0).f
def Adr.d(t:Adr)(i:Nat):FuncData:=(t.xs.getD i fv0).fd (m9.getD i d0)
structure Txt(K:Frag)(mg:Str->Option Value)(t:Adr):Prop where
 D:Qe K t.c m9 t.xs
 G:∀(x:Str) (f:Addr),nsIn K mainGlobals x=some (some (.ref f))->mg x=some (.ref f)
 Cp:yE K "__init__" "Rules.__init__" gw (.ref t.Du) t.qM t.mG
 mL:Binds K t.mG ["self","text"] []
 uV:Binds K t.mG ["self","text"] [.str "once best own most" t.Dy]
 Cq:yE K "__init__" "Bench.__init__" gA (.ref t.Dv) t.qN t.mH
 mQ:Binds K t.mH ["self","S","rules"] []
 Cu:Binds K t.mH ["self","S","rules"] [.none]
 xN:yE K "carries" "carries" lN (.ref t.Lj) t.Bq t.vP
 nP:Binds K t.vP ["S","part","half"] []
 U_:Binds K t.vP ["S","part","half"] [.bool false]
 CP:mg "carries" = some (.ref t.Bq)
 O8:yE K "wins" "wins" yW (.ref t.Zg) t.J9 t.Ke
 Aw:Binds K t.Ke ["roll","S","half"] []
 ad8:Binds K t.Ke ["roll","S","half"] [.bool false]
 adl:mg "wins" = some (.ref t.J9)
 ud:yE K "__init__" "HallError.__init__" cg .none t.ie t.jJ
 vR:Binds K t.jJ ["self","at"] []
 rE:Mk K (t.c 6) t.qM
 pI:KC K (t.c 6)
 JB:mg "Rules" = some (.ref (t.c 6))
 vI:Bb K (t.c 6) ["once","best","own","most"]
 nF:Mk K (t.c 0) (t.f 3)
 aK:KC K (t.c 0)
 JD:mg "Ballots" = some (.ref (t.c 0))
 cV:Bb K (t.c 0) ["rules","terms","votes","askings","seated"]
 nA:Mk K (t.c 7) (t.f 4)
 aM:KC K (t.c 7)
 Jz:mg "Strides" = some (.ref (t.c 7))
 cU:Bb K (t.c 7) ["first_roll","rules","rows","lines","marks","places"]
 nC:Mk K (t.c 5) (t.f 5)
 dH:KC K (t.c 5)
 JC:mg "Replies" = some (.ref (t.c 5))
 nu:Bb K (t.c 5) ["beats","heard","looks","seen"]
 vK:Mk K (t.c 8) t.qN
 bL:KC K (t.c 8)
 Ru:mg "Bench" = some (.ref (t.c 8))
 vJ:Bb K (t.c 8) ["first","rules","ballots","strides","replies","count","breach"]
 Og:mg "HallError" = some (.ref (t.c 1))
 M_:XMk K (t.c 1) t.ie
 Nf:Lf K (t.c 1) "at"
 Nb:XIs K (t.c 1)
 vZ:exmOne K (.ref (t.c 1)) (.ref (t.c 1))=some true
 xq:kitOne K (.ref (t.c 1)) (.ref (t.c 1))=some true
 mY:exmOne K (.ref (t.c 1)) (.ref (t.c 2))=some false
 yq:kitOne K (.ref (t.c 1)) (.ref (t.c 2))=some false
 zU:mg "BadPaper" = some (.ref (t.c 2))
 Gz:XMk K (t.c 2) t.ie
 GC:Lf K (t.c 2) "at"
 Ql:XIs K (t.c 2)
 yh:exmOne K (.ref (t.c 2)) (.ref (t.c 1))=some true
 yr:kitOne K (.ref (t.c 2)) (.ref (t.c 1))=some true
 oH:exmOne K (.ref (t.c 2)) (.ref (t.c 2))=some true
 Aa:kitOne K (.ref (t.c 2)) (.ref (t.c 2))=some true
 Ce:mg "wins_rolls" = some (.ref t.J9)
 aeL:mg "all" = none
 Ul:mg "dict" = none
 zX:mg "enumerate" = none
 lR:mg "len" = none
 Oh:mg "list" = none
 Ry:mg "max" = none
 aeJ:mg "min" = none
 Bo:mg "range" = none
 El:mg "sorted" = none
 aeI:mg "sum" = none
 wV:mg "CHOICES" = some (.ref t.Gj)
 wB:∀ct ι n H,S.DV K ct ι n H (.mJ [(.mJ [(.str "once"),(.str "free")]),(.mJ [(.str "best"),(.str "any")]),(.mJ [(.str "own"),(.str "old")]),(.mJ [(.str "most"),(.str "half")])]) (.ref t.Gj)
 tX:mg "OF_HANDS" = some (.ref t.De)
 tM:∀ct ι n H,S.DV K ct ι n H (.mJ [(.str "vote"),(.str "chair"),(.str "told")]) (.ref t.De)
 Rt:mg "SIZES" = some (.ref t.O5)
 Qu:ahO K t.O5 [("vote",4),("chair",4),("write",4),("beat",3),("told",5),("settle",4),("answer",6),("look",6),("seen",8)]
section
variable{P:Program}{w:World}{K:Frag}{mg:Str->Option Value}{base:Heap}{t:Adr}
theorem Txt.fn(T:Txt K mg t)(i:Nat)(h:Nat.blt i m9.length=true:=by rfl):yE K (m9.getD i d0).2.1 (m9.getD i d0).2.2.1 (m9.getD i d0).2.2.2.1 .none (t.f i) (t.d i):=T.D.fn h
theorem Txt.kp(T:Txt K mg t)(i:Nat)(h:Nat.blt i m9.length=true:=by rfl):keepIn K (.ref (t.f i))=true:=(T.D.ok h).kp
theorem Txt.b(T:Txt K mg t)(i:Nat)(h:Nat.blt i m9.length=true:=by rfl):Binds K (t.d i) (m9.getD i d0).2.2.2.2 []:=T.D.b h
theorem Txt.me(T:Txt K mg t)(i:Nat)(h:Nat.blt i m9.length=true:=by rfl)(h1:((m9.getD i d0).1==0)=false:=by rfl):Meth K (t.c ((m9.getD i d0).1 - 1)) (m9.getD i d0).2.1 (t.f i):=T.D.me h h1
theorem Txt.mf(T:Txt K mg t)(i:Nat)(h:Nat.blt i m9.length=true:=by rfl)(h1:((m9.getD i d0).1==0)=true:=by rfl):mg (m9.getD i d0).2.1=some (.ref (t.f i)):=T.G _ _ ((T.D.ok h).a0 h1)
theorem DQ:qP ["self","at"] ["self","at"] (aX cg):=iZ
abbrev jz{K:Frag}{mg:Str->Option Value}{t:Adr}(_:Txt K mg t)(i lv:Nat)(m:S.Fn)(ar:Nat):Prop:=∀{P:Program} {w:World} {base:Heap},gP P w K mg base (Dp P w) lv (t.f i) (t.d i) (m9.getD i d0).2.2.2.2 (S.spS K t.c m ar)
theorem Txt.iD(T:Txt K mg t)(i:Nat)(e:Nat.blt i (["once","best","own","most"]:List Str).length=true:=by rfl):S.vf K t.c ((["once","best","own","most"]:List Str).getD i "") [6]:=⟨⟨T.pI,T.vI.get e⟩,zab⟩
theorem Txt.dz(T:Txt K mg t)(i:Nat)(e:Nat.blt i (["rules","terms","votes","askings","seated"]:List Str).length=true:=by rfl):S.vf K t.c ((["rules","terms","votes","askings","seated"]:List Str).getD i "") [0]:=⟨⟨T.aK,T.cV.get e⟩,zab⟩
theorem Txt.cZ(T:Txt K mg t)(i:Nat)(e:Nat.blt i (["first_roll","rules","rows","lines","marks","places"]:List Str).length=true:=by rfl):S.vf K t.c ((["first_roll","rules","rows","lines","marks","places"]:List Str).getD i "") [7]:=⟨⟨T.aM,T.cU.get e⟩,zab⟩
theorem Txt.lQ(T:Txt K mg t)(i:Nat)(e:Nat.blt i (["beats","heard","looks","seen"]:List Str).length=true:=by rfl):S.vf K t.c ((["beats","heard","looks","seen"]:List Str).getD i "") [5]:=⟨⟨T.dH,T.nu.get e⟩,zab⟩
theorem Txt.aW(T:Txt K mg t)(i:Nat)(e:Nat.blt i (["first","rules","ballots","strides","replies","count","breach"]:List Str).length=true:=by rfl):S.vf K t.c ((["first","rules","ballots","strides","replies","count","breach"]:List Str).getD i "") [8]:=⟨⟨T.bL,T.vJ.get e⟩,zab⟩
theorem lZ(T:Txt K mg t):jz T 0 1 (aN 2 uU) 2:=bR (st:=B_) ["_law_script","_law_k"] (T.fn 0) iZ λh n u=>
 (aA (bN (aY (Kq u) (aj 1) (bD iM rfl T.lR iQ (ao (aj 0) az)) (aL _)) (aC (aJ (aP u (aj 0) (aj 1)))) bz)
  (aC (aJ aB)))
theorem KR(T:Txt K mg t):jz T 1 1 (aN 3 xT) 1:=bR (st:=DR) ["words","k","choice"] (T.fn 1) iZ λh n u=>
 (aA (qW (g8 rfl rfl) rfl (ZZ rfl T.zX (Bj rfl T.wV λι n H=>T.wB _ ι n H)) (Nu rfl (gq (cM (i:=1) n rfl jk) (gq (cM (i:=2) n rfl jk) Ig))) (aC (bN (SW.pt (BZ (aY ae4 (aj 1) (bD iM rfl T.lR iQ (ao (aj 0) az)) (aL _)) (Cy (aY (Sv u) (aP u (aj 0) (aj 1)) (aj 2) (by with_unfolding_all rfl))))) (aC (aJ (aj 1))) bz)))
  (aA (bN (aY Mw (bD iM rfl T.lR iQ (ao (aj 0) az)) (bD iM rfl T.lR iQ (ao (Bj rfl T.wV λι n H=>T.wB _ ι n H) az)) (aL _)) (aC (aJ (bD iM rfl T.lR iQ (ao (Bj rfl T.wV λι n H=>T.wB _ ι n H) az)))) bz)
  (aC (aJ kJ))))
theorem Cd(T:Txt K mg t):gP P w K mg base (Dp P w) (1+1) t.qM t.mG ["self","text"] (spS K t.c (aN 4 mL) 2):=bR (st:=gw) ["self","text","words","wrong"] T.Cp iZ λh n u=>
 (aA (bh (i:=2) n rfl jk (aet PySem.F.plainAttrs_str PySem.F.slot_str_split PySem.F.type_str_split aaX (aj 1) (ao b_ az)))
  (aA (bh (i:=3) n rfl jk (bM (KR T) di h.mo rfl (T.mf 1) (T.kp 1) (T.b 1) .nil (ao (aj 2) az)))
  (aA (bN (aY Av (aj 3) kJ (aL _)) (aC oJ) bz)
  (aA (cj (T.iD 0) (aj 0) (cR (d9 u) (aP u (aj 2) aB) b_ (aL _)))
  (aA (cj (T.iD 1) (aj 0) (cR (d9 u) (aP u (aj 2) aB) b_ (aL _)))
  (aA (cj (T.iD 2) (aj 0) (cR (d9 u) (aP u (aj 2) aB) b_ (aL _)))
  (aC (cj (T.iD 3) (aj 0) (cR (d9 u) (aP u (aj 2) aB) b_ (aL _))))))))))
theorem KZ(T:Txt K mg t):jz T 2 4 (aN 2 Fl) 1:=bR (st:=DX) ["self","like"] (T.fn 2) iZ λh n u=>
 (aA (bh (i:=1) n rfl jk (Jj (kc:=6) T.rE (Cd T) di h.mo rfl T.JB T.uV (.cons (.str _ _) .nil)))
  (aA (cj (T.iD 0) (aj 1) (aR (T.iD 0) (aj 0)))
  (aA (cj (T.iD 1) (aj 1) (aR (T.iD 1) (aj 0)))
  (aA (cj (T.iD 2) (aj 1) (aR (T.iD 2) (aj 0)))
  (aA (cj (T.iD 3) (aj 1) (aR (T.iD 3) (aj 0)))
  (aC (aJ (aj 1))))))))
theorem HS(T:Txt K mg t):jz T 3 1 (aN 2 sX) 2:=bR (st:=zu) ["self","rules"] (T.fn 3) iZ λh n u=>
 (aA (cj (cs:=[0,7,8]) ⟨⟨T.aK,(T.cV.get (i:=0) rfl)⟩,⟨⟨T.aM,(T.cU.get (i:=1) rfl)⟩,(T.aW 1)⟩⟩ (aj 0) (aj 1))
  (aA (cj (T.dz 1) (aj 0) je)
  (aA (cj (T.dz 2) (aj 0) je)
  (aA (cj (T.dz 3) (aj 0) je)
  (aC (cj (T.dz 4) (aj 0) je))))))
theorem HB(T:Txt K mg t):jz T 4 1 (aN 3 sI) 3:=bR (st:=zb) ["self","first_roll","rules"] (T.fn 4) iZ λh n u=>
 (aA (cj (T.cZ 0) (aj 0) (aj 1))
  (aA (cj (cs:=[0,7,8]) ⟨⟨T.aK,(T.cV.get (i:=0) rfl)⟩,⟨⟨T.aM,(T.cU.get (i:=1) rfl)⟩,(T.aW 1)⟩⟩ (aj 0) (aj 2))
  (aA (cj (T.cZ 2) (aj 0) je)
  (aA (cj (T.cZ 3) (aj 0) je)
  (aA (cj (T.cZ 4) (aj 0) je)
  (aC (cj (T.cZ 5) (aj 0) je)))))))
theorem HF(T:Txt K mg t):jz T 5 1 (aN 1 sJ) 1:=bR (st:=zc) ["self"] (T.fn 5) iZ λh n u=>
 (aA (cj (T.lQ 0) (aj 0) je)
  (aA (cj (T.lQ 1) (aj 0) je)
  (aA (cj (T.lQ 2) (aj 0) je)
  (aC (cj (T.lQ 3) (aj 0) je)))))
theorem K3(T:Txt K mg t):gP P w K mg base (Dp P w) (4+1) t.qN t.mH ["self","S","rules"] (spS K t.c (aN 3 mQ) 3):=bR (st:=gA) ["self","S","rules"] T.Cq iZ λh n u=>
 (aA (cj (T.aW 0) (aj 0) (aj 1))
  (aA (cj (cs:=[0,7,8]) ⟨⟨T.aK,(T.cV.get (i:=0) rfl)⟩,⟨⟨T.aM,(T.cU.get (i:=1) rfl)⟩,(T.aW 1)⟩⟩ (aj 0) (aiS (aY Sw (aj 2) kJ (aL _)) (Jj (kc:=6) T.rE (Cd T) di h.mo rfl T.JB T.uV (.cons (.str _ _) .nil)) (DN (kc:=6) (aj 2) T.pI (T.me 2) (KZ T) di h.mo (T.b 2) .nil)))
  (aA (cj (T.aW 2) (aj 0) (Ny (kc:=0) T.nF (HS T) di h.mo rfl T.JD (T.b 3) .nil (ao (aR (cs:=[0,7,8]) ⟨⟨T.aK,(T.cV.get (i:=0) rfl)⟩,⟨⟨T.aM,(T.cU.get (i:=1) rfl)⟩,(T.aW 1)⟩⟩ (aj 0)) az)))
  (aA (cj (T.aW 3) (aj 0) (Ny (kc:=7) T.nA (HB T) di h.mo rfl T.Jz (T.b 4) .nil (ao (bZ (ao (aj 1) (ao aB az))) (ao (aR (cs:=[0,7,8]) ⟨⟨T.aK,(T.cV.get (i:=0) rfl)⟩,⟨⟨T.aM,(T.cU.get (i:=1) rfl)⟩,(T.aW 1)⟩⟩ (aj 0)) az))))
  (aA (cj (T.aW 4) (aj 0) (Jj (kc:=5) T.nC (HF T) di h.mo rfl T.JC (T.b 5) .nil))
  (aA (cj (T.aW 5) (aj 0) aB)
  (aC (cj (T.aW 6) (aj 0) kJ))))))))
theorem Ob(T:Txt K mg t):jz T 6 1 (aN 1 lX) 1:=bR (st:=GJ) ["paper"] (T.fn 6) iZ λh n u=>
 (aC (aJ (yV (cR Mw (bD iM rfl T.lR iQ (ao (aj 0) az)) aB (aL _)) (pN (cR (d9 u) (acu [("vote",4),("chair",4),("write",4),("beat",3),("told",5),("settle",4),("answer",6),("look",6),("seen",8)] rfl T.Rt T.Qu (aP u (aj 0) aB)) (bD iM rfl T.lR iQ (ao (aj 0) az)) (aL _))))))
theorem Uc(T:Txt K mg t):jz T 7 1 (aN 1 vQ) 1:=bR (st:=Ls) ["paper"] (T.fn 7) iZ λh n u=>
 (aA (bN (aY (W6 u) (aP u (aj 0) aB) (Bj rfl T.tX λι n H=>T.tM _ ι n H) (by with_unfolding_all rfl)) (aC (aJ (aP u (aj 0) aB))) bz)
  (aC (aJ (aP u (aj 0) aB))))
theorem Mg(T:Txt K mg t):jz T 8 1 (aN 1 Fj) 1:=bR (st:=QT) ["entries"] (T.fn 8) iZ λh n u=>
 (aA (bN (aY (d9 u) (bD iM rfl T.lR iQ (ao (aj 0) az)) aB (aL _)) (aC (aJ (bZ (ao aB (ao aB az))))) bz)
  (aC (aJ (bZ (ao (aP u (aP u (aj 0) (aiR afc aB)) aB) (ao (bD iM rfl T.lR iQ (ao (aj 0) az)) az))))))
theorem cT(T:Txt K mg t):jz T 9 1 (aN 2 nQ) 2:=bR (st:=vz) ["self","hand"] (T.fn 9) iZ λh n u=>
 (aC (aJ (tO u (aR (T.cZ 2) (aj 0)) (aj 1) (bZ az))))
theorem dB(T:Txt K mg t):jz T 10 1 (aN 2 mU) 2:=bR (st:=tV) ["self","hand"] (T.fn 10) iZ λh n u=>
 (aC (aJ (tO u (aR (T.dz 1) (aj 0)) (aj 1) aB)))
theorem jM(T:Txt K mg t):jz T 11 1 (aN 3 lG) 3:=bR (st:=q9) ["self","hand","term"] (T.fn 11) iZ λh n u=>
 (aC (aJ (tO u (aR (T.dz 2) (aj 0)) (bZ (ao (aj 1) (ao (aj 2) az))) aB)))
theorem FZ(T:Txt K mg t):jz T 12 1 (aN 3 Ku) 1:=bR (st:=QM) ["hands","S","hand"] (T.fn 12) iZ λh n u=>
 (aA (bh (i:=1) n rfl jk aB)
  (aA (qW (g8 rfl rfl) rfl (ux (aj 0)) (cM (i:=2) n rfl jk) (aC (bh (i:=1) n rfl jk (aQ ae3 (aj 1) (aQ Gv aB (aj 2))))))
  (aC (aJ (aj 1)))))
theorem BV(T:Txt K mg t):jz T 13 2 (aN 5 iU) 4:=bR (st:=rm) ["self","hand","term","whom","votes"] (T.fn 13) iZ λh n u=>
 (aA (bh (i:=4) n rfl jk (aG (kc:=0) (aj 0) T.aK (T.me 11) (jM T) di h.mo (T.b 11) .nil (ao (aj 1) (ao (aj 2) az))))
  (aA (bN (qU (aR (T.iD 0) (aR (cs:=[0,7,8]) ⟨⟨T.aK,(T.cV.get (i:=0) rfl)⟩,⟨⟨T.aM,(T.cU.get (i:=1) rfl)⟩,(T.aW 1)⟩⟩ (aj 0)))) (aC (aJ (cR (su u) (aj 4) aB (aL _)))) bz)
  (aC (aJ (cR (su u) (aQ PJ (aj 4) (bM (FZ T) di h.mo rfl (T.mf 12) (T.kp 12) (T.b 12) .nil (ao (Cz (ao (aj 3) az)) az))) aB (aL _))))))
theorem m5(T:Txt K mg t):jz T 14 1 (aN 3 jx) 3:=bR (st:=oV) ["self","hand","term"] (T.fn 14) iZ λh n u=>
 (aC (aJ (Vx u (aR (T.dz 3) (aj 0)) (bZ (ao (aj 1) (ao (aj 2) az))))))
theorem tD(T:Txt K mg t):jz T 15 2 (aN 5 dX) 4:=bR (st:=j4) ["self","whom","term","end","asked"] (T.fn 15) iZ λh n u=>
 (aA (bh (i:=4) n rfl jk (aG (kc:=0) (aj 0) T.aK (T.me 14) (m5 T) di h.mo (T.b 14) .nil (ao (aj 1) (ao (aj 2) az))))
  (aA (bN (aY Sw (aj 4) kJ (aL _)) (aC (aJ qg)) bz)
  (aC (aJ (Vw (cR (ahE u) (aj 3) (aj 4) (aL _)) (pN (Z1 (aR (T.iD 1) (aR (cs:=[0,7,8]) ⟨⟨T.aK,(T.cV.get (i:=0) rfl)⟩,⟨⟨T.aM,(T.cU.get (i:=1) rfl)⟩,(T.aW 1)⟩⟩ (aj 0))))))))))
theorem BR(T:Txt K mg t):jz T 16 3 (aN 5 dI) 5:=bR (st:=q_) ["self","hand","term","whom","end"] (T.fn 16) iZ λh n u=>
 (aA (bN (SW.pt (BZ (aY (Kq u) (aj 2) (aG (kc:=0) (aj 0) T.aK (T.me 10) (dB T) di h.mo (T.b 10) .nil (ao (aj 1) az)) (aL _)) (Cy (qU (aG (kc:=0) (aj 0) T.aK (T.me 13) (BV T) di h.mo (T.b 13) .nil (ao (aj 1) (ao (aj 2) (ao (aj 3) az)))))))) (aC (aJ qg)) bz)
  (aA (bN (aY (d9 u) (aj 3) (aj 1) (aL _)) (aC (aJ (cR Mw (aj 2) (aG (kc:=0) (aj 0) T.aK (T.me 10) (dB T) di h.mo (T.b 10) .nil (ao (aj 1) az)) (aL _)))) bz)
  (aC (aJ (aG (kc:=0) (aj 0) T.aK (T.me 15) (tD T) di h.mo (T.b 15) .nil (ao (aj 3) (ao (aj 2) (ao (aj 4) az))))))))
theorem gR(T:Txt K mg t):jz T 17 1 (aN 2 lH) 2:=bR (st:=rA) ["self","term"] (T.fn 17) iZ λh n u=>
 (aC (aJ (Vx u (aR (T.dz 4) (aj 0)) (aj 1))))
theorem GX(T:Txt K mg t):jz T 18 1 (aN 1 Dg) 1:=bR (st:=Jl) ["S"] (T.fn 18) iZ λh n u=>
 (aC (aJ (DP rfl ["S"] [0] (vm rfl T.Bo (ao (aft PySem.F.plainAttrs_int PySem.F.slot_int_bit_length PySem.F.type_int_bit_length adk (aj 0)) az)) ⟨⟨rfl,rfl,by first | exact .inl rfl | exact .inr rfl⟩,zab⟩ (λ_ _ _ _ _=>(acj (aY (su u) (aQ PJ (aj 1) (aQ Gv aB (aj 0))) aB (aL _)))) (λ_ _ _ _ _=>(aj 0)) (by decide +kernel) (by decide +kernel) (by decide +kernel) (by decide +kernel))))
theorem zM(T:Txt K mg t):jz T 19 2 (aN 4 jX) 4:=bR (st:=qw) ["self","voters","term","whom"] (T.fn 19) iZ λh n u=>
 (aC (aJ (bD (ahv rfl) rfl T.aeL ahz (ao (DP rfl ["term","self","whom"] [2,0,3] (ux (bM (GX T) di h.mo rfl (T.mf 18) (T.kp 18) (T.b 18) .nil (ao (aj 1) az))) ⟨⟨rfl,rfl,by first | exact .inl rfl | exact .inr rfl⟩,⟨⟨rfl,rfl,by first | exact .inl rfl | exact .inr rfl⟩,⟨⟨rfl,rfl,by first | exact .inl rfl | exact .inr rfl⟩,zab⟩⟩⟩ (λ_ _ _ _ _=>DK) (λ_ _ _ _ _=>(cR (su u) (aQ PJ (aG (kc:=0) (aj 2) T.aK (T.me 11) (jM T) Tk.none h.mo (T.b 11) .nil (ao (aj 0) (ao (aj 1) az))) (bM (FZ T) Tk.none h.mo rfl (T.mf 12) (T.kp 12) (T.b 12) .nil (ao (Cz (ao (aj 3) az)) az))) aB (aL _))) (by decide +kernel) (by decide +kernel) (by decide +kernel) (by decide +kernel)) az))))
theorem N8(T:Txt K mg t):jz T 20 2 (aN 1 U9) 1:=bR (st:=Z3) ["S"] (T.fn 20) iZ λh n u=>
 (aC (aJ (bD iM rfl T.lR iQ (ao (bM (GX T) di h.mo rfl (T.mf 18) (T.kp 18) (T.b 18) .nil (ao (aj 0) az)) az))))
theorem Jx(T:Txt K mg t):gP P w K mg base (Dp P w) (2+1) t.Bq t.vP ["S","part","half"] (spS K t.c (aN 4 nP) 3):=bR (st:=lN) ["S","part","half","twice"] T.xN iZ λh n u=>
 (aA (bh (i:=3) n rfl jk (aQ abK aB (bM (N8 T) di h.mo rfl (T.mf 20) (T.kp 20) (T.b 20) .nil (ao (aQ PJ (aj 0) (aj 1)) az))))
  (aA (bN (qU (aj 2)) (aC (aJ (cR ae4 (aj 3) (bM (N8 T) di h.mo rfl (T.mf 20) (T.kp 20) (T.b 20) .nil (ao (aj 1) az)) (aL _)))) bz)
  (aC (aJ (cR Mw (aj 3) (bM (N8 T) di h.mo rfl (T.mf 20) (T.kp 20) (T.b 20) .nil (ao (aj 1) az)) (aL _))))))
theorem adb(T:Txt K mg t):gP P w K mg base (Dp P w) (3+1) t.J9 t.Ke ["roll","S","half"] (spS K t.c (aN 3 Aw) 3):=bR (st:=yW) ["roll","S","half"] T.O8 iZ λh n u=>
 (aA (bN (FJ (qU (bM (Jx T) di h.mo rfl T.CP T.xN.kp T.nP .nil (ao (aj 1) (ao (aP u (aj 0) aB) (ao (aj 2) az)))))) (aC (aJ qg)) bz)
  (aC (aJ (Vw (cR (d9 u) (aP u (aj 0) aB) aB (aL _)) (pN (bM (Jx T) di h.mo rfl T.CP T.xN.kp T.nP .nil (ao (aj 1) (ao (aP u (aj 0) aB) (ao (aj 2) az)))))))))
theorem KY(T:Txt K mg t):jz T 21 5 (aN 3 xU) 3:=bR (st:=DW) ["self","roll","S"] (T.fn 21) iZ λh n u=>
 (aC (aJ (bM (adb T) di h.mo rfl T.Ce T.O8.kp T.Aw .nil (ao (aj 1) (ao (aj 2) (ao (Z1 (aR (T.iD 3) (aj 0))) az))))))
theorem zO(T:Txt K mg t):jz T 22 6 (aN 6 cz) 6:=bR (st:=qD) ["self","hand","term","voters","end","roll"] (T.fn 22) iZ λh n u=>
 (aA (bN (SW.pt (BZ (aY (su u) (aG (kc:=0) (aj 0) T.aK (T.me 10) (dB T) di h.mo (T.b 10) .nil (ao (aj 1) az)) (aj 2) (aL _)) (Cy (aY (d9 u) (aG (kc:=0) (aj 0) T.aK (T.me 17) (gR T) di h.mo (T.b 17) .nil (ao (aj 2) az)) (aj 1) (aL _))))) (aC (aJ qg)) bz)
  (aA (bN (aY (su u) (aG (kc:=0) (aj 0) T.aK (T.me 14) (m5 T) di h.mo (T.b 14) .nil (ao (aj 1) (ao (aj 2) az))) (aj 4) (aL _)) (aC (aJ qg)) bz)
  (aC (aJ (yV (aG (kc:=0) (aj 0) T.aK (T.me 19) (zM T) di h.mo (T.b 19) .nil (ao (aj 3) (ao (aj 2) (ao (aj 1) az)))) (pN (aG (kc:=6) (aR (cs:=[0,7,8]) ⟨⟨T.aK,(T.cV.get (i:=0) rfl)⟩,⟨⟨T.aM,(T.cU.get (i:=1) rfl)⟩,(T.aW 1)⟩⟩ (aj 0)) T.pI (T.me 21) (KY T) di h.mo (T.b 21) .nil (ao (aj 5) (ao (aj 3) az)))))))))
theorem F_(T:Txt K mg t):jz T 23 1 (aN 2 pY) 1:=bR (st:=xY) ["entries","place"] (T.fn 23) iZ λh n u=>
 (aA (bh (i:=1) n rfl jk (bD iM rfl T.lR iQ (ao (aj 0) az)))
  (aA (ZQ (g8 rfl rfl) (SW.pt (afm (aY Mw (aj 1) aB (aL _)) (aci (aY (su u) (aP u (aP u (aP u (aj 0) (aQ Kp (aj 1) aB)) aB) aB) b_ (aL _))))) (aC (bh (i:=1) n rfl jk (aQ Kp (aj 1) aB))))
  (aC (aJ (aj 1)))))
theorem Ud(T:Txt K mg t):jz T 24 2 (aN 4 Bt) 2:=bR (st:=Lw) ["entries","first_roll","place","what"] (T.fn 24) iZ λh n u=>
 (aA (bh (i:=2) n rfl jk (bM (F_ T) di h.mo rfl (T.mf 23) (T.kp 23) (T.b 23) .nil (ao (aj 0) az)))
  (aA (bN (aY (d9 u) (aj 2) aB (aL _)) (aC (aJ (aj 1))) bz)
  (aA (bh (i:=3) n rfl jk (aP u (aP u (aj 0) (aQ Kp (aj 2) aB)) aB))
  (aC (aJ (bZ (ao (aP u (aj 3) aB) (ao (aP u (aj 3) aB) az))))))))
theorem BK(T:Txt K mg t):jz T 25 3 (aN 2 lu) 2:=bR (st:=qX) ["self","hand"] (T.fn 25) iZ λh n u=>
 (aC (aJ (bM (Ud T) di h.mo rfl (T.mf 24) (T.kp 24) (T.b 24) .nil (ao (aG (kc:=7) (aj 0) T.aM (T.me 9) (cT T) di h.mo (T.b 9) .nil (ao (aj 1) az)) (ao (aR (T.cZ 0) (aj 0)) az)))))
theorem eX(T:Txt K mg t):jz T 26 1 (aN 2 sH) 2:=bR (st:=y_) ["self","term"] (T.fn 26) iZ λh n u=>
 (aC (aJ (tO u (aR (T.cZ 3) (aj 0)) (aj 1) (bZ az))))
theorem BL(T:Txt K mg t):jz T 27 2 (aN 3 lE) 3:=bR (st:=qY) ["self","term","place"] (T.fn 27) iZ λh n u=>
 (aC (aJ (yV (cR Ff aB (aj 2) (aL _)) (pN (cR Ff (aj 2) (bD iM rfl T.lR iQ (ao (aG (kc:=7) (aj 0) T.aM (T.me 26) (eX T) di h.mo (T.b 26) .nil (ao (aj 1) az)) az)) (aL _))))))
theorem rC(T:Txt K mg t):jz T 28 1 (aN 2 mO) 2:=bR (st:=tR) ["self","term"] (T.fn 28) iZ λh n u=>
 (aC (aJ (tO u (aR (T.lQ 0) (aj 0)) (aj 1) aB)))
theorem BP(T:Txt K mg t):jz T 29 2 (aN 3 lF) 3:=bR (st:=qZ) ["self","term","beat"] (T.fn 29) iZ λh n u=>
 (aC (aJ (yV (cR Ff aB (aj 2) (aL _)) (pN (cR Ff (aj 2) (aG (kc:=5) (aj 0) T.dH (T.me 28) (rC T) di h.mo (T.b 28) .nil (ao (aj 1) az)) (aL _))))))
theorem Eg(T:Txt K mg t):jz T 30 3 (aN 6 nR) 5:=bR (st:=vA) ["self","hand","term","place","beat","chair"] (T.fn 30) iZ λh n u=>
 (aA (bh (i:=5) n rfl jk (aG (kc:=0) (aR (T.aW 2) (aj 0)) T.aK (T.me 17) (gR T) di h.mo (T.b 17) .nil (ao (aj 2) az)))
  (aA (bN (SW.pt (BZ (aY Sw (aj 5) kJ (aL _)) (BZ (aY (d9 u) (aj 5) (aj 1) (aL _)) (Cy (aY (Kq u) (aj 2) (aG (kc:=0) (aR (T.aW 2) (aj 0)) T.aK (T.me 10) (dB T) di h.mo (T.b 10) .nil (ao (aj 1) az)) (aL _)))))) (aC (aJ qg)) bz)
  (aC (aJ (yV (aG (kc:=7) (aR (T.aW 3) (aj 0)) T.aM (T.me 27) (BL T) di h.mo (T.b 27) .nil (ao (aj 2) (ao (aj 3) az))) (pN (aG (kc:=5) (aR (T.aW 4) (aj 0)) T.dH (T.me 29) (BP T) di h.mo (T.b 29) .nil (ao (aj 2) (ao (aj 4) az)))))))))
theorem zL(T:Txt K mg t):jz T 31 7 (aN 4 e_) 2:=bR (st:=qt) ["self","paper","hand","end"] (T.fn 31) iZ λh n u=>
 (@aA _ _ _ _ _ _ _ (bh (i:=2) n rfl jk (aP u (aj 1) aB)) (@aA _ _ _ _ _ _ _ (bh (i:=3) n rfl jk (bM (Mg T) di h.mo rfl (T.mf 8) (T.kp 8) (T.b 8) .nil (ao (aG (kc:=7) (aR (T.aW 3) (aj 0)) T.aM (T.me 9) (cT T) di h.mo (T.b 9) .nil (ao (aj 2) az)) az))) (@aA _ _ _ _ _ _ _ (bN (aY (d9 u) (aP u (aj 1) aB) b_ (aL _)) (aC (aJ (aG (kc:=0) (aR (T.aW 2) (aj 0)) T.aK (T.me 16) (BR T) di h.mo (T.b 16) .nil (ao (aj 2) (ao (aP u (aj 1) aB) (ao (aP u (aj 1) aB) (ao (aj 3) az))))))) bz) (@aA _ _ _ _ _ _ _ (@bN _ _ _ _ _ _ _ _ _ _ (aY (d9 u) (aP u (aj 1) aB) b_ (aL _)) (@aC _ _ _ _ _ (@aJ _ _ _ _ _ _ (@aG _ _ _ _ _ _ _ _ _ _ _ _ _ _ _ _ _ (0) _ _ _ _ (aR (T.aW 2) (aj 0)) T.aK (T.me 22) (zO T) di h.mo (T.b 22) .nil (@bu _ _ _ _ _ _ _ (aj 2) (@bu _ _ _ _ _ _ _ (aP u (aj 1) aB) (@bu _ _ _ _ _ _ _ (aP u (aj 1) aB) (@bu _ _ _ _ _ _ _ (aj 3) (@bu _ _ _ _ _ _ _ (aG (kc:=7) (aR (T.aW 3) (aj 0)) T.aM (T.me 25) (BK T) di h.mo (T.b 25) .nil (ao (aj 2) az)) az rfl) rfl) rfl) rfl) rfl) rfl rfl rfl rfl))) bz) (aC (aJ (aG (kc:=8) (aj 0) T.bL (T.me 30) (Eg T) di h.mo (T.b 30) .nil (ao (aj 2) (ao (aP u (aj 1) aB) (ao (aP u (aj 1) aB) (ao (aP u (aj 1) aB) az)))))))))))
theorem Eh(T:Txt K mg t):jz T 32 2 (aN 2 nU) 2:=bR (st:=vB) ["self","term"] (T.fn 32) iZ λh n u=>
 (aC (aJ (yV (cR (W6 u) (aj 1) (aR (T.dz 4) (aj 0)) (by with_unfolding_all rfl)) (pN (cR (d9 u) (aG (kc:=0) (aj 0) T.aK (T.me 10) (dB T) di h.mo (T.b 10) .nil (ao (aP u (aR (T.dz 4) (aj 0)) (aj 1)) az)) (aj 1) (aL _))))))
theorem Ec(T:Txt K mg t):jz T 33 1 (aN 4 jK) 2:=bR (st:=vq) ["entries","term","place","entry"] (T.fn 33) iZ λh n u=>
 (aA (qW (g8 rfl rfl) rfl (ZX rfl T.zX (aj 0) aB) (Nu rfl (gq (cM (i:=2) n rfl jk) (gq (cM (i:=3) n rfl jk) Ig))) (aC (bN (aY (d9 u) (aP u (aj 3) aB) (aj 1) (aL _)) (aC (aJ (aj 2))) bz)))
  (aC (aJ kJ)))
theorem zG(T:Txt K mg t):jz T 34 2 (aN 6 jU) 4:=bR (st:=qi) ["self","term","place","what","line","is_first"] (T.fn 34) iZ λh n u=>
 (aA (bh (i:=4) n rfl jk (aG (kc:=7) (aj 0) T.aM (T.me 26) (eX T) di h.mo (T.b 26) .nil (ao (aj 1) az)))
  (aA (bN (aY (su u) (aj 2) (aQ jb (bD iM rfl T.lR iQ (ao (aj 4) az)) aB) (aL _)) (aC (aJ qg)) bz)
  (aA (bh (i:=5) n rfl jk (cR Sw (bM (Ec T) di h.mo rfl (T.mf 33) (T.kp 33) (T.b 33) .nil (ao (aj 4) (ao (aj 1) az))) kJ (aL _)))
  (aA (bN (aY (su u) (aj 5) (cR (d9 u) (aj 3) (bZ (ao b_ az)) (aL _)) (aL _)) (aC (aJ qg)) bz)
  (aC (aJ (Vw (cR (su u) (aP u (aj 3) aB) b_ (aL _)) (pN Z2))))))))
theorem zH(T:Txt K mg t):jz T 35 2 (aN 3 jV) 3:=bR (st:=qj) ["self","term","beat"] (T.fn 35) iZ λh n u=>
 (aC (aJ (cR (d9 u) (aj 2) (aQ jb (aG (kc:=5) (aj 0) T.dH (T.me 28) (rC T) di h.mo (T.b 28) .nil (ao (aj 1) az)) aB) (aL _))))
theorem yp(T:Txt K mg t):jz T 36 3 (aN 3 gO) 2:=bR (st:=oU) ["self","paper","term"] (T.fn 36) iZ λh n u=>
 (aA (bh (i:=2) n rfl jk (aP u (aj 1) aB))
  (aA (bN (aY (d9 u) (aP u (aj 1) aB) b_ (aL _)) (aC (aJ (aG (kc:=7) (aR (T.aW 3) (aj 0)) T.aM (T.me 34) (zG T) di h.mo (T.b 34) .nil (ao (aj 2) (ao (aP u (aj 1) aB) (ao (aP u (aj 1) aB) az)))))) bz)
  (aA (bN (aY (d9 u) (aP u (aj 1) aB) b_ (aL _)) (aC (aJ (aG (kc:=5) (aR (T.aW 4) (aj 0)) T.dH (T.me 35) (zH T) di h.mo (T.b 35) .nil (ao (aj 2) (ao (aP u (aj 1) aB) az))))) bz)
  (aA (bN (aY (d9 u) (aP u (aj 1) aB) b_ (aL _)) (aC oJ) bz)
  (aA (bN (aY (d9 u) (aP u (aj 1) aB) b_ (aL _)) (aC oJ) bz)
  (aA (bN (aY (d9 u) (aP u (aj 1) aB) b_ (aL _)) (aC oJ) bz)
  (aC oJ)))))))
theorem HR(T:Txt K mg t):jz T 37 8 (aN 2 fP) 2:=bR (st:=zq) ["self","paper"] (T.fn 37) iZ λh n u=>
 (aA (bN (SW.pt (BZ (aY Av (aR (T.aW 6) (aj 0)) kJ (aL _)) (BZ (FJ (qU (bM (Ob T) di h.mo rfl (T.mf 6) (T.kp 6) (T.b 6) .nil (ao (aj 1) az)))) (Cy (aY (Kq u) (bM (Uc T) di h.mo rfl (T.mf 7) (T.kp 7) (T.b 7) .nil (ao (aj 1) az)) aB (aL _)))))) (aC (aJ qg)) bz)
  (aA (bN (aY (W6 u) (aP u (aj 1) aB) (Bj rfl T.tX λι n H=>T.tM _ ι n H) (by with_unfolding_all rfl)) (aC (aJ (aG (kc:=8) (aj 0) T.bL (T.me 31) (zL T) di h.mo (T.b 31) .nil (ao (aj 1) az)))) bz)
  (aC (aJ (yV (aG (kc:=0) (aR (T.aW 2) (aj 0)) T.aK (T.me 32) (Eh T) di h.mo (T.b 32) .nil (ao (aP u (aj 1) aB) az)) (pN (aG (kc:=8) (aj 0) T.bL (T.me 36) (yp T) di h.mo (T.b 36) .nil (ao (aj 1) az))))))))
theorem Ef(T:Txt K mg t):gP P w K mg base YT 1 t.ie t.jJ ["self","at"] (Bh K "at"):=
 abv (k:=0) T.ud DQ rfl λcdv A outer s H E=>V0 (acR (pv 0) (pv 1) rfl)
theorem vD(T:Txt K mg t):jz T 38 1 (aN 3 qb) 3:=bR (st:=yd) ["self","hand","term"] (T.fn 38) iZ λh n u=>
 (aC (gm u (aR (T.dz 1) (aj 0)) (aj 1) (aj 2)))
theorem HW(T:Txt K mg t):jz T 39 2 (aN 5 sY) 5:=bR (st:=zx) ["self","hand","term","whom","end"] (T.fn 39) iZ λh n u=>
 (aA (bN (aY (d9 u) (aj 3) (aj 1) (aL _)) (aC (gm u (aR (T.dz 3) (aj 0)) (bZ (ao (aj 1) (ao (aj 2) az))) (aj 4))) bz)
  (aA (gm u (aR (T.dz 2) (aj 0)) (bZ (ao (aj 1) (ao (aj 2) az))) (aQ ae3 (aG (kc:=0) (aj 0) T.aK (T.me 11) (jM T) di h.mo (T.b 11) .nil (ao (aj 1) (ao (aj 2) az))) (bM (FZ T) di h.mo rfl (T.mf 12) (T.kp 12) (T.b 12) .nil (ao (Cz (ao (aj 3) az)) az))))
  (aC (dR (aG (kc:=0) (aj 0) T.aK (T.me 38) (vD T) di h.mo (T.b 38) .nil (ao (aj 1) (ao (aj 2) az)))))))
theorem zN(T:Txt K mg t):jz T 40 1 (aN 3 jY) 3:=bR (st:=qz) ["self","hand","term"] (T.fn 40) iZ λh n u=>
 (aC (gm u (aR (T.dz 4) (aj 0)) (aj 2) (aj 1)))
theorem ym(T:Txt K mg t):jz T 41 2 (aN 3 jw) 3:=bR (st:=oN) ["self","hand","term"] (T.fn 41) iZ λh n u=>
 (aC (gm u (aR (T.cZ 3) (aj 0)) (aj 2) (aG (kc:=7) (aj 0) T.aM (T.me 9) (cT T) di h.mo (T.b 9) .nil (ao (aj 1) az))))
theorem Hy(T:Txt K mg t):jz T 42 1 (aN 2 sG) 2:=bR (st:=yZ) ["self","term"] (T.fn 42) iZ λh n u=>
 (aC (aJ (tO u (aR (T.cZ 4) (aj 0)) (aj 1) aB)))
theorem Ed(T:Txt K mg t):jz T 43 1 (aN 3 Ay) 3:=bR (st:=GK) ["one","two","place"] (T.fn 43) iZ λh n u=>
 (aC (aJ (cR (d9 u) (Nx (aj 0) qK (qJ (aj 2))) (Nx (aj 1) qK (qJ (aj 2))) (aL _))))
theorem CK(T:Txt K mg t):jz T 44 2 (aN 4 mK) 3:=bR (st:=tQ) ["self","lesser","greater","mark"] (T.fn 44) iZ λh n u=>
 (aA (bh (i:=3) n rfl jk (aG (kc:=7) (aj 0) T.aM (T.me 42) (Hy T) di h.mo (T.b 42) .nil (ao (aj 1) az)))
  (aC (aJ (Vw (cR (d9 u) (aj 3) aB (aL _)) (pN (bM (Ed T) di h.mo rfl (T.mf 43) (T.kp 43) (T.b 43) .nil (ao (aG (kc:=7) (aj 0) T.aM (T.me 26) (eX T) di h.mo (T.b 26) .nil (ao (aj 1) az)) (ao (aG (kc:=7) (aj 0) T.aM (T.me 26) (eX T) di h.mo (T.b 26) .nil (ao (aj 2) az)) (ao (aj 3) az)))))))))
theorem wM(T:Txt K mg t):jz T 45 3 (aN 3 jc) 2:=bR (st:=mZ) ["self","term","other"] (T.fn 45) iZ λh n u=>
 (aA (qW (g8 rfl rfl) rfl (ux (bD (Kg rfl) rfl T.El Gu (ao (aR (T.cZ 3) (aj 0)) az))) (cM (i:=2) n rfl jk) (aC (bN (FJ (qU (aG (kc:=7) (aj 0) T.aM (T.me 44) (CK T) di h.mo (T.b 44) .nil (ao (bD (adW rfl) rfl T.aeJ ahy (ao (aj 2) (ao (aj 1) az))) (ao (bD (Ir rfl) rfl T.Ry Py (ao (aj 2) (ao (aj 1) az))) az))))) (aC (aJ (bD (Ir rfl) rfl T.Ry Py (ao (aj 2) (ao (aj 1) az))))) bz)))
  (aC (aJ kJ)))
theorem rD(T:Txt K mg t):jz T 46 4 (aN 3 mR) 2:=bR (st:=tU) ["self","term","lost"] (T.fn 46) iZ λh n u=>
 (aA (bh (i:=2) n rfl jk (aG (kc:=7) (aR (T.aW 3) (aj 0)) T.aM (T.me 45) (wM T) di h.mo (T.b 45) .nil (ao (aj 1) az)))
  (aC (bN (aY Av (aj 2) kJ (aL _)) (aC (cj (T.aW 6) (aj 0) (bZ (ao b_ (ao (aj 2) az))))) bz)))
theorem uA(T:Txt K mg t):jz T 47 5 (aN 3 eN) 3:=bR (st:=lO) ["self","hand","term"] (T.fn 47) iZ λh n u=>
 (aA (bN (aY Av (aG (kc:=0) (aR (T.aW 2) (aj 0)) T.aK (T.me 17) (gR T) di h.mo (T.b 17) .nil (ao (aj 2) az)) kJ (aL _)) (aA (cj (T.aW 6) (aj 0) (bZ (ao b_ (ao (aj 2) az))))
  (aC ack)) bz)
  (aA (dR (aG (kc:=0) (aR (T.aW 2) (aj 0)) T.aK (T.me 40) (zN T) di h.mo (T.b 40) .nil (ao (aj 1) (ao (aj 2) az))))
  (aA (dR (aG (kc:=7) (aR (T.aW 3) (aj 0)) T.aM (T.me 41) (ym T) di h.mo (T.b 41) .nil (ao (aj 1) (ao (aj 2) az))))
  (aC (dR (aG (kc:=8) (aj 0) T.bL (T.me 46) (rD T) di h.mo (T.b 46) .nil (ao (aj 2) az)))))))
theorem X3(T:Txt K mg t):jz T 48 2 (aN 3 Fi) 3:=bR (st:=QS) ["line","row","place"] (T.fn 48) iZ λh n u=>
 (aA (bN (qU (bM (Ed T) di h.mo rfl (T.mf 43) (T.kp 43) (T.b 43) .nil (ao (aj 1) (ao (aj 0) (ao (aj 2) az))))) (aC (aJ (Nx (aj 1) qK qK))) bz)
  (aC (aJ (Nx (aj 0) qK (qJ (aj 2))))))
theorem yj(T:Txt K mg t):jz T 49 1 (aN 3 ju) 3:=bR (st:=oK) ["self","hand","term"] (T.fn 49) iZ λh n u=>
 (aC (aJ (tO u (aR (T.cZ 5) (aj 0)) (bZ (ao (aj 1) (ao (aj 2) az))) aB)))
theorem Hx(T:Txt K mg t):jz T 50 3 (aN 4 sE) 4:=bR (st:=yX) ["self","hand","term","place"] (T.fn 50) iZ λh n u=>
 (aA (gm u (aR (T.cZ 2) (aj 0)) (aj 1) (bM (X3 T) di h.mo rfl (T.mf 48) (T.kp 48) (T.b 48) .nil (ao (aG (kc:=7) (aj 0) T.aM (T.me 26) (eX T) di h.mo (T.b 26) .nil (ao (aj 2) az)) (ao (aG (kc:=7) (aj 0) T.aM (T.me 9) (cT T) di h.mo (T.b 9) .nil (ao (aj 1) az)) (ao (aj 3) az)))))
  (aC (gm u (aR (T.cZ 5) (aj 0)) (bZ (ao (aj 1) (ao (aj 2) az))) (bD (Ir rfl) rfl T.Ry Py (ao (aj 3) (ao (aG (kc:=7) (aj 0) T.aM (T.me 49) (yj T) di h.mo (T.b 49) .nil (ao (aj 1) (ao (aj 2) az))) az))))))
theorem zJ(T:Txt K mg t):jz T 51 1 (aN 3 jW) 3:=bR (st:=qm) ["self","hand","term"] (T.fn 51) iZ λh n u=>
 (aC (aJ (tO u (aR (T.lQ 1) (aj 0)) (bZ (ao (aj 1) (ao (aj 2) az))) aB)))
theorem HH(T:Txt K mg t):jz T 52 2 (aN 4 sO) 4:=bR (st:=zf) ["self","hand","term","beat"] (T.fn 52) iZ λh n u=>
 (aC (gm u (aR (T.lQ 1) (aj 0)) (bZ (ao (aj 1) (ao (aj 2) az))) (bD (Ir rfl) rfl T.Ry Py (ao (aj 3) (ao (aG (kc:=5) (aj 0) T.dH (T.me 51) (zJ T) di h.mo (T.b 51) .nil (ao (aj 1) (ao (aj 2) az))) az)))))
theorem zK(T:Txt K mg t):jz T 53 6 (aN 4 eZ) 2:=bR (st:=qp) ["self","paper","hand","term"] (T.fn 53) iZ λh n u=>
 (aA (bh (i:=2) n rfl jk (aP u (aj 1) aB))
  (aA (bh (i:=3) n rfl jk (aP u (aj 1) aB))
  (aC (bN (aY (d9 u) (aP u (aj 1) aB) b_ (aL _)) (aC (dR (aG (kc:=0) (aR (T.aW 2) (aj 0)) T.aK (T.me 39) (HW T) di h.mo (T.b 39) .nil (ao (aj 2) (ao (aj 3) (ao (aP u (aj 1) aB) (ao (bM (Mg T) di h.mo rfl (T.mf 8) (T.kp 8) (T.b 8) .nil (ao (aG (kc:=7) (aR (T.aW 3) (aj 0)) T.aM (T.me 9) (cT T) di h.mo (T.b 9) .nil (ao (aj 2) az)) az)) az))))))) (aC (bN (aY (d9 u) (aP u (aj 1) aB) b_ (aL _)) (aC (dR (aG (kc:=8) (aj 0) T.bL (T.me 47) (uA T) di h.mo (T.b 47) .nil (ao (aj 2) (ao (aj 3) az))))) (aA (dR (aG (kc:=0) (aR (T.aW 2) (aj 0)) T.aK (T.me 38) (vD T) di h.mo (T.b 38) .nil (ao (aj 2) (ao (aj 3) az))))
  (aA (dR (aG (kc:=7) (aR (T.aW 3) (aj 0)) T.aM (T.me 50) (Hx T) di h.mo (T.b 50) .nil (ao (aj 2) (ao (aj 3) (ao (aP u (aj 1) aB) az)))))
  (aC (dR (aG (kc:=5) (aR (T.aW 4) (aj 0)) T.dH (T.me 52) (HH T) di h.mo (T.b 52) .nil (ao (aj 2) (ao (aj 3) (ao (aP u (aj 1) aB) az))))))))))))))
theorem Ga(T:Txt K mg t):jz T 54 2 (aN 5 pZ) 4:=bR (st:=xZ) ["self","hand","term","what","entry"] (T.fn 54) iZ λh n u=>
 (aA (bh (i:=4) n rfl jk (bZ (ao (aj 2) (ao (aj 3) az))))
  (aA (gm u (aR (T.cZ 3) (aj 0)) (aj 2) (aQ W8 (aG (kc:=7) (aj 0) T.aM (T.me 26) (eX T) di h.mo (T.b 26) .nil (ao (aj 2) az)) (bZ (ao (aj 4) az))))
  (aC (gm u (aR (T.cZ 2) (aj 0)) (aj 1) (aQ W8 (aG (kc:=7) (aj 0) T.aM (T.me 9) (cT T) di h.mo (T.b 9) .nil (ao (aj 1) az)) (bZ (ao (aj 4) az)))))))
theorem Gb(T:Txt K mg t):jz T 55 1 (aN 3 p8) 3:=bR (st:=x_) ["self","term","beat"] (T.fn 55) iZ λh n u=>
 (aC (gm u (aR (T.lQ 0) (aj 0)) (aj 1) (aj 2)))
theorem yo(T:Txt K mg t):jz T 56 5 (aN 3 gM) 2:=bR (st:=oO) ["self","paper","term"] (T.fn 56) iZ λh n u=>
 (aA (bh (i:=2) n rfl jk (aP u (aj 1) aB))
  (aC (bN (aY (d9 u) (aP u (aj 1) aB) b_ (aL _)) (aC (dR (aG (kc:=7) (aR (T.aW 3) (aj 0)) T.aM (T.me 54) (Ga T) di h.mo (T.b 54) .nil (ao (aG (kc:=0) (aR (T.aW 2) (aj 0)) T.aK (T.me 17) (gR T) di h.mo (T.b 17) .nil (ao (aj 2) az)) (ao (aj 2) (ao (aP u (aj 1) aB) az)))))) (aC (bN (aY (d9 u) (aP u (aj 1) aB) b_ (aL _)) (aC (dR (aG (kc:=5) (aR (T.aW 4) (aj 0)) T.dH (T.me 55) (Gb T) di h.mo (T.b 55) .nil (ao (aj 2) (ao (aP u (aj 1) aB) az))))) (aC (bN (aY (d9 u) (aP u (aj 1) aB) b_ (aL _)) (aA oJ
  (aC (dR (aG (kc:=8) (aj 0) T.bL (T.me 46) (rD T) di h.mo (T.b 46) .nil (ao (aj 2) az))))) (aC (bN (aY (d9 u) (aP u (aj 1) aB) b_ (aL _)) (aC oJ) (aC (bN (aY (d9 u) (aP u (aj 1) aB) b_ (aL _)) (aC oJ) bz)))))))))))
theorem iW(T:Txt K mg t):jz T 57 9 (aN 2 iT) 2:=bR (st:=DY) ["self","paper"] (T.fn 57) iZ λh n u=>
 (aA (bN (FJ (qU (aG (kc:=8) (aj 0) T.bL (T.me 37) (HR T) di h.mo (T.b 37) .nil (ao (aj 1) az)))) (aC (ZR (c:=2) T.Gz T.GC (Ef T) h.mo T.vR rfl T.zU rfl di (ao (aR (T.aW 5) (aj 0)) az))) bz)
  (aA (cj (T.aW 5) (aj 0) (aQ jb (aR (T.aW 5) (aj 0)) aB))
  (aC (bN (aY (W6 u) (aP u (aj 1) aB) (Bj rfl T.tX λι n H=>T.tM _ ι n H) (by with_unfolding_all rfl)) (aC (dR (aG (kc:=8) (aj 0) T.bL (T.me 53) (zK T) di h.mo (T.b 53) .nil (ao (aj 1) az)))) (aC (dR (aG (kc:=8) (aj 0) T.bL (T.me 56) (yo T) di h.mo (T.b 56) .nil (ao (aj 1) az))))))))
theorem Rh(T:Txt K mg t):jz T 58 1 (aN 2 Df) 1:=bR (st:=Jk) ["_law_cell","_law_order"] (T.fn 58) iZ λh n u=>
 (aA (bh (i:=1) n rfl jk (bZ (ao b_ (ao (aP u b_ (aQ jT (aj 0) aB)) (ao (aQ jT (aQ sy (aj 0) aB) (aQ PB aB aB)) az)))))
  (aC (aJ (bZ (ao b_ (ao (aQ jT (aj 0) (aQ PB aB aB)) (ao (aQ jT (aQ sy (aj 0) aB) (aQ PB aB aB)) (ao (aj 1) az))))))))
theorem Oa(T:Txt K mg t):jz T 59 10 (aN 13 uf) 6:=bR (st:=GF) ["_law_bench","_law_hands","_law_k","_law_term","_law_ahead","_law_cell","_law_hand","_law_row","_law_size","_law_other","_law_step","_law_what_here","_law_beat"] (T.fn 59) iZ λh n u=>
 (@aA _ _ _ _ _ _ _ (bh (i:=6) n rfl jk (aP u (aj 1) (aj 2))) (@aA _ _ _ _ _ _ _ (bh (i:=7) n rfl jk (Cz az)) (@aA _ _ _ _ _ _ _ (@bN _ _ _ _ _ _ _ _ _ _ (aY Av (aj 4) kJ (aL _)) (@aA _ _ _ _ _ _ _ (bh (i:=8) n rfl jk (aQ jT (aj 5) (aQ jb (bD iM rfl T.lR iQ (ao (aP u (aj 4) aB) az)) aB))) (@aA _ _ _ _ _ _ _ (@dR _ _ _ _ _ _ (@aG _ _ _ _ _ _ _ _ _ _ _ _ _ _ _ _ _ (8) _ _ _ _ (aj 0) T.bL (T.me 57) (iW T) di h.mo (T.b 57) .nil (@ao _ _ _ _ _ _ _ (@bZ _ _ _ _ _ _ _ (@bu _ _ _ _ _ _ _ b_ (@bu _ _ _ _ _ _ _ (aj 6) (@bu _ _ _ _ _ _ _ (aP u (aj 4) aB) (@bu _ _ _ _ _ _ _ (aj 8) (@bu _ _ _ _ _ _ _ aB az rfl) rfl) rfl) rfl) rfl)) az rfl) rfl rfl rfl rfl) rfl) (aC (bh (i:=7) n rfl jk (QH (aP u (aj 4) aB) qK (qJ (aj 8))))))) bz) (aA (qW (g8 rfl rfl) rfl (ux (Cz (ao (aj 2) (ao aB (ao aB az))))) (cM (i:=9) n rfl jk) (aC (dR (aG (kc:=8) (aj 0) T.bL (T.me 57) (iW T) di h.mo (T.b 57) .nil (ao (bZ (ao b_ (ao (aP u (aj 1) (aj 9)) (ao (aj 3) (ao (aj 6) az))))) az)))))
  (aA (dR (aG (kc:=8) (aj 0) T.bL (T.me 57) (iW T) di h.mo (T.b 57) .nil (ao (bZ (ao b_ (ao (aj 6) (ao (aj 3) (ao (aQ jb (aQ jb (aQ Gv aB (aj 6)) (aQ Gv aB (aP u (aj 1) aB))) (aQ Gv aB (aP u (aj 1) aB))) az))))) az)))
  (aA (qW (g8 rfl rfl) rfl (vm rfl T.Bo (ao (aQ jb aB (aQ jT (aQ sy (aj 5) aB) aB)) az)) (cM (i:=10) n rfl jk) (aA (bh (i:=11) n rfl jk (bZ (ao b_ az)))
  (aA (bN (aY Mw (aj 10) aB (aL _)) (aC (bh (i:=11) n rfl jk (bM (Rh T) di h.mo rfl (T.mf 58) (T.kp 58) (T.b 58) .nil (ao (aQ sy (aj 5) (aQ jb aB (aj 10))) az)))) bz)
  (aA (dR (aG (kc:=8) (aj 0) T.bL (T.me 57) (iW T) di h.mo (T.b 57) .nil (ao (bZ (ao b_ (ao (aj 3) (ao (aQ jb (bD iM rfl T.lR iQ (ao (aj 7) az)) aB) (ao (aj 11) az))))) az)))
  (aC (dR (aet PySem.F.plainAttrs_list PySem.F.slot_list_append PySem.F.type_list_append X8 (aj 7) (ao (bZ (ao (aj 3) (ao (aj 11) az))) az))))))))
  (aA (qW (g8 rfl rfl) rfl (vm rfl T.Bo (ao (aQ jT (aQ sy (aj 5) aB) aB) az)) (cM (i:=12) n rfl jk) (aC (dR (aG (kc:=8) (aj 0) T.bL (T.me 57) (iW T) di h.mo (T.b 57) .nil (ao (bZ (ao b_ (ao (aj 3) (ao (aQ jb (aj 12) aB) az)))) az)))))
  (aC (aJ (bZ (ao (aj 3) (ao (aj 7) (ao (aQ jT (aQ sy (aj 5) aB) aB) az)))))))))))))
theorem Ug(T:Txt K mg t):jz T 60 1 (aN 9 Gw) 4:=bR (st:=Ly) ["_law_lines","_law_terms","_law_heads","_law_paper","_law_word","_law_hand","_law_term","_law_place","_law_beat"] (T.fn 60) iZ λh n u=>
 (aA (ZS (aj 3) (Nu rfl (gq (cM (i:=4) n rfl jk) (gq (cM (i:=5) n rfl jk) (gq (cM (i:=6) n rfl jk) (gq (cM (i:=7) n rfl jk) (gq (cM (i:=8) n rfl jk) Ig)))))))
  (aA (bN (SW.pt (BZ (aY (Sv u) (aj 6) (aj 0) (by with_unfolding_all rfl)) (BZ (aY (d9 u) (aP u (aj 2) (aj 6)) (aj 5) (aL _)) (Cy (aY (Kq u) (aj 6) (aP u (aj 1) (aj 5)) (aL _)))))) (aC (aJ qg)) bz)
  (aC (aJ (yV (QJ Ff Ff aB (aj 7) (bD iM rfl T.lR iQ (ao (aP u (aP u (aj 0) (aj 6)) aB) az))) (pN (QJ Ff Ff aB (aj 8) (aP u (aP u (aj 0) (aj 6)) aB))))))))
theorem Ue(T:Txt K mg t):jz T 61 10 (aN 13 Bu) 6:=bR (st:=Lx) ["_law_bench","_law_lines","_law_terms","_law_heads","_law_rows","_law_paper","_law_due_here","_law_refused","_law_word","_law_hand","_law_term","_law_place","_law_beat"] (T.fn 61) iZ λh n u=>
 (aA (bh (i:=6) n rfl jk (bM (Ug T) di h.mo rfl (T.mf 60) (T.kp 60) (T.b 60) .nil (ao (aj 1) (ao (aj 2) (ao (aj 3) (ao (aj 5) az))))))
  (aA (bh (i:=7) n rfl jk qg)
  (aA (afo (cl:=[(1,false),(2,true)]) (v:= .ref (t.c 2)) (cv:= .ref (t.c 2)) rfl rfl di (λ_ z=>z) (λ_=>N6 (v:= .ref (t.c 2)) rfl T.zU rfl) ⟨T.mY,⟨T.oH,zab⟩⟩ (λ_ _=>(aC (dR (aG (kc:=8) (aj 0) T.bL (T.me 57) (iW T) di h.mo (T.b 57) .nil (ao (aj 5) az))))) (λ_=>(aC (bh (i:=7) n rfl jk qg))))
  (aA (bN (qU (aj 6)) (aA (ZS (aj 5) (Nu rfl (gq (cM (i:=8) n rfl jk) (gq (cM (i:=9) n rfl jk) (gq (cM (i:=10) n rfl jk) (gq (cM (i:=11) n rfl jk) (gq (cM (i:=12) n rfl jk) Ig)))))))
  (aA (gm u (aj 2) (aj 9) (aj 10))
  (aC (bN (aY (su u) (QH (aP u (aj 4) (aj 9)) qK (qJ (aj 11))) (QH (aP u (aP u (aj 1) (aj 10)) aB) qK (qJ (aj 11))) (aL _)) (aC (gm u (aj 4) (aj 9) (QH (aP u (aP u (aj 1) (aj 10)) aB) qK (qJ (aj 11))))) bz)))) bz)
  (aC (aJ (cR (su u) (aj 7) (aj 6) (aL _))))))))
theorem Gd(T:Txt K mg t):jz T 62 2 (aN 2 p_) 2:=bR (st:=yc) ["self","h"] (T.fn 62) iZ λh n u=>
 (aC (aJ (aG (kc:=0) (aR (T.aW 2) (aj 0)) T.aK (T.me 10) (dB T) di h.mo (T.b 10) .nil (ao (aj 1) az))))
theorem HJ(T:Txt K mg t):jz T 63 2 (aN 2 sU) 2:=bR (st:=zj) ["self","h"] (T.fn 63) iZ λh n u=>
 (aC (aJ (yU Pj rfl T.Oh Pz (ao (aG (kc:=7) (aR (T.aW 3) (aj 0)) T.aM (T.me 9) (cT T) di h.mo (T.b 9) .nil (ao (aj 1) az)) az))))
theorem K1(T:Txt K mg t):jz T 64 2 (aN 2 xV) 2:=bR (st:=Ea) ["self","term"] (T.fn 64) iZ λh n u=>
 (aC (aJ (yU Pj rfl T.Oh Pz (ao (aG (kc:=7) (aR (T.aW 3) (aj 0)) T.aM (T.me 26) (eX T) di h.mo (T.b 26) .nil (ao (aj 1) az)) az))))
theorem Ei(T:Txt K mg t):jz T 65 1 (aN 1 nW) 1:=bR (st:=vC) ["self"] (T.fn 65) iZ λh n u=>
 (aC (aJ (TV rfl (aR (T.dz 4) (aj 0)) rfl T.El)))
theorem HN(T:Txt K mg t):jz T 66 2 (aN 1 sV) 1:=bR (st:=zm) ["self"] (T.fn 66) iZ λh n u=>
 (aC (aJ (DN (kc:=0) (aR (T.aW 2) (aj 0)) T.aK (T.me 65) (Ei T) di h.mo (T.b 65) .nil)))
theorem N_(T:Txt K mg t):jz T 67 3 (aN 7 Ax) 5:=bR (st:=GD) ["_law_bench","_law_hands","_law_lines","_law_terms","_law_rows","_law_hand","_law_term"] (T.fn 67) iZ λh n u=>
 (aA (qW (g8 rfl rfl) rfl (ux (aj 1)) (cM (i:=5) n rfl jk) (aC (bN (SW.pt (BZ (aY (su u) (aG (kc:=8) (aj 0) T.bL (T.me 62) (Gd T) di h.mo (T.b 62) .nil (ao (aj 5) az)) (aP u (aj 3) (aj 5)) (aL _)) (Cy (aY (su u) (aG (kc:=8) (aj 0) T.bL (T.me 63) (HJ T) di h.mo (T.b 63) .nil (ao (aj 5) az)) (aP u (aj 4) (aj 5)) (aL _))))) (aC (aJ qg)) bz)))
  (aA (acn (g8 rfl rfl) rfl (aj 2) (cM (i:=6) n rfl jk) (aC (bN (aY (su u) (aG (kc:=8) (aj 0) T.bL (T.me 64) (K1 T) di h.mo (T.b 64) .nil (ao (aj 6) az)) (aP u (afs u (aj 2) (aj 6)) aB) (aL _)) (aC (aJ qg)) bz)))
  (aC (aJ (cR (d9 u) (bD iM rfl T.lR iQ (ao (DN (kc:=8) (aj 0) T.bL (T.me 66) (HN T) di h.mo (T.b 66) .nil) az)) (bD iM rfl T.lR iQ (ao (aj 2) az)) (aL _))))))
theorem HQ(T:Txt K mg t):jz T 68 1 (aN 1 sW) 1:=bR (st:=zp) ["self"] (T.fn 68) iZ λh n u=>
 (aC (aJ (aR (T.aW 6) (aj 0))))
theorem agt(T:Txt K mg t):jz T 69 11 (aN 16 abP) 1:=bR (st:=aeu) ["_law_script","_law_hands","_law_bench","_law_lines","_law_heads","_law_rows","_law_terms","_law_term","_law_ahead","_law_k","_law_other","_law_cell","_law_hand","_law_some","_law_place","_law_beat"] (T.fn 69) iZ λh n u=>
 (@aA _ _ _ _ _ _ _ (aco (k:=1) rfl ["_law_script"] [0] n rfl rfl (vm rfl T.Bo (ao aB az)) ⟨⟨rfl,rfl,by first | exact .inl rfl | exact .inr rfl⟩,zab⟩ (λ_ _ _ _ _=>DK) (λ_ _ _ _ _=>(aQ jb (aQ jT (bM (lZ T) Tk.none h.mo rfl (T.mf 0) (T.kp 0) (T.b 0) .nil (ao (aj 1) (ao aB az))) aB) (aQ abK aB (aj 0)))) (by decide +kernel) (by decide +kernel) (by decide +kernel) (by decide +kernel)) (@aA _ _ _ _ _ _ _ (bh (i:=2) n rfl jk (Ny (kc:=8) T.vK (K3 T) di h.mo rfl T.Ru T.Cu (.cons .non .nil) (ao (bD (ahu rfl) rfl T.aeI ahx (ao (DP rfl [] [] (ux (aj 1)) zab (λ_ _ _ _ _=>DK) (λ_ _ _ _ _=>(aQ Gv aB (aj 0))) (by decide +kernel) (by decide +kernel) (by decide +kernel) (by decide +kernel)) az)) az))) (@aA _ _ _ _ _ _ _ (bh (i:=3) n rfl jk je) (@aA _ _ _ _ _ _ _ (bh (i:=4) n rfl jk je) (@aA _ _ _ _ _ _ _ (bh (i:=5) n rfl jk (yU (R_ rfl) rfl T.Ul L2.W5 (ao (DP rfl [] [] (ux (aj 1)) zab (λ_ _ _ _ _=>DK) (λ_ _ _ _ _=>(bZ (ao (aj 0) (ao (Cz az) az)))) (by decide +kernel) (by decide +kernel) (by decide +kernel) (by decide +kernel)) az))) (@aA _ _ _ _ _ _ _ (bh (i:=6) n rfl jk (yU (R_ rfl) rfl T.Ul L2.W5 (ao (DP rfl [] [] (ux (aj 1)) zab (λ_ _ _ _ _=>DK) (λ_ _ _ _ _=>(bZ (ao (aj 0) (ao aB az)))) (by decide +kernel) (by decide +kernel) (by decide +kernel) (by decide +kernel)) az))) (@aA _ _ _ _ _ _ _ (bh (i:=7) n rfl jk (aQ jT (bM (lZ T) di h.mo rfl (T.mf 0) (T.kp 0) (T.b 0) .nil (ao (aj 0) (ao aB az))) (aQ PB aB aB))) (@aA _ _ _ _ _ _ _ (bh (i:=8) n rfl jk kJ) (@aA _ _ _ _ _ _ _ (@qW _ _ _ _ _ _ _ _ _ _ (g8 rfl rfl) rfl (vm rfl T.Bo (ao aB az)) (cM (i:=9) n rfl jk) (@aA _ _ _ _ _ _ _ (bh (i:=7) n rfl jk (aQ jb (aQ jb (aj 7) aB) (aQ jT (aQ sy (bM (lZ T) di h.mo rfl (T.mf 0) (T.kp 0) (T.b 0) .nil (ao (aj 0) (ao aB az))) (aQ jb aB (aj 9))) aB))) (@aA _ _ _ _ _ _ _ (@bh _ _ _ _ _ _ (8) _ _ n rfl jk (@bM _ _ _ _ _ _ _ _ _ _ _ _ _ _ _ _ _ _ (Oa T) di h.mo rfl (T.mf 59) (T.kp 59) (T.b 59) .nil (@bu _ _ _ _ _ _ _ (aj 2) (@bu _ _ _ _ _ _ _ (aj 1) (@bu _ _ _ _ _ _ _ (aj 9) (@bu _ _ _ _ _ _ _ (aj 7) (@bu _ _ _ _ _ _ _ (aj 8) (@bu _ _ _ _ _ _ _ (bM (lZ T) di h.mo rfl (T.mf 0) (T.kp 0) (T.b 0) .nil (ao (aj 0) (ao (aQ jb aB (aj 9)) az))) az rfl) rfl) rfl) rfl) rfl) rfl) (by decide) rfl rfl rfl) rfl (by first | exact .inl rfl | exact .inr rfl | assumption)) (aA (gm u (aj 3) (aj 7) (bZ (ao (aP u (aj 8) aB) (ao (aP u (aj 8) aB) az))))
  (aA (gm u (aj 4) (aj 7) (aP u (aj 1) (aj 9)))
  (aA (gm u (aj 5) (aP u (aj 1) (aj 9)) (yU Pj rfl T.Oh Pz (ao (aP u (aj 8) aB) az)))
  (aC (qW (g8 rfl rfl) rfl (ux (Cz (ao (aj 9) (ao aB (ao aB az))))) (cM (i:=10) n rfl jk) (aC (gm u (aj 6) (aP u (aj 1) (aj 10)) (aj 7)))))))))) (by intro _ ;rfl)) (@aA _ _ _ _ _ _ _ (@qW _ _ _ _ _ _ _ _ _ _ (g8 rfl rfl) rfl (ux (QH (aj 0) (qJ aB) (qJ aB))) (cM (i:=11) n rfl jk) (@aA _ _ _ _ _ _ _ (bh (i:=12) n rfl jk (aP u (aj 1) (aQ jT (aj 11) aB))) (@aA _ _ _ _ _ _ _ (bh (i:=13) n rfl jk (bD (Kg rfl) rfl T.El Gu (ao (aj 3) az))) (@aA _ _ _ _ _ _ _ (bh (i:=7) n rfl jk (aP u (aj 13) (aQ jT (aQ sy (aj 11) aB) aB))) (@aA _ _ _ _ _ _ _ (bh (i:=14) n rfl jk (aQ Kp (aQ jT (aQ sy (aj 11) aB) (aQ jb (bD iM rfl T.lR iQ (ao (aP u (aP u (aj 3) (aj 7)) aB) az)) aB)) aB)) (@aA _ _ _ _ _ _ _ (bh (i:=15) n rfl jk (aQ Kp (aQ jT (aQ sy (aj 11) aB) (aQ jb (aP u (aP u (aj 3) (aj 7)) aB) aB)) aB)) (@aA _ _ _ _ _ _ _ (bN (aY (d9 u) (aQ jT (aQ sy (aj 11) aB) aB) aB (aL _)) (aC (bh (i:=7) n rfl jk (aQ jb (aj 7) aB))) bz) (@aA _ _ _ _ _ _ _ (@bN _ _ _ _ _ _ _ _ _ _ (@FJ _ _ _ _ _ _ (@qU _ _ _ _ _ (@bM _ _ _ _ _ _ _ _ _ _ _ _ _ _ _ _ _ _ (Ue T) di h.mo rfl (T.mf 61) (T.kp 61) (T.b 61) .nil (@bu _ _ _ _ _ _ _ (aj 2) (@bu _ _ _ _ _ _ _ (aj 3) (@bu _ _ _ _ _ _ _ (aj 6) (@bu _ _ _ _ _ _ _ (aj 4) (@bu _ _ _ _ _ _ _ (aj 5) (@bu _ _ _ _ _ _ _ (@bZ _ _ _ _ _ _ _ (@bu _ _ _ _ _ _ _ b_ (@bu _ _ _ _ _ _ _ (aj 12) (@bu _ _ _ _ _ _ _ (aj 7) (@bu _ _ _ _ _ _ _ (aj 14) (@bu _ _ _ _ _ _ _ (aj 15) az rfl) rfl) rfl) rfl) rfl)) az rfl) rfl) rfl) rfl) rfl) rfl) (by decide) rfl rfl rfl) (by intro _ ;rfl))) (aC (aJ qg)) bz) (@aC _ _ _ _ _ (@bN _ _ _ _ _ _ _ _ _ _ (@FJ _ _ _ _ _ _ (@qU _ _ _ _ _ (@bM _ _ _ _ _ _ _ _ _ _ _ _ _ _ _ _ _ _ (N_ T) di h.mo rfl (T.mf 67) (T.kp 67) (T.b 67) .nil (@bu _ _ _ _ _ _ _ (aj 2) (@bu _ _ _ _ _ _ _ (aj 1) (@bu _ _ _ _ _ _ _ (aj 3) (@bu _ _ _ _ _ _ _ (aj 6) (@bu _ _ _ _ _ _ _ (aj 5) az rfl) rfl) rfl) rfl) rfl) (by decide) rfl rfl rfl) (by intro _ ;rfl))) (aC (aJ qg)) bz))))))))) (by intro _ ;rfl)) (aC (aJ (cR Sw (DN (kc:=8) (aj 2) T.bL (T.me 68) (HQ T) di h.mo (T.b 68) .nil) kJ (aL _))))))))))))))
theorem Yh(T:Txt K mg t)(s:Shared)(u:Value):BindsTo s (t.d 69) ⟨[u],[]⟩ [("_law_script",u)]:=by
 obtain⟨oc,od,kV,doc,pm,an,cdv,ct,osl,e,_⟩:=(T.fn 69 rfl).ex
 rw[e]
 exact .of_eq rfl
theorem ade(T:Txt K mg t):gP P w K mg base YT 11 (t.f 69) (t.d 69) ["_law_script"] (spL K):=ajX (agt T) agK
end
set_option autoImplicit true in
theorem all_mk{K:Frag}{h:Heap}{mg:Str->Option Value}(X:K.In h)(G:h.Ns mainGlobals mg){vo0 vo1 vo2 vo3 CN wR wQ wO wN zQ Jy:Obj}{vn0 vn1 vn2 vn3 Rn K7 K6 K5 K4 Oc abE:Nat}{tk0 Hu Ht Hs Hr Hq Ho Hl Hj Jd Jc Jb:Tok}{R0:Array DictEntry}{Od NT:Str}{S7:Addr}{PK iR:List Value}{Nq:List Str}{Nz:List Value}{Qa:Bool}{Pk:Option Bool}{Pg:Option Addr}{Ov Ou Ot Oq Om:Option Value}{Ro Q_:Str}{Ve:Addr}{Sx jt:List Value}{QF:List Str}{QK:List Value}{S5:Bool}{Ss:Option Bool}{R8:Option Addr}{RM RL RK RJ RG:Option Value}(Ky:nsIn K mainGlobals "Rules" = some (some (.ref uh)))(Dk:nsIn K mainGlobals "Ballots" = some (some (.ref n8)))(Di:nsIn K mainGlobals "Strides" = some (some (.ref nY)))(Dj:nsIn K mainGlobals "Replies" = some (some (.ref nZ)))(Kz:nsIn K mainGlobals "Bench" = some (some (.ref uo)))(xW:nsIn K mainGlobals "HallError" = some (some (.ref bG)))(A_:nsIn K mainGlobals "BadPaper" = some (some (.ref cA)))(a0:findIn K (.ref uh) "__init__" = some (some (.ref f0)))(i0:isFn K (.ref f0)=true)(l0:K.lookup f0=some ⟨oc0,od0,.func (fnOf "__init__" "Rules.__init__" (fZ gw) (cX gw) (aX gw) (.ref v0) kV0 dc0 pm0 an0 cd0 ct0),sl0⟩)(c0:codeIn K cd0 "Rules.__init__" = true)(k0:keepIn K (.ref f0)=true)(lv0:K.lookup v0=some vo0)(dv0:vo0.data= .seq #[.str "once best own most" tk0] vn0)(a1:findIn K (.ref uo) "__init__" = some (some (.ref f1)))(i1:isFn K (.ref f1)=true)(l1:K.lookup f1=some ⟨oc1,od1,.func (fnOf "__init__" "Bench.__init__" (fZ gA) (cX gA) (aX gA) (.ref v1) kV1 dc1 pm1 an1 cd1 ct1),sl1⟩)(c1:codeIn K cd1 "Bench.__init__" = true)(k1:keepIn K (.ref f1)=true)(lv1:K.lookup v1=some vo1)(dv1:vo1.data= .seq #[.none] vn1)(a2:nsIn K mainGlobals "carries" = some (some (.ref f2)))(l2:K.lookup f2=some ⟨oc2,od2,.func (fnOf "carries" "carries" (fZ lN) (cX lN) (aX lN) (.ref v2) kV2 dc2 pm2 an2 cd2 ct2),sl2⟩)(c2:codeIn K cd2 "carries" = true)(k2:keepIn K (.ref f2)=true)(lv2:K.lookup v2=some vo2)(dv2:vo2.data= .seq #[.bool false] vn2)(a3:nsIn K mainGlobals "wins" = some (some (.ref f3)))(l3:K.lookup f3=some ⟨oc3,od3,.func (fnOf "wins" "wins" (fZ yW) (cX yW) (aX yW) (.ref v3) kV3 dc3 pm3 an3 cd3 ct3),sl3⟩)(c3:codeIn K cd3 "wins" = true)(k3:keepIn K (.ref f3)=true)(lv3:K.lookup v3=some vo3)(dv3:vo3.data= .seq #[.bool false] vn3)(a4:findIn K (.ref bG) "__init__" = some (some (.ref f4)))(i4:isFn K (.ref f4)=true)(l4:K.lookup f4=some ⟨oc4,od4,.func (fnOf "__init__" "HallError.__init__" (fZ cg) (cX cg) (aX cg) .none kV4 dc4 pm4 an4 cd4 ct4),sl4⟩)(c4:codeIn K cd4 "HallError.__init__" = true)(k4:keepIn K (.ref f4)=true)(pI:KC K uh)(rE:PySem.W.makesIn K uh=true)(J2:keepIn K (.ref uh)=true)(vI:Bb K uh ["once","best","own","most"])(aK:KC K n8)(nF:PySem.W.makesIn K n8=true)(CZ:keepIn K (.ref n8)=true)(cV:Bb K n8 ["rules","terms","votes","askings","seated"])(aM:KC K nY)(nA:PySem.W.makesIn K nY=true)(CV:keepIn K (.ref nY)=true)(cU:Bb K nY ["first_roll","rules","rows","lines","marks","places"])(dH:KC K nZ)(nC:PySem.W.makesIn K nZ=true)(CW:keepIn K (.ref nZ)=true)(nu:Bb K nZ ["beats","heard","looks","seen"])(bL:KC K uo)(vK:PySem.W.makesIn K uo=true)(J3:keepIn K (.ref uo)=true)(vJ:Bb K uo ["first","rules","ballots","strides","replies","count","breach"])(hn_:PySem.W.specialIn K (.builtin "object.__class__") "__get__" = some (some (.builtin "getset_descriptor.__get__")))(tk_:PySem.W.takesIn K (.builtin "object.__class__")=some true)(fu:K.lookup bG=some (excClassObj Od NT bG S7 PK iR true Nq Nz Qa Pk Pg Ov Ou Ot Oq Om "ValueError.__new__"))(wz:iR.contains (.type "ValueError")=true)(wu:iR.contains (.type "AttributeError")=false)(vY:iR.contains (.type "NameError")=false)(jA:iR.contains (.type "BaseException")=true)(qH:iR.contains (.type "object")=true)(wK:iR=[].map Value.ref++[.type "ValueError",.type "Exception",.type "BaseException",.type "object"])(wU:findIn K (.ref bG) "__init__" = some (some (.ref f4)))(xm:keepIn K (.ref bG)=true)(vX:findIn K (.ref bG) "__setattr__" = some (some (.builtin "object.__setattr__")))(wj:findIn K (.ref bG) "__getattribute__" = some (some (.builtin "BaseException.__getattribute__")))(vW:findIn K (.ref bG) "at" = some none)(wg:findIn K (.ref bG) "__getattr__" = some none)(v_:findIn K (.ref bG) "__class__" = some (some (.builtin "object.__class__")))(gJ:K.lookup cA=some (excClassObj Ro Q_ cA Ve Sx jt true QF QK S5 Ss R8 RM RL RK RJ RG "ValueError.__new__"))(yP:jt.contains (.type "ValueError")=true)(yO:jt.contains (.type "AttributeError")=false)(yK:jt.contains (.type "NameError")=false)(lJ:jt.contains (.type "BaseException")=true)(tH:jt.contains (.type "object")=true)(zE:jt=[bG].map Value.ref++[.type "ValueError",.type "Exception",.type "BaseException",.type "object"])(zT:findIn K (.ref cA) "__init__" = some (some (.ref f4)))(z_:keepIn K (.ref cA)=true)(yJ:findIn K (.ref cA) "__setattr__" = some (some (.builtin "object.__setattr__")))(yN:findIn K (.ref cA) "__getattribute__" = some (some (.builtin "BaseException.__getattribute__")))(yI:findIn K (.ref cA) "at" = some none)(yM:findIn K (.ref cA) "__getattr__" = some none)(yL:findIn K (.ref cA) "__class__" = some (some (.builtin "object.__class__")))(fj:subIn K (.ref bG) (.ref bG)=some true)(fQ:subIn K (.ref bG) (.ref cA)=some false)(fU:subIn K (.ref cA) (.ref bG)=some true)(gk:subIn K (.ref cA) (.ref cA)=some true)(Dh:nsIn K mainGlobals "CHOICES" = some (some (.ref Gy)))(z8:K.lookup Gy=some CN)(Ao:CN.cls= .type "tuple")(An:CN.data= .seq #[.ref uZ,.ref uY,.ref uX,.ref uW] Rn)(uF:K.lookup uZ=some wR)(uT:wR.cls= .type "tuple")(uO:wR.data= .seq #[.str "once" Hu,.str "free" Ht] K7)(uE:K.lookup uY=some wQ)(uR:wQ.cls= .type "tuple")(uN:wQ.data= .seq #[.str "best" Hs,.str "any" Hr] K6)(uD:K.lookup uX=some wO)(uQ:wO.cls= .type "tuple")(uM:wO.data= .seq #[.str "own" Hq,.str "old" Ho] K5)(uC:K.lookup uW=some wN)(uP:wN.cls= .type "tuple")(uL:wN.data= .seq #[.str "most" Hl,.str "half" Hj] K4)(Az:nsIn K mainGlobals "OF_HANDS" = some (some (.ref Dl)))(xg:K.lookup Dl=some zQ)(xR:zQ.cls= .type "tuple")(xP:zQ.data= .seq #[.str "vote" Jd,.str "chair" Jc,.str "told" Jb] Oc)(Kw:nsIn K mainGlobals "SIZES" = some (some (.ref Iw)))(Jr:(Iw==sysModules)=false)(JZ:K.lookup Iw=some Jy)(IK:Jy.ExactDict)(Kf:Jy.data= .dict R0 abE)(Jv:PyProof.Rows.KTD.Rows (λi v=>∃t,v=Value.int i t) R0.toList [("vote",4),("chair",4),("write",4),("beat",3),("told",5),("settle",4),("answer",6),("look",6),("seen",8)])(u6:nsIn K mainGlobals "wins_rolls" = some (some (.ref f3)))(Zb:nsIn K mainGlobals "all" = some none)(Td:nsIn K mainGlobals "dict" = some none)(yG:nsIn K mainGlobals "enumerate" = some none)(Za:nsIn K mainGlobals "len" = some none)(S_:nsIn K mainGlobals "list" = some none)(Y_:nsIn K mainGlobals "max" = some none)(Y9:nsIn K mainGlobals "min" = some none)(MP:nsIn K mainGlobals "range" = some none)(Iz:nsIn K mainGlobals "sorted" = some none)(Y8:nsIn K mainGlobals "sum" = some none)(D_:∃xs,Qe K (λk=>match k with | 6=>uh | 0=>n8 | 7=>nY | 5=>nZ | 8=>uo | 1=>bG | 2=>cA | _=>0) m9 xs):
  ∃t,Txt K mg t:=
 let⟨xs_,D⟩:=D_
 ⟨{c:=λk=>match k with | 6=>uh | 0=>n8 | 7=>nY | 5=>nZ | 8=>uo | 1=>bG | 2=>cA | _=>0,xs:=xs_,qM:=f0,mG:=fnOf "__init__" "Rules.__init__" (fZ gw) (cX gw) (aX gw) (.ref v0) kV0 dc0 pm0 an0 cd0 ct0,
   Du:=v0,
   Dy:=tk0,
   qN:=f1,mH:=fnOf "__init__" "Bench.__init__" (fZ gA) (cX gA) (aX gA) (.ref v1) kV1 dc1 pm1 an1 cd1 ct1,
   Dv:=v1,
   Bq:=f2,vP:=fnOf "carries" "carries" (fZ lN) (cX lN) (aX lN) (.ref v2) kV2 dc2 pm2 an2 cd2 ct2,
   Lj:=v2,
   J9:=f3,Ke:=fnOf "wins" "wins" (fZ yW) (cX yW) (aX yW) (.ref v3) kV3 dc3 pm3 an3 cd3 ct3,
   Zg:=v3,
   ie:=f4,jJ:=fnOf "__init__" "HallError.__init__" (fZ cg) (cX cg) (aX cg) .none kV4 dc4 pm4 an4 cd4 ct4,
   Gj:=Gy,
   De:=Dl,
   O5:=Iw},
  {D:=D,G:=λ_ _ a=>jS X G a,Cp:=xK l0 c0 k0,
   mL:=λs us X hl=>by obtain⟨u0,u1,rfl⟩:=xj (us:=us) (by simpa using hl);exact PySem.W.binds_K X rfl lv0 dv0 rfl rfl,
   uV:=λs us X hl=>by obtain⟨u0,rfl⟩:=Oi (us:=us) (by simpa using hl);exact PySem.W.binds_K X rfl lv0 dv0 rfl rfl,
   Cq:=xK l1 c1 k1,
   mQ:=λs us X hl=>by obtain⟨u0,u1,u2,rfl⟩:=Eu (us:=us) (by simpa using hl);exact PySem.W.binds_K X rfl lv1 dv1 rfl rfl,
   Cu:=λs us X hl=>by obtain⟨u0,u1,rfl⟩:=xj (us:=us) (by simpa using hl);exact PySem.W.binds_K X rfl lv1 dv1 rfl rfl,
   xN:=xK l2 c2 k2,
   nP:=λs us X hl=>by obtain⟨u0,u1,u2,rfl⟩:=Eu (us:=us) (by simpa using hl);exact PySem.W.binds_K X rfl lv2 dv2 rfl rfl,
   U_:=λs us X hl=>by obtain⟨u0,u1,rfl⟩:=xj (us:=us) (by simpa using hl);exact PySem.W.binds_K X rfl lv2 dv2 rfl rfl,
   CP:=jS X G a2,
   O8:=xK l3 c3 k3,
   Aw:=λs us X hl=>by obtain⟨u0,u1,u2,rfl⟩:=Eu (us:=us) (by simpa using hl);exact PySem.W.binds_K X rfl lv3 dv3 rfl rfl,
   ad8:=λs us X hl=>by obtain⟨u0,u1,rfl⟩:=xj (us:=us) (by simpa using hl);exact PySem.W.binds_K X rfl lv3 dv3 rfl rfl,
   adl:=jS X G a3,
   ud:=xK l4 c4 k4,
   vR:=(xK l4 c4 k4:yE K _ _ cg .none _ _).binds (ps:=["self","at"]) λ_ _ _ _ _ _ us hl=>by obtain⟨u0,u1,rfl⟩:=xj hl;rfl,
   rE:=⟨rE,a0,i0,J2⟩,
   pI:=pI,
   JB:=jS X G Ky,
   vI:=vI,
   nF:=D.mk (i:=3) rfl rfl rfl rfl nF CZ,
   aK:=aK,
   JD:=jS X G Dk,
   cV:=cV,
   nA:=D.mk (i:=4) rfl rfl rfl rfl nA CV,
   aM:=aM,
   Jz:=jS X G Di,
   cU:=cU,
   nC:=D.mk (i:=5) rfl rfl rfl rfl nC CW,
   dH:=dH,
   JC:=jS X G Dj,
   nu:=nu,
   vK:=⟨vK,a1,i1,J3⟩,
   bL:=bL,
   Ru:=jS X G Kz,
   vJ:=vJ,
   Og:=jS X G xW,
   M_:=Zc fu wz wu vY jA wU i4 xm,
   Nf:=Vk fu qH jA (GQ wK) vX wj vW,
   Nb:=Zd fu qH wg v_ hn_ tk_,
   zU:=jS X G A_,
   Gz:=Zc gJ yP yO yK lJ zT i4 z_,
   GC:=Vk gJ tH lJ (GQ zE) yJ yN yI,
   Ql:=Zd gJ tH yM yL hn_ tk_,
   vZ:=Vj fu jA fj,
   xq:=Wn fu fj,
   mY:=Vj gJ lJ fQ,
   yq:=Wn gJ fQ,
   yh:=Vj fu jA fU,
   yr:=Wn fu fU,
   oH:=Vj gJ lJ gk,
   Aa:=Wn gJ gk,
   wV:=jS X G Dh,
   wB:=λct ι n H=>(S.Gm (xs:=[.ref uZ,.ref uY,.ref uX,.ref uW]) z8 Ao An (by simp) (.cons rfl (.cons rfl (.cons rfl (.cons rfl .nil)))) (.cons (S.Gm (xs:=[.str "once",.str "free"]) uF uT uO (by simp) (.cons ⟨_,rfl⟩ (.cons ⟨_,rfl⟩ .nil)) (.cons (.str _) (.cons (.str _) .nil))) (.cons (S.Gm (xs:=[.str "best",.str "any"]) uE uR uN (by simp) (.cons ⟨_,rfl⟩ (.cons ⟨_,rfl⟩ .nil)) (.cons (.str _) (.cons (.str _) .nil))) (.cons (S.Gm (xs:=[.str "own",.str "old"]) uD uQ uM (by simp) (.cons ⟨_,rfl⟩ (.cons ⟨_,rfl⟩ .nil)) (.cons (.str _) (.cons (.str _) .nil))) (.cons (S.Gm (xs:=[.str "most",.str "half"]) uC uP uL (by simp) (.cons ⟨_,rfl⟩ (.cons ⟨_,rfl⟩ .nil)) (.cons (.str _) (.cons (.str _) .nil))) .nil))))),
   tX:=jS X G Az,
   tM:=λct ι n H=>(S.Gm (xs:=[.str "vote",.str "chair",.str "told"]) xg xR xP (by simp) (.cons ⟨_,rfl⟩ (.cons ⟨_,rfl⟩ (.cons ⟨_,rfl⟩ .nil))) (.cons (.str _) (.cons (.str _) (.cons (.str _) .nil)))),
   Rt:=jS X G Kw,
   Qu:=⟨Jr,_,_,_,JZ,IK,Kf,Jv⟩,
   Ce:=jS X G u6,
   aeL:=uS X G Zb,
   Ul:=uS X G Td,
   zX:=uS X G yG,
   lR:=uS X G Za,
   Oh:=uS X G S_,
   Ry:=uS X G Y_,
   aeJ:=uS X G Y9,
   Bo:=uS X G MP,
   El:=uS X G Iz,
   aeI:=uS X G Y8}⟩
end My
open PySem PySem.W PyProof.Rows L2
structure PySem.W.Fast:Prop where(tw17496858812597951776 tw3232535531916475712 tw17947752431876453824 tw18014171786862288320 tw5858419386703127008 tw1653604811165275680 tw8694951710120344128 tw10395331195523827296 tw9993498126689209024 tw2237310148773521344 tw8829550206634254304 tw18114396720436583521 tw7907073023218371745 tw10139416676704025825 tw10064777961335514369 tw3287212829170173345 tw4361937532599888321 tw8646038111426274849 tw3807714418531925569 tw9066075936346143329 tw9552287771089242817 tw12075529961178596129 tw6989290506358205281 tw8112970069647581025 tw12907653825724689345 tw18354864688021812226 tw849857959868417058 tw6301399147997633602 tw3650404808911064258 tw13732136321627138370 tw16683421617366873410 tw1196139058949430626 tw16794773896218750338 tw1056806451068807586 tw11043689018376532418 tw812032445068964450 tw17145965000115388034 tw8247891317836044098 tw6592581851711798082 tw9157295048868794274 tw2295214291029067714 tw1154404740068115651 tw9000167911672386755 tw15727092279371536675 tw16759457452088543523 tw2235609279812727075 tw5545545484372302243 tw17552907717202385347 tw5980094810315214275 tw5939600673907672643 tw15215680334864701027 tw534600742685566563 tw5928816232319052387 tw1218275082646963043 tw17716519960908181379 tw11437217433360980004 tw9377823616015615236 tw10015413647196283172 tw265240061919384900 tw7441412711005015428 tw17531624427521677892 tw3002966669749101252 tw11252470740154132196 tw623870772880919300 tw15845536052840320037 tw7689098821725442117 tw6472080989134551109 tw17803509900501243013 tw2090998210018531493 tw16612139745518071109 tw2605215061331494405 tw16628926911696346693 tw14182711068667285093 tw13017490767791005317 tw15328543323953736325 tw4735302107067381477 tw4140549282236390438 tw13309489770681538726 tw4739171036350719142 tw7320287864292203750 tw7641494454472595750 tw13854579607511498022 tw9880236064125486470 tw2677863781256671622 tw1919326585723664806 tw4566696017104683558 tw15790806181739708038 tw6404429985106833511 tw8033582257141667943 tw9136239452409099527 tw16032492908472006087 tw10783982059646836199 tw16016760698968043015 tw4306539511144511111 tw7900110184952244039 tw17260455773780697063 tw17573579184842638408 tw5311702505644985736 tw2189426733334060424 tw498215690297507208 tw9574145686200512296 tw7293213613768512360 tw7595198386635787112 tw9453301985929281641 tw7080492765073992905 tw3513074162038291849 tw1276173468931622313 tw2932204970431136233 tw17220421432530901545 tw13773689015310439017 tw11527947040617252489 tw7140330912196450985 tw16570014780722246313 tw8931919945032440521 tw4474006811302837993 tw10239393255596480361 tw11644014515870046089 tw17955158589121490825 tw1562383226285377449 tw8833163584371271722 tw12379591694449140874 tw17336536939740473706 tw14502929723045593482 tw16492671763717597674 tw14175536845669611114 tw4367288767761258186 tw8517047188998587114 tw4134620837991372522 tw7334714561172245354 tw510117603748973418 tw15263468476263633866 tw4897548556385152970 tw16782970995242533866 tw7937750928455029738 tw6765911380759869515 tw11614570508011762795 tw13630559916355626123 tw11546555956000765099 tw5082727770767425771 tw874103776935656907 tw10423796232465028587 tw13918639722745042411 tw13432726997230318123 tw13864987814816380651 tw7448746561882110731 tw2927840893508315915 tw14303941916336024331 tw13273737898356504395 tw13706098056450973708 tw12894924763153055020 tw15920635237950162252 tw4542998730842592620 tw15585176473580117516 tw231503327816333836 tw13539371899031979596 tw13341487468320580236 tw822532083541054156 tw15913175873117528812 tw15310719197693256492 tw10418447750523590476 tw4203168216932211596 tw9432151428727040972 tw11648220638318994477 tw15403527395099981869 tw14607160029003299949 tw4620070464116722093 tw794631616472216077 tw1600918655203609357 tw2000976104255619917 tw16107849333369886701 tw193262160466736302 tw6287297810903146702 tw9398761071812259054 tw355995127072764142 tw13305210757426249998 tw505088941413639438 tw7129019030028264782 tw648866575789206862 tw5528148439786492398 tw11569577581588187726 tw77405673077832270 tw5081291518504218350 tw8037424693622114126 tw11354747331100996462 tw6189395708175346670 tw7030285488109395983 tw7732174023676080143 tw657390331267454127 tw13825141161424462063 tw575287483173337391 tw14036538972761361775 tw11505419693862657967 tw16105604766287383600 tw16060183497882609744 tw11377305396122301584 tw5472961029678273712 tw11017720368359694512 tw2831600685283093744 tw14063471751351316944 tw1367314984403326416 tw11979269114855512624 tw10546897548023745072 tw11327331178394802832 tw11275274752874609360 tw16736931564705663952 tw9492696497688503345 tw2119018775943223633 tw1067037287395455313 tw2881690464127495601 tw10911079698750784977 tw7848838814708770257 tw11498133990914273809 tw3775815581154808401 tw9130880612827313905 tw15319930553152983857 tw4234265078211110833 tw12021758487154593106 tw2206427678229540210 tw1769823153280608722 tw981328246036901362 tw2768643695756782098 tw10129932061961974290 tw5728394311393577522 tw6406969982288725586 tw5154044263762435666 tw3096794569871707890 tw3190929645818492690 tw17837826713552832338 tw11857162047595459442 tw12899051152350047122 tw5730509149703142322 tw2620955520893289426 tw13511047278793496530 tw11471657320362623986 tw5876975352508616755 tw6286279561368577075 tw12864223087486425299 tw8192875082418781555 tw15274662099642065299 tw13069707840867076531 tw9480105517111967251 tw11713544784273001043 tw11835848967341732435 tw6869560449301382771 tw221522944183890547 tw11396364973369644723 tw3559810396106992435 tw6494124056567648083 tw12239875172691110739 tw4147024172027638643 tw16917152682748244883 tw14327636176786719667 tw3251120689929352628 tw4479047057649699348 tw9805410652937612820 tw8912278231176183316 tw826813394398451252 tw13768283921725862580 tw9721837666807299860 tw10387298401928844116 tw18378265861961706645 tw4423702505721063573 tw14105314410683378933 tw3178868556688962869 tw7460528764531065301 tw401904427063567861 tw1153363913622939317 tw17794739433379358389 tw2833467100516353813 tw13020983052922475317 tw10513999585932754773 tw16953936406508217430 tw8707226299211932790 tw4226458571173185686 tw829378100229608662 tw2702159167241527638 tw3460529924712635798 tw15860971527580343958 tw2818597825351174038 tw860686923649830838 tw12011877082872384502 tw18095429958592686231 tw4909692798417938615 tw6089715375065153751 tw8415297139516564759 tw9388004196032560439 tw6779509004091602263 tw17914056933598295383 tw14851091940361314999 tw15377121681825015511 tw11749739247809369975 tw3216661536090334167 tw18281677597742266327 tw806663993322165239 tw7368504774473853976 tw12648663238302185592 tw3548463393680392344 tw7182205737750764696 tw3439723768189033656 tw16908816432365111512 tw10647246914244392344 tw8069882598851246488 tw18388954584065965464 tw6574821185441712568 tw13054947321790433816 tw12210143442062576248 tw16139787533370620600 tw7968806325611588312 tw940978856736912184 tw17728765117015789593 tw8746641936834052121 tw11855759540258529433 tw5770258758210407609 tw12185048895145993401 tw11790525621709507833 tw4434227394274274937 tw1957381708358980313 tw13167572958787946233 tw12847143958721646329 tw13781166680048441273 tw6918524038917023673 tw2769857267499531322 tw9890592010825690202 tw2772664695585988794 tw12204929975189582042 tw5776746142544561434 tw10651848351029103898 tw16540960245338723610 tw9466362541656040730 tw15684497332344083994 tw4648515889087062586 tw5590706401221401146 tw16459052199631156890 tw10250955183119198938 tw6524780116480617210 tw10745368304915148538 tw3137327243157491514 tw1803138624980918170 tw4585039689357814682 tw10091648078554501082 tw15993637040568514522 tw9751362538486094875 tw15279015237214159963 tw6180159962294750363 tw11332802746029263099 tw849229124730983867 tw3985277002036743643 tw4218649423909148443 tw16750173626195066811 tw9337225021487084475 tw12888668566951787515 tw15884300765425851420 tw17279171755931784252 tw9798689459358969020 tw869018627074855132 tw16802917305321871676 tw2187847889550372188 tw12258000856609046940 tw17465173274034490812 tw16570702863101347292 tw15202026568038095420 tw14455565659557733948 tw12478647983135162972 tw12324434772377019100 tw8717688711776176956 tw4244297915259797372 tw14121535622227069852 tw12891139379303220156 tw17153945908905873340 tw13317802428906037212 tw14867615737868313661 tw12089019008894325821 tw3819298101063746781 tw6287500160237657309 tw15467182344090653021 tw11968348888122434909 tw13303349976198067549 tw3914565239967072701 tw14056287537648629213 tw2229110225640984061 tw12270039780230044189 tw7920059006109089405 tw7954838405516730045 tw1086801405765284797 tw17904384148087955453 tw326853768727178270 tw9041554536927127582 tw1067914677408769118 tw6681206035566217342 tw817595211586976062 tw16296117368923114846 tw950399495258796414 tw17444095459705204126 tw9245998805754164766 tw15647157228936371774 tw1455097120654256766 tw9980606242255911582 tw15467684529806039710 tw18070645579131091646 tw6227282813348592478 tw13927202699552326526 tw17462830757727479806 tw11018598284553574398 tw2063255187147582527 tw4076323998805427295 tw14974538845623340127 tw6061879717803602079 tw13280459645042867455 tw10931800069871861055 tw6910438272882292127 tw3092358049903725983 tw16806912743818548639 tw60297064377105855 tw7825820113292904927 tw16194619425462514143 tw8816101820105794079 tw9775577474140154399 tw13958193578571554335 tw4393810607616059007 tw5934190314465486463 tw13452250864404917887 tw8662501410837040063 tw2208657310149264351 tw4664291915429696687:True)
theorem PySem.Challenge.cw_chairvote_k63_tolds_holds : PySem.Challenge.rw_chairvote_k63_tolds.Holds := by
 w_on;o_law;k_head;(case hw=>w_witness2)
 k_fill
 refine S.ais (l:=PySem.Challenge.rw_chairvote_k63_tolds) (x:= "_law_script") (k:=11) rfl rfl ⟨rfl,by decide,by decide⟩ (fun w h Y=>PySem.W.kIn_of Y) ?F
 case F=>
  intro w mg fa h KX G hmg
  have T:∃t,My.Txt (L2.KOf KX) mg t:=by
   dsimp only[L2.KOf]
   refine' My.all_mk KX G ?Ky ?Dk ?Di ?Dj ?Kz ?xW ?A_ ?a0 ?i0 ?l0 ?c0 ?k0 ?lv0 ?dv0 ?a1 ?i1 ?l1 ?c1 ?k1 ?lv1 ?dv1 ?a2 ?l2 ?c2 ?k2 ?lv2 ?dv2 ?a3 ?l3 ?c3 ?k3 ?lv3 ?dv3 ?a4 ?i4 ?l4 ?c4 ?k4 ?pI ?rE ?J2 ?vI ?aK ?nF ?CZ ?cV ?aM ?nA ?CV ?cU ?dH ?nC ?CW ?nu ?bL ?vK ?J3 ?vJ ?hn_ ?tk_ ?fu ?wz ?wu ?vY ?jA ?qH ?wK ?wU ?xm ?vX ?wj ?vW ?wg ?v_ ?gJ ?yP ?yO ?yK ?lJ ?tH ?zE ?zT ?z_ ?yJ ?yN ?yI ?yM ?yL ?fj ?fQ ?fU ?gk ?Dh ?z8 ?Ao ?An ?uF ?uT ?uO ?uE ?uR ?uN ?uD ?uQ ?uM ?uC ?uP ?uL ?Az ?xg ?xR ?xP ?Kw ?Jr ?JZ ?IK ?Kf ?Jv ?u6 ?Zb ?Td ?yG ?Za ?S_ ?Y_ ?Y9 ?MP ?Iz ?Y8 ?D_
   case Ky | Dk | Di | Dj | Kz | xW | A_ | a0 | i0 | l0 | c0 | k0 | lv0=>k_is
   case dv0=>rfl
   case a1 | i1 | l1 | c1 | k1 | lv1=>k_is
   case dv1=>rfl
   case a2 | l2 | c2 | k2 | lv2=>k_is
   case dv2=>rfl
   case a3 | l3 | c3 | k3 | lv3=>k_is
   case dv3=>rfl
   case a4 | i4 | l4 | c4 | k4=>k_is
   case pI=>exact⟨by k_is,by k_is,by k_is,by k_is⟩
   case rE | J2=>k_is
   case vI=>(repeat (refine vG (by k_is) ?_));exact zR
   case aK=>exact⟨by k_is,by k_is,by k_is,by k_is⟩
   case nF | CZ=>k_is
   case cV=>(repeat (refine vG (by k_is) ?_));exact zR
   case aM=>exact⟨by k_is,by k_is,by k_is,by k_is⟩
   case nA | CV=>k_is
   case cU=>(repeat (refine vG (by k_is) ?_));exact zR
   case dH=>exact⟨by k_is,by k_is,by k_is,by k_is⟩
   case nC | CW=>k_is
   case nu=>(repeat (refine vG (by k_is) ?_));exact zR
   case bL=>exact⟨by k_is,by k_is,by k_is,by k_is⟩
   case vK | J3=>k_is
   case vJ=>(repeat (refine vG (by k_is) ?_));exact zR
   case hn_ | tk_ | fu=>k_is
   case wz | wu | vY | jA | qH=>decide +kernel
   case wK=>rfl
   case wU | xm | vX | wj | vW | wg | v_ | gJ=>k_is
   case yP | yO | yK | lJ | tH=>decide +kernel
   case zE=>rfl
   case zT | z_ | yJ | yN | yI | yM | yL | fj | fQ | fU | gk | Dh | z8=>k_is
   case Ao | An=>rfl
   case uF=>k_is
   case uT | uO=>rfl
   case uE=>k_is
   case uR | uN=>rfl
   case uD=>k_is
   case uQ | uM=>rfl
   case uC=>k_is
   case uP | uL=>rfl
   case Az | xg=>k_is
   case xR | xP=>rfl
   case Kw=>k_is
   case Jr=>decide
   case JZ=>k_is
   case IK=>exact⟨rfl,rfl,rfl⟩
   case Kf=>rfl
   case Jv=>exact .cons rfl ⟨_,rfl⟩ (.cons rfl ⟨_,rfl⟩ (.cons rfl ⟨_,rfl⟩ (.cons rfl ⟨_,rfl⟩ (.cons rfl ⟨_,rfl⟩ (.cons rfl ⟨_,rfl⟩ (.cons rfl ⟨_,rfl⟩ (.cons rfl ⟨_,rfl⟩ (.cons rfl ⟨_,rfl⟩ (.nil)))))))))
   case u6 | Zb | Td | yG | Za | S_ | Y_ | Y9 | MP | Iz | Y8=>k_is
   case D_=>(repeat (first | refine aho (by k_is) (by k_is) (by k_is) (by k_is) (by intro kV dc pm an cd ct us hl;first | (obtain⟨u0,rfl⟩:=Oi hl;rfl) | (obtain⟨u0,u1,rfl⟩:=xj hl;rfl) | (obtain⟨u0,u1,u2,rfl⟩:=Eu hl;rfl) | (obtain⟨u0,u1,u2,u3,rfl⟩:=Wl hl;rfl) | (obtain⟨u0,u1,u2,u3,u4,rfl⟩:=S.Wj hl;rfl) | (obtain⟨u0,u1,u2,u3,u4,u5,rfl⟩:=S.Wi hl;rfl)) ?_ | refine ahn rfl (by k_is) (by k_is) (by k_is) (by k_is) (by k_is) (by intro kV dc pm an cd ct us hl;first | (obtain⟨u0,rfl⟩:=Oi hl;rfl) | (obtain⟨u0,u1,rfl⟩:=xj hl;rfl) | (obtain⟨u0,u1,u2,rfl⟩:=Eu hl;rfl) | (obtain⟨u0,u1,u2,u3,rfl⟩:=Wl hl;rfl) | (obtain⟨u0,u1,u2,u3,u4,rfl⟩:=S.Wj hl;rfl) | (obtain⟨u0,u1,u2,u3,u4,u5,rfl⟩:=S.Wi hl;rfl)) ?_));exact adQ
  obtain⟨t,T⟩:=T
  have e0:=hmg.symm.trans (T.mf 69 rfl rfl)
  cases e0
  exact⟨(t.d 69),fun s u=>My.Yh T s u,fun base _ _=>My.ade T⟩

