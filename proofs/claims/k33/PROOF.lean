import PyProof.Rows.All
import Wide.All
import OpenK.AllK
import Wide.FinOn
import Lean
import PyProof.EqAt
import PyProof.EqKinds
import PyProof.TupleCall
import PySem.Challenge.RW_chairvote_k33_votes_that_win
abbrev zC:=@PySem.wpAny_bind
abbrev zD:=@PySem.Heap.get?_push_of_some
abbrev zI:=@PySem.wpAny_pure
abbrev zS:=@PySem.Heap.lt_size
abbrev yA:=@Nat.lt_of_lt_of_le
abbrev yB:=@PySem.Heap.get?_push_size
abbrev yT:=@List.mem_cons_of_mem
abbrev yY:=@Nat.le_trans
abbrev xA:=@Bool.false_ne_true
abbrev xB:=@List.mem_cons_self
abbrev xD:=@Nat.ne_of_lt
abbrev xE:=@List.mem_append_right
abbrev xI:=@Option.some.inj
abbrev xL:=@PySem.Heap.get?_update_other
abbrev xS:=@Nat.ne_of_gt
abbrev wP:=@Nat.lt_irrefl
abbrev wS:=@PySem.wpAny_newObj_type
abbrev wT:=@PySem.wpAny_mono
abbrev vE:=@PySem.Heap.get?_update_self
abbrev vF:=@PySem.W.mg_none_of
abbrev vS:=@PySem.W.kia_one
abbrev vT:=@PySem.wpAny_call_entry
abbrev uS:=@PySem.W.mg_of
abbrev jI:=@True.intro
abbrev jS:=@Nat.le_refl
abbrev zaa:=@List.getElem?_eq_getElem
abbrev zab:=@List.getElem?_append_right
abbrev zac:=@List.getElem?_append_left
abbrev zad:=@decide_eq_false
abbrev zae:=@decide_eq_true
abbrev zaf:=@List.getElem?_set_ne
abbrev zag:=@List.getElem?_set_self
abbrev zaj:=@List.getElem?_map
abbrev zak:=@List.length_map
noncomputable section
local macro_rules|`(())=>`(by omega)
open PySem.W (Frag fnOf findIn keepIn nsIn codeIn isFn kitOne subIn exmOne)
set_option Elab.async false
set_option linter.all false
set_option maxRecDepth 100000
namespace L2
open PySem PySem.Spec PyProof.Rows
abbrev Key:=Sum Int Str
noncomputable def Mu:Key->Value->Bool
 | .inl k,v=>Value.isInt k v
 | .inr x,v=>Value.isStrOf x v
def avS(w:World):Key->Int
 | .inl k=>hashInt k
 | .inr x=>hashStr w x
theorem jt:∀{k:Key} {v:Value},Mu k v=true->(∃i t,k=Sum.inl i/\v=Value.int i t)\/(∃x t,k=Sum.inr x/\v=Value.str x t)
 | .inl i,v,h=>by
  obtain⟨t,e⟩:=Value.isInt_shape (k:=i) (v:=v) h
  exact .inl ⟨i,t,rfl,e⟩
 | .inr x,v,h=>by
  obtain⟨t,e⟩:=Value.isStrOf_shape (x:=x) (v:=v) h
  exact .inr ⟨x,t,rfl,e⟩
theorem Yb(i:Int)(t:Tok):Mu (.inl i) (.int i t)=true:=by simp[Mu,Value.isInt]
theorem X_(x:Str)(t:Tok):Mu (.inr x) (.str x t)=true:=by simp[Mu,Value.isStrOf]
theorem afq(a b:Int):decide ((Sum.inl a:Key)=Sum.inl b)=(a==b):=by
 by_cases e:a=b
 ·subst e;simp
 ·have h:¬(Sum.inl a:Key)=Sum.inl b:=λq=>e (Sum.inl.inj q)
  rw[zad h]
  exact(beq_eq_false_iff_ne.mpr e).symm
theorem afn(a b:Str):decide ((Sum.inr a:Key)=Sum.inr b)=decide (a=b):=by
 by_cases e:a=b
 ·subst e;simp
 ·have h:¬(Sum.inr a:Key)=Sum.inr b:=λq=>e (Sum.inr.inj q)
  rw[zad h,zad e]
theorem afp(a:Int)(b:Str):decide ((Sum.inl a:Key)=Sum.inr b)=false:=zad (λq=>nomatch q)
theorem afo(a:Str)(b:Int):decide ((Sum.inr a:Key)=Sum.inl b)=false:=zad (λq=>nomatch q)
def jl(prog:Program)(w:World):PySem.KeyKind prog w Key where
 is:=Mu
 hash:=avS w
 inj:=λv a b ha hb=>by
  rcases jt ha with⟨i,t,rfl,rfl⟩ | ⟨x,t,rfl,rfl⟩
  ·rcases jt hb with⟨j,u,rfl,e⟩ | ⟨y,u,rfl,e⟩
   ·injection e with e1 _;rw[e1]
   ·exact nomatch e
  ·rcases jt hb with⟨j,u,rfl,e⟩ | ⟨y,u,rfl,e⟩
   ·exact nomatch e
   ·injection e with e1 _;rw[e1]
 byValue:=λk v h=>by
  rcases jt h with⟨i,t,rfl,rfl⟩ | ⟨x,t,rfl,rfl⟩<;>rfl
 pyHash:=λhv h=>by
  rcases jt hv with⟨i,t,rfl,rfl⟩ | ⟨x,t,rfl,rfl⟩
  ·exact wpAny_pyHash_int h
  ·exact wpAny_pyHash_str h
 eqBool:=λhu hv h=>by
  rcases jt hu with⟨i,t,rfl,rfl⟩ | ⟨x,t,rfl,rfl⟩
  ·rcases jt hv with⟨j,u,rfl,rfl⟩ | ⟨y,u,rfl,rfl⟩
   ·rw[afq]at h;exact wpAny_eqBool_int h
   ·rw[afp]at h;exact SeqAt.EqAt.int_str i t y u _ _ _ _ h
  ·rcases jt hv with⟨j,u,rfl,rfl⟩ | ⟨y,u,rfl,rfl⟩
   ·rw[afo]at h;exact SeqAt.EqAt.str_int x t j u _ _ _ _ h
   ·rw[afn]at h;exact wpAny_eqBool_str h
 «strs» := λk x t v h=>by
  rcases jt h with⟨i,u,rfl,e⟩ | ⟨y,u,rfl,e⟩
  ·exact nomatch e
  ·injection e with e1 _
   subst e1
   cases v<;>rfl
theorem S9(prog:Program)(w:World)(i:Int)(t:Tok):(jl prog w).is (.inl i) (.int i t)=true:=Yb i t
theorem S8(prog:Program)(w:World)(x:Str)(t:Tok):(jl prog w).is (.inr x) (.str x t)=true:=X_ x t
inductive V where
 | non | bl (b:Bool) | int (i:Int) | str (x:Str) | byt (b:Array UInt8) | flt (b:UInt64) | ref (a:Addr) | ty (n:String)
 deriving DecidableEq
def RelV:V->Value->Prop
 | .non,u=>u=Value.none
 | .bl b,u=>u=Value.bool b
 | .int i,u=>∃t,u=Value.int i t
 | .str x,u=>∃t,u=Value.str x t
 | .byt b,u=>∃t,u=Value.bytes b t
 | .flt b,u=>∃t,u=Value.float b t
 | .ref a,u=>u=Value.ref a
 | .ty n,u=>u=Value.type n
abbrev Vals:List V->List Value->Prop:=Paired RelV
theorem Vals.length(r:Vals xs us):xs.length=us.length:=Paired.length r
theorem Vals.get:∀{xs:List V} {us:List Value} {i:Nat} {x:V},Vals xs us->xs[i]? = some x->∃u,us[i]? = some u/\RelV x u
 | _,_,_,_,.nil,e=>by simp at e
 | _,_,0,_,.cons r _,e=>by simp at e;subst e;exact⟨_,rfl,r⟩
 | _,_,i+1,x,.cons _ t,e=>by
  obtain⟨u,h1,h2⟩:=Vals.get (i:=i) (x:=x) t (by simpa using e)
  exact⟨u,by simpa using h1,h2⟩
theorem Vals.append:∀{xs ys:List V} {us ws:List Value},Vals xs us->Vals ys ws->Vals (xs++ys) (us++ws)
 | _,_,_,_,.nil,s=>s
 | _,_,_,_,.cons r t,s=> .cons r (Vals.append t s)
theorem Vals.take:∀{xs:List V} {us:List Value} (n:Nat),Vals xs us->Vals (xs.take n) (us.take n)
 | _,_,0,_=> .nil
 | _,_,_+1,.nil=> .nil
 | _,_,n+1,.cons r t=> .cons r (Vals.take n t)
theorem Vals.drop:∀{xs:List V} {us:List Value} (n:Nat),Vals xs us->Vals (xs.drop n) (us.drop n)
 | _,_,0,r=>r
 | _,_,_+1,.nil=> .nil
 | _,_,n+1,.cons _ t=>Vals.drop n t
def D_:Option V->Option Value->Prop
 | some v,some u=>RelV v u
 | none,none=>True
 | _,_=>False
def KV{κ:Type}:List (κ×V)->List (κ×Value)->Prop:=Paired λ(p:κ×V) (q:κ×Value)=>p.1=q.1/\RelV p.2 q.2
def kV:Key->V
 | .inl i=> .int i
 | .inr x=> .str x
inductive HO where
 | lst (xs:List V)
 | tup (xs:List V)
 | dK (kvs:List (Key×V)) | dT (kvs:List (List Key×V))
 | set (S:Int->Bool) (n:Nat)
 | ins (C dx:Addr) (fs:List (Str×V))
 | own (x:Addr)
 | xd (fs:List (Str×V))
 | met (f x:Addr)
 | zR (lo hi:Int)
 | gW (o:Obj) (u:HO)
 | zu (ps:Array Value)
 | ext (φ:Heap->Prop)
abbrev Hp:=Addr->Option HO
def upd(H:Hp)(a:Addr)(o:HO):Hp:=λb=>if b=a then some o else H b
theorem bB:upd H a o a=some o:=by unfold upd;rw[if_pos rfl]
theorem aO(h:b≠a):upd H a o b=H b:=by unfold upd;rw[if_neg h]
theorem abe:upd (upd H a o) a u=upd H a u:=by
 funext b;unfold upd;split<;>rfl
theorem ai1{H:Hp}{a b:Addr}{o u:HO}(h:H a=some o)(h':H b=some u)(d:o≠u):a≠b:=by
 intro e;subst e;rw[h]at h';exact d (xI h')
theorem bR{H:Hp}{a b:Addr}{o:HO}(h:H a=some o)(h':H b=none):a≠b:=by
 intro e;subst e;rw[h]at h';cases h'
section
variable(P:Program)(w:World)
def fu(H:Hp)(h:Heap)(a:Addr):HO->Prop
 | .lst xs=>xs.length<=sizeLine/\∃(its:List Value) (n:Nat),Vals xs its/\h.get? a=some {cls:= .type "list",data:= .seq its.toArray n}
 | .tup xs=>xs.length<=sizeLine/\∃its:List Value,Vals xs its/\IsTup h a its.toArray
 | .dK kvs=>kvs.length<=sizeLine/\(a==sysModules)=false/\∃vs,KV kvs vs/\h.DictOf (jl P w) a vs
 | .dT kvs=>kvs.length<=sizeLine/\(a==sysModules)=false/\∃xs:List (List Key×Addr×Value),
   Paired (λ(p:List Key×V) (q:List Key×Addr×Value)=>p.1=q.1/\H q.2.1=some (.tup (p.1.map kV))/\RelV p.2 q.2.2) kvs xs/\
   ∃o es ep,h.get? a=some o/\o.ExactDict/\o.data= .dict es ep/\es.toList=xs.map (entryOfKey (tupleKind (jl P w)))/\(xs.map (·.1)).Nodup
 | .set S n=>h.SetOf (intKind P w) a S n
 | .ins C dx fs=>H dx=some (.own a)/\fs.length<=1000/\dx≠a/\h.get? a=some (PySem.W.instObj C dx)/\
   ∃mA,h.Ns1 dx mA/\(∀f,D_ (fs.lookup f) (mA f))/\PySem.Within mA (fs.map (·.1))
 | .own _=>∃o,h.get? a=some o
 | .xd fs=>∃mA,h.Ns1 a mA/\∀f,D_ (fs.lookup f) (mA f)
 | .zR lo hi=>∃t u v,h.get? a=some {cls:= .type "range",data:= .fields #[.int lo t,.int hi u,.int 1 v]}
 | .gW o u=>h.get? a=some o/\fu H h a u
 | .zu ps=>h.get? a=some {cls:= .none,data:= .fields ps}
 | .met f x=>h.get? a=some (PySem.W.methodObj (.ref f) (.ref x))
 | .ext φ=>φ h/\(∃o,h.get? a=some o)/\∀h1 h2:Heap,φ h1->(∀o,h1.get? a=some o->h2.get? a=some o)->φ h2
def yM(H:Hp)(h:Heap):Prop:=∀a o,H a=some o->fu P w H h a o
end
section
variable{P:Program}{w:World}{H H':Hp}{h h':Heap}{a:Addr}{o:HO}
theorem fu.lt(x:fu P w H h a o):a<h.objs.size:=by
 cases o with
 | lst xs=>obtain⟨_,_,_,_,e⟩:=x;exact zS e
 | tup xs=>obtain⟨_,_,_,p⟩:=x;exact p.lt
 | dK kvs=>obtain⟨_,_,_,_,o,_,_,e,_⟩:=x;exact zS e
 | dT kvs=>obtain⟨_,_,_,_,o,_,_,e,_⟩:=x;exact zS e
 | set S n=>obtain⟨o,_,_,_,e,_⟩:=x;exact zS e
 | ins C dx fs=>obtain⟨_,_,_,e,_⟩:=x;exact zS e
 | own y=>obtain⟨_,e⟩:=x;exact zS e
 | xd fs=>obtain⟨_,⟨_,_,_,e,_⟩,_⟩:=x;exact zS e
 | zR lo hi=>obtain⟨_,_,_,e⟩:=x;exact zS e
 | gW ob u=>obtain⟨e,_⟩:=x;exact zS e
 | zu ps=>exact zS (show h.get? a=some _ from x)
 | met f y=>exact zS (show h.get? a=some _ from x)
 | ext φ=>obtain⟨_,⟨_,e⟩,_⟩:=x;exact zS e
theorem Paired.afb{α β:Type}{F G:α->β->Prop}:∀{l₁:List α} {l₂:List β},Paired F l₁ l₂->(∀a b,F a b->G a b)->Paired G l₁ l₂
 | _,_,.nil,_=> .nil
 | _,_,.cons r t,f=> .cons (f _ _ r) (Paired.afb t f)
theorem fu.stay(x:fu P w H h a o)(k:∀b u,(b=a\/H b=some (.own a))->h.get? b=some u->h'.get? b=some u)
  (ho:∀b,H b=some (.own a)->H' b=some (.own a)) (ht:∀b xs,H b=some (.tup xs)->H' b=some (.tup xs)):fu P w H' h' a o:=by
 induction o with
 | lst xs=>obtain⟨z,its,n,r,e⟩:=x;exact⟨z,its,n,r,k _ _ (.inl rfl) e⟩
 | tup xs=>obtain⟨z,its,r,ob,e,c⟩:=x;exact⟨z,its,r,ob,k _ _ (.inl rfl) e,c⟩
 | dK kvs=>obtain⟨z,y,vs,r,ob,es,ep,e,c⟩:=x;exact⟨z,y,vs,r,ob,es,ep,k _ _ (.inl rfl) e,c⟩
 | dT kvs=>
  obtain⟨z,y,xs,r,ob,es,ep,e,c⟩:=x
  exact⟨z,y,xs,Paired.afb r λp q z=>⟨z.1,ht _ _ z.2.1,z.2.2⟩,ob,es,ep,k _ _ (.inl rfl) e,c⟩
 | set S n=>obtain⟨ob,es,ep,t,e,c⟩:=x;exact⟨ob,es,ep,t,k _ _ (.inl rfl) e,c⟩
 | ins C dx fs=>
  obtain⟨d,z,ne,e,mA,⟨od,es,ep,e2,c⟩,r⟩:=x
  exact⟨ho _ d,z,ne,k _ _ (.inl rfl) e,mA,⟨od,es,ep,k _ _ (.inr d) e2,c⟩,r⟩
 | own y=>obtain⟨ob,e⟩:=x;exact⟨ob,k _ _ (.inl rfl) e⟩
 | xd fs=>obtain⟨mA,⟨od,es,ep,e,c⟩,r⟩:=x;exact⟨mA,⟨od,es,ep,k _ _ (.inl rfl) e,c⟩,r⟩
 | zR lo hi=>obtain⟨t,u,v,e⟩:=x;exact⟨t,u,v,k _ _ (.inl rfl) e⟩
 | gW ob u ih=>obtain⟨e,q⟩:=x;exact⟨k _ _ (.inl rfl) e,ih q⟩
 | zu ps=>
  have e:h.get? a=some {cls:= .none,data:= .fields ps}:=x
  show h'.get? a=some {cls:= .none,data:= .fields ps}
  exact k a _ (.inl rfl) e
 | met f y=>
  have e:h.get? a=some (PySem.W.methodObj (.ref f) (.ref y)):=x
  show h'.get? a=some (PySem.W.methodObj (.ref f) (.ref y))
  exact k a _ (.inl rfl) e
 | ext φ=>obtain⟨p,⟨o,e⟩,st⟩:=x;exact⟨st _ _ p λo q=>k _ _ (.inl rfl) q,⟨o,k _ _ (.inl rfl) e⟩,st⟩
theorem yM.lt(x:yM P w H h)(e:H a=some o):a<h.objs.size:=(x a o e).lt
theorem yM.fresh(x:yM P w H h)(e:h.objs.size<=a):H a=none:=by
 cases q:H a with
 | none=>rfl
 | some u=>exact absurd (yA (x.lt q) e) (wP _)
theorem yM.kept(x:yM P w H h)(k:∀b u,h.get? b=some u->h'.get? b=some u):yM P w H h':=λa o e=>
 (x a o e).stay (λb u _ q=>k b u q) (λ_ q=>q) λ_ _ q=>q
theorem yM.laid(x:yM P w H h)(k:∀b u,h.get? b=some u->h'.get? b=some u)(hp:h.objs.size<=a)(new:fu P w (upd H a o) h' a o):yM P w (upd H a o) h':=λb u e=>by
 have hn:=x.fresh hp
 by_cases hb:b=a
 ·subst hb;rw[bB]at e;cases e;exact new
 ·rw[aO hb]at e
  exact(x b u e).stay (λc v _ q=>k c v q) (λc q=>by rw[aO (bR q hn)];exact q) λc xs q=>by rw[aO (bR q hn)];exact q
end
def Rd(H:Hp)(a:Addr)(u:HO):Prop:=H a=some u\/∃o,H a=some (.gW o u)
theorem Rd.ok(r:Rd H a u)(x:yM P w H h):fu P w H h a u:=by
 rcases r with r | ⟨o,r⟩
 ·exact x a u r
 ·obtain⟨_,q⟩:=x a _ r
  exact q
def Mut:Option HO->Prop
 | some (.lst _)=>True
 | some (.dK _)=>True
 | some (.dT _)=>True
 | some (.set _ _)=>True
 | some (.ins _ _ _)=>True
 | some (.ext _)=>True
 | _=>False
section
variable{P:Program}{w:World}{H:Hp}{h h':Heap}{x e:Addr}{o':HO}
theorem yM.write(ok:yM P w H h)(mu:Mut (H x))(he:e=x\/H e=some (.own x))(k:∀b u,b≠e->h.get? b=some u->h'.get? b=some u)(heo:∃u,h'.get? e=some u)
  (new:fu P w (upd H x o') h' x o'):yM P w (upd H x o') h':=λb u q=>by
 have aiY:∀c y,H c=some (.own y)->c≠x:=λc y r z=>by subst z;rw[r]at mu;exact mu
 have avp:∀c xs,H c=some (.tup xs)->c≠x:=λc xs r z=>by subst z;rw[r]at mu;exact mu
 by_cases hb:b=x
 ·subst hb;rw[bB]at q;cases q;exact new
 ·rw[aO hb]at q
  by_cases hbe:b=e
  ·have q':H b=some (.own x):=by
    rcases he with z | z
    ·exact absurd (hbe.trans z) hb
    ·rw[hbe];exact z
   rw[q]at q';cases q'
   obtain⟨v,hv⟩:=heo
   exact⟨v,by rw[hbe];exact hv⟩
  ·refine(ok b u q).stay (λc v hc r=>k c v ?_ r) (λc r=>by rw[aO (aiY c b r)];exact r) λc xs r=>by rw[aO (avp c xs r)];exact r
   rcases hc with rfl | hc
   ·exact hbe
   ·rintro rfl
    rcases he with z | z
    ·exact aiY c b hc z
    ·rw[hc]at z;cases z;exact hb rfl
end
structure Un(fs ex:List Addr)(H H':Hp)(h h':Heap):Prop where
 keep:∀b o,h.get? b=some o->H b=none->b∉fs->b∉ex->h'.get? b=some o
 slot:∀b o,h.get? b=some o->H b=none->b∈fs->b∉ex->∃sl,h'.get? b=some {o with slots:=sl}
 free:∀b o,h.get? b=some o->H b=none->b∉ex->H' b=none
 there:∀b o,h.get? b=some o->b∉ex->∃o',h'.get? b=some o'
 tups:∀b xs,H b=some (.tup xs)->H' b=some (.tup xs)
 zb:∀b o u,H b=some (.gW o u)->H' b=some (.gW o u)
 BK:∀b ps,H b=some (.zu ps)->∃more,H' b=some (.zu (ps++more))
section
variable{fs fs' ex ex':List Addr}{H H1 H2:Hp}{h h1 h2 h':Heap}{a x e:Addr}{o:HO}
theorem Un.any(u:Un fs ex H H1 h h1)(q:h.get? b=some ob)(n:H b=none)(hx:b∉ex):∃sl,h1.get? b=some {ob with slots:=sl}:=by
 by_cases hb:b∈fs
 ·exact u.slot b ob q n hb hx
 ·exact⟨ob.slots,u.keep b ob q n hb hx⟩
theorem Un.kept(k:∀b u,h.get? b=some u->h'.get? b=some u):Un fs ex H H h h':=
 ⟨λb ob q _ _ _=>k b ob q,λb ob q _ _ _=>⟨ob.slots,k b ob q⟩,λ_ _ _ n _=>n,λb ob q _=>⟨ob,k b ob q⟩,λ_ _ q=>q,λ_ _ _ q=>q,λ_ ps q=>⟨#[],by rw[q];simp⟩⟩
theorem Un.refl:Un fs ex H H h h:=Un.kept λ_ _ q=>q
theorem Un.laid(k:∀b u,h.get? b=some u->h'.get? b=some u)(hp:h.objs.size<=a)(hn:H a=none):Un fs ex H (upd H a o) h h' where
 keep:=λb u q _ _ _=>k b u q
 slot:=λb u q _ _ _=>⟨u.slots,k b u q⟩
 free:=λb u q n _=>by rw[aO (xD (yA (zS q) hp))];exact n
 there:=λb u q _=>⟨u,k b u q⟩
 tups:=λb xs q=>by rw[aO (bR q hn)];exact q
 zb:=λb u xs q=>by rw[aO (bR q hn)];exact q
 BK:=λb ps q=>⟨#[],by rw[aO (bR q hn),q];simp⟩
theorem Un.write(mu:Mut (H x))(he:e=x\/H e=some (.own x))(k:∀b u,b≠e->h.get? b=some u->h'.get? b=some u)(heo:∃u,h'.get? e=some u):Un fs ex H (upd H x o) h h':=by
 have hx:∀b,H b=none->b≠x:=λb n z=>by subst z;rw[n]at mu;exact mu
 have hb:∀b,H b=none->b≠e:=λb n z=>by
  subst z
  rcases he with r | r
  ·exact hx b n r
  ·rw[n]at r;cases r
 have hm:∀b u,H b=some u->¬Mut (some u)->b≠x:=λb u q nm z=>by subst z;rw[q]at mu;exact nm mu
 refine⟨λb u q n _ _=>k b u (hb b n) q,λb u q n _ _=>⟨u.slots,k b u (hb b n) q⟩,λb u q n _=>by rw[aO (hx b n)];exact n,λb u q _=> ?_,
  λb xs q=>by rw[aO (hm b _ q λz=>z)];exact q,λb u xs q=>by rw[aO (hm b _ q λz=>z)];exact q,λb ps q=>⟨#[],by rw[aO (hm b _ q λz=>z),q];simp⟩⟩
 by_cases hbe:b=e
 ·subst hbe;exact heo
 ·exact⟨u,k b u hbe q⟩
end
def trk(h:Heap)(H:Hp):List Addr:=(List.range h.objs.size).filter λa=>(H a).isSome
def MF(h:Heap)(H:Hp):Heap:=PySem.W.hideAll h (trk h H)
theorem Ye(h:Heap)(H:Hp):(MF h H).objs.size=h.objs.size:=PySem.W.hideAll_size _ _
theorem aaH(e:h.get? b=some o)(n:H b=none):(MF h H).get? b=some o:=
 PySem.W.hideAll_get _ e λhm=>by
  have q:(H b).isSome=true:=(List.mem_filter.mp hm).2
  rw[n]at q;simp at q
theorem ab6(e:(MF h H).get? b=some o):h.get? b=some o/\H b=none:=by
 have e':h.get? b=some o:=PySem.W.of_hideAll (trk h H) e
 refine⟨e',?_⟩
 cases q:H b with
 | none=>rfl
 | some x=>
  have hm:b∈trk h H:=List.mem_filter.mpr ⟨List.mem_range.mpr (zS e'),by simp[q]⟩
  have z:(MF h H).get? b=none:=PySem.W.hideAll_none (trk h H) hm
  rw[z]at e;cases e
def ac0(g h:Heap)(L:Addr):List (Addr×Obj):=(List.range h.objs.size).filterMap λa=>if a=L\/(g.get? a).isSome=true then none else(h.get? a).map λo=>(a,o)
def rest(g h:Heap)(L d:Addr):List (Addr×Obj):=(ac0 g h L).filter λp=>decide (p.1≠d)
structure Mod(K:Frag)(mg:Str->Option Value)(base:Heap):Prop where
 kin:K.In base
 glob:base.Ns mainGlobals mg
 blt:∃mb,base.Ns builtinsNs mb/\∀x:Str,x≠ "__name__" -> mb x=bootBuiltins x
 nolimit:base.NoLimit
structure Cx where
 prog:Program
 w:World
 K:Frag
 mg:Str->Option Value
 base:Heap
 A:Around
 N:List Str
 s₀:Shared
 H₀:Hp
 env:Env
 outer:List Env
 stack:List Env
 ex:List Addr
 fn:Str->Bool
 calm:Bool
 pn:List (Addr×Obj)
 xe:Value->Shared->Prop
def frs(l:List Env):List Addr:=l.filterMap (·.frame)
abbrev Cx.fs(X:Cx):List Addr:=frs X.outer
def Vis(sc:Scope)(x:Str):Prop:=sc.names.lookup x=some .local\/sc.names.lookup x=some .cell\/sc.names.lookup x=some .free
def Loc(sc:Scope)(x:Str):Prop:=sc.names.lookup x=some .local\/sc.names.lookup x=some .cell
def Look(env:Env)(h:Heap)(m:Str->Option Value)(x:Str)(u:Value):Prop:=
 (env.kindOf x=some .local/\m x=some u)\/((env.kindOf x=some .cell\/env.kindOf x=some .free)/\∃c,env.cells.lookup x=some c/\h.IsCell c (some u))
structure Cx.Ok(X:Cx):Prop where
 mod:Mod X.K X.mg X.base
 kind:X.env.scope.kind= .function
 glob:X.env.globals=mainGlobals
 blt:X.env.builtins=builtinsNs
 above:X.s₀.heap.objs.size<=X.env.locals
 inj:∀x y c,X.env.cells.lookup x=some c->X.env.cells.lookup y=some c->x=y
 has:∀x,(X.env.kindOf x=some .cell\/X.env.kindOf x=some .free)->∃c,X.env.cells.lookup x=some c
 cab:∀x c,X.fn x=true->X.env.cells.lookup x=some c->X.s₀.heap.objs.size<=c
 hd:X.calm=true->X.A.handled=none
 frames:X.A.frames=some X.stack
 stk:X.stack=X.outer\/(X.stack=X.env::X.outer/\X.env.frame=some X.env.locals)
 exf:∀b∈X.ex,b≠X.env.locals/\∀x c,X.env.cells.lookup x=some c->c≠b
 bs:∀b o,X.base.get? b=some o->X.s₀.heap.get? b=some o/\X.H₀ b=none
 YG:X.base.objs.size<=X.s₀.heap.objs.size
 XN:∀b o,X.base.get? b=some o->b∉X.ex
 Yi:∀b∈X.ex,b∉X.fs
 G7:X.s₀.heap.FunFrames X.base X.outer
 frf:∀b∈X.fs,X.H₀ b=none
def W7(X:Cx)(H:Hp)(x:Str)(c:Addr):Prop:=H c=none\/X.fn x=false/\∃o u,H c=some (.gW o u)
theorem W7.imp(h:W7 X H x c)(hf:X.fn x=false->X'.fn x=false)(h0:H c=none->H' c=none)(h1:∀o u,H c=some (.gW o u)->H' c=some (.gW o u)):W7 X' H' x c:=
 h.elim (λz=> .inl (h0 z)) λ⟨f,o,u,z⟩=> .inr ⟨hf f,o,u,h1 o u z⟩
structure Inv(X:Cx)(pins:List (Addr×Obj))(σ:List (Option V))(H:Hp)(s:Shared):Prop where
 ok:X.Ok
 os:s.os=X.s₀.os
 bare:AllBare s.gens
 base:Un X.fs X.ex X.H₀ H X.s₀.heap s.heap
 loc:∃m,s.heap.Ns X.env.locals m/\∀(i:Nat) (x:Str) (v:V),X.N[i]? = some x->σ[i]? = some (some v)->Vis X.env.scope x->∃u,RelV v u/\Look X.env s.heap m x u
 cell:∀x c,X.env.cells.lookup x=some c->∃v,s.heap.IsCell c v
 free:H X.env.locals=none
 uQ:∀x c,X.env.cells.lookup x=some c->W7 X H x c
 pin:∀p∈X.pn++pins,s.heap.get? p.1=some p.2/\H p.1=none/\p.1≠X.env.locals/\p.1∉X.fs/\∀v,p.2.data≠ .cell v
 hok:yM X.prog X.w H s.heap
 len:σ.length=X.N.length
section
variable{X:Cx}{pins:List (Addr×Obj)}{σ:List (Option V)}{H H':Hp}{s:Shared}{h':Heap}
theorem Cx.Ok.avr(ok:X.Ok)(e:X.base.get? b=some o):b∉X.fs:=λhb=>by
 have:=(ok.G7.mem hb).1
 rw[e]at this;cases this
theorem Inv.bs(I:Inv X pins σ H s):∀b o,X.base.get? b=some o->s.heap.get? b=some o/\H b=none:=λb o e=>
 ⟨I.base.keep b o (I.ok.bs b o e).1 (I.ok.bs b o e).2 (I.ok.avr e) (I.ok.XN b o e),I.base.free b o (I.ok.bs b o e).1 (I.ok.bs b o e).2 (I.ok.XN b o e)⟩
theorem Inv.bk(I:Inv X pins σ H s):∀b o,X.base.get? b=some o->s.heap.get? b=some o:=λb o e=>(I.bs b o e).1
theorem Inv.mod(I:Inv X pins σ H s):Mod X.K X.mg X.base:=I.ok.mod
theorem Inv.Fi(I:Inv X pins σ H s):X.K.In s.heap:=I.ok.mod.kin.keeps I.bk
theorem Inv.fr(I:Inv X pins σ H s):∃m,Fr X.base X.env.locals s.heap m:=
 let⟨m,hn,_⟩:=I.loc
 ⟨m,hn,I.bk,yY I.ok.YG I.ok.above⟩
theorem Inv.lt(I:Inv X pins σ H s):X.env.locals<s.heap.objs.size:=let⟨_,hn,_⟩:=I.loc;hn.lt
theorem Inv.sz(I:Inv X pins σ H s):X.s₀.heap.objs.size<=s.heap.objs.size:=yY I.ok.above (Nat.le_of_lt I.lt)
theorem Inv.avq(I:Inv X pins σ H s)(h:s.heap.objs.size<=a):a∉X.fs:=λhb=>by
 obtain⟨_,o,ho,_⟩:=I.ok.G7.mem hb
 exact absurd (yA (zS ho) (yY I.sz h)) (wP _)
theorem Inv.cne(I:Inv X pins σ H s):∀x c,X.env.cells.lookup x=some c->c≠X.env.locals:=λx c e z=>by
 obtain⟨v,o,ho,hd⟩:=I.cell x c e
 obtain⟨m,⟨o',es,ep,ho',hd',_⟩,_⟩:=I.loc
 rw[z,ho']at ho;cases ho;rw[hd']at hd;cases hd
theorem Inv.G7(I:Inv X pins σ H s):s.heap.FunFrames X.base X.outer:=by
 have all:∀(l:List Env),(∀b∈frs l,b∈X.fs)->X.s₀.heap.FunFrames X.base l->s.heap.FunFrames X.base l:=by
  intro l
  induction l with
  | nil=>intro _ _;trivial
  | cons env r ih=>
   intro hs hl
   obtain⟨hk,⟨L,o,hf,hn,ho,hd⟩,hr⟩:=hl
   have hL:L∈X.fs:=hs L (by unfold frs;rw[List.filterMap_cons,hf];exact xB)
   obtain⟨sl,e⟩:=I.base.slot L o ho (I.ok.frf L hL) hL λz=>I.ok.Yi L z hL
   exact⟨hk,⟨L,_,hf,hn,e,hd⟩,ih (λb hb=>hs b (by unfold frs;rw[List.filterMap_cons,hf];exact yT _ hb)) hr⟩
 exact all X.outer (λ_ hb=>hb) I.ok.G7
theorem Inv.stack(I:Inv X pins σ H s):s.heap.FunFrames X.base X.stack:=by
 rcases I.ok.stk with e | ⟨e,hf⟩
 ·rw[e];exact I.G7
 ·rw[e]
  obtain⟨m,hn,_⟩:=I.loc
  refine .cons (by rw[I.ok.kind];decide) hf hn ?_ I.G7
  exact Heap.get?_none_of_le (yY I.ok.YG I.ok.above)
theorem Inv.KN(I:Inv X pins σ H s):∀b∈frs X.stack,b∈X.env.locals::X.fs:=λb hb=>by
 rcases I.ok.stk with e | ⟨e,hf⟩
 ·rw[e]at hb;exact yT _ hb
 ·rw[e]at hb
  unfold frs at hb
  rw[List.filterMap_cons,hf]at hb
  exact hb
theorem Inv.F_(I:Inv X pins σ H s):∀b∈frs X.stack,H b=none:=λb hb=>by
 rcases List.mem_cons.mp (I.KN b hb)with e | hb
 ·rw[e];exact I.free
 ·obtain⟨_,o,ho,_⟩:=I.ok.G7.mem hb
  exact I.base.free b o ho (I.ok.frf b hb) λz=>I.ok.Yi b z hb
theorem Inv.step{g':Array GenState}{t':Nat}{ch:List Addr}(I:Inv X pins σ H s)
  (hch:∀b∈ch,(b∈X.ex\/X.s₀.heap.objs.size<=b)/\b≠X.env.locals/\(∀x c,X.env.cells.lookup x=some c->c≠b)/\∀p∈X.pn++pins,p.1≠b)
  (keep:∀b o,b≠X.env.locals->b∉X.fs->b∉ch->s.heap.get? b=some o->H b=none->h'.get? b=some o)
  (slot:∀b o,b≠X.env.locals->b∈X.fs->b∉ch->s.heap.get? b=some o->H b=none->∃sl,h'.get? b=some {o with slots:=sl}) (free:∀b o,b∉ch->s.heap.get? b=some o->H b=none->H' b=none)
  (there:∀b o,b∉ch->s.heap.get? b=some o->∃o',h'.get? b=some o')
  (tups:∀b xs,H b=some (.tup xs)->H' b=some (.tup xs)) (zb:∀b o u,H b=some (.gW o u)->H' b=some (.gW o u)) (BK:∀b ps,H b=some (.zu ps)->∃more,H' b=some (.zu (ps++more)))
  (ns:∀m,s.heap.Ns X.env.locals m->h'.Ns X.env.locals m) (hok:yM X.prog X.w H' h') (hg:AllBare g'):
  Inv X pins σ H' {s with heap:=h',gens:=g',drawn:=d',toks:=t'}:=by
 have neL:∀b o,X.s₀.heap.get? b=some o->b≠X.env.locals:=λb o e=>xD (yA (zS e) I.ok.above)
 have neC:∀b o,X.s₀.heap.get? b=some o->b∉X.ex->b∉ch:=λb o e hx hb=>by
  rcases(hch b hb).1 with z | z
  ·exact hx z
  ·exact absurd (yA (zS e) z) (wP _)
 have cellK:∀x c,X.env.cells.lookup x=some c->∀v,s.heap.IsCell c v->h'.IsCell c v:=λx c e v ⟨o,ho,hd⟩=>by
  have nch:c∉ch:=λz=>(hch c z).2.2.1 x c e rfl
  rcases I.uQ x c e with fr | ⟨_,o1,u1,fr⟩
  ·by_cases hc:c∈X.fs
   ·obtain⟨sl,q⟩:=slot c o (I.cne x c e) hc nch ho fr
    exact⟨_,q,hd⟩
   ·exact⟨o,keep c o (I.cne x c e) hc nch ho fr,hd⟩
  ·have z1:=(I.hok c _ fr).1
   rw[ho]at z1
   cases z1
   exact⟨o,(hok c _ (zb c o u1 fr)).1,hd⟩
 refine⟨I.ok,I.os,hg,⟨λb o e n hb hx=> ?_,λb o e n hb hx=> ?_,λb o e n hx=> ?_,λb o e hx=> ?_,λb xs e=>tups b xs (I.base.tups b xs e),λb o xs e=>zb b o xs (I.base.zb b o xs e),λb ps e=> ?_⟩,?_,λx c e=> ?_,?_,λx c e=> ?_,λp hp=> ?_,hok,I.len⟩
 ·exact keep b o (neL b o e) hb (neC b o e hx) (I.base.keep b o e n hb hx) (I.base.free b o e n hx)
 ·obtain⟨sl,e1⟩:=I.base.slot b o e n hb hx
  obtain⟨sl',e2⟩:=slot b _ (neL b o e) hb (neC b o e hx) e1 (I.base.free b o e n hx)
  exact⟨sl',e2⟩
 ·obtain⟨o',e1⟩:=I.base.there b o e hx
  exact free b o' (neC b o e hx) e1 (I.base.free b o e n hx)
 ·obtain⟨o',e1⟩:=I.base.there b o e hx
  exact there b o' (neC b o e hx) e1
 ·obtain⟨m1,e1⟩:=I.base.BK b ps e
  obtain⟨m2,e2⟩:=BK b _ e1
  exact⟨m1++m2,by rw[e2,Array.append_assoc]⟩
 ·obtain⟨m,hn,hl⟩:=I.loc
  refine⟨m,ns m hn,λi x v e1 e2 e3=> ?_⟩
  obtain⟨u,r,l⟩:=hl i x v e1 e2 e3
  refine⟨u,r,?_⟩
  rcases l with l | ⟨k,c,e,z⟩
  ·exact .inl l
  ·exact .inr ⟨k,c,e,cellK x c e _ z⟩
 ·obtain⟨v,z⟩:=I.cell x c e
  exact⟨v,cellK x c e v z⟩
 ·obtain⟨m,⟨o,_,_,ho,_⟩,_⟩:=I.loc
  exact free _ o (λz=>(hch _ z).2.1 rfl) ho I.free
 ·obtain⟨v,o,ho,hd⟩:=I.cell x c e
  exact(I.uQ x c e).imp id (λfr=>free c o (λz=>(hch c z).2.2.1 x c e rfl) ho fr) (zb c)
 ·obtain⟨e,n,ne,nf,d⟩:=I.pin p hp
  have nch:p.1∉ch:=λz=>(hch p.1 z).2.2.2 p hp rfl
  exact⟨keep p.1 p.2 ne nf nch e n,free p.1 p.2 nch e n,ne,nf,d⟩
theorem Inv.un(I:Inv X pins σ H s)(u:Un X.fs [] H H' s.heap h')(hok:yM X.prog X.w H' h'):Inv X pins σ H' {s with heap:=h',toks:=t'}:=by
 obtain⟨m,⟨o,es,ep,ho,r⟩,_⟩:=id I.loc
 obtain⟨sl,hL⟩:=u.any ho I.free (by simp)
 exact I.step (g':=s.gens) (d':=s.drawn) (ch:=[]) (λ_ z=>nomatch z) (λb o _ hb _ e n=>u.keep b o e n hb (by simp)) (λb o _ hb _ e n=>u.slot b o e n hb (by simp)) (λb o _ e n=>u.free b o e n (by simp)) (λb o _ e=>u.there b o e (by simp)) u.tups u.zb u.BK (λm' hm=>by
  obtain⟨o',es',ep',ho',r'⟩:=hm
  rw[ho]at ho';cases ho'
  exact⟨_,es',ep',hL,r'⟩) hok I.bare
theorem Inv.call(I:Inv X pins σ H s)(u:Un (frs X.stack) ch H H' s.heap h')(hok:yM X.prog X.w H' h')(hg:AllBare g')
  (hch:∀b∈ch,(b∈X.ex\/X.s₀.heap.objs.size<=b)/\b≠X.env.locals/\(∀x c,X.env.cells.lookup x=some c->c≠b)/\∀p∈X.pn++pins,p.1≠b):
  Inv X pins σ H' {s with heap:=h',gens:=g',drawn:=d',toks:=t'}:=by
 obtain⟨m,⟨o,es,ep,ho,r⟩,_⟩:=id I.loc
 obtain⟨sl,hL⟩:=u.any ho I.free λz=>(hch _ z).2.1 rfl
 exact I.step (ch:=ch) hch (λb o hL hb hc e n=>u.keep b o e n (λz=>(List.mem_cons.mp (I.KN b z)).elim hL hb) hc) (λb o _ _ hc e n=>u.any e n hc) (λb o hc e n=>u.free b o e n hc) (λb o hc e=>u.there b o e hc) u.tups u.zb u.BK (λm' hm=>by
  obtain⟨o',es',ep',ho',r'⟩:=hm
  rw[ho]at ho';cases ho'
  exact⟨_,es',ep',hL,r'⟩) hok hg
theorem Inv.turned(I:Inv X pins σ H s)(k:∀b o,b≠it->s.heap.get? b=some o->h'.get? b=some o)(hn:H it=none)(hL:it≠X.env.locals)
  (h1:it∈X.ex\/X.s₀.heap.objs.size<=it) (h2:∀x c,X.env.cells.lookup x=some c->c≠it) (h3:∀p∈X.pn++pins,p.1≠it):Inv X pins σ H {s with heap:=h',toks:=t'}:=by
 have nit:∀b u,H b=some u->b≠it:=λb u e z=>by rw[z,hn]at e;cases e
 refine I.step (g':=s.gens) (d':=s.drawn) (ch:=[it]) (λb hb=> ?_) (λb o _ _ hc e _=>k b o (λz=>hc (by simp[z])) e) (λb o _ _ hc e _=>⟨o.slots,k b o (λz=>hc (by simp[z])) e⟩) (λ_ _ _ _ n=>n)
  (λb o hc e=>⟨o,k b o (λz=>hc (by simp[z])) e⟩) (λ_ _ e=>e) (λ_ _ _ e=>e) (λb ps e=>⟨#[],by rw[e];simp⟩) (λm hm=> ?_) (λb u e=> ?_) I.bare
 ·have e:b=it:=by simpa using hb
  subst e
  exact⟨h1,hL,h2,h3⟩
 ·obtain⟨o,es,ep,ho,r⟩:=hm
  exact⟨o,es,ep,k _ o (Ne.symm hL) ho,r⟩
 ·refine(I.hok b u e).stay (λc v hc q=>k c v ?_ q) (λ_ q=>q) λ_ _ q=>q
  rcases hc with z | z
  ·rw[z];exact nit b u e
  ·exact nit c _ z
theorem Inv.tok(I:Inv X pins σ H s)(t:Nat):Inv X pins σ H {s with toks:=t}:=I.un (h':=s.heap) (t':=t) Un.refl I.hok
theorem Inv.kept(I:Inv X pins σ H s)(k:∀b u,s.heap.get? b=some u->h'.get? b=some u):Inv X pins σ H {s with heap:=h',toks:=t'}:=I.un (Un.kept k) (I.hok.kept k)
theorem Inv.laid(I:Inv X pins σ H s)(k:∀b u,s.heap.get? b=some u->h'.get? b=some u)(hp:s.heap.objs.size<=a)(new:fu X.prog X.w (upd H a o) h' a o):
  Inv X pins σ (upd H a o) {s with heap:=h',toks:=t'}:=I.un (Un.laid k hp (I.hok.fresh hp)) (I.hok.laid k hp new)
theorem Inv.write(I:Inv X pins σ H s)(mu:Mut (H x))(he:e=x\/H e=some (.own x))(k:∀b u,b≠e->s.heap.get? b=some u->h'.get? b=some u)(heo:∃u,h'.get? e=some u)
  (new:fu X.prog X.w (upd H x o) h' x o):Inv X pins σ (upd H x o) {s with heap:=h',toks:=t'}:=I.un (Un.write mu he k heo) (I.hok.write mu he k heo new)
theorem Inv.weak(I:Inv X pins σ H s)(hl:σ'.length=σ.length)(w:∀(i:Nat) v,σ'[i]? = some (some v)->σ[i]? = some (some v)):Inv X pins σ' H s:=
 ⟨I.ok,I.os,I.bare,I.base,let⟨m,hn,hl'⟩:=I.loc;⟨m,hn,λi x v e1 e2 e3=>hl' i x v e1 (w i v e2) e3⟩,I.cell,I.free,I.uQ,I.pin,I.hok,hl.trans I.len⟩
theorem Inv.J8(I:Inv X pins σ H s)(h:∀p∈Z6,s.heap.get? p.1=some p.2/\H p.1=none/\p.1≠X.env.locals/\p.1∉X.fs/\∀v,p.2.data≠ .cell v):Inv X Z6 σ H s:=
 ⟨I.ok,I.os,I.bare,I.base,I.loc,I.cell,I.free,I.uQ,λp hp=>(List.mem_append.mp hp).elim (λz=>I.pin p (List.mem_append_left _ z)) (h p),I.hok,I.len⟩
theorem S7{N:List Str}(hN:N.Nodup){i j:Nat}{x:Str}(a:N[i]? = some x)(b:N[j]? = some x):i=j:=by
 obtain⟨h1,e1⟩:=List.getElem?_eq_some_iff.mp a
 obtain⟨h2,e2⟩:=List.getElem?_eq_some_iff.mp b
 exact(List.getElem_inj hN).mp (e1.trans e2.symm)
theorem Ot{E:Value->Shared->Prop}{Q:Unit->Shared->Prop}(I:Inv X pins σ H s)(hN:X.N.Nodup)(hi:X.N[i]? = some x)(hx:Loc X.env.scope x)(r:RelV v u)
  (h:∀s',Inv X pins (σ.set i (some v)) H s'->(∃a,Heap.SameBut a s.heap s'.heap/\(a=X.env.locals\/X.env.cells.lookup x=some a))->Q .unit s') (hf:X.fn x=true\/X.env.scope.names.lookup x=some .local:=by first | exact .inl rfl | exact .inr rfl | assumption):wpAny M A (storeName X.env x u) Q E s:=by
 obtain⟨m,hn,hl⟩:=id I.loc
 have hcls:(X.env.scope.kind== .class||(X.env.scope.kind== .module&&X.env.locals != X.env.globals))=false:=by rw[I.ok.kind];rfl
 have akP:i<σ.length:=by rw[I.len];exact(List.getElem?_eq_some_iff.mp hi).1
 have cne:=I.cne
 have tracked:∀{a:Addr} {h':Heap},(∃o,s.heap.get? a=some o/\H a=none)->Heap.SameBut a s.heap h'->yM X.prog X.w H h':=λ{a h'} ha hs b ob e=>by
  obtain⟨_,_,hfree⟩:=ha
  refine(I.hok b ob e).stay (λc w' hc q=>(hs.2 c ?_).trans q) (λ_ q=>q) λ_ _ q=>q
  rintro rfl
  rcases hc with rfl | hc
  ·rw[hfree]at e;cases e
  ·rw[hfree]at hc;cases hc
 rcases hx with hk | hk
 ·refine wpAny_storeName_local hk hn (λh' hn' hs=> ?_) hcls
  obtain⟨oL,_,_,hoL,_⟩:=id hn
  refine h _ ⟨I.ok,I.os,I.bare,⟨λb o e n hb hx=> ?_,λb o e n hb hx=> ?_,I.base.free,λb o e hx=> ?_,I.base.tups,I.base.zb,I.base.BK⟩,⟨_,hn',λj y v' e1 e2 e3=> ?_⟩,λy c e=> ?_,I.free,I.uQ,λp hp=> ?_,tracked ⟨oL,hoL,I.free⟩ hs,by simpa using I.len⟩ ⟨_,hs,.inl rfl⟩
  ·exact(hs.2 b (xD (yA (zS e) I.ok.above))).trans (I.base.keep b o e n hb hx)
  ·obtain⟨sl,e1⟩:=I.base.slot b o e n hb hx
   exact⟨sl,(hs.2 b (xD (yA (zS e) I.ok.above))).trans e1⟩
  ·obtain⟨o',e1⟩:=I.base.there b o e hx
   exact⟨o',(hs.2 b (xD (yA (zS e) I.ok.above))).trans e1⟩
  ·by_cases hj:j=i
   ·subst hj
    rw[hi]at e1;cases e1
    rw[zag akP]at e2
    cases e2
    exact⟨u,r,.inl ⟨hk,by simp⟩⟩
   ·rw[zaf (Ne.symm hj)]at e2
    obtain⟨u',r',q⟩:=hl j y v' e1 e2 e3
    refine⟨u',r',?_⟩
    rcases q with⟨k,e⟩ | ⟨k,c,e,z⟩
    ·refine .inl ⟨k,?_⟩
     have:y≠x:=λe=>hj (S7 hN e1 (e▸hi))
     simp[this,e]
    ·exact .inr ⟨k,c,e,z.sameBut hs (cne y c e)⟩
  ·obtain⟨w',z⟩:=I.cell y c e
   exact⟨w',z.sameBut hs (cne y c e)⟩
  ·obtain⟨e,n,ne,nf,d⟩:=I.pin p hp
   exact⟨(hs.2 p.1 ne).trans e,n,ne,nf,d⟩
 ·have hfn:X.fn x=true:=by
   rcases hf with z | z
   ·exact z
   ·rw[z]at hk;cases hk
  obtain⟨c,hc⟩:=I.ok.has x (.inl hk)
  obtain⟨w',z⟩:=I.cell x c hc
  refine wpAny_storeName_cell I.ok.kind hk hc z (λh' hc' hs=> ?_)
  obtain⟨oc,hoc,awA⟩:=id z
  refine h {s with heap:=h'} ⟨I.ok,I.os,I.bare,⟨λb o e n hb hx=> ?_,λb o e n hb hx=> ?_,I.base.free,λb o e hx=> ?_,I.base.tups,I.base.zb,I.base.BK⟩,⟨m,hn.sameBut hs (Ne.symm (cne x c hc)),λj y v' e1 e2 e3=> ?_⟩,λy c' e=> ?_,I.free,I.uQ,λp hp=> ?_,tracked ⟨oc,hoc,(I.uQ x c hc).elim id λz=>absurd hfn (by rw[z.1];decide)⟩ hs,by simpa using I.len⟩ ⟨c,hs,.inr hc⟩
  ·exact(hs.2 b (xD (yA (zS e) (I.ok.cab x c hfn hc)))).trans (I.base.keep b o e n hb hx)
  ·obtain⟨sl,e1⟩:=I.base.slot b o e n hb hx
   exact⟨sl,(hs.2 b (xD (yA (zS e) (I.ok.cab x c hfn hc)))).trans e1⟩
  ·obtain⟨o',e1⟩:=I.base.there b o e hx
   exact⟨o',(hs.2 b (xD (yA (zS e) (I.ok.cab x c hfn hc)))).trans e1⟩
  ·by_cases hj:j=i
   ·subst hj
    rw[hi]at e1;cases e1
    rw[zag akP]at e2
    cases e2
    exact⟨u,r,.inr ⟨.inl hk,c,hc,hc'⟩⟩
   ·rw[zaf (Ne.symm hj)]at e2
    obtain⟨u',r',q⟩:=hl j y v' e1 e2 e3
    refine⟨u',r',?_⟩
    rcases q with q | ⟨k,c',e,z'⟩
    ·exact .inl q
    ·refine .inr ⟨k,c',e,z'.sameBut hs ?_⟩
     rintro rfl
     exact hj (S7 hN e1 (I.ok.inj _ _ _ e hc▸hi))
  ·by_cases hcc:c'=c
   ·subst hcc;exact⟨_,hc'⟩
   ·obtain⟨w2,z2⟩:=I.cell y c' e
    exact⟨w2,z2.sameBut hs hcc⟩
  ·obtain⟨e,n,ne,nf,d⟩:=I.pin p hp
   refine⟨(hs.2 p.1 ?_).trans e,n,ne,nf,d⟩
   intro q
   rw[q,hoc]at e
   have q':oc=p.2:=xI e
   exact d w' (by rw[<-q'];exact awA)
theorem R6{E:Value->Shared->Prop}{Q:Unit->Shared->Prop}(I:Inv X pins σ H s)(hN:X.N.Nodup)(hi:X.N[i]? = some x)(hx:Loc X.env.scope x)(r:RelV v u)
  (h:∀s',Inv X pins (σ.set i (some v)) H s'->Q .unit s') (hf:X.fn x=true\/X.env.scope.names.lookup x=some .local:=by first | exact .inl rfl | exact .inr rfl | assumption):wpAny M A (storeName X.env x u) Q E s:=
 Ot I hN hi hx r (λs' I' _=>h s' I') hf
theorem Inv.call'(I:Inv X pins σ H s)(ho:s'.os=s.os)(u:Un (frs X.stack) ch H H' s.heap s'.heap)(hok:yM X.prog X.w H' s'.heap)(hg:AllBare s'.gens)
  (hch:∀b∈ch,(b∈X.ex\/X.s₀.heap.objs.size<=b)/\b≠X.env.locals/\(∀x c,X.env.cells.lookup x=some c->c≠b)/\∀p∈X.pn++pins,p.1≠b):Inv X pins σ H' s':=by
 obtain⟨h',g',d',t',o'⟩:=s'
 have e:o'=s.os:=ho
 subst e
 exact I.call (g':=g') (t':=t') (d':=d') u hok hg hch
end
abbrev XK:=Value->Option Addr->Hp->Prop
abbrev St:=List (Option V)
abbrev VK:=V->Hp->Prop
abbrev TE:=St->Hp->VK->Prop
abbrev TT:=St->Hp->(Bool->Hp->Prop)->Prop
abbrev TA:=St->Hp->(List V->Hp->Prop)->Prop
structure Ends where
 nx:St->Hp->Prop
 rt:VK
 bk:St->Hp->Prop:=λ_ _=>False
 ct:St->Hp->Prop:=λ_ _=>False
abbrev TS:=Ends->St->Hp->Prop
def EP(X:Cx)(pins:List (Addr×Obj))(σ:St)(Q:VK)(u:Value)(s':Shared):Prop:=∃v H',Inv X pins σ H' s'/\RelV v u/\Q v H'
def TP(X:Cx)(pins:List (Addr×Obj))(σ:St)(Q:Bool->Hp->Prop)(b:Bool)(s':Shared):Prop:=∃H',Inv X pins σ H' s'/\Q b H'
def AP(X:Cx)(pins:List (Addr×Obj))(σ:St)(Q:List V->Hp->Prop)(us:List Value)(s':Shared):Prop:=∃vs H',Inv X pins σ H' s'/\Vals vs us/\Q vs H'
def SP(X:Cx)(pins:List (Addr×Obj))(D:Ends)(f:Flow)(s':Shared):Prop:=
 match f with
 | .next=>∃σ' H',Inv X pins σ' H' s'/\D.nx σ' H'
 | .brk=>∃σ' H',Inv X pins σ' H' s'/\D.bk σ' H'
 | .cont=>∃σ' H',Inv X pins σ' H' s'/\D.ct σ' H'
 | .ret u=>∃v σ' H',Inv X pins σ' H' s'/\RelV v u/\D.rt v H'
def PE(X:Cx)(e:Expr)(t:TE):Prop:=
 ∀(pins:List (Addr×Obj)) (s:Shared) (σ:St) (H:Hp) (Q:VK),Inv X pins σ H s->t σ H Q->wpAny (model X.prog X.w) X.A (eval e X.env) (EP X pins σ Q) X.xe s
def PT(X:Cx)(e:Expr)(t:TT):Prop:=
 ∀(pins:List (Addr×Obj)) (s:Shared) (σ:St) (H:Hp) (Q:Bool->Hp->Prop),Inv X pins σ H s->t σ H Q->wpAny (model X.prog X.w) X.A (isTrue e X.env (eval e X.env)) (TP X pins σ Q) X.xe s
def PW(X:Cx)(e:Expr)(t:TT):Prop:=
 ∀(whole:Sem Value) (pins:List (Addr×Obj)) (s:Shared) (σ:St) (H:Hp) (Q:Bool->Hp->Prop),Inv X pins σ H s->t σ H Q->wpAny (model X.prog X.w) X.A (isTrue e X.env whole) (TP X pins σ Q) X.xe s
theorem PW.pt(h:PW X e t):PT X e t:=h _
def PA(X:Cx)(es:List Expr)(t:TA):Prop:=
 ∀(pos:Pos) (pins:List (Addr×Obj)) (s:Shared) (σ:St) (H:Hp) (Q:List V->Hp->Prop),Inv X pins σ H s->t σ H Q->wpAny (model X.prog X.w) X.A (spliced (backTo pos (starEach es X.env))) (AP X pins σ Q) X.xe s
def PS(X:Cx)(st:Stmt)(t:TS):Prop:=
 ∀(pins:List (Addr×Obj)) (s:Shared) (σ:St) (H:Hp) (D:Ends),Inv X pins σ H s->t D σ H->wpAny (model X.prog X.w) X.A (exec st X.env) (SP X pins D) X.xe s
def RM(X:Cx)(st:List Stmt)(t:TS):Prop:=
 ∀(pins:List (Addr×Obj)) (s:Shared) (σ:St) (H:Hp) (D:Ends),Inv X pins σ H s->t D σ H->wpAny (model X.prog X.w) X.A (execs st X.env) (SP X pins D) X.xe s
theorem m_{α:Type}{t:Sem α}{Q Q':α->Shared->Prop}{M:Model}{A:Around}{E:Value->Shared->Prop}{s:Shared}(h:wpAny M A t Q E s)(hQ:∀a s,Q a s->Q' a s):wpAny M A t Q' E s:=wT h hQ λ_ _ x=>x
section
variable{X:Cx}
def abh(i:Nat):TE:=λσ H Q=>∃v,σ[i]? = some (some v)/\Q v H
def tC(v:V):TE:=λ_ H Q=>Q v H
theorem Qu(hN:X.N[i]? = some x)(hv:Vis X.env.scope x)(hd:(x==("__debug__" : Str))=false:=by decide)(hcd:(x==("__classdict__" : Str))=false:=by decide):PE X (.Name x pos) (abh i):=by
 intro pins s σ H Q I h
 obtain⟨v,e,h⟩:=h
 obtain⟨m,hn,hl⟩:=I.loc
 obtain⟨u,r,l⟩:=hl i x v hN e hv
 have fin:EP X pins σ Q u s:=⟨v,H,I,r,h⟩
 rcases l with⟨hk,hm⟩ | ⟨hk,c,hc,hcell⟩
 ·exact wpAny_Name (wpAny_loadName_local I.ok.kind hk hn hm fin) hd
 ·rcases hk with hk | hk
  ·exact wpAny_Name (wpAny_loadName_cell I.ok.kind hk hc hcell fin) hd
  ·exact wpAny_Name (wpAny_loadName_free I.ok.kind hk hc hcell fin hcd) hd
theorem aeL{i j pos}:PE X (.Constant (.int i) j pos) (tC (.int i)):=λ_ _ _ H _ I h=>wpAny_Constant_int ⟨.int i,H,I.tok _,⟨_,rfl⟩,h⟩
theorem aiQ{b j pos}:PE X (.Constant (.bool b) j pos) (tC (.bl b)):=λ_ _ _ H _ I h=>Constant_bool ⟨.bl b,H,I,rfl,h⟩
theorem aeJ{j pos}:PE X (.Constant .none j pos) (tC .non):=λ_ _ _ H _ I h=>Constant_none ⟨.non,H,I,rfl,h⟩
theorem aeG{x j pos}:PE X (.Constant (.str x) j pos) (tC (.str x)):=λ_ _ _ H _ I h=>Calls.Constant_str ⟨.str x,H,I.tok _,⟨_,rfl⟩,h⟩
def Gl(X:Cx)(x:Str):Prop:=X.env.kindOf x=some .globalImplicit
theorem GK{E:Value->Shared->Prop}{Q:Value->Shared->Prop}(I:Inv X pins σ H s)(hg:Gl X x)(hm:X.mg x=some u)(h:Q u s)
  (hd:(x==("__debug__" : Str))=false:=by decide):wpAny (model X.prog X.w) X.A (eval (.Name x pos) X.env) Q E s:=
 Calls.Name_function_global I.ok.kind hg (Calls.loadGlobal_global (by rw[I.ok.glob];exact I.mod.glob.keeps I.bk) hm h) hd
theorem CN{E:Value->Shared->Prop}{Q:Value->Shared->Prop}(I:Inv X pins σ H s)(hg:Gl X x)(hm:X.mg x=none)(hv:bootBuiltins x=some u)(h:Q u s)
  (hn:x≠ "__name__" := by decide) (hd:(x==("__debug__" : Str))=false:=by decide):wpAny (model X.prog X.w) X.A (eval (.Name x pos) X.env) Q E s:=by
 obtain⟨mb,h1,h2⟩:=I.mod.blt
 exact Calls.Name_function_global I.ok.kind hg (Calls.loadGlobal_builtin (by rw[I.ok.glob];exact I.mod.glob.keeps I.bk) hm (by rw[I.ok.blt];exact h1.keeps I.bk) ((h2 x hn).trans hv) h) hd
theorem Wn(hg:Gl X x)(hm:X.mg x=some u)(r:RelV v u)(hd:(x==("__debug__" : Str))=false:=by decide):PE X (.Name x pos) (tC v):=
 λ_ _ _ H _ I h=>GK I hg hm ⟨v,H,I,r,h⟩ hd
theorem abZ(hg:Gl X x)(hm:X.mg x=none)(hv:bootBuiltins x=some u)(r:RelV v u)(hn:x≠ "__name__" := by decide)(hd:(x==("__debug__" : Str))=false:=by decide):PE X (.Name x pos) (tC v):=
 λ_ _ _ H _ I h=>CN I hg hm hv ⟨v,H,I,r,h⟩ hn hd
variable{a b:Expr}{ta tb:TE}{pos:Pos}
def tB(t:TE):TT:=λσ H Q=>t σ H λx H1=>∃c,x= .bl c/\Q c H1
theorem aex(h:PE X e t)(he:∀whole,isTrue e X.env whole=(do let v <-whole;standAt e.pos;holding [v] (truthy v)):=by intro _;rfl):PT X e (tB t):=by
 intro pins s σ H Q I hw
 refine isTrue_plain (m_ (h pins s σ H _ I hw) ?_) (he _)
 rintro v s1 ⟨x,H1,I1,r1,q1⟩
 obtain⟨d,rfl,q⟩:=q1
 cases r1
 exact wpAny_truthy_bool ⟨H1,I1,q⟩
variable{tA tB':TT}{rest:List Expr}
def ar6(t u:TT):TT:=λσ H Q=>t σ H λc H1=>if c=true then u σ H1 Q else Q false H1
def tOr(t u:TT):TT:=λσ H Q=>t σ H λc H1=>if c=true then Q true H1 else u σ H1 Q
def arW(t:TT):TT:=λσ H Q=>t σ H λc H1=>Q (!c) H1
theorem abH(ha:PT X a tA):PW X (.BoolOp .And [a] pos) tA:=by
 intro wh pins s σ H Q I h
 refine isTrue_and (m_ (ha pins s σ H Q I h) λc s1 e=> ?_)
 cases c with
 | true=>exact isTrue_and_nil e
 | false=>exact e
theorem aev(ha:PT X a tA):PW X (.BoolOp .Or [a] pos) tA:=by
 intro wh pins s σ H Q I h
 refine isTrue_or (m_ (ha pins s σ H Q I h) λc s1 e=> ?_)
 cases c with
 | false=>exact isTrue_or_nil e
 | true=>exact e
theorem aew(ha:PT X a tA)(hb:PW X (.BoolOp .And (b::rest) pos) tB'):PW X (.BoolOp .And (a::b::rest) pos) (ar6 tA tB'):=by
 intro wh pins s σ H Q I h
 refine isTrue_and (m_ (ha pins s σ H _ I h) ?_)
 rintro c s1 ⟨H1,I1,q1⟩
 cases c with
 | true=>exact hb wh pins s1 σ H1 Q I1 q1
 | false=>exact⟨H1,I1,q1⟩
theorem ahU(ha:PT X a tA)(hb:PW X (.BoolOp .Or (b::rest) pos) tB'):PW X (.BoolOp .Or (a::b::rest) pos) (tOr tA tB'):=by
 intro wh pins s σ H Q I h
 refine isTrue_or (m_ (ha pins s σ H _ I h) ?_)
 rintro c s1 ⟨H1,I1,q1⟩
 cases c with
 | true=>exact⟨H1,I1,q1⟩
 | false=>exact hb wh pins s1 σ H1 Q I1 q1
theorem aey(ha:PT X a tA):PT X (.UnaryOp .Not a pos) (arW tA):=by
 intro pins s σ H Q I h
 exact isTrue_not (ha pins s σ H (λc H1=>Q (!c) H1) I h)
def ahp(ta tb:TE):TE:=λσ H Q=>ta σ H λx H1=>∃c,x= .bl c/\if c=true then tb σ H1 Q else Q (.bl false) H1
def arV(ta tb:TE):TE:=λσ H Q=>ta σ H λx H1=>∃c,x= .bl c/\if c=true then Q (.bl true) H1 else tb σ H1 Q
def ahl(ta:TE):TE:=λσ H Q=>ta σ H λx H1=>∃c,x= .bl c/\Q (.bl (!c)) H1
theorem aeH{op}(h:PE X a t):PE X (.BoolOp op [a] pos) t:=λpins s σ H Q I hw=>BoolOp_one (h pins s σ H Q I hw)
theorem aeN(ha:PE X a ta)(hb:PE X (.BoolOp .And (b::rest) pos) tb):PE X (.BoolOp .And (a::b::rest) pos) (ahp ta tb):=by
 intro pins s σ H Q I h
 refine BoolOp_and (m_ (ha pins s σ H _ I h) ?_)
 rintro v s1 ⟨x,H1,I1,r1,q1⟩
 obtain⟨c,rfl,q1⟩:=q1
 cases r1
 refine wpAny_truthy_bool ?_
 cases c with
 | true=>exact hb pins s1 σ H1 Q I1 q1
 | false=>exact⟨.bl false,H1,I1,rfl,q1⟩
theorem aiN(ha:PE X a ta)(hb:PE X (.BoolOp .Or (b::rest) pos) tb):PE X (.BoolOp .Or (a::b::rest) pos) (arV ta tb):=by
 intro pins s σ H Q I h
 refine BoolOp_or (m_ (ha pins s σ H _ I h) ?_)
 rintro v s1 ⟨x,H1,I1,r1,q1⟩
 obtain⟨c,rfl,q1⟩:=q1
 cases r1
 refine wpAny_truthy_bool ?_
 cases c with
 | false=>exact hb pins s1 σ H1 Q I1 q1
 | true=>exact⟨.bl true,H1,I1,rfl,q1⟩
theorem aeI(ha:PE X a ta):PE X (.UnaryOp .Not a pos) (ahl ta):=by
 intro pins s σ H Q I h
 refine UnaryOp_ (m_ (ha pins s σ H _ I h) ?_)
 rintro v s1 ⟨x,H1,I1,r1,q1⟩
 obtain⟨c,rfl,q1⟩:=q1
 cases r1
 exact not_of (wpAny_truthy_bool ⟨.bl (!c),H1,I1,rfl,q1⟩)
end
def De(K:Frag)(H:Hp)(a:Addr)(xs:List V):Prop:=
 Rd H a (.lst xs)\/
  ∃(o:Obj) (its:Array Value) (n:Nat),K.lookup a=some o/\o.cls= .type "list" /\ o.dict=none/\o.data= .seq its n/\its.size<=sizeLine/\Vals xs its.toList
def zT(K:Frag)(H:Hp)(a:Addr)(xs:List V):Prop:=
 Rd H a (.tup xs)\/
  ∃(o:Obj) (its:Array Value) (n:Nat),K.lookup a=some o/\o.cls= .type "tuple" /\ o.data= .seq its n/\its.size<=sizeLine/\Vals xs its.toList
noncomputable def axo:Value->Option V
 | .none=>some .non
 | .bool b=>some (.bl b)
 | .int i _=>some (.int i)
 | .str x _=>some (.str x)
 | .bytes b _=>some (.byt b)
 | .float b _=>some (.flt b)
 | .ref a=>some (.ref a)
 | .type n=>some (.ty n)
 | _=>none
theorem RelV.abs(r:RelV x u):axo u=some x:=by
 cases x with
 | non=>cases r;rfl
 | bl _=>cases r;rfl
 | int _=>obtain⟨t,rfl⟩:=r;rfl
 | str _=>obtain⟨t,rfl⟩:=r;rfl
 | byt _=>obtain⟨t,rfl⟩:=r;rfl
 | flt _=>obtain⟨t,rfl⟩:=r;rfl
 | ref _=>cases r;rfl
 | ty _=>cases r;rfl
theorem RelV.inj(r:RelV x u)(q:RelV y u):x=y:=xI (r.abs.symm.trans q.abs)
theorem Vals.inj:∀{xs ys:List V} {us:List Value},Vals xs us->Vals ys us->xs=ys
 | _,_,_,.nil,.nil=>rfl
 | _,_,_,.cons r t,.cons r' t'=>by rw[r.inj r',Vals.inj t t']
section
variable{X:Cx}{pins:List (Addr×Obj)}{σ:St}{H:Hp}{s:Shared}{a:Addr}{xs ys:List V}
theorem De.of{K:Frag}(h:H a=some (.lst xs)):De K H a xs:= .inl (.inl h)
theorem zT.of{K:Frag}(h:H a=some (.tup xs)):zT K H a xs:= .inl (.inl h)
theorem Inv.list(I:Inv X pins σ H s)(h:De X.K H a xs):∃its:List Value,Vals xs its/\PlainL s.heap a its.toArray/\xs.length<=sizeLine:=by
 rcases h with h | ⟨o,its,n,hk,hc,hd,hs,hz,r⟩
 ·obtain⟨z,its,n,r,e⟩:=h.ok I.hok
  exact⟨its,r,⟨_,n,e,rfl,rfl,rfl⟩,z⟩
 ·refine⟨its.toList,r,⟨o,n,I.Fi a o hk,hc,hd,by simpa using hs⟩,?_⟩
  have e:=r.length
  simp only[Array.length_toList]at e
  omega
theorem Inv.tuple(I:Inv X pins σ H s)(h:zT X.K H a xs):∃its:List Value,Vals xs its/\IsTup s.heap a its.toArray/\xs.length<=sizeLine:=by
 rcases h with h | ⟨o,its,n,hk,hc,hs,hz,r⟩
 ·obtain⟨z,its,r,p⟩:=h.ok I.hok
  exact⟨its,r,p,z⟩
 ·refine⟨its.toList,r,⟨o,I.Fi a o hk,hc,n,by simpa using hs⟩,?_⟩
  have e:=r.length
  simp only[Array.length_toList]at e
  omega
theorem Inv.Td(I:Inv X pins σ H s)(h:De X.K H a xs)(h':De X.K H a ys):xs=ys:=by
 obtain⟨its,r,⟨o,n,e,_,_,d⟩,_⟩:=I.list h
 obtain⟨its',r',⟨o',n',e',_,_,d'⟩,_⟩:=I.list h'
 rw[e]at e';cases e'
 rw[d]at d'
 injection d' with d1 _
 have:its=its':=by simpa using congrArg Array.toList d1
 subst this
 exact r.inj r'
theorem Inv.Om(I:Inv X pins σ H s)(h:zT X.K H a xs)(h':zT X.K H a ys):xs=ys:=by
 obtain⟨its,r,⟨o,e,_,n,d⟩,_⟩:=I.tuple h
 obtain⟨its',r',⟨o',e',_,n',d'⟩,_⟩:=I.tuple h'
 rw[e]at e';cases e'
 rw[d]at d'
 injection d' with d1 _
 have:its=its':=by simpa using congrArg Array.toList d1
 subst this
 exact r.inj r'
end
abbrev Cx.wish(X:Cx)(E:Value->Shared->Prop):Cx:={X with xe:=E}
theorem Cx.Ok.wish{X:Cx}(ok:X.Ok)(E:Value->Shared->Prop):(X.wish E).Ok:=
 ⟨ok.mod,ok.kind,ok.glob,ok.blt,ok.above,ok.inj,ok.has,ok.cab,ok.hd,ok.frames,ok.stk,ok.exf,ok.bs,ok.YG,ok.XN,ok.Yi,ok.G7,ok.frf⟩
theorem Cx.Ok.tR{X:Cx}{E:Value->Shared->Prop}(ok:(X.wish E).Ok):X.Ok:=
 ⟨ok.mod,ok.kind,ok.glob,ok.blt,ok.above,ok.inj,ok.has,ok.cab,ok.hd,ok.frames,ok.stk,ok.exf,ok.bs,ok.YG,ok.XN,ok.Yi,ok.G7,ok.frf⟩
section
variable{X:Cx}{pins:List (Addr×Obj)}{σ:St}{H:Hp}{s:Shared}{E:Value->Shared->Prop}
theorem Inv.wish(I:Inv X pins σ H s)(E:Value->Shared->Prop):Inv (X.wish E) pins σ H s:=⟨I.ok.wish E,I.os,I.bare,I.base,I.loc,I.cell,I.free,I.uQ,I.pin,I.hok,I.len⟩
theorem Inv.tR(I:Inv (X.wish E) pins σ H s):Inv X pins σ H s:=⟨I.ok.tR,I.os,I.bare,I.base,I.loc,I.cell,I.free,I.uQ,I.pin,I.hok,I.len⟩
theorem SP.tR(h:SP (X.wish E) pins D f s'):SP X pins D f s':=by
 cases f with
 | next=>obtain⟨σ',H',I,q⟩:=h;exact⟨σ',H',I.tR,q⟩
 | brk=>obtain⟨σ',H',I,q⟩:=h;exact⟨σ',H',I.tR,q⟩
 | cont=>obtain⟨σ',H',I,q⟩:=h;exact⟨σ',H',I.tR,q⟩
 | ret u=>obtain⟨v,σ',H',I,r,q⟩:=h;exact⟨v,σ',H',I.tR,r,q⟩
end
section
variable{X:Cx}{st:Stmt}{rest:List Stmt}{t u:TS}{e:Expr}{te:TE}{pos:Pos}
def ada:TS:=λD σ H=>D.nx σ H
def ahi(t u:TS):TS:=λD σ H=>t {D with nx:=u D} σ H
theorem abP:RM X [] ada:=λ_ _ σ H _ I h=>wpAny_execs_nil ⟨σ,H,I,h⟩
theorem Z3(h1:PS X st t)(h2:RM X rest u):RM X (st::rest) (ahi t u):=by
 intro pins s σ H D I h
 refine wpAny_execs_cons (m_ (h1 pins s σ H {D with nx:=u D} I h) λf s1 q=> ?_)
 cases f with
 | next=>
  obtain⟨σ',H',I',q⟩:=q
  exact h2 pins s1 σ' H' D I' q
 | ret v=>exact q
 | brk=>exact q
 | cont=>exact q
theorem abO(h1:PS X st t):RM X [st] t:=by
 intro pins s σ H D I h
 refine wpAny_execs_cons (m_ (h1 pins s σ H D I h) λf s1 q=> ?_)
 cases f with
 | next=>exact wpAny_execs_nil q
 | ret v=>exact q
 | brk=>exact q
 | cont=>exact q
theorem Inv.quiet(I:Inv X pins σ H s):interactive X.env=false:=by simp[interactive,I.ok.kind]
def ahn(te:TE):TS:=λD σ H=>te σ H λ_ H1=>D.nx σ H1
theorem abR(he:PE X e te)(hs:swapsWith e none pos.line X.env=pure false:=by rfl):PS X (.Expr e pos) (ahn te):=by
 intro pins s σ H D I h
 exact wpAny_Expr_any (m_ (he pins s σ H _ I h) λv s1 ⟨x,H1,I1,r1,q1⟩=>⟨σ,H1,I1,q1⟩) I.quiet hs
def arU(te:TE):TS:=λD σ H=>te σ H D.rt
theorem aeA(he:PE X e te):PS X (.Return (some e) pos) (arU te):=by
 intro pins s σ H D I h
 exact wpAny_Return_some (m_ (he pins s σ H _ I h) λv s1 ⟨x,H1,I1,r1,q1⟩=>⟨x,σ,H1,I1,r1,q1⟩)
def arZ(c:TT)(t u:TS):TS:=λD σ H=>c σ H λb H1=>if b=true then t D σ H1 else u D σ H1
theorem ahV(hc:PT X c tc)(ha:RM X a t)(hb:RM X b u):PS X (.If c a b pos) (arZ tc t u):=by
 intro pins s σ H D I h
 refine wpAny_If (m_ (hc pins s σ H _ I h) ?_)
 rintro d s1 ⟨H1,I1,q1⟩
 cases d with
 | true=>exact ha pins s1 σ H1 D I1 q1
 | false=>exact hb pins s1 σ H1 D I1 q1
end
abbrev TG:=V->St->Hp->(St->Hp->Prop)->Prop
abbrev TGs:=List V->St->Hp->(St->Hp->Prop)->Prop
def PG(X:Cx)(target:Expr)(t:TG):Prop:=
 ∀(pins:List (Addr×Obj)) (s:Shared) (σ:St) (H:Hp) (v:V) (u:Value) (Q:St->Hp->Prop),Inv X pins σ H s->RelV v u->t v σ H Q->
  wpAny (model X.prog X.w) X.A (assign target X.env u) (λ_ s'=>∃σ' H',Inv X pins σ' H' s'/\Q σ' H') X.xe s
def YB(X:Cx)(ts:List Expr)(t:TGs):Prop:=
 ∀(pins:List (Addr×Obj)) (s:Shared) (σ:St) (H:Hp) (vs:List V) (us:List Value) (Q:St->Hp->Prop),Inv X pins σ H s->Vals vs us->t vs σ H Q->
  wpAny (model X.prog X.w) X.A (assignInOrder ((assignEach ts X.env).map (·.2)) us) (λ_ s'=>∃σ' H',Inv X pins σ' H' s'/\Q σ' H') X.xe s
section
variable{X:Cx}{pos:Pos}
def Tj(i:Nat):TG:=λv σ H Q=>Q (σ.set i (some v)) H
theorem Qq(hN:X.N.Nodup)(hi:X.N[i]? = some x)(hx:Loc X.env.scope x)(hf:X.fn x=true\/X.env.scope.names.lookup x=some .local:=by first | exact .inl rfl | exact .inr rfl | assumption):PG X (.Name x pos) (Tj i):=by
 intro pins s σ H v u Q I r h
 exact wpAny_assign_Name (R6 I hN hi hx r (λs' I'=>⟨_,H,I',h⟩) hf)
def awJ:TGs:=λvs σ H Q=>vs=[]/\Q σ H
def akU(t:TG)(u:TGs):TGs:=λvs σ H Q=>∃v r,vs=v::r/\t v σ H λσ' H'=>u r σ' H' Q
theorem Wm:YB X [] awJ:=by
 intro pins s σ H vs us Q I r h
 obtain⟨e,h⟩:=h
 subst e
 cases r
 exact assignInOrder_nil ⟨σ,H,I,h⟩
theorem Sy(h1:PG X e t)(h2:YB X es u)
  (hs:(assignEach (e::es) X.env).map (·.2)=assign e X.env::(assignEach es X.env).map (·.2):=by rfl):YB X (e::es) (akU t u):=by
 intro pins s σ H vs us Q I r h
 obtain⟨v,vr,e1,h⟩:=h
 subst e1
 cases r with
 | cons r rr=>
  rw[hs]
  refine assignInOrder_cons (m_ (h1 pins s σ H _ _ _ I r h) ?_)
  rintro _ s1 ⟨σ1,H1,I1,q1⟩
  exact h2 pins s1 σ1 H1 _ _ Q I1 rr q1
def awF(K:Frag)(n:Nat)(t:TGs):TG:=λv σ H Q=>∃a xs,v= .ref a/\zT K H a xs/\xs.length=n/\t xs σ H Q
theorem Z_(hc:X.calm=true)(h:YB X es t)
  (hn:(assignEach es X.env).length=n:=by rfl) (hst:(assignEach es X.env).findIdx? (·.1)=none:=by rfl):PG X (.Tuple es k pos) (awF X.K n t):=by
 intro pins s σ H v u Q I r hw
 obtain⟨a,xs,e1,hq,hl,hw⟩:=hw
 subst e1
 cases r
 obtain⟨its,rv,ht,hz⟩:=I.tuple hq
 refine assign_Tuple_tuple (I.ok.hd hc) ht (by simp[hn,<-hl,rv.length]) hst λh' hx=> ?_
 have I1:Inv X pins σ H {s with heap:=h'}:=I.kept (t':=s.toks) λb o e=>hx b o (xD (zS e)) e
 exact h pins _ σ H xs _ Q I1 (by simpa using rv) hw
def abj(te:TE)(g:TG):TS:=λD σ H=>te σ H λx H1=>g x σ H1 D.nx
theorem aeD(he:PE X e te)(hg:PG X tg g)(hs:swapsWithSole [tg] e pos.line X.env=pure false:=by rfl)(hw:swappedStores [tg] e X.env=pure none:=by rfl)
  (h1:(assignEach [tg] X.env).map (·.2)=[assign tg X.env]:=by rfl):PS X (.Assign [tg] e pos) (abj te g):=by
 intro pins s σ H D I h
 refine wpAny_Assign_stores (m_ (he pins s σ H _ I h) ?_) hs hw
 rintro v s1 ⟨x,H1,I1,r1,q1⟩
 rw[h1]
 exact m_ (hg pins s1 σ H1 x v _ I1 r1 q1) λ_ s2 q=>q
theorem aez(hN:X.N.Nodup)(hi:X.N[i]? = some x)(hx:Loc X.env.scope x)(he:PE X e te)(hs:swapsWith e (some (.Name x pos')) pos.line X.env=pure false:=by rfl)(hf:X.fn x=true\/X.env.scope.names.lookup x=some .local:=by first | exact .inl rfl | exact .inr rfl | assumption):
  PS X (.Assign [.Name x pos'] e pos) (abj te (Tj i)):=by
 intro pins s σ H D I h
 refine wpAny_Assign_Name (m_ (he pins s σ H _ I h) ?_) hs
 rintro v s1 ⟨y,H1,I1,r1,q1⟩
 exact R6 I1 hN hi hx r1 (λs2 I2=>⟨_,H1,I2,q1⟩) hf
def adT(c:TT)(tb:TS):TS:=λD σ H=>∃W:Nat->St->Hp->Prop,(∃m,W m σ H)/\∀m σ H,W m σ H->
 c σ H λb H1=>if b=true then ∃N:St->Hp->Prop,(∀σ' H',N σ' H'->∃m',m'<m/\W m' σ' H')/\tb {D with nx:=N,ct:=N,bk:=D.nx} σ H1 else D.nx σ H1
theorem Z4(hp:PassesOwn (model X.prog X.w) X.A X.env X.xe)(hc:PT X c tc)(hb:RM X body tb):PS X (.While c body [] pos) (adT tc tb):=by
 intro pins s σ H D I h
 obtain⟨W,⟨m0,w0⟩,turn⟩:=h
 refine wpAny_While (codeAny_whileLoop (λn s'=>∃σ' H',Inv X pins σ' H' s'/\W n σ' H') ?_ m0 ⟨σ,H,I,w0⟩)
 rintro n s1 ⟨σ1,H1,I1,w1⟩
 refine wpAny_passesOwn hp (m_ (hc pins s1 σ1 H1 _ I1 (turn n σ1 H1 w1)) ?_)
 rintro b s2 ⟨H2,I2,q2⟩
 cases b with
 | true=>
  obtain⟨N,hN,q2⟩:=q2
  rw[if_pos rfl]
  refine wpAny_passesOwn hp (m_ (hb pins s2 σ1 H2 _ I2 q2) λf s3 q3=> ?_)
  cases f with
  | next=>
   obtain⟨σ3,H3,I3,n3⟩:=q3
   obtain⟨m',hm,w3⟩:=hN σ3 H3 n3
   exact⟨m',hm,σ3,H3,I3,w3⟩
  | cont=>
   obtain⟨σ3,H3,I3,n3⟩:=q3
   obtain⟨m',hm,w3⟩:=hN σ3 H3 n3
   exact⟨m',hm,σ3,H3,I3,w3⟩
  | brk=>exact q3
  | ret v=>exact q3
 | false=>
  rw[if_neg xA]
  exact wpAny_execs_nil ⟨σ1,H2,I2,q2⟩
end
structure It where
 go:Nat->Hp->Prop
 YD:Nat->Hp->V->Hp->Prop
 stop:Nat->Hp->Prop
def Hy(X:Cx)(pins:List (Addr×Obj))(H:Hp)(b:Addr):Prop:=
 H b=none/\b≠X.env.locals/\b∉X.fs/\(b∈X.ex\/X.s₀.heap.objs.size<=b)/\(∀x c,X.env.cells.lookup x=some c->c≠b)/\∀p∈X.pn++pins,p.1≠b
theorem Inv.Tn(I:Inv X pins σ H s)(hb:s.heap.objs.size<=b)(hn:H' b=none):Hy X pins H' b:=by
 refine⟨hn,xS (yA I.lt hb),I.avq hb,.inr (yY I.sz hb),λx c e z=> ?_,λp hp z=> ?_⟩
 ·obtain⟨v,q⟩:=I.cell x c e
  exact absurd (yA q.lt (by rw[z];exact hb)) (wP _)
 ·exact absurd (yA (zS (I.pin p hp).1) (by rw[z];exact hb)) (wP _)
structure Turn(P:Program)(w:World)(K:Frag)(tg:Expr)(J:It)(fp:List Addr)(it:Addr)(tn:Nat->Heap->Prop):Prop where
 mem:it∈fp
 obj:∀i h,tn i h->∀b∈fp,∃o,h.get? b=some o/\∀v,o.data≠ .cell v
 keep:∀i h h',tn i h->(∀b∈fp,∀o,h.get? b=some o->h'.get? b=some o)->tn i h'
 item:∀(X:Cx),X.prog=P->X.w=w->X.K=K->X.calm=true->∀(i:Nat) (pins:List (Addr×Obj)) (s:Shared) (σ:St) (H:Hp) (E:Value->Shared->Prop),Inv X pins σ H s->(∀b∈fp,Hy X pins H b)->tn i s.heap->J.go i H->
  wpAny (model P w) X.A (pyNext (.ref it)) (λr s1=>∃u,r=some u/\
   wpAny (model P w) X.A (letOwnedTupleGo tg (.ref it) u) (λ_ s2=>∃x H',Inv X pins σ H' s2/\RelV x u/\J.YD i H x H'/\tn (i+1) s2.heap/\∀b∈fp,H' b=none) E s1) E s
 done:∀(X:Cx),X.prog=P->X.w=w->X.K=K->X.calm=true->∀(i:Nat) (pins:List (Addr×Obj)) (s:Shared) (σ:St) (H:Hp) (E:Value->Shared->Prop),Inv X pins σ H s->(∀b∈fp,Hy X pins H b)->tn i s.heap->J.stop i H->
  wpAny (model P w) X.A (pyNext (.ref it)) (λr s1=>r=none/\Inv X pins σ H s1) E s
 self:∀(A:Around) (i:Nat) (s:Shared) (Q:Value->Shared->Prop) (E:Value->Shared->Prop),tn i s.heap->Q (.ref it) s->wpAny (model P w) A (pyIter (.ref it)) Q E s
abbrev TI:=St->Hp->(It->Hp->Prop)->Prop
def PIE(X:Cx)(pins:List (Addr×Obj))(σ:St)(tg:Expr)(R:It->Hp->Prop)(itv:Value)(s2:Shared):Prop:=
 ∃(it:Addr) (fp:List Addr) (tn:Nat->Heap->Prop) (J:It) (H':Hp),itv= .ref it/\Inv X pins σ H' s2/\Turn X.prog X.w X.K tg J fp it tn/\tn 0 s2.heap/\(∀b∈fp,Hy X pins H' b)/\R J H'
def PI(X:Cx)(tg iter:Expr)(wi:TI):Prop:=
 ∀(pins:List (Addr×Obj)) (s:Shared) (σ:St) (H:Hp) (R:It->Hp->Prop),Inv X pins σ H s->wi σ H R->
  wpAny (model X.prog X.w) X.A (eval iter X.env) (λv s1=>wpAny (model X.prog X.w) X.A (pyIter v) (PIE X pins σ tg R) X.xe s1) X.xe s
theorem WL{E:Value->Shared->Prop}{Q:Unit->Shared->Prop}(ho:s.heap.get? it=some o)(hc:o.cls= .type n)(hd:o.data= .fields vs)
  (hn:["enumerate","zip","dict_itemiterator","dict_reverseitemiterator","odict_iterator","itertools.zip_longest","itertools.pairwise"].contains n=false) (hQ:Q .unit s):wpAny M A (letOwnedTupleGo tg (.ref it) u) Q E s:=by
 unfold letOwnedTupleGo
 cases tg<;>first
  | exact zI hQ
  | (cases u<;>first
    | exact zI hQ
    | (refine zC (wpAny_load ho ?_)
       rw[hc,hd]
       show wpAny M A (if(["enumerate","zip","dict_itemiterator","dict_reverseitemiterator","odict_iterator","itertools.zip_longest","itertools.pairwise"].contains n&&vs[0]? == some (rawInt _))=true then _ else _) Q E s
       rw[if_neg (by intro h;rw[hn,Bool.false_and]at h;cases h)]
       exact zI hQ))
def Itl(K:Frag)(a:Addr):It:=
 ⟨λi H=>∃xs x,De K H a xs/\xs[i]? = some x,λi H x H'=>H'=H/\∀xs,De K H a xs->xs[i]? = some x,λi H=>∃xs,De K H a xs/\xs.length<=i⟩
def Itt(K:Frag)(a:Addr):It:=
 ⟨λi H=>∃xs x,zT K H a xs/\xs[i]? = some x,λi H x H'=>H'=H/\∀xs,zT K H a xs->xs[i]? = some x,λi H=>∃xs,zT K H a xs/\xs.length<=i⟩
def Itr(lo:Int)(n:Nat):It:=⟨λi _=>i<n,λi H x H'=>H'=H/\x= .int (lo+i),λi _=>n<=i⟩
theorem W9{P:Program}{w:World}{K:Frag}{tg:Expr}(a it:Addr):Turn P w K tg (Itl K a) [it] it (λi h=>h.IsListIter it a i) where
 mem:=by simp
 obj:=λi h st b hb=>by
  have e:b=it:=by simpa using hb
  subst e
  obtain⟨o,e,c,d⟩:=st
  exact⟨o,e,λv z=>by rw[d]at z;cases z⟩
 keep:=λi h h' st k=>st.at λo e=>k it (by simp) o e
 item:=by
  intro X hP hw hK hc i pins s σ H E I hf st hg
  subst hP hw hK
  obtain⟨xs,x,hq,hx⟩:=hg
  obtain⟨its,rv,p,hz⟩:=I.list hq
  obtain⟨u,hu,ru⟩:=rv.get hx
  obtain⟨f0,f1,f2,f3,f4,f5⟩:=hf it (by simp)
  refine wpAny_pyNext_list_item st p.isList (x:=u) (by simpa using hu) λh' st' sb=> ?_
  have I1:Inv X pins σ H {s with heap:=h'}:=I.turned (t':=s.toks) (λb o hb e=>(sb.2 b hb).trans e) f0 f1 f3 f4 f5
  obtain⟨o,e,c,d⟩:=id st'
  exact⟨u,rfl,WL (s:={s with heap:=h'}) e c d (by decide) ⟨x,H,I1,ru,⟨rfl,λys hy=>by rw[I.Td hy hq];exact hx⟩,st',λb hb=>(hf b hb).1⟩⟩
 done:=by
  intro X hP hw hK hc i pins s σ H E I hf st hg
  subst hP hw hK
  obtain⟨xs,hq,hx⟩:=hg
  obtain⟨its,rv,p,hz⟩:=I.list hq
  obtain⟨f0,f1,f2,f3,f4,f5⟩:=hf it (by simp)
  have hl:=rv.length
  exact wpAny_pyNext_list_end (I.ok.hd hc) st p.isList (by simp;omega) λh' eb=>⟨rfl,I.turned (t':=s.toks) (λb o hb e=>eb b o hb e) f0 f1 f3 f4 f5⟩
 self:=λ_ _ _ _ _ st h=>wpAny_pyIter_listiter st h
theorem Uo{P:Program}{w:World}{K:Frag}{tg:Expr}(a it:Addr):Turn P w K tg (Itt K a) [it] it (λi h=>h.IsTupleIter it a i) where
 mem:=by simp
 obj:=λi h st b hb=>by
  have e:b=it:=by simpa using hb
  subst e
  obtain⟨o,e,c,d⟩:=st
  exact⟨o,e,λv z=>by rw[d]at z;cases z⟩
 keep:=λi h h' st k=>st.at λo e=>k it (by simp) o e
 item:=by
  intro X hP hw hK hc i pins s σ H E I hf st hg
  subst hP hw hK
  obtain⟨xs,x,hq,hx⟩:=hg
  obtain⟨its,rv,p,hz⟩:=I.tuple hq
  obtain⟨u,hu,ru⟩:=rv.get hx
  obtain⟨f0,f1,f2,f3,f4,f5⟩:=hf it (by simp)
  refine wpAny_pyNext_tuple_item st (show s.heap.IsTuple a its.toArray from p) (x:=u) (by simpa using hu) λh' st' sb=> ?_
  have I1:Inv X pins σ H {s with heap:=h'}:=I.turned (t':=s.toks) (λb o hb e=>(sb.2 b hb).trans e) f0 f1 f3 f4 f5
  obtain⟨o,e,c,d⟩:=id st'
  exact⟨u,rfl,WL (s:={s with heap:=h'}) e c d (by decide) ⟨x,H,I1,ru,⟨rfl,λys hy=>by rw[I.Om hy hq];exact hx⟩,st',λb hb=>(hf b hb).1⟩⟩
 done:=by
  intro X hP hw hK hc i pins s σ H E I hf st hg
  subst hP hw hK
  obtain⟨xs,hq,hx⟩:=hg
  obtain⟨its,rv,p,hz⟩:=I.tuple hq
  obtain⟨f0,f1,f2,f3,f4,f5⟩:=hf it (by simp)
  have hl:=rv.length
  exact wpAny_pyNext_tuple_end (I.ok.hd hc) st (show s.heap.IsTuple a its.toArray from p) (by simp;omega) λh' eb=>⟨rfl,I.turned (t':=s.toks) (λb o hb e=>eb b o hb e) f0 f1 f3 f4 f5⟩
 self:=λ_ _ _ _ _ st h=>wpAny_pyIter_tupleiter st h
theorem Up{P:Program}{w:World}{K:Frag}{tg:Expr}(it:Addr)(lo:Int)(n:Nat):Turn P w K tg (Itr lo n) [it] it (λi h=>IsRangeIter h it (lo+(i:Nat)*1) ((n:Int) - (i:Nat)) 1) where
 mem:=by simp
 obj:=λi h st b hb=>by
  have e:b=it:=by simpa using hb
  subst e
  exact⟨_,st,λv z=>by
   have z':Data.fields _=Data.cell v:=z
   cases z'⟩
 keep:=λi h h' st k=>k it (by simp) _ st
 item:=by
  intro X hP hw hK hc i pins s σ H E I hf st hg
  subst hP hw hK
  obtain⟨f0,f1,f2,f3,f4,f5⟩:=hf it (by simp)
  have W:=Walks.range (prog:=X.prog) (w:=X.w) (I.ok.hd hc) it lo 1 n
  refine W.item i s _ _ hg st λv h' tk hv st' kk=> ?_
  obtain⟨t,rfl⟩:=hv
  have I1:Inv X pins σ H {s with heap:=h',toks:=tk}:=I.turned (λb o hb e=>kk b o (by simpa using hb) e) f0 f1 f3 f4 f5
  refine⟨_,rfl,WL (s:={s with heap:=h',toks:=tk}) (n:= "range_iterator") st' rfl rfl (by decide) ⟨.int (lo+i),H,I1,⟨t,?_⟩,⟨rfl,rfl⟩,st',λb hb=>(hf b hb).1⟩⟩
  rw[Int.mul_one]
 done:=by
  intro X hP hw hK hc i pins s σ H E I hf st hg
  subst hP hw hK
  obtain⟨f0,f1,f2,f3,f4,f5⟩:=hf it (by simp)
  exact wpAny_pyNext_range_end (I.ok.hd hc) st (by have:n<=i:=hg;omega) λh' eb=>⟨rfl,I.turned (t':=s.toks) (λb o hb e=>eb b o hb e) f0 f1 f3 f4 f5⟩
 self:=λ_ _ _ _ _ st h=>wpAny_pyIter_rangeiter st h
section
variable{X:Cx}{tg:Expr}
theorem Sw{pins:List (Addr×Obj)}{R:It->Hp->Prop}{E:Value->Shared->Prop}{lo hi:Int}{tk:Nat}(I:Inv X pins σ H s)(h1: -(2 ^ 62)<=lo)(h2:lo<2 ^ 62)(h3: -(2 ^ 62)<=hi)(h4:hi<2 ^ 62)
  (q:R (Itr lo (hi - lo).toNat) H):wpAny (model X.prog X.w) X.A (pyIter (.ref s.heap.objs.size)) (PIE X pins σ tg R) E {s with heap:=s.heap.push {cls:= .type "range",data:= .fields #[.int lo t,.int hi u,.int 1 v]},toks:=tk}:=by
 refine wpAny_pyIter_range (IsRange.new ..) (small_one h1 h2 h3 h4) ?_
 have I1:Inv X pins σ H {s with heap:=s.heap.push {cls:= .type "range",data:= .fields #[.int lo t,.int hi u,.int 1 v]},toks:=tk}:=I.kept λb o e=>zD _ e
 refine⟨(s.heap.push {cls:= .type "range",data:= .fields #[.int lo t,.int hi u,.int 1 v]}).objs.size,[(s.heap.push {cls:= .type "range",data:= .fields #[.int lo t,.int hi u,.int 1 v]}).objs.size],_,_,H,rfl,
  I1.kept (t':=tk) λb o e=>zD _ e,Up _ lo (hi - lo).toNat,?_,λb hb=> ?_,q⟩
 ·have e1:lo+((0:Nat):Int)*1=lo:=by simp
  have e2:(((hi - lo).toNat:Nat):Int) - ((0:Nat):Int)=Builtin.Range.rangeSize lo hi 1:=by rw[rangeSize_one];split<;>omega
  show IsRangeIter _ _ (lo+((0:Nat):Int)*1) ((((hi - lo).toNat:Nat):Int) - ((0:Nat):Int)) 1
  rw[e1,e2]
  exact yB _ rfl
 ·have e:b=(s.heap.push {cls:= .type "range",data:= .fields #[.int lo t,.int hi u,.int 1 v]}).objs.size:=by simpa using hb
  subst e
  exact I1.Tn (jS _) (I1.hok.fresh (jS _))
def akM(ta:TA):TI:=λσ H R=>ta σ H λvs H1=>∃j:Int,vs=[.int j]/\ -(2 ^ 62)<=j/\j<2 ^ 62/\R (Itr 0 j.toNat) H1
def akL(ta:TA):TI:=λσ H R=>ta σ H λvs H1=>∃i j:Int,vs=[.int i,.int j]/\(-(2 ^ 62)<=i/\i<2 ^ 62/\ -(2 ^ 62)<=j/\j<2 ^ 62)/\R (Itr i (j - i).toNat) H1
theorem Xx(hg:Gl X "range")(hm:X.mg "range" = none)(ha:PA X [a] ta)(hs:starEach [a] X.env=[(false,eval a X.env)]:=by rfl):PI X tg (.Call (.Name "range" p) [a] [] pos) (akM ta):=by
 intro pins s σ H R I h
 refine Call_ (CN I hg hm boot_range (PyProof.Rows.callWith_type1 (m_ (ha pos pins s σ H _ I h) ?_) hs rfl))
 rintro us s1 ⟨vs,H1,I1,r1,q1⟩
 obtain⟨j,e,q1,q2,q⟩:=q1
 subst e
 cases r1 with
 | cons r rr=>
  cases rr
  obtain⟨t,rfl⟩:=r
  exact call_range_1 (Sw I1 () () q1 q2 (by simpa using q))
theorem Xw(hg:Gl X "range")(hm:X.mg "range" = none)(ha:PA X [a,b] ta)(hs:starEach [a,b] X.env=[(false,eval a X.env),(false,eval b X.env)]:=by rfl)(hs2:starEach [b] X.env=[(false,eval b X.env)]:=by rfl):
  PI X tg (.Call (.Name "range" p) [a,b] [] pos) (akL ta):=by
 intro pins s σ H R I h
 refine Call_ (CN I hg hm boot_range (PyProof.Rows.callWith_type1 (m_ (ha pos pins s σ H _ I h) λus s1 ⟨vs,H1,I1,r1,q1⟩=> ?_) (by rw[hs,hs2]) (by rw[hs2];rfl)))
 obtain⟨i,j,e,⟨q1,q2,q3,q4⟩,q⟩:=q1
 subst e
 cases r1 with
 | cons r rr=>
  cases rr with
  | cons r' rr=>
   cases rr
   obtain⟨t,rfl⟩:=r
   obtain⟨t',rfl⟩:=r'
   exact call_range_2 (Sw I1 q1 q2 q3 q4 q)
def ar0(wi:TI)(g:TG)(tb:TS):TS:=λD σ H=>wi σ H λJ H1=>∃W:Nat->Nat->St->Hp->Prop,(∃m,W 0 m σ H1)/\∀i m σ H,W i m σ H->
 (J.stop i H/\D.nx σ H)\/(J.go i H/\∃N:St->Hp->Prop,(∀σ' H',N σ' H'->∃m',m'<m/\W (i+1) m' σ' H')/\∀x H',J.YD i H x H'->g x σ H' λσ2 H2=>tb {D with nx:=N,ct:=N,bk:=D.nx} σ2 H2)
def Lh(fp:List Addr)(h:Heap):List (Addr×Obj):=fp.filterMap λb=>(h.get? b).map λo=>(b,o)
theorem z9(hb:b∈fp)(e:h.get? b=some o):(b,o)∈Lh fp h:=List.mem_filterMap.mpr ⟨b,hb,by rw[e];rfl⟩
theorem XM(hp:p∈Lh fp h):p.1∈fp/\h.get? p.1=some p.2:=by
 obtain⟨b,hb,e⟩:=List.mem_filterMap.mp hp
 cases q:h.get? b with
 | none=>rw[q]at e;cases e
 | some o=>
  rw[q]at e
  have e':(b,o)=p:=xI e
  subst e'
  exact⟨hb,q⟩
theorem Inv.pinned(I:Inv X pins σ H s)(hf:∀b∈fp,Hy X pins H b)(ho:∀b∈fp,∃o,s.heap.get? b=some o/\∀v,o.data≠ .cell v):Inv X (pins++Lh fp s.heap) σ H s:=
 I.J8 λp hp=>(List.mem_append.mp hp).elim (λz=>I.pin p (xE _ z)) λz=>by
  obtain⟨hb,e⟩:=XM z
  obtain⟨f0,f1,f2,_⟩:=hf p.1 hb
  obtain⟨o,e',d⟩:=ho p.1 hb
  rw[e]at e';cases e'
  exact⟨e,f0,f1,f2,d⟩
theorem Inv.FJ(I:Inv X (pins++pl) σ H s):Inv X pins σ H s:=I.J8 λp hp=>I.pin p (xE _ (List.mem_append_left _ hp))
theorem aeB(hp:PassesOwn (model X.prog X.w) X.A X.env X.xe)(hc:X.calm=true)(hi:PI X tg iter wi)(hg:PG X tg g)(hb:RM X body tb)
  (hs:∀x,foldedSetIterable iter X.env x=pure x:=by intro _;rfl):PS X (.For tg iter body [] pos) (ar0 wi g tb):=by
 intro pins s σ H D I h
 refine wpAny_For (m_ (hi pins s σ H _ I h) λv s1 h1=>m_ h1 λitv s2 h2=> ?_) hs
 obtain⟨it,fp,tn,J,H2,e,I2,T,st2,f2,W,⟨m0,w0⟩,turn⟩:=h2
 subst e
 have stat:∀{H':Hp},(∀b∈fp,H' b=none)->∀b∈fp,Hy X pins H' b:=λhn b hb=>⟨hn b hb,(f2 b hb).2⟩
 refine codeAny_forLoop_any (λn s'=>∃i σ' H',Inv X pins σ' H' s'/\tn i s'.heap/\(∀b∈fp,H' b=none)/\W i n σ' H') ?_ m0 ⟨0,σ,H2,I2,st2,λb hb=>(f2 b hb).1,w0⟩
 rintro n s3 ⟨i,σ3,H3,I3,st3,fr3,w3⟩
 rcases turn i n σ3 H3 w3 with⟨stop,qn⟩ | ⟨go,N,hN,step⟩
 ·refine wpAny_passesOwn hp (m_ (T.done X rfl rfl rfl hc i pins s3 σ3 H3 X.xe I3 (stat fr3) st3 stop) ?_)
  rintro r s4 ⟨hr,I4⟩
  subst hr
  exact wpAny_execs_nil ⟨σ3,H3,I4,qn⟩
 ·refine wpAny_passesOwn hp (m_ (T.item X rfl rfl rfl hc i pins s3 σ3 H3 X.xe I3 (stat fr3) st3 go) ?_)
  rintro r s4 ⟨u,hr,h4⟩
  subst hr
  refine wpAny_passesOwn hp (m_ h4 ?_)
  rintro _ s5 ⟨x,H5,I5,r5,y5,st5,fr5⟩
  have I5':=I5.pinned (stat fr5) (T.obj _ _ st5)
  refine wpAny_passesOwn hp (m_ (hg _ s5 σ3 H5 x u _ I5' r5 (step x H5 y5)) ?_)
  rintro _ s6 ⟨σ6,H6,I6,q6⟩
  refine wpAny_passesOwn hp (m_ (hb _ s6 σ6 H6 _ I6 q6) λf s7 q7=> ?_)
  have again:∀{YL:St} {H7:Hp},Inv X (pins++Lh fp s5.heap) YL H7 s7->N YL H7->∃m,m<n/\∃i σ' H',Inv X pins σ' H' s7/\tn i s7.heap/\(∀b∈fp,H' b=none)/\W i m σ' H':=λ{YL H7} I7 n7=>by
   obtain⟨m',hm,w7⟩:=hN YL H7 n7
   refine⟨m',hm,i+1,YL,H7,I7.FJ,T.keep _ _ _ st5 λb hb o e=>(I7.pin (b,o) (xE _ (xE _ (z9 hb e)))).1,λb hb=> ?_,w7⟩
   obtain⟨o,e,d⟩:=T.obj _ _ st5 b hb
   exact(I7.pin (b,o) (xE _ (xE _ (z9 hb e)))).2.1
  cases f with
  | next=>obtain⟨YL,H7,I7,n7⟩:=q7;exact again I7 n7
  | cont=>obtain⟨YL,H7,I7,n7⟩:=q7;exact again I7 n7
  | brk=>obtain⟨YL,H7,I7,q7⟩:=q7;exact⟨YL,H7,I7.FJ,q7⟩
  | ret v=>obtain⟨x7,YL,H7,I7,r7,q7⟩:=q7;exact⟨x7,YL,H7,I7.FJ,r7,q7⟩
end
abbrev R2:=V->V->Hp->VK->Prop
def Bl(X:Cx)(f:Value->Value->Sem Value)(r:R2):Prop:=
 ∀(pins:List (Addr×Obj)) (s:Shared) (σ:St) (H:Hp) (x y:V) (v u:Value) (Q:VK),Inv X pins σ H s->RelV x v->RelV y u->r x y H Q->
  wpAny (model X.prog X.w) X.A (f v u) (EP X pins σ Q) X.xe s
def UnR(X:Cx)(f:Value->Sem Value)(r:V->Hp->VK->Prop):Prop:=
 ∀(pins:List (Addr×Obj)) (s:Shared) (σ:St) (H:Hp) (x:V) (v:Value) (Q:VK),Inv X pins σ H s->RelV x v->r x H Q->
  wpAny (model X.prog X.w) X.A (f v) (EP X pins σ Q) X.xe s
def qG(X:Cx)(f:Value)(r:List V->Hp->VK->Prop):Prop:=
 ∀(pins:List (Addr×Obj)) (s:Shared) (σ:St) (H:Hp) (xs:List V) (us:List Value) (Q:VK),Inv X pins σ H s->Vals xs us->r xs H Q->
  wpAny (model X.prog X.w) X.A (call f us) (EP X pins σ Q) X.xe s
def tOp(r:R2)(ta tb:TE):TE:=λσ H Q=>ta σ H λx H1=>tb σ H1 λy H2=>r x y H2 Q
def tUn(r:V->Hp->VK->Prop)(ta:TE):TE:=λσ H Q=>ta σ H λx H1=>r x H1 Q
def rI(C:Int->Int->Prop)(g:Int->Int->V):R2:=λx y H Q=>∃i j,x= .int i/\y= .int j/\C i j/\Q (g i j) H
def YF(g:Int->Int->V):R2:=λx y H Q=>∃i j,x= .int i/\y= .int j/\Q (g i j) H
def rU(g:Int->V):V->Hp->VK->Prop:=λx H Q=>∃i,x= .int i/\Q (g i) H
section
variable{X:Cx}{a b c:Expr}{ta tb tc:TE}{pos:Pos}
theorem agG(ha:PE X a ta)(hb:PE X b tb){R:V->V->Hp->Prop}(I:Inv X pins σ H s)
  (h:ta σ H λx H1=>tb σ H1 λy H2=>R x y H2) {Q:Value->Shared->Prop} {f:Value->Value->Sem Value}
  (hf:∀v u s2 x y H2,Inv X pins σ H2 s2->RelV x v->RelV y u->R x y H2->wpAny (model X.prog X.w) X.A (f v u) Q X.xe s2):
  wpAny (model X.prog X.w) X.A (eval a X.env) (λv s₁=>wpAny (model X.prog X.w) X.A (eval b X.env) (λu s₂=>wpAny (model X.prog X.w) X.A (f v u) Q X.xe s₂) X.xe s₁) X.xe s:=by
 refine m_ (ha pins s σ H _ I h) ?_
 rintro v s1 ⟨x,H1,I1,r1,q1⟩
 refine m_ (hb pins s1 σ H1 _ I1 q1) ?_
 rintro u s2 ⟨y,H2,I2,r2,q2⟩
 exact hf v u s2 x y H2 I2 r1 r2 q2
theorem aiO(ho:Bl X (binaryOp op) r)(ha:PE X a ta)(hb:PE X b tb):PE X (.BinOp a op b pos) (tOp r ta tb):=by
 intro pins s σ H Q I h
 exact wpAny_BinOp (agG ha hb I h λv u s2 x y H2 I2 rx ry q=>ho pins s2 σ H2 x y v u Q I2 rx ry q)
theorem aiM{r:V->Hp->VK->Prop}(ho:UnR X (unaryOp op) r)(ha:PE X a ta):PE X (.UnaryOp op a pos) (tUn r ta):=by
 intro pins s σ H Q I h
 exact UnaryOp_ (m_ (ha pins s σ H _ I h) λv s1 ⟨x,H1,I1,r1,q1⟩=>ho pins s1 σ H1 x v Q I1 r1 q1)
theorem opI{f:Value->Value->Sem Value}{C:Int->Int->Prop}{g:Int->Int->Int}
  (rule:∀(i j:Int) (t u:Tok) (s:Shared) (Q:Value->Shared->Prop) (E:Value->Shared->Prop),C i j->Q (.int (g i j) s.toks) {s with toks:=s.toks+1}->wpAny (model X.prog X.w) X.A (f (.int i t) (.int j u)) Q E s):
  Bl X f (rI C λi j=> .int (g i j)):=by
 intro pins s σ H x y v u Q I rx ry h
 obtain⟨i,j,rfl,rfl,hc,q⟩:=h
 obtain⟨t,rfl⟩:=rx
 obtain⟨t',rfl⟩:=ry
 exact rule i j t t' s _ _ hc ⟨.int (g i j),H,I.tok _,⟨_,rfl⟩,q⟩
theorem ab3{f:Value->Value->Sem Value}{g:Int->Int->Int}
  (rule:∀(i j:Int) (t u:Tok) (s:Shared) (Q:Value->Shared->Prop) (E:Value->Shared->Prop),Q (.int (g i j) s.toks) {s with toks:=s.toks+1}->wpAny (model X.prog X.w) X.A (f (.int i t) (.int j u)) Q E s):
  Bl X f (YF λi j=> .int (g i j)):=by
 intro pins s σ H x y v u Q I rx ry h
 obtain⟨i,j,rfl,rfl,q⟩:=h
 obtain⟨t,rfl⟩:=rx
 obtain⟨t',rfl⟩:=ry
 exact rule i j t t' s _ _ ⟨.int (g i j),H,I.tok _,⟨_,rfl⟩,q⟩
theorem ab4{f:Value->Value->Sem Value}{g:Int->Int->Bool}
  (rule:∀(i j:Int) (t u:Tok) (s:Shared) (Q:Value->Shared->Prop) (E:Value->Shared->Prop),Q (.bool (g i j)) s->wpAny (model X.prog X.w) X.A (f (.int i t) (.int j u)) Q E s):
  Bl X f (YF λi j=> .bl (g i j)):=by
 intro pins s σ H x y v u Q I rx ry h
 obtain⟨i,j,rfl,rfl,q⟩:=h
 obtain⟨t,rfl⟩:=rx
 obtain⟨t',rfl⟩:=ry
 exact rule i j t t' s _ _ ⟨.bl (g i j),H,I,rfl,q⟩
def axr(i j:Int):Prop:=0<j/\j<1073741824
def aoP(i j:Int):Prop:=0<=j/\j<=1000000/\i.natAbs<2 ^ 64
def agO(i j:Int):Prop:=(-(2 ^ 64)<i/\i<2 ^ 64)\/(-(2 ^ 64)<j/\j<2 ^ 64)
theorem agO.ok(h:agO i j):IntMulOk i j:=by
 rcases h with⟨h1,h2⟩ | ⟨h1,h2⟩
 ·exact .of_left (intBits_le_64 h1 h2)
 ·exact .of_right (intBits_le_64 h1 h2)
theorem Um(k:Nat):(0:Int)<=2 ^ k:=by
 rw[two_pow_cast]
 exact Int.natCast_nonneg _
theorem ae7:Bl X (binaryOp .Add) (YF λi j=> .int (i+j)):=ab3 λ_ _ _ _ _ _ _ q=>add_int q
theorem aeU:Bl X (binaryOp .Sub) (YF λi j=> .int (i - j)):=ab3 λ_ _ _ _ _ _ _ q=>sub_int q
theorem aeZ:Bl X (binaryOp .Mult) (rI agO λi j=> .int (i*j)):=opI λ_ _ _ _ _ _ _ hc q=>mul_int q hc.ok
theorem ab1:Bl X (binaryOp .FloorDiv) (rI axr λi j=> .int (i / j)):=opI λi j _ _ _ _ _ hc q=>by
 have h1:(0:Int)<j:=hc.1
 have h2:j<1073741824:=hc.2
 exact floordiv_int () (by rw[Int.fdiv_eq_ediv_of_nonneg i ()];exact q) (.inl (PyProof.noPylong_small ()))
theorem ae0:Bl X (binaryOp .Mod) (rI (λ_ j=>0<j) λi j=> .int (i % j)):=opI λi j _ _ _ _ _ hc q=>by
 have h1:(0:Int)<j:=hc
 exact mod_int' () (by rw[Int.fmod_eq_emod_of_nonneg i ()];exact q)
theorem aeX:Bl X (binaryOp .Pow) (rI aoP λi j=> .int (i ^ j.toNat)):=opI λ_ _ _ _ _ _ _ hc q=>pow_int_small hc.1 hc.2.1 hc.2.2 q
theorem aeW:Bl X (binaryOp .LShift) (rI aoP λi j=> .int (i*2 ^ j.toNat)):=opI λ_ _ _ _ _ _ _ hc q=>lshift_int_small hc.1 hc.2.1 hc.2.2 q
theorem aeV:Bl X (binaryOp .RShift) (rI (λ_ j=>0<=j) λi j=> .int (i / 2 ^ j.toNat)):=opI λi j _ _ _ _ _ hc q=>
 rshift_int hc (by rw[Int.fdiv_eq_ediv_of_nonneg i (Um _)];exact q)
theorem ae6:Bl X (binaryOp .BitAnd) (YF λi j=> .int (Builtin.bitAnd i j)):=ab3 λ_ _ _ _ _ _ _ q=>and_int q
theorem aiT:Bl X (binaryOp .BitOr) (YF λi j=> .int (Builtin.bitOr i j)):=ab3 λ_ _ _ _ _ _ _ q=>or_int q
theorem unI{f:Value->Sem Value}{g:Int->Int}
  (rule:∀(i:Int) (t:Tok) (s:Shared) (Q:Value->Shared->Prop) (E:Value->Shared->Prop),Q (.int (g i) s.toks) {s with toks:=s.toks+1}->wpAny (model X.prog X.w) X.A (f (.int i t)) Q E s):
  UnR X f (rU λi=> .int (g i)):=by
 intro pins s σ H x v Q I rx h
 obtain⟨i,rfl,q⟩:=h
 obtain⟨t,rfl⟩:=rx
 exact rule i t s _ _ ⟨.int (g i),H,I.tok _,⟨_,rfl⟩,q⟩
theorem adR:UnR X (unaryOp .USub) (rU λi=> .int (-i)):=unI λ_ _ _ _ _ q=>neg_int q
theorem Vv(I:Inv X pins σ H s)(q:Q (.bl k) H)(e:k=k'):EP X pins σ Q (.bool k') s:=by
 subst e
 exact⟨.bl k,H,I,rfl,q⟩
theorem aiU:Bl X (compareOp .Lt) (YF λi j=> .bl (decide (i<j))):=ab4 λ_ _ _ _ _ _ _ q=>lt_int q
theorem aiV:Bl X (compareOp .LtE) (YF λi j=> .bl (decide (i<=j))):=ab4 λ_ _ _ _ _ _ _ q=>le_int q
theorem aiW:Bl X (compareOp .Gt) (YF λi j=> .bl (decide (j<i))):=ab4 λ_ _ _ _ _ _ _ q=>gt_int q
theorem aiX:Bl X (compareOp .GtE) (YF λi j=> .bl (decide (j<=i))):=ab4 λ_ _ _ _ _ _ _ q=>ge_int q
theorem XH:Bl X (compareOp .Lt) (λx y H Q=>∃i j,x= .str i/\y= .str j/\Q (.bl (decide (i.cps.toList<j.cps.toList))) H):=by
 intro pins s σ H x y v u Q I rx ry h
 obtain⟨i,j,rfl,rfl,q⟩:=h
 obtain⟨t,rfl⟩:=rx
 obtain⟨t',rfl⟩:=ry
 exact lt_str (Vv I q rfl)
theorem ae2:Bl X (compareOp .Is) (λx y H Q=>y= .non/\Q (.bl (decide (x= .non))) H):=by
 intro pins s σ H x y v u Q I rx ry h
 obtain⟨rfl,q⟩:=h
 cases ry
 refine is_none_gen (Vv I q ?_)
 cases x<;>first
  | (cases rx;rfl)
  | (obtain⟨t,rfl⟩:=rx;rfl)
theorem ab0:Bl X (compareOp .IsNot) (λx y H Q=>y= .non/\Q (.bl (!decide (x= .non))) H):=by
 intro pins s σ H x y v u Q I rx ry h
 obtain⟨rfl,q⟩:=h
 cases ry
 refine isnot_none_gen (Vv I q ?_)
 cases x<;>first
  | (cases rx;rfl)
  | (obtain⟨t,rfl⟩:=rx;rfl)
theorem Bl.or(h:Bl X f r)(h':Bl X f r'):Bl X f (λx y H Q=>r x y H Q\/r' x y H Q):=by
 intro pins s σ H x y v u Q I rx ry q
 rcases q with q | q
 ·exact h pins s σ H x y v u Q I rx ry q
 ·exact h' pins s σ H x y v u Q I rx ry q
theorem bD(b:Expr)(h:op≠ .In:=by decide)(h2:op≠ .NotIn:=by decide):behindInMarks op b=false:=by
 have e1:(op==CmpOp.In)=false:=by cases op<;>first | rfl | exact absurd rfl h
 have e2:(op==CmpOp.NotIn)=false:=by cases op<;>first | rfl | exact absurd rfl h2
 cases b<;>simp[behindInMarks,e1,e2]
theorem abY(ho:Bl X (compareOp op) r)(ha:PE X a ta)(hb:PE X b tb)(hm:behindInMarks op b=false):PE X (.Compare a [op] [b] pos) (tOp r ta tb):=by
 intro pins s σ H Q I h
 exact wpAny_Compare1 (agG ha hb I h λv u s2 x y H2 I2 rx ry q=>ho pins s2 σ H2 x y v u Q I2 rx ry q) hm
def ac_(t:TE):TT:=λσ H Q=>t σ H λx H'=>∃k,x= .bl k/\Q k H'
theorem abN(ho:Bl X (compareOp op) r)(ha:PE X a ta)(hb:PE X b tb)(hm:behindInMarks op b=false):PT X (.Compare a [op] [b] pos) (ac_ (tOp r ta tb)):=by
 intro pins s σ H Q I h
 refine wpAny_isTrue_Compare1 (m_ (ha pins s σ H _ I h) λv s1 ⟨x,H1,I1,r1,q1⟩=>m_ (hb pins s1 σ H1 _ I1 q1) λu s2 ⟨y,H2,I2,r2,q2⟩=>
  m_ (ho pins s2 σ H2 x y v u _ I2 r1 r2 q2) λc s3 ⟨z,H3,I3,r3,k,e,q3⟩=> ?_) hm
 subst e
 cases r3
 exact wpAny_truthy_bool ⟨H3,I3,q3⟩
theorem Mq:(sizeLine:Nat)<2 ^ 63:=by rw[sizeLine_eq];decide
theorem Va:Bl X (binaryOp .Add) (λx y H Q=>∃i j,x= .str i/\y= .str j/\i.length+j.length<=sizeLine/\Q (.str (i++j)) H):=by
 intro pins s σ H x y v u Q I rx ry h
 obtain⟨i,j,rfl,rfl,hz,q⟩:=h
 obtain⟨t,rfl⟩:=rx
 obtain⟨t',rfl⟩:=ry
 exact add_str (λt' tk=>⟨.str (i++j),H,I.tok _,⟨_,rfl⟩,q⟩) hz
theorem vals1(r:Vals [x] us):∃u,us=[u]/\RelV x u:=by
 cases r with
 | cons r1 r2=>cases r2;exact⟨_,rfl,r1⟩
theorem vals2(r:Vals [x,y] us):∃u w',us=[u,w']/\RelV x u/\RelV y w':=by
 cases r with
 | cons r1 r2=>
  cases r2 with
  | cons r3 r4=>cases r4;exact⟨_,_,rfl,r1,r3⟩
theorem Pk:qG X (.type "int") (λxs H Q=>(∃i,xs=[.int i]/\Q (.int i) H)\/∃k,xs=[.bl k]/\Q (.int (if k then 1 else 0)) H):=by
 intro pins s σ H xs us Q I r h
 rcases h with⟨i,rfl,q⟩ | ⟨k,rfl,q⟩
 ·obtain⟨u,rfl,t,rfl⟩:=vals1 r
  exact call_int_int ⟨.int i,H,I,⟨_,rfl⟩,q⟩
 ·obtain⟨u,rfl,r1⟩:=vals1 r
  cases r1
  exact call_int_bool ⟨.int (if k then 1 else 0),H,I.tok _,⟨_,rfl⟩,q⟩
end
structure V3(h:Heap)(x dx C:Addr)(mA:Str->Option Value):Prop where
 obj:h.get? x=some (PySem.W.instObj C dx)
 ns:h.Ns1 dx mA
 ne:dx≠x
theorem X5{h:Heap}{dx:Addr}{mA:Str->Option Value}(n:h.Ns1 dx mA):∃od,h.get? dx=some od/\∀name,PySem.W.lookIn name od=some (mA name):=by
 obtain⟨o,es,ep,ho,hd,hk,_,hm⟩:=n
 refine⟨o,ho,λname=> ?_⟩
 have e:=hm name
 unfold nsFind findBy at e
 rw[<-Array.find?_toList]at e
 unfold PySem.W.lookIn
 rw[hd]
 dsimp only
 split
 ·rename_i y q
  rw[q]at e
  exact congrArg some e
 ·rename_i q
  rw[q]at e
  have a:es.toList.any (·.refKey)=false:=by
   rw[List.any_eq_false]
   intro y hy
   obtain⟨z,t,hkey⟩:=hk y (Array.mem_toList_iff.mp hy)
   simp[DictEntry.refKey,hkey]
  have a':¬es.toList.any (·.refKey)=true:=by rw[a];exact xA
  rw[if_neg a']
  exact congrArg some e
theorem V3.look(I:V3 h x dx C mA):∃od,PySem.W.InstAt h x (PySem.W.instObj C dx) C (some od)/\∀name,PySem.W.lookIn name od=some (mA name):=
 let⟨od,ho,hl⟩:=X5 I.ns
 ⟨od,⟨I.obj,rfl,rfl,ho⟩,hl⟩
section
variable{prog:Program}{w:World}{A:Around}{E:Value->Shared->Prop}{s:Shared}{K:Frag}{x dx C f:Addr}{mA:Str->Option Value}{name:Str}{v:Value}
theorem get_map{Q:Value->Shared->Prop}(X:K.In s.heap)(I:V3 s.heap x dx C mA)(hg:PySem.W.plainGet K C name=true)(hh:PySem.W.hasDictIn K C=true)
  (ha:findIn K (.ref C) name=some none) (hv:mA name=some v) (hv':PySem.W.handedIn v=true) (h:Q v {s with toks:=s.toks+1}):
  wpAny (model prog w) A (getAttr (.ref x) name expr) Q E s:=by
 obtain⟨od,J,hl⟩:=I.look
 exact PySem.W.get_value X J (PySem.W.plainGet_of hg).1 (PySem.W.findObj_own hh ha rfl (by rw[hl,hv])) hv' h
theorem aaK{Q:Value×List Value->Shared->Prop}(X:K.In s.heap)(I:V3 s.heap x dx C mA)(hg:PySem.W.plainGet K C name=true)
  (hf:findIn K (.ref C) name=some (some (.ref f))) (ht:isFn K (.ref f)=true) (hv:mA name=none) (h:Q (.ref f,[.ref x]) s):
  wpAny (model prog w) A (getMethod (.ref x) name pl) Q E s:=by
 obtain⟨od,J,hl⟩:=I.look
 exact PySem.W.method_fn X J (PySem.W.plainGet_of hg).1 (PySem.W.plainGet_of hg).2 hf (beq_iff_eq.mp ht) (by show(PySem.W.lookIn name od).map (·.isSome)=some false;rw[hl,hv];rfl) h
theorem abo{Q:Unit->Shared->Prop}(X:K.In s.heap)(I:V3 s.heap x dx C mA)
  (hs:findIn K (.ref C) "__setattr__" = some (some (.builtin "object.__setattr__"))) (hp:PySem.W.plainOver K C=true) (ht:PySem.W.takerIn K C name=some none) (hh:PySem.W.hasDictIn K C=true)
  (hw:PySem.Within mA ns) (hsz:ns.length<=sizeLine)
  (h:∀h',V3 h' x dx C (λy=>if y=name then some v else mA y)->Heap.SameBut dx s.heap h'->Q .unit {s with heap:=h',toks:=s.toks+2}):
  wpAny (model prog w) A (setAttr (.ref x) name v) Q E s:=by
 obtain⟨od,J,hl⟩:=I.look
 refine PySem.W.set_plain X J hs (PySem.W.osa_open (s:={s with toks:=s.toks+1}) (r:=none) X J hp ht λb=> ?_)
 obtain⟨cd,hc,hd'⟩:=PySem.W.any_some hh
 have hx:s.heap.get? x=some ⟨.ref C,some dx,.plain,#[]⟩:=I.obj
 refine zC (zI (zC (zC (wpAny_loadPart hx (zC (PySem.W.Looks.here (s:={s with toks:=s.toks+1}) (PySem.W.looks_clsIn X hc) ?_))))))
 rw[hd']
 refine zI (a:=some dx) (zC (zI (zC ?_)))
 refine wpAny_nsSet1 (s:={s with toks:=s.toks+1}) I.ns λh' hn2 hs2=> ?_
 obtain⟨oD,esD,epD,hoD,hdD,hcD⟩:=hn2.count (PySem.Within.cons name v hw)
 refine zC (wpAny_lookBehind hoD (by rw[hdD];exact pastItsLine_dict (yY hcD (by rw[List.length_cons];omega))) ?_)
 exact zI (h _ ⟨(hs2.2 _ (Ne.symm I.ne)).trans I.obj,hn2,I.ne⟩ hs2)
theorem aao{R:Result->Shared->Prop}(X:K.In s.heap)(hm:PySem.W.makesIn K C=true)
  (hi:findIn K (.ref C) "__init__" = some (some (.ref f))) (hf:PySem.W.typeIn K (.ref f)=some (.type "function"))
  (h:codeAny (model prog w) (A.under (.builtin "type.__call__" ⟨.ref C::vs,kw⟩)) (.call (.ref f) ⟨.ref (s.heap.objs.size+1)::vs,kw⟩) (PySem.W.InitBack (s.heap.objs.size+1) R)
   {s with heap:=(s.heap.push PySem.W.emptyDict).push (PySem.W.instObj C s.heap.objs.size)}):
  codeAny (model prog w) A (.call (.ref C) ⟨vs,kw⟩) R s:=by
 obtain⟨hh,g,d,t,os⟩:=s
 exact PySem.W.make_core (PySem.W.makes_of X hm) (PySem.W.looks_findIn X hi) (λself=>PySem.W.bind_fn X self hf) (.inl rfl) h
theorem XS{R:Result->Shared->Prop}(X:K.In s.heap)(hm:PySem.W.makesIn K C=true)
  (hi:findIn K (.ref C) "__init__" = some (some (.builtin "object.__init__")))
  (hb:∀self,PySem.W.Looks (model prog w) s.heap (bindSpecial (.builtin "object.__init__") self) (.builtin "object.__init__",[self]))
  (h:codeAny (model prog w) (A.under (.builtin "type.__call__" ⟨[.ref C],[]⟩)) (.call (.builtin "object.__init__") ⟨[.ref (s.heap.objs.size+1)],[]⟩) (PySem.W.InitBack (s.heap.objs.size+1) R)
   {s with heap:=(s.heap.push PySem.W.emptyDict).push (PySem.W.instObj C s.heap.objs.size)}):
  codeAny (model prog w) A (.call (.ref C) ⟨[],[]⟩) R s:=by
 obtain⟨hh,g,d,t,os⟩:=s
 exact PySem.W.make_core (PySem.W.makes_of X hm) (PySem.W.looks_findIn X hi) hb (.inr ⟨rfl,rfl⟩) h
end
noncomputable def yP(f:Str)(v:V):List (Str×V)->List (Str×V)
 | []=>[(f,v)]
 | (g,x)::r=>if g=f then(g,v)::r else(g,x)::yP f v r
theorem Js(f g:Str)(v:V):∀fs:List (Str×V),(yP f v fs).lookup g=if g=f then some v else fs.lookup g
 | []=>by
  show List.lookup g [(f,v)]=_
  by_cases h:g=f
  ·have hb:(g==f)=true:=beq_iff_eq.mpr h
   simp only[List.lookup,hb,if_pos h]
  ·have hb:(g==f)=false:=beq_eq_false_iff_ne.mpr h
   simp only[List.lookup,hb,if_neg h]
 | (k,x)::r=>by
  have ih:=Js f g v r
  rw[show yP f v ((k,x)::r)=(if k=f then(k,v)::r else(k,x)::yP f v r)from rfl]
  by_cases hk:k=f
  ·rw[if_pos hk]
   by_cases h:g=k
   ·have hb:(g==k)=true:=beq_iff_eq.mpr h
    simp only[List.lookup,hb,if_pos (h.trans hk)]
   ·have hb:(g==k)=false:=beq_eq_false_iff_ne.mpr h
    simp only[List.lookup,hb,if_neg (λe:g=f=>h (e.trans hk.symm))]
  ·rw[if_neg hk]
   by_cases h:g=k
   ·have hb:(g==k)=true:=beq_iff_eq.mpr h
    simp only[List.lookup,hb,if_neg (λe:g=f=>hk (h.symm.trans e))]
   ·have hb:(g==k)=false:=beq_eq_false_iff_ne.mpr h
    simp only[List.lookup,hb]
    exact ih
theorem Iz(f:Str)(v:V):∀fs:List (Str×V),f∈(yP f v fs).map (·.1)/\∀g,g∈fs.map (·.1)->g∈(yP f v fs).map (·.1)
 | []=>⟨by simp[yP],λg h=>by simp at h⟩
 | (k,x)::r=>by
  obtain⟨i1,i2⟩:=Iz f v r
  rw[show yP f v ((k,x)::r)=(if k=f then(k,v)::r else(k,x)::yP f v r)from rfl]
  by_cases hk:k=f
  ·rw[if_pos hk]
   subst hk
   exact⟨by simp,λg h=>by simpa using h⟩
  ·rw[if_neg hk]
   refine⟨?_,λg h=> ?_⟩
   ·rw[List.map_cons]
    exact yT _ i1
   ·rw[List.map_cons]at h ⊢
    rcases List.mem_cons.mp h with e | e
    ·exact List.mem_cons.mpr (.inl e)
    ·exact yT _ (i2 g e)
theorem Ju(f:Str)(v:V):∀fs:List (Str×V),(yP f v fs).length<=fs.length+1
 | []=>by simp[yP]
 | (k,x)::r=>by
  have ih:=Ju f v r
  rw[show yP f v ((k,x)::r)=(if k=f then(k,v)::r else(k,x)::yP f v r)from rfl]
  by_cases hk:k=f
  ·rw[if_pos hk,List.length_cons,List.length_cons];omega
  ·rw[if_neg hk,List.length_cons,List.length_cons];omega
theorem D_.some_of(r:D_ (some v) o):∃u,o=some u/\RelV v u:=by
 cases o with
 | none=>exact(show False from r).elim
 | some u=>exact⟨u,rfl,r⟩
theorem D_.none_of(r:D_ none o):o=none:=by
 cases o with
 | none=>rfl
 | some u=>exact(show False from r).elim
theorem Yg(r:RelV v u):PySem.W.handedIn u=true:=by
 cases v with
 | non=>cases(show u=Value.none from r);rfl
 | bl b=>cases(show u=Value.bool b from r);rfl
 | int i=>obtain⟨t,e⟩:=(show ∃t,u=Value.int i t from r);cases e;rfl
 | str x=>obtain⟨t,e⟩:=(show ∃t,u=Value.str x t from r);cases e;rfl
 | byt b=>obtain⟨t,e⟩:=(show ∃t,u=Value.bytes b t from r);cases e;rfl
 | flt b=>obtain⟨t,e⟩:=(show ∃t,u=Value.float b t from r);cases e;rfl
 | ref a=>cases(show u=Value.ref a from r);rfl
 | ty n=>cases(show u=Value.type n from r);rfl
section
variable{P:Program}{w:World}{H H':Hp}{h h':Heap}{a C dx:Addr}{fs fs':List (Str×V)}
theorem Kh(hok:yM P w H h)(e:H a=some (.ins C dx fs)):∃mA,V3 h a dx C mA/\(∀f,D_ (fs.lookup f) (mA f))/\PySem.Within mA (fs.map (·.1))/\fs.length<=1000/\H dx=some (.own a):=by
 obtain⟨d,z,ne,ob,mA,n,r,q⟩:=(show fu P w H h a (.ins C dx fs)from hok a _ e)
 exact⟨mA,⟨ob,n,ne⟩,r,q,z,d⟩
end
structure Ny(K:Frag)(C:Addr):Prop where
 pg:PySem.W.plainGet K C Str.empty=true
 hd:PySem.W.hasDictIn K C=true
 po:PySem.W.plainOver K C=true
 sa:findIn K (.ref C) "__setattr__" = some (some (.builtin "object.__setattr__"))
theorem Ny.get{K:Frag}{C:Addr}(c:Ny K C)(f:Str):PySem.W.plainGet K C f=true:=c.pg
def dM(K:Frag)(C:Addr)(f:Str):Prop:=findIn K (.ref C) f=some none
theorem dM.taker{K:Frag}{C:Addr}{f:Str}(n:dM K C f):PySem.W.takerIn K C f=some none:=by
 unfold PySem.W.takerIn
 rw[show findIn K (.ref C) f=some none from n]
 rfl
structure Meth(K:Frag)(C:Addr)(m:Str)(f:Addr):Prop where
 at_:findIn K (.ref C) m=some (some (.ref f))
 fn:isFn K (.ref f)=true
 kp:keepIn K (.ref f)=true
section
variable{X:Cx}{pins:List (Addr×Obj)}{σ:St}{H:Hp}{s:Shared}{a C dx:Addr}{fs:List (Str×V)}{f:Str}{v:V}{A:Around}{E:Value->Shared->Prop}
theorem Vt{Q:Value->Shared->Prop}(I:Inv X pins σ H s)(e:H a=some (.ins C dx fs))(c:Ny X.K C)(n:dM X.K C f)(l:fs.lookup f=some v)
  (h:∀u s',Inv X pins σ H s'->RelV v u->Q u s'):wpAny (model X.prog X.w) A (getAttr (.ref a) f b) Q E s:=by
 obtain⟨mA,O,r,_,_,_⟩:=Kh I.hok e
 obtain⟨u,hu,ru⟩:=D_.some_of (v:=v) (o:=mA f) (by rw[<-l];exact r f)
 exact get_map I.Fi O (c.get f) c.hd n hu (Yg ru) (h u _ (I.tok _) ru)
theorem MK{Q:Value×List Value->Shared->Prop}(I:Inv X pins σ H s)(e:H a=some (.ins C dx fs))(c:Ny X.K C)(k:Meth X.K C m g)(l:fs.lookup m=none)
  (h:Q (.ref g,[.ref a]) s):wpAny (model X.prog X.w) A (getMethod (.ref a) m pl) Q E s:=by
 obtain⟨mA,O,r,_,_,_⟩:=Kh I.hok e
 have hn:mA m=none:=D_.none_of (by rw[<-l];exact r m)
 exact aaK I.Fi O (c.get m) k.at_ k.fn hn h
theorem Uy{Q:Unit->Shared->Prop}(I:Inv X pins σ H s)(e:H a=some (.ins C dx fs))(c:Ny X.K C)(n:dM X.K C f)(hl:fs.length<1000)(ry:RelV y u)
  (h:∀s',Inv X pins σ (upd H a (.ins C dx (yP f y fs))) s'->Q .unit s'):wpAny (model X.prog X.w) A (setAttr (.ref a) f u) Q E s:=by
 obtain⟨mA,O,r,wi,_,ho⟩:=Kh I.hok e
 have hz:(fs.map (·.1)).length<=sizeLine:=by rw[zak,sizeLine_eq];omega
 refine abo I.Fi O c.sa c.po n.taker c.hd wi hz λh' O' sb=>h _ ?_
 have hd:∃o,h'.get? dx=some o:=let⟨o,_,_,e',_⟩:=O'.ns;⟨o,e'⟩
 refine I.write (x:=a) (e:=dx) (by rw[e];exact jI) (.inr ho) (λb q hb z=>(sb.2 b hb).trans z) hd ?_
 refine⟨by rw[aO O.ne];exact ho,?_,O.ne,O'.obj,_,O'.ns,λg=> ?_,λg hg=> ?_⟩
 ·have:=Ju f y fs;omega
 ·show D_ ((yP f y fs).lookup g) (if g=f then some u else mA g)
  rw[Js]
  by_cases q:g=f
  ·rw[if_pos q,if_pos q];exact ry
  ·rw[if_neg q,if_neg q];exact r g
 ·by_cases q:g=f
  ·rw[q];exact(Iz f y fs).1
  ·refine(Iz f y fs).2 g (wi g λz=>hg ?_)
   show(if g=f then some u else mA g)=none
   rw[if_neg q];exact z
theorem Inv.made(I:Inv X pins σ H s):Inv X pins σ (upd (upd H s.heap.objs.size (.own (s.heap.objs.size+1))) (s.heap.objs.size+1) (.ins C s.heap.objs.size []))
  {s with heap:=(s.heap.push PySem.W.emptyDict).push (PySem.W.instObj C s.heap.objs.size)}:=by
 have e1:(s.heap.push PySem.W.emptyDict).get? s.heap.objs.size=some PySem.W.emptyDict:=yB s.heap rfl
 have e2:((s.heap.push PySem.W.emptyDict).push (PySem.W.instObj C s.heap.objs.size)).get? (s.heap.objs.size+1)=some (PySem.W.instObj C s.heap.objs.size):=by
  have:=yB (s.heap.push PySem.W.emptyDict) (o:=PySem.W.instObj C s.heap.objs.size) rfl
  rwa [Heap.size_push]at this
 have e3:(s.heap.push PySem.W.emptyDict).Ns s.heap.objs.size (λ_=>none):=⟨PySem.W.emptyDict,#[],_,e1,rfl,(λe he=>absurd he (by simp)),λ_=>rfl⟩
 have I1:=I.laid (a:=s.heap.objs.size) (o:= .own (s.heap.objs.size+1)) (h':=s.heap.push PySem.W.emptyDict) (t':=s.toks) (λb u q=>zD _ q) (jS _) ⟨_,e1⟩
 refine I1.laid (a:=s.heap.objs.size+1) (o:= .ins C s.heap.objs.size []) (t':=s.toks) (λb u q=>zD _ q) (Nat.le_of_eq (Heap.size_push _ _)) ?_
 have ne:s.heap.objs.size≠s.heap.objs.size+1:=xD (Nat.lt_succ_self _)
 refine⟨by rw[aO ne,bB],Nat.zero_le _,ne,e2,λ_=>none,(Heap.Ns1.of_empty e3).at λo q=>zD _ q,λ_=>jI,λy hy=>absurd rfl hy⟩
theorem acZ{Q:Value->Shared->Prop}(hb:attributeBase e f env (eval e env)=eval e env)
  (h:wpAny (model prog w) A (eval e env) (λo s₁=>wpAny (model prog w) A (getAttr o f true) Q E s₁) E s):wpAny (model prog w) A (eval (.Attribute e f pos) env) Q E s:=
 Attribute_any_ h (by rw[arm_eval_Attribute,hb])
end
def ar3(K:Frag)(ta:TE)(f:Str):TE:=λσ H Q=>ta σ H λx H1=>∃a C dx fs v,x= .ref a/\H1 a=some (.ins C dx fs)/\Ny K C/\dM K C f/\fs.lookup f=some v/\Q v H1
def ate(K:Frag)(ta tv:TE)(f:Str):TS:=λD σ H=>tv σ H λy H1=>ta σ H1 λx H2=>∃a C dx fs,x= .ref a/\H2 a=some (.ins C dx fs)/\Ny K C/\dM K C f/\fs.length<1000/\
 D.nx σ (upd H2 a (.ins C dx (yP f y fs)))
section
variable{X:Cx}{o e value:Expr}{f:Str}{pos pos' tpos:Pos}{ta tv:TE}
theorem aeM(he:PE X e ta)(hb:attributeBase e f X.env (eval e X.env)=eval e X.env):PE X (.Attribute e f pos) (ar3 X.K ta f):=by
 intro pins s σ H Q I h
 refine acZ hb (m_ (he pins s σ H _ I h) ?_)
 rintro u s1 ⟨x,H1,I1,rx,a,C,dx,fs,v,ex,ea,c,n,l,q⟩
 subst ex
 obtain rfl:u=Value.ref a:=rx
 exact Vt I1 ea c n l λu' s2 I2 ru=>⟨v,H1,I2,ru,q⟩
theorem aeC(ha:PE X o ta)(hv:PE X value tv)(hs:swapsWith value (some (.Attribute o f pos')) pos.line X.env=pure false):PS X (.Assign [.Attribute o f pos'] value pos) (ate X.K ta tv f):=by
 intro pins s σ H D I h
 refine plainObj_wpAny_Assign_Attribute (m_ (hv pins s σ H _ I h) ?_) hs
 rintro u s1 ⟨y,H1,I1,ry,q⟩
 refine m_ (ha pins s1 σ H1 _ I1 q) ?_
 rintro ov s2 ⟨x,H2,I2,rx,a,C,dx,fs,ex,ea,c,n,l,q2⟩
 subst ex
 obtain rfl:ov=Value.ref a:=rx
 exact Uy I2 ea c n l ry λs3 I3=>⟨σ,_,I3,q2⟩
end
section
variable{X:Cx}{pins:List (Addr×Obj)}{σ:St}{H:Hp}{s:Shared}{A:Around}{E:Value->Shared->Prop}{Q:Value->Shared->Prop}{c:Value}{b:Bool}
inductive Hw (K:Frag) (H:Hp):V->Value->Prop where
 | non:Hw K H .non (.type "NoneType")
 | bl (x:Bool):Hw K H (.bl x) (.type "bool")
 | int (i:Int):Hw K H (.int i) (.type "int")
 | str (x:Str):Hw K H (.str x) (.type "str")
 | flt (x:UInt64):Hw K H (.flt x) (.type "float")
 | lst {a:Addr} {xs:List V} (e:H a=some (.lst xs)):Hw K H (.ref a) (.type "list")
 | gW {a:Addr} {o:Obj} {xs:List V} (e:H a=some (.gW o (.lst xs))):Hw K H (.ref a) (.type "list")
 | tup {a:Addr} {xs:List V} (e:H a=some (.tup xs)):Hw K H (.ref a) (.type "tuple")
 | dK {a:Addr} {kvs:List (Key×V)} (e:H a=some (.dK kvs)):Hw K H (.ref a) (.type "dict")
 | dT {a:Addr} {kvs:List (List Key×V)} (e:H a=some (.dT kvs)):Hw K H (.ref a) (.type "dict")
 | ins {a C dx:Addr} {fs:List (Str×V)} (e:H a=some (.ins C dx fs)) (cl:Ny K C) (ha:findIn K (.ref C) "__class__" = some (some (.builtin "object.__class__")))
   (hn:PySem.W.specialIn K (.builtin "object.__class__") "__get__" = some (some (.builtin "getset_descriptor.__get__"))) (htk:PySem.W.takesIn K (.builtin "object.__class__")=some true)
   (hm:PySem.W.mroIn K C (.type "object")=some true):Hw K H (.ref a) (.ref C)
theorem O7(I:Inv X pins σ H s)(rx:RelV x u)(ty:Hw X.K H x t)(e:kitOne X.K t c=some b)(h:∀tk,Q (.bool b) {s with toks:=tk}):
  wpAny (model X.prog X.w) A (call (.builtin "isinstance") [u,c]) Q E s:=by
 cases ty with
 | non=>cases(show u=Value.none from rx);exact vS PySem.W.kitx_none I.Fi jI e (λz=>nomatch z) h
 | bl y=>cases(show u=Value.bool y from rx);exact vS PySem.W.kitx_bool I.Fi jI e (λz=>nomatch z) h
 | int i=>obtain⟨t,q⟩:=(show ∃t,u=Value.int i t from rx);cases q;exact vS PySem.W.kitx_int I.Fi jI e (λz=>nomatch z) h
 | str y=>obtain⟨t,q⟩:=(show ∃t,u=Value.str y t from rx);cases q;exact vS PySem.W.kitx_str I.Fi jI e (λz=>nomatch z) h
 | flt y=>obtain⟨t,q⟩:=(show ∃t,u=Value.float y t from rx);cases q;exact vS PySem.W.kitx_float I.Fi jI e (λz=>nomatch z) h
 | @lst a xs ea=>
  cases(show u=Value.ref a from rx)
  obtain⟨_,_,n,_,h1⟩:=(show fu X.prog X.w H s.heap a (.lst xs)from I.hok a _ ea)
  exact vS PySem.W.kitx_list I.Fi ⟨_,h1,rfl⟩ e (λz=>nomatch z) h
 | @gW a ob xs ea=>
  cases(show u=Value.ref a from rx)
  obtain⟨_,_,_,n,_,h1⟩:=(show fu X.prog X.w H s.heap a (.gW ob (.lst xs))from I.hok a _ ea)
  exact vS PySem.W.kitx_list I.Fi ⟨_,h1,rfl⟩ e (λz=>nomatch z) h
 | @tup a xs ea=>
  cases(show u=Value.ref a from rx)
  obtain⟨_,_,_,p⟩:=(show fu X.prog X.w H s.heap a (.tup xs)from I.hok a _ ea)
  obtain⟨o,h1,h2,_⟩:=p
  exact vS PySem.W.kitx_tuple I.Fi ⟨o,h1,h2⟩ e (λz=>nomatch z) h
 | @dK a kvs ea=>
  cases(show u=Value.ref a from rx)
  obtain⟨_,_,vs,_,p⟩:=(show fu X.prog X.w H s.heap a (.dK kvs)from I.hok a _ ea)
  obtain⟨o,es,ep,h1,h2,_⟩:=p
  exact vS PySem.W.kitx_dict I.Fi ⟨o,h1,h2.1⟩ e (λz=>nomatch z) h
 | @dT a kvs ea=>
  cases(show u=Value.ref a from rx)
  obtain⟨_,_,xs,_,o,es,ep,h1,h2,_⟩:=(show fu X.prog X.w H s.heap a (.dT kvs)from I.hok a _ ea)
  exact vS PySem.W.kitx_dict I.Fi ⟨o,h1,h2.1⟩ e (λz=>nomatch z) h
 | @ins a C dx fs ea cl ha hn htk hm=>
  cases(show u=Value.ref a from rx)
  obtain⟨mA,O,_⟩:=Kh I.hok ea
  obtain⟨od,J,_⟩:=O.look
  exact vS (PySem.W.kitx_own (cl.get _) cl.hd ha hn htk hm) I.Fi J e (λz=>nomatch z) h
end
structure lY(k:Nat)(A:Around):Prop where
 hd:A.handled=none
 dp:A.depth+3*k+5<recursionLimit
 un:A.units+16*k+200<cLine
theorem lY.mono(r:lY k A)(h:j<=k):lY j A:=⟨r.hd,by have:=r.dp;omega,by have:=r.un;omega⟩
theorem lY.deeper(r:lY (k+1) A)(env:Env):lY k (A.deeper env):=
 ⟨r.hd,by have:=r.dp;show A.depth+1+3*k+5<_;omega,by have:=r.un;show A.units+3+16*k+200<_;omega⟩
theorem Vg{A:Around}{C:Addr}{us:List Value}{kw:List (Str×Value)}:(A.under (.builtin "type.__call__" ⟨.ref C::us,kw⟩)).depth=A.depth+1:=by
 first | rfl | simp[Around.under,Code.weight,Code.isCreation,Code.isGuard,Code.isCaller,Code.frames,Code.isFrame,guardIds]
theorem Vf{A:Around}{C:Addr}{us:List Value}{kw:List (Str×Value)}:(A.under (.builtin "type.__call__" ⟨.ref C::us,kw⟩)).units=A.units+1:=by
 first | rfl | simp[Around.under,Code.cUnits,Code.frames,Code.isFrame]
theorem lY.make(r:lY (k+1) A)(C:Addr)(us:List Value)(kw:List (Str×Value)):lY k (A.under (.builtin "type.__call__" ⟨.ref C::us,kw⟩)):=
 ⟨r.hd,by have:=r.dp;rw[Vg];omega,by have:=r.un;rw[Vf];omega⟩
theorem lY.depth(r:lY k A):A.depth<recursionLimit:=by have:=r.dp;omega
theorem lY.units(r:lY k A):A.units+64<cLine:=by have:=r.un;omega
def abi:TA:=λ_ H Q=>Q [] H
def adb(ta:TE)(tr:TA):TA:=λσ H Q=>ta σ H λx H1=>tr σ H1 λxs H2=>Q (x::xs) H2
section
variable{X:Cx}{e:Expr}{es:List Expr}{te:TE}{t:TA}{pos:Pos}
theorem Lk:PA X [] abi:=λ_ _ _ _ H Q I h=>Calls.spliced_nil ⟨[],H,I,.nil,h⟩
theorem Gn(ha:PE X e te)(hr:PA X es t)(hs:starEach (e::es) X.env=(false,eval e X.env)::starEach es X.env:=by rfl):PA X (e::es) (adb te t):=by
 intro pos pins s σ H Q I h
 rw[hs]
 show wpAny _ _ (spliced ((false,eval e X.env)::backTo pos (starEach es X.env))) _ _ s
 refine Calls.spliced_cons (m_ (ha pins s σ H _ I h) ?_)
 rintro u s1 ⟨x,H1,I1,r1,q1⟩
 exact m_ (hr pos pins s1 σ H1 _ I1 q1) λus s2 ⟨xs,H2,I2,r2,q2⟩=>⟨x::xs,H2,I2,.cons r1 r2,q2⟩
def arS(t:TA):TE:=λσ H Q=>t σ H λxs H1=>xs.length<=sizeLine/\∀p,H1 p=none->Q (.ref p) (upd H1 p (.tup xs))
def arX(t:TA):TE:=λσ H Q=>t σ H λxs H1=>xs.length<=sizeLine/\∀p,H1 p=none->Q (.ref p) (upd H1 p (.lst xs))
theorem aeF{x1}(h:PA X es t):PE X (.Tuple es x1 pos) (arS t):=by
 intro pins s σ H Q I hq
 refine wpAny_Tuple_spliced (m_ (h pos pins s σ H _ I hq) λus s1 ⟨xs,H1,I1,r,z,q⟩=>⟨by rw[<-r.length];exact z,?_⟩)
 have hf:H1 s1.heap.objs.size=none:=I1.hok.fresh (jS _)
 refine⟨.ref s1.heap.objs.size,upd H1 s1.heap.objs.size (.tup xs),I1.laid (t':=s1.toks) (λb u e=>zD _ e) (jS _) ?_,rfl,q _ hf⟩
 exact⟨z,us,r,⟨_,yB _ rfl,rfl,_,rfl⟩⟩
theorem aeK(h:PA X es t):PE X (.List es pos) (arX t):=by
 intro pins s σ H Q I hq
 refine wpAny_List_spliced (m_ (h pos pins s σ H _ I hq) λus s1 ⟨xs,H1,I1,r,z,q⟩=>⟨by rw[<-r.length];exact z,?_⟩)
 have hf:H1 s1.heap.objs.size=none:=I1.hok.fresh (jS _)
 refine⟨.ref s1.heap.objs.size,upd H1 s1.heap.objs.size (.lst xs),I1.laid (t':=s1.toks) (λb u e=>zD _ e) (jS _) ?_,rfl,q _ hf⟩
 exact⟨z,us,0,r,yB _ rfl⟩
end
abbrev Sp:=List V->Hp->VK->XK->Prop
abbrev W8:=List Env->Hp->Shared->XK->Value->Shared->Prop
structure Uc(P:Program)(w:World)(K:Frag)(mg:Str->Option Value)(base:Heap)(A:Around)(outer:List Env)(s:Shared)(H:Hp):Prop where
 frames:A.frames=some outer
 mod:Mod K mg base
 bs:∀b o,base.get? b=some o->s.heap.get? b=some o/\H b=none
 YG:base.objs.size<=s.heap.objs.size
 G7:s.heap.FunFrames base outer
 frf:∀b∈frs outer,H b=none
 hok:yM P w H s.heap
 bare:AllBare s.gens
def CE(outer:List Env)(P:Program)(w:World)(H:Hp)(s:Shared)(Q:VK)(u:Value)(s':Shared):Prop:=
 ∃v H',s'.os=s.os/\AllBare s'.gens/\Un (frs outer) [] H H' s.heap s'.heap/\yM P w H' s'.heap/\RelV v u/\Q v H'
def CR(CX:W8)(outer:List Env)(P:Program)(w:World)(H:Hp)(s:Shared)(Q:VK)(E:XK)(r:Result)(s':Shared):Prop:=
 match r with
 | .ok (.ret u)=>CE outer P w H s Q u s'
 | .ok _=>False
 | .error e=>CX outer H s E e s'
structure lg(P:Program)(w:World)(K:Frag)(mg:Str->Option Value)(base:Heap)(CX:W8)(k:Nat)(f:Addr)(fd:FuncData)(ps:List Str)(sp:Sp):Prop where
 len:∀vs H Q E,sp vs H Q E->vs.length=ps.length
 run:∀(A:Around) (outer:List Env) (s:Shared) (H:Hp) (args:Args) (us:List Value) (vs:List V) (Q:VK) (E:XK),lY k A->Uc P w K mg base A outer s H->BindsTo s fd args (ps.zip us)->Vals vs us->sp vs H Q E->
  codeAny (model P w) A (.call (.ref f) args) (CR CX outer P w H s Q E) s
theorem lg.imp{P:Program}{w:World}{K:Frag}{mg:Str->Option Value}{base:Heap}{CX:W8}{k:Nat}{f:Addr}{fd:FuncData}{ps:List Str}{sp sp':Sp}(F:lg P w K mg base CX k f fd ps sp)
  (h:∀vs H Q E,sp' vs H Q E->sp vs H Q E):lg P w K mg base CX k f fd ps sp':=
 ⟨λvs H Q E q=>F.len vs H Q E (h _ _ _ _ q),λA outer s H args us vs Q E hr he hb hv hs=>F.run A outer s H args us vs Q E hr he hb hv (h _ _ _ _ hs)⟩
theorem Uc.make{P:Program}{w:World}{K:Frag}{mg:Str->Option Value}{base:Heap}{A:Around}{outer:List Env}{s:Shared}{H:Hp}(e:Uc P w K mg base A outer s H)(C:Addr)(us:List Value)(kw:List (Str×Value)):
  Uc P w K mg base (A.under (.builtin "type.__call__" ⟨.ref C::us,kw⟩)) outer s H:=⟨by first | exact e.frames | (simpa[Around.under,Code.envs,Code.isFrame,pushEnvs]using e.frames),e.mod,e.bs,e.YG,e.G7,e.frf,e.hok,e.bare⟩
section
variable{X:Cx}{pins:List (Addr×Obj)}{σ:St}{H:Hp}{s s':Shared}
theorem Inv.env0(I:Inv X pins σ H s):Uc X.prog X.w X.K X.mg X.base X.A X.stack s H:=
 ⟨I.ok.frames,I.ok.mod,I.bs,yY I.ok.YG I.sz,I.stack,I.F_,I.hok,I.bare⟩
theorem Inv.after(I:Inv X pins σ H s)(h:CE X.stack X.prog X.w H s Q u s'):EP X pins σ Q u s':=by
 obtain⟨v,H',os,bare,un,hok,r,q⟩:=h
 obtain⟨hh,g,d,t,os'⟩:=s'
 obtain rfl:os'=s.os:=os
 exact⟨v,H',I.call (h':=hh) (g':=g) (d':=d) (t':=t) (ch:=[]) un hok bare (λb z=>absurd z (by simp)),r,q⟩
end
def Binds(K:Frag)(fd:FuncData)(ps:List Str)(ds:List Value):Prop:=
 ∀(s:Shared) (us:List Value),K.In s.heap->(us++ds).length=ps.length->BindsTo s fd ⟨us,[]⟩ (ps.zip (us++ds))
theorem Binds.all{K:Frag}{fd:FuncData}{ps:List Str}(h:∀us:List Value,us.length=ps.length->bindArgs fd ⟨us,[]⟩=pure (ps.zip us)):Binds K fd ps []:=λs us _ hl=>by
 rw[List.append_nil]at hl ⊢
 exact .of_eq (h us hl)
section
variable{X:Cx}{CX:W8}{k:Nat}{f C:Addr}{fd:FuncData}{ps:List Str}{sp:Sp}{BV:List V}{ds:List Value}{E:XK}{x m:Str}{p pos apos:Pos}{e o:Expr}{es:List Expr}{ta:TE}{t:TA}
structure Mk(K:Frag)(C f:Addr):Prop where
 makes:PySem.W.makesIn K C=true
 init:findIn K (.ref C) "__init__" = some (some (.ref f))
 fn:isFn K (.ref f)=true
 kp:keepIn K (.ref C)=true
end
structure uI(N P:List Str)(sc:Scope):Prop where
 kind:sc.kind= .function
 co:sc.isCoroutine=false
 gen:sc.isGenerator=false
 nd:N.Nodup
 pre:N.take P.length=P
 par:∀x∈P,sc.names.lookup x=some .local\/sc.names.lookup x=some .cell
 ae9:∀y∈sc.names,y.2≠ .free
theorem Pq{kindOf:Str->Option NameKind}{x:Str}:∀{binds:List (Str×Value)} {m:Str->Option Value},(∀v,(x,v)∉binds)->bindL kindOf binds m x=m x
 | [],_,_=>rfl
 | (n,v)::r,m,h=>by
  unfold bindL
  rw[Pq λw hw=>h w (yT _ hw)]
  split
  ·have:x≠n:=by rintro rfl;exact h v xB
   simp[this]
  ·rfl
theorem Pu{kindOf:Str->Option NameKind}{x:Str}:∀{binds:List (Str×Value)} {m:Str->Option Value},(∀v,(x,v)∉binds)->bindC kindOf binds m x=m x
 | [],_,_=>rfl
 | (n,v)::r,m,h=>by
  unfold bindC
  rw[Pu λw hw=>h w (yT _ hw)]
  split
  ·rfl
  ·have:x≠n:=by rintro rfl;exact h v xB
   simp[this]
theorem Pr{kindOf:Str->Option NameKind}{x:Str}:∀{P:List Str} {vs:List Value} {i:Nat} {m:Str->Option Value},P.Nodup->P[i]? = some x->vs[i]? = some v->kindOf x=some .local->
  bindL kindOf (P.zip vs) m x=some v
 | [],_,_,_,_,h,_,_=>by simp at h
 | _::_,[],_,_,_,_,h,_=>by simp at h
 | p::P,w::vs,0,m,nd,h1,h2,hk=>by
  simp at h1 h2;subst h1;subst h2
  show bindL kindOf ((p,w)::P.zip vs) m p=_
  unfold bindL
  rw[Pq λv hv=>(List.nodup_cons.mp nd).1 (List.of_mem_zip hv).1,if_pos hk]
  simp
 | p::P,w::vs,i+1,m,nd,h1,h2,hk=>by
  show bindL kindOf ((p,w)::P.zip vs) m x=_
  unfold bindL
  exact Pr (i:=i) (List.nodup_cons.mp nd).2 (by simpa using h1) (by simpa using h2) hk
theorem Px{kindOf:Str->Option NameKind}{x:Str}:∀{P:List Str} {vs:List Value} {i:Nat} {m:Str->Option Value},P.Nodup->P[i]? = some x->vs[i]? = some v->kindOf x≠some .local->
  bindC kindOf (P.zip vs) m x=some v
 | [],_,_,_,_,h,_,_=>by simp at h
 | _::_,[],_,_,_,_,h,_=>by simp at h
 | p::P,w::vs,0,m,nd,h1,h2,hk=>by
  simp at h1 h2;subst h1;subst h2
  show bindC kindOf ((p,w)::P.zip vs) m p=_
  unfold bindC
  rw[Pu λv hv=>(List.nodup_cons.mp nd).1 (List.of_mem_zip hv).1,if_neg hk]
  simp
 | p::P,w::vs,i+1,m,nd,h1,h2,hk=>by
  show bindC kindOf ((p,w)::P.zip vs) m x=_
  unfold bindC
  exact Px (i:=i) (List.nodup_cons.mp nd).2 (by simpa using h1) (by simpa using h2) hk
def start(N:List Str)(vs:List V):St:=vs.map some++List.replicate (N.length - vs.length) none
noncomputable def t7(CX:W8)(P:Program)(w:World)(K:Frag)(mg:Str->Option Value)(base:Heap)(N:List Str)(qual:Str)(scope:Scope)(f:Addr)(cd:Value)(A:Around)(outer:List Env)(s:Shared)(H:Hp)(E:XK):Cx where
 prog:=P
 w:=w
 K:=K
 mg:=mg
 base:=base
 A:=A.deeper (envOfC qual scope s.heap.objs.size f cd)
 N:=N
 s₀:=s
 H₀:=H
 env:=envOfC qual scope s.heap.objs.size f cd
 outer:=outer
 stack:=envOfC qual scope s.heap.objs.size f cd::outer
 ex:=[]
 calm:=true
 fn:=λ_=>true
 pn:=[]
 xe:=λe s'=>wpAny (model P w) (A.deeper (envOfC qual scope s.heap.objs.size f cd)) (leaving (envOfC qual scope s.heap.objs.size f cd) e) (λ_ s''=>CX outer H s E e s'') (λe' s''=>CX outer H s E e' s'') s'
theorem Tz{sc:Scope}{n:Nat}{x:Str}(h:sc.names.lookup x=some .cell):∃c,(cellsFrom n sc.names []).lookup x=some c:=by
 have q:=PySem.W.cellsFrom_some sc.names n [] (.inl h)
 exact Option.isSome_iff_exists.mp q
theorem O9{CX:W8}{P:Program}{w:World}{K:Frag}{mg:Str->Option Value}{base:Heap}{N ps:List Str}{qual:Str}{scope:Scope}{f:Addr}{cd:Value}{A:Around}{outer:List Env}{s s1:Shared}{H:Hp}{E:XK}{us:List Value}{vs:List V}
  (S:uI N ps scope) (hd:A.handled=none) (e0:Uc P w K mg base A outer s H) (hl:vs.length=ps.length) (r:Vals vs us)
  (x:InCallC s s.heap.objs.size (bindL (envOfC qual scope s.heap.objs.size f cd).kindOf (ps.zip us) λ_=>none) (cellsFrom (s.heap.objs.size+1) scope.names []) (bindC (envOfC qual scope s.heap.objs.size f cd).kindOf (ps.zip us) λ_=>none) s1):
  Inv (t7 CX P w K mg base N qual scope f cd A outer s H E) [] (start N vs) H s1:=by
 have hpl:ps.length<=N.length:=by have:=congrArg List.length S.pre;rw[List.length_take]at this;omega
 obtain⟨h1,tk,rfl,hk⟩:=x.done
 have noA:∀b:Addr,b∉(t7 CX P w K mg base N qual scope f cd A outer s H E).ex:=λb z=>absurd (show b∈([]:List Addr)from z) (by simp)
 refine⟨⟨e0.mod,S.kind,rfl,rfl,jS _,λy z c h1 h2=> ?_,λy hy=> ?_,λy c _ h=> ?_,λ_=>hd,Around.frames_deeper e0.frames,.inr ⟨rfl,rfl⟩,λb z=>absurd z (noA b),e0.bs,e0.YG,λb _ _=>noA b,λb z=>absurd z (noA b),e0.G7,e0.frf⟩,
  rfl,e0.bare,Un.kept hk,⟨_,x.toInCall.ns,λi y v h1 h2 h3=> ?_⟩,λy c h=>⟨_,x.cell y c h⟩,e0.hok.fresh (jS _),λy c h=> ?_,λp hp=>absurd (show p∈([]:List (Addr×Obj))from hp) (by simp),e0.hok.kept hk,?_⟩
 ·exact name_of_addr x.apart (PySem.mem_of_lookup h1) (PySem.mem_of_lookup h2)
 ·have hy:scope.names.lookup y=some .cell\/scope.names.lookup y=some .free:=hy
  rcases hy with hy | hy
  ·exact Tz hy
  ·exact absurd rfl (S.ae9 _ (PySem.mem_of_lookup hy))
 ·exact Nat.le_of_lt (x.above y c (PySem.mem_of_lookup h))
 ·have hi:i<vs.length:=by
   unfold start at h2
   by_cases hi:i<vs.length
   ·exact hi
   ·rw[zab (by simpa using hi)]at h2
    rw[List.getElem?_replicate]at h2
    split at h2<;>cases h2
  have ha:vs[i]? = some v:=by
   unfold start at h2
   rw[zac (by simpa using hi),zaj]at h2
   cases e:vs[i]? with
   | none=>rw[e]at h2;cases h2
   | some a=>rw[e]at h2;cases h2;rfl
  obtain⟨u,hu,rv⟩:=r.get ha
  have hp:ps[i]? = some y:=by
   rw[<-S.pre,List.getElem?_take_of_lt ()];exact h1
  have ndP:ps.Nodup:=by rw[<-S.pre];exact S.nd.sublist (List.take_sublist _ _)
  refine⟨u,rv,?_⟩
  rcases S.par y (List.mem_of_getElem? hp)with k | k
  ·exact .inl ⟨k,Pr ndP hp hu k⟩
  ·obtain⟨c,e⟩:=Tz (n:=s.heap.objs.size+1) k
   refine .inr ⟨.inl k,c,e,?_⟩
   have q:=x.cell y c e
   rw[Px ndP hp hu (by show scope.names.lookup y≠_;rw[k];decide)]at q
   exact q
 ·exact .inl (e0.hok.fresh (Nat.le_of_lt (x.above y c (PySem.mem_of_lookup h))))
 ·unfold start
  show _=N.length
  rw[List.length_append,zak,List.length_replicate]
  omega
theorem ak0{CX:W8}{P:Program}{w:World}{K:Frag}{mg:Str->Option Value}{base:Heap}{k:Nat}{f:Addr}{name qual:Str}{params:Arguments}{body:List Stmt}{scope:Scope}{dV kV doc pm cdv ct oc:Value}{an od:Option Addr}
  {osl:Array (Option Value)} {N ps:List Str} {sp:Sp} (lk:K.lookup f=some ⟨oc,od,.func (fnOf name qual params body scope dV kV doc pm an cdv ct),osl⟩) (hcd:codeIn K cdv qual=true) (S:uI N ps scope)
  (len:∀vs H Q E,sp vs H Q E->vs.length=ps.length)
  (hbody:∀(A:Around) (outer:List Env) (s:Shared) (H:Hp) (vs:List V) (Q:VK) (E:XK),lY k (A.deeper (envOfC qual scope s.heap.objs.size f cdv))->sp vs H Q E->
   ∃t,RM (t7 CX P w K mg base N qual scope f cdv A outer s H E) body t/\t {nx:=λ_ H'=>Q .non H',rt:=Q} (start N vs) H):
  lg P w K mg base CX (k+1) f (fnOf name qual params body scope dV kV doc pm an cdv ct) ps sp:=by
 refine⟨len,λA outer s H args us vs Q E hr e0 hb r hsp=> ?_⟩
 have hl:=len _ _ _ _ hsp
 have KX:K.In s.heap:=e0.mod.kin.keeps λb o e=>(e0.bs b o e).1
 have lim:s.heap.NoLimit:=e0.mod.nolimit.keeps λb o e=>(e0.bs b o e).1
 have hkind:∀y∈ps.zip us,scope.names.lookup y.1=some .local\/(scope.names.lookup y.1=some .cell/\((cellsFrom (s.heap.objs.size+1) scope.names []).lookup y.1).isSome=true):=λ⟨n,v⟩ hy=>by
  rcases S.par n (List.of_mem_zip hy).1 with q | q
  ·exact .inl q
  ·exact .inr ⟨q,PySem.W.cellsFrom_some _ _ _ (.inl q)⟩
 refine codeAny_call_function hr.depth (KX _ _ lk) rfl S.co S.gen rfl (PySem.W.codeRec_of KX hcd) (hb _ _ _ _ ?_)
 refine wpAny_newFunctionEnv_cells S.kind hkind λenv he s1 x=> ?_
 subst he
 refine⟨lim.keeps x.toInCall.keep,codeAny_func ?_⟩
 obtain⟨t,ht,hq⟩:=hbody A outer s H vs Q E (hr.deeper _) hsp
 have I:Inv (t7 CX P w K mg base N qual scope f cdv A outer s H E) [] (start N vs) H s1:=O9 S hr.hd e0 hl r x
 refine wT (ht [] s1 (start N vs) H _ I hq) (λfl s' hs=> ?_) λe s' hs=>hs
 have fin:∀{σ':St} {H':Hp} {v:V} {u:Value},Inv (t7 CX P w K mg base N qual scope f cdv A outer s H E) [] σ' H' s'->RelV v u->Q v H'->CE outer P w H s Q u s':=
  λ{σ' H' v u} J rv q=>⟨v,H',J.os,J.bare,J.base,J.hok,rv,q⟩
 cases fl with
 | ret u=>
  obtain⟨v,σ',H',J,rv,q⟩:=hs
  exact fin J rv q
 | next=>
  obtain⟨σ',H',J,q⟩:=hs
  exact fin (v:=V.non) (u:=Value.none) J rfl q
 | brk=>
  obtain⟨_,_,_,q⟩:=hs
  exact False.elim q
 | cont=>
  obtain⟨_,_,_,q⟩:=hs
  exact False.elim q
section
variable{X:Cx}{x:Str}{p pos:Pos}{e:Expr}{es:List Expr}{t:TA}{id T:String}{r:List V->Hp->VK->Prop}
def tCB(r:List V->Hp->VK->Prop)(t:TA):TE:=λσ H Q=>t σ H λvs H1=>r vs H1 Q
theorem SJ(hc:qG X (.builtin id) r)(hg:Gl X x)(hm:X.mg x=none)(hv:bootBuiltins x=some (.builtin id))(ha:PA X (e::es) t)(hn:x≠ "__name__" := by decide)(hdb:(x==("__debug__" : Str))=false:=by decide)
  (he:starEach (e::es) X.env=(false,eval e X.env)::starEach es X.env:=by rfl) (hpl:(backTo pos (starEach es X.env)).any (·.1)=false:=by rfl):PE X (.Call (.Name x p) (e::es) [] pos) (tCB r t):=by
 intro pins s σ H Q I h
 refine wpAny_Call_Name_kw (CN I hg hm hv ?_ hn hdb)
 exact PyProof.Rows.callWith_builtin1 (m_ (ha pos pins s σ H _ I h) λus s1 ⟨vs,H1,I1,r1,q1⟩=>hc pins s1 σ H1 vs us Q I1 r1 q1) he hpl
theorem Ih(hc:qG X (.type T) r)(hg:Gl X x)(hm:X.mg x=none)(hv:bootBuiltins x=some (.type T))(ha:PA X (e::es) t)(hn:x≠ "__name__" := by decide)(hdb:(x==("__debug__" : Str))=false:=by decide)
  (he:starEach (e::es) X.env=(false,eval e X.env)::starEach es X.env:=by rfl) (hpl:(backTo pos (starEach es X.env)).any (·.1)=false:=by rfl):PE X (.Call (.Name x p) (e::es) [] pos) (tCB r t):=by
 intro pins s σ H Q I h
 refine wpAny_Call_Name_kw (CN I hg hm hv ?_ hn hdb)
 exact PyProof.Rows.callWith_type1 (m_ (ha pos pins s σ H _ I h) λus s1 ⟨vs,H1,I1,r1,q1⟩=>hc pins s1 σ H1 vs us Q I1 r1 q1) he hpl
end
end L2
namespace HT
open PySem PyProof.Rows
noncomputable def lexLt:List Int->List Int->Bool
 | [],[]=>false
 | [],_::_=>true
 | _::_,[]=>false
 | x::xs,y::ys=>if x=y then lexLt xs ys else decide (x<y)
theorem Vn(x y:Int)(xs ys:List Int):lexLt (x::xs) (y::ys)=if x=y then lexLt xs ys else decide (x<y):=rfl
theorem Ob:lexLt [] []=false:=rfl
theorem Mr(y:Int)(ys:List Int):lexLt [] (y::ys)=true:=rfl
theorem Ms(x:Int)(xs:List Int):lexLt (x::xs) []=false:=rfl
theorem aaR(A:Around)(s:Shared)(a:Int)(t:Tok)(c:Int)(u:Tok):∃e,SeqAt.EqAt A s (.int a t) (.int c u) e/\(e=true↔a=c):=
 ⟨(a==c),SeqAt.EqAt.int_int a t c u,by simp⟩
theorem Z0(A:Around)(s:Shared)(a:Int)(t:Tok)(c:Int)(u:Tok)(prog:Program)(w:World)(E:Value->Shared->Prop)(Q:Value->Shared->Prop)(h:Q (.bool (decide (a<c))) s):
  wpAny (model prog w) A (richCompare .Lt (.int a t) (.int c u)) Q E s:=
 (PyProof.Rows.lt_int h:wpAny (model prog w) A (compareOp .Lt (.int a t) (.int c u)) Q E s)
section
open PySem.SeqAt
open PySem.AutoSeq1 (wpAny_loadPart')
open PySem.MeetsSeq PySem.MeetsSeq2 PySem.MeetsSeq3
theorem Nz(l b:Addr)(items items2:Array Value)(n n2:Nat)(dd dd2:Option Addr)(sl sl2:Array (Option Value))(ns ms:List Int)(hi:IntsAre items.toList ns)(hj:IntsAre items2.toList ms):
  Meets (Builtin.«tuple.__lt__» ⟨[.ref l,.ref b],[]⟩)
   (λ_ R s=>s.heap.get? l=some {cls:= .type "tuple",dict:=dd,data:= .seq items n,slots:=sl}/\s.heap.get? b=some {cls:= .type "tuple",dict:=dd2,data:= .seq items2 n2,slots:=sl2}/\
    R (.ok (.ret (.bool (lexLt ns ms)))) s):=
 .of_wp λprog w A R s h=>by
  obtain⟨hp,g,d,tk,os⟩:=s;obtain⟨hl,hb,h⟩:=h
  have f2:=AutoSeq1.sub_tuple_tuple
  have z1:items.size=ns.length:=by rw[<-hi.length];simp
  have z2:items2.size=ms.length:=by rw[<-hj.length];simp
  wp_walk using wpAny_loadPart' hl,wpAny_loadPart' hb,wpAny_forIn_list _ (λrest b s'=>b.1=none/\s'=⟨hp,g,d,tk,os⟩/\∃(vs ws:List Value) (ns' ms':List Int),rest=vs.zip ws/\
   IntsAre vs ns'/\IntsAre ws ms'/\ns'.length+items2.size=ms'.length+items.size/\R (.ok (.ret (.bool (lexLt ns' ms')))) ⟨hp,g,d,tk,os⟩) _
  case turn=>
   rintro⟨y,x⟩ rest b s' ⟨hb',rfl,vs,ws,ns',ms',hz,hvi,hwi,hlen,hR⟩
   cases hvi with
   | nil=>rw[List.zip_nil_left]at hz;cases hz
   | cons a t awx=>
    cases hwi with
    | nil=>rw[List.zip_nil_right]at hz;cases hz
    | cons c u aww=>
     rw[List.zip_cons_cons]at hz
     injection hz with hyx hrest
     injection hyx with hy hx
     subst hy hx
     rw[Vn]at hR
     simp only[List.length_cons]at hlen
     obtain⟨e,he,hiff⟩:=aaR A.in1 ⟨hp,g,d,tk,os⟩ a t c u
     refine zC (he prog w _ _ ?_)
     cases e with
     | true=>
      rw[if_pos (hiff.mp rfl)]at hR
      wp_walk
      exact⟨rfl,rfl,_,_,_,_,hrest,awx,aww,(),hR⟩
     | false=>
      rw[if_neg (λq=>absurd (hiff.mpr q) xA)]at hR
      have hri:=Z0 A.in1 ⟨hp,g,d,tk,os⟩ a t c u prog w
      wp_walk using hri
      exact⟨_,rfl,by simpa using hR⟩
  case fin=>
   rintro⟨b1,b2⟩ s' ⟨hb',rfl,vs,ws,ns',ms',hz,hvi,hwi,hlen,hR⟩
   simp only at hb'
   subst hb'
   have hv:lexLt ns' ms'=decide (items.size<items2.size):=by
    cases hvi with
    | nil=>
     cases hwi with
     | nil=>
      simp only[List.length_nil]at hlen
      rw[Ob]
      exact(zad ()).symm
     | cons c u hw=>
      simp only[List.length_nil,List.length_cons]at hlen
      rw[Mr]
      exact(zae ()).symm
    | cons a t hv=>
     cases hwi with
     | nil=>
      simp only[List.length_nil,List.length_cons]at hlen
      rw[Ms]
      exact(zad ()).symm
     | cons c u hw=>
      rw[List.zip_cons_cons]at hz
      cases hz
   rw[hv]at hR
   wp_walk
   exact⟨_,rfl,by simpa[Builtin.Tuple.tupleCompareSizes]using hR⟩
  case h=>
   exact⟨rfl,rfl,items.toList,items2.toList,ns,ms,rfl,hi,hj,(),h⟩
end
section
variable{prog:Program}{w:World}{A:Around}{E:Value->Shared->Prop}{s:Shared}
theorem Vk{Q:Value->Shared->Prop}(hl:IsTup s.heap l items)(hb:IsTup s.heap b items2)(hi:IntsAre items.toList ns)(hj:IntsAre items2.toList ms)
  (hu:A.units<cLine) (h:Q (.bool (lexLt ns ms)) s):wpAny (model prog w) A (compareOp .Lt (.ref l) (.ref b)) Q E s:=by
 obtain⟨⟨cls,dd,data,sl⟩,ho,hc,n,hd⟩:=id hl
 obtain⟨⟨cls2,dd2,data2,sl2⟩,ho2,hc2,n2,hd2⟩:=id hb
 simp only at hc hd hc2 hd2
 subst hc hd hc2 hd2
 exact richCompare_meets_room (op:= .Lt) ⟨_,ho,rfl⟩ ⟨_,ho2,rfl⟩ PySem.F.slot_tuple_lt PySem.F.entry_tuple_lt (PySem.F.args_tuple_lt_2 _ _) (Nz l b items items2 n n2 dd dd2 sl sl2 ns ms hi hj)
  ⟨ho,ho2,show Value.bool (lexLt ns ms)≠Value.notImplemented/\Q (.bool (lexLt ns ms)) s from⟨(λx=>nomatch x),h⟩⟩ hu
theorem acS{Q:Value->Shared->Prop}(ht:IsTup s.heap t vs.toArray)(hb:IsTup s.heap b ws.toArray)(hv:vs≠[])
  (h1:ws=[]->Q (.ref t) s) (h2:ws≠[]->Q (.ref s.heap.objs.size) {s with heap:=s.heap.push {cls:= .type "tuple",data:= .seq (vs++ws).toArray}})
  (hsz:vs.length+ws.length<=sizeLine):wpAny (model prog w) A (binaryOp .Add (.ref t) (.ref b)) Q E s:=by
 obtain⟨⟨cls,dd,data,sl⟩,ho,hc,n,hd⟩:=id ht
 obtain⟨⟨cls2,dd2,data2,sl2⟩,ho2,hc2,n2,hd2⟩:=id hb
 simp only at hc hd hc2 hd2
 subst hc hd hc2 hd2
 have e:vs.toArray++ws.toArray=(vs++ws).toArray:=by simp
 by_cases hw:ws=[]
 ·exact concat_meets ⟨_,ho,rfl⟩ ⟨_,ho2,rfl⟩ noFill_tuple_add seq_tuple_add PySem.F.slot_tuple_add PySem.F.entry_tuple_add (PySem.F.args_tuple_add_2 _ _)
   (tuple_addW1 t b vs.toArray ws.toArray n n2 dd dd2 sl sl2 (by simpa using hv) (by simp[hw])) ⟨ho,ho2,h1 hw⟩
 ·refine concat_meets ⟨_,ho,rfl⟩ ⟨_,ho2,rfl⟩ noFill_tuple_add seq_tuple_add PySem.F.slot_tuple_add PySem.F.entry_tuple_add (PySem.F.args_tuple_add_2 _ _)
   (tuple_addW2 t b vs.toArray ws.toArray n n2 dd dd2 sl sl2 (by simpa using hv) (by simpa using hw) (by rw[List.size_toArray,List.size_toArray];exact hsz)) ⟨ho,ho2,?_⟩
  rw[e]
  exact h2 hw
def fP(n d:Nat):Option Int->Nat
 | none=>d
 | some v=>if v<0 then(v+(n:Int)).toNat else min v.toNat n
theorem abw(n d k:Nat):fP n d (some (k:Int))=min k n:=by
 show(if(k:Int)<0 then((k:Int)+(n:Int)).toNat else min (k:Int).toNat n)=min k n
 rw[if_neg (),Int.toNat_natCast]
theorem aee(n d:Nat)(hd:d<=n)(o:Option Int):fP n d o<=n:=by
 cases o with
 | none=>exact hd
 | some v=>
  show(if v<0 then(v+(n:Int)).toNat else min v.toNat n)<=n
  by_cases hv:v<0
  ·rw[if_pos hv];omega
  ·rw[if_neg hv];exact Nat.min_le_right _ _
theorem W2(v:Int)(n d:Nat):(if v<0 then max (v+(n:Int)) 0 else min v (n:Int))=((fP n d (some v):Nat):Int):=by
 show(if v<0 then max (v+(n:Int)) 0 else min v (n:Int))=(((if v<0 then(v+(n:Int)).toNat else min v.toNat n):Nat):Int)
 by_cases hv:v<0
 ·simp only[if_pos hv];omega
 ·simp only[if_neg hv];omega
theorem VV(lo hi:Option Int)(n:Nat):Builtin.Slice.sliceAdjust lo hi 1 (n:Int)=(((fP n 0 lo:Nat):Int),((fP n n hi:Nat):Int)):=by
 have h1:¬((1:Int)<0):=()
 unfold Builtin.Slice.sliceAdjust
 simp only[h1,if_false]
 refine Prod.ext ?_ ?_
 ·cases lo with
  | none=>rfl
  | some v=>exact W2 v n 0
 ·cases hi with
  | none=>rfl
  | some v=>exact W2 v n n
theorem U5(i j:Nat):Builtin.Slice.slicePlaces (i:Int) (j:Int) 1=j - i:=by
 unfold Builtin.Slice.slicePlaces
 have h1:(1:Int) > 0:=()
 simp only[h1,if_true,Int.ediv_one]
 split<;>omega
theorem KQ{Q:Option Int->Shared->Prop}(p:IsPart v o)(h:Q o s):wpAny (model prog w) A (Builtin.Slice.slicePartIndex v) Q E s:=by
 cases p with
 | none=>exact slicePart_none h
 | int i t=>exact slicePart_int h
theorem HW{lo hi:Option Int}{n:Nat}{Q:Int×Int×Nat->Shared->Prop}(hs:s.heap.IsSliceOf sl vl vu .none)(pl:IsPart vl lo)(pu:IsPart vu hi)
  (h:Q (((fP n 0 lo:Nat):Int),1,fP n n hi - fP n 0 lo) s):wpAny (model prog w) A (Builtin.Slice.sliceApplied (.ref sl) (pure (n:Int))) Q E s:=by
 obtain⟨os,hos,hcs,hds⟩:=id hs
 unfold Builtin.Slice.sliceApplied Builtin.Slice.sliceFields
 refine zC (zC (wpAny_field hos hds (x:=vl) rfl (zC (wpAny_field hos hds (x:=vu) rfl (zC (wpAny_field hos hds (x:= .none) rfl (zI ?_)))))))
 refine zC (slicePart_none ?_)
 show wpAny _ _ (if((1:Int)==0)=true then _ else _) _ _ s
 rw[if_neg (by decide)]
 refine zC (KQ pl (zC (KQ pu (zC (zI ?_)))))
 show wpAny _ _ (match Builtin.Slice.sliceAdjust lo hi 1 (n:Int)with | (lo,hi)=>pure (lo,(1:Int),Builtin.Slice.slicePlaces lo hi 1)) _ _ s
 rw[VV lo hi n]
 show wpAny _ _ (pure (((fP n 0 lo:Nat):Int),(1:Int),Builtin.Slice.slicePlaces ((fP n 0 lo:Nat):Int) ((fP n n hi:Nat):Int) 1)) _ _ s
 rw[U5]
 exact zI h
theorem Z8(xs:Array Value)(i k:Nat):((List.range k).filterMap λ(m:Nat)=>xs[((i:Int)+(m:Int)*1).toNat]?).toArray=((xs.toList.drop i).take k).toArray:=by
 have e:(λ(m:Nat)=>xs[((i:Int)+(m:Int)*1).toNat]?)=λm=>xs[i+m]? := by
  funext m
  have:((i:Int)+(m:Int)*1).toNat=i+m:=()
  rw[this]
 rw[e]
 have:=pick_run xs i k
 rw[List.filterMap_map]at this
 have e2:((λx=>xs[x]?)∘λx=>i+x)=λm=>xs[i+m]? := rfl
 rw[e2]at this
 rw[this]
theorem G4{items:Array Value}{lo hi:Option Int}{Q:Value->Shared->Prop}(ht:IsTup s.heap t items)(hs:s.heap.IsSliceOf sl vl vu .none)(pl:IsPart vl lo)(pu:IsPart vu hi)
  (hw:¬(fP items.size 0 lo=0/\fP items.size items.size hi=items.size))
  (h:Q (.ref s.heap.objs.size) {s with heap:=s.heap.push {cls:= .type "tuple",data:= .seq ((items.toList.drop (fP items.size 0 lo)).take (fP items.size items.size hi - fP items.size 0 lo)).toArray}})
  (hsz:items.size<=sizeLine):wpAny (model prog w) A (getItem (.ref t) (.ref sl)) Q E s:=by
 have WD:sizeOk (.seq ((items.toList.drop (fP items.size 0 lo)).take (fP items.size items.size hi - fP items.size 0 lo)).toArray):=by
  show((items.toList.drop (fP items.size 0 lo)).take (fP items.size items.size hi - fP items.size 0 lo)).toArray.size<=sizeLine
  rw[List.size_toArray,List.length_take,List.length_drop,Array.length_toList]
  omega
 have hj:fP items.size items.size hi<=items.size:=aee _ _ (jS _) hi
 obtain⟨os,hos,hcs,hds⟩:=id hs
 have hTs:s.TypeIs (.ref sl) "slice" := ⟨os,hos,hcs⟩
 unfold getItem
 try with_reducible refine wpAny_holding ?_
 first | refine zC (zI ?_) | skip
 refine zC (wpAny_sequenceKey ht.typeIs (by decide) ?_)
 refine zC (wpAny_callSpecial?_slot (name:=Str.ofString "__getitem__") ht.typeIs PyProof.Rows.slot_tuple_getitem
  (vT PyProof.Rows.slot_tuple_getitem ht.typeIs entry_tuple_getitem ?_ (args_tuple_getitem _ _)))
 show wpAny _ _ (Builtin.Tuple.tupleItemsOf (.ref t) >>= _) _ _ s
 refine zC (tupleItemsOf_ ht ?_)
 refine zC (wpAny_typeOf hTs ?_)
 rw[if_pos (by decide)]
 refine zC (HW hs pl pu ?_)
 have hno:¬((((fP items.size 0 lo:Nat):Int)==0&&(1:Int)==1&&(fP items.size items.size hi - fP items.size 0 lo)==items.size)=true):=by
  intro q
  rw[Bool.and_eq_true,Bool.and_eq_true]at q
  have q1:((fP items.size 0 lo:Nat):Int)=0:=eq_of_beq q.1.1
  have q2:fP items.size items.size hi - fP items.size 0 lo=items.size:=eq_of_beq q.2
  exact hw ⟨(),()⟩
 show wpAny _ _ (if(((fP items.size 0 lo:Nat):Int)==0&&(1:Int)==1&&(fP items.size items.size hi - fP items.size 0 lo)==items.size)=true then _ else _) _ _ s
 rw[if_neg hno,Z8]
 first
  | exact zC (m:=Builtin.Tuple.tupleExact _) (wS (zI ⟨_,rfl,zI h⟩) WD)
  | exact zC (m:=Builtin.Tuple.tupleExact _) (wS (zC (zI (zI ⟨_,rfl,zI h⟩))) WD)
  | exact zC (zC (m:=Builtin.Tuple.tupleExact _) (wS (zI (zI ⟨_,rfl,zI h⟩)) WD))
  | exact zC (zC (m:=Builtin.Tuple.tupleExact _) (wS (zI ⟨_,rfl,zI h⟩) WD))
end
end HT
namespace L2
open PySem PySem.Spec PyProof.Rows
abbrev TO:=St->Hp->(Option Int->Hp->Prop)->Prop
def PO(X:Cx)(e:Option Expr)(t:TO):Prop:=
 ∀(pins:List (Addr×Obj)) (s:Shared) (σ:St) (H:Hp) (Q:Option Int->Hp->Prop),Inv X pins σ H s->t σ H Q->
  wpAny (model X.prog X.w) X.A (evalPart e X.env) (λu s'=>∃o H',Inv X pins σ H' s'/\IsPart u o/\Q o H') X.xe s
def ahj(t:TE):TO:=λσ H Q=>t σ H λx H1=>∃i,x= .int i/\Q (some i) H1
theorem intsAre_of:∀{us:List Value},Vals (ns.map V.int) us->IntsAre us ns:=by
 induction ns with
 | nil=>intro us r;rw[List.map_nil]at r;cases r;exact .nil
 | cons n ns ih=>
  intro us r
  rw[List.map_cons]at r
  cases r with
  | cons r1 r2=>
   obtain⟨t,e⟩:=r1
   subst e
   exact .cons n t (ih r2)
section
variable{X:Cx}{e:Expr}{te:TE}{lo hi:Option Expr}{tl th:TO}{pos p2:Pos}
theorem abV(h:PE X e te):PO X (some e) (ahj te):=by
 intro pins s σ H Q I hw
 rw[evalPart_some]
 refine m_ (h pins s σ H _ I hw) ?_
 rintro u s1 ⟨x,H1,I1,r1,q1⟩
 obtain⟨i,rfl,q⟩:=q1
 obtain⟨t,rfl⟩:=r1
 exact⟨some i,H1,I1,.int i t,q⟩
def SlR(X:Cx)(r:V->Option Int->Option Int->Hp->VK->Prop):Prop:=
 ∀(pins:List (Addr×Obj)) (s:Shared) (σ:St) (H:Hp) (x:V) (v vl vu:Value) (lo hi:Option Int) (sl:Addr) (Q:VK),Inv X pins σ H s->RelV x v->s.heap.IsSliceOf sl vl vu .none->IsPart vl lo->IsPart vu hi->r x lo hi H Q->
  ∃T id,typeLookup (.type T) "__getitem__" = pure (some (.builtin id))/\s.TypeIs v T/\wpAny (model X.prog X.w) X.A (getItem v (.ref sl)) (EP X pins σ Q) X.xe s
theorem SlR.or{r r':V->Option Int->Option Int->Hp->VK->Prop}(h:SlR X r)(h':SlR X r'):SlR X (λx lo hi H Q=>r x lo hi H Q\/r' x lo hi H Q):=by
 intro pins s σ H x v vl vu lo hi sl Q I rx hs pl pu q
 rcases q with q | q
 ·exact h pins s σ H x v vl vu lo hi sl Q I rx hs pl pu q
 ·exact h' pins s σ H x v vl vu lo hi sl Q I rx hs pl pu q
def tSl(r:V->Option Int->Option Int->Hp->VK->Prop)(te:TE)(tl th:TO):TE:=λσ H Q=>te σ H λx H1=>tl σ H1 λl H2=>th σ H2 λu H3=>r x l u H3 Q
theorem aaa{r:V->Option Int->Option Int->Hp->VK->Prop}(hr:SlR X r)(he:PE X e te)(hl:PO X lo tl)(hu:PO X hi th):PE X (.Subscript e (.Slice lo hi none p2) pos) (tSl r te tl th):=by
 intro pins s σ H Q I h
 refine Subscript_ (m_ (he pins s σ H _ I h) ?_)
 rintro v s1 ⟨x,H1,I1,r1,q1⟩
 refine wpAny_Slice (m_ (hl pins s1 σ H1 _ I1 q1) ?_)
 rintro vl s2 ⟨l,H2,I2,pl,q2⟩
 refine m_ (hu pins s2 σ H2 _ I2 q2) ?_
 rintro vu s3 ⟨u,H3,I3,pu,q3⟩
 rw[evalPart_none]
 refine zI ?_
 have I4:Inv X pins σ H3 {s3 with heap:=s3.heap.push {cls:= .type "slice",data:= .fields #[vl,vu,.none]}}:=I3.kept (t':=s3.toks) λb ob q=>zD _ q
 obtain⟨T,id,hT,ht,hg⟩:=hr pins {s3 with heap:=s3.heap.push {cls:= .type "slice",data:= .fields #[vl,vu,.none]}} σ H3 x v vl vu l u s3.heap.objs.size Q I4 r1 (Heap.IsSliceOf.new ..) pl pu q3
 show wpAny (model X.prog X.w) X.A (subscriptTail e (.Slice lo hi none p2) v (.ref s3.heap.objs.size)) (EP X pins σ Q) X.xe {s3 with heap:=s3.heap.push {cls:= .type "slice",data:= .fields #[vl,vu,.none]}}
 exact tail_any (ops:=[.ref s3.heap.objs.size,v]) ht hT hg (by with_unfolding_all rfl)
def Tw(xs:List V)(lo hi:Option Int):List V:=(xs.drop (HT.fP xs.length 0 lo)).take (HT.fP xs.length xs.length hi - HT.fP xs.length 0 lo)
theorem JD(xs:List V)(lo hi:Option Int):(Tw xs lo hi).length<=xs.length:=by
 unfold Tw
 rw[List.length_take,List.length_drop]
 omega
def atk(K:Frag):V->Option Int->Option Int->Hp->VK->Prop:=λx lo hi H Q=>∃a xs,x= .ref a/\zT K H a xs/\
 ¬(HT.fP xs.length 0 lo=0/\HT.fP xs.length xs.length hi=xs.length)/\∀p,H p=none->Q (.ref p) (upd H p (.tup (Tw xs lo hi)))
theorem ad4:SlR X (atk X.K):=by
 intro pins s σ H x v vl vu lo hi sl Q I rx hs pl pu h
 obtain⟨a,xs,rfl,hx,hw,q⟩:=h
 cases rx
 obtain⟨its,r,ht,hz⟩:=I.tuple hx
 have hlen:its.toArray.size=xs.length:=by rw[List.size_toArray];exact r.length.symm
 refine⟨"tuple",_,PyProof.Rows.slot_tuple_getitem.lookup,ht.typeIs,?_⟩
 refine HT.G4 ht hs pl pu (by rw[hlen];exact hw) ?_ (by rw[hlen];exact hz)
 rw[hlen]
 refine⟨.ref s.heap.objs.size,_,I.laid (t':=s.toks) (o:= .tup (Tw xs lo hi)) (λb ob q=>zD _ q) (jS _) ?_,rfl,q _ (I.hok.fresh (jS _))⟩
 exact⟨yY (JD xs lo hi) hz,_,(r.drop (HT.fP xs.length 0 lo)).take (HT.fP xs.length xs.length hi - HT.fP xs.length 0 lo),IsTup.new _ _⟩
def ato(K:Frag):R2:=λx y H Q=>∃a b ns ms,x= .ref a/\y= .ref b/\zT K H a (ns.map V.int)/\zT K H b (ms.map V.int)/\Q (.bl (HT.lexLt ns ms)) H
theorem ae1(hu:X.A.units<cLine):Bl X (compareOp .Lt) (ato X.K):=by
 intro pins s σ H x y v u Q I rx ry h
 obtain⟨a,b,ns,ms,rfl,rfl,ha,hb,q⟩:=h
 cases rx
 cases ry
 obtain⟨its,r1,p1,_⟩:=I.tuple ha
 obtain⟨its2,r2,p2,_⟩:=I.tuple hb
 have i1:IntsAre its.toArray.toList ns:=intsAre_of r1
 have i2:IntsAre its2.toArray.toList ms:=intsAre_of r2
 exact HT.Vk p1 p2 i1 i2 hu ⟨.bl (HT.lexLt ns ms),H,I,rfl,q⟩
def ahS(K:Frag):R2:=λx y H Q=>∃a b xs ys,x= .ref a/\y= .ref b/\zT K H a xs/\zT K H b ys/\xs≠[]/\xs.length+ys.length<=sizeLine/\
 (ys=[]->Q (.ref a) H)/\(ys≠[]->∀p,H p=none->Q (.ref p) (upd H p (.tup (xs++ys))))
theorem Vals.QJ(r:Vals xs us):us=[]↔xs=[]:=by
 cases r with
 | nil=>simp
 | cons _ _=>simp
theorem ab2:Bl X (binaryOp .Add) (ahS X.K):=by
 intro pins s σ H x y v u Q I rx ry h
 obtain⟨a,b,xs,ys,rfl,rfl,ha,hb,hx,hz,q1,q2⟩:=h
 cases rx
 cases ry
 obtain⟨its,r1,p1,_⟩:=I.tuple ha
 obtain⟨its2,r2,p2,_⟩:=I.tuple hb
 refine HT.acS p1 p2 (λz=>hx (r1.QJ.mp z)) (λz=>⟨.ref a,H,I,rfl,q1 (r2.QJ.mp z)⟩) (λz=> ?_) (by rw[<-r1.length,<-r2.length];exact hz)
 refine⟨.ref s.heap.objs.size,_,I.laid (t':=s.toks) (o:= .tup (xs++ys)) (λb ob q=>zD _ q) (jS _) ?_,rfl,q2 (λw=>z (r2.QJ.mpr w)) _ (I.hok.fresh (jS _))⟩
 exact⟨by rw[List.length_append];exact hz,_,r1.append r2,IsTup.new _ _⟩
end
def ixN(n:Nat)(i:Int):Option Nat:=if 0<=i then(if i<n then some i.toNat else none)else if -(n:Int)<=i then some (i+n).toNat else none
def Rv{α:Type}(xs:List α)(i:Int):Option α:=(ixN xs.length i).bind λj=>xs[j]?
theorem acy(h:ixN n i=some j):seqIndex? i n=some j/\j<n/\ -(n:Int)<=i/\i<n:=by
 unfold ixN at h
 by_cases h0:0<=i
 ·rw[if_pos h0]at h
  by_cases h1:i<n
  ·rw[if_pos h1]at h
   have e:i.toNat=j:=xI h
   exact⟨by rw[seqIndex_of h0 h1,e],(),(),h1⟩
  ·rw[if_neg h1]at h;cases h
 ·rw[if_neg h0]at h
  by_cases h1: -(n:Int)<=i
  ·rw[if_pos h1]at h
   have e:(i+n).toNat=j:=xI h
   exact⟨by rw[seqIndex_neg () h1,e],(),h1,()⟩
  ·rw[if_neg h1]at h;cases h
theorem Ru{α:Type}{xs:List α}{i:Int}{v:α}(h:Rv xs i=some v):∃j,seqIndex? i xs.length=some j/\xs[j]? = some v/\j<xs.length/\ -(xs.length:Int)<=i/\i<xs.length:=by
 unfold Rv at h
 cases e:ixN xs.length i with
 | none=>rw[e]at h;cases h
 | some j=>
  rw[e]at h
  obtain⟨h1,h2,h3,h4⟩:=acy e
  exact⟨j,h1,h,h2,h3,h4⟩
def W4(b:Expr):Prop:=∀o i,subscripted b false o i=operate [o,i] (getItem o i)
def IxR(X:Cx)(r:R2):Prop:=
 ∀(value slice:Expr) (pins:List (Addr×Obj)) (s:Shared) (σ:St) (H:Hp) (x y:V) (v u:Value) (Q:VK),Inv X pins σ H s->RelV x v->RelV y u->r x y H Q->
  subscripted slice false v u=operate [v,u] (getItem v u)->wpAny (model X.prog X.w) X.A (subscriptTail value slice v u) (EP X pins σ Q) X.xe s
def MtR(X:Cx)(id:String)(r:V->List V->Hp->VK->Prop):Prop:=
 ∀(pins:List (Addr×Obj)) (s:Shared) (σ:St) (H:Hp) (x:V) (xs:List V) (v:Value) (us:List Value) (Q:VK),Inv X pins σ H s->RelV x v->Vals xs us->r x xs H Q->
  wpAny (model X.prog X.w) X.A (call (.builtin id) (v::us)) (EP X pins σ Q) X.xe s
section
variable{X:Cx}{a b:Expr}{ta tb:TE}{pos:Pos}
theorem IxR.or(h:IxR X r)(h':IxR X r'):IxR X (λx y H Q=>r x y H Q\/r' x y H Q):=by
 intro value slice pins s σ H x y v u Q I rx ry q hs
 rcases q with q | q
 ·exact h value slice pins s σ H x y v u Q I rx ry q hs
 ·exact h' value slice pins s σ H x y v u Q I rx ry q hs
theorem aiP(hr:IxR X r)(ha:PE X a ta)(hb:PE X b tb)(hs:W4 b):PE X (.Subscript a b pos) (tOp r ta tb):=by
 intro pins s σ H Q I h
 exact Subscript_ (agG ha hb I h λv u s2 x y H2 I2 rx ry q=>hr a b pins s2 σ H2 x y v u Q I2 rx ry q (hs _ _))
def ahP(K:Frag):R2:=λx y H Q=>∃p xs i v,x= .ref p/\y= .int i/\De K H p xs/\Rv xs i=some v/\Q v H
def ahN(K:Frag):R2:=λx y H Q=>∃p xs i v,x= .ref p/\y= .int i/\zT K H p xs/\Rv xs i=some v/\Q v H
def ahO:R2:=λx y H Q=>∃z i c,x= .str z/\y= .int i/\z.length<=sizeLine/\Rv z.cps.toList i=some c/\Q (.str ⟨#[c]⟩) H
theorem acv:IxR X (ahP X.K):=by
 intro value slice pins s σ H x y v u Q I rx ry h hs
 obtain⟨p,xs,i,z,rfl,rfl,hq,he,q⟩:=h
 cases rx
 obtain⟨t,rfl⟩:=ry
 obtain⟨its,r,pl,hz⟩:=I.list hq
 obtain⟨j,h1,h2,h3,h4,h5⟩:=Ru he
 obtain⟨w,ew,rw'⟩:=r.get h2
 have hl:=r.length
 have hn:=Mq
 have fin:EP X pins σ Q w s:=⟨z,H,I,rw',q⟩
 by_cases h0:0<=i
 ·have hj:i.toNat=j:=by
   rw[seqIndex_of h0 h5]at h1
   exact xI h1
  exact item_listR pl.isList h0 () (by rw[hj];simpa using ew) fin hs
 ·have hj:(i+(its.toArray.size:Int)).toNat=j:=by
   rw[seqIndex_neg () h4]at h1
   rw[List.size_toArray,<-hl]
   exact xI h1
  exact subscriptTail_builtinR (x:=w) pl.isList.typeIs slot_list_getitem.lookup
   (wpAny_getItem_list_neg (Q:=λr s'=>r=w/\EP X pins σ Q r s') pl.isList () (by rw[List.size_toArray]<;>omega) () (by rw[hj];simpa using ew) ⟨rfl,fin⟩) hs
theorem afs:IxR X (ahN X.K):=by
 intro value slice pins s σ H x y v u Q I rx ry h hs
 obtain⟨p,xs,i,z,rfl,rfl,hq,he,q⟩:=h
 cases rx
 obtain⟨t,rfl⟩:=ry
 obtain⟨its,r,pl,hz⟩:=I.tuple hq
 obtain⟨j,h1,h2,h3,h4,h5⟩:=Ru he
 obtain⟨w,ew,rw'⟩:=r.get h2
 have hl:=r.length
 have hn:=Mq
 have fin:EP X pins σ Q w s:=⟨z,H,I,rw',q⟩
 exact subscriptTail_builtinR (x:=w) pl.typeIs slot_tuple_getitem.lookup
  (getItem_tuple (j:=j) (Q:=λr s'=>r=w/\EP X pins σ Q r s') pl () () (by rw[List.size_toArray,<-hl];exact h1) (by simpa using ew) ⟨rfl,fin⟩) hs
theorem aft:IxR X ahO:=by
 intro value slice pins s σ H x y v u Q I rx ry h hs
 obtain⟨z,i,c,rfl,rfl,hz,he,q⟩:=h
 obtain⟨t,rfl⟩:=rx
 obtain⟨t',rfl⟩:=ry
 obtain⟨j,h1,h2,h3,h4,h5⟩:=Ru he
 have hl:z.cps.toList.length=z.length:=by simp[Str.length]
 rw[hl]at h1 h4 h5
 have hn:=Mq
 exact tail_any (typeIs_str s z t) slot_str_getitem.lookup (getItem_str (c:=c) (by
  have e1:decide (i< -(2 ^ 63:Int))=false:=zad ()
  have e2:decide (i>=2 ^ 63)=false:=zad ()
  rw[e1,e2,Bool.or_false]) (by rw[h1];simpa using h2) ⟨.str ⟨#[c]⟩,H,I.tok _,⟨_,rfl⟩,q⟩) hs
theorem Qd(lo hi:Option Int)(n:Nat):(sliceBounds lo hi none n).1=((HT.fP n 0 lo:Nat):Int)/\(sliceBounds lo hi none n).2.1=((HT.fP n n hi:Nat):Int)/\(sliceBounds lo hi none n).2.2=1:=by
 refine⟨?_,?_,rfl⟩
 ·cases lo with
  | none=>simp[sliceBounds,HT.fP]
  | some i=>
   simp only[sliceBounds,HT.fP,Option.getD_none,show(1:Int) > 0 by decide,if_true]
   by_cases h:i<0
   ·simp only[h,if_true]<;>omega
   ·simp only[h,if_false]<;>omega
 ·cases hi with
  | none=>simp[sliceBounds,HT.fP]
  | some i=>
   simp only[sliceBounds,HT.fP,Option.getD_none,show(1:Int) > 0 by decide,if_true]
   by_cases h:i<0
   ·simp only[h,if_true]<;>omega
   ·simp only[h,if_false]<;>omega
theorem NQ(its:List Value)(lo hi:Option Int):slicePick its.toArray lo hi none=((its.drop (HT.fP its.length 0 lo)).take (HT.fP its.length its.length hi - HT.fP its.length 0 lo)).toArray:=by
 obtain⟨h1,h2,h3⟩:=Qd lo hi its.toArray.size
 unfold slicePick
 rw[h1,h2,h3]
 simp only[sliceRange_one,pick_run,List.size_toArray]<;>rfl
def atm(K:Frag):V->Option Int->Option Int->Hp->VK->Prop:=λx lo hi H Q=>∃a xs,x= .ref a/\De K H a xs/\∀p,H p=none->Q (.ref p) (upd H p (.lst (Tw xs lo hi)))
theorem abl:SlR X (atm X.K):=by
 intro pins s σ H x v vl vu lo hi sl Q I rx hs pl pu h
 obtain⟨a,xs,rfl,hx,q⟩:=h
 cases rx
 obtain⟨its,r,ht,hz⟩:=I.list hx
 have hlen:=r.length
 refine⟨"list",_,slot_list_getitem.lookup,ht.isList.typeIs,?_⟩
 refine wpAny_getItem_list_slice ht.isList hs pl pu .none (by simp) ?_ (by rw[List.size_toArray]<;>omega)
 rw[NQ,<-hlen]
 refine⟨.ref s.heap.objs.size,_,I.laid (t':=s.toks) (o:= .lst (Tw xs lo hi)) (λb ob q=>zD _ q) (jS _) ?_,rfl,q _ (I.hok.fresh (jS _))⟩
 exact⟨yY (JD xs lo hi) hz,_,0,(r.drop (HT.fP xs.length 0 lo)).take (HT.fP xs.length xs.length hi - HT.fP xs.length 0 lo),yB _ rfl⟩
noncomputable def Em:V->Bool
 | .non=>true
 | .bl _=>true
 | .int _=>true
 | .str _=>true
 | _=>false
noncomputable def eqV:V->V->Bool
 | .non,.non=>true
 | .bl a,.bl b=>a==b
 | .bl a,.int b=>(if a then 1 else 0)==b
 | .int a,.bl b=>a==(if b then 1 else 0)
 | .int a,.int b=>a==b
 | .str a,.str b=>a==b
 | _,_=>false
theorem afD(ry:RelV y u)(rx:RelV x v)(fy:Em y=true)(fx:Em x=true):SeqAt.EqAt A s u v (eqV y x):=by
 cases y with
 | non=>
  cases ry
  cases x with
  | non=>cases rx;exact SeqAt.EqAt.same _
  | bl b=>cases rx;exact SeqAt.EqAt.none_bool b
  | int b=>obtain⟨t,rfl⟩:=rx;exact SeqAt.EqAt.none_int b t
  | str b=>obtain⟨t,rfl⟩:=rx;exact SeqAt.EqAt.none_str b t
  | _=>exact absurd (show false=true from fx) xA
 | bl a=>
  cases ry
  cases x with
  | non=>cases rx;exact SeqAt.EqAt.bool_none a
  | bl b=>cases rx;exact SeqAt.EqAt.bool_bool a b
  | int b=>obtain⟨t,rfl⟩:=rx;exact SeqAt.EqAt.bool_int a b t
  | str b=>obtain⟨t,rfl⟩:=rx;exact SeqAt.EqAt.bool_str a b t
  | _=>exact absurd (show false=true from fx) xA
 | int a=>
  obtain⟨t',rfl⟩:=ry
  cases x with
  | non=>cases rx;exact SeqAt.EqAt.int_none a t'
  | bl b=>cases rx;exact SeqAt.EqAt.int_bool a t' b
  | int b=>obtain⟨t,rfl⟩:=rx;exact SeqAt.EqAt.int_int a t' b t
  | str b=>obtain⟨t,rfl⟩:=rx;exact SeqAt.EqAt.int_str a t' b t
  | _=>exact absurd (show false=true from fx) xA
 | str a=>
  obtain⟨t',rfl⟩:=ry
  cases x with
  | non=>cases rx;exact SeqAt.EqAt.str_none a t'
  | bl b=>cases rx;exact SeqAt.EqAt.str_bool a t' b
  | int b=>obtain⟨t,rfl⟩:=rx;exact SeqAt.EqAt.str_int a t' b t
  | str b=>obtain⟨t,rfl⟩:=rx;exact SeqAt.EqAt.str_str a t' b t
  | _=>exact absurd (show false=true from fx) xA
 | _=>exact absurd (show false=true from fy) xA
def eqU(x:V)(u:Value):Bool:=match u with
 | .none=>eqV .non x
 | .bool b=>eqV (.bl b) x
 | .int i _=>eqV (.int i) x
 | .str z _=>eqV (.str z) x
 | _=>false
theorem aaO(r:RelV y u)(f:Em y=true):eqU x u=eqV y x:=by
 cases y with
 | non=>cases r;rfl
 | bl b=>cases r;rfl
 | int i=>obtain⟨t,rfl⟩:=r;rfl
 | str z=>obtain⟨t,rfl⟩:=r;rfl
 | _=>exact absurd (show false=true from f) xA
theorem Rw:∀{xs:List V} {us:List Value},Vals xs us->xs.all Em=true->us.any (eqU x)=xs.any λy=>eqV y x
 | _,_,.nil,_=>rfl
 | y::xs,u::us,.cons r t,f=>by
  rw[List.all_cons,Bool.and_eq_true]at f
  rw[List.any_cons,List.any_cons,aaO r f.1,Rw t f.2]
theorem Mg(rx:RelV x v)(fx:Em x=true):∀{xs:List V} {us:List Value},Vals xs us->xs.all Em=true->∀u∈us,SeqAt.EqAt A s u v (eqU x u)
 | _,_,.nil,_=>λu hu=>by cases hu
 | y::xs,u::us,.cons r t,f=>λu' hu=>by
  rw[List.all_cons,Bool.and_eq_true]at f
  rcases List.mem_cons.mp hu with rfl | hu
  ·rw[aaO r f.1];exact afD r rx f.1 fx
  ·exact Mg rx fx t f.2 u' hu
def inV(x:V)(xs:List V):Bool:=xs.any λy=>eqV y x
def rIn(K:Frag)(neg:Bool):R2:=λx y H Q=>∃p xs,y= .ref p/\(De K H p xs\/zT K H p xs)/\Em x=true/\xs.all Em=true/\Q (.bl (if neg then !inV x xs else inV x xs)) H
theorem XJ:Bl X (compareOp .In) (rIn X.K false):=by
 intro pins s σ H x y v u Q I rx ry h
 obtain⟨p,xs,rfl,hq,fx,fs,q⟩:=h
 cases ry
 rcases hq with hq | hq
 ·obtain⟨its,r,pl,hz⟩:=I.list hq
  refine SeqAt.in_listAt (eqU x) pl.isList (λw hw=>Mg rx fx r fs w (by simpa using hw)) ⟨.bl _,H,I,rfl,?_⟩
  rw[show its.toArray.any (eqU x)=its.any (eqU x) by simp,Rw r fs]
  exact q
 ·obtain⟨its,r,pl,hz⟩:=I.tuple hq
  refine SeqAt.in_tupleAt (eqU x) pl (λw hw=>Mg rx fx r fs w (by simpa using hw)) ⟨.bl _,H,I,rfl,?_⟩
  rw[show its.toArray.any (eqU x)=its.any (eqU x) by simp,Rw r fs]
  exact q
theorem Rn:qG X (.builtin "len") (λxs H Q=>∃p ys,xs=[.ref p]/\(De X.K H p ys\/zT X.K H p ys)/\Q (.int ys.length) H):=by
 intro pins s σ H xs us Q I r h
 obtain⟨p,ys,rfl,hq,q⟩:=h
 obtain⟨u,rfl,rx⟩:=vals1 r
 cases rx
 have hn:=Mq
 rcases hq with hq | hq
 ·obtain⟨its,r',pl,hz⟩:=I.list hq
  have hlen:=r'.length
  exact Calls.call_len_list pl.isList (by simp only[List.size_toArray]<;>omega) ⟨.int ys.length,H,I.tok _,⟨s.toks+1,by rw[List.size_toArray,hlen]⟩,q⟩
 ·obtain⟨its,r',pl,hz⟩:=I.tuple hq
  have hlen:=r'.length
  exact len_tuple pl (by simp only[List.size_toArray]<;>omega) ⟨.int ys.length,H,I.tok _,⟨s.toks+1,by rw[List.size_toArray,hlen]⟩,q⟩
theorem Rm:qG X (.builtin "len") (λxs H Q=>∃z,xs=[.str z]/\z.length<=sizeLine/\Q (.int z.length) H):=by
 intro pins s σ H xs us Q I r h
 obtain⟨z,rfl,hz,q⟩:=h
 obtain⟨u,rfl,t,rfl⟩:=vals1 r
 have hn:=Mq
 exact len_str () ⟨.int z.length,H,I.tok _,⟨_,rfl⟩,q⟩
theorem qG.or{r r':List V->Hp->VK->Prop}(h:qG X f r)(h':qG X f r'):qG X f (λxs H Q=>r xs H Q\/r' xs H Q):=by
 intro pins s σ H xs us Q I rs q
 rcases q with q | q
 ·exact h pins s σ H xs us Q I rs q
 ·exact h' pins s σ H xs us Q I rs q
theorem Rk:qG X (.type "list") (λxs H Q=>∃p ys,xs=[.ref p]/\(De X.K H p ys\/zT X.K H p ys)/\∀l,H l=none->Q (.ref l) (upd H l (.lst ys))):=by
 intro pins s σ H xs us Q I r h
 obtain⟨p,ys,rfl,hq,q⟩:=h
 obtain⟨u,rfl,rx⟩:=vals1 r
 cases rx
 have fin:∀(its:List Value),Vals ys its->ys.length<=sizeLine->∀(h':Heap) (c':Nat),(∀b o',s.heap.get? b=some o'->h'.get? b=some o')->
   h'.get? s.heap.objs.size=some {cls:= .type "list",dict:=none,data:= .seq its.toArray c',slots:= #[]}->EP X pins σ Q (.ref s.heap.objs.size) {s with heap:=h'}:=λits r' hz h' c' kp e=>
  ⟨.ref s.heap.objs.size,_,I.laid (t':=s.toks) kp (jS _) (show fu X.prog X.w _ h' _ (.lst ys)from⟨hz,its,c',r',e⟩),rfl,q _ (I.hok.fresh (jS _))⟩
 rcases hq with hq | hq
 ·obtain⟨its,r',pl,hz⟩:=I.list hq
  have hlen:=r'.length
  obtain⟨o,ho,hc,n,hd⟩:=pl.isList
  exact call_list_seq p (.inl rfl) ho hc hd (λh' c' kp e=>fin its r' hz h' c' kp e) (by simp only[List.size_toArray]<;>omega)
 ·obtain⟨its,r',pl,hz⟩:=I.tuple hq
  have hlen:=r'.length
  obtain⟨o,ho,hc,n,hd⟩:=pl
  exact call_list_seq p (.inr rfl) ho hc hd (λh' c' kp e=>fin its r' hz h' c' kp e) (by simp only[List.size_toArray]<;>omega)
theorem Oi:qG X (.type "tuple") (λxs H Q=>∃p ys,xs=[.ref p]/\((De X.K H p ys/\∀l,H l=none->Q (.ref l) (upd H l (.tup ys)))\/(zT X.K H p ys/\Q (.ref p) H))):=by
 intro pins s σ H xs us Q I r h
 obtain⟨p,ys,rfl,h⟩:=h
 obtain⟨u,rfl,rx⟩:=vals1 r
 cases rx
 rcases h with⟨hq,q⟩ | ⟨hq,q⟩
 ·obtain⟨its,r',pl,hz⟩:=I.list hq
  have hlen:=r'.length
  refine call_tuple_list pl.isList (λh' kp=> ?_) (by simp only[List.size_toArray]<;>omega)
  have I1:Inv X pins σ H {s with heap:=h'}:=I.kept (t':=s.toks) kp
  have I2:Inv X pins σ (upd H h'.objs.size (.tup ys)) {s with heap:=h'.push {cls:= .type "tuple",data:= .seq its.toArray}}:=
   I1.laid (t':=s.toks) (λb o e=>zD _ e) (jS _) (show fu X.prog X.w _ _ _ (.tup ys)from⟨hz,its,r',IsTup.new _ _⟩)
  exact⟨.ref h'.objs.size,_,I2,rfl,q _ (I1.hok.fresh (jS _))⟩
 ·obtain⟨its,r',pl,hz⟩:=I.tuple hq
  exact call_tuple_same pl ⟨.ref p,H,I,rfl,q⟩
def tyV(K:Frag)(T:String)(x:V)(H:Hp):Prop:=match x with
 | .str _=>T= "str"
 | .int _=>T= "int"
 | .ref p=>(T= "list" /\ ∃xs,De K H p xs)\/(T= "tuple" /\ ∃o,K.lookup p=some o/\o.cls= .type "tuple" /\ o.dict=none)\/
   (T= "dict" /\ ((∃kvs,H p=some (.dK kvs))\/∃kvs,H p=some (.dT kvs)))\/(T= "set" /\ ∃S n,H p=some (.set S n))
 | _=>False
theorem Y6(I:Inv X pins σ H s)(r:RelV x v)(ty:tyV X.K T x H):
  s.TypeIs v T/\∀a,v= .ref a->∃ob,s.heap.get? a=some ob/\ob.dict=none:=by
 cases x with
 | str z=>
  obtain⟨t,rfl⟩:=r
  cases(show T= "str" from ty)
  exact⟨typeIs_str s z t,λ_ e=>nomatch e⟩
 | int i=>
  obtain⟨t,rfl⟩:=r
  cases(show T= "int" from ty)
  exact⟨typeIs_int s i t,λ_ e=>nomatch e⟩
 | ref p=>
  cases r
  rcases ty with⟨rfl,xs,hq⟩ | ⟨rfl,o,hk,hc,hd⟩ | ⟨rfl,hk⟩ | ⟨rfl,S,n,hk⟩
  ·obtain⟨its,_,pl,_⟩:=I.list hq
   refine⟨pl.isList.typeIs,λa e=> ?_⟩
   cases e
   obtain⟨o,n,e,c,hd,_⟩:=pl
   exact⟨o,e,hd⟩
  ·refine⟨⟨o,I.Fi p o hk,hc⟩,λa e=> ?_⟩
   cases e
   exact⟨o,I.Fi _ o hk,hd⟩
  ·have z:∃o,s.heap.get? p=some o/\o.ExactDict:=by
    rcases hk with⟨kvs,hk⟩ | ⟨kvs,hk⟩
    ·obtain⟨_,_,_,_,o,_,_,e,ex,_⟩:=I.hok p _ hk
     exact⟨o,e,ex⟩
    ·obtain⟨_,_,_,_,o,_,_,e,ex,_⟩:=I.hok p _ hk
     exact⟨o,e,ex⟩
   obtain⟨o,e,ex⟩:=z
   refine⟨⟨o,e,ex.1⟩,λa e2=> ?_⟩
   cases e2
   exact⟨o,e,ex.2.1⟩
  ·obtain⟨o,_,_,_,e,ex,_⟩:=I.hok p _ hk
   refine⟨⟨o,e,ex.1⟩,λa e2=> ?_⟩
   cases e2
   exact⟨o,e,ex.2.1⟩
 | _=>exact False.elim ty
def ar5(K:Frag)(T:String)(r:V->List V->Hp->VK->Prop)(to:TE):TE:=λσ H Q=>to σ H λx H1=>tyV K T x H1/\r x [] H1 Q
def tBM(K:Frag)(T:String)(r:V->List V->Hp->VK->Prop)(to:TE)(t:TA):TE:=λσ H Q=>to σ H λx H1=>tyV K T x H1/\t σ H1 λxs H2=>r x xs H2 Q
variable{o e:Expr}{es:List Expr}{to:TE}{t:TA}{name:Str}{apos cpos:Pos}{T id:String}{r:V->List V->Hp->VK->Prop}
theorem U9(pa:PlainAttrs T)(slot:Slot T name id)(hty:typeOf (.builtin id)=pure (.type "method_descriptor"))(hm:MtR X id r)(ho:PE X o to)
  (hbase:attributeBase o name X.env (eval o X.env)=eval o X.env:=by rfl) (hline:(apos.endLine==cpos.line)=true:=by rfl):PE X (.Call (.Attribute o name apos) [] [] cpos) (ar5 X.K T r to):=by
 intro pins s σ H Q I h
 refine wpAny_Call_method0_late hbase hline (m_ (ho pins s σ H _ I h) ?_)
 rintro v s1 ⟨x,H1,I1,r1,ty,q1⟩
 obtain⟨h1,h2⟩:=Y6 I1 r1 ty
 exact⟨T,id,pa,slot,hty,h1,h2,Calls.callWith_builtin rfl (PySem.evalArgs_none (hm pins s1 σ H1 x [] v [] Q I1 r1 .nil q1))⟩
theorem ado(pa:PlainAttrs T)(slot:Slot T name id)(hty:typeOf (.builtin id)=pure (.type "method_descriptor"))(hm:MtR X id r)(ho:PE X o to)(ha:PA X (e::es) t)
  (hbase:attributeBase o name X.env (eval o X.env)=eval o X.env:=by rfl)
  (hfew:((backTo cpos (starEach (e::es) X.env)).all (λx=> !x.1)&&(backToKw cpos (keywordEach [] X.env)).all (λx=>x.1.isSome)
   && decide ((e::es).length+([]:List Keyword).length+(if([]:List Keyword).isEmpty then 0 else 1)<30))=true:=by rfl)
  (hline:(apos.endLine==cpos.line)=true:=by rfl) (hs:starEach (e::es) X.env=(false,eval e X.env)::starEach es X.env:=by rfl) (hplain:(backTo cpos (starEach es X.env)).any (·.1)=false:=by rfl):
  PE X (.Call (.Attribute o name apos) (e::es) [] cpos) (tBM X.K T r to t):=by
 intro pins s σ H Q I h
 refine wpAny_Call_method_late hbase hfew hline rfl (m_ (ho pins s σ H _ I h) ?_)
 rintro v s1 ⟨x,H1,I1,r1,ty,q1⟩
 obtain⟨h1,h2⟩:=Y6 I1 r1 ty
 refine⟨T,id,pa,slot,hty,h1,h2,?_⟩
 have hA:=ha cpos pins s1 σ H1 _ I1 q1
 rw[hs]at hA ⊢
 refine Calls.callWith_builtin (by show(false||(backTo cpos (starEach es X.env)).any (·.1))=false;rw[hplain]<;>rfl) (Calls.evalArgs_plain ?_)
 exact m_ hA λus s2 ⟨vs,H2,I2,r2,q2⟩=>hm pins s2 σ H2 x vs v us Q I2 r1 r2 q2
end
def MtM(X:Cx)(id:String)(r:V->List V->Hp->VK->Prop):Prop:=
 ∀(pins:List (Addr×Obj)) (s:Shared) (σ:St) (H:Hp) (x:V) (xs:List V) (v:Value) (us:List Value) (Q:VK),Inv X pins σ H s->RelV x v->Vals xs us->r x xs H Q->
  wpAny (model X.prog X.w) X.A (call (.builtin id) (v::us)) (EP X pins σ Q) X.xe s
theorem Vals.one:∀{x:V} {us:List Value},Vals [x] us->∃u,us=[u]/\RelV x u
 | _,_,.cons r .nil=>⟨_,rfl,r⟩
section
variable{X:Cx}{pins:List (Addr×Obj)}{σ:St}{H:Hp}{s:Shared}{l b:Addr}{xs ys zs:List V}
theorem Inv.avM{its its':List Value}{n:Nat}{f:Array Value->Array Value}{t':Nat}(I:Inv X pins σ H s)(hH:H l=some (.lst xs))
  (e:s.heap.get? l=some {cls:= .type "list",data:= .seq its.toArray n}) (hf:f its.toArray=its'.toArray) (hv:Vals ys its') (hz:ys.length<=sizeLine):
  Inv X pins σ (upd H l (.lst ys)) {s with heap:=s.heap.update l (Obj.mapSeq f),toks:=t'}:=by
 have q:=PySem.IsL.update e f
 rw[hf]at q
 refine I.write (x:=l) (e:=l) (by rw[hH];exact trivial) (.inl rfl) (λb' u hb hu=>(xL s.heap (Obj.mapSeq f) (Ne.symm hb)).trans hu) ⟨_,q⟩ ?_
 exact⟨hz,its',_,hv,q⟩
theorem Inv.avN(I:Inv X pins σ H s)(hv:Vals ys its)(hz:ys.length<=sizeLine):
  Inv X pins σ (upd H s.heap.objs.size (.lst ys)) {s with heap:=s.heap.push {cls:= .type "list",data:= .seq its.toArray},toks:=t'}:=
 I.laid (λ_ _ q=>zD _ q) (jS _) ⟨hz,its,0,hv,yB _ rfl⟩
theorem Inv.fresh(I:Inv X pins σ H s):H s.heap.objs.size=none:=I.hok.fresh (jS _)
theorem Inv.acn(I:Inv X pins σ H s)(hH:H l=some (.lst xs)):xs.length<=sizeLine/\∃(its:List Value) (n:Nat),Vals xs its/\xs.length=its.length/\s.heap.get? l=some {cls:= .type "list",data:= .seq its.toArray n}:=by
 obtain⟨z,its,n,r,e⟩:=I.hok l _ hH
 exact⟨z,its,n,r,r.length,e⟩
end
section
variable{X:Cx}
def Wl:V->List V->Hp->VK->Prop:=λx vs H Q=>∃l xs y,x= .ref l/\vs=[y]/\H l=some (.lst xs)/\xs.length<sizeLine/\Q .non (upd H l (.lst (xs++[y])))
theorem O1:MtM X "list.append" Wl:=by
 intro pins s σ H x vs v us Q I rx rv h
 obtain⟨l,xs,y,rfl,rfl,hH,hz,q⟩:=h
 cases rx
 obtain⟨u,rfl,ru⟩:=rv.one
 obtain⟨z,its,n,r,hl,e⟩:=I.acn hH
 refine call_meets F.slot_list_append ⟨_,e,rfl⟩ F.entry_list_append (F.args_list_append_2 _ _) (PySem.list_append l its.toArray n u (by rw[List.size_toArray];omega)) ⟨e,?_⟩
 refine⟨.non,_,I.avM (its':=its++[u]) hH e (by simp) (r.append (.cons ru .nil)) ?_,rfl,q⟩
 rw[List.length_append,List.length_singleton]
 omega
def atq:R2:=λx y H Q=>∃l b xs zs,x= .ref l/\y= .ref b/\H l=some (.lst xs)/\H b=some (.lst zs)/\xs.length+zs.length<=sizeLine/\∀p,H p=none->Q (.ref p) (upd H p (.lst (xs++zs)))
theorem ae5:Bl X (binaryOp .Add) atq:=by
 intro pins s σ H x y v u Q I rx ry h
 obtain⟨l,b,xs,zs,rfl,rfl,hH,hB,hz,q⟩:=h
 cases rx
 cases ry
 obtain⟨z,its,n,r,hl,e⟩:=I.acn hH
 obtain⟨z2,its2,n2,r2,hl2,e2⟩:=I.acn hB
 refine PySem.P.add_list e e2 ?_ (by rw[List.size_toArray,List.size_toArray];omega)
 have ea:its.toArray++its2.toArray=(its++its2).toArray:=by simp
 rw[ea]
 exact⟨.ref _,_,I.avN (t':=s.toks) (r.append r2) (by rw[List.length_append];omega),rfl,q _ I.fresh⟩
end
end L2
namespace Att
open PySem PySem.W PySem.Calls PyProof.Rows
theorem JZ:∀(ns:List Int) (vs:List Value),WellAll P h vs (ns.map WData.int)->IntsAre vs ns:=by
 intro ns
 induction ns with
 | nil=>
  intro vs w
  rw[List.map_nil]at w
  cases w
  exact .nil
 | cons n ns ih=>
  intro vs w
  rw[List.map_cons]at w
  cases w with
  | cons a b=>
   cases a
   exact .cons _ _ (ih _ b)
theorem Xi{l:OpenLaw}{n:Nat}(hn:l.most=some n){P:Params}{h:Heap}{args:List WData}{vals:List Value}
  (hpre:l.row.toRowW.claim.pre args=true) (hwl:WellAll P h vals args):
  ∃a vs ns,vals=[Value.ref a]/\args=[WData.list (ns.map WData.int)]/\h.get? a=some {cls:= .type "list",data:= .seq vs.toArray}/\IntsAre vs ns/\ns.length<=n:=by
 have hsh:WShape.hasAll [] args [.list .int]=true:=(pre_splitW hpre).1
 have hc:l.pre.holds [] {args:=args}=true:=(pre_splitW hpre).2
 obtain⟨d,r,rfl,h1,h2⟩:=hasAllW_cons hsh
 obtain rfl:=hasAllW_nil h2
 obtain⟨xs,rfl,h3⟩:=hasW_list h1
 obtain⟨ns,rfl⟩:=items_int h3
 have hlen:ns.length<=n:=by
  unfold OpenLaw.pre at hc
  have h4:(WTm.not (.lt (.lit (.int (n:Int))) (.len (.arg 0)))).holds [] {args:=[.list (ns.map .int)]}=true:=by
   have h4:=(holds_andW hc).1
   rw[hn]at h4
   exact h4
  have h5:=condW_of h4 (w_not (w_lt w_lit (w_len_list (w_arg rfl))))
  rw[zak]at h5
  refine Nat.le_of_not_lt λq=> ?_
  have q':(n:Int)<((ns.length:Nat):Int):=()
  first
   | (rw[zae q']at h5;exact absurd h5 (by decide))
   | (simp at h5;omega)
 cases hwl with
 | cons w1 w2=>
  cases w2
  cases w1 with
  | list ho hall=>exact⟨_,_,ns,rfl,rfl,ho,JZ ns _ hall,hlen⟩
theorem Xr(l:OpenLaw)(args:List WData):l.row.toRowW.claim.post args (.bool true) args=true:=
 postW_of (r:=l.row.toRowW) (X:=(true==true))
  (show WShape.has [] (.bool true) .bool=true by first | rfl | decide | simp[WShape.has,WShape.arms,WShape.armsAll])
  (show(WTm.eq .res (.lit (.bool true))).value [] {args:=args,res:=some (.bool true),after:=args}=some (.bool (true==true))from w_eq_bool (w_res rfl) w_lit) rfl
theorem TY{l:OpenLaw}{n:Nat}{q:Program}{loose:List Str}{XP:(Str->Option Value)->Heap->Prop}{YP:World->Heap->Prop}{d:DefRec}
  (hn:l.most=some n) (hdf:d.params.defaults=[])
  (call:∀(w:World) (s₀ s₁:Shared) (mg mb:Str->Option Value) (fa:Addr) (o:Obj) (pm cd doc:Value) (a:Addr) (vs:List Value) (ns:List Int),
   Ground q loose [] XP w s₀ mg mb s₁.heap->YP w s₁.heap->
   s₁.heap.get? fa=some o->o.data= .func (docDef d.name d.params d.body d.scope pm cd doc)->s₁.heap.CodeRec cd d.name->mg d.name=some (.ref fa)->
   s₁.heap.get? a=some {cls:= .type "list",data:= .seq vs.toArray}->IntsAre vs ns->ns.length<=n->s₁.gens= #[]->
   codeAny (model l.prog w) callerA (.call (.ref fa) ⟨[.ref a],[]⟩) (λr s'=>r= .ok (.ret (.bool true))/\OldK s₁.heap s'.heap/\s'.os=s₁.os/\AllBare s'.gens) s₁):
  WalkO q loose XP YP l.row.toRowW d [] (λf vs=>PySem.call f vs):=by
 intro w s₀ s₁ mg mb G Y fa o pm cd doc dV kV ho hd hcd hD hmg hg args vals as hpre hlay hrd hwl hlo
 obtain rfl:dV= .none:=Dflts.none hD hdf
 obtain rfl:kV= .none:=Dflts.noKw hD
 obtain⟨a,vs,ns,rfl,rfl,hobj,hints,hlen⟩:=Xi hn hpre hwl
 refine enter_call (codeAny_mono (call w s₀ s₁ mg mb fa o pm cd doc a vs ns G Y ho (fd_plain hd) hcd hmg hobj hints hlen hg) λr s' hq=> ?_)
 obtain⟨rfl,h2,h3,h4⟩:=hq
 exact⟨.inl ⟨.bool true,.bool true,[],rfl,λ_=>rfl,.bool true,Xr l _,λ_=>⟨List.Pairwise.nil,λ_ hm=>(nomatch hm)⟩⟩,h2,h3,h4⟩
end Att
namespace L2
open PySem PySem.Spec PyProof.Rows
theorem HF:∀{vs:List Value} {ns:List Int},IntsAre vs ns->Vals (ns.map V.int) vs
 | _,_,.nil=> .nil
 | _,_,.cons n t h=> .cons ⟨t,rfl⟩ (HF h)
abbrev KOf{K:Frag}{h:Heap}(_:K.In h):Frag:=K
def inClass(s:Stmt)(j:Nat):Stmt:=match s with
 | .ClassDef _ _ _ body _ _ _ _ _ _ _=>body.getD j (.Pass ⟨0,0,0,0⟩)
 | _=> .Pass ⟨0,0,0,0⟩
def aF(s:Stmt):Arguments:=match s with
 | .FunctionDef _ a _ _ _ _ _ _ _ _=>a
 | _=>{posonlyargs:=[],args:=[],vararg:=none,kwonlyargs:=[],kw_defaults:=[],kwarg:=none,defaults:=[]}
def aD(s:Stmt):List Stmt:=match s with
 | .FunctionDef _ _ b _ _ _ _ _ _ _=>b
 | _=>[]
def az(s:Stmt):Scope:=match s with
 | .FunctionDef _ _ _ _ _ _ sc _ _ _=>sc
 | _=>{kind:= .function,names:=[],isGenerator:=false,isCoroutine:=false}
abbrev CX0:W8:=λ_ _ _ _ _ _=>False
abbrev E0:XK:=λ_ _ _=>False
section
variable{X:Cx}
theorem pv(i:Nat)(hN:X.N[i]? = some x:=by rfl)(hv:Vis X.env.scope x:=by first | exact Or.inl rfl | exact Or.inr (Or.inl rfl) | exact Or.inr (Or.inr rfl))(hd:(x==("__debug__" : Str))=false:=by decide)
  (hcd:(x==("__classdict__" : Str))=false:=by decide):PE X (.Name x pos) (abh i):=Qu hN hv hd hcd
end
theorem Fp(h:∀n,(n,NameKind.free)∈scope.names->∃c,env.cells.lookup n=some c):
  ∃cl,closureFor scope env=pure cl/\(∀n c,cl.lookup n=some c->env.cells.lookup n=some c)/\∀n,(n,NameKind.free)∈scope.names->∃c,cl.lookup n=some c:=by
 have go:∀(names:List (Str×NameKind)) (acc:List (Str×Addr)),(∀n,(n,NameKind.free)∈names->∃c,env.cells.lookup n=some c)->(∀n c,acc.lookup n=some c->env.cells.lookup n=some c)->
   ∃cl,(forIn names acc λ(x:Str×NameKind) (r:List (Str×Addr))=>if(x.2==NameKind.free)=true then do let a <-cellOf env x.1;pure (ForInStep.yield ((x.1,a)::r))else pure (ForInStep.yield r):Sem (List (Str×Addr)))=pure cl/\
    (∀n c,cl.lookup n=some c->env.cells.lookup n=some c)/\(∀n,(n,NameKind.free)∈names->∃c,cl.lookup n=some c)/\∀n c,acc.lookup n=some c->∃c,cl.lookup n=some c:=by
  intro names
  induction names with
  | nil=>intro acc _ h2;exact⟨acc,rfl,h2,(λ_ z=>nomatch z),λn c e=>⟨c,e⟩⟩
  | cons x r ih=>
   intro acc h1 h2
   obtain⟨n,k⟩:=x
   by_cases hk:k=NameKind.free
   ·subst hk
    obtain⟨c,hc⟩:=h1 n xB
    obtain⟨cl,e1,e2,e3,e4⟩:=ih ((n,c)::acc) (λm z=>h1 m (yT _ z)) (λm d e=>by
     rw[List.lookup_cons]at e
     cases q:m==n with
     | true=>rw[q]at e;cases e;rw[eq_of_beq q];exact hc
     | false=>rw[q]at e;exact h2 m d e)
    refine⟨cl,?_,e2,λm z=> ?_,λm d e=> ?_⟩
    ·rw[List.forIn_cons]
     have:cellOf env n=pure c:=by unfold cellOf;rw[hc]
     simp only[this,beq_self_eq_true,if_true]
     exact e1
    ·rcases List.mem_cons.mp z with z | z
     ·cases z
      exact e4 n c (by rw[List.lookup_cons,beq_self_eq_true])
     ·exact e3 m z
    ·cases q:m==n with
     | true=>exact e4 m c (by rw[List.lookup_cons,q])
     | false=>exact e4 m d (by rw[List.lookup_cons,q];exact e)
   ·obtain⟨cl,e1,e2,e3,e4⟩:=ih acc (λm z=>h1 m (yT _ z)) h2
    refine⟨cl,?_,e2,λm z=> ?_,e4⟩
    ·rw[List.forIn_cons]
     have:(k==NameKind.free)=false:=by simpa using hk
     simp only[this,Bool.false_eq_true,if_false]
     exact e1
    ·rcases List.mem_cons.mp z with z | z
     ·cases z;exact absurd rfl hk
     ·exact e3 m z
 obtain⟨cl,e1,e2,e3,_⟩:=go scope.names [] h (λ_ _ e=>nomatch e)
 refine⟨cl,?_,e2,e3⟩
 unfold closureFor
 show(forIn scope.names [] _ >>= λr=>pure r)=_
 rw[show(forIn scope.names [] λ(x:Str×NameKind) (r:List (Str×Addr))=>_:Sem (List (Str×Addr)))=pure cl from e1]
 rfl
noncomputable def iK(env:Env)(x:Str×NameKind):Str×NameKind:=if(x.2== .free&&env.scope.kind== .function&&env.kindOf x.1==some .cell)then(x.1,.cell)else(x.1,x.2)
theorem Lf(env:Env)(x:Str×NameKind):(iK env x).1=x.1:=by
 unfold iK;split<;>rfl
theorem Wj:∀{names:List (Str×NameKind)},(∀z∈names,z.2≠ .cell)->((names.map (iK env)).lookup y=some .cell\/(names.map (iK env)).lookup y=some .free)->(y,NameKind.free)∈names
 | [],_,h=>by rcases h with h | h<;>cases h
 | (n,k)::r,hc,h=>by
  rw[List.map_cons]at h
  have e1:(iK env (n,k)).1=n:=Lf env (n,k)
  cases hx:y==n with
  | true=>
   have ey:=eq_of_beq hx
   subst ey
   have hk:k≠ .cell:=hc (y,k) xB
   have q:(iK env (y,k)).2= .cell\/(iK env (y,k)).2= .free:=by
    have l:∀kk,List.lookup y (iK env (y,k)::List.map (iK env) r)=some kk->(iK env (y,k)).2=kk:=λkk z=>by
     rw[show iK env (y,k)=(y,(iK env (y,k)).2)from Prod.ext e1 rfl,List.lookup_cons,beq_self_eq_true]at z
     exact xI z
    rcases h with h | h
    ·exact .inl (l _ h)
    ·exact .inr (l _ h)
   have hk2:k= .free:=by
    unfold iK at q
    split at q
    ·rename_i z
     rw[Bool.and_eq_true,Bool.and_eq_true]at z
     simpa using z.1.1
    ·rcases q with q | q
     ·exact absurd q hk
     ·exact q
   rw[hk2]
   exact xB
  | false=>
   have l:List.lookup y (iK env (n,k)::List.map (iK env) r)=List.lookup y (List.map (iK env) r):=by
    rw[show iK env (n,k)=(n,(iK env (n,k)).2)from Prod.ext e1 rfl,List.lookup_cons,hx]
   rw[l]at h
   exact yT _ (Wj (λz hz=>hc z (yT _ hz)) h)
theorem ZZ:∀{names:List (Str×NameKind)},names.lookup y=some .free->(names.map (iK env)).lookup y=some .cell\/(names.map (iK env)).lookup y=some .free
 | [],h=>by cases h
 | (n,k)::r,h=>by
  rw[List.map_cons]
  have e1:(iK env (n,k)).1=n:=Lf env (n,k)
  rw[show iK env (n,k)=(n,(iK env (n,k)).2)from Prod.ext e1 rfl,List.lookup_cons]
  rw[List.lookup_cons]at h
  cases hx:y==n with
  | true=>
   rw[hx]at h
   have hk:k= .free:=xI h
   subst hk
   show some (iK env (n,NameKind.free)).2=some NameKind.cell\/some (iK env (n,NameKind.free)).2=some NameKind.free
   unfold iK
   split
   ·exact .inl rfl
   ·exact .inr rfl
  | false=>
   rw[hx]at h
   exact ZZ h
section
variable{prog:Program}{w:World}{A:Around}{R:Result->Shared->Prop}
theorem Y9(W:Nat->Shared->Prop)
  (turn:∀n s,W n s->wpAny (model prog w) A (pyNext it) (λr s1=>match r with
   | none=>R (.ok .next) s1
   | some v=>wpAny (model prog w) A (letOwnedTupleGo tg it v) (λ_ s2=>wpAny (model prog w) A (assign tg env v) (λ_ s3=>
     wpAny (model prog w) A (forIn ifs true λc r=>if r=true then do let ok <-isTrue c env (eval c env);pure (ForInStep.yield ok)else pure (ForInStep.yield r)) (λok s4=>
      if ok=true then wpAny (model prog w) A (eval elt env) (λx s5=>wpAny (model prog w) A (call (.builtin "list.append") [acc,x]) (λ_ s6=>∃m,m<n/\W m s6) (λ_ _=>False) s5) (λ_ _=>False) s4
      else ∃m,m<n/\W m s4) (λ_ _=>False) s3) (λ_ _=>False) s2) (λ_ _=>False) s1) (λ_ _=>False) s)
  (n:Nat) (h:W n s):codeAny (model prog w) A (.compLoop (.ListComp elt [⟨tg,iter,ifs,0⟩] scope pos) 0 it acc env) R s:=by
 have ex:∀{α:Type} {t:Sem α} {Q Q':α->Shared->Prop} {E:Value->Shared->Prop} {s:Shared},wpAny (model prog w) A t Q (λ_ _=>False) s->(∀a s,Q a s->Q' a s)->wpAny (model prog w) A t Q' E s:=
  λh f=>wT h f λ_ _ z=>z.elim
 refine codeAny_loop rfl W (λn s hI=> ?_) n h
 show wpAny _ A ((compTurn (.ListComp elt [⟨tg,iter,ifs,0⟩] scope pos) 0 it acc env).onRaise (λx=>do noteFrame x env;theTreesLotGoes x)) _ _ s
 refine wpAny_noted ?_
 rw[compTurn_list]
 refine zC (wpAny_standAt (zC (ex (turn n s hI) λr s1 h1=> ?_)))
 cases r with
 | none=>exact zI h1
 | some v=>
  refine zC (ex h1 λ_ s2 h2=>zC (ex h2 λ_ s3 h3=>zC (ex h3 λok s4 h4=> ?_)))
  cases ok with
  | false=>exact zI ⟨rfl,h4⟩
  | true=>exact zC (zC (ex h4 λx s5 h5=>zC (ex h5 λ_ s6 h6=>zI (zI ⟨rfl,h6⟩))))
end
noncomputable def fY(X:Cx)(scope:Scope)(cl:List (Str×Addr))(C:Addr)(N:List Str)(fp:List Addr)(s:Shared)(H:Hp):Cx where
 prog:=X.prog
 w:=X.w
 K:=X.K
 mg:=X.mg
 base:=X.base
 A:=X.A
 N:=N
 s₀:=s
 H₀:=H
 env:=compEnvC scope cl C X.env
 outer:=X.stack
 stack:=X.stack
 ex:=fp
 fn:=λ_=>false
 calm:=X.calm
 pn:=[]
 xe:=λ_ _=>False
def xK(X:Cx)(scope:Scope):List Str->List Nat->Prop
 | [],[]=>True
 | y::cs,i::js=>(X.N[i]? = some y/\scope.names.lookup y=some .free/\(X.env.kindOf y=some .cell\/X.env.kindOf y=some .free))/\xK X scope cs js
 | _,_=>False
theorem xK.len:∀{cs:List Str} {js:List Nat},xK X scope cs js->js.length=cs.length
 | [],[],_=>rfl
 | _::_,_::_,h=>by rw[List.length_cons,List.length_cons,xK.len h.2]
 | [],_::_,h=>h.elim
 | _::_,[],h=>h.elim
theorem xK.get:∀{cs:List Str} {js:List Nat} {j:Nat},xK X scope cs js->cs[j]? = some y->
  ∃i,js[j]? = some i/\X.N[i]? = some y/\scope.names.lookup y=some .free/\(X.env.kindOf y=some .cell\/X.env.kindOf y=some .free)
 | [],[],_,_,e=>by simp at e
 | _::_,i::_,0,h,e=>by simp at e;subst e;exact⟨i,rfl,h.1.1,h.1.2⟩
 | _::_,_::_,j+1,h,e=>by
  obtain⟨i,e1,r⟩:=xK.get (j:=j) h.2 (by simpa using e)
  exact⟨i,by simpa using e1,r⟩
 | [],_::_,_,h,_=>h.elim
 | _::_,[],_,h,_=>h.elim
def caps(js:List Nat)(σ:St):St:=js.map λi=>(σ[i]?).join
def PTs(X:Cx)(ifs:List Expr)(t:TT):Prop:=
 ∀(pins:List (Addr×Obj)) (s:Shared) (σ:St) (H:Hp) (Q:Bool->Hp->Prop),Inv X pins σ H s->t σ H Q->
  wpAny (model X.prog X.w) X.A (forIn ifs true λc r=>if r=true then do let ok <-isTrue c X.env (eval c X.env);pure (ForInStep.yield ok)else pure (ForInStep.yield r)) (TP X pins σ Q) X.xe s
def ar7:TT:=λ_ H Q=>Q true H
theorem abM:PTs X [] ar7:=λ_ _ _ H _ I h=>zI ⟨H,I,h⟩
theorem abL(h:PT X c t):PTs X [c] t:=by
 intro pins s σ H Q I hq
 rw[List.forIn_cons]
 simp only[if_true]
 exact zC (zC (m_ (h pins s σ H Q I hq) λok s1 q=>zI (zI q)))
def agN(js:List Nat)(tt:TT)(te:TE)(σ:St)(Q:VK)(J:It)(H1:Hp):Prop:=
 ∃W:Nat->Nat->List V->Hp->Prop,(∃m,W 0 m [] H1)/\∀i m ys H,W i m ys H->
  (J.stop i H/\ys.length<=sizeLine/\∀p,H p=none->Q (.ref p) (upd H p (.lst ys)))\/
  (J.go i H/\∃N:List V->Hp->Prop,(∀ys' H',N ys' H'->ys'.length<=sizeLine/\∃m',m'<m/\W (i+1) m' ys' H')/\∀x H',J.YD i H x H'->tt (some x::caps js σ) H' λb H2=>
   if b=true then te (some x::caps js σ) H2 λy H3=>N (ys++[y]) H3 else N ys H2)
def Zg(js:List Nat)(wi:TI)(tt:TT)(te:TE):TE:=λσ H Q=>wi σ H λJ H1=>agN js tt te σ Q J H1
theorem yM.track(x:yM P w H h)(hn:H a=none)(new:fu P w (upd H a o) h a o):yM P w (upd H a o) h:=λb u e=>by
 by_cases hb:b=a
 ·subst hb;rw[bB]at e;cases e;exact new
 ·rw[aO hb]at e
  exact(x b u e).stay (λc v _ q=>q) (λc q=>by rw[aO (bR q hn)];exact q) λc xs q=>by rw[aO (bR q hn)];exact q
theorem Un.track(u:Un fs ex H H1 h h1)(hn:h.get? a=none)(hH:H a=none):Un fs ex H (upd H1 a o) h h1 where
 keep:=u.keep
 slot:=u.slot
 free:=λb ob e n hx=>by rw[aO (by rintro rfl;rw[hn]at e;cases e)];exact u.free b ob e n hx
 there:=u.there
 tups:=λb xs e=>by rw[aO (bR e hH)];exact u.tups b xs e
 zb:=λb ob xs e=>by rw[aO (bR e hH)];exact u.zb b ob xs e
 BK:=λb ps e=>by rw[aO (bR e hH)];exact u.BK b ps e
def Jm(xs:List Str):St:=xs.map λ_=>none
section
variable{X:Cx}{x:Str}{px:Pos}{tg elt iter:Expr}{ifs:List Expr}{scope:Scope}{xs cs:List Str}{js:List Nat}{tt:TT}{te:TE}{pos:Pos}
theorem JF{g:TG}{cl:List (Str×Addr)}{pins:List (Addr×Obj)}{σ:St}{H2:Hp}{s2:Shared}{it:Addr}{fp:List Addr}{tn:Nat->Heap->Prop}{J:It}{Q:VK}{RR:Value->Addr->Result->Shared->Prop}
  (hc:X.calm=true) (hcap:xK X scope cs js) (ht:∀cl C fp s H,PTs (fY X scope cl C (xs++cs) fp s H) ifs tt) (he:∀cl C fp s H,PE (fY X scope cl C (xs++cs) fp s H) elt te)
  (hcell:∀y∈scope.names,y.2≠ .cell) (hkind:scope.kind= .function) (hg:∀cl C fp s H,PG (fY X scope cl C (xs++cs) fp s H) tg g)
  (Fj:∀n c,cl.lookup n=some c->X.env.cells.lookup n=some c) (Oe:∀n,(n,NameKind.free)∈scope.names->∃c,cl.lookup n=some c)
  (I2:Inv X pins σ H2 s2) (T:Turn X.prog X.w X.K (tg) J fp it tn) (st2:tn 0 s2.heap) (f2:∀b∈fp,Hy X pins H2 b)
  (W:Nat->Nat->List V->Hp->Prop) (w0:∃m,W 0 m [] H2)
  (step:∀i m ys H,W i m ys H->
   (J.stop i H/\ys.length<=sizeLine/\∀p,H p=none->Q (.ref p) (upd H p (.lst ys)))\/
   (J.go i H/\∃N:List V->Hp->Prop,(∀ys' H',N ys' H'->ys'.length<=sizeLine/\∃m',m'<m/\W (i+1) m' ys' H')/\∀x H',J.YD i H x H'->g x (Jm xs++caps js σ) H' λσ1 H1=>(σ1.length=(Jm xs++caps js σ).length/\σ1.drop xs.length=caps js σ)/\tt σ1 H1 λb H2=>
    if b=true then te σ1 H2 λy H3=>N (ys++[y]) H3 else N ys H2))
  (fin:∀(D C:Addr) (H3:Hp) (s4:Shared) (m':Str->Option Value),Inv X pins σ H3 s4->s4.heap.Ns C m'->s2.heap.objs.size<=C->H3 C=none->Q (.ref D) H3->RR (.ref D) C (.ok .next) s4):
  wpAny (model X.prog X.w) X.A (newList []) (λacc s3=>wpAny (model X.prog X.w) X.A (newFunctionEnv scope X.env.globals cl [] X.env.qual none .none (some X.env)) (λcenv s4=>
   codeAny (model X.prog X.w) X.A (.compStart (.ListComp elt [⟨tg,iter,ifs,0⟩] scope pos) 0 (.ref it) acc {cenv with scope:=relabel scope X.env}) (RR acc cenv.locals) s4) X.xe s3) X.xe s2:=by
 refine wS (wpAny_newFunctionEnv hcell (by intro y hy;simp at hy) (λh1 hns hsb=> ?_) hkind)
 dsimp only at hns hsb ⊢
 generalize hP:s2.heap.push {cls:= .type "list",dict:=none,data:= .seq ([]:List Value).toArray}=hq at hns hsb ⊢
 have eC:hq.objs.size=s2.heap.objs.size+1:=by rw[<-hP,Heap.size_push]
 generalize eD:s2.heap.objs.size=D at eC ⊢
 generalize eCC:hq.objs.size=C at hns hsb eC ⊢
 have DC:D≠C:=()
 have old:∀b o,s2.heap.get? b=some o->h1.get? b=some o:=λb o e=>by
  have lt: @LT.lt Nat _ b s2.heap.objs.size:=zS e
  exact hsb.extBut b o (λz=>by subst z;omega) (zD _ (hP▸zD _ e))
 have axn:h1.get? D=some {cls:= .type "list",dict:=none,data:= .seq ([]:List Value).toArray}:=hsb.extBut _ _ DC (zD _ (hP▸eD▸yB _ rfl))
 have noD:s2.heap.get? D=none:=Heap.get?_none_of_le ()
 have HD:H2 D=none:=I2.hok.fresh ()
 have HC:H2 C=none:=I2.hok.fresh ()
 have akX:∀b∈fp,@LT.lt Nat _ b D:=λb hb=>by
  obtain⟨o,e,_⟩:=T.obj _ _ st2 b hb
  have q: @LT.lt Nat _ b s2.heap.objs.size:=zS e
  omega
 have Dfp:D∉fp:=λz=>wP _ (akX D z)
 have awK:∀b∈frs X.stack,@LT.lt Nat _ b D:=λb hb=>by
  obtain⟨_,o,ho,_⟩:=I2.stack.mem hb
  have q: @LT.lt Nat _ b s2.heap.objs.size:=zS ho
  omega
 have awW:∀y c,cl.lookup y=some c-> @LT.lt Nat _ c D:=λy c e=>by
  obtain⟨v,z⟩:=I2.cell y c (Fj y c e)
  have q: @LT.lt Nat _ c s2.heap.objs.size:=z.lt
  omega
 have ok:(fY X scope cl C (xs++cs) fp s2 H2).Ok:=by
  refine⟨I2.ok.mod,hkind,I2.ok.glob,I2.ok.blt,(by show s2.heap.objs.size<=C;omega),λy z c e1 e2=>I2.ok.inj y z c (Fj y c e1) (Fj z c e2),λy hy=>Oe y (Wj hcell hy),λy c e=>(by cases e),I2.ok.hd,I2.ok.frames,.inl rfl,
   λb hb=>⟨?_,λy c e=>(f2 b hb).2.2.2.2.1 y c (Fj y c e)⟩,I2.bs,yY I2.ok.YG I2.sz,λb o e hb=> ?_,λb hb z=> ?_,I2.stack,I2.F_⟩
  ·have q:=akX b hb
   show b≠C
   intro z
   subst z
   omega
  ·rcases(f2 b hb).2.2.2.1 with z | z
   ·exact I2.ok.XN b o e z
   ·have l: @LT.lt Nat _ b X.base.objs.size:=zS e
    have l2:=I2.ok.YG
    have l3: @LE.le Nat _ X.s₀.heap.objs.size b:=z
    omega
  ·rcases List.mem_cons.mp (I2.KN b z)with e | e
   ·exact(f2 b hb).2.1 e
   ·exact(f2 b hb).2.2.1 e
 have I0:Inv (fY X scope cl C (xs++cs) fp s2 H2) [(D,{cls:= .type "list",dict:=none,data:= .seq ([]:List Value).toArray})] (Jm xs++caps js σ) H2 {s2 with heap:=h1,toks:=s2.toks+([]:List (Str×Value)).length}:=by
  refine⟨ok,rfl,I2.bare,Un.kept old,⟨_,hns,λi y v e1 e2 e3=> ?_⟩,λy c e=> ?_,HC,λy c e=>(I2.uQ y c (Fj y c e)).imp (λ_=>rfl) id λ_ _ z=>z,λp hp=> ?_,I2.hok.kept old,?_⟩
  ·have hi:xs.length<=i:=by
    rcases Nat.lt_or_ge i xs.length with q | q
    ·rw[zac (by simpa[Jm]using q)]at e2
     simp[Jm]at e2
    ·exact q
   obtain⟨j,rfl⟩:∃j,i=xs.length+j:=⟨i - xs.length,()⟩
   ·have e1':cs[j]? = some y:=by
     have:(xs++cs)[xs.length+j]? = some y:=e1
     rw[zab ()]at this
     simpa using this
    obtain⟨i0,q1,q2,q3,q4⟩:=hcap.get e1'
    have e2':σ[i0]? = some (some v):=by
     have z:(caps js σ)[j]? = some (some v):=by
      rw[zab (by simp[Jm])]at e2
      simpa[Jm]using e2
     unfold caps at z
     rw[zaj,q1]at z
     have z':(σ[i0]?).join=some v:=by simpa using z
     cases r:σ[i0]? with
     | none=>rw[r]at z';cases z'
     | some r'=>rw[r]at z';exact congrArg some z'
    obtain⟨m,_,hl⟩:=I2.loc
    obtain⟨u,r,l⟩:=hl i0 y v q2 e2' (by rcases q4 with q | q;exact .inr (.inl q);exact .inr (.inr q))
    obtain⟨c,hcy⟩:=Oe y (PySem.mem_of_lookup q3)
    refine⟨u,r,.inr ⟨ZZ q3,c,hcy,?_⟩⟩
    rcases l with⟨k,_⟩ | ⟨_,c',ec,o,ho,hd⟩
    ·rcases q4 with q | q<;>rw[q]at k<;>cases k
    ·rw[Fj y c hcy]at ec
     cases ec
     exact⟨o,old _ _ ho,hd⟩
  ·obtain⟨v,o,ho,hd⟩:=I2.cell y c (Fj y c e)
   exact⟨v,o,old _ _ ho,hd⟩
  ·have ep:p=(D,{cls:= .type "list",dict:=none,data:= .seq ([]:List Value).toArray}):=by simpa[fY]using hp
   subst ep
   exact⟨axn,HD,(by show D≠C;omega),(λz=>wP _ (awK D z)),λv z=>by cases z⟩
  ·show(Jm xs++caps js σ).length=(xs++cs).length
   unfold caps Jm
   rw[List.length_append,List.length_append,zak,zak,hcap.len]
 have stat:∀{pn:List (Addr×Obj)} {H':Hp},(∀b∈fp,H' b=none)->(∀p∈pn,p.1∉fp)->∀b∈fp,Hy (fY X scope cl C (xs++cs) fp s2 H2) pn H' b:=λhn hpn b hb=>
  ⟨hn b hb,(ok.exf b hb).1,ok.Yi b hb,.inl hb,λy c e=>(ok.exf b hb).2 y c e,λp hp z=>hpn p (by simpa[fY]using hp) (z▸hb)⟩
 have loop:∀s3:Shared,s3={s2 with heap:=h1,toks:=s2.toks+([]:List (Str×Value)).length}->
   codeAny (model X.prog X.w) X.A (.compLoop (.ListComp elt [⟨tg,iter,ifs,0⟩] scope pos) 0 (.ref it) (.ref D) (compEnvC scope cl C X.env)) (RR (.ref D) C) s3:=by
  rintro s3 rfl
  obtain⟨m0,w0⟩:=w0
  refine Y9 (λn s=>∃(i:Nat) (ys:List V) (its:List Value) (c:Nat) (H:Hp),Inv (fY X scope cl C (xs++cs) fp s2 H2) [(D,{cls:= .type "list",data:= .seq its.toArray c})] (Jm xs++caps js σ) H s/\
   tn i s.heap/\(∀b∈fp,H b=none)/\Vals ys its/\W i n ys H) ?_ m0 ⟨0,[],[],0,H2,I0,T.keep _ _ _ st2 λb _ o e=>old b o e,λb hb=>(f2 b hb).1,.nil,w0⟩
  rintro n s3 ⟨i,ys,its,c,H3,I3,st3,fr3,rv,w3⟩
  have pD:∀p∈[((D,{cls:= .type "list",data:= .seq its.toArray c}):Addr×Obj)],p.1∉fp:=λp hp=>by
   have:p=(D,{cls:= .type "list",data:= .seq its.toArray c}):=by simpa using hp
   subst this
   exact Dfp
  rcases step i n ys H3 w3 with⟨stop,hlen,qn⟩ | ⟨go,N,hN,step⟩
  ·refine m_ (T.done (fY X scope cl C (xs++cs) fp s2 H2) rfl rfl rfl hc i _ s3 _ H3 (λ_ _=>False) I3 (stat fr3 pD) st3 stop) ?_
   rintro r s4 ⟨hr,I4⟩
   subst hr
   obtain⟨gD,nD,_⟩:=I4.pin _ (xE _ xB)
   obtain⟨m',hn',_⟩:=id I4.loc
   have u4:Un (frs X.stack) fp H2 H3 s2.heap s4.heap:=I4.base
   have k4:yM X.prog X.w (upd H3 D (.lst ys)) s4.heap:=yM.track I4.hok nD ⟨hlen,its,c,rv,gD⟩
   have I5:Inv X pins σ (upd H3 D (.lst ys)) s4:=I2.call' (ch:=fp) I4.os (u4.track noD HD) k4 I4.bare λb hb=>⟨(f2 b hb).2.2.2.1,(f2 b hb).2.1,(f2 b hb).2.2.2.2.1,(f2 b hb).2.2.2.2.2⟩
   exact fin D C _ s4 m' I5 hn' () (by rw[aO (Ne.symm DC)];exact I4.free) (qn D nD)
  ·refine m_ (T.item (fY X scope cl C (xs++cs) fp s2 H2) rfl rfl rfl hc i _ s3 _ H3 (λ_ _=>False) I3 (stat fr3 pD) st3 go) ?_
   rintro r s4 ⟨u,hr,h4⟩
   subst hr
   refine m_ h4 ?_
   rintro _ s5 ⟨v,H5,I5,r5,y5,st5,fr5⟩
   have I5':=I5.pinned (stat fr5 pD) (T.obj _ _ st5)
   refine m_ (hg cl C fp s2 H2 _ s5 (Jm xs++caps js σ) H5 v u _ I5' r5 (step v H5 y5)) ?_
   rintro _ s6 ⟨σ6,H6,I6,⟨avP,alJ⟩,q6⟩
   have weak:∀{pn:List (Addr×Obj)} {H':Hp} {s':Shared},Inv (fY X scope cl C (xs++cs) fp s2 H2) pn σ6 H' s'->Inv (fY X scope cl C (xs++cs) fp s2 H2) pn (Jm xs++caps js σ) H' s':=λI'=>
    I'.weak avP.symm λj z e=>by
     have hj:xs.length<=j:=by
      rcases Nat.lt_or_ge j xs.length with q | q
      ·rw[zac (by simpa[Jm]using q)]at e
       simp[Jm]at e
      ·exact q
     rw[zab (by simpa[Jm]using hj),<-alJ]at e
     rw[List.getElem?_drop]at e
     rw[<-e]
     congr 1
     simp[Jm]
     omega
   have tnK:∀{σ':St} {H':Hp} {s':Shared},Inv (fY X scope cl C (xs++cs) fp s2 H2) ([(D,{cls:= .type "list",data:= .seq its.toArray c})]++Lh fp s5.heap) σ' H' s'->(∀b∈fp,∀o,s5.heap.get? b=some o->s'.heap.get? b=some o)/\∀b∈fp,H' b=none:=λI'=>
    ⟨λb hb o e=>(I'.pin (b,o) (xE _ (xE _ (z9 hb e)))).1,λb hb=>by
     obtain⟨o,e,_⟩:=T.obj _ _ st5 b hb
     exact(I'.pin (b,o) (xE _ (xE _ (z9 hb e)))).2.1⟩
   refine m_ (ht cl C fp s2 H2 _ s6 σ6 H6 _ I6 q6) ?_
   rintro b s7 ⟨H7,I7,q7⟩
   cases b with
   | false=>
    rw[if_neg xA]at q7 ⊢
    obtain⟨_,m',hm,w7⟩:=hN _ _ q7
    exact⟨m',hm,i+1,ys,its,c,H7,weak I7.FJ,T.keep _ _ _ st5 (tnK I7).1,(tnK I7).2,rv,w7⟩
   | true=>
    rw[if_pos rfl]at q7 ⊢
    refine m_ (he cl C fp s2 H2 _ s7 σ6 H7 _ I7 q7) ?_
    rintro yv s8 ⟨y,H8,I8,r8,q8⟩
    obtain⟨hl8,m',hm,w8⟩:=hN _ _ q8
    rw[List.length_append,List.length_singleton]at hl8
    obtain⟨gD,nD,dC,dF,_⟩:=I8.pin (D,{cls:= .type "list",data:= .seq its.toArray c}) (xE _ (List.mem_append_left _ xB))
    have el:=rv.length
    refine wpAny_list_append_plain (hsz:=by rw[List.size_toArray];omega) ⟨c,gD⟩ λh9 p9 sb9=> ?_
    obtain⟨c9,g9⟩:=p9
    have g9':h9.get? D=some {cls:= .type "list",data:= .seq (its++[yv]).toArray c9}:=by simpa using g9
    have I9:Inv (fY X scope cl C (xs++cs) fp s2 H2) [] (Jm xs++caps js σ) H8 {s8 with heap:=h9}:=
     (weak (I8.J8 (Z6:=[]) (λp hp=>nomatch hp))).turned (t':=s8.toks) (it:=D) (λb o hb e=>(sb9.2 b hb).trans e) nD dC (.inr (by show s2.heap.objs.size<=D;omega)) (λy c e z=>by have q:=awW y c e;subst z;omega) (λp hp=>nomatch hp)
    refine⟨m',hm,i+1,ys++[y],its++[yv],c9,H8,I9.J8 λp hp=> ?_,?_,(tnK I8).2,rv.append (.cons r8 .nil),w8⟩
    ·have:p=(D,{cls:= .type "list",data:= .seq (its++[yv]).toArray c9}):=by simpa using hp
     subst this
     exact⟨g9',nD,dC,dF,λv z=>by cases z⟩
    ·exact T.keep _ _ _ st5 λb hb o e=>(sb9.2 b (λz=>Dfp (z▸hb))).trans ((tnK I8).1 b hb o e)
 exact codeAny_compStart_list (loop _ rfl) (T.self _ 0 _ _ _ (T.keep _ _ _ st2 λb _ o e=>old b o e) (loop _ rfl))
theorem Ng{cl:List (Str×Addr)}{pins:List (Addr×Obj)}{σ:St}{H2:Hp}{s2:Shared}{it:Addr}{fp:List Addr}{tn:Nat->Heap->Prop}{J:It}{Q:VK}{RR:Value->Addr->Result->Shared->Prop}
  (hc:X.calm=true) (hcap:xK X scope cs js) (ht:∀cl C fp s H,PTs (fY X scope cl C (x::cs) fp s H) ifs tt) (he:∀cl C fp s H,PE (fY X scope cl C (x::cs) fp s H) elt te)
  (hcell:∀y∈scope.names,y.2≠ .cell) (hkind:scope.kind= .function) (hx:scope.names.lookup x=some .local) (hnd:(x::cs).Nodup)
  (Fj:∀n c,cl.lookup n=some c->X.env.cells.lookup n=some c) (Oe:∀n,(n,NameKind.free)∈scope.names->∃c,cl.lookup n=some c)
  (I2:Inv X pins σ H2 s2) (T:Turn X.prog X.w X.K (.Name x px) J fp it tn) (st2:tn 0 s2.heap) (f2:∀b∈fp,Hy X pins H2 b)
  (W:Nat->Nat->List V->Hp->Prop) (w0:∃m,W 0 m [] H2)
  (step:∀i m ys H,W i m ys H->
   (J.stop i H/\ys.length<=sizeLine/\∀p,H p=none->Q (.ref p) (upd H p (.lst ys)))\/
   (J.go i H/\∃N:List V->Hp->Prop,(∀ys' H',N ys' H'->ys'.length<=sizeLine/\∃m',m'<m/\W (i+1) m' ys' H')/\∀x H',J.YD i H x H'->tt (some x::caps js σ) H' λb H2=>
    if b=true then te (some x::caps js σ) H2 λy H3=>N (ys++[y]) H3 else N ys H2))
  (fin:∀(D C:Addr) (H3:Hp) (s4:Shared) (m':Str->Option Value),Inv X pins σ H3 s4->s4.heap.Ns C m'->s2.heap.objs.size<=C->H3 C=none->Q (.ref D) H3->RR (.ref D) C (.ok .next) s4):
  wpAny (model X.prog X.w) X.A (newList []) (λacc s3=>wpAny (model X.prog X.w) X.A (newFunctionEnv scope X.env.globals cl [] X.env.qual none .none (some X.env)) (λcenv s4=>
   codeAny (model X.prog X.w) X.A (.compStart (.ListComp elt [⟨.Name x px,iter,ifs,0⟩] scope pos) 0 (.ref it) acc {cenv with scope:=relabel scope X.env}) (RR acc cenv.locals) s4) X.xe s3) X.xe s2:=
 JF (xs:=[x]) (g:=Tj 0) hc hcap ht he hcell hkind (λcl C fp s H=>Qq hnd rfl (.inl (lookup_relabel_local hx)) (.inr (lookup_relabel_local hx))) Fj Oe I2 T st2 f2 W w0
  (λi m ys H h=>(step i m ys H h).imp id λ⟨go,N,hN,st⟩=>⟨go,N,hN,λx H' y=>⟨⟨rfl,rfl⟩,st x H' y⟩⟩) fin
theorem Inv.letGo(I2:Inv X pins σ2 H2 s2)(I:Inv X pins σ H s)(hC:s2.heap.objs.size<=C)(hn:H C=none)(sb:Heap.SameBut C s.heap h'):Inv X pins σ H {s with heap:=h'}:=
 I.turned (t':=s.toks) (λb o hb e=>(sb.2 b hb).trans e) hn (xS (yA I2.lt hC)) (.inr (yY I2.sz hC))
  (λy c e z=>by obtain⟨v,q⟩:=I2.cell y c e;exact absurd (yA q.lt (by rw[z];exact hC)) (wP _))
  (λp hp z=>absurd (yA (zS (I2.pin p hp).1) (by rw[z];exact hC)) (wP _))
theorem abX(hc:X.calm=true)(cs:List Str)(js:List Nat)(hi:PI X (.Name x px) iter wi)(hcap:xK X scope cs js)(ht:∀cl C fp s H,PTs (fY X scope cl C (x::cs) fp s H) ifs tt)(he:∀cl C fp s H,PE (fY X scope cl C (x::cs) fp s H) elt te)
  (hall:∀y∈scope.names,y.2= .free->y.1∈cs) (hcell:∀y∈scope.names,y.2≠ .cell) (hnames:∀y∈scope.names,y.2= .local->scope.names.lookup y.1=some .local) (hnd:(x::cs).Nodup)
  (hkind:scope.kind= .function:=by rfl) (hx:scope.names.lookup x=some .local:=by rfl) (hs:∀v,foldedSetIterable iter X.env v=pure v:=by intro _;rfl):
  PE X (.ListComp elt [⟨.Name x px,iter,ifs,0⟩] scope pos) (Zg js wi tt te):=by
 intro pins s σ H Q I h
 obtain⟨cl,aaI,Fj,Oe⟩:=Fp (env:=X.env) (scope:=scope) λn hn=>by
  obtain⟨j,hj⟩:=List.getElem?_of_mem (hall _ hn rfl)
  obtain⟨_,_,_,_,k⟩:=hcap.get hj
  exact I.ok.has n k
 rw[eval_ListComp]
 refine wpAny_comprehension_free (use:=none) rfl hs aaI hkind hnames (m_ (hi pins s σ H _ I h) λv s1 h1=>m_ h1 λitv s2 h2=> ?_)
 obtain⟨it,fp,tn,J,H2,e,I2,T,st2,f2,W,w0,step⟩:=h2
 subst e
 refine Ng (Q:=Q) (RR:=λacc C=>compPost (model X.prog X.w) X.A X.xe none (EP X pins σ Q) acc C) hc hcap ht he hcell hkind hx hnd Fj Oe I2 T st2 f2 W w0 step λD C H3 s4 m' I4 hn hC hH q=> ?_
 exact⟨m',hn,λh' sb=>⟨.ref D,H3,I2.letGo I4 hC hH sb,rfl,q⟩⟩
theorem abT(hc:X.calm=true)(cs:List Str)(js:List Nat)(hN:X.N.Nodup)(hk:X.N[k]? = some y)(hy:X.env.scope.names.lookup y=some .local)(hi:PI X (.Name x px) iter wi)(hcap:xK X scope cs js)
  (ht:∀cl C fp s H,PTs (fY X scope cl C (x::cs) fp s H) ifs tt) (he:∀cl C fp s H,PE (fY X scope cl C (x::cs) fp s H) elt te)
  (hall:∀y∈scope.names,y.2= .free->y.1∈cs) (hcell:∀y∈scope.names,y.2≠ .cell) (hnames:∀y∈scope.names,y.2= .local->scope.names.lookup y.1=some .local) (hnd:(x::cs).Nodup)
  (hsw:swapsWith (.ListComp elt [⟨.Name x px,iter,ifs,0⟩] scope pos) (some (.Name y py)) spos.line X.env=pure true:=by rfl)
  (hkind:scope.kind= .function:=by rfl) (hx:scope.names.lookup x=some .local:=by rfl) (hs:∀v,foldedSetIterable iter X.env v=pure v:=by intro _;rfl):
  PS X (.Assign [.Name y py] (.ListComp elt [⟨.Name x px,iter,ifs,0⟩] scope pos) spos) (abj (Zg js wi tt te) (Tj k)):=by
 intro pins s σ H D I h
 obtain⟨cl,aaI,Fj,Oe⟩:=Fp (env:=X.env) (scope:=scope) λn hn=>by
  obtain⟨j,hj⟩:=List.getElem?_of_mem (hall _ hn rfl)
  obtain⟨_,_,_,_,k⟩:=hcap.get hj
  exact I.ok.has n k
 rw[exec_Assign_Name_used _ _ _ _ hsw]
 refine zC (wpAny_standAt (zC ?_))
 show wpAny _ X.A (do let _ <-comprehension (.ListComp elt [⟨.Name x px,iter,ifs,0⟩] scope pos) scope X.env _ (newList []) false (eval iter X.env) (some (assign (.Name y py) X.env))) _ _ s
 refine zC (m_ (wpAny_comprehension_free (use:=some (assign (.Name y py) X.env)) (Q:=λ_ s'=>SP X pins D .next s') rfl hs aaI hkind hnames (m_ (hi pins s σ H _ I h) λv s1 h1=>m_ h1 λitv s2 h2=> ?_)) (λ_ s' q=>zI (zI q)))
 obtain⟨it,fp,tn,J,H2,e,I2,T,st2,f2,W,w0,step⟩:=h2
 subst e
 refine Ng (Q:=λx H1=>Tj k x σ H1 D.nx) (RR:=λacc C=>compPost (model X.prog X.w) X.A X.xe (some (assign (.Name y py) X.env)) (λ_ s'=>SP X pins D .next s') acc C) hc hcap ht he hcell hkind hx hnd Fj Oe I2 T st2 f2 W w0 step λD' C H3 s4 m' I4 hn hC hH q=> ?_
 show wpAny _ X.A (assign (.Name y py) X.env (.ref D')) _ _ _
 refine wpAny_assign_Name (Ot (v:= .ref D') I4 hN hk (.inl hy) rfl (?_) (.inr hy))
 rintro s5 I5 ⟨a,sb,ha⟩
 have neC:C≠a:=by
  rcases ha with e | e
  ·rw[e];exact xS (yA I2.lt hC)
  ·intro z
   obtain⟨v,q⟩:=I2.cell y a e
   exact absurd (yA q.lt (by rw[<-z];exact hC)) (wP _)
 exact⟨m',hn.sameBut sb neC,λh' sb'=>⟨_,H3,I2.letGo I5 hC hH sb',q⟩⟩
end
def adz:HO->Bool
 | .dT _=>false
 | .gW _ (.dT _)=>false
 | .gW _ (.ins _ _ _)=>false
 | .gW _ (.gW _ _)=>false
 | _=>true
def Flat(H:Hp):Prop:=∀a o,H a=some o->adz o=true
def W6(H:Hp):Prop:=∀a C dx fs,H a=some (.ins C dx fs)->H dx=some (.own a)
structure Fgt(H H' YJ:Hp):Prop where
 sub:∀a o,YJ a=some o->H' a=some o
 flat:Flat YJ
 own:W6 H->W6 YJ
 tup:∀b xs,H b=some (.tup xs)->YJ b=some (.tup xs)
 gW:∀b o u,H b=some (.gW o u)->YJ b=some (.gW o u)
 zu:∀b ps,H b=some (.zu ps)->∃more,YJ b=some (.zu (ps++more))
theorem fu.less(x:fu P w H' h a o)(f:adz o=true)(hw:∀C dx fs,o= .ins C dx fs->H dx=some (.own a)):fu P w H h a o:=by
 cases o with
 | dT kvs=>exact absurd f xA
 | ins C dx fs=>exact⟨hw C dx fs rfl,x.2⟩
 | gW ob u=>
  cases u with
  | dT _=>exact absurd f xA
  | ins _ _ _=>exact absurd f xA
  | gW _ _=>exact absurd f xA
  | _=>exact x
 | _=>exact x
theorem yM.less(x:yM P w H' h)(s:∀a o,H a=some o->H' a=some o)(f:Flat H)(hw:W6 H):yM P w H h:=λa o e=>
 (x a o (s a o e)).less (f a o e) λC dx fs z=>hw a C dx fs (by rw[<-z];exact e)
theorem yM.own(x:yM P w H h):W6 H:=λa _ _ _ e=>(x a _ e).1
def gcK(H:Hp)(Q:VK):VK:=λv H'=>Q v H'\/∃YJ,Fgt H H' YJ/\Q v YJ
theorem lg.gc{P:Program}{w:World}{K:Frag}{mg:Str->Option Value}{base:Heap}{CX:W8}{k:Nat}{f:Addr}{fd:FuncData}{ps:List Str}{sp sp':Sp}(F:lg P w K mg base CX k f fd ps sp)
  (h:∀vs H Q E,sp' vs H Q E->sp vs H (gcK H Q) E):lg P w K mg base CX k f fd ps sp':=by
 refine⟨λvs H Q E q=>F.len vs H _ E (h _ _ _ _ q),λA outer s H args us vs Q E hr he hb hv hs=>codeAny_mono (F.run A outer s H args us vs (gcK H Q) E hr he hb hv (h _ _ _ _ hs)) λr s' hq=> ?_⟩
 cases r with
 | error e=>exact hq
 | ok fl=>
  cases fl with
  | ret u=>
   obtain⟨v,H',os,bare,un,hok,rv,q⟩:=hq
   rcases q with q | ⟨YJ,g,q⟩
   ·exact⟨v,H',os,bare,un,hok,rv,q⟩
   refine⟨v,YJ,os,bare,⟨un.keep,un.slot,λb o e n hx=> ?_,un.there,g.tup,g.gW,g.zu⟩,hok.less g.sub g.flat (g.own he.hok.own),rv,q⟩
   cases z:YJ b with
   | none=>rfl
   | some o'=>
    have z':=g.sub b o' z
    rw[un.free b o e n hx]at z'
    cases z'
  | next=>exact hq
  | brk=>exact hq
  | cont=>exact hq
structure bw(K:Frag)(x qual:Str)(st:Stmt)(dV:Value)(f:Addr)(fd:FuncData):Prop where
 ex:∃(oc:Value) (od:Option Addr) (kV doc pm:Value) (an:Option Addr) (cdv ct:Value) (osl:Array (Option Value)),
  fd=fnOf x qual (aF st) (aD st) (az st) dV kV doc pm an cdv ct/\K.lookup f=some ⟨oc,od,.func fd,osl⟩/\codeIn K cdv qual=true
 kp:keepIn K (.ref f)=true
section
variable{P:Program}{w:World}{K:Frag}{mg:Str->Option Value}{base:Heap}
theorem bw.binds{x qual:Str}{st:Stmt}{dV:Value}{f:Addr}{fd:FuncData}{ps:List Str}(F:bw K x qual st dV f fd)
  (h:∀(kV doc pm:Value) (an:Option Addr) (cdv ct:Value) (us:List Value),us.length=ps.length->bindArgs (fnOf x qual (aF st) (aD st) (az st) dV kV doc pm an cdv ct) ⟨us,[]⟩=pure (ps.zip us)):Binds K fd ps []:=by
 obtain⟨oc,od,kV,doc,pm,an,cdv,ct,osl,rfl,lk,hcd⟩:=F.ex
 exact .all (h kV doc pm an cdv ct)
theorem aG{x qual:Str}{st:Stmt}{dV:Value}{f:Addr}{oc:Value}{od an:Option Addr}{osl:Array (Option Value)}{kV doc pm cdv ct:Value}(l:K.lookup f=some ⟨oc,od,.func (fnOf x qual (aF st) (aD st) (az st) dV kV doc pm an cdv ct),osl⟩)
  (c:codeIn K cdv qual=true) (k:keepIn K (.ref f)=true):bw K x qual st dV f (fnOf x qual (aF st) (aD st) (az st) dV kV doc pm an cdv ct):=⟨⟨oc,od,kV,doc,pm,an,cdv,ct,osl,rfl,l,c⟩,k⟩
end
theorem vB:bootBuiltins "len" = some (.builtin "len"):=by decide +kernel
theorem dj:bootBuiltins "isinstance" = some (.builtin "isinstance"):=by decide +kernel
theorem agz:bootBuiltins "all" = some (.builtin "all"):=by decide +kernel
theorem Nk:bootBuiltins "int" = some (.type "int"):=by decide +kernel
theorem Ro:bootBuiltins "bool" = some (.type "bool"):=by decide +kernel
theorem DP:bootBuiltins "list" = some (.type "list"):=by decide +kernel
theorem Nj:bootBuiltins "tuple" = some (.type "tuple"):=by decide +kernel
theorem aaY:bootBuiltins "str" = some (.type "str"):=by decide +kernel
def arP:V->Value->Prop
 | .ty n,c=>c= .type n
 | .ref a,c=>c= .ref a
 | _,_=>False
@[irreducible] def aes(K:Frag):List V->Hp->VK->Prop:=λxs H Q=>∃x cv t c b,xs=[x,cv]/\arP cv c/\Hw K H x t/\kitOne K t c=some b/\Q (.bl b) H
section
variable{X:Cx}
theorem TF:qG X (.builtin "isinstance") (aes X.K):=by
 intro pins s σ H xs us Q I r h
 unfold aes at h
 obtain⟨x,cv,t,c,b,rfl,hc,ty,e,q⟩:=h
 obtain⟨u,v,rfl,rx,rc⟩:=vals2 r
 have ec:v=c:=by
  cases cv with
  | ty n=>exact(show v=Value.type n from rc).trans (show c=Value.type n from hc).symm
  | ref a=>exact(show v=Value.ref a from rc).trans (show c=Value.ref a from hc).symm
  | _=>exact hc.elim
 subst ec
 exact O7 I rx ty e λtk=>⟨.bl b,H,I.tok tk,rfl,q⟩
end
def ahT:V->List V->Hp->VK->Prop:=λx vs H Q=>∃i,x= .int i/\vs=[]/\Q (.int (Builtin.Int.intBits i:Nat)) H
section
variable{X:Cx}
theorem ab_:MtR X "int.bit_length" ahT:=by
 intro pins s σ H x vs v us Q I rx r h
 obtain⟨i,rfl,rfl,q⟩:=h
 obtain⟨t,rfl⟩:=rx
 cases r
 exact call_int_bit_length ⟨.int _,H,I.tok _,⟨_,rfl⟩,q⟩
end
def aoM(g:TG)(tb:TS)(D:Ends)(σ:St)(J:It)(H1:Hp):Prop:=
 ∃W:Nat->Nat->St->Hp->Prop,(∃m,W 0 m σ H1)/\∀i m σ H,W i m σ H->
  (J.stop i H/\D.nx σ H)\/(J.go i H/\∃N:St->Hp->Prop,(∀σ' H',N σ' H'->∃m',m'<m/\W (i+1) m' σ' H')/\∀x H',J.YD i H x H'->g x σ H' λσ2 H2=>tb {D with nx:=N,ct:=N,bk:=D.nx} σ2 H2)
def ahm(wi:TI)(g:TG)(tb:TS):TS:=λD σ H=>wi σ H λJ H1=>aoM g tb D σ J H1
theorem abQ(hp:PassesOwn (model X.prog X.w) X.A X.env X.xe)(hc:X.calm=true)(hi:PI X tg iter wi)(hg:PG X tg g)(hb:RM X body tb)
  (hs:∀x,foldedSetIterable iter X.env x=pure x:=by intro _;rfl):PS X (.For tg iter body [] pos) (ahm wi g tb):=aeB hp hc hi hg hb hs
theorem dI{α:Type}{us:List α}(h:us.length=1):∃a,us=[a]:=match us,h with | [a],_=>⟨a,rfl⟩
theorem fC{α:Type}{us:List α}(h:us.length=2):∃a b,us=[a,b]:=match us,h with | [a,b],_=>⟨a,b,rfl⟩
theorem Dr{α:Type}{us:List α}(h:us.length=3):∃a b c,us=[a,b,c]:=match us,h with | [a,b,c],_=>⟨a,b,c,rfl⟩
theorem acp{α:Type}{us:List α}(h:us.length=4):∃a b c d,us=[a,b,c,d]:=match us,h with | [a,b,c,d],_=>⟨a,b,c,d,rfl⟩
inductive Dt where
 | non | bl (b:Bool) | int (i:Int) | str (x:Str) | tup (ds:List Dt) | lst (ds:List Dt)
mutual
inductive Is (K:Frag) (H:Hp):V->Dt->Prop
 | non:Is K H .non .non
 | bl (b:Bool):Is K H (.bl b) (.bl b)
 | int (i:Int):Is K H (.int i) (.int i)
 | str (x:Str):Is K H (.str x) (.str x)
 | tup {a:Addr} {xs:List V} {ds:List Dt}:zT K H a xs->Ug K H xs ds->Is K H (.ref a) (.tup ds)
 | lst {a:Addr} {xs:List V} {ds:List Dt}:De K H a xs->Ug K H xs ds->Is K H (.ref a) (.lst ds)
inductive Ug (K:Frag) (H:Hp):List V->List Dt->Prop
 | nil:Ug K H [] []
 | cons {x:V} {d:Dt} {xs:List V} {ds:List Dt}:Is K H x d->Ug K H xs ds->Ug K H (x::xs) (d::ds)
end
mutual
def pM:Dt->Dt->Bool
 | .non,.non=>true
 | .bl a,.bl b=>a==b
 | .bl a,.int b=>(if a then 1 else 0)==b
 | .int a,.bl b=>a==(if b then 1 else 0)
 | .int a,.int b=>a==b
 | .str a,.str b=>a==b
 | .tup ds,.tup es=>Fo ds es
 | .lst ds,.lst es=>Fo ds es
 | _,_=>false
def Fo:List Dt->List Dt->Bool
 | [],[]=>true
 | d::ds,e::es=>pM d e&&Fo ds es
 | _,_=>false
end
mutual
def dep:Dt->Nat
 | .tup ds=>deps ds+1
 | .lst ds=>deps ds+1
 | _=>0
def deps:List Dt->Nat
 | []=>0
 | d::ds=>max (dep d) (deps ds)
end
mutual
theorem M_:∀d:Dt,pM d d=true
 | .non=>by unfold pM;rfl
 | .bl a=>by unfold pM;simp
 | .int a=>by unfold pM;simp
 | .str a=>by unfold pM;simp
 | .tup ds=>by unfold pM;exact Jc ds
 | .lst ds=>by unfold pM;exact Jc ds
theorem Jc:∀ds:List Dt,Fo ds ds=true
 | []=>by unfold Fo;rfl
 | d::ds=>by unfold Fo;rw[M_ d,Jc ds];rfl
end
theorem M8:∀{ds es:List Dt},ds.length≠es.length->Fo ds es=false
 | [],[],h=>absurd rfl h
 | [],_::_,_=>by unfold Fo;rfl
 | _::_,[],_=>by unfold Fo;rfl
 | d::ds,e::es,h=>by
  unfold Fo
  rw[M8 (ds:=ds) (es:=es) λz=>h (by rw[List.length_cons,List.length_cons,z]),Bool.and_false]
theorem M9:∀{ds es:List Dt},ds.length=es.length->(List.range ds.length).all (λj=>pM (ds.getD j .non) (es.getD j .non))=Fo ds es
 | [],[],_=>by unfold Fo;rfl
 | [],_::_,h=>by cases h
 | _::_,[],h=>by cases h
 | d::ds,e::es,h=>by
  have ih:=M9 (ds:=ds) (es:=es) (Nat.succ.inj h)
  rw[List.length_cons,List.range_succ_eq_map,List.all_cons,List.all_map,Fo,<-ih]
  rfl
theorem Ug.length{K:Frag}{H:Hp}:∀{xs:List V} {ds:List Dt},Ug K H xs ds->xs.length=ds.length
 | _,_,.nil=>rfl
 | _,_,.cons _ r=>by rw[List.length_cons,List.length_cons,Ug.length r]
theorem Ug.get{K:Frag}{H:Hp}:∀{xs:List V} {ds:List Dt} {i:Nat} {x:V},Ug K H xs ds->xs[i]? = some x->∃d,ds[i]? = some d/\Is K H x d
 | _,_,_,_,.nil,e=>by simp at e
 | _,_,0,_,.cons r _,e=>by simp at e;subst e;exact⟨_,rfl,r⟩
 | _,_,i+1,x,.cons _ t,e=>by
  obtain⟨d,h1,h2⟩:=Ug.get (i:=i) (x:=x) t (by simpa using e)
  exact⟨d,by simpa using h1,h2⟩
theorem acJ(ds es:List Dt):pM (.tup ds) (.tup es)=Fo ds es:=by unfold pM;rfl
theorem WT(ds es:List Dt):pM (.lst ds) (.lst es)=Fo ds es:=by unfold pM;rfl
section
variable{X:Cx}{pins:List (Addr×Obj)}{σ:St}{H:Hp}{s:Shared}
theorem Inv.S6(I:Inv X pins σ H s)(h:zT X.K H a xs)(h':De X.K H a ys):False:=by
 obtain⟨its,_,pt,_⟩:=I.tuple h
 obtain⟨jts,_,pl,_⟩:=I.list h'
 obtain⟨o,e,c,_⟩:=pt
 obtain⟨o',n',e',c',_⟩:=pl
 rw[e]at e';cases e'
 rw[c]at c'
 injection c' with z
 exact absurd z (by decide)
mutual
theorem Inv.aaE(I:Inv X pins σ H s):∀{v:V} {d e:Dt},Is X.K H v d->Is X.K H v e->d=e
 | _,_,_,.non,.non=>rfl
 | _,_,_,.bl _,.bl _=>rfl
 | _,_,_,.int _,.int _=>rfl
 | _,_,_,.str _,.str _=>rfl
 | _,_,_,.tup q r,.tup q' r'=>congrArg Dt.tup (Inv.QX I r (I.Om q q'▸r'))
 | _,_,_,.lst q r,.lst q' r'=>congrArg Dt.lst (Inv.QX I r (I.Td q q'▸r'))
 | _,_,_,.tup q _,.lst q' _=>(I.S6 q q').elim
 | _,_,_,.lst q _,.tup q' _=>(I.S6 q' q).elim
theorem Inv.QX(I:Inv X pins σ H s):∀{vs:List V} {ds es:List Dt},Ug X.K H vs ds->Ug X.K H vs es->ds=es
 | _,_,_,.nil,.nil=>rfl
 | _,_,_,.cons r t,.cons r' t'=>by rw[Inv.aaE I r r',Inv.QX I t t']
end
theorem Vx:∀{ds:List Dt} {j:Nat} {d:Dt},ds[j]? = some d->dep d<=deps ds
 | [],_,_,e=>by simp at e
 | d'::ds,0,d,e=>by simp at e;subst e;unfold deps;exact Nat.le_max_left _ _
 | d'::ds,j+1,d,e=>by
  have:=Vx (ds:=ds) (j:=j) (d:=d) (by simpa using e)
  unfold deps
  exact yY this (Nat.le_max_right _ _)
theorem Th(r1:Vals xs its)(r2:Vals ys jts)(q1:Ug X.K H xs ds)(q2:Ug X.K H ys es)
  (ih:∀(j:Nat) (x y:V) (d e:Dt) (u v:Value),ds[j]? = some d->es[j]? = some e->Is X.K H x d->Is X.K H y e->RelV x u->RelV y v->SeqAt.EqAt A s u v (pM d e)):
  ∀j (h1:j<its.toArray.size) (h2:j<jts.toArray.size),SeqAt.EqAt A s its.toArray[j] jts.toArray[j] (pM (ds.getD j .non) (es.getD j .non)):=λj h1 h2=>by
 have l1:=r1.length
 have l2:=r2.length
 have j1:j<xs.length:=by simp at h1;omega
 have j2:j<ys.length:=by simp at h2;omega
 obtain⟨w1,g1,p1⟩:=r1.get (i:=j) (x:=xs[j]) (by simp[j1])
 obtain⟨w2,g2,p2⟩:=r2.get (i:=j) (x:=ys[j]) (by simp[j2])
 obtain⟨d,e1,i1⟩:=q1.get (i:=j) (x:=xs[j]) (by simp[j1])
 obtain⟨e,e2,i2⟩:=q2.get (i:=j) (x:=ys[j]) (by simp[j2])
 have d1:ds.getD j .non=d:=by simp[List.getD,e1]
 have d2:es.getD j .non=e:=by simp[List.getD,e2]
 have c1:its.toArray[j]=w1:=by
  have:=List.getElem?_eq_some_iff.mp g1
  simpa using this.2
 have c2:jts.toArray[j]=w2:=by
  have:=List.getElem?_eq_some_iff.mp g2
  simpa using this.2
 rw[d1,d2,c1,c2]
 exact ih j _ _ d e _ _ e1 e2 i1 i2 p1 p2
theorem Xo(h:n=m)(p:Nat->Bool):((List.range (min n m)).all p&&n==m)=(List.range n).all p:=by
 subst h
 rw[Nat.min_self]
 simp
theorem alH(hf:∀x t,u≠ .float x t)(hs:u=v->b=true)(h:SeqAt.RcAt A s u v b):SeqAt.EqAt A s u v b:=λprog w E Q hq=>by
 unfold eqBool
 refine wpAny_holding (wpAny_ite_split (λz=> ?_) λ_=> ?_)
 ·rw[hs (eq_of_beq z)]at hq
  exact zC (wpAny_rule (zI hq))
 ·cases u<;>first | exact absurd rfl (hf _ _) | exact zC (h prog w E _ (wpAny_truthy_bool hq))
theorem adm(I:Inv X pins σ H s):∀(n:Nat) (A:Around) (x y:V) (d e:Dt) (u v:Value),dep d<=n->A.units+n<cLine->Is X.K H x d->Is X.K H y e->RelV x u->RelV y v->SeqAt.RcAt A s u v (pM d e)/\SeqAt.RcNeAt A s u v (!pM d e):=by
 intro n
 induction n using Nat.strongRecOn with
 | ind n ih=>
  intro A x y d e u v hd hu hx hy rx ry
  have hu0:A.units<cLine:=()
  have in1:A.in1.units=A.units+1:=rfl
  have ih':∀d',dep d'<n->∀(x y:V) (e:Dt) (u v:Value),Is X.K H x d'->Is X.K H y e->RelV x u->RelV y v->SeqAt.EqAt A.in1 s u v (pM d' e):=λd' hd x y e u v hx hy rx ry=>alH (λb t z=>by
   subst z
   cases hx<;>first | (obtain⟨_,z⟩:=rx;cases z) | cases rx) (λz=>by
   subst z
   cases rx.inj ry
   rw[I.aaE hx hy,M_]) (ih _ hd A.in1 x y d' e u v (jS _) () hx hy rx ry).1
  cases hx with
  | non=>
   cases rx
   cases hy with
   | non=>cases ry;unfold pM;exact⟨.none_none,.none_none⟩
   | bl b=>cases ry;unfold pM;exact⟨.none_bool b,.none_bool b⟩
   | int b=>obtain⟨t,rfl⟩:=ry;unfold pM;exact⟨.none_int b t,.none_int b t⟩
   | str b=>obtain⟨t,rfl⟩:=ry;unfold pM;exact⟨.none_str b t,.none_str b t⟩
   | tup q r=>cases ry;obtain⟨_,_,p,_⟩:=I.tuple q;unfold pM;exact⟨.none_tuple p hu0,.none_tuple p hu0⟩
   | lst q r=>cases ry;obtain⟨_,_,p,_⟩:=I.list q;unfold pM;exact⟨.none_list p.isList hu0,.none_list p.isList hu0⟩
  | bl a=>
   cases rx
   cases hy with
   | non=>cases ry;unfold pM;exact⟨.bool_none a,.bool_none a⟩
   | bl b=>cases ry;unfold pM;exact⟨.bool_bool a b,.bool_bool a b⟩
   | int b=>obtain⟨t,rfl⟩:=ry;unfold pM;exact⟨.bool_int a b t,.bool_int a b t⟩
   | str b=>obtain⟨t,rfl⟩:=ry;unfold pM;exact⟨.bool_str a b t,.bool_str a b t⟩
   | tup q r=>cases ry;obtain⟨_,_,p,_⟩:=I.tuple q;unfold pM;exact⟨.bool_tuple a p hu0,.bool_tuple a p hu0⟩
   | lst q r=>cases ry;obtain⟨_,_,p,_⟩:=I.list q;unfold pM;exact⟨.bool_list a p.isList hu0,.bool_list a p.isList hu0⟩
  | int a=>
   obtain⟨t',rfl⟩:=rx
   cases hy with
   | non=>cases ry;unfold pM;exact⟨.int_none a t',.int_none a t'⟩
   | bl b=>cases ry;unfold pM;exact⟨.int_bool a t' b,.int_bool a t' b⟩
   | int b=>obtain⟨t,rfl⟩:=ry;unfold pM;exact⟨.int_int a t' b t,.int_int a t' b t⟩
   | str b=>obtain⟨t,rfl⟩:=ry;unfold pM;exact⟨.int_str a t' b t,.int_str a t' b t⟩
   | tup q r=>cases ry;obtain⟨_,_,p,_⟩:=I.tuple q;unfold pM;exact⟨.int_tuple a t' p hu0,.int_tuple a t' p hu0⟩
   | lst q r=>cases ry;obtain⟨_,_,p,_⟩:=I.list q;unfold pM;exact⟨.int_list a t' p.isList hu0,.int_list a t' p.isList hu0⟩
  | str a=>
   obtain⟨t',rfl⟩:=rx
   cases hy with
   | non=>cases ry;unfold pM;exact⟨.str_none a t',.str_none a t'⟩
   | bl b=>cases ry;unfold pM;exact⟨.str_bool a t' b,.str_bool a t' b⟩
   | int b=>obtain⟨t,rfl⟩:=ry;unfold pM;exact⟨.str_int a t' b t,.str_int a t' b t⟩
   | str b=>obtain⟨t,rfl⟩:=ry;unfold pM;exact⟨.str_str a t' b t,.str_str a t' b t⟩
   | tup q r=>cases ry;obtain⟨_,_,p,_⟩:=I.tuple q;unfold pM;exact⟨.str_tuple a t' p hu0,.str_tuple a t' p hu0⟩
   | lst q r=>cases ry;obtain⟨_,_,p,_⟩:=I.list q;unfold pM;exact⟨.str_list a t' p.isList hu0,.str_list a t' p.isList hu0⟩
  | @tup a xs ds q r=>
   cases(show u=Value.ref a from rx)
   obtain⟨its,r1,p1,_⟩:=I.tuple q
   cases hy with
   | non=>cases ry;unfold pM;exact⟨.tuple_none p1 hu0,.tuple_none p1 hu0⟩
   | bl b=>cases ry;unfold pM;exact⟨.tuple_bool b p1 hu0,.tuple_bool b p1 hu0⟩
   | int b=>obtain⟨t,rfl⟩:=ry;unfold pM;exact⟨.tuple_int b t p1 hu0,.tuple_int b t p1 hu0⟩
   | str b=>obtain⟨t,rfl⟩:=ry;unfold pM;exact⟨.tuple_str b t p1 hu0,.tuple_str b t p1 hu0⟩
   | lst q' r'=>cases ry;obtain⟨_,_,p,_⟩:=I.list q';unfold pM;exact⟨.tuple_list p1 p.isList hu0,.tuple_list p1 p.isList hu0⟩
   | @tup b ys es q' r'=>
    cases(show v=Value.ref b from ry)
    obtain⟨jts,r2,p2,_⟩:=I.tuple q'
    have l1:=r1.length
    have l2:=r2.length
    have l3:=r.length
    have l4:=r'.length
    have dl:deps ds<n:=by unfold dep at hd;omega
    have it:=Th (A:=A.in1) (s:=s) r1 r2 r r' λj x y d e u v h1 h2 ix iy rx ry=>ih' d (Nat.lt_of_le_of_lt (Vx h1) dl) x y e u v ix iy rx ry
    have ez:((List.range (min its.toArray.size jts.toArray.size)).all (λj=>pM (ds.getD j .non) (es.getD j .non))&&its.toArray.size==jts.toArray.size)=pM (.tup ds) (.tup es):=by
     rw[acJ]
     by_cases hl:ds.length=es.length
     ·rw[Xo (by simp;omega),<-M9 hl]
      congr 2
      simp;omega
     ·rw[M8 hl]
      have:(its.toArray.size==jts.toArray.size)=false:=by simp;omega
      rw[this,Bool.and_false]
    rw[<-ez]
    exact⟨.tuples (e:=λj=>pM (ds.getD j .non) (es.getD j .non)) p1 p2 hu0 it,.tuples (e:=λj=>pM (ds.getD j .non) (es.getD j .non)) p1 p2 hu0 it⟩
  | @lst a xs ds q r=>
   cases(show u=Value.ref a from rx)
   obtain⟨its,r1,p1,_⟩:=I.list q
   cases hy with
   | non=>cases ry;unfold pM;exact⟨.list_none p1.isList hu0,.list_none p1.isList hu0⟩
   | bl b=>cases ry;unfold pM;exact⟨.list_bool b p1.isList hu0,.list_bool b p1.isList hu0⟩
   | int b=>obtain⟨t,rfl⟩:=ry;unfold pM;exact⟨.list_int b t p1.isList hu0,.list_int b t p1.isList hu0⟩
   | str b=>obtain⟨t,rfl⟩:=ry;unfold pM;exact⟨.list_str b t p1.isList hu0,.list_str b t p1.isList hu0⟩
   | tup q' r'=>cases ry;obtain⟨_,_,p,_⟩:=I.tuple q';unfold pM;exact⟨.list_tuple p1.isList p hu0,.list_tuple p1.isList p hu0⟩
   | @lst b ys es q' r'=>
    cases(show v=Value.ref b from ry)
    obtain⟨jts,r2,p2,_⟩:=I.list q'
    have l1:=r1.length
    have l2:=r2.length
    have l3:=r.length
    have l4:=r'.length
    have dl:deps ds<n:=by unfold dep at hd;omega
    have it:=Th (A:=A.in1) (s:=s) r1 r2 r r' λj x y d e u v h1 h2 ix iy rx ry=>ih' d (Nat.lt_of_le_of_lt (Vx h1) dl) x y e u v ix iy rx ry
    by_cases hl:ds.length=es.length
    ·have ez:(List.range its.toArray.size).all (λj=>pM (ds.getD j .non) (es.getD j .non))=pM (.lst ds) (.lst es):=by
      rw[WT,<-M9 hl]
      congr 2
      simp;omega
     have sz:its.toArray.size=jts.toArray.size:=by simp;omega
     rw[<-ez]
     exact⟨.lists (e:=λj=>pM (ds.getD j .non) (es.getD j .non)) p1.isList p2.isList sz hu0 it,.lists (e:=λj=>pM (ds.getD j .non) (es.getD j .non)) p1.isList p2.isList sz hu0 it⟩
    ·have sz:(its.toArray.size != jts.toArray.size)=true:=by simp;omega
     rw[WT,M8 hl]
     exact⟨.lists_lengths p1.isList p2.isList sz hu0,.lists_lengths p1.isList p2.isList sz hu0⟩
end
def atp(K:Frag):R2:=λx y H Q=>∃d e,Is K H x d/\Is K H y e/\dep d<=20/\Q (.bl (pM d e)) H
def atn(K:Frag):R2:=λx y H Q=>∃d e,Is K H x d/\Is K H y e/\dep d<=20/\Q (.bl (!pM d e)) H
theorem ae3(hu:X.A.units+64<cLine):Bl X (compareOp .Eq) (atp X.K):=by
 intro pins s σ H x y v u Q I rx ry h
 obtain⟨d,e,hx,hy,hd,q⟩:=h
 exact(adm I 20 X.A _ _ _ _ _ _ hd () hx hy rx ry).1 _ _ _ _ ⟨.bl _,H,I,rfl,q⟩
theorem aeY(hu:X.A.units+64<cLine):Bl X (compareOp .NotEq) (atn X.K):=by
 intro pins s σ H x y v u Q I rx ry h
 obtain⟨d,e,hx,hy,hd,q⟩:=h
 exact(adm I 20 X.A _ _ _ _ _ _ hd () hx hy rx ry).2 _ _ _ _ ⟨.bl _,H,I,rfl,q⟩
end L2
namespace HM
open PySem
theorem Rq(x:Int):Builtin.bitNot (Builtin.bitNot x)=x:=by
 unfold Builtin.bitNot;omega
theorem TV(n:Nat):¬(0<=Builtin.bitNot (n:Int)):=by
 unfold Builtin.bitNot;omega
theorem Hu(a b:Nat):Builtin.bitAnd (a:Int) (b:Int)=((a &&& b:Nat):Int):=by
 unfold Builtin.bitAnd
 simp
theorem yK(a b:Nat):Builtin.bitOr (a:Int) (b:Int)=((a ||| b:Nat):Int):=by
 unfold Builtin.bitOr Builtin.bitAnd
 rw[zad (TV a),zad (TV b)]
 dsimp only
 rw[Rq,Rq,Rq]
 simp
def aN(n:Nat):List Nat:=(List.range 60).filter λh=>n.testBit h
def cnt(n:Nat):Nat:=(aN n).length
def setOf(hs:List Nat):Nat:=hs.foldl (λS h=>S ||| 2 ^ h) 0
theorem Qw(h:Nat):(1:Int)*2 ^ h=((2 ^ h:Nat):Int):=by simp
theorem VP(n h:Nat):(n &&& 2 ^ h≠0)↔n.testBit h=true:=by
 constructor
 ·intro hn
  cases e:n.testBit h with
  | true=>rfl
  | false=>
   refine absurd (Nat.eq_of_testBit_eq λi=> ?_) hn
   rw[Nat.testBit_and,Nat.testBit_two_pow,Nat.zero_testBit]
   by_cases hi:h=i
   ·subst hi;simp[e]
   ·simp[hi]
 ·intro e hz
  have t:(n &&& 2 ^ h).testBit h=true:=by rw[Nat.testBit_and,e,Nat.testBit_two_pow];simp
  rw[hz,Nat.zero_testBit]at t
  cases t
theorem R9(n h:Nat):((n / 2 ^ h) &&& 1=1)↔n.testBit h=true:=by
 rw[Nat.and_one_is_mod,Nat.testBit_eq_decide_div_mod_eq]
 simp
theorem KC(hn:n<2 ^ 60)(e:n.testBit h=true):h<60:=by
 by_cases hh:h<60
 ·exact hh
 ·have:n<2 ^ h:=yA hn (Nat.pow_le_pow_right (by decide) ())
  rw[Nat.testBit_lt_two_pow this]at e
  cases e
theorem Bv(hab:a<=b)(h:∀i,a<=i->i<b->p i=false):(List.range b).filter p=(List.range a).filter p:=by
 obtain⟨k,rfl⟩:=Nat.exists_eq_add_of_le hab
 rw[List.range_add,List.filter_append]
 have:(List.map (λx=>a+x) (List.range k)).filter p=[]:=by
  rw[List.filter_eq_nil_iff]
  intro x hx
  obtain⟨j,hj,rfl⟩:=List.mem_map.mp hx
  rw[h (a+j) () (by have:=List.mem_range.mp hj;omega)]
  decide
 rw[this,List.append_nil]
theorem Q8(n:Nat)(hn:n<2 ^ 60):(List.range (Builtin.Int.intBits (n:Int))).filter (λh=>n.testBit h)=aN n:=by
 unfold aN
 have awB:∀h,n.testBit h=true->h<Builtin.Int.intBits (n:Int):=by
  intro h e
  have h0:n≠0:=by rintro rfl;rw[Nat.zero_testBit]at e;cases e
  unfold Builtin.Int.intBits
  have:¬((n:Int)==0)=true:=by simp[h0]
  rw[if_neg this]
  by_cases hh:h<n.log2+1
  ·simpa using hh
  ·have:n<2 ^ h:=yA (Nat.lt_log2_self) (Nat.pow_le_pow_right (by decide) ())
   rw[Nat.testBit_lt_two_pow this]at e
   cases e
 rcases Nat.le_total (Builtin.Int.intBits (n:Int)) 60 with h | h
 ·refine(Bv h λi hi _=> ?_).symm
  cases e:n.testBit i with
  | false=>rfl
  | true=>have:=awB i e;omega
 ·refine Bv h λi hi _=> ?_
  cases e:n.testBit i with
  | false=>rfl
  | true=>have:=KC hn e;omega
theorem intBits_le(n:Nat)(hn:n<2 ^ 60):Builtin.Int.intBits (n:Int)<=60:=by
 unfold Builtin.Int.intBits
 split
 ·decide
 ·rename_i h
  have h0:n≠0:=by rintro rfl;simp at h
  have:(n:Int).natAbs.log2<60:=by
   have e:(n:Int).natAbs=n:=by simp
   rw[e]
   exact(Nat.log2_lt h0).mpr hn
  omega
theorem NT(hs:List Nat)(i:Nat):(setOf hs).testBit i=decide (i∈hs):=by
 unfold setOf
 have go:∀(hs:List Nat) (S:Nat),(hs.foldl (λS h=>S ||| 2 ^ h) S).testBit i=(S.testBit i||decide (i∈hs)):=by
  intro hs
  induction hs with
  | nil=>intro S;simp
  | cons h r ih=>
   intro S
   rw[List.foldl_cons,ih,Nat.testBit_or,Nat.testBit_two_pow]
   by_cases e:h=i
   ·subst e;simp
   ·have e':¬i=h:=λz=>e z.symm
    simp[e,e']
 rw[go];simp
theorem xV:h∈aN n↔h<60/\n.testBit h=true:=by
 unfold aN;rw[List.mem_filter,List.mem_range]
theorem Ea(n:Nat)(hn:n<2 ^ 60):setOf (aN n)=n:=by
 refine Nat.eq_of_testBit_eq λi=> ?_
 rw[NT]
 cases e:n.testBit i with
 | true=>exact zae (xV.mpr ⟨KC hn e,e⟩)
 | false=>exact zad λz=>by rw[(xV.mp z).2]at e;cases e
end HM
set_option Elab.async false
set_option linter.all false
set_option maxRecDepth 100000
namespace L2
open PySem PySem.Spec PyProof.Rows
section
variable{κ:Type}[DecidableEq κ]
noncomputable def DR(kvs:List (κ×V))(k:κ):Option V:=(kvs.find? λkv=>decide (kv.1=k)).map (·.2)
noncomputable def putK(kvs:List (κ×V))(k:κ)(v:V):List (κ×V):=
 if(kvs.any λkv=>decide (kv.1=k))=true then kvs.map (λkv=>if kv.1=k then(kv.1,v)else kv)else kvs++[(k,v)]
theorem Fy{p:κ×V}{r:List (κ×V)}{k:κ}(e:p.1=k):DR (p::r) k=some p.2:=by simp[DR,List.find?_cons,e]
theorem Fz{p:κ×V}{r:List (κ×V)}{k:κ}(e:¬p.1=k):DR (p::r) k=DR r k:=by simp[DR,List.find?_cons,e]
theorem RV(k:κ):∀kvs:List (κ×V),(kvs.any λkv=>decide (kv.1=k))=(DR kvs k).isSome
 | []=>rfl
 | p::r=>by
  rw[List.any_cons]
  by_cases e:p.1=k
  ·simp only[Fy e,zae e,Bool.true_or,Option.isSome_some]
  ·rw[Fz e,zad e,Bool.false_or];exact RV k r
theorem Jt(kvs:List (κ×V))(k:κ)(v:V):(putK kvs k v).length<=kvs.length+1:=by
 unfold putK
 split
 ·rw[zak];omega
 ·rw[List.length_append,List.length_cons,List.length_nil];omega
theorem D_.IV(r:D_ o u):o.isSome=u.isSome:=by
 cases o with
 | none=>cases u with
  | none=>rfl
  | some _=>exact(show False from r).elim
 | some _=>cases u with
  | none=>exact(show False from r).elim
  | some _=>rfl
theorem KV.val(r:KV kvs vs)(k:κ):D_ (DR kvs k) (valueAt vs k):=by
 unfold KV at r
 induction r with
 | nil=>exact jI
 | @cons p q ps qs h t ih=>
  obtain⟨h1,h2⟩:=h
  by_cases e:p.1=k
  ·have e':q.1=k:=h1.symm.trans e
   have b:valueAt (q::qs) k=some q.2:=by simp[valueAt,List.find?_cons,e']
   rw[Fy e,b];exact h2
  ·have e':¬q.1=k:=λz=>e (h1.trans z)
   have b:valueAt (q::qs) k=valueAt qs k:=by simp[valueAt,List.find?_cons,e']
   rw[Fz e,b];exact ih
theorem KV.any(r:KV kvs vs)(k:κ):(kvs.any λkv=>decide (kv.1=k))=vs.any λkv=>decide (kv.1=k):=by
 unfold KV at r
 induction r with
 | nil=>rfl
 | cons h t ih=>rw[List.any_cons,List.any_cons,ih,h.1]
theorem KV.repl(r:KV kvs vs)(k:κ)(ry:RelV y u):
  KV (kvs.map λkv=>if kv.1=k then(kv.1,y)else kv) (vs.map λkv=>if kv.1=k then(kv.1,u)else kv):=by
 unfold KV at r ⊢
 induction r with
 | nil=>exact .nil
 | @cons p q ps qs h t ih=>
  rw[List.map_cons,List.map_cons]
  refine .cons ?_ ih
  obtain⟨h1,h2⟩:=h
  by_cases e:p.1=k
  ·rw[if_pos e,if_pos (h1.symm.trans e)];exact⟨h1,ry⟩
  ·rw[if_neg e,if_neg (λz=>e (h1.trans z))];exact⟨h1,h2⟩
theorem KV.put(r:KV kvs vs)(k:κ)(ry:RelV y u):KV (putK kvs k y) (stored vs k u):=by
 unfold putK stored
 rw[r.any k]
 by_cases e:(vs.any λkv=>decide (kv.1=k))=true
 ·rw[if_pos e,if_pos e];exact r.repl k ry
 ·rw[if_neg e,if_neg e];exact Paired.snoc r ⟨rfl,ry⟩
theorem KV.length(r:KV kvs vs):kvs.length=vs.length:=Paired.length r
end
theorem Wz(r:RelV (kV k) u):(jl P w).is k u=true:=by
 cases k with
 | inl i=>obtain⟨t,e⟩:=(show ∃t,u=Value.int i t from r);subst e;exact S9 P w i t
 | inr x=>obtain⟨t,e⟩:=(show ∃t,u=Value.str x t from r);subst e;exact S8 P w x t
theorem O6:∀{ks:List Key} {us:List Value},Vals (ks.map kV) us->ItemsAre (jl P w) ks us
 | [],_,r=>by rw[List.map_nil]at r;cases r;exact .nil
 | k::ks,_,r=>by
  rw[List.map_cons]at r
  cases r with
  | cons h t=>exact .cons (Wz h) (O6 t)
abbrev KT(H:Hp):List (List Key×V)->List (List Key×Addr×Value)->Prop:=Paired λp q=>p.1=q.1/\H q.2.1=some (.tup (p.1.map kV))/\RelV p.2 q.2.2
theorem KT.val(r:KT H kvs xs)(k:List Key):D_ (DR kvs k) ((atKey xs k).map (·.2)):=by
 induction r with
 | nil=>exact jI
 | @cons p q ps qs h t ih=>
  obtain⟨h1,_,h2⟩:=h
  by_cases e:p.1=k
  ·have e':q.1=k:=h1.symm.trans e
   have b:atKey (q::qs) k=some q.2:=by simp[atKey,List.find?_cons,e']
   rw[Fy e,b];exact h2
  ·have e':¬q.1=k:=λz=>e (h1.trans z)
   have b:atKey (q::qs) k=atKey qs k:=by simp[atKey,List.find?_cons,e']
   rw[Fz e,b];exact ih
theorem KT.repl(r:KT H kvs xs)(k:List Key)(ry:RelV y u):
  KT H (kvs.map λkv=>if kv.1=k then(kv.1,y)else kv) (xs.map (putAt k u)):=by
 induction r with
 | nil=>exact .nil
 | @cons p q ps qs h t ih=>
  rw[List.map_cons,List.map_cons]
  refine .cons ?_ ih
  obtain⟨h1,h2,h3⟩:=h
  unfold putAt
  by_cases e:p.1=k
  ·rw[if_pos e,if_pos (h1.symm.trans e)];exact⟨h1,h2,ry⟩
  ·rw[if_neg e,if_neg (λz=>e (h1.trans z))];exact⟨h1,h2,h3⟩
theorem KT.put(r:KT H kvs xs)(k:List Key)(hb:H b=some (.tup (k.map kV)))(ry:RelV y u):
  KT H (putK kvs k y) (storedH xs k b u):=by
 have e:(kvs.any λkv=>decide (kv.1=k))=(atKey xs k).isSome:=by
  rw[RV,(r.val k).IV,Option.isSome_map]
 unfold putK storedH
 rw[e]
 by_cases q:(atKey xs k).isSome=true
 ·rw[if_pos q,if_pos q];exact r.repl k ry
 ·rw[if_neg q,if_neg q];exact Paired.snoc r ⟨rfl,hb,ry⟩
theorem KT.keeps(r:KT H kvs xs)(ht:∀b ys,H b=some (.tup ys)->H' b=some (.tup ys)):KT H' kvs xs:=
 Paired.afb r λ_ _ z=>⟨z.1,ht _ _ z.2.1,z.2.2⟩
section
variable{P:Program}{w:World}{H:Hp}{h:Heap}{a:Addr}
theorem adl(ok:yM P w H h)(e:Rd H a u):fu P w H h a u:=e.ok ok
theorem Pb(ok:yM P w H h)(e:Rd H a (.dK kvs)):kvs.length<=sizeLine/\(a==sysModules)=false/\∃vs,KV kvs vs/\h.DictOf (jl P w) a vs:=
 show fu P w H h a (.dK kvs)from adl ok e
theorem aaS(ok:yM P w H h)(e:H a=some (.dK kvs)):kvs.length<=sizeLine/\(a==sysModules)=false/\∃vs,KV kvs vs/\h.DictOf (jl P w) a vs:=Pb ok (.inl e)
theorem QT(ok:yM P w H h)(e:H a=some (.tup (ks.map kV))):(tupleKind (jl P w)).is h ks a:=by
 obtain⟨_,its,r,o,h1,h2,n,h3⟩:=(show fu P w H h a (.tup (ks.map kV))from ok a _ e)
 exact⟨o,its.toArray,n,h1,h2,h3,by simpa using O6 r⟩
theorem Tt(ok:yM P w H h)(e:Rd H a (.dT kvs)):kvs.length<=sizeLine/\(a==sysModules)=false/\
  ∃xs,KT H kvs xs/\h.DictOfH (tupleKind (jl P w)) a xs:=by
 obtain⟨z,y,xs,r,o,es,ep,h1,h2,h3,h4,h5⟩:=(show fu P w H h a (.dT kvs)from adl ok e)
 refine⟨z,y,xs,r,o,es,ep,h1,h2,h3,h4,λx hx=> ?_,h5⟩
 have all:∀{l:List (List Key×V)} {m:List (List Key×Addr×Value)},KT H l m->∀x∈m,(tupleKind (jl P w)).is h x.1 x.2.1:=by
  intro l m q
  induction q with
  | nil=>intro x hx;exact nomatch hx
  | @cons p q ps qs hq t ih=>
   intro x hx
   rcases List.mem_cons.mp hx with e | hx
   ·subst e
    exact QT ok (by rw[<-hq.1];exact hq.2.1)
   ·exact ih x hx
 exact all r x hx
theorem adB(ok:yM P w H h)(e:H a=some (.dT kvs)):kvs.length<=sizeLine/\(a==sysModules)=false/\
  ∃xs,KT H kvs xs/\h.DictOfH (tupleKind (jl P w)) a xs:=Tt ok (.inl e)
end
def J3(H:Hp)(a:Addr)(y:V)(r:Option V):Prop:=
 (∃kvs k,Rd H a (.dK kvs)/\y=kV k/\r=DR kvs k)\/∃kvs k b,Rd H a (.dT kvs)/\y= .ref b/\H b=some (.tup (k.map kV))/\r=DR kvs k
def RJ(H:Hp)(a:Addr)(y v:V)(H':Hp):Prop:=
 (∃kvs k,H a=some (.dK kvs)/\y=kV k/\kvs.length<sizeLine/\H'=upd H a (.dK (putK kvs k v)))\/
 ∃kvs k b,H a=some (.dT kvs)/\y= .ref b/\H b=some (.tup (k.map kV))/\kvs.length<sizeLine/\H'=upd H a (.dT (putK kvs k v))
theorem J3.k{H:Hp}{a:Addr}{kvs:List (Key×V)}{k:Key}(e:H a=some (.dK kvs)):J3 H a (kV k) (DR kvs k):= .inl ⟨kvs,k,.inl e,rfl,rfl⟩
theorem J3.t{kvs:List (List Key×V)}{k:List Key}(e:H a=some (.dT kvs))(eb:H b=some (.tup (k.map kV))):J3 H a (.ref b) (DR kvs k):= .inr ⟨kvs,k,b,.inl e,rfl,eb,rfl⟩
theorem RJ.k{H:Hp}{a:Addr}{kvs:List (Key×V)}{k:Key}{v:V}(e:H a=some (.dK kvs))(hl:kvs.length<sizeLine):RJ H a (kV k) v (upd H a (.dK (putK kvs k v))):= .inl ⟨kvs,k,e,rfl,hl,rfl⟩
theorem RJ.t{kvs:List (List Key×V)}{k:List Key}(e:H a=some (.dT kvs))(eb:H b=some (.tup (k.map kV)))(hl:kvs.length<sizeLine):
  RJ H a (.ref b) v (upd H a (.dT (putK kvs k v))):= .inr ⟨kvs,k,b,e,rfl,eb,hl,rfl⟩
section
variable{X:Cx}{pins:List (Addr×Obj)}{σ:St}{H:Hp}{s:Shared}{a:Addr}{y v:V}{u r:Value}{o:Option V}{A:Around}{E:Value->Shared->Prop}
theorem Inv.big(I:Inv X pins σ H s):sysModules<s.heap.objs.size:=by
 have h:mainGlobals<s.heap.objs.size:=(I.mod.glob.keeps I.bk).lt
 exact Nat.lt_trans (by decide) h
theorem Yl{Q:Value->Shared->Prop}(hu:A.units+1<cLine)(I:Inv X pins σ H s)(g:J3 H a y (some v))(ry:RelV y u)(h:∀w' s',Inv X pins σ H s'->RelV v w'->Q w' s'):
  wpAny (model X.prog X.w) A (getItem (.ref a) u) Q E s:=by
 rcases g with⟨kvs,k,e,ey,l⟩ | ⟨kvs,k,b,e,ey,eb,l⟩
 ·subst ey
  obtain⟨z,hd,vs,rel,dd⟩:=Pb I.hok e
  obtain⟨w',hw,rw'⟩:=D_.some_of (v:=v) (o:=valueAt vs k) (by rw[l];exact rel.val k)
  exact wpAny_getItem_of (Wz ry) dd.mapOf hw (h w' _ (I.tok _) rw')
 ·subst ey
  cases(show u=Value.ref b from ry)
  obtain⟨z,hd,xs,rel,dd⟩:=Tt I.hok e
  obtain⟨w',hw,rw'⟩:=D_.some_of (v:=v) (o:=(atKey xs k).map (·.2)) (by rw[l];exact rel.val k)
  obtain⟨p,hp,hp2⟩:=Option.map_eq_some_iff.mp hw
  refine wpAny_getItem_heap (tupleKind_room_in1 hu) (QT I.hok eb) dd hp ?_
  rw[hp2]
  exact h w' _ (I.tok _) rw'
theorem awT{Q:Value->Shared->Prop}(hu:A.units+1<cLine)(I:Inv X pins σ H s)(g:J3 H a y o)(ry:RelV y u)(h:∀s',Inv X pins σ H s'->Q (.bool o.isSome) s'):
  wpAny (model X.prog X.w) A (compareOp .In u (.ref a)) Q E s:=by
 rcases g with⟨kvs,k,e,ey,l⟩ | ⟨kvs,k,b,e,ey,eb,l⟩
 ·subst ey
  obtain⟨z,hd,vs,rel,dd⟩:=Pb I.hok e
  refine wpAny_in_of (Wz ry) hd dd.mapOf ?_
  rw[<-(rel.val k).IV,<-l]
  exact h _ (I.tok _)
 ·subst ey
  cases(show u=Value.ref b from ry)
  obtain⟨z,hd,xs,rel,dd⟩:=Tt I.hok e
  refine wpAny_in_heap (tupleKind_room_in1 hu) (QT I.hok eb) hd dd ?_
  have q:=(rel.val k).IV
  rw[Option.isSome_map]at q
  rw[<-q,<-l]
  exact h _ (I.tok _)
theorem Rf(I:Inv X pins σ H s)(mu:Mut (H a))(hs:Heap.SameBut a s.heap h')(he:∃q,h'.get? a=some q)(new:fu X.prog X.w (upd H a ob) h' a ob):
  Inv X pins σ (upd H a ob) {s with heap:=h',toks:=t'}:=
 I.write (x:=a) (e:=a) mu (.inl rfl) (λb q hb z=>(hs.2 b hb).trans z) he new
theorem afH(z:kvs.length<=sizeLine)(hd:(a==sysModules)=false)(rel:KV kvs vs)(dd:h'.DictOf (jl P w) a vs):
  fu P w H' h' a (.dK kvs):=⟨z,hd,vs,rel,dd⟩
theorem Pg{Q:Unit->Shared->Prop}(hu:A.units+1<cLine)(I:Inv X pins σ H s)(g:RJ H a y v H')(ry:RelV y u)(rv:RelV v r)(h:∀s',Inv X pins σ H' s'->Q .unit s'):
  wpAny (model X.prog X.w) A (setItem (.ref a) u r) Q E s:=by
 rcases g with⟨kvs,k,e,ey,l,eH⟩ | ⟨kvs,k,b,e,ey,eb,l,eH⟩
 ·subst ey eH
  obtain⟨z,hd,vs,rel,dd⟩:=aaS I.hok e
  have hz:vs.length<=sizeLine:=by rw[<-rel.length];exact z
  have hl:(putK kvs k v).length<=sizeLine:=by have:=Jt kvs k v;omega
  refine wpAny_setItem_pairs (hsz:=hz) (Wz ry) dd λh' dd' hs=>h _ ?_
  have he:∃q,h'.get? a=some q:=let⟨q,_,_,hq,_⟩:=dd';⟨q,hq⟩
  exact Rf I (by rw[e];exact jI) hs he (afH hl hd (rel.put k rv) dd')
 ·subst ey eH
  cases(show u=Value.ref b from ry)
  obtain⟨z,hd,xs,rel,dd⟩:=adB I.hok e
  have hz:xs.length<=sizeLine:=by rw[<-Paired.length rel];exact z
  have hl:(putK kvs k v).length<=sizeLine:=by have:=Jt kvs k v;omega
  refine wpAny_setItem_heap (hsz:=hz) (tupleKind_room_in1 hu) (QT I.hok eb) dd λh' dd' hs=>h _ ?_
  obtain⟨q,es,ep,hq,h2,h3,h4,_,h5⟩:=dd'
  refine Rf I (by rw[e];exact jI) hs ⟨q,hq⟩ ⟨hl,hd,_,(rel.put k eb rv).keeps λc ys ec=> ?_,q,es,ep,hq,h2,h3,h4,h5⟩
  rw[aO (ai1 ec e (λz=>nomatch z))]
  exact ec
end
section
variable{X:Cx}{pins:List (Addr×Obj)}{σ:St}{H:Hp}{s:Shared}{a:Addr}{kvs:List (Key×V)}{k:Key}{u:Value}{A:Around}{E:Value->Shared->Prop}
theorem amA{Q:Value->Shared->Prop}(I:Inv X pins σ H s)(e:Rd H a (.dK kvs))(h:∀t s',Inv X pins σ H s'->Q (.int kvs.length t) s'):wpAny (model X.prog X.w) A (call (.builtin "len") [.ref a]) Q E s:=by
 obtain⟨z,hd,vs,rel,dd⟩:=Pb I.hok e
 refine call_len_dict hd dd (by rw[<-rel.length];rw[sizeLine_eq]at z;omega) ?_
 rw[<-rel.length]
 exact h _ _ (I.tok _)
end
theorem Tv(I:Inv X pins σ H s)(g:J3 H a y o):s.TypeIs (.ref a) "dict" := by
 rcases g with⟨kvs,k,e,_,_⟩ | ⟨kvs,k,b,e,_,_,_⟩
 ·obtain⟨_,_,vs,_,dd⟩:=Pb I.hok e
  exact dd.typeIs
 ·obtain⟨_,_,xs,_,dd⟩:=Tt I.hok e
  exact dd.typeIs
theorem aaT(h:Heap)(hb:sysModules<h.objs.size):fu P w H (h.push {cls:= .type "dict",data:= .dict #[]}) h.objs.size (.dK []):=
 ⟨Nat.zero_le _,beq_eq_false_iff_ne.mpr (Ne.symm (xD hb)),[],.nil,Heap.DictOf.new h⟩
def adU:TE:=λ_ H Q=>∀p,H p=none->Q (.ref p) (upd H p (.dK []))
section
variable{X:Cx}{pos:Pos}
theorem aad:PE X (.Dict [] [] pos) adU:=λpins s σ H Q I h=>
 wpAny_Dict_empty ⟨.ref s.heap.objs.size,_,I.laid (a:=s.heap.objs.size) (o:= .dK []) (t':=s.toks) (λ_ _ q=>zD _ q) (jS _) (aaT s.heap I.big),rfl,h _ (I.hok.fresh (jS _))⟩
end
structure M1(X:Cx)(o:Expr)(m:Str)(apos:Pos)(e:Expr)(cpos:Pos):Prop where
 base:attributeBase o m X.env (eval o X.env)=eval o X.env
 few:((backTo cpos (starEach [e] X.env)).all (λx=> !x.1)&&(backToKw cpos (keywordEach [] X.env)).all (λx=>x.1.isSome)
  && decide (([e]:List Expr).length+([]:List Keyword).length+(if([]:List Keyword).isEmpty then 0 else 1)<30))=true
 line:(apos.endLine==cpos.line)=true
 trees:backTo cpos (starEach [e] X.env)=[(false,eval e X.env)]
structure M2(X:Cx)(o:Expr)(m:Str)(apos:Pos)(e f:Expr)(cpos:Pos):Prop where
 base:attributeBase o m X.env (eval o X.env)=eval o X.env
 few:((backTo cpos (starEach [e,f] X.env)).all (λx=> !x.1)&&(backToKw cpos (keywordEach [] X.env)).all (λx=>x.1.isSome)
  && decide (([e,f]:List Expr).length+([]:List Keyword).length+(if([]:List Keyword).isEmpty then 0 else 1)<30))=true
 line:(apos.endLine==cpos.line)=true
 trees:backTo cpos (starEach [e,f] X.env)=[(false,eval e X.env),(false,eval f X.env)]
def IsD(H:Hp)(a:Addr):Prop:=(∃kvs,Rd H a (.dK kvs))\/∃kvs,Rd H a (.dT kvs)
theorem afu(I:Inv X pins σ H s)(d:IsD H a):
  s.TypeIs (.ref a) "dict" /\ (∀b,Value.ref a= .ref b->∃ob,s.heap.get? b=some ob/\ob.dict=none)/\(a==sysModules)=false:=by
 rcases d with⟨kvs,e⟩ | ⟨kvs,e⟩
 ·obtain⟨_,hd,vs,_,dd⟩:=Pb I.hok e
  refine⟨dd.typeIs,λb q=> ?_,hd⟩
  cases q
  obtain⟨ob,_,_,h1,h2,_⟩:=dd
  exact⟨ob,h1,h2.2.1⟩
 ·obtain⟨_,hd,xs,_,dd⟩:=Tt I.hok e
  refine⟨dd.typeIs,λb q=> ?_,hd⟩
  cases q
  obtain⟨ob,_,_,h1,h2,_⟩:=dd
  exact⟨ob,h1,h2.2.1⟩
section
variable{X:Cx}
theorem Yr:qG X (.builtin "len") (λxs H Q=>∃a kvs,xs=[V.ref a]/\H a=some (.dK kvs)/\Q (.int kvs.length) H):=by
 intro pins s σ H xs us Q I r h
 obtain⟨a,kvs,rfl,ha,q⟩:=h
 obtain⟨u,rfl,ru⟩:=vals1 r
 cases ru
 exact amA I (.inl ha) λt s' I'=>⟨.int kvs.length,H,I',⟨t,rfl⟩,q⟩
end
section
variable{prog:Program}{w:World}{A:Around}{E:Value->Shared->Prop}{s:Shared}
def given(i:Int)(t:Tok):Value:=if Builtin.SmallTypes.fitsIndex i=true then .none else .int i t
end
section
variable{X:Cx}{pins:List (Addr×Obj)}{σ:L2.St}{H:Hp}{s:Shared}{h':Heap}
theorem Inv.abf(I:Inv X pins σ H s)(k:∀c o,c≠a->c≠b->s.heap.get? c=some o->h'.get? c=some o)(fa:Hy X pins H a)(fb:Hy X pins H b):Inv X pins σ H {s with heap:=h',toks:=t'}:=by
 obtain⟨na,La,_,a1,a2,a3⟩:=fa
 obtain⟨nb,Lb,_,b1,b2,b3⟩:=fb
 have nit:∀c u,H c=some u->c≠a/\c≠b:=λc u e=>⟨(λz=>by rw[z,na]at e;cases e),(λz=>by rw[z,nb]at e;cases e)⟩
 have kk:∀c o,c∉[a,b]->s.heap.get? c=some o->h'.get? c=some o:=λc o hc e=>k c o (λz=>hc (by simp[z])) (λz=>hc (by simp[z])) e
 refine I.step (g':=s.gens) (d':=s.drawn) (ch:=[a,b]) (λc hc=> ?_) (λc o _ _ hc e _=>kk c o hc e) (λc o _ _ hc e _=>⟨o.slots,kk c o hc e⟩) (λ_ _ _ _ n=>n)
  (λc o hc e=>⟨o,kk c o hc e⟩) (λ_ _ e=>e) (λ_ _ _ e=>e) (λc ps e=>⟨#[],by rw[e];simp⟩) (λm hm=> ?_) (λc u e=> ?_) I.bare
 ·rcases List.mem_cons.mp hc with rfl | hc
  ·exact⟨a1,La,a2,a3⟩
  ·obtain rfl:c=b:=by simpa using hc
   exact⟨b1,Lb,b2,b3⟩
 ·obtain⟨o,es,ep,ho,r⟩:=hm
  exact⟨o,es,ep,k _ o (Ne.symm La) (Ne.symm Lb) ho,r⟩
 ·refine(I.hok c u e).stay (λd v hd q=> ?_) (λ_ q=>q) λ_ _ q=>q
  rcases hd with z | z
  ·rw[z]at q ⊢;exact k _ v (nit c u e).1 (nit c u e).2 q
  ·exact k _ v (nit d _ z).1 (nit d _ z).2 q
theorem Inv.Y_(I:Inv X pins σ H s)(k:∀c o,c≠a->c≠b->s.heap.get? c=some o->h'.get? c=some o)(fa:Hy X pins H a)(fb:Hy X pins H b)(hT:s.heap.objs.size<=T)(new:fu X.prog X.w (upd H T o) h' T o):
  Inv X pins σ (upd H T o) {s with heap:=h',toks:=t'}:=by
 have J:Inv X pins σ H {s with heap:=h',toks:=t'}:=I.abf k fa fb
 have hn:H T=none:=I.hok.fresh hT
 obtain⟨na,La,_,a1,a2,a3⟩:=fa
 obtain⟨nb,Lb,_,b1,b2,b3⟩:=fb
 have kk:∀c o,c∉[a,b]->s.heap.get? c=some o->h'.get? c=some o:=λc o hc e=>k c o (λz=>hc (by simp[z])) (λz=>hc (by simp[z])) e
 have ne:∀{c:Addr} {u:Obj},s.heap.get? c=some u->c≠T:=λ{c u} e=>xD (yA (zS e) hT)
 refine I.step (g':=s.gens) (d':=s.drawn) (ch:=[a,b]) (λc hc=> ?_) (λc o _ _ hc e _=>kk c o hc e) (λc o _ _ hc e _=>⟨o.slots,kk c o hc e⟩) (λc u _ e n=>by rw[aO (ne e)];exact n)
  (λc o hc e=>⟨o,kk c o hc e⟩) (λc xs e=>by rw[aO (bR e hn)];exact e) (λc ob u e=>by rw[aO (bR e hn)];exact e) (λc ps e=>⟨#[],by rw[aO (bR e hn),e];simp⟩) (λm hm=> ?_) (J.hok.track hn new) I.bare
 ·rcases List.mem_cons.mp hc with rfl | hc
  ·exact⟨a1,La,a2,a3⟩
  ·obtain rfl:c=b:=by simpa using hc
   exact⟨b1,Lb,b2,b3⟩
 ·obtain⟨o,es,ep,ho,r⟩:=hm
  exact⟨o,es,ep,k _ o (Ne.symm La) (Ne.symm Lb) ho,r⟩
end
theorem Y8:(2:Nat)<=sizeLine:=by rw[sizeLine_eq];decide
end L2
namespace L2
open PySem
structure Exc(h:Heap)(e C:Addr)(dx T:Option Addr)(fl:Value):Prop where
 at_:∃vs,h.get? e=some {cls:= .ref C,dict:=dx,data:= .fields vs}/\(match T with
  | none=>vs[1]? = some .none
  | some T=>vs[1]? = some (.ref T)/\T≠e/\∃oT ts,h.get? T=some oT/\oT.data= .fields ts/\ts[3]? = some fl)
def tQ(fs:List Addr)(e:Addr)(T:Option Addr)(h h':Heap):Prop:=
 (h.objs.size<=h'.objs.size/\∀b o,h.get? b=some o->∃o',h'.get? b=some o')/\(∀b o,b≠e->some b≠T->b∉fs->h.get? b=some o->h'.get? b=some o)/\(∀b o,b≠e->some b≠T->h.get? b=some o->∃sl,h'.get? b=some {o with slots:=sl})
theorem tQ.refl:tQ fs e T h h:=⟨⟨jS _,λb o q=>⟨o,q⟩⟩,λ_ _ _ _ _ x=>x,λ_ o _ _ x=>⟨o.slots,x⟩⟩
theorem tQ.trans(x:tQ fs e T h h1)(y:tQ fs e T' h1 h2)(hT:T'=T\/∃t,T'=some t/\h.objs.size<=t):tQ fs e T h h2:=by
 have ne:∀b o,some b≠T->h.get? b=some o->some b≠T':=λb o n q z=>by
  rcases hT with r | ⟨t,r,q2⟩
  ·exact n (z.trans r)
  ·rw[r]at z;cases z
   exact absurd (yA (zS q) q2) (wP _)
 refine⟨⟨yY x.1.1 y.1.1,λb o q=>let⟨o1,q1⟩:=x.1.2 b o q;y.1.2 b o1 q1⟩,λb o n1 n2 n3 q=>y.2.1 b o n1 (ne b o n2 q) n3 (x.2.1 b o n1 n2 n3 q),λb o n1 n2 q=> ?_⟩
 obtain⟨sl,e1⟩:=x.2.2 b o n1 n2 q
 obtain⟨sl2,e2⟩:=y.2.2 b _ n1 (ne b o n2 q) e1
 exact⟨sl2,e2⟩
section
variable{M:Model}{A:Around}{E:Value->Shared->Prop}{s:Shared}
theorem V6{Q:Unit->Shared->Prop}
  (hfr:A.frames=some (env::outer)) (hl:s.heap.FunFrames base (env::outer)) (hf:env.frame=some L)
  (he:s.heap.get? e=some {cls:= .ref C,dict:=dx,data:= .fields vs}) (hsz:1<vs.size)
  (h:∀h' T,s.heap.objs.size<=T->tQ ((env::outer).filterMap (·.frame)) e (some T) s.heap h'->Exc h' e C dx (some T) (rawInt L)->Q .unit {s with heap:=h'}):
  wpAny M A (do let a <-frameOf env;let pl <-entryPlaceOf L hadNext;let b <-EntryCells.newEntry head a .none (rawInt L) .none pl;setField (.ref e) 1 b) Q E s:=by
 have hene:e∉(env::outer).filterMap (·.frame):=λhm=>by
  obtain⟨_,o,ho,hnf⟩:=hl.mem hm
  rw[he]at ho;injection ho with ho;subst ho;exact hnf vs rfl
 refine zC (wpAny_frameOf_fun hfr hl hf λh₁ hs₁=> ?_)
 refine zC (wpAny_entryPlaceOf λpl hpl=> ?_)
 unfold EntryCells.newEntry newFields
 refine zC (wS ?_ (hpl.sizeOk5 _ _ _ _ _))
 have he₁:h₁.get? e=some {cls:= .ref C,dict:=dx,data:= .fields vs}:=(hs₁.2.1 e hene).trans he
 have he₂:=zD (h:=h₁) {cls:= .type "traceback",dict:=none,data:= .fields ([head,.ref L,.none,rawInt L,.none]++(if pl.isEmpty then List.replicate 6 Value.none else pl)).toArray} he₁
 refine wpAny_setField he₂ rfl hsz (h _ h₁.objs.size (by rw[hs₁.1];exact jS _) ?_ ?_)
 ·refine⟨⟨?_,λb o q=> ?_⟩,λb o n1 n2 n3 q=> ?_,λb o n1 n2 q=> ?_⟩
  ·rw[Heap.size_after_update,Heap.size_push,hs₁.1];omega
  ·by_cases n1:b=e
   ·subst n1
    exact⟨_,vE _ he₂ (Obj.isFreed_of_fields (Obj.data_mapFields rfl _))⟩
   ·obtain⟨sl,q1⟩:=hs₁.2.2 b o q
    exact⟨_,(xL _ _ (Ne.symm n1)).trans (zD _ q1)⟩
  ·rw[xL _ _ (Ne.symm n1)]
   exact zD _ ((hs₁.2.1 b n3).trans q)
  ·obtain⟨sl,q1⟩:=hs₁.2.2 b o q
   refine⟨sl,?_⟩
   rw[xL _ _ (Ne.symm n1)]
   exact zD _ q1
 ·have hTe:h₁.objs.size≠e:=xS (zS he₁)
  have hd₃:=Obj.data_mapFields (o:={cls:= .ref C,dict:=dx,data:= .fields vs}) rfl (·.setIfInBounds 1 (Value.ref h₁.objs.size))
  have he₃:=vE (Obj.mapFields (·.setIfInBounds 1 (Value.ref h₁.objs.size))) he₂ (Obj.isFreed_of_fields hd₃)
  have hT₃:=(xL (h₁.push {cls:= .type "traceback",dict:=none,data:= .fields ([head,.ref L,.none,rawInt L,.none]++(if pl.isEmpty then List.replicate 6 Value.none else pl)).toArray})
   (Obj.mapFields (·.setIfInBounds 1 (Value.ref h₁.objs.size))) (Ne.symm hTe)).trans (yB h₁ rfl)
  refine⟨⟨_,he₃,by simp[hsz],hTe,_,_,hT₃,rfl,by first | (simp;done) | (rcases hpl with rfl | ⟨_,_,_,_,_,_,_,rfl⟩<;>simp)⟩⟩
theorem tQ.upd(ho:h.get? T=some oT)(hfr:(f oT).isFreed=false):tQ fs e (some T) h (h.update T f):=by
 have k:∀b o,some b≠some T->h.get? b=some o->(h.update T f).get? b=some o:=λb o n q=>by
  rw[xL _ _ (λz=>n (by rw[z]))];exact q
 refine⟨⟨by rw[Heap.size_after_update];exact jS _,λb o q=> ?_⟩,λb o _ n2 _ q=>k b o n2 q,λb o _ n2 q=>⟨o.slots,k b o n2 q⟩⟩
 by_cases z:b=T
 ·subst z;exact⟨_,vE _ ho hfr⟩
 ·exact⟨o,k b o (λy=>z (xI y)) q⟩
theorem RQ{Q:Unit->Shared->Prop}(x:Exc s.heap e C dx T fl)
  (h:∀h',tQ [] e T s.heap h'->Exc h' e C dx T (fr.elim .none λf=>rawInt f)->Q .unit {s with heap:=h'}):wpAny M A (setFlight (.ref e) fr) Q E s:=by
 obtain⟨vs,he,hT⟩:=x.at_
 unfold setFlight
 cases T with
 | none=>
  refine zC (wpAny_field he rfl hT ?_)
  rw[if_neg (by decide)]
  exact zI (h s.heap .refl ⟨vs,he,hT⟩)
 | some T=>
  obtain⟨h1,hne,oT,ts,hoT,hd,h3⟩:=hT
  refine zC (wpAny_field he rfl h1 ?_)
  rw[if_pos (show(Value.ref T != Value.none)=true from by simp)]
  have hsz3:3<ts.size:=(Array.getElem?_eq_some_iff.mp h3).1
  refine wpAny_setField hoT hd hsz3 (h _ (.upd hoT (Obj.isFreed_of_fields (Obj.data_mapFields hd _))) ⟨vs,?_,h1,hne,_,_,vE _ hoT (Obj.isFreed_of_fields (Obj.data_mapFields hd _)),Obj.data_mapFields hd _,by simp[hsz3]⟩)
  rw[xL _ _ hne];exact he
theorem YX{Q:Unit->Shared->Prop}
  (hfr:A.frames=some (env::outer)) (hl:s.heap.FunFrames base (env::outer)) (hf:env.frame=some L) (x:Exc s.heap e C dx T fl) (hfl:fl=fl\/fl=rawInt L)
  (h:∀h' T',(T=some T'\/s.heap.objs.size<=T')->tQ ((env::outer).filterMap (·.frame)) e T s.heap h'->Exc h' e C dx (some T') (rawInt L)->Q .unit {s with heap:=h'}):wpAny M A (noteFrame (.ref e) env) Q E s:=by
 obtain⟨vs,he,hT⟩:=x.at_
 unfold noteFrame
 simp only[hf]
 cases T with
 | none=>
  refine zC (wpAny_field he rfl hT ?_)
  rw[if_neg (by decide)]
  refine V6 hfr hl hf he (Array.getElem?_eq_some_iff.mp hT).1 λh' T hs k x'=>h h' T (.inr hs) ?_ x'
  exact⟨k.1,λb o n1 _ n3 q=>k.2.1 b o n1 (λz=>by cases z;exact absurd (yA (zS q) hs) (wP _)) n3 q,λb o n1 _ q=>k.2.2 b o n1 (λz=>by cases z;exact absurd (yA (zS q) hs) (wP _)) q⟩
 | some T=>
  obtain⟨h1,hne,oT,ts,hoT,hd,h3⟩:=hT
  refine zC (wpAny_field he rfl h1 ?_)
  rw[if_pos (show(Value.ref T != Value.none)=true from by simp)]
  refine zC (wpAny_field hoT hd h3 ?_)
  by_cases hq:fl=rawInt L
  ·subst hq
   rw[if_pos (show(rawInt L==rawInt L)=true from by simp)]
   exact zI (h s.heap T (.inl rfl) .refl x)
  ·rw[if_neg (show ¬((fl==rawInt L)=true)from by simpa using hq)]
   have hsz3:3<ts.size:=(Array.getElem?_eq_some_iff.mp h3).1
   refine zC (wpAny_setField hoT hd hsz3 ?_)
   have other:∀b,b≠T->(s.heap.update T (Obj.mapFields (·.setIfInBounds 3 Value.none))).get? b=s.heap.get? b:=λb hb=>xL _ _ (Ne.symm hb)
   have noRecord:∀b o,s.heap.get? b=some o->(∀vs,o.data≠ .fields vs)->b≠T:=λb o hb hnf q=>by
    rw[q,hoT]at hb;injection hb with hb;subst hb;exact hnf ts hd
   refine V6 hfr (hl.of_keeps λb o hb hnf=>⟨o,(other b (noRecord b o hb hnf)).trans hb,rfl⟩) hf ((other e (Ne.symm hne)).trans he) (Array.getElem?_eq_some_iff.mp h1).1 λh' T' hs k x'=> ?_
   rw[Heap.size_after_update]at hs
   exact h h' T' (.inr hs) ((tQ.upd hoT (Obj.isFreed_of_fields (Obj.data_mapFields hd _))).trans k (.inr ⟨T',rfl,hs⟩)) x'
theorem V5{Q:Unit->Shared->Prop}
  (hfr:A.frames=some (env::outer)) (hl:s.heap.FunFrames base (env::outer)) (hf:env.frame=some L) (x:Exc s.heap e C dx T fl) (hfl:fl=fl\/fl=rawInt L)
  (h:∀h' T',(T=some T'\/s.heap.objs.size<=T')->tQ ((env::outer).filterMap (·.frame)) e T s.heap h'->Exc h' e C dx (some T') .none->Q .unit {s with heap:=h'}):wpAny M A (leaving env (.ref e)) Q E s:=by
 unfold leaving
 refine zC (YX hfr hl hf x hfl λh' T' hT k x'=> ?_)
 refine RQ (fr:=none) (s:={s with heap:=h'}) x' λh2 k2 x2=>h h2 T' hT (k.trans (T':=some T') ⟨k2.1,λb o n1 n2 _ q=>k2.2.1 b o n1 n2 (by simp) q,k2.2.2⟩ ?_) x2
 rcases hT with r | r
 ·exact .inl r.symm
 ·exact .inr ⟨T',rfl,r⟩
end
end L2
namespace L2
open PySem PySem.Spec PyProof.Rows
def zq(P:Program)(w:World):W8:=λouter H s E ev s'=>∃e C dx T H',ev=Value.ref e/\s'.os=s.os/\AllBare s'.gens/\Un (frs outer) [] H H' s.heap s'.heap/\yM P w H' s'.heap/\Exc s'.heap e C (some dx) (some T) .none/\
 s.heap.objs.size<=e/\s.heap.objs.size<=T/\H' e=none/\H' T=none/\E (.ref C) (some dx) H'
abbrev bJ:=Addr->Addr->St->Hp->Prop
structure T4(X:Cx)(pins:List (Addr×Obj))(H:Hp)(a:Addr):Prop where
 no:H a=none
 new:X.s₀.heap.objs.size<=a
 pin:∀p∈X.pn++pins,p.1≠a
def j_(X:Cx)(W:bJ):Value->Shared->Prop:=λev s=>∃e C dx T fl pins σ H,ev=Value.ref e/\Inv X pins σ H s/\Exc s.heap e C (some dx) T fl/\(fl=fl\/fl=rawInt X.env.locals)/\T4 X pins H e/\(∀t,T=some t->T4 X pins H t)/\W C dx σ H
section
variable{X:Cx}{pins:List (Addr×Obj)}{σ:St}{H:Hp}{s:Shared}
theorem j_.Wt(I:Inv X pins σ H s)(h:zq X.prog X.w X.stack H s E ev s')(hE:∀C dx H',E (.ref C) (some dx) H'->W C dx σ H'):j_ X W ev s':=by
 obtain⟨e,C,dx,T,H',rfl,os,bare,un,hok,x,ne,nT,fe,fT,hq⟩:=h
 have old:∀a,s.heap.objs.size<=a->∀p∈X.pn++pins,p.1≠a:=λa ha p hp z=>by
  have:=zS (I.pin p hp).1
  rw[z]at this
  exact absurd (yA this ha) (wP _)
 exact⟨e,C,dx,some T,.none,pins,σ,H',rfl,I.call' os un hok bare (λb z=>absurd z (by simp)),x,.inl rfl,⟨fe,yY I.sz ne,old e ne⟩,λt z=>by cases z;exact⟨fT,yY I.sz nT,old T nT⟩,hE C dx H' hq⟩
theorem I_(ok:yM P w H h)(k:tQ fs e T h h')(he:H e=none)(hT:∀t,T=some t->H t=none)(hf:∀b∈fs,H b=none):yM P w H h':=by
 have kp:∀b u o,H b=some o->h.get? b=some u->h'.get? b=some u:=λb u o q z=>
  k.2.1 b u (λy=>by subst y;rw[he]at q;cases q) (λy=>by rw[hT b y.symm]at q;cases q) (λy=>by rw[hf b y]at q;cases q) z
 intro b o q
 refine(ok b o q).stay (λb' u hb z=> ?_) (λ_ z=>z) λ_ _ z=>z
 rcases hb with rfl | hb
 ·exact kp _ u o q z
 ·exact kp _ u _ hb z
end
theorem j_.leave{P:Program}{w:World}{K:Frag}{mg:Str->Option Value}{base:Heap}{N:List Str}{qual:Str}{scope:Scope}{f:Addr}{cd:Value}{A:Around}{outer:List Env}{s:Shared}{H:Hp}{E:XK}{W:bJ}{ev:Value}{s':Shared}
  (h:j_ (t7 (zq P w) P w K mg base N qual scope f cd A outer s H E) W ev s') (hE:∀C dx σ H',W C dx σ H'->E (.ref C) (some dx) H'):
  (t7 (zq P w) P w K mg base N qual scope f cd A outer s H E).xe ev s':=by
 obtain⟨e,C,dx,T,fl,pins,σ,H',rfl,I,x,hfl,fe,fT,hW⟩:=h
 show wpAny _ _ (leaving _ (.ref e)) _ _ s'
 refine V5 I.ok.frames I.stack rfl x hfl λh2 T' hT k x'=> ?_
 have hTn:∀t,T=some t->H' t=none:=λt z=>(fT t z).no
 have nT:s.heap.objs.size<=T':=by
  rcases hT with r | r
  ·exact(fT T' r).new
  ·exact yY I.sz r
 have fT':H' T'=none:=by
  rcases hT with r | r
  ·exact hTn T' r
  ·exact I.hok.fresh r
 have ok2:=I_ I.hok k fe.no hTn I.F_
 have ne:∀b o,s.heap.get? b=some o->b≠e/\some b≠T:=λb o q=>⟨λz=>absurd (yA (zS q) (z▸fe.new)) (wP _),λz=>absurd (yA (zS q) (fT b z.symm).new) (wP _)⟩
 have nL:∀b o,s.heap.get? b=some o->b≠s.heap.objs.size:=λb o q=>xD (zS q)
 refine⟨e,C,dx,T',H',rfl,I.os,I.bare,⟨λb o q n hb _=> ?_,λb o q n hb _=> ?_,λb o q n _=>I.base.free b o q n (by simp[t7]),λb o q _=> ?_,I.base.tups,I.base.zb,I.base.BK⟩,ok2,x',fe.new,nT,fe.no,fT',hE C dx σ H' hW⟩
 ·obtain⟨n1,n2⟩:=ne b o q
  refine k.2.1 b o n1 n2 (λz=> ?_) (I.base.keep b o q n hb (by simp[t7]))
  rcases List.mem_cons.mp (I.KN b z)with y | y
  ·exact nL b o q y
  ·exact hb y
 ·obtain⟨n1,n2⟩:=ne b o q
  obtain⟨sl,q1⟩:=I.base.slot b o q n hb (by simp[t7])
  obtain⟨sl2,q2⟩:=k.2.2 b _ n1 n2 q1
  exact⟨sl2,q2⟩
 ·obtain⟨n1,n2⟩:=ne b o q
  obtain⟨o1,q1⟩:=I.base.there b o q (by simp[t7])
  obtain⟨sl2,q2⟩:=k.2.2 b _ n1 n2 q1
  exact⟨_,q2⟩
section
variable{X:Cx}{pins:List (Addr×Obj)}{σ:St}{H:Hp}{s:Shared}{e C:Addr}{dx T:Option Addr}{fl:Value}{h':Heap}{W:bJ}
theorem Inv.Qn(I:Inv X pins σ H s)(h:s.heap.get? a=some o)(d:o.data= .fields vs):a≠X.env.locals/\∀x c,X.env.cells.lookup x=some c->c≠a:=by
 refine⟨λz=> ?_,λx c hc z=> ?_⟩
 ·obtain⟨m,⟨o',es,ep,ho,hd,_⟩,_⟩:=I.loc
  subst z
  rw[ho]at h;cases h;rw[hd]at d;cases d
 ·obtain⟨v,o',ho,hd⟩:=I.cell x c hc
  subst z
  rw[ho]at h;cases h;rw[hd]at d;cases d
theorem Inv.ac8(I:Inv X pins σ H s)(x:Exc s.heap e C dx T fl)(fe:T4 X pins H e)(fT:∀t,T=some t->T4 X pins H t)(k:tQ (frs X.stack) e T s.heap h')(hE:∃o,h'.get? e=some o)(hTt:∀t,T=some t->∃o,h'.get? t=some o):
  Inv X pins σ H {s with heap:=h'}:=by
 obtain⟨vs,he,hT⟩:=x.at_
 have ok2:=I_ I.hok k fe.no (λt z=>(fT t z).no) I.F_
 refine I.call (t':=s.toks) (g':=s.gens) (d':=s.drawn) (ch:=e::T.toList) ⟨λb o q n hb hc=> ?_,λb o q n hb hc=> ?_,λb o q n _=>n,λb o q hc=> ?_,λ_ _ q=>q,λ_ _ _ q=>q,λb ps q=>⟨#[],by rw[q];simp⟩⟩ ok2 I.bare λb hb=> ?_
 ·simp at hc
  exact k.2.1 b o hc.1 (λz=>hc.2 z.symm) hb q
 ·simp at hc
  exact k.2.2 b o hc.1 (λz=>hc.2 z.symm) q
 ·simp at hc
  obtain⟨sl,z⟩:=k.2.2 b o hc.1 (λz=>hc.2 z.symm) q
  exact⟨_,z⟩
 ·simp at hb
  rcases hb with rfl | hb
  ·exact⟨.inr fe.new,(I.Qn he rfl).1,(I.Qn he rfl).2,fe.pin⟩
  ·subst hb
   obtain⟨_,_,oT,ts,hoT,hd,_⟩:=hT
   exact⟨.inr (fT b rfl).new,(I.Qn hoT hd).1,(I.Qn hoT hd).2,(fT b rfl).pin⟩
theorem tQ.mono(k:tQ fs e T h h')(hs:∀b∈fs,b∈fs'):tQ fs' e T h h':=⟨k.1,λb o n1 n2 n3 q=>k.2.1 b o n1 n2 (λz=>n3 (hs b z)) q,k.2.2⟩
theorem Exc.here(x:Exc h' e C dx T fl):(∃o,h'.get? e=some o)/\∀t,T=some t->∃o,h'.get? t=some o:=by
 obtain⟨vs,he,hT⟩:=x.at_
 refine⟨⟨_,he⟩,λt z=> ?_⟩
 subst z
 obtain⟨_,_,oT,_,hoT,_⟩:=hT
 exact⟨oT,hoT⟩
theorem j_.XF(hst:X.stack=X.env::X.outer)(hf:X.env.frame=some X.env.locals)(hA:A.frames=some X.stack):∀ev s',j_ X W ev s'->wpAny (model X.prog X.w) A (noteFrame ev X.env) (λ_ s2=>cameBackBy (model X.prog X.w) X.A X.env (j_ X W) ev s2) (cameBackBy (model X.prog X.w) X.A X.env (j_ X W)) s':=by
 rintro ev s' ⟨e,C,dx,T,fl,pins,σ,H,rfl,I,x,hfl,fe,fT,hW⟩
 have akN:=I.stack
 rw[hst]at akN
 refine YX (by rw[hA,hst]) akN hf x hfl λh1 T1 hT1 k1 x1=> ?_
 have fT1:T4 X pins H T1:=by
  rcases hT1 with r | r
  ·exact fT T1 r
  ·refine⟨I.hok.fresh r,yY I.sz r,λp hp z=> ?_⟩
   have:=zS (I.pin p hp).1
   rw[z]at this
   exact absurd (yA this r) (wP _)
 have hTt:∀t,T=some t->∃o,h1.get? t=some o:=λt z=>by
  obtain⟨o,q⟩:=x.here.2 t z
  exact k1.1.2 t o q
 have I1:=I.ac8 x fe fT (k1.mono (by rw[hst];exact λb z=>z)) x1.here.1 hTt
 unfold cameBackBy
 obtain⟨vs,he,h2,_⟩:=x1.at_
 refine zC (wpAny_field he rfl h2 ?_)
 rw[if_neg (by simp)]
 refine RQ (s:={s' with heap:=h1}) x1 λh2 k2 x2=>⟨e,C,dx,some T1,_,pins,σ,H,rfl,I1.ac8 x1 fe (λt z=>by cases z;exact fT1) (k2.mono (by simp)) x2.here.1 x2.here.2,x2,.inr (by rw[hf];rfl),fe,λt z=>by cases z;exact fT1,hW⟩
end
def Tk(X:Cx)(W:bJ):Prop:=∀ev s,j_ X W ev s->X.xe ev s
def EW(W:bJ)(σ:St):XK:=λcv dxo H'=>∃C dx,cv=Value.ref C/\dxo=some dx/\W C dx σ H'
theorem j_.tR(h:j_ (X.wish (j_ X W)) W' ev s):j_ X W' ev s:=by
 obtain⟨e,C,dx,T,fl,pins,σ,H,ee,I,x,hfl,fe,fT,hW⟩:=h
 exact⟨e,C,dx,T,fl,pins,σ,H,ee,I.tR,x,hfl,⟨fe.no,fe.new,fe.pin⟩,λt z=>⟨(fT t z).no,(fT t z).new,(fT t z).pin⟩,hW⟩
theorem Tk.wish{X:Cx}{W:bJ}:Tk (X.wish (j_ X W)) W:=λ_ _ h=>h.tR
section
variable{X:Cx}{k:Nat}{f C:Addr}{fd:FuncData}{ps:List Str}{sp:Sp}{BV:List V}{ds:List Value}{W:bJ}{x m:Str}{p pos apos:Pos}{e o:Expr}{es:List Expr}{ta:TE}{t:TA}
theorem Qm(F:lg X.prog X.w X.K X.mg X.base (zq X.prog X.w) k f fd ps sp)(hr:lY k X.A)(hb:Binds X.K fd ps ds)(hd:Vals BV ds)(hx:Tk X W)
  (I:Inv X pins σ H s) (r:Vals vs us) (h:sp (vs++BV) H Q (EW W σ)):wpAny (model X.prog X.w) X.A (call (.ref f) us) (EP X pins σ Q) X.xe s:=by
 have r2:=r.append hd
 have hl:(us++ds).length=ps.length:=by rw[<-r2.length];exact F.len _ _ _ _ h
 refine wpAny_call (codeAny_mono (F.run X.A X.stack s H ⟨us,[]⟩ (us++ds) (vs++BV) Q _ hr I.env0 (hb s us I.Fi hl) r2 h) λr s' hq=> ?_)
 match r,hq with
 | .error e,hq=>exact hx _ _ (j_.Wt I hq λC dx H' ⟨C',dx',e1,e2,w⟩=>by cases e1;cases e2;exact w)
 | .ok (.ret u),hq=>exact I.after hq
def Zi(sp:Sp)(BV:List V)(W:bJ)(t:TA):TE:=λσ H Q=>t σ H λvs H1=>sp (vs++BV) H1 Q (EW W σ)
theorem aaf(F:lg X.prog X.w X.K X.mg X.base (zq X.prog X.w) k f fd ps sp)(hr:lY k X.A)(hg:Gl X x)(hm:X.mg x=some (.ref f))(hk:keepIn X.K (.ref f)=true)(hb:Binds X.K fd ps ds)(hd:Vals BV ds)(hx:Tk X W)
  (ha:PA X (e::es) t) (hdb:(x==("__debug__" : Str))=false:=by decide) (he:starEach (e::es) X.env=(false,eval e X.env)::starEach es X.env:=by rfl) (hpl:(backTo pos (starEach es X.env)).any (·.1)=false:=by rfl):
  PE X (.Call (.Name x p) (e::es) [] pos) (Zi sp BV W t):=by
 intro pins s σ H Q I h
 exact wpAny_Call_Name_kw (GK I hg hm (PySem.W.callWith_K (h₀:=X.base) I.ok.mod.kin hk (m_ (ha pos pins s σ H _ I h) λus s1 ⟨vs,H1,I1,r,q⟩=>⟨I1.Fi,Qm F hr hb hd hx I1 r q⟩) he hpl) hdb)
def Ut(C:Addr)(m:Str)(sp:Sp)(BV:List V)(W:bJ)(ta:TE)(t:TA):TE:=λσ H Q=>ta σ H λx H1=>∃a dx fs,x= .ref a/\H1 a=some (.ins C dx fs)/\fs.lookup m=none/\t σ H1 λvs H2=>sp (x::(vs++BV)) H2 Q (EW W σ)
theorem aab(he:PE X o ta)(c:Ny X.K C)(hm:Meth X.K C m f)(F:lg X.prog X.w X.K X.mg X.base (zq X.prog X.w) k f fd ps sp)(hr:lY k X.A)(hb:Binds X.K fd ps ds)(hd:Vals BV ds)(hx:Tk X W)(ha:PA X (e::es) t)
  (hst:starEach (e::es) X.env=(false,eval e X.env)::starEach es X.env:=by rfl) (hpl:(backTo pos (starEach es X.env)).any (·.1)=false:=by rfl)
  (ht:eval (.Call (.Attribute o m apos) (e::es) [] pos) X.env=(do
   let ov <-eval o X.env
   standAt apos.atName
   let(f,first) <-holding [ov] (getMethod ov m pl)
   callWith pos f first (backTo pos (starEach (e::es) X.env)) (backToKw pos (keywordEach [] X.env))):=by rfl):
  PE X (.Call (.Attribute o m apos) (e::es) [] pos) (Ut C m sp BV W ta t):=by
 intro pins s σ H Q I h
 refine PySem.W.methodCall_KW (pl:=pl) (m_ (he pins s σ H _ I h) ?_) ht
 rintro u s1 ⟨x,H1,I1,rx,a,dx,fs,ex,ea,l,q⟩
 subst ex
 obtain rfl:u=Value.ref a:=rx
 refine MK I1 ea c hm l ?_
 exact PySem.W.callWith_K (h₀:=X.base) (first:=[.ref a]) I1.ok.mod.kin hm.kp (m_ (ha pos pins s1 σ H1 _ I1 q) λus s2 ⟨vs,H2,I2,r,q2⟩=>⟨I2.Fi,Qm (us:= .ref a::us) (vs:= .ref a::vs) F hr hb hd hx I2 (.cons rfl r) q2⟩) hst hpl
theorem Xy(he:PE X o ta)(c:Ny X.K C)(hm:Meth X.K C m f)(F:lg X.prog X.w X.K X.mg X.base (zq X.prog X.w) k f fd ps sp)(hr:lY k X.A)(hb:Binds X.K fd ps ds)(hd:Vals BV ds)(hx:Tk X W)
  (ht:eval (.Call (.Attribute o m apos) [] [] pos) X.env=(do
   let ov <-eval o X.env
   standAt apos.atName
   let(f,first) <-holding [ov] (getMethod ov m pl)
   callWith pos f first (backTo pos (starEach [] X.env)) (backToKw pos (keywordEach [] X.env))):=by rfl):
  PE X (.Call (.Attribute o m apos) [] [] pos) (Ut C m sp BV W ta abi):=by
 intro pins s σ H Q I h
 refine PySem.W.methodCall_KW (pl:=pl) (m_ (he pins s σ H _ I h) ?_) ht
 rintro u s1 ⟨x,H1,I1,rx,a,dx,fs,ex,ea,l,q⟩
 subst ex
 obtain rfl:u=Value.ref a:=rx
 exact MK I1 ea c hm l (PySem.W.callWith_K0 (first:=[.ref a]) I1.Fi hm.kp (Qm (us:=[.ref a]) (vs:=[.ref a]) F hr hb hd hx I1 (.cons rfl .nil) q))
end
theorem bw.okX{P:Program}{w:World}{K:Frag}{mg:Str->Option Value}{base:Heap}{x qual:Str}{st:Stmt}{dV:Value}{f:Addr}{fd:FuncData}{N ps:List Str}{k:Nat}{sp:Sp}(F:bw K x qual st dV f fd)(S:uI N ps (az st))(len:∀vs H Q E,sp vs H Q E->vs.length=ps.length)
  (hbody:∀(cdv:Value) (A:Around) (outer:List Env) (s:Shared) (H:Hp) (vs:List V) (Q:VK) (E:XK),lY k (A.deeper (envOfC qual (az st) s.heap.objs.size f cdv))->sp vs H Q E->
   ∃t W,(∀C dx σ H',W C dx σ H'->E (.ref C) (some dx) H')/\RM ((t7 (zq P w) P w K mg base N qual (az st) f cdv A outer s H E).wish (j_ (t7 (zq P w) P w K mg base N qual (az st) f cdv A outer s H E) W)) (aD st) t/\t {nx:=λ_ H'=>gcK H Q .non H',rt:=gcK H Q} (start N vs) H):
  lg P w K mg base (zq P w) (k+1) f fd ps sp:=by
 obtain⟨oc,od,kV,doc,pm,an,cdv,ct,osl,rfl,lk,hcd⟩:=F.ex
 refine lg.gc (sp:=λvs H Q' E=>∃Q,sp vs H Q E/\Q'=gcK H Q) (ak0 lk hcd S (λvs H Q E ⟨Q0,q,_⟩=>len vs H Q0 E q) λA outer s H vs Q' E hr hsp=> ?_) λvs H Q E q=>⟨Q,q,rfl⟩
 obtain⟨Q,hsp,rfl⟩:=hsp
 obtain⟨t,W,hE,h,q⟩:=hbody cdv A outer s H vs Q E hr hsp
 refine⟨t,λpins s1 σ H1 D I h1=> ?_,q⟩
 exact wT (h pins s1 σ H1 D (I.wish _) h1) (λ_ _ z=>z.tR) λ_ _ z=>z.leave hE
abbrev xC(a C dx:Addr):HO:= .ext λh=>∃vs,h.get? a=some {cls:= .ref C,dict:=some dx,data:= .fields vs}
section
variable{X:Cx}{k:Nat}{f C:Addr}{fd:FuncData}{ps:List Str}{sp:Sp}{BV:List V}{ds:List Value}{W:bJ}{x:Str}{p pos:Pos}{e:Expr}{es:List Expr}{t:TA}
def Uu(C:Addr)(sp:Sp)(BV:List V)(W:bJ)(t:TA):TE:=λσ H Q=>t σ H λvs H1=>∀x dx,H1 x=none->H1 dx=none->dx≠x->
 sp (.ref x::(vs++BV)) (upd (upd H1 dx (.own x)) x (.ins C dx [])) (λv H2=>v= .non/\Q (.ref x) H2) (EW W σ)
theorem Oz(M:Mk X.K C f)(F:lg X.prog X.w X.K X.mg X.base (zq X.prog X.w) k f fd ps sp)(hr:lY (k+1) X.A)(hb:Binds X.K fd ps ds)(hd:Vals BV ds)
  (hx:Tk X W) (I:Inv X pins σ H s) (r:Vals vs us)
  (h:∀x dx,H x=none->H dx=none->dx≠x->sp (.ref x::(vs++BV)) (upd (upd H dx (.own x)) x (.ins C dx [])) (λv H2=>v= .non/\Q (.ref x) H2) (EW W σ)):
  wpAny (model X.prog X.w) X.A (call (.ref C) us) (EP X pins σ Q) X.xe s:=by
 have hq:=h (s.heap.objs.size+1) s.heap.objs.size (I.hok.fresh (Nat.le_succ _)) (I.hok.fresh (jS _)) (xD (Nat.lt_succ_self _))
 have I2:=Inv.made (C:=C) I
 have r2:Vals (V.ref (s.heap.objs.size+1)::(vs++BV)) (Value.ref (s.heap.objs.size+1)::(us++ds)):= .cons rfl (r.append hd)
 have hl:(Value.ref (s.heap.objs.size+1)::us++ds).length=ps.length:=by
  have e:=r2.length
  rw[F.len _ _ _ _ hq]at e
  exact e.symm
 refine wpAny_call (aao (f:=f) I.Fi M.makes M.init (beq_iff_eq.mp M.fn) (codeAny_mono (F.run _ X.stack _ _ ⟨Value.ref (s.heap.objs.size+1)::us,[]⟩ (Value.ref (s.heap.objs.size+1)::(us++ds)) _ _ _ (hr.make C us [])
  (I2.env0.make C us []) (hb _ (Value.ref (s.heap.objs.size+1)::us) I2.Fi hl) r2 hq) λr s' hq'=> ?_))
 match r,hq' with
 | .error e,hq'=>exact hx _ _ (j_.Wt I2 hq' λC dx H' ⟨C',dx',e1,e2,w⟩=>by cases e1;cases e2;exact w)
 | .ok (.ret u),hq'=>
  obtain⟨v,H',I3,rv,ev,q3⟩:=I2.after hq'
  subst ev
  exact⟨rv,⟨V.ref (s.heap.objs.size+1),H',I3,rfl,q3⟩⟩
theorem aac(M:Mk X.K C f)(F:lg X.prog X.w X.K X.mg X.base (zq X.prog X.w) k f fd ps sp)(hr:lY (k+1) X.A)(hg:Gl X x)(hm:X.mg x=some (.ref C))(hb:Binds X.K fd ps ds)(hd:Vals BV ds)(hx:Tk X W)
  (ha:PA X (e::es) t) (hdb:(x==("__debug__" : Str))=false:=by decide) (he:starEach (e::es) X.env=(false,eval e X.env)::starEach es X.env:=by rfl) (hpl:(backTo pos (starEach es X.env)).any (·.1)=false:=by rfl):
  PE X (.Call (.Name x p) (e::es) [] pos) (Uu C sp BV W t):=λpins s σ H Q I h=>
 wpAny_Call_Name_kw (GK I hg hm (PySem.W.callWith_K (h₀:=X.base) I.ok.mod.kin M.kp (m_ (ha pos pins s σ H _ I h) λus s1 ⟨vs,H1,I1,r,q⟩=>⟨I1.Fi,Oz M F hr hb hd hx I1 r q⟩) he hpl) hdb)
theorem Xz(M:Mk X.K C f)(F:lg X.prog X.w X.K X.mg X.base (zq X.prog X.w) k f fd ps sp)(hr:lY (k+1) X.A)(hg:Gl X x)(hm:X.mg x=some (.ref C))(hb:Binds X.K fd ps ds)(hd:Vals BV ds)(hx:Tk X W)
  (hdb:(x==("__debug__" : Str))=false:=by decide):PE X (.Call (.Name x p) [] [] pos) (Uu C sp BV W abi):=λpins s σ H Q I h=>
 wpAny_Call_Name_kw (GK I hg hm (PySem.W.callWith_K0 I.Fi M.kp (Oz (us:=[]) M F hr hb hd hx I .nil h)) hdb)
end
section
variable{K:Frag}{nm q:Str}{C N:Addr}{bs bm:List Value}{sn:List Str}{sub:List Value}{ab:Bool}{col:Option Bool}{dd:Option Addr}{k0 k1 k2 k3 k5:Option Value}{newId:String}{name:Str}
theorem sub_self(lo:K.lookup C=some (excClassObj nm q C N bs bm true sn sub ab col dd k0 k1 k2 k3 k5 newId)):subIn K (.ref C) (.ref C)=some true:=by
 show PySem.W.mroIn K C (.ref C)=some true
 unfold PySem.W.mroIn PySem.W.clsIn
 rw[lo]
 simp
end
def atl:V->Option Int->Option Int->Hp->VK->Prop:=λx lo hi H Q=>∃u,x= .str u/\u.length<=sizeLine/\Q (.str (Txt.slice u lo hi)) H
theorem ad5:SlR X atl:=by
 intro pins s σ H x v vl vu lo hi sl Q I rx hs pl pu h
 obtain⟨u,rfl,hz,q⟩:=h
 obtain⟨t,rfl⟩:=rx
 have fin:∀(t':Tok) (k:Nat),EP X pins σ Q (.str (Txt.slice u lo hi) t') {s with toks:=k}:=λt' k=>⟨.str _,H,I.tok k,⟨t',rfl⟩,q⟩
 refine⟨"str",_,F.slot_str_getitem.lookup,typeIs_str _ _ _,?_⟩
 cases pl with
 | none=>
  cases pu with
  | none=>exact wpAny_getItem_str_slice (l:=none) (u:=none) (st:=none) hs rfl (post_val_or_str ⟨yY (Txt.slice_le u _ _) hz,fin⟩)
  | int j uj=>exact wpAny_getItem_str_slice (l:=none) (u:=some (j,uj)) (st:=none) hs rfl (post_val_or_str ⟨yY (Txt.slice_le u _ _) hz,fin⟩)
 | int i ui=>
  cases pu with
  | none=>exact wpAny_getItem_str_slice (l:=some (i,ui)) (u:=none) (st:=none) hs rfl (post_val_or_str ⟨yY (Txt.slice_le u _ _) hz,fin⟩)
  | int j uj=>exact wpAny_getItem_str_slice (l:=some (i,ui)) (u:=some (j,uj)) (st:=none) hs rfl (post_val_or_str ⟨yY (Txt.slice_le u _ _) hz,fin⟩)
theorem Ur{n:Nat}(h:n<=1000000):Builtin.Str.tooLong n=false:=by
 unfold Builtin.Str.tooLong
 exact zad (by have:(1000000:Nat)<=sizeLine:=(by decide);omega)
theorem mulOk_of(hx:x.length<=1000)(h0: -(2 ^ 62)<n)(h1:n<=1000):MulOk x n:=by
 refine⟨?_,?_,?_⟩
 ·rw[zad (),zad ()];rfl
 ·intro a b
  have:(1000:Int)<=(2 ^ 63 - 1) / n:=by
   rw[Int.le_ediv_iff_mul_le ()]
   omega
  omega
 ·intro a b
  refine Ur ?_
  have:n.toNat<=1000:=()
  calc x.length*n.toNat<=1000*1000:=Nat.mul_le_mul hx this
   _<=1000000:=by decide
theorem U_:Bl X (binaryOp .Mult) (λx y H Q=>∃i j,x= .str i/\y= .int j/\MulOk i j/\Q (.str (PySem.Txt.mul i j)) H):=by
 intro pins s σ H x y v u Q I rx ry h
 obtain⟨i,j,rfl,rfl,hz,q⟩:=h
 obtain⟨t,rfl⟩:=rx
 obtain⟨t',rfl⟩:=ry
 exact SB.mul hz (λt' tk=>⟨.str (PySem.Txt.mul i j),H,I.tok _,⟨_,rfl⟩,q⟩)
section
variable{X:Cx}
theorem adC(I:Inv X pins σ H s)(e:H a=some (.dK [])):Inv X pins σ (upd H a (.dT [])) s:=by
 obtain⟨z,hd,vs,rel,o,es,ep,h1,h2,h3,h4,h5,h6⟩:=aaS I.hok e
 have hv:vs=[]:=by cases rel;rfl
 subst hv
 have he:es.toList=[]:=by
  have:=h5.length
  exact List.length_eq_zero_iff.mp (by simpa using this)
 exact Rf (t':=s.toks) (h':=s.heap) I (by rw[e];exact jI) ⟨rfl,λ_ _=>rfl⟩ ⟨o,h1⟩ ⟨Nat.zero_le _,hd,[],.nil,o,es,ep,h1,h2,h3,by rw[he];rfl,List.nodup_nil⟩
def ac5(H:Hp)(a:Addr)(y:V)(o:Option V)(H':Hp):Prop:=(J3 H a y o/\H'=H)\/(H a=some (.dK [])/\(∃(k:List Key) (b:Addr),y= .ref b/\H b=some (.tup (k.map kV)))/\o=none/\H'=upd H a (.dT []))
theorem ac5.inv(g:ac5 H a y o H')(I:Inv X pins σ H s):Inv X pins σ H' s/\J3 H' a y o:=by
 rcases g with⟨g,rfl⟩ | ⟨e,⟨k,b,rfl,eb⟩,rfl,rfl⟩
 ·exact⟨I,g⟩
 ·refine⟨adC I e,.inr ⟨[],k,b,.inl bB,rfl,?_,rfl⟩⟩
  rw[aO (λz=>by subst z;rw[e]at eb;cases eb)]
  exact eb
def ahR(neg:Bool):R2:=λy x H Q=>∃a o H',x= .ref a/\ac5 H a y o H'/\Q (.bl (if neg=true then !o.isSome else o.isSome)) H'
theorem ae4(hu:X.A.units+1<cLine):Bl X (compareOp .In) (ahR false):=by
 intro pins s σ H y x v u Q I ry rx h
 obtain⟨a,o,H',rfl,g,q⟩:=h
 obtain rfl:u=Value.ref a:=rx
 obtain⟨I1,g1⟩:=g.inv I
 exact awT hu I1 g1 ry λs' I'=>⟨.bl _,H',I',rfl,q⟩
def ahQ:R2:=λx y H Q=>∃a v,x= .ref a/\J3 H a y (some v)/\Q v H
theorem acw(hu:X.A.units+1<cLine):IxR X ahQ:=by
 intro value slice pins s σ H x y v u Q I rx ry h hs
 obtain⟨a,d,rfl,g,q⟩:=h
 obtain rfl:v=Value.ref a:=rx
 exact tail_any (Tv I g) PySem.F.slot_dict_getitem.lookup (Yl hu I g ry λw' s' I' rw'=>⟨d,H,I',rw',q⟩) hs
section
variable{o e f i value:Expr}{apos cpos pos pos':Pos}{td ty tx tv:TE}
def aoO(H:Hp)(a:Addr)(y v:V)(H':Hp):Prop:=RJ H a y v H'\/∃(k:List Key) (b:Addr),H a=some (.dK [])/\y= .ref b/\H b=some (.tup (k.map kV))/\H'=upd H a (.dT [(k,v)])
def ahI(td ty tv:TE):TS:=λD σ H=>tv σ H λv H1=>td σ H1 λx H2=>ty σ H2 λy H3=>∃a H4,x= .ref a/\aoO H3 a y v H4/\D.nx σ H4
theorem abS(hu:X.A.units+1<cLine)(ho:PE X o td)(hi:PE X i ty)(hv:PE X value tv)(hs:swapsWith value (some (.Subscript o i pos')) pos.line X.env=pure false):PS X (.Assign [.Subscript o i pos'] value pos) (ahI td ty tv):=by
 intro pins s σ H D I h
 refine wpAny_Assign_Subscript (m_ (hv pins s σ H _ I h) ?_) hs
 rintro r t1 ⟨v,H1,I1,rv,q1⟩
 refine m_ (ho pins t1 σ H1 _ I1 q1) ?_
 rintro u t2 ⟨x,H2,I2,rx,q2⟩
 refine m_ (hi pins t2 σ H2 _ I2 q2) ?_
 rintro iv t3 ⟨y,H3,I3,ry,a,H4,ex,g,q3⟩
 subst ex
 obtain rfl:u=Value.ref a:=rx
 rcases g with g | ⟨k,b,e,rfl,eb,rfl⟩
 ·exact Pg hu I3 g ry rv λt4 I4=>⟨σ,H4,I4,q3⟩
 ·have eb':upd H3 a (.dT []) b=some (.tup (k.map kV)):=by
   rw[aO (λz=>by subst z;rw[e]at eb;cases eb)]
   exact eb
  refine Pg hu (adC I3 e) (RJ.t bB eb' (by rw[sizeLine_eq];decide)) ry rv λt4 I4=>⟨σ,_,I4,?_⟩
  rw[abe]
  exact q3
end
end
section
variable{prog:Program}{w:World}{A:Around}{E:Value->Shared->Prop}{s:Shared}{κ:Type}[DecidableEq κ]{knd:HeapKind prog w κ}{a:Addr}{xs:List (κ×Addr×Value)}
theorem Vo(hd:(a==sysModules)=false):MeetsIn prog w (Builtin.«dict.__len__» ⟨[.ref a],[]⟩) (λ_ R t=>∃ys:List (κ×Addr×Value),t.heap.DictOfH knd a ys/\R (.ok (.ret (.int ys.length t.toks))) {t with toks:=t.toks+1}):=
 .of_wp λA R t ⟨ys,hm,q⟩=>by
  obtain⟨o,es,ep,e1,_,e2,e3,_⟩:=hm
  show wpAny _ _ (dictSize a >>= _) _ _ t
  unfold dictSize
  refine zC (zC (wpAny_dictEntries e1 e2 (zI ?_)))
  show wpAny _ _ (Builtin.Dict.pendingCount a >>= _) _ _ t
  refine zC (wpAny_pendingCount_other hd (wpAny_ret_mkInt ?_))
  have sz:es.size=ys.length:=by rw[<-Array.length_toList,e3,zak]
  rw[Nat.add_zero,sz]
  exact q
theorem avO{Q:Value->Shared->Prop}(hd:(a==sysModules)=false)(hm:s.heap.DictOfH knd a xs)(hz:(xs.length:Int)<2 ^ 63)(q:Q (.int xs.length (s.toks+1)) {s with toks:=s.toks+1+1}):wpAny (model prog w) A (call (.builtin "len") [.ref a]) Q E s:=by
 refine Calls.call_function_entry kind_len plain_len entry_len (args_len1 _) ?_
 unfold Builtin.«len»
 refine zC (m:=oneArg "len" _) (zI (zC (m:=callSpecial? (.ref a) (Str.ofString "__len__")) ?_))
 refine wpAny_callSpecial?_slot (name:=Str.ofString "__len__") hm.typeIs F.slot_dict_len (call_meetsIn F.slot_dict_len hm.typeIs F.entry_dict_len (F.args_dict_len_1 _) (Vo (knd:=knd) hd) ⟨xs,hm,?_⟩)
 show wpAny (model prog w) _ _ _ _ {s with toks:=s.toks+1}
 refine zC (wpAny_holding (zI (zC (wpAny_letGo ?_))))
 show wpAny (model prog w) _ (if((xs.length:Nat):Int)<0 then _ else _) _ _ _
 rw[if_neg ()]
 show wpAny (model prog w) _ (if((xs.length:Nat):Int)>=2 ^ 63 then _ else _) _ _ _
 rw[if_neg ()]
 exact zC (wpAny_mkInt (zI ⟨_,rfl,q⟩))
end
theorem Yq:qG X (.builtin "len") (λxs H Q=>∃a kvs,xs=[V.ref a]/\H a=some (.dT kvs)/\Q (.int kvs.length) H):=by
 intro pins s σ H xs us Q I r h
 obtain⟨a,kvs,rfl,ha,q⟩:=h
 obtain⟨u,rfl,ru⟩:=vals1 r
 cases ru
 obtain⟨z,hd,ys,rel,dd⟩:=adB I.hok ha
 have hl:=Paired.length rel
 refine avO hd dd (by rw[<-hl];rw[sizeLine_eq]at z;omega) ⟨.int kvs.length,H,I.tok _,⟨_,by rw[hl]⟩,q⟩
end L2
namespace L2
open PySem PySem.W PyProof.Rows
section
variable{n:Nat}{O:KeyOrd}{k:Nat->O.α}
noncomputable def kk(k:Nat->O.α)(p:Array Nat)(i:Nat):O.α:=k (p.getD i 0)
end
end L2
namespace L2
open PySem PySem.Spec PySem.W PyProof.Rows
section
variable{X:Cx}{pins:List (Addr×Obj)}{σ:St}{H:Hp}{s:Shared}{A:Around}{E:Value->Shared->Prop}
theorem Inv.track(I:Inv X pins σ H s)(fp:Hy X pins H a)(h0:X.s₀.heap.get? a=none)(new:fu X.prog X.w (upd H a o) s.heap a o):Inv X pins σ (upd H a o) s where
 ok:=I.ok
 os:=I.os
 bare:=I.bare
 base:={
  keep:=I.base.keep
  slot:=I.base.slot
  free:=λb ob e n hx=>by rw[aO (by rintro rfl;rw[h0]at e;cases e)];exact I.base.free b ob e n hx
  there:=I.base.there
  tups:=λb xs e=>by
   have:=I.base.tups b xs e
   rw[aO (bR this fp.1)];exact this
  zb:=λb ob xs e=>by
   have:=I.base.zb b ob xs e
   rw[aO (bR this fp.1)];exact this
  BK:=λb ps e=>by
   obtain⟨ps',this⟩:=I.base.BK b ps e
   exact⟨ps',by rw[aO (bR this fp.1)];exact this⟩}
 loc:=I.loc
 cell:=I.cell
 free:=by rw[aO (Ne.symm fp.2.1)];exact I.free
 uQ:=λx c e=>(I.uQ x c e).imp id (λz=>by rw[aO (fp.2.2.2.2.1 x c e)];exact z) λo u z=>by rw[aO (fp.2.2.2.2.1 x c e)];exact z
 pin:=λp hp=>by
  obtain⟨a1,a2,a3⟩:=I.pin p hp
  exact⟨a1,by rw[aO (fp.2.2.2.2.2 p hp)];exact a2,a3⟩
 hok:=yM.track I.hok fp.1 new
 len:=I.len
end
end L2
namespace L2
open PySem PySem.Spec PySem.W PySem.Calls PyProof.Rows
def aoN(h:Heap)(d:Addr)(es:Array DictEntry)(ep:Nat):Prop:=∃o,h.get? d=some o/\o.ExactDict/\o.data= .dict es ep
section
variable{prog:Program}{w:World}{A:Around}{E:Value->Shared->Prop}{s:Shared}
theorem Vr{Q:Value->Shared->Prop}(hd:(d==sysModules)=false)(x:aoN s.heap d es ep)
  (h:Q (.ref s.heap.objs.size) {s with heap:=s.heap.push {cls:= .type "dict_items",data:= .fields #[.ref d]}}):wpAny (model prog w) A (call (.builtin "dict.items") [.ref d]) Q E s:=by
 obtain⟨o,ho,ex,_⟩:=x
 have ty:s.TypeIs (.ref d) "dict" := ⟨o,ho,ex.1⟩
 refine vT PySem.F.slot_dict_items ty PySem.F.entry_dict_items ?_ (PySem.F.args_dict_items_1 _)
 unfold Builtin.«dict.items» Builtin.Dict.noArgs
 refine zC (zC (wpAny_notOrdered_dict ty (show wpAny _ _ (pure d) _ _ s from zI ?_)))
 show wpAny _ _ (Builtin.Dict.showsAll d >>= _) _ _ s
 unfold Builtin.Dict.showsAll
 rw[if_neg (by rw[hd];decide)]
 exact zC (zI (zC (wS (zI ⟨_,rfl,h⟩))))
end
section
variable{X:Cx}{pins:List (Addr×Obj)}{σ:St}{H:Hp}{s:Shared}{A:Around}{E:Value->Shared->Prop}
def Ky(v d:Addr):HO:= .ext λh=>h.IsItemsView v d
def aer:V->List V->Hp->VK->Prop:=λx us H Q=>∃d,x= .ref d/\us=[]/\IsD H d/\∀v,H v=none->Q (.ref v) (upd H v (Ky v d))
theorem ajj(h:(jl P w).is k u=true):RelV (kV k) u:=by
 rcases jt (show Mu k u=true from h)with⟨i,t,rfl,rfl⟩ | ⟨x,t,rfl,rfl⟩
 ·exact⟨t,rfl⟩
 ·exact⟨t,rfl⟩
theorem aal:MtR X "dict.items" aer:=by
 intro pins s σ H x xs v us Q I rx rs h
 obtain⟨d,rfl,rfl,dd,q⟩:=h
 cases rs
 obtain rfl:v= .ref d:=rx
 have ty:=afu I dd
 have dd':(∃kvs,Rd H d (.dK kvs))\/∃kvs,Rd H d (.dT kvs):=dd
 have ents:∃es ep,aoN s.heap d es ep:=by
  rcases dd' with⟨kvs,e⟩ | ⟨kvs,e⟩
  ·obtain⟨_,_,_,_,o,es,ep,ho,ex,hd,_⟩:=e.ok I.hok
   exact⟨es,ep,o,ho,ex,hd⟩
  ·obtain⟨_,_,_,_,o,es,ep,ho,ex,hd,_⟩:=e.ok I.hok
   exact⟨es,ep,o,ho,ex,hd⟩
 obtain⟨es,ep,en⟩:=ents
 refine Vr ty.2.2 en ?_
 have g:(s.heap.push {cls:= .type "dict_items",data:= .fields #[.ref d]}).IsItemsView s.heap.objs.size d:=⟨_,yB _ rfl,rfl,rfl⟩
 refine⟨.ref s.heap.objs.size,_,I.laid (t':=s.toks) (o:=Ky s.heap.objs.size d) (λb o e=>zD _ e) (jS _) ⟨g,⟨_,yB _ rfl⟩,λh1 h2 a b=> ?_⟩,rfl,q _ (I.hok.fresh (jS _))⟩
 obtain⟨o,e1,e2,e3⟩:=a
 exact⟨o,b o e1,e2,e3⟩
end
end L2
namespace L2
open PySem PySem.Spec PyProof.Rows
def ac7(xs:List Str)(js:List Nat)(g:TG)(tt:TT)(te:TE)(σ:St)(Q:VK)(J:It)(H1:Hp):Prop:=
 ∃W:Nat->Nat->List V->Hp->Prop,(∃m,W 0 m [] H1)/\∀i m ys H,W i m ys H->
  (J.stop i H/\ys.length<=sizeLine/\∀p,H p=none->Q (.ref p) (upd H p (.lst ys)))\/
  (J.go i H/\∃N:List V->Hp->Prop,(∀ys' H',N ys' H'->ys'.length<=sizeLine/\∃m',m'<m/\W (i+1) m' ys' H')/\∀x H',J.YD i H x H'->g x (Jm xs++caps js σ) H' λσ1 H1=>(σ1.length=(Jm xs++caps js σ).length/\σ1.drop xs.length=caps js σ)/\tt σ1 H1 λb H2=>
   if b=true then te σ1 H2 λy H3=>N (ys++[y]) H3 else N ys H2)
def adV(xs:List Str)(js:List Nat)(wi:TI)(g:TG)(tt:TT)(te:TE):TE:=λσ H Q=>wi σ H λJ H1=>ac7 xs js g tt te σ Q J H1
section
variable{X:Cx}{tg elt iter:Expr}{ifs:List Expr}{scope:Scope}{xs cs:List Str}{js:List Nat}{tt:TT}{te:TE}{pos:Pos}
theorem aae(hc:X.calm=true)(xs cs:List Str)(js:List Nat)(hi:PI X (tg) iter wi)(hcap:xK X scope cs js)(ht:∀cl C fp s H,PTs (fY X scope cl C (xs++cs) fp s H) ifs tt)(he:∀cl C fp s H,PE (fY X scope cl C (xs++cs) fp s H) elt te)
  (hall:∀y∈scope.names,y.2= .free->y.1∈cs) (hcell:∀y∈scope.names,y.2≠ .cell) (hnames:∀y∈scope.names,y.2= .local->scope.names.lookup y.1=some .local) (hg:∀cl C fp s H,PG (fY X scope cl C (xs++cs) fp s H) tg g)
  (hkind:scope.kind= .function:=by rfl) (hs:∀v,foldedSetIterable iter X.env v=pure v:=by intro _;rfl):
  PE X (.ListComp elt [⟨tg,iter,ifs,0⟩] scope pos) (adV xs js wi g tt te):=by
 intro pins s σ H Q I h
 obtain⟨cl,aaI,Fj,Oe⟩:=Fp (env:=X.env) (scope:=scope) λn hn=>by
  obtain⟨j,hj⟩:=List.getElem?_of_mem (hall _ hn rfl)
  obtain⟨_,_,_,_,k⟩:=hcap.get hj
  exact I.ok.has n k
 rw[eval_ListComp]
 refine wpAny_comprehension_free (use:=none) rfl hs aaI hkind hnames (m_ (hi pins s σ H _ I h) λv s1 h1=>m_ h1 λitv s2 h2=> ?_)
 obtain⟨it,fp,tn,J,H2,e,I2,T,st2,f2,W,w0,step⟩:=h2
 subst e
 refine JF (Q:=Q) (RR:=λacc C=>compPost (model X.prog X.w) X.A X.xe none (EP X pins σ Q) acc C) hc hcap ht he hcell hkind hg Fj Oe I2 T st2 f2 W w0 step λD C H3 s4 m' I4 hn hC hH q=> ?_
 exact⟨m',hn,λh' sb=>⟨.ref D,H3,I2.letGo I4 hC hH sb,rfl,q⟩⟩
end
end L2
namespace L2
open PySem PySem.Spec PySem.W PySem.Calls PyProof.Rows
section
variable{X:Cx}{pins:List (Addr×Obj)}{σ:St}{H:Hp}{s:Shared}
theorem PK(hl:acc.length=ys.length)(h:∀(j:Nat) (v:Value),acc[j]? = some v->∃y,ys[j]? = some y/\RelV y v):Vals ys acc:=by
 induction ys generalizing acc with
 | nil=>cases acc with
  | nil=>exact .nil
  | cons _ _=>simp at hl
 | cons y ys ih=>cases acc with
  | nil=>simp at hl
  | cons v acc=>
   refine .cons ?_ (ih (by simpa using hl) λj u hu=> ?_)
   ·obtain⟨y',e,r⟩:=h 0 v rfl
    simp at e
    subst e
    exact r
   ·obtain⟨y',e,r⟩:=h (j+1) u (by simpa using hu)
    exact⟨y',by simpa using e,r⟩
theorem afm{κ:Type}{kvs:List (κ×V)}{vs:List (κ×Value)}(r:KV kvs vs){j:Nat}{k:κ}{x:Value}(h:vs[j]? = some (k,x)):∃v,kvs[j]? = some (k,v)/\RelV v x:=by
 unfold KV at r
 induction r generalizing j with
 | nil=>simp at h
 | @cons p q _ _ a _ ih=>
  cases j with
  | zero=>
   simp at h
   subst h
   exact⟨p.2,by rw[<-show p.1=k from a.1];rfl,a.2⟩
  | succ j=>
   obtain⟨v,e,r⟩:=ih (j:=j) (by simpa using h)
   exact⟨v,by simpa using e,r⟩
theorem X8(I:Inv X pins σ H s)(kp:∀b o,s.heap.get? b=some o->h'.get? b=some o)(e:h'.get? s.heap.objs.size=some {cls:= .type "list",data:= .seq acc c})(hz:ys.length<=sizeLine)(r:Vals ys acc.toList)
  (q:∀l,H l=none->Q (.ref l) (upd H l (.lst ys))):EP X pins σ Q (.ref s.heap.objs.size) {s with heap:=h',toks:=tk}:=
 ⟨.ref s.heap.objs.size,_,I.laid (t':=tk) kp (jS _) (show fu X.prog X.w _ h' _ (.lst ys)from⟨hz,acc.toList,c,r,by rw[Array.toArray_toList];exact e⟩),rfl,q _ (I.hok.fresh (jS _))⟩
def RT(v d:Addr):HO:= .ext λh=>h.IsValuesView v d
def abG:V->List V->Hp->VK->Prop:=λx us H Q=>∃d kvs,x= .ref d/\us=[]/\H d=some (.dK kvs)/\∀v,H v=none->Q (.ref v) (upd H v (RT v d))
theorem XR:MtR X "dict.values" abG:=by
 intro pins s σ H x xs v us Q I rx rs h
 obtain⟨d,kvs,rfl,rfl,hd,q⟩:=h
 cases rs
 obtain rfl:v= .ref d:=rx
 obtain⟨z,ns,vs,kv,dd⟩:=(show fu X.prog X.w H s.heap d (.dK kvs)from I.hok d _ hd)
 refine call_meetsIn PySem.F.slot_dict_values dd.typeIs PySem.F.entry_dict_values (PySem.F.args_dict_values_1 _) (meets_dict_values (jl X.prog X.w) d ns) ⟨⟨vs,dd⟩,?_⟩
 have g:(s.heap.push {cls:= .type "dict_values",data:= .fields #[.ref d]}).IsValuesView s.heap.objs.size d:=⟨_,yB _ rfl,rfl,rfl⟩
 refine⟨.ref s.heap.objs.size,_,I.laid (t':=s.toks) (o:=RT s.heap.objs.size d) (λb o e=>zD _ e) (jS _) ⟨g,⟨_,yB _ rfl⟩,λh1 h2 a b=> ?_⟩,rfl,q _ (I.hok.fresh (jS _))⟩
 obtain⟨o,e1,e2,e3⟩:=a
 exact⟨o,b o e1,e2,e3⟩
def aeq:List V->Hp->VK->Prop:=λxs H Q=>∃v d kvs,xs=[.ref v]/\H v=some (RT v d)/\H d=some (.dK kvs)/\∀l,H l=none->Q (.ref l) (upd H l (.lst (kvs.map λp=>p.2)))
theorem VG(hc:X.calm=true):qG X (.type "list") aeq:=by
 intro pins s σ H xs us Q I r h
 obtain⟨v,d,kvs,rfl,hv,hd,q⟩:=h
 obtain⟨u,rfl,rx⟩:=vals1 r
 cases rx
 obtain⟨z,ns,vs,kv,dd⟩:=(show fu X.prog X.w H s.heap d (.dK kvs)from I.hok d _ hd)
 have view:s.heap.IsValuesView v d:=(show fu X.prog X.w H s.heap v (RT v d)from I.hok v _ hv).1
 obtain⟨ep,da⟩:=dd.dictAt
 have lv:kvs.length=vs.length:=Paired.length kv
 refine kdl_call (kdl_values (knd:=jl X.prog X.w) (r:=v) (kvs:=vs) (ep:=ep)) (I.ok.hd hc) ⟨view,da⟩ () λh' tk acc c kp e it=>X8 I kp e (by simp;omega) (PK ?_ λj x hx=> ?_) q
 ·have:=it.1
  simp
  omega
 ·obtain⟨k,e1⟩:=it.2 j x (by rw[<-Array.getElem?_toList];exact hx)
  obtain⟨y,e3,r3⟩:=afm kv e1
  exact⟨y,by rw[zaj,e3];rfl,r3⟩
end
end L2
namespace S
open PySem PySem.Spec PyProof.Rows L2
inductive D where
 | non | bl (b:Bool) | int (i:Int) | str (x:Str) | tup (ds:List D) | ref (n:Nat) | cl (ds:List D) | ty (n:String) | cls (c:Nat) | exc (c:Nat) (d:D) | Vz (ds:List D) | fn (l:Nat)
inductive MO where
 | lst (ds:List D) | ins (c:Nat) (fs:List (Str×D)) | dk (kvs:List (Key×D)) | dt (kvs:List (List Key×D)) | fd (kvs:List (Key×D))
abbrev St:=L2.St
abbrev Mem:=List MO
abbrev Sl:=List (Option D)
inductive Out (α:Type) where
 | ok (a:α) (M:Mem)
 | exc (c:Nat) (d:D) (M:Mem)
 | bad
def Out.bind{α β:Type}(o:Out α)(f:α->Mem->Out β):Out β:=match o with
 | .ok a M=>f a M
 | .exc c d M=> .exc c d M
 | .bad=> .bad
@[simp] theorem Out.sV{α β:Type}(c:Nat)(d:D)(M:Mem)(f:α->Mem->Out β):(Out.exc c d M:Out α).bind f= .exc c d M:=id rfl
@[simp] theorem Out.fc{α β:Type}(a:α)(M:Mem)(f:α->Mem->Out β):(Out.ok a M).bind f=f a M:=id rfl
@[simp] theorem Out.je{α β:Type}(f:α->Mem->Out β):(Out.bad:Out α).bind f= .bad:=id rfl
def YK(K:Frag)(H:Hp)(a:Addr)(xs:List V):Prop:=(∃o,H a=some (.gW o (.lst xs)))\/
 ∃(o:Obj) (its:Array Value) (n:Nat),K.lookup a=some o/\o.cls= .type "list" /\ o.dict=none/\o.data= .seq its n/\its.size<=sizeLine/\Vals xs its.toList
theorem YK.sq{K:Frag}{H:Hp}{a:Addr}{xs:List V}(h:YK K H a xs):De K H a xs:=h.elim (λz=> .inl (.inr z)) .inr
def KT(K:Frag)(a:Addr)(xs:List V):Prop:=∃(o:Obj) (its:Array Value) (n:Nat),K.lookup a=some o/\o.cls= .type "tuple" /\ o.data= .seq its n/\its.size<=sizeLine/\Vals xs its.toList
def Fx:HO:= .ext λ_=>True
def YC(o:Obj)(cv:Value)(c:Addr):Prop:=∃(name qual x p:Str) (p1 p2 p3 p4 pa:Pos) (scope:Scope) (pm ctv:Value),
 o={cls:= .type "function",data:= .func (PySem.W.kla_fn name qual ⟨[],[⟨p,none,pa⟩],none,[],[],none,[]⟩ (.Call (.Attribute (.Name x p1) "append" p2) [.Name p p3] [] p4) scope [(x,c)] pm cv ctv)}/\
 scope.kind= .function/\scope.isCoroutine=false/\scope.isGenerator=false/\scope.names.lookup x=some .free/\scope.names.lookup p=some .local/\(∀y∈scope.names,y.2≠ .cell)/\x≠p/\
 (x==("__debug__" : Str))=false/\(x==("__classdict__" : Str))=false/\(p==("__debug__" : Str))=false/\(p==("__classdict__" : Str))=false/\(p2.endLine==p4.line)=true/\(∀y,scope.names.lookup y=some .free->y=x)/\
 ∀u:Value,bindArgs (PySem.W.kla_fn name qual ⟨[],[⟨p,none,pa⟩],none,[],[],none,[]⟩ (.Call (.Attribute (.Name x p1) "append" p2) [.Name p p3] [] p4) scope [(x,c)] pm cv ctv) ⟨[u],[]⟩=pure [(p,u)]
def BJ(H:Hp)(cv:Value):Prop:=∃c oc vs q t,cv= .ref c/\H c=some (.gW oc Fx)/\oc.data= .fields vs/\vs[1]? = some (.str q t)
mutual
inductive DV (K:Frag) (ct ι:Nat->Addr) (n:Nat) (H:Hp):D->V->Prop
 | non:DV K ct ι n H .non .non
 | bl (b:Bool):DV K ct ι n H (.bl b) (.bl b)
 | int (i:Int):DV K ct ι n H (.int i) (.int i)
 | str (x:Str):DV K ct ι n H (.str x) (.str x)
 | tup {a:Addr} {xs:List V} {ds:List D}:H a=some (.tup xs)->oZ K ct ι n H ds xs->DV K ct ι n H (.tup ds) (.ref a)
 | ref {i:Nat}:i<n->DV K ct ι n H (.ref i) (.ref (ι i))
 | cl {a:Addr} {xs:List V} {ds:List D}:YK K H a xs->oZ K ct ι n H ds xs->DV K ct ι n H (.cl ds) (.ref a)
 | ty (s:String):DV K ct ι n H (.ty s) (.ty s)
 | cls (c:Nat):DV K ct ι n H (.cls c) (.ref (ct c))
 | exc {a dx:Addr} {c:Nat} {d:D} {v:V}:H a=some (xC a (ct c) dx)->H dx=some (.xd [("at",v)])->DV K ct ι n H d v->DV K ct ι n H (.exc c d) (.ref a)
 | fn {f c:Addr} {o oc:Obj} {uc:HO} {cv:Value} {l:Nat}:H f=some (.gW o Fx)->YC o cv c->BJ H cv->H c=some (.gW oc uc)->(oc.data= .cell (some (.ref (ι l)))/\∀ks,uc≠ .dK ks)->l<n->DV K ct ι n H (.fn l) (.ref f)
 | Vz {a:Addr} {xs:List V} {ds:List D}:KT K a xs->oZ K ct ι n H ds xs->DV K ct ι n H (.Vz ds) (.ref a)
inductive oZ (K:Frag) (ct ι:Nat->Addr) (n:Nat) (H:Hp):List D->List V->Prop
 | nil:oZ K ct ι n H [] []
 | cons {d:D} {x:V} {ds:List D} {xs:List V}:DV K ct ι n H d x->oZ K ct ι n H ds xs->oZ K ct ι n H (d::ds) (x::xs)
end
structure Ext(K:Frag)(ι:Nat->Addr)(n:Nat)(H:Hp)(ι':Nat->Addr)(n':Nat)(H':Hp):Prop where
 tup:∀a xs,H a=some (.tup xs)->H' a=some (.tup xs)
 gW:∀a xs,YK K H a xs->YK K H' a xs
 ex:∀a φ,H a=some (.ext φ)->H' a=some (.ext φ)
 xd:∀a fs,H a=some (.xd fs)->H' a=some (.xd fs)
 fz:∀a o u,H a=some (.gW o u)->H' a=some (.gW o u)
 le:n<=n'
 same:∀i,i<n->ι' i=ι i
theorem Ext.refl{K:Frag}{ι:Nat->Addr}{n:Nat}{H:Hp}:Ext K ι n H ι n H:=⟨λ_ _ h=>h,λ_ _ h=>h,λ_ _ h=>h,λ_ _ h=>h,λ_ _ _ h=>h,jS _,λ_ _=>rfl⟩
theorem Ext.trans{K:Frag}{ι dU nR:Nat->Addr}{n n1 n2:Nat}{H H1 H2:Hp}(a:Ext K ι n H dU n1 H1)(b:Ext K dU n1 H1 nR n2 H2):Ext K ι n H nR n2 H2:=
 ⟨λx xs h=>b.tup x xs (a.tup x xs h),λx xs h=>b.gW x xs (a.gW x xs h),λx xs h=>b.ex x xs (a.ex x xs h),λx xs h=>b.xd x xs (a.xd x xs h),λx o u h=>b.fz x o u (a.fz x o u h),yY a.le b.le,λi hi=>(b.same i (yA hi a.le)).trans (a.same i hi)⟩
theorem BJ.mono(h:BJ H cv)(f:∀a o u,H a=some (.gW o u)->H' a=some (.gW o u)):BJ H' cv:=
 let⟨c,oc,vs,q,t,a1,a2,r⟩:=h;⟨c,oc,vs,q,t,a1,f _ _ _ a2,r⟩
mutual
theorem DV.mono{K:Frag}{ct ι ι':Nat->Addr}{n n':Nat}{H H':Hp}(e:Ext K ι n H ι' n' H'):∀{d:D} {v:V},DV K ct ι n H d v->DV K ct ι' n' H' d v
 | _,_,.non=> .non
 | _,_,.bl b=> .bl b
 | _,_,.int i=> .int i
 | _,_,.str x=> .str x
 | _,_,.tup h hs=> .tup (e.tup _ _ h) (oZ.mono e hs)
 | _,_,.ref (i:=i) h=>by rw[<-e.same i h];exact .ref (yA h e.le)
 | _,_,.cl h hs=> .cl (e.gW _ _ h) (oZ.mono e hs)
 | _,_,.ty s=> .ty s
 | _,_,.cls c=> .cls c
 | _,_,.exc h1 h2 h3=> .exc (e.ex _ _ h1) (e.xd _ _ h2) (DV.mono e h3)
 | _,_,.fn (l:=l) h1 h2 h3 h4 h5 h6=> .fn (e.fz _ _ _ h1) h2 (h3.mono e.fz) (e.fz _ _ _ h4) (by rw[e.same l h6];exact h5) (yA h6 e.le)
 | _,_,.Vz h hs=> .Vz h (oZ.mono e hs)
theorem oZ.mono{K:Frag}{ct ι ι':Nat->Addr}{n n':Nat}{H H':Hp}(e:Ext K ι n H ι' n' H'):∀{ds:List D} {vs:List V},oZ K ct ι n H ds vs->oZ K ct ι' n' H' ds vs
 | _,_,.nil=> .nil
 | _,_,.cons h hs=> .cons (DV.mono e h) (oZ.mono e hs)
end
section
variable{K:Frag}{ct ι:Nat->Addr}{n:Nat}{H:Hp}
theorem oZ.length:∀{ds:List D} {vs:List V},oZ K ct ι n H ds vs->vs.length=ds.length
 | _,_,.nil=>rfl
 | _,_,.cons _ h=>congrArg (· + 1) h.length
theorem oZ.at:∀{ds:List D} {vs:List V} {i:Nat} {d:D},oZ K ct ι n H ds vs->ds[i]? = some d->∃v,vs[i]? = some v/\DV K ct ι n H d v
 | _,_,_,_,.nil,e=>by simp at e
 | _,_,0,_,.cons h _,e=>by simp at e;subst e;exact⟨_,rfl,h⟩
 | _,_,i+1,_,.cons _ hs,e=>by simpa using hs.at (i:=i) (by simpa using e)
theorem oZ.append:∀{ds es:List D} {vs ws:List V},oZ K ct ι n H ds vs->oZ K ct ι n H es ws->oZ K ct ι n H (ds++es) (vs++ws)
 | _,_,_,_,.nil,h=>h
 | _,_,_,_,.cons h hs,h'=> .cons h (hs.append h')
theorem oZ.take:∀{ds:List D} {vs:List V} (k:Nat),oZ K ct ι n H ds vs->oZ K ct ι n H (ds.take k) (vs.take k)
 | _,_,0,_=>by simp;exact .nil
 | _,_,_+1,.nil=>by simp;exact .nil
 | _,_,k+1,.cons h hs=>by simp;exact .cons h (hs.take k)
theorem oZ.drop:∀{ds:List D} {vs:List V} (k:Nat),oZ K ct ι n H ds vs->oZ K ct ι n H (ds.drop k) (vs.drop k)
 | _,_,0,h=>by simpa using h
 | _,_,_+1,.nil=>by simp;exact .nil
 | _,_,k+1,.cons _ hs=>by simp;exact hs.drop k
end
inductive Pz (K:Frag) (ct ι:Nat->Addr) (n:Nat) (H:Hp):List (Str×D)->List (Str×V)->Prop
 | nil:Pz K ct ι n H [] []
 | cons {x:Str} {d:D} {v:V} {fs:List (Str×D)} {vs:List (Str×V)}:DV K ct ι n H d v->Pz K ct ι n H fs vs->Pz K ct ι n H ((x,d)::fs) ((x,v)::vs)
theorem Pz.mono{K:Frag}{ct ι ι':Nat->Addr}{n n':Nat}{H H':Hp}(e:Ext K ι n H ι' n' H'):∀{fs:List (Str×D)} {vs:List (Str×V)},Pz K ct ι n H fs vs->Pz K ct ι' n' H' fs vs
 | _,_,.nil=> .nil
 | _,_,.cons h hs=> .cons (h.mono e) (hs.mono e)
noncomputable def putD(f:Str)(d:D):List (Str×D)->List (Str×D)
 | []=>[(f,d)]
 | (x,e)::r=>if x=f then(x,d)::r else(x,e)::putD f d r
section
variable{K:Frag}{ct ι:Nat->Addr}{n:Nat}{H:Hp}
theorem Pz.length:∀{fs:List (Str×D)} {vs:List (Str×V)},Pz K ct ι n H fs vs->vs.length=fs.length
 | _,_,.nil=>rfl
 | _,_,.cons _ h=>congrArg (· + 1) h.length
theorem Pz.look:∀{fs:List (Str×D)} {vs:List (Str×V)} {d:D},Pz K ct ι n H fs vs->fs.lookup x=some d->∃v,vs.lookup x=some v/\DV K ct ι n H d v
 | _,_,_,.nil,e=>by simp at e
 | _,_,d,.cons (x:=y) h hs,e=>by
  rw[List.lookup_cons]at e ⊢
  cases z:x==y with
  | true=>rw[z]at e;exact⟨_,rfl,by cases e;exact h⟩
  | false=>rw[z]at e;exact hs.look e
theorem Pz.adw:∀{fs:List (Str×D)} {vs:List (Str×V)},Pz K ct ι n H fs vs->fs.lookup x=none->vs.lookup x=none
 | _,_,.nil,_=>rfl
 | _,_,.cons (x:=y) h hs,e=>by
  rw[List.lookup_cons]at e ⊢
  cases z:x==y with
  | true=>rw[z]at e;cases e
  | false=>rw[z]at e;exact hs.adw e
end
inductive Er (K:Frag) (ct ι:Nat->Addr) (n:Nat) (H:Hp) {κ:Type}:List (κ×D)->List (κ×V)->Prop
 | nil:Er K ct ι n H [] []
 | cons {x:κ} {d:D} {v:V} {fs:List (κ×D)} {vs:List (κ×V)}:DV K ct ι n H d v->Er K ct ι n H fs vs->Er K ct ι n H ((x,d)::fs) ((x,v)::vs)
theorem Er.mono{K:Frag}{ct ι ι':Nat->Addr}{n n':Nat}{H H':Hp}(e:Ext K ι n H ι' n' H'){κ:Type}:∀{fs:List (κ×D)} {vs:List (κ×V)},Er K ct ι n H fs vs->Er K ct ι' n' H' fs vs
 | _,_,.nil=> .nil
 | _,_,.cons h hs=> .cons (h.mono e) (hs.mono e)
theorem Er.length{K:Frag}{ct ι:Nat->Addr}{n:Nat}{H:Hp}{κ:Type}:∀{fs:List (κ×D)} {vs:List (κ×V)},Er K ct ι n H fs vs->vs.length=fs.length
 | _,_,.nil=>rfl
 | _,_,.cons _ h=>congrArg (· + 1) h.length
def OR(K:Frag)(ct ι:Nat->Addr)(n:Nat)(H:Hp)(a:Addr):MO->Prop
 | .lst ds=>∃vs,H a=some (.lst vs)/\oZ K ct ι n H ds vs
 | .ins c fs=>∃dx vs,H a=some (.ins (ct c) dx vs)/\Pz K ct ι n H fs vs
 | .dk kvs=>∃vs,H a=some (.dK vs)/\Er K ct ι n H kvs vs
 | .dt kvs=>∃vs,H a=some (.dT vs)/\Er K ct ι n H kvs vs
 | .fd kvs=>∃o vs,H a=some (.gW o (.dK vs))/\Er K ct ι n H kvs vs
def TabOk(H:Hp)(ps:Array Value):Prop:=TriplesOk ps.toList/\∀pos cv,codeAmong pos ps.toList=some cv->BJ H cv
def T5(ct:Nat->Addr)(H:Hp):Prop:=∀k,1000<=k->ct k≠0->∃ps,H (ct k)=some (.zu ps)/\TabOk H ps
structure Rl(K:Frag)(ct ι:Nat->Addr)(M:Mem)(H:Hp):Prop where
 inj:∀i j,i<M.length->j<M.length->ι i=ι j->i=j
 obj:∀(i:Nat) (o:MO),M[i]? = some o->OR K ct ι M.length H (ι i) o
 tab:T5 ct H
structure Ws(K:Frag)(ct ι:Nat->Addr)(e:Sl)(M:Mem)(σ:St)(H:Hp):Prop where
 rl:Rl K ct ι M H
 len:σ.length=e.length
 env:∀(i:Nat) (d:D),e[i]? = some (some d)->∃v,σ[i]? = some (some v)/\DV K ct ι M.length H d v
section
variable{K:Frag}{ct ι:Nat->Addr}{M:Mem}{H:Hp}
theorem OR.some(h:OR K ct ι n H a o):∃u,H a=some u:=by
 cases o with
 | lst ds=>obtain⟨vs,e,_⟩:=h;exact⟨_,e⟩
 | ins c fs=>obtain⟨dx,vs,e,_⟩:=h;exact⟨_,e⟩
 | dk kvs=>obtain⟨vs,e,_⟩:=h;exact⟨_,e⟩
 | dt kvs=>obtain⟨vs,e,_⟩:=h;exact⟨_,e⟩
 | fd kvs=>obtain⟨o,vs,e,_⟩:=h;exact⟨_,e⟩
theorem Q_(hp:∀b u,H p≠some (.gW b u))(h:YK K H a xs):YK K (upd H p o) a xs:=by
 rcases h with⟨b,h⟩ | h
 ·have ne:a≠p:=λe=>by subst e;exact hp _ _ h
  exact .inl ⟨b,by rw[aO ne];exact h⟩
 ·exact .inr h
theorem aaj(hp:H p=none):∀b u,H p≠some (.gW b u):=λb u h=>by rw[hp]at h;cases h
theorem OR.keep(e:Ext K ι n H ι' n' H')(ea:a'=a)(hh:H' a=H a)(h:OR K ct ι n H a o):OR K ct ι' n' H' a' o:=by
 subst ea
 cases o with
 | lst ds=>obtain⟨vs,q,r⟩:=h;exact⟨vs,by rw[hh];exact q,r.mono e⟩
 | ins c fs=>obtain⟨dx,vs,q,r⟩:=h;exact⟨dx,vs,by rw[hh];exact q,r.mono e⟩
 | dk kvs=>obtain⟨vs,q,r⟩:=h;exact⟨vs,by rw[hh];exact q,r.mono e⟩
 | dt kvs=>obtain⟨vs,q,r⟩:=h;exact⟨vs,by rw[hh];exact q,r.mono e⟩
 | fd kvs=>obtain⟨o,vs,q,r⟩:=h;exact⟨o,vs,by rw[hh];exact q,r.mono e⟩
def lV(ι:Nat->Addr)(n:Nat)(p:Addr):Nat->Addr:=λi=>if i=n then p else ι i
theorem nA(hp:H p=none)(h:H a=some u):upd H p o a=some u:=by rw[aO (bR h hp)];exact h
theorem T5.keep(h:T5 ct H)(h1:∀a ps,H a=some (.zu ps)->H' a=some (.zu ps))(h2:∀a o u,H a=some (.gW o u)->H' a=some (.gW o u)):T5 ct H':=λk hk hc=>
 let⟨ps,a,t,b⟩:=h k hk hc
 ⟨ps,h1 _ _ a,t,λpos cv z=>(b pos cv z).mono h2⟩
theorem Ext.fresh(hp:H p=none):Ext K ι n H ι n (upd H p o):=⟨λ_ _ h=>nA hp h,λ_ _ h=>Q_ (aaj hp) h,λ_ _ h=>nA hp h,λ_ _ h=>nA hp h,λ_ _ _ h=>nA hp h,jS _,λ_ _=>rfl⟩
theorem Rl.lt(R:Rl K ct ι M H)(h:M[i]? = some o):∃u,H (ι i)=some u:=(R.obj i o h).some
theorem Rl.fresh(R:Rl K ct ι M H)(hp:H p=none):Rl K ct ι M (upd H p o):=by
 refine⟨R.inj,λi x h=> ?_,R.tab.keep (λ_ _ h=>nA hp h) λ_ _ _ h=>nA hp h⟩
 obtain⟨u,hu⟩:=R.lt h
 exact(R.obj i x h).keep (Ext.fresh hp) rfl (aO (bR hu hp))
theorem Ext.new(hp:H p=none):Ext K ι M.length H (lV ι M.length p) (M.length+1) (upd H p o):=
 ⟨λ_ _ h=>nA hp h,λ_ _ h=>Q_ (aaj hp) h,λ_ _ h=>nA hp h,λ_ _ h=>nA hp h,λ_ _ _ h=>nA hp h,Nat.le_succ _,λi hi=>by unfold lV;rw[if_neg (xD hi)]⟩
theorem Rl.new(R:Rl K ct ι M H)(hp:H p=none)(h:OR K ct (lV ι M.length p) (M.length+1) (upd H p o) p x):Rl K ct (lV ι M.length p) (M++[x]) (upd H p o):=by
 have ne:∀i,i<M.length->ι i≠p:=λi hi=>by
  obtain⟨u,hu⟩:=R.lt (zaa hi)
  exact bR hu hp
 have el:(M++[x]).length=M.length+1:=by simp
 refine⟨λi j hi hj e=> ?_,λi y hy=> ?_,R.tab.keep (λ_ _ h=>nA hp h) λ_ _ _ h=>nA hp h⟩
 ·rw[el]at hi hj
  unfold lV at e
  by_cases a:i=M.length
  ·by_cases b:j=M.length
   ·rw[a,b]
   ·rw[if_pos a,if_neg b]at e
    exact absurd e.symm (ne j ())
  ·by_cases b:j=M.length
   ·rw[if_neg a,if_pos b]at e
    exact absurd e (ne i ())
   ·rw[if_neg a,if_neg b]at e
    exact R.inj i j () () e
 ·rw[el]
  by_cases a:i<M.length
  ·rw[zac a]at hy
   obtain⟨u,hu⟩:=R.lt hy
   refine(R.obj i y hy).keep (Ext.new hp) ?_ (aO (bR hu hp))
   unfold lV
   rw[if_neg (xD a)]
  ·have hi:i<(M++[x]).length:=(List.getElem?_eq_some_iff.mp hy).1
   have e:i=M.length:=by rw[el]at hi;omega
   subst e
   rw[zab (jS _)]at hy
   simp at hy
   subst hy
   have:lV ι M.length p M.length=p:=by unfold lV;rw[if_pos rfl]
   rw[this]
   exact h
theorem Ext.chg(h:H a=some u)(hu:∀xs,u≠ .tup xs)(hz:∀b x,u≠ .gW b x)(hx:∀φ,u≠ .ext φ:=by exact λ_ z=>nomatch z)(hd:∀fs,u≠ .xd fs:=by exact λ_ z=>nomatch z):Ext K ι n H ι n (upd H a o):=
 ⟨λb xs q=>by
  rw[aO (λe=>by subst e;rw[h]at q;exact hu xs (xI q))];exact q,λ_ _ q=>Q_ (λb x r=>by rw[h]at r;exact hz b x (xI r)) q,λb φ q=>by
  rw[aO (λe=>by subst e;rw[h]at q;exact hx φ (xI q))];exact q,λb fs q=>by
  rw[aO (λe=>by subst e;rw[h]at q;exact hd fs (xI q))];exact q,λb x y q=>by
  rw[aO (λe=>by subst e;rw[h]at q;exact hz x y (xI q))];exact q,jS _,λ_ _=>rfl⟩
theorem Rl.chg(R:Rl K ct ι M H)(hi:i<M.length)(h:H (ι i)=some u)(hu:∀xs,u≠ .tup xs)(hz:∀b x,u≠ .gW b x)(hx:OR K ct ι M.length (upd H (ι i) o) (ι i) x)(hex:∀φ,u≠ .ext φ:=by exact λ_ z=>nomatch z)(hxd:∀fs,u≠ .xd fs:=by exact λ_ z=>nomatch z)(htb:∀ps,u≠ .zu ps:=by exact λ_ z=>nomatch z):Rl K ct ι (M.set i x) (upd H (ι i) o):=by
 refine⟨λj k hj hk e=>R.inj j k (by simpa using hj) (by simpa using hk) e,λj y hy=> ?_,R.tab.keep (λb ps q=>by
  rw[aO (λe=>by subst e;rw[h]at q;exact htb ps (xI q))];exact q) λb x y q=>by
  rw[aO (λe=>by subst e;rw[h]at q;exact hz x y (xI q))];exact q⟩
 rw[List.length_set]
 by_cases e:i=j
 ·subst e
  rw[zag hi]at hy
  cases hy
  exact hx
 ·rw[zaf e]at hy
  have hj:j<M.length:=(List.getElem?_eq_some_iff.mp hy).1
  exact(R.obj j y hy).keep (Ext.chg h hu hz hex hxd) rfl (aO λz=>e (R.inj i j hi hj z.symm))
theorem Ws.ext(w:Ws K ct ι e M σ H)(x:Ext K ι M.length H ι' M'.length H')(r:Rl K ct ι' M' H'):Ws K ct ι' e M' σ H':=
 ⟨r,w.len,λi d h=>let⟨v,a,b⟩:=w.env i d h;⟨v,a,b.mono x⟩⟩
theorem Ws.set(w:Ws K ct ι e M σ H)(i:Nat)(h:DV K ct ι M.length H d v):Ws K ct ι (e.set i (some d)) M (σ.set i (some v)) H:=by
 refine⟨w.rl,by simp[w.len],λj d' hj=> ?_⟩
 by_cases z:i=j
 ·subst z
  have hi:i<e.length:=by have:=(List.getElem?_eq_some_iff.mp hj).1;simpa using this
  rw[zag hi]at hj
  cases hj
  exact⟨v,zag (by rw[w.len];exact hi),h⟩
 ·rw[zaf z]at hj
  obtain⟨v',a,b⟩:=w.env j d' hj
  exact⟨v',by rw[zaf z];exact a,b⟩
end
abbrev XW:=Addr->Addr->Hp->Prop
def wAt(W:bJ)(σ:St):XW:=λC dx H=>W C dx σ H
def W0:bJ:=λ_ _ _ _=>False
def k_{α β:Type}(rel:(Nat->Addr)->Mem->Hp->α->β->Prop)(K:Frag)(ct:Nat->Addr)(w:XW)(ι:Nat->Addr)(n:Nat)(H:Hp)(o:Out α)(Q:β->Hp->Prop):Prop:=match o with
 | .ok a M'=>∀ι' b H',Ext K ι n H ι' M'.length H'->Rl K ct ι' M' H'->rel ι' M' H' a b->Q b H'
 | .exc c d M'=>∀ι' dx v H',Ext K ι n H ι' M'.length H'->Rl K ct ι' M' H'->H' dx=some (.xd [("at",v)])->DV K ct ι' M'.length H' d v->w (ct c) dx H'
 | .bad=>False
def tG{α β:Type}(rel:(Nat->Addr)->Mem->Hp->α->β->Prop)(K:Frag)(ct:Nat->Addr)(W:bJ)(m:Sl->Mem->Out α)(σ:St)(H:Hp)(Q:β->Hp->Prop):Prop:=
 ∃ι e M,Ws K ct ι e M σ H/\k_ rel K ct (wAt W σ) ι M.length H (m e M) Q
abbrev gQ(K:Frag)(ct:Nat->Addr):(Nat->Addr)->Mem->Hp->D->V->Prop:=λι M H d v=>DV K ct ι M.length H d v
abbrev Ie(K:Frag)(ct:Nat->Addr):(Nat->Addr)->Mem->Hp->List D->List V->Prop:=λι M H d v=>oZ K ct ι M.length H d v
abbrev JV:(Nat->Addr)->Mem->Hp->Bool->Bool->Prop:=λ_ _ _ a b=>a=b
abbrev ME:=Sl->Mem->Out D
abbrev MT:=Sl->Mem->Out Bool
abbrev MA:=Sl->Mem->Out (List D)
def SE(X:Cx)(ct:Nat->Addr)(W:bJ)(e:Expr)(m:ME):Prop:=PE X e (tG (gQ X.K ct) X.K ct W m)
def YH(X:Cx)(ct:Nat->Addr)(W:bJ)(e:Expr)(m:MT):Prop:=PT X e (tG JV X.K ct W m)
def SW(X:Cx)(ct:Nat->Addr)(W:bJ)(e:Expr)(m:MT):Prop:=PW X e (tG JV X.K ct W m)
def SA(X:Cx)(ct:Nat->Addr)(W:bJ)(es:List Expr)(m:MA):Prop:=PA X es (tG (Ie X.K ct) X.K ct W m)
theorem SW.pt(h:SW X ct W e m):YH X ct W e m:=PW.pt h
section
variable{X:Cx}{ct:Nat->Addr}
theorem PE.imp(h:PE X e t)(hi:∀σ H Q,t' σ H Q->t σ H Q):PE X e t':=λpins s σ H Q I q=>h pins s σ H Q I (hi σ H Q q)
theorem PT.imp(h:PT X e t)(hi:∀σ H Q,t' σ H Q->t σ H Q):PT X e t':=λpins s σ H Q I q=>h pins s σ H Q I (hi σ H Q q)
theorem PW.imp(h:PW X e t)(hi:∀σ H Q,t' σ H Q->t σ H Q):PW X e t':=λwh pins s σ H Q I q=>h wh pins s σ H Q I (hi σ H Q q)
theorem PA.imp(h:PA X es t)(hi:∀σ H Q,t' σ H Q->t σ H Q):PA X es t':=λpos pins s σ H Q I q=>h pos pins s σ H Q I (hi σ H Q q)
end
theorem k_.ext{α β:Type}{rel:(Nat->Addr)->Mem->Hp->α->β->Prop}{K:Frag}{ct ι ι':Nat->Addr}{w:XW}{n n':Nat}{H H':Hp}{o:Out α}{Q:β->Hp->Prop}(h:k_ rel K ct w ι n H o Q)(x:Ext K ι n H ι' n' H'):k_ rel K ct w ι' n' H' o Q:=by
 cases o with
 | ok a M=>exact λnR b H2 x2 r q=>h nR b H2 (x.trans x2) r q
 | exc c d M=>exact λnR dx v H2 x2 r q1 q2=>h nR dx v H2 (x.trans x2) r q1 q2
 | bad=>exact h
theorem k_.mono{α β:Type}{rel:(Nat->Addr)->Mem->Hp->α->β->Prop}{K:Frag}{ct ι:Nat->Addr}{w:XW}{n:Nat}{H:Hp}{o:Out α}{Q Q':β->Hp->Prop}(h:k_ rel K ct w ι n H o Q)(x:∀b H,Q b H->Q' b H):k_ rel K ct w ι n H o Q':=by
 cases o with
 | ok a M=>exact λnR b H2 x2 r q=>x b H2 (h nR b H2 x2 r q)
 | exc c d M=>exact h
 | bad=>exact h
def axp{α β γ δ:Type}(iR:(Nat->Addr)->Mem->Hp->α->β->Prop)(Wi:(Nat->Addr)->Mem->Hp->γ->δ->Prop)(K:Frag)(ct:Nat->Addr)(W:bJ)(f:α->Sl->Mem->Out γ)(σ:St)(Q:δ->Hp->Prop)(b:β)(H1:Hp):Prop:=
 ∃ι e M a,Ws K ct ι e M σ H1/\iR ι M H1 a b/\k_ Wi K ct (wAt W σ) ι M.length H1 (f a e M) Q
theorem di{α β γ δ:Type}{iR:(Nat->Addr)->Mem->Hp->α->β->Prop}{Wi:(Nat->Addr)->Mem->Hp->γ->δ->Prop}{K:Frag}{ct:Nat->Addr}{W:bJ}{ma:Sl->Mem->Out α}{f:α->Sl->Mem->Out γ}{σ:St}{H:Hp}{Q:δ->Hp->Prop}
  (h:tG Wi K ct W (λe M=>(ma e M).bind λa M1=>f a e M1) σ H Q):tG iR K ct W ma σ H (axp iR Wi K ct W f σ Q):=by
 obtain⟨ι,e,M,w,p⟩:=h
 refine⟨ι,e,M,w,?_⟩
 cases z:ma e M with
 | bad=>simp only[z,Out.je]at p;exact p
 | exc xc xd xM=>simp only[z,Out.sV]at p;exact p
 | ok a M1=>
  simp only[z,Out.fc]at p
  exact λdU b H1 x r q=>⟨dU,e,M1,a,w.ext x r,q,p.ext x⟩
section
variable{X:Cx}{ct:Nat->Addr}{W:bJ}{a b c:Expr}{ma mb mc:ME}{pos:Pos}
@[irreducible] def au(i:Nat):ME:=λe M=>match e[i]? with
 | some (some d)=> .ok d M
 | _=> .bad
theorem j5(h:e[i]? = some (some d)):au i e M= .ok d M:=by unfold au;rw[h]
def mC(d:D):ME:=λ_ M=> .ok d M
theorem ig(h:PE X e t)(hi:∀σ H Q,tG (gQ X.K ct) X.K ct W m σ H Q->t σ H Q):SE X ct W e m:=PE.imp h hi
theorem aj(i:Nat)(hN:X.N[i]? = some x:=by rfl)(hv:Vis X.env.scope x:=by first | exact Or.inl rfl | exact Or.inr (Or.inl rfl) | exact Or.inr (Or.inr rfl))(hd:(x==("__debug__" : Str))=false:=by decide)
  (hcd:(x==("__classdict__" : Str))=false:=by decide):SE X ct W (.Name x pos) (au i):=ig (Qu hN hv hd hcd) λσ H Q ⟨ι,e,M,w,p⟩=>by
 unfold au at p
 cases z:e[i]? with
 | none=>rw[z]at p;exact p.elim
 | some o=>
  cases o with
  | none=>rw[z]at p;exact p.elim
  | some d=>
   rw[z]at p
   obtain⟨v,hv,dv⟩:=w.env i d z
   exact⟨v,hv,p ι v H .refl w.rl dv⟩
theorem KH(dv:∀ι n,DV X.K ct ι n H d v)(h:tG (gQ X.K ct) X.K ct W (mC d) σ H Q):tC v σ H Q:=by
 obtain⟨ι,e,M,w,p⟩:=h
 exact p ι v H .refl w.rl (dv _ _)
theorem aJ{i j pos}:SE X ct W (.Constant (.int i) j pos) (mC (.int i)):=ig aeL λ_ _ _ h=>KH (λ_ _=> .int i) h
theorem K6{b j pos}:SE X ct W (.Constant (.bool b) j pos) (mC (.bl b)):=ig aiQ λ_ _ _ h=>KH (λ_ _=> .bl b) h
theorem wV{j pos}:SE X ct W (.Constant .none j pos) (mC .non):=ig aeJ λ_ _ _ h=>KH (λ_ _=> .non) h
theorem cF{x j pos}:SE X ct W (.Constant (.str x) j pos) (mC (.str x)):=ig aeG λ_ _ _ h=>KH (λ_ _=> .str x) h
theorem B_(hg:Gl X x)(hm:X.mg x=none)(hv:bootBuiltins x=some (.type n))(hn:x≠ "__name__" := by decide)(hd:(x==("__debug__" : Str))=false:=by decide):SE X ct W (.Name x pos) (mC (.ty n)):=
 ig (abZ (v:= .ty n) hg hm hv rfl hn hd) λ_ _ _ h=>KH (λ_ _=> .ty n) h
theorem Zw(hg:Gl X x)(hm:X.mg x=some (.ref (ct k)))(hd:(x==("__debug__" : Str))=false:=by decide):SE X ct W (.Name x pos) (mC (.cls k)):=
 ig (Wn (v:= .ref (ct k)) hg hm rfl hd) λ_ _ _ h=>KH (λ_ _=> .cls k) h
abbrev zp:=D->D->Mem->Out D
def aM(op:zp)(ma mb:ME):ME:=λe M=>(ma e M).bind λd M1=>(mb e M1).bind λd' M2=>op d d' M2
def RN(K:Frag)(ct:Nat->Addr)(op:zp)(r:R2):Prop:=
 ∀{w:XW} ι M H d d' v v' Q,Rl K ct ι M H->DV K ct ι M.length H d v->DV K ct ι M.length H d' v'->k_ (gQ K ct) K ct w ι M.length H (op d d' M) Q->r v v' H Q
def nG(X:Cx)(ct:Nat->Addr)(f:Value->Value->Sem Value)(op:zp):Prop:=∃r,Bl X f r/\RN X.K ct op r
theorem P_(hs:RN X.K ct op r)(h:tG (gQ X.K ct) X.K ct W (aM op ma mb) σ H Q):
  tOp r (tG (gQ X.K ct) X.K ct W ma) (tG (gQ X.K ct) X.K ct W mb) σ H Q:=by
 obtain⟨ι,e,M,w,p⟩:=di (iR:=gQ X.K ct) h
 refine⟨ι,e,M,w,p.mono ?_⟩
 rintro x H1 ⟨dU,e1,M1,d1,w1,q1,p1⟩
 refine⟨dU,e1,M1,w1,?_⟩
 cases z:mb e1 M1 with
 | bad=>simp only[z,Out.je]at p1;exact p1
 | exc xc xd xM=>simp only[z,Out.sV]at p1;exact p1
 | ok d2 M2=>
  simp only[z,Out.fc]at p1
  exact λnR y H2 x2 r2 q2=>hs nR M2 H2 d1 d2 x y Q r2 (q1.mono x2) q2 (p1.ext x2)
theorem aR(h:nG X ct (binaryOp op) sop)(ha:SE X ct W a ma)(hb:SE X ct W b mb):SE X ct W (.BinOp a op b pos) (aM sop ma mb):=by
 obtain⟨r,ho,hs⟩:=h
 exact ig (aiO ho ha hb) λσ H Q q=>P_ hs q
theorem vg(h:nG X ct (compareOp op) sop)(ha:SE X ct W a ma)(hb:SE X ct W b mb)(hm:behindInMarks op b=false):SE X ct W (.Compare a [op] [b] pos) (aM sop ma mb):=by
 obtain⟨r,ho,hs⟩:=h
 exact ig (abY ho ha hb hm) λσ H Q q=>P_ hs q
def Yy(d:D)(M:Mem):Out Bool:=match d with
 | .bl b=> .ok b M
 | _=> .bad
def bA(m:ME):MT:=λe M=>(m e M).bind Yy
theorem R0{Q:Bool->Hp->Prop}(hi:∀Q,tG (gQ X.K ct) X.K ct W m σ H Q->t σ H Q)(h:tG JV X.K ct W (bA m) σ H Q):ac_ t σ H Q:=by
 refine hi _ ?_
 obtain⟨ι,e,M,w,p⟩:=di (iR:=gQ X.K ct) (f:=λd _ M=>Yy d M) h
 refine⟨ι,e,M,w,p.mono ?_⟩
 rintro x H1 ⟨dU,e1,M1,d1,w1,q1,p1⟩
 cases q1 with
 | bl b=>exact⟨b,rfl,p1 dU b H1 .refl w1.rl rfl⟩
 | _=>exact False.elim p1
theorem bN(h:nG X ct (compareOp op) sop)(ha:SE X ct W a ma)(hb:SE X ct W b mb)(hm:behindInMarks op b=false):YH X ct W (.Compare a [op] [b] pos) (bA (aM sop ma mb)):=by
 obtain⟨r,ho,hs⟩:=h
 exact PT.imp (abN ho ha hb hm) λσ H Q q=>R0 (λQ q=>P_ hs q) q
theorem lC(h:SE X ct W a m)(he:∀whole,isTrue a X.env whole=(do let v <-whole;standAt a.pos;holding [v] (truthy v)):=by intro _;rfl):YH X ct W a (bA m):=
 PT.imp (aex h he) λσ H Q q=>R0 (λQ q=>q) q
def mUn(op:D->Mem->Out D)(ma:ME):ME:=λe M=>(ma e M).bind op
def UnS(X:Cx)(ct:Nat->Addr)(f:Value->Sem Value)(op:D->Mem->Out D):Prop:=∃r,UnR X f r/\∀{w:XW} ι M H d v Q,Rl X.K ct ι M H->DV X.K ct ι M.length H d v->k_ (gQ X.K ct) X.K ct w ι M.length H (op d M) Q->r v H Q
theorem ahu(h:UnS X ct (unaryOp op) sop)(ha:SE X ct W a ma):SE X ct W (.UnaryOp op a pos) (mUn sop ma):=by
 obtain⟨r,ho,hs⟩:=h
 refine ig (aiM ho ha) λσ H Q q=> ?_
 obtain⟨ι,e,M,w,p⟩:=di (iR:=gQ X.K ct) (f:=λd _ M=>sop d M) q
 exact⟨ι,e,M,w,p.mono λx H1 ⟨dU,e1,M1,d1,w1,q1,p1⟩=>hs dU M1 H1 d1 x Q w1.rl q1 p1⟩
variable{t u:MT}{rest:List Expr}
def Vj(t u:MT):MT:=λe M=>(t e M).bind λk M1=>if k=true then u e M1 else .ok false M1
def mOr(t u:MT):MT:=λe M=>(t e M).bind λk M1=>if k=true then .ok true M1 else u e M1
def JX(t:MT):MT:=λe M=>(t e M).bind λk M1=> .ok (!k) M1
theorem FT(ha:YH X ct W a t):SW X ct W (.BoolOp .And [a] pos) t:=abH ha
theorem HS(ha:YH X ct W a t):SW X ct W (.BoolOp .Or [a] pos) t:=aev ha
theorem KJ(ha:YH X ct W a t)(hb:SW X ct W (.BoolOp .And (b::rest) pos) u):SW X ct W (.BoolOp .And (a::b::rest) pos) (Vj t u):=PW.imp (aew ha hb) λσ H Q q=>by
 obtain⟨ι,e,M,w,p⟩:=di (iR:=JV) (f:=λk e M1=>if k=true then u e M1 else .ok false M1) q
 refine⟨ι,e,M,w,p.mono ?_⟩
 rintro k H1 ⟨dU,e1,M1,d1,w1,q1,p1⟩
 have Ti:d1=k:=q1;subst Ti
 cases d1 with
 | true=>exact⟨dU,e1,M1,w1,p1⟩
 | false=>exact p1 dU false H1 .refl w1.rl rfl
theorem Oq(ha:YH X ct W a t)(hb:SW X ct W (.BoolOp .Or (b::rest) pos) u):SW X ct W (.BoolOp .Or (a::b::rest) pos) (mOr t u):=PW.imp (ahU ha hb) λσ H Q q=>by
 obtain⟨ι,e,M,w,p⟩:=di (iR:=JV) (f:=λk e M1=>if k=true then .ok true M1 else u e M1) q
 refine⟨ι,e,M,w,p.mono ?_⟩
 rintro k H1 ⟨dU,e1,M1,d1,w1,q1,p1⟩
 have Ti:d1=k:=q1;subst Ti
 cases d1 with
 | false=>exact⟨dU,e1,M1,w1,p1⟩
 | true=>exact p1 dU true H1 .refl w1.rl rfl
theorem yN(ha:YH X ct W a t):YH X ct W (.UnaryOp .Not a pos) (JX t):=PT.imp (aey ha) λσ H Q q=>by
 obtain⟨ι,e,M,w,p⟩:=di (iR:=JV) (f:=λk e M1=> .ok (!k) M1) q
 refine⟨ι,e,M,w,p.mono ?_⟩
 rintro k H1 ⟨dU,e1,M1,d1,w1,q1,p1⟩
 have Ti:d1=k:=q1;subst Ti
 exact p1 dU _ H1 .refl w1.rl rfl
def Jr(ma mb:ME):ME:=λe M=>(ma e M).bind λd M1=>(Yy d M1).bind λk M2=>if k=true then mb e M2 else .ok (.bl false) M2
def acf(ma mb:ME):ME:=λe M=>(ma e M).bind λd M1=>(Yy d M1).bind λk M2=>if k=true then .ok (.bl true) M2 else mb e M2
def aat(ma:ME):ME:=λe M=>(ma e M).bind λd M1=>(Yy d M1).bind λk M2=> .ok (.bl (!k)) M2
theorem Et{op}(h:SE X ct W a m):SE X ct W (.BoolOp op [a] pos) m:=aeH h
theorem HX(ha:SE X ct W a ma)(hb:SE X ct W (.BoolOp .And (b::rest) pos) mb):SE X ct W (.BoolOp .And (a::b::rest) pos) (Jr ma mb):=ig (aeN ha hb) λσ H Q q=>by
 obtain⟨ι,e,M,w,p⟩:=di (iR:=gQ X.K ct) (f:=λd e M1=>(Yy d M1).bind λk M2=>if k=true then mb e M2 else .ok (.bl false) M2) q
 refine⟨ι,e,M,w,p.mono ?_⟩
 rintro x H1 ⟨dU,e1,M1,d1,w1,q1,p1⟩
 cases q1 with
 | bl k=>
  refine⟨k,rfl,?_⟩
  simp only[Yy,Out.fc]at p1
  cases k with
  | true=>exact⟨dU,e1,M1,w1,p1⟩
  | false=>exact p1 dU _ H1 .refl w1.rl (.bl false)
 | _=>exact False.elim p1
theorem adh(ha:SE X ct W a ma)(hb:SE X ct W (.BoolOp .Or (b::rest) pos) mb):SE X ct W (.BoolOp .Or (a::b::rest) pos) (acf ma mb):=ig (aiN ha hb) λσ H Q q=>by
 obtain⟨ι,e,M,w,p⟩:=di (iR:=gQ X.K ct) (f:=λd e M1=>(Yy d M1).bind λk M2=>if k=true then .ok (.bl true) M2 else mb e M2) q
 refine⟨ι,e,M,w,p.mono ?_⟩
 rintro x H1 ⟨dU,e1,M1,d1,w1,q1,p1⟩
 cases q1 with
 | bl k=>
  refine⟨k,rfl,?_⟩
  simp only[Yy,Out.fc]at p1
  cases k with
  | false=>exact⟨dU,e1,M1,w1,p1⟩
  | true=>exact p1 dU _ H1 .refl w1.rl (.bl true)
 | _=>exact False.elim p1
theorem ad8(ha:SE X ct W a ma):SE X ct W (.UnaryOp .Not a pos) (aat ma):=ig (aeI ha) λσ H Q q=>by
 obtain⟨ι,e,M,w,p⟩:=di (iR:=gQ X.K ct) (f:=λd _ M1=>(Yy d M1).bind λk M2=>(Out.ok (D.bl (!k)) M2:Out D)) q
 refine⟨ι,e,M,w,p.mono ?_⟩
 rintro x H1 ⟨dU,e1,M1,d1,w1,q1,p1⟩
 cases q1 with
 | bl k=>exact⟨k,rfl,p1 dU _ H1 .refl w1.rl (.bl _)⟩
 | _=>exact False.elim p1
variable{es:List Expr}{ms:MA}
def aH:MA:=λ_ M=> .ok [] M
def aq(m:ME)(ms:MA):MA:=λe M=>(m e M).bind λd M1=>(ms e M1).bind λds M2=> .ok (d::ds) M2
theorem aA:SA X ct W [] aH:=PA.imp Lk λσ H Q ⟨ι,e,M,w,p⟩=>p ι [] H .refl w.rl .nil
theorem ak(ha:SE X ct W a ma)(hr:SA X ct W es ms)(hs:starEach (a::es) X.env=(false,eval a X.env)::starEach es X.env:=by rfl):SA X ct W (a::es) (aq ma ms):=PA.imp (Gn ha hr hs) λσ H Q q=>by
 obtain⟨ι,e,M,w,p⟩:=di (iR:=gQ X.K ct) (f:=λd e M1=>(ms e M1).bind λds M2=> .ok (d::ds) M2) q
 refine⟨ι,e,M,w,p.mono ?_⟩
 rintro x H1 ⟨dU,e1,M1,d1,w1,q1,p1⟩
 refine⟨dU,e1,M1,w1,?_⟩
 cases z:ms e1 M1 with
 | bad=>simp only[z,Out.je]at p1;exact p1
 | exc xc xd xM=>simp only[z,Out.sV]at p1;exact p1
 | ok ds M2=>
  simp only[z,Out.fc]at p1
  exact λnR xs H2 x2 r2 q2=>p1 nR (x::xs) H2 x2 r2 (.cons (q1.mono x2) q2)
def fQ(ms:MA):ME:=λe M=>(ms e M).bind λds M1=>if ds.length<=sizeLine then .ok (.tup ds) M1 else .bad
def rN(ms:MA):ME:=λe M=>(ms e M).bind λds M1=>if ds.length<=sizeLine then .ok (.ref M1.length) (M1++[.lst ds])else .bad
theorem Gh{w:XW}{K:Frag}{ι:Nat->Addr}{M:Mem}{H:Hp}{ds:List D}{xs:List V}{Q:VK}{p:Addr}(R:Rl K ct ι M H)(h:oZ K ct ι M.length H ds xs)(hp:H p=none)(q:k_ (gQ K ct) K ct w ι M.length H (.ok (.tup ds) M) Q):Q (.ref p) (upd H p (.tup xs)):=
 q ι (.ref p) _ (Ext.fresh hp) (R.fresh hp) (.tup bB (h.mono (Ext.fresh hp)))
theorem wW{w:XW}{K:Frag}{ι:Nat->Addr}{M:Mem}{H:Hp}{ds:List D}{xs:List V}{Q:VK}{p:Addr}(R:Rl K ct ι M H)(h:oZ K ct ι M.length H ds xs)(hp:H p=none)(q:k_ (gQ K ct) K ct w ι M.length H (.ok (.ref M.length) (M++[.lst ds])) Q):Q (.ref p) (upd H p (.lst xs)):=by
 have el:(M++[MO.lst ds]).length=M.length+1:=by simp
 have x:Ext K ι M.length H (lV ι M.length p) (M.length+1) (upd H p (.lst xs)):=Ext.new hp
 have e:(lV ι M.length p) M.length=p:=by unfold lV;rw[if_pos rfl]
 have dv:DV K ct (lV ι M.length p) (M++[MO.lst ds]).length (upd H p (.lst xs)) (.ref M.length) (.ref p):=by
  have:=DV.ref (K:=K) (ct:=ct) (ι:=lV ι M.length p) (n:=(M++[MO.lst ds]).length) (H:=upd H p (.lst xs)) (i:=M.length) (by rw[el];omega)
  rw[e]at this
  exact this
 exact q (lV ι M.length p) (.ref p) _ (by rw[el];exact x) (R.new hp ⟨xs,bB,h.mono x⟩) dv
theorem bO{x1}(h:SA X ct W es ms):SE X ct W (.Tuple es x1 pos) (fQ ms):=ig (aeF h) λσ H Q q=>by
 obtain⟨ι,e,M,w,p⟩:=di (iR:=Ie X.K ct) (f:=λds _ M1=>if ds.length<=sizeLine then .ok (D.tup ds) M1 else .bad) q
 refine⟨ι,e,M,w,p.mono ?_⟩
 rintro xs H1 ⟨dU,e1,M1,ds,w1,q1,p1⟩
 by_cases z:ds.length<=sizeLine
 ·simp only[z,if_true]at p1
  exact⟨by rw[q1.length];exact z,λpp hp=>Gh w1.rl q1 hp p1⟩
 ·simp only[z,if_false]at p1
  exact p1.elim
theorem gO(h:SA X ct W es ms):SE X ct W (.List es pos) (rN ms):=ig (aeK h) λσ H Q q=>by
 obtain⟨ι,e,M,w,p⟩:=di (iR:=Ie X.K ct) (f:=λds _ M1=>if ds.length<=sizeLine then .ok (D.ref M1.length) (M1++[.lst ds])else .bad) q
 refine⟨ι,e,M,w,p.mono ?_⟩
 rintro xs H1 ⟨dU,e1,M1,ds,w1,q1,p1⟩
 by_cases z:ds.length<=sizeLine
 ·simp only[z,if_true]at p1
  exact⟨by rw[q1.length];exact z,λpp hp=>wW w1.rl q1 hp p1⟩
 ·simp only[z,if_false]at p1
  exact p1.elim
noncomputable def cB(cs:List Nat)(f:Str)(d:D)(M:Mem):Out D:=match d with
 | .ref n=>match M[n]? with
  | some (.ins c fs)=>if c∈cs then(match fs.lookup f with
   | some v=> .ok v M
   | none=> .bad)else .bad
  | _=> .bad
 | _=> .bad
def aX(cs:List Nat)(m:ME)(f:Str):ME:=λe M=>(m e M).bind (cB cs f)
def Nx(K:Frag)(ct:Nat->Addr)(f:Str):List Nat->Prop
 | []=>True
 | c::cs=>(Ny K (ct c)/\dM K (ct c) f)/\Nx K ct f cs
theorem Nx.get{K:Frag}{ct:Nat->Addr}{f:Str}:∀{cs:List Nat} {c:Nat},Nx K ct f cs->c∈cs->Ny K (ct c)/\dM K (ct c) f
 | [],_,_,h=>by simp at h
 | c::cs,d,⟨a,r⟩,h=>by
  rcases List.mem_cons.mp h with e | e
  ·subst e;exact a
  ·exact r.get e
theorem sO{K:Frag}{ι:Nat->Addr}{n:Nat}{H:Hp}{i:Nat}{v:V}(h:DV K ct ι n H (.ref i) v):i<n/\v= .ref (ι i):=by cases h with | ref h=>exact⟨h,rfl⟩
theorem aL(hc:Nx X.K ct f cs)(he:SE X ct W a ma)(hb:attributeBase a f X.env (eval a X.env)=eval a X.env:=by rfl):SE X ct W (.Attribute a f pos) (aX cs ma f):=ig (aeM he hb) λσ H Q q=>by
 obtain⟨ι,e,M,w,p⟩:=di (iR:=gQ X.K ct) (f:=λd _ M1=>cB cs f d M1) q
 refine⟨ι,e,M,w,p.mono ?_⟩
 rintro x H1 ⟨dU,e1,M1,d1,w1,q1,p1⟩
 cases d1 with
 | ref n=>
  obtain⟨hn,rfl⟩:=sO q1
  simp only[cB]at p1
  cases z:M1[n]? with
  | none=>simp only[z]at p1;exact p1.elim
  | some o=>
   cases o with
   | ins c fs=>
    simp only[z]at p1
    by_cases hcs:c∈cs
    ·simp only[hcs,if_true]at p1
     cases z2:fs.lookup f with
     | none=>simp only[z2]at p1;exact p1.elim
     | some d=>
      simp only[z2]at p1
      obtain⟨dx,vs,hH,fv⟩:=w1.rl.obj n _ z
      obtain⟨v,hv,dv⟩:=fv.look z2
      exact⟨_,_,dx,vs,v,rfl,hH,(hc.get hcs).1,(hc.get hcs).2,hv,p1 dU v H1 .refl w1.rl dv⟩
    ·simp only[hcs,if_false]at p1
     exact p1.elim
   | _=>simp only[z]at p1;exact p1.elim
 | _=>exact p1.elim
abbrev Fn:=List D->Mem->Out D
def wE(E:XK):XW:=λC dx H=>E (.ref C) (some dx) H
theorem k_.wish{α β:Type}{rel:(Nat->Addr)->Mem->Hp->α->β->Prop}{K:Frag}{ct ι:Nat->Addr}{w w':XW}{n:Nat}{H:Hp}{o:Out α}{Q:β->Hp->Prop}(h:k_ rel K ct w ι n H o Q)(x:∀C dx H,w C dx H->w' C dx H):k_ rel K ct w' ι n H o Q:=by
 cases o with
 | ok a M=>exact h
 | exc c d M=>exact λnR dx v H2 x2 r q1 q2=>x _ _ _ (h nR dx v H2 x2 r q1 q2)
 | bad=>exact h
theorem k_.toE{α β:Type}{rel:(Nat->Addr)->Mem->Hp->α->β->Prop}{K:Frag}{ct ι:Nat->Addr}{W:bJ}{σ:St}{n:Nat}{H:Hp}{o:Out α}{Q:β->Hp->Prop}(h:k_ rel K ct (wAt W σ) ι n H o Q):k_ rel K ct (wE (EW W σ)) ι n H o Q:=
 h.wish λC dx _ q=>⟨C,dx,rfl,rfl,q⟩
def spS(K:Frag)(ct:Nat->Addr)(fn:Fn)(ar:Nat):Sp:=λvs H Q E=>∃ι ds M,ds.length=ar/\Rl K ct ι M H/\oZ K ct ι M.length H ds vs/\k_ (gQ K ct) K ct (wE E) ι M.length H (fn ds M) Q
inductive Cst:D->V->Value->Prop
 | bl (b:Bool):Cst (.bl b) (.bl b) (.bool b)
 | non:Cst .non .non .none
 | str (x:Str) (t:Tok):Cst (.str x) (.str x) (.str x t)
 | int (x:Int) (t:Tok):Cst (.int x) (.int x) (.int x t)
inductive Fw:List D->List V->List Value->Prop
 | nil:Fw [] [] []
 | cons {d:D} {v:V} {u:Value} {ds:List D} {vs:List V} {us:List Value}:Cst d v u->Fw ds vs us->Fw (d::ds) (v::vs) (u::us)
theorem Cst.dv{K:Frag}{ι:Nat->Addr}{n:Nat}{H:Hp}{d:D}{v:V}{u:Value}(h:Cst d v u):DV K ct ι n H d v:=by
 cases h with
 | bl b=>exact .bl b
 | non=>exact .non
 | str x t=>exact .str x
 | int x t=>exact .int x
theorem Cst.val{d:D}{v:V}{u:Value}(h:Cst d v u):RelV v u:=by
 cases h with
 | bl b=>exact rfl
 | non=>exact rfl
 | str x t=>exact⟨_,rfl⟩
 | int x t=>exact⟨_,rfl⟩
theorem Fw.dv{K:Frag}{ι:Nat->Addr}{n:Nat}{H:Hp}{ds:List D}{vs:List V}{us:List Value}(h:Fw ds vs us):oZ K ct ι n H ds vs:=by
 induction h with
 | nil=>exact .nil
 | cons c _ ih=>exact .cons c.dv ih
theorem Fw.vals(h:Fw ds vs us):Vals vs us:=by
 induction h with
 | nil=>exact .nil
 | cons c _ ih=>exact .cons c.val ih
def dR(fn:Fn)(ar:Nat)(dv:List D)(ms:MA):ME:=λe M=>(ms e M).bind λds M1=>if(ds++dv).length=ar then fn (ds++dv) M1 else .bad
variable{k:Nat}{f:Addr}{fd:FuncData}{ps:List Str}{fn:Fn}{dv:List D}{BV:List V}{Yk:List Value}{x:Str}{p:Pos}
theorem Zh(hd:Fw dv BV Yk)(h:tG (gQ X.K ct) X.K ct W (dR fn ps.length dv ms) σ H Q):Zi (spS X.K ct fn ps.length) BV W (tG (Ie X.K ct) X.K ct W ms) σ H Q:=by
 obtain⟨ι,e,M,w,p⟩:=di (iR:=Ie X.K ct) (f:=λds _ M1=>if(ds++dv).length=ps.length then fn (ds++dv) M1 else .bad) h
 refine⟨ι,e,M,w,p.mono ?_⟩
 rintro vs H1 ⟨dU,e1,M1,ds,w1,q1,p1⟩
 by_cases z:(ds++dv).length=ps.length
 ·simp only[z,if_true]at p1
  exact⟨dU,ds++dv,M1,z,w1.rl,q1.append hd.dv,p1.toE⟩
 ·simp only[z,if_false]at p1
  exact p1.elim
theorem bK(F:lg X.prog X.w X.K X.mg X.base (zq X.prog X.w) k f fd ps (spS X.K ct fn ar))(hx:Tk X W)(hr:lY k X.A)(hg:Gl X x)(hm:X.mg x=some (.ref f))(hk:keepIn X.K (.ref f)=true)(hb:Binds X.K fd ps Yk)(hd:Fw dv BV Yk)
  (ha:SA X ct W (a::es) ms) (hdb:(x==("__debug__" : Str))=false:=by decide) (he:starEach (a::es) X.env=(false,eval a X.env)::starEach es X.env:=by rfl) (hpl:(backTo pos (starEach es X.env)).any (·.1)=false:=by rfl) (har:ps.length=ar:=by rfl):SE X ct W (.Call (.Name x p) (a::es) [] pos) (dR fn ar dv ms):=by
 subst har
 exact ig (aaf F hr hg hm hk hb hd.vals hx ha hdb he hpl) λσ H Q q=>Zh hd q
noncomputable def dh(k:Nat)(m:Str)(d:D)(M:Mem):Bool:=match d with
 | .ref n=>match M[n]? with
  | some (.ins c fs)=>c==k&&(fs.lookup m).isNone
  | _=>false
 | _=>false
noncomputable def aV(k:Nat)(m:Str)(fn:Fn)(ar:Nat)(dv:List D)(mo:ME)(ms:MA):ME:=λe M=>(mo e M).bind λd M1=>if dh k m d M1=true then(ms e M1).bind λds M2=>if(d::(ds++dv)).length=ar then fn (d::(ds++dv)) M2 else .bad else .bad
theorem aaG{K:Frag}{ι:Nat->Addr}{M:Mem}{H:Hp}{k:Nat}{m:Str}{d:D}{v:V}(R:Rl K ct ι M H)(h:dh k m d M=true)(q:DV K ct ι M.length H d v):∃a dx fs,v= .ref a/\H a=some (.ins (ct k) dx fs)/\fs.lookup m=none:=by
 cases d with
 | ref n=>
  obtain⟨hn,rfl⟩:=sO q
  unfold dh at h
  cases z:M[n]? with
  | none=>simp only[z]at h;cases h
  | some o=>
   cases o with
   | ins c fs=>
    simp only[z,Bool.and_eq_true,beq_iff_eq,Option.isNone_iff_eq_none]at h
    obtain⟨rfl,hl⟩:=h
    obtain⟨dx,vs,hH,fv⟩:=R.obj n _ z
    exact⟨_,dx,vs,rfl,hH,fv.adw hl⟩
   | _=>simp only[z]at h;cases h
 | _=>exact absurd h xA
theorem R1(hd:Fw dv BV Yk)(h:tG (gQ X.K ct) X.K ct W (aV kc m fn ps.length dv mo ms) σ H Q):
  Ut (ct kc) m (spS X.K ct fn ps.length) BV W (tG (gQ X.K ct) X.K ct W mo) (tG (Ie X.K ct) X.K ct W ms) σ H Q:=by
 obtain⟨ι,e,M,w,p⟩:=di (iR:=gQ X.K ct) (f:=λd e M1=>if dh kc m d M1=true then(ms e M1).bind λds M2=>if(d::(ds++dv)).length=ps.length then fn (d::(ds++dv)) M2 else .bad else .bad) h
 refine⟨ι,e,M,w,p.mono ?_⟩
 rintro v H1 ⟨dU,e1,M1,d,w1,q1,p1⟩
 cases z:dh kc m d M1 with
 | false=>simp only[z,Bool.false_eq_true,if_false]at p1;exact p1.elim
 | true=>
  simp only[z,if_true]at p1
  obtain⟨a,dx,fs,rfl,hH,hl⟩:=aaG w1.rl z q1
  refine⟨a,dx,fs,rfl,hH,hl,dU,e1,M1,w1,?_⟩
  cases z2:ms e1 M1 with
  | bad=>simp only[z2,Out.je]at p1;exact p1
  | exc xc xd xM=>simp only[z2,Out.sV]at p1;exact p1
  | ok ds M2=>
   simp only[z2,Out.fc]at p1
   intro nR vs H2 x2 r2 q2
   by_cases z3:(d::(ds++dv)).length=ps.length
   ·rw[if_pos z3]at p1
    exact⟨nR,_,M2,z3,r2,.cons (q1.mono x2) (q2.append hd.dv),(p1.ext x2).toE⟩
   ·rw[if_neg z3]at p1
    exact p1.elim
variable{o:Expr}{mo:ME}{kc:Nat}{m:Str}{apos:Pos}
theorem cG(he:SE X ct W o mo)(c:Ny X.K (ct kc))(hm:Meth X.K (ct kc) m f)(F:lg X.prog X.w X.K X.mg X.base (zq X.prog X.w) k f fd ps (spS X.K ct fn ar))(hx:Tk X W)(hr:lY k X.A)(hb:Binds X.K fd ps Yk)(hd:Fw dv BV Yk)(ha:SA X ct W (a::es) ms)
  (hst:starEach (a::es) X.env=(false,eval a X.env)::starEach es X.env:=by rfl) (hpl:(backTo pos (starEach es X.env)).any (·.1)=false:=by rfl)
  (ht:eval (.Call (.Attribute o m apos) (a::es) [] pos) X.env=(do
   let ov <-eval o X.env
   standAt apos.atName
   let(f,first) <-holding [ov] (getMethod ov m pl)
   callWith pos f first (backTo pos (starEach (a::es) X.env)) (backToKw pos (keywordEach [] X.env))):=by rfl) (har:ps.length=ar:=by rfl):SE X ct W (.Call (.Attribute o m apos) (a::es) [] pos) (aV kc m fn ar dv mo ms):=by
 subst har
 exact ig (aab he c hm F hr hb hd.vals hx ha hst hpl ht) λσ H Q q=>R1 hd q
theorem bh(he:SE X ct W o mo)(c:Ny X.K (ct kc))(hm:Meth X.K (ct kc) m f)(F:lg X.prog X.w X.K X.mg X.base (zq X.prog X.w) k f fd ps (spS X.K ct fn ar))(hx:Tk X W)(hr:lY k X.A)(hb:Binds X.K fd ps Yk)(hd:Fw dv BV Yk)
  (ht:eval (.Call (.Attribute o m apos) [] [] pos) X.env=(do
   let ov <-eval o X.env
   standAt apos.atName
   let(f,first) <-holding [ov] (getMethod ov m pl)
   callWith pos f first (backTo pos (starEach [] X.env)) (backToKw pos (keywordEach [] X.env))):=by rfl) (har:ps.length=ar:=by rfl):SE X ct W (.Call (.Attribute o m apos) [] [] pos) (aV kc m fn ar dv mo aH):=by
 subst har
 exact ig (Xy he c hm F hr hb hd.vals hx ht) λσ H Q q=>by
  obtain⟨ι,e,M,w,p⟩:=R1 hd q
  refine⟨ι,e,M,w,p.mono λv H1 ⟨a,dx,fs,e1,e2,e3,dU,e4,M1,w1,p1⟩=>⟨a,dx,fs,e1,e2,e3,p1 dU [] H1 .refl w1.rl .nil⟩⟩
def O8(d:D):Bool:=match d with
 | .non=>true
 | _=>false
noncomputable def Br(kc:Nat)(fn:Fn)(ar:Nat)(dv:List D)(ms:MA):ME:=λe M=>(ms e M).bind λds M1=>if(D.ref M1.length::(ds++dv)).length=ar then(fn (.ref M1.length::(ds++dv)) (M1++[.ins kc []])).bind λr M2=>if O8 r=true then .ok (.ref M1.length) M2 else .bad else .bad
theorem R4(hd:Fw dv BV Yk)(h:tG (gQ X.K ct) X.K ct W (Br kc fn ps.length dv ms) σ H Q):Uu (ct kc) (spS X.K ct fn ps.length) BV W (tG (Ie X.K ct) X.K ct W ms) σ H Q:=by
 obtain⟨ι,e,M,w,p⟩:=di (iR:=Ie X.K ct) (f:=λds _ M1=>if(D.ref M1.length::(ds++dv)).length=ps.length then(fn (D.ref M1.length::(ds++dv)) (M1++[.ins kc []])).bind λr M2=>if O8 r=true then .ok (D.ref M1.length) M2 else .bad else .bad) h
 refine⟨ι,e,M,w,p.mono ?_⟩
 rintro vs H1 ⟨dU,e1,M1,ds,w1,q1,p1⟩
 intro a dx ha hdx ne
 dsimp only at p1
 by_cases z:(D.ref M1.length::(ds++dv)).length=ps.length
 ·rw[if_pos z]at p1
  have ha':upd H1 dx (.own a) a=none:=by rw[aO (Ne.symm ne)];exact ha
  have el:(M1++[MO.ins kc []]).length=M1.length+1:=by simp
  have x1:Ext X.K dU M1.length H1 dU M1.length (upd H1 dx (.own a)):=Ext.fresh hdx
  have r1:Rl X.K ct dU M1 (upd H1 dx (.own a)):=w1.rl.fresh hdx
  have x2:Ext X.K dU M1.length (upd H1 dx (.own a)) (lV dU M1.length a) (M1.length+1) (upd (upd H1 dx (.own a)) a (.ins (ct kc) dx [])):=Ext.new ha'
  have r2:Rl X.K ct (lV dU M1.length a) (M1++[MO.ins kc []]) (upd (upd H1 dx (.own a)) a (.ins (ct kc) dx [])):=r1.new ha' ⟨dx,[],bB,.nil⟩
  have e0:(lV dU M1.length a) M1.length=a:=by unfold lV;rw[if_pos rfl]
  have dv0:DV X.K ct (lV dU M1.length a) (M1++[MO.ins kc []]).length (upd (upd H1 dx (.own a)) a (.ins (ct kc) dx [])) (.ref M1.length) (.ref a):=by
   have:=DV.ref (K:=X.K) (ct:=ct) (ι:=lV dU M1.length a) (n:=(M1++[MO.ins kc []]).length) (H:=upd (upd H1 dx (.own a)) a (.ins (ct kc) dx [])) (i:=M1.length) (by rw[el];omega)
   rw[e0]at this
   exact this
  refine⟨lV dU M1.length a,_,M1++[.ins kc []],z,r2,.cons dv0 ?_,?_⟩
  ·rw[el];exact(q1.append hd.dv).mono (x1.trans x2)
  ·cases z2:fn (.ref M1.length::(ds++dv)) (M1++[.ins kc []])with
   | bad=>rw[z2]at p1;exact p1
   | exc xc xd xM=>
    rw[z2]at p1
    simp only[Out.sV]at p1
    have p2:=(p1.ext (x1.trans x2)).toE
    rw[el]
    exact λRK dx3 v3 H3 x3 r3 q3 q4=>p2 RK dx3 v3 H3 x3 r3 q3 q4
   | ok r M2=>
    rw[z2]at p1
    simp only[Out.fc]at p1
    intro RK v3 H3 x3 r3 q3
    cases q3 with
    | non=>
     refine⟨rfl,?_⟩
     simp only[O8,if_true]at p1
     refine p1 RK (.ref a) H3 ((x1.trans x2).trans (by rw[el]at x3;exact x3)) r3 (dv0.mono x3)
    | _=>exact False.elim p1
 ·rw[if_neg z]at p1
  exact p1.elim
theorem Df(Mk0:Mk X.K (ct kc) f)(F:lg X.prog X.w X.K X.mg X.base (zq X.prog X.w) k f fd ps (spS X.K ct fn ar))(hx:Tk X W)(hr:lY (k+1) X.A)(hg:Gl X x)(hm:X.mg x=some (.ref (ct kc)))(hb:Binds X.K fd ps Yk)(hd:Fw dv BV Yk)
  (ha:SA X ct W (a::es) ms) (hdb:(x==("__debug__" : Str))=false:=by decide) (he:starEach (a::es) X.env=(false,eval a X.env)::starEach es X.env:=by rfl) (hpl:(backTo pos (starEach es X.env)).any (·.1)=false:=by rfl) (har:ps.length=ar:=by rfl):SE X ct W (.Call (.Name x p) (a::es) [] pos) (Br kc fn ar dv ms):=by
 subst har
 exact ig (aac Mk0 F hr hg hm hb hd.vals hx ha hdb he hpl) λσ H Q q=>R4 hd q
theorem Zt(Mk0:Mk X.K (ct kc) f)(F:lg X.prog X.w X.K X.mg X.base (zq X.prog X.w) k f fd ps (spS X.K ct fn ar))(hx:Tk X W)(hr:lY (k+1) X.A)(hg:Gl X x)(hm:X.mg x=some (.ref (ct kc)))(hb:Binds X.K fd ps Yk)(hd:Fw dv BV Yk)
  (hdb:(x==("__debug__" : Str))=false:=by decide) (har:ps.length=ar:=by rfl):SE X ct W (.Call (.Name x p) [] [] pos) (Br kc fn ar dv aH):=by
 subst har
 exact ig (Xz Mk0 F hr hg hm hb hd.vals hx hdb) λσ H Q q=>by
  obtain⟨ι,e,M,w,p⟩:=R4 hd q
  exact p ι [] H .refl w.rl .nil
abbrev RP:=List D->Mem->Out D
def BR(op:RP)(ms:MA):ME:=λe M=>(ms e M).bind op
def vQ(X:Cx)(ct:Nat->Addr)(f:Value)(op:RP):Prop:=∃r,qG X f r/\∀{w:XW} ι M H ds vs Q,Rl X.K ct ι M H->oZ X.K ct ι M.length H ds vs->k_ (gQ X.K ct) X.K ct w ι M.length H (op ds M) Q->r vs H Q
variable{id T:String}{op:RP}
theorem Zj{r:List V->Hp->VK->Prop}(hs:∀{w:XW} ι M H ds vs Q,Rl X.K ct ι M H->oZ X.K ct ι M.length H ds vs->k_ (gQ X.K ct) X.K ct w ι M.length H (op ds M) Q->r vs H Q)
  (h:tG (gQ X.K ct) X.K ct W (BR op ms) σ H Q):tCB r (tG (Ie X.K ct) X.K ct W ms) σ H Q:=by
 obtain⟨ι,e,M,w,p⟩:=di (iR:=Ie X.K ct) (f:=λds _ M1=>op ds M1) h
 exact⟨ι,e,M,w,p.mono λvs H1 ⟨dU,e1,M1,ds,w1,q1,p1⟩=>hs dU M1 H1 ds vs Q w1.rl q1 p1⟩
theorem cW(h:vQ X ct (.builtin id) op)(hg:Gl X x)(hm:X.mg x=none)(hv:bootBuiltins x=some (.builtin id))(ha:SA X ct W (a::es) ms)(hn:x≠ "__name__" := by decide)(hdb:(x==("__debug__" : Str))=false:=by decide)
  (he:starEach (a::es) X.env=(false,eval a X.env)::starEach es X.env:=by rfl) (hpl:(backTo pos (starEach es X.env)).any (·.1)=false:=by rfl):SE X ct W (.Call (.Name x p) (a::es) [] pos) (BR op ms):=by
 obtain⟨r,hr,hs⟩:=h
 exact ig (SJ hr hg hm hv ha hn hdb he hpl) λσ H Q q=>Zj hs q
theorem zy(h:vQ X ct (.type T) op)(hg:Gl X x)(hm:X.mg x=none)(hv:bootBuiltins x=some (.type T))(ha:SA X ct W (a::es) ms)(hn:x≠ "__name__" := by decide)(hdb:(x==("__debug__" : Str))=false:=by decide)
  (he:starEach (a::es) X.env=(false,eval a X.env)::starEach es X.env:=by rfl) (hpl:(backTo pos (starEach es X.env)).any (·.1)=false:=by rfl):SE X ct W (.Call (.Name x p) (a::es) [] pos) (BR op ms):=by
 obtain⟨r,hr,hs⟩:=h
 exact ig (Ih hr hg hm hv ha hn hdb he hpl) λσ H Q q=>Zj hs q
end
section
variable{X:Cx}{ct:Nat->Addr}{W:bJ}
theorem q_{K:Frag}{ι:Nat->Addr}{n:Nat}{H:Hp}{i:Int}{v:V}(h:DV K ct ι n H (.int i) v):v= .int i:=by cases h;rfl
theorem Ax{K:Frag}{ι:Nat->Addr}{n:Nat}{H:Hp}{i:Str}{v:V}(h:DV K ct ι n H (.str i) v):v= .str i:=by cases h;rfl
theorem Vw{K:Frag}{ι:Nat->Addr}{n:Nat}{H:Hp}{ds:List D}{v:V}(h:DV K ct ι n H (.tup ds) v):∃a xs,v= .ref a/\zT K H a xs/\oZ K ct ι n H ds xs:=by cases h with | tup a b=>exact⟨_,_,rfl,zT.of a,b⟩
theorem wF{K:Frag}{ι:Nat->Addr}{n:Nat}{H:Hp}{ds:List D}{v:V}(h:DV K ct ι n H (.tup ds) v):∃a xs,v= .ref a/\H a=some (.tup xs)/\oZ K ct ι n H ds xs:=by cases h with | tup a b=>exact⟨_,_,rfl,a,b⟩
noncomputable def uO(M:Mem)(n:Nat):Option (List D):=match M[n]? with
 | some (.lst ds)=>some ds
 | _=>none
theorem b8(h:M[n]? = some (.lst ds)):uO M n=some ds:=by unfold uO;rw[h]
theorem wN:uO M n=some ds↔M[n]? = some (.lst ds):=by
 refine⟨λh=> ?_,b8⟩
 unfold uO at h
 split at h
 ·rename_i e;cases h;exact e
 ·cases h
noncomputable def Gb(M:Mem)(d:D):Option (List D):=match d with
 | .ref n=>uO M n
 | .cl ds=>some ds
 | _=>none
theorem Rl.seq{K:Frag}{ι:Nat->Addr}{M:Mem}{H:Hp}(R:Rl K ct ι M H){d:D}{v:V}{ds:List D}(h:Gb M d=some ds)(q:DV K ct ι M.length H d v):∃a xs,v= .ref a/\De K H a xs/\oZ K ct ι M.length H ds xs:=by
 cases q with
 | @ref i hi=>obtain⟨vs,q,r⟩:=R.obj i _ (wN.mp h);exact⟨_,vs,rfl,De.of q,r⟩
 | cl h1 h2=>cases h;exact⟨_,_,rfl,h1.sq,h2⟩
 | _=>cases h
noncomputable def QZ(C:Int->Int->Bool)(g:Int->Int->D):zp:=λd e M=>match d,e with
 | .int i,.int j=>if C i j=true then .ok (g i j) M else .bad
 | _,_=> .bad
theorem Wq{P:Int->Int->Prop}(hP:∀i j,C i j=true->P i j)(hg:∀(K:Frag) ι n H i j,DV K ct ι n H (g i j) (gv i j)):RN X.K ct (QZ C g) (rI P gv):=by
 intro w ι M H d d' v v' Q R h h' p
 cases d with
 | int i=>
  cases d' with
  | int j=>
   cases q_ h
   cases q_ h'
   simp only[QZ]at p
   cases z:C i j with
   | false=>simp only[z,Bool.false_eq_true,if_false]at p;exact p.elim
   | true=>
    simp only[z,if_true]at p
    exact⟨i,j,rfl,rfl,hP i j z,p ι _ H .refl R (hg _ _ _ _ _ _)⟩
  | _=>exact p.elim
 | _=>cases d'<;>exact p.elim
def C1:Int->Int->Bool:=λ_ _=>true
theorem aet(h:rI (λ_ _=>True) g x y H Q):YF g x y H Q:=let⟨i,j,a,b,_,q⟩:=h;⟨i,j,a,b,q⟩
theorem RN.imp{K:Frag}{op:zp}{r r':R2}(h:RN K ct op r)(i:∀x y H Q,r x y H Q->r' x y H Q):RN K ct op r':=λι M H d d' v v' Q R a b p=>i _ _ _ _ (h ι M H d d' v v' Q R a b p)
theorem u6(h:Bl X f (YF gv))(hg:∀(K:Frag) ι n H i j,DV K ct ι n H (g i j) (gv i j)):nG X ct f (QZ C1 g):=
 ⟨_,h,RN.imp (Wq (P:=λ_ _=>True) (λ_ _ _=>trivial) hg) λ_ _ _ _ q=>aet q⟩
theorem DQ{P:Int->Int->Prop}(h:Bl X f (rI P gv))(hP:∀i j,C i j=true->P i j)(hg:∀(K:Frag) ι n H i j,DV K ct ι n H (g i j) (gv i j)):nG X ct f (QZ C g):=
 ⟨_,h,Wq hP hg⟩
def Ci(a b:zp):zp:=λd e M=>match a d e M with
 | .bad=>b d e M
 | o=>o
theorem RN.or{K:Frag}{a b:zp}{r r':R2}(ha:RN K ct a r)(hb:RN K ct b r'):RN K ct (Ci a b) (λx y H Q=>r x y H Q\/r' x y H Q):=by
 intro w ι M H d d' v v' Q R q q' p
 unfold Ci at p
 cases z:a d d' M with
 | ok x M1=>rw[z]at p;exact .inl (ha ι M H d d' v v' Q R q q' (by rw[z];exact p))
 | exc xc xd xM=>rw[z]at p;exact .inl (ha ι M H d d' v v' Q R q q' (by rw[z];exact p))
 | bad=>rw[z]at p;exact .inr (hb ι M H d d' v v' Q R q q' p)
theorem vU(h:a d e M= .ok x M'):Ci a b d e M= .ok x M':=by unfold Ci;rw[h]
theorem Ln(h:a d e M= .bad):Ci a b d e M=b d e M:=by unfold Ci;rw[h]
theorem nG.or(ha:nG X ct f a)(hb:nG X ct f b):nG X ct f (Ci a b):=by
 obtain⟨r,h,hs⟩:=ha
 obtain⟨r',h',hs'⟩:=hb
 refine⟨_,h.or h',λι M H d d' v v' Q R q q' p=> ?_⟩
 unfold Ci at p
 cases z:a d d' M with
 | ok x M1=>rw[z]at p;exact .inl (hs ι M H d d' v v' Q R q q' (by rw[z];exact p))
 | exc xc xd xM=>rw[z]at p;exact .inl (hs ι M H d d' v v' Q R q q' (by rw[z];exact p))
 | bad=>rw[z]at p;exact .inr (hs' ι M H d d' v v' Q R q q' p)
noncomputable def agH(i j:Int):Bool:=decide ((-(2 ^ 64)<i/\i<2 ^ 64)\/(-(2 ^ 64)<j/\j<2 ^ 64))
def agI(_ j:Int):Bool:=decide (0<j/\j<1073741824)
def anD(_ j:Int):Bool:=decide (0<j)
def Yx(i j:Int):Bool:=decide (0<=j/\j<=1000000/\i.natAbs<2 ^ 64)
def anC(_ j:Int):Bool:=decide (0<=j)
def adi:zp:=QZ C1 λi j=> .int (i+j)
def JP:zp:=QZ C1 λi j=> .int (i - j)
def ZF:zp:=QZ agH λi j=> .int (i*j)
def Eu:zp:=QZ agI λi j=> .int (i / j)
def qj:zp:=QZ anD λi j=> .int (i % j)
def ZC:zp:=QZ Yx λi j=> .int (i ^ j.toNat)
def zY:zp:=QZ Yx λi j=> .int (i*2 ^ j.toNat)
def UJ:zp:=QZ anC λi j=> .int (i / 2 ^ j.toNat)
def Ql:zp:=QZ C1 λi j=> .int (Builtin.bitAnd i j)
def sOr:zp:=QZ C1 λi j=> .int (Builtin.bitOr i j)
def ahy:zp:=QZ C1 λi j=> .bl (decide (i<j))
def abv:zp:=QZ C1 λi j=> .bl (decide (i<=j))
def K9:zp:=QZ C1 λi j=> .bl (decide (j<i))
def aek:zp:=QZ C1 λi j=> .bl (decide (j<=i))
theorem acX:nG X ct (binaryOp .Add) adi:=u6 ae7 λ_ _ _ _ _ _=> .int _
theorem Bj:nG X ct (binaryOp .Sub) JP:=u6 aeU λ_ _ _ _ _ _=> .int _
theorem acU:nG X ct (binaryOp .Mult) ZF:=DQ aeZ (λi j h=>by unfold agH at h;exact(decide_eq_true_eq.mp h :)) λ_ _ _ _ _ _=> .int _
theorem Fq:nG X ct (binaryOp .FloorDiv) Eu:=DQ ab1 (λi j h=>by unfold agI at h;exact(decide_eq_true_eq.mp h :)) λ_ _ _ _ _ _=> .int _
theorem oY:nG X ct (binaryOp .Mod) qj:=DQ ae0 (λ_ _ h=>of_decide_eq_true h) λ_ _ _ _ _ _=> .int _
theorem agB:nG X ct (binaryOp .Pow) ZC:=DQ aeX (λi j h=>by unfold Yx at h;exact(decide_eq_true_eq.mp h :)) λ_ _ _ _ _ _=> .int _
theorem xH:nG X ct (binaryOp .LShift) zY:=DQ aeW (λi j h=>by unfold Yx at h;exact(decide_eq_true_eq.mp h :)) λ_ _ _ _ _ _=> .int _
theorem agA:nG X ct (binaryOp .RShift) UJ:=DQ aeV (λ_ _ h=>of_decide_eq_true h) λ_ _ _ _ _ _=> .int _
theorem Rp:nG X ct (binaryOp .BitAnd) Ql:=u6 ae6 λ_ _ _ _ _ _=> .int _
theorem JH:nG X ct (binaryOp .BitOr) sOr:=u6 aiT λ_ _ _ _ _ _=> .int _
theorem anz:nG X ct (compareOp .Lt) ahy:=u6 aiU λ_ _ _ _ _ _=> .bl _
theorem adF:nG X ct (compareOp .LtE) abv:=u6 aiV λ_ _ _ _ _ _=> .bl _
theorem Ht:nG X ct (compareOp .Gt) K9:=u6 aiW λ_ _ _ _ _ _=> .bl _
theorem adH:nG X ct (compareOp .GtE) aek:=u6 aiX λ_ _ _ _ _ _=> .bl _
noncomputable def abA:zp:=λd e M=>match d,e with
 | .ref n,.ref m=>match M[n]?,M[m]? with
  | some (.lst xs),some (.lst ys)=>if xs.length+ys.length<=sizeLine then .ok (.ref M.length) (M++[.lst (xs++ys)])else .bad
  | _,_=> .bad
 | _,_=> .bad
theorem agF:nG X ct (binaryOp .Add) abA:=by
 refine⟨_,ae5,λι M H d d' v v' Q R h h' p=> ?_⟩
 cases d with
 | ref n=>
  cases d' with
  | ref m=>
   obtain⟨_,rfl⟩:=sO h
   obtain⟨_,rfl⟩:=sO h'
   simp only[abA]at p
   split at p
   ·rename_i xs ys e1 e2
    split at p
    ·rename_i hz
     obtain⟨vs,q,r⟩:=R.obj n _ e1
     obtain⟨vs',q',r'⟩:=R.obj m _ e2
     exact⟨_,_,vs,vs',rfl,rfl,q,q',by rw[r.length,r'.length];exact hz,λpp hp=>wW R (r.append r') hp p⟩
    ·exact p.elim
   ·exact p.elim
  | _=>exact p.elim
 | _=>cases d'<;>exact p.elim
noncomputable def ZP:zp:=λd e M=>match d,e with
 | .str a,.str b=>if a.length+b.length<=sizeLine then .ok (.str (a++b)) M else .bad
 | _,_=> .bad
theorem acW:nG X ct (binaryOp .Add) ZP:=by
 refine⟨_,Va,λι M H d d' v v' Q R h h' p=> ?_⟩
 unfold ZP at p
 split at p
 ·cases Ax h
  cases Ax h'
  split at p
  ·rename_i hz
   exact⟨_,_,rfl,rfl,hz,p ι _ H .refl R (.str _)⟩
  ·exact p.elim
 ·exact p.elim
noncomputable def ZD:zp:=λd e M=>match d,e with
 | .str a,.int n=>if a.length<=1000/\ -(2 ^ 62)<n/\n<=1000 then .ok (.str (PySem.Txt.mul a n)) M else .bad
 | _,_=> .bad
theorem acT:nG X ct (binaryOp .Mult) ZD:=by
 refine⟨_,U_,λι M H d d' v v' Q R h h' p=> ?_⟩
 unfold ZD at p
 split at p
 ·cases Ax h
  cases q_ h'
  split at p
  ·rename_i hz
   exact⟨_,_,rfl,rfl,mulOk_of hz.1 hz.2.1 hz.2.2,p ι _ H .refl R (.str _)⟩
  ·exact p.elim
 ·exact p.elim
def UL:zp:=Ci ZF ZD
theorem VH:nG X ct (binaryOp .Mult) UL:=acU.or acT
noncomputable def We:zp:=λd e M=>match d,e with
 | .tup xs,.tup ys=>if xs.isEmpty=false/\xs.length+ys.length<=sizeLine then .ok (.tup (xs++ys)) M else .bad
 | _,_=> .bad
theorem acV:nG X ct (binaryOp .Add) We:=by
 refine⟨_,ab2,λι M H d d' v v' Q R h h' p=> ?_⟩
 unfold We at p
 split at p
 ·rename_i xs ys
  obtain⟨a,vs,rfl,ha,hd⟩:=wF h
  obtain⟨b,us,rfl,hb,hd'⟩:=wF h'
  split at p
  ·rename_i hz
   have l1:=hd.length
   have l2:=hd'.length
   refine⟨a,b,vs,us,rfl,rfl,zT.of ha,zT.of hb,λz=> ?_,(),λz=> ?_,λ_ pp hp=>Gh R (hd.append hd') hp p⟩
   ·rw[z]at l1
    have:=hz.1
    cases xs with
    | nil=>cases this
    | cons _ _=>simp at l1
   ·subst z
    have e:ys=[]:=List.length_eq_zero_iff.mp l2.symm
    subst e
    rw[List.append_nil]at p
    exact p ι _ H .refl R (.tup ha hd)
  ·exact p.elim
 ·exact p.elim
def qm:zp:=Ci (Ci adi abA) (Ci ZP We)
theorem iV:nG X ct (binaryOp .Add) qm:=(acX.or agF).or (acW.or acV)
def aed:zp:=λd e M=>match d,e with
 | .str a,.str b=> .ok (.bl (decide (a.cps.toList<b.cps.toList))) M
 | _,_=> .bad
theorem agD:nG X ct (compareOp .Lt) aed:=by
 refine⟨_,XH,λι M H d d' v v' Q R h h' p=> ?_⟩
 unfold aed at p
 split at p
 ·cases Ax h
  cases Ax h'
  exact⟨_,_,rfl,rfl,p ι _ H .refl R (.bl _)⟩
 ·exact p.elim
noncomputable def HR:List D->Option (List Int)
 | []=>some []
 | .int i::r=>(HR r).map (i:: ·)
 | _=>none
theorem HQ{K:Frag}{ι:Nat->Addr}{n:Nat}{H:Hp}:∀{ds:List D} {is:List Int} {vs:List V},HR ds=some is->oZ K ct ι n H ds vs->vs=is.map V.int
 | [],_,_,h,.nil=>by cases h;rfl
 | d::r,is,_,h,.cons q qs=>by
  cases q with
  | int i=>
   simp only[HR]at h
   obtain⟨js,h1,rfl⟩:=Option.map_eq_some_iff.mp h
   rw[HQ h1 qs]
   rfl
  | _=>simp only[HR]at h;cases h
noncomputable def aec:zp:=λd e M=>match d,e with
 | .tup xs,.tup ys=>match HR xs,HR ys with
  | some is,some js=> .ok (.bl (HT.lexLt is js)) M
  | _,_=> .bad
 | _,_=> .bad
theorem agC(hu:X.A.units+64<cLine):nG X ct (compareOp .Lt) aec:=by
 refine⟨_,ae1 (),λι M H d d' v v' Q R h h' p=> ?_⟩
 unfold aec at p
 split at p
 ·obtain⟨a,vs,rfl,ha,hd⟩:=wF h
  obtain⟨b,us,rfl,hb,hd'⟩:=wF h'
  split at p
  ·rename_i is js e1 e2
   have x1:=HQ e1 hd
   have x2:=HQ e2 hd'
   subst x1 x2
   exact⟨a,b,is,js,rfl,rfl,zT.of ha,zT.of hb,p ι _ H .refl R (.bl _)⟩
  ·exact p.elim
 ·exact p.elim
def sLt:zp:=Ci (Ci ahy aed) aec
theorem VJ(hu:X.A.units+64<cLine):nG X ct (compareOp .Lt) sLt:=(anz.or agD).or (agC hu)
def aeb:D->Mem->Out D:=λd M=>match d with
 | .int i=> .ok (.int (-i)) M
 | _=> .bad
theorem adQ:UnS X ct (unaryOp .USub) aeb:=⟨_,adR,λι M H d v Q R h p=>by
 cases d with
 | int i=>cases q_ h;exact⟨i,rfl,p ι _ H .refl R (.int _)⟩
 | _=>exact p.elim⟩
noncomputable def Fd(f:D->Option Dt):List D->Option (List Dt)
 | []=>some []
 | d::ds=>match f d,Fd f ds with
  | some t,some ts=>some (t::ts)
  | _,_=>none
noncomputable def qe(M:Mem):Nat->D->Option Dt
 | 0,_=>none
 | k+1,d=>match d with
  | .non=>some .non
  | .bl b=>some (.bl b)
  | .int i=>some (.int i)
  | .str x=>some (.str x)
  | .tup ds=>(Fd (qe M k) ds).map .tup
  | .ref n=>match uO M n with
   | some ds=>(Fd (qe M k) ds).map .lst
   | none=>none
  | .cl ds=>(Fd (qe M k) ds).map .lst
  | .ty _=>none
  | .cls _=>none
  | .exc _ _=>none
  | .fn _=>none
  | .Vz _=>none
theorem Ke{K:Frag}{ι:Nat->Addr}{n:Nat}{H:Hp}{k:Nat}{f:D->Option Dt}(hf:∀d t v,f d=some t->DV K ct ι n H d v->Is K H v t/\dep t<=k):
  ∀{ds:List D} {ts:List Dt} {vs:List V},Fd f ds=some ts->oZ K ct ι n H ds vs->Ug K H vs ts/\deps ts<=k
 | [],ts,_,h,.nil=>by cases h;exact⟨.nil,by unfold deps;exact Nat.zero_le _⟩
 | d::ds,ts,_,h,.cons q qs=>by
  simp only[Fd]at h
  cases z:f d with
  | none=>rw[z]at h;cases h
  | some t=>
   cases z2:Fd f ds with
   | none=>rw[z,z2]at h;cases h
   | some ts'=>
    rw[z,z2]at h
    cases h
    obtain⟨a,b⟩:=hf d t _ z q
    obtain⟨a',b'⟩:=Ke hf z2 qs
    exact⟨.cons a a',by unfold deps;exact Nat.max_le.mpr ⟨b,b'⟩⟩
theorem FP{K:Frag}{ι:Nat->Addr}{M:Mem}{H:Hp}(R:Rl K ct ι M H):∀(k:Nat) (d:D) (t:Dt) (v:V),qe M k d=some t->DV K ct ι M.length H d v->Is K H v t/\dep t<=k
 | 0,d,t,v,h,_=>by simp only[qe]at h;cases h
 | k+1,d,t,v,h,q=>by
  cases q with
  | non=>simp only[qe]at h;cases h;exact⟨.non,by unfold dep;exact Nat.zero_le _⟩
  | bl b=>simp only[qe]at h;cases h;exact⟨.bl b,by unfold dep;exact Nat.zero_le _⟩
  | int b=>simp only[qe]at h;cases h;exact⟨.int b,by unfold dep;exact Nat.zero_le _⟩
  | str b=>simp only[qe]at h;cases h;exact⟨.str b,by unfold dep;exact Nat.zero_le _⟩
  | ty b=>simp only[qe]at h;cases h
  | cls b=>simp only[qe]at h;cases h
  | exc _ _ _=>simp only[qe]at h;cases h
  | fn _ _ _ _ _ _=>simp only[qe]at h;cases h
  | Vz _ _=>simp only[qe]at h;cases h
  | @tup a xs ds hs hd=>
   simp only[qe]at h
   cases z:Fd (qe M k) ds with
   | none=>rw[z]at h;cases h
   | some ts=>
    rw[z]at h
    cases h
    obtain⟨a,b⟩:=Ke (λd t v=>FP R k d t v) z hd
    exact⟨.tup (zT.of hs) a,by unfold dep;omega⟩
  | @ref i hi=>
   simp only[qe]at h
   cases z0:uO M i with
   | none=>rw[z0]at h;cases h
   | some ds=>
    rw[z0]at h
    obtain⟨xs,hs,hd⟩:=R.obj i _ (wN.mp z0)
    cases z:Fd (qe M k) ds with
    | none=>simp only[z]at h;cases h
    | some ts=>
     simp only[z]at h
     cases h
     obtain⟨a,b⟩:=Ke (λd t v=>FP R k d t v) z hd
     exact⟨.lst (De.of hs) a,by unfold dep;omega⟩
  | @cl a xs ds hs hd=>
   simp only[qe]at h
   cases z:Fd (qe M k) ds with
   | none=>rw[z]at h;cases h
   | some ts=>
    rw[z]at h
    cases h
    obtain⟨a,b⟩:=Ke (λd t v=>FP R k d t v) z hd
    exact⟨.lst hs.sq a,by unfold dep;omega⟩
def Yj(M:Mem)(d e:D):Option Bool:=match qe M 12 d,qe M 12 e with
 | some a,some b=>some (pM a b)
 | _,_=>none
def sEq:zp:=λd e M=>match Yj M d e with
 | some b=> .ok (.bl b) M
 | none=> .bad
def sNe:zp:=λd e M=>match Yj M d e with
 | some b=> .ok (.bl (!b)) M
 | none=> .bad
theorem aaP{K:Frag}{ι:Nat->Addr}{M:Mem}{H:Hp}{d e:D}{v u:V}{b:Bool}(R:Rl K ct ι M H)(h:Yj M d e=some b)(q:DV K ct ι M.length H d v)(q':DV K ct ι M.length H e u):∃x y,Is K H v x/\Is K H u y/\dep x<=20/\b=pM x y:=by
 unfold Yj at h
 cases z:qe M 12 d with
 | none=>rw[z]at h;cases h
 | some x=>
  cases z2:qe M 12 e with
  | none=>rw[z,z2]at h;cases h
  | some y=>
   rw[z,z2]at h
   cases h
   obtain⟨a,c⟩:=FP R 12 d x v z q
   obtain⟨a',_⟩:=FP R 12 e y u z2 q'
   exact⟨x,y,a,a',(),rfl⟩
theorem oF(hu:X.A.units+64<cLine):nG X ct (compareOp .Eq) sEq:=by
 refine⟨_,ae3 hu,λι M H d d' v v' Q R h h' p=> ?_⟩
 unfold sEq at p
 cases z:Yj M d d' with
 | none=>rw[z]at p;exact p.elim
 | some b=>
  rw[z]at p
  obtain⟨x,y,a,a',hd,rfl⟩:=aaP R z h h'
  exact⟨x,y,a,a',hd,p ι _ H .refl R (.bl _)⟩
theorem yJ(hu:X.A.units+64<cLine):nG X ct (compareOp .NotEq) sNe:=by
 refine⟨_,aeY hu,λι M H d d' v v' Q R h h' p=> ?_⟩
 unfold sNe at p
 cases z:Yj M d d' with
 | none=>rw[z]at p;exact p.elim
 | some b=>
  rw[z]at p
  obtain⟨x,y,a,a',hd,rfl⟩:=aaP R z h h'
  exact⟨x,y,a,a',hd,p ι _ H .refl R (.bl _)⟩
def Yd(d:D):Bool:=match d with
 | .non=>true
 | _=>false
theorem aaF{K:Frag}{ι:Nat->Addr}{n:Nat}{H:Hp}{d:D}{v:V}(q:DV K ct ι n H d v):decide (v= .non)=Yd d:=by
 cases q<;>simp[Yd]
def sIs:zp:=λd e M=>match e with
 | .non=> .ok (.bl (Yd d)) M
 | _=> .bad
def Ia:zp:=λd e M=>match e with
 | .non=> .ok (.bl (!Yd d)) M
 | _=> .bad
theorem adG:nG X ct (compareOp .Is) sIs:=by
 refine⟨_,ae2,λι M H d d' v v' Q R h h' p=> ?_⟩
 cases h' with
 | non=>exact⟨rfl,p ι _ H .refl R (by rw[aaF h];exact .bl _)⟩
 | _=>exact p.elim
theorem Nm:nG X ct (compareOp .IsNot) Ia:=by
 refine⟨_,ab0,λι M H d d' v v' Q R h h' p=> ?_⟩
 cases h' with
 | non=>exact⟨rfl,p ι _ H .refl R (by rw[aaF h];exact .bl _)⟩
 | _=>exact p.elim
theorem oZ.Rv{K:Frag}{ι:Nat->Addr}{n:Nat}{H:Hp}{ds:List D}{vs:List V}{i:Int}{d:D}(h:oZ K ct ι n H ds vs)(e:L2.Rv ds i=some d):∃v,L2.Rv vs i=some v/\DV K ct ι n H d v:=by
 unfold L2.Rv at*
 rw[h.length]
 cases z:ixN ds.length i with
 | none=>rw[z]at e;cases e
 | some j=>rw[z]at e;exact h.at e
variable{a b:Expr}{ma mb:ME}{pos:Pos}
section
variable{κ:Type}[DecidableEq κ]
noncomputable def HJ(kvs:List (κ×D))(k:κ):Option D:=(kvs.find? λkv=>decide (kv.1=k)).map (·.2)
noncomputable def abJ(kvs:List (κ×D))(k:κ)(d:D):List (κ×D):=if(kvs.any λkv=>decide (kv.1=k))=true then kvs.map (λkv=>if kv.1=k then(kv.1,d)else kv)else kvs++[(k,d)]
variable{K:Frag}{ι:Nat->Addr}{n:Nat}{H:Hp}
theorem Er.val:∀{kvs:List (κ×D)} {vs:List (κ×V)},Er K ct ι n H kvs vs->∀k,(∀d,HJ kvs k=some d->∃v,DR vs k=some v/\DV K ct ι n H d v)/\(HJ kvs k=none->DR vs k=none)
 | _,_,.nil,k=>⟨λd h=>by simp[HJ]at h,λ_=>rfl⟩
 | _,_,.cons (x:=x) (d:=d) (v:=v) (fs:=fs) h hs,k=>by
  by_cases e:x=k
  ·have e1:HJ ((x,d)::fs) k=some d:=by simp[HJ,e]
   rw[e1,Fy (p:=(x,v)) e]
   exact⟨λd' q=>by cases q;exact⟨_,rfl,h⟩,λq=>by cases q⟩
  ·have e1:HJ ((x,d)::fs) k=HJ fs k:=by simp[HJ,e]
   rw[e1,Fz (p:=(x,v)) e]
   exact hs.val k
theorem Er.any:∀{kvs:List (κ×D)} {vs:List (κ×V)},Er K ct ι n H kvs vs->∀k,(vs.any λkv=>decide (kv.1=k))=(kvs.any λkv=>decide (kv.1=k))
 | _,_,.nil,_=>rfl
 | _,_,.cons _ hs,k=>by simp only[List.any_cons,hs.any k]
theorem Er.repl(hd:DV K ct ι n H d v)(k:κ):∀{kvs:List (κ×D)} {vs:List (κ×V)},Er K ct ι n H kvs vs->Er K ct ι n H (kvs.map λkv=>if kv.1=k then(kv.1,d)else kv) (vs.map λkv=>if kv.1=k then(kv.1,v)else kv)
 | _,_,.nil=> .nil
 | _,_,.cons (x:=x) h hs=>by
  simp only[List.map_cons]
  by_cases e:x=k
  ·rw[if_pos e,if_pos e];exact .cons hd (hs.repl hd k)
  ·rw[if_neg e,if_neg e];exact .cons h (hs.repl hd k)
theorem Er.snoc(hd:DV K ct ι n H d v)(k:κ):∀{kvs:List (κ×D)} {vs:List (κ×V)},Er K ct ι n H kvs vs->Er K ct ι n H (kvs++[(k,d)]) (vs++[(k,v)])
 | _,_,.nil=> .cons hd .nil
 | _,_,.cons h hs=> .cons h (hs.snoc hd k)
theorem Er.put(h:Er K ct ι n H kvs vs)(hd:DV K ct ι n H d v)(k:κ):Er K ct ι n H (abJ kvs k d) (putK vs k v):=by
 unfold abJ putK
 rw[h.any k]
 split
 ·exact h.repl hd k
 ·exact h.snoc hd k
end
noncomputable def toKey:D->Option Key
 | .int i=>some (.inl i)
 | .str s=>some (.inr s)
 | _=>none
noncomputable def toKeys:List D->Option (List Key)
 | []=>some []
 | d::r=>match toKey d,toKeys r with
  | some k,some ks=>some (k::ks)
  | _,_=>none
section
variable{K:Frag}{ι:Nat->Addr}{n:Nat}{H:Hp}
theorem Kz(h:toKey d=some k)(q:DV K ct ι n H d v):v=kV k:=by
 cases q<;>simp only[toKey]at h<;>cases h<;>rfl
theorem zx:∀{ds:List D} {ks:List Key} {vs:List V},toKeys ds=some ks->oZ K ct ι n H ds vs->vs=ks.map kV
 | [],ks,_,h,.nil=>by cases h;rfl
 | d::r,ks,_,h,.cons q qs=>by
  simp only[toKeys]at h
  cases z:toKey d with
  | none=>rw[z]at h;cases h
  | some k=>
   cases z2:toKeys r with
   | none=>rw[z,z2]at h;cases h
   | some kr=>
    rw[z,z2]at h
    cases h
    rw[Kz z q,zx z2 qs]
    rfl
end
noncomputable def Vy(M:Mem)(n:Nat)(y:D):Option (Option D×Mem):=match M[n]? with
 | some (.dk kvs)=>match toKey y with
  | some k=>some (HJ kvs k,M)
  | none=>match y with
   | .tup ds=>match toKeys ds with
    | some _=>if kvs.isEmpty=true then some (none,M.set n (.dt []))else none
    | none=>none
   | _=>none
 | some (.dt kvs)=>match y with
  | .tup ds=>match toKeys ds with
   | some k=>some (HJ kvs k,M)
   | none=>none
  | _=>none
 | _=>none
theorem WW{K:Frag}{ι:Nat->Addr}{M M':Mem}{H:Hp}{n:Nat}{y:D}{vy:V}{o:Option D}(R:Rl K ct ι M H)(h:Vy M n y=some (o,M'))(hn:n<M.length)(q:DV K ct ι M.length H y vy):
  ∃ov H',ac5 H (ι n) vy ov H'/\Ext K ι M.length H ι M'.length H'/\Rl K ct ι M' H'/\(∀d,o=some d->∃v,ov=some v/\DV K ct ι M'.length H' d v/\H'=H/\M'=M)/\(o=none->ov=none):=by
 unfold Vy at h
 split at h
 ·rename_i kvs e
  obtain⟨vs,hH,pv⟩:=R.obj n _ e
  split at h
  ·rename_i k ek
   cases h
   have ey:=Kz ek q
   subst ey
   refine⟨DR vs k,H,.inl ⟨J3.k hH,rfl⟩,.refl,R,λd hd=> ?_,λhd=>(pv.val k).2 hd⟩
   obtain⟨v,h1,h2⟩:=(pv.val k).1 d hd
   exact⟨v,h1,h2,rfl,rfl⟩
  ·split at h
   ·rename_i ds
    split at h
    ·rename_i ks eks
     split at h
     ·rename_i hem
      cases h
      have ek:kvs=[]:=List.isEmpty_iff.mp hem
      subst ek
      cases pv
      obtain⟨b,xs,rfl,hb,hd⟩:=wF q
      have ex:=zx eks hd
      subst ex
      have x2:Ext K ι M.length H ι M.length (upd H (ι n) (.dT [])):=Ext.chg hH (λ_ z=>nomatch z) (λ_ _ z=>nomatch z)
      refine⟨none,upd H (ι n) (.dT []),.inr ⟨hH,⟨ks,b,rfl,hb⟩,rfl,rfl⟩,by rw[List.length_set];exact x2,R.chg hn hH (λ_ z=>nomatch z) (λ_ _ z=>nomatch z) ⟨[],bB,.nil⟩,(λd hd=>nomatch hd),λ_=>rfl⟩
     ·cases h
    ·cases h
   ·cases h
 ·rename_i kvs e
  obtain⟨vs,hH,pv⟩:=R.obj n _ e
  split at h
  ·rename_i ds
   split at h
   ·rename_i ks eks
    cases h
    obtain⟨b,xs,rfl,hb,hd⟩:=wF q
    have ex:=zx eks hd
    subst ex
    refine⟨DR vs ks,H,.inl ⟨J3.t hH hb,rfl⟩,.refl,R,λd hd=> ?_,λhd=>(pv.val ks).2 hd⟩
    obtain⟨v,h1,h2⟩:=(pv.val ks).1 d hd
    exact⟨v,h1,h2,rfl,rfl⟩
   ·cases h
  ·cases h
 ·cases h
noncomputable def aeh:zp:=λd y M=>match d with
 | .ref n=>match Vy M n y with
  | some (some v,_)=> .ok v M
  | _=> .bad
 | _=> .bad
theorem aeQ{K:Frag}:RN K ct aeh ahQ:=by
 intro w ι M H d d' v v' Q R h h' p
 cases d with
 | ref n=>
  obtain⟨hn,rfl⟩:=sO h
  simp only[aeh]at p
  split at p
  ·rename_i x M' e
   obtain⟨ov,H',g,_,_,h1,_⟩:=WW R e hn h'
   obtain⟨vx,rfl,dv,rfl,rfl⟩:=h1 x rfl
   rcases g with⟨g,_⟩ | ⟨_,_,z,_⟩
   ·exact⟨_,vx,rfl,g,p ι vx _ .refl R dv⟩
   ·cases z
  ·exact p.elim
 | _=>exact p.elim
noncomputable def UT:zp:=λd e M=>match e with
 | .int i=>match d with
  | .tup ds=>match L2.Rv ds i with
   | some x=> .ok x M
   | none=> .bad
  | d=>match Gb M d with
   | some ds=>match L2.Rv ds i with
    | some x=> .ok x M
    | none=> .bad
   | none=> .bad
 | _=> .bad
theorem aeP:RN X.K ct UT (λx y H Q=>ahP X.K x y H Q\/ahN X.K x y H Q):=by
 intro w ι M H d d' v v' Q R h h' p
 cases d' with
 | int i=>
  cases q_ h'
  cases d with
  | tup ds=>
   obtain⟨aa,xs,rfl,hs,hd⟩:=Vw h
   simp only[UT]at p
   cases z:L2.Rv ds i with
   | none=>rw[z]at p;exact p.elim
   | some x=>
    rw[z]at p
    obtain⟨v,e,dv⟩:=hd.Rv z
    exact .inr ⟨_,_,_,_,rfl,rfl,hs,e,p ι v H .refl R dv⟩
  | _=>
   simp only[UT]at p
   split at p
   ·rename_i ds z0
    obtain⟨aa,xs,rfl,hs,hd⟩:=R.seq z0 h
    cases z:L2.Rv ds i with
    | none=>rw[z]at p;exact p.elim
    | some x=>
     rw[z]at p
     obtain⟨v,e,dv⟩:=hd.Rv z
     exact .inl ⟨_,_,_,_,rfl,rfl,hs,e,p ι v H .refl R dv⟩
   ·exact p.elim
 | _=>exact p.elim
def aeg:zp:=λd e M=>match d,e with
 | .str z,.int i=>match L2.Rv z.cps.toList i with
  | some c=>if z.length<=sizeLine then .ok (.str ⟨#[c]⟩) M else .bad
  | none=> .bad
 | _,_=> .bad
theorem aeO{K:Frag}:RN K ct aeg ahO:=by
 intro w ι M H d d' v v' Q R h h' p
 unfold aeg at p
 split at p
 ·rename_i z i
  cases Ax h
  cases q_ h'
  cases e:L2.Rv z.cps.toList i with
  | none=>rw[e]at p;exact p.elim
  | some c=>
   rw[e]at p
   dsimp only at p
   split at p
   ·rename_i hz
    exact⟨z,i,c,rfl,rfl,hz,e,p ι _ H .refl R (.str _)⟩
   ·exact p.elim
 ·exact p.elim
def fP:zp:=Ci (Ci UT aeh) aeg
theorem dN(hu:X.A.units+64<cLine)(ha:SE X ct W a ma)(hb:SE X ct W b mb)(hs:W4 b:=by exact λ_ _=>rfl):SE X ct W (.Subscript a b pos) (aM fP ma mb):=
 ig (aiP (((acv.or afs).or (acw ())).or aft) ha hb hs) λσ H Q q=>P_ (RN.or (RN.or aeP aeQ) aeO) q
noncomputable def ZK(neg:Bool):zp:=λy x M=>match x with
 | .ref n=>match Vy M n y with
  | some (o,M')=> .ok (.bl (if neg=true then !o.isSome else o.isSome)) M'
  | none=> .bad
 | _=> .bad
theorem aeS{K:Frag}{neg:Bool}:RN K ct (ZK neg) (ahR neg):=by
 intro w ι M H d d' v v' Q R h h' p
 cases d' with
 | ref n=>
  obtain⟨hn,rfl⟩:=sO h'
  simp only[ZK]at p
  cases e:Vy M n d with
  | none=>rw[e]at p;exact p.elim
  | some oM=>
   obtain⟨o,M'⟩:=oM
   rw[e]at p
   obtain⟨ov,H',g,x,R',h1,h2⟩:=WW R e hn h
   have es:ov.isSome=o.isSome:=by
    cases o with
    | none=>rw[h2 rfl];rfl
    | some d=>obtain⟨v,rfl,_⟩:=h1 d rfl;rfl
   exact⟨_,ov,H',rfl,g,by rw[es];exact p ι _ H' x R' (.bl _)⟩
 | _=>cases d<;>exact p.elim
noncomputable def Za:D->Option V
 | .non=>some .non
 | .bl b=>some (.bl b)
 | .int i=>some (.int i)
 | .str s=>some (.str s)
 | _=>none
noncomputable def W_:List D->Option (List V)
 | []=>some []
 | d::r=>match Za d,W_ r with
  | some v,some vs=>some (v::vs)
  | _,_=>none
theorem V9{K:Frag}{ι:Nat->Addr}{n:Nat}{H:Hp}{d:D}{u v:V}(h:Za d=some u)(q:DV K ct ι n H d v):v=u/\Em u=true:=by
 cases q<;>simp only[Za]at h<;>cases h<;>exact⟨rfl,rfl⟩
theorem V8{K:Frag}{ι:Nat->Addr}{n:Nat}{H:Hp}:∀{ds:List D} {us vs:List V},W_ ds=some us->oZ K ct ι n H ds vs->vs=us/\us.all Em=true
 | [],_,_,h,.nil=>by cases h;exact⟨rfl,rfl⟩
 | d::r,us,_,h,.cons q qs=>by
  simp only[W_]at h
  cases z:Za d with
  | none=>rw[z]at h;cases h
  | some u=>
   cases z2:W_ r with
   | none=>rw[z,z2]at h;cases h
   | some ur=>
    rw[z,z2]at h
    cases h
    obtain⟨rfl,f1⟩:=V9 z q
    obtain⟨rfl,f2⟩:=V8 z2 qs
    exact⟨rfl,by simp[f1,f2]⟩
theorem agE(hu:X.A.units+64<cLine):nG X ct (compareOp .In) (ZK false):=⟨_,ae4 (),aeS⟩
def cut{α:Type}(xs:List α)(lo hi:Option Int):List α:=(xs.drop (HT.fP xs.length 0 lo)).take (HT.fP xs.length xs.length hi - HT.fP xs.length 0 lo)
theorem oZ.cut{K:Frag}{ι:Nat->Addr}{n:Nat}{H:Hp}{ds:List D}{vs:List V}(h:oZ K ct ι n H ds vs)(lo hi:Option Int):oZ K ct ι n H (S.cut ds lo hi) (Tw vs lo hi):=by
 unfold S.cut Tw
 rw[h.length]
 exact(h.drop _).take _
abbrev MO':=Sl->Mem->Out (Option Int)
def atj:(Nat->Addr)->Mem->Hp->Option Int->Option Int->Prop:=λ_ _ _ a b=>a=b
def SO(X:Cx)(ct:Nat->Addr)(W:bJ)(e:Option Expr)(m:MO'):Prop:=PO X e (tG atj X.K ct W m)
def asI(d:D)(M:Mem):Out (Option Int):=match d with
 | .int i=> .ok (some i) M
 | _=> .bad
def O3(m:ME):MO':=λe M=>(m e M).bind asI
theorem J6(h:SE X ct W a ma):SO X ct W (some a) (O3 ma):=λpins s σ H Q I q=>abV h pins s σ H Q I (by
 obtain⟨ι,e,M,w,p⟩:=di (iR:=gQ X.K ct) (f:=λd _ M1=>asI d M1) q
 refine⟨ι,e,M,w,p.mono ?_⟩
 rintro v H1 ⟨dU,e1,M1,d,w1,q1,p1⟩
 cases q1 with
 | int i=>exact⟨i,rfl,p1 dU _ H1 .refl w1.rl rfl⟩
 | _=>exact p1.elim)
noncomputable def Zy(d:D)(lo hi:Option Int)(M:Mem):Out D:=match d with
 | .tup ds=>if HT.fP ds.length 0 lo=0/\HT.fP ds.length ds.length hi=ds.length then .bad else .ok (.tup (cut ds lo hi)) M
 | .str u=>if u.length<=sizeLine then .ok (.str (Txt.slice u lo hi)) M else .bad
 | d=>match Gb M d with
  | some ds=> .ok (.ref M.length) (M++[.lst (cut ds lo hi)])
  | none=> .bad
noncomputable def mSl(m:ME)(lo hi:MO'):ME:=λe M=>(m e M).bind λd M1=>(lo e M1).bind λl M2=>(hi e M2).bind λh M3=>Zy d l h M3
theorem adg{lo hi:Option Expr}{ml mh:MO'}(ha:SE X ct W a ma)(hl:SO X ct W lo ml)(hh:SO X ct W hi mh):SE X ct W (.Subscript a (.Slice lo hi none p2) pos) (mSl ma ml mh):=by
 refine ig (aaa ((abl.or ad4).or ad5) ha hl hh) λσ H Q q=> ?_
 obtain⟨ι,e,M,w,p⟩:=di (iR:=gQ X.K ct) (f:=λd e M1=>(ml e M1).bind λl M2=>(mh e M2).bind λh M3=>Zy d l h M3) q
 refine⟨ι,e,M,w,p.mono ?_⟩
 rintro v H1 ⟨dU,e1,M1,d,w1,q1,p1⟩
 refine⟨dU,e1,M1,w1,?_⟩
 cases z:ml e1 M1 with
 | bad=>simp only[z,Out.je]at p1;exact p1
 | exc xc xd xM=>simp only[z,Out.sV]at p1;exact p1
 | ok l M2=>
  simp only[z,Out.fc]at p1
  intro nR l' H2 x2 r2 el
  have Ti:l=l':=el;subst Ti
  refine⟨nR,e1,M2,w1.ext x2 r2,?_⟩
  have p2:=p1.ext x2
  cases z2:mh e1 M2 with
  | bad=>simp only[z2,Out.je]at p2;exact p2
  | exc xc xd xM=>simp only[z2,Out.sV]at p2;exact p2
  | ok h M3=>
   simp only[z2,Out.fc]at p2
   intro RK h' H3 x3 r3 eh
   have Ti:h=h':=eh;subst Ti
   have p3:=p2.ext x3
   have q3:=(q1.mono x2).mono x3
   cases d with
   | tup ds=>
    obtain⟨aa,xs,rfl,hs,hd⟩:=Vw q3
    simp only[Zy]at p3
    split at p3
    ·exact p3.elim
    ·rename_i hw
     exact .inl (.inr ⟨_,_,rfl,hs,by rw[hd.length];exact hw,λpp hp=>Gh r3 (hd.cut l h) hp p3⟩)
   | str u=>
    cases Ax q3
    simp only[Zy]at p3
    split at p3
    ·rename_i hz
     exact .inr ⟨u,rfl,hz,p3 RK _ H3 .refl r3 (.str _)⟩
    ·exact p3.elim
   | _=>
    simp only[Zy]at p3
    split at p3
    ·rename_i ds z0
     obtain⟨aa,xs,rfl,hs,hd⟩:=r3.seq z0 q3
     exact .inl (.inl ⟨_,_,rfl,hs,λpp hp=>wW r3 (hd.cut l h) hp p3⟩)
    ·exact p3.elim
theorem Jb{K:Frag}{ι:Nat->Addr}{n:Nat}{H:Hp}{d:D}{vs:List V}(h:oZ K ct ι n H [d] vs):∃v,vs=[v]/\DV K ct ι n H d v:=by
 cases h with | cons a b=>cases b;exact⟨_,rfl,a⟩
theorem acF{K:Frag}{ι:Nat->Addr}{n:Nat}{H:Hp}{d d':D}{vs:List V}(h:oZ K ct ι n H [d,d'] vs):∃v v',vs=[v,v']/\DV K ct ι n H d v/\DV K ct ι n H d' v':=by
 cases h with | cons a b=>obtain⟨v,rfl,q⟩:=Jb b;exact⟨_,_,rfl,a,q⟩
noncomputable def Bo(M:Mem)(d:D):Option (List D):=match d with
 | .tup ds=>some ds
 | .Vz ds=>some ds
 | d=>Gb M d
theorem Rl.seqs{K:Frag}{ι:Nat->Addr}{M:Mem}{H:Hp}(R:Rl K ct ι M H){d:D}{v:V}{ds:List D}(h:Bo M d=some ds)(q:DV K ct ι M.length H d v):∃a xs,v= .ref a/\(De K H a xs\/zT K H a xs)/\oZ K ct ι M.length H ds xs:=by
 cases d with
 | tup es=>cases h;obtain⟨a,xs,e,hs,hd⟩:=Vw q;exact⟨a,xs,e,.inr hs,hd⟩
 | Vz es=>cases h;cases q with | Vz h1 h2=>exact⟨_,_,rfl,.inr (.inr h1),h2⟩
 | _=>simp only[Bo]at h;obtain⟨a,xs,e,hs,hd⟩:=R.seq h q;exact⟨a,xs,e,.inl hs,hd⟩
noncomputable def Wd:RP:=λds M=>match ds with
 | [d]=>match Bo M d with
  | some es=> .ok (.int es.length) M
  | none=> .bad
 | _=> .bad
theorem acP:vQ X ct (.builtin "len") Wd:=by
 refine⟨_,Rn,λι M H ds vs Q R h p=> ?_⟩
 unfold Wd at p
 split at p
 ·rename_i d
  obtain⟨v,rfl,q⟩:=Jb h
  cases z:Bo M d with
  | none=>rw[z]at p;exact p.elim
  | some es=>
   rw[z]at p
   obtain⟨a,xs,rfl,hs,hd⟩:=R.seqs z q
   exact⟨_,xs,rfl,hs,p ι _ H .refl R (by rw[hd.length];exact .int _)⟩
 ·exact p.elim
def orN(a b:RP):RP:=λds M=>match a ds M with
 | .bad=>b ds M
 | o=>o
theorem vQ.or{f:Value}{a b:RP}(ha:vQ X ct f a)(hb:vQ X ct f b):vQ X ct f (orN a b):=by
 obtain⟨r,h,hs⟩:=ha
 obtain⟨r',h',hs'⟩:=hb
 refine⟨_,h.or h',λι M H ds vs Q R q p=> ?_⟩
 unfold orN at p
 cases z:a ds M with
 | ok x M1=>rw[z]at p;exact .inl (hs ι M H ds vs Q R q (by rw[z];exact p))
 | exc xc xd xM=>rw[z]at p;exact .inl (hs ι M H ds vs Q R q (by rw[z];exact p))
 | bad=>rw[z]at p;exact .inr (hs' ι M H ds vs Q R q p)
theorem aai{a b:RP}{ds:List D}{x:D}{M M':Mem}(h:a ds M= .ok x M'):orN a b ds M= .ok x M':=by unfold orN;rw[h]
noncomputable def ZJ:RP:=λds M=>match ds with
 | [.ref n]=>match M[n]? with
  | some (.dk kvs)=> .ok (.int kvs.length) M
  | some (.dt kvs)=> .ok (.int kvs.length) M
  | _=> .bad
 | _=> .bad
theorem acQ:vQ X ct (.builtin "len") ZJ:=by
 refine⟨_,Yr.or Yq,λι M H ds vs Q R h p=> ?_⟩
 unfold ZJ at p
 split at p
 ·rename_i n
  obtain⟨v,rfl,q⟩:=Jb h
  obtain⟨hn,rfl⟩:=sO q
  split at p
  ·rename_i kvs e
   obtain⟨ys,hH,pv⟩:=R.obj n _ e
   exact .inl ⟨_,ys,rfl,hH,by rw[pv.length];exact p ι _ H .refl R (.int _)⟩
  ·rename_i kvs e
   obtain⟨ys,hH,pv⟩:=R.obj n _ e
   exact .inr ⟨_,ys,rfl,hH,by rw[pv.length];exact p ι _ H .refl R (.int _)⟩
  ·exact p.elim
 ·exact p.elim
noncomputable def aej(neg:Bool):zp:=λy x M=>match Za y,Bo M x with
 | some v,some ds=>match W_ ds with
  | some vs=> .ok (.bl (if neg=true then !inV v vs else inV v vs)) M
  | none=> .bad
 | _,_=> .bad
theorem aeR{K:Frag}{neg:Bool}:RN K ct (aej neg) (rIn K neg):=by
 intro w ι M H d d' v v' Q R h h' p
 unfold aej at p
 split at p
 ·rename_i u ds e1 e2
  obtain⟨rfl,f1⟩:=V9 e1 h
  obtain⟨a,xs,rfl,hs,hd⟩:=R.seqs e2 h'
  cases e3:W_ ds with
  | none=>rw[e3]at p;exact p.elim
  | some us=>
   rw[e3]at p
   obtain⟨rfl,f2⟩:=V8 e3 hd
   exact⟨a,_,rfl,hs,f1,f2,p ι _ H .refl R (.bl _)⟩
 ·exact p.elim
def sIn:zp:=Ci (ZK false) (aej false)
theorem aaZ(hu:X.A.units+64<cLine):nG X ct (compareOp .In) sIn:=(agE hu).or ⟨_,XJ,aeR⟩
noncomputable def ZG:RP:=λds M=>match ds with
 | [.str z]=>if z.length<=sizeLine then .ok (.int z.length) M else .bad
 | _=> .bad
theorem acO:vQ X ct (.builtin "len") ZG:=by
 refine⟨_,Rm,λι M H ds vs Q R h p=> ?_⟩
 unfold ZG at p
 split at p
 ·obtain⟨v,rfl,q⟩:=Jb h
  cases Ax q
  split at p
  ·rename_i hz
   exact⟨_,rfl,hz,p ι _ H .refl R (.int _)⟩
  ·exact p.elim
 ·exact p.elim
def zz:RP:=orN (orN Wd ZJ) ZG
theorem vz:vQ X ct (.builtin "len") zz:=(acP.or acQ).or acO
def Ox:RP:=λds M=>match ds with
 | [d]=>match Bo M d with
  | some es=> .ok (.ref M.length) (M++[.lst es])
  | none=> .bad
 | _=> .bad
def ad7(M:Mem)(d:D):Option (List D):=match d with
 | .Vz _=>none
 | d=>Bo M d
def H_:RP:=λds M=>match ds with
 | [d]=>match ad7 M d with
  | some es=> .ok (.tup es) M
  | none=> .bad
 | _=> .bad
theorem WX:vQ X ct (.type "list") Ox:=by
 refine⟨_,Rk,λι M H ds vs Q R h p=> ?_⟩
 unfold Ox at p
 split at p
 ·rename_i d
  obtain⟨v,rfl,q⟩:=Jb h
  cases z:Bo M d with
  | none=>rw[z]at p;exact p.elim
  | some es=>
   rw[z]at p
   obtain⟨a,xs,rfl,hs,hd⟩:=R.seqs z q
   exact⟨_,xs,rfl,hs,λpp hp=>wW R hd hp p⟩
 ·exact p.elim
theorem aaU:vQ X ct (.type "tuple") H_:=by
 refine⟨_,Oi,λι M H ds vs Q R h p=> ?_⟩
 unfold H_ at p
 split at p
 ·rename_i d
  obtain⟨v,rfl,q⟩:=Jb h
  cases d with
  | tup es=>
   obtain⟨aa,xs,rfl,hs,hd⟩:=wF q
   exact⟨_,xs,rfl,.inr ⟨zT.of hs,p ι _ H .refl R (.tup hs hd)⟩⟩
  | Vz es=>exact p.elim
  | _=>
   split at p
   ·rename_i es z
    simp only[ad7,Bo]at z
    obtain⟨a,xs,rfl,hs,hd⟩:=R.seq z q
    exact⟨_,xs,rfl,.inl ⟨hs,λpp hp=>Gh R hd hp p⟩⟩
   ·exact p.elim
 ·exact p.elim
noncomputable def tyN(M:Mem)(d:D):Option String:=match d with
 | .non=>some "NoneType"
 | .bl _=>some "bool"
 | .int _=>some "int"
 | .str _=>some "str"
 | .tup _=>some "tuple"
 | .ref n=>(uO M n).map λ_=> "list"
 | .cl _=>some "list"
 | _=>none
def adX(a b:String):Bool:=a==b||(a== "bool" && b== "int")
noncomputable def zV:List String:=["NoneType","bool","int","str","tuple","list"]
theorem acs{K:Frag}:∀a∈zV,∀b∈zV,kitOne K (.type a) (.type b)=some (adX a b):=by
 intro a ha b hb
 simp only[zV,List.mem_cons,List.not_mem_nil,or_false]at ha hb
 rcases ha with rfl | rfl | rfl | rfl | rfl | rfl<;>rcases hb with rfl | rfl | rfl | rfl | rfl | rfl<;>with_unfolding_all rfl
noncomputable def oG:RP:=λds M=>match ds with
 | [d,.ty b]=>match tyN M d with
  | some a=>if b∈zV then .ok (.bl (adX a b)) M else .bad
  | none=> .bad
 | _=> .bad
@[irreducible] def Z2(K:Frag):List V->Hp->VK->Prop:=λxs H Q=>∃x n b,xs=[x,.ty n]/\Q (.bl b) H/\
 ((∃t,Hw K H x t/\kitOne K t (.type n)=some b)\/(∃a ys,x= .ref a/\zT K H a ys/\kitOne K (.type "tuple") (.type n)=some b)\/(∃a ys,x= .ref a/\De K H a ys/\kitOne K (.type "list") (.type n)=some b))
theorem Ys:qG X (.builtin "isinstance") (Z2 X.K):=by
 intro pins s σ H xs us Q I r h
 unfold Z2 at h
 obtain⟨x,n,b,rfl,q,h⟩:=h
 obtain⟨u,v,rfl,rx,rc⟩:=vals2 r
 obtain rfl:v= .type n:=rc
 rcases h with⟨t,ty,e⟩ | ⟨a,ys,rfl,hs,e⟩ | ⟨a,ys,rfl,hs,e⟩
 ·exact O7 I rx ty e λtk=>⟨.bl b,H,I.tok tk,rfl,q⟩
 ·cases(show u=Value.ref a from rx)
  obtain⟨its,_,⟨o,h1,h2,_⟩,_⟩:=I.tuple hs
  exact vS PySem.W.kitx_tuple I.Fi ⟨o,h1,h2⟩ e (λz=>nomatch z) λtk=>⟨.bl b,H,I.tok tk,rfl,q⟩
 ·cases(show u=Value.ref a from rx)
  obtain⟨its,_,⟨o,n',h1,h2,_⟩,_⟩:=I.list hs
  exact vS PySem.W.kitx_list I.Fi ⟨o,h1,h2⟩ e (λz=>nomatch z) λtk=>⟨.bl b,H,I.tok tk,rfl,q⟩
theorem xG:vQ X ct (.builtin "isinstance") oG:=by
 refine⟨_,Ys,λι M H ds vs Q R h p=> ?_⟩
 unfold oG at p
 split at p
 ·rename_i d n
  obtain⟨v,v',rfl,q,q'⟩:=acF h
  cases q'
  unfold Z2
  cases z:tyN M d with
  | none=>rw[z]at p;exact p.elim
  | some a=>
   rw[z]at p
   by_cases hn:n∈zV
   ·simp only[hn,if_true]at p
    have ha:a∈zV:=by
     unfold tyN at z
     cases d with
     | ref m=>
      cases z1:uO M m with
      | none=>simp only[z1]at z;cases z
      | some es=>simp only[z1]at z;cases z;show "list" ∈ zV;decide
     | ty _=>cases z
     | cls _=>cases z
     | exc _ _=>cases z
     | fn _=>cases z
     | Vz _=>cases z
     | _=>cases z;decide
    have e:=acs (K:=X.K) a ha n hn
    refine⟨v,n,adX a n,rfl,p ι _ H .refl R (.bl _),?_⟩
    cases q with
    | non=>cases z;exact .inl ⟨_,.non,e⟩
    | bl b=>cases z;exact .inl ⟨_,.bl b,e⟩
    | int b=>cases z;exact .inl ⟨_,.int b,e⟩
    | str b=>cases z;exact .inl ⟨_,.str b,e⟩
    | tup hs hd=>cases z;exact .inr (.inl ⟨_,_,rfl,zT.of hs,e⟩)
    | @ref i hi=>
     simp only[tyN]at z
     cases z1:uO M i with
     | none=>rw[z1]at z;cases z
     | some es=>
      rw[z1]at z
      cases z
      obtain⟨xs,hs,hd⟩:=R.obj i _ (wN.mp z1)
      exact .inr (.inr ⟨_,_,rfl,De.of hs,e⟩)
    | cl hs hd=>cases z;exact .inr (.inr ⟨_,_,rfl,hs.sq,e⟩)
    | ty b=>cases z
    | cls b=>cases z
    | exc _ _ _=>cases z
    | fn _ _ _ _ _ _=>cases z
    | Vz _ _=>cases z
   ·simp only[hn,if_false]at p
    exact p.elim
 ·exact p.elim
def MtS(X:Cx)(ct:Nat->Addr)(T id:String)(op:D->List D->Mem->Out D):Prop:=∃r,MtR X id r/\∀{w:XW} ι M H d ds v vs Q,Rl X.K ct ι M H->DV X.K ct ι M.length H d v->oZ X.K ct ι M.length H ds vs->k_ (gQ X.K ct) X.K ct w ι M.length H (op d ds M) Q->r v vs H Q
noncomputable def Ud(T:String)(d:D)(M:Mem):Bool:=match d with
 | .int _=>T== "int"
 | .str _=>T== "str"
 | .ref n=>T== "list" && (uO M n).isSome
 | _=>false
theorem Y7{K:Frag}{ι:Nat->Addr}{M:Mem}{H:Hp}{T:String}{d:D}{v:V}(R:Rl K ct ι M H)(h:Ud T d M=true)(q:DV K ct ι M.length H d v):tyV K T v H:=by
 cases q with
 | int i=>exact beq_iff_eq.mp h
 | str i=>exact beq_iff_eq.mp h
 | @ref i hi=>
  simp only[Ud,Bool.and_eq_true,beq_iff_eq]at h
  obtain⟨e,h2⟩:=h
  obtain⟨ds,z⟩:=Option.isSome_iff_exists.mp h2
  obtain⟨xs,hs,_⟩:=R.obj i _ (wN.mp z)
  exact .inl ⟨e,xs,De.of hs⟩
 | _=>exact absurd h xA
noncomputable def mBM(T:String)(op:D->List D->Mem->Out D)(mo:ME)(ms:MA):ME:=λe M=>(mo e M).bind λd M1=>if Ud T d M1=true then(ms e M1).bind λds M2=>op d ds M2 else .bad
variable{o:Expr}{es:List Expr}{mo:ME}{ms:MA}{name:Str}{apos cpos:Pos}{T id:String}{op:D->List D->Mem->Out D}
theorem ad_(pa:PlainAttrs T)(slot:Slot T name id)(hty:typeOf (.builtin id)=pure (.type "method_descriptor"))(hm:MtS X ct T id op)(ho:SE X ct W o mo)
  (hbase:attributeBase o name X.env (eval o X.env)=eval o X.env:=by rfl) (hline:(apos.endLine==cpos.line)=true:=by rfl):SE X ct W (.Call (.Attribute o name apos) [] [] cpos) (mBM T op mo aH):=by
 obtain⟨r,hr,hs⟩:=hm
 refine ig (U9 pa slot hty hr ho hbase hline) λσ H Q q=> ?_
 obtain⟨ι,e,M,w,p⟩:=di (iR:=gQ X.K ct) (f:=λd e M1=>if Ud T d M1=true then(aH e M1).bind λds M2=>op d ds M2 else .bad) q
 refine⟨ι,e,M,w,p.mono ?_⟩
 rintro v H1 ⟨dU,e1,M1,d,w1,q1,p1⟩
 cases z:Ud T d M1 with
 | false=>simp only[z,Bool.false_eq_true,if_false]at p1;exact p1.elim
 | true=>
  simp only[z,if_true,aH,Out.fc]at p1
  exact⟨Y7 w1.rl z q1,hs dU M1 H1 d [] v [] Q w1.rl q1 .nil p1⟩
theorem K5(pa:PlainAttrs T)(slot:Slot T name id)(hty:typeOf (.builtin id)=pure (.type "method_descriptor"))(hm:MtS X ct T id op)(ho:SE X ct W o mo)(ha:SA X ct W (a::es) ms)
  (hbase:attributeBase o name X.env (eval o X.env)=eval o X.env:=by rfl)
  (hfew:((backTo cpos (starEach (a::es) X.env)).all (λx=> !x.1)&&(backToKw cpos (keywordEach [] X.env)).all (λx=>x.1.isSome)
   && decide ((a::es).length+([]:List Keyword).length+(if([]:List Keyword).isEmpty then 0 else 1)<30))=true:=by rfl)
  (hline:(apos.endLine==cpos.line)=true:=by rfl) (hs:starEach (a::es) X.env=(false,eval a X.env)::starEach es X.env:=by rfl) (hplain:(backTo cpos (starEach es X.env)).any (·.1)=false:=by rfl):
  SE X ct W (.Call (.Attribute o name apos) (a::es) [] cpos) (mBM T op mo ms):=by
 obtain⟨r,hr,hss⟩:=hm
 refine ig (ado pa slot hty hr ho ha hbase hfew hline hs hplain) λσ H Q q=> ?_
 obtain⟨ι,e,M,w,p⟩:=di (iR:=gQ X.K ct) (f:=λd e M1=>if Ud T d M1=true then(ms e M1).bind λds M2=>op d ds M2 else .bad) q
 refine⟨ι,e,M,w,p.mono ?_⟩
 rintro v H1 ⟨dU,e1,M1,d,w1,q1,p1⟩
 cases z:Ud T d M1 with
 | false=>simp only[z,Bool.false_eq_true,if_false]at p1;exact p1.elim
 | true=>
  simp only[z,if_true]at p1
  refine⟨Y7 w1.rl z q1,dU,e1,M1,w1,?_⟩
  cases z2:ms e1 M1 with
  | bad=>simp only[z2,Out.je]at p1;exact p1
  | exc xc xd xM=>simp only[z2,Out.sV]at p1;exact p1
  | ok ds M2=>
   simp only[z2,Out.fc]at p1
   exact λnR vs H2 x2 r2 q2=>hss nR M2 H2 d ds v vs Q r2 (q1.mono x2) q2 (p1.ext x2)
noncomputable def mR:D->List D->Mem->Out D:=λd ds M=>match d,ds with
 | .ref n,[x]=>match M[n]? with
  | some (.lst es)=>if es.length<sizeLine then .ok .non (M.set n (.lst (es++[x])))else .bad
  | _=> .bad
 | _,_=> .bad
theorem tW:MtS X ct "list" "list.append" mR:=by
 refine⟨_,O1,λι M H d ds v vs Q R q qs p=> ?_⟩
 unfold mR at p
 split at p
 ·rename_i n x
  obtain⟨hn,rfl⟩:=sO q
  obtain⟨y,rfl,qy⟩:=Jb qs
  split at p
  ·rename_i es e1
   split at p
   ·rename_i hz
    obtain⟨xs,hH,hd⟩:=R.obj n _ e1
    have x2:Ext X.K ι M.length H ι M.length (upd H (ι n) (.lst (xs++[y]))):=Ext.chg hH (λ_ z=>nomatch z) (λ_ _ z=>nomatch z)
    refine⟨_,xs,y,rfl,rfl,hH,by rw[hd.length];exact hz,?_⟩
    refine p ι .non _ (by rw[List.length_set];exact x2) (R.chg hn hH (λ_ z=>nomatch z) (λ_ _ z=>nomatch z) ⟨_,bB,(hd.append (.cons qy .nil)).mono x2⟩) .non
   ·exact p.elim
  ·exact p.elim
 ·exact p.elim
def Wf:D->List D->Mem->Out D:=λd ds M=>match d,ds with
 | .int i,[]=> .ok (.int (Builtin.Int.intBits i:Nat)) M
 | _,_=> .bad
theorem acd:MtS X ct "int" "int.bit_length" Wf:=by
 refine⟨_,ab_,λι M H d ds v vs Q R q qs p=> ?_⟩
 unfold Wf at p
 split at p
 ·cases q_ q
  cases qs
  exact⟨_,rfl,rfl,p ι _ H .refl R (.int _)⟩
 ·exact p.elim
end
inductive rQ where
 | next (e:Sl) (M:Mem) | ret (d:D) (M:Mem) | brk (e:Sl) (M:Mem) | cont (e:Sl) (M:Mem) | exc (c:Nat) (d:D) (e:Sl) (M:Mem) | bad
abbrev MS:=Sl->Mem->rQ
def Ep(K:Frag)(ct:Nat->Addr)(W:bJ)(ι:Nat->Addr)(n:Nat)(H:Hp)(o:rQ)(T:Ends):Prop:=match o with
 | .next e M=>∀ι' σ' H',Ext K ι n H ι' M.length H'->Ws K ct ι' e M σ' H'->T.nx σ' H'
 | .ret d M=>∀ι' v H',Ext K ι n H ι' M.length H'->Rl K ct ι' M H'->DV K ct ι' M.length H' d v->T.rt v H'
 | .brk e M=>∀ι' σ' H',Ext K ι n H ι' M.length H'->Ws K ct ι' e M σ' H'->T.bk σ' H'
 | .cont e M=>∀ι' σ' H',Ext K ι n H ι' M.length H'->Ws K ct ι' e M σ' H'->T.ct σ' H'
 | .exc c d e M=>∀ι' σ' dx v H',Ext K ι n H ι' M.length H'->Ws K ct ι' e M σ' H'->H' dx=some (.xd [("at",v)])->DV K ct ι' M.length H' d v->W (ct c) dx σ' H'
 | .bad=>False
def tS(K:Frag)(ct:Nat->Addr)(W:bJ)(m:MS):TS:=λT σ H=>∃ι e M,Ws K ct ι e M σ H/\Ep K ct W ι M.length H (m e M) T
def SS(X:Cx)(ct:Nat->Addr)(W:bJ)(st:Stmt)(m:MS):Prop:=PS X st (tS X.K ct W m)
def SSs(X:Cx)(ct:Nat->Addr)(W:bJ)(st:List Stmt)(m:MS):Prop:=RM X st (tS X.K ct W m)
theorem Ep.ext{K:Frag}{ct ι ι':Nat->Addr}{W:bJ}{n n':Nat}{H H':Hp}{o:rQ}{T:Ends}(h:Ep K ct W ι n H o T)(x:Ext K ι n H ι' n' H'):Ep K ct W ι' n' H' o T:=by
 cases o with
 | next e M=>exact λnR b H2 x2 w=>h nR b H2 (x.trans x2) w
 | ret d M=>exact λnR b H2 x2 r q=>h nR b H2 (x.trans x2) r q
 | brk e M=>exact λnR b H2 x2 w=>h nR b H2 (x.trans x2) w
 | cont e M=>exact λnR b H2 x2 w=>h nR b H2 (x.trans x2) w
 | exc c d e M=>exact λnR b dx v H2 x2 w q1 q2=>h nR b dx v H2 (x.trans x2) w q1 q2
 | bad=>exact h
def zE{α:Type}(e:Sl)(o:Out α)(f:α->Mem->rQ):rQ:=match o with
 | .ok a M=>f a M
 | .exc c d M=> .exc c d e M
 | .bad=> .bad
@[simp] theorem LR{α:Type}(e:Sl)(a:α)(M:Mem)(f:α->Mem->rQ):zE e (.ok a M) f=f a M:=id rfl
@[simp] theorem J9{α:Type}(e:Sl)(c:Nat)(d:D)(M:Mem)(f:α->Mem->rQ):zE e (.exc c d M:Out α) f= .exc c d e M:=id rfl
@[simp] theorem J_{α:Type}(e:Sl)(f:α->Mem->rQ):zE e (.bad:Out α) f= .bad:=id rfl
theorem zW{α β:Type}{rel:(Nat->Addr)->Mem->Hp->α->β->Prop}{K:Frag}{ct:Nat->Addr}{W:bJ}{m:Sl->Mem->Out α}{f:α->Sl->Mem->rQ}{σ:St}{H:Hp}{T:Ends}
  (h:tS K ct W (λe M=>zE e (m e M) λa M1=>f a e M1) T σ H):tG rel K ct W m σ H (λb H1=>∃ι e M a,Ws K ct ι e M σ H1/\rel ι M H1 a b/\Ep K ct W ι M.length H1 (f a e M) T):=by
 obtain⟨ι,e,M,w,p⟩:=h
 refine⟨ι,e,M,w,?_⟩
 cases z:m e M with
 | bad=>simp only[z,J_]at p;exact p
 | exc xc xd xM=>simp only[z,J9]at p;exact λdU dx v H1 x r q1 q2=>p dU σ dx v H1 x (w.ext x r) q1 q2
 | ok a M1=>
  simp only[z,LR]at p
  exact λdU b H1 x r q=>⟨dU,e,M1,a,w.ext x r,q,p.ext x⟩
section
variable{X:Cx}{ct:Nat->Addr}{W:bJ}{st:Stmt}{rest:List Stmt}{s t:MS}{a:Expr}{ma:ME}{pos:Pos}
theorem PS.imp{st:Stmt}{t t':TS}(h:PS X st t)(hi:∀T σ H,t' T σ H->t T σ H):PS X st t':=λpins s σ H T I q=>h pins s σ H T I (hi T σ H q)
theorem RM.imp{st:List Stmt}{t t':TS}(h:RM X st t)(hi:∀T σ H,t' T σ H->t T σ H):RM X st t':=λpins s σ H T I q=>h pins s σ H T I (hi T σ H q)
def cQ:MS:=λe M=> .next e M
noncomputable def aP(s t:MS):MS:=λe M=>match s e M with
 | .next e' M'=>t e' M'
 | o=>o
theorem Ze(h:tS X.K ct W cQ T σ H):ada T σ H:=let⟨ι,_,_,w,p⟩:=h;p ι σ H .refl w
theorem bM:SSs X ct W [] cQ:=RM.imp abP λT σ H q=>Ze q
theorem aB(h1:SS X ct W st s)(h2:SSs X ct W rest t):SSs X ct W (st::rest) (aP s t):=RM.imp (Z3 h1 h2) λT σ H ⟨ι,e,M,w,p⟩=>by
 refine⟨ι,e,M,w,?_⟩
 unfold aP at p
 cases z:s e M with
 | next e' M'=>rw[z]at p;exact λι' σ' H' x w'=>⟨ι',e',M',w',p.ext x⟩
 | ret d M'=>rw[z]at p;exact p
 | brk d M'=>rw[z]at p;exact p
 | cont d M'=>rw[z]at p;exact p
 | exc c d e M'=>rw[z]at p;exact p
 | bad=>rw[z]at p;exact p
theorem aK(h1:SS X ct W st s):SSs X ct W [st] s:=abO h1
def K_:MS:=λ_ _=> .bad
theorem qg:SS X ct W st K_:=λ_ _ _ _ _ _ ⟨_,_,_,_,p⟩=>p.elim
noncomputable def jz(m:ME):MS:=λe M=>zE e (m e M) λ_ M1=> .next e M1
theorem gj(he:SE X ct W a ma)(hs:swapsWith a none pos.line X.env=pure false:=by rfl):SS X ct W (.Expr a pos) (jz ma):=PS.imp (abR he hs) λT σ H q=>by
 obtain⟨ι,e,M,w,p⟩:=zW (rel:=gQ X.K ct) (f:=λ_ e M1=> .next e M1) q
 exact⟨ι,e,M,w,p.mono λv H1 ⟨dU,e1,M1,d,w1,q1,p1⟩=>p1 dU σ H1 .refl w1⟩
noncomputable def cH(m:ME):MS:=λe M=>zE e (m e M) λd M1=> .ret d M1
theorem aU(he:SE X ct W a ma):SS X ct W (.Return (some a) pos) (cH ma):=PS.imp (aeA he) λT σ H q=>by
 obtain⟨ι,e,M,w,p⟩:=zW (rel:=gQ X.K ct) (f:=λd e M1=> .ret d M1) q
 exact⟨ι,e,M,w,p.mono λv H1 ⟨dU,e1,M1,d,w1,q1,p1⟩=>p1 dU v H1 .refl w1.rl q1⟩
noncomputable def tV(c:MT)(s t:MS):MS:=λe M=>zE e (c e M) λk M1=>if k=true then s e M1 else t e M1
theorem dg{b b':List Stmt}(hc:YH X ct W c mc)(ha:SSs X ct W b s)(hb:SSs X ct W b' t):SS X ct W (.If c b b' pos) (tV mc s t):=PS.imp (ahV hc ha hb) λT σ H q=>by
 obtain⟨ι,e,M,w,p⟩:=zW (rel:=JV) (f:=λk e M1=>if k=true then s e M1 else t e M1) q
 refine⟨ι,e,M,w,p.mono ?_⟩
 rintro k H1 ⟨dU,e1,M1,d,w1,q1,p1⟩
 have Ti:d=k:=q1;subst Ti
 cases d with
 | true=>exact⟨dU,e1,M1,w1,p1⟩
 | false=>exact⟨dU,e1,M1,w1,p1⟩
abbrev Tg:=D->Sl->Option Sl
abbrev Tgs:=List D->Sl->Option Sl
def adK(K:Frag)(ct ι:Nat->Addr)(M:Mem)(H:Hp)(o:Option Sl)(Q:St->Hp->Prop):Prop:=match o with
 | some e'=>∀σ',Ws K ct ι e' M σ' H->Q σ' H
 | none=>False
def tT(K:Frag)(ct:Nat->Addr)(g:Tg):TG:=λv σ H Q=>∃ι e M d,Ws K ct ι e M σ H/\DV K ct ι M.length H d v/\adK K ct ι M H (g d e) Q
def tTs(K:Frag)(ct:Nat->Addr)(g:Tgs):TGs:=λvs σ H Q=>∃ι e M ds,Ws K ct ι e M σ H/\oZ K ct ι M.length H ds vs/\adK K ct ι M H (g ds e) Q
def SG(X:Cx)(ct:Nat->Addr)(tg:Expr)(g:Tg):Prop:=PG X tg (tT X.K ct g)
def SGs(X:Cx)(ct:Nat->Addr)(tg:List Expr)(g:Tgs):Prop:=YB X tg (tTs X.K ct g)
theorem PG.imp{tg:Expr}{t t':TG}(h:PG X tg t)(hi:∀v σ H Q,t' v σ H Q->t v σ H Q):PG X tg t':=λpins s σ H v u Q I r q=>h pins s σ H v u Q I r (hi v σ H Q q)
theorem YB.imp{tg:List Expr}{t t':TGs}(h:YB X tg t)(hi:∀v σ H Q,t' v σ H Q->t v σ H Q):YB X tg t':=λpins s σ H v u Q I r q=>h pins s σ H v u Q I r (hi v σ H Q q)
def gN(i:Nat):Tg:=λd e=>some (e.set i (some d))
theorem ir{i:Nat}{x:Str}(hN:X.N.Nodup)(hi:X.N[i]? = some x)(hx:Loc X.env.scope x)(hf:X.fn x=true\/X.env.scope.names.lookup x=some .local:=by first | exact .inl rfl | exact .inr rfl | assumption):SG X ct (.Name x pos) (gN i):=
 PG.imp (Qq hN hi hx hf) λv σ H Q ⟨ι,e,M,d,w,q,p⟩=>p _ (w.set i q)
def G6:Tgs:=λds e=>match ds with
 | []=>some e
 | _=>none
noncomputable def lW(g:Tg)(gs:Tgs):Tgs:=λds e=>match ds with
 | d::r=>(g d e).bind λe'=>gs r e'
 | []=>none
theorem Ga:SGs X ct [] G6:=YB.imp Wm λvs σ H Q ⟨ι,e,M,ds,w,q,p⟩=>by
 cases q with
 | nil=>exact⟨rfl,p σ w⟩
 | cons _ _=>exact p.elim
theorem lD{es:List Expr}{g:Tg}{gs:Tgs}(h1:SG X ct a g)(h2:SGs X ct es gs)
  (hs:(assignEach (a::es) X.env).map (·.2)=assign a X.env::(assignEach es X.env).map (·.2):=by rfl):SGs X ct (a::es) (lW g gs):=YB.imp (Sy h1 h2 hs) λvs σ H Q ⟨ι,e,M,ds,w,q,p⟩=>by
 cases q with
 | nil=>exact p.elim
 | @cons d x ds xs h hs=>
  refine⟨x,xs,rfl,ι,e,M,d,w,h,?_⟩
  simp only[lW]at p
  cases z:g d e with
  | none=>rw[z]at p;exact p.elim
  | some e'=>rw[z]at p;exact λσ' w'=>⟨ι,e',M,ds,w',hs,p⟩
noncomputable def gT(n:Nat)(gs:Tgs):Tg:=λd e=>match d with
 | .tup ds=>if ds.length=n then gs ds e else none
 | _=>none
theorem KY{es:List Expr}{k:Nat}{n:Nat}(hc:X.calm=true)(h:SGs X ct es gs)
  (hn:(assignEach es X.env).length=n:=by rfl) (hst:(assignEach es X.env).findIdx? (·.1)=none:=by rfl):SG X ct (.Tuple es k pos) (gT n gs):=PG.imp (Z_ hc h hn hst) λv σ H Q ⟨ι,e,M,d,w,q,p⟩=>by
 cases q with
 | @tup a xs ds hs hd=>
  simp only[gT]at p
  split at p
  ·rename_i hl
   exact⟨a,xs,rfl,zT.of hs,by rw[hd.length];exact hl,ι,e,M,ds,w,hd,p⟩
  ·exact p.elim
 | _=>exact p.elim
noncomputable def cU(m:ME)(g:Tg):MS:=λe M=>zE e (m e M) λd M1=>match g d e with
 | some e'=> .next e' M1
 | none=> .bad
theorem Qa(he:∀Q,tG (gQ X.K ct) X.K ct W m σ H Q->te σ H Q)(hg:∀v H Q,tT X.K ct g v σ H Q->tg v σ H Q)(h:tS X.K ct W (cU m g) T σ H):abj te tg T σ H:=by
 refine he _ ?_
 obtain⟨ι,e,M,w,p⟩:=zW (rel:=gQ X.K ct) (f:=λd e M1=>match g d e with
  | some e'=> .next e' M1
  | none=> .bad) h
 refine⟨ι,e,M,w,p.mono ?_⟩
 rintro v H1 ⟨dU,e1,M1,d,w1,q1,p1⟩
 refine hg _ _ _ ⟨dU,e1,M1,d,w1,q1,?_⟩
 cases z:g d e1 with
 | none=>rw[z]at p1;exact p1
 | some e'=>rw[z]at p1;exact λσ' w'=>p1 dU σ' H1 .refl w'
theorem Uv(he:SE X ct W a ma)(hg:SG X ct tg g)(hs:swapsWithSole [tg] a pos.line X.env=pure false:=by rfl)(hw:swappedStores [tg] a X.env=pure none:=by rfl)
  (h1:(assignEach [tg] X.env).map (·.2)=[assign tg X.env]:=by rfl):SS X ct W (.Assign [tg] a pos) (cU ma g):=PS.imp (aeD he hg hs hw h1) λT σ H q=>Qa (λ_ q=>q) (λ_ _ _ q=>q) q
theorem bx(hN:X.N.Nodup)(hi:X.N[i]? = some x)(hx:Loc X.env.scope x)(he:SE X ct W a ma)(hs:swapsWith a (some (.Name x pos')) pos.line X.env=pure false:=by rfl)(hf:X.fn x=true\/X.env.scope.names.lookup x=some .local:=by first | exact .inl rfl | exact .inr rfl | assumption):
  SS X ct W (.Assign [.Name x pos'] a pos) (cU ma (gN i)):=PS.imp (aez hN hi hx he hs hf) λT σ H q=>Qa (λ_ q=>q) (λv H Q ⟨ι,e,M,d,w,q,p⟩=>p _ (w.set i q)) q
noncomputable def lF(cs:List Nat)(f:Str)(d:D)(o:D)(M:Mem):Option Mem:=match o with
 | .ref n=>match M[n]? with
  | some (.ins c fs)=>if c∈cs/\fs.length<1000 then some (M.set n (.ins c (putD f d fs)))else none
  | _=>none
 | _=>none
noncomputable def d_(cs:List Nat)(mo mv:ME)(f:Str):MS:=λe M=>zE e (mv e M) λd M1=>zE e (mo e M1) λo M2=>match lF cs f d o M2 with
 | some M3=> .next e M3
 | none=> .bad
theorem Pz.put{K:Frag}{ι:Nat->Addr}{n:Nat}{H:Hp}{f:Str}{d:D}{v:V}(h:DV K ct ι n H d v):∀{fs:List (Str×D)} {vs:List (Str×V)},Pz K ct ι n H fs vs->Pz K ct ι n H (putD f d fs) (yP f v vs)
 | _,_,.nil=> .cons h .nil
 | _,_,.cons (x:=x) h' hs=>by
  unfold putD yP
  by_cases e:x=f
  ·rw[if_pos e,if_pos e];exact .cons h hs
  ·rw[if_neg e,if_neg e];exact .cons h' (hs.put h)
theorem cP{cs:List Nat}{f:Str}(hc:Nx X.K ct f cs)(ho:SE X ct W o mo)(hv:SE X ct W a ma)(hs:swapsWith a (some (.Attribute o f pos')) pos.line X.env=pure false:=by rfl):
  SS X ct W (.Assign [.Attribute o f pos'] a pos) (d_ cs mo ma f):=PS.imp (aeC ho hv hs) λT σ H q=>by
 obtain⟨ι,e,M,w,p⟩:=zW (rel:=gQ X.K ct) (f:=λd e M1=>zE e (mo e M1) λo M2=>match lF cs f d o M2 with
  | some M3=> .next e M3
  | none=> .bad) q
 refine⟨ι,e,M,w,p.mono ?_⟩
 rintro y H1 ⟨dU,e1,M1,d,w1,q1,p1⟩
 refine⟨dU,e1,M1,w1,?_⟩
 cases z:mo e1 M1 with
 | bad=>simp only[z,J_]at p1;exact p1
 | exc xc xd xM=>simp only[z,J9]at p1;exact λnR dx v H2 x r q1 q2=>p1 nR σ dx v H2 x (w1.ext x r) q1 q2
 | ok o' M2=>
  simp only[z,LR]at p1
  intro nR x H2 x2 r2 q2
  have p2:=p1.ext x2
  have w2:=w1.ext x2 r2
  have qd:=q1.mono x2
  cases q2 with
  | @ref n hn=>
   simp only[lF]at p2
   cases z0:M2[n]? with
   | none=>rw[z0]at p2;exact p2.elim
   | some ob=>
    cases ob with
    | lst _=>rw[z0]at p2;exact p2.elim
    | dk _=>rw[z0]at p2;exact p2.elim
    | dt _=>rw[z0]at p2;exact p2.elim
    | fd _=>rw[z0]at p2;exact p2.elim
    | ins c fs=>
     simp only[z0]at p2
     by_cases hcs:c∈cs/\fs.length<1000
     ·rw[if_pos hcs]at p2
      obtain⟨dx,vs,hH,fv⟩:=r2.obj n _ z0
      have x3:Ext X.K nR M2.length H2 nR M2.length (upd H2 (nR n) (.ins (ct c) dx (yP f y vs))):=Ext.chg hH (λ_ z=>nomatch z) (λ_ _ z=>nomatch z)
      refine⟨_,_,dx,vs,rfl,hH,(hc.get hcs.1).1,(hc.get hcs.1).2,by rw[fv.length];exact hcs.2,?_⟩
      have r3:=r2.chg (o:= .ins (ct c) dx (yP f y vs)) (x:= .ins c (putD f d fs)) hn hH (λ_ z=>nomatch z) (λ_ _ z=>nomatch z) ⟨dx,_,bB,(fv.put qd).mono x3⟩
      have x3':Ext X.K nR M2.length H2 nR (M2.set n (.ins c (putD f d fs))).length (upd H2 (nR n) (.ins (ct c) dx (yP f y vs))):=by rw[List.length_set];exact x3
      exact p2 nR σ _ x3' (w2.ext x3' r3)
     ·rw[if_neg hcs]at p2
      exact p2.elim
  | _=>exact p2.elim
structure Itm where
 src:Option (Nat×List D)
 ds:List D
def kZ(s:Option (Nat×List D))(M:Mem):Prop:=match s with
 | none=>True
 | some (n,ds)=>uO M n=some ds
noncomputable instance{s:Option (Nat×List D)}{M:Mem}:Decidable (kZ s M):=Classical.propDecidable _
def abF(K:Frag)(ct:Nat->Addr):(Nat->Addr)->Mem->Hp->Itm->It->Prop:=λι M H it J=>kZ it.src M/\it.ds.length<=sizeLine/\∀ι' M' H',Ext K ι M.length H ι' M'.length H'->Rl K ct ι' M' H'->kZ it.src M'->
 ∀i,(∀d,it.ds[i]? = some d->J.go i H'/\∀x H2,J.YD i H' x H2->Ext K ι' M'.length H' ι' M'.length H2/\Rl K ct ι' M' H2/\DV K ct ι' M'.length H2 d x)/\(it.ds.length<=i->J.stop i H')
abbrev MI:=Sl->Mem->Out Itm
def SI(X:Cx)(ct:Nat->Addr)(W:bJ)(tg e:Expr)(m:MI):Prop:=PI X tg e (tG (abF X.K ct) X.K ct W m)
theorem PI.imp{tg e:Expr}{t t':TI}(h:PI X tg e t)(hi:∀σ H R,t' σ H R->t σ H R):PI X tg e t':=λpins s σ H R I q=>h pins s σ H R I (hi σ H R q)
noncomputable def iM(src:Option (Nat×List D))(g:Tg)(b:MS):List D->Sl->Mem->rQ
 | [],e,M=>if kZ src M then .next e M else .bad
 | d::ds,e,M=>if kZ src M then(match g d e with
   | none=> .bad
   | some e1=>match b e1 M with
    | .next e2 M2=>iM src g b ds e2 M2
    | .cont e2 M2=>iM src g b ds e2 M2
    | .brk e2 M2=> .next e2 M2
    | .ret d M2=> .ret d M2
    | .exc c d e2 M2=> .exc c d e2 M2
    | .bad=> .bad)else .bad
noncomputable def JQ(mi:MI)(g:Tg)(b:MS):MS:=λe M=>zE e (mi e M) λit M1=>iM it.src g b it.ds e M1
theorem yO{body:List Stmt}(hp:X.Ok->PassesOwn (model X.prog X.w) X.A X.env X.xe)(hc:X.calm=true)(hi:SI X ct W tg iter mi)(hg:SG X ct tg g)(hb:SSs X ct W body b)
  (hs:∀x,foldedSetIterable iter X.env x=pure x:=by intro _;rfl):SS X ct W (.For tg iter body [] pos) (JQ mi g b):=PS.imp (λpins s σ H D I h=>abQ (hp I.ok) hc hi hg hb hs pins s σ H D I h) λT σ H q=>by
 obtain⟨ι,e,M,w,p⟩:=zW (rel:=abF X.K ct) (f:=λit e M1=>iM it.src g b it.ds e M1) q
 refine⟨ι,e,M,w,p.mono ?_⟩
 rintro J H1 ⟨dU,e1,M1,it,w1,q1,p1⟩
 obtain⟨ok1,_,step⟩:=q1
 refine⟨λi m σ' H'=>m=it.ds.length - i/\i<=it.ds.length/\∃ι' e' M',Ext X.K dU M1.length H1 ι' M'.length H'/\Ws X.K ct ι' e' M' σ' H'/\Ep X.K ct W ι' M'.length H' (iM it.src g b (it.ds.drop i) e' M') T,
  ⟨it.ds.length,by simp,Nat.zero_le _,dU,e1,M1,.refl,w1,by simpa using p1⟩,?_⟩
 rintro i m σ' H' ⟨rfl,hi,ι',e',M',x',w',p'⟩
 by_cases hlt:i<it.ds.length
 ·rw[List.drop_eq_getElem_cons hlt]at p'
  unfold iM at p'
  by_cases ok':kZ it.src M'
  ·rw[if_pos ok']at p'
   obtain⟨go,yl⟩:=(step ι' M' H' x' w'.rl ok' i).1 _ (zaa hlt)
   refine .inr ⟨go,λσ2 H2=>∃nR e2 M2,Ext X.K dU M1.length H1 nR M2.length H2/\Ws X.K ct nR e2 M2 σ2 H2/\Ep X.K ct W nR M2.length H2 (iM it.src g b (it.ds.drop (i+1)) e2 M2) T,?_,?_⟩
   ·rintro σ2 H2 ⟨nR,e2,M2,x2,w2,p2⟩
    exact⟨it.ds.length - (i+1),(),rfl,hlt,nR,e2,M2,x2,w2,p2⟩
   ·intro x H2 y
    obtain⟨x2,r2,dv⟩:=yl x H2 y
    have w2:=w'.ext x2 r2
    have p2:=p'.ext x2
    refine⟨ι',e',M',_,w2,dv,?_⟩
    cases z:g it.ds[i] e' with
    | none=>rw[z]at p2;exact p2
    | some e2=>
     rw[z]at p2
     intro σ3 w3
     refine⟨ι',e2,M',w3,?_⟩
     cases z3:b e2 M' with
     | next e4 M4=>simp only[z3]at p2;exact λι5 σ5 H5 x5 w5=>⟨ι5,e4,M4,(x'.trans x2).trans x5,w5,p2.ext x5⟩
     | cont e4 M4=>simp only[z3]at p2;exact λι5 σ5 H5 x5 w5=>⟨ι5,e4,M4,(x'.trans x2).trans x5,w5,p2.ext x5⟩
     | brk e4 M4=>simp only[z3]at p2;exact p2
     | ret d M4=>simp only[z3]at p2;exact p2
     | exc xc xd xe xM=>simp only[z3]at p2;exact p2
     | bad=>simp only[z3]at p2;exact p2
  ·rw[if_neg ok']at p'
   exact p'.elim
 ·have e0:i=it.ds.length:=()
  subst e0
  rw[List.drop_length]at p'
  unfold iM at p'
  by_cases ok':kZ it.src M'
  ·rw[if_pos ok']at p'
   exact .inl ⟨(step ι' M' H' x' w'.rl ok' _).2 (jS _),p' ι' σ' H' .refl w'⟩
  ·rw[if_neg ok']at p'
   exact p'.elim
noncomputable def Mz(d:D)(M1:Mem):Out Itm:=match d with
 | .ref n=>match uO M1 n with
  | some ds=> .ok ⟨some (n,ds),ds⟩ M1
  | none=> .bad
 | .cl ds=> .ok ⟨none,ds⟩ M1
 | .tup ds=> .ok ⟨none,ds⟩ M1
 | _=> .bad
def vH(m:ME):MI:=λe M=>(m e M).bind Mz
theorem aeE(hl:PE X l tl):PI X tg l (λσ H R=>tl σ H λx H1=>∃a,x= .ref a/\(((∃xs,De X.K H1 a xs)/\((∀xs,De X.K H1 a xs->xs.length<=sizeLine)->R (Itl X.K a) H1))\/((∃xs,zT X.K H1 a xs)/\((∀xs,zT X.K H1 a xs->xs.length<=sizeLine)->R (Itt X.K a) H1)))):=by
 intro pins s σ H R I h
 refine m_ (hl pins s σ H _ I h) ?_
 rintro v s1 ⟨x,H1,I1,r1,q1⟩
 obtain⟨a,e,q⟩:=q1
 subst e
 cases r1
 rcases q with⟨⟨xs,hq⟩,q⟩ | ⟨⟨xs,hq⟩,q⟩
 ·obtain⟨its,rv,p,hz⟩:=I1.list hq
  have q:=q λys hy=>by obtain⟨_,_,_,hz⟩:=I1.list hy;exact hz
  refine wpAny_pyIter_list p.isList ?_
  refine⟨s1.heap.objs.size,[s1.heap.objs.size],_,_,H1,rfl,I1.kept (t':=s1.toks) λb o e=>zD _ e,W9 a _,⟨_,yB _ rfl,rfl,rfl⟩,λb hb=> ?_,q⟩
  have e:b=s1.heap.objs.size:=by simpa using hb
  subst e
  exact I1.Tn (jS _) (I1.hok.fresh (jS _))
 ·obtain⟨its,rv,p,hz⟩:=I1.tuple hq
  have q:=q λys hy=>by obtain⟨_,_,_,hz⟩:=I1.tuple hy;exact hz
  refine wpAny_pyIter_tuple (show s1.heap.IsTuple a its.toArray from p) ?_
  refine⟨s1.heap.objs.size,[s1.heap.objs.size],_,_,H1,rfl,I1.kept (t':=s1.toks) λb o e=>zD _ e,Uo a _,⟨_,yB _ rfl,rfl,rfl⟩,λb hb=> ?_,q⟩
  have e:b=s1.heap.objs.size:=by simpa using hb
  subst e
  exact I1.Tn (jS _) (I1.hok.fresh (jS _))
theorem Tf{K:Frag}{ι:Nat->Addr}{M:Mem}{H:Hp}{a:Addr}{xs:List V}{ds:List D}(R:Rl K ct ι M H)(hq:De K H a xs)(hd:oZ K ct ι M.length H ds xs)(i:Nat):
  (∀d,ds[i]? = some d->(Itl K a).go i H/\∀x H2,(Itl K a).YD i H x H2->Ext K ι M.length H ι M.length H2/\Rl K ct ι M H2/\DV K ct ι M.length H2 d x)/\(ds.length<=i->(Itl K a).stop i H):=by
 refine⟨λd e=> ?_,λh=>⟨xs,hq,by rw[hd.length];exact h⟩⟩
 obtain⟨v,hv,dv⟩:=hd.at e
 refine⟨⟨xs,v,hq,hv⟩,λx H2 y=> ?_⟩
 obtain⟨e2,y⟩:=y
 subst e2
 have z:=y xs hq
 rw[hv]at z
 cases z
 exact⟨.refl,R,dv⟩
theorem aaC{K:Frag}{ι:Nat->Addr}{M:Mem}{H:Hp}{a:Addr}{xs:List V}{ds:List D}(R:Rl K ct ι M H)(hq:zT K H a xs)(hd:oZ K ct ι M.length H ds xs)(i:Nat):
  (∀d,ds[i]? = some d->(Itt K a).go i H/\∀x H2,(Itt K a).YD i H x H2->Ext K ι M.length H ι M.length H2/\Rl K ct ι M H2/\DV K ct ι M.length H2 d x)/\(ds.length<=i->(Itt K a).stop i H):=by
 refine⟨λd e=> ?_,λh=>⟨xs,hq,by rw[hd.length];exact h⟩⟩
 obtain⟨v,hv,dv⟩:=hd.at e
 refine⟨⟨xs,v,hq,hv⟩,λx H2 y=> ?_⟩
 obtain⟨e2,y⟩:=y
 subst e2
 have z:=y xs hq
 rw[hv]at z
 cases z
 exact⟨.refl,R,dv⟩
theorem wU{tg:Expr}(hl:SE X ct W a ma):SI X ct W tg a (vH ma):=PI.imp (aeE hl) λσ H R q=>by
 obtain⟨ι,e,M,w,p⟩:=di (iR:=gQ X.K ct) (f:=λd _ M1=>Mz d M1) q
 refine⟨ι,e,M,w,p.mono ?_⟩
 rintro v H1 ⟨dU,e1,M1,d,w1,q1,p1⟩
 cases q1 with
 | @ref n hn=>
  dsimp only[Mz]at p1
  cases z:uO M1 n with
  | none=>rw[z]at p1;exact p1.elim
  | some ds=>
   rw[z]at p1
   obtain⟨xs,hH,hd⟩:=w1.rl.obj n _ (wN.mp z)
   refine⟨_,rfl,.inl ⟨⟨xs,De.of hH⟩,λhz=>p1 dU _ H1 .refl w1.rl ⟨z,by rw[<-hd.length];exact hz xs (De.of hH),λnR M2 H2 x2 r2 ok2 i=> ?_⟩⟩⟩
   obtain⟨xs2,hH2,hd2⟩:=r2.obj n _ (wN.mp ok2)
   rw[<-x2.same n hn]
   exact Tf r2 (De.of hH2) hd2 i
 | cl h1 h2=>exact⟨_,rfl,.inl ⟨⟨_,h1.sq⟩,λhz=>p1 dU _ H1 .refl w1.rl ⟨trivial,by rw[<-h2.length];exact hz _ h1.sq,λnR M2 H2 x2 r2 ok2 i=>Tf r2 (x2.gW _ _ h1).sq (h2.mono x2) i⟩⟩⟩
 | tup h1 h2=>exact⟨_,rfl,.inr ⟨⟨_,zT.of h1⟩,λhz=>p1 dU _ H1 .refl w1.rl ⟨trivial,by rw[<-h2.length];exact hz _ (zT.of h1),λnR M2 H2 x2 r2 ok2 i=>aaC r2 (zT.of (x2.tup _ _ h1)) (h2.mono x2) i⟩⟩⟩
 | _=>exact p1.elim
def zR(lo:Int)(n:Nat):List D:=(List.range n).map λ(k:Nat)=>D.int (lo+k)
noncomputable def JT(ds:List D)(M1:Mem):Out Itm:=match ds with
 | [.int j]=>if -(2 ^ 62)<=j/\j<2 ^ 24 then .ok ⟨none,zR 0 j.toNat⟩ M1 else .bad
 | _=> .bad
def Jq(ms:MA):MI:=λe M=>(ms e M).bind JT
noncomputable def Xn(ds:List D)(M1:Mem):Out Itm:=match ds with
 | [.int i,.int j]=>if -(2 ^ 62)<=i/\i<2 ^ 62/\ -(2 ^ 62)<=j/\j<2 ^ 62/\j - i<=2 ^ 24 then .ok ⟨none,zR i (j - i).toNat⟩ M1 else .bad
 | _=> .bad
def aas(ms:MA):MI:=λe M=>(ms e M).bind Xn
theorem Te{K:Frag}{ι:Nat->Addr}{M:Mem}{H:Hp}(R:Rl K ct ι M H)(lo:Int)(n i:Nat):
  (∀d,(zR lo n)[i]? = some d->(Itr lo n).go i H/\∀x H2,(Itr lo n).YD i H x H2->Ext K ι M.length H ι M.length H2/\Rl K ct ι M H2/\DV K ct ι M.length H2 d x)/\((zR lo n).length<=i->(Itr lo n).stop i H):=by
 refine⟨λd e=> ?_,λh=>(by simpa[zR]using h:n<=i)⟩
 unfold zR at e
 rw[zaj]at e
 obtain⟨k,hk,rfl⟩:=Option.map_eq_some_iff.mp e
 obtain⟨hi,e2⟩:=List.getElem?_eq_some_iff.mp hk
 have hi':i<n:=by simpa using hi
 have ek:k=i:=by rw[<-e2];simp
 subst ek
 refine⟨hi',λx H2 y=> ?_⟩
 obtain⟨e3,y⟩:=y
 subst e3 y
 exact⟨.refl,R,.int _⟩
theorem Vm:(2 ^ 24:Nat)<=sizeLine:=by rw[sizeLine_eq];decide
theorem wM(hg:Gl X "range")(hm:X.mg "range" = none)(ha:SA X ct W [a] ms)(hs:starEach [a] X.env=[(false,eval a X.env)]:=by rfl):SI X ct W tg (.Call (.Name "range" p) [a] [] pos) (Jq ms):=PI.imp (Xx hg hm ha hs) λσ H R q=>by
 obtain⟨ι,e,M,w,p⟩:=di (iR:=Ie X.K ct) (f:=λds _ M1=>JT ds M1) q
 refine⟨ι,e,M,w,p.mono ?_⟩
 rintro v H1 ⟨dU,e1,M1,d,w1,q1,p1⟩
 dsimp only[JT]at p1
 split at p1
 ·rename_i j
  obtain⟨v,rfl,q2⟩:=Jb q1
  cases q_ q2
  split at p1
  ·rename_i hj
   have hz:=Vm
   exact⟨j,rfl,hj.1,(),p1 dU _ H1 .refl w1.rl ⟨trivial,by simp[zR];omega,λnR M2 H2 x2 r2 ok2 i=>Te r2 0 _ i⟩⟩
  ·exact p1.elim
 ·exact p1.elim
theorem Xd(hg:Gl X "range")(hm:X.mg "range" = none)(ha:SA X ct W [a,b] ms)(hs:starEach [a,b] X.env=[(false,eval a X.env),(false,eval b X.env)]:=by rfl)(hs2:starEach [b] X.env=[(false,eval b X.env)]:=by rfl):SI X ct W tg (.Call (.Name "range" p) [a,b] [] pos) (aas ms):=PI.imp (Xw hg hm ha hs hs2) λσ H R q=>by
 obtain⟨ι,e,M,w,p⟩:=di (iR:=Ie X.K ct) (f:=λds _ M1=>Xn ds M1) q
 refine⟨ι,e,M,w,p.mono ?_⟩
 rintro v H1 ⟨dU,e1,M1,d,w1,q1,p1⟩
 dsimp only[Xn]at p1
 split at p1
 ·rename_i i j
  obtain⟨v,v',rfl,q2,q3⟩:=acF q1
  cases q_ q2
  cases q_ q3
  split at p1
  ·rename_i hj
   have hz:=Vm
   exact⟨i,j,rfl,⟨hj.1,hj.2.1,hj.2.2.1,hj.2.2.2.1⟩,p1 dU _ H1 .refl w1.rl ⟨trivial,by simp[zR];omega,λnR M2 H2 x2 r2 ok2 k=>Te r2 i _ k⟩⟩
  ·exact p1.elim
 ·exact p1.elim
noncomputable def Kw(c:MT)(b:MS):Nat->Sl->Mem->rQ
 | 0,_,_=> .bad
 | n+1,e,M=>match c e M with
  | .bad=> .bad
  | .exc c d M1=> .exc c d e M1
  | .ok false M1=> .next e M1
  | .ok true M1=>match b e M1 with
   | .next e2 M2=>Kw c b n e2 M2
   | .cont e2 M2=>Kw c b n e2 M2
   | .brk e2 M2=> .next e2 M2
   | .ret d M2=> .ret d M2
   | .exc c d e2 M2=> .exc c d e2 M2
   | .bad=> .bad
theorem Kv:∀(n:Nat) (e:Sl) (M:Mem),Kw c b n e M≠ .bad->Kw c b (n+1) e M=Kw c b n e M
 | 0,_,_,h=>absurd rfl h
 | n+1,e,M,h=>by
  unfold Kw at h ⊢
  cases z:c e M with
  | bad=>rfl
  | exc _ _ _=>rfl
  | ok k M1=>
   cases k with
   | false=>rfl
   | true=>
    simp only[z]at h ⊢
    cases z2:b e M1 with
    | next e2 M2=>simp only[z2]at h ⊢;exact Kv n e2 M2 h
    | cont e2 M2=>simp only[z2]at h ⊢;exact Kv n e2 M2 h
    | brk e2 M2=>rfl
    | ret d M2=>rfl
    | exc _ _ _ _=>rfl
    | bad=>rfl
theorem Uj(h:Kw c b n e M≠ .bad):∀k,Kw c b (n+k) e M=Kw c b n e M
 | 0=>rfl
 | k+1=>by
  have ih:=Uj h k
  rw[<-Nat.add_assoc,Kv _ _ _ (by rw[ih];exact h)]
  exact ih
open Classical in
def H9(c:MT)(b:MS):MS:=λe M=>if h:∃n,Kw c b n e M≠ .bad then Kw c b (Classical.choose h) e M else .bad
theorem HY(h:Kw c b n e M=o)(ho:o≠ .bad):H9 c b e M=o:=by
 have ex:∃n,Kw c b n e M≠ .bad:=⟨n,by rw[h];exact ho⟩
 unfold H9
 rw[dif_pos ex]
 have h1:=Classical.choose_spec ex
 rcases Nat.le_total n (Classical.choose ex)with l | l
 ·obtain⟨k,hk⟩:=Nat.exists_eq_add_of_le l
  rw[hk,Uj (by rw[h];exact ho) k,h]
 ·obtain⟨k,hk⟩:=Nat.exists_eq_add_of_le l
  rw[<-h,hk,Uj h1 k]
theorem R7(hp:X.Ok->PassesOwn (model X.prog X.w) X.A X.env X.xe)(hc:YH X ct W c mc)(hb:SSs X ct W body b):SS X ct W (.While c body [] pos) (H9 mc b):=PS.imp (λpins s σ H D I h=>Z4 (hp I.ok) hc hb pins s σ H D I h) λT σ H ⟨ι,e,M,w,p⟩=>by
 unfold H9 at p
 split at p
 ·rename_i ex
  refine⟨λm σ' H'=>∃ι' e' M',Ws X.K ct ι' e' M' σ' H'/\Ep X.K ct W ι' M'.length H' (Kw mc b m e' M') T,⟨_,ι,e,M,w,p⟩,?_⟩
  rintro m σ' H' ⟨ι',e',M',w',p'⟩
  cases m with
  | zero=>exact p'.elim
  | succ m=>
   refine⟨ι',e',M',w',?_⟩
   unfold Kw at p'
   cases z:mc e' M' with
   | bad=>rw[z]at p';exact p'
   | exc xc xd xM=>rw[z]at p';exact λnR dx v H2 x r q1 q2=>p' nR σ' dx v H2 x (w'.ext x r) q1 q2
   | ok k M1=>
    intro nR k2 H2 x2 r2 ek
    have Ti:k=k2:=ek;subst Ti
    have w2:=w'.ext x2 r2
    cases k with
    | false=>rw[z]at p';exact p' nR σ' H2 x2 w2
    | true=>
     simp only[z]at p'
     have p2:=p'.ext x2
     show ∃N:St->Hp->Prop,_
     refine⟨λσ3 H3=>∃RK e3 M3,Ws X.K ct RK e3 M3 σ3 H3/\Ep X.K ct W RK M3.length H3 (Kw mc b m e3 M3) T,λσ3 H3 q3=>⟨m,Nat.lt_succ_self _,q3⟩,nR,e',M1,w2,?_⟩
     cases z3:b e' M1 with
     | next e4 M4=>simp only[z3]at p2;exact λι5 σ5 H5 x5 w5=>⟨ι5,e4,M4,w5,p2.ext x5⟩
     | cont e4 M4=>simp only[z3]at p2;exact λι5 σ5 H5 x5 w5=>⟨ι5,e4,M4,w5,p2.ext x5⟩
     | brk e4 M4=>simp only[z3]at p2;exact p2
     | ret d M4=>simp only[z3]at p2;exact p2
     | exc xc xd xe xM=>simp only[z3]at p2;exact p2
     | bad=>simp only[z3]at p2;exact p2
 ·exact p.elim
def rO(js:List Nat)(e:Sl):Sl:=js.map λi=>(e[i]?).join
def Out.noX{α:Type}(o:Out α):Out α:=match o with
 | .ok a M=> .ok a M
 | _=> .bad
@[simp] theorem Ez{α:Type}(a:α)(M:Mem):(Out.ok a M).noX= .ok a M:=id rfl
@[simp] theorem Kc{α:Type}:(Out.bad:Out α).noX= .bad:=id rfl
@[simp] theorem Ka{α:Type}(c:Nat)(d:D)(M:Mem):(Out.exc c d M:Out α).noX= .bad:=id rfl
def sY(src:Option (Nat×List D))(tt:MT)(te:ME)(ce:Sl):List D->List D->Mem->Out D
 | [],ys,M=>if kZ src M then .ok (.ref M.length) (M++[.lst ys])else .bad
 | d::ds,ys,M=>if kZ src M then(tt (some d::ce) M).noX.bind λk M1=>if k=true then(te (some d::ce) M1).noX.bind λy M2=>sY src tt te ce ds (ys++[y]) M2 else sY src tt te ce ds ys M1 else .bad
def vI(js:List Nat)(mi:MI)(tt:MT)(te:ME):ME:=λe M=>(mi e M).bind λit M1=>sY it.src tt te (rO js e) it.ds [] M1
def STs(X:Cx)(ct:Nat->Addr)(W:bJ)(ifs:List Expr)(m:MT):Prop:=PTs X ifs (tG JV X.K ct W m)
def CK:MT:=λ_ M=> .ok true M
theorem FZ:STs X ct W [] CK:=λpins s σ H Q I ⟨ι,e,M,w,p⟩=>abM pins s σ H Q I (p ι true H .refl w.rl rfl)
theorem FW(h:YH X ct W c m):STs X ct W [c] m:=abL h
theorem Ws.caps{K:Frag}{ι:Nat->Addr}{e:Sl}{M:Mem}{σ:St}{H:Hp}{d:D}{v:V}(w:Ws K ct ι e M σ H)(js:List Nat)(h:DV K ct ι M.length H d v):Ws K ct ι (some d::rO js e) M (some v::L2.caps js σ) H:=by
 refine⟨w.rl,by simp[rO,L2.caps],λi x hx=> ?_⟩
 cases i with
 | zero=>simp at hx;subst hx;exact⟨v,rfl,h⟩
 | succ i=>
  simp only[List.getElem?_cons_succ,rO,zaj]at hx
  obtain⟨j,hj,ej⟩:=Option.map_eq_some_iff.mp hx
  cases z:e[j]? with
  | none=>rw[z]at ej;cases ej
  | some o=>
   rw[z]at ej
   cases(show o=some x from ej)
   obtain⟨u,hu,du⟩:=w.env j x z
   refine⟨u,?_,du⟩
   simp only[List.getElem?_cons_succ,L2.caps,zaj,hj,Option.map_some,hu]
   rfl
theorem R5(h:tG (gQ X.K ct) X.K ct W (vI js mi tt te) σ H Q):Zg js (tG (abF X.K ct) X.K ct W mi) (tG JV X.K ct W0 tt) (tG (gQ X.K ct) X.K ct W0 te) σ H Q:=by
 obtain⟨ι,e,M,w,p⟩:=di (iR:=abF X.K ct) (f:=λit e M1=>sY it.src tt te (rO js e) it.ds [] M1) h
 refine⟨ι,e,M,w,p.mono ?_⟩
 rintro J H1 ⟨dU,e1,M1,it,w1,q1,p1⟩
 obtain⟨ok1,hz,step⟩:=q1
 refine⟨λi m ys H'=>m=it.ds.length - i/\i<=it.ds.length/\ys.length<=i/\∃ι' M' ds',Ext X.K dU M1.length H1 ι' M'.length H'/\Rl X.K ct ι' M' H'/\oZ X.K ct ι' M'.length H' ds' ys/\k_ (gQ X.K ct) X.K ct (wAt W σ) ι' M'.length H' (sY it.src tt te (rO js e1) (it.ds.drop i) ds' M') Q,
  ⟨it.ds.length,by simp,Nat.zero_le _,jS _,dU,M1,[],.refl,w1.rl,.nil,by simpa using p1⟩,?_⟩
 rintro i m ys H' ⟨rfl,hi,hy,ι',M',ds',x',r',dy,p'⟩
 by_cases hlt:i<it.ds.length
 ·rw[List.drop_eq_getElem_cons hlt]at p'
  unfold sY at p'
  by_cases ok':kZ it.src M'
  ·rw[if_pos ok']at p'
   obtain⟨go,yl⟩:=(step ι' M' H' x' r' ok' i).1 _ (zaa hlt)
   refine .inr ⟨go,λys2 H2=>ys2.length<=i+1/\∃nR M2 ds2,Ext X.K dU M1.length H1 nR M2.length H2/\Rl X.K ct nR M2 H2/\oZ X.K ct nR M2.length H2 ds2 ys2/\k_ (gQ X.K ct) X.K ct (wAt W σ) nR M2.length H2 (sY it.src tt te (rO js e1) (it.ds.drop (i+1)) ds2 M2) Q,?_,?_⟩
   ·rintro ys2 H2 ⟨hl2,q2⟩
    exact⟨(),it.ds.length - (i+1),(),rfl,hlt,hl2,q2⟩
   ·intro x H2 y
    obtain⟨x2,r2,dv⟩:=yl x H2 y
    have w2:Ws X.K ct ι' (some it.ds[i]::rO js e1) M' (some x::L2.caps js σ) H2:=(w1.ext (x'.trans x2) r2).caps js dv
    have p2:=p'.ext x2
    refine⟨ι',_,M',w2,?_⟩
    cases z:tt (some it.ds[i]::rO js e1) M' with
    | bad=>simp only[z,Kc,Out.je]at p2;exact p2
    | exc xc xd xM=>simp only[z,Ka,Out.je]at p2;exact p2.elim
    | ok k M3=>
     simp only[z,Ez,Out.fc]at p2
     intro RK k3 H3 x3 r3 ek
     have Ti:k=k3:=ek;subst Ti
     have p3:=p2.ext x3
     have w3:=w2.ext x3 r3
     have dy3:=(dy.mono x2).mono x3
     cases k with
     | false=>exact⟨(),RK,M3,ds',(x'.trans x2).trans x3,r3,dy3,p3⟩
     | true=>
      simp only[if_true]at p3 ⊢
      refine⟨RK,_,M3,w3,?_⟩
      cases z4:te (some it.ds[i]::rO js e1) M3 with
      | bad=>simp only[z4,Kc,Out.je]at p3;exact p3
      | exc xc xd xM=>simp only[z4,Ka,Out.je]at p3;exact p3.elim
      | ok yy M4=>
       simp only[z4,Ez,Out.fc]at p3
       intro ι4 v4 H4 x4 r4 d4
       exact⟨by rw[List.length_append];simp;omega,ι4,M4,ds'++[yy],((x'.trans x2).trans x3).trans x4,r4,(dy3.mono x4).append (.cons d4 .nil),p3.ext x4⟩
  ·rw[if_neg ok']at p'
   exact p'.elim
 ·have e0:i=it.ds.length:=()
  subst e0
  rw[List.drop_length]at p'
  unfold sY at p'
  by_cases ok':kZ it.src M'
  ·rw[if_pos ok']at p'
   exact .inl ⟨(step ι' M' H' x' r' ok' _).2 (jS _),(),λpp hp=>wW r' dy hp p'⟩
  ·rw[if_neg ok']at p'
   exact p'.elim
variable{elt iter:Expr}{ifs:List Expr}{scope:Scope}{x:Str}{px:Pos}{mi:MI}{tt:MT}{te:ME}
theorem Dg(hc:X.calm=true)(cs:List Str)(js:List Nat)(hi:SI X ct W (.Name x px) iter mi)(hcap:xK X scope cs js)(ht:∀cl C fp s H,STs (fY X scope cl C (x::cs) fp s H) ct W0 ifs tt)(he:∀cl C fp s H,SE (fY X scope cl C (x::cs) fp s H) ct W0 elt te)
  (hall:∀y∈scope.names,y.2= .free->y.1∈cs) (hcell:∀y∈scope.names,y.2≠ .cell) (hnames:∀y∈scope.names,y.2= .local->scope.names.lookup y.1=some .local) (hnd:(x::cs).Nodup)
  (hkind:scope.kind= .function:=by rfl) (hx:scope.names.lookup x=some .local:=by rfl) (hs:∀v,foldedSetIterable iter X.env v=pure v:=by intro _;rfl):
  SE X ct W (.ListComp elt [⟨.Name x px,iter,ifs,0⟩] scope pos) (vI js mi tt te):=
 ig (abX (tt:=tG JV X.K ct W0 tt) (te:=tG (gQ X.K ct) X.K ct W0 te) hc cs js hi hcap (λcl C fp s H=>ht cl C fp s H) (λcl C fp s H=>he cl C fp s H) hall hcell hnames hnd hkind hx hs) λσ H Q q=>R5 q
theorem Qc{y:Str}{py spos:Pos}{k:Nat}(hc:X.calm=true)(cs:List Str)(js:List Nat)(hN:X.N.Nodup)(hk:X.N[k]? = some y)(hy:X.env.scope.names.lookup y=some .local)(hi:SI X ct W (.Name x px) iter mi)(hcap:xK X scope cs js)
  (ht:∀cl C fp s H,STs (fY X scope cl C (x::cs) fp s H) ct W0 ifs tt) (he:∀cl C fp s H,SE (fY X scope cl C (x::cs) fp s H) ct W0 elt te)
  (hall:∀y∈scope.names,y.2= .free->y.1∈cs) (hcell:∀y∈scope.names,y.2≠ .cell) (hnames:∀y∈scope.names,y.2= .local->scope.names.lookup y.1=some .local) (hnd:(x::cs).Nodup)
  (hsw:swapsWith (.ListComp elt [⟨.Name x px,iter,ifs,0⟩] scope pos) (some (.Name y py)) spos.line X.env=pure true:=by rfl)
  (hkind:scope.kind= .function:=by rfl) (hx:scope.names.lookup x=some .local:=by rfl) (hs:∀v,foldedSetIterable iter X.env v=pure v:=by intro _;rfl):
  SS X ct W (.Assign [.Name y py] (.ListComp elt [⟨.Name x px,iter,ifs,0⟩] scope pos) spos) (cU (vI js mi tt te) (gN k)):=
 PS.imp (abT (tt:=tG JV X.K ct W0 tt) (te:=tG (gQ X.K ct) X.K ct W0 te) hc cs js hN hk hy hi hcap (λcl C fp s H=>ht cl C fp s H) (λcl C fp s H=>he cl C fp s H) hall hcell hnames hnd hsw hkind hx hs) λT σ H q=>Qa (λ_ q=>R5 q) (λv H Q ⟨ι,e,M,d,w,q,p⟩=>p _ (w.set k q)) q
end
def slots(n:Nat)(ds:List D):Sl:=ds.map some++List.replicate (n - ds.length) none
noncomputable def aY(n:Nat)(b:MS):Fn:=λds M=>match b (slots n ds) M with
 | .ret d M'=> .ok d M'
 | .next _ M'=> .ok .non M'
 | .exc c d _ M'=> .exc c d M'
 | _=> .bad
theorem Ws.start{K:Frag}{ct ι:Nat->Addr}{M:Mem}{H:Hp}{ds:List D}{vs:List V}(N:List Str)(R:Rl K ct ι M H)(h:oZ K ct ι M.length H ds vs):Ws K ct ι (slots N.length ds) M (L2.start N vs) H:=by
 refine⟨R,by simp[slots,L2.start,h.length],λi d hd=> ?_⟩
 unfold slots at hd
 by_cases z:i<ds.length
 ·rw[zac (by simpa using z),zaj]at hd
  obtain⟨d',e1,e2⟩:=Option.map_eq_some_iff.mp hd
  cases e2
  obtain⟨v,hv,dv⟩:=h.at e1
  refine⟨v,?_,dv⟩
  unfold L2.start
  rw[zac (by rw[zak,h.length];exact z),zaj,hv]
  rfl
 ·rw[zab (by simpa using z),List.getElem?_replicate]at hd
  split at hd<;>cases hd
section
variable{P:Program}{w:World}{K:Frag}{mg:Str->Option Value}{base:Heap}{ct:Nat->Addr}
theorem akZ{n ar:Nat}{b:MS}{x qual:Str}{st:Stmt}{dV:Value}{f:Addr}{fd:FuncData}{N ps:List Str}{k:Nat}(F:bw K x qual st dV f fd)(S:uI N ps (az st))(hn:N.length=n)(har:ps.length=ar)
  (hbody:∀(cdv:Value) (A:Around) (outer:List PySem.Env) (s:Shared) (H:Hp) (E:XK) (W:bJ),lY k (A.deeper (envOfC qual (az st) s.heap.objs.size f cdv))->
   SSs ((t7 (zq P w) P w K mg base N qual (az st) f cdv A outer s H E).wish (j_ (t7 (zq P w) P w K mg base N qual (az st) f cdv A outer s H E) W)) ct W (aD st) b):
  lg P w K mg base (zq P w) (k+1) f fd ps (spS K ct (aY n b) ar):=by
 subst hn har
 refine F.okX S (λvs H Q E ⟨ι,ds,M,hl,_,hd,_⟩=>by rw[hd.length,hl]) ?_
 rintro cdv A outer s H vs Q E hr ⟨ι,ds,M,hl,R,hd,p⟩
 refine⟨_,λC dx _ H'=>E (.ref C) (some dx) H',λC dx σ H' z=>z,hbody cdv A outer s H E _ hr,ι,slots N.length ds,M,Ws.start N R hd,?_⟩
 unfold aY at p
 cases z:b (slots N.length ds) M with
 | ret d M'=>rw[z]at p;exact λι' v H' x r q=> .inl (p ι' v H' x r q)
 | next e M'=>rw[z]at p;exact λι' σ' H' x w'=> .inl (p ι' .non H' x w'.rl .non)
 | exc c d e M'=>rw[z]at p;exact λι' σ' dx v H' x w' q1 q2=>p ι' dx v H' x w'.rl q1 q2
 | brk e M'=>rw[z]at p;exact p.elim
 | cont e M'=>rw[z]at p;exact p.elim
 | bad=>rw[z]at p;exact p.elim
end
theorem akV{P:Program}{w:World}{K:Frag}{mg:Str->Option Value}{base:Heap}{k:Nat}{f:Addr}{fd:FuncData}{ps:List Str}{sp:Sp}(F:lg P w K mg base (zq P w) k f fd ps sp):lg P w K mg base CX0 k f fd ps (λvs H Q _=>sp vs H Q E0):=
 ⟨λvs H Q _ h=>F.len vs H Q E0 h,λA outer s H args us vs Q E hr he hb hv hs=>codeAny_mono (F.run A outer s H args us vs Q E0 hr he hb hv hs) λr s' hq=>by
  match r,hq with
  | .error e,hq=>obtain⟨_,_,_,_,_,_,_,_,_,_,_,_,_,_,_,z⟩:=hq;exact z.elim
  | .ok (.ret u),hq=>exact hq⟩
theorem ni(hst:Y.stack=Y.env::Y.outer)(hf:Y.env.frame=some Y.env.locals)(ok:(Y.wish (j_ Y W)).Ok):PassesOwn (model Y.prog Y.w) Y.A Y.env (j_ Y W):=λev s' h=>j_.XF hst hf ok.frames ev s' h
theorem Tk.none:Tk X W0:=λ_ _ ⟨_,_,_,_,_,_,_,_,_,_,_,_,_,_,z⟩=>z.elim
theorem Tr{K:Frag}{ct ι:Nat->Addr}{n:Nat}{H:Hp}:∀ns:List Int,oZ K ct ι n H (ns.map D.int) (ns.map V.int)
 | []=> .nil
 | i::r=> .cons (.int i) (Tr r)
def adZ(K:Frag)(ct:Nat->Addr):Sp:=λvs H Q _=>∃(a:Addr) (ns:List Int),vs=[.ref a]/\YK K H a (ns.map V.int)/\ns.length<=63/\T5 ct H/\∀H',Q (.bl true) H'
theorem afi{P:Program}{w:World}{K:Frag}{mg:Str->Option Value}{base:Heap}{ct:Nat->Addr}{k:Nat}{f:Addr}{fd:FuncData}{x:Str}{fn:Fn}(F:lg P w K mg base (zq P w) k f fd [x] (spS K ct fn 1))
  (h:∀ns:List Int,ns.length<=63->∃M,fn [.cl (ns.map D.int)] []= .ok (.bl true) M):lg P w K mg base CX0 k f fd [x] (adZ K ct):=by
 refine(akV F).imp ?_
 rintro vs H Q E ⟨a,ns,e,hf,hl,ht,q⟩
 subst e
 obtain⟨M,e⟩:=h ns hl
 refine⟨λ_=>0,[.cl (ns.map D.int)],[],rfl,⟨λi j hi=>absurd hi (Nat.not_lt_zero _),λi o h=>by simp at h,ht⟩,.cons (.cl hf (Tr ns)) .nil,?_⟩
 rw[e]
 intro ι' v H' _ _ dv
 cases dv
 exact q H'
section
variable{e:Sl}{M:Mem}
@[simp low] theorem apa(h:e[i]? = some (some d)):au i e M= .ok d M:=j5 h
@[simp] theorem aaq:au 0 (some d::r) M= .ok d M:=j5 rfl
@[simp] theorem ax9:au 1 (o0::some d::r) M= .ok d M:=j5 rfl
@[simp] theorem ax8:au 2 (o0::o1::some d::r) M= .ok d M:=j5 rfl
@[simp] theorem ax7:au 3 (o0::o1::o2::some d::r) M= .ok d M:=j5 rfl
@[simp] theorem ax6:au 4 (o0::o1::o2::o3::some d::r) M= .ok d M:=j5 rfl
@[simp] theorem ax5:au 5 (o0::o1::o2::o3::o4::some d::r) M= .ok d M:=j5 rfl
@[simp] theorem ax4:au 6 (o0::o1::o2::o3::o4::o5::some d::r) M= .ok d M:=j5 rfl
@[simp] theorem ax3:au 7 (o0::o1::o2::o3::o4::o5::o6::some d::r) M= .ok d M:=j5 rfl
@[simp] theorem ax2:au 8 (o0::o1::o2::o3::o4::o5::o6::o7::some d::r) M= .ok d M:=j5 rfl
@[simp] theorem ax1:au 9 (o0::o1::o2::o3::o4::o5::o6::o7::o8::some d::r) M= .ok d M:=j5 rfl
@[simp] theorem avC:au 10 (o0::o1::o2::o3::o4::o5::o6::o7::o8::o9::some d::r) M= .ok d M:=j5 rfl
@[simp] theorem avB:au 11 (o0::o1::o2::o3::o4::o5::o6::o7::o8::o9::o10::some d::r) M= .ok d M:=j5 rfl
@[simp] theorem avA:au 12 (o0::o1::o2::o3::o4::o5::o6::o7::o8::o9::o10::o11::some d::r) M= .ok d M:=j5 rfl
@[simp] theorem avz:au 13 (o0::o1::o2::o3::o4::o5::o6::o7::o8::o9::o10::o11::o12::some d::r) M= .ok d M:=j5 rfl
@[simp] theorem avy:au 14 (o0::o1::o2::o3::o4::o5::o6::o7::o8::o9::o10::o11::o12::o13::some d::r) M= .ok d M:=j5 rfl
@[simp] theorem avx:au 15 (o0::o1::o2::o3::o4::o5::o6::o7::o8::o9::o10::o11::o12::o13::o14::some d::r) M= .ok d M:=j5 rfl
@[simp] theorem aya:mC d e M= .ok d M:=id rfl
def bd2{α β γ:Type}(op:α->β->Mem->Out γ)(mb:Sl->Mem->Out β)(e:Sl)(d:α)(M:Mem):Out γ:=(mb e M).bind (op d)
@[simp high] theorem axh{α β γ:Type}{op:α->β->Mem->Out γ}{mb:Sl->Mem->Out β}{d:α}:(Out.ok d M).bind (bd2 op mb e)=(mb e M).bind (op d):=id rfl
@[simp] theorem apk:aM op ma mb e M=(ma e M).bind (bd2 op mb e):=id rfl
def cN{β:Type}(a b:Sl->Mem->β)(e:Sl)(k:Bool)(M:Mem):β:=if k=true then a e M else b e M
@[simp] theorem ay3{β:Type}{a b:Sl->Mem->β}{k:Bool}:cN a b e k M=if k=true then a e M else b e M:=id rfl
@[simp high] theorem aAK{β:Type}{a b:Sl->Mem->Out β}:(Out.ok true M).bind (cN a b e)=a e M:=id rfl
@[simp high] theorem aAL{β:Type}{a b:Sl->Mem->Out β}:(Out.ok false M).bind (cN a b e)=b e M:=id rfl
@[simp high] theorem ay1:zE e (.ok true M) (cN a b e)=a e M:=id rfl
@[simp high] theorem ay2:zE e (.ok false M) (cN a b e)=b e M:=id rfl
def bdB{β:Type}(f:Bool->Mem->Out β)(d:D)(M:Mem):Out β:=(Yy d M).bind f
@[simp high] theorem axf{β:Type}{f:Bool->Mem->Out β}{b:Bool}:(Out.ok (.bl b) M).bind (bdB f)=(Out.ok b M).bind f:=id rfl
def mFl:MT:=λ_ M=> .ok false M
@[simp] theorem avH:mFl e M= .ok false M:=id rfl
@[simp] theorem Wx:CK e M= .ok true M:=id rfl
def ai0(k:Bool)(M:Mem):Out Bool:= .ok (!k) M
@[simp] theorem ao_:ai0 k M= .ok (!k) M:=id rfl
def aiZ(k:Bool)(M:Mem):Out D:= .ok (.bl (!k)) M
@[simp] theorem ao9:aiZ k M= .ok (.bl (!k)) M:=id rfl
@[simp] theorem avD:mUn op ma e M=(ma e M).bind op:=id rfl
@[simp] theorem axm:Yy (.bl b) M= .ok b M:=id rfl
@[simp] theorem ai6:bA m e M=(m e M).bind Yy:=id rfl
@[simp] theorem apl:Vj t u e M=(t e M).bind (cN u mFl e):=id rfl
@[simp] theorem avG:mOr t u e M=(t e M).bind (cN CK u e):=id rfl
@[simp] theorem apf:JX t e M=(t e M).bind ai0:=id rfl
@[simp] theorem ajg:Jr t u e M=(t e M).bind (bdB (cN u (mC (.bl false)) e)):=id rfl
@[simp] theorem apd:acf t u e M=(t e M).bind (bdB (cN (mC (.bl true)) u e)):=id rfl
@[simp] theorem aja:aat t e M=(t e M).bind (bdB aiZ):=id rfl
@[simp] theorem apg:aH e M= .ok [] M:=id rfl
def okC(d:D)(ds:List D)(M:Mem):Out (List D):= .ok (d::ds) M
@[simp high] theorem atr:(Out.ok ds M).bind (okC d)= .ok (d::ds) M:=id rfl
@[simp] theorem aau:aq m ms e M=(m e M).bind (bd2 okC ms e):=id rfl
theorem Dq:sizeLine=16777216:=sizeLine_eq
def RX(ds:List D)(M:Mem):Out D:=if ds.length<=sizeLine then .ok (.tup ds) M else .bad
@[simp low] theorem aoU:RX ds M=if ds.length<=16777216 then .ok (.tup ds) M else .bad:=by unfold RX;rw[Dq]
@[simp] theorem apb:fQ ms e M=(ms e M).bind RX:=id rfl
@[simp high] theorem axA:(Out.ok [a0] M).bind RX= .ok (.tup [a0]) M:=by simp
@[simp high] theorem axz:(Out.ok [a0,a1] M).bind RX= .ok (.tup [a0,a1]) M:=by simp
@[simp high] theorem axy:(Out.ok [a0,a1,a2] M).bind RX= .ok (.tup [a0,a1,a2]) M:=by simp
@[simp high] theorem axx:(Out.ok [a0,a1,a2,a3] M).bind RX= .ok (.tup [a0,a1,a2,a3]) M:=by simp
@[simp high] theorem axw:(Out.ok [a0,a1,a2,a3,a4] M).bind RX= .ok (.tup [a0,a1,a2,a3,a4]) M:=by simp
def ack(ds:List D)(M:Mem):Out D:=if ds.length<=sizeLine then .ok (.ref M.length) (M++[.lst ds])else .bad
@[simp low] theorem apn:ack ds M=if ds.length<=16777216 then .ok (.ref M.length) (M++[.lst ds])else .bad:=by unfold ack;rw[Dq]
@[simp high] theorem ayb:(Out.ok [] M).bind ack= .ok (.ref M.length) (M++[.lst []]):=by simp
@[simp] theorem aph:rN ms e M=(ms e M).bind ack:=id rfl
@[simp] theorem apj:aX cs m f e M=(m e M).bind (cB cs f):=id rfl
theorem aQ(h:M[n]? = some (.ins c fs))(hc:c∈cs)(hf:fs.lookup f=some d):cB cs f (.ref n) M= .ok d M:=by
 unfold cB;simp only[h,hc,if_true,hf]
def JG(fn:Fn)(ar:Nat)(dv ds:List D)(M:Mem):Out D:=if(ds++dv).length=ar then fn (ds++dv) M else .bad
@[simp low] theorem anw:JG fn ar dv ds M=if(ds++dv).length=ar then fn (ds++dv) M else .bad:=id rfl
@[simp high] theorem axa:(Out.ok [a0] M).bind (JG fn 1 [])=fn [a0] M:=id rfl
@[simp high] theorem aw_:(Out.ok [a0,a1] M).bind (JG fn 2 [])=fn [a0,a1] M:=id rfl
@[simp high] theorem aw9:(Out.ok [a0,a1,a2] M).bind (JG fn 3 [])=fn [a0,a1,a2] M:=id rfl
@[simp high] theorem aw8:(Out.ok [a0,a1,a2,a3,a4,a5] M).bind (JG fn 6 [])=fn [a0,a1,a2,a3,a4,a5] M:=id rfl
@[simp] theorem Mm:dR fn ar dv ms e M=(ms e M).bind (JG fn ar dv):=id rfl
def callC(fn:Fn)(ar:Nat)(dv:List D)(d:D)(ds:List D)(M:Mem):Out D:=JG fn ar dv (d::ds) M
@[simp high] theorem anx:(Out.ok ds M).bind (callC fn ar dv d)=(Out.ok (d::ds) M).bind (JG fn ar dv):=id rfl
def adp(k:Nat)(m:Str)(fn:Fn)(ar:Nat)(dv:List D)(ms:MA)(e:Sl)(d:D)(M:Mem):Out D:=if dh k m d M=true then(ms e M).bind (callC fn ar dv d)else .bad
@[simp high] theorem ai5:(Out.ok d M).bind (adp k m fn ar dv ms e)=if dh k m d M=true then(ms e M).bind (callC fn ar dv d)else .bad:=id rfl
@[simp] theorem ajb:aV k m fn ar dv mo ms e M=(mo e M).bind (adp k m fn ar dv ms e):=id rfl
theorem cT(h:M[n]? = some (.ins k fs))(hf:fs.lookup m=none):dh k m (.ref n) M=true:=by
 unfold dh;simp[h,hf]
def mkR(n:Nat)(r:D)(M:Mem):Out D:=if O8 r=true then .ok (.ref n) M else .bad
@[simp] theorem avu:mkR n r M=if O8 r=true then .ok (.ref n) M else .bad:=id rfl
def mkO(kc:Nat)(fn:Fn)(ar:Nat)(dv ds:List D)(M:Mem):Out D:=if(D.ref M.length::(ds++dv)).length=ar then(fn (.ref M.length::(ds++dv)) (M++[.ins kc []])).bind (mkR M.length)else .bad
@[simp high] theorem avw:(Out.ok ds M).bind (mkO kc fn ar dv)=if(D.ref M.length::(ds++dv)).length=ar then(fn (.ref M.length::(ds++dv)) (M++[.ins kc []])).bind (mkR M.length)else .bad:=id rfl
@[simp] theorem ajc:Br kc fn ar dv ms e M=(ms e M).bind (mkO kc fn ar dv):=id rfl
@[simp] theorem ag3:O8 .non=true:=id rfl
@[simp] theorem avI:BR op ms e M=(ms e M).bind op:=id rfl
def bmO(T:String)(op:D->List D->Mem->Out D)(ms:MA)(e:Sl)(d:D)(M:Mem):Out D:=if Ud T d M=true then(ms e M).bind (op d)else .bad
@[simp high] theorem axe:(Out.ok d M).bind (bmO T op ms e)=if Ud T d M=true then(ms e M).bind (op d)else .bad:=id rfl
@[simp] theorem avJ:mBM T op mo ms e M=(mo e M).bind (bmO T op ms e):=id rfl
def bd3(op:D->Option Int->Option Int->Mem->Out D)(lo hi:MO')(e:Sl)(d:D)(M:Mem):Out D:=(lo e M).bind (bd2 (op d) hi e)
@[simp] theorem axg{op:D->Option Int->Option Int->Mem->Out D}{lo hi:MO'}:bd3 op lo hi e d M=(lo e M).bind (bd2 (op d) hi e):=id rfl
@[simp] theorem avF{lo hi:MO'}:mSl m lo hi e M=(m e M).bind (bd3 Zy lo hi e):=id rfl
@[simp] theorem ai_:O3 m e M=(m e M).bind asI:=id rfl
@[simp] theorem arB:asI (.int i) M= .ok (some i) M:=id rfl
@[simp] theorem ajd:vH m e M=(m e M).bind Mz:=id rfl
@[simp] theorem akJ:Mz (.tup ds) M= .ok ⟨none,ds⟩ M:=id rfl
theorem qt(h:M[n]? = some (.lst ds)):Mz (.ref n) M= .ok ⟨some (n,ds),ds⟩ M:=by simp only[Mz,b8 h]
@[simp] theorem ai9:Jq ms e M=(ms e M).bind JT:=id rfl
@[simp] theorem ai8:aas ms e M=(ms e M).bind Xn:=id rfl
theorem Ce(h: -(2 ^ 62)<=j)(h2:j<2 ^ 24):JT [.int j] M= .ok ⟨none,zR 0 j.toNat⟩ M:=by simp only[JT];rw[if_pos ⟨h,h2⟩]
def cpO(tt:MT)(te:ME)(ce:Sl)(it:Itm)(M:Mem):Out D:=sY it.src tt te ce it.ds [] M
@[simp] theorem awV:cpO tt te ce it M=sY it.src tt te ce it.ds [] M:=id rfl
@[simp] theorem aav:vI js mi tt te e M=(mi e M).bind (cpO tt te (rO js e)):=id rfl
@[simp] theorem IW:QZ C g (.int i) (.int j) M=if C i j=true then .ok (g i j) M else .bad:=id rfl
@[simp] theorem ahJ:qm (.int i) (.int j) M= .ok (.int (i+j)) M:=id rfl
@[simp] theorem ahv:JP (.int i) (.int j) M= .ok (.int (i - j)) M:=id rfl
@[simp] theorem Sh:Ql (.int i) (.int j) M= .ok (.int (Builtin.bitAnd i j)) M:=id rfl
@[simp] theorem uf:sOr (.int i) (.int j) M= .ok (.int (Builtin.bitOr i j)) M:=id rfl
@[simp] theorem ao1:sLt (.int i) (.int j) M= .ok (.bl (decide (i<j))) M:=id rfl
@[simp] theorem ahB:abv (.int i) (.int j) M= .ok (.bl (decide (i<=j))) M:=id rfl
@[simp] theorem ahG:K9 (.int i) (.int j) M= .ok (.bl (decide (j<i))) M:=id rfl
theorem Sd(h:(-(2 ^ 64)<i/\i<2 ^ 64)\/(-(2 ^ 64)<j/\j<2 ^ 64)):UL (.int i) (.int j) M= .ok (.int (i*j)) M:=by
 refine vU ?_;unfold ZF;rw[IW,if_pos (by unfold agH;exact zae h)]
theorem Cd(h:0<j)(h2:j<1073741824):Eu (.int i) (.int j) M= .ok (.int (i / j)) M:=by
 unfold Eu;rw[IW,if_pos (by unfold agI;exact zae ⟨h,h2⟩)]
theorem rT(h:0<j):qj (.int i) (.int j) M= .ok (.int (i % j)) M:=by
 unfold qj;rw[IW,if_pos (by unfold anD;exact zae h)]
theorem Zz(h:0<=j/\j<=1000000/\i.natAbs<2 ^ 64):ZC (.int i) (.int j) M= .ok (.int (i ^ j.toNat)) M:=by
 unfold ZC;rw[IW,if_pos (by unfold Yx;exact zae h)]
@[simp] theorem ahx:aeb (.int i) M= .ok (.int (-i)) M:=id rfl
theorem Rc(h:qe M 12 d=some a)(h':qe M 12 d'=some b):Yj M d d'=some (pM a b):=by unfold Yj;rw[h,h']
theorem UW(h:Yj M d d'=some b):sEq d d' M= .ok (.bl b) M:=by unfold sEq;rw[h]
theorem Qj(h:Yj M d d'=some b):sNe d d' M= .ok (.bl (!b)) M:=by unfold sNe;rw[h]
theorem WQ:Yj M (.int i) (.int j)=some (decide (i=j)):=by
 rw[Rc (a:= .int i) (b:= .int j) rfl rfl];unfold pM;rw[Bool.beq_eq_decide_eq]
theorem WN:Yj M (.str i) (.str j)=some (decide (i=j)):=by
 rw[Rc (a:= .str i) (b:= .str j) rfl rfl];unfold pM;rw[Bool.beq_eq_decide_eq]
theorem aaQ:Yj M (.bl i) (.bl j)=some (decide (i=j)):=by
 rw[Rc (a:= .bl i) (b:= .bl j) rfl rfl];unfold pM;rw[Bool.beq_eq_decide_eq]
@[simp] theorem ao7:sEq (.int i) (.int j) M= .ok (.bl (decide (i=j))) M:=UW WQ
@[simp] theorem ao0:sNe (.int i) (.int j) M= .ok (.bl (!decide (i=j))) M:=Qj WQ
@[simp] theorem ao6:sEq (.str i) (.str j) M= .ok (.bl (decide (i=j))) M:=UW WN
@[simp] theorem aoZ:sNe (.str i) (.str j) M= .ok (.bl (!decide (i=j))) M:=Qj WN
@[simp] theorem atf:sEq (.bl i) (.bl j) M= .ok (.bl (decide (i=j))) M:=UW aaQ
@[simp] theorem atb:sNe (.bl i) (.bl j) M= .ok (.bl (!decide (i=j))) M:=Qj aaQ
@[simp] theorem ao3:sIs d .non M= .ok (.bl (Yd d)) M:=id rfl
@[simp] theorem aei:Ia d .non M= .ok (.bl (!Yd d)) M:=id rfl
@[simp] theorem aqm:Yd .non=true:=id rfl
@[simp] theorem aqn:Yd (.int i)=false:=id rfl
theorem VM{α:Type}{xs:List α}{k:Int}(h:0<=k):Rv xs k=xs[k.toNat]? := by
 unfold Rv ixN
 rw[if_pos h]
 by_cases z:k<xs.length
 ·rw[if_pos z];rfl
 ·rw[if_neg z]
  show none=_
  rw[List.getElem?_eq_none ()]
theorem zZ(h0:0<=k)(h:ds[k.toNat]? = some d):fP (.tup ds) (.int k) M= .ok d M:=
 vU (vU (by simp only[UT,VM h0,h]))
theorem aef(h0:0<=k)(h:ds[k.toNat]? = some d):fP (.cl ds) (.int k) M= .ok d M:=
 vU (vU (by simp only[UT,Gb,VM h0,h]))
theorem xQ(hM:M[n]? = some (.lst ds))(h0:0<=k)(h:ds[k.toNat]? = some d):fP (.ref n) (.int k) M= .ok d M:=
 vU (vU (by simp only[UT,Gb,b8 hM,VM h0,h]))
@[simp] theorem ahF:fP (.tup (d::r)) (.int 0) M= .ok d M:=zZ (by decide) rfl
@[simp] theorem ahE:fP (.tup (d0::d::r)) (.int 1) M= .ok d M:=zZ (by decide) rfl
@[simp] theorem ahD:fP (.tup (d0::d1::d::r)) (.int 2) M= .ok d M:=zZ (by decide) rfl
@[simp] theorem ahC:fP (.tup (d0::d1::d2::d::r)) (.int 3) M= .ok d M:=zZ (by decide) rfl
theorem rW(hM:M[n]? = some (.lst ds)):zz [.ref n] M= .ok (.int ds.length) M:=aai (aai (by simp only[Wd,Bo,Gb,b8 hM]))
@[simp] theorem ahA:zz [.tup ds] M= .ok (.int ds.length) M:=id rfl
@[simp] theorem ao2:zz [.cl ds] M= .ok (.int ds.length) M:=id rfl
theorem Ow(hM:M[n]? = some (.lst ds)):Ox [.ref n] M= .ok (.ref M.length) (M++[.lst ds]):=by simp only[Ox,Bo,Gb,b8 hM]
theorem UG(hM:M[n]? = some (.lst ds)):H_ [.ref n] M= .ok (.tup ds) M:=by simp only[H_,ad7,Bo,Gb,b8 hM]
theorem abr{n:Nat}{ds:List D}{lo hi:Option Int}(hM:M[n]? = some (.lst ds)):Zy (.ref n) lo hi M= .ok (.ref M.length) (M++[.lst (cut ds lo hi)]):=by simp only[Zy,Gb,b8 hM]
@[simp] theorem aea{ds:List D}{lo hi:Option Int}:Zy (.cl ds) lo hi M= .ok (.ref M.length) (M++[.lst (cut ds lo hi)]):=id rfl
theorem xR(hM:M[n]? = some (.lst ds))(h:ds.length<16777216):mR (.ref n) [d] M= .ok .non (M.set n (.lst (ds++[d]))):=by
 simp only[mR,hM];rw[Dq,if_pos h]
theorem FN(hM:M[n]? = some (.lst ds)):Ud "list" (.ref n) M=true:=by simp[Ud,b8 hM]
@[simp] theorem aoT:Ud "int" (.int i) M=true:=id rfl
@[simp] theorem agQ:Wf (.int i) [] M= .ok (.int (Builtin.Int.intBits i:Nat)) M:=id rfl
@[simp] theorem aby:oG [.int i,.ty "int"] M= .ok (.bl true) M:=by unfold oG;rfl
@[simp] theorem aa_:oG [.int i,.ty "bool"] M= .ok (.bl false) M:=by unfold oG;rfl
@[simp] theorem abz:oG [.bl i,.ty "bool"] M= .ok (.bl true) M:=by unfold oG;rfl
@[simp] theorem abx:oG [.tup i,.ty "tuple"] M= .ok (.bl true) M:=by unfold oG;rfl
@[simp] theorem ahw:cQ e M= .next e M:=id rfl
def rQ.seq(o:rQ)(t:MS):rQ:=match o with
 | .next e M=>t e M
 | .ret d M=> .ret d M
 | .brk e M=> .brk e M
 | .cont e M=> .cont e M
 | .exc c d e M=> .exc c d e M
 | .bad=> .bad
@[simp] theorem abt:aP s t e M=(s e M).seq t:=by
 unfold aP rQ.seq
 cases s e M<;>rfl
@[simp] theorem Zq:(rQ.next e M).seq t=t e M:=id rfl
@[simp] theorem aoY:(rQ.ret d M).seq t= .ret d M:=id rfl
@[simp] theorem ahH:jz m e M=zE e (m e M) λ_ M1=> .next e M1:=id rfl
@[simp] theorem abu:cH m e M=zE e (m e M) .ret:=id rfl
@[simp] theorem atd:tV c s t e M=zE e (c e M) (cN s t e):=id rfl
def tgO(o:Option Sl)(M:Mem):rQ:=match o with
 | some e'=> .next e' M
 | none=> .bad
@[simp] theorem ahg:tgO (some e) M= .next e M:=id rfl
def DY(g:Tg)(e:Sl)(d:D)(M:Mem):rQ:=tgO (g d e) M
@[simp low] theorem arA:DY g e d M=tgO (g d e) M:=id rfl
@[simp] theorem abB:cU m g e M=zE e (m e M) (DY g e):=by
 unfold cU DY tgO;rfl
@[simp high] theorem aze:zE e (.ok d M) (DY (gN 0) (o0::r))= .next (some d::r) M:=id rfl
@[simp high] theorem azd:zE e (.ok d M) (DY (gN 1) (o0::o1::r))= .next (o0::some d::r) M:=id rfl
@[simp high] theorem azc:zE e (.ok d M) (DY (gN 2) (o0::o1::o2::r))= .next (o0::o1::some d::r) M:=id rfl
@[simp high] theorem azb:zE e (.ok d M) (DY (gN 3) (o0::o1::o2::o3::r))= .next (o0::o1::o2::some d::r) M:=id rfl
@[simp high] theorem aza:zE e (.ok d M) (DY (gN 4) (o0::o1::o2::o3::o4::r))= .next (o0::o1::o2::o3::some d::r) M:=id rfl
@[simp high] theorem ay_:zE e (.ok d M) (DY (gN 5) (o0::o1::o2::o3::o4::o5::r))= .next (o0::o1::o2::o3::o4::some d::r) M:=id rfl
@[simp high] theorem ay9:zE e (.ok d M) (DY (gN 6) (o0::o1::o2::o3::o4::o5::o6::r))= .next (o0::o1::o2::o3::o4::o5::some d::r) M:=id rfl
@[simp high] theorem ay8:zE e (.ok d M) (DY (gN 7) (o0::o1::o2::o3::o4::o5::o6::o7::r))= .next (o0::o1::o2::o3::o4::o5::o6::some d::r) M:=id rfl
@[simp high] theorem ay7:zE e (.ok d M) (DY (gN 8) (o0::o1::o2::o3::o4::o5::o6::o7::o8::r))= .next (o0::o1::o2::o3::o4::o5::o6::o7::some d::r) M:=id rfl
@[simp high] theorem ay6:zE e (.ok d M) (DY (gN 9) (o0::o1::o2::o3::o4::o5::o6::o7::o8::o9::r))= .next (o0::o1::o2::o3::o4::o5::o6::o7::o8::some d::r) M:=id rfl
@[simp high] theorem axl:zE e (.ok d M) (DY (gN 10) (o0::o1::o2::o3::o4::o5::o6::o7::o8::o9::o10::r))= .next (o0::o1::o2::o3::o4::o5::o6::o7::o8::o9::some d::r) M:=id rfl
@[simp high] theorem axk:zE e (.ok d M) (DY (gN 11) (o0::o1::o2::o3::o4::o5::o6::o7::o8::o9::o10::o11::r))= .next (o0::o1::o2::o3::o4::o5::o6::o7::o8::o9::o10::some d::r) M:=id rfl
@[simp high] theorem axj:zE e (.ok d M) (DY (gN 12) (o0::o1::o2::o3::o4::o5::o6::o7::o8::o9::o10::o11::o12::r))= .next (o0::o1::o2::o3::o4::o5::o6::o7::o8::o9::o10::o11::some d::r) M:=id rfl
@[simp] theorem ayy:gN i d e=some (e.set i (some d)):=id rfl
@[simp] theorem ayx:gT n gs (.tup ds) e=if ds.length=n then gs ds e else none:=id rfl
@[simp] theorem akT:lW g gs (d::ds) e=(g d e).bind (gs ds):=id rfl
@[simp] theorem aqv:G6 [] e=some e:=id rfl
def Ve(o:Option Mem)(e:Sl):rQ:=match o with
 | some M=> .next e M
 | none=> .bad
@[simp] theorem agW:Ve (some M) e= .next e M:=id rfl
def fl2(cs:List Nat)(f:Str)(e:Sl)(d o:D)(M:Mem):rQ:=Ve (lF cs f d o M) e
@[simp] theorem awN:fl2 cs f e d o M=Ve (lF cs f d o M) e:=id rfl
def fl1(f:D->D->Mem->rQ)(mo:ME)(e:Sl)(d:D)(M:Mem):rQ:=zE e (mo e M) (f d)
@[simp] theorem awP:fl1 f mo e d M=zE e (mo e M) (f d):=id rfl
@[simp] theorem ZL:d_ cs mo mv f e M=zE e (mv e M) (fl1 (fl2 cs f e) mo e):=by
 unfold d_ fl1 fl2 Ve;rfl
theorem abK(h:M[n]? = some (.ins c fs))(hc:c∈cs)(hl:fs.length<1000):lF cs f d (.ref n) M=some (M.set n (.ins c (putD f d fs))):=by
 unfold lF;simp only[h];rw[if_pos ⟨hc,hl⟩]
def foO(g:Tg)(b:MS)(e:Sl)(it:Itm)(M:Mem):rQ:=iM it.src g b it.ds e M
@[simp] theorem awM:foO g b e it M=iM it.src g b it.ds e M:=id rfl
@[simp] theorem ao5:JQ mi g b e M=zE e (mi e M) (foO g b e):=id rfl
@[simp] theorem ad3:slots (n+1) (d::ds)=some d::slots n ds:=by
 unfold slots
 simp
@[simp] theorem ad2:slots (n+1) []=none::slots n []:=by
 unfold slots
 simp[List.replicate_succ]
@[simp] theorem ad1:slots 0 []=[]:=id rfl
def abE(o:rQ):Out D:=match o with
 | .ret d M=> .ok d M
 | .next _ M=> .ok .non M
 | .exc c d _ M=> .exc c d M
 | _=> .bad
@[simp] theorem abC:aY n b ds M=abE (b (slots n ds) M):=by
 unfold aY abE
 cases b (slots n ds) M<;>rfl
@[simp] theorem ZX:abE (.ret d M)= .ok d M:=id rfl
@[simp] theorem agR:abE (.next e M)= .ok .non M:=id rfl
end
theorem Nf(f:D->D)(hs:kZ src M)(hf:∀d∈ds,te (some d::ce) M= .ok (f d) M):sY src CK te ce ds [] M= .ok (.ref M.length) (M++[.lst (ds.map f)]):=by
 have key:∀(ds ys:List D),(∀d∈ds,te (some d::ce) M= .ok (f d) M)->sY src CK te ce ds ys M= .ok (.ref M.length) (M++[.lst (ys++ds.map f)]):=by
  intro ds
  induction ds with
  | nil=>intro ys _;unfold sY;rw[if_pos hs];simp
  | cons d r ih=>
   intro ys h
   unfold sY
   rw[if_pos hs,Wx,Ez,Out.fc]
   simp only[if_true]
   rw[h d xB,Ez,Out.fc,ih _ λx hx=>h x (yT _ hx)]
   simp
 have:=key ds [] hf
 simpa using this
theorem Wh{lo:Int}{n i:Nat}(h:(zR lo n)[i]? = some d):i<n/\d= .int (lo+i):=by
 unfold zR at h
 rw[zaj]at h
 obtain⟨k,hk,rfl⟩:=Option.map_eq_some_iff.mp h
 obtain⟨hi,e⟩:=List.getElem?_eq_some_iff.mp hk
 simp at hi e
 exact⟨hi,by rw[<-e]⟩
theorem Wg{lo:Int}{n:Nat}:(zR lo n).length=n:=by simp[zR]
section
variable{X:Cx}{ct:Nat->Addr}{W:bJ}
noncomputable def JK:List D->Option Bool
 | []=>some true
 | .bl b::r=>(JK r).map λk=>b&&k
 | _=>none
theorem T3:∀{ds:List D} {k:Bool},JK ds=some k->∃bs:List Bool,ds=bs.map D.bl/\k=bs.all id
 | [],k,h=>by cases h;exact⟨[],rfl,rfl⟩
 | d::r,k,h=>by
  cases d with
  | bl b=>
   simp only[JK]at h
   obtain⟨k',h1,rfl⟩:=Option.map_eq_some_iff.mp h
   obtain⟨bs,rfl,rfl⟩:=T3 h1
   exact⟨b::bs,rfl,rfl⟩
  | _=>simp only[JK]at h;cases h
theorem WR{K:Frag}{ι:Nat->Addr}{n:Nat}{H:Hp}:∀{bs:List Bool} {vs:List V},oZ K ct ι n H (bs.map D.bl) vs->vs=bs.map V.bl
 | [],_,.nil=>rfl
 | b::bs,_,.cons h hs=>by cases h;rw[WR hs];rfl
theorem aa1(bs:List Bool):(List.range bs.length).all (λj=>bs.getD j true)=bs.all id:=by
 rw[Bool.eq_iff_iff,List.all_eq_true,List.all_eq_true]
 constructor
 ·intro h b hb
  obtain⟨j,hj,e⟩:=List.mem_iff_getElem.mp hb
  have:=h j (List.mem_range.mpr hj)
  rw[List.getD_eq_getElem?_getD,zaa hj]at this
  rw[<-e]
  exact this
 ·intro h j hj
  have hj':=List.mem_range.mp hj
  rw[List.getD_eq_getElem?_getD,zaa hj']
  exact h _ (List.getElem_mem hj')
theorem Yu(hc:X.calm=true):qG X (.builtin "all") (λxs H Q=>∃(a:Addr) (bs:List Bool),xs=[.ref a]/\De X.K H a (bs.map V.bl)/\Q (.bl (bs.all id)) H):=by
 intro pins s σ H xs us Q I r h
 obtain⟨a,bs,rfl,hq,q⟩:=h
 obtain⟨u,rfl,ru⟩:=vals1 r
 cases(show u=Value.ref a from ru)
 obtain⟨its,rv,p,hz⟩:=I.list hq
 have hlt:a<s.heap.objs.size:=by obtain⟨o,n,e,_⟩:=p;exact zS e
 have hl:its.length=bs.length:=by rw[<-rv.length,zak]
 refine call_all_walk (wpAny_pyIter_list p.isList ⟨s.heap.objs.size,[s.heap.objs.size,a],[s.heap.objs.size],its.toArray.size,λi v=>its.toArray[i]? = some v,_,λj=>bs.getD j true,rfl,
  Walks.list (A:=X.A.in1) (I.ok.hd hc) s.heap.objs.size a (xD hlt) its.toArray,⟨⟨_,yB _ rfl,rfl,rfl⟩,p.isList.push _⟩,?_,λh' tk hk=> ?_⟩)
 ·intro i v s' Q' E' hP hQ
  have hP':its[i]? = some v:=by simpa using hP
  have hi:i<its.length:=(List.getElem?_eq_some_iff.mp hP').1
  have hb:bs[i]? = some bs[i]:=zaa ()
  obtain⟨u,hu,ru⟩:=rv.get (i:=i) (x:=V.bl bs[i]) (by rw[zaj,hb];rfl)
  rw[hP']at hu
  cases hu
  cases ru
  refine wpAny_truthy_bool ?_
  have e:bs.getD i true=bs[i]:=by rw[List.getD_eq_getElem?_getD,hb];rfl
  rw[<-e]
  exact hQ
 ·have e:(List.range its.toArray.size).all (λj=>bs.getD j true)=bs.all id:=by
   rw[List.size_toArray,hl]
   exact aa1 bs
  rw[e]
  exact⟨.bl _,H,I.kept λb o eb=>hk b o (by simp;exact xD (zS eb)) (zD _ eb),rfl,q⟩
noncomputable def Xj:RP:=λds M=>match ds with
 | [d]=>match Gb M d with
  | some es=>match JK es with
   | some k=> .ok (.bl k) M
   | none=> .bad
  | none=> .bad
 | _=> .bad
theorem afJ(hc:X.calm=true):vQ X ct (.builtin "all") Xj:=by
 refine⟨_,Yu hc,λι M H ds vs Q R h p=> ?_⟩
 unfold Xj at p
 split at p
 ·rename_i d
  obtain⟨v,rfl,q⟩:=Jb h
  cases z:Gb M d with
  | none=>rw[z]at p;exact p.elim
  | some es=>
   rw[z]at p
   dsimp only at p
   obtain⟨a,xs,rfl,hs,hd⟩:=R.seq z q
   cases z2:JK es with
   | none=>rw[z2]at p;exact p.elim
   | some k=>
    rw[z2]at p
    obtain⟨bs,rfl,rfl⟩:=T3 z2
    rw[WR hd]at hs
    exact⟨a,bs,rfl,hs,p ι _ H .refl R (.bl _)⟩
 ·exact p.elim
theorem Yz(bs:List Bool):JK (bs.map D.bl)=some (bs.all id):=by
 induction bs with
 | nil=>rfl
 | cons b r ih=>simp[JK,ih]
theorem ZM{n:Nat}{bs:List Bool}(h:M[n]? = some (.lst (bs.map D.bl))):Xj [.ref n] M= .ok (.bl (bs.all id)) M:=by
 simp only[Xj,Gb,b8 h,Yz]
end
section
variable{X:Cx}{ct:Nat->Addr}{W:bJ}{pos:Pos}
def O4:ME:=λ_ M=> .ok (.ref M.length) (M++[.dk []])
theorem J7:SE X ct W (.Dict [] [] pos) O4:=ig aad λσ H Q ⟨ι,e,M,w,p⟩ pp hp=>by
 have el:(M++[MO.dk []]).length=M.length+1:=by simp
 have x:Ext X.K ι M.length H (lV ι M.length pp) (M.length+1) (upd H pp (.dK [])):=Ext.new hp
 have e0:(lV ι M.length pp) M.length=pp:=by unfold lV;rw[if_pos rfl]
 have dv:DV X.K ct (lV ι M.length pp) (M++[MO.dk []]).length (upd H pp (.dK [])) (.ref M.length) (.ref pp):=by
  have:=DV.ref (K:=X.K) (ct:=ct) (ι:=lV ι M.length pp) (n:=(M++[MO.dk []]).length) (H:=upd H pp (.dK [])) (i:=M.length) (by rw[el];omega)
  rw[e0]at this
  exact this
 exact p (lV ι M.length pp) (.ref pp) _ (by rw[el];exact x) (w.rl.new hp ⟨[],bB,.nil⟩) dv
noncomputable def ayq(d:D)(M:Mem):Bool:=match d with
 | .ref n=>match M[n]? with
  | some (.dk _)=>true
  | some (.dt _)=>true
  | _=>false
 | _=>false
variable{o e f i value:Expr}{mo mk mx mv:ME}{apos cpos pos':Pos}
noncomputable def Ym(M:Mem)(o k d:D):Option Mem:=match o with
 | .ref n=>match M[n]? with
  | some (.dk kvs)=>match toKey k with
   | some kk=>if kvs.length<sizeLine then some (M.set n (.dk (abJ kvs kk d)))else none
   | none=>match k with
    | .tup ds=>match toKeys ds with
     | some ks=>if kvs.isEmpty=true then some (M.set n (.dt [(ks,d)]))else none
     | none=>none
    | _=>none
  | some (.dt kvs)=>match k with
   | .tup ds=>match toKeys ds with
    | some ks=>if kvs.length<sizeLine then some (M.set n (.dt (abJ kvs ks d)))else none
    | none=>none
   | _=>none
  | _=>none
 | _=>none
theorem acK(R:Rl X.K ct ι M H)(h:Ym M (.ref n) k d=some M')(hn:n<M.length)(qk:DV X.K ct ι M.length H k vk)(qd:DV X.K ct ι M.length H d vd):
  ∃H',aoO H (ι n) vk vd H'/\Ext X.K ι M.length H ι M'.length H'/\Rl X.K ct ι M' H':=by
 simp only[Ym]at h
 split at h
 ·rename_i kvs e
  obtain⟨vs,hH,pv⟩:=R.obj n _ e
  split at h
  ·rename_i kk ek
   split at h
   ·rename_i hz
    cases h
    have:=Kz ek qk
    subst this
    have x2:Ext X.K ι M.length H ι M.length (upd H (ι n) (.dK (putK vs kk vd))):=Ext.chg hH (λ_ z=>nomatch z) (λ_ _ z=>nomatch z)
    exact⟨_,.inl (RJ.k hH (by rw[pv.length];exact hz)),by rw[List.length_set];exact x2,R.chg hn hH (λ_ z=>nomatch z) (λ_ _ z=>nomatch z) ⟨_,bB,(pv.put qd kk).mono x2⟩⟩
   ·cases h
  ·split at h
   ·rename_i ds
    split at h
    ·rename_i ks eks
     split at h
     ·rename_i hem
      cases h
      have ek:kvs=[]:=List.isEmpty_iff.mp hem
      subst ek
      cases pv
      obtain⟨b,xs,rfl,hb,hd⟩:=wF qk
      have ex:=zx eks hd
      subst ex
      have x2:Ext X.K ι M.length H ι M.length (upd H (ι n) (.dT [(ks,vd)])):=Ext.chg hH (λ_ z=>nomatch z) (λ_ _ z=>nomatch z)
      exact⟨_,.inr ⟨ks,b,hH,rfl,hb,rfl⟩,by rw[List.length_set];exact x2,R.chg hn hH (λ_ z=>nomatch z) (λ_ _ z=>nomatch z) ⟨_,bB,.cons (qd.mono x2) .nil⟩⟩
     ·cases h
    ·cases h
   ·cases h
 ·rename_i kvs e
  obtain⟨vs,hH,pv⟩:=R.obj n _ e
  split at h
  ·rename_i ds
   split at h
   ·rename_i ks eks
    split at h
    ·rename_i hz
     cases h
     obtain⟨b,xs,rfl,hb,hd⟩:=wF qk
     have ex:=zx eks hd
     subst ex
     have x2:Ext X.K ι M.length H ι M.length (upd H (ι n) (.dT (putK vs ks vd))):=Ext.chg hH (λ_ z=>nomatch z) (λ_ _ z=>nomatch z)
     exact⟨_,.inl (RJ.t hH hb (by rw[pv.length];exact hz)),by rw[List.length_set];exact x2,R.chg hn hH (λ_ z=>nomatch z) (λ_ _ z=>nomatch z) ⟨_,bB,(pv.put qd ks).mono x2⟩⟩
    ·cases h
   ·cases h
  ·cases h
 ·cases h
noncomputable def U0(mo mk mv:ME):MS:=λe M=>zE e (mv e M) λd M1=>zE e (mo e M1) λo M2=>zE e (mk e M2) λk M3=>Ve (Ym M3 o k d) e
theorem Wb(hu:X.A.units+64<cLine)(ho:SE X ct W o mo)(hi:SE X ct W i mk)(hv:SE X ct W value mv)(hs:swapsWith value (some (.Subscript o i pos')) pos.line X.env=pure false:=by rfl):
  SS X ct W (.Assign [.Subscript o i pos'] value pos) (U0 mo mk mv):=PS.imp (abS () ho hi hv hs) λT σ H q=>by
 obtain⟨ι,e,M,w,p⟩:=zW (rel:=gQ X.K ct) (f:=λd e M1=>zE e (mo e M1) λo M2=>zE e (mk e M2) λk M3=>Ve (Ym M3 o k d) e) q
 refine⟨ι,e,M,w,p.mono ?_⟩
 rintro vd H1 ⟨dU,e1,M1,d,w1,q1,p1⟩
 refine⟨dU,e1,M1,w1,?_⟩
 cases z:mo e1 M1 with
 | bad=>simp only[z,J_]at p1;exact p1
 | exc xc xd xM=>simp only[z,J9]at p1;exact λnR dx v H2 x r q1 q2=>p1 nR σ dx v H2 x (w1.ext x r) q1 q2
 | ok o' M2=>
  simp only[z,LR]at p1
  intro nR vo H2 x2 r2 q2
  have p2:=p1.ext x2
  have w2:=w1.ext x2 r2
  refine⟨nR,e1,M2,w2,?_⟩
  cases z2:mk e1 M2 with
  | bad=>simp only[z2,J_]at p2;exact p2
  | exc xc xd xM=>simp only[z2,J9]at p2;exact λRK dx v H3 x r q1 q2=>p2 RK σ dx v H3 x (w2.ext x r) q1 q2
  | ok k M3=>
   simp only[z2,LR]at p2
   intro RK vk H3 x3 r3 q3
   have p3:=p2.ext x3
   have w3:=w2.ext x3 r3
   cases z3:Ym M3 o' k d with
   | none=>rw[z3]at p3;exact p3.elim
   | some M4=>
    rw[z3]at p3
    cases o' with
    | ref n=>
     obtain⟨hn,rfl⟩:=sO q2
     have hn3:n<M3.length:=yA hn x3.le
     obtain⟨H4,g,x4,r4⟩:=acK r3 z3 hn3 q3 ((q1.mono x2).mono x3)
     refine⟨_,H4,rfl,?_,p3 RK σ H4 x4 (w3.ext x4 r4)⟩
     rw[<-x3.same n hn]
     exact g
    | _=>simp only[Ym]at z3;cases z3
end
section
variable{e:Sl}{M:Mem}
@[simp] theorem aje:O4 e M= .ok (.ref M.length) (M++[.dk []]):=id rfl
def ds3(p:Mem->D->D->D->Option Mem)(e:Sl)(d o k:D)(M:Mem):rQ:=Ve (p M o k d) e
def ds2(p:Mem->D->D->D->Option Mem)(mk:ME)(e:Sl)(d o:D)(M:Mem):rQ:=zE e (mk e M) (ds3 p e d o)
theorem afI(h:M[n]? = some (.dk kvs)):Vy M n (.int s)=some (HJ kvs (.inl s),M):=by simp only[Vy,h,toKey]
end
section
variable{X:Cx}{ct:Nat->Addr}{W:bJ}{pos:Pos}
def adL(K:Frag)(ct ι:Nat->Addr)(M:Mem)(H:Hp)(n:Nat)(σ:St)(o:Option Sl)(Q:St->Hp->Prop):Prop:=match o with
 | some e'=>∀σ',Ws K ct ι e' M σ' H->(σ'.length=σ.length/\σ'.drop n=σ.drop n)->Q σ' H
 | none=>False
def tTN(K:Frag)(ct:Nat->Addr)(n:Nat)(g:Tg):TG:=λv σ H Q=>∃ι e M d,Ws K ct ι e M σ H/\DV K ct ι M.length H d v/\adL K ct ι M H n σ (g d e) Q
def arT(K:Frag)(ct:Nat->Addr)(n:Nat)(g:Tgs):TGs:=λvs σ H Q=>∃ι e M ds,Ws K ct ι e M σ H/\oZ K ct ι M.length H ds vs/\adL K ct ι M H n σ (g ds e) Q
def SN(X:Cx)(ct:Nat->Addr)(n:Nat)(tg:Expr)(g:Tg):Prop:=PG X tg (tTN X.K ct n g)
def SNs(X:Cx)(ct:Nat->Addr)(n:Nat)(tg:List Expr)(g:Tgs):Prop:=YB X tg (arT X.K ct n g)
theorem Wc(hN:X.N.Nodup)(hi:X.N[i]? = some x)(hx:Loc X.env.scope x)(hin:i<n)(hf:X.fn x=true\/X.env.scope.names.lookup x=some .local:=by first | exact .inl rfl | exact .inr rfl | assumption):SN X ct n (.Name x pos) (gN i):=
 PG.imp (Qq hN hi hx hf) λv σ H Q ⟨ι,e,M,d,w,q,p⟩=>p _ (w.set i q) ⟨List.length_set,List.drop_set_of_lt hin⟩
theorem abk{n:Nat}:SNs X ct n [] G6:=YB.imp Wm λvs σ H Q ⟨ι,e,M,ds,w,q,p⟩=>by
 cases q with
 | nil=>exact⟨rfl,p σ w ⟨rfl,rfl⟩⟩
 | cons _ _=>exact p.elim
theorem R8{n:Nat}{es:List Expr}(h1:SN X ct n a g)(h2:SNs X ct n es gs)
  (hs:(assignEach (a::es) X.env).map (·.2)=assign a X.env::(assignEach es X.env).map (·.2):=by rfl):SNs X ct n (a::es) (lW g gs):=YB.imp (Sy h1 h2 hs) λvs σ H Q ⟨ι,e,M,ds,w,q,p⟩=>by
 cases q with
 | nil=>exact p.elim
 | @cons d x ds xs h hs=>
  refine⟨x,xs,rfl,ι,e,M,d,w,h,?_⟩
  simp only[lW]at p
  cases z:g d e with
  | none=>rw[z]at p;exact p.elim
  | some e'=>
   rw[z]at p
   refine λσ' w' hd=>⟨ι,e',M,ds,w',hs,?_⟩
   simp only[Option.bind_some]at p
   cases z2:gs ds e' with
   | none=>rw[z2]at p;exact p.elim
   | some e2=>rw[z2]at p;exact λσ2 w2 hd2=>p σ2 w2 ⟨hd2.1.trans hd.1,hd2.2.trans hd.2⟩
theorem ad0(hc:X.calm=true)(h:SNs X ct m es gs)
  (hn:(assignEach es X.env).length=n:=by rfl) (hst:(assignEach es X.env).findIdx? (·.1)=none:=by rfl):SN X ct m (.Tuple es k pos) (gT n gs):=PG.imp (Z_ hc h hn hst) λv σ H Q ⟨ι,e,M,d,w,q,p⟩=>by
 cases q with
 | @tup a xs ds hs hd=>
  simp only[gT]at p
  split at p
  ·rename_i hl
   exact⟨a,xs,rfl,zT.of hs,by rw[hd.length];exact hl,ι,e,M,ds,w,hd,p⟩
  ·exact p.elim
 | _=>exact p.elim
def JW(n:Nat):Sl:=List.replicate n none
noncomputable def Eo(src:Option (Nat×List D))(g:Tg)(n:Nat)(tt:MT)(te:ME)(ce:Sl):List D->List D->Mem->Out D
 | [],ys,M=>if kZ src M then .ok (.ref M.length) (M++[.lst ys])else .bad
 | d::ds,ys,M=>if kZ src M then match g d (JW n++ce)with
   | some e1=>(tt e1 M).noX.bind λk M1=>if k=true then(te e1 M1).noX.bind λy M2=>Eo src g n tt te ce ds (ys++[y]) M2 else Eo src g n tt te ce ds ys M1
   | none=> .bad
  else .bad
theorem Ws.anv{K:Frag}{ι:Nat->Addr}{e:Sl}{M:Mem}{σ:St}{H:Hp}(w:Ws K ct ι e M σ H)(xs:List Str)(js:List Nat):Ws K ct ι (JW xs.length++rO js e) M (Jm xs++L2.caps js σ) H:=by
 refine⟨w.rl,by simp[rO,L2.caps,JW,Jm],λi x hx=> ?_⟩
 rcases Nat.lt_or_ge i xs.length with q | q
 ·rw[zac (by simpa[JW]using q)]at hx
  simp[JW,q]at hx
 ·rw[zab (by simpa[JW]using q)]at hx
  rw[zab (by simpa[Jm]using q)]
  have l1:(JW xs.length).length=xs.length:=by simp[JW]
  have l2:(Jm xs).length=xs.length:=by simp[Jm]
  rw[l1]at hx
  rw[l2]
  simp only[rO,zaj]at hx
  obtain⟨j,hj,ej⟩:=Option.map_eq_some_iff.mp hx
  cases z:e[j]? with
  | none=>rw[z]at ej;cases ej
  | some o=>
   rw[z]at ej
   cases(show o=some x from ej)
   obtain⟨u,hu,du⟩:=w.env j x z
   refine⟨u,?_,du⟩
   simp only[L2.caps,zaj,hj,Option.map_some,hu]
   rfl
variable{tg elt iter:Expr}{ifs:List Expr}{scope:Scope}{mi:MI}{g:Tg}{tt:MT}{te:ME}
end
theorem Pj(c:D->Bool)(f:D->D):∀{ds ys:List D},kZ src M->(∀d∈ds,∃e1,g d (JW n++ce)=some e1/\tt e1 M= .ok (c d) M/\(c d=true->te e1 M= .ok (f d) M))->
  Eo src g n tt te ce ds ys M= .ok (.ref M.length) (M++[.lst (ys++(ds.filter c).map f)])
 | [],ys,hs,_=>by unfold Eo;rw[if_pos hs];simp
 | d::ds,ys,hs,h=>by
  unfold Eo
  rw[if_pos hs]
  obtain⟨e1,h1,h2,h3⟩:=h d xB
  have ih:=λys=>Pj (src:=src) (g:=g) (n:=n) (tt:=tt) (te:=te) (ce:=ce) (M:=M) c f (ds:=ds) (ys:=ys) hs λd' hd'=>h d' (yT _ hd')
  rw[h1]
  simp only[h2,Ez,Out.fc]
  cases z:c d with
  | true=>simp[h3 z,ih,z]
  | false=>simp[ih,z]
end S
namespace S
theorem Yv:PySem.bootBuiltins "sorted" = some (.builtin "sorted"):=by rfl
open PySem PySem.Spec PyProof.Rows L2
section
variable{X:Cx}{ct:Nat->Addr}{W:bJ}{pos:Pos}{K:Frag}{ι:Nat->Addr}{n:Nat}{H:Hp}
def afr:Key->D
 | .inl i=> .int i
 | .inr s=> .str s
open Classical in
theorem acu:DV K ct ι n H (afr k) (kV k):=by
 cases k with
 | inl i=>exact .int i
 | inr s=>exact .str s
variable{o:Expr}{mo:ME}{apos p1 pos1:Pos}
end
end S
namespace S
open PySem PySem.Spec PyProof.Rows L2
section
variable{X:Cx}{ct:Nat->Addr}{W:bJ}{pos:Pos}{K:Frag}{ι:Nat->Addr}{n:Nat}{H:Hp}
noncomputable def atc:RP:=λds M=>match ds with
 | [.ref n]=>match M[n]? with
  | some (.dk kvs)=> .ok (.ref M.length) (M++[.lst (kvs.map λp=>afr p.1)])
  | _=> .bad
 | _=> .bad
theorem abI{kvs:List (Key×D)}{vs:List (Key×V)}(h:Er K ct ι n H kvs vs):oZ K ct ι n H (kvs.map λp=>p.2) (vs.map λp=>p.2):=by
 induction h with
 | nil=>exact .nil
 | cons q _ ih=>exact .cons q ih
def O5(d:D)(M:Mem):Out D:=match d with
 | .ref n=>match M[n]? with
  | some (.dk kvs)=> .ok (.ref M.length) (M++[.lst (kvs.map λp=>p.2)])
  | _=> .bad
 | _=> .bad
def Vh(mo:ME):ME:=λe M=>(mo e M).bind O5
variable{o:Expr}{mo:ME}{apos p1 pos1:Pos}
theorem Zu(hc:X.calm=true)(ho:SE X ct W o mo)(hg:Gl X "list")(hm:X.mg "list" = none)
  (hbase:attributeBase o "values" X.env (eval o X.env)=eval o X.env:=by rfl) (hline:(apos.endLine==pos1.line)=true:=by rfl)
  (he:starEach [.Call (.Attribute o "values" apos) [] [] pos1] X.env=(false,eval (.Call (.Attribute o "values" apos) [] [] pos1) X.env)::starEach [] X.env:=by rfl) (hpl:(backTo pos (starEach [] X.env)).any (·.1)=false:=by rfl):
  SE X ct W (.Call (.Name "list" p1) [.Call (.Attribute o "values" apos) [] [] pos1] [] pos) (Vh mo):=by
 refine ig (Ih (VG hc) hg hm DP (Gn (U9 PySem.F.plainAttrs_dict PySem.F.slot_dict_values PySem.F.type_dict_values XR ho hbase hline) Lk he) (by decide) (by decide) he hpl) λσ H Q q=> ?_
 obtain⟨ι,e,M,w,p⟩:=di (iR:=gQ X.K ct) (f:=λd _ M1=>O5 d M1) q
 refine⟨ι,e,M,w,p.mono ?_⟩
 rintro v H1 ⟨dU,e1,M1,d,w1,q1,p1⟩
 cases d with
 | ref m=>
  obtain⟨hn,rfl⟩:=sO q1
  simp only[O5]at p1
  split at p1
  ·rename_i kvs em
   obtain⟨vs,hH,pv⟩:=w1.rl.obj m _ em
   refine⟨.inr (.inr (.inl ⟨rfl,.inl ⟨vs,hH⟩⟩)),_,vs,rfl,rfl,hH,λv hv=> ?_⟩
   have ne:dU m≠v:=λz=>by rw[z,hv]at hH;cases hH
   have x2:Ext X.K dU M1.length H1 dU M1.length (upd H1 v (RT v (dU m))):=Ext.fresh hv
   exact⟨v,dU m,vs,rfl,bB,by rw[aO ne];exact hH,λl hl=>wW (w1.rl.fresh hv) ((abI pv).mono x2) hl (p1.ext x2)⟩
  ·exact p1.elim
 | _=>exact p1.elim
end
section
variable{e:Sl}{M:Mem}
@[simp] theorem agX:Vh mo e M=(mo e M).bind O5:=id rfl
end
end S
namespace L2
open PySem PySem.Spec PyProof.Rows
section
variable{X:Cx}
theorem Yt:qG X (.type "int") (λxs H Q=>(∃i,xs=[.int i]/\Q (.int i) H)\/(∃k,xs=[.bl k]/\Q (.int (if k then 1 else 0)) H)\/∃z n,xs=[.str z]/\PySem.intText? z=some n/\z.length<=640/\Q (.int n) H):=by
 intro pins s σ H xs us Q I r h
 rcases h with h | h | ⟨z,n,rfl,e,hl,q⟩
 ·exact Pk pins s σ H xs us Q I r (.inl h)
 ·exact Pk pins s σ H xs us Q I r (.inr h)
 ·obtain⟨u,rfl,t,rfl⟩:=vals1 r
  exact PySem.W.KIN.call_text e hl ⟨.int n,H,I.tok _,⟨_,rfl⟩,q⟩
end
end L2
namespace S
open PySem PySem.Spec PyProof.Rows L2
section
variable{X:Cx}{ct:Nat->Addr}{W:bJ}{pos pos':Pos}
noncomputable def strsOf:List D->Option (List Str)
 | []=>some []
 | .str w::r=>(strsOf r).map (w:: ·)
 | _=>none
noncomputable def axG:D->List D->Mem->Out D:=λd ds M=>match d,ds with
 | .str y,[.ref n]=>match M[n]? with
  | some (.lst es)=>match strsOf es with
   | some ws=>if JoinOk y ws=true then .ok (.str (Txt.join y ws)) M else .bad
   | none=> .bad
  | _=> .bad
 | _,_=> .bad
noncomputable def Qk:RP:=λds M=>match ds with
 | [.int i]=> .ok (.int i) M
 | [.bl k]=> .ok (.int (if k then 1 else 0)) M
 | [.str z]=>match PySem.intText? z with
  | some n=>if z.length<=640 then .ok (.int n) M else .bad
  | none=> .bad
 | _=> .bad
theorem VB:vQ X ct (.type "int") Qk:=by
 refine⟨_,Yt,λι M H ds vs Q R h p=> ?_⟩
 unfold Qk at p
 split at p
 ·rename_i i
  obtain⟨v,rfl,q⟩:=Jb h
  cases q_ q
  exact .inl ⟨i,rfl,p ι _ H .refl R (.int _)⟩
 ·rename_i k
  obtain⟨v,rfl,q⟩:=Jb h
  cases q
  exact .inr (.inl ⟨k,rfl,p ι _ H .refl R (.int _)⟩)
 ·rename_i z
  obtain⟨v,rfl,q⟩:=Jb h
  cases Ax q
  split at p
  ·rename_i n e
   split at p
   ·rename_i hl;exact .inr (.inr ⟨z,n,rfl,e,hl,p ι _ H .refl R (.int _)⟩)
   ·exact p.elim
  ·exact p.elim
 ·exact p.elim
theorem abq(hg:Gl X x)(hm:X.mg x=some (.int z t))(hd:(x==("__debug__" : Str))=false:=by decide):SE X ct W (.Name x pos) (mC (.int z)):=
 ig (Wn (v:= .int z) hg hm ⟨t,rfl⟩ hd) λ_ _ _ h=>KH (λ_ _=> .int z) h
end
theorem qi(h1:sc.kind= .function:=by rfl)(h2:sc.isCoroutine=false:=by rfl)(h3:sc.isGenerator=false:=by rfl)(h4:N.Nodup:=by decide +kernel)(h5:N.take ps.length=ps:=by rfl)
  (h6:∀x∈ps,sc.names.lookup x=some .local\/sc.names.lookup x=some .cell:=by decide +kernel) (h7:∀y∈sc.names,y.2≠ .free:=by decide +kernel):uI N ps sc:=⟨h1,h2,h3,h4,h5,h6,h7⟩
section
variable{X:Cx}{ct:Nat->Addr}
def notStar:Expr->Bool
 | .Starred _ _=>false
 | _=>true
theorem ahq(h:notStar a=true):starEach (a::es) env=(false,eval a env)::starEach es env:=by
 cases a<;>first | rfl | cases h
theorem bz(ha:SE X ct W a ma)(hr:SA X ct W es ms)(h:notStar a=true:=by rfl):SA X ct W (a::es) (aq ma ms):=ak ha hr (ahq h)
end
section
variable{X:Cx}{ct:Nat->Addr}{W:bJ}
def acg(m1 m2:ME):ME:=λe M=>match m1 e M with
 | .bad=>m2 e M
 | o=>o
theorem SE.or(h1:SE X ct W e m1)(h2:SE X ct W e m2):SE X ct W e (acg m1 m2):=by
 intro pins s σ H Q I ⟨ι,e',M,w,p⟩
 unfold acg at p
 cases z:m1 e' M with
 | bad=>rw[z]at p;exact h2 pins s σ H Q I ⟨ι,e',M,w,p⟩
 | ok d M1=>rw[z]at p;exact h1 pins s σ H Q I ⟨ι,e',M,w,by rw[z];exact p⟩
 | exc c d M1=>rw[z]at p;exact h1 pins s σ H Q I ⟨ι,e',M,w,by rw[z];exact p⟩
def anB:Fn:=λ_ _=> .bad
theorem afA{P:Program}{w:World}{K:Frag}{mg:Str->Option Value}{base:Heap}{k:Nat}{f:Addr}{fd:FuncData}{ps:List Str}{ar:Nat}:lg P w K mg base (zq P w) k f fd ps (spS K ct anB ar):=
 ⟨λ_ _ _ _ ⟨_,_,_,_,_,_,p⟩=>p.elim,λ_ _ _ _ _ _ _ _ _ _ _ _ _ ⟨_,_,_,_,_,_,p⟩=>p.elim⟩
def fuel(g:Fn->Fn):Nat->Fn
 | 0=>anB
 | n+1=>g (fuel g n)
theorem WM{P:Program}{w:World}{K:Frag}{mg:Str->Option Value}{base:Heap}{k:Nat}{f:Addr}{fd:FuncData}{ps:List Str}{ar:Nat}{g:Fn->Fn}
  (step:∀(n:Nat) (m:Fn),lg P w K mg base (zq P w) n f fd ps (spS K ct m ar)->lg P w K mg base (zq P w) (n+1) f fd ps (spS K ct (g m) ar)):∀n,lg P w K mg base (zq P w) (k+n) f fd ps (spS K ct (fuel g n) ar)
 | 0=>afA
 | n+1=>step (k+n) _ (WM step n)
end
section
variable{e:Sl}{M:Mem}
@[simp] theorem ape:acg m1 m2 e M=match m1 e M with
  | .bad=>m2 e M
  | o=>o:=id rfl
end
theorem Wy{α:Type}{us:List α}(h:us.length=5):∃a b c d e,us=[a,b,c,d,e]:=match us,h with | [a,b,c,d,e],_=>⟨a,b,c,d,e,rfl⟩
theorem aaX{R:Result->Shared->Prop}(hroom:A.depth<recursionLimit)
  (ho:s.heap.get? a=some o) (hd':o.data= .func fd) (hco:fd.scope.isCoroutine=false) (hgen:fd.scope.isGenerator=false) (hbody:fd.body= .expr body) (hc:fd.code= .ref c) (hoc:s.heap.get? c=some oc) (hdc:oc.data= .fields vs) (hq:vs[1]? = some (.str q t))
  (h:wpAny (model prog w) A.in1 (bindArgs fd args) (λbinds s₁=>
   wpAny (model prog w) A.in1 (newFunctionEnv fd.scope fd.globals fd.closure binds (q++ ".<locals>.") (some a) (.ref c) none fd.builtins)
    (λenv s₂=>s₂.heap.NoLimit/\codeAny (model prog w) A (.expr body env) R s₂) (λe s'=>R (.error e) s') s₁) (λe s'=>R (.error e) s') s):
  codeAny (model prog w) A (.call (.ref a) args) R s:=by
 refine codeAny_of_tree ?_
 show wpAny _ A.in1 (callAny (.ref a) args) _ _ s
 simp only[callAny]
 refine zC (wpAny_load ho ?_)
 simp only[hd',callFunction,hco,hgen,hbody,hc]
 refine zC (m:=field (.ref c) 1) (wpAny_field hoc hdc hq (zC (zI ?_)))
 exact zC (wT h (λbinds s₁ h₁=>zC (wT h₁ (λenv s₂ h₂=>zC (wpAny_enterFrame h₂.1 hroom
  (zI (And.intro rfl h₂.2)))) λ_ _ h'=>h')) λ_ _ h'=>h')
noncomputable def Ph(P:Program)(w:World)(K:Frag)(mg:Str->Option Value)(base:Heap)(x p q:Str)(scope:Scope)(f c cd:Addr)(A:Around)(outer:List Env)(s:Shared)(H:Hp):Cx where
 prog:=P
 w:=w
 K:=K
 mg:=mg
 base:=base
 A:=A.deeper (PySem.W.envX q scope s.heap.objs.size f (.ref cd) [(x,c)])
 N:=[x,p]
 s₀:=s
 H₀:=H
 env:=PySem.W.envX q scope s.heap.objs.size f (.ref cd) [(x,c)]
 outer:=outer
 stack:=PySem.W.envX q scope s.heap.objs.size f (.ref cd) [(x,c)]::outer
 ex:=[]
 calm:=true
 fn:=λ_=>false
 pn:=[]
 xe:=λ_ _=>False
section
variable{P:Program}{w:World}{K:Frag}{mg:Str->Option Value}{base:Heap}{A:Around}{outer:List Env}{s:Shared}{H:Hp}{f c a:Addr}{o oc:Obj}{uc:HO}{cv:Value}{xs:List V}{v:V}{u:Value}
theorem acr(hr:lY 1 A)(e0:Uc P w K mg base A outer s H)(hf:H f=some (.gW o Fx))(L:YC o cv c)(hz:BJ H cv)(hc:H c=some (.gW oc uc))(hd:oc.data= .cell (some (.ref a)))(hl:H a=some (.lst xs))(hn:xs.length<sizeLine)(rv:RelV v u):
  codeAny (model P w) A (.call (.ref f) ⟨[u],[]⟩) (λr s'=>match r with | .ok (.ret u')=>CE outer P w H s (λv' H'=>v'= .non/\H'=upd H a (.lst (xs++[v]))) u' s' | _=>False) s:=by
 obtain⟨name,qual,x,p,p1,p2,p3,p4,pa,scope,pm,ctv,rfl,h1,h2,h3,h4,h5,h6,h7,h8,h9,h10,h11,h12,h13,h14⟩:=L
 obtain⟨cd,ocd,vs,q,t,rfl,z1,z2,z3⟩:=hz
 have gf:=(e0.hok f _ hf).1
 have gc:=(e0.hok c _ hc).1
 have gcd:=(e0.hok cd _ z1).1
 have lim:s.heap.NoLimit:=e0.mod.nolimit.keeps λb o e=>(e0.bs b o e).1
 refine aaX hr.depth gf rfl h2 h3 rfl rfl gcd z2 z3 ?_
 rw[h14 u]
 refine zI (wpAny_newFunctionEnv h6 (λy hy=>by rw[List.mem_singleton.mp hy];exact h5) (λh' hns hsb=>⟨lim.fresh _ hsb,?_⟩) h1)
 show codeAny _ _ (.expr _ (PySem.W.envX q scope s.heap.objs.size f (.ref cd) [(x,c)])) _ _
 refine PySem.W.kla_codeExpr ?_
 have kp:∀b o,s.heap.get? b=some o->h'.get? b=some o:=λb o e=>hsb.extBut b o (xD (zS e)) (zD _ e)
 have noA:∀b:Addr,b∉(Ph P w K mg base x p q scope f c cd A outer s H).ex:=λb z=>absurd (show b∈([]:List Addr)from z) (by simp)
 have lk:∀{y:Str} {c':Addr},(Ph P w K mg base x p q scope f c cd A outer s H).env.cells.lookup y=some c'->y=x/\c'=c:=λ{y c'} e=>by
  have e':List.lookup y [(x,c)]=some c':=e
  rw[List.lookup_cons]at e'
  cases hy:y==x with
  | true=>rw[hy]at e';cases e';exact⟨eq_of_beq hy,rfl⟩
  | false=>rw[hy]at e';cases e'
 have lx:(Ph P w K mg base x p q scope f c cd A outer s H).env.cells.lookup x=some c:=by
  show List.lookup x [(x,c)]=some c
  rw[List.lookup_cons,beq_self_eq_true]
 have ok:(Ph P w K mg base x p q scope f c cd A outer s H).Ok:=by
  refine⟨e0.mod,h1,rfl,rfl,jS _,λy z c' e1 e2=>(lk e1).1.trans (lk e2).1.symm,λy hy=> ?_,λy c' e=>(by cases e),λ_=>hr.hd,Around.frames_deeper e0.frames,.inr ⟨rfl,rfl⟩,λb z=>absurd z (noA b),e0.bs,e0.YG,λb _ _=>noA b,λb z=>absurd z (noA b),e0.G7,e0.frf⟩
  have hy:scope.names.lookup y=some .cell\/scope.names.lookup y=some .free:=hy
  rcases hy with hy | hy
  ·exact absurd rfl (h6 _ (PySem.mem_of_lookup hy))
  ·rw[h13 y hy];exact⟨c,lx⟩
 have I:Inv (Ph P w K mg base x p q scope f c cd A outer s H) [] [some (.ref a),some v] H {s with heap:=h',toks:=s.toks+[(p,u)].length}:=by
  refine⟨ok,rfl,e0.bare,Un.kept kp,⟨_,hns,λi y v' e1 e2 e3=> ?_⟩,λy c' e=> ?_,e0.hok.fresh (jS _),λy c' e=> ?_,λp hp=>absurd (show p∈([]:List (Addr×Obj))from hp) (by simp),e0.hok.kept kp,rfl⟩
  ·match i,e1,e2 with
   | 0,e1,e2=>
    cases e1;cases e2
    exact⟨_,rfl,.inr ⟨.inr h4,c,lx,oc,kp _ _ gc,hd⟩⟩
   | 1,e1,e2=>
    cases e1;cases e2
    exact⟨u,rv,.inl ⟨h5,by simp⟩⟩
  ·obtain⟨rfl,rfl⟩:=lk e
   exact⟨_,oc,kp _ _ gc,hd⟩
  ·obtain⟨rfl,rfl⟩:=lk e
   exact .inr ⟨rfl,oc,uc,hc⟩
 have pe:PE (Ph P w K mg base x p q scope f c cd A outer s H) (.Call (.Attribute (.Name x p1) "append" p2) [.Name p p3] [] p4) (tBM K "list" Wl (abh 0) (adb (abh 1) abi)):=
  ado PySem.F.plainAttrs_list PySem.F.slot_list_append PySem.F.type_list_append O1 (Qu rfl (.inr (.inr h4)) h8 h9) (Gn (Qu rfl (.inl h5) h10 h11) Lk) (hline:=h12)
 refine wT (pe [] _ _ H (λv' H'=>v'= .non/\H'=upd H a (.lst (xs++[v]))) I ⟨.ref a,rfl,?_,v,rfl,a,xs,v,rfl,rfl,hl,hn,rfl,rfl⟩) (λu' s' ⟨v',H',J,r',q'⟩=> ?_) λe s' h=>h.elim
 ·exact .inl ⟨rfl,xs,De.of hl⟩
 ·exact⟨v',H',J.os,J.bare,J.base,J.hok,r',q'⟩
end
def rFn(x:V)(H:Hp):Prop:=∃f o cv c,x= .ref f/\H f=some (.gW o Fx)/\YC o cv c
def aeu:R2:=λx y H Q=>∃f o cv c oc uc a xs,x= .ref f/\H f=some (.gW o Fx)/\YC o cv c/\BJ H cv/\H c=some (.gW oc uc)/\oc.data= .cell (some (.ref a))/\H a=some (.lst xs)/\xs.length<sizeLine/\Q .non (upd H a (.lst (xs++[y])))
def adW(ta:TE)(t:TA):TE:=λσ H Q=>ta σ H λx H1=>rFn x H1/\t σ H1 λvs H2=>∃y,vs=[y]/\aeu x y H2 Q
theorem ady(L:YC o cv c)(e:h.get? f=some o):PySem.W.FnAt f h:=by
 obtain⟨name,qual,x,p,p1,p2,p3,p4,pa,scope,pm,ctv,rfl,_⟩:=L
 exact⟨_,_,_,_,e⟩
theorem aag(hn:PE X (.Name x p) ta)(he:PA X [e] t)(hr:lY 1 X.A)
  (hs:starEach [e] X.env=(false,eval e X.env)::starEach [] X.env:=by rfl) (hpl:(backTo pos (starEach [] X.env)).any (·.1)=false:=by rfl):PE X (.Call (.Name x p) [e] [] pos) (adW ta t):=by
 intro pins s σ H Q I h
 refine wpAny_Call_Name_kw (m_ (hn pins s σ H _ I h) ?_)
 rintro u s1 ⟨v,H1,I1,r1,⟨f,o,cv,c,ev,hf,L⟩,q1⟩
 subst ev
 obtain rfl:u=Value.ref f:=r1
 refine PySem.W.callWith_F (ady L (I1.hok f _ hf).1) (m_ (he pos pins s1 σ H1 _ I1 q1) ?_) hs hpl
 rintro us s2 ⟨vs,H2,I2,r2,y,ey,q2⟩
 subst ey
 cases r2 with
 | cons ru rn=>
  cases rn
  obtain⟨f',o2,cv2,c2,oc,uc,a,xs,ef,hf2,L2',hz,hc,hd,hl,hlen,q⟩:=q2
  cases ef
  refine⟨ady L2' (I2.hok f _ hf2).1,wpAny_call (codeAny_mono (acr hr I2.env0 hf2 L2' hz hc hd hl hlen ru) λr s' hq=> ?_)⟩
  match r,hq with
  | .ok (.ret u'),⟨v',H',a1,a2,a3,a4,a5,a6,a7⟩=>
   subst a6
   subst a7
   exact I2.after ⟨_,_,a1,a2,a3,a4,a5,q⟩
noncomputable def Ib:zp:=λd y M=>match d with
 | .fn l=>match M[l]? with
  | some (.lst ds)=>if ds.length<sizeLine then .ok .non (M.set l (.lst (ds++[y])))else .bad
  | _=> .bad
 | _=> .bad
def isFn:D->Bool
 | .fn _=>true
 | _=>false
noncomputable def Mp(ma:ME)(ms:MA):ME:=λe M=>(ma e M).bind λd M1=>if isFn d=true then(ms e M1).bind λds M2=>match ds with
 | [y]=>Ib d y M2
 | _=> .bad else .bad
section
variable{X:Cx}{ct:Nat->Addr}{W:bJ}
theorem ak1(h:isFn d=true)(q:DV X.K ct ι n H d v):rFn v H:=by
 cases q with
 | fn h1 h2 h3 h4 h5 h6=>exact⟨_,_,_,_,rfl,h1,h2⟩
 | _=>cases h
theorem Zx(hn:SE X ct W (.Name x p) ma)(ha:SA X ct W [a] ms)(hr:lY 1 X.A)
  (hs:starEach [a] X.env=(false,eval a X.env)::starEach [] X.env:=by rfl) (hpl:(backTo pos (starEach [] X.env)).any (·.1)=false:=by rfl):SE X ct W (.Call (.Name x p) [a] [] pos) (Mp ma ms):=by
 refine ig (aag hn ha hr hs hpl) λσ H Q q=> ?_
 obtain⟨ι,e,M,w,p⟩:=di (iR:=gQ X.K ct) (f:=λd e M1=>if isFn d=true then(ms e M1).bind λds M2=>match ds with
  | [y]=>Ib d y M2
  | _=> .bad else .bad) q
 refine⟨ι,e,M,w,p.mono ?_⟩
 rintro v H1 ⟨dU,e1,M1,d,w1,q1,p1⟩
 cases z:isFn d with
 | false=>simp only[z,Bool.false_eq_true,if_false]at p1;exact p1.elim
 | true=>
  simp only[z,if_true]at p1
  refine⟨ak1 z q1,dU,e1,M1,w1,?_⟩
  cases z2:ms e1 M1 with
  | bad=>simp only[z2,Out.je]at p1;exact p1
  | exc xc xd xM=>simp only[z2,Out.sV]at p1;exact p1
  | ok ds M2=>
   simp only[z2,Out.fc]at p1
   intro nR vs H2 x2 r2 q2
   match ds,q2,p1 with
   | [y],.cons (x:=vy) qy .nil,p1=>
    refine⟨_,rfl,?_⟩
    have q1':=q1.mono x2
    have p2:=p1.ext x2
    cases d with
    | fn l=>
     simp only[Ib]at p2
     split at p2
     ·rename_i es e5
      split at p2
      ·rename_i hz
       cases q1' with
       | fn h1 h2 h3 h4 h5 h6=>
        obtain⟨xs,hH,hd⟩:=r2.obj l _ e5
        have x3:Ext X.K nR M2.length H2 nR M2.length (upd H2 (nR l) (.lst (xs++[vy]))):=Ext.chg hH (λ_ z=>nomatch z) (λ_ _ z=>nomatch z)
        refine⟨_,_,_,_,_,_,_,xs,rfl,h1,h2,h3,h4,h5.1,hH,by rw[hd.length];exact hz,?_⟩
        exact p2 nR .non _ (by rw[List.length_set];exact x3) (r2.chg h6 hH (λ_ z=>nomatch z) (λ_ _ z=>nomatch z) ⟨_,bB,(hd.append (.cons qy .nil)).mono x3⟩) .non
      ·exact p2.elim
     ·exact p2.elim
    | _=>cases z
end
theorem Jf(h:∃i t,a= .int i t)(h':∃i t,b= .int i t):∀l:List Value,TriplesOk l->TriplesOk (l++[a,b,c])
 | [],_=>by obtain⟨i,t,rfl⟩:=h;obtain⟨j,u,rfl⟩:=h';exact trivial
 | .int _ _:: .int _ _::_::rest,q=>Jf h h' rest q
theorem Py:∀l:List Value,TriplesOk l->codeAmong pos (l++[a,b,c])=some cv->codeAmong pos l=some cv\/cv=c
 | [],_,e=>by
  simp only[List.nil_append]at e
  unfold codeAmong at e
  split at e
  ·rename_i h1
   split at e
   ·cases h1;cases e;exact .inr rfl
   ·cases h1;unfold codeAmong at e;cases e
  ·cases e
 | .int i t:: .int j u::x::rest,q,e=>by
  simp only[List.cons_append,codeAmong]at e ⊢
  split at e
  ·rename_i z;rw[if_pos z];exact .inl e
  ·rename_i z;rw[if_neg z];exact Py rest q e
section
variable{X:Cx}{pins:List (Addr×Obj)}{σ:St}{H:Hp}{s:Shared}
theorem Inv.freeze(I:L2.Inv X pins σ H s)(hf:X.fn x=false)(hl:X.env.cells.lookup x=some c)(hc:X.s₀.heap.objs.size<=c)(hn:H c=none)(ho:s.heap.get? c=some oc):
  L2.Inv X pins σ (upd H c (.gW oc Fx)) s:=by
 have hk:∀b u,H b=some u->upd H c (.gW oc Fx) b=some u:=λb u q=>by rw[aO (bR q hn)];exact q
 have hz:∀b,b≠c->H b=none->upd H c (.gW oc Fx) b=none:=λb z q=>by rw[aO z];exact q
 have od:∃v,oc.data= .cell v:=by
  obtain⟨v,o',e,d⟩:=I.cell x c hl
  rw[ho]at e;cases e
  exact⟨v,d⟩
 refine⟨I.ok,I.os,I.bare,⟨I.base.keep,I.base.slot,λb o q n z=>hz b (λe=>absurd (yA (zS q) (e▸hc)) (wP _)) (I.base.free b o q n z),I.base.there,λb xs q=>hk _ _ (I.base.tups b xs q),λb o u q=>hk _ _ (I.base.zb b o u q),λb ps q=> ?_⟩,I.loc,I.cell,hz _ (Ne.symm (I.cne x c hl)) I.free,λy c' e=> ?_,λp hp=> ?_,λb o q=> ?_,I.len⟩
 ·obtain⟨m,z⟩:=I.base.BK b ps q;exact⟨m,hk _ _ z⟩
 ·by_cases e':c'=c
  ·subst e'
   have:y=x:=I.ok.inj y x c' e hl
   subst this
   exact .inr ⟨hf,oc,Fx,bB⟩
  ·exact(I.uQ y c' e).imp id (hz _ e') λo u z=>hk _ _ z
 ·obtain⟨z1,z2,z3,z4,z5⟩:=I.pin p hp
  refine⟨z1,hz _ (λe=> ?_) z2,z3,z4,z5⟩
  rw[e,ho]at z1
  obtain⟨v,d⟩:=od
  exact z5 v (by rw[<-xI z1];exact d)
 ·by_cases z:b=c
  ·subst z
   rw[bB]at q;cases q
   exact⟨ho,trivial,⟨_,ho⟩,λ_ _ _ _=>trivial⟩
  ·rw[aO z]at q
   exact(I.hok b o q).stay (λ_ _ _ y=>y) (λb' y=>hk _ _ y) λb' xs y=>hk _ _ y
theorem Inv.made(I:L2.Inv X pins σ H s)(hP:H P=some (.zu ps))(hx:Heap.ExtBut P s.heap h')(hP2:h'.get? P=some {cls:= .none,data:= .fields (ps++more)})
  (h1:s.heap.objs.size<=c') (h2:c'<h'.objs.size) (hc':h'.get? c'=some oc') (hob:ob.isFreed=false):
  L2.Inv X pins σ (upd (upd (upd H P (.zu (ps++more))) c' (.gW oc' Fx)) h'.objs.size (.gW ob Fx)) {s with heap:=h'.push ob,toks:=tk}:=by
 obtain⟨f,hf⟩:∃f,f=h'.objs.size:=⟨_,rfl⟩
 rw[<-hf]
 have cf:c'<f:=by rw[hf];exact h2
 have lt:∀b o,s.heap.get? b=some o->b<c':=λb o e=>yA (zS e) h1
 have ltH:∀b u,H b=some u->b<c':=λb u e=>yA (I.hok.lt e) h1
 have Pc:P<c':=ltH P _ hP
 have kp:∀b o,b≠P->s.heap.get? b=some o->(h'.push ob).get? b=some o:=λb o n e=>zD _ (hx b o n e)
 have ne1:∀b,b<c'->b≠P->upd (upd (upd H P (.zu (ps++more))) c' (.gW oc' Fx)) f (.gW ob Fx) b=H b:=λb l n=>by
  rw[aO (xD (Nat.lt_trans l cf)),aO (xD l),aO n]
 have atP:upd (upd (upd H P (.zu (ps++more))) c' (.gW oc' Fx)) f (.gW ob Fx) P=some (.zu (ps++more)):=by
  rw[aO (xD (Nat.lt_trans Pc cf)),aO (xD Pc),bB]
 have hk:∀b u,b≠P->H b=some u->upd (upd (upd H P (.zu (ps++more))) c' (.gW oc' Fx)) f (.gW ob Fx) b=some u:=λb u n e=>by rw[ne1 b (ltH b u e) n];exact e
 have nP:∀b u,H b=some u->(∀qs,u≠ .zu qs)->b≠P:=λb u e n z=>by subst z;rw[hP]at e;cases e;exact n _ rfl
 have nN:∀b,H b=none->b≠P:=λb e z=>by subst z;rw[hP]at e;cases e
 have hPp:(h'.push ob).get? P=some {cls:= .none,data:= .fields (ps++more)}:=zD _ hP2
 refine I.un (H':=upd (upd (upd H P (.zu (ps++more))) c' (.gW oc' Fx)) f (.gW ob Fx)) ⟨λb o e n _ _=>kp b o (nN b n) e,λb o e n _ _=>⟨o.slots,kp b o (nN b n) e⟩,λb o e n _=>by rw[ne1 b (lt b o e) (nN b n)];exact n,λb o e _=> ?_,
  λb xs e=>hk b _ (nP b _ e λ_ z=>nomatch z) e,λb o u e=>hk b _ (nP b _ e λ_ z=>nomatch z) e,λb qs e=> ?_⟩ λb u e=> ?_
 ·by_cases z:b=P
  ·exact⟨_,z▸hPp⟩
  ·exact⟨o,kp b o z e⟩
 ·by_cases z:b=P
  ·subst z
   rw[hP]at e;cases e
   exact⟨more,atP⟩
  ·exact⟨#[],by rw[hk b _ z e];simp⟩
 ·by_cases zf:b=f
  ·subst zf
   rw[bB]at e;cases e
   have g:(h'.push ob).get? b=some ob:=by rw[hf];exact yB _ hob
   exact⟨g,trivial,⟨_,g⟩,λ_ _ _ _=>trivial⟩
  ·rw[aO zf]at e
   by_cases zc:b=c'
   ·subst zc
    rw[bB]at e;cases e
    have g:(h'.push ob).get? b=some oc':=zD _ hc'
    exact⟨g,trivial,⟨_,g⟩,λ_ _ _ _=>trivial⟩
   ·rw[aO zc]at e
    by_cases z:b=P
    ·subst z
     rw[bB]at e;cases e
     exact hPp
    ·rw[aO z]at e
     refine(I.hok b u e).stay (λc v hc y=>kp c v ?_ y) (λc y=>hk c _ (nP c _ y λ_ z=>nomatch z) y) λc xs y=>hk c _ (nP c _ y λ_ z=>nomatch z) y
     rcases hc with rfl | hc
     ·exact z
     ·exact nP c _ hc λ_ z=>nomatch z
structure aoI(x p:Str)(p1 p2 p3 p4 pa:Pos)(scope:Scope):Prop where
 k:scope.kind= .function
 co:scope.isCoroutine=false
 gen:scope.isGenerator=false
 fx:scope.names.lookup x=some .free
 lp:scope.names.lookup p=some .local
 nc:∀y∈scope.names,y.2≠ .cell
 ne:x≠p
 d1:(x==("__debug__" : Str))=false
 d2:(x==("__classdict__" : Str))=false
 d3:(p==("__debug__" : Str))=false
 d4:(p==("__classdict__" : Str))=false
 ln:(p2.endLine==p4.line)=true
 fr:∀y,scope.names.lookup y=some .free->y=x
 bd:∀(name qual:Str) (cl:List (Str×Addr)) (pm cv ctv u:Value),bindArgs (PySem.W.kla_fn name qual ⟨[],[⟨p,none,pa⟩],none,[],[],none,[]⟩ (.Call (.Attribute (.Name x p1) "append" p2) [.Name p p3] [] p4) scope cl pm cv ctv) ⟨[u],[]⟩=pure [(p,u)]
structure Made(H H':Hp)(f c P a:Addr):Prop where
 keep:∀b u,b≠P->H b=some u->H' b=some u
 tab:∃ps,H' P=some (.zu ps)/\TabOk H' ps
 fn:∃o cv oc uc,H' f=some (.gW o Fx)/\YC o cv c/\BJ H' cv/\H' c=some (.gW oc uc)/\oc.data= .cell (some (.ref a))/\∀ks,uc≠ .dK ks
def arY(N:List Str)(x:Str)(c P:Addr):TE:=λσ H Q=>∃(i:Nat) (a:Addr) (ps:Array Value),N[i]? = some x/\σ[i]? = some (some (V.ref a))/\H P=some (.zu ps)/\TabOk H ps/\∀f H',Made H H' f c P a->Q (.ref f) H'
theorem XD(Sx:aoI x p p1 p2 p3 p4 pa scope)(hfn:X.fn x=false)(hl:X.env.cells.lookup x=some c)(hcab:X.s₀.heap.objs.size<=c)(hk:X.env.kindOf x=some .cell)(hcode:X.env.code= .ref cd)
  (C:PySem.W.CodeHd X.base cd P) (hb:X.base.BuiltinsAt X.mg P) (hcl:closureFor scope X.env=pure [(x,c)]) (hd:defaultsOf ⟨[],[⟨p,none,pa⟩],none,[],[],none,[]⟩ X.env=([],[]):=by rfl):
  PE X (.Lambda ⟨[],[⟨p,none,pa⟩],none,[],[],none,[]⟩ (.Call (.Attribute (.Name x p1) "append" p2) [.Name p p3] [] p4) scope pos) (arY X.N x c P):=by
 intro pins s σ H Q I ⟨i,a,ps,hN,hσ,hP,hT,hq⟩
 obtain⟨oc,ho,hd'⟩:∃oc,s.heap.get? c=some oc/\oc.data= .cell (some (.ref a)):=by
  obtain⟨m,hn,hlk⟩:=I.loc
  obtain⟨u,r,l⟩:=hlk i x _ hN hσ (.inr (.inl hk))
  obtain rfl:u=Value.ref a:=r
  rcases l with⟨k,_⟩ | ⟨_,c',e,o',e1,e2⟩
  ·rw[hk]at k;cases k
  ·rw[hl]at e;cases e
   exact⟨o',e1,e2⟩
 obtain⟨H1,uc,I1,hc1,k1,n1⟩:∃H1 uc,L2.Inv X pins σ H1 s/\H1 c=some (.gW oc uc)/\(∀b u,H b=some u->H1 b=some u)/\H1 P=some (.zu ps):=by
  rcases I.uQ x c hl with hn | ⟨_,o',u',hz⟩
  ·refine⟨_,Fx,Inv.freeze I hfn hl hcab hn ho,bB,λb u e=>by rw[aO (bR e hn)];exact e,?_⟩
   rw[aO (bR hP hn)];exact hP
  ·have:=(I.hok c _ hz).1
   rw[ho]at this
   cases this
   exact⟨H,u',I,hz,λ_ _ e=>e,hP⟩
 have nd:∀ks,uc≠ .dK ks:=λks z=>by
  subst z
  obtain⟨_,_,_,_,o2,es,ep,ho2,ex,hd2,_⟩:=(show fu X.prog X.w H1 s.heap c (.gW oc (.dK ks))from I1.hok c _ hc1).2
  rw[ho]at ho2;cases ho2;rw[hd']at hd2;cases hd2
 have hT1:TabOk H1 ps:=⟨hT.1,λpos cv z=>(hT.2 pos cv z).mono λb o u e=>k1 b _ e⟩
 have gP:s.heap.get? P=some (PySem.W.tabObj ps):=I1.hok P _ n1
 have hgs:s.heap.Ns mainGlobals X.mg:=I.ok.mod.glob.keeps I.bk
 have hgP:mainGlobals≠P:=λq=>by
  obtain⟨o,es,ep,e,hd,_⟩:=hgs
  rw[q,gP]at e;cases e;cases hd
 have Pc:P≠c:=λe=>by rw[e,hc1]at n1;cases n1
 refine PySem.W.kla_eval hd ?_
 cases hf:codeAmong pos ps.toList with
 | none=>
  refine PySem.W.kla_makeFunction (mg:=X.mg) hcl I.ok.glob hgs hcode (C.keeps I.bk) gP hT.1 hf hgP (hb.keeps I.bk) λc' ctv h' tk hx h1 h2 hrec hP2=> ?_
  obtain⟨c2,oc',vs,t,e2,hoc,hdc,hv⟩:=hrec
  cases e2
  have J:=Inv.made (ob:=PySem.W.kla_obj "<lambda>" (X.env.qual++ "<lambda>") ⟨[],[⟨p,none,pa⟩],none,[],[],none,[]⟩ (.Call (.Attribute (.Name x p1) "append" p2) [.Name p p3] [] p4) scope [(x,c)] ((X.mg "__name__").getD .none) c' ctv) (tk:=tk) I1 n1 hx hP2 h1 h2 hoc rfl
  have lc:c<c':=yA (zS ho) h1
  have ltH:∀b u,H1 b=some u->b<c':=λb u e=>yA (I1.hok.lt e) h1
  have kk:∀b u,b≠P->H1 b=some u->upd (upd (upd H1 P (.zu (ps++ #[rawInt pos.line,rawInt pos.col,.ref c']))) c' (.gW oc' Fx)) h'.objs.size (.gW (PySem.W.kla_obj "<lambda>" (X.env.qual++ "<lambda>") ⟨[],[⟨p,none,pa⟩],none,[],[],none,[]⟩ (.Call (.Attribute (.Name x p1) "append" p2) [.Name p p3] [] p4) scope [(x,c)] ((X.mg "__name__").getD .none) c' ctv) Fx) b=some u:=λb u n e=>by
   rw[aO (xD (Nat.lt_trans (ltH b u e) h2)),aO (xD (ltH b u e)),aO n];exact e
  have kz:∀b o u,H1 b=some (.gW o u)->upd (upd (upd H1 P (.zu (ps++ #[rawInt pos.line,rawInt pos.col,.ref c']))) c' (.gW oc' Fx)) h'.objs.size (.gW (PySem.W.kla_obj "<lambda>" (X.env.qual++ "<lambda>") ⟨[],[⟨p,none,pa⟩],none,[],[],none,[]⟩ (.Call (.Attribute (.Name x p1) "append" p2) [.Name p p3] [] p4) scope [(x,c)] ((X.mg "__name__").getD .none) c' ctv) Fx) b=some (.gW o u):=λb o u e=>kk b _ (λz=>by rw[z,n1]at e;cases e) e
  have cz:BJ (upd (upd (upd H1 P (.zu (ps++ #[rawInt pos.line,rawInt pos.col,.ref c']))) c' (.gW oc' Fx)) h'.objs.size (.gW (PySem.W.kla_obj "<lambda>" (X.env.qual++ "<lambda>") ⟨[],[⟨p,none,pa⟩],none,[],[],none,[]⟩ (.Call (.Attribute (.Name x p1) "append" p2) [.Name p p3] [] p4) scope [(x,c)] ((X.mg "__name__").getD .none) c' ctv) Fx)) (.ref c'):=
   ⟨c',oc',vs,_,t,rfl,by rw[aO (xD h2),bB],hdc,hv⟩
  refine⟨.ref h'.objs.size,_,J,rfl,hq _ _ ⟨λb u n e=>kk b u n (k1 b u e),⟨ps++ #[rawInt pos.line,rawInt pos.col,.ref c'],?_,?_,?_⟩,_,_,oc,uc,bB,⟨_,_,x,p,p1,p2,p3,p4,pa,scope,_,_,rfl,Sx.k,Sx.co,Sx.gen,Sx.fx,Sx.lp,Sx.nc,Sx.ne,Sx.d1,Sx.d2,Sx.d3,Sx.d4,Sx.ln,Sx.fr,λu=>Sx.bd _ _ _ _ _ _ u⟩,cz,kz c oc uc hc1,hd',nd⟩⟩
  ·rw[aO (xD (Nat.lt_trans (ltH P _ n1) h2)),aO (xD (ltH P _ n1)),bB]
  ·rw[Array.toList_append]
   exact Jf ⟨_,_,rfl⟩ ⟨_,_,rfl⟩ _ hT.1
  ·intro pos' cv e
   rw[Array.toList_append]at e
   rcases Py _ hT.1 e with z | z
   ·exact(hT1.2 pos' cv z).mono kz
   ·rw[z];exact cz
 | some cv=>
  refine PySem.W.kla_makeFunctionHit (mg:=X.mg) hcl I.ok.glob hgs hcode (C.keeps I.bk) gP hT.1 hf (hb.keeps I.bk) λctv h' tk hk' hsz=> ?_
  have hfr:H1 h'.objs.size=none:=I1.hok.fresh hsz
  have kk:∀b u,H1 b=some u->upd H1 h'.objs.size (.gW {cls:= .type "function",data:= .func (PySem.W.kla_fn "<lambda>" (X.env.qual++ "<lambda>") ⟨[],[⟨p,none,pa⟩],none,[],[],none,[]⟩ (.Call (.Attribute (.Name x p1) "append" p2) [.Name p p3] [] p4) scope [(x,c)] ((X.mg "__name__").getD .none) cv ctv)} Fx) b=some u:=λb u e=>by
   rw[aO (bR e hfr)];exact e
  refine⟨.ref h'.objs.size,_,I1.laid (a:=h'.objs.size) (t':=tk) (λb u e=>zD _ (hk' b u e)) hsz (o:= .gW {cls:= .type "function",data:= .func (PySem.W.kla_fn "<lambda>" (X.env.qual++ "<lambda>") ⟨[],[⟨p,none,pa⟩],none,[],[],none,[]⟩ (.Call (.Attribute (.Name x p1) "append" p2) [.Name p p3] [] p4) scope [(x,c)] ((X.mg "__name__").getD .none) cv ctv)} Fx) ⟨yB _ rfl,trivial,⟨_,yB _ rfl⟩,λ_ _ _ _=>trivial⟩,rfl,
   hq _ _ ⟨λb u _ e=>kk b u (k1 b u e),⟨ps,kk _ _ n1,hT.1,λpos' cv' z=>(hT1.2 pos' cv' z).mono λb o u e=>kk b _ e⟩,_,_,oc,uc,bB,⟨_,_,x,p,p1,p2,p3,p4,pa,scope,_,_,rfl,Sx.k,Sx.co,Sx.gen,Sx.fx,Sx.lp,Sx.nc,Sx.ne,Sx.d1,Sx.d2,Sx.d3,Sx.d4,Sx.ln,Sx.fr,λu=>Sx.bd _ _ _ _ _ _ u⟩,(hT1.2 pos cv hf).mono λb o u e=>kk b _ e,kk c _ hc1,hd',nd⟩⟩
end
noncomputable def ach(i:Nat):ME:=λe M=>match e[i]? with
 | some (some (.ref l))=> .ok (.fn l) M
 | _=> .bad
section
variable{K:Frag}{ct ι:Nat->Addr}{M:Mem}{H H':Hp}{f c P a:Addr}{ps:Array Value}
theorem Made.not(hP:H P=some (.zu ps))(e:H b=some u)(n:∀qs,u≠ .zu qs):b≠P:=λz=>by subst z;rw[hP]at e;cases e;exact n _ rfl
theorem Made.ext(m:Made H H' f c P a)(hP:H P=some (.zu ps)):Ext K ι n H ι n H' where
 tup:=λb xs e=>m.keep b _ (Made.not hP e λ_ z=>nomatch z) e
 gW:=λb xs e=>by
  rcases e with⟨o,e⟩ | e
  ·exact .inl ⟨o,m.keep b _ (Made.not hP e λ_ z=>nomatch z) e⟩
  ·exact .inr e
 ex:=λb φ e=>m.keep b _ (Made.not hP e λ_ z=>nomatch z) e
 xd:=λb φ e=>m.keep b _ (Made.not hP e λ_ z=>nomatch z) e
 fz:=λb o u e=>m.keep b _ (Made.not hP e λ_ z=>nomatch z) e
 le:=jS _
 same:=λ_ _=>rfl
theorem aiS(h:OR K ct ι n H b o):∃u,H b=some u/\∀qs,u≠ .zu qs:=by
 cases o with
 | lst ds=>obtain⟨vs,e,_⟩:=h;exact⟨_,e,λ_ z=>nomatch z⟩
 | ins c fs=>obtain⟨dx,vs,e,_⟩:=h;exact⟨_,e,λ_ z=>nomatch z⟩
 | dk kvs=>obtain⟨vs,e,_⟩:=h;exact⟨_,e,λ_ z=>nomatch z⟩
 | dt kvs=>obtain⟨vs,e,_⟩:=h;exact⟨_,e,λ_ z=>nomatch z⟩
 | fd kvs=>obtain⟨o,vs,e,_⟩:=h;exact⟨_,e,λ_ z=>nomatch z⟩
theorem Made.rl(m:Made H H' f c P a)(hP:H P=some (.zu ps))(R:Rl K ct ι M H):Rl K ct ι M H' where
 inj:=R.inj
 obj:=λi o h=>by
  obtain⟨u,hu,n⟩:=aiS (R.obj i o h)
  exact(R.obj i o h).keep (m.ext hP) rfl ((m.keep _ _ (Made.not hP hu n) hu).trans hu.symm)
 tab:=λk hk hc=>by
  by_cases e:ct k=P
  ·rw[e];exact m.tab
  ·obtain⟨qs,h1,h2,h3⟩:=R.tab k hk hc
   exact⟨qs,m.keep _ _ e h1,h2,λpos cv z=>(h3 pos cv z).mono (m.ext (K:=K) (ι:=ι) (n:=0) hP).fz⟩
end
theorem Xh(i:Nat)(Sx:aoI x p p1 p2 p3 p4 pa scope)(hN:X.N[i]? = some x)(hk1:1000<=k)(hk2:ct k≠0)
  (hfn:X.fn x=false) (hl:X.env.cells.lookup x=some c) (hcab:X.s₀.heap.objs.size<=c) (hk:X.env.kindOf x=some .cell) (hcode:X.env.code= .ref cd)
  (C:PySem.W.CodeHd X.base cd (ct k)) (hb:X.base.BuiltinsAt X.mg (ct k)) (hcl:closureFor scope X.env=pure [(x,c)]) (hd:defaultsOf ⟨[],[⟨p,none,pa⟩],none,[],[],none,[]⟩ X.env=([],[]):=by rfl):
  SE X ct W (.Lambda ⟨[],[⟨p,none,pa⟩],none,[],[],none,[]⟩ (.Call (.Attribute (.Name x p1) "append" p2) [.Name p p3] [] p4) scope pos) (ach i):=by
 refine ig (XD Sx hfn hl hcab hk hcode C hb hcl hd) ?_
 rintro σ H Q ⟨ι,e,M,w,q⟩
 unfold ach at q
 split at q
 ·rename_i l z
  obtain⟨v,hσ,dv⟩:=w.env i _ z
  obtain⟨hl',rfl⟩:=sO dv
  obtain⟨ps,hP,hT⟩:=w.rl.tab k hk1 hk2
  refine⟨i,ι l,ps,hN,hσ,hP,hT,λf H' m=> ?_⟩
  obtain⟨o,cv,oc,uc,m1,m2,m3,m4,m5⟩:=m.fn
  exact q ι (.ref f) H' (m.ext hP) (m.rl hP w.rl) (.fn m1 m2 m3 m4 m5 hl')
 ·exact q.elim
abbrev fnz(X:Cx)(g:Str->Bool):Cx:={X with fn:=g}
section
variable{X:Cx}{pins:List (Addr×Obj)}{σ:St}{H:Hp}{s:Shared}{W:bJ}{st:Stmt}{rest body:List Stmt}{t u:TS}{E:Value->Shared->Prop}
theorem acz(I:L2.Inv X pins σ H s)(hg:∀x,g x=true->X.fn x=true):L2.Inv (fnz X g) pins σ H s:=
 ⟨⟨I.ok.mod,I.ok.kind,I.ok.glob,I.ok.blt,I.ok.above,I.ok.inj,I.ok.has,λx c h=>I.ok.cab x c (hg x h),I.ok.hd,I.ok.frames,I.ok.stk,I.ok.exf,I.ok.bs,I.ok.YG,I.ok.XN,I.ok.Yi,I.ok.G7,I.ok.frf⟩,I.os,I.bare,I.base,I.loc,I.cell,I.free,
  λx c e=>(I.uQ x c e).imp (λz=>by
   cases q:g x with
   | false=>exact q
   | true=>rw[hg x q]at z;cases z) id λ_ _ z=>z,I.pin,I.hok,I.len⟩
def RC(X:Cx)(W:bJ)(st:List Stmt)(t:TS):Prop:=
 ∀(pins:List (Addr×Obj)) (s:Shared) (σ:St) (H:Hp) (D:Ends),L2.Inv X pins σ H s->t D σ H->wpAny (model X.prog X.w) X.A (execs st X.env) (λfl s'=>∃g,SP (fnz X g) pins D fl s') (λe s'=>∃g,j_ (fnz X g) W e s') s
theorem Xp(g:Str->Bool)(hg:∀x,g x=true->X.fn x=true)(h:RM ((fnz X g).wish (j_ (fnz X g) W)) body t):RC X W body t:=λpins s σ H D I q=>
 wT (h pins s σ H D ((acz I hg).wish _) q) (λ_ _ z=>⟨g,z.tR⟩) λ_ _ z=>⟨g,z⟩
theorem Xq(h1:PS (X.wish (j_ X W)) st t)(h2:RC X W rest u):RC X W (st::rest) (ahi t u):=by
 intro pins s σ H D I h
 refine wpAny_execs_cons (wT (h1 pins s σ H {D with nx:=u D} (I.wish _) h) (λf s1 q=> ?_) λ_ _ z=>⟨X.fn,z⟩)
 have q:=q.tR
 cases f with
 | next=>
  obtain⟨σ',H',I',q⟩:=q
  exact h2 pins s1 σ' H' D I' q
 | ret v=>exact⟨X.fn,q⟩
 | brk=>exact⟨X.fn,q⟩
 | cont=>exact⟨X.fn,q⟩
end
theorem afh{P:Program}{w:World}{K:Frag}{mg:Str->Option Value}{base:Heap}{N:List Str}{qual:Str}{scope:Scope}{f:Addr}{cd:Value}{A:Around}{outer:List PySem.Env}{s:Shared}{H:Hp}{E:XK}{W:bJ}{ev:Value}{s':Shared}{g:Str->Bool}
  (h:j_ (fnz (t7 (zq P w) P w K mg base N qual scope f cd A outer s H E) g) W ev s') (hE:∀C dx σ H',W C dx σ H'->E (.ref C) (some dx) H'):
  (t7 (zq P w) P w K mg base N qual scope f cd A outer s H E).xe ev s':=by
 obtain⟨e,C,dx,T,fl,pins,σ,H',rfl,I,x,hfl,fe,fT,hW⟩:=h
 show wpAny _ _ (leaving _ (.ref e)) _ _ s'
 refine V5 I.ok.frames I.stack rfl x hfl λh2 T' hT k x'=> ?_
 have hTn:∀t,T=some t->H' t=none:=λt z=>(fT t z).no
 have nT:s.heap.objs.size<=T':=by
  rcases hT with r | r
  ·exact(fT T' r).new
  ·exact yY I.sz r
 have fT':H' T'=none:=by
  rcases hT with r | r
  ·exact hTn T' r
  ·exact I.hok.fresh r
 have ok2:=I_ I.hok k fe.no hTn I.F_
 have ne:∀b o,s.heap.get? b=some o->b≠e/\some b≠T:=λb o q=>⟨λz=>absurd (yA (zS q) (z▸fe.new)) (wP _),λz=>absurd (yA (zS q) (fT b z.symm).new) (wP _)⟩
 have nL:∀b o,s.heap.get? b=some o->b≠s.heap.objs.size:=λb o q=>xD (zS q)
 refine⟨e,C,dx,T',H',rfl,I.os,I.bare,⟨λb o q n hb _=> ?_,λb o q n hb _=> ?_,λb o q n _=>I.base.free b o q n (by simp[t7]),λb o q _=> ?_,I.base.tups,I.base.zb,I.base.BK⟩,ok2,x',fe.new,nT,fe.no,fT',hE C dx σ H' hW⟩
 ·obtain⟨n1,n2⟩:=ne b o q
  refine k.2.1 b o n1 n2 (λz=> ?_) (I.base.keep b o q n hb (by simp[t7]))
  rcases List.mem_cons.mp (I.KN b z)with y | y
  ·exact nL b o q y
  ·exact hb y
 ·obtain⟨n1,n2⟩:=ne b o q
  obtain⟨sl,q1⟩:=I.base.slot b o q n hb (by simp[t7])
  obtain⟨sl2,q2⟩:=k.2.2 b _ n1 n2 q1
  exact⟨sl2,q2⟩
 ·obtain⟨n1,n2⟩:=ne b o q
  obtain⟨o1,q1⟩:=I.base.there b o q (by simp[t7])
  obtain⟨sl2,q2⟩:=k.2.2 b _ n1 n2 q1
  exact⟨_,q2⟩
theorem afz{P:Program}{w:World}{K:Frag}{mg:Str->Option Value}{base:Heap}{k:Nat}{f:Addr}{name qual:Str}{params:Arguments}{body:List Stmt}{scope:Scope}{dV kV doc pm cdv ct oc:Value}{an od:Option Addr}
  {osl:Array (Option Value)} {N ps:List Str} {sp:Sp} (lk:K.lookup f=some ⟨oc,od,.func (fnOf name qual params body scope dV kV doc pm an cdv ct),osl⟩) (hcd:codeIn K cdv qual=true) (S:uI N ps scope)
  (len:∀vs H Q E,sp vs H Q E->vs.length=ps.length)
  (hbody:∀(A:Around) (outer:List PySem.Env) (s:Shared) (H:Hp) (vs:List V) (Q:VK) (E:XK),lY k (A.deeper (envOfC qual scope s.heap.objs.size f cdv))->sp vs H Q E->
   ∃t W,(∀C dx σ H',W C dx σ H'->E (.ref C) (some dx) H')/\RC (t7 (zq P w) P w K mg base N qual scope f cdv A outer s H E) W body t/\t {nx:=λ_ H'=>Q .non H',rt:=Q} (start N vs) H):
  lg P w K mg base (zq P w) (k+1) f (fnOf name qual params body scope dV kV doc pm an cdv ct) ps sp:=by
 refine⟨len,λA outer s H args us vs Q E hr e0 hb r hsp=> ?_⟩
 have hl:=len _ _ _ _ hsp
 have KX:K.In s.heap:=e0.mod.kin.keeps λb o e=>(e0.bs b o e).1
 have lim:s.heap.NoLimit:=e0.mod.nolimit.keeps λb o e=>(e0.bs b o e).1
 have hkind:∀y∈ps.zip us,scope.names.lookup y.1=some .local\/(scope.names.lookup y.1=some .cell/\((cellsFrom (s.heap.objs.size+1) scope.names []).lookup y.1).isSome=true):=λ⟨n,v⟩ hy=>by
  rcases S.par n (List.of_mem_zip hy).1 with q | q
  ·exact .inl q
  ·exact .inr ⟨q,PySem.W.cellsFrom_some _ _ _ (.inl q)⟩
 refine codeAny_call_function hr.depth (KX _ _ lk) rfl S.co S.gen rfl (PySem.W.codeRec_of KX hcd) (hb _ _ _ _ ?_)
 refine wpAny_newFunctionEnv_cells S.kind hkind λenv he s1 x=> ?_
 subst he
 refine⟨lim.keeps x.toInCall.keep,codeAny_func ?_⟩
 obtain⟨t,W,hE,ht,hq⟩:=hbody A outer s H vs Q E (hr.deeper _) hsp
 have I:L2.Inv (t7 (zq P w) P w K mg base N qual scope f cdv A outer s H E) [] (start N vs) H s1:=O9 S hr.hd e0 hl r x
 refine wT (ht [] s1 (start N vs) H _ I hq) (?_) λe s' ⟨g,hs⟩=>afh hs hE
 rintro fl s' ⟨g,hs⟩
 have fin:∀{σ':St} {H':Hp} {v:V} {u:Value},L2.Inv (fnz (t7 (zq P w) P w K mg base N qual scope f cdv A outer s H E) g) [] σ' H' s'->RelV v u->Q v H'->CE outer P w H s Q u s':=
  λ{σ' H' v u} J rv q=>⟨v,H',J.os,J.bare,J.base,J.hok,rv,q⟩
 cases fl with
 | ret u=>
  obtain⟨v,σ',H',J,rv,q⟩:=hs
  exact fin J rv q
 | next=>
  obtain⟨σ',H',J,q⟩:=hs
  exact fin (v:=V.non) (u:=Value.none) J rfl q
 | brk=>
  obtain⟨_,_,_,q⟩:=hs
  exact False.elim q
 | cont=>
  obtain⟨_,_,_,q⟩:=hs
  exact False.elim q
def ac3(X:Cx)(ct:Nat->Addr)(W:bJ)(st:List Stmt)(m:MS):Prop:=RC X W st (tS X.K ct W m)
section
variable{X:Cx}{ct:Nat->Addr}{W:bJ}{st:Stmt}{rest:List Stmt}{s t:MS}
theorem Zk(g:Str->Bool)(hg:∀x,g x=true->X.fn x=true)(h:SSs ((fnz X g).wish (j_ (fnz X g) W)) ct W rest t):ac3 X ct W rest t:=Xp g hg h
theorem RC.imp(h:RC X W body a)(hi:∀T σ H,b T σ H->a T σ H):RC X W body b:=λpins s σ H D I q=>h pins s σ H D I (hi D σ H q)
theorem BZ(h1:SS (X.wish (j_ X W)) ct W st s)(h2:ac3 X ct W rest t):ac3 X ct W (st::rest) (aP s t):=RC.imp (Xq h1 h2) λT σ H ⟨ι,e,M,w,p⟩=>by
 refine⟨ι,e,M,w,?_⟩
 unfold aP at p
 cases z:s e M with
 | next e1 M1=>rw[z]at p;exact λι' σ' H' x w'=>⟨ι',e1,M1,w',Ep.ext p x⟩
 | _=>rw[z]at p;exact p
end
section
variable{P:Program}{w:World}{K:Frag}{mg:Str->Option Value}{base:Heap}{ct:Nat->Addr}
theorem akY{n ar:Nat}{b:MS}{x qual:Str}{st:Stmt}{dV:Value}{f:Addr}{fd:FuncData}{N ps:List Str}{k:Nat}(F:bw K x qual st dV f fd)(S:uI N ps (az st))(hn:N.length=n)(har:ps.length=ar)
  (hbody:∀(cdv:Value) (A:Around) (outer:List PySem.Env) (s:Shared) (H:Hp) (E:XK) (W:bJ),fd.code=cdv->lY k (A.deeper (envOfC qual (az st) s.heap.objs.size f cdv))->
   ac3 (t7 (zq P w) P w K mg base N qual (az st) f cdv A outer s H E) ct W (aD st) b):
  lg P w K mg base (zq P w) (k+1) f fd ps (spS K ct (aY n b) ar):=by
 subst hn har
 obtain⟨oc,od,kV,doc,pm,an,cdv,ctv,osl,rfl,lk,hcd⟩:=F.ex
 refine lg.gc (sp:=λvs H Q' E=>∃Q,spS K ct (aY N.length b) ps.length vs H Q E/\Q'=gcK H Q) (afz lk hcd S (λvs H Q E ⟨Q0,⟨ι,ds,M,hl,_,hd,_⟩,_⟩=>by rw[hd.length,hl]) λA outer s H vs Q' E hr hsp=> ?_) λvs H Q E q=>⟨Q,q,rfl⟩
 obtain⟨Q,⟨ι,ds,M,hl,R,hd,p⟩,rfl⟩:=hsp
 refine⟨_,λC dx _ H'=>E (.ref C) (some dx) H',λC dx σ H' z=>z,hbody cdv A outer s H E _ rfl hr,ι,slots N.length ds,M,Ws.start N R hd,?_⟩
 unfold aY at p
 cases z:b (slots N.length ds) M with
 | ret d M'=>rw[z]at p;exact λι' v H' x r q=> .inl (p ι' v H' x r q)
 | next e M'=>rw[z]at p;exact λι' σ' H' x w'=> .inl (p ι' .non H' x w'.rl .non)
 | exc c d e M'=>rw[z]at p;exact λι' σ' dx v H' x w' q1 q2=>p ι' dx v H' x w'.rl q1 q2
 | brk e M'=>rw[z]at p;exact p.elim
 | cont e M'=>rw[z]at p;exact p.elim
 | bad=>rw[z]at p;exact p.elim
end
theorem X6{P:Program}{w:World}{K:Frag}{mg mb:Str->Option Value}{CX:W8}{k:Nat}{fa a:Addr}{fd:FuncData}{x:Str}{sp:Sp}{s₁:Shared}{vs:List Value}{ns:List Int}{tabs:List (Addr×Addr)}
  (KX:K.In s₁.heap) (hns:s₁.heap.Ns mainGlobals mg) (hb:s₁.heap.Ns builtinsNs mb) (hbb:∀x:Str,x≠ "__name__" -> mb x=bootBuiltins x) (hlim:s₁.heap.NoLimit) (hg:s₁.gens= #[])
  (ha:s₁.heap.get? a=some {cls:= .type "list",data:= .seq vs.toArray}) (hi:IntsAre vs ns) (hl:ns.length<=sizeLine) (hr:lY k callerA)
  (hT:PySem.W.TabsAt tabs s₁.heap) (hKt:∀q∈tabs,K.lookup q.2=none) (hbi:∀q∈tabs,s₁.heap.BuiltinsAt mg q.2)
  (F:∀base:Heap,K.In base->base.Ns mainGlobals mg->(∀q∈tabs,PySem.W.CodeHd base q.1 q.2/\base.BuiltinsAt mg q.2)->lg P w K mg base CX k fa fd [x] sp) (hbind:∀(s:Shared) (u:Value),BindsTo s fd ⟨[u],[]⟩ [(x,u)])
  (hsp:∀H:Hp,(∀q∈tabs,H q.2=some (.zu #[]))->YK K H a (ns.map V.int)->sp [.ref a] H (λv _=>v= .bl true) λ_ _ _=>False)
  (hCX:∀H e s',CX [] H s₁ (λ_ _ _=>False) e s'->False):
  codeAny (model P w) callerA (.call (.ref fa) ⟨[.ref a],[]⟩) (λr s'=>r= .ok (.ret (.bool true))/\OldK s₁.heap s'.heap/\s'.os=s₁.os/\AllBare s'.gens) s₁:=by
 have rv:=HF hi
 have lenV:=hi.length
 have core:∀H:Hp,(∀b,H b=none\/(b=a/\∃o xs,H b=some (.gW o (.lst xs)))\/∃q∈tabs,b=q.2/\H b=some (.zu #[]))->(∀q∈tabs,H q.2=some (.zu #[]))->YK K H a (ns.map V.int)->yM P w H s₁.heap->(H a≠none->K.lookup a=none)->
   codeAny (model P w) callerA (.call (.ref fa) ⟨[.ref a],[]⟩) (λr s'=>r= .ok (.ret (.bool true))/\OldK s₁.heap s'.heap/\s'.os=s₁.os/\AllBare s'.gens) s₁:=by
  intro H hO hH hS hok hK
  have Kr:∀{b:Addr} {o:Obj},s₁.heap.get? b=some o->H b=none->(MF s₁.heap H).get? b=some o:=λe n=>aaH e n
  have noT:∀{b:Addr} {o:Obj},s₁.heap.get? b=some o->o.cls≠ .type "list" -> o.cls≠ .none->H b=none:=λ{b o} e n1 n2=>by
   rcases hO b with z | ⟨rfl,_⟩ | ⟨q,hq,rfl,_⟩
   ·exact z
   ·rw[ha]at e;cases e;exact absurd rfl n1
   ·rw[(hT q hq).2]at e;cases e;exact absurd rfl n2
  have noA:∀{b:Addr} {o:Obj} {es:Array DictEntry} {ep:Nat},s₁.heap.get? b=some o->o.data= .dict es ep->H b=none:=λ{b o es ep} e d=>by
   rcases hO b with z | ⟨rfl,_⟩ | ⟨q,hq,rfl,_⟩
   ·exact z
   ·rw[ha]at e;cases e
    have d':Data.seq vs.toArray _=Data.dict es ep:=d
    cases d'
   ·rw[(hT q hq).2]at e;cases e;cases d
  have nsK:∀{b:Addr} {m:Str->Option Value},s₁.heap.Ns b m->(MF s₁.heap H).Ns b m:=λ{b m} ⟨o,es,ep,e,d,r⟩=>⟨o,es,ep,Kr e (noA e d),d,r⟩
  have hKb:K.In (MF s₁.heap H):=λb o e=>Kr (KX b o e) (by
   rcases hO b with z | ⟨rfl,o2,xs,z⟩ | ⟨q,hq,rfl,_⟩
   ·exact z
   ·rw[hK (by rw[z];simp)]at e;cases e
   ·rw[hKt q hq]at e;cases e)
  have hTb:∀q∈tabs,PySem.W.CodeHd (MF s₁.heap H) q.1 q.2/\(MF s₁.heap H).BuiltinsAt mg q.2:=λq hq=>by
   obtain⟨o,us,file,tf,flags,tg,inF,text,tt,e1,r1,r⟩:=(hT q hq).1
   obtain⟨bm,ob,b1,b2,b3,b4,b5,b6,r'⟩:=hbi q hq
   exact⟨⟨o,us,file,tf,flags,tg,inF,text,tt,Kr e1 (noT e1 (by rw[r1];decide) (by rw[r1];decide)),r1,r⟩,bm,ob,b1,b2,b3,b4,Kr b5 (noT b5 (by rw[b6];decide) (by rw[b6];decide)),b6,r'⟩
  have hM:Mod K mg (MF s₁.heap H):=⟨hKb,nsK hns,⟨mb,nsK hb,hbb⟩,let⟨mc,h1,h2⟩:=hlim;⟨mc,nsK h1,h2⟩⟩
  have e0:Uc P w K mg (MF s₁.heap H) callerA [] s₁ H:=⟨rfl,hM,λb o e=>ab6 e,Nat.le_of_eq (Ye _ _),trivial,λb hb=>absurd (show b∈([]:List Addr)from hb) (by simp),hok,.of_eq hg⟩
  refine codeAny_mono ((F _ hKb (nsK hns) hTb).run callerA [] s₁ H ⟨[.ref a],[]⟩ [.ref a] [.ref a] _ _ hr e0 (hbind s₁ (.ref a)) (.cons rfl .nil) (hsp H hH hS)) λr s' h=> ?_
  cases r with
  | error e=>exact(hCX H e s' h).elim
  | ok fl=>
   cases fl with
   | next=>exact False.elim h
   | brk=>exact False.elim h
   | cont=>exact False.elim h
   | ret u=>
    obtain⟨v,H',os,bare,un,hok',r',q⟩:=h
    have q':v= .bl true:=q
    subst q'
    obtain rfl:u=Value.bool true:=r'
    have key:∀b o,s₁.heap.get? b=some o->s'.heap.get? b=some o\/∃q∈tabs,b=q.2/\∃more,s'.heap.get? b=some (PySem.W.tabObj (#[]++more)):=λb o e=>by
     rcases hO b with z | ⟨rfl,ob,xs,z⟩ | ⟨q,hq,rfl,z⟩
     ·exact .inl (un.keep b o e z (by intro z;exact absurd (show b∈([]:List Addr)from z) (by simp)) (by simp))
     ·have z2:=un.zb b ob _ z
      obtain⟨e1,_⟩:=hok b _ z
      obtain⟨e2,_⟩:=hok' b _ z2
      rw[e]at e1;cases e1
      exact .inl e2
     ·obtain⟨more,z2⟩:=un.BK _ _ z
      exact .inr ⟨q,hq,rfl,more,hok' _ _ z2⟩
    refine⟨rfl,⟨λb o e=> ?_,λb o e=> ?_⟩,os,bare⟩
    ·rcases key b o e with z | ⟨q,hq,rfl,more,z⟩
     ·exact .inl z
     ·have e2:=(hT q hq).2
      rw[e]at e2;cases e2
      obtain⟨o,us,file,tf,flags,tg,inF,text,tt,e1,r1,r2,r3,r4⟩:=(hT q hq).1
      exact .inr (.inl ⟨⟨q.1,o,us,e1,r1,r2,r3⟩,rfl,#[],more,rfl,z⟩)
    ·rcases key b o e with z | ⟨q,hq,rfl,more,z⟩
     ·exact⟨_,z⟩
     ·exact⟨_,z⟩
 have aT:a∉tabs.map (·.2):=λz=>by
  obtain⟨q,hq,e⟩:=List.mem_map.mp z
  have:=(hT q hq).2
  rw[e,ha]at this
  cases this
 have tH:∀{b:Addr},b∈tabs.map (·.2)->fu P w (λ_=>none) s₁.heap b (.zu #[]):=λ{b} z=>by
  obtain⟨q,hq,rfl⟩:=List.mem_map.mp z
  exact(hT q hq).2
 cases hk:K.lookup a with
 | some o=>
  have e:=KX a o hk
  rw[ha]at e
  cases e
  refine core (λb=>if b∈tabs.map (·.2)then some (.zu #[])else none) (λb=> ?_) (λq hq=>if_pos (List.mem_map_of_mem hq)) (.inr ⟨_,vs.toArray,_,hk,rfl,rfl,rfl,by rw[List.size_toArray,lenV];exact hl,by simpa using rv⟩) (λb u z=> ?_) λz=>absurd (if_neg aT) z
  ·by_cases hb:b∈tabs.map (·.2)
   ·obtain⟨q,hq,e⟩:=List.mem_map.mp hb
    exact .inr (.inr ⟨q,hq,e.symm,if_pos hb⟩)
   ·exact .inl (if_neg hb)
  ·by_cases hb:b∈tabs.map (·.2)
   ·have z':=(if_pos hb).symm.trans z
    cases z'
    exact tH hb
   ·have z':=(if_neg hb).symm.trans z
    cases z'
 | none=>
  refine core (λb=>if b∈tabs.map (·.2)then some (.zu #[])else if b=a then some (.gW {cls:= .type "list",data:= .seq vs.toArray} (.lst (ns.map V.int)))else none) (λb=> ?_) (λq hq=>if_pos (List.mem_map_of_mem hq)) (.inl ⟨{cls:= .type "list",data:= .seq vs.toArray},(if_neg aT).trans (if_pos rfl)⟩) (λb u z=> ?_) λ_=>hk
  ·by_cases hb:b∈tabs.map (·.2)
   ·obtain⟨q,hq,e⟩:=List.mem_map.mp hb
    exact .inr (.inr ⟨q,hq,e.symm,if_pos hb⟩)
   ·by_cases hb2:b=a
    ·exact .inr (.inl ⟨hb2,_,_,(if_neg hb).trans (if_pos hb2)⟩)
    ·exact .inl ((if_neg hb).trans (if_neg hb2))
  ·by_cases hb:b∈tabs.map (·.2)
   ·have z':=(if_pos hb).symm.trans z
    cases z'
    exact tH hb
   ·by_cases hb2:b=a
    ·have z':=((if_neg hb).trans (if_pos hb2)).symm.trans z
     cases z'
     subst hb2
     exact⟨ha,by rw[zak];exact hl,vs,_,rv,ha⟩
    ·have z':=((if_neg hb).trans (if_neg hb2)).symm.trans z
     cases z'
theorem TJ(T:PyProof.Rows.Top p loose mean mg mb h)(hP:h.get? P=some (PySem.W.tabObj #[])):h.BuiltinsAt mg P:=by
 obtain⟨bm,ob,b1,b2,b3,b4,b5,b6⟩:=T.bmain
 refine⟨bm,ob,b1,b2,λq=> ?_,λq=> ?_,b3,b4,b5,b6⟩
 ·obtain⟨o,es,ep,e,hd,_⟩:=T.g
  rw[q,e]at b3;cases b3;rw[hd]at b6;cases b6
 ·rw[q,hP]at b3;cases b3;cases b4
theorem abg:TabOk H #[]:=⟨trivial,λpos cv z=>by
 have:codeAmong pos []=none:=rfl
 rw[show(#[]:Array Value).toList=[]from rfl,this]at z
 cases z⟩
theorem aha{l:PySem.W.OpenLaw}{q:Program}{loose:List Str}{XP:(Str->Option Value)->Heap->Prop}{YP:World->Heap->Prop}{d:DefRec}{K:Params->Frag}{x:Str}{k:Nat}(hn:l.most=some 63)(hdf:d.params.defaults=[])(hr:lY k callerA)
  (hY:∀(w:World) (h:Heap),YP w h->(K w.params).In h)
  (F:∀(w:World) (mg:Str->Option Value) (fa:Addr) (h:Heap),(K w.params).In h->h.Ns mainGlobals mg->mg d.name=some (.ref fa)->
   ∃(fd:FuncData) (tabs:List (Addr×Addr)) (ct:Nat->Addr),(∀(s:Shared) (u:Value),BindsTo s fd ⟨[u],[]⟩ [(x,u)])/\
    (∀z∈tabs,∃nm dd,PySem.W.tabIn (K w.params) nm=some z/\(recsOf q).find? (λe=>e.name==nm)=some dd)/\(∀z∈tabs,(K w.params).lookup z.2=none)/\(∀k',1000<=k'->ct k'≠0->∃z∈tabs,ct k'=z.2)/\
    ∀base:Heap,(K w.params).In base->base.Ns mainGlobals mg->(∀z∈tabs,PySem.W.CodeHd base z.1 z.2/\base.BuiltinsAt mg z.2)->lg l.prog w (K w.params) mg base CX0 k fa fd [x] (adZ (K w.params) ct)):
  PySem.W.WalkO q loose XP YP l.row.toRowW d [] (λf vs=>PySem.call f vs):=by
 refine Att.TY hn hdf λw s₀ s₁ mg mb fa o pm cd doc a vs ns G Y ho hd hcd hmg hobj hints hlen hg=> ?_
 have KX:=hY w _ Y
 obtain⟨fd,tabs,ct,hb,h1,h2,h3,hF⟩:=F w mg fa _ KX G.T.g hmg
 have hT:PySem.W.TabsAt tabs s₁.heap:=λz hz=>by
  obtain⟨nm,dd,e1,e2⟩:=h1 z hz
  exact PySem.W.tab_of G.T KX e2 e1
 refine X6 KX G.T.g G.T.b G.T.builtins G.T.nolimit hg hobj hints (yY hlen (by decide)) hr hT h2 (λz hz=>TJ G.T (hT z hz).2) hF hb (λH hH hS=>⟨a,ns,rfl,hS,hlen,λk' hk hc=> ?_,λ_=>rfl⟩) λ_ _ _ z=>z
 obtain⟨z,hz,e⟩:=h3 k' hk hc
 exact⟨#[],by rw[e];exact hH z hz,abg⟩
structure Mk0(K:Frag)(C:Addr):Prop where
 makes:PySem.W.makesIn K C=true
 init:findIn K (.ref C) "__init__" = some (some (.builtin "object.__init__"))
 kp:keepIn K (.ref C)=true
def Wa(C:Addr):TE:=λ_ H Q=>∀x dx,H x=none->H dx=none->dx≠x->Q (.ref x) (upd (upd H dx (.own x)) x (.ins C dx []))
section
variable{X:Cx}{ct:Nat->Addr}{W:bJ}{C:Addr}
theorem U3(M:Mk0 X.K C)(I:L2.Inv X pins σ H s)(h:Wa C σ H Q):wpAny (model X.prog X.w) X.A (call (.ref C) []) (EP X pins σ Q) X.xe s:=by
 have hq:=h (s.heap.objs.size+1) s.heap.objs.size (I.hok.fresh (Nat.le_succ _)) (I.hok.fresh (jS _)) (xD (Nat.lt_succ_self _))
 have I2:=L2.Inv.made (C:=C) I
 have Y:=PySem.W.makes_of (M:=model X.prog X.w) I.Fi M.makes
 refine wpAny_call (XS I.Fi M.makes M.init (λself=>PySem.W.Looks.of_pure (PySem.W.oi_bind self)) ?_)
 have g1:((s.heap.push PySem.W.emptyDict).push (PySem.W.instObj C s.heap.objs.size)).get? (s.heap.objs.size+1)=some (PySem.W.instObj C s.heap.objs.size):=by
  have:=yB (s.heap.push PySem.W.emptyDict) (o:=PySem.W.instObj C s.heap.objs.size) rfl
  rw[Heap.size_push]at this
  exact this
 have t1:PySem.W.Looks (model X.prog X.w) ((s.heap.push PySem.W.emptyDict).push (PySem.W.instObj C s.heap.objs.size)) (typeOf (.ref (s.heap.objs.size+1))) (.ref C):=(PySem.W.Looks.ld g1).andThen .now
 have t2:PySem.W.Looks (model X.prog X.w) ((s.heap.push PySem.W.emptyDict).push (PySem.W.instObj C s.heap.objs.size)) (isInstance (.ref (s.heap.objs.size+1)) (.type "object")) true:=t1.andThen (Y.top.keeps λb o e=>zD _ (zD _ e))
 obtain⟨hh,g,d,t,os⟩:=s
 refine codeAny_call_builtin PySem.W.oi_plain PySem.W.entry_oi (@PySem.W.check_slot (model X.prog X.w) _ _ _ "object.__init__" "object" "__init__" (.ref (hh.objs.size+1)) [] [] _ PySem.W.oi_kind PySem.W.oi_split t2 (PySem.W.oi_args (.ref (hh.objs.size+1))) ?_)
 rw[PySem.W.oi_run]
 exact zI (And.intro rfl ⟨V.ref (hh.objs.size+1),_,I2,rfl,hq⟩)
theorem XC(M:Mk0 X.K C)(hg:Gl X x)(hm:X.mg x=some (.ref C))(hdb:(x==("__debug__" : Str))=false:=by decide):PE X (.Call (.Name x p) [] [] pos) (Wa C):=by
 intro pins s σ H Q I h
 refine wpAny_Call_Name_kw (GK I hg hm ?_ hdb)
 exact PySem.W.callWith_K0 I.Fi M.kp (U3 M I h)
noncomputable def Kg(c:Nat):ME:=λ_ M=> .ok (.ref M.length) (M++[.ins c []])
@[simp] theorem afc:Kg c e M= .ok (.ref M.length) (M++[.ins c []]):=id rfl
theorem Ov(M:Mk0 X.K (ct kc))(hg:Gl X x)(hm:X.mg x=some (.ref (ct kc)))(hdb:(x==("__debug__" : Str))=false:=by decide):SE X ct W (.Call (.Name x p) [] [] pos) (Kg kc):=by
 refine ig (XC M hg hm hdb) ?_
 rintro σ H Q ⟨ι,e,M,w,q⟩
 refine λa dx ha hdx ne=> ?_
 have x1:Ext X.K ι M.length H ι M.length (upd H dx (.own a)):=Ext.fresh hdx
 have r1:Rl X.K ct ι M (upd H dx (.own a)):=w.rl.fresh hdx
 have ha':upd H dx (.own a) a=none:=by rw[aO (Ne.symm ne)];exact ha
 have x2:Ext X.K ι M.length (upd H dx (.own a)) (lV ι M.length a) (M.length+1) (upd (upd H dx (.own a)) a (.ins (ct kc) dx [])):=Ext.new ha'
 have r2:Rl X.K ct (lV ι M.length a) (M++[MO.ins kc []]) (upd (upd H dx (.own a)) a (.ins (ct kc) dx [])):=r1.new ha' ⟨dx,[],bB,.nil⟩
 have el:(M++[MO.ins kc []]).length=M.length+1:=by simp
 refine q (lV ι M.length a) (.ref a) _ (by rw[el];exact x1.trans x2) r2 ?_
 have hd:lV ι M.length a M.length=a:=by unfold lV;rw[if_pos rfl]
 have:=DV.ref (K:=X.K) (ct:=ct) (ι:=lV ι M.length a) (n:=(M++[MO.ins kc []]).length) (H:=upd (upd H dx (.own a)) a (.ins (ct kc) dx [])) (i:=M.length) (by rw[el];exact Nat.lt_succ_self _)
 rw[hd]at this
 exact this
end
structure OIs(K:Frag)(C:Addr):Prop where
 cl:Ny K C
 ha:findIn K (.ref C) "__class__" = some (some (.builtin "object.__class__"))
 hn:PySem.W.specialIn K (.builtin "object.__class__") "__get__" = some (some (.builtin "getset_descriptor.__get__"))
 tk:PySem.W.takesIn K (.builtin "object.__class__")=some true
 mr:PySem.W.mroIn K C (.type "object")=some true
def T7(K:Frag)(ct:Nat->Addr)(k:Nat):List (Nat×Bool)->Prop
 | []=>True
 | (c,b)::r=>(kitOne K (.ref (ct c)) (.ref (ct k))=some b/\OIs K (ct c))/\T7 K ct k r
theorem T7.get{K:Frag}{ct:Nat->Addr}{k:Nat}:∀{cl:List (Nat×Bool)} {c:Nat} {b:Bool},T7 K ct k cl->cl.lookup c=some b->kitOne K (.ref (ct c)) (.ref (ct k))=some b/\OIs K (ct c)
 | [],_,_,_,e=>by cases e
 | (c',b')::r,c,b,h,e=>by
  rw[List.lookup_cons]at e
  cases z:c==c' with
  | true=>rw[z]at e;cases e;rw[eq_of_beq z];exact h.1
  | false=>rw[z]at e;exact T7.get h.2 e
noncomputable def Qi(k:Nat)(cl:List (Nat×Bool)):RP:=λds M=>match ds with
 | [.ref n,.cls k']=>if k=k' then(match M[n]? with
  | some (.ins c _)=>(match cl.lookup c with
   | some b=> .ok (.bl b) M
   | none=> .bad)
  | _=> .bad)else .bad
 | _=> .bad
theorem K8(h:M[n]? = some (.ins c fs))(hb:cl.lookup c=some b):Qi k cl [.ref n,.cls k] M= .ok (.bl b) M:=by
 simp only[Qi,if_true,h,hb]
theorem aaV(h:T7 X.K ct k cl):vQ X ct (.builtin "isinstance") (Qi k cl):=by
 refine⟨_,TF,λι M H ds vs Q R hd p=> ?_⟩
 unfold Qi at p
 split at p
 ·rename_i n k'
  obtain⟨v,v',rfl,q,q'⟩:=acF hd
  cases q'
  by_cases z:k=k'
  ·subst z
   rw[if_pos rfl]at p
   split at p
   ·rename_i c fs e
    cases z2:cl.lookup c with
    | none=>rw[z2]at p;exact p.elim
    | some b=>
     rw[z2]at p
     obtain⟨hn,rfl⟩:=sO q
     obtain⟨dx,us,hH,_⟩:=R.obj n _ e
     unfold aes
     exact⟨_,_,.ref (ct c),.ref (ct k),b,rfl,rfl,(let z:=(h.get z2).2;.ins hH z.cl z.ha z.hn z.tk z.mr),(h.get z2).1,p ι _ H .refl R (.bl b)⟩
   ·exact p.elim
  ·rw[if_neg z]at p;exact p.elim
 ·exact p.elim
theorem afl{p x y:Str}(h:List.lookup y [(p,NameKind.local),(x,NameKind.free)]=some NameKind.free):y=x:=by
 rw[List.lookup_cons]at h
 cases z:y==p with
 | true=>rw[z]at h;cases h
 | false=>
  rw[z]at h
  have h:List.lookup y [(x,NameKind.free)]=some NameKind.free:=h
  rw[List.lookup_cons]at h
  cases z2:y==x with
  | true=>exact eq_of_beq z2
  | false=>rw[z2]at h;cases h
theorem afk:a<=a+1+b:=yY (Nat.le_succ _) (Nat.le_add_right _ _)
theorem adS{K:Frag}{x:Str}{f c P:Addr}{oc oc2:Value}{od od2:Option Addr}{fd:FuncData}{sl sl2:Array (Option Value)}{vs:Array Value}(h1:nsIn K mainGlobals x=some (some (.ref f)))(h2:K.lookup f=some ⟨oc,od,.func fd,sl⟩)(h3:fd.code= .ref c)
  (h4:K.lookup c=some ⟨oc2,od2,.fields vs,sl2⟩) (h5:vs[11]? = some (.ref P)):PySem.W.tabIn K x=some (c,P):=by
 unfold PySem.W.tabIn
 rw[h1]
 simp only[h2,h3,h4,h5]
end S
namespace L2
open PySem PySem.Spec PyProof.Rows
section
variable{X:Cx}{pins:List (Addr×Obj)}{σ:St}{H:Hp}{s:Shared}{d:Addr}{o:Obj}{kvs:List (Key×V)}
def aa8(X:Cx)(d:Addr):Prop:=∀o u,X.H₀ d≠some (.gW o u)
theorem Inv.avs(I:Inv X pins σ H s)(e:H d=some (.dK kvs)):aa8 X d:=λo u q=>by
 have:=I.base.zb d o u q
 rw[e]at this;cases this
theorem Inv.acC(I:Inv X pins σ H s)(e:H d=some (.dK kvs))(ho:s.heap.get? d=some o):Inv X pins σ (upd H d (.gW o (.dK kvs))) s:=by
 have hk:∀b u,(∀ks,u≠ .dK ks)->H b=some u->upd H d (.gW o (.dK kvs)) b=some u:=λb u n q=>by
  rw[aO (λz=>by subst z;rw[e]at q;exact n _ (xI q).symm)];exact q
 have hz:∀b,H b=none->upd H d (.gW o (.dK kvs)) b=none:=λb q=>by
  rw[aO (λz=>by subst z;rw[e]at q;cases q)];exact q
 refine⟨I.ok,I.os,I.bare,⟨I.base.keep,I.base.slot,λb o q n z=>hz b (I.base.free b o q n z),I.base.there,λb xs q=>hk _ _ (λ_ z=>nomatch z) (I.base.tups b xs q),λb o u q=>hk _ _ (λ_ z=>nomatch z) (I.base.zb b o u q),λb ps q=> ?_⟩,
  I.loc,I.cell,hz _ I.free,λx c q=>(I.uQ x c q).imp id (hz _) λ_ _ z=>hk _ _ (λ_ z=>nomatch z) z,λp hp=> ?_,λb u q=> ?_,I.len⟩
 ·obtain⟨m,z⟩:=I.base.BK b ps q;exact⟨m,hk _ _ (λ_ z=>nomatch z) z⟩
 ·obtain⟨z1,z2,z3⟩:=I.pin p hp;exact⟨z1,hz _ z2,z3⟩
 ·by_cases z:b=d
  ·subst z
   rw[bB]at q;cases q
   exact⟨ho,(I.hok b _ e).stay (λ_ _ _ y=>y) (λb' y=>hk _ _ (λ_ z=>nomatch z) y) λb' xs y=>hk _ _ (λ_ z=>nomatch z) y⟩
  ·rw[aO z]at q
   exact(I.hok b u q).stay (λ_ _ _ y=>y) (λb' y=>hk _ _ (λ_ z=>nomatch z) y) λb' xs y=>hk _ _ (λ_ z=>nomatch z) y
theorem Inv.ahf(I:Inv X pins σ H s)(nf:aa8 X d)(e:H d=some (.gW o (.dK kvs))):Inv X pins σ (upd H d (.dK kvs)) s:=by
 have hk:∀b u,(∀a z,u≠ .gW a z)->H b=some u->upd H d (.dK kvs) b=some u:=λb u n q=>by
  rw[aO (λz=>by subst z;rw[e]at q;exact n _ _ (xI q).symm)];exact q
 have hz:∀b,H b=none->upd H d (.dK kvs) b=none:=λb q=>by
  rw[aO (λz=>by subst z;rw[e]at q;cases q)];exact q
 have ncd:∀x c,X.env.cells.lookup x=some c->c≠d:=λx c q z=>by
  subst z
  obtain⟨v,o',e1,e2⟩:=I.cell x c q
  obtain⟨_,_,_,_,o2,es,ep,ho,ex,hd,_⟩:=(show fu X.prog X.w H s.heap c (.gW o (.dK kvs))from I.hok c _ e).2
  rw[ho]at e1;cases e1;rw[hd]at e2;cases e2
 refine⟨I.ok,I.os,I.bare,⟨I.base.keep,I.base.slot,λb o q n z=>hz b (I.base.free b o q n z),I.base.there,λb xs q=>hk _ _ (λ_ _ z=>nomatch z) (I.base.tups b xs q),λb o' u q=> ?_,λb ps q=> ?_⟩,
  I.loc,I.cell,hz _ I.free,λx c q=>(I.uQ x c q).imp id (hz _) λ_ _ z=>by rw[aO (ncd x c q)];exact z,λp hp=> ?_,λb u q=> ?_,I.len⟩
 ·rw[aO (λz=>by subst z;exact nf _ _ q)]
  exact I.base.zb b o' u q
 ·obtain⟨m,z⟩:=I.base.BK b ps q;exact⟨m,hk _ _ (λ_ _ z=>nomatch z) z⟩
 ·obtain⟨z1,z2,z3⟩:=I.pin p hp;exact⟨z1,hz _ z2,z3⟩
 ·by_cases z:b=d
  ·subst z
   rw[bB]at q;cases q
   exact(show fu X.prog X.w H s.heap b (.gW o (.dK kvs))from I.hok b _ e).2.stay (λ_ _ _ y=>y) (λb' y=>hk _ _ (λ_ _ z=>nomatch z) y) λb' xs y=>hk _ _ (λ_ _ z=>nomatch z) y
  ·rw[aO z]at q
   exact(I.hok b u q).stay (λ_ _ _ y=>y) (λb' y=>hk _ _ (λ_ _ z=>nomatch z) y) λb' xs y=>hk _ _ (λ_ _ z=>nomatch z) y
theorem OJ{α β:Type}{F:α->β->Prop}:∀{l₁:List α} {l₂:List β},Paired F l₁ l₂->∀{i:Nat} {a:α} {b:β},l₁[i]? = some a->l₂[i]? = some b->F a b
 | _,_,.nil,_,_,_,h,_=>by simp at h
 | _,_,.cons r t,0,_,_,h,h'=>by simp at h h';subst h h';exact r
 | _,_,.cons r t,i+1,_,_,h,h'=>OJ t (by simpa using h) (by simpa using h')
theorem aaL(I:Inv X pins σ H s)(e:H d=some (.gW o (.dK kvs)))(hep:o.data= .dict es ep):∃vs,KV kvs vs/\s.heap.DictAt (jl X.prog X.w) d vs ep:=by
 obtain⟨ho,z,hd,vs,rel,o',es',ep',g,r1,r2,r3⟩:=(show fu X.prog X.w H s.heap d (.gW o (.dK kvs))from I.hok d _ e)
 rw[ho]at g;cases g
 rw[hep]at r2;cases r2
 exact⟨vs,rel,o,es,ho,r1,hep,r3⟩
end
end L2
namespace S
open PySem PySem.Spec PyProof.Rows L2
structure Wk(K:Frag)(H H':Hp):Prop where
 tup:∀a xs,H a=some (.tup xs)->H' a=some (.tup xs)
 gW:∀a xs,YK K H a xs->YK K H' a xs
 ex:∀a φ,H a=some (.ext φ)->H' a=some (.ext φ)
 xd:∀a fs,H a=some (.xd fs)->H' a=some (.xd fs)
 fz:∀a o u,(∀ks,u≠ .dK ks)->H a=some (.gW o u)->H' a=some (.gW o u)
 tb:∀a ps,H a=some (.zu ps)->H' a=some (.zu ps)
theorem aaM(ks:List (Key×V)):Fx≠ .dK ks:=λz=>nomatch z
theorem BJ.wk{K:Frag}{H H':Hp}{cv:Value}(e:Wk K H H')(h:BJ H cv):BJ H' cv:=
 let⟨c,oc,vs,q,t,a1,a2,r⟩:=h;⟨c,oc,vs,q,t,a1,e.fz _ _ _ aaM a2,r⟩
mutual
theorem DV.wk{K:Frag}{ct ι:Nat->Addr}{n:Nat}{H H':Hp}(e:Wk K H H'):∀{d:D} {v:V},DV K ct ι n H d v->DV K ct ι n H' d v
 | _,_,.non=> .non
 | _,_,.bl b=> .bl b
 | _,_,.int i=> .int i
 | _,_,.str x=> .str x
 | _,_,.tup h hs=> .tup (e.tup _ _ h) (oZ.wk e hs)
 | _,_,.ref h=> .ref h
 | _,_,.cl h hs=> .cl (e.gW _ _ h) (oZ.wk e hs)
 | _,_,.ty s=> .ty s
 | _,_,.cls c=> .cls c
 | _,_,.exc h1 h2 h3=> .exc (e.ex _ _ h1) (e.xd _ _ h2) (DV.wk e h3)
 | _,_,.Vz h hs=> .Vz h (oZ.wk e hs)
 | _,_,.fn h1 h2 h3 h4 h5 h6=> .fn (e.fz _ _ _ aaM h1) h2 (h3.wk e) (e.fz _ _ _ h5.2 h4) h5 h6
theorem oZ.wk{K:Frag}{ct ι:Nat->Addr}{n:Nat}{H H':Hp}(e:Wk K H H'):∀{ds:List D} {vs:List V},oZ K ct ι n H ds vs->oZ K ct ι n H' ds vs
 | _,_,.nil=> .nil
 | _,_,.cons h hs=> .cons (DV.wk e h) (oZ.wk e hs)
end
section
variable{K:Frag}{ct ι:Nat->Addr}{n:Nat}{H H':Hp}{M:Mem}{d:Addr}{o:Obj}{ys:List (Key×V)}
theorem Pz.wk(e:Wk K H H'):∀{fs:List (Str×D)} {vs:List (Str×V)},Pz K ct ι n H fs vs->Pz K ct ι n H' fs vs
 | _,_,.nil=> .nil
 | _,_,.cons h hs=> .cons (h.wk e) (Pz.wk e hs)
theorem Er.wk{κ:Type}(e:Wk K H H'):∀{fs:List (κ×D)} {vs:List (κ×V)},Er K ct ι n H fs vs->Er K ct ι n H' fs vs
 | _,_,.nil=> .nil
 | _,_,.cons h hs=> .cons (h.wk e) (Er.wk e hs)
theorem OR.wk(e:Wk K H H')(hh:H' a=H a)(h:OR K ct ι n H a x):OR K ct ι n H' a x:=by
 cases x with
 | lst ds=>obtain⟨vs,q,r⟩:=h;exact⟨vs,by rw[hh];exact q,r.wk e⟩
 | ins c fs=>obtain⟨dx,vs,q,r⟩:=h;exact⟨dx,vs,by rw[hh];exact q,r.wk e⟩
 | dk kvs=>obtain⟨vs,q,r⟩:=h;exact⟨vs,by rw[hh];exact q,r.wk e⟩
 | dt kvs=>obtain⟨vs,q,r⟩:=h;exact⟨vs,by rw[hh];exact q,r.wk e⟩
 | fd kvs=>obtain⟨o,vs,q,r⟩:=h;exact⟨o,vs,by rw[hh];exact q,r.wk e⟩
theorem Wk.Zc(h:H d=some (.gW o (.dK ys))):Wk K H (upd H d (.dK ys)) where
 tup:=λa xs q=>by rw[aO (λz=>by subst z;rw[h]at q;cases q)];exact q
 gW:=λa xs q=>by
  rcases q with⟨b,q⟩ | q
  ·exact .inl ⟨b,by rw[aO (λz=>by subst z;rw[h]at q;cases q)];exact q⟩
  ·exact .inr q
 ex:=λa φ q=>by rw[aO (λz=>by subst z;rw[h]at q;cases q)];exact q
 xd:=λa fs q=>by rw[aO (λz=>by subst z;rw[h]at q;cases q)];exact q
 fz:=λa o u n q=>by rw[aO (λz=>by subst z;rw[h]at q;cases q;exact n _ rfl)];exact q
 tb:=λa ps q=>by rw[aO (λz=>by subst z;rw[h]at q;cases q)];exact q
theorem T5.wk(e:Wk K H H')(h:T5 ct H):T5 ct H':=λk hk hc=>
 let⟨ps,a,t,b⟩:=h k hk hc
 ⟨ps,e.tb _ _ a,t,λpos cv z=>(b pos cv z).wk e⟩
theorem Rl.Zc(R:Rl K ct ι M H)(hi:i<M.length)(h:H (ι i)=some (.gW o (.dK ys)))(pv:Er K ct ι M.length H kvs ys):Rl K ct ι (M.set i (.dk kvs)) (upd H (ι i) (.dK ys)):=by
 refine⟨λj k hj hk e=>R.inj j k (by simpa using hj) (by simpa using hk) e,λj y hy=> ?_,R.tab.wk (K:=K) (Wk.Zc h)⟩
 rw[List.length_set]
 by_cases e:i=j
 ·subst e
  rw[zag hi]at hy
  cases hy
  exact⟨ys,bB,pv.wk (Wk.Zc h)⟩
 ·rw[zaf e]at hy
  have hj:j<M.length:=(List.getElem?_eq_some_iff.mp hy).1
  exact(R.obj j y hy).wk (Wk.Zc h) (aO λz=>e (R.inj i j hi hj z.symm))
theorem aaN(h1:H1 d=some (.dK ys1))(x:Ext K dU n1 (upd H1 d (.gW o1 (.dK ys1))) ι' n' H')(h':H' d=some (.gW o (.dK ys))):Ext K dU n1 H1 ι' n' (upd H' d (.dK ys)) where
 tup:=λa xs q=>by
  have ne:a≠d:=λz=>by subst z;rw[h1]at q;cases q
  rw[aO ne];exact x.tup a xs (by rw[aO ne];exact q)
 gW:=λa xs q=>by
  rcases q with⟨b,q⟩ | q
  ·have ne:a≠d:=λz=>by subst z;rw[h1]at q;cases q
   exact .inl ⟨b,by rw[aO ne];exact x.fz a b _ (by rw[aO ne];exact q)⟩
  ·exact .inr q
 ex:=λa φ q=>by
  have ne:a≠d:=λz=>by subst z;rw[h1]at q;cases q
  rw[aO ne];exact x.ex a φ (by rw[aO ne];exact q)
 xd:=λa fs q=>by
  have ne:a≠d:=λz=>by subst z;rw[h1]at q;cases q
  rw[aO ne];exact x.xd a fs (by rw[aO ne];exact q)
 fz:=λa b u q=>by
  have ne:a≠d:=λz=>by subst z;rw[h1]at q;cases q
  rw[aO ne];exact x.fz a b u (by rw[aO ne];exact q)
 le:=x.le
 same:=x.same
end
end S
namespace S
theorem aco{α:Type}{us:List α}(h:us.length=6):∃a b c d e f,us=[a,b,c,d,e,f]:=by
 match us,h with
 | [a,b,c,d,e,f],_=>exact⟨a,b,c,d,e,f,rfl⟩
end S
namespace L2
open PySem PySem.Spec PyProof.Rows
section
variable{X:Cx}{pins:List (Addr×Obj)}{σ:St}{H:Hp}{s:Shared}{d:Addr}{o:Obj}{kvs:List (Key×V)}
def Iti(d:Addr)(o:Obj)(kvs:List (Key×V)):It:=
 ⟨λi H=>H d=some (.gW o (.dK kvs))/\i<kvs.length,λi H x H'=>∃a p,H a=none/\kvs[i]? = some p/\x= .ref a/\H'=upd H a (.tup [kV p.1,p.2]),λi H=>H d=some (.gW o (.dK kvs))/\kvs.length<=i⟩
theorem Uq{P:Program}{w:World}{K:Frag}{es:List Expr}{n:Nat}{tp:Pos}{ee:Array DictEntry}{ep:Nat}(hep:o.data= .dict ee ep)(it:Addr):
  Turn P w K (.Tuple es n tp) (Iti d o kvs) [it] it (λi h=>∃ok ov,IsItemIter h it d i kvs.length ep ok ov) where
 mem:=by simp
 obj:=λi h st b hb=>by
  have e:b=it:=by simpa using hb
  subst e
  obtain⟨ok,ov,e⟩:=st
  exact⟨_,e,λv z=>by cases(show Data.fields _=Data.cell v from z)⟩
 keep:=λi h h' ⟨ok,ov,e⟩ k=>⟨ok,ov,k it (by simp) _ e⟩
 item:=by
  intro X hP hw hK hc i pins s σ H E I hf st hg
  subst hP hw hK
  obtain⟨hq,hi⟩:=hg
  obtain⟨ok,ov,st⟩:=st
  obtain⟨vs,rel,dd⟩:=aaL I hq hep
  have hl:vs.length=kvs.length:=rel.length.symm
  obtain⟨p,hp⟩:∃p,kvs[i]? = some p:=⟨_,zaa hi⟩
  obtain⟨q,hq2⟩:∃q,vs[i]? = some q:=⟨_,zaa ()⟩
  obtain⟨pq1,pq2⟩:=OJ rel hp hq2
  rw[<-hl]at st
  refine wpAny_pyNext_items_item (k:=q.1) (v:=q.2) st dd hq2 λkey h1 hkey ho hT hsz hk=>⟨_,rfl,wpAny_letOwnedTupleGo_items ho λh2 he2 hs2=> ?_⟩
  have hTe:s.heap.objs.size≠it:=xS (zS st)
  have hT2:h2.get? s.heap.objs.size=some {cls:= .type "tuple",data:= .seq #[key,q.2]}:=(hs2.2 _ hTe).trans hT
  have hf0:H s.heap.objs.size=none:=I.hok.fresh (jS _)
  have hfi:=hf it (by simp)
  refine⟨.ref s.heap.objs.size,upd H s.heap.objs.size (.tup [kV p.1,p.2]),?_,rfl,⟨_,p,hf0,hp,rfl,rfl⟩,⟨key,q.2,by rw[<-hl];exact he2⟩,λb hb=> ?_⟩
  ·refine I.Y_ (λb o n1 n2 eb=>(hs2.2 b n1).trans (hk b o n1 eb)) hfi hfi (jS _) ?_
   exact⟨Y8,[key,q.2],.cons (by rw[pq1];exact ajj hkey) (.cons pq2 .nil),⟨_,hT2,rfl,_,rfl⟩⟩
  ·have e:b=it:=by simpa using hb
   subst e
   rw[aO (Ne.symm hTe)]
   exact hfi.1
 done:=by
  intro X hP hw hK hc i pins s σ H E I hf st hg
  subst hP hw hK
  obtain⟨hq,hi⟩:=hg
  obtain⟨ok,ov,st⟩:=st
  obtain⟨vs,rel,dd⟩:=aaL I hq hep
  have hl:vs.length=kvs.length:=rel.length.symm
  obtain⟨f0,f1,f2,f3,f4,f5⟩:=hf it (by simp)
  rw[<-hl]at st
  exact wpAny_pyNext_items_end (I.ok.hd hc) st dd (List.getElem?_eq_none ()) λh' eb=>⟨rfl,I.turned (t':=s.toks) (λb o hb e=>eb b o hb e) f0 f1 f3 f4 f5⟩
 self:=λ_ _ _ _ _ ⟨_,_,st⟩ h=>PySem.W.kcp_self st h
def afv(tl:TE):TI:=λσ H R=>tl σ H λx H1=>∃v d kvs,x= .ref v/\H1 v=some (Ky v d)/\H1 d=some (.dK kvs)/\∀o,aa8 X d->kvs.length<=sizeLine->R (Iti d o kvs) (upd H1 d (.gW o (.dK kvs)))
theorem Z9(hl:PE X l tl):PI X (.Tuple es n tp) l (afv (X:=X) tl):=by
 intro pins s σ H R I h
 refine m_ (hl pins s σ H _ I h) ?_
 rintro v s1 ⟨x,H1,I1,r1,q1⟩
 obtain⟨vw,d,kvs,e,hv,hd,q⟩:=q1
 subst e
 cases r1
 obtain⟨z,hs,vs,rel,o,es',ep,g,r1,r2,r3⟩:=aaS I1.hok hd
 have view:s1.heap.IsItemsView vw d:=(show fu X.prog X.w H1 s1.heap vw (Ky vw d)from I1.hok vw _ hv).1
 refine wpAny_pyIter_items (knd:=jl X.prog X.w) (kvs:=vs) (ep:=ep) view (show s1.heap.DictAt (jl X.prog X.w) d vs ep from⟨o,es',g,r1,r2,r3⟩) ?_
 have I2:Inv X pins σ H1 {s1 with heap:=s1.heap.push {cls:= .type "dict_itemiterator",data:= .fields #[.none,.bool false,.ref d,.int 0 0,.int vs.length 0,.int ep 0,.none,.none]}}:=I1.kept (t':=s1.toks) λb o e=>zD _ e
 have g2:(s1.heap.push {cls:= .type "dict_itemiterator",data:= .fields #[.none,.bool false,.ref d,.int 0 0,.int vs.length 0,.int ep 0,.none,.none]}).get? d=some o:=zD _ g
 have I3:=I2.acC hd g2
 have hlt:d<s1.heap.objs.size:=zS g
 have hn:upd H1 d (.gW o (.dK kvs)) s1.heap.objs.size=none:=by
  rw[aO (xS hlt)];exact I1.hok.fresh (jS _)
 refine⟨s1.heap.objs.size,[s1.heap.objs.size],_,_,_,rfl,I3,Uq (o:=o) (kvs:=kvs) r2 _,⟨_,_,by rw[rel.length];exact yB _ rfl⟩,λb hb=> ?_,q o (I1.avs hd) z⟩
 have e:b=s1.heap.objs.size:=by simpa using hb
 subst e
 exact I1.Tn (jS _) hn
def ahh(X:Cx)(te:TE):TE:=λσ H Q=>te σ H λv H1=>∃d o kvs,aa8 X d/\H1 d=some (.gW o (.dK kvs))/\Q v (upd H1 d (.dK kvs))
theorem abW(h:PE X e te):PE X e (ahh X te):=by
 intro pins s σ H Q I q
 refine wT (h pins s σ H _ I q) (λu s' z=> ?_) λ_ _ z=>z
 obtain⟨v,H',I',r,d,o,kvs,nf,e',q'⟩:=z
 exact⟨v,_,I'.ahf nf e',r,q'⟩
end
end L2
namespace S
open PySem PySem.Spec PyProof.Rows L2
def Lj(p:Key×D):D:= .tup [afr p.1,p.2]
noncomputable def Oo(n:Nat)(o:Out D):Out D:=match o with
 | .ok d M=>match M[n]? with
  | some (.fd kvs)=> .ok d (M.set n (.dk kvs))
  | _=> .bad
 | _=> .bad
noncomputable def Nh(m:Nat)(js:List Nat)(g:Tg)(tt:MT)(te:ME)(e:Sl)(d:D)(M:Mem):Out D:=match d with
 | .ref n=>match M[n]? with
  | some (.dk kvs)=>Oo n (Eo none g m tt te (rO js e) (kvs.map Lj) [] (M.set n (.fd kvs)))
  | _=> .bad
 | _=> .bad
def Vi(m:Nat)(js:List Nat)(mo:ME)(g:Tg)(tt:MT)(te:ME):ME:=λe M=>(mo e M).bind λd M1=>Nh m js g tt te e d M1
section
variable{X:Cx}{ct:Nat->Addr}{W:bJ}{pos:Pos}
theorem pairs_at{K:Frag}{ι:Nat->Addr}{n:Nat}{H:Hp}:∀{kvs:List (Key×D)} {ys:List (Key×V)},Er K ct ι n H kvs ys->∀{i:Nat} {p:Key×V},ys[i]? = some p->∃q,kvs[i]? = some q/\q.1=p.1/\DV K ct ι n H q.2 p.2
 | _,_,.nil,_,_,h=>by simp at h
 | _,_,.cons (d:=d) r t,0,_,h=>by simp at h;subst h;exact⟨(_,d),rfl,rfl,r⟩
 | _,_,.cons r t,i+1,_,h=>by
  obtain⟨q,h1,h2⟩:=pairs_at t (i:=i) (by simpa using h)
  exact⟨q,by simpa using h1,h2⟩
theorem Zv(hc:X.calm=true)(xs cs:List Str)(js:List Nat)(ho:SE X ct W o mo)(hcap:xK X scope cs js)
  (hg:∀cl C fp s H,SN (fY X scope cl C (xs++cs) fp s H) ct xs.length (.Tuple es kt tp) g) (ht:∀cl C fp s H,STs (fY X scope cl C (xs++cs) fp s H) ct W0 ifs tt) (he:∀cl C fp s H,SE (fY X scope cl C (xs++cs) fp s H) ct W0 elt te)
  (hall:∀y∈scope.names,y.2= .free->y.1∈cs) (hcell:∀y∈scope.names,y.2≠ .cell) (hnames:∀y∈scope.names,y.2= .local->scope.names.lookup y.1=some .local)
  (hbase:attributeBase o "items" X.env (eval o X.env)=eval o X.env:=by rfl) (hline:(apos.endLine==pos1.line)=true:=by rfl)
  (hkind:scope.kind= .function:=by rfl) (hs:∀v,foldedSetIterable (.Call (.Attribute o "items" apos) [] [] pos1) X.env v=pure v:=by intro _;rfl):
  SE X ct W (.ListComp elt [⟨.Tuple es kt tp,.Call (.Attribute o "items" apos) [] [] pos1,ifs,0⟩] scope pos) (Vi xs.length js mo g tt te):=by
 refine ig (abW (aae (g:=tTN X.K ct xs.length g) (tt:=tG JV X.K ct W0 tt) (te:=tG (gQ X.K ct) X.K ct W0 te) hc xs cs js (Z9 (U9 PySem.F.plainAttrs_dict PySem.F.slot_dict_items PySem.F.type_dict_items aal ho hbase hline)) hcap (λcl C fp s H=>ht cl C fp s H) (λcl C fp s H=>he cl C fp s H) hall hcell hnames (λcl C fp s H=>hg cl C fp s H) hkind hs)) λσ H Q q=> ?_
 obtain⟨ι,e,M,w,p⟩:=di (iR:=gQ X.K ct) (f:=λd e M1=>Nh xs.length js g tt te e d M1) q
 refine⟨ι,e,M,w,p.mono ?_⟩
 rintro v H1 ⟨dU,e1,M1,d,w1,q1,p1⟩
 replace p1:k_ (gQ X.K ct) X.K ct (wAt W σ) dU M1.length H1 (Nh xs.length js g tt te e1 d M1) Q:=p1
 unfold Nh at p1
 split at p1
 ·rename_i n
  split at p1
  ·rename_i kvs hM
   obtain⟨hn,rfl⟩:=sO q1
   obtain⟨ys,hH,pv⟩:=w1.rl.obj n _ hM
   have hkl:ys.length=kvs.length:=pv.length
   refine⟨.inr (.inr (.inl ⟨rfl,.inl ⟨ys,hH⟩⟩)),_,rfl,rfl,.inl ⟨ys,.inl hH⟩,λvw hvw=> ?_⟩
   have nev:dU n≠vw:=λz=>by rw[z,hvw]at hH;cases hH
   have xv:Ext X.K dU M1.length H1 dU M1.length (upd H1 vw (Ky vw (dU n))):=Ext.fresh hvw
   have rv:Rl X.K ct dU M1 (upd H1 vw (Ky vw (dU n))):=w1.rl.fresh hvw
   obtain⟨Hv,hHv⟩:∃Hv,Hv=upd H1 vw (Ky vw (dU n)):=⟨_,rfl⟩
   rw[<-hHv]at xv rv
   have hHd:Hv (dU n)=some (.dK ys):=by rw[hHv,aO nev];exact hH
   have pvv:Er X.K ct dU M1.length Hv kvs ys:=pv.mono xv
   have wv:Ws X.K ct dU e1 M1 σ Hv:=w1.ext xv rv
   have pv1:=p1.ext xv
   rw[<-hHv]
   refine⟨vw,dU n,ys,rfl,by rw[hHv];exact bB,hHd,λo nf hlen=> ?_⟩
   obtain⟨Hz,hHz⟩:∃Hz,Hz=upd Hv (dU n) (.gW o (.dK ys)):=⟨_,rfl⟩
   have hzd:Hz (dU n)=some (.gW o (.dK ys)):=by rw[hHz];exact bB
   have x0:Ext X.K dU M1.length Hv dU M1.length Hz:=by rw[hHz];exact Ext.chg hHd (λ_ z=>nomatch z) (λ_ _ z=>nomatch z)
   have r0:Rl X.K ct dU (M1.set n (.fd kvs)) Hz:=by
    have:=rv.chg (o:= .gW o (.dK ys)) (x:= .fd kvs) hn hHd (λ_ z=>nomatch z) (λ_ _ z=>nomatch z) ⟨o,ys,bB,pvv.mono (by rw[<-hHz];exact x0)⟩
    rw[hHz];exact this
   have w0:Ws X.K ct dU e1 (M1.set n (.fd kvs)) σ Hz:=wv.ext (by rw[List.length_set];exact x0) r0
   rw[<-hHz]
   obtain⟨ds,hds⟩:∃ds,ds=kvs.map Lj:=⟨_,rfl⟩
   rw[<-hds]at pv1
   have hdl:ds.length=ys.length:=by rw[hds,zak,hkl]
   have fin:∀ι' M' H' ds' zs pp,Ext X.K dU M1.length Hz ι' M'.length H'->Rl X.K ct ι' M' H'->oZ X.K ct ι' M'.length H' ds' zs->H' pp=none->k_ (gQ X.K ct) X.K ct (wAt W σ) dU M1.length Hv (Oo n (.ok (.ref M'.length) (M'++[.lst ds']))) Q->
     ∃d o kvs,aa8 X d/\(upd H' pp (.lst zs)) d=some (.gW o (.dK kvs))/\Q (.ref pp) (upd (upd H' pp (.lst zs)) d (.dK kvs)):=λι' M' H' ds' zs pp x' r' dy hp p'=>by
    have hn':n<M'.length:=yA hn x'.le
    have en:ι' n=dU n:=x'.same n hn
    unfold Oo at p'
    simp only[zac hn']at p'
    cases z:M'[n]? with
    | none=>simp only[z]at p';exact p'.elim
    | some y=>
     cases y with
     | fd ks=>
      simp only[z]at p'
      obtain⟨o',ys',h',pv'⟩:=r'.obj n _ z
      rw[en]at h'
      have npp:dU n≠pp:=λq=>by rw[q,hp]at h';cases h'
      have hd2:(upd H' pp (.lst zs)) (dU n)=some (.gW o' (.dK ys')):=by rw[aO npp];exact h'
      refine⟨dU n,o',ys',nf,hd2,?_⟩
      have x2:Ext X.K ι' M'.length H' (lV ι' M'.length pp) (M'.length+1) (upd H' pp (.lst zs)):=Ext.new hp
      have e2:(lV ι' M'.length pp) M'.length=pp:=by unfold lV;rw[if_pos rfl]
      have en2:(lV ι' M'.length pp) n=dU n:=by rw[x2.same n hn',en]
      have r2:Rl X.K ct (lV ι' M'.length pp) (M'++[.lst ds']) (upd H' pp (.lst zs)):=r'.new hp ⟨zs,bB,dy.mono x2⟩
      have ln2:(M'++[MO.lst ds']).length=M'.length+1:=by simp
      have hn2:n<(M'++[MO.lst ds']).length:=by rw[ln2];omega
      have R3:=r2.Zc (i:=n) (kvs:=ks) hn2 (by rw[en2];exact hd2) (by rw[ln2];exact pv'.mono x2)
      rw[en2]at R3
      refine p' (lV ι' M'.length pp) (.ref pp) _ ?_ R3 ?_
      ·rw[List.length_set,ln2]
       rw[hHz]at x'
       exact aaN hHd (x'.trans x2) hd2
      ·have q9:∀(k:Nat) (HH:Hp),M'.length<k->DV X.K ct (lV ι' M'.length pp) k HH (.ref M'.length) (.ref ((lV ι' M'.length pp) M'.length)):=λk HH hk=> .ref hk
       rw[e2]at q9
       exact q9 _ _ (by rw[List.length_set,ln2];omega)
     | _=>simp only[z]at p';exact p'.elim
   refine⟨λi m zs H'=>m=ds.length - i/\i<=ds.length/\zs.length<=i/\∃ι' M' ds',Ext X.K dU M1.length Hz ι' M'.length H'/\Rl X.K ct ι' M' H'/\oZ X.K ct ι' M'.length H' ds' zs/\k_ (gQ X.K ct) X.K ct (wAt W σ) dU M1.length Hv (Oo n (Eo none g xs.length tt te (rO js e1) (ds.drop i) ds' M')) Q,
    ⟨ds.length,by simp,Nat.zero_le _,jS _,dU,M1.set n (.fd kvs),[],by rw[List.length_set];exact .refl,r0,.nil,by simpa using pv1⟩,?_⟩
   rintro i m zs H' ⟨rfl,hi,hy,ι',M',ds',x',r',dy,p'⟩
   have hq:H' (dU n)=some (.gW o (.dK ys)):=x'.fz _ _ _ hzd
   by_cases hlt:i<ds.length
   ·rw[List.drop_eq_getElem_cons hlt]at p'
    unfold Eo at p'
    rw[if_pos (show kZ none M' from trivial)]at p'
    refine .inr ⟨⟨hq,()⟩,λys2 H2=>ys2.length<=i+1/\∃nR M2 ds2,Ext X.K dU M1.length Hz nR M2.length H2/\Rl X.K ct nR M2 H2/\oZ X.K ct nR M2.length H2 ds2 ys2/\k_ (gQ X.K ct) X.K ct (wAt W σ) dU M1.length Hv (Oo n (Eo none g xs.length tt te (rO js e1) (ds.drop (i+1)) ds2 M2)) Q,?_,?_⟩
    ·rintro ys2 H2 ⟨hl2,q2⟩
     exact⟨(),ds.length - (i+1),(),rfl,hlt,hl2,q2⟩
    ·rintro x H2 ⟨a,pr,ha,hpr,rfl,rfl⟩
     have x2:Ext X.K ι' M'.length H' ι' M'.length (upd H' a (.tup [kV pr.1,pr.2])):=Ext.fresh ha
     have r2:Rl X.K ct ι' M' (upd H' a (.tup [kV pr.1,pr.2])):=r'.fresh ha
     obtain⟨qr,hq1,hq2,hq3⟩:=pairs_at pvv hpr
     have dsi:ds[i]=Lj qr:=by
      have h3:ds[i]? = some (Lj qr):=by rw[hds,zaj,hq1];rfl
      rw[zaa hlt]at h3
      exact xI h3
     have xz:Ext X.K dU M1.length Hv ι' M'.length (upd H' a (.tup [kV pr.1,pr.2])):=(x0.trans x').trans x2
     have dv:DV X.K ct ι' M'.length (upd H' a (.tup [kV pr.1,pr.2])) ds[i] (.ref a):=by
      rw[dsi]
      refine .tup bB (.cons ?_ (.cons (hq3.mono xz) .nil))
      rw[hq2];exact acu
     have w2:Ws X.K ct ι' (JW xs.length++rO js e1) M' (Jm xs++L2.caps js σ) (upd H' a (.tup [kV pr.1,pr.2])):=(wv.ext xz r2).anv xs js
     refine⟨ι',_,M',ds[i],w2,dv,?_⟩
     cases zg:g ds[i] (JW xs.length++rO js e1)with
     | none=>rw[zg]at p';exact p'.elim
     | some eg=>
     rw[zg]at p'
     dsimp only at p'
     intro σ' wg hd
     refine⟨⟨hd.1,by rw[hd.2];simp[Jm]⟩,ι',eg,M',wg,?_⟩
     cases z:tt eg M' with
     | bad=>simp only[z,Kc,Out.je]at p';exact p'
     | exc xc xd xM=>simp only[z,Ka,Out.je]at p';exact p'.elim
     | ok k M3=>
      simp only[z,Ez,Out.fc]at p'
      intro RK k3 H3 x3 r3 ek
      have Ti:k=k3:=ek;subst Ti
      have w3:=wg.ext x3 r3
      have dy3:=(dy.mono x2).mono x3
      cases k with
      | false=>exact⟨(),RK,M3,ds',(x'.trans x2).trans x3,r3,dy3,p'⟩
      | true=>
       simp only[if_true]at p' ⊢
       refine⟨RK,_,M3,w3,?_⟩
       cases z4:te eg M3 with
       | bad=>simp only[z4,Kc,Out.je]at p';exact p'
       | exc xc xd xM=>simp only[z4,Ka,Out.je]at p';exact p'.elim
       | ok yy M4=>
        simp only[z4,Ez,Out.fc]at p'
        intro ι4 v4 H4 x4 r4 d4
        exact⟨by rw[List.length_append];simp;omega,ι4,M4,ds'++[yy],((x'.trans x2).trans x3).trans x4,r4,(dy3.mono x4).append (.cons d4 .nil),p'⟩
   ·have e0:i=ds.length:=()
    subst e0
    rw[List.drop_length]at p'
    unfold Eo at p'
    rw[if_pos (show kZ none M' from trivial)]at p'
    exact .inl ⟨⟨hq,()⟩,(),λpp hp=>fin ι' M' H' ds' zs pp x' r' dy hp p'⟩
  ·exact p1.elim
 ·exact p1.elim
end
section
variable{e:Sl}{M:Mem}
@[simp] theorem agY:Vi m js mo g tt te e M=(mo e M).bind λd M1=>Nh m js g tt te e d M1:=id rfl
theorem set_same(h:M[n]? = some o):M.set n o=M:=by
 refine List.ext_getElem? λi=> ?_
 have hn:n<M.length:=(List.getElem?_eq_some_iff.mp h).1
 by_cases z:n=i
 ·subst z
  rw[zag hn,h]
 ·rw[zaf z]
theorem Yn(h:M[n]? = some (.dk kvs))(c:D->Bool)(f:D->D)(hh:∀d∈kvs.map Lj,∃e1,g d (JW m++rO js e)=some e1/\∀M',tt e1 M'= .ok (c d) M'/\(c d=true->te e1 M'= .ok (f d) M')):
  Nh m js g tt te e (.ref n) M= .ok (.ref M.length) (M++[.lst (((kvs.map Lj).filter c).map f)]):=by
 have hn:n<M.length:=(List.getElem?_eq_some_iff.mp h).1
 simp only[Nh,h]
 rw[Pj (src:=none) c f trivial λd hd=>by obtain⟨e1,h1,h2⟩:=hh d hd;exact⟨e1,h1,(h2 _).1,(h2 _).2⟩]
 rw[List.nil_append]
 have e1:(M.set n (.fd kvs)++[MO.lst (((kvs.map Lj).filter c).map f)])[n]? = some (.fd kvs):=by
  rw[zac (by rw[List.length_set];exact hn),zag hn]
 simp only[Oo,e1,List.length_set]
 rw[List.set_append_left _ _ (by rw[List.length_set];exact hn),List.set_set,set_same h]
end
end S
namespace L2
open PySem PySem.Spec PyProof.Rows
abbrev Dsc:=Nat×Str×Str×Stmt×List Str
set_option genInjectivity false in
structure Fv where
 f:Addr
 oc:Value
 kV:Value
 dc:Value
 pm:Value
 cd:Value
 ct:Value
 od:Option Addr
 an:Option Addr
 sl:Array (Option Value)
noncomputable def d0:Dsc:=(0,"","",.Pass ⟨0,0,0,0⟩,[])
end L2
namespace S
open PySem PySem.Spec PyProof.Rows L2
def ajf:ME:=λ_ _=> .bad
theorem Zr:SE X ct W e ajf:=λpins s σ H Q I ⟨_,_,_,_,p⟩=>p.elim
end S
namespace L2
open PySem
theorem lY.mo(r:lY k A)(h:j<=k:=by decide):lY j A:=r.mono h
end L2
namespace S
open PySem PySem.Spec PyProof.Rows L2
theorem fX{P:Program}{w:World}{K:Frag}{mg:Str->Option Value}{base:Heap}{ct:Nat->Addr}{n ar:Nat}{b:MS}{x qual:Str}{st:Stmt}{dV:Value}{f:Addr}{fd:FuncData}{ps:List Str}{k:Nat}(N:List Str)(F:bw K x qual st dV f fd)(Z:uI N ps (az st))
  (hbody:∀{cdv:Value} {A:Around} {outer:List PySem.Env} {s:Shared} {H:Hp} {E:XK} {W:bJ},lY k (A.deeper (envOfC qual (az st) s.heap.objs.size f cdv))->N.Nodup->(A.deeper (envOfC qual (az st) s.heap.objs.size f cdv)).units+64<cLine->
   SSs ((t7 (zq P w) P w K mg base N qual (az st) f cdv A outer s H E).wish (j_ (t7 (zq P w) P w K mg base N qual (az st) f cdv A outer s H E) W)) ct W (aD st) b) (hn:N.length=n:=by rfl) (har:ps.length=ar:=by rfl):
  lg P w K mg base (zq P w) (k+1) f fd ps (spS K ct (aY n b) ar):=akZ F Z hn har λ_ _ _ _ _ _ _ hr=>hbody hr Z.nd hr.units
theorem iZ{X:Cx}{W:bJ}:Tk (X.wish (j_ X W)) W:=Tk.wish
theorem tL{α:Type}{a:α}{q:Prop}:a=a\/q:=Or.inl rfl
end S
namespace L2
open PySem PySem.Spec PySem.W PySem.Calls PyProof.Rows
section
variable{X:Cx}
theorem Xb(I1:Inv X pins σ H s1)(rv:Vals (ns.map V.int) acc)(el:acc.length<64)(q:∀l,H l=none->Q (.ref l) (upd H l (.lst ((sortI ns).map V.int)))):
  wpAny (model X.prog X.w) X.A.in1 (do let l <-newList acc;let _ <-holding [l] (call (.builtin "list.sort") [l] []);ret l) (λfin s'=>∃r,fin= .done (.ret r)/\EP X pins σ Q r s') X.xe s1:=by
 have ia:=intsAre_of rv
 have line:(64:Nat)<=sizeLine:=by decide
 refine zC (wpAny_newList ?_ ())
 have ho:(s1.heap.push {cls:= .type "list",data:= .seq acc.toArray}).get? s1.heap.objs.size=some (seqObj "list" acc.toArray 0):=yB _ rfl
 have I2:Inv X pins σ H {s1 with heap:=s1.heap.push {cls:= .type "list",data:= .seq acc.toArray},toks:=s1.toks}:=I1.kept (t':=s1.toks) λb o e=>zD _ e
 have fp:=I1.Tn (jS _) (I1.hok.fresh (jS _))
 refine zC (wpAny_holding (vT slot_list_sort ⟨_,ho,rfl⟩ entry_list_sort (list_sort_tree ho ia el λout ns' ia' pm pw=> ?_) (args_list_sort _)))
 obtain rfl:=eq_sortI pm pw
 have sb:=Heap.SameBut.update (s1.heap.push {cls:= .type "list",data:= .seq acc.toArray}) s1.heap.objs.size (Obj.mapSeq λ_=>(#[]:Array Value))
 obtain⟨e1,ho1⟩:∃e1,((s1.heap.push {cls:= .type "list",data:= .seq acc.toArray}).update s1.heap.objs.size (Obj.mapSeq λ_=>(#[]:Array Value))).get? s1.heap.objs.size=some (seqObj "list" #[] e1):=⟨_,get?_update_seq ho λ_=> #[]⟩
 generalize hh:(((s1.heap.push {cls:= .type "list",data:= .seq acc.toArray}).update s1.heap.objs.size (Obj.mapSeq λ_=>(#[]:Array Value))).push (seqObj "tuple" acc.toArray 0)).push (seqObj "list" #[] 0)=h3
 have k3:∀b o,((s1.heap.push {cls:= .type "list",data:= .seq acc.toArray}).update s1.heap.objs.size (Obj.mapSeq λ_=>(#[]:Array Value))).get? b=some o->h3.get? b=some o:=λb o e=>by
  rw[<-hh];exact zD _ (zD _ e)
 have sb':=Heap.SameBut.update h3 s1.heap.objs.size (Obj.mapSeq λ_=>out)
 obtain⟨c2,hc2⟩:∃c2,(h3.update s1.heap.objs.size (Obj.mapSeq λ_=>out)).get? s1.heap.objs.size=some (seqObj "list" out c2):=⟨_,get?_update_seq (k3 _ _ ho1) λ_=>out⟩
 have es:sortedHeap (s1.heap.push {cls:= .type "list",data:= .seq acc.toArray}) s1.heap.objs.size acc out=h3.update s1.heap.objs.size (Obj.mapSeq λ_=>out):=by
  unfold sortedHeap
  rw[<-hh]
 have I3:=I2.turned (t':=s1.toks) (it:=s1.heap.objs.size) (h':=h3.update s1.heap.objs.size (Obj.mapSeq λ_=>out)) (λb o hb e=>(sb'.2 b hb).trans (k3 b o ((sb.2 b hb).trans e))) fp.1 fp.2.1 fp.2.2.2.1 fp.2.2.2.2.1 fp.2.2.2.2.2
 show ∃_,_
 rw[es]
 refine⟨_,rfl,zI ⟨_,rfl,.ref s1.heap.objs.size,_,I3.track (o:= .lst ((sortI ns).map V.int)) fp (Heap.get?_none_of_le I1.sz) ⟨?_,out.toList,c2,HF ia',by rw[Array.toArray_toList];exact hc2⟩,rfl,q _ fp.1⟩⟩
 have h1:=IntsAre.length ia
 have h2:=pm.length_eq
 rw[zak]
 omega
end
end L2
namespace S
open PySem PySem.Spec PyProof.Rows L2
end S
namespace L2
open PySem PySem.Spec PySem.W PySem.Calls PyProof.Rows
section
variable{prog:Program}{w:World}{A:Around}{E:Value->Shared->Prop}{s:Shared}
noncomputable def Mt(w:World):Bool:= !w.params.followText "set-order"
def NZ(w:World):Obj:={cls:= .type "set",dict:=none,data:= .set #[] 0 (.fresh 0 0 (Mt w))}
theorem newCall_set_1(a:Value):checkBuiltinCall "set.__new__" ⟨[.type "set",a],[]⟩=pure .unit:=by kernel_rfl
theorem typeCall_set_1(a:Value):checkTypeCall "set" ⟨[a],[]⟩=pure .unit:=by kernel_rfl
theorem Oh{Q₁:Value->Shared->Prop}(a:Value)(h:Q₁ (.ref s.heap.objs.size) {s with heap:=s.heap.push (NZ w)}):
  codeAny (model prog w) A (.call (.builtin "set.__new__") ⟨[.type "set",a],[]⟩) (wants Q₁ E) s:=by
 refine codeAny_of_tree ?_
 show wpAny _ A.in1 (do checkBuiltinCall "set.__new__" ⟨[.type "set",a],[]⟩;again (.builtin "set.__new__" ⟨[.type "set",a],[]⟩)) _ _ s
 refine zC (wpAny_of_eq (newCall_set_1 a) (zI ⟨plainId_quiet F.plain_set_new _,codeAny_builtin F.entry_set_new ?_⟩))
 rw[Around.under_plainId F.plain_set_new _]
 unfold Builtin.«set.__new__» Builtin.Frozenset.newClass
 have hsub:=sub_set_self
 obtain⟨hp,g,d,tk,os⟩:=s
 dsimp only
 wp_walk
 refine wpAny_askSetting (zI ?_)
 dsimp only
 simp only[newObj]
 refine zC (wpAny_alloc (zI ?_))
 exact zI h
theorem J1{Q:Unit->Shared->Prop}(hT:s.TypeIs self "set")(hQ:Q .unit s):
  wpAny M A (checkBuiltinCall "set.__init__" ⟨[self,a],[]⟩) Q E s:=by
 simp only[checkBuiltinCall,kind_set_init,split_set_init,sig_set_init]
 refine zC (wpAny_isInstance hT sub_set_self ?_)
 simp only[Bool.not_true,Bool.false_eq_true,if_false]
 unfold Bind.checkArgs
 dsimp only
 refine zC (m:=Bind.printed "set" true _ _) (PyProof.Rows.printed_name (by decide) ?_)
 refine zC (m:=Bind.printed "*" false _ _) (PyProof.Rows.printed_star (self:=self) rfl hT λshort=> ?_)
 have hrn:(Manifest.Receiver.self==Manifest.Receiver.none)=false:=by decide
 have hn:(if(Manifest.Receiver.self==Manifest.Receiver.none)=true then[self,a].length else[self,a].length - 1)=1:=by simp[hrn]
 rw[hn]
 simp only[List.map_nil]
 have hc:Bind.check ⟨.positional,"set","*",.self,[⟨"iterable",.posOnly,false⟩]⟩ "set" short 1 []=pure .unit:=by
  simp[Bind.check,Bind.checkCount,Bind.isPositional]
  intro z
  exact absurd z (by decide)
 rw[hc]
 exact zI hQ
theorem Yp{Q:Value->Shared->Prop}
  (h:wpAny (model prog w) A.in1.in1 (Builtin.«set.__init__» ⟨[.ref s.heap.objs.size,a],[]⟩) (λfin s'=>fin= .done (.ret .none)/\Q (.ref s.heap.objs.size) s') E {s with heap:=s.heap.push (NZ w)}):
  wpAny (model prog w) A (call (.type "set") [a]) Q E s:=by
 obtain⟨c,tl,hmro⟩:=F.called_set.mro
 have hmade:=F.called_set.made
 have hsub:=F.called_set.sub
 refine wpAny_call (codeAny_of_tree ?_)
 show wpAny _ _ (callAny (.type "set") _) _ _ _
 refine zI ⟨Code.quiet_builtin _ (by decide +kernel),codeAny_builtin F.entry_type_call ?_⟩
 rw[Around.under_plain (weight_type_call_type "set" [a] []) rfl]
 have h1:=F.called_set.notType
 have h2:=F.called_set.canCreate
 have hct:=typeCall_set_1 a
 repeat (any_goals (first | assumption | wp_step))
 refine codeAny_mono (Oh (E:=E) (Q₁:=λobj s₁=>obj= .ref s.heap.objs.size/\s₁={s with heap:=s.heap.push (NZ w)}) a ⟨rfl,rfl⟩) λr s₁ hr=> ?_
 cases r with
 | error e=>exact hr
 | ok fl=>
  cases fl with
  | ret obj=>
   obtain⟨rfl,rfl⟩:=hr
   have hS:(s.heap.push (NZ w)).get? s.heap.objs.size=some (NZ w):=yB _ rfl
   have hT:Shared.TypeIs {s with heap:=s.heap.push (NZ w)} (.ref s.heap.objs.size) "set" := ⟨_,hS,rfl⟩
   have hli:=F.called_set.init.lookup
   have hbi:=F.called_set.init.bind (.ref s.heap.objs.size)
   repeat (any_goals (first | assumption | wp_step))
   refine codeAny_mono (codeAny_call_builtin (R:=wants (λr s₂=>r= .none/\Q (.ref s.heap.objs.size) s₂) E) F.called_set.init.plain F.entry_set_init (J1 hT ?_)) λr₂ s₂ hr₂=> ?_
   ·exact wT h (λfin s' hf=>by obtain⟨rfl,hq⟩:=hf;exact⟨rfl,hq⟩) λe s' he=>he
   ·cases r₂ with
    | error e=>exact hr₂
    | ok fl₂=>
     cases fl₂ with
     | ret r=>
      obtain⟨rfl,hq⟩:=hr₂
      repeat (any_goals (first | assumption | wp_step))
     | _=>exact hr₂.elim
  | _=>exact hr.elim
theorem acq(led:Bool)(h:Int)(x:Value):∃t d g,layNew (.fresh 0 0 led) #[] h x=(#[(h,x)],t,d,g)/\t.led=led/\t.fits 1=true/\t.tooFull=false:=by
 unfold layNew
 split
 ·rename_i j d _
  exact⟨{mask:=7,place:= #[j],dummies:= #[],finger:=0,led:=led,moves:=0,plain:=true},d,false,rfl,rfl,rfl,rfl⟩
 ·exact⟨_,_,_,rfl,rfl,rfl,rfl⟩
def RB(w:World)(h:Heap)(a:Addr)(x:Value):Prop:=∃o hs ep t,h.get? a=some o/\o.ExactSet/\o.data= .set #[(hs,x)] ep t/\t.fits 1=true/\t.led=Mt w
theorem Zo{a:Addr}{k:Int}{x:Value}{Q:Bool->Shared->Prop}(hk:(intKind prog w).is k x=true)(hx:x.scannable=true)(ho:s.heap.get? a=some (NZ w))
  (h:∀h',Heap.SameBut a s.heap h'->RB w h' a x->Q true {s with heap:=h'}):wpAny (model prog w) A (setAddHashed a x ((intKind prog w).hash k)) Q E s:=by
 unfold setAddHashed setAddHashedIn
 refine wpAny_holding (zC (wpAny_setState_of ho rfl rfl ?_))
 dsimp only
 rw[byScan_of (knd:=intKind prog w) hx (by decide) (λe he=>by simp at he)]
 simp only[↓reduceIte]
 unfold setAddByScan
 refine zC ?_
 refine zC (wpAny_rule ?_)
 refine zC (wpAny_setScan_of hk ho rfl rfl (λe he=>by simp at he) ?_)
 obtain⟨t,d,g,e,e1,e2,e3⟩:=acq (Mt w) ((intKind prog w).hash k) x
 rw[show List.findIdx? (λe:Int×Value=>(intKind prog w).is k e.snd) (#[]:Array (Int×Value)).toList=none from rfl]
 dsimp only
 rw[e]
 dsimp only
 have fin:∀(t2:SetTable) (Z:Sem (Option Bool)),t2.led=Mt w->t2.fits 1=true->t2.tooFull=false->wpAny (model prog w) A (storeSet a #[((intKind prog w).hash k,x)] t2 >>= λ_=>if(!d&&t2.tooFull)=true then Z else pure (some true)) (λa_1 s'=>wpAny (model prog w) A (match a_1 with | some added=>pure added | none=>setAddHashedIn a x ((intKind prog w).hash k) 99999) Q E s') E s:=λt2 Z f1 f2 f3=>by
  have line:(1:Nat)<=sizeLine:=by decide
  refine zC (wpAny_storeSet_of ho rfl ?_ line)
  rw[f3,Bool.and_false,if_neg xA]
  have get:=vE (Obj.putSet #[((intKind prog w).hash k,x)] t2) ho (by rw[putSet_of _ t2 rfl];rfl)
  rw[putSet_of _ t2 rfl]at get
  exact zI (zI (h _ (Heap.SameBut.update s.heap a (Obj.putSet _ t2)) ⟨_,(intKind prog w).hash k,0+1,t2,get,⟨rfl,rfl,rfl⟩,rfl,f2,f1⟩))
 refine zC ?_
 cases g
 all_goals first | refine zI ?_ | refine wpAny_rule ?_
 all_goals
  split
  ·rw[hashByValue_scannable 8 hx]
   refine zC (zI ?_)
   split
   ·exact fin t _ e1 e2 e3
   ·exact fin _ _ e1 (SetTable.fits_plain_off e2) e3
  ·refine zC (zI ?_)
   simp only[↓reduceIte]
   exact fin t _ e1 e2 e3
theorem Pa:entryFor table "set.update.loop" = some Builtin.«set.update.loop» := entryFor_of_tree (by kernel_rfl)
theorem Ig:plainId "set.update.loop" = true:=by decide +kernel
theorem sub_list_set:isSubtype (.type "list") (.type "set")=pure false:=by rw[isSubtype_type];kernel_rfl
theorem NK:isSubtype (.type "list") (.type "frozenset")=pure false:=by rw[isSubtype_type];kernel_rfl
theorem Xf{R:Result->Shared->Prop}(hh:A.in1.handled=none)(hne:l≠I)(haI:a≠I)(hal:a≠l)(ho:s.heap.get? a=some (NZ w))(hl:s.heap.IsList l #[x])(hi:s.heap.IsListIter I l 0)(hk:(intKind prog w).is k x=true)(hx:x.scannable=true)
  (h:∀h' tk,RB w h' a x->(∀b o,b≠a->b≠I->s.heap.get? b=some o->h'.get? b=some o)->R (.ok (.ret .none)) {s with heap:=h',toks:=tk}):
  codeAny (model prog w) A (.builtin "set.update.loop" ⟨[.ref a,.ref I],[]⟩) R s:=by
 have W:=Walks.list (prog:=prog) (w:=w) hh I l hne #[x]
 refine codeAny_builtin Pa ?_
 rw[Around.under_plainId Ig _]
 unfold Builtin.«set.update.loop»
 show wpAny _ A.in1 (pyNext (.ref I) >>= _) _ _ s
 refine zC (W.item 0 s _ _ (show 0<1 by decide) ⟨hi,hl⟩ λv h1 tk1 hP st1 kp1=> ?_)
 obtain rfl:v=x:=by simpa using hP.symm
 have ho1:h1.get? a=some (NZ w):=kp1 _ _ (by simpa using haI) ho
 dsimp only
 refine zC (wpAny_holding ?_)
 unfold setAdd
 refine wpAny_holding ?_
 refine zC ((intKind prog w).pyHash hk ?_)
 refine Zo (s:={s with heap:=h1,toks:=tk1+1}) hk hx ho1 λh2 sb2 so2=> ?_
 refine zI ⟨plainId_quiet Ig _,?_⟩
 have st2:=W.frame 1 h1 h2 st1 λb hb o e=>(sb2.2 b (by
  simp at hb
  rcases hb with rfl | rfl
  ·exact Ne.symm haI
  ·exact Ne.symm hal)).trans e
 refine codeAny_builtin Pa ?_
 rw[Around.under_plainId Ig _]
 unfold Builtin.«set.update.loop»
 show wpAny _ A.in1 (pyNext (.ref I) >>= _) _ _ _
 refine zC (W.done {s with heap:=h2,toks:=tk1+1} _ _ st2 λh3 tk3 kp3=> ?_)
 dsimp only
 refine zI (h h3 tk3 ?_ λb o hb hI e=>kp3 _ _ (by simpa using hI) ((sb2.2 b hb).trans (kp1 _ _ (by simpa using hI) e)))
 obtain⟨o,hs,ep,t,q,rest⟩:=so2
 exact⟨o,hs,ep,t,kp3 _ _ (by simpa using haI) q,rest⟩
theorem Xg{Q:Shared->Prop}(hh:A.handled=none)(hal:a≠l)(ho:s.heap.get? a=some (NZ w))(hl:s.heap.IsList l #[x])(hk:(intKind prog w).is k x=true)(hx:x.scannable=true)
  (h:∀h' tk,RB w h' a x->(∀b o,b≠a->s.heap.get? b=some o->h'.get? b=some o)->Q {s with heap:=h',toks:=tk}):
  wpAny (model prog w) A (Builtin.«set.__init__» ⟨[.ref a,.ref l],[]⟩) (λfin s'=>fin= .done (.ret .none)/\Q s') E s:=by
 have hT:s.TypeIs (.ref a) "set" := ⟨_,ho,rfl⟩
 have hTl:s.TypeIs (.ref l) "list" := hl.typeIs
 have hS:s.heap.get? a=some {cls:= .type "set",dict:=none,data:= .set #[] 0 (.fresh 0 0 (Mt w))}:=ho
 have f1:=sub_list_set
 have f2:=NK
 unfold Builtin.«set.__init__» noKeywords
 repeat (any_goals (first | assumption | ((with_reducible show wpAny _ _ (pyIter (Value.ref l)) _ _ _);refine wpAny_pyIter_list hl ?_) | ((with_reducible show wpAny _ _ (runValue _) _ _ _);refine wpAny_runValue ?_) | wp_step))
 have ll:l<s.heap.objs.size:=by obtain⟨o,q,_⟩:=hl;exact zS q
 refine Xf (I:=s.heap.objs.size) (l:=l) (x:=x) (k:=k) (by simpa using hh) (xD ll) (xD (zS ho)) hal (zD _ ho) (hl.push _) ⟨_,yB _ rfl,rfl,rfl⟩ hk hx λh' tk so kp=> ?_
 exact zI (zI ⟨rfl,h h' tk so λb o hb e=>kp b o hb (xD (zS e)) (zD _ e)⟩)
end
section
variable{X:Cx}
def R_(X:Cx)(v:Addr)(i:Int):HO:= .ext λh=>∃x,RB X.w h v x/\(intKind X.prog X.w).is i x=true/\x.scannable=true
def ahM(X:Cx):List V->Hp->VK->Prop:=λxs H Q=>∃l i,xs=[.ref l]/\De X.K H l [.int i]/\∀v,H v=none->Q (.ref v) (upd H v (R_ X v i))
theorem int_is:(intKind prog w).is i (.int i tk)=true:=by
 simp[intKind,Value.isInt]
theorem VF(hc:X.calm=true):qG X (.type "set") (ahM X):=by
 intro pins s σ H xs us Q I r h
 obtain⟨l,i,rfl,hl,q⟩:=h
 obtain⟨u,rfl,rx⟩:=vals1 r
 cases(show u=Value.ref l from rx)
 obtain⟨its,r',⟨o,nn,ho,hcl,hd,hdt⟩,_⟩:=I.list hl
 obtain⟨x,rfl,rx⟩:=vals1 r'
 obtain⟨tk0,rfl⟩:∃tk,x= .int i tk:=rx
 have ll:=zS ho
 refine Yp (Xg (k:=i) (by simpa using I.ok.hd hc) (xS ll) (yB _ rfl) (l:=l) (x:= .int i tk0) ⟨_,zD _ ho,hcl,nn,hdt⟩ ?_ rfl λh' tk so kp=> ?_)
 ·exact int_is
 ·obtain⟨os,hs,ep,t,g,rest⟩:=so
  have ok:fu X.prog X.w (upd H s.heap.objs.size (R_ X s.heap.objs.size i)) h' s.heap.objs.size (R_ X s.heap.objs.size i):=by
   refine⟨⟨_,⟨os,hs,ep,t,g,rest⟩,int_is,rfl⟩,⟨_,g⟩,λh1 h2 z kp=> ?_⟩
   obtain⟨x,⟨os,hs,ep,t,g,rest⟩,z⟩:=z
   exact⟨x,⟨os,hs,ep,t,kp _ g,rest⟩,z⟩
  exact⟨.ref s.heap.objs.size,_,I.laid (t':=tk) (λb o e=>kp b o (xD (zS e)) (zD _ e)) (jS _) ok,rfl,q _ (I.hok.fresh (jS _))⟩
end
section
variable{prog:Program}{w:World}{A:Around}{E:Value->Shared->Prop}{s:Shared}
theorem M7:entryFor table "set.__iter__" = some Builtin.«frozenset.__iter__» := entryFor_alias (id':= "frozenset.__iter__") (by kernel_rfl) rfl (by decide +kernel) (by kernel_rfl)
theorem jL:Slot "set_iterator" "__next__" "set_iterator.__next__" :=
 .of (owner:= "set_iterator") (n:= "__next__") (by rw[typeLookup_type,builtinLookup_eq_fast];kernel_rfl) (by decide +kernel) (by decide +kernel) (by decide +kernel)
  (by first | exact .inl (by decide +kernel) | exact .inr (by decide +kernel)) (by rw[isSubtype_type];kernel_rfl)
theorem Bm:Slot "set_iterator" "__iter__" "set_iterator.__iter__" :=
 .of (owner:= "set_iterator") (n:= "__iter__") (by rw[typeLookup_type,builtinLookup_eq_fast];kernel_rfl) (by decide +kernel) (by decide +kernel) (by decide +kernel)
  (by first | exact .inl (by decide +kernel) | exact .inr (by decide +kernel)) (by rw[isSubtype_type];kernel_rfl)
theorem zP:entryFor table "set_iterator.__next__" = some Builtin.«set_iterator.__next__» := entryFor_of_tree (by kernel_rfl)
theorem Jh:Manifest.owners.lookup (String.ofList ['r','o','t','a','r','e','t','i','_','t','e','s'].reverse)=some Manifest.sig_set_iterator:=by kernel_rfl
theorem Bx(a:Value):argsOk "set_iterator.__next__" ⟨[a],[]⟩:=by
 unfold argsOk;rw[signature?_of (id:= "set_iterator.__next__") (n:=['_','_','t','x','e','n','_','_']) (o:=['r','o','t','a','r','e','t','i','_','t','e','s']) (by kernel_rfl) Jh];kernel_rfl
def zm(w:World)(h:Heap)(a:Addr)(x:Value)(hs:Int)(ep:Nat)(t:SetTable):Prop:=∃o,h.get? a=some o/\o.ExactSet/\o.data= .set #[(hs,x)] ep t/\t.fits 1=true/\t.led=Mt w
def Hx(h:Heap)(I a:Addr)(slot i ep:Nat):Prop:=∃o,h.get? I=some o/\o.cls= .type "set_iterator" /\ o.data= .fields #[.int slot 0,.int i 0,.ref a,.int 1 0,.int ep 0]
theorem Zn{Q:Bool->Shared->Prop}(hT:s.TypeIs (.ref r) "set")(h:Q false s):wpAny (model prog w) A (Builtin.List.listLengthHint (.ref r)) Q E s:=by
 unfold Builtin.List.listLengthHint
 refine zC (wpAny_specialOf hT PySem.F.slot_set_len.lookup ?_)
 generalize hid:("set.__len__" : String)=id0
 wp_delta
 rw[show splitId id0=some ("set","__len__")from by subst hid;decide +kernel]
 subst hid
 refine zC (wpAny_isInstance (T:= "set") (b:=true) hT (by rw[isSubtype_type];kernel_rfl) ?_)
 refine wpAny_ite_split (λhab=>absurd hab (by decide)) (λ_=> ?_)
 refine wpAny_ite_split (λ_=> ?_) (λhab=>absurd (by decide +kernel) hab)
 refine zC (wpAny_typeOf hT ?_)
 exact zI h
theorem Yc{Q:Value->Shared->Prop}(hm:zm w s.heap a x hs ep t)
  (hQ:Q (.ref s.heap.objs.size) {s with heap:=s.heap.push {cls:= .type "set_iterator",data:= .fields #[.int 0 0,.int 0 0,.ref a,.int 1 0,.int ep 0]}}):
  wpAny (model prog w) A (pyIter (.ref a)) Q E s:=by
 obtain⟨o,ho,hc,hd,hf,hl⟩:=hm
 have hT:s.TypeIs (.ref a) "set" := ⟨o,ho,hc.1⟩
 refine wpAny_pyIter_slot hT F.slot_set_iter (vT F.slot_set_iter hT M7 ?_ (F.args_set_iter_1 _))
 unfold Builtin.«frozenset.__iter__» Builtin.Frozenset.slot0 Builtin.Frozenset.sizeOf setDrawn setEpoch setEntries setsByText
 repeat (any_goals (first | assumption | ((with_reducible show wpAny _ _ (setState _) _ _ _);refine wpAny_setState_of ho hd hf ?_) | wp_step))
 refine wpAny_askSetting (zI (zI ?_))
 dsimp only
 refine wpAny_ite_split (λhab=> ?_) (λ_=> ?_)
 ·rw[Bool.and_eq_true]at hab
  have h2:=hab.2
  obtain⟨mask,place,dummies,finger,led,moves,plain⟩:=t
  cases plain
  ·exact absurd (show false=true from h2) xA
  ·exact absurd (show false=true from h2) xA
 ·refine zC (zI (zC (zC (wpAny_setState_of ho hd hf (zI ?_)))))
  refine zC (wS (zI ⟨_,rfl,"set_iterator",_,⟨_,yB _ rfl,rfl⟩,jL.lookup,?_⟩))
  exact hQ
theorem Z7{α:Type}(next:Nat->Nat)(e:α):pickOrder next #[e]= #[e]:=by
 unfold pickOrder
 show pickOrder.go next 1 0 [e] #[]=_
 unfold pickOrder.go
 rw[show([e].length)=1 from rfl,Nat.mod_one]
 show pickOrder.go next 0 1 _ _=_
 unfold pickOrder.go
 rfl
theorem acY(j:Nat):SetTable.below #[j] 0=0:=by
 unfold SetTable.below
 show SetTable.below.go #[j] 0 1 0 1=0
 unfold SetTable.below.go
 simp[SetTable.below.go]
theorem below_1(j:Nat):SetTable.below #[j] (j+1)=1:=by
 unfold SetTable.below
 show SetTable.below.go #[j] (j+1) 1 0 1=1
 unfold SetTable.below.go
 simp[SetTable.below.go]
theorem Jg{a:Addr}{x:Value}{hs:Int}{ep j slot given:Nat}{t:SetTable}{Q:Option (Value×Nat)->Shared->Prop}(hp:t.place= #[j])(hm:zm w s.heap a x hs ep t)
  (hg:given=0/\slot=0/\Q (some (x,if w.params.followText "set-order" = true then 0 else j+1)) s\/given=1/\slot=(if w.params.followText "set-order" = true then 0 else j+1)/\Q none s):
  wpAny (model prog w) A (setNext a slot given ep) Q E s:=by
 obtain⟨o,ho,hc,hd,hf,hl⟩:=hm
 unfold setNext setsByText
 refine zC (wpAny_setState_of ho hd hf ?_)
 dsimp only
 refine zC (zC (wpAny_askSetting (zI ?_)))
 show wpAny _ _ (if w.params.followText "set-order" = true then _ else _) _ _ s
 by_cases z:w.params.followText "set-order" = true
 ·rw[if_pos z]
  rw[if_pos z]at hg
  rw[if_neg (by simp)]
  unfold setWalk setsByText
  refine zC (zC (wpAny_setState_of ho hd hf (zC (zC (wpAny_askSetting (zI ?_))))))
  show wpAny _ _ (if w.params.followText "set-order" = true then _ else _) _ _ s
  rw[if_pos z]
  refine zC (wpAny_askSetting (zI (zI ?_)))
  rw[Z7]
  rcases hg with⟨rfl,rfl,q⟩ | ⟨rfl,rfl,q⟩
  ·exact q
  ·exact q
 ·rw[if_neg z]
  rw[if_neg z]at hg
  refine wpAny_ite_split (λhab=> ?_) (λ_=> ?_)
  ·obtain⟨mask,place,dummies,finger,led,moves,plain⟩:=t
   cases plain
   ·exact absurd (show false=true from hab) xA
   ·exact absurd (show false=true from hab) xA
  ·have lt:t.led=true:=by rw[hl];unfold Mt;simp[z]
   refine zC ?_
   show wpAny _ _ (ite _ _ _) _ _ _
   rw[lt]
   refine wpAny_ite_split (λhab=>absurd hab (by simp)) (λ_=>zI (zI ?_))
   rw[hp]
   rcases hg with⟨rfl,rfl,q⟩ | ⟨rfl,rfl,q⟩
   ·rw[acY];exact q
   ·rw[below_1];exact q
theorem XQ{Q:Option Value->Shared->Prop}(hp:t.place= #[j])(hit:Hx s.heap I a 0 0 ep)(hm:zm w s.heap a x hs ep t)(hne:a≠I)
  (hQ:∀h',Hx h' I a (if w.params.followText "set-order" = true then 0 else j+1) 1 ep->Heap.SameBut I s.heap h'->Q (some x) {s with heap:=h'}):
  wpAny (model prog w) A (pyNext (.ref I)) Q E s:=by
 obtain⟨oi,hoi,hci,hdi⟩:=id hit
 obtain⟨o,ho,hc,hd,hf,hl⟩:=hm
 have hT:s.TypeIs (.ref I) "set_iterator" := ⟨oi,hoi,hci⟩
 unfold pyNext
 refine zC (wpAny_attempt (wpAny_callSpecial?_slot (name:=Str.ofString "__next__") hT jL (vT jL hT zP ?_ (Bx _))))
 unfold Builtin.«set_iterator.__next__» setEntries
 repeat (any_goals (first | assumption | ((with_reducible show wpAny _ _ (setNext _ _ _ _) _ _ _);refine Jg hp ⟨o,ho,hc,hd,hf,hl⟩ (.inl ⟨rfl,rfl,show id _ from ?_⟩)) | ((with_reducible show wpAny _ _ (setState _) _ _ _);refine wpAny_setState_of ho hd hf ?_) | ((with_reducible show wpAny _ _ (fieldsOf _) _ _ _);refine wpAny_fieldsOf hoi hdi ?_) | wp_step))
 dsimp only[id]
 refine zC (wpAny_setField hoi hdi (by simp) ?_)
 obtain⟨m,hm⟩:∃m:Nat,m=if w.params.followText "set-order" = true then 0 else j+1:=⟨_,rfl⟩
 rw[<-hm]at hQ ⊢
 have g1:=vE (Obj.mapFields (·.setIfInBounds 0 (rawInt (m:Int)))) hoi (Obj.isFreed_of_fields (Obj.data_mapFields hdi _))
 have d1:=Obj.data_mapFields hdi (·.setIfInBounds 0 (rawInt (m:Int)))
 refine zC (wpAny_setField (s:={s with heap:=s.heap.update I (Obj.mapFields (·.setIfInBounds 0 (rawInt (m:Int))))}) g1 d1 (by simp) ?_)
 have g2:=vE (Obj.mapFields (·.setIfInBounds 1 (rawInt ((0:Nat)+1:Int)))) g1 (Obj.isFreed_of_fields (Obj.data_mapFields d1 _))
 have d2:=Obj.data_mapFields d1 (·.setIfInBounds 1 (rawInt ((0:Nat)+1:Int)))
 refine zI ⟨_,rfl,zI (hQ _ ⟨_,g2,?_,?_⟩ ((Heap.SameBut.update ..).trans (Heap.SameBut.update ..)))⟩
 ·exact(Obj.cls_mapFields ..).trans ((Obj.cls_mapFields ..).trans hci)
 ·rw[d2]
  simp[rawInt]
theorem Xa{Q:Option Value->Shared->Prop}(hh:A.handled=none)(hp:t.place= #[j])(hit:Hx s.heap I a (if w.params.followText "set-order" = true then 0 else j+1) 1 ep)(hm:zm w s.heap a x hs ep t)(hne:a≠I)
  (hQ:∀h',Heap.ExtBut I s.heap h'->Q none {s with heap:=h'}):
  wpAny (model prog w) A (pyNext (.ref I)) Q E s:=by
 obtain⟨oi,hoi,hci,hdi⟩:=id hit
 obtain⟨o,ho,hc,hd,hf,hl⟩:=hm
 have hT:s.TypeIs (.ref I) "set_iterator" := ⟨oi,hoi,hci⟩
 unfold pyNext
 refine zC (wpAny_attempt (wpAny_callSpecial?_slot (name:=Str.ofString "__next__") hT jL (vT jL hT zP ?_ (Bx _))))
 unfold Builtin.«set_iterator.__next__» setEntries
 repeat (any_goals (first | assumption | ((with_reducible show wpAny _ _ (setNext _ _ _ _) _ _ _);refine Jg hp ⟨o,ho,hc,hd,hf,hl⟩ (.inr ⟨rfl,by simp,show id _ from ?_⟩)) | ((with_reducible show wpAny _ _ (setState _) _ _ _);refine wpAny_setState_of ho hd hf ?_) | ((with_reducible show wpAny _ _ (fieldsOf _) _ _ _);refine wpAny_fieldsOf hoi hdi ?_) | wp_step))
 dsimp only[id]
 refine zC (wpAny_setField hoi hdi (by simp) ?_)
 show wpAny _ _ (newExc (.type "StopIteration") [] >>= _) _ _ _
 refine zC ?_
 simp only[newExc,newTuple]
 refine zC (wS ?_ (by size_fits))
 refine zC (m:=firstArgMember _ _) (wpAny_of_eq (a:=Value.none) (by first | rfl | (simp only[firstArgMember];rfl)) ?_)
 refine wS ?_ (by size_fits)
 simp only[raiseNew]
 refine zC (wpAny_handled ?_)
 rw[show A.in1.handled=none from hh]
 refine zC (zI (wpAny_throw ?_))
 refine zC (wpAny_isInstance (T:= "StopIteration") (b:=true) ⟨_,yB _ rfl,rfl⟩ isSubtype_stop ?_)
 exact zI (hQ _ (((Heap.SameBut.update ..).extBut.push _).push _))
theorem Ja:entryFor table "set_iterator.__iter__" = some Builtin.«dict_keyiterator.__iter__» := entryFor_alias (id':= "dict_keyiterator.__iter__") (by kernel_rfl) rfl (by decide +kernel) (by kernel_rfl)
theorem J2(a:Value):argsOk "set_iterator.__iter__" ⟨[a],[]⟩:=by
 unfold argsOk;rw[signature?_of (id:= "set_iterator.__iter__") (n:=['_','_','r','e','t','i','_','_']) (o:=['r','o','t','a','r','e','t','i','_','t','e','s']) (by kernel_rfl) Jh];kernel_rfl
theorem KZ{Q:Value->Shared->Prop}(hit:Hx s.heap I a slot i ep)(h:Q (.ref I) s):wpAny (model prog w) A (pyIter (.ref I)) Q E s:=by
 obtain⟨o,ho,hc,hd⟩:=hit
 have hT:s.TypeIs (.ref I) "set_iterator" := ⟨o,ho,hc⟩
 refine wpAny_pyIter_slot hT Bm (vT Bm hT Ja ?_ (J2 _))
 show wpAny _ _ (ret (.ref I)) _ _ s
 exact zI ⟨_,rfl,"set_iterator",_,hT,jL.lookup,h⟩
theorem Hx.at(x:Hx h I a slot i ep)(e:∀o,h.get? I=some o->h'.get? I=some o):Hx h' I a slot i ep:=let⟨o,ho,r⟩:=x;⟨o,e _ ho,r⟩
theorem zm.at(m:zm w h a x hs ep t)(e:∀o,h.get? a=some o->h'.get? a=some o):zm w h' a x hs ep t:=let⟨o,ho,r⟩:=m;⟨o,e _ ho,r⟩
def aht(w:World)(I a:Addr)(x:Value)(hs:Int)(ep j:Nat)(t:SetTable)(k:Nat)(h:Heap):Prop:=
 zm w h a x hs ep t/\(k=0/\Hx h I a 0 0 ep\/k=1/\Hx h I a (if w.params.followText "set-order" = true then 0 else j+1) 1 ep)
theorem Uk(hh:A.handled=none)(hp:t.place= #[j])(hne:a≠I):Walks prog w A I [I,a] [I] 1 (λ_ v=>v=x) (aht w I a x hs ep j t) where
 sub:=λb hb=>by simp at hb;simp[hb]
 frame:=λ_ _ _ z hk=>⟨z.1.at λo e=>hk a (by simp) o e,z.2.imp (λy=>⟨y.1,y.2.at λo e=>hk I (by simp) o e⟩) λy=>⟨y.1,y.2.at λo e=>hk I (by simp) o e⟩⟩
 item:=λi s Q E hi z hQ=>by
  obtain rfl:i=0:=()
  obtain⟨m,⟨_,it⟩ | ⟨z,_⟩⟩:=z
  ·exact XQ hp it m hne λh' it' sb=>hQ x h' s.toks rfl ⟨m.at λo e=>(sb.2 a hne).trans e,.inr ⟨rfl,it'⟩⟩ λb o hb e=>sb.extBut b o (λy=>hb (by simp[y])) e
  ·cases z
 done:=λs Q E z hQ=>by
  obtain⟨m,⟨z,_⟩ | ⟨_,it⟩⟩:=z
  ·cases z
  ·exact Xa hh hp it m hne λh' eb=>hQ h' s.toks λb o hb e=>eb b o (λy=>hb (by simp[y])) e
 self:=λi s Q E z hQ=>by
  obtain⟨_,⟨_,it⟩ | ⟨_,it⟩⟩:=z
  ·exact KZ it hQ
  ·exact KZ it hQ
theorem aaB(hp:t.place= #[j]):KdlSrc prog w "set" a a 1 (λ_ v=>v=x) (λh=>zm w h a x hs ep t) where
 type:=λ_ m=>let⟨o,ho,hc,_⟩:=m;⟨o,ho,hc.1⟩
 there:=λ_ m=>let⟨_,ho,_⟩:=m;⟨zS ho,zS ho⟩
 keep:=λ_ _ m hk=>m.at λo e=>hk a (.inl rfl) o e
 notList:=by decide
 notTuple:=by decide
 hint:=λ_ _ _ _ m hq=>Zn (let⟨o,ho,hc,_⟩:=m;⟨o,ho,hc.1⟩) hq
 iter:=λ_ s hh m=>⟨_,_,(λ_ _ hq=>Yc m hq),Uk (j:=j) hh hp (let⟨_,ho,_⟩:=m;xD (zS ho)),⟨m.at λo e=>zD _ e,.inl ⟨rfl,_,yB _ rfl,rfl,rfl⟩⟩⟩
end
section
variable{X:Cx}
theorem Xu{t:SetTable}(h:t.fits 1=true):∃j,t.place= #[j]:=by
 have h':t.place.size=1:=by
  unfold SetTable.fits at h
  simp at h
  omega
 exact Array.size_eq_one_iff.mp h'
def Z1(X:Cx):List V->Hp->VK->Prop:=λxs H Q=>∃v i,xs=[.ref v]/\H v=some (R_ X v i)/\∀l,H l=none->Q (.ref l) (upd H l (.lst [.int i]))
theorem Rj(hc:X.calm=true):qG X (.builtin "sorted") (Z1 X):=by
 intro pins s σ H xs us Q I r h
 obtain⟨v,i,rfl,hv,q⟩:=h
 obtain⟨u,rfl,rx⟩:=vals1 r
 cases rx
 obtain⟨x,⟨o,hs,ep,t,ho,hx,hd,hf,hl⟩,hi,hsc⟩:=(show fu X.prog X.w H s.heap v (R_ X v i)from I.hok v _ hv).1
 obtain⟨j,hp⟩:=Xu hf
 have m:zm X.w s.heap v x hs ep t:=⟨o,ho,hx,hd,hf,hl⟩
 refine Calls.call_function_entry kind_sorted plain_sorted entry_sorted (args_sorted1 _) ?_
 unfold Builtin.«sorted»
 refine zC (m:=checkCount "sorted" 1 1 _) (zI (zC (kdu_collect (A:=X.A.in1) (aaB hp) (I.ok.hd hc) m (by decide) λh' tk acc kp it=> ?_)))
 refine Xb (ns:=[i]) (I.kept (t':=tk) kp) (PK ?_ λj v hv=> ?_) ?_ q
 ·have:=it.1
  simp
  omega
 ·have e:=it.2 j v (by rw[<-Array.getElem?_toList];exact hv)
  have e1:=it.1
  subst e
  have hj:j=0:=by
   have:=(List.getElem?_eq_some_iff.mp hv).1
   rw[Array.length_toList]at this
   omega
  subst hj
  exact⟨.int i,rfl,by obtain⟨t,rfl⟩:=Value.isInt_shape hi;exact⟨t,rfl⟩⟩
 ·have:=it.1
  rw[Array.length_toList]
  omega
end
section
variable{prog:Program}{w:World}{A:Around}{E:Value->Shared->Prop}{s:Shared}
theorem TQ:bootBuiltins "reversed" = some (.type "reversed"):=by decide +kernel
theorem agy:bootBuiltins "set" = some (.type "set"):=by decide +kernel
theorem XX:typeLookup (.type "list_reverseiterator") "__len__" = pure none:=by rw[typeLookup_type,builtinLookup_eq_fast];kernel_rfl
theorem X3:typeLookup (.type "list_reverseiterator") "__length_hint__" = pure (some (.builtin "list_reverseiterator.__length_hint__")):=by rw[typeLookup_type,builtinLookup_eq_fast];kernel_rfl
theorem aaz{Q:Bool->Shared->Prop}(hT:s.TypeIs (.ref r) "list_reverseiterator")(h:Q false s):wpAny (model prog w) A (Builtin.List.listLengthHint (.ref r)) Q E s:=by
 unfold Builtin.List.listLengthHint
 refine zC (wpAny_specialOf hT XX ?_)
 show wpAny _ A (specialOf (Value.ref r) (Str.ofString "__length_hint__") >>= _) _ _ _
 refine zC (wpAny_specialOf hT X3 ?_)
 generalize hid:("list_reverseiterator.__length_hint__" : String)=id0
 wp_delta
 rw[show splitId id0=some ("list_reverseiterator","__length_hint__")from by subst hid;decide +kernel]
 subst hid
 refine zC (wpAny_isInstance (b:=true) hT (by rw[isSubtype_type];kernel_rfl) ?_)
 exact zI h
theorem Vl{R:Result->Shared->Prop}(hh:A.handled=none)(hSr:S≠r)(hSl:S≠l)(hne:l≠r)(hit:s.heap.IsRevIter r l ((its.size:Int) - 1))(hl:s.heap.IsList l its)(hn:its.size<=sizeLine)(hS:s.heap.get? S=some {cls:= .type "list",data:= .seq #[] c₀})
  (hR:∀h' tk acc' c',(∀b o,b≠S->b≠r->s.heap.get? b=some o->h'.get? b=some o)->h'.get? S=some {cls:= .type "list",dict:=none,data:= .seq acc' c',slots:= #[]}->ItemsOf (λi v=>its[its.size - 1 - i]? = some v) acc' its.size->R (.ok (.ret .none)) {s with heap:=h',toks:=tk}):
  wpAny (model prog w) A.in1 (Builtin.List.listExtendWith (.ref S) (.ref r) .none)
   (λfin s'=>match fin with | .done f=>R (.ok f) s' | .again c'=>c'.quiet=true/\codeAny (model prog w) A c' R s') (λe s'=>R (.error e) s') s:=by
 have W:=Walks.listRev (prog:=prog) (w:=w) (A:=A.in1) hh r l hne its
 have hSf:S∉[r,l]:=by simp only[List.mem_cons,List.not_mem_nil,or_false,not_or];exact⟨hSr,hSl⟩
 unfold Builtin.List.listExtendWith
 refine zC (wpAny_typeOf hit.typeIs ?_)
 have h1:Builtin.List.listSameRef (.ref S) (.ref r)=false:=by simp[Builtin.List.listSameRef,hSr]
 rw[if_neg (by rw[h1];decide)]
 refine zC (wpAny_pyIter_revIter hit ?_)
 refine zC (wpAny_holding (aaz hit.typeIs ?_))
 rw[if_neg (by decide)]
 have st0:(0<=its.size/\s.heap.IsRevIter r l ((its.size:Int) - 1 - ((0:Nat):Int))/\s.heap.IsList l its):=⟨Nat.zero_le _,by rw[show(its.size:Int) - 1 - ((0:Nat):Int)=(its.size:Int) - 1 from by omega];exact hit,hl⟩
 refine zI ⟨plainId_quiet PySem.F.plain_extend_loop _,codeAny_extend_loopS W.toS hn S hSf .none its.size 0 _ #[] c₀ rfl (Nat.zero_le _) st0 hS (ItemsOf.nil _) λs' acc' c' hm hS' hacc=> ?_⟩
 rw[Moved.eq_with hm]
 refine hR s'.heap s'.toks acc' c' (λb o hb hbr e=>hm.heap b o (λhmem=> ?_) e) hS' hacc
 rcases List.mem_cons.mp hmem with e' | hmem
 ·exact hb e'
 ·exact hbr (List.mem_singleton.mp hmem)
theorem aay{Q:Value->Shared->Prop}(hh:A.handled=none)(hne:l≠r)(hit:s.heap.IsRevIter r l ((its.size:Int) - 1))(hl:s.heap.IsList l its)(hn:its.size<=sizeLine)
  (hQ:∀h' tk acc' c',(∀b o,b≠r->s.heap.get? b=some o->h'.get? b=some o)->h'.get? s.heap.objs.size=some {cls:= .type "list",dict:=none,data:= .seq acc' c',slots:= #[]}->ItemsOf (λi v=>its[its.size - 1 - i]? = some v) acc' its.size->Q (.ref s.heap.objs.size) {s with heap:=h',toks:=tk}):
  wpAny (model prog w) A (call (.type "list") [.ref r]) Q E s:=by
 refine callType_codes (Q₁:=λobj s₁=>obj= .ref s.heap.objs.size/\s₁={s with heap:=s.heap.push {cls:= .type "list",data:= .seq #[]}}) PySem.F.called_list (PySem.F.typeCall_list_1 _) PySem.F.entry_list_init (code_list_new _ ⟨rfl,rfl⟩) λobj s₁ h₁=> ?_
 obtain⟨rfl,rfl⟩:=h₁
 have hS:(s.heap.push {cls:= .type "list",data:= .seq #[]}).get? s.heap.objs.size=some {cls:= .type "list",data:= .seq #[]}:=yB _ rfl
 have lr:r<s.heap.objs.size:=let⟨_,ho,_⟩:=hit;zS ho
 have ll:l<s.heap.objs.size:=let⟨_,ho,_⟩:=hl;zS ho
 refine⟨⟨_,hS,rfl⟩,PySem.F.args_list_init_2 _ _,?_⟩
 show wpAny _ _ (do let old <-Builtin.List.listItems (.ref s.heap.objs.size);Builtin.List.listUpdate (.ref s.heap.objs.size) (λ_=> #[]);letGo old.toList.reverse;Builtin.List.listExtendWith (.ref s.heap.objs.size) (.ref r) .none) _ _ _
 refine zC ?_
 unfold Builtin.List.listItems
 refine zC (wpAny_seqItems hS rfl (zI ?_))
 show wpAny _ _ (updateSeq s.heap.objs.size (λ_=> #[]) >>= λ_=>letGo (#[]:Array Value).toList.reverse >>= λ_=>Builtin.List.listExtendWith (.ref s.heap.objs.size) (.ref r) .none) _ _ _
 refine zC (wpAny_updateSeq hS rfl ?_)
 have hS₂:=vE (Obj.mapSeq (λ_=>(#[]:Array Value))) hS rfl
 have oth:∀b o,b≠s.heap.objs.size->s.heap.get? b=some o->((s.heap.push {cls:= .type "list",data:= .seq #[]}).update s.heap.objs.size (Obj.mapSeq (λ_=>(#[]:Array Value)))).get? b=some o:=
  λb o hb e=>(xL _ _ (Ne.symm hb)).trans (zD _ e)
 refine zC (wpAny_letGo ?_)
 refine Vl (A:=A.in1) hh (xS lr) (xS ll) hne (hit.at λo e=>oth _ _ (xD lr) e) (hl.at λo e=>oth _ _ (xD ll) e) hn hS₂ λh' tk acc' c' hk hS' hacc=> ?_
 exact⟨rfl,hQ h' tk acc' c' (λb o hb e=>hk b o (xD (zS e)) hb (oth b o (xD (zS e)) e)) hS' hacc⟩
end
section
variable{X:Cx}{e:Expr}{te:TE}{p p1 pos pos1:Pos}
def Zf(t:TE):TE:=λσ H Q=>t σ H λx H1=>∃l ys,x= .ref l/\H1 l=some (.lst ys)/\∀n,H1 n=none->Q (.ref n) (upd H1 n (.lst ys.reverse))
theorem U8(hc:X.calm=true)(he:PE X e te)(hg:Gl X "list")(hm:X.mg "list" = none)(hg1:Gl X "reversed")(hm1:X.mg "reversed" = none)
  (h1:starEach [.Call (.Name "reversed" p1) [e] [] pos1] X.env=(false,eval (.Call (.Name "reversed" p1) [e] [] pos1) X.env)::starEach [] X.env:=by rfl) (h2:starEach [e] X.env=(false,eval e X.env)::starEach [] X.env:=by rfl) (h3:starEach [] X.env=[]:=by rfl):
  PE X (.Call (.Name "list" p) [.Call (.Name "reversed" p1) [e] [] pos1] [] pos) (Zf te):=by
 intro pins s σ H Q I h
 refine wpAny_Call_Name_kw (CN I hg hm DP ?_)
 refine PyProof.Rows.callWith_type1 ?_ h1 (by rw[h3];rfl)
 rw[h1,h3]
 show wpAny _ _ (spliced [(false,eval (.Call (.Name "reversed" p1) [e] [] pos1) X.env)]) _ _ s
 refine Calls.spliced_cons ?_
 refine wpAny_Call_Name_kw (CN I hg1 hm1 TQ ?_)
 refine PyProof.Rows.callWith_type1 ?_ h2 (by rw[h3];rfl)
 rw[h2,h3]
 show wpAny _ _ (spliced [(false,eval e X.env)]) _ _ s
 refine Calls.spliced_cons (m_ (he pins s σ H _ I h) λu s1 ⟨x,H1,I1,r1,l,ys,ex,hH,q⟩=>Calls.spliced_nil ?_)
 subst ex
 obtain rfl:u=Value.ref l:=r1
 obtain⟨z,its,n,rv,hl,eo⟩:=I1.acn hH
 have il:s1.heap.IsList l its.toArray:=⟨_,eo,rfl,n,rfl⟩
 refine call_reversed_list il (Calls.spliced_nil ?_)
 have ll:=zS eo
 have I2:Inv X pins σ H1 {s1 with heap:=s1.heap.push (revObj l ((its.toArray.size:Int) - 1))}:=I1.kept (t':=s1.toks) λb o e=>zD _ e
 have fp:=I1.Tn (jS _) (I1.hok.fresh (jS _))
 refine aay (s:={s1 with heap:=s1.heap.push (revObj l ((its.toArray.size:Int) - 1))}) (I.ok.hd hc) (xD ll) ⟨_,yB _ rfl,rfl,rfl⟩ (il.push _) ?_ λh' tk acc c kp hS it=> ?_
 ·rw[List.size_toArray,<-rv.length];exact z
 ·have I3:=I2.turned (t':=tk) (it:=s1.heap.objs.size) (h':=h') (λb o hb e=>kp b o hb e) fp.1 fp.2.1 fp.2.2.2.1 fp.2.2.2.2.1 fp.2.2.2.2.2
  have fp2:=I2.Tn (jS _) (I2.hok.fresh (jS _))
  have el:=rv.length
  have ea:acc.size=its.length:=it.1.trans (by simp)
  refine⟨.ref _,_,I3.track (o:= .lst ys.reverse) fp2 (Heap.get?_none_of_le I2.sz) ⟨by rw[List.length_reverse];exact z,acc.toList,c,PK (by rw[List.length_reverse,Array.length_toList];omega) λj v hv=> ?_,by rw[Array.toArray_toList];exact hS⟩,rfl,q _ fp2.1⟩
  have hj:j<ys.length:=by
   have:=(List.getElem?_eq_some_iff.mp hv).1
   rw[Array.length_toList]at this
   omega
  have e1:=it.2 j v (by rw[<-Array.getElem?_toList];exact hv)
  rw[List.size_toArray,List.getElem?_toArray,<-el]at e1
  obtain⟨u,hu,ru⟩:=rv.get (zaa (show ys.length - 1 - j<ys.length by omega))
  rw[e1]at hu
  cases hu
  exact⟨_,by rw[List.getElem?_reverse hj];exact zaa (),ru⟩
end
end L2
namespace S
open PySem PySem.Spec PyProof.Rows L2
noncomputable def lrs(d:D)(M:Mem):Out D:=match d with
 | .ref n=>match M[n]? with
  | some (.lst [.int i])=> .ok (.ref M.length) (M++[.lst [.int i]])
  | _=> .bad
 | _=> .bad
def afd(mo:ME):ME:=λe M=>(mo e M).bind lrs
@[simp] theorem api:afd mo e M=(mo e M).bind lrs:=id rfl
theorem afg(h:M[n]? = some (.lst [.int i])):lrs (.ref n) M= .ok (.ref M.length) (M++[.lst [.int i]]):=by simp only[lrs,h]
section
variable{X:Cx}{ct:Nat->Addr}{W:bJ}{o:Expr}{mo:ME}{p0 p1 p2 p3 q0 q1 q2 q3:Pos}
theorem ad9(hc:X.calm=true)(ho:SE X ct W o mo)(hl:Gl X "list")(ml:X.mg "list" = none)(hr:Gl X "reversed")(mr:X.mg "reversed" = none)(hs:Gl X "sorted")(ms:X.mg "sorted" = none)(ht:Gl X "set")(mt:X.mg "set" = none)
  (h3:starEach [] X.env=[]:=by rfl) (e0:starEach [o] X.env=(false,eval o X.env)::starEach [] X.env:=by rfl) (e1:starEach [.Call (.Name "set" p3) [o] [] q3] X.env=(false,eval (.Call (.Name "set" p3) [o] [] q3) X.env)::starEach [] X.env:=by rfl)
  (e2:starEach [.Call (.Name "sorted" p2) [.Call (.Name "set" p3) [o] [] q3] [] q2] X.env=(false,eval (.Call (.Name "sorted" p2) [.Call (.Name "set" p3) [o] [] q3] [] q2) X.env)::starEach [] X.env:=by rfl)
  (e3:starEach [.Call (.Name "reversed" p1) [.Call (.Name "sorted" p2) [.Call (.Name "set" p3) [o] [] q3] [] q2] [] q1] X.env=(false,eval (.Call (.Name "reversed" p1) [.Call (.Name "sorted" p2) [.Call (.Name "set" p3) [o] [] q3] [] q2] [] q1) X.env)::starEach [] X.env:=by rfl):
  SE X ct W (.Call (.Name "list" p0) [.Call (.Name "reversed" p1) [.Call (.Name "sorted" p2) [.Call (.Name "set" p3) [o] [] q3] [] q2] [] q1] [] q0) (afd mo):=by
 refine ig (U8 hc (SJ (Rj hc) hs ms Yv (Gn (Ih (VF hc) ht mt agy (Gn ho Lk e0) (by decide) (by decide) e0 (by rw[h3];rfl)) Lk e1) (by decide) (by decide) e1 (by rw[h3];rfl)) hl ml hr mr e3 e2 h3) λσ H Q q=> ?_
 obtain⟨ι,e,M,w,p⟩:=di (iR:=gQ X.K ct) (f:=λd _ M1=>lrs d M1) q
 refine⟨ι,e,M,w,p.mono ?_⟩
 rintro v H1 ⟨dU,e1,M1,d,w1,q1,p1⟩
 dsimp only[lrs]at p1
 split at p1
 ·rename_i m
  obtain⟨hn,rfl⟩:=sO q1
  split at p1
  ·rename_i i em
   obtain⟨vs,hH,hd⟩:=w1.rl.obj m _ em
   obtain⟨u,rfl,du⟩:=Jb hd
   cases q_ du
   refine⟨_,i,rfl,De.of hH,λa ha=>⟨a,i,rfl,bB,λb hb=>⟨b,[.int i],rfl,bB,λc hc'=> ?_⟩⟩⟩
   have x2:Ext X.K dU M1.length H1 dU M1.length (upd H1 a (R_ X a i)):=Ext.fresh ha
   have x3:Ext X.K dU M1.length (upd H1 a (R_ X a i)) dU M1.length (upd (upd H1 a (R_ X a i)) b (.lst [.int i])):=Ext.fresh hb
   exact wW ((w1.rl.fresh ha).fresh hb) (.cons (.int i) .nil) hc' (p1.ext (x2.trans x3))
  ·exact p1.elim
 ·exact p1.elim
end
end S
namespace L2
open PySem PySem.Spec PyProof.Rows
def Itd(hi:Int)(n:Nat):It:=⟨λi _=>i<n,λi H x H'=>H'=H/\x= .int (hi - i),λi _=>n<=i⟩
theorem RW{P:Program}{w:World}{K:Frag}{tg:Expr}(it:Addr)(lo:Int)(n:Nat):Turn P w K tg (Itd lo n) [it] it (λi h=>IsRangeIter h it (lo+(i:Nat)*(-1)) ((n:Int) - (i:Nat)) (-1)) where
 mem:=by simp
 obj:=λi h st b hb=>by
  have e:b=it:=by simpa using hb
  subst e
  exact⟨_,st,λv z=>by
   have z':Data.fields _=Data.cell v:=z
   cases z'⟩
 keep:=λi h h' st k=>k it (by simp) _ st
 item:=by
  intro X hP hw hK hc i pins s σ H E I hf st hg
  subst hP hw hK
  obtain⟨f0,f1,f2,f3,f4,f5⟩:=hf it (by simp)
  have W:=Walks.range (prog:=X.prog) (w:=X.w) (I.ok.hd hc) it lo (-1) n
  refine W.item i s _ _ hg st λv h' tk hv st' kk=> ?_
  obtain⟨t,rfl⟩:=hv
  have I1:Inv X pins σ H {s with heap:=h',toks:=tk}:=I.turned (λb o hb e=>kk b o (by simpa using hb) e) f0 f1 f3 f4 f5
  refine⟨_,rfl,WL (s:={s with heap:=h',toks:=tk}) (n:= "range_iterator") st' rfl rfl (by decide) ⟨.int (lo - i),H,I1,⟨t,?_⟩,⟨rfl,rfl⟩,st',λb hb=>(hf b hb).1⟩⟩
  congr 1
  omega
 done:=by
  intro X hP hw hK hc i pins s σ H E I hf st hg
  subst hP hw hK
  obtain⟨f0,f1,f2,f3,f4,f5⟩:=hf it (by simp)
  exact wpAny_pyNext_range_end (I.ok.hd hc) st (by have:n<=i:=hg;omega) λh' eb=>⟨rfl,I.turned (t':=s.toks) (λb o hb e=>eb b o hb e) f0 f1 f3 f4 f5⟩
 self:=λ_ _ _ _ _ st h=>wpAny_pyIter_rangeiter st h
theorem Ou(a b:Int):Builtin.Range.rangeSize a b (-1)=if b<a then a - b else 0:=by
 unfold Builtin.Range.rangeSize
 simp only[show ¬((-1:Int) > 0) by decide,if_false,show -(-1:Int)=1 from rfl,Int.ediv_one,gt_iff_lt]
 split<;>omega
theorem small_down(ha: -(2 ^ 62)<=a)(ha':a<2 ^ 62)(hb: -(2 ^ 62)<=b)(hb':b<2 ^ 62):Builtin.Range.small a b (-1)=true:=by
 unfold Builtin.Range.small
 rw[Ou]
 simp only[Builtin.Range.rangeFitsLong,Bool.and_eq_true,Bool.or_eq_true,decide_eq_true_eq,beq_iff_eq,show ¬((-1:Int) > 0) by decide,if_false]
 split<;>omega
section
variable{X:Cx}{tg:Expr}
def akK(ta:TA):TI:=λσ H R=>ta σ H λvs H1=>∃i j:Int,vs=[.int i,.int j,.int (-1)]/\(-(2 ^ 62)<=i/\i<2 ^ 62/\ -(2 ^ 62)<=j/\j<2 ^ 62)/\R (Itd i (i - j).toNat) H1
theorem Xv(hg:Gl X "range")(hm:X.mg "range" = none)(ha:PA X [a,b,c] ta)(hs:starEach [a,b,c] X.env=(false,eval a X.env)::starEach [b,c] X.env:=by rfl)(hs2:starEach [b,c] X.env=[(false,eval b X.env),(false,eval c X.env)]:=by rfl):
  PI X tg (.Call (.Name "range" p) [a,b,c] [] pos) (akK ta):=by
 intro pins s σ H R I h
 refine Call_ (CN I hg hm boot_range (PyProof.Rows.callWith_type1 (m_ (ha pos pins s σ H _ I h) λus s1 ⟨vs,H1,I1,r1,q1⟩=> ?_) hs (by rw[hs2];rfl)))
 obtain⟨lo,hi,e,⟨q1,q2,q3,q4⟩,q⟩:=q1
 subst e
 cases r1 with
 | cons r rr=>
  cases rr with
  | cons r' rr=>
   cases rr with
   | cons r'' rr=>
    cases rr
    obtain⟨t,rfl⟩:=r
    obtain⟨u,rfl⟩:=r'
    obtain⟨v,rfl⟩:=r''
    refine call_range_3 (by decide) ?_ (Or.inl (PyProof.noPylong_small ()))
    obtain⟨tk,etk⟩:∃tk,tk=s1.toks:=⟨_,rfl⟩
    refine wpAny_pyIter_range (IsRange.new ..) (small_down q1 q2 q3 q4) ?_
    have I2:Inv X pins σ H1 {s1 with heap:=s1.heap.push {cls:= .type "range",data:= .fields #[.int lo t,.int hi u,.int (-1) v]},toks:=s1.toks}:=I1.kept λb o e=>zD _ e
    refine⟨(s1.heap.push {cls:= .type "range",data:= .fields #[.int lo t,.int hi u,.int (-1) v]}).objs.size,[(s1.heap.push {cls:= .type "range",data:= .fields #[.int lo t,.int hi u,.int (-1) v]}).objs.size],_,_,H1,rfl,
     I2.kept (t':=s1.toks) λb o e=>zD _ e,RW _ lo (lo - hi).toNat,?_,λb hb=> ?_,q⟩
    ·have e1:lo+((0:Nat):Int)*(-1)=lo:=by simp
     have e2:(((lo - hi).toNat:Nat):Int) - ((0:Nat):Int)=Builtin.Range.rangeSize lo hi (-1):=by rw[Ou];split<;>omega
     show IsRangeIter _ _ (lo+((0:Nat):Int)*(-1)) ((((lo - hi).toNat:Nat):Int) - ((0:Nat):Int)) (-1)
     rw[e1,e2]
     exact yB _ rfl
    ·have e:b=(s1.heap.push {cls:= .type "range",data:= .fields #[.int lo t,.int hi u,.int (-1) v]}).objs.size:=by simpa using hb
     subst e
     exact I2.Tn (jS _) (I2.hok.fresh (jS _))
end
end L2
namespace S
open PySem PySem.Spec PyProof.Rows L2
def Su(hi:Int)(n:Nat):List D:=(List.range n).map λ(k:Nat)=>D.int (hi - k)
noncomputable def Sv(ds:List D)(M1:Mem):Out Itm:=match ds with
 | [.int i,.int j,.int k]=>if k= -1/\ -(2 ^ 62)<=i/\i<2 ^ 62/\ -(2 ^ 62)<=j/\j<2 ^ 62/\i - j<=2 ^ 24 then .ok ⟨none,Su i (i - j).toNat⟩ M1 else .bad
 | _=> .bad
def aar(ms:MA):MI:=λe M=>(ms e M).bind Sv
@[simp] theorem ai7:aar ms e M=(ms e M).bind Sv:=id rfl
section
variable{X:Cx}{ct:Nat->Addr}{W:bJ}
theorem aaD{K:Frag}{ι:Nat->Addr}{M:Mem}{H:Hp}(R:Rl K ct ι M H)(lo:Int)(n i:Nat):
  (∀d,(Su lo n)[i]? = some d->(Itd lo n).go i H/\∀x H2,(Itd lo n).YD i H x H2->Ext K ι M.length H ι M.length H2/\Rl K ct ι M H2/\DV K ct ι M.length H2 d x)/\((Su lo n).length<=i->(Itd lo n).stop i H):=by
 refine⟨λd e=> ?_,λh=>(by simpa[Su]using h:n<=i)⟩
 unfold Su at e
 rw[zaj]at e
 obtain⟨k,hk,rfl⟩:=Option.map_eq_some_iff.mp e
 obtain⟨hi,e2⟩:=List.getElem?_eq_some_iff.mp hk
 have hi':i<n:=by simpa using hi
 have ek:k=i:=by rw[<-e2];simp
 subst ek
 refine⟨hi',λx H2 y=> ?_⟩
 obtain⟨e3,y⟩:=y
 subst e3 y
 exact⟨.refl,R,.int _⟩
theorem Xc(hg:Gl X "range")(hm:X.mg "range" = none)(ha:SA X ct W [a,b,c] ms)(hs:starEach [a,b,c] X.env=(false,eval a X.env)::starEach [b,c] X.env:=by rfl)(hs2:starEach [b,c] X.env=[(false,eval b X.env),(false,eval c X.env)]:=by rfl):SI X ct W tg (.Call (.Name "range" p) [a,b,c] [] pos) (aar ms):=PI.imp (Xv hg hm ha hs hs2) λσ H R q=>by
 obtain⟨ι,e,M,w,p⟩:=di (iR:=Ie X.K ct) (f:=λds _ M1=>Sv ds M1) q
 refine⟨ι,e,M,w,p.mono ?_⟩
 rintro v H1 ⟨dU,e1,M1,d,w1,q1,p1⟩
 dsimp only[Sv]at p1
 split at p1
 ·rename_i i j k
  split at p1
  ·rename_i hj
   cases q1 with
   | cons q2 q1=>
    obtain⟨v,v',rfl,q3,q4⟩:=acF q1
    cases q_ q2
    cases q_ q3
    cases q_ q4
    have hz:=Vm
    obtain⟨rfl,h1,h2,h3,h4,h5⟩:=hj
    exact⟨i,j,rfl,⟨h1,h2,h3,h4⟩,p1 dU _ H1 .refl w1.rl ⟨trivial,by simp[Su];omega,λnR M2 H2 x2 r2 ok2 k=>aaD r2 i _ k⟩⟩
  ·exact p1.elim
 ·exact p1.elim
end
end S
set_option Elab.async false
set_option maxHeartbeats 0
set_option maxRecDepth 100000
set_option linter.all false
namespace My
open PySem L2 S
def Bs:MS:=
 (tV (bA (aM sLt (au 1) (BR zz (aq (au 0) aH)))) (cH (aM fP (au 0) (au 1))) cQ)
def dm:MS:=
 (aP Bs
 (cH (mC (.int 0))))
def gh:Fn:=aY 2 dm
def sE:MS:=
 (tV (bA (aM sEq (au 2) (mC (.int 0)))) (cH (aM zY (mC (.int 1)) (au 1))) cQ)
def v5:MS:=
 (tV (bA (aM sEq (au 2) (mC (.int 1)))) (cH (aM qm (mC (.int 1)) (aM qj (au 0) (mC (.int 1152921504606846975))))) cQ)
def vR:MS:=
 (aP (cU (aM qm (aM Eu (au 0) (mC (.int 60))) (aM UL (mC (.int 7)) (au 4))) (gN 0))
 (cU (aM sOr (au 3) (aM zY (mC (.int 1)) (aM qj (au 0) (mC (.int 60))))) (gN 3)))
def Al:MS:=
 (JQ (Jq (aq (aM Eu (au 2) (mC (.int 2))) aH)) (gN 4) vR)
def Af:MS:=
 (tV (mOr (bA (aM sEq (au 2) (mC (.int 6)))) (bA (aM sEq (au 2) (mC (.int 4))))) (cU (aM sOr (au 3) (aM zY (mC (.int 1)) (au 1))) (gN 3)) cQ)
def kJ:MS:=
 (aP (cU (aM qj (au 0) (mC (.int 8))) (gN 2))
 (aP (cU (aM Eu (au 0) (mC (.int 8))) (gN 0))
 (aP sE
 (aP v5
 (aP (cU (aM zY (mC (.int 1)) (aM qj (au 0) (mC (.int 60)))) (gN 3))
 (aP Al
 (aP Af
 (cH (au 3)))))))))
def qT:Fn:=aY 5 kJ
def rA:MS:=
 (aP (d_ [4] (au 0) (au 1) "base")
 (aP (d_ [4] (au 0) (au 2) "base_term")
 (aP (d_ [4] (au 0) (au 3) "base_roll")
 (d_ [4,5,11] (au 0) (BR Ox (aq (au 4) aH)) "kept"))))
def Ac:Fn:=aY 5 rA
def rz:MS:=
 (cH (Br 4 Ac 5 [] (aq (aX [4] (au 0) "base") (aq (aX [4] (au 0) "base_term") (aq (aX [4] (au 0) "base_roll") (aq (aX [4,5,11] (au 0) "kept") aH))))))
def Ab:Fn:=aY 1 rz
def rM:MS:=
 (aP (d_ [5,11] (au 0) (au 1) "term")
 (aP (d_ [5,11] (au 0) (au 2) "vote")
 (aP (d_ [5,11] (au 0) (aV 4 "twin" Ab 1 [] (au 3) aH) "row")
 (d_ [4,5,11] (au 0) (au 4) "kept"))))
def CJ:Fn:=aY 5 rM
def v_:MS:=
 (tV (Vj (bA (aM sEq (aM qj (dR gh 2 [] (aq (au 0) (aq (mC (.int 2)) aH))) (mC (.int 3))) (mC (.int 1)))) (bA (aM K9 (au 3) (mC (.int 0))))) (aP (cU (aM qm (mC (.int 1)) (aM qj (aM Eu (dR gh 2 [] (aq (au 0) (aq (mC (.int 2)) aH))) (mC (.int 12))) (mC (.int 999999)))) (gN 4))
 (cU (mC (.int 1)) (gN 5))) cQ)
def v7:MS:=
 (tV (bA (aM K9 (au 3) (mC (.int 0)))) (cU (vI [3] (Jq (aq (aM qj (aM Eu (dR gh 2 [] (aq (au 0) (aq (mC (.int 2)) aH))) (mC (.int 3))) (mC (.int 4))) aH)) CK (fQ (aq (au 1) (aq (fQ (aq (mC (.str "start")) aH)) aH)))) (gN 6)) cQ)
def Ag:MS:=
 (tV (bA (aM sNe (au 6) (rN aH))) (cU (fQ (aq (au 3) (aq (aM qm (au 4) (BR zz (aq (au 6) aH))) aH))) (gN 7)) cQ)
def xJ:MS:=
 (aP (cU (aM qj (dR gh 2 [] (aq (au 0) (aq (mC (.int 1)) aH))) (aM ZC (mC (.int 10)) (mC (.int 40)))) (gN 3))
 (aP (cU (mC (.int 0)) (gN 4))
 (aP (cU (mC (.int 0)) (gN 5))
 (aP v_
 (aP (cU (rN aH) (gN 6))
 (aP v7
 (aP (cU (fQ (aq (au 5) (aq (au 4) aH))) (gN 7))
 (aP Ag
 (cH (fQ (aq (Br 5 CJ 5 [] (aq (au 3) (aq (mC .non) (aq (Br 4 Ac 5 [] (aq (au 4) (aq (au 5) (aq (au 2) (aq (au 6) aH))))) (aq (fQ (aq (fQ aH) (aq (fQ aH) aH))) aH))))) (aq (aM qm (au 3) (mC (.int 1))) (aq (au 7) (aq (au 4) aH))))))))))))))
def Ml:Fn:=aY 8 xJ
def pW:MS:=
 (aP (d_ [10] (au 0) O4 "amounts")
 (d_ [10] (au 0) O4 "answered"))
def Aa:Fn:=aY 1 pW
def PN:MS:=
 (U0 (aX [10] (au 1) "amounts") (au 2) (au 3))
def Hj:MS:=
 (JQ (vH (aM fP (au 0) (mC (.int 0)))) (gT 2 (lW (gN 2) (lW (gN 3) G6))) PN)
def PL:MS:=
 (U0 (aX [10] (au 1) "answered") (fQ (aq (au 4) (aq (au 5) aH))) (au 6))
def Hi:MS:=
 (JQ (vH (aM fP (au 0) (mC (.int 1)))) (gT 3 (lW (gN 4) (lW (gN 5) (lW (gN 6) G6)))) PL)
def t8:MS:=
 (aP (cU (Br 10 Aa 1 [] aH) (gN 1))
 (aP Hj
 (aP Hi
 (cH (au 1)))))
def Ff:Fn:=aY 7 t8
def rK:MS:=
 (aP (d_ [9,11] (au 0) (au 1) "me")
 (aP (d_ [11] (au 0) (au 3) "note")
 (aP (d_ [5,11] (au 0) (aX [5,11] (au 2) "term") "term")
 (aP (d_ [5,11] (au 0) (aX [5,11] (au 2) "vote") "vote")
 (aP (d_ [5,11] (au 0) (aV 4 "twin" Ab 1 [] (aX [5,11] (au 2) "row") aH) "row")
 (aP (d_ [4,5,11] (au 0) (aX [4,5,11] (au 2) "kept") "kept")
 (aP (d_ [11] (au 0) (aX [4] (aX [5,11] (au 0) "row") "base") "settled")
 (aP (d_ [11] (au 0) (aX [4] (aX [5,11] (au 0) "row") "base") "done")
 (aP (d_ [11] (au 0) (dR Ff 1 [] (aq (aX [4,5,11] (au 2) "kept") aH)) "shelf")
 (aP (d_ [11] (au 0) (mC .non) "chair")
 (d_ [11] (au 0) (Kg 7) "seat")))))))))))
def CG:Fn:=aY 4 rK
def j9:MS:=
 (cH (vI [0] (Jq (aq (mC (.int 60)) aH)) (bA (aM sEq (aM Ql (aM UJ (au 1) (au 0)) (mC (.int 1))) (mC (.int 1)))) (au 0)))
def oU:Fn:=aY 1 j9
def kO:MS:=
 (cH (aM K9 (aM UL (mC (.int 2)) (BR zz (aq (dR oU 1 [] (aq (aM Ql (au 0) (au 1)) aH)) aH))) (BR zz (aq (dR oU 1 [] (aq (au 1) aH)) aH))))
def ug:Fn:=aY 2 kO
def kI:MS:=
 (cH (Jr (dR ug 2 [] (aq (au 1) (aq (aM fP (au 0) (mC (.int 0))) aH))) (acf (aM sEq (aM fP (au 0) (mC (.int 1))) (mC (.int 0))) (dR ug 2 [] (aq (au 1) (aq (aM fP (au 0) (mC (.int 1))) aH))))))
def qR:Fn:=aY 2 kI
def iY:MS:=
 (cH (BR (Qi 9 [(7,false),(8,false),(9,true)]) (aq (aX [11] (au 0) "seat") (aq (mC (.cls 9)) aH))))
def qK:Fn:=aY 1 iY
def pX:MS:=
 (aP (d_ [5,11] (au 0) (au 1) "term")
 (aP (d_ [5,11] (au 0) (mC .non) "vote")
 (aP (d_ [11] (au 0) (mC .non) "chair")
 (d_ [11] (au 0) (Kg 7) "seat"))))
def vY:Fn:=aY 2 pX
def vJ:MS:=
 (tV (bA (aM Ia (au 2) (mC .non))) (jz (Mp (au 2) (aq (au 1) aH))) cQ)
def bV:MS:=
 (aP (cU (aX [11] (au 0) "note") (gN 2))
 vJ)
def bF:Fn:=aY 3 bV
def jx:MS:=
 (aP (d_ [5,11] (au 0) (au 1) "vote")
 (jz (aV 11 "tell_paper" bF 2 [] (au 0) (aq (fQ (aq (mC (.str "vote")) (aq (aX [9,11] (au 0) "me") (aq (aX [5,11] (au 0) "term") (aq (au 1) aH))))) aH))))
def pC:Fn:=aY 2 jx
def wR:MS:=
 (cU (aM sOr (au 1) (aM zY (mC (.int 1)) (au 2))) (gN 1))
def M6:MS:=
 (JQ (vH (au 0)) (gN 2) wR)
def u9:MS:=
 (aP (cU (mC (.int 0)) (gN 1))
 (aP M6
 (cH (au 1))))
def Cw:Fn:=aY 3 u9
def p7:MS:=
 (d_ [8] (au 0) (dR Cw 1 [] (aq (rN (aq (au 1) aH)) aH)) "voters")
def vZ:Fn:=aY 2 p7
def gZ:MS:=
 (cH (aM qm (aX [4] (au 0) "base") (BR zz (aq (aX [4,5,11] (au 0) "kept") aH))))
def kh:Fn:=aY 1 gZ
def rJ:MS:=
 (cH (Jr (aM sLt (aX [4] (au 0) "base") (au 1)) (aM abv (au 1) (aV 4 "last" kh 1 [] (au 0) aH))))
def Cz:Fn:=aY 2 rJ
def zL:MS:=
 (tV (JX (bA (aV 4 "keeps" Cz 2 [] (au 0) (aq (au 1) aH)))) K_ cQ)
def gB:MS:=
 (aP zL
 (cH (aM fP (aX [4,5,11] (au 0) "kept") (aM JP (aM JP (au 1) (aX [4] (au 0) "base")) (mC (.int 1))))))
def lK:Fn:=aY 2 gB
def vm:MS:=
 (tV (bA (aM sEq (au 1) (aX [4] (au 0) "base"))) (cH (aX [4] (au 0) "base_term")) cQ)
def iJ:MS:=
 (aP vm
 (cH (aM fP (aV 4 "entry_at" lK 2 [] (au 0) (aq (au 1) aH)) (mC (.int 0)))))
def iH:Fn:=aY 2 iJ
def wQ:MS:=
 (cH (fQ (aq (aV 4 "term_at" iH 2 [] (au 0) (aq (aV 4 "last" kh 1 [] (au 0) aH) aH)) (aq (aV 4 "last" kh 1 [] (au 0) aH) aH))))
def tZ:Fn:=aY 1 wQ
def rm:MS:=
 (cH (vI [0] (Jq (aq (mBM "int" Wf (au 0) aH) aH)) (bA (aM sNe (aM Ql (au 1) (aM zY (mC (.int 1)) (au 0))) (mC (.int 0)))) (au 0)))
def z_:Fn:=aY 1 rm
def wO:MS:=
 (cH (aM sOr (aM fP (au 0) (mC (.int 0))) (aM fP (au 0) (mC (.int 1)))))
def Iu:Fn:=aY 1 wO
def bZ:MT:=
 (Vj (bA (aM K9 (au 1) (aX [4] (au 0) "base"))) (bA (aM sNe (aM fP (aM fP (aV 4 "entry_at" lK 2 [] (au 0) (aq (au 1) aH)) (mC (.int 1))) (mC (.int 0))) (mC (.str "roll")))))
def gM:MS:=
 (cU (aM JP (au 1) (mC (.int 1))) (gN 1))
def nU:MS:=
 (H9 bZ gM)
def dz:MS:=
 (aP nU
 (cH (au 1)))
def gF:Fn:=aY 2 dz
def vq:MS:=
 (tV (bA (aM sEq (au 2) (aX [4] (au 0) "base"))) (cH (aX [4] (au 0) "base_roll")) cQ)
def kW:MS:=
 (aP (cU (aV 4 "roll_place_by" gF 2 [] (au 0) (aq (au 1) aH)) (gN 2))
 (aP vq
 (aP (cU (aM fP (aV 4 "entry_at" lK 2 [] (au 0) (aq (au 2) aH)) (mC (.int 1))) (gN 3))
 (cH (fQ (aq (aM fP (au 3) (mC (.int 1))) (aq (aM fP (au 3) (mC (.int 2))) aH)))))))
def qp:Fn:=aY 4 kW
def jD:MS:=
 (cH (aV 4 "roll_by" qp 2 [] (au 0) (aq (aV 4 "last" kh 1 [] (au 0) aH) aH)))
def cj:Fn:=aY 1 jD
def kY:MS:=
 (cH (vI [0] (vH (dR z_ 1 [] (aq (dR Iu 1 [] (aq (aV 4 "roll" cj 1 [] (aX [5,11] (au 0) "row") aH) aH)) aH))) (bA (aM sNe (au 0) (aX [9,11] (au 1) "me"))) (au 0)))
def iI:Fn:=aY 1 kY
def Dd:MS:=
 (cH (BR zz (aq (dR z_ 1 [] (aq (au 0) aH)) aH)))
def Mj:Fn:=aY 1 Dd
def Jv:MS:=
 (tV (bA (au 2)) (cH (aM aek (au 3) (dR Mj 1 [] (aq (au 1) aH)))) cQ)
def t_:MS:=
 (aP (cU (aM UL (mC (.int 2)) (dR Mj 1 [] (aq (aM Ql (au 0) (au 1)) aH))) (gN 3))
 (aP Jv
 (cH (aM K9 (au 3) (dR Mj 1 [] (aq (au 1) aH))))))
def Dp:Fn:=aY 4 t_
def GP:MS:=
 (tV (JX (bA (dR Dp 3 [] (aq (au 1) (aq (aM fP (au 0) (mC (.int 0))) (aq (au 2) aH)))))) (cH (mC (.bl false))) cQ)
def Ft:MS:=
 (aP GP
 (cH (acf (aM sEq (aM fP (au 0) (mC (.int 1))) (mC (.int 0))) (dR Dp 3 [] (aq (au 1) (aq (aM fP (au 0) (mC (.int 1))) (aq (au 2) aH)))))))
def Fe:Fn:=aY 3 Ft
def pZ:MS:=
 (aP (d_ [9,11] (au 0) (au 1) "me")
 (aP (d_ [9] (au 0) (au 2) "start")
 (aP (d_ [9] (au 0) (mC (.int 0)) "beat")
 (aP (d_ [9] (au 0) O4 "beats")
 (aP (d_ [9] (au 0) O4 "places")
 (d_ [9] (au 0) (rN aH) "looks"))))))
def Ad:Fn:=aY 3 pZ
def ud:MS:=
 (aP (jz (mBM "list" mR (aX [4,5,11] (au 0) "kept") (aq (au 1) aH)))
 (cH (aV 4 "last" kh 1 [] (au 0) aH)))
def zK:Fn:=aY 2 ud
def ie:MS:=
 (d_ [9] (au 0) (aM qm (aX [9] (au 0) "beat") (mC (.int 1))) "beat")
def qW:Fn:=aY 1 ie
def rF:MS:=
 (tV (bA (aM sIn (au 1) (aX [9] (au 0) "places"))) (cH (aM qm (aM fP (aX [9] (au 0) "places") (au 1)) (mC (.int 1)))) cQ)
def fD:MS:=
 (aP rF
 (cH (aX [9] (au 0) "start")))
def nW:Fn:=aY 2 fD
def nO:MS:=
 (cH (BR Ox (aq (aX [4,5,11] (au 0) "kept") aH)))
def yQ:Fn:=aY 1 nO
def xq:MS:=
 (tV (bA (aM abv (au 3) (aX [4] (au 2) "base"))) (aP (cU (fQ (aq (aX [4] (au 2) "base") (aq (aX [4] (au 2) "base_term") (aq (aX [4] (au 2) "base_roll") (aq (aX [4,5,11] (au 0) "kept") aH))))) (gN 4))
 (cH (aM qm (fQ (aq (mC (.str "whole")) (aq (aX [9,11] (au 0) "me") (aq (au 1) (aq (aX [5,11] (au 0) "term") (aq (aX [9] (aX [11] (au 0) "seat") "beat") aH)))))) (au 4)))) cQ)
def jw:MS:=
 (aP (cU (aX [5,11] (au 0) "row") (gN 2))
 (aP (cU (aV 9 "first_to_tell" nW 2 [] (aX [11] (au 0) "seat") (aq (au 1) aH)) (gN 3))
 (aP xq
 (aP (cU (aM JP (aM JP (au 3) (aX [4] (au 2) "base")) (mC (.int 1))) (gN 5))
 (aP (cU (BR H_ (aq (mSl (aV 4 "entries" yQ 1 [] (au 2) aH) (O3 (au 5)) (O3 (aM qm (au 5) (mC (.int 4))))) aH)) (gN 6))
 (aP (cU (fQ (aq (aM JP (au 3) (mC (.int 1))) (aq (aV 4 "term_at" iH 2 [] (au 2) (aq (aM JP (au 3) (mC (.int 1))) aH)) (aq (au 6) (aq (aX [11] (au 0) "settled") aH))))) (gN 7))
 (cH (aM qm (fQ (aq (mC (.str "tell")) (aq (aX [9,11] (au 0) "me") (aq (au 1) (aq (aX [5,11] (au 0) "term") (aq (aX [9] (aX [11] (au 0) "seat") "beat") aH)))))) (au 7)))))))))
def ju:Fn:=aY 8 jw
def iW:MS:=
 (aP (jz (aV 9 "begin_beat" qW 1 [] (aX [11] (au 0) "seat") aH))
 (aP (jz (aV 11 "tell_paper" bF 2 [] (au 0) (aq (fQ (aq (mC (.str "beat")) (aq (aX [5,11] (au 0) "term") (aq (aX [9] (aX [11] (au 0) "seat") "beat") aH)))) aH)))
 (cH (vI [0] (vH (aV 11 "others" iI 1 [] (au 0) aH)) CK (aV 11 "letter_to" ju 2 [] (au 1) (aq (au 0) aH))))))
def nu:Fn:=aY 1 iW
def fZ:MS:=
 (cH (afd (aM qm (rN (aq (au 1) aH)) (Vh (aX [9] (au 0) "places")))))
def oV:Fn:=aY 2 fZ
def iQ:MS:=
 (cH (dR Cw 1 [] (aq (aM qm (rN (aq (aX [9,11] (au 0) "me") aH)) (Vi 2 [1] (aX [9] (au 0) "places") (gT 2 (lW (gN 0) (lW (gN 1) G6))) (bA (aM aek (au 1) (au 2))) (au 0))) aH)))
def lN:Fn:=aY 2 iQ
def qY:MS:=
 (tV (bA (dR Fe 3 [(.bl false)] (aq (au 1) (aq (aV 9 "having" lN 2 [] (aX [11] (au 0) "seat") (aq (au 2) aH)) aH)))) (cH (au 2)) cQ)
def fV:MS:=
 qY
def qZ:MS:=
 (JQ (vH (aV 9 "places_known" oV 2 [] (aX [11] (au 0) "seat") (aq (aV 4 "last" kh 1 [] (aX [5,11] (au 0) "row") aH) aH))) (gN 2) fV)
def g_:MS:=
 (aP (cU (aV 4 "roll" cj 1 [] (aX [5,11] (au 0) "row") aH) (gN 1))
 (aP qZ
 (cH (aX [11] (au 0) "settled"))))
def pB:Fn:=aY 3 g_
def qx:MS:=
 (tV (bA (aM sEq (aV 4 "term_at" iH 2 [] (aX [5,11] (au 0) "row") (aq (au 1) aH)) (aX [5,11] (au 0) "term"))) (cH (au 1)) cQ)
def fG:MS:=
 qx
def kE:MS:=
 (JQ (aar (aq (aV 11 "place_won" pB 1 [] (au 0) aH) (aq (aX [11] (au 0) "settled") (aq (mUn aeb (mC (.int 1))) aH)))) (gN 1) fG)
def cD:MS:=
 (aP kE
 (cH (mC .non)))
def e_:Fn:=aY 2 cD
def vK:MS:=
 (tV (bA (aM sEq (aM fP (au 2) (mC (.int 0))) (mC (.str "ask")))) K_ cQ)
def lq:MS:=
 (aP (cU (aM fP (aV 4 "entry_at" lK 2 [] (aX [5,11] (au 0) "row") (aq (au 1) aH)) (mC (.int 1))) (gN 2))
 (aP vK
 (d_ [11] (au 0) (au 1) "done")))
def vO:MS:=
 (JQ (aas (aq (aM qm (aX [11] (au 0) "done") (mC (.int 1))) (aq (aM qm (aX [11] (au 0) "settled") (mC (.int 1))) aH))) (gN 1) lq)
def gC:MS:=
 vO
def j0:Fn:=aY 3 gC
def gY:MS:=
 (cH (aV 4 "roll_place_by" gF 2 [] (au 0) (aq (aV 4 "last" kh 1 [] (au 0) aH) aH)))
def lJ:Fn:=aY 1 gY
def nC:MS:=
 (tV (mOr (bA (aM sEq (au 1) (mC (.int 0)))) (bA (aM K9 (aV 4 "roll_place" lJ 1 [] (aX [5,11] (au 0) "row") aH) (aX [11] (au 0) "settled")))) (cH (rN aH)) cQ)
def jE:MS:=
 (aP (cU (aM fP (aV 4 "roll" cj 1 [] (aX [5,11] (au 0) "row") aH) (mC (.int 1))) (gN 1))
 (aP nC
 K_))
def dX:Fn:=aY 2 jE
def jH:MT:=
 (Vj (bA (aM K9 (BR zz (aq (au 1) aH)) (mC (.int 0)))) (bA ajf))
def tu:MS:=
 K_
def sZ:MS:=
 (H9 jH tu)
def fB:MS:=
 (aP (cU (aX [9] (aX [11] (au 0) "seat") "looks") (gN 1))
 sZ)
def i_:Fn:=aY 2 fB
def GR:MS:=
 (tV (bA (aM Ia (au 2) (mC .non))) (aP (d_ [11] (au 0) (au 2) "settled")
 (aP (jz (aV 11 "tell_paper" bF 2 [] (au 0) (aq (fQ (aq (mC (.str "settle")) (aq (aX [5,11] (au 0) "term") (aq (au 2) (aq (aV 9 "having" lN 2 [] (aX [11] (au 0) "seat") (aq (au 2) aH)) aH))))) aH)))
 (aP (jz (aV 11 "do_settled" j0 1 [] (au 0) aH))
 (cU (aV 11 "leave_double_roll" dX 1 [] (au 0) aH) (gN 1))))) cQ)
def Bw:MS:=
 (aP (cU (rN aH) (gN 1))
 (aP (cU (aV 11 "place_to_settle" e_ 1 [] (au 0) aH) (gN 2))
 (aP GR
 (aP (jz (aV 11 "answer_looks" i_ 1 [] (au 0) aH))
 (cH (au 1))))))
def qJ:Fn:=aY 3 Bw
def tO:MS:=
 (aP (cU (aV 4 "put" zK 2 [] (aX [5,11] (au 0) "row") (aq (fQ (aq (aX [5,11] (au 0) "term") (aq (au 1) aH))) aH)) (gN 2))
 (aP (jz (aV 11 "tell_paper" bF 2 [] (au 0) (aq (fQ (aq (mC (.str "write")) (aq (aX [5,11] (au 0) "term") (aq (au 2) (aq (au 1) aH))))) aH)))
 (aP (cU (aV 11 "tell_all" nu 1 [] (au 0) aH) (gN 3))
 (cH (aM qm (au 3) (aV 11 "settle" qJ 1 [] (au 0) aH))))))
def tK:Fn:=aY 4 tO
def jC:MS:=
 (tV (mOr (bA (aM sEq (au 1) (mC (.int 0)))) (bA (aM K9 (aV 4 "roll_place" lJ 1 [] (aX [5,11] (au 0) "row") aH) (aX [11] (au 0) "settled")))) (cH (rN aH)) cQ)
def bT:MS:=
 (aP (cU (aM fP (aV 4 "roll" cj 1 [] (aX [5,11] (au 0) "row") aH) (mC (.int 1))) (gN 1))
 (aP jC
 (cH (aV 11 "put_and_tell" tK 2 [] (au 0) (aq (fQ (aq (mC (.str "roll")) (aq (au 1) (aq (mC (.int 0)) aH)))) aH)))))
def bL:Fn:=aY 2 bT
def J0:MS:=
 (tV (bA (aM Ia (au 2) (mC .non))) (aP (d_ [11] (au 0) (au 2) "settled")
 (aP (jz (aV 11 "tell_paper" bF 2 [] (au 0) (aq (fQ (aq (mC (.str "settle")) (aq (aX [5,11] (au 0) "term") (aq (au 2) (aq (aV 9 "having" lN 2 [] (aX [11] (au 0) "seat") (aq (au 2) aH)) aH))))) aH)))
 (aP (jz (aV 11 "do_settled" j0 1 [] (au 0) aH))
 (cU (aV 11 "leave_double_roll" bL 1 [] (au 0) aH) (gN 1))))) cQ)
def nQ:MS:=
 (aP (cU (rN aH) (gN 1))
 (aP (cU (aV 11 "place_to_settle" e_ 1 [] (au 0) aH) (gN 2))
 (aP J0
 (aP (jz (aV 11 "answer_looks" i_ 1 [] (au 0) aH))
 (cH (au 1))))))
def nJ:Fn:=aY 3 nQ
def gG:MS:=
 (aP (cU (aV 4 "put" zK 2 [] (aX [5,11] (au 0) "row") (aq (fQ (aq (aX [5,11] (au 0) "term") (aq (au 1) aH))) aH)) (gN 2))
 (aP (jz (aV 11 "tell_paper" bF 2 [] (au 0) (aq (fQ (aq (mC (.str "write")) (aq (aX [5,11] (au 0) "term") (aq (au 2) (aq (au 1) aH))))) aH)))
 (aP (cU (aV 11 "tell_all" nu 1 [] (au 0) aH) (gN 3))
 (cH (aM qm (au 3) (aV 11 "settle" nJ 1 [] (au 0) aH))))))
def qb:Fn:=aY 4 gG
def iU:MS:=
 (aP (jz (aV 11 "tell_paper" bF 2 [] (au 0) (aq (fQ (aq (mC (.str "chair")) (aq (aX [9,11] (au 0) "me") (aq (aX [5,11] (au 0) "term") (aq (aX [8] (aX [11] (au 0) "seat") "voters") aH))))) aH)))
 (aP (d_ [11] (au 0) (Br 9 Ad 3 [] (aq (aX [9,11] (au 0) "me") (aq (aM qm (aV 4 "last" kh 1 [] (aX [5,11] (au 0) "row") aH) (mC (.int 1))) aH))) "seat")
 (aP (d_ [11] (au 0) (aX [9,11] (au 0) "me") "chair")
 (cH (aV 11 "put_and_tell" qb 2 [] (au 0) (aq (fQ (aq (mC (.str "start")) aH)) aH))))))
def sy:Fn:=aY 1 iU
def oW:MS:=
 (tV (JX (bA (dR Fe 3 [(.bl false)] (aq (aV 4 "roll" cj 1 [] (aX [5,11] (au 0) "row") aH) (aq (aX [8] (aX [11] (au 0) "seat") "voters") aH))))) (cH (rN aH)) cQ)
def dZ:MS:=
 (aP oW
 (cH (aV 11 "take_chair" sy 1 [] (au 0) aH)))
def dY:Fn:=aY 1 dZ
def za:MS:=
 (tV (bA (aV 11 "is_chair" qK 1 [] (au 0) aH)) K_ cQ)
def u_:MS:=
 (aP za
 (aP (jz (aV 11 "enter" vY 2 [] (au 0) (aq (aM qm (aX [5,11] (au 0) "term") (mC (.int 1))) aH)))
 (aP (jz (aV 11 "give_vote" pC 2 [] (au 0) (aq (aX [9,11] (au 0) "me") aH)))
 (aP (d_ [11] (au 0) (Br 8 vZ 2 [] (aq (aX [9,11] (au 0) "me") aH)) "seat")
 (aP (cU (vI [0] (vH (aV 11 "others" iI 1 [] (au 0) aH)) CK (fQ (aq (mC (.str "please")) (aq (aX [9,11] (au 1) "me") (aq (au 0) (aq (aX [5,11] (au 1) "term") (aq (aV 4 "end" tZ 1 [] (aX [5,11] (au 1) "row") aH) aH))))))) (gN 1))
 (cH (aM qm (au 1) (aV 11 "count_votes" dY 1 [] (au 0) aH))))))))
def uN:Fn:=aY 2 u_
def yU:MS:=
 (tV (bA (aM sNe (aM fP (au 2) (mC (.int 1))) (mC (.int 0)))) (aP (jz (mBM "list" mR (au 7) (aq (fQ (aq (mC (.str "write")) (aq (au 1) (aq (aM qm (au 6) (mC (.int 1))) (aq (fQ (aq (mC (.str "roll")) (aq (aM fP (au 2) (mC (.int 1))) (aq (mC (.int 0)) aH)))) aH))))) aH)))
 (aP (jz (mBM "list" mR (au 7) (aq (fQ (aq (mC (.str "beat")) (aq (au 1) (aq (mC (.int 2)) aH)))) aH)))
 (jz (mBM "list" mR (au 7) (aq (fQ (aq (mC (.str "settle")) (aq (au 1) (aq (aM qm (au 6) (mC (.int 1))) (aq (aM zY (mC (.int 1)) (au 0)) aH))))) aH))))) cQ)
def qu:MS:=
 (tV (bA (dR qR 2 [] (aq (au 2) (aq (aM zY (mC (.int 1)) (au 0)) aH)))) (aP (jz (mBM "list" mR (au 7) (aq (fQ (aq (mC (.str "settle")) (aq (au 1) (aq (au 6) (aq (aM zY (mC (.int 1)) (au 0)) aH))))) aH)))
 yU) cQ)
def yS:MS:=
 (tV (bA (aM sNe (au 9) (au 0))) (jz (mBM "list" mR (au 8) (aq (fQ (aq (mC (.str "tell")) (aq (au 0) (aq (au 9) (aq (au 1) (aq (mC (.int 1)) (aq (aM JP (au 6) (mC (.int 1))) (aq (aM fP (au 4) (mC (.int 0))) (aq (fQ (aq (fQ (aq (au 1) (aq (fQ (aq (mC (.str "start")) aH)) aH))) aH)) (aq (au 5) aH)))))))))) aH))) cQ)
def jr:MS:=
 yS
def En:MS:=
 (JQ (vH (dR oU 1 [] (aq (aM sOr (aM fP (au 2) (mC (.int 0))) (aM fP (au 2) (mC (.int 1)))) aH))) (gN 9) jr)
def rH:MS:=
 (aP (cU (aM qm (aM fP (au 4) (mC (.int 1))) (mC (.int 1))) (gN 6))
 (aP (cU (rN (aq (fQ (aq (mC (.str "vote")) (aq (au 0) (aq (au 1) (aq (au 0) aH))))) (aq (fQ (aq (mC (.str "chair")) (aq (au 0) (aq (au 1) (aq (au 3) aH))))) (aq (fQ (aq (mC (.str "write")) (aq (au 1) (aq (au 6) (aq (fQ (aq (mC (.str "start")) aH)) aH))))) aH)))) (gN 7))
 (aP (jz (mBM "list" mR (au 7) (aq (fQ (aq (mC (.str "beat")) (aq (au 1) (aq (mC (.int 1)) aH)))) aH)))
 (aP qu
 (aP (cU (rN aH) (gN 8))
 (aP En
 (cH (fQ (aq (au 7) (aq (au 8) aH))))))))))
def Cy:Fn:=aY 10 rH
def kj(m:Fn):MS:=
 (tV (bA (aM sIs (au 1) (mC .non))) (cH (aM sIs (au 0) (mC .non))) cQ)
def nM(m:Fn):MS:=
 (tV (bA (BR oG (aq (au 1) (aq (mC (.ty "bool")) aH)))) (cH (Jr (BR oG (aq (au 0) (aq (mC (.ty "bool")) aH))) (aM sEq (au 0) (au 1)))) cQ)
def qw(m:Fn):MS:=
 (tV (bA (BR oG (aq (au 1) (aq (mC (.ty "int")) aH)))) (cH (Jr (BR oG (aq (au 0) (aq (mC (.ty "int")) aH))) (Jr (aat (BR oG (aq (au 0) (aq (mC (.ty "bool")) aH)))) (aM sEq (au 0) (au 1))))) cQ)
def um(m:Fn):MS:=
 (tV (bA (BR oG (aq (au 1) (aq (mC (.ty "str")) aH)))) (cH (Jr (BR oG (aq (au 0) (aq (mC (.ty "str")) aH))) (aM sEq (au 0) (au 1)))) cQ)
def yW(m:Fn):MS:=
 (tV (mOr (bA (aM sNe (BR oG (aq (au 1) (aq (mC (.ty "tuple")) aH))) (BR oG (aq (au 0) (aq (mC (.ty "tuple")) aH))))) (bA (aM sNe (BR oG (aq (au 1) (aq (mC (.ty "list")) aH))) (BR oG (aq (au 0) (aq (mC (.ty "list")) aH)))))) (cH (mC (.bl false))) cQ)
def yV(m:Fn):MS:=
 (tV (bA (aM sNe (BR zz (aq (au 0) aH)) (BR zz (aq (au 1) aH)))) (cH (mC (.bl false))) cQ)
def cC(m:Fn):MS:=
 (aP (kj m)
 (aP (nM m)
 (aP (qw m)
 (aP (um m)
 (aP (yW m)
 (aP (yV m)
 (cH (BR Xj (aq (vI [0,1] (Jq (aq (BR zz (aq (au 1) aH)) aH)) CK (dR m 2 [] (aq (aM fP (au 1) (au 0)) (aq (aM fP (au 2) (au 0)) aH)))) aH)))))))))
def mj:Fn:=fuel (λm=>aY 2 (cC m)) 8
def uh:MS:=
 (tV (bA (aM sEq (aM qj (au 0) (mC (.int 8))) (mC (.int 7)))) (cH (vI [1,2] (Jq (aq (mC (.int 6)) aH)) CK (aM fP (au 1) (aM qj (aM qm (au 2) (au 0)) (BR zz (aq (au 1) aH)))))) cQ)
def yR:MS:=
 (tV (bA (aM sEq (aM qj (au 0) (mC (.int 8))) (mC (.int 6)))) (cH (rN (aq (aM qj (aM Eu (au 0) (mC (.int 8))) (mC (.int 60))) aH))) cQ)
def mq:MS:=
 (aP uh
 (aP yR
 (cH (rN (aq (aM fP (au 1) (aM qj (au 2) (BR zz (aq (au 1) aH)))) aH)))))
def uM:Fn:=aY 3 mq
def uP:MS:=
 (tV (bA (aM sIn (aM fP (au 1) (mC (.int 0))) (fQ (aq (mC (.str "please")) (aq (mC (.str "tell")) (aq (mC (.str "whole")) aH)))))) (cH (rN (aq (fQ (aq (mC (.str "late")) (aq (aX [9,11] (au 0) "me") (aq (aM fP (au 1) (mC (.int 1))) (aq (aX [5,11] (au 0) "term") aH))))) aH))) cQ)
def h_:MS:=
 (aP uP
 (cH (rN aH)))
def qU:Fn:=aY 2 h_
def jy:MS:=
 (d_ [8] (au 0) (aM sOr (aX [8] (au 0) "voters") (dR Cw 1 [] (aq (rN (aq (au 1) aH)) aH))) "voters")
def t6:Fn:=aY 2 jy
def qX:MS:=
 (tV (JX (bA (BR (Qi 8 [(7,false),(8,true),(9,false)]) (aq (aX [11] (au 0) "seat") (aq (mC (.cls 8)) aH))))) (cH (rN aH)) cQ)
def g8:MS:=
 (aP qX
 (aP (jz (aV 8 "count_in" t6 2 [] (aX [11] (au 0) "seat") (aq (au 1) aH)))
 (cH (aV 11 "count_votes" dY 1 [] (au 0) aH))))
def lM:Fn:=aY 2 g8
def uq:MS:=
 (tV (bA (aM sNe (aM fP (au 1) (mC (.int 2))) (aX [9,11] (au 0) "me"))) K_ cQ)
def uo:MS:=
 (tV (bA (aM sLt (aM fP (au 1) (mC (.int 3))) (aX [5,11] (au 0) "term"))) (cH (aV 11 "answer_late" qU 2 [] (au 0) (aq (au 1) aH))) cQ)
def y_:MS:=
 (tV (bA (aM K9 (aM fP (au 1) (mC (.int 3))) (aX [5,11] (au 0) "term"))) K_ cQ)
def yZ:MS:=
 (tV (bA (aM sEq (aM fP (au 1) (mC (.int 0))) (mC (.str "please")))) K_ cQ)
def yX:MS:=
 (tV (bA (aM sEq (aM fP (au 1) (mC (.int 0))) (mC (.str "vote")))) (cH (aV 11 "take_vote" lM 2 [] (au 0) (aq (aM fP (au 1) (mC (.int 1))) aH))) cQ)
def Od:MS:=
 (tV (bA (aM sEq (aM fP (au 1) (mC (.int 0))) (mC (.str "told")))) K_ cQ)
def Oc:MS:=
 (tV (Vj (bA (aM sIn (aM fP (au 1) (mC (.int 0))) (fQ (aq (mC (.str "tell")) (aq (mC (.str "whole")) aH))))) (JX (bA (aV 11 "is_chair" qK 1 [] (au 0) aH)))) K_ cQ)
def mz:MS:=
 (aP uq
 (aP uo
 (aP y_
 (aP yZ
 (aP yX
 (aP Od
 (aP Oc
 (cH (rN aH)))))))))
def jZ:Fn:=aY 2 mz
def p6:MS:=
 (cH (mC (.str "asks")))
def GJ:Fn:=aY 1 p6
def pY:MS:=
 (cH (mC (.str "chairs")))
def GF:Fn:=aY 1 pY
def Ko:MS:=
 (tV (bA (aM sEq (aM qj (aM Eu (dR gh 2 [] (aq (au 0) (aq (mC (.int 0)) aH))) (mC (.int 60))) (mC (.int 2))) (mC (.int 1)))) (cU (fQ (aq (aM fP (au 2) (mC (.int 0))) (aq (dR qT 2 [] (aq (dR gh 2 [] (aq (au 0) (aq (mC (.int 4)) aH))) (aq (au 1) aH))) aH))) (gN 2)) cQ)
def Km:MS:=
 (tV (bA (au 12)) (cU (dR Cy 6 [] (aq (au 1) (aq (au 4) (aq (au 2) (aq (au 11) (aq (au 5) (aq (au 6) aH))))))) (gT 2 (lW (gN 14) (lW (gN 10) G6)))) (cU (rN (aq (fQ (aq (mC (.str "vote")) (aq (au 1) (aq (au 4) (aq (au 1) aH))))) aH)) (gN 14)))
def Q5:MS:=
 (tV (mOr (JX (bA (dR mj 2 [] (aq (au 13) (aq (au 10) aH))))) (JX (bA (dR mj 2 [] (aq (au 7) (aq (au 14) aH)))))) (cH (mC (.bl false))) cQ)
def Q4:MS:=
 (tV (bA (dR qR 2 [] (aq (au 2) (aq (au 11) aH)))) (aP (cU (mC (.bl true)) (gN 12))
 (cU (dR Cy 6 [] (aq (au 1) (aq (au 4) (aq (au 2) (aq (au 11) (aq (au 5) (aq (au 6) aH))))))) (gT 2 (lW (gN 14) (lW (gN 10) G6))))) cQ)
def Ds:MS:=
 (tV (Vj (JX (bA (au 12))) (bA (aM sNe (aM qj (au 16) (mC (.int 8))) (mC (.int 5))))) (aP (cU (aM sOr (au 11) (aM zY (mC (.int 1)) (au 17))) (gN 11))
 Q4) cQ)
def Q3:MS:=
 (tV (mOr (JX (bA (dR mj 2 [] (aq (au 13) (aq (au 10) aH))))) (JX (bA (dR mj 2 [] (aq (au 7) (aq (au 14) aH)))))) (cH (mC (.bl false))) cQ)
def GQ:MS:=
 (tV (bA (aM sNe (au 17) (au 1))) (aP Ds
 (aP (cU (aV 11 "take" jZ 2 [] (au 8) (aq (fQ (aq (mC (.str "vote")) (aq (au 17) (aq (au 1) (aq (aM JP (au 4) (BR Qk (aq (aM sEq (aM qj (au 16) (mC (.int 8))) (mC (.int 5))) aH))) aH))))) aH)) (gN 13))
 Q3)) cQ)
def Kl:MS:=
 (tV (bA (aM sNe (acg (aV 8 "word" GJ 1 [] (aX [11] (au 8) "seat") aH) (aV 9 "word" GF 1 [] (aX [11] (au 8) "seat") aH)) (aM fP (rN (aq (mC (.str "asks")) (aq (mC (.str "chairs")) aH))) (BR Qk (aq (au 12) aH))))) (cH (mC (.bl false))) cQ)
def PX:MS:=
 (aP (cU (aM qm (au 15) (mC (.int 1))) (gN 15))
 (aP (cU (rN aH) (gN 10))
 (aP GQ
 Kl)))
def Tq:MS:=
 (JQ (vH (dR uM 3 [] (aq (au 16) (aq (au 9) (aq (au 15) aH))))) (gN 17) PX)
def FQ:MS:=
 Tq
def Tp:MS:=
 (JQ (vH (mSl (au 0) (O3 (mC (.int 5))) (O3 (mC (.int 55))))) (gN 16) FQ)
def TX:MS:=
 (aP (cU (aM qj (dR gh 2 [] (aq (au 0) (aq (mC (.int 0)) aH))) (mC (.int 60))) (gN 1))
 (aP (cU (fQ (aq (dR qT 2 [] (aq (dR gh 2 [] (aq (au 0) (aq (mC (.int 3)) aH))) (aq (au 1) aH))) (aq (mC (.int 0)) aH))) (gN 2))
 (aP Ko
 (aP (cU (dR Ml 3 [] (aq (au 0) (aq (au 1) (aq (au 2) aH)))) (gT 4 (lW (gN 3) (lW (gN 4) (lW (gN 5) (lW (gN 6) G6))))))
 (aP (cU (rN aH) (gN 7))
 (aP (cU (Br 11 CG 4 [] (aq (au 1) (aq (au 3) (aq (ach 7) aH)))) (gN 8))
 (aP (cU (dR oU 1 [] (aq (aM sOr (aM fP (au 2) (mC (.int 0))) (aM fP (au 2) (mC (.int 1)))) aH)) (gN 9))
 (aP (cU (vI [1,4,5] (vH (au 9)) (bA (aM sNe (au 0) (au 1))) (fQ (aq (mC (.str "please")) (aq (au 1) (aq (au 0) (aq (au 2) (aq (au 3) aH))))))) (gN 10))
 (aP (cU (aM zY (mC (.int 1)) (au 1)) (gN 11))
 (aP (cU (dR qR 2 [] (aq (au 2) (aq (au 11) aH))) (gN 12))
 (aP (cU (aV 11 "ring" uN 1 [] (au 8) aH) (gN 13))
 (aP Km
 (aP Q5
 (aP (cU (mC (.int 0)) (gN 15))
 (aP Tp
 (cH (dR mj 2 [] (aq (rN (aq (aX [5,11] (au 8) "term") (aq (aX [5,11] (au 8) "vote") (aq (aX [11] (au 8) "chair") aH)))) (aq (rN (aq (au 4) (aq (au 1) (aq (aM fP (rN (aq (mC .non) (aq (au 1) aH))) (BR Qk (aq (au 12) aH))) aH)))) aH)))))))))))))))))))
def adt:Fn:=aY 18 TX
def Gr(M M':Mem):Prop:=∀(i:Nat) (o:MO),M[i]? = some o->M'[i]? = some o
theorem Gr.refl:Gr M M:=λ_ _ h=>h
theorem Gr.trans{M M1 M2:Mem}(a:Gr M M1)(b:Gr M1 M2):Gr M M2:=λi o h=>b i o (a i o h)
theorem Gr.app:Gr M (M++xs):=λi o h=>by
 rw[zac (List.getElem?_eq_some_iff.mp h).1];exact h
theorem Ef{M:Mem}{i:Nat}{o:MO}(h:M[i]? = some o):i<M.length:=(List.getElem?_eq_some_iff.mp h).1
theorem Np:(M++[o])[M.length]? = some o:=by simp
theorem yI(q:D->Bool)(f:D->D)(hs:kZ src M)(ht:∀d∈ds,tt (some d::ce) M= .ok (q d) M)(hf:∀d∈ds,te (some d::ce) M= .ok (f d) M):
  sY src tt te ce ds [] M= .ok (.ref M.length) (M++[.lst ((ds.filter q).map f)]):=by
 have key:∀(ds ys:List D),(∀d∈ds,tt (some d::ce) M= .ok (q d) M)->(∀d∈ds,te (some d::ce) M= .ok (f d) M)->sY src tt te ce ds ys M= .ok (.ref M.length) (M++[.lst (ys++(ds.filter q).map f)]):=by
  intro ds
  induction ds with
  | nil=>intro ys _ _;unfold sY;rw[if_pos hs];simp
  | cons d r ih=>
   intro ys h1 h2
   unfold sY
   rw[if_pos hs,h1 d xB]
   show(Out.ok _ _).bind _=_
   rw[Out.fc]
   cases z:q d with
   | false=>
    simp only[Bool.false_eq_true,if_false]
    rw[ih _ (λx hx=>h1 x (yT _ hx)) λx hx=>h2 x (yT _ hx),List.filter_cons,z]
    simp
   | true=>
    simp only[if_true]
    rw[h2 d xB]
    show(Out.ok _ _).bind _=_
    rw[Out.fc,ih _ (λx hx=>h1 x (yT _ hx)) λx hx=>h2 x (yT _ hx),List.filter_cons,z]
    simp
 have:=key ds [] ht hf
 simpa using this
def hv(hs:List Nat):List D:=hs.map λ(h:Nat)=>D.int (h:Int)
theorem Ld(n:Nat)(p:Nat->Bool)(q:D->Bool)(h:∀i,i<n->q (.int (0+(i:Int)))=p i):((zR 0 n).filter q).map (λd=>d)=hv ((List.range n).filter p):=by
 unfold zR hv
 rw[List.map_id',List.filter_map]
 have:(List.range n).filter (q∘λ(k:Nat)=>D.int (0+(k:Int)))=(List.range n).filter p:=by
  refine List.filter_congr λi hi=> ?_
  exact h i (List.mem_range.mp hi)
 rw[this]
 refine List.map_congr_left λi _=> ?_
 show D.int (0+(i:Int))=D.int (i:Int)
 rw[Int.zero_add]
theorem Qe(h:0<=j/\j<=1000000/\i.natAbs<2 ^ 64):zY (.int i) (.int j) M= .ok (.int (i*2 ^ j.toNat)) M:=by
 unfold zY;rw[IW,if_pos (by unfold Yx;exact zae h)]
theorem abn(h:0<=j):UJ (.int i) (.int j) M= .ok (.int (i / 2 ^ j.toNat)) M:=by
 unfold UJ;rw[IW,if_pos (by unfold anC;exact zae h)]
theorem agJ(n i:Nat):(!decide (Builtin.bitAnd (n:Int) (1*2 ^ (0+(i:Int)).toNat)=0))=n.testBit i:=by
 have e1:Builtin.bitAnd (n:Int) (1*2 ^ (0+(i:Int)).toNat)=((n &&& 2 ^ i:Nat):Int):=by
  rw[Int.zero_add,Int.toNat_natCast,HM.Qw,HM.Hu]
 rw[e1]
 have q:=HM.VP n i
 cases z:n.testBit i with
 | true=>
  have q':=q.mpr z
  simp only[Bool.not_eq_true',decide_eq_false_iff_not]
  omega
 | false=>
  have q':¬(n &&& 2 ^ i≠0):=λr=>by rw[q.mp r]at z;cases z
  simp only[Bool.not_eq_false',decide_eq_true_eq]
  omega
theorem abm(n i:Nat):decide (Builtin.bitAnd ((n:Int) / 2 ^ (0+(i:Int)).toNat) 1=1)=n.testBit i:=by
 have e1:Builtin.bitAnd ((n:Int) / 2 ^ (0+(i:Int)).toNat) 1=((n / 2 ^ i &&& 1:Nat):Int):=by
  have:((n:Int) / 2 ^ (0+(i:Int)).toNat)=((n / 2 ^ i:Nat):Int):=by
   rw[Int.zero_add,Int.toNat_natCast]
   simp
  rw[this]
  exact HM.Hu _ 1
 rw[e1]
 have q:=HM.R9 n i
 cases z:n.testBit i with
 | true=>
  have q':=q.mpr z
  simp only[decide_eq_true_eq]
  omega
 | false=>
  have q':¬(n / 2 ^ i &&& 1=1):=λr=>by rw[q.mp r]at z;cases z
  simp only[decide_eq_false_iff_not]
  omega
noncomputable def qB(f:Int->Bool)(d:D):Bool:=match d with
 | .int j=>f j
 | _=>false
theorem QL{lo:Int}{n:Nat}{d:D}(h:d∈zR lo n):∃i:Nat,i<n/\d= .int (lo+i):=by
 obtain⟨i,hi⟩:=List.getElem?_of_mem h
 exact⟨i,(Wh hi).1,(Wh hi).2⟩
theorem Jw(n:Nat)(hn:n<2 ^ 60):z_ [.int n] M= .ok (.ref M.length) (M++[.lst (hv (HM.aN n))]):=by
 have hz:=HM.intBits_le n hn
 have e1:JT [.int (Builtin.Int.intBits n:Nat)] M= .ok ⟨none,zR 0 (Builtin.Int.intBits n)⟩ M:=by
  have:=Ce (M:=M) (j:=(Builtin.Int.intBits n:Nat)) () ()
  simpa using this
 have e2:=yI (src:=none) (tt:=bA (aM sNe (aM Ql (au 1) (aM zY (mC (.int 1)) (au 0))) (mC (.int 0)))) (te:=au 0) (ce:=[some (.int n)]) (M:=M) (qB λj=> !decide (Builtin.bitAnd (n:Int) (1*2 ^ j.toNat)=0)) (λd=>d) (ds:=zR 0 (Builtin.Int.intBits n)) trivial
  (λd hd=>by
   obtain⟨i,hi,rfl⟩:=QL hd
   have:zY (.int 1) (.int (0+(i:Int))) M= .ok (.int (1*2 ^ (0+(i:Int)).toNat)) M:=Qe ⟨(),(),by decide⟩
   simp[this,qB,Sh,-Int.zero_add,-Int.one_mul])
  (λd hd=>aaq)
 have e3:=Ld (Builtin.Int.intBits n) (λh=>n.testBit h) (qB λj=> !decide (Builtin.bitAnd (n:Int) (1*2 ^ j.toNat)=0)) (λi _=>agJ n i)
 rw[HM.Q8 n hn]at e3
 rw[e3]at e2
 simp only[z_,rm]
 simp[rO,e1,e2]
theorem count_list(n:Nat):sY none (bA (aM sEq (aM Ql (aM UJ (au 1) (au 0)) (mC (.int 1))) (mC (.int 1)))) (au 0) [some (.int n)] (zR 0 60) [] M= .ok (.ref M.length) (M++[.lst (hv (HM.aN n))]):=by
 have e2:=yI (src:=none) (tt:=bA (aM sEq (aM Ql (aM UJ (au 1) (au 0)) (mC (.int 1))) (mC (.int 1)))) (te:=au 0) (ce:=[some (.int n)]) (M:=M) (qB λj=>decide (Builtin.bitAnd ((n:Int) / 2 ^ j.toNat) 1=1)) (λd=>d) (ds:=zR 0 60) trivial
  (λd hd=>by
   obtain⟨i,hi,rfl⟩:=QL hd
   have:UJ (.int n) (.int (0+(i:Int))) M= .ok (.int ((n:Int) / 2 ^ (0+(i:Int)).toNat)) M:=abn ()
   simp[this,qB,Sh,-Int.zero_add,-Int.one_mul])
  (λd hd=>aaq)
 rw[Ld 60 (λh=>n.testBit h) (qB λj=>decide (Builtin.bitAnd ((n:Int) / 2 ^ j.toNat) 1=1)) (λi _=>abm n i)]at e2
 exact e2
theorem ahL:JT [.int 60] M= .ok ⟨none,zR 0 60⟩ M:=Ce () ()
def Dc(S p:Nat)(h:Bool):Bool:=if h then decide (HM.cnt p<=2*HM.cnt (S &&& p))else decide (HM.cnt p<2*HM.cnt (S &&& p))
theorem agK(hp:p<2 ^ 60):S &&& p<2 ^ 60:=Nat.lt_of_le_of_lt Nat.and_le_right hp
theorem ai4:UL (.int 2) (.int j) M= .ok (.int (2*j)) M:=Sd (.inl ())
section
variable{M M':Mem}{e e':Sl}{s t:MS}{c:MT}{m:ME}{d:D}{R:rQ}
theorem nY(h:s e M= .next e' M')(k:t e' M'=R):aP s t e M=R:=by rw[abt,h,Zq];exact k
theorem Q9(h:m e M= .ok d M'):cH m e M= .ret d M':=by rw[abu,h,LR]
theorem acA(h:s (slots n ds) M= .ret d M'):aY n s ds M= .ok d M':=by rw[abC,h,ZX]
end
inductive Ks (M:Mem):Nat->D->D->Prop
 | non {k:Nat}:Ks M (k+1) .non .non
 | bl {k:Nat} (b:Bool):Ks M (k+1) (.bl b) (.bl b)
 | int {k:Nat} (i:Int):Ks M (k+1) (.int i) (.int i)
 | str {k:Nat} (x:Str):Ks M (k+1) (.str x) (.str x)
 | tup {k:Nat} {ds ds':List D}:ds.length=ds'.length->ds.length<=1000->(∀(i:Nat) (d d':D),ds[i]? = some d->ds'[i]? = some d'->Ks M k d d')->Ks M (k+1) (.tup ds) (.tup ds')
 | lst {k n m:Nat} {ds ds':List D}:M[n]? = some (.lst ds)->M[m]? = some (.lst ds')->ds.length=ds'.length->ds.length<=1000->(∀(i:Nat) (d d':D),ds[i]? = some d->ds'[i]? = some d'->Ks M k d d')->Ks M (k+1) (.ref n) (.ref m)
theorem Ks.gr{M M':Mem}(g:Gr M M'){k:Nat}{d d':D}(h:Ks M k d d'):Ks M' k d d':=by
 induction h with
 | non=>exact .non
 | bl b=>exact .bl b
 | int i=>exact .int i
 | str x=>exact .str x
 | tup h1 h2 _ ih=>exact .tup h1 h2 ih
 | lst a b h1 h2 _ ih=>exact .lst (g _ _ a) (g _ _ b) h1 h2 ih
inductive J4 (M:Mem) (k:Nat):List D->List D->Prop
 | nil:J4 M k [] []
 | cons {d d':D} {ds ds':List D}:Ks M k d d'->J4 M k ds ds'->J4 M k (d::ds) (d'::ds')
theorem J4.len{M:Mem}{k:Nat}{ds ds':List D}(h:J4 M k ds ds'):ds.length=ds'.length:=by
 induction h with
 | nil=>rfl
 | cons _ _ ih=>simp[ih]
theorem J4.get{M:Mem}{k:Nat}{ds ds':List D}(h:J4 M k ds ds'):∀(i:Nat) (d d':D),ds[i]? = some d->ds'[i]? = some d'->Ks M k d d':=by
 induction h with
 | nil=>intro i d d' h;simp at h
 | cons a _ ih=>
  intro i d d' h h'
  cases i with
  | zero=>simp at h h';subst h h';exact a
  | succ i=>exact ih i d d' (by simpa using h) (by simpa using h')
theorem J4.self{M:Mem}{k:Nat}:∀{ds:List D},(∀d∈ds,Ks M k d d)->J4 M k ds ds
 | [],_=> .nil
 | d::ds,h=> .cons (h d (by simp)) (J4.self λx hx=>h x (by simp[hx]))
theorem Ks.tups{M:Mem}{k:Nat}{ds ds':List D}(h:J4 M k ds ds')(hl:ds.length<=1000):Ks M (k+1) (.tup ds) (.tup ds'):= .tup h.len hl h.get
theorem Ks.avL{M:Mem}{k n m:Nat}{ds ds':List D}(a:M[n]? = some (.lst ds))(b:M[m]? = some (.lst ds'))(h:J4 M k ds ds')(hl:ds.length<=1000):Ks M (k+1) (.ref n) (.ref m):= .lst a b h.len hl h.get
theorem WY{te:ME}{ce:Sl}{y:D}{M0:Mem}:∀(ds ys:List D) {M:Mem},Gr M0 M->(∀d∈ds,∀M,Gr M0 M->∃M',te (some d::ce) M= .ok y M'/\Gr M M')->
  ∃M',sY none CK te ce ds ys M= .ok (.ref M'.length) (M'++[.lst (ys++List.replicate ds.length y)])/\Gr M M'
 | [],ys,M,g,_=>⟨M,by rw[sY,if_pos (show kZ none M from trivial)];simp,.refl⟩
 | d::ds,ys,M,g,h=>by
  obtain⟨M1,e1,g1⟩:=h d (by simp) M g
  obtain⟨M2,e2,g2⟩:=WY ds (ys++[y]) (g.trans g1) λx hx=>h x (by simp[hx])
  refine⟨M2,?_,g1.trans g2⟩
  rw[sY,if_pos (show kZ none M from trivial)]
  show(Out.ok true M).bind _=_
  rw[Out.fc,if_pos rfl,e1]
  show(Out.ok y M1).bind _=_
  rw[Out.fc,e2]
  simp[List.replicate_succ]
theorem Sg{n:Nat}{ds:List D}{M:Mem}(hM:M[n]? = some (.lst ds)):oG [.ref n,.ty "bool"] M= .ok (.bl false) M/\oG [.ref n,.ty "int"] M= .ok (.bl false) M/\oG [.ref n,.ty "str"] M= .ok (.bl false) M/\oG [.ref n,.ty "tuple"] M= .ok (.bl false) M/\oG [.ref n,.ty "list"] M= .ok (.bl true) M:=by
 refine⟨?_,?_,?_,?_,?_⟩<;>(simp only[oG,tyN,b8 hM,Option.map_some];rfl)
def aa3(m:Fn):Fn:=aY 2 (cC m)
def aa4(m:Fn):ME:=dR m 2 [] (aq (aM fP (au 1) (au 0)) (aq (aM fP (au 2) (au 0)) aH))
theorem SM{m:Fn}{M:Mem}{x y:D}{ds ds':List D}(hl:ds.length=ds'.length)(hx:∀(i:Nat) (d:D) (M':Mem),Gr M M'->ds[i]? = some d->fP x (.int (i:Int)) M'= .ok d M')(hy:∀(i:Nat) (d:D) (M':Mem),Gr M M'->ds'[i]? = some d->fP y (.int (i:Int)) M'= .ok d M')
  (h:∀(i:Nat) (d d':D) (M':Mem),Gr M M'->ds[i]? = some d->ds'[i]? = some d'->∃M'',m [d,d'] M'= .ok (.bl true) M''/\Gr M' M''):
  ∃M',sY none CK (aa4 m) [some x,some y] (zR 0 ds'.length) [] M= .ok (.ref M'.length) (M'++[.lst (List.replicate ds'.length (.bl true))])/\Gr M M':=by
 obtain⟨M',e,g⟩:=WY (te:=aa4 m) (ce:=[some x,some y]) (y:= .bl true) (M0:=M) (zR 0 ds'.length) [] .refl λd hd M1 g1=>by
  obtain⟨i,hi,rfl⟩:=QL hd
  obtain⟨a,ha⟩:∃a,ds[i]? = some a:=⟨_,zaa ()⟩
  obtain⟨b,hb⟩:∃b,ds'[i]? = some b:=⟨_,zaa hi⟩
  obtain⟨M2,e2,g2⟩:=h i a b M1 g1 ha hb
  refine⟨M2,?_,g2⟩
  unfold aa4
  simp[hx i a M1 g1 ha,hy i b M1 g1 hb,e2]
 rw[Wg,List.nil_append]at e
 exact⟨M',e,g⟩
theorem W3{M:Mem}{n:Nat}:Xj [.ref M.length] (M++[.lst (List.replicate n (.bl true))])= .ok (.bl true) (M++[.lst (List.replicate n (.bl true))]):=by
 rw[ZM (bs:=List.replicate n true) (by rw[List.map_replicate];exact Np)]
 simp
theorem aen{M:Mem}{n:Nat}(h:n<=1000):JT [.int (n:Int)] M= .ok ⟨none,zR 0 n⟩ M:=by
 have:=Ce (M:=M) (j:=(n:Int)) () ()
 simpa using this
theorem iss{M:Mem}{x:Str}:oG [.str x,.ty "bool"] M= .ok (.bl false) M/\oG [.str x,.ty "int"] M= .ok (.bl false) M/\oG [.str x,.ty "str"] M= .ok (.bl true) M:=⟨rfl,rfl,rfl⟩
theorem ist{M:Mem}{ds:List D}:oG [.tup ds,.ty "bool"] M= .ok (.bl false) M/\oG [.tup ds,.ty "int"] M= .ok (.bl false) M/\oG [.tup ds,.ty "str"] M= .ok (.bl false) M/\oG [.tup ds,.ty "list"] M= .ok (.bl false) M/\oG [.tup ds,.ty "tuple"] M= .ok (.bl true) M:=⟨rfl,rfl,rfl,rfl,rfl⟩
theorem aa2:∀(k:Nat) {M:Mem} {d d':D},Ks M k d d'->∃M',fuel aa3 k [d,d'] M= .ok (.bl true) M'/\Gr M M'
 | 0,M,d,d',h=>by cases h
 | k+1,M,d,d',h=>by
  show ∃M',aa3 (fuel aa3 k) [d,d'] M=_/\_
  obtain⟨m,hm⟩:∃m,m=fuel aa3 k:=⟨_,rfl⟩
  have ih:∀{M:Mem} {d d':D},Ks M k d d'->∃M',m [d,d'] M= .ok (.bl true) M'/\Gr M M':=by rw[hm];exact λh=>aa2 k h
  rw[<-hm]
  unfold aa3
  cases h with
  | non=>exact⟨M,by simp[cC,kj],.refl⟩
  | bl b=>exact⟨M,by simp[cC,kj,nM,S.Yd],.refl⟩
  | int i=>exact⟨M,by simp[cC,kj,nM,qw,S.Yd],.refl⟩
  | str x=>exact⟨M,by simp[cC,kj,nM,qw,um,S.Yd,iss],.refl⟩
  | @tup _ ds ds' hl hz hp=>
   obtain⟨M1,e1,g1⟩:=SM (m:=m) (M:=M) (x:= .tup ds) (y:= .tup ds') hl (λi d M' _ hd=>zZ () (by simpa using hd)) (λi d M' _ hd=>zZ () (by simpa using hd))
    λi d d' M' g a b=>ih ((hp i d d' a b).gr g)
   refine⟨_,?_,g1.trans (Gr.app (xs:=[.lst (List.replicate ds'.length (.bl true))]))⟩
   unfold aa4 at e1
   have hlz:(ds.length:Int)=(ds'.length:Int):=()
   simp only[cC,kj,nM,qw,um,yW,yV]
   simp[S.Yd,ist,hlz,aen (M:=M) (n:=ds'.length) (),rO,e1,W3]
  | @lst _ n n' ds ds' a b hl hz hp=>
   obtain⟨M1,e1,g1⟩:=SM (m:=m) (M:=M) (x:= .ref n) (y:= .ref n') hl (λi d M' g hd=>xQ (g _ _ a) () (by simpa using hd)) (λi d M' g hd=>xQ (g _ _ b) () (by simpa using hd))
    λi d d' M' g a b=>ih ((hp i d d' a b).gr g)
   refine⟨_,?_,g1.trans (Gr.app (xs:=[.lst (List.replicate ds'.length (.bl true))]))⟩
   unfold aa4 at e1
   have hlz:(ds.length:Int)=(ds'.length:Int):=()
   obtain⟨a1,a2,a3,a4,a5⟩:=Sg a
   obtain⟨b1,b2,b3,b4,b5⟩:=Sg b
   simp only[cC,kj,nM,qw,um,yW,yV]
   simp[S.Yd,a4,a5,b1,b2,b3,b4,b5,rW a,rW b,hlz,aen (M:=M) (n:=ds'.length) (),rO,e1,W3]
theorem aa5{M:Mem}{d d':D}(h:Ks M 8 d d'):∃M',mj [d,d'] M= .ok (.bl true) M'/\Gr M M':=aa2 8 h
theorem Gr.eq{M M':Mem}(g:Gr M M'):∃X,M'=M++X:=by
 refine⟨M'.drop M.length,?_⟩
 refine List.ext_getElem? λi=> ?_
 by_cases h:i<M.length
 ·rw[zac h,zaa h]
  exact g _ _ (zaa h)
 ·rw[zab (),List.getElem?_drop]
  congr 1
  omega
theorem Rx{M:Mem}{d d':D}(h:Ks M 8 d d'):∃X,mj [d,d'] M= .ok (.bl true) (M++X):=by
 obtain⟨M',e,g⟩:=aa5 h
 obtain⟨X,rfl⟩:=g.eq
 exact⟨X,e⟩
section
variable{M L:Mem}{k n:Nat}{x o:MO}
theorem ag:(M++L)[M.length+k]? = L[k]? := by rw[zab (Nat.le_add_right _ _),Nat.add_sub_cancel_left]
theorem yL:(M++L)[M.length]? = L[0]? := by rw[zab (jS _),Nat.sub_self]
theorem as_:(M++L).set (M.length+k) x=M++L.set k x:=by rw[List.set_append_right _ _ (Nat.le_add_right _ _),Nat.add_sub_cancel_left]
theorem as0:(M++L).set M.length x=M++L.set 0 x:=by rw[List.set_append_right _ _ (jS _),Nat.sub_self]
theorem ao(h:M[n]? = some o)(L:Mem):(M++L)[n]? = some o:=Gr.app _ _ h
theorem aso(h:n<M.length)(L:Mem):(M++L).set n x=M.set n x++L:=List.set_append_left _ _ h
end
theorem sj{a b:String}:Str.ofString a=Str.ofString b↔a=b:=by
 refine⟨λh=> ?_,λh=>by rw[h]⟩
 rw[Str.ofString_eq_toList,Str.ofString_eq_toList]at h
 have h1:a.toList.map Char.toNat=b.toList.map Char.toNat:=by simpa using h
 have h2:=(List.map_inj_right (λx y e=>Char.ext (UInt32.toNat.inj e))).mp h1
 exact String.toList_inj.mp h2
theorem sj'{a b:String}:(Str.ofString a==Str.ofString b)=(a==b):=by
 rw[Bool.eq_iff_iff,beq_iff_eq,beq_iff_eq];exact sj
noncomputable def oH(b bt:Int)(br:D)(l:Nat):MO:= .ins 4 [("base",.int b),("base_term",.int bt),("base_roll",br),("kept",.ref l)]
theorem Ss{M:Mem}{h:Nat}{b bt:Int}{br:D}{es:List D}(hh:M[h]? = some (.lst es)):Ac [.ref M.length,.int b,.int bt,br,.ref h] (M++[.ins 4 []])= .ok .non (M++[oH b bt br (M.length+1),.lst es]):=by
 simp only[Ac,rA]
 simp[lF,yL,ag,as0,as_,putD,ao hh,oH,Ow (ao hh _),sj]
theorem V7{M:Mem}{r l:Nat}{b bt:Int}{br:D}{es:List D}(R:M[r]? = some (oH b bt br l))(K:M[l]? = some (.lst es)):Ab [.ref r] M= .ok (.ref M.length) (M++[oH b bt br (M.length+1),.lst es]):=by
 simp only[Ab,rz]
 unfold oH at R
 simp[cB,R,List.lookup,sj',Ss K]
noncomputable def Pn(t:Int)(v:D)(r:Nat)(kd:D):MO:= .ins 5 [("term",.int t),("vote",v),("row",.ref r),("kept",kd)]
theorem Yw{M:Mem}{r l:Nat}{b bt t:Int}{br v kd:D}{es:List D}(R:M[r]? = some (oH b bt br l))(K:M[l]? = some (.lst es)):
  CJ [.ref M.length,.int t,v,.ref r,kd] (M++[.ins 5 []])= .ok .non (M++[Pn t v (M.length+1) kd,oH b bt br (M.length+2),.lst es]):=by
 have tw:=λL=>V7 (ao R L) (ao K L)
 have is:∀L,dh 4 "twin" (.ref r) (M++L)=true:=λL=>cT (ao R L) (by simp[sj])
 simp only[CJ,rM]
 simp[lF,yL,ag,as0,as_,putD,Pn,sj,is,tw]
def KR(a b:Nat):MO:= .ins 10 [("amounts",.ref a),("answered",.ref b)]
theorem Uw{M:Mem}:Aa [.ref M.length] (M++[.ins 10 []])= .ok .non (M++[KR (M.length+1) (M.length+2),.dk [],.dk []]):=by
 simp only[Aa,pW]
 simp[lF,yL,ag,as0,as_,putD,KR,sj]
theorem fgz(g:Tg)(b:MS)(e:Sl)(M:Mem):iM none g b [] e M= .next e M:=by rw[iM,if_pos (show kZ none M from trivial)]
theorem Zm{M:Mem}:Ff [.tup [.tup [],.tup []]] M= .ok (.ref M.length) (M++[KR (M.length+1) (M.length+2),.dk [],.dk []]):=by
 simp only[Ff,t8,Hj,Hi]
 simp[Uw,fgz]
noncomputable def fU(me:Int)(P:Nat)(t:Int)(v:D)(r:Nat)(st dn:Int)(sh:Nat)(ch:D)(seat:Nat):MO:=
 .ins 11 [("me",.int me),("note",.fn P),("term",.int t),("vote",v),("row",.ref r),("kept",.tup [.tup [],.tup []]),("settled",.int st),("done",.int dn),("shelf",.ref sh),("chair",ch),("seat",.ref seat)]
theorem Yh{M:Mem}{bk rb lb P:Nat}{me t b bt:Int}{v br:D}{es:List D}(B:M[bk]? = some (Pn t v rb (.tup [.tup [],.tup []])))(R:M[rb]? = some (oH b bt br lb))(K:M[lb]? = some (.lst es)):
  CG [.ref M.length,.int me,.ref bk,.fn P] (M++[.ins 11 []])= .ok .non (M++[fU me P t v (M.length+1) b b (M.length+3) .non (M.length+6),oH b bt br (M.length+2),.lst es,KR (M.length+4) (M.length+5),.dk [],.dk [],.ins 7 []]):=by
 have tw:=λL=>V7 (ao R L) (ao K L)
 have is:∀L,dh 4 "twin" (.ref rb) (M++L)=true:=λL=>cT (ao R L) (by simp[sj])
 have sf:=λL=>Zm (M:=M++L)
 unfold Pn at B
 simp only[CG,rK]
 simp[lF,cB,yL,ag,as0,as_,putD,List.lookup,sj,sj',ao B,is,tw,sf,fU,oH]
noncomputable def st1(t:Int):D:= .tup [.int t,.tup [.str "start"]]
def Le(t:Int)(q:Nat):D:= .tup [.int t,.tup [.str "roll",.int q,.int 0]]
section
variable{X:Mem}{r l:Nat}{b bt:Int}{br:D}{ks:List D}
theorem sX{m:Str}(R:X[r]? = some (oH b bt br l))(h:List.lookup m [("base",D.int b),("base_term",D.int bt),("base_roll",br),("kept",D.ref l)]=none):dh 4 m (.ref r) X=true:=cT R h
theorem Ae(R:X[r]? = some (oH b bt br l))(K:X[l]? = some (.lst ks)):kh [.ref r] X= .ok (.int (b+ks.length)) X:=by
 unfold oH at R
 simp only[kh,gZ]
 simp[cB,R,List.lookup,sj',rW K]
theorem Ho(R:X[r]? = some (oH b bt br l))(K:X[l]? = some (.lst ks)){j:Nat}{e:D}{p:Int}(h:ks[j]? = some e)(hp:p=b+j+1):lK [.ref r,.int p] X= .ok e X:=by
 have e1:=Ae R K
 have hj:j<ks.length:=(List.getElem?_eq_some_iff.mp h).1
 have i1:=sX (m:= "last") R rfl
 have i2:=sX (m:= "keeps") R rfl
 have c1:b<p:=()
 have c2:p<=b+ks.length:=()
 have c3:p - b - 1=(j:Int):=()
 have ix:fP (.ref l) (.int (j:Int)) X= .ok e X:=xQ K () (by simpa using h)
 have e2:Cz [.ref r,.int p] X= .ok (.bl true) X:=by
  unfold oH at R
  simp only[Cz,rJ]
  simp[cB,R,List.lookup,i1,e1,c1,c2]
 unfold oH at R
 simp only[lK,gB,zL]
 simp[cB,R,List.lookup,sj',i2,e2,c3,ix]
theorem Zd(R:X[r]? = some (oH b bt br l)):iH [.ref r,.int b] X= .ok (.int bt) X:=by
 unfold oH at R
 simp only[iH,iJ,vm]
 simp[cB,R,List.lookup,sj']
theorem Us(R:X[r]? = some (oH b bt br l))(K:X[l]? = some (.lst ks)){j:Nat}{t:Int}{w:D}{p:Int}(h:ks[j]? = some (.tup [.int t,w]))(hp:p=b+j+1):iH [.ref r,.int p] X= .ok (.int t) X:=by
 have e:=Ho R K h hp
 have i:=sX (m:= "entry_at") R rfl
 have c1:¬p=b:=()
 unfold oH at R
 simp only[iH,iJ,vm]
 simp[cB,R,List.lookup,sj',i,e,c1]
theorem Sq(R:X[r]? = some (oH b bt br l))(K:X[l]? = some (.lst ks)):∀{n:Nat},n<=ks.length->(∀i,i<n->∃t,ks[i]? = some (st1 t))->Kw bZ gM (n+1) [some (.ref r),some (.int (b+n))] X= .next [some (.ref r),some (.int b)] X
 | 0,_,_=>by
  have ec:bZ [some (.ref r),some (.int b)] X= .ok false X:=by
   unfold oH at R
   simp only[bZ]
   simp[cB,R,List.lookup]
  have e0:b+((0:Nat):Int)=b:=by simp
  rw[e0,Kw,ec]
 | n+1,hn,hs=>by
  obtain⟨t,ht⟩:=hs n ()
  have e1:=Ho R K (p:=b+(n+1:Nat)) ht ()
  have i:=sX (m:= "entry_at") R rfl
  have c1:b<b+(n+1:Nat):=()
  have ih:=Sq R K (n:=n) () λi hi=>hs i ()
  have ed:bZ [some (.ref r),some (.int (b+(n+1:Nat)))] X= .ok true X:=by
   obtain⟨p,hp⟩:∃p,p=b+(n+1:Nat):=⟨_,rfl⟩
   rw[<-hp]at e1 c1 ⊢
   unfold oH at R
   simp only[bZ]
   simp[cB,R,List.lookup,i,e1,st1,sj,c1]
  have et:gM [some (.ref r),some (.int (b+(n+1:Nat)))] X= .next [some (.ref r),some (.int (b+n))] X:=by
   have:b+(n+1:Nat) - 1=b+(n:Int):=()
   obtain⟨p,hp⟩:∃p,p=b+(n+1:Nat):=⟨_,rfl⟩
   rw[<-hp]at this ⊢
   simp only[gM]
   simp[this]
  rw[Kw,ed]
  simp only[et]
  exact ih
theorem ael(R:X[r]? = some (oH b bt br l))(K:X[l]? = some (.lst ks))(hs:∀i,i<ks.length->∃t,ks[i]? = some (st1 t)):gF [.ref r,.int (b+ks.length)] X= .ok (.int b) X:=by
 have ew:=HY (Sq R K (jS _) hs) (λz=>nomatch z)
 simp only[gF,dz,nU]
 simp[ew]
theorem ZV(R:X[r]? = some (oH b bt br l))(K:X[l]? = some (.lst ks))(hs:∀i,i<ks.length->∃t,ks[i]? = some (st1 t)):cj [.ref r] X= .ok br X/\lJ [.ref r] X= .ok (.int b) X:=by
 have e1:=Ae R K
 have i1:=sX (m:= "last") R rfl
 have i2:=sX (m:= "roll_by") R rfl
 have i3:=sX (m:= "roll_place_by") R rfl
 have hp:=ael R K hs
 have hr:qp [.ref r,.int (b+ks.length)] X= .ok br X:=by
  unfold oH at R
  simp only[qp,kW,vq]
  simp[cB,R,List.lookup,sj',i3,hp]
 exact⟨by simp only[cj,jD];simp[i1,i2,e1,hr],by simp only[lJ,gY];simp[i1,i3,e1,hp]⟩
theorem aem(R:X[r]? = some (oH b bt br l)){ks0:List D}{T:Int}{q:Nat}(hk:ks=ks0++[Le T q])(K:X[l]? = some (.lst ks)):cj [.ref r] X= .ok (.tup [.int q,.int 0]) X:=by
 have e1:=Ae R K
 have i0:=sX (m:= "entry_at") R rfl
 have i1:=sX (m:= "last") R rfl
 have i2:=sX (m:= "roll_by") R rfl
 have i3:=sX (m:= "roll_place_by") R rfl
 obtain⟨p,hp⟩:∃p,p=b+(ks.length:Int):=⟨_,rfl⟩
 have he:=Ho R K (j:=ks0.length) (e:=Le T q) (p:=p) (by rw[hk];simp) (by rw[hp,hk];simp;omega)
 have c1:b<p:=by rw[hp,hk];simp;omega
 have c2:¬p=b:=()
 rw[<-hp]at e1
 have hpb:gF [.ref r,.int p] X= .ok (.int p) X:=by
  have ec:bZ [some (.ref r),some (.int p)] X= .ok false X:=by
   unfold oH at R
   simp only[bZ]
   simp[cB,R,List.lookup,i0,he,Le,c1]
  have e:Kw bZ gM 1 [some (.ref r),some (.int p)] X= .next [some (.ref r),some (.int p)] X:=by rw[Kw,ec]
  have ew:=HY e (λz=>nomatch z)
  simp only[gF,dz,nU]
  simp[ew]
 have hr:qp [.ref r,.int p] X= .ok (.tup [.int q,.int 0]) X:=by
  unfold oH at R
  simp only[qp,kW,vq]
  simp[cB,R,List.lookup,sj',i3,hpb,c2,i0,he,Le]
 simp only[cj,jD]
 simp[i1,i2,e1,hr]
end
theorem amC{ma:ME}{ms:MA}{e:Sl}{M M1 M2:Mem}{l:Nat}{y:D}(h1:ma e M= .ok (.fn l) M1)(h2:ms e M1= .ok [y] M2):Mp ma ms e M=Ib (.fn l) y M2:=by
 unfold Mp
 rw[h1,Out.fc]
 show(ms e M1).bind _=_
 rw[h2,Out.fc]
noncomputable def Q(M:Mem)(A P:Nat)(h:MO)(ps ks:List D)(L:Mem):Mem:=((M.set A h).set P (.lst ps)).set (A+2) (.lst ks)++L
structure At(M:Mem)(A P i:Nat)(T0 b bt:Int)(p q:Nat)(es:List D):Prop where
 o:M[A]? = some (fU i P T0 .non (A+1) b b (A+3) .non (A+6))
 r:M[A+1]? = some (oH b bt (.tup [.int p,.int q]) (A+2))
 k:M[A+2]? = some (.lst es)
 z:M[A+6]? = some (.ins 7 [])
 p0:M[P]? = some (.lst [])
 pa:P<A
 hi:i<60
 hp:p<2 ^ 60
 hq:q<2 ^ 60
 hs:∀j,j<es.length->es[j]? = some (st1 T0)
 kl:es.length<=3
 b0:0<=b
 b1:b<=1000000
section
variable{M:Mem}{A P i p q:Nat}{T0 b bt:Int}{es:List D}{h x:MO}{ps ks ps' ks':List D}{L L':Mem}{n k:Nat}{o:MO}
theorem At.lt(C:At M A P i T0 b bt p q es):A+6<M.length:=Ef C.z
theorem ql:(Q M A P h ps ks L).length=M.length+L.length:=by simp[Q]
theorem qa:Q M A P h ps ks L++L'=Q M A P h ps ks (L++L'):=by simp[Q]
theorem qn:(Q M A P h ps ks L)[M.length+k]? = L[k]? := by
 have:=ag (M:=((M.set A h).set P (.lst ps)).set (A+2) (.lst ks)) (L:=L) (k:=k)
 simpa[Q]using this
theorem sn:(Q M A P h ps ks L).set (M.length+k) x=Q M A P h ps ks (L.set k x):=by
 have:=as_ (M:=((M.set A h).set P (.lst ps)).set (A+2) (.lst ks)) (L:=L) (k:=k) (x:=x)
 simpa[Q]using this
theorem At.qA(C:At M A P i T0 b bt p q es):(Q M A P h ps ks L)[A]? = some h:=by
 have:=C.lt
 have:=C.pa
 refine ao ?_ L
 rw[zaf (),zaf (),zag ()]
theorem At.qP(C:At M A P i T0 b bt p q es):(Q M A P h ps ks L)[P]? = some (.lst ps):=by
 have:=C.lt
 have:=C.pa
 refine ao ?_ L
 rw[zaf (),zag (by simp;omega)]
theorem At.qk(C:At M A P i T0 b bt p q es):(Q M A P h ps ks L)[A+2]? = some (.lst ks):=by
 have:=C.lt
 exact ao (by rw[zag (by simp;omega)]) L
theorem qo(h1:A≠n)(h2:P≠n)(h3:A+2≠n)(e:M[n]? = some o):(Q M A P h ps ks L)[n]? = some o:=
 ao (by rw[zaf h3,zaf h2,zaf h1];exact e) L
theorem At.sA(C:At M A P i T0 b bt p q es):(Q M A P h ps ks L).set A x=Q M A P x ps ks L:=by
 have:=C.lt
 have:=C.pa
 unfold Q
 rw[aso (by simp;omega),List.set_comm _ _ (by omega:A+2≠A),List.set_comm _ _ (by omega:P≠A),List.set_set]
theorem At.sP(C:At M A P i T0 b bt p q es):(Q M A P h ps ks L).set P (.lst ps')=Q M A P h ps' ks L:=by
 have:=C.lt
 have:=C.pa
 unfold Q
 rw[aso (by simp;omega),List.set_comm _ _ (by omega:A+2≠P),List.set_set]
theorem At.sk(C:At M A P i T0 b bt p q es):(Q M A P h ps ks L).set (A+2) (.lst ks')=Q M A P h ps ks' L:=by
 have:=C.lt
 unfold Q
 rw[aso (by simp;omega),List.set_set]
theorem At.qr(C:At M A P i T0 b bt p q es):(Q M A P h ps ks L)[A+1]? = some (oH b bt (.tup [.int p,.int q]) (A+2)):=by have:=C.pa;exact qo () () () C.r
theorem At.qz(C:At M A P i T0 b bt p q es):(Q M A P h ps ks L)[A+6]? = some (.ins 7 []):=by have:=C.pa;exact qo () () () C.z
theorem At.start(C:At M A P i T0 b bt p q es):M=Q M A P (fU i P T0 .non (A+1) b b (A+3) .non (A+6)) [] es []:=by
 unfold Q
 rw[List.append_nil]
 have f:∀{n:Nat} {o:MO},M[n]? = some o->M.set n o=M:=λ{n o} q=>by
  obtain⟨hn,e⟩:=List.getElem?_eq_some_iff.mp q
  rw[<-e]
  exact List.set_getElem_self hn
 rw[f C.o,f C.p0,f C.k]
variable{v ch:D}{st dn tt:Int}{seat:Nat}
theorem At.paper(C:At M A P i T0 b bt p q es)(d:D)(hl:ps.length<100):bF [.ref A,d] (Q M A P (fU i P tt v (A+1) st dn (A+3) ch seat) ps ks L)= .ok .non (Q M A P (fU i P tt v (A+1) st dn (A+3) ch seat) (ps++[d]) ks L):=by
 obtain⟨h,hh⟩:∃h,h=fU i P tt v (A+1) st dn (A+3) ch seat:=⟨_,rfl⟩
 have e1:cB [11] "note" (.ref A) (Q M A P h ps ks L)= .ok (.fn P) (Q M A P h ps ks L):=by rw[hh];exact aQ C.qA (by simp) rfl
 have e2:Ib (.fn P) d (Q M A P h ps ks L)= .ok .non (Q M A P h (ps++[d]) ks L):=by
  simp only[Ib,C.qP]
  rw[if_pos (by rw[Dq];omega),C.sP]
 rw[<-hh]
 simp only[bF,bV,vJ]
 have e6:Mp (au 2) (aq (au 1) aH) [some (.ref A),some d,some (.fn P)] (Q M A P h ps ks L)= .ok .non (Q M A P h (ps++[d]) ks L):=(amC (M1:=Q M A P h ps ks L) (M2:=Q M A P h ps ks L) (l:=P) (y:=d) (by simp) (by simp)).trans e2
 simp[e1,e6]
 rfl
theorem At.is{m:Str}(C:At M A P i T0 b bt p q es)(h:List.lookup m [("me",D.int i),("note",D.fn P),("term",D.int tt),("vote",v),("row",D.ref (A+1)),("kept",D.tup [.tup [],.tup []]),("settled",D.int st),("done",D.int dn),("shelf",D.ref (A+3)),("chair",ch),("seat",D.ref seat)]=none):dh 11 m (.ref A) (Q M A P (fU i P tt v (A+1) st dn (A+3) ch seat) ps ks L)=true:=cT C.qA h
theorem At.ab8(C:At M A P i T0 b bt p q es):qK [.ref A] (Q M A P (fU i P tt v (A+1) st dn (A+3) ch (A+6)) ps ks L)= .ok (.bl false) (Q M A P (fU i P tt v (A+1) st dn (A+3) ch (A+6)) ps ks L):=by
 obtain⟨h,hh⟩:∃h,h=fU i P tt v (A+1) st dn (A+3) ch (A+6):=⟨_,rfl⟩
 have e1:cB [11] "seat" (.ref A) (Q M A P h ps ks L)= .ok (.ref (A+6)) (Q M A P h ps ks L):=by rw[hh];exact aQ C.qA (by simp) rfl
 have e2:Qi 9 [(7,false),(8,false),(9,true)] [.ref (A+6),.cls 9] (Q M A P h ps ks L)= .ok (.bl false) (Q M A P h ps ks L):=K8 C.qz rfl
 rw[<-hh]
 simp only[qK,iY]
 simp[e1,e2]
theorem At.enter(C:At M A P i T0 b bt p q es)(t':Int):vY [.ref A,.int t'] (Q M A P (fU i P tt v (A+1) st dn (A+3) ch seat) ps ks L)= .ok .non (Q M A P (fU i P t' .non (A+1) st dn (A+3) .non (M.length+L.length)) ps ks (L++[.ins 7 []])):=by
 simp only[vY,pX]
 simp[lF,C.qA,C.sA,fU,putD,sj,qa,ql]
theorem At.akS(C:At M A P i T0 b bt p q es)(hl:ps.length<100):pC [.ref A,.int i] (Q M A P (fU i P tt v (A+1) st dn (A+3) ch seat) ps ks L)= .ok .non (Q M A P (fU i P tt (.int i) (A+1) st dn (A+3) ch seat) (ps++[.tup [.str "vote",.int i,.int tt,.int i]]) ks L):=by
 have e:=C.paper (tt:=tt) (v:= .int i) (st:=st) (dn:=dn) (ch:=ch) (seat:=seat) (ks:=ks) (L:=L) (.tup [.str "vote",.int i,.int tt,.int i]) hl
 have i1:=C.is (m:= "tell_paper") (tt:=tt) (v:= .int i) (st:=st) (dn:=dn) (ch:=ch) (seat:=seat) (ps:=ps) (ks:=ks) (L:=L) rfl
 unfold fU at e i1
 simp only[pC,jx]
 simp[lF,cB,C.qA,C.sA,fU,putD,List.lookup,sj,sj',i1,e]
end
theorem axd{i:Nat}:Builtin.bitOr 0 (1*2 ^ ((i:Nat):Int).toNat)=((2 ^ i:Nat):Int):=by
 rw[Int.toNat_natCast,HM.Qw]
 have:=HM.yK 0 (2 ^ i)
 simpa using this
theorem ad6{X:Mem}{l i:Nat}(h:X[l]? = some (.lst [.int i]))(hi:i<=1000000):Cw [.ref l] X= .ok (.int (2 ^ i:Nat)) X:=by
 have sh:zY (.int 1) (.int (i:Int)) X= .ok (.int (1*2 ^ ((i:Nat):Int).toNat)) X:=Qe ⟨(),(),by decide⟩
 have hs:kZ (some (l,[.int (i:Int)])) X:=b8 h
 have et:wR [some (.ref l),some (.int 0),some (.int i)] X= .next [some (.ref l),some (.int (2 ^ i:Nat)),some (.int i)] X:=by
  simp only[wR]
  simp[sh,uf,axd,-Int.toNat_natCast,-Int.one_mul]
 have ef:iM (some (l,[.int (i:Int)])) (gN 2) wR [.int (i:Int)] [some (.ref l),some (.int 0),none] X= .next [some (.ref l),some (.int (2 ^ i:Nat)),some (.int i)] X:=by
  rw[iM,if_pos hs]
  show(match wR [some (.ref l),some (.int 0),some (.int i)] X with
   | .next e2 M2=>_ | .cont e2 M2=>_ | .brk e2 M2=>_ | .ret d M2=>_ | .exc c d e2 M2=>_ | .bad=>_)=_
  rw[et]
  show iM _ _ _ [] _ _=_
  rw[iM,if_pos hs]
 simp only[Cw,u9,M6]
 simp[qt h,ef]
noncomputable def rP(V:Nat):MO:= .ins 8 [("voters",.int V)]
theorem VN{X:Mem}{i:Nat}(hi:i<=1000000):vZ [.ref X.length,.int i] (X++[.ins 8 []])= .ok .non (X++[rP (2 ^ i),.lst [.int i]]):=by
 have e:=ad6 (X:=X++[.ins 8 [],.lst [.int (i:Int)]]) (l:=X.length+1) (i:=i) ag hi
 simp only[vZ,p7]
 simp[lF,yL,as0,putD,e,rP]
def p8(V p q:Nat):Bool:=Dc V p false&&(decide (q=0)||Dc V q false)
theorem aan{X:Mem}(n:Nat)(hn:n<2 ^ 60):Mj [.int n] X= .ok (.int (HM.cnt n:Nat)) (X++[.lst (hv (HM.aN n))]):=by
 simp only[Mj,Dd]
 simp[Jw n hn,rW Np,hv,HM.cnt]
theorem aaW{X:Mem}(V p:Nat)(hp:p<2 ^ 60):Dp [.int V,.int p,.bl false] X= .ok (.bl (Dc V p false)) (X++[.lst (hv (HM.aN (V &&& p))),.lst (hv (HM.aN p))]):=by
 have ea:Builtin.bitAnd (V:Int) (p:Int)=((V &&& p:Nat):Int):=HM.Hu V p
 simp only[Dp,t_,Jv]
 simp[ea,aan (V &&& p) (agK hp),ai4,aan p hp,Dc]
 omega
theorem YZ{X:Mem}(V p q:Nat)(hp:p<2 ^ 60)(hq:q<2 ^ 60):∃Y,Fe [.tup [.int p,.int q],.int V,.bl false] X= .ok (.bl (p8 V p q)) (X++Y):=by
 have e1:=aaW (X:=X) V p hp
 have e2:=λL=>aaW (X:=X++L) V q hq
 unfold p8
 cases z:Dc V p false with
 | false=>
  rw[z]at e1
  exact⟨_,by simp only[Fe,Ft,GP];simp[e1];rfl⟩
 | true=>
  rw[z]at e1
  by_cases h0:q=0
  ·exact⟨_,by simp only[Fe,Ft,GP];simp[e1,h0];rfl⟩
  ·exact⟨_,by simp only[Fe,Ft,GP];simp[e1,h0,e2];rfl⟩
theorem QS{X:Mem}(n:Nat):oU [.int n] X= .ok (.ref X.length) (X++[.lst (hv (HM.aN n))]):=by
 simp only[oU,j9]
 simp[ahL,rO,count_list n]
theorem adx{X:Mem}(V p:Nat):ug [.int V,.int p] X= .ok (.bl (Dc V p false)) (X++[.lst (hv (HM.aN (V &&& p))),.lst (hv (HM.aN p))]):=by
 have ea:Builtin.bitAnd (V:Int) (p:Int)=((V &&& p:Nat):Int):=HM.Hu V p
 have l1:zz [.ref X.length] (X++[.lst (hv (HM.aN (V &&& p)))])= .ok (.int (HM.cnt (V &&& p):Nat)) (X++[.lst (hv (HM.aN (V &&& p)))]):=by rw[rW (yL.trans rfl)];simp[hv,HM.cnt]
 have l2:zz [.ref (X.length+1)] (X++[.lst (hv (HM.aN (V &&& p))),.lst (hv (HM.aN p))])= .ok (.int (HM.cnt p:Nat)) (X++[.lst (hv (HM.aN (V &&& p))),.lst (hv (HM.aN p))]):=by rw[rW (ag.trans rfl)];simp[hv,HM.cnt]
 simp only[ug,kO]
 simp[ea,QS (V &&& p),QS p,l1,l2,ai4,Dc]
 omega
theorem aax{X:Mem}(V p q:Nat):∃Y,qR [.tup [.int p,.int q],.int V] X= .ok (.bl (p8 V p q)) (X++Y):=by
 have e1:=adx (X:=X) V p
 have e2:=λL=>adx (X:=X++L) V q
 unfold p8
 cases z:Dc V p false with
 | false=>
  rw[z]at e1
  exact⟨_,by simp only[qR,kI];simp[e1];rfl⟩
 | true=>
  rw[z]at e1
  by_cases h0:q=0
  ·exact⟨_,by simp only[qR,kI];simp[e1,h0];rfl⟩
  ·exact⟨_,by simp only[qR,kI];simp[e1,h0,e2];rfl⟩
def BX(m i:Nat):List D:=((HM.aN m).filter λh=>decide (h≠i)).map λ(h:Nat)=>D.int (h:Int)
def eT(bt T0:Int)(es:List D):Int:=if es=[]then bt else T0
noncomputable def vp(i:Nat)(t:Int):D:= .tup [.str "vote",.int i,.int t,.int i]
noncomputable def ple(i:Nat)(t:Int)(en d:D):D:= .tup [.str "please",.int i,d,.int t,en]
def vP(b bt T0:Int)(es:List D):D:= .tup [.int (eT bt T0 es),.int (b+es.length)]
section
variable{M:Mem}{A P i p q:Nat}{T0 b bt:Int}{es:List D}{h:MO}{ps ks:List D}{L:Mem}{v ch:D}{st dn tt:Int}{seat:Nat}
theorem aiR{p q:Nat}(hp:p<2 ^ 60)(hq:q<2 ^ 60):p ||| q<2 ^ 60:=Nat.or_lt_two_pow hp hq
theorem At.i20(C:At M A P i T0 b bt p q es):i<=1000000:=by have:=C.hi;omega
theorem At.rls(C:At M A P i T0 b bt p q es):cj [.ref (A+1)] (Q M A P h ps es L)= .ok (.tup [.int p,.int q]) (Q M A P h ps es L):=(ZV C.qr C.qk λj hj=>⟨_,C.hs j hj⟩).1
theorem At.tml(C:At M A P i T0 b bt p q es):iH [.ref (A+1),.int (b+es.length)] (Q M A P h ps es L)= .ok (.int (eT bt T0 es)) (Q M A P h ps es L):=by
 unfold eT
 by_cases e:es=[]
 ·rw[if_pos e]
  have:=Zd (X:=Q M A P h ps es L) C.qr
  have e0:b+(es.length:Int)=b:=by rw[e];simp
  rw[e0]
  exact this
 ·rw[if_neg e]
  have hl:0<es.length:=by
   cases es with
   | nil=>exact absurd rfl e
   | cons _ _=>simp
  exact Us C.qr C.qk (j:=es.length - 1) (C.hs _ ()) ()
theorem At.awS(C:At M A P i T0 b bt p q es):tZ [.ref (A+1)] (Q M A P h ps es L)= .ok (vP b bt T0 es) (Q M A P h ps es L):=by
 have e1:=Ae (X:=Q M A P h ps es L) C.qr C.qk
 have e2:=C.tml (h:=h) (ps:=ps) (L:=L)
 simp only[tZ,wQ]
 simp[sX (m:= "last") (X:=Q M A P h ps es L) C.qr rfl,sX (m:= "term_at") (X:=Q M A P h ps es L) C.qr rfl,e1,e2,vP]
theorem At.others(C:At M A P i T0 b bt p q es){p' q':Nat}(hp:p'<2 ^ 60)(hq:q'<2 ^ 60)(rl:cj [.ref (A+1)] (Q M A P (fU i P tt v (A+1) st dn (A+3) ch seat) ps ks L)= .ok (.tup [.int p',.int q']) (Q M A P (fU i P tt v (A+1) st dn (A+3) ch seat) ps ks L)):
  iI [.ref A] (Q M A P (fU i P tt v (A+1) st dn (A+3) ch seat) ps ks L)= .ok (.ref (M.length+(L.length+1))) (Q M A P (fU i P tt v (A+1) st dn (A+3) ch seat) ps ks (L++[.lst (hv (HM.aN (p' ||| q'))),.lst (BX (p' ||| q') i)])):=by
 obtain⟨h,hh⟩:∃h,h=fU i P tt v (A+1) st dn (A+3) ch seat:=⟨_,rfl⟩
 rw[<-hh]at rl ⊢
 have f1:cB [5,11] "row" (.ref A) (Q M A P h ps ks L)= .ok (.ref (A+1)) (Q M A P h ps ks L):=by rw[hh];exact aQ C.qA (by simp) rfl
 have i1:dh 4 "roll" (.ref (A+1)) (Q M A P h ps ks L)=true:=sX C.qr rfl
 have mb:Iu [.tup [.int p',.int q']] (Q M A P h ps ks L)= .ok (.int (p' ||| q':Nat)) (Q M A P h ps ks L):=by
  have:Builtin.bitOr (p':Int) (q':Int)=((p' ||| q':Nat):Int):=HM.yK p' q'
  simp only[Iu,wO]
  simp[uf,this]
 obtain⟨m,hm⟩:∃m,m=p' ||| q':=⟨_,rfl⟩
 have hml:m<2 ^ 60:=by rw[hm];exact aiR hp hq
 rw[<-hm]at mb ⊢
 have ho:=Jw (M:=Q M A P h ps ks L) m hml
 rw[ql,qa]at ho
 obtain⟨L1,hL1⟩:∃L1,L1=L++[MO.lst (hv (HM.aN m))]:=⟨_,rfl⟩
 rw[<-hL1]at ho
 have hx:(Q M A P h ps ks L1)[M.length+L.length]? = some (.lst (hv (HM.aN m))):=by rw[qn,hL1];simp
 have f2:cB [9,11] "me" (.ref A) (Q M A P h ps ks L1)= .ok (.int i) (Q M A P h ps ks L1):=by rw[hh];exact aQ C.qA (by simp) rfl
 have cp:=yI (src:=some (M.length+L.length,hv (HM.aN m))) (tt:=bA (aM sNe (au 0) (aX [9,11] (au 1) "me"))) (te:=au 0) (ce:=[some (.ref A)]) (M:=Q M A P h ps ks L1) (qB λj=>decide (j≠(i:Int))) (λd=>d) (ds:=hv (HM.aN m)) (b8 hx)
  (λd hd=>by
   obtain⟨j,hj,rfl⟩:=List.mem_map.mp hd
   simp[f2,qB])
  (λd hd=>aaq)
 have eo:((hv (HM.aN m)).filter (qB λj=>decide (j≠(i:Int)))).map (λd=>d)=BX m i:=by
  unfold BX hv
  rw[List.map_id',List.filter_map]
  congr 1
  refine List.filter_congr λj _=> ?_
  simp[qB]
  omega
 rw[eo,ql,qa]at cp
 simp only[iI,kY]
 simp[f1,i1,rl,mb,ho,qt hx,rO,cp]
 simp[hL1]
noncomputable def gH(M:Mem)(P i A n:Nat)(b t:Int):MO:=fU i P t (.int i) (A+1) b b (A+3) .non (M.length+n)
theorem At.wn(C:At M A P i T0 b bt p q es){n V:Nat}{T:Int}(hz:L[n]? = some (rP V)):∃Y,
  dR Fe 3 [(.bl false)] (aq (aV 4 "roll" cj 1 [] (aX [5,11] (au 0) "row") aH) (aq (aX [8] (aX [11] (au 0) "seat") "voters") aH)) [some (.ref A)] (Q M A P (gH M P i A n b T) ps es L)=
   .ok (.bl (p8 V p q)) (Q M A P (gH M P i A n b T) ps es (L++Y)):=by
 obtain⟨h,hh⟩:∃h,h=gH M P i A n b T:=⟨_,rfl⟩
 rw[<-hh]
 have f1:cB [5,11] "row" (.ref A) (Q M A P h ps es L)= .ok (.ref (A+1)) (Q M A P h ps es L):=by rw[hh];exact aQ C.qA (by simp) rfl
 have f2:cB [11] "seat" (.ref A) (Q M A P h ps es L)= .ok (.ref (M.length+n)) (Q M A P h ps es L):=by rw[hh];exact aQ C.qA (by simp) rfl
 have f3:cB [8] "voters" (.ref (M.length+n)) (Q M A P h ps es L)= .ok (.int V) (Q M A P h ps es L):=aQ (qn.trans hz) (by simp) rfl
 have i1:dh 4 "roll" (.ref (A+1)) (Q M A P h ps es L)=true:=sX C.qr rfl
 have rl:=C.rls (h:=h) (ps:=ps) (L:=L)
 obtain⟨Y,wx⟩:=YZ (X:=Q M A P h ps es L) V p q C.hp C.hq
 rw[qa]at wx
 refine⟨Y,?_⟩
 simp only[Mm,aau]
 simp[f1,i1,rl,f2,f3,wx]
theorem At.amB(C:At M A P i T0 b bt p q es){n V:Nat}{T:Int}(hz:L[n]? = some (rP V))(hn:p8 V p q=false):∃Y,dY [.ref A] (Q M A P (gH M P i A n b T) ps es L)= .ok (.ref (M.length+(L++Y).length)) (Q M A P (gH M P i A n b T) ps es (L++Y++[.lst []])):=by
 obtain⟨Y,e⟩:=C.wn (ps:=ps) (T:=T) hz
 rw[hn]at e
 refine⟨Y,?_⟩
 simp only[dY,dZ,oW]
 simp[-Mm,e,ql,qa]
theorem At.lets(C:At M A P i T0 b bt p q es){n:Nat}{T:Int}:
  vI [0] (vH (aV 11 "others" iI 1 [] (au 0) aH)) CK (fQ (aq (mC (.str "please")) (aq (aX [9,11] (au 1) "me") (aq (au 0) (aq (aX [5,11] (au 1) "term") (aq (aV 4 "end" tZ 1 [] (aX [5,11] (au 1) "row") aH) aH)))))) [some (.ref A),none] (Q M A P (gH M P i A n b T) ps es L)=
   .ok (.ref (M.length+(L.length+2))) (Q M A P (gH M P i A n b T) ps es (L++[.lst (hv (HM.aN (p ||| q))),.lst (BX (p ||| q) i),.lst ((BX (p ||| q) i).map (ple i T (vP b bt T0 es)))])):=by
 have ot:iI [.ref A] (Q M A P (gH M P i A n b T) ps es L)=_:=C.others (v:= .int i) (st:=b) (dn:=b) (ch:= .non) (seat:=M.length+n) (ps:=ps) (ks:=es) (L:=L) (tt:=T) C.hp C.hq C.rls
 have i1:dh 11 "others" (.ref A) (Q M A P (gH M P i A n b T) ps es L)=true:=cT C.qA rfl
 obtain⟨h,hh⟩:∃h,h=gH M P i A n b T:=⟨_,rfl⟩
 have hh':fU i P T (.int i) (A+1) b b (A+3) .non (M.length+n)=h:=hh.symm
 rw[hh',<-hh]at ot
 rw[<-hh]at i1 ⊢
 obtain⟨L1,hL1⟩:∃L1,L1=L++[MO.lst (hv (HM.aN (p ||| q))),.lst (BX (p ||| q) i)]:=⟨_,rfl⟩
 rw[<-hL1]at ot
 have l1:L1.length=L.length+2:=by rw[hL1];simp
 have hx:(Q M A P h ps es L1)[M.length+(L.length+1)]? = some (.lst (BX (p ||| q) i)):=by rw[qn,hL1];simp
 have f1:cB [9,11] "me" (.ref A) (Q M A P h ps es L1)= .ok (.int i) (Q M A P h ps es L1):=by rw[hh];exact aQ C.qA (by simp) rfl
 have f2:cB [5,11] "term" (.ref A) (Q M A P h ps es L1)= .ok (.int T) (Q M A P h ps es L1):=by rw[hh];exact aQ C.qA (by simp) rfl
 have f3:cB [5,11] "row" (.ref A) (Q M A P h ps es L1)= .ok (.ref (A+1)) (Q M A P h ps es L1):=by rw[hh];exact aQ C.qA (by simp) rfl
 have i2:dh 4 "end" (.ref (A+1)) (Q M A P h ps es L1)=true:=sX C.qr rfl
 have en:=C.awS (h:=h) (ps:=ps) (L:=L1)
 have cp:=Nf (src:=some (M.length+(L.length+1),BX (p ||| q) i)) (te:=fQ (aq (mC (.str "please")) (aq (aX [9,11] (au 1) "me") (aq (au 0) (aq (aX [5,11] (au 1) "term") (aq (aV 4 "end" tZ 1 [] (aX [5,11] (au 1) "row") aH) aH)))))) (ce:=[some (.ref A)]) (M:=Q M A P h ps es L1) (ple i T (vP b bt T0 es)) (ds:=BX (p ||| q) i) (b8 hx)
  (λd hd=>by simp[f1,f2,f3,i2,en,ple])
 rw[ql,qa,l1]at cp
 rw[aav]
 simp[i1,ot,qt hx,rO,cp]
 simp[hL1]
end
theorem ac1{X:Mem}{n m:Nat}{as bs:List D}(h:X[n]? = some (.lst as))(h':X[m]? = some (.lst bs))(hl:as.length+bs.length<=16777216):qm (.ref n) (.ref m) X= .ok (.ref X.length) (X++[.lst (as++bs)]):=by
 refine vU ((Ln rfl).trans ?_)
 simp only[abA,Gb,uO,h,h']
 rw[if_pos (by rw[Dq];exact hl)]
theorem Gp(m i:Nat):(BX m i).length<=60:=by
 unfold BX
 rw[zak]
 exact yY (List.length_filter_le _ _) (by unfold HM.aN;exact yY (List.length_filter_le _ _) (by simp))
section
variable{M:Mem}{A P i p q:Nat}{T0 b bt:Int}{es:List D}{h:MO}{ps ks:List D}{L:Mem}
theorem At.pre(C:At M A P i T0 b bt p q es){R:rQ}{s:MS}
  (h:aP (cU (vI [0] (vH (aV 11 "others" iI 1 [] (au 0) aH)) CK (fQ (aq (mC (.str "please")) (aq (aX [9,11] (au 1) "me") (aq (au 0) (aq (aX [5,11] (au 1) "term") (aq (aV 4 "end" tZ 1 [] (aX [5,11] (au 1) "row") aH) aH))))))) (gN 1)) s [some (.ref A),none] (Q M A P (gH M P i A 1 b (T0+1)) [vp i (T0+1)] es [.ins 7 [],rP (2 ^ i),.lst [.int i]])=R):
  aP za (aP (jz (aV 11 "enter" vY 2 [] (au 0) (aq (aM qm (aX [5,11] (au 0) "term") (mC (.int 1))) aH)))
   (aP (jz (aV 11 "give_vote" pC 2 [] (au 0) (aq (aX [9,11] (au 0) "me") aH)))
   (aP (d_ [11] (au 0) (Br 8 vZ 2 [] (aq (aX [9,11] (au 0) "me") aH)) "seat")
   (aP (cU (vI [0] (vH (aV 11 "others" iI 1 [] (au 0) aH)) CK (fQ (aq (mC (.str "please")) (aq (aX [9,11] (au 1) "me") (aq (au 0) (aq (aX [5,11] (au 1) "term") (aq (aV 4 "end" tZ 1 [] (aX [5,11] (au 1) "row") aH) aH))))))) (gN 1)) s)))) [some (.ref A),none] M=R:=by
 have e1:=C.ab8 (tt:=T0) (v:= .non) (st:=b) (dn:=b) (ch:= .non) (ps:=[]) (ks:=es) (L:=[])
 have i1:=C.is (m:= "is_chair") (tt:=T0) (v:= .non) (st:=b) (dn:=b) (ch:= .non) (seat:=A+6) (ps:=[]) (ks:=es) (L:=[]) rfl
 have i2:=C.is (m:= "enter") (tt:=T0) (v:= .non) (st:=b) (dn:=b) (ch:= .non) (seat:=A+6) (ps:=[]) (ks:=es) (L:=[]) rfl
 have e2:=C.enter (tt:=T0) (v:= .non) (st:=b) (dn:=b) (ch:= .non) (seat:=A+6) (ps:=[]) (ks:=es) (L:=[]) (T0+1)
 have f2:cB [5,11] "term" (.ref A) (Q M A P (fU i P T0 .non (A+1) b b (A+3) .non (A+6)) [] es [])= .ok (.int T0) _:=aQ C.qA (by simp) rfl
 rw[<-C.start]at e1 i1 i2 e2 f2
 have e3:=C.akS (tt:=T0+1) (v:= .non) (st:=b) (dn:=b) (ch:= .non) (seat:=M.length) (ps:=[]) (ks:=es) (L:=[.ins 7 []]) (by decide)
 have f3:cB [9,11] "me" (.ref A) (Q M A P (fU i P (T0+1) .non (A+1) b b (A+3) .non M.length) [] es [.ins 7 []])= .ok (.int i) _:=aQ C.qA (by simp) rfl
 have i3:=C.is (m:= "give_vote") (tt:=T0+1) (v:= .non) (st:=b) (dn:=b) (ch:= .non) (seat:=M.length) (ps:=[]) (ks:=es) (L:=[.ins 7 []]) rfl
 have f4:cB [9,11] "me" (.ref A) (Q M A P (fU i P (T0+1) (.int i) (A+1) b b (A+3) .non M.length) [vp i (T0+1)] es [.ins 7 []])= .ok (.int i) _:=aQ C.qA (by simp) rfl
 have e4:=VN (X:=Q M A P (fU i P (T0+1) (.int i) (A+1) b b (A+3) .non M.length) [vp i (T0+1)] es [.ins 7 []]) C.i20
 rw[ql,qa,qa]at e4
 have e5:lF [11] "seat" (.ref (M.length+1)) (.ref A) (Q M A P (fU i P (T0+1) (.int i) (A+1) b b (A+3) .non M.length) [vp i (T0+1)] es [.ins 7 [],rP (2 ^ i),.lst [.int i]])=some (Q M A P (gH M P i A 1 b (T0+1)) [vp i (T0+1)] es [.ins 7 [],rP (2 ^ i),.lst [.int i]]):=by
  simp[lF,C.qA,C.sA,fU,gH,putD,sj]
 refine nY (e':=[some (.ref A),none]) (M':=M) ?_ (nY (e':=[some (.ref A),none]) (M':=Q M A P (fU i P (T0+1) .non (A+1) b b (A+3) .non M.length) [] es [.ins 7 []]) ?_ (nY (e':=[some (.ref A),none]) (M':=Q M A P (fU i P (T0+1) (.int i) (A+1) b b (A+3) .non M.length) [vp i (T0+1)] es [.ins 7 []]) ?_ (nY (e':=[some (.ref A),none]) ?_ h)))
 ·simp only[za]
  simp[i1,e1]
 ·simp at e2
  simp[i2,f2,e2]
 ·simp at e3
  simp[f3,i3,e3,vp]
 ·simp at e4
  simp only[ZL]
  simp[f4,ql,qa,e4,e5]
def RL(i p q:Nat)(b bt T0:Int)(es:List D):List D:=(BX (p ||| q) i).map (ple i (T0+1) (vP b bt T0 es))
def l6(i p q:Nat)(b bt T0:Int)(es:List D):Mem:=[.ins 7 [],rP (2 ^ i),.lst [.int i],.lst (hv (HM.aN (p ||| q))),.lst (BX (p ||| q) i),.lst (RL i p q b bt T0 es)]
theorem At.ring(C:At M A P i T0 b bt p q es){R n:Nat}{L':Mem}{h':MO}{ps' ks' ds:List D}(e2:dY [.ref A] (Q M A P (gH M P i A 1 b (T0+1)) [vp i (T0+1)] es (l6 i p q b bt T0 es))= .ok (.ref (M.length+n)) (Q M A P h' ps' ks' L'))(x1:L'[5]? = some (.lst (RL i p q b bt T0 es)))(x2:L'[n]? = some (.lst ds))(hd:ds.length<=1000):
  uN [.ref A] M= .ok (.ref (M.length+L'.length)) (Q M A P h' ps' ks' (L'++[.lst (RL i p q b bt T0 es++ds)])):=by
 have e1:=C.lets (T:=T0+1) (ps:=[vp i (T0+1)]) (n:=1) (L:=[.ins 7 [],rP (2 ^ i),.lst [.int i]])
 have e1':([MO.ins 7 [],rP (2 ^ i),.lst [.int i]]++[MO.lst (hv (HM.aN (p ||| q))),.lst (BX (p ||| q) i),.lst ((BX (p ||| q) i).map (ple i (T0+1) (vP b bt T0 es)))])=l6 i p q b bt T0 es:=rfl
 rw[e1']at e1
 have i2:dh 11 "count_votes" (.ref A) (Q M A P (gH M P i A 1 b (T0+1)) [vp i (T0+1)] es (l6 i p q b bt T0 es))=true:=cT C.qA rfl
 have ad:=ac1 (X:=Q M A P h' ps' ks' L') (qn.trans x1) (qn.trans x2) (by unfold RL;rw[zak];have:=Gp (p ||| q) i;omega)
 rw[ql,qa]at ad
 refine acA (C.pre (nY (e':=[some (.ref A),some (.ref (M.length+5))]) (M':=Q M A P (gH M P i A 1 b (T0+1)) [vp i (T0+1)] es (l6 i p q b bt T0 es)) ?_ (Q9 ?_)))
 ·rw[abB,e1]
  simp
 ·simp[i2,e2,ad]
theorem At.aeo(C:At M A P i T0 b bt p q es)(hn:p8 (2 ^ i) p q=false):∃L n,uN [.ref A] M= .ok (.ref (M.length+n)) (Q M A P (gH M P i A 1 b (T0+1)) [vp i (T0+1)] es L)/\L[1]? = some (rP (2 ^ i))/\L[n]? = some (.lst (RL i p q b bt T0 es)):=by
 obtain⟨Y,e⟩:=C.amB (L:=l6 i p q b bt T0 es) (n:=1) (V:=2 ^ i) (T:=T0+1) (ps:=[vp i (T0+1)]) rfl hn
 have r:=C.ring (R:=0) e (Gr.app _ _ (Gr.app _ _ rfl)) (yL.trans rfl) (by simp)
 refine⟨_,_,r,Gr.app _ _ (Gr.app _ _ (Gr.app _ _ rfl)),?_⟩
 rw[List.append_nil]
 exact yL.trans rfl
end
noncomputable def vA(i:Nat)(s b:Int)(x y z:Nat):MO:= .ins 9 [("me",.int i),("start",.int s),("beat",.int b),("beats",.ref x),("places",.ref y),("looks",.ref z)]
structure Ch(M L:Mem)(c i:Nat)(s b:Int):Prop where
 o:L[c]? = some (vA i s b (M.length+(c+1)) (M.length+(c+2)) (M.length+(c+3)))
 p:L[c+2]? = some (.dk [])
 l:L[c+3]? = some (.lst [])
theorem Ch.app{M L X:Mem}{c i:Nat}{s b:Int}(h:Ch M L c i s b):Ch M (L++X) c i s b:=⟨Gr.app _ _ h.o,Gr.app _ _ h.p,Gr.app _ _ h.l⟩
theorem VD{X:Mem}{i:Nat}{s:Int}:Ad [.ref X.length,.int i,.int s] (X++[.ins 9 []])= .ok .non (X++[vA i s 0 (X.length+1) (X.length+2) (X.length+3),.dk [],.dk [],.lst []]):=by
 simp only[Ad,pZ]
 simp[lF,yL,as0,putD,sj,vA]
theorem inD{M:Mem}{n:Nat}{kvs:List (Key×D)}{i:Int}(h:M[n]? = some (.dk kvs)):sIn (.int i) (.ref n) M= .ok (.bl (HJ kvs (.inl i)).isSome) M:=by
 have e:=afI (s:=i) h
 refine vU ?_
 simp only[ZK,e]
 simp
theorem cpG{src:Option (Nat×List D)}{te:ME}{ce:Sl}{X G:Mem}(f:D->D)(hs:∀Y,kZ src (X++Y)):∀(ds ys:List D) (Y:Mem),(∀d∈ds,∀Y,te (some d::ce) (X++Y)= .ok (f d) (X++Y++G))->
  ∃Z,sY src CK te ce ds ys (X++Y)= .ok (.ref (X++Z).length) (X++Z++[.lst (ys++ds.map f)])
 | [],ys,Y,_=>⟨Y,by unfold sY;rw[if_pos (hs Y)];simp⟩
 | d::ds,ys,Y,h=>by
  obtain⟨Z,e⟩:=cpG f hs ds (ys++[f d]) (Y++G) λx hx=>h x (yT _ hx)
  refine⟨Z,?_⟩
  unfold sY
  rw[if_pos (hs Y)]
  show(CK (some d::ce) (X++Y)).bind _=_
  rw[Wx,Out.fc]
  simp only[if_true]
  rw[h d xB Y]
  show(Out.ok (f d) (X++Y++G)).bind _=_
  rw[Out.fc,List.append_assoc,e]
  simp
section
variable{M:Mem}{h:MO}{ps ks:List D}{L:Mem}{A P c i:Nat}{s b:Int}
theorem Ch.at(C:Ch M L c i s b):(Q M A P h ps ks L)[M.length+c]? = some (vA i s b (M.length+(c+1)) (M.length+(c+2)) (M.length+(c+3))):=qn.trans C.o
theorem Ch.having(C:Ch M L c i s b)(hi:i<=1000000)(p:Int):lN [.ref (M.length+c),.int p] (Q M A P h ps ks L)= .ok (.int (2 ^ i:Nat)) (Q M A P h ps ks (L++[.lst [.int i],.lst [],.lst [.int i]])):=by
 have f1:cB [9,11] "me" (.ref (M.length+c)) (Q M A P h ps ks L)= .ok (.int i) (Q M A P h ps ks L):=aQ C.at (by simp) rfl
 obtain⟨L1,hL1⟩:∃L1,L1=L++[MO.lst [D.int (i:Int)]]:=⟨_,rfl⟩
 have C1:Ch M L1 c i s b:=by rw[hL1];exact C.app
 have f2:cB [9] "places" (.ref (M.length+c)) (Q M A P h ps ks L1)= .ok (.ref (M.length+(c+2))) (Q M A P h ps ks L1):=aQ C1.at (by simp) rfl
 have ck:=λg tt te e=>Yn (m:=2) (js:=[1]) (g:=g) (tt:=tt) (te:=te) (e:=e) (M:=Q M A P h ps ks L1) (n:=M.length+(c+2)) (kvs:=[]) (qn.trans C1.p) (λ_=>true) (λd=>d) (by simp)
 obtain⟨L2,hL2⟩:∃L2,L2=L1++[MO.lst []]:=⟨_,rfl⟩
 simp only[List.map_nil,List.filter_nil,ql,qa,<-hL2]at ck
 have l1:L1.length=L.length+1:=by rw[hL1];simp
 have l2:L2.length=L.length+2:=by rw[hL2,hL1];simp
 have x1:(Q M A P h ps ks L2)[M.length+L.length]? = some (.lst [.int (i:Int)]):=by rw[qn,hL2,hL1];simp
 have x2:(Q M A P h ps ks L2)[M.length+L1.length]? = some (.lst []):=by rw[qn,hL2];simp
 have ad:=ac1 x1 x2 (by simp)
 rw[ql,l2,qa,List.append_nil]at ad
 have s1:=ad6 (X:=Q M A P h ps ks (L2++[.lst [.int (i:Int)]])) (l:=M.length+(L.length+2)) (i:=i) (by rw[qn,<-l2];simp) hi
 simp only[lN,iQ]
 simp[f1,ql,qa,<-hL1,f2,ck,ad,s1,-Int.natCast_pow]
 simp[hL2,hL1]
theorem Ch.known(C:Ch M L c i s b)(x:Int):oV [.ref (M.length+c),.int x] (Q M A P h ps ks L)= .ok (.ref (M.length+(L.length+3))) (Q M A P h ps ks (L++[.lst [.int x],.lst [],.lst [.int x],.lst [.int x]])):=by
 obtain⟨L1,hL1⟩:∃L1,L1=L++[MO.lst [D.int x]]:=⟨_,rfl⟩
 have C1:Ch M L1 c i s b:=by rw[hL1];exact C.app
 have f2:cB [9] "places" (.ref (M.length+c)) (Q M A P h ps ks L1)= .ok (.ref (M.length+(c+2))) (Q M A P h ps ks L1):=aQ C1.at (by simp) rfl
 have lv:O5 (.ref (M.length+(c+2))) (Q M A P h ps ks L1)= .ok (.ref (M.length+L1.length)) (Q M A P h ps ks (L1++[.lst []])):=by
  have e:(Q M A P h ps ks L1)[M.length+(c+2)]? = some (.dk []):=qn.trans C1.p
  simp only[O5,e,ql,qa]
  rfl
 obtain⟨L2,hL2⟩:∃L2,L2=L1++[MO.lst []]:=⟨_,rfl⟩
 rw[<-hL2]at lv
 have l1:L1.length=L.length+1:=by rw[hL1];simp
 have l2:L2.length=L.length+2:=by rw[hL2,hL1];simp
 have x1:(Q M A P h ps ks L2)[M.length+L.length]? = some (.lst [.int x]):=by rw[qn,hL2,hL1];simp
 have x2:(Q M A P h ps ks L2)[M.length+L1.length]? = some (.lst []):=by rw[qn,hL2];simp
 have ad:=ac1 x1 x2 (by simp)
 rw[ql,l2,qa,List.append_nil]at ad
 have lr:=afg (M:=Q M A P h ps ks (L2++[.lst [.int x]])) (n:=M.length+(L.length+2)) (i:=x) (by rw[qn,<-l2];simp)
 rw[ql,qa]at lr
 simp only[oV,fZ]
 simp[ql,qa,<-hL1,f2,lv,ad,lr]
 simp[hL2,hL1]
theorem Ch.first(C:Ch M L c i s b)(x:Int):nW [.ref (M.length+c),.int x] (Q M A P h ps ks L)= .ok (.int s) (Q M A P h ps ks L):=by
 have f1:cB [9] "places" (.ref (M.length+c)) (Q M A P h ps ks L)= .ok (.ref (M.length+(c+2))) (Q M A P h ps ks L):=aQ C.at (by simp) rfl
 have f2:cB [9] "start" (.ref (M.length+c)) (Q M A P h ps ks L)= .ok (.int s) (Q M A P h ps ks L):=aQ C.at (by simp) rfl
 have e1:=inD (M:=Q M A P h ps ks L) (i:=x) (qn.trans C.p)
 have e3:HJ ([]:List (Key×D)) (.inl x)=none:=rfl
 rw[e3]at e1
 simp only[nW,fD,rF]
 simp[f1,e1,f2]
theorem Ch.beat(K:Ch M L c i s b):qW [.ref (M.length+c)] (Q M A P h ps ks L)= .ok .non (Q M A P h ps ks (L.set c (vA i s (b+1) (M.length+(c+1)) (M.length+(c+2)) (M.length+(c+3))))):=by
 have e:=K.at (A:=A) (P:=P) (h:=h) (ps:=ps) (ks:=ks)
 unfold vA at e
 simp only[qW,ie]
 simp[cB,lF,e,List.lookup,sj',sj,putD,sn,vA]
theorem Ch.nxt(K:Ch M L c i s b):Ch M (L.set c (vA i s (b+1) (M.length+(c+1)) (M.length+(c+2)) (M.length+(c+3)))) c i s (b+1):=
 ⟨zag (Ef K.o),(zaf ()).trans K.p,(zaf ()).trans K.l⟩
end
theorem acM{es:List D}{x:D}:cut (es++[x]) (some (es.length:Int)) (some ((es.length:Int)+4))=[x]:=by
 have h1:HT.fP (es++[x]).length 0 (some (es.length:Int))=es.length:=by
  simp[HT.fP]
  omega
 have h2:HT.fP (es++[x]).length (es++[x]).length (some ((es.length:Int)+4))=es.length+1:=by
  rw[show((es.length:Int)+4)=((es.length+4:Nat):Int) by omega,HT.abw,List.length_append]
  show min (es.length+4) (es.length+1)=_
  omega
 unfold cut
 rw[h1,h2,List.drop_left,Nat.add_sub_cancel_left]
 rfl
section
variable{M:Mem}{A P i p q c:Nat}{T0 b bt T st dn:Int}{es ps ks:List D}{L:Mem}{s bb:Int}
def gU(M:Mem)(P i A c:Nat)(T st dn:Int):MO:=fU i P T (.int i) (A+1) st dn (A+3) (.int i) (M.length+c)
theorem At.Ue{m:Str}(C:At M A P i T0 b bt p q es)(h:List.lookup m [("me",D.int i),("note",D.fn P),("term",D.int T),("vote",D.int i),("row",D.ref (A+1)),("kept",D.tup [.tup [],.tup []]),("settled",D.int st),("done",D.int dn),("shelf",D.ref (A+3)),("chair",D.int i),("seat",D.ref (M.length+c))]=none):dh 11 m (.ref A) (Q M A P (gU M P i A c T st dn) ps ks L)=true:=cT C.qA h
def NB(i:Nat)(T bb s e st:Int)(xs:List D)(w:D):D:= .tup [.str "tell",.int i,w,.int T,.int bb,.int (s - 1),.int e,.tup xs,.int st]
theorem At.letter(C:At M A P i T0 b bt p q es)(K:Ch M L c i s bb)(hs:s=b+es.length+1)(hk:ks=es++[st1 T])(w:Int):ju [.ref A,.int w] (Q M A P (gU M P i A c T st dn) ps ks L)= .ok (NB i T bb s (eT bt T0 es) st [st1 T] (.int w)) (Q M A P (gU M P i A c T st dn) ps ks (L++[.lst ks,.lst [st1 T]])):=by
 obtain⟨h,hh⟩:∃h,h=gU M P i A c T st dn:=⟨_,rfl⟩
 have fr:∀L,cB [5,11] "row" (.ref A) (Q M A P h ps ks L)= .ok (.ref (A+1)) (Q M A P h ps ks L):=λL=>by rw[hh];exact aQ C.qA (by simp) rfl
 have fs:∀L,cB [11] "seat" (.ref A) (Q M A P h ps ks L)= .ok (.ref (M.length+c)) (Q M A P h ps ks L):=λL=>by rw[hh];exact aQ C.qA (by simp) rfl
 have ft:∀L,cB [5,11] "term" (.ref A) (Q M A P h ps ks L)= .ok (.int T) (Q M A P h ps ks L):=λL=>by rw[hh];exact aQ C.qA (by simp) rfl
 have fm:∀L,cB [9,11] "me" (.ref A) (Q M A P h ps ks L)= .ok (.int i) (Q M A P h ps ks L):=λL=>by rw[hh];exact aQ C.qA (by simp) rfl
 have fx:∀L,cB [11] "settled" (.ref A) (Q M A P h ps ks L)= .ok (.int st) (Q M A P h ps ks L):=λL=>by rw[hh];exact aQ C.qA (by simp) rfl
 have fb:∀L,cB [4] "base" (.ref (A+1)) (Q M A P h ps ks L)= .ok (.int b) (Q M A P h ps ks L):=λL=>aQ C.qr (by simp) rfl
 rw[<-hh]
 have i1:dh 9 "first_to_tell" (.ref (M.length+c)) (Q M A P h ps ks L)=true:=cT K.at rfl
 have e1:=K.first (A:=A) (P:=P) (h:=h) (ps:=ps) (ks:=ks) w
 have n1:¬s<=b:=()
 have c1:s - b - 1=(es.length:Int):=()
 have i2:dh 4 "entries" (.ref (A+1)) (Q M A P h ps ks L)=true:=sX C.qr rfl
 have e2:yQ [.ref (A+1)] (Q M A P h ps ks L)= .ok (.ref (M.length+L.length)) (Q M A P h ps ks (L++[.lst ks])):=by
  have f1:cB [4,5,11] "kept" (.ref (A+1)) (Q M A P h ps ks L)= .ok (.ref (A+2)) (Q M A P h ps ks L):=aQ C.qr (by simp) rfl
  have sl:=Ow (M:=Q M A P h ps ks L) C.qk
  rw[ql,qa]at sl
  simp only[yQ,nO]
  simp[f1,sl]
 have e3:Zy (.ref (M.length+L.length)) (some (es.length:Int)) (some ((es.length:Int)+4)) (Q M A P h ps ks (L++[.lst ks]))= .ok (.ref (M.length+(L.length+1))) (Q M A P h ps ks (L++[.lst ks,.lst [st1 T]])):=by
  rw[abr (ds:=ks) (by rw[qn];simp),ql,qa]
  have:cut ks (some (es.length:Int)) (some ((es.length:Int)+4))=[st1 T]:=by
   rw[hk]
   exact acM (es:=es)
  rw[this]
  simp
 have e4:H_ [.ref (M.length+(L.length+1))] (Q M A P h ps ks (L++[.lst ks,.lst [st1 T]]))= .ok (.tup [st1 T]) (Q M A P h ps ks (L++[.lst ks,.lst [st1 T]])):=UG (by rw[qn];simp)
 obtain⟨L2,hL2⟩:∃L2,L2=L++[MO.lst ks,.lst [st1 T]]:=⟨_,rfl⟩
 rw[<-hL2]at e3 e4 ⊢
 have i3:dh 4 "term_at" (.ref (A+1)) (Q M A P h ps ks L2)=true:=sX C.qr rfl
 have e5:iH [.ref (A+1),.int (s - 1)] (Q M A P h ps ks L2)= .ok (.int (eT bt T0 es)) (Q M A P h ps ks L2):=by
  unfold eT
  by_cases e:es=[]
  ·rw[if_pos e]
   have e0:s - 1=b:=by rw[hs,e];simp
   rw[e0]
   exact Zd C.qr
  ·rw[if_neg e]
   have hl:0<es.length:=by
    cases es with
    | nil=>exact absurd rfl e
    | cons _ _=>simp
   exact Us C.qr C.qk (j:=es.length - 1) (by rw[hk,zac ()];exact C.hs _ ()) ()
 have K2:Ch M L2 c i s bb:=by rw[hL2];exact K.app
 have f3:cB [9] "beat" (.ref (M.length+c)) (Q M A P h ps ks L2)= .ok (.int bb) (Q M A P h ps ks L2):=aQ K2.at (by simp) rfl
 simp only[ju,jw,xq]
 have ad:∀X,qm (.tup [.str "tell",.int i,.int w,.int T,.int bb]) (.tup [.int (s - 1),.int (eT bt T0 es),.tup [st1 T],.int st]) X= .ok (NB i T bb s (eT bt T0 es) st [st1 T] (.int w)) X:=λX=>by
  refine(Ln rfl).trans ((Ln rfl).trans ?_)
  simp only[We]
  rw[if_pos ⟨rfl,by rw[Dq];simp⟩]
  rfl
 simp[fr,fs,i1,e1,fb,n1,c1,i2,e2,e3,e4,i3,e5,fx,fm,ft,f3,ad]
end
def iT(T b:Int):D:= .tup [.str "beat",.int T,.int b]
section
variable{M:Mem}{A P i p q c:Nat}{T0 b bt T st dn:Int}{es ps ks:List D}{L:Mem}{s bb:Int}
theorem At.arR(C:At M A P i T0 b bt p q es)(K:Ch M L c i s bb){p' q':Nat}(hp:p'<2 ^ 60)(hq:q'<2 ^ 60)(rl:∀h ps L,cj [.ref (A+1)] (Q M A P h ps ks L)= .ok (.tup [.int p',.int q']) (Q M A P h ps ks L))(hl:ps.length<50)(f:D->D)(G:Mem)
  (hf:∀d∈BX (p' ||| q') i,∀L,Ch M L c i s (bb+1)->ju [.ref A,d] (Q M A P (gU M P i A c T st dn) (ps++[iT T (bb+1)]) ks L)= .ok (f d) (Q M A P (gU M P i A c T st dn) (ps++[iT T (bb+1)]) ks (L++G))):
  ∃L' n,nu [.ref A] (Q M A P (gU M P i A c T st dn) ps ks L)= .ok (.ref (M.length+n)) (Q M A P (gU M P i A c T st dn) (ps++[iT T (bb+1)]) ks L')/\L'[n]? = some (.lst ((BX (p' ||| q') i).map f))/\Ch M L' c i s (bb+1)/\∀(j:Nat) (o:MO),c≠j->L[j]? = some o->L'[j]? = some o:=by
 have f1:∀L ps,cB [11] "seat" (.ref A) (Q M A P (gU M P i A c T st dn) ps ks L)= .ok (.ref (M.length+c)) (Q M A P (gU M P i A c T st dn) ps ks L):=λL ps=>aQ C.qA (by simp) rfl
 have f2:∀L ps,cB [5,11] "term" (.ref A) (Q M A P (gU M P i A c T st dn) ps ks L)= .ok (.int T) (Q M A P (gU M P i A c T st dn) ps ks L):=λL ps=>aQ C.qA (by simp) rfl
 have i1:dh 9 "begin_beat" (.ref (M.length+c)) (Q M A P (gU M P i A c T st dn) ps ks L)=true:=cT K.at rfl
 have e1:=K.beat (A:=A) (P:=P) (h:=gU M P i A c T st dn) (ps:=ps) (ks:=ks)
 have K1:=K.nxt
 obtain⟨L1,hL1⟩:∃L1,L1=L.set c (vA i s (bb+1) (M.length+(c+1)) (M.length+(c+2)) (M.length+(c+3))):=⟨_,rfl⟩
 rw[<-hL1]at e1 K1
 have f3:cB [9] "beat" (.ref (M.length+c)) (Q M A P (gU M P i A c T st dn) ps ks L1)= .ok (.int (bb+1)) _:=aQ K1.at (by simp) rfl
 have i2:=C.Ue (m:= "tell_paper") (T:=T) (st:=st) (dn:=dn) (c:=c) (ps:=ps) (ks:=ks) (L:=L1) rfl
 obtain⟨p1,hp1⟩:∃p1,p1=ps++[iT T (bb+1)]:=⟨_,rfl⟩
 have e2:bF [.ref A,iT T (bb+1)] (Q M A P (gU M P i A c T st dn) ps ks L1)= .ok .non (Q M A P (gU M P i A c T st dn) (ps++[iT T (bb+1)]) ks L1):=
  C.paper (tt:=T) (v:= .int i) (st:=st) (dn:=dn) (ch:= .int i) (seat:=M.length+c) (ps:=ps) (ks:=ks) (L:=L1) (iT T (bb+1)) ()
 rw[<-hp1]at e2 hf ⊢
 have i3:=C.Ue (m:= "others") (T:=T) (st:=st) (dn:=dn) (c:=c) (ps:=p1) (ks:=ks) (L:=L1) rfl
 have e3:iI [.ref A] (Q M A P (gU M P i A c T st dn) p1 ks L1)= .ok (.ref (M.length+(L1.length+1))) (Q M A P (gU M P i A c T st dn) p1 ks (L1++[.lst (hv (HM.aN (p' ||| q'))),.lst (BX (p' ||| q') i)])):=
  C.others (v:= .int i) (st:=st) (dn:=dn) (ch:= .int i) (seat:=M.length+c) (ps:=p1) (ks:=ks) (L:=L1) (tt:=T) hp hq (rl _ _ _)
 obtain⟨L2,hL2⟩:∃L2,L2=L1++[MO.lst (hv (HM.aN (p' ||| q'))),.lst (BX (p' ||| q') i)]:=⟨_,rfl⟩
 rw[<-hL2]at e3
 have K2:Ch M L2 c i s (bb+1):=by rw[hL2];exact K1.app
 obtain⟨X,hX⟩:∃X,X=Q M A P (gU M P i A c T st dn) p1 ks L2:=⟨_,rfl⟩
 have x2:∀Y,(X++Y)[M.length+(L1.length+1)]? = some (.lst (BX (p' ||| q') i)):=λY=>by rw[hX,qa,qn];exact Gr.app _ _ (by rw[hL2];simp)
 obtain⟨Z,cp⟩:=cpG (src:=some (M.length+(L1.length+1),BX (p' ||| q') i)) (te:=aV 11 "letter_to" ju 2 [] (au 1) (aq (au 0) aH)) (ce:=[some (.ref A)]) (X:=X) (G:=G) f (λY=>b8 (x2 Y)) (BX (p' ||| q') i) [] [] λd hd Y=>by
  have e:=hf d hd (L2++Y) K2.app
  have i4:=C.Ue (m:= "letter_to") (T:=T) (st:=st) (dn:=dn) (c:=c) (ps:=p1) (ks:=ks) (L:=L2++Y) rfl
  rw[hX,qa,qa]
  simp[i4,e]
 have x3:=x2 []
 rw[List.append_nil]at cp x3
 have xl:(X++Z).length=M.length+(L2++Z).length:=by rw[hX,qa,ql]
 have xz:X++Z++[.lst ((BX (p' ||| q') i).map f)]=Q M A P (gU M P i A c T st dn) p1 ks (L2++Z++[.lst ((BX (p' ||| q') i).map f)]):=by rw[hX,qa,qa]
 rw[List.nil_append,xl,xz]at cp
 rw[<-hX]at e3
 refine⟨L2++Z++[.lst ((BX (p' ||| q') i).map f)],(L2++Z).length,?_,yL.trans rfl,K2.app.app,λj o hj e=>Gr.app _ _ (Gr.app _ _ (by rw[hL2];exact Gr.app _ _ (by rw[hL1,zaf hj];exact e)))⟩
 have es':iT T (bb+1)= .tup [.str "beat",.int T,.int (bb+1)]:=rfl
 simp only[nu,iW]
 simp[f1,i1,e1,f2,f3,i2,<-es',e2,i3,e3,qt x3,rO,cp]
theorem At.put(C:At M A P i T0 b bt p q es){h:MO}(e:D)(hl:ks.length<1000):zK [.ref (A+1),e] (Q M A P h ps ks L)= .ok (.int (b+ks.length+1)) (Q M A P h ps (ks++[e]) L):=by
 have f1:cB [4,5,11] "kept" (.ref (A+1)) (Q M A P h ps ks L)= .ok (.ref (A+2)) (Q M A P h ps ks L):=aQ C.qr (by simp) rfl
 have ap:mR (.ref (A+2)) [e] (Q M A P h ps ks L)= .ok .non (Q M A P h ps (ks++[e]) L):=by
  rw[xR C.qk (),C.sk]
 have i1:dh 4 "last" (.ref (A+1)) (Q M A P h ps (ks++[e]) L)=true:=sX C.qr rfl
 have la:=Ae (X:=Q M A P h ps (ks++[e]) L) C.qr C.qk
 have ty:Ud "list" (.ref (A+2)) (Q M A P h ps ks L)=true:=FN C.qk
 have hl':b+(ks++[e]).length=b+ks.length+1:=by rw[List.length_append];simp;omega
 rw[hl']at la
 simp only[zK,ud]
 simp[f1,ty,ap,i1,la]
end
theorem fgr{src:Option (Nat×List D)}{g:Tg}{b:MS}{d x:D}{ds:List D}{e e1:Sl}{M M2:Mem}(hs:kZ src M)(h1:g d e=some e1)(h2:b e1 M= .ret x M2):iM src g b (d::ds) e M= .ret x M2:=by
 rw[iM,if_pos hs,h1]
 simp only[h2]
theorem fgn{src:Option (Nat×List D)}{g:Tg}{b:MS}{d:D}{ds:List D}{e e1 e2:Sl}{M M2:Mem}{R:rQ}(hs:kZ src M)(h1:g d e=some e1)(h2:b e1 M= .next e2 M2)(k:iM src g b ds e2 M2=R):iM src g b (d::ds) e M=R:=by
 rw[iM,if_pos hs,h1]
 simp only[h2]
 exact k
theorem fg0{src:Option (Nat×List D)}{g:Tg}{b:MS}{e:Sl}{M:Mem}(hs:kZ src M):iM src g b [] e M= .next e M:=by rw[iM,if_pos hs]
section
variable{M:Mem}{A P i p q c:Nat}{T0 b bt T st dn:Int}{es ps ks:List D}{L:Mem}{s bb:Int}
theorem At.won(C:At M A P i T0 b bt p q es)(K:Ch M L c i s bb){p' q':Nat}(hp:p'<2 ^ 60)(hq:q'<2 ^ 60)(rl:∀h ps L,cj [.ref (A+1)] (Q M A P h ps ks L)= .ok (.tup [.int p',.int q']) (Q M A P h ps ks L)):
  ∃X,pB [.ref A] (Q M A P (gU M P i A c T st dn) ps ks L)= .ok (.int (if p8 (2 ^ i) p' q'=true then b+ks.length else st)) (Q M A P (gU M P i A c T st dn) ps ks (L++X)):=by
 obtain⟨h,hh⟩:∃h,h=gU M P i A c T st dn:=⟨_,rfl⟩
 have fr:∀L,cB [5,11] "row" (.ref A) (Q M A P h ps ks L)= .ok (.ref (A+1)) (Q M A P h ps ks L):=λL=>by rw[hh];exact aQ C.qA (by simp) rfl
 have fs:∀L,cB [11] "seat" (.ref A) (Q M A P h ps ks L)= .ok (.ref (M.length+c)) (Q M A P h ps ks L):=λL=>by rw[hh];exact aQ C.qA (by simp) rfl
 have fx:∀L,cB [11] "settled" (.ref A) (Q M A P h ps ks L)= .ok (.int st) (Q M A P h ps ks L):=λL=>by rw[hh];exact aQ C.qA (by simp) rfl
 rw[<-hh]
 have i1:dh 4 "roll" (.ref (A+1)) (Q M A P h ps ks L)=true:=sX C.qr rfl
 have i2:dh 4 "last" (.ref (A+1)) (Q M A P h ps ks L)=true:=sX C.qr rfl
 have r0:=rl h ps L
 have la:=Ae (X:=Q M A P h ps ks L) C.qr C.qk
 obtain⟨x,hx⟩:∃x,x=b+(ks.length:Int):=⟨_,rfl⟩
 rw[<-hx]at la ⊢
 have kn:=K.known (A:=A) (P:=P) (h:=h) (ps:=ps) (ks:=ks) x
 have i3:dh 9 "places_known" (.ref (M.length+c)) (Q M A P h ps ks L)=true:=cT K.at rfl
 obtain⟨L4,hL4⟩:∃L4,L4=L++[MO.lst [.int x],.lst [],.lst [.int x],.lst [.int x]]:=⟨_,rfl⟩
 rw[<-hL4]at kn
 have K4:Ch M L4 c i s bb:=by rw[hL4];exact K.app
 have x4:L4[L.length+3]? = some (.lst [.int x]):=by rw[hL4];simp
 have x4':(Q M A P h ps ks L4)[M.length+(L.length+3)]? = some (.lst [.int x]):=qn.trans x4
 have hv1:=K4.having (A:=A) (P:=P) (h:=h) (ps:=ps) (ks:=ks) C.i20 x
 have i4:dh 9 "having" (.ref (M.length+c)) (Q M A P h ps ks L4)=true:=cT K4.at rfl
 obtain⟨L5,hL5⟩:∃L5,L5=L4++[MO.lst [.int (i:Int)],.lst [],.lst [.int (i:Int)]]:=⟨_,rfl⟩
 rw[<-hL5]at hv1
 obtain⟨Y,wx⟩:=YZ (X:=Q M A P h ps ks L5) (2 ^ i) p' q' hp hq
 rw[qa]at wx
 have eX:L5++Y=L++([MO.lst [.int x],.lst [],.lst [.int x],.lst [.int x]]++[.lst [.int (i:Int)],.lst [],.lst [.int (i:Int)]]++Y):=by rw[hL5,hL4];simp
 obtain⟨X,hX⟩:∃X,L5++Y=L++X:=⟨_,eX⟩
 refine⟨X,?_⟩
 rw[<-hX]
 cases z:p8 (2 ^ i) p' q' with
 | true=>
  rw[z]at wx
  have et:fV [some (.ref A),some (.tup [.int p',.int q']),some (.int x)] (Q M A P h ps ks L4)= .ret (.int x) (Q M A P h ps ks (L5++Y)):=by
   simp only[fV,qY]
   simp[fs,i4,hv1,-Int.natCast_pow,wx]
  have ef:iM (some (M.length+(L.length+3),[.int x])) (gN 2) fV [.int x] [some (.ref A),some (.tup [.int p',.int q']),none] (Q M A P h ps ks L4)=_:=fgr (b8 x4') rfl et
  simp only[pB,g_,qZ]
  simp[fr,i1,r0,fs,i2,la,i3,kn,qt x4',ef]
 | false=>
  rw[z]at wx
  have et:fV [some (.ref A),some (.tup [.int p',.int q']),some (.int x)] (Q M A P h ps ks L4)= .next [some (.ref A),some (.tup [.int p',.int q']),some (.int x)] (Q M A P h ps ks (L5++Y)):=by
   simp only[fV,qY]
   simp[fs,i4,hv1,-Int.natCast_pow,wx]
  have x5:(Q M A P h ps ks (L5++Y))[M.length+(L.length+3)]? = some (.lst [.int x]):=qn.trans (Gr.app _ _ (by rw[hL5];exact Gr.app _ _ x4))
  have ef:iM (some (M.length+(L.length+3),[.int x])) (gN 2) fV [.int x] [some (.ref A),some (.tup [.int p',.int q']),none] (Q M A P h ps ks L4)=_:=fgn (b8 x4') rfl et (fg0 (b8 x5))
  simp only[pB,g_,qZ]
  simp[fr,i1,r0,fs,i2,la,i3,kn,qt x4',ef,fx]
theorem Xm{x:Int}{n:Nat}(h:0<n):∃ds,Su x n= .int x::ds:=by
 unfold Su
 obtain⟨m,rfl⟩:∃m,n=m+1:=⟨n - 1,()⟩
 rw[List.range_succ_eq_map]
 exact⟨_,by simp;rfl⟩
theorem At.ac9(C:At M A P i T0 b bt p q es)(K:Ch M L c i s bb){p' q':Nat}(hp:p'<2 ^ 60)(hq:q'<2 ^ 60)(rl:∀h ps L,cj [.ref (A+1)] (Q M A P h ps ks L)= .ok (.tup [.int p',.int q']) (Q M A P h ps ks L)){w:D}(hk:ks[ks.length - 1]? = some (.tup [.int T,w]))(hs:b<=st/\st<b+ks.length)(kl:ks.length<=10):
  ∃X,e_ [.ref A] (Q M A P (gU M P i A c T st dn) ps ks L)= .ok (if p8 (2 ^ i) p' q'=true then .int (b+ks.length)else .non) (Q M A P (gU M P i A c T st dn) ps ks (L++X)):=by
 obtain⟨X,e⟩:=C.won (T:=T) (st:=st) (dn:=dn) (ps:=ps) K hp hq rl
 have i1:=C.Ue (m:= "place_won") (T:=T) (st:=st) (dn:=dn) (c:=c) (ps:=ps) (ks:=ks) (L:=L) rfl
 obtain⟨h,hh⟩:∃h,h=gU M P i A c T st dn:=⟨_,rfl⟩
 obtain⟨L1,hL1⟩:∃L1,L1=L++X:=⟨_,rfl⟩
 have f1:cB [11] "settled" (.ref A) (Q M A P h ps ks L1)= .ok (.int st) (Q M A P h ps ks L1):=by rw[hh];exact aQ C.qA (by simp) rfl
 have f2:cB [5,11] "row" (.ref A) (Q M A P h ps ks L1)= .ok (.ref (A+1)) (Q M A P h ps ks L1):=by rw[hh];exact aQ C.qA (by simp) rfl
 have f3:cB [5,11] "term" (.ref A) (Q M A P h ps ks L1)= .ok (.int T) (Q M A P h ps ks L1):=by rw[hh];exact aQ C.qA (by simp) rfl
 rw[<-hh,<-hL1]at e
 rw[<-hh]at i1
 refine⟨X,?_⟩
 rw[<-hh,<-hL1]
 have hb0:=C.b0
 have hb1:=C.b1
 have i2:dh 4 "term_at" (.ref (A+1)) (Q M A P h ps ks L1)=true:=sX C.qr rfl
 cases z:p8 (2 ^ i) p' q' with
 | true=>
  simp only[z,if_true]at e
  obtain⟨x,hx⟩:∃x,x=b+(ks.length:Int):=⟨_,rfl⟩
  rw[<-hx]at e hs ⊢
  have tm:=Us (X:=Q M A P h ps ks L1) C.qr C.qk (j:=ks.length - 1) (p:=x) hk ()
  obtain⟨ds,hds⟩:=Xm (x:=x) (n:=(x - st).toNat) ()
  have rg:Sv [.int x,.int st,.int (-1)] (Q M A P h ps ks L1)= .ok ⟨none,.int x::ds⟩ (Q M A P h ps ks L1):=by
   simp only[Sv]
   rw[if_pos ⟨trivial,(),(),(),(),()⟩,hds]
  have et:fG [some (.ref A),some (.int x)] (Q M A P h ps ks L1)= .ret (.int x) (Q M A P h ps ks L1):=by
   simp only[fG,qx]
   simp[f2,i2,tm,f3]
  have ef:iM none (gN 1) fG (.int x::ds) [some (.ref A),none] (Q M A P h ps ks L1)=_:=fgr trivial rfl et
  simp only[e_,cD,kE]
  simp[i1,e,f1,rg,ef]
 | false=>
  simp only[z,Bool.false_eq_true,if_false]at e
  have rg:Sv [.int st,.int st,.int (-1)] (Q M A P h ps ks L1)= .ok ⟨none,[]⟩ (Q M A P h ps ks L1):=by
   simp only[Sv]
   rw[if_pos ⟨trivial,(),(),(),(),()⟩,Int.sub_self]
   rfl
  have ef:iM none (gN 1) fG [] [some (.ref A),none] (Q M A P h ps ks L1)=_:=fg0 trivial
  simp only[e_,cD,kE]
  simp[i1,e,f1,rg,ef]
end
def T6(ks:List D):Prop:=∀j,j<ks.length->∃(t:Int) (w:Str) (l:List D),ks[j]? = some (.tup [.int t,.tup (.str w::l)])/\w≠ "ask"
theorem ZW{lo:Int}{n:Nat}:zR lo (n+1)= .int lo::zR (lo+1) n:=by
 unfold zR
 rw[List.range_succ_eq_map,List.map_cons,List.map_map]
 congr 1
 ·simp
 ·refine List.map_congr_left λk _=> ?_
  simp
  omega
section
variable{M:Mem}{A P i p q c:Nat}{T0 b bt T st dn:Int}{es ps ks:List D}{L:Mem}{s bb:Int}
theorem At.Tu(C:At M A P i T0 b bt p q es)(hn:T6 ks):∀(n:Nat) {dn:Int} {v1 v2:Option D},b<=dn->dn+n=st->st<=b+ks.length->
  ∃v1' v2',iM none (gN 1) lq (zR (dn+1) n) [some (.ref A),v1,v2] (Q M A P (gU M P i A c T st dn) ps ks L)= .next [some (.ref A),v1',v2'] (Q M A P (gU M P i A c T st st) ps ks L)
 | 0,dn,v1,v2,h0,h1,h2=>by
  obtain rfl:dn=st:=()
  exact⟨v1,v2,fg0 trivial⟩
 | n+1,dn,v1,v2,h0,h1,h2=>by
  obtain⟨t,w,l,he,hw⟩:=hn (dn - b).toNat ()
  obtain⟨v1',v2',ih⟩:=At.Tu C hn n (dn:=dn+1) (v1:=some (.int (dn+1))) (v2:=some (.tup (.str w::l))) () () h2
  refine⟨v1',v2',?_⟩
  obtain⟨h,hh⟩:∃h,h=gU M P i A c T st dn:=⟨_,rfl⟩
  have en:=Ho (X:=Q M A P h ps ks L) C.qr C.qk (p:=dn+1) he ()
  have f2:cB [5,11] "row" (.ref A) (Q M A P h ps ks L)= .ok (.ref (A+1)) (Q M A P h ps ks L):=by rw[hh];exact aQ C.qA (by simp) rfl
  have p1:lF [11] "done" (.int (dn+1)) (.ref A) (Q M A P h ps ks L)=some (Q M A P (gU M P i A c T st (dn+1)) ps ks L):=by
   rw[hh]
   simp[lF,C.qA,C.sA,fU,gU,putD,sj]
  have i2:dh 4 "entry_at" (.ref (A+1)) (Q M A P h ps ks L)=true:=sX C.qr rfl
  rw[<-hh]
  have et:lq [some (.ref A),some (.int (dn+1)),v2] (Q M A P h ps ks L)= .next [some (.ref A),some (.int (dn+1)),some (.tup (.str w::l))] (Q M A P (gU M P i A c T st (dn+1)) ps ks L):=by
   have sx:∀X,fP (.tup (.str w::l)) (.int 0) X= .ok (.str w) X:=λX=>zZ () rfl
   simp only[lq,vK]
   simp[f2,i2,en,sx,hw,p1]
  rw[ZW]
  exact fgn trivial rfl et ih
theorem At.dos(C:At M A P i T0 b bt p q es)(hn:T6 ks)(h0:b<=dn)(h1:dn<=st)(h2:st<=b+ks.length)(kl:ks.length<=10):j0 [.ref A] (Q M A P (gU M P i A c T st dn) ps ks L)= .ok .non (Q M A P (gU M P i A c T st st) ps ks L):=by
 obtain⟨v1,v2,e⟩:=C.Tu (st:=st) (T:=T) (c:=c) (ps:=ps) (L:=L) hn (st - dn).toNat (dn:=dn) (v1:=none) (v2:=none) h0 () h2
 have f1:cB [11] "settled" (.ref A) (Q M A P (gU M P i A c T st dn) ps ks L)= .ok (.int st) _:=aQ C.qA (by simp) rfl
 have f3:cB [11] "done" (.ref A) (Q M A P (gU M P i A c T st dn) ps ks L)= .ok (.int dn) _:=aQ C.qA (by simp) rfl
 have hb0:=C.b0
 have hb1:=C.b1
 have rg:Xn [.int (dn+1),.int (st+1)] (Q M A P (gU M P i A c T st dn) ps ks L)= .ok ⟨none,zR (dn+1) (st - dn).toNat⟩ (Q M A P (gU M P i A c T st dn) ps ks L):=by
  simp only[Xn]
  rw[if_pos ⟨(),(),(),(),()⟩,show st+1 - (dn+1)=st - dn by omega]
 simp only[j0,gC,vO]
 simp[f1,f3,rg,e]
theorem At.looks(C:At M A P i T0 b bt p q es)(K:Ch M L c i s bb):i_ [.ref A] (Q M A P (gU M P i A c T st dn) ps ks L)= .ok .non (Q M A P (gU M P i A c T st dn) ps ks L):=by
 obtain⟨h,hh⟩:∃h,h=gU M P i A c T st dn:=⟨_,rfl⟩
 have f1:cB [11] "seat" (.ref A) (Q M A P h ps ks L)= .ok (.ref (M.length+c)) (Q M A P h ps ks L):=by rw[hh];exact aQ C.qA (by simp) rfl
 have f2:cB [9] "looks" (.ref (M.length+c)) (Q M A P h ps ks L)= .ok (.ref (M.length+(c+3))) (Q M A P h ps ks L):=aQ K.at (by simp) rfl
 rw[<-hh]
 have ln:=rW (M:=Q M A P h ps ks L) (qn.trans K.l)
 have e:Kw jH tu 1 [some (.ref A),some (.ref (M.length+(c+3)))] (Q M A P h ps ks L)= .next [some (.ref A),some (.ref (M.length+(c+3)))] (Q M A P h ps ks L):=by
  have ec:jH [some (.ref A),some (.ref (M.length+(c+3)))] (Q M A P h ps ks L)= .ok false (Q M A P h ps ks L):=by
   simp only[jH]
   simp[ln]
  rw[Kw,ec]
 have ew:=HY e (λz=>nomatch z)
 simp only[i_,fB,sZ]
 simp[f1,f2,ew]
noncomputable def xN(i:Nat)(T x:Int):D:= .tup [.str "settle",.int T,.int x,.int (2 ^ i:Nat)]
def gI(lv:Fn):MS:=tV (bA (aM Ia (au 2) (mC .non))) (aP (d_ [11] (au 0) (au 2) "settled")
 (aP (jz (aV 11 "tell_paper" bF 2 [] (au 0) (aq (fQ (aq (mC (.str "settle")) (aq (aX [5,11] (au 0) "term") (aq (au 2) (aq (aV 9 "having" lN 2 [] (aX [11] (au 0) "seat") (aq (au 2) aH)) aH))))) aH)))
 (aP (jz (aV 11 "do_settled" j0 1 [] (au 0) aH))
 (cU (aV 11 "leave_double_roll" lv 1 [] (au 0) aH) (gN 1))))) cQ
def gS(lv:Fn):Fn:=aY 3 (aP (cU (rN aH) (gN 1))
 (aP (cU (aV 11 "place_to_settle" e_ 1 [] (au 0) aH) (gN 2))
 (aP (gI lv)
 (aP (jz (aV 11 "answer_looks" i_ 1 [] (au 0) aH))
 (cH (au 1))))))
theorem afy:nJ=gS bL:=rfl
theorem awG:qJ=gS dX:=rfl
theorem At.ahs(C:At M A P i T0 b bt p q es)(K:Ch M L c i s bb){p' q':Nat}(hp:p'<2 ^ 60)(hq:q'<2 ^ 60)(rl:∀h ps L,cj [.ref (A+1)] (Q M A P h ps ks L)= .ok (.tup [.int p',.int q']) (Q M A P h ps ks L)){w:D}(hk:ks[ks.length - 1]? = some (.tup [.int T,w]))(hs:b<=st/\st<b+ks.length)(kl:ks.length<=10)(hw:p8 (2 ^ i) p' q'=false)(lv:Fn):
  ∃X,gS lv [.ref A] (Q M A P (gU M P i A c T st dn) ps ks L)= .ok (.ref (M.length+L.length)) (Q M A P (gU M P i A c T st dn) ps ks (L++[.lst []]++X)):=by
 obtain⟨X,e1⟩:=C.ac9 (T:=T) (st:=st) (dn:=dn) (ps:=ps) (K.app (X:=[.lst []])) hp hq rl hk hs kl
 rw[hw]at e1
 simp only[Bool.false_eq_true,if_false]at e1
 have i1:=C.Ue (m:= "place_to_settle") (T:=T) (st:=st) (dn:=dn) (c:=c) (ps:=ps) (ks:=ks) (L:=L++[.lst []]) rfl
 have i6:=C.Ue (m:= "answer_looks") (T:=T) (st:=st) (dn:=dn) (c:=c) (ps:=ps) (ks:=ks) (L:=L++[.lst []]++X) rfl
 have e6:=C.looks (T:=T) (st:=st) (dn:=dn) (ps:=ps) (ks:=ks) ((K.app (X:=[.lst []])).app (X:=X))
 obtain⟨L1,hL1⟩:∃L1,L1=L++[MO.lst []]:=⟨_,rfl⟩
 rw[<-hL1]at e1 i1 i6 e6
 obtain⟨L2,hL2⟩:∃L2,L2=L1++X:=⟨_,rfl⟩
 rw[<-hL2]at e1 i6 e6
 refine⟨X,?_⟩
 rw[<-hL1,<-hL2]
 simp only[gS,gI]
 simp[ql,qa,<-hL1,i1,e1,i6,e6]
theorem At.Ux(C:At M A P i T0 b bt p q es)(K:Ch M L c i s bb){p' q':Nat}(hp:p'<2 ^ 60)(hq:q'<2 ^ 60)(rl:∀h ps L,cj [.ref (A+1)] (Q M A P h ps ks L)= .ok (.tup [.int p',.int q']) (Q M A P h ps ks L)){w:D}(hk:ks[ks.length - 1]? = some (.tup [.int T,w]))(hs:b<=st/\st<b+ks.length)(hd:b<=dn/\dn<=st)(kl:ks.length<=10)(hn:T6 ks)(hw:p8 (2 ^ i) p' q'=true)(hl:ps.length<50)(lv:Fn)
  {ps' ks':List D} {x' bb':Int} (hlv:∀L2,Ch M L2 c i s bb->∃L3 n,lv [.ref A] (Q M A P (gU M P i A c T (b+ks.length) (b+ks.length)) (ps++[xN i T (b+ks.length)]) ks L2)= .ok (.ref (M.length+n)) (Q M A P (gU M P i A c T x' x') ps' ks' L3)/\L3[n]? = some (.lst [])/\Ch M L3 c i s bb'/\∀(j:Nat) (o:MO),c≠j->L2[j]? = some o->L3[j]? = some o):
  ∃L3 n,gS lv [.ref A] (Q M A P (gU M P i A c T st dn) ps ks L)= .ok (.ref (M.length+n)) (Q M A P (gU M P i A c T x' x') ps' ks' L3)/\L3[n]? = some (.lst [])/\Ch M L3 c i s bb'/\∀(j:Nat) (o:MO),c≠j->L[j]? = some o->L3[j]? = some o:=by
 obtain⟨x,hx⟩:∃x,x=b+(ks.length:Int):=⟨_,rfl⟩
 obtain⟨L0,hL0⟩:∃L0,L0=L++[MO.lst []]:=⟨_,rfl⟩
 have K0:Ch M L0 c i s bb:=by rw[hL0];exact K.app
 obtain⟨X,e1⟩:=C.ac9 (T:=T) (st:=st) (dn:=dn) (ps:=ps) K0 hp hq rl hk hs kl
 rw[hw]at e1
 simp only[if_true]at e1
 rw[<-hx]at e1 hlv hs
 have i1:=C.Ue (m:= "place_to_settle") (T:=T) (st:=st) (dn:=dn) (c:=c) (ps:=ps) (ks:=ks) (L:=L0) rfl
 obtain⟨L1,hL1⟩:∃L1,L1=L0++X:=⟨_,rfl⟩
 rw[<-hL1]at e1
 have K1:Ch M L1 c i s bb:=by rw[hL1];exact K0.app
 have p1:lF [11] "settled" (.int x) (.ref A) (Q M A P (gU M P i A c T st dn) ps ks L1)=some (Q M A P (gU M P i A c T x dn) ps ks L1):=by
  simp[lF,C.qA,C.sA,fU,gU,putD,sj]
 have f1:cB [5,11] "term" (.ref A) (Q M A P (gU M P i A c T x dn) ps ks L1)= .ok (.int T) _:=aQ C.qA (by simp) rfl
 have f2:cB [11] "seat" (.ref A) (Q M A P (gU M P i A c T x dn) ps ks L1)= .ok (.ref (M.length+c)) _:=aQ C.qA (by simp) rfl
 have i2:dh 9 "having" (.ref (M.length+c)) (Q M A P (gU M P i A c T x dn) ps ks L1)=true:=cT K1.at rfl
 have hv1:=K1.having (A:=A) (P:=P) (h:=gU M P i A c T x dn) (ps:=ps) (ks:=ks) C.i20 x
 obtain⟨L2,hL2⟩:∃L2,L2=L1++[MO.lst [.int (i:Int)],.lst [],.lst [.int (i:Int)]]:=⟨_,rfl⟩
 rw[<-hL2]at hv1
 have K2:Ch M L2 c i s bb:=by rw[hL2];exact K1.app
 have i3:=C.Ue (m:= "tell_paper") (T:=T) (st:=x) (dn:=dn) (c:=c) (ps:=ps) (ks:=ks) (L:=L1) rfl
 have e3:bF [.ref A,xN i T x] (Q M A P (gU M P i A c T x dn) ps ks L2)= .ok .non (Q M A P (gU M P i A c T x dn) (ps++[xN i T x]) ks L2):=
  C.paper (tt:=T) (v:= .int i) (st:=x) (dn:=dn) (ch:= .int i) (seat:=M.length+c) (ps:=ps) (ks:=ks) (L:=L2) (xN i T x) ()
 have i4:=C.Ue (m:= "do_settled") (T:=T) (st:=x) (dn:=dn) (c:=c) (ps:=ps++[xN i T x]) (ks:=ks) (L:=L2) rfl
 have e4:=C.dos (T:=T) (st:=x) (dn:=dn) (c:=c) (ps:=ps++[xN i T x]) (L:=L2) hn hd.1 () () kl
 have i5:=C.Ue (m:= "leave_double_roll") (T:=T) (st:=x) (dn:=x) (c:=c) (ps:=ps++[xN i T x]) (ks:=ks) (L:=L2) rfl
 obtain⟨L3,n,e5,x5,K3,k3⟩:=hlv L2 K2
 have i6:=C.Ue (m:= "answer_looks") (T:=T) (st:=x') (dn:=x') (c:=c) (ps:=ps') (ks:=ks') (L:=L3) rfl
 have e6:=C.looks (T:=T) (st:=x') (dn:=x') (ps:=ps') (ks:=ks') K3
 have e7:gI lv [some (.ref A),some (.ref (M.length+L.length)),some (.int x)] (Q M A P (gU M P i A c T st dn) ps ks L1)= .next [some (.ref A),some (.ref (M.length+n)),some (.int x)] (Q M A P (gU M P i A c T x' x') ps' ks' L3):=by
  have es':xN i T x= .tup [.str "settle",.int T,.int x,.int ((2 ^ i:Nat):Int)]:=rfl
  simp only[gI]
  simp[p1,f1,f2,i2,hv1,i3,-Int.natCast_pow,<-es',e3,i4,e4,i5,e5]
 refine⟨L3,n,?_,x5,K3,λj o hj e=>k3 j o hj (by rw[hL2,hL1,hL0];exact Gr.app _ _ (Gr.app _ _ (Gr.app _ _ e)))⟩
 simp only[gS]
 simp[ql,qa,<-hL0,i1,e1,e7,i6,e6]
end
noncomputable def BW(T x:Int)(w:D):D:= .tup [.str "write",.int T,.int x,w]
def gP(se:Fn):Fn:=aY 4 (aP (cU (aV 4 "put" zK 2 [] (aX [5,11] (au 0) "row") (aq (fQ (aq (aX [5,11] (au 0) "term") (aq (au 1) aH))) aH)) (gN 2))
 (aP (jz (aV 11 "tell_paper" bF 2 [] (au 0) (aq (fQ (aq (mC (.str "write")) (aq (aX [5,11] (au 0) "term") (aq (au 2) (aq (au 1) aH))))) aH)))
 (aP (cU (aV 11 "tell_all" nu 1 [] (au 0) aH) (gN 3))
 (cH (aM qm (au 3) (aV 11 "settle" se 1 [] (au 0) aH))))))
theorem awI:qb=gP nJ:=rfl
theorem awH:tK=gP qJ:=rfl
section
variable{M:Mem}{A P i p q c:Nat}{T0 b bt T st dn:Int}{es ps ks:List D}{L:Mem}{s bb:Int}
theorem At.pat(C:At M A P i T0 b bt p q es)(K:Ch M L c i s bb){w:D}{p' q':Nat}(hp:p'<2 ^ 60)(hq:q'<2 ^ 60)(kl:ks.length<100)(rl:∀h ps L,cj [.ref (A+1)] (Q M A P h ps (ks++[.tup [.int T,w]]) L)= .ok (.tup [.int p',.int q']) (Q M A P h ps (ks++[.tup [.int T,w]]) L))(hl:ps.length<40)(f:D->D)(G:Mem)
  (hf:∀d∈BX (p' ||| q') i,∀L,Ch M L c i s (bb+1)->ju [.ref A,d] (Q M A P (gU M P i A c T st dn) (ps++[BW T (b+ks.length+1) w]++[iT T (bb+1)]) (ks++[.tup [.int T,w]]) L)= .ok (f d) (Q M A P (gU M P i A c T st dn) (ps++[BW T (b+ks.length+1) w]++[iT T (bb+1)]) (ks++[.tup [.int T,w]]) (L++G)))
  (se:Fn) {ps' ks':List D} {x' y' bb':Int} (hse:∀L2,Ch M L2 c i s (bb+1)->∃L3 n,se [.ref A] (Q M A P (gU M P i A c T st dn) (ps++[BW T (b+ks.length+1) w]++[iT T (bb+1)]) (ks++[.tup [.int T,w]]) L2)= .ok (.ref (M.length+n)) (Q M A P (gU M P i A c T x' y') ps' ks' L3)/\L3[n]? = some (.lst [])/\Ch M L3 c i s bb'/\∀(j:Nat) (o:MO),c≠j->L2[j]? = some o->L3[j]? = some o):
  ∃L4 n,gP se [.ref A,w] (Q M A P (gU M P i A c T st dn) ps ks L)= .ok (.ref (M.length+n)) (Q M A P (gU M P i A c T x' y') ps' ks' L4)/\L4[n]? = some (.lst ((BX (p' ||| q') i).map f))/\Ch M L4 c i s bb'/\∀(j:Nat) (o:MO),c≠j->L[j]? = some o->L4[j]? = some o:=by
 obtain⟨x,hx⟩:∃x,x=b+(ks.length:Int)+1:=⟨_,rfl⟩
 obtain⟨k1,hk1⟩:∃k1,k1=ks++[D.tup [.int T,w]]:=⟨_,rfl⟩
 have f1:cB [5,11] "row" (.ref A) (Q M A P (gU M P i A c T st dn) ps ks L)= .ok (.ref (A+1)) _:=aQ C.qA (by simp) rfl
 have f2:∀ks,cB [5,11] "term" (.ref A) (Q M A P (gU M P i A c T st dn) ps ks L)= .ok (.int T) (Q M A P (gU M P i A c T st dn) ps ks L):=λks=>aQ C.qA (by simp) rfl
 have i1:dh 4 "put" (.ref (A+1)) (Q M A P (gU M P i A c T st dn) ps ks L)=true:=sX C.qr rfl
 have e1:=C.put (ps:=ps) (L:=L) (h:=gU M P i A c T st dn) (ks:=ks) (.tup [.int T,w]) ()
 rw[<-hx,<-hk1]at e1
 rw[<-hx,<-hk1]at hf hse
 rw[<-hk1]at rl
 have i2:=C.Ue (m:= "tell_paper") (T:=T) (st:=st) (dn:=dn) (c:=c) (ps:=ps) (ks:=k1) (L:=L) rfl
 have e2:bF [.ref A,BW T x w] (Q M A P (gU M P i A c T st dn) ps k1 L)= .ok .non (Q M A P (gU M P i A c T st dn) (ps++[BW T x w]) k1 L):=
  C.paper (tt:=T) (v:= .int i) (st:=st) (dn:=dn) (ch:= .int i) (seat:=M.length+c) (ps:=ps) (ks:=k1) (L:=L) (BW T x w) ()
 have i3:=C.Ue (m:= "tell_all") (T:=T) (st:=st) (dn:=dn) (c:=c) (ps:=ps++[BW T x w]) (ks:=k1) (L:=L) rfl
 obtain⟨L1,n1,e3,x1,K1,k1'⟩:=C.arR (T:=T) (st:=st) (dn:=dn) (ps:=ps++[BW T x w]) (ks:=k1) K hp hq rl (by simp;omega) f G hf
 have i4:=C.Ue (m:= "settle") (T:=T) (st:=st) (dn:=dn) (c:=c) (ps:=ps++[BW T x w]++[iT T (bb+1)]) (ks:=k1) (L:=L1) rfl
 obtain⟨L3,n2,e4,x2,K3,k3⟩:=hse L1 K1
 obtain⟨p1,hp1⟩:∃p1,p1=ps++[BW T x w]++[iT T (bb+1)]:=⟨_,rfl⟩
 rw[<-hp1]at e3 i4 e4
 have cn:c≠n1:=λe=>by
  subst e
  have:=K1.o
  rw[x1]at this
  cases this
 have y1:=k3 _ _ cn x1
 have ad:=ac1 (X:=Q M A P (gU M P i A c T x' y') ps' ks' L3) (n:=M.length+n1) (m:=M.length+n2) (qn.trans y1) (qn.trans x2) (by rw[zak];have:=Gp (p' ||| q') i;simp;omega)
 rw[ql,qa,List.append_nil]at ad
 refine⟨L3++[.lst ((BX (p' ||| q') i).map f)],L3.length,?_,yL.trans rfl,K3.app,λj o hj e=>Gr.app _ _ (k3 j o hj (k1' j o hj e))⟩
 have es':BW T x w= .tup [.str "write",.int T,.int x,w]:=rfl
 simp only[gP]
 simp[f1,f2,i1,e1,i2,<-es',e2,i3,e3,i4,e4,ad]
theorem At.aaA(C:At M A P i T0 b bt p q es){p':Nat}(rl:∀h ps L,cj [.ref (A+1)] (Q M A P h ps ks L)= .ok (.tup [.int p',.int 0]) (Q M A P h ps ks L)):bL [.ref A] (Q M A P (gU M P i A c T st dn) ps ks L)= .ok (.ref (M.length+L.length)) (Q M A P (gU M P i A c T st dn) ps ks (L++[.lst []]))/\dX [.ref A] (Q M A P (gU M P i A c T st dn) ps ks L)= .ok (.ref (M.length+L.length)) (Q M A P (gU M P i A c T st dn) ps ks (L++[.lst []])):=by
 have f2:cB [5,11] "row" (.ref A) (Q M A P (gU M P i A c T st dn) ps ks L)= .ok (.ref (A+1)) _:=aQ C.qA (by simp) rfl
 have i1:dh 4 "roll" (.ref (A+1)) (Q M A P (gU M P i A c T st dn) ps ks L)=true:=sX C.qr rfl
 have r0:=rl (gU M P i A c T st dn) ps L
 constructor
 ·simp only[bL,bT,jC]
  simp[f2,i1,r0,ql,qa]
 ·simp only[dX,jE,nC]
  simp[f2,i1,r0,ql,qa]
end
theorem abU(i S:Nat):2 ^ i &&& S=if S.testBit i=true then 2 ^ i else 0:=by
 refine Nat.eq_of_testBit_eq λj=> ?_
 rw[Nat.testBit_and,Nat.testBit_two_pow]
 by_cases e:i=j
 ·subst e
  cases z:S.testBit i with
  | true=>simp
  | false=>simp
 ·split<;>simp[e,Nat.testBit_two_pow]
theorem WK:∀i,i<60->HM.aN (2 ^ i)=[i]:=by decide
theorem alone{S i:Nat}(hi:i<60)(h1:S<2 ^ 60)(h:Dc (2 ^ i) S false=true):S=2 ^ i:=by
 have c1:HM.cnt (2 ^ i)=1:=by unfold HM.cnt;rw[WK i hi];rfl
 unfold Dc at h
 rw[if_neg (by simp),abU]at h
 have h':=of_decide_eq_true h
 have hS:=HM.Ea S h1
 cases z:S.testBit i with
 | false=>
  rw[z]at h'
  have:HM.cnt 0=0:=by decide
  simp[this]at h'
 | true=>
  rw[z]at h'
  simp[c1]at h'
  have hm:i∈HM.aN S:=HM.xV.mpr ⟨(),z⟩
  unfold HM.cnt at h'
  match q:HM.aN S with
  | []=>rw[q]at hm;cases hm
  | [j]=>
   rw[q]at hm hS
   have:i=j:=by simpa using hm
   subst this
   rw[<-WK i hi,HM.Ea _ (Nat.pow_lt_pow_right (by decide) ())]at hS
   exact hS.symm
  | _::_::_=>rw[q]at h';simp at h';omega
theorem Qv{i:Nat}(hi:i<60):BX (2 ^ i) i=[]:=by
 unfold BX
 rw[WK i hi]
 simp
theorem Oj{i p q:Nat}(hi:i<60)(hp:p<2 ^ 60)(hq:q<2 ^ 60)(h:p8 (2 ^ i) p q=true):p=2 ^ i/\(q=0\/q=2 ^ i):=by
 unfold p8 at h
 rw[Bool.and_eq_true,Bool.or_eq_true]at h
 refine⟨alone hi hp h.1,?_⟩
 rcases h.2 with z | z
 ·exact .inl (of_decide_eq_true z)
 ·exact .inr (alone hi hq z)
theorem abb{i:Nat}(hi:i<60):p8 (2 ^ i) (2 ^ i) 0=true:=by
 have c1:HM.cnt (2 ^ i)=1:=by unfold HM.cnt;rw[WK i hi];rfl
 simp[p8,Dc,c1]
section
variable{M:Mem}{A P i p q c:Nat}{T0 b bt T st dn:Int}{es ps ks:List D}{L:Mem}{s bb:Int}
theorem aak(C:At M A P i T0 b bt p q es):T6 (es++[st1 T]):=λj hj=>by
 by_cases h:j<es.length
 ·exact⟨T0,"start",[],by rw[zac h];exact C.hs j h,by simp[sj]⟩
 ·have:j=es.length:=by simp at hj;omega
  subst this
  exact⟨T,"start",[],by simp[st1],by simp[sj]⟩
theorem ai3(C:At M A P i T0 b bt p q es){q':Nat}:T6 (es++[st1 T]++[Le T q']):=λj hj=>by
 by_cases h:j<(es++[st1 T]).length
 ·obtain⟨t,w,l,e,z⟩:=aak (T:=T) C j h
  exact⟨t,w,l,by rw[zac h];exact e,z⟩
 ·have:j=(es++[st1 T]).length:=by simp at hj h ⊢;omega
  subst this
  exact⟨T,"roll",[.int q',.int 0],by simp[Le],by simp[sj]⟩
theorem At.Le(C:At M A P i T0 b bt p q es)(h:MO)(ps:List D)(L:Mem):cj [.ref (A+1)] (Q M A P h ps (es++[st1 T]) L)= .ok (.tup [.int p,.int q]) (Q M A P h ps (es++[st1 T]) L)/\lJ [.ref (A+1)] (Q M A P h ps (es++[st1 T]) L)= .ok (.int b) (Q M A P h ps (es++[st1 T]) L):=
 ZV C.qr C.qk λj hj=>by
  by_cases z:j<es.length
  ·exact⟨T0,by rw[zac z];exact C.hs j z⟩
  ·have:j=es.length:=by simp at hj;omega
   subst this
   exact⟨T,by simp⟩
theorem At.rl2(C:At M A P i T0 b bt p q es){q':Nat}(h:MO)(ps:List D)(L:Mem):cj [.ref (A+1)] (Q M A P h ps (es++[st1 T]++[My.Le T q']) L)= .ok (.tup [.int q',.int 0]) (Q M A P h ps (es++[st1 T]++[My.Le T q']) L):=
 aem C.qr rfl C.qk
theorem At.leave1(C:At M A P i T0 b bt p q es)(K:Ch M L c i s 1)(hq0:q≠0)(hqi:q=2 ^ i)(hl:ps.length<30){x:Int}(hx:x=b+(es++[st1 T]).length):∃L3 n,bL [.ref A] (Q M A P (gU M P i A c T x x) ps (es++[st1 T]) L)= .ok (.ref (M.length+n)) (Q M A P (gU M P i A c T (x+1) (x+1)) (ps++[BW T (x+1) (.tup [.str "roll",.int q,.int 0])]++[iT T (1+1)]++[xN i T (x+1)]) (es++[st1 T]++[My.Le T q]) L3)/\L3[n]? = some (.lst [])/\Ch M L3 c i s 2/\∀(j:Nat) (o:MO),c≠j->L[j]? = some o->L3[j]? = some o:=by
 have kl:=C.kl
 have hlen:(es++[st1 T]++[My.Le T q]).length=(es++[st1 T]).length+1:=by simp
 have hl1:(es++[st1 T]).length=es.length+1:=by simp
 have ho:BX (q ||| 0) i=[]:=by rw[Nat.or_zero,hqi];exact Qv C.hi
 obtain⟨L3,n,e,x3,K3,k3⟩:=C.pat (T:=T) (st:=x) (dn:=x) (ps:=ps) (ks:=es++[st1 T]) (w:= .tup [.str "roll",.int q,.int 0]) (p':=q) (q':=0) K C.hq (by decide) () (λh ps L=>C.rl2 h ps L) () (λd=>d) [] (λd hd=>by rw[ho]at hd;cases hd) qJ (ps':=ps++[BW T (x+1) (.tup [.str "roll",.int q,.int 0])]++[iT T (1+1)]++[xN i T (x+1)]) (ks':=es++[st1 T]++[My.Le T q]) (x':=x+1) (y':=x+1) (bb':=2) λL2 K2=>by
  rw[awG,<-hx]
  have:=C.Ux (T:=T) (st:=x) (dn:=x) (ps:=ps++[BW T (x+1) (.tup [.str "roll",.int q,.int 0])]++[iT T (1+1)]) (ks:=es++[st1 T]++[My.Le T q]) K2 C.hq (by decide) (λh ps L=>C.rl2 h ps L) (w:= .tup [.str "roll",.int q,.int 0]) (by simp[My.Le]) ⟨(),()⟩ ⟨(),()⟩ () (ai3 C) (by rw[hqi];exact abb C.hi) (by simp;omega) dX
   (ps':=ps++[BW T (x+1) (.tup [.str "roll",.int q,.int 0])]++[iT T (1+1)]++[xN i T (x+1)]) (ks':=es++[st1 T]++[My.Le T q]) (x':=x+1) (bb':=2) λL4 K4=>by
    have e0:b+((es++[st1 T]++[My.Le T q]).length:Int)=x+1:=()
    rw[e0]
    exact⟨_,_,(C.aaA λh ps L=>C.rl2 h ps L).2,yL.trans rfl,K4.app,λj o _ e=>Gr.app _ _ e⟩
  exact this
 rw[ho,List.map_nil]at x3
 refine⟨L3,n,?_,x3,K3,k3⟩
 have f2:cB [5,11] "row" (.ref A) (Q M A P (gU M P i A c T x x) ps (es++[st1 T]) L)= .ok (.ref (A+1)) _:=aQ C.qA (by simp) rfl
 have f3:cB [11] "settled" (.ref A) (Q M A P (gU M P i A c T x x) ps (es++[st1 T]) L)= .ok (.int x) _:=aQ C.qA (by simp) rfl
 have i1:dh 4 "roll" (.ref (A+1)) (Q M A P (gU M P i A c T x x) ps (es++[st1 T]) L)=true:=sX C.qr rfl
 have i2:dh 4 "roll_place" (.ref (A+1)) (Q M A P (gU M P i A c T x x) ps (es++[st1 T]) L)=true:=sX C.qr rfl
 have i3:=C.Ue (m:= "put_and_tell") (T:=T) (st:=x) (dn:=x) (c:=c) (ps:=ps) (ks:=es++[st1 T]) (L:=L) rfl
 obtain⟨r0,r1⟩:=C.Le (T:=T) (gU M P i A c T x x) ps L
 have n1:¬x<b:=()
 have hq0':¬(q:Int)=0:=()
 rw[<-awH]at e
 obtain⟨k1,hk1⟩:∃k1,k1=es++[st1 T]:=⟨_,rfl⟩
 rw[<-hk1]at e f2 f3 i1 i2 i3 r0 r1 ⊢
 simp only[bL,bT,jC]
 simp[f2,i1,r0,hq0,i2,r1,f3,n1,i3,e]
end
noncomputable def Ni(i V:Nat)(T:Int):D:= .tup [.str "chair",.int i,.int T,.int V]
def NP:D:= .tup [.str "start"]
def tU(i V p q:Nat)(T s:Int):List D:=[vp i T,Ni i V T,BW T s NP,iT T 1]++if p8 (2 ^ i) p q=true then[xN i T s]++(if q=0 then[]else[BW T (s+1) (.tup [.str "roll",.int q,.int 0]),iT T 2,xN i T (s+1)])else[]
def BL(i p q:Nat)(T s e b:Int):List D:=(BX (p ||| q) i).map (NB i T 1 s e b [st1 T])
section
variable{M:Mem}{A P i p q:Nat}{T0 b bt T:Int}{es:List D}{L:Mem}
theorem At.begin(C:At M A P i T0 b bt p q es){c:Nat}{s:Int}(hs:s=b+es.length+1)(K:Ch M L c i s 0){V:Nat}:∃L' n ks x,qb [.ref A,NP] (Q M A P (gU M P i A c T b b) [vp i T,Ni i V T] es L)= .ok (.ref (M.length+n)) (Q M A P (gU M P i A c T x x) (tU i V p q T s) ks L')/\L'[n]? = some (.lst (BL i p q T s (eT bt T0 es) b))/\(∃bb,Ch M L' c i s bb)/\∀(j:Nat) (o:MO),c≠j->L[j]? = some o->L'[j]? = some o:=by
 have kl:=C.kl
 have hl1:(es++[st1 T]).length=es.length+1:=by simp
 have hk:(es++[st1 T])[(es++[st1 T]).length - 1]? = some (.tup [.int T,NP]):=by simp[st1,NP]
 have hx:s=b+((es++[st1 T]).length:Int):=()
 rw[awI]
 have key:∀(ps' ks':List D) (x' bb':Int),(∀L2,Ch M L2 c i s (0+1)->∃L3 n,nJ [.ref A] (Q M A P (gU M P i A c T b b) [vp i T,Ni i V T,BW T s NP,iT T 1] (es++[st1 T]) L2)= .ok (.ref (M.length+n)) (Q M A P (gU M P i A c T x' x') ps' ks' L3)/\L3[n]? = some (.lst [])/\Ch M L3 c i s bb'/\∀(j:Nat) (o:MO),c≠j->L2[j]? = some o->L3[j]? = some o)->
   ∃L' n,gP nJ [.ref A,NP] (Q M A P (gU M P i A c T b b) [vp i T,Ni i V T] es L)= .ok (.ref (M.length+n)) (Q M A P (gU M P i A c T x' x') ps' ks' L')/\L'[n]? = some (.lst (BL i p q T s (eT bt T0 es) b))/\Ch M L' c i s bb'/\∀(j:Nat) (o:MO),c≠j->L[j]? = some o->L'[j]? = some o:=λps' ks' x' bb' hse=>by
  refine C.pat (T:=T) (st:=b) (dn:=b) (ps:=[vp i T,Ni i V T]) (ks:=es) (w:=NP) K C.hp C.hq () (λh ps L=>(C.Le (T:=T) h ps L).1) (by simp) (NB i T 1 s (eT bt T0 es) b [st1 T]) [.lst (es++[st1 T]),.lst [st1 T]] (λd hd L2 K2=> ?_) nJ (λL2 K2=> ?_)
  ·obtain⟨h,_,rfl⟩:=List.mem_map.mp hd
   exact C.letter (T:=T) (ks:=es++[st1 T]) K2 hs rfl (h:Int)
  ·rw[<-hs]
   exact hse L2 K2
 by_cases hw:p8 (2 ^ i) p q=true
 ·obtain⟨hpi,hqi⟩:=Oj C.hi C.hp C.hq hw
  by_cases h0:q=0
  ·obtain⟨L',n,e,r1,r2,r3⟩:=key (tU i V p q T s) (es++[st1 T]) s 1 λL2 K2=>by
    rw[afy]
    have hps:tU i V p q T s=[vp i T,Ni i V T,BW T s NP,iT T 1]++[xN i T s]:=by
     unfold tU
     rw[if_pos hw,if_pos h0]
     rfl
    rw[hps]
    refine C.Ux (T:=T) (st:=b) (dn:=b) (ps:=[vp i T,Ni i V T,BW T s NP,iT T 1]) (ks:=es++[st1 T]) K2 C.hp C.hq (λh ps L=>(C.Le (T:=T) h ps L).1) hk ⟨(),()⟩ ⟨(),()⟩ () (aak C) hw (by simp) bL λL4 K4=> ?_
    rw[<-hx]
    have rl:∀h ps L,cj [.ref (A+1)] (Q M A P h ps (es++[st1 T]) L)= .ok (.tup [.int p,.int 0]) (Q M A P h ps (es++[st1 T]) L):=λh ps L=>by
     have:=(C.Le (T:=T) h ps L).1
     rw[h0]at this
     exact this
    exact⟨_,_,(C.aaA rl).1,yL.trans rfl,K4.app,λj o _ e=>Gr.app _ _ e⟩
   exact⟨L',n,_,_,e,r1,⟨_,r2⟩,r3⟩
  ·have awz:q=2 ^ i:=by rcases hqi with z | z;exact absurd z h0;exact z
   obtain⟨L',n,e,r1,r2,r3⟩:=key (tU i V p q T s) (es++[st1 T]++[My.Le T q]) (s+1) 2 λL2 K2=>by
    rw[afy]
    have hps:tU i V p q T s=[vp i T,Ni i V T,BW T s NP,iT T 1]++[xN i T s]++[BW T (s+1) (.tup [.str "roll",.int q,.int 0])]++[iT T (1+1)]++[xN i T (s+1)]:=by
     unfold tU
     rw[if_pos hw,if_neg h0]
     rfl
    rw[hps]
    refine C.Ux (T:=T) (st:=b) (dn:=b) (ps:=[vp i T,Ni i V T,BW T s NP,iT T 1]) (ks:=es++[st1 T]) K2 C.hp C.hq (λh ps L=>(C.Le (T:=T) h ps L).1) hk ⟨(),()⟩ ⟨(),()⟩ () (aak C) hw (by simp) bL λL4 K4=> ?_
    rw[<-hx]
    exact C.leave1 K4 h0 awz (by simp) hx
   exact⟨L',n,_,_,e,r1,⟨_,r2⟩,r3⟩
 ·have hw':p8 (2 ^ i) p q=false:=by simpa using hw
  obtain⟨L',n,e,r1,r2,r3⟩:=key (tU i V p q T s) (es++[st1 T]) b 1 λL2 K2=>by
   rw[afy]
   obtain⟨X,e⟩:=C.ahs (T:=T) (st:=b) (dn:=b) (ps:=[vp i T,Ni i V T,BW T s NP,iT T 1]) (ks:=es++[st1 T]) K2 C.hp C.hq (λh ps L=>(C.Le (T:=T) h ps L).1) hk ⟨(),()⟩ () hw' bL
   have hps:tU i V p q T s=[vp i T,Ni i V T,BW T s NP,iT T 1]:=by
    unfold tU
    rw[if_neg hw]
    rfl
   rw[hps]
   exact⟨_,_,e,Gr.app _ _ (yL.trans rfl),K2.app.app,λj o _ e=>Gr.app _ _ (Gr.app _ _ e)⟩
  exact⟨L',n,_,_,e,r1,⟨_,r2⟩,r3⟩
theorem At.take(C:At M A P i T0 b bt p q es){n0 V:Nat}{s:Int}(hs:s=b+es.length+1)(hz:L[n0]? = some (rP V)):∃L' n c ks x,sy [.ref A] (Q M A P (gH M P i A n0 b T) [vp i T] es L)= .ok (.ref (M.length+n)) (Q M A P (gU M P i A c T x x) (tU i V p q T s) ks L')/\L'[n]? = some (.lst (BL i p q T s (eT bt T0 es) b))/\(∃bb,Ch M L' c i s bb)/\∀(j:Nat) (o:MO),L[j]? = some o->L'[j]? = some o:=by
 have f1:∀ps,cB [9,11] "me" (.ref A) (Q M A P (gH M P i A n0 b T) ps es L)= .ok (.int i) (Q M A P (gH M P i A n0 b T) ps es L):=λps=>aQ C.qA (by simp) rfl
 have f2:cB [5,11] "term" (.ref A) (Q M A P (gH M P i A n0 b T) [vp i T] es L)= .ok (.int T) _:=aQ C.qA (by simp) rfl
 have f3:cB [11] "seat" (.ref A) (Q M A P (gH M P i A n0 b T) [vp i T] es L)= .ok (.ref (M.length+n0)) _:=aQ C.qA (by simp) rfl
 have f4:cB [8] "voters" (.ref (M.length+n0)) (Q M A P (gH M P i A n0 b T) [vp i T] es L)= .ok (.int V) _:=aQ (qn.trans hz) (by simp) rfl
 have i1:dh 11 "tell_paper" (.ref A) (Q M A P (gH M P i A n0 b T) [vp i T] es L)=true:=cT C.qA rfl
 have e1:bF [.ref A,Ni i V T] (Q M A P (gH M P i A n0 b T) [vp i T] es L)= .ok .non (Q M A P (gH M P i A n0 b T) [vp i T,Ni i V T] es L):=
  C.paper (tt:=T) (v:= .int i) (st:=b) (dn:=b) (ch:= .non) (seat:=M.length+n0) (ps:=[vp i T]) (ks:=es) (L:=L) (Ni i V T) (by simp)
 obtain⟨p1,hp1⟩:∃p1,p1=[vp i T,Ni i V T]:=⟨_,rfl⟩
 have f5:cB [5,11] "row" (.ref A) (Q M A P (gH M P i A n0 b T) p1 es L)= .ok (.ref (A+1)) _:=aQ C.qA (by simp) rfl
 have i2:dh 4 "last" (.ref (A+1)) (Q M A P (gH M P i A n0 b T) p1 es L)=true:=sX C.qr rfl
 have la:=Ae (X:=Q M A P (gH M P i A n0 b T) p1 es L) C.qr C.qk
 have e2:=VD (X:=Q M A P (gH M P i A n0 b T) p1 es L) (i:=i) (s:=s)
 rw[ql,qa,qa]at e2
 obtain⟨L1,hL1⟩:∃L1,L1=L++[vA i s 0 (M.length+L.length+1) (M.length+L.length+2) (M.length+L.length+3),.dk [],.dk [],.lst []]:=⟨_,rfl⟩
 rw[<-hL1]at e2
 have K:Ch M L1 L.length i s 0:=⟨by rw[hL1];exact yL.trans rfl,by rw[hL1];exact ag.trans rfl,by rw[hL1];exact ag.trans rfl⟩
 have p2:lF [11] "seat" (.ref (M.length+L.length)) (.ref A) (Q M A P (gH M P i A n0 b T) p1 es L1)=some (Q M A P (fU i P T (.int i) (A+1) b b (A+3) .non (M.length+L.length)) p1 es L1):=by
  simp[lF,C.qA,C.sA,fU,gH,putD,sj]
 have f6:cB [9,11] "me" (.ref A) (Q M A P (fU i P T (.int i) (A+1) b b (A+3) .non (M.length+L.length)) p1 es L1)= .ok (.int i) _:=aQ C.qA (by simp) rfl
 have p3:lF [11] "chair" (.int i) (.ref A) (Q M A P (fU i P T (.int i) (A+1) b b (A+3) .non (M.length+L.length)) p1 es L1)=some (Q M A P (gU M P i A L.length T b b) p1 es L1):=by
  simp[lF,C.qA,C.sA,fU,gU,putD,sj]
 have i3:=C.Ue (m:= "put_and_tell") (T:=T) (st:=b) (dn:=b) (c:=L.length) (ps:=p1) (ks:=es) (L:=L1) rfl
 obtain⟨L',n,ks,x,e3,x3,K',k'⟩:=C.begin (T:=T) (V:=V) hs K
 refine⟨L',n,L.length,ks,x,?_,x3,K',λj o e=>k' j o (xS (Ef e)) (by rw[hL1];exact Gr.app _ _ e)⟩
 have es1:Ni i V T= .tup [.str "chair",.int i,.int T,.int V]:=rfl
 have es2:NP= .tup [.str "start"]:=rfl
 have hs':b+(es.length:Int)+1=s:=hs.symm
 rw[<-hp1]at e1 e3
 simp only[sy,iU]
 simp[f1,f2,f3,f4,i1,<-es1,e1,f5,i2,la,hs',ql,qa,e2,p2,f6,p3,i3,<-es2,e3]
theorem At.adD(C:At M A P i T0 b bt p q es){n0 V:Nat}{s:Int}(hs:s=b+es.length+1)(hz:L[n0]? = some (rP V))(hw:p8 V p q=true):∃L' n c ks x,dY [.ref A] (Q M A P (gH M P i A n0 b T) [vp i T] es L)= .ok (.ref (M.length+n)) (Q M A P (gU M P i A c T x x) (tU i V p q T s) ks L')/\L'[n]? = some (.lst (BL i p q T s (eT bt T0 es) b))/\(∃bb,Ch M L' c i s bb)/\∀(j:Nat) (o:MO),L[j]? = some o->L'[j]? = some o:=by
 obtain⟨Y,e⟩:=C.wn (ps:=[vp i T]) (T:=T) hz
 rw[hw]at e
 obtain⟨L',n,c,ks,x,e2,x2,K,k⟩:=C.take (T:=T) (L:=L++Y) hs (Gr.app _ _ hz)
 refine⟨L',n,c,ks,x,?_,x2,K,λj o h=>k j o (Gr.app _ _ h)⟩
 have i1:dh 11 "take_chair" (.ref A) (Q M A P (gH M P i A n0 b T) [vp i T] es (L++Y))=true:=cT C.qA rfl
 simp only[dY,dZ,oW]
 simp[-Mm,e,i1,e2]
theorem At.abD(C:At M A P i T0 b bt p q es){s:Int}(hs:s=b+es.length+1)(hw:p8 (2 ^ i) p q=true):∃L n c ks x,uN [.ref A] M= .ok (.ref (M.length+n)) (Q M A P (gU M P i A c (T0+1) x x) (tU i (2 ^ i) p q (T0+1) s) ks L)/\L[n]? = some (.lst (BL i p q (T0+1) s (eT bt T0 es) b))/\∃bb,Ch M L c i s bb:=by
 obtain⟨L',n,c,ks,x,e,x2,K,k⟩:=C.adD (L:=l6 i p q b bt T0 es) (n0:=1) (V:=2 ^ i) (T:=T0+1) hs rfl hw
 obtain⟨hp,hq⟩:=Oj C.hi C.hp C.hq hw
 have ho:BX (p ||| q) i=[]:=by
  rcases hq with z | z
  ·rw[z,hp,Nat.or_zero];exact Qv C.hi
  ·rw[z,hp,Nat.or_self];exact Qv C.hi
 have hpl:RL i p q b bt T0 es=[]:=by unfold RL;rw[ho];rfl
 have r:=C.ring (R:=0) e (k 5 _ rfl) x2 (by unfold BL;rw[zak];have:=Gp (p ||| q) i;omega)
 obtain⟨bb,K⟩:=K
 refine⟨_,_,c,ks,x,r,?_,bb,K.app⟩
 rw[hpl,List.nil_append]
 exact yL.trans rfl
def JN(i w:Nat)(t:Int):D:= .tup [.str "vote",.int w,.int i,.int t]
theorem At.late(C:At M A P i T0 b bt p q es){h:MO}{ps ks:List D}{w:Nat}(f1:cB [9,11] "me" (.ref A) (Q M A P h ps ks L)= .ok (.int i) (Q M A P h ps ks L))(f2:cB [5,11] "term" (.ref A) (Q M A P h ps ks L)= .ok (.int T) (Q M A P h ps ks L))(i1:dh 11 "answer_late" (.ref A) (Q M A P h ps ks L)=true):
  jZ [.ref A,JN i w (T - 1)] (Q M A P h ps ks L)= .ok (.ref (M.length+L.length)) (Q M A P h ps ks (L++[.lst []])):=by
 have e1:qU [.ref A,JN i w (T - 1)] (Q M A P h ps ks L)= .ok (.ref (M.length+L.length)) (Q M A P h ps ks (L++[.lst []])):=by
  have sn:∀X,sIn (.str "vote") (.tup [.str "please",.str "tell",.str "whole"]) X= .ok (.bl false) X:=λX=>rfl
  simp only[qU,h_,uP,JN]
  simp[sn,ql,qa]
 have lt:T - 1<T:=()
 simp only[jZ,mz,uq,uo]
 unfold JN at e1 ⊢
 simp[f1,f2,lt,i1,e1]
theorem At.nov(C:At M A P i T0 b bt p q es){c w:Nat}{ps ks:List D}{x y:Int}{s bb:Int}(K:Ch M L c i s bb):jZ [.ref A,JN i w T] (Q M A P (gU M P i A c T x y) ps ks L)= .ok (.ref (M.length+L.length)) (Q M A P (gU M P i A c T x y) ps ks (L++[.lst []])):=by
 have f1:cB [9,11] "me" (.ref A) (Q M A P (gU M P i A c T x y) ps ks L)= .ok (.int i) _:=aQ C.qA (by simp) rfl
 have f2:cB [5,11] "term" (.ref A) (Q M A P (gU M P i A c T x y) ps ks L)= .ok (.int T) _:=aQ C.qA (by simp) rfl
 have f3:cB [11] "seat" (.ref A) (Q M A P (gU M P i A c T x y) ps ks L)= .ok (.ref (M.length+c)) _:=aQ C.qA (by simp) rfl
 have i1:dh 11 "take_vote" (.ref A) (Q M A P (gU M P i A c T x y) ps ks L)=true:=cT C.qA rfl
 have o1:Qi 8 [(7,false),(8,true),(9,false)] [.ref (M.length+c),.cls 8] (Q M A P (gU M P i A c T x y) ps ks L)= .ok (.bl false) (Q M A P (gU M P i A c T x y) ps ks L):=K8 K.at rfl
 have e1:lM [.ref A,.int w] (Q M A P (gU M P i A c T x y) ps ks L)= .ok (.ref (M.length+L.length)) (Q M A P (gU M P i A c T x y) ps ks (L++[.lst []])):=by
  simp only[lM,g8,qX]
  simp[f3,o1,ql,qa]
 simp only[jZ,mz,uq,uo,y_,yZ,yX,JN]
 simp[f1,f2,i1,e1,sj]
theorem At.cin(C:At M A P i T0 b bt p q es){n0 V w:Nat}{h:MO}{ps ks:List D}(hz:L[n0]? = some (rP V))(hw:w<=1000000):t6 [.ref (M.length+n0),.int w] (Q M A P h ps ks L)= .ok .non (Q M A P h ps ks ((L++[MO.lst [.int w]]).set n0 (rP (V ||| 2 ^ w)))):=by
 have z0:(Q M A P h ps ks L)[M.length+n0]? = some (rP V):=qn.trans hz
 have z1:(Q M A P h ps ks (L++[.lst [.int (w:Int)]]))[M.length+n0]? = some (rP V):=qn.trans (Gr.app _ _ hz)
 have f1:cB [8] "voters" (.ref (M.length+n0)) (Q M A P h ps ks L)= .ok (.int V) (Q M A P h ps ks L):=aQ z0 (by simp) rfl
 have s1:=ad6 (X:=Q M A P h ps ks (L++[.lst [.int (w:Int)]])) (l:=M.length+L.length) (i:=w) (by rw[qn];simp) hw
 have ob:Builtin.bitOr (V:Int) ((2 ^ w:Nat):Int)=((V ||| 2 ^ w:Nat):Int):=HM.yK V (2 ^ w)
 have p1:lF [8] "voters" (.int (V ||| 2 ^ w:Nat)) (.ref (M.length+n0)) (Q M A P h ps ks (L++[.lst [.int (w:Int)]]))=some (Q M A P h ps ks ((L++[MO.lst [.int (w:Int)]]).set n0 (rP (V ||| 2 ^ w)))):=by
  rw[abK (c:=8) (fs:=[("voters",.int V)]) z1 (by simp) (by simp),sn]
  rfl
 obtain⟨v,hv⟩:∃v:Int,v=((V ||| 2 ^ w:Nat):Int):=⟨_,rfl⟩
 rw[<-hv]at ob p1
 simp only[t6,jy]
 simp[f1,ql,qa,s1,uf,-Int.natCast_pow,ob,p1]
end
def pl:Nat->D->Bool
 | 0,_=>false
 | k+1,d=>match d with
  | .int _=>true
  | .str _=>true
  | .non=>true
  | .bl _=>true
  | .tup ds=>decide (ds.length<=1000)&&ds.all (pl k)
  | _=>false
theorem Z5{M:Mem}:∀(k:Nat) {d:D},pl k d=true->Ks M k d d
 | 0,d,h=>by cases h
 | k+1,d,h=>by
  cases d with
  | int i=>exact .int i
  | str x=>exact .str x
  | non=>exact .non
  | bl b=>exact .bl b
  | tup ds=>
   have h':(decide (ds.length<=1000)&&ds.all (pl k))=true:=h
   rw[Bool.and_eq_true,List.all_eq_true]at h'
   exact .tups (.self λx hx=>Z5 k (h'.2 x hx)) (of_decide_eq_true h'.1)
  | _=>cases h
theorem VR{M:Mem}{x y:Nat}{ds:List D}(hx:M[x]? = some (.lst ds))(hy:M[y]? = some (.lst ds))(h:∀d∈ds,pl 7 d=true)(hl:ds.length<=1000):Ks M 8 (.ref x) (.ref y):= .avL hx hy (.self λd hd=>Z5 7 (h d hd)) hl
theorem Xe{j:Nat}(h:j<=1000000)(M:Mem):zY (.int 1) (.int (j:Int)) M= .ok (.int ((2 ^ j:Nat):Int)) M:=by
 rw[Qe ⟨(),(),by decide⟩,Int.toNat_natCast,HM.Qw]
theorem aah{F j:Nat}(h0:0<F)(h1:F<2 ^ 60)(hj:j<60):0<F ||| 2 ^ j/\F ||| 2 ^ j<2 ^ 60:=
 ⟨yA h0 Nat.left_le_or,Nat.or_lt_two_pow h1 (Nat.pow_lt_pow_right (by decide) hj)⟩
theorem Wu(z:Int):∃j:Nat,j<60/\z % 60=(j:Int):=by
 have a:=Int.emod_nonneg z (show(60:Int)≠0 by decide)
 have b:=Int.emod_lt_of_pos z (show(0:Int)<60 by decide)
 exact⟨(z % 60).toNat,(),()⟩
theorem m60(z:Int)(M:Mem):qj (.int z) (.int 60) M= .ok (.int (z % 60)) M:=rT ()
theorem d60(z:Int)(M:Mem):Eu (.int z) (.int 60) M= .ok (.int (z / 60)) M:=Cd () ()
theorem m8(z:Int)(M:Mem):qj (.int z) (.int 8) M= .ok (.int (z % 8)) M:=rT ()
theorem d8(z:Int)(M:Mem):Eu (.int z) (.int 8) M= .ok (.int (z / 8)) M:=Cd () ()
theorem OD{M:Mem}{x y:D}:∀(ks:List Int) {z:Int} {F:Nat} {v:Option D},0<F->F<2 ^ 60->∃z' F' v',0<F'/\F'<2 ^ 60/\iM none (gN 4) vR (ks.map D.int) [some (.int z),some x,some y,some (.int (F:Nat)),v] M= .next [some (.int z'),some x,some y,some (.int (F':Nat)),v'] M
 | [],z,F,v,h0,h1=>⟨z,F,v,h0,h1,fg0 trivial⟩
 | k::ks,z,F,v,h0,h1=>by
  obtain⟨j,hj,ej⟩:=Wu (z / 60+7*k)
  obtain⟨a,b⟩:=aah h0 h1 hj
  obtain⟨z',F',v',c0,c1,e⟩:=OD (M:=M) (x:=x) (y:=y) ks (z:=z / 60+7*k) (v:=some (.int k)) a b
  refine⟨z',F',v',c0,c1,?_⟩
  have ml:∀M,UL (.int 7) (.int k) M= .ok (.int (7*k)) M:=λM=>Sd (.inl ())
  have ob:Builtin.bitOr (F:Int) ((2 ^ j:Nat):Int)=((F ||| 2 ^ j:Nat):Int):=HM.yK F (2 ^ j)
  have et:vR [some (.int z),some x,some y,some (.int (F:Nat)),some (.int k)] M= .next [some (.int (z / 60+7*k)),some x,some y,some (.int (F ||| 2 ^ j:Nat)),some (.int k)] M:=by
   obtain⟨w,hw⟩:∃w:Int,w=((F ||| 2 ^ j:Nat):Int):=⟨_,rfl⟩
   rw[<-hw]at ob ⊢
   simp only[vR]
   simp[d60,ml,m60,ej,Xe (show j<=1000000 by omega),uf,-Int.natCast_pow,ob]
  rw[List.map_cons]
  exact fgn trivial rfl et e
theorem Wo{M:Mem}(z:Int){i:Nat}(hi:i<60):∃p:Nat,0<p/\p<2 ^ 60/\qT [.int z,.int i] M= .ok (.int p) M:=by
 have d2:∀(z:Int) (M:Mem),Eu (.int z) (.int 2) M= .ok (.int (z / 2)) M:=λz M=>Cd () ()
 have a:=Int.emod_nonneg z (show(8:Int)≠0 by decide)
 have b:=Int.emod_lt_of_pos z (show(0:Int)<8 by decide)
 have si:=Xe (j:=i) (show i<=1000000 by omega)
 by_cases w0:z % 8=0
 ·refine⟨2 ^ i,Nat.two_pow_pos i,Nat.pow_lt_pow_right (by decide) hi,?_⟩
  simp only[qT,kJ,sE]
  simp[m8,d8,w0,si,-Int.natCast_pow]
 ·by_cases w1:z % 8=1
  ·have mB:∀(z:Int) (M:Mem),qj (.int z) (.int 1152921504606846975) M= .ok (.int (z % 1152921504606846975)) M:=λz M=>rT ()
   have c1:=Int.emod_nonneg (z / 8) (show(1152921504606846975:Int)≠0 by decide)
   have c2:=Int.emod_lt_of_pos (z / 8) (show(0:Int)<1152921504606846975 by decide)
   refine⟨(1+z / 8 % 1152921504606846975).toNat,(),(),?_⟩
   have e:((1+z / 8 % 1152921504606846975).toNat:Int)=1+z / 8 % 1152921504606846975:=()
   simp only[qT,kJ,sE,v5]
   simp[m8,d8,w1,mB,e]
  ·obtain⟨j,hj,ej⟩:=Wu (z / 8)
   obtain⟨z',F,v',c0,c1,e⟩:=OD (M:=M) (x:= .int i) (y:= .int (z % 8)) ((List.range (z % 8 / 2).toNat).map λ(k:Nat)=>(0+(k:Int))) (z:=z / 8) (F:=2 ^ j) (v:=none) (Nat.two_pow_pos j) (Nat.pow_lt_pow_right (by decide) hj)
   have rg:JT [.int (z % 8 / 2)] M= .ok ⟨none,((List.range (z % 8 / 2).toNat).map λ(k:Nat)=>(0+(k:Int))).map D.int⟩ M:=by
    rw[Ce () (),List.map_map]
    rfl
   have sj1:=Xe (j:=j) (show j<=1000000 by omega)
   obtain⟨u,hu⟩:∃u,u=z % 8:=⟨_,rfl⟩
   obtain⟨ds,hds⟩:∃ds,ds=((List.range (u / 2).toNat).map λ(k:Nat)=>(0+(k:Int))).map D.int:=⟨_,rfl⟩
   have m8':∀M,qj (.int z) (.int 8) M= .ok (.int u) M:=λM=>by rw[hu];exact m8 z M
   rw[<-hu]at w0 w1 e rg
   rw[<-hds]at e rg
   by_cases w6:u=6\/u=4
   ·obtain⟨a0,a1⟩:=aah c0 c1 hi
    refine⟨F ||| 2 ^ i,a0,a1,?_⟩
    have ob:Builtin.bitOr (F:Int) ((2 ^ i:Nat):Int)=((F ||| 2 ^ i:Nat):Int):=HM.yK F (2 ^ i)
    obtain⟨w,hw⟩:∃w:Int,w=((F ||| 2 ^ i:Nat):Int):=⟨_,rfl⟩
    rw[<-hw]at ob ⊢
    simp only[qT,kJ,sE,v5,Al,Af]
    by_cases w6':u=6
    ·simp[m8',d8,w0,w1,m60,ej,sj1,d2,rg,-Int.natCast_pow,e,eq_true w6',si,uf,ob]
    ·have w4:u=4:=()
     simp[m8',d8,w0,w1,m60,ej,sj1,d2,rg,-Int.natCast_pow,e,w6',eq_true w4,si,uf,ob]
   ·refine⟨F,c0,c1,?_⟩
    have n6:¬u=6:=λh=>w6 (.inl h)
    have n4:¬u=4:=λh=>w6 (.inr h)
    simp only[qT,kJ,sE,v5,Al,Af]
    simp[m8',d8,w0,w1,m60,ej,sj1,d2,rg,-Int.natCast_pow,e,n6,n4]
def cell(ns:List Int)(k:Nat):Int:=ns.getD k 0
theorem Hs(ns:List Int)(k:Nat){kk:Int}(hk:kk=k):gh [.cl (ns.map D.int),.int kk] M= .ok (.int (cell ns k)) M:=by
 subst hk
 simp only[gh,dm,Bs]
 by_cases h:k<ns.length
 ·have e:fP (.cl (ns.map D.int)) (.int k) M= .ok (.int ns[k]) M:=aef () (by simp[h])
  simp[h,e,cell]
 ·simp[h,cell]
theorem acL{α β:Type}(f:α->β)(xs:List α)(lo hi:Option Int):cut (xs.map f) lo hi=(cut xs lo hi).map f:=by
 unfold cut
 rw[zak,List.map_take,List.map_drop]
theorem aep{X:Mem}{x y k:Nat}{t:Int}(a:X[x]? = some (.lst (List.replicate k (st1 t))))(b:X[y]? = some (.lst [])):sNe (.ref x) (.ref y) X= .ok (.bl (!decide (k=0))) X:=by
 have key:∀k,Fd (qe X 11) (List.replicate k (st1 t))=some (List.replicate k (.tup [.int t,.tup [.str "start"]])):=by
  intro k
  induction k with
  | zero=>rfl
  | succ k ih=>
   rw[List.replicate_succ,List.replicate_succ]
   simp only[Fd,ih]
   rfl
 have e1:qe X 12 (.ref x)=some (.lst (List.replicate k (.tup [.int t,.tup [.str "start"]]))):=by
  show(match uO X x with | some ds=>(Fd (qe X 11) ds).map Dt.lst | none=>none)=_
  rw[b8 a]
  show(Fd (qe X 11) _).map Dt.lst=_
  rw[key]
  rfl
 have e2:qe X 12 (.ref y)=some (.lst []):=by
  show(match uO X y with | some ds=>(Fd (qe X 11) ds).map Dt.lst | none=>none)=_
  rw[b8 b]
  rfl
 refine(Qj (Rc e1 e2)).trans ?_
 cases k with
 | zero=>rw[List.replicate_zero,M_];rfl
 | succ k=>
  rw[List.replicate_succ]
  unfold pM
  simp
  rfl
theorem ace{M:Mem}(ns:List Int)(i:Nat)(roll:D):∃(M':Mem) (bk rb lb k:Nat) (b bt T0:Int) (es:List D),Ml [.cl (ns.map D.int),.int i,roll] M= .ok (.tup [.ref bk,.int (T0+1),vP b bt T0 es,.int b]) M'/\M'[bk]? = some (Pn T0 .non rb (.tup [.tup [],.tup []]))/\M'[rb]? = some (oH b bt roll lb)/\M'[lb]? = some (.lst es)/\es=List.replicate k (st1 T0)/\k<=3/\0<=b/\b<=1000000:=by
 have c1:=λM=>Hs (M:=M) ns 1 (kk:=1) rfl
 have c2:=λM=>Hs (M:=M) ns 2 (kk:=2) rfl
 obtain⟨sc,hsc⟩:∃sc,sc=D.cl (ns.map D.int):=⟨_,rfl⟩
 rw[<-hsc]at c1 c2 ⊢
 obtain⟨z,hz⟩:∃z,z=cell ns 2:=⟨_,rfl⟩
 rw[<-hz]at c2
 have pw:∀M:Mem,ZC (.int 10) (.int 40) M= .ok (.int (10 ^ 40)) M:=λM=>Zz (by decide)
 have mP:∀(z:Int) (M:Mem),qj (.int z) (.int (10 ^ 40)) M= .ok (.int (z % 10 ^ 40)) M:=λz M=>rT ()
 obtain⟨T0,hT⟩:∃T0:Int,T0=cell ns 1 % 10 ^ 40:=⟨_,rfl⟩
 obtain⟨Pw,hPw⟩:∃P:Int,P=10 ^ 40:=⟨_,rfl⟩
 rw[<-hPw]at pw mP hT
 have mT:∀M:Mem,qj (.int (cell ns 1)) (.int Pw) M= .ok (.int T0) M:=λM=>by rw[mP,hT]
 have m3:∀(z:Int) (M:Mem),qj (.int z) (.int 3) M= .ok (.int (z % 3)) M:=λz M=>rT ()
 have d3:∀(z:Int) (M:Mem),Eu (.int z) (.int 3) M= .ok (.int (z / 3)) M:=λz M=>Cd () ()
 have d12:∀(z:Int) (M:Mem),Eu (.int z) (.int 12) M= .ok (.int (z / 12)) M:=λz M=>Cd () ()
 have m4:∀(z:Int) (M:Mem),qj (.int z) (.int 4) M= .ok (.int (z % 4)) M:=λz M=>rT ()
 have m9:∀(z:Int) (M:Mem),qj (.int z) (.int 999999) M= .ok (.int (z % 999999)) M:=λz M=>rT ()
 obtain⟨b,bt,hb0,hb1,e1⟩:∃b bt:Int,0<=b/\b<=1000000/\v_ [some sc,some (.int i),some roll,some (.int T0),some (.int 0),some (.int 0),none,none] M= .next [some sc,some (.int i),some roll,some (.int T0),some (.int b),some (.int bt),none,none] M:=by
  by_cases h:z % 3=1/\0<T0
  ·have a1:=Int.emod_nonneg (z / 12) (show(999999:Int)≠0 by decide)
   have a2:=Int.emod_lt_of_pos (z / 12) (show(0:Int)<999999 by decide)
   refine⟨1+z / 12 % 999999,1,(),(),?_⟩
   simp only[v_]
   simp[c2,m3,h.1,h.2,d12,m9]
  ·refine⟨0,0,(),(),?_⟩
   simp only[v_]
   by_cases h1:z % 3=1
   ·have h2:¬0<T0:=λq=>h ⟨h1,q⟩
    simp[c2,m3,h1,h2]
   ·simp[c2,m3,h1]
 obtain⟨k,E,M1,hk,e2,hE,g1⟩:∃(k E:Nat) (M1:Mem),k<=3/\v7 [some sc,some (.int i),some roll,some (.int T0),some (.int b),some (.int bt),some (.ref M.length),none] (M++[.lst []])= .next [some sc,some (.int i),some roll,some (.int T0),some (.int b),some (.int bt),some (.ref E),none] M1/\M1[E]? = some (.lst (List.replicate k (st1 T0)))/\Gr M M1:=by
  by_cases h:0<T0
  ·have a1:=Int.emod_nonneg (z / 3) (show(4:Int)≠0 by decide)
   have a2:=Int.emod_lt_of_pos (z / 3) (show(0:Int)<4 by decide)
   obtain⟨k,hk⟩:∃k:Nat,z / 3 % 4=(k:Int):=⟨(z / 3 % 4).toNat,()⟩
   have rg:JT [.int (k:Int)] (M++[.lst []])= .ok ⟨none,zR 0 k⟩ (M++[.lst []]):=aen ()
   have cp:=Nf (src:=none) (te:=fQ (aq (au 1) (aq (fQ (aq (mC (.str "start")) aH)) aH))) (ce:=[some (.int T0)]) (M:=M++[.lst []]) (λ_=>st1 T0) (ds:=zR 0 k) trivial (λd _=>by simp[st1])
   have hm:(zR 0 k).map (λ_=>st1 T0)=List.replicate k (st1 T0):=by
    rw[List.map_const',Wg]
   rw[hm]at cp
   refine⟨k,(M++[MO.lst []]).length,M++[.lst []]++[.lst (List.replicate k (st1 T0))],(),?_,Np,(Gr.app (xs:=[.lst []])).trans Gr.app⟩
   simp only[v7]
   simp[h,c2,d3,m4,hk,rg,rO]
   simp at cp
   simp[cp]
  ·refine⟨0,M.length,M++[.lst []],(),?_,yL.trans rfl,Gr.app⟩
   simp only[v7]
   simp[h]
 obtain⟨es,hes⟩:∃es,es=List.replicate k (st1 T0):=⟨_,rfl⟩
 have le:es.length=k:=by rw[hes];simp
 have ne:=aep (X:=M1++[.lst []]) (x:=E) (y:=M1.length) (ao hE _) (yL.trans rfl)
 rw[<-hes]at hE
 have e3:Ag [some sc,some (.int i),some roll,some (.int T0),some (.int b),some (.int bt),some (.ref E),some (.tup [.int bt,.int b])] M1= .next [some sc,some (.int i),some roll,some (.int T0),some (.int b),some (.int bt),some (.ref E),some (vP b bt T0 es)] (M1++[.lst []]):=by
  simp only[Ag]
  by_cases h:k=0
  ·have h0:es=[]:=List.length_eq_zero_iff.mp ()
   rw[zae h]at ne
   simp[ne,vP,eT,h0]
  ·have h0:¬es=[]:=λq=>h (by rw[<-le,q];rfl)
   rw[zad h]at ne
   have ln:=rW (M:=M1++[.lst []]) (ao hE _)
   simp[ne,ln,vP,eT,h0]
 obtain⟨M2,hM2⟩:∃M2,M2=M1++[MO.lst []]:=⟨_,rfl⟩
 rw[<-hM2]at e3
 have r1:=Ss (M:=M2) (h:=E) (b:=b) (bt:=bt) (br:=roll) (es:=es) (by rw[hM2];exact ao hE _)
 obtain⟨M3,hM3⟩:∃M3,M3=M2++[oH b bt roll (M2.length+1),.lst es]:=⟨_,rfl⟩
 rw[<-hM3]at r1
 have r2:=Yw (M:=M3) (r:=M2.length) (l:=M2.length+1) (b:=b) (bt:=bt) (t:=T0) (br:=roll) (v:= .non) (kd:= .tup [.tup [],.tup []]) (es:=es) (by rw[hM3];exact yL.trans rfl) (by rw[hM3];exact ag.trans rfl)
 refine⟨M3++[Pn T0 .non (M3.length+1) (.tup [.tup [],.tup []]),oH b bt roll (M3.length+2),.lst es],M3.length,M3.length+1,M3.length+2,k,b,bt,T0,es,?_,yL.trans rfl,ag.trans rfl,ag.trans rfl,hes,hk,hb0,hb1⟩
 refine acA (nY (e':=[some sc,some (.int i),some roll,some (.int T0),none,none,none,none]) (M':=M) ?_ (nY (e':=[some sc,some (.int i),some roll,some (.int T0),some (.int 0),none,none,none]) (M':=M) ?_ (nY (M':=M) ?_ (nY e1 (nY (M':=M++[.lst []]) ?_ (nY e2 (nY (M':=M1) ?_ (nY e3 (Q9 ?_)))))))))
 ·simp[c1,pw,mT]
 ·simp
 ·simp
 ·simp
 ·simp
 ·simp[r1,r2]
section
variable{i p q V:Nat}{T s e b l:Int}
def tE(i V p q:Nat)(T e l b s:Int)(d:Nat)(v8 v9:Option D):Sl:=[some (.int i),some (.int T),some (.tup [.int p,.int q]),some (.int V),some (.tup [.int e,.int l]),some (.int b),some (.int s),some (.ref d),v8,v9]
theorem KD{Z:Mem}{d:Nat}{H:List D}:∀(hs:List Nat) {acc:List D} {v:Option D},acc.length+hs.length<=100->∃v',iM (some (Z.length+1,H)) (gN 9) jr (hv hs) (tE i V p q T e l b s d (some (.ref Z.length)) v) (Z++[.lst acc,.lst H])=
  .next (tE i V p q T e l b s d (some (.ref Z.length)) v') (Z++[.lst (acc++((hs.filter λh=>decide (h≠i)).map λ(h:Nat)=>D.int (h:Int)).map (NB i T 1 s e b [st1 T])),.lst H])
 | [],acc,v,_=>⟨v,by
   have:kZ (some (Z.length+1,H)) (Z++[MO.lst acc,.lst H]):=b8 (ag.trans rfl)
   show iM _ _ _ [] _ _=_
   rw[fg0 this]
   simp⟩
 | h::hs,acc,v,hl=>by
  have hl':acc.length+(hs.length+1)<=100:=hl
  have so:kZ (some (Z.length+1,H)) (Z++[MO.lst acc,.lst H]):=b8 (ag.trans rfl)
  by_cases hi:h=i
  ·obtain⟨v',ih⟩:=KD (Z:=Z) (d:=d) (H:=H) hs (acc:=acc) (v:=some (.int (h:Int))) ()
   refine⟨v',?_⟩
   have et:jr (tE i V p q T e l b s d (some (.ref Z.length)) (some (.int (h:Int)))) (Z++[.lst acc,.lst H])= .next (tE i V p q T e l b s d (some (.ref Z.length)) (some (.int (h:Int)))) (Z++[.lst acc,.lst H]):=by
    have hi':(h:Int)=(i:Int):=()
    simp only[jr,yS,tE]
    simp[hi']
   rw[List.filter_cons,if_neg (by simp[hi])]
   exact fgn so rfl et ih
  ·obtain⟨v',ih⟩:=KD (Z:=Z) (d:=d) (H:=H) hs (acc:=acc++[NB i T 1 s e b [st1 T] (.int (h:Int))]) (v:=some (.int (h:Int))) (by simp;omega)
   refine⟨v',?_⟩
   have ap:mR (.ref Z.length) [NB i T 1 s e b [st1 T] (.int (h:Int))] (Z++[.lst acc,.lst H])= .ok .non (Z++[.lst (acc++[NB i T 1 s e b [st1 T] (.int (h:Int))]),.lst H]):=by
    rw[xR (ds:=acc) (yL.trans rfl) (),as0]
    rfl
   have ty:Ud "list" (.ref Z.length) (Z++[MO.lst acc,.lst H])=true:=FN (yL.trans rfl)
   have et:jr (tE i V p q T e l b s d (some (.ref Z.length)) (some (.int (h:Int)))) (Z++[.lst acc,.lst H])= .next (tE i V p q T e l b s d (some (.ref Z.length)) (some (.int (h:Int)))) (Z++[.lst (acc++[NB i T 1 s e b [st1 T] (.int (h:Int))]),.lst H]):=by
    have hi':¬(h:Int)=(i:Int):=()
    have es':NB i T 1 s e b [st1 T] (.int (h:Int))= .tup [.str "tell",.int i,.int h,.int T,.int 1,.int (s - 1),.int e,.tup [.tup [.int T,.tup [.str "start"]]],.int b]:=rfl
    simp only[jr,yS,tE]
    simp[hi',ty,<-es',ap]
   rw[List.filter_cons,if_pos (by simp[hi])]
   have e2:iM (some (Z.length+1,H)) (gN 9) jr (hv (h::hs)) (tE i V p q T e l b s d (some (.ref Z.length)) v) (Z++[.lst acc,.lst H])=_:=fgn so rfl et ih
   rw[e2,List.append_assoc]
   rfl
theorem RZ{X:Mem}(hi:i<60)(hs:s=l+1):∃Y d sl,Cy [.int i,.int T,.tup [.int p,.int q],.int V,.tup [.int e,.int l],.int b] X= .ok (.tup [.ref d,.ref sl]) (X++Y)/\X.length<=d/\X.length<=sl/\(X++Y)[d]? = some (.lst (tU i V p q T s))/\(X++Y)[sl]? = some (.lst (BL i p q T s e b)):=by
 have s1:∀M,zY (.int 1) (.int (i:Int)) M= .ok (.int ((2 ^ i:Nat):Int)) M:=Xe ()
 obtain⟨P0,hP0⟩:∃P0,P0=[vp i T,Ni i V T,BW T s NP,iT T 1]:=⟨_,rfl⟩
 obtain⟨W,e1⟩:∃W,qu (tE i V p q T e l b s X.length none none) (X++[.lst P0])= .next (tE i V p q T e l b s X.length none none) (X++ .lst (tU i V p q T s)::W):=by
  obtain⟨W,w⟩:=aax (X:=X++[.lst P0]) (2 ^ i) p q
  have ew:X++[MO.lst P0]++W=X++ .lst P0::W:=by simp
  rw[ew]at w
  have ap:∀(ps:List D) (d:D),ps.length<100->mR (.ref X.length) [d] (X++ .lst ps::W)= .ok .non (X++ .lst (ps++[d])::W):=λps d h=>by
   rw[xR (ds:=ps) (yL.trans rfl) (),as0]
   rfl
  have ty:∀(ps:List D),Ud "list" (.ref X.length) (X++MO.lst ps::W)=true:=λps=>FN (yL.trans rfl)
  refine⟨W,?_⟩
  obtain⟨z,hz⟩:∃z,z=((2 ^ i:Nat):Int):=⟨_,rfl⟩
  rw[<-hz]at w s1
  have es:∀x,D.tup [.str "settle",.int T,.int x,.int z]=xN i T x:=λx=>by rw[hz];rfl
  have eb:D.tup [.str "beat",.int T,.int 2]=iT T 2:=rfl
  have er:D.tup [.str "write",.int T,.int (s+1),.tup [.str "roll",.int q,.int 0]]=BW T (s+1) (.tup [.str "roll",.int q,.int 0]):=rfl
  have l0:P0.length<10:=by rw[hP0];simp
  have a1:=ap P0 (xN i T s) ()
  have a2:=ap (P0++[xN i T s]) (BW T (s+1) (.tup [.str "roll",.int q,.int 0])) (by simp;omega)
  have a3:=ap (P0++[xN i T s]++[BW T (s+1) (.tup [.str "roll",.int q,.int 0])]) (iT T 2) (by simp;omega)
  have a4:=ap (P0++[xN i T s]++[BW T (s+1) (.tup [.str "roll",.int q,.int 0])]++[iT T 2]) (xN i T (s+1)) (by simp;omega)
  unfold tU
  rw[<-hP0]
  cases hw:p8 (2 ^ i) p q with
  | false=>
   rw[hw]at w
   simp only[qu,tE]
   simp[s1,w]
  | true=>
   rw[hw]at w
   by_cases h0:q=0
   ·simp only[qu,yU,tE]
    simp[h0]at w ⊢
    simp[s1,w,ty,es,a1]
   ·simp only[List.append_assoc,List.cons_append,List.nil_append]at a2 a3 a4
    simp only[qu,yU,tE]
    simp[s1,w,ty,es,a1,h0,er,a2,eb,a3,a4]
 obtain⟨Z,hZ⟩:∃Z,Z=X++ .lst (tU i V p q T s)::W:=⟨_,rfl⟩
 rw[<-hZ]at e1
 have ob:Builtin.bitOr (p:Int) (q:Int)=((p ||| q:Nat):Int):=HM.yK p q
 have lh:=QS (X:=Z++[.lst []]) (p ||| q)
 have lh':oU [.int ((p ||| q:Nat):Int)] (Z++[.lst []])= .ok (.ref (Z.length+1)) (Z++[.lst [],.lst (hv (HM.aN (p ||| q)))]):=by
  rw[lh]
  simp
 have hlen:(HM.aN (p ||| q)).length<=60:=by unfold HM.aN;exact yY (List.length_filter_le _ _) (by simp)
 obtain⟨v',e2⟩:=KD (i:=i) (p:=p) (q:=q) (V:=V) (T:=T) (s:=s) (e:=e) (b:=b) (l:=l) (Z:=Z) (d:=X.length) (H:=hv (HM.aN (p ||| q))) (HM.aN (p ||| q)) (acc:=[]) (v:=none) (by simp;omega)
 have e2':iM (some (Z.length+1,hv (HM.aN (p ||| q)))) (gN 9) jr (hv (HM.aN (p ||| q))) (tE i V p q T e l b s X.length (some (.ref Z.length)) none) (Z++[.lst [],.lst (hv (HM.aN (p ||| q)))])= .next (tE i V p q T e l b s X.length (some (.ref Z.length)) v') (Z++[.lst (BL i p q T s e b),.lst (hv (HM.aN (p ||| q)))]):=e2
 obtain⟨m,hm⟩:∃m:Int,m=((p ||| q:Nat):Int):=⟨_,rfl⟩
 rw[<-hm]at ob lh'
 have hx2:Mz (.ref (Z.length+1)) (Z++[.lst [],.lst (hv (HM.aN (p ||| q)))])= .ok ⟨some (Z.length+1,hv (HM.aN (p ||| q))),hv (HM.aN (p ||| q))⟩ _:=qt (ag.trans rfl)
 refine⟨.lst (tU i V p q T s)::W++[.lst (BL i p q T s e b),.lst (hv (HM.aN (p ||| q)))],X.length,Z.length,?_,jS _,by rw[hZ];simp,?_,?_⟩
 ·have eZ:X++(MO.lst (tU i V p q T s)::W++[.lst (BL i p q T s e b),.lst (hv (HM.aN (p ||| q)))])=Z++[.lst (BL i p q T s e b),.lst (hv (HM.aN (p ||| q)))]:=by rw[hZ];simp
  rw[eZ]
  have ap:mR (.ref X.length) [iT T 1] (X++[.lst [vp i T,Ni i V T,BW T s NP]])= .ok .non (X++[.lst P0]):=by
   rw[xR (ds:=[vp i T,Ni i V T,BW T s NP]) (yL.trans rfl) (by simp),as0,hP0]
   rfl
  have ty:Ud "list" (.ref X.length) (X++[MO.lst [vp i T,Ni i V T,BW T s NP]])=true:=FN (yL.trans rfl)
  have hs':l+1=s:=hs.symm
  refine acA (nY (e':=[some (.int i),some (.int T),some (.tup [.int p,.int q]),some (.int V),some (.tup [.int e,.int l]),some (.int b),some (.int s),none,none,none]) (M':=X) ?_ (nY (e':=tE i V p q T e l b s X.length none none) (M':=X++[.lst [vp i T,Ni i V T,BW T s NP]]) ?_ (nY (e':=tE i V p q T e l b s X.length none none) (M':=X++[.lst P0]) ?_ (nY e1 (nY (e':=tE i V p q T e l b s X.length (some (.ref Z.length)) none) (M':=Z++[.lst []]) ?_ (nY (e':=tE i V p q T e l b s X.length (some (.ref Z.length)) v') (M':=Z++[.lst (BL i p q T s e b),.lst (hv (HM.aN (p ||| q)))]) ?_ (Q9 ?_)))))))
  ·simp[hs']
  ·simp[tE,vp,Ni,BW,NP]
  ·have eb:D.tup [.str "beat",.int T,.int 1]=iT T 1:=rfl
   simp only[tE]
   simp[ty,eb,ap]
  ·simp[tE]
  ·simp only[En,tE]at e2' ⊢
   simp[uf,ob,lh',hx2,e2']
  ·simp[tE]
 ·exact yL.trans rfl
 ·have eZ:X++(MO.lst (tU i V p q T s)::W++[.lst (BL i p q T s e b),.lst (hv (HM.aN (p ||| q)))])=Z++[.lst (BL i p q T s e b),.lst (hv (HM.aN (p ||| q)))]:=by rw[hZ];simp
  rw[eZ]
  exact yL.trans rfl
end
theorem V_{i V p q:Nat}{T s:Int}:(∀d∈tU i V p q T s,pl 7 d=true)/\(tU i V p q T s).length<=1000:=by
 unfold tU
 have h4:∀d∈[vp i T,Ni i V T,BW T s NP,iT T 1],pl 7 d=true:=by
  intro d hd
  simp only[List.mem_cons,List.not_mem_nil,or_false]at hd
  rcases hd with rfl | rfl | rfl | rfl<;>rfl
 split
 ·split
  ·refine⟨λd hd=> ?_,by simp⟩
   rcases List.mem_append.mp hd with h | h
   ·exact h4 d h
   ·rw[List.append_nil]at h
    rw[List.mem_singleton.mp h]
    rfl
  ·refine⟨λd hd=> ?_,by simp⟩
   rcases List.mem_append.mp hd with h | h
   ·exact h4 d h
   ·simp only[List.cons_append,List.nil_append,List.mem_cons,List.not_mem_nil,or_false]at h
    rcases h with rfl | rfl | rfl | rfl<;>rfl
 ·rw[List.append_nil]
  exact⟨h4,by simp⟩
theorem J5{i p q:Nat}{T s e b:Int}:(∀d∈BL i p q T s e b,pl 7 d=true)/\(BL i p q T s e b).length<=1000:=by
 refine⟨λd hd=> ?_,?_⟩
 ·obtain⟨x,hx,rfl⟩:=List.mem_map.mp hd
  obtain⟨h,_,rfl⟩:=List.mem_map.mp hx
  rfl
 ·unfold BL
  rw[zak]
  have:=Gp (p ||| q) i
  omega
def Kp(A P:Nat)(X Y:Mem):Prop:=∀(y:Nat) (ds:List D),y≠P->y≠A+2->X[y]? = some (.lst ds)->Y[y]? = some (.lst ds)
theorem Kp.trans{A P:Nat}{X Y Z:Mem}(a:Kp A P X Y)(b:Kp A P Y Z):Kp A P X Z:=λy ds h1 h2 h=>b y ds h1 h2 (a y ds h1 h2 h)
theorem Kp.app{A P:Nat}{X G:Mem}:Kp A P X (X++G):=λ_ _ _ _ h=>Gr.app _ _ h
theorem aji{M:Mem}{A P:Nat}{h h':MO}{ps ps' ks ks':List D}{L L':Mem}(n:∀ds,h≠ .lst ds)(hA:A<M.length)(k:∀(j:Nat) (ds:List D),L[j]? = some (.lst ds)->L'[j]? = some (.lst ds)):Kp A P (Q M A P h ps ks L) (Q M A P h' ps' ks' L'):=λy ds h1 h2 e=>by
 by_cases hy:y<M.length
 ·have l:∀h ps ks (L:Mem),(Q M A P h ps ks L)[y]? = (M.set A h)[y]? := λh ps ks L=>by
   unfold Q
   rw[zac (by simp;exact hy),zaf (),zaf ()]
  rw[l]at e ⊢
  by_cases ya:y=A
  ·subst ya
   rw[zag hA]at e
   exact absurd (xI e) (n ds)
  ·rw[zaf ()]at e ⊢
   exact e
 ·obtain⟨j,rfl⟩:∃j,y=M.length+j:=⟨y - M.length,()⟩
  rw[qn]at e ⊢
  exact k j ds e
def JS(M:Mem)(A P i p q:Nat)(b T s:Int)(es:List D)(V:Nat)(cb:Bool)(due:Nat)(X:Mem):Prop:=M.length<=due/\
 ((cb=false/\∃L n0,X=Q M A P (gH M P i A n0 b T) [vp i T] es L/\L[n0]? = some (rP V)/\p8 V p q=false/\X[due]? = some (.lst [vp i T]))\/
 (cb=true/\∃L c ks x bb W,X=Q M A P (gU M P i A c T x x) (tU i W p q T s) ks L/\Ch M L c i s bb/\X[due]? = some (.lst (tU i W p q T s))))
theorem JS.app{M:Mem}{A P i p q:Nat}{b T s:Int}{es:List D}{V:Nat}{cb:Bool}{due:Nat}{X:Mem}(h:JS M A P i p q b T s es V cb due X)(G:Mem):JS M A P i p q b T s es V cb due (X++G):=by
 obtain⟨hd,⟨hc,L,n0,rfl,z,w,d⟩ | ⟨hc,L,c,ks,x,bb,W,rfl,K,d⟩⟩:=h
 ·exact⟨hd,.inl ⟨hc,L++G,n0,qa,Gr.app _ _ z,w,Gr.app _ _ d⟩⟩
 ·exact⟨hd,.inr ⟨hc,L++G,c,ks,x,bb,W,qa,K.app,Gr.app _ _ d⟩⟩
section
variable{M:Mem}{A P i p q:Nat}{T0 b bt T s:Int}{es:List D}{V due:Nat}{cb:Bool}{X:Mem}
theorem JS.pap(C:At M A P i T0 b bt p q es)(h:JS M A P i p q b T s es V cb due X):∃ds,X[P]? = some (.lst ds)/\X[due]? = some (.lst ds)/\(∀d∈ds,pl 7 d=true)/\ds.length<=1000:=by
 obtain⟨hd,⟨hc,L,n0,rfl,z,w,d⟩ | ⟨hc,L,c,ks,x,bb,W,rfl,K,d⟩⟩:=h
 ·refine⟨_,C.qP,d,λy hy=> ?_,by simp⟩
  rw[List.mem_singleton.mp hy]
  rfl
 ·exact⟨_,C.qP,d,V_.1,V_.2⟩
def lE(x0 x3:Option D)(i p q:Nat)(T b:Int)(en:D)(P A sm:Nat)(HB Xl s12 xO s14 Gg JR Di:Option D):Sl:=[x0,some (.int i),some (.tup [.int p,.int q]),x3,some (.int T),some en,some (.int b),some (.ref P),some (.ref A),some (.ref sm),HB,Xl,s12,xO,s14,Gg,JR,Di]
variable{x0 x3 xO Gg JR Di:Option D}{en:D}{sm:Nat}
theorem JS.cmp(C:At M A P i T0 b bt p q es)(h:JS M A P i p q b T s es V cb due X){f sl:Nat}{ds:List D}(hf:X[f]? = some (.lst ds))(hs:X[sl]? = some (.lst ds))(hp:∀d∈ds,pl 7 d=true)(hl:ds.length<=1000){Xl s12:Option D}:∃G,Q3 (lE x0 x3 i p q T b en P A sm (some (.ref sl)) Xl s12 (some (.ref f)) (some (.ref due)) Gg JR Di) X= .next (lE x0 x3 i p q T b en P A sm (some (.ref sl)) Xl s12 (some (.ref f)) (some (.ref due)) Gg JR Di) (X++G)/\Q5 (lE x0 x3 i p q T b en P A sm (some (.ref sl)) Xl s12 (some (.ref f)) (some (.ref due)) Gg JR Di) X= .next (lE x0 x3 i p q T b en P A sm (some (.ref sl)) Xl s12 (some (.ref f)) (some (.ref due)) Gg JR Di) (X++G):=by
 obtain⟨G1,e1⟩:=Rx (VR hf hs hp hl)
 obtain⟨ds',h1,h2,h3,h4⟩:=h.pap C
 obtain⟨G2,e2⟩:=Rx (M:=X++G1) (VR (Gr.app _ _ h1) (Gr.app _ _ h2) h3 h4)
 refine⟨G1++G2,?_,?_⟩
 ·simp only[Q3,lE]
  simp[e1,e2]
 ·simp only[Q5,lE]
  simp[e1,e2]
theorem JS.word(C:At M A P i T0 b bt p q es)(h:JS M A P i p q b T s es V cb due X){HB Xl s14:Option D}:∃G,Kl (lE x0 x3 i p q T b en P A sm HB Xl (some (.bl cb)) xO s14 Gg JR Di) X= .next (lE x0 x3 i p q T b en P A sm HB Xl (some (.bl cb)) xO s14 Gg JR Di) (X++G):=by
 refine⟨[.lst [.str "asks",.str "chairs"]],?_⟩
 have ix0:fP (.ref X.length) (.int 0) (X++[.lst [.str "asks",.str "chairs"]])= .ok (.str "asks") (X++[.lst [.str "asks",.str "chairs"]]):=xQ (yL.trans rfl) () rfl
 have ix1:fP (.ref X.length) (.int 1) (X++[.lst [.str "asks",.str "chairs"]])= .ok (.str "chairs") (X++[.lst [.str "asks",.str "chairs"]]):=xQ (yL.trans rfl) () rfl
 have nt:∀(b:Bool) (M:Mem),Qk [.bl b] M= .ok (.int (if b=true then 1 else 0)) M:=λb M=>by cases b<;>rfl
 obtain⟨hd,⟨rfl,L,n0,hX,z,w,d⟩ | ⟨rfl,L,c,ks,x,bb,W,hX,K,d⟩⟩:=h
 ·have f1:cB [11] "seat" (.ref A) X= .ok (.ref (M.length+n0)) X:=by rw[hX];exact aQ C.qA (by simp) rfl
  have i1:dh 8 "word" (.ref (M.length+n0)) X=true:=by rw[hX];exact cT (qn.trans z) rfl
  simp only[Kl,lE]
  simp[f1,i1,GJ,p6,nt,ix0]
 ·have f1:cB [11] "seat" (.ref A) X= .ok (.ref (M.length+c)) X:=by rw[hX];exact aQ C.qA (by simp) rfl
  have hc:X[M.length+c]? = some (vA i s bb (M.length+(c+1)) (M.length+(c+2)) (M.length+(c+3))):=by rw[hX];exact K.at
  have i1:dh 8 "word" (.ref (M.length+c)) X=false:=by
   unfold vA at hc
   simp[dh,hc]
  have i2:dh 9 "word" (.ref (M.length+c)) X=true:=cT hc rfl
  simp only[Kl,lE]
  simp[f1,i1,i2,GF,pY,nt,ix1]
end
section
variable{M:Mem}{A P i p q:Nat}{T0 b bt T s:Int}{es:List D}{V due w:Nat}{cb:Bool}{X L:Mem}
theorem At.tv(C:At M A P i T0 b bt p q es){n0:Nat}{ps:List D}{r:D}{X':Mem}(hz:L[n0]? = some (rP V))(hw:w<=1000000)(e:dY [.ref A] (Q M A P (gH M P i A n0 b T) ps es ((L++[MO.lst [.int w]]).set n0 (rP (V ||| 2 ^ w))))= .ok r X'):jZ [.ref A,JN i w T] (Q M A P (gH M P i A n0 b T) ps es L)= .ok r X':=by
 have f1:cB [9,11] "me" (.ref A) (Q M A P (gH M P i A n0 b T) ps es L)= .ok (.int i) _:=aQ C.qA (by simp) rfl
 have f2:cB [5,11] "term" (.ref A) (Q M A P (gH M P i A n0 b T) ps es L)= .ok (.int T) _:=aQ C.qA (by simp) rfl
 have f3:cB [11] "seat" (.ref A) (Q M A P (gH M P i A n0 b T) ps es L)= .ok (.ref (M.length+n0)) _:=aQ C.qA (by simp) rfl
 have i1:dh 11 "take_vote" (.ref A) (Q M A P (gH M P i A n0 b T) ps es L)=true:=cT C.qA rfl
 have i2:dh 8 "count_in" (.ref (M.length+n0)) (Q M A P (gH M P i A n0 b T) ps es L)=true:=cT (qn.trans hz) rfl
 have i3:dh 11 "count_votes" (.ref A) (Q M A P (gH M P i A n0 b T) ps es ((L++[MO.lst [.int w]]).set n0 (rP (V ||| 2 ^ w))))=true:=cT C.qA rfl
 have o1:Qi 8 [(7,false),(8,true),(9,false)] [.ref (M.length+n0),.cls 8] (Q M A P (gH M P i A n0 b T) ps es L)= .ok (.bl true) (Q M A P (gH M P i A n0 b T) ps es L):=K8 (qn.trans hz) rfl
 have c1:=C.cin (h:=gH M P i A n0 b T) (ps:=ps) (ks:=es) hz hw
 have e1:lM [.ref A,.int w] (Q M A P (gH M P i A n0 b T) ps es L)= .ok r X':=by
  simp only[lM,g8,qX]
  simp[f3,o1,i2,c1,i3,e]
 simp only[jZ,mz,uq,uo,y_,yZ,yX,JN]
 simp[f1,f2,i1,e1,sj]
theorem JS.vote(C:At M A P i T0 b bt p q es)(h:JS M A P i p q b T s es V false due X)(hs:s=b+es.length+1)(hw:w<60){x0 x3 xO Gg:Option D}{sm sl:Nat}{c:Int}(hc:¬c % 8=5)(hsl:X[sl]? = some (.lst []))(h2:M.length<=sl):∃(V':Nat) (Ri:Bool) (zj sl' f:Nat) (ds:List D) (X1 X2:Mem),
  Ds (lE x0 x3 i p q T b (vP b bt T0 es) P A sm (some (.ref sl)) (some (.int V)) (some (.bl false)) xO (some (.ref due)) Gg (some (.int c)) (some (.int w))) X= .next (lE x0 x3 i p q T b (vP b bt T0 es) P A sm (some (.ref sl')) (some (.int V')) (some (.bl Ri)) xO (some (.ref zj)) Gg (some (.int c)) (some (.int w))) X1/\
  dh 11 "take" (.ref A) X1=true/\jZ [.ref A,JN i w T] X1= .ok (.ref f) X2/\X2[f]? = some (.lst ds)/\X2[sl']? = some (.lst ds)/\(∀d∈ds,pl 7 d=true)/\ds.length<=1000/\JS M A P i p q b T s es V' Ri zj X2/\Kp A P X X2:=by
 obtain⟨hd,⟨_,L,n0,rfl,z,hwn,d⟩ | ⟨hc,_⟩⟩:=h
 rotate_left
 ·cases hc
 obtain⟨Y,ew⟩:=aax (X:=Q M A P (gH M P i A n0 b T) [vp i T] es L) (V ||| 2 ^ w) p q
 have ob:Builtin.bitOr (V:Int) ((2 ^ w:Nat):Int)=((V ||| 2 ^ w:Nat):Int):=HM.yK V (2 ^ w)
 have s1:=Xe (j:=w) ()
 have kk:∀(L0:Mem),(∀(j:Nat) (o:MO),L[j]? = some o->L0[j]? = some o)->∀(j:Nat) (ds:List D),L[j]? = some (.lst ds)->((L0++[MO.lst [.int w]]).set n0 (rP (V ||| 2 ^ w)))[j]? = some (.lst ds):=λL0 hk j ds e=>by
  have jn:n0≠j:=λq=>by
   rw[<-q,z]at e
   cases e
  rw[zaf jn]
  exact Gr.app _ _ (hk j _ e)
 have n0l:∀(L0:Mem),L0[n0]? = some (rP V)->((L0++[MO.lst [.int (w:Int)]]).set n0 (rP (V ||| 2 ^ w)))[n0]? = some (rP (V ||| 2 ^ w)):=λL0 e=>by
  have:=Ef e
  rw[zag (by simp;omega)]
 obtain⟨jd,rfl⟩:∃jd,due=M.length+jd:=⟨due - M.length,()⟩
 obtain⟨js,rfl⟩:∃js,sl=M.length+js:=⟨sl - M.length,()⟩
 rw[qn]at d hsl
 have nl:∀ds,gH M P i A n0 b T≠ .lst ds:=λds e=>by cases e
 have hA:A<M.length:=by have:=C.lt;omega
 cases hv:p8 (V ||| 2 ^ w) p q with
 | false=>
  rw[hv]at ew
  obtain⟨Z,e⟩:=C.amB (L:=((L++Y)++[MO.lst [.int w]]).set n0 (rP (V ||| 2 ^ w))) (n:=n0) (ps:=[vp i T]) (T:=T) (n0l _ (Gr.app _ _ z)) hv
  have t1:=C.tv (L:=L++Y) (w:=w) (Gr.app _ _ z) () e
  have kL:∀(j:Nat) (ds:List D),L[j]? = some (.lst ds)->(((L++Y)++[MO.lst [.int w]]).set n0 (rP (V ||| 2 ^ w))++Z++[.lst []])[j]? = some (.lst ds):=λj ds h=>Gr.app _ _ (Gr.app _ _ (kk (L++Y) (λj o h=>Gr.app _ _ h) j ds h))
  refine⟨V ||| 2 ^ w,false,M.length+jd,M.length+js,_,[],Q M A P (gH M P i A n0 b T) [vp i T] es (L++Y),_,?_,cT C.qA rfl,t1,?_,?_,by simp,by simp,⟨hd,.inl ⟨rfl,_,n0,rfl,?_,hv,?_⟩⟩,aji nl hA kL⟩
  ·obtain⟨v,hv⟩:∃v:Int,v=((V ||| 2 ^ w:Nat):Int):=⟨_,rfl⟩
   rw[<-hv]at ob ew ⊢
   rw[<-qa]
   simp only[Ds,Q4,lE]
   simp[m8,hc,s1,uf,-Int.natCast_pow,ob,ew]
  ·rw[qn]
   exact yL.trans rfl
  ·rw[qn]
   exact kL _ _ hsl
  ·exact Gr.app _ _ (Gr.app _ _ (n0l _ (Gr.app _ _ z)))
  ·rw[qn]
   exact kL _ _ d
 | true=>
  rw[hv]at ew
  obtain⟨Y2,dd,sl2,et,hd2,hs2,xd,xs⟩:=RZ (i:=i) (p:=p) (q:=q) (V:=V ||| 2 ^ w) (T:=T) (s:=s) (e:=eT bt T0 es) (b:=b) (l:=b+es.length) (X:=Q M A P (gH M P i A n0 b T) [vp i T] es L++Y) C.hi hs
  have eq1:Q M A P (gH M P i A n0 b T) [vp i T] es L++Y++Y2=Q M A P (gH M P i A n0 b T) [vp i T] es (L++Y++Y2):=by rw[qa,qa]
  rw[eq1]at et xd xs
  have ql':(Q M A P (gH M P i A n0 b T) [vp i T] es L++Y).length=M.length+(L++Y).length:=by rw[qa,ql]
  rw[ql']at hd2 hs2
  obtain⟨jd2,rfl⟩:∃j,dd=M.length+j:=⟨dd - M.length,()⟩
  obtain⟨js2,rfl⟩:∃j,sl2=M.length+j:=⟨sl2 - M.length,()⟩
  rw[qn]at xd xs
  obtain⟨L',n,c',ks,x,e,x2,⟨bb,K⟩,k⟩:=C.adD (L:=((L++Y++Y2)++[MO.lst [.int w]]).set n0 (rP (V ||| 2 ^ w))) (n0:=n0) (V:=V ||| 2 ^ w) (T:=T) hs (n0l _ (Gr.app _ _ (Gr.app _ _ z))) hv
  have z2:(L++Y++Y2)[n0]? = some (rP V):=Gr.app _ _ (Gr.app _ _ z)
  have t1:=C.tv (w:=w) z2 () e
  have nj:∀(j:Nat) (ds:List D),(L++Y++Y2)[j]? = some (.lst ds)->L'[j]? = some (.lst ds):=λj ds h=>by
   refine k j _ ?_
   have jn:n0≠j:=λq=>by
    rw[<-q,z2]at h
    cases h
   rw[zaf jn]
   exact Gr.app _ _ h
  refine⟨V ||| 2 ^ w,true,M.length+jd2,M.length+js2,_,BL i p q T s (eT bt T0 es) b,Q M A P (gH M P i A n0 b T) [vp i T] es (L++Y++Y2),_,?_,cT C.qA rfl,t1,qn.trans x2,?_,J5.1,J5.2,⟨(),.inr ⟨rfl,L',c',ks,x,bb,V ||| 2 ^ w,rfl,K,?_⟩⟩,aji nl hA λj ds h=>nj j ds (Gr.app _ _ (Gr.app _ _ h))⟩
  ·obtain⟨v,hv⟩:∃v:Int,v=((V ||| 2 ^ w:Nat):Int):=⟨_,rfl⟩
   rw[<-hv]at ob ew et ⊢
   simp only[Ds,Q4,lE]
   unfold vP
   simp[m8,hc,s1,uf,-Int.natCast_pow,ob,ew,et]
  ·rw[qn]
   exact nj _ _ xs
  ·rw[qn]
   exact nj _ _ xd
theorem JS.hand(C:At M A P i T0 b bt p q es)(h:JS M A P i p q b T s es V cb due X):dh 11 "take" (.ref A) X=true/\cB [9,11] "me" (.ref A) X= .ok (.int i) X/\cB [5,11] "term" (.ref A) X= .ok (.int T) X/\dh 11 "answer_late" (.ref A) X=true/\cB [5,11] "vote" (.ref A) X= .ok (.int i) X/\cB [11] "chair" (.ref A) X= .ok (if cb=true then .int i else .non) X:=by
 obtain⟨hd,⟨rfl,L,n0,rfl,z,w,d⟩ | ⟨rfl,L,c,ks,x,bb,W,rfl,K,d⟩⟩:=h
 ·exact⟨cT C.qA rfl,aQ C.qA (by simp) rfl,aQ C.qA (by simp) rfl,cT C.qA rfl,aQ C.qA (by simp) rfl,aQ C.qA (by simp) rfl⟩
 ·exact⟨cT C.qA rfl,aQ C.qA (by simp) rfl,aQ C.qA (by simp) rfl,cT C.qA rfl,aQ C.qA (by simp) rfl,aQ C.qA (by simp) rfl⟩
theorem JS.none(C:At M A P i T0 b bt p q es)(h:JS M A P i p q b T s es V cb due X){c:Int}(hc:c % 8=5\/cb=true):jZ [.ref A,JN i w (T - if c % 8=5 then 1 else 0)] X= .ok (.ref X.length) (X++[.lst []]):=by
 by_cases h5:c % 8=5
 ·rw[if_pos h5]
  obtain⟨_,f1,f2,i1,_,_⟩:=h.hand C
  obtain⟨hd,⟨rfl,L,n0,rfl,z,w,d⟩ | ⟨rfl,L,c,ks,x,bb,W,rfl,K,d⟩⟩:=h
  ·rw[C.late f1 f2 i1,ql,qa]
  ·rw[C.late f1 f2 i1,ql,qa]
 ·rw[if_neg h5,Int.sub_zero]
  rcases hc with h6 | rfl
  ·exact absurd h6 h5
  obtain⟨hd,⟨hc,_⟩ | ⟨_,L,c,ks,x,bb,W,rfl,K,d⟩⟩:=h
  ·cases hc
  ·rw[C.nov K,ql,qa]
end
section
variable{M:Mem}{A P i p q:Nat}{T0 b bt T s:Int}{es:List D}{V due w:Nat}{cb:Bool}{X:Mem}{x0 x3 HB xO:Option D}{sm:Nat}{a c:Int}
theorem JS.i7(C:At M A P i T0 b bt p q es)(h:JS M A P i p q b T s es V cb due X)(hs:s=b+es.length+1)(hw:w<60){sl:Nat}{Gg:Option D}(hsl:X[sl]? = some (.lst []))(h2:M.length<=sl):∃(V':Nat) (Ri:Bool) (zj:Nat) (Ex Ew:Option D) (X':Mem),
  GQ (lE x0 x3 i p q T b (vP b bt T0 es) P A sm (some (.ref sl)) (some (.int V)) (some (.bl cb)) xO (some (.ref due)) Gg (some (.int c)) (some (.int w))) X= .next (lE x0 x3 i p q T b (vP b bt T0 es) P A sm Ex (some (.int V')) (some (.bl Ri)) Ew (some (.ref zj)) Gg (some (.int c)) (some (.int w))) X'/\JS M A P i p q b T s es V' Ri zj X'/\Kp A P X X':=by
 by_cases hi:w=i
 ·refine⟨V,cb,due,some (.ref sl),xO,X,?_,h,λy ds _ _ e=>e⟩
  have hi':(w:Int)=(i:Int):=()
  simp only[GQ,lE]
  simp[hi']
 have hi':¬(w:Int)=(i:Int):=()
 have sb:∀(j:Int) (M:Mem),JP (.int T) (.int j) M= .ok (.int (T - j)) M:=λj M=>by simp
 have nt:∀(b:Bool) (M:Mem),Qk [.bl b] M= .ok (.int (if b=true then 1 else 0)) M:=λb M=>by cases b<;>rfl
 by_cases hc:c % 8=5\/cb=true
 ·have e1:=h.none C (w:=w) hc
  have j1:=h.app [.lst []]
  obtain⟨G,e6,_⟩:=j1.cmp C (x0:=x0) (x3:=x3) (en:=vP b bt T0 es) (sm:=sm) (Gg:=Gg) (JR:=some (.int c)) (Di:=some (.int w)) (Xl:=some (.int V)) (s12:=some (.bl cb)) (f:=X.length) (sl:=sl) (ds:=[]) (yL.trans rfl) (Gr.app _ _ hsl) (by simp) (by simp)
  obtain⟨i1,_⟩:=h.hand C
  refine⟨V,cb,due,some (.ref sl),some (.ref X.length),X++[.lst []]++G,?_,j1.app G,Kp.app.trans Kp.app⟩
  have e5:Ds (lE x0 x3 i p q T b (vP b bt T0 es) P A sm (some (.ref sl)) (some (.int V)) (some (.bl cb)) xO (some (.ref due)) Gg (some (.int c)) (some (.int w))) X= .next (lE x0 x3 i p q T b (vP b bt T0 es) P A sm (some (.ref sl)) (some (.int V)) (some (.bl cb)) xO (some (.ref due)) Gg (some (.int c)) (some (.int w))) X:=by
   simp only[Ds,lE]
   rcases hc with h5 | rfl
   ·cases cb<;>simp[m8,h5]
   ·simp
  have nt':∀M:Mem,Qk [.bl (decide (c % 8=5))] M= .ok (.int (if c % 8=5 then 1 else 0)) M:=λM=>by rw[nt];simp
  unfold JN at e1
  simp only[GQ]
  simp only[lE]at e5 e6 ⊢
  simp[hi',e5,m8,nt',i1,e1,e6]
 ·have h5:¬c % 8=5:=λh=>hc (.inl h)
  have hcb:cb=false:=by cases cb with | false=>rfl | true=>exact absurd (.inr rfl) hc
  subst hcb
  obtain⟨V',Ri,zj,sl',f,ds,X1,X2,e5,i1,e1,xf,xs,hp,hl,j,k⟩:=h.vote C (w:=w) (x0:=x0) (x3:=x3) (xO:=xO) (Gg:=Gg) (sm:=sm) hs hw h5 hsl h2
  obtain⟨G,e6,_⟩:=j.cmp C (x0:=x0) (x3:=x3) (en:=vP b bt T0 es) (sm:=sm) (Gg:=Gg) (JR:=some (.int c)) (Di:=some (.int w)) (Xl:=some (.int V')) (s12:=some (.bl Ri)) xf xs hp hl
  refine⟨V',Ri,zj,some (.ref sl'),some (.ref f),X2++G,?_,j.app G,k.trans Kp.app⟩
  unfold JN at e1
  simp only[GQ]
  simp only[lE]at e5 e6 ⊢
  simp[hi',e5,m8,h5,nt,i1,e1,e6]
theorem JS.turn(C:At M A P i T0 b bt p q es)(h:JS M A P i p q b T s es V cb due X)(hs:s=b+es.length+1)(hw:w<60):∃(V':Nat) (Ri:Bool) (zj:Nat) (Ex Ew:Option D) (X':Mem),
  PX (lE x0 x3 i p q T b (vP b bt T0 es) P A sm HB (some (.int V)) (some (.bl cb)) xO (some (.ref due)) (some (.int a)) (some (.int c)) (some (.int w))) X= .next (lE x0 x3 i p q T b (vP b bt T0 es) P A sm Ex (some (.int V')) (some (.bl Ri)) Ew (some (.ref zj)) (some (.int (a+1))) (some (.int c)) (some (.int w))) X'/\JS M A P i p q b T s es V' Ri zj X'/\Kp A P X X':=by
 have hx:M.length<=X.length:=by
  obtain⟨ds,h1,h2,_⟩:=h.pap C
  have:=Ef h2
  have:=h.1
  omega
 obtain⟨V',Ri,zj,Ex,Ew,X',e7,j,k⟩:=(h.app [.lst []]).i7 C (w:=w) (x0:=x0) (x3:=x3) (xO:=xO) (Gg:=some (.int (a+1))) (sm:=sm) (c:=c) (sl:=X.length) hs hw (yL.trans rfl) hx
 obtain⟨G,e8⟩:=j.word C (x0:=x0) (x3:=x3) (en:=vP b bt T0 es) (sm:=sm) (HB:=Ex) (Xl:=some (.int V')) (xO:=Ew) (s14:=some (.ref zj)) (Gg:=some (.int (a+1))) (JR:=some (.int c)) (Di:=some (.int w))
 refine⟨V',Ri,zj,Ex,Ew,X'++G,?_,j.app G,(Kp.app.trans k).trans Kp.app⟩
 refine nY (e':=lE x0 x3 i p q T b (vP b bt T0 es) P A sm HB (some (.int V)) (some (.bl cb)) xO (some (.ref due)) (some (.int (a+1))) (some (.int c)) (some (.int w))) (M':=X) ?_ (nY (e':=lE x0 x3 i p q T b (vP b bt T0 es) P A sm (some (.ref X.length)) (some (.int V)) (some (.bl cb)) xO (some (.ref due)) (some (.int (a+1))) (some (.int c)) (some (.int w))) (M':=X++[.lst []]) ?_ (nY e7 e8))
 ·simp[lE]
 ·simp[lE]
theorem JS.loop(C:At M A P i T0 b bt p q es)(hs:s=b+es.length+1){y:Nat}{us:List D}(y1:y≠P)(y2:y≠A+2):∀(ws:List Nat) {V due:Nat} {cb:Bool} {X:Mem} {HB xO Di:Option D} {a:Int},(∀w∈ws,w<60)->JS M A P i p q b T s es V cb due X->X[y]? = some (.lst us)->∃(V':Nat) (Ri:Bool) (zj:Nat) (Ex Ew Xk:Option D) (a':Int) (X':Mem),
  iM (some (y,us)) (gN 17) PX (hv ws) (lE x0 x3 i p q T b (vP b bt T0 es) P A sm HB (some (.int V)) (some (.bl cb)) xO (some (.ref due)) (some (.int a)) (some (.int c)) Di) X= .next (lE x0 x3 i p q T b (vP b bt T0 es) P A sm Ex (some (.int V')) (some (.bl Ri)) Ew (some (.ref zj)) (some (.int a')) (some (.int c)) Xk) X'/\JS M A P i p q b T s es V' Ri zj X'/\Kp A P X X'/\a<=a'
 | [],V,due,cb,X,HB,xO,Di,a,_,h,hy=>⟨V,cb,due,HB,xO,Di,a,X,fg0 (b8 hy),h,λy ds _ _ e=>e,()⟩
 | w::ws,V,due,cb,X,HB,xO,Di,a,hw,h,hy=>by
  obtain⟨V1,cb1,acI,Ex,Ew,X1,e1,j1,k1⟩:=h.turn C (w:=w) (x0:=x0) (x3:=x3) (HB:=HB) (xO:=xO) (sm:=sm) (a:=a) (c:=c) hs (hw w (xB ..))
  obtain⟨V2,cb2,afF,ZS,ZR,ZQ,a',X2,e2,j2,k2,ha⟩:=JS.loop C hs y1 y2 ws (V:=V1) (due:=acI) (cb:=cb1) (X:=X1) (HB:=Ex) (xO:=Ew) (Di:=some (.int w)) (a:=a+1) (λw' h'=>hw w' (yT _ h')) j1 (k1 y us y1 y2 hy)
  exact⟨V2,cb2,afF,ZS,ZR,ZQ,a',X2,fgn (b8 hy) rfl e1 e2,j2,k1.trans k2,()⟩
end
theorem afx{n:Nat}(h1:0<n)(hn:n<2 ^ 60):0<(HM.aN n).length:=by
 rcases Nat.eq_zero_or_pos (HM.aN n).length with h | h
 ·exfalso
  have h0:HM.aN n=[]:=List.eq_nil_of_length_eq_zero h
  have z:n=0:=by
   apply Nat.eq_of_testBit_eq
   intro k
   rw[Nat.zero_testBit]
   by_cases hk:k<60
   ·cases hb:n.testBit k with
    | false=>rfl
    | true=>
     have:k∈HM.aN n:=by
      unfold HM.aN
      rw[List.mem_filter]
      exact⟨by simp;exact hk,hb⟩
     rw[h0]at this
     cases this
   ·exact Nat.testBit_lt_two_pow (yA hn (Nat.pow_le_pow_right (by decide) ()))
  omega
 ·exact h
theorem pick(hs:List Nat)(h:0<hs.length)(z:Int):∃w,w∈hs/\(hv hs)[(z % (hs.length:Int)).toNat]? = some (.int (w:Nat)):=by
 have a:=Int.emod_nonneg z (show(hs.length:Int)≠0 by omega)
 have b:=Int.emod_lt_of_pos z (show(0:Int)<hs.length by omega)
 obtain⟨k,hk⟩:∃k:Nat,k=(z % (hs.length:Int)).toNat:=⟨_,rfl⟩
 rw[<-hk]
 have hl:k<hs.length:=()
 refine⟨hs[k],List.getElem_mem hl,?_⟩
 unfold hv
 rw[zaj,zaa hl]
 rfl
def Cg(hs:List Nat)(z:Int):Nat:=hs.getD (z % (hs.length:Int)).toNat 0
theorem U6{hs:List Nat}(h:0<hs.length)(z:Int):(hv hs)[(z % (hs.length:Int)).toNat]? = some (.int (Cg hs z:Nat))/\Cg hs z∈hs:=by
 obtain⟨w,hw,e⟩:=pick hs h z
 have e':hs[(z % (hs.length:Int)).toNat]? = some w:=by
  unfold hv at e
  rw[zaj]at e
  cases q:hs[(z % (hs.length:Int)).toNat]? with
  | none=>rw[q]at e;cases e
  | some v=>
   rw[q]at e
   have:=D.int.inj (xI e)
   rw[show v=w by omega]
 have:Cg hs z=w:=by unfold Cg;rw[List.getD_eq_getElem?_getD,e'];rfl
 rw[this]
 exact⟨e,hw⟩
theorem Y4{X:Mem}{sm:Nat}{hs:List Nat}(hx:X[sm]? = some (.lst (hv hs)))(h:0<hs.length)(h60:∀w∈hs,w<60)(c a:Int):∃ws:List Nat,(∀w∈ws,w<60)/\uM [.int c,.ref sm,.int a] X= .ok (.ref X.length) (X++[.lst (hv ws)]):=by
 have ln:zz [.ref sm] X= .ok (.int (hs.length:Nat)) X:=by rw[rW hx];simp[hv]
 have md:∀z:Int,qj (.int z) (.int (hs.length:Nat)) X= .ok (.int (z % (hs.length:Nat))) X:=λz=>rT ()
 have ix:∀z:Int,fP (.ref sm) (.int (z % (hs.length:Nat))) X= .ok (.int (Cg hs z:Nat)) X:=λz=>xQ hx (Int.emod_nonneg z ()) (U6 h z).1
 obtain⟨n,hn⟩:∃n:Int,n=((hs.length:Nat):Int):=⟨_,rfl⟩
 rw[<-hn]at ln md ix
 by_cases h7:c % 8=7
 ·refine⟨(List.range 6).map λ(k:Nat)=>Cg hs (a+(0+(k:Int))),λw hw=> ?_,?_⟩
  ·obtain⟨k,_,rfl⟩:=List.mem_map.mp hw
   exact h60 _ (U6 h _).2
  ·have cg:=Nf (src:=none) (te:=aM fP (au 1) (aM qj (aM qm (au 2) (au 0)) (BR zz (aq (au 1) aH)))) (ce:=[some (.ref sm),some (.int a)]) (M:=X) (ds:=zR 0 6) (λd=>match d with | .int k=> .int (Cg hs (a+k):Nat) | d=>d) trivial (λd hd=>by
    obtain⟨k,_,rfl⟩:=List.mem_map.mp hd
    simp[ln,md,ix])
   have r6:JT [.int 6] X= .ok ⟨none,zR 0 6⟩ X:=Ce () ()
   have el:(zR 0 6).map (λd=>match d with | .int k=>D.int (Cg hs (a+k):Nat) | d=>d)=hv ((List.range 6).map λ(k:Nat)=>Cg hs (a+(0+(k:Int)))):=by
    unfold zR hv
    rw[List.map_map,List.map_map]
    rfl
   rw[el]at cg
   obtain⟨us,hus⟩:∃us,us=hv ((List.range 6).map λ(k:Nat)=>Cg hs (a+(0+(k:Int)))):=⟨_,rfl⟩
   rw[<-hus]at cg ⊢
   simp only[uM,mq,uh]
   simp[m8,eq_true h7,r6,rO,cg]
 ·by_cases h6:c % 8=6
  ·obtain⟨j,hj,ej⟩:=Wu (c / 8)
   refine⟨[j],λw hw=> ?_,?_⟩
   ·rw[List.mem_singleton.mp hw];exact hj
   ·simp only[uM,mq,uh,yR]
    simp[m8,h7,h6,d8,m60,ej,hv]
  ·refine⟨[Cg hs a],λw hw=> ?_,?_⟩
   ·rw[List.mem_singleton.mp hw];exact h60 _ (U6 h _).2
   ·simp only[uM,mq,uh,yR]
    simp[m8,h7,h6,ln,md,ix,hv]
section
variable{M:Mem}{A P i p q:Nat}{T0 b bt T s:Int}{es:List D}{x0 x3:Option D}{sm:Nat}
theorem JS.all(C:At M A P i T0 b bt p q es)(hs:s=b+es.length+1){hh:List Nat}(hh0:0<hh.length)(hh1:∀w∈hh,w<60)(m1:sm≠P)(m2:sm≠A+2){y:Nat}{us:List D}(y1:y≠P)(y2:y≠A+2):∀(cs:List Int) {V due:Nat} {cb:Bool} {X:Mem} {HB xO JR Di:Option D} {a:Int},JS M A P i p q b T s es V cb due X->X[y]? = some (.lst us)->X[sm]? = some (.lst (hv hh))->∃(V':Nat) (Ri:Bool) (zj:Nat) (Ex Ew atg Xk:Option D) (a':Int) (X':Mem),
  iM (some (y,us)) (gN 16) FQ (cs.map D.int) (lE x0 x3 i p q T b (vP b bt T0 es) P A sm HB (some (.int V)) (some (.bl cb)) xO (some (.ref due)) (some (.int a)) JR Di) X= .next (lE x0 x3 i p q T b (vP b bt T0 es) P A sm Ex (some (.int V')) (some (.bl Ri)) Ew (some (.ref zj)) (some (.int a')) atg Xk) X'/\JS M A P i p q b T s es V' Ri zj X'
 | [],V,due,cb,X,HB,xO,JR,Di,a,h,hy,_=>⟨V,cb,due,HB,xO,JR,Di,a,X,fg0 (b8 hy),h⟩
 | c::cs,V,due,cb,X,HB,xO,JR,Di,a,h,hy,hm=>by
  obtain⟨ws,hw,ev⟩:=Y4 hm hh0 hh1 c a
  have hx:M.length<=X.length:=by
   obtain⟨ds,h1,h2,_⟩:=h.pap C
   have:=Ef h2
   have:=h.1
   omega
  have hA:=C.lt
  have hP:=C.pa
  obtain⟨V1,cb1,acI,Ex,Ew,Xk,a1,X1,e1,j1,k1,_⟩:=JS.loop C (x0:=x0) (x3:=x3) (sm:=sm) (c:=c) (y:=X.length) (us:=hv ws) hs () () ws (HB:=HB) (xO:=xO) (Di:=Di) (a:=a) hw (h.app [.lst (hv ws)]) (yL.trans rfl)
  have k2:Kp A P X X1:=Kp.app.trans k1
  obtain⟨V2,cb2,afF,ZS,ZR,ahK,ZQ,a2,X2,e2,j2⟩:=JS.all C hs hh0 hh1 m1 m2 y1 y2 cs (V:=V1) (due:=acI) (cb:=cb1) (X:=X1) (HB:=Ex) (xO:=Ew) (JR:=some (.int c)) (Di:=Xk) (a:=a1) j1 (k2 y us y1 y2 hy) (k2 sm _ m1 m2 hm)
  refine⟨V2,cb2,afF,ZS,ZR,ahK,ZQ,a2,X2,?_,j2⟩
  have it:Mz (.ref X.length) (X++[.lst (hv ws)])= .ok ⟨some (X.length,hv ws),hv ws⟩ _:=qt (yL.trans rfl)
  have et:FQ (lE x0 x3 i p q T b (vP b bt T0 es) P A sm HB (some (.int V)) (some (.bl cb)) xO (some (.ref due)) (some (.int a)) (some (.int c)) Di) X= .next (lE x0 x3 i p q T b (vP b bt T0 es) P A sm Ex (some (.int V1)) (some (.bl cb1)) Ew (some (.ref acI)) (some (.int a1)) (some (.int c)) Xk) X1:=by
   simp only[FQ,Tq]
   simp only[lE]at e1 ⊢
   simp[ev,it,e1]
  rw[List.map_cons]
  exact fgn (b8 hy) rfl et e2
end
theorem abp{X:Mem}{i p q sm:Nat}{T b bt T0:Int}{es:List D}(hm:X[sm]? = some (.lst (hv (HM.aN (p ||| q))))):sY (some (sm,hv (HM.aN (p ||| q)))) (bA (aM sNe (au 0) (au 1))) (fQ (aq (mC (.str "please")) (aq (au 1) (aq (au 0) (aq (au 2) (aq (au 3) aH)))))) [some (.int i),some (.int T),some (vP b bt T0 es)] (hv (HM.aN (p ||| q))) [] X= .ok (.ref X.length) (X++[.lst ((BX (p ||| q) i).map (ple i T (vP b bt T0 es)))]):=by
 have e:=yI (src:=some (sm,hv (HM.aN (p ||| q)))) (tt:=bA (aM sNe (au 0) (au 1))) (te:=fQ (aq (mC (.str "please")) (aq (au 1) (aq (au 0) (aq (au 2) (aq (au 3) aH)))))) (ce:=[some (.int i),some (.int T),some (vP b bt T0 es)]) (M:=X) (λd=>match d with | .int h=>decide (¬h=(i:Int)) | _=>false) (ple i T (vP b bt T0 es)) (ds:=hv (HM.aN (p ||| q))) (b8 hm) (λd hd=>by
  obtain⟨h,_,rfl⟩:=List.mem_map.mp hd
  simp) (λd hd=>by
  obtain⟨h,_,rfl⟩:=List.mem_map.mp hd
  simp[ple])
 have ef:(hv (HM.aN (p ||| q))).filter (λd=>match d with | .int h=>decide (¬h=(i:Int)) | _=>false)=BX (p ||| q) i:=by
  unfold hv BX
  rw[List.filter_map]
  congr 1
  apply List.filter_congr
  intro h _
  show decide (¬(h:Int)=(i:Int))=decide (h≠i)
  simp
  omega
 rw[ef]at e
 exact e
section
variable{M:Mem}{A P i p q:Nat}{T0 b bt s:Int}{es:List D}{x0 x3 s14 Gg JR Di:Option D}{sm:Nat}
theorem At.pls(C:At M A P i T0 b bt p q es):(∀d∈RL i p q b bt T0 es,pl 7 d=true)/\(RL i p q b bt T0 es).length<=1000:=by
 refine⟨λd hd=> ?_,?_⟩
 ·obtain⟨x,hx,rfl⟩:=List.mem_map.mp hd
  obtain⟨h,_,rfl⟩:=List.mem_map.mp hx
  rfl
 ·unfold RL
  rw[zak]
  have:=Gp (p ||| q) i
  omega
theorem At.ath(C:At M A P i T0 b bt p q es)(hs:s=b+es.length+1){sl:Nat}(hsl:M[sl]? = some (.lst (RL i p q b bt T0 es)))(l1:sl≠P)(l2:sl≠A+2):∃(X X2:Mem) (f sl' due:Nat) (ds:List D),uN [.ref A] M= .ok (.ref f) X/\
  (∀xO:Option D,Km (lE x0 x3 i p q (T0+1) b (vP b bt T0 es) P A sm (some (.ref sl)) (some (.int (2 ^ i:Nat))) (some (.bl (p8 (2 ^ i) p q))) xO s14 Gg JR Di) X= .next (lE x0 x3 i p q (T0+1) b (vP b bt T0 es) P A sm (some (.ref sl')) (some (.int (2 ^ i:Nat))) (some (.bl (p8 (2 ^ i) p q))) xO (some (.ref due)) Gg JR Di) X2)/\
  JS M A P i p q b (T0+1) s es (2 ^ i) (p8 (2 ^ i) p q) due X2/\X2[f]? = some (.lst ds)/\X2[sl']? = some (.lst ds)/\(∀d∈ds,pl 7 d=true)/\ds.length<=1000/\∀(y:Nat) (us:List D),y≠P->y≠A+2->M[y]? = some (.lst us)->X2[y]? = some (.lst us):=by
 have hA:A<M.length:=by have:=C.lt;omega
 have kp:∀(h:MO) (ps ks:List D) (L:Mem) (y:Nat) (us:List D),y≠P->y≠A+2->M[y]? = some (.lst us)->(Q M A P h ps ks L)[y]? = some (.lst us):=λh ps ks L y us h1 h2 e=>by
  have hy:=Ef e
  unfold Q
  have ya:y≠A:=λz=>by
   rw[z,C.o]at e
   cases e
  rw[zac (by simp;exact hy),zaf (),zaf (),zaf ()]
  exact e
 cases hw:p8 (2 ^ i) p q with
 | false=>
  obtain⟨L,n,e,z,xn⟩:=C.aeo hw
  have x2:Q M A P (gH M P i A 1 b (T0+1)) [vp i (T0+1)] es L++[.lst [vp i (T0+1)]]=Q M A P (gH M P i A 1 b (T0+1)) [vp i (T0+1)] es (L++[.lst [vp i (T0+1)]]):=qa
  refine⟨_,Q M A P (gH M P i A 1 b (T0+1)) [vp i (T0+1)] es (L++[.lst [vp i (T0+1)]]),_,sl,M.length+L.length,_,e,?_,⟨(),.inl ⟨rfl,_,1,rfl,Gr.app _ _ z,hw,?_⟩⟩,qn.trans (Gr.app _ _ xn),kp _ _ _ _ _ _ l1 l2 hsl,C.pls.1,C.pls.2,kp _ _ _ _⟩
  ·intro xO
   rw[<-x2]
   simp only[Km,lE]
   simp[vp,ql]
  ·rw[qn]
   exact yL.trans rfl
 | true=>
  obtain⟨L,n,c,ks,x,e,x2,bb,K⟩:=C.abD hs hw
  obtain⟨Y2,dd,sl2,et,hd2,hs2,xd,xs⟩:=RZ (i:=i) (p:=p) (q:=q) (V:=2 ^ i) (T:=T0+1) (s:=s) (e:=eT bt T0 es) (b:=b) (l:=b+es.length) (X:=Q M A P (gU M P i A c (T0+1) x x) (tU i (2 ^ i) p q (T0+1) s) ks L) C.hi hs
  rw[ql]at hd2
  rw[qa]at et xd xs
  refine⟨_,Q M A P (gU M P i A c (T0+1) x x) (tU i (2 ^ i) p q (T0+1) s) ks (L++Y2),_,sl2,dd,_,e,?_,⟨(),.inr ⟨rfl,_,c,ks,x,bb,2 ^ i,rfl,K.app,xd⟩⟩,qn.trans (Gr.app _ _ x2),xs,J5.1,J5.2,kp _ _ _ _⟩
  obtain⟨v,hv⟩:∃v:Int,v=((2 ^ i:Nat):Int):=⟨_,rfl⟩
  rw[<-hv]at et ⊢
  intro xO
  simp only[Km,lE]
  unfold vP
  simp[-Int.natCast_pow,et]
end
theorem afj(ns:List Int)(_:ns.length<=63):∃M,adt [.cl (ns.map D.int)] []= .ok (.bl true) M:=by
 have c0:=λM=>Hs (M:=M) ns 0 (kk:=0) rfl
 have c3:=λM=>Hs (M:=M) ns 3 (kk:=3) rfl
 have c4:=λM=>Hs (M:=M) ns 4 (kk:=4) rfl
 have cu:∀(M:Mem) (lo hi:Option Int),Zy (D.cl (ns.map D.int)) lo hi M= .ok (.ref M.length) (M++[.lst ((cut ns lo hi).map D.int)]):=λM lo hi=>by rw[aea,acL]
 obtain⟨i,hi,ei⟩:=Wu (cell ns 0)
 obtain⟨p,p0,p1,ep⟩:=Wo (M:=[]) (cell ns 3) hi
 obtain⟨sc,hsc⟩:∃sc,sc=D.cl (ns.map D.int):=⟨_,rfl⟩
 obtain⟨q,q1,e1⟩:∃q:Nat,q<2 ^ 60/\Ko [some sc,some (.int i),some (.tup [.int p,.int 0]),none,none,none,none,none,none,none,none,none,none,none,none,none,none,none] []= .next [some sc,some (.int i),some (.tup [.int p,.int q]),none,none,none,none,none,none,none,none,none,none,none,none,none,none,none] []:=by
  rw[<-hsc]at c0 c4
  have m2:∀(z:Int) (M:Mem),qj (.int z) (.int 2) M= .ok (.int (z % 2)) M:=λz M=>rT ()
  by_cases h1:cell ns 0 / 60 % 2=1
  ·obtain⟨q,_,q1,eq⟩:=Wo (M:=[]) (cell ns 4) hi
   refine⟨q,q1,?_⟩
   simp only[Ko]
   simp[c0,d60,m2,h1,c4,eq]
  ·refine⟨0,by decide,?_⟩
   simp only[Ko]
   simp[c0,d60,m2,h1]
 obtain⟨M1,bk,rb,lb,k,b,bt,T0,es,e2,B,R,K,hes,hk,b0,b1⟩:=ace (M:=[]) ns i (.tup [.int p,.int q])
 rw[<-hsc]at c0 c3 c4 cu e2 ⊢
 have hm:=Yh (M:=M1++[.lst []]) (P:=M1.length) (me:=i) (Gr.app _ _ B) (Gr.app _ _ R) (Gr.app _ _ K)
 obtain⟨A,hA⟩:∃A,A=(M1++[MO.lst []]).length:=⟨_,rfl⟩
 rw[<-hA]at hm
 obtain⟨M3,hM3⟩:∃M3,M3=M1++[.lst []]++[fU i M1.length T0 .non (A+1) b b (A+3) .non (A+6),oH b bt (.tup [.int p,.int q]) (A+2),.lst es,KR (A+4) (A+5),.dk [],.dk [],.ins 7 []]:=⟨_,rfl⟩
 rw[<-hM3]at hm
 have C3:At M3 A M1.length i T0 b bt p q es:=by
  refine⟨?_,?_,?_,?_,?_,by rw[hA];simp,hi,p1,q1,?_,by rw[hes];simp;omega,b0,b1⟩
  ·rw[hM3,hA];exact yL.trans rfl
  ·rw[hM3,hA];exact ag.trans rfl
  ·rw[hM3,hA];exact ag.trans rfl
  ·rw[hM3,hA];exact ag.trans rfl
  ·rw[hM3];exact Gr.app _ _ (yL.trans rfl)
  ·intro j hj
   rw[hes]at hj ⊢
   rw[List.getElem?_replicate,if_pos (by simpa using hj)]
 have CA:∀Y:Mem,At (M3++Y) A M1.length i T0 b bt p q es:=λY=>{C3 with o:=Gr.app _ _ C3.o,r:=Gr.app _ _ C3.r,k:=Gr.app _ _ C3.k,z:=Gr.app _ _ C3.z,p0:=Gr.app _ _ C3.p0}
 have hlt:=C3.lt
 have hpa:=C3.pa
 have e3:=QS (X:=M3) (p ||| q)
 have e4:=abp (X:=M3++[.lst (hv (HM.aN (p ||| q)))]) (i:=i) (p:=p) (q:=q) (sm:=M3.length) (T:=T0+1) (b:=b) (bt:=bt) (T0:=T0) (es:=es) (yL.trans rfl)
 obtain⟨Y,e5⟩:=aax (X:=M3++[.lst (hv (HM.aN (p ||| q)))]++[.lst (RL i p q b bt T0 es)]) (2 ^ i) p q
 obtain⟨M5,hM5⟩:∃M5,M5=M3++[.lst (hv (HM.aN (p ||| q)))]++[.lst (RL i p q b bt T0 es)]++Y:=⟨_,rfl⟩
 have C5:At M5 A M1.length i T0 b bt p q es:=by
  rw[hM5,List.append_assoc,List.append_assoc]
  exact CA _
 have x1:M5[M3.length]? = some (.lst (hv (HM.aN (p ||| q)))):=by rw[hM5];exact Gr.app _ _ (Gr.app _ _ (yL.trans rfl))
 have x2:M5[M3.length+1]? = some (.lst (RL i p q b bt T0 es)):=by rw[hM5];exact Gr.app _ _ (by rw[List.append_assoc];exact ag.trans rfl)
 rw[<-hM5]at e5
 obtain⟨X,X2,f,sl',due,ds,er,el2,j,xf,xs,hp,hl,kp⟩:=C5.ath (x0:=some sc) (x3:=some (.ref bk)) (sm:=M3.length) (s14:=none) (Gg:=none) (JR:=none) (Di:=none) (s:=b+es.length+1) rfl x2 () ()
 obtain⟨G3,_,e6⟩:=j.cmp C5 (x0:=some sc) (x3:=some (.ref bk)) (en:=vP b bt T0 es) (sm:=M3.length) (Gg:=none) (JR:=none) (Di:=none) (Xl:=some (.int (2 ^ i:Nat))) (s12:=some (.bl (p8 (2 ^ i) p q))) xf xs hp hl
 have aAt:M3.length+1<M5.length:=Ef x2
 have hlX:M5.length<=X2.length:=by
  have:=Ef xs
  obtain⟨_,_,h2,_⟩:=j.pap C5
  have:=Ef h2
  have:=j.1
  omega
 have j2:=(j.app G3).app [.lst ((cut ns (some 5) (some 55)).map D.int)]
 obtain⟨hh,hhe⟩:∃hh,hh=HM.aN (p ||| q):=⟨_,rfl⟩
 have hh0:0<hh.length:=by
  rw[hhe]
  exact afx (yA p0 Nat.left_le_or) (Nat.or_lt_two_pow p1 q1)
 have hh1:∀w∈hh,w<60:=λw h=>by
  rw[hhe]at h
  exact(HM.xV.mp h).1
 have hlG:M5.length<=(X2++G3).length:=by simp;omega
 obtain⟨V,cb,zj,HB,xO,JR,Di,a,X4,e7,j4⟩:=JS.all C5 (x0:=some sc) (x3:=some (.ref bk)) (sm:=M3.length) (hh:=hh) (y:=(X2++G3).length) (us:=(cut ns (some 5) (some 55)).map D.int) rfl hh0 hh1 () () () () (cut ns (some 5) (some 55)) (HB:=some (.ref sl')) (xO:=some (.ref f)) (JR:=none) (Di:=none) (a:=0) j2 (yL.trans rfl) (Gr.app _ _ (Gr.app _ _ (by rw[hhe];exact kp _ _ () () x1)))
 obtain⟨_,_,f2,_,f3,f4⟩:=j4.hand C5
 obtain⟨ch,hch⟩:∃ch,ch=if cb=true then D.int i else .non:=⟨_,rfl⟩
 rw[<-hch]at f4
 obtain⟨G5,e8⟩:=Rx (VR (M:=X4++[.lst [.int (T0+1),.int i,ch],.lst [.non,.int i],.lst [.int (T0+1),.int i,ch]]) (x:=X4.length) (y:=X4.length+2) (ds:=[.int (T0+1),.int i,ch]) (yL.trans rfl) (ag.trans rfl) (λd hd=>by
  simp only[List.mem_cons,List.not_mem_nil,or_false]at hd
  rcases hd with rfl | rfl | rfl
  ·rfl
  ·rfl
  ·rw[hch]
   split<;>rfl) (by simp))
 refine⟨_,acA (nY (e':=[some (sc),some (.int i),none,none,none,none,none,none,none,none,none,none,none,none,none,none,none,none]) (M':=[]) ?_ (nY (e':=[some (sc),some (.int i),some (.tup [.int p,.int 0]),none,none,none,none,none,none,none,none,none,none,none,none,none,none,none]) (M':=[]) ?_ (nY e1 (nY (e':=[some (sc),some (.int i),some (.tup [.int p,.int q]),some (.ref bk),some (.int (T0+1)),some (vP b bt T0 es),some (.int b),none,none,none,none,none,none,none,none,none,none,none]) (M':=M1) ?_ (nY (e':=[some (sc),some (.int i),some (.tup [.int p,.int q]),some (.ref bk),some (.int (T0+1)),some (vP b bt T0 es),some (.int b),some (.ref M1.length),none,none,none,none,none,none,none,none,none,none]) (M':=M1++[.lst []]) ?_ (nY (e':=[some (sc),some (.int i),some (.tup [.int p,.int q]),some (.ref bk),some (.int (T0+1)),some (vP b bt T0 es),some (.int b),some (.ref M1.length),some (.ref A),none,none,none,none,none,none,none,none,none]) (M':=M3) ?_ (nY (e':=[some (sc),some (.int i),some (.tup [.int p,.int q]),some (.ref bk),some (.int (T0+1)),some (vP b bt T0 es),some (.int b),some (.ref M1.length),some (.ref A),some (.ref M3.length),none,none,none,none,none,none,none,none]) (M':=M3++[.lst (hv (HM.aN (p ||| q)))]) ?_ (nY (e':=[some (sc),some (.int i),some (.tup [.int p,.int q]),some (.ref bk),some (.int (T0+1)),some (vP b bt T0 es),some (.int b),some (.ref M1.length),some (.ref A),some (.ref M3.length),some (.ref (M3.length+1)),none,none,none,none,none,none,none]) (M':=M3++[.lst (hv (HM.aN (p ||| q)))]++[.lst (RL i p q b bt T0 es)]) ?_ (nY (e':=[some (sc),some (.int i),some (.tup [.int p,.int q]),some (.ref bk),some (.int (T0+1)),some (vP b bt T0 es),some (.int b),some (.ref M1.length),some (.ref A),some (.ref M3.length),some (.ref (M3.length+1)),some (.int (2 ^ i:Nat)),none,none,none,none,none,none]) (M':=M3++[.lst (hv (HM.aN (p ||| q)))]++[.lst (RL i p q b bt T0 es)]) ?_ (nY (e':=[some (sc),some (.int i),some (.tup [.int p,.int q]),some (.ref bk),some (.int (T0+1)),some (vP b bt T0 es),some (.int b),some (.ref M1.length),some (.ref A),some (.ref M3.length),some (.ref (M3.length+1)),some (.int (2 ^ i:Nat)),some (.bl (p8 (2 ^ i) p q)),none,none,none,none,none]) (M':=M5) ?_ (nY (e':=[some (sc),some (.int i),some (.tup [.int p,.int q]),some (.ref bk),some (.int (T0+1)),some (vP b bt T0 es),some (.int b),some (.ref M1.length),some (.ref A),some (.ref M3.length),some (.ref (M3.length+1)),some (.int (2 ^ i:Nat)),some (.bl (p8 (2 ^ i) p q)),some (.ref f),none,none,none,none]) (M':=X) ?_ (nY (el2 (some (.ref f))) (nY e6 (nY (e':=lE (some sc) (some (.ref bk)) i p q (T0+1) b (vP b bt T0 es) M1.length A M3.length (some (.ref sl')) (some (.int (2 ^ i:Nat))) (some (.bl (p8 (2 ^ i) p q))) (some (.ref f)) (some (.ref due)) (some (.int 0)) none none) (M':=X2++G3) ?_ (nY (e':=lE (some sc) (some (.ref bk)) i p q (T0+1) b (vP b bt T0 es) M1.length A M3.length HB (some (.int V)) (some (.bl cb)) xO (some (.ref zj)) (some (.int a)) JR Di) (M':=X4) ?_ (Q9 (d:= .bl true) (M':=X4++[.lst [.int (T0+1),.int i,ch],.lst [.non,.int i],.lst [.int (T0+1),.int i,ch]]++G5) ?_))))))))))))))))⟩
 ·simp[c0,m60,ei]
 ·simp[c3,ep]
 ·unfold vP at e2 ⊢
  simp[e2]
 ·simp
 ·obtain⟨Z,hZ⟩:∃Z,Z=M1++[MO.lst []]:=⟨_,rfl⟩
  rw[<-hZ]at hm hA ⊢
  simp[ach,<-hA,hm]
 ·have ob:Builtin.bitOr (p:Int) (q:Int)=((p ||| q:Nat):Int):=HM.yK p q
  obtain⟨m,hmm⟩:∃m:Int,m=((p ||| q:Nat):Int):=⟨_,rfl⟩
  rw[<-hmm]at ob e3
  simp[uf,ob,e3]
 ·have it:Mz (.ref M3.length) (M3++[.lst (hv (HM.aN (p ||| q)))])= .ok ⟨some (M3.length,hv (HM.aN (p ||| q))),hv (HM.aN (p ||| q))⟩ _:=qt (yL.trans rfl)
  have ln:(M3++[MO.lst (hv (HM.aN (p ||| q)))]).length=M3.length+1:=by simp
  rw[ln]at e4
  obtain⟨Z,hZ⟩:∃Z,Z=M3++[MO.lst (hv (HM.aN (p ||| q)))]:=⟨_,rfl⟩
  rw[<-hZ]at it e4 ⊢
  have e4':sY (some (M3.length,hv (HM.aN (p ||| q)))) (bA (aM sNe (au 0) (au 1))) (fQ (aq (mC (.str "please")) (aq (au 1) (aq (au 0) (aq (au 2) (aq (au 3) aH)))))) [some (.int i),some (.int (T0+1)),some (vP b bt T0 es)] (hv (HM.aN (p ||| q))) [] Z= .ok (.ref (M3.length+1)) (Z++[.lst (RL i p q b bt T0 es)]):=e4
  simp[it,rO,e4']
 ·simp[Xe (j:=i) (),-Int.natCast_pow]
 ·obtain⟨v,hvv⟩:∃v:Int,v=((2 ^ i:Nat):Int):=⟨_,rfl⟩
  obtain⟨Z,hZ⟩:∃Z,Z=M3++[.lst (hv (HM.aN (p ||| q)))]++[.lst (RL i p q b bt T0 es)]:=⟨_,rfl⟩
  rw[<-hvv,<-hZ]at e5 ⊢
  simp[e5]
 ·have i1:dh 11 "ring" (.ref A) M5=true:=cT C5.o rfl
  simp[-Int.natCast_pow,i1,er]
 ·simp[lE]
 ·have it:Mz (.ref (X2++G3).length) (X2++G3++[.lst ((cut ns (some 5) (some 55)).map D.int)])= .ok ⟨some ((X2++G3).length,(cut ns (some 5) (some 55)).map D.int),(cut ns (some 5) (some 55)).map D.int⟩ _:=qt (yL.trans rfl)
  obtain⟨Z,hZ⟩:∃Z,Z=X2++G3:=⟨_,rfl⟩
  rw[<-hZ]at it e7 ⊢
  simp only[Tp]
  simp only[lE]at e7 ⊢
  simp[cu,it,-Int.natCast_pow,e7]
 ·have nt:∀(b:Bool) (M:Mem),Qk [.bl b] M= .ok (.int (if b=true then 1 else 0)) M:=λb M=>by cases b<;>rfl
  have ix:∀M:Mem,M[X4.length+1]? = some (.lst [.non,.int i])->fP (.ref (X4.length+1)) (.int (if cb=true then 1 else 0)) M= .ok ch M:=λM h=>by
   rw[hch]
   cases cb with
   | false=>exact xQ h (by simp) rfl
   | true=>exact xQ h (by simp) rfl
  have ix':=ix (X4++[.lst [.int (T0+1),.int i,ch],.lst [.non,.int i]]) (ag.trans rfl)
  simp only[lE]
  simp[f2,f3,f4,nt,ix',e8]
def top(i:Nat):Stmt:=PySem.Challenge.pw_chairvote_k33_votes_that_win.main.body.getD i (.Pass ⟨0,0,0,0⟩)
abbrev iu:Stmt:=top 29
abbrev mG:Stmt:=top 34
abbrev mQ:Stmt:=inClass (top 7) 0
abbrev mK:Stmt:=inClass (top 7) 17
abbrev jW:Stmt:=inClass (top 9) 0
abbrev mH:Stmt:=top 37
abbrev jf:Stmt:=inClass (top 23) 0
abbrev mD:Stmt:=top 24
abbrev lZ:Stmt:=inClass (top 27) 0
abbrev jQ:Stmt:=top 31
abbrev iw:Stmt:=top 32
abbrev mF:Stmt:=top 33
abbrev fO:Stmt:=inClass (top 27) 3
abbrev jg:Stmt:=inClass (top 27) 6
abbrev dB:Stmt:=inClass (top 27) 2
abbrev eO:Stmt:=inClass (top 27) 7
abbrev rR:Stmt:=top 11
abbrev jk:Stmt:=inClass (top 20) 0
abbrev mO:Stmt:=inClass (top 7) 2
abbrev jT:Stmt:=inClass (top 7) 4
abbrev gk:Stmt:=inClass (top 7) 5
abbrev iz:Stmt:=inClass (top 7) 6
abbrev pA:Stmt:=inClass (top 7) 3
abbrev mJ:Stmt:=top 12
abbrev o_:Stmt:=top 14
abbrev cJ:Stmt:=inClass (top 7) 7
abbrev iB:Stmt:=inClass (top 7) 8
abbrev mL:Stmt:=inClass (top 7) 9
abbrev iD:Stmt:=inClass (top 27) 4
abbrev zX:Stmt:=top 13
abbrev rC:Stmt:=top 15
abbrev Ca:Stmt:=top 16
abbrev ji:Stmt:=inClass (top 21) 0
abbrev pq:Stmt:=inClass (top 7) 11
abbrev cZ:Stmt:=inClass (top 21) 2
abbrev bW:Stmt:=inClass (top 21) 4
abbrev iC:Stmt:=inClass (top 7) 1
abbrev eN:Stmt:=inClass (top 27) 12
abbrev fM:Stmt:=inClass (top 27) 11
abbrev cA:Stmt:=inClass (top 21) 7
abbrev gm:Stmt:=inClass (top 21) 5
abbrev eG:Stmt:=inClass (top 27) 24
abbrev bQ:Stmt:=inClass (top 27) 23
abbrev dG:Stmt:=inClass (top 27) 26
abbrev eE:Stmt:=inClass (top 7) 10
abbrev cL:Stmt:=inClass (top 27) 31
abbrev bC:Stmt:=inClass (top 27) 25
abbrev gb:Stmt:=inClass (top 27) 22
abbrev b_:Stmt:=inClass (top 27) 10
abbrev dD:Stmt:=inClass (top 27) 9
abbrev cX:Stmt:=inClass (top 27) 8
abbrev jV:Stmt:=inClass (top 27) 5
abbrev jP:Stmt:=top 36
abbrev jR:Stmt:=top 30
abbrev jO:Stmt:=top 35
abbrev cY:Stmt:=inClass (top 27) 14
abbrev eU:Stmt:=inClass (top 20) 2
abbrev eF:Stmt:=inClass (top 27) 16
abbrev jU:Stmt:=inClass (top 27) 13
abbrev jj:Stmt:=inClass (top 20) 1
abbrev jh:Stmt:=inClass (top 21) 1
abbrev Gf:Stmt:=top 38
set_option genInjectivity false in
structure Adr where
 uv:Addr
 uB:FuncData
 Am:Addr
 A_:FuncData
 Aw:Addr
 Bf:FuncData
 Aq:Addr
 Bc:FuncData
 yx:Addr
 yH:FuncData
 An:Addr
 Ba:FuncData
 wu:Addr
 wG:FuncData
 Aj:Addr
 Ay:FuncData
 yw:Addr
 uX:FuncData
 Je:Addr
 yq:Addr
 yD:FuncData
 uw:Addr
 uC:FuncData
 Ak:Addr
 Az:FuncData
 qM:Addr
 qO:FuncData
 wz:Addr
 wH:FuncData
 nZ:Addr
 oh:FuncData
 pK:Addr
 pR:FuncData
 Hl:Addr
 Hq:FuncData
 wD:Addr
 wL:FuncData
 Av:Addr
 Be:FuncData
 yr:Addr
 yE:FuncData
 sI:Addr
 sS:FuncData
 ux:Addr
 uD:FuncData
 Dz:Addr
 DN:FuncData
 Ao:Addr
 Bb:FuncData
 Dv:Addr
 DG:FuncData
 lu:Addr
 lA:FuncData
 uy:Addr
 uE:FuncData
 Ar:Addr
 Bd:FuncData
 uA:Addr
 uG:FuncData
 Rb:Addr
 Rg:FuncData
 Dw:Addr
 zQ:FuncData
 Ol:Addr
 Ra:Addr
 Nb:FuncData
 Y5:Addr
 wB:Addr
 wJ:FuncData
 Dy:Addr
 DK:FuncData
 mY:Addr
 m7:FuncData
 jF:Addr
 jG:FuncData
 uz:Addr
 uF:FuncData
 pJ:Addr
 pQ:FuncData
 qL:Addr
 qN:FuncData
 j7:Addr
 j8:FuncData
 sJ:Addr
 sU:FuncData
 pI:Addr
 pP:FuncData
 jm:Addr
 jo:FuncData
 n_:Addr
 oA:FuncData
 pG:Addr
 pN:FuncData
 lz:Addr
 lB:FuncData
 fK:Addr
 fL:FuncData
 qC:Addr
 qD:FuncData
 jb:Addr
 jc:FuncData
 n8:Addr
 ou:FuncData
 mW:Addr
 mZ:FuncData
 yu:Addr
 yG:FuncData
 yp:Addr
 yC:FuncData
 uV:Addr
 uW:FuncData
 yo:Addr
 yz:FuncData
 mX:Addr
 m6:FuncData
 pL:Addr
 pU:FuncData
 pH:Addr
 pO:FuncData
 yt:Addr
 yF:FuncData
 wC:Addr
 wK:FuncData
 wA:Addr
 wI:FuncData
 O_:Addr
 Hr:FuncData
 qF:Addr
 Bh:Addr
 Bg:Addr
 dJ:Addr
 oE:Addr
 gK:Addr
 uZ:Addr
 Bp:Addr
 Bq:Addr
 Jx:Tok
structure Txt(K:Frag)(mg:Str->Option Value)(t:Adr):Prop where
 fJ:bw K "_law_cell_at" "_law_cell_at" iu .none t.uv t.uB
 dm:Binds K t.uB ["_law_script","_law_k"] []
 gA:mg "_law_cell_at" = some (.ref t.uv)
 yc:bw K "_law_part" "_law_part" mG .none t.Am t.A_
 kJ:Binds K t.A_ ["_law_cell","_law_me"] []
 Cp:mg "_law_part" = some (.ref t.Am)
 JC:bw K "__init__" "Row.__init__" mQ .none t.Aw t.Bf
 rA:Binds K t.Bf ["self","base","base_term","base_roll","entries"] []
 EY:Mk K t.qF t.Aw
 Jy:bw K "twin" "Row.twin" mK .none t.Aq t.Bc
 rz:Binds K t.Bc ["self"] []
 Cr:Meth K t.qF "twin" t.Aq
 Hh:bw K "__init__" "Book.__init__" jW .none t.yx t.yH
 rM:Binds K t.yH ["self","term","vote","row","kept"] []
 Dm:Mk K t.Bh t.yx
 CQ:bw K "_law_made" "_law_made" mH .none t.An t.Ba
 xJ:Binds K t.Ba ["_law_script","_law_me","_law_roll"] []
 Jp:mg "_law_made" = some (.ref t.An)
 Eg:bw K "__init__" "Shelf.__init__" jf .none t.wu t.wG
 pW:Binds K t.wG ["self"] []
 zF:Mk K t.Bg t.wu
 CP:bw K "shelf_of" "shelf_of" mD .none t.Aj t.Ay
 t8:Binds K t.Ay ["told"] []
 Jo:mg "shelf_of" = some (.ref t.Aj)
 Hg:bw K "__init__" "Hand.__init__" lZ (.ref t.Je) t.yw t.uX
 rK:Binds K t.uX ["self","me","book","note"] []
 Rt:Binds K t.uX ["self","me","book","note"] [.none]
 Dl:Mk K t.dJ t.yw
 pF:bw K "_law_hands" "_law_hands" jQ .none t.yq t.yD
 j9:Binds K t.yD ["_law_some"] []
 rY:mg "_law_hands" = some (.ref t.yq)
 sG:bw K "_law_carries" "_law_carries" iw .none t.uw t.uC
 kO:Binds K t.uC ["_law_some","_law_part_here"] []
 wZ:mg "_law_carries" = some (.ref t.uw)
 uR:bw K "_law_wins" "_law_wins" mF .none t.Ak t.Az
 kI:Binds K t.Az ["_law_roll","_law_some"] []
 xU:mg "_law_wins" = some (.ref t.Ak)
 zO:bw K "is_chair" "Hand.is_chair" fO .none t.qM t.qO
 iY:Binds K t.qO ["self"] []
 tY:Meth K t.dJ "is_chair" t.qM
 Eh:bw K "enter" "Hand.enter" jg .none t.wz t.wH
 pX:Binds K t.wH ["self","term"] []
 Eb:Meth K t.dJ "enter" t.wz
 xr:bw K "tell_paper" "Hand.tell_paper" dB .none t.nZ t.oh
 bV:Binds K t.oh ["self","paper"] []
 dW:Meth K t.dJ "tell_paper" t.nZ
 yj:bw K "give_vote" "Hand.give_vote" eO .none t.pK t.pR
 jx:Binds K t.pR ["self","whom"] []
 xZ:Meth K t.dJ "give_vote" t.pK
 zM:bw K "set_of" "set_of" rR .none t.Hl t.Hq
 u9:Binds K t.Hq ["hands"] []
 Dn:mg "set_of" = some (.ref t.Hl)
 El:bw K "__init__" "Asker.__init__" jk .none t.wD t.wL
 p7:Binds K t.wL ["self","me"] []
 zH:Mk K t.oE t.wD
 JB:bw K "last" "Row.last" mO .none t.Av t.Be
 gZ:Binds K t.Be ["self"] []
 jY:Meth K t.qF "last" t.Av
 G9:bw K "keeps" "Row.keeps" jT .none t.yr t.yE
 rJ:Binds K t.yE ["self","place"] []
 Gz:Meth K t.qF "keeps" t.yr
 Bt:bw K "entry_at" "Row.entry_at" gk .none t.sI t.sS
 gB:Binds K t.sS ["self","place"] []
 nq:Meth K t.qF "entry_at" t.sI
 CT:bw K "term_at" "Row.term_at" iz .none t.ux t.uD
 iJ:Binds K t.uD ["self","place"] []
 rZ:Meth K t.qF "term_at" t.ux
 MP:bw K "end" "Row.end" pA .none t.Dz t.DN
 wQ:Binds K t.DN ["self"] []
 Mh:Meth K t.qF "end" t.Dz
 yd:bw K "hands_of" "hands_of" mJ .none t.Ao t.Bb
 rm:Binds K t.Bb ["S"] []
 Cq:mg "hands_of" = some (.ref t.Ao)
 Fl:bw K "members" "members" o_ .none t.Dv t.DG
 wO:Binds K t.DG ["roll"] []
 L_:mg "members" = some (.ref t.Dv)
 uT:bw K "roll_place_by" "Row.roll_place_by" cJ .none t.lu t.lA
 dz:Binds K t.lA ["self","place"] []
 oK:Meth K t.qF "roll_place_by" t.lu
 CV:bw K "roll_by" "Row.roll_by" iB .none t.uy t.uE
 kW:Binds K t.uE ["self","place"] []
 Cu:Meth K t.qF "roll_by" t.uy
 Jz:bw K "roll" "Row.roll" mL .none t.Ar t.Bd
 jD:Binds K t.Bd ["self"] []
 rE:Meth K t.qF "roll" t.Ar
 CZ:bw K "others" "Hand.others" iD .none t.uA t.uG
 kY:Binds K t.uG ["self"] []
 xm:Meth K t.dJ "others" t.uA
 G8:bw K "many" "many" zX .none t.Rb t.Rg
 Dd:Binds K t.Rg ["S"] []
 Kd:mg "many" = some (.ref t.Rb)
 Ai:bw K "carries" "carries" rC (.ref t.Ol) t.Dw t.zQ
 t_:Binds K t.zQ ["S","part","half"] []
 VL:Binds K t.zQ ["S","part","half"] [.bool false]
 E_:mg "carries" = some (.ref t.Dw)
 Kq:bw K "wins" "wins" Ca (.ref t.Y5) t.Ra t.Nb
 Ft:Binds K t.Nb ["roll","S","half"] []
 Rr:Binds K t.Nb ["roll","S","half"] [.bool false]
 QK:mg "wins" = some (.ref t.Ra)
 Ej:bw K "__init__" "Chair.__init__" ji .none t.wB t.wJ
 pZ:Binds K t.wJ ["self","me","start"] []
 zG:Mk K t.gK t.wB
 MN:bw K "put" "Row.put" pq .none t.Dy t.DK
 ud:Binds K t.DK ["self","entry"] []
 Fb:Meth K t.qF "put" t.Dy
 vN:bw K "begin_beat" "Chair.begin_beat" cZ .none t.mY t.m7
 ie:Binds K t.m7 ["self"] []
 vG:Meth K t.gK "begin_beat" t.mY
 sH:bw K "first_to_tell" "Chair.first_to_tell" bW .none t.jF t.jG
 fD:Binds K t.jG ["self","hand"] []
 su:Meth K t.gK "first_to_tell" t.jF
 CW:bw K "entries" "Row.entries" iC .none t.uz t.uF
 nO:Binds K t.uF ["self"] []
 Cv:Meth K t.qF "entries" t.uz
 yh:bw K "letter_to" "Hand.letter_to" eN .none t.pJ t.pQ
 jw:Binds K t.pQ ["self","hand"] []
 xY:Meth K t.dJ "letter_to" t.pJ
 zN:bw K "tell_all" "Hand.tell_all" fM .none t.qL t.qN
 iW:Binds K t.qN ["self"] []
 tX:Meth K t.dJ "tell_all" t.qL
 tM:bw K "places_known" "Chair.places_known" cA .none t.j7 t.j8
 fZ:Binds K t.j8 ["self","last"] []
 tD:Meth K t.gK "places_known" t.j7
 Bu:bw K "having" "Chair.having" gm .none t.sJ t.sU
 iQ:Binds K t.sU ["self","place"] []
 qI:Meth K t.gK "having" t.sJ
 yg:bw K "place_won" "Hand.place_won" eG .none t.pI t.pP
 g_:Binds K t.pP ["self"] []
 xX:Meth K t.dJ "place_won" t.pI
 rG:bw K "place_to_settle" "Hand.place_to_settle" bQ .none t.jm t.jo
 cD:Binds K t.jo ["self"] []
 lH:Meth K t.dJ "place_to_settle" t.jm
 xF:bw K "do_settled" "Hand.do_settled" dG .none t.n_ t.oA
 gC:Binds K t.oA ["self"] []
 qQ:Meth K t.dJ "do_settled" t.n_
 ye:bw K "roll_place" "Row.roll_place" eE .none t.pG t.pN
 gY:Binds K t.pN ["self"] []
 sr:Meth K t.qF "roll_place" t.pG
 uU:bw K "answer_looks" "Hand.answer_looks" cL .none t.lz t.lB
 fB:Binds K t.lB ["self"] []
 oO:Meth K t.dJ "answer_looks" t.lz
 jK:bw K "leave_double_roll" "Hand.leave_double_roll" bC .none t.fK t.fL
 bT:Binds K t.fL ["self"] []
 jJ:Meth K t.dJ "leave_double_roll" t.fK
 xx:bw K "settle" "Hand.settle" gb .none t.qC t.qD
 nQ:Binds K t.qD ["self"] []
 xj:Meth K t.dJ "settle" t.qC
 oX:bw K "put_and_tell" "Hand.put_and_tell" b_ .none t.jb t.jc
 gG:Binds K t.jc ["self","what"] []
 oN:Meth K t.dJ "put_and_tell" t.jb
 xu:bw K "take_chair" "Hand.take_chair" dD .none t.n8 t.ou
 iU:Binds K t.ou ["self"] []
 xg:Meth K t.dJ "take_chair" t.n8
 vL:bw K "count_votes" "Hand.count_votes" cX .none t.mW t.mZ
 dZ:Binds K t.mZ ["self"] []
 p_:Meth K t.dJ "count_votes" t.mW
 Hf:bw K "ring" "Hand.ring" jV .none t.yu t.yG
 u_:Binds K t.yG ["self"] []
 GD:Meth K t.dJ "ring" t.yu
 wj:bw K "_law_taken" "_law_taken" jP .none t.yp t.yC
 rH:Binds K t.yC ["_law_me","_law_term","_law_roll","_law_voters","_law_end","_law_base"] []
 z8:mg "_law_taken" = some (.ref t.yp)
 j6:bw K "_law_alike" "_law_alike" jR .none t.uV t.uW
 cC:Binds K t.uW ["_law_found","_law_due"] []
 mV:mg "_law_alike" = some (.ref t.uV)
 Ah:bw K "_law_votes" "_law_votes" jO .none t.yo t.yz
 mq:Binds K t.yz ["_law_cell","_law_some","_law_at"] []
 Gx:mg "_law_votes" = some (.ref t.yo)
 vM:bw K "answer_late" "Hand.answer_late" cY .none t.mX t.m6
 h_:Binds K t.m6 ["self","letter"] []
 vD:Meth K t.dJ "answer_late" t.mX
 ym:bw K "count_in" "Asker.count_in" eU .none t.pL t.pU
 jy:Binds K t.pU ["self","hand"] []
 x_:Meth K t.oE "count_in" t.pL
 yf:bw K "take_vote" "Hand.take_vote" eF .none t.pH t.pO
 g8:Binds K t.pO ["self","voter"] []
 xW:Meth K t.dJ "take_vote" t.pH
 G_:bw K "take" "Hand.take" jU .none t.yt t.yF
 mz:Binds K t.yF ["self","letter"] []
 GC:Meth K t.dJ "take" t.yt
 Ek:bw K "word" "Asker.word" jj .none t.wC t.wK
 p6:Binds K t.wK ["self"] []
 Ed:Meth K t.oE "word" t.wC
 Ei:bw K "word" "Chair.word" jh .none t.wA t.wI
 pY:Binds K t.wI ["self"] []
 Ec:Meth K t.gK "word" t.wA
 Vu:bw K "law" "law" Gf .none t.O_ t.Hr
 TX:Binds K t.Hr ["_law_script"] []
 aam:mg "law" = some (.ref t.O_)
 bu:Ny K t.qF
 Vd:mg "Row" = some (.ref t.qF)
 cI:dM K t.qF "base"
 eV:dM K t.qF "base_term"
 eY:dM K t.qF "base_roll"
 dw:dM K t.qF "kept"
 aW:Ny K t.Bh
 Ww:mg "Book" = some (.ref t.Bh)
 a_:dM K t.Bh "term"
 gw:dM K t.Bh "vote"
 bI:dM K t.Bh "row"
 cO:dM K t.Bh "kept"
 C_:Ny K t.Bg
 S_:mg "Shelf" = some (.ref t.Bg)
 gR:dM K t.Bg "amounts"
 gn:dM K t.Bg "answered"
 aC:Ny K t.dJ
 Wv:mg "Hand" = some (.ref t.dJ)
 cR:dM K t.dJ "me"
 mU:dM K t.dJ "note"
 aZ:dM K t.dJ "term"
 gq:dM K t.dJ "vote"
 bH:dM K t.dJ "row"
 cM:dM K t.dJ "kept"
 bU:dM K t.dJ "settled"
 jX:dM K t.dJ "done"
 nH:dM K t.dJ "shelf"
 iG:dM K t.dJ "chair"
 bf:dM K t.dJ "seat"
 uY:Ny K t.oE
 Mf:mg "Asker" = some (.ref t.oE)
 d9:dM K t.oE "voters"
 bG:Ny K t.gK
 Ma:mg "Chair" = some (.ref t.gK)
 b7:dM K t.gK "me"
 jA:dM K t.gK "start"
 fH:dM K t.gK "beat"
 lG:dM K t.gK "beats"
 d7:dM K t.gK "places"
 jB:dM K t.gK "looks"
 Iv:Mk0 K t.uZ
 Yo:Ny K t.uZ
 Ir:mg "Sitter" = some (.ref t.uZ)
 Im:S.OIs K t.uZ
 jM:kitOne K (.ref t.uZ) (.ref t.gK)=some false
 jN:kitOne K (.ref t.uZ) (.ref t.oE)=some false
 LQ:S.OIs K t.oE
 lR:kitOne K (.ref t.oE) (.ref t.gK)=some false
 lU:kitOne K (.ref t.oE) (.ref t.oE)=some true
 LK:S.OIs K t.gK
 lO:kitOne K (.ref t.gK) (.ref t.gK)=some true
 lQ:kitOne K (.ref t.gK) (.ref t.oE)=some false
 Bp:t.Hr.code= .ref t.Bp
 HN:t.Bq≠0
 Zb:PySem.W.tabIn K "law" = some (t.Bp,t.Bq)
 Iw:K.lookup t.Bq=none
 adu:mg "all" = none
 QM:mg "bool" = none
 O2:mg "int" = none
 dH:mg "isinstance" = none
 zJ:mg "len" = none
 Fg:mg "list" = none
 vX:mg "range" = none
 Mi:mg "reversed" = none
 adq:mg "set" = none
 Tc:mg "sorted" = none
 aap:mg "str" = none
 Kf:mg "tuple" = none
 Gy:mg "MOST_TOLD" = some (.int 4 t.Jx)
noncomputable def Og(t:Adr):Nat->Addr:=λk=>match k with
 | 4=>t.qF
 | 5=>t.Bh
 | 10=>t.Bg
 | 11=>t.dJ
 | 8=>t.oE
 | 9=>t.gK
 | 7=>t.uZ
 | 1000=>t.Bq
 | _=>0
section
variable{P:Program}{w:World}{K:Frag}{mg:Str->Option Value}{base:Heap}{t:Adr}
theorem Qf:uI ["_law_found","_law_due"] ["_law_found","_law_due"] (az jR):=qi
theorem gJ:uI ["_law_script","_law_me","_law_roll","_law_book","_law_term","_law_end","_law_base","_law_papers","_law_hand","_law_some","_law_sent","_law_voters","_law_chairs","_law_found","_law_due","_law_at","_law_cell","_law_whom"] ["_law_script"] (az Gf):=qi
abbrev rB{K:Frag}{mg:Str->Option Value}{t:Adr}(_:Txt K mg t)(f:Addr)(d:FuncData)(ps:List Str)(lv:Nat)(m:S.Fn)(ar:Nat):Prop:=∀{P:Program} {w:World} {base:Heap},lg P w K mg base (zq P w) lv f d ps (S.spS K (Og t) m ar)
theorem oJ(T:Txt K mg t):rB T t.uv t.uB ["_law_script","_law_k"] 1 (aY 2 dm) 2:=fX (st:=iu) ["_law_script","_law_k"] T.fJ qi λh n u=>
 (aB (dg (bN (VJ u) (aj 1) (cW vz rfl T.zJ vB (ak (aj 0) aA)) (bD _)) (aK (aU (dN u (aj 0) (aj 1)))) bM)
  (aK (aU aJ)))
theorem SX(T:Txt K mg t):rB T t.Am t.A_ ["_law_cell","_law_me"] 1 (aY 5 kJ) 2:=fX (st:=mG) ["_law_cell","_law_me","_law_way","_law_found","_law_k"] T.yc qi λh n u=>
 (aB (bx (i:=2) n rfl tL (aR oY (aj 0) aJ))
  (aB (bx (i:=0) n rfl tL (aR Fq (aj 0) aJ))
  (aB (dg (bN (oF u) (aj 2) aJ (bD _)) (aK (aU (aR xH aJ (aj 1)))) bM)
  (aB (dg (bN (oF u) (aj 2) aJ (bD _)) (aK (aU (aR iV aJ (aR oY (aj 0) aJ)))) bM)
  (aB (bx (i:=3) n rfl tL (aR xH aJ (aR oY (aj 0) aJ)))
  (aB (yO (ni rfl rfl) rfl (wM rfl T.vX (ak (aR Fq (aj 2) aJ) aA)) (ir (i:=4) n rfl tL) (aB (bx (i:=0) n rfl tL (aR iV (aR Fq (aj 0) aJ) (aR VH aJ (aj 4))))
  (aK (bx (i:=3) n rfl tL (aR JH (aj 3) (aR xH aJ (aR oY (aj 0) aJ)))))))
  (aB (dg (SW.pt (Oq (bN (oF u) (aj 2) aJ (bD _)) (HS (bN (oF u) (aj 2) aJ (bD _))))) (aK (bx (i:=3) n rfl tL (aR JH (aj 3) (aR xH aJ (aj 1))))) bM)
  (aK (aU (aj 3))))))))))
theorem Jl(T:Txt K mg t):rB T t.Aw t.Bf ["self","base","base_term","base_roll","entries"] 1 (aY 5 rA) 5:=fX (st:=mQ) ["self","base","base_term","base_roll","entries"] T.JC qi λh n u=>
 (aB (cP (cs:=[4]) ⟨⟨T.bu,T.cI⟩,jI⟩ (aj 0) (aj 1))
  (aB (cP (cs:=[4]) ⟨⟨T.bu,T.eV⟩,jI⟩ (aj 0) (aj 2))
  (aB (cP (cs:=[4]) ⟨⟨T.bu,T.eY⟩,jI⟩ (aj 0) (aj 3))
  (aK (cP (cs:=[4,5,11]) ⟨⟨T.bu,T.dw⟩,⟨⟨T.aW,T.cO⟩,⟨⟨T.aC,T.cM⟩,jI⟩⟩⟩ (aj 0) (zy WX rfl T.Fg DP (ak (aj 4) aA)))))))
theorem Jk(T:Txt K mg t):rB T t.Aq t.Bc ["self"] 3 (aY 1 rz) 1:=fX (st:=mK) ["self"] T.Jy qi λh n u=>
 (aK (aU (Df (kc:=4) T.EY (Jl T) iZ h.mo rfl T.Vd T.rA .nil (ak (aL (cs:=[4]) ⟨⟨T.bu,T.cI⟩,jI⟩ (aj 0)) (ak (aL (cs:=[4]) ⟨⟨T.bu,T.eV⟩,jI⟩ (aj 0)) (ak (aL (cs:=[4]) ⟨⟨T.bu,T.eY⟩,jI⟩ (aj 0)) (ak (aL (cs:=[4,5,11]) ⟨⟨T.bu,T.dw⟩,⟨⟨T.aW,T.cO⟩,⟨⟨T.aC,T.cM⟩,jI⟩⟩⟩ (aj 0)) aA)))))))
theorem QH(T:Txt K mg t):rB T t.yx t.yH ["self","term","vote","row","kept"] 4 (aY 5 rM) 5:=fX (st:=jW) ["self","term","vote","row","kept"] T.Hh qi λh n u=>
 (aB (cP (cs:=[5,11]) ⟨⟨T.aW,T.a_⟩,⟨⟨T.aC,T.aZ⟩,jI⟩⟩ (aj 0) (aj 1))
  (aB (cP (cs:=[5,11]) ⟨⟨T.aW,T.gw⟩,⟨⟨T.aC,T.gq⟩,jI⟩⟩ (aj 0) (aj 2))
  (aB (cP (cs:=[5,11]) ⟨⟨T.aW,T.bI⟩,⟨⟨T.aC,T.bH⟩,jI⟩⟩ (aj 0) (bh (kc:=4) (aj 3) T.bu T.Cr (Jk T) iZ h.mo T.rz .nil))
  (aK (cP (cs:=[4,5,11]) ⟨⟨T.bu,T.dw⟩,⟨⟨T.aW,T.cO⟩,⟨⟨T.aC,T.cM⟩,jI⟩⟩⟩ (aj 0) (aj 4))))))
theorem S5(T:Txt K mg t):rB T t.An t.Ba ["_law_script","_law_me","_law_roll"] 6 (aY 8 xJ) 3:=fX (st:=mH) ["_law_script","_law_me","_law_roll","_law_term","_law_base","_law_low","_law_entries","_law_end"] T.CQ qi λh n u=>
 (aB (bx (i:=3) n rfl (Or.inr rfl) (aR oY (bK (oJ T) iZ h.mo rfl T.gA T.fJ.kp T.dm .nil (ak (aj 0) (ak aJ aA))) (aR agB aJ aJ)))
  (aB (bx (i:=4) n rfl tL aJ)
  (aB (bx (i:=5) n rfl tL aJ)
  (aB (dg (SW.pt (KJ (bN (oF u) (aR oY (bK (oJ T) iZ h.mo rfl T.gA T.fJ.kp T.dm .nil (ak (aj 0) (ak aJ aA))) aJ) aJ (bD _)) (FT (bN Ht (aj 3) aJ (bD _))))) (aB (bx (i:=4) n rfl tL (aR iV aJ (aR oY (aR Fq (bK (oJ T) iZ h.mo rfl T.gA T.fJ.kp T.dm .nil (ak (aj 0) (ak aJ aA))) aJ) aJ)))
  (aK (bx (i:=5) n rfl tL aJ))) bM)
  (aB (bx (i:=6) n rfl tL (gO aA))
  (aB (dg (bN Ht (aj 3) aJ (bD _)) (aK (Qc (k:=6) rfl ["_law_term"] [3] n rfl rfl (wM rfl T.vX (ak (aR oY (aR Fq (bK (oJ T) iZ h.mo rfl T.gA T.fJ.kp T.dm .nil (ak (aj 0) (ak aJ aA))) aJ) aJ) aA)) ⟨⟨rfl,rfl,by first | exact .inl rfl | exact .inr rfl⟩,jI⟩ (λ_ _ _ _ _=>FZ) (λ_ _ _ _ _=>(bO (ak (aj 1) (ak (bO (ak cF aA)) aA)))) (by decide +kernel) (by decide +kernel) (by decide +kernel) (by decide +kernel))) bM)
  (aB (bx (i:=7) n rfl tL (bO (ak (aj 5) (ak (aj 4) aA))))
  (aB (dg (bN (yJ u) (aj 6) (gO aA) (bD _)) (aK (bx (i:=7) n rfl tL (bO (ak (aj 3) (ak (aR iV (aj 4) (cW vz rfl T.zJ vB (ak (aj 6) aA))) aA))))) bM)
  (aK (aU (bO (ak (Df (kc:=5) T.Dm (QH T) iZ h.mo rfl T.Ww T.rM .nil (ak (aj 3) (ak wV (ak (Df (kc:=4) T.EY (Jl T) iZ h.mo rfl T.Vd T.rA .nil (ak (aj 4) (ak (aj 5) (ak (aj 2) (ak (aj 6) aA))))) (ak (bO (ak (bO aA) (ak (bO aA) aA))) aA))))) (ak (aR iV (aj 3) aJ) (ak (aj 7) (ak (aj 4) aA)))))))))))))))
theorem N5(T:Txt K mg t):rB T t.wu t.wG ["self"] 1 (aY 1 pW) 1:=fX (st:=jf) ["self"] T.Eg qi λh n u=>
 (aB (cP (cs:=[10]) ⟨⟨T.C_,T.gR⟩,jI⟩ (aj 0) J7)
  (aK (cP (cs:=[10]) ⟨⟨T.C_,T.gn⟩,jI⟩ (aj 0) J7)))
theorem SQ(T:Txt K mg t):rB T t.Aj t.Ay ["told"] 3 (aY 7 t8) 1:=fX (st:=mD) ["told","shelf","name","value","who","number","answer"] T.CP qi λh n u=>
 (aB (bx (i:=1) n rfl tL (Zt (kc:=10) T.zF (N5 T) iZ h.mo rfl T.S_ T.pW .nil))
  (aB (yO (ni rfl rfl) rfl (wU (dN u (aj 0) aJ)) (KY rfl (lD (ir (i:=2) n rfl tL) (lD (ir (i:=3) n rfl tL) Ga))) (aK (Wb u (aL (cs:=[10]) ⟨⟨T.C_,T.gR⟩,jI⟩ (aj 1)) (aj 2) (aj 3))))
  (aB (yO (ni rfl rfl) rfl (wU (dN u (aj 0) aJ)) (KY rfl (lD (ir (i:=4) n rfl tL) (lD (ir (i:=5) n rfl tL) (lD (ir (i:=6) n rfl tL) Ga)))) (aK (Wb u (aL (cs:=[10]) ⟨⟨T.C_,T.gn⟩,jI⟩ (aj 1)) (bO (ak (aj 4) (ak (aj 5) aA))) (aj 6))))
  (aK (aU (aj 1))))))
theorem QG(T:Txt K mg t):rB T t.yw t.uX ["self","me","book","note"] 4 (aY 4 rK) 4:=fX (st:=lZ) ["self","me","book","note"] T.Hg qi λh n u=>
 (aB (cP (cs:=[9,11]) ⟨⟨T.bG,T.b7⟩,⟨⟨T.aC,T.cR⟩,jI⟩⟩ (aj 0) (aj 1))
  (aB (cP (cs:=[11]) ⟨⟨T.aC,T.mU⟩,jI⟩ (aj 0) (aj 3))
  (aB (cP (cs:=[5,11]) ⟨⟨T.aW,T.a_⟩,⟨⟨T.aC,T.aZ⟩,jI⟩⟩ (aj 0) (aL (cs:=[5,11]) ⟨⟨T.aW,T.a_⟩,⟨⟨T.aC,T.aZ⟩,jI⟩⟩ (aj 2)))
  (aB (cP (cs:=[5,11]) ⟨⟨T.aW,T.gw⟩,⟨⟨T.aC,T.gq⟩,jI⟩⟩ (aj 0) (aL (cs:=[5,11]) ⟨⟨T.aW,T.gw⟩,⟨⟨T.aC,T.gq⟩,jI⟩⟩ (aj 2)))
  (aB (cP (cs:=[5,11]) ⟨⟨T.aW,T.bI⟩,⟨⟨T.aC,T.bH⟩,jI⟩⟩ (aj 0) (bh (kc:=4) (aL (cs:=[5,11]) ⟨⟨T.aW,T.bI⟩,⟨⟨T.aC,T.bH⟩,jI⟩⟩ (aj 2)) T.bu T.Cr (Jk T) iZ h.mo T.rz .nil))
  (aB (cP (cs:=[4,5,11]) ⟨⟨T.bu,T.dw⟩,⟨⟨T.aW,T.cO⟩,⟨⟨T.aC,T.cM⟩,jI⟩⟩⟩ (aj 0) (aL (cs:=[4,5,11]) ⟨⟨T.bu,T.dw⟩,⟨⟨T.aW,T.cO⟩,⟨⟨T.aC,T.cM⟩,jI⟩⟩⟩ (aj 2)))
  (aB (cP (cs:=[11]) ⟨⟨T.aC,T.bU⟩,jI⟩ (aj 0) (aL (cs:=[4]) ⟨⟨T.bu,T.cI⟩,jI⟩ (aL (cs:=[5,11]) ⟨⟨T.aW,T.bI⟩,⟨⟨T.aC,T.bH⟩,jI⟩⟩ (aj 0))))
  (aB (cP (cs:=[11]) ⟨⟨T.aC,T.jX⟩,jI⟩ (aj 0) (aL (cs:=[4]) ⟨⟨T.bu,T.cI⟩,jI⟩ (aL (cs:=[5,11]) ⟨⟨T.aW,T.bI⟩,⟨⟨T.aC,T.bH⟩,jI⟩⟩ (aj 0))))
  (aB (cP (cs:=[11]) ⟨⟨T.aC,T.nH⟩,jI⟩ (aj 0) (bK (SQ T) iZ h.mo rfl T.Jo T.CP.kp T.t8 .nil (ak (aL (cs:=[4,5,11]) ⟨⟨T.bu,T.dw⟩,⟨⟨T.aW,T.cO⟩,⟨⟨T.aC,T.cM⟩,jI⟩⟩⟩ (aj 2)) aA)))
  (aB (cP (cs:=[11]) ⟨⟨T.aC,T.iG⟩,jI⟩ (aj 0) wV)
  (aK (cP (cs:=[11]) ⟨⟨T.aC,T.bf⟩,jI⟩ (aj 0) (Ov (kc:=7) T.Iv rfl T.Ir)))))))))))))
theorem vV(T:Txt K mg t):rB T t.yq t.yD ["_law_some"] 1 (aY 1 j9) 1:=fX (st:=jQ) ["_law_some"] T.pF qi λh n u=>
 (aK (aU (Dg rfl ["_law_some"] [0] (wM rfl T.vX (ak aJ aA)) ⟨⟨rfl,rfl,by first | exact .inl rfl | exact .inr rfl⟩,jI⟩ (λ_ _ _ _ _=>(FW (bN (oF u) (aR Rp (aR agA (aj 1) (aj 0)) aJ) aJ (bD _)))) (λ_ _ _ _ _=>(aj 0)) (by decide +kernel) (by decide +kernel) (by decide +kernel) (by decide +kernel))))
theorem Cj(T:Txt K mg t):rB T t.uw t.uC ["_law_some","_law_part_here"] 2 (aY 2 kO) 2:=fX (st:=iw) ["_law_some","_law_part_here"] T.sG qi λh n u=>
 (aK (aU (vg Ht (aR VH aJ (cW vz rfl T.zJ vB (ak (bK (vV T) iZ h.mo rfl T.rY T.pF.kp T.j9 .nil (ak (aR Rp (aj 0) (aj 1)) aA)) aA))) (cW vz rfl T.zJ vB (ak (bK (vV T) iZ h.mo rfl T.rY T.pF.kp T.j9 .nil (ak (aj 1) aA)) aA)) (bD _))))
theorem Ji(T:Txt K mg t):rB T t.Ak t.Az ["_law_roll","_law_some"] 3 (aY 2 kI) 2:=fX (st:=mF) ["_law_roll","_law_some"] T.uR qi λh n u=>
 (aK (aU (HX (bK (Cj T) iZ h.mo rfl T.wZ T.sG.kp T.kO .nil (ak (aj 1) (ak (dN u (aj 0) aJ) aA))) (Et (adh (vg (oF u) (dN u (aj 0) aJ) aJ (bD _)) (Et (bK (Cj T) iZ h.mo rfl T.wZ T.sG.kp T.kO .nil (ak (aj 1) (ak (dN u (aj 0) aJ) aA)))))))))
theorem zB(T:Txt K mg t):rB T t.qM t.qO ["self"] 1 (aY 1 iY) 1:=fX (st:=fO) ["self"] T.zO qi λh n u=>
 (aK (aU (cW (aaV (k:=9) (cl:=[(7,false),(8,false),(9,true)]) ⟨⟨T.jM,T.Im⟩,⟨⟨T.lR,T.LQ⟩,⟨⟨T.lO,T.LK⟩,jI⟩⟩⟩) rfl T.dH dj (ak (aL (cs:=[11]) ⟨⟨T.aC,T.bf⟩,jI⟩ (aj 0)) (ak (Zw (k:=9) rfl T.Ma) aA)))))
theorem N6(T:Txt K mg t):rB T t.wz t.wH ["self","term"] 1 (aY 2 pX) 2:=fX (st:=jg) ["self","term"] T.Eh qi λh n u=>
 (aB (cP (cs:=[5,11]) ⟨⟨T.aW,T.a_⟩,⟨⟨T.aC,T.aZ⟩,jI⟩⟩ (aj 0) (aj 1))
  (aB (cP (cs:=[5,11]) ⟨⟨T.aW,T.gw⟩,⟨⟨T.aC,T.gq⟩,jI⟩⟩ (aj 0) wV)
  (aB (cP (cs:=[11]) ⟨⟨T.aC,T.iG⟩,jI⟩ (aj 0) wV)
  (aK (cP (cs:=[11]) ⟨⟨T.aC,T.bf⟩,jI⟩ (aj 0) (Ov (kc:=7) T.Iv rfl T.Ir))))))
theorem fW(T:Txt K mg t):rB T t.nZ t.oh ["self","paper"] 2 (aY 3 bV) 2:=fX (st:=dB) ["self","paper","note"] T.xr qi λh n u=>
 (aB (bx (i:=2) n rfl tL (aL (cs:=[11]) ⟨⟨T.aC,T.mU⟩,jI⟩ (aj 0)))
  (aK (dg (bN Nm (aj 2) wV (bD _)) (aK (gj (Zx (aj 2) (ak (aj 1) aA) h.mo))) bM)))
theorem Gv(T:Txt K mg t):rB T t.pK t.pR ["self","whom"] 3 (aY 2 jx) 2:=fX (st:=eO) ["self","whom"] T.yj qi λh n u=>
 (aB (cP (cs:=[5,11]) ⟨⟨T.aW,T.gw⟩,⟨⟨T.aC,T.gq⟩,jI⟩⟩ (aj 0) (aj 1))
  (aK (gj (cG (kc:=11) (aj 0) T.aC T.dW (fW T) iZ h.mo T.bV .nil (ak (bO (ak cF (ak (aL (cs:=[9,11]) ⟨⟨T.bG,T.b7⟩,⟨⟨T.aC,T.cR⟩,jI⟩⟩ (aj 0)) (ak (aL (cs:=[5,11]) ⟨⟨T.aW,T.a_⟩,⟨⟨T.aC,T.aZ⟩,jI⟩⟩ (aj 0)) (ak (aj 1) aA))))) aA)))))
theorem Ik(T:Txt K mg t):rB T t.Hl t.Hq ["hands"] 1 (aY 3 u9) 1:=fX (st:=rR) ["hands","S","hand"] T.zM qi λh n u=>
 (aB (bx (i:=1) n rfl tL aJ)
  (aB (yO (ni rfl rfl) rfl (wU (aj 0)) (ir (i:=2) n rfl tL) (aK (bx (i:=1) n rfl tL (aR JH (aj 1) (aR xH aJ (aj 2))))))
  (aK (aU (aj 1)))))
theorem Oa(T:Txt K mg t):rB T t.wD t.wL ["self","me"] 2 (aY 2 p7) 2:=fX (st:=jk) ["self","me"] T.El qi λh n u=>
 (aK (cP (cs:=[8]) ⟨⟨T.uY,T.d9⟩,jI⟩ (aj 0) (bK (Ik T) iZ h.mo rfl T.Dn T.zM.kp T.u9 .nil (ak (gO (ak (aj 1) aA)) aA))))
theorem l_(T:Txt K mg t):rB T t.Av t.Be ["self"] 1 (aY 1 gZ) 1:=fX (st:=mO) ["self"] T.JB qi λh n u=>
 (aK (aU (aR iV (aL (cs:=[4]) ⟨⟨T.bu,T.cI⟩,jI⟩ (aj 0)) (cW vz rfl T.zJ vB (ak (aL (cs:=[4,5,11]) ⟨⟨T.bu,T.dw⟩,⟨⟨T.aW,T.cO⟩,⟨⟨T.aC,T.cM⟩,jI⟩⟩⟩ (aj 0)) aA)))))
theorem QC(T:Txt K mg t):rB T t.yr t.yE ["self","place"] 2 (aY 2 rJ) 2:=fX (st:=jT) ["self","place"] T.G9 qi λh n u=>
 (aK (aU (HX (vg (VJ u) (aL (cs:=[4]) ⟨⟨T.bu,T.cI⟩,jI⟩ (aj 0)) (aj 1) (bD _)) (Et (vg adF (aj 1) (bh (kc:=4) (aj 0) T.bu T.jY (l_ T) iZ h.mo T.gZ .nil) (bD _))))))
theorem qH(T:Txt K mg t):rB T t.sI t.sS ["self","place"] 3 (aY 2 gB) 2:=fX (st:=gk) ["self","place"] T.Bt qi λh n u=>
 (aB (dg (yN (lC (cG (kc:=4) (aj 0) T.bu T.Gz (QC T) iZ h.mo T.rJ .nil (ak (aj 1) aA)))) (aK qg) bM)
  (aK (aU (dN u (aL (cs:=[4,5,11]) ⟨⟨T.bu,T.dw⟩,⟨⟨T.aW,T.cO⟩,⟨⟨T.aC,T.cM⟩,jI⟩⟩⟩ (aj 0)) (aR Bj (aR Bj (aj 1) (aL (cs:=[4]) ⟨⟨T.bu,T.cI⟩,jI⟩ (aj 0))) aJ)))))
theorem wX(T:Txt K mg t):rB T t.ux t.uD ["self","place"] 4 (aY 2 iJ) 2:=fX (st:=iz) ["self","place"] T.CT qi λh n u=>
 (aB (dg (bN (oF u) (aj 1) (aL (cs:=[4]) ⟨⟨T.bu,T.cI⟩,jI⟩ (aj 0)) (bD _)) (aK (aU (aL (cs:=[4]) ⟨⟨T.bu,T.eV⟩,jI⟩ (aj 0)))) bM)
  (aK (aU (dN u (cG (kc:=4) (aj 0) T.bu T.nq (qH T) iZ h.mo T.gB .nil (ak (aj 1) aA)) aJ))))
theorem Vc(T:Txt K mg t):rB T t.Dz t.DN ["self"] 5 (aY 1 wQ) 1:=fX (st:=pA) ["self"] T.MP qi λh n u=>
 (aK (aU (bO (ak (cG (kc:=4) (aj 0) T.bu T.rZ (wX T) iZ h.mo T.iJ .nil (ak (bh (kc:=4) (aj 0) T.bu T.jY (l_ T) iZ h.mo T.gZ .nil) aA)) (ak (bh (kc:=4) (aj 0) T.bu T.jY (l_ T) iZ h.mo T.gZ .nil) aA)))))
theorem Jj(T:Txt K mg t):rB T t.Ao t.Bb ["S"] 1 (aY 1 rm) 1:=fX (st:=mJ) ["S"] T.yd qi λh n u=>
 (aK (aU (Dg rfl ["S"] [0] (wM rfl T.vX (ak (ad_ PySem.F.plainAttrs_int PySem.F.slot_int_bit_length PySem.F.type_int_bit_length acd (aj 0)) aA)) ⟨⟨rfl,rfl,by first | exact .inl rfl | exact .inr rfl⟩,jI⟩ (λ_ _ _ _ _=>(FW (bN (yJ u) (aR Rp (aj 1) (aR xH aJ (aj 0))) aJ (bD _)))) (λ_ _ _ _ _=>(aj 0)) (by decide +kernel) (by decide +kernel) (by decide +kernel) (by decide +kernel))))
theorem Vb(T:Txt K mg t):rB T t.Dv t.DG ["roll"] 1 (aY 1 wO) 1:=fX (st:=o_) ["roll"] T.Fl qi λh n u=>
 (aK (aU (aR JH (dN u (aj 0) aJ) (dN u (aj 0) aJ))))
theorem uJ(T:Txt K mg t):rB T t.lu t.lA ["self","place"] 4 (aY 2 dz) 2:=fX (st:=cJ) ["self","place"] T.uT qi λh n u=>
 (aB (R7 (ni rfl rfl) (SW.pt (KJ (bN Ht (aj 1) (aL (cs:=[4]) ⟨⟨T.bu,T.cI⟩,jI⟩ (aj 0)) (bD _)) (FT (bN (yJ u) (dN u (dN u (cG (kc:=4) (aj 0) T.bu T.nq (qH T) iZ h.mo T.gB .nil (ak (aj 1) aA)) aJ) aJ) cF (bD _))))) (aK (bx (i:=1) n rfl tL (aR Bj (aj 1) aJ))))
  (aK (aU (aj 1))))
theorem Lx(T:Txt K mg t):rB T t.uy t.uE ["self","place"] 5 (aY 4 kW) 2:=fX (st:=iB) ["self","place","found","what"] T.CV qi λh n u=>
 (aB (bx (i:=2) n rfl tL (cG (kc:=4) (aj 0) T.bu T.oK (uJ T) iZ h.mo T.dz .nil (ak (aj 1) aA)))
  (aB (dg (bN (oF u) (aj 2) (aL (cs:=[4]) ⟨⟨T.bu,T.cI⟩,jI⟩ (aj 0)) (bD _)) (aK (aU (aL (cs:=[4]) ⟨⟨T.bu,T.eY⟩,jI⟩ (aj 0)))) bM)
  (aB (bx (i:=3) n rfl tL (dN u (cG (kc:=4) (aj 0) T.bu T.nq (qH T) iZ h.mo T.gB .nil (ak (aj 2) aA)) aJ))
  (aK (aU (bO (ak (dN u (aj 3) aJ) (ak (dN u (aj 3) aJ) aA))))))))
theorem uK(T:Txt K mg t):rB T t.Ar t.Bd ["self"] 6 (aY 1 jD) 1:=fX (st:=mL) ["self"] T.Jz qi λh n u=>
 (aK (aU (cG (kc:=4) (aj 0) T.bu T.Cu (Lx T) iZ h.mo T.kW .nil (ak (bh (kc:=4) (aj 0) T.bu T.jY (l_ T) iZ h.mo T.gZ .nil) aA))))
theorem Cm(T:Txt K mg t):rB T t.uA t.uG ["self"] 7 (aY 1 kY) 1:=fX (st:=iD) ["self"] T.CZ qi λh n u=>
 (aK (aU (Dg rfl ["self"] [0] (wU (bK (Jj T) iZ h.mo rfl T.Cq T.yd.kp T.rm .nil (ak (bK (Vb T) iZ h.mo rfl T.L_ T.Fl.kp T.wO .nil (ak (bh (kc:=4) (aL (cs:=[5,11]) ⟨⟨T.aW,T.bI⟩,⟨⟨T.aC,T.bH⟩,jI⟩⟩ (aj 0)) T.bu T.rE (uK T) iZ h.mo T.jD .nil) aA)) aA))) ⟨⟨rfl,rfl,by first | exact .inl rfl | exact .inr rfl⟩,jI⟩ (λ_ _ _ _ _=>(FW (bN (yJ u) (aj 0) (aL (cs:=[9,11]) ⟨⟨T.bG,T.b7⟩,⟨⟨T.aC,T.cR⟩,jI⟩⟩ (aj 1)) (bD _)))) (λ_ _ _ _ _=>(aj 0)) (by decide +kernel) (by decide +kernel) (by decide +kernel) (by decide +kernel))))
theorem Qx(T:Txt K mg t):rB T t.Rb t.Rg ["S"] 2 (aY 1 Dd) 1:=fX (st:=zX) ["S"] T.G8 qi λh n u=>
 (aK (aU (cW vz rfl T.zJ vB (ak (bK (Jj T) iZ h.mo rfl T.Cq T.yd.kp T.rm .nil (ak (aj 0) aA)) aA))))
theorem Lw(T:Txt K mg t):rB T t.Dw t.zQ ["S","part","half"] 3 (aY 4 t_) 3:=fX (st:=rC) ["S","part","half","twice"] T.Ai qi λh n u=>
 (aB (bx (i:=3) n rfl tL (aR VH aJ (bK (Qx T) iZ h.mo rfl T.Kd T.G8.kp T.Dd .nil (ak (aR Rp (aj 0) (aj 1)) aA))))
  (aB (dg (lC (aj 2)) (aK (aU (vg adH (aj 3) (bK (Qx T) iZ h.mo rfl T.Kd T.G8.kp T.Dd .nil (ak (aj 1) aA)) (bD _)))) bM)
  (aK (aU (vg Ht (aj 3) (bK (Qx T) iZ h.mo rfl T.Kd T.G8.kp T.Dd .nil (ak (aj 1) aA)) (bD _))))))
theorem Wr(T:Txt K mg t):rB T t.Ra t.Nb ["roll","S","half"] 4 (aY 3 Ft) 3:=fX (st:=Ca) ["roll","S","half"] T.Kq qi λh n u=>
 (aB (dg (yN (lC (bK (Lw T) iZ h.mo rfl T.E_ T.Ai.kp T.t_ .nil (ak (aj 1) (ak (dN u (aj 0) aJ) (ak (aj 2) aA)))))) (aK (aU K6)) bM)
  (aK (aU (adh (vg (oF u) (dN u (aj 0) aJ) aJ (bD _)) (Et (bK (Lw T) iZ h.mo rfl T.E_ T.Ai.kp T.t_ .nil (ak (aj 1) (ak (dN u (aj 0) aJ) (ak (aj 2) aA)))))))))
theorem N8(T:Txt K mg t):rB T t.wB t.wJ ["self","me","start"] 1 (aY 3 pZ) 3:=fX (st:=ji) ["self","me","start"] T.Ej qi λh n u=>
 (aB (cP (cs:=[9,11]) ⟨⟨T.bG,T.b7⟩,⟨⟨T.aC,T.cR⟩,jI⟩⟩ (aj 0) (aj 1))
  (aB (cP (cs:=[9]) ⟨⟨T.bG,T.jA⟩,jI⟩ (aj 0) (aj 2))
  (aB (cP (cs:=[9]) ⟨⟨T.bG,T.fH⟩,jI⟩ (aj 0) aJ)
  (aB (cP (cs:=[9]) ⟨⟨T.bG,T.lG⟩,jI⟩ (aj 0) J7)
  (aB (cP (cs:=[9]) ⟨⟨T.bG,T.d7⟩,jI⟩ (aj 0) J7)
  (aK (cP (cs:=[9]) ⟨⟨T.bG,T.jB⟩,jI⟩ (aj 0) (gO aA))))))))
theorem Ly(T:Txt K mg t):rB T t.Dy t.DK ["self","entry"] 2 (aY 2 ud) 2:=fX (st:=pq) ["self","entry"] T.MN qi λh n u=>
 (aB (gj (K5 PySem.F.plainAttrs_list PySem.F.slot_list_append PySem.F.type_list_append tW (aL (cs:=[4,5,11]) ⟨⟨T.bu,T.dw⟩,⟨⟨T.aW,T.cO⟩,⟨⟨T.aC,T.cM⟩,jI⟩⟩⟩ (aj 0)) (ak (aj 1) aA)))
  (aK (aU (bh (kc:=4) (aj 0) T.bu T.jY (l_ T) iZ h.mo T.gZ .nil))))
theorem DX(T:Txt K mg t):rB T t.mY t.m7 ["self"] 1 (aY 1 ie) 1:=fX (st:=cZ) ["self"] T.vN qi λh n u=>
 (aK (cP (cs:=[9]) ⟨⟨T.bG,T.fH⟩,jI⟩ (aj 0) (aR iV (aL (cs:=[9]) ⟨⟨T.bG,T.fH⟩,jI⟩ (aj 0)) aJ)))
theorem z7(T:Txt K mg t):rB T t.jF t.jG ["self","hand"] 1 (aY 2 fD) 2:=fX (st:=bW) ["self","hand"] T.sH qi λh n u=>
 (aB (dg (bN (aaZ u) (aj 1) (aL (cs:=[9]) ⟨⟨T.bG,T.d7⟩,jI⟩ (aj 0)) (by with_unfolding_all rfl)) (aK (aU (aR iV (dN u (aL (cs:=[9]) ⟨⟨T.bG,T.d7⟩,jI⟩ (aj 0)) (aj 1)) aJ))) bM)
  (aK (aU (aL (cs:=[9]) ⟨⟨T.bG,T.jA⟩,jI⟩ (aj 0)))))
theorem Lz(T:Txt K mg t):rB T t.uz t.uF ["self"] 1 (aY 1 nO) 1:=fX (st:=iC) ["self"] T.CW qi λh n u=>
 (aK (aU (zy WX rfl T.Fg DP (ak (aL (cs:=[4,5,11]) ⟨⟨T.bu,T.dw⟩,⟨⟨T.aW,T.cO⟩,⟨⟨T.aC,T.cM⟩,jI⟩⟩⟩ (aj 0)) aA))))
theorem Gu(T:Txt K mg t):rB T t.pJ t.pQ ["self","hand"] 5 (aY 8 jw) 2:=fX (st:=eN) ["self","hand","row","first","base","behind","entries","told_on"] T.yh qi λh n u=>
 (@aB _ _ _ _ _ _ _ (bx (i:=2) n rfl tL (aL (cs:=[5,11]) ⟨⟨T.aW,T.bI⟩,⟨⟨T.aC,T.bH⟩,jI⟩⟩ (aj 0))) (@aB _ _ _ _ _ _ _ (bx (i:=3) n rfl tL (cG (kc:=9) (aL (cs:=[11]) ⟨⟨T.aC,T.bf⟩,jI⟩ (aj 0)) T.bG T.su (z7 T) iZ h.mo T.fD .nil (ak (aj 1) aA))) (@aB _ _ _ _ _ _ _ (@dg _ _ _ _ _ _ _ _ _ _ (bN adF (aj 3) (aL (cs:=[4]) ⟨⟨T.bu,T.cI⟩,jI⟩ (aj 2)) (bD _)) (@aB _ _ _ _ _ _ _ (bx (i:=4) n rfl tL (bO (ak (aL (cs:=[4]) ⟨⟨T.bu,T.cI⟩,jI⟩ (aj 2)) (ak (aL (cs:=[4]) ⟨⟨T.bu,T.eV⟩,jI⟩ (aj 2)) (ak (aL (cs:=[4]) ⟨⟨T.bu,T.eY⟩,jI⟩ (aj 2)) (ak (aL (cs:=[4,5,11]) ⟨⟨T.bu,T.dw⟩,⟨⟨T.aW,T.cO⟩,⟨⟨T.aC,T.cM⟩,jI⟩⟩⟩ (aj 0)) aA)))))) (@aK _ _ _ _ _ (@aU _ _ _ _ _ _ (@aR _ _ _ _ _ _ _ _ _ _ iV (@bO _ _ _ _ _ _ _ (@bz _ _ _ _ _ _ _ cF (@bz _ _ _ _ _ _ _ (aL (cs:=[9,11]) ⟨⟨T.bG,T.b7⟩,⟨⟨T.aC,T.cR⟩,jI⟩⟩ (aj 0)) (@bz _ _ _ _ _ _ _ (aj 1) (@bz _ _ _ _ _ _ _ (aL (cs:=[5,11]) ⟨⟨T.aW,T.a_⟩,⟨⟨T.aC,T.aZ⟩,jI⟩⟩ (aj 0)) (@bz _ _ _ _ _ _ _ (aL (cs:=[9]) ⟨⟨T.bG,T.fH⟩,jI⟩ (aL (cs:=[11]) ⟨⟨T.aC,T.bf⟩,jI⟩ (aj 0))) aA rfl) rfl) rfl) rfl) rfl)) (aj 4))))) bM) (@aB _ _ _ _ _ _ _ (bx (i:=5) n rfl tL (aR Bj (aR Bj (aj 3) (aL (cs:=[4]) ⟨⟨T.bu,T.cI⟩,jI⟩ (aj 2))) aJ)) (@aB _ _ _ _ _ _ _ (bx (i:=6) n rfl tL (zy aaU rfl T.Kf Nj (ak (adg (bh (kc:=4) (aj 2) T.bu T.Cv (Lz T) iZ h.mo T.nO .nil) (J6 (aj 5)) (J6 (aR iV (aj 5) (abq rfl T.Gy)))) aA))) (@aB _ _ _ _ _ _ _ (bx (i:=7) n rfl tL (bO (ak (aR Bj (aj 3) aJ) (ak (cG (kc:=4) (aj 2) T.bu T.rZ (wX T) iZ h.mo T.iJ .nil (ak (aR Bj (aj 3) aJ) aA)) (ak (aj 6) (ak (aL (cs:=[11]) ⟨⟨T.aC,T.bU⟩,jI⟩ (aj 0)) aA)))))) (@aK _ _ _ _ _ (@aU _ _ _ _ _ _ (@aR _ _ _ _ _ _ _ _ _ _ iV (@bO _ _ _ _ _ _ _ (@bz _ _ _ _ _ _ _ cF (@bz _ _ _ _ _ _ _ (aL (cs:=[9,11]) ⟨⟨T.bG,T.b7⟩,⟨⟨T.aC,T.cR⟩,jI⟩⟩ (aj 0)) (@bz _ _ _ _ _ _ _ (aj 1) (@bz _ _ _ _ _ _ _ (aL (cs:=[5,11]) ⟨⟨T.aW,T.a_⟩,⟨⟨T.aC,T.aZ⟩,jI⟩⟩ (aj 0)) (@bz _ _ _ _ _ _ _ (aL (cs:=[9]) ⟨⟨T.bG,T.fH⟩,jI⟩ (aL (cs:=[11]) ⟨⟨T.aC,T.bf⟩,jI⟩ (aj 0))) aA rfl) rfl) rfl) rfl) rfl)) (aj 7))))))))))
theorem zA(T:Txt K mg t):rB T t.qL t.qN ["self"] 8 (aY 1 iW) 1:=fX (st:=fM) ["self"] T.zN qi λh n u=>
 (aB (gj (bh (kc:=9) (aL (cs:=[11]) ⟨⟨T.aC,T.bf⟩,jI⟩ (aj 0)) T.bG T.vG (DX T) iZ h.mo T.ie .nil))
  (aB (gj (cG (kc:=11) (aj 0) T.aC T.dW (fW T) iZ h.mo T.bV .nil (ak (bO (ak cF (ak (aL (cs:=[5,11]) ⟨⟨T.aW,T.a_⟩,⟨⟨T.aC,T.aZ⟩,jI⟩⟩ (aj 0)) (ak (aL (cs:=[9]) ⟨⟨T.bG,T.fH⟩,jI⟩ (aL (cs:=[11]) ⟨⟨T.aC,T.bf⟩,jI⟩ (aj 0))) aA)))) aA)))
  (aK (aU (Dg rfl ["self"] [0] (wU (bh (kc:=11) (aj 0) T.aC T.xm (Cm T) iZ h.mo T.kY .nil)) ⟨⟨rfl,rfl,by first | exact .inl rfl | exact .inr rfl⟩,jI⟩ (λ_ _ _ _ _=>FZ) (λ_ _ _ _ _=>(cG (kc:=11) (aj 1) T.aC T.xY (Gu T) Tk.none h.mo T.jw .nil (ak (aj 0) aA))) (by decide +kernel) (by decide +kernel) (by decide +kernel) (by decide +kernel))))))
theorem BP(T:Txt K mg t):rB T t.j7 t.j8 ["self","last"] 1 (aY 2 fZ) 2:=fX (st:=cA) ["self","last"] T.tM qi λh n u=>
 (aK (aU (ad9 rfl (aR iV (gO (ak (aj 1) aA)) (Zu rfl (aL (cs:=[9]) ⟨⟨T.bG,T.d7⟩,jI⟩ (aj 0)) rfl T.Fg)) rfl T.Fg rfl T.Mi rfl T.Tc rfl T.adq)))
theorem vh(T:Txt K mg t):rB T t.sJ t.sU ["self","place"] 2 (aY 2 iQ) 2:=fX (st:=gm) ["self","place"] T.Bu qi λh n u=>
 (aK (aU (bK (Ik T) iZ h.mo rfl T.Dn T.zM.kp T.u9 .nil (ak (aR iV (gO (ak (aL (cs:=[9,11]) ⟨⟨T.bG,T.b7⟩,⟨⟨T.aC,T.cR⟩,jI⟩⟩ (aj 0)) aA)) (Zv rfl ["hand","known"] ["place"] [1] (aL (cs:=[9]) ⟨⟨T.bG,T.d7⟩,jI⟩ (aj 0)) ⟨⟨rfl,rfl,by first | exact .inl rfl | exact .inr rfl⟩,jI⟩ (λ_ _ _ _ _=>(ad0 rfl (R8 (Wc (i:=0) (show((["hand","known"]:List Str)++(["place"]:List Str)).Nodup from by decide +kernel) rfl (.inl (lookup_relabel_local rfl)) (by decide) (.inr (lookup_relabel_local rfl))) (R8 (Wc (i:=1) (show((["hand","known"]:List Str)++(["place"]:List Str)).Nodup from by decide +kernel) rfl (.inl (lookup_relabel_local rfl)) (by decide) (.inr (lookup_relabel_local rfl))) abk)))) (λ_ _ _ _ _=>(FW (bN adH (aj 1) (aj 2) (bD _)))) (λ_ _ _ _ _=>(aj 0)) (by decide +kernel) (by decide +kernel) (by decide +kernel))) aA))))
theorem Gs(T:Txt K mg t):rB T t.pI t.pP ["self"] 7 (aY 3 g_) 1:=fX (st:=eG) ["self","roll","place"] T.yg qi λh n u=>
 (aB (bx (i:=1) n rfl tL (bh (kc:=4) (aL (cs:=[5,11]) ⟨⟨T.aW,T.bI⟩,⟨⟨T.aC,T.bH⟩,jI⟩⟩ (aj 0)) T.bu T.rE (uK T) iZ h.mo T.jD .nil))
  (aB (yO (ni rfl rfl) rfl (wU (cG (kc:=9) (aL (cs:=[11]) ⟨⟨T.aC,T.bf⟩,jI⟩ (aj 0)) T.bG T.tD (BP T) iZ h.mo T.fZ .nil (ak (bh (kc:=4) (aL (cs:=[5,11]) ⟨⟨T.aW,T.bI⟩,⟨⟨T.aC,T.bH⟩,jI⟩⟩ (aj 0)) T.bu T.jY (l_ T) iZ h.mo T.gZ .nil) aA))) (ir (i:=2) n rfl tL) (aK (dg (lC (bK (Wr T) iZ h.mo rfl T.QK T.Kq.kp T.Rr (.cons (.bl false) .nil) (ak (aj 1) (ak (cG (kc:=9) (aL (cs:=[11]) ⟨⟨T.aC,T.bf⟩,jI⟩ (aj 0)) T.bG T.qI (vh T) iZ h.mo T.iQ .nil (ak (aj 2) aA)) aA)))) (aK (aU (aj 2))) bM)))
  (aK (aU (aL (cs:=[11]) ⟨⟨T.aC,T.bU⟩,jI⟩ (aj 0))))))
theorem rD(T:Txt K mg t):rB T t.jm t.jo ["self"] 8 (aY 2 cD) 1:=fX (st:=bQ) ["self","place"] T.rG qi λh n u=>
 (aB (yO (ni rfl rfl) rfl (Xc rfl T.vX (ak (bh (kc:=11) (aj 0) T.aC T.xX (Gs T) iZ h.mo T.g_ .nil) (ak (aL (cs:=[11]) ⟨⟨T.aC,T.bU⟩,jI⟩ (aj 0)) (ak (ahu adQ aJ) aA)))) (ir (i:=1) n rfl tL) (aK (dg (bN (oF u) (cG (kc:=4) (aL (cs:=[5,11]) ⟨⟨T.aW,T.bI⟩,⟨⟨T.aC,T.bH⟩,jI⟩⟩ (aj 0)) T.bu T.rZ (wX T) iZ h.mo T.iJ .nil (ak (aj 1) aA)) (aL (cs:=[5,11]) ⟨⟨T.aW,T.a_⟩,⟨⟨T.aC,T.aZ⟩,jI⟩⟩ (aj 0)) (bD _)) (aK (aU (aj 1))) bM)))
  (aK (aU wV)))
theorem wY(T:Txt K mg t):rB T t.n_ t.oA ["self"] 4 (aY 3 gC) 1:=fX (st:=dG) ["self","place","what"] T.xF qi λh n u=>
 (aK (yO (ni rfl rfl) rfl (Xd rfl T.vX (ak (aR iV (aL (cs:=[11]) ⟨⟨T.aC,T.jX⟩,jI⟩ (aj 0)) aJ) (ak (aR iV (aL (cs:=[11]) ⟨⟨T.aC,T.bU⟩,jI⟩ (aj 0)) aJ) aA))) (ir (i:=1) n rfl tL) (aB (bx (i:=2) n rfl tL (dN u (cG (kc:=4) (aL (cs:=[5,11]) ⟨⟨T.aW,T.bI⟩,⟨⟨T.aC,T.bH⟩,jI⟩⟩ (aj 0)) T.bu T.nq (qH T) iZ h.mo T.gB .nil (ak (aj 1) aA)) aJ))
  (aB (dg (bN (oF u) (dN u (aj 2) aJ) cF (bD _)) (aK qg) bM)
  (aK (cP (cs:=[11]) ⟨⟨T.aC,T.jX⟩,jI⟩ (aj 0) (aj 1)))))))
theorem xT(T:Txt K mg t):rB T t.pG t.pN ["self"] 5 (aY 1 gY) 1:=fX (st:=eE) ["self"] T.ye qi λh n u=>
 (aK (aU (cG (kc:=4) (aj 0) T.bu T.oK (uJ T) iZ h.mo T.dz .nil (ak (bh (kc:=4) (aj 0) T.bu T.jY (l_ T) iZ h.mo T.gZ .nil) aA))))
theorem vW(T:Txt K mg t):rB T t.fK t.fL ["self"] 7 (aY 2 jE) 1:=fX (st:=bC) ["self","two"] T.jK qi λh n u=>
 (aB (bx (i:=1) n rfl tL (dN u (bh (kc:=4) (aL (cs:=[5,11]) ⟨⟨T.aW,T.bI⟩,⟨⟨T.aC,T.bH⟩,jI⟩⟩ (aj 0)) T.bu T.rE (uK T) iZ h.mo T.jD .nil) aJ))
  (aB (dg (SW.pt (Oq (bN (oF u) (aj 1) aJ (bD _)) (HS (bN Ht (bh (kc:=4) (aL (cs:=[5,11]) ⟨⟨T.aW,T.bI⟩,⟨⟨T.aC,T.bH⟩,jI⟩⟩ (aj 0)) T.bu T.sr (xT T) iZ h.mo T.gY .nil) (aL (cs:=[11]) ⟨⟨T.aC,T.bU⟩,jI⟩ (aj 0)) (bD _))))) (aK (aU (gO aA))) bM)
  (aK qg)))
theorem uL(T:Txt K mg t):rB T t.lz t.lB ["self"] 1 (aY 2 fB) 1:=fX (st:=cL) ["self","looks"] T.uU qi λh n u=>
 (aB (bx (i:=1) n rfl tL (aL (cs:=[9]) ⟨⟨T.bG,T.jB⟩,jI⟩ (aL (cs:=[11]) ⟨⟨T.aC,T.bf⟩,jI⟩ (aj 0))))
  (aK (R7 (ni rfl rfl) (SW.pt (KJ (bN Ht (cW vz rfl T.zJ vB (ak (aj 1) aA)) aJ (bD _)) (FT (lC Zr)))) (aK qg))))
theorem Il(T:Txt K mg t):rB T t.qC t.qD ["self"] 9 (aY 3 Bw) 1:=fX (st:=gb) ["self","letters","place"] T.xx qi λh n u=>
 (aB (bx (i:=1) n rfl tL (gO aA))
  (aB (bx (i:=2) n rfl tL (bh (kc:=11) (aj 0) T.aC T.lH (rD T) iZ h.mo T.cD .nil))
  (aB (dg (bN Nm (aj 2) wV (bD _)) (aB (cP (cs:=[11]) ⟨⟨T.aC,T.bU⟩,jI⟩ (aj 0) (aj 2))
  (aB (gj (cG (kc:=11) (aj 0) T.aC T.dW (fW T) iZ h.mo T.bV .nil (ak (bO (ak cF (ak (aL (cs:=[5,11]) ⟨⟨T.aW,T.a_⟩,⟨⟨T.aC,T.aZ⟩,jI⟩⟩ (aj 0)) (ak (aj 2) (ak (cG (kc:=9) (aL (cs:=[11]) ⟨⟨T.aC,T.bf⟩,jI⟩ (aj 0)) T.bG T.qI (vh T) iZ h.mo T.iQ .nil (ak (aj 2) aA)) aA))))) aA)))
  (aB (gj (bh (kc:=11) (aj 0) T.aC T.qQ (wY T) iZ h.mo T.gC .nil))
  (aK (bx (i:=1) n rfl tL (bh (kc:=11) (aj 0) T.aC T.jJ (vW T) iZ h.mo T.bT .nil)))))) bM)
  (aB (gj (bh (kc:=11) (aj 0) T.aC T.oO (uL T) iZ h.mo T.fB .nil))
  (aK (aU (aj 1)))))))
theorem z6(T:Txt K mg t):rB T t.jb t.jc ["self","what"] 10 (aY 4 tO) 2:=fX (st:=b_) ["self","what","place","letters"] T.oX qi λh n u=>
 (aB (bx (i:=2) n rfl tL (cG (kc:=4) (aL (cs:=[5,11]) ⟨⟨T.aW,T.bI⟩,⟨⟨T.aC,T.bH⟩,jI⟩⟩ (aj 0)) T.bu T.Fb (Ly T) iZ h.mo T.ud .nil (ak (bO (ak (aL (cs:=[5,11]) ⟨⟨T.aW,T.a_⟩,⟨⟨T.aC,T.aZ⟩,jI⟩⟩ (aj 0)) (ak (aj 1) aA))) aA)))
  (aB (gj (cG (kc:=11) (aj 0) T.aC T.dW (fW T) iZ h.mo T.bV .nil (ak (bO (ak cF (ak (aL (cs:=[5,11]) ⟨⟨T.aW,T.a_⟩,⟨⟨T.aC,T.aZ⟩,jI⟩⟩ (aj 0)) (ak (aj 2) (ak (aj 1) aA))))) aA)))
  (aB (bx (i:=3) n rfl tL (bh (kc:=11) (aj 0) T.aC T.tX (zA T) iZ h.mo T.iW .nil))
  (aK (aU (aR iV (aj 3) (bh (kc:=11) (aj 0) T.aC T.xj (Il T) iZ h.mo T.nQ .nil)))))))
theorem xP(T:Txt K mg t):rB T t.fK t.fL ["self"] 11 (aY 2 bT) 1:=fX (st:=bC) ["self","two"] T.jK qi λh n u=>
 (aB (bx (i:=1) n rfl tL (dN u (bh (kc:=4) (aL (cs:=[5,11]) ⟨⟨T.aW,T.bI⟩,⟨⟨T.aC,T.bH⟩,jI⟩⟩ (aj 0)) T.bu T.rE (uK T) iZ h.mo T.jD .nil) aJ))
  (aB (dg (SW.pt (Oq (bN (oF u) (aj 1) aJ (bD _)) (HS (bN Ht (bh (kc:=4) (aL (cs:=[5,11]) ⟨⟨T.aW,T.bI⟩,⟨⟨T.aC,T.bH⟩,jI⟩⟩ (aj 0)) T.bu T.sr (xT T) iZ h.mo T.gY .nil) (aL (cs:=[11]) ⟨⟨T.aC,T.bU⟩,jI⟩ (aj 0)) (bD _))))) (aK (aU (gO aA))) bM)
  (aK (aU (cG (kc:=11) (aj 0) T.aC T.oN (z6 T) iZ h.mo T.gG .nil (ak (bO (ak cF (ak (aj 1) (ak aJ aA)))) aA))))))
theorem LC(T:Txt K mg t):rB T t.qC t.qD ["self"] 12 (aY 3 nQ) 1:=fX (st:=gb) ["self","letters","place"] T.xx qi λh n u=>
 (aB (bx (i:=1) n rfl tL (gO aA))
  (aB (bx (i:=2) n rfl tL (bh (kc:=11) (aj 0) T.aC T.lH (rD T) iZ h.mo T.cD .nil))
  (aB (dg (bN Nm (aj 2) wV (bD _)) (aB (cP (cs:=[11]) ⟨⟨T.aC,T.bU⟩,jI⟩ (aj 0) (aj 2))
  (aB (gj (cG (kc:=11) (aj 0) T.aC T.dW (fW T) iZ h.mo T.bV .nil (ak (bO (ak cF (ak (aL (cs:=[5,11]) ⟨⟨T.aW,T.a_⟩,⟨⟨T.aC,T.aZ⟩,jI⟩⟩ (aj 0)) (ak (aj 2) (ak (cG (kc:=9) (aL (cs:=[11]) ⟨⟨T.aC,T.bf⟩,jI⟩ (aj 0)) T.bG T.qI (vh T) iZ h.mo T.iQ .nil (ak (aj 2) aA)) aA))))) aA)))
  (aB (gj (bh (kc:=11) (aj 0) T.aC T.qQ (wY T) iZ h.mo T.gC .nil))
  (aK (bx (i:=1) n rfl tL (bh (kc:=11) (aj 0) T.aC T.jJ (xP T) iZ h.mo T.bT .nil)))))) bM)
  (aB (gj (bh (kc:=11) (aj 0) T.aC T.oO (uL T) iZ h.mo T.fB .nil))
  (aK (aU (aj 1)))))))
theorem Ck(T:Txt K mg t):rB T t.jb t.jc ["self","what"] 13 (aY 4 gG) 2:=fX (st:=b_) ["self","what","place","letters"] T.oX qi λh n u=>
 (aB (bx (i:=2) n rfl tL (cG (kc:=4) (aL (cs:=[5,11]) ⟨⟨T.aW,T.bI⟩,⟨⟨T.aC,T.bH⟩,jI⟩⟩ (aj 0)) T.bu T.Fb (Ly T) iZ h.mo T.ud .nil (ak (bO (ak (aL (cs:=[5,11]) ⟨⟨T.aW,T.a_⟩,⟨⟨T.aC,T.aZ⟩,jI⟩⟩ (aj 0)) (ak (aj 1) aA))) aA)))
  (aB (gj (cG (kc:=11) (aj 0) T.aC T.dW (fW T) iZ h.mo T.bV .nil (ak (bO (ak cF (ak (aL (cs:=[5,11]) ⟨⟨T.aW,T.a_⟩,⟨⟨T.aC,T.aZ⟩,jI⟩⟩ (aj 0)) (ak (aj 2) (ak (aj 1) aA))))) aA)))
  (aB (bx (i:=3) n rfl tL (bh (kc:=11) (aj 0) T.aC T.tX (zA T) iZ h.mo T.iW .nil))
  (aK (aU (aR iV (aj 3) (bh (kc:=11) (aj 0) T.aC T.xj (LC T) iZ h.mo T.nQ .nil)))))))
theorem Ey(T:Txt K mg t):rB T t.n8 t.ou ["self"] 14 (aY 1 iU) 1:=fX (st:=dD) ["self"] T.xu qi λh n u=>
 (aB (gj (cG (kc:=11) (aj 0) T.aC T.dW (fW T) iZ h.mo T.bV .nil (ak (bO (ak cF (ak (aL (cs:=[9,11]) ⟨⟨T.bG,T.b7⟩,⟨⟨T.aC,T.cR⟩,jI⟩⟩ (aj 0)) (ak (aL (cs:=[5,11]) ⟨⟨T.aW,T.a_⟩,⟨⟨T.aC,T.aZ⟩,jI⟩⟩ (aj 0)) (ak (aL (cs:=[8]) ⟨⟨T.uY,T.d9⟩,jI⟩ (aL (cs:=[11]) ⟨⟨T.aC,T.bf⟩,jI⟩ (aj 0))) aA))))) aA)))
  (aB (cP (cs:=[11]) ⟨⟨T.aC,T.bf⟩,jI⟩ (aj 0) (Df (kc:=9) T.zG (N8 T) iZ h.mo rfl T.Ma T.pZ .nil (ak (aL (cs:=[9,11]) ⟨⟨T.bG,T.b7⟩,⟨⟨T.aC,T.cR⟩,jI⟩⟩ (aj 0)) (ak (aR iV (bh (kc:=4) (aL (cs:=[5,11]) ⟨⟨T.aW,T.bI⟩,⟨⟨T.aC,T.bH⟩,jI⟩⟩ (aj 0)) T.bu T.jY (l_ T) iZ h.mo T.gZ .nil) aJ) aA))))
  (aB (cP (cs:=[11]) ⟨⟨T.aC,T.iG⟩,jI⟩ (aj 0) (aL (cs:=[9,11]) ⟨⟨T.bG,T.b7⟩,⟨⟨T.aC,T.cR⟩,jI⟩⟩ (aj 0)))
  (aK (aU (cG (kc:=11) (aj 0) T.aC T.oN (Ck T) iZ h.mo T.gG .nil (ak (bO (ak cF aA)) aA)))))))
theorem vC(T:Txt K mg t):rB T t.mW t.mZ ["self"] 15 (aY 1 dZ) 1:=fX (st:=cX) ["self"] T.vL qi λh n u=>
 (aB (dg (yN (lC (bK (Wr T) iZ h.mo rfl T.QK T.Kq.kp T.Rr (.cons (.bl false) .nil) (ak (bh (kc:=4) (aL (cs:=[5,11]) ⟨⟨T.aW,T.bI⟩,⟨⟨T.aC,T.bH⟩,jI⟩⟩ (aj 0)) T.bu T.rE (uK T) iZ h.mo T.jD .nil) (ak (aL (cs:=[8]) ⟨⟨T.uY,T.d9⟩,jI⟩ (aL (cs:=[11]) ⟨⟨T.aC,T.bf⟩,jI⟩ (aj 0))) aA))))) (aK (aU (gO aA))) bM)
  (aK (aU (bh (kc:=11) (aj 0) T.aC T.xg (Ey T) iZ h.mo T.iU .nil))))
theorem QF(T:Txt K mg t):rB T t.yu t.yG ["self"] 16 (aY 2 u_) 1:=fX (st:=jV) ["self","letters"] T.Hf qi λh n u=>
 (@aB _ _ _ _ _ _ _ (dg (lC (bh (kc:=11) (aj 0) T.aC T.tY (zB T) iZ h.mo T.iY .nil)) (aK qg) bM) (@aB _ _ _ _ _ _ _ (gj (cG (kc:=11) (aj 0) T.aC T.Eb (N6 T) iZ h.mo T.pX .nil (ak (aR iV (aL (cs:=[5,11]) ⟨⟨T.aW,T.a_⟩,⟨⟨T.aC,T.aZ⟩,jI⟩⟩ (aj 0)) aJ) aA))) (@aB _ _ _ _ _ _ _ (gj (cG (kc:=11) (aj 0) T.aC T.xZ (Gv T) iZ h.mo T.jx .nil (ak (aL (cs:=[9,11]) ⟨⟨T.bG,T.b7⟩,⟨⟨T.aC,T.cR⟩,jI⟩⟩ (aj 0)) aA))) (@aB _ _ _ _ _ _ _ (cP (cs:=[11]) ⟨⟨T.aC,T.bf⟩,jI⟩ (aj 0) (Df (kc:=8) T.zH (Oa T) iZ h.mo rfl T.Mf T.p7 .nil (ak (aL (cs:=[9,11]) ⟨⟨T.bG,T.b7⟩,⟨⟨T.aC,T.cR⟩,jI⟩⟩ (aj 0)) aA))) (@aB _ _ _ _ _ _ _ (@Qc _ _ _ _ _ _ _ _ _ _ _ _ _ _ _ _ (1) rfl ["self"] [0] n rfl rfl (wU (bh (kc:=11) (aj 0) T.aC T.xm (Cm T) iZ h.mo T.kY .nil)) ⟨⟨rfl,rfl,by first | exact .inl rfl | exact .inr rfl⟩,jI⟩ (λ_ _ _ _ _=>FZ) (λ_ _ _ _ _=>(@bO _ _ _ _ _ _ _ (@bz _ _ _ _ _ _ _ cF (@bz _ _ _ _ _ _ _ (aL (cs:=[9,11]) ⟨⟨T.bG,T.b7⟩,⟨⟨T.aC,T.cR⟩,jI⟩⟩ (aj 1)) (@bz _ _ _ _ _ _ _ (aj 0) (@bz _ _ _ _ _ _ _ (aL (cs:=[5,11]) ⟨⟨T.aW,T.a_⟩,⟨⟨T.aC,T.aZ⟩,jI⟩⟩ (aj 1)) (@bz _ _ _ _ _ _ _ (bh (kc:=4) (aL (cs:=[5,11]) ⟨⟨T.aW,T.bI⟩,⟨⟨T.aC,T.bH⟩,jI⟩⟩ (aj 1)) T.bu T.Mh (Vc T) Tk.none h.mo T.wQ .nil) aA rfl) rfl) rfl) rfl) rfl))) (by decide +kernel) (by decide +kernel) (by decide +kernel) (by decide +kernel) rfl rfl rfl (by intro _ ;rfl)) (aK (aU (aR iV (aj 1) (bh (kc:=11) (aj 0) T.aC T.p_ (vC T) iZ h.mo T.dZ .nil)))))))))
theorem Qz(T:Txt K mg t):rB T t.yp t.yC ["_law_me","_law_term","_law_roll","_law_voters","_law_end","_law_base"] 4 (aY 10 rH) 6:=fX (st:=jP) ["_law_me","_law_term","_law_roll","_law_voters","_law_end","_law_base","_law_place","_law_papers","_law_sent","_law_whom"] T.wj qi λh n u=>
 (@aB _ _ _ _ _ _ _ (bx (i:=6) n rfl tL (aR iV (dN u (aj 4) aJ) aJ)) (@aB _ _ _ _ _ _ _ (bx (i:=7) n rfl tL (gO (ak (bO (ak cF (ak (aj 0) (ak (aj 1) (ak (aj 0) aA))))) (ak (bO (ak cF (ak (aj 0) (ak (aj 1) (ak (aj 3) aA))))) (ak (bO (ak cF (ak (aj 1) (ak (aj 6) (ak (bO (ak cF aA)) aA))))) aA))))) (@aB _ _ _ _ _ _ _ (gj (K5 PySem.F.plainAttrs_list PySem.F.slot_list_append PySem.F.type_list_append tW (aj 7) (ak (bO (ak cF (ak (aj 1) (ak aJ aA)))) aA))) (@aB _ _ _ _ _ _ _ (dg (lC (bK (Ji T) iZ h.mo rfl T.xU T.uR.kp T.kI .nil (ak (aj 2) (ak (aR xH aJ (aj 0)) aA)))) (aB (gj (K5 PySem.F.plainAttrs_list PySem.F.slot_list_append PySem.F.type_list_append tW (aj 7) (ak (bO (ak cF (ak (aj 1) (ak (aj 6) (ak (aR xH aJ (aj 0)) aA))))) aA)))
  (aK (dg (bN (yJ u) (dN u (aj 2) aJ) aJ (bD _)) (aB (gj (K5 PySem.F.plainAttrs_list PySem.F.slot_list_append PySem.F.type_list_append tW (aj 7) (ak (bO (ak cF (ak (aj 1) (ak (aR iV (aj 6) aJ) (ak (bO (ak cF (ak (dN u (aj 2) aJ) (ak aJ aA)))) aA))))) aA)))
  (aB (gj (K5 PySem.F.plainAttrs_list PySem.F.slot_list_append PySem.F.type_list_append tW (aj 7) (ak (bO (ak cF (ak (aj 1) (ak aJ aA)))) aA)))
  (aK (gj (K5 PySem.F.plainAttrs_list PySem.F.slot_list_append PySem.F.type_list_append tW (aj 7) (ak (bO (ak cF (ak (aj 1) (ak (aR iV (aj 6) aJ) (ak (aR xH aJ (aj 0)) aA))))) aA)))))) bM))) bM) (@aB _ _ _ _ _ _ _ (bx (i:=8) n rfl tL (gO aA)) (@aB _ _ _ _ _ _ _ (@yO _ _ _ _ _ _ _ _ _ _ (ni rfl rfl) rfl (wU (bK (vV T) iZ h.mo rfl T.rY T.pF.kp T.j9 .nil (ak (aR JH (dN u (aj 2) aJ) (dN u (aj 2) aJ)) aA))) (ir (i:=9) n rfl tL) (@aK _ _ _ _ _ (@dg _ _ _ _ _ _ _ _ _ _ (bN (yJ u) (aj 9) (aj 0) (bD _)) (@aK _ _ _ _ _ (@gj _ _ _ _ _ _ (@K5 _ _ _ _ _ _ _ _ _ _ _ _ _ _ PySem.F.plainAttrs_list PySem.F.slot_list_append PySem.F.type_list_append tW (aj 8) (@ak _ _ _ _ _ _ _ (@bO _ _ _ _ _ _ _ (@bz _ _ _ _ _ _ _ cF (@bz _ _ _ _ _ _ _ (aj 0) (@bz _ _ _ _ _ _ _ (aj 9) (@bz _ _ _ _ _ _ _ (aj 1) (@bz _ _ _ _ _ _ _ aJ (@bz _ _ _ _ _ _ _ (aR Bj (aj 6) aJ) (@bz _ _ _ _ _ _ _ (dN u (aj 4) aJ) (@bz _ _ _ _ _ _ _ (bO (ak (bO (ak (aj 1) (ak (bO (ak cF aA)) aA))) aA)) (@bz _ _ _ _ _ _ _ (aj 5) aA rfl) rfl) rfl) rfl) rfl) rfl) rfl) rfl) rfl)) aA rfl) rfl rfl rfl rfl rfl) rfl)) bM)) (by intro _ ;rfl)) (aK (aU (bO (ak (aj 7) (ak (aj 8) aA)))))))))))
theorem QB(T:Txt K mg t):lg P w K mg base (zq P w) 9 t.uV t.uW ["_law_found","_law_due"] (spS K (Og t) mj 2):=by
 refine WM (k:=1) (n:=8) (g:=λm=>aY 2 (cC m)) λn m G=> ?_
 show lg P w K mg base (zq P w) (n+1) t.uV t.uW ["_law_found","_law_due"] (spS K (Og t) (aY 2 (cC m)) 2)
 refine akZ (n:=2) (ar:=2) (k:=n) (b:=cC m) T.j6 Qf rfl rfl ?_
 intro cdv A outer s H E W hr
 exact(aB (dg (bN adG (aj 1) wV (bD _)) (aK (aU (vg adG (aj 0) wV (bD _)))) bM)
  (aB (dg (lC (cW xG rfl T.dH dj (ak (aj 1) (ak (B_ rfl T.QM Ro) aA)))) (aK (aU (HX (cW xG rfl T.dH dj (ak (aj 0) (ak (B_ rfl T.QM Ro) aA))) (Et (vg (oF hr.units) (aj 0) (aj 1) (bD _)))))) bM)
  (aB (dg (lC (cW xG rfl T.dH dj (ak (aj 1) (ak (B_ rfl T.O2 Nk) aA)))) (aK (aU (HX (cW xG rfl T.dH dj (ak (aj 0) (ak (B_ rfl T.O2 Nk) aA))) (HX (ad8 (cW xG rfl T.dH dj (ak (aj 0) (ak (B_ rfl T.QM Ro) aA)))) (Et (vg (oF hr.units) (aj 0) (aj 1) (bD _))))))) bM)
  (aB (dg (lC (cW xG rfl T.dH dj (ak (aj 1) (ak (B_ rfl T.aap aaY) aA)))) (aK (aU (HX (cW xG rfl T.dH dj (ak (aj 0) (ak (B_ rfl T.aap aaY) aA))) (Et (vg (oF hr.units) (aj 0) (aj 1) (bD _)))))) bM)
  (aB (dg (SW.pt (Oq (bN (yJ hr.units) (cW xG rfl T.dH dj (ak (aj 1) (ak (B_ rfl T.Kf Nj) aA))) (cW xG rfl T.dH dj (ak (aj 0) (ak (B_ rfl T.Kf Nj) aA))) (bD _)) (HS (bN (yJ hr.units) (cW xG rfl T.dH dj (ak (aj 1) (ak (B_ rfl T.Fg DP) aA))) (cW xG rfl T.dH dj (ak (aj 0) (ak (B_ rfl T.Fg DP) aA))) (bD _))))) (aK (aU K6)) bM)
  (aB (dg (bN (yJ hr.units) (cW vz rfl T.zJ vB (ak (aj 0) aA)) (cW vz rfl T.zJ vB (ak (aj 1) aA)) (bD _)) (aK (aU K6)) bM)
  (aK (aU (cW (afJ rfl) rfl T.adu agz (ak (Dg rfl ["_law_found","_law_due"] [0,1] (wM rfl T.vX (ak (cW vz rfl T.zJ vB (ak (aj 1) aA)) aA)) ⟨⟨rfl,rfl,by first | exact .inl rfl | exact .inr rfl⟩,⟨⟨rfl,rfl,by first | exact .inl rfl | exact .inr rfl⟩,jI⟩⟩ (λ_ _ _ _ _=>FZ) (λ_ _ _ _ _=>(bK G Tk.none hr rfl T.mV T.j6.kp T.cC .nil (ak (dN hr.units (aj 1) (aj 0)) (ak (dN hr.units (aj 2) (aj 0)) aA)))) (by decide +kernel) (by decide +kernel) (by decide +kernel) (by decide +kernel)) aA))))))))))
theorem Qy(T:Txt K mg t):rB T t.yo t.yz ["_law_cell","_law_some","_law_at"] 1 (aY 3 mq) 3:=fX (st:=jO) ["_law_cell","_law_some","_law_at"] T.Ah qi λh n u=>
 (aB (dg (bN (oF u) (aR oY (aj 0) aJ) aJ (bD _)) (aK (aU (Dg rfl ["_law_some","_law_at"] [1,2] (wM rfl T.vX (ak aJ aA)) ⟨⟨rfl,rfl,by first | exact .inl rfl | exact .inr rfl⟩,⟨⟨rfl,rfl,by first | exact .inl rfl | exact .inr rfl⟩,jI⟩⟩ (λ_ _ _ _ _=>FZ) (λ_ _ _ _ _=>(dN u (aj 1) (aR oY (aR iV (aj 2) (aj 0)) (cW vz rfl T.zJ vB (ak (aj 1) aA))))) (by decide +kernel) (by decide +kernel) (by decide +kernel) (by decide +kernel)))) bM)
  (aB (dg (bN (oF u) (aR oY (aj 0) aJ) aJ (bD _)) (aK (aU (gO (ak (aR oY (aR Fq (aj 0) aJ) aJ) aA)))) bM)
  (aK (aU (gO (ak (dN u (aj 1) (aR oY (aj 2) (cW vz rfl T.zJ vB (ak (aj 1) aA)))) aA))))))
theorem DW(T:Txt K mg t):rB T t.mX t.m6 ["self","letter"] 1 (aY 2 h_) 2:=fX (st:=cY) ["self","letter"] T.vM qi λh n u=>
 (aB (dg (bN (aaZ u) (dN u (aj 1) aJ) (bO (ak cF (ak cF (ak cF aA)))) (by with_unfolding_all rfl)) (aK (aU (gO (ak (bO (ak cF (ak (aL (cs:=[9,11]) ⟨⟨T.bG,T.b7⟩,⟨⟨T.aC,T.cR⟩,jI⟩⟩ (aj 0)) (ak (dN u (aj 1) aJ) (ak (aL (cs:=[5,11]) ⟨⟨T.aW,T.a_⟩,⟨⟨T.aC,T.aZ⟩,jI⟩⟩ (aj 0)) aA))))) aA)))) bM)
  (aK (aU (gO aA))))
theorem Gw(T:Txt K mg t):rB T t.pL t.pU ["self","hand"] 2 (aY 2 jy) 2:=fX (st:=eU) ["self","hand"] T.ym qi λh n u=>
 (aK (cP (cs:=[8]) ⟨⟨T.uY,T.d9⟩,jI⟩ (aj 0) (aR JH (aL (cs:=[8]) ⟨⟨T.uY,T.d9⟩,jI⟩ (aj 0)) (bK (Ik T) iZ h.mo rfl T.Dn T.zM.kp T.u9 .nil (ak (gO (ak (aj 1) aA)) aA)))))
theorem Gq(T:Txt K mg t):rB T t.pH t.pO ["self","voter"] 16 (aY 2 g8) 2:=fX (st:=eF) ["self","voter"] T.yf qi λh n u=>
 (aB (dg (yN (lC (cW (aaV (k:=8) (cl:=[(7,false),(8,true),(9,false)]) ⟨⟨T.jN,T.Im⟩,⟨⟨T.lU,T.LQ⟩,⟨⟨T.lQ,T.LK⟩,jI⟩⟩⟩) rfl T.dH dj (ak (aL (cs:=[11]) ⟨⟨T.aC,T.bf⟩,jI⟩ (aj 0)) (ak (Zw (k:=8) rfl T.Mf) aA))))) (aK (aU (gO aA))) bM)
  (aB (gj (cG (kc:=8) (aL (cs:=[11]) ⟨⟨T.aC,T.bf⟩,jI⟩ (aj 0)) T.uY T.x_ (Gw T) iZ h.mo T.jy .nil (ak (aj 1) aA)))
  (aK (aU (bh (kc:=11) (aj 0) T.aC T.p_ (vC T) iZ h.mo T.dZ .nil)))))
theorem QD(T:Txt K mg t):rB T t.yt t.yF ["self","letter"] 17 (aY 2 mz) 2:=fX (st:=jU) ["self","letter"] T.G_ qi λh n u=>
 (aB (dg (bN (yJ u) (dN u (aj 1) aJ) (aL (cs:=[9,11]) ⟨⟨T.bG,T.b7⟩,⟨⟨T.aC,T.cR⟩,jI⟩⟩ (aj 0)) (bD _)) (aK qg) bM)
  (aB (dg (bN (VJ u) (dN u (aj 1) aJ) (aL (cs:=[5,11]) ⟨⟨T.aW,T.a_⟩,⟨⟨T.aC,T.aZ⟩,jI⟩⟩ (aj 0)) (bD _)) (aK (aU (cG (kc:=11) (aj 0) T.aC T.vD (DW T) iZ h.mo T.h_ .nil (ak (aj 1) aA)))) bM)
  (aB (dg (bN Ht (dN u (aj 1) aJ) (aL (cs:=[5,11]) ⟨⟨T.aW,T.a_⟩,⟨⟨T.aC,T.aZ⟩,jI⟩⟩ (aj 0)) (bD _)) (aK qg) bM)
  (aB (dg (bN (oF u) (dN u (aj 1) aJ) cF (bD _)) (aK qg) bM)
  (aB (dg (bN (oF u) (dN u (aj 1) aJ) cF (bD _)) (aK (aU (cG (kc:=11) (aj 0) T.aC T.xW (Gq T) iZ h.mo T.g8 .nil (ak (dN u (aj 1) aJ) aA)))) bM)
  (aB (dg (bN (oF u) (dN u (aj 1) aJ) cF (bD _)) (aK qg) bM)
  (aB (dg (SW.pt (KJ (bN (aaZ u) (dN u (aj 1) aJ) (bO (ak cF (ak cF aA))) (by with_unfolding_all rfl)) (FT (yN (lC (bh (kc:=11) (aj 0) T.aC T.tY (zB T) iZ h.mo T.iY .nil)))))) (aK qg) bM)
  (aK (aU (gO aA))))))))))
theorem N_(T:Txt K mg t):rB T t.wC t.wK ["self"] 1 (aY 1 p6) 1:=fX (st:=jj) ["self"] T.Ek qi λh n u=>
 (aK (aU cF))
theorem N7(T:Txt K mg t):rB T t.wA t.wI ["self"] 1 (aY 1 pY) 1:=fX (st:=jh) ["self"] T.Ei qi λh n u=>
 (aK (aU cF))
theorem ae8(T:Txt K mg t)(aaJ:PySem.W.CodeHd base t.Bp t.Bq/\base.BuiltinsAt mg t.Bq):lg P w K mg base (zq P w) 18 t.O_ t.Hr ["_law_script"] (spS K (Og t) adt 1):=by
 show lg P w K mg base (zq P w) (17+1) t.O_ t.Hr ["_law_script"] (spS K (Og t) (aY 18 TX) 1)
 have uH:= @oJ K mg t T P w base
 have Nv:= @SX K mg t T P w base
 have V4:= @S5 K mg t T P w base
 have Ub:= @QG K mg t T P w base
 have T9:= @vV K mg t T P w base
 have Nu:= @Ji K mg t T P w base
 have Ua:= @QF K mg t T P w base
 have JL:= @Qz K mg t T P w base
 have vf:= @QB P w K mg base t T
 have T8:= @Qy K mg t T P w base
 have T_:= @QD K mg t T P w base
 have RG:= @N_ K mg t T P w base
 have RD:= @N7 K mg t T P w base
 refine akY (n:=18) (ar:=1) (k:=17) (b:=TX) T.Vu gJ rfl rfl ?_
 intro cdv A outer s H E W hcd hr
 obtain rfl:cdv= .ref t.Bp:=hcd.symm.trans T.Bp
 exact(BZ (bx (i:=1) gJ.nd rfl (Or.inr rfl) (aR oY (bK uH Tk.wish (hr.mono (by decide)) rfl T.gA T.fJ.kp T.dm .nil (ak (aj 0) (ak aJ aA))) aJ))
  (BZ (bx (i:=2) gJ.nd rfl (Or.inl rfl) (bO (ak (bK Nv Tk.wish (hr.mono (by decide)) rfl T.Cp T.yc.kp T.kJ .nil (ak (bK uH Tk.wish (hr.mono (by decide)) rfl T.gA T.fJ.kp T.dm .nil (ak (aj 0) (ak aJ aA))) (ak (aj 1) aA))) (ak aJ aA))))
  (BZ (dg (bN (oF hr.units) (aR oY (aR Fq (bK uH Tk.wish (hr.mono (by decide)) rfl T.gA T.fJ.kp T.dm .nil (ak (aj 0) (ak aJ aA))) aJ) aJ) aJ (bD _)) (aK (bx (i:=2) gJ.nd rfl (Or.inl rfl) (bO (ak (dN hr.units (aj 2) aJ) (ak (bK Nv Tk.wish (hr.mono (by decide)) rfl T.Cp T.yc.kp T.kJ .nil (ak (bK uH Tk.wish (hr.mono (by decide)) rfl T.gA T.fJ.kp T.dm .nil (ak (aj 0) (ak aJ aA))) (ak (aj 1) aA))) aA))))) bM)
  (BZ (Uv (bK V4 Tk.wish (hr.mono (by decide)) rfl T.Jp T.CQ.kp T.xJ .nil (ak (aj 0) (ak (aj 1) (ak (aj 2) aA)))) (KY rfl (lD (ir (i:=3) gJ.nd rfl (Or.inl rfl)) (lD (ir (i:=4) gJ.nd rfl (Or.inr rfl)) (lD (ir (i:=5) gJ.nd rfl (Or.inr rfl)) (lD (ir (i:=6) gJ.nd rfl (Or.inl rfl)) Ga))))))
  (BZ (bx (i:=7) gJ.nd rfl (Or.inr rfl) (gO aA))
  (Zk (λy=> !(y== "_law_papers")) (λ_ _=>rfl)
  (@aB _ _ _ _ _ _ _ (bx (i:=8) gJ.nd rfl (Or.inl rfl) (Df (kc:=11) T.Dl Ub Tk.wish (hr.mono (by decide)) rfl T.Wv T.rK .nil (ak (aj 1) (ak (aj 3) (ak (Xh 7 (k:=1000) ⟨rfl,rfl,rfl,rfl,rfl,by decide,by decide,rfl,rfl,rfl,rfl,rfl,λ_ z=>afl z,λ_ _ _ _ _ _ _=>rfl⟩ rfl (by decide) T.HN rfl rfl (by first | exact Nat.le_succ _ | exact afk | (show s.heap.objs.size<=_;omega)) rfl rfl aaJ.1 aaJ.2 rfl) aA))))) (@aB _ _ _ _ _ _ _ (bx (i:=9) gJ.nd rfl (Or.inl rfl) (bK T9 Tk.wish (hr.mono (by decide)) rfl T.rY T.pF.kp T.j9 .nil (ak (aR JH (dN hr.units (aj 2) aJ) (dN hr.units (aj 2) aJ)) aA))) (@aB _ _ _ _ _ _ _ (@Qc _ _ _ _ _ _ _ _ _ _ _ _ _ _ _ _ (10) rfl ["_law_me","_law_term","_law_end"] [1,4,5] gJ.nd rfl rfl (wU (aj 9)) ⟨⟨rfl,rfl,by first | exact .inl rfl | exact .inr rfl⟩,⟨⟨rfl,rfl,by first | exact .inl rfl | exact .inr rfl⟩,⟨⟨rfl,rfl,by first | exact .inl rfl | exact .inr rfl⟩,jI⟩⟩⟩ (λ_ _ _ _ _=>(FW (bN (yJ hr.units) (aj 0) (aj 1) (bD _)))) (λ_ _ _ _ _=>(@bO _ _ _ _ _ _ _ (@bz _ _ _ _ _ _ _ cF (@bz _ _ _ _ _ _ _ (aj 1) (@bz _ _ _ _ _ _ _ (aj 0) (@bz _ _ _ _ _ _ _ (aj 2) (@bz _ _ _ _ _ _ _ (aj 3) aA rfl) rfl) rfl) rfl) rfl))) (by decide +kernel) (by decide +kernel) (by decide +kernel) (by decide +kernel) rfl rfl rfl (by intro _ ;rfl)) (@aB _ _ _ _ _ _ _ (bx (i:=11) gJ.nd rfl (Or.inl rfl) (aR xH aJ (aj 1))) (@aB _ _ _ _ _ _ _ (bx (i:=12) gJ.nd rfl (Or.inl rfl) (bK Nu Tk.wish (hr.mono (by decide)) rfl T.xU T.uR.kp T.kI .nil (ak (aj 2) (ak (aj 11) aA)))) (@aB _ _ _ _ _ _ _ (bx (i:=13) gJ.nd rfl (Or.inl rfl) (bh (kc:=11) (aj 8) T.aC T.GD Ua Tk.wish (hr.mono (by decide)) T.u_ .nil)) (@aB _ _ _ _ _ _ _ (@dg _ _ _ _ _ _ _ _ _ _ (lC (aj 12)) (@aK _ _ _ _ _ (@Uv _ _ _ _ _ _ _ _ (@bK _ _ _ _ _ _ _ _ _ _ _ _ _ _ _ _ _ _ JL Tk.wish (hr.mono (by decide)) rfl T.z8 T.wj.kp T.rH .nil (@bz _ _ _ _ _ _ _ (aj 1) (@bz _ _ _ _ _ _ _ (aj 4) (@bz _ _ _ _ _ _ _ (aj 2) (@bz _ _ _ _ _ _ _ (aj 11) (@bz _ _ _ _ _ _ _ (aj 5) (@bz _ _ _ _ _ _ _ (aj 6) aA rfl) rfl) rfl) rfl) rfl) rfl) (by decide) rfl rfl rfl) (KY rfl (lD (ir (i:=14) gJ.nd rfl (Or.inl rfl)) (lD (ir (i:=10) gJ.nd rfl (Or.inl rfl)) Ga))) rfl rfl rfl)) (aK (bx (i:=14) gJ.nd rfl (Or.inl rfl) (gO (ak (bO (ak cF (ak (aj 1) (ak (aj 4) (ak (aj 1) aA))))) aA))))) (@aB _ _ _ _ _ _ _ (dg (SW.pt (Oq (yN (lC (bK vf Tk.wish (hr.mono (by decide)) rfl T.mV T.j6.kp T.cC .nil (ak (aj 13) (ak (aj 10) aA))))) (HS (yN (lC (bK vf Tk.wish (hr.mono (by decide)) rfl T.mV T.j6.kp T.cC .nil (ak (aj 7) (ak (aj 14) aA)))))))) (aK (aU K6)) bM) (@aB _ _ _ _ _ _ _ (bx (i:=15) gJ.nd rfl (Or.inl rfl) aJ) (@aB _ _ _ _ _ _ _ (@yO _ _ _ _ _ _ _ _ _ _ (ni rfl rfl) rfl (wU (adg (aj 0) (J6 aJ) (J6 aJ))) (ir (i:=16) gJ.nd rfl (Or.inl rfl)) (@aK _ _ _ _ _ (@yO _ _ _ _ _ _ _ _ _ _ (ni rfl rfl) rfl (wU (bK T8 Tk.wish (hr.mono (by decide)) rfl T.Gx T.Ah.kp T.mq .nil (ak (aj 16) (ak (aj 9) (ak (aj 15) aA))))) (ir (i:=17) gJ.nd rfl (Or.inl rfl)) (@aB _ _ _ _ _ _ _ (bx (i:=15) gJ.nd rfl (Or.inl rfl) (aR iV (aj 15) aJ)) (@aB _ _ _ _ _ _ _ (bx (i:=10) gJ.nd rfl (Or.inl rfl) (gO aA)) (@aB _ _ _ _ _ _ _ (@dg _ _ _ _ _ _ _ _ _ _ (bN (yJ hr.units) (aj 17) (aj 1) (bD _)) (@aB _ _ _ _ _ _ _ (@dg _ _ _ _ _ _ _ _ _ _ (SW.pt (KJ (yN (lC (aj 12))) (FT (bN (yJ hr.units) (aR oY (aj 16) aJ) aJ (bD _))))) (@aB _ _ _ _ _ _ _ (bx (i:=11) gJ.nd rfl (Or.inl rfl) (aR JH (aj 11) (aR xH aJ (aj 17)))) (@aK _ _ _ _ _ (@dg _ _ _ _ _ _ _ _ _ _ (lC (bK Nu Tk.wish (hr.mono (by decide)) rfl T.xU T.uR.kp T.kI .nil (ak (aj 2) (ak (aj 11) aA)))) (@aB _ _ _ _ _ _ _ (bx (i:=12) gJ.nd rfl (Or.inl rfl) K6) (@aK _ _ _ _ _ (@Uv _ _ _ _ _ _ _ _ (@bK _ _ _ _ _ _ _ _ _ _ _ _ _ _ _ _ _ _ JL Tk.wish (hr.mono (by decide)) rfl T.z8 T.wj.kp T.rH .nil (@bz _ _ _ _ _ _ _ (aj 1) (@bz _ _ _ _ _ _ _ (aj 4) (@bz _ _ _ _ _ _ _ (aj 2) (@bz _ _ _ _ _ _ _ (aj 11) (@bz _ _ _ _ _ _ _ (aj 5) (@bz _ _ _ _ _ _ _ (aj 6) aA rfl) rfl) rfl) rfl) rfl) rfl) (by decide) rfl rfl rfl) (KY rfl (lD (ir (i:=14) gJ.nd rfl (Or.inl rfl)) (lD (ir (i:=10) gJ.nd rfl (Or.inl rfl)) Ga))) rfl rfl rfl))) bM))) bM) (aB (bx (i:=13) gJ.nd rfl (Or.inl rfl) (cG (kc:=11) (aj 8) T.aC T.GC T_ Tk.wish (hr.mono (by decide)) T.mz .nil (ak (bO (ak cF (ak (aj 17) (ak (aj 1) (ak (aR Bj (aj 4) (zy VB rfl T.O2 Nk (ak (vg (oF hr.units) (aR oY (aj 16) aJ) aJ (bD _)) aA))) aA))))) aA)))
  (aK (dg (SW.pt (Oq (yN (lC (bK vf Tk.wish (hr.mono (by decide)) rfl T.mV T.j6.kp T.cC .nil (ak (aj 13) (ak (aj 10) aA))))) (HS (yN (lC (bK vf Tk.wish (hr.mono (by decide)) rfl T.mV T.j6.kp T.cC .nil (ak (aj 7) (ak (aj 14) aA)))))))) (aK (aU K6)) bM)))) bM) (aK (dg (bN (yJ hr.units) (SE.or (bh (kc:=8) (aL (cs:=[11]) ⟨⟨T.aC,T.bf⟩,jI⟩ (aj 8)) T.uY T.Ed RG Tk.wish (hr.mono (by decide)) T.p6 .nil) (bh (kc:=9) (aL (cs:=[11]) ⟨⟨T.aC,T.bf⟩,jI⟩ (aj 8)) T.bG T.Ec RD Tk.wish (hr.mono (by decide)) T.pY .nil)) (dN hr.units (gO (ak cF (ak cF aA))) (zy VB rfl T.O2 Nk (ak (aj 12) aA))) (bD _)) (aK (aU K6)) bM))))) (by intro _ ;rfl))) (by intro _ ;rfl)) (aK (aU (bK vf Tk.wish (hr.mono (by decide)) rfl T.mV T.j6.kp T.cC .nil (ak (gO (ak (aL (cs:=[5,11]) ⟨⟨T.aW,T.a_⟩,⟨⟨T.aC,T.aZ⟩,jI⟩⟩ (aj 8)) (ak (aL (cs:=[5,11]) ⟨⟨T.aW,T.gw⟩,⟨⟨T.aC,T.gq⟩,jI⟩⟩ (aj 8)) (ak (aL (cs:=[11]) ⟨⟨T.aC,T.iG⟩,jI⟩ (aj 8)) aA)))) (ak (gO (ak (aj 4) (ak (aj 1) (ak (dN hr.units (gO (ak wV (ak (aj 1) aA))) (zy VB rfl T.O2 Nk (ak (aj 12) aA))) aA)))) aA)))))))))))))))))))))
theorem X7(T:Txt K mg t)(s:Shared)(u:Value):BindsTo s t.Hr ⟨[u],[]⟩ [("_law_script",u)]:=by
 obtain⟨oc,od,kV,doc,pm,an,cdv,ct,osl,e,_⟩:=T.Vu.ex
 rw[e]
 exact .of_eq rfl
theorem acN(hk:1000<=k)(hc:Og t k≠0):∃z∈[(t.Bp,t.Bq)],Og t k=z.2:=by
 by_cases e:k=1000
 ·subst e;exact⟨_,xB,rfl⟩
 ·exfalso
  unfold Og at hc
  split at hc<;>first | omega | exact hc rfl
theorem ab5(T:Txt K mg t)(h0:PySem.W.CodeHd base t.Bp t.Bq/\base.BuiltinsAt mg t.Bq):lg P w K mg base CX0 18 t.O_ t.Hr ["_law_script"] (adZ K (Og t)):=afi (ae8 T h0) afj
end
set_option autoImplicit true in
theorem all_mk{K:Frag}{h:Heap}{mg:Str->Option Value}(X:K.In h)(G:h.Ns mainGlobals mg){vo8 ahc ahb:Obj}{vn8 arO arN:Nat}{JM:Tok}{Y0:Array Value}(V0:nsIn K mainGlobals "Row" = some (some (.ref nF)))(Rz:nsIn K mainGlobals "Book" = some (some (.ref ue)))(Nq:nsIn K mainGlobals "Shelf" = some (some (.ref sW)))(Ry:nsIn K mainGlobals "Hand" = some (some (.ref cV)))(Nt:nsIn K mainGlobals "Asker" = some (some (.ref jq)))(Nr:nsIn K mainGlobals "Chair" = some (some (.ref fj)))(Jd:nsIn K mainGlobals "Sitter" = some (some (.ref lX)))(a0:nsIn K mainGlobals "_law_cell_at" = some (some (.ref f0)))(l0:K.lookup f0=some ⟨oc0,od0,.func (fnOf "_law_cell_at" "_law_cell_at" (aF iu) (aD iu) (az iu) .none kV0 dc0 pm0 an0 cd0 ct0),sl0⟩)(c0:codeIn K cd0 "_law_cell_at" = true)(k0:keepIn K (.ref f0)=true)(a1:nsIn K mainGlobals "_law_part" = some (some (.ref f1)))(l1:K.lookup f1=some ⟨oc1,od1,.func (fnOf "_law_part" "_law_part" (aF mG) (aD mG) (az mG) .none kV1 dc1 pm1 an1 cd1 ct1),sl1⟩)(c1:codeIn K cd1 "_law_part" = true)(k1:keepIn K (.ref f1)=true)(a2:findIn K (.ref nF) "__init__" = some (some (.ref f2)))(i2:isFn K (.ref f2)=true)(l2:K.lookup f2=some ⟨oc2,od2,.func (fnOf "__init__" "Row.__init__" (aF mQ) (aD mQ) (az mQ) .none kV2 dc2 pm2 an2 cd2 ct2),sl2⟩)(c2:codeIn K cd2 "Row.__init__" = true)(k2:keepIn K (.ref f2)=true)(a3:findIn K (.ref nF) "twin" = some (some (.ref f3)))(i3:isFn K (.ref f3)=true)(l3:K.lookup f3=some ⟨oc3,od3,.func (fnOf "twin" "Row.twin" (aF mK) (aD mK) (az mK) .none kV3 dc3 pm3 an3 cd3 ct3),sl3⟩)(c3:codeIn K cd3 "Row.twin" = true)(k3:keepIn K (.ref f3)=true)(a4:findIn K (.ref ue) "__init__" = some (some (.ref f4)))(i4:isFn K (.ref f4)=true)(l4:K.lookup f4=some ⟨oc4,od4,.func (fnOf "__init__" "Book.__init__" (aF jW) (aD jW) (az jW) .none kV4 dc4 pm4 an4 cd4 ct4),sl4⟩)(c4:codeIn K cd4 "Book.__init__" = true)(k4:keepIn K (.ref f4)=true)(a5:nsIn K mainGlobals "_law_made" = some (some (.ref f5)))(l5:K.lookup f5=some ⟨oc5,od5,.func (fnOf "_law_made" "_law_made" (aF mH) (aD mH) (az mH) .none kV5 dc5 pm5 an5 cd5 ct5),sl5⟩)(c5:codeIn K cd5 "_law_made" = true)(k5:keepIn K (.ref f5)=true)(a6:findIn K (.ref sW) "__init__" = some (some (.ref f6)))(i6:isFn K (.ref f6)=true)(l6:K.lookup f6=some ⟨oc6,od6,.func (fnOf "__init__" "Shelf.__init__" (aF jf) (aD jf) (az jf) .none kV6 dc6 pm6 an6 cd6 ct6),sl6⟩)(c6:codeIn K cd6 "Shelf.__init__" = true)(k6:keepIn K (.ref f6)=true)(a7:nsIn K mainGlobals "shelf_of" = some (some (.ref f7)))(l7:K.lookup f7=some ⟨oc7,od7,.func (fnOf "shelf_of" "shelf_of" (aF mD) (aD mD) (az mD) .none kV7 dc7 pm7 an7 cd7 ct7),sl7⟩)(c7:codeIn K cd7 "shelf_of" = true)(k7:keepIn K (.ref f7)=true)(a8:findIn K (.ref cV) "__init__" = some (some (.ref f8)))(i8:isFn K (.ref f8)=true)(l8:K.lookup f8=some ⟨oc8,od8,.func (fnOf "__init__" "Hand.__init__" (aF lZ) (aD lZ) (az lZ) (.ref v8) kV8 dc8 pm8 an8 cd8 ct8),sl8⟩)(c8:codeIn K cd8 "Hand.__init__" = true)(k8:keepIn K (.ref f8)=true)(lv8:K.lookup v8=some vo8)(dv8:vo8.data= .seq #[.none] vn8)(a9:nsIn K mainGlobals "_law_hands" = some (some (.ref f9)))(l9:K.lookup f9=some ⟨oc9,od9,.func (fnOf "_law_hands" "_law_hands" (aF jQ) (aD jQ) (az jQ) .none kV9 dc9 pm9 an9 cd9 ct9),sl9⟩)(c9:codeIn K cd9 "_law_hands" = true)(k9:keepIn K (.ref f9)=true)(a10:nsIn K mainGlobals "_law_carries" = some (some (.ref f10)))(l10:K.lookup f10=some ⟨avn,auv,.func (fnOf "_law_carries" "_law_carries" (aF iw) (aD iw) (az iw) .none aj9 amz aiL aoE agx anu),as9⟩)(c10:codeIn K agx "_law_carries" = true)(k10:keepIn K (.ref f10)=true)(a11:nsIn K mainGlobals "_law_wins" = some (some (.ref f11)))(l11:K.lookup f11=some ⟨avm,auu,.func (fnOf "_law_wins" "_law_wins" (aF mF) (aD mF) (az mF) .none aj8 amy aiK aoD agw ant),as8⟩)(c11:codeIn K agw "_law_wins" = true)(k11:keepIn K (.ref f11)=true)(a12:findIn K (.ref cV) "is_chair" = some (some (.ref f12)))(i12:isFn K (.ref f12)=true)(l12:K.lookup f12=some ⟨avl,aut,.func (fnOf "is_chair" "Hand.is_chair" (aF fO) (aD fO) (az fO) .none aj7 amx aiJ aoC agv anr),as7⟩)(c12:codeIn K agv "Hand.is_chair" = true)(k12:keepIn K (.ref f12)=true)(a13:findIn K (.ref cV) "enter" = some (some (.ref f13)))(i13:isFn K (.ref f13)=true)(l13:K.lookup f13=some ⟨avk,aus,.func (fnOf "enter" "Hand.enter" (aF jg) (aD jg) (az jg) .none aj6 amw aiI aoB agu anq),as6⟩)(c13:codeIn K agu "Hand.enter" = true)(k13:keepIn K (.ref f13)=true)(a14:findIn K (.ref cV) "tell_paper" = some (some (.ref f14)))(i14:isFn K (.ref f14)=true)(l14:K.lookup f14=some ⟨avj,aur,.func (fnOf "tell_paper" "Hand.tell_paper" (aF dB) (aD dB) (az dB) .none aj5 amv aiH aoA agt anp),as5⟩)(c14:codeIn K agt "Hand.tell_paper" = true)(k14:keepIn K (.ref f14)=true)(a15:findIn K (.ref cV) "give_vote" = some (some (.ref f15)))(i15:isFn K (.ref f15)=true)(l15:K.lookup f15=some ⟨avi,auq,.func (fnOf "give_vote" "Hand.give_vote" (aF eO) (aD eO) (az eO) .none aj4 amu aiG aoz ags ano),as4⟩)(c15:codeIn K ags "Hand.give_vote" = true)(k15:keepIn K (.ref f15)=true)(a16:nsIn K mainGlobals "set_of" = some (some (.ref f16)))(l16:K.lookup f16=some ⟨avh,aup,.func (fnOf "set_of" "set_of" (aF rR) (aD rR) (az rR) .none aj3 amt aiF aoy agr anm),as3⟩)(c16:codeIn K agr "set_of" = true)(k16:keepIn K (.ref f16)=true)(a17:findIn K (.ref jq) "__init__" = some (some (.ref f17)))(i17:isFn K (.ref f17)=true)(l17:K.lookup f17=some ⟨avf,auo,.func (fnOf "__init__" "Asker.__init__" (aF jk) (aD jk) (az jk) .none aj2 ams aiE aox agq anl),asZ⟩)(c17:codeIn K agq "Asker.__init__" = true)(k17:keepIn K (.ref f17)=true)(a18:findIn K (.ref nF) "last" = some (some (.ref f18)))(i18:isFn K (.ref f18)=true)(l18:K.lookup f18=some ⟨ave,aun,.func (fnOf "last" "Row.last" (aF mO) (aD mO) (az mO) .none aj1 amr aiD aow agp ank),asY⟩)(c18:codeIn K agp "Row.last" = true)(k18:keepIn K (.ref f18)=true)(a19:findIn K (.ref nF) "keeps" = some (some (.ref f19)))(i19:isFn K (.ref f19)=true)(l19:K.lookup f19=some ⟨avd,aum,.func (fnOf "keeps" "Row.keeps" (aF jT) (aD jT) (az jT) .none aj0 amq aiC aov ago anj),asW⟩)(c19:codeIn K ago "Row.keeps" = true)(k19:keepIn K (.ref f19)=true)(a20:findIn K (.ref nF) "entry_at" = some (some (.ref f20)))(i20:isFn K (.ref f20)=true)(l20:K.lookup f20=some ⟨avb,auk,.func (fnOf "entry_at" "Row.entry_at" (aF gk) (aD gk) (az gk) .none ajZ amo aiB aou agn ani),asV⟩)(c20:codeIn K agn "Row.entry_at" = true)(k20:keepIn K (.ref f20)=true)(a21:findIn K (.ref nF) "term_at" = some (some (.ref f21)))(i21:isFn K (.ref f21)=true)(l21:K.lookup f21=some ⟨ava,auj,.func (fnOf "term_at" "Row.term_at" (aF iz) (aD iz) (az iz) .none ajY amn aiA aot agm anh),asU⟩)(c21:codeIn K agm "Row.term_at" = true)(k21:keepIn K (.ref f21)=true)(a22:findIn K (.ref nF) "end" = some (some (.ref f22)))(i22:isFn K (.ref f22)=true)(l22:K.lookup f22=some ⟨au_,aui,.func (fnOf "end" "Row.end" (aF pA) (aD pA) (az pA) .none ajX amm aiz aos agl ang),asT⟩)(c22:codeIn K agl "Row.end" = true)(k22:keepIn K (.ref f22)=true)(a23:nsIn K mainGlobals "hands_of" = some (some (.ref f23)))(l23:K.lookup f23=some ⟨au9,auh,.func (fnOf "hands_of" "hands_of" (aF mJ) (aD mJ) (az mJ) .none ajW aml aiy aor agk anf),asS⟩)(c23:codeIn K agk "hands_of" = true)(k23:keepIn K (.ref f23)=true)(a24:nsIn K mainGlobals "members" = some (some (.ref f24)))(l24:K.lookup f24=some ⟨au8,auf,.func (fnOf "members" "members" (aF o_) (aD o_) (az o_) .none ajV amk aix aoq agj ane),asR⟩)(c24:codeIn K agj "members" = true)(k24:keepIn K (.ref f24)=true)(a25:findIn K (.ref nF) "roll_place_by" = some (some (.ref f25)))(i25:isFn K (.ref f25)=true)(l25:K.lookup f25=some ⟨au7,aue,.func (fnOf "roll_place_by" "Row.roll_place_by" (aF cJ) (aD cJ) (az cJ) .none ajU amj aiw aop agi anc),asQ⟩)(c25:codeIn K agi "Row.roll_place_by" = true)(k25:keepIn K (.ref f25)=true)(a26:findIn K (.ref nF) "roll_by" = some (some (.ref f26)))(i26:isFn K (.ref f26)=true)(l26:K.lookup f26=some ⟨au6,aud,.func (fnOf "roll_by" "Row.roll_by" (aF iB) (aD iB) (az iB) .none ajT ami aiv aoo agh anb),asO⟩)(c26:codeIn K agh "Row.roll_by" = true)(k26:keepIn K (.ref f26)=true)(a27:findIn K (.ref nF) "roll" = some (some (.ref f27)))(i27:isFn K (.ref f27)=true)(l27:K.lookup f27=some ⟨au5,auc,.func (fnOf "roll" "Row.roll" (aF mL) (aD mL) (az mL) .none ajS amh aiu aon agg ana),asN⟩)(c27:codeIn K agg "Row.roll" = true)(k27:keepIn K (.ref f27)=true)(a28:findIn K (.ref cV) "others" = some (some (.ref f28)))(i28:isFn K (.ref f28)=true)(l28:K.lookup f28=some ⟨au4,aub,.func (fnOf "others" "Hand.others" (aF iD) (aD iD) (az iD) .none ajR amg ait aom agf am_),asM⟩)(c28:codeIn K agf "Hand.others" = true)(k28:keepIn K (.ref f28)=true)(a29:nsIn K mainGlobals "many" = some (some (.ref f29)))(l29:K.lookup f29=some ⟨au3,aua,.func (fnOf "many" "many" (aF zX) (aD zX) (az zX) .none ajQ amf ais aol age am9),asL⟩)(c29:codeIn K age "many" = true)(k29:keepIn K (.ref f29)=true)(a30:nsIn K mainGlobals "carries" = some (some (.ref f30)))(l30:K.lookup f30=some ⟨au2,at9,.func (fnOf "carries" "carries" (aF rC) (aD rC) (az rC) (.ref v30) ajP ame air aok agd am8),asK⟩)(c30:codeIn K agd "carries" = true)(k30:keepIn K (.ref f30)=true)(acj:K.lookup v30=some ahc)(acH:ahc.data= .seq #[.bool false] arO)(a31:nsIn K mainGlobals "wins" = some (some (.ref f31)))(l31:K.lookup f31=some ⟨au1,at8,.func (fnOf "wins" "wins" (aF Ca) (aD Ca) (az Ca) (.ref v31) ajO amd aiq aoj agc am7),asJ⟩)(c31:codeIn K agc "wins" = true)(k31:keepIn K (.ref f31)=true)(aci:K.lookup v31=some ahb)(acG:ahb.data= .seq #[.bool false] arN)(a32:findIn K (.ref fj) "__init__" = some (some (.ref f32)))(i32:isFn K (.ref f32)=true)(l32:K.lookup f32=some ⟨au0,at7,.func (fnOf "__init__" "Chair.__init__" (aF ji) (aD ji) (az ji) .none ajN amc aip aoi agb am6),asH⟩)(c32:codeIn K agb "Chair.__init__" = true)(k32:keepIn K (.ref f32)=true)(a33:findIn K (.ref nF) "put" = some (some (.ref f33)))(i33:isFn K (.ref f33)=true)(l33:K.lookup f33=some ⟨auZ,at6,.func (fnOf "put" "Row.put" (aF pq) (aD pq) (az pq) .none ajM amb aio aoh aga am5),asG⟩)(c33:codeIn K aga "Row.put" = true)(k33:keepIn K (.ref f33)=true)(a34:findIn K (.ref fj) "begin_beat" = some (some (.ref f34)))(i34:isFn K (.ref f34)=true)(l34:K.lookup f34=some ⟨auY,at5,.func (fnOf "begin_beat" "Chair.begin_beat" (aF cZ) (aD cZ) (az cZ) .none ajL ama ain aog af_ am4),asF⟩)(c34:codeIn K af_ "Chair.begin_beat" = true)(k34:keepIn K (.ref f34)=true)(a35:findIn K (.ref fj) "first_to_tell" = some (some (.ref f35)))(i35:isFn K (.ref f35)=true)(l35:K.lookup f35=some ⟨auX,at4,.func (fnOf "first_to_tell" "Chair.first_to_tell" (aF bW) (aD bW) (az bW) .none ajK al_ aim aof af9 am3),asD⟩)(c35:codeIn K af9 "Chair.first_to_tell" = true)(k35:keepIn K (.ref f35)=true)(a36:findIn K (.ref nF) "entries" = some (some (.ref f36)))(i36:isFn K (.ref f36)=true)(l36:K.lookup f36=some ⟨auW,at3,.func (fnOf "entries" "Row.entries" (aF iC) (aD iC) (az iC) .none ajJ al9 ail aoe af8 am2),asC⟩)(c36:codeIn K af8 "Row.entries" = true)(k36:keepIn K (.ref f36)=true)(a37:findIn K (.ref cV) "letter_to" = some (some (.ref f37)))(i37:isFn K (.ref f37)=true)(l37:K.lookup f37=some ⟨auV,atZ,.func (fnOf "letter_to" "Hand.letter_to" (aF eN) (aD eN) (az eN) .none ajI al8 aik aod af7 am1),asA⟩)(c37:codeIn K af7 "Hand.letter_to" = true)(k37:keepIn K (.ref f37)=true)(a38:findIn K (.ref cV) "tell_all" = some (some (.ref f38)))(i38:isFn K (.ref f38)=true)(l38:K.lookup f38=some ⟨auU,atY,.func (fnOf "tell_all" "Hand.tell_all" (aF fM) (aD fM) (az fM) .none ajH al7 aij aoc af6 am0),asz⟩)(c38:codeIn K af6 "Hand.tell_all" = true)(k38:keepIn K (.ref f38)=true)(a39:findIn K (.ref fj) "places_known" = some (some (.ref f39)))(i39:isFn K (.ref f39)=true)(l39:K.lookup f39=some ⟨auT,atX,.func (fnOf "places_known" "Chair.places_known" (aF cA) (aD cA) (az cA) .none ajG al6 aii aob af5 amZ),asy⟩)(c39:codeIn K af5 "Chair.places_known" = true)(k39:keepIn K (.ref f39)=true)(a40:findIn K (.ref fj) "having" = some (some (.ref f40)))(i40:isFn K (.ref f40)=true)(l40:K.lookup f40=some ⟨auS,atV,.func (fnOf "having" "Chair.having" (aF gm) (aD gm) (az gm) .none ajF al5 aih aoa af4 amY),asx⟩)(c40:codeIn K af4 "Chair.having" = true)(k40:keepIn K (.ref f40)=true)(a41:findIn K (.ref cV) "place_won" = some (some (.ref f41)))(i41:isFn K (.ref f41)=true)(l41:K.lookup f41=some ⟨auR,atU,.func (fnOf "place_won" "Hand.place_won" (aF eG) (aD eG) (az eG) .none ajE al4 aif an_ af3 amX),asw⟩)(c41:codeIn K af3 "Hand.place_won" = true)(k41:keepIn K (.ref f41)=true)(a42:findIn K (.ref cV) "place_to_settle" = some (some (.ref f42)))(i42:isFn K (.ref f42)=true)(l42:K.lookup f42=some ⟨auQ,atR,.func (fnOf "place_to_settle" "Hand.place_to_settle" (aF bQ) (aD bQ) (az bQ) .none ajD al3 aie anZ af2 amW),asv⟩)(c42:codeIn K af2 "Hand.place_to_settle" = true)(k42:keepIn K (.ref f42)=true)(a43:findIn K (.ref cV) "do_settled" = some (some (.ref f43)))(i43:isFn K (.ref f43)=true)(l43:K.lookup f43=some ⟨auP,atQ,.func (fnOf "do_settled" "Hand.do_settled" (aF dG) (aD dG) (az dG) .none ajC al2 aid anY af1 amV),asu⟩)(c43:codeIn K af1 "Hand.do_settled" = true)(k43:keepIn K (.ref f43)=true)(a44:findIn K (.ref nF) "roll_place" = some (some (.ref f44)))(i44:isFn K (.ref f44)=true)(l44:K.lookup f44=some ⟨auO,atO,.func (fnOf "roll_place" "Row.roll_place" (aF eE) (aD eE) (az eE) .none ajB al1 aic anW af0 amU),ass⟩)(c44:codeIn K af0 "Row.roll_place" = true)(k44:keepIn K (.ref f44)=true)(a45:findIn K (.ref cV) "answer_looks" = some (some (.ref f45)))(i45:isFn K (.ref f45)=true)(l45:K.lookup f45=some ⟨auN,atN,.func (fnOf "answer_looks" "Hand.answer_looks" (aF cL) (aD cL) (az cL) .none ajA al0 aib anV afZ amT),asr⟩)(c45:codeIn K afZ "Hand.answer_looks" = true)(k45:keepIn K (.ref f45)=true)(a46:findIn K (.ref cV) "leave_double_roll" = some (some (.ref f46)))(i46:isFn K (.ref f46)=true)(l46:K.lookup f46=some ⟨auM,atM,.func (fnOf "leave_double_roll" "Hand.leave_double_roll" (aF bC) (aD bC) (az bC) .none ajz alZ aia anU afY amS),asq⟩)(c46:codeIn K afY "Hand.leave_double_roll" = true)(k46:keepIn K (.ref f46)=true)(a47:findIn K (.ref cV) "settle" = some (some (.ref f47)))(i47:isFn K (.ref f47)=true)(l47:K.lookup f47=some ⟨auL,atL,.func (fnOf "settle" "Hand.settle" (aF gb) (aD gb) (az gb) .none ajy alY ah_ anT afX amR),asp⟩)(c47:codeIn K afX "Hand.settle" = true)(k47:keepIn K (.ref f47)=true)(a48:findIn K (.ref cV) "put_and_tell" = some (some (.ref f48)))(i48:isFn K (.ref f48)=true)(l48:K.lookup f48=some ⟨auK,atJ,.func (fnOf "put_and_tell" "Hand.put_and_tell" (aF b_) (aD b_) (az b_) .none ajx alX ah9 anS afW amQ),asn⟩)(c48:codeIn K afW "Hand.put_and_tell" = true)(k48:keepIn K (.ref f48)=true)(a49:findIn K (.ref cV) "take_chair" = some (some (.ref f49)))(i49:isFn K (.ref f49)=true)(l49:K.lookup f49=some ⟨auJ,atH,.func (fnOf "take_chair" "Hand.take_chair" (aF dD) (aD dD) (az dD) .none ajw alW ah8 anR afV amP),asm⟩)(c49:codeIn K afV "Hand.take_chair" = true)(k49:keepIn K (.ref f49)=true)(a50:findIn K (.ref cV) "count_votes" = some (some (.ref f50)))(i50:isFn K (.ref f50)=true)(l50:K.lookup f50=some ⟨auI,atG,.func (fnOf "count_votes" "Hand.count_votes" (aF cX) (aD cX) (az cX) .none ajv alV ah7 anQ afU amO),asl⟩)(c50:codeIn K afU "Hand.count_votes" = true)(k50:keepIn K (.ref f50)=true)(a51:findIn K (.ref cV) "ring" = some (some (.ref f51)))(i51:isFn K (.ref f51)=true)(l51:K.lookup f51=some ⟨auH,atF,.func (fnOf "ring" "Hand.ring" (aF jV) (aD jV) (az jV) .none aju alU ah6 anP afT amN),asj⟩)(c51:codeIn K afT "Hand.ring" = true)(k51:keepIn K (.ref f51)=true)(a52:nsIn K mainGlobals "_law_taken" = some (some (.ref f52)))(l52:K.lookup f52=some ⟨auG,atE,.func (fnOf "_law_taken" "_law_taken" (aF jP) (aD jP) (az jP) .none ajt alT ah5 anO afS amM),asi⟩)(c52:codeIn K afS "_law_taken" = true)(k52:keepIn K (.ref f52)=true)(a53:nsIn K mainGlobals "_law_alike" = some (some (.ref f53)))(l53:K.lookup f53=some ⟨auF,atD,.func (fnOf "_law_alike" "_law_alike" (aF jR) (aD jR) (az jR) .none ajs alS ah4 anN afR amL),ash⟩)(c53:codeIn K afR "_law_alike" = true)(k53:keepIn K (.ref f53)=true)(a54:nsIn K mainGlobals "_law_votes" = some (some (.ref f54)))(l54:K.lookup f54=some ⟨auE,atB,.func (fnOf "_law_votes" "_law_votes" (aF jO) (aD jO) (az jO) .none ajr alR ah3 anM afQ amK),asf⟩)(c54:codeIn K afQ "_law_votes" = true)(k54:keepIn K (.ref f54)=true)(a55:findIn K (.ref cV) "answer_late" = some (some (.ref f55)))(i55:isFn K (.ref f55)=true)(l55:K.lookup f55=some ⟨auD,atA,.func (fnOf "answer_late" "Hand.answer_late" (aF cY) (aD cY) (az cY) .none ajq alQ ah2 anL afP amJ),ase⟩)(c55:codeIn K afP "Hand.answer_late" = true)(k55:keepIn K (.ref f55)=true)(a56:findIn K (.ref jq) "count_in" = some (some (.ref f56)))(i56:isFn K (.ref f56)=true)(l56:K.lookup f56=some ⟨auC,atz,.func (fnOf "count_in" "Asker.count_in" (aF eU) (aD eU) (az eU) .none ajp alP ah1 anK afO amI),asd⟩)(c56:codeIn K afO "Asker.count_in" = true)(k56:keepIn K (.ref f56)=true)(a57:findIn K (.ref cV) "take_vote" = some (some (.ref f57)))(i57:isFn K (.ref f57)=true)(l57:K.lookup f57=some ⟨auB,aty,.func (fnOf "take_vote" "Hand.take_vote" (aF eF) (aD eF) (az eF) .none ajo alO ah0 anJ afN amH),asb⟩)(c57:codeIn K afN "Hand.take_vote" = true)(k57:keepIn K (.ref f57)=true)(a58:findIn K (.ref cV) "take" = some (some (.ref f58)))(i58:isFn K (.ref f58)=true)(l58:K.lookup f58=some ⟨auA,atx,.func (fnOf "take" "Hand.take" (aF jU) (aD jU) (az jU) .none ajn alN ahZ anI afM amG),asa⟩)(c58:codeIn K afM "Hand.take" = true)(k58:keepIn K (.ref f58)=true)(a59:findIn K (.ref jq) "word" = some (some (.ref f59)))(i59:isFn K (.ref f59)=true)(l59:K.lookup f59=some ⟨auz,atw,.func (fnOf "word" "Asker.word" (aF jj) (aD jj) (az jj) .none ajm alM ahY anH afL amF),ar_⟩)(c59:codeIn K afL "Asker.word" = true)(k59:keepIn K (.ref f59)=true)(a60:findIn K (.ref fj) "word" = some (some (.ref f60)))(i60:isFn K (.ref f60)=true)(l60:K.lookup f60=some ⟨auy,atv,.func (fnOf "word" "Chair.word" (aF jh) (aD jh) (az jh) .none ajl alL ahX anG afK amE),ar9⟩)(c60:codeIn K afK "Chair.word" = true)(k60:keepIn K (.ref f60)=true)(a61:nsIn K mainGlobals "law" = some (some (.ref f61)))(l61:K.lookup f61=some ⟨auw,atu,.func (fnOf "law" "law" (aF Gf) (aD Gf) (az Gf) .none ajk alK ahW anF acR amD),ar8⟩)(c61:codeIn K acR "law" = true)(k61:keepIn K (.ref f61)=true)(Rh:acR= .ref aa7)(Vp:K.lookup aa7=some ⟨aeT,afG,.fields Y0,adY⟩)(Ul:Y0[11]? = some (.ref W5))(HN:W5≠0)(Iw:K.lookup W5=none)(U7:PySem.W.plainGet K nF Str.empty=true)(Vs:PySem.W.hasDictIn K nF=true)(U4:PySem.W.plainOver K nF=true)(Uz:findIn K (.ref nF) "__setattr__" = some (some (.builtin "object.__setattr__")))(EY:PySem.W.makesIn K nF=true)(Vq:keepIn K (.ref nF)=true)(cI:findIn K (.ref nF) "base" = some none)(eV:findIn K (.ref nF) "base_term" = some none)(eY:findIn K (.ref nF) "base_roll" = some none)(dw:findIn K (.ref nF) "kept" = some none)(Qt:PySem.W.plainGet K ue Str.empty=true)(Q7:PySem.W.hasDictIn K ue=true)(Qp:PySem.W.plainOver K ue=true)(Qh:findIn K (.ref ue) "__setattr__" = some (some (.builtin "object.__setattr__")))(Dm:PySem.W.makesIn K ue=true)(QW:keepIn K (.ref ue)=true)(a_:findIn K (.ref ue) "term" = some none)(gw:findIn K (.ref ue) "vote" = some none)(bI:findIn K (.ref ue) "row" = some none)(cO:findIn K (.ref ue) "kept" = some none)(Li:PySem.W.plainGet K sW Str.empty=true)(MJ:PySem.W.hasDictIn K sW=true)(Lg:PySem.W.plainOver K sW=true)(K7:findIn K (.ref sW) "__setattr__" = some (some (.builtin "object.__setattr__")))(zF:PySem.W.makesIn K sW=true)(Mv:keepIn K (.ref sW)=true)(gR:findIn K (.ref sW) "amounts" = some none)(gn:findIn K (.ref sW) "answered" = some none)(Qs:PySem.W.plainGet K cV Str.empty=true)(Q6:PySem.W.hasDictIn K cV=true)(Qo:PySem.W.plainOver K cV=true)(Qg:findIn K (.ref cV) "__setattr__" = some (some (.builtin "object.__setattr__")))(Dl:PySem.W.makesIn K cV=true)(QV:keepIn K (.ref cV)=true)(cR:findIn K (.ref cV) "me" = some none)(mU:findIn K (.ref cV) "note" = some none)(aZ:findIn K (.ref cV) "term" = some none)(gq:findIn K (.ref cV) "vote" = some none)(bH:findIn K (.ref cV) "row" = some none)(cM:findIn K (.ref cV) "kept" = some none)(bU:findIn K (.ref cV) "settled" = some none)(jX:findIn K (.ref cV) "done" = some none)(nH:findIn K (.ref cV) "shelf" = some none)(iG:findIn K (.ref cV) "chair" = some none)(bf:findIn K (.ref cV) "seat" = some none)(Gm:PySem.W.plainGet K jq Str.empty=true)(GZ:PySem.W.hasDictIn K jq=true)(Gj:PySem.W.plainOver K jq=true)(Ge:findIn K (.ref jq) "__setattr__" = some (some (.builtin "object.__setattr__")))(zH:PySem.W.makesIn K jq=true)(Mx:keepIn K (.ref jq)=true)(d9:findIn K (.ref jq) "voters" = some none)(Gk:PySem.W.plainGet K fj Str.empty=true)(GX:PySem.W.hasDictIn K fj=true)(Gi:PySem.W.plainOver K fj=true)(Gd:findIn K (.ref fj) "__setattr__" = some (some (.builtin "object.__setattr__")))(zG:PySem.W.makesIn K fj=true)(Mw:keepIn K (.ref fj)=true)(b7:findIn K (.ref fj) "me" = some none)(jA:findIn K (.ref fj) "start" = some none)(fH:findIn K (.ref fj) "beat" = some none)(lG:findIn K (.ref fj) "beats" = some none)(d7:findIn K (.ref fj) "places" = some none)(jB:findIn K (.ref fj) "looks" = some none)(Dk:PySem.W.plainGet K lX Str.empty=true)(Du:PySem.W.hasDictIn K lX=true)(Dj:PySem.W.plainOver K lX=true)(Dh:findIn K (.ref lX) "__setattr__" = some (some (.builtin "object.__setattr__")))(Ip:PySem.W.makesIn K lX=true)(IK:keepIn K (.ref lX)=true)(Io:findIn K (.ref lX) "__init__" = some (some (.builtin "object.__init__")))(Ij:findIn K (.ref lX) "__class__" = some (some (.builtin "object.__class__")))(Ii:PySem.W.mroIn K lX (.type "object")=some true)(jM:kitOne K (.ref lX) (.ref fj)=some false)(jN:kitOne K (.ref lX) (.ref jq)=some false)(Ls:findIn K (.ref jq) "__class__" = some (some (.builtin "object.__class__")))(Lq:PySem.W.mroIn K jq (.type "object")=some true)(lR:kitOne K (.ref jq) (.ref fj)=some false)(lU:kitOne K (.ref jq) (.ref jq)=some true)(Lr:findIn K (.ref fj) "__class__" = some (some (.builtin "object.__class__")))(Lp:PySem.W.mroIn K fj (.type "object")=some true)(lO:kitOne K (.ref fj) (.ref fj)=some true)(lQ:kitOne K (.ref fj) (.ref jq)=some false)(hn_:PySem.W.specialIn K (.builtin "object.__class__") "__get__" = some (some (.builtin "getset_descriptor.__get__")))(tk_:PySem.W.takesIn K (.builtin "object.__class__")=some true)(Bk:nsIn K mainGlobals "MOST_TOLD" = some (some (.int 4 JM)))(YW:nsIn K mainGlobals "all" = some none)(Ui:nsIn K mainGlobals "bool" = some none)(YT:nsIn K mainGlobals "int" = some none)(zU:nsIn K mainGlobals "isinstance" = some none)(YS:nsIn K mainGlobals "len" = some none)(Uh:nsIn K mainGlobals "list" = some none)(PJ:nsIn K mainGlobals "range" = some none)(Es:nsIn K mainGlobals "reversed" = some none)(YQ:nsIn K mainGlobals "set" = some none)(Ku:nsIn K mainGlobals "sorted" = some none)(YM:nsIn K mainGlobals "str" = some none)(PB:nsIn K mainGlobals "tuple" = some none):
  ∃t,Txt K mg t:=
 ⟨{qF:=nF,
   Bh:=ue,
   Bg:=sW,
   dJ:=cV,
   oE:=jq,
   gK:=fj,
   uZ:=lX,
   uv:=f0,uB:=fnOf "_law_cell_at" "_law_cell_at" (aF iu) (aD iu) (az iu) .none kV0 dc0 pm0 an0 cd0 ct0,
   Am:=f1,A_:=fnOf "_law_part" "_law_part" (aF mG) (aD mG) (az mG) .none kV1 dc1 pm1 an1 cd1 ct1,
   Aw:=f2,Bf:=fnOf "__init__" "Row.__init__" (aF mQ) (aD mQ) (az mQ) .none kV2 dc2 pm2 an2 cd2 ct2,
   Aq:=f3,Bc:=fnOf "twin" "Row.twin" (aF mK) (aD mK) (az mK) .none kV3 dc3 pm3 an3 cd3 ct3,
   yx:=f4,yH:=fnOf "__init__" "Book.__init__" (aF jW) (aD jW) (az jW) .none kV4 dc4 pm4 an4 cd4 ct4,
   An:=f5,Ba:=fnOf "_law_made" "_law_made" (aF mH) (aD mH) (az mH) .none kV5 dc5 pm5 an5 cd5 ct5,
   wu:=f6,wG:=fnOf "__init__" "Shelf.__init__" (aF jf) (aD jf) (az jf) .none kV6 dc6 pm6 an6 cd6 ct6,
   Aj:=f7,Ay:=fnOf "shelf_of" "shelf_of" (aF mD) (aD mD) (az mD) .none kV7 dc7 pm7 an7 cd7 ct7,
   yw:=f8,uX:=fnOf "__init__" "Hand.__init__" (aF lZ) (aD lZ) (az lZ) (.ref v8) kV8 dc8 pm8 an8 cd8 ct8,
   Je:=v8,
   yq:=f9,yD:=fnOf "_law_hands" "_law_hands" (aF jQ) (aD jQ) (az jQ) .none kV9 dc9 pm9 an9 cd9 ct9,
   uw:=f10,uC:=fnOf "_law_carries" "_law_carries" (aF iw) (aD iw) (az iw) .none aj9 amz aiL aoE agx anu,
   Ak:=f11,Az:=fnOf "_law_wins" "_law_wins" (aF mF) (aD mF) (az mF) .none aj8 amy aiK aoD agw ant,
   qM:=f12,qO:=fnOf "is_chair" "Hand.is_chair" (aF fO) (aD fO) (az fO) .none aj7 amx aiJ aoC agv anr,
   wz:=f13,wH:=fnOf "enter" "Hand.enter" (aF jg) (aD jg) (az jg) .none aj6 amw aiI aoB agu anq,
   nZ:=f14,oh:=fnOf "tell_paper" "Hand.tell_paper" (aF dB) (aD dB) (az dB) .none aj5 amv aiH aoA agt anp,
   pK:=f15,pR:=fnOf "give_vote" "Hand.give_vote" (aF eO) (aD eO) (az eO) .none aj4 amu aiG aoz ags ano,
   Hl:=f16,Hq:=fnOf "set_of" "set_of" (aF rR) (aD rR) (az rR) .none aj3 amt aiF aoy agr anm,
   wD:=f17,wL:=fnOf "__init__" "Asker.__init__" (aF jk) (aD jk) (az jk) .none aj2 ams aiE aox agq anl,
   Av:=f18,Be:=fnOf "last" "Row.last" (aF mO) (aD mO) (az mO) .none aj1 amr aiD aow agp ank,
   yr:=f19,yE:=fnOf "keeps" "Row.keeps" (aF jT) (aD jT) (az jT) .none aj0 amq aiC aov ago anj,
   sI:=f20,sS:=fnOf "entry_at" "Row.entry_at" (aF gk) (aD gk) (az gk) .none ajZ amo aiB aou agn ani,
   ux:=f21,uD:=fnOf "term_at" "Row.term_at" (aF iz) (aD iz) (az iz) .none ajY amn aiA aot agm anh,
   Dz:=f22,DN:=fnOf "end" "Row.end" (aF pA) (aD pA) (az pA) .none ajX amm aiz aos agl ang,
   Ao:=f23,Bb:=fnOf "hands_of" "hands_of" (aF mJ) (aD mJ) (az mJ) .none ajW aml aiy aor agk anf,
   Dv:=f24,DG:=fnOf "members" "members" (aF o_) (aD o_) (az o_) .none ajV amk aix aoq agj ane,
   lu:=f25,lA:=fnOf "roll_place_by" "Row.roll_place_by" (aF cJ) (aD cJ) (az cJ) .none ajU amj aiw aop agi anc,
   uy:=f26,uE:=fnOf "roll_by" "Row.roll_by" (aF iB) (aD iB) (az iB) .none ajT ami aiv aoo agh anb,
   Ar:=f27,Bd:=fnOf "roll" "Row.roll" (aF mL) (aD mL) (az mL) .none ajS amh aiu aon agg ana,
   uA:=f28,uG:=fnOf "others" "Hand.others" (aF iD) (aD iD) (az iD) .none ajR amg ait aom agf am_,
   Rb:=f29,Rg:=fnOf "many" "many" (aF zX) (aD zX) (az zX) .none ajQ amf ais aol age am9,
   Dw:=f30,zQ:=fnOf "carries" "carries" (aF rC) (aD rC) (az rC) (.ref v30) ajP ame air aok agd am8,
   Ol:=v30,
   Ra:=f31,Nb:=fnOf "wins" "wins" (aF Ca) (aD Ca) (az Ca) (.ref v31) ajO amd aiq aoj agc am7,
   Y5:=v31,
   wB:=f32,wJ:=fnOf "__init__" "Chair.__init__" (aF ji) (aD ji) (az ji) .none ajN amc aip aoi agb am6,
   Dy:=f33,DK:=fnOf "put" "Row.put" (aF pq) (aD pq) (az pq) .none ajM amb aio aoh aga am5,
   mY:=f34,m7:=fnOf "begin_beat" "Chair.begin_beat" (aF cZ) (aD cZ) (az cZ) .none ajL ama ain aog af_ am4,
   jF:=f35,jG:=fnOf "first_to_tell" "Chair.first_to_tell" (aF bW) (aD bW) (az bW) .none ajK al_ aim aof af9 am3,
   uz:=f36,uF:=fnOf "entries" "Row.entries" (aF iC) (aD iC) (az iC) .none ajJ al9 ail aoe af8 am2,
   pJ:=f37,pQ:=fnOf "letter_to" "Hand.letter_to" (aF eN) (aD eN) (az eN) .none ajI al8 aik aod af7 am1,
   qL:=f38,qN:=fnOf "tell_all" "Hand.tell_all" (aF fM) (aD fM) (az fM) .none ajH al7 aij aoc af6 am0,
   j7:=f39,j8:=fnOf "places_known" "Chair.places_known" (aF cA) (aD cA) (az cA) .none ajG al6 aii aob af5 amZ,
   sJ:=f40,sU:=fnOf "having" "Chair.having" (aF gm) (aD gm) (az gm) .none ajF al5 aih aoa af4 amY,
   pI:=f41,pP:=fnOf "place_won" "Hand.place_won" (aF eG) (aD eG) (az eG) .none ajE al4 aif an_ af3 amX,
   jm:=f42,jo:=fnOf "place_to_settle" "Hand.place_to_settle" (aF bQ) (aD bQ) (az bQ) .none ajD al3 aie anZ af2 amW,
   n_:=f43,oA:=fnOf "do_settled" "Hand.do_settled" (aF dG) (aD dG) (az dG) .none ajC al2 aid anY af1 amV,
   pG:=f44,pN:=fnOf "roll_place" "Row.roll_place" (aF eE) (aD eE) (az eE) .none ajB al1 aic anW af0 amU,
   lz:=f45,lB:=fnOf "answer_looks" "Hand.answer_looks" (aF cL) (aD cL) (az cL) .none ajA al0 aib anV afZ amT,
   fK:=f46,fL:=fnOf "leave_double_roll" "Hand.leave_double_roll" (aF bC) (aD bC) (az bC) .none ajz alZ aia anU afY amS,
   qC:=f47,qD:=fnOf "settle" "Hand.settle" (aF gb) (aD gb) (az gb) .none ajy alY ah_ anT afX amR,
   jb:=f48,jc:=fnOf "put_and_tell" "Hand.put_and_tell" (aF b_) (aD b_) (az b_) .none ajx alX ah9 anS afW amQ,
   n8:=f49,ou:=fnOf "take_chair" "Hand.take_chair" (aF dD) (aD dD) (az dD) .none ajw alW ah8 anR afV amP,
   mW:=f50,mZ:=fnOf "count_votes" "Hand.count_votes" (aF cX) (aD cX) (az cX) .none ajv alV ah7 anQ afU amO,
   yu:=f51,yG:=fnOf "ring" "Hand.ring" (aF jV) (aD jV) (az jV) .none aju alU ah6 anP afT amN,
   yp:=f52,yC:=fnOf "_law_taken" "_law_taken" (aF jP) (aD jP) (az jP) .none ajt alT ah5 anO afS amM,
   uV:=f53,uW:=fnOf "_law_alike" "_law_alike" (aF jR) (aD jR) (az jR) .none ajs alS ah4 anN afR amL,
   yo:=f54,yz:=fnOf "_law_votes" "_law_votes" (aF jO) (aD jO) (az jO) .none ajr alR ah3 anM afQ amK,
   mX:=f55,m6:=fnOf "answer_late" "Hand.answer_late" (aF cY) (aD cY) (az cY) .none ajq alQ ah2 anL afP amJ,
   pL:=f56,pU:=fnOf "count_in" "Asker.count_in" (aF eU) (aD eU) (az eU) .none ajp alP ah1 anK afO amI,
   pH:=f57,pO:=fnOf "take_vote" "Hand.take_vote" (aF eF) (aD eF) (az eF) .none ajo alO ah0 anJ afN amH,
   yt:=f58,yF:=fnOf "take" "Hand.take" (aF jU) (aD jU) (az jU) .none ajn alN ahZ anI afM amG,
   wC:=f59,wK:=fnOf "word" "Asker.word" (aF jj) (aD jj) (az jj) .none ajm alM ahY anH afL amF,
   wA:=f60,wI:=fnOf "word" "Chair.word" (aF jh) (aD jh) (az jh) .none ajl alL ahX anG afK amE,
   O_:=f61,Hr:=fnOf "law" "law" (aF Gf) (aD Gf) (az Gf) .none ajk alK ahW anF acR amD,
   Bp:=aa7,Bq:=W5,
   Jx:=JM},
  {fJ:=aG l0 c0 k0,
   dm:=(aG l0 c0 k0:bw K _ _ iu .none _ _).binds (ps:=["_law_script","_law_k"]) λ_ _ _ _ _ _ us hl=>by obtain⟨u0,u1,rfl⟩:=fC hl;rfl,
   gA:=uS X G a0,
   yc:=aG l1 c1 k1,
   kJ:=(aG l1 c1 k1:bw K _ _ mG .none _ _).binds (ps:=["_law_cell","_law_me"]) λ_ _ _ _ _ _ us hl=>by obtain⟨u0,u1,rfl⟩:=fC hl;rfl,
   Cp:=uS X G a1,
   JC:=aG l2 c2 k2,
   rA:=(aG l2 c2 k2:bw K _ _ mQ .none _ _).binds (ps:=["self","base","base_term","base_roll","entries"]) λ_ _ _ _ _ _ us hl=>by obtain⟨u0,u1,u2,u3,u4,rfl⟩:=Wy hl;rfl,
   EY:=⟨EY,a2,i2,Vq⟩,
   Jy:=aG l3 c3 k3,
   rz:=(aG l3 c3 k3:bw K _ _ mK .none _ _).binds (ps:=["self"]) λ_ _ _ _ _ _ us hl=>by obtain⟨u0,rfl⟩:=dI hl;rfl,
   Cr:=⟨a3,i3,k3⟩,
   Hh:=aG l4 c4 k4,
   rM:=(aG l4 c4 k4:bw K _ _ jW .none _ _).binds (ps:=["self","term","vote","row","kept"]) λ_ _ _ _ _ _ us hl=>by obtain⟨u0,u1,u2,u3,u4,rfl⟩:=Wy hl;rfl,
   Dm:=⟨Dm,a4,i4,QW⟩,
   CQ:=aG l5 c5 k5,
   xJ:=(aG l5 c5 k5:bw K _ _ mH .none _ _).binds (ps:=["_law_script","_law_me","_law_roll"]) λ_ _ _ _ _ _ us hl=>by obtain⟨u0,u1,u2,rfl⟩:=Dr hl;rfl,
   Jp:=uS X G a5,
   Eg:=aG l6 c6 k6,
   pW:=(aG l6 c6 k6:bw K _ _ jf .none _ _).binds (ps:=["self"]) λ_ _ _ _ _ _ us hl=>by obtain⟨u0,rfl⟩:=dI hl;rfl,
   zF:=⟨zF,a6,i6,Mv⟩,
   CP:=aG l7 c7 k7,
   t8:=(aG l7 c7 k7:bw K _ _ mD .none _ _).binds (ps:=["told"]) λ_ _ _ _ _ _ us hl=>by obtain⟨u0,rfl⟩:=dI hl;rfl,
   Jo:=uS X G a7,
   Hg:=aG l8 c8 k8,
   rK:=λs us X hl=>by obtain⟨u0,u1,u2,u3,rfl⟩:=acp (us:=us) (by simpa using hl);exact PySem.W.binds_K X rfl lv8 dv8 rfl rfl,
   Rt:=λs us X hl=>by obtain⟨u0,u1,u2,rfl⟩:=Dr (us:=us) (by simpa using hl);exact PySem.W.binds_K X rfl lv8 dv8 rfl rfl,
   Dl:=⟨Dl,a8,i8,QV⟩,
   pF:=aG l9 c9 k9,
   j9:=(aG l9 c9 k9:bw K _ _ jQ .none _ _).binds (ps:=["_law_some"]) λ_ _ _ _ _ _ us hl=>by obtain⟨u0,rfl⟩:=dI hl;rfl,
   rY:=uS X G a9,
   sG:=aG l10 c10 k10,
   kO:=(aG l10 c10 k10:bw K _ _ iw .none _ _).binds (ps:=["_law_some","_law_part_here"]) λ_ _ _ _ _ _ us hl=>by obtain⟨u0,u1,rfl⟩:=fC hl;rfl,
   wZ:=uS X G a10,
   uR:=aG l11 c11 k11,
   kI:=(aG l11 c11 k11:bw K _ _ mF .none _ _).binds (ps:=["_law_roll","_law_some"]) λ_ _ _ _ _ _ us hl=>by obtain⟨u0,u1,rfl⟩:=fC hl;rfl,
   xU:=uS X G a11,
   zO:=aG l12 c12 k12,
   iY:=(aG l12 c12 k12:bw K _ _ fO .none _ _).binds (ps:=["self"]) λ_ _ _ _ _ _ us hl=>by obtain⟨u0,rfl⟩:=dI hl;rfl,
   tY:=⟨a12,i12,k12⟩,
   Eh:=aG l13 c13 k13,
   pX:=(aG l13 c13 k13:bw K _ _ jg .none _ _).binds (ps:=["self","term"]) λ_ _ _ _ _ _ us hl=>by obtain⟨u0,u1,rfl⟩:=fC hl;rfl,
   Eb:=⟨a13,i13,k13⟩,
   xr:=aG l14 c14 k14,
   bV:=(aG l14 c14 k14:bw K _ _ dB .none _ _).binds (ps:=["self","paper"]) λ_ _ _ _ _ _ us hl=>by obtain⟨u0,u1,rfl⟩:=fC hl;rfl,
   dW:=⟨a14,i14,k14⟩,
   yj:=aG l15 c15 k15,
   jx:=(aG l15 c15 k15:bw K _ _ eO .none _ _).binds (ps:=["self","whom"]) λ_ _ _ _ _ _ us hl=>by obtain⟨u0,u1,rfl⟩:=fC hl;rfl,
   xZ:=⟨a15,i15,k15⟩,
   zM:=aG l16 c16 k16,
   u9:=(aG l16 c16 k16:bw K _ _ rR .none _ _).binds (ps:=["hands"]) λ_ _ _ _ _ _ us hl=>by obtain⟨u0,rfl⟩:=dI hl;rfl,
   Dn:=uS X G a16,
   El:=aG l17 c17 k17,
   p7:=(aG l17 c17 k17:bw K _ _ jk .none _ _).binds (ps:=["self","me"]) λ_ _ _ _ _ _ us hl=>by obtain⟨u0,u1,rfl⟩:=fC hl;rfl,
   zH:=⟨zH,a17,i17,Mx⟩,
   JB:=aG l18 c18 k18,
   gZ:=(aG l18 c18 k18:bw K _ _ mO .none _ _).binds (ps:=["self"]) λ_ _ _ _ _ _ us hl=>by obtain⟨u0,rfl⟩:=dI hl;rfl,
   jY:=⟨a18,i18,k18⟩,
   G9:=aG l19 c19 k19,
   rJ:=(aG l19 c19 k19:bw K _ _ jT .none _ _).binds (ps:=["self","place"]) λ_ _ _ _ _ _ us hl=>by obtain⟨u0,u1,rfl⟩:=fC hl;rfl,
   Gz:=⟨a19,i19,k19⟩,
   Bt:=aG l20 c20 k20,
   gB:=(aG l20 c20 k20:bw K _ _ gk .none _ _).binds (ps:=["self","place"]) λ_ _ _ _ _ _ us hl=>by obtain⟨u0,u1,rfl⟩:=fC hl;rfl,
   nq:=⟨a20,i20,k20⟩,
   CT:=aG l21 c21 k21,
   iJ:=(aG l21 c21 k21:bw K _ _ iz .none _ _).binds (ps:=["self","place"]) λ_ _ _ _ _ _ us hl=>by obtain⟨u0,u1,rfl⟩:=fC hl;rfl,
   rZ:=⟨a21,i21,k21⟩,
   MP:=aG l22 c22 k22,
   wQ:=(aG l22 c22 k22:bw K _ _ pA .none _ _).binds (ps:=["self"]) λ_ _ _ _ _ _ us hl=>by obtain⟨u0,rfl⟩:=dI hl;rfl,
   Mh:=⟨a22,i22,k22⟩,
   yd:=aG l23 c23 k23,
   rm:=(aG l23 c23 k23:bw K _ _ mJ .none _ _).binds (ps:=["S"]) λ_ _ _ _ _ _ us hl=>by obtain⟨u0,rfl⟩:=dI hl;rfl,
   Cq:=uS X G a23,
   Fl:=aG l24 c24 k24,
   wO:=(aG l24 c24 k24:bw K _ _ o_ .none _ _).binds (ps:=["roll"]) λ_ _ _ _ _ _ us hl=>by obtain⟨u0,rfl⟩:=dI hl;rfl,
   L_:=uS X G a24,
   uT:=aG l25 c25 k25,
   dz:=(aG l25 c25 k25:bw K _ _ cJ .none _ _).binds (ps:=["self","place"]) λ_ _ _ _ _ _ us hl=>by obtain⟨u0,u1,rfl⟩:=fC hl;rfl,
   oK:=⟨a25,i25,k25⟩,
   CV:=aG l26 c26 k26,
   kW:=(aG l26 c26 k26:bw K _ _ iB .none _ _).binds (ps:=["self","place"]) λ_ _ _ _ _ _ us hl=>by obtain⟨u0,u1,rfl⟩:=fC hl;rfl,
   Cu:=⟨a26,i26,k26⟩,
   Jz:=aG l27 c27 k27,
   jD:=(aG l27 c27 k27:bw K _ _ mL .none _ _).binds (ps:=["self"]) λ_ _ _ _ _ _ us hl=>by obtain⟨u0,rfl⟩:=dI hl;rfl,
   rE:=⟨a27,i27,k27⟩,
   CZ:=aG l28 c28 k28,
   kY:=(aG l28 c28 k28:bw K _ _ iD .none _ _).binds (ps:=["self"]) λ_ _ _ _ _ _ us hl=>by obtain⟨u0,rfl⟩:=dI hl;rfl,
   xm:=⟨a28,i28,k28⟩,
   G8:=aG l29 c29 k29,
   Dd:=(aG l29 c29 k29:bw K _ _ zX .none _ _).binds (ps:=["S"]) λ_ _ _ _ _ _ us hl=>by obtain⟨u0,rfl⟩:=dI hl;rfl,
   Kd:=uS X G a29,
   Ai:=aG l30 c30 k30,
   t_:=λs us X hl=>by obtain⟨u0,u1,u2,rfl⟩:=Dr (us:=us) (by simpa using hl);exact PySem.W.binds_K X rfl acj acH rfl rfl,
   VL:=λs us X hl=>by obtain⟨u0,u1,rfl⟩:=fC (us:=us) (by simpa using hl);exact PySem.W.binds_K X rfl acj acH rfl rfl,
   E_:=uS X G a30,
   Kq:=aG l31 c31 k31,
   Ft:=λs us X hl=>by obtain⟨u0,u1,u2,rfl⟩:=Dr (us:=us) (by simpa using hl);exact PySem.W.binds_K X rfl aci acG rfl rfl,
   Rr:=λs us X hl=>by obtain⟨u0,u1,rfl⟩:=fC (us:=us) (by simpa using hl);exact PySem.W.binds_K X rfl aci acG rfl rfl,
   QK:=uS X G a31,
   Ej:=aG l32 c32 k32,
   pZ:=(aG l32 c32 k32:bw K _ _ ji .none _ _).binds (ps:=["self","me","start"]) λ_ _ _ _ _ _ us hl=>by obtain⟨u0,u1,u2,rfl⟩:=Dr hl;rfl,
   zG:=⟨zG,a32,i32,Mw⟩,
   MN:=aG l33 c33 k33,
   ud:=(aG l33 c33 k33:bw K _ _ pq .none _ _).binds (ps:=["self","entry"]) λ_ _ _ _ _ _ us hl=>by obtain⟨u0,u1,rfl⟩:=fC hl;rfl,
   Fb:=⟨a33,i33,k33⟩,
   vN:=aG l34 c34 k34,
   ie:=(aG l34 c34 k34:bw K _ _ cZ .none _ _).binds (ps:=["self"]) λ_ _ _ _ _ _ us hl=>by obtain⟨u0,rfl⟩:=dI hl;rfl,
   vG:=⟨a34,i34,k34⟩,
   sH:=aG l35 c35 k35,
   fD:=(aG l35 c35 k35:bw K _ _ bW .none _ _).binds (ps:=["self","hand"]) λ_ _ _ _ _ _ us hl=>by obtain⟨u0,u1,rfl⟩:=fC hl;rfl,
   su:=⟨a35,i35,k35⟩,
   CW:=aG l36 c36 k36,
   nO:=(aG l36 c36 k36:bw K _ _ iC .none _ _).binds (ps:=["self"]) λ_ _ _ _ _ _ us hl=>by obtain⟨u0,rfl⟩:=dI hl;rfl,
   Cv:=⟨a36,i36,k36⟩,
   yh:=aG l37 c37 k37,
   jw:=(aG l37 c37 k37:bw K _ _ eN .none _ _).binds (ps:=["self","hand"]) λ_ _ _ _ _ _ us hl=>by obtain⟨u0,u1,rfl⟩:=fC hl;rfl,
   xY:=⟨a37,i37,k37⟩,
   zN:=aG l38 c38 k38,
   iW:=(aG l38 c38 k38:bw K _ _ fM .none _ _).binds (ps:=["self"]) λ_ _ _ _ _ _ us hl=>by obtain⟨u0,rfl⟩:=dI hl;rfl,
   tX:=⟨a38,i38,k38⟩,
   tM:=aG l39 c39 k39,
   fZ:=(aG l39 c39 k39:bw K _ _ cA .none _ _).binds (ps:=["self","last"]) λ_ _ _ _ _ _ us hl=>by obtain⟨u0,u1,rfl⟩:=fC hl;rfl,
   tD:=⟨a39,i39,k39⟩,
   Bu:=aG l40 c40 k40,
   iQ:=(aG l40 c40 k40:bw K _ _ gm .none _ _).binds (ps:=["self","place"]) λ_ _ _ _ _ _ us hl=>by obtain⟨u0,u1,rfl⟩:=fC hl;rfl,
   qI:=⟨a40,i40,k40⟩,
   yg:=aG l41 c41 k41,
   g_:=(aG l41 c41 k41:bw K _ _ eG .none _ _).binds (ps:=["self"]) λ_ _ _ _ _ _ us hl=>by obtain⟨u0,rfl⟩:=dI hl;rfl,
   xX:=⟨a41,i41,k41⟩,
   rG:=aG l42 c42 k42,
   cD:=(aG l42 c42 k42:bw K _ _ bQ .none _ _).binds (ps:=["self"]) λ_ _ _ _ _ _ us hl=>by obtain⟨u0,rfl⟩:=dI hl;rfl,
   lH:=⟨a42,i42,k42⟩,
   xF:=aG l43 c43 k43,
   gC:=(aG l43 c43 k43:bw K _ _ dG .none _ _).binds (ps:=["self"]) λ_ _ _ _ _ _ us hl=>by obtain⟨u0,rfl⟩:=dI hl;rfl,
   qQ:=⟨a43,i43,k43⟩,
   ye:=aG l44 c44 k44,
   gY:=(aG l44 c44 k44:bw K _ _ eE .none _ _).binds (ps:=["self"]) λ_ _ _ _ _ _ us hl=>by obtain⟨u0,rfl⟩:=dI hl;rfl,
   sr:=⟨a44,i44,k44⟩,
   uU:=aG l45 c45 k45,
   fB:=(aG l45 c45 k45:bw K _ _ cL .none _ _).binds (ps:=["self"]) λ_ _ _ _ _ _ us hl=>by obtain⟨u0,rfl⟩:=dI hl;rfl,
   oO:=⟨a45,i45,k45⟩,
   jK:=aG l46 c46 k46,
   bT:=(aG l46 c46 k46:bw K _ _ bC .none _ _).binds (ps:=["self"]) λ_ _ _ _ _ _ us hl=>by obtain⟨u0,rfl⟩:=dI hl;rfl,
   jJ:=⟨a46,i46,k46⟩,
   xx:=aG l47 c47 k47,
   nQ:=(aG l47 c47 k47:bw K _ _ gb .none _ _).binds (ps:=["self"]) λ_ _ _ _ _ _ us hl=>by obtain⟨u0,rfl⟩:=dI hl;rfl,
   xj:=⟨a47,i47,k47⟩,
   oX:=aG l48 c48 k48,
   gG:=(aG l48 c48 k48:bw K _ _ b_ .none _ _).binds (ps:=["self","what"]) λ_ _ _ _ _ _ us hl=>by obtain⟨u0,u1,rfl⟩:=fC hl;rfl,
   oN:=⟨a48,i48,k48⟩,
   xu:=aG l49 c49 k49,
   iU:=(aG l49 c49 k49:bw K _ _ dD .none _ _).binds (ps:=["self"]) λ_ _ _ _ _ _ us hl=>by obtain⟨u0,rfl⟩:=dI hl;rfl,
   xg:=⟨a49,i49,k49⟩,
   vL:=aG l50 c50 k50,
   dZ:=(aG l50 c50 k50:bw K _ _ cX .none _ _).binds (ps:=["self"]) λ_ _ _ _ _ _ us hl=>by obtain⟨u0,rfl⟩:=dI hl;rfl,
   p_:=⟨a50,i50,k50⟩,
   Hf:=aG l51 c51 k51,
   u_:=(aG l51 c51 k51:bw K _ _ jV .none _ _).binds (ps:=["self"]) λ_ _ _ _ _ _ us hl=>by obtain⟨u0,rfl⟩:=dI hl;rfl,
   GD:=⟨a51,i51,k51⟩,
   wj:=aG l52 c52 k52,
   rH:=(aG l52 c52 k52:bw K _ _ jP .none _ _).binds (ps:=["_law_me","_law_term","_law_roll","_law_voters","_law_end","_law_base"]) λ_ _ _ _ _ _ us hl=>by obtain⟨u0,u1,u2,u3,u4,u5,rfl⟩:=aco hl;rfl,
   z8:=uS X G a52,
   j6:=aG l53 c53 k53,
   cC:=(aG l53 c53 k53:bw K _ _ jR .none _ _).binds (ps:=["_law_found","_law_due"]) λ_ _ _ _ _ _ us hl=>by obtain⟨u0,u1,rfl⟩:=fC hl;rfl,
   mV:=uS X G a53,
   Ah:=aG l54 c54 k54,
   mq:=(aG l54 c54 k54:bw K _ _ jO .none _ _).binds (ps:=["_law_cell","_law_some","_law_at"]) λ_ _ _ _ _ _ us hl=>by obtain⟨u0,u1,u2,rfl⟩:=Dr hl;rfl,
   Gx:=uS X G a54,
   vM:=aG l55 c55 k55,
   h_:=(aG l55 c55 k55:bw K _ _ cY .none _ _).binds (ps:=["self","letter"]) λ_ _ _ _ _ _ us hl=>by obtain⟨u0,u1,rfl⟩:=fC hl;rfl,
   vD:=⟨a55,i55,k55⟩,
   ym:=aG l56 c56 k56,
   jy:=(aG l56 c56 k56:bw K _ _ eU .none _ _).binds (ps:=["self","hand"]) λ_ _ _ _ _ _ us hl=>by obtain⟨u0,u1,rfl⟩:=fC hl;rfl,
   x_:=⟨a56,i56,k56⟩,
   yf:=aG l57 c57 k57,
   g8:=(aG l57 c57 k57:bw K _ _ eF .none _ _).binds (ps:=["self","voter"]) λ_ _ _ _ _ _ us hl=>by obtain⟨u0,u1,rfl⟩:=fC hl;rfl,
   xW:=⟨a57,i57,k57⟩,
   G_:=aG l58 c58 k58,
   mz:=(aG l58 c58 k58:bw K _ _ jU .none _ _).binds (ps:=["self","letter"]) λ_ _ _ _ _ _ us hl=>by obtain⟨u0,u1,rfl⟩:=fC hl;rfl,
   GC:=⟨a58,i58,k58⟩,
   Ek:=aG l59 c59 k59,
   p6:=(aG l59 c59 k59:bw K _ _ jj .none _ _).binds (ps:=["self"]) λ_ _ _ _ _ _ us hl=>by obtain⟨u0,rfl⟩:=dI hl;rfl,
   Ed:=⟨a59,i59,k59⟩,
   Ei:=aG l60 c60 k60,
   pY:=(aG l60 c60 k60:bw K _ _ jh .none _ _).binds (ps:=["self"]) λ_ _ _ _ _ _ us hl=>by obtain⟨u0,rfl⟩:=dI hl;rfl,
   Ec:=⟨a60,i60,k60⟩,
   Vu:=aG l61 c61 k61,
   TX:=(aG l61 c61 k61:bw K _ _ Gf .none _ _).binds (ps:=["_law_script"]) λ_ _ _ _ _ _ us hl=>by obtain⟨u0,rfl⟩:=dI hl;rfl,
   aam:=uS X G a61,
   Bp:=Rh,
   HN:=HN,
   Zb:=adS a61 l61 Rh Vp Ul,
   Iw:=Iw,
   bu:=⟨U7,Vs,U4,Uz⟩,
   Vd:=uS X G V0,
   cI:=cI,
   eV:=eV,
   eY:=eY,
   dw:=dw,
   aW:=⟨Qt,Q7,Qp,Qh⟩,
   Ww:=uS X G Rz,
   a_:=a_,
   gw:=gw,
   bI:=bI,
   cO:=cO,
   C_:=⟨Li,MJ,Lg,K7⟩,
   S_:=uS X G Nq,
   gR:=gR,
   gn:=gn,
   aC:=⟨Qs,Q6,Qo,Qg⟩,
   Wv:=uS X G Ry,
   cR:=cR,
   mU:=mU,
   aZ:=aZ,
   gq:=gq,
   bH:=bH,
   cM:=cM,
   bU:=bU,
   jX:=jX,
   nH:=nH,
   iG:=iG,
   bf:=bf,
   uY:=⟨Gm,GZ,Gj,Ge⟩,
   Mf:=uS X G Nt,
   d9:=d9,
   bG:=⟨Gk,GX,Gi,Gd⟩,
   Ma:=uS X G Nr,
   b7:=b7,
   jA:=jA,
   fH:=fH,
   lG:=lG,
   d7:=d7,
   jB:=jB,
   Iv:=⟨Ip,Io,IK⟩,
   Yo:=⟨Dk,Du,Dj,Dh⟩,
   Ir:=uS X G Jd,
   jM:=jM,
   jN:=jN,
   Im:=⟨⟨Dk,Du,Dj,Dh⟩,Ij,hn_,tk_,Ii⟩,
   lR:=lR,
   lU:=lU,
   LQ:=⟨⟨Gm,GZ,Gj,Ge⟩,Ls,hn_,tk_,Lq⟩,
   lO:=lO,
   lQ:=lQ,
   LK:=⟨⟨Gk,GX,Gi,Gd⟩,Lr,hn_,tk_,Lp⟩,
   Gy:=uS X G Bk,
   adu:=vF X G YW,
   QM:=vF X G Ui,
   O2:=vF X G YT,
   dH:=vF X G zU,
   zJ:=vF X G YS,
   Fg:=vF X G Uh,
   vX:=vF X G PJ,
   Mi:=vF X G Es,
   adq:=vF X G YQ,
   Tc:=vF X G Ku,
   aap:=vF X G YM,
   Kf:=vF X G PB}⟩
end My
open PySem PySem.W PyProof.Rows
structure PySem.W.Fast:Prop where(tw16623423078908244992 tw17733011308201289760 tw2645166879303838752 tw4507842941296904256 tw14038409620880164992 tw15831192150331210976 tw13666457711290080544 tw8481021765280929088 tw2636111474381615456 tw6966519227164672384 tw12529305621454928288 tw6843088379696385664 tw14994012272160300704 tw16709085498964061185 tw7052886193924882465 tw10825312292627345441 tw9178711531751687393 tw1832836068045866305 tw1912293934057687393 tw6688478108732294529 tw13150534338356620673 tw2065067879876293089 tw9127067070251462113 tw15427997137894080001 tw14757043195582053889 tw13568483784281396769 tw9318515013793196577 tw12037242617696857633 tw14532706675422154273 tw14897312812069716545 tw7520548287548133025 tw15477255603030083265 tw6622482249167280833 tw8309543670635465409 tw8679462828766865121 tw11601638264673397569 tw11305859415166688097 tw9101378232729188193 tw8198441564976532321 tw15105496939503238017 tw14811754008496852865 tw11985994035367227297 tw10134402023875792930 tw3712014643140645954 tw6397895659994377282 tw845180791866258498 tw4838695525029677186 tw13696716953750860930 tw16390691234744193282 tw12703965897067028770 tw6269691361415519554 tw16311403006128774466 tw10985506817413205346 tw4070913873344267650 tw9389044302345154978 tw14083030137584699842 tw10800271067552337346 tw15158653364155797954 tw4227597596965245410 tw2768739898043672098 tw15000828227378197058 tw15430380560544667234 tw4786733741061103202 tw7966742024827009730 tw3043931178932556546 tw4343031561501104930 tw12855341128781398882 tw17470808667873088482 tw13936832081820227587 tw11058374708038904835 tw17570514343813453859 tw15328087544554818627 tw2101535778504277187 tw7061649468629567683 tw12715860601982217475 tw2212042403926160707 tw13680041525590512995 tw7644533147862678947 tw3621322184918069763 tw6550373892472544803 tw2282060883497826851 tw2881632227883075107 tw378267567874372131 tw7891392672577231427 tw3322816962355449411 tw8518174758924474947 tw3308271104631595747 tw11501733781955450659 tw9021792049838069539 tw11096975517036766212 tw15484176774112109796 tw7395091636888637828 tw3823015930466441604 tw13701537203101707684 tw17485431539178615204 tw5914147386077700548 tw151404080997877188 tw12303819382744836644 tw2307809430018651684 tw212389020827132484 tw5819476154567969476 tw3744273244889806564 tw1268772552147195716 tw7418326744833600356 tw15482317888387335012 tw13253439762913955780 tw13331012173924475844 tw8119209688399521732 tw8937884745961734116 tw14190991920437675077 tw14699155787304542309 tw18275707808402756773 tw13240837164844309701 tw1521742043203450117 tw8917177503919789317 tw2193271190316022085 tw840621219185662309 tw4526848700483341797 tw4068147944725225957 tw11859473228099422725 tw18052774619068535429 tw9459020797894986469 tw3030479460273379173 tw7816484908683155301 tw7161196725972348805 tw4623040445874328710 tw17703838262171160806 tw3718172652935424486 tw11788641894579776166 tw12673904208711759590 tw15558988055474133766 tw13457991539938058086 tw14094820909881109414 tw12673202247133050854 tw1306325810161910823 tw6783156206624464935 tw17129970948053755975 tw3024230681543950471 tw2431310933329091783 tw15158579313520024871 tw514870049686599975 tw868163120005852487 tw1429003098331955559 tw2398484898134008231 tw4740179072091187623 tw16603517593568117191 tw9611541671223611847 tw13705619840240332263 tw16517755064392594951 tw11798219130297919079 tw2792415260940049031 tw16938429179664594567 tw17179193905540604711 tw4997020948258899783 tw2665734210611864423 tw697706288332745575 tw3588016890780127207 tw7846332331904844775 tw17824751859400203239 tw3598887822926069896 tw10640800103620027592 tw17136170579306701000 tw9833012454299379976 tw17931121630829948168 tw15112480261482146216 tw8987050172883839496 tw786675486025540168 tw17744647412334552648 tw3845030471968601768 tw4967959645325619912 tw6056939513875384040 tw18352121607949175656 tw8520745661176139785 tw9810182218389890217 tw7029811521134863561 tw4951197125945265417 tw8828195747225063689 tw13133101038261786921 tw10596881224088449353 tw12515448030643720681 tw15074949792375440905 tw16855231401407247913 tw1800366520195134025 tw18039871897085779593 tw13853994929112608521 tw6583586852206969673 tw13373722410438475593 tw17839643350640004969 tw4536804055749731338 tw398633587736987818 tw7048044204066036906 tw4609758095517478090 tw14318606871565057290 tw13830184184984602954 tw13736725450668130634 tw4307550255362196842 tw18028142534369384874 tw13300343523010164202 tw8819824984007551498 tw5722445218706093674 tw11467292840500455050 tw9543594901599599274 tw8600158511656708810 tw14217804741667786474 tw14516973542177637194 tw2480851726036151114 tw15479973579805446986 tw5261674990964552843 tw3682263767692426379 tw12619320985216445675 tw16775702451050792299 tw10857155811044051307 tw16627631520358997483 tw9967487579306937835 tw15453219353781116555 tw15775803451385248395 tw16889940483602522795 tw4567307007740963499 tw6576932628652698315 tw16717350459078375147 tw16907568497634281323 tw3836628992632902603 tw7465184813956851659 tw14118720335229188043 tw3486364501803439083 tw13565766445209539596 tw3809774262268526668 tw9752234902421342284 tw6348398650020073548 tw1939008435256777868 tw18161892791761322156 tw6025630088836663468 tw1614414015729107180 tw3041417436835588332 tw10878491472020450540 tw14034109941073075436 tw9408169965622638892 tw1378459909202152748 tw17380097157575744812 tw11080447469155947852 tw4982420458847118700 tw6400951128859917708 tw4397480258035901836 tw7538893323600064972 tw16881643276926128748 tw5122830098570740364 tw12665741682449381004 tw2972914425523208972 tw2530171567982496588 tw10907499901639009132 tw5851897935236673388 tw7074193898777796492 tw9717955146550603692 tw9770966795615150028 tw257960052519636972 tw12449542013682488300 tw3570256349497138156 tw2598152754500698092 tw4278155061829118029 tw12743050952337771629 tw8004241818584114317 tw11801029815781737677 tw17771257819769926893 tw2802149072892700941 tw7232265745812766989 tw13184358319895741901 tw860678399260756461 tw16300273893725714957 tw2638641337875572301 tw3181376955469123149 tw1904962057412858445 tw10976588204238099021 tw5931098407886758573 tw10400841159197130445 tw10675029786175479533 tw1384233441239019245 tw8421899101189947181 tw10630830250727014221 tw8003297700500412333 tw6375420062181614606 tw15759639718057053294 tw10155664315436278926 tw1436535310528248974 tw6232010830325416142 tw12135859951884697902 tw13684295257120484846 tw5635469557074408974 tw18056793951766076078 tw12150104952173961902 tw5321492485222206158 tw502115647777740526 tw7570116187621040910 tw7237616681689450350 tw16067837809717107598 tw8205062135733056462 tw17311912258978188335 tw969308941479041135 tw2882566129260308655 tw7515230144661929391 tw9768009339717426735 tw10286239414135706191 tw11698253844302019247 tw6863913824709338863 tw3941489150711618383 tw13067239157344021423 tw12321310485494878127 tw6640645282990943183 tw10506928994994089040 tw7115569689118094448 tw11247877155178830000 tw9266911866994778288 tw7739781091752455376 tw15429994635199332560 tw4086886861951205616 tw16567385867632018736 tw11344773189383557456 tw4619409894947643760 tw3326317088467485168 tw7153142227093210832 tw3663096772544022641 tw16568071943688442097 tw15255242714875817233 tw15389362532777630001 tw10019770258190012785 tw17143821020336461169 tw13090709921083463185 tw9589917240033250033 tw6904500424739089297 tw3945824405563916209 tw2043762195661452209 tw111076433963435985 tw10840454770391358417 tw446162996435390482 tw14541731873088976946 tw17929227736809916498 tw5936789048958244946 tw10883871955306548370 tw10861693342482626706 tw14833481081127523570 tw9112858908862557458 tw17062271573615543634 tw4133187661755020658 tw5153238648909705586 tw16066080867094802866 tw9623822467833161202 tw10654434727574027794 tw5687972454889864754 tw18215675407708538418 tw681506048368971346 tw9952635224477833842 tw850983504730590898 tw364347990849098514 tw1798514784538581842 tw15424678071395723154 tw10422970608258067442 tw18310312238212815923 tw11716873212375570515 tw15358967403147120755 tw6180275187646185619 tw10616470737557688563 tw3579965411340338451 tw13170786462817387859 tw13924069174696352147 tw4297406282525386291 tw9288270830967376499 tw2488714305513731795 tw4252852253881818835 tw17084513429282431763 tw17191331940955801363 tw4886640504773701395 tw7838008314855236467 tw1923503097793920915 tw15397865772131417011 tw11170390590173470675 tw18175374277743532052 tw3427822209053224980 tw14531340956611211316 tw8158050664234927316 tw6112334060890967252 tw13616534893935317396 tw350925499121017236 tw3027901275715115508 tw14577197073633462772 tw14059670820265610772 tw4210525331174221428 tw15415191418922002132 tw14924331023497506516 tw10530542079998824180 tw2831777403990638388 tw4936056808931773268 tw6791520853123297140 tw10967998045273936820 tw35319605377535988 tw14597664551638330389 tw18391391493125686453 tw18179442278322123957 tw11641135072834479285 tw15090788177882559765 tw6131799905374225749 tw6205562206344196469 tw553279350352095637 tw374047475038808629 tw13567084556578544277 tw13371602975549032085 tw3259059393250529045 tw16668904271602089813 tw2330542088436272021 tw9341915217359622069 tw11693963137016485877 tw9198175004566149174 tw8065520471328727126 tw12837124816032470134 tw9018584578745845942 tw2221410044456090902 tw12074229505130150230 tw6849089939043604950 tw16858312529448251894 tw752607514895509014 tw12467824851105345078 tw941311539112779350 tw7595436236407598678 tw1283543164759828118 tw16078964446291911350 tw15014866284445787830 tw2640687119983477462 tw15372255663847277302 tw11588103127397240566 tw4150539912046412598 tw17286492465777060662 tw17150212336203580278 tw3679984779788718070 tw3301905013732824151 tw1078979952569555063 tw15179456423898874103 tw4656596576653615479 tw9922908934238884247 tw2730364128618125815 tw3896934028327244311 tw11262331178066986583 tw173446072796801623 tw9011429451826539319 tw18094505728034724727 tw6147272634061951895 tw16875244929456969623 tw3530004653587295191 tw3839524231627376728 tw10584103155288984664 tw5556514642629144792 tw9775149397321814360 tw4464782653185144216 tw4227106724258363864 tw5241871844681567704 tw14540988258549433848 tw12934574423460293112 tw9213113703054138904 tw14678814511136174616 tw2831053996961318456 tw6448954078873499192 tw15425072560959776376 tw3737363945023449752 tw14577807211598602936 tw6726997282253797048 tw7308805990715169528 tw2458345043031796664 tw13596216670042041272 tw16570012780718099416 tw18322457133208775640 tw7512150782602471416 tw10221352454951231577 tw16975387737293813881 tw1509096559736464537 tw4118118120244017369 tw17838653757719034169 tw16498560520364287289 tw3486289897385105017 tw3083137413950979833 tw1089157866980082457 tw12746897971603441433 tw12160509286368672665 tw6774456796745385913 tw10359921112725180442 tw13098694652219011130 tw17364186842824723610 tw16680689740857957626 tw5887009228202279226 tw5531396433460054330 tw15221801152524314938 tw17911038764663322970 tw4122807145850391898 tw17552494268590002714 tw13835477494751304346 tw12324305941329370778 tw8069991778857070298 tw8434895470357985274 tw15018919632968988699 tw17995344601520449659 tw11656844485883871355 tw12779835587076947131 tw8630668415604842747 tw548246126270712187 tw14392963846428038619 tw8298902891941108219 tw6176032609088796155 tw5323094722002201147 tw8423839536390666811 tw6715683850633244251 tw15592343703188996731 tw8972552348075272827 tw1966379340578827995 tw5404451743068437211 tw7999503460391206619 tw2051156996946191067 tw4324676283741845275 tw11658475777705795451 tw17687653344266739611 tw1947706951185295259 tw6675426518806945723 tw8285324873380451420 tw9555162631558156444 tw6301680979427026108 tw6924061369718778140 tw2154332186073811292 tw4764934107949621628 tw15217877208769193340 tw809386896833865084 tw6534199755224167836 tw16876504800548179388 tw18094938655302230492 tw6674355849800228380 tw4815037250975501916 tw8304481921258525436 tw10893984262527923964 tw676342625632790332 tw623016042467785628 tw9277868800597447644 tw10171295896257896444 tw17746663955121877021 tw7109191089354768605 tw15987528806044563677 tw16935117373071298813 tw17397011213686762749 tw11785180914418969949 tw3390503771646725533 tw5270138727233341885 tw1456503621069152733 tw11964086892936249853 tw10918771541162052093 tw624520276566146589 tw8875601626317702781 tw299563277741913853 tw13407908070028406525 tw15646537893139959645 tw12429683790072107901 tw4446770039156884381 tw6658764346146459581 tw1478741426555817022 tw11946787835256435006 tw11831771490276661630 tw7829842435998560670 tw15770073322131685982 tw14083619675696431710 tw17108086160100272798 tw15731312365852148414 tw14346746951776987870 tw17881110672462874334 tw8953899728207288062 tw8311195754460932862 tw17145042758248107806 tw8913653372159857470 tw3961927357712214878 tw16046068658011061086 tw12022784948268493726 tw8732751061888942014 tw14130731201895763934 tw16483263092840564734 tw18002839604854090750 tw15992604826257285247 tw6996234111472413887 tw6850950830714320127 tw2606047426611499359 tw10892301863144193375 tw6111464882966117759 tw16175895418509662655 tw11482683638207767999 tw5659583405195261407 tw41298113590057471 tw7388211802122759775 tw1193201885070052991 tw10502456213474766495 tw5887987911728497343 tw13418517165557637823 tw14526386745134284479 tw5953112609895876319 tw18337766866201797343 tw4609918380865302271 tw6794946818143428383 tw910227202376437599 tw7666436216923820991 tw15770865016956754879 tw12979695034911833753:True)
theorem PySem.Challenge.cw_chairvote_k33_votes_that_win_holds : PySem.Challenge.rw_chairvote_k33_votes_that_win.Holds := by
 w_on;o_law;k_head;(case hw=>w_witness2)
 k_fill
 refine S.aha (l:=PySem.Challenge.rw_chairvote_k33_votes_that_win) (x:= "_law_script") (k:=18) rfl rfl ⟨rfl,by decide,by decide⟩ (fun w h Y=>PySem.W.km_in_of Y) ?F
 case F=>
  intro w mg fa h KX G hmg
  have T:∃t,My.Txt (L2.KOf KX) mg t:=by
   dsimp only[L2.KOf]
   refine' My.all_mk KX G ?V0 ?Rz ?Nq ?Ry ?Nt ?Nr ?Jd ?a0 ?l0 ?c0 ?k0 ?a1 ?l1 ?c1 ?k1 ?a2 ?i2 ?l2 ?c2 ?k2 ?a3 ?i3 ?l3 ?c3 ?k3 ?a4 ?i4 ?l4 ?c4 ?k4 ?a5 ?l5 ?c5 ?k5 ?a6 ?i6 ?l6 ?c6 ?k6 ?a7 ?l7 ?c7 ?k7 ?a8 ?i8 ?l8 ?c8 ?k8 ?lv8 ?dv8 ?a9 ?l9 ?c9 ?k9 ?a10 ?l10 ?c10 ?k10 ?a11 ?l11 ?c11 ?k11 ?a12 ?i12 ?l12 ?c12 ?k12 ?a13 ?i13 ?l13 ?c13 ?k13 ?a14 ?i14 ?l14 ?c14 ?k14 ?a15 ?i15 ?l15 ?c15 ?k15 ?a16 ?l16 ?c16 ?k16 ?a17 ?i17 ?l17 ?c17 ?k17 ?a18 ?i18 ?l18 ?c18 ?k18 ?a19 ?i19 ?l19 ?c19 ?k19 ?a20 ?i20 ?l20 ?c20 ?k20 ?a21 ?i21 ?l21 ?c21 ?k21 ?a22 ?i22 ?l22 ?c22 ?k22 ?a23 ?l23 ?c23 ?k23 ?a24 ?l24 ?c24 ?k24 ?a25 ?i25 ?l25 ?c25 ?k25 ?a26 ?i26 ?l26 ?c26 ?k26 ?a27 ?i27 ?l27 ?c27 ?k27 ?a28 ?i28 ?l28 ?c28 ?k28 ?a29 ?l29 ?c29 ?k29 ?a30 ?l30 ?c30 ?k30 ?acj ?acH ?a31 ?l31 ?c31 ?k31 ?aci ?acG ?a32 ?i32 ?l32 ?c32 ?k32 ?a33 ?i33 ?l33 ?c33 ?k33 ?a34 ?i34 ?l34 ?c34 ?k34 ?a35 ?i35 ?l35 ?c35 ?k35 ?a36 ?i36 ?l36 ?c36 ?k36 ?a37 ?i37 ?l37 ?c37 ?k37 ?a38 ?i38 ?l38 ?c38 ?k38 ?a39 ?i39 ?l39 ?c39 ?k39 ?a40 ?i40 ?l40 ?c40 ?k40 ?a41 ?i41 ?l41 ?c41 ?k41 ?a42 ?i42 ?l42 ?c42 ?k42 ?a43 ?i43 ?l43 ?c43 ?k43 ?a44 ?i44 ?l44 ?c44 ?k44 ?a45 ?i45 ?l45 ?c45 ?k45 ?a46 ?i46 ?l46 ?c46 ?k46 ?a47 ?i47 ?l47 ?c47 ?k47 ?a48 ?i48 ?l48 ?c48 ?k48 ?a49 ?i49 ?l49 ?c49 ?k49 ?a50 ?i50 ?l50 ?c50 ?k50 ?a51 ?i51 ?l51 ?c51 ?k51 ?a52 ?l52 ?c52 ?k52 ?a53 ?l53 ?c53 ?k53 ?a54 ?l54 ?c54 ?k54 ?a55 ?i55 ?l55 ?c55 ?k55 ?a56 ?i56 ?l56 ?c56 ?k56 ?a57 ?i57 ?l57 ?c57 ?k57 ?a58 ?i58 ?l58 ?c58 ?k58 ?a59 ?i59 ?l59 ?c59 ?k59 ?a60 ?i60 ?l60 ?c60 ?k60 ?a61 ?l61 ?c61 ?k61 ?Rh ?Vp ?Ul ?HN ?Iw ?U7 ?Vs ?U4 ?Uz ?EY ?Vq ?cI ?eV ?eY ?dw ?Qt ?Q7 ?Qp ?Qh ?Dm ?QW ?a_ ?gw ?bI ?cO ?Li ?MJ ?Lg ?K7 ?zF ?Mv ?gR ?gn ?Qs ?Q6 ?Qo ?Qg ?Dl ?QV ?cR ?mU ?aZ ?gq ?bH ?cM ?bU ?jX ?nH ?iG ?bf ?Gm ?GZ ?Gj ?Ge ?zH ?Mx ?d9 ?Gk ?GX ?Gi ?Gd ?zG ?Mw ?b7 ?jA ?fH ?lG ?d7 ?jB ?Dk ?Du ?Dj ?Dh ?Ip ?IK ?Io ?Ij ?Ii ?jM ?jN ?Ls ?Lq ?lR ?lU ?Lr ?Lp ?lO ?lQ ?hn_ ?tk_ ?Bk ?YW ?Ui ?YT ?zU ?YS ?Uh ?PJ ?Es ?YQ ?Ku ?YM ?PB
   case V0 | Rz | Nq | Ry | Nt | Nr | Jd | a0 | l0 | c0 | k0 | a1 | l1 | c1 | k1 | a2 | i2 | l2 | c2 | k2 | a3 | i3 | l3 | c3 | k3 | a4 | i4 | l4 | c4 | k4 | a5 | l5 | c5 | k5 | a6 | i6 | l6 | c6 | k6 | a7 | l7 | c7 | k7 | a8 | i8 | l8 | c8 | k8 | lv8=>k_is
   case dv8=>rfl
   case a9 | l9 | c9 | k9 | a10 | l10 | c10 | k10 | a11 | l11 | c11 | k11 | a12 | i12 | l12 | c12 | k12 | a13 | i13 | l13 | c13 | k13 | a14 | i14 | l14 | c14 | k14 | a15 | i15 | l15 | c15 | k15 | a16 | l16 | c16 | k16 | a17 | i17 | l17 | c17 | k17 | a18 | i18 | l18 | c18 | k18 | a19 | i19 | l19 | c19 | k19 | a20 | i20 | l20 | c20 | k20 | a21 | i21 | l21 | c21 | k21 | a22 | i22 | l22 | c22 | k22 | a23 | l23 | c23 | k23 | a24 | l24 | c24 | k24 | a25 | i25 | l25 | c25 | k25 | a26 | i26 | l26 | c26 | k26 | a27 | i27 | l27 | c27 | k27 | a28 | i28 | l28 | c28 | k28 | a29 | l29 | c29 | k29 | a30 | l30 | c30 | k30 | acj=>k_is
   case acH=>rfl
   case a31 | l31 | c31 | k31 | aci=>k_is
   case acG=>rfl
   case a32 | i32 | l32 | c32 | k32 | a33 | i33 | l33 | c33 | k33 | a34 | i34 | l34 | c34 | k34 | a35 | i35 | l35 | c35 | k35 | a36 | i36 | l36 | c36 | k36 | a37 | i37 | l37 | c37 | k37 | a38 | i38 | l38 | c38 | k38 | a39 | i39 | l39 | c39 | k39 | a40 | i40 | l40 | c40 | k40 | a41 | i41 | l41 | c41 | k41 | a42 | i42 | l42 | c42 | k42 | a43 | i43 | l43 | c43 | k43 | a44 | i44 | l44 | c44 | k44 | a45 | i45 | l45 | c45 | k45 | a46 | i46 | l46 | c46 | k46 | a47 | i47 | l47 | c47 | k47 | a48 | i48 | l48 | c48 | k48 | a49 | i49 | l49 | c49 | k49 | a50 | i50 | l50 | c50 | k50 | a51 | i51 | l51 | c51 | k51 | a52 | l52 | c52 | k52 | a53 | l53 | c53 | k53 | a54 | l54 | c54 | k54 | a55 | i55 | l55 | c55 | k55 | a56 | i56 | l56 | c56 | k56 | a57 | i57 | l57 | c57 | k57 | a58 | i58 | l58 | c58 | k58 | a59 | i59 | l59 | c59 | k59 | a60 | i60 | l60 | c60 | k60 | a61 | l61 | c61 | k61=>k_is
   case Rh=>rfl
   case Vp=>k_is
   case Ul=>rfl
   case HN=>decide
   case Iw=>kernel_rfl
   case U7 | Vs | U4 | Uz | EY | Vq | cI | eV | eY | dw | Qt | Q7 | Qp | Qh | Dm | QW | a_ | gw | bI | cO | Li | MJ | Lg | K7 | zF | Mv | gR | gn | Qs | Q6 | Qo | Qg | Dl | QV | cR | mU | aZ | gq | bH | cM | bU | jX | nH | iG | bf | Gm | GZ | Gj | Ge | zH | Mx | d9 | Gk | GX | Gi | Gd | zG | Mw | b7 | jA | fH | lG | d7 | jB | Dk | Du | Dj | Dh | Ip | IK | Io | Ij=>k_is
   case Ii | jM | jN=>first | k_is | kernel_rfl
   case Ls=>k_is
   case Lq | lR | lU=>first | k_is | kernel_rfl
   case Lr=>k_is
   case Lp | lO | lQ=>first | k_is | kernel_rfl
   case hn_ | tk_ | Bk | YW | Ui | YT | zU | YS | Uh | PJ | Es | YQ | Ku | YM | PB=>k_is
  obtain⟨t,T⟩:=T
  have e0:=hmg.symm.trans T.aam
  cases e0
  refine⟨t.Hr,[(t.Bp,t.Bq)],My.Og t,fun s u=>My.X7 T s u,fun z hz=> ?_,fun z hz=> ?_,fun k' hk hc=>My.acN hk hc,fun base _ _ hz=>My.ab5 T (hz (t.Bp,t.Bq) (by simp))⟩
  ·simp only[List.mem_cons,List.not_mem_nil,or_false]at hz
   rcases hz with rfl
   ·exact⟨"law",_,T.Zb,rfl⟩
  ·simp only[List.mem_cons,List.not_mem_nil,or_false]at hz
   rcases hz with rfl
   ·exact T.Iw

