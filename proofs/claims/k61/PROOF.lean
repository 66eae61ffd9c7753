import PyProof.Rows.All
import Wide.All
import OpenK.AllK
import Wide.FinOn
import Lean
import PyProof.EqAt
import PyProof.EqKinds
import PyProof.TupleCall
import PySem.Challenge.RW_chairvote_k61_votes_and_chairs
abbrev zC:=@PySem.wpAny_bind
abbrev zD:=@PySem.Heap.get?_push_of_some
abbrev zI:=@PySem.wpAny_pure
abbrev zS:=@PySem.Heap.lt_size
abbrev yA:=@Nat.lt_of_lt_of_le
abbrev yB:=@PySem.Heap.get?_push_size
abbrev yT:=@List.mem_cons_of_mem
abbrev yY:=@Nat.le_trans
abbrev xA:=@Bool.false_ne_true
abbrev xB:=@List.mem_cons_self
abbrev xD:=@Nat.ne_of_lt
abbrev xE:=@List.mem_append_right
abbrev xI:=@Option.some.inj
abbrev xL:=@PySem.Heap.get?_update_other
abbrev xS:=@Nat.ne_of_gt
abbrev wP:=@Nat.le_succ_of_le
abbrev wS:=@Nat.lt_irrefl
abbrev wT:=@PySem.wpAny_newObj_type
abbrev vE:=@PySem.wpAny_mono
abbrev vF:=@PySem.wpAny_setField_rec
abbrev vS:=@PySem.Heap.get?_update_self
abbrev vT:=@PySem.wpAny_field
abbrev uS:=@PySem.W.mg_none_of
abbrev jI:=@PySem.W.kia_one
abbrev jS:=@PySem.wpAny_call_entry
abbrev zaa:=@PySem.W.mg_of
abbrev zab:=@List.mem_of_getElem?
abbrev zac:=@True.intro
abbrev zad:=@Nat.le_refl
abbrev zae:=@List.getElem?_eq_getElem
abbrev zaf:=@List.getElem?_append_right
abbrev zag:=@List.getElem?_append_left
abbrev zah:=@decide_eq_false
abbrev zai:=@decide_eq_true
abbrev zaj:=@of_decide_eq_true
abbrev zak:=@of_decide_eq_false
abbrev zal:=@PySem.wpAny_callSpecial?_slot
abbrev zam:=@List.getElem?_set_ne
abbrev zan:=@List.getElem?_set_self
abbrev zap:=@Int.toNat_natCast
abbrev zaq:=@List.getElem?_map
abbrev zar:=@List.length_map
noncomputable section
open PySem.W (Frag fnOf findIn keepIn nsIn codeIn isFn kitOne subIn exmOne)
set_option Elab.async false
set_option linter.all false
set_option maxRecDepth 100000
namespace L2
open PySem PySem.Spec PyProof.Rows
abbrev Key:=Sum Int Str
def JP:Key->Value->Bool
 | .inl k,v=>Value.isInt k v
 | .inr x,v=>Value.isStrOf x v
def alz(w:World):Key->Int
 | .inl k=>hashInt k
 | .inr x=>hashStr w x
theorem eE:∀{k:Key} {v:Value},JP k v=true->(∃i t,k=Sum.inl i/\v=Value.int i t)\/(∃x t,k=Sum.inr x/\v=Value.str x t)
 | .inl i,v,h=>by
  obtain⟨t,e⟩:=Value.isInt_shape (k:=i) (v:=v) h
  exact .inl ⟨i,t,rfl,e⟩
 | .inr x,v,h=>by
  obtain⟨t,e⟩:=Value.isStrOf_shape (x:=x) (v:=v) h
  exact .inr ⟨x,t,rfl,e⟩
theorem XM(i:Int)(t:Tok):JP (.inl i) (.int i t)=true:=by simp[JP,Value.isInt]
theorem XJ(x:Str)(t:Tok):JP (.inr x) (.str x t)=true:=by simp[JP,Value.isStrOf]
theorem agn(a b:Int):decide ((Sum.inl a:Key)=Sum.inl b)=(a==b):=by
 by_cases e:a=b
 ·subst e;simp
 ·have h:¬(Sum.inl a:Key)=Sum.inl b:=λq=>e (Sum.inl.inj q)
  rw[zah h]
  exact(beq_eq_false_iff_ne.mpr e).symm
theorem agk(a b:Str):decide ((Sum.inr a:Key)=Sum.inr b)=decide (a=b):=by
 by_cases e:a=b
 ·subst e;simp
 ·have h:¬(Sum.inr a:Key)=Sum.inr b:=λq=>e (Sum.inr.inj q)
  rw[zah h,zah e]
theorem agm(a:Int)(b:Str):decide ((Sum.inl a:Key)=Sum.inr b)=false:=zah (λq=>nomatch q)
theorem agl(a:Str)(b:Int):decide ((Sum.inr a:Key)=Sum.inl b)=false:=zah (λq=>nomatch q)
def cL(prog:Program)(w:World):PySem.KeyKind prog w Key where
 is:=JP
 hash:=alz w
 inj:=λv a b ha hb=>by
  rcases eE ha with⟨i,t,rfl,rfl⟩ | ⟨x,t,rfl,rfl⟩
  ·rcases eE hb with⟨j,u,rfl,e⟩ | ⟨y,u,rfl,e⟩
   ·injection e with e1 _;rw[e1]
   ·exact nomatch e
  ·rcases eE hb with⟨j,u,rfl,e⟩ | ⟨y,u,rfl,e⟩
   ·exact nomatch e
   ·injection e with e1 _;rw[e1]
 byValue:=λk v h=>by
  rcases eE h with⟨i,t,rfl,rfl⟩ | ⟨x,t,rfl,rfl⟩<;>rfl
 pyHash:=λhv h=>by
  rcases eE hv with⟨i,t,rfl,rfl⟩ | ⟨x,t,rfl,rfl⟩
  ·exact wpAny_pyHash_int h
  ·exact wpAny_pyHash_str h
 eqBool:=λhu hv h=>by
  rcases eE hu with⟨i,t,rfl,rfl⟩ | ⟨x,t,rfl,rfl⟩
  ·rcases eE hv with⟨j,u,rfl,rfl⟩ | ⟨y,u,rfl,rfl⟩
   ·rw[agn]at h;exact wpAny_eqBool_int h
   ·rw[agm]at h;exact SeqAt.EqAt.int_str i t y u _ _ _ _ h
  ·rcases eE hv with⟨j,u,rfl,rfl⟩ | ⟨y,u,rfl,rfl⟩
   ·rw[agl]at h;exact SeqAt.EqAt.str_int x t j u _ _ _ _ h
   ·rw[agk]at h;exact wpAny_eqBool_str h
 «strs» := λk x t v h=>by
  rcases eE h with⟨i,u,rfl,e⟩ | ⟨y,u,rfl,e⟩
  ·exact nomatch e
  ·injection e with e1 _
   subst e1
   cases v<;>rfl
theorem Rc(prog:Program)(w:World)(i:Int)(t:Tok):(cL prog w).is (.inl i) (.int i t)=true:=XM i t
theorem Rb(prog:Program)(w:World)(x:Str)(t:Tok):(cL prog w).is (.inr x) (.str x t)=true:=XJ x t
inductive V where
 | non | bl (b:Bool) | int (i:Int) | str (x:Str) | byt (b:Array UInt8) | flt (b:UInt64) | ref (a:Addr) | ty (n:String)
 deriving DecidableEq
def RelV:V->Value->Prop
 | .non,u=>u=Value.none
 | .bl b,u=>u=Value.bool b
 | .int i,u=>∃t,u=Value.int i t
 | .str x,u=>∃t,u=Value.str x t
 | .byt b,u=>∃t,u=Value.bytes b t
 | .flt b,u=>∃t,u=Value.float b t
 | .ref a,u=>u=Value.ref a
 | .ty n,u=>u=Value.type n
abbrev Vals:List V->List Value->Prop:=Paired RelV
theorem Vals.length{xs:List V}{us:List Value}(r:Vals xs us):xs.length=us.length:=Paired.length r
theorem Vals.get:∀{xs:List V} {us:List Value} {i:Nat} {x:V},Vals xs us->xs[i]? = some x->∃u,us[i]? = some u/\RelV x u
 | _,_,_,_,.nil,e=>by simp at e
 | _,_,0,_,.cons r _,e=>by simp at e;subst e;exact⟨_,rfl,r⟩
 | _,_,i+1,x,.cons _ t,e=>by
  obtain⟨u,h1,h2⟩:=Vals.get (i:=i) (x:=x) t (by simpa using e)
  exact⟨u,by simpa using h1,h2⟩
theorem Vals.append:∀{xs ys:List V} {us ws:List Value},Vals xs us->Vals ys ws->Vals (xs++ys) (us++ws)
 | _,_,_,_,.nil,s=>s
 | _,_,_,_,.cons r t,s=> .cons r (Vals.append t s)
theorem Vals.take:∀{xs:List V} {us:List Value} (n:Nat),Vals xs us->Vals (xs.take n) (us.take n)
 | _,_,0,_=> .nil
 | _,_,_+1,.nil=> .nil
 | _,_,n+1,.cons r t=> .cons r (Vals.take n t)
theorem Vals.drop:∀{xs:List V} {us:List Value} (n:Nat),Vals xs us->Vals (xs.drop n) (us.drop n)
 | _,_,0,r=>r
 | _,_,_+1,.nil=> .nil
 | _,_,n+1,.cons _ t=>Vals.drop n t
def wZ:Option V->Option Value->Prop
 | some v,some u=>RelV v u
 | none,none=>True
 | _,_=>False
def KV{κ:Type}:List (κ×V)->List (κ×Value)->Prop:=Paired λ(p:κ×V) (q:κ×Value)=>p.1=q.1/\RelV p.2 q.2
def kV:Key->V
 | .inl i=> .int i
 | .inr x=> .str x
inductive HO where
 | lst (xs:List V)
 | tup (xs:List V)
 | dK (kvs:List (Key×V)) | dT (kvs:List (List Key×V))
 | set (S:Int->Bool) (n:Nat)
 | ins (C dx:Addr) (fs:List (Str×V))
 | own (x:Addr)
 | xd (fs:List (Str×V))
 | met (f x:Addr)
 | zY (lo hi:Int)
 | jY (o:Obj) (u:HO)
 | Y7 (ps:Array Value)
 | ext (φ:Heap->Prop)
abbrev Hp:=Addr->Option HO
def upd(H:Hp)(a:Addr)(o:HO):Hp:=λb=>if b=a then some o else H b
theorem bh{H:Hp}{a:Addr}{o:HO}:upd H a o a=some o:=by unfold upd;rw[if_pos rfl]
theorem aG{H:Hp}{a b:Addr}{o:HO}(h:b≠a):upd H a o b=H b:=by unfold upd;rw[if_neg h]
theorem ab9{H:Hp}{a:Addr}{o u:HO}:upd (upd H a o) a u=upd H a u:=by
 funext b;unfold upd;split<;>rfl
theorem aiQ{H:Hp}{a b:Addr}{o u:HO}(h:H a=some o)(h':H b=some u)(d:o≠u):a≠b:=by
 intro e;subst e;rw[h]at h';exact d (xI h')
theorem bA{H:Hp}{a b:Addr}{o:HO}(h:H a=some o)(h':H b=none):a≠b:=by
 intro e;subst e;rw[h]at h';cases h'
section
variable(P:Program)(w:World)
def bQ(H:Hp)(h:Heap)(a:Addr):HO->Prop
 | .lst xs=>xs.length<=sizeLine/\∃(its:List Value) (n:Nat),Vals xs its/\h.get? a=some {cls:= .type "list",data:= .seq its.toArray n}
 | .tup xs=>xs.length<=sizeLine/\∃its:List Value,Vals xs its/\IsTup h a its.toArray
 | .dK kvs=>kvs.length<=sizeLine/\(a==sysModules)=false/\∃vs,KV kvs vs/\h.DictOf (cL P w) a vs
 | .dT kvs=>kvs.length<=sizeLine/\(a==sysModules)=false/\∃xs:List (List Key×Addr×Value),
   Paired (λ(p:List Key×V) (q:List Key×Addr×Value)=>p.1=q.1/\H q.2.1=some (.tup (p.1.map kV))/\RelV p.2 q.2.2) kvs xs/\
   ∃o es ep,h.get? a=some o/\o.ExactDict/\o.data= .dict es ep/\es.toList=xs.map (entryOfKey (tupleKind (cL P w)))/\(xs.map (·.1)).Nodup
 | .set S n=>h.SetOf (intKind P w) a S n
 | .ins C dx fs=>H dx=some (.own a)/\fs.length<=1000/\dx≠a/\h.get? a=some (PySem.W.instObj C dx)/\
   ∃mA,h.Ns1 dx mA/\(∀f,wZ (fs.lookup f) (mA f))/\PySem.Within mA (fs.map (·.1))
 | .own _=>∃o,h.get? a=some o
 | .xd fs=>∃mA,h.Ns1 a mA/\∀f,wZ (fs.lookup f) (mA f)
 | .zY lo hi=>∃t u v,h.get? a=some {cls:= .type "range",data:= .fields #[.int lo t,.int hi u,.int 1 v]}
 | .jY o u=>h.get? a=some o/\bQ H h a u
 | .Y7 ps=>h.get? a=some {cls:= .none,data:= .fields ps}
 | .met f x=>h.get? a=some (PySem.W.methodObj (.ref f) (.ref x))
 | .ext φ=>φ h/\(∃o,h.get? a=some o)/\∀h1 h2:Heap,φ h1->(∀o,h1.get? a=some o->h2.get? a=some o)->φ h2
def rE(H:Hp)(h:Heap):Prop:=∀a o,H a=some o->bQ P w H h a o
end
section
variable{P:Program}{w:World}{H H':Hp}{h h':Heap}{a:Addr}{o:HO}
theorem bQ.lt(x:bQ P w H h a o):a<h.objs.size:=by
 cases o with
 | lst xs=>obtain⟨_,_,_,_,e⟩:=x;exact zS e
 | tup xs=>obtain⟨_,_,_,p⟩:=x;exact p.lt
 | dK kvs=>obtain⟨_,_,_,_,o,_,_,e,_⟩:=x;exact zS e
 | dT kvs=>obtain⟨_,_,_,_,o,_,_,e,_⟩:=x;exact zS e
 | set S n=>obtain⟨o,_,_,_,e,_⟩:=x;exact zS e
 | ins C dx fs=>obtain⟨_,_,_,e,_⟩:=x;exact zS e
 | own y=>obtain⟨_,e⟩:=x;exact zS e
 | xd fs=>obtain⟨_,⟨_,_,_,e,_⟩,_⟩:=x;exact zS e
 | zY lo hi=>obtain⟨_,_,_,e⟩:=x;exact zS e
 | jY ob u=>obtain⟨e,_⟩:=x;exact zS e
 | Y7 ps=>exact zS (show h.get? a=some _ from x)
 | met f y=>exact zS (show h.get? a=some _ from x)
 | ext φ=>obtain⟨_,⟨_,e⟩,_⟩:=x;exact zS e
theorem Paired.adn{α β:Type}{F G:α->β->Prop}:∀{l₁:List α} {l₂:List β},Paired F l₁ l₂->(∀a b,F a b->G a b)->Paired G l₁ l₂
 | _,_,.nil,_=> .nil
 | _,_,.cons r t,f=> .cons (f _ _ r) (Paired.adn t f)
theorem bQ.stay(x:bQ P w H h a o)(k:∀b u,(b=a\/H b=some (.own a))->h.get? b=some u->h'.get? b=some u)
  (ho:∀b,H b=some (.own a)->H' b=some (.own a)) (ht:∀b xs,H b=some (.tup xs)->H' b=some (.tup xs)):bQ P w H' h' a o:=by
 induction o with
 | lst xs=>obtain⟨z,its,n,r,e⟩:=x;exact⟨z,its,n,r,k _ _ (.inl rfl) e⟩
 | tup xs=>obtain⟨z,its,r,ob,e,c⟩:=x;exact⟨z,its,r,ob,k _ _ (.inl rfl) e,c⟩
 | dK kvs=>obtain⟨z,y,vs,r,ob,es,ep,e,c⟩:=x;exact⟨z,y,vs,r,ob,es,ep,k _ _ (.inl rfl) e,c⟩
 | dT kvs=>
  obtain⟨z,y,xs,r,ob,es,ep,e,c⟩:=x
  exact⟨z,y,xs,Paired.adn r λp q z=>⟨z.1,ht _ _ z.2.1,z.2.2⟩,ob,es,ep,k _ _ (.inl rfl) e,c⟩
 | set S n=>obtain⟨ob,es,ep,t,e,c⟩:=x;exact⟨ob,es,ep,t,k _ _ (.inl rfl) e,c⟩
 | ins C dx fs=>
  obtain⟨d,z,ne,e,mA,⟨od,es,ep,e2,c⟩,r⟩:=x
  exact⟨ho _ d,z,ne,k _ _ (.inl rfl) e,mA,⟨od,es,ep,k _ _ (.inr d) e2,c⟩,r⟩
 | own y=>obtain⟨ob,e⟩:=x;exact⟨ob,k _ _ (.inl rfl) e⟩
 | xd fs=>obtain⟨mA,⟨od,es,ep,e,c⟩,r⟩:=x;exact⟨mA,⟨od,es,ep,k _ _ (.inl rfl) e,c⟩,r⟩
 | zY lo hi=>obtain⟨t,u,v,e⟩:=x;exact⟨t,u,v,k _ _ (.inl rfl) e⟩
 | jY ob u ih=>obtain⟨e,q⟩:=x;exact⟨k _ _ (.inl rfl) e,ih q⟩
 | Y7 ps=>
  have e:h.get? a=some {cls:= .none,data:= .fields ps}:=x
  show h'.get? a=some {cls:= .none,data:= .fields ps}
  exact k a _ (.inl rfl) e
 | met f y=>
  have e:h.get? a=some (PySem.W.methodObj (.ref f) (.ref y)):=x
  show h'.get? a=some (PySem.W.methodObj (.ref f) (.ref y))
  exact k a _ (.inl rfl) e
 | ext φ=>obtain⟨p,⟨o,e⟩,st⟩:=x;exact⟨st _ _ p λo q=>k _ _ (.inl rfl) q,⟨o,k _ _ (.inl rfl) e⟩,st⟩
theorem rE.lt(x:rE P w H h)(e:H a=some o):a<h.objs.size:=(x a o e).lt
theorem rE.fresh(x:rE P w H h)(e:h.objs.size<=a):H a=none:=by
 cases q:H a with
 | none=>rfl
 | some u=>exact absurd (yA (x.lt q) e) (wS _)
theorem rE.kept(x:rE P w H h)(k:∀b u,h.get? b=some u->h'.get? b=some u):rE P w H h':=λa o e=>
 (x a o e).stay (λb u _ q=>k b u q) (λ_ q=>q) λ_ _ q=>q
theorem rE.laid(x:rE P w H h)(k:∀b u,h.get? b=some u->h'.get? b=some u)(hp:h.objs.size<=a)(new:bQ P w (upd H a o) h' a o):rE P w (upd H a o) h':=λb u e=>by
 have hn:=x.fresh hp
 by_cases hb:b=a
 ·subst hb;rw[bh]at e;cases e;exact new
 ·rw[aG hb]at e
  exact(x b u e).stay (λc v _ q=>k c v q) (λc q=>by rw[aG (bA q hn)];exact q) λc xs q=>by rw[aG (bA q hn)];exact q
end
def Rd(H:Hp)(a:Addr)(u:HO):Prop:=H a=some u\/∃o,H a=some (.jY o u)
theorem Rd.ok{P:Program}{w:World}{H:Hp}{h:Heap}{a:Addr}{u:HO}(r:Rd H a u)(x:rE P w H h):bQ P w H h a u:=by
 rcases r with r | ⟨o,r⟩
 ·exact x a u r
 ·obtain⟨_,q⟩:=x a _ r
  exact q
def Mut:Option HO->Prop
 | some (.lst _)=>True
 | some (.dK _)=>True
 | some (.dT _)=>True
 | some (.set _ _)=>True
 | some (.ins _ _ _)=>True
 | some (.ext _)=>True
 | _=>False
section
variable{P:Program}{w:World}{H:Hp}{h h':Heap}{x e:Addr}{o':HO}
theorem rE.write(ok:rE P w H h)(mu:Mut (H x))(he:e=x\/H e=some (.own x))(k:∀b u,b≠e->h.get? b=some u->h'.get? b=some u)(heo:∃u,h'.get? e=some u)
  (new:bQ P w (upd H x o') h' x o'):rE P w (upd H x o') h':=λb u q=>by
 have aiP:∀c y,H c=some (.own y)->c≠x:=λc y r z=>by subst z;rw[r]at mu;exact mu
 have aln:∀c xs,H c=some (.tup xs)->c≠x:=λc xs r z=>by subst z;rw[r]at mu;exact mu
 by_cases hb:b=x
 ·subst hb;rw[bh]at q;cases q;exact new
 ·rw[aG hb]at q
  by_cases hbe:b=e
  ·have q':H b=some (.own x):=by
    rcases he with z | z
    ·exact absurd (hbe.trans z) hb
    ·rw[hbe];exact z
   rw[q]at q';cases q'
   obtain⟨v,hv⟩:=heo
   exact⟨v,by rw[hbe];exact hv⟩
  ·refine(ok b u q).stay (λc v hc r=>k c v ?_ r) (λc r=>by rw[aG (aiP c b r)];exact r) λc xs r=>by rw[aG (aln c xs r)];exact r
   rcases hc with rfl | hc
   ·exact hbe
   ·rintro rfl
    rcases he with z | z
    ·exact aiP c b hc z
    ·rw[hc]at z;cases z;exact hb rfl
end
structure Un(fs ex:List Addr)(H H':Hp)(h h':Heap):Prop where
 keep:∀b o,h.get? b=some o->H b=none->b∉fs->b∉ex->h'.get? b=some o
 slot:∀b o,h.get? b=some o->H b=none->b∈fs->b∉ex->∃sl,h'.get? b=some {o with slots:=sl}
 free:∀b o,h.get? b=some o->H b=none->b∉ex->H' b=none
 there:∀b o,h.get? b=some o->b∉ex->∃o',h'.get? b=some o'
 tups:∀b xs,H b=some (.tup xs)->H' b=some (.tup xs)
 qX:∀b o u,H b=some (.jY o u)->H' b=some (.jY o u)
 sY:∀b ps,H b=some (.Y7 ps)->∃more,H' b=some (.Y7 (ps++more))
section
variable{fs fs' ex ex':List Addr}{H H1 H2:Hp}{h h1 h2 h':Heap}{a x e:Addr}{o:HO}
theorem Un.any(u:Un fs ex H H1 h h1){b:Addr}{ob:Obj}(q:h.get? b=some ob)(n:H b=none)(hx:b∉ex):∃sl,h1.get? b=some {ob with slots:=sl}:=by
 by_cases hb:b∈fs
 ·exact u.slot b ob q n hb hx
 ·exact⟨ob.slots,u.keep b ob q n hb hx⟩
theorem Un.trans(a:Un fs ex H H1 h h1)(b:Un fs ex H1 H2 h1 h2):Un fs ex H H2 h h2 where
 keep:=λc ob q n hc hx=>b.keep c ob (a.keep c ob q n hc hx) (a.free c ob q n hx) hc hx
 slot:=λc ob q n hc hx=>by
  obtain⟨sl,e1⟩:=a.slot c ob q n hc hx
  obtain⟨sl',e2⟩:=b.slot c _ e1 (a.free c ob q n hx) hc hx
  exact⟨sl',e2⟩
 free:=λc ob q n hx=>by
  obtain⟨o',e1⟩:=a.there c ob q hx
  exact b.free c o' e1 (a.free c ob q n hx) hx
 there:=λc ob q hx=>by
  obtain⟨o',e1⟩:=a.there c ob q hx
  exact b.there c o' e1 hx
 tups:=λc xs q=>b.tups c xs (a.tups c xs q)
 qX:=λc ob xs q=>b.qX c ob xs (a.qX c ob xs q)
 sY:=λc ps q=>by
  obtain⟨m1,e1⟩:=a.sY c ps q
  obtain⟨m2,e2⟩:=b.sY c _ e1
  exact⟨m1++m2,by rw[e2,Array.append_assoc]⟩
theorem Un.kept(k:∀b u,h.get? b=some u->h'.get? b=some u):Un fs ex H H h h':=
 ⟨λb ob q _ _ _=>k b ob q,λb ob q _ _ _=>⟨ob.slots,k b ob q⟩,λ_ _ _ n _=>n,λb ob q _=>⟨ob,k b ob q⟩,λ_ _ q=>q,λ_ _ _ q=>q,λ_ ps q=>⟨#[],by rw[q];simp⟩⟩
theorem Un.refl:Un fs ex H H h h:=Un.kept λ_ _ q=>q
theorem Un.laid(k:∀b u,h.get? b=some u->h'.get? b=some u)(hp:h.objs.size<=a)(hn:H a=none):Un fs ex H (upd H a o) h h' where
 keep:=λb u q _ _ _=>k b u q
 slot:=λb u q _ _ _=>⟨u.slots,k b u q⟩
 free:=λb u q n _=>by rw[aG (xD (yA (zS q) hp))];exact n
 there:=λb u q _=>⟨u,k b u q⟩
 tups:=λb xs q=>by rw[aG (bA q hn)];exact q
 qX:=λb u xs q=>by rw[aG (bA q hn)];exact q
 sY:=λb ps q=>⟨#[],by rw[aG (bA q hn),q];simp⟩
theorem Un.write(mu:Mut (H x))(he:e=x\/H e=some (.own x))(k:∀b u,b≠e->h.get? b=some u->h'.get? b=some u)(heo:∃u,h'.get? e=some u):Un fs ex H (upd H x o) h h':=by
 have hx:∀b,H b=none->b≠x:=λb n z=>by subst z;rw[n]at mu;exact mu
 have hb:∀b,H b=none->b≠e:=λb n z=>by
  subst z
  rcases he with r | r
  ·exact hx b n r
  ·rw[n]at r;cases r
 have hm:∀b u,H b=some u->¬Mut (some u)->b≠x:=λb u q nm z=>by subst z;rw[q]at mu;exact nm mu
 refine⟨λb u q n _ _=>k b u (hb b n) q,λb u q n _ _=>⟨u.slots,k b u (hb b n) q⟩,λb u q n _=>by rw[aG (hx b n)];exact n,λb u q _=> ?_,
  λb xs q=>by rw[aG (hm b _ q λz=>z)];exact q,λb u xs q=>by rw[aG (hm b _ q λz=>z)];exact q,λb ps q=>⟨#[],by rw[aG (hm b _ q λz=>z),q];simp⟩⟩
 by_cases hbe:b=e
 ·subst hbe;exact heo
 ·exact⟨u,k b u hbe q⟩
end
def trk(h:Heap)(H:Hp):List Addr:=(List.range h.objs.size).filter λa=>(H a).isSome
def Ox(h:Heap)(H:Hp):Heap:=PySem.W.hideAll h (trk h H)
theorem XX(h:Heap)(H:Hp):(Ox h H).objs.size=h.objs.size:=PySem.W.hideAll_size _ _
theorem aa5{h:Heap}{H:Hp}{b:Addr}{o:Obj}(e:h.get? b=some o)(n:H b=none):(Ox h H).get? b=some o:=
 PySem.W.hideAll_get _ e λhm=>by
  have q:(H b).isSome=true:=(List.mem_filter.mp hm).2
  rw[n]at q;simp at q
theorem adg{h:Heap}{H:Hp}{b:Addr}{o:Obj}(e:(Ox h H).get? b=some o):h.get? b=some o/\H b=none:=by
 have e':h.get? b=some o:=PySem.W.of_hideAll (trk h H) e
 refine⟨e',?_⟩
 cases q:H b with
 | none=>rfl
 | some x=>
  have hm:b∈trk h H:=List.mem_filter.mpr ⟨List.mem_range.mpr (zS e'),by simp[q]⟩
  have z:(Ox h H).get? b=none:=PySem.W.hideAll_none (trk h H) hm
  rw[z]at e;cases e
def aeb(g h:Heap)(L:Addr):List (Addr×Obj):=(List.range h.objs.size).filterMap λa=>if a=L\/(g.get? a).isSome=true then none else(h.get? a).map λo=>(a,o)
def rest(g h:Heap)(L d:Addr):List (Addr×Obj):=(aeb g h L).filter λp=>decide (p.1≠d)
structure Mod(K:Frag)(mg:Str->Option Value)(base:Heap):Prop where
 kin:K.In base
 glob:base.Ns mainGlobals mg
 blt:∃mb,base.Ns builtinsNs mb/\∀x:Str,x≠ "__name__" -> mb x=bootBuiltins x
 nolimit:base.NoLimit
structure Cx where
 prog:Program
 w:World
 K:Frag
 mg:Str->Option Value
 base:Heap
 A:Around
 N:List Str
 s₀:Shared
 H₀:Hp
 env:Env
 outer:List Env
 stack:List Env
 ex:List Addr
 fn:Str->Bool
 calm:Bool
 pn:List (Addr×Obj)
 xe:Value->Shared->Prop
def frs(l:List Env):List Addr:=l.filterMap (·.frame)
abbrev Cx.fs(X:Cx):List Addr:=frs X.outer
def Vis(sc:Scope)(x:Str):Prop:=sc.names.lookup x=some .local\/sc.names.lookup x=some .cell\/sc.names.lookup x=some .free
def Loc(sc:Scope)(x:Str):Prop:=sc.names.lookup x=some .local\/sc.names.lookup x=some .cell
def Look(env:Env)(h:Heap)(m:Str->Option Value)(x:Str)(u:Value):Prop:=
 (env.kindOf x=some .local/\m x=some u)\/((env.kindOf x=some .cell\/env.kindOf x=some .free)/\∃c,env.cells.lookup x=some c/\h.IsCell c (some u))
structure Cx.Ok(X:Cx):Prop where
 mod:Mod X.K X.mg X.base
 kind:X.env.scope.kind= .function
 glob:X.env.globals=mainGlobals
 blt:X.env.builtins=builtinsNs
 above:X.s₀.heap.objs.size<=X.env.locals
 inj:∀x y c,X.env.cells.lookup x=some c->X.env.cells.lookup y=some c->x=y
 has:∀x,(X.env.kindOf x=some .cell\/X.env.kindOf x=some .free)->∃c,X.env.cells.lookup x=some c
 cab:∀x c,X.fn x=true->X.env.cells.lookup x=some c->X.s₀.heap.objs.size<=c
 hd:X.calm=true->X.A.handled=none
 frames:X.A.frames=some X.stack
 stk:X.stack=X.outer\/(X.stack=X.env::X.outer/\X.env.frame=some X.env.locals)
 exf:∀b∈X.ex,b≠X.env.locals/\∀x c,X.env.cells.lookup x=some c->c≠b
 bs:∀b o,X.base.get? b=some o->X.s₀.heap.get? b=some o/\X.H₀ b=none
 Wx:X.base.objs.size<=X.s₀.heap.objs.size
 Q9:∀b o,X.base.get? b=some o->b∉X.ex
 RG:∀b∈X.ex,b∉X.fs
 yR:X.s₀.heap.FunFrames X.base X.outer
 frf:∀b∈X.fs,X.H₀ b=none
structure Inv(X:Cx)(pins:List (Addr×Obj))(σ:List (Option V))(H:Hp)(s:Shared):Prop where
 ok:X.Ok
 os:s.os=X.s₀.os
 bare:AllBare s.gens
 base:Un X.fs X.ex X.H₀ H X.s₀.heap s.heap
 loc:∃m,s.heap.Ns X.env.locals m/\∀(i:Nat) (x:Str) (v:V),X.N[i]? = some x->σ[i]? = some (some v)->Vis X.env.scope x->∃u,RelV v u/\Look X.env s.heap m x u
 cell:∀x c,X.env.cells.lookup x=some c->∃v,s.heap.IsCell c v
 free:H X.env.locals=none
 jl:∀x c,X.env.cells.lookup x=some c->H c=none
 pin:∀p∈X.pn++pins,s.heap.get? p.1=some p.2/\H p.1=none/\p.1≠X.env.locals/\p.1∉X.fs/\∀v,p.2.data≠ .cell v
 hok:rE X.prog X.w H s.heap
 len:σ.length=X.N.length
section
variable{X:Cx}{pins:List (Addr×Obj)}{σ:List (Option V)}{H H':Hp}{s:Shared}{h':Heap}
theorem Cx.Ok.alp(ok:X.Ok){b:Addr}{o:Obj}(e:X.base.get? b=some o):b∉X.fs:=λhb=>by
 have:=(ok.yR.mem hb).1
 rw[e]at this;cases this
theorem Inv.bs(I:Inv X pins σ H s):∀b o,X.base.get? b=some o->s.heap.get? b=some o/\H b=none:=λb o e=>
 ⟨I.base.keep b o (I.ok.bs b o e).1 (I.ok.bs b o e).2 (I.ok.alp e) (I.ok.Q9 b o e),I.base.free b o (I.ok.bs b o e).1 (I.ok.bs b o e).2 (I.ok.Q9 b o e)⟩
theorem Inv.bk(I:Inv X pins σ H s):∀b o,X.base.get? b=some o->s.heap.get? b=some o:=λb o e=>(I.bs b o e).1
theorem Inv.mod(I:Inv X pins σ H s):Mod X.K X.mg X.base:=I.ok.mod
theorem Inv.uW(I:Inv X pins σ H s):X.K.In s.heap:=I.ok.mod.kin.keeps I.bk
theorem Inv.nolimit(I:Inv X pins σ H s):s.heap.NoLimit:=I.ok.mod.nolimit.keeps I.bk
theorem Inv.fr(I:Inv X pins σ H s):∃m,Fr X.base X.env.locals s.heap m:=
 let⟨m,hn,_⟩:=I.loc
 ⟨m,hn,I.bk,yY I.ok.Wx I.ok.above⟩
theorem Inv.lt(I:Inv X pins σ H s):X.env.locals<s.heap.objs.size:=let⟨_,hn,_⟩:=I.loc;hn.lt
theorem Inv.sz(I:Inv X pins σ H s):X.s₀.heap.objs.size<=s.heap.objs.size:=yY I.ok.above (Nat.le_of_lt I.lt)
theorem Inv.alo(I:Inv X pins σ H s){a:Addr}(h:s.heap.objs.size<=a):a∉X.fs:=λhb=>by
 obtain⟨_,o,ho,_⟩:=I.ok.yR.mem hb
 exact absurd (yA (zS ho) (yY I.sz h)) (wS _)
theorem Inv.cne(I:Inv X pins σ H s):∀x c,X.env.cells.lookup x=some c->c≠X.env.locals:=λx c e z=>by
 obtain⟨v,o,ho,hd⟩:=I.cell x c e
 obtain⟨m,⟨o',es,ep,ho',hd',_⟩,_⟩:=I.loc
 rw[z,ho']at ho;cases ho;rw[hd']at hd;cases hd
theorem Inv.yR(I:Inv X pins σ H s):s.heap.FunFrames X.base X.outer:=by
 have all:∀(l:List Env),(∀b∈frs l,b∈X.fs)->X.s₀.heap.FunFrames X.base l->s.heap.FunFrames X.base l:=by
  intro l
  induction l with
  | nil=>intro _ _;trivial
  | cons env r ih=>
   intro hs hl
   obtain⟨hk,⟨L,o,hf,hn,ho,hd⟩,hr⟩:=hl
   have hL:L∈X.fs:=hs L (by unfold frs;rw[List.filterMap_cons,hf];exact xB)
   obtain⟨sl,e⟩:=I.base.slot L o ho (I.ok.frf L hL) hL λz=>I.ok.RG L z hL
   exact⟨hk,⟨L,_,hf,hn,e,hd⟩,ih (λb hb=>hs b (by unfold frs;rw[List.filterMap_cons,hf];exact yT _ hb)) hr⟩
 exact all X.outer (λ_ hb=>hb) I.ok.yR
theorem Inv.stack(I:Inv X pins σ H s):s.heap.FunFrames X.base X.stack:=by
 rcases I.ok.stk with e | ⟨e,hf⟩
 ·rw[e];exact I.yR
 ·rw[e]
  obtain⟨m,hn,_⟩:=I.loc
  refine .cons (by rw[I.ok.kind];decide) hf hn ?_ I.yR
  exact Heap.get?_none_of_le (yY I.ok.Wx I.ok.above)
theorem Inv.MP(I:Inv X pins σ H s):∀b∈frs X.stack,b∈X.env.locals::X.fs:=λb hb=>by
 rcases I.ok.stk with e | ⟨e,hf⟩
 ·rw[e]at hb;exact yT _ hb
 ·rw[e]at hb
  unfold frs at hb
  rw[List.filterMap_cons,hf]at hb
  exact hb
theorem Inv.Hu(I:Inv X pins σ H s):∀b∈frs X.stack,H b=none:=λb hb=>by
 rcases List.mem_cons.mp (I.MP b hb)with e | hb
 ·rw[e];exact I.free
 ·obtain⟨_,o,ho,_⟩:=I.ok.yR.mem hb
  exact I.base.free b o ho (I.ok.frf b hb) λz=>I.ok.RG b z hb
theorem Inv.step{g':Array GenState}{t':Nat}{d':Drawn}{ch:List Addr}(I:Inv X pins σ H s)
  (hch:∀b∈ch,(b∈X.ex\/X.s₀.heap.objs.size<=b)/\b≠X.env.locals/\(∀x c,X.env.cells.lookup x=some c->c≠b)/\∀p∈X.pn++pins,p.1≠b)
  (keep:∀b o,b≠X.env.locals->b∉X.fs->b∉ch->s.heap.get? b=some o->H b=none->h'.get? b=some o)
  (slot:∀b o,b≠X.env.locals->b∈X.fs->b∉ch->s.heap.get? b=some o->H b=none->∃sl,h'.get? b=some {o with slots:=sl}) (free:∀b o,b∉ch->s.heap.get? b=some o->H b=none->H' b=none)
  (there:∀b o,b∉ch->s.heap.get? b=some o->∃o',h'.get? b=some o')
  (tups:∀b xs,H b=some (.tup xs)->H' b=some (.tup xs)) (qX:∀b o u,H b=some (.jY o u)->H' b=some (.jY o u)) (sY:∀b ps,H b=some (.Y7 ps)->∃more,H' b=some (.Y7 (ps++more)))
  (ns:∀m,s.heap.Ns X.env.locals m->h'.Ns X.env.locals m) (hok:rE X.prog X.w H' h') (hg:AllBare g'):
  Inv X pins σ H' {s with heap:=h',gens:=g',drawn:=d',toks:=t'}:=by
 have neL:∀b o,X.s₀.heap.get? b=some o->b≠X.env.locals:=λb o e=>xD (yA (zS e) I.ok.above)
 have neC:∀b o,X.s₀.heap.get? b=some o->b∉X.ex->b∉ch:=λb o e hx hb=>by
  rcases(hch b hb).1 with z | z
  ·exact hx z
  ·exact absurd (yA (zS e) z) (wS _)
 have cellK:∀x c,X.env.cells.lookup x=some c->∀v,s.heap.IsCell c v->h'.IsCell c v:=λx c e v ⟨o,ho,hd⟩=>by
  have nch:c∉ch:=λz=>(hch c z).2.2.1 x c e rfl
  by_cases hc:c∈X.fs
  ·obtain⟨sl,q⟩:=slot c o (I.cne x c e) hc nch ho (I.jl x c e)
   exact⟨_,q,hd⟩
  ·exact⟨o,keep c o (I.cne x c e) hc nch ho (I.jl x c e),hd⟩
 refine⟨I.ok,I.os,hg,⟨λb o e n hb hx=> ?_,λb o e n hb hx=> ?_,λb o e n hx=> ?_,λb o e hx=> ?_,λb xs e=>tups b xs (I.base.tups b xs e),λb o xs e=>qX b o xs (I.base.qX b o xs e),λb ps e=> ?_⟩,?_,λx c e=> ?_,?_,λx c e=> ?_,λp hp=> ?_,hok,I.len⟩
 ·exact keep b o (neL b o e) hb (neC b o e hx) (I.base.keep b o e n hb hx) (I.base.free b o e n hx)
 ·obtain⟨sl,e1⟩:=I.base.slot b o e n hb hx
  obtain⟨sl',e2⟩:=slot b _ (neL b o e) hb (neC b o e hx) e1 (I.base.free b o e n hx)
  exact⟨sl',e2⟩
 ·obtain⟨o',e1⟩:=I.base.there b o e hx
  exact free b o' (neC b o e hx) e1 (I.base.free b o e n hx)
 ·obtain⟨o',e1⟩:=I.base.there b o e hx
  exact there b o' (neC b o e hx) e1
 ·obtain⟨m1,e1⟩:=I.base.sY b ps e
  obtain⟨m2,e2⟩:=sY b _ e1
  exact⟨m1++m2,by rw[e2,Array.append_assoc]⟩
 ·obtain⟨m,hn,hl⟩:=I.loc
  refine⟨m,ns m hn,λi x v e1 e2 e3=> ?_⟩
  obtain⟨u,r,l⟩:=hl i x v e1 e2 e3
  refine⟨u,r,?_⟩
  rcases l with l | ⟨k,c,e,z⟩
  ·exact .inl l
  ·exact .inr ⟨k,c,e,cellK x c e _ z⟩
 ·obtain⟨v,z⟩:=I.cell x c e
  exact⟨v,cellK x c e v z⟩
 ·obtain⟨m,⟨o,_,_,ho,_⟩,_⟩:=I.loc
  exact free _ o (λz=>(hch _ z).2.1 rfl) ho I.free
 ·obtain⟨v,o,ho,hd⟩:=I.cell x c e
  exact free c o (λz=>(hch c z).2.2.1 x c e rfl) ho (I.jl x c e)
 ·obtain⟨e,n,ne,nf,d⟩:=I.pin p hp
  have nch:p.1∉ch:=λz=>(hch p.1 z).2.2.2 p hp rfl
  exact⟨keep p.1 p.2 ne nf nch e n,free p.1 p.2 nch e n,ne,nf,d⟩
theorem Inv.un{t':Nat}(I:Inv X pins σ H s)(u:Un X.fs [] H H' s.heap h')(hok:rE X.prog X.w H' h'):Inv X pins σ H' {s with heap:=h',toks:=t'}:=by
 obtain⟨m,⟨o,es,ep,ho,r⟩,_⟩:=id I.loc
 obtain⟨sl,hL⟩:=u.any ho I.free (by simp)
 exact I.step (g':=s.gens) (d':=s.drawn) (ch:=[]) (λ_ z=>nomatch z) (λb o _ hb _ e n=>u.keep b o e n hb (by simp)) (λb o _ hb _ e n=>u.slot b o e n hb (by simp)) (λb o _ e n=>u.free b o e n (by simp)) (λb o _ e=>u.there b o e (by simp)) u.tups u.qX u.sY (λm' hm=>by
  obtain⟨o',es',ep',ho',r'⟩:=hm
  rw[ho]at ho';cases ho'
  exact⟨_,es',ep',hL,r'⟩) hok I.bare
theorem Inv.call{g':Array GenState}{t':Nat}{d':Drawn}{ch:List Addr}(I:Inv X pins σ H s)(u:Un (frs X.stack) ch H H' s.heap h')(hok:rE X.prog X.w H' h')(hg:AllBare g')
  (hch:∀b∈ch,(b∈X.ex\/X.s₀.heap.objs.size<=b)/\b≠X.env.locals/\(∀x c,X.env.cells.lookup x=some c->c≠b)/\∀p∈X.pn++pins,p.1≠b):
  Inv X pins σ H' {s with heap:=h',gens:=g',drawn:=d',toks:=t'}:=by
 obtain⟨m,⟨o,es,ep,ho,r⟩,_⟩:=id I.loc
 obtain⟨sl,hL⟩:=u.any ho I.free λz=>(hch _ z).2.1 rfl
 exact I.step (ch:=ch) hch (λb o hL hb hc e n=>u.keep b o e n (λz=>(List.mem_cons.mp (I.MP b z)).elim hL hb) hc) (λb o _ _ hc e n=>u.any e n hc) (λb o hc e n=>u.free b o e n hc) (λb o hc e=>u.there b o e hc) u.tups u.qX u.sY (λm' hm=>by
  obtain⟨o',es',ep',ho',r'⟩:=hm
  rw[ho]at ho';cases ho'
  exact⟨_,es',ep',hL,r'⟩) hok hg
theorem Inv.turned{t':Nat}{it:Addr}(I:Inv X pins σ H s)(k:∀b o,b≠it->s.heap.get? b=some o->h'.get? b=some o)(hn:H it=none)(hL:it≠X.env.locals)
  (h1:it∈X.ex\/X.s₀.heap.objs.size<=it) (h2:∀x c,X.env.cells.lookup x=some c->c≠it) (h3:∀p∈X.pn++pins,p.1≠it):Inv X pins σ H {s with heap:=h',toks:=t'}:=by
 have nit:∀b u,H b=some u->b≠it:=λb u e z=>by rw[z,hn]at e;cases e
 refine I.step (g':=s.gens) (d':=s.drawn) (ch:=[it]) (λb hb=> ?_) (λb o _ _ hc e _=>k b o (λz=>hc (by simp[z])) e) (λb o _ _ hc e _=>⟨o.slots,k b o (λz=>hc (by simp[z])) e⟩) (λ_ _ _ _ n=>n)
  (λb o hc e=>⟨o,k b o (λz=>hc (by simp[z])) e⟩) (λ_ _ e=>e) (λ_ _ _ e=>e) (λb ps e=>⟨#[],by rw[e];simp⟩) (λm hm=> ?_) (λb u e=> ?_) I.bare
 ·have e:b=it:=by simpa using hb
  subst e
  exact⟨h1,hL,h2,h3⟩
 ·obtain⟨o,es,ep,ho,r⟩:=hm
  exact⟨o,es,ep,k _ o (Ne.symm hL) ho,r⟩
 ·refine(I.hok b u e).stay (λc v hc q=>k c v ?_ q) (λ_ q=>q) λ_ _ q=>q
  rcases hc with z | z
  ·rw[z];exact nit b u e
  ·exact nit c _ z
theorem Inv.tok(I:Inv X pins σ H s)(t:Nat):Inv X pins σ H {s with toks:=t}:=I.un (h':=s.heap) (t':=t) Un.refl I.hok
theorem Inv.kept{t':Nat}(I:Inv X pins σ H s)(k:∀b u,s.heap.get? b=some u->h'.get? b=some u):Inv X pins σ H {s with heap:=h',toks:=t'}:=I.un (Un.kept k) (I.hok.kept k)
theorem Inv.laid{a:Addr}{o:HO}{t':Nat}(I:Inv X pins σ H s)(k:∀b u,s.heap.get? b=some u->h'.get? b=some u)(hp:s.heap.objs.size<=a)(new:bQ X.prog X.w (upd H a o) h' a o):
  Inv X pins σ (upd H a o) {s with heap:=h',toks:=t'}:=I.un (Un.laid k hp (I.hok.fresh hp)) (I.hok.laid k hp new)
theorem Inv.write{x e:Addr}{o:HO}{t':Nat}(I:Inv X pins σ H s)(mu:Mut (H x))(he:e=x\/H e=some (.own x))(k:∀b u,b≠e->s.heap.get? b=some u->h'.get? b=some u)(heo:∃u,h'.get? e=some u)
  (new:bQ X.prog X.w (upd H x o) h' x o):Inv X pins σ (upd H x o) {s with heap:=h',toks:=t'}:=I.un (Un.write mu he k heo) (I.hok.write mu he k heo new)
theorem Inv.weak{σ':List (Option V)}(I:Inv X pins σ H s)(hl:σ'.length=σ.length)(w:∀(i:Nat) v,σ'[i]? = some (some v)->σ[i]? = some (some v)):Inv X pins σ' H s:=
 ⟨I.ok,I.os,I.bare,I.base,let⟨m,hn,hl'⟩:=I.loc;⟨m,hn,λi x v e1 e2 e3=>hl' i x v e1 (w i v e2) e3⟩,I.cell,I.free,I.jl,I.pin,I.hok,hl.trans I.len⟩
theorem Inv.vO{uG:List (Addr×Obj)}(I:Inv X pins σ H s)(h:∀p∈uG,s.heap.get? p.1=some p.2/\H p.1=none/\p.1≠X.env.locals/\p.1∉X.fs/\∀v,p.2.data≠ .cell v):Inv X uG σ H s:=
 ⟨I.ok,I.os,I.bare,I.base,I.loc,I.cell,I.free,I.jl,λp hp=>(List.mem_append.mp hp).elim (λz=>I.pin p (List.mem_append_left _ z)) (h p),I.hok,I.len⟩
theorem Jw{N:List Str}(hN:N.Nodup){i j:Nat}{x:Str}(a:N[i]? = some x)(b:N[j]? = some x):i=j:=by
 obtain⟨h1,e1⟩:=List.getElem?_eq_some_iff.mp a
 obtain⟨h2,e2⟩:=List.getElem?_eq_some_iff.mp b
 exact(List.getElem_inj hN).mp (e1.trans e2.symm)
theorem W6{M:Model}{A:Around}{E:Value->Shared->Prop}{i:Nat}{x:Str}{v:V}{u:Value}{Q:Unit->Shared->Prop}(I:Inv X pins σ H s)(hN:X.N.Nodup)(hi:X.N[i]? = some x)(hx:Loc X.env.scope x)(r:RelV v u)
  (h:∀s',Inv X pins (σ.set i (some v)) H s'->(∃a,Heap.SameBut a s.heap s'.heap/\(a=X.env.locals\/X.env.cells.lookup x=some a))->Q () s') (hf:X.fn x=true\/X.env.scope.names.lookup x=some .local:=by first | exact .inl rfl | exact .inr rfl | assumption):wpAny M A (storeName X.env x u) Q E s:=by
 obtain⟨m,hn,hl⟩:=id I.loc
 have hcls:(X.env.scope.kind== .class||(X.env.scope.kind== .module&&X.env.locals != X.env.globals))=false:=by rw[I.ok.kind];rfl
 have ajf:i<σ.length:=by rw[I.len];exact(List.getElem?_eq_some_iff.mp hi).1
 have cne:=I.cne
 have tracked:∀{a:Addr} {h':Heap},(∃o,s.heap.get? a=some o/\H a=none)->Heap.SameBut a s.heap h'->rE X.prog X.w H h':=λ{a h'} ha hs b ob e=>by
  obtain⟨_,_,hfree⟩:=ha
  refine(I.hok b ob e).stay (λc w' hc q=>(hs.2 c ?_).trans q) (λ_ q=>q) λ_ _ q=>q
  rintro rfl
  rcases hc with rfl | hc
  ·rw[hfree]at e;cases e
  ·rw[hfree]at hc;cases hc
 rcases hx with hk | hk
 ·refine wpAny_storeName_local hk hn (λh' hn' hs=> ?_) hcls
  obtain⟨oL,_,_,hoL,_⟩:=id hn
  refine h _ ⟨I.ok,I.os,I.bare,⟨λb o e n hb hx=> ?_,λb o e n hb hx=> ?_,I.base.free,λb o e hx=> ?_,I.base.tups,I.base.qX,I.base.sY⟩,⟨_,hn',λj y v' e1 e2 e3=> ?_⟩,λy c e=> ?_,I.free,I.jl,λp hp=> ?_,tracked ⟨oL,hoL,I.free⟩ hs,by simpa using I.len⟩ ⟨_,hs,.inl rfl⟩
  ·exact(hs.2 b (xD (yA (zS e) I.ok.above))).trans (I.base.keep b o e n hb hx)
  ·obtain⟨sl,e1⟩:=I.base.slot b o e n hb hx
   exact⟨sl,(hs.2 b (xD (yA (zS e) I.ok.above))).trans e1⟩
  ·obtain⟨o',e1⟩:=I.base.there b o e hx
   exact⟨o',(hs.2 b (xD (yA (zS e) I.ok.above))).trans e1⟩
  ·by_cases hj:j=i
   ·subst hj
    rw[hi]at e1;cases e1
    rw[zan ajf]at e2
    cases e2
    exact⟨u,r,.inl ⟨hk,by simp⟩⟩
   ·rw[zam (Ne.symm hj)]at e2
    obtain⟨u',r',q⟩:=hl j y v' e1 e2 e3
    refine⟨u',r',?_⟩
    rcases q with⟨k,e⟩ | ⟨k,c,e,z⟩
    ·refine .inl ⟨k,?_⟩
     have:y≠x:=λe=>hj (Jw hN e1 (e▸hi))
     simp[this,e]
    ·exact .inr ⟨k,c,e,z.sameBut hs (cne y c e)⟩
  ·obtain⟨w',z⟩:=I.cell y c e
   exact⟨w',z.sameBut hs (cne y c e)⟩
  ·obtain⟨e,n,ne,nf,d⟩:=I.pin p hp
   exact⟨(hs.2 p.1 ne).trans e,n,ne,nf,d⟩
 ·have hfn:X.fn x=true:=by
   rcases hf with z | z
   ·exact z
   ·rw[z]at hk;cases hk
  obtain⟨c,hc⟩:=I.ok.has x (.inl hk)
  obtain⟨w',z⟩:=I.cell x c hc
  refine wpAny_storeName_cell I.ok.kind hk hc z (λh' hc' hs=> ?_)
  obtain⟨oc,hoc,alG⟩:=id z
  refine h {s with heap:=h'} ⟨I.ok,I.os,I.bare,⟨λb o e n hb hx=> ?_,λb o e n hb hx=> ?_,I.base.free,λb o e hx=> ?_,I.base.tups,I.base.qX,I.base.sY⟩,⟨m,hn.sameBut hs (Ne.symm (cne x c hc)),λj y v' e1 e2 e3=> ?_⟩,λy c' e=> ?_,I.free,I.jl,λp hp=> ?_,tracked ⟨oc,hoc,I.jl x c hc⟩ hs,by simpa using I.len⟩ ⟨c,hs,.inr hc⟩
  ·exact(hs.2 b (xD (yA (zS e) (I.ok.cab x c hfn hc)))).trans (I.base.keep b o e n hb hx)
  ·obtain⟨sl,e1⟩:=I.base.slot b o e n hb hx
   exact⟨sl,(hs.2 b (xD (yA (zS e) (I.ok.cab x c hfn hc)))).trans e1⟩
  ·obtain⟨o',e1⟩:=I.base.there b o e hx
   exact⟨o',(hs.2 b (xD (yA (zS e) (I.ok.cab x c hfn hc)))).trans e1⟩
  ·by_cases hj:j=i
   ·subst hj
    rw[hi]at e1;cases e1
    rw[zan ajf]at e2
    cases e2
    exact⟨u,r,.inr ⟨.inl hk,c,hc,hc'⟩⟩
   ·rw[zam (Ne.symm hj)]at e2
    obtain⟨u',r',q⟩:=hl j y v' e1 e2 e3
    refine⟨u',r',?_⟩
    rcases q with q | ⟨k,c',e,z'⟩
    ·exact .inl q
    ·refine .inr ⟨k,c',e,z'.sameBut hs ?_⟩
     rintro rfl
     exact hj (Jw hN e1 (I.ok.inj _ _ _ e hc▸hi))
  ·by_cases hcc:c'=c
   ·subst hcc;exact⟨_,hc'⟩
   ·obtain⟨w2,z2⟩:=I.cell y c' e
    exact⟨w2,z2.sameBut hs hcc⟩
  ·obtain⟨e,n,ne,nf,d⟩:=I.pin p hp
   refine⟨(hs.2 p.1 ?_).trans e,n,ne,nf,d⟩
   intro q
   rw[q,hoc]at e
   have q':oc=p.2:=xI e
   exact d w' (by rw[<-q'];exact alG)
theorem xN{M:Model}{A:Around}{E:Value->Shared->Prop}{i:Nat}{x:Str}{v:V}{u:Value}{Q:Unit->Shared->Prop}(I:Inv X pins σ H s)(hN:X.N.Nodup)(hi:X.N[i]? = some x)(hx:Loc X.env.scope x)(r:RelV v u)
  (h:∀s',Inv X pins (σ.set i (some v)) H s'->Q () s') (hf:X.fn x=true\/X.env.scope.names.lookup x=some .local:=by first | exact .inl rfl | exact .inr rfl | assumption):wpAny M A (storeName X.env x u) Q E s:=
 W6 I hN hi hx r (λs' I' _=>h s' I') hf
theorem Inv.call'{s':Shared}{ch:List Addr}(I:Inv X pins σ H s)(ho:s'.os=s.os)(u:Un (frs X.stack) ch H H' s.heap s'.heap)(hok:rE X.prog X.w H' s'.heap)(hg:AllBare s'.gens)
  (hch:∀b∈ch,(b∈X.ex\/X.s₀.heap.objs.size<=b)/\b≠X.env.locals/\(∀x c,X.env.cells.lookup x=some c->c≠b)/\∀p∈X.pn++pins,p.1≠b):Inv X pins σ H' s':=by
 obtain⟨h',g',d',t',o'⟩:=s'
 have e:o'=s.os:=ho
 subst e
 exact I.call (g':=g') (t':=t') (d':=d') u hok hg hch
end
abbrev XK:=Value->Option Addr->Hp->Prop
abbrev St:=List (Option V)
abbrev VK:=V->Hp->Prop
abbrev TE:=St->Hp->VK->Prop
abbrev TT:=St->Hp->(Bool->Hp->Prop)->Prop
abbrev TA:=St->Hp->(List V->Hp->Prop)->Prop
structure Ends where
 nx:St->Hp->Prop
 rt:VK
 bk:St->Hp->Prop:=λ_ _=>False
 ct:St->Hp->Prop:=λ_ _=>False
abbrev TS:=Ends->St->Hp->Prop
def EP(X:Cx)(pins:List (Addr×Obj))(σ:St)(Q:VK)(u:Value)(s':Shared):Prop:=∃v H',Inv X pins σ H' s'/\RelV v u/\Q v H'
def TP(X:Cx)(pins:List (Addr×Obj))(σ:St)(Q:Bool->Hp->Prop)(b:Bool)(s':Shared):Prop:=∃H',Inv X pins σ H' s'/\Q b H'
def AP(X:Cx)(pins:List (Addr×Obj))(σ:St)(Q:List V->Hp->Prop)(us:List Value)(s':Shared):Prop:=∃vs H',Inv X pins σ H' s'/\Vals vs us/\Q vs H'
def SP(X:Cx)(pins:List (Addr×Obj))(D:Ends)(f:Flow)(s':Shared):Prop:=
 match f with
 | .next=>∃σ' H',Inv X pins σ' H' s'/\D.nx σ' H'
 | .brk=>∃σ' H',Inv X pins σ' H' s'/\D.bk σ' H'
 | .cont=>∃σ' H',Inv X pins σ' H' s'/\D.ct σ' H'
 | .ret u=>∃v σ' H',Inv X pins σ' H' s'/\RelV v u/\D.rt v H'
def PE(X:Cx)(e:Expr)(t:TE):Prop:=
 ∀(pins:List (Addr×Obj)) (s:Shared) (σ:St) (H:Hp) (Q:VK),Inv X pins σ H s->t σ H Q->wpAny (model X.prog X.w) X.A (eval e X.env) (EP X pins σ Q) X.xe s
def PT(X:Cx)(e:Expr)(t:TT):Prop:=
 ∀(pins:List (Addr×Obj)) (s:Shared) (σ:St) (H:Hp) (Q:Bool->Hp->Prop),Inv X pins σ H s->t σ H Q->wpAny (model X.prog X.w) X.A (isTrue e X.env (eval e X.env)) (TP X pins σ Q) X.xe s
def PW(X:Cx)(e:Expr)(t:TT):Prop:=
 ∀(whole:Sem Value) (pins:List (Addr×Obj)) (s:Shared) (σ:St) (H:Hp) (Q:Bool->Hp->Prop),Inv X pins σ H s->t σ H Q->wpAny (model X.prog X.w) X.A (isTrue e X.env whole) (TP X pins σ Q) X.xe s
theorem PW.pt{X:Cx}{e:Expr}{t:TT}(h:PW X e t):PT X e t:=h _
def PA(X:Cx)(es:List Expr)(t:TA):Prop:=
 ∀(pos:Pos) (pins:List (Addr×Obj)) (s:Shared) (σ:St) (H:Hp) (Q:List V->Hp->Prop),Inv X pins σ H s->t σ H Q->wpAny (model X.prog X.w) X.A (spliced (backTo pos (starEach es X.env))) (AP X pins σ Q) X.xe s
def PS(X:Cx)(st:Stmt)(t:TS):Prop:=
 ∀(pins:List (Addr×Obj)) (s:Shared) (σ:St) (H:Hp) (D:Ends),Inv X pins σ H s->t D σ H->wpAny (model X.prog X.w) X.A (exec st X.env) (SP X pins D) X.xe s
def Gm(X:Cx)(st:List Stmt)(t:TS):Prop:=
 ∀(pins:List (Addr×Obj)) (s:Shared) (σ:St) (H:Hp) (D:Ends),Inv X pins σ H s->t D σ H->wpAny (model X.prog X.w) X.A (execs st X.env) (SP X pins D) X.xe s
theorem f9{α:Type}{t:Sem α}{Q Q':α->Shared->Prop}{M:Model}{A:Around}{E:Value->Shared->Prop}{s:Shared}(h:wpAny M A t Q E s)(hQ:∀a s,Q a s->Q' a s):wpAny M A t Q' E s:=vE h hQ λ_ _ x=>x
section
variable{X:Cx}
theorem bin{a b:Expr}{ta tb:TE}(ha:PE X a ta)(hb:PE X b tb){pins:List (Addr×Obj)}{s:Shared}{σ:St}{H:Hp}{R:V->V->Hp->Prop}(I:Inv X pins σ H s)(h:ta σ H λx H1=>tb σ H1 λy H2=>R x y H2)
  {α:Type} {Q:α->Shared->Prop} {f:Value->Value->Sem α}
  (hf:∀v u s2 x y H2,Inv X pins σ H2 s2->RelV x v->RelV y u->R x y H2->wpAny (model X.prog X.w) X.A (f v u) Q X.xe s2):
  wpAny (model X.prog X.w) X.A (eval a X.env) (λv s₁=>wpAny (model X.prog X.w) X.A (eval b X.env) (λu s₂=>wpAny (model X.prog X.w) X.A (f v u) Q X.xe s₂) X.xe s₁) X.xe s:=by
 refine f9 (ha pins s σ H _ I h) λv s1 ⟨x,H1,I1,r1,q1⟩=> ?_
 refine f9 (hb pins s1 σ H1 _ I1 q1) λu s2 ⟨y,H2,I2,r2,q2⟩=> ?_
 exact hf v u s2 x y H2 I2 r1 r2 q2
def acg(i:Nat):TE:=λσ H Q=>∃v,σ[i]? = some (some v)/\Q v H
def tC(v:V):TE:=λ_ H Q=>Q v H
theorem aad{i:Nat}{x:Str}{pos:Pos}(hN:X.N[i]? = some x)(hv:Vis X.env.scope x)(hd:(x==("__debug__" : Str))=false:=by decide)(hcd:(x==("__classdict__" : Str))=false:=by decide):PE X (.Name x pos) (acg i):=by
 intro pins s σ H Q I h
 obtain⟨v,e,h⟩:=h
 obtain⟨m,hn,hl⟩:=I.loc
 obtain⟨u,r,l⟩:=hl i x v hN e hv
 have fin:EP X pins σ Q u s:=⟨v,H,I,r,h⟩
 rcases l with⟨hk,hm⟩ | ⟨hk,c,hc,hcell⟩
 ·exact wpAny_Name (wpAny_loadName_local I.ok.kind hk hn hm fin) hd
 ·rcases hk with hk | hk
  ·exact wpAny_Name (wpAny_loadName_cell I.ok.kind hk hc hcell fin) hd
  ·exact wpAny_Name (wpAny_loadName_free I.ok.kind hk hc hcell fin hcd) hd
theorem afO{i j pos}:PE X (.Constant (.int i) j pos) (tC (.int i)):=λ_ _ _ H _ I h=>wpAny_Constant_int ⟨.int i,H,I.tok _,⟨_,rfl⟩,h⟩
theorem aiJ{b j pos}:PE X (.Constant (.bool b) j pos) (tC (.bl b)):=λ_ _ _ H _ I h=>Constant_bool ⟨.bl b,H,I,rfl,h⟩
theorem afM{j pos}:PE X (.Constant .none j pos) (tC .non):=λ_ _ _ H _ I h=>Constant_none ⟨.non,H,I,rfl,h⟩
theorem afJ{x j pos}:PE X (.Constant (.str x) j pos) (tC (.str x)):=λ_ _ _ H _ I h=>Calls.Constant_str ⟨.str x,H,I.tok _,⟨_,rfl⟩,h⟩
def Gl(X:Cx)(x:Str):Prop:=X.env.kindOf x=some .globalImplicit
theorem Dk{E:Value->Shared->Prop}{pins:List (Addr×Obj)}{s:Shared}{σ:St}{H:Hp}{x:Str}{u:Value}{pos:Pos}{Q:Value->Shared->Prop}(I:Inv X pins σ H s)(hg:Gl X x)(hm:X.mg x=some u)(h:Q u s)
  (hd:(x==("__debug__" : Str))=false:=by decide):wpAny (model X.prog X.w) X.A (eval (.Name x pos) X.env) Q E s:=
 Calls.Name_function_global I.ok.kind hg (Calls.loadGlobal_global (by rw[I.ok.glob];exact I.mod.glob.keeps I.bk) hm h) hd
theorem JL{E:Value->Shared->Prop}{pins:List (Addr×Obj)}{s:Shared}{σ:St}{H:Hp}{x:Str}{u:Value}{pos:Pos}{Q:Value->Shared->Prop}(I:Inv X pins σ H s)(hg:Gl X x)(hm:X.mg x=none)(hv:bootBuiltins x=some u)(h:Q u s)
  (hn:x≠ "__name__" := by decide) (hd:(x==("__debug__" : Str))=false:=by decide):wpAny (model X.prog X.w) X.A (eval (.Name x pos) X.env) Q E s:=by
 obtain⟨mb,h1,h2⟩:=I.mod.blt
 exact Calls.Name_function_global I.ok.kind hg (Calls.loadGlobal_builtin (by rw[I.ok.glob];exact I.mod.glob.keeps I.bk) hm (by rw[I.ok.blt];exact h1.keeps I.bk) ((h2 x hn).trans hv) h) hd
theorem Nu{x:Str}{v:V}{u:Value}{pos:Pos}(hg:Gl X x)(hm:X.mg x=some u)(r:RelV v u)(hd:(x==("__debug__" : Str))=false:=by decide):PE X (.Name x pos) (tC v):=
 λ_ _ _ H _ I h=>Dk I hg hm ⟨v,H,I,r,h⟩ hd
theorem ac4{x:Str}{v:V}{u:Value}{pos:Pos}(hg:Gl X x)(hm:X.mg x=none)(hv:bootBuiltins x=some u)(r:RelV v u)(hn:x≠ "__name__" := by decide)(hd:(x==("__debug__" : Str))=false:=by decide):PE X (.Name x pos) (tC v):=
 λ_ _ _ H _ I h=>JL I hg hm hv ⟨v,H,I,r,h⟩ hn hd
variable{a b:Expr}{ta tb:TE}{pos:Pos}
def PC(X:Cx)(op:CmpOp)(a b:Expr)(t:TE):Prop:=
 ∀(pins:List (Addr×Obj)) (s:Shared) (σ:St) (H:Hp) (Q:VK),Inv X pins σ H s->t σ H Q->
  wpAny (model X.prog X.w) X.A (eval a X.env) (λv s₁=>wpAny (model X.prog X.w) X.A (eval b X.env) (λu s₂=>wpAny (model X.prog X.w) X.A (compareOp op v u) (EP X pins σ Q) X.xe s₂) X.xe s₁) X.xe s
theorem aax(b:Expr){op:CmpOp}(h:op≠ .In)(h2:op≠ .NotIn):behindInMarks op b=false:=by
 have e1:(op==CmpOp.In)=false:=by cases op<;>first | rfl | exact absurd rfl h
 have e2:(op==CmpOp.NotIn)=false:=by cases op<;>first | rfl | exact absurd rfl h2
 cases b<;>simp[behindInMarks,e1,e2]
def tB(t:TE):TT:=λσ H Q=>t σ H λx H1=>∃c,x= .bl c/\Q c H1
theorem alm{op:CmpOp}{t:TE}(h:PC X op a b t)(h1:behindInMarks op b=false:=by first | exact aax _ (by decide) (by decide) | rfl):PT X (.Compare a [op] [b] pos) (tB t):=by
 intro pins s σ H Q I hw
 refine wpAny_isTrue_Compare1 (f9 (h pins s σ H _ I hw) λv s1 h1=>f9 h1 λu s2 h2=>f9 h2 λc s3 ⟨x,H1,I1,r1,q1⟩=> ?_) h1
 obtain⟨d,rfl,q⟩:=q1
 cases r1
 exact wpAny_truthy_bool ⟨H1,I1,q⟩
theorem afy{e:Expr}{t:TE}(h:PE X e t)(he:∀whole,isTrue e X.env whole=(do let v <-whole;standAt e.pos;holding [v] (truthy v)):=by intro _;rfl):PT X e (tB t):=by
 intro pins s σ H Q I hw
 refine isTrue_plain (f9 (h pins s σ H _ I hw) λv s1 ⟨x,H1,I1,r1,q1⟩=> ?_) (he _)
 obtain⟨d,rfl,q⟩:=q1
 cases r1
 exact wpAny_truthy_bool ⟨H1,I1,q⟩
variable{tA tB':TT}{rest:List Expr}
def ak4(t u:TT):TT:=λσ H Q=>t σ H λc H1=>if c=true then u σ H1 Q else Q false H1
def tOr(t u:TT):TT:=λσ H Q=>t σ H λc H1=>if c=true then Q true H1 else u σ H1 Q
def akX(t:TT):TT:=λσ H Q=>t σ H λc H1=>Q (!c) H1
theorem acK(ha:PT X a tA):PW X (.BoolOp .And [a] pos) tA:=by
 intro wh pins s σ H Q I h
 refine isTrue_and (f9 (ha pins s σ H Q I h) λc s1 e=> ?_)
 cases c with
 | true=>exact isTrue_and_nil e
 | false=>exact e
theorem afu(ha:PT X a tA):PW X (.BoolOp .Or [a] pos) tA:=by
 intro wh pins s σ H Q I h
 refine isTrue_or (f9 (ha pins s σ H Q I h) λc s1 e=> ?_)
 cases c with
 | false=>exact isTrue_or_nil e
 | true=>exact e
theorem afv(ha:PT X a tA)(hb:PW X (.BoolOp .And (b::rest) pos) tB'):PW X (.BoolOp .And (a::b::rest) pos) (ak4 tA tB'):=by
 intro wh pins s σ H Q I h
 refine isTrue_and (f9 (ha pins s σ H _ I h) λc s1 ⟨H1,I1,q1⟩=> ?_)
 cases c with
 | true=>exact hb wh pins s1 σ H1 Q I1 q1
 | false=>exact⟨H1,I1,q1⟩
theorem aiC(ha:PT X a tA)(hb:PW X (.BoolOp .Or (b::rest) pos) tB'):PW X (.BoolOp .Or (a::b::rest) pos) (tOr tA tB'):=by
 intro wh pins s σ H Q I h
 refine isTrue_or (f9 (ha pins s σ H _ I h) λc s1 ⟨H1,I1,q1⟩=> ?_)
 cases c with
 | true=>exact⟨H1,I1,q1⟩
 | false=>exact hb wh pins s1 σ H1 Q I1 q1
theorem afz(ha:PT X a tA):PT X (.UnaryOp .Not a pos) (akX tA):=by
 intro pins s σ H Q I h
 exact isTrue_not (ha pins s σ H (λc H1=>Q (!c) H1) I h)
def ah6(ta tb:TE):TE:=λσ H Q=>ta σ H λx H1=>∃c,x= .bl c/\if c=true then tb σ H1 Q else Q (.bl false) H1
def akW(ta tb:TE):TE:=λσ H Q=>ta σ H λx H1=>∃c,x= .bl c/\if c=true then Q (.bl true) H1 else tb σ H1 Q
def ah1(ta:TE):TE:=λσ H Q=>ta σ H λx H1=>∃c,x= .bl c/\Q (.bl (!c)) H1
theorem afK{op}{t:TE}(h:PE X a t):PE X (.BoolOp op [a] pos) t:=λpins s σ H Q I hw=>BoolOp_one (h pins s σ H Q I hw)
theorem afQ(ha:PE X a ta)(hb:PE X (.BoolOp .And (b::rest) pos) tb):PE X (.BoolOp .And (a::b::rest) pos) (ah6 ta tb):=by
 intro pins s σ H Q I h
 refine BoolOp_and (f9 (ha pins s σ H _ I h) λv s1 ⟨x,H1,I1,r1,q1⟩=> ?_)
 obtain⟨c,rfl,q1⟩:=q1
 cases r1
 refine wpAny_truthy_bool ?_
 cases c with
 | true=>exact hb pins s1 σ H1 Q I1 q1
 | false=>exact⟨.bl false,H1,I1,rfl,q1⟩
theorem aiF(ha:PE X a ta)(hb:PE X (.BoolOp .Or (b::rest) pos) tb):PE X (.BoolOp .Or (a::b::rest) pos) (akW ta tb):=by
 intro pins s σ H Q I h
 refine BoolOp_or (f9 (ha pins s σ H _ I h) λv s1 ⟨x,H1,I1,r1,q1⟩=> ?_)
 obtain⟨c,rfl,q1⟩:=q1
 cases r1
 refine wpAny_truthy_bool ?_
 cases c with
 | false=>exact hb pins s1 σ H1 Q I1 q1
 | true=>exact⟨.bl true,H1,I1,rfl,q1⟩
theorem afL(ha:PE X a ta):PE X (.UnaryOp .Not a pos) (ah1 ta):=by
 intro pins s σ H Q I h
 refine UnaryOp_ (f9 (ha pins s σ H _ I h) λv s1 ⟨x,H1,I1,r1,q1⟩=> ?_)
 obtain⟨c,rfl,q1⟩:=q1
 cases r1
 exact not_of (wpAny_truthy_bool ⟨.bl (!c),H1,I1,rfl,q1⟩)
def tIf(t:TT)(ta tb:TE):TE:=λσ H Q=>t σ H λc H1=>if c=true then ta σ H1 Q else tb σ H1 Q
theorem aah{c:Expr}(hc:PT X c tA)(ha:PE X a ta)(hb:PE X b tb):PE X (.IfExp c a b pos) (tIf tA ta tb):=by
 intro pins s σ H Q I h
 refine wpAny_IfExp (f9 (hc pins s σ H _ I h) λd s1 ⟨H1,I1,q1⟩=> ?_)
 cases d with
 | true=>exact ha pins s1 σ H1 Q I1 q1
 | false=>exact hb pins s1 σ H1 Q I1 q1
end
def pO(K:Frag)(H:Hp)(a:Addr)(xs:List V):Prop:=
 Rd H a (.lst xs)\/
  ∃(o:Obj) (its:Array Value) (n:Nat),K.lookup a=some o/\o.cls= .type "list" /\ o.dict=none/\o.data= .seq its n/\its.size<=sizeLine/\Vals xs its.toList
def o9(K:Frag)(H:Hp)(a:Addr)(xs:List V):Prop:=
 Rd H a (.tup xs)\/
  ∃(o:Obj) (its:Array Value) (n:Nat),K.lookup a=some o/\o.cls= .type "tuple" /\ o.data= .seq its n/\its.size<=sizeLine/\Vals xs its.toList
noncomputable def al5:Value->Option V
 | .none=>some .non
 | .bool b=>some (.bl b)
 | .int i _=>some (.int i)
 | .str x _=>some (.str x)
 | .bytes b _=>some (.byt b)
 | .float b _=>some (.flt b)
 | .ref a=>some (.ref a)
 | .type n=>some (.ty n)
 | _=>none
theorem RelV.abs{x:V}{u:Value}(r:RelV x u):al5 u=some x:=by
 cases x with
 | non=>cases r;rfl
 | bl _=>cases r;rfl
 | int _=>obtain⟨t,rfl⟩:=r;rfl
 | str _=>obtain⟨t,rfl⟩:=r;rfl
 | byt _=>obtain⟨t,rfl⟩:=r;rfl
 | flt _=>obtain⟨t,rfl⟩:=r;rfl
 | ref _=>cases r;rfl
 | ty _=>cases r;rfl
theorem RelV.inj{x y:V}{u:Value}(r:RelV x u)(q:RelV y u):x=y:=xI (r.abs.symm.trans q.abs)
theorem Vals.inj:∀{xs ys:List V} {us:List Value},Vals xs us->Vals ys us->xs=ys
 | _,_,_,.nil,.nil=>rfl
 | _,_,_,.cons r t,.cons r' t'=>by rw[r.inj r',Vals.inj t t']
section
variable{X:Cx}{pins:List (Addr×Obj)}{σ:St}{H:Hp}{s:Shared}{a:Addr}{xs ys:List V}
theorem pO.of{K:Frag}(h:H a=some (.lst xs)):pO K H a xs:= .inl (.inl h)
theorem o9.of{K:Frag}(h:H a=some (.tup xs)):o9 K H a xs:= .inl (.inl h)
theorem Inv.list(I:Inv X pins σ H s)(h:pO X.K H a xs):∃its:List Value,Vals xs its/\PlainL s.heap a its.toArray/\xs.length<=sizeLine:=by
 rcases h with h | ⟨o,its,n,hk,hc,hd,hs,hz,r⟩
 ·obtain⟨z,its,n,r,e⟩:=h.ok I.hok
  exact⟨its,r,⟨_,n,e,rfl,rfl,rfl⟩,z⟩
 ·refine⟨its.toList,r,⟨o,n,I.uW a o hk,hc,hd,by simpa using hs⟩,?_⟩
  have e:=r.length
  simp only[Array.length_toList]at e
  omega
theorem Inv.tuple(I:Inv X pins σ H s)(h:o9 X.K H a xs):∃its:List Value,Vals xs its/\IsTup s.heap a its.toArray/\xs.length<=sizeLine:=by
 rcases h with h | ⟨o,its,n,hk,hc,hs,hz,r⟩
 ·obtain⟨z,its,r,p⟩:=h.ok I.hok
  exact⟨its,r,p,z⟩
 ·refine⟨its.toList,r,⟨o,I.uW a o hk,hc,n,by simpa using hs⟩,?_⟩
  have e:=r.length
  simp only[Array.length_toList]at e
  omega
theorem Inv.JF(I:Inv X pins σ H s)(h:pO X.K H a xs)(h':pO X.K H a ys):xs=ys:=by
 obtain⟨its,r,⟨o,n,e,_,_,d⟩,_⟩:=I.list h
 obtain⟨its',r',⟨o',n',e',_,_,d'⟩,_⟩:=I.list h'
 rw[e]at e';cases e'
 rw[d]at d'
 injection d' with d1 _
 have:its=its':=by simpa using congrArg Array.toList d1
 subst this
 exact r.inj r'
theorem Inv.DR(I:Inv X pins σ H s)(h:o9 X.K H a xs)(h':o9 X.K H a ys):xs=ys:=by
 obtain⟨its,r,⟨o,e,_,n,d⟩,_⟩:=I.tuple h
 obtain⟨its',r',⟨o',e',_,n',d'⟩,_⟩:=I.tuple h'
 rw[e]at e';cases e'
 rw[d]at d'
 injection d' with d1 _
 have:its=its':=by simpa using congrArg Array.toList d1
 subst this
 exact r.inj r'
end
abbrev Cx.wish(X:Cx)(E:Value->Shared->Prop):Cx:={X with xe:=E}
abbrev Cx.nox(X:Cx):Cx:=X.wish λ_ _=>False
theorem Cx.Ok.wish{X:Cx}(ok:X.Ok)(E:Value->Shared->Prop):(X.wish E).Ok:=
 ⟨ok.mod,ok.kind,ok.glob,ok.blt,ok.above,ok.inj,ok.has,ok.cab,ok.hd,ok.frames,ok.stk,ok.exf,ok.bs,ok.Wx,ok.Q9,ok.RG,ok.yR,ok.frf⟩
theorem Cx.Ok.j_{X:Cx}{E:Value->Shared->Prop}(ok:(X.wish E).Ok):X.Ok:=
 ⟨ok.mod,ok.kind,ok.glob,ok.blt,ok.above,ok.inj,ok.has,ok.cab,ok.hd,ok.frames,ok.stk,ok.exf,ok.bs,ok.Wx,ok.Q9,ok.RG,ok.yR,ok.frf⟩
section
variable{X:Cx}{pins:List (Addr×Obj)}{σ:St}{H:Hp}{s:Shared}{E:Value->Shared->Prop}
theorem Inv.wish(I:Inv X pins σ H s)(E:Value->Shared->Prop):Inv (X.wish E) pins σ H s:=⟨I.ok.wish E,I.os,I.bare,I.base,I.loc,I.cell,I.free,I.jl,I.pin,I.hok,I.len⟩
theorem Inv.j_(I:Inv (X.wish E) pins σ H s):Inv X pins σ H s:=⟨I.ok.j_,I.os,I.bare,I.base,I.loc,I.cell,I.free,I.jl,I.pin,I.hok,I.len⟩
theorem SP.j_{D:Ends}{f:Flow}{s':Shared}(h:SP (X.wish E) pins D f s'):SP X pins D f s':=by
 cases f with
 | next=>obtain⟨σ',H',I,q⟩:=h;exact⟨σ',H',I.j_,q⟩
 | brk=>obtain⟨σ',H',I,q⟩:=h;exact⟨σ',H',I.j_,q⟩
 | cont=>obtain⟨σ',H',I,q⟩:=h;exact⟨σ',H',I.j_,q⟩
 | ret u=>obtain⟨v,σ',H',I,r,q⟩:=h;exact⟨v,σ',H',I.j_,r,q⟩
theorem PE.nox{e:Expr}{t:TE}(h:PE X.nox e t):PE X e t:=λpins s σ H Q I hw=>
 vE (h pins s σ H Q (I.wish _) hw) (λ_ _ ⟨v,H',I',r,q⟩=>⟨v,H',I'.j_,r,q⟩) λ_ _ z=>False.elim z
theorem PT.nox{e:Expr}{t:TT}(h:PT X.nox e t):PT X e t:=λpins s σ H Q I hw=>
 vE (h pins s σ H Q (I.wish _) hw) (λ_ _ ⟨H',I',q⟩=>⟨H',I'.j_,q⟩) λ_ _ z=>False.elim z
theorem Gm.nox{st:List Stmt}{t:TS}(h:Gm X.nox st t):Gm X st t:=λpins s σ H D I hw=>
 vE (h pins s σ H D (I.wish _) hw) (λ_ _ q=>q.j_) λ_ _ z=>False.elim z
end
section
variable{X:Cx}{st:Stmt}{rest:List Stmt}{t u:TS}{e:Expr}{te:TE}{pos:Pos}
def ael:TS:=λD σ H=>D.nx σ H
def akU(t u:TS):TS:=λD σ H=>t {D with nx:=u D} σ H
theorem acP:Gm X [] ael:=λ_ _ σ H _ I h=>wpAny_execs_nil ⟨σ,H,I,h⟩
theorem Z6(h1:PS X st t)(h2:Gm X rest u):Gm X (st::rest) (akU t u):=by
 intro pins s σ H D I h
 refine wpAny_execs_cons (f9 (h1 pins s σ H {D with nx:=u D} I h) λf s1 q=> ?_)
 cases f with
 | next=>
  obtain⟨σ',H',I',q⟩:=q
  exact h2 pins s1 σ' H' D I' q
 | ret v=>exact q
 | brk=>exact q
 | cont=>exact q
theorem VJ(h1:PS X st t):Gm X [st] t:=by
 intro pins s σ H D I h
 refine wpAny_execs_cons (f9 (h1 pins s σ H D I h) λf s1 q=> ?_)
 cases f with
 | next=>exact wpAny_execs_nil q
 | ret v=>exact q
 | brk=>exact q
 | cont=>exact q
theorem Inv.quiet{pins:List (Addr×Obj)}{σ:St}{H:Hp}{s:Shared}(I:Inv X pins σ H s):interactive X.env=false:=by simp[interactive,I.ok.kind]
def ah3(te:TE):TS:=λD σ H=>te σ H λ_ H1=>D.nx σ H1
theorem acT(he:PE X e te)(hs:swapsWith e none pos.line X.env=pure false:=by rfl):PS X (.Expr e pos) (ah3 te):=by
 intro pins s σ H D I h
 exact wpAny_Expr_any (f9 (he pins s σ H _ I h) λv s1 ⟨x,H1,I1,r1,q1⟩=>⟨σ,H1,I1,q1⟩) I.quiet hs
def akV(te:TE):TS:=λD σ H=>te σ H D.rt
theorem afB(he:PE X e te):PS X (.Return (some e) pos) (akV te):=by
 intro pins s σ H D I h
 exact wpAny_Return_some (f9 (he pins s σ H _ I h) λv s1 ⟨x,H1,I1,r1,q1⟩=>⟨x,σ,H1,I1,r1,q1⟩)
def ahY:TS:=λD _ H=>D.rt .non H
theorem acR:PS X (.Return none pos) ahY:=λ_ _ σ H _ I h=>wpAny_Return_none ⟨.non,σ,H,I,rfl,h⟩
def akZ(c:TT)(t u:TS):TS:=λD σ H=>c σ H λb H1=>if b=true then t D σ H1 else u D σ H1
theorem aiD{c:Expr}{a b:List Stmt}{tc:TT}(hc:PT X c tc)(ha:Gm X a t)(hb:Gm X b u):PS X (.If c a b pos) (akZ tc t u):=by
 intro pins s σ H D I h
 refine wpAny_If (f9 (hc pins s σ H _ I h) λd s1 ⟨H1,I1,q1⟩=> ?_)
 cases d with
 | true=>exact ha pins s1 σ H1 D I1 q1
 | false=>exact hb pins s1 σ H1 D I1 q1
end
abbrev TG:=V->St->Hp->(St->Hp->Prop)->Prop
abbrev TGs:=List V->St->Hp->(St->Hp->Prop)->Prop
def PG(X:Cx)(target:Expr)(t:TG):Prop:=
 ∀(pins:List (Addr×Obj)) (s:Shared) (σ:St) (H:Hp) (v:V) (u:Value) (Q:St->Hp->Prop),Inv X pins σ H s->RelV v u->t v σ H Q->
  wpAny (model X.prog X.w) X.A (assign target X.env u) (λ_ s'=>∃σ' H',Inv X pins σ' H' s'/\Q σ' H') X.xe s
def PGs(X:Cx)(ts:List Expr)(t:TGs):Prop:=
 ∀(pins:List (Addr×Obj)) (s:Shared) (σ:St) (H:Hp) (vs:List V) (us:List Value) (Q:St->Hp->Prop),Inv X pins σ H s->Vals vs us->t vs σ H Q->
  wpAny (model X.prog X.w) X.A (assignInOrder ((assignEach ts X.env).map (·.2)) us) (λ_ s'=>∃σ' H',Inv X pins σ' H' s'/\Q σ' H') X.xe s
section
variable{X:Cx}{pos:Pos}
def aeL(i:Nat):TG:=λv σ H Q=>Q (σ.set i (some v)) H
theorem ac0{i:Nat}{x:Str}(hN:X.N.Nodup)(hi:X.N[i]? = some x)(hx:Loc X.env.scope x)(hf:X.fn x=true\/X.env.scope.names.lookup x=some .local:=by first | exact .inl rfl | exact .inr rfl | assumption):PG X (.Name x pos) (aeL i):=by
 intro pins s σ H v u Q I r h
 exact wpAny_assign_Name (xN I hN hi hx r (λs' I'=>⟨_,H,I',h⟩) hf)
def alS:TGs:=λvs σ H Q=>vs=[]/\Q σ H
def ajn(t:TG)(u:TGs):TGs:=λvs σ H Q=>∃v r,vs=v::r/\t v σ H λσ' H'=>u r σ' H' Q
theorem acZ:PGs X [] alS:=by
 intro pins s σ H vs us Q I r h
 obtain⟨e,h⟩:=h
 subst e
 cases r
 exact assignInOrder_nil ⟨σ,H,I,h⟩
theorem aac{e:Expr}{es:List Expr}{t:TG}{u:TGs}(h1:PG X e t)(h2:PGs X es u)
  (hs:(assignEach (e::es) X.env).map (·.2)=assign e X.env::(assignEach es X.env).map (·.2):=by rfl):PGs X (e::es) (ajn t u):=by
 intro pins s σ H vs us Q I r h
 obtain⟨v,vr,e1,h⟩:=h
 subst e1
 cases r with
 | cons r rr=>
  rw[hs]
  refine assignInOrder_cons (f9 (h1 pins s σ H _ _ _ I r h) λ_ s1 ⟨σ1,H1,I1,q1⟩=> ?_)
  exact h2 pins s1 σ1 H1 _ _ Q I1 rr q1
def alR(K:Frag)(n:Nat)(t:TGs):TG:=λv σ H Q=>∃a xs,v= .ref a/\o9 K H a xs/\xs.length=n/\t xs σ H Q
theorem afG{es:List Expr}{k:Nat}{t:TGs}{n:Nat}(hc:X.calm=true)(h:PGs X es t)
  (hn:(assignEach es X.env).length=n:=by rfl) (hst:(assignEach es X.env).findIdx? (·.1)=none:=by rfl):PG X (.Tuple es k pos) (alR X.K n t):=by
 intro pins s σ H v u Q I r hw
 obtain⟨a,xs,e1,hq,hl,hw⟩:=hw
 subst e1
 cases r
 obtain⟨its,rv,ht,hz⟩:=I.tuple hq
 refine assign_Tuple_tuple (I.ok.hd hc) ht (by simp[hn,<-hl,rv.length]) hst λh' hx=> ?_
 have I1:Inv X pins σ H {s with heap:=h'}:=I.kept (t':=s.toks) λb o e=>hx b o (xD (zS e)) e
 exact h pins _ σ H xs _ Q I1 (by simpa using rv) hw
def ae2(te:TE)(g:TG):TS:=λD σ H=>te σ H λx H1=>g x σ H1 D.nx
theorem afE{tg e:Expr}{te:TE}{g:TG}(he:PE X e te)(hg:PG X tg g)(hs:swapsWithSole [tg] e pos.line X.env=pure false:=by rfl)(hw:swappedStores [tg] e X.env=pure none:=by rfl)
  (h1:(assignEach [tg] X.env).map (·.2)=[assign tg X.env]:=by rfl):PS X (.Assign [tg] e pos) (ae2 te g):=by
 intro pins s σ H D I h
 refine wpAny_Assign_stores (f9 (he pins s σ H _ I h) λv s1 ⟨x,H1,I1,r1,q1⟩=> ?_) hs hw
 rw[h1]
 exact f9 (hg pins s1 σ H1 x v _ I1 r1 q1) λ_ s2 q=>q
theorem afA{i:Nat}{x:Str}{e:Expr}{te:TE}{pos':Pos}(hN:X.N.Nodup)(hi:X.N[i]? = some x)(hx:Loc X.env.scope x)(he:PE X e te)(hs:swapsWith e (some (.Name x pos')) pos.line X.env=pure false:=by rfl)(hf:X.fn x=true\/X.env.scope.names.lookup x=some .local:=by first | exact .inl rfl | exact .inr rfl | assumption):
  PS X (.Assign [.Name x pos'] e pos) (ae2 te (aeL i)):=by
 intro pins s σ H D I h
 refine wpAny_Assign_Name (f9 (he pins s σ H _ I h) λv s1 ⟨y,H1,I1,r1,q1⟩=> ?_) hs
 exact xN I1 hN hi hx r1 (λs2 I2=>⟨_,H1,I2,q1⟩) hf
end
section
variable{X:Cx}{pos:Pos}
def aeX(c:TT)(tb:TS):TS:=λD σ H=>∃W:Nat->St->Hp->Prop,(∃m,W m σ H)/\∀m σ H,W m σ H->
 c σ H λb H1=>if b=true then ∃N:St->Hp->Prop,(∀σ' H',N σ' H'->∃m',m'<m/\W m' σ' H')/\tb {D with nx:=N,ct:=N,bk:=D.nx} σ H1 else D.nx σ H1
theorem Z7{c:Expr}{body:List Stmt}{tc:TT}{tb:TS}(hp:PassesOwn (model X.prog X.w) X.A X.env X.xe)(hc:PT X c tc)(hb:Gm X body tb):PS X (.While c body [] pos) (aeX tc tb):=by
 intro pins s σ H D I h
 obtain⟨W,⟨m0,w0⟩,turn⟩:=h
 refine wpAny_While (codeAny_whileLoop (λn s'=>∃σ' H',Inv X pins σ' H' s'/\W n σ' H') ?_ m0 ⟨σ,H,I,w0⟩)
 rintro n s1 ⟨σ1,H1,I1,w1⟩
 refine wpAny_passesOwn hp (f9 (hc pins s1 σ1 H1 _ I1 (turn n σ1 H1 w1)) λb s2 ⟨H2,I2,q2⟩=> ?_)
 cases b with
 | true=>
  obtain⟨N,hN,q2⟩:=q2
  rw[if_pos rfl]
  refine wpAny_passesOwn hp (f9 (hb pins s2 σ1 H2 _ I2 q2) λf s3 q3=> ?_)
  cases f with
  | next=>
   obtain⟨σ3,H3,I3,n3⟩:=q3
   obtain⟨m',hm,w3⟩:=hN σ3 H3 n3
   exact⟨m',hm,σ3,H3,I3,w3⟩
  | cont=>
   obtain⟨σ3,H3,I3,n3⟩:=q3
   obtain⟨m',hm,w3⟩:=hN σ3 H3 n3
   exact⟨m',hm,σ3,H3,I3,w3⟩
  | brk=>exact q3
  | ret v=>exact q3
 | false=>
  rw[if_neg xA]
  exact wpAny_execs_nil ⟨σ1,H2,I2,q2⟩
end
structure It where
 go:Nat->Hp->Prop
 YF:Nat->Hp->V->Hp->Prop
 stop:Nat->Hp->Prop
def Ah(X:Cx)(pins:List (Addr×Obj))(H:Hp)(b:Addr):Prop:=
 H b=none/\b≠X.env.locals/\b∉X.fs/\(b∈X.ex\/X.s₀.heap.objs.size<=b)/\(∀x c,X.env.cells.lookup x=some c->c≠b)/\∀p∈X.pn++pins,p.1≠b
theorem Inv.UG{X:Cx}{pins:List (Addr×Obj)}{σ:St}{H H':Hp}{s:Shared}{b:Addr}(I:Inv X pins σ H s)(hb:s.heap.objs.size<=b)(hn:H' b=none):Ah X pins H' b:=by
 refine⟨hn,xS (yA I.lt hb),I.alo hb,.inr (yY I.sz hb),λx c e z=> ?_,λp hp z=> ?_⟩
 ·obtain⟨v,q⟩:=I.cell x c e
  exact absurd (yA q.lt (by rw[z];exact hb)) (wS _)
 ·exact absurd (yA (zS (I.pin p hp).1) (by rw[z];exact hb)) (wS _)
structure Turn(P:Program)(w:World)(K:Frag)(tg:Expr)(J:It)(fp:List Addr)(it:Addr)(tn:Nat->Heap->Prop):Prop where
 mem:it∈fp
 obj:∀i h,tn i h->∀b∈fp,∃o,h.get? b=some o/\∀v,o.data≠ .cell v
 keep:∀i h h',tn i h->(∀b∈fp,∀o,h.get? b=some o->h'.get? b=some o)->tn i h'
 item:∀(X:Cx),X.prog=P->X.w=w->X.K=K->X.calm=true->∀(i:Nat) (pins:List (Addr×Obj)) (s:Shared) (σ:St) (H:Hp) (E:Value->Shared->Prop),Inv X pins σ H s->(∀b∈fp,Ah X pins H b)->tn i s.heap->J.go i H->
  wpAny (model P w) X.A (pyNext (.ref it)) (λr s1=>∃u,r=some u/\
   wpAny (model P w) X.A (letOwnedTupleGo tg (.ref it) u) (λ_ s2=>∃x H',Inv X pins σ H' s2/\RelV x u/\J.YF i H x H'/\tn (i+1) s2.heap/\∀b∈fp,H' b=none) E s1) E s
 done:∀(X:Cx),X.prog=P->X.w=w->X.K=K->X.calm=true->∀(i:Nat) (pins:List (Addr×Obj)) (s:Shared) (σ:St) (H:Hp) (E:Value->Shared->Prop),Inv X pins σ H s->(∀b∈fp,Ah X pins H b)->tn i s.heap->J.stop i H->
  wpAny (model P w) X.A (pyNext (.ref it)) (λr s1=>r=none/\Inv X pins σ H s1) E s
 self:∀(A:Around) (i:Nat) (s:Shared) (Q:Value->Shared->Prop) (E:Value->Shared->Prop),tn i s.heap->Q (.ref it) s->wpAny (model P w) A (pyIter (.ref it)) Q E s
abbrev TI:=St->Hp->(It->Hp->Prop)->Prop
def PIE(X:Cx)(pins:List (Addr×Obj))(σ:St)(tg:Expr)(R:It->Hp->Prop)(itv:Value)(s2:Shared):Prop:=
 ∃(it:Addr) (fp:List Addr) (tn:Nat->Heap->Prop) (J:It) (H':Hp),itv= .ref it/\Inv X pins σ H' s2/\Turn X.prog X.w X.K tg J fp it tn/\tn 0 s2.heap/\(∀b∈fp,Ah X pins H' b)/\R J H'
def PI(X:Cx)(tg iter:Expr)(wi:TI):Prop:=
 ∀(pins:List (Addr×Obj)) (s:Shared) (σ:St) (H:Hp) (R:It->Hp->Prop),Inv X pins σ H s->wi σ H R->
  wpAny (model X.prog X.w) X.A (eval iter X.env) (λv s1=>wpAny (model X.prog X.w) X.A (pyIter v) (PIE X pins σ tg R) X.xe s1) X.xe s
theorem Wj{M:Model}{A:Around}{E:Value->Shared->Prop}{s:Shared}{tg:Expr}{it:Addr}{u:Value}{o:Obj}{n:String}{vs:Array Value}{Q:Unit->Shared->Prop}(ho:s.heap.get? it=some o)(hc:o.cls= .type n)(hd:o.data= .fields vs)
  (hn:["enumerate","zip","dict_itemiterator","dict_reverseitemiterator","odict_iterator","itertools.zip_longest","itertools.pairwise"].contains n=false) (hQ:Q () s):wpAny M A (letOwnedTupleGo tg (.ref it) u) Q E s:=by
 unfold letOwnedTupleGo
 cases tg<;>first
  | exact zI hQ
  | (cases u<;>first
    | exact zI hQ
    | (refine zC (wpAny_load ho ?_)
       rw[hc,hd]
       show wpAny M A (if(["enumerate","zip","dict_itemiterator","dict_reverseitemiterator","odict_iterator","itertools.zip_longest","itertools.pairwise"].contains n&&vs[0]? == some (rawInt _))=true then _ else _) Q E s
       rw[if_neg (by intro h;rw[hn,Bool.false_and]at h;cases h)]
       exact zI hQ))
def Itl(K:Frag)(a:Addr):It:=
 ⟨λi H=>∃xs x,pO K H a xs/\xs[i]? = some x,λi H x H'=>H'=H/\∀xs,pO K H a xs->xs[i]? = some x,λi H=>∃xs,pO K H a xs/\xs.length<=i⟩
def Itt(K:Frag)(a:Addr):It:=
 ⟨λi H=>∃xs x,o9 K H a xs/\xs[i]? = some x,λi H x H'=>H'=H/\∀xs,o9 K H a xs->xs[i]? = some x,λi H=>∃xs,o9 K H a xs/\xs.length<=i⟩
def Itr(lo:Int)(n:Nat):It:=⟨λi _=>i<n,λi H x H'=>H'=H/\x= .int (lo+i),λi _=>n<=i⟩
theorem W2{P:Program}{w:World}{K:Frag}{tg:Expr}(a it:Addr):Turn P w K tg (Itl K a) [it] it (λi h=>h.IsListIter it a i) where
 mem:=by simp
 obj:=λi h st b hb=>by
  have e:b=it:=by simpa using hb
  subst e
  obtain⟨o,e,c,d⟩:=st
  exact⟨o,e,λv z=>by rw[d]at z;cases z⟩
 keep:=λi h h' st k=>st.at λo e=>k it (by simp) o e
 item:=by
  intro X hP hw hK hc i pins s σ H E I hf st hg
  subst hP hw hK
  obtain⟨xs,x,hq,hx⟩:=hg
  obtain⟨its,rv,p,hz⟩:=I.list hq
  obtain⟨u,hu,ru⟩:=rv.get hx
  obtain⟨f0,f1,f2,f3,f4,f5⟩:=hf it (by simp)
  refine wpAny_pyNext_list_item st p.isList (x:=u) (by simpa using hu) λh' st' sb=> ?_
  have I1:Inv X pins σ H {s with heap:=h'}:=I.turned (t':=s.toks) (λb o hb e=>(sb.2 b hb).trans e) f0 f1 f3 f4 f5
  obtain⟨o,e,c,d⟩:=id st'
  exact⟨u,rfl,Wj (s:={s with heap:=h'}) e c d (by decide) ⟨x,H,I1,ru,⟨rfl,λys hy=>by rw[I.JF hy hq];exact hx⟩,st',λb hb=>(hf b hb).1⟩⟩
 done:=by
  intro X hP hw hK hc i pins s σ H E I hf st hg
  subst hP hw hK
  obtain⟨xs,hq,hx⟩:=hg
  obtain⟨its,rv,p,hz⟩:=I.list hq
  obtain⟨f0,f1,f2,f3,f4,f5⟩:=hf it (by simp)
  have hl:=rv.length
  exact wpAny_pyNext_list_end (I.ok.hd hc) st p.isList (by simp;omega) λh' eb=>⟨rfl,I.turned (t':=s.toks) (λb o hb e=>eb b o hb e) f0 f1 f3 f4 f5⟩
 self:=λ_ _ _ _ _ st h=>wpAny_pyIter_listiter st h
theorem Tj{P:Program}{w:World}{K:Frag}{tg:Expr}(a it:Addr):Turn P w K tg (Itt K a) [it] it (λi h=>h.IsTupleIter it a i) where
 mem:=by simp
 obj:=λi h st b hb=>by
  have e:b=it:=by simpa using hb
  subst e
  obtain⟨o,e,c,d⟩:=st
  exact⟨o,e,λv z=>by rw[d]at z;cases z⟩
 keep:=λi h h' st k=>st.at λo e=>k it (by simp) o e
 item:=by
  intro X hP hw hK hc i pins s σ H E I hf st hg
  subst hP hw hK
  obtain⟨xs,x,hq,hx⟩:=hg
  obtain⟨its,rv,p,hz⟩:=I.tuple hq
  obtain⟨u,hu,ru⟩:=rv.get hx
  obtain⟨f0,f1,f2,f3,f4,f5⟩:=hf it (by simp)
  refine wpAny_pyNext_tuple_item st (show s.heap.IsTuple a its.toArray from p) (x:=u) (by simpa using hu) λh' st' sb=> ?_
  have I1:Inv X pins σ H {s with heap:=h'}:=I.turned (t':=s.toks) (λb o hb e=>(sb.2 b hb).trans e) f0 f1 f3 f4 f5
  obtain⟨o,e,c,d⟩:=id st'
  exact⟨u,rfl,Wj (s:={s with heap:=h'}) e c d (by decide) ⟨x,H,I1,ru,⟨rfl,λys hy=>by rw[I.DR hy hq];exact hx⟩,st',λb hb=>(hf b hb).1⟩⟩
 done:=by
  intro X hP hw hK hc i pins s σ H E I hf st hg
  subst hP hw hK
  obtain⟨xs,hq,hx⟩:=hg
  obtain⟨its,rv,p,hz⟩:=I.tuple hq
  obtain⟨f0,f1,f2,f3,f4,f5⟩:=hf it (by simp)
  have hl:=rv.length
  exact wpAny_pyNext_tuple_end (I.ok.hd hc) st (show s.heap.IsTuple a its.toArray from p) (by simp;omega) λh' eb=>⟨rfl,I.turned (t':=s.toks) (λb o hb e=>eb b o hb e) f0 f1 f3 f4 f5⟩
 self:=λ_ _ _ _ _ st h=>wpAny_pyIter_tupleiter st h
theorem Tn{P:Program}{w:World}{K:Frag}{tg:Expr}(it:Addr)(lo:Int)(n:Nat):Turn P w K tg (Itr lo n) [it] it (λi h=>IsRangeIter h it (lo+(i:Nat)*1) ((n:Int) - (i:Nat)) 1) where
 mem:=by simp
 obj:=λi h st b hb=>by
  have e:b=it:=by simpa using hb
  subst e
  exact⟨_,st,λv z=>by
   have z':Data.fields _=Data.cell v:=z
   cases z'⟩
 keep:=λi h h' st k=>k it (by simp) _ st
 item:=by
  intro X hP hw hK hc i pins s σ H E I hf st hg
  subst hP hw hK
  obtain⟨f0,f1,f2,f3,f4,f5⟩:=hf it (by simp)
  have W:=Walks.range (prog:=X.prog) (w:=X.w) (I.ok.hd hc) it lo 1 n
  refine W.item i s _ _ hg st λv h' tk hv st' kk=> ?_
  obtain⟨t,rfl⟩:=hv
  have I1:Inv X pins σ H {s with heap:=h',toks:=tk}:=I.turned (λb o hb e=>kk b o (by simpa using hb) e) f0 f1 f3 f4 f5
  refine⟨_,rfl,Wj (s:={s with heap:=h',toks:=tk}) (n:= "range_iterator") st' rfl rfl (by decide) ⟨.int (lo+i),H,I1,⟨t,?_⟩,⟨rfl,rfl⟩,st',λb hb=>(hf b hb).1⟩⟩
  rw[Int.mul_one]
 done:=by
  intro X hP hw hK hc i pins s σ H E I hf st hg
  subst hP hw hK
  obtain⟨f0,f1,f2,f3,f4,f5⟩:=hf it (by simp)
  exact wpAny_pyNext_range_end (I.ok.hd hc) st (by have:n<=i:=hg;omega) λh' eb=>⟨rfl,I.turned (t':=s.toks) (λb o hb e=>eb b o hb e) f0 f1 f3 f4 f5⟩
 self:=λ_ _ _ _ _ st h=>wpAny_pyIter_rangeiter st h
section
variable{X:Cx}{tg:Expr}
theorem Z0{pins:List (Addr×Obj)}{σ:St}{H:Hp}{s:Shared}{R:It->Hp->Prop}{E:Value->Shared->Prop}{lo hi:Int}{t u v:Tok}{tk:Nat}(I:Inv X pins σ H s)(h1: -(2 ^ 62)<=lo)(h2:lo<2 ^ 62)(h3: -(2 ^ 62)<=hi)(h4:hi<2 ^ 62)
  (q:R (Itr lo (hi - lo).toNat) H):wpAny (model X.prog X.w) X.A (pyIter (.ref s.heap.objs.size)) (PIE X pins σ tg R) E {s with heap:=s.heap.push {cls:= .type "range",data:= .fields #[.int lo t,.int hi u,.int 1 v]},toks:=tk}:=by
 refine wpAny_pyIter_range (IsRange.new ..) (small_one h1 h2 h3 h4) ?_
 have I1:Inv X pins σ H {s with heap:=s.heap.push {cls:= .type "range",data:= .fields #[.int lo t,.int hi u,.int 1 v]},toks:=tk}:=I.kept λb o e=>zD _ e
 refine⟨(s.heap.push {cls:= .type "range",data:= .fields #[.int lo t,.int hi u,.int 1 v]}).objs.size,[(s.heap.push {cls:= .type "range",data:= .fields #[.int lo t,.int hi u,.int 1 v]}).objs.size],_,_,H,rfl,
  I1.kept (t':=tk) λb o e=>zD _ e,Tn _ lo (hi - lo).toNat,?_,λb hb=> ?_,q⟩
 ·have e1:lo+((0:Nat):Int)*1=lo:=by simp
  have e2:(((hi - lo).toNat:Nat):Int) - ((0:Nat):Int)=Builtin.Range.rangeSize lo hi 1:=by rw[rangeSize_one];split<;>omega
  show IsRangeIter _ _ (lo+((0:Nat):Int)*1) ((((hi - lo).toNat:Nat):Int) - ((0:Nat):Int)) 1
  rw[e1,e2]
  exact yB _ rfl
 ·have e:b=(s.heap.push {cls:= .type "range",data:= .fields #[.int lo t,.int hi u,.int 1 v]}).objs.size:=by simpa using hb
  subst e
  exact I1.UG (zad _) (I1.hok.fresh (zad _))
def ajc(ta:TA):TI:=λσ H R=>ta σ H λvs H1=>∃j:Int,vs=[.int j]/\ -(2 ^ 62)<=j/\j<2 ^ 62/\R (Itr 0 j.toNat) H1
theorem Xk{a:Expr}{ta:TA}{p pos:Pos}(hg:Gl X "range")(hm:X.mg "range" = none)(ha:PA X [a] ta)(hs:starEach [a] X.env=[(false,eval a X.env)]:=by rfl):PI X tg (.Call (.Name "range" p) [a] [] pos) (ajc ta):=by
 intro pins s σ H R I h
 refine Call_ (JL I hg hm boot_range (PyProof.Rows.callWith_type1 (f9 (ha pos pins s σ H _ I h) λus s1 ⟨vs,H1,I1,r1,q1⟩=> ?_) hs rfl))
 obtain⟨j,e,q1,q2,q⟩:=q1
 subst e
 cases r1 with
 | cons r rr=>
  cases rr
  obtain⟨t,rfl⟩:=r
  exact call_range_1 (Z0 I1 (by omega) (by omega) q1 q2 (by simpa using q))
def ak0(wi:TI)(g:TG)(tb:TS):TS:=λD σ H=>wi σ H λJ H1=>∃W:Nat->Nat->St->Hp->Prop,(∃m,W 0 m σ H1)/\∀i m σ H,W i m σ H->
 (J.stop i H/\D.nx σ H)\/(J.go i H/\∃N:St->Hp->Prop,(∀σ' H',N σ' H'->∃m',m'<m/\W (i+1) m' σ' H')/\∀x H',J.YF i H x H'->g x σ H' λσ2 H2=>tb {D with nx:=N,ct:=N,bk:=D.nx} σ2 H2)
def Jo(fp:List Addr)(h:Heap):List (Addr×Obj):=fp.filterMap λb=>(h.get? b).map λo=>(b,o)
theorem vY{fp:List Addr}{h:Heap}{b:Addr}{o:Obj}(hb:b∈fp)(e:h.get? b=some o):(b,o)∈Jo fp h:=List.mem_filterMap.mpr ⟨b,hb,by rw[e];rfl⟩
theorem Xu{fp:List Addr}{h:Heap}{p:Addr×Obj}(hp:p∈Jo fp h):p.1∈fp/\h.get? p.1=some p.2:=by
 obtain⟨b,hb,e⟩:=List.mem_filterMap.mp hp
 cases q:h.get? b with
 | none=>rw[q]at e;cases e
 | some o=>
  rw[q]at e
  have e':(b,o)=p:=xI e
  subst e'
  exact⟨hb,q⟩
theorem Inv.pinned{pins:List (Addr×Obj)}{σ:St}{H:Hp}{s:Shared}{fp:List Addr}(I:Inv X pins σ H s)(hf:∀b∈fp,Ah X pins H b)(ho:∀b∈fp,∃o,s.heap.get? b=some o/\∀v,o.data≠ .cell v):Inv X (pins++Jo fp s.heap) σ H s:=
 I.vO λp hp=>(List.mem_append.mp hp).elim (λz=>I.pin p (xE _ z)) λz=>by
  obtain⟨hb,e⟩:=Xu z
  obtain⟨f0,f1,f2,_⟩:=hf p.1 hb
  obtain⟨o,e',d⟩:=ho p.1 hb
  rw[e]at e';cases e'
  exact⟨e,f0,f1,f2,d⟩
theorem Inv.CJ{pins pl:List (Addr×Obj)}{σ:St}{H:Hp}{s:Shared}(I:Inv X (pins++pl) σ H s):Inv X pins σ H s:=I.vO λp hp=>I.pin p (xE _ (List.mem_append_left _ hp))
theorem afC{iter:Expr}{body:List Stmt}{wi:TI}{g:TG}{tb:TS}{pos:Pos}(hp:PassesOwn (model X.prog X.w) X.A X.env X.xe)(hc:X.calm=true)(hi:PI X tg iter wi)(hg:PG X tg g)(hb:Gm X body tb)
  (hs:∀x,foldedSetIterable iter X.env x=pure x:=by intro _;rfl):PS X (.For tg iter body [] pos) (ak0 wi g tb):=by
 intro pins s σ H D I h
 refine wpAny_For (f9 (hi pins s σ H _ I h) λv s1 h1=>f9 h1 λitv s2 h2=> ?_) hs
 obtain⟨it,fp,tn,J,H2,e,I2,T,st2,f2,W,⟨m0,w0⟩,turn⟩:=h2
 subst e
 have stat:∀{H':Hp},(∀b∈fp,H' b=none)->∀b∈fp,Ah X pins H' b:=λhn b hb=>⟨hn b hb,(f2 b hb).2⟩
 refine codeAny_forLoop_any (λn s'=>∃i σ' H',Inv X pins σ' H' s'/\tn i s'.heap/\(∀b∈fp,H' b=none)/\W i n σ' H') ?_ m0 ⟨0,σ,H2,I2,st2,λb hb=>(f2 b hb).1,w0⟩
 rintro n s3 ⟨i,σ3,H3,I3,st3,fr3,w3⟩
 rcases turn i n σ3 H3 w3 with⟨stop,qn⟩ | ⟨go,N,hN,step⟩
 ·refine wpAny_passesOwn hp (f9 (T.done X rfl rfl rfl hc i pins s3 σ3 H3 X.xe I3 (stat fr3) st3 stop) λr s4 ⟨hr,I4⟩=> ?_)
  subst hr
  exact wpAny_execs_nil ⟨σ3,H3,I4,qn⟩
 ·refine wpAny_passesOwn hp (f9 (T.item X rfl rfl rfl hc i pins s3 σ3 H3 X.xe I3 (stat fr3) st3 go) λr s4 ⟨u,hr,h4⟩=> ?_)
  subst hr
  refine wpAny_passesOwn hp (f9 h4 λ_ s5 ⟨x,H5,I5,r5,y5,st5,fr5⟩=> ?_)
  have I5':=I5.pinned (stat fr5) (T.obj _ _ st5)
  refine wpAny_passesOwn hp (f9 (hg _ s5 σ3 H5 x u _ I5' r5 (step x H5 y5)) λ_ s6 ⟨σ6,H6,I6,q6⟩=> ?_)
  refine wpAny_passesOwn hp (f9 (hb _ s6 σ6 H6 _ I6 q6) λf s7 q7=> ?_)
  have again:∀{Yw:St} {H7:Hp},Inv X (pins++Jo fp s5.heap) Yw H7 s7->N Yw H7->∃m,m<n/\∃i σ' H',Inv X pins σ' H' s7/\tn i s7.heap/\(∀b∈fp,H' b=none)/\W i m σ' H':=λ{Yw H7} I7 n7=>by
   obtain⟨m',hm,w7⟩:=hN Yw H7 n7
   refine⟨m',hm,i+1,Yw,H7,I7.CJ,T.keep _ _ _ st5 λb hb o e=>(I7.pin (b,o) (xE _ (xE _ (vY hb e)))).1,λb hb=> ?_,w7⟩
   obtain⟨o,e,d⟩:=T.obj _ _ st5 b hb
   exact(I7.pin (b,o) (xE _ (xE _ (vY hb e)))).2.1
  cases f with
  | next=>obtain⟨Yw,H7,I7,n7⟩:=q7;exact again I7 n7
  | cont=>obtain⟨Yw,H7,I7,n7⟩:=q7;exact again I7 n7
  | brk=>obtain⟨Yw,H7,I7,q7⟩:=q7;exact⟨Yw,H7,I7.CJ,q7⟩
  | ret v=>obtain⟨x7,Yw,H7,I7,r7,q7⟩:=q7;exact⟨x7,Yw,H7,I7.CJ,r7,q7⟩
end
abbrev R2:=V->V->Hp->VK->Prop
def uv(X:Cx)(f:Value->Value->Sem Value)(r:R2):Prop:=
 ∀(pins:List (Addr×Obj)) (s:Shared) (σ:St) (H:Hp) (x y:V) (v u:Value) (Q:VK),Inv X pins σ H s->RelV x v->RelV y u->r x y H Q->
  wpAny (model X.prog X.w) X.A (f v u) (EP X pins σ Q) X.xe s
def UnR(X:Cx)(f:Value->Sem Value)(r:V->Hp->VK->Prop):Prop:=
 ∀(pins:List (Addr×Obj)) (s:Shared) (σ:St) (H:Hp) (x:V) (v:Value) (Q:VK),Inv X pins σ H s->RelV x v->r x H Q->
  wpAny (model X.prog X.w) X.A (f v) (EP X pins σ Q) X.xe s
def j4(X:Cx)(f:Value)(r:List V->Hp->VK->Prop):Prop:=
 ∀(pins:List (Addr×Obj)) (s:Shared) (σ:St) (H:Hp) (xs:List V) (us:List Value) (Q:VK),Inv X pins σ H s->Vals xs us->r xs H Q->
  wpAny (model X.prog X.w) X.A (call f us) (EP X pins σ Q) X.xe s
def tOp(r:R2)(ta tb:TE):TE:=λσ H Q=>ta σ H λx H1=>tb σ H1 λy H2=>r x y H2 Q
def tUn(r:V->Hp->VK->Prop)(ta:TE):TE:=λσ H Q=>ta σ H λx H1=>r x H1 Q
def rI(C:Int->Int->Prop)(g:Int->Int->V):R2:=λx y H Q=>∃i j,x= .int i/\y= .int j/\C i j/\Q (g i j) H
def Yt(g:Int->Int->V):R2:=λx y H Q=>∃i j,x= .int i/\y= .int j/\Q (g i j) H
def rU(g:Int->V):V->Hp->VK->Prop:=λx H Q=>∃i,x= .int i/\Q (g i) H
section
variable{X:Cx}{a b c:Expr}{ta tb tc:TE}{pos:Pos}
theorem ag3(ha:PE X a ta)(hb:PE X b tb){pins:List (Addr×Obj)}{s:Shared}{σ:St}{H:Hp}{R:V->V->Hp->Prop}(I:Inv X pins σ H s)
  (h:ta σ H λx H1=>tb σ H1 λy H2=>R x y H2) {Q:Value->Shared->Prop} {f:Value->Value->Sem Value}
  (hf:∀v u s2 x y H2,Inv X pins σ H2 s2->RelV x v->RelV y u->R x y H2->wpAny (model X.prog X.w) X.A (f v u) Q X.xe s2):
  wpAny (model X.prog X.w) X.A (eval a X.env) (λv s₁=>wpAny (model X.prog X.w) X.A (eval b X.env) (λu s₂=>wpAny (model X.prog X.w) X.A (f v u) Q X.xe s₂) X.xe s₁) X.xe s:=by
 refine f9 (ha pins s σ H _ I h) λv s1 ⟨x,H1,I1,r1,q1⟩=> ?_
 refine f9 (hb pins s1 σ H1 _ I1 q1) λu s2 ⟨y,H2,I2,r2,q2⟩=> ?_
 exact hf v u s2 x y H2 I2 r1 r2 q2
theorem aiG{op:Operator}{r:R2}(ho:uv X (binaryOp op) r)(ha:PE X a ta)(hb:PE X b tb):PE X (.BinOp a op b pos) (tOp r ta tb):=by
 intro pins s σ H Q I h
 exact wpAny_BinOp (ag3 ha hb I h λv u s2 x y H2 I2 rx ry q=>ho pins s2 σ H2 x y v u Q I2 rx ry q)
theorem aiE{op:UnaryOp}{r:V->Hp->VK->Prop}(ho:UnR X (unaryOp op) r)(ha:PE X a ta):PE X (.UnaryOp op a pos) (tUn r ta):=by
 intro pins s σ H Q I h
 exact UnaryOp_ (f9 (ha pins s σ H _ I h) λv s1 ⟨x,H1,I1,r1,q1⟩=>ho pins s1 σ H1 x v Q I1 r1 q1)
theorem opI{f:Value->Value->Sem Value}{C:Int->Int->Prop}{g:Int->Int->Int}
  (rule:∀(i j:Int) (t u:Tok) (s:Shared) (Q:Value->Shared->Prop) (E:Value->Shared->Prop),C i j->Q (.int (g i j) s.toks) {s with toks:=s.toks+1}->wpAny (model X.prog X.w) X.A (f (.int i t) (.int j u)) Q E s):
  uv X f (rI C λi j=> .int (g i j)):=by
 intro pins s σ H x y v u Q I rx ry h
 obtain⟨i,j,rfl,rfl,hc,q⟩:=h
 obtain⟨t,rfl⟩:=rx
 obtain⟨t',rfl⟩:=ry
 exact rule i j t t' s _ _ hc ⟨.int (g i j),H,I.tok _,⟨_,rfl⟩,q⟩
theorem ac_{f:Value->Value->Sem Value}{g:Int->Int->Int}
  (rule:∀(i j:Int) (t u:Tok) (s:Shared) (Q:Value->Shared->Prop) (E:Value->Shared->Prop),Q (.int (g i j) s.toks) {s with toks:=s.toks+1}->wpAny (model X.prog X.w) X.A (f (.int i t) (.int j u)) Q E s):
  uv X f (Yt λi j=> .int (g i j)):=by
 intro pins s σ H x y v u Q I rx ry h
 obtain⟨i,j,rfl,rfl,q⟩:=h
 obtain⟨t,rfl⟩:=rx
 obtain⟨t',rfl⟩:=ry
 exact rule i j t t' s _ _ ⟨.int (g i j),H,I.tok _,⟨_,rfl⟩,q⟩
theorem ada{f:Value->Value->Sem Value}{g:Int->Int->Bool}
  (rule:∀(i j:Int) (t u:Tok) (s:Shared) (Q:Value->Shared->Prop) (E:Value->Shared->Prop),Q (.bool (g i j)) s->wpAny (model X.prog X.w) X.A (f (.int i t) (.int j u)) Q E s):
  uv X f (Yt λi j=> .bl (g i j)):=by
 intro pins s σ H x y v u Q I rx ry h
 obtain⟨i,j,rfl,rfl,q⟩:=h
 obtain⟨t,rfl⟩:=rx
 obtain⟨t',rfl⟩:=ry
 exact rule i j t t' s _ _ ⟨.bl (g i j),H,I,rfl,q⟩
def amc(i j:Int):Prop:=0<j/\j<1073741824
def ajQ(i j:Int):Prop:=0<=j/\j<=1000000/\i.natAbs<2 ^ 64
def ahg(i j:Int):Prop:=(-(2 ^ 64)<i/\i<2 ^ 64)\/(-(2 ^ 64)<j/\j<2 ^ 64)
theorem ahg.ok{i j:Int}(h:ahg i j):IntMulOk i j:=by
 rcases h with⟨h1,h2⟩ | ⟨h1,h2⟩
 ·exact .of_left (intBits_le_64 h1 h2)
 ·exact .of_right (intBits_le_64 h1 h2)
theorem Ti(k:Nat):(0:Int)<=2 ^ k:=by
 rw[two_pow_cast]
 exact Int.natCast_nonneg _
theorem af8:uv X (binaryOp .Add) (Yt λi j=> .int (i+j)):=ac_ λ_ _ _ _ _ _ _ q=>add_int q
theorem afU:uv X (binaryOp .Sub) (Yt λi j=> .int (i - j)):=ac_ λ_ _ _ _ _ _ _ q=>sub_int q
theorem afZ:uv X (binaryOp .Mult) (rI ahg λi j=> .int (i*j)):=opI λ_ _ _ _ _ _ _ hc q=>mul_int q hc.ok
theorem ac8:uv X (binaryOp .FloorDiv) (rI amc λi j=> .int (i / j)):=opI λi j _ _ _ _ _ hc q=>by
 have h1:(0:Int)<j:=hc.1
 have h2:j<1073741824:=hc.2
 exact floordiv_int (by omega) (by rw[Int.fdiv_eq_ediv_of_nonneg i (by omega)];exact q) (.inl (PyProof.noPylong_small (by omega)))
theorem af0:uv X (binaryOp .Mod) (rI (λ_ j=>0<j) λi j=> .int (i % j)):=opI λi j _ _ _ _ _ hc q=>by
 have h1:(0:Int)<j:=hc
 exact mod_int' (by omega) (by rw[Int.fmod_eq_emod_of_nonneg i (by omega)];exact q)
theorem afX:uv X (binaryOp .Pow) (rI ajQ λi j=> .int (i ^ j.toNat)):=opI λ_ _ _ _ _ _ _ hc q=>pow_int_small hc.1 hc.2.1 hc.2.2 q
theorem afW:uv X (binaryOp .LShift) (rI ajQ λi j=> .int (i*2 ^ j.toNat)):=opI λ_ _ _ _ _ _ _ hc q=>lshift_int_small hc.1 hc.2.1 hc.2.2 q
theorem afV:uv X (binaryOp .RShift) (rI (λ_ j=>0<=j) λi j=> .int (i / 2 ^ j.toNat)):=opI λi j _ _ _ _ _ hc q=>
 rshift_int hc (by rw[Int.fdiv_eq_ediv_of_nonneg i (Ti _)];exact q)
theorem af7:uv X (binaryOp .BitAnd) (Yt λi j=> .int (Builtin.bitAnd i j)):=ac_ λ_ _ _ _ _ _ _ q=>and_int q
theorem aiK:uv X (binaryOp .BitOr) (Yt λi j=> .int (Builtin.bitOr i j)):=ac_ λ_ _ _ _ _ _ _ q=>or_int q
theorem unI{f:Value->Sem Value}{g:Int->Int}
  (rule:∀(i:Int) (t:Tok) (s:Shared) (Q:Value->Shared->Prop) (E:Value->Shared->Prop),Q (.int (g i) s.toks) {s with toks:=s.toks+1}->wpAny (model X.prog X.w) X.A (f (.int i t)) Q E s):
  UnR X f (rU λi=> .int (g i)):=by
 intro pins s σ H x v Q I rx h
 obtain⟨i,rfl,q⟩:=h
 obtain⟨t,rfl⟩:=rx
 exact rule i t s _ _ ⟨.int (g i),H,I.tok _,⟨_,rfl⟩,q⟩
theorem aeU:UnR X (unaryOp .USub) (rU λi=> .int (-i)):=unI λ_ _ _ _ _ q=>neg_int q
end
section
variable{X:Cx}{a b c:Expr}{ta tb tc:TE}{pos:Pos}
theorem O6{pins:List (Addr×Obj)}{σ:St}{H:Hp}{s:Shared}{Q:VK}{k k':Bool}(I:Inv X pins σ H s)(q:Q (.bl k) H)(e:k=k'):EP X pins σ Q (.bool k') s:=by
 subst e
 exact⟨.bl k,H,I,rfl,q⟩
theorem aiL:uv X (compareOp .Lt) (Yt λi j=> .bl (decide (i<j))):=ada λ_ _ _ _ _ _ _ q=>lt_int q
theorem aiM:uv X (compareOp .LtE) (Yt λi j=> .bl (decide (i<=j))):=ada λ_ _ _ _ _ _ _ q=>le_int q
theorem aiN:uv X (compareOp .Gt) (Yt λi j=> .bl (decide (j<i))):=ada λ_ _ _ _ _ _ _ q=>gt_int q
theorem aiO:uv X (compareOp .GtE) (Yt λi j=> .bl (decide (j<=i))):=ada λ_ _ _ _ _ _ _ q=>ge_int q
theorem Xo:uv X (compareOp .Lt) (λx y H Q=>∃i j,x= .str i/\y= .str j/\Q (.bl (decide (i.cps.toList<j.cps.toList))) H):=by
 intro pins s σ H x y v u Q I rx ry h
 obtain⟨i,j,rfl,rfl,q⟩:=h
 obtain⟨t,rfl⟩:=rx
 obtain⟨t',rfl⟩:=ry
 exact lt_str (O6 I q rfl)
theorem af3:uv X (compareOp .Is) (λx y H Q=>y= .non/\Q (.bl (decide (x= .non))) H):=by
 intro pins s σ H x y v u Q I rx ry h
 obtain⟨rfl,q⟩:=h
 cases ry
 refine is_none_gen (O6 I q ?_)
 cases x<;>first
  | (cases rx;rfl)
  | (obtain⟨t,rfl⟩:=rx;rfl)
theorem ac7:uv X (compareOp .IsNot) (λx y H Q=>y= .non/\Q (.bl (!decide (x= .non))) H):=by
 intro pins s σ H x y v u Q I rx ry h
 obtain⟨rfl,q⟩:=h
 cases ry
 refine isnot_none_gen (O6 I q ?_)
 cases x<;>first
  | (cases rx;rfl)
  | (obtain⟨t,rfl⟩:=rx;rfl)
theorem uv.or{f:Value->Value->Sem Value}{r r':R2}(h:uv X f r)(h':uv X f r'):uv X f (λx y H Q=>r x y H Q\/r' x y H Q):=by
 intro pins s σ H x y v u Q I rx ry q
 rcases q with q | q
 ·exact h pins s σ H x y v u Q I rx ry q
 ·exact h' pins s σ H x y v u Q I rx ry q
theorem aN(b:Expr){op:CmpOp}(h:op≠ .In:=by decide)(h2:op≠ .NotIn:=by decide):behindInMarks op b=false:=by
 have e1:(op==CmpOp.In)=false:=by cases op<;>first | rfl | exact absurd rfl h
 have e2:(op==CmpOp.NotIn)=false:=by cases op<;>first | rfl | exact absurd rfl h2
 cases b<;>simp[behindInMarks,e1,e2]
theorem ac3{op:CmpOp}{r:R2}(ho:uv X (compareOp op) r)(ha:PE X a ta)(hb:PE X b tb)(hm:behindInMarks op b=false):PE X (.Compare a [op] [b] pos) (tOp r ta tb):=by
 intro pins s σ H Q I h
 exact wpAny_Compare1 (ag3 ha hb I h λv u s2 x y H2 I2 rx ry q=>ho pins s2 σ H2 x y v u Q I2 rx ry q) hm
def aek(t:TE):TT:=λσ H Q=>t σ H λx H'=>∃k,x= .bl k/\Q k H'
theorem acO{op:CmpOp}{r:R2}(ho:uv X (compareOp op) r)(ha:PE X a ta)(hb:PE X b tb)(hm:behindInMarks op b=false):PT X (.Compare a [op] [b] pos) (aek (tOp r ta tb)):=by
 intro pins s σ H Q I h
 refine wpAny_isTrue_Compare1 (f9 (ha pins s σ H _ I h) λv s1 ⟨x,H1,I1,r1,q1⟩=>f9 (hb pins s1 σ H1 _ I1 q1) λu s2 ⟨y,H2,I2,r2,q2⟩=>
  f9 (ho pins s2 σ H2 x y v u _ I2 r1 r2 q2) λc s3 ⟨z,H3,I3,r3,k,e,q3⟩=> ?_) hm
 subst e
 cases r3
 exact wpAny_truthy_bool ⟨H3,I3,q3⟩
theorem JG:(sizeLine:Nat)<2 ^ 63:=by rw[sizeLine_eq];decide
theorem Uc:uv X (binaryOp .Add) (λx y H Q=>∃i j,x= .str i/\y= .str j/\i.length+j.length<=sizeLine/\Q (.str (i++j)) H):=by
 intro pins s σ H x y v u Q I rx ry h
 obtain⟨i,j,rfl,rfl,hz,q⟩:=h
 obtain⟨t,rfl⟩:=rx
 obtain⟨t',rfl⟩:=ry
 exact add_str (λt' tk=>⟨.str (i++j),H,I.tok _,⟨_,rfl⟩,q⟩) hz
theorem vals1{x:V}{us:List Value}(r:Vals [x] us):∃u,us=[u]/\RelV x u:=by
 cases r with
 | cons r1 r2=>cases r2;exact⟨_,rfl,r1⟩
theorem vals2{x y:V}{us:List Value}(r:Vals [x,y] us):∃u w',us=[u,w']/\RelV x u/\RelV y w':=by
 cases r with
 | cons r1 r2=>
  cases r2 with
  | cons r3 r4=>cases r4;exact⟨_,_,rfl,r1,r3⟩
theorem Yb(hc:X.calm=true):j4 X (.builtin "max") (λxs H Q=>∃i j,xs=[.int i,.int j]/\Q (.int (if j > i then j else i)) H):=by
 intro pins s σ H xs us Q I r h
 obtain⟨i,j,rfl,q⟩:=h
 obtain⟨u,w',rfl,⟨t,rfl⟩,⟨t',rfl⟩⟩:=vals2 r
 refine max_two_ints (I.ok.hd hc) λh' tk k=>⟨_,H,I.kept k,?_,q⟩
 by_cases hj:j > i
 ·rw[if_pos hj,if_pos hj];exact⟨_,rfl⟩
 ·rw[if_neg hj,if_neg hj];exact⟨_,rfl⟩
theorem X_(hc:X.calm=true):j4 X (.builtin "min") (λxs H Q=>∃i j,xs=[.int i,.int j]/\Q (.int (if j<i then j else i)) H):=by
 intro pins s σ H xs us Q I r h
 obtain⟨i,j,rfl,q⟩:=h
 obtain⟨u,w',rfl,⟨t,rfl⟩,⟨t',rfl⟩⟩:=vals2 r
 refine min_two_ints (I.ok.hd hc) λh' tk k=>⟨_,H,I.kept k,?_,q⟩
 by_cases hj:j<i
 ·rw[if_pos hj,if_pos hj];exact⟨_,rfl⟩
 ·rw[if_neg hj,if_neg hj];exact⟨_,rfl⟩
theorem Mh:j4 X (.type "int") (λxs H Q=>(∃i,xs=[.int i]/\Q (.int i) H)\/∃k,xs=[.bl k]/\Q (.int (if k then 1 else 0)) H):=by
 intro pins s σ H xs us Q I r h
 rcases h with⟨i,rfl,q⟩ | ⟨k,rfl,q⟩
 ·obtain⟨u,rfl,t,rfl⟩:=vals1 r
  exact call_int_int ⟨.int i,H,I,⟨_,rfl⟩,q⟩
 ·obtain⟨u,rfl,r1⟩:=vals1 r
  cases r1
  exact call_int_bool ⟨.int (if k then 1 else 0),H,I.tok _,⟨_,rfl⟩,q⟩
end
structure Va(h:Heap)(x dx C:Addr)(mA:Str->Option Value):Prop where
 obj:h.get? x=some (PySem.W.instObj C dx)
 ns:h.Ns1 dx mA
 ne:dx≠x
theorem Ly{h:Heap}{dx:Addr}{mA:Str->Option Value}(n:h.Ns1 dx mA):∃od,h.get? dx=some od/\∀name,PySem.W.lookIn name od=some (mA name):=by
 obtain⟨o,es,ep,ho,hd,hk,_,hm⟩:=n
 refine⟨o,ho,λname=> ?_⟩
 have e:=hm name
 unfold nsFind findBy at e
 rw[<-Array.find?_toList]at e
 unfold PySem.W.lookIn
 rw[hd]
 dsimp only
 split
 ·rename_i y q
  rw[q]at e
  exact congrArg some e
 ·rename_i q
  rw[q]at e
  have a:es.toList.any (·.refKey)=false:=by
   rw[List.any_eq_false]
   intro y hy
   obtain⟨z,t,hkey⟩:=hk y (Array.mem_toList_iff.mp hy)
   simp[DictEntry.refKey,hkey]
  have a':¬es.toList.any (·.refKey)=true:=by rw[a];exact xA
  rw[if_neg a']
  exact congrArg some e
theorem Va.look{h:Heap}{x dx C:Addr}{mA:Str->Option Value}(I:Va h x dx C mA):∃od,PySem.W.InstAt h x (PySem.W.instObj C dx) C (some od)/\∀name,PySem.W.lookIn name od=some (mA name):=
 let⟨od,ho,hl⟩:=Ly I.ns
 ⟨od,⟨I.obj,rfl,rfl,ho⟩,hl⟩
section
variable{prog:Program}{w:World}{A:Around}{E:Value->Shared->Prop}{s:Shared}{K:Frag}{x dx C f:Addr}{mA:Str->Option Value}{name:Str}{v:Value}
theorem get_map{expr:Bool}{Q:Value->Shared->Prop}(X:K.In s.heap)(I:Va s.heap x dx C mA)(hg:PySem.W.plainGet K C name=true)(hh:PySem.W.hasDictIn K C=true)
  (ha:findIn K (.ref C) name=some none) (hv:mA name=some v) (hv':PySem.W.handedIn v=true) (h:Q v {s with toks:=s.toks+1}):
  wpAny (model prog w) A (getAttr (.ref x) name expr) Q E s:=by
 obtain⟨od,J,hl⟩:=I.look
 exact PySem.W.get_value X J (PySem.W.plainGet_of hg).1 (PySem.W.findObj_own hh ha rfl (by rw[hl,hv])) hv' h
theorem aba{pl:Sem Bool}{Q:Value×List Value->Shared->Prop}(X:K.In s.heap)(I:Va s.heap x dx C mA)(hg:PySem.W.plainGet K C name=true)
  (hf:findIn K (.ref C) name=some (some (.ref f))) (ht:isFn K (.ref f)=true) (hv:mA name=none) (h:Q (.ref f,[.ref x]) s):
  wpAny (model prog w) A (getMethod (.ref x) name pl) Q E s:=by
 obtain⟨od,J,hl⟩:=I.look
 exact PySem.W.method_fn X J (PySem.W.plainGet_of hg).1 (PySem.W.plainGet_of hg).2 hf (beq_iff_eq.mp ht) (by show(PySem.W.lookIn name od).map (·.isSome)=some false;rw[hl,hv];rfl) h
theorem acr{ns:List Str}{Q:Unit->Shared->Prop}(X:K.In s.heap)(I:Va s.heap x dx C mA)
  (hs:findIn K (.ref C) "__setattr__" = some (some (.builtin "object.__setattr__"))) (hp:PySem.W.plainOver K C=true) (ht:PySem.W.takerIn K C name=some none) (hh:PySem.W.hasDictIn K C=true)
  (hw:PySem.Within mA ns) (hsz:ns.length<=sizeLine)
  (h:∀h',Va h' x dx C (λy=>if y=name then some v else mA y)->Heap.SameBut dx s.heap h'->Q () {s with heap:=h',toks:=s.toks+2}):
  wpAny (model prog w) A (setAttr (.ref x) name v) Q E s:=by
 obtain⟨od,J,hl⟩:=I.look
 refine PySem.W.set_plain X J hs (PySem.W.osa_open (s:={s with toks:=s.toks+1}) (r:=none) X J hp ht λb=> ?_)
 obtain⟨cd,hc,hd'⟩:=PySem.W.any_some hh
 have hx:s.heap.get? x=some ⟨.ref C,some dx,.plain,#[]⟩:=I.obj
 refine zC (zI (zC (zC (wpAny_loadPart hx (zC (PySem.W.Looks.here (s:={s with toks:=s.toks+1}) (PySem.W.looks_clsIn X hc) ?_))))))
 rw[hd']
 refine zI (a:=some dx) (zC (zI (zC ?_)))
 refine wpAny_nsSet1 (s:={s with toks:=s.toks+1}) I.ns λh' hn2 hs2=> ?_
 obtain⟨oD,esD,epD,hoD,hdD,hcD⟩:=hn2.count (PySem.Within.cons name v hw)
 refine zC (wpAny_lookBehind hoD (by rw[hdD];exact pastItsLine_dict (yY hcD (by rw[List.length_cons];omega))) ?_)
 exact zI (h _ ⟨(hs2.2 _ (Ne.symm I.ne)).trans I.obj,hn2,I.ne⟩ hs2)
theorem aaE{R:Result->Shared->Prop}{vs:List Value}{kw:List (Str×Value)}(X:K.In s.heap)(hm:PySem.W.makesIn K C=true)
  (hi:findIn K (.ref C) "__init__" = some (some (.ref f))) (hf:PySem.W.typeIn K (.ref f)=some (.type "function"))
  (h:codeAny (model prog w) (A.under (.builtin "type.__call__" ⟨.ref C::vs,kw⟩)) (.call (.ref f) ⟨.ref (s.heap.objs.size+1)::vs,kw⟩) (PySem.W.InitBack (s.heap.objs.size+1) R)
   {s with heap:=(s.heap.push PySem.W.emptyDict).push (PySem.W.instObj C s.heap.objs.size)}):
  codeAny (model prog w) A (.call (.ref C) ⟨vs,kw⟩) R s:=by
 obtain⟨hh,g,d,t,os⟩:=s
 exact PySem.W.make_core (PySem.W.makes_of X hm) (PySem.W.looks_findIn X hi) (λself=>PySem.W.bind_fn X self hf) (.inl rfl) h
end
noncomputable def tL(f:Str)(v:V):List (Str×V)->List (Str×V)
 | []=>[(f,v)]
 | (g,x)::r=>if g=f then(g,v)::r else(g,x)::tL f v r
theorem Ga(f g:Str)(v:V):∀fs:List (Str×V),(tL f v fs).lookup g=if g=f then some v else fs.lookup g
 | []=>by
  show List.lookup g [(f,v)]=_
  by_cases h:g=f
  ·have hb:(g==f)=true:=beq_iff_eq.mpr h
   simp only[List.lookup,hb,if_pos h]
  ·have hb:(g==f)=false:=beq_eq_false_iff_ne.mpr h
   simp only[List.lookup,hb,if_neg h]
 | (k,x)::r=>by
  have ih:=Ga f g v r
  rw[show tL f v ((k,x)::r)=(if k=f then(k,v)::r else(k,x)::tL f v r)from rfl]
  by_cases hk:k=f
  ·rw[if_pos hk]
   by_cases h:g=k
   ·have hb:(g==k)=true:=beq_iff_eq.mpr h
    simp only[List.lookup,hb,if_pos (h.trans hk)]
   ·have hb:(g==k)=false:=beq_eq_false_iff_ne.mpr h
    simp only[List.lookup,hb,if_neg (λe:g=f=>h (e.trans hk.symm))]
  ·rw[if_neg hk]
   by_cases h:g=k
   ·have hb:(g==k)=true:=beq_iff_eq.mpr h
    simp only[List.lookup,hb,if_neg (λe:g=f=>hk (h.symm.trans e))]
   ·have hb:(g==k)=false:=beq_eq_false_iff_ne.mpr h
    simp only[List.lookup,hb]
    exact ih
theorem Eu(f:Str)(v:V):∀fs:List (Str×V),f∈(tL f v fs).map (·.1)/\∀g,g∈fs.map (·.1)->g∈(tL f v fs).map (·.1)
 | []=>⟨by simp[tL],λg h=>by simp at h⟩
 | (k,x)::r=>by
  obtain⟨i1,i2⟩:=Eu f v r
  rw[show tL f v ((k,x)::r)=(if k=f then(k,v)::r else(k,x)::tL f v r)from rfl]
  by_cases hk:k=f
  ·rw[if_pos hk]
   subst hk
   exact⟨by simp,λg h=>by simpa using h⟩
  ·rw[if_neg hk]
   refine⟨?_,λg h=> ?_⟩
   ·rw[List.map_cons]
    exact yT _ i1
   ·rw[List.map_cons]at h ⊢
    rcases List.mem_cons.mp h with e | e
    ·exact List.mem_cons.mpr (.inl e)
    ·exact yT _ (i2 g e)
theorem Gd(f:Str)(v:V):∀fs:List (Str×V),(tL f v fs).length<=fs.length+1
 | []=>by simp[tL]
 | (k,x)::r=>by
  have ih:=Gd f v r
  rw[show tL f v ((k,x)::r)=(if k=f then(k,v)::r else(k,x)::tL f v r)from rfl]
  by_cases hk:k=f
  ·rw[if_pos hk,List.length_cons,List.length_cons];omega
  ·rw[if_neg hk,List.length_cons,List.length_cons];omega
theorem wZ.some_of{v:V}{o:Option Value}(r:wZ (some v) o):∃u,o=some u/\RelV v u:=by
 cases o with
 | none=>exact(show False from r).elim
 | some u=>exact⟨u,rfl,r⟩
theorem wZ.none_of{o:Option Value}(r:wZ none o):o=none:=by
 cases o with
 | none=>rfl
 | some u=>exact(show False from r).elim
theorem LQ{v:V}{u:Value}(r:RelV v u):PySem.W.handedIn u=true:=by
 cases v with
 | non=>cases(show u=Value.none from r);rfl
 | bl b=>cases(show u=Value.bool b from r);rfl
 | int i=>obtain⟨t,e⟩:=(show ∃t,u=Value.int i t from r);cases e;rfl
 | str x=>obtain⟨t,e⟩:=(show ∃t,u=Value.str x t from r);cases e;rfl
 | byt b=>obtain⟨t,e⟩:=(show ∃t,u=Value.bytes b t from r);cases e;rfl
 | flt b=>obtain⟨t,e⟩:=(show ∃t,u=Value.float b t from r);cases e;rfl
 | ref a=>cases(show u=Value.ref a from r);rfl
 | ty n=>cases(show u=Value.type n from r);rfl
section
variable{P:Program}{w:World}{H H':Hp}{h h':Heap}{a C dx:Addr}{fs fs':List (Str×V)}
theorem HY(hok:rE P w H h)(e:H a=some (.ins C dx fs)):∃mA,Va h a dx C mA/\(∀f,wZ (fs.lookup f) (mA f))/\PySem.Within mA (fs.map (·.1))/\fs.length<=1000/\H dx=some (.own a):=by
 obtain⟨d,z,ne,ob,mA,n,r,q⟩:=(show bQ P w H h a (.ins C dx fs)from hok a _ e)
 exact⟨mA,⟨ob,n,ne⟩,r,q,z,d⟩
end
structure Ig(K:Frag)(C:Addr):Prop where
 pg:PySem.W.plainGet K C Str.empty=true
 hd:PySem.W.hasDictIn K C=true
 po:PySem.W.plainOver K C=true
 sa:findIn K (.ref C) "__setattr__" = some (some (.builtin "object.__setattr__"))
theorem Ig.get{K:Frag}{C:Addr}(c:Ig K C)(f:Str):PySem.W.plainGet K C f=true:=c.pg
def uw(K:Frag)(C:Addr)(f:Str):Prop:=findIn K (.ref C) f=some none
theorem uw.taker{K:Frag}{C:Addr}{f:Str}(n:uw K C f):PySem.W.takerIn K C f=some none:=by
 unfold PySem.W.takerIn
 rw[show findIn K (.ref C) f=some none from n]
 rfl
structure Meth(K:Frag)(C:Addr)(m:Str)(f:Addr):Prop where
 at_:findIn K (.ref C) m=some (some (.ref f))
 fn:isFn K (.ref f)=true
 kp:keepIn K (.ref f)=true
section
variable{X:Cx}{pins:List (Addr×Obj)}{σ:St}{H:Hp}{s:Shared}{a C dx:Addr}{fs:List (Str×V)}{f:Str}{v:V}{A:Around}{E:Value->Shared->Prop}
theorem Ux{b:Bool}{Q:Value->Shared->Prop}(I:Inv X pins σ H s)(e:H a=some (.ins C dx fs))(c:Ig X.K C)(n:uw X.K C f)(l:fs.lookup f=some v)
  (h:∀u s',Inv X pins σ H s'->RelV v u->Q u s'):wpAny (model X.prog X.w) A (getAttr (.ref a) f b) Q E s:=by
 obtain⟨mA,O,r,_,_,_⟩:=HY I.hok e
 obtain⟨u,hu,ru⟩:=wZ.some_of (v:=v) (o:=mA f) (by rw[<-l];exact r f)
 exact get_map I.uW O (c.get f) c.hd n hu (LQ ru) (h u _ (I.tok _) ru)
theorem JW{m:Str}{g:Addr}{pl:Sem Bool}{Q:Value×List Value->Shared->Prop}(I:Inv X pins σ H s)(e:H a=some (.ins C dx fs))(c:Ig X.K C)(k:Meth X.K C m g)(l:fs.lookup m=none)
  (h:Q (.ref g,[.ref a]) s):wpAny (model X.prog X.w) A (getMethod (.ref a) m pl) Q E s:=by
 obtain⟨mA,O,r,_,_,_⟩:=HY I.hok e
 have hn:mA m=none:=wZ.none_of (by rw[<-l];exact r m)
 exact aba I.uW O (c.get m) k.at_ k.fn hn h
theorem TQ{y:V}{u:Value}{Q:Unit->Shared->Prop}(I:Inv X pins σ H s)(e:H a=some (.ins C dx fs))(c:Ig X.K C)(n:uw X.K C f)(hl:fs.length<1000)(ry:RelV y u)
  (h:∀s',Inv X pins σ (upd H a (.ins C dx (tL f y fs))) s'->Q () s'):wpAny (model X.prog X.w) A (setAttr (.ref a) f u) Q E s:=by
 obtain⟨mA,O,r,wi,_,ho⟩:=HY I.hok e
 have hz:(fs.map (·.1)).length<=sizeLine:=by rw[zar,sizeLine_eq];omega
 refine acr I.uW O c.sa c.po n.taker c.hd wi hz λh' O' sb=>h _ ?_
 have hd:∃o,h'.get? dx=some o:=let⟨o,_,_,e',_⟩:=O'.ns;⟨o,e'⟩
 refine I.write (x:=a) (e:=dx) (by rw[e];exact zac) (.inr ho) (λb q hb z=>(sb.2 b hb).trans z) hd ?_
 refine⟨by rw[aG O.ne];exact ho,?_,O.ne,O'.obj,_,O'.ns,λg=> ?_,λg hg=> ?_⟩
 ·have:=Gd f y fs;omega
 ·show wZ ((tL f y fs).lookup g) (if g=f then some u else mA g)
  rw[Ga]
  by_cases q:g=f
  ·rw[if_pos q,if_pos q];exact ry
  ·rw[if_neg q,if_neg q];exact r g
 ·by_cases q:g=f
  ·rw[q];exact(Eu f y fs).1
  ·refine(Eu f y fs).2 g (wi g λz=>hg ?_)
   show(if g=f then some u else mA g)=none
   rw[if_neg q];exact z
theorem Inv.made(I:Inv X pins σ H s):Inv X pins σ (upd (upd H s.heap.objs.size (.own (s.heap.objs.size+1))) (s.heap.objs.size+1) (.ins C s.heap.objs.size []))
  {s with heap:=(s.heap.push PySem.W.emptyDict).push (PySem.W.instObj C s.heap.objs.size)}:=by
 have e1:(s.heap.push PySem.W.emptyDict).get? s.heap.objs.size=some PySem.W.emptyDict:=yB s.heap rfl
 have e2:((s.heap.push PySem.W.emptyDict).push (PySem.W.instObj C s.heap.objs.size)).get? (s.heap.objs.size+1)=some (PySem.W.instObj C s.heap.objs.size):=by
  have:=yB (s.heap.push PySem.W.emptyDict) (o:=PySem.W.instObj C s.heap.objs.size) rfl
  rwa [Heap.size_push]at this
 have e3:(s.heap.push PySem.W.emptyDict).Ns s.heap.objs.size (λ_=>none):=⟨PySem.W.emptyDict,#[],_,e1,rfl,(λe he=>absurd he (by simp)),λ_=>rfl⟩
 have I1:=I.laid (a:=s.heap.objs.size) (o:= .own (s.heap.objs.size+1)) (h':=s.heap.push PySem.W.emptyDict) (t':=s.toks) (λb u q=>zD _ q) (zad _) ⟨_,e1⟩
 refine I1.laid (a:=s.heap.objs.size+1) (o:= .ins C s.heap.objs.size []) (t':=s.toks) (λb u q=>zD _ q) (Nat.le_of_eq (Heap.size_push _ _)) ?_
 have ne:s.heap.objs.size≠s.heap.objs.size+1:=xD (Nat.lt_succ_self _)
 refine⟨by rw[aG ne,bh],Nat.zero_le _,ne,e2,λ_=>none,(Heap.Ns1.of_empty e3).at λo q=>zD _ q,λ_=>zac,λy hy=>absurd rfl hy⟩
theorem WL{prog:Program}{w:World}{env:Env}{e:Expr}{f:Str}{pos:Pos}{s:Shared}{Q:Value->Shared->Prop}(hb:attributeBase e f env (eval e env)=eval e env)
  (h:wpAny (model prog w) A (eval e env) (λo s₁=>wpAny (model prog w) A (getAttr o f true) Q E s₁) E s):wpAny (model prog w) A (eval (.Attribute e f pos) env) Q E s:=
 Attribute_any_ h (by rw[arm_eval_Attribute,hb])
end
def ak1(K:Frag)(ta:TE)(f:Str):TE:=λσ H Q=>ta σ H λx H1=>∃a C dx fs v,x= .ref a/\H1 a=some (.ins C dx fs)/\Ig K C/\uw K C f/\fs.lookup f=some v/\Q v H1
def ak_(K:Frag)(ta tv:TE)(f:Str):TS:=λD σ H=>tv σ H λy H1=>ta σ H1 λx H2=>∃a C dx fs,x= .ref a/\H2 a=some (.ins C dx fs)/\Ig K C/\uw K C f/\fs.length<1000/\
 D.nx σ (upd H2 a (.ins C dx (tL f y fs)))
section
variable{X:Cx}{o e value:Expr}{f:Str}{pos pos' tpos:Pos}{ta tv:TE}
theorem afP(he:PE X e ta)(hb:attributeBase e f X.env (eval e X.env)=eval e X.env):PE X (.Attribute e f pos) (ak1 X.K ta f):=by
 intro pins s σ H Q I h
 refine WL hb (f9 (he pins s σ H _ I h) λu s1 ⟨x,H1,I1,rx,a,C,dx,fs,v,ex,ea,c,n,l,q⟩=> ?_)
 subst ex
 obtain rfl:u=Value.ref a:=rx
 exact Ux I1 ea c n l λu' s2 I2 ru=>⟨v,H1,I2,ru,q⟩
theorem afD(ha:PE X o ta)(hv:PE X value tv)(hs:swapsWith value (some (.Attribute o f pos')) pos.line X.env=pure false):PS X (.Assign [.Attribute o f pos'] value pos) (ak_ X.K ta tv f):=by
 intro pins s σ H D I h
 refine plainObj_wpAny_Assign_Attribute (f9 (hv pins s σ H _ I h) λu s1 ⟨y,H1,I1,ry,q⟩=>f9 (ha pins s1 σ H1 _ I1 q) λov s2 ⟨x,H2,I2,rx,a,C,dx,fs,ex,ea,c,n,l,q2⟩=> ?_) hs
 subst ex
 obtain rfl:ov=Value.ref a:=rx
 exact TQ I2 ea c n l ry λs3 I3=>⟨σ,_,I3,q2⟩
end
section
variable{X:Cx}{pins:List (Addr×Obj)}{σ:St}{H:Hp}{s:Shared}{A:Around}{E:Value->Shared->Prop}{Q:Value->Shared->Prop}{c:Value}{b:Bool}
inductive Fl (K:Frag) (H:Hp):V->Value->Prop where
 | non:Fl K H .non (.type "NoneType")
 | bl (x:Bool):Fl K H (.bl x) (.type "bool")
 | int (i:Int):Fl K H (.int i) (.type "int")
 | str (x:Str):Fl K H (.str x) (.type "str")
 | flt (x:UInt64):Fl K H (.flt x) (.type "float")
 | lst {a:Addr} {xs:List V} (e:H a=some (.lst xs)):Fl K H (.ref a) (.type "list")
 | jY {a:Addr} {o:Obj} {xs:List V} (e:H a=some (.jY o (.lst xs))):Fl K H (.ref a) (.type "list")
 | tup {a:Addr} {xs:List V} (e:H a=some (.tup xs)):Fl K H (.ref a) (.type "tuple")
 | dK {a:Addr} {kvs:List (Key×V)} (e:H a=some (.dK kvs)):Fl K H (.ref a) (.type "dict")
 | dT {a:Addr} {kvs:List (List Key×V)} (e:H a=some (.dT kvs)):Fl K H (.ref a) (.type "dict")
 | ins {a C dx:Addr} {fs:List (Str×V)} (e:H a=some (.ins C dx fs)) (cl:Ig K C) (ha:findIn K (.ref C) "__class__" = some (some (.builtin "object.__class__")))
   (hn:PySem.W.specialIn K (.builtin "object.__class__") "__get__" = some (some (.builtin "getset_descriptor.__get__"))) (htk:PySem.W.takesIn K (.builtin "object.__class__")=some true)
   (hm:PySem.W.mroIn K C (.type "object")=some true):Fl K H (.ref a) (.ref C)
theorem XQ{x:V}{u t:Value}(I:Inv X pins σ H s)(rx:RelV x u)(ty:Fl X.K H x t)(e:kitOne X.K t c=some b)(h:∀tk,Q (.bool b) {s with toks:=tk}):
  wpAny (model X.prog X.w) A (call (.builtin "isinstance") [u,c]) Q E s:=by
 cases ty with
 | non=>cases(show u=Value.none from rx);exact jI PySem.W.kitx_none I.uW zac e (λz=>nomatch z) h
 | bl y=>cases(show u=Value.bool y from rx);exact jI PySem.W.kitx_bool I.uW zac e (λz=>nomatch z) h
 | int i=>obtain⟨t,q⟩:=(show ∃t,u=Value.int i t from rx);cases q;exact jI PySem.W.kitx_int I.uW zac e (λz=>nomatch z) h
 | str y=>obtain⟨t,q⟩:=(show ∃t,u=Value.str y t from rx);cases q;exact jI PySem.W.kitx_str I.uW zac e (λz=>nomatch z) h
 | flt y=>obtain⟨t,q⟩:=(show ∃t,u=Value.float y t from rx);cases q;exact jI PySem.W.kitx_float I.uW zac e (λz=>nomatch z) h
 | @lst a xs ea=>
  cases(show u=Value.ref a from rx)
  obtain⟨_,_,n,_,h1⟩:=(show bQ X.prog X.w H s.heap a (.lst xs)from I.hok a _ ea)
  exact jI PySem.W.kitx_list I.uW ⟨_,h1,rfl⟩ e (λz=>nomatch z) h
 | @jY a ob xs ea=>
  cases(show u=Value.ref a from rx)
  obtain⟨_,_,_,n,_,h1⟩:=(show bQ X.prog X.w H s.heap a (.jY ob (.lst xs))from I.hok a _ ea)
  exact jI PySem.W.kitx_list I.uW ⟨_,h1,rfl⟩ e (λz=>nomatch z) h
 | @tup a xs ea=>
  cases(show u=Value.ref a from rx)
  obtain⟨_,_,_,p⟩:=(show bQ X.prog X.w H s.heap a (.tup xs)from I.hok a _ ea)
  obtain⟨o,h1,h2,_⟩:=p
  exact jI PySem.W.kitx_tuple I.uW ⟨o,h1,h2⟩ e (λz=>nomatch z) h
 | @dK a kvs ea=>
  cases(show u=Value.ref a from rx)
  obtain⟨_,_,vs,_,p⟩:=(show bQ X.prog X.w H s.heap a (.dK kvs)from I.hok a _ ea)
  obtain⟨o,es,ep,h1,h2,_⟩:=p
  exact jI PySem.W.kitx_dict I.uW ⟨o,h1,h2.1⟩ e (λz=>nomatch z) h
 | @dT a kvs ea=>
  cases(show u=Value.ref a from rx)
  obtain⟨_,_,xs,_,o,es,ep,h1,h2,_⟩:=(show bQ X.prog X.w H s.heap a (.dT kvs)from I.hok a _ ea)
  exact jI PySem.W.kitx_dict I.uW ⟨o,h1,h2.1⟩ e (λz=>nomatch z) h
 | @ins a C dx fs ea cl ha hn htk hm=>
  cases(show u=Value.ref a from rx)
  obtain⟨mA,O,_⟩:=HY I.hok ea
  obtain⟨od,J,_⟩:=O.look
  exact jI (PySem.W.kitx_own (cl.get _) cl.hd ha hn htk hm) I.uW J e (λz=>nomatch z) h
end
structure gQ(k:Nat)(A:Around):Prop where
 hd:A.handled=none
 dp:A.depth+3*k+5<recursionLimit
 un:A.units+16*k+200<cLine
theorem gQ.mono{j k:Nat}{A:Around}(r:gQ k A)(h:j<=k):gQ j A:=⟨r.hd,by have:=r.dp;omega,by have:=r.un;omega⟩
theorem gQ.deeper{k:Nat}{A:Around}(r:gQ (k+1) A)(env:Env):gQ k (A.deeper env):=
 ⟨r.hd,by have:=r.dp;show A.depth+1+3*k+5<_;omega,by have:=r.un;show A.units+3+16*k+200<_;omega⟩
theorem gQ.in1{k:Nat}{A:Around}(r:gQ (k+1) A):gQ k A.in1:=
 ⟨r.hd,by have:=r.dp;show A.depth+3*k+5<_;omega,by have:=r.un;show A.units+1+16*k+200<_;omega⟩
theorem Uj{A:Around}{C:Addr}{us:List Value}{kw:List (Str×Value)}:(A.under (.builtin "type.__call__" ⟨.ref C::us,kw⟩)).depth=A.depth+1:=by
 first | rfl | simp[Around.under,Code.weight,Code.isCreation,Code.isGuard,Code.isCaller,Code.frames,Code.isFrame,guardIds]
theorem Ui{A:Around}{C:Addr}{us:List Value}{kw:List (Str×Value)}:(A.under (.builtin "type.__call__" ⟨.ref C::us,kw⟩)).units=A.units+1:=by
 first | rfl | simp[Around.under,Code.cUnits,Code.frames,Code.isFrame]
theorem gQ.make{k:Nat}{A:Around}(r:gQ (k+1) A)(C:Addr)(us:List Value)(kw:List (Str×Value)):gQ k (A.under (.builtin "type.__call__" ⟨.ref C::us,kw⟩)):=
 ⟨r.hd,by have:=r.dp;rw[Uj];omega,by have:=r.un;rw[Ui];omega⟩
theorem gQ.depth{k:Nat}{A:Around}(r:gQ k A):A.depth<recursionLimit:=by have:=r.dp;omega
theorem gQ.units{k:Nat}{A:Around}(r:gQ k A):A.units+64<cLine:=by have:=r.un;omega
def aeY:TA:=λ_ H Q=>Q [] H
def ah4(ta:TE)(tr:TA):TA:=λσ H Q=>ta σ H λx H1=>tr σ H1 λxs H2=>Q (x::xs) H2
section
variable{X:Cx}{e:Expr}{es:List Expr}{te:TE}{t:TA}{pos:Pos}
theorem aaq:PA X [] aeY:=λ_ _ _ _ H Q I h=>Calls.spliced_nil ⟨[],H,I,.nil,h⟩
theorem VV(ha:PE X e te)(hr:PA X es t)(hs:starEach (e::es) X.env=(false,eval e X.env)::starEach es X.env:=by rfl):PA X (e::es) (ah4 te t):=by
 intro pos pins s σ H Q I h
 rw[hs]
 show wpAny _ _ (spliced ((false,eval e X.env)::backTo pos (starEach es X.env))) _ _ s
 refine Calls.spliced_cons (f9 (ha pins s σ H _ I h) λu s1 ⟨x,H1,I1,r1,q1⟩=> ?_)
 exact f9 (hr pos pins s1 σ H1 _ I1 q1) λus s2 ⟨xs,H2,I2,r2,q2⟩=>⟨x::xs,H2,I2,.cons r1 r2,q2⟩
def akT(t:TA):TE:=λσ H Q=>t σ H λxs H1=>xs.length<=sizeLine/\∀p,H1 p=none->Q (.ref p) (upd H1 p (.tup xs))
def akY(t:TA):TE:=λσ H Q=>t σ H λxs H1=>xs.length<=sizeLine/\∀p,H1 p=none->Q (.ref p) (upd H1 p (.lst xs))
theorem afI{x1}(h:PA X es t):PE X (.Tuple es x1 pos) (akT t):=by
 intro pins s σ H Q I hq
 refine wpAny_Tuple_spliced (f9 (h pos pins s σ H _ I hq) λus s1 ⟨xs,H1,I1,r,z,q⟩=>⟨by rw[<-r.length];exact z,?_⟩)
 have hf:H1 s1.heap.objs.size=none:=I1.hok.fresh (zad _)
 refine⟨.ref s1.heap.objs.size,upd H1 s1.heap.objs.size (.tup xs),I1.laid (t':=s1.toks) (λb u e=>zD _ e) (zad _) ?_,rfl,q _ hf⟩
 exact⟨z,us,r,⟨_,yB _ rfl,rfl,_,rfl⟩⟩
theorem afN(h:PA X es t):PE X (.List es pos) (akY t):=by
 intro pins s σ H Q I hq
 refine wpAny_List_spliced (f9 (h pos pins s σ H _ I hq) λus s1 ⟨xs,H1,I1,r,z,q⟩=>⟨by rw[<-r.length];exact z,?_⟩)
 have hf:H1 s1.heap.objs.size=none:=I1.hok.fresh (zad _)
 refine⟨.ref s1.heap.objs.size,upd H1 s1.heap.objs.size (.lst xs),I1.laid (t':=s1.toks) (λb u e=>zD _ e) (zad _) ?_,rfl,q _ hf⟩
 exact⟨z,us,0,r,yB _ rfl⟩
end
abbrev Sp:=List V->Hp->VK->XK->Prop
abbrev Vf:=List Env->Hp->Shared->XK->Value->Shared->Prop
structure K5(P:Program)(w:World)(K:Frag)(mg:Str->Option Value)(base:Heap)(A:Around)(outer:List Env)(s:Shared)(H:Hp):Prop where
 frames:A.frames=some outer
 mod:Mod K mg base
 bs:∀b o,base.get? b=some o->s.heap.get? b=some o/\H b=none
 Wx:base.objs.size<=s.heap.objs.size
 yR:s.heap.FunFrames base outer
 frf:∀b∈frs outer,H b=none
 hok:rE P w H s.heap
 bare:AllBare s.gens
def CE(outer:List Env)(P:Program)(w:World)(H:Hp)(s:Shared)(Q:VK)(u:Value)(s':Shared):Prop:=
 ∃v H',s'.os=s.os/\AllBare s'.gens/\Un (frs outer) [] H H' s.heap s'.heap/\rE P w H' s'.heap/\RelV v u/\Q v H'
def CR(CX:Vf)(outer:List Env)(P:Program)(w:World)(H:Hp)(s:Shared)(Q:VK)(E:XK)(r:Result)(s':Shared):Prop:=
 match r with
 | .ok (.ret u)=>CE outer P w H s Q u s'
 | .ok _=>False
 | .error e=>CX outer H s E e s'
structure aM(P:Program)(w:World)(K:Frag)(mg:Str->Option Value)(base:Heap)(CX:Vf)(k:Nat)(f:Addr)(fd:FuncData)(ps:List Str)(sp:Sp):Prop where
 len:∀vs H Q E,sp vs H Q E->vs.length=ps.length
 run:∀(A:Around) (outer:List Env) (s:Shared) (H:Hp) (args:Args) (us:List Value) (vs:List V) (Q:VK) (E:XK),gQ k A->K5 P w K mg base A outer s H->BindsTo s fd args (ps.zip us)->Vals vs us->sp vs H Q E->
  codeAny (model P w) A (.call (.ref f) args) (CR CX outer P w H s Q E) s
theorem aM.imp{P:Program}{w:World}{K:Frag}{mg:Str->Option Value}{base:Heap}{CX:Vf}{k:Nat}{f:Addr}{fd:FuncData}{ps:List Str}{sp sp':Sp}(F:aM P w K mg base CX k f fd ps sp)
  (h:∀vs H Q E,sp' vs H Q E->sp vs H Q E):aM P w K mg base CX k f fd ps sp':=
 ⟨λvs H Q E q=>F.len vs H Q E (h _ _ _ _ q),λA outer s H args us vs Q E hr he hb hv hs=>F.run A outer s H args us vs Q E hr he hb hv (h _ _ _ _ hs)⟩
theorem K5.make{P:Program}{w:World}{K:Frag}{mg:Str->Option Value}{base:Heap}{A:Around}{outer:List Env}{s:Shared}{H:Hp}(e:K5 P w K mg base A outer s H)(C:Addr)(us:List Value)(kw:List (Str×Value)):
  K5 P w K mg base (A.under (.builtin "type.__call__" ⟨.ref C::us,kw⟩)) outer s H:=⟨by first | exact e.frames | (simpa[Around.under,Code.envs,Code.isFrame,pushEnvs]using e.frames),e.mod,e.bs,e.Wx,e.yR,e.frf,e.hok,e.bare⟩
theorem K5.in1{P:Program}{w:World}{K:Frag}{mg:Str->Option Value}{base:Heap}{A:Around}{outer:List Env}{s:Shared}{H:Hp}(e:K5 P w K mg base A outer s H):
  K5 P w K mg base A.in1 outer s H:=⟨e.frames,e.mod,e.bs,e.Wx,e.yR,e.frf,e.hok,e.bare⟩
section
variable{X:Cx}{pins:List (Addr×Obj)}{σ:St}{H:Hp}{s s':Shared}
theorem Inv.env0(I:Inv X pins σ H s):K5 X.prog X.w X.K X.mg X.base X.A X.stack s H:=
 ⟨I.ok.frames,I.ok.mod,I.bs,yY I.ok.Wx I.sz,I.stack,I.Hu,I.hok,I.bare⟩
theorem Inv.after{Q:VK}{u:Value}(I:Inv X pins σ H s)(h:CE X.stack X.prog X.w H s Q u s'):EP X pins σ Q u s':=by
 obtain⟨v,H',os,bare,un,hok,r,q⟩:=h
 obtain⟨hh,g,d,t,os'⟩:=s'
 obtain rfl:os'=s.os:=os
 exact⟨v,H',I.call (h':=hh) (g':=g) (d':=d) (t':=t) (ch:=[]) un hok bare (λb z=>absurd z (by simp)),r,q⟩
end
def Binds(K:Frag)(fd:FuncData)(ps:List Str)(ds:List Value):Prop:=
 ∀(s:Shared) (us:List Value),K.In s.heap->(us++ds).length=ps.length->BindsTo s fd ⟨us,[]⟩ (ps.zip (us++ds))
theorem Binds.all{K:Frag}{fd:FuncData}{ps:List Str}(h:∀us:List Value,us.length=ps.length->bindArgs fd ⟨us,[]⟩=pure (ps.zip us)):Binds K fd ps []:=λs us _ hl=>by
 rw[List.append_nil]at hl ⊢
 exact .of_eq (h us hl)
section
variable{X:Cx}{CX:Vf}{k:Nat}{f C:Addr}{fd:FuncData}{ps:List Str}{sp:Sp}{wX:List V}{ds:List Value}{E:XK}{x m:Str}{p pos apos:Pos}{e o:Expr}{es:List Expr}{ta:TE}{t:TA}
structure Mk(K:Frag)(C f:Addr):Prop where
 makes:PySem.W.makesIn K C=true
 init:findIn K (.ref C) "__init__" = some (some (.ref f))
 fn:isFn K (.ref f)=true
 kp:keepIn K (.ref C)=true
end
structure aJ(N P:List Str)(sc:Scope):Prop where
 kind:sc.kind= .function
 co:sc.isCoroutine=false
 gen:sc.isGenerator=false
 nd:N.Nodup
 pre:N.take P.length=P
 par:∀x∈P,sc.names.lookup x=some .local\/sc.names.lookup x=some .cell
 af_:∀y∈sc.names,y.2≠ .free
theorem Mj{kindOf:Str->Option NameKind}{x:Str}:∀{binds:List (Str×Value)} {m:Str->Option Value},(∀v,(x,v)∉binds)->bindL kindOf binds m x=m x
 | [],_,_=>rfl
 | (n,v)::r,m,h=>by
  unfold bindL
  rw[Mj λw hw=>h w (yT _ hw)]
  split
  ·have:x≠n:=by rintro rfl;exact h v xB
   simp[this]
  ·rfl
theorem Mm{kindOf:Str->Option NameKind}{x:Str}:∀{binds:List (Str×Value)} {m:Str->Option Value},(∀v,(x,v)∉binds)->bindC kindOf binds m x=m x
 | [],_,_=>rfl
 | (n,v)::r,m,h=>by
  unfold bindC
  rw[Mm λw hw=>h w (yT _ hw)]
  split
  ·rfl
  ·have:x≠n:=by rintro rfl;exact h v xB
   simp[this]
theorem Ml{kindOf:Str->Option NameKind}{x:Str}{v:Value}:∀{P:List Str} {vs:List Value} {i:Nat} {m:Str->Option Value},P.Nodup->P[i]? = some x->vs[i]? = some v->kindOf x=some .local->
  bindL kindOf (P.zip vs) m x=some v
 | [],_,_,_,_,h,_,_=>by simp at h
 | _::_,[],_,_,_,_,h,_=>by simp at h
 | p::P,w::vs,0,m,nd,h1,h2,hk=>by
  simp at h1 h2;subst h1;subst h2
  show bindL kindOf ((p,w)::P.zip vs) m p=_
  unfold bindL
  rw[Mj λv hv=>(List.nodup_cons.mp nd).1 (List.of_mem_zip hv).1,if_pos hk]
  simp
 | p::P,w::vs,i+1,m,nd,h1,h2,hk=>by
  show bindL kindOf ((p,w)::P.zip vs) m x=_
  unfold bindL
  exact Ml (i:=i) (List.nodup_cons.mp nd).2 (by simpa using h1) (by simpa using h2) hk
theorem Mp{kindOf:Str->Option NameKind}{x:Str}{v:Value}:∀{P:List Str} {vs:List Value} {i:Nat} {m:Str->Option Value},P.Nodup->P[i]? = some x->vs[i]? = some v->kindOf x≠some .local->
  bindC kindOf (P.zip vs) m x=some v
 | [],_,_,_,_,h,_,_=>by simp at h
 | _::_,[],_,_,_,_,h,_=>by simp at h
 | p::P,w::vs,0,m,nd,h1,h2,hk=>by
  simp at h1 h2;subst h1;subst h2
  show bindC kindOf ((p,w)::P.zip vs) m p=_
  unfold bindC
  rw[Mm λv hv=>(List.nodup_cons.mp nd).1 (List.of_mem_zip hv).1,if_neg hk]
  simp
 | p::P,w::vs,i+1,m,nd,h1,h2,hk=>by
  show bindC kindOf ((p,w)::P.zip vs) m x=_
  unfold bindC
  exact Mp (i:=i) (List.nodup_cons.mp nd).2 (by simpa using h1) (by simpa using h2) hk
def start(N:List Str)(vs:List V):St:=vs.map some++List.replicate (N.length - vs.length) none
noncomputable def wY(CX:Vf)(P:Program)(w:World)(K:Frag)(mg:Str->Option Value)(base:Heap)(N:List Str)(qual:Str)(scope:Scope)(f:Addr)(cd:Value)(A:Around)(outer:List Env)(s:Shared)(H:Hp)(E:XK):Cx where
 prog:=P
 w:=w
 K:=K
 mg:=mg
 base:=base
 A:=A.deeper (envOfC qual scope s.heap.objs.size f cd)
 N:=N
 s₀:=s
 H₀:=H
 env:=envOfC qual scope s.heap.objs.size f cd
 outer:=outer
 stack:=envOfC qual scope s.heap.objs.size f cd::outer
 ex:=[]
 calm:=true
 fn:=λ_=>true
 pn:=[]
 xe:=λe s'=>wpAny (model P w) (A.deeper (envOfC qual scope s.heap.objs.size f cd)) (leaving (envOfC qual scope s.heap.objs.size f cd) e) (λ_ s''=>CX outer H s E e s'') (λe' s''=>CX outer H s E e' s'') s'
theorem R4{sc:Scope}{n:Nat}{x:Str}(h:sc.names.lookup x=some .cell):∃c,(cellsFrom n sc.names []).lookup x=some c:=by
 have q:=PySem.W.cellsFrom_some sc.names n [] (.inl h)
 exact Option.isSome_iff_exists.mp q
theorem XR{CX:Vf}{P:Program}{w:World}{K:Frag}{mg:Str->Option Value}{base:Heap}{N ps:List Str}{qual:Str}{scope:Scope}{f:Addr}{cd:Value}{A:Around}{outer:List Env}{s s1:Shared}{H:Hp}{E:XK}{us:List Value}{vs:List V}
  (S:aJ N ps scope) (hd:A.handled=none) (e0:K5 P w K mg base A outer s H) (hl:vs.length=ps.length) (r:Vals vs us)
  (x:InCallC s s.heap.objs.size (bindL (envOfC qual scope s.heap.objs.size f cd).kindOf (ps.zip us) λ_=>none) (cellsFrom (s.heap.objs.size+1) scope.names []) (bindC (envOfC qual scope s.heap.objs.size f cd).kindOf (ps.zip us) λ_=>none) s1):
  Inv (wY CX P w K mg base N qual scope f cd A outer s H E) [] (start N vs) H s1:=by
 have hpl:ps.length<=N.length:=by have:=congrArg List.length S.pre;rw[List.length_take]at this;omega
 obtain⟨h1,tk,rfl,hk⟩:=x.done
 have noA:∀b:Addr,b∉(wY CX P w K mg base N qual scope f cd A outer s H E).ex:=λb z=>absurd (show b∈([]:List Addr)from z) (by simp)
 refine⟨⟨e0.mod,S.kind,rfl,rfl,zad _,λy z c h1 h2=> ?_,λy hy=> ?_,λy c _ h=> ?_,λ_=>hd,Around.frames_deeper e0.frames,.inr ⟨rfl,rfl⟩,λb z=>absurd z (noA b),e0.bs,e0.Wx,λb _ _=>noA b,λb z=>absurd z (noA b),e0.yR,e0.frf⟩,
  rfl,e0.bare,Un.kept hk,⟨_,x.toInCall.ns,λi y v h1 h2 h3=> ?_⟩,λy c h=>⟨_,x.cell y c h⟩,e0.hok.fresh (zad _),λy c h=> ?_,λp hp=>absurd (show p∈([]:List (Addr×Obj))from hp) (by simp),e0.hok.kept hk,?_⟩
 ·exact name_of_addr x.apart (PySem.mem_of_lookup h1) (PySem.mem_of_lookup h2)
 ·have hy:scope.names.lookup y=some .cell\/scope.names.lookup y=some .free:=hy
  rcases hy with hy | hy
  ·exact R4 hy
  ·exact absurd rfl (S.af_ _ (PySem.mem_of_lookup hy))
 ·exact Nat.le_of_lt (x.above y c (PySem.mem_of_lookup h))
 ·have hi:i<vs.length:=by
   unfold start at h2
   by_cases hi:i<vs.length
   ·exact hi
   ·rw[zaf (by simpa using hi)]at h2
    rw[List.getElem?_replicate]at h2
    split at h2<;>cases h2
  have ha:vs[i]? = some v:=by
   unfold start at h2
   rw[zag (by simpa using hi),zaq]at h2
   cases e:vs[i]? with
   | none=>rw[e]at h2;cases h2
   | some a=>rw[e]at h2;cases h2;rfl
  obtain⟨u,hu,rv⟩:=r.get ha
  have hp:ps[i]? = some y:=by
   rw[<-S.pre,List.getElem?_take_of_lt (by omega)];exact h1
  have ndP:ps.Nodup:=by rw[<-S.pre];exact S.nd.sublist (List.take_sublist _ _)
  refine⟨u,rv,?_⟩
  rcases S.par y (zab hp)with k | k
  ·exact .inl ⟨k,Ml ndP hp hu k⟩
  ·obtain⟨c,e⟩:=R4 (n:=s.heap.objs.size+1) k
   refine .inr ⟨.inl k,c,e,?_⟩
   have q:=x.cell y c e
   rw[Mp ndP hp hu (by show scope.names.lookup y≠_;rw[k];decide)]at q
   exact q
 ·exact e0.hok.fresh (Nat.le_of_lt (x.above y c (PySem.mem_of_lookup h)))
 ·unfold start
  show _=N.length
  rw[List.length_append,zar,List.length_replicate]
  omega
theorem abl{CX:Vf}{P:Program}{w:World}{K:Frag}{mg:Str->Option Value}{base:Heap}{k:Nat}{f:Addr}{name qual:Str}{params:Arguments}{body:List Stmt}{scope:Scope}{dV kV doc pm cdv ct oc:Value}{an od:Option Addr}
  {osl:Array (Option Value)} {N ps:List Str} {sp:Sp} (lk:K.lookup f=some ⟨oc,od,.func (fnOf name qual params body scope dV kV doc pm an cdv ct),osl⟩) (hcd:codeIn K cdv qual=true) (S:aJ N ps scope)
  (len:∀vs H Q E,sp vs H Q E->vs.length=ps.length)
  (hbody:∀(A:Around) (outer:List Env) (s:Shared) (H:Hp) (vs:List V) (Q:VK) (E:XK),gQ k (A.deeper (envOfC qual scope s.heap.objs.size f cdv))->sp vs H Q E->
   ∃t,Gm (wY CX P w K mg base N qual scope f cdv A outer s H E) body t/\t {nx:=λ_ H'=>Q .non H',rt:=Q} (start N vs) H):
  aM P w K mg base CX (k+1) f (fnOf name qual params body scope dV kV doc pm an cdv ct) ps sp:=by
 refine⟨len,λA outer s H args us vs Q E hr e0 hb r hsp=> ?_⟩
 have hl:=len _ _ _ _ hsp
 have KX:K.In s.heap:=e0.mod.kin.keeps λb o e=>(e0.bs b o e).1
 have lim:s.heap.NoLimit:=e0.mod.nolimit.keeps λb o e=>(e0.bs b o e).1
 have hkind:∀y∈ps.zip us,scope.names.lookup y.1=some .local\/(scope.names.lookup y.1=some .cell/\((cellsFrom (s.heap.objs.size+1) scope.names []).lookup y.1).isSome=true):=λ⟨n,v⟩ hy=>by
  rcases S.par n (List.of_mem_zip hy).1 with q | q
  ·exact .inl q
  ·exact .inr ⟨q,PySem.W.cellsFrom_some _ _ _ (.inl q)⟩
 refine codeAny_call_function hr.depth (KX _ _ lk) rfl S.co S.gen rfl (PySem.W.codeRec_of KX hcd) (hb _ _ _ _ ?_)
 refine wpAny_newFunctionEnv_cells S.kind hkind λenv he s1 x=> ?_
 subst he
 refine⟨lim.keeps x.toInCall.keep,codeAny_func ?_⟩
 obtain⟨t,ht,hq⟩:=hbody A outer s H vs Q E (hr.deeper _) hsp
 have I:Inv (wY CX P w K mg base N qual scope f cdv A outer s H E) [] (start N vs) H s1:=XR S hr.hd e0 hl r x
 refine vE (ht [] s1 (start N vs) H _ I hq) (λfl s' hs=> ?_) λe s' hs=>hs
 have fin:∀{σ':St} {H':Hp} {v:V} {u:Value},Inv (wY CX P w K mg base N qual scope f cdv A outer s H E) [] σ' H' s'->RelV v u->Q v H'->CE outer P w H s Q u s':=
  λ{σ' H' v u} J rv q=>⟨v,H',J.os,J.bare,J.base,J.hok,rv,q⟩
 cases fl with
 | ret u=>
  obtain⟨v,σ',H',J,rv,q⟩:=hs
  exact fin J rv q
 | next=>
  obtain⟨σ',H',J,q⟩:=hs
  exact fin (v:=V.non) (u:=Value.none) J rfl q
 | brk=>
  obtain⟨_,_,_,q⟩:=hs
  exact False.elim q
 | cont=>
  obtain⟨_,_,_,q⟩:=hs
  exact False.elim q
section
variable{X:Cx}{x:Str}{p pos:Pos}{e:Expr}{es:List Expr}{t:TA}{id T:String}{r:List V->Hp->VK->Prop}
def tCB(r:List V->Hp->VK->Prop)(t:TA):TE:=λσ H Q=>t σ H λvs H1=>r vs H1 Q
theorem Q3(hc:j4 X (.builtin id) r)(hg:Gl X x)(hm:X.mg x=none)(hv:bootBuiltins x=some (.builtin id))(ha:PA X (e::es) t)(hn:x≠ "__name__" := by decide)(hdb:(x==("__debug__" : Str))=false:=by decide)
  (he:starEach (e::es) X.env=(false,eval e X.env)::starEach es X.env:=by rfl) (hpl:(backTo pos (starEach es X.env)).any (·.1)=false:=by rfl):PE X (.Call (.Name x p) (e::es) [] pos) (tCB r t):=by
 intro pins s σ H Q I h
 refine wpAny_Call_Name_kw (JL I hg hm hv ?_ hn hdb)
 exact PyProof.Rows.callWith_builtin1 (f9 (ha pos pins s σ H _ I h) λus s1 ⟨vs,H1,I1,r1,q1⟩=>hc pins s1 σ H1 vs us Q I1 r1 q1) he hpl
theorem Xn(hc:j4 X (.type T) r)(hg:Gl X x)(hm:X.mg x=none)(hv:bootBuiltins x=some (.type T))(ha:PA X (e::es) t)(hn:x≠ "__name__" := by decide)(hdb:(x==("__debug__" : Str))=false:=by decide)
  (he:starEach (e::es) X.env=(false,eval e X.env)::starEach es X.env:=by rfl) (hpl:(backTo pos (starEach es X.env)).any (·.1)=false:=by rfl):PE X (.Call (.Name x p) (e::es) [] pos) (tCB r t):=by
 intro pins s σ H Q I h
 refine wpAny_Call_Name_kw (JL I hg hm hv ?_ hn hdb)
 exact PyProof.Rows.callWith_type1 (f9 (ha pos pins s σ H _ I h) λus s1 ⟨vs,H1,I1,r1,q1⟩=>hc pins s1 σ H1 vs us Q I1 r1 q1) he hpl
end
end L2
namespace HT
open PySem PyProof.Rows
noncomputable def lexLt:List Int->List Int->Bool
 | [],[]=>false
 | [],_::_=>true
 | _::_,[]=>false
 | x::xs,y::ys=>if x=y then lexLt xs ys else decide (x<y)
theorem bB(x y:Int)(xs ys:List Int):lexLt (x::xs) (y::ys)=if x=y then lexLt xs ys else decide (x<y):=rfl
theorem K1:lexLt [] []=false:=rfl
theorem JH(y:Int)(ys:List Int):lexLt [] (y::ys)=true:=rfl
theorem JK(x:Int)(xs:List Int):lexLt (x::xs) []=false:=rfl
theorem abu(A:Around)(s:Shared)(a:Int)(t:Tok)(c:Int)(u:Tok):∃e,SeqAt.EqAt A s (.int a t) (.int c u) e/\(e=true↔a=c):=
 ⟨(a==c),SeqAt.EqAt.int_int a t c u,by simp⟩
theorem ZZ(A:Around)(s:Shared)(a:Int)(t:Tok)(c:Int)(u:Tok)(prog:Program)(w:World)(E:Value->Shared->Prop)(Q:Value->Shared->Prop)(h:Q (.bool (decide (a<c))) s):
  wpAny (model prog w) A (richCompare .Lt (.int a t) (.int c u)) Q E s:=
 (PyProof.Rows.lt_int h:wpAny (model prog w) A (compareOp .Lt (.int a t) (.int c u)) Q E s)
section
open PySem.SeqAt
open PySem.AutoSeq1 (wpAny_loadPart')
open PySem.MeetsSeq PySem.MeetsSeq2 PySem.MeetsSeq3
theorem Kr(l b:Addr)(items items2:Array Value)(n n2:Nat)(dd dd2:Option Addr)(sl sl2:Array (Option Value))(ns ms:List Int)(hi:IntsAre items.toList ns)(hj:IntsAre items2.toList ms):
  Meets (Builtin.«tuple.__lt__» ⟨[.ref l,.ref b],[]⟩)
   (λ_ R s=>s.heap.get? l=some {cls:= .type "tuple",dict:=dd,data:= .seq items n,slots:=sl}/\s.heap.get? b=some {cls:= .type "tuple",dict:=dd2,data:= .seq items2 n2,slots:=sl2}/\
    R (.ok (.ret (.bool (lexLt ns ms)))) s):=
 .of_wp λprog w A R s h=>by
  obtain⟨hp,g,d,tk,os⟩:=s;obtain⟨hl,hb,h⟩:=h
  have f2:=AutoSeq1.sub_tuple_tuple
  have z1:items.size=ns.length:=by rw[<-hi.length];simp
  have z2:items2.size=ms.length:=by rw[<-hj.length];simp
  wp_walk using wpAny_loadPart' hl,wpAny_loadPart' hb,wpAny_forIn_list _ (λrest b s'=>b.1=none/\s'=⟨hp,g,d,tk,os⟩/\∃(vs ws:List Value) (ns' ms':List Int),rest=vs.zip ws/\
   IntsAre vs ns'/\IntsAre ws ms'/\ns'.length+items2.size=ms'.length+items.size/\R (.ok (.ret (.bool (lexLt ns' ms')))) ⟨hp,g,d,tk,os⟩) _
  case turn=>
   rintro⟨y,x⟩ rest b s' ⟨hb',rfl,vs,ws,ns',ms',hz,hvi,hwi,hlen,hR⟩
   cases hvi with
   | nil=>rw[List.zip_nil_left]at hz;cases hz
   | cons a t alC=>
    cases hwi with
    | nil=>rw[List.zip_nil_right]at hz;cases hz
    | cons c u alB=>
     rw[List.zip_cons_cons]at hz
     injection hz with hyx hrest
     injection hyx with hy hx
     subst hy hx
     rw[bB]at hR
     simp only[List.length_cons]at hlen
     obtain⟨e,he,hiff⟩:=abu A.in1 ⟨hp,g,d,tk,os⟩ a t c u
     refine zC (he prog w _ _ ?_)
     cases e with
     | true=>
      rw[if_pos (hiff.mp rfl)]at hR
      wp_walk
      exact⟨rfl,rfl,_,_,_,_,hrest,alC,alB,by omega,hR⟩
     | false=>
      rw[if_neg (λq=>absurd (hiff.mpr q) xA)]at hR
      have hri:=ZZ A.in1 ⟨hp,g,d,tk,os⟩ a t c u prog w
      wp_walk using hri
      exact⟨_,rfl,by simpa using hR⟩
  case fin=>
   rintro⟨b1,b2⟩ s' ⟨hb',rfl,vs,ws,ns',ms',hz,hvi,hwi,hlen,hR⟩
   simp only at hb'
   subst hb'
   have hv:lexLt ns' ms'=decide (items.size<items2.size):=by
    cases hvi with
    | nil=>
     cases hwi with
     | nil=>
      simp only[List.length_nil]at hlen
      rw[K1]
      exact(zah (by omega)).symm
     | cons c u hw=>
      simp only[List.length_nil,List.length_cons]at hlen
      rw[JH]
      exact(zai (by omega)).symm
    | cons a t hv=>
     cases hwi with
     | nil=>
      simp only[List.length_nil,List.length_cons]at hlen
      rw[JK]
      exact(zah (by omega)).symm
     | cons c u hw=>
      rw[List.zip_cons_cons]at hz
      cases hz
   rw[hv]at hR
   wp_walk
   exact⟨_,rfl,by simpa[Builtin.Tuple.tupleCompareSizes]using hR⟩
  case h=>
   exact⟨rfl,rfl,items.toList,items2.toList,ns,ms,rfl,hi,hj,by omega,h⟩
end
section
variable{prog:Program}{w:World}{A:Around}{E:Value->Shared->Prop}{s:Shared}
theorem JD{l b:Addr}{items items2:Array Value}{ns ms:List Int}{Q:Value->Shared->Prop}(hl:IsTup s.heap l items)(hb:IsTup s.heap b items2)(hi:IntsAre items.toList ns)(hj:IntsAre items2.toList ms)
  (hu:A.units<cLine) (h:Q (.bool (lexLt ns ms)) s):wpAny (model prog w) A (compareOp .Lt (.ref l) (.ref b)) Q E s:=by
 obtain⟨⟨cls,dd,data,sl⟩,ho,hc,n,hd⟩:=id hl
 obtain⟨⟨cls2,dd2,data2,sl2⟩,ho2,hc2,n2,hd2⟩:=id hb
 simp only at hc hd hc2 hd2
 subst hc hd hc2 hd2
 exact richCompare_meets_room (op:= .Lt) ⟨_,ho,rfl⟩ ⟨_,ho2,rfl⟩ PySem.F.slot_tuple_lt PySem.F.entry_tuple_lt (PySem.F.args_tuple_lt_2 _ _) (Kr l b items items2 n n2 dd dd2 sl sl2 ns ms hi hj)
  ⟨ho,ho2,show Value.bool (lexLt ns ms)≠Value.notImplemented/\Q (.bool (lexLt ns ms)) s from⟨(λx=>nomatch x),h⟩⟩ hu
theorem ad1{t b:Addr}{vs ws:List Value}{Q:Value->Shared->Prop}(ht:IsTup s.heap t vs.toArray)(hb:IsTup s.heap b ws.toArray)(hv:vs≠[])
  (h1:ws=[]->Q (.ref t) s) (h2:ws≠[]->Q (.ref s.heap.objs.size) {s with heap:=s.heap.push {cls:= .type "tuple",data:= .seq (vs++ws).toArray}})
  (hsz:vs.length+ws.length<=sizeLine):wpAny (model prog w) A (binaryOp .Add (.ref t) (.ref b)) Q E s:=by
 obtain⟨⟨cls,dd,data,sl⟩,ho,hc,n,hd⟩:=id ht
 obtain⟨⟨cls2,dd2,data2,sl2⟩,ho2,hc2,n2,hd2⟩:=id hb
 simp only at hc hd hc2 hd2
 subst hc hd hc2 hd2
 have e:vs.toArray++ws.toArray=(vs++ws).toArray:=by simp
 by_cases hw:ws=[]
 ·exact concat_meets ⟨_,ho,rfl⟩ ⟨_,ho2,rfl⟩ noFill_tuple_add seq_tuple_add PySem.F.slot_tuple_add PySem.F.entry_tuple_add (PySem.F.args_tuple_add_2 _ _)
   (tuple_addW1 t b vs.toArray ws.toArray n n2 dd dd2 sl sl2 (by simpa using hv) (by simp[hw])) ⟨ho,ho2,h1 hw⟩
 ·refine concat_meets ⟨_,ho,rfl⟩ ⟨_,ho2,rfl⟩ noFill_tuple_add seq_tuple_add PySem.F.slot_tuple_add PySem.F.entry_tuple_add (PySem.F.args_tuple_add_2 _ _)
   (tuple_addW2 t b vs.toArray ws.toArray n n2 dd dd2 sl sl2 (by simpa using hv) (by simpa using hw) (by rw[List.size_toArray,List.size_toArray];exact hsz)) ⟨ho,ho2,?_⟩
  rw[e]
  exact h2 hw
def bN(n d:Nat):Option Int->Nat
 | none=>d
 | some v=>if v<0 then(v+(n:Int)).toNat else min v.toNat n
theorem afg(n d:Nat)(hd:d<=n)(o:Option Int):bN n d o<=n:=by
 cases o with
 | none=>exact hd
 | some v=>
  show(if v<0 then(v+(n:Int)).toNat else min v.toNat n)<=n
  by_cases hv:v<0
  ·rw[if_pos hv];omega
  ·rw[if_neg hv];exact Nat.min_le_right _ _
theorem Wv(v:Int)(n d:Nat):(if v<0 then max (v+(n:Int)) 0 else min v (n:Int))=((bN n d (some v):Nat):Int):=by
 show(if v<0 then max (v+(n:Int)) 0 else min v (n:Int))=(((if v<0 then(v+(n:Int)).toNat else min v.toNat n):Nat):Int)
 by_cases hv:v<0
 ·simp only[if_pos hv];omega
 ·simp only[if_neg hv];omega
theorem U_(lo hi:Option Int)(n:Nat):Builtin.Slice.sliceAdjust lo hi 1 (n:Int)=(((bN n 0 lo:Nat):Int),((bN n n hi:Nat):Int)):=by
 have h1:¬((1:Int)<0):=by omega
 unfold Builtin.Slice.sliceAdjust
 simp only[h1,if_false]
 refine Prod.ext ?_ ?_
 ·cases lo with
  | none=>rfl
  | some v=>exact Wv v n 0
 ·cases hi with
  | none=>rfl
  | some v=>exact Wv v n n
theorem T_(i j:Nat):Builtin.Slice.slicePlaces (i:Int) (j:Int) 1=j - i:=by
 unfold Builtin.Slice.slicePlaces
 have h1:(1:Int) > 0:=by omega
 simp only[h1,if_true,Int.ediv_one]
 split<;>omega
theorem IV{v:Value}{o:Option Int}{Q:Option Int->Shared->Prop}(p:IsPart v o)(h:Q o s):wpAny (model prog w) A (Builtin.Slice.slicePartIndex v) Q E s:=by
 cases p with
 | none=>exact slicePart_none h
 | int i t=>exact slicePart_int h
theorem DY{sl:Addr}{vl vu:Value}{lo hi:Option Int}{n:Nat}{Q:Int×Int×Nat->Shared->Prop}(hs:s.heap.IsSliceOf sl vl vu .none)(pl:IsPart vl lo)(pu:IsPart vu hi)
  (h:Q (((bN n 0 lo:Nat):Int),1,bN n n hi - bN n 0 lo) s):wpAny (model prog w) A (Builtin.Slice.sliceApplied (.ref sl) (pure (n:Int))) Q E s:=by
 obtain⟨os,hos,hcs,hds⟩:=id hs
 unfold Builtin.Slice.sliceApplied Builtin.Slice.sliceFields
 refine zC (zC (vT hos hds (x:=vl) rfl (zC (vT hos hds (x:=vu) rfl (zC (vT hos hds (x:= .none) rfl (zI ?_)))))))
 refine zC (slicePart_none ?_)
 show wpAny _ _ (if((1:Int)==0)=true then _ else _) _ _ s
 rw[if_neg (by decide)]
 refine zC (IV pl (zC (IV pu (zC (zI ?_)))))
 show wpAny _ _ (match Builtin.Slice.sliceAdjust lo hi 1 (n:Int)with | (lo,hi)=>pure (lo,(1:Int),Builtin.Slice.slicePlaces lo hi 1)) _ _ s
 rw[U_ lo hi n]
 show wpAny _ _ (pure (((bN n 0 lo:Nat):Int),(1:Int),Builtin.Slice.slicePlaces ((bN n 0 lo:Nat):Int) ((bN n n hi:Nat):Int) 1)) _ _ s
 rw[T_]
 exact zI h
theorem Z_(xs:Array Value)(i k:Nat):((List.range k).filterMap λ(m:Nat)=>xs[((i:Int)+(m:Int)*1).toNat]?).toArray=((xs.toList.drop i).take k).toArray:=by
 have e:(λ(m:Nat)=>xs[((i:Int)+(m:Int)*1).toNat]?)=λm=>xs[i+m]? := by
  funext m
  have:((i:Int)+(m:Int)*1).toNat=i+m:=by omega
  rw[this]
 rw[e]
 have:=pick_run xs i k
 rw[List.filterMap_map]at this
 have e2:((λx=>xs[x]?)∘λx=>i+x)=λm=>xs[i+m]? := rfl
 rw[e2]at this
 rw[this]
theorem Dp{t sl:Addr}{items:Array Value}{vl vu:Value}{lo hi:Option Int}{Q:Value->Shared->Prop}(ht:IsTup s.heap t items)(hs:s.heap.IsSliceOf sl vl vu .none)(pl:IsPart vl lo)(pu:IsPart vu hi)
  (hw:¬(bN items.size 0 lo=0/\bN items.size items.size hi=items.size))
  (h:Q (.ref s.heap.objs.size) {s with heap:=s.heap.push {cls:= .type "tuple",data:= .seq ((items.toList.drop (bN items.size 0 lo)).take (bN items.size items.size hi - bN items.size 0 lo)).toArray}})
  (hsz:items.size<=sizeLine):wpAny (model prog w) A (getItem (.ref t) (.ref sl)) Q E s:=by
 have Wf:sizeOk (.seq ((items.toList.drop (bN items.size 0 lo)).take (bN items.size items.size hi - bN items.size 0 lo)).toArray):=by
  show((items.toList.drop (bN items.size 0 lo)).take (bN items.size items.size hi - bN items.size 0 lo)).toArray.size<=sizeLine
  rw[List.size_toArray,List.length_take,List.length_drop,Array.length_toList]
  omega
 have hj:bN items.size items.size hi<=items.size:=afg _ _ (zad _) hi
 obtain⟨os,hos,hcs,hds⟩:=id hs
 have hTs:s.TypeIs (.ref sl) "slice" := ⟨os,hos,hcs⟩
 unfold getItem
 try with_reducible refine wpAny_holding ?_
 first | refine zC (zI ?_) | skip
 refine zC (wpAny_sequenceKey ht.typeIs (by decide) ?_)
 refine zC (zal (name:=Str.ofString "__getitem__") ht.typeIs PyProof.Rows.slot_tuple_getitem
  (jS PyProof.Rows.slot_tuple_getitem ht.typeIs entry_tuple_getitem ?_ (args_tuple_getitem _ _)))
 show wpAny _ _ (Builtin.Tuple.tupleItemsOf (.ref t) >>= _) _ _ s
 refine zC (tupleItemsOf_ ht ?_)
 refine zC (wpAny_typeOf hTs ?_)
 rw[if_pos (by decide)]
 refine zC (DY hs pl pu ?_)
 have hno:¬((((bN items.size 0 lo:Nat):Int)==0&&(1:Int)==1&&(bN items.size items.size hi - bN items.size 0 lo)==items.size)=true):=by
  intro q
  rw[Bool.and_eq_true,Bool.and_eq_true]at q
  have q1:((bN items.size 0 lo:Nat):Int)=0:=eq_of_beq q.1.1
  have q2:bN items.size items.size hi - bN items.size 0 lo=items.size:=eq_of_beq q.2
  exact hw ⟨by omega,by omega⟩
 show wpAny _ _ (if(((bN items.size 0 lo:Nat):Int)==0&&(1:Int)==1&&(bN items.size items.size hi - bN items.size 0 lo)==items.size)=true then _ else _) _ _ s
 rw[if_neg hno,Z_]
 first
  | exact zC (m:=Builtin.Tuple.tupleExact _) (wT (zI ⟨_,rfl,zI h⟩) Wf)
  | exact zC (m:=Builtin.Tuple.tupleExact _) (wT (zC (zI (zI ⟨_,rfl,zI h⟩))) Wf)
  | exact zC (zC (m:=Builtin.Tuple.tupleExact _) (wT (zI (zI ⟨_,rfl,zI h⟩)) Wf))
  | exact zC (zC (m:=Builtin.Tuple.tupleExact _) (wT (zI ⟨_,rfl,zI h⟩) Wf))
end
end HT
namespace L2
open PySem PySem.Spec PyProof.Rows
abbrev TO:=St->Hp->(Option Int->Hp->Prop)->Prop
def PO(X:Cx)(e:Option Expr)(t:TO):Prop:=
 ∀(pins:List (Addr×Obj)) (s:Shared) (σ:St) (H:Hp) (Q:Option Int->Hp->Prop),Inv X pins σ H s->t σ H Q->
  wpAny (model X.prog X.w) X.A (evalPart e X.env) (λu s'=>∃o H',Inv X pins σ H' s'/\IsPart u o/\Q o H') X.xe s
def ach:TO:=λ_ H Q=>Q none H
def ahZ(t:TE):TO:=λσ H Q=>t σ H λx H1=>∃i,x= .int i/\Q (some i) H1
theorem intsAre_of{ns:List Int}:∀{us:List Value},Vals (ns.map V.int) us->IntsAre us ns:=by
 induction ns with
 | nil=>intro us r;rw[List.map_nil]at r;cases r;exact .nil
 | cons n ns ih=>
  intro us r
  rw[List.map_cons]at r
  cases r with
  | cons r1 r2=>
   obtain⟨t,e⟩:=r1
   subst e
   exact .cons n t (ih r2)
section
variable{X:Cx}{e:Expr}{te:TE}{lo hi:Option Expr}{tl th:TO}{pos p2:Pos}
theorem acX:PO X none ach:=by
 intro pins s σ H Q I h
 rw[evalPart_none]
 exact zI ⟨none,H,I,.none,h⟩
theorem acW(h:PE X e te):PO X (some e) (ahZ te):=by
 intro pins s σ H Q I hw
 rw[evalPart_some]
 refine f9 (h pins s σ H _ I hw) λu s1 ⟨x,H1,I1,r1,q1⟩=> ?_
 obtain⟨i,rfl,q⟩:=q1
 obtain⟨t,rfl⟩:=r1
 exact⟨some i,H1,I1,.int i t,q⟩
def SlR(X:Cx)(r:V->Option Int->Option Int->Hp->VK->Prop):Prop:=
 ∀(pins:List (Addr×Obj)) (s:Shared) (σ:St) (H:Hp) (x:V) (v vl vu:Value) (lo hi:Option Int) (sl:Addr) (Q:VK),Inv X pins σ H s->RelV x v->s.heap.IsSliceOf sl vl vu .none->IsPart vl lo->IsPart vu hi->r x lo hi H Q->
  ∃T id,typeLookup (.type T) "__getitem__" = pure (some (.builtin id))/\s.TypeIs v T/\wpAny (model X.prog X.w) X.A (getItem v (.ref sl)) (EP X pins σ Q) X.xe s
theorem SlR.or{r r':V->Option Int->Option Int->Hp->VK->Prop}(h:SlR X r)(h':SlR X r'):SlR X (λx lo hi H Q=>r x lo hi H Q\/r' x lo hi H Q):=by
 intro pins s σ H x v vl vu lo hi sl Q I rx hs pl pu q
 rcases q with q | q
 ·exact h pins s σ H x v vl vu lo hi sl Q I rx hs pl pu q
 ·exact h' pins s σ H x v vl vu lo hi sl Q I rx hs pl pu q
def tSl(r:V->Option Int->Option Int->Hp->VK->Prop)(te:TE)(tl th:TO):TE:=λσ H Q=>te σ H λx H1=>tl σ H1 λl H2=>th σ H2 λu H3=>r x l u H3 Q
theorem aae{r:V->Option Int->Option Int->Hp->VK->Prop}(hr:SlR X r)(he:PE X e te)(hl:PO X lo tl)(hu:PO X hi th):PE X (.Subscript e (.Slice lo hi none p2) pos) (tSl r te tl th):=by
 intro pins s σ H Q I h
 refine Subscript_ (f9 (he pins s σ H _ I h) λv s1 ⟨x,H1,I1,r1,q1⟩=> ?_)
 refine wpAny_Slice (f9 (hl pins s1 σ H1 _ I1 q1) λvl s2 ⟨l,H2,I2,pl,q2⟩=>f9 (hu pins s2 σ H2 _ I2 q2) λvu s3 ⟨u,H3,I3,pu,q3⟩=> ?_)
 rw[evalPart_none]
 refine zI ?_
 have I4:Inv X pins σ H3 {s3 with heap:=s3.heap.push {cls:= .type "slice",data:= .fields #[vl,vu,.none]}}:=I3.kept (t':=s3.toks) λb ob q=>zD _ q
 obtain⟨T,id,hT,ht,hg⟩:=hr pins {s3 with heap:=s3.heap.push {cls:= .type "slice",data:= .fields #[vl,vu,.none]}} σ H3 x v vl vu l u s3.heap.objs.size Q I4 r1 (Heap.IsSliceOf.new ..) pl pu q3
 show wpAny (model X.prog X.w) X.A (subscriptTail e (.Slice lo hi none p2) v (.ref s3.heap.objs.size)) (EP X pins σ Q) X.xe {s3 with heap:=s3.heap.push {cls:= .type "slice",data:= .fields #[vl,vu,.none]}}
 exact tail_any (ops:=[.ref s3.heap.objs.size,v]) ht hT hg (by with_unfolding_all rfl)
def RV(xs:List V)(lo hi:Option Int):List V:=(xs.drop (HT.bN xs.length 0 lo)).take (HT.bN xs.length xs.length hi - HT.bN xs.length 0 lo)
theorem Gj(xs:List V)(lo hi:Option Int):(RV xs lo hi).length<=xs.length:=by
 unfold RV
 rw[List.length_take,List.length_drop]
 omega
def alc(K:Frag):V->Option Int->Option Int->Hp->VK->Prop:=λx lo hi H Q=>∃a xs,x= .ref a/\o9 K H a xs/\
 ¬(HT.bN xs.length 0 lo=0/\HT.bN xs.length xs.length hi=xs.length)/\∀p,H p=none->Q (.ref p) (upd H p (.tup (RV xs lo hi)))
theorem ae6:SlR X (alc X.K):=by
 intro pins s σ H x v vl vu lo hi sl Q I rx hs pl pu h
 obtain⟨a,xs,rfl,hx,hw,q⟩:=h
 cases rx
 obtain⟨its,r,ht,hz⟩:=I.tuple hx
 have hlen:its.toArray.size=xs.length:=by rw[List.size_toArray];exact r.length.symm
 refine⟨"tuple",_,PyProof.Rows.slot_tuple_getitem.lookup,ht.typeIs,?_⟩
 refine HT.Dp ht hs pl pu (by rw[hlen];exact hw) ?_ (by rw[hlen];exact hz)
 rw[hlen]
 refine⟨.ref s.heap.objs.size,_,I.laid (t':=s.toks) (o:= .tup (RV xs lo hi)) (λb ob q=>zD _ q) (zad _) ?_,rfl,q _ (I.hok.fresh (zad _))⟩
 exact⟨yY (Gj xs lo hi) hz,_,(r.drop (HT.bN xs.length 0 lo)).take (HT.bN xs.length xs.length hi - HT.bN xs.length 0 lo),IsTup.new _ _⟩
def alg(K:Frag):R2:=λx y H Q=>∃a b ns ms,x= .ref a/\y= .ref b/\o9 K H a (ns.map V.int)/\o9 K H b (ms.map V.int)/\Q (.bl (HT.lexLt ns ms)) H
theorem af1(hu:X.A.units<cLine):uv X (compareOp .Lt) (alg X.K):=by
 intro pins s σ H x y v u Q I rx ry h
 obtain⟨a,b,ns,ms,rfl,rfl,ha,hb,q⟩:=h
 cases rx
 cases ry
 obtain⟨its,r1,p1,_⟩:=I.tuple ha
 obtain⟨its2,r2,p2,_⟩:=I.tuple hb
 have i1:IntsAre its.toArray.toList ns:=intsAre_of r1
 have i2:IntsAre its2.toArray.toList ms:=intsAre_of r2
 exact HT.JD p1 p2 i1 i2 hu ⟨.bl (HT.lexLt ns ms),H,I,rfl,q⟩
def aiA(K:Frag):R2:=λx y H Q=>∃a b xs ys,x= .ref a/\y= .ref b/\o9 K H a xs/\o9 K H b ys/\xs≠[]/\xs.length+ys.length<=sizeLine/\
 (ys=[]->Q (.ref a) H)/\(ys≠[]->∀p,H p=none->Q (.ref p) (upd H p (.tup (xs++ys))))
theorem Vals.N7{xs:List V}{us:List Value}(r:Vals xs us):us=[]↔xs=[]:=by
 cases r with
 | nil=>simp
 | cons _ _=>simp
theorem ac9:uv X (binaryOp .Add) (aiA X.K):=by
 intro pins s σ H x y v u Q I rx ry h
 obtain⟨a,b,xs,ys,rfl,rfl,ha,hb,hx,hz,q1,q2⟩:=h
 cases rx
 cases ry
 obtain⟨its,r1,p1,_⟩:=I.tuple ha
 obtain⟨its2,r2,p2,_⟩:=I.tuple hb
 refine HT.ad1 p1 p2 (λz=>hx (r1.N7.mp z)) (λz=>⟨.ref a,H,I,rfl,q1 (r2.N7.mp z)⟩) (λz=> ?_) (by rw[<-r1.length,<-r2.length];exact hz)
 refine⟨.ref s.heap.objs.size,_,I.laid (t':=s.toks) (o:= .tup (xs++ys)) (λb ob q=>zD _ q) (zad _) ?_,rfl,q2 (λw=>z (r2.N7.mpr w)) _ (I.hok.fresh (zad _))⟩
 exact⟨by rw[List.length_append];exact hz,_,r1.append r2,IsTup.new _ _⟩
end
def ixN(n:Nat)(i:Int):Option Nat:=if 0<=i then(if i<n then some i.toNat else none)else if -(n:Int)<=i then some (i+n).toNat else none
def PJ{α:Type}(xs:List α)(i:Int):Option α:=(ixN xs.length i).bind λj=>xs[j]?
theorem ady{n:Nat}{i:Int}{j:Nat}(h:ixN n i=some j):seqIndex? i n=some j/\j<n/\ -(n:Int)<=i/\i<n:=by
 unfold ixN at h
 by_cases h0:0<=i
 ·rw[if_pos h0]at h
  by_cases h1:i<n
  ·rw[if_pos h1]at h
   have e:i.toNat=j:=xI h
   exact⟨by rw[seqIndex_of h0 h1,e],by omega,by omega,h1⟩
  ·rw[if_neg h1]at h;cases h
 ·rw[if_neg h0]at h
  by_cases h1: -(n:Int)<=i
  ·rw[if_pos h1]at h
   have e:(i+n).toNat=j:=xI h
   exact⟨by rw[seqIndex_neg (by omega) h1,e],by omega,h1,by omega⟩
  ·rw[if_neg h1]at h;cases h
theorem PB{α:Type}{xs:List α}{i:Int}{v:α}(h:PJ xs i=some v):∃j,seqIndex? i xs.length=some j/\xs[j]? = some v/\j<xs.length/\ -(xs.length:Int)<=i/\i<xs.length:=by
 unfold PJ at h
 cases e:ixN xs.length i with
 | none=>rw[e]at h;cases h
 | some j=>
  rw[e]at h
  obtain⟨h1,h2,h3,h4⟩:=ady e
  exact⟨j,h1,h,h2,h3,h4⟩
def WR(b:Expr):Prop:=∀o i,subscripted b false o i=operate [o,i] (getItem o i)
def IxR(X:Cx)(r:R2):Prop:=
 ∀(value slice:Expr) (pins:List (Addr×Obj)) (s:Shared) (σ:St) (H:Hp) (x y:V) (v u:Value) (Q:VK),Inv X pins σ H s->RelV x v->RelV y u->r x y H Q->
  subscripted slice false v u=operate [v,u] (getItem v u)->wpAny (model X.prog X.w) X.A (subscriptTail value slice v u) (EP X pins σ Q) X.xe s
def MtR(X:Cx)(id:String)(r:V->List V->Hp->VK->Prop):Prop:=
 ∀(pins:List (Addr×Obj)) (s:Shared) (σ:St) (H:Hp) (x:V) (xs:List V) (v:Value) (us:List Value) (Q:VK),Inv X pins σ H s->RelV x v->Vals xs us->r x xs H Q->
  wpAny (model X.prog X.w) X.A (call (.builtin id) (v::us)) (EP X pins σ Q) X.xe s
section
variable{X:Cx}{a b:Expr}{ta tb:TE}{pos:Pos}
theorem IxR.or{r r':R2}(h:IxR X r)(h':IxR X r'):IxR X (λx y H Q=>r x y H Q\/r' x y H Q):=by
 intro value slice pins s σ H x y v u Q I rx ry q hs
 rcases q with q | q
 ·exact h value slice pins s σ H x y v u Q I rx ry q hs
 ·exact h' value slice pins s σ H x y v u Q I rx ry q hs
theorem aiH{r:R2}(hr:IxR X r)(ha:PE X a ta)(hb:PE X b tb)(hs:WR b):PE X (.Subscript a b pos) (tOp r ta tb):=by
 intro pins s σ H Q I h
 exact Subscript_ (ag3 ha hb I h λv u s2 x y H2 I2 rx ry q=>hr a b pins s2 σ H2 x y v u Q I2 rx ry q (hs _ _))
def aiy(K:Frag):R2:=λx y H Q=>∃p xs i v,x= .ref p/\y= .int i/\pO K H p xs/\PJ xs i=some v/\Q v H
def aiw(K:Frag):R2:=λx y H Q=>∃p xs i v,x= .ref p/\y= .int i/\o9 K H p xs/\PJ xs i=some v/\Q v H
def aix:R2:=λx y H Q=>∃z i c,x= .str z/\y= .int i/\z.length<=sizeLine/\PJ z.cps.toList i=some c/\Q (.str ⟨#[c]⟩) H
theorem adw:IxR X (aiy X.K):=by
 intro value slice pins s σ H x y v u Q I rx ry h hs
 obtain⟨p,xs,i,z,rfl,rfl,hq,he,q⟩:=h
 cases rx
 obtain⟨t,rfl⟩:=ry
 obtain⟨its,r,pl,hz⟩:=I.list hq
 obtain⟨j,h1,h2,h3,h4,h5⟩:=PB he
 obtain⟨w,ew,rw'⟩:=r.get h2
 have hl:=r.length
 have hn:=JG
 have fin:EP X pins σ Q w s:=⟨z,H,I,rw',q⟩
 by_cases h0:0<=i
 ·have hj:i.toNat=j:=by
   rw[seqIndex_of h0 h5]at h1
   exact xI h1
  exact item_listR pl.isList h0 (by omega) (by rw[hj];simpa using ew) fin hs
 ·have hj:(i+(its.toArray.size:Int)).toNat=j:=by
   rw[seqIndex_neg (by omega) h4]at h1
   rw[List.size_toArray,<-hl]
   exact xI h1
  exact subscriptTail_builtinR (x:=w) pl.isList.typeIs slot_list_getitem.lookup
   (wpAny_getItem_list_neg (Q:=λr s'=>r=w/\EP X pins σ Q r s') pl.isList (by omega) (by rw[List.size_toArray]<;>omega) (by omega) (by rw[hj];simpa using ew) ⟨rfl,fin⟩) hs
theorem ago:IxR X (aiw X.K):=by
 intro value slice pins s σ H x y v u Q I rx ry h hs
 obtain⟨p,xs,i,z,rfl,rfl,hq,he,q⟩:=h
 cases rx
 obtain⟨t,rfl⟩:=ry
 obtain⟨its,r,pl,hz⟩:=I.tuple hq
 obtain⟨j,h1,h2,h3,h4,h5⟩:=PB he
 obtain⟨w,ew,rw'⟩:=r.get h2
 have hl:=r.length
 have hn:=JG
 have fin:EP X pins σ Q w s:=⟨z,H,I,rw',q⟩
 exact subscriptTail_builtinR (x:=w) pl.typeIs slot_tuple_getitem.lookup
  (getItem_tuple (j:=j) (Q:=λr s'=>r=w/\EP X pins σ Q r s') pl (by omega) (by omega) (by rw[List.size_toArray,<-hl];exact h1) (by simpa using ew) ⟨rfl,fin⟩) hs
theorem agp:IxR X aix:=by
 intro value slice pins s σ H x y v u Q I rx ry h hs
 obtain⟨z,i,c,rfl,rfl,hz,he,q⟩:=h
 obtain⟨t,rfl⟩:=rx
 obtain⟨t',rfl⟩:=ry
 obtain⟨j,h1,h2,h3,h4,h5⟩:=PB he
 have hl:z.cps.toList.length=z.length:=by simp[Str.length]
 rw[hl]at h1 h4 h5
 have hn:=JG
 exact tail_any (typeIs_str s z t) slot_str_getitem.lookup (getItem_str (c:=c) (by
  have e1:decide (i< -(2 ^ 63:Int))=false:=zah (by omega)
  have e2:decide (i>=2 ^ 63)=false:=zah (by omega)
  rw[e1,e2,Bool.or_false]) (by rw[h1];simpa using h2) ⟨.str ⟨#[c]⟩,H,I.tok _,⟨_,rfl⟩,q⟩) hs
theorem Inv.lst{pins:List (Addr×Obj)}{σ:St}{H:Hp}{s:Shared}{p:Addr}{xs:List V}(I:Inv X pins σ H s)(h:H p=some (.lst xs)):
  ∃(its:List Value) (n:Nat),Vals xs its/\s.heap.get? p=some {cls:= .type "list",data:= .seq its.toArray n}/\xs.length<=sizeLine:=by
 obtain⟨z,its,n,r,e⟩:=I.hok p _ h
 exact⟨its,n,r,e,z⟩
theorem M_(lo hi:Option Int)(n:Nat):(sliceBounds lo hi none n).1=((HT.bN n 0 lo:Nat):Int)/\(sliceBounds lo hi none n).2.1=((HT.bN n n hi:Nat):Int)/\(sliceBounds lo hi none n).2.2=1:=by
 refine⟨?_,?_,rfl⟩
 ·cases lo with
  | none=>simp[sliceBounds,HT.bN]
  | some i=>
   simp only[sliceBounds,HT.bN,Option.getD_none,show(1:Int) > 0 by decide,if_true]
   by_cases h:i<0
   ·simp only[h,if_true]<;>omega
   ·simp only[h,if_false]<;>omega
 ·cases hi with
  | none=>simp[sliceBounds,HT.bN]
  | some i=>
   simp only[sliceBounds,HT.bN,Option.getD_none,show(1:Int) > 0 by decide,if_true]
   by_cases h:i<0
   ·simp only[h,if_true]<;>omega
   ·simp only[h,if_false]<;>omega
theorem Ks(its:List Value)(lo hi:Option Int):slicePick its.toArray lo hi none=((its.drop (HT.bN its.length 0 lo)).take (HT.bN its.length its.length hi - HT.bN its.length 0 lo)).toArray:=by
 obtain⟨h1,h2,h3⟩:=M_ lo hi its.toArray.size
 unfold slicePick
 rw[h1,h2,h3]
 simp only[sliceRange_one,pick_run,List.size_toArray]<;>rfl
def ale(K:Frag):V->Option Int->Option Int->Hp->VK->Prop:=λx lo hi H Q=>∃a xs,x= .ref a/\pO K H a xs/\∀p,H p=none->Q (.ref p) (upd H p (.lst (RV xs lo hi)))
theorem acp:SlR X (ale X.K):=by
 intro pins s σ H x v vl vu lo hi sl Q I rx hs pl pu h
 obtain⟨a,xs,rfl,hx,q⟩:=h
 cases rx
 obtain⟨its,r,ht,hz⟩:=I.list hx
 have hlen:=r.length
 refine⟨"list",_,slot_list_getitem.lookup,ht.isList.typeIs,?_⟩
 refine wpAny_getItem_list_slice ht.isList hs pl pu .none (by simp) ?_ (by rw[List.size_toArray]<;>omega)
 rw[Ks,<-hlen]
 refine⟨.ref s.heap.objs.size,_,I.laid (t':=s.toks) (o:= .lst (RV xs lo hi)) (λb ob q=>zD _ q) (zad _) ?_,rfl,q _ (I.hok.fresh (zad _))⟩
 exact⟨yY (Gj xs lo hi) hz,_,0,(r.drop (HT.bN xs.length 0 lo)).take (HT.bN xs.length xs.length hi - HT.bN xs.length 0 lo),yB _ rfl⟩
def Av:V->Bool
 | .non=>true
 | .bl _=>true
 | .int _=>true
 | .str _=>true
 | _=>false
noncomputable def eqV:V->V->Bool
 | .non,.non=>true
 | .bl a,.bl b=>a==b
 | .bl a,.int b=>(if a then 1 else 0)==b
 | .int a,.bl b=>a==(if b then 1 else 0)
 | .int a,.int b=>a==b
 | .str a,.str b=>a==b
 | _,_=>false
theorem agA{A:Around}{s:Shared}{y x:V}{u v:Value}(ry:RelV y u)(rx:RelV x v)(fy:Av y=true)(fx:Av x=true):SeqAt.EqAt A s u v (eqV y x):=by
 cases y with
 | non=>
  cases ry
  cases x with
  | non=>cases rx;exact SeqAt.EqAt.same _
  | bl b=>cases rx;exact SeqAt.EqAt.none_bool b
  | int b=>obtain⟨t,rfl⟩:=rx;exact SeqAt.EqAt.none_int b t
  | str b=>obtain⟨t,rfl⟩:=rx;exact SeqAt.EqAt.none_str b t
  | _=>exact absurd (show false=true from fx) xA
 | bl a=>
  cases ry
  cases x with
  | non=>cases rx;exact SeqAt.EqAt.bool_none a
  | bl b=>cases rx;exact SeqAt.EqAt.bool_bool a b
  | int b=>obtain⟨t,rfl⟩:=rx;exact SeqAt.EqAt.bool_int a b t
  | str b=>obtain⟨t,rfl⟩:=rx;exact SeqAt.EqAt.bool_str a b t
  | _=>exact absurd (show false=true from fx) xA
 | int a=>
  obtain⟨t',rfl⟩:=ry
  cases x with
  | non=>cases rx;exact SeqAt.EqAt.int_none a t'
  | bl b=>cases rx;exact SeqAt.EqAt.int_bool a t' b
  | int b=>obtain⟨t,rfl⟩:=rx;exact SeqAt.EqAt.int_int a t' b t
  | str b=>obtain⟨t,rfl⟩:=rx;exact SeqAt.EqAt.int_str a t' b t
  | _=>exact absurd (show false=true from fx) xA
 | str a=>
  obtain⟨t',rfl⟩:=ry
  cases x with
  | non=>cases rx;exact SeqAt.EqAt.str_none a t'
  | bl b=>cases rx;exact SeqAt.EqAt.str_bool a t' b
  | int b=>obtain⟨t,rfl⟩:=rx;exact SeqAt.EqAt.str_int a t' b t
  | str b=>obtain⟨t,rfl⟩:=rx;exact SeqAt.EqAt.str_str a t' b t
  | _=>exact absurd (show false=true from fx) xA
 | _=>exact absurd (show false=true from fy) xA
def UJ(x:V)(u:Value):Bool:=match u with
 | .none=>eqV .non x
 | .bool b=>eqV (.bl b) x
 | .int i _=>eqV (.int i) x
 | .str z _=>eqV (.str z) x
 | _=>false
theorem abp{x y:V}{u:Value}(r:RelV y u)(f:Av y=true):UJ x u=eqV y x:=by
 cases y with
 | non=>cases r;rfl
 | bl b=>cases r;rfl
 | int i=>obtain⟨t,rfl⟩:=r;rfl
 | str z=>obtain⟨t,rfl⟩:=r;rfl
 | _=>exact absurd (show false=true from f) xA
theorem Dy{x:V}:∀{xs:List V} {us:List Value},Vals xs us->xs.all Av=true->us.any (UJ x)=xs.any λy=>eqV y x
 | _,_,.nil,_=>rfl
 | y::xs,u::us,.cons r t,f=>by
  rw[List.all_cons,Bool.and_eq_true]at f
  rw[List.any_cons,List.any_cons,abp r f.1,Dy t f.2]
theorem yz{A:Around}{s:Shared}{x:V}{v:Value}(rx:RelV x v)(fx:Av x=true):∀{xs:List V} {us:List Value},Vals xs us->xs.all Av=true->∀u∈us,SeqAt.EqAt A s u v (UJ x u)
 | _,_,.nil,_=>λu hu=>by cases hu
 | y::xs,u::us,.cons r t,f=>λu' hu=>by
  rw[List.all_cons,Bool.and_eq_true]at f
  rcases List.mem_cons.mp hu with rfl | hu
  ·rw[abp r f.1];exact agA r rx f.1 fx
  ·exact yz rx fx t f.2 u' hu
def inV(x:V)(xs:List V):Bool:=xs.any λy=>eqV y x
def rIn(K:Frag)(neg:Bool):R2:=λx y H Q=>∃p xs,y= .ref p/\(pO K H p xs\/o9 K H p xs)/\Av x=true/\xs.all Av=true/\Q (.bl (if neg then !inV x xs else inV x xs)) H
theorem Xq:uv X (compareOp .In) (rIn X.K false):=by
 intro pins s σ H x y v u Q I rx ry h
 obtain⟨p,xs,rfl,hq,fx,fs,q⟩:=h
 cases ry
 rcases hq with hq | hq
 ·obtain⟨its,r,pl,hz⟩:=I.list hq
  refine SeqAt.in_listAt (UJ x) pl.isList (λw hw=>yz rx fx r fs w (by simpa using hw)) ⟨.bl _,H,I,rfl,?_⟩
  rw[show its.toArray.any (UJ x)=its.any (UJ x) by simp,Dy r fs]
  exact q
 ·obtain⟨its,r,pl,hz⟩:=I.tuple hq
  refine SeqAt.in_tupleAt (UJ x) pl (λw hw=>yz rx fx r fs w (by simpa using hw)) ⟨.bl _,H,I,rfl,?_⟩
  rw[show its.toArray.any (UJ x)=its.any (UJ x) by simp,Dy r fs]
  exact q
theorem Nx:uv X (compareOp .NotIn) (rIn X.K true):=by
 intro pins s σ H x y v u Q I rx ry h
 obtain⟨p,xs,rfl,hq,fx,fs,q⟩:=h
 cases ry
 rcases hq with hq | hq
 ·obtain⟨its,r,pl,hz⟩:=I.list hq
  refine SeqAt.notIn_listAt (UJ x) pl.isList (λw hw=>yz rx fx r fs w (by simpa using hw)) ⟨.bl _,H,I,rfl,?_⟩
  rw[show its.toArray.any (UJ x)=its.any (UJ x) by simp,Dy r fs]
  exact q
 ·obtain⟨its,r,pl,hz⟩:=I.tuple hq
  refine SeqAt.notIn_tupleAt (UJ x) pl (λw hw=>yz rx fx r fs w (by simpa using hw)) ⟨.bl _,H,I,rfl,?_⟩
  rw[show its.toArray.any (UJ x)=its.any (UJ x) by simp,Dy r fs]
  exact q
theorem Pr:j4 X (.builtin "len") (λxs H Q=>∃p ys,xs=[.ref p]/\(pO X.K H p ys\/o9 X.K H p ys)/\Q (.int ys.length) H):=by
 intro pins s σ H xs us Q I r h
 obtain⟨p,ys,rfl,hq,q⟩:=h
 obtain⟨u,rfl,rx⟩:=vals1 r
 cases rx
 have hn:=JG
 rcases hq with hq | hq
 ·obtain⟨its,r',pl,hz⟩:=I.list hq
  have hlen:=r'.length
  exact Calls.call_len_list pl.isList (by simp only[List.size_toArray]<;>omega) ⟨.int ys.length,H,I.tok _,⟨s.toks+1,by rw[List.size_toArray,hlen]⟩,q⟩
 ·obtain⟨its,r',pl,hz⟩:=I.tuple hq
  have hlen:=r'.length
  exact len_tuple pl (by simp only[List.size_toArray]<;>omega) ⟨.int ys.length,H,I.tok _,⟨s.toks+1,by rw[List.size_toArray,hlen]⟩,q⟩
theorem Pq:j4 X (.builtin "len") (λxs H Q=>∃z,xs=[.str z]/\z.length<=sizeLine/\Q (.int z.length) H):=by
 intro pins s σ H xs us Q I r h
 obtain⟨z,rfl,hz,q⟩:=h
 obtain⟨u,rfl,t,rfl⟩:=vals1 r
 have hn:=JG
 exact len_str (by omega) ⟨.int z.length,H,I.tok _,⟨_,rfl⟩,q⟩
theorem j4.or{f:Value}{r r':List V->Hp->VK->Prop}(h:j4 X f r)(h':j4 X f r'):j4 X f (λxs H Q=>r xs H Q\/r' xs H Q):=by
 intro pins s σ H xs us Q I rs q
 rcases q with q | q
 ·exact h pins s σ H xs us Q I rs q
 ·exact h' pins s σ H xs us Q I rs q
def tyV(K:Frag)(T:String)(x:V)(H:Hp):Prop:=match x with
 | .str _=>T= "str"
 | .int _=>T= "int"
 | .ref p=>(T= "list" /\ ∃xs,pO K H p xs)\/(T= "tuple" /\ ∃o,K.lookup p=some o/\o.cls= .type "tuple" /\ o.dict=none)\/
   (T= "dict" /\ ((∃kvs,H p=some (.dK kvs))\/∃kvs,H p=some (.dT kvs)))\/(T= "set" /\ ∃S n,H p=some (.set S n))
 | _=>False
theorem YS{pins:List (Addr×Obj)}{σ:St}{H:Hp}{s:Shared}{T:String}{x:V}{v:Value}(I:Inv X pins σ H s)(r:RelV x v)(ty:tyV X.K T x H):
  s.TypeIs v T/\∀a,v= .ref a->∃ob,s.heap.get? a=some ob/\ob.dict=none:=by
 cases x with
 | str z=>
  obtain⟨t,rfl⟩:=r
  cases(show T= "str" from ty)
  exact⟨typeIs_str s z t,λ_ e=>nomatch e⟩
 | int i=>
  obtain⟨t,rfl⟩:=r
  cases(show T= "int" from ty)
  exact⟨typeIs_int s i t,λ_ e=>nomatch e⟩
 | ref p=>
  cases r
  rcases ty with⟨rfl,xs,hq⟩ | ⟨rfl,o,hk,hc,hd⟩ | ⟨rfl,hk⟩ | ⟨rfl,S,n,hk⟩
  ·obtain⟨its,_,pl,_⟩:=I.list hq
   refine⟨pl.isList.typeIs,λa e=> ?_⟩
   cases e
   obtain⟨o,n,e,c,hd,_⟩:=pl
   exact⟨o,e,hd⟩
  ·refine⟨⟨o,I.uW p o hk,hc⟩,λa e=> ?_⟩
   cases e
   exact⟨o,I.uW _ o hk,hd⟩
  ·have z:∃o,s.heap.get? p=some o/\o.ExactDict:=by
    rcases hk with⟨kvs,hk⟩ | ⟨kvs,hk⟩
    ·obtain⟨_,_,_,_,o,_,_,e,ex,_⟩:=I.hok p _ hk
     exact⟨o,e,ex⟩
    ·obtain⟨_,_,_,_,o,_,_,e,ex,_⟩:=I.hok p _ hk
     exact⟨o,e,ex⟩
   obtain⟨o,e,ex⟩:=z
   refine⟨⟨o,e,ex.1⟩,λa e2=> ?_⟩
   cases e2
   exact⟨o,e,ex.2.1⟩
  ·obtain⟨o,_,_,_,e,ex,_⟩:=I.hok p _ hk
   refine⟨⟨o,e,ex.1⟩,λa e2=> ?_⟩
   cases e2
   exact⟨o,e,ex.2.1⟩
 | _=>exact False.elim ty
def ak3(K:Frag)(T:String)(r:V->List V->Hp->VK->Prop)(to:TE):TE:=λσ H Q=>to σ H λx H1=>tyV K T x H1/\r x [] H1 Q
def tBM(K:Frag)(T:String)(r:V->List V->Hp->VK->Prop)(to:TE)(t:TA):TE:=λσ H Q=>to σ H λx H1=>tyV K T x H1/\t σ H1 λxs H2=>r x xs H2 Q
variable{o e:Expr}{es:List Expr}{to:TE}{t:TA}{name:Str}{apos cpos:Pos}{T id:String}{r:V->List V->Hp->VK->Prop}
theorem aam(pa:PlainAttrs T)(slot:Slot T name id)(hty:typeOf (.builtin id)=pure (.type "method_descriptor"))(hm:MtR X id r)(ho:PE X o to)
  (hbase:attributeBase o name X.env (eval o X.env)=eval o X.env:=by rfl) (hline:(apos.endLine==cpos.line)=true:=by rfl):PE X (.Call (.Attribute o name apos) [] [] cpos) (ak3 X.K T r to):=by
 intro pins s σ H Q I h
 refine wpAny_Call_method0_late hbase hline (f9 (ho pins s σ H _ I h) λv s1 ⟨x,H1,I1,r1,ty,q1⟩=> ?_)
 obtain⟨h1,h2⟩:=YS I1 r1 ty
 exact⟨T,id,pa,slot,hty,h1,h2,Calls.callWith_builtin rfl (PySem.evalArgs_none (hm pins s1 σ H1 x [] v [] Q I1 r1 .nil q1))⟩
theorem aiI(pa:PlainAttrs T)(slot:Slot T name id)(hty:typeOf (.builtin id)=pure (.type "method_descriptor"))(hm:MtR X id r)(ho:PE X o to)(ha:PA X (e::es) t)
  (hbase:attributeBase o name X.env (eval o X.env)=eval o X.env:=by rfl)
  (hfew:((backTo cpos (starEach (e::es) X.env)).all (λx=> !x.1)&&(backToKw cpos (keywordEach [] X.env)).all (λx=>x.1.isSome)
   && decide ((e::es).length+([]:List Keyword).length+(if([]:List Keyword).isEmpty then 0 else 1)<30))=true:=by rfl)
  (hline:(apos.endLine==cpos.line)=true:=by rfl) (hs:starEach (e::es) X.env=(false,eval e X.env)::starEach es X.env:=by rfl) (hplain:(backTo cpos (starEach es X.env)).any (·.1)=false:=by rfl):
  PE X (.Call (.Attribute o name apos) (e::es) [] cpos) (tBM X.K T r to t):=by
 intro pins s σ H Q I h
 refine wpAny_Call_method_late hbase hfew hline rfl (f9 (ho pins s σ H _ I h) λv s1 ⟨x,H1,I1,r1,ty,q1⟩=> ?_)
 obtain⟨h1,h2⟩:=YS I1 r1 ty
 refine⟨T,id,pa,slot,hty,h1,h2,?_⟩
 have hA:=ha cpos pins s1 σ H1 _ I1 q1
 rw[hs]at hA ⊢
 refine Calls.callWith_builtin (by show(false||(backTo cpos (starEach es X.env)).any (·.1))=false;rw[hplain]<;>rfl) (Calls.evalArgs_plain ?_)
 exact f9 hA λus s2 ⟨vs,H2,I2,r2,q2⟩=>hm pins s2 σ H2 x vs v us Q I2 r1 r2 q2
end
def MtM(X:Cx)(id:String)(r:V->List V->Hp->VK->Prop):Prop:=
 ∀(pins:List (Addr×Obj)) (s:Shared) (σ:St) (H:Hp) (x:V) (xs:List V) (v:Value) (us:List Value) (Q:VK),Inv X pins σ H s->RelV x v->Vals xs us->r x xs H Q->
  wpAny (model X.prog X.w) X.A (call (.builtin id) (v::us)) (EP X pins σ Q) X.xe s
theorem Vals.one:∀{x:V} {us:List Value},Vals [x] us->∃u,us=[u]/\RelV x u
 | _,_,.cons r .nil=>⟨_,rfl,r⟩
theorem Vals.two:∀{x y:V} {us:List Value},Vals [x,y] us->∃u v,us=[u,v]/\RelV x u/\RelV y v
 | _,_,_,.cons r (.cons q .nil)=>⟨_,_,rfl,r,q⟩
theorem Vals.zero:∀{us:List Value},Vals [] us->us=[]
 | _,.nil=>rfl
section
variable{X:Cx}{pins:List (Addr×Obj)}{σ:St}{H:Hp}{s:Shared}{l b:Addr}{xs ys zs:List V}
theorem Inv.ai6{its its':List Value}{n:Nat}{f:Array Value->Array Value}{t':Nat}(I:Inv X pins σ H s)(hH:H l=some (.lst xs))
  (e:s.heap.get? l=some {cls:= .type "list",data:= .seq its.toArray n}) (hf:f its.toArray=its'.toArray) (hv:Vals ys its') (hz:ys.length<=sizeLine):
  Inv X pins σ (upd H l (.lst ys)) {s with heap:=s.heap.update l (Obj.mapSeq f),toks:=t'}:=by
 have q:=PySem.IsL.update e f
 rw[hf]at q
 refine I.write (x:=l) (e:=l) (by rw[hH];exact trivial) (.inl rfl) (λb' u hb hu=>(xL s.heap (Obj.mapSeq f) (Ne.symm hb)).trans hu) ⟨_,q⟩ ?_
 exact⟨hz,its',_,hv,q⟩
theorem Inv.ai7{its:List Value}{t':Nat}(I:Inv X pins σ H s)(hv:Vals ys its)(hz:ys.length<=sizeLine):
  Inv X pins σ (upd H s.heap.objs.size (.lst ys)) {s with heap:=s.heap.push {cls:= .type "list",data:= .seq its.toArray},toks:=t'}:=
 I.laid (λ_ _ q=>zD _ q) (zad _) ⟨hz,its,0,hv,yB _ rfl⟩
theorem Inv.fresh(I:Inv X pins σ H s):H s.heap.objs.size=none:=I.hok.fresh (zad _)
theorem Inv.Xz(I:Inv X pins σ H s)(hH:H l=some (.lst xs)):xs.length<=sizeLine/\∃(its:List Value) (n:Nat),Vals xs its/\xs.length=its.length/\s.heap.get? l=some {cls:= .type "list",data:= .seq its.toArray n}:=by
 obtain⟨z,its,n,r,e⟩:=I.hok l _ hH
 exact⟨z,its,n,r,r.length,e⟩
theorem aaw{n:Nat}(h:n<=sizeLine):Builtin.List.listTooLong n=false:=by
 unfold Builtin.List.listTooLong
 exact zah (by omega)
end
section
variable{X:Cx}
def acJ:V->List V->Hp->VK->Prop:=λx vs H Q=>∃l xs y,x= .ref l/\vs=[y]/\H l=some (.lst xs)/\xs.length<sizeLine/\Q .non (upd H l (.lst (xs++[y])))
theorem Xw:MtM X "list.append" acJ:=by
 intro pins s σ H x vs v us Q I rx rv h
 obtain⟨l,xs,y,rfl,rfl,hH,hz,q⟩:=h
 cases rx
 obtain⟨u,rfl,ru⟩:=rv.one
 obtain⟨z,its,n,r,hl,e⟩:=I.Xz hH
 refine call_meets F.slot_list_append ⟨_,e,rfl⟩ F.entry_list_append (F.args_list_append_2 _ _) (PySem.list_append l its.toArray n u (by rw[List.size_toArray];omega)) ⟨e,?_⟩
 refine⟨.non,_,I.ai6 (its':=its++[u]) hH e (by simp) (r.append (.cons ru .nil)) ?_,rfl,q⟩
 rw[List.length_append,List.length_singleton]
 omega
def acI:V->List V->Hp->VK->Prop:=λx vs H Q=>∃l b xs zs,x= .ref l/\vs=[.ref b]/\H l=some (.lst xs)/\H b=some (.lst zs)/\xs.length+zs.length<=sizeLine/\Q .non (upd H l (.lst (xs++zs)))
theorem ahr:MtM X "list.extend" acI:=by
 intro pins s σ H x vs v us Q I rx rv h
 obtain⟨l,b,xs,zs,rfl,rfl,hH,hB,hz,q⟩:=h
 cases rx
 obtain⟨u,rfl,ru⟩:=rv.one
 cases ru
 obtain⟨z,its,n,r,hl,e⟩:=I.Xz hH
 obtain⟨z2,its2,n2,r2,hl2,e2⟩:=I.Xz hB
 have hsz:its.toArray.size+its2.toArray.size<=sizeLine:=by rw[List.size_toArray,List.size_toArray];omega
 have aje:¬(!its.toArray.isEmpty&&Builtin.List.listTooLong (its.toArray.size+its2.toArray.size))=true:=by
  rw[aaw hsz,Bool.and_false]
  exact xA
 refine call_meets F.slot_list_extend ⟨_,e,rfl⟩ F.entry_list_extend (F.args_list_extend_2 _ _)
  (AutoSeq1.list_extend_list_list_0 l its.toArray n b its2.toArray n2 aje (by rw[List.size_toArray];omega) (by omega)) ⟨e,e2,?_⟩
 refine⟨.non,_,I.ai6 (its':=its++its2) hH e (by simp) (r.append r2) ?_,rfl,q⟩
 rw[List.length_append]
 omega
def alj:R2:=λx y H Q=>∃l b xs zs,x= .ref l/\y= .ref b/\H l=some (.lst xs)/\H b=some (.lst zs)/\xs.length+zs.length<=sizeLine/\∀p,H p=none->Q (.ref p) (upd H p (.lst (xs++zs)))
theorem af6:uv X (binaryOp .Add) alj:=by
 intro pins s σ H x y v u Q I rx ry h
 obtain⟨l,b,xs,zs,rfl,rfl,hH,hB,hz,q⟩:=h
 cases rx
 cases ry
 obtain⟨z,its,n,r,hl,e⟩:=I.Xz hH
 obtain⟨z2,its2,n2,r2,hl2,e2⟩:=I.Xz hB
 refine PySem.P.add_list e e2 ?_ (by rw[List.size_toArray,List.size_toArray];omega)
 have ea:its.toArray++its2.toArray=(its++its2).toArray:=by simp
 rw[ea]
 exact⟨.ref _,_,I.ai7 (t':=s.toks) (r.append r2) (by rw[List.length_append];omega),rfl,q _ I.fresh⟩
end
end L2
namespace Att
open PySem PySem.W PySem.Calls PyProof.Rows
theorem Hi{P:Params}{h:Heap}:∀(ns:List Int) (vs:List Value),WellAll P h vs (ns.map WData.int)->IntsAre vs ns:=by
 intro ns
 induction ns with
 | nil=>
  intro vs w
  rw[List.map_nil]at w
  cases w
  exact .nil
 | cons n ns ih=>
  intro vs w
  rw[List.map_cons]at w
  cases w with
  | cons a b=>
   cases a
   exact .cons _ _ (ih _ b)
theorem W9{l:OpenLaw}{n:Nat}(hn:l.most=some n){P:Params}{h:Heap}{args:List WData}{vals:List Value}
  (hpre:l.row.toRowW.claim.pre args=true) (hwl:WellAll P h vals args):
  ∃a vs ns,vals=[Value.ref a]/\args=[WData.list (ns.map WData.int)]/\h.get? a=some {cls:= .type "list",data:= .seq vs.toArray}/\IntsAre vs ns/\ns.length<=n:=by
 have hsh:WShape.hasAll [] args [.list .int]=true:=(pre_splitW hpre).1
 have hc:l.pre.holds [] {args:=args}=true:=(pre_splitW hpre).2
 obtain⟨d,r,rfl,h1,h2⟩:=hasAllW_cons hsh
 obtain rfl:=hasAllW_nil h2
 obtain⟨xs,rfl,h3⟩:=hasW_list h1
 obtain⟨ns,rfl⟩:=items_int h3
 have hlen:ns.length<=n:=by
  unfold OpenLaw.pre at hc
  have h4:(WTm.not (.lt (.lit (.int (n:Int))) (.len (.arg 0)))).holds [] {args:=[.list (ns.map .int)]}=true:=by
   have h4:=(holds_andW hc).1
   rw[hn]at h4
   exact h4
  have h5:=condW_of h4 (w_not (w_lt w_lit (w_len_list (w_arg rfl))))
  rw[zar]at h5
  refine Nat.le_of_not_lt λq=> ?_
  have q':(n:Int)<((ns.length:Nat):Int):=by omega
  first
   | (rw[zai q']at h5;exact absurd h5 (by decide))
   | (simp at h5;omega)
 cases hwl with
 | cons w1 w2=>
  cases w2
  cases w1 with
  | list ho hall=>exact⟨_,_,ns,rfl,rfl,ho,Hi ns _ hall,hlen⟩
theorem Xj(l:OpenLaw)(args:List WData):l.row.toRowW.claim.post args (.bool true) args=true:=
 postW_of (r:=l.row.toRowW) (X:=(true==true))
  (show WShape.has [] (.bool true) .bool=true by first | rfl | decide | simp[WShape.has,WShape.arms,WShape.armsAll])
  (show(WTm.eq .res (.lit (.bool true))).value [] {args:=args,res:=some (.bool true),after:=args}=some (.bool (true==true))from w_eq_bool (w_res rfl) w_lit) rfl
theorem Sd{l:OpenLaw}{n:Nat}{q:Program}{loose:List Str}{XP:(Str->Option Value)->Heap->Prop}{YP:World->Heap->Prop}{d:DefRec}
  (hn:l.most=some n) (hdf:d.params.defaults=[])
  (call:∀(w:World) (s₀ s₁:Shared) (mg mb:Str->Option Value) (fa:Addr) (o:Obj) (pm cd doc:Value) (a:Addr) (vs:List Value) (ns:List Int),
   Ground q loose [] XP w s₀ mg mb s₁.heap->YP w s₁.heap->
   s₁.heap.get? fa=some o->o.data= .func (docDef d.name d.params d.body d.scope pm cd doc)->s₁.heap.CodeRec cd d.name->mg d.name=some (.ref fa)->
   s₁.heap.get? a=some {cls:= .type "list",data:= .seq vs.toArray}->IntsAre vs ns->ns.length<=n->s₁.gens= #[]->
   codeAny (model l.prog w) callerA (.call (.ref fa) ⟨[.ref a],[]⟩) (λr s'=>r= .ok (.ret (.bool true))/\OldK s₁.heap s'.heap/\s'.os=s₁.os/\AllBare s'.gens) s₁):
  WalkO q loose XP YP l.row.toRowW d [] (λf vs=>PySem.call f vs):=by
 intro w s₀ s₁ mg mb G Y fa o pm cd doc dV kV ho hd hcd hD hmg hg args vals as hpre hlay hrd hwl hlo
 obtain rfl:dV= .none:=Dflts.none hD hdf
 obtain rfl:kV= .none:=Dflts.noKw hD
 obtain⟨a,vs,ns,rfl,rfl,hobj,hints,hlen⟩:=W9 hn hpre hwl
 refine enter_call (codeAny_mono (call w s₀ s₁ mg mb fa o pm cd doc a vs ns G Y ho (fd_plain hd) hcd hmg hobj hints hlen hg) λr s' hq=> ?_)
 obtain⟨rfl,h2,h3,h4⟩:=hq
 exact⟨.inl ⟨.bool true,.bool true,[],rfl,λ_=>rfl,.bool true,Xj l _,λ_=>⟨List.Pairwise.nil,λ_ hm=>(nomatch hm)⟩⟩,h2,h3,h4⟩
end Att
namespace L2
open PySem PySem.Spec PyProof.Rows
theorem K9:∀{vs:List Value} {ns:List Int},IntsAre vs ns->Vals (ns.map V.int) vs
 | _,_,.nil=> .nil
 | _,_,.cons n t h=> .cons ⟨t,rfl⟩ (K9 h)
def Only(H:Hp):Prop:=∀b,H b=none\/∃o xs,H b=some (.jY o (.lst xs))
theorem aaS{P:Program}{w:World}{K:Frag}{mg mb:Str->Option Value}{CX:Vf}{k:Nat}{fa a:Addr}{fd:FuncData}{x:Str}{sp:Sp}{s₁:Shared}{vs:List Value}{ns:List Int}
  (KX:K.In s₁.heap) (hns:s₁.heap.Ns mainGlobals mg) (hb:s₁.heap.Ns builtinsNs mb) (hbb:∀x:Str,x≠ "__name__" -> mb x=bootBuiltins x) (hlim:s₁.heap.NoLimit) (hg:s₁.gens= #[])
  (ha:s₁.heap.get? a=some {cls:= .type "list",data:= .seq vs.toArray}) (hi:IntsAre vs ns) (hl:ns.length<=sizeLine) (hr:gQ k callerA)
  (F:∀base:Heap,K.In base->base.Ns mainGlobals mg->aM P w K mg base CX k fa fd [x] sp) (hbind:∀(s:Shared) (u:Value),BindsTo s fd ⟨[u],[]⟩ [(x,u)])
  (hsp:∀H:Hp,Only H->pO K H a (ns.map V.int)->sp [.ref a] H (λv _=>v= .bl true) λ_ _ _=>False)
  (hCX:∀H e s',CX [] H s₁ (λ_ _ _=>False) e s'->False):
  codeAny (model P w) callerA (.call (.ref fa) ⟨[.ref a],[]⟩) (λr s'=>r= .ok (.ret (.bool true))/\OldK s₁.heap s'.heap/\s'.os=s₁.os/\AllBare s'.gens) s₁:=by
 have rv:=K9 hi
 have lenV:=hi.length
 have core:∀H:Hp,Only H->pO K H a (ns.map V.int)->rE P w H s₁.heap->(∀b,H b≠none->b=a)->(H a≠none->K.lookup a=none)->
   codeAny (model P w) callerA (.call (.ref fa) ⟨[.ref a],[]⟩) (λr s'=>r= .ok (.ret (.bool true))/\OldK s₁.heap s'.heap/\s'.os=s₁.os/\AllBare s'.gens) s₁:=by
  intro H hO hS hok hA hK
  have WD:∀{b:Addr} {o:Obj},s₁.heap.get? b=some o->H b=none->(Ox s₁.heap H).get? b=some o:=λe n=>aa5 e n
  have noA:∀{b:Addr} {o:Obj} {es:Array DictEntry} {ep:Nat},s₁.heap.get? b=some o->o.data= .dict es ep->H b=none:=λ{b o es ep} e d=>by
   cases q:H b with
   | none=>rfl
   | some u=>
    have e':b=a:=hA b (by rw[q];simp)
    subst e'
    rw[ha]at e;cases e
    have d':Data.seq vs.toArray _=Data.dict es ep:=d
    cases d'
  have nsK:∀{b:Addr} {m:Str->Option Value},s₁.heap.Ns b m->(Ox s₁.heap H).Ns b m:=λ{b m} ⟨o,es,ep,e,d,r⟩=>⟨o,es,ep,WD e (noA e d),d,r⟩
  have hKb:K.In (Ox s₁.heap H):=λb o e=>WD (KX b o e) (by
   cases q:H b with
   | none=>rfl
   | some u=>
    have e':b=a:=hA b (by rw[q];simp)
    subst e'
    rw[hK (by rw[q];simp)]at e;cases e)
  have hM:Mod K mg (Ox s₁.heap H):=⟨hKb,nsK hns,⟨mb,nsK hb,hbb⟩,let⟨mc,h1,h2⟩:=hlim;⟨mc,nsK h1,h2⟩⟩
  have e0:K5 P w K mg (Ox s₁.heap H) callerA [] s₁ H:=⟨rfl,hM,λb o e=>adg e,Nat.le_of_eq (XX _ _),trivial,λb hb=>absurd (show b∈([]:List Addr)from hb) (by simp),hok,.of_eq hg⟩
  refine codeAny_mono ((F _ hKb (nsK hns)).run callerA [] s₁ H ⟨[.ref a],[]⟩ [.ref a] [.ref a] _ _ hr e0 (hbind s₁ (.ref a)) (.cons rfl .nil) (hsp H hO hS)) λr s' h=> ?_
  cases r with
  | error e=>exact(hCX H e s' h).elim
  | ok fl=>
   cases fl with
   | next=>exact False.elim h
   | brk=>exact False.elim h
   | cont=>exact False.elim h
   | ret u=>
    obtain⟨v,H',os,bare,un,hok',r',q⟩:=h
    have q':v= .bl true:=q
    subst q'
    obtain rfl:u=Value.bool true:=r'
    refine⟨rfl,OldK.of_keep λb o e=> ?_,os,bare⟩
    cases q:H b with
    | none=>exact un.keep b o e q (by intro z;exact absurd (show b∈([]:List Addr)from z) (by simp)) (by simp)
    | some u=>
     rcases hO b with z | ⟨ob,xs,z⟩
     ·rw[q]at z;cases z
     ·have z2:=un.qX b ob _ z
      obtain⟨e1,_⟩:=hok b _ z
      obtain⟨e2,_⟩:=hok' b _ z2
      rw[e]at e1;cases e1
      exact e2
 cases hk:K.lookup a with
 | some o=>
  have e:=KX a o hk
  rw[ha]at e
  cases e
  refine core (λ_=>none) (λ_=> .inl rfl) (.inr ⟨_,vs.toArray,_,hk,rfl,rfl,rfl,by rw[List.size_toArray,lenV];exact hl,by simpa using rv⟩) (λb u z=>by have z':(none:Option HO)=some u:=z;cases z') (λb z=>absurd rfl z) λz=>absurd rfl z
 | none=>
  refine core (λb=>if b=a then some (.jY {cls:= .type "list",data:= .seq vs.toArray} (.lst (ns.map V.int)))else none) (λb=> ?_) (.inl (.inr ⟨{cls:= .type "list",data:= .seq vs.toArray},if_pos rfl⟩)) (λb u z=> ?_) (λb z=> ?_) λ_=>hk
  ·by_cases hb:b=a
   ·exact .inr ⟨_,_,if_pos hb⟩
   ·exact .inl (if_neg hb)
  ·by_cases hb:b=a
   ·have z':=(if_pos hb).symm.trans z
    cases z'
    subst hb
    exact⟨ha,by rw[zar];exact hl,vs,_,rv,ha⟩
   ·have z':=(if_neg hb).symm.trans z
    cases z'
  ·by_cases hb:b=a
   ·exact hb
   ·exact absurd (if_neg hb) z
abbrev KOf{K:Frag}{h:Heap}(_:K.In h):Frag:=K
theorem ab2{l:PySem.W.OpenLaw}{n k:Nat}{q:Program}{loose:List Str}{XP:(Str->Option Value)->Heap->Prop}{YP:World->Heap->Prop}{d:DefRec}{K:Params->Frag}{CX:World->Vf}{sp:World->Sp}{x:Str}
  (hn:l.most=some n) (hn2:n<=sizeLine) (hdf:d.params.defaults=[]) (hr:gQ k callerA)
  (hY:∀(w:World) (h:Heap),YP w h->(K w.params).In h)
  (F:∀(w:World) (mg:Str->Option Value) (fa:Addr) (h:Heap),(K w.params).In h->h.Ns mainGlobals mg->mg d.name=some (.ref fa)->
   ∃fd:FuncData,(∀(s:Shared) (u:Value),BindsTo s fd ⟨[u],[]⟩ [(x,u)])/\
    ∀base:Heap,(K w.params).In base->base.Ns mainGlobals mg->aM l.prog w (K w.params) mg base (CX w) k fa fd [x] (sp w))
  (hsp:∀(w:World) (H:Hp) (a:Addr) (ns:List Int),ns.length<=n->Only H->pO (K w.params) H a (ns.map V.int)->sp w [.ref a] H (λv _=>v= .bl true) λ_ _ _=>False)
  (hCX:∀(w:World) (H:Hp) (s:Shared) (e:Value) (s':Shared),CX w [] H s (λ_ _ _=>False) e s'->False):
  PySem.W.WalkO q loose XP YP l.row.toRowW d [] (λf vs=>PySem.call f vs):=by
 refine Att.Sd hn hdf λw s₀ s₁ mg mb fa o pm cd doc a vs ns G Y ho hd hcd hmg hobj hints hlen hg=> ?_
 have KX:=hY w _ Y
 obtain⟨fd,hb,hF⟩:=F w mg fa _ KX G.T.g hmg
 exact aaS KX G.T.g G.T.b G.T.builtins G.T.nolimit hg hobj hints (yY hlen hn2) hr hF hb (λH hO hS=>hsp w H a ns hlen hO hS) λH e s'=>hCX w H s₁ e s'
def inClass(s:Stmt)(j:Nat):Stmt:=match s with
 | .ClassDef _ _ _ body _ _ _ _ _ _ _=>body.getD j (.Pass ⟨0,0,0,0⟩)
 | _=> .Pass ⟨0,0,0,0⟩
def d_(s:Stmt):Arguments:=match s with
 | .FunctionDef _ a _ _ _ _ _ _ _ _=>a
 | _=>{posonlyargs:=[],args:=[],vararg:=none,kwonlyargs:=[],kw_defaults:=[],kwarg:=none,defaults:=[]}
def cM(s:Stmt):List Stmt:=match s with
 | .FunctionDef _ _ b _ _ _ _ _ _ _=>b
 | _=>[]
def aC(s:Stmt):Scope:=match s with
 | .FunctionDef _ _ _ _ _ _ sc _ _ _=>sc
 | _=>{kind:= .function,names:=[],isGenerator:=false,isCoroutine:=false}
abbrev Vg:Vf:=λ_ _ _ _ _ _=>False
abbrev E0:XK:=λ_ _ _=>False
structure Fun(K:Frag)(x qual:Str)(st:Stmt)(f:Addr)(fd:FuncData):Prop where
 ex:∃(oc:Value) (od:Option Addr) (kV doc pm:Value) (an:Option Addr) (cdv ct:Value) (osl:Array (Option Value)),
  fd=fnOf x qual (d_ st) (cM st) (aC st) .none kV doc pm an cdv ct/\K.lookup f=some ⟨oc,od,.func fd,osl⟩/\codeIn K cdv qual=true
 kp:keepIn K (.ref f)=true
section
variable{P:Program}{w:World}{K:Frag}{mg:Str->Option Value}{base:Heap}
theorem Fun.ok{x qual:Str}{st:Stmt}{f:Addr}{fd:FuncData}{N ps:List Str}{k:Nat}{sp:Sp}(F:Fun K x qual st f fd)(S:aJ N ps (aC st))(len:∀vs H Q E,sp vs H Q E->vs.length=ps.length)
  (hbody:∀(cdv:Value) (A:Around) (outer:List Env) (s:Shared) (H:Hp) (vs:List V) (Q:VK) (E:XK),gQ k (A.deeper (envOfC qual (aC st) s.heap.objs.size f cdv))->sp vs H Q E->
   ∃t,Gm (wY Vg P w K mg base N qual (aC st) f cdv A outer s H E).nox (cM st) t/\t {nx:=λ_ H'=>Q .non H',rt:=Q} (start N vs) H):aM P w K mg base Vg (k+1) f fd ps sp:=by
 obtain⟨oc,od,kV,doc,pm,an,cdv,ct,osl,rfl,lk,hcd⟩:=F.ex
 refine abl lk hcd S len λA outer s H vs Q E hr hsp=> ?_
 obtain⟨t,h,q⟩:=hbody cdv A outer s H vs Q E hr hsp
 exact⟨t,h.nox,q⟩
end
section
variable{X:Cx}
theorem pv(i:Nat){x:Str}{pos:Pos}(hN:X.N[i]? = some x:=by rfl)(hv:Vis X.env.scope x:=by first | exact Or.inl rfl | exact Or.inr (Or.inl rfl) | exact Or.inr (Or.inr rfl))(hd:(x==("__debug__" : Str))=false:=by decide)
  (hcd:(x==("__classdict__" : Str))=false:=by decide):PE X (.Name x pos) (acg i):=aad hN hv hd hcd
end
def J9(H H':Hp):Prop:=∀b o,H b=some o->H' b=some o
theorem J9.trans{H H1 H2:Hp}(a:J9 H H1)(b:J9 H1 H2):J9 H H2:=λc o h=>b c o (a c o h)
theorem J9.free{H H':Hp}(e:J9 H H'){l:Addr}(h:H' l=Option.none):H l=Option.none:=by
 cases q:H l with
 | none=>rfl
 | some o=>
  rw[e l o q]at h
  cases h
theorem J9.seq{K:Frag}{H H':Hp}{a:Addr}{xs:List V}(e:J9 H H')(h:pO K H a xs):pO K H' a xs:=by
 rcases h with(h | ⟨o,h⟩) | h
 ·exact .inl (.inl (e _ _ h))
 ·exact .inl (.inr ⟨o,e _ _ h⟩)
 ·exact .inr h
theorem U4{env:Env}{scope:Scope}(h:∀n,(n,NameKind.free)∈scope.names->∃c,env.cells.lookup n=some c):
  ∃cl,closureFor scope env=pure cl/\(∀n c,cl.lookup n=some c->env.cells.lookup n=some c)/\∀n,(n,NameKind.free)∈scope.names->∃c,cl.lookup n=some c:=by
 have go:∀(names:List (Str×NameKind)) (acc:List (Str×Addr)),(∀n,(n,NameKind.free)∈names->∃c,env.cells.lookup n=some c)->(∀n c,acc.lookup n=some c->env.cells.lookup n=some c)->
   ∃cl,(forIn names acc λ(x:Str×NameKind) (r:List (Str×Addr))=>if(x.2==NameKind.free)=true then do let a <-cellOf env x.1;pure (ForInStep.yield ((x.1,a)::r))else pure (ForInStep.yield r):Sem (List (Str×Addr)))=pure cl/\
    (∀n c,cl.lookup n=some c->env.cells.lookup n=some c)/\(∀n,(n,NameKind.free)∈names->∃c,cl.lookup n=some c)/\∀n c,acc.lookup n=some c->∃c,cl.lookup n=some c:=by
  intro names
  induction names with
  | nil=>intro acc _ h2;exact⟨acc,rfl,h2,(λ_ z=>nomatch z),λn c e=>⟨c,e⟩⟩
  | cons x r ih=>
   intro acc h1 h2
   obtain⟨n,k⟩:=x
   by_cases hk:k=NameKind.free
   ·subst hk
    obtain⟨c,hc⟩:=h1 n xB
    obtain⟨cl,e1,e2,e3,e4⟩:=ih ((n,c)::acc) (λm z=>h1 m (yT _ z)) (λm d e=>by
     rw[List.lookup_cons]at e
     cases q:m==n with
     | true=>rw[q]at e;cases e;rw[eq_of_beq q];exact hc
     | false=>rw[q]at e;exact h2 m d e)
    refine⟨cl,?_,e2,λm z=> ?_,λm d e=> ?_⟩
    ·rw[List.forIn_cons]
     have:cellOf env n=pure c:=by unfold cellOf;rw[hc]
     simp only[this,beq_self_eq_true,if_true]
     exact e1
    ·rcases List.mem_cons.mp z with z | z
     ·cases z
      exact e4 n c (by rw[List.lookup_cons,beq_self_eq_true])
     ·exact e3 m z
    ·cases q:m==n with
     | true=>exact e4 m c (by rw[List.lookup_cons,q])
     | false=>exact e4 m d (by rw[List.lookup_cons,q];exact e)
   ·obtain⟨cl,e1,e2,e3,e4⟩:=ih acc (λm z=>h1 m (yT _ z)) h2
    refine⟨cl,?_,e2,λm z=> ?_,e4⟩
    ·rw[List.forIn_cons]
     have:(k==NameKind.free)=false:=by simpa using hk
     simp only[this,Bool.false_eq_true,if_false]
     exact e1
    ·rcases List.mem_cons.mp z with z | z
     ·cases z;exact absurd rfl hk
     ·exact e3 m z
 obtain⟨cl,e1,e2,e3,_⟩:=go scope.names [] h (λ_ _ e=>nomatch e)
 refine⟨cl,?_,e2,e3⟩
 unfold closureFor
 show(forIn scope.names [] _ >>= λr=>pure r)=_
 rw[show(forIn scope.names [] λ(x:Str×NameKind) (r:List (Str×Addr))=>_:Sem (List (Str×Addr)))=pure cl from e1]
 rfl
noncomputable def dz(env:Env)(x:Str×NameKind):Str×NameKind:=if(x.2== .free&&env.scope.kind== .function&&env.kindOf x.1==some .cell)then(x.1,.cell)else(x.1,x.2)
theorem Jk(env:Env)(x:Str×NameKind):(dz env x).1=x.1:=by
 unfold dz;split<;>rfl
theorem VG{env:Env}{y:Str}:∀{names:List (Str×NameKind)},(∀z∈names,z.2≠ .cell)->((names.map (dz env)).lookup y=some .cell\/(names.map (dz env)).lookup y=some .free)->(y,NameKind.free)∈names
 | [],_,h=>by rcases h with h | h<;>cases h
 | (n,k)::r,hc,h=>by
  rw[List.map_cons]at h
  have e1:(dz env (n,k)).1=n:=Jk env (n,k)
  cases hx:y==n with
  | true=>
   have ey:=eq_of_beq hx
   subst ey
   have hk:k≠ .cell:=hc (y,k) xB
   have q:(dz env (y,k)).2= .cell\/(dz env (y,k)).2= .free:=by
    have l:∀kk,List.lookup y (dz env (y,k)::List.map (dz env) r)=some kk->(dz env (y,k)).2=kk:=λkk z=>by
     rw[show dz env (y,k)=(y,(dz env (y,k)).2)from Prod.ext e1 rfl,List.lookup_cons,beq_self_eq_true]at z
     exact xI z
    rcases h with h | h
    ·exact .inl (l _ h)
    ·exact .inr (l _ h)
   have hk2:k= .free:=by
    unfold dz at q
    split at q
    ·rename_i z
     rw[Bool.and_eq_true,Bool.and_eq_true]at z
     simpa using z.1.1
    ·rcases q with q | q
     ·exact absurd q hk
     ·exact q
   rw[hk2]
   exact xB
  | false=>
   have l:List.lookup y (dz env (n,k)::List.map (dz env) r)=List.lookup y (List.map (dz env) r):=by
    rw[show dz env (n,k)=(n,(dz env (n,k)).2)from Prod.ext e1 rfl,List.lookup_cons,hx]
   rw[l]at h
   exact yT _ (VG (λz hz=>hc z (yT _ hz)) h)
theorem ZX{env:Env}{y:Str}:∀{names:List (Str×NameKind)},names.lookup y=some .free->(names.map (dz env)).lookup y=some .cell\/(names.map (dz env)).lookup y=some .free
 | [],h=>by cases h
 | (n,k)::r,h=>by
  rw[List.map_cons]
  have e1:(dz env (n,k)).1=n:=Jk env (n,k)
  rw[show dz env (n,k)=(n,(dz env (n,k)).2)from Prod.ext e1 rfl,List.lookup_cons]
  rw[List.lookup_cons]at h
  cases hx:y==n with
  | true=>
   rw[hx]at h
   have hk:k= .free:=xI h
   subst hk
   show some (dz env (n,NameKind.free)).2=some NameKind.cell\/some (dz env (n,NameKind.free)).2=some NameKind.free
   unfold dz
   split
   ·exact .inl rfl
   ·exact .inr rfl
  | false=>
   rw[hx]at h
   exact ZX h
section
variable{prog:Program}{w:World}{A:Around}{R:Result->Shared->Prop}
theorem YZ{elt tg iter:Expr}{ifs:List Expr}{scope:Scope}{pos:Pos}{it acc:Value}{env:Env}(W:Nat->Shared->Prop){s:Shared}
  (turn:∀n s,W n s->wpAny (model prog w) A (pyNext it) (λr s1=>match r with
   | none=>R (.ok .next) s1
   | some v=>wpAny (model prog w) A (letOwnedTupleGo tg it v) (λ_ s2=>wpAny (model prog w) A (assign tg env v) (λ_ s3=>
     wpAny (model prog w) A (forIn ifs true λc r=>if r=true then do let ok <-isTrue c env (eval c env);pure (ForInStep.yield ok)else pure (ForInStep.yield r)) (λok s4=>
      if ok=true then wpAny (model prog w) A (eval elt env) (λx s5=>wpAny (model prog w) A (call (.builtin "list.append") [acc,x]) (λ_ s6=>∃m,m<n/\W m s6) (λ_ _=>False) s5) (λ_ _=>False) s4
      else ∃m,m<n/\W m s4) (λ_ _=>False) s3) (λ_ _=>False) s2) (λ_ _=>False) s1) (λ_ _=>False) s)
  (n:Nat) (h:W n s):codeAny (model prog w) A (.compLoop (.ListComp elt [⟨tg,iter,ifs,0⟩] scope pos) 0 it acc env) R s:=by
 have ex:∀{α:Type} {t:Sem α} {Q Q':α->Shared->Prop} {E:Value->Shared->Prop} {s:Shared},wpAny (model prog w) A t Q (λ_ _=>False) s->(∀a s,Q a s->Q' a s)->wpAny (model prog w) A t Q' E s:=
  λh f=>vE h f λ_ _ z=>z.elim
 refine codeAny_loop rfl W (λn s hI=> ?_) n h
 show wpAny _ A ((compTurn (.ListComp elt [⟨tg,iter,ifs,0⟩] scope pos) 0 it acc env).onRaise (λx=>do noteFrame x env;theTreesLotGoes x)) _ _ s
 refine wpAny_noted ?_
 rw[compTurn_list]
 refine zC (wpAny_standAt (zC (ex (turn n s hI) λr s1 h1=> ?_)))
 cases r with
 | none=>exact zI h1
 | some v=>
  refine zC (ex h1 λ_ s2 h2=>zC (ex h2 λ_ s3 h3=>zC (ex h3 λok s4 h4=> ?_)))
  cases ok with
  | false=>exact zI ⟨rfl,h4⟩
  | true=>exact zC (zC (ex h4 λx s5 h5=>zC (ex h5 λ_ s6 h6=>zI (zI ⟨rfl,h6⟩))))
end
noncomputable def gJ(X:Cx)(scope:Scope)(cl:List (Str×Addr))(C:Addr)(N:List Str)(fp:List Addr)(s:Shared)(H:Hp):Cx where
 prog:=X.prog
 w:=X.w
 K:=X.K
 mg:=X.mg
 base:=X.base
 A:=X.A
 N:=N
 s₀:=s
 H₀:=H
 env:=compEnvC scope cl C X.env
 outer:=X.stack
 stack:=X.stack
 ex:=fp
 fn:=λ_=>false
 calm:=X.calm
 pn:=[]
 xe:=λ_ _=>False
def Ba(X:Cx)(scope:Scope):List Str->List Nat->Prop
 | [],[]=>True
 | y::cs,i::js=>(X.N[i]? = some y/\scope.names.lookup y=some .free/\(X.env.kindOf y=some .cell\/X.env.kindOf y=some .free))/\Ba X scope cs js
 | _,_=>False
theorem Ba.len{X:Cx}{scope:Scope}:∀{cs:List Str} {js:List Nat},Ba X scope cs js->js.length=cs.length
 | [],[],_=>rfl
 | _::_,_::_,h=>by rw[List.length_cons,List.length_cons,Ba.len h.2]
 | [],_::_,h=>h.elim
 | _::_,[],h=>h.elim
theorem Ba.get{X:Cx}{scope:Scope}{y:Str}:∀{cs:List Str} {js:List Nat} {j:Nat},Ba X scope cs js->cs[j]? = some y->
  ∃i,js[j]? = some i/\X.N[i]? = some y/\scope.names.lookup y=some .free/\(X.env.kindOf y=some .cell\/X.env.kindOf y=some .free)
 | [],[],_,_,e=>by simp at e
 | _::_,i::_,0,h,e=>by simp at e;subst e;exact⟨i,rfl,h.1.1,h.1.2⟩
 | _::_,_::_,j+1,h,e=>by
  obtain⟨i,e1,r⟩:=Ba.get (j:=j) h.2 (by simpa using e)
  exact⟨i,by simpa using e1,r⟩
 | [],_::_,_,h,_=>h.elim
 | _::_,[],_,h,_=>h.elim
def caps(js:List Nat)(σ:St):St:=js.map λi=>(σ[i]?).join
def PTs(X:Cx)(ifs:List Expr)(t:TT):Prop:=
 ∀(pins:List (Addr×Obj)) (s:Shared) (σ:St) (H:Hp) (Q:Bool->Hp->Prop),Inv X pins σ H s->t σ H Q->
  wpAny (model X.prog X.w) X.A (forIn ifs true λc r=>if r=true then do let ok <-isTrue c X.env (eval c X.env);pure (ForInStep.yield ok)else pure (ForInStep.yield r)) (TP X pins σ Q) X.xe s
def ak5:TT:=λ_ H Q=>Q true H
theorem acN{X:Cx}:PTs X [] ak5:=λ_ _ _ H _ I h=>zI ⟨H,I,h⟩
theorem acM{X:Cx}{c:Expr}{t:TT}(h:PT X c t):PTs X [c] t:=by
 intro pins s σ H Q I hq
 rw[List.forIn_cons]
 simp only[if_true]
 exact zC (zC (f9 (h pins s σ H Q I hq) λok s1 q=>zI (zI q)))
def ahf(js:List Nat)(tt:TT)(te:TE)(σ:St)(Q:VK)(J:It)(H1:Hp):Prop:=
 ∃W:Nat->Nat->List V->Hp->Prop,(∃m,W 0 m [] H1)/\∀i m ys H,W i m ys H->
  (J.stop i H/\ys.length<=sizeLine/\∀p,H p=none->Q (.ref p) (upd H p (.lst ys)))\/
  (J.go i H/\∃N:List V->Hp->Prop,(∀ys' H',N ys' H'->ys'.length<=sizeLine/\∃m',m'<m/\W (i+1) m' ys' H')/\∀x H',J.YF i H x H'->tt (some x::caps js σ) H' λb H2=>
   if b=true then te (some x::caps js σ) H2 λy H3=>N (ys++[y]) H3 else N ys H2)
def aen(js:List Nat)(wi:TI)(tt:TT)(te:TE):TE:=λσ H Q=>wi σ H λJ H1=>ahf js tt te σ Q J H1
theorem rE.track{P:Program}{w:World}{H:Hp}{h:Heap}{a:Addr}{o:HO}(x:rE P w H h)(hn:H a=none)(new:bQ P w (upd H a o) h a o):rE P w (upd H a o) h:=λb u e=>by
 by_cases hb:b=a
 ·subst hb;rw[bh]at e;cases e;exact new
 ·rw[aG hb]at e
  exact(x b u e).stay (λc v _ q=>q) (λc q=>by rw[aG (bA q hn)];exact q) λc xs q=>by rw[aG (bA q hn)];exact q
theorem Un.track{fs ex:List Addr}{H H1:Hp}{h h1:Heap}{a:Addr}{o:HO}(u:Un fs ex H H1 h h1)(hn:h.get? a=none)(hH:H a=none):Un fs ex H (upd H1 a o) h h1 where
 keep:=u.keep
 slot:=u.slot
 free:=λb ob e n hx=>by rw[aG (by rintro rfl;rw[hn]at e;cases e)];exact u.free b ob e n hx
 there:=u.there
 tups:=λb xs e=>by rw[aG (bA e hH)];exact u.tups b xs e
 qX:=λb ob xs e=>by rw[aG (bA e hH)];exact u.qX b ob xs e
 sY:=λb ps e=>by rw[aG (bA e hH)];exact u.sY b ps e
section
variable{X:Cx}{x:Str}{px:Pos}{elt iter:Expr}{ifs:List Expr}{scope:Scope}{cs:List Str}{js:List Nat}{tt:TT}{te:TE}{pos:Pos}
theorem U3{cl:List (Str×Addr)}{pins:List (Addr×Obj)}{σ:St}{H2:Hp}{s2:Shared}{it:Addr}{fp:List Addr}{tn:Nat->Heap->Prop}{J:It}{Q:VK}{RR:Value->Addr->Result->Shared->Prop}
  (hc:X.calm=true) (hcap:Ba X scope cs js) (ht:∀cl C fp s H,PTs (gJ X scope cl C (x::cs) fp s H) ifs tt) (he:∀cl C fp s H,PE (gJ X scope cl C (x::cs) fp s H) elt te)
  (hcell:∀y∈scope.names,y.2≠ .cell) (hkind:scope.kind= .function) (hx:scope.names.lookup x=some .local) (hnd:(x::cs).Nodup)
  (Oz:∀n c,cl.lookup n=some c->X.env.cells.lookup n=some c) (adC:∀n,(n,NameKind.free)∈scope.names->∃c,cl.lookup n=some c)
  (I2:Inv X pins σ H2 s2) (T:Turn X.prog X.w X.K (.Name x px) J fp it tn) (st2:tn 0 s2.heap) (f2:∀b∈fp,Ah X pins H2 b)
  (W:Nat->Nat->List V->Hp->Prop) (w0:∃m,W 0 m [] H2)
  (step:∀i m ys H,W i m ys H->
   (J.stop i H/\ys.length<=sizeLine/\∀p,H p=none->Q (.ref p) (upd H p (.lst ys)))\/
   (J.go i H/\∃N:List V->Hp->Prop,(∀ys' H',N ys' H'->ys'.length<=sizeLine/\∃m',m'<m/\W (i+1) m' ys' H')/\∀x H',J.YF i H x H'->tt (some x::caps js σ) H' λb H2=>
    if b=true then te (some x::caps js σ) H2 λy H3=>N (ys++[y]) H3 else N ys H2))
  (fin:∀(D C:Addr) (H3:Hp) (s4:Shared) (m':Str->Option Value),Inv X pins σ H3 s4->s4.heap.Ns C m'->s2.heap.objs.size<=C->H3 C=none->Q (.ref D) H3->RR (.ref D) C (.ok .next) s4):
  wpAny (model X.prog X.w) X.A (newList []) (λacc s3=>wpAny (model X.prog X.w) X.A (newFunctionEnv scope X.env.globals cl [] X.env.qual none .none (some X.env)) (λcenv s4=>
   codeAny (model X.prog X.w) X.A (.compStart (.ListComp elt [⟨.Name x px,iter,ifs,0⟩] scope pos) 0 (.ref it) acc {cenv with scope:=relabel scope X.env}) (RR acc cenv.locals) s4) X.xe s3) X.xe s2:=by
 refine wT (wpAny_newFunctionEnv hcell (by intro y hy;simp at hy) (λh1 hns hsb=> ?_) hkind)
 dsimp only at hns hsb ⊢
 generalize hP:s2.heap.push {cls:= .type "list",dict:=none,data:= .seq ([]:List Value).toArray}=hq at hns hsb ⊢
 have eC:hq.objs.size=s2.heap.objs.size+1:=by rw[<-hP,Heap.size_push]
 generalize eD:s2.heap.objs.size=D at eC ⊢
 generalize eCC:hq.objs.size=C at hns hsb eC ⊢
 have DC:D≠C:=by omega
 have old:∀b o,s2.heap.get? b=some o->h1.get? b=some o:=λb o e=>by
  have lt: @LT.lt Nat _ b s2.heap.objs.size:=zS e
  exact hsb.extBut b o (λz=>by subst z;omega) (zD _ (hP▸zD _ e))
 have al4:h1.get? D=some {cls:= .type "list",dict:=none,data:= .seq ([]:List Value).toArray}:=hsb.extBut _ _ DC (zD _ (hP▸eD▸yB _ rfl))
 have noD:s2.heap.get? D=none:=Heap.get?_none_of_le (by omega)
 have HD:H2 D=none:=I2.hok.fresh (by omega)
 have HC:H2 C=none:=I2.hok.fresh (by omega)
 have ajr:∀b∈fp,@LT.lt Nat _ b D:=λb hb=>by
  obtain⟨o,e,_⟩:=T.obj _ _ st2 b hb
  have q: @LT.lt Nat _ b s2.heap.objs.size:=zS e
  omega
 have Dfp:D∉fp:=λz=>wS _ (ajr D z)
 have alU:∀b∈frs X.stack,@LT.lt Nat _ b D:=λb hb=>by
  obtain⟨_,o,ho,_⟩:=I2.stack.mem hb
  have q: @LT.lt Nat _ b s2.heap.objs.size:=zS ho
  omega
 have alY:∀y c,cl.lookup y=some c-> @LT.lt Nat _ c D:=λy c e=>by
  obtain⟨v,z⟩:=I2.cell y c (Oz y c e)
  have q: @LT.lt Nat _ c s2.heap.objs.size:=z.lt
  omega
 have ok:(gJ X scope cl C (x::cs) fp s2 H2).Ok:=by
  refine⟨I2.ok.mod,hkind,I2.ok.glob,I2.ok.blt,(by show s2.heap.objs.size<=C;omega),λy z c e1 e2=>I2.ok.inj y z c (Oz y c e1) (Oz z c e2),λy hy=>adC y (VG hcell hy),λy c e=>(by cases e),I2.ok.hd,I2.ok.frames,.inl rfl,
   λb hb=>⟨?_,λy c e=>(f2 b hb).2.2.2.2.1 y c (Oz y c e)⟩,I2.bs,yY I2.ok.Wx I2.sz,λb o e hb=> ?_,λb hb z=> ?_,I2.stack,I2.Hu⟩
  ·have q:=ajr b hb
   show b≠C
   intro z
   subst z
   omega
  ·rcases(f2 b hb).2.2.2.1 with z | z
   ·exact I2.ok.Q9 b o e z
   ·have l: @LT.lt Nat _ b X.base.objs.size:=zS e
    have l2:=I2.ok.Wx
    have l3: @LE.le Nat _ X.s₀.heap.objs.size b:=z
    omega
  ·rcases List.mem_cons.mp (I2.MP b z)with e | e
   ·exact(f2 b hb).2.1 e
   ·exact(f2 b hb).2.2.1 e
 have I0:Inv (gJ X scope cl C (x::cs) fp s2 H2) [(D,{cls:= .type "list",dict:=none,data:= .seq ([]:List Value).toArray})] (none::caps js σ) H2 {s2 with heap:=h1,toks:=s2.toks+([]:List (Str×Value)).length}:=by
  refine⟨ok,rfl,I2.bare,Un.kept old,⟨_,hns,λi y v e1 e2 e3=> ?_⟩,λy c e=> ?_,HC,λy c e=>I2.jl y c (Oz y c e),λp hp=> ?_,I2.hok.kept old,?_⟩
  ·cases i with
   | zero=>simp at e2
   | succ j=>
    have e1':cs[j]? = some y:=by simpa[gJ]using e1
    obtain⟨i0,q1,q2,q3,q4⟩:=hcap.get e1'
    have e2':σ[i0]? = some (some v):=by
     have z:(caps js σ)[j]? = some (some v):=by simpa using e2
     unfold caps at z
     rw[zaq,q1]at z
     have z':(σ[i0]?).join=some v:=by simpa using z
     cases r:σ[i0]? with
     | none=>rw[r]at z';cases z'
     | some r'=>rw[r]at z';exact congrArg some z'
    obtain⟨m,_,hl⟩:=I2.loc
    obtain⟨u,r,l⟩:=hl i0 y v q2 e2' (by rcases q4 with q | q;exact .inr (.inl q);exact .inr (.inr q))
    obtain⟨c,hcy⟩:=adC y (PySem.mem_of_lookup q3)
    refine⟨u,r,.inr ⟨ZX q3,c,hcy,?_⟩⟩
    rcases l with⟨k,_⟩ | ⟨_,c',ec,o,ho,hd⟩
    ·rcases q4 with q | q<;>rw[q]at k<;>cases k
    ·rw[Oz y c hcy]at ec
     cases ec
     exact⟨o,old _ _ ho,hd⟩
  ·obtain⟨v,o,ho,hd⟩:=I2.cell y c (Oz y c e)
   exact⟨v,o,old _ _ ho,hd⟩
  ·have ep:p=(D,{cls:= .type "list",dict:=none,data:= .seq ([]:List Value).toArray}):=by simpa[gJ]using hp
   subst ep
   exact⟨al4,HD,(by show D≠C;omega),(λz=>wS _ (alU D z)),λv z=>by cases z⟩
  ·show(none::caps js σ).length=(x::cs).length
   unfold caps
   rw[List.length_cons,List.length_cons,zar,hcap.len]
 have stat:∀{pn:List (Addr×Obj)} {H':Hp},(∀b∈fp,H' b=none)->(∀p∈pn,p.1∉fp)->∀b∈fp,Ah (gJ X scope cl C (x::cs) fp s2 H2) pn H' b:=λhn hpn b hb=>
  ⟨hn b hb,(ok.exf b hb).1,ok.RG b hb,.inl hb,λy c e=>(ok.exf b hb).2 y c e,λp hp z=>hpn p (by simpa[gJ]using hp) (z▸hb)⟩
 have loop:∀s3:Shared,s3={s2 with heap:=h1,toks:=s2.toks+([]:List (Str×Value)).length}->
   codeAny (model X.prog X.w) X.A (.compLoop (.ListComp elt [⟨.Name x px,iter,ifs,0⟩] scope pos) 0 (.ref it) (.ref D) (compEnvC scope cl C X.env)) (RR (.ref D) C) s3:=by
  rintro s3 rfl
  obtain⟨m0,w0⟩:=w0
  refine YZ (λn s=>∃(i:Nat) (ys:List V) (its:List Value) (c:Nat) (H:Hp),Inv (gJ X scope cl C (x::cs) fp s2 H2) [(D,{cls:= .type "list",data:= .seq its.toArray c})] (none::caps js σ) H s/\
   tn i s.heap/\(∀b∈fp,H b=none)/\Vals ys its/\W i n ys H) ?_ m0 ⟨0,[],[],0,H2,I0,T.keep _ _ _ st2 λb _ o e=>old b o e,λb hb=>(f2 b hb).1,.nil,w0⟩
  rintro n s3 ⟨i,ys,its,c,H3,I3,st3,fr3,rv,w3⟩
  have pD:∀p∈[((D,{cls:= .type "list",data:= .seq its.toArray c}):Addr×Obj)],p.1∉fp:=λp hp=>by
   have:p=(D,{cls:= .type "list",data:= .seq its.toArray c}):=by simpa using hp
   subst this
   exact Dfp
  rcases step i n ys H3 w3 with⟨stop,hlen,qn⟩ | ⟨go,N,hN,step⟩
  ·refine f9 (T.done (gJ X scope cl C (x::cs) fp s2 H2) rfl rfl rfl hc i _ s3 _ H3 (λ_ _=>False) I3 (stat fr3 pD) st3 stop) λr s4 ⟨hr,I4⟩=> ?_
   subst hr
   obtain⟨gD,nD,_⟩:=I4.pin _ (xE _ xB)
   obtain⟨m',hn',_⟩:=id I4.loc
   have u4:Un (frs X.stack) fp H2 H3 s2.heap s4.heap:=I4.base
   have k4:rE X.prog X.w (upd H3 D (.lst ys)) s4.heap:=rE.track I4.hok nD ⟨hlen,its,c,rv,gD⟩
   have I5:Inv X pins σ (upd H3 D (.lst ys)) s4:=I2.call' (ch:=fp) I4.os (u4.track noD HD) k4 I4.bare λb hb=>⟨(f2 b hb).2.2.2.1,(f2 b hb).2.1,(f2 b hb).2.2.2.2.1,(f2 b hb).2.2.2.2.2⟩
   exact fin D C _ s4 m' I5 hn' (by omega) (by rw[aG (Ne.symm DC)];exact I4.free) (qn D nD)
  ·refine f9 (T.item (gJ X scope cl C (x::cs) fp s2 H2) rfl rfl rfl hc i _ s3 _ H3 (λ_ _=>False) I3 (stat fr3 pD) st3 go) λr s4 ⟨u,hr,h4⟩=> ?_
   subst hr
   refine f9 h4 λ_ s5 ⟨v,H5,I5,r5,y5,st5,fr5⟩=> ?_
   have I5':=I5.pinned (stat fr5 pD) (T.obj _ _ st5)
   have hxl:(compEnvC scope cl C X.env).scope.names.lookup x=some .local:=lookup_relabel_local hx
   refine wpAny_assign_Name (xN (X:=gJ X scope cl C (x::cs) fp s2 H2) (i:=0) I5' hnd rfl (.inl hxl) r5 (λs6 I6=> ?_) (.inr hxl))
   have weak:∀{pn:List (Addr×Obj)} {H':Hp} {s':Shared},Inv (gJ X scope cl C (x::cs) fp s2 H2) pn (some v::caps js σ) H' s'->Inv (gJ X scope cl C (x::cs) fp s2 H2) pn (none::caps js σ) H' s':=λI'=>
    I'.weak rfl λj z e=>by
     cases j with
     | zero=>simp at e
     | succ j=>simpa using e
   have tnK:∀{σ':St} {H':Hp} {s':Shared},Inv (gJ X scope cl C (x::cs) fp s2 H2) ([(D,{cls:= .type "list",data:= .seq its.toArray c})]++Jo fp s5.heap) σ' H' s'->(∀b∈fp,∀o,s5.heap.get? b=some o->s'.heap.get? b=some o)/\∀b∈fp,H' b=none:=λI'=>
    ⟨λb hb o e=>(I'.pin (b,o) (xE _ (xE _ (vY hb e)))).1,λb hb=>by
     obtain⟨o,e,_⟩:=T.obj _ _ st5 b hb
     exact(I'.pin (b,o) (xE _ (xE _ (vY hb e)))).2.1⟩
   refine f9 (ht cl C fp s2 H2 _ s6 (some v::caps js σ) H5 _ I6 (step v H5 y5)) λb s7 ⟨H7,I7,q7⟩=> ?_
   cases b with
   | false=>
    rw[if_neg xA]at q7 ⊢
    obtain⟨_,m',hm,w7⟩:=hN _ _ q7
    exact⟨m',hm,i+1,ys,its,c,H7,weak I7.CJ,T.keep _ _ _ st5 (tnK I7).1,(tnK I7).2,rv,w7⟩
   | true=>
    rw[if_pos rfl]at q7 ⊢
    refine f9 (he cl C fp s2 H2 _ s7 (some v::caps js σ) H7 _ I7 q7) λyv s8 ⟨y,H8,I8,r8,q8⟩=> ?_
    obtain⟨hl8,m',hm,w8⟩:=hN _ _ q8
    rw[List.length_append,List.length_singleton]at hl8
    obtain⟨gD,nD,dC,dF,_⟩:=I8.pin (D,{cls:= .type "list",data:= .seq its.toArray c}) (xE _ (List.mem_append_left _ xB))
    have el:=rv.length
    refine wpAny_list_append_plain (hsz:=by rw[List.size_toArray];omega) ⟨c,gD⟩ λh9 p9 sb9=> ?_
    obtain⟨c9,g9⟩:=p9
    have g9':h9.get? D=some {cls:= .type "list",data:= .seq (its++[yv]).toArray c9}:=by simpa using g9
    have I9:Inv (gJ X scope cl C (x::cs) fp s2 H2) [] (none::caps js σ) H8 {s8 with heap:=h9}:=
     (weak (I8.vO (uG:=[]) (λp hp=>nomatch hp))).turned (t':=s8.toks) (it:=D) (λb o hb e=>(sb9.2 b hb).trans e) nD dC (.inr (by show s2.heap.objs.size<=D;omega)) (λy c e z=>by have q:=alY y c e;subst z;omega) (λp hp=>nomatch hp)
    refine⟨m',hm,i+1,ys++[y],its++[yv],c9,H8,I9.vO λp hp=> ?_,?_,(tnK I8).2,rv.append (.cons r8 .nil),w8⟩
    ·have:p=(D,{cls:= .type "list",data:= .seq (its++[yv]).toArray c9}):=by simpa using hp
     subst this
     exact⟨g9',nD,dC,dF,λv z=>by cases z⟩
    ·exact T.keep _ _ _ st5 λb hb o e=>(sb9.2 b (λz=>Dfp (z▸hb))).trans ((tnK I8).1 b hb o e)
 exact codeAny_compStart_list (loop _ rfl) (T.self _ 0 _ _ _ (T.keep _ _ _ st2 λb _ o e=>old b o e) (loop _ rfl))
theorem Inv.letGo{pins:List (Addr×Obj)}{σ:St}{H:Hp}{s:Shared}{C:Addr}{h':Heap}{s2:Shared}{H2:Hp}{σ2:St}(I2:Inv X pins σ2 H2 s2)(I:Inv X pins σ H s)(hC:s2.heap.objs.size<=C)(hn:H C=none)(sb:Heap.SameBut C s.heap h'):Inv X pins σ H {s with heap:=h'}:=
 I.turned (t':=s.toks) (λb o hb e=>(sb.2 b hb).trans e) hn (xS (yA I2.lt hC)) (.inr (yY I2.sz hC))
  (λy c e z=>by obtain⟨v,q⟩:=I2.cell y c e;exact absurd (yA q.lt (by rw[z];exact hC)) (wS _))
  (λp hp z=>absurd (yA (zS (I2.pin p hp).1) (by rw[z];exact hC)) (wS _))
theorem ac2{wi:TI}(hc:X.calm=true)(cs:List Str)(js:List Nat)(hi:PI X (.Name x px) iter wi)(hcap:Ba X scope cs js)(ht:∀cl C fp s H,PTs (gJ X scope cl C (x::cs) fp s H) ifs tt)(he:∀cl C fp s H,PE (gJ X scope cl C (x::cs) fp s H) elt te)
  (hall:∀y∈scope.names,y.2= .free->y.1∈cs) (hcell:∀y∈scope.names,y.2≠ .cell) (hnames:∀y∈scope.names,y.2= .local->scope.names.lookup y.1=some .local) (hnd:(x::cs).Nodup)
  (hkind:scope.kind= .function:=by rfl) (hx:scope.names.lookup x=some .local:=by rfl) (hs:∀v,foldedSetIterable iter X.env v=pure v:=by intro _;rfl):
  PE X (.ListComp elt [⟨.Name x px,iter,ifs,0⟩] scope pos) (aen js wi tt te):=by
 intro pins s σ H Q I h
 obtain⟨cl,alK,Oz,adC⟩:=U4 (env:=X.env) (scope:=scope) λn hn=>by
  obtain⟨j,hj⟩:=List.getElem?_of_mem (hall _ hn rfl)
  obtain⟨_,_,_,_,k⟩:=hcap.get hj
  exact I.ok.has n k
 rw[eval_ListComp]
 refine wpAny_comprehension_free (use:=none) rfl hs alK hkind hnames (f9 (hi pins s σ H _ I h) λv s1 h1=>f9 h1 λitv s2 h2=> ?_)
 obtain⟨it,fp,tn,J,H2,e,I2,T,st2,f2,W,w0,step⟩:=h2
 subst e
 refine U3 (Q:=Q) (RR:=λacc C=>compPost (model X.prog X.w) X.A X.xe none (EP X pins σ Q) acc C) hc hcap ht he hcell hkind hx hnd Oz adC I2 T st2 f2 W w0 step λD C H3 s4 m' I4 hn hC hH q=> ?_
 exact⟨m',hn,λh' sb=>⟨.ref D,H3,I2.letGo I4 hC hH sb,rfl,q⟩⟩
end
def abm:HO->Bool
 | .dT _=>false
 | .jY _ (.dT _)=>false
 | .jY _ (.ins _ _ _)=>false
 | .jY _ (.jY _ _)=>false
 | _=>true
def Flat(H:Hp):Prop:=∀a o,H a=some o->abm o=true
def WT(H:Hp):Prop:=∀a C dx fs,H a=some (.ins C dx fs)->H dx=some (.own a)
structure Fgt(H H' S8:Hp):Prop where
 sub:∀a o,S8 a=some o->H' a=some o
 flat:Flat S8
 own:WT H->WT S8
 tup:∀b xs,H b=some (.tup xs)->S8 b=some (.tup xs)
 jY:∀b o u,H b=some (.jY o u)->S8 b=some (.jY o u)
 Y7:∀b ps,H b=some (.Y7 ps)->∃more,S8 b=some (.Y7 (ps++more))
theorem Fgt.self{H H':Hp}(s:J9 H H')(f:Flat H):Fgt H H' H:=
 ⟨s,f,id,λ_ _ e=>e,λ_ _ _ e=>e,λ_ ps e=>⟨#[],by rw[e];simp⟩⟩
theorem J9.upd{H:Hp}{p:Addr}{o:HO}(n:H p=none):J9 H (upd H p o):=λb u e=>by rw[aG (bA e n)];exact e
theorem Flat.upd{H:Hp}{p:Addr}{o:HO}(f:Flat H)(h:abm o=true):Flat (upd H p o):=λa u e=>by
 by_cases z:a=p
 ·subst z;rw[bh]at e;cases e;exact h
 ·rw[aG z]at e;exact f a u e
theorem bQ.less{P:Program}{w:World}{H H':Hp}{h:Heap}{a:Addr}{o:HO}(x:bQ P w H' h a o)(f:abm o=true)(hw:∀C dx fs,o= .ins C dx fs->H dx=some (.own a)):bQ P w H h a o:=by
 cases o with
 | dT kvs=>exact absurd f xA
 | ins C dx fs=>exact⟨hw C dx fs rfl,x.2⟩
 | jY ob u=>
  cases u with
  | dT _=>exact absurd f xA
  | ins _ _ _=>exact absurd f xA
  | jY _ _=>exact absurd f xA
  | _=>exact x
 | _=>exact x
theorem rE.less{P:Program}{w:World}{H H':Hp}{h:Heap}(x:rE P w H' h)(s:∀a o,H a=some o->H' a=some o)(f:Flat H)(hw:WT H):rE P w H h:=λa o e=>
 (x a o (s a o e)).less (f a o e) λC dx fs z=>hw a C dx fs (by rw[<-z];exact e)
theorem rE.own{P:Program}{w:World}{H:Hp}{h:Heap}(x:rE P w H h):WT H:=λa _ _ _ e=>(x a _ e).1
def gcK(H:Hp)(Q:VK):VK:=λv H'=>Q v H'\/∃S8,Fgt H H' S8/\Q v S8
theorem aM.gc{P:Program}{w:World}{K:Frag}{mg:Str->Option Value}{base:Heap}{CX:Vf}{k:Nat}{f:Addr}{fd:FuncData}{ps:List Str}{sp sp':Sp}(F:aM P w K mg base CX k f fd ps sp)
  (h:∀vs H Q E,sp' vs H Q E->sp vs H (gcK H Q) E):aM P w K mg base CX k f fd ps sp':=by
 refine⟨λvs H Q E q=>F.len vs H _ E (h _ _ _ _ q),λA outer s H args us vs Q E hr he hb hv hs=>codeAny_mono (F.run A outer s H args us vs (gcK H Q) E hr he hb hv (h _ _ _ _ hs)) λr s' hq=> ?_⟩
 cases r with
 | error e=>exact hq
 | ok fl=>
  cases fl with
  | ret u=>
   obtain⟨v,H',os,bare,un,hok,rv,q⟩:=hq
   rcases q with q | ⟨S8,g,q⟩
   ·exact⟨v,H',os,bare,un,hok,rv,q⟩
   refine⟨v,S8,os,bare,⟨un.keep,un.slot,λb o e n hx=> ?_,un.there,g.tup,g.jY,g.Y7⟩,hok.less g.sub g.flat (g.own he.hok.own),rv,q⟩
   cases z:S8 b with
   | none=>rfl
   | some o'=>
    have z':=g.sub b o' z
    rw[un.free b o e n hx]at z'
    cases z'
  | next=>exact hq
  | brk=>exact hq
  | cont=>exact hq
structure zx(K:Frag)(x qual:Str)(st:Stmt)(dV:Value)(f:Addr)(fd:FuncData):Prop where
 ex:∃(oc:Value) (od:Option Addr) (kV doc pm:Value) (an:Option Addr) (cdv ct:Value) (osl:Array (Option Value)),
  fd=fnOf x qual (d_ st) (cM st) (aC st) dV kV doc pm an cdv ct/\K.lookup f=some ⟨oc,od,.func fd,osl⟩/\codeIn K cdv qual=true
 kp:keepIn K (.ref f)=true
section
variable{P:Program}{w:World}{K:Frag}{mg:Str->Option Value}{base:Heap}
theorem zx.ok{x qual:Str}{st:Stmt}{dV:Value}{f:Addr}{fd:FuncData}{N ps:List Str}{k:Nat}{sp:Sp}(F:zx K x qual st dV f fd)(S:aJ N ps (aC st))(len:∀vs H Q E,sp vs H Q E->vs.length=ps.length)
  (hbody:∀(cdv:Value) (A:Around) (outer:List Env) (s:Shared) (H:Hp) (vs:List V) (Q:VK) (E:XK),gQ k (A.deeper (envOfC qual (aC st) s.heap.objs.size f cdv))->sp vs H Q E->
   ∃t,Gm (wY Vg P w K mg base N qual (aC st) f cdv A outer s H E).nox (cM st) t/\t {nx:=λ_ H'=>gcK H Q .non H',rt:=gcK H Q} (start N vs) H):aM P w K mg base Vg (k+1) f fd ps sp:=by
 obtain⟨oc,od,kV,doc,pm,an,cdv,ct,osl,rfl,lk,hcd⟩:=F.ex
 refine aM.gc (sp:=λvs H Q' E=>∃Q,sp vs H Q E/\Q'=gcK H Q) (abl lk hcd S (λvs H Q E ⟨Q0,q,_⟩=>len vs H Q0 E q) λA outer s H vs Q' E hr hsp=> ?_) λvs H Q E q=>⟨Q,q,rfl⟩
 obtain⟨Q,hsp,rfl⟩:=hsp
 obtain⟨t,h,q⟩:=hbody cdv A outer s H vs Q E hr hsp
 exact⟨t,h.nox,q⟩
theorem zx.binds{x qual:Str}{st:Stmt}{dV:Value}{f:Addr}{fd:FuncData}{ps:List Str}(F:zx K x qual st dV f fd)
  (h:∀(kV doc pm:Value) (an:Option Addr) (cdv ct:Value) (us:List Value),us.length=ps.length->bindArgs (fnOf x qual (d_ st) (cM st) (aC st) dV kV doc pm an cdv ct) ⟨us,[]⟩=pure (ps.zip us)):Binds K fd ps []:=by
 obtain⟨oc,od,kV,doc,pm,an,cdv,ct,osl,rfl,lk,hcd⟩:=F.ex
 exact .all (h kV doc pm an cdv ct)
theorem wj{x qual:Str}{st:Stmt}{dV:Value}{f:Addr}{oc:Value}{od an:Option Addr}{osl:Array (Option Value)}{kV doc pm cdv ct:Value}(l:K.lookup f=some ⟨oc,od,.func (fnOf x qual (d_ st) (cM st) (aC st) dV kV doc pm an cdv ct),osl⟩)
  (c:codeIn K cdv qual=true) (k:keepIn K (.ref f)=true):zx K x qual st dV f (fnOf x qual (d_ st) (cM st) (aC st) dV kV doc pm an cdv ct):=⟨⟨oc,od,kV,doc,pm,an,cdv,ct,osl,rfl,l,c⟩,k⟩
end
theorem rA:bootBuiltins "len" = some (.builtin "len"):=by decide +kernel
theorem Az:bootBuiltins "isinstance" = some (.builtin "isinstance"):=by decide +kernel
theorem agS:bootBuiltins "min" = some (.builtin "min"):=by decide +kernel
theorem abB:bootBuiltins "max" = some (.builtin "max"):=by decide +kernel
theorem agU:bootBuiltins "all" = some (.builtin "all"):=by decide +kernel
theorem agT:bootBuiltins "int" = some (.type "int"):=by decide +kernel
theorem ad4:bootBuiltins "bool" = some (.type "bool"):=by decide +kernel
theorem ad3:bootBuiltins "list" = some (.type "list"):=by decide +kernel
def aiB:V->List V->Hp->VK->Prop:=λx vs H Q=>∃i,x= .int i/\vs=[]/\Q (.int (Builtin.Int.intBits i:Nat)) H
section
variable{X:Cx}
theorem adi:MtR X "int.bit_length" aiB:=by
 intro pins s σ H x vs v us Q I rx r h
 obtain⟨i,rfl,rfl,q⟩:=h
 obtain⟨t,rfl⟩:=rx
 cases r
 exact call_int_bit_length ⟨.int _,H,I.tok _,⟨_,rfl⟩,q⟩
end
theorem Only.flat{H:Hp}(o:Only H):Flat H:=λa u e=>by
 rcases o a with z | ⟨ob,xs,z⟩
 ·rw[z]at e;cases e
 ·rw[z]at e;cases e;rfl
def ajM(g:TG)(tb:TS)(D:Ends)(σ:St)(J:It)(H1:Hp):Prop:=
 ∃W:Nat->Nat->St->Hp->Prop,(∃m,W 0 m σ H1)/\∀i m σ H,W i m σ H->
  (J.stop i H/\D.nx σ H)\/(J.go i H/\∃N:St->Hp->Prop,(∀σ' H',N σ' H'->∃m',m'<m/\W (i+1) m' σ' H')/\∀x H',J.YF i H x H'->g x σ H' λσ2 H2=>tb {D with nx:=N,ct:=N,bk:=D.nx} σ2 H2)
def aem(wi:TI)(g:TG)(tb:TS):TS:=λD σ H=>wi σ H λJ H1=>ajM g tb D σ J H1
theorem VL{X:Cx}{tg iter:Expr}{body:List Stmt}{wi:TI}{g:TG}{tb:TS}{pos:Pos}(hp:PassesOwn (model X.prog X.w) X.A X.env X.xe)(hc:X.calm=true)(hi:PI X tg iter wi)(hg:PG X tg g)(hb:Gm X body tb)
  (hs:∀x,foldedSetIterable iter X.env x=pure x:=by intro _;rfl):PS X (.For tg iter body [] pos) (aem wi g tb):=afC hp hc hi hg hb hs
theorem Od{α:Type}{us:List α}(h:us.length=1):∃a,us=[a]:=match us,h with | [a],_=>⟨a,rfl⟩
theorem v8{α:Type}{us:List α}(h:us.length=2):∃a b,us=[a,b]:=match us,h with | [a,b],_=>⟨a,b,rfl⟩
theorem Dj{α:Type}{us:List α}(h:us.length=3):∃a b c,us=[a,b,c]:=match us,h with | [a,b,c],_=>⟨a,b,c,rfl⟩
theorem Wa{α:Type}{us:List α}(h:us.length=4):∃a b c d,us=[a,b,c,d]:=match us,h with | [a,b,c,d],_=>⟨a,b,c,d,rfl⟩
inductive Dt where
 | non | bl (b:Bool) | int (i:Int) | str (x:Str) | tup (ds:List Dt) | lst (ds:List Dt)
mutual
inductive Is (K:Frag) (H:Hp):V->Dt->Prop
 | non:Is K H .non .non
 | bl (b:Bool):Is K H (.bl b) (.bl b)
 | int (i:Int):Is K H (.int i) (.int i)
 | str (x:Str):Is K H (.str x) (.str x)
 | tup {a:Addr} {xs:List V} {ds:List Dt}:o9 K H a xs->Hj K H xs ds->Is K H (.ref a) (.tup ds)
 | lst {a:Addr} {xs:List V} {ds:List Dt}:pO K H a xs->Hj K H xs ds->Is K H (.ref a) (.lst ds)
inductive Hj (K:Frag) (H:Hp):List V->List Dt->Prop
 | nil:Hj K H [] []
 | cons {x:V} {d:Dt} {xs:List V} {ds:List Dt}:Is K H x d->Hj K H xs ds->Hj K H (x::xs) (d::ds)
end
mutual
def bM:Dt->Dt->Bool
 | .non,.non=>true
 | .bl a,.bl b=>a==b
 | .bl a,.int b=>(if a then 1 else 0)==b
 | .int a,.bl b=>a==(if b then 1 else 0)
 | .int a,.int b=>a==b
 | .str a,.str b=>a==b
 | .tup ds,.tup es=>yV ds es
 | .lst ds,.lst es=>yV ds es
 | _,_=>false
def yV:List Dt->List Dt->Bool
 | [],[]=>true
 | d::ds,e::es=>bM d e&&yV ds es
 | _,_=>false
end
mutual
def dep:Dt->Nat
 | .tup ds=>deps ds+1
 | .lst ds=>deps ds+1
 | _=>0
def deps:List Dt->Nat
 | []=>0
 | d::ds=>max (dep d) (deps ds)
end
mutual
theorem yW:∀d:Dt,bM d d=true
 | .non=>by unfold bM;rfl
 | .bl a=>by unfold bM;simp
 | .int a=>by unfold bM;simp
 | .str a=>by unfold bM;simp
 | .tup ds=>by unfold bM;exact Fe ds
 | .lst ds=>by unfold bM;exact Fe ds
theorem Fe:∀ds:List Dt,yV ds ds=true
 | []=>by unfold yV;rfl
 | d::ds=>by unfold yV;rw[yW d,Fe ds];rfl
end
theorem qY:∀{ds es:List Dt},ds.length≠es.length->yV ds es=false
 | [],[],h=>absurd rfl h
 | [],_::_,_=>by unfold yV;rfl
 | _::_,[],_=>by unfold yV;rfl
 | d::ds,e::es,h=>by
  unfold yV
  rw[qY (ds:=ds) (es:=es) λz=>h (by rw[List.length_cons,List.length_cons,z]),Bool.and_false]
theorem qZ:∀{ds es:List Dt},ds.length=es.length->(List.range ds.length).all (λj=>bM (ds.getD j .non) (es.getD j .non))=yV ds es
 | [],[],_=>by unfold yV;rfl
 | [],_::_,h=>by cases h
 | _::_,[],h=>by cases h
 | d::ds,e::es,h=>by
  have ih:=qZ (ds:=ds) (es:=es) (Nat.succ.inj h)
  rw[List.length_cons,List.range_succ_eq_map,List.all_cons,List.all_map,yV,<-ih]
  rfl
theorem Hj.length{K:Frag}{H:Hp}:∀{xs:List V} {ds:List Dt},Hj K H xs ds->xs.length=ds.length
 | _,_,.nil=>rfl
 | _,_,.cons _ r=>by rw[List.length_cons,List.length_cons,Hj.length r]
theorem Hj.get{K:Frag}{H:Hp}:∀{xs:List V} {ds:List Dt} {i:Nat} {x:V},Hj K H xs ds->xs[i]? = some x->∃d,ds[i]? = some d/\Is K H x d
 | _,_,_,_,.nil,e=>by simp at e
 | _,_,0,_,.cons r _,e=>by simp at e;subst e;exact⟨_,rfl,r⟩
 | _,_,i+1,x,.cons _ t,e=>by
  obtain⟨d,h1,h2⟩:=Hj.get (i:=i) (x:=x) t (by simpa using e)
  exact⟨d,by simpa using h1,h2⟩
theorem Hj.at{K:Frag}{H:Hp}:∀{xs:List V} {ds:List Dt} {i:Nat} {d:Dt},Hj K H xs ds->ds[i]? = some d->∃x,xs[i]? = some x/\Is K H x d
 | _,_,_,_,.nil,e=>by simp at e
 | _,_,0,_,.cons r _,e=>by simp at e;subst e;exact⟨_,rfl,r⟩
 | _,_,i+1,d,.cons _ t,e=>by
  obtain⟨x,h1,h2⟩:=Hj.at (i:=i) (d:=d) t (by simpa using e)
  exact⟨x,by simpa using h1,h2⟩
mutual
theorem Is.keep{K:Frag}{H H':Hp}(s1:∀a xs,o9 K H a xs->o9 K H' a xs)(s2:∀a xs,pO K H a xs->pO K H' a xs):∀{v:V} {d:Dt},Is K H v d->Is K H' v d
 | _,_,.non=> .non
 | _,_,.bl b=> .bl b
 | _,_,.int i=> .int i
 | _,_,.str x=> .str x
 | _,_,.tup e r=> .tup (s1 _ _ e) (Hj.keep s1 s2 r)
 | _,_,.lst e r=> .lst (s2 _ _ e) (Hj.keep s1 s2 r)
theorem Hj.keep{K:Frag}{H H':Hp}(s1:∀a xs,o9 K H a xs->o9 K H' a xs)(s2:∀a xs,pO K H a xs->pO K H' a xs):∀{vs:List V} {ds:List Dt},Hj K H vs ds->Hj K H' vs ds
 | _,_,.nil=> .nil
 | _,_,.cons r t=> .cons (Is.keep s1 s2 r) (Hj.keep s1 s2 t)
end
theorem O_(ds es:List Dt):bM (.tup ds) (.tup es)=yV ds es:=by unfold bM;rfl
theorem zN(ds es:List Dt):bM (.lst ds) (.lst es)=yV ds es:=by unfold bM;rfl
section
variable{X:Cx}{pins:List (Addr×Obj)}{σ:St}{H:Hp}{s:Shared}
theorem Inv.Q8(I:Inv X pins σ H s){a:Addr}{xs ys:List V}(h:o9 X.K H a xs)(h':pO X.K H a ys):False:=by
 obtain⟨its,_,pt,_⟩:=I.tuple h
 obtain⟨jts,_,pl,_⟩:=I.list h'
 obtain⟨o,e,c,_⟩:=pt
 obtain⟨o',n',e',c',_⟩:=pl
 rw[e]at e';cases e'
 rw[c]at c'
 injection c' with z
 exact absurd z (by decide)
mutual
theorem Inv.aa1(I:Inv X pins σ H s):∀{v:V} {d e:Dt},Is X.K H v d->Is X.K H v e->d=e
 | _,_,_,.non,.non=>rfl
 | _,_,_,.bl _,.bl _=>rfl
 | _,_,_,.int _,.int _=>rfl
 | _,_,_,.str _,.str _=>rfl
 | _,_,_,.tup q r,.tup q' r'=>congrArg Dt.tup (Inv.Oq I r (I.DR q q'▸r'))
 | _,_,_,.lst q r,.lst q' r'=>congrArg Dt.lst (Inv.Oq I r (I.JF q q'▸r'))
 | _,_,_,.tup q _,.lst q' _=>(I.Q8 q q').elim
 | _,_,_,.lst q _,.tup q' _=>(I.Q8 q' q).elim
theorem Inv.Oq(I:Inv X pins σ H s):∀{vs:List V} {ds es:List Dt},Hj X.K H vs ds->Hj X.K H vs es->ds=es
 | _,_,_,.nil,.nil=>rfl
 | _,_,_,.cons r t,.cons r' t'=>by rw[Inv.aa1 I r r',Inv.Oq I t t']
end
theorem BP:∀{ds:List Dt} {j:Nat} {d:Dt},ds[j]? = some d->dep d<=deps ds
 | [],_,_,e=>by simp at e
 | d'::ds,0,d,e=>by simp at e;subst e;unfold deps;exact Nat.le_max_left _ _
 | d'::ds,j+1,d,e=>by
  have:=BP (ds:=ds) (j:=j) (d:=d) (by simpa using e)
  unfold deps
  exact yY this (Nat.le_max_right _ _)
theorem uM{A:Around}{xs ys:List V}{its jts:List Value}{ds es:List Dt}(r1:Vals xs its)(r2:Vals ys jts)(q1:Hj X.K H xs ds)(q2:Hj X.K H ys es)
  (ih:∀(j:Nat) (x y:V) (d e:Dt) (u v:Value),ds[j]? = some d->es[j]? = some e->Is X.K H x d->Is X.K H y e->RelV x u->RelV y v->SeqAt.EqAt A s u v (bM d e)):
  ∀j (h1:j<its.toArray.size) (h2:j<jts.toArray.size),SeqAt.EqAt A s its.toArray[j] jts.toArray[j] (bM (ds.getD j .non) (es.getD j .non)):=λj h1 h2=>by
 have l1:=r1.length
 have l2:=r2.length
 have j1:j<xs.length:=by simp at h1;omega
 have j2:j<ys.length:=by simp at h2;omega
 obtain⟨w1,g1,p1⟩:=r1.get (i:=j) (x:=xs[j]) (by simp[j1])
 obtain⟨w2,g2,p2⟩:=r2.get (i:=j) (x:=ys[j]) (by simp[j2])
 obtain⟨d,e1,i1⟩:=q1.get (i:=j) (x:=xs[j]) (by simp[j1])
 obtain⟨e,e2,i2⟩:=q2.get (i:=j) (x:=ys[j]) (by simp[j2])
 have d1:ds.getD j .non=d:=by simp[List.getD,e1]
 have d2:es.getD j .non=e:=by simp[List.getD,e2]
 have c1:its.toArray[j]=w1:=by
  have:=List.getElem?_eq_some_iff.mp g1
  simpa using this.2
 have c2:jts.toArray[j]=w2:=by
  have:=List.getElem?_eq_some_iff.mp g2
  simpa using this.2
 rw[d1,d2,c1,c2]
 exact ih j _ _ d e _ _ e1 e2 i1 i2 p1 p2
theorem Ek{n m:Nat}(h:n=m)(p:Nat->Bool):((List.range (min n m)).all p&&n==m)=(List.range n).all p:=by
 subst h
 rw[Nat.min_self]
 simp
theorem O8(I:Inv X pins σ H s):∀(n:Nat) (A:Around) (x y:V) (d e:Dt) (u v:Value),dep d<=n->A.units+n<cLine->Is X.K H x d->Is X.K H y e->RelV x u->RelV y v->SeqAt.EqAt A s u v (bM d e):=by
 intro n
 induction n using Nat.strongRecOn with
 | ind n ih=>
  intro A x y d e u v hd hu hx hy rx ry
  have same:u=v->SeqAt.EqAt A s u v (bM d e):=λz=>by
   subst z
   have xy:x=y:=rx.inj ry
   subst xy
   rw[I.aa1 hx hy,yW]
   exact SeqAt.EqAt.same _
  have hu0:A.units<cLine:=by omega
  have in1:A.in1.units=A.units+1:=rfl
  cases hx with
  | non=>
   cases rx
   cases hy with
   | non=>cases ry;exact same rfl
   | bl b=>cases ry;unfold bM;exact SeqAt.EqAt.none_bool b
   | int b=>obtain⟨t,rfl⟩:=ry;unfold bM;exact SeqAt.EqAt.none_int b t
   | str b=>obtain⟨t,rfl⟩:=ry;unfold bM;exact SeqAt.EqAt.none_str b t
   | tup q r=>cases ry;obtain⟨its,_,p,_⟩:=I.tuple q;unfold bM;exact SeqAt.EqAt.none_tuple p hu0
   | lst q r=>cases ry;obtain⟨its,_,p,_⟩:=I.list q;unfold bM;exact SeqAt.EqAt.none_list p.isList hu0
  | bl a=>
   cases rx
   cases hy with
   | non=>cases ry;unfold bM;exact SeqAt.EqAt.bool_none a
   | bl b=>cases ry;unfold bM;exact SeqAt.EqAt.bool_bool a b
   | int b=>obtain⟨t,rfl⟩:=ry;unfold bM;exact SeqAt.EqAt.bool_int a b t
   | str b=>obtain⟨t,rfl⟩:=ry;unfold bM;exact SeqAt.EqAt.bool_str a b t
   | tup q r=>cases ry;obtain⟨its,_,p,_⟩:=I.tuple q;unfold bM;exact SeqAt.EqAt.bool_tuple a p hu0
   | lst q r=>cases ry;obtain⟨its,_,p,_⟩:=I.list q;unfold bM;exact SeqAt.EqAt.bool_list a p.isList hu0
  | int a=>
   obtain⟨t',rfl⟩:=rx
   cases hy with
   | non=>cases ry;unfold bM;exact SeqAt.EqAt.int_none a t'
   | bl b=>cases ry;unfold bM;exact SeqAt.EqAt.int_bool a t' b
   | int b=>obtain⟨t,rfl⟩:=ry;unfold bM;exact SeqAt.EqAt.int_int a t' b t
   | str b=>obtain⟨t,rfl⟩:=ry;unfold bM;exact SeqAt.EqAt.int_str a t' b t
   | tup q r=>cases ry;obtain⟨its,_,p,_⟩:=I.tuple q;unfold bM;exact SeqAt.EqAt.int_tuple a t' p hu0
   | lst q r=>cases ry;obtain⟨its,_,p,_⟩:=I.list q;unfold bM;exact SeqAt.EqAt.int_list a t' p.isList hu0
  | str a=>
   obtain⟨t',rfl⟩:=rx
   cases hy with
   | non=>cases ry;unfold bM;exact SeqAt.EqAt.str_none a t'
   | bl b=>cases ry;unfold bM;exact SeqAt.EqAt.str_bool a t' b
   | int b=>obtain⟨t,rfl⟩:=ry;unfold bM;exact SeqAt.EqAt.str_int a t' b t
   | str b=>obtain⟨t,rfl⟩:=ry;unfold bM;exact SeqAt.EqAt.str_str a t' b t
   | tup q r=>cases ry;obtain⟨its,_,p,_⟩:=I.tuple q;unfold bM;exact SeqAt.EqAt.str_tuple a t' p hu0
   | lst q r=>cases ry;obtain⟨its,_,p,_⟩:=I.list q;unfold bM;exact SeqAt.EqAt.str_list a t' p.isList hu0
  | @tup a xs ds q r=>
   cases(show u=Value.ref a from rx)
   obtain⟨its,r1,p1,_⟩:=I.tuple q
   cases hy with
   | non=>cases ry;unfold bM;exact SeqAt.EqAt.tuple_none p1 hu0
   | bl b=>cases ry;unfold bM;exact SeqAt.EqAt.tuple_bool b p1 hu0
   | int b=>obtain⟨t,rfl⟩:=ry;unfold bM;exact SeqAt.EqAt.tuple_int b t p1 hu0
   | str b=>obtain⟨t,rfl⟩:=ry;unfold bM;exact SeqAt.EqAt.tuple_str b t p1 hu0
   | lst q' r'=>cases ry;obtain⟨jts,_,p,_⟩:=I.list q';unfold bM;exact SeqAt.EqAt.tuple_list p1 p.isList hu0
   | @tup b ys es q' r'=>
    cases(show v=Value.ref b from ry)
    by_cases hab:a=b
    ·subst hab;exact same rfl
    ·obtain⟨jts,r2,p2,_⟩:=I.tuple q'
     refine SeqAt.EqAt.of_refs hab ?_
     have l1:=r1.length
     have l2:=r2.length
     have l3:=r.length
     have l4:=r'.length
     cases n with
     | zero=>unfold dep at hd;omega
     | succ n=>
      have dl:deps ds<=n:=by unfold dep at hd;omega
      have z:=SeqAt.RcAt.tuples (A:=A) (s:=s) (e:=λj=>bM (ds.getD j .non) (es.getD j .non)) p1 p2 hu0 (uM r1 r2 r r' λj x y d e u v h1 h2 ix iy rx ry=>ih n (Nat.lt_succ_self n) A.in1 x y d e u v (yY (BP h1) dl) (by omega) ix iy rx ry)
      have ez:((List.range (min its.toArray.size jts.toArray.size)).all (λj=>bM (ds.getD j .non) (es.getD j .non))&&its.toArray.size==jts.toArray.size)=bM (.tup ds) (.tup es):=by
       rw[O_]
       by_cases hl:ds.length=es.length
       ·rw[Ek (by simp;omega),<-qZ hl]
        congr 2
        simp;omega
       ·rw[qY hl]
        have:(its.toArray.size==jts.toArray.size)=false:=by simp;omega
        rw[this,Bool.and_false]
      rw[ez]at z
      exact z
  | @lst a xs ds q r=>
   cases(show u=Value.ref a from rx)
   obtain⟨its,r1,p1,_⟩:=I.list q
   cases hy with
   | non=>cases ry;unfold bM;exact SeqAt.EqAt.list_none p1.isList hu0
   | bl b=>cases ry;unfold bM;exact SeqAt.EqAt.list_bool b p1.isList hu0
   | int b=>obtain⟨t,rfl⟩:=ry;unfold bM;exact SeqAt.EqAt.list_int b t p1.isList hu0
   | str b=>obtain⟨t,rfl⟩:=ry;unfold bM;exact SeqAt.EqAt.list_str b t p1.isList hu0
   | tup q' r'=>cases ry;obtain⟨jts,_,p,_⟩:=I.tuple q';unfold bM;exact SeqAt.EqAt.list_tuple p1.isList p hu0
   | @lst b ys es q' r'=>
    cases(show v=Value.ref b from ry)
    by_cases hab:a=b
    ·subst hab;exact same rfl
    ·obtain⟨jts,r2,p2,_⟩:=I.list q'
     refine SeqAt.EqAt.of_refs hab ?_
     have l1:=r1.length
     have l2:=r2.length
     have l3:=r.length
     have l4:=r'.length
     cases n with
     | zero=>unfold dep at hd;omega
     | succ n=>
      have dl:deps ds<=n:=by unfold dep at hd;omega
      by_cases hl:ds.length=es.length
      ·have z:=SeqAt.RcAt.lists (A:=A) (s:=s) (e:=λj=>bM (ds.getD j .non) (es.getD j .non)) p1.isList p2.isList (by simp;omega) hu0 (uM r1 r2 r r' λj x y d e u v h1 h2 ix iy rx ry=>ih n (Nat.lt_succ_self n) A.in1 x y d e u v (yY (BP h1) dl) (by omega) ix iy rx ry)
       have ez:(List.range its.toArray.size).all (λj=>bM (ds.getD j .non) (es.getD j .non))=bM (.lst ds) (.lst es):=by
        rw[zN]
        rw[<-qZ hl]
        congr 2
        simp;omega
       rw[ez]at z
       exact z
      ·have z:=SeqAt.RcAt.lists_lengths (A:=A) (s:=s) p1.isList p2.isList (by simp;omega) hu0
       have ez:bM (.lst ds) (.lst es)=false:=by rw[zN];exact qY hl
       rw[ez]
       exact z
theorem afp(I:Inv X pins σ H s)(A:Around){x y:V}{d e:Dt}{u v:Value}{n:Nat}(hd:dep d<=n)(hu:A.units+n<cLine)(hx:Is X.K H x d)(hy:Is X.K H y e)(rx:RelV x u)(ry:RelV y v):SeqAt.RcAt A s u v (bM d e):=by
 have hu0:A.units<cLine:=by omega
 have in1:A.in1.units=A.units+1:=rfl
 cases hx with
 | non=>
  cases rx
  cases hy with
  | non=>
   cases ry
   unfold bM
   exact SeqAt.RcAt.none_none
  | bl b=>
   cases ry
   unfold bM
   exact SeqAt.RcAt.none_bool  b
  | int b=>
   obtain⟨t,rfl⟩:=ry
   unfold bM
   exact SeqAt.RcAt.none_int  b t
  | str b=>
   obtain⟨t,rfl⟩:=ry
   unfold bM
   exact SeqAt.RcAt.none_str  b t
  | @tup b ys es q' r'=>
   cases(show v=Value.ref b from ry)
   obtain⟨jts,r2,p2,_⟩:=I.tuple q'
   unfold bM
   exact SeqAt.RcAt.none_tuple  p2 hu0
  | @lst b ys es q' r'=>
   cases(show v=Value.ref b from ry)
   obtain⟨jts,r2,p2,_⟩:=I.list q'
   unfold bM
   exact SeqAt.RcAt.none_list  p2.isList hu0
 | bl a=>
  cases rx
  cases hy with
  | non=>
   cases ry
   unfold bM
   exact SeqAt.RcAt.bool_none a
  | bl b=>
   cases ry
   unfold bM
   exact SeqAt.RcAt.bool_bool a b
  | int b=>
   obtain⟨t,rfl⟩:=ry
   unfold bM
   exact SeqAt.RcAt.bool_int a b t
  | str b=>
   obtain⟨t,rfl⟩:=ry
   unfold bM
   exact SeqAt.RcAt.bool_str a b t
  | @tup b ys es q' r'=>
   cases(show v=Value.ref b from ry)
   obtain⟨jts,r2,p2,_⟩:=I.tuple q'
   unfold bM
   exact SeqAt.RcAt.bool_tuple a p2 hu0
  | @lst b ys es q' r'=>
   cases(show v=Value.ref b from ry)
   obtain⟨jts,r2,p2,_⟩:=I.list q'
   unfold bM
   exact SeqAt.RcAt.bool_list a p2.isList hu0
 | int a=>
  obtain⟨t',rfl⟩:=rx
  cases hy with
  | non=>
   cases ry
   unfold bM
   exact SeqAt.RcAt.int_none a t'
  | bl b=>
   cases ry
   unfold bM
   exact SeqAt.RcAt.int_bool a t' b
  | int b=>
   obtain⟨t,rfl⟩:=ry
   unfold bM
   exact SeqAt.RcAt.int_int a t' b t
  | str b=>
   obtain⟨t,rfl⟩:=ry
   unfold bM
   exact SeqAt.RcAt.int_str a t' b t
  | @tup b ys es q' r'=>
   cases(show v=Value.ref b from ry)
   obtain⟨jts,r2,p2,_⟩:=I.tuple q'
   unfold bM
   exact SeqAt.RcAt.int_tuple a t' p2 hu0
  | @lst b ys es q' r'=>
   cases(show v=Value.ref b from ry)
   obtain⟨jts,r2,p2,_⟩:=I.list q'
   unfold bM
   exact SeqAt.RcAt.int_list a t' p2.isList hu0
 | str a=>
  obtain⟨t',rfl⟩:=rx
  cases hy with
  | non=>
   cases ry
   unfold bM
   exact SeqAt.RcAt.str_none a t'
  | bl b=>
   cases ry
   unfold bM
   exact SeqAt.RcAt.str_bool a t' b
  | int b=>
   obtain⟨t,rfl⟩:=ry
   unfold bM
   exact SeqAt.RcAt.str_int a t' b t
  | str b=>
   obtain⟨t,rfl⟩:=ry
   unfold bM
   exact SeqAt.RcAt.str_str a t' b t
  | @tup b ys es q' r'=>
   cases(show v=Value.ref b from ry)
   obtain⟨jts,r2,p2,_⟩:=I.tuple q'
   unfold bM
   exact SeqAt.RcAt.str_tuple a t' p2 hu0
  | @lst b ys es q' r'=>
   cases(show v=Value.ref b from ry)
   obtain⟨jts,r2,p2,_⟩:=I.list q'
   unfold bM
   exact SeqAt.RcAt.str_list a t' p2.isList hu0
 | @tup a xs ds q r=>
  cases(show u=Value.ref a from rx)
  obtain⟨its,r1,p1,_⟩:=I.tuple q
  cases hy with
  | non=>
   cases ry
   unfold bM
   exact SeqAt.RcAt.tuple_none  p1 hu0
  | bl b=>
   cases ry
   unfold bM
   exact SeqAt.RcAt.tuple_bool b p1 hu0
  | int b=>
   obtain⟨t,rfl⟩:=ry
   unfold bM
   exact SeqAt.RcAt.tuple_int b t p1 hu0
  | str b=>
   obtain⟨t,rfl⟩:=ry
   unfold bM
   exact SeqAt.RcAt.tuple_str b t p1 hu0
  | @tup b ys es q' r'=>
   cases(show v=Value.ref b from ry)
   obtain⟨jts,r2,p2,_⟩:=I.tuple q'
   have l1:=r1.length
   have l2:=r2.length
   have l3:=r.length
   have l4:=r'.length
   cases n with
   | zero=>unfold dep at hd;omega
   | succ n=>
    have dl:deps ds<=n:=by unfold dep at hd;omega
    have z:=SeqAt.RcAt.tuples (A:=A) (s:=s) (e:=λj=>bM (ds.getD j .non) (es.getD j .non)) p1 p2 hu0 (uM r1 r2 r r' λj x y d e u v h1 h2 ix iy rx ry=>O8 I n A.in1 x y d e u v (yY (BP h1) dl) (by omega) ix iy rx ry)
    have ez:((List.range (min its.toArray.size jts.toArray.size)).all (λj=>bM (ds.getD j .non) (es.getD j .non))&&its.toArray.size==jts.toArray.size)=bM (.tup ds) (.tup es):=by
     rw[O_]
     by_cases hl:ds.length=es.length
     ·rw[Ek (by simp;omega),<-qZ hl]
      congr 2
      simp;omega
     ·rw[qY hl]
      have:(its.toArray.size==jts.toArray.size)=false:=by simp;omega
      rw[this,Bool.and_false]
    rw[ez]at z
    exact z
  | @lst b ys es q' r'=>
   cases(show v=Value.ref b from ry)
   obtain⟨jts,r2,p2,_⟩:=I.list q'
   unfold bM
   exact SeqAt.RcAt.tuple_list p1 p2.isList hu0
 | @lst a xs ds q r=>
  cases(show u=Value.ref a from rx)
  obtain⟨its,r1,p1,_⟩:=I.list q
  cases hy with
  | non=>
   cases ry
   unfold bM
   exact SeqAt.RcAt.list_none  p1.isList hu0
  | bl b=>
   cases ry
   unfold bM
   exact SeqAt.RcAt.list_bool b p1.isList hu0
  | int b=>
   obtain⟨t,rfl⟩:=ry
   unfold bM
   exact SeqAt.RcAt.list_int b t p1.isList hu0
  | str b=>
   obtain⟨t,rfl⟩:=ry
   unfold bM
   exact SeqAt.RcAt.list_str b t p1.isList hu0
  | @tup b ys es q' r'=>
   cases(show v=Value.ref b from ry)
   obtain⟨jts,r2,p2,_⟩:=I.tuple q'
   unfold bM
   exact SeqAt.RcAt.list_tuple p1.isList p2 hu0
  | @lst b ys es q' r'=>
   cases(show v=Value.ref b from ry)
   obtain⟨jts,r2,p2,_⟩:=I.list q'
   have l1:=r1.length
   have l2:=r2.length
   have l3:=r.length
   have l4:=r'.length
   cases n with
   | zero=>unfold dep at hd;omega
   | succ n=>
    have dl:deps ds<=n:=by unfold dep at hd;omega
    by_cases hl:ds.length=es.length
    ·have z:=SeqAt.RcAt.lists (A:=A) (s:=s) (e:=λj=>bM (ds.getD j .non) (es.getD j .non)) p1.isList p2.isList (by simp;omega) hu0 (uM r1 r2 r r' λj x y d e u v h1 h2 ix iy rx ry=>O8 I n A.in1 x y d e u v (yY (BP h1) dl) (by omega) ix iy rx ry)
     have ez:(List.range its.toArray.size).all (λj=>bM (ds.getD j .non) (es.getD j .non))=bM (.lst ds) (.lst es):=by
      rw[zN,<-qZ hl]
      congr 2
      simp;omega
     rw[ez]at z
     exact z
    ·have z:=SeqAt.RcAt.lists_lengths (A:=A) (s:=s) p1.isList p2.isList (by simp;omega) hu0
     have ez:bM (.lst ds) (.lst es)=false:=by rw[zN];exact qY hl
     rw[ez]
     exact z
theorem afo(I:Inv X pins σ H s)(A:Around){x y:V}{d e:Dt}{u v:Value}{n:Nat}(hd:dep d<=n)(hu:A.units+n<cLine)(hx:Is X.K H x d)(hy:Is X.K H y e)(rx:RelV x u)(ry:RelV y v):SeqAt.RcNeAt A s u v (!bM d e):=by
 have hu0:A.units<cLine:=by omega
 have in1:A.in1.units=A.units+1:=rfl
 cases hx with
 | non=>
  cases rx
  cases hy with
  | non=>
   cases ry
   unfold bM
   exact SeqAt.RcNeAt.none_none
  | bl b=>
   cases ry
   unfold bM
   exact SeqAt.RcNeAt.none_bool  b
  | int b=>
   obtain⟨t,rfl⟩:=ry
   unfold bM
   exact SeqAt.RcNeAt.none_int  b t
  | str b=>
   obtain⟨t,rfl⟩:=ry
   unfold bM
   exact SeqAt.RcNeAt.none_str  b t
  | @tup b ys es q' r'=>
   cases(show v=Value.ref b from ry)
   obtain⟨jts,r2,p2,_⟩:=I.tuple q'
   unfold bM
   exact SeqAt.RcNeAt.none_tuple  p2 hu0
  | @lst b ys es q' r'=>
   cases(show v=Value.ref b from ry)
   obtain⟨jts,r2,p2,_⟩:=I.list q'
   unfold bM
   exact SeqAt.RcNeAt.none_list  p2.isList hu0
 | bl a=>
  cases rx
  cases hy with
  | non=>
   cases ry
   unfold bM
   exact SeqAt.RcNeAt.bool_none a
  | bl b=>
   cases ry
   unfold bM
   exact SeqAt.RcNeAt.bool_bool a b
  | int b=>
   obtain⟨t,rfl⟩:=ry
   unfold bM
   exact SeqAt.RcNeAt.bool_int a b t
  | str b=>
   obtain⟨t,rfl⟩:=ry
   unfold bM
   exact SeqAt.RcNeAt.bool_str a b t
  | @tup b ys es q' r'=>
   cases(show v=Value.ref b from ry)
   obtain⟨jts,r2,p2,_⟩:=I.tuple q'
   unfold bM
   exact SeqAt.RcNeAt.bool_tuple a p2 hu0
  | @lst b ys es q' r'=>
   cases(show v=Value.ref b from ry)
   obtain⟨jts,r2,p2,_⟩:=I.list q'
   unfold bM
   exact SeqAt.RcNeAt.bool_list a p2.isList hu0
 | int a=>
  obtain⟨t',rfl⟩:=rx
  cases hy with
  | non=>
   cases ry
   unfold bM
   exact SeqAt.RcNeAt.int_none a t'
  | bl b=>
   cases ry
   unfold bM
   exact SeqAt.RcNeAt.int_bool a t' b
  | int b=>
   obtain⟨t,rfl⟩:=ry
   unfold bM
   exact SeqAt.RcNeAt.int_int a t' b t
  | str b=>
   obtain⟨t,rfl⟩:=ry
   unfold bM
   exact SeqAt.RcNeAt.int_str a t' b t
  | @tup b ys es q' r'=>
   cases(show v=Value.ref b from ry)
   obtain⟨jts,r2,p2,_⟩:=I.tuple q'
   unfold bM
   exact SeqAt.RcNeAt.int_tuple a t' p2 hu0
  | @lst b ys es q' r'=>
   cases(show v=Value.ref b from ry)
   obtain⟨jts,r2,p2,_⟩:=I.list q'
   unfold bM
   exact SeqAt.RcNeAt.int_list a t' p2.isList hu0
 | str a=>
  obtain⟨t',rfl⟩:=rx
  cases hy with
  | non=>
   cases ry
   unfold bM
   exact SeqAt.RcNeAt.str_none a t'
  | bl b=>
   cases ry
   unfold bM
   exact SeqAt.RcNeAt.str_bool a t' b
  | int b=>
   obtain⟨t,rfl⟩:=ry
   unfold bM
   exact SeqAt.RcNeAt.str_int a t' b t
  | str b=>
   obtain⟨t,rfl⟩:=ry
   unfold bM
   exact SeqAt.RcNeAt.str_str a t' b t
  | @tup b ys es q' r'=>
   cases(show v=Value.ref b from ry)
   obtain⟨jts,r2,p2,_⟩:=I.tuple q'
   unfold bM
   exact SeqAt.RcNeAt.str_tuple a t' p2 hu0
  | @lst b ys es q' r'=>
   cases(show v=Value.ref b from ry)
   obtain⟨jts,r2,p2,_⟩:=I.list q'
   unfold bM
   exact SeqAt.RcNeAt.str_list a t' p2.isList hu0
 | @tup a xs ds q r=>
  cases(show u=Value.ref a from rx)
  obtain⟨its,r1,p1,_⟩:=I.tuple q
  cases hy with
  | non=>
   cases ry
   unfold bM
   exact SeqAt.RcNeAt.tuple_none  p1 hu0
  | bl b=>
   cases ry
   unfold bM
   exact SeqAt.RcNeAt.tuple_bool b p1 hu0
  | int b=>
   obtain⟨t,rfl⟩:=ry
   unfold bM
   exact SeqAt.RcNeAt.tuple_int b t p1 hu0
  | str b=>
   obtain⟨t,rfl⟩:=ry
   unfold bM
   exact SeqAt.RcNeAt.tuple_str b t p1 hu0
  | @tup b ys es q' r'=>
   cases(show v=Value.ref b from ry)
   obtain⟨jts,r2,p2,_⟩:=I.tuple q'
   have l1:=r1.length
   have l2:=r2.length
   have l3:=r.length
   have l4:=r'.length
   cases n with
   | zero=>unfold dep at hd;omega
   | succ n=>
    have dl:deps ds<=n:=by unfold dep at hd;omega
    have z:=SeqAt.RcNeAt.tuples (A:=A) (s:=s) (e:=λj=>bM (ds.getD j .non) (es.getD j .non)) p1 p2 hu0 (uM r1 r2 r r' λj x y d e u v h1 h2 ix iy rx ry=>O8 I n A.in1 x y d e u v (yY (BP h1) dl) (by omega) ix iy rx ry)
    have ez:((List.range (min its.toArray.size jts.toArray.size)).all (λj=>bM (ds.getD j .non) (es.getD j .non))&&its.toArray.size==jts.toArray.size)=bM (.tup ds) (.tup es):=by
     rw[O_]
     by_cases hl:ds.length=es.length
     ·rw[Ek (by simp;omega),<-qZ hl]
      congr 2
      simp;omega
     ·rw[qY hl]
      have:(its.toArray.size==jts.toArray.size)=false:=by simp;omega
      rw[this,Bool.and_false]
    rw[ez]at z
    exact z
  | @lst b ys es q' r'=>
   cases(show v=Value.ref b from ry)
   obtain⟨jts,r2,p2,_⟩:=I.list q'
   unfold bM
   exact SeqAt.RcNeAt.tuple_list p1 p2.isList hu0
 | @lst a xs ds q r=>
  cases(show u=Value.ref a from rx)
  obtain⟨its,r1,p1,_⟩:=I.list q
  cases hy with
  | non=>
   cases ry
   unfold bM
   exact SeqAt.RcNeAt.list_none  p1.isList hu0
  | bl b=>
   cases ry
   unfold bM
   exact SeqAt.RcNeAt.list_bool b p1.isList hu0
  | int b=>
   obtain⟨t,rfl⟩:=ry
   unfold bM
   exact SeqAt.RcNeAt.list_int b t p1.isList hu0
  | str b=>
   obtain⟨t,rfl⟩:=ry
   unfold bM
   exact SeqAt.RcNeAt.list_str b t p1.isList hu0
  | @tup b ys es q' r'=>
   cases(show v=Value.ref b from ry)
   obtain⟨jts,r2,p2,_⟩:=I.tuple q'
   unfold bM
   exact SeqAt.RcNeAt.list_tuple p1.isList p2 hu0
  | @lst b ys es q' r'=>
   cases(show v=Value.ref b from ry)
   obtain⟨jts,r2,p2,_⟩:=I.list q'
   have l1:=r1.length
   have l2:=r2.length
   have l3:=r.length
   have l4:=r'.length
   cases n with
   | zero=>unfold dep at hd;omega
   | succ n=>
    have dl:deps ds<=n:=by unfold dep at hd;omega
    by_cases hl:ds.length=es.length
    ·have z:=SeqAt.RcNeAt.lists (A:=A) (s:=s) (e:=λj=>bM (ds.getD j .non) (es.getD j .non)) p1.isList p2.isList (by simp;omega) hu0 (uM r1 r2 r r' λj x y d e u v h1 h2 ix iy rx ry=>O8 I n A.in1 x y d e u v (yY (BP h1) dl) (by omega) ix iy rx ry)
     have ez:(List.range its.toArray.size).all (λj=>bM (ds.getD j .non) (es.getD j .non))=bM (.lst ds) (.lst es):=by
      rw[zN,<-qZ hl]
      congr 2
      simp;omega
     rw[ez]at z
     exact z
    ·have z:=SeqAt.RcNeAt.lists_lengths (A:=A) (s:=s) p1.isList p2.isList (by simp;omega) hu0
     have ez:bM (.lst ds) (.lst es)=false:=by rw[zN];exact qY hl
     rw[ez]
     exact z
end
def ali(K:Frag):R2:=λx y H Q=>∃d e,Is K H x d/\Is K H y e/\dep d<=20/\Q (.bl (bM d e)) H
def alf(K:Frag):R2:=λx y H Q=>∃d e,Is K H x d/\Is K H y e/\dep d<=20/\Q (.bl (!bM d e)) H
theorem af4{X:Cx}(hu:X.A.units+64<cLine):uv X (compareOp .Eq) (ali X.K):=by
 intro pins s σ H x y v u Q I rx ry h
 obtain⟨d,e,hx,hy,hd,q⟩:=h
 exact afp I X.A hd (by omega) hx hy rx ry _ _ _ _ ⟨.bl _,H,I,rfl,q⟩
theorem afY{X:Cx}(hu:X.A.units+64<cLine):uv X (compareOp .NotEq) (alf X.K):=by
 intro pins s σ H x y v u Q I rx ry h
 obtain⟨d,e,hx,hy,hd,q⟩:=h
 exact afo I X.A hd (by omega) hx hy rx ry _ _ _ _ ⟨.bl _,H,I,rfl,q⟩
end L2
namespace HM
open PySem
theorem Py(x:Int):Builtin.bitNot (Builtin.bitNot x)=x:=by
 unfold Builtin.bitNot;omega
theorem R9(n:Nat):¬(0<=Builtin.bitNot (n:Int)):=by
 unfold Builtin.bitNot;omega
theorem uR(a b:Nat):Builtin.bitAnd (a:Int) (b:Int)=((a &&& b:Nat):Int):=by
 unfold Builtin.bitAnd
 simp
theorem Ib(a b:Nat):Builtin.bitOr (a:Int) (b:Int)=((a ||| b:Nat):Int):=by
 unfold Builtin.bitOr Builtin.bitAnd
 rw[zah (R9 a),zah (R9 b)]
 dsimp only
 rw[Py,Py,Py]
 simp
theorem lJ(x:Int)(p:Nat):∃n:Nat,Builtin.bitAnd x (p:Int)=(n:Int)/\n<=p:=by
 by_cases h:0<=x
 ·obtain⟨m,rfl⟩:=Int.eq_ofNat_of_zero_le h
  exact⟨m &&& p,uR m p,Nat.and_le_right⟩
 ·unfold Builtin.bitAnd
  rw[zah h,zai (Int.natCast_nonneg p)]
  dsimp only
  refine⟨p - (p &&& (Builtin.bitNot x).toNat),?_,Nat.sub_le _ _⟩
  have:p &&& (Builtin.bitNot x).toNat<=p:=Nat.and_le_left
  simp
  omega
def fu(n:Nat):List Nat:=(List.range 60).filter λh=>n.testBit h
def cnt(n:Nat):Nat:=(fu n).length
theorem V1(h:Nat):(1:Int)*2 ^ h=((2 ^ h:Nat):Int):=by simp
theorem J5(n h:Nat):(n &&& 2 ^ h≠0)↔n.testBit h=true:=by
 constructor
 ·intro hn
  cases e:n.testBit h with
  | true=>rfl
  | false=>
   refine absurd (Nat.eq_of_testBit_eq λi=> ?_) hn
   rw[Nat.testBit_and,Nat.testBit_two_pow,Nat.zero_testBit]
   by_cases hi:h=i
   ·subst hi;simp[e]
   ·simp[hi]
 ·intro e hz
  have t:(n &&& 2 ^ h).testBit h=true:=by rw[Nat.testBit_and,e,Nat.testBit_two_pow];simp
  rw[hz,Nat.zero_testBit]at t
  cases t
theorem QD(n h:Nat):((n / 2 ^ h) &&& 1=1)↔n.testBit h=true:=by
 rw[Nat.and_one_is_mod,Nat.testBit_eq_decide_div_mod_eq]
 simp
theorem Tv{n h:Nat}(hn:n<2 ^ 60)(e:n.testBit h=true):h<60:=by
 by_cases hh:h<60
 ·exact hh
 ·have:n<2 ^ h:=yA hn (Nat.pow_le_pow_right (by decide) (by omega))
  rw[Nat.testBit_lt_two_pow this]at e
  cases e
theorem wL{p:Nat->Bool}{a b:Nat}(hab:a<=b)(h:∀i,a<=i->i<b->p i=false):(List.range b).filter p=(List.range a).filter p:=by
 obtain⟨k,rfl⟩:=Nat.exists_eq_add_of_le hab
 rw[List.range_add,List.filter_append]
 have:(List.map (λx=>a+x) (List.range k)).filter p=[]:=by
  rw[List.filter_eq_nil_iff]
  intro x hx
  obtain⟨j,hj,rfl⟩:=List.mem_map.mp hx
  rw[h (a+j) (by omega) (by have:=List.mem_range.mp hj;omega)]
  decide
 rw[this,List.append_nil]
theorem OD(n:Nat)(hn:n<2 ^ 60):(List.range (Builtin.Int.intBits (n:Int))).filter (λh=>n.testBit h)=fu n:=by
 unfold fu
 have alI:∀h,n.testBit h=true->h<Builtin.Int.intBits (n:Int):=by
  intro h e
  have h0:n≠0:=by rintro rfl;rw[Nat.zero_testBit]at e;cases e
  unfold Builtin.Int.intBits
  have:¬((n:Int)==0)=true:=by simp[h0]
  rw[if_neg this]
  by_cases hh:h<n.log2+1
  ·simpa using hh
  ·have:n<2 ^ h:=yA (Nat.lt_log2_self) (Nat.pow_le_pow_right (by decide) (by omega))
   rw[Nat.testBit_lt_two_pow this]at e
   cases e
 rcases Nat.le_total (Builtin.Int.intBits (n:Int)) 60 with h | h
 ·refine(wL h λi hi _=> ?_).symm
  cases e:n.testBit i with
  | false=>rfl
  | true=>have:=alI i e;omega
 ·refine wL h λi hi _=> ?_
  cases e:n.testBit i with
  | false=>rfl
  | true=>have:=Tv hn e;omega
theorem intBits_le(n:Nat)(hn:n<2 ^ 60):Builtin.Int.intBits (n:Int)<=60:=by
 unfold Builtin.Int.intBits
 split
 ·decide
 ·rename_i h
  have h0:n≠0:=by rintro rfl;simp at h
  have:(n:Int).natAbs.log2<60:=by
   have e:(n:Int).natAbs=n:=by simp
   rw[e]
   exact(Nat.log2_lt h0).mpr hn
  omega
theorem FP{n h:Nat}:h∈fu n↔h<60/\n.testBit h=true:=by
 unfold fu;rw[List.mem_filter,List.mem_range]
end HM
set_option Elab.async false
set_option linter.all false
set_option maxRecDepth 100000
namespace L2
open PySem PySem.Spec PyProof.Rows
section
variable{κ:Type}[DecidableEq κ]
def zR(kvs:List (κ×V))(k:κ):Option V:=(kvs.find? λkv=>decide (kv.1=k)).map (·.2)
def putK(kvs:List (κ×V))(k:κ)(v:V):List (κ×V):=
 if(kvs.any λkv=>decide (kv.1=k))=true then kvs.map (λkv=>if kv.1=k then(kv.1,v)else kv)else kvs++[(k,v)]
theorem Cv{p:κ×V}{r:List (κ×V)}{k:κ}(e:p.1=k):zR (p::r) k=some p.2:=by simp[zR,List.find?_cons,e]
theorem Cw{p:κ×V}{r:List (κ×V)}{k:κ}(e:¬p.1=k):zR (p::r) k=zR r k:=by simp[zR,List.find?_cons,e]
theorem Qm(k:κ):∀kvs:List (κ×V),(kvs.any λkv=>decide (kv.1=k))=(zR kvs k).isSome
 | []=>rfl
 | p::r=>by
  rw[List.any_cons]
  by_cases e:p.1=k
  ·simp only[Cv e,zai e,Bool.true_or,Option.isSome_some]
  ·rw[Cw e,zah e,Bool.false_or];exact Qm k r
theorem Gb(kvs:List (κ×V))(k:κ)(v:V):(putK kvs k v).length<=kvs.length+1:=by
 unfold putK
 split
 ·rw[zar];omega
 ·rw[List.length_append,List.length_cons,List.length_nil];omega
theorem wZ.uN{o:Option V}{u:Option Value}(r:wZ o u):o.isSome=u.isSome:=by
 cases o with
 | none=>cases u with
  | none=>rfl
  | some _=>exact(show False from r).elim
 | some _=>cases u with
  | none=>exact(show False from r).elim
  | some _=>rfl
theorem wZ.getD{o:Option V}{u:Option Value}{d:V}{d':Value}(r:wZ o u)(rd:RelV d d'):RelV (o.getD d) (u.getD d'):=by
 cases o with
 | none=>cases u with
  | none=>exact rd
  | some _=>exact(show False from r).elim
 | some _=>cases u with
  | none=>exact(show False from r).elim
  | some _=>exact r
theorem KV.val{kvs:List (κ×V)}{vs:List (κ×Value)}(r:KV kvs vs)(k:κ):wZ (zR kvs k) (valueAt vs k):=by
 unfold KV at r
 induction r with
 | nil=>exact zac
 | @cons p q ps qs h t ih=>
  obtain⟨h1,h2⟩:=h
  by_cases e:p.1=k
  ·have e':q.1=k:=h1.symm.trans e
   have b:valueAt (q::qs) k=some q.2:=by simp[valueAt,List.find?_cons,e']
   rw[Cv e,b];exact h2
  ·have e':¬q.1=k:=λz=>e (h1.trans z)
   have b:valueAt (q::qs) k=valueAt qs k:=by simp[valueAt,List.find?_cons,e']
   rw[Cw e,b];exact ih
theorem KV.any{kvs:List (κ×V)}{vs:List (κ×Value)}(r:KV kvs vs)(k:κ):(kvs.any λkv=>decide (kv.1=k))=vs.any λkv=>decide (kv.1=k):=by
 unfold KV at r
 induction r with
 | nil=>rfl
 | cons h t ih=>rw[List.any_cons,List.any_cons,ih,h.1]
theorem KV.repl{kvs:List (κ×V)}{vs:List (κ×Value)}(r:KV kvs vs)(k:κ){y:V}{u:Value}(ry:RelV y u):
  KV (kvs.map λkv=>if kv.1=k then(kv.1,y)else kv) (vs.map λkv=>if kv.1=k then(kv.1,u)else kv):=by
 unfold KV at r ⊢
 induction r with
 | nil=>exact .nil
 | @cons p q ps qs h t ih=>
  rw[List.map_cons,List.map_cons]
  refine .cons ?_ ih
  obtain⟨h1,h2⟩:=h
  by_cases e:p.1=k
  ·rw[if_pos e,if_pos (h1.symm.trans e)];exact⟨h1,ry⟩
  ·rw[if_neg e,if_neg (λz=>e (h1.trans z))];exact⟨h1,h2⟩
theorem KV.put{kvs:List (κ×V)}{vs:List (κ×Value)}(r:KV kvs vs)(k:κ){y:V}{u:Value}(ry:RelV y u):KV (putK kvs k y) (stored vs k u):=by
 unfold putK stored
 rw[r.any k]
 by_cases e:(vs.any λkv=>decide (kv.1=k))=true
 ·rw[if_pos e,if_pos e];exact r.repl k ry
 ·rw[if_neg e,if_neg e];exact Paired.snoc r ⟨rfl,ry⟩
theorem KV.length{kvs:List (κ×V)}{vs:List (κ×Value)}(r:KV kvs vs):kvs.length=vs.length:=Paired.length r
end
theorem JS{P:Program}{w:World}{k:Key}{u:Value}(r:RelV (kV k) u):(cL P w).is k u=true:=by
 cases k with
 | inl i=>obtain⟨t,e⟩:=(show ∃t,u=Value.int i t from r);subst e;exact Rc P w i t
 | inr x=>obtain⟨t,e⟩:=(show ∃t,u=Value.str x t from r);subst e;exact Rb P w x t
theorem Lz{P:Program}{w:World}:∀{ks:List Key} {us:List Value},Vals (ks.map kV) us->ItemsAre (cL P w) ks us
 | [],_,r=>by rw[List.map_nil]at r;cases r;exact .nil
 | k::ks,_,r=>by
  rw[List.map_cons]at r
  cases r with
  | cons h t=>exact .cons (JS h) (Lz t)
abbrev KT(H:Hp):List (List Key×V)->List (List Key×Addr×Value)->Prop:=Paired λp q=>p.1=q.1/\H q.2.1=some (.tup (p.1.map kV))/\RelV p.2 q.2.2
theorem KT.val{H:Hp}{kvs:List (List Key×V)}{xs:List (List Key×Addr×Value)}(r:KT H kvs xs)(k:List Key):wZ (zR kvs k) ((atKey xs k).map (·.2)):=by
 induction r with
 | nil=>exact zac
 | @cons p q ps qs h t ih=>
  obtain⟨h1,_,h2⟩:=h
  by_cases e:p.1=k
  ·have e':q.1=k:=h1.symm.trans e
   have b:atKey (q::qs) k=some q.2:=by simp[atKey,List.find?_cons,e']
   rw[Cv e,b];exact h2
  ·have e':¬q.1=k:=λz=>e (h1.trans z)
   have b:atKey (q::qs) k=atKey qs k:=by simp[atKey,List.find?_cons,e']
   rw[Cw e,b];exact ih
theorem KT.repl{H:Hp}{kvs:List (List Key×V)}{xs:List (List Key×Addr×Value)}(r:KT H kvs xs)(k:List Key){y:V}{u:Value}(ry:RelV y u):
  KT H (kvs.map λkv=>if kv.1=k then(kv.1,y)else kv) (xs.map (putAt k u)):=by
 induction r with
 | nil=>exact .nil
 | @cons p q ps qs h t ih=>
  rw[List.map_cons,List.map_cons]
  refine .cons ?_ ih
  obtain⟨h1,h2,h3⟩:=h
  unfold putAt
  by_cases e:p.1=k
  ·rw[if_pos e,if_pos (h1.symm.trans e)];exact⟨h1,h2,ry⟩
  ·rw[if_neg e,if_neg (λz=>e (h1.trans z))];exact⟨h1,h2,h3⟩
theorem KT.put{H:Hp}{kvs:List (List Key×V)}{xs:List (List Key×Addr×Value)}(r:KT H kvs xs)(k:List Key){b:Addr}{y:V}{u:Value}(hb:H b=some (.tup (k.map kV)))(ry:RelV y u):
  KT H (putK kvs k y) (storedH xs k b u):=by
 have e:(kvs.any λkv=>decide (kv.1=k))=(atKey xs k).isSome:=by
  rw[Qm,(r.val k).uN,Option.isSome_map]
 unfold putK storedH
 rw[e]
 by_cases q:(atKey xs k).isSome=true
 ·rw[if_pos q,if_pos q];exact r.repl k ry
 ·rw[if_neg q,if_neg q];exact Paired.snoc r ⟨rfl,hb,ry⟩
theorem KT.keeps{H H':Hp}{kvs:List (List Key×V)}{xs:List (List Key×Addr×Value)}(r:KT H kvs xs)(ht:∀b ys,H b=some (.tup ys)->H' b=some (.tup ys)):KT H' kvs xs:=
 Paired.adn r λ_ _ z=>⟨z.1,ht _ _ z.2.1,z.2.2⟩
section
variable{P:Program}{w:World}{H:Hp}{h:Heap}{a:Addr}
theorem aeu{u:HO}(ok:rE P w H h)(e:Rd H a u):bQ P w H h a u:=e.ok ok
theorem Dq{kvs:List (Key×V)}(ok:rE P w H h)(e:Rd H a (.dK kvs)):kvs.length<=sizeLine/\(a==sysModules)=false/\∃vs,KV kvs vs/\h.DictOf (cL P w) a vs:=
 show bQ P w H h a (.dK kvs)from aeu ok e
theorem abw{kvs:List (Key×V)}(ok:rE P w H h)(e:H a=some (.dK kvs)):kvs.length<=sizeLine/\(a==sysModules)=false/\∃vs,KV kvs vs/\h.DictOf (cL P w) a vs:=Dq ok (.inl e)
theorem yK{ks:List Key}(ok:rE P w H h)(e:H a=some (.tup (ks.map kV))):(tupleKind (cL P w)).is h ks a:=by
 obtain⟨_,its,r,o,h1,h2,n,h3⟩:=(show bQ P w H h a (.tup (ks.map kV))from ok a _ e)
 exact⟨o,its.toArray,n,h1,h2,h3,by simpa using Lz r⟩
theorem Gi{kvs:List (List Key×V)}(ok:rE P w H h)(e:Rd H a (.dT kvs)):kvs.length<=sizeLine/\(a==sysModules)=false/\
  ∃xs,KT H kvs xs/\h.DictOfH (tupleKind (cL P w)) a xs:=by
 obtain⟨z,y,xs,r,o,es,ep,h1,h2,h3,h4,h5⟩:=(show bQ P w H h a (.dT kvs)from aeu ok e)
 refine⟨z,y,xs,r,o,es,ep,h1,h2,h3,h4,λx hx=> ?_,h5⟩
 have all:∀{l:List (List Key×V)} {m:List (List Key×Addr×Value)},KT H l m->∀x∈m,(tupleKind (cL P w)).is h x.1 x.2.1:=by
  intro l m q
  induction q with
  | nil=>intro x hx;exact nomatch hx
  | @cons p q ps qs hq t ih=>
   intro x hx
   rcases List.mem_cons.mp hx with e | hx
   ·subst e
    exact yK ok (by rw[<-hq.1];exact hq.2.1)
   ·exact ih x hx
 exact all r x hx
theorem aeN{kvs:List (List Key×V)}(ok:rE P w H h)(e:H a=some (.dT kvs)):kvs.length<=sizeLine/\(a==sysModules)=false/\
  ∃xs,KT H kvs xs/\h.DictOfH (tupleKind (cL P w)) a xs:=Gi ok (.inl e)
end
def Ck(H:Hp)(a:Addr)(y:V)(r:Option V):Prop:=
 (∃kvs k,Rd H a (.dK kvs)/\y=kV k/\r=zR kvs k)\/∃kvs k b,Rd H a (.dT kvs)/\y= .ref b/\H b=some (.tup (k.map kV))/\r=zR kvs k
def Qa(H:Hp)(a:Addr)(y v:V)(H':Hp):Prop:=
 (∃kvs k,H a=some (.dK kvs)/\y=kV k/\kvs.length<sizeLine/\H'=upd H a (.dK (putK kvs k v)))\/
 ∃kvs k b,H a=some (.dT kvs)/\y= .ref b/\H b=some (.tup (k.map kV))/\kvs.length<sizeLine/\H'=upd H a (.dT (putK kvs k v))
theorem Ck.k{H:Hp}{a:Addr}{kvs:List (Key×V)}{k:Key}(e:H a=some (.dK kvs)):Ck H a (kV k) (zR kvs k):= .inl ⟨kvs,k,.inl e,rfl,rfl⟩
theorem Ck.t{H:Hp}{a b:Addr}{kvs:List (List Key×V)}{k:List Key}(e:H a=some (.dT kvs))(eb:H b=some (.tup (k.map kV))):Ck H a (.ref b) (zR kvs k):= .inr ⟨kvs,k,b,.inl e,rfl,eb,rfl⟩
theorem Qa.k{H:Hp}{a:Addr}{kvs:List (Key×V)}{k:Key}{v:V}(e:H a=some (.dK kvs))(hl:kvs.length<sizeLine):Qa H a (kV k) v (upd H a (.dK (putK kvs k v))):= .inl ⟨kvs,k,e,rfl,hl,rfl⟩
theorem Qa.t{H:Hp}{a b:Addr}{kvs:List (List Key×V)}{k:List Key}{v:V}(e:H a=some (.dT kvs))(eb:H b=some (.tup (k.map kV)))(hl:kvs.length<sizeLine):
  Qa H a (.ref b) v (upd H a (.dT (putK kvs k v))):= .inr ⟨kvs,k,b,e,rfl,eb,hl,rfl⟩
section
variable{X:Cx}{pins:List (Addr×Obj)}{σ:St}{H:Hp}{s:Shared}{a:Addr}{y v:V}{u r:Value}{o:Option V}{A:Around}{E:Value->Shared->Prop}
theorem Inv.big(I:Inv X pins σ H s):sysModules<s.heap.objs.size:=by
 have h:mainGlobals<s.heap.objs.size:=(I.mod.glob.keeps I.bk).lt
 exact Nat.lt_trans (by decide) h
theorem X7{Q:Value->Shared->Prop}(hu:A.units+1<cLine)(I:Inv X pins σ H s)(g:Ck H a y (some v))(ry:RelV y u)(h:∀w' s',Inv X pins σ H s'->RelV v w'->Q w' s'):
  wpAny (model X.prog X.w) A (getItem (.ref a) u) Q E s:=by
 rcases g with⟨kvs,k,e,ey,l⟩ | ⟨kvs,k,b,e,ey,eb,l⟩
 ·subst ey
  obtain⟨z,hd,vs,rel,dd⟩:=Dq I.hok e
  obtain⟨w',hw,rw'⟩:=wZ.some_of (v:=v) (o:=valueAt vs k) (by rw[l];exact rel.val k)
  exact wpAny_getItem_of (JS ry) dd.mapOf hw (h w' _ (I.tok _) rw')
 ·subst ey
  cases(show u=Value.ref b from ry)
  obtain⟨z,hd,xs,rel,dd⟩:=Gi I.hok e
  obtain⟨w',hw,rw'⟩:=wZ.some_of (v:=v) (o:=(atKey xs k).map (·.2)) (by rw[l];exact rel.val k)
  obtain⟨p,hp,hp2⟩:=Option.map_eq_some_iff.mp hw
  refine wpAny_getItem_heap (tupleKind_room_in1 hu) (yK I.hok eb) dd hp ?_
  rw[hp2]
  exact h w' _ (I.tok _) rw'
theorem alX{Q:Value->Shared->Prop}(hu:A.units+1<cLine)(I:Inv X pins σ H s)(g:Ck H a y o)(ry:RelV y u)(h:∀s',Inv X pins σ H s'->Q (.bool o.isSome) s'):
  wpAny (model X.prog X.w) A (compareOp .In u (.ref a)) Q E s:=by
 rcases g with⟨kvs,k,e,ey,l⟩ | ⟨kvs,k,b,e,ey,eb,l⟩
 ·subst ey
  obtain⟨z,hd,vs,rel,dd⟩:=Dq I.hok e
  refine wpAny_in_of (JS ry) hd dd.mapOf ?_
  rw[<-(rel.val k).uN,<-l]
  exact h _ (I.tok _)
 ·subst ey
  cases(show u=Value.ref b from ry)
  obtain⟨z,hd,xs,rel,dd⟩:=Gi I.hok e
  refine wpAny_in_heap (tupleKind_room_in1 hu) (yK I.hok eb) hd dd ?_
  have q:=(rel.val k).uN
  rw[Option.isSome_map]at q
  rw[<-q,<-l]
  exact h _ (I.tok _)
theorem adR{Q:Value->Shared->Prop}(hu:A.units+1<cLine)(I:Inv X pins σ H s)(g:Ck H a y o)(ry:RelV y u)(h:∀s',Inv X pins σ H s'->Q (.bool (!o.isSome)) s'):
  wpAny (model X.prog X.w) A (compareOp .NotIn u (.ref a)) Q E s:=by
 rcases g with⟨kvs,k,e,ey,l⟩ | ⟨kvs,k,b,e,ey,eb,l⟩
 ·subst ey
  obtain⟨z,hd,vs,rel,dd⟩:=Dq I.hok e
  refine wpAny_notIn_of (JS ry) hd dd.mapOf ?_
  rw[<-(rel.val k).uN,<-l]
  exact h _ (I.tok _)
 ·subst ey
  cases(show u=Value.ref b from ry)
  obtain⟨z,hd,xs,rel,dd⟩:=Gi I.hok e
  refine wpAny_notIn_heap (tupleKind_room_in1 hu) (yK I.hok eb) hd dd ?_
  have q:=(rel.val k).uN
  rw[Option.isSome_map]at q
  rw[<-q,<-l]
  exact h _ (I.tok _)
theorem Pg{h':Heap}{t':Nat}{ob:HO}(I:Inv X pins σ H s)(mu:Mut (H a))(hs:Heap.SameBut a s.heap h')(he:∃q,h'.get? a=some q)(new:bQ X.prog X.w (upd H a ob) h' a ob):
  Inv X pins σ (upd H a ob) {s with heap:=h',toks:=t'}:=
 I.write (x:=a) (e:=a) mu (.inl rfl) (λb q hb z=>(hs.2 b hb).trans z) he new
theorem agF{P:Program}{w:World}{H':Hp}{h':Heap}{kvs:List (Key×V)}{vs:List (Key×Value)}(z:kvs.length<=sizeLine)(hd:(a==sysModules)=false)(rel:KV kvs vs)(dd:h'.DictOf (cL P w) a vs):
  bQ P w H' h' a (.dK kvs):=⟨z,hd,vs,rel,dd⟩
theorem Mf{H':Hp}{Q:Unit->Shared->Prop}(hu:A.units+1<cLine)(I:Inv X pins σ H s)(g:Qa H a y v H')(ry:RelV y u)(rv:RelV v r)(h:∀s',Inv X pins σ H' s'->Q () s'):
  wpAny (model X.prog X.w) A (setItem (.ref a) u r) Q E s:=by
 rcases g with⟨kvs,k,e,ey,l,eH⟩ | ⟨kvs,k,b,e,ey,eb,l,eH⟩
 ·subst ey eH
  obtain⟨z,hd,vs,rel,dd⟩:=abw I.hok e
  have hz:vs.length<=sizeLine:=by rw[<-rel.length];exact z
  have hl:(putK kvs k v).length<=sizeLine:=by have:=Gb kvs k v;omega
  refine wpAny_setItem_pairs (hsz:=hz) (JS ry) dd λh' dd' hs=>h _ ?_
  have he:∃q,h'.get? a=some q:=let⟨q,_,_,hq,_⟩:=dd';⟨q,hq⟩
  exact Pg I (by rw[e];exact zac) hs he (agF hl hd (rel.put k rv) dd')
 ·subst ey eH
  cases(show u=Value.ref b from ry)
  obtain⟨z,hd,xs,rel,dd⟩:=aeN I.hok e
  have hz:xs.length<=sizeLine:=by rw[<-Paired.length rel];exact z
  have hl:(putK kvs k v).length<=sizeLine:=by have:=Gb kvs k v;omega
  refine wpAny_setItem_heap (hsz:=hz) (tupleKind_room_in1 hu) (yK I.hok eb) dd λh' dd' hs=>h _ ?_
  obtain⟨q,es,ep,hq,h2,h3,h4,_,h5⟩:=dd'
  refine Pg I (by rw[e];exact zac) hs ⟨q,hq⟩ ⟨hl,hd,_,(rel.put k eb rv).keeps λc ys ec=> ?_,q,es,ep,hq,h2,h3,h4,h5⟩
  rw[aG (aiQ ec e (λz=>nomatch z))]
  exact ec
end
section
variable{X:Cx}{pins:List (Addr×Obj)}{σ:St}{H:Hp}{s:Shared}{a:Addr}{kvs:List (Key×V)}{k:Key}{u:Value}{A:Around}{E:Value->Shared->Prop}
theorem ajt{Q:Value->Shared->Prop}(I:Inv X pins σ H s)(e:Rd H a (.dK kvs))(h:∀t s',Inv X pins σ H s'->Q (.int kvs.length t) s'):wpAny (model X.prog X.w) A (call (.builtin "len") [.ref a]) Q E s:=by
 obtain⟨z,hd,vs,rel,dd⟩:=Dq I.hok e
 refine call_len_dict hd dd (by rw[<-rel.length];rw[sizeLine_eq]at z;omega) ?_
 rw[<-rel.length]
 exact h _ _ (I.tok _)
end
theorem RP{X:Cx}{pins:List (Addr×Obj)}{σ:St}{H:Hp}{s:Shared}{a:Addr}{y:V}{o:Option V}(I:Inv X pins σ H s)(g:Ck H a y o):s.TypeIs (.ref a) "dict" := by
 rcases g with⟨kvs,k,e,_,_⟩ | ⟨kvs,k,b,e,_,_,_⟩
 ·obtain⟨_,_,vs,_,dd⟩:=Dq I.hok e
  exact dd.typeIs
 ·obtain⟨_,_,xs,_,dd⟩:=Gi I.hok e
  exact dd.typeIs
theorem abx{P:Program}{w:World}{H:Hp}(h:Heap)(hb:sysModules<h.objs.size):bQ P w H (h.push {cls:= .type "dict",data:= .dict #[]}) h.objs.size (.dK []):=
 ⟨Nat.zero_le _,beq_eq_false_iff_ne.mpr (Ne.symm (xD hb)),[],.nil,Heap.DictOf.new h⟩
def ae1:TE:=λ_ H Q=>∀p,H p=none->Q (.ref p) (upd H p (.dK []))
section
variable{X:Cx}{pos:Pos}
theorem aak:PE X (.Dict [] [] pos) ae1:=λpins s σ H Q I h=>
 wpAny_Dict_empty ⟨.ref s.heap.objs.size,_,I.laid (a:=s.heap.objs.size) (o:= .dK []) (t':=s.toks) (λ_ _ q=>zD _ q) (zad _) (abx s.heap I.big),rfl,h _ (I.hok.fresh (zad _))⟩
end
structure M1(X:Cx)(o:Expr)(m:Str)(apos:Pos)(e:Expr)(cpos:Pos):Prop where
 base:attributeBase o m X.env (eval o X.env)=eval o X.env
 few:((backTo cpos (starEach [e] X.env)).all (λx=> !x.1)&&(backToKw cpos (keywordEach [] X.env)).all (λx=>x.1.isSome)
  && decide (([e]:List Expr).length+([]:List Keyword).length+(if([]:List Keyword).isEmpty then 0 else 1)<30))=true
 line:(apos.endLine==cpos.line)=true
 trees:backTo cpos (starEach [e] X.env)=[(false,eval e X.env)]
structure M2(X:Cx)(o:Expr)(m:Str)(apos:Pos)(e f:Expr)(cpos:Pos):Prop where
 base:attributeBase o m X.env (eval o X.env)=eval o X.env
 few:((backTo cpos (starEach [e,f] X.env)).all (λx=> !x.1)&&(backToKw cpos (keywordEach [] X.env)).all (λx=>x.1.isSome)
  && decide (([e,f]:List Expr).length+([]:List Keyword).length+(if([]:List Keyword).isEmpty then 0 else 1)<30))=true
 line:(apos.endLine==cpos.line)=true
 trees:backTo cpos (starEach [e,f] X.env)=[(false,eval e X.env),(false,eval f X.env)]
def IsD(H:Hp)(a:Addr):Prop:=(∃kvs,Rd H a (.dK kvs))\/∃kvs,Rd H a (.dT kvs)
theorem Uv{X:Cx}{pins:List (Addr×Obj)}{σ:St}{H:Hp}{s:Shared}{a:Addr}(I:Inv X pins σ H s)(d:IsD H a):
  s.TypeIs (.ref a) "dict" /\ (∀b,Value.ref a= .ref b->∃ob,s.heap.get? b=some ob/\ob.dict=none)/\(a==sysModules)=false:=by
 rcases d with⟨kvs,e⟩ | ⟨kvs,e⟩
 ·obtain⟨_,hd,vs,_,dd⟩:=Dq I.hok e
  refine⟨dd.typeIs,λb q=> ?_,hd⟩
  cases q
  obtain⟨ob,_,_,h1,h2,_⟩:=dd
  exact⟨ob,h1,h2.2.1⟩
 ·obtain⟨_,hd,xs,_,dd⟩:=Gi I.hok e
  refine⟨dd.typeIs,λb q=> ?_,hd⟩
  cases q
  obtain⟨ob,_,_,h1,h2,_⟩:=dd
  exact⟨ob,h1,h2.2.1⟩
section
variable{X:Cx}{pins:List (Addr×Obj)}{σ:St}{H:Hp}{s:Shared}{a:Addr}{y d:V}{u r:Value}{o:Option V}{A:Around}{E:Value->Shared->Prop}
theorem agL{Q:Value->Shared->Prop}(hu:A.units+1<cLine)(I:Inv X pins σ H s)(g:Ck H a y o)(ry:RelV y u)(h:∀w' s',Inv X pins σ H s'->RelV (o.getD .non) w'->Q w' s'):
  wpAny (model X.prog X.w) A (call (.builtin "dict.get") [.ref a,u]) Q E s:=by
 rcases g with⟨kvs,k,e,ey,l⟩ | ⟨kvs,k,b,e,ey,eb,l⟩
 ·subst ey
  obtain⟨z,hd,vs,rel,dd⟩:=Dq I.hok e
  refine call_meetsIn PySem.F.slot_dict_get dd.typeIs PySem.F.entry_dict_get (PySem.F.args_dict_get_2 _ _) (meets_dict_get (cL X.prog X.w) a (JS ry) hd) ⟨_,dd.mapOf,h _ _ (I.tok _) ?_⟩
  rw[l]
  exact(rel.val k).getD rfl
 ·subst ey
  cases(show u=Value.ref b from ry)
  obtain⟨z,hd,xs,rel,dd⟩:=Gi I.hok e
  refine call_meetsIn PySem.F.slot_dict_get dd.typeIs PySem.F.entry_dict_get (PySem.F.args_dict_get_2 _ _) (meetsH_dict_get (tupleKind (cL X.prog X.w)) a b hd) ⟨tupleKind_room_in1 hu,k,xs,yK I.hok eb,dd,h _ _ (I.tok _) ?_⟩
  rw[l]
  exact(rel.val k).getD rfl
theorem agK{Q:Value->Shared->Prop}(hu:A.units+1<cLine)(I:Inv X pins σ H s)(g:Ck H a y o)(ry:RelV y u)(rd:RelV d r)(h:∀w' s',Inv X pins σ H s'->RelV (o.getD d) w'->Q w' s'):
  wpAny (model X.prog X.w) A (call (.builtin "dict.get") [.ref a,u,r]) Q E s:=by
 rcases g with⟨kvs,k,e,ey,l⟩ | ⟨kvs,k,b,e,ey,eb,l⟩
 ·subst ey
  obtain⟨z,hd,vs,rel,dd⟩:=Dq I.hok e
  refine call_meetsIn PySem.F.slot_dict_get dd.typeIs PySem.F.entry_dict_get (PySem.F.args_dict_get_3 _ _ _) (meets_dict_get_default (cL X.prog X.w) a (JS ry) hd r) ⟨_,dd.mapOf,h _ _ (I.tok _) ?_⟩
  rw[l]
  exact(rel.val k).getD rd
 ·subst ey
  cases(show u=Value.ref b from ry)
  obtain⟨z,hd,xs,rel,dd⟩:=Gi I.hok e
  refine call_meetsIn PySem.F.slot_dict_get dd.typeIs PySem.F.entry_dict_get (PySem.F.args_dict_get_3 _ _ _) (meetsH_dict_get_default (tupleKind (cL X.prog X.w)) a b hd r) ⟨tupleKind_room_in1 hu,k,xs,yK I.hok eb,dd,h _ _ (I.tok _) ?_⟩
  rw[l]
  exact(rel.val k).getD rd
end
section
variable{X:Cx}
theorem Yd:j4 X (.builtin "len") (λxs H Q=>∃a kvs,xs=[V.ref a]/\H a=some (.dK kvs)/\Q (.int kvs.length) H):=by
 intro pins s σ H xs us Q I r h
 obtain⟨a,kvs,rfl,ha,q⟩:=h
 obtain⟨u,rfl,ru⟩:=vals1 r
 cases ru
 exact ajt I (.inl ha) λt s' I'=>⟨.int kvs.length,H,I',⟨t,rfl⟩,q⟩
end
section
variable{prog:Program}{w:World}{A:Around}{E:Value->Shared->Prop}{s:Shared}
theorem R6{T newId initId:String}{Bn Bi:Builtin}{args:List Value}{kw:List (Str×Value)}{Q Q₁:Value->Shared->Prop}(ft:TypeCalled T newId initId)
  (hct:checkTypeCall T ⟨args,kw⟩=pure ()) (hcn:checkBuiltinCall newId ⟨.type T::args,kw⟩=pure ())
  (entryN:entryFor table newId=some Bn) (entryI:entryFor table initId=some Bi)
  (h:wpAny (model prog w) A.in1.in1 (Bn ⟨.type T::args,kw⟩) (λfin s₁=>∃obj,fin= .done (.ret obj)/\Q₁ obj s₁) E s)
  (hnext:∀obj s₁,Q₁ obj s₁->s₁.TypeIs obj T/\argsOk initId ⟨obj::args,kw⟩/\wpAny (model prog w) A.in1.in1 (Bi ⟨obj::args,kw⟩) (λfin s₂=>fin= .done (.ret .none)/\Q obj s₂) E s₁):
  wpAny (model prog w) A (call (.type T) args kw) Q E s:=by
 obtain⟨c,tl,hmro⟩:=ft.mro
 have hmade:=ft.made
 have hsub:=ft.sub
 refine wpAny_call (codeAny_of_tree ?_)
 show wpAny _ _ (callAny (.type T) _) _ _ _
 refine zI ⟨Code.quiet_builtin _ (by decide +kernel),codeAny_builtin F.entry_type_call ?_⟩
 rw[Around.under_plain (weight_type_call_type T args kw) (units_type_call_type T args kw)]
 have h1:=ft.notType
 have h2:=ft.canCreate
 repeat (any_goals (first | assumption | wp_step))
 refine codeAny_mono (codeAny_call_builtin (R:=λr s₁=>match r with | .ok (.ret obj)=>Q₁ obj s₁ | .ok _=>False | .error e=>E e s₁) ft.plain entryN (wpAny_of_eq hcn (vE h (λfin s₁ ⟨obj,e,q⟩=>by subst e;exact q) λe s₁ q=>q))) λr s₁ hr=> ?_
 cases r with
 | error e=>exact hr
 | ok fl=>
  cases fl with
  | ret obj=>
   obtain⟨hT,hok,hsi⟩:=hnext _ _ hr
   have hli:=ft.init.lookup
   have hbi:=ft.init.bind obj
   repeat (any_goals (first | assumption | wp_step))
   refine codeAny_mono (codeAny_call_builtin (R:=λr s₂=>match r with | .ok (.ret v)=>v= .none/\Q obj s₂ | .ok _=>False | .error e=>E e s₂) ft.init.plain entryI (ft.init.check _ _ _ _ _ _ _ _ hT hok (vE hsi (λfin s₂ ⟨e,q⟩=>by subst e;exact⟨rfl,q⟩) λe s₂ q=>q))) λr₂ s₂ hr₂=> ?_
   cases r₂ with
   | error e=>exact hr₂
   | ok fl₂=>
    cases fl₂ with
    | ret r=>
     obtain⟨rfl,hq⟩:=hr₂
     repeat (any_goals (first | assumption | wp_step))
    | _=>exact hr₂.elim
  | _=>exact hr.elim
theorem Ju{T newId:String}{self a:Value}{kw:List (Str×Value)}{Q:Fin->Shared->Prop}(hl:typeLookup (.type T) "__init__" = pure (some (.builtin "object.__init__")))
  (hm:Bind.madeBy (.type T)=pure (some newId)) (hne:(some newId != some "object.__new__")=true) (hT:s.TypeIs self T) (hq:Q (.done (.ret .none)) s):
  wpAny (model prog w) A (Builtin.«object.__init__» ⟨[self,a],kw⟩) Q E s:=by
 repeat (any_goals (first | assumption | wp_step))
abbrev qb(h:Heap)(e it:Addr)(i:Int)(gv old:Value):Prop:=
 h.get? e=some {cls:= .type "enumerate",dict:=none,data:= .fields #[.none,.bool false,.ref it,rawInt i,gv,old],slots:= #[]}
def Sy(gv:Value)(c:Int):Prop:=gv= .none\/∃t,gv= .int c t
theorem RL{e it:Addr}{fp:List Addr}{n i:Nat}{c:Int}{gv:Value}{P:Nat->Value->Prop}{St:Nat->Heap->Prop}{old:Value}{Q:Value->Shared->Prop}
  (D:Draws prog w A it fp n P St) (he:qb s.heap e it c gv old) (hg:Sy gv c) (hst:St i s.heap) (hlt:i<n) (hne:e≠it) (hef:e∉fp)
  (hQ:∀x h' tk tk',P i x->IsEnumOut h' e it (c+1) x s.heap.objs.size->St (i+1) h'->
   h'.get? s.heap.objs.size=some {cls:= .type "tuple",data:= .seq #[.int c tk,x]}->h'.objs.size=s.heap.objs.size+1->
   (∀b o,b≠e->b≠it->s.heap.get? b=some o->h'.get? b=some o)->Q (.ref s.heap.objs.size) {s with heap:=h',toks:=tk'}):
  wpAny (model prog w) A (Builtin.«enumerate.__next__» ⟨[.ref e],[]⟩) (λfin s'=>∃v,fin= .done (.ret v)/\Q v s') E s:=by
 obtain⟨hp,g,d,tk₀,os⟩:=s
 show wpAny _ _ (field (.ref e) 2 >>= _) _ _ _
 refine zC (vT he rfl (x:= .ref it) rfl ?_)
 refine zC (D.item i _ _ _ hlt hst λx h₁ tk hPx hit₁ hs₁=> ?_)
 replace hs₁:Heap.SameBut it hp h₁:=hs₁
 have he₁:qb h₁ e it c gv old:=(hs₁.2 e hne).trans he
 show wpAny _ _ (field (.ref e) 3 >>= _) _ _ ⟨h₁,g,d,tk,os⟩
 refine zC (vT he₁ rfl (x:=rawInt c) rfl ?_)
 show wpAny _ _ (field (.ref e) 4 >>= _) _ _ ⟨h₁,g,d,tk,os⟩
 refine zC (vT he₁ rfl (x:=gv) rfl ?_)
 have rest:∀(ti:Tok) (tk1:Nat),wpAny (model prog w) A (do
   setField (.ref e) 3 (rawInt (c+1));setField (.ref e) 4 .none
   let result <-newTuple [.int c ti,x]
   if <-Builtin.SmallTypes.ownedTupleIsFree (.ref e)then
    rule "enumerate.__next__.owned-tuple-again"
    let old <-field (.ref e) 5
    setField (.ref e) 5 x
    Builtin.SmallTypes.ownedTupleHandOut (.ref e) result
    letGo [old] [result]
   ret result) (λfin s'=>∃v,fin= .done (.ret v)/\Q v s') E ⟨h₁,g,d,tk1,os⟩:=λti tk1=>by
  refine zC (vF he₁ (by simp) λh₂ he₂ hs₂=> ?_)
  replace hs₂:Heap.SameBut e h₁ h₂:=hs₂
  replace he₂:qb h₂ e it (c+1) gv old:=he₂
  refine zC (vF he₂ (by simp) λh₃ he₃ hs₃=> ?_)
  replace hs₃:Heap.SameBut e h₂ h₃:=hs₃
  replace he₃:IsEnum h₃ e it (c+1) old:=he₃
  refine zC (wpAny_newTuple ?_)
  have he₄:IsEnum (h₃.push {cls:= .type "tuple",data:= .seq #[.int c ti,x]}) e it (c+1) old:=zD _ he₃
  generalize hh₄:h₃.push {cls:= .type "tuple",data:= .seq #[.int c ti,x]}=h₄ at he₄
  have hsz:h₃.objs.size=hp.objs.size:=by rw[hs₃.1,hs₂.1,hs₁.1]
  have hel:e<hp.objs.size:=zS he
  have ht₄:h₄.get? hp.objs.size=some {cls:= .type "tuple",data:= .seq #[.int c ti,x]}:=by rw[<-hh₄,<-hsz];exact yB _ rfl
  have hz₄:h₄.objs.size=hp.objs.size+1:=by rw[<-hh₄,Heap.size_push,hsz]
  have hk₄:∀b o,b≠e->b≠it->hp.get? b=some o->h₄.get? b=some o:=λb o hbe hbi hb=>by
   rw[<-hh₄];exact zD _ (hs₃.extBut b o hbe (hs₂.extBut b o hbe (hs₁.extBut b o hbi hb)))
  have hit₄:St (i+1) h₄:=D.frame _ _ _ hit₁ λb hb o y=>by
   have hbe:b≠e:=λq=>hef (q▸hb)
   rw[<-hh₄];exact zD _ (hs₃.extBut b o hbe (hs₂.extBut b o hbe y))
  show wpAny _ _ (Builtin.SmallTypes.ownedTupleIsFree (.ref e) >>= _) _ _ ⟨h₄,g,d,tk1,os⟩
  rw[hsz]
  refine zC ?_
  ·unfold Builtin.SmallTypes.ownedTupleIsFree
   refine zC (vT he₄ rfl (x:= .none) rfl (zI ?_))
   simp only[if_true]
   refine zC (wpAny_rule ?_)
   refine zC (vT he₄ rfl (x:=old) rfl ?_)
   refine zC (vF he₄ (by simp) λh₅ he₅ hs₅=> ?_)
   replace hs₅:Heap.SameBut e h₄ h₅:=hs₅
   replace he₅:IsEnum h₅ e it (c+1) x:=he₅
   show wpAny _ _ (Builtin.SmallTypes.ownedTupleHandOut (.ref e) (.ref hp.objs.size) >>= _) _ _ ⟨h₅,g,d,tk1,os⟩
   refine zC ?_
   ·unfold Builtin.SmallTypes.ownedTupleHandOut
    refine zC (vF he₅ (by simp) λh₆ he₆ hs₆=> ?_)
    replace hs₆:Heap.SameBut e h₅ h₆:=hs₆
    replace he₆:IsEnumOut h₆ e it (c+1) x hp.objs.size:=he₆
    refine vF he₆ (by simp) λh₇ he₇ hs₇=> ?_
    replace hs₇:Heap.SameBut e h₆ h₇:=hs₇
    replace he₇:IsEnumOut h₇ e it (c+1) x hp.objs.size:=he₇
    refine zC (wpAny_letGo (zI ⟨_,rfl,hQ x h₇ ti tk1 hPx he₇ ?_ ?_ ?_ ?_⟩))
    ·exact D.frame _ _ _ hit₄ λb hb o y=>by
      have hbe:b≠e:=λq=>hef (q▸hb)
      exact hs₇.extBut b o hbe (hs₆.extBut b o hbe (hs₅.extBut b o hbe y))
    ·exact hs₇.extBut _ _ (xS hel) (hs₆.extBut _ _ (xS hel) (hs₅.extBut _ _ (xS hel) ht₄))
    ·rw[hs₇.1,hs₆.1,hs₅.1,hz₄]
    ·exact λb o hbe hbi hb=>hs₇.extBut b o hbe (hs₆.extBut b o hbe (hs₅.extBut b o hbe (hk₄ b o hbe hbi hb)))
 rcases hg with rfl | ⟨ti,rfl⟩
 ·show wpAny _ _ (mkInt c >>= _) _ _ ⟨h₁,g,d,tk,os⟩
  exact zC (wpAny_mkInt (rest tk (tk+1)))
 ·exact rest ti tk
theorem Dg{it l:Addr}{i:Nat}{items}{x:Value}{Q:Value->Shared->Prop}(hit:s.heap.IsTupleIter it l i)(hl:s.heap.IsTuple l items)(hx:items[i]? = some x)
  (hQ:∀h',h'.IsTupleIter it l (i+1)->Heap.SameBut it s.heap h'->Q x {s with heap:=h'}):
  wpAny (model prog w) A (Builtin.SmallTypes.nextOf (.ref it)) Q E s:=by
 obtain⟨o,ho,hc,hd⟩:=id hit
 obtain⟨ol,hol,_,nl,hdl⟩:=hl
 unfold Builtin.SmallTypes.nextOf
 refine zC (zal (name:=Str.ofString "__next__") hit.typeIs F.slot_tuple_iterator_next
  (jS F.slot_tuple_iterator_next hit.typeIs F.entry_tuple_iterator_next ?_ (F.args_tuple_iterator_next_1 _)))
 show wpAny _ _ (field (.ref it) 0 >>= _) _ _ s
 refine zC (vT ho hd (x:= .ref l) rfl ?_)
 show wpAny _ _ (if(Value.ref l==Value.none)=true then _ else _) _ _ s
 rw[if_neg (show ¬((Value.ref l==Value.none)=true)from xA)]
 show wpAny _ _ (field (.ref it) 1 >>= _) _ _ s
 refine zC (vT ho hd (x:= .int i 0) rfl ?_)
 show wpAny _ _ (seqItems? (.ref l) >>= _) _ _ s
 refine zC (wpAny_seqItems hol hdl ?_)
 simp only[zap,hx]
 refine zC (wpAny_setField ho hd (by simp) (zI ⟨x,rfl,zI (hQ _ ?_ (Heap.SameBut.update ..))⟩))
 exact⟨_,vS _ ho (Obj.isFreed_of_fields (Obj.data_mapFields hd _)),(Obj.cls_mapFields ..).trans hc,by
  rw[Obj.data_mapFields hd];simp[rawInt]⟩
theorem uK{it l:Addr}{i:Nat}{items}{Q:Value->Shared->Prop}(hh:A.handled=none)
  (hit:s.heap.IsTupleIter it l i) (hl:s.heap.IsTuple l items) (hx:items[i]? = none)
  (hE:∀h' e,Heap.ExtBut it s.heap h'->(∃o,h'.get? e=some o/\o.cls= .type "StopIteration")->E (.ref e) {s with heap:=h'}):
  wpAny (model prog w) A (Builtin.SmallTypes.nextOf (.ref it)) Q E s:=by
 obtain⟨o,ho,hc,hd⟩:=id hit
 obtain⟨ol,hol,_,nl,hdl⟩:=hl
 unfold Builtin.SmallTypes.nextOf
 refine zC (zal (name:=Str.ofString "__next__") hit.typeIs F.slot_tuple_iterator_next
  (jS F.slot_tuple_iterator_next hit.typeIs F.entry_tuple_iterator_next ?_ (F.args_tuple_iterator_next_1 _)))
 show wpAny _ _ (field (.ref it) 0 >>= _) _ _ s
 refine zC (vT ho hd (x:= .ref l) rfl ?_)
 show wpAny _ _ (if(Value.ref l==Value.none)=true then _ else _) _ _ s
 rw[if_neg (show ¬((Value.ref l==Value.none)=true)from xA)]
 show wpAny _ _ (field (.ref it) 1 >>= _) _ _ s
 refine zC (vT ho hd (x:= .int i 0) rfl ?_)
 show wpAny _ _ (seqItems? (.ref l) >>= _) _ _ s
 refine zC (wpAny_seqItems hol hdl ?_)
 simp only[zap,hx]
 refine zC (wpAny_rule (zC (wpAny_setField ho hd (by simp) ?_)))
 show wpAny _ _ (newExc (.type "StopIteration") [] >>= _) _ _ _
 refine zC ?_
 simp only[newExc,newTuple]
 refine zC (wT ?_ (by size_fits))
 refine zC (m:=firstArgMember _ _) (wpAny_of_eq (a:=Value.none) (by first | rfl | (simp only[firstArgMember];rfl)) ?_)
 refine wT ?_ (by size_fits)
 simp only[raiseNew]
 refine zC (wpAny_handled ?_)
 first | rw[show A.in1.handled=none from hh] | rw[hh]
 refine zC (zI (wpAny_throw ?_))
 exact hE _ _ (((Heap.SameBut.update ..).extBut.push _).push _) ⟨_,yB _ rfl,rfl⟩
theorem RN(hh:A.handled=none)(it l:Addr)(hne:l≠it)(items:Array Value):
  Draws prog w A it [it,l] items.size (λi v=>items[i]? = some v) (λi h=>h.IsTupleIter it l i/\h.IsTuple l items) where
 live:=λ_ _ st=>let⟨o,ho,_⟩:=st.1;⟨o,ho⟩
 frame:=λ_ _ _ st hk=>⟨let⟨o,ho,a⟩:=st.1;⟨o,hk it (by simp) o ho,a⟩,let⟨o,ho,a⟩:=st.2;⟨o,hk l (by simp) o ho,a⟩⟩
 item:=λi s Q E hi st hQ=>by
  refine Dg st.1 st.2 (x:=items[i]) (by simp[hi]) λh' hit' hs'=> ?_
  exact hQ _ h' s.toks (by simp[hi]) ⟨hit',let⟨o,ho,a⟩:=st.2;⟨o,hs'.extBut l o hne ho,a⟩⟩ hs'
 done:=λs Q E st hE=>uK hh st.1 st.2 (by simp) hE
theorem Nt{e it:Addr}{fp:List Addr}{n i:Nat}{c:Int}{gv:Value}{P:Nat->Value->Prop}{St:Nat->Heap->Prop}{old:Value}{Q:Option Value->Shared->Prop}
  (D:Draws prog w A.in1 it fp n P St) (he:qb s.heap e it c gv old) (hg:Sy gv c) (hst:St i s.heap) (hlt:i<n) (hne:e≠it) (hef:e∉fp)
  (hQ:∀x h' tk tk',P i x->IsEnumOut h' e it (c+1) x s.heap.objs.size->St (i+1) h'->
   h'.get? s.heap.objs.size=some {cls:= .type "tuple",data:= .seq #[.int c tk,x]}->h'.objs.size=s.heap.objs.size+1->
   (∀b o,b≠e->b≠it->s.heap.get? b=some o->h'.get? b=some o)->Q (some (.ref s.heap.objs.size)) {s with heap:=h',toks:=tk'}):
  wpAny (model prog w) A (pyNext (.ref e)) Q E s:=by
 have hT:s.TypeIs (.ref e) "enumerate" := ⟨_,he,rfl⟩
 unfold pyNext
 exact zC (wpAny_attempt (zal (name:=Str.ofString "__next__") hT F.slot_enumerate_next
  (jS F.slot_enumerate_next hT F.entry_enumerate_next
   (RL D he hg hst hlt hne hef λx h' tk tk' a b c d k q=>zI (hQ x h' tk tk' a b c d k q)) (F.args_enumerate_next_1 _))))
end
section
variable{X:Cx}{pins:List (Addr×Obj)}{σ:L2.St}{H:Hp}{s:Shared}{h':Heap}
theorem Inv.acd{t':Nat}{a b:Addr}(I:Inv X pins σ H s)(k:∀c o,c≠a->c≠b->s.heap.get? c=some o->h'.get? c=some o)(fa:Ah X pins H a)(fb:Ah X pins H b):Inv X pins σ H {s with heap:=h',toks:=t'}:=by
 obtain⟨na,La,_,a1,a2,a3⟩:=fa
 obtain⟨nb,Lb,_,b1,b2,b3⟩:=fb
 have nit:∀c u,H c=some u->c≠a/\c≠b:=λc u e=>⟨(λz=>by rw[z,na]at e;cases e),(λz=>by rw[z,nb]at e;cases e)⟩
 have kk:∀c o,c∉[a,b]->s.heap.get? c=some o->h'.get? c=some o:=λc o hc e=>k c o (λz=>hc (by simp[z])) (λz=>hc (by simp[z])) e
 refine I.step (g':=s.gens) (d':=s.drawn) (ch:=[a,b]) (λc hc=> ?_) (λc o _ _ hc e _=>kk c o hc e) (λc o _ _ hc e _=>⟨o.slots,kk c o hc e⟩) (λ_ _ _ _ n=>n)
  (λc o hc e=>⟨o,kk c o hc e⟩) (λ_ _ e=>e) (λ_ _ _ e=>e) (λc ps e=>⟨#[],by rw[e];simp⟩) (λm hm=> ?_) (λc u e=> ?_) I.bare
 ·rcases List.mem_cons.mp hc with rfl | hc
  ·exact⟨a1,La,a2,a3⟩
  ·obtain rfl:c=b:=by simpa using hc
   exact⟨b1,Lb,b2,b3⟩
 ·obtain⟨o,es,ep,ho,r⟩:=hm
  exact⟨o,es,ep,k _ o (Ne.symm La) (Ne.symm Lb) ho,r⟩
 ·refine(I.hok c u e).stay (λd v hd q=> ?_) (λ_ q=>q) λ_ _ q=>q
  rcases hd with z | z
  ·rw[z]at q ⊢;exact k _ v (nit c u e).1 (nit c u e).2 q
  ·exact k _ v (nit d _ z).1 (nit d _ z).2 q
end
section
variable{X:Cx}{pins:List (Addr×Obj)}{σ:L2.St}{H:Hp}{s:Shared}{h':Heap}
theorem Inv.Y0{t':Nat}{a b T:Addr}{o:HO}(I:Inv X pins σ H s)(k:∀c o,c≠a->c≠b->s.heap.get? c=some o->h'.get? c=some o)(fa:Ah X pins H a)(fb:Ah X pins H b)(hT:s.heap.objs.size<=T)(new:bQ X.prog X.w (upd H T o) h' T o):
  Inv X pins σ (upd H T o) {s with heap:=h',toks:=t'}:=by
 have J:Inv X pins σ H {s with heap:=h',toks:=t'}:=I.acd k fa fb
 have hn:H T=none:=I.hok.fresh hT
 obtain⟨na,La,_,a1,a2,a3⟩:=fa
 obtain⟨nb,Lb,_,b1,b2,b3⟩:=fb
 have kk:∀c o,c∉[a,b]->s.heap.get? c=some o->h'.get? c=some o:=λc o hc e=>k c o (λz=>hc (by simp[z])) (λz=>hc (by simp[z])) e
 have ne:∀{c:Addr} {u:Obj},s.heap.get? c=some u->c≠T:=λ{c u} e=>xD (yA (zS e) hT)
 refine I.step (g':=s.gens) (d':=s.drawn) (ch:=[a,b]) (λc hc=> ?_) (λc o _ _ hc e _=>kk c o hc e) (λc o _ _ hc e _=>⟨o.slots,kk c o hc e⟩) (λc u _ e n=>by rw[aG (ne e)];exact n)
  (λc o hc e=>⟨o,kk c o hc e⟩) (λc xs e=>by rw[aG (bA e hn)];exact e) (λc ob u e=>by rw[aG (bA e hn)];exact e) (λc ps e=>⟨#[],by rw[aG (bA e hn),e];simp⟩) (λm hm=> ?_) (J.hok.track hn new) I.bare
 ·rcases List.mem_cons.mp hc with rfl | hc
  ·exact⟨a1,La,a2,a3⟩
  ·obtain rfl:c=b:=by simpa using hc
   exact⟨b1,Lb,b2,b3⟩
 ·obtain⟨o,es,ep,ho,r⟩:=hm
  exact⟨o,es,ep,k _ o (Ne.symm La) (Ne.symm Lb) ho,r⟩
end
def Ite(Sq:Hp->List V->Prop)(k:Int):It where
 go i H:=∃xs x,Sq H xs/\xs[i]? = some x
 YF i H x H':=∃p y,H p=none/\x= .ref p/\H'=upd H p (.tup [.int (k+i),y])/\∀ys,Sq H ys->ys[i]? = some y
 stop i H:=∃xs,Sq H xs/\xs.length<=i
theorem YX:(2:Nat)<=sizeLine:=by rw[sizeLine_eq];decide
section
variable{P:Program}{w:World}{K:Frag}{es:List Expr}{n:Nat}{pos:Pos}
structure Src(K:Frag)(Sq:Hp->List V->Prop)(a it:Addr)(At:Nat->Heap->Prop):Prop where
 get:∀(X:Cx) (pins:List (Addr×Obj)) (σ:L2.St) (H:Hp) (s:Shared) (xs:List V),X.K=K->Inv X pins σ H s->Sq H xs->∃its:List Value,Vals xs its/\(∃o,s.heap.get? a=some o/\o.cls≠ .type "enumerate")/\
  ∀(i:Nat) (A:Around),A.handled=none->At i s.heap->∃St:Nat->Heap->Prop,Draws X.prog X.w A it [it,a] its.length (λi v=>its[i]? = some v) St/\St i s.heap/\(∀j h,St j h->At j h)/\
   (its.length<=i->∀(Q:Value->Shared->Prop) (E:Value->Shared->Prop),(∀h' e,Heap.ExtBut it s.heap h'->(∃o,h'.get? e=some o/\o.cls= .type "StopIteration")->E (.ref e) {s with heap:=h'})->wpAny (model X.prog X.w) A (Builtin.SmallTypes.nextOf (.ref it)) Q E s)
 inj:∀(X:Cx) (pins:List (Addr×Obj)) (σ:L2.St) (H:Hp) (s:Shared) (xs ys:List V),X.K=K->Inv X pins σ H s->Sq H xs->Sq H ys->xs=ys
 keep:∀i h h',At i h->(∀o,h.get? it=some o->h'.get? it=some o)->At i h'
 obj:∀i h,At i h->∃o,h.get? it=some o/\(∀v,o.data≠ .cell v)/\o.cls≠ .type "enumerate"
theorem src_list(a it:Addr):Src K (λH xs=>pO K H a xs) a it (λi h=>h.IsListIter it a i) where
 get:=by
  intro X pins σ H s xs hK I hq
  subst hK
  obtain⟨its,rv,p,_⟩:=I.list hq
  refine⟨its,rv,?_,λi A hh st=> ?_⟩
  ·obtain⟨o,m,e,c,_⟩:=p
   exact⟨o,e,by rw[c];decide⟩
  ·have hne:a≠it:=λz=>by
    subst z
    obtain⟨o,m,e,c,_⟩:=p
    obtain⟨o',e',c',_⟩:=st
    rw[e]at e';cases e'
    rw[c]at c'
    exact absurd c' (by decide)
   have D:=Draws.list (prog:=X.prog) (w:=X.w) hh it a hne its.toArray
   refine⟨λi h=>h.IsListIter it a i/\h.IsList a its.toArray,by simpa using D,⟨st,p.isList⟩,λj h q=>q.1,λhl Q E hE=>wpAny_nextOf_list_end hh st p.isList (by simp;omega) hE⟩
 inj:=λX pins σ H s xs ys hK I h1 h2=>by subst hK;exact I.JF h1 h2
 keep:=λi h h' st k=>st.at λo e=>k o e
 obj:=λi h st=>by obtain⟨o,e,c,d⟩:=st;exact⟨o,e,(λv z=>by rw[d]at z;cases z),by rw[c];decide⟩
theorem aco(a it:Addr):Src K (λH xs=>o9 K H a xs) a it (λi h=>h.IsTupleIter it a i) where
 get:=by
  intro X pins σ H s xs hK I hq
  subst hK
  obtain⟨its,rv,p,_⟩:=I.tuple hq
  refine⟨its,rv,?_,λi A hh st=> ?_⟩
  ·obtain⟨o,e,c,_⟩:=p
   exact⟨o,e,by rw[c];decide⟩
  ·have hne:a≠it:=λz=>by
    subst z
    obtain⟨o,e,c,_⟩:=p
    obtain⟨o',e',c',_⟩:=st
    rw[e]at e';cases e'
    rw[c]at c'
    exact absurd c' (by decide)
   have D:=RN (prog:=X.prog) (w:=X.w) hh it a hne its.toArray
   refine⟨λi h=>h.IsTupleIter it a i/\h.IsTuple a its.toArray,by simpa using D,⟨st,p⟩,λj h q=>q.1,λhl Q E hE=>uK hh st (show s.heap.IsTuple a its.toArray from p) (by simp;omega) hE⟩
 inj:=λX pins σ H s xs ys hK I h1 h2=>by subst hK;exact I.DR h1 h2
 keep:=λi h h' st k=>by obtain⟨o,e,a⟩:=st;exact⟨o,k o e,a⟩
 obj:=λi h st=>by obtain⟨o,e,c,d⟩:=st;exact⟨o,e,(λv z=>by rw[d]at z;cases z),by rw[c];decide⟩
theorem Le{Sq:Hp->List V->Prop}{a e it:Addr}{At:Nat->Heap->Prop}(S:Src K Sq a it At)(hei:e≠it)(k:Int):
  Turn P w K (.Tuple es n pos) (Ite Sq k) [e,it] e (λi h=>(∃gv old,qb h e it (k+(i:Nat)) gv old/\Sy gv (k+(i:Nat)))/\At i h) where
 mem:=by simp
 obj:=λi h st b hb=>by
  obtain⟨⟨gv,old,he,_⟩,st⟩:=st
  rcases List.mem_cons.mp hb with rfl | hb
  ·exact⟨_,he,λv z=>by cases(show Data.fields _=Data.cell v from z)⟩
  ·obtain rfl:b=it:=by simpa using hb
   obtain⟨o,e1,e2,_⟩:=S.obj i h st
   exact⟨o,e1,e2⟩
 keep:=λi h h' st q=>by
  obtain⟨⟨gv,old,he,hg⟩,st⟩:=st
  exact⟨⟨gv,old,q e (by simp) _ he,hg⟩,S.keep i h h' st λo eo=>q it (by simp) o eo⟩
 item:=by
  intro X hP hw hK hc i pins s σ H E I hf st hgo
  subst hP hw
  obtain⟨⟨gv,old,he,hg⟩,st⟩:=st
  obtain⟨xs,x,hq,hx⟩:=hgo
  obtain⟨its,rv,⟨oa,ha,ca⟩,D⟩:=S.get X pins σ H s xs hK I hq
  obtain⟨St,D,hst,back,_⟩:=D i X.A.in1 (I.ok.hd hc) st
  obtain⟨u,hu,ru⟩:=rv.get hx
  have hlt:i<its.length:=(List.getElem?_eq_some_iff.mp hu).1
  have hea:e≠a:=λz=>by subst z;rw[he]at ha;cases ha;exact ca rfl
  refine Nt D he hg hst hlt hei (by simp[hei,hea]) λy h1 tk tk' hy ho alE hT hsz hk=> ?_
  have ey:y=u:=by
   have:=hy.symm.trans hu
   exact xI this
  subst ey
  refine⟨_,rfl,wpAny_letOwnedTupleGo_enum ho λh2 he2 hs2=> ?_⟩
  have hTe:s.heap.objs.size≠e:=xS (zS he)
  have hT2:h2.get? s.heap.objs.size=some {cls:= .type "tuple",data:= .seq #[.int (k+(i:Nat)) tk,y]}:=(hs2.2 _ hTe).trans hT
  have hf0:H s.heap.objs.size=none:=I.hok.fresh (zad _)
  refine⟨.ref s.heap.objs.size,upd H s.heap.objs.size (.tup [.int (k+(i:Nat)),x]),?_,rfl,⟨_,x,hf0,rfl,rfl,λys hy=>by rw[S.inj X pins σ H s ys xs hK I hy hq];exact hx⟩,⟨⟨.none,y,?_,.inl rfl⟩,S.keep _ _ _ (back _ _ alE) λo eo=>(hs2.2 it (Ne.symm hei)).trans eo⟩,λb hb=> ?_⟩
  ·refine I.Y0 (λb o n1 n2 eb=>(hs2.2 b n1).trans (hk b o n1 n2 eb)) (hf e (by simp)) (hf it (by simp)) (zad _) ?_
   exact⟨YX,[.int (k+(i:Nat)) tk,y],.cons ⟨tk,rfl⟩ (.cons ru .nil),⟨_,hT2,rfl,_,rfl⟩⟩
  ·have ec:k+((i+1:Nat):Int)=k+(i:Nat)+1:=by omega
   rw[ec]
   exact he2
  ·rw[aG]
   ·exact(hf b hb).1
   ·rcases List.mem_cons.mp hb with rfl | hb
    ·exact Ne.symm hTe
    ·obtain rfl:b=it:=by simpa using hb
     obtain⟨o,e1,_,_⟩:=S.obj i s.heap st
     exact xD (zS e1)
 done:=by
  intro X hP hw hK hc i pins s σ H E I hf st hgo
  subst hP hw
  obtain⟨⟨gv,old,he,hg⟩,st⟩:=st
  obtain⟨xs,hq,hx⟩:=hgo
  obtain⟨its,rv,⟨oa,ha,ca⟩,D⟩:=S.get X pins σ H s xs hK I hq
  obtain⟨St,_,_,_,fin⟩:=D i X.A.in1 (I.ok.hd hc) st
  have hT:s.TypeIs (.ref e) "enumerate" := ⟨_,he,rfl⟩
  obtain⟨f0,f1,f2,f3,f4,f5⟩:=hf it (by simp)
  unfold pyNext
  refine zC (wpAny_attempt (zal (name:=Str.ofString "__next__") hT F.slot_enumerate_next
   (jS F.slot_enumerate_next hT F.entry_enumerate_next ?_ (F.args_enumerate_next_1 _))))
  show wpAny _ _ (field (.ref e) 2 >>= _) _ _ _
  refine zC (vT he rfl (x:= .ref it) rfl ?_)
  refine zC (fin (by rw[<-rv.length];exact hx) _ _ λh' x he' hx'=> ?_)
  obtain⟨o,ho,hc⟩:=hx'
  refine zC (wpAny_isInstance (T:= "StopIteration") (b:=true) ⟨o,ho,hc⟩ isSubtype_stop ?_)
  exact zI ⟨rfl,I.turned (t':=s.toks) (λb o hb e=>he' b o hb e) f0 f1 f3 f4 f5⟩
 self:=λA i s Q E st hQ=>by
  obtain⟨⟨gv,old,he,_⟩,_⟩:=st
  have hT:s.TypeIs (.ref e) "enumerate" := ⟨_,he,rfl⟩
  refine wpAny_pyIter_slot hT F.slot_enumerate_iter (jS F.slot_enumerate_iter hT F.entry_enumerate_iter ?_ (F.args_enumerate_iter_1 _))
  show wpAny _ _ (ret (.ref e)) _ _ s
  exact zI ⟨_,rfl,"enumerate",_,hT,F.slot_enumerate_next.lookup,hQ⟩
end
theorem Pu:bootBuiltins "enumerate" = some (.type "enumerate"):=by decide +kernel
section
variable{prog:Program}{w:World}{A:Around}{E:Value->Shared->Prop}{s:Shared}
theorem X4{x:Value}{Q:Fin->Shared->Prop}
  (hx:wpAny (model prog w) A (pyIter x) (λitv s1=>Q (.done (.ret (.ref s1.heap.objs.size))) {s1 with heap:=s1.heap.push {cls:= .type "enumerate",data:= .fields #[.none,.bool false,itv,rawInt 0,.none,.none]}}) E s):
  wpAny (model prog w) A (Builtin.«enumerate.__new__» ⟨[.type "enumerate",x],[]⟩) Q E s:=by
 have hsub:=sub_enumerate
 have key:wpAny (model prog w) A (do
   let itv <-pyIter x
   let r <-Builtin.SmallTypes.newRecord (Value.type "enumerate") (Builtin.SmallTypes.ownedTupleFields++[itv,rawInt 0,Value.none,Value.none])
   ret r) Q E s:=by
  refine zC (vE hx (λitv s1 h1=> ?_) λ_ _ z=>z)
  wp_walk
  first | exact h1 | exact⟨_,rfl,h1⟩
 wp_walk
 refine wpAny_stack_any λst=>zI ?_
 split
 ·rename_i c _ _ _ _ _
  cases(c==Value.type "enumerate")
  ·first | exact key | exact wpAny_rule key | (wp_step;first | exact key | (wp_step;exact key))
  ·first | exact key | exact wpAny_rule key | (wp_step;first | exact key | (wp_step;exact key))
 ·first | exact key | exact wpAny_rule key | (wp_step;first | exact key | (wp_step;exact key))
end
section
variable{X:Cx}
theorem UL{s:Shared}{x:Value}{Q:Value->Shared->Prop}{E:Value->Shared->Prop}
  (hx:wpAny (model X.prog X.w) X.A.in1.in1 (pyIter x) (λitv s1=>Q (.ref s1.heap.objs.size) {s1 with heap:=s1.heap.push {cls:= .type "enumerate",data:= .fields #[.none,.bool false,itv,rawInt 0,.none,.none]}}) E s):
  wpAny (model X.prog X.w) X.A (call (.type "enumerate") [x]) Q E s:=by
 refine R6 (Q₁:=λobj s₁=>s₁.TypeIs obj "enumerate" /\ Q obj s₁) F.called_enumerate (F.typeCall_enumerate_1 _) (F.newCall_enumerate_1 _) F.entry_enumerate_new F.entry_object_init (X4 (vE hx (λitv s1 q=> ?_) λ_ _ z=>z)) λobj s₁ q=>⟨q.1,F.args_object_init_2 _ _,?_⟩
 ·exact⟨_,rfl,⟨_,yB _ rfl,rfl⟩,q⟩
 ·exact Ju F.called_enumerate.init.lookup F.called_enumerate.made (by decide) q.1 ⟨rfl,q.2⟩
def agr(K:Frag)(ta:TE):TI:=λσ H R=>ta σ H λx H2=>∃l,x= .ref l/\
 (((∃xs,pO K H2 l xs)/\((∀xs,pO K H2 l xs->xs.length<=sizeLine)->R (Ite (λH xs=>pO K H l xs) 0) H2))\/((∃xs,o9 K H2 l xs)/\((∀xs,o9 K H2 l xs->xs.length<=sizeLine)->R (Ite (λH xs=>o9 K H l xs) 0) H2)))
set_option maxHeartbeats 4000000 in
theorem aab{a:Expr}{ta:TE}{es:List Expr}{n:Nat}{p pos tp:Pos}(hg:Gl X "enumerate")(hm:X.mg "enumerate" = none)(ha:PE X a ta)
  (hs:starEach [a] X.env=[(false,eval a X.env)]:=by rfl):
  PI X (.Tuple es n tp) (.Call (.Name "enumerate" p) [a] [] pos) (agr X.K ta):=by
 intro pins s σ H R I h
 refine Call_ (JL I hg hm Pu (PyProof.Rows.callWith_type1 ?_ hs rfl))
 rw[hs]
 refine Calls.spliced_cons (f9 (ha pins s σ H _ I h) λu s2 ⟨x,H2,I2,r1,q2⟩=> ?_)
 refine Calls.spliced_nil ?_
 obtain⟨l,rfl,q⟩:=q2
 cases(show u=Value.ref l from r1)
 show wpAny _ _ (call (.type "enumerate") [Value.ref l]) _ _ s2
 refine UL (X:=X) ?_
 have f0:∀{h:Heap} {b:Addr},s2.heap.objs.size<=b->Ah X pins H2 b:=λ{h b} hb=>I2.UG hb (I2.hok.fresh hb)
 rcases q with⟨⟨xs,hq⟩,q⟩ | ⟨⟨xs,hq⟩,q⟩
 ·obtain⟨its,rv,pp,hz⟩:=I2.list hq
  have q:=q λys hy=>by obtain⟨_,_,_,hz⟩:=I2.list hy;exact hz
  refine wpAny_pyIter_list pp.isList ?_
  have hsz:(s2.heap.push {cls:= .type "list_iterator",data:= .fields #[.ref l,.int 0 0]}).objs.size=s2.heap.objs.size+1:=Heap.size_push ..
  have hE:∀h,qb h (s2.heap.objs.size+1) s2.heap.objs.size 0 .none .none->h.IsListIter s2.heap.objs.size l 0->(∀b o,s2.heap.get? b=some o->h.get? b=some o)->
    wpAny (model X.prog X.w) X.A (pyIter (.ref (s2.heap.objs.size+1))) (PIE X pins σ (.Tuple es n tp) R) X.xe {s2 with heap:=h}:=λh he hit hk=>by
   have T:=Le (P:=X.prog) (w:=X.w) (es:=es) (n:=n) (pos:=tp) (src_list (K:=X.K) l s2.heap.objs.size) (e:=s2.heap.objs.size+1) (xS (Nat.lt_succ_self _)) 0
   have tn0:(∃gv old,qb h (s2.heap.objs.size+1) s2.heap.objs.size (0+((0:Nat):Int)) gv old/\Sy gv (0+((0:Nat):Int)))/\h.IsListIter s2.heap.objs.size l 0:=
    ⟨⟨_,_,he,.inl rfl⟩,hit⟩
   refine T.self X.A 0 {s2 with heap:=h} _ _ tn0 ?_
   refine⟨_,_,_,_,H2,rfl,I2.kept (t':=s2.toks) hk,T,tn0,λb hb=> ?_,q⟩
   rcases List.mem_cons.mp hb with rfl | hb
   ·exact f0 (h:=h) (Nat.le_succ _)
   ·obtain rfl:b=s2.heap.objs.size:=by simpa using hb
    exact f0 (h:=h) (zad _)
  show wpAny _ _ (pyIter (.ref (s2.heap.push _).objs.size)) _ _ _
  rw[hsz]
  refine hE _ ?_ ⟨_,zD _ (yB _ rfl),rfl,rfl⟩ λb o eb=>zD _ (zD _ eb)
  have:=yB (s2.heap.push {cls:= .type "list_iterator",data:= .fields #[.ref l,.int 0 0]}) (o:={cls:= .type "enumerate",data:= .fields #[.none,.bool false,.ref s2.heap.objs.size,rawInt 0,.none,.none]}) rfl
  rw[hsz]at this
  exact this
 ·obtain⟨its,rv,pp,hz⟩:=I2.tuple hq
  have q:=q λys hy=>by obtain⟨_,_,_,hz⟩:=I2.tuple hy;exact hz
  refine wpAny_pyIter_tuple (show s2.heap.IsTuple l its.toArray from pp) ?_
  have hsz:(s2.heap.push {cls:= .type "tuple_iterator",data:= .fields #[.ref l,.int 0 0]}).objs.size=s2.heap.objs.size+1:=Heap.size_push ..
  have hE:∀h,qb h (s2.heap.objs.size+1) s2.heap.objs.size 0 .none .none->h.IsTupleIter s2.heap.objs.size l 0->(∀b o,s2.heap.get? b=some o->h.get? b=some o)->
    wpAny (model X.prog X.w) X.A (pyIter (.ref (s2.heap.objs.size+1))) (PIE X pins σ (.Tuple es n tp) R) X.xe {s2 with heap:=h}:=λh he hit hk=>by
   have T:=Le (P:=X.prog) (w:=X.w) (es:=es) (n:=n) (pos:=tp) (aco (K:=X.K) l s2.heap.objs.size) (e:=s2.heap.objs.size+1) (xS (Nat.lt_succ_self _)) 0
   have tn0:(∃gv old,qb h (s2.heap.objs.size+1) s2.heap.objs.size (0+((0:Nat):Int)) gv old/\Sy gv (0+((0:Nat):Int)))/\h.IsTupleIter s2.heap.objs.size l 0:=
    ⟨⟨_,_,he,.inl rfl⟩,hit⟩
   refine T.self X.A 0 {s2 with heap:=h} _ _ tn0 ?_
   refine⟨_,_,_,_,H2,rfl,I2.kept (t':=s2.toks) hk,T,tn0,λb hb=> ?_,q⟩
   rcases List.mem_cons.mp hb with rfl | hb
   ·exact f0 (h:=h) (Nat.le_succ _)
   ·obtain rfl:b=s2.heap.objs.size:=by simpa using hb
    exact f0 (h:=h) (zad _)
  show wpAny _ _ (pyIter (.ref (s2.heap.push _).objs.size)) _ _ _
  rw[hsz]
  refine hE _ ?_ ⟨_,zD _ (yB _ rfl),rfl,rfl⟩ λb o eb=>zD _ (zD _ eb)
  have:=yB (s2.heap.push {cls:= .type "tuple_iterator",data:= .fields #[.ref l,.int 0 0]}) (o:={cls:= .type "enumerate",data:= .fields #[.none,.bool false,.ref s2.heap.objs.size,rawInt 0,.none,.none]}) rfl
  rw[hsz]at this
  exact this
end
structure Dz(K:Frag)(C:Addr)(name:Str):Prop where
 cd:∃cd,PySem.W.clsIn K C=some cd/\cd.hasDict=true/\cd.mro.isEmpty=false/\cd.mro.contains (.type "object")=true/\cd.mro.contains (.type "BaseException")=true/\(∀self,refuseLoop self "__setattr__" cd.mro=pure ())
 sa:findIn K (.ref C) "__setattr__" = some (some (.builtin "object.__setattr__"))
 ga:findIn K (.ref C) "__getattribute__" = some (some (.builtin "BaseException.__getattribute__"))
 no:findIn K (.ref C) name=some none
section
variable{prog:Program}{w:World}{A:Around}{E:Value->Shared->Prop}{s:Shared}{K:Frag}{x C:Addr}{name:Str}{v:Value}
def XAt(h:Heap)(x C:Addr)(vs:Array Value)(dx:Option Addr):Prop:=h.get? x=some {cls:= .ref C,dict:=dx,data:= .fields vs}
theorem ahN{h:Heap}{vs:Array Value}(a:XAt h x C vs none):PySem.W.InstAt h x {cls:= .ref C,dict:=none,data:= .fields vs} C none:=⟨a,rfl,rfl,trivial⟩
theorem ahJ{vs:Array Value}{Q:Unit->Shared->Prop}(X:K.In s.heap)(F:Dz K C name)(hx:XAt s.heap x C vs none)
  (h:∀h' dx,s.heap.objs.size=dx->XAt h' x C vs (some dx)->h'.Ns1 dx (λy=>if y=name then some v else none)->(∀b o,b≠x->s.heap.get? b=some o->h'.get? b=some o)->Q () {s with heap:=h',toks:=s.toks+2}):
  wpAny (model prog w) A (setAttr (.ref x) name v) Q E s:=by
 have I:=ahN hx
 obtain⟨cd,hc,hhd,hne,hob,_,hre⟩:=F.cd
 have SF:=PySem.F.store_object
 refine PySem.W.set_plain X I F.sa ?_
 have sub:PySem.W.Looks (model prog w) s.heap (isInstance (.ref x) (.type "object")) true:=I.type.andThen (PySem.W.looks_mroIn X (by unfold PySem.W.mroIn;rw[hc,Option.bind_some,if_neg (by rw[hne];decide),hob]))
 refine codeAny_call_builtin SF.slot.plain SF.entry (@PySem.W.check_slot (model prog w) _ _ {s with toks:=s.toks+1} "object.__setattr__" "object" "__setattr__" (.ref x) [.str name s.toks,v] [] _ SF.kind SF.split sub (SF.args (.ref x) (.str name s.toks) v) ?_)
 have hm:PySem.W.Looks (model prog w) s.heap (mroOf (.ref C)) cd.mro:=(PySem.W.looks_clsIn X hc).andThen .now
 have L3:PySem.W.Looks (model prog w) s.heap (Builtin.ObjectAttr.storeTaker? none) none:= .now
 rw[PySem.W.osa_eq,refuse_eq]
 refine zC (zC (PySem.W.Looks.here (s:={s with toks:=s.toks+1}) I.type (zC (PySem.W.Looks.here (s:={s with toks:=s.toks+1}) hm ?_))))
 rw[hre]
 refine zI (zC (PySem.W.Looks.here (s:={s with toks:=s.toks+1}) I.type (zC (PySem.W.Looks.here (s:={s with toks:=s.toks+1}) (PySem.W.looks_findIn X F.no) (zC (PySem.W.Looks.here (s:={s with toks:=s.toks+1}) L3 ?_))))))
 refine zC (zI (zC (zC (wpAny_loadPart (s:={s with toks:=s.toks+1}) hx (zC (PySem.W.Looks.here (s:={s with toks:=s.toks+1}) (PySem.W.looks_clsIn X hc) ?_))))))
 rw[hhd]
 rw[if_neg (by decide)]
 dsimp only
 rw[if_neg (by simp[typeHasDict])]
 have hxs:x≠s.heap.objs.size:=xD (zS hx)
 have hx₁:(s.heap.push {cls:= .type "dict",data:= .dict #[]}).get? x=some {cls:= .ref C,dict:=none,data:= .fields vs}:=zD _ hx
 refine zC (wpAny_alloc' (zC (wpAny_update' hx₁ (zI ?_))))
 have hgd:((s.heap.push {cls:= .type "dict",data:= .dict #[]}).update x λo=>{cls:=o.cls,dict:=some s.heap.objs.size,data:=o.data,slots:=o.slots}).get? s.heap.objs.size=some {cls:= .type "dict",data:= .dict #[]}:=
  (Heap.get?_update_ne _ _ _ _ hxs.symm).trans (Heap.get?_push_at rfl rfl)
 have hnd:((s.heap.push {cls:= .type "dict",data:= .dict #[]}).update x λo=>{cls:=o.cls,dict:=some s.heap.objs.size,data:=o.data,slots:=o.slots}).Ns s.heap.objs.size (λ_=>none):=
  ⟨_,#[],_,hgd,rfl,λe he=>absurd he (by simp),λ_=>rfl⟩
 show wpAny _ _ (Builtin.ObjectAttr.storeInDict s.heap.objs.size (.str name s.toks) name v) _ _ _
 unfold Builtin.ObjectAttr.storeInDict Builtin.ObjectAttr.newKeyGuard
 refine zC (zI (zC (wpAny_nsSet1 (Heap.Ns1.of_empty hnd) λh' hn' hs=> ?_)))
 obtain⟨oD,esD,epD,hoD,hdD,hcD⟩:=hn'.count (Within.cons name v Within.nil)
 refine zC (wpAny_lookBehind hoD (by rw[hdD];exact pastItsLine_dict (yY hcD (by rw[List.length_cons,List.length_nil,sizeLine_eq];omega))) ?_)
 wp_walk
 have hx':h'.get? x=some {cls:= .ref C,dict:=some s.heap.objs.size,data:= .fields vs}:=(hs.2 x hxs).trans (vS _ hx₁ rfl)
 refine h h' _ rfl hx' hn' λb ob hb e=> ?_
 exact(hs.2 b (xD (zS e))).trans ((Heap.get?_update_ne _ _ _ _ hb).trans (zD _ e))
theorem adH:builtinKind "BaseException.__getattribute__" = some .slot:=by decide +kernel
theorem abf:splitId "BaseException.__getattribute__" = some ("BaseException","__getattribute__"):=by decide +kernel
theorem adI(self:Value):bindSpecial (.builtin "BaseException.__getattribute__") self=pure (.builtin "BaseException.__getattribute__",[self]):=by
 have:=(PySem.F.excAttr_ValueError).ga.bind self
 exact this
theorem akK{vs:Array Value}{dx:Addr}{mA:Str->Option Value}{expr:Bool}{Q:Value->Shared->Prop}(X:K.In s.heap)(F:Dz K C name)(hgn:findIn K (.ref C) "__getattr__" = some none)(hx:XAt s.heap x C vs (some dx))(hn:s.heap.Ns1 dx mA)(hv:mA name=some v)(hh:PySem.W.handedIn v=true)
  (h:Q v {s with toks:=s.toks+1}):wpAny (model prog w) A (getAttr (.ref x) name expr) Q E s:=by
 obtain⟨od,hod,hl⟩:=Ly hn
 have I:PySem.W.InstAt s.heap x {cls:= .ref C,dict:=some dx,data:= .fields vs} C (some od):=⟨hx,rfl,rfl,hod⟩
 obtain⟨cd,hc,hhd,hne,_,hbe,_⟩:=F.cd
 have hf:PySem.W.findObj K C (some od) name=some (.value v):=by
  unfold PySem.W.findObj PySem.W.ownOf
  rw[hc,Option.bind_some,F.no]
  simp only[Option.bind_some]
  rw[if_pos hhd,hl,hv]
  rfl
 have L0:=I.type (M:=model prog w)
 have L1:=PySem.W.looks_findIn (M:=model prog w) X F.ga
 have L2:=PySem.W.looks_find (M:=model prog w) X I hf
 have L3:=PySem.W.looks_findIn (M:=model prog w) X hgn
 have sub:PySem.W.Looks (model prog w) s.heap (isInstance (.ref x) (.type "BaseException")) true:=I.type.andThen (PySem.W.looks_mroIn X (by unfold PySem.W.mroIn;rw[hc,Option.bind_some,if_neg (by rw[hne];decide),hbe]))
 obtain⟨hh',g,d,t,os⟩:=s
 unfold getAttr getAttrBy
 refine zC (wpAny_mkText (wpAny_holding (zC (L0.at (zC (L1.at ?_))))))
 dsimp only
 rw[if_neg (by rw[show(Value.builtin "BaseException.__getattribute__" == Value.builtin "object.__getattribute__")=false from by decide +kernel,Bool.and_false];decide)]
 unfold getAttrByItsOwn hookBefore
 rw[if_pos (show onTheHeap (Value.ref C)=true from rfl)]
 refine zC (L3.at (zC ?_))
 have f3:=adI (.ref x)
 have hx0:(expr&&onTheHeap (Value.builtin "BaseException.__getattribute__"))=false:=by cases expr<;>rfl
 repeat (any_goals (first | assumption | wp_step))
 refine codeAny_call_builtin PySem.F.excAttr_ValueError.ga.plain PySem.F.entry_bexc_ga (@PySem.W.check_slot (model prog w) _ _ ⟨hh',g,d,t+1,os⟩ "BaseException.__getattribute__" "BaseException" "__getattribute__" (.ref x) [.str name t] [] _ adH abf sub (PySem.F.args_bexc_ga _ _) ?_)
 unfold Builtin.«object.__getattribute__»
 refine zC (zI (zC (zI (zC (L0.at (zC (L2.at ?_)))))))
 refine zI ?_
 dsimp only
 rw[PySem.W.handedOut_of hh]
 exact zI h
end
end L2
namespace L2
open PySem
section
variable{prog:Program}{w:World}{A:Around}{E:Value->Shared->Prop}{h:Heap}{g:Array GenState}{d:Drawn}{t:Nat}{os:OsState}
variable{nm q:Str}{C N:Addr}{bs bm bmB:List Value}{hdct:Bool}{sn:List Str}{sub:List Value}{ab:Bool}{col:Option Bool}{dd:Option Addr}{k0 k1 k2 k3 k5:Option Value}{B newId initId:String}
structure Sw(B:String)(bm:List Value):Prop where
 has:bm.contains (.type B)=true
 noA:bm.contains (.type "AttributeError")=false
 noN:bm.contains (.type "NameError")=false
theorem Qh{M:Model}(F:ExcBaseFacts B newId initId bmB)(T:Sw B bm){rest:List Value}{Q:Unit->Shared->Prop}(hC:h.get? C=some (excClassObj nm q C N bs bm hdct sn sub ab col dd k0 k1 k2 k3 k5 newId))
  (hq:Q () ⟨h,g,d,t,os⟩):wpAny M A (checkBuiltinCall newId ⟨.ref C::rest,[]⟩) Q E ⟨h,g,d,t,os⟩:=by
 have hcont:(Value.ref C::bm).contains (.type B)=true:=by rw[List.contains_cons,T.has,Bool.or_true]
 have hstar:=F.noStar
 simp only[checkBuiltinCall,F.newKind,F.newSplit,F.newRow]
 repeat (first | refine wpAny_loadPart_at hC ?_ | (refine wpAny_isSubtype_exc hC ?_;rw[hcont]) | refine wpAny_staticBase_exc hC ?_ | refine wpAny_madeBy_exc hC ?_ | simp only[bne_self_eq_false,Bool.false_eq_true,if_false] | wp_step)
 exact hq
theorem ahM{R:Result->Shared->Prop}(F:ExcBaseFacts B newId initId bmB)(T:Sw B bm){rest:List Value}(hC:h.get? C=some (excClassObj nm q C N bs bm hdct sn sub ab col dd k0 k1 k2 k3 k5 newId))
  (hq:R (.ok (.ret (.ref (h.objs.size+1)))) ⟨(h.push {cls:= .type "tuple",data:= .seq rest.toArray}).push
   {cls:= .ref C,data:= .fields #[.ref h.objs.size,.none,.none,.none,.bool false,.none]},g,d,t,os⟩) (hrest:rest.length<=sizeLine):
  codeAny (model prog w) A (.builtin newId ⟨.ref C::rest,[]⟩) R ⟨h,g,d,t,os⟩:=by
 have hends:=F.ends
 have hcB:(Value.ref C::bm).contains (.type B)=true:=by rw[List.contains_cons,T.has,Bool.or_true]
 have hcA:(Value.ref C::bm).contains (.type "AttributeError")=false:=by rw[List.contains_cons,T.noA];rfl
 have hcN:(Value.ref C::bm).contains (.type "NameError")=false:=by rw[List.contains_cons,T.noN];rfl
 refine codeAny_builtinAt F.entry ?_
 unfold Builtin.«BaseException.__new__»
 refine wpAt_bind ?_
 show wpAt _ _ _ (stack >>= _) _ _ _
 refine wpAt_bind (wpAt_stack λp below=>wpAt_of_wpAny ?_)
 wp_walk
 refine wpAt_of_wpAny ?_
 rw[F.owner]
 repeat (first | with_reducible refine wpAny_madeHere_exc F.canon hC ?_ | with_reducible refine wpAny_loadPart_at hC ?_ | (with_reducible refine wpAny_isSubtype_exc hC ?_;first | rw[hcB] | rw[hcA] | rw[hcN]) | wp_step)
 show R _ _
 rw[Heap.size_push]
 exact hq
theorem Qf(F:ExcBaseFacts B newId initId bmB)(T:Sw B bm){rest:List Value}{fI:Addr}{oI:Obj}{Q:Fin->Shared->Prop}
  (hC:h.get? C=some (excClassObj nm q C N bs bm hdct sn sub ab col dd k0 k1 k2 k3 k5 newId)) (hi:PySem.W.Looks (model prog w) h (typeLookup (.ref C) "__init__") (some (.ref fI)))
  (hfI:h.get? fI=some oI) (hfc:oI.cls= .type "function")
  (hq:∀h' e,h.objs.size<=e->Heap.MadeExcOf h h' e (.ref C) rest->
   wpAny (model prog w) A (call (.ref fI) (.ref e::rest)) (λr s'=>r= .none/\Q (.done (.ret (.ref e))) s') E ⟨h',g,d,t,os⟩) (hrest:rest.length<=sizeLine):
  wpAny (model prog w) A (Builtin.«type.__call__» ⟨.ref C::rest,[]⟩) Q E ⟨h,g,d,t,os⟩:=by
 repeat (first | with_reducible refine wpAny_loadPart_at hC ?_ | with_reducible refine wpAny_madeBy_exc hC ?_ | wp_step)
 refine codeAny_call_builtin_code (Code.quiet_builtin _ F.quiet) (Qh F T hC ?_)
 refine ahM F T hC ?_ hrest
 show wpAny _ _ _ _ _ _
 have hC₁:=zD {cls:= .ref C,data:= .fields #[.ref h.objs.size,.none,.none,.none,.bool false,.none]}
  (zD {cls:= .type "tuple",data:= .seq rest.toArray} hC)
 have hfI₁:=zD {cls:= .ref C,data:= .fields #[.ref h.objs.size,.none,.none,.none,.bool false,.none]}
  (zD {cls:= .type "tuple",data:= .seq rest.toArray} hfI)
 have hget:((h.push {cls:= .type "tuple",data:= .seq rest.toArray}).push
   {cls:= .ref C,data:= .fields #[.ref h.objs.size,.none,.none,.none,.bool false,.none]}).get? (h.objs.size+1)=some
   {cls:= .ref C,data:= .fields #[.ref h.objs.size,.none,.none,.none,.bool false,.none]}:=by heap_get
 have hcC:(Value.ref C::bm).contains (.ref C)=true:=by simp
 unfold isInstance
 repeat (first | with_reducible refine wpAny_loadPart_at hget ?_ | (with_reducible refine wpAny_isSubtype_exc hC₁ ?_;rw[hcC]) | wp_step)
 show wpAny _ _ (typeLookup (.ref C) _) _ _ _
 refine hi _ _ _ _ (λb o hb=>zD _ (zD _ hb)) ?_
 refine wpAny_holding (zC ?_)
 unfold bindSpecial
 refine zC (wpAny_typeOf (T:= "function") ⟨_,hfI₁,hfc⟩ ?_)
 rw[if_pos (by decide)]
 refine zI (zC (vE (hq _ (h.objs.size+1) (Nat.le_succ _) ⟨λb o hb=>zD _ (zD _ hb),Heap.get?_none_of_le (Nat.le_succ _),h.objs.size,hget,Heap.get?_none_of_le (zad _),?_⟩) (λr s' hr=> ?_) λ_ _ x=>x))
 ·exact zD _ (Heap.get?_push_at rfl rfl)
 ·obtain⟨rfl,hQ⟩:=hr
  wp_walk
  exact hQ
theorem x_call(F:ExcBaseFacts B newId initId bmB)(T:Sw B bm){rest:List Value}{fI:Addr}{oI:Obj}{Q:Value->Shared->Prop}
  (hC:h.get? C=some (excClassObj nm q C N bs bm hdct sn sub ab col dd k0 k1 k2 k3 k5 newId)) (hi:PySem.W.Looks (model prog w) h (typeLookup (.ref C) "__init__") (some (.ref fI)))
  (hfI:h.get? fI=some oI) (hfc:oI.cls= .type "function")
  (hq:∀h' e,h.objs.size<=e->Heap.MadeExcOf h h' e (.ref C) rest->
   wpAny (model prog w) (A.under (.builtin "type.__call__" ⟨.ref C::rest,[]⟩)) (call (.ref fI) (.ref e::rest)) (λr s'=>r= .none/\Q (.ref e) s') E ⟨h',g,d,t,os⟩) (hrest:rest.length<=sizeLine):
  wpAny (model prog w) A (call (.ref C) rest) Q E ⟨h,g,d,t,os⟩:=by
 have f1:=tc_lookup
 have f2:=tc_bind (.ref C)
 have hT:(⟨h,g,d,t,os⟩:Shared).TypeIs (.ref C) "type" := ⟨_,hC,rfl⟩
 refine wpAny_call (codeAny_of_tree ?_)
 show wpAny _ _ (callAny (.ref C) _) _ _ _
 repeat (any_goals (first | assumption | with_reducible refine wpAny_loadPart_at hC ?_ | wp_step))
 refine⟨rfl,?_⟩
 refine codeAny_call_builtin_at (Code.quiet_builtin _ (by decide +kernel)) entry_typeCall (wpAny_check_type_call_sub hC (Qf (hrest:=hrest) F T hC hi hfI hfc λh' e hs hm=> ?_))
 exact hq h' e hs hm
end
structure Exc(h:Heap)(e C:Addr)(dx T:Option Addr)(fl:Value):Prop where
 at_:∃vs,h.get? e=some {cls:= .ref C,dict:=dx,data:= .fields vs}/\(match T with
  | none=>vs[1]? = some .none
  | some T=>vs[1]? = some (.ref T)/\T≠e/\∃oT ts,h.get? T=some oT/\oT.data= .fields ts/\ts[3]? = some fl)
def nq(fs:List Addr)(e:Addr)(T:Option Addr)(h h':Heap):Prop:=
 (h.objs.size<=h'.objs.size/\∀b o,h.get? b=some o->∃o',h'.get? b=some o')/\(∀b o,b≠e->some b≠T->b∉fs->h.get? b=some o->h'.get? b=some o)/\(∀b o,b≠e->some b≠T->h.get? b=some o->∃sl,h'.get? b=some {o with slots:=sl})
theorem nq.refl{fs:List Addr}{e:Addr}{T:Option Addr}{h:Heap}:nq fs e T h h:=⟨⟨zad _,λb o q=>⟨o,q⟩⟩,λ_ _ _ _ _ x=>x,λ_ o _ _ x=>⟨o.slots,x⟩⟩
theorem nq.trans{fs:List Addr}{e:Addr}{T T':Option Addr}{h h1 h2:Heap}(x:nq fs e T h h1)(y:nq fs e T' h1 h2)(hT:T'=T\/∃t,T'=some t/\h.objs.size<=t):nq fs e T h h2:=by
 have ne:∀b o,some b≠T->h.get? b=some o->some b≠T':=λb o n q z=>by
  rcases hT with r | ⟨t,r,q2⟩
  ·exact n (z.trans r)
  ·rw[r]at z;cases z
   exact absurd (yA (zS q) q2) (wS _)
 refine⟨⟨yY x.1.1 y.1.1,λb o q=>let⟨o1,q1⟩:=x.1.2 b o q;y.1.2 b o1 q1⟩,λb o n1 n2 n3 q=>y.2.1 b o n1 (ne b o n2 q) n3 (x.2.1 b o n1 n2 n3 q),λb o n1 n2 q=> ?_⟩
 obtain⟨sl,e1⟩:=x.2.2 b o n1 n2 q
 obtain⟨sl2,e2⟩:=y.2.2 b _ n1 (ne b o n2 q) e1
 exact⟨sl2,e2⟩
section
variable{M:Model}{A:Around}{E:Value->Shared->Prop}{s:Shared}
theorem Vj{base:Heap}{env:Env}{outer:List Env}{L e C:Addr}{dx:Option Addr}{vs:Array Value}{head:Value}{hadNext:Bool}{Q:Unit->Shared->Prop}
  (hfr:A.frames=some (env::outer)) (hl:s.heap.FunFrames base (env::outer)) (hf:env.frame=some L)
  (he:s.heap.get? e=some {cls:= .ref C,dict:=dx,data:= .fields vs}) (hsz:1<vs.size)
  (h:∀h' T,s.heap.objs.size<=T->nq ((env::outer).filterMap (·.frame)) e (some T) s.heap h'->Exc h' e C dx (some T) (rawInt L)->Q () {s with heap:=h'}):
  wpAny M A (do let a <-frameOf env;let pl <-entryPlaceOf L hadNext;let b <-EntryCells.newEntry head a .none (rawInt L) .none pl;setField (.ref e) 1 b) Q E s:=by
 have hene:e∉(env::outer).filterMap (·.frame):=λhm=>by
  obtain⟨_,o,ho,hnf⟩:=hl.mem hm
  rw[he]at ho;injection ho with ho;subst ho;exact hnf vs rfl
 refine zC (wpAny_frameOf_fun hfr hl hf λh₁ hs₁=> ?_)
 refine zC (wpAny_entryPlaceOf λpl hpl=> ?_)
 unfold EntryCells.newEntry newFields
 refine zC (wT ?_ (hpl.sizeOk5 _ _ _ _ _))
 have he₁:h₁.get? e=some {cls:= .ref C,dict:=dx,data:= .fields vs}:=(hs₁.2.1 e hene).trans he
 have he₂:=zD (h:=h₁) {cls:= .type "traceback",dict:=none,data:= .fields ([head,.ref L,.none,rawInt L,.none]++(if pl.isEmpty then List.replicate 6 Value.none else pl)).toArray} he₁
 refine wpAny_setField he₂ rfl hsz (h _ h₁.objs.size (by rw[hs₁.1];exact zad _) ?_ ?_)
 ·refine⟨⟨?_,λb o q=> ?_⟩,λb o n1 n2 n3 q=> ?_,λb o n1 n2 q=> ?_⟩
  ·rw[Heap.size_after_update,Heap.size_push,hs₁.1];omega
  ·by_cases n1:b=e
   ·subst n1
    exact⟨_,vS _ he₂ (Obj.isFreed_of_fields (Obj.data_mapFields rfl _))⟩
   ·obtain⟨sl,q1⟩:=hs₁.2.2 b o q
    exact⟨_,(xL _ _ (Ne.symm n1)).trans (zD _ q1)⟩
  ·rw[xL _ _ (Ne.symm n1)]
   exact zD _ ((hs₁.2.1 b n3).trans q)
  ·obtain⟨sl,q1⟩:=hs₁.2.2 b o q
   refine⟨sl,?_⟩
   rw[xL _ _ (Ne.symm n1)]
   exact zD _ q1
 ·have hTe:h₁.objs.size≠e:=xS (zS he₁)
  have hd₃:=Obj.data_mapFields (o:={cls:= .ref C,dict:=dx,data:= .fields vs}) rfl (·.setIfInBounds 1 (Value.ref h₁.objs.size))
  have he₃:=vS (Obj.mapFields (·.setIfInBounds 1 (Value.ref h₁.objs.size))) he₂ (Obj.isFreed_of_fields hd₃)
  have hT₃:=(xL (h₁.push {cls:= .type "traceback",dict:=none,data:= .fields ([head,.ref L,.none,rawInt L,.none]++(if pl.isEmpty then List.replicate 6 Value.none else pl)).toArray})
   (Obj.mapFields (·.setIfInBounds 1 (Value.ref h₁.objs.size))) (Ne.symm hTe)).trans (yB h₁ rfl)
  refine⟨⟨_,he₃,by simp[hsz],hTe,_,_,hT₃,rfl,by first | (simp;done) | (rcases hpl with rfl | ⟨_,_,_,_,_,_,_,rfl⟩<;>simp)⟩⟩
theorem nq.upd{fs:List Addr}{e T:Addr}{h:Heap}{f:Obj->Obj}{oT:Obj}(ho:h.get? T=some oT)(hfr:(f oT).isFreed=false):nq fs e (some T) h (h.update T f):=by
 have k:∀b o,some b≠some T->h.get? b=some o->(h.update T f).get? b=some o:=λb o n q=>by
  rw[xL _ _ (λz=>n (by rw[z]))];exact q
 refine⟨⟨by rw[Heap.size_after_update];exact zad _,λb o q=> ?_⟩,λb o _ n2 _ q=>k b o n2 q,λb o _ n2 q=>⟨o.slots,k b o n2 q⟩⟩
 by_cases z:b=T
 ·subst z;exact⟨_,vS _ ho hfr⟩
 ·exact⟨o,k b o (λy=>z (xI y)) q⟩
theorem xJ{e C:Addr}{dx T:Option Addr}{fl:Value}{fr:Option Addr}{Q:Unit->Shared->Prop}(x:Exc s.heap e C dx T fl)
  (h:∀h',nq [] e T s.heap h'->Exc h' e C dx T (fr.elim .none λf=>rawInt f)->Q () {s with heap:=h'}):wpAny M A (setFlight (.ref e) fr) Q E s:=by
 obtain⟨vs,he,hT⟩:=x.at_
 unfold setFlight
 cases T with
 | none=>
  refine zC (vT he rfl hT ?_)
  rw[if_neg (by decide)]
  exact zI (h s.heap .refl ⟨vs,he,hT⟩)
 | some T=>
  obtain⟨h1,hne,oT,ts,hoT,hd,h3⟩:=hT
  refine zC (vT he rfl h1 ?_)
  rw[if_pos (show(Value.ref T != Value.none)=true from by simp)]
  have hsz3:3<ts.size:=(Array.getElem?_eq_some_iff.mp h3).1
  refine wpAny_setField hoT hd hsz3 (h _ (.upd hoT (Obj.isFreed_of_fields (Obj.data_mapFields hd _))) ⟨vs,?_,h1,hne,_,_,vS _ hoT (Obj.isFreed_of_fields (Obj.data_mapFields hd _)),Obj.data_mapFields hd _,by simp[hsz3]⟩)
  rw[xL _ _ hne];exact he
theorem Td{base:Heap}{env:Env}{outer:List Env}{L e C:Addr}{dx T:Option Addr}{fl:Value}{Q:Unit->Shared->Prop}
  (hfr:A.frames=some (env::outer)) (hl:s.heap.FunFrames base (env::outer)) (hf:env.frame=some L) (x:Exc s.heap e C dx T fl) (hfl:fl=fl\/fl=rawInt L)
  (h:∀h' T',(T=some T'\/s.heap.objs.size<=T')->nq ((env::outer).filterMap (·.frame)) e T s.heap h'->Exc h' e C dx (some T') (rawInt L)->Q () {s with heap:=h'}):wpAny M A (noteFrame (.ref e) env) Q E s:=by
 obtain⟨vs,he,hT⟩:=x.at_
 unfold noteFrame
 simp only[hf]
 cases T with
 | none=>
  refine zC (vT he rfl hT ?_)
  rw[if_neg (by decide)]
  refine Vj hfr hl hf he (Array.getElem?_eq_some_iff.mp hT).1 λh' T hs k x'=>h h' T (.inr hs) ?_ x'
  exact⟨k.1,λb o n1 _ n3 q=>k.2.1 b o n1 (λz=>by cases z;exact absurd (yA (zS q) hs) (wS _)) n3 q,λb o n1 _ q=>k.2.2 b o n1 (λz=>by cases z;exact absurd (yA (zS q) hs) (wS _)) q⟩
 | some T=>
  obtain⟨h1,hne,oT,ts,hoT,hd,h3⟩:=hT
  refine zC (vT he rfl h1 ?_)
  rw[if_pos (show(Value.ref T != Value.none)=true from by simp)]
  refine zC (vT hoT hd h3 ?_)
  by_cases hq:fl=rawInt L
  ·subst hq
   rw[if_pos (show(rawInt L==rawInt L)=true from by simp)]
   exact zI (h s.heap T (.inl rfl) .refl x)
  ·rw[if_neg (show ¬((fl==rawInt L)=true)from by simpa using hq)]
   have hsz3:3<ts.size:=(Array.getElem?_eq_some_iff.mp h3).1
   refine zC (wpAny_setField hoT hd hsz3 ?_)
   have other:∀b,b≠T->(s.heap.update T (Obj.mapFields (·.setIfInBounds 3 Value.none))).get? b=s.heap.get? b:=λb hb=>xL _ _ (Ne.symm hb)
   have noRecord:∀b o,s.heap.get? b=some o->(∀vs,o.data≠ .fields vs)->b≠T:=λb o hb hnf q=>by
    rw[q,hoT]at hb;injection hb with hb;subst hb;exact hnf ts hd
   refine Vj hfr (hl.of_keeps λb o hb hnf=>⟨o,(other b (noRecord b o hb hnf)).trans hb,rfl⟩) hf ((other e (Ne.symm hne)).trans he) (Array.getElem?_eq_some_iff.mp h1).1 λh' T' hs k x'=> ?_
   rw[Heap.size_after_update]at hs
   exact h h' T' (.inr hs) ((nq.upd hoT (Obj.isFreed_of_fields (Obj.data_mapFields hd _))).trans k (.inr ⟨T',rfl,hs⟩)) x'
theorem ab0{base:Heap}{env:Env}{outer:List Env}{L e C:Addr}{dx T:Option Addr}{fl:Value}{Q:Unit->Shared->Prop}
  (hfr:A.frames=some (env::outer)) (hl:s.heap.FunFrames base (env::outer)) (hf:env.frame=some L) (x:Exc s.heap e C dx T fl) (hfl:fl=fl\/fl=rawInt L)
  (h:∀h' T',(T=some T'\/s.heap.objs.size<=T')->nq ((env::outer).filterMap (·.frame)) e T s.heap h'->Exc h' e C dx (some T') .none->Q () {s with heap:=h'}):wpAny M A (leaving env (.ref e)) Q E s:=by
 unfold leaving
 refine zC (Td hfr hl hf x hfl λh' T' hT k x'=> ?_)
 refine xJ (fr:=none) (s:={s with heap:=h'}) x' λh2 k2 x2=>h h2 T' hT (k.trans (T':=some T') ⟨k2.1,λb o n1 n2 _ q=>k2.2.1 b o n1 n2 (by simp) q,k2.2.2⟩ ?_) x2
 rcases hT with r | r
 ·exact .inl r.symm
 ·exact .inr ⟨T',rfl,r⟩
end
end L2
namespace L2
open PySem PySem.Spec PyProof.Rows
abbrev xO(a C:Addr)(dx:Option Addr):HO:= .ext λh=>Exc h a C dx none .none
theorem aeh{P:Program}{w:World}{H:Hp}{h:Heap}{a C:Addr}{dx:Option Addr}(x:Exc h a C dx none .none):bQ P w H h a (xO a C dx):=by
 refine⟨x,?_,λh1 h2 y k=> ?_⟩
 ·obtain⟨vs,e,_⟩:=x.at_;exact⟨_,e⟩
 ·obtain⟨vs,e,q⟩:=y.at_;exact⟨vs,k _ e,q⟩
theorem aei{P:Program}{w:World}{H:Hp}{h:Heap}{a C:Addr}{dx:Option Addr}(x:bQ P w H h a (xO a C dx)):Exc h a C dx none .none:=x.1
section
variable{X:Cx}{pins:List (Addr×Obj)}{σ:St}{H:Hp}{s:Shared}{a C:Addr}{f:Str}{A:Around}{E:Value->Shared->Prop}
theorem Qd{y:V}{u:Value}{Q:Unit->Shared->Prop}(I:Inv X pins σ H s)(e:H a=some (xO a C none))(F:Dz X.K C f)(ry:RelV y u)
  (h:∀dx s',H dx=none->dx≠a->Inv X pins σ (upd (upd H dx (.xd [(f,y)])) a (xO a C (some dx))) s'->Q () s'):wpAny (model X.prog X.w) A (setAttr (.ref a) f u) Q E s:=by
 obtain⟨vs,hx,h1⟩:=(aei (I.hok a _ e)).at_
 refine ahJ I.uW F hx λh' dx ed hx' hn kp=> ?_
 subst ed
 have hd0:H s.heap.objs.size=none:=I.hok.fresh (zad _)
 have nea:s.heap.objs.size≠a:=xS (I.hok.lt e)
 refine h _ _ hd0 nea (I.un ⟨λb o q n _ _=>kp b o (λz=>by subst z;rw[e]at n;cases n) q,λb o q n _ _=>⟨o.slots,kp b o (λz=>by subst z;rw[e]at n;cases n) q⟩,λb o q n _=> ?_,λb o q _=> ?_,λb xs q=> ?_,λb o xs q=> ?_,λb ps q=>⟨#[],?_⟩⟩ λb o q=> ?_)
 ·have n1:b≠a:=λz=>by subst z;rw[e]at n;cases n
  rw[aG n1,aG (xD (zS q))];exact n
 ·by_cases z:b=a
  ·subst z;exact⟨_,hx'⟩
  ·exact⟨o,kp b o z q⟩
 ·have n1:b≠a:=λz=>by subst z;rw[e]at q;cases q
  have n2:b≠s.heap.objs.size:=λz=>by subst z;rw[hd0]at q;cases q
  rw[aG n1,aG n2];exact q
 ·have n1:b≠a:=λz=>by subst z;rw[e]at q;cases q
  have n2:b≠s.heap.objs.size:=λz=>by subst z;rw[hd0]at q;cases q
  rw[aG n1,aG n2];exact q
 ·have n1:b≠a:=λz=>by subst z;rw[e]at q;cases q
  have n2:b≠s.heap.objs.size:=λz=>by subst z;rw[hd0]at q;cases q
  rw[aG n1,aG n2,q];simp
 ·by_cases z:b=a
  ·subst z
   rw[bh]at q;cases q
   exact aeh ⟨vs,hx',h1⟩
  ·rw[aG z]at q
   by_cases z2:b=s.heap.objs.size
   ·subst z2
    rw[bh]at q;cases q
    refine⟨_,hn,λg=> ?_⟩
    by_cases zg:g=f
    ·subst zg;simp[List.lookup];exact ry
    ·have:(g==f)=false:=by simpa using zg
     simp[List.lookup,this,zg];exact zac
   ·rw[aG z2]at q
    refine(I.hok b o q).stay (λb' u' hb q'=> ?_) (λb' q'=> ?_) λb' xs q'=> ?_
    ·refine kp b' u' (λz'=> ?_) q'
     rcases hb with r | r
     ·exact z (r▸z')
     ·rw[z',e]at r;cases r
    ·have n1:b'≠a:=λz=>by subst z;rw[e]at q';cases q'
     have n2:b'≠s.heap.objs.size:=λz=>by subst z;rw[hd0]at q';cases q'
     rw[aG n1,aG n2];exact q'
    ·have n1:b'≠a:=λz=>by subst z;rw[e]at q';cases q'
     have n2:b'≠s.heap.objs.size:=λz=>by subst z;rw[hd0]at q';cases q'
     rw[aG n1,aG n2];exact q'
end
section
variable{X:Cx}{o value:Expr}{ta tv:TE}{f:Str}{pos pos':Pos}
def aer(K:Frag)(ta tv:TE)(f:Str):TS:=λD σ H=>tv σ H λy H1=>ta σ H1 λx H2=>∃a C,x= .ref a/\H2 a=some (xO a C none)/\Dz K C f/\
 ∀dx,H2 dx=none->dx≠a->D.nx σ (upd (upd H2 dx (.xd [(f,y)])) a (xO a C (some dx)))
theorem acQ(ha:PE X o ta)(hv:PE X value tv)(hs:swapsWith value (some (.Attribute o f pos')) pos.line X.env=pure false):PS X (.Assign [.Attribute o f pos'] value pos) (aer X.K ta tv f):=by
 intro pins s σ H D I h
 refine plainObj_wpAny_Assign_Attribute (f9 (hv pins s σ H _ I h) λu s1 ⟨y,H1,I1,ry,q⟩=>f9 (ha pins s1 σ H1 _ I1 q) λov s2 ⟨x,H2,I2,rx,a,C,ex,ea,F,q2⟩=> ?_) hs
 subst ex
 obtain rfl:ov=Value.ref a:=rx
 exact Qd I2 ea F ry λdx s3 hd ne I3=>⟨σ,_,I3,q2 dx hd ne⟩
end
def zy(K:Frag)(f:Str):Sp:=λvs H Q _=>∃a C y,vs=[.ref a,y]/\H a=some (xO a C none)/\Dz K C f/\∀dx,H dx=none->dx≠a->Q .non (upd (upd H dx (.xd [(f,y)])) a (xO a C (some dx)))
section
variable{P:Program}{w:World}{K:Frag}{mg:Str->Option Value}{base:Heap}
theorem abk{x qual g:Str}{st:Stmt}{dV:Value}{f:Addr}{fd:FuncData}{N ps:List Str}{k:Nat}(F:zx K x qual st dV f fd)(S:aJ N ps (aC st))(hps:ps.length=2)
  (hbody:∀(cdv:Value) (A:Around) (outer:List Env) (s:Shared) (H:Hp) (E:XK),Gm (wY Vg P w K mg base N qual (aC st) f cdv A outer s H E).nox (cM st) (aer K (acg 0) (acg 1) g)):
  aM P w K mg base Vg (k+1) f fd ps (zy K g):=by
 refine F.ok S (λvs H Q E ⟨a,C,y,e,_⟩=>by rw[e,hps];rfl) λcdv A outer s H vs Q E hr ⟨a,C,y,e,hH,hF,q⟩=> ?_
 subst e
 refine⟨_,hbody cdv A outer s H E,y,rfl,.ref a,rfl,a,C,rfl,hH,hF,λdx hd ne=> .inl (q dx hd ne)⟩
end
structure XMk(K:Frag)(C f:Addr):Prop where
 obj:∃(nm q:Str) (N:Addr) (bs bm:List Value) (hdct:Bool) (sn:List Str) (sub:List Value) (ab:Bool) (col:Option Bool) (dd:Option Addr) (k0 k1 k2 k3 k5:Option Value),
  K.lookup C=some (excClassObj nm q C N bs bm hdct sn sub ab col dd k0 k1 k2 k3 k5 "ValueError.__new__")/\Sw "ValueError" bm/\bm.contains (.type "BaseException")=true
 init:findIn K (.ref C) "__init__" = some (some (.ref f))
 fn:isFn K (.ref f)=true
 kp:keepIn K (.ref C)=true
section
variable{X:Cx}{k:Nat}{f C:Addr}{fd:FuncData}{ps:List Str}{g:Str}
theorem Inv.ahK{pins:List (Addr×Obj)}{σ:St}{H:Hp}{s:Shared}{h':Heap}{e:Addr}{us:List Value}(I:Inv X pins σ H s)(hs:s.heap.objs.size<=e)(m:Heap.MadeExcOf s.heap h' e (.ref C) us):
  Inv X pins σ (upd H e (xO e C none)) {s with heap:=h'}:=by
 obtain⟨t,he,_,_⟩:=m.there
 exact I.laid (t':=s.toks) (λb u q=>m.keeps b u q) hs (aeh ⟨_,he,rfl⟩)
theorem Xf{pins:List (Addr×Obj)}{σ:St}{H:Hp}{s:Shared}{Q:VK}{u:Value}{y:V}(M:XMk X.K C f)(hX:Dz X.K C g)(F:aM X.prog X.w X.K X.mg X.base Vg k f fd ps (zy X.K g))(hr:gQ (k+1) X.A)(hb:Binds X.K fd ps [])
  (I:Inv X pins σ H s) (r:RelV y u)
  (h:∀x dx,H x=none->H dx=none->dx≠x->s.heap.objs.size<=x->Q (.ref x) (upd (upd (upd H x (xO x C none)) dx (.xd [(g,y)])) x (xO x C (some dx)))):
  wpAny (model X.prog X.w) X.A (call (.ref C) [u]) (EP X pins σ Q) X.xe s:=by
 obtain⟨nm,q,N,bs,bm,hdct,sn,sub,ab,col,dd,k0,k1,k2,k3,k5,hC,hT,hB⟩:=M.obj
 have hfn:=beq_iff_eq.mp M.fn
 have lk:∃oI,X.K.lookup f=some oI/\oI.cls= .type "function" := by
  obtain⟨o,ho,hc⟩:=Option.map_eq_some_iff.mp hfn
  exact⟨o,ho,hc⟩
 obtain⟨oI,hoI,hcI⟩:=lk
 obtain⟨hp,gg,d,t,os⟩:=s
 refine x_call PySem.F.excBase_ValueError hT (I.uW _ _ hC) (PySem.W.looks_findIn I.uW M.init) (I.uW _ _ hoI) hcI (λh' e hs m=> ?_) (by show 1<=sizeLine;decide)
 have I2:=I.ahK hs m
 have r2:Vals [V.ref e,y] [Value.ref e,u]:= .cons rfl (.cons r .nil)
 have n0:H e=none:=I.hok.fresh hs
 have hq:zy X.K g [V.ref e,y] (upd H e (xO e C none)) (λv H2=>v= .non/\Q (.ref e) H2) E0:=by
  refine⟨e,C,y,rfl,bh,hX,λdx hd ne=>⟨rfl,h e dx n0 ?_ ne hs⟩⟩
  rw[aG ne]at hd;exact hd
 have hl:([Value.ref e,u]++[]).length=ps.length:=by rw[List.append_nil,<-r2.length];exact F.len _ _ _ _ hq
 refine wpAny_call (codeAny_mono (F.run _ X.stack _ _ ⟨[Value.ref e,u],[]⟩ [Value.ref e,u] _ _ E0 (hr.make C [u] []) (I2.env0.make C [u] []) (by simpa using hb _ [Value.ref e,u] I2.uW hl) r2 hq) λr s' hq'=> ?_)
 cases r with
 | error e=>exact hq'.elim
 | ok fl=>
  cases fl with
  | ret u=>
   obtain⟨v,H',I3,rv,ev,q3⟩:=I2.after hq'
   subst ev
   exact⟨rv,⟨V.ref e,H',I3,rfl,q3⟩⟩
  | next=>exact False.elim hq'
  | brk=>exact False.elim hq'
  | cont=>exact False.elim hq'
end
def drop(H:Hp)(a:Addr):Hp:=λb=>if b=a then none else H b
theorem Wq{H:Hp}{a b:Addr}(h:b≠a):drop H a b=H b:=by unfold drop;rw[if_neg h]
theorem L_{H:Hp}{a:Addr}:drop H a a=none:=by unfold drop;rw[if_pos rfl]
section
variable{X:Cx}{pins:List (Addr×Obj)}{σ:St}{H:Hp}{s:Shared}{a:Addr}{φ:Heap->Prop}
theorem Inv.ajs(I:Inv X pins σ H s)(e:H a=some (.ext φ)):Inv X pins σ (drop H a) s:=by
 have nn:∀b,H b=none->drop H a b=none:=λb q=>by unfold drop;split<;>first | rfl | exact q
 have kk:∀b u,H b=some u->(∀ψ,u≠ .ext ψ)->drop H a b=some u:=λb u q n=>by
  have:b≠a:=λz=>by subst z;rw[e]at q;cases q;exact n _ rfl
  rw[Wq this];exact q
 refine⟨I.ok,I.os,I.bare,⟨I.base.keep,I.base.slot,λb o q n x=>nn b (I.base.free b o q n x),I.base.there,λb xs q=>kk b _ (I.base.tups b xs q) (by simp),λb o u q=>kk b _ (I.base.qX b o u q) (by simp),λb ps q=> ?_⟩,I.loc,I.cell,nn _ I.free,λx c q=>nn _ (I.jl x c q),λp hp=> ?_,λb o q=> ?_,I.len⟩
 ·obtain⟨m,z⟩:=I.base.sY b ps q;exact⟨m,kk b _ z (by simp)⟩
 ·obtain⟨z1,z2,z3⟩:=I.pin p hp;exact⟨z1,nn _ z2,z3⟩
 ·have nb:b≠a:=λz=>by subst z;rw[L_]at q;cases q
  rw[Wq nb]at q
  exact(I.hok b o q).stay (λ_ _ _ z=>z) (λb' z=>kk b' _ z (by simp)) λb' xs z=>kk b' _ z (by simp)
end
def bT(P:Program)(w:World):Vf:=λouter H s E ev s'=>∃e C dx T H',ev=Value.ref e/\s'.os=s.os/\AllBare s'.gens/\Un (frs outer) [] H H' s.heap s'.heap/\rE P w H' s'.heap/\Exc s'.heap e C (some dx) (some T) .none/\
 s.heap.objs.size<=e/\s.heap.objs.size<=T/\H' e=none/\H' T=none/\E (.ref C) (some dx) H'
abbrev a_:=Addr->Addr->St->Hp->Prop
structure wM(X:Cx)(pins:List (Addr×Obj))(H:Hp)(a:Addr):Prop where
 no:H a=none
 new:X.s₀.heap.objs.size<=a
 pin:∀p∈X.pn++pins,p.1≠a
def gO(X:Cx)(W:a_):Value->Shared->Prop:=λev s=>∃e C dx T fl pins σ H,ev=Value.ref e/\Inv X pins σ H s/\Exc s.heap e C (some dx) T fl/\(fl=fl\/fl=rawInt X.env.locals)/\wM X pins H e/\(∀t,T=some t->wM X pins H t)/\W C dx σ H
section
variable{X:Cx}{pins:List (Addr×Obj)}{σ:St}{H:Hp}{s:Shared}
theorem gO.V2{W:a_}{E:XK}{ev:Value}{s':Shared}(I:Inv X pins σ H s)(h:bT X.prog X.w X.stack H s E ev s')(hE:∀C dx H',E (.ref C) (some dx) H'->W C dx σ H'):gO X W ev s':=by
 obtain⟨e,C,dx,T,H',rfl,os,bare,un,hok,x,ne,nT,fe,fT,hq⟩:=h
 have old:∀a,s.heap.objs.size<=a->∀p∈X.pn++pins,p.1≠a:=λa ha p hp z=>by
  have:=zS (I.pin p hp).1
  rw[z]at this
  exact absurd (yA this ha) (wS _)
 exact⟨e,C,dx,some T,.none,pins,σ,H',rfl,I.call' os un hok bare (λb z=>absurd z (by simp)),x,.inl rfl,⟨fe,yY I.sz ne,old e ne⟩,λt z=>by cases z;exact⟨fT,yY I.sz nT,old T nT⟩,hE C dx H' hq⟩
theorem LK{P:Program}{w:World}{fs:List Addr}{e:Addr}{T:Option Addr}{h h':Heap}(ok:rE P w H h)(k:nq fs e T h h')(he:H e=none)(hT:∀t,T=some t->H t=none)(hf:∀b∈fs,H b=none):rE P w H h':=by
 have kp:∀b u o,H b=some o->h.get? b=some u->h'.get? b=some u:=λb u o q z=>
  k.2.1 b u (λy=>by subst y;rw[he]at q;cases q) (λy=>by rw[hT b y.symm]at q;cases q) (λy=>by rw[hf b y]at q;cases q) z
 intro b o q
 refine(ok b o q).stay (λb' u hb z=> ?_) (λ_ z=>z) λ_ _ z=>z
 rcases hb with rfl | hb
 ·exact kp _ u o q z
 ·exact kp _ u _ hb z
end
theorem gO.leave{P:Program}{w:World}{K:Frag}{mg:Str->Option Value}{base:Heap}{N:List Str}{qual:Str}{scope:Scope}{f:Addr}{cd:Value}{A:Around}{outer:List Env}{s:Shared}{H:Hp}{E:XK}{W:a_}{ev:Value}{s':Shared}
  (h:gO (wY (bT P w) P w K mg base N qual scope f cd A outer s H E) W ev s') (hE:∀C dx σ H',W C dx σ H'->E (.ref C) (some dx) H'):
  (wY (bT P w) P w K mg base N qual scope f cd A outer s H E).xe ev s':=by
 obtain⟨e,C,dx,T,fl,pins,σ,H',rfl,I,x,hfl,fe,fT,hW⟩:=h
 show wpAny _ _ (leaving _ (.ref e)) _ _ s'
 refine ab0 I.ok.frames I.stack rfl x hfl λh2 T' hT k x'=> ?_
 have hTn:∀t,T=some t->H' t=none:=λt z=>(fT t z).no
 have nT:s.heap.objs.size<=T':=by
  rcases hT with r | r
  ·exact(fT T' r).new
  ·exact yY I.sz r
 have fT':H' T'=none:=by
  rcases hT with r | r
  ·exact hTn T' r
  ·exact I.hok.fresh r
 have ok2:=LK I.hok k fe.no hTn I.Hu
 have ne:∀b o,s.heap.get? b=some o->b≠e/\some b≠T:=λb o q=>⟨λz=>absurd (yA (zS q) (z▸fe.new)) (wS _),λz=>absurd (yA (zS q) (fT b z.symm).new) (wS _)⟩
 have nL:∀b o,s.heap.get? b=some o->b≠s.heap.objs.size:=λb o q=>xD (zS q)
 refine⟨e,C,dx,T',H',rfl,I.os,I.bare,⟨λb o q n hb _=> ?_,λb o q n hb _=> ?_,λb o q n _=>I.base.free b o q n (by simp[wY]),λb o q _=> ?_,I.base.tups,I.base.qX,I.base.sY⟩,ok2,x',fe.new,nT,fe.no,fT',hE C dx σ H' hW⟩
 ·obtain⟨n1,n2⟩:=ne b o q
  refine k.2.1 b o n1 n2 (λz=> ?_) (I.base.keep b o q n hb (by simp[wY]))
  rcases List.mem_cons.mp (I.MP b z)with y | y
  ·exact nL b o q y
  ·exact hb y
 ·obtain⟨n1,n2⟩:=ne b o q
  obtain⟨sl,q1⟩:=I.base.slot b o q n hb (by simp[wY])
  obtain⟨sl2,q2⟩:=k.2.2 b _ n1 n2 q1
  exact⟨sl2,q2⟩
 ·obtain⟨n1,n2⟩:=ne b o q
  obtain⟨o1,q1⟩:=I.base.there b o q (by simp[wY])
  obtain⟨sl2,q2⟩:=k.2.2 b _ n1 n2 q1
  exact⟨_,q2⟩
end L2
namespace L2
section
open PySem
variable{M:Model}{A:Around}{E:Value->Shared->Prop}{env:Env}
variable{nm q:Str}{C N:Addr}{bs bm:List Value}{hdct:Bool}{sn:List Str}{sub:List Value}{ab:Bool}{col:Option Bool}{dd:Option Addr}{k0 k1 k2 k3 k5:Option Value}{newId:String}
theorem Qg{s:Shared}{x:Sem Value}{Q:Flow->Shared->Prop}(hbase:bm.contains (.type "BaseException")=true)(hh:A.handled=none)
  (h:wpAny M A x (λv s₁=>∃e dx vs,v= .ref e/\s₁.heap.get? C=some (excClassObj nm q C N bs bm hdct sn sub ab col dd k0 k1 k2 k3 k5 newId)/\
   s₁.heap.get? e=some {cls:= .ref C,dict:=dx,data:= .fields vs}/\vs[1]? = some .none/\E (.ref e) s₁) E s):
  wpAny M A (raiseStmt env (some x) none) Q E s:=by
 have hcB:(Value.ref C::bm).contains (.type "BaseException")=true:=by rw[List.contains_cons,hbase,Bool.or_true]
 unfold raiseStmt
 refine zC (vE h (λv s₁ h₁=> ?_) λ_ _ x=>x)
 obtain⟨e,dx,vs,rfl,hC,he,h1,hE⟩:=h₁
 obtain⟨hp,g,d,tk,os⟩:=s₁
 have hfl:∀{Q:Unit->Shared->Prop},Q () ⟨hp,g,d,tk,os⟩->wpAny M A (setFlight (.ref e) none) Q E ⟨hp,g,d,tk,os⟩:=λhQ=>by
  unfold setFlight
  refine zC (vT he rfl h1 ?_)
  rw[if_neg (by decide)]
  exact zI hQ
 repeat (first | with_reducible refine wpAny_loadPart_at he ?_ | with_reducible refine wpAny_loadPart_at hC ?_ | (with_reducible refine wpAny_isSubtype_exc hC ?_;rw[hcB]) | with_reducible refine hfl ?_ | wp_step)
 exact wpAny_raiseNew_none hh hE
end
section
open PySem PySem.Spec PyProof.Rows
variable{X:Cx}{k:Nat}{f C:Addr}{fd:FuncData}{ps:List Str}{g:Str}{x:Str}{np cpos pos:Pos}{arg:Expr}{ta:TA}{W:a_}
theorem X6{H:Hp}{x dx:Addr}{o1 o2 o3:HO}(hx:H x=none)(ne:dx≠x):drop (upd (upd (upd H x o1) dx o2) x o3) x=upd H dx o2:=by
 funext b
 unfold drop upd
 by_cases z:b=x
 ·subst z;rw[if_pos rfl,if_neg (Ne.symm ne),hx]
 ·rw[if_neg z,if_neg z]
  by_cases z2:b=dx
  ·rw[if_pos z2,if_pos z2]
  ·rw[if_neg z2,if_neg z2,if_neg z]
def afa(C:Addr)(g:Str)(W:a_)(ta:TA):TS:=λ_ σ H=>ta σ H λvs H1=>∃y,vs=[y]/\∀dx,H1 dx=none->W C dx σ (upd H1 dx (.xd [(g,y)]))
theorem Z9(M:XMk X.K C f)(hX:Dz X.K C g)(F:aM X.prog X.w X.K X.mg X.base Vg k f fd ps (zy X.K g))(hr:gQ (k+1) X.A)(hb:Binds X.K fd ps [])(hg:Gl X x)(hm:X.mg x=some (.ref C))(hc:X.calm=true)
  (hW:∀ev s,gO X W ev s->X.xe ev s) (ha:PA X [arg] ta) (hdb:(x==("__debug__" : Str))=false:=by decide) (he:starEach [arg] X.env=[(false,eval arg X.env)]:=by rfl):
  PS X (.Raise (some (.Call (.Name x np) [arg] [] cpos)) none pos) (afa C g W ta):=by
 intro pins s σ H D I h
 obtain⟨nm,q,N,bs,bm,hdct,sn,sub,ab,col,dd,k0,k1,k2,k3,k5,hC,hT,hB⟩:=M.obj
 rw[arm_exec_Raise]
 refine zC (wpAny_standAt (Qg (C:=C) (nm:=nm) (q:=q) (N:=N) (bs:=bs) (bm:=bm) (hdct:=hdct) (sn:=sn) (sub:=sub) (ab:=ab) (col:=col) (dd:=dd) (k0:=k0) (k1:=k1) (k2:=k2) (k3:=k3) (k5:=k5) (newId:= "ValueError.__new__") hB (I.ok.hd hc) ?_))
 have main:wpAny (model X.prog X.w) X.A (eval (.Call (.Name x np) [arg] [] cpos) X.env) (EP X pins σ λv H3=>∃e dx y H1,v= .ref e/\H1 e=none/\H1 dx=none/\dx≠e/\X.s₀.heap.objs.size<=e/\(∀p∈X.pn++pins,p.1≠e)/\H3=upd (upd (upd H1 e (xO e C none)) dx (.xd [(g,y)])) e (xO e C (some dx))/\W C dx σ (upd H1 dx (.xd [(g,y)]))) X.xe s:=by
  refine wpAny_Call_Name_kw (Dk I hg hm ?_ hdb)
  refine PySem.W.callWith_K (h₀:=X.base) I.ok.mod.kin M.kp (f9 (ha cpos pins s σ H _ I h) λus s1 ⟨vs,H1,I1,r,y,ev,q⟩=>⟨I1.uW,?_⟩) he rfl
  subst ev
  cases r with
  | cons r1 r2=>
   cases r2
   refine Xf M hX F hr hb I1 r1 λe dx n1 n2 ne hs=>⟨e,dx,y,H1,rfl,n1,n2,ne,yY I1.sz hs,λp hp z=> ?_,rfl,q dx n2⟩
   have:=zS (I1.pin p hp).1
   rw[z]at this
   exact absurd (yA this hs) (wS _)
 refine zC (f9 main λv s1 ⟨vv,H3,I3,rv,e,dx,y,H1,ev,n1,n2,ne,sz,pn,eH,hw⟩=>zC (wpAny_standAt (zI ?_)))
 subst ev eH
 obtain rfl:v=Value.ref e:=rv
 have x0:Exc s1.heap e C (some dx) none .none:=aei (I3.hok e _ bh)
 obtain⟨vs,hat,h1⟩:=x0.at_
 refine⟨e,some dx,vs,rfl,I3.uW _ _ hC,hat,h1,hW _ _ ⟨e,C,dx,none,.none,pins,σ,_,rfl,I3.ajs bh,x0,.inl rfl,⟨L_,sz,pn⟩,(λt z=>by cases z),?_⟩⟩
 rw[X6 n1 ne]
 exact hw
end
end L2
namespace L2
open PySem PySem.Spec PyProof.Rows
section
variable{X:Cx}{pins:List (Addr×Obj)}{σ:St}{H:Hp}{s:Shared}{e C:Addr}{dx T:Option Addr}{fl:Value}{h':Heap}{W:a_}
theorem Inv.yj{a:Addr}{o:Obj}{vs:Array Value}(I:Inv X pins σ H s)(h:s.heap.get? a=some o)(d:o.data= .fields vs):a≠X.env.locals/\∀x c,X.env.cells.lookup x=some c->c≠a:=by
 refine⟨λz=> ?_,λx c hc z=> ?_⟩
 ·obtain⟨m,⟨o',es,ep,ho,hd,_⟩,_⟩:=I.loc
  subst z
  rw[ho]at h;cases h;rw[hd]at d;cases d
 ·obtain⟨v,o',ho,hd⟩:=I.cell x c hc
  subst z
  rw[ho]at h;cases h;rw[hd]at d;cases d
theorem Inv.K7(I:Inv X pins σ H s)(x:Exc s.heap e C dx T fl)(fe:wM X pins H e)(fT:∀t,T=some t->wM X pins H t)(k:nq (frs X.stack) e T s.heap h')(hE:∃o,h'.get? e=some o)(hTt:∀t,T=some t->∃o,h'.get? t=some o):
  Inv X pins σ H {s with heap:=h'}:=by
 obtain⟨vs,he,hT⟩:=x.at_
 have ok2:=LK I.hok k fe.no (λt z=>(fT t z).no) I.Hu
 refine I.call (t':=s.toks) (g':=s.gens) (d':=s.drawn) (ch:=e::T.toList) ⟨λb o q n hb hc=> ?_,λb o q n hb hc=> ?_,λb o q n _=>n,λb o q hc=> ?_,λ_ _ q=>q,λ_ _ _ q=>q,λb ps q=>⟨#[],by rw[q];simp⟩⟩ ok2 I.bare λb hb=> ?_
 ·simp at hc
  exact k.2.1 b o hc.1 (λz=>hc.2 z.symm) hb q
 ·simp at hc
  exact k.2.2 b o hc.1 (λz=>hc.2 z.symm) q
 ·simp at hc
  obtain⟨sl,z⟩:=k.2.2 b o hc.1 (λz=>hc.2 z.symm) q
  exact⟨_,z⟩
 ·simp at hb
  rcases hb with rfl | hb
  ·exact⟨.inr fe.new,(I.yj he rfl).1,(I.yj he rfl).2,fe.pin⟩
  ·subst hb
   obtain⟨_,_,oT,ts,hoT,hd,_⟩:=hT
   exact⟨.inr (fT b rfl).new,(I.yj hoT hd).1,(I.yj hoT hd).2,(fT b rfl).pin⟩
theorem nq.mono{fs fs':List Addr}{h:Heap}(k:nq fs e T h h')(hs:∀b∈fs,b∈fs'):nq fs' e T h h':=⟨k.1,λb o n1 n2 n3 q=>k.2.1 b o n1 n2 (λz=>n3 (hs b z)) q,k.2.2⟩
theorem Exc.here(x:Exc h' e C dx T fl):(∃o,h'.get? e=some o)/\∀t,T=some t->∃o,h'.get? t=some o:=by
 obtain⟨vs,he,hT⟩:=x.at_
 refine⟨⟨_,he⟩,λt z=> ?_⟩
 subst z
 obtain⟨_,_,oT,_,hoT,_⟩:=hT
 exact⟨oT,hoT⟩
theorem gO.Lp(hst:X.stack=X.env::X.outer)(hf:X.env.frame=some X.env.locals){A:Around}(hA:A.frames=some X.stack):∀ev s',gO X W ev s'->wpAny (model X.prog X.w) A (noteFrame ev X.env) (λ_ s2=>cameBackBy (model X.prog X.w) X.A X.env (gO X W) ev s2) (cameBackBy (model X.prog X.w) X.A X.env (gO X W)) s':=by
 rintro ev s' ⟨e,C,dx,T,fl,pins,σ,H,rfl,I,x,hfl,fe,fT,hW⟩
 have aa4:=I.stack
 rw[hst]at aa4
 refine Td (by rw[hA,hst]) aa4 hf x hfl λh1 T1 hT1 k1 x1=> ?_
 have fT1:wM X pins H T1:=by
  rcases hT1 with r | r
  ·exact fT T1 r
  ·refine⟨I.hok.fresh r,yY I.sz r,λp hp z=> ?_⟩
   have:=zS (I.pin p hp).1
   rw[z]at this
   exact absurd (yA this r) (wS _)
 have hTt:∀t,T=some t->∃o,h1.get? t=some o:=λt z=>by
  obtain⟨o,q⟩:=x.here.2 t z
  exact k1.1.2 t o q
 have I1:=I.K7 x fe fT (k1.mono (by rw[hst];exact λb z=>z)) x1.here.1 hTt
 unfold cameBackBy
 obtain⟨vs,he,h2,_⟩:=x1.at_
 refine zC (vT he rfl h2 ?_)
 rw[if_neg (by simp)]
 refine xJ (s:={s' with heap:=h1}) x1 λh2 k2 x2=>⟨e,C,dx,some T1,_,pins,σ,H,rfl,I1.K7 x1 fe (λt z=>by cases z;exact fT1) (k2.mono (by simp)) x2.here.1 x2.here.2,x2,.inr (by rw[hf];rfl),fe,λt z=>by cases z;exact fT1,hW⟩
end
def Tk(X:Cx)(W:a_):Prop:=∀ev s,gO X W ev s->X.xe ev s
def EW(W:a_)(σ:St):XK:=λcv dxo H'=>∃C dx,cv=Value.ref C/\dxo=some dx/\W C dx σ H'
theorem gO.j_{X:Cx}{W W':a_}{ev:Value}{s:Shared}(h:gO (X.wish (gO X W)) W' ev s):gO X W' ev s:=by
 obtain⟨e,C,dx,T,fl,pins,σ,H,ee,I,x,hfl,fe,fT,hW⟩:=h
 exact⟨e,C,dx,T,fl,pins,σ,H,ee,I.j_,x,hfl,⟨fe.no,fe.new,fe.pin⟩,λt z=>⟨(fT t z).no,(fT t z).new,(fT t z).pin⟩,hW⟩
theorem Tk.wish{X:Cx}{W:a_}:Tk (X.wish (gO X W)) W:=λ_ _ h=>h.j_
theorem gO.own{X:Cx}{W:a_}(ok:X.Ok)(hst:X.stack=X.env::X.outer)(hf:X.env.frame=some X.env.locals):PassesOwn (model X.prog X.w) X.A X.env (gO X W):=
 λev s' h=>gO.Lp hst hf ok.frames ev s' h
section
variable{X:Cx}{k:Nat}{f C:Addr}{fd:FuncData}{ps:List Str}{sp:Sp}{wX:List V}{ds:List Value}{W:a_}{x m:Str}{p pos apos:Pos}{e o:Expr}{es:List Expr}{ta:TE}{t:TA}
theorem Nq{pins:List (Addr×Obj)}{σ:St}{H:Hp}{s:Shared}{Q:VK}{us:List Value}{vs:List V}(F:aM X.prog X.w X.K X.mg X.base (bT X.prog X.w) k f fd ps sp)(hr:gQ k X.A)(hb:Binds X.K fd ps ds)(hd:Vals wX ds)(hx:Tk X W)
  (I:Inv X pins σ H s) (r:Vals vs us) (h:sp (vs++wX) H Q (EW W σ)):wpAny (model X.prog X.w) X.A (call (.ref f) us) (EP X pins σ Q) X.xe s:=by
 have r2:=r.append hd
 have hl:(us++ds).length=ps.length:=by rw[<-r2.length];exact F.len _ _ _ _ h
 refine wpAny_call (codeAny_mono (F.run X.A X.stack s H ⟨us,[]⟩ (us++ds) (vs++wX) Q _ hr I.env0 (hb s us I.uW hl) r2 h) λr s' hq=> ?_)
 match r,hq with
 | .error e,hq=>exact hx _ _ (gO.V2 I hq λC dx H' ⟨C',dx',e1,e2,w⟩=>by cases e1;cases e2;exact w)
 | .ok (.ret u),hq=>exact I.after hq
def Zb(sp:Sp)(wX:List V)(W:a_)(t:TA):TE:=λσ H Q=>t σ H λvs H1=>sp (vs++wX) H1 Q (EW W σ)
theorem aal(F:aM X.prog X.w X.K X.mg X.base (bT X.prog X.w) k f fd ps sp)(hr:gQ k X.A)(hg:Gl X x)(hm:X.mg x=some (.ref f))(hk:keepIn X.K (.ref f)=true)(hb:Binds X.K fd ps ds)(hd:Vals wX ds)(hx:Tk X W)
  (ha:PA X (e::es) t) (hdb:(x==("__debug__" : Str))=false:=by decide) (he:starEach (e::es) X.env=(false,eval e X.env)::starEach es X.env:=by rfl) (hpl:(backTo pos (starEach es X.env)).any (·.1)=false:=by rfl):
  PE X (.Call (.Name x p) (e::es) [] pos) (Zb sp wX W t):=by
 intro pins s σ H Q I h
 exact wpAny_Call_Name_kw (Dk I hg hm (PySem.W.callWith_K (h₀:=X.base) I.ok.mod.kin hk (f9 (ha pos pins s σ H _ I h) λus s1 ⟨vs,H1,I1,r,q⟩=>⟨I1.uW,Nq F hr hb hd hx I1 r q⟩) he hpl) hdb)
def Tw(C:Addr)(m:Str)(sp:Sp)(wX:List V)(W:a_)(ta:TE)(t:TA):TE:=λσ H Q=>ta σ H λx H1=>∃a dx fs,x= .ref a/\H1 a=some (.ins C dx fs)/\fs.lookup m=none/\t σ H1 λvs H2=>sp (x::(vs++wX)) H2 Q (EW W σ)
theorem aaf{pl:Sem Bool}(he:PE X o ta)(c:Ig X.K C)(hm:Meth X.K C m f)(F:aM X.prog X.w X.K X.mg X.base (bT X.prog X.w) k f fd ps sp)(hr:gQ k X.A)(hb:Binds X.K fd ps ds)(hd:Vals wX ds)(hx:Tk X W)(ha:PA X (e::es) t)
  (hst:starEach (e::es) X.env=(false,eval e X.env)::starEach es X.env:=by rfl) (hpl:(backTo pos (starEach es X.env)).any (·.1)=false:=by rfl)
  (ht:eval (.Call (.Attribute o m apos) (e::es) [] pos) X.env=(do
   let ov <-eval o X.env
   standAt apos.atName
   let(f,first) <-holding [ov] (getMethod ov m pl)
   callWith pos f first (backTo pos (starEach (e::es) X.env)) (backToKw pos (keywordEach [] X.env))):=by rfl):
  PE X (.Call (.Attribute o m apos) (e::es) [] pos) (Tw C m sp wX W ta t):=by
 intro pins s σ H Q I h
 refine PySem.W.methodCall_KW (pl:=pl) (f9 (he pins s σ H _ I h) λu s1 ⟨x,H1,I1,rx,a,dx,fs,ex,ea,l,q⟩=> ?_) ht
 subst ex
 obtain rfl:u=Value.ref a:=rx
 refine JW I1 ea c hm l ?_
 exact PySem.W.callWith_K (h₀:=X.base) (first:=[.ref a]) I1.ok.mod.kin hm.kp (f9 (ha pos pins s1 σ H1 _ I1 q) λus s2 ⟨vs,H2,I2,r,q2⟩=>⟨I2.uW,Nq (us:= .ref a::us) (vs:= .ref a::vs) F hr hb hd hx I2 (.cons rfl r) q2⟩) hst hpl
theorem Xl{pl:Sem Bool}(he:PE X o ta)(c:Ig X.K C)(hm:Meth X.K C m f)(F:aM X.prog X.w X.K X.mg X.base (bT X.prog X.w) k f fd ps sp)(hr:gQ k X.A)(hb:Binds X.K fd ps ds)(hd:Vals wX ds)(hx:Tk X W)
  (ht:eval (.Call (.Attribute o m apos) [] [] pos) X.env=(do
   let ov <-eval o X.env
   standAt apos.atName
   let(f,first) <-holding [ov] (getMethod ov m pl)
   callWith pos f first (backTo pos (starEach [] X.env)) (backToKw pos (keywordEach [] X.env))):=by rfl):
  PE X (.Call (.Attribute o m apos) [] [] pos) (Tw C m sp wX W ta aeY):=by
 intro pins s σ H Q I h
 refine PySem.W.methodCall_KW (pl:=pl) (f9 (he pins s σ H _ I h) λu s1 ⟨x,H1,I1,rx,a,dx,fs,ex,ea,l,q⟩=> ?_) ht
 subst ex
 obtain rfl:u=Value.ref a:=rx
 exact JW I1 ea c hm l (PySem.W.callWith_K0 (first:=[.ref a]) I1.uW hm.kp (Nq (us:=[.ref a]) (vs:=[.ref a]) F hr hb hd hx I1 (.cons rfl .nil) q))
end
theorem zx.okX{P:Program}{w:World}{K:Frag}{mg:Str->Option Value}{base:Heap}{x qual:Str}{st:Stmt}{dV:Value}{f:Addr}{fd:FuncData}{N ps:List Str}{k:Nat}{sp:Sp}(F:zx K x qual st dV f fd)(S:aJ N ps (aC st))(len:∀vs H Q E,sp vs H Q E->vs.length=ps.length)
  (hbody:∀(cdv:Value) (A:Around) (outer:List Env) (s:Shared) (H:Hp) (vs:List V) (Q:VK) (E:XK),gQ k (A.deeper (envOfC qual (aC st) s.heap.objs.size f cdv))->sp vs H Q E->
   ∃t W,(∀C dx σ H',W C dx σ H'->E (.ref C) (some dx) H')/\Gm ((wY (bT P w) P w K mg base N qual (aC st) f cdv A outer s H E).wish (gO (wY (bT P w) P w K mg base N qual (aC st) f cdv A outer s H E) W)) (cM st) t/\t {nx:=λ_ H'=>gcK H Q .non H',rt:=gcK H Q} (start N vs) H):
  aM P w K mg base (bT P w) (k+1) f fd ps sp:=by
 obtain⟨oc,od,kV,doc,pm,an,cdv,ct,osl,rfl,lk,hcd⟩:=F.ex
 refine aM.gc (sp:=λvs H Q' E=>∃Q,sp vs H Q E/\Q'=gcK H Q) (abl lk hcd S (λvs H Q E ⟨Q0,q,_⟩=>len vs H Q0 E q) λA outer s H vs Q' E hr hsp=> ?_) λvs H Q E q=>⟨Q,q,rfl⟩
 obtain⟨Q,hsp,rfl⟩:=hsp
 obtain⟨t,W,hE,h,q⟩:=hbody cdv A outer s H vs Q E hr hsp
 refine⟨t,λpins s1 σ H1 D I h1=> ?_,q⟩
 exact vE (h pins s1 σ H1 D (I.wish _) h1) (λ_ _ z=>z.j_) λ_ _ z=>z.leave hE
abbrev Cx.pp(X:Cx)(pins:List (Addr×Obj)):Cx:={X with pn:=X.pn++pins}
abbrev Cx.held(X:Cx)(e:Addr):Cx:={X with A:=X.A.mark (some (.ref e)),calm:=false,xe:=λ_ _=>False}
section
variable{X:Cx}{pins uG:List (Addr×Obj)}{σ:St}{H:Hp}{s:Shared}{e:Addr}
theorem Inv.pp(I:Inv X (pins++uG) σ H s):Inv (X.pp pins) uG σ H s:=
 ⟨⟨I.ok.mod,I.ok.kind,I.ok.glob,I.ok.blt,I.ok.above,I.ok.inj,I.ok.has,I.ok.cab,I.ok.hd,I.ok.frames,I.ok.stk,I.ok.exf,I.ok.bs,I.ok.Wx,I.ok.Q9,I.ok.RG,I.ok.yR,I.ok.frf⟩,I.os,I.bare,I.base,I.loc,I.cell,I.free,I.jl,λp hp=>I.pin p (by rw[<-List.append_assoc];exact hp),I.hok,I.len⟩
theorem Inv.ahR(I:Inv (X.pp pins) uG σ H s):Inv X (pins++uG) σ H s:=
 ⟨⟨I.ok.mod,I.ok.kind,I.ok.glob,I.ok.blt,I.ok.above,I.ok.inj,I.ok.has,I.ok.cab,I.ok.hd,I.ok.frames,I.ok.stk,I.ok.exf,I.ok.bs,I.ok.Wx,I.ok.Q9,I.ok.RG,I.ok.yR,I.ok.frf⟩,I.os,I.bare,I.base,I.loc,I.cell,I.free,I.jl,λp hp=>I.pin p (by rw[<-List.append_assoc]at hp;exact hp),I.hok,I.len⟩
theorem Inv.fewer(I:Inv X (pins++uG) σ H s):Inv X pins σ H s:=⟨I.ok,I.os,I.bare,I.base,I.loc,I.cell,I.free,I.jl,λp hp=>I.pin p (by rw[<-List.append_assoc];exact List.mem_append_left _ hp),I.hok,I.len⟩
theorem Inv.held(I:Inv X pins σ H s)(e:Addr):Inv (X.held e) pins σ H s:=
 ⟨⟨I.ok.mod,I.ok.kind,I.ok.glob,I.ok.blt,I.ok.above,I.ok.inj,I.ok.has,I.ok.cab,(λz=>by cases z),I.ok.frames,I.ok.stk,I.ok.exf,I.ok.bs,I.ok.Wx,I.ok.Q9,I.ok.RG,I.ok.yR,I.ok.frf⟩,I.os,I.bare,I.base,I.loc,I.cell,I.free,I.jl,I.pin,I.hok,I.len⟩
theorem Inv.Th(ok:X.Ok)(I:Inv (X.held e) pins σ H s):Inv X pins σ H s:=⟨ok,I.os,I.bare,I.base,I.loc,I.cell,I.free,I.jl,I.pin,I.hok,I.len⟩
theorem SP.map{X':Cx}{uG:List (Addr×Obj)}{D:Ends}{f:Flow}{s':Shared}(g:∀σ H,Inv X' uG σ H s'->Inv X pins σ H s')(h:SP X' uG D f s'):SP X pins D f s':=by
 cases f with
 | next=>obtain⟨σ',H',I,q⟩:=h;exact⟨σ',H',g _ _ I,q⟩
 | brk=>obtain⟨σ',H',I,q⟩:=h;exact⟨σ',H',g _ _ I,q⟩
 | cont=>obtain⟨σ',H',I,q⟩:=h;exact⟨σ',H',g _ _ I,q⟩
 | ret u=>obtain⟨v,σ',H',I,r,q⟩:=h;exact⟨v,σ',H',g _ _ I,r,q⟩
end
section
variable{X:Cx}{W:a_}{c:Str}{cp hpos pos:Pos}{b₀:Stmt}{suite body:List Stmt}{tb:a_->TS}{ts:TS}{cv:Value}{v:V}
theorem Exc.typ{M:Model}{h:Heap}{e C:Addr}{dx T:Option Addr}{fl:Value}(x:Exc h e C dx T fl):PySem.W.Looks M h (typeOf (.ref e)) (.ref C):=by
 obtain⟨vs,he,_⟩:=x.at_
 intro A Q E s k q
 exact zC (wpAny_loadPart (k _ _ he) (zI q))
end
abbrev xC(a C dx:Addr):HO:= .ext λh=>∃vs,h.get? a=some {cls:= .ref C,dict:=some dx,data:= .fields vs}
section
variable{X:Cx}{pins:List (Addr×Obj)}{σ:St}{H:Hp}{s:Shared}{h':Heap}{t':Nat}
theorem Inv.locals(I:Inv X pins σ H s)(hsb:Heap.SameBut X.env.locals s.heap h')(loc:∃m,h'.Ns X.env.locals m/\∀(i:Nat) (x:Str) (v:V),X.N[i]? = some x->σ[i]? = some (some v)->Vis X.env.scope x->∃u,RelV v u/\Look X.env h' m x u):
  Inv X pins σ H {s with heap:=h',toks:=t'}:=by
 have nL:∀b o,X.s₀.heap.get? b=some o->b≠X.env.locals:=λb o q=>xD (yA (zS q) I.ok.above)
 refine⟨I.ok,I.os,I.bare,⟨λb o q n hb hx=>(hsb.2 b (nL b o q)).trans (I.base.keep b o q n hb hx),λb o q n hb hx=> ?_,I.base.free,λb o q hx=> ?_,I.base.tups,I.base.qX,I.base.sY⟩,loc,λx c q=> ?_,I.free,I.jl,λp hp=> ?_,λb o q=> ?_,I.len⟩
 ·obtain⟨sl,z⟩:=I.base.slot b o q n hb hx
  exact⟨sl,(hsb.2 b (nL b o q)).trans z⟩
 ·obtain⟨o',z⟩:=I.base.there b o q hx
  exact⟨o',(hsb.2 b (nL b o q)).trans z⟩
 ·obtain⟨v,o,ho,hd⟩:=I.cell x c q
  exact⟨v,o,(hsb.2 c (I.cne x c q)).trans ho,hd⟩
 ·obtain⟨z1,z2,z3,z4⟩:=I.pin p hp
  exact⟨(hsb.2 p.1 z3).trans z1,z2,z3,z4⟩
 ·have nl:∀b u,H b=some u->b≠X.env.locals:=λb u z y=>by rw[y,I.free]at z;cases z
  refine(I.hok b o q).stay (λb' u hb z=> ?_) (λ_ z=>z) λ_ _ z=>z
  rcases hb with rfl | hb
  ·exact(hsb.2 _ (nl _ _ q)).trans z
  ·exact(hsb.2 _ (nl _ _ hb)).trans z
theorem XD{env:Env}{h h':Heap}{m m':Str->Option Value}{x:Str}{u:Value}(l:Look env h m x u)(hm:m' x=m x)(hc:∀c,env.cells.lookup x=some c->h'.get? c=h.get? c):Look env h' m' x u:=by
 rcases l with⟨k,e⟩ | ⟨k,c,e,o,ho,hd⟩
 ·exact .inl ⟨k,hm.trans e⟩
 ·exact .inr ⟨k,c,e,o,(hc c e).trans ho,hd⟩
theorem name_goes{M:Model}{A:Around}{E:Value->Shared->Prop}{i:Nat}{n:Str}{pos:Pos}{Q:Unit->Shared->Prop}(I:Inv X pins σ H s)(nd:X.N.Nodup)(hi:X.N[i]? = some n)(hl:X.env.scope.names.lookup n=some .local)(hk:X.env.kindOf n=some .local)
  (hp:(X.env.scope.kind== .class||(X.env.scope.kind== .module&&X.env.locals != X.env.globals))=false)
  (h:∀s',Inv X pins (σ.set i none) H s'->Q () s'):wpAny M A (do bindName X.env n .none;unbindBehindTheSuite X.env n pos) Q E s:=by
 refine zC (wpAny_bindName (xN (v:= .non) I nd hi (.inl hl) rfl (λs1 I1=> ?_) (.inr hl)))
 unfold unbindBehindTheSuite
 refine wpAny_onRaise ?_
 unfold unbindName
 refine zC (wpAny_point (zC ?_))
 unfold deleteName
 simp only[hk,hp]
 rw[if_neg (by decide)]
 obtain⟨m,hn,hlk⟩:=I1.loc
 have il:i<σ.length:=by rw[I.len];exact(List.getElem?_eq_some_iff.mp hi).1
 have there:(m n).isSome=true:=by
  obtain⟨u,ru,l⟩:=hlk i n .non hi (by rw[zan il]) (.inl hl)
  rcases l with⟨_,z⟩ | ⟨z,_⟩
  ·rw[z];rfl
  ·rw[hk]at z;rcases z with z | z<;>cases z
 refine zC (wpAny_nsDel_keeps hn λh2 v hn2 hs2=> ?_)
 rw[there]
 simp only[if_true,Bool.not_true,Bool.false_eq_true,if_false]
 refine zI (wpAny_point (h _ ?_))
 have I2:Inv X pins (σ.set i none) H s1:=I1.weak (by simp) λj w hj=>by
  by_cases z:i=j
  ·subst z;rw[zan il]at hj;cases hj
  ·rw[zam z]at hj ⊢;exact hj
 refine I2.locals (t':=s1.toks) hs2 ⟨_,hn2,λj x w hj hw hv=> ?_⟩
 have ne:x≠n:=λz=>by
  subst z
  have:j=i:=Jw nd hj hi
  subst this
  rw[zan il]at hw;cases hw
 have hw':(σ.set i (some .non))[j]? = some (some w):=by
  by_cases z:i=j
  ·subst z;rw[zan il]at hw;cases hw
  ·rw[zam z]at hw ⊢;exact hw
 obtain⟨u,ru,l⟩:=hlk j x w hj hw' hv
 exact⟨u,ru,XD l (by rw[if_neg ne]) λc hc=>hs2.2 c (I1.cne x c hc)⟩
end
section
variable{X:Cx}{W:a_}{c n:Str}{cp hpos pos:Pos}{b₀:Stmt}{suite body:List Stmt}{tb:a_->TS}{ts:TS}{cv:Value}{v:V}{i:Nat}
def Ends.less(D:Ends)(i:Nat):Ends:={nx:=λσ H=>D.nx (σ.set i none) H,bk:=λσ H=>D.bk (σ.set i none) H,ct:=λσ H=>D.ct (σ.set i none) H,rt:=D.rt}
def xmA(K:Frag)(cv:Value)(W:a_)(th:Addr->Addr->Addr->St->Hp->Prop):a_:=λC dx σ H=>∃b,exmOne K (.ref C) cv=some b/\(if b=true then(∀e,H e=none->th e C dx σ H)else W C dx σ H)
theorem Inv.caught{pins:List (Addr×Obj)}{σ:St}{H:Hp}{s:Shared}{e C dx:Addr}{vs:Array Value}(I:Inv X pins σ H s)(h:s.heap.get? e=some {cls:= .ref C,dict:=some dx,data:= .fields vs})(f:wM X pins H e):Inv X pins σ (upd H e (xC e C dx)) s:=by
 have hk:∀b u,H b=some u->upd H e (xC e C dx) b=some u:=λb u q=>by rw[aG (bA q f.no)];exact q
 have hn:∀b,b≠e->H b=none->upd H e (xC e C dx) b=none:=λb z q=>by rw[aG z];exact q
 refine⟨I.ok,I.os,I.bare,⟨I.base.keep,I.base.slot,λb o q n x=>hn b (λz=>absurd (yA (zS q) (z▸f.new)) (wS _)) (I.base.free b o q n x),I.base.there,λb xs q=>hk _ _ (I.base.tups b xs q),λb o u q=>hk _ _ (I.base.qX b o u q),λb ps q=> ?_⟩,I.loc,I.cell,hn _ (Ne.symm (I.yj h rfl).1) I.free,λx c q=>hn _ ((I.yj h rfl).2 x c q) (I.jl x c q),λp hp=> ?_,λb o q=> ?_,I.len⟩
 ·obtain⟨m,z⟩:=I.base.sY b ps q;exact⟨m,hk _ _ z⟩
 ·obtain⟨z1,z2,z3⟩:=I.pin p hp;exact⟨z1,hn _ (f.pin p hp) z2,z3⟩
 ·by_cases z:b=e
  ·subst z
   rw[bh]at q;cases q
   exact⟨⟨vs,h⟩,⟨_,h⟩,λh1 h2 ⟨vs1,y⟩ k=>⟨vs1,k _ y⟩⟩
  ·rw[aG z]at q
   exact(I.hok b o q).stay (λ_ _ _ y=>y) (λb' y=>hk _ _ y) λb' xs y=>hk _ _ y
theorem Z8(hst:X.stack=X.env::X.outer)(hf:X.env.frame=some X.env.locals)(hx:Tk X W)(hv:∀u,RelV v u->u=cv)(hn:∀e,PE (X.held e) (.Name c cp) (tC v))
  (nd:X.N.Nodup) (hi:X.N[i]? = some n) (hl:X.env.scope.names.lookup n=some .local) (hk:X.env.kindOf n=some .local)
  (hb:∀pins W1,Gm ((X.pp pins).wish (gO (X.pp pins) W1)) body (tb W1)) (hs:∀e,Gm (X.held e) (b₀::suite) ts):
  PS X (.Try body [.ExceptHandler (some (.Name c cp)) (some n) (b₀::suite) hpos] [] [] pos)
   (λD σ H=>tb (xmA X.K cv W λe C dx σ' H'=>ts (Ends.less D i) (σ'.set i (some (.ref e))) (upd H' e (xC e C dx))) D σ H):=by
 intro pins s σ H D I h
 have ok:=I.ok
 have hcls:(X.env.scope.kind== .class||(X.env.scope.kind== .module&&X.env.locals != X.env.globals))=false:=by rw[ok.kind];rfl
 refine wpAny_Try_except (vE (hb pins (xmA X.K cv W λe C dx σ' H'=>ts (Ends.less D i) (σ'.set i (some (.ref e))) (upd H' e (xC e C dx))) [] s σ H D (Inv.wish (Inv.pp (uG:=[]) (by rw[List.append_nil];exact I)) _) h) (λf s1 h1=> ?_) λev s1 h1=> ?_)
 ·have h2:SP X pins D f s1:=SP.map (λσ H z=>z.j_.ahR.fewer) h1
  cases f with
  | next=>exact wpAny_execs_nil h2
  | brk=>exact h2
  | cont=>exact h2
  | ret u=>exact h2
 ·obtain⟨e,C,dx,T,fl,QZ,σ',H',rfl,I1,x,hfl,fe,fT,hW⟩:=h1
  have J1:=I1.ahR
  have aa4:=J1.stack
  rw[hst]at aa4
  have cv1:∀{a},wM (X.pp pins) QZ H' a->wM X (pins++QZ) H' a:=λz=>⟨z.no,z.new,λp hp=>z.pin p (by rw[<-List.append_assoc]at hp;exact hp)⟩
  have fe':=cv1 fe
  have fT':∀t,T=some t->wM X (pins++QZ) H' t:=λt z=>cv1 (fT t z)
  refine Td (by rw[J1.ok.frames,hst]) aa4 hf x hfl λh1 T1 hT1 k1 x1=> ?_
  have fT1:wM X (pins++QZ) H' T1:=by
   rcases hT1 with r | r
   ·exact fT' T1 r
   ·refine⟨J1.hok.fresh r,yY J1.sz r,λp hp z=> ?_⟩
    have:=zS (J1.pin p hp).1
    rw[z]at this
    exact absurd (yA this r) (wS _)
  have I2:=J1.K7 x fe' fT' (k1.mono (by rw[hst];exact λb z=>z)) x1.here.1 λt z=>let⟨o,q⟩:=x.here.2 t z;k1.1.2 t o q
  refine xJ (fr:=none) (s:={s1 with heap:=h1}) x1 λh2 k2 x2=> ?_
  have I3:=I2.K7 x1 fe' (λt z=>by cases z;exact fT1) (k2.mono (by simp)) x2.here.1 x2.here.2
  obtain⟨vs2,he2,h12,alH,oT,ts2,hoT,hdT,h32⟩:=x2.at_
  have nfs:∀{a:Addr} {o:Obj} {vs:Array Value},h2.get? a=some o->o.data= .fields vs->a∉X.fs:=λq d hm=>by
   obtain⟨_,o',ho',hd'⟩:=I3.yR.mem hm
   have q':h2.get? _=some o':=ho'
   rw[q]at q';cases q';exact hd' _ d
  have I4:Inv X (pins++[(e,{cls:= .ref C,dict:=some dx,data:= .fields vs2}),(T1,oT)]) σ' H' {s1 with heap:=h2}:=I3.vO λp hp=>by
   rcases List.mem_append.mp hp with z | z
   ·exact I3.pin p (xE _ (List.mem_append_left _ z))
   ·simp at z
    rcases z with rfl | rfl
    ·exact⟨he2,fe'.no,(I3.yj he2 rfl).1,nfs he2 rfl,λv z=>by cases z⟩
    ·exact⟨hoT,fT1.no,(I3.yj hoT hdT).1,nfs hoT hdT,λv z=>by rw[hdT]at z;cases z⟩
  obtain⟨b,hm,hif⟩:=hW
  have fw:∀{a},wM X (pins++QZ) H' a->wM (X.held e) pins H' a:=λz=>⟨z.no,z.new,λp hp=>z.pin p (by rw[<-List.append_assoc];exact List.mem_append_left _ hp)⟩
  refine wpAny_handleBy_cons (codeAny_handlers_test (vE (hn e _ _ σ' H' (λv' S8=>v'=v/\S8=H') (I4.held e) ⟨rfl,rfl⟩) (λc' s3 ⟨v',S8,I5,rv,e1,e2⟩=> ?_) λ_ _ z=>z.elim)) (by intro q;cases q)
  subst e1 e2
  obtain rfl:=hv c' rv
  have x5:Exc s3.heap e C (some dx) (some T1) .none:=⟨vs2,(I5.pin (e,_) (by simp)).1,h12,alH,oT,ts2,(I5.pin (T1,oT) (by simp)).1,hdT,h32⟩
  refine PySem.W.Looks.here (s:=s3) (PySem.W.exm_one I5.uW x5.typ hm) ?_
  cases b with
  | true=>
   refine codeAny_handlers_suite_as (xJ (fr:=none) x5 λh6 k6 x6=> ?_)
   have I6:=(I5.fewer).K7 x5 (fw fe') (λt z=>by cases z;exact fw fT1) (k6.mono (by simp)) x6.here.1 x6.here.2
   obtain⟨vs6,he6,_⟩:=x6.at_
   have I7:=I6.caught he6 (fw fe')
   refine xN (v:= .ref e) (I7.Th ok) nd hi (.inl hl) rfl (λs8 I8=> ?_) (.inr hl)
   refine vE (hs e pins s8 _ _ (Ends.less D i) (I8.held e) (hif e fe'.no)) (λf s9 z=> ?_) λ_ _ z=>z.elim
   show wpAny _ _ (do bindName X.env n .none;unbindBehindTheSuite X.env n hpos) _ _ _
   have z':SP X pins (Ends.less D i) f s9:=SP.map (λ_ _ y=>y.Th ok) z
   cases f with
   | next=>obtain⟨σ9,H9,I9,q9⟩:=z';exact name_goes I9 nd hi hl hk hcls λs' I'=>⟨_,_,I',q9⟩
   | brk=>obtain⟨σ9,H9,I9,q9⟩:=z';exact name_goes I9 nd hi hl hk hcls λs' I'=>⟨_,_,I',q9⟩
   | cont=>obtain⟨σ9,H9,I9,q9⟩:=z';exact name_goes I9 nd hi hl hk hcls λs' I'=>⟨_,_,I',q9⟩
   | ret u=>obtain⟨v9,σ9,H9,I9,r9,q9⟩:=z';exact name_goes I9 nd hi hl hk hcls λs' I'=>⟨v9,_,_,I',r9,q9⟩
  | false=>
   refine wpAny_handleBy_nil ?_
   unfold PySem.passOn
   obtain⟨vs5,he5,h15,_⟩:=x5.at_
   refine zC (vT he5 rfl h15 ?_)
   rw[if_neg (by simp)]
   refine zC (xJ x5 λh6 k6 x6=>wpAny_throw (hx _ _ ⟨e,C,dx,some T1,_,pins,σ',S8,rfl,?_,x6,.inr (by rw[hf];rfl),⟨fe'.no,fe'.new,(fw fe').pin⟩,λt z=>by cases z;exact⟨fT1.no,fT1.new,(fw fT1).pin⟩,hif⟩))
   exact((I5.fewer).K7 x5 (fw fe') (λt z=>by cases z;exact fw fT1) (k6.mono (by simp)) x6.here.1 x6.here.2).Th ok
end
section
variable{X:Cx}{e:Expr}{ta:TE}{f:Str}{pos:Pos}
def akS(K:Frag)(ta:TE)(f:Str):TE:=λσ H Q=>ta σ H λx H1=>∃a C dx fs v,x= .ref a/\H1 a=some (xC a C dx)/\H1 dx=some (.xd fs)/\Dz K C f/\findIn K (.ref C) "__getattr__" = some none/\fs.lookup f=some v/\Q v H1
theorem afH(he:PE X e ta)(hb:attributeBase e f X.env (eval e X.env)=eval e X.env):PE X (.Attribute e f pos) (akS X.K ta f):=by
 intro pins s σ H Q I h
 refine WL hb (f9 (he pins s σ H _ I h) λu s1 ⟨x,H1,I1,rx,a,C,dx,fs,v,ex,ea,ed,F,hg,l,q⟩=> ?_)
 subst ex
 obtain rfl:u=Value.ref a:=rx
 obtain⟨⟨vs,hx⟩,_⟩:=(show bQ X.prog X.w H1 s1.heap a (xC a C dx)from I1.hok a _ ea)
 obtain⟨mA,hn,hr⟩:=(show bQ X.prog X.w H1 s1.heap dx (.xd fs)from I1.hok dx _ ed)
 have r0:=hr f
 rw[l]at r0
 cases hm:mA f with
 | none=>rw[hm]at r0;exact r0.elim
 | some u=>
  rw[hm]at r0
  exact akK I1.uW F hg hx hn hm (LQ r0) ⟨v,H1,I1.tok _,r0,q⟩
end
structure XIs(K:Frag)(C:Addr):Prop where
 gn:findIn K (.ref C) "__getattr__" = some none
 ca:findIn K (.ref C) "__class__" = some (some (.builtin "object.__class__"))
 hn:PySem.W.specialIn K (.builtin "object.__class__") "__get__" = some (some (.builtin "getset_descriptor.__get__"))
 tk:PySem.W.takesIn K (.builtin "object.__class__")=some true
 mr:PySem.W.mroIn K C (.type "object")=some true
section
variable{X:Cx}{k:Nat}{f C:Addr}{fd:FuncData}{ps:List Str}{sp:Sp}{wX:List V}{ds:List Value}{W:a_}{x:Str}{p pos:Pos}{e:Expr}{es:List Expr}{t:TA}
def Tz(C:Addr)(sp:Sp)(wX:List V)(W:a_)(t:TA):TE:=λσ H Q=>t σ H λvs H1=>∀x dx,H1 x=none->H1 dx=none->dx≠x->
 sp (.ref x::(vs++wX)) (upd (upd H1 dx (.own x)) x (.ins C dx [])) (λv H2=>v= .non/\Q (.ref x) H2) (EW W σ)
theorem Ln{pins:List (Addr×Obj)}{σ:St}{H:Hp}{s:Shared}{Q:VK}{us:List Value}{vs:List V}(M:Mk X.K C f)(F:aM X.prog X.w X.K X.mg X.base (bT X.prog X.w) k f fd ps sp)(hr:gQ (k+1) X.A)(hb:Binds X.K fd ps ds)(hd:Vals wX ds)
  (hx:Tk X W) (I:Inv X pins σ H s) (r:Vals vs us)
  (h:∀x dx,H x=none->H dx=none->dx≠x->sp (.ref x::(vs++wX)) (upd (upd H dx (.own x)) x (.ins C dx [])) (λv H2=>v= .non/\Q (.ref x) H2) (EW W σ)):
  wpAny (model X.prog X.w) X.A (call (.ref C) us) (EP X pins σ Q) X.xe s:=by
 have hq:=h (s.heap.objs.size+1) s.heap.objs.size (I.hok.fresh (Nat.le_succ _)) (I.hok.fresh (zad _)) (xD (Nat.lt_succ_self _))
 have I2:=Inv.made (C:=C) I
 have r2:Vals (V.ref (s.heap.objs.size+1)::(vs++wX)) (Value.ref (s.heap.objs.size+1)::(us++ds)):= .cons rfl (r.append hd)
 have hl:(Value.ref (s.heap.objs.size+1)::us++ds).length=ps.length:=by
  have e:=r2.length
  rw[F.len _ _ _ _ hq]at e
  exact e.symm
 refine wpAny_call (aaE (f:=f) I.uW M.makes M.init (beq_iff_eq.mp M.fn) (codeAny_mono (F.run _ X.stack _ _ ⟨Value.ref (s.heap.objs.size+1)::us,[]⟩ (Value.ref (s.heap.objs.size+1)::(us++ds)) _ _ _ (hr.make C us [])
  (I2.env0.make C us []) (hb _ (Value.ref (s.heap.objs.size+1)::us) I2.uW hl) r2 hq) λr s' hq'=> ?_))
 match r,hq' with
 | .error e,hq'=>exact hx _ _ (gO.V2 I2 hq' λC dx H' ⟨C',dx',e1,e2,w⟩=>by cases e1;cases e2;exact w)
 | .ok (.ret u),hq'=>
  obtain⟨v,H',I3,rv,ev,q3⟩:=I2.after hq'
  subst ev
  exact⟨rv,⟨V.ref (s.heap.objs.size+1),H',I3,rfl,q3⟩⟩
theorem aag(M:Mk X.K C f)(F:aM X.prog X.w X.K X.mg X.base (bT X.prog X.w) k f fd ps sp)(hr:gQ (k+1) X.A)(hg:Gl X x)(hm:X.mg x=some (.ref C))(hb:Binds X.K fd ps ds)(hd:Vals wX ds)(hx:Tk X W)
  (ha:PA X (e::es) t) (hdb:(x==("__debug__" : Str))=false:=by decide) (he:starEach (e::es) X.env=(false,eval e X.env)::starEach es X.env:=by rfl) (hpl:(backTo pos (starEach es X.env)).any (·.1)=false:=by rfl):
  PE X (.Call (.Name x p) (e::es) [] pos) (Tz C sp wX W t):=λpins s σ H Q I h=>
 wpAny_Call_Name_kw (Dk I hg hm (PySem.W.callWith_K (h₀:=X.base) I.ok.mod.kin M.kp (f9 (ha pos pins s σ H _ I h) λus s1 ⟨vs,H1,I1,r,q⟩=>⟨I1.uW,Ln M F hr hb hd hx I1 r q⟩) he hpl) hdb)
theorem Xm(M:Mk X.K C f)(F:aM X.prog X.w X.K X.mg X.base (bT X.prog X.w) k f fd ps sp)(hr:gQ (k+1) X.A)(hg:Gl X x)(hm:X.mg x=some (.ref C))(hb:Binds X.K fd ps ds)(hd:Vals wX ds)(hx:Tk X W)
  (hdb:(x==("__debug__" : Str))=false:=by decide):PE X (.Call (.Name x p) [] [] pos) (Tz C sp wX W aeY):=λpins s σ H Q I h=>
 wpAny_Call_Name_kw (Dk I hg hm (PySem.W.callWith_K0 I.uW M.kp (Ln (us:=[]) M F hr hb hd hx I .nil h)) hdb)
end
section
variable{K:Frag}{nm q:Str}{C N:Addr}{bs bm:List Value}{sn:List Str}{sub:List Value}{ab:Bool}{col:Option Bool}{dd:Option Addr}{k0 k1 k2 k3 k5:Option Value}{newId:String}{name:Str}
theorem Vi(lo:K.lookup C=some (excClassObj nm q C N bs bm true sn sub ab col dd k0 k1 k2 k3 k5 newId))(h1:bm.contains (.type "object")=true)(h2:bm.contains (.type "BaseException")=true)(h3:∀self,refuseLoop self "__setattr__" bm=pure ())
  (sa:findIn K (.ref C) "__setattr__" = some (some (.builtin "object.__setattr__"))) (ga:findIn K (.ref C) "__getattribute__" = some (some (.builtin "BaseException.__getattribute__"))) (no:findIn K (.ref C) name=some none):Dz K C name:=
 ⟨⟨_,by unfold PySem.W.clsIn;rw[lo],rfl,rfl,by rw[List.contains_cons,h1,Bool.or_true],by rw[List.contains_cons,h2,Bool.or_true],λself=>(refuseLoop_ref self _ C bm).trans (h3 self)⟩,sa,ga,no⟩
theorem YH(lo:K.lookup C=some (excClassObj nm q C N bs bm true sn sub ab col dd k0 k1 k2 k3 k5 newId))(h1:bm.contains (.type "object")=true)(gn:findIn K (.ref C) "__getattr__" = some none)(ca:findIn K (.ref C) "__class__" = some (some (.builtin "object.__class__")))
  (hn:PySem.W.specialIn K (.builtin "object.__class__") "__get__" = some (some (.builtin "getset_descriptor.__get__"))) (tk:PySem.W.takesIn K (.builtin "object.__class__")=some true):XIs K C:=
 ⟨gn,ca,hn,tk,by unfold PySem.W.mroIn PySem.W.clsIn;rw[lo];simp only[Option.bind_some];rw[if_neg (by simp),List.contains_cons,h1,Bool.or_true]⟩
theorem YG{f:Addr}(lo:K.lookup C=some (excClassObj nm q C N bs bm true sn sub ab col dd k0 k1 k2 k3 k5 "ValueError.__new__"))(h0:bm.contains (.type "ValueError")=true)(hA:bm.contains (.type "AttributeError")=false)(hN:bm.contains (.type "NameError")=false)(h2:bm.contains (.type "BaseException")=true)
  (init:findIn K (.ref C) "__init__" = some (some (.ref f))) (fn:isFn K (.ref f)=true) (kp:keepIn K (.ref C)=true):XMk K C f:=
 ⟨⟨nm,q,N,bs,bm,true,sn,sub,ab,col,dd,k0,k1,k2,k3,k5,lo,⟨h0,hA,hN⟩,h2⟩,init,fn,kp⟩
theorem Wd{t:Value}{b:Bool}(lo:K.lookup C=some (excClassObj nm q C N bs bm true sn sub ab col dd k0 k1 k2 k3 k5 newId))(h:subIn K t (.ref C)=some b):PySem.W.kitCls K t (.ref C)=some b:=by
 unfold PySem.W.kitCls
 dsimp only
 rw[if_pos,h]
 unfold PySem.W.clsIn PySem.W.typeIn
 rw[lo]
 simp[lo]
theorem sub_self(lo:K.lookup C=some (excClassObj nm q C N bs bm true sn sub ab col dd k0 k1 k2 k3 k5 newId)):subIn K (.ref C) (.ref C)=some true:=by
 show PySem.W.mroIn K C (.ref C)=some true
 unfold PySem.W.mroIn PySem.W.clsIn
 rw[lo]
 simp
theorem Vh{t:Value}{b:Bool}(lo:K.lookup C=some (excClassObj nm q C N bs bm true sn sub ab col dd k0 k1 k2 k3 k5 newId))(h2:bm.contains (.type "BaseException")=true)(h:subIn K t (.ref C)=some b):exmOne K t (.ref C)=some b:=by
 unfold exmOne
 have e:subIn K (.ref C) (.type "BaseException")=some true:=by
  show PySem.W.mroIn K C _=some true
  unfold PySem.W.mroIn PySem.W.clsIn
  rw[lo]
  simp only[Option.bind_some]
  rw[if_neg (by simp),List.contains_cons,h2,Bool.or_true]
 rw[if_pos (by rw[e];simp)]
 exact Wd lo h
theorem Wc{t:Value}{b:Bool}(lo:K.lookup C=some (excClassObj nm q C N bs bm true sn sub ab col dd k0 k1 k2 k3 k5 newId))(h:subIn K t (.ref C)=some b):kitOne K t (.ref C)=some b:=by
 unfold kitOne
 split
 ·rename_i z
  have z':t= .ref C:=beq_iff_eq.mp z
  subst z'
  rw[sub_self lo]at h
  exact h
 ·exact Wd lo h
end
end L2
namespace L2
open PySem
theorem Fz{bm:List Value}{cs:List Addr}(e:bm=cs.map Value.ref++[.type "ValueError",.type "Exception",.type "BaseException",.type "object"]):∀self,refuseLoop self "__setattr__" bm=pure ():=by
 subst e
 intro self
 induction cs with
 | nil=>rfl
 | cons c r ih=>simp only[List.map_cons,List.cons_append,refuseLoop_ref];exact ih
end L2
namespace L2
open PySem PySem.Spec PyProof.Rows
def ald:V->Option Int->Option Int->Hp->VK->Prop:=λx lo hi H Q=>∃u,x= .str u/\u.length<=sizeLine/\Q (.str (Txt.slice u lo hi)) H
theorem ae7{X:Cx}:SlR X ald:=by
 intro pins s σ H x v vl vu lo hi sl Q I rx hs pl pu h
 obtain⟨u,rfl,hz,q⟩:=h
 obtain⟨t,rfl⟩:=rx
 have fin:∀(t':Tok) (k:Nat),EP X pins σ Q (.str (Txt.slice u lo hi) t') {s with toks:=k}:=λt' k=>⟨.str _,H,I.tok k,⟨t',rfl⟩,q⟩
 refine⟨"str",_,F.slot_str_getitem.lookup,typeIs_str _ _ _,?_⟩
 cases pl with
 | none=>
  cases pu with
  | none=>exact wpAny_getItem_str_slice (l:=none) (u:=none) (st:=none) hs rfl (post_val_or_str ⟨yY (Txt.slice_le u _ _) hz,fin⟩)
  | int j uj=>exact wpAny_getItem_str_slice (l:=none) (u:=some (j,uj)) (st:=none) hs rfl (post_val_or_str ⟨yY (Txt.slice_le u _ _) hz,fin⟩)
 | int i ui=>
  cases pu with
  | none=>exact wpAny_getItem_str_slice (l:=some (i,ui)) (u:=none) (st:=none) hs rfl (post_val_or_str ⟨yY (Txt.slice_le u _ _) hz,fin⟩)
  | int j uj=>exact wpAny_getItem_str_slice (l:=some (i,ui)) (u:=some (j,uj)) (st:=none) hs rfl (post_val_or_str ⟨yY (Txt.slice_le u _ _) hz,fin⟩)
theorem Tp{n:Nat}(h:n<=1000000):Builtin.Str.tooLong n=false:=by
 unfold Builtin.Str.tooLong
 exact zah (by have:(1000000:Nat)<=sizeLine:=(by decide);omega)
theorem mulOk_of{x:Str}{n:Int}(hx:x.length<=1000)(h0: -(2 ^ 62)<n)(h1:n<=1000):MulOk x n:=by
 refine⟨?_,?_,?_⟩
 ·rw[zah (by omega),zah (by omega)];rfl
 ·intro a b
  have:(1000:Int)<=(2 ^ 63 - 1) / n:=by
   rw[Int.le_ediv_iff_mul_le (by omega)]
   omega
  omega
 ·intro a b
  refine Tp ?_
  have:n.toNat<=1000:=by omega
  calc x.length*n.toNat<=1000*1000:=Nat.mul_le_mul hx this
   _<=1000000:=by decide
theorem Ub{X:Cx}:uv X (binaryOp .Mult) (λx y H Q=>∃i j,x= .str i/\y= .int j/\MulOk i j/\Q (.str (PySem.Txt.mul i j)) H):=by
 intro pins s σ H x y v u Q I rx ry h
 obtain⟨i,j,rfl,rfl,hz,q⟩:=h
 obtain⟨t,rfl⟩:=rx
 obtain⟨t',rfl⟩:=ry
 exact SB.mul hz (λt' tk=>⟨.str (PySem.Txt.mul i j),H,I.tok _,⟨_,rfl⟩,q⟩)
section
variable{X:Cx}
theorem aeO{pins:List (Addr×Obj)}{σ:St}{H:Hp}{s:Shared}{a:Addr}(I:Inv X pins σ H s)(e:H a=some (.dK [])):Inv X pins σ (upd H a (.dT [])) s:=by
 obtain⟨z,hd,vs,rel,o,es,ep,h1,h2,h3,h4,h5,h6⟩:=abw I.hok e
 have hv:vs=[]:=by cases rel;rfl
 subst hv
 have he:es.toList=[]:=by
  have:=h5.length
  exact List.length_eq_zero_iff.mp (by simpa using this)
 exact Pg (t':=s.toks) (h':=s.heap) I (by rw[e];exact zac) ⟨rfl,λ_ _=>rfl⟩ ⟨o,h1⟩ ⟨Nat.zero_le _,hd,[],.nil,o,es,ep,h1,h2,h3,by rw[he];rfl,List.nodup_nil⟩
def Ve(H:Hp)(a:Addr)(y:V)(o:Option V)(H':Hp):Prop:=(Ck H a y o/\H'=H)\/(H a=some (.dK [])/\(∃(k:List Key) (b:Addr),y= .ref b/\H b=some (.tup (k.map kV)))/\o=none/\H'=upd H a (.dT []))
theorem Ve.inv{pins:List (Addr×Obj)}{σ:St}{H H':Hp}{s:Shared}{a:Addr}{y:V}{o:Option V}(g:Ve H a y o H')(I:Inv X pins σ H s):Inv X pins σ H' s/\Ck H' a y o:=by
 rcases g with⟨g,rfl⟩ | ⟨e,⟨k,b,rfl,eb⟩,rfl,rfl⟩
 ·exact⟨I,g⟩
 ·refine⟨aeO I e,.inr ⟨[],k,b,.inl bh,rfl,?_,rfl⟩⟩
  rw[aG (λz=>by subst z;rw[e]at eb;cases eb)]
  exact eb
def aft(neg:Bool):R2:=λy x H Q=>∃a o H',x= .ref a/\Ve H a y o H'/\Q (.bl (if neg=true then !o.isSome else o.isSome)) H'
theorem af5(hu:X.A.units+1<cLine):uv X (compareOp .In) (aft false):=by
 intro pins s σ H y x v u Q I ry rx h
 obtain⟨a,o,H',rfl,g,q⟩:=h
 obtain rfl:u=Value.ref a:=rx
 obtain⟨I1,g1⟩:=g.inv I
 exact alX hu I1 g1 ry λs' I'=>⟨.bl _,H',I',rfl,q⟩
theorem Xr(hu:X.A.units+1<cLine):uv X (compareOp .NotIn) (aft true):=by
 intro pins s σ H y x v u Q I ry rx h
 obtain⟨a,o,H',rfl,g,q⟩:=h
 obtain rfl:u=Value.ref a:=rx
 obtain⟨I1,g1⟩:=g.inv I
 exact adR hu I1 g1 ry λs' I'=>⟨.bl _,H',I',rfl,q⟩
def aiz:R2:=λx y H Q=>∃a v,x= .ref a/\Ck H a y (some v)/\Q v H
theorem adx(hu:X.A.units+1<cLine):IxR X aiz:=by
 intro value slice pins s σ H x y v u Q I rx ry h hs
 obtain⟨a,d,rfl,g,q⟩:=h
 obtain rfl:v=Value.ref a:=rx
 exact tail_any (RP I g) PySem.F.slot_dict_getitem.lookup (X7 hu I g ry λw' s' I' rw'=>⟨d,H,I',rw',q⟩) hs
section
variable{o e f i value:Expr}{apos cpos pos pos':Pos}{td ty tx tv:TE}
def aeZ(td ty tx:TE):TE:=λσ H Q=>td σ H λx H1=>∃a,x= .ref a/\IsD H1 a/\ty σ H1 λy H2=>tx σ H2 λz H3=>∃o H4,Ve H3 a y o H4/\Q (o.getD z) H4
theorem aai(hu:X.A.units+1<cLine)(ho:PE X o td)(he:PE X e ty)(hf:PE X f tx)(m:M2 X o "get" apos e f cpos):PE X (.Call (.Attribute o "get" apos) [e,f] [] cpos) (aeZ td ty tx):=by
 intro pins s σ H Q I h
 refine wpAny_Call_method m.base m.few m.line PySem.F.plainAttrs_dict PySem.F.slot_dict_get PySem.F.type_dict_get (f9 (ho pins s σ H _ I h) λu t ⟨x,H1,I1,rx,a,ex,d,q1⟩=> ?_)
 subst ex
 obtain rfl:u=Value.ref a:=rx
 have ty:=Uv I1 d
 refine⟨ty.1,ty.2.1,?_⟩
 rw[m.trees]
 refine Calls.callWith_builtin rfl (Calls.evalArgs_plain (Calls.spliced_cons (f9 (he pins t σ H1 _ I1 q1) λiv t2 ⟨y,H2,I2,ry,q2⟩=>Calls.spliced_cons (f9 (hf pins t2 σ H2 _ I2 q2) λfv t3 ⟨z,H3,I3,rz,ov,H4,g,q3⟩=>Calls.spliced_nil ?_))))
 obtain⟨I4,g4⟩:=g.inv I3
 exact agK hu I4 g4 ry rz λw' t4 I5 rw'=>⟨_,H4,I5,rw',q3⟩
def ae0(td ty:TE):TE:=λσ H Q=>td σ H λx H1=>∃a,x= .ref a/\IsD H1 a/\ty σ H1 λy H2=>∃o H3,Ve H2 a y o H3/\Q (o.getD .non) H3
theorem aaj(hu:X.A.units+1<cLine)(ho:PE X o td)(he:PE X e ty)(m:M1 X o "get" apos e cpos):PE X (.Call (.Attribute o "get" apos) [e] [] cpos) (ae0 td ty):=by
 intro pins s σ H Q I h
 refine wpAny_Call_method m.base m.few m.line PySem.F.plainAttrs_dict PySem.F.slot_dict_get PySem.F.type_dict_get (f9 (ho pins s σ H _ I h) λu t ⟨x,H1,I1,rx,a,ex,d,q1⟩=> ?_)
 subst ex
 obtain rfl:u=Value.ref a:=rx
 have ty:=Uv I1 d
 refine⟨ty.1,ty.2.1,?_⟩
 rw[m.trees]
 refine Calls.callWith_builtin rfl (Calls.evalArgs_plain (Calls.spliced_cons (f9 (he pins t σ H1 _ I1 q1) λiv t2 ⟨y,H2,I2,ry,ov,H3,g,q2⟩=>Calls.spliced_nil ?_)))
 obtain⟨I3,g3⟩:=g.inv I2
 exact agL hu I3 g3 ry λw' t4 I5 rw'=>⟨_,H3,I5,rw',q2⟩
def ajP(H:Hp)(a:Addr)(y v:V)(H':Hp):Prop:=Qa H a y v H'\/∃(k:List Key) (b:Addr),H a=some (.dK [])/\y= .ref b/\H b=some (.tup (k.map kV))/\H'=upd H a (.dT [(k,v)])
def air(td ty tv:TE):TS:=λD σ H=>tv σ H λv H1=>td σ H1 λx H2=>ty σ H2 λy H3=>∃a H4,x= .ref a/\ajP H3 a y v H4/\D.nx σ H4
theorem acU(hu:X.A.units+1<cLine)(ho:PE X o td)(hi:PE X i ty)(hv:PE X value tv)(hs:swapsWith value (some (.Subscript o i pos')) pos.line X.env=pure false):PS X (.Assign [.Subscript o i pos'] value pos) (air td ty tv):=by
 intro pins s σ H D I h
 refine wpAny_Assign_Subscript (f9 (hv pins s σ H _ I h) λr t1 ⟨v,H1,I1,rv,q1⟩=>f9 (ho pins t1 σ H1 _ I1 q1) λu t2 ⟨x,H2,I2,rx,q2⟩=>f9 (hi pins t2 σ H2 _ I2 q2) λiv t3 ⟨y,H3,I3,ry,a,H4,ex,g,q3⟩=> ?_) hs
 subst ex
 obtain rfl:u=Value.ref a:=rx
 rcases g with g | ⟨k,b,e,rfl,eb,rfl⟩
 ·exact Mf hu I3 g ry rv λt4 I4=>⟨σ,H4,I4,q3⟩
 ·have eb':upd H3 a (.dT []) b=some (.tup (k.map kV)):=by
   rw[aG (λz=>by subst z;rw[e]at eb;cases eb)]
   exact eb
  refine Mf hu (aeO I3 e) (Qa.t bh eb' (by rw[sizeLine_eq];decide)) ry rv λt4 I4=>⟨σ,_,I4,?_⟩
  rw[ab9]
  exact q3
end
end
section
variable{prog:Program}{w:World}{A:Around}{E:Value->Shared->Prop}{s:Shared}{κ:Type}[DecidableEq κ]{knd:HeapKind prog w κ}{a:Addr}{xs:List (κ×Addr×Value)}
theorem Uo(hd:(a==sysModules)=false):MeetsIn prog w (Builtin.«dict.__len__» ⟨[.ref a],[]⟩) (λ_ R t=>∃ys:List (κ×Addr×Value),t.heap.DictOfH knd a ys/\R (.ok (.ret (.int ys.length t.toks))) {t with toks:=t.toks+1}):=
 .of_wp λA R t ⟨ys,hm,q⟩=>by
  obtain⟨o,es,ep,e1,_,e2,e3,_⟩:=hm
  show wpAny _ _ (dictSize a >>= _) _ _ t
  unfold dictSize
  refine zC (zC (wpAny_dictEntries e1 e2 (zI ?_)))
  show wpAny _ _ (Builtin.Dict.pendingCount a >>= _) _ _ t
  refine zC (wpAny_pendingCount_other hd (wpAny_ret_mkInt ?_))
  have sz:es.size=ys.length:=by rw[<-Array.length_toList,e3,zar]
  rw[Nat.add_zero,sz]
  exact q
theorem aly{Q:Value->Shared->Prop}(hd:(a==sysModules)=false)(hm:s.heap.DictOfH knd a xs)(hz:(xs.length:Int)<2 ^ 63)(q:Q (.int xs.length (s.toks+1)) {s with toks:=s.toks+1+1}):wpAny (model prog w) A (call (.builtin "len") [.ref a]) Q E s:=by
 refine Calls.call_function_entry kind_len plain_len entry_len (args_len1 _) ?_
 unfold Builtin.«len»
 refine zC (m:=oneArg "len" _) (zI (zC (m:=callSpecial? (.ref a) (Str.ofString "__len__")) ?_))
 refine zal (name:=Str.ofString "__len__") hm.typeIs F.slot_dict_len (call_meetsIn F.slot_dict_len hm.typeIs F.entry_dict_len (F.args_dict_len_1 _) (Uo (knd:=knd) hd) ⟨xs,hm,?_⟩)
 show wpAny (model prog w) _ _ _ _ {s with toks:=s.toks+1}
 refine zC (wpAny_holding (zI (zC (wpAny_letGo ?_))))
 show wpAny (model prog w) _ (if((xs.length:Nat):Int)<0 then _ else _) _ _ _
 rw[if_neg (by omega)]
 show wpAny (model prog w) _ (if((xs.length:Nat):Int)>=2 ^ 63 then _ else _) _ _ _
 rw[if_neg (by omega)]
 exact zC (wpAny_mkInt (zI ⟨_,rfl,q⟩))
end
theorem Yc{X:Cx}:j4 X (.builtin "len") (λxs H Q=>∃a kvs,xs=[V.ref a]/\H a=some (.dT kvs)/\Q (.int kvs.length) H):=by
 intro pins s σ H xs us Q I r h
 obtain⟨a,kvs,rfl,ha,q⟩:=h
 obtain⟨u,rfl,ru⟩:=vals1 r
 cases ru
 obtain⟨z,hd,ys,rel,dd⟩:=aeN I.hok ha
 have hl:=Paired.length rel
 refine aly hd dd (by rw[<-hl];rw[sizeLine_eq]at z;omega) ⟨.int kvs.length,H,I.tok _,⟨_,by rw[hl]⟩,q⟩
end L2
namespace L2
open PySem PySem.W PyProof.Rows
def Way(n:Nat)(lt:Nat->Nat->Bool){α:Type}:KasT α->(α->Prop)->Prop
 | .ret a,Q=>Q a
 | .ask i j k,Q=>i<n/\j<n/\Way n lt (k (lt i j)) Q
theorem Way.bind{n:Nat}{lt:Nat->Nat->Bool}{α β:Type}{f:α->KasT β}{Q:β->Prop}:∀{t:KasT α},Way n lt t (λa=>Way n lt (f a) Q)->Way n lt (t.bind f) Q
 | .ret _,h=>h
 | .ask _ _ _,h=>⟨h.1,h.2.1,Way.bind h.2.2⟩
theorem Way.mono{n:Nat}{lt:Nat->Nat->Bool}{α:Type}{Q Q':α->Prop}(hq:∀a,Q a->Q' a):∀{t:KasT α},Way n lt t Q->Way n lt t Q'
 | .ret _,h=>hq _ h
 | .ask _ _ _,h=>⟨h.1,h.2.1,Way.mono hq h.2.2⟩
theorem Way.wp{n:Nat}{lt:Nat->Nat->Bool}{G:Shared->Prop}{cmp:Nat->Nat->(Bool->Shared->Prop)->Shared->Prop}
  (hc:∀i j,i<n->j<n->∀(C:Bool->Shared->Prop) s,G s->(∀s',G s'->C (lt i j) s')->cmp i j C s) {α:Type} {R:α->Shared->Prop} {Q:α->Prop} (hR:∀a s,Q a->G s->R a s):
  ∀{t:KasT α} {s:Shared},Way n lt t Q->G s->t.kasWp cmp R s
 | .ret _,_,h,g=>hR _ _ h g
 | .ask i j k,s,h,g=>hc i j h.1 h.2.1 _ s g λ_ g'=>Way.wp hc hR h.2.2 g'
structure Pm(n:Nat)(p:Array Nat):Prop where
 sz:p.size=n
 pm:p.Perm (List.range n).toArray
section
variable{n:Nat}{O:KeyOrd}{k:Nat->O.α}
theorem Pm.lt{p:Array Nat}(h:Pm n p){i:Nat}(hi:i<n):p.getD i 0<n:=by
 have hs:i<p.size:=by rw[h.sz];exact hi
 have e:p.getD i 0=p[i]:=by simp[Array.getD,hs]
 rw[e]
 have:=(Array.perm_iff_toList_perm.mp h.pm).mem_iff (a:=p[i])
 simpa using this.mp (by simp)
theorem Pm.of{p q:Array Nat}(h:Pm n p)(hp:q.Perm p):Pm n q:=⟨by rw[hp.size_eq,h.sz],hp.trans h.pm⟩
def kk(k:Nat->O.α)(p:Array Nat)(i:Nat):O.α:=k (p.getD i 0)
theorem Ro{p q:Array Nat}{i j:Nat}(h:p[i]? = q[j]?):kk (O:=O) k p i=kk k q j:=by
 unfold kk
 rw[Array.getD_eq_getD_getElem?,Array.getD_eq_getD_getElem?,h]
theorem Wb{p:Array Nat}{a d:Nat}(hs:a<p.size)(hd:d<=a)(i:Nat):kk (O:=O) k (bubble p a d) i=if i=a - d then kk k p a else if a - d<i/\i<=a then kk k p (i - 1)else kk k p i:=by
 have g:=getElem?_bubble hs d hd i
 split
 ·rename_i h1;rw[if_pos h1]at g;exact Ro g
 ·rename_i h1
  rw[if_neg h1]at g
  split
  ·rename_i h2;rw[if_pos h2]at g;exact Ro g
  ·rename_i h2;rw[if_neg h2]at g;exact Ro g
theorem Oe{p:Array Nat}{a b:Nat}(hb:b<=p.size)(i:Nat):kk (O:=O) k (kas_rev p a b) i=if a<=i/\i<b then kk k p (a+b - 1 - i)else kk k p i:=by
 have g:=getElem?_mirror_all (i:=a) hb i
 unfold kas_rev
 split
 ·rename_i h1;rw[if_pos h1]at g;exact Ro g
 ·rename_i h1;rw[if_neg h1]at g;exact Ro g
def Up(k:Nat->O.α)(p:Array Nat)(m:Nat):Prop:=∀i j,i<=j->j<m->O.kle (kk k p i) (kk k p j)
def Dn(k:Nat->O.α)(p:Array Nat)(m:Nat):Prop:=∀i j,i<=j->j<m->O.kle (kk k p j) (kk k p i)
theorem Up.one{p:Array Nat}:Up (O:=O) k p 1:=λi j a b=>by
 obtain rfl:i=j:=by omega
 exact O.irrefl _
theorem Up.more{p:Array Nat}{m:Nat}(h:Up (O:=O) k p m)(h1:1<=m)(e:O.kle (kk k p (m - 1)) (kk k p m)):Up k p (m+1):=λi j a b=>by
 rcases Nat.lt_or_ge j m with q | q
 ·exact h i j a q
 ·obtain rfl:j=m:=by omega
  rcases Nat.lt_or_ge i j with z | z
  ·exact KeyOrd.kle_trans (h i (j - 1) (by omega) (by omega)) e
  ·obtain rfl:i=j:=by omega
   exact O.irrefl _
theorem Dn.more{p:Array Nat}{m:Nat}(h:Dn (O:=O) k p m)(h1:1<=m)(e:O.kle (kk k p m) (kk k p (m - 1))):Dn k p (m+1):=λi j a b=>by
 rcases Nat.lt_or_ge j m with q | q
 ·exact h i j a q
 ·obtain rfl:j=m:=by omega
  rcases Nat.lt_or_ge i j with z | z
  ·exact KeyOrd.kle_trans e (h i (j - 1) (by omega) (by omega))
  ·obtain rfl:i=j:=by omega
   exact O.irrefl _
theorem Dn.like{p q:Array Nat}{m:Nat}(h:Dn (O:=O) k p m)(e:∀i,kk (O:=O) k q i=kk k p i):Dn k q m:=λi j a b=>by rw[e,e];exact h i j a b
abbrev Um(O:KeyOrd)(k:Nat->O.α):Nat->Nat->Bool:=λi j=>O.blt (k i) (k j)
theorem Mz{p:Array Nat}(hp:Pm n p):∀(f m:Nat),1<=m->m+f<=n->Up (O:=O) k p m->
  Way n (Um O k) (kas_asc p f m) λr=>m<=r/\r<=m+f/\Up k p r/\(r=m+f\/O.klt (kk k p r) (kk k p (r - 1)))
 | 0,m,_,_,h=>⟨zad _,zad _,h,.inl rfl⟩
 | f+1,m,h1,h2,h=>by
  refine⟨hp.lt (by omega),hp.lt (by omega),?_⟩
  cases c:Um O k (p.getD m 0) (p.getD (m - 1) 0)with
  | true=>dsimp only;rw[if_pos rfl];exact⟨zad _,by omega,h,.inr c⟩
  | false=>
   dsimp only;rw[if_neg xA]
   refine Way.mono ?_ (Mz hp f (m+1) (by omega) (by omega) (h.more h1 c))
   rintro r ⟨a,b,c,d⟩
   exact⟨by omega,by omega,c,d.imp (λe=>by omega) id⟩
def Eqs(k:Nat->O.α)(p:Array Nat)(m q:Nat):Prop:=q+1<=m/\∀i,m - (q+1)<=i->i<m->kk (O:=O) k p i=kk k p (m - 1)
theorem Il{p:Array Nat}{m q:Nat}(hm:m<=p.size)(h:Eqs (O:=O) k p m q)(i:Nat):kk (O:=O) k (kas_rev p (m - (q+1)) m) i=kk k p i:=by
 rw[Oe hm]
 split
 ·rw[h.2 _ (by omega) (by omega),h.2 i (by omega) (by omega)]
 ·rfl
theorem Cq:∀(f:Nat) {p:Array Nat} {m q:Nat},Pm n p->m+f<=n->Dn (O:=O) k p m->Eqs (O:=O) k p m q->
  Way n (Um O k) (kas_desc f p m q) λr=>Pm n r.1/\m<=r.2.1/\r.2.1<=n/\Dn k r.1 r.2.1/\Eqs (O:=O) k r.1 r.2.1 r.2.2
 | 0,p,m,q,hp,h2,h,he=>⟨hp,zad _,by omega,h,he⟩
 | f+1,p,m,q,hp,h2,h,he=>by
  have h1:1<=m:=by have:=he.1;omega
  refine⟨hp.lt (by omega),hp.lt (by omega),?_⟩
  have up:∀{t:KasT (Array Nat×Nat×Nat)},Way n (Um O k) t (λr=>Pm n r.1/\m+1<=r.2.1/\r.2.1<=n/\Dn k r.1 r.2.1/\Eqs (O:=O) k r.1 r.2.1 r.2.2)->Way n (Um O k) t (λr=>Pm n r.1/\m<=r.2.1/\r.2.1<=n/\Dn k r.1 r.2.1/\Eqs (O:=O) k r.1 r.2.1 r.2.2):=
   Way.mono λr ⟨a,b,c,d,e⟩=>⟨a,by omega,c,d,e⟩
  have one:∀{p':Array Nat},Eqs (O:=O) k p' (m+1) 0:=⟨by omega,λi a b=>by congr 1;omega⟩
  cases c:Um O k (p.getD m 0) (p.getD (m - 1) 0)with
  | true=>
   dsimp only;rw[if_pos rfl]
   have d1:=h.more h1 (KeyOrd.kle_of_klt c)
   split
   ·have e:=Il (by rw[hp.sz];omega) he
    exact up (Cq f (hp.of (mirror_perm _ _ _ _)) (by omega) (d1.like e) one)
   ·exact up (Cq f hp (by omega) d1 one)
  | false=>
   dsimp only;rw[if_neg xA]
   refine⟨hp.lt (by omega),hp.lt (by omega),?_⟩
   cases c':Um O k (p.getD (m - 1) 0) (p.getD m 0)with
   | true=>dsimp only;rw[if_pos rfl];exact⟨hp,zad _,show m<=n by omega,h,he⟩
   | false=>
    dsimp only;rw[if_neg xA]
    have eq:kk (O:=O) k p m=kk k p (m - 1):=O.total _ _ c c'
    refine up (Cq f hp (by omega) (h.more h1 c') ⟨by have:=he.1;omega,λi a b=> ?_⟩)
    rw[show m+1 - 1=m by omega]
    rcases Nat.lt_or_ge i m with z | z
    ·rw[eq];exact he.2 i (by omega) z
    ·congr 1;omega
abbrev Cnt(n:Nat)(k:Nat->O.α):Nat×Array Nat->Prop:=λr=>Pm n r.2/\1<=r.1/\r.1<=n/\Up (O:=O) k r.2 r.1
theorem Qj{p:Array Nat}{m:Nat}(hp:Pm n p)(h1:1<=m)(h2:m<=n)(h:Dn (O:=O) k p m):Way n (Um O k) (kas_tail3 m n p) (Cnt (O:=O) n k):=by
 have hq:Pm n (kas_rev p 0 m):=hp.of (mirror_perm _ _ _ _)
 have u:Up (O:=O) k (kas_rev p 0 m) m:=λi j a b=>by
  have hz:m<=p.size:=by rw[hp.sz];exact h2
  rw[Oe hz,Oe hz,if_pos ⟨by omega,by omega⟩,if_pos ⟨by omega,b⟩]
  exact h _ _ (by omega) (by omega)
 exact Way.bind (Way.mono (λr ⟨a,b,c,_⟩=>⟨hq,by omega,by omega,c⟩) (Mz hq (n - m) m h1 (by omega) u))
theorem Qk{p:Array Nat}{m:Nat}(hp:Pm n p)(h2:m+1<=n)(h:Dn (O:=O) k p (m+1)):Way n (Um O k) (kas_descPart m n p) (Cnt (O:=O) n k):=by
 refine Way.bind (Way.mono ?_ (Cq (n - (m+1)) (q:=0) hp (by omega) h ⟨by omega,λi a b=>by congr 1;omega⟩))
 rintro⟨p',m',q'⟩ ⟨a,b,c,d,e⟩
 dsimp only at a b c d e ⊢
 split
 ·exact Qj (a.of (mirror_perm _ _ _ _)) (by omega) c (d.like (Il (by rw[a.sz];exact c) e))
 ·exact Qj a (by omega) c d
theorem WW{p:Array Nat}(hp:Pm n p)(h1:1<=n):Way n (Um O k) (kas_count n p) (Cnt (O:=O) n k):=by
 refine Way.bind (Way.mono ?_ (Mz hp (n - 1) 1 (zad _) (by omega) Up.one))
 rintro m ⟨a,b,u,l⟩
 split
 ·exact⟨hp,a,by omega,u⟩
 ·rename_i ne
  have ne':m≠n:=λz=>ne (by simp[z])
  have lt:O.klt (kk k p m) (kk k p (m - 1)):=l.resolve_left (by omega)
  split
  ·refine⟨hp.lt (by omega),hp.lt (by omega),?_⟩
   cases c:Um O k (p.getD 0 0) (p.getD (m - 1) 0)with
   | true=>dsimp only;rw[if_pos rfl];exact⟨hp,a,by omega,u⟩
   | false=>
    dsimp only;rw[if_neg xA]
    have al:∀i,i<m->kk (O:=O) k p i=kk k p (m - 1):=λi hi=>O.total _ _ (KeyOrd.kle_trans (show O.kle (kk k p (m - 1)) (kk k p 0)from c) (u 0 i (by omega) hi)) (u i (m - 1) (by omega) (by omega))
    have eqs:Eqs (O:=O) k p m (m - 1):=⟨by omega,λi _ hi=>al i hi⟩
    have tn:=Il (by rw[hp.sz];omega) eqs
    rw[show m - (m - 1+1)=0 by omega]at tn
    have dn:Dn (O:=O) k p m:=λi j x y=>by rw[al i (by omega),al j y];exact O.irrefl _
    exact Qk (hp.of (mirror_perm _ _ _ _)) (by omega) ((dn.more a (KeyOrd.kle_of_klt lt)).like tn)
  ·obtain rfl:m=1:=by omega
   exact Qk hp (by omega) (Dn.more (m:=1) (λi j x y=>Up.one j i (by omega) (by omega)) (zad _) (KeyOrd.kle_of_klt lt))
theorem DP{p:Array Nat}{a:Nat}(hp:Pm n p)(ha:a<n)(u:Up (O:=O) k p a):∀(f l r:Nat),l<=r->r<=a->r - l<=f->(∀i,i<l->O.kle (kk k p i) (kk k p a))->(∀i,r<=i->i<a->O.klt (kk k p a) (kk k p i))->
  Way n (Um O k) (kas_place p a f l r) λz=>z<=a/\(∀i,i<z->O.kle (kk k p i) (kk k p a))/\∀i,z<=i->i<a->O.klt (kk k p a) (kk k p i)
 | 0,l,r,h1,h2,h3,lo,hi=>⟨by omega,lo,λi x y=>hi i (by omega) y⟩
 | f+1,l,r,h1,h2,h3,lo,hi=>by
  unfold kas_place
  split
  ·exact⟨by omega,lo,λi x y=>hi i (by omega) y⟩
  ·refine⟨hp.lt ha,hp.lt (by omega),?_⟩
   cases c:Um O k (p.getD a 0) (p.getD ((l+r) / 2) 0)with
   | true=>
    dsimp only;rw[if_pos rfl]
    exact DP hp ha u f l _ (by omega) (by omega) (by omega) lo λi x y=>KeyOrd.klt_of_klt_of_kle c (u _ i x y)
   | false=>
    dsimp only;rw[if_neg xA]
    exact DP hp ha u f _ r (by omega) h2 (by omega) (λi x=>KeyOrd.kle_trans (u i ((l+r) / 2) (by omega) (by omega)) c) hi
theorem Vk:∀(f:Nat) {p:Array Nat} {a:Nat},Pm n p->a+f=n->Up (O:=O) k p a->Way n (Um O k) (kas_bin f p a) λq=>Pm n q/\Up k q n
 | 0,p,a,hp,h,u=>⟨hp,by rw[<-h];exact u⟩
 | f+1,p,a,hp,h,u=>by
  refine Way.bind (Way.mono ?_ (DP hp (by omega) u a 0 a (by omega) (by omega) (by omega) (λi x=>by omega) (λi x y=>by omega)))
  rintro z ⟨hz,lo,hi⟩
  refine Vk f (hp.of (bubble_perm _ _ _)) (by omega) λi j x y=> ?_
  have hs:a<p.size:=by rw[hp.sz];omega
  rw[Wb hs (by omega),Wb hs (by omega),show a - (a - z)=z by omega]
  repeat' split
  all_goals first
   | exact O.irrefl _
   | exact lo _ (by omega)
   | exact KeyOrd.kle_of_klt (hi _ (by omega) (by omega))
   | exact u _ _ (by omega) (by omega)
   | (exfalso;omega)
theorem YJ(h1:1<=n):Way n (Um O k) (kas_sort n) λq=>Pm n q/\Up (O:=O) k q n:=by
 refine Way.bind (Way.mono ?_ (WW (p:=(List.range n).toArray) ⟨by simp,Array.Perm.refl _⟩ h1))
 rintro⟨m,p⟩ ⟨a,b,c,u⟩
 dsimp only at a b c u ⊢
 split
 ·have e:max m 1=m:=by omega
  rw[e]
  exact Vk _ a (by omega) u
 ·exact⟨a,by rw[show n=m by omega];exact u⟩
end
end L2
namespace L2
open PySem PySem.Spec PySem.W PyProof.Rows
theorem Bv:∀a:List Int,HT.lexLt a a=false
 | []=>rfl
 | x::xs=>by rw[HT.bB,if_pos rfl];exact Bv xs
theorem yH:∀a b:List Int,HT.lexLt a b=false->HT.lexLt b a=false->a=b
 | [],[],_,_=>rfl
 | [],_::_,h,_=>by cases h
 | _::_,[],_,h=>by cases h
 | x::xs,y::ys,h,h'=>by
  rw[HT.bB]at h h'
  by_cases e:x=y
  ·subst e
   rw[if_pos rfl]at h h'
   rw[yH xs ys h h']
  ·rw[if_neg e]at h
   rw[if_neg (Ne.symm e)]at h'
   have:=zak h
   have:=zak h'
   omega
theorem zM:∀a b c:List Int,HT.lexLt a c=true->HT.lexLt a b=true\/HT.lexLt b c=true
 | _,_,[],h=>by rename_i a b;cases a<;>cases h
 | [],[],_::_,_=> .inr rfl
 | [],_::_,_::_,_=> .inl rfl
 | _::_,[],_::_,_=> .inr rfl
 | x::xs,y::ys,z::zs,h=>by
  rw[HT.bB]at h
  rw[HT.bB,HT.bB]
  by_cases e:x=z
  ·subst e
   rw[if_pos rfl]at h
   by_cases f:x=y
   ·subst f
    rw[if_pos rfl,if_pos rfl]
    exact zM xs ys zs h
   ·rw[if_neg f,if_neg (Ne.symm f)]
    rcases Int.lt_or_gt_of_ne f with q | q
    ·exact .inl (zai q)
    ·exact .inr (zai q)
  ·rw[if_neg e]at h
   have hz:=zaj h
   by_cases f:x=y
   ·subst f
    right
    rw[if_neg e];exact h
   ·rw[if_neg f]
    rcases Int.lt_or_gt_of_ne f with q | q
    ·exact .inl (zai q)
    ·right
     rw[if_neg (by omega)]
     exact zai (by omega)
theorem Rm(a b c:List Int)(h:HT.lexLt a b=true)(h':HT.lexLt b c=true):HT.lexLt a c=true:=by
 rcases zM a c b h with q | q
 ·exact q
 ·rcases zM b a c h' with r | r
  ·have e:∀x y:List Int,HT.lexLt x y=true->HT.lexLt y x=true->False:=by
    intro x
    induction x with
    | nil=>intro y h1 h2;cases y<;>cases h2
    | cons u us ih=>
     intro y h1 h2
     cases y with
     | nil=>cases h1
     | cons v vs=>
      rw[HT.bB]at h1 h2
      by_cases z:u=v
      ·subst z
       rw[if_pos rfl]at h1 h2
       exact ih vs h1 h2
      ·rw[if_neg z]at h1
       rw[if_neg (Ne.symm z)]at h2
       have:=zaj h1
       have:=zaj h2
       omega
   exact(e a b h r).elim
  ·exact r
def aaQ:KeyOrd:=⟨List Int,HT.lexLt,Bv,Rm,zM,yH⟩
def Qs(s:Str):List Int:=s.cps.toList.map Int.ofNat++[-1]
def Kin(c d:List Int):Prop:=∀r r':List Int,HT.lexLt (c++r) (d++r')=if c=d then HT.lexLt r r' else HT.lexLt c d
theorem HS:∀{c d:List Int},c.length=d.length->Kin c d
 | [],[],_=>λr r'=>by rw[if_pos rfl];rfl
 | [],_::_,h=>by cases h
 | _::_,[],h=>by cases h
 | x::c,y::d,h=>λr r'=>by
  have ih:=HS (c:=c) (d:=d) (by simpa using h) r r'
  rw[List.cons_append,List.cons_append,HT.bB,HT.bB]
  by_cases e:x=y
  ·subst e
   rw[if_pos rfl,if_pos rfl,ih]
   by_cases q:c=d
   ·rw[if_pos q,if_pos (by rw[q])]
   ·rw[if_neg q,if_neg (λz=>q (by injection z))]
  ·rw[if_neg e,if_neg e,if_neg (λz=>e (by injection z))]
theorem HR:∀(a b:List Nat),Kin (a.map Int.ofNat++[-1]) (b.map Int.ofNat++[-1])/\HT.lexLt (a.map Int.ofNat++[-1]) (b.map Int.ofNat++[-1])=decide (a<b)/\(a.map Int.ofNat++[-1]=b.map Int.ofNat++[-1]->a=b)
 | [],[]=>⟨HS rfl,by simp[HT.lexLt],λ_=>rfl⟩
 | [],y::b=>by
  have e:(-1:Int)≠Int.ofNat y:=by simp
  have l:(-1:Int)<Int.ofNat y:=by simp;omega
  refine⟨λr r'=> ?_,?_,λh=> ?_⟩
  ·simp only[List.map_nil,List.nil_append,List.map_cons,List.cons_append]
   rw[HT.bB,HT.bB,if_neg e,if_neg e,if_neg (λz=>e (by injection z))]
  ·simp only[List.map_nil,List.nil_append,List.map_cons,List.cons_append]
   rw[HT.bB,if_neg e,zai l]
   simp
  ·simp only[List.map_nil,List.nil_append,List.map_cons,List.cons_append]at h
   exact absurd (by injection h) e
 | x::a,[]=>by
  have e:Int.ofNat x≠(-1:Int):=by simp
  have l:¬Int.ofNat x<(-1:Int):=by simp
  refine⟨λr r'=> ?_,?_,λh=> ?_⟩
  ·simp only[List.map_nil,List.nil_append,List.map_cons,List.cons_append]
   rw[HT.bB,HT.bB,if_neg e,if_neg e,if_neg (λz=>e (by injection z))]
  ·simp only[List.map_nil,List.nil_append,List.map_cons,List.cons_append]
   rw[HT.bB,if_neg e,zah l]
   simp
  ·simp only[List.map_nil,List.nil_append,List.map_cons,List.cons_append]at h
   exact absurd (by injection h) e
 | x::a,y::b=>by
  obtain⟨k,l,i⟩:=HR a b
  by_cases e:x=y
  ·subst e
   refine⟨λr r'=> ?_,?_,λh=> ?_⟩
   ·simp only[List.map_cons,List.cons_append]
    rw[HT.bB,HT.bB,if_pos rfl,if_pos rfl,k]
    by_cases q:a.map Int.ofNat++[-1]=b.map Int.ofNat++[-1]
    ·rw[if_pos q,if_pos (by rw[q])]
    ·rw[if_neg q,if_neg (λz=>q (by injection z))]
   ·simp only[List.map_cons,List.cons_append]
    rw[HT.bB,if_pos rfl,l]
    simp
   ·simp only[List.map_cons,List.cons_append]at h
    rw[i (by injection h)]
  ·have e':Int.ofNat x≠Int.ofNat y:=λz=>e (Int.ofNat.inj z)
   refine⟨λr r'=> ?_,?_,λh=> ?_⟩
   ·simp only[List.map_cons,List.cons_append]
    rw[HT.bB,HT.bB,if_neg e',if_neg e',if_neg (λz=>e' (by injection z))]
   ·simp only[List.map_cons,List.cons_append]
    rw[HT.bB,if_neg e']
    have:(Int.ofNat x<Int.ofNat y)↔x<y:=by simp
    simp[List.cons_lt_cons_iff,e]
   ·simp only[List.map_cons,List.cons_append]at h
    exact absurd (by injection h) e'
inductive Part (K:Frag) (H:Hp):V->List Int->Nat->Prop
 | int (i:Int):Part K H (.int i) [i] 0
 | str (x:Str):Part K H (.str x) (Qs x) 1
 | tup {a:Addr} {ns:List Int}:H a=some (.tup (ns.map V.int))->Part K H (.ref a) ns (ns.length+2)
theorem Part.kin{K:Frag}{H:Hp}{x y:V}{c d:List Int}{k:Nat}(h:Part K H x c k)(h':Part K H y d k):Kin c d:=by
 cases h with
 | int i=>cases h' with
  | int j=>exact HS rfl
 | str a=>cases h' with
  | str b=>exact(HR _ _).1
 | tup e=>
  generalize hk:_+2=k' at h'
  cases h' with
  | int j=>omega
  | str b=>omega
  | tup e'=>exact HS (by omega)
theorem RB:∀{a b:List Int},a.map (Sum.inl:Int->Key)=b.map Sum.inl->a=b
 | [],[],_=>rfl
 | [],_::_,h=>by cases h
 | _::_,[],h=>by cases h
 | x::a,y::b,h=>by
  rw[List.map_cons,List.map_cons]at h
  injection h with h1 h2
  rw[Sum.inl.inj h1,RB h2]
section
variable{X:Cx}{pins:List (Addr×Obj)}{σ:St}{H:Hp}{s:Shared}{A:Around}{E:Value->Shared->Prop}
theorem Rq{P:Program}{w:World}{h:Heap}{a:Addr}{ns:List Int}(ok:rE P w H h)(e:H a=some (.tup (ns.map V.int))):(tupleKind (cL P w)).is h (ns.map Sum.inl) a:=by
 refine yK ok ?_
 rw[e,List.map_map];rfl
theorem ac6{x y:V}{u v:Value}{c d:List Int}{k:Nat}{Q:Bool->Shared->Prop}(I:Inv X pins σ H s)(hu:A.units<cLine)(h:Part X.K H x c k)(h':Part X.K H y d k)(r:RelV x u)(r':RelV y v)(q:Q (decide (c=d)) s):
  wpAny (model X.prog X.w) A (eqBool u v) Q E s:=by
 cases h with
 | int i=>cases h' with
  | int j=>
   obtain⟨t,rfl⟩:=r
   obtain⟨t',rfl⟩:=r'
   refine wpAny_eqBool_int ?_
   have e:(i==j)=decide ([i]=[j]):=by
    by_cases z:i=j<;>simp[z]
   rw[e];exact q
 | str a=>cases h' with
  | str b=>
   obtain⟨t,rfl⟩:=r
   obtain⟨t',rfl⟩:=r'
   refine wpAny_eqBool_str ?_
   have e:decide (a=b)=decide (Qs a=Qs b):=by
    by_cases z:a=b
    ·simp[z]
    ·have:Qs a≠Qs b:=λq=>z (by
      have:=(HR _ _).2.2 q
      cases a;cases b;simp at this;rw[this])
     simp[z,this]
   rw[e];exact q
 | @tup a _ e=>
  generalize hk:_+2=k' at h'
  cases h' with
  | int j=>omega
  | str b=>omega
  | @tup b _ e'=>
   obtain rfl:u= .ref a:=r
   obtain rfl:v= .ref b:=r'
   refine wpAny_eqBool_tuple hu (Rq I.hok e) (Rq I.hok e') ?_
   have:(c.map (Sum.inl:Int->Key)=d.map Sum.inl)↔c=d:=⟨RB,λz=>by rw[z]⟩
   simp only[this];exact q
theorem VP{x y:V}{u v:Value}{c d:List Int}{k:Nat}{b:Bool}{Q:Bool->Shared->Prop}(I:Inv X pins σ H s)(hu:A.units<cLine)(h:Part X.K H x c k)(h':Part X.K H y d k)(r:RelV x u)(r':RelV y v)(hb:b=true->k<2)(q:Q (HT.lexLt c d) s):
  wpAny (model X.prog X.w) A (oneLt' b u v) Q E s:=by
 cases h with
 | int i=>cases h' with
  | int j=>
   obtain⟨t,rfl⟩:=r
   obtain⟨t',rfl⟩:=r'
   have e:HT.lexLt [i] [j]=decide (i<j):=by
    rw[HT.bB]
    by_cases z:i=j
    ·subst z;simp[HT.lexLt]
    ·rw[if_neg z]
   rw[e]at q
   cases b with
   | true=>exact oneLt_int q
   | false=>exact kat_one _ _ (lt_int q)
 | str a=>cases h' with
  | str z=>
   obtain⟨t,rfl⟩:=r
   obtain⟨t',rfl⟩:=r'
   have e:HT.lexLt (Qs a) (Qs z)=decide (a.cps.toList<z.cps.toList):=(HR _ _).2.1
   rw[e]at q
   cases b with
   | true=>exact oneLt_str q
   | false=>exact kat_one _ _ (lt_str q)
 | @tup a _ e=>
  generalize hk:_+2=k' at h' hb
  cases h' with
  | int j=>omega
  | str z=>omega
  | @tup z _ e'=>
   obtain rfl:u= .ref a:=r
   obtain rfl:v= .ref z:=r'
   cases b with
   | true=>have:=hb rfl;omega
   | false=>
    obtain⟨_,its,r1,p1⟩:=(show bQ X.prog X.w H s.heap a (.tup (c.map V.int))from I.hok a _ e)
    obtain⟨_,its2,r2,p2⟩:=(show bQ X.prog X.w H s.heap z (.tup (d.map V.int))from I.hok z _ e')
    exact kat_one _ _ (HT.JD p1 p2 (intsAre_of r1) (intsAre_of r2) hu q)
inductive Parts (K:Frag) (H:Hp):List V->List Int->List Nat->Prop
 | nil:Parts K H [] [] []
 | cons {x:V} {xs:List V} {c cs:List Int} {k:Nat} {ks:List Nat}:Part K H x c k->Parts K H xs cs ks->Parts K H (x::xs) (c++cs) (k::ks)
theorem V8{b:Bool}:∀{xs ys:List V} {us vs:List Value} {c d:List Int} {ks:List Nat} {i:Nat} {Q:Bool->Shared->Prop} {s:Shared},Inv X pins σ H s->A.units<cLine->Parts X.K H xs c ks->Parts X.K H ys d ks->Vals xs us->Vals ys vs->
  (b=true->i=0->∀k,ks[0]? = some k->k<2)->Q (HT.lexLt c d) s->KatLex X.prog X.w A b false Q (us.zip vs) i s
 | [],ys,us,vs,c,d,ks,i,Q,s,I,hu,h,h',r,r',hb,q=>by
  cases h
  cases h'
  cases r
  exact kat_nil q
 | x::xs,ys,us,vs,c,d,ks,i,Q,s,I,hu,h,h',r,r',hb,q=>by
  cases h with
  | @cons _ _ c1 c2 k1 k2 p ps=>
  cases h' with
  | @cons _ _ d1 d2 _ _ p' ps'=>
  cases r with
  | cons r0 rs=>
  cases r' with
  | cons r0' rs'=>
  rw[List.zip_cons_cons]
  refine kat_cons (ac6 I hu p p' r0 r0' ?_)
  have e:=p.kin p'
  cases z:decide (c1=d1)with
  | true=>
   have z':=zaj z
   rw[e,if_pos z']at q
   exact kat_yes (V8 I hu ps ps' rs rs' (λ_ h=>by omega) q)
  | false=>
   have z':=zak z
   rw[e,if_neg z']at q
   refine kat_no (VP I hu p p' r0 r0' ?_ q)
   intro hb'
   have:=Bool.and_eq_true_iff.mp hb'
   exact hb this.1 (by simpa using this.2) _ rfl
end
inductive K4 (K:Frag) (H:Hp):List V->List (List Int)->Prop
 | flat {ys:List V} {cs:List (List Int)} (k:Nat) (hk:k<2) (hl:cs.length=ys.length) (h:∀(i:Nat) (y:V) (c:List Int),ys[i]? = some y->cs[i]? = some c->Part K H y c k):K4 K H ys cs
 | rows {ys:List V} {cs:List (List Int)} (k:Nat) (ks:List Nat) (hl:cs.length=ys.length) (h:∀(i:Nat) (y:V) (c:List Int),ys[i]? = some y->cs[i]? = some c->∃a xs,y=V.ref a/\H a=some (.tup xs)/\Parts K H xs c (k::ks)):K4 K H ys cs
theorem K4.len{K:Frag}{H:Hp}{ys:List V}{cs:List (List Int)}(h:K4 K H ys cs):cs.length=ys.length:=by cases h<;>assumption
section
variable{X:Cx}{pins:List (Addr×Obj)}{σ:St}{H:Hp}{s:Shared}{A:Around}{E:Value->Shared->Prop}
theorem Inv.track{a:Addr}{o:HO}(I:Inv X pins σ H s)(fp:Ah X pins H a)(h0:X.s₀.heap.get? a=none)(new:bQ X.prog X.w (upd H a o) s.heap a o):Inv X pins σ (upd H a o) s where
 ok:=I.ok
 os:=I.os
 bare:=I.bare
 base:={
  keep:=I.base.keep
  slot:=I.base.slot
  free:=λb ob e n hx=>by rw[aG (by rintro rfl;rw[h0]at e;cases e)];exact I.base.free b ob e n hx
  there:=I.base.there
  tups:=λb xs e=>by
   have:=I.base.tups b xs e
   rw[aG (bA this fp.1)];exact this
  qX:=λb ob xs e=>by
   have:=I.base.qX b ob xs e
   rw[aG (bA this fp.1)];exact this
  sY:=λb ps e=>by
   obtain⟨ps',this⟩:=I.base.sY b ps e
   exact⟨ps',by rw[aG (bA this fp.1)];exact this⟩}
 loc:=I.loc
 cell:=I.cell
 free:=by rw[aG (Ne.symm fp.2.1)];exact I.free
 jl:=λx c e=>by rw[aG (fp.2.2.2.2.1 x c e)];exact I.jl x c e
 pin:=λp hp=>by
  obtain⟨a1,a2,a3⟩:=I.pin p hp
  exact⟨a1,by rw[aG (fp.2.2.2.2.2 p hp)];exact a2,a3⟩
 hok:=rE.track I.hok fp.1 new
 len:=I.len
theorem Ik{ys:List V}{vs:List Value}{i:Nat}(r:Vals ys vs)(hi:i<ys.length):∃y,ys[i]? = some y/\RelV y (vs.getD i Value.none):=by
 have e:ys[i]? = some ys[i]:=zae hi
 obtain⟨u,h1,h2⟩:=r.get e
 refine⟨_,e,?_⟩
 rw[List.getD_eq_getElem?_getD,h1]
 exact h2
def tyK(k:Nat):Value:=if k=0 then .type "int" else if k=1 then .type "str" else .type "tuple"
theorem Jr{M:Model}{y:V}{c:List Int}{k:Nat}{u:Value}(I:Inv X pins σ H s)(h:Part X.K H y c k)(r:RelV y u):Looks M s.heap (typeOf u) (tyK k):=by
 cases h with
 | int i=>obtain⟨t,rfl⟩:=r;exact Looks.now
 | str x=>obtain⟨t,rfl⟩:=r;exact Looks.now
 | @tup a _ e=>
  obtain rfl:u= .ref a:=r
  obtain⟨_,its,r1,o,ho,hc,n,hd⟩:=(show bQ X.prog X.w H s.heap a (.tup (c.map V.int))from I.hok a _ e)
  have:tyK (c.length+2)= .type "tuple" := by unfold tyK;rw[if_neg (by omega),if_neg (by omega)]
  rw[this,<-hc]
  exact show Looks M s.heap (typeOf (.ref a)) o.cls from(Looks.ld ho).andThen .now
theorem Vm:∀{ys:List V} {vs:List Value} {s:Shared},Inv X pins σ H s->Vals ys vs->(k:Nat)->(∀y∈ys,∃a xs c ks,y=V.ref a/\H a=some (.tup xs)/\Parts X.K H xs c (k::ks))->
  ∃fs,KatTups s.heap vs fs/\fs.length=ys.length/\∀M,∀v∈fs,Looks M s.heap (typeOf v) (tyK k)
 | [],_,s,I,.nil,k,_=>⟨[],KatTups.nil,rfl,λ_ v h=>by cases h⟩
 | y::ys,_,s,I,.cons r rs,k,h=>by
  obtain⟨fs,t,hl,hf⟩:=Vm I rs k λy hy=>h y (yT _ hy)
  obtain⟨a,xs,c,ks,rfl,ha,p⟩:=h y xB
  obtain⟨_,its,r1,o,ho,hc,n,hd⟩:=(show bQ X.prog X.w H s.heap a (.tup xs)from I.hok a _ ha)
  cases p with
  | @cons x xs' c1 c2 _ _ p ps=>
   cases r1 with
   | @cons _ u _ us r0 r0s=>
    cases(show _=Value.ref a from r)
    refine⟨u::fs,KatTups.cons ho hc hd (by simp) t,by simp[hl],λM v hv=> ?_⟩
    rcases List.mem_cons.mp hv with rfl | q
    ·exact Jr I p r0
    ·exact hf M v q
theorem Xh{ys:List V}{cs:List (List Int)}{vs:List Value}(h:K4 X.K H ys cs)(r:Vals ys vs)(h2:2<=ys.length):∃κ:SortKind,
  (∀{σ:St} {pins:List (Addr×Obj)} {s:Shared} {A:Around} {E:Value->Shared->Prop} {Q:SortKind->Shared->Prop},Inv X pins σ H s->Q κ s->wpAny (model X.prog X.w) A (keyKind' vs.toArray) Q E s)/\
  ∀{σ:St} {pins:List (Addr×Obj)} {s:Shared} {A:Around} {E:Value->Shared->Prop} {Q:Bool->Shared->Prop} (i j:Nat),A.units<cLine->i<ys.length->j<ys.length->Inv X pins σ H s->Q (HT.lexLt (cs.getD i []) (cs.getD j [])) s->
   wpAny (model X.prog X.w) A (keyLt' κ (vs.getD i Value.none) (vs.getD j Value.none)) Q E s:=by
 have el:=r.length
 cases h with
 | flat k hk hl h=>
  have hp:∀i,i<ys.length->∃y,ys[i]? = some y/\RelV y (vs.getD i Value.none)/\Part X.K H y (cs.getD i []) k:=λi hi=>by
   obtain⟨y,e,ry⟩:=Ik r hi
   have ec:cs[i]? = some (cs.getD i []):=by simp[hl,hi]
   exact⟨y,e,ry,h i y _ e ec⟩
  refine⟨oneType',λ{σ pins s A E Q} I q=> ?_,λ{σ pins s A E Q} i j hu hi hj I q=> ?_⟩
  ·refine kas_kind (T:=tyK k) (by omega) (λv hv=> ?_) ?_ ?_ q
   ·obtain⟨i,hi,rfl⟩:=List.mem_iff_getElem.mp hv
    obtain⟨y,e,ry,p⟩:=hp i (by omega)
    have:vs.getD i Value.none=vs[i]:=by simp[hi]
    rw[this]at ry
    exact Jr I p ry
   ·have:k=0\/k=1:=by omega
    rcases this with rfl | rfl<;>decide
   ·have:k=0\/k=1:=by omega
    rcases this with rfl | rfl<;>decide
  ·obtain⟨y,e,ry,p⟩:=hp i hi
   obtain⟨y',e',ry',p'⟩:=hp j hj
   rw[keyLt'_oneType]
   exact VP I hu p p' ry ry' (λ_=>hk) q
 | rows k ks hl h=>
  have hp:∀i,i<ys.length->∃a xs,ys[i]? = some (.ref a)/\vs.getD i Value.none= .ref a/\H a=some (.tup xs)/\Parts X.K H xs (cs.getD i []) (k::ks):=λi hi=>by
   obtain⟨y,e,ry⟩:=Ik r hi
   have ec:cs[i]? = some (cs.getD i []):=by simp[hl,hi]
   obtain⟨a,xs,rfl,ha,p⟩:=h i y _ e ec
   exact⟨a,xs,e,ry,ha,p⟩
  refine⟨tuples' (tyK k != Value.type "tuple"),λ{σ pins s A E Q} I q=> ?_,λ{σ pins s A E Q} i j hu hi hj I q=> ?_⟩
  ·obtain⟨fs,t,hf,lk⟩:=Vm I r k λy hy=>by
    obtain⟨i,hi,rfl⟩:=List.mem_iff_getElem.mp hy
    obtain⟨a,xs,e,_,ha,p⟩:=hp i hi
    rw[zae hi]at e
    exact⟨a,xs,_,ks,xI e,ha,p⟩
   refine kat_kind t (by omega) (λv hv=>lk _ v hv) ?_ q
   unfold tyK
   split
   ·decide
   ·split<;>decide
  ·obtain⟨a,xs,e,ev,ha,p⟩:=hp i hi
   obtain⟨a',xs',e',ev',ha',p'⟩:=hp j hj
   obtain⟨_,its,r1,o,ho,hc,n,hd⟩:=(show bQ X.prog X.w H s.heap a (.tup xs)from I.hok a _ ha)
   obtain⟨_,its',r1',o',ho',hc',n',hd'⟩:=(show bQ X.prog X.w H s.heap a' (.tup xs')from I.hok a' _ ha')
   rw[ev,ev']
   have lp:∀{xs:List V} {c:List Int} {ks:List Nat},Parts X.K H xs c ks->xs.length=ks.length:=λ{xs c ks} p=>by
    induction p with
    | nil=>rfl
    | cons _ _ ih=>simp[ih]
   have sz:decide (its.toArray.size<its'.toArray.size)=false:=by
    have:=r1.length
    have:=r1'.length
    have:=lp p
    have:=lp p'
    refine zah ?_
    simp only[List.size_toArray]
    omega
   refine kat_lt ho hd ho' hd' ?_
   rw[sz]
   refine V8 I hu p p' (by simpa using r1) (by simpa using r1') (λhb _ k' hk'=> ?_) q
   have:k'=k:=by simpa using hk'.symm
   subst this
   by_cases z:k'<2
   ·exact z
   ·exfalso
    have:tyK k'= .type "tuple" := by unfold tyK;rw[if_neg (by omega),if_neg (by omega)]
    rw[this]at hb
    exact absurd hb (by decide)
structure Order(n:Nat)(cs:List (List Int))(q:List Nat):Prop where
 pm:q.Perm (List.range n)
 up:∀i j,i<=j->j<n->HT.lexLt (cs.getD (q.getD j 0) []) (cs.getD (q.getD i 0) [])=false
theorem W8:∀{vs:List Value},vs.length<2->(vs.toArray.zip vs.toArray).map (·.2)=((List.range vs.length).map λi=>vs.getD i Value.none).toArray
 | [],_=>by simp
 | [_],_=>by simp
 | _::_::_,h=>absurd h (by simp)
theorem W7{l:Addr}{n:Nat}{vs:List Value}{ys:List V}{cs:List (List Int)}{P:PySem.Fin->Shared->Prop}(I:Inv X pins σ H s)(hu:A.units<cLine)(fp:Ah X pins H l)(ho:s.heap.get? l=some (seqObj "list" vs.toArray n))(r:Vals ys vs)(h64:ys.length<64)(rk:K4 X.K H ys cs)
  (h:∀(q:List Nat) (c:Nat) (s':Shared),Order ys.length cs q->s'.heap.get? l=some (seqObj "list" (q.map λi=>vs.getD i Value.none).toArray c)->Inv X pins σ H s'->P (.done (.ret .none)) s'):
  wpAny (model X.prog X.w) A (Builtin.«list.sort» ⟨[.ref l],[]⟩) P E s:=by
 have el:=r.length
 have hl:l<s.heap.objs.size:=zS ho
 have line:(64:Nat)<=sizeLine:=by decide
 obtain⟨e1,ho1⟩:∃e1,(s.heap.update l (Obj.mapSeq λ_=>(#[]:Array Value))).get? l=some (seqObj "list" #[] e1):=⟨_,get?_update_seq ho λ_=> #[]⟩
 have sb:=Heap.SameBut.update s.heap l (Obj.mapSeq λ_=>(#[]:Array Value))
 generalize hh:((s.heap.update l (Obj.mapSeq λ_=>(#[]:Array Value))).push (seqObj "tuple" vs.toArray 0)).push (seqObj "list" #[] 0)=h3
 have k3:∀b o,(s.heap.update l (Obj.mapSeq λ_=>(#[]:Array Value))).get? b=some o->h3.get? b=some o:=λb o e=>by
  rw[<-hh];exact zD _ (zD _ e)
 have ho3:h3.get? l=some (seqObj "list" #[] e1):=k3 _ _ ho1
 have I3:Inv X pins σ H {s with heap:=h3}:=I.turned (t':=s.toks) (it:=l) (λb o hb e=>k3 b o ((sb.2 b hb).trans e)) fp.1 fp.2.1 fp.2.2.2.1 fp.2.2.2.2.1 fp.2.2.2.2.2
 have fin:∀(s':Shared) (q:List Nat),Inv X pins σ H s'->s'.heap.get? l=some (seqObj "list" #[] e1)->Order ys.length cs q->q.length=ys.length->
   wpAny (model X.prog X.w) A (seqEpoch l) (λafter s''=>wpAny (model X.prog X.w) A (Builtin.List.listUpdate (.ref l) λ_=>(q.map λi=>vs.getD i Value.none).toArray) (λ_ s3=>after=e1/\P (.done (.ret .none)) s3) E s'') E s':=λs' q I' ho' od lq=>by
  refine seqEpoch_at ho' rfl ?_
  refine listUpdate_at ho' rfl ⟨rfl,?_⟩ (Nat.zero_le _) (by simp only[List.size_toArray,zar,lq];omega)
  obtain⟨c2,hc2⟩:∃c2,(s'.heap.update l (Obj.mapSeq λ_=>(q.map λi=>vs.getD i Value.none).toArray)).get? l=some (seqObj "list" (q.map λi=>vs.getD i Value.none).toArray c2):=⟨_,get?_update_seq ho' λ_=>_⟩
  have sb':=Heap.SameBut.update s'.heap l (Obj.mapSeq λ_=>(q.map λi=>vs.getD i Value.none).toArray)
  exact h q c2 _ od hc2 (I'.turned (t':=s'.toks) (it:=l) (λb o hb e=>(sb'.2 b hb).trans e) fp.1 fp.2.1 fp.2.2.2.1 fp.2.2.2.2.1 fp.2.2.2.2.2)
 rw[list_sort_plain]
 refine zC (listItems_at ho rfl (zC (listUpdate_at ho rfl (zC (seqEpoch_at ho1 rfl (zC (wpAny_newTuple (zC (wpAny_newList (wpAny_holding ?_) (Nat.zero_le _))) (by show vs.length<=_;omega))))) (by simp only[List.size_toArray];omega) (Nat.zero_le _))))
 show wpAny _ A _ P E {s with heap:=((s.heap.update l (Obj.mapSeq λ_=>(#[]:Array Value))).push (seqObj "tuple" vs.toArray 0)).push (seqObj "list" #[] 0)}
 rw[hh]
 dsimp only
 by_cases h2:vs.toArray.size<2
 ·rw[if_pos h2,if_pos h2]
  refine zC (zI ?_)
  rw[StateT.run_pure]
  refine zC (zI ?_)
  dsimp only
  have hs:vs.length<2:=by simpa using h2
  have od:Order ys.length cs (List.range ys.length):=⟨List.Perm.refl _,λi j a b=>by
   obtain rfl:i=j:=by omega
   exact Bv _⟩
  have out:(arrOf (SortSt.mk' general' (vs.toArray.zip vs.toArray) #[] 7 none)).map (·.2)=((List.range ys.length).map λi=>vs.getD i Value.none).toArray:=by
   have ea:arrOf (SortSt.mk' general' (vs.toArray.zip vs.toArray) #[] 7 none)=vs.toArray.zip vs.toArray:=rfl
   rw[ea,el]
   exact W8 hs
  rw[out]
  refine zC (vE (fin _ _ I3 ho3 od (by simp)) (λafter s'' hq=> ?_) λ_ _ z=>z)
  refine zC (vE hq (λ_ s3 hz=> ?_) λ_ _ z=>z)
  obtain⟨rfl,hz⟩:=hz
  simp only[bne_self_eq_false,Bool.false_eq_true,if_false]
  exact zI hz
 ·rw[if_neg h2,if_neg h2]
  have hs:2<=vs.length:=by simpa using h2
  obtain⟨κ,kind,ask⟩:=Xh rk r (by omega)
  have I4:Inv X ((l,seqObj "list" #[] e1)::pins) σ H {s with heap:=h3}:=I3.vO λp hp=>by
   rcases List.mem_cons.mp hp with rfl | hp
   ·exact⟨ho3,fp.1,fp.2.1,fp.2.2.1,λv z=>by cases z⟩
   ·exact I3.pin p (xE _ hp)
  refine zC (kind I3 ?_)
  have way:=YJ (n:=vs.length) (O:=aaQ) (k:=λi=>cs.getD i []) (by omega)
  have wp:=Way.wp (G:=λs'=>Inv X ((l,seqObj "list" #[] e1)::pins) σ H s') (cmp:=kas_ask X.prog X.w A κ vs)
   (R:=λp s'=>(Pm vs.length p/\Up (O:=aaQ) (λi=>cs.getD i []) p vs.length)/\Inv X ((l,seqObj "list" #[] e1)::pins) σ H s')
   (λi j hi hj C s' g hc=>ask i j hu (by omega) (by omega) g (hc s' g)) (λa s' h1 h2=>⟨h1,h2⟩) way I4
  refine zC (vE (kat_run (Q:=λst' s'=>∃p:Array Nat,arrOf st'=p.map (kas_item (vs.toArray.zip vs.toArray))/\failedOf st'=none/\(Pm vs.length p/\Up (O:=aaQ) (λi=>cs.getD i []) p vs.length)/\Inv X ((l,seqObj "list" #[] e1)::pins) σ H s')
   rfl hs (by omega) (λp st' s' _ a2 a3 a4=>⟨p,a2,a3,a4⟩) wp) ?_ λ_ _ e=>e)
  rintro⟨⟨⟩,st'⟩ s' ⟨p,har,hf,⟨pm,up⟩,I5⟩
  dsimp only
  rw[kat_snds rfl har]
  have ho5:=(I5.pin (l,seqObj "list" #[] e1) (xE _ xB)).1
  have I6:Inv X pins σ H s':=I5.vO λp hp=>I5.pin p (xE _ (yT _ hp))
  have od:Order ys.length cs p.toList:=by
   refine⟨?_,λi j a b=> ?_⟩
   ·have:=Array.perm_iff_toList_perm.mp pm.pm
    rw[el]
    simpa using this
   ·have:=up i j a (by omega)
    have g:∀i,p.toList.getD i 0=p.getD i 0:=λi=>by
     rw[Array.getD_eq_getD_getElem?,List.getD_eq_getElem?_getD,Array.getElem?_toList]
    rw[g,g]
    exact this
  refine zC (vE (fin s' p.toList I6 ho5 od (by rw[Array.length_toList,pm.sz,el])) (λafter s'' hq=> ?_) λ_ _ z=>z)
  refine zC (vE hq (λ_ s3 hz=> ?_) λ_ _ z=>z)
  obtain⟨rfl,hz⟩:=hz
  rw[hf]
  simp only[bne_self_eq_false,Bool.false_eq_true,if_false]
  exact zI hz
end
end L2
namespace L2
open PySem PySem.Spec PySem.W PySem.Calls PyProof.Rows
theorem QW(d:Addr):¬((Value.ref d==Value.none)=true):=λz=>xA z
def Hr(h:Heap)(d:Addr)(es:Array DictEntry)(ep:Nat):Prop:=∃o,h.get? d=some o/\o.ExactDict/\o.data= .dict es ep
theorem Hr.keep{h h':Heap}{d:Addr}{es:Array DictEntry}{ep:Nat}(x:Hr h d es ep)(k:∀o,h.get? d=some o->h'.get? d=some o):Hr h' d es ep:=
 let⟨o,a,b⟩:=x;⟨o,k o a,b⟩
noncomputable def itO(f0 f1:Value)(d:Addr)(i n ep:Nat)(ok ov:Value):Obj:=
 {cls:= .type "dict_itemiterator",dict:=none,data:= .fields #[f0,f1,.ref d,.int i 0,.int n 0,.int ep 0,ok,ov],slots:= #[]}
def Vc(h:Heap)(it d S:Addr)(i n ep:Nat):Prop:=∃f0 f1 ok ov,h.get? it=some (itO f0 f1 d i n ep ok ov)/\(f0= .none\/∃(a:Addr) (b:Bool) (oa:Obj),f0=rawInt a/\f1= .bool b/\h.get? a=some oa/\a≠it/\a≠S)
theorem Vc.keep{h h':Heap}{it d S:Addr}{i n ep:Nat}(x:Vc h it d S i n ep)(k:∀b o,b≠S->h.get? b=some o->h'.get? b=some o)(hS:it≠S):Vc h' it d S i n ep:=by
 obtain⟨f0,f1,ok,ov,e,z⟩:=x
 exact⟨f0,f1,ok,ov,k _ _ hS e,z.imp id λ⟨a,b,oa,q1,q2,q3,q4,q5⟩=>⟨a,b,oa,q1,q2,k _ _ q5 q3,q4,q5⟩⟩
section
variable{prog:Program}{w:World}{A:Around}{E:Value->Shared->Prop}{s:Shared}
theorem Uu{d:Addr}{es:Array DictEntry}{ep:Nat}{Q:Value->Shared->Prop}(hd:(d==sysModules)=false)(x:Hr s.heap d es ep)
  (h:Q (.ref s.heap.objs.size) {s with heap:=s.heap.push {cls:= .type "dict_items",data:= .fields #[.ref d]}}):wpAny (model prog w) A (call (.builtin "dict.items") [.ref d]) Q E s:=by
 obtain⟨o,ho,ex,_⟩:=x
 have ty:s.TypeIs (.ref d) "dict" := ⟨o,ho,ex.1⟩
 refine jS PySem.F.slot_dict_items ty PySem.F.entry_dict_items ?_ (PySem.F.args_dict_items_1 _)
 unfold Builtin.«dict.items» Builtin.Dict.noArgs
 refine zC (zC (wpAny_notOrdered_dict ty (show wpAny _ _ (pure d) _ _ s from zI ?_)))
 show wpAny _ _ (Builtin.Dict.showsAll d >>= _) _ _ s
 unfold Builtin.Dict.showsAll
 rw[if_neg (by rw[hd];decide)]
 exact zC (zI (zC (wT (zI ⟨_,rfl,h⟩))))
theorem Ut{v d:Addr}{es:Array DictEntry}{ep:Nat}{Q:Value->Shared->Prop}(hv:s.heap.IsItemsView v d)(x:Hr s.heap d es ep)
  (h:Q (.ref s.heap.objs.size) {s with heap:=s.heap.push (itO .none (.bool false) d 0 es.size ep .none .none)}):wpAny (model prog w) A (pyIter (.ref v)) Q E s:=by
 obtain⟨o1,g1,c1,d1⟩:=id hv
 obtain⟨o,ho,ex,hdat⟩:=x
 refine wpAny_pyIter_slot hv.typeIs PySem.F.slot_dict_items_iter (jS PySem.F.slot_dict_items_iter hv.typeIs PySem.F.entry_dict_items_iter ?_ (PySem.F.args_dict_items_iter_1 _))
 unfold Builtin.«dict_items.__iter__» Builtin.Dict_items.dictOf Builtin.Dict_items.newIterator
 refine zC (zI (zC (zC (vT g1 d1 (x:= .ref d) rfl (zI (zC (zC (wpAny_dictEntries ho hdat (zC (wpAny_dictEpoch ho hdat ?_))))))))))
 simp only[show Builtin.Dict_items.ownsTuple "dict_itemiterator" = true from by decide,if_true]
 refine wT (zI ⟨_,rfl,"dict_itemiterator",_,⟨_,yB _ rfl,rfl⟩,PySem.F.slot_dict_itemiterator_next.lookup,?_⟩)
  (by simp only[sizeOk,Builtin.Dict_items.ownedTupleFields,List.size_toArray,List.length_append,List.length_cons,List.length_nil,sizeLine_eq];omega)
 simpa[rawInt,itO,Builtin.Dict_items.ownedTupleFields]using h
theorem Us{it d S:Addr}{i ep:Nat}{es:Array DictEntry}{Q:Option Value->Shared->Prop}(g:Vc s.heap it d S i es.size ep)(x:Hr s.heap d es ep)(hS:S<s.heap.objs.size)(hi:i<es.size)
  (h:∀h':Heap,Vc h' it d S (i+1) es.size ep->h'.get? s.heap.objs.size=some {cls:= .type "tuple",data:= .seq #[es[i].key,es[i].val]}->h'.objs.size=s.heap.objs.size+1->
   (∀b o,b≠it->s.heap.get? b=some o->h'.get? b=some o)->Q (some (.ref s.heap.objs.size)) {s with heap:=h'}):wpAny (model prog w) A (pyNext (.ref it)) Q E s:=by
 obtain⟨f0,f1,ok,ov,e0,ff⟩:=g
 obtain⟨o,ho,ex,hdat⟩:=x
 obtain⟨hp,gs,dr,tk,os⟩:=s
 have ty:Shared.TypeIs ⟨hp,gs,dr,tk,os⟩ (.ref it) "dict_itemiterator" := ⟨_,e0,rfl⟩
 have own:Builtin.Dict_items.ownsTuple "dict_itemiterator" = true:=by decide
 have lt:it<hp.objs.size:=zS e0
 unfold pyNext
 refine zC (wpAny_attempt (zal (name:=Str.ofString "__next__") ty PySem.F.slot_dict_itemiterator_next (jS PySem.F.slot_dict_itemiterator_next ty PySem.F.entry_dict_itemiterator_next ?_ (PySem.F.args_dict_itemiterator_next_1 _))))
 refine zC (zI (zC (zC (zC (wpAny_typeNameOfWhole_itemiter ty (zI (zC (wpAny_fieldsOf e0 rfl ?_))))))))
 simp only[own,if_true]
 show wpAny _ _ (if(Value.ref d==Value.none)=true then _ else _) _ _ _
 rw[if_neg (QW d)]
 refine zC (zI (zC (wpAny_dictEntries ho hdat ?_)))
 rw[if_neg (by simp)]
 refine zC (zI (zC (wpAny_dictEpoch ho hdat ?_)))
 rw[if_neg (by simp)]
 refine zI ?_
 simp only[show ¬((i:Int)<0) by omega,if_false,zap,Array.getElem?_eq_getElem hi]
 refine zC (zC (wpAny_typeNameOfWhole_itemiter ty (zI (zC (wpAny_isOneOf_itemiter ty ?_)))))
 show wpAny _ _ (setField (.ref it) 3 (rawInt ((i:Int)+1)) >>= _) _ _ ⟨hp,gs,dr,tk,os⟩
 refine zC (vF e0 (by simp) λh1 e1 b1=> ?_)
 have e1':h1.get? it=some (itO f0 f1 d (i+1) es.size ep ok ov):=by
  have z:((i+1:Nat):Int)=(i:Int)+1:=by omega
  unfold itO
  rw[z]
  simpa[rawInt]using e1
 replace b1:Heap.SameBut it hp h1:=b1
 have ty1:Shared.TypeIs ⟨h1,gs,dr,tk,os⟩ (.ref it) "dict_itemiterator" := ⟨_,e1',rfl⟩
 refine zC (wpAny_holding (zC (wpAny_isOneOf_itemiter ty1 (zC (wpAny_isOneOf_itemiter ty1 ?_)))))
 show wpAny _ _ (Builtin.Dict_items.pairFromOwner (.ref it) 6 es[i].key es[i].val) _ _ ⟨h1,gs,dr,tk,os⟩
 have z1:h1.objs.size=hp.objs.size:=b1.1
 unfold Builtin.Dict_items.pairFromOwner
 refine zC (wpAny_newTuple ?_)
 generalize eh2:h1.push {cls:= .type "tuple",data:= .seq [es[i].key,es[i].val].toArray}=h2
 have e2:h2.get? it=some (itO f0 f1 d (i+1) es.size ep ok ov):=by rw[<-eh2];exact zD _ e1'
 have t2:h2.get? hp.objs.size=some {cls:= .type "tuple",data:= .seq #[es[i].key,es[i].val]}:=by rw[<-eh2,<-z1];exact yB _ rfl
 have z2:h2.objs.size=hp.objs.size+1:=by rw[<-eh2,Heap.size_push,z1]
 have k2:∀b o,b≠it->hp.get? b=some o->h2.get? b=some o:=λb o hb q=>by rw[<-eh2];exact zD _ (b1.extBut b o hb q)
 have done:∀h3:Heap,(∃f0 f1 ok ov,h3.get? it=some (itO f0 f1 d (i+1) es.size ep ok ov)/\(f0= .none\/∃(a:Addr) (b:Bool) (oa:Obj),f0=rawInt a/\f1= .bool b/\h3.get? a=some oa/\a≠it/\a≠S))->Heap.SameBut it h2 h3->Q (some (.ref hp.objs.size)) ⟨h3,gs,dr,tk,os⟩:=λh3 q1 q2=>
  h h3 q1 (q2.extBut _ _ (xS lt) t2) (by show h3.objs.size=hp.objs.size+1;rw[q2.1,z2]) λb o hb q=>q2.extBut b o hb (k2 b o hb q)
 show wpAny _ _ (Builtin.Dict_items.ownedTupleIsFree (.ref it) >>= _) _ _ ⟨h2,gs,dr,tk,os⟩
 rw[z1]
 unfold Builtin.Dict_items.ownedTupleIsFree
 rcases ff with rfl | ⟨a,b,oa,rfl,rfl,ha,hai,haS⟩
 ·refine zC (zC (vT e2 rfl (x:= .none) rfl (zI ?_)))
  simp only[if_true]
  refine zC (vT e2 rfl (x:=ok) rfl (zC (vT e2 rfl (x:=ov) rfl (zC (vF e2 (by simp) λh3 e3 b3=> ?_)))))
  replace b3:Heap.SameBut it h2 h3:=b3
  refine zC (vF e3 (by simp) λh4 e4 b4=>zC (vF e4 (by simp) λh5 e5 b5=>zC (vF e5 (by simp) λh6 e6 b6=> ?_)))
  replace b4:Heap.SameBut it h3 h4:=b4
  replace b5:Heap.SameBut it h4 h5:=b5
  replace b6:Heap.SameBut it h5 h6:=b6
  have sb:Heap.SameBut it h2 h6:=⟨by rw[b6.1,b5.1,b4.1,b3.1],λc hc=>(b6.2 c hc).trans ((b5.2 c hc).trans ((b4.2 c hc).trans (b3.2 c hc)))⟩
  refine zC (wpAny_letGo (zI (zI ⟨_,rfl,zI (done h6 ⟨_,_,_,_,e6,.inr ⟨hp.objs.size,false,_,rfl,rfl,sb.extBut _ _ (xS lt) t2,xS lt,xS hS⟩⟩ sb)⟩)))
 ·refine zC (zC (vT e2 rfl (x:=rawInt a) rfl ?_))
  show wpAny _ _ (loadIfAlive ((a:Int).toNat) >>= _) _ _ _
  rw[zap]
  have ha2:=k2 a oa hai ha
  refine zC (kdx_alive ha2 ?_)
  simp only[Option.isNone_some,Bool.false_eq_true,if_false]
  refine zC (vT e2 rfl (x:= .bool b) rfl ?_)
  cases b with
  | true=>
   rw[if_neg (by decide)]
   refine zI ?_
   simp only[Bool.false_eq_true,if_false]
   exact zI (zI ⟨_,rfl,zI (done h2 ⟨_,_,_,_,e2,.inr ⟨a,true,oa,rfl,rfl,ha2,hai,haS⟩⟩ (Heap.SameBut.refl _ _))⟩)
  | false=>
   rw[if_pos (by decide)]
   refine zC (vF e2 (by simp) λh3 e3 b3=>zI ?_)
   replace b3:Heap.SameBut it h2 h3:=b3
   simp only[Bool.false_eq_true,if_false]
   exact zI (zI ⟨_,rfl,zI (done h3 ⟨_,_,_,_,e3,.inr ⟨a,true,oa,rfl,rfl,b3.extBut _ _ hai ha2,hai,haS⟩⟩ b3)⟩)
theorem Ur{it d S:Addr}{i ep:Nat}{es:Array DictEntry}{Q:Option Value->Shared->Prop}(hh:A.handled=none)(g:Vc s.heap it d S i es.size ep)(x:Hr s.heap d es ep)(hi:es.size<=i)
  (h:∀h':Heap,Heap.ExtBut it s.heap h'->Q none {s with heap:=h'}):wpAny (model prog w) A (pyNext (.ref it)) Q E s:=by
 obtain⟨f0,f1,ok,ov,e0,_⟩:=g
 obtain⟨o,ho,ex,hdat⟩:=x
 have ty:s.TypeIs (.ref it) "dict_itemiterator" := ⟨_,e0,rfl⟩
 have own:Builtin.Dict_items.ownsTuple "dict_itemiterator" = true:=by decide
 unfold pyNext
 refine zC (wpAny_attempt (zal (name:=Str.ofString "__next__") ty PySem.F.slot_dict_itemiterator_next (jS PySem.F.slot_dict_itemiterator_next ty PySem.F.entry_dict_itemiterator_next ?_ (PySem.F.args_dict_itemiterator_next_1 _))))
 refine zC (zI (zC (zC (zC (wpAny_typeNameOfWhole_itemiter ty (zI (zC (wpAny_fieldsOf e0 rfl ?_))))))))
 simp only[own,if_true]
 show wpAny _ _ (if(Value.ref d==Value.none)=true then _ else _) _ _ s
 rw[if_neg (QW d)]
 refine zC (zI (zC (wpAny_dictEntries ho hdat ?_)))
 rw[if_neg (by simp)]
 refine zC (zI (zC (wpAny_dictEpoch ho hdat ?_)))
 rw[if_neg (by simp)]
 refine zI ?_
 simp only[show ¬((i:Int)<0) by omega,if_false,zap,Array.getElem?_eq_none hi]
 refine zC (zC (wpAny_typeNameOfWhole_itemiter ty (zI ?_)))
 show wpAny _ _ (setField (.ref it) 2 .none >>= _) _ _ s
 refine zC (wpAny_setField e0 rfl (by simp) ?_)
 show wpAny _ _ (newExc (.type "StopIteration") [] >>= _) _ _ _
 simp only[newExc,newTuple]
 refine zC (zC (wT (zC (m:=firstArgMember _ _) (wpAny_of_eq (a:=Value.none) (by first | rfl | (simp only[firstArgMember];rfl)) (wT ?_ (by size_fits)))) (by size_fits)))
 simp only[raiseNew]
 refine zC (wpAny_handled ?_)
 rw[show A.in1.handled=none from hh]
 refine zC (zI (wpAny_throw ?_))
 refine zC (wpAny_isInstance (T:= "StopIteration") (b:=true) ⟨_,yB _ rfl,rfl⟩ isSubtype_stop (zI ?_))
 exact h _ (((Heap.SameBut.update ..).extBut.push _).push _)
structure Prs(es:Array DictEntry)(lo:Addr)(h:Heap)(as:List Addr):Prop where
 lt:∀a∈as,lo<a/\a<h.objs.size
 up:as.Pairwise (· < ·)
 ix:∀(j:Nat) (a:Addr),as[j]? = some a->∃e,es[j]? = some e/\h.get? a=some {cls:= .type "tuple",data:= .seq #[e.key,e.val]}
theorem JT{S I d:Addr}{es:Array DictEntry}{ep:Nat}{R:Result->Shared->Prop}(hh:A.handled=none)(hSI:S<I)(hSd:d≠S)(hId:d≠I)(hn:es.size<=sizeLine)(res:Value){h0:Heap}
  (hR:∀h' tk (acc:Array Value) c as,(∀b o,b≠S->b≠I->h0.get? b=some o->h'.get? b=some o)->h'.get? S=some {cls:= .type "list",data:= .seq acc c}->as.length=es.size->Prs es I h' as->acc.toList=as.map Value.ref->R (.ok (.ret res)) {s with heap:=h',toks:=tk}):
  ∀(k i:Nat) (h:Heap) (tk c:Nat) (acc:Array Value) (as:List Addr),es.size=i+k->Vc h I d S i es.size ep->Hr h d es ep->(∀b o,b≠S->b≠I->h0.get? b=some o->h.get? b=some o)->h.get? S=some {cls:= .type "list",data:= .seq acc c}->
   acc.toList=as.map Value.ref->as.length=i->Prs es I h as->codeAny (model prog w) A (.builtin "list.extend.loop" ⟨[.ref S,.ref I,res],[]⟩) R {s with heap:=h,toks:=tk}
 | 0,i,h,tk,c,acc,as,hk,g,x,kp,hS,ha,hl,pr=>by
  refine codeAny_builtin PySem.F.entry_extend_loop ?_
  rw[Around.under_plainId PySem.F.plain_extend_loop _]
  show wpAny _ A.in1 (pyNext (.ref I) >>= _) _ _ _
  refine zC (Ur (s:={s with heap:=h,toks:=tk}) (A:=A.in1) hh g x (by omega) λh' he=>zI ?_)
  refine hR h' tk acc c as (λb o q1 q2 e=>he b o q2 (kp b o q1 q2 e)) (he S _ (xD hSI) hS) (by omega) ⟨λa m=>⟨(pr.lt a m).1,?_⟩,pr.up,λj a m=> ?_⟩ ha
  ·obtain⟨j,m'⟩:=List.mem_iff_getElem?.mp m
   obtain⟨e,_,q⟩:=pr.ix j a m'
   exact zS (he a _ (xS (pr.lt a m).1) q)
  ·obtain⟨e,q1,q2⟩:=pr.ix j a m
   exact⟨e,q1,he a _ (xS (pr.lt a (zab m)).1) q2⟩
 | k+1,i,h,tk,c,acc,as,hk,g,x,kp,hS,ha,hl,pr=>by
  have hi:i<es.size:=by omega
  have ne:S≠I:=xD hSI
  have sl:S<h.objs.size:=zS hS
  have il:I<h.objs.size:=let⟨_,_,_,_,e,_⟩:=g;zS e
  have za:acc.size=i:=by rw[<-Array.length_toList,ha,zar,hl]
  refine codeAny_builtin PySem.F.entry_extend_loop ?_
  rw[Around.under_plainId PySem.F.plain_extend_loop _]
  show wpAny _ A.in1 (pyNext (.ref I) >>= _) _ _ _
  refine zC (Us (s:={s with heap:=h,toks:=tk}) g x sl hi λh' g' ht hz kp'=> ?_)
  dsimp only at ht hz kp' ⊢
  have hS':=kp' S _ ne hS
  generalize eu:h'.update S (Obj.mapSeq (·.push (Value.ref h.objs.size)))=h2
  have up:∀b o,b≠S->h'.get? b=some o->h2.get? b=some o:=λb o hb e=>by rw[<-eu];exact(xL _ _ (Ne.symm hb)).trans e
  have ht2:=up _ _ (xS sl) ht
  show wpAny _ A.in1 (updateSeq S (·.push (Value.ref h.objs.size)) >>= _) _ _ _
  refine zC (wpAny_updateSeq hS' rfl (zI ⟨plainId_quiet PySem.F.plain_extend_loop _,?_⟩) (by rw[za];omega) (by show(acc.push _).size<=_;rw[Array.size_push,za];omega))
  rw[eu]
  refine JT hh hSI hSd hId hn res hR k (i+1) h2 tk _ (acc.push (.ref h.objs.size)) (as++[h.objs.size]) (by omega) (g'.keep up (Ne.symm ne)) (x.keep λo e=>up d o hSd (kp' d o hId e))
   (λb o q1 q2 e=>up b o q1 (kp' b o q2 (kp b o q1 q2 e))) (by rw[<-eu];exact vS _ hS' rfl) (by rw[Array.toList_push,ha,List.map_append];rfl) (by rw[List.length_append,hl];rfl) ⟨λa m=> ?_,?_,λj a m=> ?_⟩
  ·rcases List.mem_append.mp m with m | m
   ·have:=pr.lt a m
    have l2:=zS ht2
    exact⟨this.1,Nat.lt_trans this.2 l2⟩
   ·rw[List.mem_singleton.mp m]
    exact⟨il,zS ht2⟩
  ·refine List.pairwise_append.mpr ⟨pr.up,List.pairwise_singleton _ _,λa m b m'=> ?_⟩
   rw[List.mem_singleton.mp m']
   exact(pr.lt a m).2
  ·rcases Nat.lt_or_ge j as.length with q | q
   ·rw[zag q]at m
    obtain⟨e,q1,q2⟩:=pr.ix j a m
    have:=(pr.lt a (zab m)).1
    exact⟨e,q1,up a _ (xS (Nat.lt_trans hSI this)) (kp' a _ (xS this) q2)⟩
   ·rw[zaf q]at m
    have j0:j=i:=by
     have:=(List.getElem?_eq_some_iff.mp m).1
     simp at this
     omega
    subst j0
    have:h.objs.size=a:=by rw[hl]at m;simpa using m
    subst this
    exact⟨es[j],Array.getElem?_eq_getElem hi,ht2⟩
theorem Om{r d S:Addr}{es:Array DictEntry}{ep:Nat}{R:Result->Shared->Prop}(hh:A.handled=none)(hv:s.heap.IsItemsView r d)(x:Hr s.heap d es ep)(hSr:S≠r)(hSd:d≠S)(res:Value)(c0:Nat)(hS:s.heap.get? S=some {cls:= .type "list",data:= .seq #[] c0})(hn:es.size<=sizeLine)
  (hR:∀h' tk (acc:Array Value) c as,(∀b o,b≠S->s.heap.get? b=some o->h'.get? b=some o)->h'.get? S=some {cls:= .type "list",data:= .seq acc c}->as.length=es.size->Prs es s.heap.objs.size h' as->acc.toList=as.map Value.ref->R (.ok (.ret res)) {s with heap:=h',toks:=tk}):
  wpAny (model prog w) A.in1 (Builtin.List.listExtendWith (.ref S) (.ref r) res) (λfin s'=>match fin with | .done f=>R (.ok f) s' | .again c'=>c'.quiet=true/\codeAny (model prog w) A c' R s') (λe s'=>R (.error e) s') s:=by
 have sl:S<s.heap.objs.size:=zS hS
 have dl:d<s.heap.objs.size:=let⟨_,e,_⟩:=x;zS e
 have go:∀(h:Heap) (c1 tk:Nat),(∀b o,b≠S->(s.heap.push (itO .none (.bool false) d 0 es.size ep .none .none)).get? b=some o->h.get? b=some o)->h.get? S=some {cls:= .type "list",data:= .seq #[] c1}->
   codeAny (model prog w) A (.builtin "list.extend.loop" ⟨[.ref S,.ref s.heap.objs.size,res],[]⟩) R {s with heap:=h,toks:=tk}:=λh c1 tk kp h1=>
  JT (s:=s) (h0:=s.heap) hh sl hSd (xD dl) hn res (λh' tk' acc c as k'=>hR h' tk' acc c as λb o hb e=>k' b o hb (xD (zS e)) e) es.size 0 h tk c1 #[] [] (by omega)
   ⟨_,_,_,_,kp _ _ (xS sl) (yB _ rfl),.inl rfl⟩ (x.keep λo e=>kp d o hSd (zD _ e)) (λb o hb _ e=>kp b o hb (zD _ e)) h1 rfl rfl ⟨(λa m=>nomatch m),List.Pairwise.nil,(λj a m=>by simp at m)⟩
 unfold Builtin.List.listExtendWith
 refine zC (wpAny_typeOf (T:= "dict_items") hv.typeIs ?_)
 simp only[show Builtin.List.listSameRef (.ref S) (.ref r)=false by simp[Builtin.List.listSameRef,hSr],show(Value.type "dict_items" == Value.type "list")=false by decide,show(Value.type "dict_items" == Value.type "tuple")=false by decide,Bool.or_false,Bool.false_eq_true,if_false]
 refine zC (Ut hv x (zC (wpAny_holding (kdx_hint (let⟨o,ho,hc,_⟩:=hv;⟨o,zD _ ho,hc⟩) ?_))))
 have h1:=zD (itO .none (.bool false) d 0 es.size ep .none .none) hS
 refine wpAny_ite_split (λ_=> ?_) (λ_=>zI ⟨plainId_quiet PySem.F.plain_extend_loop _,go _ c0 _ (λb o _ e=>e) h1⟩)
 refine zC (wpAny_rule (zC ?_))
 show wpAny _ _ (updateSeq S (·.push .none) >>= λ_=>updateSeq S (·.pop)) _ _ _
 have h2:=vS (Obj.mapSeq (·.push Value.none)) h1 rfl
 have h3:=vS (Obj.mapSeq (·.pop)) h2 rfl
 refine zC (wpAny_updateSeq h1 rfl (wpAny_updateSeq (hz:=by seq_fits) h2 rfl (zI ⟨plainId_quiet PySem.F.plain_extend_loop _,go _ _ _ (λb o hb e=> ?_) h3⟩)))
 exact(xL _ _ (Ne.symm hb)).trans ((xL _ _ (Ne.symm hb)).trans e)
theorem K3{r d:Addr}{es:Array DictEntry}{ep:Nat}{R:List Value->Shared->Prop}(hh:A.handled=none)(hv:s.heap.IsItemsView r d)(x:Hr s.heap d es ep)(hn:es.size<=sizeLine)
  (h:∀(h':Heap) (tk:Nat) (as:List Addr),(∀b o,s.heap.get? b=some o->h'.get? b=some o)->as.length=es.size->Prs es s.heap.objs.size h' as->R (as.map Value.ref) {s with heap:=h',toks:=tk}):
  wpAny (model prog w) A (collect (.ref r)) R E s:=by
 have rl:r<s.heap.objs.size:=let⟨_,e,_⟩:=hv;zS e
 have dl:d<s.heap.objs.size:=let⟨_,e,_⟩:=x;zS e
 have hS:(s.heap.push {cls:= .type "list",data:= .seq ([]:List Value).toArray}).get? s.heap.objs.size=some {cls:= .type "list",data:= .seq #[]}:=yB _ rfl
 unfold collect
 refine zC (wpAny_runValue (codeAny_builtin entry_proto_collect' ?_))
 rw[Around.under_plainId PySem.F.plain_proto_collect _]
 show wpAny _ A.in1 (newList [] >>= λl=>again (.builtin "list.__iadd__" ⟨[l,.ref r],[]⟩)) _ _ s
 refine zC (wT (zI ⟨plainId_quiet PySem.F.plain_list_iadd _,codeAny_builtin entry_list_iadd' ?_⟩))
 rw[Around.under_plainId PySem.F.plain_list_iadd _]
 show wpAny _ A.in1 (Builtin.List.listExtendWith (.ref s.heap.objs.size) (.ref r) (.ref s.heap.objs.size)) _ _ _
 have key:=Om (prog:=prog) (w:=w) (A:=A) (s:={s with heap:=s.heap.push {cls:= .type "list",data:= .seq ([]:List Value).toArray}}) (es:=es) (ep:=ep) (S:=s.heap.objs.size)
  (R:=λq s'=>∃(h':Heap) (tk:Nat) (acc:Array Value) (c:Nat) (as:List Addr),q= .ok (.ret (.ref s.heap.objs.size))/\s'={s with heap:=h',toks:=tk}/\(∀b o,s.heap.get? b=some o->h'.get? b=some o)/\
   h'.get? s.heap.objs.size=some {cls:= .type "list",data:= .seq acc c}/\as.length=es.size/\Prs es s.heap.objs.size h' as/\acc.toList=as.map Value.ref)
  hh (let⟨o,ho,y⟩:=hv;⟨o,zD _ ho,y⟩) (x.keep λo e=>zD _ e) (xS rl) (xD dl) (.ref s.heap.objs.size) 0 hS hn
  λh' tk acc c as k1 k2 k3 k4 k5=>⟨h',tk,acc,c,as,rfl,rfl,λb o e=>k1 b o (xD (zS e)) (zD _ e),k2,k3,
   ⟨λa m=>⟨by have:=(k4.lt a m).1;rw[Heap.size_push]at this;exact Nat.lt_of_succ_lt this,(k4.lt a m).2⟩,k4.up,k4.ix⟩,k5⟩
 have out:∀{s':Shared} {q:Result},(∃(h':Heap) (tk:Nat) (acc:Array Value) (c:Nat) (as:List Addr),q= .ok (.ret (.ref s.heap.objs.size))/\s'={s with heap:=h',toks:=tk}/\(∀b o,s.heap.get? b=some o->h'.get? b=some o)/\
   h'.get? s.heap.objs.size=some {cls:= .type "list",data:= .seq acc c}/\as.length=es.size/\Prs es s.heap.objs.size h' as/\acc.toList=as.map Value.ref)->∃as:List Addr,q= .ok (.ret (.ref s.heap.objs.size))/\(∃o acc c,s'.heap.get? s.heap.objs.size=some o/\o.data= .seq acc c/\acc.toList=as.map Value.ref)/\R (as.map Value.ref) s':=by
  rintro s' q ⟨h',tk,acc,c,as,rfl,rfl,k1,k2,k3,k4,k5⟩
  exact⟨as,rfl,⟨_,acc,c,k2,rfl,k5⟩,h h' tk as k1 k3 k4⟩
 refine vE key (λfin s' y=> ?_) λe s' y=> ?_
 ·cases fin with
  | done f=>
   obtain⟨as,e,⟨o,acc,c,ho,hd,ha⟩,q⟩:=out y
   cases e
   show wpAny _ A (load s.heap.objs.size >>= _) _ _ _
   refine zC (wpAny_load ho ?_)
   rw[hd]
   refine zI ?_
   show R acc.toList _
   rw[ha];exact q
  | again c1=>
   refine⟨y.1,codeAny_mono y.2 λq s2 z=> ?_⟩
   obtain⟨as,rfl,⟨o,acc,c,ho,hd,ha⟩,q⟩:=out z
   show wpAny _ A (load s.heap.objs.size >>= _) _ _ _
   refine zC (wpAny_load ho ?_)
   rw[hd]
   refine zI ?_
   show R acc.toList _
   rw[ha];exact q
 ·obtain⟨as,e,_⟩:=out y
  cases e
end
section
variable{X:Cx}{pins:List (Addr×Obj)}{σ:St}{H:Hp}{s:Shared}{A:Around}{E:Value->Shared->Prop}
def Q6(ys:List V)(q:List Nat):List V:=q.map λi=>ys.getD i .non
theorem YK{ys:List V}{vs:List Value}{q:List Nat}(r:Vals ys vs)(hq:∀i∈q,i<ys.length):Vals (Q6 ys q) (q.map λi=>vs.getD i Value.none):=by
 induction q with
 | nil=>exact .nil
 | cons i q ih=>
  refine .cons ?_ (ih λj hj=>hq j (yT _ hj))
  obtain⟨y,e,ry⟩:=Ik r (hq i xB)
  show RelV (ys.getD i .non) _
  rw[List.getD_eq_getElem?_getD,e]
  exact ry
theorem Order.lt{n:Nat}{cs:List (List Int)}{q:List Nat}(h:Order n cs q):∀i∈q,i<n:=λi hi=>by
 have:=(h.pm.mem_iff (a:=i)).mp hi
 simpa using this
theorem xP{u:Value}{Q:VK}(hu:A.units+2<cLine)
  (col:wpAny (model X.prog X.w) A.in1 (collect u) (λvs s1=>∃ys cs H1,Inv X pins σ H1 s1/\Vals ys vs/\ys.length<64/\K4 X.K H1 ys cs/\∀q l,Order ys.length cs q->H1 l=none->Q (.ref l) (upd H1 l (.lst (Q6 ys q)))) E s):
  wpAny (model X.prog X.w) A (call (.builtin "sorted") [u]) (EP X pins σ Q) E s:=by
 refine Calls.call_function_entry kind_sorted plain_sorted entry_sorted (args_sorted1 _) ?_
 unfold Builtin.«sorted»
 refine zC (m:=checkCount "sorted" 1 1 _) (zI (zC (vE col (λvs s1 hq=> ?_) λ_ _ z=>z)))
 obtain⟨ys,cs,H1,I1,r,h64,rk,q1⟩:=hq
 have line:(64:Nat)<=sizeLine:=by decide
 have el:=r.length
 refine zC (wpAny_newList ?_ (by omega))
 have ho:(s1.heap.push {cls:= .type "list",data:= .seq vs.toArray}).get? s1.heap.objs.size=some (seqObj "list" vs.toArray 0):=yB _ rfl
 have I2:Inv X pins σ H1 {s1 with heap:=s1.heap.push {cls:= .type "list",data:= .seq vs.toArray}}:=I1.kept (t':=s1.toks) λb o e=>zD _ e
 have fp:=I1.UG (zad _) (I1.hok.fresh (zad _))
 refine zC (wpAny_holding (jS slot_list_sort ⟨_,ho,rfl⟩ entry_list_sort (W7 I2 ?_ fp ho r h64 rk λq c s' od e I3=> ?_) (args_list_sort _)))
 ·have e:A.in1.in1.units<=A.units+2:=by first | exact zad _ | (simp only[Around.in1];omega)
  exact Nat.lt_of_le_of_lt e hu
 ·refine⟨_,rfl,zI ⟨_,rfl,.ref s1.heap.objs.size,_,I3.track (o:= .lst (Q6 ys q)) fp (Heap.get?_none_of_le I1.sz) ⟨?_,_,c,YK r od.lt,e⟩,rfl,q1 q _ od fp.1⟩⟩
  have:=od.pm.length_eq
  simp only[Q6,zar]
  simp at this
  omega
def acH(K:Frag):List V->Hp->VK->Prop:=λxs H Q=>∃p ys cs,xs=[.ref p]/\pO K H p ys/\ys.length<64/\K4 K H ys cs/\∀q l,Order ys.length cs q->H l=none->Q (.ref l) (upd H l (.lst (Q6 ys q)))
theorem R5(hu:X.A.units+2<cLine):j4 X (.builtin "sorted") (acH X.K):=by
 intro pins s σ H xs us Q I r h
 obtain⟨p,ys,cs,rfl,hl,h64,rk,q⟩:=h
 obtain⟨u,rfl,rx⟩:=vals1 r
 cases rx
 obtain⟨its,r',pl,hz⟩:=I.list hl
 refine xP hu (collect_list pl.isList ⟨ys,cs,H,?_,r',h64,rk,q⟩ (by have:=r'.length;omega))
 refine I.kept (t':=s.toks) λb o e=> ?_
 have lt:b<s.heap.objs.size:=zS e
 exact(xL _ _ (xS lt)).trans (zD _ e)
def Fx(v d:Addr):HO:= .ext λh=>h.IsItemsView v d
def afr:V->List V->Hp->VK->Prop:=λx us H Q=>∃d,x= .ref d/\us=[]/\IsD H d/\∀v,H v=none->Q (.ref v) (upd H v (Fx v d))
def ahc(H:Hp)(d:Addr)(ps:List (V×V)):Prop:=(∃kvs,H d=some (.dK kvs)/\ps=kvs.map λp=>(kV p.1,p.2))\/
 ∃kvs:List (List Key×V),H d=some (.dT kvs)/\Paired (λ(p:List Key×V) (q:V×V)=>∃b,q.1= .ref b/\H b=some (.tup (p.1.map kV))/\q.2=p.2) kvs ps
theorem aaU{P:Program}{w:World}{k:Key}{u:Value}(h:(cL P w).is k u=true):RelV (kV k) u:=by
 rcases eE (show JP k u=true from h)with⟨i,t,rfl,rfl⟩ | ⟨x,t,rfl,rfl⟩
 ·exact⟨t,rfl⟩
 ·exact⟨t,rfl⟩
theorem adM(I:Inv X pins σ H s){d:Addr}(h:(∃kvs,H d=some (.dK kvs))\/∃kvs,H d=some (.dT kvs)):∃es ep ps,Hr s.heap d es ep/\ahc H d ps/\es.size<=sizeLine/\Paired (λ(p:V×V) (e:DictEntry)=>RelV p.1 e.key/\RelV p.2 e.val) ps es.toList:=by
 rcases h with⟨kvs,e⟩ | ⟨kvs,e⟩
 ·obtain⟨z,_,vs,r,o,es,ep,ho,ex,hd,_,pr,_⟩:=(show bQ X.prog X.w H s.heap d (.dK kvs)from I.hok d _ e)
  have pz:∀{es:List DictEntry} {vs:List (Key×Value)} {kvs:List (Key×V)},Pairs (cL X.prog X.w) es vs->KV kvs vs->Paired (λ(p:V×V) (e:DictEntry)=>RelV p.1 e.key/\RelV p.2 e.val) (kvs.map λp=>(kV p.1,p.2)) es:=by
   intro es vs kvs a b
   induction a generalizing kvs with
   | nil=>cases b;exact .nil
   | cons h1 h2 _ ih=>
    cases b with
    | cons q qs=>
     refine .cons ⟨?_,?_⟩ (ih qs)
     ·have:=aaU h1;rw[<-q.1]at this;exact this
     ·rw[h2];exact q.2
  have pp:=pz pr r
  refine⟨es,ep,_,⟨o,ho,ex,hd⟩,.inl ⟨kvs,e,rfl⟩,?_,pp⟩
  have h1:=pp.length
  have h2:es.toList.length=es.size:=Array.length_toList
  rw[zar]at h1
  omega
 ·obtain⟨z,_,xs,r,o,es,ep,ho,ex,hd,he,_⟩:=(show bQ X.prog X.w H s.heap d (.dT kvs)from I.hok d _ e)
  have pz:∀{kvs:List (List Key×V)} {xs:List (List Key×Addr×Value)},Paired (λ(p:List Key×V) (q:List Key×Addr×Value)=>p.1=q.1/\H q.2.1=some (.tup (p.1.map kV))/\RelV p.2 q.2.2) kvs xs->
    ∃ps:List (V×V),Paired (λ(p:List Key×V) (q:V×V)=>∃b,q.1= .ref b/\H b=some (.tup (p.1.map kV))/\q.2=p.2) kvs ps/\Paired (λ(p:V×V) (e:DictEntry)=>RelV p.1 e.key/\RelV p.2 e.val) ps (xs.map (entryOfKey (tupleKind (cL X.prog X.w)))):=by
   intro kvs xs a
   induction a with
   | nil=>exact⟨[],.nil,.nil⟩
   | @cons p q _ _ h _ ih=>
    obtain⟨ps,i1,i2⟩:=ih
    exact⟨(.ref q.2.1,p.2)::ps,.cons ⟨q.2.1,rfl,h.2.1,rfl⟩ i1,.cons ⟨rfl,h.2.2⟩ i2⟩
  obtain⟨ps,p1,p2⟩:=pz r
  rw[<-he]at p2
  refine⟨es,ep,ps,⟨o,ho,ex,hd⟩,.inr ⟨kvs,e,p1⟩,?_,p2⟩
  have h0:=p1.length
  have h1:=p2.length
  have h2:es.toList.length=es.size:=Array.length_toList
  omega
theorem aaB:MtR X "dict.items" afr:=by
 intro pins s σ H x xs v us Q I rx rs h
 obtain⟨d,rfl,rfl,dd,q⟩:=h
 cases rs
 obtain rfl:v= .ref d:=rx
 have ty:=Uv I dd
 have dd':(∃kvs,Rd H d (.dK kvs))\/∃kvs,Rd H d (.dT kvs):=dd
 have ents:∃es ep,Hr s.heap d es ep:=by
  rcases dd' with⟨kvs,e⟩ | ⟨kvs,e⟩
  ·obtain⟨_,_,_,_,o,es,ep,ho,ex,hd,_⟩:=e.ok I.hok
   exact⟨es,ep,o,ho,ex,hd⟩
  ·obtain⟨_,_,_,_,o,es,ep,ho,ex,hd,_⟩:=e.ok I.hok
   exact⟨es,ep,o,ho,ex,hd⟩
 obtain⟨es,ep,en⟩:=ents
 refine Uu ty.2.2 en ?_
 have g:(s.heap.push {cls:= .type "dict_items",data:= .fields #[.ref d]}).IsItemsView s.heap.objs.size d:=⟨_,yB _ rfl,rfl,rfl⟩
 refine⟨.ref s.heap.objs.size,_,I.laid (t':=s.toks) (o:=Fx s.heap.objs.size d) (λb o e=>zD _ e) (zad _) ⟨g,⟨_,yB _ rfl⟩,λh1 h2 a b=> ?_⟩,rfl,q _ (I.hok.fresh (zad _))⟩
 obtain⟨o,e1,e2,e3⟩:=a
 exact⟨o,b o e1,e2,e3⟩
def CG(H:Hp):List (Addr×HO)->Hp
 | []=>H
 | p::r=>CG (upd H p.1 p.2) r
theorem DQ{a:Addr}{o:HO}:∀{l:List (Addr×HO)} {H:Hp},H a=some o->(∀p∈l,p.1≠a)->CG H l a=some o
 | [],_,h,_=>h
 | p::l,H,h,n=>DQ (l:=l) (by rw[aG (Ne.symm (n p xB))];exact h) λq hq=>n q (yT _ hq)
theorem MF:∀{l:List (Addr×HO)} {H:Hp} {i:Nat} {p:Addr×HO},(l.map (·.1)).Nodup->l[i]? = some p->CG H l p.1=some p.2
 | q::l,H,0,p,nd,e=>by
  simp at e
  subst e
  rw[List.map_cons,List.nodup_cons]at nd
  show CG (upd H q.1 q.2) l q.1=some q.2
  exact DQ bh λr hr z=>nd.1 (by rw[<-z];exact List.mem_map_of_mem hr)
 | q::l,H,i+1,p,nd,e=>by
  rw[List.map_cons,List.nodup_cons]at nd
  show CG (upd H q.1 q.2) l p.1=some p.2
  exact MF (i:=i) nd.2 (by simpa using e)
 | [],_,_,_,_,e=>by simp at e
def prs(as:List Addr)(ps:List (V×V)):List (Addr×HO):=(as.zip ps).map λp=>(p.1,.tup [p.2.1,p.2.2])
theorem W4{as:List Addr}{ps:List (V×V)}(qs:Paired (λ(a:Addr) (p:V×V)=>∃u v,RelV p.1 u/\RelV p.2 v/\s.heap.get? a=some {cls:= .type "tuple",data:= .seq #[u,v]}) as ps):
  ∀{H:Hp},Inv X pins σ H s->as.Pairwise (· < ·)->(∀a∈as,Ah X pins H a/\X.s₀.heap.get? a=none)->Inv X pins σ (CG H (prs as ps)) s:=by
 induction qs with
 | nil=>intro H I _ _;exact I
 | @cons a p as ps q _ ih=>
  intro H I nd h
  obtain⟨f,z⟩:=h a xB
  obtain⟨u,v,r1,r2,e⟩:=q
  rw[List.pairwise_cons]at nd
  have new:bQ X.prog X.w (upd H a (.tup [p.1,p.2])) s.heap a (.tup [p.1,p.2]):=⟨by show 2<=sizeLine;decide,[u,v],.cons r1 (.cons r2 .nil),_,e,rfl,0,rfl⟩
  have I1:Inv X pins σ (upd H a (.tup [p.1,p.2])) s:=I.track f z new
  show Inv X pins σ (CG (upd H a (.tup [p.1,p.2])) (prs as ps)) s
  refine ih I1 nd.2 λb hb=> ?_
  obtain⟨f',z'⟩:=h b (yT _ hb)
  exact⟨⟨by rw[aG (xS (nd.1 b hb))];exact f'.1,f'.2⟩,z'⟩
def Z1(K:Frag):List V->Hp->VK->Prop:=λxs H Q=>∃v d,xs=[.ref v]/\H v=some (Fx v d)/\((∃kvs,H d=some (.dK kvs))\/∃kvs,H d=some (.dT kvs))/\∀ps,ahc H d ps->ps.length<64/\∃cs k ks,
 Paired (λ(p:V×V) (c:List Int)=>Parts K H [p.1,p.2] c (k::ks)) ps cs/\∀as q l,as.length=ps.length->as.Nodup->(∀a∈as,H a=none)->Order ps.length cs q->CG H (prs as ps) l=none->
  Q (.ref l) (upd (CG H (prs as ps)) l (.lst (Q6 (as.map V.ref) q)))
theorem Parts.keep{K:Frag}{H H':Hp}(k:∀a xs,H a=some (.tup xs)->H' a=some (.tup xs)):∀{xs:List V} {c:List Int} {ks:List Nat},Parts K H xs c ks->Parts K H' xs c ks
 | _,_,_,.nil=> .nil
 | _,_,_,.cons p ps=> .cons (by
   cases p with
   | int i=>exact .int i
   | str x=>exact .str x
   | tup e=>exact .tup (k _ _ e)) (ps.keep k)
theorem Pk(hc:X.calm=true)(hu:X.A.units+2<cLine):j4 X (.builtin "sorted") (Z1 X.K):=by
 intro pins s σ H xs us Q I r h
 obtain⟨v,d,rfl,hv,hd,h⟩:=h
 obtain⟨u,rfl,rx⟩:=vals1 r
 cases rx
 obtain⟨es,ep,ps,en,hp,hz,pe⟩:=adM I hd
 obtain⟨h64,cs,k,ks,pc,q⟩:=h ps hp
 have view:s.heap.IsItemsView v d:=(show bQ X.prog X.w H s.heap v (Fx v d)from I.hok v _ hv).1
 have lp0:=pe.length
 have lp1:es.toList.length=es.size:=Array.length_toList
 have lp:ps.length=es.size:=lp0.trans lp1
 have lc:=pc.length
 refine xP hu (K3 (A:=X.A.in1) (I.ok.hd hc) view en hz λh' tk as kp la pr=> ?_)
 have I1:Inv X pins σ H {s with heap:=h',toks:=tk}:=I.kept kp
 have fr:∀a∈as,s.heap.objs.size<=a:=λa ha=>Nat.le_of_lt (pr.lt a ha).1
 have fresh:∀a∈as,H a=none:=λa ha=>I.hok.fresh (fr a ha)
 have ajd:Paired (λ(a:Addr) (p:V×V)=>∃u v,RelV p.1 u/\RelV p.2 v/\h'.get? a=some {cls:= .type "tuple",data:= .seq #[u,v]}) as ps:=by
  have go:∀{as:List Addr} {ps:List (V×V)} {es:List DictEntry},as.length=es.length->Paired (λ(p:V×V) (e:DictEntry)=>RelV p.1 e.key/\RelV p.2 e.val) ps es->(∀(j:Nat) (a:Addr),as[j]? = some a->∃e,es[j]? = some e/\h'.get? a=some {cls:= .type "tuple",data:= .seq #[e.key,e.val]})->
    Paired (λ(a:Addr) (p:V×V)=>∃u v,RelV p.1 u/\RelV p.2 v/\h'.get? a=some {cls:= .type "tuple",data:= .seq #[u,v]}) as ps:=by
   intro as
   induction as with
   | nil=>intro ps es l a _;cases a with
    | nil=>exact .nil
    | cons _ _=>simp at l
   | cons a as ih=>
    intro ps es l b h
    cases b with
    | nil=>simp at l
    | @cons p e _ _ r rs=>
     refine .cons ?_ (ih (by simpa using l) rs λj a ha=> ?_)
     ·obtain⟨e',q1,q2⟩:=h 0 a rfl
      simp at q1
      subst q1
      exact⟨_,_,r.1,r.2,q2⟩
     ·obtain⟨e',q1,q2⟩:=h (j+1) a (by simpa using ha)
      exact⟨e',by simpa using q1,q2⟩
  exact go (by rw[la,Array.length_toList]) pe λj a ha=>by
   obtain⟨e,q1,q2⟩:=pr.ix j a ha
   exact⟨e,by rw[Array.getElem?_toList];exact q1,q2⟩
 have I2:=W4 (s:={s with heap:=h',toks:=tk}) ajd I1 pr.up (λa ha=>⟨I.UG (fr a ha) (fresh a ha),Heap.get?_none_of_le (yY I.sz (fr a ha))⟩)
 have nd:as.Nodup:=pr.up.imp λh=>xD h
 have ndz:((prs as ps).map (·.1)).Nodup:=by
  have:(prs as ps).map (·.1)=as:=by
   unfold prs
   rw[List.map_map]
   have e:((λx=>x.fst)∘λ(p:Addr×V×V)=>(p.1,HO.tup [p.2.1,p.2.2]))=Prod.fst:=rfl
   rw[e,List.map_fst_zip]
   omega
  rw[this];exact nd
 have aja:∀a xs,H a=some (.tup xs)->CG H (prs as ps) a=some (.tup xs):=λa xs e=>DQ e λp hp z=>by
  obtain⟨x,hx,rfl⟩:=List.mem_map.mp hp
  have:=fresh _ (List.of_mem_zip hx).1
  rw[show a=x.1 from z.symm,this]at e
  cases e
 refine⟨as.map V.ref,cs,CG H (prs as ps),I2,?_,by simp;omega,.rows k ks (by simp;omega) λi y c hy hc=> ?_,λq' l od hl=> ?_⟩
 ·have:∀as:List Addr,Vals (as.map V.ref) (as.map Value.ref):=λas=>by
   induction as with
   | nil=>exact .nil
   | cons a as ih=>exact .cons rfl ih
  exact this as
 ·rw[zaq]at hy
  obtain⟨a,ha,rfl⟩:=Option.map_eq_some_iff.mp hy
  have hi:i<ps.length:=by
   have:=(List.getElem?_eq_some_iff.mp ha).1
   omega
  have hpi:ps[i]? = some ps[i]:=zae hi
  have hpart:Parts X.K H [ps[i].1,ps[i].2] c (k::ks):=by
   have go:∀{ps:List (V×V)} {cs:List (List Int)} {i:Nat} {p:V×V} {c:List Int},Paired (λ(p:V×V) (c:List Int)=>Parts X.K H [p.1,p.2] c (k::ks)) ps cs->ps[i]? = some p->cs[i]? = some c->Parts X.K H [p.1,p.2] c (k::ks):=by
    intro ps cs i p c a
    induction a generalizing i with
    | nil=>intro e;simp at e
    | cons r _ ih=>
     intro e1 e2
     cases i with
     | zero=>simp at e1 e2;subst e1 e2;exact r
     | succ i=>exact ih (by simpa using e1) (by simpa using e2)
   exact go pc hpi hc
  refine⟨a,[ps[i].1,ps[i].2],rfl,?_,hpart.keep aja⟩
  have:(prs as ps)[i]? = some (a,.tup [ps[i].1,ps[i].2]):=by
   unfold prs
   rw[zaq,show(as.zip ps)[i]? = some (a,ps[i])from List.getElem?_zip_eq_some.mpr ⟨ha,hpi⟩]
   rfl
  exact MF ndz this
 ·rw[zar]at od
  have e:as.length=ps.length:=by omega
  rw[e]at od
  exact q as q' l e nd fresh od hl
end
section
variable{X:Cx}{pins:List (Addr×Obj)}{σ:St}{H:Hp}{s:Shared}
theorem ab4{ys:List V}{acc:List Value}(hl:acc.length=ys.length)(h:∀(j:Nat) (v:Value),acc[j]? = some v->∃y,ys[j]? = some y/\RelV y v):Vals ys acc:=by
 induction ys generalizing acc with
 | nil=>cases acc with
  | nil=>exact .nil
  | cons _ _=>simp at hl
 | cons y ys ih=>cases acc with
  | nil=>simp at hl
  | cons v acc=>
   refine .cons ?_ (ih (by simpa using hl) λj u hu=> ?_)
   ·obtain⟨y',e,r⟩:=h 0 v rfl
    simp at e
    subst e
    exact r
   ·obtain⟨y',e,r⟩:=h (j+1) u (by simpa using hu)
    exact⟨y',by simpa using e,r⟩
theorem agj{κ:Type}{kvs:List (κ×V)}{vs:List (κ×Value)}(r:KV kvs vs){j:Nat}{k:κ}{x:Value}(h:vs[j]? = some (k,x)):∃v,kvs[j]? = some (k,v)/\RelV v x:=by
 unfold KV at r
 induction r generalizing j with
 | nil=>simp at h
 | @cons p q _ _ a _ ih=>
  cases j with
  | zero=>
   simp at h
   subst h
   exact⟨p.2,by rw[<-show p.1=k from a.1];rfl,a.2⟩
  | succ j=>
   obtain⟨v,e,r⟩:=ih (j:=j) (by simpa using h)
   exact⟨v,by simpa using e,r⟩
end
end L2
namespace S
open PySem PySem.Spec PyProof.Rows L2
inductive D where
 | non | bl (b:Bool) | int (i:Int) | str (x:Str) | tup (ds:List D) | ref (n:Nat) | cl (ds:List D) | ty (n:String) | cls (c:Nat) | exc (c:Nat) (d:D) | m8 (ds:List D)
inductive MO where
 | lst (ds:List D) | ins (c:Nat) (fs:List (Str×D)) | dk (kvs:List (Key×D)) | dt (kvs:List (List Key×D)) | fd (kvs:List (Key×D))
abbrev St:=L2.St
abbrev Mem:=List MO
abbrev Sl:=List (Option D)
inductive Out (α:Type) where
 | ok (a:α) (M:Mem)
 | exc (c:Nat) (d:D) (M:Mem)
 | bad
def Out.bind{α β:Type}(o:Out α)(f:α->Mem->Out β):Out β:=match o with
 | .ok a M=>f a M
 | .exc c d M=> .exc c d M
 | .bad=> .bad
@[simp] theorem Out.jo{α β:Type}(c:Nat)(d:D)(M:Mem)(f:α->Mem->Out β):(Out.exc c d M:Out α).bind f= .exc c d M:=id rfl
@[simp] theorem Out.cN{α β:Type}(a:α)(M:Mem)(f:α->Mem->Out β):(Out.ok a M).bind f=f a M:=id rfl
@[simp] theorem Out.fU{α β:Type}(f:α->Mem->Out β):(Out.bad:Out α).bind f= .bad:=id rfl
def FrL(K:Frag)(H:Hp)(a:Addr)(xs:List V):Prop:=(∃o,H a=some (.jY o (.lst xs)))\/
 ∃(o:Obj) (its:Array Value) (n:Nat),K.lookup a=some o/\o.cls= .type "list" /\ o.dict=none/\o.data= .seq its n/\its.size<=sizeLine/\Vals xs its.toList
theorem FrL.sq{K:Frag}{H:Hp}{a:Addr}{xs:List V}(h:FrL K H a xs):pO K H a xs:=h.elim (λz=> .inl (.inr z)) .inr
def KT(K:Frag)(a:Addr)(xs:List V):Prop:=∃(o:Obj) (its:Array Value) (n:Nat),K.lookup a=some o/\o.cls= .type "tuple" /\ o.data= .seq its n/\its.size<=sizeLine/\Vals xs its.toList
mutual
inductive DV (K:Frag) (ct ι:Nat->Addr) (n:Nat) (H:Hp):D->V->Prop
 | non:DV K ct ι n H .non .non
 | bl (b:Bool):DV K ct ι n H (.bl b) (.bl b)
 | int (i:Int):DV K ct ι n H (.int i) (.int i)
 | str (x:Str):DV K ct ι n H (.str x) (.str x)
 | tup {a:Addr} {xs:List V} {ds:List D}:H a=some (.tup xs)->iG K ct ι n H ds xs->DV K ct ι n H (.tup ds) (.ref a)
 | ref {i:Nat}:i<n->DV K ct ι n H (.ref i) (.ref (ι i))
 | cl {a:Addr} {xs:List V} {ds:List D}:FrL K H a xs->iG K ct ι n H ds xs->DV K ct ι n H (.cl ds) (.ref a)
 | ty (s:String):DV K ct ι n H (.ty s) (.ty s)
 | cls (c:Nat):DV K ct ι n H (.cls c) (.ref (ct c))
 | exc {a dx:Addr} {c:Nat} {d:D} {v:V}:H a=some (xC a (ct c) dx)->H dx=some (.xd [("at",v)])->DV K ct ι n H d v->DV K ct ι n H (.exc c d) (.ref a)
 | m8 {a:Addr} {xs:List V} {ds:List D}:KT K a xs->iG K ct ι n H ds xs->DV K ct ι n H (.m8 ds) (.ref a)
inductive iG (K:Frag) (ct ι:Nat->Addr) (n:Nat) (H:Hp):List D->List V->Prop
 | nil:iG K ct ι n H [] []
 | cons {d:D} {x:V} {ds:List D} {xs:List V}:DV K ct ι n H d x->iG K ct ι n H ds xs->iG K ct ι n H (d::ds) (x::xs)
end
structure Ext(K:Frag)(ι:Nat->Addr)(n:Nat)(H:Hp)(ι':Nat->Addr)(n':Nat)(H':Hp):Prop where
 tup:∀a xs,H a=some (.tup xs)->H' a=some (.tup xs)
 jY:∀a xs,FrL K H a xs->FrL K H' a xs
 ex:∀a φ,H a=some (.ext φ)->H' a=some (.ext φ)
 xd:∀a fs,H a=some (.xd fs)->H' a=some (.xd fs)
 fz:∀a o u,H a=some (.jY o u)->H' a=some (.jY o u)
 le:n<=n'
 same:∀i,i<n->ι' i=ι i
theorem Ext.refl{K:Frag}{ι:Nat->Addr}{n:Nat}{H:Hp}:Ext K ι n H ι n H:=⟨λ_ _ h=>h,λ_ _ h=>h,λ_ _ h=>h,λ_ _ h=>h,λ_ _ _ h=>h,zad _,λ_ _=>rfl⟩
theorem Ext.trans{K:Frag}{ι bO iB:Nat->Addr}{n n1 n2:Nat}{H H1 H2:Hp}(a:Ext K ι n H bO n1 H1)(b:Ext K bO n1 H1 iB n2 H2):Ext K ι n H iB n2 H2:=
 ⟨λx xs h=>b.tup x xs (a.tup x xs h),λx xs h=>b.jY x xs (a.jY x xs h),λx xs h=>b.ex x xs (a.ex x xs h),λx xs h=>b.xd x xs (a.xd x xs h),λx o u h=>b.fz x o u (a.fz x o u h),yY a.le b.le,λi hi=>(b.same i (yA hi a.le)).trans (a.same i hi)⟩
mutual
theorem DV.mono{K:Frag}{ct ι ι':Nat->Addr}{n n':Nat}{H H':Hp}(e:Ext K ι n H ι' n' H'):∀{d:D} {v:V},DV K ct ι n H d v->DV K ct ι' n' H' d v
 | _,_,.non=> .non
 | _,_,.bl b=> .bl b
 | _,_,.int i=> .int i
 | _,_,.str x=> .str x
 | _,_,.tup h hs=> .tup (e.tup _ _ h) (iG.mono e hs)
 | _,_,.ref (i:=i) h=>by rw[<-e.same i h];exact .ref (yA h e.le)
 | _,_,.cl h hs=> .cl (e.jY _ _ h) (iG.mono e hs)
 | _,_,.ty s=> .ty s
 | _,_,.cls c=> .cls c
 | _,_,.exc h1 h2 h3=> .exc (e.ex _ _ h1) (e.xd _ _ h2) (DV.mono e h3)
 | _,_,.m8 h hs=> .m8 h (iG.mono e hs)
theorem iG.mono{K:Frag}{ct ι ι':Nat->Addr}{n n':Nat}{H H':Hp}(e:Ext K ι n H ι' n' H'):∀{ds:List D} {vs:List V},iG K ct ι n H ds vs->iG K ct ι' n' H' ds vs
 | _,_,.nil=> .nil
 | _,_,.cons h hs=> .cons (DV.mono e h) (iG.mono e hs)
end
section
variable{K:Frag}{ct ι:Nat->Addr}{n:Nat}{H:Hp}
theorem iG.length:∀{ds:List D} {vs:List V},iG K ct ι n H ds vs->vs.length=ds.length
 | _,_,.nil=>rfl
 | _,_,.cons _ h=>congrArg (· + 1) h.length
theorem iG.at:∀{ds:List D} {vs:List V} {i:Nat} {d:D},iG K ct ι n H ds vs->ds[i]? = some d->∃v,vs[i]? = some v/\DV K ct ι n H d v
 | _,_,_,_,.nil,e=>by simp at e
 | _,_,0,_,.cons h _,e=>by simp at e;subst e;exact⟨_,rfl,h⟩
 | _,_,i+1,_,.cons _ hs,e=>by simpa using hs.at (i:=i) (by simpa using e)
theorem iG.append:∀{ds es:List D} {vs ws:List V},iG K ct ι n H ds vs->iG K ct ι n H es ws->iG K ct ι n H (ds++es) (vs++ws)
 | _,_,_,_,.nil,h=>h
 | _,_,_,_,.cons h hs,h'=> .cons h (hs.append h')
theorem iG.take:∀{ds:List D} {vs:List V} (k:Nat),iG K ct ι n H ds vs->iG K ct ι n H (ds.take k) (vs.take k)
 | _,_,0,_=>by simp;exact .nil
 | _,_,_+1,.nil=>by simp;exact .nil
 | _,_,k+1,.cons h hs=>by simp;exact .cons h (hs.take k)
theorem iG.drop:∀{ds:List D} {vs:List V} (k:Nat),iG K ct ι n H ds vs->iG K ct ι n H (ds.drop k) (vs.drop k)
 | _,_,0,h=>by simpa using h
 | _,_,_+1,.nil=>by simp;exact .nil
 | _,_,k+1,.cons _ hs=>by simp;exact hs.drop k
end
inductive Mu (K:Frag) (ct ι:Nat->Addr) (n:Nat) (H:Hp):List (Str×D)->List (Str×V)->Prop
 | nil:Mu K ct ι n H [] []
 | cons {x:Str} {d:D} {v:V} {fs:List (Str×D)} {vs:List (Str×V)}:DV K ct ι n H d v->Mu K ct ι n H fs vs->Mu K ct ι n H ((x,d)::fs) ((x,v)::vs)
theorem Mu.mono{K:Frag}{ct ι ι':Nat->Addr}{n n':Nat}{H H':Hp}(e:Ext K ι n H ι' n' H'):∀{fs:List (Str×D)} {vs:List (Str×V)},Mu K ct ι n H fs vs->Mu K ct ι' n' H' fs vs
 | _,_,.nil=> .nil
 | _,_,.cons h hs=> .cons (h.mono e) (hs.mono e)
noncomputable def putD(f:Str)(d:D):List (Str×D)->List (Str×D)
 | []=>[(f,d)]
 | (x,e)::r=>if x=f then(x,d)::r else(x,e)::putD f d r
section
variable{K:Frag}{ct ι:Nat->Addr}{n:Nat}{H:Hp}
theorem Mu.length:∀{fs:List (Str×D)} {vs:List (Str×V)},Mu K ct ι n H fs vs->vs.length=fs.length
 | _,_,.nil=>rfl
 | _,_,.cons _ h=>congrArg (· + 1) h.length
theorem Mu.look{x:Str}:∀{fs:List (Str×D)} {vs:List (Str×V)} {d:D},Mu K ct ι n H fs vs->fs.lookup x=some d->∃v,vs.lookup x=some v/\DV K ct ι n H d v
 | _,_,_,.nil,e=>by simp at e
 | _,_,d,.cons (x:=y) h hs,e=>by
  rw[List.lookup_cons]at e ⊢
  cases z:x==y with
  | true=>rw[z]at e;exact⟨_,rfl,by cases e;exact h⟩
  | false=>rw[z]at e;exact hs.look e
theorem Mu.aeH{x:Str}:∀{fs:List (Str×D)} {vs:List (Str×V)},Mu K ct ι n H fs vs->fs.lookup x=none->vs.lookup x=none
 | _,_,.nil,_=>rfl
 | _,_,.cons (x:=y) h hs,e=>by
  rw[List.lookup_cons]at e ⊢
  cases z:x==y with
  | true=>rw[z]at e;cases e
  | false=>rw[z]at e;exact hs.aeH e
end
inductive Ab (K:Frag) (ct ι:Nat->Addr) (n:Nat) (H:Hp) {κ:Type}:List (κ×D)->List (κ×V)->Prop
 | nil:Ab K ct ι n H [] []
 | cons {x:κ} {d:D} {v:V} {fs:List (κ×D)} {vs:List (κ×V)}:DV K ct ι n H d v->Ab K ct ι n H fs vs->Ab K ct ι n H ((x,d)::fs) ((x,v)::vs)
theorem Ab.mono{K:Frag}{ct ι ι':Nat->Addr}{n n':Nat}{H H':Hp}(e:Ext K ι n H ι' n' H'){κ:Type}:∀{fs:List (κ×D)} {vs:List (κ×V)},Ab K ct ι n H fs vs->Ab K ct ι' n' H' fs vs
 | _,_,.nil=> .nil
 | _,_,.cons h hs=> .cons (h.mono e) (hs.mono e)
theorem Ab.length{K:Frag}{ct ι:Nat->Addr}{n:Nat}{H:Hp}{κ:Type}:∀{fs:List (κ×D)} {vs:List (κ×V)},Ab K ct ι n H fs vs->vs.length=fs.length
 | _,_,.nil=>rfl
 | _,_,.cons _ h=>congrArg (· + 1) h.length
def OR(K:Frag)(ct ι:Nat->Addr)(n:Nat)(H:Hp)(a:Addr):MO->Prop
 | .lst ds=>∃vs,H a=some (.lst vs)/\iG K ct ι n H ds vs
 | .ins c fs=>∃dx vs,H a=some (.ins (ct c) dx vs)/\Mu K ct ι n H fs vs
 | .dk kvs=>∃vs,H a=some (.dK vs)/\Ab K ct ι n H kvs vs
 | .dt kvs=>∃vs,H a=some (.dT vs)/\Ab K ct ι n H kvs vs
 | .fd kvs=>∃o vs,H a=some (.jY o (.dK vs))/\Ab K ct ι n H kvs vs
structure Rl(K:Frag)(ct ι:Nat->Addr)(M:Mem)(H:Hp):Prop where
 inj:∀i j,i<M.length->j<M.length->ι i=ι j->i=j
 obj:∀(i:Nat) (o:MO),M[i]? = some o->OR K ct ι M.length H (ι i) o
structure Ws(K:Frag)(ct ι:Nat->Addr)(e:Sl)(M:Mem)(σ:St)(H:Hp):Prop where
 rl:Rl K ct ι M H
 len:σ.length=e.length
 env:∀(i:Nat) (d:D),e[i]? = some (some d)->∃v,σ[i]? = some (some v)/\DV K ct ι M.length H d v
section
variable{K:Frag}{ct ι:Nat->Addr}{M:Mem}{H:Hp}
theorem OR.some{a:Addr}{n:Nat}{o:MO}(h:OR K ct ι n H a o):∃u,H a=some u:=by
 cases o with
 | lst ds=>obtain⟨vs,e,_⟩:=h;exact⟨_,e⟩
 | ins c fs=>obtain⟨dx,vs,e,_⟩:=h;exact⟨_,e⟩
 | dk kvs=>obtain⟨vs,e,_⟩:=h;exact⟨_,e⟩
 | dt kvs=>obtain⟨vs,e,_⟩:=h;exact⟨_,e⟩
 | fd kvs=>obtain⟨o,vs,e,_⟩:=h;exact⟨_,e⟩
theorem O4{p:Addr}{o:HO}(hp:∀b u,H p≠some (.jY b u)){a:Addr}{xs:List V}(h:FrL K H a xs):FrL K (upd H p o) a xs:=by
 rcases h with⟨b,h⟩ | h
 ·have ne:a≠p:=λe=>by subst e;exact hp _ _ h
  exact .inl ⟨b,by rw[aG ne];exact h⟩
 ·exact .inr h
theorem aay{p:Addr}(hp:H p=none):∀b u,H p≠some (.jY b u):=λb u h=>by rw[hp]at h;cases h
theorem OR.keep{ι':Nat->Addr}{n n':Nat}{H':Hp}{a a':Addr}{o:MO}(e:Ext K ι n H ι' n' H')(ea:a'=a)(hh:H' a=H a)(h:OR K ct ι n H a o):OR K ct ι' n' H' a' o:=by
 subst ea
 cases o with
 | lst ds=>obtain⟨vs,q,r⟩:=h;exact⟨vs,by rw[hh];exact q,r.mono e⟩
 | ins c fs=>obtain⟨dx,vs,q,r⟩:=h;exact⟨dx,vs,by rw[hh];exact q,r.mono e⟩
 | dk kvs=>obtain⟨vs,q,r⟩:=h;exact⟨vs,by rw[hh];exact q,r.mono e⟩
 | dt kvs=>obtain⟨vs,q,r⟩:=h;exact⟨vs,by rw[hh];exact q,r.mono e⟩
 | fd kvs=>obtain⟨o,vs,q,r⟩:=h;exact⟨o,vs,by rw[hh];exact q,r.mono e⟩
def nQ(ι:Nat->Addr)(n:Nat)(p:Addr):Nat->Addr:=λi=>if i=n then p else ι i
theorem o4{p a:Addr}{o u:HO}(hp:H p=none)(h:H a=some u):upd H p o a=some u:=by rw[aG (bA h hp)];exact h
theorem Ext.fresh{n:Nat}{p:Addr}{o:HO}(hp:H p=none):Ext K ι n H ι n (upd H p o):=⟨λ_ _ h=>o4 hp h,λ_ _ h=>O4 (aay hp) h,λ_ _ h=>o4 hp h,λ_ _ h=>o4 hp h,λ_ _ _ h=>o4 hp h,zad _,λ_ _=>rfl⟩
theorem Rl.lt(R:Rl K ct ι M H){i:Nat}{o:MO}(h:M[i]? = some o):∃u,H (ι i)=some u:=(R.obj i o h).some
theorem Rl.fresh(R:Rl K ct ι M H){p:Addr}{o:HO}(hp:H p=none):Rl K ct ι M (upd H p o):=by
 refine⟨R.inj,λi x h=> ?_⟩
 obtain⟨u,hu⟩:=R.lt h
 exact(R.obj i x h).keep (Ext.fresh hp) rfl (aG (bA hu hp))
theorem Ext.new{p:Addr}{o:HO}(hp:H p=none):Ext K ι M.length H (nQ ι M.length p) (M.length+1) (upd H p o):=
 ⟨λ_ _ h=>o4 hp h,λ_ _ h=>O4 (aay hp) h,λ_ _ h=>o4 hp h,λ_ _ h=>o4 hp h,λ_ _ _ h=>o4 hp h,Nat.le_succ _,λi hi=>by unfold nQ;rw[if_neg (xD hi)]⟩
theorem Rl.new(R:Rl K ct ι M H){p:Addr}{o:HO}{x:MO}(hp:H p=none)(h:OR K ct (nQ ι M.length p) (M.length+1) (upd H p o) p x):Rl K ct (nQ ι M.length p) (M++[x]) (upd H p o):=by
 have ne:∀i,i<M.length->ι i≠p:=λi hi=>by
  obtain⟨u,hu⟩:=R.lt (zae hi)
  exact bA hu hp
 have el:(M++[x]).length=M.length+1:=by simp
 refine⟨λi j hi hj e=> ?_,λi y hy=> ?_⟩
 ·rw[el]at hi hj
  unfold nQ at e
  by_cases a:i=M.length
  ·by_cases b:j=M.length
   ·rw[a,b]
   ·rw[if_pos a,if_neg b]at e
    exact absurd e.symm (ne j (by omega))
  ·by_cases b:j=M.length
   ·rw[if_neg a,if_pos b]at e
    exact absurd e (ne i (by omega))
   ·rw[if_neg a,if_neg b]at e
    exact R.inj i j (by omega) (by omega) e
 ·rw[el]
  by_cases a:i<M.length
  ·rw[zag a]at hy
   obtain⟨u,hu⟩:=R.lt hy
   refine(R.obj i y hy).keep (Ext.new hp) ?_ (aG (bA hu hp))
   unfold nQ
   rw[if_neg (xD a)]
  ·have hi:i<(M++[x]).length:=(List.getElem?_eq_some_iff.mp hy).1
   have e:i=M.length:=by rw[el]at hi;omega
   subst e
   rw[zaf (zad _)]at hy
   simp at hy
   subst hy
   have:nQ ι M.length p M.length=p:=by unfold nQ;rw[if_pos rfl]
   rw[this]
   exact h
theorem Ext.chg{n:Nat}{a:Addr}{o u:HO}(h:H a=some u)(hu:∀xs,u≠ .tup xs)(hz:∀b x,u≠ .jY b x)(hx:∀φ,u≠ .ext φ:=by exact λ_ z=>nomatch z)(hd:∀fs,u≠ .xd fs:=by exact λ_ z=>nomatch z):Ext K ι n H ι n (upd H a o):=
 ⟨λb xs q=>by
  rw[aG (λe=>by subst e;rw[h]at q;exact hu xs (xI q))];exact q,λ_ _ q=>O4 (λb x r=>by rw[h]at r;exact hz b x (xI r)) q,λb φ q=>by
  rw[aG (λe=>by subst e;rw[h]at q;exact hx φ (xI q))];exact q,λb fs q=>by
  rw[aG (λe=>by subst e;rw[h]at q;exact hd fs (xI q))];exact q,λb x y q=>by
  rw[aG (λe=>by subst e;rw[h]at q;exact hz x y (xI q))];exact q,zad _,λ_ _=>rfl⟩
theorem Rl.chg(R:Rl K ct ι M H){i:Nat}{o u:HO}{x:MO}(hi:i<M.length)(h:H (ι i)=some u)(hu:∀xs,u≠ .tup xs)(hz:∀b x,u≠ .jY b x)(hx:OR K ct ι M.length (upd H (ι i) o) (ι i) x)(hex:∀φ,u≠ .ext φ:=by exact λ_ z=>nomatch z)(hxd:∀fs,u≠ .xd fs:=by exact λ_ z=>nomatch z):Rl K ct ι (M.set i x) (upd H (ι i) o):=by
 refine⟨λj k hj hk e=>R.inj j k (by simpa using hj) (by simpa using hk) e,λj y hy=> ?_⟩
 rw[List.length_set]
 by_cases e:i=j
 ·subst e
  rw[zan hi]at hy
  cases hy
  exact hx
 ·rw[zam e]at hy
  have hj:j<M.length:=(List.getElem?_eq_some_iff.mp hy).1
  exact(R.obj j y hy).keep (Ext.chg h hu hz hex hxd) rfl (aG λz=>e (R.inj i j hi hj z.symm))
theorem Ws.ext{ι':Nat->Addr}{e:Sl}{M':Mem}{σ:St}{H':Hp}(w:Ws K ct ι e M σ H)(x:Ext K ι M.length H ι' M'.length H')(r:Rl K ct ι' M' H'):Ws K ct ι' e M' σ H':=
 ⟨r,w.len,λi d h=>let⟨v,a,b⟩:=w.env i d h;⟨v,a,b.mono x⟩⟩
theorem Ws.set{e:Sl}{σ:St}{d:D}{v:V}(w:Ws K ct ι e M σ H)(i:Nat)(h:DV K ct ι M.length H d v):Ws K ct ι (e.set i (some d)) M (σ.set i (some v)) H:=by
 refine⟨w.rl,by simp[w.len],λj d' hj=> ?_⟩
 by_cases z:i=j
 ·subst z
  have hi:i<e.length:=by have:=(List.getElem?_eq_some_iff.mp hj).1;simpa using this
  rw[zan hi]at hj
  cases hj
  exact⟨v,zan (by rw[w.len];exact hi),h⟩
 ·rw[zam z]at hj
  obtain⟨v',a,b⟩:=w.env j d' hj
  exact⟨v',by rw[zam z];exact a,b⟩
end
theorem Ws.clear{K:Frag}{ct ι:Nat->Addr}{M:Mem}{H:Hp}{e:Sl}{σ:St}(w:Ws K ct ι e M σ H)(i:Nat):Ws K ct ι (e.set i none) M (σ.set i none) H:=by
 refine⟨w.rl,by simp[w.len],λj d' hj=> ?_⟩
 by_cases z:i=j
 ·subst z
  have hi:i<e.length:=by have:=(List.getElem?_eq_some_iff.mp hj).1;simpa using this
  rw[zan hi]at hj
  cases hj
 ·rw[zam z]at hj
  obtain⟨v',a,b⟩:=w.env j d' hj
  exact⟨v',by rw[zam z];exact a,b⟩
abbrev XW:=Addr->Addr->Hp->Prop
def wAt(W:a_)(σ:St):XW:=λC dx H=>W C dx σ H
def W0:a_:=λ_ _ _ _=>False
def iD{α β:Type}(rel:(Nat->Addr)->Mem->Hp->α->β->Prop)(K:Frag)(ct:Nat->Addr)(w:XW)(ι:Nat->Addr)(n:Nat)(H:Hp)(o:Out α)(Q:β->Hp->Prop):Prop:=match o with
 | .ok a M'=>∀ι' b H',Ext K ι n H ι' M'.length H'->Rl K ct ι' M' H'->rel ι' M' H' a b->Q b H'
 | .exc c d M'=>∀ι' dx v H',Ext K ι n H ι' M'.length H'->Rl K ct ι' M' H'->H' dx=some (.xd [("at",v)])->DV K ct ι' M'.length H' d v->w (ct c) dx H'
 | .bad=>False
def tG{α β:Type}(rel:(Nat->Addr)->Mem->Hp->α->β->Prop)(K:Frag)(ct:Nat->Addr)(W:a_)(m:Sl->Mem->Out α)(σ:St)(H:Hp)(Q:β->Hp->Prop):Prop:=
 ∃ι e M,Ws K ct ι e M σ H/\iD rel K ct (wAt W σ) ι M.length H (m e M) Q
abbrev dw(K:Frag)(ct:Nat->Addr):(Nat->Addr)->Mem->Hp->D->V->Prop:=λι M H d v=>DV K ct ι M.length H d v
abbrev GZ(K:Frag)(ct:Nat->Addr):(Nat->Addr)->Mem->Hp->List D->List V->Prop:=λι M H d v=>iG K ct ι M.length H d v
abbrev Jj:(Nat->Addr)->Mem->Hp->Bool->Bool->Prop:=λ_ _ _ a b=>a=b
abbrev ME:=Sl->Mem->Out D
abbrev MT:=Sl->Mem->Out Bool
abbrev MA:=Sl->Mem->Out (List D)
def SE(X:Cx)(ct:Nat->Addr)(W:a_)(e:Expr)(m:ME):Prop:=PE X e (tG (dw X.K ct) X.K ct W m)
def Yp(X:Cx)(ct:Nat->Addr)(W:a_)(e:Expr)(m:MT):Prop:=PT X e (tG Jj X.K ct W m)
def SW(X:Cx)(ct:Nat->Addr)(W:a_)(e:Expr)(m:MT):Prop:=PW X e (tG Jj X.K ct W m)
def SA(X:Cx)(ct:Nat->Addr)(W:a_)(es:List Expr)(m:MA):Prop:=PA X es (tG (GZ X.K ct) X.K ct W m)
theorem SW.pt{X:Cx}{ct:Nat->Addr}{W:a_}{e:Expr}{m:MT}(h:SW X ct W e m):Yp X ct W e m:=PW.pt h
section
variable{X:Cx}{ct:Nat->Addr}
theorem PE.imp{e:Expr}{t t':TE}(h:PE X e t)(hi:∀σ H Q,t' σ H Q->t σ H Q):PE X e t':=λpins s σ H Q I q=>h pins s σ H Q I (hi σ H Q q)
theorem PT.imp{e:Expr}{t t':TT}(h:PT X e t)(hi:∀σ H Q,t' σ H Q->t σ H Q):PT X e t':=λpins s σ H Q I q=>h pins s σ H Q I (hi σ H Q q)
theorem PW.imp{e:Expr}{t t':TT}(h:PW X e t)(hi:∀σ H Q,t' σ H Q->t σ H Q):PW X e t':=λwh pins s σ H Q I q=>h wh pins s σ H Q I (hi σ H Q q)
theorem PA.imp{es:List Expr}{t t':TA}(h:PA X es t)(hi:∀σ H Q,t' σ H Q->t σ H Q):PA X es t':=λpos pins s σ H Q I q=>h pos pins s σ H Q I (hi σ H Q q)
end
theorem iD.ext{α β:Type}{rel:(Nat->Addr)->Mem->Hp->α->β->Prop}{K:Frag}{ct ι ι':Nat->Addr}{w:XW}{n n':Nat}{H H':Hp}{o:Out α}{Q:β->Hp->Prop}(h:iD rel K ct w ι n H o Q)(x:Ext K ι n H ι' n' H'):iD rel K ct w ι' n' H' o Q:=by
 cases o with
 | ok a M=>exact λiB b H2 x2 r q=>h iB b H2 (x.trans x2) r q
 | exc c d M=>exact λiB dx v H2 x2 r q1 q2=>h iB dx v H2 (x.trans x2) r q1 q2
 | bad=>exact h
theorem iD.mono{α β:Type}{rel:(Nat->Addr)->Mem->Hp->α->β->Prop}{K:Frag}{ct ι:Nat->Addr}{w:XW}{n:Nat}{H:Hp}{o:Out α}{Q Q':β->Hp->Prop}(h:iD rel K ct w ι n H o Q)(x:∀b H,Q b H->Q' b H):iD rel K ct w ι n H o Q':=by
 cases o with
 | ok a M=>exact λiB b H2 x2 r q=>x b H2 (h iB b H2 x2 r q)
 | exc c d M=>exact h
 | bad=>exact h
def al6{α β γ δ:Type}(dm:(Nat->Addr)->Mem->Hp->α->β->Prop)(VF:(Nat->Addr)->Mem->Hp->γ->δ->Prop)(K:Frag)(ct:Nat->Addr)(W:a_)(f:α->Sl->Mem->Out γ)(σ:St)(Q:δ->Hp->Prop)(b:β)(H1:Hp):Prop:=
 ∃ι e M a,Ws K ct ι e M σ H1/\dm ι M H1 a b/\iD VF K ct (wAt W σ) ι M.length H1 (f a e M) Q
theorem bG{α β γ δ:Type}{dm:(Nat->Addr)->Mem->Hp->α->β->Prop}{VF:(Nat->Addr)->Mem->Hp->γ->δ->Prop}{K:Frag}{ct:Nat->Addr}{W:a_}{ma:Sl->Mem->Out α}{f:α->Sl->Mem->Out γ}{σ:St}{H:Hp}{Q:δ->Hp->Prop}
  (h:tG VF K ct W (λe M=>(ma e M).bind λa M1=>f a e M1) σ H Q):tG dm K ct W ma σ H (al6 dm VF K ct W f σ Q):=by
 obtain⟨ι,e,M,w,p⟩:=h
 refine⟨ι,e,M,w,?_⟩
 cases z:ma e M with
 | bad=>simp only[z,Out.fU]at p;exact p
 | exc xc xd xM=>simp only[z,Out.jo]at p;exact p
 | ok a M1=>
  simp only[z,Out.cN]at p
  exact λbO b H1 x r q=>⟨bO,e,M1,a,w.ext x r,q,p.ext x⟩
section
variable{X:Cx}{ct:Nat->Addr}{W:a_}{a b c:Expr}{ma mb mc:ME}{pos:Pos}
@[irreducible] def aq(i:Nat):ME:=λe M=>match e[i]? with
 | some (some d)=> .ok d M
 | _=> .bad
theorem Oa{i:Nat}{e:Sl}{M:Mem}{d:D}(h:e[i]? = some (some d)):aq i e M= .ok d M:=by unfold aq;rw[h]
def mC(d:D):ME:=λ_ M=> .ok d M
theorem dj{e:Expr}{t:TE}{m:ME}(h:PE X e t)(hi:∀σ H Q,tG (dw X.K ct) X.K ct W m σ H Q->t σ H Q):SE X ct W e m:=PE.imp h hi
theorem aj(i:Nat){x:Str}{pos:Pos}(hN:X.N[i]? = some x:=by rfl)(hv:Vis X.env.scope x:=by first | exact Or.inl rfl | exact Or.inr (Or.inl rfl) | exact Or.inr (Or.inr rfl))(hd:(x==("__debug__" : Str))=false:=by decide)
  (hcd:(x==("__classdict__" : Str))=false:=by decide):SE X ct W (.Name x pos) (aq i):=dj (aad hN hv hd hcd) λσ H Q ⟨ι,e,M,w,p⟩=>by
 unfold aq at p
 cases z:e[i]? with
 | none=>rw[z]at p;exact p.elim
 | some o=>
  cases o with
  | none=>rw[z]at p;exact p.elim
  | some d=>
   rw[z]at p
   obtain⟨v,hv,dv⟩:=w.env i d z
   exact⟨v,hv,p ι v H .refl w.rl dv⟩
theorem Lg{d:D}{v:V}{σ:St}{H:Hp}{Q:VK}(dv:∀ι n,DV X.K ct ι n H d v)(h:tG (dw X.K ct) X.K ct W (mC d) σ H Q):tC v σ H Q:=by
 obtain⟨ι,e,M,w,p⟩:=h
 exact p ι v H .refl w.rl (dv _ _)
theorem az{i j pos}:SE X ct W (.Constant (.int i) j pos) (mC (.int i)):=dj afO λ_ _ _ h=>Lg (λ_ _=> .int i) h
theorem lD{b j pos}:SE X ct W (.Constant (.bool b) j pos) (mC (.bl b)):=dj aiJ λ_ _ _ h=>Lg (λ_ _=> .bl b) h
theorem lQ{j pos}:SE X ct W (.Constant .none j pos) (mC .non):=dj afM λ_ _ _ h=>Lg (λ_ _=> .non) h
theorem di{x j pos}:SE X ct W (.Constant (.str x) j pos) (mC (.str x)):=dj afJ λ_ _ _ h=>Lg (λ_ _=> .str x) h
theorem aeq{x:Str}{n:String}{pos:Pos}(hg:Gl X x)(hm:X.mg x=none)(hv:bootBuiltins x=some (.type n))(hn:x≠ "__name__" := by decide)(hd:(x==("__debug__" : Str))=false:=by decide):SE X ct W (.Name x pos) (mC (.ty n)):=
 dj (ac4 (v:= .ty n) hg hm hv rfl hn hd) λ_ _ _ h=>Lg (λ_ _=> .ty n) h
abbrev oN:=D->D->Mem->Out D
def aD(op:oN)(ma mb:ME):ME:=λe M=>(ma e M).bind λd M1=>(mb e M1).bind λd' M2=>op d d' M2
def Qc(K:Frag)(ct:Nat->Addr)(op:oN)(r:R2):Prop:=
 ∀{w:XW} ι M H d d' v v' Q,Rl K ct ι M H->DV K ct ι M.length H d v->DV K ct ι M.length H d' v'->iD (dw K ct) K ct w ι M.length H (op d d' M) Q->r v v' H Q
def fZ(X:Cx)(ct:Nat->Addr)(f:Value->Value->Sem Value)(op:oN):Prop:=∃r,uv X f r/\Qc X.K ct op r
theorem MJ{r:R2}{op:oN}(hs:Qc X.K ct op r){σ:St}{H:Hp}{Q:VK}(h:tG (dw X.K ct) X.K ct W (aD op ma mb) σ H Q):
  tOp r (tG (dw X.K ct) X.K ct W ma) (tG (dw X.K ct) X.K ct W mb) σ H Q:=by
 obtain⟨ι,e,M,w,p⟩:=bG (dm:=dw X.K ct) h
 refine⟨ι,e,M,w,p.mono λx H1 ⟨bO,e1,M1,d1,w1,q1,p1⟩=> ?_⟩
 refine⟨bO,e1,M1,w1,?_⟩
 cases z:mb e1 M1 with
 | bad=>simp only[z,Out.fU]at p1;exact p1
 | exc xc xd xM=>simp only[z,Out.jo]at p1;exact p1
 | ok d2 M2=>
  simp only[z,Out.cN]at p1
  exact λiB y H2 x2 r2 q2=>hs iB M2 H2 d1 d2 x y Q r2 (q1.mono x2) q2 (p1.ext x2)
theorem aL{op:Operator}{Ys:oN}(h:fZ X ct (binaryOp op) Ys)(ha:SE X ct W a ma)(hb:SE X ct W b mb):SE X ct W (.BinOp a op b pos) (aD Ys ma mb):=by
 obtain⟨r,ho,hs⟩:=h
 exact dj (aiG ho ha hb) λσ H Q q=>MJ hs q
theorem cU{op:CmpOp}{Ys:oN}(h:fZ X ct (compareOp op) Ys)(ha:SE X ct W a ma)(hb:SE X ct W b mb)(hm:behindInMarks op b=false):SE X ct W (.Compare a [op] [b] pos) (aD Ys ma mb):=by
 obtain⟨r,ho,hs⟩:=h
 exact dj (ac3 ho ha hb hm) λσ H Q q=>MJ hs q
def U9(d:D)(M:Mem):Out Bool:=match d with
 | .bl b=> .ok b M
 | _=> .bad
def aZ(m:ME):MT:=λe M=>(m e M).bind U9
theorem Qw{t:TE}{m:ME}{σ:St}{H:Hp}{Q:Bool->Hp->Prop}(hi:∀Q,tG (dw X.K ct) X.K ct W m σ H Q->t σ H Q)(h:tG Jj X.K ct W (aZ m) σ H Q):aek t σ H Q:=by
 refine hi _ ?_
 obtain⟨ι,e,M,w,p⟩:=bG (dm:=dw X.K ct) (f:=λd _ M=>U9 d M) h
 refine⟨ι,e,M,w,p.mono λx H1 ⟨bO,e1,M1,d1,w1,q1,p1⟩=> ?_⟩
 cases q1 with
 | bl b=>exact⟨b,rfl,p1 bO b H1 .refl w1.rl rfl⟩
 | _=>exact False.elim p1
theorem aW{op:CmpOp}{Ys:oN}(h:fZ X ct (compareOp op) Ys)(ha:SE X ct W a ma)(hb:SE X ct W b mb)(hm:behindInMarks op b=false):Yp X ct W (.Compare a [op] [b] pos) (aZ (aD Ys ma mb)):=by
 obtain⟨r,ho,hs⟩:=h
 exact PT.imp (acO ho ha hb hm) λσ H Q q=>Qw (λQ q=>MJ hs q) q
theorem qj{m:ME}(h:SE X ct W a m)(he:∀whole,isTrue a X.env whole=(do let v <-whole;standAt a.pos;holding [v] (truthy v)):=by intro _;rfl):Yp X ct W a (aZ m):=
 PT.imp (afy h he) λσ H Q q=>Qw (λQ q=>q) q
def mUn(op:D->Mem->Out D)(ma:ME):ME:=λe M=>(ma e M).bind op
def UnS(X:Cx)(ct:Nat->Addr)(f:Value->Sem Value)(op:D->Mem->Out D):Prop:=∃r,UnR X f r/\∀{w:XW} ι M H d v Q,Rl X.K ct ι M H->DV X.K ct ι M.length H d v->iD (dw X.K ct) X.K ct w ι M.length H (op d M) Q->r v H Q
theorem aep{op:UnaryOp}{Ys:D->Mem->Out D}(h:UnS X ct (unaryOp op) Ys)(ha:SE X ct W a ma):SE X ct W (.UnaryOp op a pos) (mUn Ys ma):=by
 obtain⟨r,ho,hs⟩:=h
 refine dj (aiE ho ha) λσ H Q q=> ?_
 obtain⟨ι,e,M,w,p⟩:=bG (dm:=dw X.K ct) (f:=λd _ M=>Ys d M) q
 exact⟨ι,e,M,w,p.mono λx H1 ⟨bO,e1,M1,d1,w1,q1,p1⟩=>hs bO M1 H1 d1 x Q w1.rl q1 p1⟩
variable{t u:MT}{rest:List Expr}
def aaO(t u:MT):MT:=λe M=>(t e M).bind λk M1=>if k=true then u e M1 else .ok false M1
def V6(t u:MT):MT:=λe M=>(t e M).bind λk M1=>if k=true then .ok true M1 else u e M1
def Rj(t:MT):MT:=λe M=>(t e M).bind λk M1=> .ok (!k) M1
theorem MK(ha:Yp X ct W a t):SW X ct W (.BoolOp .And [a] pos) t:=acK ha
theorem xK(ha:Yp X ct W a t):SW X ct W (.BoolOp .Or [a] pos) t:=afu ha
theorem TF(ha:Yp X ct W a t)(hb:SW X ct W (.BoolOp .And (b::rest) pos) u):SW X ct W (.BoolOp .And (a::b::rest) pos) (aaO t u):=PW.imp (afv ha hb) λσ H Q q=>by
 obtain⟨ι,e,M,w,p⟩:=bG (dm:=Jj) (f:=λk e M1=>if k=true then u e M1 else .ok false M1) q
 refine⟨ι,e,M,w,p.mono λk H1 ⟨bO,e1,M1,d1,w1,q1,p1⟩=> ?_⟩
 have RC:d1=k:=q1;subst RC
 cases d1 with
 | true=>exact⟨bO,e1,M1,w1,p1⟩
 | false=>exact p1 bO false H1 .refl w1.rl rfl
theorem wH(ha:Yp X ct W a t)(hb:SW X ct W (.BoolOp .Or (b::rest) pos) u):SW X ct W (.BoolOp .Or (a::b::rest) pos) (V6 t u):=PW.imp (aiC ha hb) λσ H Q q=>by
 obtain⟨ι,e,M,w,p⟩:=bG (dm:=Jj) (f:=λk e M1=>if k=true then .ok true M1 else u e M1) q
 refine⟨ι,e,M,w,p.mono λk H1 ⟨bO,e1,M1,d1,w1,q1,p1⟩=> ?_⟩
 have RC:d1=k:=q1;subst RC
 cases d1 with
 | false=>exact⟨bO,e1,M1,w1,p1⟩
 | true=>exact p1 bO true H1 .refl w1.rl rfl
theorem DX(ha:Yp X ct W a t):Yp X ct W (.UnaryOp .Not a pos) (Rj t):=PT.imp (afz ha) λσ H Q q=>by
 obtain⟨ι,e,M,w,p⟩:=bG (dm:=Jj) (f:=λk e M1=> .ok (!k) M1) q
 refine⟨ι,e,M,w,p.mono λk H1 ⟨bO,e1,M1,d1,w1,q1,p1⟩=> ?_⟩
 have RC:d1=k:=q1;subst RC
 exact p1 bO _ H1 .refl w1.rl rfl
def Al(ma mb:ME):ME:=λe M=>(ma e M).bind λd M1=>(U9 d M1).bind λk M2=>if k=true then mb e M2 else .ok (.bl false) M2
def Uk(ma mb:ME):ME:=λe M=>(ma e M).bind λd M1=>(U9 d M1).bind λk M2=>if k=true then .ok (.bl true) M2 else mb e M2
def Lx(ma:ME):ME:=λe M=>(ma e M).bind λd M1=>(U9 d M1).bind λk M2=> .ok (.bl (!k)) M2
theorem qw{op}{m:ME}(h:SE X ct W a m):SE X ct W (.BoolOp op [a] pos) m:=afK h
theorem Bf(ha:SE X ct W a ma)(hb:SE X ct W (.BoolOp .And (b::rest) pos) mb):SE X ct W (.BoolOp .And (a::b::rest) pos) (Al ma mb):=dj (afQ ha hb) λσ H Q q=>by
 obtain⟨ι,e,M,w,p⟩:=bG (dm:=dw X.K ct) (f:=λd e M1=>(U9 d M1).bind λk M2=>if k=true then mb e M2 else .ok (.bl false) M2) q
 refine⟨ι,e,M,w,p.mono λx H1 ⟨bO,e1,M1,d1,w1,q1,p1⟩=> ?_⟩
 cases q1 with
 | bl k=>
  refine⟨k,rfl,?_⟩
  simp only[U9,Out.cN]at p1
  cases k with
  | true=>exact⟨bO,e1,M1,w1,p1⟩
  | false=>exact p1 bO _ H1 .refl w1.rl (.bl false)
 | _=>exact False.elim p1
theorem Vw(ha:SE X ct W a ma)(hb:SE X ct W (.BoolOp .Or (b::rest) pos) mb):SE X ct W (.BoolOp .Or (a::b::rest) pos) (Uk ma mb):=dj (aiF ha hb) λσ H Q q=>by
 obtain⟨ι,e,M,w,p⟩:=bG (dm:=dw X.K ct) (f:=λd e M1=>(U9 d M1).bind λk M2=>if k=true then .ok (.bl true) M2 else mb e M2) q
 refine⟨ι,e,M,w,p.mono λx H1 ⟨bO,e1,M1,d1,w1,q1,p1⟩=> ?_⟩
 cases q1 with
 | bl k=>
  refine⟨k,rfl,?_⟩
  simp only[U9,Out.cN]at p1
  cases k with
  | false=>exact⟨bO,e1,M1,w1,p1⟩
  | true=>exact p1 bO _ H1 .refl w1.rl (.bl true)
 | _=>exact False.elim p1
theorem Nf(ha:SE X ct W a ma):SE X ct W (.UnaryOp .Not a pos) (Lx ma):=dj (afL ha) λσ H Q q=>by
 obtain⟨ι,e,M,w,p⟩:=bG (dm:=dw X.K ct) (f:=λd _ M1=>(U9 d M1).bind λk M2=>(Out.ok (D.bl (!k)) M2:Out D)) q
 refine⟨ι,e,M,w,p.mono λx H1 ⟨bO,e1,M1,d1,w1,q1,p1⟩=> ?_⟩
 cases q1 with
 | bl k=>exact⟨k,rfl,p1 bO _ H1 .refl w1.rl (.bl _)⟩
 | _=>exact False.elim p1
def mIf(t:MT)(ma mb:ME):ME:=λe M=>(t e M).bind λk M1=>if k=true then ma e M1 else mb e M1
theorem aia(hc:Yp X ct W c t)(ha:SE X ct W a ma)(hb:SE X ct W b mb):SE X ct W (.IfExp c a b pos) (mIf t ma mb):=dj (aah hc ha hb) λσ H Q q=>by
 obtain⟨ι,e,M,w,p⟩:=bG (dm:=Jj) (f:=λk e M1=>if k=true then ma e M1 else mb e M1) q
 refine⟨ι,e,M,w,p.mono λk H1 ⟨bO,e1,M1,d1,w1,q1,p1⟩=> ?_⟩
 have RC:d1=k:=q1;subst RC
 cases d1 with
 | true=>exact⟨bO,e1,M1,w1,p1⟩
 | false=>exact⟨bO,e1,M1,w1,p1⟩
variable{es:List Expr}{ms:MA}
def aK:MA:=λ_ M=> .ok [] M
def au(m:ME)(ms:MA):MA:=λe M=>(m e M).bind λd M1=>(ms e M1).bind λds M2=> .ok (d::ds) M2
theorem aB:SA X ct W [] aK:=PA.imp aaq λσ H Q ⟨ι,e,M,w,p⟩=>p ι [] H .refl w.rl .nil
theorem ao(ha:SE X ct W a ma)(hr:SA X ct W es ms)(hs:starEach (a::es) X.env=(false,eval a X.env)::starEach es X.env:=by rfl):SA X ct W (a::es) (au ma ms):=PA.imp (VV ha hr hs) λσ H Q q=>by
 obtain⟨ι,e,M,w,p⟩:=bG (dm:=dw X.K ct) (f:=λd e M1=>(ms e M1).bind λds M2=> .ok (d::ds) M2) q
 refine⟨ι,e,M,w,p.mono λx H1 ⟨bO,e1,M1,d1,w1,q1,p1⟩=>⟨bO,e1,M1,w1,?_⟩⟩
 cases z:ms e1 M1 with
 | bad=>simp only[z,Out.fU]at p1;exact p1
 | exc xc xd xM=>simp only[z,Out.jo]at p1;exact p1
 | ok ds M2=>
  simp only[z,Out.cN]at p1
  exact λiB xs H2 x2 r2 q2=>p1 iB (x::xs) H2 x2 r2 (.cons (q1.mono x2) q2)
def lN(ms:MA):ME:=λe M=>(ms e M).bind λds M1=>if ds.length<=sizeLine then .ok (.tup ds) M1 else .bad
def Hh(ms:MA):ME:=λe M=>(ms e M).bind λds M1=>if ds.length<=sizeLine then .ok (.ref M1.length) (M1++[.lst ds])else .bad
theorem Jm{w:XW}{K:Frag}{ι:Nat->Addr}{M:Mem}{H:Hp}{ds:List D}{xs:List V}{Q:VK}{p:Addr}(R:Rl K ct ι M H)(h:iG K ct ι M.length H ds xs)(hp:H p=none)(q:iD (dw K ct) K ct w ι M.length H (.ok (.tup ds) M) Q):Q (.ref p) (upd H p (.tup xs)):=
 q ι (.ref p) _ (Ext.fresh hp) (R.fresh hp) (.tup bh (h.mono (Ext.fresh hp)))
theorem oW{w:XW}{K:Frag}{ι:Nat->Addr}{M:Mem}{H:Hp}{ds:List D}{xs:List V}{Q:VK}{p:Addr}(R:Rl K ct ι M H)(h:iG K ct ι M.length H ds xs)(hp:H p=none)(q:iD (dw K ct) K ct w ι M.length H (.ok (.ref M.length) (M++[.lst ds])) Q):Q (.ref p) (upd H p (.lst xs)):=by
 have el:(M++[MO.lst ds]).length=M.length+1:=by simp
 have x:Ext K ι M.length H (nQ ι M.length p) (M.length+1) (upd H p (.lst xs)):=Ext.new hp
 have e:(nQ ι M.length p) M.length=p:=by unfold nQ;rw[if_pos rfl]
 have dv:DV K ct (nQ ι M.length p) (M++[MO.lst ds]).length (upd H p (.lst xs)) (.ref M.length) (.ref p):=by
  have:=DV.ref (K:=K) (ct:=ct) (ι:=nQ ι M.length p) (n:=(M++[MO.lst ds]).length) (H:=upd H p (.lst xs)) (i:=M.length) (by rw[el];omega)
  rw[e]at this
  exact this
 exact q (nQ ι M.length p) (.ref p) _ (by rw[el];exact x) (R.new hp ⟨xs,bh,h.mono x⟩) dv
theorem cW{x1}(h:SA X ct W es ms):SE X ct W (.Tuple es x1 pos) (lN ms):=dj (afI h) λσ H Q q=>by
 obtain⟨ι,e,M,w,p⟩:=bG (dm:=GZ X.K ct) (f:=λds _ M1=>if ds.length<=sizeLine then .ok (D.tup ds) M1 else .bad) q
 refine⟨ι,e,M,w,p.mono λxs H1 ⟨bO,e1,M1,ds,w1,q1,p1⟩=> ?_⟩
 by_cases z:ds.length<=sizeLine
 ·simp only[z,if_true]at p1
  exact⟨by rw[q1.length];exact z,λpp hp=>Jm w1.rl q1 hp p1⟩
 ·simp only[z,if_false]at p1
  exact p1.elim
theorem xT(h:SA X ct W es ms):SE X ct W (.List es pos) (Hh ms):=dj (afN h) λσ H Q q=>by
 obtain⟨ι,e,M,w,p⟩:=bG (dm:=GZ X.K ct) (f:=λds _ M1=>if ds.length<=sizeLine then .ok (D.ref M1.length) (M1++[.lst ds])else .bad) q
 refine⟨ι,e,M,w,p.mono λxs H1 ⟨bO,e1,M1,ds,w1,q1,p1⟩=> ?_⟩
 by_cases z:ds.length<=sizeLine
 ·simp only[z,if_true]at p1
  exact⟨by rw[q1.length];exact z,λpp hp=>oW w1.rl q1 hp p1⟩
 ·simp only[z,if_false]at p1
  exact p1.elim
noncomputable def mH(cs:List Nat)(f:Str)(d:D)(M:Mem):Out D:=match d with
 | .ref n=>match M[n]? with
  | some (.ins c fs)=>if c∈cs then(match fs.lookup f with
   | some v=> .ok v M
   | none=> .bad)else .bad
  | _=> .bad
 | _=> .bad
def eV(cs:List Nat)(m:ME)(f:Str):ME:=λe M=>(m e M).bind (mH cs f)
def Ko(K:Frag)(ct:Nat->Addr)(f:Str):List Nat->Prop
 | []=>True
 | c::cs=>(Ig K (ct c)/\uw K (ct c) f)/\Ko K ct f cs
theorem Ko.get{K:Frag}{ct:Nat->Addr}{f:Str}:∀{cs:List Nat} {c:Nat},Ko K ct f cs->c∈cs->Ig K (ct c)/\uw K (ct c) f
 | [],_,_,h=>by simp at h
 | c::cs,d,⟨a,r⟩,h=>by
  rcases List.mem_cons.mp h with e | e
  ·subst e;exact a
  ·exact r.get e
theorem lg{K:Frag}{ι:Nat->Addr}{n:Nat}{H:Hp}{i:Nat}{v:V}(h:DV K ct ι n H (.ref i) v):i<n/\v= .ref (ι i):=by cases h with | ref h=>exact⟨h,rfl⟩
theorem bz{cs:List Nat}{f:Str}(hc:Ko X.K ct f cs)(he:SE X ct W a ma)(hb:attributeBase a f X.env (eval a X.env)=eval a X.env:=by rfl):SE X ct W (.Attribute a f pos) (eV cs ma f):=dj (afP he hb) λσ H Q q=>by
 obtain⟨ι,e,M,w,p⟩:=bG (dm:=dw X.K ct) (f:=λd _ M1=>mH cs f d M1) q
 refine⟨ι,e,M,w,p.mono λx H1 ⟨bO,e1,M1,d1,w1,q1,p1⟩=> ?_⟩
 cases d1 with
 | ref n=>
  obtain⟨hn,rfl⟩:=lg q1
  simp only[mH]at p1
  cases z:M1[n]? with
  | none=>simp only[z]at p1;exact p1.elim
  | some o=>
   cases o with
   | ins c fs=>
    simp only[z]at p1
    by_cases hcs:c∈cs
    ·simp only[hcs,if_true]at p1
     cases z2:fs.lookup f with
     | none=>simp only[z2]at p1;exact p1.elim
     | some d=>
      simp only[z2]at p1
      obtain⟨dx,vs,hH,fv⟩:=w1.rl.obj n _ z
      obtain⟨v,hv,dv⟩:=fv.look z2
      exact⟨_,_,dx,vs,v,rfl,hH,(hc.get hcs).1,(hc.get hcs).2,hv,p1 bO v H1 .refl w1.rl dv⟩
    ·simp only[hcs,if_false]at p1
     exact p1.elim
   | _=>simp only[z]at p1;exact p1.elim
 | _=>exact p1.elim
abbrev Fn:=List D->Mem->Out D
def wE(E:XK):XW:=λC dx H=>E (.ref C) (some dx) H
theorem iD.wish{α β:Type}{rel:(Nat->Addr)->Mem->Hp->α->β->Prop}{K:Frag}{ct ι:Nat->Addr}{w w':XW}{n:Nat}{H:Hp}{o:Out α}{Q:β->Hp->Prop}(h:iD rel K ct w ι n H o Q)(x:∀C dx H,w C dx H->w' C dx H):iD rel K ct w' ι n H o Q:=by
 cases o with
 | ok a M=>exact h
 | exc c d M=>exact λiB dx v H2 x2 r q1 q2=>x _ _ _ (h iB dx v H2 x2 r q1 q2)
 | bad=>exact h
theorem iD.toE{α β:Type}{rel:(Nat->Addr)->Mem->Hp->α->β->Prop}{K:Frag}{ct ι:Nat->Addr}{W:a_}{σ:St}{n:Nat}{H:Hp}{o:Out α}{Q:β->Hp->Prop}(h:iD rel K ct (wAt W σ) ι n H o Q):iD rel K ct (wE (EW W σ)) ι n H o Q:=
 h.wish λC dx _ q=>⟨C,dx,rfl,rfl,q⟩
def spS(K:Frag)(ct:Nat->Addr)(fn:Fn)(ar:Nat):Sp:=λvs H Q E=>∃ι ds M,ds.length=ar/\Rl K ct ι M H/\iG K ct ι M.length H ds vs/\iD (dw K ct) K ct (wE E) ι M.length H (fn ds M) Q
inductive Cst:D->V->Value->Prop
 | bl (b:Bool):Cst (.bl b) (.bl b) (.bool b)
 | non:Cst .non .non .none
 | str (x:Str) (t:Tok):Cst (.str x) (.str x) (.str x t)
inductive Cm:List D->List V->List Value->Prop
 | nil:Cm [] [] []
 | cons {d:D} {v:V} {u:Value} {ds:List D} {vs:List V} {us:List Value}:Cst d v u->Cm ds vs us->Cm (d::ds) (v::vs) (u::us)
theorem Cst.dv{K:Frag}{ι:Nat->Addr}{n:Nat}{H:Hp}{d:D}{v:V}{u:Value}(h:Cst d v u):DV K ct ι n H d v:=by
 cases h with
 | bl b=>exact .bl b
 | non=>exact .non
 | str x t=>exact .str x
theorem Cst.val{d:D}{v:V}{u:Value}(h:Cst d v u):RelV v u:=by
 cases h with
 | bl b=>exact rfl
 | non=>exact rfl
 | str x t=>exact⟨_,rfl⟩
theorem Cm.dv{K:Frag}{ι:Nat->Addr}{n:Nat}{H:Hp}{ds:List D}{vs:List V}{us:List Value}(h:Cm ds vs us):iG K ct ι n H ds vs:=by
 induction h with
 | nil=>exact .nil
 | cons c _ ih=>exact .cons c.dv ih
theorem Cm.vals{ds:List D}{vs:List V}{us:List Value}(h:Cm ds vs us):Vals vs us:=by
 induction h with
 | nil=>exact .nil
 | cons c _ ih=>exact .cons c.val ih
def cV(fn:Fn)(ar:Nat)(dv:List D)(ms:MA):ME:=λe M=>(ms e M).bind λds M1=>if(ds++dv).length=ar then fn (ds++dv) M1 else .bad
variable{k:Nat}{f:Addr}{fd:FuncData}{ps:List Str}{fn:Fn}{dv:List D}{wX:List V}{X5:List Value}{x:Str}{p:Pos}
theorem Za{σ:St}{H:Hp}{Q:VK}(hd:Cm dv wX X5)(h:tG (dw X.K ct) X.K ct W (cV fn ps.length dv ms) σ H Q):Zb (spS X.K ct fn ps.length) wX W (tG (GZ X.K ct) X.K ct W ms) σ H Q:=by
 obtain⟨ι,e,M,w,p⟩:=bG (dm:=GZ X.K ct) (f:=λds _ M1=>if(ds++dv).length=ps.length then fn (ds++dv) M1 else .bad) h
 refine⟨ι,e,M,w,p.mono λvs H1 ⟨bO,e1,M1,ds,w1,q1,p1⟩=> ?_⟩
 by_cases z:(ds++dv).length=ps.length
 ·simp only[z,if_true]at p1
  exact⟨bO,ds++dv,M1,z,w1.rl,q1.append hd.dv,p1.toE⟩
 ·simp only[z,if_false]at p1
  exact p1.elim
theorem bD{ar:Nat}(F:aM X.prog X.w X.K X.mg X.base (bT X.prog X.w) k f fd ps (spS X.K ct fn ar))(hx:Tk X W)(hr:gQ k X.A)(hg:Gl X x)(hm:X.mg x=some (.ref f))(hk:keepIn X.K (.ref f)=true)(hb:Binds X.K fd ps X5)(hd:Cm dv wX X5)
  (ha:SA X ct W (a::es) ms) (hdb:(x==("__debug__" : Str))=false:=by decide) (he:starEach (a::es) X.env=(false,eval a X.env)::starEach es X.env:=by rfl) (hpl:(backTo pos (starEach es X.env)).any (·.1)=false:=by rfl) (har:ps.length=ar:=by rfl):SE X ct W (.Call (.Name x p) (a::es) [] pos) (cV fn ar dv ms):=by
 subst har
 exact dj (aal F hr hg hm hk hb hd.vals hx ha hdb he hpl) λσ H Q q=>Za hd q
def uO(k:Nat)(m:Str)(d:D)(M:Mem):Bool:=match d with
 | .ref n=>match M[n]? with
  | some (.ins c fs)=>c==k&&(fs.lookup m).isNone
  | _=>false
 | _=>false
noncomputable def bI(k:Nat)(m:Str)(fn:Fn)(ar:Nat)(dv:List D)(mo:ME)(ms:MA):ME:=λe M=>(mo e M).bind λd M1=>if uO k m d M1=true then(ms e M1).bind λds M2=>if(d::(ds++dv)).length=ar then fn (d::(ds++dv)) M2 else .bad else .bad
theorem aa3{K:Frag}{ι:Nat->Addr}{M:Mem}{H:Hp}{k:Nat}{m:Str}{d:D}{v:V}(R:Rl K ct ι M H)(h:uO k m d M=true)(q:DV K ct ι M.length H d v):∃a dx fs,v= .ref a/\H a=some (.ins (ct k) dx fs)/\fs.lookup m=none:=by
 cases d with
 | ref n=>
  obtain⟨hn,rfl⟩:=lg q
  unfold uO at h
  cases z:M[n]? with
  | none=>simp only[z]at h;cases h
  | some o=>
   cases o with
   | ins c fs=>
    simp only[z,Bool.and_eq_true,beq_iff_eq,Option.isNone_iff_eq_none]at h
    obtain⟨rfl,hl⟩:=h
    obtain⟨dx,vs,hH,fv⟩:=R.obj n _ z
    exact⟨_,dx,vs,rfl,hH,fv.aeH hl⟩
   | _=>simp only[z]at h;cases h
 | _=>exact absurd h xA
theorem Qx{kc:Nat}{m:Str}{mo:ME}{σ:St}{H:Hp}{Q:VK}(hd:Cm dv wX X5)(h:tG (dw X.K ct) X.K ct W (bI kc m fn ps.length dv mo ms) σ H Q):
  Tw (ct kc) m (spS X.K ct fn ps.length) wX W (tG (dw X.K ct) X.K ct W mo) (tG (GZ X.K ct) X.K ct W ms) σ H Q:=by
 obtain⟨ι,e,M,w,p⟩:=bG (dm:=dw X.K ct) (f:=λd e M1=>if uO kc m d M1=true then(ms e M1).bind λds M2=>if(d::(ds++dv)).length=ps.length then fn (d::(ds++dv)) M2 else .bad else .bad) h
 refine⟨ι,e,M,w,p.mono λv H1 ⟨bO,e1,M1,d,w1,q1,p1⟩=> ?_⟩
 cases z:uO kc m d M1 with
 | false=>simp only[z,Bool.false_eq_true,if_false]at p1;exact p1.elim
 | true=>
  simp only[z,if_true]at p1
  obtain⟨a,dx,fs,rfl,hH,hl⟩:=aa3 w1.rl z q1
  refine⟨a,dx,fs,rfl,hH,hl,bO,e1,M1,w1,?_⟩
  cases z2:ms e1 M1 with
  | bad=>simp only[z2,Out.fU]at p1;exact p1
  | exc xc xd xM=>simp only[z2,Out.jo]at p1;exact p1
  | ok ds M2=>
   simp only[z2,Out.cN]at p1
   intro iB vs H2 x2 r2 q2
   by_cases z3:(d::(ds++dv)).length=ps.length
   ·rw[if_pos z3]at p1
    exact⟨iB,_,M2,z3,r2,.cons (q1.mono x2) (q2.append hd.dv),(p1.ext x2).toE⟩
   ·rw[if_neg z3]at p1
    exact p1.elim
variable{o:Expr}{mo:ME}{kc:Nat}{m:Str}{apos:Pos}
theorem bf{ar:Nat}{pl:Sem Bool}(he:SE X ct W o mo)(c:Ig X.K (ct kc))(hm:Meth X.K (ct kc) m f)(F:aM X.prog X.w X.K X.mg X.base (bT X.prog X.w) k f fd ps (spS X.K ct fn ar))(hx:Tk X W)(hr:gQ k X.A)(hb:Binds X.K fd ps X5)(hd:Cm dv wX X5)(ha:SA X ct W (a::es) ms)
  (hst:starEach (a::es) X.env=(false,eval a X.env)::starEach es X.env:=by rfl) (hpl:(backTo pos (starEach es X.env)).any (·.1)=false:=by rfl)
  (ht:eval (.Call (.Attribute o m apos) (a::es) [] pos) X.env=(do
   let ov <-eval o X.env
   standAt apos.atName
   let(f,first) <-holding [ov] (getMethod ov m pl)
   callWith pos f first (backTo pos (starEach (a::es) X.env)) (backToKw pos (keywordEach [] X.env))):=by rfl) (har:ps.length=ar:=by rfl):SE X ct W (.Call (.Attribute o m apos) (a::es) [] pos) (bI kc m fn ar dv mo ms):=by
 subst har
 exact dj (aaf he c hm F hr hb hd.vals hx ha hst hpl ht) λσ H Q q=>Qx hd q
theorem xR{ar:Nat}{pl:Sem Bool}(he:SE X ct W o mo)(c:Ig X.K (ct kc))(hm:Meth X.K (ct kc) m f)(F:aM X.prog X.w X.K X.mg X.base (bT X.prog X.w) k f fd ps (spS X.K ct fn ar))(hx:Tk X W)(hr:gQ k X.A)(hb:Binds X.K fd ps X5)(hd:Cm dv wX X5)
  (ht:eval (.Call (.Attribute o m apos) [] [] pos) X.env=(do
   let ov <-eval o X.env
   standAt apos.atName
   let(f,first) <-holding [ov] (getMethod ov m pl)
   callWith pos f first (backTo pos (starEach [] X.env)) (backToKw pos (keywordEach [] X.env))):=by rfl) (har:ps.length=ar:=by rfl):SE X ct W (.Call (.Attribute o m apos) [] [] pos) (bI kc m fn ar dv mo aK):=by
 subst har
 exact dj (Xl he c hm F hr hb hd.vals hx ht) λσ H Q q=>by
  obtain⟨ι,e,M,w,p⟩:=Qx hd q
  refine⟨ι,e,M,w,p.mono λv H1 ⟨a,dx,fs,e1,e2,e3,bO,e4,M1,w1,p1⟩=>⟨a,dx,fs,e1,e2,e3,p1 bO [] H1 .refl w1.rl .nil⟩⟩
def Ry(d:D):Bool:=match d with
 | .non=>true
 | _=>false
noncomputable def rZ(kc:Nat)(fn:Fn)(ar:Nat)(dv:List D)(ms:MA):ME:=λe M=>(ms e M).bind λds M1=>if(D.ref M1.length::(ds++dv)).length=ar then(fn (.ref M1.length::(ds++dv)) (M1++[.ins kc []])).bind λr M2=>if Ry r=true then .ok (.ref M1.length) M2 else .bad else .bad
theorem Qy{σ:St}{H:Hp}{Q:VK}(hd:Cm dv wX X5)(h:tG (dw X.K ct) X.K ct W (rZ kc fn ps.length dv ms) σ H Q):Tz (ct kc) (spS X.K ct fn ps.length) wX W (tG (GZ X.K ct) X.K ct W ms) σ H Q:=by
 obtain⟨ι,e,M,w,p⟩:=bG (dm:=GZ X.K ct) (f:=λds _ M1=>if(D.ref M1.length::(ds++dv)).length=ps.length then(fn (D.ref M1.length::(ds++dv)) (M1++[.ins kc []])).bind λr M2=>if Ry r=true then .ok (D.ref M1.length) M2 else .bad else .bad) h
 refine⟨ι,e,M,w,p.mono λvs H1 ⟨bO,e1,M1,ds,w1,q1,p1⟩=> ?_⟩
 intro a dx ha hdx ne
 dsimp only at p1
 by_cases z:(D.ref M1.length::(ds++dv)).length=ps.length
 ·rw[if_pos z]at p1
  have ha':upd H1 dx (.own a) a=none:=by rw[aG (Ne.symm ne)];exact ha
  have el:(M1++[MO.ins kc []]).length=M1.length+1:=by simp
  have x1:Ext X.K bO M1.length H1 bO M1.length (upd H1 dx (.own a)):=Ext.fresh hdx
  have r1:Rl X.K ct bO M1 (upd H1 dx (.own a)):=w1.rl.fresh hdx
  have x2:Ext X.K bO M1.length (upd H1 dx (.own a)) (nQ bO M1.length a) (M1.length+1) (upd (upd H1 dx (.own a)) a (.ins (ct kc) dx [])):=Ext.new ha'
  have r2:Rl X.K ct (nQ bO M1.length a) (M1++[MO.ins kc []]) (upd (upd H1 dx (.own a)) a (.ins (ct kc) dx [])):=r1.new ha' ⟨dx,[],bh,.nil⟩
  have e0:(nQ bO M1.length a) M1.length=a:=by unfold nQ;rw[if_pos rfl]
  have dv0:DV X.K ct (nQ bO M1.length a) (M1++[MO.ins kc []]).length (upd (upd H1 dx (.own a)) a (.ins (ct kc) dx [])) (.ref M1.length) (.ref a):=by
   have:=DV.ref (K:=X.K) (ct:=ct) (ι:=nQ bO M1.length a) (n:=(M1++[MO.ins kc []]).length) (H:=upd (upd H1 dx (.own a)) a (.ins (ct kc) dx [])) (i:=M1.length) (by rw[el];omega)
   rw[e0]at this
   exact this
  refine⟨nQ bO M1.length a,_,M1++[.ins kc []],z,r2,.cons dv0 ?_,?_⟩
  ·rw[el];exact(q1.append hd.dv).mono (x1.trans x2)
  ·cases z2:fn (.ref M1.length::(ds++dv)) (M1++[.ins kc []])with
   | bad=>rw[z2]at p1;exact p1
   | exc xc xd xM=>
    rw[z2]at p1
    simp only[Out.jo]at p1
    have p2:=(p1.ext (x1.trans x2)).toE
    rw[el]
    exact λK6 dx3 v3 H3 x3 r3 q3 q4=>p2 K6 dx3 v3 H3 x3 r3 q3 q4
   | ok r M2=>
    rw[z2]at p1
    simp only[Out.cN]at p1
    intro K6 v3 H3 x3 r3 q3
    cases q3 with
    | non=>
     refine⟨rfl,?_⟩
     simp only[Ry,if_true]at p1
     refine p1 K6 (.ref a) H3 ((x1.trans x2).trans (by rw[el]at x3;exact x3)) r3 (dv0.mono x3)
    | _=>exact False.elim p1
 ·rw[if_neg z]at p1
  exact p1.elim
theorem zB{ar:Nat}(Mk0:Mk X.K (ct kc) f)(F:aM X.prog X.w X.K X.mg X.base (bT X.prog X.w) k f fd ps (spS X.K ct fn ar))(hx:Tk X W)(hr:gQ (k+1) X.A)(hg:Gl X x)(hm:X.mg x=some (.ref (ct kc)))(hb:Binds X.K fd ps X5)(hd:Cm dv wX X5)
  (ha:SA X ct W (a::es) ms) (hdb:(x==("__debug__" : Str))=false:=by decide) (he:starEach (a::es) X.env=(false,eval a X.env)::starEach es X.env:=by rfl) (hpl:(backTo pos (starEach es X.env)).any (·.1)=false:=by rfl) (har:ps.length=ar:=by rfl):SE X ct W (.Call (.Name x p) (a::es) [] pos) (rZ kc fn ar dv ms):=by
 subst har
 exact dj (aag Mk0 F hr hg hm hb hd.vals hx ha hdb he hpl) λσ H Q q=>Qy hd q
theorem I_{ar:Nat}(Mk0:Mk X.K (ct kc) f)(F:aM X.prog X.w X.K X.mg X.base (bT X.prog X.w) k f fd ps (spS X.K ct fn ar))(hx:Tk X W)(hr:gQ (k+1) X.A)(hg:Gl X x)(hm:X.mg x=some (.ref (ct kc)))(hb:Binds X.K fd ps X5)(hd:Cm dv wX X5)
  (hdb:(x==("__debug__" : Str))=false:=by decide) (har:ps.length=ar:=by rfl):SE X ct W (.Call (.Name x p) [] [] pos) (rZ kc fn ar dv aK):=by
 subst har
 exact dj (Xm Mk0 F hr hg hm hb hd.vals hx hdb) λσ H Q q=>by
  obtain⟨ι,e,M,w,p⟩:=Qy hd q
  exact p ι [] H .refl w.rl .nil
abbrev Mr:=List D->Mem->Out D
def F_(op:Mr)(ms:MA):ME:=λe M=>(ms e M).bind op
def nu(X:Cx)(ct:Nat->Addr)(f:Value)(op:Mr):Prop:=∃r,j4 X f r/\∀{w:XW} ι M H ds vs Q,Rl X.K ct ι M H->iG X.K ct ι M.length H ds vs->iD (dw X.K ct) X.K ct w ι M.length H (op ds M) Q->r vs H Q
variable{id T:String}{op:Mr}
theorem Zc{r:List V->Hp->VK->Prop}{σ:St}{H:Hp}{Q:VK}(hs:∀{w:XW} ι M H ds vs Q,Rl X.K ct ι M H->iG X.K ct ι M.length H ds vs->iD (dw X.K ct) X.K ct w ι M.length H (op ds M) Q->r vs H Q)
  (h:tG (dw X.K ct) X.K ct W (F_ op ms) σ H Q):tCB r (tG (GZ X.K ct) X.K ct W ms) σ H Q:=by
 obtain⟨ι,e,M,w,p⟩:=bG (dm:=GZ X.K ct) (f:=λds _ M1=>op ds M1) h
 exact⟨ι,e,M,w,p.mono λvs H1 ⟨bO,e1,M1,ds,w1,q1,p1⟩=>hs bO M1 H1 ds vs Q w1.rl q1 p1⟩
theorem cO(h:nu X ct (.builtin id) op)(hg:Gl X x)(hm:X.mg x=none)(hv:bootBuiltins x=some (.builtin id))(ha:SA X ct W (a::es) ms)(hn:x≠ "__name__" := by decide)(hdb:(x==("__debug__" : Str))=false:=by decide)
  (he:starEach (a::es) X.env=(false,eval a X.env)::starEach es X.env:=by rfl) (hpl:(backTo pos (starEach es X.env)).any (·.1)=false:=by rfl):SE X ct W (.Call (.Name x p) (a::es) [] pos) (F_ op ms):=by
 obtain⟨r,hr,hs⟩:=h
 exact dj (Q3 hr hg hm hv ha hn hdb he hpl) λσ H Q q=>Zc hs q
theorem Zo(h:nu X ct (.type T) op)(hg:Gl X x)(hm:X.mg x=none)(hv:bootBuiltins x=some (.type T))(ha:SA X ct W (a::es) ms)(hn:x≠ "__name__" := by decide)(hdb:(x==("__debug__" : Str))=false:=by decide)
  (he:starEach (a::es) X.env=(false,eval a X.env)::starEach es X.env:=by rfl) (hpl:(backTo pos (starEach es X.env)).any (·.1)=false:=by rfl):SE X ct W (.Call (.Name x p) (a::es) [] pos) (F_ op ms):=by
 obtain⟨r,hr,hs⟩:=h
 exact dj (Xn hr hg hm hv ha hn hdb he hpl) λσ H Q q=>Zc hs q
end
section
variable{X:Cx}{ct:Nat->Addr}{W:a_}
theorem nW{K:Frag}{ι:Nat->Addr}{n:Nat}{H:Hp}{i:Int}{v:V}(h:DV K ct ι n H (.int i) v):v= .int i:=by cases h;rfl
theorem mL{K:Frag}{ι:Nat->Addr}{n:Nat}{H:Hp}{i:Str}{v:V}(h:DV K ct ι n H (.str i) v):v= .str i:=by cases h;rfl
theorem UT{K:Frag}{ι:Nat->Addr}{n:Nat}{H:Hp}{ds:List D}{v:V}(h:DV K ct ι n H (.tup ds) v):∃a xs,v= .ref a/\o9 K H a xs/\iG K ct ι n H ds xs:=by cases h with | tup a b=>exact⟨_,_,rfl,o9.of a,b⟩
theorem oJ{K:Frag}{ι:Nat->Addr}{n:Nat}{H:Hp}{ds:List D}{v:V}(h:DV K ct ι n H (.tup ds) v):∃a xs,v= .ref a/\H a=some (.tup xs)/\iG K ct ι n H ds xs:=by cases h with | tup a b=>exact⟨_,_,rfl,a,b⟩
def nj(M:Mem)(n:Nat):Option (List D):=match M[n]? with
 | some (.lst ds)=>some ds
 | _=>none
theorem dM{M:Mem}{n:Nat}{ds:List D}(h:M[n]? = some (.lst ds)):nj M n=some ds:=by unfold nj;rw[h]
theorem jz{M:Mem}{n:Nat}{ds:List D}:nj M n=some ds↔M[n]? = some (.lst ds):=by
 refine⟨λh=> ?_,dM⟩
 unfold nj at h
 split at h
 ·rename_i e;cases h;exact e
 ·cases h
def Eb(M:Mem)(d:D):Option (List D):=match d with
 | .ref n=>nj M n
 | .cl ds=>some ds
 | _=>none
theorem Rl.seq{K:Frag}{ι:Nat->Addr}{M:Mem}{H:Hp}(R:Rl K ct ι M H){d:D}{v:V}{ds:List D}(h:Eb M d=some ds)(q:DV K ct ι M.length H d v):∃a xs,v= .ref a/\pO K H a xs/\iG K ct ι M.length H ds xs:=by
 cases q with
 | @ref i hi=>obtain⟨vs,q,r⟩:=R.obj i _ (jz.mp h);exact⟨_,vs,rfl,pO.of q,r⟩
 | cl h1 h2=>cases h;exact⟨_,_,rfl,h1.sq,h2⟩
 | _=>cases h
noncomputable def Ot(C:Int->Int->Bool)(g:Int->Int->D):oN:=λd e M=>match d,e with
 | .int i,.int j=>if C i j=true then .ok (g i j) M else .bad
 | _,_=> .bad
theorem V0{C:Int->Int->Bool}{P:Int->Int->Prop}{g:Int->Int->D}{gv:Int->Int->V}(hP:∀i j,C i j=true->P i j)(hg:∀(K:Frag) ι n H i j,DV K ct ι n H (g i j) (gv i j)):Qc X.K ct (Ot C g) (rI P gv):=by
 intro w ι M H d d' v v' Q R h h' p
 cases d with
 | int i=>
  cases d' with
  | int j=>
   cases nW h
   cases nW h'
   simp only[Ot]at p
   cases z:C i j with
   | false=>simp only[z,Bool.false_eq_true,if_false]at p;exact p.elim
   | true=>
    simp only[z,if_true]at p
    exact⟨i,j,rfl,rfl,hP i j z,p ι _ H .refl R (hg _ _ _ _ _ _)⟩
  | _=>exact p.elim
 | _=>cases d'<;>exact p.elim
def C1:Int->Int->Bool:=λ_ _=>true
theorem afs{g:Int->Int->V}{x y:V}{H:Hp}{Q:VK}(h:rI (λ_ _=>True) g x y H Q):Yt g x y H Q:=let⟨i,j,a,b,_,q⟩:=h;⟨i,j,a,b,q⟩
theorem Qc.imp{K:Frag}{op:oN}{r r':R2}(h:Qc K ct op r)(i:∀x y H Q,r x y H Q->r' x y H Q):Qc K ct op r':=λι M H d d' v v' Q R a b p=>i _ _ _ _ (h ι M H d d' v v' Q R a b p)
theorem o6{f:Value->Value->Sem Value}{g:Int->Int->D}{gv:Int->Int->V}(h:uv X f (Yt gv))(hg:∀(K:Frag) ι n H i j,DV K ct ι n H (g i j) (gv i j)):fZ X ct f (Ot C1 g):=
 ⟨_,h,Qc.imp (V0 (P:=λ_ _=>True) (λ_ _ _=>trivial) hg) λ_ _ _ _ q=>afs q⟩
theorem zO{f:Value->Value->Sem Value}{C:Int->Int->Bool}{P:Int->Int->Prop}{g:Int->Int->D}{gv:Int->Int->V}(h:uv X f (rI P gv))(hP:∀i j,C i j=true->P i j)(hg:∀(K:Frag) ι n H i j,DV K ct ι n H (g i j) (gv i j)):fZ X ct f (Ot C g):=
 ⟨_,h,V0 hP hg⟩
def uH(a b:oN):oN:=λd e M=>match a d e M with
 | .bad=>b d e M
 | o=>o
theorem Qc.or{K:Frag}{a b:oN}{r r':R2}(ha:Qc K ct a r)(hb:Qc K ct b r'):Qc K ct (uH a b) (λx y H Q=>r x y H Q\/r' x y H Q):=by
 intro w ι M H d d' v v' Q R q q' p
 unfold uH at p
 cases z:a d d' M with
 | ok x M1=>rw[z]at p;exact .inl (ha ι M H d d' v v' Q R q q' (by rw[z];exact p))
 | exc xc xd xM=>rw[z]at p;exact .inl (ha ι M H d d' v v' Q R q q' (by rw[z];exact p))
 | bad=>rw[z]at p;exact .inr (hb ι M H d d' v v' Q R q q' p)
theorem rP{a b:oN}{d e x:D}{M M':Mem}(h:a d e M= .ok x M'):uH a b d e M= .ok x M':=by unfold uH;rw[h]
theorem Js{a b:oN}{d e:D}{M:Mem}(h:a d e M= .bad):uH a b d e M=b d e M:=by unfold uH;rw[h]
theorem fZ.or{f:Value->Value->Sem Value}{a b:oN}(ha:fZ X ct f a)(hb:fZ X ct f b):fZ X ct f (uH a b):=by
 obtain⟨r,h,hs⟩:=ha
 obtain⟨r',h',hs'⟩:=hb
 refine⟨_,h.or h',λι M H d d' v v' Q R q q' p=> ?_⟩
 unfold uH at p
 cases z:a d d' M with
 | ok x M1=>rw[z]at p;exact .inl (hs ι M H d d' v v' Q R q q' (by rw[z];exact p))
 | exc xc xd xM=>rw[z]at p;exact .inl (hs ι M H d d' v v' Q R q q' (by rw[z];exact p))
 | bad=>rw[z]at p;exact .inr (hs' ι M H d d' v v' Q R q q' p)
noncomputable def ag4(i j:Int):Bool:=decide ((-(2 ^ 64)<i/\i<2 ^ 64)\/(-(2 ^ 64)<j/\j<2 ^ 64))
def ag5(_ j:Int):Bool:=decide (0<j/\j<1073741824)
def ajA(_ j:Int):Bool:=decide (0<j)
def Ym(i j:Int):Bool:=decide (0<=j/\j<=1000000/\i.natAbs<2 ^ 64)
def ajz(_ j:Int):Bool:=decide (0<=j)
def aet:oN:=Ot C1 λi j=> .int (i+j)
def Zu:oN:=Ot C1 λi j=> .int (i - j)
def Zz:oN:=Ot ag4 λi j=> .int (i*j)
def m9:oN:=Ot ag5 λi j=> .int (i / j)
def gY:oN:=Ot ajA λi j=> .int (i % j)
def Zx:oN:=Ot Ym λi j=> .int (i ^ j.toNat)
def wR:oN:=Ot Ym λi j=> .int (i*2 ^ j.toNat)
def Bm:oN:=Ot ajz λi j=> .int (i / 2 ^ j.toNat)
def vM:oN:=Ot C1 λi j=> .int (Builtin.bitAnd i j)
def sOr:oN:=Ot C1 λi j=> .int (Builtin.bitOr i j)
def aif:oN:=Ot C1 λi j=> .bl (decide (i<j))
def aik:oN:=Ot C1 λi j=> .bl (decide (i<=j))
def GR:oN:=Ot C1 λi j=> .bl (decide (j<i))
def acB:oN:=Ot C1 λi j=> .bl (decide (j<=i))
theorem ad9:fZ X ct (binaryOp .Add) aet:=o6 af8 λ_ _ _ _ _ _=> .int _
theorem U5:fZ X ct (binaryOp .Sub) Zu:=o6 afU λ_ _ _ _ _ _=> .int _
theorem ad6:fZ X ct (binaryOp .Mult) Zz:=zO afZ (λi j h=>by unfold ag4 at h;exact(decide_eq_true_eq.mp h :)) λ_ _ _ _ _ _=> .int _
theorem mQ:fZ X ct (binaryOp .FloorDiv) m9:=zO ac8 (λi j h=>by unfold ag5 at h;exact(decide_eq_true_eq.mp h :)) λ_ _ _ _ _ _=> .int _
theorem h_:fZ X ct (binaryOp .Mod) gY:=zO af0 (λ_ _ h=>zaj h) λ_ _ _ _ _ _=> .int _
theorem agV:fZ X ct (binaryOp .Pow) Zx:=zO afX (λi j h=>by unfold Ym at h;exact(decide_eq_true_eq.mp h :)) λ_ _ _ _ _ _=> .int _
theorem Fg:fZ X ct (binaryOp .LShift) wR:=zO afW (λi j h=>by unfold Ym at h;exact(decide_eq_true_eq.mp h :)) λ_ _ _ _ _ _=> .int _
theorem y_:fZ X ct (binaryOp .RShift) Bm:=zO afV (λ_ _ h=>zaj h) λ_ _ _ _ _ _=> .int _
theorem nZ:fZ X ct (binaryOp .BitAnd) vM:=o6 af7 λ_ _ _ _ _ _=> .int _
theorem R7:fZ X ct (binaryOp .BitOr) sOr:=o6 aiK λ_ _ _ _ _ _=> .int _
theorem ajw:fZ X ct (compareOp .Lt) aif:=o6 aiL λ_ _ _ _ _ _=> .bl _
theorem ajx:fZ X ct (compareOp .LtE) aik:=o6 aiM λ_ _ _ _ _ _=> .bl _
theorem Du:fZ X ct (compareOp .Gt) GR:=o6 aiN λ_ _ _ _ _ _=> .bl _
theorem aeP:fZ X ct (compareOp .GtE) acB:=o6 aiO λ_ _ _ _ _ _=> .bl _
noncomputable def afn:oN:=λd e M=>match d,e with
 | .ref n,.ref m=>match M[n]?,M[m]? with
  | some (.lst xs),some (.lst ys)=>if xs.length+ys.length<=sizeLine then .ok (.ref M.length) (M++[.lst (xs++ys)])else .bad
  | _,_=> .bad
 | _,_=> .bad
theorem ag2:fZ X ct (binaryOp .Add) afn:=by
 refine⟨_,af6,λι M H d d' v v' Q R h h' p=> ?_⟩
 cases d with
 | ref n=>
  cases d' with
  | ref m=>
   obtain⟨_,rfl⟩:=lg h
   obtain⟨_,rfl⟩:=lg h'
   simp only[afn]at p
   split at p
   ·rename_i xs ys e1 e2
    split at p
    ·rename_i hz
     obtain⟨vs,q,r⟩:=R.obj n _ e1
     obtain⟨vs',q',r'⟩:=R.obj m _ e2
     exact⟨_,_,vs,vs',rfl,rfl,q,q',by rw[r.length,r'.length];exact hz,λpp hp=>oW R (r.append r') hp p⟩
    ·exact p.elim
   ·exact p.elim
  | _=>exact p.elim
 | _=>cases d'<;>exact p.elim
noncomputable def ZR:oN:=λd e M=>match d,e with
 | .str a,.str b=>if a.length+b.length<=sizeLine then .ok (.str (a++b)) M else .bad
 | _,_=> .bad
theorem ad8:fZ X ct (binaryOp .Add) ZR:=by
 refine⟨_,Uc,λι M H d d' v v' Q R h h' p=> ?_⟩
 unfold ZR at p
 split at p
 ·cases mL h
  cases mL h'
  split at p
  ·rename_i hz
   exact⟨_,_,rfl,rfl,hz,p ι _ H .refl R (.str _)⟩
  ·exact p.elim
 ·exact p.elim
noncomputable def Zy:oN:=λd e M=>match d,e with
 | .str a,.int n=>if a.length<=1000/\ -(2 ^ 62)<n/\n<=1000 then .ok (.str (PySem.Txt.mul a n)) M else .bad
 | _,_=> .bad
theorem ad5:fZ X ct (binaryOp .Mult) Zy:=by
 refine⟨_,Ub,λι M H d d' v v' Q R h h' p=> ?_⟩
 unfold Zy at p
 split at p
 ·cases mL h
  cases nW h'
  split at p
  ·rename_i hz
   exact⟨_,_,rfl,rfl,mulOk_of hz.1 hz.2.1 hz.2.2,p ι _ H .refl R (.str _)⟩
  ·exact p.elim
 ·exact p.elim
def QK:oN:=uH Zz Zy
theorem U6:fZ X ct (binaryOp .Mult) QK:=ad6.or ad5
noncomputable def ZM:oN:=λd e M=>match d,e with
 | .tup xs,.tup ys=>if xs.isEmpty=false/\xs.length+ys.length<=sizeLine then .ok (.tup (xs++ys)) M else .bad
 | _,_=> .bad
theorem ad7:fZ X ct (binaryOp .Add) ZM:=by
 refine⟨_,ac9,λι M H d d' v v' Q R h h' p=> ?_⟩
 unfold ZM at p
 split at p
 ·rename_i xs ys
  obtain⟨a,vs,rfl,ha,hd⟩:=oJ h
  obtain⟨b,us,rfl,hb,hd'⟩:=oJ h'
  split at p
  ·rename_i hz
   have l1:=hd.length
   have l2:=hd'.length
   refine⟨a,b,vs,us,rfl,rfl,o9.of ha,o9.of hb,λz=> ?_,by omega,λz=> ?_,λ_ pp hp=>Jm R (hd.append hd') hp p⟩
   ·rw[z]at l1
    have:=hz.1
    cases xs with
    | nil=>cases this
    | cons _ _=>simp at l1
   ·subst z
    have e:ys=[]:=List.length_eq_zero_iff.mp l2.symm
    subst e
    rw[List.append_nil]at p
    exact p ι _ H .refl R (.tup ha hd)
  ·exact p.elim
 ·exact p.elim
def GX:oN:=uH (uH aet afn) (uH ZR ZM)
theorem BW:fZ X ct (binaryOp .Add) GX:=(ad9.or ag2).or (ad8.or ad7)
def afd:oN:=λd e M=>match d,e with
 | .str a,.str b=> .ok (.bl (decide (a.cps.toList<b.cps.toList))) M
 | _,_=> .bad
theorem agX:fZ X ct (compareOp .Lt) afd:=by
 refine⟨_,Xo,λι M H d d' v v' Q R h h' p=> ?_⟩
 unfold afd at p
 split at p
 ·cases mL h
  cases mL h'
  exact⟨_,_,rfl,rfl,p ι _ H .refl R (.bl _)⟩
 ·exact p.elim
noncomputable def iI:List D->Option (List Int)
 | []=>some []
 | .int i::r=>(iI r).map (i:: ·)
 | _=>none
theorem nA{K:Frag}{ι:Nat->Addr}{n:Nat}{H:Hp}:∀{ds:List D} {is:List Int} {vs:List V},iI ds=some is->iG K ct ι n H ds vs->vs=is.map V.int
 | [],_,_,h,.nil=>by cases h;rfl
 | d::r,is,_,h,.cons q qs=>by
  cases q with
  | int i=>
   simp only[iI]at h
   obtain⟨js,h1,rfl⟩:=Option.map_eq_some_iff.mp h
   rw[nA h1 qs]
   rfl
  | _=>simp only[iI]at h;cases h
noncomputable def afc:oN:=λd e M=>match d,e with
 | .tup xs,.tup ys=>match iI xs,iI ys with
  | some is,some js=> .ok (.bl (HT.lexLt is js)) M
  | _,_=> .bad
 | _,_=> .bad
theorem agW(hu:X.A.units+64<cLine):fZ X ct (compareOp .Lt) afc:=by
 refine⟨_,af1 (by omega),λι M H d d' v v' Q R h h' p=> ?_⟩
 unfold afc at p
 split at p
 ·obtain⟨a,vs,rfl,ha,hd⟩:=oJ h
  obtain⟨b,us,rfl,hb,hd'⟩:=oJ h'
  split at p
  ·rename_i is js e1 e2
   have x1:=nA e1 hd
   have x2:=nA e2 hd'
   subst x1 x2
   exact⟨a,b,is,js,rfl,rfl,o9.of ha,o9.of hb,p ι _ H .refl R (.bl _)⟩
  ·exact p.elim
 ·exact p.elim
def sLt:oN:=uH (uH aif afd) afc
theorem BV(hu:X.A.units+64<cLine):fZ X ct (compareOp .Lt) sLt:=(ajw.or agX).or (agW hu)
def acy:D->Mem->Out D:=λd M=>match d with
 | .int i=> .ok (.int (-i)) M
 | _=> .bad
theorem YM:UnS X ct (unaryOp .USub) acy:=⟨_,aeU,λι M H d v Q R h p=>by
 cases d with
 | int i=>cases nW h;exact⟨i,rfl,p ι _ H .refl R (.int _)⟩
 | _=>exact p.elim⟩
noncomputable def Bu(f:D->Option Dt):List D->Option (List Dt)
 | []=>some []
 | d::ds=>match f d,Bu f ds with
  | some t,some ts=>some (t::ts)
  | _,_=>none
noncomputable def jT(M:Mem):Nat->D->Option Dt
 | 0,_=>none
 | k+1,d=>match d with
  | .non=>some .non
  | .bl b=>some (.bl b)
  | .int i=>some (.int i)
  | .str x=>some (.str x)
  | .tup ds=>(Bu (jT M k) ds).map .tup
  | .ref n=>match nj M n with
   | some ds=>(Bu (jT M k) ds).map .lst
   | none=>none
  | .cl ds=>(Bu (jT M k) ds).map .lst
  | .ty _=>none
  | .cls _=>none
  | .exc _ _=>none
  | .m8 _=>none
theorem HJ{K:Frag}{ι:Nat->Addr}{n:Nat}{H:Hp}{k:Nat}{f:D->Option Dt}(hf:∀d t v,f d=some t->DV K ct ι n H d v->Is K H v t/\dep t<=k):
  ∀{ds:List D} {ts:List Dt} {vs:List V},Bu f ds=some ts->iG K ct ι n H ds vs->Hj K H vs ts/\deps ts<=k
 | [],ts,_,h,.nil=>by cases h;exact⟨.nil,by unfold deps;exact Nat.zero_le _⟩
 | d::ds,ts,_,h,.cons q qs=>by
  simp only[Bu]at h
  cases z:f d with
  | none=>rw[z]at h;cases h
  | some t=>
   cases z2:Bu f ds with
   | none=>rw[z,z2]at h;cases h
   | some ts'=>
    rw[z,z2]at h
    cases h
    obtain⟨a,b⟩:=hf d t _ z q
    obtain⟨a',b'⟩:=HJ hf z2 qs
    exact⟨.cons a a',by unfold deps;exact Nat.max_le.mpr ⟨b,b'⟩⟩
theorem CN{K:Frag}{ι:Nat->Addr}{M:Mem}{H:Hp}(R:Rl K ct ι M H):∀(k:Nat) (d:D) (t:Dt) (v:V),jT M k d=some t->DV K ct ι M.length H d v->Is K H v t/\dep t<=k
 | 0,d,t,v,h,_=>by simp only[jT]at h;cases h
 | k+1,d,t,v,h,q=>by
  cases q with
  | non=>simp only[jT]at h;cases h;exact⟨.non,by unfold dep;exact Nat.zero_le _⟩
  | bl b=>simp only[jT]at h;cases h;exact⟨.bl b,by unfold dep;exact Nat.zero_le _⟩
  | int b=>simp only[jT]at h;cases h;exact⟨.int b,by unfold dep;exact Nat.zero_le _⟩
  | str b=>simp only[jT]at h;cases h;exact⟨.str b,by unfold dep;exact Nat.zero_le _⟩
  | ty b=>simp only[jT]at h;cases h
  | cls b=>simp only[jT]at h;cases h
  | exc _ _ _=>simp only[jT]at h;cases h
  | m8 _ _=>simp only[jT]at h;cases h
  | @tup a xs ds hs hd=>
   simp only[jT]at h
   cases z:Bu (jT M k) ds with
   | none=>rw[z]at h;cases h
   | some ts=>
    rw[z]at h
    cases h
    obtain⟨a,b⟩:=HJ (λd t v=>CN R k d t v) z hd
    exact⟨.tup (o9.of hs) a,by unfold dep;omega⟩
  | @ref i hi=>
   simp only[jT]at h
   cases z0:nj M i with
   | none=>rw[z0]at h;cases h
   | some ds=>
    rw[z0]at h
    obtain⟨xs,hs,hd⟩:=R.obj i _ (jz.mp z0)
    cases z:Bu (jT M k) ds with
    | none=>simp only[z]at h;cases h
    | some ts=>
     simp only[z]at h
     cases h
     obtain⟨a,b⟩:=HJ (λd t v=>CN R k d t v) z hd
     exact⟨.lst (pO.of hs) a,by unfold dep;omega⟩
  | @cl a xs ds hs hd=>
   simp only[jT]at h
   cases z:Bu (jT M k) ds with
   | none=>rw[z]at h;cases h
   | some ts=>
    rw[z]at h
    cases h
    obtain⟨a,b⟩:=HJ (λd t v=>CN R k d t v) z hd
    exact⟨.lst hs.sq a,by unfold dep;omega⟩
def RK(M:Mem)(d e:D):Option Bool:=match jT M 12 d,jT M 12 e with
 | some a,some b=>some (bM a b)
 | _,_=>none
def sEq:oN:=λd e M=>match RK M d e with
 | some b=> .ok (.bl b) M
 | none=> .bad
def sNe:oN:=λd e M=>match RK M d e with
 | some b=> .ok (.bl (!b)) M
 | none=> .bad
theorem abr{K:Frag}{ι:Nat->Addr}{M:Mem}{H:Hp}{d e:D}{v u:V}{b:Bool}(R:Rl K ct ι M H)(h:RK M d e=some b)(q:DV K ct ι M.length H d v)(q':DV K ct ι M.length H e u):∃x y,Is K H v x/\Is K H u y/\dep x<=20/\b=bM x y:=by
 unfold RK at h
 cases z:jT M 12 d with
 | none=>rw[z]at h;cases h
 | some x=>
  cases z2:jT M 12 e with
  | none=>rw[z,z2]at h;cases h
  | some y=>
   rw[z,z2]at h
   cases h
   obtain⟨a,c⟩:=CN R 12 d x v z q
   obtain⟨a',_⟩:=CN R 12 e y u z2 q'
   exact⟨x,y,a,a',by omega,rfl⟩
theorem c7(hu:X.A.units+64<cLine):fZ X ct (compareOp .Eq) sEq:=by
 refine⟨_,af4 hu,λι M H d d' v v' Q R h h' p=> ?_⟩
 unfold sEq at p
 cases z:RK M d d' with
 | none=>rw[z]at p;exact p.elim
 | some b=>
  rw[z]at p
  obtain⟨x,y,a,a',hd,rfl⟩:=abr R z h h'
  exact⟨x,y,a,a',hd,p ι _ H .refl R (.bl _)⟩
theorem sH(hu:X.A.units+64<cLine):fZ X ct (compareOp .NotEq) sNe:=by
 refine⟨_,afY hu,λι M H d d' v v' Q R h h' p=> ?_⟩
 unfold sNe at p
 cases z:RK M d d' with
 | none=>rw[z]at p;exact p.elim
 | some b=>
  rw[z]at p
  obtain⟨x,y,a,a',hd,rfl⟩:=abr R z h h'
  exact⟨x,y,a,a',hd,p ι _ H .refl R (.bl _)⟩
def LC(d:D):Bool:=match d with
 | .non=>true
 | _=>false
theorem aa2{K:Frag}{ι:Nat->Addr}{n:Nat}{H:Hp}{d:D}{v:V}(q:DV K ct ι n H d v):decide (v= .non)=LC d:=by
 cases q<;>simp[LC]
def sIs:oN:=λd e M=>match e with
 | .non=> .ok (.bl (LC d)) M
 | _=> .bad
def Ej:oN:=λd e M=>match e with
 | .non=> .ok (.bl (!LC d)) M
 | _=> .bad
theorem Wy:fZ X ct (compareOp .Is) sIs:=by
 refine⟨_,af3,λι M H d d' v v' Q R h h' p=> ?_⟩
 cases h' with
 | non=>exact⟨rfl,p ι _ H .refl R (by rw[aa2 h];exact .bl _)⟩
 | _=>exact p.elim
theorem Ds:fZ X ct (compareOp .IsNot) Ej:=by
 refine⟨_,ac7,λι M H d d' v v' Q R h h' p=> ?_⟩
 cases h' with
 | non=>exact⟨rfl,p ι _ H .refl R (by rw[aa2 h];exact .bl _)⟩
 | _=>exact p.elim
theorem iG.PJ{K:Frag}{ι:Nat->Addr}{n:Nat}{H:Hp}{ds:List D}{vs:List V}{i:Int}{d:D}(h:iG K ct ι n H ds vs)(e:L2.PJ ds i=some d):∃v,L2.PJ vs i=some v/\DV K ct ι n H d v:=by
 unfold L2.PJ at*
 rw[h.length]
 cases z:ixN ds.length i with
 | none=>rw[z]at e;cases e
 | some j=>rw[z]at e;exact h.at e
variable{a b:Expr}{ma mb:ME}{pos:Pos}
section
variable{κ:Type}[DecidableEq κ]
noncomputable def uz(kvs:List (κ×D))(k:κ):Option D:=(kvs.find? λkv=>decide (kv.1=k)).map (·.2)
noncomputable def Xi(kvs:List (κ×D))(k:κ)(d:D):List (κ×D):=if(kvs.any λkv=>decide (kv.1=k))=true then kvs.map (λkv=>if kv.1=k then(kv.1,d)else kv)else kvs++[(k,d)]
variable{K:Frag}{ι:Nat->Addr}{n:Nat}{H:Hp}
theorem Ab.val:∀{kvs:List (κ×D)} {vs:List (κ×V)},Ab K ct ι n H kvs vs->∀k,(∀d,uz kvs k=some d->∃v,zR vs k=some v/\DV K ct ι n H d v)/\(uz kvs k=none->zR vs k=none)
 | _,_,.nil,k=>⟨λd h=>by simp[uz]at h,λ_=>rfl⟩
 | _,_,.cons (x:=x) (d:=d) (v:=v) (fs:=fs) h hs,k=>by
  by_cases e:x=k
  ·have e1:uz ((x,d)::fs) k=some d:=by simp[uz,e]
   rw[e1,Cv (p:=(x,v)) e]
   exact⟨λd' q=>by cases q;exact⟨_,rfl,h⟩,λq=>by cases q⟩
  ·have e1:uz ((x,d)::fs) k=uz fs k:=by simp[uz,e]
   rw[e1,Cw (p:=(x,v)) e]
   exact hs.val k
theorem Ab.any:∀{kvs:List (κ×D)} {vs:List (κ×V)},Ab K ct ι n H kvs vs->∀k,(vs.any λkv=>decide (kv.1=k))=(kvs.any λkv=>decide (kv.1=k))
 | _,_,.nil,_=>rfl
 | _,_,.cons _ hs,k=>by simp only[List.any_cons,hs.any k]
theorem Ab.repl{d:D}{v:V}(hd:DV K ct ι n H d v)(k:κ):∀{kvs:List (κ×D)} {vs:List (κ×V)},Ab K ct ι n H kvs vs->Ab K ct ι n H (kvs.map λkv=>if kv.1=k then(kv.1,d)else kv) (vs.map λkv=>if kv.1=k then(kv.1,v)else kv)
 | _,_,.nil=> .nil
 | _,_,.cons (x:=x) h hs=>by
  simp only[List.map_cons]
  by_cases e:x=k
  ·rw[if_pos e,if_pos e];exact .cons hd (hs.repl hd k)
  ·rw[if_neg e,if_neg e];exact .cons h (hs.repl hd k)
theorem Ab.snoc{d:D}{v:V}(hd:DV K ct ι n H d v)(k:κ):∀{kvs:List (κ×D)} {vs:List (κ×V)},Ab K ct ι n H kvs vs->Ab K ct ι n H (kvs++[(k,d)]) (vs++[(k,v)])
 | _,_,.nil=> .cons hd .nil
 | _,_,.cons h hs=> .cons h (hs.snoc hd k)
theorem Ab.put{d:D}{v:V}{kvs:List (κ×D)}{vs:List (κ×V)}(h:Ab K ct ι n H kvs vs)(hd:DV K ct ι n H d v)(k:κ):Ab K ct ι n H (Xi kvs k d) (putK vs k v):=by
 unfold Xi putK
 rw[h.any k]
 split
 ·exact h.repl hd k
 ·exact h.snoc hd k
end
def toKey:D->Option Key
 | .int i=>some (.inl i)
 | .str s=>some (.inr s)
 | _=>none
noncomputable def toKeys:List D->Option (List Key)
 | []=>some []
 | d::r=>match toKey d,toKeys r with
  | some k,some ks=>some (k::ks)
  | _,_=>none
section
variable{K:Frag}{ι:Nat->Addr}{n:Nat}{H:Hp}
theorem Iu{d:D}{k:Key}{v:V}(h:toKey d=some k)(q:DV K ct ι n H d v):v=kV k:=by
 cases q<;>simp only[toKey]at h<;>cases h<;>rfl
theorem uA:∀{ds:List D} {ks:List Key} {vs:List V},toKeys ds=some ks->iG K ct ι n H ds vs->vs=ks.map kV
 | [],ks,_,h,.nil=>by cases h;rfl
 | d::r,ks,_,h,.cons q qs=>by
  simp only[toKeys]at h
  cases z:toKey d with
  | none=>rw[z]at h;cases h
  | some k=>
   cases z2:toKeys r with
   | none=>rw[z,z2]at h;cases h
   | some kr=>
    rw[z,z2]at h
    cases h
    rw[Iu z q,uA z2 qs]
    rfl
end
noncomputable def BR(M:Mem)(n:Nat)(y:D):Option (Option D×Mem):=match M[n]? with
 | some (.dk kvs)=>match toKey y with
  | some k=>some (uz kvs k,M)
  | none=>match y with
   | .tup ds=>match toKeys ds with
    | some _=>if kvs.isEmpty=true then some (none,M.set n (.dt []))else none
    | none=>none
   | _=>none
 | some (.dt kvs)=>match y with
  | .tup ds=>match toKeys ds with
   | some k=>some (uz kvs k,M)
   | none=>none
  | _=>none
 | _=>none
theorem Ia{K:Frag}{ι:Nat->Addr}{M M':Mem}{H:Hp}{n:Nat}{y:D}{vy:V}{o:Option D}(R:Rl K ct ι M H)(h:BR M n y=some (o,M'))(hn:n<M.length)(q:DV K ct ι M.length H y vy):
  ∃ov H',Ve H (ι n) vy ov H'/\Ext K ι M.length H ι M'.length H'/\Rl K ct ι M' H'/\(∀d,o=some d->∃v,ov=some v/\DV K ct ι M'.length H' d v/\H'=H/\M'=M)/\(o=none->ov=none):=by
 unfold BR at h
 split at h
 ·rename_i kvs e
  obtain⟨vs,hH,pv⟩:=R.obj n _ e
  split at h
  ·rename_i k ek
   cases h
   have ey:=Iu ek q
   subst ey
   refine⟨zR vs k,H,.inl ⟨Ck.k hH,rfl⟩,.refl,R,λd hd=> ?_,λhd=>(pv.val k).2 hd⟩
   obtain⟨v,h1,h2⟩:=(pv.val k).1 d hd
   exact⟨v,h1,h2,rfl,rfl⟩
  ·split at h
   ·rename_i ds
    split at h
    ·rename_i ks eks
     split at h
     ·rename_i hem
      cases h
      have ek:kvs=[]:=List.isEmpty_iff.mp hem
      subst ek
      cases pv
      obtain⟨b,xs,rfl,hb,hd⟩:=oJ q
      have ex:=uA eks hd
      subst ex
      have x2:Ext K ι M.length H ι M.length (upd H (ι n) (.dT [])):=Ext.chg hH (λ_ z=>nomatch z) (λ_ _ z=>nomatch z)
      refine⟨none,upd H (ι n) (.dT []),.inr ⟨hH,⟨ks,b,rfl,hb⟩,rfl,rfl⟩,by rw[List.length_set];exact x2,R.chg hn hH (λ_ z=>nomatch z) (λ_ _ z=>nomatch z) ⟨[],bh,.nil⟩,(λd hd=>nomatch hd),λ_=>rfl⟩
     ·cases h
    ·cases h
   ·cases h
 ·rename_i kvs e
  obtain⟨vs,hH,pv⟩:=R.obj n _ e
  split at h
  ·rename_i ds
   split at h
   ·rename_i ks eks
    cases h
    obtain⟨b,xs,rfl,hb,hd⟩:=oJ q
    have ex:=uA eks hd
    subst ex
    refine⟨zR vs ks,H,.inl ⟨Ck.t hH hb,rfl⟩,.refl,R,λd hd=> ?_,λhd=>(pv.val ks).2 hd⟩
    obtain⟨v,h1,h2⟩:=(pv.val ks).1 d hd
    exact⟨v,h1,h2,rfl,rfl⟩
   ·cases h
  ·cases h
 ·cases h
noncomputable def afj:oN:=λd y M=>match d with
 | .ref n=>match BR M n y with
  | some (some v,_)=> .ok v M
  | _=> .bad
 | _=> .bad
theorem afT{K:Frag}:Qc K ct afj aiz:=by
 intro w ι M H d d' v v' Q R h h' p
 cases d with
 | ref n=>
  obtain⟨hn,rfl⟩:=lg h
  simp only[afj]at p
  split at p
  ·rename_i x M' e
   obtain⟨ov,H',g,_,_,h1,_⟩:=Ia R e hn h'
   obtain⟨vx,rfl,dv,rfl,rfl⟩:=h1 x rfl
   rcases g with⟨g,_⟩ | ⟨_,_,z,_⟩
   ·exact⟨_,vx,rfl,g,p ι vx _ .refl R dv⟩
   ·cases z
  ·exact p.elim
 | _=>exact p.elim
def T3:oN:=λd e M=>match e with
 | .int i=>match d with
  | .tup ds=>match L2.PJ ds i with
   | some x=> .ok x M
   | none=> .bad
  | d=>match Eb M d with
   | some ds=>match L2.PJ ds i with
    | some x=> .ok x M
    | none=> .bad
   | none=> .bad
 | _=> .bad
theorem afS:Qc X.K ct T3 (λx y H Q=>aiy X.K x y H Q\/aiw X.K x y H Q):=by
 intro w ι M H d d' v v' Q R h h' p
 cases d' with
 | int i=>
  cases nW h'
  cases d with
  | tup ds=>
   obtain⟨aa,xs,rfl,hs,hd⟩:=UT h
   simp only[T3]at p
   cases z:L2.PJ ds i with
   | none=>rw[z]at p;exact p.elim
   | some x=>
    rw[z]at p
    obtain⟨v,e,dv⟩:=hd.PJ z
    exact .inr ⟨_,_,_,_,rfl,rfl,hs,e,p ι v H .refl R dv⟩
  | _=>
   simp only[T3]at p
   split at p
   ·rename_i ds z0
    obtain⟨aa,xs,rfl,hs,hd⟩:=R.seq z0 h
    cases z:L2.PJ ds i with
    | none=>rw[z]at p;exact p.elim
    | some x=>
     rw[z]at p
     obtain⟨v,e,dv⟩:=hd.PJ z
     exact .inl ⟨_,_,_,_,rfl,rfl,hs,e,p ι v H .refl R dv⟩
   ·exact p.elim
 | _=>exact p.elim
def afi:oN:=λd e M=>match d,e with
 | .str z,.int i=>match L2.PJ z.cps.toList i with
  | some c=>if z.length<=sizeLine then .ok (.str ⟨#[c]⟩) M else .bad
  | none=> .bad
 | _,_=> .bad
theorem afR{K:Frag}:Qc K ct afi aix:=by
 intro w ι M H d d' v v' Q R h h' p
 unfold afi at p
 split at p
 ·rename_i z i
  cases mL h
  cases nW h'
  cases e:L2.PJ z.cps.toList i with
  | none=>rw[e]at p;exact p.elim
  | some c=>
   rw[e]at p
   dsimp only at p
   split at p
   ·rename_i hz
    exact⟨z,i,c,rfl,rfl,hz,e,p ι _ H .refl R (.str _)⟩
   ·exact p.elim
 ·exact p.elim
def bN:oN:=uH (uH T3 afj) afi
theorem bw(hu:X.A.units+64<cLine)(ha:SE X ct W a ma)(hb:SE X ct W b mb)(hs:WR b:=by exact λ_ _=>rfl):SE X ct W (.Subscript a b pos) (aD bN ma mb):=
 dj (aiH (((adw.or ago).or (adx (by omega))).or agp) ha hb hs) λσ H Q q=>MJ (Qc.or (Qc.or afS afT) afR) q
noncomputable def T4(neg:Bool):oN:=λy x M=>match x with
 | .ref n=>match BR M n y with
  | some (o,M')=> .ok (.bl (if neg=true then !o.isSome else o.isSome)) M'
  | none=> .bad
 | _=> .bad
theorem aas{K:Frag}{neg:Bool}:Qc K ct (T4 neg) (aft neg):=by
 intro w ι M H d d' v v' Q R h h' p
 cases d' with
 | ref n=>
  obtain⟨hn,rfl⟩:=lg h'
  simp only[T4]at p
  cases e:BR M n d with
  | none=>rw[e]at p;exact p.elim
  | some oM=>
   obtain⟨o,M'⟩:=oM
   rw[e]at p
   obtain⟨ov,H',g,x,R',h1,h2⟩:=Ia R e hn h
   have es:ov.isSome=o.isSome:=by
    cases o with
    | none=>rw[h2 rfl];rfl
    | some d=>obtain⟨v,rfl,_⟩:=h1 d rfl;rfl
   exact⟨_,ov,H',rfl,g,by rw[es];exact p ι _ H' x R' (.bl _)⟩
 | _=>cases d<;>exact p.elim
noncomputable def Tq:D->Option V
 | .non=>some .non
 | .bl b=>some (.bl b)
 | .int i=>some (.int i)
 | .str s=>some (.str s)
 | _=>none
noncomputable def Qp:List D->Option (List V)
 | []=>some []
 | d::r=>match Tq d,Qp r with
  | some v,some vs=>some (v::vs)
  | _,_=>none
theorem Vo{K:Frag}{ι:Nat->Addr}{n:Nat}{H:Hp}{d:D}{u v:V}(h:Tq d=some u)(q:DV K ct ι n H d v):v=u/\Av u=true:=by
 cases q<;>simp only[Tq]at h<;>cases h<;>exact⟨rfl,rfl⟩
theorem Vn{K:Frag}{ι:Nat->Addr}{n:Nat}{H:Hp}:∀{ds:List D} {us vs:List V},Qp ds=some us->iG K ct ι n H ds vs->vs=us/\us.all Av=true
 | [],_,_,h,.nil=>by cases h;exact⟨rfl,rfl⟩
 | d::r,us,_,h,.cons q qs=>by
  simp only[Qp]at h
  cases z:Tq d with
  | none=>rw[z]at h;cases h
  | some u=>
   cases z2:Qp r with
   | none=>rw[z,z2]at h;cases h
   | some ur=>
    rw[z,z2]at h
    cases h
    obtain⟨rfl,f1⟩:=Vo z q
    obtain⟨rfl,f2⟩:=Vn z2 qs
    exact⟨rfl,by simp[f1,f2]⟩
theorem ag1(hu:X.A.units+64<cLine):fZ X ct (compareOp .In) (T4 false):=⟨_,af5 (by omega),aas⟩
theorem Yj(hu:X.A.units+64<cLine):fZ X ct (compareOp .NotIn) (T4 true):=⟨_,Xr (by omega),aas⟩
def cut{α:Type}(xs:List α)(lo hi:Option Int):List α:=(xs.drop (HT.bN xs.length 0 lo)).take (HT.bN xs.length xs.length hi - HT.bN xs.length 0 lo)
theorem iG.cut{K:Frag}{ι:Nat->Addr}{n:Nat}{H:Hp}{ds:List D}{vs:List V}(h:iG K ct ι n H ds vs)(lo hi:Option Int):iG K ct ι n H (S.cut ds lo hi) (RV vs lo hi):=by
 unfold S.cut RV
 rw[h.length]
 exact(h.drop _).take _
abbrev MO':=Sl->Mem->Out (Option Int)
def alb:(Nat->Addr)->Mem->Hp->Option Int->Option Int->Prop:=λ_ _ _ a b=>a=b
def SO(X:Cx)(ct:Nat->Addr)(W:a_)(e:Option Expr)(m:MO'):Prop:=PO X e (tG alb X.K ct W m)
def asI(d:D)(M:Mem):Out (Option Int):=match d with
 | .int i=> .ok (some i) M
 | _=> .bad
def Ob:MO':=λ_ M=> .ok none M
def Lw(m:ME):MO':=λe M=>(m e M).bind asI
theorem Vt:SO X ct W none Ob:=λpins s σ H Q I ⟨ι,e,M,w,p⟩=>acX pins s σ H Q I (p ι none H .refl w.rl rfl)
theorem Hv(h:SE X ct W a ma):SO X ct W (some a) (Lw ma):=λpins s σ H Q I q=>acW h pins s σ H Q I (by
 obtain⟨ι,e,M,w,p⟩:=bG (dm:=dw X.K ct) (f:=λd _ M1=>asI d M1) q
 refine⟨ι,e,M,w,p.mono λv H1 ⟨bO,e1,M1,d,w1,q1,p1⟩=> ?_⟩
 cases q1 with
 | int i=>exact⟨i,rfl,p1 bO _ H1 .refl w1.rl rfl⟩
 | _=>exact p1.elim)
noncomputable def sSl(d:D)(lo hi:Option Int)(M:Mem):Out D:=match d with
 | .tup ds=>if HT.bN ds.length 0 lo=0/\HT.bN ds.length ds.length hi=ds.length then .bad else .ok (.tup (cut ds lo hi)) M
 | .str u=>if u.length<=sizeLine then .ok (.str (Txt.slice u lo hi)) M else .bad
 | d=>match Eb M d with
  | some ds=> .ok (.ref M.length) (M++[.lst (cut ds lo hi)])
  | none=> .bad
def mSl(m:ME)(lo hi:MO'):ME:=λe M=>(m e M).bind λd M1=>(lo e M1).bind λl M2=>(hi e M2).bind λh M3=>sSl d l h M3
theorem Zn{lo hi:Option Expr}{ml mh:MO'}{p2:Pos}(ha:SE X ct W a ma)(hl:SO X ct W lo ml)(hh:SO X ct W hi mh):SE X ct W (.Subscript a (.Slice lo hi none p2) pos) (mSl ma ml mh):=by
 refine dj (aae ((acp.or ae6).or ae7) ha hl hh) λσ H Q q=> ?_
 obtain⟨ι,e,M,w,p⟩:=bG (dm:=dw X.K ct) (f:=λd e M1=>(ml e M1).bind λl M2=>(mh e M2).bind λh M3=>sSl d l h M3) q
 refine⟨ι,e,M,w,p.mono λv H1 ⟨bO,e1,M1,d,w1,q1,p1⟩=> ?_⟩
 refine⟨bO,e1,M1,w1,?_⟩
 cases z:ml e1 M1 with
 | bad=>simp only[z,Out.fU]at p1;exact p1
 | exc xc xd xM=>simp only[z,Out.jo]at p1;exact p1
 | ok l M2=>
  simp only[z,Out.cN]at p1
  intro iB l' H2 x2 r2 el
  have RC:l=l':=el;subst RC
  refine⟨iB,e1,M2,w1.ext x2 r2,?_⟩
  have p2:=p1.ext x2
  cases z2:mh e1 M2 with
  | bad=>simp only[z2,Out.fU]at p2;exact p2
  | exc xc xd xM=>simp only[z2,Out.jo]at p2;exact p2
  | ok h M3=>
   simp only[z2,Out.cN]at p2
   intro K6 h' H3 x3 r3 eh
   have RC:h=h':=eh;subst RC
   have p3:=p2.ext x3
   have q3:=(q1.mono x2).mono x3
   cases d with
   | tup ds=>
    obtain⟨aa,xs,rfl,hs,hd⟩:=UT q3
    simp only[sSl]at p3
    split at p3
    ·exact p3.elim
    ·rename_i hw
     exact .inl (.inr ⟨_,_,rfl,hs,by rw[hd.length];exact hw,λpp hp=>Jm r3 (hd.cut l h) hp p3⟩)
   | str u=>
    cases mL q3
    simp only[sSl]at p3
    split at p3
    ·rename_i hz
     exact .inr ⟨u,rfl,hz,p3 K6 _ H3 .refl r3 (.str _)⟩
    ·exact p3.elim
   | _=>
    simp only[sSl]at p3
    split at p3
    ·rename_i ds z0
     obtain⟨aa,xs,rfl,hs,hd⟩:=r3.seq z0 q3
     exact .inl (.inl ⟨_,_,rfl,hs,λpp hp=>oW r3 (hd.cut l h) hp p3⟩)
    ·exact p3.elim
theorem z_{K:Frag}{ι:Nat->Addr}{n:Nat}{H:Hp}{d:D}{vs:List V}(h:iG K ct ι n H [d] vs):∃v,vs=[v]/\DV K ct ι n H d v:=by
 cases h with | cons a b=>cases b;exact⟨_,rfl,a⟩
theorem agD{K:Frag}{ι:Nat->Addr}{n:Nat}{H:Hp}{d d':D}{vs:List V}(h:iG K ct ι n H [d,d'] vs):∃v v',vs=[v,v']/\DV K ct ι n H d v/\DV K ct ι n H d' v':=by
 cases h with | cons a b=>obtain⟨v,rfl,q⟩:=z_ b;exact⟨_,_,rfl,a,q⟩
def Fy(M:Mem)(d:D):Option (List D):=match d with
 | .tup ds=>some ds
 | .m8 ds=>some ds
 | d=>Eb M d
theorem Rl.seqs{K:Frag}{ι:Nat->Addr}{M:Mem}{H:Hp}(R:Rl K ct ι M H){d:D}{v:V}{ds:List D}(h:Fy M d=some ds)(q:DV K ct ι M.length H d v):∃a xs,v= .ref a/\(pO K H a xs\/o9 K H a xs)/\iG K ct ι M.length H ds xs:=by
 cases d with
 | tup es=>cases h;obtain⟨a,xs,e,hs,hd⟩:=UT q;exact⟨a,xs,e,.inr hs,hd⟩
 | m8 es=>cases h;cases q with | m8 h1 h2=>exact⟨_,_,rfl,.inr (.inr h1),h2⟩
 | _=>simp only[Fy]at h;obtain⟨a,xs,e,hs,hd⟩:=R.seq h q;exact⟨a,xs,e,.inl hs,hd⟩
noncomputable def VB:Mr:=λds M=>match ds with
 | [d]=>match Fy M d with
  | some es=> .ok (.int es.length) M
  | none=> .bad
 | _=> .bad
theorem adW:nu X ct (.builtin "len") VB:=by
 refine⟨_,Pr,λι M H ds vs Q R h p=> ?_⟩
 unfold VB at p
 split at p
 ·rename_i d
  obtain⟨v,rfl,q⟩:=z_ h
  cases z:Fy M d with
  | none=>rw[z]at p;exact p.elim
  | some es=>
   rw[z]at p
   obtain⟨a,xs,rfl,hs,hd⟩:=R.seqs z q
   exact⟨_,xs,rfl,hs,p ι _ H .refl R (by rw[hd.length];exact .int _)⟩
 ·exact p.elim
def orN(a b:Mr):Mr:=λds M=>match a ds M with
 | .bad=>b ds M
 | o=>o
theorem nu.or{f:Value}{a b:Mr}(ha:nu X ct f a)(hb:nu X ct f b):nu X ct f (orN a b):=by
 obtain⟨r,h,hs⟩:=ha
 obtain⟨r',h',hs'⟩:=hb
 refine⟨_,h.or h',λι M H ds vs Q R q p=> ?_⟩
 unfold orN at p
 cases z:a ds M with
 | ok x M1=>rw[z]at p;exact .inl (hs ι M H ds vs Q R q (by rw[z];exact p))
 | exc xc xd xM=>rw[z]at p;exact .inl (hs ι M H ds vs Q R q (by rw[z];exact p))
 | bad=>rw[z]at p;exact .inr (hs' ι M H ds vs Q R q p)
theorem aau{a b:Mr}{ds:List D}{x:D}{M M':Mem}(h:a ds M= .ok x M'):orN a b ds M= .ok x M':=by unfold orN;rw[h]
noncomputable def ZD:Mr:=λds M=>match ds with
 | [.ref n]=>match M[n]? with
  | some (.dk kvs)=> .ok (.int kvs.length) M
  | some (.dt kvs)=> .ok (.int kvs.length) M
  | _=> .bad
 | _=> .bad
theorem adX:nu X ct (.builtin "len") ZD:=by
 refine⟨_,Yd.or Yc,λι M H ds vs Q R h p=> ?_⟩
 unfold ZD at p
 split at p
 ·rename_i n
  obtain⟨v,rfl,q⟩:=z_ h
  obtain⟨hn,rfl⟩:=lg q
  split at p
  ·rename_i kvs e
   obtain⟨ys,hH,pv⟩:=R.obj n _ e
   exact .inl ⟨_,ys,rfl,hH,by rw[pv.length];exact p ι _ H .refl R (.int _)⟩
  ·rename_i kvs e
   obtain⟨ys,hH,pv⟩:=R.obj n _ e
   exact .inr ⟨_,ys,rfl,hH,by rw[pv.length];exact p ι _ H .refl R (.int _)⟩
  ·exact p.elim
 ·exact p.elim
noncomputable def Xd(neg:Bool):oN:=λy x M=>match Tq y,Fy M x with
 | some v,some ds=>match Qp ds with
  | some vs=> .ok (.bl (if neg=true then !inV v vs else inV v vs)) M
  | none=> .bad
 | _,_=> .bad
theorem aar{K:Frag}{neg:Bool}:Qc K ct (Xd neg) (rIn K neg):=by
 intro w ι M H d d' v v' Q R h h' p
 unfold Xd at p
 split at p
 ·rename_i u ds e1 e2
  obtain⟨rfl,f1⟩:=Vo e1 h
  obtain⟨a,xs,rfl,hs,hd⟩:=R.seqs e2 h'
  cases e3:Qp ds with
  | none=>rw[e3]at p;exact p.elim
  | some us=>
   rw[e3]at p
   obtain⟨rfl,f2⟩:=Vn e3 hd
   exact⟨a,_,rfl,hs,f1,f2,p ι _ H .refl R (.bl _)⟩
 ·exact p.elim
def sIn:oN:=uH (T4 false) (Xd false)
def TY:oN:=uH (T4 true) (Xd true)
theorem Wz(hu:X.A.units+64<cLine):fZ X ct (compareOp .In) sIn:=(ag1 hu).or ⟨_,Xq,aar⟩
theorem abC(hu:X.A.units+64<cLine):fZ X ct (compareOp .NotIn) TY:=(Yj hu).or ⟨_,Nx,aar⟩
noncomputable def ZC:Mr:=λds M=>match ds with
 | [.str z]=>if z.length<=sizeLine then .ok (.int z.length) M else .bad
 | _=> .bad
theorem adV:nu X ct (.builtin "len") ZC:=by
 refine⟨_,Pq,λι M H ds vs Q R h p=> ?_⟩
 unfold ZC at p
 split at p
 ·obtain⟨v,rfl,q⟩:=z_ h
  cases mL q
  split at p
  ·rename_i hz
   exact⟨_,rfl,hz,p ι _ H .refl R (.int _)⟩
  ·exact p.elim
 ·exact p.elim
def zX:Mr:=orN (orN VB ZD) ZC
theorem q_:nu X ct (.builtin "len") zX:=(adW.or adX).or adV
noncomputable def QL:Mr:=λds M=>match ds with
 | [.int i,.int j]=> .ok (.int (if j > i then j else i)) M
 | _=> .bad
def Vz:Mr:=λds M=>match ds with
 | [.int i,.int j]=> .ok (.int (if j<i then j else i)) M
 | _=> .bad
theorem Wu(hc:X.calm=true):nu X ct (.builtin "max") QL:=by
 refine⟨_,Yb hc,λι M H ds vs Q R h p=> ?_⟩
 unfold QL at p
 split at p
 ·obtain⟨v,v',rfl,q,q'⟩:=agD h
  cases nW q
  cases nW q'
  exact⟨_,_,rfl,p ι _ H .refl R (.int _)⟩
 ·exact p.elim
theorem adU(hc:X.calm=true):nu X ct (.builtin "min") Vz:=by
 refine⟨_,X_ hc,λι M H ds vs Q R h p=> ?_⟩
 unfold Vz at p
 split at p
 ·obtain⟨v,v',rfl,q,q'⟩:=agD h
  cases nW q
  cases nW q'
  exact⟨_,_,rfl,p ι _ H .refl R (.int _)⟩
 ·exact p.elim
noncomputable def tyN(M:Mem)(d:D):Option String:=match d with
 | .non=>some "NoneType"
 | .bl _=>some "bool"
 | .int _=>some "int"
 | .str _=>some "str"
 | .tup _=>some "tuple"
 | .ref n=>(nj M n).map λ_=> "list"
 | .cl _=>some "list"
 | _=>none
def ae3(a b:String):Bool:=a==b||(a== "bool" && b== "int")
noncomputable def vz:List String:=["NoneType","bool","int","str","tuple","list"]
theorem adu{K:Frag}:∀a∈vz,∀b∈vz,kitOne K (.type a) (.type b)=some (ae3 a b):=by
 intro a ha b hb
 simp only[vz,List.mem_cons,List.not_mem_nil,or_false]at ha hb
 rcases ha with rfl | rfl | rfl | rfl | rfl | rfl<;>rcases hb with rfl | rfl | rfl | rfl | rfl | rfl<;>with_unfolding_all rfl
noncomputable def QM:Mr:=λds M=>match ds with
 | [d,.ty b]=>match tyN M d with
  | some a=>if b∈vz then .ok (.bl (ae3 a b)) M else .bad
  | none=> .bad
 | _=> .bad
@[irreducible] def Z3(K:Frag):List V->Hp->VK->Prop:=λxs H Q=>∃x n b,xs=[x,.ty n]/\Q (.bl b) H/\
 ((∃t,Fl K H x t/\kitOne K t (.type n)=some b)\/(∃a ys,x= .ref a/\o9 K H a ys/\kitOne K (.type "tuple") (.type n)=some b)\/(∃a ys,x= .ref a/\pO K H a ys/\kitOne K (.type "list") (.type n)=some b))
theorem Ye:j4 X (.builtin "isinstance") (Z3 X.K):=by
 intro pins s σ H xs us Q I r h
 unfold Z3 at h
 obtain⟨x,n,b,rfl,q,h⟩:=h
 obtain⟨u,v,rfl,rx,rc⟩:=vals2 r
 obtain rfl:v= .type n:=rc
 rcases h with⟨t,ty,e⟩ | ⟨a,ys,rfl,hs,e⟩ | ⟨a,ys,rfl,hs,e⟩
 ·exact XQ I rx ty e λtk=>⟨.bl b,H,I.tok tk,rfl,q⟩
 ·cases(show u=Value.ref a from rx)
  obtain⟨its,_,⟨o,h1,h2,_⟩,_⟩:=I.tuple hs
  exact jI PySem.W.kitx_tuple I.uW ⟨o,h1,h2⟩ e (λz=>nomatch z) λtk=>⟨.bl b,H,I.tok tk,rfl,q⟩
 ·cases(show u=Value.ref a from rx)
  obtain⟨its,_,⟨o,n',h1,h2,_⟩,_⟩:=I.list hs
  exact jI PySem.W.kitx_list I.uW ⟨o,h1,h2⟩ e (λz=>nomatch z) λtk=>⟨.bl b,H,I.tok tk,rfl,q⟩
theorem abz:nu X ct (.builtin "isinstance") QM:=by
 refine⟨_,Ye,λι M H ds vs Q R h p=> ?_⟩
 unfold QM at p
 split at p
 ·rename_i d n
  obtain⟨v,v',rfl,q,q'⟩:=agD h
  cases q'
  unfold Z3
  cases z:tyN M d with
  | none=>rw[z]at p;exact p.elim
  | some a=>
   rw[z]at p
   by_cases hn:n∈vz
   ·simp only[hn,if_true]at p
    have ha:a∈vz:=by
     unfold tyN at z
     cases d with
     | ref m=>
      cases z1:nj M m with
      | none=>simp only[z1]at z;cases z
      | some es=>simp only[z1]at z;cases z;show "list" ∈ vz;decide
     | ty _=>cases z
     | cls _=>cases z
     | exc _ _=>cases z
     | m8 _=>cases z
     | _=>cases z;decide
    have e:=adu (K:=X.K) a ha n hn
    refine⟨v,n,ae3 a n,rfl,p ι _ H .refl R (.bl _),?_⟩
    cases q with
    | non=>cases z;exact .inl ⟨_,.non,e⟩
    | bl b=>cases z;exact .inl ⟨_,.bl b,e⟩
    | int b=>cases z;exact .inl ⟨_,.int b,e⟩
    | str b=>cases z;exact .inl ⟨_,.str b,e⟩
    | tup hs hd=>cases z;exact .inr (.inl ⟨_,_,rfl,o9.of hs,e⟩)
    | @ref i hi=>
     simp only[tyN]at z
     cases z1:nj M i with
     | none=>rw[z1]at z;cases z
     | some es=>
      rw[z1]at z
      cases z
      obtain⟨xs,hs,hd⟩:=R.obj i _ (jz.mp z1)
      exact .inr (.inr ⟨_,_,rfl,pO.of hs,e⟩)
    | cl hs hd=>cases z;exact .inr (.inr ⟨_,_,rfl,hs.sq,e⟩)
    | ty b=>cases z
    | cls b=>cases z
    | exc _ _ _=>cases z
    | m8 _ _=>cases z
   ·simp only[hn,if_false]at p
    exact p.elim
 ·exact p.elim
def MtS(X:Cx)(ct:Nat->Addr)(T id:String)(op:D->List D->Mem->Out D):Prop:=∃r,MtR X id r/\∀{w:XW} ι M H d ds v vs Q,Rl X.K ct ι M H->DV X.K ct ι M.length H d v->iG X.K ct ι M.length H ds vs->iD (dw X.K ct) X.K ct w ι M.length H (op d ds M) Q->r v vs H Q
noncomputable def WY(T:String)(d:D)(M:Mem):Bool:=match d with
 | .int _=>T== "int"
 | .str _=>T== "str"
 | .ref n=>T== "list" && (nj M n).isSome
 | _=>false
theorem YT{K:Frag}{ι:Nat->Addr}{M:Mem}{H:Hp}{T:String}{d:D}{v:V}(R:Rl K ct ι M H)(h:WY T d M=true)(q:DV K ct ι M.length H d v):tyV K T v H:=by
 cases q with
 | int i=>exact beq_iff_eq.mp h
 | str i=>exact beq_iff_eq.mp h
 | @ref i hi=>
  simp only[WY,Bool.and_eq_true,beq_iff_eq]at h
  obtain⟨e,h2⟩:=h
  obtain⟨ds,z⟩:=Option.isSome_iff_exists.mp h2
  obtain⟨xs,hs,_⟩:=R.obj i _ (jz.mp z)
  exact .inl ⟨e,xs,pO.of hs⟩
 | _=>exact absurd h xA
def mBM(T:String)(op:D->List D->Mem->Out D)(mo:ME)(ms:MA):ME:=λe M=>(mo e M).bind λd M1=>if WY T d M1=true then(ms e M1).bind λds M2=>op d ds M2 else .bad
variable{o:Expr}{es:List Expr}{mo:ME}{ms:MA}{name:Str}{apos cpos:Pos}{T id:String}{op:D->List D->Mem->Out D}
theorem ae8(pa:PlainAttrs T)(slot:Slot T name id)(hty:typeOf (.builtin id)=pure (.type "method_descriptor"))(hm:MtS X ct T id op)(ho:SE X ct W o mo)
  (hbase:attributeBase o name X.env (eval o X.env)=eval o X.env:=by rfl) (hline:(apos.endLine==cpos.line)=true:=by rfl):SE X ct W (.Call (.Attribute o name apos) [] [] cpos) (mBM T op mo aK):=by
 obtain⟨r,hr,hs⟩:=hm
 refine dj (aam pa slot hty hr ho hbase hline) λσ H Q q=> ?_
 obtain⟨ι,e,M,w,p⟩:=bG (dm:=dw X.K ct) (f:=λd e M1=>if WY T d M1=true then(aK e M1).bind λds M2=>op d ds M2 else .bad) q
 refine⟨ι,e,M,w,p.mono λv H1 ⟨bO,e1,M1,d,w1,q1,p1⟩=> ?_⟩
 cases z:WY T d M1 with
 | false=>simp only[z,Bool.false_eq_true,if_false]at p1;exact p1.elim
 | true=>
  simp only[z,if_true,aK,Out.cN]at p1
  exact⟨YT w1.rl z q1,hs bO M1 H1 d [] v [] Q w1.rl q1 .nil p1⟩
theorem Zq(pa:PlainAttrs T)(slot:Slot T name id)(hty:typeOf (.builtin id)=pure (.type "method_descriptor"))(hm:MtS X ct T id op)(ho:SE X ct W o mo)(ha:SA X ct W (a::es) ms)
  (hbase:attributeBase o name X.env (eval o X.env)=eval o X.env:=by rfl)
  (hfew:((backTo cpos (starEach (a::es) X.env)).all (λx=> !x.1)&&(backToKw cpos (keywordEach [] X.env)).all (λx=>x.1.isSome)
   && decide ((a::es).length+([]:List Keyword).length+(if([]:List Keyword).isEmpty then 0 else 1)<30))=true:=by rfl)
  (hline:(apos.endLine==cpos.line)=true:=by rfl) (hs:starEach (a::es) X.env=(false,eval a X.env)::starEach es X.env:=by rfl) (hplain:(backTo cpos (starEach es X.env)).any (·.1)=false:=by rfl):
  SE X ct W (.Call (.Attribute o name apos) (a::es) [] cpos) (mBM T op mo ms):=by
 obtain⟨r,hr,hss⟩:=hm
 refine dj (aiI pa slot hty hr ho ha hbase hfew hline hs hplain) λσ H Q q=> ?_
 obtain⟨ι,e,M,w,p⟩:=bG (dm:=dw X.K ct) (f:=λd e M1=>if WY T d M1=true then(ms e M1).bind λds M2=>op d ds M2 else .bad) q
 refine⟨ι,e,M,w,p.mono λv H1 ⟨bO,e1,M1,d,w1,q1,p1⟩=> ?_⟩
 cases z:WY T d M1 with
 | false=>simp only[z,Bool.false_eq_true,if_false]at p1;exact p1.elim
 | true=>
  simp only[z,if_true]at p1
  refine⟨YT w1.rl z q1,bO,e1,M1,w1,?_⟩
  cases z2:ms e1 M1 with
  | bad=>simp only[z2,Out.fU]at p1;exact p1
  | exc xc xd xM=>simp only[z2,Out.jo]at p1;exact p1
  | ok ds M2=>
   simp only[z2,Out.cN]at p1
   exact λiB vs H2 x2 r2 q2=>hss iB M2 H2 d ds v vs Q r2 (q1.mono x2) q2 (p1.ext x2)
noncomputable def C_:D->List D->Mem->Out D:=λd ds M=>match d,ds with
 | .ref n,[x]=>match M[n]? with
  | some (.lst es)=>if es.length<sizeLine then .ok .non (M.set n (.lst (es++[x])))else .bad
  | _=> .bad
 | _,_=> .bad
theorem Xx:MtS X ct "list" "list.append" C_:=by
 refine⟨_,Xw,λι M H d ds v vs Q R q qs p=> ?_⟩
 unfold C_ at p
 split at p
 ·rename_i n x
  obtain⟨hn,rfl⟩:=lg q
  obtain⟨y,rfl,qy⟩:=z_ qs
  split at p
  ·rename_i es e1
   split at p
   ·rename_i hz
    obtain⟨xs,hH,hd⟩:=R.obj n _ e1
    have x2:Ext X.K ι M.length H ι M.length (upd H (ι n) (.lst (xs++[y]))):=Ext.chg hH (λ_ z=>nomatch z) (λ_ _ z=>nomatch z)
    refine⟨_,xs,y,rfl,rfl,hH,by rw[hd.length];exact hz,?_⟩
    refine p ι .non _ (by rw[List.length_set];exact x2) (R.chg hn hH (λ_ z=>nomatch z) (λ_ _ z=>nomatch z) ⟨_,bh,(hd.append (.cons qy .nil)).mono x2⟩) .non
   ·exact p.elim
  ·exact p.elim
 ·exact p.elim
noncomputable def VD:D->List D->Mem->Out D:=λd ds M=>match d,ds with
 | .int i,[]=> .ok (.int (Builtin.Int.intBits i:Nat)) M
 | _,_=> .bad
theorem adl:MtS X ct "int" "int.bit_length" VD:=by
 refine⟨_,adi,λι M H d ds v vs Q R q qs p=> ?_⟩
 unfold VD at p
 split at p
 ·cases nW q
  cases qs
  exact⟨_,rfl,rfl,p ι _ H .refl R (.int _)⟩
 ·exact p.elim
end
inductive gP where
 | next (e:Sl) (M:Mem) | ret (d:D) (M:Mem) | brk (e:Sl) (M:Mem) | cont (e:Sl) (M:Mem) | exc (c:Nat) (d:D) (e:Sl) (M:Mem) | bad
abbrev MS:=Sl->Mem->gP
def o_(K:Frag)(ct:Nat->Addr)(W:a_)(ι:Nat->Addr)(n:Nat)(H:Hp)(o:gP)(T:Ends):Prop:=match o with
 | .next e M=>∀ι' σ' H',Ext K ι n H ι' M.length H'->Ws K ct ι' e M σ' H'->T.nx σ' H'
 | .ret d M=>∀ι' v H',Ext K ι n H ι' M.length H'->Rl K ct ι' M H'->DV K ct ι' M.length H' d v->T.rt v H'
 | .brk e M=>∀ι' σ' H',Ext K ι n H ι' M.length H'->Ws K ct ι' e M σ' H'->T.bk σ' H'
 | .cont e M=>∀ι' σ' H',Ext K ι n H ι' M.length H'->Ws K ct ι' e M σ' H'->T.ct σ' H'
 | .exc c d e M=>∀ι' σ' dx v H',Ext K ι n H ι' M.length H'->Ws K ct ι' e M σ' H'->H' dx=some (.xd [("at",v)])->DV K ct ι' M.length H' d v->W (ct c) dx σ' H'
 | .bad=>False
def tS(K:Frag)(ct:Nat->Addr)(W:a_)(m:MS):TS:=λT σ H=>∃ι e M,Ws K ct ι e M σ H/\o_ K ct W ι M.length H (m e M) T
def SS(X:Cx)(ct:Nat->Addr)(W:a_)(st:Stmt)(m:MS):Prop:=PS X st (tS X.K ct W m)
def Yv(X:Cx)(ct:Nat->Addr)(W:a_)(st:List Stmt)(m:MS):Prop:=Gm X st (tS X.K ct W m)
theorem o_.ext{K:Frag}{ct ι ι':Nat->Addr}{W:a_}{n n':Nat}{H H':Hp}{o:gP}{T:Ends}(h:o_ K ct W ι n H o T)(x:Ext K ι n H ι' n' H'):o_ K ct W ι' n' H' o T:=by
 cases o with
 | next e M=>exact λiB b H2 x2 w=>h iB b H2 (x.trans x2) w
 | ret d M=>exact λiB b H2 x2 r q=>h iB b H2 (x.trans x2) r q
 | brk e M=>exact λiB b H2 x2 w=>h iB b H2 (x.trans x2) w
 | cont e M=>exact λiB b H2 x2 w=>h iB b H2 (x.trans x2) w
 | exc c d e M=>exact λiB b dx v H2 x2 w q1 q2=>h iB b dx v H2 (x.trans x2) w q1 q2
 | bad=>exact h
def Br{α:Type}(e:Sl)(o:Out α)(f:α->Mem->gP):gP:=match o with
 | .ok a M=>f a M
 | .exc c d M=> .exc c d e M
 | .bad=> .bad
@[simp] theorem NZ{α:Type}(e:Sl)(a:α)(M:Mem)(f:α->Mem->gP):Br e (.ok a M) f=f a M:=id rfl
@[simp] theorem HF{α:Type}(e:Sl)(c:Nat)(d:D)(M:Mem)(f:α->Mem->gP):Br e (.exc c d M:Out α) f= .exc c d e M:=id rfl
@[simp] theorem HH{α:Type}(e:Sl)(f:α->Mem->gP):Br e (.bad:Out α) f= .bad:=id rfl
theorem pR{α β:Type}{rel:(Nat->Addr)->Mem->Hp->α->β->Prop}{K:Frag}{ct:Nat->Addr}{W:a_}{m:Sl->Mem->Out α}{f:α->Sl->Mem->gP}{σ:St}{H:Hp}{T:Ends}
  (h:tS K ct W (λe M=>Br e (m e M) λa M1=>f a e M1) T σ H):tG rel K ct W m σ H (λb H1=>∃ι e M a,Ws K ct ι e M σ H1/\rel ι M H1 a b/\o_ K ct W ι M.length H1 (f a e M) T):=by
 obtain⟨ι,e,M,w,p⟩:=h
 refine⟨ι,e,M,w,?_⟩
 cases z:m e M with
 | bad=>simp only[z,HH]at p;exact p
 | exc xc xd xM=>simp only[z,HF]at p;exact λbO dx v H1 x r q1 q2=>p bO σ dx v H1 x (w.ext x r) q1 q2
 | ok a M1=>
  simp only[z,NZ]at p
  exact λbO b H1 x r q=>⟨bO,e,M1,a,w.ext x r,q,p.ext x⟩
section
variable{X:Cx}{ct:Nat->Addr}{W:a_}{st:Stmt}{rest:List Stmt}{s t:MS}{a:Expr}{ma:ME}{pos:Pos}
theorem PS.imp{st:Stmt}{t t':TS}(h:PS X st t)(hi:∀T σ H,t' T σ H->t T σ H):PS X st t':=λpins s σ H T I q=>h pins s σ H T I (hi T σ H q)
theorem Gm.imp{st:List Stmt}{t t':TS}(h:Gm X st t)(hi:∀T σ H,t' T σ H->t T σ H):Gm X st t':=λpins s σ H T I q=>h pins s σ H T I (hi T σ H q)
def cj:MS:=λe M=> .next e M
noncomputable def aR(s t:MS):MS:=λe M=>match s e M with
 | .next e' M'=>t e' M'
 | o=>o
theorem Y9{T:Ends}{σ:St}{H:Hp}(h:tS X.K ct W cj T σ H):ael T σ H:=let⟨ι,_,_,w,p⟩:=h;p ι σ H .refl w
theorem bF:Yv X ct W [] cj:=Gm.imp acP λT σ H q=>Y9 q
theorem aA(h1:SS X ct W st s)(h2:Yv X ct W rest t):Yv X ct W (st::rest) (aR s t):=Gm.imp (Z6 h1 h2) λT σ H ⟨ι,e,M,w,p⟩=>by
 refine⟨ι,e,M,w,?_⟩
 unfold aR at p
 cases z:s e M with
 | next e' M'=>rw[z]at p;exact λι' σ' H' x w'=>⟨ι',e',M',w',p.ext x⟩
 | ret d M'=>rw[z]at p;exact p
 | brk d M'=>rw[z]at p;exact p
 | cont d M'=>rw[z]at p;exact p
 | exc c d e M'=>rw[z]at p;exact p
 | bad=>rw[z]at p;exact p
theorem aF(h1:SS X ct W st s):Yv X ct W [st] s:=VJ h1
def T5:MS:=λ_ _=> .bad
theorem uB:SS X ct W st T5:=λ_ _ _ _ _ _ ⟨_,_,_,_,p⟩=>p.elim
noncomputable def yg(m:ME):MS:=λe M=>Br e (m e M) λ_ M1=> .next e M1
theorem pU(he:SE X ct W a ma)(hs:swapsWith a none pos.line X.env=pure false:=by rfl):SS X ct W (.Expr a pos) (yg ma):=PS.imp (acT he hs) λT σ H q=>by
 obtain⟨ι,e,M,w,p⟩:=pR (rel:=dw X.K ct) (f:=λ_ e M1=> .next e M1) q
 exact⟨ι,e,M,w,p.mono λv H1 ⟨bO,e1,M1,d,w1,q1,p1⟩=>p1 bO σ H1 .refl w1⟩
noncomputable def bJ(m:ME):MS:=λe M=>Br e (m e M) λd M1=> .ret d M1
theorem aP(he:SE X ct W a ma):SS X ct W (.Return (some a) pos) (bJ ma):=PS.imp (afB he) λT σ H q=>by
 obtain⟨ι,e,M,w,p⟩:=pR (rel:=dw X.K ct) (f:=λd e M1=> .ret d M1) q
 exact⟨ι,e,M,w,p.mono λv H1 ⟨bO,e1,M1,d,w1,q1,p1⟩=>p1 bO v H1 .refl w1.rl q1⟩
def Zv:MS:=λ_ M=> .ret .non M
theorem acj:SS X ct W (.Return none pos) Zv:=PS.imp acR λT σ H ⟨ι,_,_,w,p⟩=>p ι .non H .refl w.rl .non
noncomputable def qe(c:MT)(s t:MS):MS:=λe M=>Br e (c e M) λk M1=>if k=true then s e M1 else t e M1
theorem bU{c:Expr}{b b':List Stmt}{mc:MT}(hc:Yp X ct W c mc)(ha:Yv X ct W b s)(hb:Yv X ct W b' t):SS X ct W (.If c b b' pos) (qe mc s t):=PS.imp (aiD hc ha hb) λT σ H q=>by
 obtain⟨ι,e,M,w,p⟩:=pR (rel:=Jj) (f:=λk e M1=>if k=true then s e M1 else t e M1) q
 refine⟨ι,e,M,w,p.mono λk H1 ⟨bO,e1,M1,d,w1,q1,p1⟩=> ?_⟩
 have RC:d=k:=q1;subst RC
 cases d with
 | true=>exact⟨bO,e1,M1,w1,p1⟩
 | false=>exact⟨bO,e1,M1,w1,p1⟩
abbrev Tg:=D->Sl->Option Sl
abbrev Tgs:=List D->Sl->Option Sl
def aeR(K:Frag)(ct ι:Nat->Addr)(M:Mem)(H:Hp)(o:Option Sl)(Q:St->Hp->Prop):Prop:=match o with
 | some e'=>∀σ',Ws K ct ι e' M σ' H->Q σ' H
 | none=>False
def tT(K:Frag)(ct:Nat->Addr)(g:Tg):TG:=λv σ H Q=>∃ι e M d,Ws K ct ι e M σ H/\DV K ct ι M.length H d v/\aeR K ct ι M H (g d e) Q
def tTs(K:Frag)(ct:Nat->Addr)(g:Tgs):TGs:=λvs σ H Q=>∃ι e M ds,Ws K ct ι e M σ H/\iG K ct ι M.length H ds vs/\aeR K ct ι M H (g ds e) Q
def SG(X:Cx)(ct:Nat->Addr)(tg:Expr)(g:Tg):Prop:=PG X tg (tT X.K ct g)
def SGs(X:Cx)(ct:Nat->Addr)(tg:List Expr)(g:Tgs):Prop:=PGs X tg (tTs X.K ct g)
theorem PG.imp{tg:Expr}{t t':TG}(h:PG X tg t)(hi:∀v σ H Q,t' v σ H Q->t v σ H Q):PG X tg t':=λpins s σ H v u Q I r q=>h pins s σ H v u Q I r (hi v σ H Q q)
theorem PGs.imp{tg:List Expr}{t t':TGs}(h:PGs X tg t)(hi:∀v σ H Q,t' v σ H Q->t v σ H Q):PGs X tg t':=λpins s σ H v u Q I r q=>h pins s σ H v u Q I r (hi v σ H Q q)
def gN(i:Nat):Tg:=λd e=>some (e.set i (some d))
theorem jt{i:Nat}{x:Str}(hN:X.N.Nodup)(hi:X.N[i]? = some x)(hx:Loc X.env.scope x)(hf:X.fn x=true\/X.env.scope.names.lookup x=some .local:=by first | exact .inl rfl | exact .inr rfl | assumption):SG X ct (.Name x pos) (gN i):=
 PG.imp (ac0 hN hi hx hf) λv σ H Q ⟨ι,e,M,d,w,q,p⟩=>p _ (w.set i q)
def JX:Tgs:=λds e=>match ds with
 | []=>some e
 | _=>none
noncomputable def k_(g:Tg)(gs:Tgs):Tgs:=λds e=>match ds with
 | d::r=>(g d e).bind λe'=>gs r e'
 | []=>none
theorem Vv:SGs X ct [] JX:=PGs.imp acZ λvs σ H Q ⟨ι,e,M,ds,w,q,p⟩=>by
 cases q with
 | nil=>exact⟨rfl,p σ w⟩
 | cons _ _=>exact p.elim
theorem uE{es:List Expr}{g:Tg}{gs:Tgs}(h1:SG X ct a g)(h2:SGs X ct es gs)
  (hs:(assignEach (a::es) X.env).map (·.2)=assign a X.env::(assignEach es X.env).map (·.2):=by rfl):SGs X ct (a::es) (k_ g gs):=PGs.imp (aac h1 h2 hs) λvs σ H Q ⟨ι,e,M,ds,w,q,p⟩=>by
 cases q with
 | nil=>exact p.elim
 | @cons d x ds xs h hs=>
  refine⟨x,xs,rfl,ι,e,M,d,w,h,?_⟩
  simp only[k_]at p
  cases z:g d e with
  | none=>rw[z]at p;exact p.elim
  | some e'=>rw[z]at p;exact λσ' w'=>⟨ι,e',M,ds,w',hs,p⟩
def gT(n:Nat)(gs:Tgs):Tg:=λd e=>match d with
 | .tup ds=>if ds.length=n then gs ds e else none
 | _=>none
theorem Zk{es:List Expr}{k:Nat}{gs:Tgs}{n:Nat}(hc:X.calm=true)(h:SGs X ct es gs)
  (hn:(assignEach es X.env).length=n:=by rfl) (hst:(assignEach es X.env).findIdx? (·.1)=none:=by rfl):SG X ct (.Tuple es k pos) (gT n gs):=PG.imp (afG hc h hn hst) λv σ H Q ⟨ι,e,M,d,w,q,p⟩=>by
 cases q with
 | @tup a xs ds hs hd=>
  simp only[gT]at p
  split at p
  ·rename_i hl
   exact⟨a,xs,rfl,o9.of hs,by rw[hd.length];exact hl,ι,e,M,ds,w,hd,p⟩
  ·exact p.elim
 | _=>exact p.elim
noncomputable def cP(m:ME)(g:Tg):MS:=λe M=>Br e (m e M) λd M1=>match g d e with
 | some e'=> .next e' M1
 | none=> .bad
theorem Vq{te:TE}{tg:TG}{m:ME}{g:Tg}{T:Ends}{σ:St}{H:Hp}(he:∀Q,tG (dw X.K ct) X.K ct W m σ H Q->te σ H Q)(hg:∀v H Q,tT X.K ct g v σ H Q->tg v σ H Q)(h:tS X.K ct W (cP m g) T σ H):ae2 te tg T σ H:=by
 refine he _ ?_
 obtain⟨ι,e,M,w,p⟩:=pR (rel:=dw X.K ct) (f:=λd e M1=>match g d e with
  | some e'=> .next e' M1
  | none=> .bad) h
 refine⟨ι,e,M,w,p.mono λv H1 ⟨bO,e1,M1,d,w1,q1,p1⟩=>hg _ _ _ ⟨bO,e1,M1,d,w1,q1,?_⟩⟩
 cases z:g d e1 with
 | none=>rw[z]at p1;exact p1
 | some e'=>rw[z]at p1;exact λσ' w'=>p1 bO σ' H1 .refl w'
theorem ae4{tg:Expr}{g:Tg}(he:SE X ct W a ma)(hg:SG X ct tg g)(hs:swapsWithSole [tg] a pos.line X.env=pure false:=by rfl)(hw:swappedStores [tg] a X.env=pure none:=by rfl)
  (h1:(assignEach [tg] X.env).map (·.2)=[assign tg X.env]:=by rfl):SS X ct W (.Assign [tg] a pos) (cP ma g):=PS.imp (afE he hg hs hw h1) λT σ H q=>Vq (λ_ q=>q) (λ_ _ _ q=>q) q
theorem aX{i:Nat}{x:Str}{pos':Pos}(hN:X.N.Nodup)(hi:X.N[i]? = some x)(hx:Loc X.env.scope x)(he:SE X ct W a ma)(hs:swapsWith a (some (.Name x pos')) pos.line X.env=pure false:=by rfl)(hf:X.fn x=true\/X.env.scope.names.lookup x=some .local:=by first | exact .inl rfl | exact .inr rfl | assumption):
  SS X ct W (.Assign [.Name x pos'] a pos) (cP ma (gN i)):=PS.imp (afA hN hi hx he hs hf) λT σ H q=>Vq (λ_ q=>q) (λv H Q ⟨ι,e,M,d,w,q,p⟩=>p _ (w.set i q)) q
noncomputable def gR(cs:List Nat)(f:Str)(d:D)(o:D)(M:Mem):Option Mem:=match o with
 | .ref n=>match M[n]? with
  | some (.ins c fs)=>if c∈cs/\fs.length<1000 then some (M.set n (.ins c (putD f d fs)))else none
  | _=>none
 | _=>none
noncomputable def cZ(cs:List Nat)(mo mv:ME)(f:Str):MS:=λe M=>Br e (mv e M) λd M1=>Br e (mo e M1) λo M2=>match gR cs f d o M2 with
 | some M3=> .next e M3
 | none=> .bad
theorem Mu.put{K:Frag}{ι:Nat->Addr}{n:Nat}{H:Hp}{f:Str}{d:D}{v:V}(h:DV K ct ι n H d v):∀{fs:List (Str×D)} {vs:List (Str×V)},Mu K ct ι n H fs vs->Mu K ct ι n H (putD f d fs) (tL f v vs)
 | _,_,.nil=> .cons h .nil
 | _,_,.cons (x:=x) h' hs=>by
  unfold putD tL
  by_cases e:x=f
  ·rw[if_pos e,if_pos e];exact .cons h hs
  ·rw[if_neg e,if_neg e];exact .cons h' (hs.put h)
theorem bZ{o:Expr}{mo:ME}{cs:List Nat}{f:Str}{pos':Pos}(hc:Ko X.K ct f cs)(ho:SE X ct W o mo)(hv:SE X ct W a ma)(hs:swapsWith a (some (.Attribute o f pos')) pos.line X.env=pure false:=by rfl):
  SS X ct W (.Assign [.Attribute o f pos'] a pos) (cZ cs mo ma f):=PS.imp (afD ho hv hs) λT σ H q=>by
 obtain⟨ι,e,M,w,p⟩:=pR (rel:=dw X.K ct) (f:=λd e M1=>Br e (mo e M1) λo M2=>match gR cs f d o M2 with
  | some M3=> .next e M3
  | none=> .bad) q
 refine⟨ι,e,M,w,p.mono λy H1 ⟨bO,e1,M1,d,w1,q1,p1⟩=>⟨bO,e1,M1,w1,?_⟩⟩
 cases z:mo e1 M1 with
 | bad=>simp only[z,HH]at p1;exact p1
 | exc xc xd xM=>simp only[z,HF]at p1;exact λiB dx v H2 x r q1 q2=>p1 iB σ dx v H2 x (w1.ext x r) q1 q2
 | ok o' M2=>
  simp only[z,NZ]at p1
  intro iB x H2 x2 r2 q2
  have p2:=p1.ext x2
  have w2:=w1.ext x2 r2
  have qd:=q1.mono x2
  cases q2 with
  | @ref n hn=>
   simp only[gR]at p2
   cases z0:M2[n]? with
   | none=>rw[z0]at p2;exact p2.elim
   | some ob=>
    cases ob with
    | lst _=>rw[z0]at p2;exact p2.elim
    | dk _=>rw[z0]at p2;exact p2.elim
    | dt _=>rw[z0]at p2;exact p2.elim
    | fd _=>rw[z0]at p2;exact p2.elim
    | ins c fs=>
     simp only[z0]at p2
     by_cases hcs:c∈cs/\fs.length<1000
     ·rw[if_pos hcs]at p2
      obtain⟨dx,vs,hH,fv⟩:=r2.obj n _ z0
      have x3:Ext X.K iB M2.length H2 iB M2.length (upd H2 (iB n) (.ins (ct c) dx (tL f y vs))):=Ext.chg hH (λ_ z=>nomatch z) (λ_ _ z=>nomatch z)
      refine⟨_,_,dx,vs,rfl,hH,(hc.get hcs.1).1,(hc.get hcs.1).2,by rw[fv.length];exact hcs.2,?_⟩
      have r3:=r2.chg (o:= .ins (ct c) dx (tL f y vs)) (x:= .ins c (putD f d fs)) hn hH (λ_ z=>nomatch z) (λ_ _ z=>nomatch z) ⟨dx,_,bh,(fv.put qd).mono x3⟩
      have x3':Ext X.K iB M2.length H2 iB (M2.set n (.ins c (putD f d fs))).length (upd H2 (iB n) (.ins (ct c) dx (tL f y vs))):=by rw[List.length_set];exact x3
      exact p2 iB σ _ x3' (w2.ext x3' r3)
     ·rw[if_neg hcs]at p2
      exact p2.elim
  | _=>exact p2.elim
structure Itm where
 src:Option (Nat×List D)
 ds:List D
def jZ(s:Option (Nat×List D))(M:Mem):Prop:=match s with
 | none=>True
 | some (n,ds)=>nj M n=some ds
noncomputable instance{s:Option (Nat×List D)}{M:Mem}:Decidable (jZ s M):=Classical.propDecidable _
def acG(K:Frag)(ct:Nat->Addr):(Nat->Addr)->Mem->Hp->Itm->It->Prop:=λι M H it J=>jZ it.src M/\it.ds.length<=sizeLine/\∀ι' M' H',Ext K ι M.length H ι' M'.length H'->Rl K ct ι' M' H'->jZ it.src M'->
 ∀i,(∀d,it.ds[i]? = some d->J.go i H'/\∀x H2,J.YF i H' x H2->Ext K ι' M'.length H' ι' M'.length H2/\Rl K ct ι' M' H2/\DV K ct ι' M'.length H2 d x)/\(it.ds.length<=i->J.stop i H')
abbrev MI:=Sl->Mem->Out Itm
def SI(X:Cx)(ct:Nat->Addr)(W:a_)(tg e:Expr)(m:MI):Prop:=PI X tg e (tG (acG X.K ct) X.K ct W m)
theorem PI.imp{tg e:Expr}{t t':TI}(h:PI X tg e t)(hi:∀σ H R,t' σ H R->t σ H R):PI X tg e t':=λpins s σ H R I q=>h pins s σ H R I (hi σ H R q)
noncomputable def eY(src:Option (Nat×List D))(g:Tg)(b:MS):List D->Sl->Mem->gP
 | [],e,M=>if jZ src M then .next e M else .bad
 | d::ds,e,M=>if jZ src M then(match g d e with
   | none=> .bad
   | some e1=>match b e1 M with
    | .next e2 M2=>eY src g b ds e2 M2
    | .cont e2 M2=>eY src g b ds e2 M2
    | .brk e2 M2=> .next e2 M2
    | .ret d M2=> .ret d M2
    | .exc c d e2 M2=> .exc c d e2 M2
    | .bad=> .bad)else .bad
noncomputable def Nm(mi:MI)(g:Tg)(b:MS):MS:=λe M=>Br e (mi e M) λit M1=>eY it.src g b it.ds e M1
theorem Bc{tg iter:Expr}{body:List Stmt}{mi:MI}{g:Tg}{b:MS}(hp:X.Ok->PassesOwn (model X.prog X.w) X.A X.env X.xe)(hc:X.calm=true)(hi:SI X ct W tg iter mi)(hg:SG X ct tg g)(hb:Yv X ct W body b)
  (hs:∀x,foldedSetIterable iter X.env x=pure x:=by intro _;rfl):SS X ct W (.For tg iter body [] pos) (Nm mi g b):=PS.imp (λpins s σ H D I h=>VL (hp I.ok) hc hi hg hb hs pins s σ H D I h) λT σ H q=>by
 obtain⟨ι,e,M,w,p⟩:=pR (rel:=acG X.K ct) (f:=λit e M1=>eY it.src g b it.ds e M1) q
 refine⟨ι,e,M,w,p.mono λJ H1 ⟨bO,e1,M1,it,w1,q1,p1⟩=> ?_⟩
 obtain⟨ok1,_,step⟩:=q1
 refine⟨λi m σ' H'=>m=it.ds.length - i/\i<=it.ds.length/\∃ι' e' M',Ext X.K bO M1.length H1 ι' M'.length H'/\Ws X.K ct ι' e' M' σ' H'/\o_ X.K ct W ι' M'.length H' (eY it.src g b (it.ds.drop i) e' M') T,
  ⟨it.ds.length,by simp,Nat.zero_le _,bO,e1,M1,.refl,w1,by simpa using p1⟩,?_⟩
 rintro i m σ' H' ⟨rfl,hi,ι',e',M',x',w',p'⟩
 by_cases hlt:i<it.ds.length
 ·rw[List.drop_eq_getElem_cons hlt]at p'
  unfold eY at p'
  by_cases ok':jZ it.src M'
  ·rw[if_pos ok']at p'
   obtain⟨go,yl⟩:=(step ι' M' H' x' w'.rl ok' i).1 _ (zae hlt)
   refine .inr ⟨go,λσ2 H2=>∃iB e2 M2,Ext X.K bO M1.length H1 iB M2.length H2/\Ws X.K ct iB e2 M2 σ2 H2/\o_ X.K ct W iB M2.length H2 (eY it.src g b (it.ds.drop (i+1)) e2 M2) T,?_,?_⟩
   ·rintro σ2 H2 ⟨iB,e2,M2,x2,w2,p2⟩
    exact⟨it.ds.length - (i+1),by omega,rfl,hlt,iB,e2,M2,x2,w2,p2⟩
   ·intro x H2 y
    obtain⟨x2,r2,dv⟩:=yl x H2 y
    have w2:=w'.ext x2 r2
    have p2:=p'.ext x2
    refine⟨ι',e',M',_,w2,dv,?_⟩
    cases z:g it.ds[i] e' with
    | none=>rw[z]at p2;exact p2
    | some e2=>
     rw[z]at p2
     intro σ3 w3
     refine⟨ι',e2,M',w3,?_⟩
     cases z3:b e2 M' with
     | next e4 M4=>simp only[z3]at p2;exact λS9 σ5 H5 x5 w5=>⟨S9,e4,M4,(x'.trans x2).trans x5,w5,p2.ext x5⟩
     | cont e4 M4=>simp only[z3]at p2;exact λS9 σ5 H5 x5 w5=>⟨S9,e4,M4,(x'.trans x2).trans x5,w5,p2.ext x5⟩
     | brk e4 M4=>simp only[z3]at p2;exact p2
     | ret d M4=>simp only[z3]at p2;exact p2
     | exc xc xd xe xM=>simp only[z3]at p2;exact p2
     | bad=>simp only[z3]at p2;exact p2
  ·rw[if_neg ok']at p'
   exact p'.elim
 ·have e0:i=it.ds.length:=by omega
  subst e0
  rw[List.drop_length]at p'
  unfold eY at p'
  by_cases ok':jZ it.src M'
  ·rw[if_pos ok']at p'
   exact .inl ⟨(step ι' M' H' x' w'.rl ok' _).2 (zad _),p' ι' σ' H' .refl w'⟩
  ·rw[if_neg ok']at p'
   exact p'.elim
noncomputable def XN(d:D)(M1:Mem):Out Itm:=match d with
 | .ref n=>match nj M1 n with
  | some ds=> .ok ⟨some (n,ds),ds⟩ M1
  | none=> .bad
 | .cl ds=> .ok ⟨none,ds⟩ M1
 | .tup ds=> .ok ⟨none,ds⟩ M1
 | _=> .bad
def JB(m:ME):MI:=λe M=>(m e M).bind XN
theorem afF{tg l:Expr}{tl:TE}(hl:PE X l tl):PI X tg l (λσ H R=>tl σ H λx H1=>∃a,x= .ref a/\(((∃xs,pO X.K H1 a xs)/\((∀xs,pO X.K H1 a xs->xs.length<=sizeLine)->R (Itl X.K a) H1))\/((∃xs,o9 X.K H1 a xs)/\((∀xs,o9 X.K H1 a xs->xs.length<=sizeLine)->R (Itt X.K a) H1)))):=by
 intro pins s σ H R I h
 refine f9 (hl pins s σ H _ I h) λv s1 ⟨x,H1,I1,r1,q1⟩=> ?_
 obtain⟨a,e,q⟩:=q1
 subst e
 cases r1
 rcases q with⟨⟨xs,hq⟩,q⟩ | ⟨⟨xs,hq⟩,q⟩
 ·obtain⟨its,rv,p,hz⟩:=I1.list hq
  have q:=q λys hy=>by obtain⟨_,_,_,hz⟩:=I1.list hy;exact hz
  refine wpAny_pyIter_list p.isList ?_
  refine⟨s1.heap.objs.size,[s1.heap.objs.size],_,_,H1,rfl,I1.kept (t':=s1.toks) λb o e=>zD _ e,W2 a _,⟨_,yB _ rfl,rfl,rfl⟩,λb hb=> ?_,q⟩
  have e:b=s1.heap.objs.size:=by simpa using hb
  subst e
  exact I1.UG (zad _) (I1.hok.fresh (zad _))
 ·obtain⟨its,rv,p,hz⟩:=I1.tuple hq
  have q:=q λys hy=>by obtain⟨_,_,_,hz⟩:=I1.tuple hy;exact hz
  refine wpAny_pyIter_tuple (show s1.heap.IsTuple a its.toArray from p) ?_
  refine⟨s1.heap.objs.size,[s1.heap.objs.size],_,_,H1,rfl,I1.kept (t':=s1.toks) λb o e=>zD _ e,Tj a _,⟨_,yB _ rfl,rfl,rfl⟩,λb hb=> ?_,q⟩
  have e:b=s1.heap.objs.size:=by simpa using hb
  subst e
  exact I1.UG (zad _) (I1.hok.fresh (zad _))
theorem Rx{K:Frag}{ι:Nat->Addr}{M:Mem}{H:Hp}{a:Addr}{xs:List V}{ds:List D}(R:Rl K ct ι M H)(hq:pO K H a xs)(hd:iG K ct ι M.length H ds xs)(i:Nat):
  (∀d,ds[i]? = some d->(Itl K a).go i H/\∀x H2,(Itl K a).YF i H x H2->Ext K ι M.length H ι M.length H2/\Rl K ct ι M H2/\DV K ct ι M.length H2 d x)/\(ds.length<=i->(Itl K a).stop i H):=by
 refine⟨λd e=> ?_,λh=>⟨xs,hq,by rw[hd.length];exact h⟩⟩
 obtain⟨v,hv,dv⟩:=hd.at e
 refine⟨⟨xs,v,hq,hv⟩,λx H2 y=> ?_⟩
 obtain⟨e2,y⟩:=y
 subst e2
 have z:=y xs hq
 rw[hv]at z
 cases z
 exact⟨.refl,R,dv⟩
theorem aaY{K:Frag}{ι:Nat->Addr}{M:Mem}{H:Hp}{a:Addr}{xs:List V}{ds:List D}(R:Rl K ct ι M H)(hq:o9 K H a xs)(hd:iG K ct ι M.length H ds xs)(i:Nat):
  (∀d,ds[i]? = some d->(Itt K a).go i H/\∀x H2,(Itt K a).YF i H x H2->Ext K ι M.length H ι M.length H2/\Rl K ct ι M H2/\DV K ct ι M.length H2 d x)/\(ds.length<=i->(Itt K a).stop i H):=by
 refine⟨λd e=> ?_,λh=>⟨xs,hq,by rw[hd.length];exact h⟩⟩
 obtain⟨v,hv,dv⟩:=hd.at e
 refine⟨⟨xs,v,hq,hv⟩,λx H2 y=> ?_⟩
 obtain⟨e2,y⟩:=y
 subst e2
 have z:=y xs hq
 rw[hv]at z
 cases z
 exact⟨.refl,R,dv⟩
theorem IW{tg:Expr}(hl:SE X ct W a ma):SI X ct W tg a (JB ma):=PI.imp (afF hl) λσ H R q=>by
 obtain⟨ι,e,M,w,p⟩:=bG (dm:=dw X.K ct) (f:=λd _ M1=>XN d M1) q
 refine⟨ι,e,M,w,p.mono λv H1 ⟨bO,e1,M1,d,w1,q1,p1⟩=> ?_⟩
 cases q1 with
 | @ref n hn=>
  dsimp only[XN]at p1
  cases z:nj M1 n with
  | none=>rw[z]at p1;exact p1.elim
  | some ds=>
   rw[z]at p1
   obtain⟨xs,hH,hd⟩:=w1.rl.obj n _ (jz.mp z)
   refine⟨_,rfl,.inl ⟨⟨xs,pO.of hH⟩,λhz=>p1 bO _ H1 .refl w1.rl ⟨z,by rw[<-hd.length];exact hz xs (pO.of hH),λiB M2 H2 x2 r2 ok2 i=> ?_⟩⟩⟩
   obtain⟨xs2,hH2,hd2⟩:=r2.obj n _ (jz.mp ok2)
   rw[<-x2.same n hn]
   exact Rx r2 (pO.of hH2) hd2 i
 | cl h1 h2=>exact⟨_,rfl,.inl ⟨⟨_,h1.sq⟩,λhz=>p1 bO _ H1 .refl w1.rl ⟨trivial,by rw[<-h2.length];exact hz _ h1.sq,λiB M2 H2 x2 r2 ok2 i=>Rx r2 (x2.jY _ _ h1).sq (h2.mono x2) i⟩⟩⟩
 | tup h1 h2=>exact⟨_,rfl,.inr ⟨⟨_,o9.of h1⟩,λhz=>p1 bO _ H1 .refl w1.rl ⟨trivial,by rw[<-h2.length];exact hz _ (o9.of h1),λiB M2 H2 x2 r2 ok2 i=>aaY r2 (o9.of (x2.tup _ _ h1)) (h2.mono x2) i⟩⟩⟩
 | _=>exact p1.elim
def zY(lo:Int)(n:Nat):List D:=(List.range n).map λ(k:Nat)=>D.int (lo+k)
noncomputable def Ky(ds:List D)(M1:Mem):Out Itm:=match ds with
 | [.int j]=>if -(2 ^ 62)<=j/\j<2 ^ 24 then .ok ⟨none,zY 0 j.toNat⟩ M1 else .bad
 | _=> .bad
def FW(ms:MA):MI:=λe M=>(ms e M).bind Ky
theorem aaZ{K:Frag}{ι:Nat->Addr}{M:Mem}{H:Hp}(R:Rl K ct ι M H)(lo:Int)(n i:Nat):
  (∀d,(zY lo n)[i]? = some d->(Itr lo n).go i H/\∀x H2,(Itr lo n).YF i H x H2->Ext K ι M.length H ι M.length H2/\Rl K ct ι M H2/\DV K ct ι M.length H2 d x)/\((zY lo n).length<=i->(Itr lo n).stop i H):=by
 refine⟨λd e=> ?_,λh=>(by simpa[zY]using h:n<=i)⟩
 unfold zY at e
 rw[zaq]at e
 obtain⟨k,hk,rfl⟩:=Option.map_eq_some_iff.mp e
 obtain⟨hi,e2⟩:=List.getElem?_eq_some_iff.mp hk
 have hi':i<n:=by simpa using hi
 have ek:k=i:=by rw[<-e2];simp
 subst ek
 refine⟨hi',λx H2 y=> ?_⟩
 obtain⟨e3,y⟩:=y
 subst e3 y
 exact⟨.refl,R,.int _⟩
theorem agh:(2 ^ 24:Nat)<=sizeLine:=by rw[sizeLine_eq];decide
theorem uD{tg a:Expr}{ms:MA}{p pos:Pos}(hg:Gl X "range")(hm:X.mg "range" = none)(ha:SA X ct W [a] ms)(hs:starEach [a] X.env=[(false,eval a X.env)]:=by rfl):SI X ct W tg (.Call (.Name "range" p) [a] [] pos) (FW ms):=PI.imp (Xk hg hm ha hs) λσ H R q=>by
 obtain⟨ι,e,M,w,p⟩:=bG (dm:=GZ X.K ct) (f:=λds _ M1=>Ky ds M1) q
 refine⟨ι,e,M,w,p.mono λv H1 ⟨bO,e1,M1,d,w1,q1,p1⟩=> ?_⟩
 dsimp only[Ky]at p1
 split at p1
 ·rename_i j
  obtain⟨v,rfl,q2⟩:=z_ q1
  cases nW q2
  split at p1
  ·rename_i hj
   have hz:=agh
   exact⟨j,rfl,hj.1,by omega,p1 bO _ H1 .refl w1.rl ⟨trivial,by simp[zY];omega,λiB M2 H2 x2 r2 ok2 i=>aaZ r2 0 _ i⟩⟩
  ·exact p1.elim
 ·exact p1.elim
noncomputable def Kq(c:MT)(b:MS):Nat->Sl->Mem->gP
 | 0,_,_=> .bad
 | n+1,e,M=>match c e M with
  | .bad=> .bad
  | .exc c d M1=> .exc c d e M1
  | .ok false M1=> .next e M1
  | .ok true M1=>match b e M1 with
   | .next e2 M2=>Kq c b n e2 M2
   | .cont e2 M2=>Kq c b n e2 M2
   | .brk e2 M2=> .next e2 M2
   | .ret d M2=> .ret d M2
   | .exc c d e2 M2=> .exc c d e2 M2
   | .bad=> .bad
theorem Ij{c:MT}{b:MS}:∀(n:Nat) (e:Sl) (M:Mem),Kq c b n e M≠ .bad->Kq c b (n+1) e M=Kq c b n e M
 | 0,_,_,h=>absurd rfl h
 | n+1,e,M,h=>by
  unfold Kq at h ⊢
  cases z:c e M with
  | bad=>rfl
  | exc _ _ _=>rfl
  | ok k M1=>
   cases k with
   | false=>rfl
   | true=>
    simp only[z]at h ⊢
    cases z2:b e M1 with
    | next e2 M2=>simp only[z2]at h ⊢;exact Ij n e2 M2 h
    | cont e2 M2=>simp only[z2]at h ⊢;exact Ij n e2 M2 h
    | brk e2 M2=>rfl
    | ret d M2=>rfl
    | exc _ _ _ _=>rfl
    | bad=>rfl
theorem Tf{c:MT}{b:MS}{n:Nat}{e:Sl}{M:Mem}(h:Kq c b n e M≠ .bad):∀k,Kq c b (n+k) e M=Kq c b n e M
 | 0=>rfl
 | k+1=>by
  have ih:=Tf h k
  rw[<-Nat.add_assoc,Ij _ _ _ (by rw[ih];exact h)]
  exact ih
open Classical in
def Bl(c:MT)(b:MS):MS:=λe M=>if h:∃n,Kq c b n e M≠ .bad then Kq c b (Classical.choose h) e M else .bad
theorem Lj{c:MT}{b:MS}{n:Nat}{e:Sl}{M:Mem}{o:gP}(h:Kq c b n e M=o)(ho:o≠ .bad):Bl c b e M=o:=by
 have ex:∃n,Kq c b n e M≠ .bad:=⟨n,by rw[h];exact ho⟩
 unfold Bl
 rw[dif_pos ex]
 have h1:=Classical.choose_spec ex
 rcases Nat.le_total n (Classical.choose ex)with l | l
 ·obtain⟨k,hk⟩:=Nat.exists_eq_add_of_le l
  rw[hk,Tf (by rw[h];exact ho) k,h]
 ·obtain⟨k,hk⟩:=Nat.exists_eq_add_of_le l
  rw[<-h,hk,Tf h1 k]
theorem Qz{c:Expr}{body:List Stmt}{mc:MT}{b:MS}(hp:X.Ok->PassesOwn (model X.prog X.w) X.A X.env X.xe)(hc:Yp X ct W c mc)(hb:Yv X ct W body b):SS X ct W (.While c body [] pos) (Bl mc b):=PS.imp (λpins s σ H D I h=>Z7 (hp I.ok) hc hb pins s σ H D I h) λT σ H ⟨ι,e,M,w,p⟩=>by
 unfold Bl at p
 split at p
 ·rename_i ex
  refine⟨λm σ' H'=>∃ι' e' M',Ws X.K ct ι' e' M' σ' H'/\o_ X.K ct W ι' M'.length H' (Kq mc b m e' M') T,⟨_,ι,e,M,w,p⟩,?_⟩
  rintro m σ' H' ⟨ι',e',M',w',p'⟩
  cases m with
  | zero=>exact p'.elim
  | succ m=>
   refine⟨ι',e',M',w',?_⟩
   unfold Kq at p'
   cases z:mc e' M' with
   | bad=>rw[z]at p';exact p'
   | exc xc xd xM=>rw[z]at p';exact λiB dx v H2 x r q1 q2=>p' iB σ' dx v H2 x (w'.ext x r) q1 q2
   | ok k M1=>
    intro iB k2 H2 x2 r2 ek
    have RC:k=k2:=ek;subst RC
    have w2:=w'.ext x2 r2
    cases k with
    | false=>rw[z]at p';exact p' iB σ' H2 x2 w2
    | true=>
     simp only[z]at p'
     have p2:=p'.ext x2
     show ∃N:St->Hp->Prop,_
     refine⟨λσ3 H3=>∃K6 e3 M3,Ws X.K ct K6 e3 M3 σ3 H3/\o_ X.K ct W K6 M3.length H3 (Kq mc b m e3 M3) T,λσ3 H3 q3=>⟨m,Nat.lt_succ_self _,q3⟩,iB,e',M1,w2,?_⟩
     cases z3:b e' M1 with
     | next e4 M4=>simp only[z3]at p2;exact λS9 σ5 H5 x5 w5=>⟨S9,e4,M4,w5,p2.ext x5⟩
     | cont e4 M4=>simp only[z3]at p2;exact λS9 σ5 H5 x5 w5=>⟨S9,e4,M4,w5,p2.ext x5⟩
     | brk e4 M4=>simp only[z3]at p2;exact p2
     | ret d M4=>simp only[z3]at p2;exact p2
     | exc xc xd xe xM=>simp only[z3]at p2;exact p2
     | bad=>simp only[z3]at p2;exact p2
 ·exact p.elim
def Aa(js:List Nat)(e:Sl):Sl:=js.map λi=>(e[i]?).join
def Out.noX{α:Type}(o:Out α):Out α:=match o with
 | .ok a M=> .ok a M
 | _=> .bad
@[simp] theorem Er{α:Type}(a:α)(M:Mem):(Out.ok a M).noX= .ok a M:=id rfl
@[simp] theorem V4{α:Type}:(Out.bad:Out α).noX= .bad:=id rfl
@[simp] theorem V3{α:Type}(c:Nat)(d:D)(M:Mem):(Out.exc c d M:Out α).noX= .bad:=id rfl
def rm(src:Option (Nat×List D))(tt:MT)(te:ME)(ce:Sl):List D->List D->Mem->Out D
 | [],ys,M=>if jZ src M then .ok (.ref M.length) (M++[.lst ys])else .bad
 | d::ds,ys,M=>if jZ src M then(tt (some d::ce) M).noX.bind λk M1=>if k=true then(te (some d::ce) M1).noX.bind λy M2=>rm src tt te ce ds (ys++[y]) M2 else rm src tt te ce ds ys M1 else .bad
def FZ(js:List Nat)(mi:MI)(tt:MT)(te:ME):ME:=λe M=>(mi e M).bind λit M1=>rm it.src tt te (Aa js e) it.ds [] M1
def STs(X:Cx)(ct:Nat->Addr)(W:a_)(ifs:List Expr)(m:MT):Prop:=PTs X ifs (tG Jj X.K ct W m)
def JC:MT:=λ_ M=> .ok true M
theorem MN:STs X ct W [] JC:=λpins s σ H Q I ⟨ι,e,M,w,p⟩=>acN pins s σ H Q I (p ι true H .refl w.rl rfl)
theorem aci{c:Expr}{m:MT}(h:Yp X ct W c m):STs X ct W [c] m:=acM h
theorem Ws.caps{K:Frag}{ι:Nat->Addr}{e:Sl}{M:Mem}{σ:St}{H:Hp}{d:D}{v:V}(w:Ws K ct ι e M σ H)(js:List Nat)(h:DV K ct ι M.length H d v):Ws K ct ι (some d::Aa js e) M (some v::L2.caps js σ) H:=by
 refine⟨w.rl,by simp[Aa,L2.caps],λi x hx=> ?_⟩
 cases i with
 | zero=>simp at hx;subst hx;exact⟨v,rfl,h⟩
 | succ i=>
  simp only[List.getElem?_cons_succ,Aa,zaq]at hx
  obtain⟨j,hj,ej⟩:=Option.map_eq_some_iff.mp hx
  cases z:e[j]? with
  | none=>rw[z]at ej;cases ej
  | some o=>
   rw[z]at ej
   cases(show o=some x from ej)
   obtain⟨u,hu,du⟩:=w.env j x z
   refine⟨u,?_,du⟩
   simp only[List.getElem?_cons_succ,L2.caps,zaq,hj,Option.map_some,hu]
   rfl
theorem Y_{js:List Nat}{mi:MI}{tt:MT}{te:ME}{σ:St}{H:Hp}{Q:VK}(h:tG (dw X.K ct) X.K ct W (FZ js mi tt te) σ H Q):aen js (tG (acG X.K ct) X.K ct W mi) (tG Jj X.K ct W0 tt) (tG (dw X.K ct) X.K ct W0 te) σ H Q:=by
 obtain⟨ι,e,M,w,p⟩:=bG (dm:=acG X.K ct) (f:=λit e M1=>rm it.src tt te (Aa js e) it.ds [] M1) h
 refine⟨ι,e,M,w,p.mono λJ H1 ⟨bO,e1,M1,it,w1,q1,p1⟩=> ?_⟩
 obtain⟨ok1,hz,step⟩:=q1
 refine⟨λi m ys H'=>m=it.ds.length - i/\i<=it.ds.length/\ys.length<=i/\∃ι' M' ds',Ext X.K bO M1.length H1 ι' M'.length H'/\Rl X.K ct ι' M' H'/\iG X.K ct ι' M'.length H' ds' ys/\iD (dw X.K ct) X.K ct (wAt W σ) ι' M'.length H' (rm it.src tt te (Aa js e1) (it.ds.drop i) ds' M') Q,
  ⟨it.ds.length,by simp,Nat.zero_le _,zad _,bO,M1,[],.refl,w1.rl,.nil,by simpa using p1⟩,?_⟩
 rintro i m ys H' ⟨rfl,hi,hy,ι',M',ds',x',r',dy,p'⟩
 by_cases hlt:i<it.ds.length
 ·rw[List.drop_eq_getElem_cons hlt]at p'
  unfold rm at p'
  by_cases ok':jZ it.src M'
  ·rw[if_pos ok']at p'
   obtain⟨go,yl⟩:=(step ι' M' H' x' r' ok' i).1 _ (zae hlt)
   refine .inr ⟨go,λys2 H2=>ys2.length<=i+1/\∃iB M2 ds2,Ext X.K bO M1.length H1 iB M2.length H2/\Rl X.K ct iB M2 H2/\iG X.K ct iB M2.length H2 ds2 ys2/\iD (dw X.K ct) X.K ct (wAt W σ) iB M2.length H2 (rm it.src tt te (Aa js e1) (it.ds.drop (i+1)) ds2 M2) Q,?_,?_⟩
   ·rintro ys2 H2 ⟨hl2,q2⟩
    exact⟨by omega,it.ds.length - (i+1),by omega,rfl,hlt,hl2,q2⟩
   ·intro x H2 y
    obtain⟨x2,r2,dv⟩:=yl x H2 y
    have w2:Ws X.K ct ι' (some it.ds[i]::Aa js e1) M' (some x::L2.caps js σ) H2:=(w1.ext (x'.trans x2) r2).caps js dv
    have p2:=p'.ext x2
    refine⟨ι',_,M',w2,?_⟩
    cases z:tt (some it.ds[i]::Aa js e1) M' with
    | bad=>simp only[z,V4,Out.fU]at p2;exact p2
    | exc xc xd xM=>simp only[z,V3,Out.fU]at p2;exact p2.elim
    | ok k M3=>
     simp only[z,Er,Out.cN]at p2
     intro K6 k3 H3 x3 r3 ek
     have RC:k=k3:=ek;subst RC
     have p3:=p2.ext x3
     have w3:=w2.ext x3 r3
     have dy3:=(dy.mono x2).mono x3
     cases k with
     | false=>exact⟨by omega,K6,M3,ds',(x'.trans x2).trans x3,r3,dy3,p3⟩
     | true=>
      simp only[if_true]at p3 ⊢
      refine⟨K6,_,M3,w3,?_⟩
      cases z4:te (some it.ds[i]::Aa js e1) M3 with
      | bad=>simp only[z4,V4,Out.fU]at p3;exact p3
      | exc xc xd xM=>simp only[z4,V3,Out.fU]at p3;exact p3.elim
      | ok yy M4=>
       simp only[z4,Er,Out.cN]at p3
       intro ι4 v4 H4 x4 r4 d4
       exact⟨by rw[List.length_append];simp;omega,ι4,M4,ds'++[yy],((x'.trans x2).trans x3).trans x4,r4,(dy3.mono x4).append (.cons d4 .nil),p3.ext x4⟩
  ·rw[if_neg ok']at p'
   exact p'.elim
 ·have e0:i=it.ds.length:=by omega
  subst e0
  rw[List.drop_length]at p'
  unfold rm at p'
  by_cases ok':jZ it.src M'
  ·rw[if_pos ok']at p'
   exact .inl ⟨(step ι' M' H' x' r' ok' _).2 (zad _),by omega,λpp hp=>oW r' dy hp p'⟩
  ·rw[if_neg ok']at p'
   exact p'.elim
variable{elt iter:Expr}{ifs:List Expr}{scope:Scope}{x:Str}{px:Pos}{mi:MI}{tt:MT}{te:ME}
theorem Hw(hc:X.calm=true)(cs:List Str)(js:List Nat)(hi:SI X ct W (.Name x px) iter mi)(hcap:Ba X scope cs js)(ht:∀cl C fp s H,STs (gJ X scope cl C (x::cs) fp s H) ct W0 ifs tt)(he:∀cl C fp s H,SE (gJ X scope cl C (x::cs) fp s H) ct W0 elt te)
  (hall:∀y∈scope.names,y.2= .free->y.1∈cs) (hcell:∀y∈scope.names,y.2≠ .cell) (hnames:∀y∈scope.names,y.2= .local->scope.names.lookup y.1=some .local) (hnd:(x::cs).Nodup)
  (hkind:scope.kind= .function:=by rfl) (hx:scope.names.lookup x=some .local:=by rfl) (hs:∀v,foldedSetIterable iter X.env v=pure v:=by intro _;rfl):
  SE X ct W (.ListComp elt [⟨.Name x px,iter,ifs,0⟩] scope pos) (FZ js mi tt te):=
 dj (ac2 (tt:=tG Jj X.K ct W0 tt) (te:=tG (dw X.K ct) X.K ct W0 te) hc cs js hi hcap (λcl C fp s H=>ht cl C fp s H) (λcl C fp s H=>he cl C fp s H) hall hcell hnames hnd hkind hx hs) λσ H Q q=>Y_ q
end
def slots(n:Nat)(ds:List D):Sl:=ds.map some++List.replicate (n - ds.length) none
noncomputable def aU(n:Nat)(b:MS):Fn:=λds M=>match b (slots n ds) M with
 | .ret d M'=> .ok d M'
 | .next _ M'=> .ok .non M'
 | .exc c d _ M'=> .exc c d M'
 | _=> .bad
theorem Ws.start{K:Frag}{ct ι:Nat->Addr}{M:Mem}{H:Hp}{ds:List D}{vs:List V}(N:List Str)(R:Rl K ct ι M H)(h:iG K ct ι M.length H ds vs):Ws K ct ι (slots N.length ds) M (L2.start N vs) H:=by
 refine⟨R,by simp[slots,L2.start,h.length],λi d hd=> ?_⟩
 unfold slots at hd
 by_cases z:i<ds.length
 ·rw[zag (by simpa using z),zaq]at hd
  obtain⟨d',e1,e2⟩:=Option.map_eq_some_iff.mp hd
  cases e2
  obtain⟨v,hv,dv⟩:=h.at e1
  refine⟨v,?_,dv⟩
  unfold L2.start
  rw[zag (by rw[zar,h.length];exact z),zaq,hv]
  rfl
 ·rw[zaf (by simpa using z),List.getElem?_replicate]at hd
  split at hd<;>cases hd
section
variable{P:Program}{w:World}{K:Frag}{mg:Str->Option Value}{base:Heap}{ct:Nat->Addr}
theorem cT{n ar:Nat}{b:MS}{x qual:Str}{st:Stmt}{dV:Value}{f:Addr}{fd:FuncData}{N ps:List Str}{k:Nat}(F:zx K x qual st dV f fd)(S:aJ N ps (aC st))(hn:N.length=n)(har:ps.length=ar)
  (hbody:∀(cdv:Value) (A:Around) (outer:List PySem.Env) (s:Shared) (H:Hp) (E:XK) (W:a_),gQ k (A.deeper (envOfC qual (aC st) s.heap.objs.size f cdv))->
   Yv ((wY (bT P w) P w K mg base N qual (aC st) f cdv A outer s H E).wish (gO (wY (bT P w) P w K mg base N qual (aC st) f cdv A outer s H E) W)) ct W (cM st) b):
  aM P w K mg base (bT P w) (k+1) f fd ps (spS K ct (aU n b) ar):=by
 subst hn har
 refine F.okX S (λvs H Q E ⟨ι,ds,M,hl,_,hd,_⟩=>by rw[hd.length,hl]) λcdv A outer s H vs Q E hr ⟨ι,ds,M,hl,R,hd,p⟩=> ?_
 refine⟨_,λC dx _ H'=>E (.ref C) (some dx) H',λC dx σ H' z=>z,hbody cdv A outer s H E _ hr,ι,slots N.length ds,M,Ws.start N R hd,?_⟩
 unfold aU at p
 cases z:b (slots N.length ds) M with
 | ret d M'=>rw[z]at p;exact λι' v H' x r q=> .inl (p ι' v H' x r q)
 | next e M'=>rw[z]at p;exact λι' σ' H' x w'=> .inl (p ι' .non H' x w'.rl .non)
 | exc c d e M'=>rw[z]at p;exact λι' σ' dx v H' x w' q1 q2=>p ι' dx v H' x w'.rl q1 q2
 | brk e M'=>rw[z]at p;exact p.elim
 | cont e M'=>rw[z]at p;exact p.elim
 | bad=>rw[z]at p;exact p.elim
end
theorem ajp{P:Program}{w:World}{K:Frag}{mg:Str->Option Value}{base:Heap}{k:Nat}{f:Addr}{fd:FuncData}{ps:List Str}{sp:Sp}(F:aM P w K mg base (bT P w) k f fd ps sp):aM P w K mg base Vg k f fd ps (λvs H Q _=>sp vs H Q E0):=
 ⟨λvs H Q _ h=>F.len vs H Q E0 h,λA outer s H args us vs Q E hr he hb hv hs=>codeAny_mono (F.run A outer s H args us vs Q E0 hr he hb hv hs) λr s' hq=>by
  match r,hq with
  | .error e,hq=>obtain⟨_,_,_,_,_,_,_,_,_,_,_,_,_,_,_,z⟩:=hq;exact z.elim
  | .ok (.ret u),hq=>exact hq⟩
theorem jW{Y:Cx}{W:a_}(hst:Y.stack=Y.env::Y.outer)(hf:Y.env.frame=some Y.env.locals)(ok:(Y.wish (gO Y W)).Ok):PassesOwn (model Y.prog Y.w) Y.A Y.env (gO Y W):=λev s' h=>gO.Lp hst hf ok.frames ev s' h
theorem Tk.none{X:Cx}:Tk X W0:=λ_ _ ⟨_,_,_,_,_,_,_,_,_,_,_,_,_,_,z⟩=>z.elim
def spL(K:Frag):Sp:=λvs H Q _=>∃(a:Addr) (ns:List Int),vs=[.ref a]/\FrL K H a (ns.map V.int)/\ns.length<=63/\∀H',Q (.bl true) H'
theorem RM{K:Frag}{ct ι:Nat->Addr}{n:Nat}{H:Hp}:∀ns:List Int,iG K ct ι n H (ns.map D.int) (ns.map V.int)
 | []=> .nil
 | i::r=> .cons (.int i) (RM r)
theorem ai9{P:Program}{w:World}{K:Frag}{mg:Str->Option Value}{base:Heap}{ct:Nat->Addr}{k:Nat}{f:Addr}{fd:FuncData}{x:Str}{fn:Fn}(F:aM P w K mg base (bT P w) k f fd [x] (spS K ct fn 1))
  (h:∀ns:List Int,ns.length<=63->∃M,fn [.cl (ns.map D.int)] []= .ok (.bl true) M):aM P w K mg base Vg k f fd [x] (spL K):=by
 refine(ajp F).imp λvs H Q E ⟨a,ns,e,hf,hl,q⟩=> ?_
 subst e
 obtain⟨M,e⟩:=h ns hl
 refine⟨λ_=>0,[.cl (ns.map D.int)],[],rfl,⟨λi j hi=>absurd hi (Nat.not_lt_zero _),λi o h=>by simp at h⟩,.cons (.cl hf (RM ns)) .nil,?_⟩
 rw[e]
 intro ι' v H' _ _ dv
 cases dv
 exact q H'
theorem ahO{l:PySem.W.OpenLaw}{q:Program}{loose:List Str}{XP:(Str->Option Value)->Heap->Prop}{YP:World->Heap->Prop}{d:DefRec}{K:Params->Frag}{x:Str}{k:Nat}(hn:l.most=some 63)(hdf:d.params.defaults=[])(hr:gQ k callerA)
  (hY:∀(w:World) (h:Heap),YP w h->(K w.params).In h)
  (F:∀(w:World) (mg:Str->Option Value) (fa:Addr) (h:Heap),(K w.params).In h->h.Ns mainGlobals mg->mg d.name=some (.ref fa)->
   ∃fd:FuncData,(∀(s:Shared) (u:Value),BindsTo s fd ⟨[u],[]⟩ [(x,u)])/\∀base:Heap,(K w.params).In base->base.Ns mainGlobals mg->aM l.prog w (K w.params) mg base Vg k fa fd [x] (spL (K w.params))):
  PySem.W.WalkO q loose XP YP l.row.toRowW d [] (λf vs=>PySem.call f vs):=
 ab2 (n:=63) (k:=k) (x:=x) (CX:=λ_=>Vg) (sp:=λw=>spL (K w.params)) hn (by decide) hdf hr hY F (λ_ H a ns hl hO hS=>⟨a,ns,rfl,by
  rcases hS with(z | z) | z
  ·rcases hO a with n | ⟨o,xs,n⟩
   ·rw[n]at z;cases z
   ·rw[n]at z;cases z
  ·exact .inl z
  ·exact .inr z,hl,λ_=>rfl⟩) λ_ _ _ _ _ z=>z
section
variable{e:Sl}{M:Mem}
@[simp] theorem akb{i:Nat}{d:D}(h:e[i]? = some (some d)):aq i e M= .ok d M:=Oa h
@[simp] theorem aeB{d:D}{r:Sl}:aq 0 (some d::r) M= .ok d M:=Oa rfl
@[simp] theorem aiS{o0:Option D}{d:D}{r:Sl}:aq 1 (o0::some d::r) M= .ok d M:=Oa rfl
@[simp] theorem aeD{d:D}:mC d e M= .ok d M:=id rfl
@[simp] theorem Oc{op:oN}{ma mb:ME}:aD op ma mb e M=(ma e M).bind λd M1=>(mb e M1).bind λd' M2=>op d d' M2:=id rfl
@[simp] theorem alu{op:D->Mem->Out D}{ma:ME}:mUn op ma e M=(ma e M).bind op:=id rfl
@[simp] theorem ag6{b:Bool}:U9 (.bl b) M= .ok b M:=id rfl
@[simp] theorem Ri{m:ME}:aZ m e M=(m e M).bind U9:=id rfl
@[simp] theorem akj{t u:MT}:aaO t u e M=(t e M).bind λk M1=>if k=true then u e M1 else .ok false M1:=id rfl
@[simp] theorem age{t u:MT}:V6 t u e M=(t e M).bind λk M1=>if k=true then .ok true M1 else u e M1:=id rfl
@[simp] theorem akf{t:MT}:Rj t e M=(t e M).bind λk M1=> .ok (!k) M1:=id rfl
@[simp] theorem ai3{t u:ME}:Al t u e M=(t e M).bind λd M1=>(U9 d M1).bind λk M2=>if k=true then u e M2 else .ok (.bl false) M2:=id rfl
@[simp] theorem ake{t u:ME}:Uk t u e M=(t e M).bind λd M1=>(U9 d M1).bind λk M2=>if k=true then .ok (.bl true) M2 else u e M2:=id rfl
@[simp] theorem aiV{t:ME}:Lx t e M=(t e M).bind λd M1=>(U9 d M1).bind λk M2=> .ok (.bl (!k)) M2:=id rfl
@[simp] theorem alw{t:MT}{a b:ME}:mIf t a b e M=(t e M).bind λk M1=>if k=true then a e M1 else b e M1:=id rfl
@[simp] theorem adp:aK e M= .ok [] M:=id rfl
@[simp] theorem aaM{m:ME}{ms:MA}:au m ms e M=(m e M).bind λd M1=>(ms e M1).bind λds M2=> .ok (d::ds) M2:=id rfl
theorem HQ:sizeLine=16777216:=sizeLine_eq
@[simp] theorem akd{ms:MA}:lN ms e M=(ms e M).bind λds M1=>if ds.length<=16777216 then .ok (.tup ds) M1 else .bad:=by unfold lN;rw[HQ]
@[simp] theorem akg{ms:MA}:Hh ms e M=(ms e M).bind λds M1=>if ds.length<=16777216 then .ok (.ref M1.length) (M1++[.lst ds])else .bad:=by unfold Hh;rw[HQ]
@[simp] theorem aki{cs:List Nat}{m:ME}{f:Str}:eV cs m f e M=(m e M).bind (mH cs f):=id rfl
theorem cR{cs:List Nat}{f:Str}{n c:Nat}{fs:List (Str×D)}{d:D}(h:M[n]? = some (.ins c fs))(hc:c∈cs)(hf:fs.lookup f=some d):mH cs f (.ref n) M= .ok d M:=by
 unfold mH;simp only[h,hc,if_true,hf]
@[simp] theorem ai2{fn:Fn}{ar:Nat}{dv:List D}{ms:MA}:cV fn ar dv ms e M=(ms e M).bind λds M1=>if(ds++dv).length=ar then fn (ds++dv) M1 else .bad:=id rfl
@[simp] theorem aiW{k:Nat}{m:Str}{fn:Fn}{ar:Nat}{dv:List D}{mo:ME}{ms:MA}:bI k m fn ar dv mo ms e M=(mo e M).bind λd M1=>if uO k m d M1=true then(ms e M1).bind λds M2=>if(d::(ds++dv)).length=ar then fn (d::(ds++dv)) M2 else .bad else .bad:=id rfl
theorem yN{k:Nat}{m:Str}{n:Nat}{fs:List (Str×D)}(h:M[n]? = some (.ins k fs))(hf:fs.lookup m=none):uO k m (.ref n) M=true:=by
 unfold uO;simp[h,hf]
@[simp] theorem aiX{kc:Nat}{fn:Fn}{ar:Nat}{dv:List D}{ms:MA}:rZ kc fn ar dv ms e M=(ms e M).bind λds M1=>if(D.ref M1.length::(ds++dv)).length=ar then(fn (.ref M1.length::(ds++dv)) (M1++[.ins kc []])).bind λr M2=>if Ry r=true then .ok (.ref M1.length) M2 else .bad else .bad:=id rfl
@[simp] theorem ahw:Ry .non=true:=id rfl
@[simp] theorem agf{op:Mr}{ms:MA}:F_ op ms e M=(ms e M).bind op:=id rfl
@[simp] theorem alx{T:String}{op:D->List D->Mem->Out D}{mo:ME}{ms:MA}:mBM T op mo ms e M=(mo e M).bind λd M1=>if WY T d M1=true then(ms e M1).bind λds M2=>op d ds M2 else .bad:=id rfl
@[simp] theorem alv{m:ME}{lo hi:MO'}:mSl m lo hi e M=(m e M).bind λd M1=>(lo e M1).bind λl M2=>(hi e M2).bind λh M3=>sSl d l h M3:=id rfl
@[simp] theorem aiU{m:ME}:Lw m e M=(m e M).bind asI:=id rfl
@[simp] theorem akE{i:Int}:asI (.int i) M= .ok (some i) M:=id rfl
@[simp] theorem aaL{m:ME}:JB m e M=(m e M).bind XN:=id rfl
theorem yM{n:Nat}{ds:List D}(h:M[n]? = some (.lst ds)):XN (.ref n) M= .ok ⟨some (n,ds),ds⟩ M:=by simp only[XN,dM h]
@[simp] theorem aaJ{ms:MA}:FW ms e M=(ms e M).bind Ky:=id rfl
theorem Dc{j:Int}(h: -(2 ^ 62)<=j)(h2:j<2 ^ 24):Ky [.int j] M= .ok ⟨none,zY 0 j.toNat⟩ M:=by simp only[Ky];rw[if_pos ⟨h,h2⟩]
@[simp] theorem aaN{js:List Nat}{mi:MI}{tt:MT}{te:ME}:FZ js mi tt te e M=(mi e M).bind λit M1=>rm it.src tt te (Aa js e) it.ds [] M1:=id rfl
@[simp] theorem adq:JC e M= .ok true M:=id rfl
@[simp] theorem Ew{C:Int->Int->Bool}{g:Int->Int->D}{i j:Int}:Ot C g (.int i) (.int j) M=if C i j=true then .ok (g i j) M else .bad:=id rfl
@[simp] theorem ais{i j:Int}:GX (.int i) (.int j) M= .ok (.int (i+j)) M:=id rfl
@[simp] theorem aib{i j:Int}:Zu (.int i) (.int j) M= .ok (.int (i - j)) M:=id rfl
@[simp] theorem ZP{i j:Int}:vM (.int i) (.int j) M= .ok (.int (Builtin.bitAnd i j)) M:=id rfl
@[simp] theorem aj2{i j:Int}:sOr (.int i) (.int j) M= .ok (.int (Builtin.bitOr i j)) M:=id rfl
@[simp] theorem aj3{i j:Int}:sLt (.int i) (.int j) M= .ok (.bl (decide (i<j))) M:=id rfl
@[simp] theorem aim{i j:Int}:GR (.int i) (.int j) M= .ok (.bl (decide (j<i))) M:=id rfl
@[simp] theorem ain{i j:Int}:acB (.int i) (.int j) M= .ok (.bl (decide (j<=i))) M:=id rfl
theorem QJ{i j:Int}(h:(-(2 ^ 64)<i/\i<2 ^ 64)\/(-(2 ^ 64)<j/\j<2 ^ 64)):QK (.int i) (.int j) M= .ok (.int (i*j)) M:=by
 refine rP ?_;unfold Zz;rw[Ew,if_pos (by unfold ag4;exact zai h)]
theorem oV{i j:Int}(h:0<j)(h2:j<1073741824):m9 (.int i) (.int j) M= .ok (.int (i / j)) M:=by
 unfold m9;rw[Ew,if_pos (by unfold ag5;exact zai ⟨h,h2⟩)]
theorem jV{i j:Int}(h:0<j):gY (.int i) (.int j) M= .ok (.int (i % j)) M:=by
 unfold gY;rw[Ew,if_pos (by unfold ajA;exact zai h)]
theorem Zw{i j:Int}(h:0<=j/\j<=1000000/\i.natAbs<2 ^ 64):Zx (.int i) (.int j) M= .ok (.int (i ^ j.toNat)) M:=by
 unfold Zx;rw[Ew,if_pos (by unfold Ym;exact zai h)]
@[simp] theorem aie{i:Int}:acy (.int i) M= .ok (.int (-i)) M:=id rfl
theorem O7{d d':D}{a b:Dt}(h:jT M 12 d=some a)(h':jT M 12 d'=some b):RK M d d'=some (bM a b):=by unfold RK;rw[h,h']
theorem Np{d d':D}{b:Bool}(h:RK M d d'=some b):sEq d d' M= .ok (.bl b) M:=by unfold sEq;rw[h]
theorem Bo{d d':D}{b:Bool}(h:RK M d d'=some b):sNe d d' M= .ok (.bl (!b)) M:=by unfold sNe;rw[h]
theorem Wn{i j:Int}:RK M (.int i) (.int j)=some (decide (i=j)):=by
 rw[O7 (a:= .int i) (b:= .int j) rfl rfl];unfold bM;rw[Bool.beq_eq_decide_eq]
theorem adL{i j:Str}:RK M (.str i) (.str j)=some (decide (i=j)):=by
 rw[O7 (a:= .str i) (b:= .str j) rfl rfl];unfold bM;rw[Bool.beq_eq_decide_eq]
@[simp] theorem acD{i j:Int}:sEq (.int i) (.int j) M= .ok (.bl (decide (i=j))) M:=Np Wn
@[simp] theorem acz{i j:Int}:sNe (.int i) (.int j) M= .ok (.bl (!decide (i=j))) M:=Bo Wn
@[simp] theorem aj7{i j:Str}:sEq (.str i) (.str j) M= .ok (.bl (decide (i=j))) M:=Np adL
theorem abq{d:D}{t:Dt}(h:jT M 12 d=some t):RK M d d=some true:=by rw[O7 h h,yW]
@[simp] theorem aj6{d:D}:sIs d .non M= .ok (.bl (LC d)) M:=id rfl
@[simp] theorem afk{d:D}:Ej d .non M= .ok (.bl (!LC d)) M:=id rfl
@[simp] theorem akr:LC .non=true:=id rfl
@[simp] theorem aks{i:Int}:LC (.int i)=false:=id rfl
@[simp] theorem akq{i:Nat}:LC (.ref i)=false:=id rfl
theorem U8{α:Type}{xs:List α}{k:Int}(h:0<=k):PJ xs k=xs[k.toNat]? := by
 unfold PJ ixN
 rw[if_pos h]
 by_cases z:k<xs.length
 ·rw[if_pos z];rfl
 ·rw[if_neg z]
  show none=_
  rw[List.getElem?_eq_none (by omega)]
theorem Hx{ds:List D}{k:Int}{d:D}(h0:0<=k)(h:ds[k.toNat]? = some d):bN (.tup ds) (.int k) M= .ok d M:=
 rP (rP (by simp only[T3,U8 h0,h]))
theorem afh{ds:List D}{k:Int}{d:D}(h0:0<=k)(h:ds[k.toNat]? = some d):bN (.cl ds) (.int k) M= .ok d M:=
 rP (rP (by simp only[T3,Eb,U8 h0,h]))
theorem vL{n:Nat}{ds:List D}{k:Int}{d:D}(hM:M[n]? = some (.lst ds))(h0:0<=k)(h:ds[k.toNat]? = some d):bN (.ref n) (.int k) M= .ok d M:=
 rP (rP (by simp only[T3,Eb,dM hM,U8 h0,h]))
@[simp] theorem Jf{d:D}{r:List D}:bN (.tup (d::r)) (.int 0) M= .ok d M:=Hx (by decide) rfl
@[simp] theorem ZJ{d0 d:D}{r:List D}:bN (.tup (d0::d::r)) (.int 1) M= .ok d M:=Hx (by decide) rfl
@[simp] theorem ZG{d0 d1 d:D}{r:List D}:bN (.tup (d0::d1::d::r)) (.int 2) M= .ok d M:=Hx (by decide) rfl
@[simp] theorem ail{d0 d1 d2 d:D}{r:List D}:bN (.tup (d0::d1::d2::d::r)) (.int 3) M= .ok d M:=Hx (by decide) rfl
theorem Je{n:Nat}{ds:List D}(hM:M[n]? = some (.lst ds)):zX [.ref n] M= .ok (.int ds.length) M:=aau (aau (by simp only[VB,Fy,Eb,dM hM]))
@[simp] theorem aih{ds:List D}:zX [.tup ds] M= .ok (.int ds.length) M:=id rfl
@[simp] theorem aj4{ds:List D}:zX [.cl ds] M= .ok (.int ds.length) M:=id rfl
@[simp] theorem ak7{ds:List D}{lo hi:Option Int}:sSl (.cl ds) lo hi M= .ok (.ref M.length) (M++[.lst (cut ds lo hi)]):=id rfl
theorem QS{n:Nat}{ds:List D}{d:D}(hM:M[n]? = some (.lst ds))(h:ds.length<16777216):C_ (.ref n) [d] M= .ok .non (M.set n (.lst (ds++[d]))):=by
 simp only[C_,hM];rw[HQ,if_pos h]
theorem YW{n:Nat}{ds:List D}(hM:M[n]? = some (.lst ds)):WY "list" (.ref n) M=true:=by simp[WY,dM hM]
@[simp] theorem ajT{i:Int}:WY "int" (.int i) M=true:=id rfl
@[simp] theorem ahm{i:Int}:VD (.int i) [] M= .ok (.int (Builtin.Int.intBits i:Nat)) M:=id rfl
@[simp] theorem ahk{i j:Int}:QL [.int i,.int j] M= .ok (.int (if j > i then j else i)) M:=id rfl
@[simp] theorem ahj{i j:Int}:Vz [.int i,.int j] M= .ok (.int (if j<i then j else i)) M:=id rfl
@[simp] theorem abR{i:Int}:QM [.int i,.ty "bool"] M= .ok (.bl false) M:=by unfold QM;rfl
theorem Xc{n:Nat}{ds:List D}(hM:M[n]? = some (.lst ds)):QM [.ref n,.ty "list"] M= .ok (.bl true) M:=by
 simp only[QM,tyN,dM hM,Option.map_some]
 rfl
@[simp] theorem aid:cj e M= .next e M:=id rfl
def gP.seq(o:gP)(t:MS):gP:=match o with
 | .next e M=>t e M
 | .ret d M=> .ret d M
 | .brk e M=> .brk e M
 | .cont e M=> .cont e M
 | .exc c d e M=> .exc c d e M
 | .bad=> .bad
@[simp] theorem zG{s t:MS}:aR s t e M=(s e M).seq t:=by
 unfold aR gP.seq
 cases s e M<;>rfl
@[simp] theorem xQ{t:MS}:(gP.next e M).seq t=t e M:=id rfl
@[simp] theorem ajZ{t:MS}{d:D}:(gP.ret d M).seq t= .ret d M:=id rfl
@[simp] theorem aj0{t:MS}{c:Nat}{d:D}:(gP.exc c d e M).seq t= .exc c d e M:=id rfl
@[simp] theorem aiq{m:ME}:yg m e M=Br e (m e M) λ_ M1=> .next e M1:=id rfl
@[simp] theorem aj1{m:ME}:bJ m e M=Br e (m e M) λd M1=> .ret d M1:=id rfl
@[simp] theorem aic:Zv e M= .ret .non M:=id rfl
@[simp] theorem afm{c:MT}{s t:MS}:qe c s t e M=Br e (c e M) λk M1=>if k=true then s e M1 else t e M1:=id rfl
def tgO(o:Option Sl)(M:Mem):gP:=match o with
 | some e'=> .next e' M
 | none=> .bad
@[simp] theorem ahX:tgO (some e) M= .next e M:=id rfl
@[simp] theorem Hy{m:ME}{g:Tg}:cP m g e M=Br e (m e M) λd M1=>tgO (g d e) M1:=by
 unfold cP tgO;rfl
@[simp] theorem ajl{i:Nat}{d:D}:gN i d e=some (e.set i (some d)):=id rfl
@[simp] theorem amQ{n:Nat}{gs:Tgs}{ds:List D}:gT n gs (.tup ds) e=if ds.length=n then gs ds e else none:=id rfl
@[simp] theorem ajm{g:Tg}{gs:Tgs}{d:D}{ds:List D}:k_ g gs (d::ds) e=(g d e).bind λe'=>gs ds e':=id rfl
@[simp] theorem akv:JX [] e=some e:=id rfl
def Xy(o:Option Mem)(e:Sl):gP:=match o with
 | some M=> .next e M
 | none=> .bad
@[simp] theorem ahs:Xy (some M) e= .next e M:=id rfl
@[simp] theorem aip{cs:List Nat}{mo mv:ME}{f:Str}:cZ cs mo mv f e M=Br e (mv e M) λd M1=>Br e (mo e M1) λo M2=>Xy (gR cs f d o M2) e:=by
 unfold cZ Xy;rfl
theorem dJ{cs:List Nat}{f:Str}{d:D}{n c:Nat}{fs:List (Str×D)}(h:M[n]? = some (.ins c fs))(hc:c∈cs)(hl:fs.length<1000):gR cs f d (.ref n) M=some (M.set n (.ins c (putD f d fs))):=by
 unfold gR;simp only[h];rw[if_pos ⟨hc,hl⟩]
@[simp] theorem acC{mi:MI}{g:Tg}{b:MS}:Nm mi g b e M=Br e (mi e M) λit M1=>eY it.src g b it.ds e M1:=id rfl
@[simp] theorem qm{n:Nat}{d:D}{ds:List D}:slots (n+1) (d::ds)=some d::slots n ds:=by
 unfold slots
 simp
@[simp] theorem vD{n:Nat}:slots (n+1) []=none::slots n []:=by
 unfold slots
 simp[List.replicate_succ]
@[simp] theorem ql:slots 0 []=[]:=id rfl
def zZ(o:gP):Out D:=match o with
 | .ret d M=> .ok d M
 | .next _ M=> .ok .non M
 | .exc c d _ M=> .exc c d M
 | _=> .bad
@[simp] theorem ou{n:Nat}{b:MS}{ds:List D}:aU n b ds M=zZ (b (slots n ds) M):=by
 unfold aU zZ
 cases b (slots n ds) M<;>rfl
@[simp] theorem aiu{d:D}:zZ (.ret d M)= .ok d M:=id rfl
@[simp] theorem aiv{c:Nat}{d:D}:zZ (.exc c d e M)= .exc c d M:=id rfl
@[simp] theorem ahn:zZ (.next e M)= .ok .non M:=id rfl
end
def gP.to(o:gP)(P:Sl->Mem->Prop)(R:D->Mem->Prop):Prop:=match o with
 | .next e M=>P e M
 | .cont e M=>P e M
 | .ret d M=>R d M
 | _=>False
@[simp] theorem ajV{e:Sl}{M:Mem}{P:Sl->Mem->Prop}{R:D->Mem->Prop}:(gP.next e M).to P R=P e M:=id rfl
@[simp] theorem akP{d:D}{M:Mem}{P:Sl->Mem->Prop}{R:D->Mem->Prop}:(gP.ret d M).to P R=R d M:=id rfl
theorem EY{src:Option (Nat×List D)}{g:Tg}{b:MS}(P:Nat->Sl->Mem->Prop){R:D->Mem->Prop}:∀(ds:List D) (k:Nat) {e:Sl} {M:Mem},P k e M->
  (∀i e M,k<=i->i<=k+ds.length->P i e M->jZ src M)->
  (∀i d e M,ds[i]? = some d->P (k+i) e M->∃e1,g d e=some e1/\(b e1 M).to (P (k+i+1)) R)->
  (∃e' M',eY src g b ds e M= .next e' M'/\P (k+ds.length) e' M')\/∃r M',eY src g b ds e M= .ret r M'/\R r M'
 | [],k,e,M,h0,hs,_=> .inl ⟨e,M,by unfold eY;rw[if_pos (hs k e M (zad _) (zad _) h0)],h0⟩
 | d::ds,k,e,M,h0,hs,hb=>by
  unfold eY
  rw[if_pos (hs k e M (zad _) (Nat.le_add_right _ _) h0)]
  obtain⟨e1,hg,h⟩:=hb 0 d e M rfl h0
  rw[hg]
  have go:∀{e2:Sl} {M2:Mem},P (k+1) e2 M2->(∃e' M',eY src g b ds e2 M2= .next e' M'/\P (k+(d::ds).length) e' M')\/∃r M',eY src g b ds e2 M2= .ret r M'/\R r M':=λ{e2 M2} p=>by
   have go:=EY (src:=src) (g:=g) (b:=b) P (R:=R) ds (k+1) (e:=e2) (M:=M2) p
    (λi e M h1 h2=>hs i e M (by omega) (by simp only[List.length_cons];omega)) (λi d e M hd hp=>by
     have e4:k+(i+1)=k+1+i:=by omega
     have:=hb (i+1) d e M (by simpa using hd) (by rw[e4];exact hp)
     rw[e4]at this
     exact this)
   have el:k+1+ds.length=k+(d::ds).length:=by simp only[List.length_cons];omega
   rw[el]at go
   exact go
  cases z:b e1 M with
  | next e2 M2=>rw[z]at h;simp only[z];exact go h
  | cont e2 M2=>rw[z]at h;simp only[z];exact go h
  | ret r M2=>rw[z]at h;simp only[z];exact .inr ⟨r,M2,rfl,h⟩
  | brk _ _=>rw[z]at h;exact h.elim
  | exc _ _ _ _=>rw[z]at h;exact h.elim
  | bad=>rw[z]at h;exact h.elim
theorem uP{src:Option (Nat×List D)}{g:Tg}{b:MS}(P:Nat->Sl->Mem->Prop){ds:List D}{e:Sl}{M:Mem}(h0:P 0 e M)
  (hs:∀i e M,i<=ds.length->P i e M->jZ src M)
  (hb:∀i d e M,ds[i]? = some d->P i e M->∃e1,g d e=some e1/\(b e1 M).to (P (i+1)) λ_ _=>False):
  ∃e' M',eY src g b ds e M= .next e' M'/\P ds.length e' M':=by
 rcases EY (src:=src) (g:=g) (b:=b) P (R:=λ_ _=>False) ds 0 h0 (λi e M _ h2=>hs i e M (by omega)) (λi d e M hd hp=>by
  rw[Nat.zero_add]at hp ⊢
  exact hb i d e M hd hp)with h | ⟨_,_,_,h⟩
 ·simpa using h
 ·exact h.elim
theorem RZ{src:Option (Nat×List D)}{tt:MT}{te:ME}{ce:Sl}(P:Nat->List D->Mem->Prop):∀(ds:List D) (k:Nat) {ys:List D} {M:Mem},P k ys M->
  (∀i ys M,k<=i->i<=k+ds.length->P i ys M->jZ src M)->
  (∀i d ys M,ds[i]? = some d->P (k+i) ys M->∃t M1,tt (some d::ce) M= .ok t M1/\((t=false/\P (k+i+1) ys M1)\/(t=true/\∃y M2,te (some d::ce) M1= .ok y M2/\P (k+i+1) (ys++[y]) M2)))->
  ∃ys' M',rm src tt te ce ds ys M= .ok (.ref M'.length) (M'++[.lst ys'])/\P (k+ds.length) ys' M'
 | [],k,ys,M,h0,hs,_=>⟨ys,M,by unfold rm;rw[if_pos (hs k ys M (zad _) (zad _) h0)],h0⟩
 | d::ds,k,ys,M,h0,hs,hb=>by
  unfold rm
  rw[if_pos (hs k ys M (zad _) (Nat.le_add_right _ _) h0)]
  obtain⟨t,M1,ht,h⟩:=hb 0 d ys M rfl h0
  rw[ht,Er,Out.cN]
  have el:k+1+ds.length=k+(d::ds).length:=by simp only[List.length_cons];omega
  have go:∀{ys2:List D} {M2:Mem},P (k+1) ys2 M2->∃ys' M',rm src tt te ce ds ys2 M2= .ok (.ref M'.length) (M'++[.lst ys'])/\P (k+(d::ds).length) ys' M':=λ{ys2 M2} p=>by
   have:=RZ (src:=src) (tt:=tt) (te:=te) (ce:=ce) P ds (k+1) (ys:=ys2) (M:=M2) p
    (λi e M h1 h2=>hs i e M (by omega) (by simp only[List.length_cons];omega)) (λi d e M hd hp=>by
     have:=hb (i+1) d e M (by simpa using hd) (by have:k+(i+1)=k+1+i:=by omega
                                                  rw[this];exact hp)
     have e3:k+(i+1)+1=k+1+i+1:=by omega
     rw[e3]at this
     exact this)
   rw[el]at this
   exact this
  rcases h with⟨rfl,p⟩ | ⟨rfl,y,M2,hy,p⟩
  ·exact go p
  ·simp only[if_true]
   rw[hy,Er,Out.cN]
   exact go p
theorem RW{src:Option (Nat×List D)}{te:ME}{ce:Sl}{M:Mem}(f:D->D){ds:List D}(hs:jZ src M)(hf:∀d∈ds,te (some d::ce) M= .ok (f d) M):rm src JC te ce ds [] M= .ok (.ref M.length) (M++[.lst (ds.map f)]):=by
 have key:∀(ds ys:List D),(∀d∈ds,te (some d::ce) M= .ok (f d) M)->rm src JC te ce ds ys M= .ok (.ref M.length) (M++[.lst (ys++ds.map f)]):=by
  intro ds
  induction ds with
  | nil=>intro ys _;unfold rm;rw[if_pos hs];simp
  | cons d r ih=>
   intro ys h
   unfold rm
   rw[if_pos hs,adq,Er,Out.cN]
   simp only[if_true]
   rw[h d xB,Er,Out.cN,ih _ λx hx=>h x (yT _ hx)]
   simp
 have:=key ds [] hf
 simpa using this
theorem HB{lo:Int}{n i:Nat}{d:D}(h:(zY lo n)[i]? = some d):i<n/\d= .int (lo+i):=by
 unfold zY at h
 rw[zaq]at h
 obtain⟨k,hk,rfl⟩:=Option.map_eq_some_iff.mp h
 obtain⟨hi,e⟩:=List.getElem?_eq_some_iff.mp hk
 simp at hi e
 exact⟨hi,by rw[<-e]⟩
theorem acF{lo:Int}{n:Nat}:(zY lo n).length=n:=by simp[zY]
section
variable{X:Cx}{ct:Nat->Addr}{W:a_}
noncomputable def Gk:List D->Option Bool
 | []=>some true
 | .bl b::r=>(Gk r).map λk=>b&&k
 | _=>none
theorem Ss:∀{ds:List D} {k:Bool},Gk ds=some k->∃bs:List Bool,ds=bs.map D.bl/\k=bs.all id
 | [],k,h=>by cases h;exact⟨[],rfl,rfl⟩
 | d::r,k,h=>by
  cases d with
  | bl b=>
   simp only[Gk]at h
   obtain⟨k',h1,rfl⟩:=Option.map_eq_some_iff.mp h
   obtain⟨bs,rfl,rfl⟩:=Ss h1
   exact⟨b::bs,rfl,rfl⟩
  | _=>simp only[Gk]at h;cases h
theorem Wo{K:Frag}{ι:Nat->Addr}{n:Nat}{H:Hp}:∀{bs:List Bool} {vs:List V},iG K ct ι n H (bs.map D.bl) vs->vs=bs.map V.bl
 | [],_,.nil=>rfl
 | b::bs,_,.cons h hs=>by cases h;rw[Wo hs];rfl
theorem abI(bs:List Bool):(List.range bs.length).all (λj=>bs.getD j true)=bs.all id:=by
 rw[Bool.eq_iff_iff,List.all_eq_true,List.all_eq_true]
 constructor
 ·intro h b hb
  obtain⟨j,hj,e⟩:=List.mem_iff_getElem.mp hb
  have:=h j (List.mem_range.mpr hj)
  rw[List.getD_eq_getElem?_getD,zae hj]at this
  rw[<-e]
  exact this
 ·intro h j hj
  have hj':=List.mem_range.mp hj
  rw[List.getD_eq_getElem?_getD,zae hj']
  exact h _ (List.getElem_mem hj')
theorem Yh(hc:X.calm=true):j4 X (.builtin "all") (λxs H Q=>∃(a:Addr) (bs:List Bool),xs=[.ref a]/\pO X.K H a (bs.map V.bl)/\Q (.bl (bs.all id)) H):=by
 intro pins s σ H xs us Q I r h
 obtain⟨a,bs,rfl,hq,q⟩:=h
 obtain⟨u,rfl,ru⟩:=vals1 r
 cases(show u=Value.ref a from ru)
 obtain⟨its,rv,p,hz⟩:=I.list hq
 have hlt:a<s.heap.objs.size:=by obtain⟨o,n,e,_⟩:=p;exact zS e
 have hl:its.length=bs.length:=by rw[<-rv.length,zar]
 refine call_all_walk (wpAny_pyIter_list p.isList ⟨s.heap.objs.size,[s.heap.objs.size,a],[s.heap.objs.size],its.toArray.size,λi v=>its.toArray[i]? = some v,_,λj=>bs.getD j true,rfl,
  Walks.list (A:=X.A.in1) (I.ok.hd hc) s.heap.objs.size a (xD hlt) its.toArray,⟨⟨_,yB _ rfl,rfl,rfl⟩,p.isList.push _⟩,?_,λh' tk hk=> ?_⟩)
 ·intro i v s' Q' E' hP hQ
  have hP':its[i]? = some v:=by simpa using hP
  have hi:i<its.length:=(List.getElem?_eq_some_iff.mp hP').1
  have hb:bs[i]? = some bs[i]:=zae (by omega)
  obtain⟨u,hu,ru⟩:=rv.get (i:=i) (x:=V.bl bs[i]) (by rw[zaq,hb];rfl)
  rw[hP']at hu
  cases hu
  cases ru
  refine wpAny_truthy_bool ?_
  have e:bs.getD i true=bs[i]:=by rw[List.getD_eq_getElem?_getD,hb];rfl
  rw[<-e]
  exact hQ
 ·have e:(List.range its.toArray.size).all (λj=>bs.getD j true)=bs.all id:=by
   rw[List.size_toArray,hl]
   exact abI bs
  rw[e]
  exact⟨.bl _,H,I.kept λb o eb=>hk b o (by simp;exact xD (zS eb)) (zD _ eb),rfl,q⟩
def Xe:Mr:=λds M=>match ds with
 | [d]=>match Eb M d with
  | some es=>match Gk es with
   | some k=> .ok (.bl k) M
   | none=> .bad
  | none=> .bad
 | _=> .bad
theorem agQ(hc:X.calm=true):nu X ct (.builtin "all") Xe:=by
 refine⟨_,Yh hc,λι M H ds vs Q R h p=> ?_⟩
 unfold Xe at p
 split at p
 ·rename_i d
  obtain⟨v,rfl,q⟩:=z_ h
  cases z:Eb M d with
  | none=>rw[z]at p;exact p.elim
  | some es=>
   rw[z]at p
   dsimp only at p
   obtain⟨a,xs,rfl,hs,hd⟩:=R.seq z q
   cases z2:Gk es with
   | none=>rw[z2]at p;exact p.elim
   | some k=>
    rw[z2]at p
    obtain⟨bs,rfl,rfl⟩:=Ss z2
    rw[Wo hd]at hs
    exact⟨a,bs,rfl,hs,p ι _ H .refl R (.bl _)⟩
 ·exact p.elim
theorem Yn(bs:List Bool):Gk (bs.map D.bl)=some (bs.all id):=by
 induction bs with
 | nil=>rfl
 | cons b r ih=>simp[Gk,ih]
theorem ZQ{M:Mem}{n:Nat}{bs:List Bool}(h:M[n]? = some (.lst (bs.map D.bl))):Xe [.ref n] M= .ok (.bl (bs.all id)) M:=by
 simp only[Xe,Eb,dM h,Yn]
end
def pN(i:Int):List D->List D
 | []=>[]
 | d::r=> .tup [.int i,d]::pN (i+1) r
theorem LR:∀(i:Int) (ds:List D) (k:Nat),(pN i ds)[k]? = (ds[k]?).map λd=>D.tup [.int (i+k),d]
 | i,[],k=>by simp[pN]
 | i,d::r,0=>by simp[pN]
 | i,d::r,k+1=>by
  simp only[pN,List.getElem?_cons_succ]
  rw[LR (i+1) r k]
  have:i+1+(k:Int)=i+((k+1:Nat):Int):=by omega
  rw[this]
theorem qg:∀(i:Int) (ds:List D),(pN i ds).length=ds.length
 | _,[]=>rfl
 | i,_::r=>by simp[pN,qg (i+1) r]
noncomputable def Fb(d k:D)(M:Mem):Out Itm:=match k with
 | .int i=>match d with
  | .ref n=>match nj M n with
   | some ds=> .ok ⟨some (n,ds),pN i ds⟩ M
   | none=> .bad
  | .cl ds=> .ok ⟨none,pN i ds⟩ M
  | .tup ds=> .ok ⟨none,pN i ds⟩ M
  | .m8 ds=> .ok ⟨none,pN i ds⟩ M
  | _=> .bad
 | _=> .bad
section
variable{X:Cx}{ct:Nat->Addr}{W:a_}
theorem Dl{K:Frag}{Sq:Hp->List V->Prop}{ι:Nat->Addr}{M:Mem}{H:Hp}{xs:List V}{ds:List D}{k:Int}(R:Rl K ct ι M H)(hq:Sq H xs)(hd:iG K ct ι M.length H ds xs)(i:Nat):
  (∀d,(pN k ds)[i]? = some d->(Ite Sq k).go i H/\∀x H2,(Ite Sq k).YF i H x H2->Ext K ι M.length H ι M.length H2/\Rl K ct ι M H2/\DV K ct ι M.length H2 d x)/\((pN k ds).length<=i->(Ite Sq k).stop i H):=by
 refine⟨λd e=> ?_,λh=>⟨xs,hq,by rw[hd.length];rw[qg]at h;exact h⟩⟩
 rw[LR]at e
 obtain⟨d0,e0,rfl⟩:=Option.map_eq_some_iff.mp e
 obtain⟨v,hv,dv⟩:=hd.at e0
 refine⟨⟨xs,v,hq,hv⟩,λx H2 y=> ?_⟩
 obtain⟨p,y0,hp,rfl,rfl,hy⟩:=y
 have z:=hy xs hq
 rw[hv]at z
 cases z
 exact⟨Ext.fresh hp,R.fresh hp,.tup bh (.cons (.int _) (.cons (dv.mono (Ext.fresh hp)) .nil))⟩
end
section
variable{X:Cx}{ct:Nat->Addr}{W:a_}
def Ul(ma:ME):MI:=λe M=>(ma e M).bind λd M1=>Fb d (.int 0) M1
theorem Zj{a:Expr}{ma:ME}{es:List Expr}{n:Nat}{p pos tp:Pos}(hg:Gl X "enumerate")(hm:X.mg "enumerate" = none)(ha:SE X ct W a ma)
  (hs:starEach [a] X.env=[(false,eval a X.env)]:=by rfl):
  SI X ct W (.Tuple es n tp) (.Call (.Name "enumerate" p) [a] [] pos) (Ul ma):=PI.imp (aab hg hm ha hs) λσ H R q=>by
 obtain⟨ι,e,M,w,p⟩:=bG (dm:=dw X.K ct) (f:=λd _ M1=>Fb d (.int 0) M1) q
 refine⟨ι,e,M,w,p.mono λx H1 ⟨iB,e1,M2,d,w1,q1,p2⟩=> ?_⟩
 have r2:=w1.rl
 cases q1 with
 | @ref m hm=>
  simp only[Fb]at p2
  cases z0:nj M2 m with
  | none=>rw[z0]at p2;exact p2.elim
  | some ds=>
   simp only[z0]at p2
   obtain⟨xs,hH,hd⟩:=r2.obj m _ (jz.mp z0)
   refine⟨_,rfl,.inl ⟨⟨xs,pO.of hH⟩,λhz=>p2 iB _ H1 .refl r2 ⟨z0,by rw[qg,<-hd.length];exact hz xs (pO.of hH),λK6 M3 H3 x3 r3 ok3 j=> ?_⟩⟩⟩
   obtain⟨xs3,hH3,hd3⟩:=r3.obj m _ (jz.mp ok3)
   rw[<-x3.same m hm]
   exact Dl r3 (pO.of hH3) hd3 j
 | cl h1 h2=>exact⟨_,rfl,.inl ⟨⟨_,h1.sq⟩,λhz=>p2 iB _ H1 .refl r2 ⟨trivial,by rw[qg,<-h2.length];exact hz _ h1.sq,λK6 M3 H3 x3 r3 ok3 j=>Dl (Sq:=λH xs=>pO X.K H _ xs) r3 (x3.jY _ _ h1).sq (h2.mono x3) j⟩⟩⟩
 | tup h1 h2=>exact⟨_,rfl,.inr ⟨⟨_,o9.of h1⟩,λhz=>p2 iB _ H1 .refl r2 ⟨trivial,by rw[qg,<-h2.length];exact hz _ (o9.of h1),λK6 M3 H3 x3 r3 ok3 j=>Dl (Sq:=λH xs=>o9 X.K H _ xs) r3 (o9.of (x3.tup _ _ h1)) (h2.mono x3) j⟩⟩⟩
 | m8 h1 h2=>exact⟨_,rfl,.inr ⟨⟨_,.inr h1⟩,λhz=>p2 iB _ H1 .refl r2 ⟨trivial,by rw[qg,<-h2.length];exact hz _ (.inr h1),λK6 M3 H3 x3 r3 ok3 j=>Dl (Sq:=λH xs=>o9 X.K H _ xs) r3 (.inr h1) (h2.mono x3) j⟩⟩⟩
 | _=>exact p2.elim
@[simp] theorem aht{ma:ME}{e:Sl}{M:Mem}:Ul ma e M=(ma e M).bind λd M1=>Fb d (.int 0) M1:=id rfl
@[simp] theorem agB{M:Mem}{ds:List D}{i:Int}:Fb (.m8 ds) (.int i) M= .ok ⟨none,pN i ds⟩ M:=id rfl
@[simp] theorem aii{M:Mem}{ds:List D}:zX [.m8 ds] M= .ok (.int ds.length) M:=id rfl
end
section
variable{X:Cx}{ct:Nat->Addr}{W:a_}
def one(ds:List D)(c:Nat)(e:Sl)(M:Mem):gP:=match ds with
 | [d]=> .exc c d e M
 | _=> .bad
def sRz(c:Nat)(ms:MA):MS:=λe M=>Br e (ms e M) λds M1=>one ds c e M1
theorem Zg{c k:Nat}{f:Addr}{fd:FuncData}{ps:List Str}{x:Str}{np cpos pos:Pos}{arg:Expr}{ms:MA}(Mx:XMk X.K (ct c) f)(hX:Dz X.K (ct c) "at")(F:aM X.prog X.w X.K X.mg X.base Vg k f fd ps (zy X.K "at"))(hr:gQ (k+1) X.A)(hb:Binds X.K fd ps [])
  (hg:Gl X x) (hm:X.mg x=some (.ref (ct c))) (hc:X.calm=true) (hW:Tk X W) (ha:SA X ct W [arg] ms) (hdb:(x==("__debug__" : Str))=false:=by decide) (he:starEach [arg] X.env=[(false,eval arg X.env)]:=by rfl):
  SS X ct W (.Raise (some (.Call (.Name x np) [arg] [] cpos)) none pos) (sRz c ms):=PS.imp (Z9 Mx hX F hr hb hg hm hc hW ha hdb he) λT σ H q=>by
 obtain⟨ι,e,M,w,p⟩:=pR (rel:=GZ X.K ct) (f:=λds e M1=>one ds c e M1) q
 refine⟨ι,e,M,w,p.mono λvs H1 ⟨bO,e1,M1,ds,w1,q1,p1⟩=> ?_⟩
 unfold one at p1
 split at p1
 ·rename_i d
  obtain⟨v,rfl,qv⟩:=z_ q1
  refine⟨v,rfl,λdx hd=> ?_⟩
  have x2:Ext X.K bO M1.length H1 bO M1.length (upd H1 dx (.xd [("at",v)])):=Ext.fresh hd
  exact p1 bO σ dx v _ x2 (w1.ext x2 (w1.rl.fresh hd)) bh (qv.mono x2)
 ·exact p1.elim
def WQ(K:Frag)(ct:Nat->Addr)(cv:Value):List (Nat×Bool)->Prop
 | []=>True
 | (c,b)::r=>exmOne K (.ref (ct c)) cv=some b/\WQ K ct cv r
theorem WQ.get{K:Frag}{cv:Value}:∀{cl:List (Nat×Bool)} {c:Nat} {b:Bool},WQ K ct cv cl->cl.lookup c=some b->exmOne K (.ref (ct c)) cv=some b
 | [],_,_,_,h=>by simp at h
 | (k,b')::r,c,b,⟨h1,h2⟩,h=>by
  rw[List.lookup_cons]at h
  cases z:c==k with
  | true=>rw[z]at h;cases h;cases(beq_iff_eq.mp z);exact h1
  | false=>rw[z]at h;exact h2.get h
def gP.noX(o:gP):gP:=match o with
 | .exc _ _ _ _=> .bad
 | o=>o
noncomputable def gP.less(i:Nat)(o:gP):gP:=match o with
 | .next e M=> .next (e.set i none) M
 | .brk e M=> .brk (e.set i none) M
 | .cont e M=> .cont (e.set i none) M
 | .ret d M=> .ret d M
 | .exc _ _ _ _=> .bad
 | .bad=> .bad
noncomputable def Y4(cl:List (Nat×Bool))(h:Nat->D->Sl->Mem->gP)(o:gP):gP:=match o with
 | .exc c d e M=>match cl.lookup c with
  | some true=>h c d e M
  | some false=> .exc c d e M
  | none=> .bad
 | o=>o
def Nk(i:Nat)(cl:List (Nat×Bool))(b s:MS):MS:=λe M=>Y4 cl (λc d e' M'=>(s (e'.set i (some (.exc c d))) M').less i) (b e M)
theorem o_.less{K:Frag}{ι:Nat->Addr}{n i:Nat}{H:Hp}{o:gP}{T:Ends}(h:o_ K ct W ι n H (o.less i) T):o_ K ct W0 ι n H o (Ends.less T i):=by
 cases o with
 | exc c d e M=>exact False.elim h
 | next e M=>exact λι' σ' H' x w=>h ι' _ H' x (w.clear i)
 | ret e M=>exact h
 | brk e M=>exact λι' σ' H' x w=>h ι' _ H' x (w.clear i)
 | cont e M=>exact λι' σ' H' x w=>h ι' _ H' x (w.clear i)
 | bad=>exact h
variable{c:Str}{cp hpos pos:Pos}{b₀:Stmt}{suite body:List Stmt}{b s:MS}{cl:List (Nat×Bool)}{cv:Value}{v:V}
theorem Zf{i:Nat}{n:Str}(hst:X.stack=X.env::X.outer)(hf:X.env.frame=some X.env.locals)(hx:Tk X W)(hv:∀u,RelV v u->u=cv)(hn:∀e,PE (X.held e) (.Name c cp) (tC v))(hm:WQ X.K ct cv cl)
  (nd:X.N.Nodup) (hi:X.N[i]? = some n) (hl:X.env.scope.names.lookup n=some .local) (hk:X.env.kindOf n=some .local)
  (hb:∀pins W1,Yv ((X.pp pins).wish (gO (X.pp pins) W1)) ct W1 body b) (hs:∀e,Yv (X.held e) ct W0 (b₀::suite) s):
  SS X ct W (.Try body [.ExceptHandler (some (.Name c cp)) (some n) (b₀::suite) hpos] [] [] pos) (Nk i cl b s):=
 PS.imp (Z8 (tb:=λW1=>tS X.K ct W1 b) (ts:=tS X.K ct W0 s) hst hf hx hv hn nd hi hl hk hb hs) λT σ H ⟨ι,e,M,w,p⟩=>by
  refine⟨ι,e,M,w,?_⟩
  unfold Nk at p
  cases z:b e M with
  | exc xc xd xe xM=>
   rw[z]at p
   simp only[Y4]at p
   cases z2:cl.lookup xc with
   | none=>simp only[z2]at p;exact p.elim
   | some k=>
    simp only[z2]at p
    have e2:=hm.get z2
    cases k with
    | false=>exact λι' σ' dx v' H' x w' q1 q2=>⟨false,e2,p ι' σ' dx v' H' x w' q1 q2⟩
    | true=>
     refine λι' σ' dx v' H' x w' q1 q2=>⟨true,e2,?_⟩
     show ∀a,H' a=none->_
     intro a ha
     have x2:Ext X.K ι' xM.length H' ι' xM.length (upd H' a (xC a (ct xc) dx)):=Ext.fresh ha
     have w2:=w'.ext x2 (w'.rl.fresh ha)
     have dvx:DV X.K ct ι' xM.length (upd H' a (xC a (ct xc) dx)) (.exc xc xd) (.ref a):= .exc bh (x2.xd _ _ q1) (q2.mono x2)
     exact⟨ι',_,xM,w2.set i dvx,(o_.less p).ext (x.trans x2)⟩
  | next _ _=>rw[z]at p;exact p
  | ret _ _=>rw[z]at p;exact p
  | brk _ _=>rw[z]at p;exact p
  | cont _ _=>rw[z]at p;exact p
  | bad=>rw[z]at p;exact p
def aec(K:Frag)(ct:Nat->Addr):List Nat->Prop
 | []=>True
 | c::r=>(Dz K (ct c) "at" /\ XIs K (ct c))/\aec K ct r
theorem aec.get{K:Frag}:∀{cs:List Nat} {c:Nat},aec K ct cs->c∈cs->Dz K (ct c) "at" /\ XIs K (ct c)
 | [],_,_,h=>by simp at h
 | c::cs,d,⟨a,r⟩,h=>by
  rcases List.mem_cons.mp h with e | e
  ·subst e;exact a
  ·exact r.get e
def Qe(cs:List Nat)(d:D)(M:Mem):Out D:=match d with
 | .exc c x=>if c∈cs then .ok x M else .bad
 | _=> .bad
def ado(cs:List Nat)(m:ME):ME:=λe M=>(m e M).bind (Qe cs)
theorem Zm{cs:List Nat}{a:Expr}{ma:ME}{pos:Pos}(hc:aec X.K ct cs)(ha:SE X ct W a ma)(hb:attributeBase a "at" X.env (eval a X.env)=eval a X.env:=by rfl):SE X ct W (.Attribute a "at" pos) (ado cs ma):=dj (afH ha hb) λσ H Q q=>by
 obtain⟨ι,e,M,w,p⟩:=bG (dm:=dw X.K ct) (f:=λd _ M1=>Qe cs d M1) q
 refine⟨ι,e,M,w,p.mono λx H1 ⟨bO,e1,M1,d,w1,q1,p1⟩=> ?_⟩
 cases q1 with
 | @exc a dx c d v h1 h2 h3=>
  simp only[Qe]at p1
  by_cases z:c∈cs
  ·rw[if_pos z]at p1
   exact⟨a,ct c,dx,_,v,rfl,h1,h2,(hc.get z).1,(hc.get z).2.gn,rfl,p1 bO v H1 .refl w1.rl h3⟩
  ·rw[if_neg z]at p1;exact p1.elim
 | _=>exact p1.elim
end
section
variable{e:Sl}{M:Mem}{c:Nat}{d:D}
@[simp] theorem ak8{ms:MA}:sRz c ms e M=Br e (ms e M) λds M1=>one ds c e M1:=id rfl
@[simp] theorem ahi{i:Nat}{cl:List (Nat×Bool)}{b s:MS}:Nk i cl b s e M=Y4 cl (λc d e' M'=>(s (e'.set i (some (.exc c d))) M').less i) (b e M):=id rfl
@[simp] theorem ahu{i:Nat}:(gP.next e M).less i= .next (e.set i none) M:=id rfl
@[simp] theorem aka{cs:List Nat}{m:ME}:ado cs m e M=(m e M).bind (Qe cs):=id rfl
@[simp] theorem ahL{cs:List Nat}:Qe cs (.exc c d) M=if c∈cs then .ok d M else .bad:=id rfl
end
section
variable{X:Cx}{ct:Nat->Addr}{W:a_}{pos:Pos}
def oZ:ME:=λ_ M=> .ok (.ref M.length) (M++[.dk []])
theorem gW:SE X ct W (.Dict [] [] pos) oZ:=dj aak λσ H Q ⟨ι,e,M,w,p⟩ pp hp=>by
 have el:(M++[MO.dk []]).length=M.length+1:=by simp
 have x:Ext X.K ι M.length H (nQ ι M.length pp) (M.length+1) (upd H pp (.dK [])):=Ext.new hp
 have e0:(nQ ι M.length pp) M.length=pp:=by unfold nQ;rw[if_pos rfl]
 have dv:DV X.K ct (nQ ι M.length pp) (M++[MO.dk []]).length (upd H pp (.dK [])) (.ref M.length) (.ref pp):=by
  have:=DV.ref (K:=X.K) (ct:=ct) (ι:=nQ ι M.length pp) (n:=(M++[MO.dk []]).length) (H:=upd H pp (.dK [])) (i:=M.length) (by rw[el];omega)
  rw[e0]at this
  exact this
 exact p (nQ ι M.length pp) (.ref pp) _ (by rw[el];exact x) (w.rl.new hp ⟨[],bh,.nil⟩) dv
def qT(d:D)(M:Mem):Bool:=match d with
 | .ref n=>match M[n]? with
  | some (.dk _)=>true
  | some (.dt _)=>true
  | _=>false
 | _=>false
theorem Rz{K:Frag}{ι:Nat->Addr}{M:Mem}{H:Hp}{d:D}{v:V}(R:Rl K ct ι M H)(h:qT d M=true)(q:DV K ct ι M.length H d v):∃n,d= .ref n/\n<M.length/\v= .ref (ι n)/\IsD H (ι n):=by
 cases d with
 | ref n=>
  obtain⟨hn,rfl⟩:=lg q
  refine⟨n,rfl,hn,rfl,?_⟩
  unfold qT at h
  dsimp only at h
  split at h
  ·rename_i kvs e
   obtain⟨vs,hH,_⟩:=R.obj n _ e
   exact .inl ⟨vs,.inl hH⟩
  ·rename_i kvs e
   obtain⟨vs,hH,_⟩:=R.obj n _ e
   exact .inr ⟨vs,.inl hH⟩
  ·cases h
 | _=>exact absurd h xA
noncomputable def z9(d k x:D)(M:Mem):Out D:=match d with
 | .ref n=>match BR M n k with
  | some (some v,M')=> .ok v M'
  | some (none,M')=> .ok x M'
  | none=> .bad
 | _=> .bad
def mF(mo mk mx:ME):ME:=λe M=>(mo e M).bind λd M1=>if qT d M1=true then(mk e M1).bind λk M2=>(mx e M2).bind λx M3=>z9 d k x M3 else .bad
def V7(mo mk:ME):ME:=λe M=>(mo e M).bind λd M1=>if qT d M1=true then(mk e M1).bind λk M2=>z9 d k .non M2 else .bad
theorem Wl{ι:Nat->Addr}{M:Mem}{H:Hp}{n:Nat}{k x:D}{vk vx:V}{Q:VK}{w:XW}(R:Rl X.K ct ι M H)(hn:n<M.length)(qk:DV X.K ct ι M.length H k vk)(qx:DV X.K ct ι M.length H x vx)(p:iD (dw X.K ct) X.K ct w ι M.length H (z9 (.ref n) k x M) Q):
  ∃o H',Ve H (ι n) vk o H'/\Q (o.getD vx) H':=by
 simp only[z9]at p
 split at p
 ·rename_i v M' e
  obtain⟨ov,H',g,x2,R',h1,_⟩:=Ia R e hn qk
  obtain⟨u,rfl,dv,_,_⟩:=h1 v rfl
  exact⟨_,H',g,p ι u H' x2 R' dv⟩
 ·rename_i M' e
  obtain⟨ov,H',g,x2,R',_,h2⟩:=Ia R e hn qk
  have:=h2 rfl
  subst this
  exact⟨_,H',g,p ι vx H' x2 R' (qx.mono x2)⟩
 ·exact p.elim
variable{o e f i value:Expr}{mo mk mx mv:ME}{apos cpos pos':Pos}
theorem fH(hu:X.A.units+64<cLine)(ho:SE X ct W o mo)(he:SE X ct W e mk)(hf:SE X ct W f mx)
  (base:attributeBase o "get" X.env (eval o X.env)=eval o X.env:=by rfl)
  (few:((backTo cpos (starEach [e,f] X.env)).all (λx=> !x.1)&&(backToKw cpos (keywordEach [] X.env)).all (λx=>x.1.isSome)
   && decide (([e,f]:List Expr).length+([]:List Keyword).length+(if([]:List Keyword).isEmpty then 0 else 1)<30))=true:=by rfl)
  (line:(apos.endLine==cpos.line)=true:=by rfl) (trees:backTo cpos (starEach [e,f] X.env)=[(false,eval e X.env),(false,eval f X.env)]:=by rfl):
  SE X ct W (.Call (.Attribute o "get" apos) [e,f] [] cpos) (mF mo mk mx):=dj (aai (by omega) ho he hf ⟨base,few,line,trees⟩) λσ H Q q=>by
 obtain⟨ι,e,M,w,p⟩:=bG (dm:=dw X.K ct) (f:=λd e M1=>if qT d M1=true then(mk e M1).bind λk M2=>(mx e M2).bind λx M3=>z9 d k x M3 else .bad) q
 refine⟨ι,e,M,w,p.mono λv H1 ⟨bO,e1,M1,d,w1,q1,p1⟩=> ?_⟩
 cases z:qT d M1 with
 | false=>simp only[z,Bool.false_eq_true,if_false]at p1;exact p1.elim
 | true=>
  simp only[z,if_true]at p1
  obtain⟨n,rfl,hn,rfl,hD⟩:=Rz w1.rl z q1
  refine⟨_,rfl,hD,bO,e1,M1,w1,?_⟩
  cases z2:mk e1 M1 with
  | bad=>simp only[z2,Out.fU]at p1;exact p1
  | exc xc xd xM=>simp only[z2,Out.jo]at p1;exact p1
  | ok k M2=>
   simp only[z2,Out.cN]at p1
   intro iB vk H2 x2 r2 q2
   refine⟨iB,e1,M2,w1.ext x2 r2,?_⟩
   have p2:=p1.ext x2
   cases z3:mx e1 M2 with
   | bad=>simp only[z3,Out.fU]at p2;exact p2
   | exc xc xd xM=>simp only[z3,Out.jo]at p2;exact p2
   | ok x M3=>
    simp only[z3,Out.cN]at p2
    intro K6 vx H3 x3 r3 q3
    have:=Wl r3 (yA (yA hn x2.le) x3.le) (q2.mono x3) q3 (p2.ext x3)
    rw[<-x2.same n hn,<-x3.same n (yA hn x2.le)]
    exact this
theorem Vx(hu:X.A.units+64<cLine)(ho:SE X ct W o mo)(he:SE X ct W e mk)
  (base:attributeBase o "get" X.env (eval o X.env)=eval o X.env:=by rfl)
  (few:((backTo cpos (starEach [e] X.env)).all (λx=> !x.1)&&(backToKw cpos (keywordEach [] X.env)).all (λx=>x.1.isSome)
   && decide (([e]:List Expr).length+([]:List Keyword).length+(if([]:List Keyword).isEmpty then 0 else 1)<30))=true:=by rfl)
  (line:(apos.endLine==cpos.line)=true:=by rfl) (trees:backTo cpos (starEach [e] X.env)=[(false,eval e X.env)]:=by rfl):
  SE X ct W (.Call (.Attribute o "get" apos) [e] [] cpos) (V7 mo mk):=dj (aaj (by omega) ho he ⟨base,few,line,trees⟩) λσ H Q q=>by
 obtain⟨ι,e,M,w,p⟩:=bG (dm:=dw X.K ct) (f:=λd e M1=>if qT d M1=true then(mk e M1).bind λk M2=>z9 d k .non M2 else .bad) q
 refine⟨ι,e,M,w,p.mono λv H1 ⟨bO,e1,M1,d,w1,q1,p1⟩=> ?_⟩
 cases z:qT d M1 with
 | false=>simp only[z,Bool.false_eq_true,if_false]at p1;exact p1.elim
 | true=>
  simp only[z,if_true]at p1
  obtain⟨n,rfl,hn,rfl,hD⟩:=Rz w1.rl z q1
  refine⟨_,rfl,hD,bO,e1,M1,w1,?_⟩
  cases z2:mk e1 M1 with
  | bad=>simp only[z2,Out.fU]at p1;exact p1
  | exc xc xd xM=>simp only[z2,Out.jo]at p1;exact p1
  | ok k M2=>
   simp only[z2,Out.cN]at p1
   intro iB vk H2 x2 r2 q2
   have:=Wl r2 (yA hn x2.le) q2 .non (p1.ext x2)
   rw[<-x2.same n hn]
   exact this
noncomputable def Dr(M:Mem)(o k d:D):Option Mem:=match o with
 | .ref n=>match M[n]? with
  | some (.dk kvs)=>match toKey k with
   | some kk=>if kvs.length<sizeLine then some (M.set n (.dk (Xi kvs kk d)))else none
   | none=>match k with
    | .tup ds=>match toKeys ds with
     | some ks=>if kvs.isEmpty=true then some (M.set n (.dt [(ks,d)]))else none
     | none=>none
    | _=>none
  | some (.dt kvs)=>match k with
   | .tup ds=>match toKeys ds with
    | some ks=>if kvs.length<sizeLine then some (M.set n (.dt (Xi kvs ks d)))else none
    | none=>none
   | _=>none
  | _=>none
 | _=>none
theorem adS{ι:Nat->Addr}{M M':Mem}{H:Hp}{n:Nat}{k d:D}{vk vd:V}(R:Rl X.K ct ι M H)(h:Dr M (.ref n) k d=some M')(hn:n<M.length)(qk:DV X.K ct ι M.length H k vk)(qd:DV X.K ct ι M.length H d vd):
  ∃H',ajP H (ι n) vk vd H'/\Ext X.K ι M.length H ι M'.length H'/\Rl X.K ct ι M' H':=by
 simp only[Dr]at h
 split at h
 ·rename_i kvs e
  obtain⟨vs,hH,pv⟩:=R.obj n _ e
  split at h
  ·rename_i kk ek
   split at h
   ·rename_i hz
    cases h
    have:=Iu ek qk
    subst this
    have x2:Ext X.K ι M.length H ι M.length (upd H (ι n) (.dK (putK vs kk vd))):=Ext.chg hH (λ_ z=>nomatch z) (λ_ _ z=>nomatch z)
    exact⟨_,.inl (Qa.k hH (by rw[pv.length];exact hz)),by rw[List.length_set];exact x2,R.chg hn hH (λ_ z=>nomatch z) (λ_ _ z=>nomatch z) ⟨_,bh,(pv.put qd kk).mono x2⟩⟩
   ·cases h
  ·split at h
   ·rename_i ds
    split at h
    ·rename_i ks eks
     split at h
     ·rename_i hem
      cases h
      have ek:kvs=[]:=List.isEmpty_iff.mp hem
      subst ek
      cases pv
      obtain⟨b,xs,rfl,hb,hd⟩:=oJ qk
      have ex:=uA eks hd
      subst ex
      have x2:Ext X.K ι M.length H ι M.length (upd H (ι n) (.dT [(ks,vd)])):=Ext.chg hH (λ_ z=>nomatch z) (λ_ _ z=>nomatch z)
      exact⟨_,.inr ⟨ks,b,hH,rfl,hb,rfl⟩,by rw[List.length_set];exact x2,R.chg hn hH (λ_ z=>nomatch z) (λ_ _ z=>nomatch z) ⟨_,bh,.cons (qd.mono x2) .nil⟩⟩
     ·cases h
    ·cases h
   ·cases h
 ·rename_i kvs e
  obtain⟨vs,hH,pv⟩:=R.obj n _ e
  split at h
  ·rename_i ds
   split at h
   ·rename_i ks eks
    split at h
    ·rename_i hz
     cases h
     obtain⟨b,xs,rfl,hb,hd⟩:=oJ qk
     have ex:=uA eks hd
     subst ex
     have x2:Ext X.K ι M.length H ι M.length (upd H (ι n) (.dT (putK vs ks vd))):=Ext.chg hH (λ_ z=>nomatch z) (λ_ _ z=>nomatch z)
     exact⟨_,.inl (Qa.t hH hb (by rw[pv.length];exact hz)),by rw[List.length_set];exact x2,R.chg hn hH (λ_ z=>nomatch z) (λ_ _ z=>nomatch z) ⟨_,bh,(pv.put qd ks).mono x2⟩⟩
    ·cases h
   ·cases h
  ·cases h
 ·cases h
def tH(mo mk mv:ME):MS:=λe M=>Br e (mv e M) λd M1=>Br e (mo e M1) λo M2=>Br e (mk e M2) λk M3=>Xy (Dr M3 o k d) e
theorem rN(hu:X.A.units+64<cLine)(ho:SE X ct W o mo)(hi:SE X ct W i mk)(hv:SE X ct W value mv)(hs:swapsWith value (some (.Subscript o i pos')) pos.line X.env=pure false:=by rfl):
  SS X ct W (.Assign [.Subscript o i pos'] value pos) (tH mo mk mv):=PS.imp (acU (by omega) ho hi hv hs) λT σ H q=>by
 obtain⟨ι,e,M,w,p⟩:=pR (rel:=dw X.K ct) (f:=λd e M1=>Br e (mo e M1) λo M2=>Br e (mk e M2) λk M3=>Xy (Dr M3 o k d) e) q
 refine⟨ι,e,M,w,p.mono λvd H1 ⟨bO,e1,M1,d,w1,q1,p1⟩=>⟨bO,e1,M1,w1,?_⟩⟩
 cases z:mo e1 M1 with
 | bad=>simp only[z,HH]at p1;exact p1
 | exc xc xd xM=>simp only[z,HF]at p1;exact λiB dx v H2 x r q1 q2=>p1 iB σ dx v H2 x (w1.ext x r) q1 q2
 | ok o' M2=>
  simp only[z,NZ]at p1
  intro iB vo H2 x2 r2 q2
  have p2:=p1.ext x2
  have w2:=w1.ext x2 r2
  refine⟨iB,e1,M2,w2,?_⟩
  cases z2:mk e1 M2 with
  | bad=>simp only[z2,HH]at p2;exact p2
  | exc xc xd xM=>simp only[z2,HF]at p2;exact λK6 dx v H3 x r q1 q2=>p2 K6 σ dx v H3 x (w2.ext x r) q1 q2
  | ok k M3=>
   simp only[z2,NZ]at p2
   intro K6 vk H3 x3 r3 q3
   have p3:=p2.ext x3
   have w3:=w2.ext x3 r3
   cases z3:Dr M3 o' k d with
   | none=>rw[z3]at p3;exact p3.elim
   | some M4=>
    rw[z3]at p3
    cases o' with
    | ref n=>
     obtain⟨hn,rfl⟩:=lg q2
     have hn3:n<M3.length:=yA hn x3.le
     obtain⟨H4,g,x4,r4⟩:=adS r3 z3 hn3 q3 ((q1.mono x2).mono x3)
     refine⟨_,H4,rfl,?_,p3 K6 σ H4 x4 (w3.ext x4 r4)⟩
     rw[<-x3.same n hn]
     exact g
    | _=>simp only[Dr]at z3;cases z3
end
section
variable{e:Sl}{M:Mem}
@[simp] theorem ai1:oZ e M= .ok (.ref M.length) (M++[.dk []]):=id rfl
@[simp] theorem aiZ{mo mk mx:ME}:mF mo mk mx e M=(mo e M).bind λd M1=>if qT d M1=true then(mk e M1).bind λk M2=>(mx e M2).bind λx M3=>z9 d k x M3 else .bad:=id rfl
@[simp] theorem ai0{mo mk:ME}:V7 mo mk e M=(mo e M).bind λd M1=>if qT d M1=true then(mk e M1).bind λk M2=>z9 d k .non M2 else .bad:=id rfl
@[simp] theorem ahl{mo mk mv:ME}:tH mo mk mv e M=Br e (mv e M) λd M1=>Br e (mo e M1) λo M2=>Br e (mk e M2) λk M3=>Xy (Dr M3 o k d) e:=id rfl
theorem oA{n:Nat}{kvs:List (Key×D)}(h:M[n]? = some (.dk kvs)):qT (.ref n) M=true:=by simp only[qT,h]
theorem adA{n:Nat}{kvs:List (List Key×D)}(h:M[n]? = some (.dt kvs)):qT (.ref n) M=true:=by simp only[qT,h]
theorem UW{n:Nat}{kvs:List (Key×D)}{s:Int}(h:M[n]? = some (.dk kvs)):BR M n (.int s)=some (uz kvs (.inl s),M):=by simp only[BR,h,toKey]
theorem agM{n:Nat}{kvs:List (List Key×D)}{ds:List D}{ks:List Key}(h:M[n]? = some (.dt kvs))(hk:toKeys ds=some ks):BR M n (.tup ds)=some (uz kvs ks,M):=by simp only[BR,h,hk]
theorem agN{n:Nat}{ds:List D}{ks:List Key}(h:M[n]? = some (.dk []))(hk:toKeys ds=some ks):BR M n (.tup ds)=some (none,M.set n (.dt [])):=by simp only[BR,h,hk,toKey];rfl
end
end S
namespace S
theorem Mi:PySem.bootBuiltins "sorted" = some (.builtin "sorted"):=by rfl
open PySem PySem.Spec PyProof.Rows L2
noncomputable def fL:D->Option (List Int×Nat)
 | .int i=>some ([i],0)
 | .str s=>some (Qs s,1)
 | .tup ds=>(iI ds).map λis=>(is,is.length+2)
 | _=>none
noncomputable def kY:List D->Option (List Int×List Nat)
 | []=>some ([],[])
 | d::ds=>match fL d,kY ds with
  | some p,some q=>some (p.1++q.1,p.2::q.2)
  | _,_=>none
def QV:D->Option (List Int×List Nat)
 | .tup ds=>kY ds
 | _=>none
def mG(d:D):List Int:=match fL d with
 | some p=>p.1
 | none=>match QV d with
  | some p=>p.1
  | none=>[]
def XS(d:D):List D->List D
 | []=>[d]
 | x::l=>if HT.lexLt (mG x) (mG d)=true then x::XS d l else d::x::l
def uC:List D->List D
 | []=>[]
 | d::l=>XS d (uC l)
abbrev UpD(l:List D):Prop:=l.Pairwise λa b=>HT.lexLt (mG b) (mG a)=false
theorem Ex(d:D):∀l:List D,(XS d l).Perm (d::l)
 | []=>List.Perm.refl _
 | x::l=>by
  unfold XS
  split
  ·exact((Ex d l).cons x).trans (List.Perm.swap d x l)
  ·exact List.Perm.refl _
theorem nC:∀l:List D,(uC l).Perm l
 | []=>List.Perm.refl _
 | d::l=>(Ex d _).trans ((nC l).cons d)
theorem We(d:D):∀{l:List D},UpD l->UpD (XS d l)
 | [],_=>List.pairwise_singleton _ _
 | x::l,h=>by
  rw[UpD,List.pairwise_cons]at h
  unfold XS
  split
  ·rename_i hx
   rw[UpD,List.pairwise_cons]
   refine⟨λy hy=> ?_,We d h.2⟩
   rcases List.mem_cons.mp ((Ex d l).mem_iff.mp hy)with rfl | hy
   ·exact KeyOrd.kle_of_klt (O:=aaQ) hx
   ·exact h.1 y hy
  ·rename_i hx
   rw[UpD,List.pairwise_cons]
   have hx':HT.lexLt (mG x) (mG d)=false:=by simpa using hx
   refine⟨λy hy=> ?_,List.pairwise_cons.mpr h⟩
   rcases List.mem_cons.mp hy with rfl | hy
   ·exact hx'
   ·exact KeyOrd.kle_trans (O:=aaQ) (a:=mG d) (b:=mG x) (c:=mG y) hx' (h.1 y hy)
theorem Vs:∀l:List D,UpD (uC l)
 | []=>List.Pairwise.nil
 | d::l=>We d (Vs l)
theorem Ld:∀{l m:List D},UpD l->UpD m->l.Perm m->(∀a∈l,∀b∈l,mG a=mG b->a=b)->l=m
 | [],m,_,_,p,_=>by have:=p.length_eq;cases m with
  | nil=>rfl
  | cons _ _=>simp at this
 | a::l,[],_,_,p,_=>by have:=p.length_eq;simp at this
 | a::l,b::m,h,h',p,k=>by
  rw[UpD,List.pairwise_cons]at h h'
  have hb:b∈a::l:=p.mem_iff.mpr xB
  have ha:a∈b::m:=p.mem_iff.mp xB
  have e:a=b:=by
   rcases List.mem_cons.mp hb with q | q
   ·exact q.symm
   ·rcases List.mem_cons.mp ha with r | r
    ·exact r
    ·exact k a xB b hb (yH _ _ (h'.1 a r) (h.1 b q))
  subst e
  rw[Ld h.2 h'.2 ((List.perm_cons a).mp p) λx hx y hy=>k x (yT _ hx) y (yT _ hy)]
theorem acn{l m:List D}(hm:UpD m)(p:l.Perm m)(k:∀a∈l,∀b∈l,mG a=mG b->a=b):uC l=m:=
 Ld (Vs l) hm ((nC l).trans p) λa ha b hb=>k a ((nC l).mem_iff.mp ha) b ((nC l).mem_iff.mp hb)
theorem Qq:∀{a b:List Nat} {r r':List Int},a.map Int.ofNat++[-1]++r=b.map Int.ofNat++[-1]++r'->a=b/\r=r'
 | [],[],r,r',h=>by simpa using h
 | [],y::b,r,r',h=>by
  simp at h
 | x::a,[],r,r',h=>by
  simp at h
 | x::a,y::b,r,r',h=>by
  simp only[List.map_cons,List.cons_append]at h
  injection h with h1 h2
  obtain⟨e1,e2⟩:=Qq h2
  have:x=y:=Int.ofNat.inj h1
  exact⟨by rw[this,e1],e2⟩
theorem rJ:∀{ds:List D} {is:List Int},iI ds=some is->ds=is.map D.int
 | [],is,h=>by cases h;rfl
 | d::r,is,h=>by
  cases d with
  | int i=>
   simp only[iI]at h
   obtain⟨js,h1,rfl⟩:=Option.map_eq_some_iff.mp h
   rw[rJ h1];rfl
  | _=>simp[iI]at h
theorem Q5{d d':D}{c c' r r':List Int}{k:Nat}(h:fL d=some (c,k))(h':fL d'=some (c',k))(e:c++r=c'++r'):d=d'/\r=r':=by
 cases d with
 | int i=>
  cases d' with
  | int j=>simp only[fL]at h h';cases h;cases h';simp at e;exact⟨by rw[e.1],e.2⟩
  | str s=>simp only[fL]at h h';cases h;cases h'
  | tup ds=>simp only[fL]at h h';cases h;obtain⟨is,_,q⟩:=Option.map_eq_some_iff.mp h';simp at q
  | _=>simp[fL]at h'
 | str s=>
  cases d' with
  | int j=>simp only[fL]at h h';cases h;cases h'
  | str s'=>
   simp only[fL]at h h'
   cases h;cases h'
   obtain⟨e1,e2⟩:=Qq e
   refine⟨?_,e2⟩
   cases s;cases s'
   simp at e1
   rw[e1]
  | tup ds=>simp only[fL]at h h';cases h;obtain⟨is,_,q⟩:=Option.map_eq_some_iff.mp h';simp at q
  | _=>simp[fL]at h'
 | tup ds=>
  simp only[fL]at h
  obtain⟨is,hi,q⟩:=Option.map_eq_some_iff.mp h
  simp at q
  obtain⟨rfl,rfl⟩:=q
  cases d' with
  | int j=>simp[fL]at h'
  | str s=>simp[fL]at h'
  | tup ds'=>
   simp only[fL]at h'
   obtain⟨js,hj,q⟩:=Option.map_eq_some_iff.mp h'
   simp at q
   obtain⟨rfl,ek⟩:=q
   obtain⟨e1,e2⟩:=List.append_inj e ek.symm
   rw[rJ hi,rJ hj,e1]
   exact⟨rfl,e2⟩
  | _=>simp[fL]at h'
 | _=>simp[fL]at h
theorem Lq:∀{ds ds':List D} {c:List Int} {ks:List Nat},kY ds=some (c,ks)->kY ds'=some (c,ks)->ds=ds'
 | [],[],_,_,_,_=>rfl
 | [],d'::ds',c,ks,h,h'=>by
  simp only[kY]at h h'
  cases h
  split at h'<;>simp at h'
 | d::ds,[],c,ks,h,h'=>by
  simp only[kY]at h h'
  cases h'
  split at h<;>simp at h
 | d::ds,d'::ds',c,ks,h,h'=>by
  simp only[kY]at h h'
  split at h
  ·rename_i p q hp hq
   split at h'
   ·rename_i p' q' hp' hq'
    simp at h h'
    obtain⟨h1,h2⟩:=h
    obtain⟨h1',h2'⟩:=h'
    subst h1 h2
    simp at h2'
    obtain⟨e1,e2⟩:=Q5 (d:=d) (d':=d') (k:=p.2) (by rw[hp]) (by rw[hp',<-h2'.1]) h1'.symm
    have:=Lq (ds:=ds) (ds':=ds') (c:=q.1) (ks:=q.2) (by rw[hq]) (by rw[hq',e2,<-h2'.2])
    rw[e1,this]
   ·cases h'
  ·cases h
inductive Yo (ds:List D):Prop
 | flat (k:Nat) (hk:k<2) (h:∀d∈ds,∃c,fL d=some (c,k)):Yo ds
 | rows (k:Nat) (ks:List Nat) (h:∀d∈ds,∃c,QV d=some (c,k::ks)):Yo ds
theorem JN{d:D}{c:List Int}{k:Nat}(h:fL d=some (c,k)):mG d=c:=by unfold mG;rw[h]
theorem Jp:∀{is:List Int},kY (is.map D.int)=some (is,is.map λ_=>0)
 | []=>rfl
 | i::is=>by
  have:=Jp (is:=is)
  simp only[List.map_cons,kY,fL,this]
  rfl
theorem HW{d:D}{c:List Int}{ks:List Nat}(h:QV d=some (c,ks)):mG d=c:=by
 cases d with
 | tup ds=>
  unfold mG
  cases z:fL (.tup ds)with
  | none=>dsimp only;rw[h]
  | some p=>
   dsimp only
   simp only[fL]at z
   obtain⟨is,hi,q⟩:=Option.map_eq_some_iff.mp z
   rw[<-q]
   simp only[QV]at h
   rw[rJ hi,Jp]at h
   simp at h
   exact h.1
 | _=>simp[QV]at h
theorem Yo.inj{ds:List D}(h:Yo ds):∀a∈ds,∀b∈ds,mG a=mG b->a=b:=by
 intro a ha b hb e
 cases h with
 | flat k hk h=>
  obtain⟨c,h1⟩:=h a ha
  obtain⟨c',h2⟩:=h b hb
  rw[JN h1,JN h2]at e
  exact(Q5 (r:=[]) (r':=[]) h1 h2 (by rw[e])).1
 | rows k ks h=>
  obtain⟨c,h1⟩:=h a ha
  obtain⟨c',h2⟩:=h b hb
  rw[HW h1,HW h2]at e
  subst e
  cases a with
  | tup xs=>cases b with
   | tup ys=>rw[Lq (show kY xs=some (c,k::ks)from h1) (show kY ys=some (c,k::ks)from h2)]
   | _=>simp[QV]at h2
  | _=>simp[QV]at h1
theorem Nv{ds:List D}{q:List Nat}(h:Yo ds)(o:Order ds.length (ds.map mG) q):(q.map λi=>ds.getD i .non)=uC ds:=by
 have pm:(q.map λi=>ds.getD i .non).Perm ds:=by
  have:=o.pm.map λi=>ds.getD i .non
  have e:((List.range ds.length).map λi=>ds.getD i .non)=ds:=by
   refine List.ext_getElem? λi=> ?_
   rw[zaq]
   rcases Nat.lt_or_ge i ds.length with z | z
   ·simp[z]
   ·simp[z]
  rw[e]at this
  exact this
 refine(acn ?_ pm.symm h.inj).symm
 rw[UpD,List.pairwise_map]
 refine List.pairwise_iff_getElem.mpr λi j hi hj hij=> ?_
 have hl:q.length=ds.length:=by have:=o.pm.length_eq;simpa using this
 have:=o.up i j (by omega) (by omega)
 have g:∀x,x∈q->(ds.map mG).getD x []=mG (ds.getD x .non):=λx hx=>by
  have:=o.lt x hx
  simp[this]
 have gi:q.getD i 0=q[i]:=by simp[hi]
 have gj:q.getD j 0=q[j]:=by simp[hj]
 rw[gi,gj,g _ (List.getElem_mem hi),g _ (List.getElem_mem hj)]at this
 exact this
open Classical in
def Vy:Mr:=λds M=>match ds with
 | [.ref n]=>match nj M n with
  | some es=>if Yo es/\es.length<64 then .ok (.ref M.length) (M++[.lst (uC es)])else .bad
  | none=> .bad
 | _=> .bad
section
variable{X:Cx}{ct:Nat->Addr}{W:a_}{pos:Pos}{K:Frag}{ι:Nat->Addr}{n:Nat}{H:Hp}
theorem VR{d:D}{c:List Int}{k:Nat}{v:V}(h:fL d=some (c,k))(q:DV K ct ι n H d v):Part K H v c k:=by
 cases q with
 | int i=>simp only[fL]at h;cases h;exact .int i
 | str s=>simp only[fL]at h;cases h;exact .str s
 | tup e r=>
  simp only[fL]at h
  obtain⟨is,hi,z⟩:=Option.map_eq_some_iff.mp h
  simp at z
  obtain⟨rfl,rfl⟩:=z
  have:=nA hi r
  subst this
  exact .tup e
 | _=>simp[fL]at h
theorem Jq:∀{ds:List D} {c:List Int} {ks:List Nat} {vs:List V},kY ds=some (c,ks)->iG K ct ι n H ds vs->Parts K H vs c ks
 | [],c,ks,_,h,.nil=>by simp only[kY]at h;cases h;exact .nil
 | d::ds,c,ks,_,h,.cons q qs=>by
  simp only[kY]at h
  split at h
  ·rename_i p p' hp hp'
   cases h
   exact .cons (VR hp q) (Jq hp' qs)
  ·cases h
theorem VH{ds:List D}{vs:List V}(h:Yo ds)(q:iG K ct ι n H ds vs):K4 K H vs (ds.map mG):=by
 have hl:=q.length
 have get:∀{i:Nat} {y:V},vs[i]? = some y->∃d,ds[i]? = some d/\DV K ct ι n H d y:=λ{i y} hy=>by
  have hi:=(List.getElem?_eq_some_iff.mp hy).1
  have hd:ds[i]? = some ds[i]:=zae (by omega)
  obtain⟨v,h1,h2⟩:=q.at hd
  rw[hy]at h1
  cases h1
  exact⟨_,hd,h2⟩
 cases h with
 | flat k hk h=>
  refine .flat k hk (by simp;omega) λi y c hy hc=> ?_
  obtain⟨d,hd,dv⟩:=get hy
  rw[zaq,hd]at hc
  cases hc
  obtain⟨c,h1⟩:=h d (zab hd)
  rw[JN h1]
  exact VR h1 dv
 | rows k ks h=>
  refine .rows k ks (by simp;omega) λi y c hy hc=> ?_
  obtain⟨d,hd,dv⟩:=get hy
  rw[zaq,hd]at hc
  cases hc
  obtain⟨c,h1⟩:=h d (zab hd)
  rw[HW h1]
  cases dv with
  | tup e r=>exact⟨_,_,rfl,e,Jq h1 r⟩
  | _=>simp[QV]at h1
theorem Ua{ds:List D}{vs:List V}{q:List Nat}(h:iG K ct ι n H ds vs)(hq:∀i∈q,i<ds.length):iG K ct ι n H (q.map λi=>ds.getD i .non) (Q6 vs q):=by
 induction q with
 | nil=>exact .nil
 | cons i q ih=>
  refine .cons ?_ (ih λj hj=>hq j (yT _ hj))
  have hi:=hq i xB
  have hd:ds[i]? = some ds[i]:=zae hi
  obtain⟨v,h1,h2⟩:=h.at hd
  show DV K ct ι n H (ds.getD i .non) (vs.getD i .non)
  rw[List.getD_eq_getElem?_getD,List.getD_eq_getElem?_getD,hd,h1]
  exact h2
theorem ahB(hu:X.A.units+64<cLine):nu X ct (.builtin "sorted") Vy:=by
 refine⟨_,R5 (by omega),λι M H ds vs Q R h p=> ?_⟩
 unfold Vy at p
 split at p
 ·rename_i n
  obtain⟨v,rfl,q⟩:=z_ h
  obtain⟨hn,rfl⟩:=lg q
  split at p
  ·rename_i es z
   split at p
   ·rename_i hs
    obtain⟨ys,hH,dy⟩:=R.obj n _ (jz.mp z)
    have hl:=dy.length
    refine⟨_,ys,es.map mG,rfl,pO.of hH,by omega,VH hs.1 dy,λq l od hl'=> ?_⟩
    rw[show ys.length=es.length by omega]at od
    have:=Ua dy od.lt
    rw[Nv hs.1 od]at this
    exact oW R this hl' p
   ·exact p.elim
  ·exact p.elim
 ·exact p.elim
def pH:Key->D
 | .inl i=> .int i
 | .inr s=> .str s
def yL(M:Mem)(n:Nat):Option (List (D×D)):=match M[n]? with
 | some (.dk kvs)=>some (kvs.map λp=>(pH p.1,p.2))
 | some (.dt kvs)=>some (kvs.map λp=>(.tup (p.1.map pH),p.2))
 | _=>none
def pairD(p:D×D):D:= .tup [p.1,p.2]
open Classical in
def vC(d:D)(M:Mem):Out D:=match d with
 | .ref n=>match yL M n with
  | some ps=>if Yo (ps.map pairD)/\ps.length<64 then .ok (.ref M.length) (M++[.lst (uC (ps.map pairD))])else .bad
  | none=> .bad
 | _=> .bad
def yE(mo:ME):ME:=λe M=>(mo e M).bind vC
theorem HX{k:Key}:DV K ct ι n H (pH k) (kV k):=by
 cases k with
 | inl i=>exact .int i
 | inr s=>exact .str s
theorem Rp:∀{ks:List Key},iG K ct ι n H (ks.map pH) (ks.map kV)
 | []=> .nil
 | _::_=> .cons HX Rp
abbrev PD(K:Frag)(ct ι:Nat->Addr)(n:Nat)(H:Hp):List (D×D)->List (V×V)->Prop:=Paired λp q=>DV K ct ι n H p.1 q.1/\DV K ct ι n H p.2 q.2
theorem adB{M:Mem}{m:Nat}{ps:List (D×D)}{qs:List (V×V)}(R:Rl K ct ι M H)(h:yL M m=some ps)(hq:ahc H (ι m) qs):PD K ct ι M.length H ps qs:=by
 unfold yL at h
 split at h
 ·rename_i kvs e
  cases h
  obtain⟨vs,hH,pv⟩:=R.obj m _ e
  rcases hq with⟨kvs',h1,rfl⟩ | ⟨kvs',h1,_⟩
  ·rw[hH]at h1
   cases h1
   clear e hH
   induction pv with
   | nil=>exact .nil
   | cons q _ ih=>exact .cons ⟨HX,q⟩ (ih)
  ·rw[hH]at h1;cases h1
 ·rename_i kvs e
  cases h
  obtain⟨vs,hH,pv⟩:=R.obj m _ e
  rcases hq with⟨kvs',h1,rfl⟩ | ⟨kvs',h1,pr⟩
  ·rw[hH]at h1;cases h1
  ·rw[hH]at h1
   cases h1
   clear e hH
   induction pv generalizing qs with
   | nil=>cases pr;exact .nil
   | cons q _ ih=>
    cases pr with
    | cons r rs=>
     obtain⟨b,e1,e2,e3⟩:=r
     refine .cons ⟨?_,?_⟩ (ih rs)
     ·rw[e1];exact .tup e2 Rp
     ·rw[e3];exact q
 ·cases h
theorem YQ{ps:List (Addr×HO)}:∀{H:Hp},(∀p∈ps,H p.1=none)->(ps.map (·.1)).Nodup->Ext K ι n H ι n (CG H ps):=by
 induction ps with
 | nil=>intro H _ _;exact .refl
 | cons p ps ih=>
  intro H h nd
  rw[List.map_cons,List.nodup_cons]at nd
  refine(Ext.fresh (o:=p.2) (h p xB)).trans (ih (λq hq=> ?_) nd.2)
  rw[aG (λz=>nd.1 (by rw[<-z];exact List.mem_map_of_mem hq))]
  exact h q (yT _ hq)
theorem ab8{M:Mem}{ps:List (Addr×HO)}:∀{H:Hp},Rl K ct ι M H->(∀p∈ps,H p.1=none)->(ps.map (·.1)).Nodup->Rl K ct ι M (CG H ps):=by
 induction ps with
 | nil=>intro H R _ _;exact R
 | cons p ps ih=>
  intro H R h nd
  rw[List.map_cons,List.nodup_cons]at nd
  refine ih (R.fresh (o:=p.2) (h p xB)) (λq hq=> ?_) nd.2
  rw[aG (λz=>nd.1 (by rw[<-z];exact List.mem_map_of_mem hq))]
  exact h q (yT _ hq)
theorem VM{as:List Addr}{qs:List (V×V)}(h:as.length=qs.length):(prs as qs).map (·.1)=as:=by
 unfold prs
 rw[List.map_map]
 have e:((λx=>x.fst)∘λ(p:Addr×V×V)=>(p.1,HO.tup [p.2.1,p.2.2]))=Prod.fst:=rfl
 rw[e,List.map_fst_zip]
 omega
theorem aap{as:List Addr}{ps:List (D×D)}{qs:List (V×V)}{H':Hp}(h:PD K ct ι n H' ps qs)(la:as.length=qs.length)(hh:∀(i:Nat) (a:Addr) (q:V×V),as[i]? = some a->qs[i]? = some q->H' a=some (.tup [q.1,q.2])):iG K ct ι n H' (ps.map pairD) (as.map V.ref):=by
 induction h generalizing as with
 | nil=>cases as with
  | nil=>exact .nil
  | cons _ _=>simp at la
 | @cons p q ps qs r _ ih=>
  cases as with
  | nil=>simp at la
  | cons a as=>
   refine .cons (.tup (hh 0 a q rfl rfl) (.cons r.1 (.cons r.2 .nil))) (ih (by simpa using la) λi a q h1 h2=>hh (i+1) a q (by simpa using h1) (by simpa using h2))
variable{o:Expr}{mo:ME}{apos p1 pos1:Pos}
theorem Be(hc:X.calm=true)(hu:X.A.units+64<cLine)(ho:SE X ct W o mo)(hg:Gl X "sorted")(hm:X.mg "sorted" = none)
  (hbase:attributeBase o "items" X.env (eval o X.env)=eval o X.env:=by rfl) (hline:(apos.endLine==pos1.line)=true:=by rfl)
  (he:starEach [.Call (.Attribute o "items" apos) [] [] pos1] X.env=(false,eval (.Call (.Attribute o "items" apos) [] [] pos1) X.env)::starEach [] X.env:=by rfl) (hpl:(backTo pos (starEach [] X.env)).any (·.1)=false:=by rfl):
  SE X ct W (.Call (.Name "sorted" p1) [.Call (.Attribute o "items" apos) [] [] pos1] [] pos) (yE mo):=by
 refine dj (Q3 (Pk hc (by omega)) hg hm Mi (VV (aam PySem.F.plainAttrs_dict PySem.F.slot_dict_items PySem.F.type_dict_items aaB ho hbase hline) aaq he) (by decide) (by decide) he hpl) λσ H Q q=> ?_
 obtain⟨ι,e,M,w,p⟩:=bG (dm:=dw X.K ct) (f:=λd _ M1=>vC d M1) q
 refine⟨ι,e,M,w,p.mono λv H1 ⟨bO,e1,M1,d,w1,q1,p1⟩=> ?_⟩
 cases d with
 | ref m=>
  obtain⟨hn,rfl⟩:=lg q1
  have R1:=w1.rl
  simp only[vC]at p1
  cases z:yL M1 m with
  | none=>rw[z]at p1;exact p1.elim
  | some ps=>
   rw[z]at p1
   dsimp only at p1
   split at p1
   ·rename_i hs
    have isd:(∃kvs,H1 (bO m)=some (.dK kvs))\/∃kvs,H1 (bO m)=some (.dT kvs):=by
     unfold yL at z
     split at z
     ·rename_i kvs e'
      obtain⟨vs,hH,_⟩:=R1.obj m _ e'
      exact .inl ⟨vs,hH⟩
     ·rename_i kvs e'
      obtain⟨vs,hH,_⟩:=R1.obj m _ e'
      exact .inr ⟨vs,hH⟩
     ·cases z
    have ah9:∃u,H1 (bO m)=some u:=by
     rcases isd with⟨_,q⟩ | ⟨_,q⟩<;>exact⟨_,q⟩
    refine⟨.inr (.inr (.inl ⟨rfl,isd⟩)),_,rfl,rfl,?_,λv hv=> ?_⟩
    ·rcases isd with⟨kvs,q⟩ | ⟨kvs,q⟩
     ·exact .inl ⟨kvs,.inl q⟩
     ·exact .inr ⟨kvs,.inl q⟩
    ·have ne:bO m≠v:=λz'=>by obtain⟨u,hu⟩:=ah9;rw[z',hv]at hu;cases hu
     have x2:Ext X.K bO M1.length H1 bO M1.length (upd H1 v (Fx v (bO m))):=Ext.fresh hv
     have R2:Rl X.K ct bO M1 (upd H1 v (Fx v (bO m))):=R1.fresh hv
     have p2:=p1.ext x2
     refine⟨v,bO m,rfl,bh,by rw[aG ne];exact isd,λqs hqs=> ?_⟩
     have pd:=adB R2 z hqs
     have lq:=pd.length
     refine⟨by omega,?_⟩
     obtain⟨hs1,hs2⟩:=hs
     have rk:∃k ks,∀p∈ps,∃c,kY [p.1,p.2]=some (c,k::ks):=by
      cases hs1 with
      | flat k hk h=>
       cases ps with
       | nil=>exact⟨0,[],λp hp=>by cases hp⟩
       | cons p ps=>
        obtain⟨c,hc⟩:=h (pairD p) (by simp)
        simp only[pairD,fL]at hc
        obtain⟨is,_,q⟩:=Option.map_eq_some_iff.mp hc
        simp at q
        omega
      | rows k ks h=>exact⟨k,ks,λp hp=>h (pairD p) (List.mem_map_of_mem hp)⟩
     obtain⟨k,ks,hrow⟩:=rk
     refine⟨ps.map λp=>mG (pairD p),k,ks,?_,λas q l la nd fr od hl=> ?_⟩
     ·clear lq hqs z hs1 hs2 p1 p2
      induction pd with
      | nil=>exact .nil
      | @cons p q ps qs r _ ih=>
       refine .cons ?_ (ih λp hp=>hrow p (yT _ hp))
       obtain⟨c,hc⟩:=hrow p xB
       show Parts X.K _ _ (mG (pairD p)) _
       rw[HW (d:=pairD p) hc]
       exact Jq hc (.cons r.1 (.cons r.2 .nil))
     ·have fr':∀p∈prs as qs,upd H1 v (Fx v (bO m)) p.1=none:=λp hp=>by
       have:p.1∈(prs as qs).map (·.1):=List.mem_map_of_mem hp
       rw[VM la]at this
       exact fr _ this
      have nd':((prs as qs).map (·.1)).Nodup:=by rw[VM la];exact nd
      have x3:=YQ (K:=X.K) (ι:=bO) (n:=M1.length) fr' nd'
      have R3:=ab8 R2 fr' nd'
      have pd3:PD X.K ct bO M1.length (CG (upd H1 v (Fx v (bO m))) (prs as qs)) ps qs:=Paired.adn pd λa b h=>⟨h.1.mono x3,h.2.mono x3⟩
      have dv3:=aap pd3 la λi a q ha hq=>by
       have:(prs as qs)[i]? = some (a,.tup [q.1,q.2]):=by
        unfold prs
        rw[zaq,show(as.zip qs)[i]? = some (a,q)from List.getElem?_zip_eq_some.mpr ⟨ha,hq⟩]
        rfl
       exact MF nd' this
      have od':Order (ps.map pairD).length ((ps.map pairD).map mG) q:=by
       rw[List.map_map,zar,show ps.length=qs.length by omega]
       exact od
      have out:=Ua dv3 od'.lt
      rw[Nv hs1 od']at out
      exact oW R3 out hl (p2.ext x3)
   ·exact p1.elim
 | _=>exact p1.elim
end
section
variable{e:Sl}{M:Mem}
@[simp] theorem aeC{mo:ME}:yE mo e M=(mo e M).bind vC:=id rfl
theorem TJ{n:Nat}{ps:List (D×D)}(h:yL M n=some ps)(hs:Yo (ps.map pairD))(hl:ps.length<64):vC (.ref n) M= .ok (.ref M.length) (M++[.lst (uC (ps.map pairD))]):=by
 simp only[vC,h];rw[if_pos ⟨hs,hl⟩]
end
end S
namespace S
open PySem PySem.Spec PyProof.Rows L2
section
variable{X:Cx}{ct:Nat->Addr}{W:a_}{pos:Pos}{K:Frag}{ι:Nat->Addr}{n:Nat}{H:Hp}
theorem acL{kvs:List (Key×D)}{vs:List (Key×V)}(h:Ab K ct ι n H kvs vs):iG K ct ι n H (kvs.map λp=>pH p.1) (vs.map λp=>kV p.1):=by
 induction h with
 | nil=>exact .nil
 | cons _ _ ih=>exact .cons HX ih
variable{o:Expr}{mo:ME}{apos p1 pos1:Pos}
end
end S
namespace L2
open PySem PySem.Spec PyProof.Rows
section
variable{X:Cx}
theorem K8:∀{ws:List Str} {us:List Value},Vals (ws.map V.str) us->∃l:List (Str×Tok),us=strValues l/\l.map (·.1)=ws
 | [],_,.nil=>⟨[],rfl,rfl⟩
 | w::ws,_,.cons ⟨t,e⟩ r=>by
  obtain⟨l,e1,e2⟩:=K8 r
  subst e
  exact⟨(w,t)::l,by rw[e1];rfl,by rw[<-e2];rfl⟩
theorem Lh:∀(l:List (Str×Tok)),Vals ((l.map (·.1)).map V.str) (strValues l)
 | []=> .nil
 | (_,t)::l=> .cons ⟨t,rfl⟩ (Lh l)
def rJoin:V->List V->Hp->VK->Prop:=λx vs H Q=>∃y a ws,x= .str y/\vs=[.ref a]/\H a=some (.lst (ws.map V.str))/\JoinOk y ws=true/\Q (.str (Txt.join y ws)) H
theorem adh:MtR X "str.join" rJoin:=by
 intro pins s σ H x vs v us Q I rx r h
 obtain⟨y,a,ws,rfl,rfl,hH,hk,q⟩:=h
 obtain⟨t,rfl⟩:=rx
 obtain⟨u,rfl,ru⟩:=vals1 r
 cases ru
 obtain⟨z,its,n,rv,hl,e⟩:=I.Xz hH
 obtain⟨l,rfl,rfl⟩:=K8 rv
 exact SC.join ⟨_,e,rfl,n,rfl⟩ rfl hk λt' k=>⟨.str _,H,I.tok k,⟨_,rfl⟩,q⟩
theorem split_len(x y:Str):(Txt.split x y).length<=x.length+2:=by
 unfold Txt.split
 split
 ·simp
 ·split
  ·simp
  ·rw[length_partsBetween]
   have:=StrLaws.occ_length_le x y 0 x.length (x.length+1)
   omega
def afq:V->List V->Hp->VK->Prop:=λx vs H Q=>∃y z,x= .str y/\vs=[.str z]/\y.length+2<=sizeLine/\(z.length==0)=false/\∀p,H p=none->Q (.ref p) (upd H p (.lst ((Txt.split y z).map V.str)))
theorem aaA:MtR X "str.split" afq:=by
 intro pins s σ H x vs v us Q I rx r h
 obtain⟨y,z,rfl,rfl,hl,hz,q⟩:=h
 obtain⟨t,rfl⟩:=rx
 obtain⟨u,rfl,t',rfl⟩:=vals1 r
 have fin:∀(l:List (Str×Tok)) (k:Nat),l.map (·.1)=Txt.split y z->EP X pins σ Q (.ref s.heap.objs.size) {s with heap:=s.heap.push {cls:= .type "list",data:= .seq (strValues l).toArray},toks:=k}:=λl k e=>
  ⟨.ref _,_,I.ai7 (t':=k) (by rw[<-e];exact Lh l) (by rw[zar];exact yY (split_len y z) hl),rfl,q _ I.fresh⟩
 have agt:(Builtin.Str.partsBetween y (Builtin.Str.occurrences y z 0 y.length (y.length+1)) z.length).length<=sizeLine:=by
  rw[length_partsBetween]
  have:=StrLaws.occ_length_le y z 0 y.length (y.length+1)
  omega
 cases h1:(decide (y.length<z.length)||decide (Builtin.Str.strKind y<Builtin.Str.strKind z))with
 | true=>exact call_meets F.slot_str_split (typeIs_str _ _ _) F.entry_str_split (F.args_str_split_2 _ _) (meets_str_split_cannot_occur y z t t' h1) (fin [(y,t)] s.toks (if_pos h1).symm)
 | false=>
  have n1:=ne_true_of_eq_false h1
  cases h2:(Builtin.Str.occurrences y z 0 y.length (y.length+1)).isEmpty with
  | true=>exact call_meets F.slot_str_split (typeIs_str _ _ _) F.entry_str_split (F.args_str_split_2 _ _) (meets_str_split_not_found y z t t' h1 hz h2) (fin [(y,t)] s.toks ((if_neg n1).trans (if_pos h2)).symm)
  | false=>
   have n2:=ne_true_of_eq_false h2
   refine call_meets F.slot_str_split (typeIs_str _ _ _) F.entry_str_split (F.args_str_split_2 _ _) (meets_str_split_sep y z t t' h1 hz h2 (by omega) agt) ?_
   have:=fin (numbered s.toks (Builtin.Str.partsBetween y (Builtin.Str.occurrences y z 0 y.length (y.length+1)) z.length)) (s.toks+(Builtin.Str.partsBetween y (Builtin.Str.occurrences y z 0 y.length (y.length+1)) z.length).length) ((numbered_texts _ _).trans ((if_neg n1).trans (if_neg n2)).symm)
   rw[<-strsFrom_eq]at this
   exact this
theorem Yg:j4 X (.type "int") (λxs H Q=>(∃i,xs=[.int i]/\Q (.int i) H)\/(∃k,xs=[.bl k]/\Q (.int (if k then 1 else 0)) H)\/∃z n,xs=[.str z]/\PySem.intText? z=some n/\z.length<=640/\Q (.int n) H):=by
 intro pins s σ H xs us Q I r h
 rcases h with h | h | ⟨z,n,rfl,e,hl,q⟩
 ·exact Mh pins s σ H xs us Q I r (.inl h)
 ·exact Mh pins s σ H xs us Q I r (.inr h)
 ·obtain⟨u,rfl,t,rfl⟩:=vals1 r
  exact PySem.W.KIN.call_text e hl ⟨.int n,H,I.tok _,⟨_,rfl⟩,q⟩
theorem Xp:uv X (compareOp .LtE) (λx y H Q=>∃i j,x= .str i/\y= .str j/\Q (.bl (!(decide (j.cps.toList<i.cps.toList)))) H):=by
 intro pins s σ H x y v u Q I rx ry h
 obtain⟨i,j,rfl,rfl,q⟩:=h
 obtain⟨t,rfl⟩:=rx
 obtain⟨t',rfl⟩:=ry
 exact PySem.P.le_str (O6 I q rfl)
end
end L2
namespace TLe
open PySem PyProof.Rows PySem.SeqAt
open PySem.AutoSeq1 (wpAny_loadPart')
open PySem.MeetsSeq PySem.MeetsSeq2 PySem.MeetsSeq3
noncomputable def Rn:List Int->List Int->Bool
 | [],_=>true
 | _::_,[]=>false
 | x::xs,y::ys=>if x=y then Rn xs ys else decide (x<=y)
theorem aaR:∀{vs ws:List Value} {ns ms:List Int},IntsAre vs ns->IntsAre ws ms->vs.zip ws=[]->Rn ns ms=decide (ns.length<=ms.length)
 | _,_,_,_,.nil,_,_=>by simp[Rn]
 | _,_,_,_,.cons _ _ _,.nil,_=>by simp[Rn]
 | _,_,_,_,.cons _ _ _,.cons _ _ _,h=>by rw[List.zip_cons_cons]at h;cases h
theorem ai8(l b:Addr)(its its2:Array Value)(n n2:Nat)(dd dd2:Option Addr)(sl sl2:Array (Option Value))(ns ms:List Int)(hi:IntsAre its.toList ns)(hj:IntsAre its2.toList ms):
  Meets (Builtin.«tuple.__le__» ⟨[.ref l,.ref b],[]⟩)
   (λ_ R s=>s.heap.get? l=some {cls:= .type "tuple",dict:=dd,data:= .seq its n,slots:=sl}/\s.heap.get? b=some {cls:= .type "tuple",dict:=dd2,data:= .seq its2 n2,slots:=sl2}/\
    R (.ok (.ret (.bool (Rn ns ms)))) s):=
 .of_wp λprog w A R s h=>by
  obtain⟨hp,g,d,tk,os⟩:=s
  obtain⟨hl,hb,h⟩:=h
  have f2:=AutoSeq1.sub_tuple_tuple
  have z1:its.size=ns.length:=by rw[<-hi.length];simp
  have z2:its2.size=ms.length:=by rw[<-hj.length];simp
  wp_walk using wpAny_loadPart' hl,wpAny_loadPart' hb,wpAny_forIn_list _ (λrest b s'=>b.1=none/\s'=⟨hp,g,d,tk,os⟩/\∃(vs ws:List Value) (ns' ms':List Int),rest=vs.zip ws/\
   IntsAre vs ns'/\IntsAre ws ms'/\ns'.length+its2.size=ms'.length+its.size/\R (.ok (.ret (.bool (Rn ns' ms')))) ⟨hp,g,d,tk,os⟩) _
  case turn=>
   rintro⟨y,x⟩ rest b s' ⟨hb',rfl,vs,ws,ns',ms',hz,hvi,hwi,hlen,hR⟩
   cases hvi with
   | nil=>rw[List.zip_nil_left]at hz;cases hz
   | cons a t hv2=>
    cases hwi with
    | nil=>rw[List.zip_nil_right]at hz;cases hz
    | cons c u hw2=>
     rw[List.zip_cons_cons]at hz
     obtain⟨hyx,hrest⟩:=List.cons.inj hz
     cases hyx
     simp only[Rn]at hR
     simp only[List.length_cons]at hlen
     by_cases hac:a=c
     ·rw[if_pos hac]at hR
      refine zC ((SeqAt.EqAt.int_int a t c u:SeqAt.EqAt A.in1 ⟨hp,g,d,tk,os⟩ _ _ _) prog w _ _ ?_)
      rw[beq_iff_eq.mpr hac]
      wp_walk
      exact⟨rfl,rfl,_,_,_,_,hrest,hv2,hw2,by omega,hR⟩
     ·rw[if_neg hac]at hR
      refine zC ((SeqAt.EqAt.int_int a t c u:SeqAt.EqAt A.in1 ⟨hp,g,d,tk,os⟩ _ _ _) prog w _ _ ?_)
      rw[beq_eq_false_iff_ne.mpr hac]
      have hri:∀(E:Value->Shared->Prop) (Q:Value->Shared->Prop),Q (.bool (decide (a<=c))) ⟨hp,g,d,tk,os⟩->wpAny (model prog w) A.in1 (richCompare .LtE (.int a t) (.int c u)) Q E ⟨hp,g,d,tk,os⟩:=λE Q hq=>
       (PyProof.Rows.le_int hq:wpAny (model prog w) A.in1 (compareOp .LtE (.int a t) (.int c u)) Q E ⟨hp,g,d,tk,os⟩)
      wp_walk using hri
      exact⟨_,rfl,by simpa using hR⟩
  case fin=>
   rintro⟨b1,b2⟩ s' ⟨hb',rfl,vs,ws,ns',ms',hz,hvi,hwi,hlen,hR⟩
   simp only at hb'
   subst hb'
   have hv:Rn ns' ms'=decide (its.size<=its2.size):=by
    rw[aaR hvi hwi hz.symm]
    exact decide_eq_decide.mpr (by omega)
   rw[hv]at hR
   wp_walk
   exact⟨_,rfl,by simpa[Builtin.Tuple.tupleCompareSizes]using hR⟩
  case h=>
   exact⟨rfl,rfl,its.toList,its2.toList,ns,ms,rfl,hi,hj,by omega,h⟩
end TLe
namespace L2
open PySem PySem.Spec PyProof.Rows
section
variable{X:Cx}
theorem af2(hu:X.A.units<cLine):uv X (compareOp .LtE) (λx y H Q=>∃a b ns ms,x= .ref a/\y= .ref b/\o9 X.K H a (ns.map V.int)/\o9 X.K H b (ms.map V.int)/\Q (.bl (TLe.Rn ns ms)) H):=by
 intro pins s σ H x y v u Q I rx ry h
 obtain⟨a,b,ns,ms,rfl,rfl,ha,hb,q⟩:=h
 cases rx
 cases ry
 obtain⟨its,r1,p1,_⟩:=I.tuple ha
 obtain⟨its2,r2,p2,_⟩:=I.tuple hb
 obtain⟨⟨cls,dd,data,sl⟩,ho,hc,n,hd⟩:=id p1
 obtain⟨⟨cls2,dd2,data2,sl2⟩,ho2,hc2,n2,hd2⟩:=id p2
 simp only at hc hd hc2 hd2
 subst hc hd hc2 hd2
 exact richCompare_meets_room (op:= .LtE) ⟨_,ho,rfl⟩ ⟨_,ho2,rfl⟩ PySem.F.slot_tuple_le PySem.F.entry_tuple_le (PySem.F.args_tuple_le_2 _ _) (TLe.ai8 a b _ _ n n2 dd dd2 sl sl2 ns ms (intsAre_of r1) (intsAre_of r2))
  ⟨ho,ho2,show Value.bool (TLe.Rn ns ms)≠Value.notImplemented/\EP X pins σ Q (.bool (TLe.Rn ns ms)) s from⟨(λx=>nomatch x),⟨.bl _,H,I,rfl,q⟩⟩⟩ hu
end
def aha(K:Frag)(a:Addr)(T:List (Str×Int)):Prop:=(a==sysModules)=false/\∃o es ep,K.lookup a=some o/\o.ExactDict/\o.data= .dict es ep/\PyProof.Rows.KTD.Rows (λi v=>∃t,v=Value.int i t) es.toList T
def DW(k:Str):List (Str×Int)->V
 | []=> .non
 | (x,i)::T=>if decide (k=x)=true then .int i else DW k T
section
variable{X:Cx}{o e:Expr}{apos cpos:Pos}{td ty:TE}
theorem Qv{h:Heap}{k:Str}{P:Value->Prop}:∀{T:List (Str×Int)},(∀v,RelV (DW k T) v->P v)->PyProof.Rows.KTD.Each h k P (P .none) (T.map λp=>(p.1,PyProof.Rows.KTD.Dat.flat (PyData.int p.2)))
 | [],hp=>hp .none rfl
 | (x,i)::T,hp=>by
  show if decide (k=x)=true then _ else _
  unfold DW at hp
  by_cases hk:decide (k=x)=true
  ·rw[if_pos hk]at hp ⊢
   exact λt=>hp _ ⟨t,rfl⟩
  ·rw[if_neg hk]at hp ⊢
   exact Qv hp
def ah2(K:Frag)(td ty:TE):TE:=λσ H Q=>td σ H λx H1=>∃a T,x= .ref a/\aha K a T/\ty σ H1 λy H2=>∃k,y= .str k/\Q (DW k T) H2
theorem ac1(ho:PE X o td)(he:PE X e ty)(m:M1 X o "get" apos e cpos):PE X (.Call (.Attribute o "get" apos) [e] [] cpos) (ah2 X.K td ty):=by
 intro pins s σ H Q I h
 refine wpAny_Call_method m.base m.few m.line PySem.F.plainAttrs_dict PySem.F.slot_dict_get PySem.F.type_dict_get (f9 (ho pins s σ H _ I h) λu t ⟨x,H1,I1,rx,a,T,ex,tb,q1⟩=> ?_)
 subst ex
 obtain rfl:u=Value.ref a:=rx
 obtain⟨hs,ob,es,ep,ho',hx,hd,hr⟩:=tb
 have here:∀(h:Heap),X.K.In h->PyProof.Rows.KTD.Here h h a (T.map λp=>(p.1,PyProof.Rows.KTD.Dat.flat (PyData.int p.2))):=λh hk=>
  ⟨⟨hs,ob,es,ep,hk _ _ ho',hx,hd,hr.mono (R':=PyProof.Rows.KTD.Dat.At h) (f:=λi=>PyProof.Rows.KTD.Dat.flat (PyData.int i)) λi v ⟨t,e⟩=>by subst e;exact .int i t⟩,λ_ _ z=>z⟩
 refine⟨(here _ I1.uW).typeIs,(here _ I1.uW).noDict,?_⟩
 rw[m.trees]
 refine Calls.callWith_builtin rfl (Calls.evalArgs_plain (Calls.spliced_cons (f9 (he pins t σ H1 _ I1 q1) λiv t2 ⟨y,H2,I2,ry,k,ek,q2⟩=>Calls.spliced_nil ?_)))
 subst ek
 obtain⟨tk,rfl⟩:=ry
 exact PyProof.Rows.KTD.get1_text (here _ I2.uW) (Qv λv rv=>⟨_,H2,I2.tok _,rv,q2⟩)
end
end L2
namespace S
open PySem PySem.Spec PyProof.Rows L2
section
variable{X:Cx}{ct:Nat->Addr}{W:a_}{pos pos':Pos}
noncomputable def strsOf:List D->Option (List Str)
 | []=>some []
 | .str w::r=>(strsOf r).map (w:: ·)
 | _=>none
theorem Li{K:Frag}{ι:Nat->Addr}{n:Nat}{H:Hp}:∀{ds:List D} {ws:List Str} {vs:List V},strsOf ds=some ws->iG K ct ι n H ds vs->vs=ws.map V.str
 | [],_,_,h,.nil=>by cases h;rfl
 | d::r,ws,_,h,.cons q qs=>by
  cases q with
  | str w=>
   simp only[strsOf]at h
   obtain⟨us,h1,rfl⟩:=Option.map_eq_some_iff.mp h
   rw[Li h1 qs]
   rfl
  | _=>simp only[strsOf]at h;cases h
theorem Vr{K:Frag}{ι:Nat->Addr}{n:Nat}{H:Hp}:∀(ws:List Str),iG K ct ι n H (ws.map D.str) (ws.map V.str)
 | []=> .nil
 | w::ws=> .cons (.str w) (Vr ws)
noncomputable def Lk:D->List D->Mem->Out D:=λd ds M=>match d,ds with
 | .str y,[.ref n]=>match M[n]? with
  | some (.lst es)=>match strsOf es with
   | some ws=>if JoinOk y ws=true then .ok (.str (Txt.join y ws)) M else .bad
   | none=> .bad
  | _=> .bad
 | _,_=> .bad
theorem adk:MtS X ct "str" "str.join" Lk:=by
 refine⟨_,adh,λι M H d ds v vs Q R q qs p=> ?_⟩
 unfold Lk at p
 split at p
 ·rename_i y n
  cases mL q
  obtain⟨u,rfl,qu⟩:=z_ qs
  obtain⟨hn,rfl⟩:=lg qu
  split at p
  ·rename_i es e1
   split at p
   ·rename_i ws e2
    split at p
    ·rename_i hk
     obtain⟨xs,hH,hd⟩:=R.obj n _ e1
     have ex:=Li e2 hd
     subst ex
     exact⟨y,_,ws,rfl,rfl,hH,hk,p ι _ H .refl R (.str _)⟩
    ·exact p.elim
   ·exact p.elim
  ·exact p.elim
 ·exact p.elim
noncomputable def Ei:D->List D->Mem->Out D:=λd ds M=>match d,ds with
 | .str y,[.str z]=>if y.length+2<=sizeLine/\(z.length==0)=false then .ok (.ref M.length) (M++[.lst ((Txt.split y z).map D.str)])else .bad
 | _,_=> .bad
theorem aaC:MtS X ct "str" "str.split" Ei:=by
 refine⟨_,aaA,λι M H d ds v vs Q R q qs p=> ?_⟩
 unfold Ei at p
 split at p
 ·rename_i y z
  cases mL q
  obtain⟨u,rfl,qu⟩:=z_ qs
  cases mL qu
  split at p
  ·rename_i hz
   exact⟨y,z,rfl,rfl,hz.1,hz.2,λpp hp=>oW R (Vr _) hp p⟩
  ·exact p.elim
 ·exact p.elim
noncomputable def ZK:Mr:=λds M=>match ds with
 | [.int i]=> .ok (.int i) M
 | [.bl k]=> .ok (.int (if k then 1 else 0)) M
 | [.str z]=>match PySem.intText? z with
  | some n=>if z.length<=640 then .ok (.int n) M else .bad
  | none=> .bad
 | _=> .bad
theorem agP:nu X ct (.type "int") ZK:=by
 refine⟨_,Yg,λι M H ds vs Q R h p=> ?_⟩
 unfold ZK at p
 split at p
 ·rename_i i
  obtain⟨v,rfl,q⟩:=z_ h
  cases nW q
  exact .inl ⟨i,rfl,p ι _ H .refl R (.int _)⟩
 ·rename_i k
  obtain⟨v,rfl,q⟩:=z_ h
  cases q
  exact .inr (.inl ⟨k,rfl,p ι _ H .refl R (.int _)⟩)
 ·rename_i z
  obtain⟨v,rfl,q⟩:=z_ h
  cases mL q
  split at p
  ·rename_i n e
   split at p
   ·rename_i hl;exact .inr (.inr ⟨z,n,rfl,e,hl,p ι _ H .refl R (.int _)⟩)
   ·exact p.elim
  ·exact p.elim
 ·exact p.elim
def afe:oN:=λd e M=>match d,e with
 | .str a,.str b=> .ok (.bl (!decide (b.cps.toList<a.cps.toList))) M
 | _,_=> .bad
theorem agZ:fZ X ct (compareOp .LtE) afe:=by
 refine⟨_,Xp,λι M H d d' v v' Q R h h' p=> ?_⟩
 unfold afe at p
 split at p
 ·cases mL h
  cases mL h'
  exact⟨_,_,rfl,rfl,p ι _ H .refl R (.bl _)⟩
 ·exact p.elim
def acA:oN:=λd e M=>match d,e with
 | .tup xs,.tup ys=>match iI xs,iI ys with
  | some is,some js=> .ok (.bl (TLe.Rn is js)) M
  | _,_=> .bad
 | _,_=> .bad
theorem agY(hu:X.A.units+64<cLine):fZ X ct (compareOp .LtE) acA:=by
 refine⟨_,af2 (by omega),λι M H d d' v v' Q R h h' p=> ?_⟩
 unfold acA at p
 split at p
 ·obtain⟨a,vs,rfl,ha,hd⟩:=oJ h
  obtain⟨b,us,rfl,hb,hd'⟩:=oJ h'
  split at p
  ·rename_i is js e1 e2
   have x1:=nA e1 hd
   have x2:=nA e2 hd'
   subst x1 x2
   exact⟨a,b,is,js,rfl,rfl,o9.of ha,o9.of hb,p ι _ H .refl R (.bl _)⟩
  ·exact p.elim
 ·exact p.elim
def sLe:oN:=uH (uH aik afe) acA
theorem ag0(hu:X.A.units+64<cLine):fZ X ct (compareOp .LtE) sLe:=(ajx.or agZ).or (agY hu)
def itS(d:D)(M1:Mem):Out Itm:=match d with
 | .str u=>if u.length<=sizeLine then .ok ⟨none,u.cps.toList.map λc=>D.str ⟨#[c]⟩⟩ M1 else .bad
 | _=> .bad
def W5(k:Str):List (Str×Int)->D
 | []=> .non
 | (x,i)::T=>if decide (k=x)=true then .int i else W5 k T
theorem Vp{K:Frag}{ι:Nat->Addr}{n:Nat}{H:Hp}{k:Str}:∀(T:List (Str×Int)),DV K ct ι n H (W5 k T) (DW k T)
 | []=> .non
 | (x,i)::T=>by
  unfold W5 DW
  split
  ·exact .int i
  ·exact Vp T
def adv(T:List (Str×Int))(k:D)(M:Mem):Out D:=match k with
 | .str z=> .ok (W5 z T) M
 | _=> .bad
def aaK(T:List (Str×Int))(mk:ME):ME:=λe M=>(mk e M).bind (adv T)
theorem acu{x:Str}{e:Expr}{mk:ME}{p apos cpos:Pos}{a:Addr}(T:List (Str×Int))(hg:Gl X x)(hm:X.mg x=some (.ref a))(hT:aha X.K a T)(he:SE X ct W e mk)(hd:(x==("__debug__" : Str))=false:=by decide)
  (base:attributeBase (.Name x p) "get" X.env (eval (.Name x p) X.env)=eval (.Name x p) X.env:=by rfl)
  (few:((backTo cpos (starEach [e] X.env)).all (λx=> !x.1)&&(backToKw cpos (keywordEach [] X.env)).all (λx=>x.1.isSome)
   && decide (([e]:List Expr).length+([]:List Keyword).length+(if([]:List Keyword).isEmpty then 0 else 1)<30))=true:=by rfl)
  (line:(apos.endLine==cpos.line)=true:=by rfl) (trees:backTo cpos (starEach [e] X.env)=[(false,eval e X.env)]:=by rfl):
  SE X ct W (.Call (.Attribute (.Name x p) "get" apos) [e] [] cpos) (aaK T mk):=dj (ac1 (Nu (v:= .ref a) hg hm rfl hd) he ⟨base,few,line,trees⟩) λσ H Q q=>by
 obtain⟨ι,e,M,w,p⟩:=bG (dm:=dw X.K ct) (f:=λk _ M1=>adv T k M1) q
 refine⟨a,T,rfl,hT,ι,e,M,w,p.mono λv H1 ⟨bO,e1,M1,d,w1,q1,p1⟩=> ?_⟩
 cases q1 with
 | str z=>exact⟨_,rfl,p1 bO _ H1 .refl w1.rl (Vp T)⟩
 | _=>exact p1.elim
end
theorem lO{N ps:List Str}{sc:Scope}(h1:sc.kind= .function:=by rfl)(h2:sc.isCoroutine=false:=by rfl)(h3:sc.isGenerator=false:=by rfl)(h4:N.Nodup:=by decide +kernel)(h5:N.take ps.length=ps:=by rfl)
  (h6:∀x∈ps,sc.names.lookup x=some .local\/sc.names.lookup x=some .cell:=by decide +kernel) (h7:∀y∈sc.names,y.2≠ .free:=by decide +kernel):aJ N ps sc:=⟨h1,h2,h3,h4,h5,h6,h7⟩
section
variable{e:Sl}{M:Mem}
@[simp] theorem aiY{T:List (Str×Int)}{mk:ME}:aaK T mk e M=(mk e M).bind (adv T):=id rfl
@[simp] theorem ajb{T:List (Str×Int)}{z:Str}:adv T (.str z) M= .ok (W5 z T) M:=id rfl
theorem Xb{y z:Str}(h:y.length+2<=16777216)(hz:(z.length==0)=false):Ei (.str y) [.str z] M= .ok (.ref M.length) (M++[.lst ((Txt.split y z).map D.str)]):=by
 simp only[Ei]
 rw[if_pos ⟨by rw[HQ];exact h,hz⟩]
theorem IK:∀(ws:List Str),strsOf (ws.map D.str)=some ws
 | []=>rfl
 | w::ws=>by simp only[List.map_cons,strsOf,IK ws,Option.map_some]
theorem ZF{y:Str}{n:Nat}{ws:List Str}(h:M[n]? = some (.lst (ws.map D.str)))(hk:JoinOk y ws=true):Lk (.str y) [.ref n] M= .ok (.str (Txt.join y ws)) M:=by
 simp only[Lk,h,IK,hk,if_true]
theorem aij{xs ys:List D}{is js:List Int}(h1:iI xs=some is)(h2:iI ys=some js):sLe (.tup xs) (.tup ys) M= .ok (.bl (TLe.Rn is js)) M:=by
 refine(Js rfl).trans ?_
 simp only[acA,h1,h2]
end
section
variable{X:Cx}{ct:Nat->Addr}
def notStar:Expr->Bool
 | .Starred _ _=>false
 | _=>true
theorem ah7{a:Expr}{es:List Expr}{env:PySem.Env}(h:notStar a=true):starEach (a::es) env=(false,eval a env)::starEach es env:=by
 cases a<;>first | rfl | cases h
theorem dU{W:a_}{a:Expr}{es:List Expr}{ma:ME}{ms:MA}(ha:SE X ct W a ma)(hr:SA X ct W es ms)(h:notStar a=true:=by rfl):SA X ct W (a::es) (au ma ms):=ao ha hr (ah7 h)
end
theorem V_{α:Type}{us:List α}(h:us.length=5):∃a b c d e,us=[a,b,c,d,e]:=match us,h with | [a,b,c,d,e],_=>⟨a,b,c,d,e,rfl⟩
section
variable{X:Cx}{ct:Nat->Addr}{W:a_}
theorem zE{x:Str}{a:Addr}{ds:List D}{pos:Pos}(hg:Gl X x)(hm:X.mg x=some (.ref a))(hk:∀ι n H,DV X.K ct ι n H (.m8 ds) (.ref a))(hd:(x==("__debug__" : Str))=false:=by decide):SE X ct W (.Name x pos) (mC (.m8 ds)):=
 dj (Nu (v:= .ref a) hg hm rfl hd) λ_ _ _ h=>Lg (λ_ _=>hk _ _ _) h
theorem Fd{K:Frag}{ι:Nat->Addr}{n:Nat}{H:Hp}{a:Addr}{o:Obj}{its:Array Value}{k:Nat}{xs:List V}{ds:List D}(h1:K.lookup a=some o)(h2:o.cls= .type "tuple")(h3:o.data= .seq its k)
  (h4:its.size<=1000) (h5:Vals xs its.toList) (h6:iG K ct ι n H ds xs):DV K ct ι n H (.m8 ds) (.ref a):=
 .m8 ⟨o,its,k,h1,h2,h3,yY h4 (by simp[sizeLine]),h5⟩ h6
end
section
variable{X:Cx}{ct:Nat->Addr}{W:a_}
theorem preSum_getD(ns:List Int):∀k,preSum (λj=>ns.getD j 0) k=(ns.take k).sum
 | 0=>by simp[preSum]
 | k+1=>by
  have ih:=preSum_getD ns k
  unfold preSum
  rw[ih]
  by_cases h:k<ns.length
  ·rw[List.take_succ_eq_append_getElem h,List.sum_append,List.getD_eq_getElem?_getD,zae h]
   simp
  ·rw[List.take_of_length_le (by omega),List.take_of_length_le (by omega),List.getD_eq_getElem?_getD,List.getElem?_eq_none (by omega)]
   simp
theorem X8(hc:X.calm=true):j4 X (.builtin "sum") (λxs H Q=>∃(a:Addr) (ns:List Int),xs=[.ref a]/\pO X.K H a (ns.map V.int)/\Q (.int ns.sum) H):=by
 intro pins s σ H xs us Q I r h
 obtain⟨a,ns,rfl,hq,q⟩:=h
 obtain⟨u,rfl,ru⟩:=vals1 r
 cases(show u=Value.ref a from ru)
 obtain⟨its,rv,p,hz⟩:=I.list hq
 have hlt:a<s.heap.objs.size:=by obtain⟨o,n,e,_⟩:=p;exact zS e
 have hl:its.length=ns.length:=by rw[<-rv.length,zar]
 refine call_sum_walkG (wpAny_pyIter_list p.isList ⟨s.heap.objs.size,[s.heap.objs.size,a],[s.heap.objs.size],its.toArray.size,λi v=>its.toArray[i]? = some v,_,λj=>ns.getD j 0,rfl,
  Walks.list (A:=X.A.in1) (I.ok.hd hc) s.heap.objs.size a (xD hlt) its.toArray,⟨⟨_,yB _ rfl,rfl,rfl⟩,p.isList.push _⟩,?_,?_,λh' tk t' hk=> ?_⟩)
 ·intro b hb
  simp only[List.mem_cons,List.not_mem_nil,or_false]at hb
  have:(s.heap.push {cls:= .type "list_iterator",data:= .fields #[.ref a,.int 0 0]}).objs.size=s.heap.objs.size+1:=Heap.size_push ..
  rcases hb with rfl | rfl
  ·rw[this];exact Nat.lt_succ_self _
  ·rw[this];exact Nat.lt_succ_of_lt hlt
 ·intro i v hP
  have hP':its[i]? = some v:=by simpa using hP
  have hi:i<its.length:=(List.getElem?_eq_some_iff.mp hP').1
  have hb:ns[i]? = some ns[i]:=zae (by omega)
  obtain⟨u,hu,ru⟩:=rv.get (i:=i) (x:=V.int ns[i]) (by rw[zaq,hb];rfl)
  rw[hP']at hu
  cases hu
  obtain⟨t,rfl⟩:=ru
  refine⟨t,?_⟩
  have e:ns.getD i 0=ns[i]:=by rw[List.getD_eq_getElem?_getD,hb];rfl
  show Value.int ns[i] t=Value.int (ns.getD i 0) t
  rw[e]
 ·have e:preSum (λj=>ns.getD j 0) its.toArray.size=ns.sum:=by
   rw[preSum_getD,List.take_of_length_le (by simp;omega)]
  rw[e]
  exact⟨.int _,H,I.kept λb o eb=>hk b o (by simp;exact xD (zS eb)) (zD _ eb),⟨_,rfl⟩,q⟩
noncomputable def Xa:Mr:=λds M=>match ds with
 | [d]=>match Eb M d with
  | some es=>match iI es with
   | some is=> .ok (.int is.sum) M
   | none=> .bad
  | none=> .bad
 | _=> .bad
theorem agO(hc:X.calm=true):nu X ct (.builtin "sum") Xa:=by
 refine⟨_,X8 hc,λι M H ds vs Q R h p=> ?_⟩
 unfold Xa at p
 split at p
 ·rename_i d
  obtain⟨v,rfl,q⟩:=z_ h
  cases z:Eb M d with
  | none=>rw[z]at p;exact p.elim
  | some es=>
   rw[z]at p
   cases z2:iI es with
   | none=>simp only[z2]at p;exact p.elim
   | some is=>
    simp only[z2]at p
    obtain⟨a,xs,rfl,hs,hd⟩:=R.seq z q
    have x1:=nA z2 hd
    subst x1
    exact⟨a,is,rfl,hs,p ι _ H .refl R (.int _)⟩
 ·exact p.elim
theorem Iw:∀(is:List Int),iI (is.map D.int)=some is
 | []=>rfl
 | i::is=>by simp only[List.map_cons,iI,Iw is];rfl
theorem Zt{M:Mem}{n:Nat}{is:List Int}(h:M[n]? = some (.lst (is.map D.int))):Xa [.ref n] M= .ok (.int is.sum) M:=by
 simp only[Xa,Eb,dM h,Iw]
theorem agR:bootBuiltins "sum" = some (.builtin "sum"):=by decide +kernel
end
end S
namespace L2
open PySem PySem.Spec PyProof.Rows
section
variable{X:Cx}{pins:List (Addr×Obj)}{σ:St}{H:Hp}{s:Shared}{d:Addr}{o:Obj}{kvs:List (Key×V)}
def abO(X:Cx)(d:Addr):Prop:=∀o u,X.H₀ d≠some (.jY o u)
theorem Inv.alq(I:Inv X pins σ H s)(e:H d=some (.dK kvs)):abO X d:=λo u q=>by
 have:=I.base.qX d o u q
 rw[e]at this;cases this
theorem Inv.adJ(I:Inv X pins σ H s)(e:H d=some (.dK kvs))(ho:s.heap.get? d=some o):Inv X pins σ (upd H d (.jY o (.dK kvs))) s:=by
 have hk:∀b u,(∀ks,u≠ .dK ks)->H b=some u->upd H d (.jY o (.dK kvs)) b=some u:=λb u n q=>by
  rw[aG (λz=>by subst z;rw[e]at q;exact n _ (xI q).symm)];exact q
 have hz:∀b,H b=none->upd H d (.jY o (.dK kvs)) b=none:=λb q=>by
  rw[aG (λz=>by subst z;rw[e]at q;cases q)];exact q
 refine⟨I.ok,I.os,I.bare,⟨I.base.keep,I.base.slot,λb o q n z=>hz b (I.base.free b o q n z),I.base.there,λb xs q=>hk _ _ (λ_ z=>nomatch z) (I.base.tups b xs q),λb o u q=>hk _ _ (λ_ z=>nomatch z) (I.base.qX b o u q),λb ps q=> ?_⟩,
  I.loc,I.cell,hz _ I.free,λx c q=>hz _ (I.jl x c q),λp hp=> ?_,λb u q=> ?_,I.len⟩
 ·obtain⟨m,z⟩:=I.base.sY b ps q;exact⟨m,hk _ _ (λ_ z=>nomatch z) z⟩
 ·obtain⟨z1,z2,z3⟩:=I.pin p hp;exact⟨z1,hz _ z2,z3⟩
 ·by_cases z:b=d
  ·subst z
   rw[bh]at q;cases q
   exact⟨ho,(I.hok b _ e).stay (λ_ _ _ y=>y) (λb' y=>hk _ _ (λ_ z=>nomatch z) y) λb' xs y=>hk _ _ (λ_ z=>nomatch z) y⟩
  ·rw[aG z]at q
   exact(I.hok b u q).stay (λ_ _ _ y=>y) (λb' y=>hk _ _ (λ_ z=>nomatch z) y) λb' xs y=>hk _ _ (λ_ z=>nomatch z) y
theorem Inv.aej(I:Inv X pins σ H s)(nf:abO X d)(e:H d=some (.jY o (.dK kvs))):Inv X pins σ (upd H d (.dK kvs)) s:=by
 have hk:∀b u,(∀a z,u≠ .jY a z)->H b=some u->upd H d (.dK kvs) b=some u:=λb u n q=>by
  rw[aG (λz=>by subst z;rw[e]at q;exact n _ _ (xI q).symm)];exact q
 have hz:∀b,H b=none->upd H d (.dK kvs) b=none:=λb q=>by
  rw[aG (λz=>by subst z;rw[e]at q;cases q)];exact q
 refine⟨I.ok,I.os,I.bare,⟨I.base.keep,I.base.slot,λb o q n z=>hz b (I.base.free b o q n z),I.base.there,λb xs q=>hk _ _ (λ_ _ z=>nomatch z) (I.base.tups b xs q),λb o' u q=> ?_,λb ps q=> ?_⟩,
  I.loc,I.cell,hz _ I.free,λx c q=>hz _ (I.jl x c q),λp hp=> ?_,λb u q=> ?_,I.len⟩
 ·rw[aG (λz=>by subst z;exact nf _ _ q)]
  exact I.base.qX b o' u q
 ·obtain⟨m,z⟩:=I.base.sY b ps q;exact⟨m,hk _ _ (λ_ _ z=>nomatch z) z⟩
 ·obtain⟨z1,z2,z3⟩:=I.pin p hp;exact⟨z1,hz _ z2,z3⟩
 ·by_cases z:b=d
  ·subst z
   rw[bh]at q;cases q
   exact(show bQ X.prog X.w H s.heap b (.jY o (.dK kvs))from I.hok b _ e).2.stay (λ_ _ _ y=>y) (λb' y=>hk _ _ (λ_ _ z=>nomatch z) y) λb' xs y=>hk _ _ (λ_ _ z=>nomatch z) y
  ·rw[aG z]at q
   exact(I.hok b u q).stay (λ_ _ _ y=>y) (λb' y=>hk _ _ (λ_ _ z=>nomatch z) y) λb' xs y=>hk _ _ (λ_ _ z=>nomatch z) y
theorem Lr{α β:Type}{F:α->β->Prop}:∀{l₁:List α} {l₂:List β},Paired F l₁ l₂->∀{i:Nat} {a:α} {b:β},l₁[i]? = some a->l₂[i]? = some b->F a b
 | _,_,.nil,_,_,_,h,_=>by simp at h
 | _,_,.cons r t,0,_,_,h,h'=>by simp at h h';subst h h';exact r
 | _,_,.cons r t,i+1,_,_,h,h'=>Lr t (by simpa using h) (by simpa using h')
def Itk(d:Addr)(o:Obj)(kvs:List (Key×V)):It:=
 ⟨λi H=>H d=some (.jY o (.dK kvs))/\i<kvs.length,λi H x H'=>H'=H/\∃p,kvs[i]? = some p/\x=kV p.1,λi H=>H d=some (.jY o (.dK kvs))/\kvs.length<=i⟩
theorem abg(I:Inv X pins σ H s)(e:H d=some (.jY o (.dK kvs))){es:Array DictEntry}{ep:Nat}(hep:o.data= .dict es ep):∃vs,KV kvs vs/\s.heap.DictAt (cL X.prog X.w) d vs ep:=by
 obtain⟨ho,z,hd,vs,rel,o',es',ep',g,r1,r2,r3⟩:=(show bQ X.prog X.w H s.heap d (.jY o (.dK kvs))from I.hok d _ e)
 rw[ho]at g;cases g
 rw[hep]at r2;cases r2
 exact⟨vs,rel,o,es,ho,r1,hep,r3⟩
theorem W3{P:Program}{w:World}{K:Frag}{tg:Expr}{es:Array DictEntry}{ep:Nat}(hep:o.data= .dict es ep)(it:Addr):Turn P w K tg (Itk d o kvs) [it] it (λi h=>h.IsKeyIter it d i kvs.length ep) where
 mem:=by simp
 obj:=λi h st b hb=>by
  have e:b=it:=by simpa using hb
  subst e
  obtain⟨o,e,c,dd⟩:=st
  exact⟨o,e,λv z=>by rw[dd]at z;cases z⟩
 keep:=λi h h' st k=>st.at λo e=>k it (by simp) o e
 item:=by
  intro X hP hw hK hc i pins s σ H E I hf st hg
  subst hP hw hK
  obtain⟨hq,hi⟩:=hg
  obtain⟨vs,rel,dd⟩:=abg I hq hep
  have hl:vs.length=kvs.length:=rel.length.symm
  obtain⟨f0,f1,f2,f3,f4,f5⟩:=hf it (by simp)
  obtain⟨p,hp⟩:∃p,kvs[i]? = some p:=⟨_,zae hi⟩
  obtain⟨q,hq2⟩:∃q,vs[i]? = some q:=⟨_,zae (by omega)⟩
  have pq:p.1=q.1:=(Lr rel hp hq2).1
  rw[<-hl]at st
  refine wpAny_pyNext_dict_item st dd (k:=q.1) (v:=q.2) hq2 λkey h' hkey st' sb=> ?_
  have I1:Inv X pins σ H {s with heap:=h'}:=I.turned (t':=s.toks) (λb o hb e=>(sb.2 b hb).trans e) f0 f1 f3 f4 f5
  obtain⟨o2,e2,c2,d2⟩:=id st'
  refine⟨key,rfl,Wj (s:={s with heap:=h'}) e2 c2 d2 (by decide) ⟨kV p.1,H,I1,?_,⟨rfl,p,hp,rfl⟩,by rw[hl]at st';exact st',λb hb=>(hf b hb).1⟩⟩
  rw[pq]
  exact aaU hkey
 done:=by
  intro X hP hw hK hc i pins s σ H E I hf st hg
  subst hP hw hK
  obtain⟨hq,hi⟩:=hg
  obtain⟨vs,rel,dd⟩:=abg I hq hep
  have hl:vs.length=kvs.length:=rel.length.symm
  obtain⟨f0,f1,f2,f3,f4,f5⟩:=hf it (by simp)
  rw[<-hl]at st
  exact wpAny_pyNext_dict_end (I.ok.hd hc) st dd (List.getElem?_eq_none (by omega)) λh' eb=>⟨rfl,I.turned (t':=s.toks) (λb o hb e=>eb b o hb e) f0 f1 f3 f4 f5⟩
 self:=λ_ _ _ _ _ st h=>wpAny_pyIter_keyiter st h
def aeJ(tl:TE):TI:=λσ H R=>tl σ H λx H1=>∃d kvs,x= .ref d/\H1 d=some (.dK kvs)/\∀o,abO X d->kvs.length<=sizeLine->R (Itk d o kvs) (upd H1 d (.jY o (.dK kvs)))
theorem acY{tg l:Expr}{tl:TE}(hl:PE X l tl):PI X tg l (aeJ (X:=X) tl):=by
 intro pins s σ H R I h
 refine f9 (hl pins s σ H _ I h) λv s1 ⟨x,H1,I1,r1,q1⟩=> ?_
 obtain⟨d,kvs,e,hd,q⟩:=q1
 subst e
 cases r1
 obtain⟨z,hs,vs,rel,o,es,ep,g,r1,r2,r3⟩:=abw I1.hok hd
 refine wpAny_pyIter_dict hs (show s1.heap.DictAt (cL X.prog X.w) d vs ep from⟨o,es,g,r1,r2,r3⟩) ?_
 have I2:Inv X pins σ H1 {s1 with heap:=s1.heap.push {cls:= .type "dict_keyiterator",data:= .fields #[.ref d,.int 0 0,.int vs.length 0,.int ep 0]}}:=I1.kept (t':=s1.toks) λb o e=>zD _ e
 have g2:(s1.heap.push {cls:= .type "dict_keyiterator",data:= .fields #[.ref d,.int 0 0,.int vs.length 0,.int ep 0]}).get? d=some o:=zD _ g
 have I3:=I2.adJ hd g2
 have hlt:d<s1.heap.objs.size:=zS g
 have hn:upd H1 d (.jY o (.dK kvs)) s1.heap.objs.size=none:=by
  rw[aG (xS hlt)];exact I1.hok.fresh (zad _)
 refine⟨s1.heap.objs.size,[s1.heap.objs.size],_,_,_,rfl,I3,W3 (o:=o) (kvs:=kvs) r2 _,⟨_,yB _ rfl,rfl,by rw[rel.length];rfl⟩,λb hb=> ?_,q o (I1.alq hd) z⟩
 have e:b=s1.heap.objs.size:=by simpa using hb
 subst e
 exact I1.UG (zad _) hn
end
section
variable{X:Cx}
def Iz(X:Cx)(T:Ends):Ends where
 nx:=λσ H=>∃d o kvs,abO X d/\H d=some (.jY o (.dK kvs))/\T.nx σ (upd H d (.dK kvs))
 rt:=λv H=>∃d o kvs,abO X d/\H d=some (.jY o (.dK kvs))/\T.rt v (upd H d (.dK kvs))
theorem acS{tg l:Expr}{body:List Stmt}{tl:TE}{g:TG}{tb:TS}{pos:Pos}(hp:PassesOwn (model X.prog X.w) X.A X.env X.xe)(hc:X.calm=true)(hl:PE X l tl)(hg:PG X tg g)(hb:Gm X body tb)
  (hs:∀x,foldedSetIterable l X.env x=pure x:=by intro _;rfl):PS X (.For tg l body [] pos) (λT σ H=>aem (aeJ (X:=X) tl) g tb (Iz X T) σ H):=by
 intro pins s σ H D I h
 refine vE (VL hp hc (acY hl) hg hb hs pins s σ H _ I h) (λf s' q=> ?_) λ_ _ z=>z
 cases f with
 | next=>
  obtain⟨σ',H',I',d,o,kvs,nf,e,q⟩:=(show ∃σ' H',Inv X pins σ' H' s'/\(Iz X D).nx σ' H' from q)
  exact⟨σ',_,I'.aej nf e,q⟩
 | ret u=>
  obtain⟨v,σ',H',I',r,d,o,kvs,nf,e,q⟩:=(show ∃v σ' H',Inv X pins σ' H' s'/\RelV v u/\(Iz X D).rt v H' from q)
  exact⟨v,σ',_,I'.aej nf e,r,q⟩
 | brk=>
  obtain⟨σ',H',I',q⟩:=(show ∃σ' H',Inv X pins σ' H' s'/\(Iz X D).bk σ' H' from q)
  exact q.elim
 | cont=>
  obtain⟨σ',H',I',q⟩:=(show ∃σ' H',Inv X pins σ' H' s'/\(Iz X D).ct σ' H' from q)
  exact q.elim
end
end L2
namespace S
open PySem PySem.Spec PyProof.Rows L2
structure Wk(K:Frag)(H H':Hp):Prop where
 tup:∀a xs,H a=some (.tup xs)->H' a=some (.tup xs)
 jY:∀a xs,FrL K H a xs->FrL K H' a xs
 ex:∀a φ,H a=some (.ext φ)->H' a=some (.ext φ)
 xd:∀a fs,H a=some (.xd fs)->H' a=some (.xd fs)
mutual
theorem DV.wk{K:Frag}{ct ι:Nat->Addr}{n:Nat}{H H':Hp}(e:Wk K H H'):∀{d:D} {v:V},DV K ct ι n H d v->DV K ct ι n H' d v
 | _,_,.non=> .non
 | _,_,.bl b=> .bl b
 | _,_,.int i=> .int i
 | _,_,.str x=> .str x
 | _,_,.tup h hs=> .tup (e.tup _ _ h) (iG.wk e hs)
 | _,_,.ref h=> .ref h
 | _,_,.cl h hs=> .cl (e.jY _ _ h) (iG.wk e hs)
 | _,_,.ty s=> .ty s
 | _,_,.cls c=> .cls c
 | _,_,.exc h1 h2 h3=> .exc (e.ex _ _ h1) (e.xd _ _ h2) (DV.wk e h3)
 | _,_,.m8 h hs=> .m8 h (iG.wk e hs)
theorem iG.wk{K:Frag}{ct ι:Nat->Addr}{n:Nat}{H H':Hp}(e:Wk K H H'):∀{ds:List D} {vs:List V},iG K ct ι n H ds vs->iG K ct ι n H' ds vs
 | _,_,.nil=> .nil
 | _,_,.cons h hs=> .cons (DV.wk e h) (iG.wk e hs)
end
section
variable{K:Frag}{ct ι:Nat->Addr}{n:Nat}{H H':Hp}{M:Mem}{d:Addr}{o:Obj}{ys:List (Key×V)}
theorem Mu.wk(e:Wk K H H'):∀{fs:List (Str×D)} {vs:List (Str×V)},Mu K ct ι n H fs vs->Mu K ct ι n H' fs vs
 | _,_,.nil=> .nil
 | _,_,.cons h hs=> .cons (h.wk e) (Mu.wk e hs)
theorem Ab.wk{κ:Type}(e:Wk K H H'):∀{fs:List (κ×D)} {vs:List (κ×V)},Ab K ct ι n H fs vs->Ab K ct ι n H' fs vs
 | _,_,.nil=> .nil
 | _,_,.cons h hs=> .cons (h.wk e) (Ab.wk e hs)
theorem OR.wk{a:Addr}{x:MO}(e:Wk K H H')(hh:H' a=H a)(h:OR K ct ι n H a x):OR K ct ι n H' a x:=by
 cases x with
 | lst ds=>obtain⟨vs,q,r⟩:=h;exact⟨vs,by rw[hh];exact q,r.wk e⟩
 | ins c fs=>obtain⟨dx,vs,q,r⟩:=h;exact⟨dx,vs,by rw[hh];exact q,r.wk e⟩
 | dk kvs=>obtain⟨vs,q,r⟩:=h;exact⟨vs,by rw[hh];exact q,r.wk e⟩
 | dt kvs=>obtain⟨vs,q,r⟩:=h;exact⟨vs,by rw[hh];exact q,r.wk e⟩
 | fd kvs=>obtain⟨o,vs,q,r⟩:=h;exact⟨o,vs,by rw[hh];exact q,r.wk e⟩
theorem Wk.Tu(h:H d=some (.jY o (.dK ys))):Wk K H (upd H d (.dK ys)) where
 tup:=λa xs q=>by rw[aG (λz=>by subst z;rw[h]at q;cases q)];exact q
 jY:=λa xs q=>by
  rcases q with⟨b,q⟩ | q
  ·exact .inl ⟨b,by rw[aG (λz=>by subst z;rw[h]at q;cases q)];exact q⟩
  ·exact .inr q
 ex:=λa φ q=>by rw[aG (λz=>by subst z;rw[h]at q;cases q)];exact q
 xd:=λa fs q=>by rw[aG (λz=>by subst z;rw[h]at q;cases q)];exact q
theorem Rl.Tu(R:Rl K ct ι M H){i:Nat}{kvs:List (Key×D)}(hi:i<M.length)(h:H (ι i)=some (.jY o (.dK ys)))(pv:Ab K ct ι M.length H kvs ys):Rl K ct ι (M.set i (.dk kvs)) (upd H (ι i) (.dK ys)):=by
 refine⟨λj k hj hk e=>R.inj j k (by simpa using hj) (by simpa using hk) e,λj y hy=> ?_⟩
 rw[List.length_set]
 by_cases e:i=j
 ·subst e
  rw[zan hi]at hy
  cases hy
  exact⟨ys,bh,pv.wk (Wk.Tu h)⟩
 ·rw[zam e]at hy
  have hj:j<M.length:=(List.getElem?_eq_some_iff.mp hy).1
  exact(R.obj j y hy).wk (Wk.Tu h) (aG λz=>e (R.inj i j hi hj z.symm))
theorem RD{bO ι':Nat->Addr}{n1 n':Nat}{H1:Hp}{o1:Obj}{ys1:List (Key×V)}(h1:H1 d=some (.dK ys1))(x:Ext K bO n1 (upd H1 d (.jY o1 (.dK ys1))) ι' n' H')(h':H' d=some (.jY o (.dK ys))):Ext K bO n1 H1 ι' n' (upd H' d (.dK ys)) where
 tup:=λa xs q=>by
  have ne:a≠d:=λz=>by subst z;rw[h1]at q;cases q
  rw[aG ne];exact x.tup a xs (by rw[aG ne];exact q)
 jY:=λa xs q=>by
  rcases q with⟨b,q⟩ | q
  ·have ne:a≠d:=λz=>by subst z;rw[h1]at q;cases q
   exact .inl ⟨b,by rw[aG ne];exact x.fz a b _ (by rw[aG ne];exact q)⟩
  ·exact .inr q
 ex:=λa φ q=>by
  have ne:a≠d:=λz=>by subst z;rw[h1]at q;cases q
  rw[aG ne];exact x.ex a φ (by rw[aG ne];exact q)
 xd:=λa fs q=>by
  have ne:a≠d:=λz=>by subst z;rw[h1]at q;cases q
  rw[aG ne];exact x.xd a fs (by rw[aG ne];exact q)
 fz:=λa b u q=>by
  have ne:a≠d:=λz=>by subst z;rw[h1]at q;cases q
  rw[aG ne];exact x.fz a b u (by rw[aG ne];exact q)
 le:=x.le
 same:=x.same
end
noncomputable def Ai(n:Nat)(o:gP):gP:=match o with
 | .next e M=>match M[n]? with
  | some (.fd kvs)=> .next e (M.set n (.dk kvs))
  | _=> .bad
 | .ret d M=>match M[n]? with
  | some (.fd kvs)=> .ret d (M.set n (.dk kvs))
  | _=> .bad
 | _=> .bad
def X3(g:Tg)(b:MS)(d:D)(e:Sl)(M:Mem):gP:=match d with
 | .ref n=>match M[n]? with
  | some (.dk kvs)=>Ai n (eY none g b (kvs.map λp=>pH p.1) e (M.set n (.fd kvs)))
  | _=> .bad
 | _=> .bad
def ZL(ma:ME)(g:Tg)(b:MS):MS:=λe M=>Br e (ma e M) λd M1=>X3 g b d e M1
theorem Ab.key{K:Frag}{ct ι:Nat->Addr}{n:Nat}{H:Hp}{κ:Type}:∀{fs:List (κ×D)} {vs:List (κ×V)},Ab K ct ι n H fs vs->∀{i:Nat} {a:κ×D} {b:κ×V},fs[i]? = some a->vs[i]? = some b->a.1=b.1
 | _,_,.nil,_,_,_,h,_=>by simp at h
 | _,_,.cons r t,0,_,_,h,h'=>by simp at h h';subst h h';rfl
 | _,_,.cons r t,i+1,_,_,h,h'=>Ab.key t (by simpa using h) (by simpa using h')
section
variable{X:Cx}{ct:Nat->Addr}{W:a_}{pos:Pos}
theorem ack{tg l:Expr}{body:List Stmt}{ma:ME}{g:Tg}{b:MS}(hp:X.Ok->PassesOwn (model X.prog X.w) X.A X.env X.xe)(hc:X.calm=true)(hl:SE X ct W l ma)(hg:SG X ct tg g)(hb:Yv X ct W body b)
  (hs:∀x,foldedSetIterable l X.env x=pure x:=by intro _;rfl):SS X ct W (.For tg l body [] pos) (ZL ma g b):=PS.imp (λpins s σ H D I h=>acS (hp I.ok) hc hl hg hb hs pins s σ H D I h) λT σ H q=>by
 obtain⟨ι,e,M,w,p⟩:=pR (rel:=dw X.K ct) (f:=λd e M1=>X3 g b d e M1) q
 refine⟨ι,e,M,w,p.mono λv H1 ⟨bO,e1,M1,d,w1,q1,p1⟩=> ?_⟩
 unfold X3 at p1
 split at p1
 ·rename_i n
  split at p1
  ·rename_i kvs hM
   obtain⟨hn,rfl⟩:=lg q1
   obtain⟨ys,hH,pv⟩:=w1.rl.obj n _ hM
   have hkl:ys.length=kvs.length:=pv.length
   refine⟨bO n,ys,rfl,hH,λo nf hlen=> ?_⟩
   obtain⟨Hz,hHz⟩:∃Hz,Hz=upd H1 (bO n) (.jY o (.dK ys)):=⟨_,rfl⟩
   have hzd:Hz (bO n)=some (.jY o (.dK ys)):=by rw[hHz];exact bh
   have x0:Ext X.K bO M1.length H1 bO M1.length Hz:=by rw[hHz];exact Ext.chg hH (λ_ z=>nomatch z) (λ_ _ z=>nomatch z)
   have r0:Rl X.K ct bO (M1.set n (.fd kvs)) Hz:=by
    have:=w1.rl.chg (o:= .jY o (.dK ys)) (x:= .fd kvs) hn hH (λ_ z=>nomatch z) (λ_ _ z=>nomatch z) ⟨o,ys,bh,pv.mono (by rw[<-hHz];exact x0)⟩
    rw[hHz];exact this
   have w0:Ws X.K ct bO e1 (M1.set n (.fd kvs)) σ Hz:=w1.ext (by rw[List.length_set];exact x0) r0
   rw[<-hHz]
   obtain⟨ds,hds⟩:∃ds,ds=kvs.map λp=>pH p.1:=⟨_,rfl⟩
   rw[<-hds]at p1
   have hdl:ds.length=ys.length:=by rw[hds,zar,hkl]
   have fin:∀ι' e' M' σ' H',Ext X.K bO M1.length Hz ι' M'.length H'->Ws X.K ct ι' e' M' σ' H'->o_ X.K ct W bO M1.length H1 (Ai n (.next e' M')) T->(Iz X T).nx σ' H':=λι' e' M' σ' H' x' w' p'=>by
    unfold Ai at p'
    cases z:M'[n]? with
    | none=>simp only[z]at p';exact p'.elim
    | some y=>
     cases y with
     | fd ks=>
      simp only[z]at p'
      obtain⟨o',ys',h',pv'⟩:=w'.rl.obj n _ z
      have en:ι' n=bO n:=x'.same n hn
      have hn':n<M'.length:=(List.getElem?_eq_some_iff.mp z).1
      rw[en]at h'
      have R2:=w'.rl.Tu (i:=n) (kvs:=ks) hn' (by rw[en];exact h') pv'
      rw[en]at R2
      refine⟨bO n,o',ys',nf,h',p' ι' σ' _ ?_ ⟨R2,w'.len,λi d hd=> ?_⟩⟩
      ·rw[List.length_set]
       rw[hHz]at x'
       exact RD hH x' h'
      ·obtain⟨v,h1,h2⟩:=w'.env i d hd
       rw[List.length_set]
       exact⟨v,h1,h2.wk (Wk.Tu h')⟩
     | _=>simp only[z]at p';exact p'.elim
   have alW:∀ι' d M' v H',Ext X.K bO M1.length Hz ι' M'.length H'->Rl X.K ct ι' M' H'->DV X.K ct ι' M'.length H' d v->o_ X.K ct W bO M1.length H1 (Ai n (.ret d M')) T->(Iz X T).rt v H':=λι' d M' v H' x' r' q' p'=>by
    unfold Ai at p'
    cases z:M'[n]? with
    | none=>simp only[z]at p';exact p'.elim
    | some y=>
     cases y with
     | fd ks=>
      simp only[z]at p'
      obtain⟨o',ys',h',pv'⟩:=r'.obj n _ z
      have en:ι' n=bO n:=x'.same n hn
      have hn':n<M'.length:=(List.getElem?_eq_some_iff.mp z).1
      rw[en]at h'
      have R2:=r'.Tu (i:=n) (kvs:=ks) hn' (by rw[en];exact h') pv'
      rw[en]at R2
      refine⟨bO n,o',ys',nf,h',p' ι' v _ ?_ R2 ?_⟩
      ·rw[List.length_set]
       rw[hHz]at x'
       exact RD hH x' h'
      ·rw[List.length_set]
       exact q'.wk (Wk.Tu h')
     | _=>simp only[z]at p';exact p'.elim
   refine⟨λi m σ' H'=>m=ds.length - i/\i<=ds.length/\∃ι' e' M',Ext X.K bO M1.length Hz ι' M'.length H'/\Ws X.K ct ι' e' M' σ' H'/\o_ X.K ct W bO M1.length H1 (Ai n (eY none g b (ds.drop i) e' M')) T,
    ⟨ds.length,by simp,Nat.zero_le _,bO,e1,_,by rw[List.length_set];exact .refl,w0,by simpa using p1⟩,?_⟩
   rintro i m σ' H' ⟨rfl,hi,ι',e',M',x',w',p'⟩
   have hq:H' (bO n)=some (.jY o (.dK ys)):=x'.fz _ _ _ hzd
   by_cases hlt:i<ds.length
   ·rw[List.drop_eq_getElem_cons hlt]at p'
    unfold eY at p'
    rw[if_pos (show jZ none M' from trivial)]at p'
    refine .inr ⟨⟨hq,by omega⟩,λσ2 H2=>∃iB e2 M2,Ext X.K bO M1.length Hz iB M2.length H2/\Ws X.K ct iB e2 M2 σ2 H2/\o_ X.K ct W bO M1.length H1 (Ai n (eY none g b (ds.drop (i+1)) e2 M2)) T,?_,?_⟩
    ·rintro σ2 H2 ⟨iB,e2,M2,x2,w2,p2⟩
     exact⟨ds.length - (i+1),by omega,rfl,hlt,iB,e2,M2,x2,w2,p2⟩
    ·rintro y H2 ⟨rfl,pr,hpr,rfl⟩
     have hki:ds[i]=pH pr.1:=by
      have hik:i<kvs.length:=by omega
      have h1:kvs[i]? = some kvs[i]:=zae hik
      have h2:=pv.key h1 hpr
      have h3:ds[i]? = some (pH kvs[i].1):=by rw[hds,zaq,h1];rfl
      rw[zae hlt]at h3
      rw[xI h3,h2]
     refine⟨ι',e',M',ds[i],w',by rw[hki];exact HX,?_⟩
     cases z:g ds[i] e' with
     | none=>rw[z]at p';exact p'.elim
     | some e2=>
      simp only[z]at p'
      intro σ3 w3
      refine⟨ι',e2,M',w3,?_⟩
      cases z3:b e2 M' with
      | next e4 M4=>simp only[z3]at p';exact λS9 σ5 H5 x5 w5=>⟨S9,e4,M4,x'.trans x5,w5,p'⟩
      | cont e4 M4=>simp only[z3]at p';exact λS9 σ5 H5 x5 w5=>⟨S9,e4,M4,x'.trans x5,w5,p'⟩
      | brk e4 M4=>simp only[z3]at p';exact λS9 σ5 H5 x5 w5=>fin S9 e4 M4 σ5 H5 (x'.trans x5) w5 p'
      | ret d M4=>simp only[z3]at p';exact λS9 v5 H5 x5 r5 q5=>alW S9 d M4 v5 H5 (x'.trans x5) r5 q5 p'
      | exc xc xd xe xM=>simp only[z3]at p';exact p'.elim
      | bad=>simp only[z3]at p';exact p'.elim
   ·have e0:i=ds.length:=by omega
    subst e0
    rw[List.drop_length]at p'
    unfold eY at p'
    rw[if_pos (show jZ none M' from trivial)]at p'
    exact .inl ⟨⟨hq,by omega⟩,fin ι' e' M' σ' H' x' w' p'⟩
  ·exact p1.elim
 ·exact p1.elim
end
end S
namespace S
open PySem L2
section
variable{e:Sl}{M:Mem}
@[simp] theorem aio{ma:ME}{g:Tg}{b:MS}:ZL ma g b e M=Br e (ma e M) λd M1=>X3 g b d e M1:=id rfl
theorem abj{g:Tg}{b:MS}{n:Nat}{kvs:List (Key×D)}(h:M[n]? = some (.dk kvs)):X3 g b (.ref n) e M=Ai n (eY none g b (kvs.map λp=>pH p.1) e (M.set n (.fd kvs))):=by simp only[X3,h]
theorem Tt{n:Nat}{kvs:List (Key×D)}(h:M[n]? = some (.fd kvs)):Ai n (.next e M)= .next e (M.set n (.dk kvs)):=by simp only[Ai,h]
end
end S
namespace L2
open PySem PySem.Spec PySem.W PySem.Calls PyProof.Rows
section
variable{X:Cx}
def Z2(K:Frag):List V->Hp->VK->Prop:=λxs H Q=>∃d kvs cs,xs=[.ref d]/\H d=some (.dK kvs)/\kvs.length<64/\K4 K H (kvs.map λp=>kV p.1) cs/\∀q l,Order kvs.length cs q->H l=none->Q (.ref l) (upd H l (.lst (Q6 (kvs.map λp=>kV p.1) q)))
theorem Pn(hc:X.calm=true)(hu:X.A.units+2<cLine):j4 X (.builtin "sorted") (Z2 X.K):=by
 intro pins s σ H xs us Q I r h
 obtain⟨d,kvs,cs,rfl,hd,h64,rk,q⟩:=h
 obtain⟨u,rfl,rx⟩:=vals1 r
 cases rx
 obtain⟨z,ns,vs,kv,dd⟩:=(show bQ X.prog X.w H s.heap d (.dK kvs)from I.hok d _ hd)
 obtain⟨ep,da⟩:=dd.dictAt
 have lv:kvs.length=vs.length:=Paired.length kv
 refine xP hu (kdu_collect (A:=X.A.in1) (kdl_dict (knd:=cL X.prog X.w) (kvs:=vs) (ep:=ep) ns) (I.ok.hd hc) da (by omega) λh' tk acc kp it=> ?_)
 refine⟨kvs.map λp=>kV p.1,cs,H,I.kept kp,ab4 ?_ λj v hv=> ?_,by simpa using h64,rk,by simpa using q⟩
 ·have:=it.1
  simp
  omega
 ·obtain⟨k,x,e1,e2⟩:=it.2 j v (by rw[<-Array.getElem?_toList];exact hv)
  obtain⟨y,e3,_⟩:=agj kv e1
  exact⟨kV k,by rw[zaq,e3];rfl,aaU e2⟩
end
end L2
namespace S
open PySem PySem.Spec PyProof.Rows L2
open Classical in
def yf:Mr:=λds M=>match ds with
 | [.ref n]=>match M[n]? with
  | some (.dk kvs)=>if Yo (kvs.map λp=>pH p.1)/\kvs.length<64 then .ok (.ref M.length) (M++[.lst (uC (kvs.map λp=>pH p.1))])else .bad
  | _=> .bad
 | _=> .bad
section
variable{X:Cx}{ct:Nat->Addr}
theorem U0(hc:X.calm=true)(hu:X.A.units+64<cLine):nu X ct (.builtin "sorted") yf:=by
 refine⟨_,Pn hc (by omega),λι M H ds vs Q R h p=> ?_⟩
 unfold yf at p
 split at p
 ·rename_i n
  obtain⟨v,rfl,q⟩:=z_ h
  obtain⟨hn,rfl⟩:=lg q
  split at p
  ·rename_i kvs z
   split at p
   ·rename_i hs
    obtain⟨ys,hH,pv⟩:=R.obj n _ z
    have dy:=acL pv
    have hl:=dy.length
    simp only[zar]at hl
    refine⟨_,ys,(kvs.map λp=>pH p.1).map mG,rfl,hH,by omega,VH hs.1 dy,λq l od hl'=> ?_⟩
    have od':Order (kvs.map λp=>pH p.1).length ((kvs.map λp=>pH p.1).map mG) q:=by
     rw[zar,show kvs.length=ys.length by omega];exact od
    have:=Ua dy od'.lt
    rw[Nv hs.1 od']at this
    exact oW R this hl' p
   ·exact p.elim
  ·exact p.elim
 ·exact p.elim
end
theorem QH{M:Mem}{n:Nat}{kvs:List (Key×D)}(h:M[n]? = some (.dk kvs))(hs:Yo (kvs.map λp=>pH p.1))(hl:kvs.length<64):yf [.ref n] M= .ok (.ref M.length) (M++[.lst (uC (kvs.map λp=>pH p.1))]):=by
 simp only[yf,h];rw[if_pos ⟨hs,hl⟩]
end S
namespace S
theorem V9{α:Type}{us:List α}(h:us.length=6):∃a b c d e f,us=[a,b,c,d,e,f]:=by
 match us,h with
 | [a,b,c,d,e,f],_=>exact⟨a,b,c,d,e,f,rfl⟩
end S
namespace L2
open PySem PySem.Spec PyProof.Rows
abbrev Dsc:=Nat×Str×Str×Stmt×List Str
abbrev nY(c:Nat)(n q:Str)(s:Stmt)(p:List Str):Dsc:=(c,n,q,s,p)
set_option genInjectivity false in
structure Fv where
 f:Addr
 oc:Value
 kV:Value
 dc:Value
 pm:Value
 cd:Value
 ct:Value
 od:Option Addr
 an:Option Addr
 sl:Array (Option Value)
def fv0:Fv:=⟨0,.none,.none,.none,.none,.none,.none,none,none,#[]⟩
def d0:Dsc:=(0,"","",.Pass ⟨0,0,0,0⟩,[])
noncomputable def Fv.fd(x:Fv)(d:Dsc):FuncData:=fnOf d.2.1 d.2.2.1 (d_ d.2.2.2.1) (cM d.2.2.2.1) (aC d.2.2.2.1) .none x.kV x.dc x.pm x.an x.cd x.ct
def Bd(nm qn:Str)(st:Stmt)(ps:List Str):Prop:=∀(kV doc pm:Value) (an:Option Addr) (cdv ct:Value) (us:List Value),us.length=ps.length->bindArgs (fnOf nm qn (d_ st) (cM st) (aC st) .none kV doc pm an cdv ct) ⟨us,[]⟩=pure (ps.zip us)
structure ajO(K:Frag)(cls:Nat->Addr)(d:Dsc)(x:Fv):Prop where
 a0:(d.1==0)=true->nsIn K mainGlobals d.2.1=some (some (.ref x.f))
 a1:(d.1==0)=false->findIn K (.ref (cls (d.1 - 1))) d.2.1=some (some (.ref x.f))/\isFn K (.ref x.f)=true
 lk:K.lookup x.f=some ⟨x.oc,x.od,.func (x.fd d),x.sl⟩
 cd:codeIn K x.cd d.2.2.1=true
 kp:keepIn K (.ref x.f)=true
 bd:Bd d.2.1 d.2.2.1 d.2.2.2.1 d.2.2.2.2
def P_(K:Frag)(cls:Nat->Addr):List Dsc->List Fv->Prop
 | [],[]=>True
 | d::ds,x::xs=>ajO K cls d x/\P_ K cls ds xs
 | _,_=>False
section
variable{K:Frag}{cls:Nat->Addr}
theorem P_.ok:∀{ds:List Dsc} {xs:List Fv},P_ K cls ds xs->∀{i:Nat},Nat.blt i ds.length=true->ajO K cls (ds.getD i d0) (xs.getD i fv0)
 | [],_,_,i,hi=>by
  rw[Nat.blt_eq]at hi
  exact absurd hi (Nat.not_lt_zero _)
 | _::_,[],h,_,_=>h.elim
 | d::ds,x::xs,h,0,_=>h.1
 | d::ds,x::xs,h,i+1,hi=>by
  rw[Nat.blt_eq]at hi
  exact P_.ok h.2 (by rw[Nat.blt_eq];simpa using hi)
theorem adO:∃xs,P_ K cls [] xs:=⟨[],trivial⟩
theorem agH{nm:Str}{st:Stmt}{ps:List Str}{ds:List Dsc}{f:Addr}{oc kV dc pm cd ct:Value}{od an:Option Addr}{sl:Array (Option Value)}(h1:nsIn K mainGlobals nm=some (some (.ref f)))
  (h2:K.lookup f=some ⟨oc,od,.func (fnOf nm nm (d_ st) (cM st) (aC st) .none kV dc pm an cd ct),sl⟩) (h3:codeIn K cd nm=true) (h4:keepIn K (.ref f)=true) (hb:Bd nm nm st ps) (r:∃xs,P_ K cls ds xs):∃xs,P_ K cls ((0,nm,nm,st,ps)::ds) xs:=
 let⟨xs,h⟩:=r
 ⟨⟨f,oc,kV,dc,pm,cd,ct,od,an,sl⟩::xs,⟨λ_=>h1,(λz=>nomatch z),h2,h3,h4,hb⟩,h⟩
theorem agG{c:Nat}{nm qn:Str}{st:Stmt}{ps:List Str}{ds:List Dsc}{C f:Addr}{oc kV dc pm cd ct:Value}{od an:Option Addr}{sl:Array (Option Value)}(hC:cls c=C)(h1:findIn K (.ref C) nm=some (some (.ref f)))(h0:isFn K (.ref f)=true)
  (h2:K.lookup f=some ⟨oc,od,.func (fnOf nm qn (d_ st) (cM st) (aC st) .none kV dc pm an cd ct),sl⟩) (h3:codeIn K cd qn=true) (h4:keepIn K (.ref f)=true) (hb:Bd nm qn st ps) (r:∃xs,P_ K cls ds xs):∃xs,P_ K cls ((c+1,nm,qn,st,ps)::ds) xs:=
 let⟨xs,h⟩:=r
 ⟨⟨f,oc,kV,dc,pm,cd,ct,od,an,sl⟩::xs,⟨(λz=>nomatch z),λ_=>⟨by rw[Nat.add_sub_cancel,hC];exact h1,h0⟩,h2,h3,h4,hb⟩,h⟩
variable{ds:List Dsc}{xs:List Fv}
theorem P_.fn(h:P_ K cls ds xs){i:Nat}(hi:Nat.blt i ds.length=true):zx K (ds.getD i d0).2.1 (ds.getD i d0).2.2.1 (ds.getD i d0).2.2.2.1 .none (xs.getD i fv0).f ((xs.getD i fv0).fd (ds.getD i d0)):=wj (h.ok hi).lk (h.ok hi).cd (h.ok hi).kp
theorem P_.b(h:P_ K cls ds xs){i:Nat}(hi:Nat.blt i ds.length=true):Binds K ((xs.getD i fv0).fd (ds.getD i d0)) (ds.getD i d0).2.2.2.2 []:=(h.fn hi).binds (h.ok hi).bd
theorem P_.me(h:P_ K cls ds xs){i:Nat}(hi:Nat.blt i ds.length=true)(h1:((ds.getD i d0).1==0)=false):Meth K (cls ((ds.getD i d0).1 - 1)) (ds.getD i d0).2.1 (xs.getD i fv0).f:=
 ⟨((h.ok hi).a1 h1).1,((h.ok hi).a1 h1).2,(h.ok hi).kp⟩
theorem P_.mk(h:P_ K cls ds xs){i:Nat}(hi:Nat.blt i ds.length=true){C:Addr}(h1:((ds.getD i d0).1==0)=false)(hn:(ds.getD i d0).2.1= "__init__")(hC:cls ((ds.getD i d0).1 - 1)=C)(m:PySem.W.makesIn K C=true)(k:keepIn K (.ref C)=true):Mk K C (xs.getD i fv0).f:=
 ⟨m,by rw[<-hC,<-hn];exact((h.ok hi).a1 h1).1,((h.ok hi).a1 h1).2,k⟩
def zj(K:Frag)(C:Addr):List Str->Prop
 | []=>True
 | a::l=>uw K C a/\zj K C l
theorem zj.get{C:Addr}:∀{l:List Str},zj K C l->∀{i:Nat},Nat.blt i l.length=true->uw K C (l.getD i "")
 | [],_,i,hi=>by
  rw[Nat.blt_eq]at hi
  exact absurd hi (Nat.not_lt_zero _)
 | a::l,h,0,_=>h.1
 | a::l,h,i+1,hi=>by
  rw[Nat.blt_eq]at hi
  exact zj.get h.2 (by rw[Nat.blt_eq];simpa using hi)
theorem yu{C:Addr}:zj K C []:=trivial
theorem uJ{C:Addr}{a:Str}{l:List Str}(h:findIn K (.ref C) a=some none)(r:zj K C l):zj K C (a::l):=⟨h,r⟩
end
end L2
set_option Elab.async false
set_option maxHeartbeats 0
set_option maxRecDepth 100000
set_option linter.all false
namespace My
open PySem L2 S
def wK:MS:=
 (qe (aZ (aD sLt (aq 1) (F_ zX (au (aq 0) aK)))) (bJ (aD bN (aq 0) (aq 1))) cj)
def oK:MS:=
 (aR wK
 (bJ (mC (.int 0))))
def dh:Fn:=aU 2 oK
def yP:MS:=
 (qe (V6 (aZ (aD acB (aq 1) (F_ zX (au (aq 0) aK)))) (aZ (aD TY (aD bN (aq 0) (aq 1)) (aq 2)))) (bJ (aq 1)) cj)
def gq:MS:=
 yP
def yS:MS:=
 (Nm (Ul (mC (.m8 [(.m8 [(.str "once"),(.str "free")]),(.m8 [(.str "best"),(.str "any")]),(.m8 [(.str "own"),(.str "old")]),(.m8 [(.str "most"),(.str "half")])]))) (gT 2 (k_ (gN 1) (k_ (gN 2) JX))) gq)
def yO:MS:=
 (qe (aZ (aD GR (F_ zX (au (aq 0) aK)) (F_ zX (au (mC (.m8 [(.m8 [(.str "once"),(.str "free")]),(.m8 [(.str "best"),(.str "any")]),(.m8 [(.str "own"),(.str "old")]),(.m8 [(.str "most"),(.str "half")])])) aK)))) (bJ (F_ zX (au (mC (.m8 [(.m8 [(.str "once"),(.str "free")]),(.m8 [(.str "best"),(.str "any")]),(.m8 [(.str "own"),(.str "old")]),(.m8 [(.str "most"),(.str "half")])])) aK))) cj)
def pZ:MS:=
 (aR yS
 (aR yO
 (bJ (mC .non))))
def pX:Fn:=aU 3 pZ
def yQ:MS:=
 (qe (aZ (aD Ej (aq 3) (mC .non))) T5 cj)
def ir:MS:=
 (aR (cP (mBM "str" Ei (aq 1) (au (mC (.str " ")) aK)) (gN 2))
 (aR (cP (cV pX 1 [] (au (aq 2) aK)) (gN 3))
 (aR yQ
 (aR (cZ [6] (aq 0) (aD sEq (aD bN (aq 2) (mC (.int 0))) (mC (.str "once"))) "once")
 (aR (cZ [6] (aq 0) (aD sEq (aD bN (aq 2) (mC (.int 1))) (mC (.str "best"))) "best")
 (aR (cZ [6] (aq 0) (aD sEq (aD bN (aq 2) (mC (.int 2))) (mC (.str "own"))) "own")
 (cZ [6] (aq 0) (aD sEq (aD bN (aq 2) (mC (.int 3))) (mC (.str "most"))) "most")))))))
def fO:Fn:=aU 4 ir
def p_:MS:=
 (aR (cP (rZ 6 fO 2 [(.str "once best own most")] aK) (gN 1))
 (aR (cZ [6] (aq 1) (eV [6] (aq 0) "once") "once")
 (aR (cZ [6] (aq 1) (eV [6] (aq 0) "best") "best")
 (aR (cZ [6] (aq 1) (eV [6] (aq 0) "own") "own")
 (aR (cZ [6] (aq 1) (eV [6] (aq 0) "most") "most")
 (bJ (aq 1)))))))
def l_:Fn:=aU 2 p_
def mZ:MS:=
 (aR (cZ [0,7,8] (aq 0) (aq 1) "rules")
 (aR (cZ [0] (aq 0) oZ "terms")
 (aR (cZ [0] (aq 0) oZ "votes")
 (aR (cZ [0] (aq 0) oZ "askings")
 (cZ [0] (aq 0) oZ "seated")))))
def mz:Fn:=aU 2 mZ
def mU:MS:=
 (aR (cZ [7] (aq 0) (aq 1) "first_roll")
 (aR (cZ [0,7,8] (aq 0) (aq 2) "rules")
 (aR (cZ [7] (aq 0) oZ "rows")
 (aR (cZ [7] (aq 0) oZ "lines")
 (aR (cZ [7] (aq 0) oZ "marks")
 (cZ [7] (aq 0) oZ "places"))))))
def lZ:Fn:=aU 3 mU
def mV:MS:=
 (aR (cZ [5] (aq 0) oZ "beats")
 (aR (cZ [5] (aq 0) oZ "heard")
 (aR (cZ [5] (aq 0) oZ "looks")
 (cZ [5] (aq 0) oZ "seen"))))
def mj:Fn:=aU 1 mV
def fW:MS:=
 (aR (cZ [8] (aq 0) (aq 1) "first")
 (aR (cZ [0,7,8] (aq 0) (mIf (aZ (aD sIs (aq 2) (mC .non))) (rZ 6 fO 2 [(.str "once best own most")] aK) (bI 6 "twin" l_ 1 [] (aq 2) aK)) "rules")
 (aR (cZ [8] (aq 0) (rZ 0 mz 2 [] (au (eV [0,7,8] (aq 0) "rules") aK)) "ballots")
 (aR (cZ [8] (aq 0) (rZ 7 lZ 3 [] (au (lN (au (aq 1) (au (mC (.int 0)) aK))) (au (eV [0,7,8] (aq 0) "rules") aK))) "strides")
 (aR (cZ [8] (aq 0) (rZ 5 mj 1 [] aK) "replies")
 (aR (cZ [8] (aq 0) (mC (.int 0)) "count")
 (cZ [8] (aq 0) (mC .non) "breach")))))))
def fP:Fn:=aU 3 fW
def sJ:MS:=
 (aR (cP (Hh (au (aD bN (Hh (au (mC (.str "once")) (au (mC (.str "free")) aK))) (aD gY (aD m9 (aq 0) (mC (.int 2))) (mC (.int 2)))) (au (aD bN (Hh (au (mC (.str "best")) (au (mC (.str "any")) aK))) (aD gY (aD m9 (aq 0) (mC (.int 4))) (mC (.int 2)))) (au (mC (.str "own")) (au (aD bN (Hh (au (mC (.str "most")) (au (mC (.str "half")) aK))) (aD gY (aq 0) (mC (.int 2)))) aK))))) (gN 1))
 (bJ (mBM "str" Lk (mC (.str " ")) (au (aq 1) aK))))
def rW:Fn:=aU 2 sJ
def oG:MS:=
 (qe (aZ (aD sEq (aD gY (aq 1) (mC (.int 4))) (mC (.int 0)))) (bJ (rZ 8 fP 3 [.non] (au (aq 0) aK))) cj)
def oF:MS:=
 (qe (aZ (aD sEq (aD gY (aq 1) (mC (.int 4))) (mC (.int 1)))) (bJ (rZ 8 fP 3 [] (au (aq 0) (au (mC .non) aK)))) cj)
def lK:MS:=
 (aR oG
 (aR oF
 (bJ (rZ 8 fP 3 [] (au (aq 0) (au (rZ 6 fO 2 [] (au (cV rW 1 [] (au (aD m9 (aq 1) (mC (.int 4))) aK)) aK)) aK))))))
def lF:Fn:=aU 2 lK
def tY:MS:=
 (qe (aZ (aD sEq (aD gY (aq 1) (mC (.int 2))) (mC (.int 0)))) (bJ (lN (au (mC (.str "vote")) (au (aq 4) (au (aq 5) (au (aD bN (aq 2) (aD gY (aq 6) (mC (.int 5)))) aK)))))) cj)
def tX:MS:=
 (qe (aZ (aD sEq (aD vM (aD Bm (mF (aD bN (aq 0) (mC (.int 1))) (lN (au (aD bN (aq 2) (aq 8)) (au (aq 5) aK))) (mC (.int 0))) (aq 4)) (mC (.int 1))) (mC (.int 1)))) (cP (aD sOr (aq 7) (aD wR (mC (.int 1)) (aD bN (aq 2) (aq 8)))) (gN 7)) cj)
def oE:MS:=
 (qe (aZ (aD sEq (aD gY (aq 6) (mC (.int 3))) (mC (.int 0)))) (cP (aD sOr (aq 7) (aD wR (aD vM (aD Bm (aD m9 (aq 6) (mC (.int 3))) (aq 8)) (mC (.int 1))) (aD bN (aq 2) (aq 8)))) (gN 7)) tX)
def iH:MS:=
 oE
def Ay:MS:=
 (Nm (FW (au (mC (.int 5)) aK)) (gN 8) iH)
def o8:MS:=
 (aR (cP (aD bN (aq 2) (aD gY (aD m9 (aq 1) (mC (.int 2))) (mC (.int 5)))) (gN 4))
 (aR (cP (aD GX (aD bN (Hh (au (aq 3) (au (mC (.int 0)) aK))) (aD m9 (aD gY (aD m9 (aq 1) (mC (.int 10))) (mC (.int 4))) (mC (.int 3)))) (aD gY (aD m9 (aq 1) (mC (.int 40))) (mC (.int 5)))) (gN 5))
 (aR (cP (aD m9 (aq 1) (mC (.int 200))) (gN 6))
 (aR tY
 (aR (cP (mC (.int 0)) (gN 7))
 (aR Ay
 (bJ (lN (au (mC (.str "chair")) (au (aq 4) (au (aq 5) (au (aq 7) aK))))))))))))
def ji:Fn:=aU 9 o8
def nU:MS:=
 (qe (V6 (aZ (aD sLt (aq 2) (mC (.int 1)))) (V6 (aZ (aD sLt (aq 2) (mF (aD bN (aq 0) (mC (.int 0))) (aq 1) (mC (.int 0))))) (V6 (aZ (aD sEq (aD vM (aD Bm (aq 5) (aq 3)) (mC (.int 1))) (mC (.int 1)))) (aaO (aZ (aq 4)) (aZ (aD sNe (aq 5) (mC (.int 0)))))))) (bJ (mC (.bl false))) cj)
def nR:MS:=
 (qe (aZ (aD sEq (aq 3) (aq 1))) (bJ (aD GR (aq 2) (mF (aD bN (aq 0) (mC (.int 0))) (aq 1) (mC (.int 0))))) cj)
def gK:MS:=
 (aR (cP (mF (aD bN (aq 0) (mC (.int 1))) (lN (au (aq 1) (au (aq 2) aK))) (mC (.int 0))) (gN 5))
 (aR nU
 (aR nR
 (bJ (aD sEq (aD vM (aD Bm (mF (aD bN (aq 0) (mC (.int 1))) (lN (au (aq 3) (au (aq 2) aK))) (mC (.int 0))) (aq 3)) (mC (.int 1))) (mC (.int 1)))))))
def eG:Fn:=aU 6 gK
def jG:MT:=
 (aZ (aD GR (aq 0) (mC (.int 0))))
def pQ:MS:=
 (aR (cP (aD GX (aq 1) (aD gY (aq 0) (mC (.int 2)))) (gN 1))
 (cP (aD m9 (aq 0) (mC (.int 2))) (gN 0)))
def Cr:MS:=
 (Bl jG pQ)
def wC:MS:=
 (aR (cP (mC (.int 0)) (gN 1))
 (aR Cr
 (bJ (aq 1))))
def qP:Fn:=aU 2 wC
def dN:MS:=
 (qe (V6 (aZ (aD sLt (aq 2) (mC (.int 1)))) (V6 (aZ (aD sNe (mF (aD bN (aq 0) (mC (.int 0))) (aq 1) (mC (.int 0))) (aq 2))) (aZ (aD sEq (aD vM (aD Bm (mF (aD bN (aq 0) (mC (.int 1))) (lN (au (aq 1) (au (aq 2) aK))) (mC (.int 0))) (aq 1)) (mC (.int 1))) (mC (.int 0)))))) (bJ (mC (.bl false))) cj)
def iY:MS:=
 (qe (aaO (aZ (aD sEq (aD vM (aD Bm (aq 3) (aq 6)) (mC (.int 1))) (mC (.int 1)))) (aZ (aD sEq (aD vM (aD Bm (mF (aD bN (aq 0) (mC (.int 1))) (lN (au (aq 6) (au (aq 2) aK))) (mC (.int 0))) (aq 1)) (mC (.int 1))) (mC (.int 0))))) (bJ (mC (.bl false))) cj)
def dI:MS:=
 iY
def i_:MS:=
 (Nm (FW (au (mC (.int 60)) aK)) (gN 6) dI)
def iW:MS:=
 (qe (aZ (aD sEq (mF (aD bN (aq 0) (mC (.int 2))) (aq 2) (mUn acy (mC (.int 1)))) (aq 1))) (bJ (mC (.bl false))) cj)
def cC:MS:=
 (aR dN
 (aR i_
 (aR iW
 (bJ (aD GR (aD GX (aD QK (mC (.int 2)) (cV qP 1 [] (au (aD vM (aq 4) (aq 3)) aK))) (aq 5)) (cV qP 1 [] (au (aq 4) aK)))))))
def bR:Fn:=aU 7 cC
def sO:MS:=
 (bJ (Al (aD GR (F_ zX (au (aq 0) aK)) (mC (.int 0))) (aD sEq (aaK [("vote",4),("chair",4),("write",4),("beat",3),("told",5),("settle",4),("answer",6),("look",6),("seen",8)] (aD bN (aq 0) (mC (.int 0)))) (F_ zX (au (aq 0) aK)))))
def rY:Fn:=aU 1 sO
def Ge:MS:=
 (qe (aZ (aD sIn (aD bN (aq 0) (mC (.int 0))) (mC (.m8 [(.str "vote"),(.str "chair"),(.str "told")])))) (bJ (aD bN (aq 0) (mC (.int 2)))) cj)
def zP:MS:=
 (aR Ge
 (bJ (aD bN (aq 0) (mC (.int 1)))))
def zH:Fn:=aU 1 zP
def JV:MS:=
 (qe (aZ (aD sEq (F_ zX (au (aq 0) aK)) (mC (.int 0)))) (bJ (lN (au (mC (.int 0)) (au (mC (.int 0)) aK)))) cj)
def Dw:MS:=
 (aR JV
 (bJ (lN (au (aD bN (aD bN (aq 0) (mUn acy (mC (.int 1)))) (mC (.int 0))) (au (F_ zX (au (aq 0) aK)) aK)))))
def yD:Fn:=aU 1 Dw
def jH:MS:=
 (bJ (mF (eV [7] (aq 0) "rows") (aq 1) (lN aK)))
def cX:Fn:=aU 2 jH
def jd:MS:=
 (bJ (mF (eV [0] (aq 0) "terms") (aq 1) (mC (.int 0))))
def cQ:Fn:=aU 2 jd
def iu:MS:=
 (bJ (mF (eV [0] (aq 0) "votes") (lN (au (aq 1) (au (aq 2) aK))) (mC (.int 0))))
def bH:Fn:=aU 3 iu
def Bb:MS:=
 (cP (aD sOr (aq 1) (aD wR (mC (.int 1)) (aq 2))) (gN 1))
def JZ:MS:=
 (Nm (JB (aq 0)) (gN 2) Bb)
def Dv:MS:=
 (aR (cP (mC (.int 0)) (gN 1))
 (aR JZ
 (bJ (aq 1))))
def jX:Fn:=aU 3 Dv
def jk:MS:=
 (qe (aZ (eV [6] (eV [0,7,8] (aq 0) "rules") "once")) (bJ (aD sNe (aq 4) (mC (.int 0)))) cj)
def eZ:MS:=
 (aR (cP (bI 0 "votes_of" bH 3 [] (aq 0) (au (aq 1) (au (aq 2) aK))) (gN 4))
 (aR jk
 (bJ (aD sNe (aD vM (aq 4) (cV jX 1 [] (au (Hh (au (aq 3) aK)) aK))) (mC (.int 0))))))
def eO:Fn:=aU 5 eZ
def fX:MS:=
 (bJ (V7 (eV [0] (aq 0) "askings") (lN (au (aq 1) (au (aq 2) aK)))))
def dB:Fn:=aU 3 fX
def eX:MS:=
 (qe (aZ (aD sIs (aq 4) (mC .non))) (bJ (mC (.bl false))) cj)
def cz:MS:=
 (aR (cP (bI 0 "asked_with" dB 3 [] (aq 0) (au (aq 1) (au (aq 2) aK))) (gN 4))
 (aR eX
 (bJ (Uk (aD sLe (aq 3) (aq 4)) (Lx (eV [6] (eV [0,7,8] (aq 0) "rules") "best"))))))
def cu:Fn:=aU 5 cz
def dG:MS:=
 (qe (V6 (aZ (aD sLt (aq 2) (bI 0 "term_of" cQ 2 [] (aq 0) (au (aq 1) aK)))) (aZ (bI 0 "is_spent" eO 4 [] (aq 0) (au (aq 1) (au (aq 2) (au (aq 3) aK)))))) (bJ (mC (.bl false))) cj)
def dD:MS:=
 (qe (aZ (aD sEq (aq 3) (aq 1))) (bJ (aD GR (aq 2) (bI 0 "term_of" cQ 2 [] (aq 0) (au (aq 1) aK)))) cj)
def cF:MS:=
 (aR dG
 (aR dD
 (bJ (bI 0 "is_good_enough" cu 4 [] (aq 0) (au (aq 3) (au (aq 2) (au (aq 4) aK)))))))
def cD:Fn:=aU 5 cF
def iz:MS:=
 (bJ (V7 (eV [0] (aq 0) "seated") (aq 1)))
def eU:Fn:=aU 2 iz
def wD:MS:=
 (bJ (FZ [0] (FW (au (mBM "int" VD (aq 0) aK) aK)) (aZ (aD sNe (aD vM (aq 1) (aD wR (mC (.int 1)) (aq 0))) (mC (.int 0)))) (aq 0)))
def qQ:Fn:=aU 1 wD
def gk:MS:=
 (bJ (F_ Xe (au (FZ [2,0,3] (JB (cV qQ 1 [] (au (aq 1) aK))) JC (aD sNe (aD vM (bI 0 "votes_of" bH 3 [] (aq 2) (au (aq 0) (au (aq 1) aK))) (cV jX 1 [] (au (Hh (au (aq 3) aK)) aK))) (mC (.int 0)))) aK)))
def gf:Fn:=aU 4 gk
def Pz:MS:=
 (bJ (F_ zX (au (cV qQ 1 [] (au (aq 0) aK)) aK)))
def Et:Fn:=aU 1 Pz
def Gg:MS:=
 (qe (aZ (aq 2)) (bJ (aD acB (aq 3) (cV Et 1 [] (au (aq 1) aK)))) cj)
def lM:MS:=
 (aR (cP (aD QK (mC (.int 2)) (cV Et 1 [] (au (aD vM (aq 0) (aq 1)) aK))) (gN 3))
 (aR Gg
 (bJ (aD GR (aq 3) (cV Et 1 [] (au (aq 1) aK))))))
def uL:Fn:=aU 4 lM
def Dm:MS:=
 (qe (Rj (aZ (cV uL 3 [] (au (aq 1) (au (aD bN (aq 0) (mC (.int 0))) (au (aq 2) aK)))))) (bJ (mC (.bl false))) cj)
def wB:MS:=
 (aR Dm
 (bJ (Uk (aD sEq (aD bN (aq 0) (mC (.int 1))) (mC (.int 0))) (cV uL 3 [] (au (aq 1) (au (aD bN (aq 0) (mC (.int 1))) (au (aq 2) aK)))))))
def Es:Fn:=aU 3 wB
def p8:MS:=
 (bJ (cV Es 3 [] (au (aq 1) (au (aq 2) (au (Lx (eV [6] (aq 0) "most")) aK)))))
def pY:Fn:=aU 3 p8
def cg:MS:=
 (qe (V6 (aZ (aD sNe (bI 0 "term_of" cQ 2 [] (aq 0) (au (aq 1) aK)) (aq 2))) (aZ (aD sEq (bI 0 "chair_of" eU 2 [] (aq 0) (au (aq 2) aK)) (aq 1)))) (bJ (mC (.bl false))) cj)
def b_:MS:=
 (qe (aZ (aD sNe (bI 0 "asked_with" dB 3 [] (aq 0) (au (aq 1) (au (aq 2) aK))) (aq 4))) (bJ (mC (.bl false))) cj)
def bL:MS:=
 (aR cg
 (aR b_
 (bJ (Al (bI 0 "voted_all" gf 4 [] (aq 0) (au (aq 3) (au (aq 2) (au (aq 1) aK)))) (bI 6 "wins" pY 3 [] (eV [0,7,8] (aq 0) "rules") (au (aq 5) (au (aq 3) aK)))))))
def bK:Fn:=aU 6 bL
def mO:MT:=
 (aaO (aZ (aD GR (aq 1) (mC (.int 0)))) (aZ (aD sNe (aD bN (aD bN (aD bN (aq 0) (aD Zu (aq 1) (mC (.int 1)))) (mC (.int 1))) (mC (.int 0))) (mC (.str "roll")))))
def rM:MS:=
 (cP (aD Zu (aq 1) (mC (.int 1))) (gN 1))
def rH:MS:=
 (Bl mO rM)
def j7:MS:=
 (aR (cP (F_ zX (au (aq 0) aK)) (gN 1))
 (aR rH
 (bJ (aq 1))))
def j5:Fn:=aU 2 j7
def Gf:MS:=
 (qe (aZ (aD sEq (aq 2) (mC (.int 0)))) (bJ (aq 1)) cj)
def zQ:MS:=
 (aR (cP (cV j5 1 [] (au (aq 0) aK)) (gN 2))
 (aR Gf
 (aR (cP (aD bN (aD bN (aq 0) (aD Zu (aq 2) (mC (.int 1)))) (mC (.int 1))) (gN 3))
 (bJ (lN (au (aD bN (aq 3) (mC (.int 1))) (au (aD bN (aq 3) (mC (.int 2))) aK)))))))
def zJ:Fn:=aU 4 zQ
def ig:MS:=
 (bJ (cV zJ 2 [] (au (bI 7 "row_of" cX 2 [] (aq 0) (au (aq 1) aK)) (au (eV [7] (aq 0) "first_roll") aK))))
def g8:Fn:=aU 2 ig
def iR:MS:=
 (qe (aZ (aD sEq (aD bN (aq 1) (mC (.int 0))) (mC (.str "vote")))) (bJ (bI 0 "may_vote" cD 5 [] (eV [8] (aq 0) "ballots") (au (aq 2) (au (aD bN (aq 1) (mC (.int 2))) (au (aD bN (aq 1) (mC (.int 3))) (au (aq 3) aK)))))) cj)
def iQ:MS:=
 (qe (aZ (aD sEq (aD bN (aq 1) (mC (.int 0))) (mC (.str "chair")))) (bJ (bI 0 "may_chair" bK 6 [] (eV [8] (aq 0) "ballots") (au (aq 2) (au (aD bN (aq 1) (mC (.int 2))) (au (aD bN (aq 1) (mC (.int 3))) (au (aq 3) (au (bI 7 "row_roll" g8 2 [] (eV [8] (aq 0) "strides") (au (aq 2) aK)) aK))))))) cj)
def dY:MS:=
 (aR (cP (aD bN (aq 1) (mC (.int 1))) (gN 2))
 (aR (cP (cV yD 1 [] (au (bI 7 "row_of" cX 2 [] (eV [8] (aq 0) "strides") (au (aq 2) aK)) aK)) (gN 3))
 (aR iR
 (aR iQ
 T5))))
def b7:Fn:=aU 4 dY
def jB:MS:=
 (qe (V6 (aZ (aD Ej (eV [8] (aq 0) "breach") (mC .non))) (V6 (Rj (aZ (cV rY 1 [] (au (aq 1) aK)))) (aZ (aD sLt (cV zH 1 [] (au (aq 1) aK)) (mC (.int 1)))))) (bJ (mC (.bl false))) cj)
def jA:MS:=
 (qe (aZ (aD sIn (aD bN (aq 1) (mC (.int 0))) (mC (.m8 [(.str "vote"),(.str "chair"),(.str "told")])))) (bJ (bI 8 "allows_hand" b7 2 [] (aq 0) (au (aq 1) aK))) cj)
def gM:MS:=
 (aR jB
 (aR jA
 T5))
def eN:Fn:=aU 2 gM
def j9:MS:=
 (tH (eV [0] (aq 0) "terms") (aq 1) (aq 2))
def iC:Fn:=aU 3 j9
def jC:MS:=
 (qe (aZ (aD sEq (aq 3) (aq 1))) (tH (eV [0] (aq 0) "askings") (lN (au (aq 1) (au (aq 2) aK))) (aq 4)) cj)
def m6:MS:=
 (aR jC
 (aR (tH (eV [0] (aq 0) "votes") (lN (au (aq 1) (au (aq 2) aK))) (aD sOr (bI 0 "votes_of" bH 3 [] (aq 0) (au (aq 1) (au (aq 2) aK))) (cV jX 1 [] (au (Hh (au (aq 3) aK)) aK))))
 (yg (bI 0 "reach" iC 3 [] (aq 0) (au (aq 1) (au (aq 2) aK))))))
def mD:Fn:=aU 5 m6
def gm:MS:=
 (tH (eV [0] (aq 0) "seated") (aq 2) (aq 1))
def gh:Fn:=aU 3 gm
def fV:MS:=
 (tH (eV [7] (aq 0) "lines") (aq 2) (bI 7 "row_of" cX 2 [] (aq 0) (au (aq 1) aK)))
def fM:Fn:=aU 3 fV
def mR:MS:=
 (bJ (mF (eV [7] (aq 0) "marks") (aq 1) (mC (.int 0))))
def lY:Fn:=aU 2 mR
def zb:MS:=
 (bJ (aD sEq (mSl (aq 0) Ob (Lw (aq 2))) (mSl (aq 1) Ob (Lw (aq 2)))))
def FT:Fn:=aU 3 zb
def rB:MS:=
 (bJ (mF (eV [7] (aq 0) "lines") (aq 1) (lN aK)))
def qR:Fn:=aU 2 rB
def jb:MS:=
 (aR (cP (bI 7 "mark" lY 2 [] (aq 0) (au (aq 1) aK)) (gN 3))
 (bJ (Uk (aD sEq (aq 3) (mC (.int 0))) (cV FT 3 [] (au (bI 7 "line" qR 2 [] (aq 0) (au (aq 1) aK)) (au (bI 7 "line" qR 2 [] (aq 0) (au (aq 2) aK)) (au (aq 3) aK)))))))
def iU:Fn:=aU 4 jb
def lG:MS:=
 (qe (Rj (aZ (bI 7 "is_kept" iU 3 [] (aq 0) (au (F_ Vz (au (aq 2) (au (aq 1) aK))) (au (F_ QL (au (aq 2) (au (aq 1) aK))) aK))))) (bJ (F_ QL (au (aq 2) (au (aq 1) aK)))) cj)
def gw:MS:=
 lG
def lH:MS:=
 (Nm (JB (F_ yf (au (eV [7] (aq 0) "lines") aK))) (gN 2) gw)
def fC:MS:=
 (aR lH
 (bJ (mC .non)))
def fj:Fn:=aU 3 fC
def pM:MS:=
 (qe (aZ (aD Ej (aq 2) (mC .non))) (cZ [8] (aq 0) (lN (au (mC (.str "lost")) (au (aq 2) aK))) "breach") cj)
def jc:MS:=
 (aR (cP (bI 7 "lost_behind" fj 2 [] (eV [8] (aq 0) "strides") (au (aq 1) aK)) (gN 2))
 pM)
def iV:Fn:=aU 3 jc
def fD:MS:=
 (qe (aZ (aD Ej (bI 0 "chair_of" eU 2 [] (eV [8] (aq 0) "ballots") (au (aq 2) aK)) (mC .non))) (aR (cZ [8] (aq 0) (lN (au (mC (.str "chairs")) (au (aq 2) aK))) "breach")
 Zv) cj)
def cJ:MS:=
 (aR fD
 (aR (yg (bI 0 "take_seat" gh 3 [] (eV [8] (aq 0) "ballots") (au (aq 1) (au (aq 2) aK))))
 (aR (yg (bI 7 "begin_line" fM 3 [] (eV [8] (aq 0) "strides") (au (aq 1) (au (aq 2) aK))))
 (yg (bI 8 "find_lost" iV 2 [] (aq 0) (au (aq 2) aK))))))
def cI:Fn:=aU 3 cJ
def iM:MS:=
 (qe (aZ (aD sEq (aD bN (aq 1) (mC (.int 0))) (mC (.str "chair")))) (yg (bI 8 "follow_to_chair" cI 3 [] (aq 0) (au (aq 2) (au (aq 3) aK)))) (aR (yg (bI 0 "reach" iC 3 [] (eV [8] (aq 0) "ballots") (au (aq 2) (au (aq 3) aK))))
 (aR T5
 T5)))
def iK:MS:=
 (qe (aZ (aD sEq (aD bN (aq 1) (mC (.int 0))) (mC (.str "vote")))) (yg (bI 0 "cast" mD 5 [] (eV [8] (aq 0) "ballots") (au (aq 2) (au (aq 3) (au (aD bN (aq 1) (mC (.int 3))) (au (cV yD 1 [] (au (bI 7 "row_of" cX 2 [] (eV [8] (aq 0) "strides") (au (aq 2) aK)) aK)) aK)))))) iM)
def dX:MS:=
 (aR (cP (aD bN (aq 1) (mC (.int 1))) (gN 2))
 (aR (cP (aD bN (aq 1) (mC (.int 2))) (gN 3))
 iK))
def dW:Fn:=aU 4 dX
def qW:MS:=
 (qe (Rj (aZ (bI 8 "allows" eN 2 [] (aq 0) (au (aq 1) aK)))) (sRz 2 (au (eV [8] (aq 0) "count") aK)) cj)
def qU:MS:=
 (qe (aZ (aD sIn (aD bN (aq 1) (mC (.int 0))) (mC (.m8 [(.str "vote"),(.str "chair"),(.str "told")])))) (yg (bI 8 "follow_hand" dW 2 [] (aq 0) (au (aq 1) aK))) T5)
def mW:MS:=
 (aR qW
 (aR (cZ [8] (aq 0) (aD GX (eV [8] (aq 0) "count") (mC (.int 1))) "count")
 qU))
def cB:Fn:=aU 2 mW
def sW:MS:=
 (cP (bI 8 "take" cB 2 [] (aq 0) (au (aq 1) aK)) (gN 5))
def sX:MS:=
 (aR (cP (mC (.bl true)) (gN 3))
 (cP (Al (aD sEq (ado [1,2] (aq 6)) (aq 2)) (Lx (F_ QM (au (ado [1,2] (aq 6)) (au (mC (.ty "bool")) aK))))) (gN 4)))
def tW:MS:=
 (Nk 6 [(1,false),(2,true)] sW sX)
def o7:MS:=
 (aR (cP (mC (.bl false)) (gN 3))
 (aR (cP (mC (.bl true)) (gN 4))
 (aR (cP (mC .non) (gN 5))
 (aR tW
 (bJ (lN (au (Lx (aq 3)) (au (Al (aq 4) (aD sIs (aq 5) (mC .non))) aK))))))))
def gU:Fn:=aU 7 o7
def mY:MS:=
 (bJ (eV [8] (aq 0) "breach"))
def mq:Fn:=aU 1 mY
def j8:MS:=
 (bJ (bI 0 "term_of" cQ 2 [] (eV [8] (aq 0) "ballots") (au (aq 1) aK)))
def j6:Fn:=aU 2 j8
def jJ:MS:=
 (bJ (bI 0 "votes_of" bH 3 [] (eV [8] (aq 0) "ballots") (au (aq 1) (au (aq 2) aK))))
def jx:Fn:=aU 3 jJ
def jK:MS:=
 (bJ (yE (eV [0] (aq 0) "seated")))
def jy:Fn:=aU 1 jK
def mX:MS:=
 (bJ (bI 0 "chairs" jy 1 [] (eV [8] (aq 0) "ballots") aK))
def jj:Fn:=aU 1 mX
def Ao:MS:=
 (qe (aZ (aD sNe (bI 8 "term_of" j6 2 [] (aq 0) (au (aq 3) aK)) (mF (aD bN (aq 1) (mC (.int 0))) (aq 3) (mC (.int 0))))) (bJ (mC (.bl false))) cj)
def An:MS:=
 (qe (aZ (aD sNe (bI 8 "votes_of" jx 3 [] (aq 0) (au (aq 3) (au (aq 4) aK))) (mF (aD bN (aq 1) (mC (.int 1))) (lN (au (aq 3) (au (aq 4) aK))) (mC (.int 0))))) (bJ (mC (.bl false))) cj)
def jU:MS:=
 An
def Ax:MS:=
 (ZL (aD bN (aq 1) (mC (.int 2))) (gN 4) jU)
def oh:MS:=
 (aR Ao
 Ax)
def Aw:MS:=
 (Nm (JB (aq 2)) (gN 3) oh)
def Am:MS:=
 (qe (V6 (Rj (aZ (F_ QM (au (aq 5) (au (mC (.ty "list")) aK))))) (aZ (aD sNe (aq 5) (yE (aD bN (aq 1) (mC (.int 2))))))) (bJ (mC (.bl false))) cj)
def sI:MS:=
 (aR Aw
 (aR (cP (bI 8 "chairs" jj 1 [] (aq 0) aK) (gN 5))
 (aR Am
 (aR (yg (mBM "list" C_ (aq 5) (au (lN (au (mC (.int 0)) (au (mC (.int 0)) aK))) aK)))
 (bJ (aD sEq (bI 8 "chairs" jj 1 [] (aq 0) aK) (yE (aD bN (aq 1) (mC (.int 2))))))))))
def rT:Fn:=aU 6 sI
def Ow:MS:=
 (qe (aZ (aD sEq (aq 14) (mC (.str "chair")))) (cP (cV bR 6 [] (au (aq 9) (au (aq 15) (au (aq 16) (au (aq 17) (au (aq 3) (au (aq 5) aK))))))) (gN 18)) cj)
def Ov:MS:=
 (qe (aZ (aD sNe (cV gU 3 [] (au (aq 8) (au (aq 13) (au (aq 10) aK)))) (lN (au (aq 18) (au (mC (.bl true)) aK))))) (bJ (mC (.bl false))) cj)
def Ou:MS:=
 (qe (aZ (aD sIn (aq 16) (aD bN (aq 9) (mC (.int 2))))) (cP (lN (au (mC (.str "chairs")) (au (aq 16) aK))) (gN 11)) (tH (aD bN (aq 9) (mC (.int 2))) (aq 16) (aq 15)))
def H_:MS:=
 (qe (aZ (aD sEq (aq 14) (mC (.str "vote")))) (aR (tH (aD bN (aq 9) (mC (.int 0))) (aq 15) (aq 16))
 (tH (aD bN (aq 9) (mC (.int 1))) (lN (au (aq 15) (au (aq 16) aK))) (aD sOr (mF (aD bN (aq 9) (mC (.int 1))) (lN (au (aq 15) (au (aq 16) aK))) (mC (.int 0))) (aD wR (mC (.int 1)) (aq 17))))) Ou)
def oH:MS:=
 (qe (aZ (aq 18)) (aR (cP (aD GX (aq 10) (mC (.int 1))) (gN 10))
 H_) cj)
def sy:MS:=
 (qe (V6 (aZ (aD sNe (bI 8 "broken" mq 1 [] (aq 8) aK) (aq 11))) (Rj (aZ (cV rT 3 [] (au (aq 8) (au (aq 9) (au (aq 1) aK))))))) (bJ (mC (.bl false))) cj)
def vB:MS:=
 (aR (cP (cV ji 4 [] (au (aq 9) (au (aq 12) (au (aq 1) (au (aq 7) aK))))) (gN 13))
 (aR (cP (aq 13) (gT 4 (k_ (gN 14) (k_ (gN 15) (k_ (gN 16) (k_ (gN 17) JX))))))
 (aR (cP (Al (aD sEq (aq 14) (mC (.str "vote"))) (cV eG 5 [] (au (aq 9) (au (aq 15) (au (aq 16) (au (aq 17) (au (aq 6) aK))))))) (gN 18))
 (aR Ow
 (aR (cP (Al (aq 18) (aD sIs (aq 11) (mC .non))) (gN 18))
 (aR Ov
 (aR oH
 sy)))))))
def Wm:MS:=
 (Nm (JB (mSl (aq 0) (Lw (mC (.int 3))) (Lw (mC (.int 43))))) (gN 12) vB)
def WK:MS:=
 (aR (cP (FZ [0] (FW (au (mC (.int 5)) aK)) JC (aD GX (aD gY (cV dh 2 [] (au (aq 1) (au (mC (.int 0)) aK))) (mC (.int 16))) (aD QK (mC (.int 11)) (aq 0)))) (gN 1))
 (aR (cP (aD m9 (cV dh 2 [] (au (aq 0) (au (mC (.int 0)) aK))) (mC (.int 16))) (gN 2))
 (aR (cP (F_ Xa (au (FZ [1,2] (FW (au (mC (.int 5)) aK)) JC (aD wR (aD vM (aD Bm (aD GX (mC (.int 1)) (aD gY (aq 2) (mC (.int 31)))) (aq 0)) (mC (.int 1))) (aD bN (aq 1) (aq 0)))) aK)) (gN 3))
 (aR (cP (cV dh 2 [] (au (aq 0) (au (mC (.int 1)) aK))) (gN 4))
 (aR (cP (F_ ZK (au (Al (aD GR (aD gY (aq 4) (mC (.int 4))) (mC (.int 1))) (aD sEq (aD gY (aD m9 (aq 4) (mC (.int 4))) (mC (.int 2))) (mC (.int 1)))) aK)) (gN 5))
 (aR (cP (Uk (aD sLt (aD gY (aq 4) (mC (.int 4))) (mC (.int 2))) (aD sEq (aD gY (aD m9 (aD m9 (aq 4) (mC (.int 4))) (mC (.int 2))) (mC (.int 2))) (mC (.int 0)))) (gN 6))
 (aR (cP (aD gY (cV dh 2 [] (au (aq 0) (au (mC (.int 2)) aK))) (aD Zx (mC (.int 10)) (mC (.int 40)))) (gN 7))
 (aR (cP (cV lF 2 [] (au (aq 3) (au (aq 4) aK))) (gN 8))
 (aR (cP (lN (au oZ (au oZ (au oZ aK)))) (gN 9))
 (aR (cP (mC (.int 0)) (gN 10))
 (aR (cP (mC .non) (gN 11))
 (aR Wm
 (bJ (mC (.bl true)))))))))))))))
def aaH:Fn:=aU 19 WK
def Gr(M M':Mem):Prop:=∀(i:Nat) (o:MO),M[i]? = some o->M'[i]? = some o
theorem Gr.trans{M M1 M2:Mem}(a:Gr M M1)(b:Gr M1 M2):Gr M M2:=λi o h=>b i o (a i o h)
theorem Gr.app{M:Mem}{xs:List MO}:Gr M (M++xs):=λi o h=>by
 rw[zag (List.getElem?_eq_some_iff.mp h).1];exact h
theorem yF{M:Mem}{i:Nat}{o:MO}(h:M[i]? = some o):i<M.length:=(List.getElem?_eq_some_iff.mp h).1
theorem cA{M:Mem}{o:MO}:(M++[o])[M.length]? = some o:=by simp
theorem RX{src:Option (Nat×List D)}{tt:MT}{te:ME}{ce:Sl}{M:Mem}(q:D->Bool)(f:D->D){ds:List D}(hs:jZ src M)(ht:∀d∈ds,tt (some d::ce) M= .ok (q d) M)(hf:∀d∈ds,te (some d::ce) M= .ok (f d) M):
  rm src tt te ce ds [] M= .ok (.ref M.length) (M++[.lst ((ds.filter q).map f)]):=by
 have key:∀(ds ys:List D),(∀d∈ds,tt (some d::ce) M= .ok (q d) M)->(∀d∈ds,te (some d::ce) M= .ok (f d) M)->rm src tt te ce ds ys M= .ok (.ref M.length) (M++[.lst (ys++(ds.filter q).map f)]):=by
  intro ds
  induction ds with
  | nil=>intro ys _ _;unfold rm;rw[if_pos hs];simp
  | cons d r ih=>
   intro ys h1 h2
   unfold rm
   rw[if_pos hs,h1 d xB]
   show(Out.ok _ _).bind _=_
   rw[Out.cN]
   cases z:q d with
   | false=>
    simp only[Bool.false_eq_true,if_false]
    rw[ih _ (λx hx=>h1 x (yT _ hx)) λx hx=>h2 x (yT _ hx),List.filter_cons,z]
    simp
   | true=>
    simp only[if_true]
    rw[h2 d xB]
    show(Out.ok _ _).bind _=_
    rw[Out.cN,ih _ (λx hx=>h1 x (yT _ hx)) λx hx=>h2 x (yT _ hx),List.filter_cons,z]
    simp
 have:=key ds [] ht hf
 simpa using this
def hv(hs:List Nat):List D:=hs.map λ(h:Nat)=>D.int (h:Int)
theorem T8(n:Nat)(p:Nat->Bool)(q:D->Bool)(h:∀i,i<n->q (.int (0+(i:Int)))=p i):((zY 0 n).filter q).map (λd=>d)=hv ((List.range n).filter p):=by
 unfold zY hv
 rw[List.map_id',List.filter_map]
 have:(List.range n).filter (q∘λ(k:Nat)=>D.int (0+(k:Int)))=(List.range n).filter p:=by
  refine List.filter_congr λi hi=> ?_
  exact h i (List.mem_range.mp hi)
 rw[this]
 refine List.map_congr_left λi _=> ?_
 show D.int (0+(i:Int))=D.int (i:Int)
 rw[Int.zero_add]
theorem zA{M:Mem}{i j:Int}(h:0<=j/\j<=1000000/\i.natAbs<2 ^ 64):wR (.int i) (.int j) M= .ok (.int (i*2 ^ j.toNat)) M:=by
 unfold wR;rw[Ew,if_pos (by unfold Ym;exact zai h)]
theorem Vu{M:Mem}{i j:Int}(h:0<=j):Bm (.int i) (.int j) M= .ok (.int (i / 2 ^ j.toNat)) M:=by
 unfold Bm;rw[Ew,if_pos (by unfold ajz;exact zai h)]
theorem ag8(n i:Nat):(!decide (Builtin.bitAnd (n:Int) (1*2 ^ (0+(i:Int)).toNat)=0))=n.testBit i:=by
 have e1:Builtin.bitAnd (n:Int) (1*2 ^ (0+(i:Int)).toNat)=((n &&& 2 ^ i:Nat):Int):=by
  rw[Int.zero_add,zap,HM.V1,HM.uR]
 rw[e1]
 have q:=HM.J5 n i
 cases z:n.testBit i with
 | true=>
  have q':=q.mpr z
  simp only[Bool.not_eq_true',decide_eq_false_iff_not]
  omega
 | false=>
  have q':¬(n &&& 2 ^ i≠0):=λr=>by rw[q.mp r]at z;cases z
  simp only[Bool.not_eq_false',decide_eq_true_eq]
  omega
theorem acq(n i:Nat):decide (Builtin.bitAnd ((n:Int) / 2 ^ (0+(i:Int)).toNat) 1=1)=n.testBit i:=by
 have e1:Builtin.bitAnd ((n:Int) / 2 ^ (0+(i:Int)).toNat) 1=((n / 2 ^ i &&& 1:Nat):Int):=by
  have:((n:Int) / 2 ^ (0+(i:Int)).toNat)=((n / 2 ^ i:Nat):Int):=by
   rw[Int.zero_add,zap]
   simp
  rw[this]
  exact HM.uR _ 1
 rw[e1]
 have q:=HM.QD n i
 cases z:n.testBit i with
 | true=>
  have q':=q.mpr z
  simp only[decide_eq_true_eq]
  omega
 | false=>
  have q':¬(n / 2 ^ i &&& 1=1):=λr=>by rw[q.mp r]at z;cases z
  simp only[decide_eq_false_iff_not]
  omega
def qB(f:Int->Bool)(d:D):Bool:=match d with
 | .int j=>f j
 | _=>false
theorem N_{lo:Int}{n:Nat}{d:D}(h:d∈zY lo n):∃i:Nat,i<n/\d= .int (lo+i):=by
 obtain⟨i,hi⟩:=List.getElem?_of_mem h
 exact⟨i,(HB hi).1,(HB hi).2⟩
theorem Gh{M:Mem}(n:Nat)(hn:n<2 ^ 60):qQ [.int n] M= .ok (.ref M.length) (M++[.lst (hv (HM.fu n))]):=by
 have hz:=HM.intBits_le n hn
 have e1:Ky [.int (Builtin.Int.intBits n:Nat)] M= .ok ⟨none,zY 0 (Builtin.Int.intBits n)⟩ M:=by
  have:=Dc (M:=M) (j:=(Builtin.Int.intBits n:Nat)) (by omega) (by omega)
  simpa using this
 have e2:=RX (src:=none) (tt:=aZ (aD sNe (aD vM (aq 1) (aD wR (mC (.int 1)) (aq 0))) (mC (.int 0)))) (te:=aq 0) (ce:=[some (.int n)]) (M:=M) (qB λj=> !decide (Builtin.bitAnd (n:Int) (1*2 ^ j.toNat)=0)) (λd=>d) (ds:=zY 0 (Builtin.Int.intBits n)) trivial
  (λd hd=>by
   obtain⟨i,hi,rfl⟩:=N_ hd
   have:wR (.int 1) (.int (0+(i:Int))) M= .ok (.int (1*2 ^ (0+(i:Int)).toNat)) M:=zA ⟨by omega,by omega,by decide⟩
   simp only[Ri,Oc,aiS,aeB,aeD,Out.cN,this,ZP,acz,ag6,qB])
  (λd hd=>aeB)
 have e3:=T8 (Builtin.Int.intBits n) (λh=>n.testBit h) (qB λj=> !decide (Builtin.bitAnd (n:Int) (1*2 ^ j.toNat)=0)) (λi _=>ag8 n i)
 rw[HM.OD n hn]at e3
 rw[e3]at e2
 simp only[qQ,wD]
 simp[Aa,e1,e2]
theorem V5{M:Mem}(n:Nat)(hn:n<2 ^ 60):∃M',Et [.int n] M= .ok (.int (HM.cnt n:Nat)) M'/\Gr M M':=by
 refine⟨M++[.lst (hv (HM.fu n))],?_,Gr.app⟩
 simp only[Et,Pz]
 simp[Gh n hn,Je cA,hv,HM.cnt]
def yZ(S p:Nat)(h:Bool):Bool:=if h then decide (HM.cnt p<=2*HM.cnt (S &&& p))else decide (HM.cnt p<2*HM.cnt (S &&& p))
theorem ag9{S p:Nat}(hp:p<2 ^ 60):S &&& p<2 ^ 60:=Nat.lt_of_le_of_lt Nat.and_le_right hp
theorem agd{M:Mem}{j:Int}:QK (.int 2) (.int j) M= .ok (.int (2*j)) M:=QJ (.inl (by omega))
theorem J2{M:Mem}(S p:Nat)(h:Bool)(hp:p<2 ^ 60):∃M',uL [.int S,.int p,.bl h] M= .ok (.bl (yZ S p h)) M'/\Gr M M':=by
 obtain⟨M1,e1,g1⟩:=V5 (M:=M) (S &&& p) (ag9 hp)
 obtain⟨M2,e2,g2⟩:=V5 (M:=M1) p hp
 refine⟨M2,?_,g1.trans g2⟩
 have ea:Builtin.bitAnd (S:Int) (p:Int)=((S &&& p:Nat):Int):=HM.uR S p
 simp only[uL,lM,Gg]
 cases h with
 | true=>
  simp[ea,e1,agd,e2,yZ]
  omega
 | false=>
  simp[ea,e1,agd,e2,yZ]
  omega
theorem ab1{M:Mem}(S p q:Nat)(h:Bool)(hp:p<2 ^ 60)(hq:q<2 ^ 60):∃M',Es [.tup [.int p,.int q],.int S,.bl h] M= .ok (.bl (yZ S p h&&(decide (q=0)||yZ S q h))) M'/\Gr M M':=by
 obtain⟨M1,e1,g1⟩:=J2 (M:=M) S p h hp
 cases z:yZ S p h with
 | false=>
  rw[z]at e1
  exact⟨M1,by simp[Es,wB,Dm,e1],g1⟩
 | true=>
  rw[z]at e1
  by_cases hq0:q=0
  ·subst hq0
   exact⟨M1,by simp[Es,wB,Dm,e1],g1⟩
  ·obtain⟨M2,e2,g2⟩:=J2 (M:=M1) S q h hq
   exact⟨M2,by simp[Es,wB,Dm,e1,hq0,e2],g1.trans g2⟩
def Ch(p:Nat->Prop)(M M':Mem):Prop:=M.length<=M'.length/\∀(i:Nat) (o:MO),¬p i->M[i]? = some o->M'[i]? = some o
theorem Ch.refl{p:Nat->Prop}{M:Mem}:Ch p M M:=⟨zad _,λ_ _ _ h=>h⟩
theorem Ch.trans{p:Nat->Prop}{M M1 M2:Mem}(a:Ch p M M1)(b:Ch p M1 M2):Ch p M M2:=⟨yY a.1 b.1,λi o n h=>b.2 i o n (a.2 i o n h)⟩
theorem Ch.mono{p q:Nat->Prop}{M M1:Mem}(a:Ch p M M1)(h:∀i,i<M.length->p i->q i):Ch q M M1:=⟨a.1,λi o n e=>a.2 i o (λz=>n (h i (yF e) z)) e⟩
theorem Gr.le{M M':Mem}(h:Gr M M'):M.length<=M'.length:=by
 by_cases z:M.length=0
 ·omega
 ·have:=yF (h (M.length - 1) _ (zae (by omega)))
  omega
theorem Gr.ch{p:Nat->Prop}{M M':Mem}(h:Gr M M'):Ch p M M':=⟨h.le,λi o _ e=>h i o e⟩
theorem Ch.set{p:Nat->Prop}{M:Mem}{n:Nat}{o:MO}(h:p n):Ch p M (M.set n o):=⟨by simp,λi x z e=>by
 by_cases q:i=n
 ·subst q;exact absurd h z
 ·rw[zam (Ne.symm q)];exact e⟩
theorem ju{M:Mem}{n:Nat}{o o':MO}(h:M[n]? = some o'):(M.set n o)[n]? = some o:=by
 rw[zan (yF h)]
theorem qp{M:Mem}{n m:Nat}{o x:MO}(h:M[n]? = some x)(hn:n≠m):(M.set m o)[n]? = some x:=by
 rw[zam (Ne.symm hn)];exact h
section
variable{κ α:Type}[DecidableEq κ]
noncomputable def gv(l:List (κ×α))(k:κ):Option α:=(l.find? λp=>decide (p.1=k)).map (·.2)
noncomputable def gp(l:List (κ×α))(k:κ)(x:α):List (κ×α):=if(l.any λp=>decide (p.1=k))=true then l.map (λp=>if p.1=k then(p.1,x)else p)else l++[(k,x)]
@[simp] theorem alQ{k:κ}:gv ([]:List (κ×α)) k=none:=rfl
theorem sE{p:κ×α}{l:List (κ×α)}{k:κ}:gv (p::l) k=if p.1=k then some p.2 else gv l k:=by
 by_cases h:p.1=k<;>simp[gv,h]
theorem ag7{l:List (κ×α)}{k:κ}:(l.any λp=>decide (p.1=k))=(gv l k).isSome:=by
 induction l with
 | nil=>rfl
 | cons p l ih=>rw[List.any_cons,ih,sE];by_cases h:p.1=k<;>simp[h]
theorem agx{l:List (κ×α)}{k k':κ}{i:α}:gv (l.map (λp=>if p.1=k then(p.1,i)else p)) k'=if k'=k then(gv l k).map λ_=>i else gv l k':=by
 induction l with
 | nil=>simp
 | cons p l ih=>
  rw[List.map_cons,sE,sE,sE,ih]
  by_cases h:p.1=k
  ·by_cases h':k'=k
   ·subst h';simp[h]
   ·simp[h,h',Ne.symm h',λz:k=k'=>h' z.symm]
  ·by_cases h':k'=k
   ·subst h';simp[h]
   ·simp[h,h']
theorem agy{l:List (κ×α)}{k k':κ}{i:α}:gv (l++[(k,i)]) k'=(gv l k').or (if k=k' then some i else none):=by
 induction l with
 | nil=>simp[sE]
 | cons p l ih=>rw[List.cons_append,sE,sE,ih];by_cases h:p.1=k'<;>simp[h]
theorem aa7{l:List (κ×α)}{k k':κ}{i:α}:gv (gp l k i) k'=if k'=k then some i else gv l k':=by
 unfold gp
 rw[ag7]
 split
 ·rename_i h
  rw[agx]
  obtain⟨j,hj⟩:=Option.isSome_iff_exists.mp h
  simp[hj]
 ·rename_i h
  rw[agy]
  by_cases z:k'=k
  ·subst z
   rw[Option.not_isSome_iff_eq_none.mp h];simp
  ·rw[if_neg (λq:k=k'=>z q.symm),if_neg z];simp
theorem Ey{l:List (κ×α)}{k:κ}{i:α}:(gp l k i).length<=l.length+1:=by
 unfold gp
 split<;>simp
variable{κ':Type}[DecidableEq κ']
def ge(f:κ->κ')(g:α->D)(l:List (κ×α)):List (κ'×D):=l.map λp=>(f p.1,g p.2)
theorem O1{f:κ->κ'}{g:α->D}(hf:∀a b,f a=f b->a=b){l:List (κ×α)}{k:κ}:uz (ge f g l) (f k)=(gv l k).map g:=by
 induction l with
 | nil=>rfl
 | cons p l ih=>
  rw[sE]
  have e:ge f g (p::l)=(f p.1,g p.2)::ge f g l:=rfl
  rw[e]
  by_cases h:p.1=k
  ·subst h;simp[uz]
  ·have:f p.1≠f k:=λz=>h (hf _ _ z)
   have e2:uz ((f p.1,g p.2)::ge f g l) (f k)=uz (ge f g l) (f k):=by simp[uz,this]
   rw[e2,ih];simp[h]
theorem Uz{f:κ->κ'}{g:α->D}(hf:∀a b,f a=f b->a=b){l:List (κ×α)}{k:κ}{i:α}:Xi (ge f g l) (f k) (g i)=ge f g (gp l k i):=by
 have e:((ge f g l).any λkv=>decide (kv.1=f k))=(l.any λp=>decide (p.1=k)):=by
  unfold ge
  rw[List.any_map]
  congr 1
  funext p
  have:(f p.1=f k)=(p.1=k):=propext ⟨hf _ _,λz=>by rw[z]⟩
  simp[this]
 unfold Xi gp
 rw[e]
 split
 ·unfold ge
  rw[List.map_map,List.map_map]
  congr 1
  funext p
  by_cases h:p.1=k
  ·simp[h]
  ·have:f p.1≠f k:=λz=>h (hf _ _ z)
   simp[h,this]
 ·unfold ge
  simp
@[simp] theorem O2{f:κ->κ'}{g:α->D}{l:List (κ×α)}:(ge f g l).length=l.length:=by simp[ge]
end
def kN(h:Nat):Key:= .inl (h:Int)
def kI(t:Int):Key:= .inl t
def kP(p:Nat×Int):List Key:=[.inl (p.1:Int),.inl p.2]
def kQ(p:Int×Nat):List Key:=[.inl p.1,.inl (p.2:Int)]
theorem aaW(a b:Nat)(h:kN a=kN b):a=b:=by
 have:(a:Int)=(b:Int):=by simpa[kN]using h
 omega
theorem Uq(a b:Int)(h:kI a=kI b):a=b:=by simpa[kI]using h
theorem aaV(a b:Nat×Int)(h:kP a=kP b):a=b:=by
 obtain⟨a1,a2⟩:=a
 obtain⟨b1,b2⟩:=b
 simp[kP]at h
 have:a1=b1:=by omega
 simp[h,this]
def nD(n:Nat):D:= .int (n:Int)
def eD(e:Int×Nat):D:= .tup [.int e.1,.int (e.2:Int)]
def Kp(M:Mem)(n:Nat)(kvs:List (List Key×D)):Prop:=M[n]? = some (.dt kvs)\/M[n]? = some (.dk [])/\kvs=[]
theorem Kp.ch{p:Nat->Prop}{M M':Mem}{n:Nat}{kvs:List (List Key×D)}(h:Kp M n kvs)(c:Ch p M M')(hn:¬p n):Kp M' n kvs:=h.imp (c.2 _ _ hn) λz=>⟨c.2 _ _ hn z.1,z.2⟩
theorem Kp.dic{M:Mem}{n:Nat}{kvs:List (List Key×D)}(h:Kp M n kvs):qT (.ref n) M=true:=by
 rcases h with h | h
 ·exact adA h
 ·exact oA h.1
theorem Kp.some{M:Mem}{n:Nat}{kvs:List (List Key×D)}(h:Kp M n kvs):∃o,M[n]? = some o:=by
 rcases h with h | h
 ·exact⟨_,h⟩
 ·exact⟨_,h.1⟩
section
variable{M:Mem}{n:Nat}{α:Type}{g:α->D}
theorem Ir{p:Nat×Int}:toKeys [.int (p.1:Int),.int p.2]=some (kP p):=rfl
theorem ah_{κ:Type}[DecidableEq κ]{f:κ->List Key}(hf:∀a b,f a=f b->a=b){l:List (κ×α)}{ds:List D}{k:κ}(h:Kp M n (ge f g l))(hk:toKeys ds=some (f k)):
  ∃M',BR M n (.tup ds)=some ((gv l k).map g,M')/\Kp M' n (ge f g l)/\Ch (· = n) M M':=by
 rcases h with h | ⟨h,e⟩
 ·exact⟨M,by rw[agM h hk,O1 hf],.inl h,Ch.refl⟩
 ·have e':l=[]:=by cases l with
   | nil=>rfl
   | cons _ _=>simp[ge]at e
  subst e'
  exact⟨_,by rw[agN h hk];rfl,.inl (ju h),Ch.set rfl⟩
theorem OJ{n:Nat}{k x:D}{o:Option D}{M M':Mem}(h:BR M n k=Option.some (o,M')):z9 (.ref n) k x M= .ok (o.getD x) M':=by
 simp only[z9,h]
 cases o<;>rfl
theorem aa9{l:List ((Nat×Int)×α)}(h:Kp M n (ge kP g l))(p:Nat×Int)(x:D):
  ∃M',z9 (.ref n) (.tup [.int (p.1:Int),.int p.2]) x M= .ok (((gv l p).map g).getD x) M'/\Kp M' n (ge kP g l)/\Ch (· = n) M M':=by
 obtain⟨M',e,t,c⟩:=ah_ aaV h (Ir (p:=p))
 exact⟨M',OJ e,t,c⟩
theorem Z4{l:List ((Nat×Int)×α)}(h:Kp M n (ge kP g l))(p:Nat×Int)(x:α)(hl:l.length<=1000):Dr M (.ref n) (.tup [.int (p.1:Int),.int p.2]) (g x)=some (M.set n (.dt (ge kP g (gp l p x)))):=by
 have hz:(ge kP g l).length<sizeLine:=by
  rw[O2]
  have:1000<sizeLine:=by decide
  omega
 rcases h with h | ⟨h,e⟩
 ·simp only[Dr,h,Ir,if_pos hz,<-Uz aaV]
 ·have e':l=[]:=by cases l with
   | nil=>rfl
   | cons _ _=>simp[ge]at e
  subst e'
  simp only[Dr,h,Ir,toKey]
  rfl
theorem aa_{l:List (Nat×α)}(h:M[n]? = some (.dk (ge kN g l)))(k:Nat)(x:D):z9 (.ref n) (.int (k:Int)) x M= .ok (((gv l k).map g).getD x) M:=
 OJ (by rw[UW h];show some (uz (ge kN g l) (kN k),M)=_;rw[O1 aaW])
theorem abb{l:List (Int×α)}(h:M[n]? = some (.dk (ge kI g l)))(k:Int)(x:D):z9 (.ref n) (.int k) x M= .ok (((gv l k).map g).getD x) M:=
 OJ (by rw[UW h];show some (uz (ge kI g l) (kI k),M)=_;rw[O1 Uq])
theorem aev{l:List (Nat×α)}(h:M[n]? = some (.dk (ge kN g l)))(k:Nat)(x:α)(hl:l.length<=1000):Dr M (.ref n) (.int (k:Int)) (g x)=some (M.set n (.dk (ge kN g (gp l k x)))):=by
 have hz:(ge kN g l).length<sizeLine:=by
  rw[O2]
  have:1000<sizeLine:=by decide
  omega
 simp only[Dr,h,toKey,if_pos hz]
 rw[<-Uz aaW]
 rfl
theorem Z5{l:List (Int×α)}(h:M[n]? = some (.dk (ge kI g l)))(k:Int)(x:α)(hl:l.length<=1000):Dr M (.ref n) (.int k) (g x)=some (M.set n (.dk (ge kI g (gp l k x)))):=by
 have hz:(ge kI g l).length<sizeLine:=by
  rw[O2]
  have:1000<sizeLine:=by decide
  omega
 simp only[Dr,h,toKey,if_pos hz]
 rw[<-Uz Uq]
 rfl
theorem alA{l:List (Int×α)}(h:M[n]? = some (.dk (ge kI g l)))(k:Int):sIn (.int k) (.ref n) M= .ok (.bl (gv l k).isSome) M:=by
 refine rP ?_
 have:BR M n (.int k)=some ((gv l k).map g,M):=by rw[UW h];show some (uz (ge kI g l) (kI k),M)=_;rw[O1 Uq]
 simp only[T4,this]
 simp
end
inductive Wh where
 | st
 | ask (w n:Int) (o:D)
 | rol (a b:Nat)
noncomputable def Wh.d:Wh->D
 | .st=> .tup [.str "start"]
 | .ask w n o=> .tup [.str "ask",.int w,.int n,o]
 | .rol a b=> .tup [.str "roll",.int (a:Int),.int (b:Int)]
abbrev En:=Int×Wh
def enD(e:En):D:= .tup [.int e.1,e.2.d]
def esD(es:List En):D:= .tup (es.map enD)
set_option genInjectivity false in
structure BA where
 b:Nat
 rl:Nat
 bl:Nat
 tm:Nat
 vt:Nat
 ak:Nat
 se:Nat
 sd:Nat
 ro:Nat
 ln:Nat
 mr:Nat
 pl:Nat
 rp:Nat
 bt:Nat
 hd:Nat
 lk:Nat
 sn:Nat
set_option genInjectivity false in
structure BO where
 S:Nat
 r1:Bool
 r2:Bool
 r3:Bool
 r4:Bool
 cnt:Nat
 br:D
 tm:List (Nat×Int)
 vt:List ((Nat×Int)×Nat)
 ak:List ((Nat×Int)×(Int×Nat))
 se:List (Int×Nat)
 ro:List (Nat×List En)
 ln:List (Int×List En)
 mr:List (Int×Nat)
 pl:List ((Nat×Int)×Nat)
 bt:List (Int×Nat)
 hd:List ((Nat×Int)×Nat)
 lk:List ((Int×Nat)×D)
 sn:List ((Int×Nat)×Bool)
def tK(a b c d:Bool):MO:= .ins 6 [("once",.bl a),("best",.bl b),("own",.bl c),("most",.bl d)]
noncomputable def J4(a:BA)(S cnt:Nat)(br:D):MO:= .ins 8 [("first",.int (S:Int)),("rules",.ref a.rl),("ballots",.ref a.bl),("strides",.ref a.sd),("replies",.ref a.rp),("count",.int (cnt:Int)),("breach",br)]
noncomputable def ajy(a:BA):MO:= .ins 0 [("rules",.ref a.rl),("terms",.ref a.tm),("votes",.ref a.vt),("askings",.ref a.ak),("seated",.ref a.se)]
noncomputable def ak6(a:BA)(S:Nat):MO:= .ins 7 [("first_roll",.tup [.int (S:Int),.int 0]),("rules",.ref a.rl),("rows",.ref a.ro),("lines",.ref a.ln),("marks",.ref a.mr),("places",.ref a.pl)]
def ala(a:BA):MO:= .ins 5 [("beats",.ref a.bt),("heard",.ref a.hd),("looks",.ref a.lk),("seen",.ref a.sn)]
def Oo(a:BA):Prop:=a.b<a.rl/\a.rl<a.bl/\a.bl<a.tm/\a.tm<a.vt/\a.vt<a.ak/\a.ak<a.se/\a.se<a.sd/\a.sd<a.ro/\a.ro<a.ln/\a.ln<a.mr/\a.mr<a.pl/\a.pl<a.rp/\a.rp<a.bt/\a.bt<a.hd/\a.hd<a.lk/\a.lk<a.sn
structure dg(M:Mem)(a:BA)(s:BO):Prop where
 b:M[a.b]? = some (J4 a s.S s.cnt s.br)
 rl:M[a.rl]? = some (tK s.r1 s.r2 s.r3 s.r4)
 bl:M[a.bl]? = some (ajy a)
 tm:M[a.tm]? = some (.dk (ge kN D.int s.tm))
 vt:Kp M a.vt (ge kP nD s.vt)
 ak:Kp M a.ak (ge kP eD s.ak)
 se:M[a.se]? = some (.dk (ge kI nD s.se))
 sd:M[a.sd]? = some (ak6 a s.S)
 ro:M[a.ro]? = some (.dk (ge kN esD s.ro))
 ln:M[a.ln]? = some (.dk (ge kI esD s.ln))
 mr:M[a.mr]? = some (.dk (ge kI nD s.mr))
 pl:Kp M a.pl (ge kP nD s.pl)
 rp:M[a.rp]? = some (ala a)
 bt:M[a.bt]? = some (.dk (ge kI nD s.bt))
 hd:Kp M a.hd (ge kP nD s.hd)
 lk:Kp M a.lk (ge kQ id s.lk)
 sn:Kp M a.sn (ge kQ D.bl s.sn)
 o:a.b<a.rl/\a.rl<a.bl/\a.bl<a.tm/\a.tm<a.vt/\a.vt<a.ak/\a.ak<a.se/\a.se<a.sd/\a.sd<a.ro/\a.ro<a.ln/\a.ln<a.mr/\a.mr<a.pl/\a.pl<a.rp/\a.rp<a.bt/\a.bt<a.hd/\a.hd<a.lk/\a.lk<a.sn
def Rg(a:BA):Nat->Prop:=λi=>a.b<=i/\i<=a.sn
theorem zL{fs:List (Str×D)}{m:Str}(h:(fs.map (·.1)).contains m=false):fs.lookup m=none:=by
 induction fs with
 | nil=>rfl
 | cons p l ih=>
  rw[List.map_cons,List.contains_cons,Bool.or_eq_false_iff]at h
  rw[List.lookup_cons,h.1]
  exact ih h.2
section
variable{M M':Mem}{a:BA}{s:BO}
noncomputable def ad(a:BA)(i:Nat):Nat:=[a.b,a.rl,a.bl,a.tm,a.vt,a.ak,a.se,a.sd,a.ro,a.ln,a.mr,a.pl,a.rp,a.bt,a.hd,a.lk,a.sn].getD i 0
theorem ajB(o:Oo a):∀i,i<16->ad a i<ad a (i+1)
 | 0,_=>o.1
 | 1,_=>o.2.1
 | 2,_=>o.2.2.1
 | 3,_=>o.2.2.2.1
 | 4,_=>o.2.2.2.2.1
 | 5,_=>o.2.2.2.2.2.1
 | 6,_=>o.2.2.2.2.2.2.1
 | 7,_=>o.2.2.2.2.2.2.2.1
 | 8,_=>o.2.2.2.2.2.2.2.2.1
 | 9,_=>o.2.2.2.2.2.2.2.2.2.1
 | 10,_=>o.2.2.2.2.2.2.2.2.2.2.1
 | 11,_=>o.2.2.2.2.2.2.2.2.2.2.2.1
 | 12,_=>o.2.2.2.2.2.2.2.2.2.2.2.2.1
 | 13,_=>o.2.2.2.2.2.2.2.2.2.2.2.2.2.1
 | 14,_=>o.2.2.2.2.2.2.2.2.2.2.2.2.2.2.1
 | 15,_=>o.2.2.2.2.2.2.2.2.2.2.2.2.2.2.2
 | n+16,h=>absurd h (Nat.not_lt.mpr (Nat.le_add_left 16 n))
theorem Su(o:Oo a):∀j i,i<j->j<=16->ad a i<ad a j
 | 0,_,h,_=>absurd h (Nat.not_lt_zero _)
 | j+1,i,h,k=>by
  rcases Nat.lt_or_eq_of_le (Nat.le_of_lt_succ h)with z | z
  ·exact Nat.lt_trans (Su o j i z (Nat.le_of_lt k)) (ajB o j k)
  ·subst z;exact ajB o _ k
theorem Mq(o:Oo a)(i j:Nat)(h:(decide (i≠j)&&(decide (i<=16)&&decide (j<=16)))=true):ad a i≠ad a j:=by
 simp only[Bool.and_eq_true,decide_eq_true_eq]at h
 rcases Nat.lt_or_gt_of_ne h.1 with z | z
 ·exact xD (Su o j i z h.2.2)
 ·exact xS (Su o i j z h.2.1)
theorem uU(o:Oo a)(i:Nat)(h:decide (i<=16)=true):Rg a (ad a i):=by
 have h:=zaj h
 constructor
 ·cases i with
  | zero=>exact zad _
  | succ n=>exact Nat.le_of_lt (Su o (n+1) 0 (Nat.succ_pos n) h)
 ·rcases Nat.lt_or_eq_of_le h with z | z
  ·exact Nat.le_of_lt (Su o 16 i z (zad _))
  ·subst z;exact zad _
theorem dg.ch{p:Nat->Prop}(h:dg M a s)(c:Ch p M M')(hp:∀i,a.b<=i->i<=a.sn->¬p i):dg M' a s:=by
 have o:=h.o
 have r:=λi=> @uU a o i
 exact⟨c.2 _ _ (hp _ (r 0 rfl).1 (r 0 rfl).2) h.b,c.2 _ _ (hp _ (r 1 rfl).1 (r 1 rfl).2) h.rl,c.2 _ _ (hp _ (r 2 rfl).1 (r 2 rfl).2) h.bl,c.2 _ _ (hp _ (r 3 rfl).1 (r 3 rfl).2) h.tm,h.vt.ch c (hp _ (r 4 rfl).1 (r 4 rfl).2),h.ak.ch c (hp _ (r 5 rfl).1 (r 5 rfl).2),c.2 _ _ (hp _ (r 6 rfl).1 (r 6 rfl).2) h.se,c.2 _ _ (hp _ (r 7 rfl).1 (r 7 rfl).2) h.sd,c.2 _ _ (hp _ (r 8 rfl).1 (r 8 rfl).2) h.ro,c.2 _ _ (hp _ (r 9 rfl).1 (r 9 rfl).2) h.ln,c.2 _ _ (hp _ (r 10 rfl).1 (r 10 rfl).2) h.mr,h.pl.ch c (hp _ (r 11 rfl).1 (r 11 rfl).2),c.2 _ _ (hp _ (r 12 rfl).1 (r 12 rfl).2) h.rp,c.2 _ _ (hp _ (r 13 rfl).1 (r 13 rfl).2) h.bt,h.hd.ch c (hp _ (r 14 rfl).1 (r 14 rfl).2),h.lk.ch c (hp _ (r 15 rfl).1 (r 15 rfl).2),h.sn.ch c (hp _ (r 16 rfl).1 (r 16 rfl).2),o⟩
theorem dg.u_b(h:dg M a s)(c:Ch (· = a.b) M M'){m:Nat}{d:D}(e:M'[a.b]? = some (J4 a s.S m d)):dg M' a {s with cnt:=m,br:=d}:=by
 have o:=h.o
 have n:=λi=> @Mq a o i 0
 exact⟨e,c.2 _ _ (n 1 rfl) h.rl,c.2 _ _ (n 2 rfl) h.bl,c.2 _ _ (n 3 rfl) h.tm,h.vt.ch c (n 4 rfl),h.ak.ch c (n 5 rfl),c.2 _ _ (n 6 rfl) h.se,c.2 _ _ (n 7 rfl) h.sd,c.2 _ _ (n 8 rfl) h.ro,c.2 _ _ (n 9 rfl) h.ln,c.2 _ _ (n 10 rfl) h.mr,h.pl.ch c (n 11 rfl),c.2 _ _ (n 12 rfl) h.rp,c.2 _ _ (n 13 rfl) h.bt,h.hd.ch c (n 14 rfl),h.lk.ch c (n 15 rfl),h.sn.ch c (n 16 rfl),o⟩
theorem dg.akM(h:dg M a s)(c:Ch (· = a.tm) M M'){l:List (Nat×Int)}(e:M'[a.tm]? = some (.dk (ge kN D.int l))):dg M' a {s with tm:=l}:=by
 have o:=h.o
 have n:=λi=> @Mq a o i 3
 exact⟨c.2 _ _ (n 0 rfl) h.b,c.2 _ _ (n 1 rfl) h.rl,c.2 _ _ (n 2 rfl) h.bl,e,h.vt.ch c (n 4 rfl),h.ak.ch c (n 5 rfl),c.2 _ _ (n 6 rfl) h.se,c.2 _ _ (n 7 rfl) h.sd,c.2 _ _ (n 8 rfl) h.ro,c.2 _ _ (n 9 rfl) h.ln,c.2 _ _ (n 10 rfl) h.mr,h.pl.ch c (n 11 rfl),c.2 _ _ (n 12 rfl) h.rp,c.2 _ _ (n 13 rfl) h.bt,h.hd.ch c (n 14 rfl),h.lk.ch c (n 15 rfl),h.sn.ch c (n 16 rfl),o⟩
theorem dg.ahS(h:dg M a s)(c:Ch (· = a.vt) M M'){l:List ((Nat×Int)×Nat)}(e:Kp M' a.vt (ge kP nD l)):dg M' a {s with vt:=l}:=by
 have o:=h.o
 have n:=λi=> @Mq a o i 4
 exact⟨c.2 _ _ (n 0 rfl) h.b,c.2 _ _ (n 1 rfl) h.rl,c.2 _ _ (n 2 rfl) h.bl,c.2 _ _ (n 3 rfl) h.tm,e,h.ak.ch c (n 5 rfl),c.2 _ _ (n 6 rfl) h.se,c.2 _ _ (n 7 rfl) h.sd,c.2 _ _ (n 8 rfl) h.ro,c.2 _ _ (n 9 rfl) h.ln,c.2 _ _ (n 10 rfl) h.mr,h.pl.ch c (n 11 rfl),c.2 _ _ (n 12 rfl) h.rp,c.2 _ _ (n 13 rfl) h.bt,h.hd.ch c (n 14 rfl),h.lk.ch c (n 15 rfl),h.sn.ch c (n 16 rfl),o⟩
theorem dg.ahT(h:dg M a s)(c:Ch (· = a.ak) M M'){l:List ((Nat×Int)×(Int×Nat))}(e:Kp M' a.ak (ge kP eD l)):dg M' a {s with ak:=l}:=by
 have o:=h.o
 have n:=λi=> @Mq a o i 5
 exact⟨c.2 _ _ (n 0 rfl) h.b,c.2 _ _ (n 1 rfl) h.rl,c.2 _ _ (n 2 rfl) h.bl,c.2 _ _ (n 3 rfl) h.tm,h.vt.ch c (n 4 rfl),e,c.2 _ _ (n 6 rfl) h.se,c.2 _ _ (n 7 rfl) h.sd,c.2 _ _ (n 8 rfl) h.ro,c.2 _ _ (n 9 rfl) h.ln,c.2 _ _ (n 10 rfl) h.mr,h.pl.ch c (n 11 rfl),c.2 _ _ (n 12 rfl) h.rp,c.2 _ _ (n 13 rfl) h.bt,h.hd.ch c (n 14 rfl),h.lk.ch c (n 15 rfl),h.sn.ch c (n 16 rfl),o⟩
theorem dg.akN(h:dg M a s)(c:Ch (· = a.se) M M'){l:List (Int×Nat)}(e:M'[a.se]? = some (.dk (ge kI nD l))):dg M' a {s with se:=l}:=by
 have o:=h.o
 have n:=λi=> @Mq a o i 6
 exact⟨c.2 _ _ (n 0 rfl) h.b,c.2 _ _ (n 1 rfl) h.rl,c.2 _ _ (n 2 rfl) h.bl,c.2 _ _ (n 3 rfl) h.tm,h.vt.ch c (n 4 rfl),h.ak.ch c (n 5 rfl),e,c.2 _ _ (n 7 rfl) h.sd,c.2 _ _ (n 8 rfl) h.ro,c.2 _ _ (n 9 rfl) h.ln,c.2 _ _ (n 10 rfl) h.mr,h.pl.ch c (n 11 rfl),c.2 _ _ (n 12 rfl) h.rp,c.2 _ _ (n 13 rfl) h.bt,h.hd.ch c (n 14 rfl),h.lk.ch c (n 15 rfl),h.sn.ch c (n 16 rfl),o⟩
theorem dg.akO(h:dg M a s)(c:Ch (· = a.ln) M M'){l:List (Int×List En)}(e:M'[a.ln]? = some (.dk (ge kI esD l))):dg M' a {s with ln:=l}:=by
 have o:=h.o
 have n:=λi=> @Mq a o i 9
 exact⟨c.2 _ _ (n 0 rfl) h.b,c.2 _ _ (n 1 rfl) h.rl,c.2 _ _ (n 2 rfl) h.bl,c.2 _ _ (n 3 rfl) h.tm,h.vt.ch c (n 4 rfl),h.ak.ch c (n 5 rfl),c.2 _ _ (n 6 rfl) h.se,c.2 _ _ (n 7 rfl) h.sd,c.2 _ _ (n 8 rfl) h.ro,e,c.2 _ _ (n 10 rfl) h.mr,h.pl.ch c (n 11 rfl),c.2 _ _ (n 12 rfl) h.rp,c.2 _ _ (n 13 rfl) h.bt,h.hd.ch c (n 14 rfl),h.lk.ch c (n 15 rfl),h.sn.ch c (n 16 rfl),o⟩
theorem dg.fbl(h:dg M a s):mH [8] "ballots" (.ref a.b) M= .ok (.ref a.bl) M:=cR h.b (by simp) rfl
theorem dg.fsd(h:dg M a s):mH [8] "strides" (.ref a.b) M= .ok (.ref a.sd) M:=cR h.b (by simp) rfl
theorem dg.frb(h:dg M a s):mH [0,7,8] "rules" (.ref a.bl) M= .ok (.ref a.rl) M:=cR h.bl (by simp) rfl
theorem dg.ftm(h:dg M a s):mH [0] "terms" (.ref a.bl) M= .ok (.ref a.tm) M:=cR h.bl (by simp) rfl
theorem dg.fvt(h:dg M a s):mH [0] "votes" (.ref a.bl) M= .ok (.ref a.vt) M:=cR h.bl (by simp) rfl
theorem dg.fak(h:dg M a s):mH [0] "askings" (.ref a.bl) M= .ok (.ref a.ak) M:=cR h.bl (by simp) rfl
theorem dg.fse(h:dg M a s):mH [0] "seated" (.ref a.bl) M= .ok (.ref a.se) M:=cR h.bl (by simp) rfl
theorem dg.fro(h:dg M a s):mH [7] "rows" (.ref a.sd) M= .ok (.ref a.ro) M:=cR h.sd (by simp) rfl
theorem dg.fln(h:dg M a s):mH [7] "lines" (.ref a.sd) M= .ok (.ref a.ln) M:=cR h.sd (by simp) rfl
theorem dg.fmk(h:dg M a s):mH [7] "marks" (.ref a.sd) M= .ok (.ref a.mr) M:=cR h.sd (by simp) rfl
theorem dg.fcn(h:dg M a s):mH [8] "count" (.ref a.b) M= .ok (.int (s.cnt:Int)) M:=cR h.b (by simp) rfl
theorem dg.fbr(h:dg M a s):mH [8] "breach" (.ref a.b) M= .ok s.br M:=cR h.b (by simp) rfl
theorem dg.ffr(h:dg M a s):mH [7] "first_roll" (.ref a.sd) M= .ok (.tup [.int (s.S:Int),.int 0]) M:=cR h.sd (by simp) rfl
theorem dg.f1(h:dg M a s):mH [6] "once" (.ref a.rl) M= .ok (.bl s.r1) M:=cR h.rl (by simp) rfl
theorem dg.f2(h:dg M a s):mH [6] "best" (.ref a.rl) M= .ok (.bl s.r2) M:=cR h.rl (by simp) rfl
theorem dg.f3(h:dg M a s):mH [6] "own" (.ref a.rl) M= .ok (.bl s.r3) M:=cR h.rl (by simp) rfl
theorem dg.f4(h:dg M a s):mH [6] "most" (.ref a.rl) M= .ok (.bl s.r4) M:=cR h.rl (by simp) rfl
theorem dg.Yu(h:dg M a s){m:Str}(hm:(["first","rules","ballots","strides","replies","count","breach"]:List Str).contains m=false):uO 8 m (.ref a.b) M=true:=yN h.b (zL hm)
theorem dg.rD(h:dg M a s){m:Str}(hm:(["rules","terms","votes","askings","seated"]:List Str).contains m=false):uO 0 m (.ref a.bl) M=true:=yN h.bl (zL hm)
theorem dg.KZ(h:dg M a s){m:Str}(hm:(["first_roll","rules","rows","lines","marks","places"]:List Str).contains m=false):uO 7 m (.ref a.sd) M=true:=yN h.sd (zL hm)
theorem dg.als(h:dg M a s){m:Str}(hm:(["once","best","own","most"]:List Str).contains m=false):uO 6 m (.ref a.rl) M=true:=yN h.rl (zL hm)
end
theorem aa8{M0 M:Mem}{r:Nat}{o:MO}(g:Gr M0 M)(h:M0.length<=r):Gr M0 (M.set r o):=λi q hq=>by
 have:=yF hq
 rw[zam (by omega)]
 exact g i q hq
theorem get_set{M:Mem}{n:Nat}{o x:MO}(h:M[n]? = some o):(M.set n x)[n]? = some x:=zan (yF h)
theorem aaX{M:Mem}{l i:Nat}{ws:List Str}{w:Str}(h:M[l]? = some (.lst (ws.map D.str)))(hw:ws[i]? = some w):bN (.ref l) (.int (i:Int)) M= .ok (.str w) M:=
 vL h (by omega) (by simp[hw])
theorem Xv{M:Mem}{w a b:Str}:TY (.str w) (.m8 [.str a,.str b]) M= .ok (.bl (!(decide (a=w)||decide (b=w)))) M:=by
 refine(Js rfl).trans ?_
 simp only[Xd,Tq,Fy,Qp]
 simp[inV,eqV,Bool.beq_eq_decide_eq]
def SJ(w0 w1 w2 w3:Str):Prop:=(w0= "once" \/ w0= "free")/\(w1= "best" \/ w1= "any")/\(w2= "own" \/ w2= "old")/\(w3= "most" \/ w3= "half")
theorem Hs{M:Mem}{l i:Nat}{ws:List Str}{w a b:Str}{ds:List D}{u v:Option D}(hM:M[l]? = some (.lst (ws.map D.str)))(hw:ws[i]? = some w)(h:w=a\/w=b):
  eY none (gT 2 (k_ (gN 1) (k_ (gN 2) JX))) gq (.tup [.int (i:Int),.m8 [.str a,.str b]]::ds) [some (.ref l),u,v] M=eY none (gT 2 (k_ (gN 1) (k_ (gN 2) JX))) gq ds [some (.ref l),some (.int (i:Int)),some (.m8 [.str a,.str b])] M:=by
 have hl:¬((ws.length:Int)<=(i:Int)):=by have:=(List.getElem?_eq_some_iff.mp hw).1;omega
 have e:gq [some (.ref l),some (.int (i:Int)),some (.m8 [.str a,.str b])] M= .next [some (.ref l),some (.int (i:Int)),some (.m8 [.str a,.str b])] M:=by
  have hb:(!(decide (a=w)||decide (b=w)))=false:=by rcases h with z | z<;>simp[z]
  simp only[gq,yP]
  simp only[afm,age,Ri,Oc]
  simp[Je hM,aaX hM hw,Xv,hl]
  exact λq=>h.elim (λz=>absurd z.symm q) Eq.symm
 rw[eY,if_pos (show jZ none M from trivial)]
 simp[e]
theorem Te{M:Mem}{l:Nat}{w0 w1 w2 w3:Str}(hM:M[l]? = some (.lst ([w0,w1,w2,w3].map D.str)))(hg:SJ w0 w1 w2 w3):pX [.ref l] M= .ok .non M:=by
 obtain⟨g0,g1,g2,g3⟩:=hg
 have en:∀ds:List D,Fb (.m8 ds) (.int 0) M= .ok ⟨none,pN 0 ds⟩ M:=λds=>rfl
 have s0:=λds=>Hs (i:=0) (ds:=ds) (u:=none) (v:=none) hM rfl g0
 have s1:=λds u v=>Hs (i:=1) (ds:=ds) (u:=u) (v:=v) hM rfl g1
 have s2:=λds u v=>Hs (i:=2) (ds:=ds) (u:=u) (v:=v) hM rfl g2
 have s3:=λds u v=>Hs (i:=3) (ds:=ds) (u:=u) (v:=v) hM rfl g3
 have lp:eY none (gT 2 (k_ (gN 1) (k_ (gN 2) JX))) gq (pN 0 [.m8 [.str "once",.str "free"],.m8 [.str "best",.str "any"],.m8 [.str "own",.str "old"],.m8 [.str "most",.str "half"]]) [some (.ref l),none,none] M= .next [some (.ref l),some (.int 3),some (.m8 [.str "most",.str "half"])] M:=by
  refine(s0 _).trans ((s1 _ _ _).trans ((s2 _ _ _).trans ((s3 _ _ _).trans ?_)))
  show eY _ _ _ [] _ _=_
  rw[eY,if_pos (show jZ none M from trivial)]
  rfl
 simp only[pX,pZ,yS,yO]
 simp[lp,Je hM]
theorem QT{M:Mem}{y w0 w1 w2 w3:Str}(hy:y.length<=1000)(hs:Txt.split y " " = [w0,w1,w2,w3])(hg:SJ w0 w1 w2 w3):
  ∃M',fO [.ref M.length,.str y] (M++[.ins 6 []])= .ok .non M'/\Gr M M'/\M'[M.length]? = some (tK (decide (w0= "once")) (decide (w1= "best")) (decide (w2= "own")) (decide (w3= "most"))):=by
 obtain⟨N,hN⟩:∃N,N=M++[MO.ins 6 []]:=⟨_,rfl⟩
 obtain⟨N1,hN1⟩:∃N1,N1=N++[MO.lst ([w0,w1,w2,w3].map D.str)]:=⟨_,rfl⟩
 have g:Gr M N:=by rw[hN];exact Gr.app
 have g1:Gr N N1:=by rw[hN1];exact Gr.app
 have hl:N1[N.length]? = some (.lst ([w0,w1,w2,w3].map D.str)):=by rw[hN1];exact cA
 have h0:N1[M.length]? = some (.ins 6 []):=g1 _ _ (by rw[hN];exact cA)
 have nl:N.length=M.length+1:=by rw[hN];simp
 have e1:Ei (.str y) [.str " "] N= .ok (.ref N.length) N1:=by rw[Xb (by omega) (by decide),hs,<-hN1]
 have ty:WY "str" (.str y) N=true:=rfl
 have e2:=Te hl hg
 obtain⟨b0,hb0⟩:∃b0,b0=decide (w0= "once"):=⟨_,rfl⟩
 obtain⟨b1,hb1⟩:∃b1,b1=decide (w1= "best"):=⟨_,rfl⟩
 obtain⟨b2,hb2⟩:∃b2,b2=decide (w2= "own"):=⟨_,rfl⟩
 obtain⟨b3,hb3⟩:∃b3,b3=decide (w3= "most"):=⟨_,rfl⟩
 have q1:gR [6] "once" (.bl b0) (.ref M.length) N1=some (N1.set M.length (.ins 6 [("once",.bl b0)])):=by
  rw[dJ h0 (by simp) (by simp)];rfl
 have q2:gR [6] "best" (.bl b1) (.ref M.length) (N1.set M.length (.ins 6 [("once",.bl b0)]))=some (N1.set M.length (.ins 6 [("once",.bl b0),("best",.bl b1)])):=by
  rw[dJ (get_set h0) (by simp) (by simp),List.set_set];rfl
 have q3:gR [6] "own" (.bl b2) (.ref M.length) (N1.set M.length (.ins 6 [("once",.bl b0),("best",.bl b1)]))=some (N1.set M.length (.ins 6 [("once",.bl b0),("best",.bl b1),("own",.bl b2)])):=by
  rw[dJ (get_set h0) (by simp) (by simp),List.set_set];rfl
 have q4:gR [6] "most" (.bl b3) (.ref M.length) (N1.set M.length (.ins 6 [("once",.bl b0),("best",.bl b1),("own",.bl b2)]))=some (N1.set M.length (tK b0 b1 b2 b3)):=by
  rw[dJ (get_set h0) (by simp) (by simp),List.set_set];rfl
 have ix:∀(o:MO) (i:Nat) (w:Str),[w0,w1,w2,w3][i]? = some w->bN (.ref N.length) (.int (i:Int)) (N1.set M.length o)= .ok (.str w) (N1.set M.length o):=λo i w hw=>aaX (by rw[zam (by omega)];exact hl) hw
 have i0:bN (.ref N.length) (.int 0) N1= .ok (.str w0) N1:=aaX (i:=0) hl rfl
 have i1:=λo=>ix o 1 w1 rfl
 have i2:=λo=>ix o 2 w2 rfl
 have i3:=λo=>ix o 3 w3 rfl
 simp only[Int.cast_ofNat_Int]at i1 i2 i3
 refine⟨N1.set M.length (tK b0 b1 b2 b3),?_,aa8 (g.trans g1) (zad _),by rw[<-hb0,<-hb1,<-hb2,<-hb3];exact get_set h0⟩
 simp only[fO,ir,yQ]
 simp[<-hN,ty,e1,e2,i0,i1,i2,i3,<-hb0,<-hb1,<-hb2,<-hb3,q1,q2,q3,q4]
theorem Jh{M:Mem}:∃M',fO [.ref M.length,.str "once best own most"] (M++[.ins 6 []])= .ok .non M'/\Gr M M'/\M'[M.length]? = some (tK true true true true):=
 QT (by decide) (show Txt.split "once best own most" " " = ([("once" : Str),"best","own","most"]:List Str) by decide +kernel) ⟨.inl rfl,.inl rfl,.inl rfl,.inl rfl⟩
theorem T6{M:Mem}{r:Nat}{a b c d:Bool}(hR:M[r]? = some (tK a b c d)):∃M',l_ [.ref r] M= .ok (.ref M.length) M'/\Gr M M'/\M'[M.length]? = some (tK a b c d):=by
 obtain⟨M1,e1,g1,o1⟩:=Jh (M:=M)
 have hr:=yF hR
 have fs:∀o:MO,(M1.set M.length o)[r]? = some (tK a b c d):=λo=>by rw[zam (by omega)];exact g1 _ _ hR
 have f1:mH [6] "once" (.ref r) M1= .ok (.bl a) M1:=cR (g1 _ _ hR) (by simp) rfl
 have f2:∀o,mH [6] "best" (.ref r) (M1.set M.length o)= .ok (.bl b) (M1.set M.length o):=λo=>cR (fs o) (by simp) rfl
 have f3:∀o,mH [6] "own" (.ref r) (M1.set M.length o)= .ok (.bl c) (M1.set M.length o):=λo=>cR (fs o) (by simp) rfl
 have f4:∀o,mH [6] "most" (.ref r) (M1.set M.length o)= .ok (.bl d) (M1.set M.length o):=λo=>cR (fs o) (by simp) rfl
 have p1:gR [6] "once" (.bl a) (.ref M.length) M1=some (M1.set M.length (tK a true true true)):=by
  rw[dJ o1 (by simp) (by simp)];rfl
 have p2:gR [6] "best" (.bl b) (.ref M.length) (M1.set M.length (tK a true true true))=some (M1.set M.length (tK a b true true)):=by
  unfold tK;rw[dJ (get_set o1) (by simp) (by simp),List.set_set];rfl
 have p3:gR [6] "own" (.bl c) (.ref M.length) (M1.set M.length (tK a b true true))=some (M1.set M.length (tK a b c true)):=by
  unfold tK;rw[dJ (get_set o1) (by simp) (by simp),List.set_set];rfl
 have p4:gR [6] "most" (.bl d) (.ref M.length) (M1.set M.length (tK a b c true))=some (M1.set M.length (tK a b c d)):=by
  unfold tK;rw[dJ (get_set o1) (by simp) (by simp),List.set_set];rfl
 refine⟨M1.set M.length (tK a b c d),?_,aa8 g1 (zad _),get_set o1⟩
 simp only[l_,p_]
 simp[e1,f1,p1,f2,p2,f3,p3,f4,p4]
def BO.term(s:BO)(h:Nat):Int:=(gv s.tm h).getD 0
def BO.Cp(s:BO)(h:Nat)(t:Int):Nat:=(gv s.vt (h,t)).getD 0
def BO.ask(s:BO)(h:Nat)(t:Int):Option (Int×Nat):=gv s.ak (h,t)
def BO.head(s:BO)(t:Int):Option Nat:=gv s.se t
def BO.row(s:BO)(h:Nat):List En:=(gv s.ro h).getD []
def BO.line(s:BO)(t:Int):List En:=(gv s.ln t).getD []
def BO.mark(s:BO)(t:Int):Nat:=(gv s.mr t).getD 0
structure Bx(M:Mem)(a:BA)(s:BO)(M':Mem):Prop where
 h:dg M' a s
 c:Ch (Rg a) M M'
section
variable{M M1 M2 M':Mem}{a:BA}{s s':BO}
theorem Bx.trans(x:Bx M a s M1)(y:Bx M1 a s' M2):Bx M a s' M2:=⟨y.h,x.c.trans y.c⟩
theorem Bx.of(h:dg M a s):Bx M a s M:=⟨h,Ch.refl⟩
theorem Bx.gr(h:dg M a s)(g:Gr M M'):Bx M a s M':=⟨h.ch (p:=λ_=>False) g.ch (λ_ _ _ z=>z),g.ch⟩
theorem Ch.one{n:Nat}(c:Ch (· = n) M M')(hn:Rg a n):Ch (Rg a) M M':=c.mono λi _ z=>by have z:i=n:=z;subst z;exact hn
theorem abd{o:Option Nat}:(o.map nD).getD (.int 0)= .int ((o.getD 0:Nat):Int):=by cases o<;>rfl
theorem abe{o:Option Int}:(o.map D.int).getD (.int 0)= .int (o.getD 0):=by cases o<;>rfl
theorem adF{o:Option (List En)}:(o.map esD).getD (.tup [])=esD (o.getD []):=by cases o<;>rfl
theorem Ht(h:dg M a s)(k:Nat):cQ [.ref a.bl,.int (k:Int)] M= .ok (.int (s.term k)) M:=by
 have e:=aa_ h.tm k (.int 0)
 rw[abe]at e
 simp only[cQ,jd]
 simp[h.ftm,oA h.tm,e,BO.term]
theorem Cu(h:dg M a s)(k:Nat)(t:Int):∃M',bH [.ref a.bl,.int (k:Int),.int t] M= .ok (.int (s.Cp k t:Nat)) M'/\Bx M a s M':=by
 obtain⟨M',e,tt,c⟩:=aa9 h.vt (k,t) (.int 0)
 rw[abd]at e
 refine⟨M',?_,h.ahS c tt,c.one (uU h.o 4 rfl)⟩
 simp only[bH,iu]
 simp[h.fvt,h.vt.dic,e,BO.Cp]
theorem Sg(h:dg M a s)(k:Nat)(t:Int):∃M',dB [.ref a.bl,.int (k:Int),.int t] M= .ok (((s.ask k t).map eD).getD .non) M'/\Bx M a s M':=by
 obtain⟨M',e,tt,c⟩:=aa9 h.ak (k,t) .non
 refine⟨M',?_,h.ahT c tt,c.one (uU h.o 5 rfl)⟩
 simp only[dB,fX]
 simp[h.fak,h.ak.dic,e,BO.ask]
theorem Wg(h:dg M a s)(t:Int):eU [.ref a.bl,.int t] M= .ok (((s.head t).map nD).getD .non) M:=by
 have e:=abb h.se t .non
 simp only[eU,iz]
 simp[h.fse,oA h.se,e,BO.head]
theorem Ji(h:dg M a s)(k:Nat):cX [.ref a.sd,.int (k:Int)] M= .ok (esD (s.row k)) M:=by
 have e:=aa_ h.ro k (.tup [])
 rw[adF]at e
 simp only[cX,jH]
 simp[h.fro,oA h.ro,e,BO.row]
theorem or_zero(w:Nat):Builtin.bitOr 0 (1*2 ^ ((w:Int)).toNat)=((2 ^ w:Nat):Int):=by
 have:Builtin.bitOr ((0:Nat):Int) ((2 ^ w:Nat):Int)=((0 ||| 2 ^ w:Nat):Int):=HM.Ib 0 (2 ^ w)
 rw[Nat.zero_or]at this
 rw[zap,HM.V1]
 exact this
theorem Nb{n w:Nat}(hM:M[n]? = some (.lst [.int (w:Int)]))(hw:w<60):jX [.ref n] M= .ok (.int ((2 ^ w:Nat):Int)) M:=by
 have sh:wR (.int 1) (.int (w:Int)) M= .ok (.int (1*2 ^ ((w:Int)).toNat)) M:=zA ⟨by omega,by omega,by decide⟩
 have ok:jZ (some (n,[D.int (w:Int)])) M:=dM hM
 have lp:eY (some (n,[D.int (w:Int)])) (gN 2) Bb [.int (w:Int)] [some (.ref n),some (.int 0),none] M= .next [some (.ref n),some (.int ((2 ^ w:Nat):Int)),some (.int (w:Int))] M:=by
  rw[eY,if_pos ok]
  simp only[ajl,Bb]
  simp only[Hy,Oc]
  have oz:=or_zero w
  simp at oz
  simp[sh]
  rw[eY,if_pos ok,oz]
 simp only[jX,Dv,JZ]
 simp[yM hM,lp]
theorem WM(n w:Nat):(!decide (Builtin.bitAnd (n:Int) ((2 ^ w:Nat):Int)=0))=n.testBit w:=by
 rw[HM.uR]
 have q:=HM.J5 n w
 cases z:n.testBit w with
 | true=>
  have q':=q.mpr z
  simp only[Bool.not_eq_true',decide_eq_false_iff_not]
  omega
 | false=>
  have q':¬(n &&& 2 ^ w≠0):=λr=>by rw[q.mp r]at z;cases z
  simp only[Bool.not_eq_false',decide_eq_true_eq]
  omega
def BO.spent(s:BO)(h:Nat)(t:Int)(w:Nat):Bool:=if s.r1=true then !decide (s.Cp h t=0)else(s.Cp h t).testBit w
theorem Zi(h:dg M a s)(k:Nat)(t:Int){w:Nat}(hw:w<60):∃M',eO [.ref a.bl,.int (k:Int),.int t,.int (w:Int)] M= .ok (.bl (s.spent k t w)) M'/\Bx M a s M':=by
 obtain⟨M1,e1,x1⟩:=Cu h k t
 have me:=h.rD (m:= "votes_of") rfl
 cases z:s.r1 with
 | true=>
  refine⟨M1,?_,x1⟩
  simp only[eO,eZ,jk]
  simp[me,e1,x1.h.frb,x1.h.f1,z,BO.spent,Int.ofNat_eq_zero]
 | false=>
  obtain⟨N,hN⟩:∃N,N=M1++[MO.lst [.int (w:Int)]]:=⟨_,rfl⟩
  have g:Gr M1 N:=by rw[hN];exact Gr.app
  have e2:jX [.ref M1.length] N= .ok (.int ((2 ^ w:Nat):Int)) N:=Nb (by rw[hN];exact cA) hw
  refine⟨N,?_,x1.trans (Bx.gr x1.h g)⟩
  have b:=WM (s.Cp k t) w
  simp only[eO,eZ,jk]
  simp only[ou]
  simp[me,e1,x1.h.frb,x1.h.f1,z,BO.spent,<-hN,e2]
  simpa using b
noncomputable def BO.good(s:BO)(w:Nat)(t:Int)(e:Int×Nat):Bool:=match s.ask w t with
 | none=>false
 | some q=>TLe.Rn [e.1,(e.2:Int)] [q.1,(q.2:Int)]|| !s.r2
theorem adE(h:dg M a s)(w:Nat)(t:Int)(e:Int×Nat):∃M',cu [.ref a.bl,.int (w:Int),.int t,eD e] M= .ok (.bl (s.good w t e)) M'/\Bx M a s M':=by
 obtain⟨M1,e1,x1⟩:=Sg h w t
 have me:=h.rD (m:= "asked_with") rfl
 refine⟨M1,?_,x1⟩
 cases z:s.ask w t with
 | none=>
  rw[z]at e1
  simp only[cu,cz,eX]
  simp at e1
  simp[me,e1,BO.good,z]
 | some q=>
  rw[z]at e1
  have le:sLe (eD e) (eD q) M1= .ok (.bl (TLe.Rn [e.1,(e.2:Int)] [q.1,(q.2:Int)])) M1:=aij rfl rfl
  simp only[Option.map_some,Option.getD_some]at e1
  have nn:LC (eD q)=false:=rfl
  simp only[cu,cz,eX]
  simp only[ou]
  cases zz:TLe.Rn [e.1,(e.2:Int)] [q.1,(q.2:Int)]with
  | true=>rw[zz]at le;simp[me,e1,nn,le,BO.good,z,zz]
  | false=>rw[zz]at le;simp[me,e1,nn,le,BO.good,z,zz,x1.h.frb,x1.h.f2]
def BO.rR(s:BO)(h:Nat)(t:Int)(w:Nat)(e:Int×Nat):Bool:=if t<s.term h\/s.spent h t w=true then false else if w=h then decide (s.term h<t)else s.good w t e
theorem Uh(h:dg M a s)(k:Nat)(t:Int){w:Nat}(hw:w<60)(e:Int×Nat):∃M',cD [.ref a.bl,.int (k:Int),.int t,.int (w:Int),eD e] M= .ok (.bl (s.rR k t w e)) M'/\Bx M a s M':=by
 have e0:=Ht h k
 have m0:=h.rD (m:= "term_of") rfl
 have m1:=h.rD (m:= "is_spent") rfl
 by_cases c0:t<s.term k
 ·refine⟨M,?_,Bx.of h⟩
  simp only[cD,cF,dG,dD]
  simp[m0,e0,c0,BO.rR]
 ·obtain⟨M1,e1,x1⟩:=Zi h k t hw
  cases c1:s.spent k t w with
  | true=>
   rw[c1]at e1
   refine⟨M1,?_,x1⟩
   simp only[cD,cF,dG,dD]
   simp[m0,m1,e0,c0,e1,BO.rR,c1]
  | false=>
   rw[c1]at e1
   by_cases c2:w=k
   ·subst c2
    have e2:=Ht x1.h w
    have m2:=x1.h.rD (m:= "term_of") rfl
    refine⟨M1,?_,x1⟩
    simp only[cD,cF,dG,dD]
    simp[m0,m1,e0,c0,e1,BO.rR,c1,m2,e2]
   ·obtain⟨M2,e2,x2⟩:=adE x1.h w t e
    have m2:=x1.h.rD (m:= "is_good_enough") rfl
    have c2':¬((w:Int)=(k:Int)):=by omega
    refine⟨M2,?_,x1.trans x2⟩
    simp only[cD,cF,dG,dD]
    simp[m0,m1,e0,c0,e1,BO.rR,c1,m2,e2,c2,c2']
end
section
variable{M M1 M2 M':Mem}{a:BA}{s s':BO}
theorem dg.lt(h:dg M a s):a.sn<M.length:=by
 obtain⟨o,e⟩:=h.sn.some
 exact yF e
theorem dg.nrg(h:dg M a s){n:Nat}(hn:M.length<=n):¬Rg a n:=λz=>by
 have:=h.lt
 have:n<=a.sn:=z.2
 omega
theorem adK{o:Option Nat}{k:Nat}:sEq ((o.map nD).getD .non) (.int (k:Int)) M= .ok (.bl (decide (o=some k))) M:=by
 cases o with
 | none=>exact Np rfl
 | some j=>
  show sEq (.int (j:Int)) (.int (k:Int)) M=_
  rw[acD]
  congr 2
  by_cases z:j=k
  ·subst z;simp
  ·have:¬((j:Int)=(k:Int)):=by omega
   simp[z,this]
theorem abt{e q:Int×Nat}:RK M (eD e) (eD q)=some (decide (e=q)):=by
 have:RK M (eD e) (eD q)=some (bM (.tup [.int e.1,.int (e.2:Int)]) (.tup [.int q.1,.int (q.2:Int)])):=rfl
 rw[this]
 congr 1
 obtain⟨e1,e2⟩:=e
 obtain⟨q1,q2⟩:=q
 by_cases z:e1=q1
 ·by_cases z2:e2=q2
  ·subst z z2;simp[yW]
  ·have:¬((e2:Int)=(q2:Int)):=by omega
   simp[bM,yV,z,z2,this]
 ·simp[bM,yV,z]
theorem agc{o:Option (Int×Nat)}{e:Int×Nat}:sNe ((o.map eD).getD .non) (eD e) M= .ok (.bl (!decide (o=some e))) M:=by
 cases o with
 | none=>exact Bo (b:=false) rfl
 | some q=>
  show sNe (eD q) (eD e) M=_
  rw[Bo (b:=decide (q=e)) abt];simp
def BO.uy(s:BO)(V:Nat)(t:Int)(w:Nat):Bool:=(HM.fu V).all λv=>(s.Cp v t).testBit w
structure ajE(M0:Mem)(a:BA)(s:BO)(V:Nat)(t:Int)(w:Nat)(i:Nat)(ys:List D)(M:Mem):Prop where
 y:ys=((HM.fu V).take i).map λv=>D.bl ((s.Cp v t).testBit w)
 x:Bx M0 a s M
theorem Ql(h:dg M a s){V:Nat}(hV:V<2 ^ 60)(t:Int){w:Nat}(hw:w<60):∃M',gf [.ref a.bl,.int (V:Int),.int t,.int (w:Int)] M= .ok (.bl (s.uy V t w)) M'/\Bx M a s M':=by
 have e0:=Gh (M:=M) V hV
 obtain⟨N,hN⟩:∃N,N=M++[MO.lst (hv (HM.fu V))]:=⟨_,rfl⟩
 rw[<-hN]at e0
 have g:Gr M N:=by rw[hN];exact Gr.app
 have x0:Bx M a s N:=Bx.gr h g
 have hl:N[M.length]? = some (.lst (hv (HM.fu V))):=by rw[hN];exact cA
 have keep:∀{M':Mem},Bx N a s M'->M'[M.length]? = some (.lst (hv (HM.fu V))):=λ{M'} x=>x.c.2 _ _ (h.nrg (zad _)) hl
 obtain⟨ys,M1,e1,hy,x1⟩:=RZ (src:=some (M.length,hv (HM.fu V))) (tt:=JC) (te:=aD sNe (aD vM (bI 0 "votes_of" bH 3 [] (aq 2) (au (aq 0) (au (aq 1) aK))) (cV jX 1 [] (au (Hh (au (aq 3) aK)) aK))) (mC (.int 0)))
  (ce:=[some (.int t),some (.ref a.bl),some (.int (w:Int))]) (ajE N a s V t w) (hv (HM.fu V)) 0 (ys:=[]) (M:=N) ⟨by simp,Bx.of x0.h⟩ (λi ys M' _ _ p=>dM (keep p.x)) (λi d ys M' hd p=>by
   rw[Nat.zero_add]at p ⊢
   obtain⟨v,hv1,rfl⟩:∃v,(HM.fu V)[i]? = some v/\D.int (v:Int)=d:=by simpa[hv]using hd
   obtain⟨M2,e2,x2⟩:=Cu p.x.h v t
   obtain⟨N2,hN2⟩:∃N2,N2=M2++[MO.lst [.int (w:Int)]]:=⟨_,rfl⟩
   have g2:Gr M2 N2:=by rw[hN2];exact Gr.app
   have e3:jX [.ref M2.length] N2= .ok (.int ((2 ^ w:Nat):Int)) N2:=Nb (by rw[hN2];exact cA) hw
   have b:=WM (s.Cp v t) w
   refine⟨true,M',rfl,.inr ⟨rfl,.bl ((s.Cp v t).testBit w),N2,?_,?_,p.x.trans (x2.trans (Bx.gr x2.h g2))⟩⟩
   ·simp[p.x.h.rD (m:= "votes_of") rfl,e2,<-hN2,e3]
    simpa using b
   ·rw[p.y,List.take_succ,hv1]
    simp)
 rw[Nat.zero_add]at hy
 have hy':ys=((HM.fu V).map λv=>(s.Cp v t).testBit w).map D.bl:=by
  rw[hy,List.take_of_length_le (by simp[hv])]
  simp
 have x1':Bx M a s M1:=x0.trans x1
 obtain⟨N1,hN1⟩:∃N1,N1=M1++[MO.lst ys]:=⟨_,rfl⟩
 rw[<-hN1]at e1
 have g1:Gr M1 N1:=by rw[hN1];exact Gr.app
 have al:Xe [.ref M1.length] N1= .ok (.bl (s.uy V t w)) N1:=by
  have q:N1[M1.length]? = some (.lst (((HM.fu V).map λv=>(s.Cp v t).testBit w).map D.bl)):=by rw[hN1,hy'];exact cA
  rw[ZQ q]
  simp[BO.uy,List.all_map]
 refine⟨N1,?_,x1'.trans (Bx.gr x1'.h g1)⟩
 simp only[gf,gk]
 simp[e0,yM hl,Aa,e1,al]
theorem acE(h:dg M a s){V p q:Nat}(hp:p<2 ^ 60)(hq:q<2 ^ 60):∃M',pY [.ref a.rl,.tup [.int (p:Int),.int (q:Int)],.int (V:Int)] M= .ok (.bl (yZ V p (!s.r4)&&(decide (q=0)||yZ V q (!s.r4)))) M'/\Bx M a s M':=by
 obtain⟨M1,e1,g1⟩:=ab1 (M:=M) V p q (!s.r4) hp hq
 refine⟨M1,?_,Bx.gr h g1⟩
 simp only[pY,p8]
 simp[h.f4,e1]
def BO.won(s:BO)(V p q:Nat):Bool:=yZ V p (!s.r4)&&(decide (q=0)||yZ V q (!s.r4))
noncomputable def BO.lX(s:BO)(h:Nat)(t:Int)(V:Nat)(e:Int×Nat)(p q:Nat):Bool:=
 if s.term h≠t\/s.head t=some h then false else if s.ask h t≠some e then false else s.uy V t h&&s.won V p q
theorem Rh(h:dg M a s){k:Nat}(hk:k<60)(t:Int){V p q:Nat}(hV:V<2 ^ 60)(hp:p<2 ^ 60)(hq:q<2 ^ 60)(e:Int×Nat):
  ∃M',bK [.ref a.bl,.int (k:Int),.int t,.int (V:Int),eD e,.tup [.int (p:Int),.int (q:Int)]] M= .ok (.bl (s.lX k t V e p q)) M'/\Bx M a s M':=by
 have e0:=Ht h k
 have m0:=h.rD (m:= "term_of") rfl
 have m1:=h.rD (m:= "chair_of") rfl
 have m2:=h.rD (m:= "asked_with") rfl
 have e1:=Wg h t
 have q1:=adK (M:=M) (o:=s.head t) (k:=k)
 by_cases c0:s.term k=t
 ·by_cases c1:s.head t=some k
  ·refine⟨M,?_,Bx.of h⟩
   rw[c1]at q1
   simp only[bK,bL,cg,b_]
   simp[m0,m1,e0,c0,e1,c1,q1,BO.lX]
   simp at q1
   simp[q1]
  ·obtain⟨M1,e2,x1⟩:=Sg h k t
   have q2:=agc (M:=M1) (o:=s.ask k t) (e:=e)
   rw[zah c1]at q1
   by_cases c2:s.ask k t=some e
   ·have q2':sNe (eD e) (eD e) M1= .ok (.bl false) M1:=by rw[Bo (b:=true) (by rw[abt];simp)];rfl
    obtain⟨M2,e3,x2⟩:=Ql x1.h hV t hk
    have m3:=x1.h.rD (m:= "voted_all") rfl
    obtain⟨M3,e4,x3⟩:=acE x2.h (V:=V) hp hq
    have m4:=x2.h.als (m:= "wins") rfl
    have fr:=x2.h.frb
    cases c3:s.uy V t k with
    | true=>
     rw[c3]at e3
     refine⟨M3,?_,x1.trans (x2.trans x3)⟩
     simp only[bK,bL,cg,b_]
     simp only[ou]
     simp[m0,m1,e0,c0,e1,q1,m2,e2,q2',m3,e3,fr,m4,e4,BO.lX,c1,c2,c3,BO.won]
    | false=>
     rw[c3]at e3
     refine⟨M2,?_,x1.trans x2⟩
     simp only[bK,bL,cg,b_]
     simp only[ou]
     simp[m0,m1,e0,c0,e1,q1,m2,e2,q2',m3,e3,BO.lX,c1,c2,c3]
   ·rw[zah c2]at q2
    refine⟨M1,?_,x1⟩
    simp only[bK,bL,cg,b_]
    simp only[ou]
    simp[m0,m1,e0,c0,e1,q1,m2,e2,q2,BO.lX,c1,c2]
 ·refine⟨M,?_,Bx.of h⟩
  simp only[bK,bL,cg,b_]
  simp[m0,e0,c0,BO.lX]
end
section
variable{M M1 M2 M':Mem}{a:BA}{s s':BO}
theorem RT:(("chair" : Str)= "vote")=False:=eq_false (by decide)
theorem O9:yD [esD []] M= .ok (eD (0,0)) M:=by
 simp only[yD,Dw,JV,esD]
 simp[eD]
theorem T7:j5 [esD []] M= .ok (.int 0) M:=by
 have w:Bl mO rM [some (.tup []),some (.int 0)] M= .next [some (.tup []),some (.int 0)] M:=by
  refine Lj (n:=1) ?_ (λz=>nomatch z)
  unfold Kq
  simp[mO]
 simp only[j5,j7,rH,esD]
 simp[w]
theorem ZS{d:D}:zJ [esD [],d] M= .ok d M:=by
 have e:=T7 (M:=M)
 simp only[zJ,zQ,Gf]
 simp[e]
theorem Xg(h:dg M a s)(hr:s.ro=[])(k:Nat):g8 [.ref a.sd,.int (k:Int)] M= .ok (.tup [.int (s.S:Int),.int 0]) M:=by
 have e:=Ji h k
 have r:s.row k=[]:=by simp[BO.row,hr]
 rw[r]at e
 simp only[g8,ig]
 simp[h.KZ (m:= "row_of") rfl,e,h.ffr,ZS]
theorem in_of{x:Str}:sIn (.str x) (.m8 [.str "vote",.str "chair",.str "told"]) M= .ok (.bl (decide ("vote" = x)||(decide ("chair" = x)||decide ("told" = x)))) M:=by
 refine(Js rfl).trans ?_
 simp only[Xd,Tq,Fy,Qp]
 simp[inV,eqV,Bool.beq_eq_decide_eq]
def pap(x:Str)(h:Nat)(t:Int)(y:Nat):D:= .tup [.str x,.int (h:Int),.int t,.int (y:Int)]
abbrev pV(h:Nat)(t:Int)(w:Nat):D:=pap "vote" h t w
abbrev pC(h:Nat)(t:Int)(V:Nat):D:=pap "chair" h t V
def OfH(x:Str):Prop:=x= "vote" \/ x= "chair"
section
variable{x:Str}{h y:Nat}{t:Int}
theorem abi(hx:OfH x):rY [pap x h t y] M= .ok (.bl true) M:=by
 have k:W5 x [("vote",4),("chair",4),("write",4),("beat",3),("told",5),("settle",4),("answer",6),("look",6),("seen",8)]= .int 4:=by rcases hx with rfl | rfl<;>rfl
 simp only[rY,sO,pap]
 simp[k]
theorem agq(hx:OfH x):sIn (.str x) (.m8 [.str "vote",.str "chair",.str "told"]) M= .ok (.bl true) M:=by
 rw[in_of]
 rcases hx with rfl | rfl<;>simp
theorem Y5(hx:OfH x):zH [pap x h t y] M= .ok (.int t) M:=by
 simp only[zH,zP,Ge,pap]
 simp[agq hx]
end
theorem abG(h:dg M a s)(hr:s.ro=[])(k:Nat)(t:Int){w:Nat}(hw:w<60):∃M',b7 [.ref a.b,pV k t w] M= .ok (.bl (s.rR k t w (0,0))) M'/\Bx M a s M':=by
 have e:=Ji h k
 have r:s.row k=[]:=by simp[BO.row,hr]
 rw[r]at e
 obtain⟨M1,e1,x1⟩:=Uh h k t hw (0,0)
 refine⟨M1,?_,x1⟩
 simp only[b7,dY,iR,iQ,pap]
 simp[h.fsd,h.KZ (m:= "row_of") rfl,e,O9,h.fbl,h.rD (m:= "may_vote") rfl,e1]
theorem abH(h:dg M a s)(hr:s.ro=[]){k:Nat}(hk:k<60)(t:Int){V:Nat}(hV:V<2 ^ 60)(hS:s.S<2 ^ 60):∃M',b7 [.ref a.b,pC k t V] M= .ok (.bl (s.lX k t V (0,0) s.S 0)) M'/\Bx M a s M':=by
 have e:=Ji h k
 have r:s.row k=[]:=by simp[BO.row,hr]
 rw[r]at e
 have e2:=Xg h hr k
 obtain⟨M1,e1,x1⟩:=Rh h hk t hV hS (q:=0) (by omega) (0,0)
 refine⟨M1,?_,x1⟩
 simp only[b7,dY,iR,iQ,pap]
 simp only[Int.ofNat_eq_natCast,Int.natCast_zero,Int.cast_ofNat_Int]at e1
 simp[RT,h.fsd,h.KZ (m:= "row_of") rfl,e,O9,h.fbl,h.rD (m:= "may_chair") rfl,h.KZ (m:= "row_roll") rfl,e2,e1]
def BO.FJ(s:BO)(t:Int)(r:Bool):Bool:=LC s.br&&decide (1<=t)&&r
def BO.Fi(s:BO)(h:Nat)(t:Int)(w:Nat):Bool:=s.FJ t (s.rR h t w (0,0))
def BO.Fj(s:BO)(h:Nat)(t:Int)(V:Nat):Bool:=s.FJ t (s.lX h t V (0,0) s.S 0)
theorem WN(h:dg M a s){x:Str}(hx:OfH x){k y:Nat}{t:Int}{r:Bool}(hh:∃M',b7 [.ref a.b,pap x k t y] M= .ok (.bl r) M'/\Bx M a s M'):∃M',eN [.ref a.b,pap x k t y] M= .ok (.bl (s.FJ t r)) M'/\Bx M a s M':=by
 have f:=abi (M:=M) (h:=k) (t:=t) (y:=y) hx
 have tn:=Y5 (M:=M) (h:=k) (t:=t) (y:=y) hx
 have i0:bN (pap x k t y) (.int 0) M= .ok (.str x) M:=Jf
 cases c0:LC s.br with
 | false=>
  refine⟨M,?_,Bx.of h⟩
  simp only[eN,gM,jB,jA]
  simp[h.fbr,c0,BO.FJ]
 | true=>
  by_cases c1:t<1
  ·refine⟨M,?_,Bx.of h⟩
   have c1':¬(1<=t):=by omega
   simp only[eN,gM,jB,jA]
   simp[h.fbr,c0,f,tn,c1,c1',BO.FJ]
  ·have c1':1<=t:=by omega
   obtain⟨M1,e1,x1⟩:=hh
   refine⟨M1,?_,x1⟩
   simp only[eN,gM,jB,jA]
   simp[h.fbr,c0,f,tn,c1,i0,agq hx,h.Yu (m:= "allows_hand") rfl,e1,BO.FJ,c1']
structure Few(s:BO):Prop where
 tm:s.tm.length<=60
 vt:s.vt.length<=60
 ak:s.ak.length<=60
 se:s.se.length<=60
 ln:s.ln.length<=60
noncomputable def BO.cast(s:BO)(h:Nat)(t:Int)(w:Nat)(e:Int×Nat):BO:=
 {s with ak:=if w=h then gp s.ak (h,t) e else s.ak,vt:=gp s.vt (h,t) (s.Cp h t ||| 2 ^ w),tm:=gp s.tm h t}
theorem aat(n w:Nat):Builtin.bitOr (n:Int) ((2:Int) ^ w)=((n ||| 2 ^ w:Nat):Int):=by
 have:=HM.Ib n (2 ^ w)
 rwa [show((2 ^ w:Nat):Int)=(2:Int) ^ w by simp]at this
theorem ZW(h:dg M a s)(hl:s.tm.length<=1000)(k:Nat)(t:Int):∃M',iC [.ref a.bl,.int (k:Int),.int t] M= .ok .non M'/\Bx M a {s with tm:=gp s.tm k t} M':=by
 have p:=aev h.tm k t hl
 refine⟨_,?_,h.akM (Ch.set rfl) (ju h.tm),Ch.one (Ch.set rfl) (uU h.o 3 rfl)⟩
 simp only[iC,j9]
 simp[h.ftm,p]
theorem ad2(h:dg M a s)(hf:Few s)(k:Nat)(t:Int){w:Nat}(hw:w<60)(e:Int×Nat):∃M',mD [.ref a.bl,.int (k:Int),.int t,.int (w:Int),eD e] M= .ok .non M'/\Bx M a (s.cast k t w e) M':=by
 obtain⟨M1,e1,x1⟩:∃M1,jC [some (.ref a.bl),some (.int (k:Int)),some (.int t),some (.int (w:Int)),some (eD e)] M= .next [some (.ref a.bl),some (.int (k:Int)),some (.int t),some (.int (w:Int)),some (eD e)] M1/\Bx M a {s with ak:=if w=k then gp s.ak (k,t) e else s.ak} M1:=by
  by_cases c:w=k
  ·subst c
   have p:=Z4 h.ak (w,t) e (by have:=hf.ak;omega)
   refine⟨_,?_,by rw[if_pos rfl];exact h.ahT (Ch.set rfl) (.inl (by obtain⟨o,q⟩:=h.ak.some;exact ju q)),Ch.one (Ch.set rfl) (show Rg a a.ak from uU h.o 5 rfl)⟩
   simp only[jC]
   simp[h.fak,p]
  ·have c':¬((w:Int)=(k:Int)):=by omega
   refine⟨M,?_,by rw[if_neg c];exact Bx.of h⟩
   simp only[jC]
   simp[c']
 obtain⟨M2,e2,x2⟩:=Cu x1.h k t
 obtain⟨N,hN⟩:∃N,N=M2++[MO.lst [.int (w:Int)]]:=⟨_,rfl⟩
 have g:Gr M2 N:=by rw[hN];exact Gr.app
 have e3:jX [.ref M2.length] N= .ok (.int ((2 ^ w:Nat):Int)) N:=Nb (by rw[hN];exact cA) hw
 have x3:=x1.trans (x2.trans (Bx.gr x2.h g))
 have p:=Z4 x3.h.vt (k,t) (s.Cp k t ||| 2 ^ w) (by have:=hf.vt;show s.vt.length<=1000;omega)
 have x4:Bx N a {s with ak:=if w=k then gp s.ak (k,t) e else s.ak,vt:=gp s.vt (k,t) (s.Cp k t ||| 2 ^ w)} (N.set a.vt (.dt (ge kP nD (gp s.vt (k,t) (s.Cp k t ||| 2 ^ w))))):=
  ⟨x3.h.ahS (Ch.set rfl) (.inl (by obtain⟨o,q⟩:=x3.h.vt.some;exact ju q)),Ch.one (Ch.set rfl) (uU h.o 4 rfl)⟩
 obtain⟨M5,e5,x5⟩:=ZW x4.h (by have:=hf.tm;show s.tm.length<=1000;omega) k t
 refine⟨M5,?_,x3.trans (x4.trans x5)⟩
 have o2:=aat (s.Cp k t) w
 have e2':bH [.ref a.bl,.int (k:Int),.int t] M1= .ok (.int ((s.Cp k t:Nat):Int)) M2:=e2
 have nn:D.int ((s.Cp k t ||| 2 ^ w:Nat):Int)=nD (s.Cp k t ||| 2 ^ w):=rfl
 simp only[mD,m6]
 simp only[ou,qm,ql,zG,e1,xQ]
 simp[x1.h.rD (m:= "votes_of") rfl,e2',<-hN,e3,o2,x3.h.fvt]
 rw[nn,p]
 simp[x4.h.rD (m:= "reach") rfl,e5]
theorem acs(h:dg M a s)(hl:s.se.length<=1000)(k:Nat)(t:Int):∃M',gh [.ref a.bl,.int (k:Int),.int t] M= .ok .non M'/\Bx M a {s with se:=gp s.se t k} M':=by
 have p:=Z5 h.se t k hl
 refine⟨_,?_,h.akN (Ch.set rfl) (ju h.se),Ch.one (Ch.set rfl) (uU h.o 6 rfl)⟩
 simp only[gh,gm]
 have nn:D.int (k:Int)=nD k:=rfl
 simp[h.fse]
 rw[nn,p]
 simp
theorem abE(h:dg M a s)(hl:s.ln.length<=1000)(k:Nat)(t:Int):∃M',fM [.ref a.sd,.int (k:Int),.int t] M= .ok .non M'/\Bx M a {s with ln:=gp s.ln t (s.row k)} M':=by
 have p:=Z5 h.ln t (s.row k) hl
 have e:=Ji h k
 refine⟨_,?_,h.akO (Ch.set rfl) (ju h.ln),Ch.one (Ch.set rfl) (uU h.o 9 rfl)⟩
 simp only[fM,fV]
 simp[h.KZ (m:= "row_of") rfl,e,h.fln,p]
theorem aaT(h:dg M a s)(hm:s.mr=[])(t u:Int):iU [.ref a.sd,.int t,.int u] M= .ok (.bl true) M:=by
 have e:=abb h.mr t (.int 0)
 rw[hm]at e
 have e1:lY [.ref a.sd,.int t] M= .ok (.int 0) M:=by
  simp only[lY,mR]
  simp at e
  simp[h.fmk,oA h.mr,e]
 simp only[iU,jb]
 simp[h.KZ (m:= "mark") rfl,e1]
theorem Zh{l:List (Int×List En)}:Yo ((ge kI esD l).map λp=>pH p.1):= .flat 0 (by omega) λd hd=>by
 obtain⟨p,hp,rfl⟩:=List.mem_map.mp hd
 obtain⟨q,_,rfl⟩:=List.mem_map.mp hp
 exact⟨_,rfl⟩
theorem mem_keys{l:List (Int×List En)}{d:D}(h:d∈uC ((ge kI esD l).map λp=>pH p.1)):∃t:Int,d= .int t:=by
 obtain⟨p,hp,rfl⟩:=List.mem_map.mp ((nC _).mem_iff.mp h)
 obtain⟨q,_,rfl⟩:=List.mem_map.mp hp
 exact⟨q.1,rfl⟩
structure ajI(M0:Mem)(a:BA)(t:Int)(i:Nat)(e:Sl)(M:Mem):Prop where
 m:M0=M
 e:∃v,e=[some (.ref a.sd),some (.int t),v]
theorem aaP(h:dg M a s)(hm:s.mr=[])(hl:s.ln.length<=60)(t:Int):∃M',fj [.ref a.sd,.int t] M= .ok .non M'/\Bx M a s M':=by
 have sd:=QH h.ln Zh (by rw[O2];omega)
 obtain⟨N,hN⟩:∃N,N=M++[MO.lst (uC ((ge kI esD s.ln).map λp=>pH p.1))]:=⟨_,rfl⟩
 rw[<-hN]at sd
 have g:Gr M N:=by rw[hN];exact Gr.app
 have x:=Bx.gr h g
 have hL:N[M.length]? = some (.lst (uC ((ge kI esD s.ln).map λp=>pH p.1))):=by rw[hN];exact cA
 obtain⟨e',M1,lp,hm1,v,rfl⟩:=uP (src:=some (M.length,uC ((ge kI esD s.ln).map λp=>pH p.1))) (g:=gN 2) (b:=gw) (ajI N a t) (ds:=uC ((ge kI esD s.ln).map λp=>pH p.1)) (e:=[some (.ref a.sd),some (.int t),none]) (M:=N)
  ⟨rfl,_,rfl⟩ (λi e M' _ p=>by rw[<-p.m];exact dM hL) λi d e M' hd p=>by
   obtain⟨pm,v,rfl⟩:=p
   subst pm
   obtain⟨u,rfl⟩:=mem_keys (zab hd)
   refine⟨_,rfl,?_⟩
   have k:=aaT x.h hm
   simp only[gw,lG]
   simp[x.h.KZ (m:= "is_kept") rfl,k]
   exact⟨rfl,_,rfl⟩
 subst hm1
 refine⟨N,?_,x⟩
 simp only[fj,fC,lH]
 simp[h.fln,sd,yM hL,lp]
theorem abo(h:dg M a s)(hm:s.mr=[])(hl:s.ln.length<=60)(t:Int):∃M',iV [.ref a.b,.int t] M= .ok .non M'/\Bx M a s M':=by
 obtain⟨M1,e1,x1⟩:=aaP h hm hl t
 refine⟨M1,?_,x1⟩
 simp only[iV,jc,pM]
 simp[h.fsd,h.KZ (m:= "lost_behind") rfl,e1]
noncomputable def BO.Ec(s:BO)(h:Nat)(t:Int):BO:=if(s.head t).isSome=true then{s with br:= .tup [.str "chairs",.int t]}else{s with se:=gp s.se t h,ln:=gp s.ln t (s.row h)}
theorem afx(h:dg M a s)(d:D):∃M',gR [8] "breach" d (.ref a.b) M=some M'/\Bx M a {s with br:=d} M':=by
 refine⟨_,dJ h.b (by simp) (by simp),?_⟩
 refine⟨h.u_b (Ch.set rfl) (ju h.b),Ch.one (Ch.set rfl) (uU h.o 0 rfl)⟩
theorem afw(h:dg M a s):∃M',gR [8] "count" (.int ((s.cnt:Int)+1)) (.ref a.b) M=some M'/\Bx M a {s with cnt:=s.cnt+1} M':=by
 refine⟨_,dJ h.b (by simp) (by simp),?_⟩
 refine⟨h.u_b (Ch.set rfl) (ju h.b),Ch.one (Ch.set rfl) (uU h.o 0 rfl)⟩
theorem Tr(h:dg M a s)(hf:Few s)(hm:s.mr=[])(hl:s.ln.length<60)(k:Nat)(t:Int):∃M',cI [.ref a.b,.int (k:Int),.int t] M= .ok .non M'/\Bx M a (s.Ec k t) M':=by
 have e0:=Wg h t
 cases c:s.head t with
 | some j=>
  rw[c]at e0
  obtain⟨M1,e1,x1⟩:=afx h (.tup [.str "chairs",.int t])
  refine⟨M1,?_,by simp only[BO.Ec,c];exact x1⟩
  simp only[Option.map_some,Option.getD_some,nD]at e0
  simp only[cI,cJ,fD]
  simp[h.fbl,h.rD (m:= "chair_of") rfl,e0,e1]
 | none=>
  rw[c]at e0
  obtain⟨M1,e1,x1⟩:=acs h (by have:=hf.se;omega) k t
  obtain⟨M2,e2,x2⟩:=abE x1.h (by show s.ln.length<=1000;omega) k t
  obtain⟨M3,e3,x3⟩:=abo x2.h hm (by show(gp s.ln t _).length<=60;exact yY Ey (by omega)) t
  refine⟨M3,?_,by simp only[BO.Ec,c];exact x1.trans (x2.trans x3)⟩
  simp only[Option.map_none,Option.getD_none]at e0
  simp only[cI,cJ,fD]
  simp[h.fbl,h.rD (m:= "chair_of") rfl,e0,h.rD (m:= "take_seat") rfl,e1,x1.h.fsd,x1.h.KZ (m:= "begin_line") rfl,e2,x2.h.Yu (m:= "find_lost") rfl,e3]
theorem Y8(h:dg M a s){x:Str}(hx:OfH x){k y:Nat}{t:Int}{c:Bool}{s3:BO}(ha:∃M',eN [.ref a.b,pap x k t y] M= .ok (.bl c) M'/\Bx M a s M')
  (hf:∀M2,dg M2 a {s with cnt:=s.cnt+1}->∃M',dW [.ref a.b,pap x k t y] M2= .ok .non M'/\Bx M2 a s3 M'):
  (c=true/\∃M',cB [.ref a.b,pap x k t y] M= .ok .non M'/\Bx M a s3 M')\/(c=false/\∃M',cB [.ref a.b,pap x k t y] M= .exc 2 (.int (s.cnt:Int)) M'/\Bx M a s M'):=by
 obtain⟨M1,e1,x1⟩:=ha
 have m1:=h.Yu (m:= "allows") rfl
 have i0:∀M,bN (pap x k t y) (.int 0) M= .ok (.str x) M:=λM=>Jf
 cases c with
 | false=>
  refine .inr ⟨rfl,M1,?_,x1⟩
  simp only[cB,mW,qW,qU]
  simp[m1,e1,x1.h.fcn,one]
 | true=>
  obtain⟨M2,e2,x2⟩:=afw x1.h
  obtain⟨M3,e4,x3⟩:=hf M2 x2.h
  refine .inl ⟨rfl,M3,?_,x1.trans (x2.trans x3)⟩
  simp only[cB,mW,qW,qU]
  simp[m1,e1,x1.h.fcn,e2,i0,agq hx,x2.h.Yu (m:= "follow_hand") rfl,e4]
theorem aeV(h:dg M a s)(hr:s.ro=[])(hf:Few s)(k:Nat)(t:Int){w:Nat}(hw:w<60):
  (s.Fi k t w=true/\∃M',cB [.ref a.b,pV k t w] M= .ok .non M'/\Bx M a ({s with cnt:=s.cnt+1}.cast k t w (0,0)) M')\/(s.Fi k t w=false/\∃M',cB [.ref a.b,pV k t w] M= .exc 2 (.int (s.cnt:Int)) M'/\Bx M a s M'):=
 Y8 h (.inl rfl) (WN h (.inl rfl) (abG h hr k t hw)) λM2 h2=>by
  have r:=Ji h2 k
  have rr:({s with cnt:=s.cnt+1}:BO).row k=[]:=by simp[BO.row,hr]
  rw[rr]at r
  obtain⟨M3,e3,x3⟩:=ad2 h2 ⟨hf.tm,hf.vt,hf.ak,hf.se,hf.ln⟩ k t hw (0,0)
  refine⟨M3,?_,x3⟩
  simp only[dW,dX,iM,iK,pap]
  simp[h2.fbl,h2.fsd,h2.KZ (m:= "row_of") rfl,r,O9,h2.rD (m:= "cast") rfl,e3]
theorem aeW(h:dg M a s)(hr:s.ro=[])(hm:s.mr=[])(hf:Few s)(hl:s.ln.length<60){k:Nat}(hk:k<60)(t:Int){V:Nat}(hV:V<2 ^ 60)(hS:s.S<2 ^ 60):
  (s.Fj k t V=true/\∃M',cB [.ref a.b,pC k t V] M= .ok .non M'/\Bx M a ({s with cnt:=s.cnt+1}.Ec k t) M')\/(s.Fj k t V=false/\∃M',cB [.ref a.b,pC k t V] M= .exc 2 (.int (s.cnt:Int)) M'/\Bx M a s M'):=
 Y8 h (.inr rfl) (WN h (.inr rfl) (abH h hr hk t hV hS)) λM2 h2=>by
  obtain⟨M3,e3,x3⟩:=Tr h2 ⟨hf.tm,hf.vt,hf.ak,hf.se,hf.ln⟩ hm hl k t
  refine⟨M3,?_,x3⟩
  simp only[dW,dX,iM,iK,pap]
  simp[RT,h2.Yu (m:= "follow_to_chair") rfl,e3]
end
section
variable{M:Mem}
theorem Yl{r:Nat}:mz [.ref M.length,.ref r] (M++[.ins 0 []])= .ok .non (M++[.ins 0 [("rules",.ref r),("terms",.ref (M.length+1)),("votes",.ref (M.length+2)),("askings",.ref (M.length+3)),("seated",.ref (M.length+4))],.dk [],.dk [],.dk [],.dk []]):=by
 have p:∀(fs fs':List (Str×D)) (xs:List MO) (cs:List Nat) (f:Str) (d:D),0∈cs->fs.length<1000->putD f d fs=fs'->gR cs f d (.ref M.length) (M++(MO.ins 0 fs::xs))=some (M++(MO.ins 0 fs'::xs)):=λfs fs' xs cs f d hc hl he=>by
  rw[dJ (by simp:(M++(MO.ins 0 fs::xs))[M.length]? = some (.ins 0 fs)) hc hl,he]
  simp
 have p1:=p [] [("rules",.ref r)] [] [0,7,8] "rules" (.ref r) (by simp) (by simp) rfl
 have p2:=p [("rules",.ref r)] [("rules",.ref r),("terms",.ref (M.length+1))] [.dk []] [0] "terms" (.ref (M.length+1)) (by simp) (by simp) rfl
 have p3:=p [("rules",.ref r),("terms",.ref (M.length+1))] [("rules",.ref r),("terms",.ref (M.length+1)),("votes",.ref (M.length+2))] [.dk [],.dk []] [0] "votes" (.ref (M.length+2)) (by simp) (by simp) rfl
 have p4:=p [("rules",.ref r),("terms",.ref (M.length+1)),("votes",.ref (M.length+2))] [("rules",.ref r),("terms",.ref (M.length+1)),("votes",.ref (M.length+2)),("askings",.ref (M.length+3))] [.dk [],.dk [],.dk []] [0] "askings" (.ref (M.length+3)) (by simp) (by simp) rfl
 have p5:=p [("rules",.ref r),("terms",.ref (M.length+1)),("votes",.ref (M.length+2)),("askings",.ref (M.length+3))] [("rules",.ref r),("terms",.ref (M.length+1)),("votes",.ref (M.length+2)),("askings",.ref (M.length+3)),("seated",.ref (M.length+4))] [.dk [],.dk [],.dk [],.dk []] [0] "seated" (.ref (M.length+4)) (by simp) (by simp) rfl
 simp only[mz,mZ]
 simp[p1,p2,p3,p4,p5]
theorem Ze{r:Nat}{dd:D}:lZ [.ref M.length,dd,.ref r] (M++[.ins 7 []])= .ok .non (M++[.ins 7 [("first_roll",dd),("rules",.ref r),("rows",.ref (M.length+1)),("lines",.ref (M.length+2)),("marks",.ref (M.length+3)),("places",.ref (M.length+4))],.dk [],.dk [],.dk [],.dk []]):=by
 have p:∀(fs fs':List (Str×D)) (xs:List MO) (cs:List Nat) (f:Str) (d:D),7∈cs->fs.length<1000->putD f d fs=fs'->gR cs f d (.ref M.length) (M++(MO.ins 7 fs::xs))=some (M++(MO.ins 7 fs'::xs)):=λfs fs' xs cs f d hc hl he=>by
  rw[dJ (by simp:(M++(MO.ins 7 fs::xs))[M.length]? = some (.ins 7 fs)) hc hl,he]
  simp
 have p1:=p [] [("first_roll",dd)] [] [7] "first_roll" (dd) (by simp) (by simp) rfl
 have p2:=p [("first_roll",dd)] [("first_roll",dd),("rules",.ref r)] [] [0,7,8] "rules" (.ref r) (by simp) (by simp) rfl
 have p3:=p [("first_roll",dd),("rules",.ref r)] [("first_roll",dd),("rules",.ref r),("rows",.ref (M.length+1))] [.dk []] [7] "rows" (.ref (M.length+1)) (by simp) (by simp) rfl
 have p4:=p [("first_roll",dd),("rules",.ref r),("rows",.ref (M.length+1))] [("first_roll",dd),("rules",.ref r),("rows",.ref (M.length+1)),("lines",.ref (M.length+2))] [.dk [],.dk []] [7] "lines" (.ref (M.length+2)) (by simp) (by simp) rfl
 have p5:=p [("first_roll",dd),("rules",.ref r),("rows",.ref (M.length+1)),("lines",.ref (M.length+2))] [("first_roll",dd),("rules",.ref r),("rows",.ref (M.length+1)),("lines",.ref (M.length+2)),("marks",.ref (M.length+3))] [.dk [],.dk [],.dk []] [7] "marks" (.ref (M.length+3)) (by simp) (by simp) rfl
 have p6:=p [("first_roll",dd),("rules",.ref r),("rows",.ref (M.length+1)),("lines",.ref (M.length+2)),("marks",.ref (M.length+3))] [("first_roll",dd),("rules",.ref r),("rows",.ref (M.length+1)),("lines",.ref (M.length+2)),("marks",.ref (M.length+3)),("places",.ref (M.length+4))] [.dk [],.dk [],.dk [],.dk []] [7] "places" (.ref (M.length+4)) (by simp) (by simp) rfl
 simp only[lZ,mU]
 simp[p1,p2,p3,p4,p5,p6]
theorem ZV  : mj [.ref M.length] (M++[.ins 5 []])= .ok .non (M++[.ins 5 [("beats",.ref (M.length+1)),("heard",.ref (M.length+2)),("looks",.ref (M.length+3)),("seen",.ref (M.length+4))],.dk [],.dk [],.dk [],.dk []]):=by
 have p:∀(fs fs':List (Str×D)) (xs:List MO) (cs:List Nat) (f:Str) (d:D),5∈cs->fs.length<1000->putD f d fs=fs'->gR cs f d (.ref M.length) (M++(MO.ins 5 fs::xs))=some (M++(MO.ins 5 fs'::xs)):=λfs fs' xs cs f d hc hl he=>by
  rw[dJ (by simp:(M++(MO.ins 5 fs::xs))[M.length]? = some (.ins 5 fs)) hc hl,he]
  simp
 have p1:=p [] [("beats",.ref (M.length+1))] [.dk []] [5] "beats" (.ref (M.length+1)) (by simp) (by simp) rfl
 have p2:=p [("beats",.ref (M.length+1))] [("beats",.ref (M.length+1)),("heard",.ref (M.length+2))] [.dk [],.dk []] [5] "heard" (.ref (M.length+2)) (by simp) (by simp) rfl
 have p3:=p [("beats",.ref (M.length+1)),("heard",.ref (M.length+2))] [("beats",.ref (M.length+1)),("heard",.ref (M.length+2)),("looks",.ref (M.length+3))] [.dk [],.dk [],.dk []] [5] "looks" (.ref (M.length+3)) (by simp) (by simp) rfl
 have p4:=p [("beats",.ref (M.length+1)),("heard",.ref (M.length+2)),("looks",.ref (M.length+3))] [("beats",.ref (M.length+1)),("heard",.ref (M.length+2)),("looks",.ref (M.length+3)),("seen",.ref (M.length+4))] [.dk [],.dk [],.dk [],.dk []] [5] "seen" (.ref (M.length+4)) (by simp) (by simp) rfl
 simp only[mj,mV]
 simp[p1,p2,p3,p4]
def adr(b n:Nat):BA:=⟨b,b+1,n,n+1,n+2,n+3,n+4,n+5,n+6,n+7,n+8,n+9,n+10,n+11,n+12,n+13,n+14⟩
def b0(S:Nat)(r1 r2 r3 r4:Bool):BO:=⟨S,r1,r2,r3,r4,0,.non,[],[],[],[],[],[],[],[],[],[],[],[]⟩
theorem R_{S:Nat}{r:D}{b1 b2 b3 b4:Bool}{N1:Mem}
  (hr:∀(o:MO) (e:Sl),mIf (aZ (aD sIs (aq 2) (mC .non))) (rZ 6 fO 2 [(.str "once best own most")] aK) (bI 6 "twin" l_ 1 [] (aq 2) aK) [some (.ref M.length),some (.int (S:Int)),some r] (M++[.ins 8 [("first",.int (S:Int))]])= .ok (.ref (M.length+1)) N1)
  (g:Gr (M++[.ins 8 [("first",.int (S:Int))]]) N1) (hN:N1[M.length+1]? = some (tK b1 b2 b3 b4)):
  ∃M',fP [.ref M.length,.int (S:Int),r] (M++[.ins 8 []])= .ok .non M'/\dg M' (adr M.length N1.length) (b0 S b1 b2 b3 b4)/\Gr M M':=by
 have hl:=yF hN
 obtain⟨a,ha⟩:∃a,a=adr M.length N1.length:=⟨_,rfl⟩
 have h1:N1[M.length]? = some (.ins 8 [("first",.int (S:Int))]):=g _ _ (by simp)
 have p1:gR [8] "first" (.int (S:Int)) (.ref M.length) (M++[.ins 8 []])=some (M++[.ins 8 [("first",.int (S:Int))]]):=by
  rw[dJ (by simp:(M++[MO.ins 8 []])[M.length]? = some (.ins 8 [])) (by simp) (by simp)]
  simp[putD]
 have p2:gR [0,7,8] "rules" (.ref (M.length+1)) (.ref M.length) N1=some (N1.set M.length (.ins 8 [("first",.int (S:Int)),("rules",.ref (M.length+1))])):=by
  rw[dJ h1 (by simp) (by simp)];rfl
 obtain⟨A,hA⟩:∃A,A=N1.set M.length (.ins 8 [("first",.int (S:Int)),("rules",.ref (M.length+1))]):=⟨_,rfl⟩
 have lA:A.length=N1.length:=by rw[hA,List.length_set]
 have hA0:A[M.length]? = some (.ins 8 [("first",.int (S:Int)),("rules",.ref (M.length+1))]):=by rw[hA];exact get_set h1
 have fA:mH [0,7,8] "rules" (.ref M.length) A= .ok (.ref (M.length+1)) A:=cR hA0 (by simp) rfl
 have e3:=Yl (M:=A) (r:=M.length+1)
 obtain⟨B0,hB0⟩:∃B0,B0=A++[MO.ins 0 [("rules",.ref (M.length+1)),("terms",.ref (A.length+1)),("votes",.ref (A.length+2)),("askings",.ref (A.length+3)),("seated",.ref (A.length+4))],.dk [],.dk [],.dk [],.dk []]:=⟨_,rfl⟩
 rw[<-hB0]at e3
 have ajj:B0[M.length]? = some (.ins 8 [("first",.int (S:Int)),("rules",.ref (M.length+1))]):=by rw[hB0];exact Gr.app _ _ hA0
 have p3:gR [8] "ballots" (.ref A.length) (.ref M.length) B0=some (B0.set M.length (.ins 8 [("first",.int (S:Int)),("rules",.ref (M.length+1)),("ballots",.ref A.length)])):=by
  rw[dJ ajj (by simp) (by simp)];rfl
 obtain⟨B,hB⟩:∃B,B=B0.set M.length (.ins 8 [("first",.int (S:Int)),("rules",.ref (M.length+1)),("ballots",.ref A.length)]):=⟨_,rfl⟩
 have lB:B.length=A.length+5:=by rw[hB,List.length_set,hB0];simp
 have hB1:B[M.length]? = some (.ins 8 [("first",.int (S:Int)),("rules",.ref (M.length+1)),("ballots",.ref A.length)]):=by rw[hB];exact get_set ajj
 have fB:mH [0,7,8] "rules" (.ref M.length) B= .ok (.ref (M.length+1)) B:=cR hB1 (by simp) rfl
 have e4:=Ze (M:=B) (r:=M.length+1) (dd:= .tup [.int (S:Int),.int 0])
 obtain⟨C0,hC0⟩:∃C0,C0=B++[MO.ins 7 [("first_roll",.tup [.int (S:Int),.int 0]),("rules",.ref (M.length+1)),("rows",.ref (B.length+1)),("lines",.ref (B.length+2)),("marks",.ref (B.length+3)),("places",.ref (B.length+4))],.dk [],.dk [],.dk [],.dk []]:=⟨_,rfl⟩
 rw[<-hC0]at e4
 have aji:C0[M.length]? = some (.ins 8 [("first",.int (S:Int)),("rules",.ref (M.length+1)),("ballots",.ref A.length)]):=by rw[hC0];exact Gr.app _ _ hB1
 have p4:gR [8] "strides" (.ref B.length) (.ref M.length) C0=some (C0.set M.length (.ins 8 [("first",.int (S:Int)),("rules",.ref (M.length+1)),("ballots",.ref A.length),("strides",.ref B.length)])):=by
  rw[dJ aji (by simp) (by simp)];rfl
 obtain⟨C,hC⟩:∃C,C=C0.set M.length (.ins 8 [("first",.int (S:Int)),("rules",.ref (M.length+1)),("ballots",.ref A.length),("strides",.ref B.length)]):=⟨_,rfl⟩
 have lC:C.length=B.length+5:=by rw[hC,List.length_set,hC0];simp
 have hC1:C[M.length]? = some (.ins 8 [("first",.int (S:Int)),("rules",.ref (M.length+1)),("ballots",.ref A.length),("strides",.ref B.length)]):=by rw[hC];exact get_set aji
 have e5:=ZV (M:=C)
 obtain⟨E0,hE0⟩:∃E0,E0=C++[MO.ins 5 [("beats",.ref (C.length+1)),("heard",.ref (C.length+2)),("looks",.ref (C.length+3)),("seen",.ref (C.length+4))],.dk [],.dk [],.dk [],.dk []]:=⟨_,rfl⟩
 rw[<-hE0]at e5
 have adD:E0[M.length]? = some (.ins 8 [("first",.int (S:Int)),("rules",.ref (M.length+1)),("ballots",.ref A.length),("strides",.ref B.length)]):=by rw[hE0];exact Gr.app _ _ hC1
 have p5:gR [8] "replies" (.ref C.length) (.ref M.length) E0=some (E0.set M.length (.ins 8 [("first",.int (S:Int)),("rules",.ref (M.length+1)),("ballots",.ref A.length),("strides",.ref B.length),("replies",.ref C.length)])):=by
  rw[dJ adD (by simp) (by simp)];rfl
 have p6:gR [8] "count" (.int 0) (.ref M.length) (E0.set M.length (.ins 8 [("first",.int (S:Int)),("rules",.ref (M.length+1)),("ballots",.ref A.length),("strides",.ref B.length),("replies",.ref C.length)]))=some (E0.set M.length (.ins 8 [("first",.int (S:Int)),("rules",.ref (M.length+1)),("ballots",.ref A.length),("strides",.ref B.length),("replies",.ref C.length),("count",.int 0)])):=by
  rw[dJ (get_set adD) (by simp) (by simp),List.set_set];rfl
 have p7:gR [8] "breach" .non (.ref M.length) (E0.set M.length (.ins 8 [("first",.int (S:Int)),("rules",.ref (M.length+1)),("ballots",.ref A.length),("strides",.ref B.length),("replies",.ref C.length),("count",.int 0)]))=some (E0.set M.length (J4 a S 0 .non)):=by
  rw[dJ (get_set adD) (by simp) (by simp),List.set_set,ha,lC,lB,lA];rfl
 obtain⟨Z,hZ⟩:∃Z,Z=E0.set M.length (J4 a S 0 .non):=⟨_,rfl⟩
 rw[<-hZ]at p7
 refine⟨Z,?_,?_,?_⟩
 ·simp only[fP,fW]
  have hr':=hr (.dk []) []
  simp[p1]
  simp at hr'
  simp[hr',p2,<-hA,fA,e3,p3,<-hB,fB,e4,p4,<-hC,e5,p5,p6,p7]
 ·
  have kA:∀i o,i≠M.length->N1[i]? = some o->A[i]? = some o:=λi o hi h=>by rw[hA];exact qp h hi
  have kB:∀i o,i≠M.length->A[i]? = some o->B[i]? = some o:=λi o hi h=>by rw[hB];exact qp (by rw[hB0];exact Gr.app _ _ h) hi
  have kC:∀i o,i≠M.length->B[i]? = some o->C[i]? = some o:=λi o hi h=>by rw[hC];exact qp (by rw[hC0];exact Gr.app _ _ h) hi
  have kE:∀i o,i≠M.length->C[i]? = some o->Z[i]? = some o:=λi o hi h=>by rw[hZ];exact qp (by rw[hE0];exact Gr.app _ _ h) hi
  have qB:∀(j:Nat) (o:MO),([MO.ins 0 [("rules",.ref (M.length+1)),("terms",.ref (A.length+1)),("votes",.ref (A.length+2)),("askings",.ref (A.length+3)),("seated",.ref (A.length+4))],.dk [],.dk [],.dk [],.dk []]:List MO)[j]? = some o->Z[N1.length+j]? = some o:=λj o h=>
   kE _ _ (by omega) (kC _ _ (by omega) (by rw[hB];refine qp ?_ (by omega);rw[hB0,zaf (by omega),lA,Nat.add_sub_cancel_left,<-lA];exact h))
  have qC:∀(j:Nat) (o:MO),([MO.ins 7 [("first_roll",.tup [.int (S:Int),.int 0]),("rules",.ref (M.length+1)),("rows",.ref (B.length+1)),("lines",.ref (B.length+2)),("marks",.ref (B.length+3)),("places",.ref (B.length+4))],.dk [],.dk [],.dk [],.dk []]:List MO)[j]? = some o->Z[N1.length+5+j]? = some o:=λj o h=>
   kE _ _ (by omega) (by rw[hC];refine qp ?_ (by omega);rw[hC0,zaf (by omega),show N1.length+5+j - B.length=j by omega];exact h)
  have qE:∀(j:Nat) (o:MO),([MO.ins 5 [("beats",.ref (C.length+1)),("heard",.ref (C.length+2)),("looks",.ref (C.length+3)),("seen",.ref (C.length+4))],.dk [],.dk [],.dk [],.dk []]:List MO)[j]? = some o->Z[N1.length+10+j]? = some o:=λj o h=>by
   rw[hZ]
   refine qp ?_ (by omega)
   rw[hE0,zaf (by omega),show N1.length+10+j - C.length=j by omega];exact h
  have hz0:Z[M.length]? = some (J4 (adr M.length N1.length) S 0 .non):=by rw[hZ,<-ha];exact get_set adD
  have eA:A.length=N1.length:=lA
  have eB:B.length=N1.length+5:=by omega
  have eC:C.length=N1.length+10:=by omega
  rw[eA]at qB
  rw[eB]at qC
  rw[eC]at qE
  refine⟨?_,?_,?_,?_,.inr ⟨?_,rfl⟩,.inr ⟨?_,rfl⟩,?_,?_,?_,?_,?_,.inr ⟨?_,rfl⟩,?_,?_,.inr ⟨?_,rfl⟩,.inr ⟨?_,rfl⟩,.inr ⟨?_,rfl⟩,?_⟩
  ·exact hz0
  ·exact kE _ _ (by simp[adr]) (kC _ _ (by simp[adr]) (kB _ _ (by simp[adr]) (kA _ _ (by simp[adr]) hN)))
  ·exact qB 0 _ rfl
  ·exact qB 1 _ rfl
  ·exact qB 2 _ rfl
  ·exact qB 3 _ rfl
  ·exact qB 4 _ rfl
  ·exact qC 0 _ rfl
  ·exact qC 1 _ rfl
  ·exact qC 2 _ rfl
  ·exact qC 3 _ rfl
  ·exact qC 4 _ rfl
  ·exact qE 0 _ rfl
  ·exact qE 1 _ rfl
  ·exact qE 2 _ rfl
  ·exact qE 3 _ rfl
  ·exact qE 4 _ rfl
  ·simp only[adr];omega
 ·
  intro i o h
  have hi:=yF h
  have h':N1[i]? = some o:=g _ _ (Gr.app _ _ h)
  rw[hZ]
  refine qp ?_ (by omega)
  rw[hE0]
  refine Gr.app _ _ ?_
  rw[hC]
  refine qp ?_ (by omega)
  rw[hC0]
  refine Gr.app _ _ ?_
  rw[hB]
  refine qp ?_ (by omega)
  rw[hB0]
  refine Gr.app _ _ ?_
  rw[hA]
  exact qp h' (by omega)
theorem J3{S:Nat}:∃a M',fP [.ref M.length,.int (S:Int),.non] (M++[.ins 8 []])= .ok .non M'/\a.b=M.length/\dg M' a (b0 S true true true true)/\Gr M M':=by
 obtain⟨N1,e,g,o⟩:=Jh (M:=M++[.ins 8 [("first",.int (S:Int))]])
 have l:(M++[MO.ins 8 [("first",.int (S:Int))]]).length=M.length+1:=by simp
 rw[l]at e o
 obtain⟨M',e',h,g'⟩:=R_ (M:=M) (S:=S) (r:= .non) (N1:=N1) (λ_ _=>by simp at e;simp[e]) g o
 exact⟨_,M',e',rfl,h,g'⟩
theorem abD{S r:Nat}{b1 b2 b3 b4:Bool}(hR:M[r]? = some (tK b1 b2 b3 b4)):∃a M',fP [.ref M.length,.int (S:Int),.ref r] (M++[.ins 8 []])= .ok .non M'/\a.b=M.length/\dg M' a (b0 S b1 b2 b3 b4)/\Gr M M':=by
 have hR':=Gr.app (xs:=[MO.ins 8 [("first",.int (S:Int))]]) _ _ hR
 obtain⟨N1,e,g,o⟩:=T6 hR'
 have l:(M++[MO.ins 8 [("first",.int (S:Int))]]).length=M.length+1:=by simp
 rw[l]at e o
 have me:uO 6 "twin" (.ref r) (M++[MO.ins 8 [("first",.int (S:Int))]])=true:=yN hR' rfl
 obtain⟨M',e',h,g'⟩:=R_ (M:=M) (S:=S) (r:= .ref r) (N1:=N1) (λ_ _=>by simp[me,e]) g o
 exact⟨_,M',e',rfl,h,g'⟩
end
def cell(ns:List Int)(k:Nat):Int:=ns.getD k 0
theorem Ww{M:Mem}(ns:List Int)(k:Nat){kk:Int}(hk:kk=k):dh [.cl (ns.map D.int),.int kk] M= .ok (.int (cell ns k)) M:=by
 subst hk
 simp only[dh,oK,wK]
 by_cases h:k<ns.length
 ·have e:bN (.cl (ns.map D.int)) (.int k) M= .ok (.int ns[k]) M:=afh (by omega) (by simp[h])
  simp[h,e,cell]
 ·simp[h,cell]
theorem adT{α β:Type}(f:α->β)(xs:List α)(lo hi:Option Int):cut (xs.map f) lo hi=(cut xs lo hi).map f:=by
 unfold cut
 rw[zar,List.map_take,List.map_drop]
def Dat(k:Nat)(d:D):Prop:=∃t,∀M:Mem,jT M k d=some t
theorem Wr{k:Nat}{i:Int}:Dat (k+1) (.int i):=⟨_,λ_=>rfl⟩
theorem adP{k:Nat}{i:Str}:Dat (k+1) (.str i):=⟨_,λ_=>rfl⟩
theorem agJ{k:Nat}{i:Bool}:Dat (k+1) (.bl i):=⟨_,λ_=>rfl⟩
theorem adQ{k:Nat}:Dat (k+1) .non:=⟨_,λ_=>rfl⟩
theorem Wt{k:Nat}{ds:List D}(h:∀d∈ds,Dat k d):∃ts,∀M:Mem,Bu (jT M k) ds=some ts:=by
 induction ds with
 | nil=>exact⟨[],λM=>rfl⟩
 | cons d r ih=>
  obtain⟨ts,q⟩:=ih λx hx=>h x (yT _ hx)
  obtain⟨t,q2⟩:=h d xB
  exact⟨t::ts,λM=>by simp only[Bu,q2 M,q M]⟩
theorem Pb{k:Nat}{ds:List D}(h:∀d∈ds,Dat k d):Dat (k+1) (.tup ds):=by
 obtain⟨ts,q⟩:=Wt h
 exact⟨.tup ts,λM=>by show(Bu (jT M k) ds).map Dt.tup=_;rw[q M];rfl⟩
theorem aby{d:D}(h:Dat 12 d)(M:Mem):RK M d d=some true:=by
 obtain⟨t,q⟩:=h
 exact abq (q M)
theorem Ma{M:Mem}{n m:Nat}{ds:List D}(h:∀d∈ds,Dat 11 d)(h1:M[n]? = some (.lst ds))(h2:M[m]? = some (.lst ds)):RK M (.ref n) (.ref m)=some true:=by
 obtain⟨ts,q⟩:=Wt h
 have e:∀{n:Nat},M[n]? = some (.lst ds)->jT M 12 (.ref n)=some (.lst ts):=λ{n} h=>by
  show(match nj M n with | some ds=>(Bu (jT M 11) ds).map Dt.lst | none=>none)=_
  rw[dM h]
  show(Bu (jT M 11) ds).map Dt.lst=_
  rw[q M]
  rfl
 rw[O7 (e h1) (e h2),yW]
noncomputable def pcn:Nat->Nat->Nat
 | 0,_=>0
 | k+1,n=>n % 2+pcn k (n / 2)
theorem Q4:∀k,pcn k 0=0
 | 0=>rfl
 | k+1=>by simp[pcn,Q4 k]
theorem VN:∀(k n:Nat),((List.range k).filter λh=>n.testBit h).length=pcn k n
 | 0,n=>rfl
 | k+1,n=>by
  have ih:=VN k (n / 2)
  have e:(λh=>n.testBit h)∘Nat.succ=λh=>(n / 2).testBit h:=by
   funext h
   exact Nat.testBit_succ n h
  rw[List.range_succ_eq_map,List.filter_cons,List.filter_map,e,pcn]
  rcases Nat.mod_two_eq_zero_or_one n with z | z
  ·have:n.testBit 0=false:=by simp[Nat.testBit_zero,z]
   simp[this,ih,z]
  ·have:n.testBit 0=true:=by simp[Nat.testBit_zero,z]
   simp[this,ih,z]
   omega
theorem ac5(n:Nat):pcn 60 n=HM.cnt n:=(VN 60 n).symm
theorem aaD{M:Mem}:∀(k n:Nat) (c:Int),n<2 ^ k->Kq jG pQ (k+1) [some (.int (n:Int)),some (.int c)] M= .next [some (.int 0),some (.int (c+pcn k n))] M:=by
 intro k
 induction k with
 | zero=>
  intro n c h
  have z:n=0:=by simpa using h
  subst z
  unfold Kq
  simp[jG,pcn]
 | succ k ih=>
  intro n c h
  by_cases z:n=0
  ·subst z
   unfold Kq
   simp[jG,Q4]
  ·have h2:n / 2<2 ^ k:=by rw[Nat.pow_succ]at h;omega
   have q:=ih (n / 2) (c+(n:Int) % 2) h2
   have e1:((n / 2:Nat):Int)=(n:Int) / 2:=by omega
   rw[e1]at q
   have d:m9 (.int (n:Int)) (.int 2) M= .ok (.int ((n:Int) / 2)) M:=oV (by omega) (by omega)
   have m:gY (.int (n:Int)) (.int 2) M= .ok (.int ((n:Int) % 2)) M:=jV (by omega)
   have c1:jG [some (.int (n:Int)),some (.int c)] M= .ok true M:=by
    simp only[jG]
    simp
    omega
   have b1:pQ [some (.int (n:Int)),some (.int c)] M= .next [some (.int ((n:Int) / 2)),some (.int (c+(n:Int) % 2))] M:=by
    simp only[pQ]
    simp[m,d]
   unfold Kq
   rw[c1]
   simp only[b1]
   rw[q,pcn]
   have e2:c+(n:Int) % 2+(pcn k (n / 2):Nat)=c+((n % 2+pcn k (n / 2):Nat):Int):=by omega
   rw[e2]
theorem Rk{M:Mem}{n:Nat}(h:n<2 ^ 60):qP [.int (n:Int)] M= .ok (.int (HM.cnt n:Nat)) M:=by
 have w:=Lj (aaD (M:=M) 60 n 0 h) (λz=>nomatch z)
 rw[ac5]at w
 simp only[qP,wC,Cr]
 simp[w]
set_option genInjectivity false in
structure LP where
 hl:Nat
 k0:Nat
 k1:Nat
 k2:Nat
 sl:Nat
 c:Nat
 cs:List Int
def hds(c:Nat):List Nat:=[c,c+11,c+22,c+33,c+44]
structure pI(M:Mem)(a:BA)(s:BO)(p:LP)(tm:List (Nat×Int))(vt:List ((Nat×Int)×Nat))(o2:MO):Prop where
 b:dg M a s
 d0:M[p.k0]? = some (.dk (ge kN D.int tm))
 d1:Kp M p.k1 (ge kP nD vt)
 d2:M[p.k2]? = some o2
 hs:M[p.hl]? = some (.lst (hv (hds p.c)))
 sc:M[p.sl]? = some (.lst (p.cs.map D.int))
 o:p.hl<a.b/\a.sn<p.k0/\p.k0<p.k1/\p.k1<p.k2/\p.k2<p.sl
 c:p.c<16
section
variable{M M':Mem}{a:BA}{s s':BO}{p:LP}{tm:List (Nat×Int)}{vt:List ((Nat×Int)×Nat)}{o2:MO}
theorem pI.bx(h:pI M a s p tm vt o2)(x:Bx M a s' M'):pI M' a s' p tm vt o2:=by
 have o:=h.o
 have n:∀i,a.sn<i->¬Rg a i:=λi hi z=>by have:i<=a.sn:=z.2;omega
 have n':¬Rg a p.hl:=λz=>by have:a.b<=p.hl:=z.1;omega
 exact⟨x.h,x.c.2 _ _ (n _ (by omega)) h.d0,h.d1.ch x.c (n _ (by omega)),x.c.2 _ _ (n _ (by omega)) h.d2,x.c.2 _ _ n' h.hs,x.c.2 _ _ (n _ (by omega)) h.sc,h.o,h.c⟩
theorem pI.gr(h:pI M a s p tm vt o2)(g:Gr M M'):pI M' a s p tm vt o2:=h.bx (Bx.gr h.b g)
theorem pI.up(h:pI M a s p tm vt o2)(c:Ch (λi=>M.length<=i) M M'):pI M' a s p tm vt o2:=by
 have o:=h.o
 have q:=yF h.sc
 have n:∀{i:Nat} {x:MO},M[i]? = some x->¬M.length<=i:=λe=>Nat.not_le.mpr (yF e)
 obtain⟨_,e1⟩:=h.d1.some
 exact⟨h.b.ch c (λi _ z e=>by have:M.length<=i:=e;omega),c.2 _ _ (n h.d0) h.d0,h.d1.ch c (n e1),c.2 _ _ (n h.d2) h.d2,c.2 _ _ (n h.hs) h.hs,c.2 _ _ (n h.sc) h.sc,h.o,h.c⟩
theorem pI.u1(h:pI M a s p tm vt o2){vt':List ((Nat×Int)×Nat)}(c:Ch (· = p.k1) M M')(t:Kp M' p.k1 (ge kP nD vt')):pI M' a s p tm vt' o2:=by
 have o:=h.o
 have q:a.b<=a.sn:=(uU h.b.o 0 rfl).2
 exact⟨h.b.ch c (λi _ z e=>by have:i=p.k1:=e;omega),c.2 _ _ (show p.k0≠p.k1 by omega) h.d0,t,c.2 _ _ (show p.k2≠p.k1 by omega) h.d2,c.2 _ _ (show p.hl≠p.k1 by omega) h.hs,c.2 _ _ (show p.sl≠p.k1 by omega) h.sc,h.o,h.c⟩
theorem pI.u0(h:pI M a s p tm vt o2){tm':List (Nat×Int)}(c:Ch (· = p.k0) M M')(t:M'[p.k0]? = some (.dk (ge kN D.int tm'))):pI M' a s p tm' vt o2:=by
 have o:=h.o
 have q:a.b<=a.sn:=(uU h.b.o 0 rfl).2
 exact⟨h.b.ch c (λi _ z e=>by have:i=p.k0:=e;omega),t,h.d1.ch c (show p.k1≠p.k0 by omega),c.2 _ _ (show p.k2≠p.k0 by omega) h.d2,c.2 _ _ (show p.hl≠p.k0 by omega) h.hs,c.2 _ _ (show p.sl≠p.k0 by omega) h.sc,h.o,h.c⟩
theorem pI.u2(h:pI M a s p tm vt o2){o3:MO}(c:Ch (· = p.k2) M M')(t:M'[p.k2]? = some o3):pI M' a s p tm vt o3:=by
 have o:=h.o
 have q:a.b<=a.sn:=(uU h.b.o 0 rfl).2
 exact⟨h.b.ch c (λi _ z e=>by have:i=p.k2:=e;omega),c.2 _ _ (show p.k0≠p.k2 by omega) h.d0,h.d1.ch c (show p.k1≠p.k2 by omega),t,c.2 _ _ (show p.hl≠p.k2 by omega) h.hs,c.2 _ _ (show p.sl≠p.k2 by omega) h.sc,h.o,h.c⟩
def kn(p:LP):D:= .tup [.ref p.k0,.ref p.k1,.ref p.k2]
@[simp] theorem kn0:bN (kn p) (.int 0) M= .ok (.ref p.k0) M:=Jf
@[simp] theorem kn1:bN (kn p) (.int 1) M= .ok (.ref p.k1) M:=ZJ
@[simp] theorem kn2:bN (kn p) (.int 2) M= .ok (.ref p.k2) M:=ZG
def tv(tm:List (Nat×Int))(h:Nat):Int:=(gv tm h).getD 0
def vv(vt:List ((Nat×Int)×Nat))(h:Nat)(t:Int):Nat:=(gv vt (h,t)).getD 0
theorem pI.adG(h:pI M a s p tm vt o2)(k:Nat):z9 (.ref p.k0) (.int (k:Int)) (.int 0) M= .ok (.int (tv tm k)) M:=by
 have e:=aa_ h.d0 k (.int 0)
 rw[abe]at e
 exact e
theorem pI.Uy(h:pI M a s p tm vt o2)(k:Nat)(t:Int):∃M',z9 (.ref p.k1) (.tup [.int (k:Int),.int t]) (.int 0) M= .ok (.int (vv vt k t:Nat)) M'/\pI M' a s p tm vt o2:=by
 obtain⟨M',e,tt,c⟩:=aa9 h.d1 (k,t) (.int 0)
 rw[abd]at e
 exact⟨M',e,h.u1 c tt⟩
theorem Uw{c h:Nat}(hc:c<16)(hh:h∈hds c):h<60:=by
 simp[hds]at hh
 omega
theorem Wi{c:Nat}{i:Nat}(hi:i<5):(hds c)[i]? = some (c+11*i):=by
 match i,hi with
 | 0,_=>rfl
 | 1,_=>rfl
 | 2,_=>rfl
 | 3,_=>rfl
 | 4,_=>rfl
theorem pI.ixh(h:pI M a s p tm vt o2){i:Int}(h0:0<=i)(h5:i<5):∃k:Nat,k∈hds p.c/\k=p.c+11*i.toNat/\bN (.ref p.hl) (.int i) M= .ok (.int (k:Int)) M:=by
 have e:=Wi (c:=p.c) (i:=i.toNat) (by omega)
 refine⟨p.c+11*i.toNat,zab e,rfl,vL h.hs h0 ?_⟩
 simp only[hv,zaq,e]
 rfl
theorem CP(n w:Nat):decide (Builtin.bitAnd ((n:Int) / 2 ^ ((w:Int)).toNat) 1=1)=n.testBit w:=by
 have:=acq n w
 rw[Int.zero_add]at this
 exact this
theorem QC(n w:Nat):decide (Builtin.bitAnd ((n:Int) / 2 ^ ((w:Int)).toNat) 1=0)= !n.testBit w:=by
 have e:=CP n w
 obtain⟨m,hm,hl⟩:=HM.lJ ((n:Int) / 2 ^ ((w:Int)).toNat) 1
 have hm':Builtin.bitAnd ((n:Int) / 2 ^ ((w:Int)).toNat) 1=(m:Int):=hm
 rw[hm']at e ⊢
 rw[<-e]
 have:m=0\/m=1:=by omega
 rcases this with rfl | rfl<;>simp
theorem Ea{w:Nat}{n:Int}:Bm (.int n) (.int (w:Int)) M= .ok (.int (n / 2 ^ ((w:Int)).toNat)) M:=Vu (by omega)
noncomputable def WX(tm:List (Nat×Int))(vt:List ((Nat×Int)×Nat))(once:Bool)(h:Nat)(t:Int)(w:Nat):Bool:=
 if t<1\/t<tv tm h\/(vv vt h t).testBit w=true\/(once=true/\vv vt h t≠0)then false else if w=h then decide (tv tm h<t)else(vv vt w t).testBit w
def VZ(tm:List (Nat×Int))(vt:List ((Nat×Int)×Nat))(once:Bool)(k:Nat)(t:Int)(w:Nat):Prop:=t<1\/t<tv tm k\/(vv vt k t).testBit w=true\/(once=true/\vv vt k t≠0)
open Classical in
theorem vd1(x1:pI M a s p tm vt o2)(k:Nat)(t:Int)(w:Nat)(once:Bool):nU [some (kn p),some (.int (k:Int)),some (.int t),some (.int (w:Int)),some (.bl once),some (.int (vv vt k t:Nat))] M
  = if VZ tm vt once k t w then .ret (.bl false) M else .next [some (kn p),some (.int (k:Int)),some (.int t),some (.int (w:Int)),some (.bl once),some (.int (vv vt k t:Nat))] M:=by
 have g0:=x1.adG k
 have i0:=oA x1.d0
 have sb:=CP (vv vt k t) w
 simp only[nU]
 by_cases z1:t<1
 ·rw[if_pos (.inl z1)];simp[z1]
 ·by_cases z2:t<tv tm k
  ·rw[if_pos (.inr (.inl z2))];simp[z1,i0,g0,z2]
  ·cases z3:(vv vt k t).testBit w with
   | true=>
    rw[z3]at sb
    have sb':=zaj sb
    rw[if_pos (.inr (.inr (.inl z3)))]
    simp[z1,i0,g0,z2,Ea]
    simp at sb'
    simp[sb']
   | false=>
    rw[z3]at sb
    have sb':=zak sb
    simp at sb'
    by_cases z4:once=true/\vv vt k t≠0
    ·rw[if_pos (.inr (.inr (.inr z4)))]
     simp[z1,i0,g0,z2,Ea,sb',z4.1,z4.2]
    ·rw[if_neg (by rintro(q | q | q | q);exact z1 q;exact z2 q;rw[z3]at q;cases q;exact z4 q)]
     cases once with
     | false=>simp[z1,i0,g0,z2,Ea,sb']
     | true=>
      have z5:vv vt k t=0:=by simpa using z4
      simp[z1,i0,g0,z2,Ea,sb',eq_true z5]
theorem ab3(h:pI M a s p tm vt o2)(k:Nat)(t:Int)(w:Nat)(once:Bool):∃M',eG [kn p,.int (k:Int),.int t,.int (w:Int),.bl once] M= .ok (.bl (WX tm vt once k t w)) M'/\pI M' a s p tm vt o2:=by
 obtain⟨M1,e1,x1⟩:=h.Uy k t
 have g0:=x1.adG k
 have i0:=oA x1.d0
 have i1:=h.d1.dic
 have v:=vd1 x1 k t w once
 by_cases z:VZ tm vt once k t w
 ·rw[if_pos z]at v
  refine⟨M1,?_,x1⟩
  have hd:WX tm vt once k t w=false:=if_pos z
  rw[hd]
  simp only[eG,gK]
  simp[i1,e1,v]
 ·rw[if_neg z]at v
  by_cases z5:w=k
  ·subst z5
   refine⟨M1,?_,x1⟩
   have hd:WX tm vt once w t w=decide (tv tm w<t):=(if_neg z).trans (if_pos rfl)
   rw[hd]
   simp only[eG,gK,nR]
   simp[i1,e1,v,i0,g0]
  ·obtain⟨M2,e2,x2⟩:=x1.Uy w t
   have i2:=x1.d1.dic
   have z5':¬((w:Int)=(k:Int)):=by omega
   have sw:=CP (vv vt w t) w
   refine⟨M2,?_,x2⟩
   have hd:WX tm vt once k t w=(vv vt w t).testBit w:=(if_neg z).trans (if_neg z5)
   rw[hd,<-sw]
   simp only[eG,gK,nR]
   simp[i1,e1,v,Ea,z5',i2,e2]
end
section
variable{M M':Mem}{a:BA}{s s':BO}{p:LP}{tm:List (Nat×Int)}{vt:List ((Nat×Int)×Nat)}{se:List (Int×Nat)}{o2:MO}
def Sh(vt:List ((Nat×Int)×Nat))(V:Nat)(t:Int)(h:Nat):Bool:=(HM.fu V).all λv=>(vv vt v t).testBit h
noncomputable def Pj(tm:List (Nat×Int))(vt:List ((Nat×Int)×Nat))(se:List (Int×Nat))(S:Nat)(half:Bool)(h:Nat)(t:Int)(V:Nat):Bool:=
 if t<1\/tv tm h≠t\/(vv vt h t).testBit h=false then false else if Sh vt V t h=false then false else if gv se t=some h then false else decide (HM.cnt S<2*HM.cnt (S &&& V)+if half=true then 1 else 0)
structure abP(a:BA)(s:BO)(p:LP)(tm:List (Nat×Int))(vt:List ((Nat×Int)×Nat))(o2:MO)(V:Nat)(t:Int)(k:Nat)(e0:Sl)(i:Nat)(e:Sl)(M:Mem):Prop where
 l:pI M a s p tm vt o2
 e:∃v,e=e0++[v]
 g:∀v,v<i->V.testBit v=true->(vv vt v t).testBit k=true
theorem T9:Ky [.int 60] M= .ok ⟨none,zY 0 60⟩ M:=Dc (by omega) (by omega)
theorem ad0{V k:Nat}{t:Int}{dS dH:D}{i:Nat}{d:D}{e:Sl}{M2:Mem}(hd:(zY 0 60)[i]? = some d)(h:abP a s p tm vt o2 V t k [some (kn p),some (.int (k:Int)),some (.int t),some (.int (V:Int)),some dS,some dH] i e M2):
  ∃e1,gN 6 d e=some e1/\(dI e1 M2).to (abP a s p tm vt o2 V t k [some (kn p),some (.int (k:Int)),some (.int t),some (.int (V:Int)),some dS,some dH] (i+1)) λr M3=>r= .bl false/\pI M3 a s p tm vt o2/\∃v,v<60/\V.testBit v=true/\(vv vt v t).testBit k=false:=by
 obtain⟨l,⟨v,rfl⟩,g⟩:=h
 obtain⟨hi,rfl⟩:=HB hd
 rw[Int.zero_add]
 refine⟨_,rfl,?_⟩
 have sV:=CP V i
 cases z:V.testBit i with
 | false=>
  rw[z]at sV
  have sV':=zak sV
  simp at sV'
  simp only[dI,iY]
  simp[Ea,sV']
  refine⟨l,⟨_,rfl⟩,λv hv q=> ?_⟩
  by_cases q2:v=i
  ·subst q2;rw[z]at q;cases q
  ·exact g v (by omega) q
 | true=>
  rw[z]at sV
  have sV':=zaj sV
  simp at sV'
  obtain⟨M3,e3,x3⟩:=l.Uy i t
  have i3:=l.d1.dic
  have s0:=QC (vv vt i t) k
  cases z2:(vv vt i t).testBit k with
  | true=>
   rw[z2]at s0
   have s0':=zak s0
   simp at s0'
   simp only[dI,iY]
   simp[Ea,sV',i3,e3,s0']
   refine⟨x3,⟨_,rfl⟩,λv hv q=> ?_⟩
   by_cases q2:v=i
   ·subst q2;exact z2
   ·exact g v (by omega) q
  | false=>
   rw[z2]at s0
   have s0':=zaj s0
   simp at s0'
   simp only[dI,iY]
   simp[Ea,sV',i3,e3,s0']
   exact⟨x3,i,hi,z,z2⟩
theorem aea{V:Nat}{t:Int}{k:Nat}(g:∀v,v<60->V.testBit v=true->(vv vt v t).testBit k=true):Sh vt V t k=true:=by
 unfold Sh
 rw[List.all_eq_true]
 intro v hv
 obtain⟨h1,h2⟩:=HM.FP.mp hv
 exact g v h1 h2
theorem abF{V:Nat}{t:Int}{k v:Nat}(h1:v<60)(h2:V.testBit v=true)(h3:(vv vt v t).testBit k=false):Sh vt V t k=false:=by
 cases z:Sh vt V t k with
 | false=>rfl
 | true=>
  unfold Sh at z
  rw[List.all_eq_true]at z
  have:=z v (HM.FP.mpr ⟨h1,h2⟩)
  rw[h3]at this;cases this
theorem adZ(h:pI M a s p tm vt (.dk (ge kI nD se)))(k:Nat)(t:Int)(V S:Nat)(hS:S<2 ^ 60)(half:Bool):
  ∃M',bR [kn p,.int (k:Int),.int t,.int (V:Int),.int (S:Int),.int (if half=true then 1 else 0)] M= .ok (.bl (Pj tm vt se S half k t V)) M'/\pI M' a s p tm vt (.dk (ge kI nD se)):=by
 have i0:=oA h.d0
 have g0:=h.adG k
 obtain⟨dH,hdH⟩:∃dH,dH=D.int (if half=true then 1 else 0):=⟨_,rfl⟩
 rw[<-hdH]
 by_cases z1:t<1
 ·refine⟨M,?_,h⟩
  rw[Pj,if_pos (.inl z1)]
  simp only[bR,cC,dN]
  simp[z1]
 by_cases z2:tv tm k=t
 ·obtain⟨M1,e1,x1⟩:=h.Uy k t
  have i1:=h.d1.dic
  have s0:=QC (vv vt k t) k
  cases z3:(vv vt k t).testBit k with
  | false=>
   rw[z3]at s0
   have s0':=zaj s0
   simp at s0'
   refine⟨M1,?_,x1⟩
   rw[Pj,if_pos (.inr (.inr z3))]
   simp only[bR,cC,dN]
   simp[z1,i0,g0,z2,i1,e1,Ea,s0']
  | true=>
   rw[z3]at s0
   have s0':=zak s0
   simp at s0'
   have hc:¬(t<1\/tv tm k≠t\/(vv vt k t).testBit k=false):=by simp[z1,z2,z3]
   have first:dN [some (kn p),some (.int (k:Int)),some (.int t),some (.int (V:Int)),some (.int (S:Int)),some dH,none] M= .next [some (kn p),some (.int (k:Int)),some (.int t),some (.int (V:Int)),some (.int (S:Int)),some dH,none] M1:=by
    simp only[dN]
    simp[z1,i0,g0,z2,i1,e1,Ea,s0']
   rcases EY (src:=none) (g:=gN 6) (b:=dI) (abP a s p tm vt (.dk (ge kI nD se)) V t k [some (kn p),some (.int (k:Int)),some (.int t),some (.int (V:Int)),some (.int (S:Int)),some dH])
    (R:=λr M3=>r= .bl false/\pI M3 a s p tm vt (.dk (ge kI nD se))/\∃v,v<60/\V.testBit v=true/\(vv vt v t).testBit k=false) (zY 0 60) 0 (e:=[some (kn p),some (.int (k:Int)),some (.int t),some (.int (V:Int)),some (.int (S:Int)),some dH,none]) (M:=M1)
    ⟨x1,⟨_,rfl⟩,λv hv=>absurd hv (Nat.not_lt_zero _)⟩ (λ_ _ _ _ _ _=>trivial) (λi d e M2 hd hh=>by rw[Nat.zero_add]at hh ⊢;exact ad0 hd hh)with⟨e',M2,lp,l2,⟨v,rfl⟩,g⟩ | ⟨r,M2,lp,rfl,l2,v,v1,v2,v3⟩
   ·rw[Nat.zero_add,acF]at g
    have av:=aea g
    have gi:=abb l2.d2 t (.int (-1))
    have i2:=oA l2.d2
    by_cases z4:gv se t=some k
    ·refine⟨M2,?_,l2⟩
     rw[Pj,if_neg hc,if_neg (by simp[av]),if_pos z4]
     rw[z4]at gi
     simp only[Option.map_some,Option.getD_some,nD]at gi
     simp only[bR,cC]
     simp only[ou,qm,vD,ql,zG,first,xQ]
     simp only[i_,iW]
     simp[T9,lp,i2,gi]
    ·refine⟨M2,?_,l2⟩
     rw[Pj,if_neg hc,if_neg (by simp[av]),if_neg z4]
     have ne:∃x:Int,z9 (.ref p.k2) (.int t) (.int (-1)) M2= .ok (.int x) M2/\x≠(k:Int):=by
      cases z5:gv se t with
      | none=>rw[z5]at gi;exact⟨-1,gi,by omega⟩
      | some j=>rw[z5]at gi;exact⟨j,gi,λq=>z4 (by rw[z5];congr 1;omega)⟩
     obtain⟨x,gx,nx⟩:=ne
     have an:Builtin.bitAnd (S:Int) (V:Int)=((S &&& V:Nat):Int):=HM.uR S V
     have mS:=Rk (M:=M2) hS
     have mA:=Rk (M:=M2) (n:=S &&& V) (Nat.lt_of_le_of_lt Nat.and_le_left hS)
     simp only[bR,cC]
     simp only[ou,qm,vD,ql,zG,first,xQ]
     simp only[i_,iW]
     simp[T9,lp,i2,gx,nx,an,mA,agd,mS]
     rw[hdH]
     simp[mS]
     cases half<;>simp<;>omega
   ·refine⟨M2,?_,l2⟩
    rw[Pj,if_neg hc,if_pos (abF v1 v2 v3)]
    simp only[bR,cC]
    simp only[ou,qm,vD,ql,zG,first,xQ]
    simp only[i_,iW]
    simp[T9,lp]
 ·refine⟨M,?_,h⟩
  rw[Pj,if_pos (.inr (.inl z2))]
  simp only[bR,cC,dN]
  simp[z1,i0,g0,z2]
structure abN(a:BA)(s:BO)(p:LP)(tm:List (Nat×Int))(vt:List ((Nat×Int)×Nat))(o2:MO)(e0:Sl)(i:Nat)(e:Sl)(M:Mem):Prop where
 l:pI M a s p tm vt o2
 e:∃(V:Nat) (v:Option D),V<2 ^ 60/\e=e0++[some (.int (V:Int)),v]
theorem aew{x y:Nat}(hx:x<2 ^ 60)(hy:y<2 ^ 60):x ||| y<2 ^ 60:=Nat.or_lt_two_pow hx hy
theorem acV{cell base rest:Int}{k:Nat}{t:Int}{i:Nat}{d:D}{e:Sl}{M2:Mem}(hd:(zY 0 5)[i]? = some d)(h:abN a s p tm vt o2 [some (kn p),some (.int cell),some (.ref p.hl),some (.int base),some (.int (k:Int)),some (.int t),some (.int rest)] i e M2):
  ∃e1,gN 8 d e=some e1/\(iH e1 M2).to (abN a s p tm vt o2 [some (kn p),some (.int cell),some (.ref p.hl),some (.int base),some (.int (k:Int)),some (.int t),some (.int rest)] (i+1)) λ_ _=>False:=by
 obtain⟨l,V,v,hV,rfl⟩:=h
 obtain⟨hi,rfl⟩:=HB hd
 rw[Int.zero_add]
 refine⟨_,rfl,?_⟩
 obtain⟨q,hq,_,iq⟩:=l.ixh (i:=(i:Int)) (by omega) (by omega)
 have q60:=Uw l.c hq
 have m3:gY (.int rest) (.int 3) M2= .ok (.int (rest % 3)) M2:=jV (by omega)
 have d3:m9 (.int rest) (.int 3) M2= .ok (.int (rest / 3)) M2:=oV (by omega) (by omega)
 have p60:2 ^ q<2 ^ 60:=Nat.pow_lt_pow_right (by omega) q60
 by_cases z:rest % 3=0
 ·obtain⟨n,hn,hn1⟩:=HM.lJ (rest / 3 / 2 ^ ((i:Int)).toNat) 1
  have hn':Builtin.bitAnd (rest / 3 / 2 ^ ((i:Int)).toNat) 1=(n:Int):=hn
  have sh:wR (.int (n:Int)) (.int (q:Int)) M2= .ok (.int (((n*2 ^ q:Nat)):Int)) M2:=by
   rw[zA ⟨by omega,by omega,by omega⟩]
   simp
  have ob:Builtin.bitOr (V:Int) ((n*2 ^ q:Nat):Int)=((V ||| n*2 ^ q:Nat):Int):=HM.Ib _ _
  simp only[iH,oE]
  simp only[zap]at hn'
  simp[m3,z,d3,Ea,hn',iq,sh]
  refine⟨l,V ||| n*2 ^ q,some (.int (i:Int)),aew hV ?_,?_⟩
  ·have:n=0\/n=1:=by omega
   rcases this with rfl | rfl
   ·simp
   ·simpa using p60
  ·rw[<-ob];simp
 ·obtain⟨M3,e3,x3⟩:=l.Uy q t
  have i3:=l.d1.dic
  have sb:=CP (vv vt q t) k
  cases z2:(vv vt q t).testBit k with
  | false=>
   rw[z2]at sb
   have sb':=zak sb
   simp at sb'
   simp only[iH,oE,tX]
   simp[m3,z,iq,i3,e3,Ea,sb']
   exact⟨x3,V,_,hV,rfl⟩
  | true=>
   rw[z2]at sb
   have sb':=zaj sb
   simp at sb'
   obtain⟨q',hq',eq',iq'⟩:=x3.ixh (i:=(i:Int)) (by omega) (by omega)
   have qq:q'=q:=by
    rename_i hqe
    omega
   subst qq
   have sh:wR (.int 1) (.int (q':Int)) M3= .ok (.int ((2 ^ q':Nat):Int)) M3:=by
    rw[zA ⟨by omega,by omega,by decide⟩]
    simp
   have ob:Builtin.bitOr (V:Int) ((2 ^ q':Nat):Int)=((V ||| 2 ^ q':Nat):Int):=HM.Ib _ _
   simp only[iH,oE,tX]
   simp[m3,z,iq,i3,e3,Ea,sb',iq',sh]
   refine⟨x3,V ||| 2 ^ q',some (.int (i:Int)),aew hV p60,?_⟩
   rw[<-ob];simp
theorem aao(h:pI M a s p tm vt o2)(cell base:Int):∃P M',ji [kn p,.int cell,.ref p.hl,.int base] M= .ok P M'/\pI M' a s p tm vt o2/\∃k∈hds p.c,∃t:Int,(∃w∈hds p.c,P=pV k t w)\/∃V,V<2 ^ 60/\P=pC k t V:=by
 have md:∀(z j:Int) (M:Mem),0<j->gY (.int z) (.int j) M= .ok (.int (z % j)) M:=λz j M h=>jV h
 have dv:∀(z j:Int) (M:Mem),0<j->j<1073741824->m9 (.int z) (.int j) M= .ok (.int (z / j)) M:=λz j M h h'=>oV h h'
 obtain⟨k,hk,_,ik⟩:=h.ixh (i:=cell / 2 % 5) (by omega) (by omega)
 obtain⟨N,hN⟩:∃N,N=M++[MO.lst [.int base,.int 0]]:=⟨_,rfl⟩
 have g:Gr M N:=by rw[hN];exact Gr.app
 have hL:N[M.length]? = some (.lst [.int base,.int 0]):=by rw[hN];exact cA
 have hx:=h.gr g
 obtain⟨b,hb⟩:∃b:Int,bN (.ref M.length) (.int (cell / 10 % 4 / 3)) N= .ok (.int b) N:=by
  have:cell / 10 % 4 / 3=0\/cell / 10 % 4 / 3=1:=by omega
  rcases this with e | e<;>rw[e]
  ·exact⟨base,vL hL (by omega) rfl⟩
  ·exact⟨0,vL hL (by omega) rfl⟩
 have d2:=dv cell 2 M (by omega) (by omega)
 have m5:=md (cell / 2) 5 M (by omega)
 have d10:=dv cell 10 N (by omega) (by omega)
 have m4:=md (cell / 10) 4 N (by omega)
 have d3:=dv (cell / 10 % 4) 3 N (by omega) (by omega)
 have d40:=dv cell 40 N (by omega) (by omega)
 have m5':=md (cell / 40) 5 N (by omega)
 have aju:=dv cell 200 N (by omega) (by omega)
 have m2:=md cell 2 N (by omega)
 obtain⟨t,ht⟩:∃t,t=b+cell / 40 % 5:=⟨_,rfl⟩
 obtain⟨rest,hrest⟩:∃rest,rest=cell / 200:=⟨_,rfl⟩
 by_cases z:cell % 2=0
 ·obtain⟨w,hw,_,iw⟩:=hx.ixh (i:=rest % 5) (by omega) (by omega)
  have mw:=md rest 5 N (by omega)
  refine⟨pV k t w,N,?_,hx,k,hk,t,.inl ⟨w,hw,rfl⟩⟩
  simp only[ji,o8,tY]
  simp[d2,m5,ik,<-hN,d10,m4,d3,hb,d40,m5',aju,m2,z,<-ht,<-hrest,mw,iw,pap]
 ·obtain⟨e',M1,lp,l1,V,v,hV,rfl⟩:=uP (src:=none) (g:=gN 8) (b:=iH) (abN a s p tm vt o2 [some (kn p),some (.int cell),some (.ref p.hl),some (.int base),some (.int (k:Int)),some (.int t),some (.int rest)]) (ds:=zY 0 5)
   (e:=[some (kn p),some (.int cell),some (.ref p.hl),some (.int base),some (.int (k:Int)),some (.int t),some (.int rest),some (.int 0),none]) (M:=N) ⟨hx,0,none,by omega,rfl⟩ (λ_ _ _ _ _=>trivial) λi d e M2 hd hh=>acV hd hh
  have r5:Ky [.int 5] N= .ok ⟨none,zY 0 5⟩ N:=Dc (by omega) (by omega)
  refine⟨pC k t V,M1,?_,l1,k,hk,t,.inr ⟨V,hV,rfl⟩⟩
  simp only[ji,o8,tY,Ay]
  simp[d2,m5,ik,<-hN,d10,m4,d3,hb,d40,m5',aju,m2,z,<-ht,<-hrest,r5,lp,pap]
end
section
variable{M M':Mem}{a:BA}{s s':BO}{p:LP}{tm:List (Nat×Int)}{vt:List ((Nat×Int)×Nat)}{se:List (Int×Nat)}{o2:MO}
theorem Lf(h:dg M a s){P:D}{c:Nat}(e:cB [.ref a.b,P] M= .ok .non M'):gU [.ref a.b,P,.int (c:Int)] M= .ok (.tup [.bl true,.bl true]) M':=by
 simp only[gU,o7,tW,sW,sX]
 simp[h.Yu (m:= "take") rfl,e,Y4]
theorem Qu(h:dg M a s){P:D}{c:Nat}(e:cB [.ref a.b,P] M= .exc 2 (.int (c:Int)) M'):gU [.ref a.b,P,.int (c:Int)] M= .ok (.tup [.bl false,.bl true]) M':=by
 simp only[gU,o7,tW,sW,sX]
 simp[h.Yu (m:= "take") rfl,e,Y4,List.lookup]
theorem abA(h:dg M a s)(k:Nat):j6 [.ref a.b,.int (k:Int)] M= .ok (.int (s.term k)) M:=by
 simp only[j6,j8]
 simp[h.fbl,h.rD (m:= "term_of") rfl,Ht h k]
theorem Yi(h:dg M a s)(k:Nat)(t:Int):∃M',jx [.ref a.b,.int (k:Int),.int t] M= .ok (.int (s.Cp k t:Nat)) M'/\Bx M a s M':=by
 obtain⟨M1,e1,x1⟩:=Cu h k t
 refine⟨M1,?_,x1⟩
 simp only[jx,jJ]
 simp[h.fbl,h.rD (m:= "votes_of") rfl,e1]
def seR(q:Int×Nat):D:= .tup [.int q.1,.int (q.2:Int)]
theorem ae5:Yo (se.map seR):= .rows 0 [0] λd hd=>by
 obtain⟨q,_,rfl⟩:=List.mem_map.mp hd
 exact⟨_,rfl⟩
theorem M8{n:Nat}(h:M[n]? = some (.dk (ge kI nD se)))(hl:se.length<64):vC (.ref n) M= .ok (.ref M.length) (M++[.lst (uC (se.map seR))]):=by
 have e:yL M n=some (se.map λq=>(.int q.1,.int (q.2:Int))):=by
  simp only[yL,h,ge,List.map_map]
  rfl
 have e2:(se.map λq=>((.int q.1,.int (q.2:Int)):D×D)).map pairD=se.map seR:=by rw[List.map_map];rfl
 have:=TJ e (by rw[e2];exact ae5) (by simpa using hl)
 rw[e2]at this
 exact this
theorem agI{d:D}(h:d∈uC (se.map seR)):Dat 11 d:=by
 obtain⟨q,_,rfl⟩:=List.mem_map.mp ((nC _).mem_iff.mp h)
 refine Pb λd hd=> ?_
 simp at hd
 rcases hd with rfl | rfl<;>exact Wr
theorem Mg(h:dg M a s)(hl:s.se.length<64):jj [.ref a.b] M= .ok (.ref M.length) (M++[.lst (uC (s.se.map seR))]):=by
 have e:jy [.ref a.bl] M= .ok (.ref M.length) (M++[.lst (uC (s.se.map seR))]):=by
  simp only[jy,jK]
  simp[h.fse,M8 h.se hl]
 simp only[jj,mX]
 simp[h.fbl,h.rD (m:= "chairs") rfl,e]
structure abL(a:BA)(s:BO)(p:LP)(h:D)(i:Nat)(e:Sl)(M:Mem):Prop where
 l:pI M a s p s.tm s.vt (.fd (ge kI nD s.se))
 e:∃v,e=[some (.ref a.b),some (kn p),some (.ref p.hl),some h,v,none]
theorem acf{k:Nat}{i:Nat}{d:D}{e:Sl}{M2:Mem}(hd:((ge kI nD s.se).map λq=>pH q.1)[i]? = some d)(h:abL a s p (.int (k:Int)) i e M2):
  ∃e1,gN 4 d e=some e1/\(jU e1 M2).to (abL a s p (.int (k:Int)) (i+1)) λ_ _=>False:=by
 obtain⟨l,v,rfl⟩:=h
 obtain⟨t,rfl⟩:∃t:Int,d= .int t:=by
  obtain⟨x,hx,rfl⟩:=List.mem_map.mp (zab hd)
  obtain⟨q,_,rfl⟩:=List.mem_map.mp hx
  exact⟨q.1,rfl⟩
 refine⟨_,rfl,?_⟩
 obtain⟨M3,e3,x3⟩:=Yi l.b k t
 have l3:=l.bx x3
 obtain⟨M4,e4,x4⟩:=l3.Uy k t
 have i3:=l3.d1.dic
 have eq:s.Cp k t=vv s.vt k t:=rfl
 simp only[jU,An]
 simp[l.b.Yu (m:= "votes_of") rfl,e3,i3,e4,eq]
 exact⟨x4,_,rfl⟩
structure abK(a:BA)(s:BO)(p:LP)(i:Nat)(e:Sl)(M:Mem):Prop where
 l:pI M a s p s.tm s.vt (.dk (ge kI nD s.se))
 e:∃v v',e=[some (.ref a.b),some (kn p),some (.ref p.hl),v,v',none]
theorem ace{i:Nat}{d:D}{e:Sl}{M2:Mem}(hd:(hv (hds p.c))[i]? = some d)(h:abK a s p i e M2):∃e1,gN 3 d e=some e1/\(oh e1 M2).to (abK a s p (i+1)) λ_ _=>False:=by
 obtain⟨l,v,v',rfl⟩:=h
 obtain⟨k,_,rfl⟩:∃k,(hds p.c)[i]? = some k/\D.int (k:Int)=d:=by simpa[hv]using hd
 refine⟨_,rfl,?_⟩
 have e1:=abA l.b k
 have i1:=oA l.d0
 have g1:=l.adG k
 have eq:s.term k=tv s.tm k:=rfl
 have l0:pI (M2.set p.k2 (.fd (ge kI nD s.se))) a s p s.tm s.vt (.fd (ge kI nD s.se)):=l.u2 (Ch.set rfl) (ju l.d2)
 obtain⟨e',M3,lp,l3,u,rfl⟩:=uP (src:=none) (g:=gN 4) (b:=jU) (abL a s p (.int (k:Int))) (ds:=(ge kI nD s.se).map λq=>pH q.1) (e:=[some (.ref a.b),some (kn p),some (.ref p.hl),some (.int (k:Int)),v',none]) (M:=M2.set p.k2 (.fd (ge kI nD s.se)))
  ⟨l0,_,rfl⟩ (λ_ _ _ _ _=>trivial) λi d e M2 hd hh=>acf hd hh
 have th:=Tt (e:=[some (.ref a.b),some (kn p),some (.ref p.hl),some (.int (k:Int)),u,none]) l3.d2
 have fk:=abj (g:=gN 4) (b:=jU) (e:=[some (.ref a.b),some (kn p),some (.ref p.hl),some (.int (k:Int)),v',none]) l.d2
 rw[lp,th]at fk
 simp only[oh,Ao,Ax]
 simp[l.b.Yu (m:= "term_of") rfl,e1,i1,g1,eq,fk]
 exact⟨l3.u2 (Ch.set rfl) (ju l3.d2),_,_,rfl⟩
theorem Y6(h:pI M a s p s.tm s.vt (.dk (ge kI nD s.se)))(hl:s.se.length<64):∃M',rT [.ref a.b,kn p,.ref p.hl] M= .ok (.bl true) M'/\pI M' a s p s.tm s.vt (.dk (ge kI nD s.se)):=by
 obtain⟨e',M1,lp,l1,v,v',rfl⟩:=uP (src:=some (p.hl,hv (hds p.c))) (g:=gN 3) (b:=oh) (abK a s p) (ds:=hv (hds p.c)) (e:=[some (.ref a.b),some (kn p),some (.ref p.hl),none,none,none]) (M:=M)
  ⟨h,_,_,rfl⟩ (λi e M' _ q=>dM q.l.hs) λi d e M2 hd hh=>ace hd hh
 obtain⟨L,hL⟩:∃L,L=uC (s.se.map seR):=⟨_,rfl⟩
 have dL:∀d∈L,Dat 11 d:=λd hd=>by rw[hL]at hd;exact agI hd
 have lL:L.length<16777216:=by
  rw[hL,(nC _).length_eq,zar];omega
 have c1:=Mg l1.b hl
 rw[<-hL]at c1
 obtain⟨M2,hM2⟩:∃M2,M2=M1++[MO.lst L]:=⟨_,rfl⟩
 rw[<-hM2]at c1
 have g2:Gr M1 M2:=by rw[hM2];exact Gr.app
 have l2:=l1.gr g2
 have t2:M2[M1.length]? = some (.lst L):=by rw[hM2];exact cA
 have s3:=M8 l2.d2 hl
 rw[<-hL]at s3
 obtain⟨M3,hM3⟩:∃M3,M3=M2++[MO.lst L]:=⟨_,rfl⟩
 rw[<-hM3]at s3
 have g3:Gr M2 M3:=by rw[hM3];exact Gr.app
 have l3:=l2.gr g3
 have t3:M3[M1.length]? = some (.lst L):=g3 _ _ t2
 have q3:M3[M2.length]? = some (.lst L):=by rw[hM3];exact cA
 have n3:sNe (.ref M1.length) (.ref M2.length) M3= .ok (.bl false) M3:=Bo (b:=true) (Ma dL t3 q3)
 have ap:=QS (d:= .tup [.int 0,.int 0]) t3 lL
 have ty:=YW t3
 obtain⟨M4,hM4⟩:∃M4,M4=M3.set M1.length (.lst (L++[.tup [.int 0,.int 0]])):=⟨_,rfl⟩
 rw[<-hM4]at ap
 have l4:pI M4 a s p s.tm s.vt (.dk (ge kI nD s.se)):=by
  refine l1.up ?_
  rw[hM4]
  exact((g2.trans g3).ch).trans (Ch.set (zad _))
 have c5:=Mg l4.b hl
 rw[<-hL]at c5
 obtain⟨M5,hM5⟩:∃M5,M5=M4++[MO.lst L]:=⟨_,rfl⟩
 rw[<-hM5]at c5
 have g5:Gr M4 M5:=by rw[hM5];exact Gr.app
 have l5:=l4.gr g5
 have s6:=M8 l5.d2 hl
 rw[<-hL]at s6
 obtain⟨M6,hM6⟩:∃M6,M6=M5++[MO.lst L]:=⟨_,rfl⟩
 rw[<-hM6]at s6
 have g6:Gr M5 M6:=by rw[hM6];exact Gr.app
 have e6:sEq (.ref M4.length) (.ref M5.length) M6= .ok (.bl true) M6:=Np (Ma dL (g6 _ _ (by rw[hM5];exact cA)) (by rw[hM6];exact cA))
 refine⟨M6,?_,l5.gr g6⟩
 simp only[rT,sI,Aw,Am]
 simp[yM h.hs,lp,l1.b.Yu (m:= "chairs") rfl,c1,Xc t2,s3,n3,ty,ap,l4.b.Yu (m:= "chairs") rfl,c5,s6,e6]
end
structure Iv(S:Nat)(once half:Bool)(i:Nat)(s:BO):Prop where
 S:s.S=S
 r1:s.r1=once
 r4:s.r4= !half
 ro:s.ro=[]
 mr:s.mr=[]
 tm:s.tm.length<=i
 vt:s.vt.length<=i
 ak:s.ak.length<=i
 se:s.se.length<=i
 ln:s.ln.length<=i
 as:∀h t,s.ask h t=if(s.Cp h t).testBit h=true then some (0,0)else none
 br:s.br= .non\/∃t:Int,s.br= .tup [.str "chairs",.int t]
section
variable{S:Nat}{once half:Bool}{i:Nat}{s:BO}
theorem Iv.few(h:Iv S once half i s)(hi:i<=60):Few s:=⟨by have:=h.tm;omega,by have:=h.vt;omega,by have:=h.ak;omega,by have:=h.se;omega,by have:=h.ln;omega⟩
theorem Iv.good(h:Iv S once half i s)(w:Nat)(t:Int):s.good w t (0,0)=(s.Cp w t).testBit w:=by
 unfold BO.good
 rw[h.as]
 cases z:(s.Cp w t).testBit w with
 | false=>simp
 | true=>
  have:TLe.Rn [0,((0:Nat):Int)] [0,((0:Nat):Int)]=true:=by decide
  simp only[if_true,this,Bool.true_or]
theorem Iv.Fi(h:Iv S once half i s)(k:Nat)(t:Int)(w:Nat):s.Fi k t w=(WX s.tm s.vt once k t w&&LC s.br):=by
 have hg:=h.good w t
 have e1:s.term k=tv s.tm k:=rfl
 have e2:s.Cp k t=vv s.vt k t:=rfl
 have e3:s.Cp w t=vv s.vt w t:=rfl
 unfold BO.Fi BO.FJ BO.rR WX BO.spent
 rw[hg,h.r1,e1,e2,e3]
 cases LC s.br with
 | false=>simp
 | true=>
  by_cases z1:t<1
  ·have:¬1<=t:=by omega
   simp[z1,this]
  ·have z1':1<=t:=by omega
   by_cases z2:t<tv s.tm k
   ·simp[z2]
   ·cases once with
    | true=>
     by_cases z3:vv s.vt k t=0
     ·simp[z1,z1',z2,z3]
     ·simp[z1,z1',z2,z3]
    | false=>
     cases z3:(vv s.vt k t).testBit w with
     | true=>simp[z1',z2]
     | false=>simp[z1,z1',z2]
theorem Iv.Fj(h:Iv S once half i s)(k:Nat)(t:Int)(V:Nat):s.Fj k t V=(Pj s.tm s.vt s.se S half k t V&&LC s.br):=by
 have e1:s.term k=tv s.tm k:=rfl
 have e2:s.Cp k t=vv s.vt k t:=rfl
 have e3:s.uy V t k=Sh s.vt V t k:=rfl
 have e4:s.head t=gv s.se t:=rfl
 have e5:s.won V s.S 0=decide (HM.cnt S<2*HM.cnt (S &&& V)+if half=true then 1 else 0):=by
  unfold BO.won yZ
  rw[h.r4,h.S,Nat.and_comm V S]
  cases half
  ·simp
  ·simp
   omega
 unfold BO.Fj BO.FJ BO.lX Pj
 rw[h.as,e1,e2,e3,e4,e5]
 cases LC s.br with
 | false=>simp
 | true=>
  by_cases z1:t<1
  ·have:¬1<=t:=by omega
   simp[z1,this]
  ·have z1':1<=t:=by omega
   by_cases z2:tv s.tm k=t
   ·by_cases z3:gv s.se t=some k
    ·simp[z3]
    ·cases z4:(vv s.vt k t).testBit k with
     | false=>simp[z1',z2,z3]
     | true=>
      cases z5:Sh s.vt V t k with
      | false=>simp[z1',z2,z3]
      | true=>simp[z1,z1',z2,z3]
   ·simp[z2]
theorem Iv.cast(h:Iv S once half i s)(k:Nat)(t:Int)(w:Nat):Iv S once half (i+1) ({s with cnt:=s.cnt+1}.cast k t w (0,0)):=by
 refine⟨h.S,h.r1,h.r4,h.ro,h.mr,yY Ey (by have:=h.tm;show s.tm.length+1<=i+1;omega),yY Ey (by have:=h.vt;show s.vt.length+1<=i+1;omega),?_,wP h.se,wP h.ln,λh' t'=> ?_,h.br⟩
 ·show(if w=k then gp s.ak (k,t) (0,0)else s.ak).length<=i+1
  have:=h.ak
  split
  ·exact yY Ey (by omega)
  ·omega
 ·have a:=h.as h' t'
  show gv (if w=k then gp s.ak (k,t) (0,0)else s.ak) (h',t')=if(((gv (gp s.vt (k,t) (s.Cp k t ||| 2 ^ w)) (h',t')).getD 0).testBit h')=true then some (0,0)else none
  rw[aa7]
  have a':gv s.ak (h',t')=if(((gv s.vt (h',t')).getD 0).testBit h')=true then some (0,0)else none:=a
  by_cases z:(h',t')=(k,t)
  ·rw[if_pos z]
   cases z
   rw[Option.getD_some,Nat.testBit_or,Nat.testBit_two_pow]
   by_cases z2:w=k
   ·subst z2
    rw[if_pos rfl,aa7,if_pos rfl]
    simp
   ·rw[if_neg z2,a']
    have:s.Cp k t=(gv s.vt (k,t)).getD 0:=rfl
    rw[this]
    simp[z2]
  ·rw[if_neg z,<-a']
   by_cases z2:w=k
   ·rw[if_pos z2,aa7,if_neg z]
   ·rw[if_neg z2]
theorem Iv.Ec(h:Iv S once half i s)(k:Nat)(t:Int):Iv S once half (i+1) ({s with cnt:=s.cnt+1}.Ec k t):=by
 unfold BO.Ec
 split
 ·exact⟨h.S,h.r1,h.r4,h.ro,h.mr,wP h.tm,wP h.vt,wP h.ak,wP h.se,wP h.ln,h.as,.inr ⟨t,rfl⟩⟩
 ·exact⟨h.S,h.r1,h.r4,h.ro,h.mr,wP h.tm,wP h.vt,wP h.ak,yY Ey (by have:=h.se;show s.se.length+1<=i+1;omega),yY Ey (by have:=h.ln;show s.ln.length+1<=i+1;omega),h.as,h.br⟩
theorem Iv.more(h:Iv S once half i s):Iv S once half (i+1) s:=
 ⟨h.S,h.r1,h.r4,h.ro,h.mr,wP h.tm,wP h.vt,wP h.ak,wP h.se,wP h.ln,h.as,h.br⟩
theorem Iv.ne(h:Iv S once half i s)(M:Mem):sNe s.br s.br M= .ok (.bl false) M:=by
 refine Bo (b:=true) (aby ?_ M)
 rcases h.br with e | ⟨t,e⟩<;>rw[e]
 ·exact adQ
 ·refine Pb λd hd=> ?_
  simp at hd
  rcases hd with rfl | rfl
  ·exact adP
  ·exact Wr
end
section
variable{M M':Mem}{a:BA}{s:BO}{p:LP}{S:Nat}{once half:Bool}{i:Nat}
noncomputable def DN(ns:List Int)(a:BA)(p:LP)(S:Nat)(once half:Bool)(rest c1 base:Int)(cn:Nat)(br:D)(tl:Sl):Sl:=
 [some (.cl (ns.map D.int)),some (.ref p.hl),some (.int rest),some (.int (S:Int)),some (.int c1),some (.int (if half=true then 1 else 0)),some (.bl once),some (.int base),some (.ref a.b),some (kn p),some (.int (cn:Int)),some br]++tl
structure Ms(ns:List Int)(a:BA)(p:LP)(S:Nat)(once half:Bool)(rest c1 base:Int)(i:Nat)(e:Sl)(M:Mem):Prop where
 h:∃s v12 Qo Qn Vl v16 v17 v18,e=DN ns a p S once half rest c1 base s.cnt s.br [v12,Qo,Qn,Vl,v16,v17,v18]/\pI M a s p s.tm s.vt (.dk (ge kI nD s.se))/\Iv S once half i s
theorem ahQ:(("vote" : Str)= "chair")=False:=eq_false (by decide)
theorem aaz{b:Bool}:sNe (.tup [.bl b,.bl true]) (.tup [.bl b,.bl true]) M= .ok (.bl false) M:=Bo (b:=true) (aby (Pb λd hd=>by
 simp at hd
 rcases hd with rfl | rfl<;>exact agJ) M)
theorem Yk(h:dg M a s):mq [.ref a.b] M= .ok s.br M:=by
 simp only[mq,mY]
 simp[h.fbr]
theorem HN(h:pI M a s p s.tm s.vt (.dk (ge kI nD s.se)))(iv:Iv S once half i s)(hi:i<=41){ns:List Int}{rest c1 base:Int}{tl:Sl}:∃M',sy (DN ns a p S once half rest c1 base s.cnt s.br tl) M= .next (DN ns a p S once half rest c1 base s.cnt s.br tl) M'/\pI M' a s p s.tm s.vt (.dk (ge kI nD s.se)):=by
 obtain⟨M1,e1,l1⟩:=Y6 h (by have:=iv.se;omega)
 refine⟨M1,?_,l1⟩
 simp only[sy,DN]
 simp[h.b.Yu (m:= "broken") rfl,Yk h.b,iv.ne,e1]
section
variable{ns:List Int}{rest c1 base cell:Int}{d:D}{k w V:Nat}{t:Int}{du:Bool}{M1 M2 M3:Mem}{cn:Nat}{br:D}{Qo Qn Vl v16 v17 v18:Option D}
theorem aa0{x y:Bool}:(if x=true then Out.ok (D.bl y) M else Out.ok (D.bl false) M)=Out.ok (D.bl (x&&y)) M:=by cases x<;>rfl
theorem aeF(e1:ji [kn p,.int cell,.ref p.hl,.int base] M= .ok (pV k t w) M1)(e2:eG [kn p,.int (k:Int),.int t,.int (w:Int),.bl once] M1= .ok (.bl du) M2)
  (e4:gU [.ref a.b,pV k t w,.int (cn:Int)] M2= .ok (.tup [.bl (du&&LC br),.bl true]) M3):
  vB (DN ns a p S once half rest c1 base cn br [some (.int cell),Qo,Qn,Vl,v16,v17,v18]) M=aR oH sy (DN ns a p S once half rest c1 base cn br [some (.int cell),some (pV k t w),some (.str "vote"),some (.int (k:Int)),some (.int t),some (.int (w:Int)),some (.bl (du&&LC br))]) M3:=by
 have ei:(pV k t w)= .tup [.str "vote",.int (k:Int),.int t,.int (w:Int)]:=rfl
 rw[ei]at e1 e4 ⊢
 simp only[vB,Ow,Ov,DN]
 simp[ahQ,e1,e2,aa0,e4,aaz]
theorem aeG(e1:ji [kn p,.int cell,.ref p.hl,.int base] M= .ok (pC k t V) M1)(e2:bR [kn p,.int (k:Int),.int t,.int (V:Int),.int (S:Int),.int (if half=true then 1 else 0)] M1= .ok (.bl du) M2)
  (e4:gU [.ref a.b,pC k t V,.int (cn:Int)] M2= .ok (.tup [.bl (du&&LC br),.bl true]) M3):
  vB (DN ns a p S once half rest c1 base cn br [some (.int cell),Qo,Qn,Vl,v16,v17,v18]) M=aR oH sy (DN ns a p S once half rest c1 base cn br [some (.int cell),some (pC k t V),some (.str "chair"),some (.int (k:Int)),some (.int t),some (.int (V:Int)),some (.bl (du&&LC br))]) M3:=by
 have ei:(pC k t V)= .tup [.str "chair",.int (k:Int),.int t,.int (V:Int)]:=rfl
 rw[ei]at e1 e4 ⊢
 simp only[vB,Ow,Ov,DN]
 simp[RT,e1,e2,aa0,e4,aaz]
theorem aeE(l:pI M a s p s.tm s.vt (.dk (ge kI nD s.se)))(iv:Iv S once half i s)(hi:i<40):
  (aR oH sy (DN ns a p S once half rest c1 base s.cnt s.br [Qo,Qn,Vl,v16,v17,v18,some (.bl false)]) M).to (Ms ns a p S once half rest c1 base (i+1)) λ_ _=>False:=by
 obtain⟨M7,e7,l7⟩:=HN (ns:=ns) (rest:=rest) (c1:=c1) (base:=base) (tl:=[Qo,Qn,Vl,v16,v17,v18,some (.bl false)]) l iv (by omega)
 simp only[DN]at e7
 simp only[oH,DN]
 try simp at e7
 simp[e7]
 exact⟨s,Qo,Qn,Vl,v16,v17,v18,some (.bl false),by simp[DN],l7,iv.more⟩
theorem ai4(l3:pI M3 a (({s with cnt:=s.cnt+1}:BO).cast k t w (0,0)) p s.tm s.vt (.dk (ge kI nD s.se)))(iv:Iv S once half i s)(hi:i<40)(w60:w<60):
  (aR oH sy (DN ns a p S once half rest c1 base s.cnt s.br [Qo,Qn,some (.str "vote"),some (.int (k:Int)),some (.int t),some (.int (w:Int)),some (.bl true)]) M3).to (Ms ns a p S once half rest c1 base (i+1)) λ_ _=>False:=by
 have iv3:=iv.cast k t w
 obtain⟨s3,hs3⟩:∃s3,s3=({s with cnt:=s.cnt+1}:BO).cast k t w (0,0):=⟨_,rfl⟩
 rw[<-hs3]at l3 iv3
 have q0:=aev l3.d0 k t (by have:=iv.tm;omega)
 have l4:pI (M3.set p.k0 (.dk (ge kN D.int (gp s.tm k t)))) a s3 p (gp s.tm k t) s.vt (.dk (ge kI nD s.se)):=l3.u0 (Ch.set rfl) (ju l3.d0)
 obtain⟨M4,hM4⟩:∃M4,M4=M3.set p.k0 (.dk (ge kN D.int (gp s.tm k t))):=⟨_,rfl⟩
 rw[<-hM4]at q0 l4
 obtain⟨M5,e5,l5⟩:=l4.Uy k t
 have sh:wR (.int 1) (.int (w:Int)) M5= .ok (.int ((2:Int) ^ w)) M5:=by
  rw[zA ⟨by omega,by omega,by decide⟩]
  simp
 have ob:=aat (vv s.vt k t) w
 have q1:=Z4 l5.d1 (k,t) (vv s.vt k t ||| 2 ^ w) (by have:=iv.vt;omega)
 have l6:pI (M5.set p.k1 (.dt (ge kP nD (gp s.vt (k,t) (vv s.vt k t ||| 2 ^ w))))) a s3 p (gp s.tm k t) (gp s.vt (k,t) (vv s.vt k t ||| 2 ^ w)) (.dk (ge kI nD s.se)):=
  l5.u1 (Ch.set rfl) (.inl (by obtain⟨o,q⟩:=l5.d1.some;exact ju q))
 obtain⟨M6,hM6⟩:∃M6,M6=M5.set p.k1 (.dt (ge kP nD (gp s.vt (k,t) (vv s.vt k t ||| 2 ^ w)))):=⟨_,rfl⟩
 rw[<-hM6]at q1 l6
 have f1:s3.tm=gp s.tm k t:=by rw[hs3];rfl
 have f2:s3.vt=gp s.vt (k,t) (vv s.vt k t ||| 2 ^ w):=by rw[hs3];rfl
 have f3:s3.se=s.se:=by rw[hs3];rfl
 have f4:s3.cnt=s.cnt+1:=by rw[hs3];rfl
 have f5:s3.br=s.br:=by rw[hs3];rfl
 rw[<-f1,<-f2,<-f3]at l6
 obtain⟨M7,e7,l7⟩:=HN (ns:=ns) (rest:=rest) (c1:=c1) (base:=base) (tl:=[Qo,Qn,some (.str "vote"),some (.int (k:Int)),some (.int t),some (.int (w:Int)),some (.bl true)]) l6 iv3 (by omega)
 rw[f4,f5]at e7
 have nn:D.int ((vv s.vt k t ||| 2 ^ w:Nat):Int)=nD (vv s.vt k t ||| 2 ^ w):=rfl
 have i4:=l4.d1.dic
 simp only[DN]at e7
 simp only[oH,H_,DN]
 simp[q0,i4,e5,sh,ob]
 rw[nn,q1]
 try simp at e7
 simp[e7]
 exact⟨s3,Qo,Qn,some (.str "vote"),some (.int (k:Int)),some (.int t),some (.int (w:Int)),some (.bl true),by rw[f4,f5];simp[DN],l7,iv3⟩
theorem ai5(l3:pI M3 a (({s with cnt:=s.cnt+1}:BO).Ec k t) p s.tm s.vt (.dk (ge kI nD s.se)))(iv:Iv S once half i s)(hi:i<40):
  (aR oH sy (DN ns a p S once half rest c1 base s.cnt s.br [Qo,Qn,some (.str "chair"),some (.int (k:Int)),some (.int t),Vl,some (.bl true)]) M3).to (Ms ns a p S once half rest c1 base (i+1)) λ_ _=>False:=by
 have iv3:=iv.Ec k t
 have ini:=alA l3.d2 t
 cases hh:gv s.se t with
 | some j=>
  have hs3:({s with cnt:=s.cnt+1}:BO).Ec k t={s with cnt:=s.cnt+1,br:= .tup [.str "chairs",.int t]}:=by
   have:(({s with cnt:=s.cnt+1}:BO).head t).isSome=true:=by show(gv s.se t).isSome=true;rw[hh];rfl
   unfold BO.Ec
   rw[if_pos this]
  rw[hs3]at l3 iv3
  rw[hh]at ini
  obtain⟨M7,e7,l7⟩:=HN (ns:=ns) (rest:=rest) (c1:=c1) (base:=base) (tl:=[Qo,Qn,some (.str "chair"),some (.int (k:Int)),some (.int t),Vl,some (.bl true)]) l3 iv3 (by omega)
  simp only[DN]at e7
  simp only[oH,H_,Ou,DN]
  simp at ini
  simp[RT,ini]
  try simp at e7
  simp[e7]
  exact⟨_,Qo,Qn,some (.str "chair"),some (.int (k:Int)),some (.int t),Vl,some (.bl true),by simp[DN],l7,iv3⟩
 | none=>
  have hs3:({s with cnt:=s.cnt+1}:BO).Ec k t={s with cnt:=s.cnt+1,se:=gp s.se t k,ln:=gp s.ln t (s.row k)}:=by
   have:¬(({s with cnt:=s.cnt+1}:BO).head t).isSome=true:=by show ¬(gv s.se t).isSome=true;rw[hh];simp
   unfold BO.Ec
   rw[if_neg this]
   rfl
  rw[hs3]at l3 iv3
  rw[hh]at ini
  have q2:=Z5 l3.d2 t k (by have:=iv.se;omega)
  have l6:=l3.u2 (Ch.set rfl) (ju (o:= .dk (ge kI nD (gp s.se t k))) l3.d2)
  obtain⟨M6,hM6⟩:∃M6,M6=M3.set p.k2 (.dk (ge kI nD (gp s.se t k))):=⟨_,rfl⟩
  rw[<-hM6]at q2 l6
  obtain⟨M7,e7,l7⟩:=HN (ns:=ns) (rest:=rest) (c1:=c1) (base:=base) (tl:=[Qo,Qn,some (.str "chair"),some (.int (k:Int)),some (.int t),Vl,some (.bl true)]) l6 iv3 (by omega)
  simp only[DN]at e7
  simp only[oH,H_,Ou,DN]
  simp at ini
  have nn:D.int (k:Int)=nD k:=rfl
  simp[RT,ini]
  rw[nn,q2]
  try simp at e7
  simp[<-nn,e7]
  exact⟨_,Qo,Qn,some (.str "chair"),some (.int (k:Int)),some (.int t),Vl,some (.bl true),by simp[DN],l7,iv3⟩
end
theorem adt(hS:S<2 ^ 60){ns:List Int}{rest c1 base:Int}{d:D}{e:Sl}(hi:i<40)(hd:(p.cs.map D.int)[i]? = some d)(h:Ms ns a p S once half rest c1 base i e M):
  ∃e1,gN 12 d e=some e1/\(vB e1 M).to (Ms ns a p S once half rest c1 base (i+1)) λ_ _=>False:=by
 obtain⟨s,v12,Qo,Qn,Vl,v16,v17,v18,rfl,l,iv⟩:=h
 obtain⟨cell,rfl⟩:∃cell:Int,d= .int cell:=by
  obtain⟨x,_,rfl⟩:=List.mem_map.mp (zab hd)
  exact⟨x,rfl⟩
 refine⟨DN ns a p S once half rest c1 base s.cnt s.br [some (.int cell),Qo,Qn,Vl,v16,v17,v18],rfl,?_⟩
 obtain⟨P,M1,e1,l1,k,hk,t,hP⟩:=aao l cell base
 have k60:=Uw l.c hk
 rcases hP with⟨w,hw,rfl⟩ | ⟨V,hV,rfl⟩
 ·have w60:=Uw l.c hw
  obtain⟨M2,e2,l2⟩:=ab3 l1 k t w once
  have av:=iv.Fi k t w
  rcases aeV l2.b iv.ro (iv.few (by omega)) k t w60 with⟨c,M3,e3,x3⟩ | ⟨c,M3,e3,x3⟩
  ·rw[c]at av
   have e4:=Lf l2.b (c:=s.cnt) e3
   rw[aeF e1 e2 (by rw[<-av];exact e4),<-av]
   exact ai4 (l2.bx x3) iv hi w60
  ·rw[c]at av
   have e4:=Qu l2.b (c:=s.cnt) e3
   rw[aeF e1 e2 (by rw[<-av];exact e4),<-av]
   exact aeE (l2.bx x3) iv hi
 ·obtain⟨M2,e2,l2⟩:=adZ l1 k t V S hS half
  have ac:=iv.Fj k t V
  rcases aeW l2.b iv.ro iv.mr (iv.few (by omega)) (by have:=iv.ln;omega) k60 t hV (by rw[iv.S];exact hS)with⟨c,M3,e3,x3⟩ | ⟨c,M3,e3,x3⟩
  ·rw[c]at ac
   have e4:=Lf l2.b (c:=s.cnt) e3
   rw[aeG e1 e2 (by rw[<-ac];exact e4),<-ac]
   exact ai5 (l2.bx x3) iv hi
  ·rw[c]at ac
   have e4:=Qu l2.b (c:=s.cnt) e3
   rw[aeG e1 e2 (by rw[<-ac];exact e4),<-ac]
   exact aeE (l2.bx x3) iv hi
end
section
variable{M:Mem}
theorem aaa{n:Nat}{x y:D}{z:Int}(h:M[n]? = some (.lst [x,y])):bN (.ref n) (.int (z % 2)) M= .ok (if z % 2=0 then x else y) M:=by
 have:z % 2=0\/z % 2=1:=by omega
 rcases this with e | e<;>rw[e]
 ·exact vL h (by omega) rfl
 ·exact vL h (by omega) rfl
theorem Qi{w0 w1 w3:Str}(h:SJ w0 w1 "own" w3):JoinOk " " [w0,w1,"own",w3]=true/\(Txt.join " " [w0,w1,"own",w3]).length<=1000/\Txt.split (Txt.join " " [w0,w1,"own",w3]) " " = [w0,w1,"own",w3]:=by
 obtain⟨h0,h1,_,h3⟩:=h
 rcases h0 with rfl | rfl<;>rcases h1 with rfl | rfl<;>rcases h3 with rfl | rfl<;>exact⟨by decide +kernel,by decide +kernel,by decide +kernel⟩
theorem XC(c:Int):∃w0 w1 w3 M',SJ w0 w1 "own" w3/\rW [.int c] M= .ok (.str (Txt.join " " [w0,w1,"own",w3])) M'/\Gr M M'/\decide (w0= "once")=decide (c / 2 % 2=0)/\decide (w3= "most")=decide (c % 2=0):=by
 obtain⟨w0,e0⟩:∃w0:Str,w0=if c / 2 % 2=0 then "once" else "free" := ⟨_,rfl⟩
 obtain⟨w1,e1⟩:∃w1:Str,w1=if c / 4 % 2=0 then "best" else "any" := ⟨_,rfl⟩
 obtain⟨w3,e3⟩:∃w3:Str,w3=if c % 2=0 then "most" else "half" := ⟨_,rfl⟩
 have g:SJ w0 w1 "own" w3:=by
  refine⟨?_,?_,.inl rfl,?_⟩
  ·rw[e0];split
   ·exact .inl rfl
   ·exact .inr rfl
  ·rw[e1];split
   ·exact .inl rfl
   ·exact .inr rfl
  ·rw[e3];split
   ·exact .inl rfl
   ·exact .inr rfl
 obtain⟨j1,j2,j3⟩:=Qi g
 obtain⟨A,hA⟩:∃A,A=M++[MO.lst [.str "once",.str "free"]]:=⟨_,rfl⟩
 obtain⟨B,hB⟩:∃B,B=A++[MO.lst [.str "best",.str "any"]]:=⟨_,rfl⟩
 obtain⟨C,hC⟩:∃C,C=B++[MO.lst [.str "most",.str "half"]]:=⟨_,rfl⟩
 obtain⟨E,hE⟩:∃E,E=C++[MO.lst [.str w0,.str w1,.str "own",.str w3]]:=⟨_,rfl⟩
 have gA:Gr M A:=by rw[hA];exact Gr.app
 have gB:Gr A B:=by rw[hB];exact Gr.app
 have gC:Gr B C:=by rw[hC];exact Gr.app
 have gE:Gr C E:=by rw[hE];exact Gr.app
 have x0:bN (.ref M.length) (.int (c / 2 % 2)) A= .ok (.str w0) A:=by
  rw[aaa (by rw[hA];exact cA),e0];split<;>rfl
 have x1:bN (.ref A.length) (.int (c / 4 % 2)) B= .ok (.str w1) B:=by
  rw[aaa (by rw[hB];exact cA),e1];split<;>rfl
 have x3:bN (.ref B.length) (.int (c % 2)) C= .ok (.str w3) C:=by
  rw[aaa (by rw[hC];exact cA),e3];split<;>rfl
 have jn:Lk (.str " ") [.ref C.length] E= .ok (.str (Txt.join " " [w0,w1,"own",w3])) E:=ZF (ws:=[w0,w1,"own",w3]) (by rw[hE];exact cA) j1
 have md:∀(z:Int) (M:Mem),gY (.int z) (.int 2) M= .ok (.int (z % 2)) M:=λz M=>jV (by omega)
 have dv:∀(z j:Int) (M:Mem),0<j->j<1073741824->m9 (.int z) (.int j) M= .ok (.int (z / j)) M:=λz j M h h'=>oV h h'
 have d2:=dv c 2 A (by omega) (by omega)
 have d4:=dv c 4 B (by omega) (by omega)
 have ty:WY "str" (.str " ") E=true:=rfl
 refine⟨w0,w1,w3,E,g,?_,gA.trans (gB.trans (gC.trans gE)),?_,?_⟩
 ·simp only[rW,sJ]
  simp[<-hA,d2,md,x0,<-hB,d4,x1,<-hC,x3,<-hE,ty,jn]
 ·rw[e0]
  by_cases z:c / 2 % 2=0
  ·simp[z]
  ·rw[if_neg z];simp[z];decide
 ·rw[e3]
  by_cases z:c % 2=0
  ·simp[z]
  ·rw[if_neg z];simp[z];decide
def jM(c:Int):Bool:=decide (c % 4<2)||decide (c / 4 / 2 % 2=0)
def iZ(c:Int):Bool:=decide (1<c % 4)&&decide (c / 4 % 2=1)
theorem XF(S:Nat)(c:Int):∃a r2 M',lF [.int (S:Int),.int c] M= .ok (.ref a.b) M'/\dg M' a (b0 S (jM c) r2 true (!iZ c))/\Gr M M'/\M.length<=a.b:=by
 have m4:∀M:Mem,gY (.int c) (.int 4) M= .ok (.int (c % 4)) M:=λM=>jV (by omega)
 by_cases z0:c % 4=0
 ·obtain⟨a,M',e,ha,h,g⟩:=J3 (M:=M) (S:=S)
  have q1:jM c=true:=by simp[jM,z0]
  have q2:iZ c=false:=by simp[iZ,z0]
  refine⟨a,true,M',?_,by rw[q1,q2];exact h,g,by omega⟩
  simp only[lF,lK,oG,oF]
  simp[m4,z0,e,ha]
 by_cases z1:c % 4=1
 ·obtain⟨a,M',e,ha,h,g⟩:=J3 (M:=M) (S:=S)
  have q1:jM c=true:=by simp[jM,z1]
  have q2:iZ c=false:=by simp[iZ,z1]
  refine⟨a,true,M',?_,by rw[q1,q2];exact h,g,by omega⟩
  simp only[lF,lK,oG,oF]
  simp[m4,z1,e,ha]
 ·obtain⟨w0,w1,w3,M1,gd,e1,g1,q0,q3⟩:=XC (M:=M) (c / 4)
  obtain⟨j1,j2,j3⟩:=Qi gd
  obtain⟨M2,e2,g2,o2⟩:=QT (M:=M1) j2 j3 gd
  obtain⟨a,M',e,ha,h,g⟩:=abD (M:=M2) (S:=S) o2
  have l1:=(g1.le)
  have l2:=(g2.le)
  have z2:¬c % 4<2:=by omega
  have z3:1<c % 4:=by omega
  have r1:decide (w0= "once")=jM c:=by rw[q0];simp[jM,z2]
  have r4:decide (w3= "most")= !iZ c:=by
   rw[q3]
   have:c / 4 % 2=0\/c / 4 % 2=1:=by omega
   rcases this with z | z<;>simp[iZ,z3,z]
  have d4:m9 (.int c) (.int 4) M= .ok (.int (c / 4)) M:=oV (by omega) (by omega)
  rw[r1,r4]at h
  refine⟨a,decide (w1= "best"),M',?_,by simpa using h,g1.trans (g2.trans g),by omega⟩
  simp only[lF,lK,oG,oF]
  simp[m4,z0,z1,d4,e1,e2,e,ha]
theorem Zd{c n0 n1 n2 n3 n4:Nat}(hc:c<16)(h0:n0<=1)(h1:n1<=1)(h2:n2<=1)(h3:n3<=1)(h4:n4<=1):n0*2 ^ c+n1*2 ^ (c+11)+n2*2 ^ (c+22)+n3*2 ^ (c+33)+n4*2 ^ (c+44)<2 ^ 60:=by
 have p:∀(n k:Nat),n<=1->n*2 ^ (c+k)<=2 ^ (15+k):=λn k hn=>yY (Nat.mul_le_mul hn (Nat.pow_le_pow_right (by omega) (show c+k<=15+k by omega))) (by omega)
 have a0:=p n0 0 h0
 have a1:=p n1 11 h1
 have a2:=p n2 22 h2
 have a3:=p n3 33 h3
 have a4:=p n4 44 h4
 simp only[Nat.add_zero]at a0
 have:2 ^ 15+2 ^ (15+11)+2 ^ (15+22)+2 ^ (15+33)+2 ^ (15+44)<2 ^ 60:=by decide
 omega
def hB(x:Int)(d:D):D:=match d with
 | .int j=> .int (x+11*j)
 | d=>d
def fB(x:Int)(c:Nat)(d:D):D:=match d with
 | .int j=> .int (Builtin.bitAnd (x / 2 ^ j.toNat) 1*2 ^ (c+11*j.toNat))
 | d=>d
theorem ait:zY 0 5=[.int 0,.int 1,.int 2,.int 3,.int 4]:=rfl
theorem r5:Ky [.int 5] M= .ok ⟨none,zY 0 5⟩ M:=Dc (by omega) (by omega)
theorem aa6(ns:List Int):∃c:Nat,c<16/\rm none JC (aD GX (aD gY (cV dh 2 [] (au (aq 1) (au (mC (.int 0)) aK))) (mC (.int 16))) (aD QK (mC (.int 11)) (aq 0))) [some (.cl (ns.map D.int))] (zY 0 5) [] M= .ok (.ref M.length) (M++[.lst (hv (hds c))]):=by
 have c0:=Ww (M:=M) ns 0 (kk:=0) rfl
 have m16:gY (.int (cell ns 0)) (.int 16) M= .ok (.int (cell ns 0 % 16)) M:=jV (by omega)
 refine⟨(cell ns 0 % 16).toNat,by omega,?_⟩
 rw[RW (src:=none) (hB (cell ns 0 % 16)) trivial λd hd=>by
  obtain⟨j,hj,rfl⟩:=N_ hd
  have mu:QK (.int 11) (.int (0+(j:Int))) M= .ok (.int (11*(0+(j:Int)))) M:=QJ (.inl (by omega))
  simp[c0,m16]
  simp at mu
  simp[mu,hB]]
 congr 3
 have:cell ns 0 % 16=((cell ns 0 % 16).toNat:Int):=by omega
 rw[ait]
 simp only[List.map_cons,List.map_nil,hB,hds,hv]
 congr 1
 simp only[List.cons.injEq,D.int.injEq,and_true]
 refine⟨by omega,by omega,by omega,by omega,by omega⟩
theorem abn{hl c:Nat}(hc:c<16)(hM:M[hl]? = some (.lst (hv (hds c))))(rest:Int):∃(S:Nat) (M':Mem),S<2 ^ 60/\Gr M M'/\∀e:Sl,e[1]? = some (some (.ref hl))->e[2]? = some (some (.int rest))->(F_ Xa (au (FZ [1,2] (FW (au (mC (.int 5)) aK)) JC (aD wR (aD vM (aD Bm (aD GX (mC (.int 1)) (aD gY (aq 2) (mC (.int 31)))) (aq 0)) (mC (.int 1))) (aD bN (aq 1) (aq 0)))) aK)) e M= .ok (.int (S:Int)) M':=by
 obtain⟨x,hx⟩:∃x:Int,x=1+rest % 31:=⟨_,rfl⟩
 have m31:gY (.int rest) (.int 31) M= .ok (.int (rest % 31)) M:=jV (by omega)
 have cp:rm none JC (aD wR (aD vM (aD Bm (aD GX (mC (.int 1)) (aD gY (aq 2) (mC (.int 31)))) (aq 0)) (mC (.int 1))) (aD bN (aq 1) (aq 0))) [some (.ref hl),some (.int rest)] (zY 0 5) [] M= .ok (.ref M.length) (M++[.lst ((zY 0 5).map (fB x c))]):=
  RW (src:=none) (fB x c) trivial λd hd=>by
   obtain⟨j,hj,rfl⟩:=N_ hd
   rw[Int.zero_add]
   obtain⟨n,hn,hn1⟩:=HM.lJ (x / 2 ^ j) 1
   have hn':Builtin.bitAnd (x / 2 ^ j) 1=(n:Int):=hn
   have ix:bN (.ref hl) (.int (j:Int)) M= .ok (.int ((c:Int)+11*(j:Int))) M:=by
    refine vL hM (by omega) ?_
    simp only[hv,zaq,zap,Wi hj]
    simp
   have sh:wR (.int (n:Int)) (.int ((c:Int)+11*(j:Int))) M= .ok (.int ((n:Int)*2 ^ (c+11*j))) M:=by
    rw[zA ⟨by omega,by omega,by omega⟩,show((c:Int)+11*(j:Int)).toNat=c+11*j by omega]
   have sr:Bm (.int x) (.int (j:Int)) M= .ok (.int (x / 2 ^ j)) M:=by
    rw[Vu (by omega),zap]
   have sx:(1:Int)+rest % 31=x:=hx.symm
   simp[m31,sx,sr,hn',ix,sh,fB]
 obtain⟨n0,e0,b0⟩:=HM.lJ (x / 2 ^ 0) 1
 obtain⟨n1,e1,b1⟩:=HM.lJ (x / 2 ^ 1) 1
 obtain⟨n2,e2,b2⟩:=HM.lJ (x / 2 ^ 2) 1
 obtain⟨n3,e3,b3⟩:=HM.lJ (x / 2 ^ 3) 1
 obtain⟨n4,e4,b4⟩:=HM.lJ (x / 2 ^ 4) 1
 obtain⟨N,hN⟩:∃N,N=M++[MO.lst ((zY 0 5).map (fB x c))]:=⟨_,rfl⟩
 rw[<-hN]at cp
 have lst:(zY 0 5).map (fB x c)=[(n0:Int)*2 ^ c,(n1:Int)*2 ^ (c+11),(n2:Int)*2 ^ (c+22),(n3:Int)*2 ^ (c+33),(n4:Int)*2 ^ (c+44)].map D.int:=by
  rw[ait]
  have f0:fB x c (.int 0)= .int ((n0:Int)*2 ^ (c)):=by
   have q:Builtin.bitAnd (x / 2 ^ 0) 1=(n0:Int):=e0
   rw[<-q]
   rfl
  have f1:fB x c (.int 1)= .int ((n1:Int)*2 ^ (c+11)):=by
   have q:Builtin.bitAnd (x / 2 ^ 1) 1=(n1:Int):=e1
   rw[<-q]
   rfl
  have f2:fB x c (.int 2)= .int ((n2:Int)*2 ^ (c+22)):=by
   have q:Builtin.bitAnd (x / 2 ^ 2) 1=(n2:Int):=e2
   rw[<-q]
   rfl
  have f3:fB x c (.int 3)= .int ((n3:Int)*2 ^ (c+33)):=by
   have q:Builtin.bitAnd (x / 2 ^ 3) 1=(n3:Int):=e3
   rw[<-q]
   rfl
  have f4:fB x c (.int 4)= .int ((n4:Int)*2 ^ (c+44)):=by
   have q:Builtin.bitAnd (x / 2 ^ 4) 1=(n4:Int):=e4
   rw[<-q]
   rfl
  simp only[List.map_cons,List.map_nil,f0,f1,f2,f3,f4]
 have sm:=Zt (M:=N) (n:=M.length) (is:=[(n0:Int)*2 ^ c,(n1:Int)*2 ^ (c+11),(n2:Int)*2 ^ (c+22),(n3:Int)*2 ^ (c+33),(n4:Int)*2 ^ (c+44)]) (by rw[hN,<-lst];exact cA)
 obtain⟨p0,q0⟩:∃p:Nat,p=n0*2 ^ c:=⟨_,rfl⟩
 obtain⟨p1,q1⟩:∃p:Nat,p=n1*2 ^ (c+11):=⟨_,rfl⟩
 obtain⟨p2,q2⟩:∃p:Nat,p=n2*2 ^ (c+22):=⟨_,rfl⟩
 obtain⟨p3,q3⟩:∃p:Nat,p=n3*2 ^ (c+33):=⟨_,rfl⟩
 obtain⟨p4,q4⟩:∃p:Nat,p=n4*2 ^ (c+44):=⟨_,rfl⟩
 have sb:=Zd hc b0 b1 b2 b3 b4
 rw[<-q0,<-q1,<-q2,<-q3,<-q4]at sb
 have pc:∀(n k:Nat),(n:Int)*2 ^ k=((n*2 ^ k:Nat):Int):=λn k=>by simp
 rw[pc,pc,pc,pc,pc,<-q0,<-q1,<-q2,<-q3,<-q4]at sm
 have su:([(p0:Int),(p1:Int),(p2:Int),(p3:Int),(p4:Int)]:List Int).sum=((p0+p1+p2+p3+p4:Nat):Int):=by
  simp
  omega
 rw[su]at sm
 refine⟨p0+p1+p2+p3+p4,N,sb,by rw[hN];exact Gr.app,λe h1 h2=> ?_⟩
 have cap:Aa [1,2] e=[some (.ref hl),some (.int rest)]:=by simp[Aa,h1,h2]
 simp only[agf,aaM,aaN,aaJ,aeD,adp,Out.cN,r5,cap,cp,sm]
end
theorem iv0{S:Nat}{once half:Bool}{r2:Bool}:Iv S once half 0 (b0 S once r2 true (!half)):=
 ⟨rfl,rfl,rfl,rfl,rfl,zad _,zad _,zad _,zad _,zad _,λh t=>by
  have e:(b0 S once r2 true (!half)).Cp h t=0:=rfl
  have e2:(b0 S once r2 true (!half)).ask h t=none:=rfl
  rw[e,e2]
  simp,.inl rfl⟩
theorem qt{s t:MS}{e e':Sl}{M M':Mem}(h:s e M= .next e' M'):aR s t e M=t e' M':=by rw[zG,h,xQ]
theorem ajv(ns:List Int):(cut ns (some 3) (some 43)).length<=40:=by
 unfold cut
 rw[List.length_take]
 refine yY (Nat.min_le_left _ _) ?_
 simp[HT.bN]
 omega
theorem agi(ns:List Int)(hn:ns.length<=63):∃M,aaH [.cl (ns.map D.int)] []= .ok (.bl true) M:=by
 obtain⟨c,hc,e1⟩:=aa6 (M:=[]) ns
 obtain⟨A,hA⟩:∃A:Mem,A=[]++[MO.lst (hv (hds c))]:=⟨_,rfl⟩
 rw[<-hA]at e1
 have hA0:A[0]? = some (.lst (hv (hds c))):=by rw[hA];rfl
 have lA:A.length=1:=by rw[hA];rfl
 obtain⟨rest,hrest⟩:∃rest,rest=cell ns 0 / 16:=⟨_,rfl⟩
 obtain⟨c1,hc1⟩:∃c1,c1=cell ns 1:=⟨_,rfl⟩
 obtain⟨T,hT⟩:∃T:Int,T=10 ^ 40:=⟨_,rfl⟩
 obtain⟨base,hbase⟩:∃base,base=cell ns 2 % T:=⟨_,rfl⟩
 obtain⟨S,B,hS,gB,e2⟩:=abn (M:=A) (hl:=0) hc hA0 rest
 obtain⟨a,r2,C,e3,hb,gC,lb⟩:=XF (M:=B) S c1
 obtain⟨cs,hcs⟩:∃cs,cs=cut ns (some 3) (some 43):=⟨_,rfl⟩
 have amL:cs.length<=40:=by rw[hcs];exact ajv ns
 obtain⟨E,hE⟩:∃E:Mem,E=C++[.dk [],.dk [],.dk []]:=⟨_,rfl⟩
 obtain⟨F,hF⟩:∃F:Mem,F=E++[.lst (cs.map D.int)]:=⟨_,rfl⟩
 have lE:E.length=C.length+3:=by rw[hE];simp
 have gE:Gr C E:=by rw[hE];exact Gr.app
 have gF:Gr E F:=by rw[hF];exact Gr.app
 obtain⟨p,hp⟩:∃p:LP,p=⟨0,C.length,C.length+1,C.length+2,E.length,c,cs⟩:=⟨_,rfl⟩
 obtain⟨s0,hs0⟩:∃s0,s0=b0 S (jM c1) r2 true (!iZ c1):=⟨_,rfl⟩
 have lB:=gB.le
 have bl:=hb.lt
 have l0:pI F a s0 p s0.tm s0.vt (.dk (ge kI nD s0.se)):=by
  rw[hs0]
  refine⟨(Bx.gr hb (gE.trans gF)).h,?_,.inr ⟨?_,rfl⟩,?_,?_,?_,?_,by rw[hp];exact hc⟩
  ·rw[hp];exact gF _ _ (by rw[hE];simp;rfl)
  ·rw[hp];exact gF _ _ (by rw[hE];simp)
  ·rw[hp];exact gF _ _ (by rw[hE];simp;rfl)
  ·rw[hp];exact gF _ _ (gE _ _ (gC _ _ (gB _ _ hA0)))
  ·rw[hp,hF];exact cA
  ·rw[hp]
   refine⟨?_,bl,?_,?_,?_⟩<;>simp only<;>omega
 have i0:Iv S (jM c1) (iZ c1) 0 s0:=by rw[hs0];exact iv0
 have hpc:p.cs=cs:=by rw[hp]
 have hph:p.hl=0:=by rw[hp]
 have hpk:kn p= .tup [.ref C.length,.ref (C.length+1),.ref (C.length+2)]:=by rw[hp];rfl
 have f0:s0.cnt=0:=by rw[hs0];rfl
 have f1:s0.br= .non:=by rw[hs0];rfl
 obtain⟨e',M1,lp,s1,w12,w13,w14,w15,w16,w17,w18,he,l1,i1⟩:=uP (src:=some (E.length,cs.map D.int)) (g:=gN 12) (b:=vB) (Ms ns a p S (jM c1) (iZ c1) rest c1 base) (ds:=cs.map D.int)
  (e:=DN ns a p S (jM c1) (iZ c1) rest c1 base 0 .non [none,none,none,none,none,none,none]) (M:=F) ⟨s0,_,_,_,_,_,_,_,by rw[f0,f1],l0,i0⟩
  (λi e M' _ q=>by
   obtain⟨s,_,_,_,_,_,_,_,_,l,_⟩:=q.h
   have:=l.sc
   rw[hpc]at this
   have hsl:p.sl=E.length:=by rw[hp]
   rw[hsl]at this
   exact dM this)
  λi d e M2 hd hh=>adt hS (by have:=(List.getElem?_eq_some_iff.mp hd).1;simp at this;omega) (by rw[hpc];exact hd) hh
 have cl:∀(M:Mem) (k:Nat),dh [.cl (ns.map D.int),.int (k:Int)] M= .ok (.int (cell ns k)) M:=λM k=>Ww ns k rfl
 have k0:=cl A 0
 have k1:=cl B 1
 have k2:=cl B 2
 simp only[Int.cast_ofNat_Int]at k0 k1 k2
 rw[<-hc1]at k1
 have d16:m9 (.int (cell ns 0)) (.int 16) A= .ok (.int rest) A:=by rw[oV (by omega) (by omega),hrest]
 have m4:gY (.int c1) (.int 4) B= .ok (.int (c1 % 4)) B:=jV (by omega)
 have d4:m9 (.int c1) (.int 4) B= .ok (.int (c1 / 4)) B:=oV (by omega) (by omega)
 have m2:∀z:Int,gY (.int z) (.int 2) B= .ok (.int (z % 2)) B:=λz=>jV (by omega)
 have d2:m9 (.int (c1 / 4)) (.int 2) B= .ok (.int (c1 / 4 / 2)) B:=oV (by omega) (by omega)
 have pw:Zx (.int 10) (.int 40) B= .ok (.int T) B:=by rw[Zw ⟨by omega,by omega,by decide⟩,hT];rfl
 have mT:gY (.int (cell ns 2)) (.int T) B= .ok (.int base) B:=by rw[jV (by rw[hT];decide),hbase]
 have hi:∀b:Bool,ZK [.bl b] B= .ok (.int (if b=true then 1 else 0)) B:=λb=>rfl
 have hv5:∀e:Sl,e[4]? = some (some (.int c1))->F_ ZK (au (Al (aD GR (aD gY (aq 4) (mC (.int 4))) (mC (.int 1))) (aD sEq (aD gY (aD m9 (aq 4) (mC (.int 4))) (mC (.int 2))) (mC (.int 1)))) aK) e B= .ok (.int (if iZ c1=true then 1 else 0)) B:=λe he=>by
  by_cases z:1<c1 % 4
  ·have hb':iZ c1=decide (c1 / 4 % 2=1):=by simp[iZ,z]
   rw[hb']
   simp[he,m4,z,d4,m2,hi]
  ·have hb':iZ c1=false:=by simp[iZ,z]
   rw[hb']
   simp[he,m4,z,hi]
 have hv6:∀e:Sl,e[4]? = some (some (.int c1))->Uk (aD sLt (aD gY (aq 4) (mC (.int 4))) (mC (.int 2))) (aD sEq (aD gY (aD m9 (aD m9 (aq 4) (mC (.int 4))) (mC (.int 2))) (mC (.int 2))) (mC (.int 0))) e B= .ok (.bl (jM c1)) B:=λe he=>by
  by_cases z:c1 % 4<2
  ·have hb':jM c1=true:=by simp[jM,z]
   rw[hb']
   simp[he,m4,z]
  ·have hb':jM c1=decide (c1 / 4 / 2 % 2=0):=by simp[jM,z]
   rw[hb']
   simp[he,m4,z,d4,d2,m2]
 have cm:cut (ns.map D.int) (some 3) (some 43)=cs.map D.int:=by rw[adT,<-hcs]
 have kd:C++[MO.dk []]++[MO.dk []]++[MO.dk []]=E:=by rw[hE];simp
 have itr:=yM (M:=F) (n:=E.length) (ds:=cs.map D.int) (by rw[hF];exact cA)
 refine⟨M1,?_⟩
 simp only[DN,hph,hpk]at lp
 simp only[aaH,WK,Wm]
 simp only[ou,qm,vD,ql]
 refine(congrArg zZ (qt (e':=[some (.cl (ns.map D.int)),some (.ref 0),none,none,none,none,none,none,none,none,none,none,none,none,none,none,none,none,none]) (M':=A) ?_)).trans ?_
 ·simp[r5,Aa]
  simp only[List.length_nil]at e1
  simp[e1]
 refine(congrArg zZ (qt (e':=[some (.cl (ns.map D.int)),some (.ref 0),some (.int rest),none,none,none,none,none,none,none,none,none,none,none,none,none,none,none,none]) (M':=A) ?_)).trans ?_
 ·simp[k0,d16]
 refine(congrArg zZ (qt (e':=[some (.cl (ns.map D.int)),some (.ref 0),some (.int rest),some (.int (S:Int)),none,none,none,none,none,none,none,none,none,none,none,none,none,none,none]) (M':=B) ?_)).trans ?_
 ·have q:=e2 [some (.cl (ns.map D.int)),some (.ref 0),some (.int rest),none,none,none,none,none,none,none,none,none,none,none,none,none,none,none,none] rfl rfl
  rw[Hy,q]
  simp
 refine(congrArg zZ (qt (e':=[some (.cl (ns.map D.int)),some (.ref 0),some (.int rest),some (.int (S:Int)),some (.int c1),none,none,none,none,none,none,none,none,none,none,none,none,none,none]) (M':=B) ?_)).trans ?_
 ·simp[k1]
 refine(congrArg zZ (qt (e':=[some (.cl (ns.map D.int)),some (.ref 0),some (.int rest),some (.int (S:Int)),some (.int c1),some (.int (if iZ c1=true then 1 else 0)),none,none,none,none,none,none,none,none,none,none,none,none,none]) (M':=B) ?_)).trans ?_
 ·have q:=hv5 [some (.cl (ns.map D.int)),some (.ref 0),some (.int rest),some (.int (S:Int)),some (.int c1),none,none,none,none,none,none,none,none,none,none,none,none,none,none] rfl
  rw[Hy,q]
  simp
 refine(congrArg zZ (qt (e':=[some (.cl (ns.map D.int)),some (.ref 0),some (.int rest),some (.int (S:Int)),some (.int c1),some (.int (if iZ c1=true then 1 else 0)),some (.bl (jM c1)),none,none,none,none,none,none,none,none,none,none,none,none]) (M':=B) ?_)).trans ?_
 ·have q:=hv6 [some (.cl (ns.map D.int)),some (.ref 0),some (.int rest),some (.int (S:Int)),some (.int c1),some (.int (if iZ c1=true then 1 else 0)),none,none,none,none,none,none,none,none,none,none,none,none,none] rfl
  rw[Hy,q]
  simp
 refine(congrArg zZ (qt (e':=[some (.cl (ns.map D.int)),some (.ref 0),some (.int rest),some (.int (S:Int)),some (.int c1),some (.int (if iZ c1=true then 1 else 0)),some (.bl (jM c1)),some (.int base),none,none,none,none,none,none,none,none,none,none,none]) (M':=B) ?_)).trans ?_
 ·simp[k2,pw,mT]
 refine(congrArg zZ (qt (e':=[some (.cl (ns.map D.int)),some (.ref 0),some (.int rest),some (.int (S:Int)),some (.int c1),some (.int (if iZ c1=true then 1 else 0)),some (.bl (jM c1)),some (.int base),some (.ref a.b),none,none,none,none,none,none,none,none,none,none]) (M':=C) ?_)).trans ?_
 ·simp[e3]
 refine(congrArg zZ (qt (e':=[some (.cl (ns.map D.int)),some (.ref 0),some (.int rest),some (.int (S:Int)),some (.int c1),some (.int (if iZ c1=true then 1 else 0)),some (.bl (jM c1)),some (.int base),some (.ref a.b),some (.tup [.ref C.length,.ref (C.length+1),.ref (C.length+2)]),none,none,none,none,none,none,none,none,none]) (M':=E) ?_)).trans ?_
 ·simp
  simp at kd
  simp[kd]
 refine(congrArg zZ (qt (e':=[some (.cl (ns.map D.int)),some (.ref 0),some (.int rest),some (.int (S:Int)),some (.int c1),some (.int (if iZ c1=true then 1 else 0)),some (.bl (jM c1)),some (.int base),some (.ref a.b),some (.tup [.ref C.length,.ref (C.length+1),.ref (C.length+2)]),some (.int 0),none,none,none,none,none,none,none,none]) (M':=E) ?_)).trans ?_
 ·simp
 refine(congrArg zZ (qt (e':=[some (.cl (ns.map D.int)),some (.ref 0),some (.int rest),some (.int (S:Int)),some (.int c1),some (.int (if iZ c1=true then 1 else 0)),some (.bl (jM c1)),some (.int base),some (.ref a.b),some (.tup [.ref C.length,.ref (C.length+1),.ref (C.length+2)]),some (.int 0),some (.non),none,none,none,none,none,none,none]) (M':=E) ?_)).trans ?_
 ·simp
 simp only[zG,acC,aaL]
 simp[cm,<-hF,itr]
 simp at lp
 simp[lp]
def top(i:Nat):Stmt:=PySem.Challenge.pw_chairvote_k61_votes_and_chairs.main.body.getD i (.Pass ⟨0,0,0,0⟩)
abbrev tE:Stmt:=top 43
abbrev vG:Stmt:=top 32
abbrev d7:Stmt:=inClass (top 33) 0
abbrev vJ:Stmt:=inClass (top 33) 2
abbrev qN:Stmt:=inClass (top 9) 0
abbrev qI:Stmt:=inClass (top 35) 0
abbrev qJ:Stmt:=inClass (top 29) 0
abbrev d8:Stmt:=inClass (top 41) 0
abbrev xZ:Stmt:=top 45
abbrev yc:Stmt:=top 46
abbrev x_:Stmt:=top 51
abbrev qF:Stmt:=top 47
abbrev Bj:Stmt:=top 44
abbrev pB:Stmt:=top 48
abbrev yd:Stmt:=top 39
abbrev Eg:Stmt:=top 40
abbrev Jd:Stmt:=top 18
abbrev nG:Stmt:=inClass (top 35) 1
abbrev lW:Stmt:=inClass (top 9) 1
abbrev kj:Stmt:=inClass (top 9) 3
abbrev Jc:Stmt:=top 2
abbrev kO:Stmt:=inClass (top 9) 6
abbrev jh:Stmt:=inClass (top 9) 4
abbrev fY:Stmt:=inClass (top 9) 7
abbrev kJ:Stmt:=inClass (top 9) 5
abbrev kW:Stmt:=inClass (top 9) 11
abbrev Bk:Stmt:=top 3
abbrev jP:Stmt:=inClass (top 9) 10
abbrev TX:Stmt:=top 4
abbrev jw:Stmt:=top 5
abbrev vH:Stmt:=top 6
abbrev vI:Stmt:=inClass (top 33) 1
abbrev jR:Stmt:=inClass (top 9) 9
abbrev pA:Stmt:=top 19
abbrev Eh:Stmt:=top 20
abbrev kh:Stmt:=inClass (top 35) 6
abbrev jO:Stmt:=inClass (top 41) 3
abbrev qM:Stmt:=inClass (top 41) 2
abbrev bV:Stmt:=inClass (top 11) 0
abbrev pG:Stmt:=inClass (top 9) 2
abbrev qO:Stmt:=inClass (top 9) 8
abbrev jQ:Stmt:=inClass (top 9) 12
abbrev jg:Stmt:=inClass (top 35) 9
abbrev qG:Stmt:=inClass (top 35) 3
abbrev ye:Stmt:=top 22
abbrev qH:Stmt:=inClass (top 35) 2
abbrev lU:Stmt:=inClass (top 35) 20
abbrev iJ:Stmt:=inClass (top 35) 19
abbrev lV:Stmt:=inClass (top 41) 12
abbrev gG:Stmt:=inClass (top 41) 10
abbrev jN:Stmt:=inClass (top 41) 9
abbrev vK:Stmt:=inClass (top 41) 1
abbrev xY:Stmt:=top 49
abbrev qL:Stmt:=inClass (top 41) 13
abbrev pF:Stmt:=inClass (top 41) 14
abbrev nH:Stmt:=inClass (top 41) 16
abbrev nJ:Stmt:=inClass (top 9) 14
abbrev qK:Stmt:=inClass (top 41) 17
abbrev xX:Stmt:=top 50
abbrev Zr:Stmt:=top 52
noncomputable def o5:List Dsc:=nY 0 "_law_cell_at" "_law_cell_at" tE ["_law_script","_law_k"]::
 nY 0 "wrong_word" "wrong_word" vG ["words"]::
 nY 7 "twin" "Rules.twin" vJ ["self"]::
 nY 1 "__init__" "Ballots.__init__" qN ["self","rules"]::
 nY 8 "__init__" "Strides.__init__" qI ["self","first_roll","rules"]::
 nY 6 "__init__" "Replies.__init__" qJ ["self"]::
 nY 0 "_law_rules" "_law_rules" xZ ["_law_cell"]::
 nY 0 "_law_bench" "_law_bench" yc ["_law_first","_law_cell"]::
 nY 0 "_law_paper" "_law_paper" x_ ["_law_known","_law_cell","_law_hands","_law_base"]::
 nY 0 "_law_vote_due" "_law_vote_due" qF ["_law_known","_law_hand","_law_term","_law_whom","_law_once"]::
 nY 0 "_law_many" "_law_many" Bj ["_law_some"]::
 nY 0 "_law_chair_due" "_law_chair_due" pB ["_law_known","_law_hand","_law_term","_law_voters","_law_first","_law_half"]::
 nY 0 "is_formed" "is_formed" yd ["paper"]::
 nY 0 "term_on" "term_on" Eg ["paper"]::
 nY 0 "end_of" "end_of" Jd ["entries"]::
 nY 8 "row_of" "Strides.row_of" nG ["self","hand"]::
 nY 1 "term_of" "Ballots.term_of" lW ["self","hand"]::
 nY 1 "votes_of" "Ballots.votes_of" kj ["self","hand","term"]::
 nY 0 "set_of" "set_of" Jc ["hands"]::
 nY 1 "is_spent" "Ballots.is_spent" kO ["self","hand","term","whom"]::
 nY 1 "asked_with" "Ballots.asked_with" jh ["self","hand","term"]::
 nY 1 "is_good_enough" "Ballots.is_good_enough" fY ["self","whom","term","end"]::
 nY 1 "may_vote" "Ballots.may_vote" kJ ["self","hand","term","whom","end"]::
 nY 1 "chair_of" "Ballots.chair_of" kW ["self","term"]::
 nY 0 "hands_of" "hands_of" Bk ["S"]::
 nY 1 "voted_all" "Ballots.voted_all" jP ["self","voters","term","whom"]::
 nY 0 "many" "many" TX ["S"]::
 nY 7 "wins" "Rules.wins" vI ["self","roll","S"]::
 nY 1 "may_chair" "Ballots.may_chair" jR ["self","hand","term","voters","end","roll"]::
 nY 0 "roll_place_of" "roll_place_of" pA ["entries"]::
 nY 0 "roll_of" "roll_of" Eh ["entries","first_roll"]::
 nY 8 "row_roll" "Strides.row_roll" kh ["self","hand"]::
 nY 9 "allows_hand" "Bench.allows_hand" jO ["self","paper"]::
 nY 9 "allows" "Bench.allows" qM ["self","paper"]::
 nY 1 "reach" "Ballots.reach" pG ["self","hand","term"]::
 nY 1 "cast" "Ballots.cast" qO ["self","hand","term","whom","end"]::
 nY 1 "take_seat" "Ballots.take_seat" jQ ["self","hand","term"]::
 nY 8 "begin_line" "Strides.begin_line" jg ["self","hand","term"]::
 nY 8 "mark" "Strides.mark" qG ["self","term"]::
 nY 0 "are_alike" "are_alike" ye ["one","two","place"]::
 nY 8 "line" "Strides.line" qH ["self","term"]::
 nY 8 "is_kept" "Strides.is_kept" lU ["self","lesser","greater"]::
 nY 8 "lost_behind" "Strides.lost_behind" iJ ["self","term"]::
 nY 9 "find_lost" "Bench.find_lost" lV ["self","term"]::
 nY 9 "follow_to_chair" "Bench.follow_to_chair" gG ["self","hand","term"]::
 nY 9 "follow_hand" "Bench.follow_hand" jN ["self","paper"]::
 nY 9 "take" "Bench.take" vK ["self","paper"]::
 nY 0 "_law_taken" "_law_taken" xY ["_law_bench_here","_law_paper_here","_law_count"]::
 nY 9 "broken" "Bench.broken" qL ["self"]::
 nY 9 "term_of" "Bench.term_of" pF ["self","h"]::
 nY 9 "votes_of" "Bench.votes_of" nH ["self","h","term"]::
 nY 1 "chairs" "Ballots.chairs" nJ ["self"]::
 nY 9 "chairs" "Bench.chairs" qK ["self"]::
 nY 0 "_law_tells" "_law_tells" xX ["_law_bench_here","_law_known","_law_hands"]::
 nY 0 "law" "law" Zr ["_law_script"]::[]
set_option genInjectivity false in
structure Adr where
 c:Nat->Addr
 xs:List Fv
 mJ:Addr
 jD:FuncData
 Cy:Addr
 CK:Tok
 mK:Addr
 jF:FuncData
 Cz:Addr
 uQ:Addr
 qi:FuncData
 K_:Addr
 E_:Addr
 Ff:FuncData
 YL:Addr
 gH:Addr
 jE:FuncData
 Ez:Addr
 BL:Addr
 O3:Addr
def Adr.f(t:Adr)(i:Nat):Addr:=(t.xs.getD i fv0).f
def Adr.d(t:Adr)(i:Nat):FuncData:=(t.xs.getD i fv0).fd (o5.getD i d0)
structure Txt(K:Frag)(mg:Str->Option Value)(t:Adr):Prop where
 D:P_ K t.c o5 t.xs
 G:∀(x:Str) (f:Addr),nsIn K mainGlobals x=some (some (.ref f))->mg x=some (.ref f)
 Aq:zx K "__init__" "Rules.__init__" d7 (.ref t.Cy) t.mJ t.jD
 ir:Binds K t.jD ["self","text"] []
 uf:Binds K t.jD ["self","text"] [.str "once best own most" t.CK]
 Ar:zx K "__init__" "Bench.__init__" d8 (.ref t.Cz) t.mK t.jF
 fW:Binds K t.jF ["self","S","rules"] []
 A_:Binds K t.jF ["self","S","rules"] [.none]
 wu:zx K "carries" "carries" jw (.ref t.K_) t.uQ t.qi
 lM:Binds K t.qi ["S","part","half"] []
 U7:Binds K t.qi ["S","part","half"] [.bool false]
 Bt:mg "carries" = some (.ref t.uQ)
 O5:zx K "wins" "wins" vH (.ref t.YL) t.E_ t.Ff
 wB:Binds K t.Ff ["roll","S","half"] []
 ad_:Binds K t.Ff ["roll","S","half"] [.bool false]
 adm:mg "wins" = some (.ref t.E_)
 sG:zx K "__init__" "HallError.__init__" bV .none t.gH t.jE
 uT:Binds K t.jE ["self","at"] []
 oX:Mk K (t.c 6) t.mJ
 bW:Ig K (t.c 6)
 Dh:mg "Rules" = some (.ref (t.c 6))
 cH:zj K (t.c 6) ["once","best","own","most"]
 nP:Mk K (t.c 0) (t.f 3)
 aH:Ig K (t.c 0)
 Jz:mg "Ballots" = some (.ref (t.c 0))
 aY:zj K (t.c 0) ["rules","terms","votes","askings","seated"]
 nM:Mk K (t.c 7) (t.f 4)
 aQ:Ig K (t.c 7)
 Jx:mg "Strides" = some (.ref (t.c 7))
 bu:zj K (t.c 7) ["first_roll","rules","rows","lines","marks","places"]
 nO:Mk K (t.c 5) (t.f 5)
 g_:Ig K (t.c 5)
 Jy:mg "Replies" = some (.ref (t.c 5))
 gZ:zj K (t.c 5) ["beats","heard","looks","seen"]
 oY:Mk K (t.c 8) t.mK
 aO:Ig K (t.c 8)
 Di:mg "Bench" = some (.ref (t.c 8))
 aV:zj K (t.c 8) ["first","rules","ballots","strides","replies","count","breach"]
 N8:mg "HallError" = some (.ref (t.c 1))
 Mw:XMk K (t.c 1) t.gH
 vm:Dz K (t.c 1) "at"
 vf:XIs K (t.c 1)
 u9:exmOne K (.ref (t.c 1)) (.ref (t.c 1))=some true
 wg:kitOne K (.ref (t.c 1)) (.ref (t.c 1))=some true
 m_:exmOne K (.ref (t.c 1)) (.ref (t.c 2))=some false
 wV:kitOne K (.ref (t.c 1)) (.ref (t.c 2))=some false
 yx:mg "BadPaper" = some (.ref (t.c 2))
 Fw:XMk K (t.c 2) t.gH
 rG:Dz K (t.c 2) "at"
 xu:XIs K (t.c 2)
 wN:exmOne K (.ref (t.c 2)) (.ref (t.c 1))=some true
 wW:kitOne K (.ref (t.c 2)) (.ref (t.c 1))=some true
 oU:exmOne K (.ref (t.c 2)) (.ref (t.c 2))=some true
 yJ:kitOne K (.ref (t.c 2)) (.ref (t.c 2))=some true
 Ak:mg "wins_rolls" = some (.ref t.E_)
 aeA:mg "all" = none
 aaI:mg "bool" = none
 FQ:mg "enumerate" = none
 aez:mg "int" = none
 vZ:mg "isinstance" = none
 wJ:mg "len" = none
 aaG:mg "list" = none
 aaF:mg "max" = none
 aey:mg "min" = none
 zK:mg "range" = none
 yC:mg "sorted" = none
 aex:mg "sum" = none
 vX:mg "CHOICES" = some (.ref t.Ez)
 vA:∀ct ι n H,S.DV K ct ι n H (.m8 [(.m8 [(.str "once"),(.str "free")]),(.m8 [(.str "best"),(.str "any")]),(.m8 [(.str "own"),(.str "old")]),(.m8 [(.str "most"),(.str "half")])]) (.ref t.Ez)
 rQ:mg "OF_HANDS" = some (.ref t.BL)
 rK:∀ct ι n H,S.DV K ct ι n H (.m8 [(.str "vote"),(.str "chair"),(.str "told")]) (.ref t.BL)
 Rf:mg "SIZES" = some (.ref t.O3)
 Qt:aha K t.O3 [("vote",4),("chair",4),("write",4),("beat",3),("told",5),("settle",4),("answer",6),("look",6),("seen",8)]
section
variable{P:Program}{w:World}{K:Frag}{mg:Str->Option Value}{base:Heap}{t:Adr}
theorem Txt.fn(T:Txt K mg t)(i:Nat)(h:Nat.blt i o5.length=true):zx K (o5.getD i d0).2.1 (o5.getD i d0).2.2.1 (o5.getD i d0).2.2.2.1 .none (t.f i) (t.d i):=T.D.fn h
theorem Txt.kp(T:Txt K mg t)(i:Nat)(h:Nat.blt i o5.length=true):keepIn K (.ref (t.f i))=true:=(T.D.ok h).kp
theorem Txt.b(T:Txt K mg t)(i:Nat)(h:Nat.blt i o5.length=true):Binds K (t.d i) (o5.getD i d0).2.2.2.2 []:=T.D.b h
theorem Txt.me(T:Txt K mg t)(i:Nat)(h:Nat.blt i o5.length=true)(h1:((o5.getD i d0).1==0)=false):Meth K (t.c ((o5.getD i d0).1 - 1)) (o5.getD i d0).2.1 (t.f i):=T.D.me h h1
theorem Txt.mf(T:Txt K mg t)(i:Nat)(h:Nat.blt i o5.length=true)(h1:((o5.getD i d0).1==0)=true):mg (o5.getD i d0).2.1=some (.ref (t.f i)):=T.G _ _ ((T.D.ok h).a0 h1)
theorem Ja:aJ ["_law_script","_law_k"] ["_law_script","_law_k"] (aC tE):=lO
theorem sZ:aJ ["words","k","choice"] ["words"] (aC vG):=lO
theorem tu:aJ ["self","text","words","wrong"] ["self","text"] (aC d7):=lO
theorem Aj:aJ ["self","like"] ["self"] (aC vJ):=lO
theorem GP:aJ ["self","rules"] ["self","rules"] (aC qN):=lO
theorem GC:aJ ["self","first_roll","rules"] ["self","first_roll","rules"] (aC qI):=lO
theorem GD:aJ ["self"] ["self"] (aC qJ):=lO
theorem Kw:aJ ["self","S","rules"] ["self","S","rules"] (aC d8):=lO
theorem CQ:aJ ["_law_cell","_law_words"] ["_law_cell"] (aC xZ):=lO
theorem Ng:aJ ["_law_first","_law_cell"] ["_law_first","_law_cell"] (aC yc):=lO
theorem fK:aJ ["_law_known","_law_cell","_law_hands","_law_base","_law_hand","_law_term","_law_rest","_law_voters","_law_k"] ["_law_known","_law_cell","_law_hands","_law_base"] (aC x_):=lO
theorem wI:aJ ["_law_known","_law_hand","_law_term","_law_whom","_law_once","_law_voted"] ["_law_known","_law_hand","_law_term","_law_whom","_law_once"] (aC qF):=lO
theorem rO:aJ ["_law_some","_law_count"] ["_law_some"] (aC Bj):=lO
theorem uF:aJ ["_law_known","_law_hand","_law_term","_law_voters","_law_first","_law_half","_law_voter"] ["_law_known","_law_hand","_law_term","_law_voters","_law_first","_law_half"] (aC pB):=lO
theorem Nh:aJ ["paper"] ["paper"] (aC yd):=lO
theorem TV:aJ ["paper"] ["paper"] (aC Eg):=lO
theorem W_:aJ ["entries"] ["entries"] (aC Jd):=lO
theorem CT:aJ ["self","hand"] ["self","hand"] (aC nG):=lO
theorem Bh:aJ ["self","hand"] ["self","hand"] (aC lW):=lO
theorem zU:aJ ["self","hand","term"] ["self","hand","term"] (aC kj):=lO
theorem zF:aJ ["hands","S","hand"] ["hands"] (aC Jc):=lO
theorem pK:aJ ["self","hand","term","whom","votes"] ["self","hand","term","whom"] (aC kO):=lO
theorem wQ:aJ ["self","hand","term"] ["self","hand","term"] (aC jh):=lO
theorem jL:aJ ["self","whom","term","end","asked"] ["self","whom","term","end"] (aC fY):=lO
theorem zV:aJ ["self","hand","term","whom","end"] ["self","hand","term","whom","end"] (aC kJ):=lO
theorem zW:aJ ["self","term"] ["self","term"] (aC kW):=lO
theorem QF:aJ ["S"] ["S"] (aC Bk):=lO
theorem xU:aJ ["self","voters","term","whom"] ["self","voters","term","whom"] (aC jP):=lO
theorem acw:aJ ["S"] ["S"] (aC TX):=lO
theorem Jb:aJ ["S","part","half","twice"] ["S","part","half"] (aC jw):=lO
theorem acv:aJ ["roll","S","half"] ["roll","S","half"] (aC vH):=lO
theorem Ku:aJ ["self","roll","S"] ["self","roll","S"] (aC vI):=lO
theorem xW:aJ ["self","hand","term","voters","end","roll"] ["self","hand","term","voters","end","roll"] (aC jR):=lO
theorem nF:aJ ["entries","place"] ["entries"] (aC pA):=lO
theorem Bg:aJ ["entries","first_roll","place","what"] ["entries","first_roll"] (aC Eh):=lO
theorem zT:aJ ["self","hand"] ["self","hand"] (aC kh):=lO
theorem jf:aJ ["self","paper","hand","end"] ["self","paper"] (aC jO):=lO
theorem GK:aJ ["self","paper"] ["self","paper"] (aC qM):=lO
theorem CV:aJ ["self","at"] ["self","at"] (aC bV):=lO
theorem Ef:aJ ["self","hand","term"] ["self","hand","term"] (aC pG):=lO
theorem GQ:aJ ["self","hand","term","whom","end"] ["self","hand","term","whom","end"] (aC qO):=lO
theorem xV:aJ ["self","hand","term"] ["self","hand","term"] (aC jQ):=lO
theorem wO:aJ ["self","hand","term"] ["self","hand","term"] (aC jg):=lO
theorem Gy:aJ ["self","term"] ["self","term"] (aC qG):=lO
theorem Ni:aJ ["one","two","place"] ["one","two","place"] (aC ye):=lO
theorem Gz:aJ ["self","term"] ["self","term"] (aC qH):=lO
theorem qz:aJ ["self","lesser","greater","mark"] ["self","lesser","greater"] (aC lU):=lO
theorem lR:aJ ["self","term","other"] ["self","term"] (aC iJ):=lO
theorem qD:aJ ["self","term","lost"] ["self","term"] (aC lV):=lO
theorem tD:aJ ["self","hand","term"] ["self","hand","term"] (aC gG):=lO
theorem je:aJ ["self","paper","hand","term"] ["self","paper"] (aC jN):=lO
theorem Kv:aJ ["self","paper"] ["self","paper"] (aC vK):=lO
theorem fJ:aJ ["_law_bench_here","_law_paper_here","_law_count","_law_refused","_law_right","_law_found","e"] ["_law_bench_here","_law_paper_here","_law_count"] (aC xY):=lO
theorem GJ:aJ ["self"] ["self"] (aC qL):=lO
theorem Ed:aJ ["self","h"] ["self","h"] (aC pF):=lO
theorem CW:aJ ["self","h","term"] ["self","h","term"] (aC nH):=lO
theorem CZ:aJ ["self"] ["self"] (aC nJ):=lO
theorem GF:aJ ["self"] ["self"] (aC qK):=lO
theorem pW:aJ ["_law_bench_here","_law_known","_law_hands","_law_hand","_law_term","_law_told"] ["_law_bench_here","_law_known","_law_hands"] (aC xX):=lO
theorem eF:aJ ["_law_script","_law_hands","_law_rest","_law_first","_law_rules_here","_law_half","_law_once","_law_base","_law_bench_here","_law_known","_law_count","_law_broken","_law_cell","_law_paper_here","_law_word","_law_hand","_law_term","_law_last","_law_due"] ["_law_script"] (aC Zr):=lO
theorem Jt(T:Txt K mg t):aM P w K mg base (bT P w) 1 (t.f 0) (t.d 0) ["_law_script","_law_k"] (spS K t.c dh 2):=by
 show aM P w K mg base (bT P w) (0+1) (t.f 0) (t.d 0) ["_law_script","_law_k"] (spS K t.c (aU 2 oK) 2)
 refine cT (n:=2) (ar:=2) (k:=0) (b:=oK) (x:= "_law_cell_at") (qual:= "_law_cell_at") (st:=tE) (T.fn 0 rfl) Ja rfl rfl ?_
 intro cdv A outer s H E W hr
 exact(aA (bU (aW (BV hr.units) (aj 1) (cO q_ rfl T.wJ rA (ao (aj 0) aB)) (aN _)) (aF (aP (bw hr.units (aj 0) (aj 1)))) bF)
  (aF (aP az)))
theorem Kz(T:Txt K mg t):aM P w K mg base (bT P w) 1 (t.f 1) (t.d 1) ["words"] (spS K t.c pX 1):=by
 show aM P w K mg base (bT P w) (0+1) (t.f 1) (t.d 1) ["words"] (spS K t.c (aU 3 pZ) 1)
 refine cT (n:=3) (ar:=1) (k:=0) (b:=pZ) (x:= "wrong_word") (qual:= "wrong_word") (st:=vG) (T.fn 1 rfl) sZ rfl rfl ?_
 intro cdv A outer s H E W hr
 exact(aA (Bc (jW rfl rfl) rfl (Zj rfl T.FQ (zE rfl T.vX λι n H=>T.vA _ ι n H)) (Zk rfl (uE (jt (i:=1) sZ.nd rfl (Or.inl rfl)) (uE (jt (i:=2) sZ.nd rfl (Or.inl rfl)) Vv))) (aF (bU (SW.pt (wH (aW aeP (aj 1) (cO q_ rfl T.wJ rA (ao (aj 0) aB)) (aN _)) (xK (aW (abC hr.units) (bw hr.units (aj 0) (aj 1)) (aj 2) (by with_unfolding_all rfl))))) (aF (aP (aj 1))) bF)))
  (aA (bU (aW Du (cO q_ rfl T.wJ rA (ao (aj 0) aB)) (cO q_ rfl T.wJ rA (ao (zE rfl T.vX λι n H=>T.vA _ ι n H) aB)) (aN _)) (aF (aP (cO q_ rfl T.wJ rA (ao (zE rfl T.vX λι n H=>T.vA _ ι n H) aB)))) bF)
  (aF (aP lQ))))
theorem tM(T:Txt K mg t):aM P w K mg base (bT P w) 2 t.mJ t.jD ["self","text"] (spS K t.c fO 2):=by
 show aM P w K mg base (bT P w) (1+1) t.mJ t.jD ["self","text"] (spS K t.c (aU 4 ir) 2)
 have PL:= @Kz P w K mg base t T
 refine cT (n:=4) (ar:=2) (k:=1) (b:=ir) (x:= "__init__") (qual:= "Rules.__init__") (st:=d7) T.Aq tu rfl rfl ?_
 intro cdv A outer s H E W hr
 exact(aA (aX (i:=2) tu.nd rfl (Or.inl rfl) (Zq PySem.F.plainAttrs_str PySem.F.slot_str_split PySem.F.type_str_split aaC (aj 1) (ao di aB)))
  (aA (aX (i:=3) tu.nd rfl (Or.inl rfl) (bD PL Tk.wish (hr.mono (by decide)) rfl (T.mf 1 rfl rfl) (T.kp 1 rfl) (T.b 1 rfl) .nil (ao (aj 2) aB)))
  (aA (bU (aW Ds (aj 3) lQ (aN _)) (aF uB) bF)
  (aA (bZ (cs:=[6]) ⟨⟨T.bW,(T.cH.get (i:=0) rfl)⟩,zac⟩ (aj 0) (cU (c7 hr.units) (bw hr.units (aj 2) az) di (aN _)))
  (aA (bZ (cs:=[6]) ⟨⟨T.bW,(T.cH.get (i:=1) rfl)⟩,zac⟩ (aj 0) (cU (c7 hr.units) (bw hr.units (aj 2) az) di (aN _)))
  (aA (bZ (cs:=[6]) ⟨⟨T.bW,(T.cH.get (i:=2) rfl)⟩,zac⟩ (aj 0) (cU (c7 hr.units) (bw hr.units (aj 2) az) di (aN _)))
  (aF (bZ (cs:=[6]) ⟨⟨T.bW,(T.cH.get (i:=3) rfl)⟩,zac⟩ (aj 0) (cU (c7 hr.units) (bw hr.units (aj 2) az) di (aN _))))))))))
theorem KD(T:Txt K mg t):aM P w K mg base (bT P w) 4 (t.f 2) (t.d 2) ["self"] (spS K t.c l_ 1):=by
 show aM P w K mg base (bT P w) (3+1) (t.f 2) (t.d 2) ["self"] (spS K t.c (aU 2 p_) 1)
 have m7:= @tM P w K mg base t T
 refine cT (n:=2) (ar:=1) (k:=3) (b:=p_) (x:= "twin") (qual:= "Rules.twin") (st:=vJ) (T.fn 2 rfl) Aj rfl rfl ?_
 intro cdv A outer s H E W hr
 exact(aA (aX (i:=1) Aj.nd rfl (Or.inl rfl) (I_ (kc:=6) T.oX m7 Tk.wish (hr.mono (by decide)) rfl T.Dh T.uf (.cons (.str _ _) .nil)))
  (aA (bZ (cs:=[6]) ⟨⟨T.bW,(T.cH.get (i:=0) rfl)⟩,zac⟩ (aj 1) (bz (cs:=[6]) ⟨⟨T.bW,(T.cH.get (i:=0) rfl)⟩,zac⟩ (aj 0)))
  (aA (bZ (cs:=[6]) ⟨⟨T.bW,(T.cH.get (i:=1) rfl)⟩,zac⟩ (aj 1) (bz (cs:=[6]) ⟨⟨T.bW,(T.cH.get (i:=1) rfl)⟩,zac⟩ (aj 0)))
  (aA (bZ (cs:=[6]) ⟨⟨T.bW,(T.cH.get (i:=2) rfl)⟩,zac⟩ (aj 1) (bz (cs:=[6]) ⟨⟨T.bW,(T.cH.get (i:=2) rfl)⟩,zac⟩ (aj 0)))
  (aA (bZ (cs:=[6]) ⟨⟨T.bW,(T.cH.get (i:=3) rfl)⟩,zac⟩ (aj 1) (bz (cs:=[6]) ⟨⟨T.bW,(T.cH.get (i:=3) rfl)⟩,zac⟩ (aj 0)))
  (aF (aP (aj 1))))))))
theorem Hf(T:Txt K mg t):aM P w K mg base (bT P w) 1 (t.f 3) (t.d 3) ["self","rules"] (spS K t.c mz 2):=by
 show aM P w K mg base (bT P w) (0+1) (t.f 3) (t.d 3) ["self","rules"] (spS K t.c (aU 2 mZ) 2)
 refine cT (n:=2) (ar:=2) (k:=0) (b:=mZ) (x:= "__init__") (qual:= "Ballots.__init__") (st:=qN) (T.fn 3 rfl) GP rfl rfl ?_
 intro cdv A outer s H E W hr
 exact(aA (bZ (cs:=[0,7,8]) ⟨⟨T.aH,(T.aY.get (i:=0) rfl)⟩,⟨⟨T.aQ,(T.bu.get (i:=1) rfl)⟩,⟨⟨T.aO,(T.aV.get (i:=1) rfl)⟩,zac⟩⟩⟩ (aj 0) (aj 1))
  (aA (bZ (cs:=[0]) ⟨⟨T.aH,(T.aY.get (i:=1) rfl)⟩,zac⟩ (aj 0) gW)
  (aA (bZ (cs:=[0]) ⟨⟨T.aH,(T.aY.get (i:=2) rfl)⟩,zac⟩ (aj 0) gW)
  (aA (bZ (cs:=[0]) ⟨⟨T.aH,(T.aY.get (i:=3) rfl)⟩,zac⟩ (aj 0) gW)
  (aF (bZ (cs:=[0]) ⟨⟨T.aH,(T.aY.get (i:=4) rfl)⟩,zac⟩ (aj 0) gW))))))
theorem G6(T:Txt K mg t):aM P w K mg base (bT P w) 1 (t.f 4) (t.d 4) ["self","first_roll","rules"] (spS K t.c lZ 3):=by
 show aM P w K mg base (bT P w) (0+1) (t.f 4) (t.d 4) ["self","first_roll","rules"] (spS K t.c (aU 3 mU) 3)
 refine cT (n:=3) (ar:=3) (k:=0) (b:=mU) (x:= "__init__") (qual:= "Strides.__init__") (st:=qI) (T.fn 4 rfl) GC rfl rfl ?_
 intro cdv A outer s H E W hr
 exact(aA (bZ (cs:=[7]) ⟨⟨T.aQ,(T.bu.get (i:=0) rfl)⟩,zac⟩ (aj 0) (aj 1))
  (aA (bZ (cs:=[0,7,8]) ⟨⟨T.aH,(T.aY.get (i:=0) rfl)⟩,⟨⟨T.aQ,(T.bu.get (i:=1) rfl)⟩,⟨⟨T.aO,(T.aV.get (i:=1) rfl)⟩,zac⟩⟩⟩ (aj 0) (aj 2))
  (aA (bZ (cs:=[7]) ⟨⟨T.aQ,(T.bu.get (i:=2) rfl)⟩,zac⟩ (aj 0) gW)
  (aA (bZ (cs:=[7]) ⟨⟨T.aQ,(T.bu.get (i:=3) rfl)⟩,zac⟩ (aj 0) gW)
  (aA (bZ (cs:=[7]) ⟨⟨T.aQ,(T.bu.get (i:=4) rfl)⟩,zac⟩ (aj 0) gW)
  (aF (bZ (cs:=[7]) ⟨⟨T.aQ,(T.bu.get (i:=5) rfl)⟩,zac⟩ (aj 0) gW)))))))
theorem G7(T:Txt K mg t):aM P w K mg base (bT P w) 1 (t.f 5) (t.d 5) ["self"] (spS K t.c mj 1):=by
 show aM P w K mg base (bT P w) (0+1) (t.f 5) (t.d 5) ["self"] (spS K t.c (aU 1 mV) 1)
 refine cT (n:=1) (ar:=1) (k:=0) (b:=mV) (x:= "__init__") (qual:= "Replies.__init__") (st:=qJ) (T.fn 5 rfl) GD rfl rfl ?_
 intro cdv A outer s H E W hr
 exact(aA (bZ (cs:=[5]) ⟨⟨T.g_,(T.gZ.get (i:=0) rfl)⟩,zac⟩ (aj 0) gW)
  (aA (bZ (cs:=[5]) ⟨⟨T.g_,(T.gZ.get (i:=1) rfl)⟩,zac⟩ (aj 0) gW)
  (aA (bZ (cs:=[5]) ⟨⟨T.g_,(T.gZ.get (i:=2) rfl)⟩,zac⟩ (aj 0) gW)
  (aF (bZ (cs:=[5]) ⟨⟨T.g_,(T.gZ.get (i:=3) rfl)⟩,zac⟩ (aj 0) gW)))))
theorem KJ(T:Txt K mg t):aM P w K mg base (bT P w) 5 t.mK t.jF ["self","S","rules"] (spS K t.c fP 3):=by
 show aM P w K mg base (bT P w) (4+1) t.mK t.jF ["self","S","rules"] (spS K t.c (aU 3 fW) 3)
 have m7:= @tM P w K mg base t T
 have PX:= @KD P w K mg base t T
 have Kl:= @Hf P w K mg base t T
 have Ke:= @G6 P w K mg base t T
 have Kf:= @G7 P w K mg base t T
 refine cT (n:=3) (ar:=3) (k:=4) (b:=fW) (x:= "__init__") (qual:= "Bench.__init__") (st:=d8) T.Ar Kw rfl rfl ?_
 intro cdv A outer s H E W hr
 exact(aA (bZ (cs:=[8]) ⟨⟨T.aO,(T.aV.get (i:=0) rfl)⟩,zac⟩ (aj 0) (aj 1))
  (aA (bZ (cs:=[0,7,8]) ⟨⟨T.aH,(T.aY.get (i:=0) rfl)⟩,⟨⟨T.aQ,(T.bu.get (i:=1) rfl)⟩,⟨⟨T.aO,(T.aV.get (i:=1) rfl)⟩,zac⟩⟩⟩ (aj 0) (aia (aW Wy (aj 2) lQ (aN _)) (I_ (kc:=6) T.oX m7 Tk.wish (hr.mono (by decide)) rfl T.Dh T.uf (.cons (.str _ _) .nil)) (xR (kc:=6) (aj 2) T.bW (T.me 2 rfl rfl) PX Tk.wish (hr.mono (by decide)) (T.b 2 rfl) .nil)))
  (aA (bZ (cs:=[8]) ⟨⟨T.aO,(T.aV.get (i:=2) rfl)⟩,zac⟩ (aj 0) (zB (kc:=0) T.nP Kl Tk.wish (hr.mono (by decide)) rfl T.Jz (T.b 3 rfl) .nil (ao (bz (cs:=[0,7,8]) ⟨⟨T.aH,(T.aY.get (i:=0) rfl)⟩,⟨⟨T.aQ,(T.bu.get (i:=1) rfl)⟩,⟨⟨T.aO,(T.aV.get (i:=1) rfl)⟩,zac⟩⟩⟩ (aj 0)) aB)))
  (aA (bZ (cs:=[8]) ⟨⟨T.aO,(T.aV.get (i:=3) rfl)⟩,zac⟩ (aj 0) (zB (kc:=7) T.nM Ke Tk.wish (hr.mono (by decide)) rfl T.Jx (T.b 4 rfl) .nil (ao (cW (ao (aj 1) (ao az aB))) (ao (bz (cs:=[0,7,8]) ⟨⟨T.aH,(T.aY.get (i:=0) rfl)⟩,⟨⟨T.aQ,(T.bu.get (i:=1) rfl)⟩,⟨⟨T.aO,(T.aV.get (i:=1) rfl)⟩,zac⟩⟩⟩ (aj 0)) aB))))
  (aA (bZ (cs:=[8]) ⟨⟨T.aO,(T.aV.get (i:=4) rfl)⟩,zac⟩ (aj 0) (I_ (kc:=5) T.nO Kf Tk.wish (hr.mono (by decide)) rfl T.Jy (T.b 5 rfl) .nil))
  (aA (bZ (cs:=[8]) ⟨⟨T.aO,(T.aV.get (i:=5) rfl)⟩,zac⟩ (aj 0) az)
  (aF (bZ (cs:=[8]) ⟨⟨T.aO,(T.aV.get (i:=6) rfl)⟩,zac⟩ (aj 0) lQ))))))))
theorem NB(T:Txt K mg t):aM P w K mg base (bT P w) 1 (t.f 6) (t.d 6) ["_law_cell"] (spS K t.c rW 1):=by
 show aM P w K mg base (bT P w) (0+1) (t.f 6) (t.d 6) ["_law_cell"] (spS K t.c (aU 2 sJ) 1)
 refine cT (n:=2) (ar:=1) (k:=0) (b:=sJ) (x:= "_law_rules") (qual:= "_law_rules") (st:=xZ) (T.fn 6 rfl) CQ rfl rfl ?_
 intro cdv A outer s H E W hr
 exact(aA (aX (i:=1) CQ.nd rfl (Or.inl rfl) (xT (ao (bw hr.units (xT (ao di (ao di aB))) (aL h_ (aL mQ (aj 0) az) az)) (ao (bw hr.units (xT (ao di (ao di aB))) (aL h_ (aL mQ (aj 0) az) az)) (ao di (ao (bw hr.units (xT (ao di (ao di aB))) (aL h_ (aj 0) az)) aB))))))
  (aF (aP (Zq PySem.F.plainAttrs_str PySem.F.slot_str_join PySem.F.type_str_join adk di (ao (aj 1) aB)))))
theorem NP(T:Txt K mg t):aM P w K mg base (bT P w) 7 (t.f 7) (t.d 7) ["_law_first","_law_cell"] (spS K t.c lF 2):=by
 show aM P w K mg base (bT P w) (6+1) (t.f 7) (t.d 7) ["_law_first","_law_cell"] (spS K t.c (aU 2 lK) 2)
 have wG:= @KJ P w K mg base t T
 have m7:= @tM P w K mg base t T
 have SQ:= @NB P w K mg base t T
 refine cT (n:=2) (ar:=2) (k:=6) (b:=lK) (x:= "_law_bench") (qual:= "_law_bench") (st:=yc) (T.fn 7 rfl) Ng rfl rfl ?_
 intro cdv A outer s H E W hr
 exact(aA (bU (aW (c7 hr.units) (aL h_ (aj 1) az) az (aN _)) (aF (aP (zB (kc:=8) T.oY wG Tk.wish (hr.mono (by decide)) rfl T.Di T.A_ (.cons .non .nil) (ao (aj 0) aB)))) bF)
  (aA (bU (aW (c7 hr.units) (aL h_ (aj 1) az) az (aN _)) (aF (aP (zB (kc:=8) T.oY wG Tk.wish (hr.mono (by decide)) rfl T.Di T.fW .nil (ao (aj 0) (ao lQ aB))))) bF)
  (aF (aP (zB (kc:=8) T.oY wG Tk.wish (hr.mono (by decide)) rfl T.Di T.fW .nil (ao (aj 0) (ao (zB (kc:=6) T.oX m7 Tk.wish (hr.mono (by decide)) rfl T.Dh T.ir .nil (ao (bD SQ Tk.wish (hr.mono (by decide)) rfl (T.mf 6 rfl rfl) (T.kp 6 rfl) (T.b 6 rfl) .nil (ao (aL mQ (aj 1) az) aB)) aB)) aB)))))))
theorem NK(T:Txt K mg t):aM P w K mg base (bT P w) 1 (t.f 8) (t.d 8) ["_law_known","_law_cell","_law_hands","_law_base"] (spS K t.c ji 4):=by
 show aM P w K mg base (bT P w) (0+1) (t.f 8) (t.d 8) ["_law_known","_law_cell","_law_hands","_law_base"] (spS K t.c (aU 9 o8) 4)
 refine cT (n:=9) (ar:=4) (k:=0) (b:=o8) (x:= "_law_paper") (qual:= "_law_paper") (st:=x_) (T.fn 8 rfl) fK rfl rfl ?_
 intro cdv A outer s H E W hr
 exact(aA (aX (i:=4) fK.nd rfl (Or.inl rfl) (bw hr.units (aj 2) (aL h_ (aL mQ (aj 1) az) az)))
  (aA (aX (i:=5) fK.nd rfl (Or.inl rfl) (aL BW (bw hr.units (xT (ao (aj 3) (ao az aB))) (aL mQ (aL h_ (aL mQ (aj 1) az) az) az)) (aL h_ (aL mQ (aj 1) az) az)))
  (aA (aX (i:=6) fK.nd rfl (Or.inl rfl) (aL mQ (aj 1) az))
  (aA (bU (aW (c7 hr.units) (aL h_ (aj 1) az) az (aN _)) (aF (aP (cW (ao di (ao (aj 4) (ao (aj 5) (ao (bw hr.units (aj 2) (aL h_ (aj 6) az)) aB))))))) bF)
  (aA (aX (i:=7) fK.nd rfl (Or.inl rfl) az)
  (aA (Bc (jW rfl rfl) rfl (uD rfl T.zK (ao az aB)) (jt (i:=8) fK.nd rfl (Or.inl rfl)) (aF (bU (aW (c7 hr.units) (aL h_ (aj 6) az) az (aN _)) (aF (aX (i:=7) fK.nd rfl (Or.inl rfl) (aL R7 (aj 7) (aL Fg (aL nZ (aL y_ (aL mQ (aj 6) az) (aj 8)) az) (bw hr.units (aj 2) (aj 8)))))) (aF (bU (aW (c7 hr.units) (aL nZ (aL y_ (fH hr.units (bw hr.units (aj 0) az) (cW (ao (bw hr.units (aj 2) (aj 8)) (ao (aj 5) aB))) az) (aj 4)) az) az (aN _)) (aF (aX (i:=7) fK.nd rfl (Or.inl rfl) (aL R7 (aj 7) (aL Fg az (bw hr.units (aj 2) (aj 8)))))) bF)))))
  (aF (aP (cW (ao di (ao (aj 4) (ao (aj 5) (ao (aj 7) aB)))))))))))))
theorem G3(T:Txt K mg t):aM P w K mg base (bT P w) 1 (t.f 9) (t.d 9) ["_law_known","_law_hand","_law_term","_law_whom","_law_once"] (spS K t.c eG 5):=by
 show aM P w K mg base (bT P w) (0+1) (t.f 9) (t.d 9) ["_law_known","_law_hand","_law_term","_law_whom","_law_once"] (spS K t.c (aU 6 gK) 5)
 refine cT (n:=6) (ar:=5) (k:=0) (b:=gK) (x:= "_law_vote_due") (qual:= "_law_vote_due") (st:=qF) (T.fn 9 rfl) wI rfl rfl ?_
 intro cdv A outer s H E W hr
 exact(aA (aX (i:=5) wI.nd rfl (Or.inl rfl) (fH hr.units (bw hr.units (aj 0) az) (cW (ao (aj 1) (ao (aj 2) aB))) az))
  (aA (bU (SW.pt (wH (aW (BV hr.units) (aj 2) az (aN _)) (wH (aW (BV hr.units) (aj 2) (fH hr.units (bw hr.units (aj 0) az) (aj 1) az) (aN _)) (wH (aW (c7 hr.units) (aL nZ (aL y_ (aj 5) (aj 3)) az) az (aN _)) (xK (SW.pt (TF (qj (aj 4)) (MK (aW (sH hr.units) (aj 5) az (aN _)))))))))) (aF (aP lD)) bF)
  (aA (bU (aW (c7 hr.units) (aj 3) (aj 1) (aN _)) (aF (aP (cU Du (aj 2) (fH hr.units (bw hr.units (aj 0) az) (aj 1) az) (aN _)))) bF)
  (aF (aP (cU (c7 hr.units) (aL nZ (aL y_ (fH hr.units (bw hr.units (aj 0) az) (cW (ao (aj 3) (ao (aj 2) aB))) az) (aj 3)) az) az (aN _)))))))
theorem Q7(T:Txt K mg t):aM P w K mg base (bT P w) 1 (t.f 10) (t.d 10) ["_law_some"] (spS K t.c qP 1):=by
 show aM P w K mg base (bT P w) (0+1) (t.f 10) (t.d 10) ["_law_some"] (spS K t.c (aU 2 wC) 1)
 refine cT (n:=2) (ar:=1) (k:=0) (b:=wC) (x:= "_law_many") (qual:= "_law_many") (st:=Bj) (T.fn 10 rfl) rO rfl rfl ?_
 intro cdv A outer s H E W hr
 exact(aA (aX (i:=1) rO.nd rfl (Or.inl rfl) az)
  (aA (Qz (jW rfl rfl) (aW Du (aj 0) az (aN _)) (aA (aX (i:=1) rO.nd rfl (Or.inl rfl) (aL BW (aj 1) (aL h_ (aj 0) az)))
  (aF (aX (i:=0) rO.nd rfl (Or.inl rfl) (aL mQ (aj 0) az)))))
  (aF (aP (aj 1)))))
theorem Eo(T:Txt K mg t):aM P w K mg base (bT P w) 2 (t.f 11) (t.d 11) ["_law_known","_law_hand","_law_term","_law_voters","_law_first","_law_half"] (spS K t.c bR 6):=by
 show aM P w K mg base (bT P w) (1+1) (t.f 11) (t.d 11) ["_law_known","_law_hand","_law_term","_law_voters","_law_first","_law_half"] (spS K t.c (aU 7 cC) 6)
 have Ka:= @Q7 P w K mg base t T
 refine cT (n:=7) (ar:=6) (k:=1) (b:=cC) (x:= "_law_chair_due") (qual:= "_law_chair_due") (st:=pB) (T.fn 11 rfl) uF rfl rfl ?_
 intro cdv A outer s H E W hr
 exact(aA (bU (SW.pt (wH (aW (BV hr.units) (aj 2) az (aN _)) (wH (aW (sH hr.units) (fH hr.units (bw hr.units (aj 0) az) (aj 1) az) (aj 2) (aN _)) (xK (aW (c7 hr.units) (aL nZ (aL y_ (fH hr.units (bw hr.units (aj 0) az) (cW (ao (aj 1) (ao (aj 2) aB))) az) (aj 1)) az) az (aN _)))))) (aF (aP lD)) bF)
  (aA (Bc (jW rfl rfl) rfl (uD rfl T.zK (ao az aB)) (jt (i:=6) uF.nd rfl (Or.inl rfl)) (aF (bU (SW.pt (TF (aW (c7 hr.units) (aL nZ (aL y_ (aj 3) (aj 6)) az) az (aN _)) (MK (aW (c7 hr.units) (aL nZ (aL y_ (fH hr.units (bw hr.units (aj 0) az) (cW (ao (aj 6) (ao (aj 2) aB))) az) (aj 1)) az) az (aN _))))) (aF (aP lD)) bF)))
  (aA (bU (aW (c7 hr.units) (fH hr.units (bw hr.units (aj 0) az) (aj 2) (aep YM az)) (aj 1) (aN _)) (aF (aP lD)) bF)
  (aF (aP (cU Du (aL BW (aL U6 az (bD Ka Tk.wish (hr.mono (by decide)) rfl (T.mf 10 rfl rfl) (T.kp 10 rfl) (T.b 10 rfl) .nil (ao (aL nZ (aj 4) (aj 3)) aB))) (aj 5)) (bD Ka Tk.wish (hr.mono (by decide)) rfl (T.mf 10 rfl rfl) (T.kp 10 rfl) (T.b 10 rfl) .nil (ao (aj 4) aB)) (aN _)))))))
theorem NQ(T:Txt K mg t):aM P w K mg base (bT P w) 1 (t.f 12) (t.d 12) ["paper"] (spS K t.c rY 1):=by
 show aM P w K mg base (bT P w) (0+1) (t.f 12) (t.d 12) ["paper"] (spS K t.c (aU 1 sO) 1)
 refine cT (n:=1) (ar:=1) (k:=0) (b:=sO) (x:= "is_formed") (qual:= "is_formed") (st:=yd) (T.fn 12 rfl) Nh rfl rfl ?_
 intro cdv A outer s H E W hr
 exact(aF (aP (Bf (cU Du (cO q_ rfl T.wJ rA (ao (aj 0) aB)) az (aN _)) (qw (cU (c7 hr.units) (acu [("vote",4),("chair",4),("write",4),("beat",3),("told",5),("settle",4),("answer",6),("look",6),("seen",8)] rfl T.Rf T.Qt (bw hr.units (aj 0) az)) (cO q_ rfl T.wJ rA (ao (aj 0) aB)) (aN _))))))
theorem Ud(T:Txt K mg t):aM P w K mg base (bT P w) 1 (t.f 13) (t.d 13) ["paper"] (spS K t.c zH 1):=by
 show aM P w K mg base (bT P w) (0+1) (t.f 13) (t.d 13) ["paper"] (spS K t.c (aU 1 zP) 1)
 refine cT (n:=1) (ar:=1) (k:=0) (b:=zP) (x:= "term_on") (qual:= "term_on") (st:=Eg) (T.fn 13 rfl) TV rfl rfl ?_
 intro cdv A outer s H E W hr
 exact(aA (bU (aW (Wz hr.units) (bw hr.units (aj 0) az) (zE rfl T.rQ λι n H=>T.rK _ ι n H) (by with_unfolding_all rfl)) (aF (aP (bw hr.units (aj 0) az))) bF)
  (aF (aP (bw hr.units (aj 0) az))))
theorem Ls(T:Txt K mg t):aM P w K mg base (bT P w) 1 (t.f 14) (t.d 14) ["entries"] (spS K t.c yD 1):=by
 show aM P w K mg base (bT P w) (0+1) (t.f 14) (t.d 14) ["entries"] (spS K t.c (aU 1 Dw) 1)
 refine cT (n:=1) (ar:=1) (k:=0) (b:=Dw) (x:= "end_of") (qual:= "end_of") (st:=Jd) (T.fn 14 rfl) W_ rfl rfl ?_
 intro cdv A outer s H E W hr
 exact(aA (bU (aW (c7 hr.units) (cO q_ rfl T.wJ rA (ao (aj 0) aB)) az (aN _)) (aF (aP (cW (ao az (ao az aB))))) bF)
  (aF (aP (cW (ao (bw hr.units (bw hr.units (aj 0) (aep YM az)) az) (ao (cO q_ rfl T.wJ rA (ao (aj 0) aB)) aB))))))
theorem iT(T:Txt K mg t):aM P w K mg base (bT P w) 1 (t.f 15) (t.d 15) ["self","hand"] (spS K t.c cX 2):=by
 show aM P w K mg base (bT P w) (0+1) (t.f 15) (t.d 15) ["self","hand"] (spS K t.c (aU 2 jH) 2)
 refine cT (n:=2) (ar:=2) (k:=0) (b:=jH) (x:= "row_of") (qual:= "Strides.row_of") (st:=nG) (T.fn 15 rfl) CT rfl rfl ?_
 intro cdv A outer s H E W hr
 exact(aF (aP (fH hr.units (bz (cs:=[7]) ⟨⟨T.aQ,(T.bu.get (i:=2) rfl)⟩,zac⟩ (aj 0)) (aj 1) (cW aB))))
theorem kZ(T:Txt K mg t):aM P w K mg base (bT P w) 1 (t.f 16) (t.d 16) ["self","hand"] (spS K t.c cQ 2):=by
 show aM P w K mg base (bT P w) (0+1) (t.f 16) (t.d 16) ["self","hand"] (spS K t.c (aU 2 jd) 2)
 refine cT (n:=2) (ar:=2) (k:=0) (b:=jd) (x:= "term_of") (qual:= "Ballots.term_of") (st:=lW) (T.fn 16 rfl) Bh rfl rfl ?_
 intro cdv A outer s H E W hr
 exact(aF (aP (fH hr.units (bz (cs:=[0]) ⟨⟨T.aH,(T.aY.get (i:=1) rfl)⟩,zac⟩ (aj 0)) (aj 1) az)))
theorem gb(T:Txt K mg t):aM P w K mg base (bT P w) 1 (t.f 17) (t.d 17) ["self","hand","term"] (spS K t.c bH 3):=by
 show aM P w K mg base (bT P w) (0+1) (t.f 17) (t.d 17) ["self","hand","term"] (spS K t.c (aU 3 iu) 3)
 refine cT (n:=3) (ar:=3) (k:=0) (b:=iu) (x:= "votes_of") (qual:= "Ballots.votes_of") (st:=kj) (T.fn 17 rfl) zU rfl rfl ?_
 intro cdv A outer s H E W hr
 exact(aF (aP (fH hr.units (bz (cs:=[0]) ⟨⟨T.aH,(T.aY.get (i:=2) rfl)⟩,zac⟩ (aj 0)) (cW (ao (aj 1) (ao (aj 2) aB))) az)))
theorem El(T:Txt K mg t):aM P w K mg base (bT P w) 1 (t.f 18) (t.d 18) ["hands"] (spS K t.c jX 1):=by
 show aM P w K mg base (bT P w) (0+1) (t.f 18) (t.d 18) ["hands"] (spS K t.c (aU 3 Dv) 1)
 refine cT (n:=3) (ar:=1) (k:=0) (b:=Dv) (x:= "set_of") (qual:= "set_of") (st:=Jc) (T.fn 18 rfl) zF rfl rfl ?_
 intro cdv A outer s H E W hr
 exact(aA (aX (i:=1) zF.nd rfl (Or.inl rfl) az)
  (aA (Bc (jW rfl rfl) rfl (IW (aj 0)) (jt (i:=2) zF.nd rfl (Or.inl rfl)) (aF (aX (i:=1) zF.nd rfl (Or.inl rfl) (aL R7 (aj 1) (aL Fg az (aj 2))))))
  (aF (aP (aj 1)))))
theorem z8(T:Txt K mg t):aM P w K mg base (bT P w) 2 (t.f 19) (t.d 19) ["self","hand","term","whom"] (spS K t.c eO 4):=by
 show aM P w K mg base (bT P w) (1+1) (t.f 19) (t.d 19) ["self","hand","term","whom"] (spS K t.c (aU 5 eZ) 4)
 have cG:= @gb P w K mg base t T
 have zm:= @El P w K mg base t T
 refine cT (n:=5) (ar:=4) (k:=1) (b:=eZ) (x:= "is_spent") (qual:= "Ballots.is_spent") (st:=kO) (T.fn 19 rfl) pK rfl rfl ?_
 intro cdv A outer s H E W hr
 exact(aA (aX (i:=4) pK.nd rfl (Or.inl rfl) (bf (kc:=0) (aj 0) T.aH (T.me 17 rfl rfl) cG Tk.wish (hr.mono (by decide)) (T.b 17 rfl) .nil (ao (aj 1) (ao (aj 2) aB))))
  (aA (bU (qj (bz (cs:=[6]) ⟨⟨T.bW,(T.cH.get (i:=0) rfl)⟩,zac⟩ (bz (cs:=[0,7,8]) ⟨⟨T.aH,(T.aY.get (i:=0) rfl)⟩,⟨⟨T.aQ,(T.bu.get (i:=1) rfl)⟩,⟨⟨T.aO,(T.aV.get (i:=1) rfl)⟩,zac⟩⟩⟩ (aj 0)))) (aF (aP (cU (sH hr.units) (aj 4) az (aN _)))) bF)
  (aF (aP (cU (sH hr.units) (aL nZ (aj 4) (bD zm Tk.wish (hr.mono (by decide)) rfl (T.mf 18 rfl rfl) (T.kp 18 rfl) (T.b 18 rfl) .nil (ao (xT (ao (aj 3) aB)) aB))) az (aN _))))))
theorem ni(T:Txt K mg t):aM P w K mg base (bT P w) 1 (t.f 20) (t.d 20) ["self","hand","term"] (spS K t.c dB 3):=by
 show aM P w K mg base (bT P w) (0+1) (t.f 20) (t.d 20) ["self","hand","term"] (spS K t.c (aU 3 fX) 3)
 refine cT (n:=3) (ar:=3) (k:=0) (b:=fX) (x:= "asked_with") (qual:= "Ballots.asked_with") (st:=jh) (T.fn 20 rfl) wQ rfl rfl ?_
 intro cdv A outer s H E W hr
 exact(aF (aP (Vx hr.units (bz (cs:=[0]) ⟨⟨T.aH,(T.aY.get (i:=3) rfl)⟩,zac⟩ (aj 0)) (cW (ao (aj 1) (ao (aj 2) aB))))))
theorem rC(T:Txt K mg t):aM P w K mg base (bT P w) 2 (t.f 21) (t.d 21) ["self","whom","term","end"] (spS K t.c cu 4):=by
 show aM P w K mg base (bT P w) (1+1) (t.f 21) (t.d 21) ["self","whom","term","end"] (spS K t.c (aU 5 cz) 4)
 have jq:= @ni P w K mg base t T
 refine cT (n:=5) (ar:=4) (k:=1) (b:=cz) (x:= "is_good_enough") (qual:= "Ballots.is_good_enough") (st:=fY) (T.fn 21 rfl) jL rfl rfl ?_
 intro cdv A outer s H E W hr
 exact(aA (aX (i:=4) jL.nd rfl (Or.inl rfl) (bf (kc:=0) (aj 0) T.aH (T.me 20 rfl rfl) jq Tk.wish (hr.mono (by decide)) (T.b 20 rfl) .nil (ao (aj 1) (ao (aj 2) aB))))
  (aA (bU (aW Wy (aj 4) lQ (aN _)) (aF (aP lD)) bF)
  (aF (aP (Vw (cU (ag0 hr.units) (aj 3) (aj 4) (aN _)) (qw (Nf (bz (cs:=[6]) ⟨⟨T.bW,(T.cH.get (i:=1) rfl)⟩,zac⟩ (bz (cs:=[0,7,8]) ⟨⟨T.aH,(T.aY.get (i:=0) rfl)⟩,⟨⟨T.aQ,(T.bu.get (i:=1) rfl)⟩,⟨⟨T.aO,(T.aV.get (i:=1) rfl)⟩,zac⟩⟩⟩ (aj 0))))))))))
theorem z7(T:Txt K mg t):aM P w K mg base (bT P w) 3 (t.f 22) (t.d 22) ["self","hand","term","whom","end"] (spS K t.c cD 5):=by
 show aM P w K mg base (bT P w) (2+1) (t.f 22) (t.d 22) ["self","hand","term","whom","end"] (spS K t.c (aU 5 cF) 5)
 have dR:= @kZ P w K mg base t T
 have Cj:= @z8 P w K mg base t T
 have ux:= @rC P w K mg base t T
 refine cT (n:=5) (ar:=5) (k:=2) (b:=cF) (x:= "may_vote") (qual:= "Ballots.may_vote") (st:=kJ) (T.fn 22 rfl) zV rfl rfl ?_
 intro cdv A outer s H E W hr
 exact(aA (bU (SW.pt (wH (aW (BV hr.units) (aj 2) (bf (kc:=0) (aj 0) T.aH (T.me 16 rfl rfl) dR Tk.wish (hr.mono (by decide)) (T.b 16 rfl) .nil (ao (aj 1) aB)) (aN _)) (xK (qj (bf (kc:=0) (aj 0) T.aH (T.me 19 rfl rfl) Cj Tk.wish (hr.mono (by decide)) (T.b 19 rfl) .nil (ao (aj 1) (ao (aj 2) (ao (aj 3) aB)))))))) (aF (aP lD)) bF)
  (aA (bU (aW (c7 hr.units) (aj 3) (aj 1) (aN _)) (aF (aP (cU Du (aj 2) (bf (kc:=0) (aj 0) T.aH (T.me 16 rfl rfl) dR Tk.wish (hr.mono (by decide)) (T.b 16 rfl) .nil (ao (aj 1) aB)) (aN _)))) bF)
  (aF (aP (bf (kc:=0) (aj 0) T.aH (T.me 21 rfl rfl) ux Tk.wish (hr.mono (by decide)) (T.b 21 rfl) .nil (ao (aj 3) (ao (aj 2) (ao (aj 4) aB))))))))
theorem pL(T:Txt K mg t):aM P w K mg base (bT P w) 1 (t.f 23) (t.d 23) ["self","term"] (spS K t.c eU 2):=by
 show aM P w K mg base (bT P w) (0+1) (t.f 23) (t.d 23) ["self","term"] (spS K t.c (aU 2 iz) 2)
 refine cT (n:=2) (ar:=2) (k:=0) (b:=iz) (x:= "chair_of") (qual:= "Ballots.chair_of") (st:=kW) (T.fn 23 rfl) zW rfl rfl ?_
 intro cdv A outer s H E W hr
 exact(aF (aP (Vx hr.units (bz (cs:=[0]) ⟨⟨T.aH,(T.aY.get (i:=4) rfl)⟩,zac⟩ (aj 0)) (aj 1))))
theorem FN(T:Txt K mg t):aM P w K mg base (bT P w) 1 (t.f 24) (t.d 24) ["S"] (spS K t.c qQ 1):=by
 show aM P w K mg base (bT P w) (0+1) (t.f 24) (t.d 24) ["S"] (spS K t.c (aU 1 wD) 1)
 refine cT (n:=1) (ar:=1) (k:=0) (b:=wD) (x:= "hands_of") (qual:= "hands_of") (st:=Bk) (T.fn 24 rfl) QF rfl rfl ?_
 intro cdv A outer s H E W hr
 exact(aF (aP (Hw rfl ["S"] [0] (uD rfl T.zK (ao (ae8 PySem.F.plainAttrs_int PySem.F.slot_int_bit_length PySem.F.type_int_bit_length adl (aj 0)) aB)) ⟨⟨rfl,rfl,by first | exact .inl rfl | exact .inr rfl⟩,zac⟩ (λ_ _ _ _ _=>(aci (aW (sH hr.units) (aL nZ (aj 1) (aL Fg az (aj 0))) az (aN _)))) (λ_ _ _ _ _=>(aj 0)) (by decide +kernel) (by decide +kernel) (by decide +kernel) (by decide +kernel))))
theorem yp(T:Txt K mg t):aM P w K mg base (bT P w) 2 (t.f 25) (t.d 25) ["self","voters","term","whom"] (spS K t.c gf 4):=by
 show aM P w K mg base (bT P w) (1+1) (t.f 25) (t.d 25) ["self","voters","term","whom"] (spS K t.c (aU 4 gk) 4)
 have cG:= @gb P w K mg base t T
 have zm:= @El P w K mg base t T
 have Cd:= @FN P w K mg base t T
 refine cT (n:=4) (ar:=4) (k:=1) (b:=gk) (x:= "voted_all") (qual:= "Ballots.voted_all") (st:=jP) (T.fn 25 rfl) xU rfl rfl ?_
 intro cdv A outer s H E W hr
 exact(aF (aP (cO (agQ rfl) rfl T.aeA agU (ao (Hw rfl ["term","self","whom"] [2,0,3] (IW (bD Cd Tk.wish (hr.mono (by decide)) rfl (T.mf 24 rfl rfl) (T.kp 24 rfl) (T.b 24 rfl) .nil (ao (aj 1) aB))) ⟨⟨rfl,rfl,by first | exact .inl rfl | exact .inr rfl⟩,⟨⟨rfl,rfl,by first | exact .inl rfl | exact .inr rfl⟩,⟨⟨rfl,rfl,by first | exact .inl rfl | exact .inr rfl⟩,zac⟩⟩⟩ (λ_ _ _ _ _=>MN) (λ_ _ _ _ _=>(cU (sH hr.units) (aL nZ (bf (kc:=0) (aj 2) T.aH (T.me 17 rfl rfl) cG Tk.none (hr.mono (by decide)) (T.b 17 rfl) .nil (ao (aj 0) (ao (aj 1) aB))) (bD zm Tk.none (hr.mono (by decide)) rfl (T.mf 18 rfl rfl) (T.kp 18 rfl) (T.b 18 rfl) .nil (ao (xT (ao (aj 3) aB)) aB))) az (aN _))) (by decide +kernel) (by decide +kernel) (by decide +kernel) (by decide +kernel)) aB))))
theorem ade(T:Txt K mg t):aM P w K mg base (bT P w) 2 (t.f 26) (t.d 26) ["S"] (spS K t.c Et 1):=by
 show aM P w K mg base (bT P w) (1+1) (t.f 26) (t.d 26) ["S"] (spS K t.c (aU 1 Pz) 1)
 have Cd:= @FN P w K mg base t T
 refine cT (n:=1) (ar:=1) (k:=1) (b:=Pz) (x:= "many") (qual:= "many") (st:=TX) (T.fn 26 rfl) acw rfl rfl ?_
 intro cdv A outer s H E W hr
 exact(aF (aP (cO q_ rfl T.wJ rA (ao (bD Cd Tk.wish (hr.mono (by decide)) rfl (T.mf 24 rfl rfl) (T.kp 24 rfl) (T.b 24 rfl) .nil (ao (aj 0) aB)) aB))))
theorem Ug(T:Txt K mg t):aM P w K mg base (bT P w) 3 t.uQ t.qi ["S","part","half"] (spS K t.c uL 3):=by
 show aM P w K mg base (bT P w) (2+1) t.uQ t.qi ["S","part","half"] (spS K t.c (aU 4 lM) 3)
 have Vd:= @ade P w K mg base t T
 refine cT (n:=4) (ar:=3) (k:=2) (b:=lM) (x:= "carries") (qual:= "carries") (st:=jw) T.wu Jb rfl rfl ?_
 intro cdv A outer s H E W hr
 exact(aA (aX (i:=3) Jb.nd rfl (Or.inl rfl) (aL U6 az (bD Vd Tk.wish (hr.mono (by decide)) rfl (T.mf 26 rfl rfl) (T.kp 26 rfl) (T.b 26 rfl) .nil (ao (aL nZ (aj 0) (aj 1)) aB))))
  (aA (bU (qj (aj 2)) (aF (aP (cU aeP (aj 3) (bD Vd Tk.wish (hr.mono (by decide)) rfl (T.mf 26 rfl rfl) (T.kp 26 rfl) (T.b 26 rfl) .nil (ao (aj 1) aB)) (aN _)))) bF)
  (aF (aP (cU Du (aj 3) (bD Vd Tk.wish (hr.mono (by decide)) rfl (T.mf 26 rfl rfl) (T.kp 26 rfl) (T.b 26 rfl) .nil (ao (aj 1) aB)) (aN _))))))
theorem adb(T:Txt K mg t):aM P w K mg base (bT P w) 4 t.E_ t.Ff ["roll","S","half"] (spS K t.c Es 3):=by
 show aM P w K mg base (bT P w) (3+1) t.E_ t.Ff ["roll","S","half"] (spS K t.c (aU 3 wB) 3)
 have Mt:= @Ug P w K mg base t T
 refine cT (n:=3) (ar:=3) (k:=3) (b:=wB) (x:= "wins") (qual:= "wins") (st:=vH) T.O5 acv rfl rfl ?_
 intro cdv A outer s H E W hr
 exact(aA (bU (DX (qj (bD Mt Tk.wish (hr.mono (by decide)) rfl T.Bt T.wu.kp T.lM .nil (ao (aj 1) (ao (bw hr.units (aj 0) az) (ao (aj 2) aB)))))) (aF (aP lD)) bF)
  (aF (aP (Vw (cU (c7 hr.units) (bw hr.units (aj 0) az) az (aN _)) (qw (bD Mt Tk.wish (hr.mono (by decide)) rfl T.Bt T.wu.kp T.lM .nil (ao (aj 1) (ao (bw hr.units (aj 0) az) (ao (aj 2) aB)))))))))
theorem KC(T:Txt K mg t):aM P w K mg base (bT P w) 5 (t.f 27) (t.d 27) ["self","roll","S"] (spS K t.c pY 3):=by
 show aM P w K mg base (bT P w) (4+1) (t.f 27) (t.d 27) ["self","roll","S"] (spS K t.c (aU 3 p8) 3)
 have ahd:= @adb P w K mg base t T
 refine cT (n:=3) (ar:=3) (k:=4) (b:=p8) (x:= "wins") (qual:= "Rules.wins") (st:=vI) (T.fn 27 rfl) Ku rfl rfl ?_
 intro cdv A outer s H E W hr
 exact(aF (aP (bD ahd Tk.wish (hr.mono (by decide)) rfl T.Ak T.O5.kp T.wB .nil (ao (aj 1) (ao (aj 2) (ao (Nf (bz (cs:=[6]) ⟨⟨T.bW,(T.cH.get (i:=3) rfl)⟩,zac⟩ (aj 0))) aB))))))
theorem yr(T:Txt K mg t):aM P w K mg base (bT P w) 6 (t.f 28) (t.d 28) ["self","hand","term","voters","end","roll"] (spS K t.c bK 6):=by
 show aM P w K mg base (bT P w) (5+1) (t.f 28) (t.d 28) ["self","hand","term","voters","end","roll"] (spS K t.c (aU 6 bL) 6)
 have dR:= @kZ P w K mg base t T
 have lu:= @pL P w K mg base t T
 have jq:= @ni P w K mg base t T
 have Ae:= @yp P w K mg base t T
 have PN:= @KC P w K mg base t T
 refine cT (n:=6) (ar:=6) (k:=5) (b:=bL) (x:= "may_chair") (qual:= "Ballots.may_chair") (st:=jR) (T.fn 28 rfl) xW rfl rfl ?_
 intro cdv A outer s H E W hr
 exact(aA (bU (SW.pt (wH (aW (sH hr.units) (bf (kc:=0) (aj 0) T.aH (T.me 16 rfl rfl) dR Tk.wish (hr.mono (by decide)) (T.b 16 rfl) .nil (ao (aj 1) aB)) (aj 2) (aN _)) (xK (aW (c7 hr.units) (bf (kc:=0) (aj 0) T.aH (T.me 23 rfl rfl) lu Tk.wish (hr.mono (by decide)) (T.b 23 rfl) .nil (ao (aj 2) aB)) (aj 1) (aN _))))) (aF (aP lD)) bF)
  (aA (bU (aW (sH hr.units) (bf (kc:=0) (aj 0) T.aH (T.me 20 rfl rfl) jq Tk.wish (hr.mono (by decide)) (T.b 20 rfl) .nil (ao (aj 1) (ao (aj 2) aB))) (aj 4) (aN _)) (aF (aP lD)) bF)
  (aF (aP (Bf (bf (kc:=0) (aj 0) T.aH (T.me 25 rfl rfl) Ae Tk.wish (hr.mono (by decide)) (T.b 25 rfl) .nil (ao (aj 3) (ao (aj 2) (ao (aj 1) aB)))) (qw (bf (kc:=6) (bz (cs:=[0,7,8]) ⟨⟨T.aH,(T.aY.get (i:=0) rfl)⟩,⟨⟨T.aQ,(T.bu.get (i:=1) rfl)⟩,⟨⟨T.aO,(T.aV.get (i:=1) rfl)⟩,zac⟩⟩⟩ (aj 0)) T.bW (T.me 27 rfl rfl) PN Tk.wish (hr.mono (by decide)) (T.b 27 rfl) .nil (ao (aj 5) (ao (aj 3) aB)))))))))
theorem Em(T:Txt K mg t):aM P w K mg base (bT P w) 1 (t.f 29) (t.d 29) ["entries"] (spS K t.c j5 1):=by
 show aM P w K mg base (bT P w) (0+1) (t.f 29) (t.d 29) ["entries"] (spS K t.c (aU 2 j7) 1)
 refine cT (n:=2) (ar:=1) (k:=0) (b:=j7) (x:= "roll_place_of") (qual:= "roll_place_of") (st:=pA) (T.fn 29 rfl) nF rfl rfl ?_
 intro cdv A outer s H E W hr
 exact(aA (aX (i:=1) nF.nd rfl (Or.inl rfl) (cO q_ rfl T.wJ rA (ao (aj 0) aB)))
  (aA (Qz (jW rfl rfl) (SW.pt (TF (aW Du (aj 1) az (aN _)) (MK (aW (sH hr.units) (bw hr.units (bw hr.units (bw hr.units (aj 0) (aL U5 (aj 1) az)) az) az) di (aN _))))) (aF (aX (i:=1) nF.nd rfl (Or.inl rfl) (aL U5 (aj 1) az))))
  (aF (aP (aj 1)))))
theorem Ue(T:Txt K mg t):aM P w K mg base (bT P w) 2 (t.f 30) (t.d 30) ["entries","first_roll"] (spS K t.c zJ 2):=by
 show aM P w K mg base (bT P w) (1+1) (t.f 30) (t.d 30) ["entries","first_roll"] (spS K t.c (aU 4 zQ) 2)
 have Hl:= @Em P w K mg base t T
 refine cT (n:=4) (ar:=2) (k:=1) (b:=zQ) (x:= "roll_of") (qual:= "roll_of") (st:=Eh) (T.fn 30 rfl) Bg rfl rfl ?_
 intro cdv A outer s H E W hr
 exact(aA (aX (i:=2) Bg.nd rfl (Or.inl rfl) (bD Hl Tk.wish (hr.mono (by decide)) rfl (T.mf 29 rfl rfl) (T.kp 29 rfl) (T.b 29 rfl) .nil (ao (aj 0) aB)))
  (aA (bU (aW (c7 hr.units) (aj 2) az (aN _)) (aF (aP (aj 1))) bF)
  (aA (aX (i:=3) Bg.nd rfl (Or.inl rfl) (bw hr.units (bw hr.units (aj 0) (aL U5 (aj 2) az)) az))
  (aF (aP (cW (ao (bw hr.units (aj 3) az) (ao (bw hr.units (aj 3) az) aB))))))))
theorem z6(T:Txt K mg t):aM P w K mg base (bT P w) 3 (t.f 31) (t.d 31) ["self","hand"] (spS K t.c g8 2):=by
 show aM P w K mg base (bT P w) (2+1) (t.f 31) (t.d 31) ["self","hand"] (spS K t.c (aU 2 ig) 2)
 have Yr:= @Ue P w K mg base t T
 have cY:= @iT P w K mg base t T
 refine cT (n:=2) (ar:=2) (k:=2) (b:=ig) (x:= "row_roll") (qual:= "Strides.row_roll") (st:=kh) (T.fn 31 rfl) zT rfl rfl ?_
 intro cdv A outer s H E W hr
 exact(aF (aP (bD Yr Tk.wish (hr.mono (by decide)) rfl (T.mf 30 rfl rfl) (T.kp 30 rfl) (T.b 30 rfl) .nil (ao (bf (kc:=7) (aj 0) T.aQ (T.me 15 rfl rfl) cY Tk.wish (hr.mono (by decide)) (T.b 15 rfl) .nil (ao (aj 1) aB)) (ao (bz (cs:=[7]) ⟨⟨T.aQ,(T.bu.get (i:=0) rfl)⟩,zac⟩ (aj 0)) aB)))))
theorem yo(T:Txt K mg t):aM P w K mg base (bT P w) 7 (t.f 32) (t.d 32) ["self","paper"] (spS K t.c b7 2):=by
 show aM P w K mg base (bT P w) (6+1) (t.f 32) (t.d 32) ["self","paper"] (spS K t.c (aU 4 dY) 2)
 have Kc:= @Ls P w K mg base t T
 have cY:= @iT P w K mg base t T
 have Ci:= @z7 P w K mg base t T
 have Ag:= @yr P w K mg base t T
 have Ce:= @z6 P w K mg base t T
 refine cT (n:=4) (ar:=2) (k:=6) (b:=dY) (x:= "allows_hand") (qual:= "Bench.allows_hand") (st:=jO) (T.fn 32 rfl) jf rfl rfl ?_
 intro cdv A outer s H E W hr
 exact(@aA _ _ _ _ _ _ _ (aX (i:=2) jf.nd rfl (Or.inl rfl) (bw hr.units (aj 1) az)) (@aA _ _ _ _ _ _ _ (aX (i:=3) jf.nd rfl (Or.inl rfl) (bD Kc Tk.wish (hr.mono (by decide)) rfl (T.mf 14 rfl rfl) (T.kp 14 rfl) (T.b 14 rfl) .nil (ao (bf (kc:=7) (bz (cs:=[8]) ⟨⟨T.aO,(T.aV.get (i:=3) rfl)⟩,zac⟩ (aj 0)) T.aQ (T.me 15 rfl rfl) cY Tk.wish (hr.mono (by decide)) (T.b 15 rfl) .nil (ao (aj 2) aB)) aB))) (@aA _ _ _ _ _ _ _ (bU (aW (c7 hr.units) (bw hr.units (aj 1) az) di (aN _)) (aF (aP (bf (kc:=0) (bz (cs:=[8]) ⟨⟨T.aO,(T.aV.get (i:=2) rfl)⟩,zac⟩ (aj 0)) T.aH (T.me 22 rfl rfl) Ci Tk.wish (hr.mono (by decide)) (T.b 22 rfl) .nil (ao (aj 2) (ao (bw hr.units (aj 1) az) (ao (bw hr.units (aj 1) az) (ao (aj 3) aB))))))) bF) (@aA _ _ _ _ _ _ _ (@bU _ _ _ _ _ _ _ _ _ _ (aW (c7 hr.units) (bw hr.units (aj 1) az) di (aN _)) (@aF _ _ _ _ _ (@aP _ _ _ _ _ _ (@bf _ _ _ _ _ _ _ _ _ _ _ _ _ _ _ _ _ (0) _ _ _ _ (bz (cs:=[8]) ⟨⟨T.aO,(T.aV.get (i:=2) rfl)⟩,zac⟩ (aj 0)) T.aH (T.me 28 rfl rfl) Ag Tk.wish (hr.mono (by decide)) (T.b 28 rfl) .nil (@dU _ _ _ _ _ _ _ (aj 2) (@dU _ _ _ _ _ _ _ (bw hr.units (aj 1) az) (@dU _ _ _ _ _ _ _ (bw hr.units (aj 1) az) (@dU _ _ _ _ _ _ _ (aj 3) (@dU _ _ _ _ _ _ _ (bf (kc:=7) (bz (cs:=[8]) ⟨⟨T.aO,(T.aV.get (i:=3) rfl)⟩,zac⟩ (aj 0)) T.aQ (T.me 31 rfl rfl) Ce Tk.wish (hr.mono (by decide)) (T.b 31 rfl) .nil (ao (aj 2) aB)) aB rfl) rfl) rfl) rfl) rfl) rfl rfl rfl rfl))) bF) (aF uB)))))
theorem G_(T:Txt K mg t):aM P w K mg base (bT P w) 8 (t.f 33) (t.d 33) ["self","paper"] (spS K t.c eN 2):=by
 show aM P w K mg base (bT P w) (7+1) (t.f 33) (t.d 33) ["self","paper"] (spS K t.c (aU 2 gM) 2)
 have S6:= @NQ P w K mg base t T
 have Yq:= @Ud P w K mg base t T
 have Ad:= @yo P w K mg base t T
 refine cT (n:=2) (ar:=2) (k:=7) (b:=gM) (x:= "allows") (qual:= "Bench.allows") (st:=qM) (T.fn 33 rfl) GK rfl rfl ?_
 intro cdv A outer s H E W hr
 exact(aA (bU (SW.pt (wH (aW Ds (bz (cs:=[8]) ⟨⟨T.aO,(T.aV.get (i:=6) rfl)⟩,zac⟩ (aj 0)) lQ (aN _)) (wH (DX (qj (bD S6 Tk.wish (hr.mono (by decide)) rfl (T.mf 12 rfl rfl) (T.kp 12 rfl) (T.b 12 rfl) .nil (ao (aj 1) aB)))) (xK (aW (BV hr.units) (bD Yq Tk.wish (hr.mono (by decide)) rfl (T.mf 13 rfl rfl) (T.kp 13 rfl) (T.b 13 rfl) .nil (ao (aj 1) aB)) az (aN _)))))) (aF (aP lD)) bF)
  (aA (bU (aW (Wz hr.units) (bw hr.units (aj 1) az) (zE rfl T.rQ λι n H=>T.rK _ ι n H) (by with_unfolding_all rfl)) (aF (aP (bf (kc:=8) (aj 0) T.aO (T.me 32 rfl rfl) Ad Tk.wish (hr.mono (by decide)) (T.b 32 rfl) .nil (ao (aj 1) aB)))) bF)
  (aF uB)))
theorem Dd(T:Txt K mg t):aM P w K mg base Vg 1 t.gH t.jE ["self","at"] (zy K "at"):=
 abk (k:=0) T.sG CV rfl λcdv A outer s H E=>VJ (acQ (pv 0) (pv 1) rfl)
theorem uI(T:Txt K mg t):aM P w K mg base (bT P w) 1 (t.f 34) (t.d 34) ["self","hand","term"] (spS K t.c iC 3):=by
 show aM P w K mg base (bT P w) (0+1) (t.f 34) (t.d 34) ["self","hand","term"] (spS K t.c (aU 3 j9) 3)
 refine cT (n:=3) (ar:=3) (k:=0) (b:=j9) (x:= "reach") (qual:= "Ballots.reach") (st:=pG) (T.fn 34 rfl) Ef rfl rfl ?_
 intro cdv A outer s H E W hr
 exact(aF (rN hr.units (bz (cs:=[0]) ⟨⟨T.aH,(T.aY.get (i:=1) rfl)⟩,zac⟩ (aj 0)) (aj 1) (aj 2)))
theorem Hg(T:Txt K mg t):aM P w K mg base (bT P w) 2 (t.f 35) (t.d 35) ["self","hand","term","whom","end"] (spS K t.c mD 5):=by
 show aM P w K mg base (bT P w) (1+1) (t.f 35) (t.d 35) ["self","hand","term","whom","end"] (spS K t.c (aU 5 m6) 5)
 have cG:= @gb P w K mg base t T
 have zm:= @El P w K mg base t T
 have pJ:= @uI P w K mg base t T
 refine cT (n:=5) (ar:=5) (k:=1) (b:=m6) (x:= "cast") (qual:= "Ballots.cast") (st:=qO) (T.fn 35 rfl) GQ rfl rfl ?_
 intro cdv A outer s H E W hr
 exact(aA (bU (aW (c7 hr.units) (aj 3) (aj 1) (aN _)) (aF (rN hr.units (bz (cs:=[0]) ⟨⟨T.aH,(T.aY.get (i:=3) rfl)⟩,zac⟩ (aj 0)) (cW (ao (aj 1) (ao (aj 2) aB))) (aj 4))) bF)
  (aA (rN hr.units (bz (cs:=[0]) ⟨⟨T.aH,(T.aY.get (i:=2) rfl)⟩,zac⟩ (aj 0)) (cW (ao (aj 1) (ao (aj 2) aB))) (aL R7 (bf (kc:=0) (aj 0) T.aH (T.me 17 rfl rfl) cG Tk.wish (hr.mono (by decide)) (T.b 17 rfl) .nil (ao (aj 1) (ao (aj 2) aB))) (bD zm Tk.wish (hr.mono (by decide)) rfl (T.mf 18 rfl rfl) (T.kp 18 rfl) (T.b 18 rfl) .nil (ao (xT (ao (aj 3) aB)) aB))))
  (aF (pU (bf (kc:=0) (aj 0) T.aH (T.me 34 rfl rfl) pJ Tk.wish (hr.mono (by decide)) (T.b 34 rfl) .nil (ao (aj 1) (ao (aj 2) aB)))))))
theorem yq(T:Txt K mg t):aM P w K mg base (bT P w) 1 (t.f 36) (t.d 36) ["self","hand","term"] (spS K t.c gh 3):=by
 show aM P w K mg base (bT P w) (0+1) (t.f 36) (t.d 36) ["self","hand","term"] (spS K t.c (aU 3 gm) 3)
 refine cT (n:=3) (ar:=3) (k:=0) (b:=gm) (x:= "take_seat") (qual:= "Ballots.take_seat") (st:=jQ) (T.fn 36 rfl) xV rfl rfl ?_
 intro cdv A outer s H E W hr
 exact(aF (rN hr.units (bz (cs:=[0]) ⟨⟨T.aH,(T.aY.get (i:=4) rfl)⟩,zac⟩ (aj 0)) (aj 2) (aj 1)))
theorem wU(T:Txt K mg t):aM P w K mg base (bT P w) 2 (t.f 37) (t.d 37) ["self","hand","term"] (spS K t.c fM 3):=by
 show aM P w K mg base (bT P w) (1+1) (t.f 37) (t.d 37) ["self","hand","term"] (spS K t.c (aU 3 fV) 3)
 have cY:= @iT P w K mg base t T
 refine cT (n:=3) (ar:=3) (k:=1) (b:=fV) (x:= "begin_line") (qual:= "Strides.begin_line") (st:=jg) (T.fn 37 rfl) wO rfl rfl ?_
 intro cdv A outer s H E W hr
 exact(aF (rN hr.units (bz (cs:=[7]) ⟨⟨T.aQ,(T.bu.get (i:=3) rfl)⟩,zac⟩ (aj 0)) (aj 2) (bf (kc:=7) (aj 0) T.aQ (T.me 15 rfl rfl) cY Tk.wish (hr.mono (by decide)) (T.b 15 rfl) .nil (ao (aj 1) aB))))
theorem G4(T:Txt K mg t):aM P w K mg base (bT P w) 1 (t.f 38) (t.d 38) ["self","term"] (spS K t.c lY 2):=by
 show aM P w K mg base (bT P w) (0+1) (t.f 38) (t.d 38) ["self","term"] (spS K t.c (aU 2 mR) 2)
 refine cT (n:=2) (ar:=2) (k:=0) (b:=mR) (x:= "mark") (qual:= "Strides.mark") (st:=qG) (T.fn 38 rfl) Gy rfl rfl ?_
 intro cdv A outer s H E W hr
 exact(aF (aP (fH hr.units (bz (cs:=[7]) ⟨⟨T.aQ,(T.bu.get (i:=4) rfl)⟩,zac⟩ (aj 0)) (aj 1) az)))
theorem NT(T:Txt K mg t):aM P w K mg base (bT P w) 1 (t.f 39) (t.d 39) ["one","two","place"] (spS K t.c FT 3):=by
 show aM P w K mg base (bT P w) (0+1) (t.f 39) (t.d 39) ["one","two","place"] (spS K t.c (aU 3 zb) 3)
 refine cT (n:=3) (ar:=3) (k:=0) (b:=zb) (x:= "are_alike") (qual:= "are_alike") (st:=ye) (T.fn 39 rfl) Ni rfl rfl ?_
 intro cdv A outer s H E W hr
 exact(aF (aP (cU (c7 hr.units) (Zn (aj 0) Vt (Hv (aj 2))) (Zn (aj 1) Vt (Hv (aj 2))) (aN _))))
theorem G5(T:Txt K mg t):aM P w K mg base (bT P w) 1 (t.f 40) (t.d 40) ["self","term"] (spS K t.c qR 2):=by
 show aM P w K mg base (bT P w) (0+1) (t.f 40) (t.d 40) ["self","term"] (spS K t.c (aU 2 rB) 2)
 refine cT (n:=2) (ar:=2) (k:=0) (b:=rB) (x:= "line") (qual:= "Strides.line") (st:=qH) (T.fn 40 rfl) Gz rfl rfl ?_
 intro cdv A outer s H E W hr
 exact(aF (aP (fH hr.units (bz (cs:=[7]) ⟨⟨T.aQ,(T.bu.get (i:=3) rfl)⟩,zac⟩ (aj 0)) (aj 1) (cW aB))))
theorem Bp(T:Txt K mg t):aM P w K mg base (bT P w) 2 (t.f 41) (t.d 41) ["self","lesser","greater"] (spS K t.c iU 3):=by
 show aM P w K mg base (bT P w) (1+1) (t.f 41) (t.d 41) ["self","lesser","greater"] (spS K t.c (aU 4 jb) 3)
 have Kd:= @G4 P w K mg base t T
 have S7:= @NT P w K mg base t T
 have zp:= @G5 P w K mg base t T
 refine cT (n:=4) (ar:=3) (k:=1) (b:=jb) (x:= "is_kept") (qual:= "Strides.is_kept") (st:=lU) (T.fn 41 rfl) qz rfl rfl ?_
 intro cdv A outer s H E W hr
 exact(aA (aX (i:=3) qz.nd rfl (Or.inl rfl) (bf (kc:=7) (aj 0) T.aQ (T.me 38 rfl rfl) Kd Tk.wish (hr.mono (by decide)) (T.b 38 rfl) .nil (ao (aj 1) aB)))
  (aF (aP (Vw (cU (c7 hr.units) (aj 3) az (aN _)) (qw (bD S7 Tk.wish (hr.mono (by decide)) rfl (T.mf 39 rfl rfl) (T.kp 39 rfl) (T.b 39 rfl) .nil (ao (bf (kc:=7) (aj 0) T.aQ (T.me 40 rfl rfl) zp Tk.wish (hr.mono (by decide)) (T.b 40 rfl) .nil (ao (aj 1) aB)) (ao (bf (kc:=7) (aj 0) T.aQ (T.me 40 rfl rfl) zp Tk.wish (hr.mono (by decide)) (T.b 40 rfl) .nil (ao (aj 2) aB)) (ao (aj 3) aB)))))))))
theorem vP(T:Txt K mg t):aM P w K mg base (bT P w) 3 (t.f 42) (t.d 42) ["self","term"] (spS K t.c fj 2):=by
 show aM P w K mg base (bT P w) (2+1) (t.f 42) (t.d 42) ["self","term"] (spS K t.c (aU 3 fC) 2)
 have DG:= @Bp P w K mg base t T
 refine cT (n:=3) (ar:=2) (k:=2) (b:=fC) (x:= "lost_behind") (qual:= "Strides.lost_behind") (st:=iJ) (T.fn 42 rfl) lR rfl rfl ?_
 intro cdv A outer s H E W hr
 exact(aA (Bc (jW rfl rfl) rfl (IW (cO (U0 rfl hr.units) rfl T.yC Mi (ao (bz (cs:=[7]) ⟨⟨T.aQ,(T.bu.get (i:=3) rfl)⟩,zac⟩ (aj 0)) aB))) (jt (i:=2) lR.nd rfl (Or.inl rfl)) (aF (bU (DX (qj (bf (kc:=7) (aj 0) T.aQ (T.me 41 rfl rfl) DG Tk.wish (hr.mono (by decide)) (T.b 41 rfl) .nil (ao (cO (adU rfl) rfl T.aey agS (ao (aj 2) (ao (aj 1) aB))) (ao (cO (Wu rfl) rfl T.aaF abB (ao (aj 2) (ao (aj 1) aB))) aB))))) (aF (aP (cO (Wu rfl) rfl T.aaF abB (ao (aj 2) (ao (aj 1) aB))))) bF)))
  (aF (aP lQ)))
theorem Bq(T:Txt K mg t):aM P w K mg base (bT P w) 4 (t.f 43) (t.d 43) ["self","term"] (spS K t.c iV 2):=by
 show aM P w K mg base (bT P w) (3+1) (t.f 43) (t.d 43) ["self","term"] (spS K t.c (aU 3 jc) 2)
 have w6:= @vP P w K mg base t T
 refine cT (n:=3) (ar:=2) (k:=3) (b:=jc) (x:= "find_lost") (qual:= "Bench.find_lost") (st:=lV) (T.fn 43 rfl) qD rfl rfl ?_
 intro cdv A outer s H E W hr
 exact(aA (aX (i:=2) qD.nd rfl (Or.inl rfl) (bf (kc:=7) (bz (cs:=[8]) ⟨⟨T.aO,(T.aV.get (i:=3) rfl)⟩,zac⟩ (aj 0)) T.aQ (T.me 42 rfl rfl) w6 Tk.wish (hr.mono (by decide)) (T.b 42 rfl) .nil (ao (aj 1) aB)))
  (aF (bU (aW Ds (aj 2) lQ (aN _)) (aF (bZ (cs:=[8]) ⟨⟨T.aO,(T.aV.get (i:=6) rfl)⟩,zac⟩ (aj 0) (cW (ao di (ao (aj 2) aB))))) bF)))
theorem tO(T:Txt K mg t):aM P w K mg base (bT P w) 5 (t.f 44) (t.d 44) ["self","hand","term"] (spS K t.c cI 3):=by
 show aM P w K mg base (bT P w) (4+1) (t.f 44) (t.d 44) ["self","hand","term"] (spS K t.c (aU 3 cJ) 3)
 have lu:= @pL P w K mg base t T
 have Af:= @yq P w K mg base t T
 have zq:= @wU P w K mg base t T
 have DK:= @Bq P w K mg base t T
 refine cT (n:=3) (ar:=3) (k:=4) (b:=cJ) (x:= "follow_to_chair") (qual:= "Bench.follow_to_chair") (st:=gG) (T.fn 44 rfl) tD rfl rfl ?_
 intro cdv A outer s H E W hr
 exact(aA (bU (aW Ds (bf (kc:=0) (bz (cs:=[8]) ⟨⟨T.aO,(T.aV.get (i:=2) rfl)⟩,zac⟩ (aj 0)) T.aH (T.me 23 rfl rfl) lu Tk.wish (hr.mono (by decide)) (T.b 23 rfl) .nil (ao (aj 2) aB)) lQ (aN _)) (aA (bZ (cs:=[8]) ⟨⟨T.aO,(T.aV.get (i:=6) rfl)⟩,zac⟩ (aj 0) (cW (ao di (ao (aj 2) aB))))
  (aF acj)) bF)
  (aA (pU (bf (kc:=0) (bz (cs:=[8]) ⟨⟨T.aO,(T.aV.get (i:=2) rfl)⟩,zac⟩ (aj 0)) T.aH (T.me 36 rfl rfl) Af Tk.wish (hr.mono (by decide)) (T.b 36 rfl) .nil (ao (aj 1) (ao (aj 2) aB))))
  (aA (pU (bf (kc:=7) (bz (cs:=[8]) ⟨⟨T.aO,(T.aV.get (i:=3) rfl)⟩,zac⟩ (aj 0)) T.aQ (T.me 37 rfl rfl) zq Tk.wish (hr.mono (by decide)) (T.b 37 rfl) .nil (ao (aj 1) (ao (aj 2) aB))))
  (aF (pU (bf (kc:=8) (aj 0) T.aO (T.me 43 rfl rfl) DK Tk.wish (hr.mono (by decide)) (T.b 43 rfl) .nil (ao (aj 2) aB)))))))
theorem ym(T:Txt K mg t):aM P w K mg base (bT P w) 6 (t.f 45) (t.d 45) ["self","paper"] (spS K t.c dW 2):=by
 show aM P w K mg base (bT P w) (5+1) (t.f 45) (t.d 45) ["self","paper"] (spS K t.c (aU 4 dX) 2)
 have Km:= @Hg P w K mg base t T
 have Kc:= @Ls P w K mg base t T
 have cY:= @iT P w K mg base t T
 have uV:= @tO P w K mg base t T
 have pJ:= @uI P w K mg base t T
 refine cT (n:=4) (ar:=2) (k:=5) (b:=dX) (x:= "follow_hand") (qual:= "Bench.follow_hand") (st:=jN) (T.fn 45 rfl) je rfl rfl ?_
 intro cdv A outer s H E W hr
 exact(aA (aX (i:=2) je.nd rfl (Or.inl rfl) (bw hr.units (aj 1) az))
  (aA (aX (i:=3) je.nd rfl (Or.inl rfl) (bw hr.units (aj 1) az))
  (aF (bU (aW (c7 hr.units) (bw hr.units (aj 1) az) di (aN _)) (aF (pU (bf (kc:=0) (bz (cs:=[8]) ⟨⟨T.aO,(T.aV.get (i:=2) rfl)⟩,zac⟩ (aj 0)) T.aH (T.me 35 rfl rfl) Km Tk.wish (hr.mono (by decide)) (T.b 35 rfl) .nil (ao (aj 2) (ao (aj 3) (ao (bw hr.units (aj 1) az) (ao (bD Kc Tk.wish (hr.mono (by decide)) rfl (T.mf 14 rfl rfl) (T.kp 14 rfl) (T.b 14 rfl) .nil (ao (bf (kc:=7) (bz (cs:=[8]) ⟨⟨T.aO,(T.aV.get (i:=3) rfl)⟩,zac⟩ (aj 0)) T.aQ (T.me 15 rfl rfl) cY Tk.wish (hr.mono (by decide)) (T.b 15 rfl) .nil (ao (aj 2) aB)) aB)) aB))))))) (aF (bU (aW (c7 hr.units) (bw hr.units (aj 1) az) di (aN _)) (aF (pU (bf (kc:=8) (aj 0) T.aO (T.me 44 rfl rfl) uV Tk.wish (hr.mono (by decide)) (T.b 44 rfl) .nil (ao (aj 2) (ao (aj 3) aB))))) (aA (pU (bf (kc:=0) (bz (cs:=[8]) ⟨⟨T.aO,(T.aV.get (i:=2) rfl)⟩,zac⟩ (aj 0)) T.aH (T.me 34 rfl rfl) pJ Tk.wish (hr.mono (by decide)) (T.b 34 rfl) .nil (ao (aj 2) (ao (aj 3) aB))))
  (aA uB
  (aF uB)))))))))
theorem KH(T:Txt K mg t):aM P w K mg base (bT P w) 9 (t.f 46) (t.d 46) ["self","paper"] (spS K t.c cB 2):=by
 show aM P w K mg base (bT P w) (8+1) (t.f 46) (t.d 46) ["self","paper"] (spS K t.c (aU 2 mW) 2)
 have Kh:= @G_ P w K mg base t T
 have Fo:= @Dd P w K mg base t T
 have Ac:= @ym P w K mg base t T
 refine cT (n:=2) (ar:=2) (k:=8) (b:=mW) (x:= "take") (qual:= "Bench.take") (st:=vK) (T.fn 46 rfl) Kv rfl rfl ?_
 intro cdv A outer s H E W hr
 exact(aA (bU (DX (qj (bf (kc:=8) (aj 0) T.aO (T.me 33 rfl rfl) Kh Tk.wish (hr.mono (by decide)) (T.b 33 rfl) .nil (ao (aj 1) aB)))) (aF (Zg (c:=2) T.Fw T.rG Fo (hr.mono (by decide)) T.uT rfl T.yx rfl Tk.wish (ao (bz (cs:=[8]) ⟨⟨T.aO,(T.aV.get (i:=5) rfl)⟩,zac⟩ (aj 0)) aB))) bF)
  (aA (bZ (cs:=[8]) ⟨⟨T.aO,(T.aV.get (i:=5) rfl)⟩,zac⟩ (aj 0) (aL BW (bz (cs:=[8]) ⟨⟨T.aO,(T.aV.get (i:=5) rfl)⟩,zac⟩ (aj 0)) az))
  (aF (bU (aW (Wz hr.units) (bw hr.units (aj 1) az) (zE rfl T.rQ λι n H=>T.rK _ ι n H) (by with_unfolding_all rfl)) (aF (pU (bf (kc:=8) (aj 0) T.aO (T.me 45 rfl rfl) Ac Tk.wish (hr.mono (by decide)) (T.b 45 rfl) .nil (ao (aj 1) aB)))) (aF uB)))))
theorem Nz(T:Txt K mg t):aM P w K mg base (bT P w) 10 (t.f 47) (t.d 47) ["_law_bench_here","_law_paper_here","_law_count"] (spS K t.c gU 3):=by
 show aM P w K mg base (bT P w) (9+1) (t.f 47) (t.d 47) ["_law_bench_here","_law_paper_here","_law_count"] (spS K t.c (aU 7 o7) 3)
 have P0:= @KH P w K mg base t T
 refine cT (n:=7) (ar:=3) (k:=9) (b:=o7) (x:= "_law_taken") (qual:= "_law_taken") (st:=xY) (T.fn 47 rfl) fJ rfl rfl ?_
 intro cdv A outer s H E W hr
 exact(aA (aX (i:=3) fJ.nd rfl (Or.inl rfl) lD)
  (aA (aX (i:=4) fJ.nd rfl (Or.inl rfl) lD)
  (aA (aX (i:=5) fJ.nd rfl (Or.inl rfl) lQ)
  (aA (Zf (i:=6) (cl:=[(1,false),(2,true)]) (v:= .ref (t.c 2)) (cv:= .ref (t.c 2)) rfl rfl Tk.wish (λ_ z=>z) (λ_=>Nu (v:= .ref (t.c 2)) rfl T.yx rfl) ⟨T.m_,⟨T.oU,zac⟩⟩ fJ.nd rfl rfl rfl (λ_ _=>(aF (aX (i:=5) fJ.nd rfl (Or.inl rfl) (bf (kc:=8) (aj 0) T.aO (T.me 46 rfl rfl) P0 Tk.wish (hr.mono (by decide)) (T.b 46 rfl) .nil (ao (aj 1) aB))))) (λ_=>(aA (aX (i:=3) fJ.nd rfl (Or.inl rfl) lD)
  (aF (aX (i:=4) fJ.nd rfl (Or.inl rfl) (Bf (cU (c7 hr.units) (Zm (cs:=[1,2]) ⟨⟨T.vm,T.vf⟩,⟨⟨T.rG,T.xu⟩,zac⟩⟩ (aj 6)) (aj 2) (aN _)) (qw (Nf (cO abz rfl T.vZ Az (ao (Zm (cs:=[1,2]) ⟨⟨T.vm,T.vf⟩,⟨⟨T.rG,T.xu⟩,zac⟩⟩ (aj 6)) (ao (aeq rfl T.aaI ad4) aB)))))))))))
  (aF (aP (cW (ao (Nf (aj 3)) (ao (Bf (aj 4) (qw (cU Wy (aj 5) lQ (aN _)))) aB)))))))))
theorem G9(T:Txt K mg t):aM P w K mg base (bT P w) 1 (t.f 48) (t.d 48) ["self"] (spS K t.c mq 1):=by
 show aM P w K mg base (bT P w) (0+1) (t.f 48) (t.d 48) ["self"] (spS K t.c (aU 1 mY) 1)
 refine cT (n:=1) (ar:=1) (k:=0) (b:=mY) (x:= "broken") (qual:= "Bench.broken") (st:=qL) (T.fn 48 rfl) GJ rfl rfl ?_
 intro cdv A outer s H E W hr
 exact(aF (aP (bz (cs:=[8]) ⟨⟨T.aO,(T.aV.get (i:=6) rfl)⟩,zac⟩ (aj 0))))
theorem Ep(T:Txt K mg t):aM P w K mg base (bT P w) 2 (t.f 49) (t.d 49) ["self","h"] (spS K t.c j6 2):=by
 show aM P w K mg base (bT P w) (1+1) (t.f 49) (t.d 49) ["self","h"] (spS K t.c (aU 2 j8) 2)
 have dR:= @kZ P w K mg base t T
 refine cT (n:=2) (ar:=2) (k:=1) (b:=j8) (x:= "term_of") (qual:= "Bench.term_of") (st:=pF) (T.fn 49 rfl) Ed rfl rfl ?_
 intro cdv A outer s H E W hr
 exact(aF (aP (bf (kc:=0) (bz (cs:=[8]) ⟨⟨T.aO,(T.aV.get (i:=2) rfl)⟩,zac⟩ (aj 0)) T.aH (T.me 16 rfl rfl) dR Tk.wish (hr.mono (by decide)) (T.b 16 rfl) .nil (ao (aj 1) aB))))
theorem De(T:Txt K mg t):aM P w K mg base (bT P w) 2 (t.f 50) (t.d 50) ["self","h","term"] (spS K t.c jx 3):=by
 show aM P w K mg base (bT P w) (1+1) (t.f 50) (t.d 50) ["self","h","term"] (spS K t.c (aU 3 jJ) 3)
 have cG:= @gb P w K mg base t T
 refine cT (n:=3) (ar:=3) (k:=1) (b:=jJ) (x:= "votes_of") (qual:= "Bench.votes_of") (st:=nH) (T.fn 50 rfl) CW rfl rfl ?_
 intro cdv A outer s H E W hr
 exact(aF (aP (bf (kc:=0) (bz (cs:=[8]) ⟨⟨T.aO,(T.aV.get (i:=2) rfl)⟩,zac⟩ (aj 0)) T.aH (T.me 17 rfl rfl) cG Tk.wish (hr.mono (by decide)) (T.b 17 rfl) .nil (ao (aj 1) (ao (aj 2) aB)))))
theorem Df(T:Txt K mg t):aM P w K mg base (bT P w) 1 (t.f 51) (t.d 51) ["self"] (spS K t.c jy 1):=by
 show aM P w K mg base (bT P w) (0+1) (t.f 51) (t.d 51) ["self"] (spS K t.c (aU 1 jK) 1)
 refine cT (n:=1) (ar:=1) (k:=0) (b:=jK) (x:= "chairs") (qual:= "Ballots.chairs") (st:=nJ) (T.fn 51 rfl) CZ rfl rfl ?_
 intro cdv A outer s H E W hr
 exact(aF (aP (Be rfl hr.units (bz (cs:=[0]) ⟨⟨T.aH,(T.aY.get (i:=4) rfl)⟩,zac⟩ (aj 0)) rfl T.yC)))
theorem G8(T:Txt K mg t):aM P w K mg base (bT P w) 2 (t.f 52) (t.d 52) ["self"] (spS K t.c jj 1):=by
 show aM P w K mg base (bT P w) (1+1) (t.f 52) (t.d 52) ["self"] (spS K t.c (aU 1 mX) 1)
 have Ft:= @Df P w K mg base t T
 refine cT (n:=1) (ar:=1) (k:=1) (b:=mX) (x:= "chairs") (qual:= "Bench.chairs") (st:=qK) (T.fn 52 rfl) GF rfl rfl ?_
 intro cdv A outer s H E W hr
 exact(aF (aP (xR (kc:=0) (bz (cs:=[8]) ⟨⟨T.aO,(T.aV.get (i:=2) rfl)⟩,zac⟩ (aj 0)) T.aH (T.me 51 rfl rfl) Ft Tk.wish (hr.mono (by decide)) (T.b 51 rfl) .nil)))
theorem Ny(T:Txt K mg t):aM P w K mg base (bT P w) 3 (t.f 53) (t.d 53) ["_law_bench_here","_law_known","_law_hands"] (spS K t.c rT 3):=by
 show aM P w K mg base (bT P w) (2+1) (t.f 53) (t.d 53) ["_law_bench_here","_law_known","_law_hands"] (spS K t.c (aU 6 sI) 3)
 have Hq:= @Ep P w K mg base t T
 have Fq:= @De P w K mg base t T
 have zu:= @G8 P w K mg base t T
 refine cT (n:=6) (ar:=3) (k:=2) (b:=sI) (x:= "_law_tells") (qual:= "_law_tells") (st:=xX) (T.fn 53 rfl) pW rfl rfl ?_
 intro cdv A outer s H E W hr
 exact(aA (Bc (jW rfl rfl) rfl (IW (aj 2)) (jt (i:=3) pW.nd rfl (Or.inl rfl)) (aA (bU (aW (sH hr.units) (bf (kc:=8) (aj 0) T.aO (T.me 49 rfl rfl) Hq Tk.wish (hr.mono (by decide)) (T.b 49 rfl) .nil (ao (aj 3) aB)) (fH hr.units (bw hr.units (aj 1) az) (aj 3) az) (aN _)) (aF (aP lD)) bF)
  (aF (ack (jW rfl rfl) rfl (bw hr.units (aj 1) az) (jt (i:=4) pW.nd rfl (Or.inl rfl)) (aF (bU (aW (sH hr.units) (bf (kc:=8) (aj 0) T.aO (T.me 50 rfl rfl) Fq Tk.wish (hr.mono (by decide)) (T.b 50 rfl) .nil (ao (aj 3) (ao (aj 4) aB))) (fH hr.units (bw hr.units (aj 1) az) (cW (ao (aj 3) (ao (aj 4) aB))) az) (aN _)) (aF (aP lD)) bF))))))
  (aA (aX (i:=5) pW.nd rfl (Or.inl rfl) (xR (kc:=8) (aj 0) T.aO (T.me 52 rfl rfl) zu Tk.wish (hr.mono (by decide)) (T.b 52 rfl) .nil))
  (aA (bU (SW.pt (wH (DX (qj (cO abz rfl T.vZ Az (ao (aj 5) (ao (aeq rfl T.aaG ad3) aB))))) (xK (aW (sH hr.units) (aj 5) (Be rfl hr.units (bw hr.units (aj 1) az) rfl T.yC) (aN _))))) (aF (aP lD)) bF)
  (aA (pU (Zq PySem.F.plainAttrs_list PySem.F.slot_list_append PySem.F.type_list_append Xx (aj 5) (ao (cW (ao az (ao az aB))) aB)))
  (aF (aP (cU (c7 hr.units) (xR (kc:=8) (aj 0) T.aO (T.me 52 rfl rfl) zu Tk.wish (hr.mono (by decide)) (T.b 52 rfl) .nil) (Be rfl hr.units (bw hr.units (aj 1) az) rfl T.yC) (aN _))))))))
theorem af9(T:Txt K mg t):aM P w K mg base (bT P w) 11 (t.f 54) (t.d 54) ["_law_script"] (spS K t.c aaH 1):=by
 show aM P w K mg base (bT P w) (10+1) (t.f 54) (t.d 54) ["_law_script"] (spS K t.c (aU 19 WK) 1)
 have oO:= @Jt P w K mg base t T
 have S5:= @NP P w K mg base t T
 have SX:= @NK P w K mg base t T
 have J_:= @G3 P w K mg base t T
 have Ho:= @Eo P w K mg base t T
 have SN:= @Nz P w K mg base t T
 have Kg:= @G9 P w K mg base t T
 have SM:= @Ny P w K mg base t T
 refine cT (n:=19) (ar:=1) (k:=10) (b:=WK) (x:= "law") (qual:= "law") (st:=Zr) (T.fn 54 rfl) eF rfl rfl ?_
 intro cdv A outer s H E W hr
 exact(@aA _ _ _ _ _ _ _ (aX (i:=1) eF.nd rfl (Or.inr rfl) (Hw rfl ["_law_script"] [0] (uD rfl T.zK (ao az aB)) ⟨⟨rfl,rfl,by first | exact .inl rfl | exact .inr rfl⟩,zac⟩ (λ_ _ _ _ _=>MN) (λ_ _ _ _ _=>(aL BW (aL h_ (bD oO Tk.none (hr.mono (by decide)) rfl (T.mf 0 rfl rfl) (T.kp 0 rfl) (T.b 0 rfl) .nil (ao (aj 1) (ao az aB))) az) (aL U6 az (aj 0)))) (by decide +kernel) (by decide +kernel) (by decide +kernel) (by decide +kernel))) (@aA _ _ _ _ _ _ _ (aX (i:=2) eF.nd rfl (Or.inr rfl) (aL mQ (bD oO Tk.wish (hr.mono (by decide)) rfl (T.mf 0 rfl rfl) (T.kp 0 rfl) (T.b 0 rfl) .nil (ao (aj 0) (ao az aB))) az)) (@aA _ _ _ _ _ _ _ (aX (i:=3) eF.nd rfl (Or.inl rfl) (cO (agO rfl) rfl T.aex agR (ao (Hw rfl ["_law_hands","_law_rest"] [1,2] (uD rfl T.zK (ao az aB)) ⟨⟨rfl,rfl,by first | exact .inl rfl | exact .inr rfl⟩,⟨⟨rfl,rfl,by first | exact .inl rfl | exact .inr rfl⟩,zac⟩⟩ (λ_ _ _ _ _=>MN) (λ_ _ _ _ _=>(aL Fg (aL nZ (aL y_ (aL BW az (aL h_ (aj 2) az)) (aj 0)) az) (bw hr.units (aj 1) (aj 0)))) (by decide +kernel) (by decide +kernel) (by decide +kernel) (by decide +kernel)) aB))) (@aA _ _ _ _ _ _ _ (aX (i:=4) eF.nd rfl (Or.inl rfl) (bD oO Tk.wish (hr.mono (by decide)) rfl (T.mf 0 rfl rfl) (T.kp 0 rfl) (T.b 0 rfl) .nil (ao (aj 0) (ao az aB)))) (@aA _ _ _ _ _ _ _ (aX (i:=5) eF.nd rfl (Or.inl rfl) (Zo agP rfl T.aez agT (ao (Bf (cU Du (aL h_ (aj 4) az) az (aN _)) (qw (cU (c7 hr.units) (aL h_ (aL mQ (aj 4) az) az) az (aN _)))) aB))) (@aA _ _ _ _ _ _ _ (aX (i:=6) eF.nd rfl (Or.inl rfl) (Vw (cU (BV hr.units) (aL h_ (aj 4) az) az (aN _)) (qw (cU (c7 hr.units) (aL h_ (aL mQ (aL mQ (aj 4) az) az) az) az (aN _))))) (@aA _ _ _ _ _ _ _ (aX (i:=7) eF.nd rfl (Or.inl rfl) (aL h_ (bD oO Tk.wish (hr.mono (by decide)) rfl (T.mf 0 rfl rfl) (T.kp 0 rfl) (T.b 0 rfl) .nil (ao (aj 0) (ao az aB))) (aL agV az az))) (@aA _ _ _ _ _ _ _ (aX (i:=8) eF.nd rfl (Or.inl rfl) (bD S5 Tk.wish (hr.mono (by decide)) rfl (T.mf 7 rfl rfl) (T.kp 7 rfl) (T.b 7 rfl) .nil (ao (aj 3) (ao (aj 4) aB)))) (@aA _ _ _ _ _ _ _ (aX (i:=9) eF.nd rfl (Or.inl rfl) (cW (ao gW (ao gW (ao gW aB))))) (@aA _ _ _ _ _ _ _ (aX (i:=10) eF.nd rfl (Or.inl rfl) az) (@aA _ _ _ _ _ _ _ (aX (i:=11) eF.nd rfl (Or.inl rfl) lQ) (@aA _ _ _ _ _ _ _ (@Bc _ _ _ _ _ _ _ _ _ _ (jW rfl rfl) rfl (IW (Zn (aj 0) (Hv az) (Hv az))) (jt (i:=12) eF.nd rfl (Or.inl rfl)) (@aA _ _ _ _ _ _ _ (aX (i:=13) eF.nd rfl (Or.inl rfl) (bD SX Tk.wish (hr.mono (by decide)) rfl (T.mf 8 rfl rfl) (T.kp 8 rfl) (T.b 8 rfl) .nil (ao (aj 9) (ao (aj 12) (ao (aj 1) (ao (aj 7) aB)))))) (@aA _ _ _ _ _ _ _ (ae4 (aj 13) (Zk rfl (uE (jt (i:=14) eF.nd rfl (Or.inl rfl)) (uE (jt (i:=15) eF.nd rfl (Or.inl rfl)) (uE (jt (i:=16) eF.nd rfl (Or.inl rfl)) (uE (jt (i:=17) eF.nd rfl (Or.inl rfl)) Vv)))))) (@aA _ _ _ _ _ _ _ (@aX _ _ _ _ _ _ (18) _ _ eF.nd rfl (Or.inl rfl) (@Bf _ _ _ _ _ _ _ _ _ (cU (c7 hr.units) (aj 14) di (aN _)) (@qw _ _ _ _ _ _ _ (@bD _ _ _ _ _ _ _ _ _ _ _ _ _ _ _ _ _ _ J_ Tk.wish (hr.mono (by decide)) rfl (T.mf 9 rfl rfl) (T.kp 9 rfl) (T.b 9 rfl) .nil (@dU _ _ _ _ _ _ _ (aj 9) (@dU _ _ _ _ _ _ _ (aj 15) (@dU _ _ _ _ _ _ _ (aj 16) (@dU _ _ _ _ _ _ _ (aj 17) (@dU _ _ _ _ _ _ _ (aj 6) aB rfl) rfl) rfl) rfl) rfl) (by decide) rfl rfl rfl))) rfl (by first | exact .inl rfl | exact .inr rfl | assumption)) (@aA _ _ _ _ _ _ _ (@bU _ _ _ _ _ _ _ _ _ _ (aW (c7 hr.units) (aj 14) di (aN _)) (@aF _ _ _ _ _ (@aX _ _ _ _ _ _ (18) _ _ eF.nd rfl (Or.inl rfl) (@bD _ _ _ _ _ _ _ _ _ _ _ _ _ _ _ _ _ _ Ho Tk.wish (hr.mono (by decide)) rfl (T.mf 11 rfl rfl) (T.kp 11 rfl) (T.b 11 rfl) .nil (@dU _ _ _ _ _ _ _ (aj 9) (@dU _ _ _ _ _ _ _ (aj 15) (@dU _ _ _ _ _ _ _ (aj 16) (@dU _ _ _ _ _ _ _ (aj 17) (@dU _ _ _ _ _ _ _ (aj 3) (@dU _ _ _ _ _ _ _ (aj 5) aB rfl) rfl) rfl) rfl) rfl) rfl) (by decide) rfl rfl rfl) rfl (by first | exact .inl rfl | exact .inr rfl | assumption))) bF) (aA (aX (i:=18) eF.nd rfl (Or.inl rfl) (Bf (aj 18) (qw (cU Wy (aj 11) lQ (aN _)))))
  (aA (bU (aW (sH hr.units) (bD SN Tk.wish (hr.mono (by decide)) rfl (T.mf 47 rfl rfl) (T.kp 47 rfl) (T.b 47 rfl) .nil (ao (aj 8) (ao (aj 13) (ao (aj 10) aB)))) (cW (ao (aj 18) (ao lD aB))) (aN _)) (aF (aP lD)) bF)
  (aA (bU (qj (aj 18)) (aA (aX (i:=10) eF.nd rfl (Or.inl rfl) (aL BW (aj 10) az))
  (aF (bU (aW (c7 hr.units) (aj 14) di (aN _)) (aA (rN hr.units (bw hr.units (aj 9) az) (aj 15) (aj 16))
  (aF (rN hr.units (bw hr.units (aj 9) az) (cW (ao (aj 15) (ao (aj 16) aB))) (aL R7 (fH hr.units (bw hr.units (aj 9) az) (cW (ao (aj 15) (ao (aj 16) aB))) az) (aL Fg az (aj 17)))))) (aF (bU (aW (Wz hr.units) (aj 16) (bw hr.units (aj 9) az) (by with_unfolding_all rfl)) (aF (aX (i:=11) eF.nd rfl (Or.inl rfl) (cW (ao di (ao (aj 16) aB))))) (aF (rN hr.units (bw hr.units (aj 9) az) (aj 16) (aj 15)))))))) bF)
  (aF (bU (SW.pt (wH (aW (sH hr.units) (xR (kc:=8) (aj 8) T.aO (T.me 48 rfl rfl) Kg Tk.wish (hr.mono (by decide)) (T.b 48 rfl) .nil) (aj 11) (aN _)) (xK (DX (qj (bD SM Tk.wish (hr.mono (by decide)) rfl (T.mf 53 rfl rfl) (T.kp 53 rfl) (T.b 53 rfl) .nil (ao (aj 8) (ao (aj 9) (ao (aj 1) aB))))))))) (aF (aP lD)) bF))))))))) (by intro _ ;rfl)) (aF (aP lD))))))))))))))
theorem XH(T:Txt K mg t)(s:Shared)(u:Value):BindsTo s (t.d 54) ⟨[u],[]⟩ [("_law_script",u)]:=by
 obtain⟨oc,od,kV,doc,pm,an,cdv,ct,osl,e,_⟩:=(T.fn 54 rfl).ex
 rw[e]
 exact .of_eq rfl
theorem adf(T:Txt K mg t):aM P w K mg base Vg 11 (t.f 54) (t.d 54) ["_law_script"] (spL K):=ai9 (af9 T) agi
end
set_option autoImplicit true in
theorem all_mk{K:Frag}{h:Heap}{mg:Str->Option Value}(X:K.In h)(G:h.Ns mainGlobals mg){vo0 vo1 vo2 vo3 Bs vV vU vR vQ yt Jv:Obj}{vn0 vn1 vn2 vn3 Q_ KY KR KQ KN N5 abv:Nat}{tk0 Gx Gw Gv Gu Gs Gq Gp Gn Ip Io Im:Tok}{RJ:Array DictEntry}{N6 Nr:Str}{Sx:Addr}{Px ie:List Value}{M9:List Str}{Nj:List Value}{PK:Bool}{Ph:Option Bool}{Pa:Option Addr}{Ol Oj Oi Oh Og:Option Value}{Ra QX:Str}{Vb:Addr}{R8 jm:List Value}{QB:List Str}{QG:List Value}{Sv:Bool}{R0:Option Bool}{RQ:Option Addr}{Rw Rv Ru Rt Rr:Option Value}(J7:nsIn K mainGlobals "Rules" = some (some (.ref sS)))(Ca:nsIn K mainGlobals "Ballots" = some (some (.ref n_)))(BZ:nsIn K mainGlobals "Strides" = some (some (.ref n6)))(B_:nsIn K mainGlobals "Replies" = some (some (.ref n8)))(J8:nsIn K mainGlobals "Bench" = some (some (.ref sU)))(wF:nsIn K mainGlobals "HallError" = some (some (.ref bC)))(zf:nsIn K mainGlobals "BadPaper" = some (some (.ref b8)))(a0:findIn K (.ref sS) "__init__" = some (some (.ref f0)))(i0:isFn K (.ref f0)=true)(l0:K.lookup f0=some ⟨oc0,od0,.func (fnOf "__init__" "Rules.__init__" (d_ d7) (cM d7) (aC d7) (.ref v0) kV0 dc0 pm0 an0 cd0 ct0),sl0⟩)(c0:codeIn K cd0 "Rules.__init__" = true)(k0:keepIn K (.ref f0)=true)(lv0:K.lookup v0=some vo0)(dv0:vo0.data= .seq #[.str "once best own most" tk0] vn0)(a1:findIn K (.ref sU) "__init__" = some (some (.ref f1)))(i1:isFn K (.ref f1)=true)(l1:K.lookup f1=some ⟨oc1,od1,.func (fnOf "__init__" "Bench.__init__" (d_ d8) (cM d8) (aC d8) (.ref v1) kV1 dc1 pm1 an1 cd1 ct1),sl1⟩)(c1:codeIn K cd1 "Bench.__init__" = true)(k1:keepIn K (.ref f1)=true)(lv1:K.lookup v1=some vo1)(dv1:vo1.data= .seq #[.none] vn1)(a2:nsIn K mainGlobals "carries" = some (some (.ref f2)))(l2:K.lookup f2=some ⟨oc2,od2,.func (fnOf "carries" "carries" (d_ jw) (cM jw) (aC jw) (.ref v2) kV2 dc2 pm2 an2 cd2 ct2),sl2⟩)(c2:codeIn K cd2 "carries" = true)(k2:keepIn K (.ref f2)=true)(lv2:K.lookup v2=some vo2)(dv2:vo2.data= .seq #[.bool false] vn2)(a3:nsIn K mainGlobals "wins" = some (some (.ref f3)))(l3:K.lookup f3=some ⟨oc3,od3,.func (fnOf "wins" "wins" (d_ vH) (cM vH) (aC vH) (.ref v3) kV3 dc3 pm3 an3 cd3 ct3),sl3⟩)(c3:codeIn K cd3 "wins" = true)(k3:keepIn K (.ref f3)=true)(lv3:K.lookup v3=some vo3)(dv3:vo3.data= .seq #[.bool false] vn3)(a4:findIn K (.ref bC) "__init__" = some (some (.ref f4)))(i4:isFn K (.ref f4)=true)(l4:K.lookup f4=some ⟨oc4,od4,.func (fnOf "__init__" "HallError.__init__" (d_ bV) (cM bV) (aC bV) .none kV4 dc4 pm4 an4 cd4 ct4),sl4⟩)(c4:codeIn K cd4 "HallError.__init__" = true)(k4:keepIn K (.ref f4)=true)(bW:Ig K sS)(oX:PySem.W.makesIn K sS=true)(JQ:keepIn K (.ref sS)=true)(cH:zj K sS ["once","best","own","most"])(aH:Ig K n_)(nP:PySem.W.makesIn K n_=true)(BK:keepIn K (.ref n_)=true)(aY:zj K n_ ["rules","terms","votes","askings","seated"])(aQ:Ig K n6)(nM:PySem.W.makesIn K n6=true)(Bw:keepIn K (.ref n6)=true)(bu:zj K n6 ["first_roll","rules","rows","lines","marks","places"])(g_:Ig K n8)(nO:PySem.W.makesIn K n8=true)(BJ:keepIn K (.ref n8)=true)(gZ:zj K n8 ["beats","heard","looks","seen"])(aO:Ig K sU)(oY:PySem.W.makesIn K sU=true)(JR:keepIn K (.ref sU)=true)(aV:zj K sU ["first","rules","ballots","strides","replies","count","breach"])(hn_:PySem.W.specialIn K (.builtin "object.__class__") "__get__" = some (some (.builtin "getset_descriptor.__get__")))(tk_:PySem.W.takesIn K (.builtin "object.__class__")=some true)(d9:K.lookup bC=some (excClassObj N6 Nr bC Sx Px ie true M9 Nj PK Ph Pa Ol Oj Oi Oh Og "ValueError.__new__"))(vq:ie.contains (.type "ValueError")=true)(vp:ie.contains (.type "AttributeError")=false)(u6:ie.contains (.type "NameError")=false)(jr:ie.contains (.type "BaseException")=true)(pP:ie.contains (.type "object")=true)(vN:ie=[].map Value.ref++[.type "ValueError",.type "Exception",.type "BaseException",.type "object"])(vW:findIn K (.ref bC) "__init__" = some (some (.ref f4)))(v_:keepIn K (.ref bC)=true)(uZ:findIn K (.ref bC) "__setattr__" = some (some (.builtin "object.__setattr__")))(vh:findIn K (.ref bC) "__getattribute__" = some (some (.builtin "BaseException.__getattribute__")))(uY:findIn K (.ref bC) "at" = some none)(vg:findIn K (.ref bC) "__getattr__" = some none)(u_:findIn K (.ref bC) "__class__" = some (some (.builtin "object.__class__")))(fQ:K.lookup b8=some (excClassObj Ra QX b8 Vb R8 jm true QB QG Sv R0 RQ Rw Rv Ru Rt Rr "ValueError.__new__"))(xH:jm.contains (.type "ValueError")=true)(xG:jm.contains (.type "AttributeError")=false)(xq:jm.contains (.type "NameError")=false)(lz:jm.contains (.type "BaseException")=true)(rF:jm.contains (.type "object")=true)(yh:jm=[bC].map Value.ref++[.type "ValueError",.type "Exception",.type "BaseException",.type "object"])(yw:findIn K (.ref b8) "__init__" = some (some (.ref f4)))(yI:keepIn K (.ref b8)=true)(xm:findIn K (.ref b8) "__setattr__" = some (some (.builtin "object.__setattr__")))(xF:findIn K (.ref b8) "__getattribute__" = some (some (.builtin "BaseException.__getattribute__")))(xj:findIn K (.ref b8) "at" = some none)(xx:findIn K (.ref b8) "__getattr__" = some none)(xr:findIn K (.ref b8) "__class__" = some (some (.builtin "object.__class__")))(dZ:subIn K (.ref bC) (.ref bC)=some true)(e_:subIn K (.ref bC) (.ref b8)=some false)(fc:subIn K (.ref b8) (.ref bC)=some true)(fG:subIn K (.ref b8) (.ref b8)=some true)(BX:nsIn K mainGlobals "CHOICES" = some (some (.ref Fp)))(yG:K.lookup Fp=some Bs)(yX:Bs.cls= .type "tuple")(yU:Bs.data= .seq #[.ref uo,.ref um,.ref uh,.ref ug] Q_)(tV:K.lookup uo=some vV)(ue:vV.cls= .type "tuple")(t8:vV.data= .seq #[.str "once" Gx,.str "free" Gw] KY)(tU:K.lookup um=some vU)(ud:vU.cls= .type "tuple")(t7:vU.data= .seq #[.str "best" Gv,.str "any" Gu] KR)(tR:K.lookup uh=some vR)(uc:vR.cls= .type "tuple")(t6:vR.data= .seq #[.str "own" Gs,.str "old" Gq] KQ)(tQ:K.lookup ug=some vQ)(t_:vQ.cls= .type "tuple")(tZ:vQ.data= .seq #[.str "most" Gp,.str "half" Gn] KN)(zc:nsIn K mainGlobals "OF_HANDS" = some (some (.ref Cg)))(v7:K.lookup Cg=some yt)(wA:yt.cls= .type "tuple")(wz:yt.data= .seq #[.str "vote" Ip,.str "chair" Io,.str "told" Im] N5)(J6:nsIn K mainGlobals "SIZES" = some (some (.ref Ie)))(Jg:(Ie==sysModules)=false)(JM:K.lookup Ie=some Jv)(Ii:Jv.ExactDict)(J0:Jv.data= .dict RJ abv)(Jl:PyProof.Rows.KTD.Rows (λi v=>∃t,v=Value.int i t) RJ.toList [("vote",4),("chair",4),("write",4),("beat",3),("told",5),("settle",4),("answer",6),("look",6),("seen",8)])(uq:nsIn K mainGlobals "wins_rolls" = some (some (.ref f3)))(YD:nsIn K mainGlobals "all" = some none)(Tc:nsIn K mainGlobals "bool" = some none)(xg:nsIn K mainGlobals "enumerate" = some none)(YC:nsIn K mainGlobals "int" = some none)(uX:nsIn K mainGlobals "isinstance" = some none)(YB:nsIn K mainGlobals "len" = some none)(S_:nsIn K mainGlobals "list" = some none)(Yz:nsIn K mainGlobals "max" = some none)(Yy:nsIn K mainGlobals "min" = some none)(Mv:nsIn K mainGlobals "range" = some none)(Ih:nsIn K mainGlobals "sorted" = some none)(Yx:nsIn K mainGlobals "sum" = some none)(D_:∃xs,P_ K (λk=>match k with | 6=>sS | 0=>n_ | 7=>n6 | 5=>n8 | 8=>sU | 1=>bC | 2=>b8 | _=>0) o5 xs):
  ∃t,Txt K mg t:=
 let⟨xs_,D⟩:=D_
 ⟨{c:=λk=>match k with | 6=>sS | 0=>n_ | 7=>n6 | 5=>n8 | 8=>sU | 1=>bC | 2=>b8 | _=>0,xs:=xs_,mJ:=f0,jD:=fnOf "__init__" "Rules.__init__" (d_ d7) (cM d7) (aC d7) (.ref v0) kV0 dc0 pm0 an0 cd0 ct0,
   Cy:=v0,
   CK:=tk0,
   mK:=f1,jF:=fnOf "__init__" "Bench.__init__" (d_ d8) (cM d8) (aC d8) (.ref v1) kV1 dc1 pm1 an1 cd1 ct1,
   Cz:=v1,
   uQ:=f2,qi:=fnOf "carries" "carries" (d_ jw) (cM jw) (aC jw) (.ref v2) kV2 dc2 pm2 an2 cd2 ct2,
   K_:=v2,
   E_:=f3,Ff:=fnOf "wins" "wins" (d_ vH) (cM vH) (aC vH) (.ref v3) kV3 dc3 pm3 an3 cd3 ct3,
   YL:=v3,
   gH:=f4,jE:=fnOf "__init__" "HallError.__init__" (d_ bV) (cM bV) (aC bV) .none kV4 dc4 pm4 an4 cd4 ct4,
   Ez:=Fp,
   BL:=Cg,
   O3:=Ie},
  {D:=D,G:=λ_ _ a=>zaa X G a,Aq:=wj l0 c0 k0,
   ir:=λs us X hl=>by obtain⟨u0,u1,rfl⟩:=v8 (us:=us) (by simpa using hl);exact PySem.W.binds_K X rfl lv0 dv0 rfl rfl,
   uf:=λs us X hl=>by obtain⟨u0,rfl⟩:=Od (us:=us) (by simpa using hl);exact PySem.W.binds_K X rfl lv0 dv0 rfl rfl,
   Ar:=wj l1 c1 k1,
   fW:=λs us X hl=>by obtain⟨u0,u1,u2,rfl⟩:=Dj (us:=us) (by simpa using hl);exact PySem.W.binds_K X rfl lv1 dv1 rfl rfl,
   A_:=λs us X hl=>by obtain⟨u0,u1,rfl⟩:=v8 (us:=us) (by simpa using hl);exact PySem.W.binds_K X rfl lv1 dv1 rfl rfl,
   wu:=wj l2 c2 k2,
   lM:=λs us X hl=>by obtain⟨u0,u1,u2,rfl⟩:=Dj (us:=us) (by simpa using hl);exact PySem.W.binds_K X rfl lv2 dv2 rfl rfl,
   U7:=λs us X hl=>by obtain⟨u0,u1,rfl⟩:=v8 (us:=us) (by simpa using hl);exact PySem.W.binds_K X rfl lv2 dv2 rfl rfl,
   Bt:=zaa X G a2,
   O5:=wj l3 c3 k3,
   wB:=λs us X hl=>by obtain⟨u0,u1,u2,rfl⟩:=Dj (us:=us) (by simpa using hl);exact PySem.W.binds_K X rfl lv3 dv3 rfl rfl,
   ad_:=λs us X hl=>by obtain⟨u0,u1,rfl⟩:=v8 (us:=us) (by simpa using hl);exact PySem.W.binds_K X rfl lv3 dv3 rfl rfl,
   adm:=zaa X G a3,
   sG:=wj l4 c4 k4,
   uT:=(wj l4 c4 k4:zx K _ _ bV .none _ _).binds (ps:=["self","at"]) λ_ _ _ _ _ _ us hl=>by obtain⟨u0,u1,rfl⟩:=v8 hl;rfl,
   oX:=⟨oX,a0,i0,JQ⟩,
   bW:=bW,
   Dh:=zaa X G J7,
   cH:=cH,
   nP:=D.mk (i:=3) rfl rfl rfl rfl nP BK,
   aH:=aH,
   Jz:=zaa X G Ca,
   aY:=aY,
   nM:=D.mk (i:=4) rfl rfl rfl rfl nM Bw,
   aQ:=aQ,
   Jx:=zaa X G BZ,
   bu:=bu,
   nO:=D.mk (i:=5) rfl rfl rfl rfl nO BJ,
   g_:=g_,
   Jy:=zaa X G B_,
   gZ:=gZ,
   oY:=⟨oY,a1,i1,JR⟩,
   aO:=aO,
   Di:=zaa X G J8,
   aV:=aV,
   N8:=zaa X G wF,
   Mw:=YG d9 vq vp u6 jr vW i4 v_,
   vm:=Vi d9 pP jr (Fz vN) uZ vh uY,
   vf:=YH d9 pP vg u_ hn_ tk_,
   yx:=zaa X G zf,
   Fw:=YG fQ xH xG xq lz yw i4 yI,
   rG:=Vi fQ rF lz (Fz yh) xm xF xj,
   xu:=YH fQ rF xx xr hn_ tk_,
   u9:=Vh d9 jr dZ,
   wg:=Wc d9 dZ,
   m_:=Vh fQ lz e_,
   wV:=Wc fQ e_,
   wN:=Vh d9 jr fc,
   wW:=Wc d9 fc,
   oU:=Vh fQ lz fG,
   yJ:=Wc fQ fG,
   vX:=zaa X G BX,
   vA:=λct ι n H=>(S.Fd (xs:=[.ref uo,.ref um,.ref uh,.ref ug]) yG yX yU (by simp) (.cons rfl (.cons rfl (.cons rfl (.cons rfl .nil)))) (.cons (S.Fd (xs:=[.str "once",.str "free"]) tV ue t8 (by simp) (.cons ⟨_,rfl⟩ (.cons ⟨_,rfl⟩ .nil)) (.cons (.str _) (.cons (.str _) .nil))) (.cons (S.Fd (xs:=[.str "best",.str "any"]) tU ud t7 (by simp) (.cons ⟨_,rfl⟩ (.cons ⟨_,rfl⟩ .nil)) (.cons (.str _) (.cons (.str _) .nil))) (.cons (S.Fd (xs:=[.str "own",.str "old"]) tR uc t6 (by simp) (.cons ⟨_,rfl⟩ (.cons ⟨_,rfl⟩ .nil)) (.cons (.str _) (.cons (.str _) .nil))) (.cons (S.Fd (xs:=[.str "most",.str "half"]) tQ t_ tZ (by simp) (.cons ⟨_,rfl⟩ (.cons ⟨_,rfl⟩ .nil)) (.cons (.str _) (.cons (.str _) .nil))) .nil))))),
   rQ:=zaa X G zc,
   rK:=λct ι n H=>(S.Fd (xs:=[.str "vote",.str "chair",.str "told"]) v7 wA wz (by simp) (.cons ⟨_,rfl⟩ (.cons ⟨_,rfl⟩ (.cons ⟨_,rfl⟩ .nil))) (.cons (.str _) (.cons (.str _) (.cons (.str _) .nil)))),
   Rf:=zaa X G J6,
   Qt:=⟨Jg,_,_,_,JM,Ii,J0,Jl⟩,
   Ak:=zaa X G uq,
   aeA:=uS X G YD,
   aaI:=uS X G Tc,
   FQ:=uS X G xg,
   aez:=uS X G YC,
   vZ:=uS X G uX,
   wJ:=uS X G YB,
   aaG:=uS X G S_,
   aaF:=uS X G Yz,
   aey:=uS X G Yy,
   zK:=uS X G Mv,
   yC:=uS X G Ih,
   aex:=uS X G Yx}⟩
end My
open PySem PySem.W PyProof.Rows L2
structure PySem.W.Fast:Prop where(tw18076337255695649920 tw397867239888212128 tw3933234170299995296 tw6098633472424877248 tw17854050543842912480 tw6523276864948275616 tw114000512762916256 tw7478806414952214944 tw15971119924267589056 tw2869151846907775520 tw4266816185525561984 tw13042676482963746496 tw3316982229374803680 tw7477412443794851648 tw934811748374711393 tw4573994151159787617 tw3301834167847120065 tw10099808045243730305 tw3765432643902198177 tw6409502082886012385 tw17081836770317835745 tw5626757520706837025 tw7148306973433778785 tw17345451887304296065 tw2109522920185511585 tw5212248199457007297 tw8601984949612604129 tw4562215325630625633 tw6044170325249537921 tw12298943515360259969 tw5026131563254671265 tw7970578858535962658 tw17732273359889993858 tw13781667866299910498 tw12675515453063381378 tw8011580691377747426 tw11286535714471215714 tw3242357717361080002 tw13029073927392404194 tw13395867971823630050 tw1694251231329834850 tw1151793277696202594 tw18286944278830824386 tw2178617291373985730 tw6477908441699976162 tw15665943430119912418 tw4797549048187865187 tw583617989178946691 tw5934150355224509891 tw4006189463142835811 tw15901586992525040227 tw12722729143986663075 tw7716794142500982467 tw15564375982342756099 tw15624743129244496707 tw9819160155569082275 tw2127088389218030596 tw2655004635202340932 tw2305359180979265636 tw1148040705995470980 tw17691360100101762276 tw11034012381933713636 tw6540329459066628356 tw4437847936660736388 tw14056683758270561764 tw8703232766420111908 tw7450761881099320900 tw6358055028021586532 tw17913593258541250148 tw3848336911113086596 tw5826464083950650052 tw9285414335470131940 tw17395527848460509028 tw516965304168629124 tw1187779238385303524 tw1439963077004706821 tw3110432070739744773 tw11836052166175402085 tw5039358273632328837 tw6734710824782206117 tw10033625020308914373 tw1823288915718754661 tw1363411979521926757 tw17828987799066407589 tw18080856151776360165 tw2105555464773700485 tw2090047473609073541 tw14182695769363335238 tw9243182611832316070 tw12280550942441303238 tw8631727720835373382 tw8229415930058214918 tw8803264267731835430 tw4210238832601864774 tw4999539408092003910 tw15074531334394801766 tw16496985273311064678 tw2205235246885671590 tw10445255545103809190 tw17014865967655518950 tw10528692717362875206 tw11772547770023434150 tw16300849875900950438 tw5533050629226305799 tw9691014019122637159 tw11512500406190192999 tw12120622613644698119 tw3764878938244561479 tw12410955129192190599 tw16028625648617976872 tw1721016644311857448 tw5729744991233303944 tw6635189310292894120 tw10849385599515930088 tw6224245937399836168 tw10307421073995424264 tw2757871579742743336 tw11536861199922327336 tw1112829067459741576 tw15503398956328064904 tw14514956572946548712 tw6417848586806063209 tw5768292016547286185 tw5708705064571927785 tw8761443819651687689 tw3099310789262858665 tw4038797029452234185 tw9552714304352208425 tw14586538128287235657 tw2865514430823979625 tw18241835673161752265 tw11386219885135615785 tw14076757805118163817 tw15069985268402347881 tw5881062269091916745 tw3167185977130685450 tw6214208688128468010 tw14352149069585554506 tw996292462395703498 tw13327597326445750602 tw13736364447470859594 tw411571527376575850 tw8237619624726998410 tw10263220819180923306 tw1793590118967620042 tw12497620869828626026 tw16842066788234616458 tw16250948305210084170 tw8568206122447351626 tw14683975606076687274 tw4079282510220267563 tw15361689436580848683 tw9158770797354132683 tw61723139314122091 tw17401688813831831947 tw11897901019675437483 tw14342291991469246987 tw17276672973321059915 tw16991820534819223115 tw8430467447624337003 tw13657884208295080555 tw5177645949290665643 tw5188051689523762987 tw16265104146201319243 tw12565220327297768267 tw12367765722475274091 tw14314060070084099979 tw840790022231142315 tw4518804843935659436 tw5630459822443601420 tw10008671066814196236 tw15071200544268217868 tw5560366502579181100 tw13329658477599522476 tw7041802769342586636 tw2606491618794967884 tw7219501818921851021 tw1616842220210336909 tw10372584832748989677 tw10203759141511083309 tw2500937235725685101 tw10213421301531512269 tw5204665925306618349 tw1443049932273551021 tw8443823427155035821 tw17510614445242831629 tw4485233615736176429 tw18227479820186487629 tw2674195410998638638 tw14445245961248082990 tw17518671668210548814 tw14209554574471514318 tw10045655397948772654 tw17998218526719504078 tw15811530858306019150 tw6608735797494754126 tw16955821710786269070 tw8967332021422721998 tw15932474295663235022 tw8894062059052410991 tw15940250066517495951 tw12684493443095863471 tw10509921356916317487 tw6715434548062640623 tw16832083792922035855 tw16159597978234940175 tw14479638017657660175 tw3929131604002069423 tw1039074358337377328 tw17985970121005417520 tw3070686555393221680 tw7037211208666535376 tw10005539669598676496 tw17712373073741012496 tw5463513331636988656 tw14120301847861103665 tw8562612475654324305 tw18371767151878981713 tw6646335526879188241 tw9790366724163233041 tw231488836923197809 tw2248160043272198513 tw13842962295062875633 tw5016069916110559761 tw9095884600221815313 tw198813061193759313 tw12662103935206562769 tw15579017325602396210 tw12915115183371598930 tw6696032558184945746 tw4012409834253936786 tw6907597901653730546 tw510645699420071218 tw11020781572837170482 tw4821598348722858386 tw3053502182541515186 tw13926312936442936818 tw9058469732963670546 tw13665699169192487474 tw4198912390597805682 tw4826639891650518642 tw18433746816588795506 tw1934777952333823602 tw10933563260205092722 tw2199934149717867410 tw4048202693765624722 tw5778309776414393330 tw8195371613322410067 tw16629578250709682291 tw15471115309618854035 tw14914354849647519923 tw2061176815686416595 tw12627120656559723763 tw4279018544496570835 tw8447231756901902835 tw4292551604951280115 tw6008316956201231923 tw10739941093748397811 tw14456339651535850259 tw8120299268429171475 tw7110791103083694931 tw257921237985842196 tw995148596250964276 tw14687240859732818260 tw11505084603735345524 tw16493260585938139668 tw14620139110554369556 tw5297323182232135252 tw9971755678426510996 tw9126432075200882388 tw12991033598465988340 tw13186789403056939828 tw8532311944150153044 tw18200453986965805972 tw16268494486611247060 tw4933328056887018549 tw16696544922114103349 tw6998369548167057525 tw1568823748709703093 tw2152078363904058901 tw7097408855931346709 tw9680346690063808341 tw15651186588608976885 tw2451734797473777686 tw13588932374077852694 tw3476899135492649046 tw13686803420096001142 tw15643705682058983734 tw5422880399489035606 tw18358238982847656310 tw13983225605491317142 tw5641964451257516566 tw9600723939861380662 tw11967881348251388534 tw3072649873510644374 tw9458586094288493206 tw977316224751409846 tw11178149594783909718 tw4792090190165299062 tw5881645092540884982 tw5961592808654698486 tw1496972234544081975 tw15395178765051995223 tw2904329994462162007 tw1517722702622412951 tw17880373048341104887 tw11521726292134635831 tw5851923345195611543 tw183984206977617303 tw5600294551153530263 tw6627718018050866615 tw14560336311182576087 tw6612793185594012119 tw7376748258304666135 tw6517210256584330775 tw6179730994507503127 tw953431854231753335 tw4171456323429044855 tw5239553704713362039 tw15761374382911174583 tw14618991723751247831 tw7558658850665135384 tw6597447505821482296 tw995602011923226936 tw1333338934986179000 tw12256957927160482232 tw8844198241549020632 tw10582994066543744536 tw6051700218465032760 tw14236312226931312216 tw6680347908189869752 tw13535586875137009592 tw16063643231319326680 tw12809160486600946777 tw15166485864151166073 tw17680216415450827897 tw5575803070473094329 tw7060070007109043449 tw11385552708689960345 tw11480369639785118169 tw1879247684324784729 tw18390892533540481753 tw14269087915152267257 tw15030220893152534521 tw13376101135187476473 tw1995973416975556634 tw15280057045554863226 tw3706426326114088090 tw16938575221969621178 tw5634253863570757818 tw14935511868750729434 tw12889434283120037114 tw9661210085733508346 tw3607095301730697626 tw14033772709454401018 tw15183597212368673306 tw7291901594102100538 tw9321032115629548122 tw13636691564096121466 tw1261113594933378682 tw5828298646833591962 tw13933539941080309754 tw6952204464749796539 tw7695601045406820571 tw15613535396133113371 tw3596156703109357083 tw1518683863063803515 tw502404572571287163 tw15729417105584514683 tw12916084667945953019 tw4128052261456589595 tw6807578493263955739 tw6110516023681195931 tw5303410189733416891 tw10282522065240286139 tw9453044857429622715 tw13192938044765682716 tw14523996575970009148 tw2424914711058331740 tw16401385289686019356 tw12920660608252367228 tw11394641328194698844 tw4087786950098410108 tw16150839740248772252 tw4590364316074362588 tw16844880820675970972 tw2281410075418289213 tw8548011878110271869 tw4903693043528438173 tw11293720633391860125 tw2836726632594599389 tw6379298158283813373 tw5620696373756926621 tw1124049633567498077 tw10076453367915572125 tw10428138613020744637 tw4188552913643834333 tw11918122533945939933 tw10148715298306709598 tw14601049041272903806 tw17819051110430178462 tw13506703334931436766 tw4633949685861589342 tw6902577516307763614 tw1671371935964970654 tw6306179947182139294 tw15953184309801988030 tw6618863991365528574 tw11244480419106965663 tw2987222565020838079 tw3137905844693464287 tw14957350379368200479 tw16214296313410637119 tw17306139281981993279 tw12576336816445262175 tw17453933050783877471 tw6172277221281551775 tw13056448034631415487 tw5923982217198905055 tw12917394130996218751 tw17208397782080695263 tw8933760984396781535 tw11190367999234050047 tw11345967404917649818 tw8349565160873974582 tw14734814502796878873 tw11547954062233716772 tw9721090977859632288 tw640995683728426173 tw4970739896921889012 tw3761507172877088461 tw938375100841360834 tw17412174264125657363 tw802597168326127487 tw14519000433370841395 tw11381185361395476219 tw6645426210100143773 tw6149839618561260691 tw18057519099565658558 tw17850620036674566931 tw10247205622484656158 tw7708831505111450180 tw5939718767627286398 tw5701587594041415115 tw5611091922919926319 tw15241808095447508677 tw943096975742471272 tw8339417908075592692 tw7745115817683928293 tw2542707189832415594 tw1711954206894364914 tw16555158890513430389 tw15709139365610184987 tw11702922827371636215 tw8486256210104489174 tw2752154561840238089 tw17653860088090407467 tw13185654831891797529 tw8961666087911660022 tw5944175175413036596 tw1888846398618947438 tw17688331173577894466 tw14948206802498143585 tw7878155620396796921 tw6665862087767104742 tw4322265942395542330 tw3309878285352575092 tw2944364396915500238 tw2094197762212140628 tw1912091569533306843 tw13960746052670596281 tw13754373857164912498 tw12049782138376871890 tw11606771380766967546 tw6340621830816835774 tw16180801061049792476 tw15946142726021445577 tw14603214214426632486 tw14350600249586405909 tw12577751081581464361 tw10748403127556671442 tw9451217340961248223 tw9240563348642770645 tw2778743157345342121 tw17360437921640335663 tw15615977093007797163 tw11563391096404432050 tw9520324987802265198 tw9483964325940277291 tw9264420832011533178 tw8290947064847132489 tw8220089433592156833 tw6377328523294398174 tw4446837783415784774 tw3113458645012995449 tw2677688167947884970 tw16519820204650127517 tw15459695015574604875 tw13935655313145281443 tw12444241919249536347 tw10582641591039852249 tw9559383926099313101 tw9330031652591683469 tw8491191443860282425 tw4252284280869238279 tw404560133114605245 tw3616776449030125446 tw3388917784604454797 tw16995506863035920618 tw16773017752795601441 tw15261514819188982686 tw13873501627171237044 tw13469820131056111324 tw1325260889306133887 tw11876518133652880690 tw9716569030652588931 tw9493921617625832985 tw8248092995676643379 tw6993882121472507007 tw16378248831161628600 tw11523829264166632420 tw10111369522217045252 tw10068107891589257688 tw9107787241074597805 tw8670752349434168998 tw8078809261050560842 tw7096433091169881884 tw7035882747147849363 tw6496903636178740237 tw5545751946070581762 tw5285362143409192421 tw3199630940091925420 tw18354904255386660749 tw18276541583299873960 tw16042011552169816300 tw14556669008219750530 tw14405378046463551510 tw14194287798190466149 tw12257864067760915809 tw12207442350620060037 tw10583635946654452879 tw7584679034062795199 tw1926787953083355567 tw18445643824059765129 tw16973599605176996004 tw16685516356879108608 tw13508499078225947339 tw9054031835432169067 tw8823623685245392724 tw4922195218124919004 tw2129543401263875838 tw18167136679263363966 tw15996183516519212744 tw15306804333693114447 tw9477363622078559853 tw7456596761913250471 tw3869361931641301478 tw1816928193858043645 tw13432538734926172586 tw9745423297595265112 tw9342989513107407731 tw9196371903733572840 tw8476332761668329186 tw6959974741562145955 tw637895323168987011 tw14442460172628645131 tw10561417964058190236 tw9231158812692214713 tw8299409371269698555 tw3055093616585664520 tw17667802129924504387 tw16066477857111512000 tw15380962567195608729 tw14460318858520688854 tw12688093239458293249 tw5412762467416145540 tw4635615448439937066 tw1645155514242418535 tw10470394331004835792 tw16531815387148848061 tw8570205032120207667 tw16675959468484791296 tw1312266277119016284 tw9530119183672505970 tw6331222230859814234 tw6376805217413781993 tw17456067283626256369 tw14065704476072926735 tw5566658201327073735 tw16660925677954314736 tw4659245663486972408 tw8487881923082535024 tw3072386375901983989 tw14537913424286683429 tw381949605009230913 tw6298478044135011613 tw476191798644919656 tw10600236275753841370 tw9355842476682481769 tw11764956155017641070 tw18386119434025840046 tw6267140678356833385 tw9139841573229776228 tw866548946853113531 tw8266170787998146602 tw6114472203896821496 tw1886311174788901580 tw9064639751538233271 tw6759056797339434143 tw5268365729306890103 tw4430899241318703291 tw3552734960339483033 tw2123545459544282645 tw17813614781451859442 tw14016376674763519592 tw18191638624330786465 tw7830192853968180438 tw6978384481916541461 tw1924930787856505802 tw14265874572220688826 tw658389295344122497 tw6154725707857167898 tw10003754721550490277 tw8531963856197189847 tw634656600760061315 tw12202101399863434852 tw10462713668583618236 tw2100531108547607493 tw17322792645626566226 tw9806131973937791008 tw5122000049675265453 tw10459608215685267422 tw1911887694285968685 tw3934066969482692129 tw14151468900992593102 tw6974885772072650103 tw16942616743132597569 tw9939926039646245248 tw3493600149406462915 tw10461764267105359741 tw14773356530998893188 tw10221200280872337032 tw3510034097381715125 tw16448705967572064246 tw11844843764531829476 tw10513711416563254606 tw8828946058739896036 tw13956893454581335721 tw5324776571214960150 tw4670314656485248852 tw16919640919709422127 tw15213235850049449264 tw14927394538646027761 tw14548902293007427724:True)
theorem PySem.Challenge.cw_chairvote_k61_votes_and_chairs_holds : PySem.Challenge.rw_chairvote_k61_votes_and_chairs.Holds := by
 w_on;o_law;k_head;(case hw=>w_witness2)
 k_fill
 refine S.ahO (l:=PySem.Challenge.rw_chairvote_k61_votes_and_chairs) (x:= "_law_script") (k:=11) rfl rfl ⟨rfl,by decide,by decide⟩ (fun w h Y=>PySem.W.kIn_of Y) ?F
 case F=>
  intro w mg fa h KX G hmg
  have T:∃t,My.Txt (L2.KOf KX) mg t:=by
   dsimp only[L2.KOf]
   refine' My.all_mk KX G ?J7 ?Ca ?BZ ?B_ ?J8 ?wF ?zf ?a0 ?i0 ?l0 ?c0 ?k0 ?lv0 ?dv0 ?a1 ?i1 ?l1 ?c1 ?k1 ?lv1 ?dv1 ?a2 ?l2 ?c2 ?k2 ?lv2 ?dv2 ?a3 ?l3 ?c3 ?k3 ?lv3 ?dv3 ?a4 ?i4 ?l4 ?c4 ?k4 ?bW ?oX ?JQ ?cH ?aH ?nP ?BK ?aY ?aQ ?nM ?Bw ?bu ?g_ ?nO ?BJ ?gZ ?aO ?oY ?JR ?aV ?hn_ ?tk_ ?d9 ?vq ?vp ?u6 ?jr ?pP ?vN ?vW ?v_ ?uZ ?vh ?uY ?vg ?u_ ?fQ ?xH ?xG ?xq ?lz ?rF ?yh ?yw ?yI ?xm ?xF ?xj ?xx ?xr ?dZ ?e_ ?fc ?fG ?BX ?yG ?yX ?yU ?tV ?ue ?t8 ?tU ?ud ?t7 ?tR ?uc ?t6 ?tQ ?t_ ?tZ ?zc ?v7 ?wA ?wz ?J6 ?Jg ?JM ?Ii ?J0 ?Jl ?uq ?YD ?Tc ?xg ?YC ?uX ?YB ?S_ ?Yz ?Yy ?Mv ?Ih ?Yx ?D_
   case J7 | Ca | BZ | B_ | J8 | wF | zf | a0 | i0 | l0 | c0 | k0 | lv0=>k_is
   case dv0=>rfl
   case a1 | i1 | l1 | c1 | k1 | lv1=>k_is
   case dv1=>rfl
   case a2 | l2 | c2 | k2 | lv2=>k_is
   case dv2=>rfl
   case a3 | l3 | c3 | k3 | lv3=>k_is
   case dv3=>rfl
   case a4 | i4 | l4 | c4 | k4=>k_is
   case bW=>exact⟨by k_is,by k_is,by k_is,by k_is⟩
   case oX | JQ=>k_is
   case cH=>(repeat (refine uJ (by k_is) ?_));exact yu
   case aH=>exact⟨by k_is,by k_is,by k_is,by k_is⟩
   case nP | BK=>k_is
   case aY=>(repeat (refine uJ (by k_is) ?_));exact yu
   case aQ=>exact⟨by k_is,by k_is,by k_is,by k_is⟩
   case nM | Bw=>k_is
   case bu=>(repeat (refine uJ (by k_is) ?_));exact yu
   case g_=>exact⟨by k_is,by k_is,by k_is,by k_is⟩
   case nO | BJ=>k_is
   case gZ=>(repeat (refine uJ (by k_is) ?_));exact yu
   case aO=>exact⟨by k_is,by k_is,by k_is,by k_is⟩
   case oY | JR=>k_is
   case aV=>(repeat (refine uJ (by k_is) ?_));exact yu
   case hn_ | tk_ | d9=>k_is
   case vq | vp | u6 | jr | pP=>decide +kernel
   case vN=>rfl
   case vW | v_ | uZ | vh | uY | vg | u_ | fQ=>k_is
   case xH | xG | xq | lz | rF=>decide +kernel
   case yh=>rfl
   case yw | yI | xm | xF | xj | xx | xr | dZ | e_ | fc | fG | BX | yG=>k_is
   case yX | yU=>rfl
   case tV=>k_is
   case ue | t8=>rfl
   case tU=>k_is
   case ud | t7=>rfl
   case tR=>k_is
   case uc | t6=>rfl
   case tQ=>k_is
   case t_ | tZ=>rfl
   case zc | v7=>k_is
   case wA | wz=>rfl
   case J6=>k_is
   case Jg=>decide
   case JM=>k_is
   case Ii=>exact⟨rfl,rfl,rfl⟩
   case J0=>rfl
   case Jl=>exact .cons rfl ⟨_,rfl⟩ (.cons rfl ⟨_,rfl⟩ (.cons rfl ⟨_,rfl⟩ (.cons rfl ⟨_,rfl⟩ (.cons rfl ⟨_,rfl⟩ (.cons rfl ⟨_,rfl⟩ (.cons rfl ⟨_,rfl⟩ (.cons rfl ⟨_,rfl⟩ (.cons rfl ⟨_,rfl⟩ (.nil)))))))))
   case uq | YD | Tc | xg | YC | uX | YB | S_ | Yz | Yy | Mv | Ih | Yx=>k_is
   case D_=>(repeat (first | refine agH (by k_is) (by k_is) (by k_is) (by k_is) (by intro kV dc pm an cd ct us hl;first | (obtain⟨u0,rfl⟩:=Od hl;rfl) | (obtain⟨u0,u1,rfl⟩:=v8 hl;rfl) | (obtain⟨u0,u1,u2,rfl⟩:=Dj hl;rfl) | (obtain⟨u0,u1,u2,u3,rfl⟩:=Wa hl;rfl) | (obtain⟨u0,u1,u2,u3,u4,rfl⟩:=S.V_ hl;rfl) | (obtain⟨u0,u1,u2,u3,u4,u5,rfl⟩:=S.V9 hl;rfl)) ?_ | refine agG rfl (by k_is) (by k_is) (by k_is) (by k_is) (by k_is) (by intro kV dc pm an cd ct us hl;first | (obtain⟨u0,rfl⟩:=Od hl;rfl) | (obtain⟨u0,u1,rfl⟩:=v8 hl;rfl) | (obtain⟨u0,u1,u2,rfl⟩:=Dj hl;rfl) | (obtain⟨u0,u1,u2,u3,rfl⟩:=Wa hl;rfl) | (obtain⟨u0,u1,u2,u3,u4,rfl⟩:=S.V_ hl;rfl) | (obtain⟨u0,u1,u2,u3,u4,u5,rfl⟩:=S.V9 hl;rfl)) ?_));exact adO
  obtain⟨t,T⟩:=T
  have e0:=hmg.symm.trans (T.mf 54 rfl rfl)
  cases e0
  exact⟨(t.d 54),fun s u=>My.XH T s u,fun base _ _=>My.adf T⟩

