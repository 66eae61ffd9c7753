import PyProof.Rows.All
import Wide.All
import OpenK.AllK
import Wide.FinOn
import Lean
import PyProof.EqAt
import PyProof.EqKinds
import PyProof.TupleCall
import PySem.Challenge.RW_chairvote_k62_writes
abbrev zC:=@PySem.wpAny_bind
abbrev zD:=@PySem.Heap.get?_push_of_some
abbrev zI:=@PySem.wpAny_pure
abbrev zS:=@PySem.Heap.lt_size
abbrev yA:=@Nat.lt_of_lt_of_le
abbrev yB:=@PySem.Heap.get?_push_size
abbrev yT:=@List.mem_cons_of_mem
abbrev yY:=@Nat.le_trans
abbrev xA:=@Bool.false_ne_true
abbrev xB:=@List.mem_cons_self
abbrev xD:=@Nat.ne_of_lt
abbrev xE:=@List.mem_append_right
abbrev xI:=@Option.some.inj
abbrev xL:=@PySem.Heap.get?_update_other
abbrev xS:=@Nat.ne_of_gt
abbrev wP:=@Nat.le_succ_of_le
abbrev wS:=@Nat.lt_irrefl
abbrev wT:=@PySem.wpAny_newObj_type
abbrev vE:=@PySem.wpAny_mono
abbrev vF:=@PySem.Heap.get?_update_self
abbrev vS:=@PySem.wpAny_field
abbrev vT:=@PySem.W.mg_none_of
abbrev uS:=@PySem.wpAny_call_entry
abbrev jI:=@PySem.W.mg_of
abbrev jS:=@List.mem_of_getElem?
abbrev zaa:=@True.intro
abbrev zab:=@Nat.le_refl
abbrev zac:=@List.getElem?_eq_getElem
abbrev zad:=@List.getElem?_append_right
abbrev zae:=@List.getElem?_append_left
abbrev zaf:=@decide_eq_false
abbrev zag:=@decide_eq_true
abbrev zah:=@of_decide_eq_true
abbrev zai:=@PySem.wpAny_callSpecial?_slot
abbrev zaj:=@List.getElem?_set_ne
abbrev zak:=@List.getElem?_set_self
abbrev zam:=@Int.toNat_natCast
abbrev zan:=@List.getElem?_map
abbrev zao:=@List.length_map
noncomputable section
local macro_rules|`(())=>`(by omega)
open PySem.W (Frag fnOf findIn keepIn nsIn codeIn isFn kitOne subIn exmOne)
set_option Elab.async false
set_option linter.all false
set_option maxRecDepth 100000
namespace L2
open PySem PySem.Spec PyProof.Rows
abbrev Key:=Sum Int Str
noncomputable def KD:Key->Value->Bool
 | .inl k,v=>Value.isInt k v
 | .inr x,v=>Value.isStrOf x v
def ane(w:World):Key->Int
 | .inl k=>hashInt k
 | .inr x=>hashStr w x
theorem eV:∀{k:Key} {v:Value},KD k v=true->(∃i t,k=Sum.inl i/\v=Value.int i t)\/(∃x t,k=Sum.inr x/\v=Value.str x t)
 | .inl i,v,h=>by
  obtain⟨t,e⟩:=Value.isInt_shape (k:=i) (v:=v) h
  exact .inl ⟨i,t,rfl,e⟩
 | .inr x,v,h=>by
  obtain⟨t,e⟩:=Value.isStrOf_shape (x:=x) (v:=v) h
  exact .inr ⟨x,t,rfl,e⟩
theorem Y4(i:Int)(t:Tok):KD (.inl i) (.int i t)=true:=by simp[KD,Value.isInt]
theorem Y0(x:Str)(t:Tok):KD (.inr x) (.str x t)=true:=by simp[KD,Value.isStrOf]
theorem ahi(a b:Int):decide ((Sum.inl a:Key)=Sum.inl b)=(a==b):=by
 by_cases e:a=b
 ·subst e;simp
 ·have h:¬(Sum.inl a:Key)=Sum.inl b:=λq=>e (Sum.inl.inj q)
  rw[zaf h]
  exact(beq_eq_false_iff_ne.mpr e).symm
theorem ahf(a b:Str):decide ((Sum.inr a:Key)=Sum.inr b)=decide (a=b):=by
 by_cases e:a=b
 ·subst e;simp
 ·have h:¬(Sum.inr a:Key)=Sum.inr b:=λq=>e (Sum.inr.inj q)
  rw[zaf h,zaf e]
theorem ahh(a:Int)(b:Str):decide ((Sum.inl a:Key)=Sum.inr b)=false:=zaf (λq=>nomatch q)
theorem ahg(a:Str)(b:Int):decide ((Sum.inr a:Key)=Sum.inl b)=false:=zaf (λq=>nomatch q)
def dz(prog:Program)(w:World):PySem.KeyKind prog w Key where
 is:=KD
 hash:=ane w
 inj:=λv a b ha hb=>by
  rcases eV ha with⟨i,t,rfl,rfl⟩ | ⟨x,t,rfl,rfl⟩
  ·rcases eV hb with⟨j,u,rfl,e⟩ | ⟨y,u,rfl,e⟩
   ·injection e with e1 _;rw[e1]
   ·exact nomatch e
  ·rcases eV hb with⟨j,u,rfl,e⟩ | ⟨y,u,rfl,e⟩
   ·exact nomatch e
   ·injection e with e1 _;rw[e1]
 byValue:=λk v h=>by
  rcases eV h with⟨i,t,rfl,rfl⟩ | ⟨x,t,rfl,rfl⟩<;>rfl
 pyHash:=λhv h=>by
  rcases eV hv with⟨i,t,rfl,rfl⟩ | ⟨x,t,rfl,rfl⟩
  ·exact wpAny_pyHash_int h
  ·exact wpAny_pyHash_str h
 eqBool:=λhu hv h=>by
  rcases eV hu with⟨i,t,rfl,rfl⟩ | ⟨x,t,rfl,rfl⟩
  ·rcases eV hv with⟨j,u,rfl,rfl⟩ | ⟨y,u,rfl,rfl⟩
   ·rw[ahi]at h;exact wpAny_eqBool_int h
   ·rw[ahh]at h;exact SeqAt.EqAt.int_str i t y u _ _ _ _ h
  ·rcases eV hv with⟨j,u,rfl,rfl⟩ | ⟨y,u,rfl,rfl⟩
   ·rw[ahg]at h;exact SeqAt.EqAt.str_int x t j u _ _ _ _ h
   ·rw[ahf]at h;exact wpAny_eqBool_str h
 «strs» := λk x t v h=>by
  rcases eV h with⟨i,u,rfl,e⟩ | ⟨y,u,rfl,e⟩
  ·exact nomatch e
  ·injection e with e1 _
   subst e1
   cases v<;>rfl
theorem Sy(prog:Program)(w:World)(i:Int)(t:Tok):(dz prog w).is (.inl i) (.int i t)=true:=Y4 i t
theorem Sx(prog:Program)(w:World)(x:Str)(t:Tok):(dz prog w).is (.inr x) (.str x t)=true:=Y0 x t
inductive V where
 | non | bl (b:Bool) | int (i:Int) | str (x:Str) | byt (b:Array UInt8) | flt (b:UInt64) | ref (a:Addr) | ty (n:String)
 deriving DecidableEq
def RelV:V->Value->Prop
 | .non,u=>u=Value.none
 | .bl b,u=>u=Value.bool b
 | .int i,u=>∃t,u=Value.int i t
 | .str x,u=>∃t,u=Value.str x t
 | .byt b,u=>∃t,u=Value.bytes b t
 | .flt b,u=>∃t,u=Value.float b t
 | .ref a,u=>u=Value.ref a
 | .ty n,u=>u=Value.type n
abbrev Vals:List V->List Value->Prop:=Paired RelV
theorem Vals.length(r:Vals xs us):xs.length=us.length:=Paired.length r
theorem Vals.get:∀{xs:List V} {us:List Value} {i:Nat} {x:V},Vals xs us->xs[i]? = some x->∃u,us[i]? = some u/\RelV x u
 | _,_,_,_,.nil,e=>by simp at e
 | _,_,0,_,.cons r _,e=>by simp at e;subst e;exact⟨_,rfl,r⟩
 | _,_,i+1,x,.cons _ t,e=>by
  obtain⟨u,h1,h2⟩:=Vals.get (i:=i) (x:=x) t (by simpa using e)
  exact⟨u,by simpa using h1,h2⟩
theorem Vals.set(r:RelV x u):∀{xs:List V} {us:List Value} (i:Nat),Vals xs us->Vals (xs.set i x) (us.set i u)
 | _,_,_,.nil=> .nil
 | _,_,0,.cons _ t=> .cons r t
 | _,_,i+1,.cons q t=> .cons q (Vals.set r i t)
theorem Vals.append:∀{xs ys:List V} {us ws:List Value},Vals xs us->Vals ys ws->Vals (xs++ys) (us++ws)
 | _,_,_,_,.nil,s=>s
 | _,_,_,_,.cons r t,s=> .cons r (Vals.append t s)
theorem Vals.take:∀{xs:List V} {us:List Value} (n:Nat),Vals xs us->Vals (xs.take n) (us.take n)
 | _,_,0,_=> .nil
 | _,_,_+1,.nil=> .nil
 | _,_,n+1,.cons r t=> .cons r (Vals.take n t)
theorem Vals.drop:∀{xs:List V} {us:List Value} (n:Nat),Vals xs us->Vals (xs.drop n) (us.drop n)
 | _,_,0,r=>r
 | _,_,_+1,.nil=> .nil
 | _,_,n+1,.cons _ t=>Vals.drop n t
def yI:Option V->Option Value->Prop
 | some v,some u=>RelV v u
 | none,none=>True
 | _,_=>False
def KV{κ:Type}:List (κ×V)->List (κ×Value)->Prop:=Paired λ(p:κ×V) (q:κ×Value)=>p.1=q.1/\RelV p.2 q.2
def kV:Key->V
 | .inl i=> .int i
 | .inr x=> .str x
inductive HO where
 | lst (xs:List V)
 | tup (xs:List V)
 | dK (kvs:List (Key×V)) | dT (kvs:List (List Key×V))
 | set (S:Int->Bool) (n:Nat)
 | ins (C dx:Addr) (fs:List (Str×V))
 | own (x:Addr)
 | xd (fs:List (Str×V))
 | met (f x:Addr)
 | DN (lo hi:Int)
 | lU (o:Obj) (u:HO)
 | tbl (ps:Array Value)
 | ext (φ:Heap->Prop)
abbrev Hp:=Addr->Option HO
def upd(H:Hp)(a:Addr)(o:HO):Hp:=λb=>if b=a then some o else H b
theorem bB:upd H a o a=some o:=by unfold upd;rw[if_pos rfl]
theorem aL(h:b≠a):upd H a o b=H b:=by unfold upd;rw[if_neg h]
theorem acY:upd (upd H a o) a u=upd H a u:=by
 funext b;unfold upd;split<;>rfl
theorem ajO{H:Hp}{a b:Addr}{o u:HO}(h:H a=some o)(h':H b=some u)(d:o≠u):a≠b:=by
 intro e;subst e;rw[h]at h';exact d (xI h')
theorem bJ{H:Hp}{a b:Addr}{o:HO}(h:H a=some o)(h':H b=none):a≠b:=by
 intro e;subst e;rw[h]at h';cases h'
section
variable(P:Program)(w:World)
def dD(H:Hp)(h:Heap)(a:Addr):HO->Prop
 | .lst xs=>xs.length<=sizeLine/\∃(its:List Value) (n:Nat),Vals xs its/\h.get? a=some {cls:= .type "list",data:= .seq its.toArray n}
 | .tup xs=>xs.length<=sizeLine/\∃its:List Value,Vals xs its/\IsTup h a its.toArray
 | .dK kvs=>kvs.length<=sizeLine/\(a==sysModules)=false/\∃vs,KV kvs vs/\h.DictOf (dz P w) a vs
 | .dT kvs=>kvs.length<=sizeLine/\(a==sysModules)=false/\∃xs:List (List Key×Addr×Value),
   Paired (λ(p:List Key×V) (q:List Key×Addr×Value)=>p.1=q.1/\H q.2.1=some (.tup (p.1.map kV))/\RelV p.2 q.2.2) kvs xs/\
   ∃o es ep,h.get? a=some o/\o.ExactDict/\o.data= .dict es ep/\es.toList=xs.map (entryOfKey (tupleKind (dz P w)))/\(xs.map (·.1)).Nodup
 | .set S n=>h.SetOf (intKind P w) a S n
 | .ins C dx fs=>H dx=some (.own a)/\fs.length<=1000/\dx≠a/\h.get? a=some (PySem.W.instObj C dx)/\
   ∃mA,h.Ns1 dx mA/\(∀f,yI (fs.lookup f) (mA f))/\PySem.Within mA (fs.map (·.1))
 | .own _=>∃o,h.get? a=some o
 | .xd fs=>∃mA,h.Ns1 a mA/\∀f,yI (fs.lookup f) (mA f)
 | .DN lo hi=>∃t u v,h.get? a=some {cls:= .type "range",data:= .fields #[.int lo t,.int hi u,.int 1 v]}
 | .lU o u=>h.get? a=some o/\dD H h a u
 | .tbl ps=>h.get? a=some {cls:= .none,data:= .fields ps}
 | .met f x=>h.get? a=some (PySem.W.methodObj (.ref f) (.ref x))
 | .ext φ=>φ h/\(∃o,h.get? a=some o)/\∀h1 h2:Heap,φ h1->(∀o,h1.get? a=some o->h2.get? a=some o)->φ h2
def tZ(H:Hp)(h:Heap):Prop:=∀a o,H a=some o->dD P w H h a o
end
section
variable{P:Program}{w:World}{H H':Hp}{h h':Heap}{a:Addr}{o:HO}
theorem dD.lt(x:dD P w H h a o):a<h.objs.size:=by
 cases o with
 | lst xs=>obtain⟨_,_,_,_,e⟩:=x;exact zS e
 | tup xs=>obtain⟨_,_,_,p⟩:=x;exact p.lt
 | dK kvs=>obtain⟨_,_,_,_,o,_,_,e,_⟩:=x;exact zS e
 | dT kvs=>obtain⟨_,_,_,_,o,_,_,e,_⟩:=x;exact zS e
 | set S n=>obtain⟨o,_,_,_,e,_⟩:=x;exact zS e
 | ins C dx fs=>obtain⟨_,_,_,e,_⟩:=x;exact zS e
 | own y=>obtain⟨_,e⟩:=x;exact zS e
 | xd fs=>obtain⟨_,⟨_,_,_,e,_⟩,_⟩:=x;exact zS e
 | DN lo hi=>obtain⟨_,_,_,e⟩:=x;exact zS e
 | lU ob u=>obtain⟨e,_⟩:=x;exact zS e
 | tbl ps=>exact zS (show h.get? a=some _ from x)
 | met f y=>exact zS (show h.get? a=some _ from x)
 | ext φ=>obtain⟨_,⟨_,e⟩,_⟩:=x;exact zS e
theorem Paired.ag6{α β:Type}{F G:α->β->Prop}:∀{l₁:List α} {l₂:List β},Paired F l₁ l₂->(∀a b,F a b->G a b)->Paired G l₁ l₂
 | _,_,.nil,_=> .nil
 | _,_,.cons r t,f=> .cons (f _ _ r) (Paired.ag6 t f)
theorem dD.stay(x:dD P w H h a o)(k:∀b u,(b=a\/H b=some (.own a))->h.get? b=some u->h'.get? b=some u)
  (ho:∀b,H b=some (.own a)->H' b=some (.own a)) (ht:∀b xs,H b=some (.tup xs)->H' b=some (.tup xs)):dD P w H' h' a o:=by
 induction o with
 | lst xs=>obtain⟨z,its,n,r,e⟩:=x;exact⟨z,its,n,r,k _ _ (.inl rfl) e⟩
 | tup xs=>obtain⟨z,its,r,ob,e,c⟩:=x;exact⟨z,its,r,ob,k _ _ (.inl rfl) e,c⟩
 | dK kvs=>obtain⟨z,y,vs,r,ob,es,ep,e,c⟩:=x;exact⟨z,y,vs,r,ob,es,ep,k _ _ (.inl rfl) e,c⟩
 | dT kvs=>
  obtain⟨z,y,xs,r,ob,es,ep,e,c⟩:=x
  exact⟨z,y,xs,Paired.ag6 r λp q z=>⟨z.1,ht _ _ z.2.1,z.2.2⟩,ob,es,ep,k _ _ (.inl rfl) e,c⟩
 | set S n=>obtain⟨ob,es,ep,t,e,c⟩:=x;exact⟨ob,es,ep,t,k _ _ (.inl rfl) e,c⟩
 | ins C dx fs=>
  obtain⟨d,z,ne,e,mA,⟨od,es,ep,e2,c⟩,r⟩:=x
  exact⟨ho _ d,z,ne,k _ _ (.inl rfl) e,mA,⟨od,es,ep,k _ _ (.inr d) e2,c⟩,r⟩
 | own y=>obtain⟨ob,e⟩:=x;exact⟨ob,k _ _ (.inl rfl) e⟩
 | xd fs=>obtain⟨mA,⟨od,es,ep,e,c⟩,r⟩:=x;exact⟨mA,⟨od,es,ep,k _ _ (.inl rfl) e,c⟩,r⟩
 | DN lo hi=>obtain⟨t,u,v,e⟩:=x;exact⟨t,u,v,k _ _ (.inl rfl) e⟩
 | lU ob u ih=>obtain⟨e,q⟩:=x;exact⟨k _ _ (.inl rfl) e,ih q⟩
 | tbl ps=>
  have e:h.get? a=some {cls:= .none,data:= .fields ps}:=x
  show h'.get? a=some {cls:= .none,data:= .fields ps}
  exact k a _ (.inl rfl) e
 | met f y=>
  have e:h.get? a=some (PySem.W.methodObj (.ref f) (.ref y)):=x
  show h'.get? a=some (PySem.W.methodObj (.ref f) (.ref y))
  exact k a _ (.inl rfl) e
 | ext φ=>obtain⟨p,⟨o,e⟩,st⟩:=x;exact⟨st _ _ p λo q=>k _ _ (.inl rfl) q,⟨o,k _ _ (.inl rfl) e⟩,st⟩
theorem tZ.lt(x:tZ P w H h)(e:H a=some o):a<h.objs.size:=(x a o e).lt
theorem tZ.fresh(x:tZ P w H h)(e:h.objs.size<=a):H a=none:=by
 cases q:H a with
 | none=>rfl
 | some u=>exact absurd (yA (x.lt q) e) (wS _)
theorem tZ.kept(x:tZ P w H h)(k:∀b u,h.get? b=some u->h'.get? b=some u):tZ P w H h':=λa o e=>
 (x a o e).stay (λb u _ q=>k b u q) (λ_ q=>q) λ_ _ q=>q
theorem tZ.laid(x:tZ P w H h)(k:∀b u,h.get? b=some u->h'.get? b=some u)(hp:h.objs.size<=a)(new:dD P w (upd H a o) h' a o):tZ P w (upd H a o) h':=λb u e=>by
 have hn:=x.fresh hp
 by_cases hb:b=a
 ·subst hb;rw[bB]at e;cases e;exact new
 ·rw[aL hb]at e
  exact(x b u e).stay (λc v _ q=>k c v q) (λc q=>by rw[aL (bJ q hn)];exact q) λc xs q=>by rw[aL (bJ q hn)];exact q
end
def Rd(H:Hp)(a:Addr)(u:HO):Prop:=H a=some u\/∃o,H a=some (.lU o u)
theorem Rd.ok(r:Rd H a u)(x:tZ P w H h):dD P w H h a u:=by
 rcases r with r | ⟨o,r⟩
 ·exact x a u r
 ·obtain⟨_,q⟩:=x a _ r
  exact q
def Mut:Option HO->Prop
 | some (.lst _)=>True
 | some (.dK _)=>True
 | some (.dT _)=>True
 | some (.set _ _)=>True
 | some (.ins _ _ _)=>True
 | some (.ext _)=>True
 | _=>False
section
variable{P:Program}{w:World}{H:Hp}{h h':Heap}{x e:Addr}{o':HO}
theorem tZ.write(ok:tZ P w H h)(mu:Mut (H x))(he:e=x\/H e=some (.own x))(k:∀b u,b≠e->h.get? b=some u->h'.get? b=some u)(heo:∃u,h'.get? e=some u)
  (new:dD P w (upd H x o') h' x o'):tZ P w (upd H x o') h':=λb u q=>by
 have ajK:∀c y,H c=some (.own y)->c≠x:=λc y r z=>by subst z;rw[r]at mu;exact mu
 have amU:∀c xs,H c=some (.tup xs)->c≠x:=λc xs r z=>by subst z;rw[r]at mu;exact mu
 by_cases hb:b=x
 ·subst hb;rw[bB]at q;cases q;exact new
 ·rw[aL hb]at q
  by_cases hbe:b=e
  ·have q':H b=some (.own x):=by
    rcases he with z | z
    ·exact absurd (hbe.trans z) hb
    ·rw[hbe];exact z
   rw[q]at q';cases q'
   obtain⟨v,hv⟩:=heo
   exact⟨v,by rw[hbe];exact hv⟩
  ·refine(ok b u q).stay (λc v hc r=>k c v ?_ r) (λc r=>by rw[aL (ajK c b r)];exact r) λc xs r=>by rw[aL (amU c xs r)];exact r
   rcases hc with rfl | hc
   ·exact hbe
   ·rintro rfl
    rcases he with z | z
    ·exact ajK c b hc z
    ·rw[hc]at z;cases z;exact hb rfl
end
structure Un(fs ex:List Addr)(H H':Hp)(h h':Heap):Prop where
 keep:∀b o,h.get? b=some o->H b=none->b∉fs->b∉ex->h'.get? b=some o
 slot:∀b o,h.get? b=some o->H b=none->b∈fs->b∉ex->∃sl,h'.get? b=some {o with slots:=sl}
 free:∀b o,h.get? b=some o->H b=none->b∉ex->H' b=none
 there:∀b o,h.get? b=some o->b∉ex->∃o',h'.get? b=some o'
 tups:∀b xs,H b=some (.tup xs)->H' b=some (.tup xs)
 tY:∀b o u,H b=some (.lU o u)->H' b=some (.lU o u)
 vp:∀b ps,H b=some (.tbl ps)->∃more,H' b=some (.tbl (ps++more))
section
variable{fs fs' ex ex':List Addr}{H H1 H2:Hp}{h h1 h2 h':Heap}{a x e:Addr}{o:HO}
theorem Un.any(u:Un fs ex H H1 h h1)(q:h.get? b=some ob)(n:H b=none)(hx:b∉ex):∃sl,h1.get? b=some {ob with slots:=sl}:=by
 by_cases hb:b∈fs
 ·exact u.slot b ob q n hb hx
 ·exact⟨ob.slots,u.keep b ob q n hb hx⟩
theorem Un.trans(a:Un fs ex H H1 h h1)(b:Un fs ex H1 H2 h1 h2):Un fs ex H H2 h h2 where
 keep:=λc ob q n hc hx=>b.keep c ob (a.keep c ob q n hc hx) (a.free c ob q n hx) hc hx
 slot:=λc ob q n hc hx=>by
  obtain⟨sl,e1⟩:=a.slot c ob q n hc hx
  obtain⟨sl',e2⟩:=b.slot c _ e1 (a.free c ob q n hx) hc hx
  exact⟨sl',e2⟩
 free:=λc ob q n hx=>by
  obtain⟨o',e1⟩:=a.there c ob q hx
  exact b.free c o' e1 (a.free c ob q n hx) hx
 there:=λc ob q hx=>by
  obtain⟨o',e1⟩:=a.there c ob q hx
  exact b.there c o' e1 hx
 tups:=λc xs q=>b.tups c xs (a.tups c xs q)
 tY:=λc ob xs q=>b.tY c ob xs (a.tY c ob xs q)
 vp:=λc ps q=>by
  obtain⟨m1,e1⟩:=a.vp c ps q
  obtain⟨m2,e2⟩:=b.vp c _ e1
  exact⟨m1++m2,by rw[e2,Array.append_assoc]⟩
theorem Un.kept(k:∀b u,h.get? b=some u->h'.get? b=some u):Un fs ex H H h h':=
 ⟨λb ob q _ _ _=>k b ob q,λb ob q _ _ _=>⟨ob.slots,k b ob q⟩,λ_ _ _ n _=>n,λb ob q _=>⟨ob,k b ob q⟩,λ_ _ q=>q,λ_ _ _ q=>q,λ_ ps q=>⟨#[],by rw[q];simp⟩⟩
theorem Un.refl:Un fs ex H H h h:=Un.kept λ_ _ q=>q
theorem Un.laid(k:∀b u,h.get? b=some u->h'.get? b=some u)(hp:h.objs.size<=a)(hn:H a=none):Un fs ex H (upd H a o) h h' where
 keep:=λb u q _ _ _=>k b u q
 slot:=λb u q _ _ _=>⟨u.slots,k b u q⟩
 free:=λb u q n _=>by rw[aL (xD (yA (zS q) hp))];exact n
 there:=λb u q _=>⟨u,k b u q⟩
 tups:=λb xs q=>by rw[aL (bJ q hn)];exact q
 tY:=λb u xs q=>by rw[aL (bJ q hn)];exact q
 vp:=λb ps q=>⟨#[],by rw[aL (bJ q hn),q];simp⟩
theorem Un.write(mu:Mut (H x))(he:e=x\/H e=some (.own x))(k:∀b u,b≠e->h.get? b=some u->h'.get? b=some u)(heo:∃u,h'.get? e=some u):Un fs ex H (upd H x o) h h':=by
 have hx:∀b,H b=none->b≠x:=λb n z=>by subst z;rw[n]at mu;exact mu
 have hb:∀b,H b=none->b≠e:=λb n z=>by
  subst z
  rcases he with r | r
  ·exact hx b n r
  ·rw[n]at r;cases r
 have hm:∀b u,H b=some u->¬Mut (some u)->b≠x:=λb u q nm z=>by subst z;rw[q]at mu;exact nm mu
 refine⟨λb u q n _ _=>k b u (hb b n) q,λb u q n _ _=>⟨u.slots,k b u (hb b n) q⟩,λb u q n _=>by rw[aL (hx b n)];exact n,λb u q _=> ?_,
  λb xs q=>by rw[aL (hm b _ q λz=>z)];exact q,λb u xs q=>by rw[aL (hm b _ q λz=>z)];exact q,λb ps q=>⟨#[],by rw[aL (hm b _ q λz=>z),q];simp⟩⟩
 by_cases hbe:b=e
 ·subst hbe;exact heo
 ·exact⟨u,k b u hbe q⟩
end
def trk(h:Heap)(H:Hp):List Addr:=(List.range h.objs.size).filter λa=>(H a).isSome
def Qp(h:Heap)(H:Hp):Heap:=PySem.W.hideAll h (trk h H)
theorem Y8(h:Heap)(H:Hp):(Qp h H).objs.size=h.objs.size:=PySem.W.hideAll_size _ _
theorem abR(e:h.get? b=some o)(n:H b=none):(Qp h H).get? b=some o:=
 PySem.W.hideAll_get _ e λhm=>by
  have q:(H b).isSome=true:=(List.mem_filter.mp hm).2
  rw[n]at q;simp at q
theorem ad7(e:(Qp h H).get? b=some o):h.get? b=some o/\H b=none:=by
 have e':h.get? b=some o:=PySem.W.of_hideAll (trk h H) e
 refine⟨e',?_⟩
 cases q:H b with
 | none=>rfl
 | some x=>
  have hm:b∈trk h H:=List.mem_filter.mpr ⟨List.mem_range.mpr (zS e'),by simp[q]⟩
  have z:(Qp h H).get? b=none:=PySem.W.hideAll_none (trk h H) hm
  rw[z]at e;cases e
def aeU(g h:Heap)(L:Addr):List (Addr×Obj):=(List.range h.objs.size).filterMap λa=>if a=L\/(g.get? a).isSome=true then none else(h.get? a).map λo=>(a,o)
def rest(g h:Heap)(L d:Addr):List (Addr×Obj):=(aeU g h L).filter λp=>decide (p.1≠d)
structure Mod(K:Frag)(mg:Str->Option Value)(base:Heap):Prop where
 kin:K.In base
 glob:base.Ns mainGlobals mg
 blt:∃mb,base.Ns builtinsNs mb/\∀x:Str,x≠ "__name__" -> mb x=bootBuiltins x
 nolimit:base.NoLimit
structure Cx where
 prog:Program
 w:World
 K:Frag
 mg:Str->Option Value
 base:Heap
 A:Around
 N:List Str
 s₀:Shared
 H₀:Hp
 env:Env
 outer:List Env
 stack:List Env
 ex:List Addr
 fn:Str->Bool
 calm:Bool
 pn:List (Addr×Obj)
 xe:Value->Shared->Prop
def frs(l:List Env):List Addr:=l.filterMap (·.frame)
abbrev Cx.fs(X:Cx):List Addr:=frs X.outer
def Vis(sc:Scope)(x:Str):Prop:=sc.names.lookup x=some .local\/sc.names.lookup x=some .cell\/sc.names.lookup x=some .free
def Loc(sc:Scope)(x:Str):Prop:=sc.names.lookup x=some .local\/sc.names.lookup x=some .cell
def Look(env:Env)(h:Heap)(m:Str->Option Value)(x:Str)(u:Value):Prop:=
 (env.kindOf x=some .local/\m x=some u)\/((env.kindOf x=some .cell\/env.kindOf x=some .free)/\∃c,env.cells.lookup x=some c/\h.IsCell c (some u))
structure Cx.Ok(X:Cx):Prop where
 mod:Mod X.K X.mg X.base
 kind:X.env.scope.kind= .function
 glob:X.env.globals=mainGlobals
 blt:X.env.builtins=builtinsNs
 above:X.s₀.heap.objs.size<=X.env.locals
 inj:∀x y c,X.env.cells.lookup x=some c->X.env.cells.lookup y=some c->x=y
 has:∀x,(X.env.kindOf x=some .cell\/X.env.kindOf x=some .free)->∃c,X.env.cells.lookup x=some c
 cab:∀x c,X.fn x=true->X.env.cells.lookup x=some c->X.s₀.heap.objs.size<=c
 hd:X.calm=true->X.A.handled=none
 frames:X.A.frames=some X.stack
 stk:X.stack=X.outer\/(X.stack=X.env::X.outer/\X.env.frame=some X.env.locals)
 exf:∀b∈X.ex,b≠X.env.locals/\∀x c,X.env.cells.lookup x=some c->c≠b
 bs:∀b o,X.base.get? b=some o->X.s₀.heap.get? b=some o/\X.H₀ b=none
 XD:X.base.objs.size<=X.s₀.heap.objs.size
 Ss:∀b o,X.base.get? b=some o->b∉X.ex
 Tu:∀b∈X.ex,b∉X.fs
 Al:X.s₀.heap.FunFrames X.base X.outer
 frf:∀b∈X.fs,X.H₀ b=none
structure Inv(X:Cx)(pins:List (Addr×Obj))(σ:List (Option V))(H:Hp)(s:Shared):Prop where
 ok:X.Ok
 os:s.os=X.s₀.os
 bare:AllBare s.gens
 base:Un X.fs X.ex X.H₀ H X.s₀.heap s.heap
 loc:∃m,s.heap.Ns X.env.locals m/\∀(i:Nat) (x:Str) (v:V),X.N[i]? = some x->σ[i]? = some (some v)->Vis X.env.scope x->∃u,RelV v u/\Look X.env s.heap m x u
 cell:∀x c,X.env.cells.lookup x=some c->∃v,s.heap.IsCell c v
 free:H X.env.locals=none
 jZ:∀x c,X.env.cells.lookup x=some c->H c=none
 pin:∀p∈X.pn++pins,s.heap.get? p.1=some p.2/\H p.1=none/\p.1≠X.env.locals/\p.1∉X.fs/\∀v,p.2.data≠ .cell v
 hok:tZ X.prog X.w H s.heap
 len:σ.length=X.N.length
section
variable{X:Cx}{pins:List (Addr×Obj)}{σ:List (Option V)}{H H':Hp}{s:Shared}{h':Heap}
theorem Cx.Ok.amW(ok:X.Ok)(e:X.base.get? b=some o):b∉X.fs:=λhb=>by
 have:=(ok.Al.mem hb).1
 rw[e]at this;cases this
theorem Inv.bs(I:Inv X pins σ H s):∀b o,X.base.get? b=some o->s.heap.get? b=some o/\H b=none:=λb o e=>
 ⟨I.base.keep b o (I.ok.bs b o e).1 (I.ok.bs b o e).2 (I.ok.amW e) (I.ok.Ss b o e),I.base.free b o (I.ok.bs b o e).1 (I.ok.bs b o e).2 (I.ok.Ss b o e)⟩
theorem Inv.bk(I:Inv X pins σ H s):∀b o,X.base.get? b=some o->s.heap.get? b=some o:=λb o e=>(I.bs b o e).1
theorem Inv.mod(I:Inv X pins σ H s):Mod X.K X.mg X.base:=I.ok.mod
theorem Inv.Hr(I:Inv X pins σ H s):X.K.In s.heap:=I.ok.mod.kin.keeps I.bk
theorem Inv.nolimit(I:Inv X pins σ H s):s.heap.NoLimit:=I.ok.mod.nolimit.keeps I.bk
theorem Inv.fr(I:Inv X pins σ H s):∃m,Fr X.base X.env.locals s.heap m:=
 let⟨m,hn,_⟩:=I.loc
 ⟨m,hn,I.bk,yY I.ok.XD I.ok.above⟩
theorem Inv.lt(I:Inv X pins σ H s):X.env.locals<s.heap.objs.size:=let⟨_,hn,_⟩:=I.loc;hn.lt
theorem Inv.sz(I:Inv X pins σ H s):X.s₀.heap.objs.size<=s.heap.objs.size:=yY I.ok.above (Nat.le_of_lt I.lt)
theorem Inv.amV(I:Inv X pins σ H s)(h:s.heap.objs.size<=a):a∉X.fs:=λhb=>by
 obtain⟨_,o,ho,_⟩:=I.ok.Al.mem hb
 exact absurd (yA (zS ho) (yY I.sz h)) (wS _)
theorem Inv.cne(I:Inv X pins σ H s):∀x c,X.env.cells.lookup x=some c->c≠X.env.locals:=λx c e z=>by
 obtain⟨v,o,ho,hd⟩:=I.cell x c e
 obtain⟨m,⟨o',es,ep,ho',hd',_⟩,_⟩:=I.loc
 rw[z,ho']at ho;cases ho;rw[hd']at hd;cases hd
theorem Inv.Al(I:Inv X pins σ H s):s.heap.FunFrames X.base X.outer:=by
 have all:∀(l:List Env),(∀b∈frs l,b∈X.fs)->X.s₀.heap.FunFrames X.base l->s.heap.FunFrames X.base l:=by
  intro l
  induction l with
  | nil=>intro _ _;trivial
  | cons env r ih=>
   intro hs hl
   obtain⟨hk,⟨L,o,hf,hn,ho,hd⟩,hr⟩:=hl
   have hL:L∈X.fs:=hs L (by unfold frs;rw[List.filterMap_cons,hf];exact xB)
   obtain⟨sl,e⟩:=I.base.slot L o ho (I.ok.frf L hL) hL λz=>I.ok.Tu L z hL
   exact⟨hk,⟨L,_,hf,hn,e,hd⟩,ih (λb hb=>hs b (by unfold frs;rw[List.filterMap_cons,hf];exact yT _ hb)) hr⟩
 exact all X.outer (λ_ hb=>hb) I.ok.Al
theorem Inv.stack(I:Inv X pins σ H s):s.heap.FunFrames X.base X.stack:=by
 rcases I.ok.stk with e | ⟨e,hf⟩
 ·rw[e];exact I.Al
 ·rw[e]
  obtain⟨m,hn,_⟩:=I.loc
  refine .cons (by rw[I.ok.kind];decide) hf hn ?_ I.Al
  exact Heap.get?_none_of_le (yY I.ok.XD I.ok.above)
theorem Inv.Ow(I:Inv X pins σ H s):∀b∈frs X.stack,b∈X.env.locals::X.fs:=λb hb=>by
 rcases I.ok.stk with e | ⟨e,hf⟩
 ·rw[e]at hb;exact yT _ hb
 ·rw[e]at hb
  unfold frs at hb
  rw[List.filterMap_cons,hf]at hb
  exact hb
theorem Inv.Jc(I:Inv X pins σ H s):∀b∈frs X.stack,H b=none:=λb hb=>by
 rcases List.mem_cons.mp (I.Ow b hb)with e | hb
 ·rw[e];exact I.free
 ·obtain⟨_,o,ho,_⟩:=I.ok.Al.mem hb
  exact I.base.free b o ho (I.ok.frf b hb) λz=>I.ok.Tu b z hb
theorem Inv.step{g':Array GenState}{t':Nat}{ch:List Addr}(I:Inv X pins σ H s)
  (hch:∀b∈ch,(b∈X.ex\/X.s₀.heap.objs.size<=b)/\b≠X.env.locals/\(∀x c,X.env.cells.lookup x=some c->c≠b)/\∀p∈X.pn++pins,p.1≠b)
  (keep:∀b o,b≠X.env.locals->b∉X.fs->b∉ch->s.heap.get? b=some o->H b=none->h'.get? b=some o)
  (slot:∀b o,b≠X.env.locals->b∈X.fs->b∉ch->s.heap.get? b=some o->H b=none->∃sl,h'.get? b=some {o with slots:=sl}) (free:∀b o,b∉ch->s.heap.get? b=some o->H b=none->H' b=none)
  (there:∀b o,b∉ch->s.heap.get? b=some o->∃o',h'.get? b=some o')
  (tups:∀b xs,H b=some (.tup xs)->H' b=some (.tup xs)) (tY:∀b o u,H b=some (.lU o u)->H' b=some (.lU o u)) (vp:∀b ps,H b=some (.tbl ps)->∃more,H' b=some (.tbl (ps++more)))
  (ns:∀m,s.heap.Ns X.env.locals m->h'.Ns X.env.locals m) (hok:tZ X.prog X.w H' h') (hg:AllBare g'):
  Inv X pins σ H' {s with heap:=h',gens:=g',drawn:=d',toks:=t'}:=by
 have neL:∀b o,X.s₀.heap.get? b=some o->b≠X.env.locals:=λb o e=>xD (yA (zS e) I.ok.above)
 have neC:∀b o,X.s₀.heap.get? b=some o->b∉X.ex->b∉ch:=λb o e hx hb=>by
  rcases(hch b hb).1 with z | z
  ·exact hx z
  ·exact absurd (yA (zS e) z) (wS _)
 have cellK:∀x c,X.env.cells.lookup x=some c->∀v,s.heap.IsCell c v->h'.IsCell c v:=λx c e v ⟨o,ho,hd⟩=>by
  have nch:c∉ch:=λz=>(hch c z).2.2.1 x c e rfl
  by_cases hc:c∈X.fs
  ·obtain⟨sl,q⟩:=slot c o (I.cne x c e) hc nch ho (I.jZ x c e)
   exact⟨_,q,hd⟩
  ·exact⟨o,keep c o (I.cne x c e) hc nch ho (I.jZ x c e),hd⟩
 refine⟨I.ok,I.os,hg,⟨λb o e n hb hx=> ?_,λb o e n hb hx=> ?_,λb o e n hx=> ?_,λb o e hx=> ?_,λb xs e=>tups b xs (I.base.tups b xs e),λb o xs e=>tY b o xs (I.base.tY b o xs e),λb ps e=> ?_⟩,?_,λx c e=> ?_,?_,λx c e=> ?_,λp hp=> ?_,hok,I.len⟩
 ·exact keep b o (neL b o e) hb (neC b o e hx) (I.base.keep b o e n hb hx) (I.base.free b o e n hx)
 ·obtain⟨sl,e1⟩:=I.base.slot b o e n hb hx
  obtain⟨sl',e2⟩:=slot b _ (neL b o e) hb (neC b o e hx) e1 (I.base.free b o e n hx)
  exact⟨sl',e2⟩
 ·obtain⟨o',e1⟩:=I.base.there b o e hx
  exact free b o' (neC b o e hx) e1 (I.base.free b o e n hx)
 ·obtain⟨o',e1⟩:=I.base.there b o e hx
  exact there b o' (neC b o e hx) e1
 ·obtain⟨m1,e1⟩:=I.base.vp b ps e
  obtain⟨m2,e2⟩:=vp b _ e1
  exact⟨m1++m2,by rw[e2,Array.append_assoc]⟩
 ·obtain⟨m,hn,hl⟩:=I.loc
  refine⟨m,ns m hn,λi x v e1 e2 e3=> ?_⟩
  obtain⟨u,r,l⟩:=hl i x v e1 e2 e3
  refine⟨u,r,?_⟩
  rcases l with l | ⟨k,c,e,z⟩
  ·exact .inl l
  ·exact .inr ⟨k,c,e,cellK x c e _ z⟩
 ·obtain⟨v,z⟩:=I.cell x c e
  exact⟨v,cellK x c e v z⟩
 ·obtain⟨m,⟨o,_,_,ho,_⟩,_⟩:=I.loc
  exact free _ o (λz=>(hch _ z).2.1 rfl) ho I.free
 ·obtain⟨v,o,ho,hd⟩:=I.cell x c e
  exact free c o (λz=>(hch c z).2.2.1 x c e rfl) ho (I.jZ x c e)
 ·obtain⟨e,n,ne,nf,d⟩:=I.pin p hp
  have nch:p.1∉ch:=λz=>(hch p.1 z).2.2.2 p hp rfl
  exact⟨keep p.1 p.2 ne nf nch e n,free p.1 p.2 nch e n,ne,nf,d⟩
theorem Inv.un(I:Inv X pins σ H s)(u:Un X.fs [] H H' s.heap h')(hok:tZ X.prog X.w H' h'):Inv X pins σ H' {s with heap:=h',toks:=t'}:=by
 obtain⟨m,⟨o,es,ep,ho,r⟩,_⟩:=id I.loc
 obtain⟨sl,hL⟩:=u.any ho I.free (by simp)
 exact I.step (g':=s.gens) (d':=s.drawn) (ch:=[]) (λ_ z=>nomatch z) (λb o _ hb _ e n=>u.keep b o e n hb (by simp)) (λb o _ hb _ e n=>u.slot b o e n hb (by simp)) (λb o _ e n=>u.free b o e n (by simp)) (λb o _ e=>u.there b o e (by simp)) u.tups u.tY u.vp (λm' hm=>by
  obtain⟨o',es',ep',ho',r'⟩:=hm
  rw[ho]at ho';cases ho'
  exact⟨_,es',ep',hL,r'⟩) hok I.bare
theorem Inv.call(I:Inv X pins σ H s)(u:Un (frs X.stack) ch H H' s.heap h')(hok:tZ X.prog X.w H' h')(hg:AllBare g')
  (hch:∀b∈ch,(b∈X.ex\/X.s₀.heap.objs.size<=b)/\b≠X.env.locals/\(∀x c,X.env.cells.lookup x=some c->c≠b)/\∀p∈X.pn++pins,p.1≠b):
  Inv X pins σ H' {s with heap:=h',gens:=g',drawn:=d',toks:=t'}:=by
 obtain⟨m,⟨o,es,ep,ho,r⟩,_⟩:=id I.loc
 obtain⟨sl,hL⟩:=u.any ho I.free λz=>(hch _ z).2.1 rfl
 exact I.step (ch:=ch) hch (λb o hL hb hc e n=>u.keep b o e n (λz=>(List.mem_cons.mp (I.Ow b z)).elim hL hb) hc) (λb o _ _ hc e n=>u.any e n hc) (λb o hc e n=>u.free b o e n hc) (λb o hc e=>u.there b o e hc) u.tups u.tY u.vp (λm' hm=>by
  obtain⟨o',es',ep',ho',r'⟩:=hm
  rw[ho]at ho';cases ho'
  exact⟨_,es',ep',hL,r'⟩) hok hg
theorem Inv.turned(I:Inv X pins σ H s)(k:∀b o,b≠it->s.heap.get? b=some o->h'.get? b=some o)(hn:H it=none)(hL:it≠X.env.locals)
  (h1:it∈X.ex\/X.s₀.heap.objs.size<=it) (h2:∀x c,X.env.cells.lookup x=some c->c≠it) (h3:∀p∈X.pn++pins,p.1≠it):Inv X pins σ H {s with heap:=h',toks:=t'}:=by
 have nit:∀b u,H b=some u->b≠it:=λb u e z=>by rw[z,hn]at e;cases e
 refine I.step (g':=s.gens) (d':=s.drawn) (ch:=[it]) (λb hb=> ?_) (λb o _ _ hc e _=>k b o (λz=>hc (by simp[z])) e) (λb o _ _ hc e _=>⟨o.slots,k b o (λz=>hc (by simp[z])) e⟩) (λ_ _ _ _ n=>n)
  (λb o hc e=>⟨o,k b o (λz=>hc (by simp[z])) e⟩) (λ_ _ e=>e) (λ_ _ _ e=>e) (λb ps e=>⟨#[],by rw[e];simp⟩) (λm hm=> ?_) (λb u e=> ?_) I.bare
 ·have e:b=it:=by simpa using hb
  subst e
  exact⟨h1,hL,h2,h3⟩
 ·obtain⟨o,es,ep,ho,r⟩:=hm
  exact⟨o,es,ep,k _ o (Ne.symm hL) ho,r⟩
 ·refine(I.hok b u e).stay (λc v hc q=>k c v ?_ q) (λ_ q=>q) λ_ _ q=>q
  rcases hc with z | z
  ·rw[z];exact nit b u e
  ·exact nit c _ z
theorem Inv.tok(I:Inv X pins σ H s)(t:Nat):Inv X pins σ H {s with toks:=t}:=I.un (h':=s.heap) (t':=t) Un.refl I.hok
theorem Inv.kept(I:Inv X pins σ H s)(k:∀b u,s.heap.get? b=some u->h'.get? b=some u):Inv X pins σ H {s with heap:=h',toks:=t'}:=I.un (Un.kept k) (I.hok.kept k)
theorem Inv.laid(I:Inv X pins σ H s)(k:∀b u,s.heap.get? b=some u->h'.get? b=some u)(hp:s.heap.objs.size<=a)(new:dD X.prog X.w (upd H a o) h' a o):
  Inv X pins σ (upd H a o) {s with heap:=h',toks:=t'}:=I.un (Un.laid k hp (I.hok.fresh hp)) (I.hok.laid k hp new)
theorem Inv.write(I:Inv X pins σ H s)(mu:Mut (H x))(he:e=x\/H e=some (.own x))(k:∀b u,b≠e->s.heap.get? b=some u->h'.get? b=some u)(heo:∃u,h'.get? e=some u)
  (new:dD X.prog X.w (upd H x o) h' x o):Inv X pins σ (upd H x o) {s with heap:=h',toks:=t'}:=I.un (Un.write mu he k heo) (I.hok.write mu he k heo new)
theorem Inv.weak(I:Inv X pins σ H s)(hl:σ'.length=σ.length)(w:∀(i:Nat) v,σ'[i]? = some (some v)->σ[i]? = some (some v)):Inv X pins σ' H s:=
 ⟨I.ok,I.os,I.bare,I.base,let⟨m,hn,hl'⟩:=I.loc;⟨m,hn,λi x v e1 e2 e3=>hl' i x v e1 (w i v e2) e3⟩,I.cell,I.free,I.jZ,I.pin,I.hok,hl.trans I.len⟩
theorem Inv.wQ(I:Inv X pins σ H s)(h:∀p∈zE,s.heap.get? p.1=some p.2/\H p.1=none/\p.1≠X.env.locals/\p.1∉X.fs/\∀v,p.2.data≠ .cell v):Inv X zE σ H s:=
 ⟨I.ok,I.os,I.bare,I.base,I.loc,I.cell,I.free,I.jZ,λp hp=>(List.mem_append.mp hp).elim (λz=>I.pin p (List.mem_append_left _ z)) (h p),I.hok,I.len⟩
theorem Su{N:List Str}(hN:N.Nodup){i j:Nat}{x:Str}(a:N[i]? = some x)(b:N[j]? = some x):i=j:=by
 obtain⟨h1,e1⟩:=List.getElem?_eq_some_iff.mp a
 obtain⟨h2,e2⟩:=List.getElem?_eq_some_iff.mp b
 exact(List.getElem_inj hN).mp (e1.trans e2.symm)
theorem M9{E:Value->Shared->Prop}{Q:Unit->Shared->Prop}(I:Inv X pins σ H s)(hN:X.N.Nodup)(hi:X.N[i]? = some x)(hx:Loc X.env.scope x)(r:RelV v u)
  (h:∀s',Inv X pins (σ.set i (some v)) H s'->(∃a,Heap.SameBut a s.heap s'.heap/\(a=X.env.locals\/X.env.cells.lookup x=some a))->Q .unit s') (hf:X.fn x=true\/X.env.scope.names.lookup x=some .local:=by first | exact .inl rfl | exact .inr rfl | assumption):wpAny M A (storeName X.env x u) Q E s:=by
 obtain⟨m,hn,hl⟩:=id I.loc
 have hcls:(X.env.scope.kind== .class||(X.env.scope.kind== .module&&X.env.locals != X.env.globals))=false:=by rw[I.ok.kind];rfl
 have akg:i<σ.length:=by rw[I.len];exact(List.getElem?_eq_some_iff.mp hi).1
 have cne:=I.cne
 have tracked:∀{a:Addr} {h':Heap},(∃o,s.heap.get? a=some o/\H a=none)->Heap.SameBut a s.heap h'->tZ X.prog X.w H h':=λ{a h'} ha hs b ob e=>by
  obtain⟨_,_,hfree⟩:=ha
  refine(I.hok b ob e).stay (λc w' hc q=>(hs.2 c ?_).trans q) (λ_ q=>q) λ_ _ q=>q
  rintro rfl
  rcases hc with rfl | hc
  ·rw[hfree]at e;cases e
  ·rw[hfree]at hc;cases hc
 rcases hx with hk | hk
 ·refine wpAny_storeName_local hk hn (λh' hn' hs=> ?_) hcls
  obtain⟨oL,_,_,hoL,_⟩:=id hn
  refine h _ ⟨I.ok,I.os,I.bare,⟨λb o e n hb hx=> ?_,λb o e n hb hx=> ?_,I.base.free,λb o e hx=> ?_,I.base.tups,I.base.tY,I.base.vp⟩,⟨_,hn',λj y v' e1 e2 e3=> ?_⟩,λy c e=> ?_,I.free,I.jZ,λp hp=> ?_,tracked ⟨oL,hoL,I.free⟩ hs,by simpa using I.len⟩ ⟨_,hs,.inl rfl⟩
  ·exact(hs.2 b (xD (yA (zS e) I.ok.above))).trans (I.base.keep b o e n hb hx)
  ·obtain⟨sl,e1⟩:=I.base.slot b o e n hb hx
   exact⟨sl,(hs.2 b (xD (yA (zS e) I.ok.above))).trans e1⟩
  ·obtain⟨o',e1⟩:=I.base.there b o e hx
   exact⟨o',(hs.2 b (xD (yA (zS e) I.ok.above))).trans e1⟩
  ·by_cases hj:j=i
   ·subst hj
    rw[hi]at e1;cases e1
    rw[zak akg]at e2
    cases e2
    exact⟨u,r,.inl ⟨hk,by simp⟩⟩
   ·rw[zaj (Ne.symm hj)]at e2
    obtain⟨u',r',q⟩:=hl j y v' e1 e2 e3
    refine⟨u',r',?_⟩
    rcases q with⟨k,e⟩ | ⟨k,c,e,z⟩
    ·refine .inl ⟨k,?_⟩
     have:y≠x:=λe=>hj (Su hN e1 (e▸hi))
     simp[this,e]
    ·exact .inr ⟨k,c,e,z.sameBut hs (cne y c e)⟩
  ·obtain⟨w',z⟩:=I.cell y c e
   exact⟨w',z.sameBut hs (cne y c e)⟩
  ·obtain⟨e,n,ne,nf,d⟩:=I.pin p hp
   exact⟨(hs.2 p.1 ne).trans e,n,ne,nf,d⟩
 ·have hfn:X.fn x=true:=by
   rcases hf with z | z
   ·exact z
   ·rw[z]at hk;cases hk
  obtain⟨c,hc⟩:=I.ok.has x (.inl hk)
  obtain⟨w',z⟩:=I.cell x c hc
  refine wpAny_storeName_cell I.ok.kind hk hc z (λh' hc' hs=> ?_)
  obtain⟨oc,hoc,anm⟩:=id z
  refine h {s with heap:=h'} ⟨I.ok,I.os,I.bare,⟨λb o e n hb hx=> ?_,λb o e n hb hx=> ?_,I.base.free,λb o e hx=> ?_,I.base.tups,I.base.tY,I.base.vp⟩,⟨m,hn.sameBut hs (Ne.symm (cne x c hc)),λj y v' e1 e2 e3=> ?_⟩,λy c' e=> ?_,I.free,I.jZ,λp hp=> ?_,tracked ⟨oc,hoc,I.jZ x c hc⟩ hs,by simpa using I.len⟩ ⟨c,hs,.inr hc⟩
  ·exact(hs.2 b (xD (yA (zS e) (I.ok.cab x c hfn hc)))).trans (I.base.keep b o e n hb hx)
  ·obtain⟨sl,e1⟩:=I.base.slot b o e n hb hx
   exact⟨sl,(hs.2 b (xD (yA (zS e) (I.ok.cab x c hfn hc)))).trans e1⟩
  ·obtain⟨o',e1⟩:=I.base.there b o e hx
   exact⟨o',(hs.2 b (xD (yA (zS e) (I.ok.cab x c hfn hc)))).trans e1⟩
  ·by_cases hj:j=i
   ·subst hj
    rw[hi]at e1;cases e1
    rw[zak akg]at e2
    cases e2
    exact⟨u,r,.inr ⟨.inl hk,c,hc,hc'⟩⟩
   ·rw[zaj (Ne.symm hj)]at e2
    obtain⟨u',r',q⟩:=hl j y v' e1 e2 e3
    refine⟨u',r',?_⟩
    rcases q with q | ⟨k,c',e,z'⟩
    ·exact .inl q
    ·refine .inr ⟨k,c',e,z'.sameBut hs ?_⟩
     rintro rfl
     exact hj (Su hN e1 (I.ok.inj _ _ _ e hc▸hi))
  ·by_cases hcc:c'=c
   ·subst hcc;exact⟨_,hc'⟩
   ·obtain⟨w2,z2⟩:=I.cell y c' e
    exact⟨w2,z2.sameBut hs hcc⟩
  ·obtain⟨e,n,ne,nf,d⟩:=I.pin p hp
   refine⟨(hs.2 p.1 ?_).trans e,n,ne,nf,d⟩
   intro q
   rw[q,hoc]at e
   have q':oc=p.2:=xI e
   exact d w' (by rw[<-q'];exact anm)
theorem Ry{E:Value->Shared->Prop}{Q:Unit->Shared->Prop}(I:Inv X pins σ H s)(hN:X.N.Nodup)(hi:X.N[i]? = some x)(hx:Loc X.env.scope x)(r:RelV v u)
  (h:∀s',Inv X pins (σ.set i (some v)) H s'->Q .unit s') (hf:X.fn x=true\/X.env.scope.names.lookup x=some .local:=by first | exact .inl rfl | exact .inr rfl | assumption):wpAny M A (storeName X.env x u) Q E s:=
 M9 I hN hi hx r (λs' I' _=>h s' I') hf
theorem Inv.call'(I:Inv X pins σ H s)(ho:s'.os=s.os)(u:Un (frs X.stack) ch H H' s.heap s'.heap)(hok:tZ X.prog X.w H' s'.heap)(hg:AllBare s'.gens)
  (hch:∀b∈ch,(b∈X.ex\/X.s₀.heap.objs.size<=b)/\b≠X.env.locals/\(∀x c,X.env.cells.lookup x=some c->c≠b)/\∀p∈X.pn++pins,p.1≠b):Inv X pins σ H' s':=by
 obtain⟨h',g',d',t',o'⟩:=s'
 have e:o'=s.os:=ho
 subst e
 exact I.call (g':=g') (t':=t') (d':=d') u hok hg hch
end
abbrev XK:=Value->Option Addr->Hp->Prop
abbrev St:=List (Option V)
abbrev VK:=V->Hp->Prop
abbrev TE:=St->Hp->VK->Prop
abbrev TT:=St->Hp->(Bool->Hp->Prop)->Prop
abbrev TA:=St->Hp->(List V->Hp->Prop)->Prop
structure Ends where
 nx:St->Hp->Prop
 rt:VK
 bk:St->Hp->Prop:=λ_ _=>False
 ct:St->Hp->Prop:=λ_ _=>False
abbrev TS:=Ends->St->Hp->Prop
def EP(X:Cx)(pins:List (Addr×Obj))(σ:St)(Q:VK)(u:Value)(s':Shared):Prop:=∃v H',Inv X pins σ H' s'/\RelV v u/\Q v H'
def TP(X:Cx)(pins:List (Addr×Obj))(σ:St)(Q:Bool->Hp->Prop)(b:Bool)(s':Shared):Prop:=∃H',Inv X pins σ H' s'/\Q b H'
def AP(X:Cx)(pins:List (Addr×Obj))(σ:St)(Q:List V->Hp->Prop)(us:List Value)(s':Shared):Prop:=∃vs H',Inv X pins σ H' s'/\Vals vs us/\Q vs H'
def SP(X:Cx)(pins:List (Addr×Obj))(D:Ends)(f:Flow)(s':Shared):Prop:=
 match f with
 | .next=>∃σ' H',Inv X pins σ' H' s'/\D.nx σ' H'
 | .brk=>∃σ' H',Inv X pins σ' H' s'/\D.bk σ' H'
 | .cont=>∃σ' H',Inv X pins σ' H' s'/\D.ct σ' H'
 | .ret u=>∃v σ' H',Inv X pins σ' H' s'/\RelV v u/\D.rt v H'
def PE(X:Cx)(e:Expr)(t:TE):Prop:=
 ∀(pins:List (Addr×Obj)) (s:Shared) (σ:St) (H:Hp) (Q:VK),Inv X pins σ H s->t σ H Q->wpAny (model X.prog X.w) X.A (eval e X.env) (EP X pins σ Q) X.xe s
def PT(X:Cx)(e:Expr)(t:TT):Prop:=
 ∀(pins:List (Addr×Obj)) (s:Shared) (σ:St) (H:Hp) (Q:Bool->Hp->Prop),Inv X pins σ H s->t σ H Q->wpAny (model X.prog X.w) X.A (isTrue e X.env (eval e X.env)) (TP X pins σ Q) X.xe s
def PW(X:Cx)(e:Expr)(t:TT):Prop:=
 ∀(whole:Sem Value) (pins:List (Addr×Obj)) (s:Shared) (σ:St) (H:Hp) (Q:Bool->Hp->Prop),Inv X pins σ H s->t σ H Q->wpAny (model X.prog X.w) X.A (isTrue e X.env whole) (TP X pins σ Q) X.xe s
theorem PW.pt(h:PW X e t):PT X e t:=h _
def PA(X:Cx)(es:List Expr)(t:TA):Prop:=
 ∀(pos:Pos) (pins:List (Addr×Obj)) (s:Shared) (σ:St) (H:Hp) (Q:List V->Hp->Prop),Inv X pins σ H s->t σ H Q->wpAny (model X.prog X.w) X.A (spliced (backTo pos (starEach es X.env))) (AP X pins σ Q) X.xe s
def PS(X:Cx)(st:Stmt)(t:TS):Prop:=
 ∀(pins:List (Addr×Obj)) (s:Shared) (σ:St) (H:Hp) (D:Ends),Inv X pins σ H s->t D σ H->wpAny (model X.prog X.w) X.A (exec st X.env) (SP X pins D) X.xe s
def IV(X:Cx)(st:List Stmt)(t:TS):Prop:=
 ∀(pins:List (Addr×Obj)) (s:Shared) (σ:St) (H:Hp) (D:Ends),Inv X pins σ H s->t D σ H->wpAny (model X.prog X.w) X.A (execs st X.env) (SP X pins D) X.xe s
theorem fP{α:Type}{t:Sem α}{Q Q':α->Shared->Prop}{M:Model}{A:Around}{E:Value->Shared->Prop}{s:Shared}(h:wpAny M A t Q E s)(hQ:∀a s,Q a s->Q' a s):wpAny M A t Q' E s:=vE h hQ λ_ _ x=>x
section
variable{X:Cx}
def ac5(i:Nat):TE:=λσ H Q=>∃v,σ[i]? = some (some v)/\Q v H
def tC(v:V):TE:=λ_ H Q=>Q v H
theorem aa4(hN:X.N[i]? = some x)(hv:Vis X.env.scope x)(hd:(x==("__debug__" : Str))=false:=by decide)(hcd:(x==("__classdict__" : Str))=false:=by decide):PE X (.Name x pos) (ac5 i):=by
 intro pins s σ H Q I h
 obtain⟨v,e,h⟩:=h
 obtain⟨m,hn,hl⟩:=I.loc
 obtain⟨u,r,l⟩:=hl i x v hN e hv
 have fin:EP X pins σ Q u s:=⟨v,H,I,r,h⟩
 rcases l with⟨hk,hm⟩ | ⟨hk,c,hc,hcell⟩
 ·exact wpAny_Name (wpAny_loadName_local I.ok.kind hk hn hm fin) hd
 ·rcases hk with hk | hk
  ·exact wpAny_Name (wpAny_loadName_cell I.ok.kind hk hc hcell fin) hd
  ·exact wpAny_Name (wpAny_loadName_free I.ok.kind hk hc hcell fin hcd) hd
theorem agC{i j pos}:PE X (.Constant (.int i) j pos) (tC (.int i)):=λ_ _ _ H _ I h=>wpAny_Constant_int ⟨.int i,H,I.tok _,⟨_,rfl⟩,h⟩
theorem ajE{b j pos}:PE X (.Constant (.bool b) j pos) (tC (.bl b)):=λ_ _ _ H _ I h=>Constant_bool ⟨.bl b,H,I,rfl,h⟩
theorem agA{j pos}:PE X (.Constant .none j pos) (tC .non):=λ_ _ _ H _ I h=>Constant_none ⟨.non,H,I,rfl,h⟩
theorem agx{x j pos}:PE X (.Constant (.str x) j pos) (tC (.str x)):=λ_ _ _ H _ I h=>Calls.Constant_str ⟨.str x,H,I.tok _,⟨_,rfl⟩,h⟩
def Gl(X:Cx)(x:Str):Prop:=X.env.kindOf x=some .globalImplicit
theorem Fp{E:Value->Shared->Prop}{Q:Value->Shared->Prop}(I:Inv X pins σ H s)(hg:Gl X x)(hm:X.mg x=some u)(h:Q u s)
  (hd:(x==("__debug__" : Str))=false:=by decide):wpAny (model X.prog X.w) X.A (eval (.Name x pos) X.env) Q E s:=
 Calls.Name_function_global I.ok.kind hg (Calls.loadGlobal_global (by rw[I.ok.glob];exact I.mod.glob.keeps I.bk) hm h) hd
theorem Gw{E:Value->Shared->Prop}{Q:Value->Shared->Prop}(I:Inv X pins σ H s)(hg:Gl X x)(hm:X.mg x=none)(hv:bootBuiltins x=some u)(h:Q u s)
  (hn:x≠ "__name__" := by decide) (hd:(x==("__debug__" : Str))=false:=by decide):wpAny (model X.prog X.w) X.A (eval (.Name x pos) X.env) Q E s:=by
 obtain⟨mb,h1,h2⟩:=I.mod.blt
 exact Calls.Name_function_global I.ok.kind hg (Calls.loadGlobal_builtin (by rw[I.ok.glob];exact I.mod.glob.keeps I.bk) hm (by rw[I.ok.blt];exact h1.keeps I.bk) ((h2 x hn).trans hv) h) hd
theorem Pk(hg:Gl X x)(hm:X.mg x=some u)(r:RelV v u)(hd:(x==("__debug__" : Str))=false:=by decide):PE X (.Name x pos) (tC v):=
 λ_ _ _ H _ I h=>Fp I hg hm ⟨v,H,I,r,h⟩ hd
variable{a b:Expr}{ta tb:TE}{pos:Pos}
def tB(t:TE):TT:=λσ H Q=>t σ H λx H1=>∃c,x= .bl c/\Q c H1
theorem ago(h:PE X e t)(he:∀whole,isTrue e X.env whole=(do let v <-whole;standAt e.pos;holding [v] (truthy v)):=by intro _;rfl):PT X e (tB t):=by
 intro pins s σ H Q I hw
 refine isTrue_plain (fP (h pins s σ H _ I hw) ?_) (he _)
 rintro v s1 ⟨x,H1,I1,r1,q1⟩
 obtain⟨d,rfl,q⟩:=q1
 cases r1
 exact wpAny_truthy_bool ⟨H1,I1,q⟩
variable{tA tB':TT}{rest:List Expr}
def amv(t u:TT):TT:=λσ H Q=>t σ H λc H1=>if c=true then u σ H1 Q else Q false H1
def tOr(t u:TT):TT:=λσ H Q=>t σ H λc H1=>if c=true then Q true H1 else u σ H1 Q
def amn(t:TT):TT:=λσ H Q=>t σ H λc H1=>Q (!c) H1
theorem adA(ha:PT X a tA):PW X (.BoolOp .And [a] pos) tA:=by
 intro wh pins s σ H Q I h
 refine isTrue_and (fP (ha pins s σ H Q I h) λc s1 e=> ?_)
 cases c with
 | true=>exact isTrue_and_nil e
 | false=>exact e
theorem agm(ha:PT X a tA):PW X (.BoolOp .Or [a] pos) tA:=by
 intro wh pins s σ H Q I h
 refine isTrue_or (fP (ha pins s σ H Q I h) λc s1 e=> ?_)
 cases c with
 | false=>exact isTrue_or_nil e
 | true=>exact e
theorem agn(ha:PT X a tA)(hb:PW X (.BoolOp .And (b::rest) pos) tB'):PW X (.BoolOp .And (a::b::rest) pos) (amv tA tB'):=by
 intro wh pins s σ H Q I h
 refine isTrue_and (fP (ha pins s σ H _ I h) ?_)
 rintro c s1 ⟨H1,I1,q1⟩
 cases c with
 | true=>exact hb wh pins s1 σ H1 Q I1 q1
 | false=>exact⟨H1,I1,q1⟩
theorem ajx(ha:PT X a tA)(hb:PW X (.BoolOp .Or (b::rest) pos) tB'):PW X (.BoolOp .Or (a::b::rest) pos) (tOr tA tB'):=by
 intro wh pins s σ H Q I h
 refine isTrue_or (fP (ha pins s σ H _ I h) ?_)
 rintro c s1 ⟨H1,I1,q1⟩
 cases c with
 | true=>exact⟨H1,I1,q1⟩
 | false=>exact hb wh pins s1 σ H1 Q I1 q1
theorem agp(ha:PT X a tA):PT X (.UnaryOp .Not a pos) (amn tA):=by
 intro pins s σ H Q I h
 exact isTrue_not (ha pins s σ H (λc H1=>Q (!c) H1) I h)
def ai0(ta tb:TE):TE:=λσ H Q=>ta σ H λx H1=>∃c,x= .bl c/\if c=true then tb σ H1 Q else Q (.bl false) H1
def amm(ta tb:TE):TE:=λσ H Q=>ta σ H λx H1=>∃c,x= .bl c/\if c=true then Q (.bl true) H1 else tb σ H1 Q
def aiU(ta:TE):TE:=λσ H Q=>ta σ H λx H1=>∃c,x= .bl c/\Q (.bl (!c)) H1
theorem agy{op}(h:PE X a t):PE X (.BoolOp op [a] pos) t:=λpins s σ H Q I hw=>BoolOp_one (h pins s σ H Q I hw)
theorem agE(ha:PE X a ta)(hb:PE X (.BoolOp .And (b::rest) pos) tb):PE X (.BoolOp .And (a::b::rest) pos) (ai0 ta tb):=by
 intro pins s σ H Q I h
 refine BoolOp_and (fP (ha pins s σ H _ I h) ?_)
 rintro v s1 ⟨x,H1,I1,r1,q1⟩
 obtain⟨c,rfl,q1⟩:=q1
 cases r1
 refine wpAny_truthy_bool ?_
 cases c with
 | true=>exact hb pins s1 σ H1 Q I1 q1
 | false=>exact⟨.bl false,H1,I1,rfl,q1⟩
theorem ajA(ha:PE X a ta)(hb:PE X (.BoolOp .Or (b::rest) pos) tb):PE X (.BoolOp .Or (a::b::rest) pos) (amm ta tb):=by
 intro pins s σ H Q I h
 refine BoolOp_or (fP (ha pins s σ H _ I h) ?_)
 rintro v s1 ⟨x,H1,I1,r1,q1⟩
 obtain⟨c,rfl,q1⟩:=q1
 cases r1
 refine wpAny_truthy_bool ?_
 cases c with
 | false=>exact hb pins s1 σ H1 Q I1 q1
 | true=>exact⟨.bl true,H1,I1,rfl,q1⟩
theorem agz(ha:PE X a ta):PE X (.UnaryOp .Not a pos) (aiU ta):=by
 intro pins s σ H Q I h
 refine UnaryOp_ (fP (ha pins s σ H _ I h) ?_)
 rintro v s1 ⟨x,H1,I1,r1,q1⟩
 obtain⟨c,rfl,q1⟩:=q1
 cases r1
 exact not_of (wpAny_truthy_bool ⟨.bl (!c),H1,I1,rfl,q1⟩)
def tIf(t:TT)(ta tb:TE):TE:=λσ H Q=>t σ H λc H1=>if c=true then ta σ H1 Q else tb σ H1 Q
theorem aa7(hc:PT X c tA)(ha:PE X a ta)(hb:PE X b tb):PE X (.IfExp c a b pos) (tIf tA ta tb):=by
 intro pins s σ H Q I h
 refine wpAny_IfExp (fP (hc pins s σ H _ I h) ?_)
 rintro d s1 ⟨H1,I1,q1⟩
 cases d with
 | true=>exact ha pins s1 σ H1 Q I1 q1
 | false=>exact hb pins s1 σ H1 Q I1 q1
end
def pB(K:Frag)(H:Hp)(a:Addr)(xs:List V):Prop:=
 Rd H a (.lst xs)\/
  ∃(o:Obj) (its:Array Value) (n:Nat),K.lookup a=some o/\o.cls= .type "list" /\ o.dict=none/\o.data= .seq its n/\its.size<=sizeLine/\Vals xs its.toList
def kO(K:Frag)(H:Hp)(a:Addr)(xs:List V):Prop:=
 Rd H a (.tup xs)\/
  ∃(o:Obj) (its:Array Value) (n:Nat),K.lookup a=some o/\o.cls= .type "tuple" /\ o.data= .seq its n/\its.size<=sizeLine/\Vals xs its.toList
noncomputable def aoi:Value->Option V
 | .none=>some .non
 | .bool b=>some (.bl b)
 | .int i _=>some (.int i)
 | .str x _=>some (.str x)
 | .bytes b _=>some (.byt b)
 | .float b _=>some (.flt b)
 | .ref a=>some (.ref a)
 | .type n=>some (.ty n)
 | _=>none
theorem RelV.abs(r:RelV x u):aoi u=some x:=by
 cases x with
 | non=>cases r;rfl
 | bl _=>cases r;rfl
 | int _=>obtain⟨t,rfl⟩:=r;rfl
 | str _=>obtain⟨t,rfl⟩:=r;rfl
 | byt _=>obtain⟨t,rfl⟩:=r;rfl
 | flt _=>obtain⟨t,rfl⟩:=r;rfl
 | ref _=>cases r;rfl
 | ty _=>cases r;rfl
theorem RelV.inj(r:RelV x u)(q:RelV y u):x=y:=xI (r.abs.symm.trans q.abs)
theorem Vals.inj:∀{xs ys:List V} {us:List Value},Vals xs us->Vals ys us->xs=ys
 | _,_,_,.nil,.nil=>rfl
 | _,_,_,.cons r t,.cons r' t'=>by rw[r.inj r',Vals.inj t t']
section
variable{X:Cx}{pins:List (Addr×Obj)}{σ:St}{H:Hp}{s:Shared}{a:Addr}{xs ys:List V}
theorem pB.of{K:Frag}(h:H a=some (.lst xs)):pB K H a xs:= .inl (.inl h)
theorem kO.of{K:Frag}(h:H a=some (.tup xs)):kO K H a xs:= .inl (.inl h)
theorem Inv.list(I:Inv X pins σ H s)(h:pB X.K H a xs):∃its:List Value,Vals xs its/\PlainL s.heap a its.toArray/\xs.length<=sizeLine:=by
 rcases h with h | ⟨o,its,n,hk,hc,hd,hs,hz,r⟩
 ·obtain⟨z,its,n,r,e⟩:=h.ok I.hok
  exact⟨its,r,⟨_,n,e,rfl,rfl,rfl⟩,z⟩
 ·refine⟨its.toList,r,⟨o,n,I.Hr a o hk,hc,hd,by simpa using hs⟩,?_⟩
  have e:=r.length
  simp only[Array.length_toList]at e
  omega
theorem Inv.tuple(I:Inv X pins σ H s)(h:kO X.K H a xs):∃its:List Value,Vals xs its/\IsTup s.heap a its.toArray/\xs.length<=sizeLine:=by
 rcases h with h | ⟨o,its,n,hk,hc,hs,hz,r⟩
 ·obtain⟨z,its,r,p⟩:=h.ok I.hok
  exact⟨its,r,p,z⟩
 ·refine⟨its.toList,r,⟨o,I.Hr a o hk,hc,n,by simpa using hs⟩,?_⟩
  have e:=r.length
  simp only[Array.length_toList]at e
  omega
theorem Inv.Ku(I:Inv X pins σ H s)(h:pB X.K H a xs)(h':pB X.K H a ys):xs=ys:=by
 obtain⟨its,r,⟨o,n,e,_,_,d⟩,_⟩:=I.list h
 obtain⟨its',r',⟨o',n',e',_,_,d'⟩,_⟩:=I.list h'
 rw[e]at e';cases e'
 rw[d]at d'
 injection d' with d1 _
 have:its=its':=by simpa using congrArg Array.toList d1
 subst this
 exact r.inj r'
theorem Inv.Gj(I:Inv X pins σ H s)(h:kO X.K H a xs)(h':kO X.K H a ys):xs=ys:=by
 obtain⟨its,r,⟨o,e,_,n,d⟩,_⟩:=I.tuple h
 obtain⟨its',r',⟨o',e',_,n',d'⟩,_⟩:=I.tuple h'
 rw[e]at e';cases e'
 rw[d]at d'
 injection d' with d1 _
 have:its=its':=by simpa using congrArg Array.toList d1
 subst this
 exact r.inj r'
end
abbrev Cx.wish(X:Cx)(E:Value->Shared->Prop):Cx:={X with xe:=E}
abbrev Cx.nox(X:Cx):Cx:=X.wish λ_ _=>False
theorem Cx.Ok.wish{X:Cx}(ok:X.Ok)(E:Value->Shared->Prop):(X.wish E).Ok:=
 ⟨ok.mod,ok.kind,ok.glob,ok.blt,ok.above,ok.inj,ok.has,ok.cab,ok.hd,ok.frames,ok.stk,ok.exf,ok.bs,ok.XD,ok.Ss,ok.Tu,ok.Al,ok.frf⟩
theorem Cx.Ok.lM{X:Cx}{E:Value->Shared->Prop}(ok:(X.wish E).Ok):X.Ok:=
 ⟨ok.mod,ok.kind,ok.glob,ok.blt,ok.above,ok.inj,ok.has,ok.cab,ok.hd,ok.frames,ok.stk,ok.exf,ok.bs,ok.XD,ok.Ss,ok.Tu,ok.Al,ok.frf⟩
section
variable{X:Cx}{pins:List (Addr×Obj)}{σ:St}{H:Hp}{s:Shared}{E:Value->Shared->Prop}
theorem Inv.wish(I:Inv X pins σ H s)(E:Value->Shared->Prop):Inv (X.wish E) pins σ H s:=⟨I.ok.wish E,I.os,I.bare,I.base,I.loc,I.cell,I.free,I.jZ,I.pin,I.hok,I.len⟩
theorem Inv.lM(I:Inv (X.wish E) pins σ H s):Inv X pins σ H s:=⟨I.ok.lM,I.os,I.bare,I.base,I.loc,I.cell,I.free,I.jZ,I.pin,I.hok,I.len⟩
theorem SP.lM(h:SP (X.wish E) pins D f s'):SP X pins D f s':=by
 cases f with
 | next=>obtain⟨σ',H',I,q⟩:=h;exact⟨σ',H',I.lM,q⟩
 | brk=>obtain⟨σ',H',I,q⟩:=h;exact⟨σ',H',I.lM,q⟩
 | cont=>obtain⟨σ',H',I,q⟩:=h;exact⟨σ',H',I.lM,q⟩
 | ret u=>obtain⟨v,σ',H',I,r,q⟩:=h;exact⟨v,σ',H',I.lM,r,q⟩
theorem PE.nox(h:PE X.nox e t):PE X e t:=λpins s σ H Q I hw=>
 vE (h pins s σ H Q (I.wish _) hw) (λ_ _ ⟨v,H',I',r,q⟩=>⟨v,H',I'.lM,r,q⟩) λ_ _ z=>False.elim z
theorem PT.nox(h:PT X.nox e t):PT X e t:=λpins s σ H Q I hw=>
 vE (h pins s σ H Q (I.wish _) hw) (λ_ _ ⟨H',I',q⟩=>⟨H',I'.lM,q⟩) λ_ _ z=>False.elim z
theorem IV.nox{st:List Stmt}(h:IV X.nox st t):IV X st t:=λpins s σ H D I hw=>
 vE (h pins s σ H D (I.wish _) hw) (λ_ _ q=>q.lM) λ_ _ z=>False.elim z
end
section
variable{X:Cx}{st:Stmt}{rest:List Stmt}{t u:TS}{e:Expr}{te:TE}{pos:Pos}
def ae9:TS:=λD σ H=>D.nx σ H
def amk(t u:TS):TS:=λD σ H=>t {D with nx:=u D} σ H
theorem adF:IV X [] ae9:=λ_ _ σ H _ I h=>wpAny_execs_nil ⟨σ,H,I,h⟩
theorem aaV(h1:PS X st t)(h2:IV X rest u):IV X (st::rest) (amk t u):=by
 intro pins s σ H D I h
 refine wpAny_execs_cons (fP (h1 pins s σ H {D with nx:=u D} I h) λf s1 q=> ?_)
 cases f with
 | next=>
  obtain⟨σ',H',I',q⟩:=q
  exact h2 pins s1 σ' H' D I' q
 | ret v=>exact q
 | brk=>exact q
 | cont=>exact q
theorem WD(h1:PS X st t):IV X [st] t:=by
 intro pins s σ H D I h
 refine wpAny_execs_cons (fP (h1 pins s σ H D I h) λf s1 q=> ?_)
 cases f with
 | next=>exact wpAny_execs_nil q
 | ret v=>exact q
 | brk=>exact q
 | cont=>exact q
theorem Inv.quiet(I:Inv X pins σ H s):interactive X.env=false:=by simp[interactive,I.ok.kind]
def aiX(te:TE):TS:=λD σ H=>te σ H λ_ H1=>D.nx σ H1
theorem adK(he:PE X e te)(hs:swapsWith e none pos.line X.env=pure false:=by rfl):PS X (.Expr e pos) (aiX te):=by
 intro pins s σ H D I h
 exact wpAny_Expr_any (fP (he pins s σ H _ I h) λv s1 ⟨x,H1,I1,r1,q1⟩=>⟨σ,H1,I1,q1⟩) I.quiet hs
def aml(te:TE):TS:=λD σ H=>te σ H D.rt
theorem agr(he:PE X e te):PS X (.Return (some e) pos) (aml te):=by
 intro pins s σ H D I h
 exact wpAny_Return_some (fP (he pins s σ H _ I h) λv s1 ⟨x,H1,I1,r1,q1⟩=>⟨x,σ,H1,I1,r1,q1⟩)
def aiS:TS:=λD _ H=>D.rt .non H
theorem adI:PS X (.Return none pos) aiS:=λ_ _ σ H _ I h=>wpAny_Return_none ⟨.non,σ,H,I,rfl,h⟩
def amq(c:TT)(t u:TS):TS:=λD σ H=>c σ H λb H1=>if b=true then t D σ H1 else u D σ H1
theorem ajy(hc:PT X c tc)(ha:IV X a t)(hb:IV X b u):PS X (.If c a b pos) (amq tc t u):=by
 intro pins s σ H D I h
 refine wpAny_If (fP (hc pins s σ H _ I h) ?_)
 rintro d s1 ⟨H1,I1,q1⟩
 cases d with
 | true=>exact ha pins s1 σ H1 D I1 q1
 | false=>exact hb pins s1 σ H1 D I1 q1
end
abbrev TG:=V->St->Hp->(St->Hp->Prop)->Prop
abbrev TGs:=List V->St->Hp->(St->Hp->Prop)->Prop
def PG(X:Cx)(target:Expr)(t:TG):Prop:=
 ∀(pins:List (Addr×Obj)) (s:Shared) (σ:St) (H:Hp) (v:V) (u:Value) (Q:St->Hp->Prop),Inv X pins σ H s->RelV v u->t v σ H Q->
  wpAny (model X.prog X.w) X.A (assign target X.env u) (λ_ s'=>∃σ' H',Inv X pins σ' H' s'/\Q σ' H') X.xe s
def Zx(X:Cx)(ts:List Expr)(t:TGs):Prop:=
 ∀(pins:List (Addr×Obj)) (s:Shared) (σ:St) (H:Hp) (vs:List V) (us:List Value) (Q:St->Hp->Prop),Inv X pins σ H s->Vals vs us->t vs σ H Q->
  wpAny (model X.prog X.w) X.A (assignInOrder ((assignEach ts X.env).map (·.2)) us) (λ_ s'=>∃σ' H',Inv X pins σ' H' s'/\Q σ' H') X.xe s
section
variable{X:Cx}{pos:Pos}
def Tt(i:Nat):TG:=λv σ H Q=>Q (σ.set i (some v)) H
theorem Pj(hN:X.N.Nodup)(hi:X.N[i]? = some x)(hx:Loc X.env.scope x)(hf:X.fn x=true\/X.env.scope.names.lookup x=some .local:=by first | exact .inl rfl | exact .inr rfl | assumption):PG X (.Name x pos) (Tt i):=by
 intro pins s σ H v u Q I r h
 exact wpAny_assign_Name (Ry I hN hi hx r (λs' I'=>⟨_,H,I',h⟩) hf)
def anD:TGs:=λvs σ H Q=>vs=[]/\Q σ H
def ako(t:TG)(u:TGs):TGs:=λvs σ H Q=>∃v r,vs=v::r/\t v σ H λσ' H'=>u r σ' H' Q
theorem WK:Zx X [] anD:=by
 intro pins s σ H vs us Q I r h
 obtain⟨e,h⟩:=h
 subst e
 cases r
 exact assignInOrder_nil ⟨σ,H,I,h⟩
theorem R8(h1:PG X e t)(h2:Zx X es u)
  (hs:(assignEach (e::es) X.env).map (·.2)=assign e X.env::(assignEach es X.env).map (·.2):=by rfl):Zx X (e::es) (ako t u):=by
 intro pins s σ H vs us Q I r h
 obtain⟨v,vr,e1,h⟩:=h
 subst e1
 cases r with
 | cons r rr=>
  rw[hs]
  refine assignInOrder_cons (fP (h1 pins s σ H _ _ _ I r h) ?_)
  rintro _ s1 ⟨σ1,H1,I1,q1⟩
  exact h2 pins s1 σ1 H1 _ _ Q I1 rr q1
def anC(K:Frag)(n:Nat)(t:TGs):TG:=λv σ H Q=>∃a xs,v= .ref a/\kO K H a xs/\xs.length=n/\t xs σ H Q
theorem aa3(hc:X.calm=true)(h:Zx X es t)
  (hn:(assignEach es X.env).length=n:=by rfl) (hst:(assignEach es X.env).findIdx? (·.1)=none:=by rfl):PG X (.Tuple es k pos) (anC X.K n t):=by
 intro pins s σ H v u Q I r hw
 obtain⟨a,xs,e1,hq,hl,hw⟩:=hw
 subst e1
 cases r
 obtain⟨its,rv,ht,hz⟩:=I.tuple hq
 refine assign_Tuple_tuple (I.ok.hd hc) ht (by simp[hn,<-hl,rv.length]) hst λh' hx=> ?_
 have I1:Inv X pins σ H {s with heap:=h'}:=I.kept (t':=s.toks) λb o e=>hx b o (xD (zS e)) e
 exact h pins _ σ H xs _ Q I1 (by simpa using rv) hw
def ac7(te:TE)(g:TG):TS:=λD σ H=>te σ H λx H1=>g x σ H1 D.nx
theorem agu(he:PE X e te)(hg:PG X tg g)(hs:swapsWithSole [tg] e pos.line X.env=pure false:=by rfl)(hw:swappedStores [tg] e X.env=pure none:=by rfl)
  (h1:(assignEach [tg] X.env).map (·.2)=[assign tg X.env]:=by rfl):PS X (.Assign [tg] e pos) (ac7 te g):=by
 intro pins s σ H D I h
 refine wpAny_Assign_stores (fP (he pins s σ H _ I h) ?_) hs hw
 rintro v s1 ⟨x,H1,I1,r1,q1⟩
 rw[h1]
 exact fP (hg pins s1 σ H1 x v _ I1 r1 q1) λ_ s2 q=>q
theorem agq(hN:X.N.Nodup)(hi:X.N[i]? = some x)(hx:Loc X.env.scope x)(he:PE X e te)(hs:swapsWith e (some (.Name x pos')) pos.line X.env=pure false:=by rfl)(hf:X.fn x=true\/X.env.scope.names.lookup x=some .local:=by first | exact .inl rfl | exact .inr rfl | assumption):
  PS X (.Assign [.Name x pos'] e pos) (ac7 te (Tt i)):=by
 intro pins s σ H D I h
 refine wpAny_Assign_Name (fP (he pins s σ H _ I h) ?_) hs
 rintro v s1 ⟨y,H1,I1,r1,q1⟩
 exact Ry I1 hN hi hx r1 (λs2 I2=>⟨_,H1,I2,q1⟩) hf
def afV(c:TT)(tb:TS):TS:=λD σ H=>∃W:Nat->St->Hp->Prop,(∃m,W m σ H)/\∀m σ H,W m σ H->
 c σ H λb H1=>if b=true then ∃N:St->Hp->Prop,(∀σ' H',N σ' H'->∃m',m'<m/\W m' σ' H')/\tb {D with nx:=N,ct:=N,bk:=D.nx} σ H1 else D.nx σ H1
theorem aaW(hp:PassesOwn (model X.prog X.w) X.A X.env X.xe)(hc:PT X c tc)(hb:IV X body tb):PS X (.While c body [] pos) (afV tc tb):=by
 intro pins s σ H D I h
 obtain⟨W,⟨m0,w0⟩,turn⟩:=h
 refine wpAny_While (codeAny_whileLoop (λn s'=>∃σ' H',Inv X pins σ' H' s'/\W n σ' H') ?_ m0 ⟨σ,H,I,w0⟩)
 rintro n s1 ⟨σ1,H1,I1,w1⟩
 refine wpAny_passesOwn hp (fP (hc pins s1 σ1 H1 _ I1 (turn n σ1 H1 w1)) ?_)
 rintro b s2 ⟨H2,I2,q2⟩
 cases b with
 | true=>
  obtain⟨N,hN,q2⟩:=q2
  rw[if_pos rfl]
  refine wpAny_passesOwn hp (fP (hb pins s2 σ1 H2 _ I2 q2) λf s3 q3=> ?_)
  cases f with
  | next=>
   obtain⟨σ3,H3,I3,n3⟩:=q3
   obtain⟨m',hm,w3⟩:=hN σ3 H3 n3
   exact⟨m',hm,σ3,H3,I3,w3⟩
  | cont=>
   obtain⟨σ3,H3,I3,n3⟩:=q3
   obtain⟨m',hm,w3⟩:=hN σ3 H3 n3
   exact⟨m',hm,σ3,H3,I3,w3⟩
  | brk=>exact q3
  | ret v=>exact q3
 | false=>
  rw[if_neg xA]
  exact wpAny_execs_nil ⟨σ1,H2,I2,q2⟩
end
structure It where
 go:Nat->Hp->Prop
 X6:Nat->Hp->V->Hp->Prop
 stop:Nat->Hp->Prop
def Bg(X:Cx)(pins:List (Addr×Obj))(H:Hp)(b:Addr):Prop:=
 H b=none/\b≠X.env.locals/\b∉X.fs/\(b∈X.ex\/X.s₀.heap.objs.size<=b)/\(∀x c,X.env.cells.lookup x=some c->c≠b)/\∀p∈X.pn++pins,p.1≠b
theorem Inv.Vv(I:Inv X pins σ H s)(hb:s.heap.objs.size<=b)(hn:H' b=none):Bg X pins H' b:=by
 refine⟨hn,xS (yA I.lt hb),I.amV hb,.inr (yY I.sz hb),λx c e z=> ?_,λp hp z=> ?_⟩
 ·obtain⟨v,q⟩:=I.cell x c e
  exact absurd (yA q.lt (by rw[z];exact hb)) (wS _)
 ·exact absurd (yA (zS (I.pin p hp).1) (by rw[z];exact hb)) (wS _)
structure Turn(P:Program)(w:World)(K:Frag)(tg:Expr)(J:It)(fp:List Addr)(it:Addr)(tn:Nat->Heap->Prop):Prop where
 mem:it∈fp
 obj:∀i h,tn i h->∀b∈fp,∃o,h.get? b=some o/\∀v,o.data≠ .cell v
 keep:∀i h h',tn i h->(∀b∈fp,∀o,h.get? b=some o->h'.get? b=some o)->tn i h'
 item:∀(X:Cx),X.prog=P->X.w=w->X.K=K->X.calm=true->∀(i:Nat) (pins:List (Addr×Obj)) (s:Shared) (σ:St) (H:Hp) (E:Value->Shared->Prop),Inv X pins σ H s->(∀b∈fp,Bg X pins H b)->tn i s.heap->J.go i H->
  wpAny (model P w) X.A (pyNext (.ref it)) (λr s1=>∃u,r=some u/\
   wpAny (model P w) X.A (letOwnedTupleGo tg (.ref it) u) (λ_ s2=>∃x H',Inv X pins σ H' s2/\RelV x u/\J.X6 i H x H'/\tn (i+1) s2.heap/\∀b∈fp,H' b=none) E s1) E s
 done:∀(X:Cx),X.prog=P->X.w=w->X.K=K->X.calm=true->∀(i:Nat) (pins:List (Addr×Obj)) (s:Shared) (σ:St) (H:Hp) (E:Value->Shared->Prop),Inv X pins σ H s->(∀b∈fp,Bg X pins H b)->tn i s.heap->J.stop i H->
  wpAny (model P w) X.A (pyNext (.ref it)) (λr s1=>r=none/\Inv X pins σ H s1) E s
 self:∀(A:Around) (i:Nat) (s:Shared) (Q:Value->Shared->Prop) (E:Value->Shared->Prop),tn i s.heap->Q (.ref it) s->wpAny (model P w) A (pyIter (.ref it)) Q E s
abbrev TI:=St->Hp->(It->Hp->Prop)->Prop
def PIE(X:Cx)(pins:List (Addr×Obj))(σ:St)(tg:Expr)(R:It->Hp->Prop)(itv:Value)(s2:Shared):Prop:=
 ∃(it:Addr) (fp:List Addr) (tn:Nat->Heap->Prop) (J:It) (H':Hp),itv= .ref it/\Inv X pins σ H' s2/\Turn X.prog X.w X.K tg J fp it tn/\tn 0 s2.heap/\(∀b∈fp,Bg X pins H' b)/\R J H'
def PI(X:Cx)(tg iter:Expr)(wi:TI):Prop:=
 ∀(pins:List (Addr×Obj)) (s:Shared) (σ:St) (H:Hp) (R:It->Hp->Prop),Inv X pins σ H s->wi σ H R->
  wpAny (model X.prog X.w) X.A (eval iter X.env) (λv s1=>wpAny (model X.prog X.w) X.A (pyIter v) (PIE X pins σ tg R) X.xe s1) X.xe s
theorem abZ{E:Value->Shared->Prop}{Q:Unit->Shared->Prop}(ho:s.heap.get? it=some o)(hc:o.cls= .type n)(hd:o.data= .fields vs)
  (hn:["enumerate","zip","dict_itemiterator","dict_reverseitemiterator","odict_iterator","itertools.zip_longest","itertools.pairwise"].contains n=false) (hQ:Q .unit s):wpAny M A (letOwnedTupleGo tg (.ref it) u) Q E s:=by
 unfold letOwnedTupleGo
 cases tg<;>first
  | exact zI hQ
  | (cases u<;>first
    | exact zI hQ
    | (refine zC (wpAny_load ho ?_)
       rw[hc,hd]
       show wpAny M A (if(["enumerate","zip","dict_itemiterator","dict_reverseitemiterator","odict_iterator","itertools.zip_longest","itertools.pairwise"].contains n&&vs[0]? == some (rawInt _))=true then _ else _) Q E s
       rw[if_neg (by intro h;rw[hn,Bool.false_and]at h;cases h)]
       exact zI hQ))
def Itl(K:Frag)(a:Addr):It:=
 ⟨λi H=>∃xs x,pB K H a xs/\xs[i]? = some x,λi H x H'=>H'=H/\∀xs,pB K H a xs->xs[i]? = some x,λi H=>∃xs,pB K H a xs/\xs.length<=i⟩
def Itt(K:Frag)(a:Addr):It:=
 ⟨λi H=>∃xs x,kO K H a xs/\xs[i]? = some x,λi H x H'=>H'=H/\∀xs,kO K H a xs->xs[i]? = some x,λi H=>∃xs,kO K H a xs/\xs.length<=i⟩
def Itr(lo:Int)(n:Nat):It:=⟨λi _=>i<n,λi H x H'=>H'=H/\x= .int (lo+i),λi _=>n<=i⟩
theorem X_{P:Program}{w:World}{K:Frag}{tg:Expr}(a it:Addr):Turn P w K tg (Itl K a) [it] it (λi h=>h.IsListIter it a i) where
 mem:=by simp
 obj:=λi h st b hb=>by
  have e:b=it:=by simpa using hb
  subst e
  obtain⟨o,e,c,d⟩:=st
  exact⟨o,e,λv z=>by rw[d]at z;cases z⟩
 keep:=λi h h' st k=>st.at λo e=>k it (by simp) o e
 item:=by
  intro X hP hw hK hc i pins s σ H E I hf st hg
  subst hP hw hK
  obtain⟨xs,x,hq,hx⟩:=hg
  obtain⟨its,rv,p,hz⟩:=I.list hq
  obtain⟨u,hu,ru⟩:=rv.get hx
  obtain⟨f0,f1,f2,f3,f4,f5⟩:=hf it (by simp)
  refine wpAny_pyNext_list_item st p.isList (x:=u) (by simpa using hu) λh' st' sb=> ?_
  have I1:Inv X pins σ H {s with heap:=h'}:=I.turned (t':=s.toks) (λb o hb e=>(sb.2 b hb).trans e) f0 f1 f3 f4 f5
  obtain⟨o,e,c,d⟩:=id st'
  exact⟨u,rfl,abZ (s:={s with heap:=h'}) e c d (by decide) ⟨x,H,I1,ru,⟨rfl,λys hy=>by rw[I.Ku hy hq];exact hx⟩,st',λb hb=>(hf b hb).1⟩⟩
 done:=by
  intro X hP hw hK hc i pins s σ H E I hf st hg
  subst hP hw hK
  obtain⟨xs,hq,hx⟩:=hg
  obtain⟨its,rv,p,hz⟩:=I.list hq
  obtain⟨f0,f1,f2,f3,f4,f5⟩:=hf it (by simp)
  have hl:=rv.length
  exact wpAny_pyNext_list_end (I.ok.hd hc) st p.isList (by simp;omega) λh' eb=>⟨rfl,I.turned (t':=s.toks) (λb o hb e=>eb b o hb e) f0 f1 f3 f4 f5⟩
 self:=λ_ _ _ _ _ st h=>wpAny_pyIter_listiter st h
theorem Uw{P:Program}{w:World}{K:Frag}{tg:Expr}(a it:Addr):Turn P w K tg (Itt K a) [it] it (λi h=>h.IsTupleIter it a i) where
 mem:=by simp
 obj:=λi h st b hb=>by
  have e:b=it:=by simpa using hb
  subst e
  obtain⟨o,e,c,d⟩:=st
  exact⟨o,e,λv z=>by rw[d]at z;cases z⟩
 keep:=λi h h' st k=>st.at λo e=>k it (by simp) o e
 item:=by
  intro X hP hw hK hc i pins s σ H E I hf st hg
  subst hP hw hK
  obtain⟨xs,x,hq,hx⟩:=hg
  obtain⟨its,rv,p,hz⟩:=I.tuple hq
  obtain⟨u,hu,ru⟩:=rv.get hx
  obtain⟨f0,f1,f2,f3,f4,f5⟩:=hf it (by simp)
  refine wpAny_pyNext_tuple_item st (show s.heap.IsTuple a its.toArray from p) (x:=u) (by simpa using hu) λh' st' sb=> ?_
  have I1:Inv X pins σ H {s with heap:=h'}:=I.turned (t':=s.toks) (λb o hb e=>(sb.2 b hb).trans e) f0 f1 f3 f4 f5
  obtain⟨o,e,c,d⟩:=id st'
  exact⟨u,rfl,abZ (s:={s with heap:=h'}) e c d (by decide) ⟨x,H,I1,ru,⟨rfl,λys hy=>by rw[I.Gj hy hq];exact hx⟩,st',λb hb=>(hf b hb).1⟩⟩
 done:=by
  intro X hP hw hK hc i pins s σ H E I hf st hg
  subst hP hw hK
  obtain⟨xs,hq,hx⟩:=hg
  obtain⟨its,rv,p,hz⟩:=I.tuple hq
  obtain⟨f0,f1,f2,f3,f4,f5⟩:=hf it (by simp)
  have hl:=rv.length
  exact wpAny_pyNext_tuple_end (I.ok.hd hc) st (show s.heap.IsTuple a its.toArray from p) (by simp;omega) λh' eb=>⟨rfl,I.turned (t':=s.toks) (λb o hb e=>eb b o hb e) f0 f1 f3 f4 f5⟩
 self:=λ_ _ _ _ _ st h=>wpAny_pyIter_tupleiter st h
theorem Ux{P:Program}{w:World}{K:Frag}{tg:Expr}(it:Addr)(lo:Int)(n:Nat):Turn P w K tg (Itr lo n) [it] it (λi h=>IsRangeIter h it (lo+(i:Nat)*1) ((n:Int) - (i:Nat)) 1) where
 mem:=by simp
 obj:=λi h st b hb=>by
  have e:b=it:=by simpa using hb
  subst e
  exact⟨_,st,λv z=>by
   have z':Data.fields _=Data.cell v:=z
   cases z'⟩
 keep:=λi h h' st k=>k it (by simp) _ st
 item:=by
  intro X hP hw hK hc i pins s σ H E I hf st hg
  subst hP hw hK
  obtain⟨f0,f1,f2,f3,f4,f5⟩:=hf it (by simp)
  have W:=Walks.range (prog:=X.prog) (w:=X.w) (I.ok.hd hc) it lo 1 n
  refine W.item i s _ _ hg st λv h' tk hv st' kk=> ?_
  obtain⟨t,rfl⟩:=hv
  have I1:Inv X pins σ H {s with heap:=h',toks:=tk}:=I.turned (λb o hb e=>kk b o (by simpa using hb) e) f0 f1 f3 f4 f5
  refine⟨_,rfl,abZ (s:={s with heap:=h',toks:=tk}) (n:= "range_iterator") st' rfl rfl (by decide) ⟨.int (lo+i),H,I1,⟨t,?_⟩,⟨rfl,rfl⟩,st',λb hb=>(hf b hb).1⟩⟩
  rw[Int.mul_one]
 done:=by
  intro X hP hw hK hc i pins s σ H E I hf st hg
  subst hP hw hK
  obtain⟨f0,f1,f2,f3,f4,f5⟩:=hf it (by simp)
  exact wpAny_pyNext_range_end (I.ok.hd hc) st (by have:n<=i:=hg;omega) λh' eb=>⟨rfl,I.turned (t':=s.toks) (λb o hb e=>eb b o hb e) f0 f1 f3 f4 f5⟩
 self:=λ_ _ _ _ _ st h=>wpAny_pyIter_rangeiter st h
section
variable{X:Cx}{tg:Expr}
theorem aaS{pins:List (Addr×Obj)}{R:It->Hp->Prop}{E:Value->Shared->Prop}{lo hi:Int}{tk:Nat}(I:Inv X pins σ H s)(h1: -(2 ^ 62)<=lo)(h2:lo<2 ^ 62)(h3: -(2 ^ 62)<=hi)(h4:hi<2 ^ 62)
  (q:R (Itr lo (hi - lo).toNat) H):wpAny (model X.prog X.w) X.A (pyIter (.ref s.heap.objs.size)) (PIE X pins σ tg R) E {s with heap:=s.heap.push {cls:= .type "range",data:= .fields #[.int lo t,.int hi u,.int 1 v]},toks:=tk}:=by
 refine wpAny_pyIter_range (IsRange.new ..) (small_one h1 h2 h3 h4) ?_
 have I1:Inv X pins σ H {s with heap:=s.heap.push {cls:= .type "range",data:= .fields #[.int lo t,.int hi u,.int 1 v]},toks:=tk}:=I.kept λb o e=>zD _ e
 refine⟨(s.heap.push {cls:= .type "range",data:= .fields #[.int lo t,.int hi u,.int 1 v]}).objs.size,[(s.heap.push {cls:= .type "range",data:= .fields #[.int lo t,.int hi u,.int 1 v]}).objs.size],_,_,H,rfl,
  I1.kept (t':=tk) λb o e=>zD _ e,Ux _ lo (hi - lo).toNat,?_,λb hb=> ?_,q⟩
 ·have e1:lo+((0:Nat):Int)*1=lo:=by simp
  have e2:(((hi - lo).toNat:Nat):Int) - ((0:Nat):Int)=Builtin.Range.rangeSize lo hi 1:=by rw[rangeSize_one];split<;>omega
  show IsRangeIter _ _ (lo+((0:Nat):Int)*1) ((((hi - lo).toNat:Nat):Int) - ((0:Nat):Int)) 1
  rw[e1,e2]
  exact yB _ rfl
 ·have e:b=(s.heap.push {cls:= .type "range",data:= .fields #[.int lo t,.int hi u,.int 1 v]}).objs.size:=by simpa using hb
  subst e
  exact I1.Vv (zab _) (I1.hok.fresh (zab _))
def akd(ta:TA):TI:=λσ H R=>ta σ H λvs H1=>∃j:Int,vs=[.int j]/\ -(2 ^ 62)<=j/\j<2 ^ 62/\R (Itr 0 j.toNat) H1
theorem Yr(hg:Gl X "range")(hm:X.mg "range" = none)(ha:PA X [a] ta)(hs:starEach [a] X.env=[(false,eval a X.env)]:=by rfl):PI X tg (.Call (.Name "range" p) [a] [] pos) (akd ta):=by
 intro pins s σ H R I h
 refine Call_ (Gw I hg hm boot_range (PyProof.Rows.callWith_type1 (fP (ha pos pins s σ H _ I h) ?_) hs rfl))
 rintro us s1 ⟨vs,H1,I1,r1,q1⟩
 obtain⟨j,e,q1,q2,q⟩:=q1
 subst e
 cases r1 with
 | cons r rr=>
  cases rr
  obtain⟨t,rfl⟩:=r
  exact call_range_1 (aaS I1 () () q1 q2 (by simpa using q))
def amr(wi:TI)(g:TG)(tb:TS):TS:=λD σ H=>wi σ H λJ H1=>∃W:Nat->Nat->St->Hp->Prop,(∃m,W 0 m σ H1)/\∀i m σ H,W i m σ H->
 (J.stop i H/\D.nx σ H)\/(J.go i H/\∃N:St->Hp->Prop,(∀σ' H',N σ' H'->∃m',m'<m/\W (i+1) m' σ' H')/\∀x H',J.X6 i H x H'->g x σ H' λσ2 H2=>tb {D with nx:=N,ct:=N,bk:=D.nx} σ2 H2)
def J7(fp:List Addr)(h:Heap):List (Addr×Obj):=fp.filterMap λb=>(h.get? b).map λo=>(b,o)
theorem xm(hb:b∈fp)(e:h.get? b=some o):(b,o)∈J7 fp h:=List.mem_filterMap.mpr ⟨b,hb,by rw[e];rfl⟩
theorem YD(hp:p∈J7 fp h):p.1∈fp/\h.get? p.1=some p.2:=by
 obtain⟨b,hb,e⟩:=List.mem_filterMap.mp hp
 cases q:h.get? b with
 | none=>rw[q]at e;cases e
 | some o=>
  rw[q]at e
  have e':(b,o)=p:=xI e
  subst e'
  exact⟨hb,q⟩
theorem Inv.pinned(I:Inv X pins σ H s)(hf:∀b∈fp,Bg X pins H b)(ho:∀b∈fp,∃o,s.heap.get? b=some o/\∀v,o.data≠ .cell v):Inv X (pins++J7 fp s.heap) σ H s:=
 I.wQ λp hp=>(List.mem_append.mp hp).elim (λz=>I.pin p (xE _ z)) λz=>by
  obtain⟨hb,e⟩:=YD z
  obtain⟨f0,f1,f2,_⟩:=hf p.1 hb
  obtain⟨o,e',d⟩:=ho p.1 hb
  rw[e]at e';cases e'
  exact⟨e,f0,f1,f2,d⟩
theorem Inv.Ea(I:Inv X (pins++pl) σ H s):Inv X pins σ H s:=I.wQ λp hp=>I.pin p (xE _ (List.mem_append_left _ hp))
theorem ags(hp:PassesOwn (model X.prog X.w) X.A X.env X.xe)(hc:X.calm=true)(hi:PI X tg iter wi)(hg:PG X tg g)(hb:IV X body tb)
  (hs:∀x,foldedSetIterable iter X.env x=pure x:=by intro _;rfl):PS X (.For tg iter body [] pos) (amr wi g tb):=by
 intro pins s σ H D I h
 refine wpAny_For (fP (hi pins s σ H _ I h) λv s1 h1=>fP h1 λitv s2 h2=> ?_) hs
 obtain⟨it,fp,tn,J,H2,e,I2,T,st2,f2,W,⟨m0,w0⟩,turn⟩:=h2
 subst e
 have stat:∀{H':Hp},(∀b∈fp,H' b=none)->∀b∈fp,Bg X pins H' b:=λhn b hb=>⟨hn b hb,(f2 b hb).2⟩
 refine codeAny_forLoop_any (λn s'=>∃i σ' H',Inv X pins σ' H' s'/\tn i s'.heap/\(∀b∈fp,H' b=none)/\W i n σ' H') ?_ m0 ⟨0,σ,H2,I2,st2,λb hb=>(f2 b hb).1,w0⟩
 rintro n s3 ⟨i,σ3,H3,I3,st3,fr3,w3⟩
 rcases turn i n σ3 H3 w3 with⟨stop,qn⟩ | ⟨go,N,hN,step⟩
 ·refine wpAny_passesOwn hp (fP (T.done X rfl rfl rfl hc i pins s3 σ3 H3 X.xe I3 (stat fr3) st3 stop) ?_)
  rintro r s4 ⟨hr,I4⟩
  subst hr
  exact wpAny_execs_nil ⟨σ3,H3,I4,qn⟩
 ·refine wpAny_passesOwn hp (fP (T.item X rfl rfl rfl hc i pins s3 σ3 H3 X.xe I3 (stat fr3) st3 go) ?_)
  rintro r s4 ⟨u,hr,h4⟩
  subst hr
  refine wpAny_passesOwn hp (fP h4 ?_)
  rintro _ s5 ⟨x,H5,I5,r5,y5,st5,fr5⟩
  have I5':=I5.pinned (stat fr5) (T.obj _ _ st5)
  refine wpAny_passesOwn hp (fP (hg _ s5 σ3 H5 x u _ I5' r5 (step x H5 y5)) ?_)
  rintro _ s6 ⟨σ6,H6,I6,q6⟩
  refine wpAny_passesOwn hp (fP (hb _ s6 σ6 H6 _ I6 q6) λf s7 q7=> ?_)
  have again:∀{ZG:St} {H7:Hp},Inv X (pins++J7 fp s5.heap) ZG H7 s7->N ZG H7->∃m,m<n/\∃i σ' H',Inv X pins σ' H' s7/\tn i s7.heap/\(∀b∈fp,H' b=none)/\W i m σ' H':=λ{ZG H7} I7 n7=>by
   obtain⟨m',hm,w7⟩:=hN ZG H7 n7
   refine⟨m',hm,i+1,ZG,H7,I7.Ea,T.keep _ _ _ st5 λb hb o e=>(I7.pin (b,o) (xE _ (xE _ (xm hb e)))).1,λb hb=> ?_,w7⟩
   obtain⟨o,e,d⟩:=T.obj _ _ st5 b hb
   exact(I7.pin (b,o) (xE _ (xE _ (xm hb e)))).2.1
  cases f with
  | next=>obtain⟨ZG,H7,I7,n7⟩:=q7;exact again I7 n7
  | cont=>obtain⟨ZG,H7,I7,n7⟩:=q7;exact again I7 n7
  | brk=>obtain⟨ZG,H7,I7,q7⟩:=q7;exact⟨ZG,H7,I7.Ea,q7⟩
  | ret v=>obtain⟨x7,ZG,H7,I7,r7,q7⟩:=q7;exact⟨x7,ZG,H7,I7.Ea,r7,q7⟩
end
abbrev R2:=V->V->Hp->VK->Prop
def uy(X:Cx)(f:Value->Value->Sem Value)(r:R2):Prop:=
 ∀(pins:List (Addr×Obj)) (s:Shared) (σ:St) (H:Hp) (x y:V) (v u:Value) (Q:VK),Inv X pins σ H s->RelV x v->RelV y u->r x y H Q->
  wpAny (model X.prog X.w) X.A (f v u) (EP X pins σ Q) X.xe s
def UnR(X:Cx)(f:Value->Sem Value)(r:V->Hp->VK->Prop):Prop:=
 ∀(pins:List (Addr×Obj)) (s:Shared) (σ:St) (H:Hp) (x:V) (v:Value) (Q:VK),Inv X pins σ H s->RelV x v->r x H Q->
  wpAny (model X.prog X.w) X.A (f v) (EP X pins σ Q) X.xe s
def qP(X:Cx)(f:Value)(r:List V->Hp->VK->Prop):Prop:=
 ∀(pins:List (Addr×Obj)) (s:Shared) (σ:St) (H:Hp) (xs:List V) (us:List Value) (Q:VK),Inv X pins σ H s->Vals xs us->r xs H Q->
  wpAny (model X.prog X.w) X.A (call f us) (EP X pins σ Q) X.xe s
def tOp(r:R2)(ta tb:TE):TE:=λσ H Q=>ta σ H λx H1=>tb σ H1 λy H2=>r x y H2 Q
def tUn(r:V->Hp->VK->Prop)(ta:TE):TE:=λσ H Q=>ta σ H λx H1=>r x H1 Q
def rI(C:Int->Int->Prop)(g:Int->Int->V):R2:=λx y H Q=>∃i j,x= .int i/\y= .int j/\C i j/\Q (g i j) H
def ZC(g:Int->Int->V):R2:=λx y H Q=>∃i j,x= .int i/\y= .int j/\Q (g i j) H
def rU(g:Int->V):V->Hp->VK->Prop:=λx H Q=>∃i,x= .int i/\Q (g i) H
section
variable{X:Cx}{a b c:Expr}{ta tb tc:TE}{pos:Pos}
theorem ah1(ha:PE X a ta)(hb:PE X b tb){R:V->V->Hp->Prop}(I:Inv X pins σ H s)
  (h:ta σ H λx H1=>tb σ H1 λy H2=>R x y H2) {Q:Value->Shared->Prop} {f:Value->Value->Sem Value}
  (hf:∀v u s2 x y H2,Inv X pins σ H2 s2->RelV x v->RelV y u->R x y H2->wpAny (model X.prog X.w) X.A (f v u) Q X.xe s2):
  wpAny (model X.prog X.w) X.A (eval a X.env) (λv s₁=>wpAny (model X.prog X.w) X.A (eval b X.env) (λu s₂=>wpAny (model X.prog X.w) X.A (f v u) Q X.xe s₂) X.xe s₁) X.xe s:=by
 refine fP (ha pins s σ H _ I h) ?_
 rintro v s1 ⟨x,H1,I1,r1,q1⟩
 refine fP (hb pins s1 σ H1 _ I1 q1) ?_
 rintro u s2 ⟨y,H2,I2,r2,q2⟩
 exact hf v u s2 x y H2 I2 r1 r2 q2
theorem ajB(ho:uy X (binaryOp op) r)(ha:PE X a ta)(hb:PE X b tb):PE X (.BinOp a op b pos) (tOp r ta tb):=by
 intro pins s σ H Q I h
 exact wpAny_BinOp (ah1 ha hb I h λv u s2 x y H2 I2 rx ry q=>ho pins s2 σ H2 x y v u Q I2 rx ry q)
theorem ajz{r:V->Hp->VK->Prop}(ho:UnR X (unaryOp op) r)(ha:PE X a ta):PE X (.UnaryOp op a pos) (tUn r ta):=by
 intro pins s σ H Q I h
 exact UnaryOp_ (fP (ha pins s σ H _ I h) λv s1 ⟨x,H1,I1,r1,q1⟩=>ho pins s1 σ H1 x v Q I1 r1 q1)
theorem opI{f:Value->Value->Sem Value}{C:Int->Int->Prop}{g:Int->Int->Int}
  (rule:∀(i j:Int) (t u:Tok) (s:Shared) (Q:Value->Shared->Prop) (E:Value->Shared->Prop),C i j->Q (.int (g i j) s.toks) {s with toks:=s.toks+1}->wpAny (model X.prog X.w) X.A (f (.int i t) (.int j u)) Q E s):
  uy X f (rI C λi j=> .int (g i j)):=by
 intro pins s σ H x y v u Q I rx ry h
 obtain⟨i,j,rfl,rfl,hc,q⟩:=h
 obtain⟨t,rfl⟩:=rx
 obtain⟨t',rfl⟩:=ry
 exact rule i j t t' s _ _ hc ⟨.int (g i j),H,I.tok _,⟨_,rfl⟩,q⟩
theorem ad2{f:Value->Value->Sem Value}{g:Int->Int->Int}
  (rule:∀(i j:Int) (t u:Tok) (s:Shared) (Q:Value->Shared->Prop) (E:Value->Shared->Prop),Q (.int (g i j) s.toks) {s with toks:=s.toks+1}->wpAny (model X.prog X.w) X.A (f (.int i t) (.int j u)) Q E s):
  uy X f (ZC λi j=> .int (g i j)):=by
 intro pins s σ H x y v u Q I rx ry h
 obtain⟨i,j,rfl,rfl,q⟩:=h
 obtain⟨t,rfl⟩:=rx
 obtain⟨t',rfl⟩:=ry
 exact rule i j t t' s _ _ ⟨.int (g i j),H,I.tok _,⟨_,rfl⟩,q⟩
theorem ad3{f:Value->Value->Sem Value}{g:Int->Int->Bool}
  (rule:∀(i j:Int) (t u:Tok) (s:Shared) (Q:Value->Shared->Prop) (E:Value->Shared->Prop),Q (.bool (g i j)) s->wpAny (model X.prog X.w) X.A (f (.int i t) (.int j u)) Q E s):
  uy X f (ZC λi j=> .bl (g i j)):=by
 intro pins s σ H x y v u Q I rx ry h
 obtain⟨i,j,rfl,rfl,q⟩:=h
 obtain⟨t,rfl⟩:=rx
 obtain⟨t',rfl⟩:=ry
 exact rule i j t t' s _ _ ⟨.bl (g i j),H,I,rfl,q⟩
def aor(i j:Int):Prop:=0<j/\j<1073741824
def ak6(i j:Int):Prop:=0<=j/\j<=1000000/\i.natAbs<2 ^ 64
def ah_(i j:Int):Prop:=(-(2 ^ 64)<i/\i<2 ^ 64)\/(-(2 ^ 64)<j/\j<2 ^ 64)
theorem ah_.ok(h:ah_ i j):IntMulOk i j:=by
 rcases h with⟨h1,h2⟩ | ⟨h1,h2⟩
 ·exact .of_left (intBits_le_64 h1 h2)
 ·exact .of_right (intBits_le_64 h1 h2)
theorem Uv(k:Nat):(0:Int)<=2 ^ k:=by
 rw[two_pow_cast]
 exact Int.natCast_nonneg _
theorem agZ:uy X (binaryOp .Add) (ZC λi j=> .int (i+j)):=ad2 λ_ _ _ _ _ _ _ q=>add_int q
theorem agL:uy X (binaryOp .Sub) (ZC λi j=> .int (i - j)):=ad2 λ_ _ _ _ _ _ _ q=>sub_int q
theorem agQ:uy X (binaryOp .Mult) (rI ah_ λi j=> .int (i*j)):=opI λ_ _ _ _ _ _ _ hc q=>mul_int q hc.ok
theorem adZ:uy X (binaryOp .FloorDiv) (rI aor λi j=> .int (i / j)):=opI λi j _ _ _ _ _ hc q=>by
 have h1:(0:Int)<j:=hc.1
 have h2:j<1073741824:=hc.2
 exact floordiv_int () (by rw[Int.fdiv_eq_ediv_of_nonneg i ()];exact q) (.inl (PyProof.noPylong_small ()))
theorem agR:uy X (binaryOp .Mod) (rI (λ_ j=>0<j) λi j=> .int (i % j)):=opI λi j _ _ _ _ _ hc q=>by
 have h1:(0:Int)<j:=hc
 exact mod_int' () (by rw[Int.fmod_eq_emod_of_nonneg i ()];exact q)
theorem agO:uy X (binaryOp .Pow) (rI ak6 λi j=> .int (i ^ j.toNat)):=opI λ_ _ _ _ _ _ _ hc q=>pow_int_small hc.1 hc.2.1 hc.2.2 q
theorem agN:uy X (binaryOp .LShift) (rI ak6 λi j=> .int (i*2 ^ j.toNat)):=opI λ_ _ _ _ _ _ _ hc q=>lshift_int_small hc.1 hc.2.1 hc.2.2 q
theorem agM:uy X (binaryOp .RShift) (rI (λ_ j=>0<=j) λi j=> .int (i / 2 ^ j.toNat)):=opI λi j _ _ _ _ _ hc q=>
 rshift_int hc (by rw[Int.fdiv_eq_ediv_of_nonneg i (Uv _)];exact q)
theorem agY:uy X (binaryOp .BitAnd) (ZC λi j=> .int (Builtin.bitAnd i j)):=ad2 λ_ _ _ _ _ _ _ q=>and_int q
theorem ajF:uy X (binaryOp .BitOr) (ZC λi j=> .int (Builtin.bitOr i j)):=ad2 λ_ _ _ _ _ _ _ q=>or_int q
theorem unI{f:Value->Sem Value}{g:Int->Int}
  (rule:∀(i:Int) (t:Tok) (s:Shared) (Q:Value->Shared->Prop) (E:Value->Shared->Prop),Q (.int (g i) s.toks) {s with toks:=s.toks+1}->wpAny (model X.prog X.w) X.A (f (.int i t)) Q E s):
  UnR X f (rU λi=> .int (g i)):=by
 intro pins s σ H x v Q I rx h
 obtain⟨i,rfl,q⟩:=h
 obtain⟨t,rfl⟩:=rx
 exact rule i t s _ _ ⟨.int (g i),H,I.tok _,⟨_,rfl⟩,q⟩
theorem afR:UnR X (unaryOp .USub) (rU λi=> .int (-i)):=unI λ_ _ _ _ _ q=>neg_int q
theorem Qx(I:Inv X pins σ H s)(q:Q (.bl k) H)(e:k=k'):EP X pins σ Q (.bool k') s:=by
 subst e
 exact⟨.bl k,H,I,rfl,q⟩
theorem ajG:uy X (compareOp .Lt) (ZC λi j=> .bl (decide (i<j))):=ad3 λ_ _ _ _ _ _ _ q=>lt_int q
theorem ajH:uy X (compareOp .LtE) (ZC λi j=> .bl (decide (i<=j))):=ad3 λ_ _ _ _ _ _ _ q=>le_int q
theorem ajI:uy X (compareOp .Gt) (ZC λi j=> .bl (decide (j<i))):=ad3 λ_ _ _ _ _ _ _ q=>gt_int q
theorem ajJ:uy X (compareOp .GtE) (ZC λi j=> .bl (decide (j<=i))):=ad3 λ_ _ _ _ _ _ _ q=>ge_int q
theorem Yx:uy X (compareOp .Lt) (λx y H Q=>∃i j,x= .str i/\y= .str j/\Q (.bl (decide (i.cps.toList<j.cps.toList))) H):=by
 intro pins s σ H x y v u Q I rx ry h
 obtain⟨i,j,rfl,rfl,q⟩:=h
 obtain⟨t,rfl⟩:=rx
 obtain⟨t',rfl⟩:=ry
 exact lt_str (Qx I q rfl)
theorem agU:uy X (compareOp .Is) (λx y H Q=>y= .non/\Q (.bl (decide (x= .non))) H):=by
 intro pins s σ H x y v u Q I rx ry h
 obtain⟨rfl,q⟩:=h
 cases ry
 refine is_none_gen (Qx I q ?_)
 cases x<;>first
  | (cases rx;rfl)
  | (obtain⟨t,rfl⟩:=rx;rfl)
theorem adY:uy X (compareOp .IsNot) (λx y H Q=>y= .non/\Q (.bl (!decide (x= .non))) H):=by
 intro pins s σ H x y v u Q I rx ry h
 obtain⟨rfl,q⟩:=h
 cases ry
 refine isnot_none_gen (Qx I q ?_)
 cases x<;>first
  | (cases rx;rfl)
  | (obtain⟨t,rfl⟩:=rx;rfl)
theorem uy.or(h:uy X f r)(h':uy X f r'):uy X f (λx y H Q=>r x y H Q\/r' x y H Q):=by
 intro pins s σ H x y v u Q I rx ry q
 rcases q with q | q
 ·exact h pins s σ H x y v u Q I rx ry q
 ·exact h' pins s σ H x y v u Q I rx ry q
theorem aG(b:Expr)(h:op≠ .In:=by decide)(h2:op≠ .NotIn:=by decide):behindInMarks op b=false:=by
 have e1:(op==CmpOp.In)=false:=by cases op<;>first | rfl | exact absurd rfl h
 have e2:(op==CmpOp.NotIn)=false:=by cases op<;>first | rfl | exact absurd rfl h2
 cases b<;>simp[behindInMarks,e1,e2]
theorem adT(ho:uy X (compareOp op) r)(ha:PE X a ta)(hb:PE X b tb)(hm:behindInMarks op b=false):PE X (.Compare a [op] [b] pos) (tOp r ta tb):=by
 intro pins s σ H Q I h
 exact wpAny_Compare1 (ah1 ha hb I h λv u s2 x y H2 I2 rx ry q=>ho pins s2 σ H2 x y v u Q I2 rx ry q) hm
def ae8(t:TE):TT:=λσ H Q=>t σ H λx H'=>∃k,x= .bl k/\Q k H'
theorem adE(ho:uy X (compareOp op) r)(ha:PE X a ta)(hb:PE X b tb)(hm:behindInMarks op b=false):PT X (.Compare a [op] [b] pos) (ae8 (tOp r ta tb)):=by
 intro pins s σ H Q I h
 refine wpAny_isTrue_Compare1 (fP (ha pins s σ H _ I h) λv s1 ⟨x,H1,I1,r1,q1⟩=>fP (hb pins s1 σ H1 _ I1 q1) λu s2 ⟨y,H2,I2,r2,q2⟩=>
  fP (ho pins s2 σ H2 x y v u _ I2 r1 r2 q2) λc s3 ⟨z,H3,I3,r3,k,e,q3⟩=> ?_) hm
 subst e
 cases r3
 exact wpAny_truthy_bool ⟨H3,I3,q3⟩
theorem Kv:(sizeLine:Nat)<2 ^ 63:=by rw[sizeLine_eq];decide
theorem U_:uy X (binaryOp .Add) (λx y H Q=>∃i j,x= .str i/\y= .str j/\i.length+j.length<=sizeLine/\Q (.str (i++j)) H):=by
 intro pins s σ H x y v u Q I rx ry h
 obtain⟨i,j,rfl,rfl,hz,q⟩:=h
 obtain⟨t,rfl⟩:=rx
 obtain⟨t',rfl⟩:=ry
 exact add_str (λt' tk=>⟨.str (i++j),H,I.tok _,⟨_,rfl⟩,q⟩) hz
theorem vals1(r:Vals [x] us):∃u,us=[u]/\RelV x u:=by
 cases r with
 | cons r1 r2=>cases r2;exact⟨_,rfl,r1⟩
theorem vals2(r:Vals [x,y] us):∃u w',us=[u,w']/\RelV x u/\RelV y w':=by
 cases r with
 | cons r1 r2=>
  cases r2 with
  | cons r3 r4=>cases r4;exact⟨_,_,rfl,r1,r3⟩
theorem Zg(hc:X.calm=true):qP X (.builtin "max") (λxs H Q=>∃i j,xs=[.int i,.int j]/\Q (.int (if j > i then j else i)) H):=by
 intro pins s σ H xs us Q I r h
 obtain⟨i,j,rfl,q⟩:=h
 obtain⟨u,w',rfl,⟨t,rfl⟩,⟨t',rfl⟩⟩:=vals2 r
 refine max_two_ints (I.ok.hd hc) λh' tk k=>⟨_,H,I.kept k,?_,q⟩
 by_cases hj:j > i
 ·rw[if_pos hj,if_pos hj];exact⟨_,rfl⟩
 ·rw[if_neg hj,if_neg hj];exact⟨_,rfl⟩
theorem Zf(hc:X.calm=true):qP X (.builtin "min") (λxs H Q=>∃i j,xs=[.int i,.int j]/\Q (.int (if j<i then j else i)) H):=by
 intro pins s σ H xs us Q I r h
 obtain⟨i,j,rfl,q⟩:=h
 obtain⟨u,w',rfl,⟨t,rfl⟩,⟨t',rfl⟩⟩:=vals2 r
 refine min_two_ints (I.ok.hd hc) λh' tk k=>⟨_,H,I.kept k,?_,q⟩
 by_cases hj:j<i
 ·rw[if_pos hj,if_pos hj];exact⟨_,rfl⟩
 ·rw[if_neg hj,if_neg hj];exact⟨_,rfl⟩
end
structure VM(h:Heap)(x dx C:Addr)(mA:Str->Option Value):Prop where
 obj:h.get? x=some (PySem.W.instObj C dx)
 ns:h.Ns1 dx mA
 ne:dx≠x
theorem YW{h:Heap}{dx:Addr}{mA:Str->Option Value}(n:h.Ns1 dx mA):∃od,h.get? dx=some od/\∀name,PySem.W.lookIn name od=some (mA name):=by
 obtain⟨o,es,ep,ho,hd,hk,_,hm⟩:=n
 refine⟨o,ho,λname=> ?_⟩
 have e:=hm name
 unfold nsFind findBy at e
 rw[<-Array.find?_toList]at e
 unfold PySem.W.lookIn
 rw[hd]
 dsimp only
 split
 ·rename_i y q
  rw[q]at e
  exact congrArg some e
 ·rename_i q
  rw[q]at e
  have a:es.toList.any (·.refKey)=false:=by
   rw[List.any_eq_false]
   intro y hy
   obtain⟨z,t,hkey⟩:=hk y (Array.mem_toList_iff.mp hy)
   simp[DictEntry.refKey,hkey]
  have a':¬es.toList.any (·.refKey)=true:=by rw[a];exact xA
  rw[if_neg a']
  exact congrArg some e
theorem VM.look(I:VM h x dx C mA):∃od,PySem.W.InstAt h x (PySem.W.instObj C dx) C (some od)/\∀name,PySem.W.lookIn name od=some (mA name):=
 let⟨od,ho,hl⟩:=YW I.ns
 ⟨od,⟨I.obj,rfl,rfl,ho⟩,hl⟩
section
variable{prog:Program}{w:World}{A:Around}{E:Value->Shared->Prop}{s:Shared}{K:Frag}{x dx C f:Addr}{mA:Str->Option Value}{name:Str}{v:Value}
theorem get_map{Q:Value->Shared->Prop}(X:K.In s.heap)(I:VM s.heap x dx C mA)(hg:PySem.W.plainGet K C name=true)(hh:PySem.W.hasDictIn K C=true)
  (ha:findIn K (.ref C) name=some none) (hv:mA name=some v) (hv':PySem.W.handedIn v=true) (h:Q v {s with toks:=s.toks+1}):
  wpAny (model prog w) A (getAttr (.ref x) name expr) Q E s:=by
 obtain⟨od,J,hl⟩:=I.look
 exact PySem.W.get_value X J (PySem.W.plainGet_of hg).1 (PySem.W.findObj_own hh ha rfl (by rw[hl,hv])) hv' h
theorem ab0{Q:Value×List Value->Shared->Prop}(X:K.In s.heap)(I:VM s.heap x dx C mA)(hg:PySem.W.plainGet K C name=true)
  (hf:findIn K (.ref C) name=some (some (.ref f))) (ht:isFn K (.ref f)=true) (hv:mA name=none) (h:Q (.ref f,[.ref x]) s):
  wpAny (model prog w) A (getMethod (.ref x) name pl) Q E s:=by
 obtain⟨od,J,hl⟩:=I.look
 exact PySem.W.method_fn X J (PySem.W.plainGet_of hg).1 (PySem.W.plainGet_of hg).2 hf (beq_iff_eq.mp ht) (by show(PySem.W.lookIn name od).map (·.isSome)=some false;rw[hl,hv];rfl) h
theorem adg{Q:Unit->Shared->Prop}(X:K.In s.heap)(I:VM s.heap x dx C mA)
  (hs:findIn K (.ref C) "__setattr__" = some (some (.builtin "object.__setattr__"))) (hp:PySem.W.plainOver K C=true) (ht:PySem.W.takerIn K C name=some none) (hh:PySem.W.hasDictIn K C=true)
  (hw:PySem.Within mA ns) (hsz:ns.length<=sizeLine)
  (h:∀h',VM h' x dx C (λy=>if y=name then some v else mA y)->Heap.SameBut dx s.heap h'->Q .unit {s with heap:=h',toks:=s.toks+2}):
  wpAny (model prog w) A (setAttr (.ref x) name v) Q E s:=by
 obtain⟨od,J,hl⟩:=I.look
 refine PySem.W.set_plain X J hs (PySem.W.osa_open (s:={s with toks:=s.toks+1}) (r:=none) X J hp ht λb=> ?_)
 obtain⟨cd,hc,hd'⟩:=PySem.W.any_some hh
 have hx:s.heap.get? x=some ⟨.ref C,some dx,.plain,#[]⟩:=I.obj
 refine zC (zI (zC (zC (wpAny_loadPart hx (zC (PySem.W.Looks.here (s:={s with toks:=s.toks+1}) (PySem.W.looks_clsIn X hc) ?_))))))
 rw[hd']
 refine zI (a:=some dx) (zC (zI (zC ?_)))
 refine wpAny_nsSet1 (s:={s with toks:=s.toks+1}) I.ns λh' hn2 hs2=> ?_
 obtain⟨oD,esD,epD,hoD,hdD,hcD⟩:=hn2.count (PySem.Within.cons name v hw)
 refine zC (wpAny_lookBehind hoD (by rw[hdD];exact pastItsLine_dict (yY hcD (by rw[List.length_cons];omega))) ?_)
 exact zI (h _ ⟨(hs2.2 _ (Ne.symm I.ne)).trans I.obj,hn2,I.ne⟩ hs2)
theorem abu{R:Result->Shared->Prop}(X:K.In s.heap)(hm:PySem.W.makesIn K C=true)
  (hi:findIn K (.ref C) "__init__" = some (some (.ref f))) (hf:PySem.W.typeIn K (.ref f)=some (.type "function"))
  (h:codeAny (model prog w) (A.under (.builtin "type.__call__" ⟨.ref C::vs,kw⟩)) (.call (.ref f) ⟨.ref (s.heap.objs.size+1)::vs,kw⟩) (PySem.W.InitBack (s.heap.objs.size+1) R)
   {s with heap:=(s.heap.push PySem.W.emptyDict).push (PySem.W.instObj C s.heap.objs.size)}):
  codeAny (model prog w) A (.call (.ref C) ⟨vs,kw⟩) R s:=by
 obtain⟨hh,g,d,t,os⟩:=s
 exact PySem.W.make_core (PySem.W.makes_of X hm) (PySem.W.looks_findIn X hi) (λself=>PySem.W.bind_fn X self hf) (.inl rfl) h
end
noncomputable def uD(f:Str)(v:V):List (Str×V)->List (Str×V)
 | []=>[(f,v)]
 | (g,x)::r=>if g=f then(g,v)::r else(g,x)::uD f v r
theorem Hl(f g:Str)(v:V):∀fs:List (Str×V),(uD f v fs).lookup g=if g=f then some v else fs.lookup g
 | []=>by
  show List.lookup g [(f,v)]=_
  by_cases h:g=f
  ·have hb:(g==f)=true:=beq_iff_eq.mpr h
   simp only[List.lookup,hb,if_pos h]
  ·have hb:(g==f)=false:=beq_eq_false_iff_ne.mpr h
   simp only[List.lookup,hb,if_neg h]
 | (k,x)::r=>by
  have ih:=Hl f g v r
  rw[show uD f v ((k,x)::r)=(if k=f then(k,v)::r else(k,x)::uD f v r)from rfl]
  by_cases hk:k=f
  ·rw[if_pos hk]
   by_cases h:g=k
   ·have hb:(g==k)=true:=beq_iff_eq.mpr h
    simp only[List.lookup,hb,if_pos (h.trans hk)]
   ·have hb:(g==k)=false:=beq_eq_false_iff_ne.mpr h
    simp only[List.lookup,hb,if_neg (λe:g=f=>h (e.trans hk.symm))]
  ·rw[if_neg hk]
   by_cases h:g=k
   ·have hb:(g==k)=true:=beq_iff_eq.mpr h
    simp only[List.lookup,hb,if_neg (λe:g=f=>hk (h.symm.trans e))]
   ·have hb:(g==k)=false:=beq_eq_false_iff_ne.mpr h
    simp only[List.lookup,hb]
    exact ih
theorem Gy(f:Str)(v:V):∀fs:List (Str×V),f∈(uD f v fs).map (·.1)/\∀g,g∈fs.map (·.1)->g∈(uD f v fs).map (·.1)
 | []=>⟨by simp[uD],λg h=>by simp at h⟩
 | (k,x)::r=>by
  obtain⟨i1,i2⟩:=Gy f v r
  rw[show uD f v ((k,x)::r)=(if k=f then(k,v)::r else(k,x)::uD f v r)from rfl]
  by_cases hk:k=f
  ·rw[if_pos hk]
   subst hk
   exact⟨by simp,λg h=>by simpa using h⟩
  ·rw[if_neg hk]
   refine⟨?_,λg h=> ?_⟩
   ·rw[List.map_cons]
    exact yT _ i1
   ·rw[List.map_cons]at h ⊢
    rcases List.mem_cons.mp h with e | e
    ·exact List.mem_cons.mpr (.inl e)
    ·exact yT _ (i2 g e)
theorem Hq(f:Str)(v:V):∀fs:List (Str×V),(uD f v fs).length<=fs.length+1
 | []=>by simp[uD]
 | (k,x)::r=>by
  have ih:=Hq f v r
  rw[show uD f v ((k,x)::r)=(if k=f then(k,v)::r else(k,x)::uD f v r)from rfl]
  by_cases hk:k=f
  ·rw[if_pos hk,List.length_cons,List.length_cons];omega
  ·rw[if_neg hk,List.length_cons,List.length_cons];omega
theorem yI.some_of(r:yI (some v) o):∃u,o=some u/\RelV v u:=by
 cases o with
 | none=>exact(show False from r).elim
 | some u=>exact⟨u,rfl,r⟩
theorem yI.none_of(r:yI none o):o=none:=by
 cases o with
 | none=>rfl
 | some u=>exact(show False from r).elim
theorem Y9(r:RelV v u):PySem.W.handedIn u=true:=by
 cases v with
 | non=>cases(show u=Value.none from r);rfl
 | bl b=>cases(show u=Value.bool b from r);rfl
 | int i=>obtain⟨t,e⟩:=(show ∃t,u=Value.int i t from r);cases e;rfl
 | str x=>obtain⟨t,e⟩:=(show ∃t,u=Value.str x t from r);cases e;rfl
 | byt b=>obtain⟨t,e⟩:=(show ∃t,u=Value.bytes b t from r);cases e;rfl
 | flt b=>obtain⟨t,e⟩:=(show ∃t,u=Value.float b t from r);cases e;rfl
 | ref a=>cases(show u=Value.ref a from r);rfl
 | ty n=>cases(show u=Value.type n from r);rfl
section
variable{P:Program}{w:World}{H H':Hp}{h h':Heap}{a C dx:Addr}{fs fs':List (Str×V)}
theorem Qk(hok:tZ P w H h)(e:H a=some (.ins C dx fs)):∃mA,VM h a dx C mA/\(∀f,yI (fs.lookup f) (mA f))/\PySem.Within mA (fs.map (·.1))/\fs.length<=1000/\H dx=some (.own a):=by
 obtain⟨d,z,ne,ob,mA,n,r,q⟩:=(show dD P w H h a (.ins C dx fs)from hok a _ e)
 exact⟨mA,⟨ob,n,ne⟩,r,q,z,d⟩
end
structure Lz(K:Frag)(C:Addr):Prop where
 pg:PySem.W.plainGet K C Str.empty=true
 hd:PySem.W.hasDictIn K C=true
 po:PySem.W.plainOver K C=true
 sa:findIn K (.ref C) "__setattr__" = some (some (.builtin "object.__setattr__"))
theorem Lz.get{K:Frag}{C:Addr}(c:Lz K C)(f:Str):PySem.W.plainGet K C f=true:=c.pg
def vf(K:Frag)(C:Addr)(f:Str):Prop:=findIn K (.ref C) f=some none
theorem vf.taker{K:Frag}{C:Addr}{f:Str}(n:vf K C f):PySem.W.takerIn K C f=some none:=by
 unfold PySem.W.takerIn
 rw[show findIn K (.ref C) f=some none from n]
 rfl
structure Meth(K:Frag)(C:Addr)(m:Str)(f:Addr):Prop where
 at_:findIn K (.ref C) m=some (some (.ref f))
 fn:isFn K (.ref f)=true
 kp:keepIn K (.ref f)=true
section
variable{X:Cx}{pins:List (Addr×Obj)}{σ:St}{H:Hp}{s:Shared}{a C dx:Addr}{fs:List (Str×V)}{f:Str}{v:V}{A:Around}{E:Value->Shared->Prop}
theorem Vs{Q:Value->Shared->Prop}(I:Inv X pins σ H s)(e:H a=some (.ins C dx fs))(c:Lz X.K C)(n:vf X.K C f)(l:fs.lookup f=some v)
  (h:∀u s',Inv X pins σ H s'->RelV v u->Q u s'):wpAny (model X.prog X.w) A (getAttr (.ref a) f b) Q E s:=by
 obtain⟨mA,O,r,_,_,_⟩:=Qk I.hok e
 obtain⟨u,hu,ru⟩:=yI.some_of (v:=v) (o:=mA f) (by rw[<-l];exact r f)
 exact get_map I.Hr O (c.get f) c.hd n hu (Y9 ru) (h u _ (I.tok _) ru)
theorem KY{Q:Value×List Value->Shared->Prop}(I:Inv X pins σ H s)(e:H a=some (.ins C dx fs))(c:Lz X.K C)(k:Meth X.K C m g)(l:fs.lookup m=none)
  (h:Q (.ref g,[.ref a]) s):wpAny (model X.prog X.w) A (getMethod (.ref a) m pl) Q E s:=by
 obtain⟨mA,O,r,_,_,_⟩:=Qk I.hok e
 have hn:mA m=none:=yI.none_of (by rw[<-l];exact r m)
 exact ab0 I.Hr O (c.get m) k.at_ k.fn hn h
theorem UW{Q:Unit->Shared->Prop}(I:Inv X pins σ H s)(e:H a=some (.ins C dx fs))(c:Lz X.K C)(n:vf X.K C f)(hl:fs.length<1000)(ry:RelV y u)
  (h:∀s',Inv X pins σ (upd H a (.ins C dx (uD f y fs))) s'->Q .unit s'):wpAny (model X.prog X.w) A (setAttr (.ref a) f u) Q E s:=by
 obtain⟨mA,O,r,wi,_,ho⟩:=Qk I.hok e
 have hz:(fs.map (·.1)).length<=sizeLine:=by rw[zao,sizeLine_eq];omega
 refine adg I.Hr O c.sa c.po n.taker c.hd wi hz λh' O' sb=>h _ ?_
 have hd:∃o,h'.get? dx=some o:=let⟨o,_,_,e',_⟩:=O'.ns;⟨o,e'⟩
 refine I.write (x:=a) (e:=dx) (by rw[e];exact zaa) (.inr ho) (λb q hb z=>(sb.2 b hb).trans z) hd ?_
 refine⟨by rw[aL O.ne];exact ho,?_,O.ne,O'.obj,_,O'.ns,λg=> ?_,λg hg=> ?_⟩
 ·have:=Hq f y fs;omega
 ·show yI ((uD f y fs).lookup g) (if g=f then some u else mA g)
  rw[Hl]
  by_cases q:g=f
  ·rw[if_pos q,if_pos q];exact ry
  ·rw[if_neg q,if_neg q];exact r g
 ·by_cases q:g=f
  ·rw[q];exact(Gy f y fs).1
  ·refine(Gy f y fs).2 g (wi g λz=>hg ?_)
   show(if g=f then some u else mA g)=none
   rw[if_neg q];exact z
theorem Inv.made(I:Inv X pins σ H s):Inv X pins σ (upd (upd H s.heap.objs.size (.own (s.heap.objs.size+1))) (s.heap.objs.size+1) (.ins C s.heap.objs.size []))
  {s with heap:=(s.heap.push PySem.W.emptyDict).push (PySem.W.instObj C s.heap.objs.size)}:=by
 have e1:(s.heap.push PySem.W.emptyDict).get? s.heap.objs.size=some PySem.W.emptyDict:=yB s.heap rfl
 have e2:((s.heap.push PySem.W.emptyDict).push (PySem.W.instObj C s.heap.objs.size)).get? (s.heap.objs.size+1)=some (PySem.W.instObj C s.heap.objs.size):=by
  have:=yB (s.heap.push PySem.W.emptyDict) (o:=PySem.W.instObj C s.heap.objs.size) rfl
  rwa [Heap.size_push]at this
 have e3:(s.heap.push PySem.W.emptyDict).Ns s.heap.objs.size (λ_=>none):=⟨PySem.W.emptyDict,#[],_,e1,rfl,(λe he=>absurd he (by simp)),λ_=>rfl⟩
 have I1:=I.laid (a:=s.heap.objs.size) (o:= .own (s.heap.objs.size+1)) (h':=s.heap.push PySem.W.emptyDict) (t':=s.toks) (λb u q=>zD _ q) (zab _) ⟨_,e1⟩
 refine I1.laid (a:=s.heap.objs.size+1) (o:= .ins C s.heap.objs.size []) (t':=s.toks) (λb u q=>zD _ q) (Nat.le_of_eq (Heap.size_push _ _)) ?_
 have ne:s.heap.objs.size≠s.heap.objs.size+1:=xD (Nat.lt_succ_self _)
 refine⟨by rw[aL ne,bB],Nat.zero_le _,ne,e2,λ_=>none,(Heap.Ns1.of_empty e3).at λo q=>zD _ q,λ_=>zaa,λy hy=>absurd rfl hy⟩
theorem aeR{Q:Value->Shared->Prop}(hb:attributeBase e f env (eval e env)=eval e env)
  (h:wpAny (model prog w) A (eval e env) (λo s₁=>wpAny (model prog w) A (getAttr o f true) Q E s₁) E s):wpAny (model prog w) A (eval (.Attribute e f pos) env) Q E s:=
 Attribute_any_ h (by rw[arm_eval_Attribute,hb])
end
def ams(K:Frag)(ta:TE)(f:Str):TE:=λσ H Q=>ta σ H λx H1=>∃a C dx fs v,x= .ref a/\H1 a=some (.ins C dx fs)/\Lz K C/\vf K C f/\fs.lookup f=some v/\Q v H1
def amE(K:Frag)(ta tv:TE)(f:Str):TS:=λD σ H=>tv σ H λy H1=>ta σ H1 λx H2=>∃a C dx fs,x= .ref a/\H2 a=some (.ins C dx fs)/\Lz K C/\vf K C f/\fs.length<1000/\
 D.nx σ (upd H2 a (.ins C dx (uD f y fs)))
section
variable{X:Cx}{o e value:Expr}{f:Str}{pos pos' tpos:Pos}{ta tv:TE}
theorem agD(he:PE X e ta)(hb:attributeBase e f X.env (eval e X.env)=eval e X.env):PE X (.Attribute e f pos) (ams X.K ta f):=by
 intro pins s σ H Q I h
 refine aeR hb (fP (he pins s σ H _ I h) ?_)
 rintro u s1 ⟨x,H1,I1,rx,a,C,dx,fs,v,ex,ea,c,n,l,q⟩
 subst ex
 obtain rfl:u=Value.ref a:=rx
 exact Vs I1 ea c n l λu' s2 I2 ru=>⟨v,H1,I2,ru,q⟩
theorem agt(ha:PE X o ta)(hv:PE X value tv)(hs:swapsWith value (some (.Attribute o f pos')) pos.line X.env=pure false):PS X (.Assign [.Attribute o f pos'] value pos) (amE X.K ta tv f):=by
 intro pins s σ H D I h
 refine plainObj_wpAny_Assign_Attribute (fP (hv pins s σ H _ I h) ?_) hs
 rintro u s1 ⟨y,H1,I1,ry,q⟩
 refine fP (ha pins s1 σ H1 _ I1 q) ?_
 rintro ov s2 ⟨x,H2,I2,rx,a,C,dx,fs,ex,ea,c,n,l,q2⟩
 subst ex
 obtain rfl:ov=Value.ref a:=rx
 exact UW I2 ea c n l ry λs3 I3=>⟨σ,_,I3,q2⟩
end
structure gm(k:Nat)(A:Around):Prop where
 hd:A.handled=none
 dp:A.depth+3*k+5<recursionLimit
 un:A.units+16*k+200<cLine
theorem gm.mono(r:gm k A)(h:j<=k):gm j A:=⟨r.hd,by have:=r.dp;omega,by have:=r.un;omega⟩
theorem gm.deeper(r:gm (k+1) A)(env:Env):gm k (A.deeper env):=
 ⟨r.hd,by have:=r.dp;show A.depth+1+3*k+5<_;omega,by have:=r.un;show A.units+3+16*k+200<_;omega⟩
theorem gm.in1(r:gm (k+1) A):gm k A.in1:=
 ⟨r.hd,by have:=r.dp;show A.depth+3*k+5<_;omega,by have:=r.un;show A.units+1+16*k+200<_;omega⟩
theorem Vf{A:Around}{C:Addr}{us:List Value}{kw:List (Str×Value)}:(A.under (.builtin "type.__call__" ⟨.ref C::us,kw⟩)).depth=A.depth+1:=by
 first | rfl | simp[Around.under,Code.weight,Code.isCreation,Code.isGuard,Code.isCaller,Code.frames,Code.isFrame,guardIds]
theorem Ve{A:Around}{C:Addr}{us:List Value}{kw:List (Str×Value)}:(A.under (.builtin "type.__call__" ⟨.ref C::us,kw⟩)).units=A.units+1:=by
 first | rfl | simp[Around.under,Code.cUnits,Code.frames,Code.isFrame]
theorem gm.make(r:gm (k+1) A)(C:Addr)(us:List Value)(kw:List (Str×Value)):gm k (A.under (.builtin "type.__call__" ⟨.ref C::us,kw⟩)):=
 ⟨r.hd,by have:=r.dp;rw[Vf];omega,by have:=r.un;rw[Ve];omega⟩
theorem gm.depth(r:gm k A):A.depth<recursionLimit:=by have:=r.dp;omega
theorem gm.units(r:gm k A):A.units+64<cLine:=by have:=r.un;omega
def afW:TA:=λ_ H Q=>Q [] H
def aiY(ta:TE)(tr:TA):TA:=λσ H Q=>ta σ H λx H1=>tr σ H1 λxs H2=>Q (x::xs) H2
section
variable{X:Cx}{e:Expr}{es:List Expr}{te:TE}{t:TA}{pos:Pos}
theorem agF:PA X [] afW:=λ_ _ _ _ H Q I h=>Calls.spliced_nil ⟨[],H,I,.nil,h⟩
theorem adV(ha:PE X e te)(hr:PA X es t)(hs:starEach (e::es) X.env=(false,eval e X.env)::starEach es X.env:=by rfl):PA X (e::es) (aiY te t):=by
 intro pos pins s σ H Q I h
 rw[hs]
 show wpAny _ _ (spliced ((false,eval e X.env)::backTo pos (starEach es X.env))) _ _ s
 refine Calls.spliced_cons (fP (ha pins s σ H _ I h) ?_)
 rintro u s1 ⟨x,H1,I1,r1,q1⟩
 exact fP (hr pos pins s1 σ H1 _ I1 q1) λus s2 ⟨xs,H2,I2,r2,q2⟩=>⟨x::xs,H2,I2,.cons r1 r2,q2⟩
def ami(t:TA):TE:=λσ H Q=>t σ H λxs H1=>xs.length<=sizeLine/\∀p,H1 p=none->Q (.ref p) (upd H1 p (.tup xs))
def amo(t:TA):TE:=λσ H Q=>t σ H λxs H1=>xs.length<=sizeLine/\∀p,H1 p=none->Q (.ref p) (upd H1 p (.lst xs))
theorem agw{x1}(h:PA X es t):PE X (.Tuple es x1 pos) (ami t):=by
 intro pins s σ H Q I hq
 refine wpAny_Tuple_spliced (fP (h pos pins s σ H _ I hq) λus s1 ⟨xs,H1,I1,r,z,q⟩=>⟨by rw[<-r.length];exact z,?_⟩)
 have hf:H1 s1.heap.objs.size=none:=I1.hok.fresh (zab _)
 refine⟨.ref s1.heap.objs.size,upd H1 s1.heap.objs.size (.tup xs),I1.laid (t':=s1.toks) (λb u e=>zD _ e) (zab _) ?_,rfl,q _ hf⟩
 exact⟨z,us,r,⟨_,yB _ rfl,rfl,_,rfl⟩⟩
theorem agB(h:PA X es t):PE X (.List es pos) (amo t):=by
 intro pins s σ H Q I hq
 refine wpAny_List_spliced (fP (h pos pins s σ H _ I hq) λus s1 ⟨xs,H1,I1,r,z,q⟩=>⟨by rw[<-r.length];exact z,?_⟩)
 have hf:H1 s1.heap.objs.size=none:=I1.hok.fresh (zab _)
 refine⟨.ref s1.heap.objs.size,upd H1 s1.heap.objs.size (.lst xs),I1.laid (t':=s1.toks) (λb u e=>zD _ e) (zab _) ?_,rfl,q _ hf⟩
 exact⟨z,us,0,r,yB _ rfl⟩
end
abbrev Sp:=List V->Hp->VK->XK->Prop
abbrev VR:=List Env->Hp->Shared->XK->Value->Shared->Prop
structure MF(P:Program)(w:World)(K:Frag)(mg:Str->Option Value)(base:Heap)(A:Around)(outer:List Env)(s:Shared)(H:Hp):Prop where
 frames:A.frames=some outer
 mod:Mod K mg base
 bs:∀b o,base.get? b=some o->s.heap.get? b=some o/\H b=none
 XD:base.objs.size<=s.heap.objs.size
 Al:s.heap.FunFrames base outer
 frf:∀b∈frs outer,H b=none
 hok:tZ P w H s.heap
 bare:AllBare s.gens
def CE(outer:List Env)(P:Program)(w:World)(H:Hp)(s:Shared)(Q:VK)(u:Value)(s':Shared):Prop:=
 ∃v H',s'.os=s.os/\AllBare s'.gens/\Un (frs outer) [] H H' s.heap s'.heap/\tZ P w H' s'.heap/\RelV v u/\Q v H'
def CR(CX:VR)(outer:List Env)(P:Program)(w:World)(H:Hp)(s:Shared)(Q:VK)(E:XK)(r:Result)(s':Shared):Prop:=
 match r with
 | .ok (.ret u)=>CE outer P w H s Q u s'
 | .ok _=>False
 | .error e=>CX outer H s E e s'
structure gw(P:Program)(w:World)(K:Frag)(mg:Str->Option Value)(base:Heap)(CX:VR)(k:Nat)(f:Addr)(fd:FuncData)(ps:List Str)(sp:Sp):Prop where
 len:∀vs H Q E,sp vs H Q E->vs.length=ps.length
 run:∀(A:Around) (outer:List Env) (s:Shared) (H:Hp) (args:Args) (us:List Value) (vs:List V) (Q:VK) (E:XK),gm k A->MF P w K mg base A outer s H->BindsTo s fd args (ps.zip us)->Vals vs us->sp vs H Q E->
  codeAny (model P w) A (.call (.ref f) args) (CR CX outer P w H s Q E) s
theorem gw.imp{P:Program}{w:World}{K:Frag}{mg:Str->Option Value}{base:Heap}{CX:VR}{k:Nat}{f:Addr}{fd:FuncData}{ps:List Str}{sp sp':Sp}(F:gw P w K mg base CX k f fd ps sp)
  (h:∀vs H Q E,sp' vs H Q E->sp vs H Q E):gw P w K mg base CX k f fd ps sp':=
 ⟨λvs H Q E q=>F.len vs H Q E (h _ _ _ _ q),λA outer s H args us vs Q E hr he hb hv hs=>F.run A outer s H args us vs Q E hr he hb hv (h _ _ _ _ hs)⟩
theorem MF.make{P:Program}{w:World}{K:Frag}{mg:Str->Option Value}{base:Heap}{A:Around}{outer:List Env}{s:Shared}{H:Hp}(e:MF P w K mg base A outer s H)(C:Addr)(us:List Value)(kw:List (Str×Value)):
  MF P w K mg base (A.under (.builtin "type.__call__" ⟨.ref C::us,kw⟩)) outer s H:=⟨by first | exact e.frames | (simpa[Around.under,Code.envs,Code.isFrame,pushEnvs]using e.frames),e.mod,e.bs,e.XD,e.Al,e.frf,e.hok,e.bare⟩
theorem MF.in1{P:Program}{w:World}{K:Frag}{mg:Str->Option Value}{base:Heap}{A:Around}{outer:List Env}{s:Shared}{H:Hp}(e:MF P w K mg base A outer s H):
  MF P w K mg base A.in1 outer s H:=⟨e.frames,e.mod,e.bs,e.XD,e.Al,e.frf,e.hok,e.bare⟩
section
variable{X:Cx}{pins:List (Addr×Obj)}{σ:St}{H:Hp}{s s':Shared}
theorem Inv.env0(I:Inv X pins σ H s):MF X.prog X.w X.K X.mg X.base X.A X.stack s H:=
 ⟨I.ok.frames,I.ok.mod,I.bs,yY I.ok.XD I.sz,I.stack,I.Jc,I.hok,I.bare⟩
theorem Inv.after(I:Inv X pins σ H s)(h:CE X.stack X.prog X.w H s Q u s'):EP X pins σ Q u s':=by
 obtain⟨v,H',os,bare,un,hok,r,q⟩:=h
 obtain⟨hh,g,d,t,os'⟩:=s'
 obtain rfl:os'=s.os:=os
 exact⟨v,H',I.call (h':=hh) (g':=g) (d':=d) (t':=t) (ch:=[]) un hok bare (λb z=>absurd z (by simp)),r,q⟩
end
def Binds(K:Frag)(fd:FuncData)(ps:List Str)(ds:List Value):Prop:=
 ∀(s:Shared) (us:List Value),K.In s.heap->(us++ds).length=ps.length->BindsTo s fd ⟨us,[]⟩ (ps.zip (us++ds))
theorem Binds.all{K:Frag}{fd:FuncData}{ps:List Str}(h:∀us:List Value,us.length=ps.length->bindArgs fd ⟨us,[]⟩=pure (ps.zip us)):Binds K fd ps []:=λs us _ hl=>by
 rw[List.append_nil]at hl ⊢
 exact .of_eq (h us hl)
section
variable{X:Cx}{CX:VR}{k:Nat}{f C:Addr}{fd:FuncData}{ps:List Str}{sp:Sp}{yH:List V}{ds:List Value}{E:XK}{x m:Str}{p pos apos:Pos}{e o:Expr}{es:List Expr}{ta:TE}{t:TA}
structure Mk(K:Frag)(C f:Addr):Prop where
 makes:PySem.W.makesIn K C=true
 init:findIn K (.ref C) "__init__" = some (some (.ref f))
 fn:isFn K (.ref f)=true
 kp:keepIn K (.ref C)=true
end
structure pL(N P:List Str)(sc:Scope):Prop where
 kind:sc.kind= .function
 co:sc.isCoroutine=false
 gen:sc.isGenerator=false
 nd:N.Nodup
 pre:N.take P.length=P
 par:∀x∈P,sc.names.lookup x=some .local\/sc.names.lookup x=some .cell
 ag1:∀y∈sc.names,y.2≠ .free
theorem N_{kindOf:Str->Option NameKind}{x:Str}:∀{binds:List (Str×Value)} {m:Str->Option Value},(∀v,(x,v)∉binds)->bindL kindOf binds m x=m x
 | [],_,_=>rfl
 | (n,v)::r,m,h=>by
  unfold bindL
  rw[N_ λw hw=>h w (yT _ hw)]
  split
  ·have:x≠n:=by rintro rfl;exact h v xB
   simp[this]
  ·rfl
theorem Ob{kindOf:Str->Option NameKind}{x:Str}:∀{binds:List (Str×Value)} {m:Str->Option Value},(∀v,(x,v)∉binds)->bindC kindOf binds m x=m x
 | [],_,_=>rfl
 | (n,v)::r,m,h=>by
  unfold bindC
  rw[Ob λw hw=>h w (yT _ hw)]
  split
  ·rfl
  ·have:x≠n:=by rintro rfl;exact h v xB
   simp[this]
theorem Oa{kindOf:Str->Option NameKind}{x:Str}:∀{P:List Str} {vs:List Value} {i:Nat} {m:Str->Option Value},P.Nodup->P[i]? = some x->vs[i]? = some v->kindOf x=some .local->
  bindL kindOf (P.zip vs) m x=some v
 | [],_,_,_,_,h,_,_=>by simp at h
 | _::_,[],_,_,_,_,h,_=>by simp at h
 | p::P,w::vs,0,m,nd,h1,h2,hk=>by
  simp at h1 h2;subst h1;subst h2
  show bindL kindOf ((p,w)::P.zip vs) m p=_
  unfold bindL
  rw[N_ λv hv=>(List.nodup_cons.mp nd).1 (List.of_mem_zip hv).1,if_pos hk]
  simp
 | p::P,w::vs,i+1,m,nd,h1,h2,hk=>by
  show bindL kindOf ((p,w)::P.zip vs) m x=_
  unfold bindL
  exact Oa (i:=i) (List.nodup_cons.mp nd).2 (by simpa using h1) (by simpa using h2) hk
theorem Oc{kindOf:Str->Option NameKind}{x:Str}:∀{P:List Str} {vs:List Value} {i:Nat} {m:Str->Option Value},P.Nodup->P[i]? = some x->vs[i]? = some v->kindOf x≠some .local->
  bindC kindOf (P.zip vs) m x=some v
 | [],_,_,_,_,h,_,_=>by simp at h
 | _::_,[],_,_,_,_,h,_=>by simp at h
 | p::P,w::vs,0,m,nd,h1,h2,hk=>by
  simp at h1 h2;subst h1;subst h2
  show bindC kindOf ((p,w)::P.zip vs) m p=_
  unfold bindC
  rw[Ob λv hv=>(List.nodup_cons.mp nd).1 (List.of_mem_zip hv).1,if_neg hk]
  simp
 | p::P,w::vs,i+1,m,nd,h1,h2,hk=>by
  show bindC kindOf ((p,w)::P.zip vs) m x=_
  unfold bindC
  exact Oc (i:=i) (List.nodup_cons.mp nd).2 (by simpa using h1) (by simpa using h2) hk
def start(N:List Str)(vs:List V):St:=vs.map some++List.replicate (N.length - vs.length) none
noncomputable def vY(CX:VR)(P:Program)(w:World)(K:Frag)(mg:Str->Option Value)(base:Heap)(N:List Str)(qual:Str)(scope:Scope)(f:Addr)(cd:Value)(A:Around)(outer:List Env)(s:Shared)(H:Hp)(E:XK):Cx where
 prog:=P
 w:=w
 K:=K
 mg:=mg
 base:=base
 A:=A.deeper (envOfC qual scope s.heap.objs.size f cd)
 N:=N
 s₀:=s
 H₀:=H
 env:=envOfC qual scope s.heap.objs.size f cd
 outer:=outer
 stack:=envOfC qual scope s.heap.objs.size f cd::outer
 ex:=[]
 calm:=true
 fn:=λ_=>true
 pn:=[]
 xe:=λe s'=>wpAny (model P w) (A.deeper (envOfC qual scope s.heap.objs.size f cd)) (leaving (envOfC qual scope s.heap.objs.size f cd) e) (λ_ s''=>CX outer H s E e s'') (λe' s''=>CX outer H s E e' s'') s'
theorem T5{sc:Scope}{n:Nat}{x:Str}(h:sc.names.lookup x=some .cell):∃c,(cellsFrom n sc.names []).lookup x=some c:=by
 have q:=PySem.W.cellsFrom_some sc.names n [] (.inl h)
 exact Option.isSome_iff_exists.mp q
theorem Y6{CX:VR}{P:Program}{w:World}{K:Frag}{mg:Str->Option Value}{base:Heap}{N ps:List Str}{qual:Str}{scope:Scope}{f:Addr}{cd:Value}{A:Around}{outer:List Env}{s s1:Shared}{H:Hp}{E:XK}{us:List Value}{vs:List V}
  (S:pL N ps scope) (hd:A.handled=none) (e0:MF P w K mg base A outer s H) (hl:vs.length=ps.length) (r:Vals vs us)
  (x:InCallC s s.heap.objs.size (bindL (envOfC qual scope s.heap.objs.size f cd).kindOf (ps.zip us) λ_=>none) (cellsFrom (s.heap.objs.size+1) scope.names []) (bindC (envOfC qual scope s.heap.objs.size f cd).kindOf (ps.zip us) λ_=>none) s1):
  Inv (vY CX P w K mg base N qual scope f cd A outer s H E) [] (start N vs) H s1:=by
 have hpl:ps.length<=N.length:=by have:=congrArg List.length S.pre;rw[List.length_take]at this;omega
 obtain⟨h1,tk,rfl,hk⟩:=x.done
 have noA:∀b:Addr,b∉(vY CX P w K mg base N qual scope f cd A outer s H E).ex:=λb z=>absurd (show b∈([]:List Addr)from z) (by simp)
 refine⟨⟨e0.mod,S.kind,rfl,rfl,zab _,λy z c h1 h2=> ?_,λy hy=> ?_,λy c _ h=> ?_,λ_=>hd,Around.frames_deeper e0.frames,.inr ⟨rfl,rfl⟩,λb z=>absurd z (noA b),e0.bs,e0.XD,λb _ _=>noA b,λb z=>absurd z (noA b),e0.Al,e0.frf⟩,
  rfl,e0.bare,Un.kept hk,⟨_,x.toInCall.ns,λi y v h1 h2 h3=> ?_⟩,λy c h=>⟨_,x.cell y c h⟩,e0.hok.fresh (zab _),λy c h=> ?_,λp hp=>absurd (show p∈([]:List (Addr×Obj))from hp) (by simp),e0.hok.kept hk,?_⟩
 ·exact name_of_addr x.apart (PySem.mem_of_lookup h1) (PySem.mem_of_lookup h2)
 ·have hy:scope.names.lookup y=some .cell\/scope.names.lookup y=some .free:=hy
  rcases hy with hy | hy
  ·exact T5 hy
  ·exact absurd rfl (S.ag1 _ (PySem.mem_of_lookup hy))
 ·exact Nat.le_of_lt (x.above y c (PySem.mem_of_lookup h))
 ·have hi:i<vs.length:=by
   unfold start at h2
   by_cases hi:i<vs.length
   ·exact hi
   ·rw[zad (by simpa using hi)]at h2
    rw[List.getElem?_replicate]at h2
    split at h2<;>cases h2
  have ha:vs[i]? = some v:=by
   unfold start at h2
   rw[zae (by simpa using hi),zan]at h2
   cases e:vs[i]? with
   | none=>rw[e]at h2;cases h2
   | some a=>rw[e]at h2;cases h2;rfl
  obtain⟨u,hu,rv⟩:=r.get ha
  have hp:ps[i]? = some y:=by
   rw[<-S.pre,List.getElem?_take_of_lt ()];exact h1
  have ndP:ps.Nodup:=by rw[<-S.pre];exact S.nd.sublist (List.take_sublist _ _)
  refine⟨u,rv,?_⟩
  rcases S.par y (jS hp)with k | k
  ·exact .inl ⟨k,Oa ndP hp hu k⟩
  ·obtain⟨c,e⟩:=T5 (n:=s.heap.objs.size+1) k
   refine .inr ⟨.inl k,c,e,?_⟩
   have q:=x.cell y c e
   rw[Oc ndP hp hu (by show scope.names.lookup y≠_;rw[k];decide)]at q
   exact q
 ·exact e0.hok.fresh (Nat.le_of_lt (x.above y c (PySem.mem_of_lookup h)))
 ·unfold start
  show _=N.length
  rw[List.length_append,zao,List.length_replicate]
  omega
theorem ab8{CX:VR}{P:Program}{w:World}{K:Frag}{mg:Str->Option Value}{base:Heap}{k:Nat}{f:Addr}{name qual:Str}{params:Arguments}{body:List Stmt}{scope:Scope}{dV kV doc pm cdv ct oc:Value}{an od:Option Addr}
  {osl:Array (Option Value)} {N ps:List Str} {sp:Sp} (lk:K.lookup f=some ⟨oc,od,.func (fnOf name qual params body scope dV kV doc pm an cdv ct),osl⟩) (hcd:codeIn K cdv qual=true) (S:pL N ps scope)
  (len:∀vs H Q E,sp vs H Q E->vs.length=ps.length)
  (hbody:∀(A:Around) (outer:List Env) (s:Shared) (H:Hp) (vs:List V) (Q:VK) (E:XK),gm k (A.deeper (envOfC qual scope s.heap.objs.size f cdv))->sp vs H Q E->
   ∃t,IV (vY CX P w K mg base N qual scope f cdv A outer s H E) body t/\t {nx:=λ_ H'=>Q .non H',rt:=Q} (start N vs) H):
  gw P w K mg base CX (k+1) f (fnOf name qual params body scope dV kV doc pm an cdv ct) ps sp:=by
 refine⟨len,λA outer s H args us vs Q E hr e0 hb r hsp=> ?_⟩
 have hl:=len _ _ _ _ hsp
 have KX:K.In s.heap:=e0.mod.kin.keeps λb o e=>(e0.bs b o e).1
 have lim:s.heap.NoLimit:=e0.mod.nolimit.keeps λb o e=>(e0.bs b o e).1
 have hkind:∀y∈ps.zip us,scope.names.lookup y.1=some .local\/(scope.names.lookup y.1=some .cell/\((cellsFrom (s.heap.objs.size+1) scope.names []).lookup y.1).isSome=true):=λ⟨n,v⟩ hy=>by
  rcases S.par n (List.of_mem_zip hy).1 with q | q
  ·exact .inl q
  ·exact .inr ⟨q,PySem.W.cellsFrom_some _ _ _ (.inl q)⟩
 refine codeAny_call_function hr.depth (KX _ _ lk) rfl S.co S.gen rfl (PySem.W.codeRec_of KX hcd) (hb _ _ _ _ ?_)
 refine wpAny_newFunctionEnv_cells S.kind hkind λenv he s1 x=> ?_
 subst he
 refine⟨lim.keeps x.toInCall.keep,codeAny_func ?_⟩
 obtain⟨t,ht,hq⟩:=hbody A outer s H vs Q E (hr.deeper _) hsp
 have I:Inv (vY CX P w K mg base N qual scope f cdv A outer s H E) [] (start N vs) H s1:=Y6 S hr.hd e0 hl r x
 refine vE (ht [] s1 (start N vs) H _ I hq) (λfl s' hs=> ?_) λe s' hs=>hs
 have fin:∀{σ':St} {H':Hp} {v:V} {u:Value},Inv (vY CX P w K mg base N qual scope f cdv A outer s H E) [] σ' H' s'->RelV v u->Q v H'->CE outer P w H s Q u s':=
  λ{σ' H' v u} J rv q=>⟨v,H',J.os,J.bare,J.base,J.hok,rv,q⟩
 cases fl with
 | ret u=>
  obtain⟨v,σ',H',J,rv,q⟩:=hs
  exact fin J rv q
 | next=>
  obtain⟨σ',H',J,q⟩:=hs
  exact fin (v:=V.non) (u:=Value.none) J rfl q
 | brk=>
  obtain⟨_,_,_,q⟩:=hs
  exact False.elim q
 | cont=>
  obtain⟨_,_,_,q⟩:=hs
  exact False.elim q
section
variable{X:Cx}{x:Str}{p pos:Pos}{e:Expr}{es:List Expr}{t:TA}{id T:String}{r:List V->Hp->VK->Prop}
def tCB(r:List V->Hp->VK->Prop)(t:TA):TE:=λσ H Q=>t σ H λvs H1=>r vs H1 Q
theorem abd(hc:qP X (.builtin id) r)(hg:Gl X x)(hm:X.mg x=none)(hv:bootBuiltins x=some (.builtin id))(ha:PA X (e::es) t)(hn:x≠ "__name__" := by decide)(hdb:(x==("__debug__" : Str))=false:=by decide)
  (he:starEach (e::es) X.env=(false,eval e X.env)::starEach es X.env:=by rfl) (hpl:(backTo pos (starEach es X.env)).any (·.1)=false:=by rfl):PE X (.Call (.Name x p) (e::es) [] pos) (tCB r t):=by
 intro pins s σ H Q I h
 refine wpAny_Call_Name_kw (Gw I hg hm hv ?_ hn hdb)
 exact PyProof.Rows.callWith_builtin1 (fP (ha pos pins s σ H _ I h) λus s1 ⟨vs,H1,I1,r1,q1⟩=>hc pins s1 σ H1 vs us Q I1 r1 q1) he hpl
theorem Yu(hc:qP X (.type T) r)(hg:Gl X x)(hm:X.mg x=none)(hv:bootBuiltins x=some (.type T))(ha:PA X (e::es) t)(hn:x≠ "__name__" := by decide)(hdb:(x==("__debug__" : Str))=false:=by decide)
  (he:starEach (e::es) X.env=(false,eval e X.env)::starEach es X.env:=by rfl) (hpl:(backTo pos (starEach es X.env)).any (·.1)=false:=by rfl):PE X (.Call (.Name x p) (e::es) [] pos) (tCB r t):=by
 intro pins s σ H Q I h
 refine wpAny_Call_Name_kw (Gw I hg hm hv ?_ hn hdb)
 exact PyProof.Rows.callWith_type1 (fP (ha pos pins s σ H _ I h) λus s1 ⟨vs,H1,I1,r1,q1⟩=>hc pins s1 σ H1 vs us Q I1 r1 q1) he hpl
end
end L2
namespace HT
open PySem PyProof.Rows
noncomputable def lexLt:List Int->List Int->Bool
 | [],[]=>false
 | [],_::_=>true
 | _::_,[]=>false
 | x::xs,y::ys=>if x=y then lexLt xs ys else decide (x<y)
theorem bG(x y:Int)(xs ys:List Int):lexLt (x::xs) (y::ys)=if x=y then lexLt xs ys else decide (x<y):=rfl
theorem Ms:lexLt [] []=false:=rfl
theorem Kw(y:Int)(ys:List Int):lexLt [] (y::ys)=true:=rfl
theorem Ky(x:Int)(xs:List Int):lexLt (x::xs) []=false:=rfl
theorem acj(A:Around)(s:Shared)(a:Int)(t:Tok)(c:Int)(u:Tok):∃e,SeqAt.EqAt A s (.int a t) (.int c u) e/\(e=true↔a=c):=
 ⟨(a==c),SeqAt.EqAt.int_int a t c u,by simp⟩
theorem aaR(A:Around)(s:Shared)(a:Int)(t:Tok)(c:Int)(u:Tok)(prog:Program)(w:World)(E:Value->Shared->Prop)(Q:Value->Shared->Prop)(h:Q (.bool (decide (a<c))) s):
  wpAny (model prog w) A (richCompare .Lt (.int a t) (.int c u)) Q E s:=
 (PyProof.Rows.lt_int h:wpAny (model prog w) A (compareOp .Lt (.int a t) (.int c u)) Q E s)
section
open PySem.SeqAt
open PySem.AutoSeq1 (wpAny_loadPart')
open PySem.MeetsSeq PySem.MeetsSeq2 PySem.MeetsSeq3
theorem LQ(l b:Addr)(items items2:Array Value)(n n2:Nat)(dd dd2:Option Addr)(sl sl2:Array (Option Value))(ns ms:List Int)(hi:IntsAre items.toList ns)(hj:IntsAre items2.toList ms):
  Meets (Builtin.«tuple.__lt__» ⟨[.ref l,.ref b],[]⟩)
   (λ_ R s=>s.heap.get? l=some {cls:= .type "tuple",dict:=dd,data:= .seq items n,slots:=sl}/\s.heap.get? b=some {cls:= .type "tuple",dict:=dd2,data:= .seq items2 n2,slots:=sl2}/\
    R (.ok (.ret (.bool (lexLt ns ms)))) s):=
 .of_wp λprog w A R s h=>by
  obtain⟨hp,g,d,tk,os⟩:=s;obtain⟨hl,hb,h⟩:=h
  have f2:=AutoSeq1.sub_tuple_tuple
  have z1:items.size=ns.length:=by rw[<-hi.length];simp
  have z2:items2.size=ms.length:=by rw[<-hj.length];simp
  wp_walk using wpAny_loadPart' hl,wpAny_loadPart' hb,wpAny_forIn_list _ (λrest b s'=>b.1=none/\s'=⟨hp,g,d,tk,os⟩/\∃(vs ws:List Value) (ns' ms':List Int),rest=vs.zip ws/\
   IntsAre vs ns'/\IntsAre ws ms'/\ns'.length+items2.size=ms'.length+items.size/\R (.ok (.ret (.bool (lexLt ns' ms')))) ⟨hp,g,d,tk,os⟩) _
  case turn=>
   rintro⟨y,x⟩ rest b s' ⟨hb',rfl,vs,ws,ns',ms',hz,hvi,hwi,hlen,hR⟩
   cases hvi with
   | nil=>rw[List.zip_nil_left]at hz;cases hz
   | cons a t anj=>
    cases hwi with
    | nil=>rw[List.zip_nil_right]at hz;cases hz
    | cons c u ani=>
     rw[List.zip_cons_cons]at hz
     injection hz with hyx hrest
     injection hyx with hy hx
     subst hy hx
     rw[bG]at hR
     simp only[List.length_cons]at hlen
     obtain⟨e,he,hiff⟩:=acj A.in1 ⟨hp,g,d,tk,os⟩ a t c u
     refine zC (he prog w _ _ ?_)
     cases e with
     | true=>
      rw[if_pos (hiff.mp rfl)]at hR
      wp_walk
      exact⟨rfl,rfl,_,_,_,_,hrest,anj,ani,(),hR⟩
     | false=>
      rw[if_neg (λq=>absurd (hiff.mpr q) xA)]at hR
      have hri:=aaR A.in1 ⟨hp,g,d,tk,os⟩ a t c u prog w
      wp_walk using hri
      exact⟨_,rfl,by simpa using hR⟩
  case fin=>
   rintro⟨b1,b2⟩ s' ⟨hb',rfl,vs,ws,ns',ms',hz,hvi,hwi,hlen,hR⟩
   simp only at hb'
   subst hb'
   have hv:lexLt ns' ms'=decide (items.size<items2.size):=by
    cases hvi with
    | nil=>
     cases hwi with
     | nil=>
      simp only[List.length_nil]at hlen
      rw[Ms]
      exact(zaf ()).symm
     | cons c u hw=>
      simp only[List.length_nil,List.length_cons]at hlen
      rw[Kw]
      exact(zag ()).symm
    | cons a t hv=>
     cases hwi with
     | nil=>
      simp only[List.length_nil,List.length_cons]at hlen
      rw[Ky]
      exact(zaf ()).symm
     | cons c u hw=>
      rw[List.zip_cons_cons]at hz
      cases hz
   rw[hv]at hR
   wp_walk
   exact⟨_,rfl,by simpa[Builtin.Tuple.tupleCompareSizes]using hR⟩
  case h=>
   exact⟨rfl,rfl,items.toList,items2.toList,ns,ms,rfl,hi,hj,(),h⟩
end
section
variable{prog:Program}{w:World}{A:Around}{E:Value->Shared->Prop}{s:Shared}
theorem Ks{Q:Value->Shared->Prop}(hl:IsTup s.heap l items)(hb:IsTup s.heap b items2)(hi:IntsAre items.toList ns)(hj:IntsAre items2.toList ms)
  (hu:A.units<cLine) (h:Q (.bool (lexLt ns ms)) s):wpAny (model prog w) A (compareOp .Lt (.ref l) (.ref b)) Q E s:=by
 obtain⟨⟨cls,dd,data,sl⟩,ho,hc,n,hd⟩:=id hl
 obtain⟨⟨cls2,dd2,data2,sl2⟩,ho2,hc2,n2,hd2⟩:=id hb
 simp only at hc hd hc2 hd2
 subst hc hd hc2 hd2
 exact richCompare_meets_room (op:= .Lt) ⟨_,ho,rfl⟩ ⟨_,ho2,rfl⟩ PySem.F.slot_tuple_lt PySem.F.entry_tuple_lt (PySem.F.args_tuple_lt_2 _ _) (LQ l b items items2 n n2 dd dd2 sl sl2 ns ms hi hj)
  ⟨ho,ho2,show Value.bool (lexLt ns ms)≠Value.notImplemented/\Q (.bool (lexLt ns ms)) s from⟨(λx=>nomatch x),h⟩⟩ hu
theorem aeH{Q:Value->Shared->Prop}(ht:IsTup s.heap t vs.toArray)(hb:IsTup s.heap b ws.toArray)(hv:vs≠[])
  (h1:ws=[]->Q (.ref t) s) (h2:ws≠[]->Q (.ref s.heap.objs.size) {s with heap:=s.heap.push {cls:= .type "tuple",data:= .seq (vs++ws).toArray}})
  (hsz:vs.length+ws.length<=sizeLine):wpAny (model prog w) A (binaryOp .Add (.ref t) (.ref b)) Q E s:=by
 obtain⟨⟨cls,dd,data,sl⟩,ho,hc,n,hd⟩:=id ht
 obtain⟨⟨cls2,dd2,data2,sl2⟩,ho2,hc2,n2,hd2⟩:=id hb
 simp only at hc hd hc2 hd2
 subst hc hd hc2 hd2
 have e:vs.toArray++ws.toArray=(vs++ws).toArray:=by simp
 by_cases hw:ws=[]
 ·exact concat_meets ⟨_,ho,rfl⟩ ⟨_,ho2,rfl⟩ noFill_tuple_add seq_tuple_add PySem.F.slot_tuple_add PySem.F.entry_tuple_add (PySem.F.args_tuple_add_2 _ _)
   (tuple_addW1 t b vs.toArray ws.toArray n n2 dd dd2 sl sl2 (by simpa using hv) (by simp[hw])) ⟨ho,ho2,h1 hw⟩
 ·refine concat_meets ⟨_,ho,rfl⟩ ⟨_,ho2,rfl⟩ noFill_tuple_add seq_tuple_add PySem.F.slot_tuple_add PySem.F.entry_tuple_add (PySem.F.args_tuple_add_2 _ _)
   (tuple_addW2 t b vs.toArray ws.toArray n n2 dd dd2 sl sl2 (by simpa using hv) (by simpa using hw) (by rw[List.size_toArray,List.size_toArray];exact hsz)) ⟨ho,ho2,?_⟩
  rw[e]
  exact h2 hw
def bh(n d:Nat):Option Int->Nat
 | none=>d
 | some v=>if v<0 then(v+(n:Int)).toNat else min v.toNat n
theorem aaE(n d:Nat):bh n d none=d:=rfl
theorem adp(n d k:Nat):bh n d (some (k:Int))=min k n:=by
 show(if(k:Int)<0 then((k:Int)+(n:Int)).toNat else min (k:Int).toNat n)=min k n
 rw[if_neg (),zam]
theorem agd(n d:Nat)(hd:d<=n)(o:Option Int):bh n d o<=n:=by
 cases o with
 | none=>exact hd
 | some v=>
  show(if v<0 then(v+(n:Int)).toNat else min v.toNat n)<=n
  by_cases hv:v<0
  ·rw[if_pos hv];omega
  ·rw[if_neg hv];exact Nat.min_le_right _ _
theorem Xy(v:Int)(n d:Nat):(if v<0 then max (v+(n:Int)) 0 else min v (n:Int))=((bh n d (some v):Nat):Int):=by
 show(if v<0 then max (v+(n:Int)) 0 else min v (n:Int))=(((if v<0 then(v+(n:Int)).toNat else min v.toNat n):Nat):Int)
 by_cases hv:v<0
 ·simp only[if_pos hv];omega
 ·simp only[if_neg hv];omega
theorem VL(lo hi:Option Int)(n:Nat):Builtin.Slice.sliceAdjust lo hi 1 (n:Int)=(((bh n 0 lo:Nat):Int),((bh n n hi:Nat):Int)):=by
 have h1:¬((1:Int)<0):=()
 unfold Builtin.Slice.sliceAdjust
 simp only[h1,if_false]
 refine Prod.ext ?_ ?_
 ·cases lo with
  | none=>rfl
  | some v=>exact Xy v n 0
 ·cases hi with
  | none=>rfl
  | some v=>exact Xy v n n
theorem U8(i j:Nat):Builtin.Slice.slicePlaces (i:Int) (j:Int) 1=j - i:=by
 unfold Builtin.Slice.slicePlaces
 have h1:(1:Int) > 0:=()
 simp only[h1,if_true,Int.ediv_one]
 split<;>omega
theorem JN{Q:Option Int->Shared->Prop}(p:IsPart v o)(h:Q o s):wpAny (model prog w) A (Builtin.Slice.slicePartIndex v) Q E s:=by
 cases p with
 | none=>exact slicePart_none h
 | int i t=>exact slicePart_int h
theorem vz{lo hi:Option Int}{n:Nat}{Q:Int×Int×Nat->Shared->Prop}(hs:s.heap.IsSliceOf sl vl vu .none)(pl:IsPart vl lo)(pu:IsPart vu hi)
  (h:Q (((bh n 0 lo:Nat):Int),1,bh n n hi - bh n 0 lo) s):wpAny (model prog w) A (Builtin.Slice.sliceApplied (.ref sl) (pure (n:Int))) Q E s:=by
 obtain⟨os,hos,hcs,hds⟩:=id hs
 unfold Builtin.Slice.sliceApplied Builtin.Slice.sliceFields
 refine zC (zC (vS hos hds (x:=vl) rfl (zC (vS hos hds (x:=vu) rfl (zC (vS hos hds (x:= .none) rfl (zI ?_)))))))
 refine zC (slicePart_none ?_)
 show wpAny _ _ (if((1:Int)==0)=true then _ else _) _ _ s
 rw[if_neg (by decide)]
 refine zC (JN pl (zC (JN pu (zC (zI ?_)))))
 show wpAny _ _ (match Builtin.Slice.sliceAdjust lo hi 1 (n:Int)with | (lo,hi)=>pure (lo,(1:Int),Builtin.Slice.slicePlaces lo hi 1)) _ _ s
 rw[VL lo hi n]
 show wpAny _ _ (pure (((bh n 0 lo:Nat):Int),(1:Int),Builtin.Slice.slicePlaces ((bh n 0 lo:Nat):Int) ((bh n n hi:Nat):Int) 1)) _ _ s
 rw[U8]
 exact zI h
theorem aaZ(xs:Array Value)(i k:Nat):((List.range k).filterMap λ(m:Nat)=>xs[((i:Int)+(m:Int)*1).toNat]?).toArray=((xs.toList.drop i).take k).toArray:=by
 have e:(λ(m:Nat)=>xs[((i:Int)+(m:Int)*1).toNat]?)=λm=>xs[i+m]? := by
  funext m
  have:((i:Int)+(m:Int)*1).toNat=i+m:=()
  rw[this]
 rw[e]
 have:=pick_run xs i k
 rw[List.filterMap_map]at this
 have e2:((λx=>xs[x]?)∘λx=>i+x)=λm=>xs[i+m]? := rfl
 rw[e2]at this
 rw[this]
theorem Fz{items:Array Value}{lo hi:Option Int}{Q:Value->Shared->Prop}(ht:IsTup s.heap t items)(hs:s.heap.IsSliceOf sl vl vu .none)(pl:IsPart vl lo)(pu:IsPart vu hi)
  (hw:¬(bh items.size 0 lo=0/\bh items.size items.size hi=items.size))
  (h:Q (.ref s.heap.objs.size) {s with heap:=s.heap.push {cls:= .type "tuple",data:= .seq ((items.toList.drop (bh items.size 0 lo)).take (bh items.size items.size hi - bh items.size 0 lo)).toArray}})
  (hsz:items.size<=sizeLine):wpAny (model prog w) A (getItem (.ref t) (.ref sl)) Q E s:=by
 have Xh:sizeOk (.seq ((items.toList.drop (bh items.size 0 lo)).take (bh items.size items.size hi - bh items.size 0 lo)).toArray):=by
  show((items.toList.drop (bh items.size 0 lo)).take (bh items.size items.size hi - bh items.size 0 lo)).toArray.size<=sizeLine
  rw[List.size_toArray,List.length_take,List.length_drop,Array.length_toList]
  omega
 have hj:bh items.size items.size hi<=items.size:=agd _ _ (zab _) hi
 obtain⟨os,hos,hcs,hds⟩:=id hs
 have hTs:s.TypeIs (.ref sl) "slice" := ⟨os,hos,hcs⟩
 unfold getItem
 try with_reducible refine wpAny_holding ?_
 first | refine zC (zI ?_) | skip
 refine zC (wpAny_sequenceKey ht.typeIs (by decide) ?_)
 refine zC (zai (name:=Str.ofString "__getitem__") ht.typeIs PyProof.Rows.slot_tuple_getitem
  (uS PyProof.Rows.slot_tuple_getitem ht.typeIs entry_tuple_getitem ?_ (args_tuple_getitem _ _)))
 show wpAny _ _ (Builtin.Tuple.tupleItemsOf (.ref t) >>= _) _ _ s
 refine zC (tupleItemsOf_ ht ?_)
 refine zC (wpAny_typeOf hTs ?_)
 rw[if_pos (by decide)]
 refine zC (vz hs pl pu ?_)
 have hno:¬((((bh items.size 0 lo:Nat):Int)==0&&(1:Int)==1&&(bh items.size items.size hi - bh items.size 0 lo)==items.size)=true):=by
  intro q
  rw[Bool.and_eq_true,Bool.and_eq_true]at q
  have q1:((bh items.size 0 lo:Nat):Int)=0:=eq_of_beq q.1.1
  have q2:bh items.size items.size hi - bh items.size 0 lo=items.size:=eq_of_beq q.2
  exact hw ⟨(),()⟩
 show wpAny _ _ (if(((bh items.size 0 lo:Nat):Int)==0&&(1:Int)==1&&(bh items.size items.size hi - bh items.size 0 lo)==items.size)=true then _ else _) _ _ s
 rw[if_neg hno,aaZ]
 first
  | exact zC (m:=Builtin.Tuple.tupleExact _) (wT (zI ⟨_,rfl,zI h⟩) Xh)
  | exact zC (m:=Builtin.Tuple.tupleExact _) (wT (zC (zI (zI ⟨_,rfl,zI h⟩))) Xh)
  | exact zC (zC (m:=Builtin.Tuple.tupleExact _) (wT (zI (zI ⟨_,rfl,zI h⟩)) Xh))
  | exact zC (zC (m:=Builtin.Tuple.tupleExact _) (wT (zI ⟨_,rfl,zI h⟩) Xh))
end
end HT
namespace L2
open PySem PySem.Spec PyProof.Rows
abbrev TO:=St->Hp->(Option Int->Hp->Prop)->Prop
def PO(X:Cx)(e:Option Expr)(t:TO):Prop:=
 ∀(pins:List (Addr×Obj)) (s:Shared) (σ:St) (H:Hp) (Q:Option Int->Hp->Prop),Inv X pins σ H s->t σ H Q->
  wpAny (model X.prog X.w) X.A (evalPart e X.env) (λu s'=>∃o H',Inv X pins σ H' s'/\IsPart u o/\Q o H') X.xe s
def ac6:TO:=λ_ H Q=>Q none H
def aiT(t:TE):TO:=λσ H Q=>t σ H λx H1=>∃i,x= .int i/\Q (some i) H1
theorem intsAre_of:∀{us:List Value},Vals (ns.map V.int) us->IntsAre us ns:=by
 induction ns with
 | nil=>intro us r;rw[List.map_nil]at r;cases r;exact .nil
 | cons n ns ih=>
  intro us r
  rw[List.map_cons]at r
  cases r with
  | cons r1 r2=>
   obtain⟨t,e⟩:=r1
   subst e
   exact .cons n t (ih r2)
section
variable{X:Cx}{e:Expr}{te:TE}{lo hi:Option Expr}{tl th:TO}{pos p2:Pos}
theorem adO:PO X none ac6:=by
 intro pins s σ H Q I h
 rw[evalPart_none]
 exact zI ⟨none,H,I,.none,h⟩
theorem adN(h:PE X e te):PO X (some e) (aiT te):=by
 intro pins s σ H Q I hw
 rw[evalPart_some]
 refine fP (h pins s σ H _ I hw) ?_
 rintro u s1 ⟨x,H1,I1,r1,q1⟩
 obtain⟨i,rfl,q⟩:=q1
 obtain⟨t,rfl⟩:=r1
 exact⟨some i,H1,I1,.int i t,q⟩
def SlR(X:Cx)(r:V->Option Int->Option Int->Hp->VK->Prop):Prop:=
 ∀(pins:List (Addr×Obj)) (s:Shared) (σ:St) (H:Hp) (x:V) (v vl vu:Value) (lo hi:Option Int) (sl:Addr) (Q:VK),Inv X pins σ H s->RelV x v->s.heap.IsSliceOf sl vl vu .none->IsPart vl lo->IsPart vu hi->r x lo hi H Q->
  ∃T id,typeLookup (.type T) "__getitem__" = pure (some (.builtin id))/\s.TypeIs v T/\wpAny (model X.prog X.w) X.A (getItem v (.ref sl)) (EP X pins σ Q) X.xe s
theorem SlR.or{r r':V->Option Int->Option Int->Hp->VK->Prop}(h:SlR X r)(h':SlR X r'):SlR X (λx lo hi H Q=>r x lo hi H Q\/r' x lo hi H Q):=by
 intro pins s σ H x v vl vu lo hi sl Q I rx hs pl pu q
 rcases q with q | q
 ·exact h pins s σ H x v vl vu lo hi sl Q I rx hs pl pu q
 ·exact h' pins s σ H x v vl vu lo hi sl Q I rx hs pl pu q
def tSl(r:V->Option Int->Option Int->Hp->VK->Prop)(te:TE)(tl th:TO):TE:=λσ H Q=>te σ H λx H1=>tl σ H1 λl H2=>th σ H2 λu H3=>r x l u H3 Q
theorem R9{r:V->Option Int->Option Int->Hp->VK->Prop}(hr:SlR X r)(he:PE X e te)(hl:PO X lo tl)(hu:PO X hi th):PE X (.Subscript e (.Slice lo hi none p2) pos) (tSl r te tl th):=by
 intro pins s σ H Q I h
 refine Subscript_ (fP (he pins s σ H _ I h) ?_)
 rintro v s1 ⟨x,H1,I1,r1,q1⟩
 refine wpAny_Slice (fP (hl pins s1 σ H1 _ I1 q1) ?_)
 rintro vl s2 ⟨l,H2,I2,pl,q2⟩
 refine fP (hu pins s2 σ H2 _ I2 q2) ?_
 rintro vu s3 ⟨u,H3,I3,pu,q3⟩
 rw[evalPart_none]
 refine zI ?_
 have I4:Inv X pins σ H3 {s3 with heap:=s3.heap.push {cls:= .type "slice",data:= .fields #[vl,vu,.none]}}:=I3.kept (t':=s3.toks) λb ob q=>zD _ q
 obtain⟨T,id,hT,ht,hg⟩:=hr pins {s3 with heap:=s3.heap.push {cls:= .type "slice",data:= .fields #[vl,vu,.none]}} σ H3 x v vl vu l u s3.heap.objs.size Q I4 r1 (Heap.IsSliceOf.new ..) pl pu q3
 show wpAny (model X.prog X.w) X.A (subscriptTail e (.Slice lo hi none p2) v (.ref s3.heap.objs.size)) (EP X pins σ Q) X.xe {s3 with heap:=s3.heap.push {cls:= .type "slice",data:= .fields #[vl,vu,.none]}}
 exact tail_any (ops:=[.ref s3.heap.objs.size,v]) ht hT hg (by with_unfolding_all rfl)
def TY(xs:List V)(lo hi:Option Int):List V:=(xs.drop (HT.bh xs.length 0 lo)).take (HT.bh xs.length xs.length hi - HT.bh xs.length 0 lo)
theorem HJ(xs:List V)(lo hi:Option Int):(TY xs lo hi).length<=xs.length:=by
 unfold TY
 rw[List.length_take,List.length_drop]
 omega
def amJ(K:Frag):V->Option Int->Option Int->Hp->VK->Prop:=λx lo hi H Q=>∃a xs,x= .ref a/\kO K H a xs/\
 ¬(HT.bh xs.length 0 lo=0/\HT.bh xs.length xs.length hi=xs.length)/\∀p,H p=none->Q (.ref p) (upd H p (.tup (TY xs lo hi)))
theorem aaq:SlR X (amJ X.K):=by
 intro pins s σ H x v vl vu lo hi sl Q I rx hs pl pu h
 obtain⟨a,xs,rfl,hx,hw,q⟩:=h
 cases rx
 obtain⟨its,r,ht,hz⟩:=I.tuple hx
 have hlen:its.toArray.size=xs.length:=by rw[List.size_toArray];exact r.length.symm
 refine⟨"tuple",_,PyProof.Rows.slot_tuple_getitem.lookup,ht.typeIs,?_⟩
 refine HT.Fz ht hs pl pu (by rw[hlen];exact hw) ?_ (by rw[hlen];exact hz)
 rw[hlen]
 refine⟨.ref s.heap.objs.size,_,I.laid (t':=s.toks) (o:= .tup (TY xs lo hi)) (λb ob q=>zD _ q) (zab _) ?_,rfl,q _ (I.hok.fresh (zab _))⟩
 exact⟨yY (HJ xs lo hi) hz,_,(r.drop (HT.bh xs.length 0 lo)).take (HT.bh xs.length xs.length hi - HT.bh xs.length 0 lo),IsTup.new _ _⟩
def amO(K:Frag):R2:=λx y H Q=>∃a b ns ms,x= .ref a/\y= .ref b/\kO K H a (ns.map V.int)/\kO K H b (ms.map V.int)/\Q (.bl (HT.lexLt ns ms)) H
theorem agS(hu:X.A.units<cLine):uy X (compareOp .Lt) (amO X.K):=by
 intro pins s σ H x y v u Q I rx ry h
 obtain⟨a,b,ns,ms,rfl,rfl,ha,hb,q⟩:=h
 cases rx
 cases ry
 obtain⟨its,r1,p1,_⟩:=I.tuple ha
 obtain⟨its2,r2,p2,_⟩:=I.tuple hb
 have i1:IntsAre its.toArray.toList ns:=intsAre_of r1
 have i2:IntsAre its2.toArray.toList ms:=intsAre_of r2
 exact HT.Ks p1 p2 i1 i2 hu ⟨.bl (HT.lexLt ns ms),H,I,rfl,q⟩
def aju(K:Frag):R2:=λx y H Q=>∃a b xs ys,x= .ref a/\y= .ref b/\kO K H a xs/\kO K H b ys/\xs≠[]/\xs.length+ys.length<=sizeLine/\
 (ys=[]->Q (.ref a) H)/\(ys≠[]->∀p,H p=none->Q (.ref p) (upd H p (.tup (xs++ys))))
theorem Vals.PK(r:Vals xs us):us=[]↔xs=[]:=by
 cases r with
 | nil=>simp
 | cons _ _=>simp
theorem ad0:uy X (binaryOp .Add) (aju X.K):=by
 intro pins s σ H x y v u Q I rx ry h
 obtain⟨a,b,xs,ys,rfl,rfl,ha,hb,hx,hz,q1,q2⟩:=h
 cases rx
 cases ry
 obtain⟨its,r1,p1,_⟩:=I.tuple ha
 obtain⟨its2,r2,p2,_⟩:=I.tuple hb
 refine HT.aeH p1 p2 (λz=>hx (r1.PK.mp z)) (λz=>⟨.ref a,H,I,rfl,q1 (r2.PK.mp z)⟩) (λz=> ?_) (by rw[<-r1.length,<-r2.length];exact hz)
 refine⟨.ref s.heap.objs.size,_,I.laid (t':=s.toks) (o:= .tup (xs++ys)) (λb ob q=>zD _ q) (zab _) ?_,rfl,q2 (λw=>z (r2.PK.mpr w)) _ (I.hok.fresh (zab _))⟩
 exact⟨by rw[List.length_append];exact hz,_,r1.append r2,IsTup.new _ _⟩
end
def ixN(n:Nat)(i:Int):Option Nat:=if 0<=i then(if i<n then some i.toNat else none)else if -(n:Int)<=i then some (i+n).toNat else none
def Mw{α:Type}(xs:List α)(i:Int):Option α:=(ixN xs.length i).bind λj=>xs[j]?
theorem aem(h:ixN n i=some j):seqIndex? i n=some j/\j<n/\ -(n:Int)<=i/\i<n:=by
 unfold ixN at h
 by_cases h0:0<=i
 ·rw[if_pos h0]at h
  by_cases h1:i<n
  ·rw[if_pos h1]at h
   have e:i.toNat=j:=xI h
   exact⟨by rw[seqIndex_of h0 h1,e],(),(),h1⟩
  ·rw[if_neg h1]at h;cases h
 ·rw[if_neg h0]at h
  by_cases h1: -(n:Int)<=i
  ·rw[if_pos h1]at h
   have e:(i+n).toNat=j:=xI h
   exact⟨by rw[seqIndex_neg () h1,e],(),h1,()⟩
  ·rw[if_neg h1]at h;cases h
theorem QX{α:Type}{xs:List α}{i:Int}{v:α}(h:Mw xs i=some v):∃j,seqIndex? i xs.length=some j/\xs[j]? = some v/\j<xs.length/\ -(xs.length:Int)<=i/\i<xs.length:=by
 unfold Mw at h
 cases e:ixN xs.length i with
 | none=>rw[e]at h;cases h
 | some j=>
  rw[e]at h
  obtain⟨h1,h2,h3,h4⟩:=aem e
  exact⟨j,h1,h,h2,h3,h4⟩
def X4(b:Expr):Prop:=∀o i,subscripted b false o i=operate [o,i] (getItem o i)
def IxR(X:Cx)(r:R2):Prop:=
 ∀(value slice:Expr) (pins:List (Addr×Obj)) (s:Shared) (σ:St) (H:Hp) (x y:V) (v u:Value) (Q:VK),Inv X pins σ H s->RelV x v->RelV y u->r x y H Q->
  subscripted slice false v u=operate [v,u] (getItem v u)->wpAny (model X.prog X.w) X.A (subscriptTail value slice v u) (EP X pins σ Q) X.xe s
def MtR(X:Cx)(id:String)(r:V->List V->Hp->VK->Prop):Prop:=
 ∀(pins:List (Addr×Obj)) (s:Shared) (σ:St) (H:Hp) (x:V) (xs:List V) (v:Value) (us:List Value) (Q:VK),Inv X pins σ H s->RelV x v->Vals xs us->r x xs H Q->
  wpAny (model X.prog X.w) X.A (call (.builtin id) (v::us)) (EP X pins σ Q) X.xe s
section
variable{X:Cx}{a b:Expr}{ta tb:TE}{pos:Pos}
theorem IxR.or(h:IxR X r)(h':IxR X r'):IxR X (λx y H Q=>r x y H Q\/r' x y H Q):=by
 intro value slice pins s σ H x y v u Q I rx ry q hs
 rcases q with q | q
 ·exact h value slice pins s σ H x y v u Q I rx ry q hs
 ·exact h' value slice pins s σ H x y v u Q I rx ry q hs
theorem ajC(hr:IxR X r)(ha:PE X a ta)(hb:PE X b tb)(hs:X4 b):PE X (.Subscript a b pos) (tOp r ta tb):=by
 intro pins s σ H Q I h
 exact Subscript_ (ah1 ha hb I h λv u s2 x y H2 I2 rx ry q=>hr a b pins s2 σ H2 x y v u Q I2 rx ry q (hs _ _))
def ajs(K:Frag):R2:=λx y H Q=>∃p xs i v,x= .ref p/\y= .int i/\pB K H p xs/\Mw xs i=some v/\Q v H
def ajq(K:Frag):R2:=λx y H Q=>∃p xs i v,x= .ref p/\y= .int i/\kO K H p xs/\Mw xs i=some v/\Q v H
def ajr:R2:=λx y H Q=>∃z i c,x= .str z/\y= .int i/\z.length<=sizeLine/\Mw z.cps.toList i=some c/\Q (.str ⟨#[c]⟩) H
theorem aek:IxR X (ajs X.K):=by
 intro value slice pins s σ H x y v u Q I rx ry h hs
 obtain⟨p,xs,i,z,rfl,rfl,hq,he,q⟩:=h
 cases rx
 obtain⟨t,rfl⟩:=ry
 obtain⟨its,r,pl,hz⟩:=I.list hq
 obtain⟨j,h1,h2,h3,h4,h5⟩:=QX he
 obtain⟨w,ew,rw'⟩:=r.get h2
 have hl:=r.length
 have hn:=Kv
 have fin:EP X pins σ Q w s:=⟨z,H,I,rw',q⟩
 by_cases h0:0<=i
 ·have hj:i.toNat=j:=by
   rw[seqIndex_of h0 h5]at h1
   exact xI h1
  exact item_listR pl.isList h0 () (by rw[hj];simpa using ew) fin hs
 ·have hj:(i+(its.toArray.size:Int)).toNat=j:=by
   rw[seqIndex_neg () h4]at h1
   rw[List.size_toArray,<-hl]
   exact xI h1
  exact subscriptTail_builtinR (x:=w) pl.isList.typeIs slot_list_getitem.lookup
   (wpAny_getItem_list_neg (Q:=λr s'=>r=w/\EP X pins σ Q r s') pl.isList () (by rw[List.size_toArray]<;>omega) () (by rw[hj];simpa using ew) ⟨rfl,fin⟩) hs
theorem ahj:IxR X (ajq X.K):=by
 intro value slice pins s σ H x y v u Q I rx ry h hs
 obtain⟨p,xs,i,z,rfl,rfl,hq,he,q⟩:=h
 cases rx
 obtain⟨t,rfl⟩:=ry
 obtain⟨its,r,pl,hz⟩:=I.tuple hq
 obtain⟨j,h1,h2,h3,h4,h5⟩:=QX he
 obtain⟨w,ew,rw'⟩:=r.get h2
 have hl:=r.length
 have hn:=Kv
 have fin:EP X pins σ Q w s:=⟨z,H,I,rw',q⟩
 exact subscriptTail_builtinR (x:=w) pl.typeIs slot_tuple_getitem.lookup
  (getItem_tuple (j:=j) (Q:=λr s'=>r=w/\EP X pins σ Q r s') pl () () (by rw[List.size_toArray,<-hl];exact h1) (by simpa using ew) ⟨rfl,fin⟩) hs
theorem ahk:IxR X ajr:=by
 intro value slice pins s σ H x y v u Q I rx ry h hs
 obtain⟨z,i,c,rfl,rfl,hz,he,q⟩:=h
 obtain⟨t,rfl⟩:=rx
 obtain⟨t',rfl⟩:=ry
 obtain⟨j,h1,h2,h3,h4,h5⟩:=QX he
 have hl:z.cps.toList.length=z.length:=by simp[Str.length]
 rw[hl]at h1 h4 h5
 have hn:=Kv
 exact tail_any (typeIs_str s z t) slot_str_getitem.lookup (getItem_str (c:=c) (by
  have e1:decide (i< -(2 ^ 63:Int))=false:=zaf ()
  have e2:decide (i>=2 ^ 63)=false:=zaf ()
  rw[e1,e2,Bool.or_false]) (by rw[h1];simpa using h2) ⟨.str ⟨#[c]⟩,H,I.tok _,⟨_,rfl⟩,q⟩) hs
theorem Inv.lst(I:Inv X pins σ H s)(h:H p=some (.lst xs)):
  ∃(its:List Value) (n:Nat),Vals xs its/\s.heap.get? p=some {cls:= .type "list",data:= .seq its.toArray n}/\xs.length<=sizeLine:=by
 obtain⟨z,its,n,r,e⟩:=I.hok p _ h
 exact⟨its,n,r,e,z⟩
theorem Oz(lo hi:Option Int)(n:Nat):(sliceBounds lo hi none n).1=((HT.bh n 0 lo:Nat):Int)/\(sliceBounds lo hi none n).2.1=((HT.bh n n hi:Nat):Int)/\(sliceBounds lo hi none n).2.2=1:=by
 refine⟨?_,?_,rfl⟩
 ·cases lo with
  | none=>simp[sliceBounds,HT.bh]
  | some i=>
   simp only[sliceBounds,HT.bh,Option.getD_none,show(1:Int) > 0 by decide,if_true]
   by_cases h:i<0
   ·simp only[h,if_true]<;>omega
   ·simp only[h,if_false]<;>omega
 ·cases hi with
  | none=>simp[sliceBounds,HT.bh]
  | some i=>
   simp only[sliceBounds,HT.bh,Option.getD_none,show(1:Int) > 0 by decide,if_true]
   by_cases h:i<0
   ·simp only[h,if_true]<;>omega
   ·simp only[h,if_false]<;>omega
theorem LR(its:List Value)(lo hi:Option Int):slicePick its.toArray lo hi none=((its.drop (HT.bh its.length 0 lo)).take (HT.bh its.length its.length hi - HT.bh its.length 0 lo)).toArray:=by
 obtain⟨h1,h2,h3⟩:=Oz lo hi its.toArray.size
 unfold slicePick
 rw[h1,h2,h3]
 simp only[sliceRange_one,pick_run,List.size_toArray]<;>rfl
def amL(K:Frag):V->Option Int->Option Int->Hp->VK->Prop:=λx lo hi H Q=>∃a xs,x= .ref a/\pB K H a xs/\∀p,H p=none->Q (.ref p) (upd H p (.lst (TY xs lo hi)))
theorem adb:SlR X (amL X.K):=by
 intro pins s σ H x v vl vu lo hi sl Q I rx hs pl pu h
 obtain⟨a,xs,rfl,hx,q⟩:=h
 cases rx
 obtain⟨its,r,ht,hz⟩:=I.list hx
 have hlen:=r.length
 refine⟨"list",_,slot_list_getitem.lookup,ht.isList.typeIs,?_⟩
 refine wpAny_getItem_list_slice ht.isList hs pl pu .none (by simp) ?_ (by rw[List.size_toArray]<;>omega)
 rw[LR,<-hlen]
 refine⟨.ref s.heap.objs.size,_,I.laid (t':=s.toks) (o:= .lst (TY xs lo hi)) (λb ob q=>zD _ q) (zab _) ?_,rfl,q _ (I.hok.fresh (zab _))⟩
 exact⟨yY (HJ xs lo hi) hz,_,0,(r.drop (HT.bh xs.length 0 lo)).take (HT.bh xs.length xs.length hi - HT.bh xs.length 0 lo),yB _ rfl⟩
noncomputable def Cu:V->Bool
 | .non=>true
 | .bl _=>true
 | .int _=>true
 | .str _=>true
 | _=>false
noncomputable def eqV:V->V->Bool
 | .non,.non=>true
 | .bl a,.bl b=>a==b
 | .bl a,.int b=>(if a then 1 else 0)==b
 | .int a,.bl b=>a==(if b then 1 else 0)
 | .int a,.int b=>a==b
 | .str a,.str b=>a==b
 | _,_=>false
theorem ahD(ry:RelV y u)(rx:RelV x v)(fy:Cu y=true)(fx:Cu x=true):SeqAt.EqAt A s u v (eqV y x):=by
 cases y with
 | non=>
  cases ry
  cases x with
  | non=>cases rx;exact SeqAt.EqAt.same _
  | bl b=>cases rx;exact SeqAt.EqAt.none_bool b
  | int b=>obtain⟨t,rfl⟩:=rx;exact SeqAt.EqAt.none_int b t
  | str b=>obtain⟨t,rfl⟩:=rx;exact SeqAt.EqAt.none_str b t
  | _=>exact absurd (show false=true from fx) xA
 | bl a=>
  cases ry
  cases x with
  | non=>cases rx;exact SeqAt.EqAt.bool_none a
  | bl b=>cases rx;exact SeqAt.EqAt.bool_bool a b
  | int b=>obtain⟨t,rfl⟩:=rx;exact SeqAt.EqAt.bool_int a b t
  | str b=>obtain⟨t,rfl⟩:=rx;exact SeqAt.EqAt.bool_str a b t
  | _=>exact absurd (show false=true from fx) xA
 | int a=>
  obtain⟨t',rfl⟩:=ry
  cases x with
  | non=>cases rx;exact SeqAt.EqAt.int_none a t'
  | bl b=>cases rx;exact SeqAt.EqAt.int_bool a t' b
  | int b=>obtain⟨t,rfl⟩:=rx;exact SeqAt.EqAt.int_int a t' b t
  | str b=>obtain⟨t,rfl⟩:=rx;exact SeqAt.EqAt.int_str a t' b t
  | _=>exact absurd (show false=true from fx) xA
 | str a=>
  obtain⟨t',rfl⟩:=ry
  cases x with
  | non=>cases rx;exact SeqAt.EqAt.str_none a t'
  | bl b=>cases rx;exact SeqAt.EqAt.str_bool a t' b
  | int b=>obtain⟨t,rfl⟩:=rx;exact SeqAt.EqAt.str_int a t' b t
  | str b=>obtain⟨t,rfl⟩:=rx;exact SeqAt.EqAt.str_str a t' b t
  | _=>exact absurd (show false=true from fx) xA
 | _=>exact absurd (show false=true from fy) xA
def Vw(x:V)(u:Value):Bool:=match u with
 | .none=>eqV .non x
 | .bool b=>eqV (.bl b) x
 | .int i _=>eqV (.int i) x
 | .str z _=>eqV (.str z) x
 | _=>false
theorem acf(r:RelV y u)(f:Cu y=true):Vw x u=eqV y x:=by
 cases y with
 | non=>cases r;rfl
 | bl b=>cases r;rfl
 | int i=>obtain⟨t,rfl⟩:=r;rfl
 | str z=>obtain⟨t,rfl⟩:=r;rfl
 | _=>exact absurd (show false=true from f) xA
theorem Gf:∀{xs:List V} {us:List Value},Vals xs us->xs.all Cu=true->us.any (Vw x)=xs.any λy=>eqV y x
 | _,_,.nil,_=>rfl
 | y::xs,u::us,.cons r t,f=>by
  rw[List.all_cons,Bool.and_eq_true]at f
  rw[List.any_cons,List.any_cons,acf r f.1,Gf t f.2]
theorem zX(rx:RelV x v)(fx:Cu x=true):∀{xs:List V} {us:List Value},Vals xs us->xs.all Cu=true->∀u∈us,SeqAt.EqAt A s u v (Vw x u)
 | _,_,.nil,_=>λu hu=>by cases hu
 | y::xs,u::us,.cons r t,f=>λu' hu=>by
  rw[List.all_cons,Bool.and_eq_true]at f
  rcases List.mem_cons.mp hu with rfl | hu
  ·rw[acf r f.1];exact ahD r rx f.1 fx
  ·exact zX rx fx t f.2 u' hu
def inV(x:V)(xs:List V):Bool:=xs.any λy=>eqV y x
def rIn(K:Frag)(neg:Bool):R2:=λx y H Q=>∃p xs,y= .ref p/\(pB K H p xs\/kO K H p xs)/\Cu x=true/\xs.all Cu=true/\Q (.bl (if neg then !inV x xs else inV x xs)) H
theorem Yz:uy X (compareOp .In) (rIn X.K false):=by
 intro pins s σ H x y v u Q I rx ry h
 obtain⟨p,xs,rfl,hq,fx,fs,q⟩:=h
 cases ry
 rcases hq with hq | hq
 ·obtain⟨its,r,pl,hz⟩:=I.list hq
  refine SeqAt.in_listAt (Vw x) pl.isList (λw hw=>zX rx fx r fs w (by simpa using hw)) ⟨.bl _,H,I,rfl,?_⟩
  rw[show its.toArray.any (Vw x)=its.any (Vw x) by simp,Gf r fs]
  exact q
 ·obtain⟨its,r,pl,hz⟩:=I.tuple hq
  refine SeqAt.in_tupleAt (Vw x) pl (λw hw=>zX rx fx r fs w (by simpa using hw)) ⟨.bl _,H,I,rfl,?_⟩
  rw[show its.toArray.any (Vw x)=its.any (Vw x) by simp,Gf r fs]
  exact q
theorem Pn:uy X (compareOp .NotIn) (rIn X.K true):=by
 intro pins s σ H x y v u Q I rx ry h
 obtain⟨p,xs,rfl,hq,fx,fs,q⟩:=h
 cases ry
 rcases hq with hq | hq
 ·obtain⟨its,r,pl,hz⟩:=I.list hq
  refine SeqAt.notIn_listAt (Vw x) pl.isList (λw hw=>zX rx fx r fs w (by simpa using hw)) ⟨.bl _,H,I,rfl,?_⟩
  rw[show its.toArray.any (Vw x)=its.any (Vw x) by simp,Gf r fs]
  exact q
 ·obtain⟨its,r,pl,hz⟩:=I.tuple hq
  refine SeqAt.notIn_tupleAt (Vw x) pl (λw hw=>zX rx fx r fs w (by simpa using hw)) ⟨.bl _,H,I,rfl,?_⟩
  rw[show its.toArray.any (Vw x)=its.any (Vw x) by simp,Gf r fs]
  exact q
theorem QK:qP X (.builtin "len") (λxs H Q=>∃p ys,xs=[.ref p]/\(pB X.K H p ys\/kO X.K H p ys)/\Q (.int ys.length) H):=by
 intro pins s σ H xs us Q I r h
 obtain⟨p,ys,rfl,hq,q⟩:=h
 obtain⟨u,rfl,rx⟩:=vals1 r
 cases rx
 have hn:=Kv
 rcases hq with hq | hq
 ·obtain⟨its,r',pl,hz⟩:=I.list hq
  have hlen:=r'.length
  exact Calls.call_len_list pl.isList (by simp only[List.size_toArray]<;>omega) ⟨.int ys.length,H,I.tok _,⟨s.toks+1,by rw[List.size_toArray,hlen]⟩,q⟩
 ·obtain⟨its,r',pl,hz⟩:=I.tuple hq
  have hlen:=r'.length
  exact len_tuple pl (by simp only[List.size_toArray]<;>omega) ⟨.int ys.length,H,I.tok _,⟨s.toks+1,by rw[List.size_toArray,hlen]⟩,q⟩
theorem QJ:qP X (.builtin "len") (λxs H Q=>∃z,xs=[.str z]/\z.length<=sizeLine/\Q (.int z.length) H):=by
 intro pins s σ H xs us Q I r h
 obtain⟨z,rfl,hz,q⟩:=h
 obtain⟨u,rfl,t,rfl⟩:=vals1 r
 have hn:=Kv
 exact len_str () ⟨.int z.length,H,I.tok _,⟨_,rfl⟩,q⟩
theorem qP.or{r r':List V->Hp->VK->Prop}(h:qP X f r)(h':qP X f r'):qP X f (λxs H Q=>r xs H Q\/r' xs H Q):=by
 intro pins s σ H xs us Q I rs q
 rcases q with q | q
 ·exact h pins s σ H xs us Q I rs q
 ·exact h' pins s σ H xs us Q I rs q
theorem QH:qP X (.type "list") (λxs H Q=>∃p ys,xs=[.ref p]/\(pB X.K H p ys\/kO X.K H p ys)/\∀l,H l=none->Q (.ref l) (upd H l (.lst ys))):=by
 intro pins s σ H xs us Q I r h
 obtain⟨p,ys,rfl,hq,q⟩:=h
 obtain⟨u,rfl,rx⟩:=vals1 r
 cases rx
 have fin:∀(its:List Value),Vals ys its->ys.length<=sizeLine->∀(h':Heap) (c':Nat),(∀b o',s.heap.get? b=some o'->h'.get? b=some o')->
   h'.get? s.heap.objs.size=some {cls:= .type "list",dict:=none,data:= .seq its.toArray c',slots:= #[]}->EP X pins σ Q (.ref s.heap.objs.size) {s with heap:=h'}:=λits r' hz h' c' kp e=>
  ⟨.ref s.heap.objs.size,_,I.laid (t':=s.toks) kp (zab _) (show dD X.prog X.w _ h' _ (.lst ys)from⟨hz,its,c',r',e⟩),rfl,q _ (I.hok.fresh (zab _))⟩
 rcases hq with hq | hq
 ·obtain⟨its,r',pl,hz⟩:=I.list hq
  have hlen:=r'.length
  obtain⟨o,ho,hc,n,hd⟩:=pl.isList
  exact call_list_seq p (.inl rfl) ho hc hd (λh' c' kp e=>fin its r' hz h' c' kp e) (by simp only[List.size_toArray]<;>omega)
 ·obtain⟨its,r',pl,hz⟩:=I.tuple hq
  have hlen:=r'.length
  obtain⟨o,ho,hc,n,hd⟩:=pl
  exact call_list_seq p (.inr rfl) ho hc hd (λh' c' kp e=>fin its r' hz h' c' kp e) (by simp only[List.size_toArray]<;>omega)
def tyV(K:Frag)(T:String)(x:V)(H:Hp):Prop:=match x with
 | .str _=>T= "str"
 | .int _=>T= "int"
 | .ref p=>(T= "list" /\ ∃xs,pB K H p xs)\/(T= "tuple" /\ ∃o,K.lookup p=some o/\o.cls= .type "tuple" /\ o.dict=none)\/
   (T= "dict" /\ ((∃kvs,H p=some (.dK kvs))\/∃kvs,H p=some (.dT kvs)))\/(T= "set" /\ ∃S n,H p=some (.set S n))
 | _=>False
theorem Z3(I:Inv X pins σ H s)(r:RelV x v)(ty:tyV X.K T x H):
  s.TypeIs v T/\∀a,v= .ref a->∃ob,s.heap.get? a=some ob/\ob.dict=none:=by
 cases x with
 | str z=>
  obtain⟨t,rfl⟩:=r
  cases(show T= "str" from ty)
  exact⟨typeIs_str s z t,λ_ e=>nomatch e⟩
 | int i=>
  obtain⟨t,rfl⟩:=r
  cases(show T= "int" from ty)
  exact⟨typeIs_int s i t,λ_ e=>nomatch e⟩
 | ref p=>
  cases r
  rcases ty with⟨rfl,xs,hq⟩ | ⟨rfl,o,hk,hc,hd⟩ | ⟨rfl,hk⟩ | ⟨rfl,S,n,hk⟩
  ·obtain⟨its,_,pl,_⟩:=I.list hq
   refine⟨pl.isList.typeIs,λa e=> ?_⟩
   cases e
   obtain⟨o,n,e,c,hd,_⟩:=pl
   exact⟨o,e,hd⟩
  ·refine⟨⟨o,I.Hr p o hk,hc⟩,λa e=> ?_⟩
   cases e
   exact⟨o,I.Hr _ o hk,hd⟩
  ·have z:∃o,s.heap.get? p=some o/\o.ExactDict:=by
    rcases hk with⟨kvs,hk⟩ | ⟨kvs,hk⟩
    ·obtain⟨_,_,_,_,o,_,_,e,ex,_⟩:=I.hok p _ hk
     exact⟨o,e,ex⟩
    ·obtain⟨_,_,_,_,o,_,_,e,ex,_⟩:=I.hok p _ hk
     exact⟨o,e,ex⟩
   obtain⟨o,e,ex⟩:=z
   refine⟨⟨o,e,ex.1⟩,λa e2=> ?_⟩
   cases e2
   exact⟨o,e,ex.2.1⟩
  ·obtain⟨o,_,_,_,e,ex,_⟩:=I.hok p _ hk
   refine⟨⟨o,e,ex.1⟩,λa e2=> ?_⟩
   cases e2
   exact⟨o,e,ex.2.1⟩
 | _=>exact False.elim ty
def amu(K:Frag)(T:String)(r:V->List V->Hp->VK->Prop)(to:TE):TE:=λσ H Q=>to σ H λx H1=>tyV K T x H1/\r x [] H1 Q
def tBM(K:Frag)(T:String)(r:V->List V->Hp->VK->Prop)(to:TE)(t:TA):TE:=λσ H Q=>to σ H λx H1=>tyV K T x H1/\t σ H1 λxs H2=>r x xs H2 Q
variable{o e:Expr}{es:List Expr}{to:TE}{t:TA}{name:Str}{apos cpos:Pos}{T id:String}{r:V->List V->Hp->VK->Prop}
theorem abe(pa:PlainAttrs T)(slot:Slot T name id)(hty:typeOf (.builtin id)=pure (.type "method_descriptor"))(hm:MtR X id r)(ho:PE X o to)
  (hbase:attributeBase o name X.env (eval o X.env)=eval o X.env:=by rfl) (hline:(apos.endLine==cpos.line)=true:=by rfl):PE X (.Call (.Attribute o name apos) [] [] cpos) (amu X.K T r to):=by
 intro pins s σ H Q I h
 refine wpAny_Call_method0_late hbase hline (fP (ho pins s σ H _ I h) ?_)
 rintro v s1 ⟨x,H1,I1,r1,ty,q1⟩
 obtain⟨h1,h2⟩:=Z3 I1 r1 ty
 exact⟨T,id,pa,slot,hty,h1,h2,Calls.callWith_builtin rfl (PySem.evalArgs_none (hm pins s1 σ H1 x [] v [] Q I1 r1 .nil q1))⟩
theorem ajD(pa:PlainAttrs T)(slot:Slot T name id)(hty:typeOf (.builtin id)=pure (.type "method_descriptor"))(hm:MtR X id r)(ho:PE X o to)(ha:PA X (e::es) t)
  (hbase:attributeBase o name X.env (eval o X.env)=eval o X.env:=by rfl)
  (hfew:((backTo cpos (starEach (e::es) X.env)).all (λx=> !x.1)&&(backToKw cpos (keywordEach [] X.env)).all (λx=>x.1.isSome)
   && decide ((e::es).length+([]:List Keyword).length+(if([]:List Keyword).isEmpty then 0 else 1)<30))=true:=by rfl)
  (hline:(apos.endLine==cpos.line)=true:=by rfl) (hs:starEach (e::es) X.env=(false,eval e X.env)::starEach es X.env:=by rfl) (hplain:(backTo cpos (starEach es X.env)).any (·.1)=false:=by rfl):
  PE X (.Call (.Attribute o name apos) (e::es) [] cpos) (tBM X.K T r to t):=by
 intro pins s σ H Q I h
 refine wpAny_Call_method_late hbase hfew hline rfl (fP (ho pins s σ H _ I h) ?_)
 rintro v s1 ⟨x,H1,I1,r1,ty,q1⟩
 obtain⟨h1,h2⟩:=Z3 I1 r1 ty
 refine⟨T,id,pa,slot,hty,h1,h2,?_⟩
 have hA:=ha cpos pins s1 σ H1 _ I1 q1
 rw[hs]at hA ⊢
 refine Calls.callWith_builtin (by show(false||(backTo cpos (starEach es X.env)).any (·.1))=false;rw[hplain]<;>rfl) (Calls.evalArgs_plain ?_)
 exact fP hA λus s2 ⟨vs,H2,I2,r2,q2⟩=>hm pins s2 σ H2 x vs v us Q I2 r1 r2 q2
end
def MtM(X:Cx)(id:String)(r:V->List V->Hp->VK->Prop):Prop:=
 ∀(pins:List (Addr×Obj)) (s:Shared) (σ:St) (H:Hp) (x:V) (xs:List V) (v:Value) (us:List Value) (Q:VK),Inv X pins σ H s->RelV x v->Vals xs us->r x xs H Q->
  wpAny (model X.prog X.w) X.A (call (.builtin id) (v::us)) (EP X pins σ Q) X.xe s
theorem Vals.one:∀{x:V} {us:List Value},Vals [x] us->∃u,us=[u]/\RelV x u
 | _,_,.cons r .nil=>⟨_,rfl,r⟩
theorem Vals.two:∀{x y:V} {us:List Value},Vals [x,y] us->∃u v,us=[u,v]/\RelV x u/\RelV y v
 | _,_,_,.cons r (.cons q .nil)=>⟨_,_,rfl,r,q⟩
section
variable{X:Cx}{pins:List (Addr×Obj)}{σ:St}{H:Hp}{s:Shared}{l b:Addr}{xs ys zs:List V}
theorem Inv.aj8{its its':List Value}{n:Nat}{f:Array Value->Array Value}{t':Nat}(I:Inv X pins σ H s)(hH:H l=some (.lst xs))
  (e:s.heap.get? l=some {cls:= .type "list",data:= .seq its.toArray n}) (hf:f its.toArray=its'.toArray) (hv:Vals ys its') (hz:ys.length<=sizeLine):
  Inv X pins σ (upd H l (.lst ys)) {s with heap:=s.heap.update l (Obj.mapSeq f),toks:=t'}:=by
 have q:=PySem.IsL.update e f
 rw[hf]at q
 refine I.write (x:=l) (e:=l) (by rw[hH];exact trivial) (.inl rfl) (λb' u hb hu=>(xL s.heap (Obj.mapSeq f) (Ne.symm hb)).trans hu) ⟨_,q⟩ ?_
 exact⟨hz,its',_,hv,q⟩
theorem Inv.aj9(I:Inv X pins σ H s)(hv:Vals ys its)(hz:ys.length<=sizeLine):
  Inv X pins σ (upd H s.heap.objs.size (.lst ys)) {s with heap:=s.heap.push {cls:= .type "list",data:= .seq its.toArray},toks:=t'}:=
 I.laid (λ_ _ q=>zD _ q) (zab _) ⟨hz,its,0,hv,yB _ rfl⟩
theorem Inv.fresh(I:Inv X pins σ H s):H s.heap.objs.size=none:=I.hok.fresh (zab _)
theorem Inv.abC(I:Inv X pins σ H s)(hH:H l=some (.lst xs)):xs.length<=sizeLine/\∃(its:List Value) (n:Nat),Vals xs its/\xs.length=its.length/\s.heap.get? l=some {cls:= .type "list",data:= .seq its.toArray n}:=by
 obtain⟨z,its,n,r,e⟩:=I.hok l _ hH
 exact⟨z,its,n,r,r.length,e⟩
theorem abl(h:n<=sizeLine):Builtin.List.listTooLong n=false:=by
 unfold Builtin.List.listTooLong
 exact zaf ()
end
section
variable{X:Cx}
def adz:V->List V->Hp->VK->Prop:=λx vs H Q=>∃l xs y,x= .ref l/\vs=[y]/\H l=some (.lst xs)/\xs.length<sizeLine/\Q .non (upd H l (.lst (xs++[y])))
theorem YG:MtM X "list.append" adz:=by
 intro pins s σ H x vs v us Q I rx rv h
 obtain⟨l,xs,y,rfl,rfl,hH,hz,q⟩:=h
 cases rx
 obtain⟨u,rfl,ru⟩:=rv.one
 obtain⟨z,its,n,r,hl,e⟩:=I.abC hH
 refine call_meets F.slot_list_append ⟨_,e,rfl⟩ F.entry_list_append (F.args_list_append_2 _ _) (PySem.list_append l its.toArray n u (by rw[List.size_toArray];omega)) ⟨e,?_⟩
 refine⟨.non,_,I.aj8 (its':=its++[u]) hH e (by simp) (r.append (.cons ru .nil)) ?_,rfl,q⟩
 rw[List.length_append,List.length_singleton]
 omega
def ady:V->List V->Hp->VK->Prop:=λx vs H Q=>∃l b xs zs,x= .ref l/\vs=[.ref b]/\H l=some (.lst xs)/\H b=some (.lst zs)/\xs.length+zs.length<=sizeLine/\Q .non (upd H l (.lst (xs++zs)))
theorem ail:MtM X "list.extend" ady:=by
 intro pins s σ H x vs v us Q I rx rv h
 obtain⟨l,b,xs,zs,rfl,rfl,hH,hB,hz,q⟩:=h
 cases rx
 obtain⟨u,rfl,ru⟩:=rv.one
 cases ru
 obtain⟨z,its,n,r,hl,e⟩:=I.abC hH
 obtain⟨z2,its2,n2,r2,hl2,e2⟩:=I.abC hB
 have hsz:its.toArray.size+its2.toArray.size<=sizeLine:=by rw[List.size_toArray,List.size_toArray];omega
 have akf:¬(!its.toArray.isEmpty&&Builtin.List.listTooLong (its.toArray.size+its2.toArray.size))=true:=by
  rw[abl hsz,Bool.and_false]
  exact xA
 refine call_meets F.slot_list_extend ⟨_,e,rfl⟩ F.entry_list_extend (F.args_list_extend_2 _ _)
  (AutoSeq1.list_extend_list_list_0 l its.toArray n b its2.toArray n2 akf (by rw[List.size_toArray];omega) ()) ⟨e,e2,?_⟩
 refine⟨.non,_,I.aj8 (its':=its++its2) hH e (by simp) (r.append r2) ?_,rfl,q⟩
 rw[List.length_append]
 omega
def amR:R2:=λx y H Q=>∃l b xs zs,x= .ref l/\y= .ref b/\H l=some (.lst xs)/\H b=some (.lst zs)/\xs.length+zs.length<=sizeLine/\∀p,H p=none->Q (.ref p) (upd H p (.lst (xs++zs)))
theorem agX:uy X (binaryOp .Add) amR:=by
 intro pins s σ H x y v u Q I rx ry h
 obtain⟨l,b,xs,zs,rfl,rfl,hH,hB,hz,q⟩:=h
 cases rx
 cases ry
 obtain⟨z,its,n,r,hl,e⟩:=I.abC hH
 obtain⟨z2,its2,n2,r2,hl2,e2⟩:=I.abC hB
 refine PySem.P.add_list e e2 ?_ (by rw[List.size_toArray,List.size_toArray];omega)
 have ea:its.toArray++its2.toArray=(its++its2).toArray:=by simp
 rw[ea]
 exact⟨.ref _,_,I.aj9 (t':=s.toks) (r.append r2) (by rw[List.length_append];omega),rfl,q _ I.fresh⟩
end
end L2
namespace Att
open PySem PySem.W PySem.Calls PyProof.Rows
theorem IK:∀(ns:List Int) (vs:List Value),WellAll P h vs (ns.map WData.int)->IntsAre vs ns:=by
 intro ns
 induction ns with
 | nil=>
  intro vs w
  rw[List.map_nil]at w
  cases w
  exact .nil
 | cons n ns ih=>
  intro vs w
  rw[List.map_cons]at w
  cases w with
  | cons a b=>
   cases a
   exact .cons _ _ (ih _ b)
theorem Ye{l:OpenLaw}{n:Nat}(hn:l.most=some n){P:Params}{h:Heap}{args:List WData}{vals:List Value}
  (hpre:l.row.toRowW.claim.pre args=true) (hwl:WellAll P h vals args):
  ∃a vs ns,vals=[Value.ref a]/\args=[WData.list (ns.map WData.int)]/\h.get? a=some {cls:= .type "list",data:= .seq vs.toArray}/\IntsAre vs ns/\ns.length<=n:=by
 have hsh:WShape.hasAll [] args [.list .int]=true:=(pre_splitW hpre).1
 have hc:l.pre.holds [] {args:=args}=true:=(pre_splitW hpre).2
 obtain⟨d,r,rfl,h1,h2⟩:=hasAllW_cons hsh
 obtain rfl:=hasAllW_nil h2
 obtain⟨xs,rfl,h3⟩:=hasW_list h1
 obtain⟨ns,rfl⟩:=items_int h3
 have hlen:ns.length<=n:=by
  unfold OpenLaw.pre at hc
  have h4:(WTm.not (.lt (.lit (.int (n:Int))) (.len (.arg 0)))).holds [] {args:=[.list (ns.map .int)]}=true:=by
   have h4:=(holds_andW hc).1
   rw[hn]at h4
   exact h4
  have h5:=condW_of h4 (w_not (w_lt w_lit (w_len_list (w_arg rfl))))
  rw[zao]at h5
  refine Nat.le_of_not_lt λq=> ?_
  have q':(n:Int)<((ns.length:Nat):Int):=()
  first
   | (rw[zag q']at h5;exact absurd h5 (by decide))
   | (simp at h5;omega)
 cases hwl with
 | cons w1 w2=>
  cases w2
  cases w1 with
  | list ho hall=>exact⟨_,_,ns,rfl,rfl,ho,IK ns _ hall,hlen⟩
theorem Yq(l:OpenLaw)(args:List WData):l.row.toRowW.claim.post args (.bool true) args=true:=
 postW_of (r:=l.row.toRowW) (X:=(true==true))
  (show WShape.has [] (.bool true) .bool=true by first | rfl | decide | simp[WShape.has,WShape.arms,WShape.armsAll])
  (show(WTm.eq .res (.lit (.bool true))).value [] {args:=args,res:=some (.bool true),after:=args}=some (.bool (true==true))from w_eq_bool (w_res rfl) w_lit) rfl
theorem Ub{l:OpenLaw}{n:Nat}{q:Program}{loose:List Str}{XP:(Str->Option Value)->Heap->Prop}{YP:World->Heap->Prop}{d:DefRec}
  (hn:l.most=some n) (hdf:d.params.defaults=[])
  (call:∀(w:World) (s₀ s₁:Shared) (mg mb:Str->Option Value) (fa:Addr) (o:Obj) (pm cd doc:Value) (a:Addr) (vs:List Value) (ns:List Int),
   Ground q loose [] XP w s₀ mg mb s₁.heap->YP w s₁.heap->
   s₁.heap.get? fa=some o->o.data= .func (docDef d.name d.params d.body d.scope pm cd doc)->s₁.heap.CodeRec cd d.name->mg d.name=some (.ref fa)->
   s₁.heap.get? a=some {cls:= .type "list",data:= .seq vs.toArray}->IntsAre vs ns->ns.length<=n->s₁.gens= #[]->
   codeAny (model l.prog w) callerA (.call (.ref fa) ⟨[.ref a],[]⟩) (λr s'=>r= .ok (.ret (.bool true))/\OldK s₁.heap s'.heap/\s'.os=s₁.os/\AllBare s'.gens) s₁):
  WalkO q loose XP YP l.row.toRowW d [] (λf vs=>PySem.call f vs):=by
 intro w s₀ s₁ mg mb G Y fa o pm cd doc dV kV ho hd hcd hD hmg hg args vals as hpre hlay hrd hwl hlo
 obtain rfl:dV= .none:=Dflts.none hD hdf
 obtain rfl:kV= .none:=Dflts.noKw hD
 obtain⟨a,vs,ns,rfl,rfl,hobj,hints,hlen⟩:=Ye hn hpre hwl
 refine enter_call (codeAny_mono (call w s₀ s₁ mg mb fa o pm cd doc a vs ns G Y ho (fd_plain hd) hcd hmg hobj hints hlen hg) λr s' hq=> ?_)
 obtain⟨rfl,h2,h3,h4⟩:=hq
 exact⟨.inl ⟨.bool true,.bool true,[],rfl,λ_=>rfl,.bool true,Yq l _,λ_=>⟨List.Pairwise.nil,λ_ hm=>(nomatch hm)⟩⟩,h2,h3,h4⟩
end Att
namespace L2
open PySem PySem.Spec PyProof.Rows
theorem MK:∀{vs:List Value} {ns:List Int},IntsAre vs ns->Vals (ns.map V.int) vs
 | _,_,.nil=> .nil
 | _,_,.cons n t h=> .cons ⟨t,rfl⟩ (MK h)
def Only(H:Hp):Prop:=∀b,H b=none\/∃o xs,H b=some (.lU o (.lst xs))
theorem abF{P:Program}{w:World}{K:Frag}{mg mb:Str->Option Value}{CX:VR}{k:Nat}{fa a:Addr}{fd:FuncData}{x:Str}{sp:Sp}{s₁:Shared}{vs:List Value}{ns:List Int}
  (KX:K.In s₁.heap) (hns:s₁.heap.Ns mainGlobals mg) (hb:s₁.heap.Ns builtinsNs mb) (hbb:∀x:Str,x≠ "__name__" -> mb x=bootBuiltins x) (hlim:s₁.heap.NoLimit) (hg:s₁.gens= #[])
  (ha:s₁.heap.get? a=some {cls:= .type "list",data:= .seq vs.toArray}) (hi:IntsAre vs ns) (hl:ns.length<=sizeLine) (hr:gm k callerA)
  (F:∀base:Heap,K.In base->base.Ns mainGlobals mg->gw P w K mg base CX k fa fd [x] sp) (hbind:∀(s:Shared) (u:Value),BindsTo s fd ⟨[u],[]⟩ [(x,u)])
  (hsp:∀H:Hp,Only H->pB K H a (ns.map V.int)->sp [.ref a] H (λv _=>v= .bl true) λ_ _ _=>False)
  (hCX:∀H e s',CX [] H s₁ (λ_ _ _=>False) e s'->False):
  codeAny (model P w) callerA (.call (.ref fa) ⟨[.ref a],[]⟩) (λr s'=>r= .ok (.ret (.bool true))/\OldK s₁.heap s'.heap/\s'.os=s₁.os/\AllBare s'.gens) s₁:=by
 have rv:=MK hi
 have lenV:=hi.length
 have core:∀H:Hp,Only H->pB K H a (ns.map V.int)->tZ P w H s₁.heap->(∀b,H b≠none->b=a)->(H a≠none->K.lookup a=none)->
   codeAny (model P w) callerA (.call (.ref fa) ⟨[.ref a],[]⟩) (λr s'=>r= .ok (.ret (.bool true))/\OldK s₁.heap s'.heap/\s'.os=s₁.os/\AllBare s'.gens) s₁:=by
  intro H hO hS hok hA hK
  have XQ:∀{b:Addr} {o:Obj},s₁.heap.get? b=some o->H b=none->(Qp s₁.heap H).get? b=some o:=λe n=>abR e n
  have noA:∀{b:Addr} {o:Obj} {es:Array DictEntry} {ep:Nat},s₁.heap.get? b=some o->o.data= .dict es ep->H b=none:=λ{b o es ep} e d=>by
   cases q:H b with
   | none=>rfl
   | some u=>
    have e':b=a:=hA b (by rw[q];simp)
    subst e'
    rw[ha]at e;cases e
    have d':Data.seq vs.toArray _=Data.dict es ep:=d
    cases d'
  have nsK:∀{b:Addr} {m:Str->Option Value},s₁.heap.Ns b m->(Qp s₁.heap H).Ns b m:=λ{b m} ⟨o,es,ep,e,d,r⟩=>⟨o,es,ep,XQ e (noA e d),d,r⟩
  have hKb:K.In (Qp s₁.heap H):=λb o e=>XQ (KX b o e) (by
   cases q:H b with
   | none=>rfl
   | some u=>
    have e':b=a:=hA b (by rw[q];simp)
    subst e'
    rw[hK (by rw[q];simp)]at e;cases e)
  have hM:Mod K mg (Qp s₁.heap H):=⟨hKb,nsK hns,⟨mb,nsK hb,hbb⟩,let⟨mc,h1,h2⟩:=hlim;⟨mc,nsK h1,h2⟩⟩
  have e0:MF P w K mg (Qp s₁.heap H) callerA [] s₁ H:=⟨rfl,hM,λb o e=>ad7 e,Nat.le_of_eq (Y8 _ _),trivial,λb hb=>absurd (show b∈([]:List Addr)from hb) (by simp),hok,.of_eq hg⟩
  refine codeAny_mono ((F _ hKb (nsK hns)).run callerA [] s₁ H ⟨[.ref a],[]⟩ [.ref a] [.ref a] _ _ hr e0 (hbind s₁ (.ref a)) (.cons rfl .nil) (hsp H hO hS)) λr s' h=> ?_
  cases r with
  | error e=>exact(hCX H e s' h).elim
  | ok fl=>
   cases fl with
   | next=>exact False.elim h
   | brk=>exact False.elim h
   | cont=>exact False.elim h
   | ret u=>
    obtain⟨v,H',os,bare,un,hok',r',q⟩:=h
    have q':v= .bl true:=q
    subst q'
    obtain rfl:u=Value.bool true:=r'
    refine⟨rfl,OldK.of_keep λb o e=> ?_,os,bare⟩
    cases q:H b with
    | none=>exact un.keep b o e q (by intro z;exact absurd (show b∈([]:List Addr)from z) (by simp)) (by simp)
    | some u=>
     rcases hO b with z | ⟨ob,xs,z⟩
     ·rw[q]at z;cases z
     ·have z2:=un.tY b ob _ z
      obtain⟨e1,_⟩:=hok b _ z
      obtain⟨e2,_⟩:=hok' b _ z2
      rw[e]at e1;cases e1
      exact e2
 cases hk:K.lookup a with
 | some o=>
  have e:=KX a o hk
  rw[ha]at e
  cases e
  refine core (λ_=>none) (λ_=> .inl rfl) (.inr ⟨_,vs.toArray,_,hk,rfl,rfl,rfl,by rw[List.size_toArray,lenV];exact hl,by simpa using rv⟩) (λb u z=>by have z':(none:Option HO)=some u:=z;cases z') (λb z=>absurd rfl z) λz=>absurd rfl z
 | none=>
  refine core (λb=>if b=a then some (.lU {cls:= .type "list",data:= .seq vs.toArray} (.lst (ns.map V.int)))else none) (λb=> ?_) (.inl (.inr ⟨{cls:= .type "list",data:= .seq vs.toArray},if_pos rfl⟩)) (λb u z=> ?_) (λb z=> ?_) λ_=>hk
  ·by_cases hb:b=a
   ·exact .inr ⟨_,_,if_pos hb⟩
   ·exact .inl (if_neg hb)
  ·by_cases hb:b=a
   ·have z':=(if_pos hb).symm.trans z
    cases z'
    subst hb
    exact⟨ha,by rw[zao];exact hl,vs,_,rv,ha⟩
   ·have z':=(if_neg hb).symm.trans z
    cases z'
  ·by_cases hb:b=a
   ·exact hb
   ·exact absurd (if_neg hb) z
abbrev KOf{K:Frag}{h:Heap}(_:K.In h):Frag:=K
theorem acV{l:PySem.W.OpenLaw}{n k:Nat}{loose:List Str}{XP:(Str->Option Value)->Heap->Prop}{YP:World->Heap->Prop}{K:Params->Frag}{CX:World->VR}{sp:World->Sp}{x:Str}
  (hn:l.most=some n) (hn2:n<=sizeLine) (hdf:d.params.defaults=[]) (hr:gm k callerA)
  (hY:∀(w:World) (h:Heap),YP w h->(K w.params).In h)
  (F:∀(w:World) (mg:Str->Option Value) (fa:Addr) (h:Heap),(K w.params).In h->h.Ns mainGlobals mg->mg d.name=some (.ref fa)->
   ∃fd:FuncData,(∀(s:Shared) (u:Value),BindsTo s fd ⟨[u],[]⟩ [(x,u)])/\
    ∀base:Heap,(K w.params).In base->base.Ns mainGlobals mg->gw l.prog w (K w.params) mg base (CX w) k fa fd [x] (sp w))
  (hsp:∀(w:World) (H:Hp) (a:Addr) (ns:List Int),ns.length<=n->Only H->pB (K w.params) H a (ns.map V.int)->sp w [.ref a] H (λv _=>v= .bl true) λ_ _ _=>False)
  (hCX:∀(w:World) (H:Hp) (s:Shared) (e:Value) (s':Shared),CX w [] H s (λ_ _ _=>False) e s'->False):
  PySem.W.WalkO q loose XP YP l.row.toRowW d [] (λf vs=>PySem.call f vs):=by
 refine Att.Ub hn hdf λw s₀ s₁ mg mb fa o pm cd doc a vs ns G Y ho hd hcd hmg hobj hints hlen hg=> ?_
 have KX:=hY w _ Y
 obtain⟨fd,hb,hF⟩:=F w mg fa _ KX G.T.g hmg
 exact abF KX G.T.g G.T.b G.T.builtins G.T.nolimit hg hobj hints (yY hlen hn2) hr hF hb (λH hO hS=>hsp w H a ns hlen hO hS) λH e s'=>hCX w H s₁ e s'
def inClass(s:Stmt)(j:Nat):Stmt:=match s with
 | .ClassDef _ _ _ body _ _ _ _ _ _ _=>body.getD j (.Pass ⟨0,0,0,0⟩)
 | _=> .Pass ⟨0,0,0,0⟩
def eU(s:Stmt):Arguments:=match s with
 | .FunctionDef _ a _ _ _ _ _ _ _ _=>a
 | _=>{posonlyargs:=[],args:=[],vararg:=none,kwonlyargs:=[],kw_defaults:=[],kwarg:=none,defaults:=[]}
def cY(s:Stmt):List Stmt:=match s with
 | .FunctionDef _ _ b _ _ _ _ _ _ _=>b
 | _=>[]
def aZ(s:Stmt):Scope:=match s with
 | .FunctionDef _ _ _ _ _ _ sc _ _ _=>sc
 | _=>{kind:= .function,names:=[],isGenerator:=false,isCoroutine:=false}
abbrev VV:VR:=λ_ _ _ _ _ _=>False
abbrev E0:XK:=λ_ _ _=>False
structure Fun(K:Frag)(x qual:Str)(st:Stmt)(f:Addr)(fd:FuncData):Prop where
 ex:∃(oc:Value) (od:Option Addr) (kV doc pm:Value) (an:Option Addr) (cdv ct:Value) (osl:Array (Option Value)),
  fd=fnOf x qual (eU st) (cY st) (aZ st) .none kV doc pm an cdv ct/\K.lookup f=some ⟨oc,od,.func fd,osl⟩/\codeIn K cdv qual=true
 kp:keepIn K (.ref f)=true
section
variable{P:Program}{w:World}{K:Frag}{mg:Str->Option Value}{base:Heap}
theorem Fun.ok{x qual:Str}{st:Stmt}{f:Addr}{fd:FuncData}{N ps:List Str}{k:Nat}{sp:Sp}(F:Fun K x qual st f fd)(S:pL N ps (aZ st))(len:∀vs H Q E,sp vs H Q E->vs.length=ps.length)
  (hbody:∀(cdv:Value) (A:Around) (outer:List Env) (s:Shared) (H:Hp) (vs:List V) (Q:VK) (E:XK),gm k (A.deeper (envOfC qual (aZ st) s.heap.objs.size f cdv))->sp vs H Q E->
   ∃t,IV (vY VV P w K mg base N qual (aZ st) f cdv A outer s H E).nox (cY st) t/\t {nx:=λ_ H'=>Q .non H',rt:=Q} (start N vs) H):gw P w K mg base VV (k+1) f fd ps sp:=by
 obtain⟨oc,od,kV,doc,pm,an,cdv,ct,osl,rfl,lk,hcd⟩:=F.ex
 refine ab8 lk hcd S len λA outer s H vs Q E hr hsp=> ?_
 obtain⟨t,h,q⟩:=hbody cdv A outer s H vs Q E hr hsp
 exact⟨t,h.nox,q⟩
end
section
variable{X:Cx}
theorem pv(i:Nat)(hN:X.N[i]? = some x:=by rfl)(hv:Vis X.env.scope x:=by first | exact Or.inl rfl | exact Or.inr (Or.inl rfl) | exact Or.inr (Or.inr rfl))(hd:(x==("__debug__" : Str))=false:=by decide)
  (hcd:(x==("__classdict__" : Str))=false:=by decide):PE X (.Name x pos) (ac5 i):=aa4 hN hv hd hcd
end
def Lx(H H':Hp):Prop:=∀b o,H b=some o->H' b=some o
theorem Lx.trans(a:Lx H H1)(b:Lx H1 H2):Lx H H2:=λc o h=>b c o (a c o h)
theorem Lx.free(e:Lx H H')(h:H' l=Option.none):H l=Option.none:=by
 cases q:H l with
 | none=>rfl
 | some o=>
  rw[e l o q]at h
  cases h
theorem Lx.seq{K:Frag}{H H':Hp}{a:Addr}{xs:List V}(e:Lx H H')(h:pB K H a xs):pB K H' a xs:=by
 rcases h with(h | ⟨o,h⟩) | h
 ·exact .inl (.inl (e _ _ h))
 ·exact .inl (.inr ⟨o,e _ _ h⟩)
 ·exact .inr h
theorem Dk(h:∀n,(n,NameKind.free)∈scope.names->∃c,env.cells.lookup n=some c):
  ∃cl,closureFor scope env=pure cl/\(∀n c,cl.lookup n=some c->env.cells.lookup n=some c)/\∀n,(n,NameKind.free)∈scope.names->∃c,cl.lookup n=some c:=by
 have go:∀(names:List (Str×NameKind)) (acc:List (Str×Addr)),(∀n,(n,NameKind.free)∈names->∃c,env.cells.lookup n=some c)->(∀n c,acc.lookup n=some c->env.cells.lookup n=some c)->
   ∃cl,(forIn names acc λ(x:Str×NameKind) (r:List (Str×Addr))=>if(x.2==NameKind.free)=true then do let a <-cellOf env x.1;pure (ForInStep.yield ((x.1,a)::r))else pure (ForInStep.yield r):Sem (List (Str×Addr)))=pure cl/\
    (∀n c,cl.lookup n=some c->env.cells.lookup n=some c)/\(∀n,(n,NameKind.free)∈names->∃c,cl.lookup n=some c)/\∀n c,acc.lookup n=some c->∃c,cl.lookup n=some c:=by
  intro names
  induction names with
  | nil=>intro acc _ h2;exact⟨acc,rfl,h2,(λ_ z=>nomatch z),λn c e=>⟨c,e⟩⟩
  | cons x r ih=>
   intro acc h1 h2
   obtain⟨n,k⟩:=x
   by_cases hk:k=NameKind.free
   ·subst hk
    obtain⟨c,hc⟩:=h1 n xB
    obtain⟨cl,e1,e2,e3,e4⟩:=ih ((n,c)::acc) (λm z=>h1 m (yT _ z)) (λm d e=>by
     rw[List.lookup_cons]at e
     cases q:m==n with
     | true=>rw[q]at e;cases e;rw[eq_of_beq q];exact hc
     | false=>rw[q]at e;exact h2 m d e)
    refine⟨cl,?_,e2,λm z=> ?_,λm d e=> ?_⟩
    ·rw[List.forIn_cons]
     have:cellOf env n=pure c:=by unfold cellOf;rw[hc]
     simp only[this,beq_self_eq_true,if_true]
     exact e1
    ·rcases List.mem_cons.mp z with z | z
     ·cases z
      exact e4 n c (by rw[List.lookup_cons,beq_self_eq_true])
     ·exact e3 m z
    ·cases q:m==n with
     | true=>exact e4 m c (by rw[List.lookup_cons,q])
     | false=>exact e4 m d (by rw[List.lookup_cons,q];exact e)
   ·obtain⟨cl,e1,e2,e3,e4⟩:=ih acc (λm z=>h1 m (yT _ z)) h2
    refine⟨cl,?_,e2,λm z=> ?_,e4⟩
    ·rw[List.forIn_cons]
     have:(k==NameKind.free)=false:=by simpa using hk
     simp only[this,Bool.false_eq_true,if_false]
     exact e1
    ·rcases List.mem_cons.mp z with z | z
     ·cases z;exact absurd rfl hk
     ·exact e3 m z
 obtain⟨cl,e1,e2,e3,_⟩:=go scope.names [] h (λ_ _ e=>nomatch e)
 refine⟨cl,?_,e2,e3⟩
 unfold closureFor
 show(forIn scope.names [] _ >>= λr=>pure r)=_
 rw[show(forIn scope.names [] λ(x:Str×NameKind) (r:List (Str×Addr))=>_:Sem (List (Str×Addr)))=pure cl from e1]
 rfl
noncomputable def dW(env:Env)(x:Str×NameKind):Str×NameKind:=if(x.2== .free&&env.scope.kind== .function&&env.kindOf x.1==some .cell)then(x.1,.cell)else(x.1,x.2)
theorem J5(env:Env)(x:Str×NameKind):(dW env x).1=x.1:=by
 unfold dW;split<;>rfl
theorem Wx:∀{names:List (Str×NameKind)},(∀z∈names,z.2≠ .cell)->((names.map (dW env)).lookup y=some .cell\/(names.map (dW env)).lookup y=some .free)->(y,NameKind.free)∈names
 | [],_,h=>by rcases h with h | h<;>cases h
 | (n,k)::r,hc,h=>by
  rw[List.map_cons]at h
  have e1:(dW env (n,k)).1=n:=J5 env (n,k)
  cases hx:y==n with
  | true=>
   have ey:=eq_of_beq hx
   subst ey
   have hk:k≠ .cell:=hc (y,k) xB
   have q:(dW env (y,k)).2= .cell\/(dW env (y,k)).2= .free:=by
    have l:∀kk,List.lookup y (dW env (y,k)::List.map (dW env) r)=some kk->(dW env (y,k)).2=kk:=λkk z=>by
     rw[show dW env (y,k)=(y,(dW env (y,k)).2)from Prod.ext e1 rfl,List.lookup_cons,beq_self_eq_true]at z
     exact xI z
    rcases h with h | h
    ·exact .inl (l _ h)
    ·exact .inr (l _ h)
   have hk2:k= .free:=by
    unfold dW at q
    split at q
    ·rename_i z
     rw[Bool.and_eq_true,Bool.and_eq_true]at z
     simpa using z.1.1
    ·rcases q with q | q
     ·exact absurd q hk
     ·exact q
   rw[hk2]
   exact xB
  | false=>
   have l:List.lookup y (dW env (n,k)::List.map (dW env) r)=List.lookup y (List.map (dW env) r):=by
    rw[show dW env (n,k)=(n,(dW env (n,k)).2)from Prod.ext e1 rfl,List.lookup_cons,hx]
   rw[l]at h
   exact yT _ (Wx (λz hz=>hc z (yT _ hz)) h)
theorem aaQ:∀{names:List (Str×NameKind)},names.lookup y=some .free->(names.map (dW env)).lookup y=some .cell\/(names.map (dW env)).lookup y=some .free
 | [],h=>by cases h
 | (n,k)::r,h=>by
  rw[List.map_cons]
  have e1:(dW env (n,k)).1=n:=J5 env (n,k)
  rw[show dW env (n,k)=(n,(dW env (n,k)).2)from Prod.ext e1 rfl,List.lookup_cons]
  rw[List.lookup_cons]at h
  cases hx:y==n with
  | true=>
   rw[hx]at h
   have hk:k= .free:=xI h
   subst hk
   show some (dW env (n,NameKind.free)).2=some NameKind.cell\/some (dW env (n,NameKind.free)).2=some NameKind.free
   unfold dW
   split
   ·exact .inl rfl
   ·exact .inr rfl
  | false=>
   rw[hx]at h
   exact aaQ h
section
variable{prog:Program}{w:World}{A:Around}{R:Result->Shared->Prop}
theorem Z5(W:Nat->Shared->Prop)
  (turn:∀n s,W n s->wpAny (model prog w) A (pyNext it) (λr s1=>match r with
   | none=>R (.ok .next) s1
   | some v=>wpAny (model prog w) A (letOwnedTupleGo tg it v) (λ_ s2=>wpAny (model prog w) A (assign tg env v) (λ_ s3=>
     wpAny (model prog w) A (forIn ifs true λc r=>if r=true then do let ok <-isTrue c env (eval c env);pure (ForInStep.yield ok)else pure (ForInStep.yield r)) (λok s4=>
      if ok=true then wpAny (model prog w) A (eval elt env) (λx s5=>wpAny (model prog w) A (call (.builtin "list.append") [acc,x]) (λ_ s6=>∃m,m<n/\W m s6) (λ_ _=>False) s5) (λ_ _=>False) s4
      else ∃m,m<n/\W m s4) (λ_ _=>False) s3) (λ_ _=>False) s2) (λ_ _=>False) s1) (λ_ _=>False) s)
  (n:Nat) (h:W n s):codeAny (model prog w) A (.compLoop (.ListComp elt [⟨tg,iter,ifs,0⟩] scope pos) 0 it acc env) R s:=by
 have ex:∀{α:Type} {t:Sem α} {Q Q':α->Shared->Prop} {E:Value->Shared->Prop} {s:Shared},wpAny (model prog w) A t Q (λ_ _=>False) s->(∀a s,Q a s->Q' a s)->wpAny (model prog w) A t Q' E s:=
  λh f=>vE h f λ_ _ z=>z.elim
 refine codeAny_loop rfl W (λn s hI=> ?_) n h
 show wpAny _ A ((compTurn (.ListComp elt [⟨tg,iter,ifs,0⟩] scope pos) 0 it acc env).onRaise (λx=>do noteFrame x env;theTreesLotGoes x)) _ _ s
 refine wpAny_noted ?_
 rw[compTurn_list]
 refine zC (wpAny_standAt (zC (ex (turn n s hI) λr s1 h1=> ?_)))
 cases r with
 | none=>exact zI h1
 | some v=>
  refine zC (ex h1 λ_ s2 h2=>zC (ex h2 λ_ s3 h3=>zC (ex h3 λok s4 h4=> ?_)))
  cases ok with
  | false=>exact zI ⟨rfl,h4⟩
  | true=>exact zC (zC (ex h4 λx s5 h5=>zC (ex h5 λ_ s6 h6=>zI (zI ⟨rfl,h6⟩))))
end
noncomputable def c7(X:Cx)(scope:Scope)(cl:List (Str×Addr))(C:Addr)(N:List Str)(fp:List Addr)(s:Shared)(H:Hp):Cx where
 prog:=X.prog
 w:=X.w
 K:=X.K
 mg:=X.mg
 base:=X.base
 A:=X.A
 N:=N
 s₀:=s
 H₀:=H
 env:=compEnvC scope cl C X.env
 outer:=X.stack
 stack:=X.stack
 ex:=fp
 fn:=λ_=>false
 calm:=X.calm
 pn:=[]
 xe:=λ_ _=>False
def tV(X:Cx)(scope:Scope):List Str->List Nat->Prop
 | [],[]=>True
 | y::cs,i::js=>(X.N[i]? = some y/\scope.names.lookup y=some .free/\(X.env.kindOf y=some .cell\/X.env.kindOf y=some .free))/\tV X scope cs js
 | _,_=>False
theorem tV.len:∀{cs:List Str} {js:List Nat},tV X scope cs js->js.length=cs.length
 | [],[],_=>rfl
 | _::_,_::_,h=>by rw[List.length_cons,List.length_cons,tV.len h.2]
 | [],_::_,h=>h.elim
 | _::_,[],h=>h.elim
theorem tV.get:∀{cs:List Str} {js:List Nat} {j:Nat},tV X scope cs js->cs[j]? = some y->
  ∃i,js[j]? = some i/\X.N[i]? = some y/\scope.names.lookup y=some .free/\(X.env.kindOf y=some .cell\/X.env.kindOf y=some .free)
 | [],[],_,_,e=>by simp at e
 | _::_,i::_,0,h,e=>by simp at e;subst e;exact⟨i,rfl,h.1.1,h.1.2⟩
 | _::_,_::_,j+1,h,e=>by
  obtain⟨i,e1,r⟩:=tV.get (j:=j) h.2 (by simpa using e)
  exact⟨i,by simpa using e1,r⟩
 | [],_::_,_,h,_=>h.elim
 | _::_,[],_,h,_=>h.elim
def caps(js:List Nat)(σ:St):St:=js.map λi=>(σ[i]?).join
def PTs(X:Cx)(ifs:List Expr)(t:TT):Prop:=
 ∀(pins:List (Addr×Obj)) (s:Shared) (σ:St) (H:Hp) (Q:Bool->Hp->Prop),Inv X pins σ H s->t σ H Q->
  wpAny (model X.prog X.w) X.A (forIn ifs true λc r=>if r=true then do let ok <-isTrue c X.env (eval c X.env);pure (ForInStep.yield ok)else pure (ForInStep.yield r)) (TP X pins σ Q) X.xe s
def amw:TT:=λ_ H Q=>Q true H
theorem adD:PTs X [] amw:=λ_ _ _ H _ I h=>zI ⟨H,I,h⟩
theorem adC(h:PT X c t):PTs X [c] t:=by
 intro pins s σ H Q I hq
 rw[List.forIn_cons]
 simp only[if_true]
 exact zC (zC (fP (h pins s σ H Q I hq) λok s1 q=>zI (zI q)))
def ah9(js:List Nat)(tt:TT)(te:TE)(σ:St)(Q:VK)(J:It)(H1:Hp):Prop:=
 ∃W:Nat->Nat->List V->Hp->Prop,(∃m,W 0 m [] H1)/\∀i m ys H,W i m ys H->
  (J.stop i H/\ys.length<=sizeLine/\∀p,H p=none->Q (.ref p) (upd H p (.lst ys)))\/
  (J.go i H/\∃N:List V->Hp->Prop,(∀ys' H',N ys' H'->ys'.length<=sizeLine/\∃m',m'<m/\W (i+1) m' ys' H')/\∀x H',J.X6 i H x H'->tt (some x::caps js σ) H' λb H2=>
   if b=true then te (some x::caps js σ) H2 λy H3=>N (ys++[y]) H3 else N ys H2)
def aag(js:List Nat)(wi:TI)(tt:TT)(te:TE):TE:=λσ H Q=>wi σ H λJ H1=>ah9 js tt te σ Q J H1
theorem tZ.track(x:tZ P w H h)(hn:H a=none)(new:dD P w (upd H a o) h a o):tZ P w (upd H a o) h:=λb u e=>by
 by_cases hb:b=a
 ·subst hb;rw[bB]at e;cases e;exact new
 ·rw[aL hb]at e
  exact(x b u e).stay (λc v _ q=>q) (λc q=>by rw[aL (bJ q hn)];exact q) λc xs q=>by rw[aL (bJ q hn)];exact q
theorem Un.track(u:Un fs ex H H1 h h1)(hn:h.get? a=none)(hH:H a=none):Un fs ex H (upd H1 a o) h h1 where
 keep:=u.keep
 slot:=u.slot
 free:=λb ob e n hx=>by rw[aL (by rintro rfl;rw[hn]at e;cases e)];exact u.free b ob e n hx
 there:=u.there
 tups:=λb xs e=>by rw[aL (bJ e hH)];exact u.tups b xs e
 tY:=λb ob xs e=>by rw[aL (bJ e hH)];exact u.tY b ob xs e
 vp:=λb ps e=>by rw[aL (bJ e hH)];exact u.vp b ps e
def Hh(xs:List Str):St:=xs.map λ_=>none
section
variable{X:Cx}{x:Str}{px:Pos}{tg elt iter:Expr}{ifs:List Expr}{scope:Scope}{xs cs:List Str}{js:List Nat}{tt:TT}{te:TE}{pos:Pos}
theorem HN{g:TG}{cl:List (Str×Addr)}{pins:List (Addr×Obj)}{σ:St}{H2:Hp}{s2:Shared}{it:Addr}{fp:List Addr}{tn:Nat->Heap->Prop}{J:It}{Q:VK}{RR:Value->Addr->Result->Shared->Prop}
  (hc:X.calm=true) (hcap:tV X scope cs js) (ht:∀cl C fp s H,PTs (c7 X scope cl C (xs++cs) fp s H) ifs tt) (he:∀cl C fp s H,PE (c7 X scope cl C (xs++cs) fp s H) elt te)
  (hcell:∀y∈scope.names,y.2≠ .cell) (hkind:scope.kind= .function) (hg:∀cl C fp s H,PG (c7 X scope cl C (xs++cs) fp s H) tg g)
  (Dh:∀n c,cl.lookup n=some c->X.env.cells.lookup n=some c) (Mt:∀n,(n,NameKind.free)∈scope.names->∃c,cl.lookup n=some c)
  (I2:Inv X pins σ H2 s2) (T:Turn X.prog X.w X.K (tg) J fp it tn) (st2:tn 0 s2.heap) (f2:∀b∈fp,Bg X pins H2 b)
  (W:Nat->Nat->List V->Hp->Prop) (w0:∃m,W 0 m [] H2)
  (step:∀i m ys H,W i m ys H->
   (J.stop i H/\ys.length<=sizeLine/\∀p,H p=none->Q (.ref p) (upd H p (.lst ys)))\/
   (J.go i H/\∃N:List V->Hp->Prop,(∀ys' H',N ys' H'->ys'.length<=sizeLine/\∃m',m'<m/\W (i+1) m' ys' H')/\∀x H',J.X6 i H x H'->g x (Hh xs++caps js σ) H' λσ1 H1=>(σ1.length=(Hh xs++caps js σ).length/\σ1.drop xs.length=caps js σ)/\tt σ1 H1 λb H2=>
    if b=true then te σ1 H2 λy H3=>N (ys++[y]) H3 else N ys H2))
  (fin:∀(D C:Addr) (H3:Hp) (s4:Shared) (m':Str->Option Value),Inv X pins σ H3 s4->s4.heap.Ns C m'->s2.heap.objs.size<=C->H3 C=none->Q (.ref D) H3->RR (.ref D) C (.ok .next) s4):
  wpAny (model X.prog X.w) X.A (newList []) (λacc s3=>wpAny (model X.prog X.w) X.A (newFunctionEnv scope X.env.globals cl [] X.env.qual none .none (some X.env)) (λcenv s4=>
   codeAny (model X.prog X.w) X.A (.compStart (.ListComp elt [⟨tg,iter,ifs,0⟩] scope pos) 0 (.ref it) acc {cenv with scope:=relabel scope X.env}) (RR acc cenv.locals) s4) X.xe s3) X.xe s2:=by
 refine wT (wpAny_newFunctionEnv hcell (by intro y hy;simp at hy) (λh1 hns hsb=> ?_) hkind)
 dsimp only at hns hsb ⊢
 generalize hP:s2.heap.push {cls:= .type "list",dict:=none,data:= .seq ([]:List Value).toArray}=hq at hns hsb ⊢
 have eC:hq.objs.size=s2.heap.objs.size+1:=by rw[<-hP,Heap.size_push]
 generalize eD:s2.heap.objs.size=D at eC ⊢
 generalize eCC:hq.objs.size=C at hns hsb eC ⊢
 have DC:D≠C:=()
 have old:∀b o,s2.heap.get? b=some o->h1.get? b=some o:=λb o e=>by
  have lt: @LT.lt Nat _ b s2.heap.objs.size:=zS e
  exact hsb.extBut b o (λz=>by subst z;omega) (zD _ (hP▸zD _ e))
 have aoh:h1.get? D=some {cls:= .type "list",dict:=none,data:= .seq ([]:List Value).toArray}:=hsb.extBut _ _ DC (zD _ (hP▸eD▸yB _ rfl))
 have noD:s2.heap.get? D=none:=Heap.get?_none_of_le ()
 have HD:H2 D=none:=I2.hok.fresh ()
 have HC:H2 C=none:=I2.hok.fresh ()
 have akr:∀b∈fp,@LT.lt Nat _ b D:=λb hb=>by
  obtain⟨o,e,_⟩:=T.obj _ _ st2 b hb
  have q: @LT.lt Nat _ b s2.heap.objs.size:=zS e
  omega
 have Dfp:D∉fp:=λz=>wS _ (akr D z)
 have anE:∀b∈frs X.stack,@LT.lt Nat _ b D:=λb hb=>by
  obtain⟨_,o,ho,_⟩:=I2.stack.mem hb
  have q: @LT.lt Nat _ b s2.heap.objs.size:=zS ho
  omega
 have anT:∀y c,cl.lookup y=some c-> @LT.lt Nat _ c D:=λy c e=>by
  obtain⟨v,z⟩:=I2.cell y c (Dh y c e)
  have q: @LT.lt Nat _ c s2.heap.objs.size:=z.lt
  omega
 have ok:(c7 X scope cl C (xs++cs) fp s2 H2).Ok:=by
  refine⟨I2.ok.mod,hkind,I2.ok.glob,I2.ok.blt,(by show s2.heap.objs.size<=C;omega),λy z c e1 e2=>I2.ok.inj y z c (Dh y c e1) (Dh z c e2),λy hy=>Mt y (Wx hcell hy),λy c e=>(by cases e),I2.ok.hd,I2.ok.frames,.inl rfl,
   λb hb=>⟨?_,λy c e=>(f2 b hb).2.2.2.2.1 y c (Dh y c e)⟩,I2.bs,yY I2.ok.XD I2.sz,λb o e hb=> ?_,λb hb z=> ?_,I2.stack,I2.Jc⟩
  ·have q:=akr b hb
   show b≠C
   intro z
   subst z
   omega
  ·rcases(f2 b hb).2.2.2.1 with z | z
   ·exact I2.ok.Ss b o e z
   ·have l: @LT.lt Nat _ b X.base.objs.size:=zS e
    have l2:=I2.ok.XD
    have l3: @LE.le Nat _ X.s₀.heap.objs.size b:=z
    omega
  ·rcases List.mem_cons.mp (I2.Ow b z)with e | e
   ·exact(f2 b hb).2.1 e
   ·exact(f2 b hb).2.2.1 e
 have I0:Inv (c7 X scope cl C (xs++cs) fp s2 H2) [(D,{cls:= .type "list",dict:=none,data:= .seq ([]:List Value).toArray})] (Hh xs++caps js σ) H2 {s2 with heap:=h1,toks:=s2.toks+([]:List (Str×Value)).length}:=by
  refine⟨ok,rfl,I2.bare,Un.kept old,⟨_,hns,λi y v e1 e2 e3=> ?_⟩,λy c e=> ?_,HC,λy c e=>I2.jZ y c (Dh y c e),λp hp=> ?_,I2.hok.kept old,?_⟩
  ·have hi:xs.length<=i:=by
    rcases Nat.lt_or_ge i xs.length with q | q
    ·rw[zae (by simpa[Hh]using q)]at e2
     simp[Hh]at e2
    ·exact q
   obtain⟨j,rfl⟩:∃j,i=xs.length+j:=⟨i - xs.length,()⟩
   ·have e1':cs[j]? = some y:=by
     have:(xs++cs)[xs.length+j]? = some y:=e1
     rw[zad ()]at this
     simpa using this
    obtain⟨i0,q1,q2,q3,q4⟩:=hcap.get e1'
    have e2':σ[i0]? = some (some v):=by
     have z:(caps js σ)[j]? = some (some v):=by
      rw[zad (by simp[Hh])]at e2
      simpa[Hh]using e2
     unfold caps at z
     rw[zan,q1]at z
     have z':(σ[i0]?).join=some v:=by simpa using z
     cases r:σ[i0]? with
     | none=>rw[r]at z';cases z'
     | some r'=>rw[r]at z';exact congrArg some z'
    obtain⟨m,_,hl⟩:=I2.loc
    obtain⟨u,r,l⟩:=hl i0 y v q2 e2' (by rcases q4 with q | q;exact .inr (.inl q);exact .inr (.inr q))
    obtain⟨c,hcy⟩:=Mt y (PySem.mem_of_lookup q3)
    refine⟨u,r,.inr ⟨aaQ q3,c,hcy,?_⟩⟩
    rcases l with⟨k,_⟩ | ⟨_,c',ec,o,ho,hd⟩
    ·rcases q4 with q | q<;>rw[q]at k<;>cases k
    ·rw[Dh y c hcy]at ec
     cases ec
     exact⟨o,old _ _ ho,hd⟩
  ·obtain⟨v,o,ho,hd⟩:=I2.cell y c (Dh y c e)
   exact⟨v,o,old _ _ ho,hd⟩
  ·have ep:p=(D,{cls:= .type "list",dict:=none,data:= .seq ([]:List Value).toArray}):=by simpa[c7]using hp
   subst ep
   exact⟨aoh,HD,(by show D≠C;omega),(λz=>wS _ (anE D z)),λv z=>by cases z⟩
  ·show(Hh xs++caps js σ).length=(xs++cs).length
   unfold caps Hh
   rw[List.length_append,List.length_append,zao,zao,hcap.len]
 have stat:∀{pn:List (Addr×Obj)} {H':Hp},(∀b∈fp,H' b=none)->(∀p∈pn,p.1∉fp)->∀b∈fp,Bg (c7 X scope cl C (xs++cs) fp s2 H2) pn H' b:=λhn hpn b hb=>
  ⟨hn b hb,(ok.exf b hb).1,ok.Tu b hb,.inl hb,λy c e=>(ok.exf b hb).2 y c e,λp hp z=>hpn p (by simpa[c7]using hp) (z▸hb)⟩
 have loop:∀s3:Shared,s3={s2 with heap:=h1,toks:=s2.toks+([]:List (Str×Value)).length}->
   codeAny (model X.prog X.w) X.A (.compLoop (.ListComp elt [⟨tg,iter,ifs,0⟩] scope pos) 0 (.ref it) (.ref D) (compEnvC scope cl C X.env)) (RR (.ref D) C) s3:=by
  rintro s3 rfl
  obtain⟨m0,w0⟩:=w0
  refine Z5 (λn s=>∃(i:Nat) (ys:List V) (its:List Value) (c:Nat) (H:Hp),Inv (c7 X scope cl C (xs++cs) fp s2 H2) [(D,{cls:= .type "list",data:= .seq its.toArray c})] (Hh xs++caps js σ) H s/\
   tn i s.heap/\(∀b∈fp,H b=none)/\Vals ys its/\W i n ys H) ?_ m0 ⟨0,[],[],0,H2,I0,T.keep _ _ _ st2 λb _ o e=>old b o e,λb hb=>(f2 b hb).1,.nil,w0⟩
  rintro n s3 ⟨i,ys,its,c,H3,I3,st3,fr3,rv,w3⟩
  have pD:∀p∈[((D,{cls:= .type "list",data:= .seq its.toArray c}):Addr×Obj)],p.1∉fp:=λp hp=>by
   have:p=(D,{cls:= .type "list",data:= .seq its.toArray c}):=by simpa using hp
   subst this
   exact Dfp
  rcases step i n ys H3 w3 with⟨stop,hlen,qn⟩ | ⟨go,N,hN,step⟩
  ·refine fP (T.done (c7 X scope cl C (xs++cs) fp s2 H2) rfl rfl rfl hc i _ s3 _ H3 (λ_ _=>False) I3 (stat fr3 pD) st3 stop) ?_
   rintro r s4 ⟨hr,I4⟩
   subst hr
   obtain⟨gD,nD,_⟩:=I4.pin _ (xE _ xB)
   obtain⟨m',hn',_⟩:=id I4.loc
   have u4:Un (frs X.stack) fp H2 H3 s2.heap s4.heap:=I4.base
   have k4:tZ X.prog X.w (upd H3 D (.lst ys)) s4.heap:=tZ.track I4.hok nD ⟨hlen,its,c,rv,gD⟩
   have I5:Inv X pins σ (upd H3 D (.lst ys)) s4:=I2.call' (ch:=fp) I4.os (u4.track noD HD) k4 I4.bare λb hb=>⟨(f2 b hb).2.2.2.1,(f2 b hb).2.1,(f2 b hb).2.2.2.2.1,(f2 b hb).2.2.2.2.2⟩
   exact fin D C _ s4 m' I5 hn' () (by rw[aL (Ne.symm DC)];exact I4.free) (qn D nD)
  ·refine fP (T.item (c7 X scope cl C (xs++cs) fp s2 H2) rfl rfl rfl hc i _ s3 _ H3 (λ_ _=>False) I3 (stat fr3 pD) st3 go) ?_
   rintro r s4 ⟨u,hr,h4⟩
   subst hr
   refine fP h4 ?_
   rintro _ s5 ⟨v,H5,I5,r5,y5,st5,fr5⟩
   have I5':=I5.pinned (stat fr5 pD) (T.obj _ _ st5)
   refine fP (hg cl C fp s2 H2 _ s5 (Hh xs++caps js σ) H5 v u _ I5' r5 (step v H5 y5)) ?_
   rintro _ s6 ⟨σ6,H6,I6,⟨anb,akA⟩,q6⟩
   have weak:∀{pn:List (Addr×Obj)} {H':Hp} {s':Shared},Inv (c7 X scope cl C (xs++cs) fp s2 H2) pn σ6 H' s'->Inv (c7 X scope cl C (xs++cs) fp s2 H2) pn (Hh xs++caps js σ) H' s':=λI'=>
    I'.weak anb.symm λj z e=>by
     have hj:xs.length<=j:=by
      rcases Nat.lt_or_ge j xs.length with q | q
      ·rw[zae (by simpa[Hh]using q)]at e
       simp[Hh]at e
      ·exact q
     rw[zad (by simpa[Hh]using hj),<-akA]at e
     rw[List.getElem?_drop]at e
     rw[<-e]
     congr 1
     simp[Hh]
     omega
   have tnK:∀{σ':St} {H':Hp} {s':Shared},Inv (c7 X scope cl C (xs++cs) fp s2 H2) ([(D,{cls:= .type "list",data:= .seq its.toArray c})]++J7 fp s5.heap) σ' H' s'->(∀b∈fp,∀o,s5.heap.get? b=some o->s'.heap.get? b=some o)/\∀b∈fp,H' b=none:=λI'=>
    ⟨λb hb o e=>(I'.pin (b,o) (xE _ (xE _ (xm hb e)))).1,λb hb=>by
     obtain⟨o,e,_⟩:=T.obj _ _ st5 b hb
     exact(I'.pin (b,o) (xE _ (xE _ (xm hb e)))).2.1⟩
   refine fP (ht cl C fp s2 H2 _ s6 σ6 H6 _ I6 q6) ?_
   rintro b s7 ⟨H7,I7,q7⟩
   cases b with
   | false=>
    rw[if_neg xA]at q7 ⊢
    obtain⟨_,m',hm,w7⟩:=hN _ _ q7
    exact⟨m',hm,i+1,ys,its,c,H7,weak I7.Ea,T.keep _ _ _ st5 (tnK I7).1,(tnK I7).2,rv,w7⟩
   | true=>
    rw[if_pos rfl]at q7 ⊢
    refine fP (he cl C fp s2 H2 _ s7 σ6 H7 _ I7 q7) ?_
    rintro yv s8 ⟨y,H8,I8,r8,q8⟩
    obtain⟨hl8,m',hm,w8⟩:=hN _ _ q8
    rw[List.length_append,List.length_singleton]at hl8
    obtain⟨gD,nD,dC,dF,_⟩:=I8.pin (D,{cls:= .type "list",data:= .seq its.toArray c}) (xE _ (List.mem_append_left _ xB))
    have el:=rv.length
    refine wpAny_list_append_plain (hsz:=by rw[List.size_toArray];omega) ⟨c,gD⟩ λh9 p9 sb9=> ?_
    obtain⟨c9,g9⟩:=p9
    have g9':h9.get? D=some {cls:= .type "list",data:= .seq (its++[yv]).toArray c9}:=by simpa using g9
    have I9:Inv (c7 X scope cl C (xs++cs) fp s2 H2) [] (Hh xs++caps js σ) H8 {s8 with heap:=h9}:=
     (weak (I8.wQ (zE:=[]) (λp hp=>nomatch hp))).turned (t':=s8.toks) (it:=D) (λb o hb e=>(sb9.2 b hb).trans e) nD dC (.inr (by show s2.heap.objs.size<=D;omega)) (λy c e z=>by have q:=anT y c e;subst z;omega) (λp hp=>nomatch hp)
    refine⟨m',hm,i+1,ys++[y],its++[yv],c9,H8,I9.wQ λp hp=> ?_,?_,(tnK I8).2,rv.append (.cons r8 .nil),w8⟩
    ·have:p=(D,{cls:= .type "list",data:= .seq (its++[yv]).toArray c9}):=by simpa using hp
     subst this
     exact⟨g9',nD,dC,dF,λv z=>by cases z⟩
    ·exact T.keep _ _ _ st5 λb hb o e=>(sb9.2 b (λz=>Dfp (z▸hb))).trans ((tnK I8).1 b hb o e)
 exact codeAny_compStart_list (loop _ rfl) (T.self _ 0 _ _ _ (T.keep _ _ _ st2 λb _ o e=>old b o e) (loop _ rfl))
theorem Ld{cl:List (Str×Addr)}{pins:List (Addr×Obj)}{σ:St}{H2:Hp}{s2:Shared}{it:Addr}{fp:List Addr}{tn:Nat->Heap->Prop}{J:It}{Q:VK}{RR:Value->Addr->Result->Shared->Prop}
  (hc:X.calm=true) (hcap:tV X scope cs js) (ht:∀cl C fp s H,PTs (c7 X scope cl C (x::cs) fp s H) ifs tt) (he:∀cl C fp s H,PE (c7 X scope cl C (x::cs) fp s H) elt te)
  (hcell:∀y∈scope.names,y.2≠ .cell) (hkind:scope.kind= .function) (hx:scope.names.lookup x=some .local) (hnd:(x::cs).Nodup)
  (Dh:∀n c,cl.lookup n=some c->X.env.cells.lookup n=some c) (Mt:∀n,(n,NameKind.free)∈scope.names->∃c,cl.lookup n=some c)
  (I2:Inv X pins σ H2 s2) (T:Turn X.prog X.w X.K (.Name x px) J fp it tn) (st2:tn 0 s2.heap) (f2:∀b∈fp,Bg X pins H2 b)
  (W:Nat->Nat->List V->Hp->Prop) (w0:∃m,W 0 m [] H2)
  (step:∀i m ys H,W i m ys H->
   (J.stop i H/\ys.length<=sizeLine/\∀p,H p=none->Q (.ref p) (upd H p (.lst ys)))\/
   (J.go i H/\∃N:List V->Hp->Prop,(∀ys' H',N ys' H'->ys'.length<=sizeLine/\∃m',m'<m/\W (i+1) m' ys' H')/\∀x H',J.X6 i H x H'->tt (some x::caps js σ) H' λb H2=>
    if b=true then te (some x::caps js σ) H2 λy H3=>N (ys++[y]) H3 else N ys H2))
  (fin:∀(D C:Addr) (H3:Hp) (s4:Shared) (m':Str->Option Value),Inv X pins σ H3 s4->s4.heap.Ns C m'->s2.heap.objs.size<=C->H3 C=none->Q (.ref D) H3->RR (.ref D) C (.ok .next) s4):
  wpAny (model X.prog X.w) X.A (newList []) (λacc s3=>wpAny (model X.prog X.w) X.A (newFunctionEnv scope X.env.globals cl [] X.env.qual none .none (some X.env)) (λcenv s4=>
   codeAny (model X.prog X.w) X.A (.compStart (.ListComp elt [⟨.Name x px,iter,ifs,0⟩] scope pos) 0 (.ref it) acc {cenv with scope:=relabel scope X.env}) (RR acc cenv.locals) s4) X.xe s3) X.xe s2:=
 HN (xs:=[x]) (g:=Tt 0) hc hcap ht he hcell hkind (λcl C fp s H=>Pj hnd rfl (.inl (lookup_relabel_local hx)) (.inr (lookup_relabel_local hx))) Dh Mt I2 T st2 f2 W w0
  (λi m ys H h=>(step i m ys H h).imp id λ⟨go,N,hN,st⟩=>⟨go,N,hN,λx H' y=>⟨⟨rfl,rfl⟩,st x H' y⟩⟩) fin
theorem Inv.letGo(I2:Inv X pins σ2 H2 s2)(I:Inv X pins σ H s)(hC:s2.heap.objs.size<=C)(hn:H C=none)(sb:Heap.SameBut C s.heap h'):Inv X pins σ H {s with heap:=h'}:=
 I.turned (t':=s.toks) (λb o hb e=>(sb.2 b hb).trans e) hn (xS (yA I2.lt hC)) (.inr (yY I2.sz hC))
  (λy c e z=>by obtain⟨v,q⟩:=I2.cell y c e;exact absurd (yA q.lt (by rw[z];exact hC)) (wS _))
  (λp hp z=>absurd (yA (zS (I2.pin p hp).1) (by rw[z];exact hC)) (wS _))
theorem adS(hc:X.calm=true)(cs:List Str)(js:List Nat)(hi:PI X (.Name x px) iter wi)(hcap:tV X scope cs js)(ht:∀cl C fp s H,PTs (c7 X scope cl C (x::cs) fp s H) ifs tt)(he:∀cl C fp s H,PE (c7 X scope cl C (x::cs) fp s H) elt te)
  (hall:∀y∈scope.names,y.2= .free->y.1∈cs) (hcell:∀y∈scope.names,y.2≠ .cell) (hnames:∀y∈scope.names,y.2= .local->scope.names.lookup y.1=some .local) (hnd:(x::cs).Nodup)
  (hkind:scope.kind= .function:=by rfl) (hx:scope.names.lookup x=some .local:=by rfl) (hs:∀v,foldedSetIterable iter X.env v=pure v:=by intro _;rfl):
  PE X (.ListComp elt [⟨.Name x px,iter,ifs,0⟩] scope pos) (aag js wi tt te):=by
 intro pins s σ H Q I h
 obtain⟨cl,abT,Dh,Mt⟩:=Dk (env:=X.env) (scope:=scope) λn hn=>by
  obtain⟨j,hj⟩:=List.getElem?_of_mem (hall _ hn rfl)
  obtain⟨_,_,_,_,k⟩:=hcap.get hj
  exact I.ok.has n k
 rw[eval_ListComp]
 refine wpAny_comprehension_free (use:=none) rfl hs abT hkind hnames (fP (hi pins s σ H _ I h) λv s1 h1=>fP h1 λitv s2 h2=> ?_)
 obtain⟨it,fp,tn,J,H2,e,I2,T,st2,f2,W,w0,step⟩:=h2
 subst e
 refine Ld (Q:=Q) (RR:=λacc C=>compPost (model X.prog X.w) X.A X.xe none (EP X pins σ Q) acc C) hc hcap ht he hcell hkind hx hnd Dh Mt I2 T st2 f2 W w0 step λD C H3 s4 m' I4 hn hC hH q=> ?_
 exact⟨m',hn,λh' sb=>⟨.ref D,H3,I2.letGo I4 hC hH sb,rfl,q⟩⟩
theorem adM(hc:X.calm=true)(cs:List Str)(js:List Nat)(hN:X.N.Nodup)(hk:X.N[k]? = some y)(hy:X.env.scope.names.lookup y=some .local)(hi:PI X (.Name x px) iter wi)(hcap:tV X scope cs js)
  (ht:∀cl C fp s H,PTs (c7 X scope cl C (x::cs) fp s H) ifs tt) (he:∀cl C fp s H,PE (c7 X scope cl C (x::cs) fp s H) elt te)
  (hall:∀y∈scope.names,y.2= .free->y.1∈cs) (hcell:∀y∈scope.names,y.2≠ .cell) (hnames:∀y∈scope.names,y.2= .local->scope.names.lookup y.1=some .local) (hnd:(x::cs).Nodup)
  (hsw:swapsWith (.ListComp elt [⟨.Name x px,iter,ifs,0⟩] scope pos) (some (.Name y py)) spos.line X.env=pure true:=by rfl)
  (hkind:scope.kind= .function:=by rfl) (hx:scope.names.lookup x=some .local:=by rfl) (hs:∀v,foldedSetIterable iter X.env v=pure v:=by intro _;rfl):
  PS X (.Assign [.Name y py] (.ListComp elt [⟨.Name x px,iter,ifs,0⟩] scope pos) spos) (ac7 (aag js wi tt te) (Tt k)):=by
 intro pins s σ H D I h
 obtain⟨cl,abT,Dh,Mt⟩:=Dk (env:=X.env) (scope:=scope) λn hn=>by
  obtain⟨j,hj⟩:=List.getElem?_of_mem (hall _ hn rfl)
  obtain⟨_,_,_,_,k⟩:=hcap.get hj
  exact I.ok.has n k
 rw[exec_Assign_Name_used _ _ _ _ hsw]
 refine zC (wpAny_standAt (zC ?_))
 show wpAny _ X.A (do let _ <-comprehension (.ListComp elt [⟨.Name x px,iter,ifs,0⟩] scope pos) scope X.env _ (newList []) false (eval iter X.env) (some (assign (.Name y py) X.env))) _ _ s
 refine zC (fP (wpAny_comprehension_free (use:=some (assign (.Name y py) X.env)) (Q:=λ_ s'=>SP X pins D .next s') rfl hs abT hkind hnames (fP (hi pins s σ H _ I h) λv s1 h1=>fP h1 λitv s2 h2=> ?_)) (λ_ s' q=>zI (zI q)))
 obtain⟨it,fp,tn,J,H2,e,I2,T,st2,f2,W,w0,step⟩:=h2
 subst e
 refine Ld (Q:=λx H1=>Tt k x σ H1 D.nx) (RR:=λacc C=>compPost (model X.prog X.w) X.A X.xe (some (assign (.Name y py) X.env)) (λ_ s'=>SP X pins D .next s') acc C) hc hcap ht he hcell hkind hx hnd Dh Mt I2 T st2 f2 W w0 step λD' C H3 s4 m' I4 hn hC hH q=> ?_
 show wpAny _ X.A (assign (.Name y py) X.env (.ref D')) _ _ _
 refine wpAny_assign_Name (M9 (v:= .ref D') I4 hN hk (.inl hy) rfl (?_) (.inr hy))
 rintro s5 I5 ⟨a,sb,ha⟩
 have neC:C≠a:=by
  rcases ha with e | e
  ·rw[e];exact xS (yA I2.lt hC)
  ·intro z
   obtain⟨v,q⟩:=I2.cell y a e
   exact absurd (yA q.lt (by rw[<-z];exact hC)) (wS _)
 exact⟨m',hn.sameBut sb neC,λh' sb'=>⟨_,H3,I2.letGo I5 hC hH sb',q⟩⟩
end
def ab9:HO->Bool
 | .dT _=>false
 | .lU _ (.dT _)=>false
 | .lU _ (.ins _ _ _)=>false
 | .lU _ (.lU _ _)=>false
 | _=>true
def Flat(H:Hp):Prop:=∀a o,H a=some o->ab9 o=true
def X5(H:Hp):Prop:=∀a C dx fs,H a=some (.ins C dx fs)->H dx=some (.own a)
structure Fgt(H H' Um:Hp):Prop where
 sub:∀a o,Um a=some o->H' a=some o
 flat:Flat Um
 own:X5 H->X5 Um
 tup:∀b xs,H b=some (.tup xs)->Um b=some (.tup xs)
 lU:∀b o u,H b=some (.lU o u)->Um b=some (.lU o u)
 tbl:∀b ps,H b=some (.tbl ps)->∃more,Um b=some (.tbl (ps++more))
theorem Fgt.self(s:Lx H H')(f:Flat H):Fgt H H' H:=
 ⟨s,f,id,λ_ _ e=>e,λ_ _ _ e=>e,λ_ ps e=>⟨#[],by rw[e];simp⟩⟩
theorem Lx.upd(n:H p=none):Lx H (upd H p o):=λb u e=>by rw[aL (bJ e n)];exact e
theorem Flat.upd(f:Flat H)(h:ab9 o=true):Flat (upd H p o):=λa u e=>by
 by_cases z:a=p
 ·subst z;rw[bB]at e;cases e;exact h
 ·rw[aL z]at e;exact f a u e
theorem dD.less(x:dD P w H' h a o)(f:ab9 o=true)(hw:∀C dx fs,o= .ins C dx fs->H dx=some (.own a)):dD P w H h a o:=by
 cases o with
 | dT kvs=>exact absurd f xA
 | ins C dx fs=>exact⟨hw C dx fs rfl,x.2⟩
 | lU ob u=>
  cases u with
  | dT _=>exact absurd f xA
  | ins _ _ _=>exact absurd f xA
  | lU _ _=>exact absurd f xA
  | _=>exact x
 | _=>exact x
theorem tZ.less(x:tZ P w H' h)(s:∀a o,H a=some o->H' a=some o)(f:Flat H)(hw:X5 H):tZ P w H h:=λa o e=>
 (x a o (s a o e)).less (f a o e) λC dx fs z=>hw a C dx fs (by rw[<-z];exact e)
theorem tZ.own(x:tZ P w H h):X5 H:=λa _ _ _ e=>(x a _ e).1
def gcK(H:Hp)(Q:VK):VK:=λv H'=>Q v H'\/∃Um,Fgt H H' Um/\Q v Um
theorem gw.gc{P:Program}{w:World}{K:Frag}{mg:Str->Option Value}{base:Heap}{CX:VR}{k:Nat}{f:Addr}{fd:FuncData}{ps:List Str}{sp sp':Sp}(F:gw P w K mg base CX k f fd ps sp)
  (h:∀vs H Q E,sp' vs H Q E->sp vs H (gcK H Q) E):gw P w K mg base CX k f fd ps sp':=by
 refine⟨λvs H Q E q=>F.len vs H _ E (h _ _ _ _ q),λA outer s H args us vs Q E hr he hb hv hs=>codeAny_mono (F.run A outer s H args us vs (gcK H Q) E hr he hb hv (h _ _ _ _ hs)) λr s' hq=> ?_⟩
 cases r with
 | error e=>exact hq
 | ok fl=>
  cases fl with
  | ret u=>
   obtain⟨v,H',os,bare,un,hok,rv,q⟩:=hq
   rcases q with q | ⟨Um,g,q⟩
   ·exact⟨v,H',os,bare,un,hok,rv,q⟩
   refine⟨v,Um,os,bare,⟨un.keep,un.slot,λb o e n hx=> ?_,un.there,g.tup,g.lU,g.tbl⟩,hok.less g.sub g.flat (g.own he.hok.own),rv,q⟩
   cases z:Um b with
   | none=>rfl
   | some o'=>
    have z':=g.sub b o' z
    rw[un.free b o e n hx]at z'
    cases z'
  | next=>exact hq
  | brk=>exact hq
  | cont=>exact hq
structure yJ(K:Frag)(x qual:Str)(st:Stmt)(dV:Value)(f:Addr)(fd:FuncData):Prop where
 ex:∃(oc:Value) (od:Option Addr) (kV doc pm:Value) (an:Option Addr) (cdv ct:Value) (osl:Array (Option Value)),
  fd=fnOf x qual (eU st) (cY st) (aZ st) dV kV doc pm an cdv ct/\K.lookup f=some ⟨oc,od,.func fd,osl⟩/\codeIn K cdv qual=true
 kp:keepIn K (.ref f)=true
section
variable{P:Program}{w:World}{K:Frag}{mg:Str->Option Value}{base:Heap}
theorem yJ.ok{x qual:Str}{st:Stmt}{dV:Value}{f:Addr}{fd:FuncData}{N ps:List Str}{k:Nat}{sp:Sp}(F:yJ K x qual st dV f fd)(S:pL N ps (aZ st))(len:∀vs H Q E,sp vs H Q E->vs.length=ps.length)
  (hbody:∀(cdv:Value) (A:Around) (outer:List Env) (s:Shared) (H:Hp) (vs:List V) (Q:VK) (E:XK),gm k (A.deeper (envOfC qual (aZ st) s.heap.objs.size f cdv))->sp vs H Q E->
   ∃t,IV (vY VV P w K mg base N qual (aZ st) f cdv A outer s H E).nox (cY st) t/\t {nx:=λ_ H'=>gcK H Q .non H',rt:=gcK H Q} (start N vs) H):gw P w K mg base VV (k+1) f fd ps sp:=by
 obtain⟨oc,od,kV,doc,pm,an,cdv,ct,osl,rfl,lk,hcd⟩:=F.ex
 refine gw.gc (sp:=λvs H Q' E=>∃Q,sp vs H Q E/\Q'=gcK H Q) (ab8 lk hcd S (λvs H Q E ⟨Q0,q,_⟩=>len vs H Q0 E q) λA outer s H vs Q' E hr hsp=> ?_) λvs H Q E q=>⟨Q,q,rfl⟩
 obtain⟨Q,hsp,rfl⟩:=hsp
 obtain⟨t,h,q⟩:=hbody cdv A outer s H vs Q E hr hsp
 exact⟨t,h.nox,q⟩
theorem yJ.binds{x qual:Str}{st:Stmt}{dV:Value}{f:Addr}{fd:FuncData}{ps:List Str}(F:yJ K x qual st dV f fd)
  (h:∀(kV doc pm:Value) (an:Option Addr) (cdv ct:Value) (us:List Value),us.length=ps.length->bindArgs (fnOf x qual (eU st) (cY st) (aZ st) dV kV doc pm an cdv ct) ⟨us,[]⟩=pure (ps.zip us)):Binds K fd ps []:=by
 obtain⟨oc,od,kV,doc,pm,an,cdv,ct,osl,rfl,lk,hcd⟩:=F.ex
 exact .all (h kV doc pm an cdv ct)
theorem xU{x qual:Str}{st:Stmt}{dV:Value}{f:Addr}{oc:Value}{od an:Option Addr}{osl:Array (Option Value)}{kV doc pm cdv ct:Value}(l:K.lookup f=some ⟨oc,od,.func (fnOf x qual (eU st) (cY st) (aZ st) dV kV doc pm an cdv ct),osl⟩)
  (c:codeIn K cdv qual=true) (k:keepIn K (.ref f)=true):yJ K x qual st dV f (fnOf x qual (eU st) (cY st) (aZ st) dV kV doc pm an cdv ct):=⟨⟨oc,od,kV,doc,pm,an,cdv,ct,osl,rfl,l,c⟩,k⟩
end
theorem fM:bootBuiltins "len" = some (.builtin "len"):=by decide +kernel
theorem ahS:bootBuiltins "min" = some (.builtin "min"):=by decide +kernel
theorem Lh:bootBuiltins "max" = some (.builtin "max"):=by decide +kernel
theorem acv:bootBuiltins "all" = some (.builtin "all"):=by decide +kernel
theorem XC:bootBuiltins "list" = some (.type "list"):=by decide +kernel
def ajw:V->List V->Hp->VK->Prop:=λx vs H Q=>∃i,x= .int i/\vs=[]/\Q (.int (Builtin.Int.intBits i:Nat)) H
section
variable{X:Cx}
theorem ad8:MtR X "int.bit_length" ajw:=by
 intro pins s σ H x vs v us Q I rx r h
 obtain⟨i,rfl,rfl,q⟩:=h
 obtain⟨t,rfl⟩:=rx
 cases r
 exact call_int_bit_length ⟨.int _,H,I.tok _,⟨_,rfl⟩,q⟩
end
theorem Only.flat(o:Only H):Flat H:=λa u e=>by
 rcases o a with z | ⟨ob,xs,z⟩
 ·rw[z]at e;cases e
 ·rw[z]at e;cases e;rfl
def cell(ns:List Int)(k:Nat):Int:=ns.getD k 0
def ak1(g:TG)(tb:TS)(D:Ends)(σ:St)(J:It)(H1:Hp):Prop:=
 ∃W:Nat->Nat->St->Hp->Prop,(∃m,W 0 m σ H1)/\∀i m σ H,W i m σ H->
  (J.stop i H/\D.nx σ H)\/(J.go i H/\∃N:St->Hp->Prop,(∀σ' H',N σ' H'->∃m',m'<m/\W (i+1) m' σ' H')/\∀x H',J.X6 i H x H'->g x σ H' λσ2 H2=>tb {D with nx:=N,ct:=N,bk:=D.nx} σ2 H2)
def aiW(wi:TI)(g:TG)(tb:TS):TS:=λD σ H=>wi σ H λJ H1=>ak1 g tb D σ J H1
theorem adJ(hp:PassesOwn (model X.prog X.w) X.A X.env X.xe)(hc:X.calm=true)(hi:PI X tg iter wi)(hg:PG X tg g)(hb:IV X body tb)
  (hs:∀x,foldedSetIterable iter X.env x=pure x:=by intro _;rfl):PS X (.For tg iter body [] pos) (aiW wi g tb):=ags hp hc hi hg hb hs
theorem P0{α:Type}{us:List α}(h:us.length=1):∃a,us=[a]:=match us,h with | [a],_=>⟨a,rfl⟩
theorem xG{α:Type}{us:List α}(h:us.length=2):∃a b,us=[a,b]:=match us,h with | [a,b],_=>⟨a,b,rfl⟩
theorem Fo{α:Type}{us:List α}(h:us.length=3):∃a b c,us=[a,b,c]:=match us,h with | [a,b,c],_=>⟨a,b,c,rfl⟩
theorem W8{α:Type}{us:List α}(h:us.length=4):∃a b c d,us=[a,b,c,d]:=match us,h with | [a,b,c,d],_=>⟨a,b,c,d,rfl⟩
inductive Dt where
 | non | bl (b:Bool) | int (i:Int) | str (x:Str) | tup (ds:List Dt) | lst (ds:List Dt)
mutual
inductive Is (K:Frag) (H:Hp):V->Dt->Prop
 | non:Is K H .non .non
 | bl (b:Bool):Is K H (.bl b) (.bl b)
 | int (i:Int):Is K H (.int i) (.int i)
 | str (x:Str):Is K H (.str x) (.str x)
 | tup {a:Addr} {xs:List V} {ds:List Dt}:kO K H a xs->IW K H xs ds->Is K H (.ref a) (.tup ds)
 | lst {a:Addr} {xs:List V} {ds:List Dt}:pB K H a xs->IW K H xs ds->Is K H (.ref a) (.lst ds)
inductive IW (K:Frag) (H:Hp):List V->List Dt->Prop
 | nil:IW K H [] []
 | cons {x:V} {d:Dt} {xs:List V} {ds:List Dt}:Is K H x d->IW K H xs ds->IW K H (x::xs) (d::ds)
end
mutual
def jb:Dt->Dt->Bool
 | .non,.non=>true
 | .bl a,.bl b=>a==b
 | .bl a,.int b=>(if a then 1 else 0)==b
 | .int a,.bl b=>a==(if b then 1 else 0)
 | .int a,.int b=>a==b
 | .str a,.str b=>a==b
 | .tup ds,.tup es=>xX ds es
 | .lst ds,.lst es=>xX ds es
 | _,_=>false
def xX:List Dt->List Dt->Bool
 | [],[]=>true
 | d::ds,e::es=>jb d e&&xX ds es
 | _,_=>false
end
mutual
def dep:Dt->Nat
 | .tup ds=>deps ds+1
 | .lst ds=>deps ds+1
 | _=>0
def deps:List Dt->Nat
 | []=>0
 | d::ds=>max (dep d) (deps ds)
end
mutual
theorem sY:∀d:Dt,jb d d=true
 | .non=>by unfold jb;rfl
 | .bl a=>by unfold jb;simp
 | .int a=>by unfold jb;simp
 | .str a=>by unfold jb;simp
 | .tup ds=>by unfold jb;exact GJ ds
 | .lst ds=>by unfold jb;exact GJ ds
theorem GJ:∀ds:List Dt,xX ds ds=true
 | []=>by unfold xX;rfl
 | d::ds=>by unfold xX;rw[sY d,GJ ds];rfl
end
theorem Ar:∀{ds es:List Dt},ds.length≠es.length->xX ds es=false
 | [],[],h=>absurd rfl h
 | [],_::_,_=>by unfold xX;rfl
 | _::_,[],_=>by unfold xX;rfl
 | d::ds,e::es,h=>by
  unfold xX
  rw[Ar (ds:=ds) (es:=es) λz=>h (by rw[List.length_cons,List.length_cons,z]),Bool.and_false]
theorem K7:∀{ds es:List Dt},ds.length=es.length->(List.range ds.length).all (λj=>jb (ds.getD j .non) (es.getD j .non))=xX ds es
 | [],[],_=>by unfold xX;rfl
 | [],_::_,h=>by cases h
 | _::_,[],h=>by cases h
 | d::ds,e::es,h=>by
  have ih:=K7 (ds:=ds) (es:=es) (Nat.succ.inj h)
  rw[List.length_cons,List.range_succ_eq_map,List.all_cons,List.all_map,xX,<-ih]
  rfl
theorem IW.length{K:Frag}{H:Hp}:∀{xs:List V} {ds:List Dt},IW K H xs ds->xs.length=ds.length
 | _,_,.nil=>rfl
 | _,_,.cons _ r=>by rw[List.length_cons,List.length_cons,IW.length r]
theorem IW.get{K:Frag}{H:Hp}:∀{xs:List V} {ds:List Dt} {i:Nat} {x:V},IW K H xs ds->xs[i]? = some x->∃d,ds[i]? = some d/\Is K H x d
 | _,_,_,_,.nil,e=>by simp at e
 | _,_,0,_,.cons r _,e=>by simp at e;subst e;exact⟨_,rfl,r⟩
 | _,_,i+1,x,.cons _ t,e=>by
  obtain⟨d,h1,h2⟩:=IW.get (i:=i) (x:=x) t (by simpa using e)
  exact⟨d,by simpa using h1,h2⟩
theorem IW.at{K:Frag}{H:Hp}:∀{xs:List V} {ds:List Dt} {i:Nat} {d:Dt},IW K H xs ds->ds[i]? = some d->∃x,xs[i]? = some x/\Is K H x d
 | _,_,_,_,.nil,e=>by simp at e
 | _,_,0,_,.cons r _,e=>by simp at e;subst e;exact⟨_,rfl,r⟩
 | _,_,i+1,d,.cons _ t,e=>by
  obtain⟨x,h1,h2⟩:=IW.at (i:=i) (d:=d) t (by simpa using e)
  exact⟨x,by simpa using h1,h2⟩
mutual
theorem Is.keep{K:Frag}{H H':Hp}(s1:∀a xs,kO K H a xs->kO K H' a xs)(s2:∀a xs,pB K H a xs->pB K H' a xs):∀{v:V} {d:Dt},Is K H v d->Is K H' v d
 | _,_,.non=> .non
 | _,_,.bl b=> .bl b
 | _,_,.int i=> .int i
 | _,_,.str x=> .str x
 | _,_,.tup e r=> .tup (s1 _ _ e) (IW.keep s1 s2 r)
 | _,_,.lst e r=> .lst (s2 _ _ e) (IW.keep s1 s2 r)
theorem IW.keep{K:Frag}{H H':Hp}(s1:∀a xs,kO K H a xs->kO K H' a xs)(s2:∀a xs,pB K H a xs->pB K H' a xs):∀{vs:List V} {ds:List Dt},IW K H vs ds->IW K H' vs ds
 | _,_,.nil=> .nil
 | _,_,.cons r t=> .cons (Is.keep s1 s2 r) (IW.keep s1 s2 t)
end
theorem aex(ds es:List Dt):jb (.tup ds) (.tup es)=xX ds es:=by unfold jb;rfl
theorem Xv(ds es:List Dt):jb (.lst ds) (.lst es)=xX ds es:=by unfold jb;rfl
section
variable{X:Cx}{pins:List (Addr×Obj)}{σ:St}{H:Hp}{s:Shared}
theorem Inv.Sh(I:Inv X pins σ H s)(h:kO X.K H a xs)(h':pB X.K H a ys):False:=by
 obtain⟨its,_,pt,_⟩:=I.tuple h
 obtain⟨jts,_,pl,_⟩:=I.list h'
 obtain⟨o,e,c,_⟩:=pt
 obtain⟨o',n',e',c',_⟩:=pl
 rw[e]at e';cases e'
 rw[c]at c'
 injection c' with z
 exact absurd z (by decide)
mutual
theorem Inv.abM(I:Inv X pins σ H s):∀{v:V} {d e:Dt},Is X.K H v d->Is X.K H v e->d=e
 | _,_,_,.non,.non=>rfl
 | _,_,_,.bl _,.bl _=>rfl
 | _,_,_,.int _,.int _=>rfl
 | _,_,_,.str _,.str _=>rfl
 | _,_,_,.tup q r,.tup q' r'=>congrArg Dt.tup (Inv.Qi I r (I.Gj q q'▸r'))
 | _,_,_,.lst q r,.lst q' r'=>congrArg Dt.lst (Inv.Qi I r (I.Ku q q'▸r'))
 | _,_,_,.tup q _,.lst q' _=>(I.Sh q q').elim
 | _,_,_,.lst q _,.tup q' _=>(I.Sh q' q).elim
theorem Inv.Qi(I:Inv X pins σ H s):∀{vs:List V} {ds es:List Dt},IW X.K H vs ds->IW X.K H vs es->ds=es
 | _,_,_,.nil,.nil=>rfl
 | _,_,_,.cons r t,.cons r' t'=>by rw[Inv.abM I r r',Inv.Qi I t t']
end
theorem Vy:∀{ds:List Dt} {j:Nat} {d:Dt},ds[j]? = some d->dep d<=deps ds
 | [],_,_,e=>by simp at e
 | d'::ds,0,d,e=>by simp at e;subst e;unfold deps;exact Nat.le_max_left _ _
 | d'::ds,j+1,d,e=>by
  have:=Vy (ds:=ds) (j:=j) (d:=d) (by simpa using e)
  unfold deps
  exact yY this (Nat.le_max_right _ _)
theorem Tp(r1:Vals xs its)(r2:Vals ys jts)(q1:IW X.K H xs ds)(q2:IW X.K H ys es)
  (ih:∀(j:Nat) (x y:V) (d e:Dt) (u v:Value),ds[j]? = some d->es[j]? = some e->Is X.K H x d->Is X.K H y e->RelV x u->RelV y v->SeqAt.EqAt A s u v (jb d e)):
  ∀j (h1:j<its.toArray.size) (h2:j<jts.toArray.size),SeqAt.EqAt A s its.toArray[j] jts.toArray[j] (jb (ds.getD j .non) (es.getD j .non)):=λj h1 h2=>by
 have l1:=r1.length
 have l2:=r2.length
 have j1:j<xs.length:=by simp at h1;omega
 have j2:j<ys.length:=by simp at h2;omega
 obtain⟨w1,g1,p1⟩:=r1.get (i:=j) (x:=xs[j]) (by simp[j1])
 obtain⟨w2,g2,p2⟩:=r2.get (i:=j) (x:=ys[j]) (by simp[j2])
 obtain⟨d,e1,i1⟩:=q1.get (i:=j) (x:=xs[j]) (by simp[j1])
 obtain⟨e,e2,i2⟩:=q2.get (i:=j) (x:=ys[j]) (by simp[j2])
 have d1:ds.getD j .non=d:=by simp[List.getD,e1]
 have d2:es.getD j .non=e:=by simp[List.getD,e2]
 have c1:its.toArray[j]=w1:=by
  have:=List.getElem?_eq_some_iff.mp g1
  simpa using this.2
 have c2:jts.toArray[j]=w2:=by
  have:=List.getElem?_eq_some_iff.mp g2
  simpa using this.2
 rw[d1,d2,c1,c2]
 exact ih j _ _ d e _ _ e1 e2 i1 i2 p1 p2
theorem Yo(h:n=m)(p:Nat->Bool):((List.range (min n m)).all p&&n==m)=(List.range n).all p:=by
 subst h
 rw[Nat.min_self]
 simp
theorem akt(hf:∀x t,u≠ .float x t)(hs:u=v->b=true)(h:SeqAt.RcAt A s u v b):SeqAt.EqAt A s u v b:=λprog w E Q hq=>by
 unfold eqBool
 refine wpAny_holding (wpAny_ite_split (λz=> ?_) λ_=> ?_)
 ·rw[hs (eq_of_beq z)]at hq
  exact zC (wpAny_rule (zI hq))
 ·cases u<;>first | exact absurd rfl (hf _ _) | exact zC (h prog w E _ (wpAny_truthy_bool hq))
theorem afn(I:Inv X pins σ H s):∀(n:Nat) (A:Around) (x y:V) (d e:Dt) (u v:Value),dep d<=n->A.units+n<cLine->Is X.K H x d->Is X.K H y e->RelV x u->RelV y v->SeqAt.RcAt A s u v (jb d e)/\SeqAt.RcNeAt A s u v (!jb d e):=by
 intro n
 induction n using Nat.strongRecOn with
 | ind n ih=>
  intro A x y d e u v hd hu hx hy rx ry
  have hu0:A.units<cLine:=()
  have in1:A.in1.units=A.units+1:=rfl
  have ih':∀d',dep d'<n->∀(x y:V) (e:Dt) (u v:Value),Is X.K H x d'->Is X.K H y e->RelV x u->RelV y v->SeqAt.EqAt A.in1 s u v (jb d' e):=λd' hd x y e u v hx hy rx ry=>akt (λb t z=>by
   subst z
   cases hx<;>first | (obtain⟨_,z⟩:=rx;cases z) | cases rx) (λz=>by
   subst z
   cases rx.inj ry
   rw[I.abM hx hy,sY]) (ih _ hd A.in1 x y d' e u v (zab _) () hx hy rx ry).1
  cases hx with
  | non=>
   cases rx
   cases hy with
   | non=>cases ry;unfold jb;exact⟨.none_none,.none_none⟩
   | bl b=>cases ry;unfold jb;exact⟨.none_bool b,.none_bool b⟩
   | int b=>obtain⟨t,rfl⟩:=ry;unfold jb;exact⟨.none_int b t,.none_int b t⟩
   | str b=>obtain⟨t,rfl⟩:=ry;unfold jb;exact⟨.none_str b t,.none_str b t⟩
   | tup q r=>cases ry;obtain⟨_,_,p,_⟩:=I.tuple q;unfold jb;exact⟨.none_tuple p hu0,.none_tuple p hu0⟩
   | lst q r=>cases ry;obtain⟨_,_,p,_⟩:=I.list q;unfold jb;exact⟨.none_list p.isList hu0,.none_list p.isList hu0⟩
  | bl a=>
   cases rx
   cases hy with
   | non=>cases ry;unfold jb;exact⟨.bool_none a,.bool_none a⟩
   | bl b=>cases ry;unfold jb;exact⟨.bool_bool a b,.bool_bool a b⟩
   | int b=>obtain⟨t,rfl⟩:=ry;unfold jb;exact⟨.bool_int a b t,.bool_int a b t⟩
   | str b=>obtain⟨t,rfl⟩:=ry;unfold jb;exact⟨.bool_str a b t,.bool_str a b t⟩
   | tup q r=>cases ry;obtain⟨_,_,p,_⟩:=I.tuple q;unfold jb;exact⟨.bool_tuple a p hu0,.bool_tuple a p hu0⟩
   | lst q r=>cases ry;obtain⟨_,_,p,_⟩:=I.list q;unfold jb;exact⟨.bool_list a p.isList hu0,.bool_list a p.isList hu0⟩
  | int a=>
   obtain⟨t',rfl⟩:=rx
   cases hy with
   | non=>cases ry;unfold jb;exact⟨.int_none a t',.int_none a t'⟩
   | bl b=>cases ry;unfold jb;exact⟨.int_bool a t' b,.int_bool a t' b⟩
   | int b=>obtain⟨t,rfl⟩:=ry;unfold jb;exact⟨.int_int a t' b t,.int_int a t' b t⟩
   | str b=>obtain⟨t,rfl⟩:=ry;unfold jb;exact⟨.int_str a t' b t,.int_str a t' b t⟩
   | tup q r=>cases ry;obtain⟨_,_,p,_⟩:=I.tuple q;unfold jb;exact⟨.int_tuple a t' p hu0,.int_tuple a t' p hu0⟩
   | lst q r=>cases ry;obtain⟨_,_,p,_⟩:=I.list q;unfold jb;exact⟨.int_list a t' p.isList hu0,.int_list a t' p.isList hu0⟩
  | str a=>
   obtain⟨t',rfl⟩:=rx
   cases hy with
   | non=>cases ry;unfold jb;exact⟨.str_none a t',.str_none a t'⟩
   | bl b=>cases ry;unfold jb;exact⟨.str_bool a t' b,.str_bool a t' b⟩
   | int b=>obtain⟨t,rfl⟩:=ry;unfold jb;exact⟨.str_int a t' b t,.str_int a t' b t⟩
   | str b=>obtain⟨t,rfl⟩:=ry;unfold jb;exact⟨.str_str a t' b t,.str_str a t' b t⟩
   | tup q r=>cases ry;obtain⟨_,_,p,_⟩:=I.tuple q;unfold jb;exact⟨.str_tuple a t' p hu0,.str_tuple a t' p hu0⟩
   | lst q r=>cases ry;obtain⟨_,_,p,_⟩:=I.list q;unfold jb;exact⟨.str_list a t' p.isList hu0,.str_list a t' p.isList hu0⟩
  | @tup a xs ds q r=>
   cases(show u=Value.ref a from rx)
   obtain⟨its,r1,p1,_⟩:=I.tuple q
   cases hy with
   | non=>cases ry;unfold jb;exact⟨.tuple_none p1 hu0,.tuple_none p1 hu0⟩
   | bl b=>cases ry;unfold jb;exact⟨.tuple_bool b p1 hu0,.tuple_bool b p1 hu0⟩
   | int b=>obtain⟨t,rfl⟩:=ry;unfold jb;exact⟨.tuple_int b t p1 hu0,.tuple_int b t p1 hu0⟩
   | str b=>obtain⟨t,rfl⟩:=ry;unfold jb;exact⟨.tuple_str b t p1 hu0,.tuple_str b t p1 hu0⟩
   | lst q' r'=>cases ry;obtain⟨_,_,p,_⟩:=I.list q';unfold jb;exact⟨.tuple_list p1 p.isList hu0,.tuple_list p1 p.isList hu0⟩
   | @tup b ys es q' r'=>
    cases(show v=Value.ref b from ry)
    obtain⟨jts,r2,p2,_⟩:=I.tuple q'
    have l1:=r1.length
    have l2:=r2.length
    have l3:=r.length
    have l4:=r'.length
    have dl:deps ds<n:=by unfold dep at hd;omega
    have it:=Tp (A:=A.in1) (s:=s) r1 r2 r r' λj x y d e u v h1 h2 ix iy rx ry=>ih' d (Nat.lt_of_le_of_lt (Vy h1) dl) x y e u v ix iy rx ry
    have ez:((List.range (min its.toArray.size jts.toArray.size)).all (λj=>jb (ds.getD j .non) (es.getD j .non))&&its.toArray.size==jts.toArray.size)=jb (.tup ds) (.tup es):=by
     rw[aex]
     by_cases hl:ds.length=es.length
     ·rw[Yo (by simp;omega),<-K7 hl]
      congr 2
      simp;omega
     ·rw[Ar hl]
      have:(its.toArray.size==jts.toArray.size)=false:=by simp;omega
      rw[this,Bool.and_false]
    rw[<-ez]
    exact⟨.tuples (e:=λj=>jb (ds.getD j .non) (es.getD j .non)) p1 p2 hu0 it,.tuples (e:=λj=>jb (ds.getD j .non) (es.getD j .non)) p1 p2 hu0 it⟩
  | @lst a xs ds q r=>
   cases(show u=Value.ref a from rx)
   obtain⟨its,r1,p1,_⟩:=I.list q
   cases hy with
   | non=>cases ry;unfold jb;exact⟨.list_none p1.isList hu0,.list_none p1.isList hu0⟩
   | bl b=>cases ry;unfold jb;exact⟨.list_bool b p1.isList hu0,.list_bool b p1.isList hu0⟩
   | int b=>obtain⟨t,rfl⟩:=ry;unfold jb;exact⟨.list_int b t p1.isList hu0,.list_int b t p1.isList hu0⟩
   | str b=>obtain⟨t,rfl⟩:=ry;unfold jb;exact⟨.list_str b t p1.isList hu0,.list_str b t p1.isList hu0⟩
   | tup q' r'=>cases ry;obtain⟨_,_,p,_⟩:=I.tuple q';unfold jb;exact⟨.list_tuple p1.isList p hu0,.list_tuple p1.isList p hu0⟩
   | @lst b ys es q' r'=>
    cases(show v=Value.ref b from ry)
    obtain⟨jts,r2,p2,_⟩:=I.list q'
    have l1:=r1.length
    have l2:=r2.length
    have l3:=r.length
    have l4:=r'.length
    have dl:deps ds<n:=by unfold dep at hd;omega
    have it:=Tp (A:=A.in1) (s:=s) r1 r2 r r' λj x y d e u v h1 h2 ix iy rx ry=>ih' d (Nat.lt_of_le_of_lt (Vy h1) dl) x y e u v ix iy rx ry
    by_cases hl:ds.length=es.length
    ·have ez:(List.range its.toArray.size).all (λj=>jb (ds.getD j .non) (es.getD j .non))=jb (.lst ds) (.lst es):=by
      rw[Xv,<-K7 hl]
      congr 2
      simp;omega
     have sz:its.toArray.size=jts.toArray.size:=by simp;omega
     rw[<-ez]
     exact⟨.lists (e:=λj=>jb (ds.getD j .non) (es.getD j .non)) p1.isList p2.isList sz hu0 it,.lists (e:=λj=>jb (ds.getD j .non) (es.getD j .non)) p1.isList p2.isList sz hu0 it⟩
    ·have sz:(its.toArray.size != jts.toArray.size)=true:=by simp;omega
     rw[Xv,Ar hl]
     exact⟨.lists_lengths p1.isList p2.isList sz hu0,.lists_lengths p1.isList p2.isList sz hu0⟩
end
def amQ(K:Frag):R2:=λx y H Q=>∃d e,Is K H x d/\Is K H y e/\dep d<=20/\Q (.bl (jb d e)) H
def amN(K:Frag):R2:=λx y H Q=>∃d e,Is K H x d/\Is K H y e/\dep d<=20/\Q (.bl (!jb d e)) H
theorem agV(hu:X.A.units+64<cLine):uy X (compareOp .Eq) (amQ X.K):=by
 intro pins s σ H x y v u Q I rx ry h
 obtain⟨d,e,hx,hy,hd,q⟩:=h
 exact(afn I 20 X.A _ _ _ _ _ _ hd () hx hy rx ry).1 _ _ _ _ ⟨.bl _,H,I,rfl,q⟩
theorem agP(hu:X.A.units+64<cLine):uy X (compareOp .NotEq) (amN X.K):=by
 intro pins s σ H x y v u Q I rx ry h
 obtain⟨d,e,hx,hy,hd,q⟩:=h
 exact(afn I 20 X.A _ _ _ _ _ _ hd () hx hy rx ry).2 _ _ _ _ ⟨.bl _,H,I,rfl,q⟩
end L2
namespace HM
open PySem
theorem QT(x:Int):Builtin.bitNot (Builtin.bitNot x)=x:=by
 unfold Builtin.bitNot;omega
theorem T9(n:Nat):¬(0<=Builtin.bitNot (n:Int)):=by
 unfold Builtin.bitNot;omega
theorem F_(a b:Nat):Builtin.bitAnd (a:Int) (b:Int)=((a &&& b:Nat):Int):=by
 unfold Builtin.bitAnd
 simp
theorem QS(a b:Nat):Builtin.bitOr (a:Int) (b:Int)=((a ||| b:Nat):Int):=by
 unfold Builtin.bitOr Builtin.bitAnd
 rw[zaf (T9 a),zaf (T9 b)]
 dsimp only
 rw[QT,QT,QT]
 simp
theorem Zn(x:Int)(p:Nat):∃n:Nat,Builtin.bitAnd x (p:Int)=(n:Int)/\n<=p:=by
 by_cases h:0<=x
 ·obtain⟨m,rfl⟩:=Int.eq_ofNat_of_zero_le h
  exact⟨m &&& p,F_ m p,Nat.and_le_right⟩
 ·unfold Builtin.bitAnd
  rw[zaf h,zag (Int.natCast_nonneg p)]
  dsimp only
  refine⟨p - (p &&& (Builtin.bitNot x).toNat),?_,Nat.sub_le _ _⟩
  have:p &&& (Builtin.bitNot x).toNat<=p:=Nat.and_le_left
  simp
  omega
def cD(n:Nat):List Nat:=(List.range 60).filter λh=>n.testBit h
def cnt(n:Nat):Nat:=(cD n).length
def setOf(hs:List Nat):Nat:=hs.foldl (λS h=>S ||| 2 ^ h) 0
theorem WQ(h:Nat):(1:Int)*2 ^ h=((2 ^ h:Nat):Int):=by simp
theorem Lq(n h:Nat):(n &&& 2 ^ h≠0)↔n.testBit h=true:=by
 constructor
 ·intro hn
  cases e:n.testBit h with
  | true=>rfl
  | false=>
   refine absurd (Nat.eq_of_testBit_eq λi=> ?_) hn
   rw[Nat.testBit_and,Nat.testBit_two_pow,Nat.zero_testBit]
   by_cases hi:h=i
   ·subst hi;simp[e]
   ·simp[hi]
 ·intro e hz
  have t:(n &&& 2 ^ h).testBit h=true:=by rw[Nat.testBit_and,e,Nat.testBit_two_pow];simp
  rw[hz,Nat.zero_testBit]at t
  cases t
theorem UG(hn:n<2 ^ 60)(e:n.testBit h=true):h<60:=by
 by_cases hh:h<60
 ·exact hh
 ·have:n<2 ^ h:=yA hn (Nat.pow_le_pow_right (by decide) ())
  rw[Nat.testBit_lt_two_pow this]at e
  cases e
theorem yq(hab:a<=b)(h:∀i,a<=i->i<b->p i=false):(List.range b).filter p=(List.range a).filter p:=by
 obtain⟨k,rfl⟩:=Nat.exists_eq_add_of_le hab
 rw[List.range_add,List.filter_append]
 have:(List.map (λx=>a+x) (List.range k)).filter p=[]:=by
  rw[List.filter_eq_nil_iff]
  intro x hx
  obtain⟨j,hj,rfl⟩:=List.mem_map.mp hx
  rw[h (a+j) () (by have:=List.mem_range.mp hj;omega)]
  decide
 rw[this,List.append_nil]
theorem Qq(n:Nat)(hn:n<2 ^ 60):(List.range (Builtin.Int.intBits (n:Int))).filter (λh=>n.testBit h)=cD n:=by
 unfold cD
 have anp:∀h,n.testBit h=true->h<Builtin.Int.intBits (n:Int):=by
  intro h e
  have h0:n≠0:=by rintro rfl;rw[Nat.zero_testBit]at e;cases e
  unfold Builtin.Int.intBits
  have:¬((n:Int)==0)=true:=by simp[h0]
  rw[if_neg this]
  by_cases hh:h<n.log2+1
  ·simpa using hh
  ·have:n<2 ^ h:=yA (Nat.lt_log2_self) (Nat.pow_le_pow_right (by decide) ())
   rw[Nat.testBit_lt_two_pow this]at e
   cases e
 rcases Nat.le_total (Builtin.Int.intBits (n:Int)) 60 with h | h
 ·refine(yq h λi hi _=> ?_).symm
  cases e:n.testBit i with
  | false=>rfl
  | true=>have:=anp i e;omega
 ·refine yq h λi hi _=> ?_
  cases e:n.testBit i with
  | false=>rfl
  | true=>have:=UG hn e;omega
theorem intBits_le(n:Nat)(hn:n<2 ^ 60):Builtin.Int.intBits (n:Int)<=60:=by
 unfold Builtin.Int.intBits
 split
 ·decide
 ·rename_i h
  have h0:n≠0:=by rintro rfl;simp at h
  have:(n:Int).natAbs.log2<60:=by
   have e:(n:Int).natAbs=n:=by simp
   rw[e]
   exact(Nat.log2_lt h0).mpr hn
  omega
theorem B_(hs:List Nat)(i:Nat):(setOf hs).testBit i=decide (i∈hs):=by
 unfold setOf
 have go:∀(hs:List Nat) (S:Nat),(hs.foldl (λS h=>S ||| 2 ^ h) S).testBit i=(S.testBit i||decide (i∈hs)):=by
  intro hs
  induction hs with
  | nil=>intro S;simp
  | cons h r ih=>
   intro S
   rw[List.foldl_cons,ih,Nat.testBit_or,Nat.testBit_two_pow]
   by_cases e:h=i
   ·subst e;simp
   ·have e':¬i=h:=λz=>e z.symm
    simp[e,e']
 rw[go];simp
theorem aat(hs:List Nat)(h:∀x∈hs,x<60):setOf hs<2 ^ 60:=by
 refine Nat.lt_pow_two_of_testBit _ λi hi=> ?_
 rw[B_]
 exact zaf λz=>by have:=h i z;omega
theorem zW:h∈cD n↔h<60/\n.testBit h=true:=by
 unfold cD;rw[List.mem_filter,List.mem_range]
end HM
set_option Elab.async false
set_option linter.all false
set_option maxRecDepth 100000
namespace L2
open PySem PySem.Spec PyProof.Rows
section
variable{κ:Type}[DecidableEq κ]
noncomputable def Bw(kvs:List (κ×V))(k:κ):Option V:=(kvs.find? λkv=>decide (kv.1=k)).map (·.2)
noncomputable def putK(kvs:List (κ×V))(k:κ)(v:V):List (κ×V):=
 if(kvs.any λkv=>decide (kv.1=k))=true then kvs.map (λkv=>if kv.1=k then(kv.1,v)else kv)else kvs++[(k,v)]
theorem DR{p:κ×V}{r:List (κ×V)}{k:κ}(e:p.1=k):Bw (p::r) k=some p.2:=by simp[Bw,List.find?_cons,e]
theorem DW{p:κ×V}{r:List (κ×V)}{k:κ}(e:¬p.1=k):Bw (p::r) k=Bw r k:=by simp[Bw,List.find?_cons,e]
theorem Rh(k:κ):∀kvs:List (κ×V),(kvs.any λkv=>decide (kv.1=k))=(Bw kvs k).isSome
 | []=>rfl
 | p::r=>by
  rw[List.any_cons]
  by_cases e:p.1=k
  ·simp only[DR e,zag e,Bool.true_or,Option.isSome_some]
  ·rw[DW e,zaf e,Bool.false_or];exact Rh k r
theorem Ho(kvs:List (κ×V))(k:κ)(v:V):(putK kvs k v).length<=kvs.length+1:=by
 unfold putK
 split
 ·rw[zao];omega
 ·rw[List.length_append,List.length_cons,List.length_nil];omega
theorem yI.vV(r:yI o u):o.isSome=u.isSome:=by
 cases o with
 | none=>cases u with
  | none=>rfl
  | some _=>exact(show False from r).elim
 | some _=>cases u with
  | none=>exact(show False from r).elim
  | some _=>rfl
theorem yI.getD(r:yI o u)(rd:RelV d d'):RelV (o.getD d) (u.getD d'):=by
 cases o with
 | none=>cases u with
  | none=>exact rd
  | some _=>exact(show False from r).elim
 | some _=>cases u with
  | none=>exact(show False from r).elim
  | some _=>exact r
theorem KV.val(r:KV kvs vs)(k:κ):yI (Bw kvs k) (valueAt vs k):=by
 unfold KV at r
 induction r with
 | nil=>exact zaa
 | @cons p q ps qs h t ih=>
  obtain⟨h1,h2⟩:=h
  by_cases e:p.1=k
  ·have e':q.1=k:=h1.symm.trans e
   have b:valueAt (q::qs) k=some q.2:=by simp[valueAt,List.find?_cons,e']
   rw[DR e,b];exact h2
  ·have e':¬q.1=k:=λz=>e (h1.trans z)
   have b:valueAt (q::qs) k=valueAt qs k:=by simp[valueAt,List.find?_cons,e']
   rw[DW e,b];exact ih
theorem KV.any(r:KV kvs vs)(k:κ):(kvs.any λkv=>decide (kv.1=k))=vs.any λkv=>decide (kv.1=k):=by
 unfold KV at r
 induction r with
 | nil=>rfl
 | cons h t ih=>rw[List.any_cons,List.any_cons,ih,h.1]
theorem KV.repl(r:KV kvs vs)(k:κ)(ry:RelV y u):
  KV (kvs.map λkv=>if kv.1=k then(kv.1,y)else kv) (vs.map λkv=>if kv.1=k then(kv.1,u)else kv):=by
 unfold KV at r ⊢
 induction r with
 | nil=>exact .nil
 | @cons p q ps qs h t ih=>
  rw[List.map_cons,List.map_cons]
  refine .cons ?_ ih
  obtain⟨h1,h2⟩:=h
  by_cases e:p.1=k
  ·rw[if_pos e,if_pos (h1.symm.trans e)];exact⟨h1,ry⟩
  ·rw[if_neg e,if_neg (λz=>e (h1.trans z))];exact⟨h1,h2⟩
theorem KV.put(r:KV kvs vs)(k:κ)(ry:RelV y u):KV (putK kvs k y) (stored vs k u):=by
 unfold putK stored
 rw[r.any k]
 by_cases e:(vs.any λkv=>decide (kv.1=k))=true
 ·rw[if_pos e,if_pos e];exact r.repl k ry
 ·rw[if_neg e,if_neg e];exact Paired.snoc r ⟨rfl,ry⟩
theorem KV.length(r:KV kvs vs):kvs.length=vs.length:=Paired.length r
end
theorem KN(r:RelV (kV k) u):(dz P w).is k u=true:=by
 cases k with
 | inl i=>obtain⟨t,e⟩:=(show ∃t,u=Value.int i t from r);subst e;exact Sy P w i t
 | inr x=>obtain⟨t,e⟩:=(show ∃t,u=Value.str x t from r);subst e;exact Sx P w x t
theorem Ny:∀{ks:List Key} {us:List Value},Vals (ks.map kV) us->ItemsAre (dz P w) ks us
 | [],_,r=>by rw[List.map_nil]at r;cases r;exact .nil
 | k::ks,_,r=>by
  rw[List.map_cons]at r
  cases r with
  | cons h t=>exact .cons (KN h) (Ny t)
abbrev KT(H:Hp):List (List Key×V)->List (List Key×Addr×Value)->Prop:=Paired λp q=>p.1=q.1/\H q.2.1=some (.tup (p.1.map kV))/\RelV p.2 q.2.2
theorem KT.val(r:KT H kvs xs)(k:List Key):yI (Bw kvs k) ((atKey xs k).map (·.2)):=by
 induction r with
 | nil=>exact zaa
 | @cons p q ps qs h t ih=>
  obtain⟨h1,_,h2⟩:=h
  by_cases e:p.1=k
  ·have e':q.1=k:=h1.symm.trans e
   have b:atKey (q::qs) k=some q.2:=by simp[atKey,List.find?_cons,e']
   rw[DR e,b];exact h2
  ·have e':¬q.1=k:=λz=>e (h1.trans z)
   have b:atKey (q::qs) k=atKey qs k:=by simp[atKey,List.find?_cons,e']
   rw[DW e,b];exact ih
theorem KT.repl(r:KT H kvs xs)(k:List Key)(ry:RelV y u):
  KT H (kvs.map λkv=>if kv.1=k then(kv.1,y)else kv) (xs.map (putAt k u)):=by
 induction r with
 | nil=>exact .nil
 | @cons p q ps qs h t ih=>
  rw[List.map_cons,List.map_cons]
  refine .cons ?_ ih
  obtain⟨h1,h2,h3⟩:=h
  unfold putAt
  by_cases e:p.1=k
  ·rw[if_pos e,if_pos (h1.symm.trans e)];exact⟨h1,h2,ry⟩
  ·rw[if_neg e,if_neg (λz=>e (h1.trans z))];exact⟨h1,h2,h3⟩
theorem KT.put(r:KT H kvs xs)(k:List Key)(hb:H b=some (.tup (k.map kV)))(ry:RelV y u):
  KT H (putK kvs k y) (storedH xs k b u):=by
 have e:(kvs.any λkv=>decide (kv.1=k))=(atKey xs k).isSome:=by
  rw[Rh,(r.val k).vV,Option.isSome_map]
 unfold putK storedH
 rw[e]
 by_cases q:(atKey xs k).isSome=true
 ·rw[if_pos q,if_pos q];exact r.repl k ry
 ·rw[if_neg q,if_neg q];exact Paired.snoc r ⟨rfl,hb,ry⟩
theorem KT.keeps(r:KT H kvs xs)(ht:∀b ys,H b=some (.tup ys)->H' b=some (.tup ys)):KT H' kvs xs:=
 Paired.ag6 r λ_ _ z=>⟨z.1,ht _ _ z.2.1,z.2.2⟩
section
variable{P:Program}{w:World}{H:Hp}{h:Heap}{a:Addr}
theorem afm(ok:tZ P w H h)(e:Rd H a u):dD P w H h a u:=e.ok ok
theorem FQ(ok:tZ P w H h)(e:Rd H a (.dK kvs)):kvs.length<=sizeLine/\(a==sysModules)=false/\∃vs,KV kvs vs/\h.DictOf (dz P w) a vs:=
 show dD P w H h a (.dK kvs)from afm ok e
theorem acn(ok:tZ P w H h)(e:H a=some (.dK kvs)):kvs.length<=sizeLine/\(a==sysModules)=false/\∃vs,KV kvs vs/\h.DictOf (dz P w) a vs:=FQ ok (.inl e)
theorem Ac(ok:tZ P w H h)(e:H a=some (.tup (ks.map kV))):(tupleKind (dz P w)).is h ks a:=by
 obtain⟨_,its,r,o,h1,h2,n,h3⟩:=(show dD P w H h a (.tup (ks.map kV))from ok a _ e)
 exact⟨o,its.toArray,n,h1,h2,h3,by simpa using Ny r⟩
theorem HF(ok:tZ P w H h)(e:Rd H a (.dT kvs)):kvs.length<=sizeLine/\(a==sysModules)=false/\
  ∃xs,KT H kvs xs/\h.DictOfH (tupleKind (dz P w)) a xs:=by
 obtain⟨z,y,xs,r,o,es,ep,h1,h2,h3,h4,h5⟩:=(show dD P w H h a (.dT kvs)from afm ok e)
 refine⟨z,y,xs,r,o,es,ep,h1,h2,h3,h4,λx hx=> ?_,h5⟩
 have all:∀{l:List (List Key×V)} {m:List (List Key×Addr×Value)},KT H l m->∀x∈m,(tupleKind (dz P w)).is h x.1 x.2.1:=by
  intro l m q
  induction q with
  | nil=>intro x hx;exact nomatch hx
  | @cons p q ps qs hq t ih=>
   intro x hx
   rcases List.mem_cons.mp hx with e | hx
   ·subst e
    exact Ac ok (by rw[<-hq.1];exact hq.2.1)
   ·exact ih x hx
 exact all r x hx
theorem afB(ok:tZ P w H h)(e:H a=some (.dT kvs)):kvs.length<=sizeLine/\(a==sysModules)=false/\
  ∃xs,KT H kvs xs/\h.DictOfH (tupleKind (dz P w)) a xs:=HF ok (.inl e)
end
def Dz(H:Hp)(a:Addr)(y:V)(r:Option V):Prop:=
 (∃kvs k,Rd H a (.dK kvs)/\y=kV k/\r=Bw kvs k)\/∃kvs k b,Rd H a (.dT kvs)/\y= .ref b/\H b=some (.tup (k.map kV))/\r=Bw kvs k
def Q6(H:Hp)(a:Addr)(y v:V)(H':Hp):Prop:=
 (∃kvs k,H a=some (.dK kvs)/\y=kV k/\kvs.length<sizeLine/\H'=upd H a (.dK (putK kvs k v)))\/
 ∃kvs k b,H a=some (.dT kvs)/\y= .ref b/\H b=some (.tup (k.map kV))/\kvs.length<sizeLine/\H'=upd H a (.dT (putK kvs k v))
theorem Dz.k{H:Hp}{a:Addr}{kvs:List (Key×V)}{k:Key}(e:H a=some (.dK kvs)):Dz H a (kV k) (Bw kvs k):= .inl ⟨kvs,k,.inl e,rfl,rfl⟩
theorem Dz.t{kvs:List (List Key×V)}{k:List Key}(e:H a=some (.dT kvs))(eb:H b=some (.tup (k.map kV))):Dz H a (.ref b) (Bw kvs k):= .inr ⟨kvs,k,b,.inl e,rfl,eb,rfl⟩
theorem Q6.k{H:Hp}{a:Addr}{kvs:List (Key×V)}{k:Key}{v:V}(e:H a=some (.dK kvs))(hl:kvs.length<sizeLine):Q6 H a (kV k) v (upd H a (.dK (putK kvs k v))):= .inl ⟨kvs,k,e,rfl,hl,rfl⟩
theorem Q6.t{kvs:List (List Key×V)}{k:List Key}(e:H a=some (.dT kvs))(eb:H b=some (.tup (k.map kV)))(hl:kvs.length<sizeLine):
  Q6 H a (.ref b) v (upd H a (.dT (putK kvs k v))):= .inr ⟨kvs,k,b,e,rfl,eb,hl,rfl⟩
section
variable{X:Cx}{pins:List (Addr×Obj)}{σ:St}{H:Hp}{s:Shared}{a:Addr}{y v:V}{u r:Value}{o:Option V}{A:Around}{E:Value->Shared->Prop}
theorem Inv.big(I:Inv X pins σ H s):sysModules<s.heap.objs.size:=by
 have h:mainGlobals<s.heap.objs.size:=(I.mod.glob.keeps I.bk).lt
 exact Nat.lt_trans (by decide) h
theorem Zd{Q:Value->Shared->Prop}(hu:A.units+1<cLine)(I:Inv X pins σ H s)(g:Dz H a y (some v))(ry:RelV y u)(h:∀w' s',Inv X pins σ H s'->RelV v w'->Q w' s'):
  wpAny (model X.prog X.w) A (getItem (.ref a) u) Q E s:=by
 rcases g with⟨kvs,k,e,ey,l⟩ | ⟨kvs,k,b,e,ey,eb,l⟩
 ·subst ey
  obtain⟨z,hd,vs,rel,dd⟩:=FQ I.hok e
  obtain⟨w',hw,rw'⟩:=yI.some_of (v:=v) (o:=valueAt vs k) (by rw[l];exact rel.val k)
  exact wpAny_getItem_of (KN ry) dd.mapOf hw (h w' _ (I.tok _) rw')
 ·subst ey
  cases(show u=Value.ref b from ry)
  obtain⟨z,hd,xs,rel,dd⟩:=HF I.hok e
  obtain⟨w',hw,rw'⟩:=yI.some_of (v:=v) (o:=(atKey xs k).map (·.2)) (by rw[l];exact rel.val k)
  obtain⟨p,hp,hp2⟩:=Option.map_eq_some_iff.mp hw
  refine wpAny_getItem_heap (tupleKind_room_in1 hu) (Ac I.hok eb) dd hp ?_
  rw[hp2]
  exact h w' _ (I.tok _) rw'
theorem anR{Q:Value->Shared->Prop}(hu:A.units+1<cLine)(I:Inv X pins σ H s)(g:Dz H a y o)(ry:RelV y u)(h:∀s',Inv X pins σ H s'->Q (.bool o.isSome) s'):
  wpAny (model X.prog X.w) A (compareOp .In u (.ref a)) Q E s:=by
 rcases g with⟨kvs,k,e,ey,l⟩ | ⟨kvs,k,b,e,ey,eb,l⟩
 ·subst ey
  obtain⟨z,hd,vs,rel,dd⟩:=FQ I.hok e
  refine wpAny_in_of (KN ry) hd dd.mapOf ?_
  rw[<-(rel.val k).vV,<-l]
  exact h _ (I.tok _)
 ·subst ey
  cases(show u=Value.ref b from ry)
  obtain⟨z,hd,xs,rel,dd⟩:=HF I.hok e
  refine wpAny_in_heap (tupleKind_room_in1 hu) (Ac I.hok eb) hd dd ?_
  have q:=(rel.val k).vV
  rw[Option.isSome_map]at q
  rw[<-q,<-l]
  exact h _ (I.tok _)
theorem aey{Q:Value->Shared->Prop}(hu:A.units+1<cLine)(I:Inv X pins σ H s)(g:Dz H a y o)(ry:RelV y u)(h:∀s',Inv X pins σ H s'->Q (.bool (!o.isSome)) s'):
  wpAny (model X.prog X.w) A (compareOp .NotIn u (.ref a)) Q E s:=by
 rcases g with⟨kvs,k,e,ey,l⟩ | ⟨kvs,k,b,e,ey,eb,l⟩
 ·subst ey
  obtain⟨z,hd,vs,rel,dd⟩:=FQ I.hok e
  refine wpAny_notIn_of (KN ry) hd dd.mapOf ?_
  rw[<-(rel.val k).vV,<-l]
  exact h _ (I.tok _)
 ·subst ey
  cases(show u=Value.ref b from ry)
  obtain⟨z,hd,xs,rel,dd⟩:=HF I.hok e
  refine wpAny_notIn_heap (tupleKind_room_in1 hu) (Ac I.hok eb) hd dd ?_
  have q:=(rel.val k).vV
  rw[Option.isSome_map]at q
  rw[<-q,<-l]
  exact h _ (I.tok _)
theorem QC(I:Inv X pins σ H s)(mu:Mut (H a))(hs:Heap.SameBut a s.heap h')(he:∃q,h'.get? a=some q)(new:dD X.prog X.w (upd H a ob) h' a ob):
  Inv X pins σ (upd H a ob) {s with heap:=h',toks:=t'}:=
 I.write (x:=a) (e:=a) mu (.inl rfl) (λb q hb z=>(hs.2 b hb).trans z) he new
theorem ahJ(z:kvs.length<=sizeLine)(hd:(a==sysModules)=false)(rel:KV kvs vs)(dd:h'.DictOf (dz P w) a vs):
  dD P w H' h' a (.dK kvs):=⟨z,hd,vs,rel,dd⟩
theorem N7{Q:Unit->Shared->Prop}(hu:A.units+1<cLine)(I:Inv X pins σ H s)(g:Q6 H a y v H')(ry:RelV y u)(rv:RelV v r)(h:∀s',Inv X pins σ H' s'->Q .unit s'):
  wpAny (model X.prog X.w) A (setItem (.ref a) u r) Q E s:=by
 rcases g with⟨kvs,k,e,ey,l,eH⟩ | ⟨kvs,k,b,e,ey,eb,l,eH⟩
 ·subst ey eH
  obtain⟨z,hd,vs,rel,dd⟩:=acn I.hok e
  have hz:vs.length<=sizeLine:=by rw[<-rel.length];exact z
  have hl:(putK kvs k v).length<=sizeLine:=by have:=Ho kvs k v;omega
  refine wpAny_setItem_pairs (hsz:=hz) (KN ry) dd λh' dd' hs=>h _ ?_
  have he:∃q,h'.get? a=some q:=let⟨q,_,_,hq,_⟩:=dd';⟨q,hq⟩
  exact QC I (by rw[e];exact zaa) hs he (ahJ hl hd (rel.put k rv) dd')
 ·subst ey eH
  cases(show u=Value.ref b from ry)
  obtain⟨z,hd,xs,rel,dd⟩:=afB I.hok e
  have hz:xs.length<=sizeLine:=by rw[<-Paired.length rel];exact z
  have hl:(putK kvs k v).length<=sizeLine:=by have:=Ho kvs k v;omega
  refine wpAny_setItem_heap (hsz:=hz) (tupleKind_room_in1 hu) (Ac I.hok eb) dd λh' dd' hs=>h _ ?_
  obtain⟨q,es,ep,hq,h2,h3,h4,_,h5⟩:=dd'
  refine QC I (by rw[e];exact zaa) hs ⟨q,hq⟩ ⟨hl,hd,_,(rel.put k eb rv).keeps λc ys ec=> ?_,q,es,ep,hq,h2,h3,h4,h5⟩
  rw[aL (ajO ec e (λz=>nomatch z))]
  exact ec
end
section
variable{X:Cx}{pins:List (Addr×Obj)}{σ:St}{H:Hp}{s:Shared}{a:Addr}{kvs:List (Key×V)}{k:Key}{u:Value}{A:Around}{E:Value->Shared->Prop}
theorem akB{Q:Value->Shared->Prop}(I:Inv X pins σ H s)(e:Rd H a (.dK kvs))(h:∀t s',Inv X pins σ H s'->Q (.int kvs.length t) s'):wpAny (model X.prog X.w) A (call (.builtin "len") [.ref a]) Q E s:=by
 obtain⟨z,hd,vs,rel,dd⟩:=FQ I.hok e
 refine call_len_dict hd dd (by rw[<-rel.length];rw[sizeLine_eq]at z;omega) ?_
 rw[<-rel.length]
 exact h _ _ (I.tok _)
end
theorem TV(I:Inv X pins σ H s)(g:Dz H a y o):s.TypeIs (.ref a) "dict" := by
 rcases g with⟨kvs,k,e,_,_⟩ | ⟨kvs,k,b,e,_,_,_⟩
 ·obtain⟨_,_,vs,_,dd⟩:=FQ I.hok e
  exact dd.typeIs
 ·obtain⟨_,_,xs,_,dd⟩:=HF I.hok e
  exact dd.typeIs
theorem aco(h:Heap)(hb:sysModules<h.objs.size):dD P w H (h.push {cls:= .type "dict",data:= .dict #[]}) h.objs.size (.dK []):=
 ⟨Nat.zero_le _,beq_eq_false_iff_ne.mpr (Ne.symm (xD hb)),[],.nil,Heap.DictOf.new h⟩
def afZ:TE:=λ_ H Q=>∀p,H p=none->Q (.ref p) (upd H p (.dK []))
section
variable{X:Cx}{pos:Pos}
theorem aa_:PE X (.Dict [] [] pos) afZ:=λpins s σ H Q I h=>
 wpAny_Dict_empty ⟨.ref s.heap.objs.size,_,I.laid (a:=s.heap.objs.size) (o:= .dK []) (t':=s.toks) (λ_ _ q=>zD _ q) (zab _) (aco s.heap I.big),rfl,h _ (I.hok.fresh (zab _))⟩
end
structure M1(X:Cx)(o:Expr)(m:Str)(apos:Pos)(e:Expr)(cpos:Pos):Prop where
 base:attributeBase o m X.env (eval o X.env)=eval o X.env
 few:((backTo cpos (starEach [e] X.env)).all (λx=> !x.1)&&(backToKw cpos (keywordEach [] X.env)).all (λx=>x.1.isSome)
  && decide (([e]:List Expr).length+([]:List Keyword).length+(if([]:List Keyword).isEmpty then 0 else 1)<30))=true
 line:(apos.endLine==cpos.line)=true
 trees:backTo cpos (starEach [e] X.env)=[(false,eval e X.env)]
structure M2(X:Cx)(o:Expr)(m:Str)(apos:Pos)(e f:Expr)(cpos:Pos):Prop where
 base:attributeBase o m X.env (eval o X.env)=eval o X.env
 few:((backTo cpos (starEach [e,f] X.env)).all (λx=> !x.1)&&(backToKw cpos (keywordEach [] X.env)).all (λx=>x.1.isSome)
  && decide (([e,f]:List Expr).length+([]:List Keyword).length+(if([]:List Keyword).isEmpty then 0 else 1)<30))=true
 line:(apos.endLine==cpos.line)=true
 trees:backTo cpos (starEach [e,f] X.env)=[(false,eval e X.env),(false,eval f X.env)]
def IsD(H:Hp)(a:Addr):Prop:=(∃kvs,Rd H a (.dK kvs))\/∃kvs,Rd H a (.dT kvs)
theorem Vp(I:Inv X pins σ H s)(d:IsD H a):
  s.TypeIs (.ref a) "dict" /\ (∀b,Value.ref a= .ref b->∃ob,s.heap.get? b=some ob/\ob.dict=none)/\(a==sysModules)=false:=by
 rcases d with⟨kvs,e⟩ | ⟨kvs,e⟩
 ·obtain⟨_,hd,vs,_,dd⟩:=FQ I.hok e
  refine⟨dd.typeIs,λb q=> ?_,hd⟩
  cases q
  obtain⟨ob,_,_,h1,h2,_⟩:=dd
  exact⟨ob,h1,h2.2.1⟩
 ·obtain⟨_,hd,xs,_,dd⟩:=HF I.hok e
  refine⟨dd.typeIs,λb q=> ?_,hd⟩
  cases q
  obtain⟨ob,_,_,h1,h2,_⟩:=dd
  exact⟨ob,h1,h2.2.1⟩
section
variable{X:Cx}{pins:List (Addr×Obj)}{σ:St}{H:Hp}{s:Shared}{a:Addr}{y d:V}{u r:Value}{o:Option V}{A:Around}{E:Value->Shared->Prop}
theorem ahN{Q:Value->Shared->Prop}(hu:A.units+1<cLine)(I:Inv X pins σ H s)(g:Dz H a y o)(ry:RelV y u)(h:∀w' s',Inv X pins σ H s'->RelV (o.getD .non) w'->Q w' s'):
  wpAny (model X.prog X.w) A (call (.builtin "dict.get") [.ref a,u]) Q E s:=by
 rcases g with⟨kvs,k,e,ey,l⟩ | ⟨kvs,k,b,e,ey,eb,l⟩
 ·subst ey
  obtain⟨z,hd,vs,rel,dd⟩:=FQ I.hok e
  refine call_meetsIn PySem.F.slot_dict_get dd.typeIs PySem.F.entry_dict_get (PySem.F.args_dict_get_2 _ _) (meets_dict_get (dz X.prog X.w) a (KN ry) hd) ⟨_,dd.mapOf,h _ _ (I.tok _) ?_⟩
  rw[l]
  exact(rel.val k).getD rfl
 ·subst ey
  cases(show u=Value.ref b from ry)
  obtain⟨z,hd,xs,rel,dd⟩:=HF I.hok e
  refine call_meetsIn PySem.F.slot_dict_get dd.typeIs PySem.F.entry_dict_get (PySem.F.args_dict_get_2 _ _) (meetsH_dict_get (tupleKind (dz X.prog X.w)) a b hd) ⟨tupleKind_room_in1 hu,k,xs,Ac I.hok eb,dd,h _ _ (I.tok _) ?_⟩
  rw[l]
  exact(rel.val k).getD rfl
theorem ahM{Q:Value->Shared->Prop}(hu:A.units+1<cLine)(I:Inv X pins σ H s)(g:Dz H a y o)(ry:RelV y u)(rd:RelV d r)(h:∀w' s',Inv X pins σ H s'->RelV (o.getD d) w'->Q w' s'):
  wpAny (model X.prog X.w) A (call (.builtin "dict.get") [.ref a,u,r]) Q E s:=by
 rcases g with⟨kvs,k,e,ey,l⟩ | ⟨kvs,k,b,e,ey,eb,l⟩
 ·subst ey
  obtain⟨z,hd,vs,rel,dd⟩:=FQ I.hok e
  refine call_meetsIn PySem.F.slot_dict_get dd.typeIs PySem.F.entry_dict_get (PySem.F.args_dict_get_3 _ _ _) (meets_dict_get_default (dz X.prog X.w) a (KN ry) hd r) ⟨_,dd.mapOf,h _ _ (I.tok _) ?_⟩
  rw[l]
  exact(rel.val k).getD rd
 ·subst ey
  cases(show u=Value.ref b from ry)
  obtain⟨z,hd,xs,rel,dd⟩:=HF I.hok e
  refine call_meetsIn PySem.F.slot_dict_get dd.typeIs PySem.F.entry_dict_get (PySem.F.args_dict_get_3 _ _ _) (meetsH_dict_get_default (tupleKind (dz X.prog X.w)) a b hd r) ⟨tupleKind_room_in1 hu,k,xs,Ac I.hok eb,dd,h _ _ (I.tok _) ?_⟩
  rw[l]
  exact(rel.val k).getD rd
end
section
variable{X:Cx}
theorem Zi:qP X (.builtin "len") (λxs H Q=>∃a kvs,xs=[V.ref a]/\H a=some (.dK kvs)/\Q (.int kvs.length) H):=by
 intro pins s σ H xs us Q I r h
 obtain⟨a,kvs,rfl,ha,q⟩:=h
 obtain⟨u,rfl,ru⟩:=vals1 r
 cases ru
 exact akB I (.inl ha) λt s' I'=>⟨.int kvs.length,H,I',⟨t,rfl⟩,q⟩
end
section
variable{prog:Program}{w:World}{A:Around}{E:Value->Shared->Prop}{s:Shared}
theorem HQ{Q Q₁:Value->Shared->Prop}(ft:TypeCalled T newId initId)
  (hct:checkTypeCall T ⟨args,kw⟩=pure .unit) (hcn:checkBuiltinCall newId ⟨.type T::args,kw⟩=pure .unit)
  (entryN:entryFor table newId=some Bn) (entryI:entryFor table initId=some Bi)
  (h:wpAny (model prog w) A.in1.in1 (Bn ⟨.type T::args,kw⟩) (λfin s₁=>∃obj,fin= .done (.ret obj)/\Q₁ obj s₁) E s)
  (hnext:∀obj s₁,Q₁ obj s₁->s₁.TypeIs obj T/\argsOk initId ⟨obj::args,kw⟩/\wpAny (model prog w) A.in1.in1 (Bi ⟨obj::args,kw⟩) (λfin s₂=>fin= .done (.ret .none)/\Q obj s₂) E s₁):
  wpAny (model prog w) A (call (.type T) args kw) Q E s:=by
 obtain⟨c,tl,hmro⟩:=ft.mro
 have hmade:=ft.made
 have hsub:=ft.sub
 refine wpAny_call (codeAny_of_tree ?_)
 show wpAny _ _ (callAny (.type T) _) _ _ _
 refine zI ⟨Code.quiet_builtin _ (by decide +kernel),codeAny_builtin F.entry_type_call ?_⟩
 rw[Around.under_plain (weight_type_call_type T args kw) (units_type_call_type T args kw)]
 have h1:=ft.notType
 have h2:=ft.canCreate
 repeat (any_goals (first | assumption | wp_step))
 refine codeAny_mono (codeAny_call_builtin (R:=λr s₁=>match r with | .ok (.ret obj)=>Q₁ obj s₁ | .ok _=>False | .error e=>E e s₁) ft.plain entryN (wpAny_of_eq hcn (vE h (λfin s₁ ⟨obj,e,q⟩=>by subst e;exact q) λe s₁ q=>q))) λr s₁ hr=> ?_
 cases r with
 | error e=>exact hr
 | ok fl=>
  cases fl with
  | ret obj=>
   obtain⟨hT,hok,hsi⟩:=hnext _ _ hr
   have hli:=ft.init.lookup
   have hbi:=ft.init.bind obj
   repeat (any_goals (first | assumption | wp_step))
   refine codeAny_mono (codeAny_call_builtin (R:=λr s₂=>match r with | .ok (.ret v)=>v= .none/\Q obj s₂ | .ok _=>False | .error e=>E e s₂) ft.init.plain entryI (ft.init.check _ _ _ _ _ _ _ _ hT hok (vE hsi (λfin s₂ ⟨e,q⟩=>by subst e;exact⟨rfl,q⟩) λe s₂ q=>q))) λr₂ s₂ hr₂=> ?_
   cases r₂ with
   | error e=>exact hr₂
   | ok fl₂=>
    cases fl₂ with
    | ret r=>
     obtain⟨rfl,hq⟩:=hr₂
     repeat (any_goals (first | assumption | wp_step))
    | _=>exact hr₂.elim
  | _=>exact hr.elim
theorem zQ{Q:Fin->Shared->Prop}(hl:typeLookup (.type T) "__init__" = pure (some (.builtin "object.__init__")))
  (hm:Bind.madeBy (.type T)=pure (some newId)) (hne:(some newId != some "object.__new__")=true) (hT:s.TypeIs self T) (hq:Q (.done (.ret .none)) s):
  wpAny (model prog w) A (Builtin.«object.__init__» ⟨[self,a],kw⟩) Q E s:=by
 repeat (any_goals (first | assumption | wp_step))
theorem Jy(a b:Value):checkTypeCall "enumerate" ⟨[a],[("start",b)]⟩=pure .unit:=by kernel_rfl
theorem Mr(a b:Value):checkBuiltinCall "enumerate.__new__" ⟨[.type "enumerate",a],[("start",b)]⟩=pure .unit:=by kernel_rfl
theorem VJ(o a b:Value):argsOk "object.__init__" ⟨[o,a],[("start",b)]⟩:=by
 first | kernel_rfl | (unfold argsOk;kernel_rfl)
def given(i:Int)(t:Tok):Value:=if Builtin.SmallTypes.fitsIndex i=true then .none else .int i t
theorem TF{Q:Fin->Shared->Prop}
  (hx:wpAny (model prog w) A (pyIter x) (λitv s1=>Q (.done (.ret (.ref s1.heap.objs.size))) {s1 with heap:=s1.heap.push {cls:= .type "enumerate",data:= .fields #[.none,.bool false,itv,rawInt i,given i t,.none]}}) E s):
  wpAny (model prog w) A (Builtin.«enumerate.__new__» ⟨[.type "enumerate",x],[("start",.int i t)]⟩) Q E s:=by
 have hsub:=sub_enumerate
 wp_walk
 refine wpAny_stack_any λst=>zI ?_
 have key:∀b:Bool,wpAny (model prog w) A (do
   let itv <-pyIter x
   let r <-Builtin.SmallTypes.newRecord (Value.type "enumerate") (Builtin.SmallTypes.ownedTupleFields++[itv,rawInt i,given i t,Value.none])
   ret r) Q E s:=λb=>by
  refine zC (vE hx (λitv s1 h1=> ?_) λ_ _ z=>z)
  wp_walk
  first | exact h1 | exact⟨_,rfl,h1⟩
 split
 ·rename_i c _ _ _ _ _
  cases(c==Value.type "enumerate")
  ·wp_walk
   cases z:Builtin.SmallTypes.fitsIndex i with
   | true=>
    have e:given i t= .none:=by unfold given;rw[if_pos z]
    have k:=key true
    rw[e]at k
    exact k
   | false=>
    have e:given i t= .int i t:=by unfold given;rw[if_neg (by rw[z];decide)]
    have k:=key true
    rw[e]at k
    exact zC (wpAny_rule (zC (zI k)))
  ·wp_walk
   cases z:Builtin.SmallTypes.fitsIndex i with
   | true=>
    have e:given i t= .none:=by unfold given;rw[if_pos z]
    have k:=key true
    rw[e]at k
    exact k
   | false=>
    have e:given i t= .int i t:=by unfold given;rw[if_neg (by rw[z];decide)]
    have k:=key true
    rw[e]at k
    exact zC (wpAny_rule (zC (zI k)))
 ·wp_walk
  cases z:Builtin.SmallTypes.fitsIndex i with
  | true=>
   have e:given i t= .none:=by unfold given;rw[if_pos z]
   have k:=key true
   rw[e]at k
   exact k
  | false=>
   have e:given i t= .int i t:=by unfold given;rw[if_neg (by rw[z];decide)]
   have k:=key true
   rw[e]at k
   exact zC (wpAny_rule (zC (zI k)))
abbrev jX(h:Heap)(e it:Addr)(i:Int)(gv old:Value):Prop:=
 h.get? e=some {cls:= .type "enumerate",dict:=none,data:= .fields #[.none,.bool false,.ref it,rawInt i,gv,old],slots:= #[]}
def HS(gv:Value)(c:Int):Prop:=gv= .none\/∃t,gv= .int c t
theorem Tz{P:Nat->Value->Prop}{St:Nat->Heap->Prop}{Q:Value->Shared->Prop}
  (D:Draws prog w A it fp n P St) (he:jX s.heap e it c gv old) (hg:HS gv c) (hst:St i s.heap) (hlt:i<n) (hne:e≠it) (hef:e∉fp)
  (hQ:∀x h' tk tk',P i x->IsEnumOut h' e it (c+1) x s.heap.objs.size->St (i+1) h'->
   h'.get? s.heap.objs.size=some {cls:= .type "tuple",data:= .seq #[.int c tk,x]}->h'.objs.size=s.heap.objs.size+1->
   (∀b o,b≠e->b≠it->s.heap.get? b=some o->h'.get? b=some o)->Q (.ref s.heap.objs.size) {s with heap:=h',toks:=tk'}):
  wpAny (model prog w) A (Builtin.«enumerate.__next__» ⟨[.ref e],[]⟩) (λfin s'=>∃v,fin= .done (.ret v)/\Q v s') E s:=by
 obtain⟨hp,g,d,tk₀,os⟩:=s
 show wpAny _ _ (field (.ref e) 2 >>= _) _ _ _
 refine zC (vS he rfl (x:= .ref it) rfl ?_)
 refine zC (D.item i _ _ _ hlt hst λx h₁ tk hPx hit₁ hs₁=> ?_)
 replace hs₁:Heap.SameBut it hp h₁:=hs₁
 have he₁:jX h₁ e it c gv old:=(hs₁.2 e hne).trans he
 show wpAny _ _ (field (.ref e) 3 >>= _) _ _ ⟨h₁,g,d,tk,os⟩
 refine zC (vS he₁ rfl (x:=rawInt c) rfl ?_)
 show wpAny _ _ (field (.ref e) 4 >>= _) _ _ ⟨h₁,g,d,tk,os⟩
 refine zC (vS he₁ rfl (x:=gv) rfl ?_)
 have rest:∀(ti:Tok) (tk1:Nat),wpAny (model prog w) A (do
   setField (.ref e) 3 (rawInt (c+1));setField (.ref e) 4 .none
   let result <-newTuple [.int c ti,x]
   if <-Builtin.SmallTypes.ownedTupleIsFree (.ref e)then
    rule "enumerate.__next__.owned-tuple-again"
    let old <-field (.ref e) 5
    setField (.ref e) 5 x
    Builtin.SmallTypes.ownedTupleHandOut (.ref e) result
    letGo [old] [result]
   ret result) (λfin s'=>∃v,fin= .done (.ret v)/\Q v s') E ⟨h₁,g,d,tk1,os⟩:=λti tk1=>by
  refine zC (wpAny_setField_rec he₁ (by simp) λh₂ he₂ hs₂=> ?_)
  replace hs₂:Heap.SameBut e h₁ h₂:=hs₂
  replace he₂:jX h₂ e it (c+1) gv old:=he₂
  refine zC (wpAny_setField_rec he₂ (by simp) λh₃ he₃ hs₃=> ?_)
  replace hs₃:Heap.SameBut e h₂ h₃:=hs₃
  replace he₃:IsEnum h₃ e it (c+1) old:=he₃
  refine zC (wpAny_newTuple ?_)
  have he₄:IsEnum (h₃.push {cls:= .type "tuple",data:= .seq #[.int c ti,x]}) e it (c+1) old:=zD _ he₃
  generalize hh₄:h₃.push {cls:= .type "tuple",data:= .seq #[.int c ti,x]}=h₄ at he₄
  have hsz:h₃.objs.size=hp.objs.size:=by rw[hs₃.1,hs₂.1,hs₁.1]
  have hel:e<hp.objs.size:=zS he
  have ht₄:h₄.get? hp.objs.size=some {cls:= .type "tuple",data:= .seq #[.int c ti,x]}:=by rw[<-hh₄,<-hsz];exact yB _ rfl
  have hz₄:h₄.objs.size=hp.objs.size+1:=by rw[<-hh₄,Heap.size_push,hsz]
  have hk₄:∀b o,b≠e->b≠it->hp.get? b=some o->h₄.get? b=some o:=λb o hbe hbi hb=>by
   rw[<-hh₄];exact zD _ (hs₃.extBut b o hbe (hs₂.extBut b o hbe (hs₁.extBut b o hbi hb)))
  have hit₄:St (i+1) h₄:=D.frame _ _ _ hit₁ λb hb o y=>by
   have hbe:b≠e:=λq=>hef (q▸hb)
   rw[<-hh₄];exact zD _ (hs₃.extBut b o hbe (hs₂.extBut b o hbe y))
  show wpAny _ _ (Builtin.SmallTypes.ownedTupleIsFree (.ref e) >>= _) _ _ ⟨h₄,g,d,tk1,os⟩
  rw[hsz]
  refine zC ?_
  ·unfold Builtin.SmallTypes.ownedTupleIsFree
   refine zC (vS he₄ rfl (x:= .none) rfl (zI ?_))
   simp only[if_true]
   refine zC (wpAny_rule ?_)
   refine zC (vS he₄ rfl (x:=old) rfl ?_)
   refine zC (wpAny_setField_rec he₄ (by simp) λh₅ he₅ hs₅=> ?_)
   replace hs₅:Heap.SameBut e h₄ h₅:=hs₅
   replace he₅:IsEnum h₅ e it (c+1) x:=he₅
   show wpAny _ _ (Builtin.SmallTypes.ownedTupleHandOut (.ref e) (.ref hp.objs.size) >>= _) _ _ ⟨h₅,g,d,tk1,os⟩
   refine zC ?_
   ·unfold Builtin.SmallTypes.ownedTupleHandOut
    refine zC (wpAny_setField_rec he₅ (by simp) λh₆ he₆ hs₆=> ?_)
    replace hs₆:Heap.SameBut e h₅ h₆:=hs₆
    replace he₆:IsEnumOut h₆ e it (c+1) x hp.objs.size:=he₆
    refine wpAny_setField_rec he₆ (by simp) λh₇ he₇ hs₇=> ?_
    replace hs₇:Heap.SameBut e h₆ h₇:=hs₇
    replace he₇:IsEnumOut h₇ e it (c+1) x hp.objs.size:=he₇
    refine zC (wpAny_letGo (zI ⟨_,rfl,hQ x h₇ ti tk1 hPx he₇ ?_ ?_ ?_ ?_⟩))
    ·exact D.frame _ _ _ hit₄ λb hb o y=>by
      have hbe:b≠e:=λq=>hef (q▸hb)
      exact hs₇.extBut b o hbe (hs₆.extBut b o hbe (hs₅.extBut b o hbe y))
    ·exact hs₇.extBut _ _ (xS hel) (hs₆.extBut _ _ (xS hel) (hs₅.extBut _ _ (xS hel) ht₄))
    ·rw[hs₇.1,hs₆.1,hs₅.1,hz₄]
    ·exact λb o hbe hbi hb=>hs₇.extBut b o hbe (hs₆.extBut b o hbe (hs₅.extBut b o hbe (hk₄ b o hbe hbi hb)))
 rcases hg with rfl | ⟨ti,rfl⟩
 ·show wpAny _ _ (mkInt c >>= _) _ _ ⟨h₁,g,d,tk,os⟩
  exact zC (wpAny_mkInt (rest tk (tk+1)))
 ·exact rest ti tk
theorem Fe{items}{Q:Value->Shared->Prop}(hit:s.heap.IsTupleIter it l i)(hl:s.heap.IsTuple l items)(hx:items[i]? = some x)
  (hQ:∀h',h'.IsTupleIter it l (i+1)->Heap.SameBut it s.heap h'->Q x {s with heap:=h'}):
  wpAny (model prog w) A (Builtin.SmallTypes.nextOf (.ref it)) Q E s:=by
 obtain⟨o,ho,hc,hd⟩:=id hit
 obtain⟨ol,hol,_,nl,hdl⟩:=hl
 unfold Builtin.SmallTypes.nextOf
 refine zC (zai (name:=Str.ofString "__next__") hit.typeIs F.slot_tuple_iterator_next
  (uS F.slot_tuple_iterator_next hit.typeIs F.entry_tuple_iterator_next ?_ (F.args_tuple_iterator_next_1 _)))
 show wpAny _ _ (field (.ref it) 0 >>= _) _ _ s
 refine zC (vS ho hd (x:= .ref l) rfl ?_)
 show wpAny _ _ (if(Value.ref l==Value.none)=true then _ else _) _ _ s
 rw[if_neg (show ¬((Value.ref l==Value.none)=true)from xA)]
 show wpAny _ _ (field (.ref it) 1 >>= _) _ _ s
 refine zC (vS ho hd (x:= .int i 0) rfl ?_)
 show wpAny _ _ (seqItems? (.ref l) >>= _) _ _ s
 refine zC (wpAny_seqItems hol hdl ?_)
 simp only[zam,hx]
 refine zC (wpAny_setField ho hd (by simp) (zI ⟨x,rfl,zI (hQ _ ?_ (Heap.SameBut.update ..))⟩))
 exact⟨_,vF _ ho (Obj.isFreed_of_fields (Obj.data_mapFields hd _)),(Obj.cls_mapFields ..).trans hc,by
  rw[Obj.data_mapFields hd];simp[rawInt]⟩
theorem vN{items}{Q:Value->Shared->Prop}(hh:A.handled=none)
  (hit:s.heap.IsTupleIter it l i) (hl:s.heap.IsTuple l items) (hx:items[i]? = none)
  (hE:∀h' e,Heap.ExtBut it s.heap h'->(∃o,h'.get? e=some o/\o.cls= .type "StopIteration")->E (.ref e) {s with heap:=h'}):
  wpAny (model prog w) A (Builtin.SmallTypes.nextOf (.ref it)) Q E s:=by
 obtain⟨o,ho,hc,hd⟩:=id hit
 obtain⟨ol,hol,_,nl,hdl⟩:=hl
 unfold Builtin.SmallTypes.nextOf
 refine zC (zai (name:=Str.ofString "__next__") hit.typeIs F.slot_tuple_iterator_next
  (uS F.slot_tuple_iterator_next hit.typeIs F.entry_tuple_iterator_next ?_ (F.args_tuple_iterator_next_1 _)))
 show wpAny _ _ (field (.ref it) 0 >>= _) _ _ s
 refine zC (vS ho hd (x:= .ref l) rfl ?_)
 show wpAny _ _ (if(Value.ref l==Value.none)=true then _ else _) _ _ s
 rw[if_neg (show ¬((Value.ref l==Value.none)=true)from xA)]
 show wpAny _ _ (field (.ref it) 1 >>= _) _ _ s
 refine zC (vS ho hd (x:= .int i 0) rfl ?_)
 show wpAny _ _ (seqItems? (.ref l) >>= _) _ _ s
 refine zC (wpAny_seqItems hol hdl ?_)
 simp only[zam,hx]
 refine zC (wpAny_rule (zC (wpAny_setField ho hd (by simp) ?_)))
 show wpAny _ _ (newExc (.type "StopIteration") [] >>= _) _ _ _
 refine zC ?_
 simp only[newExc,newTuple]
 refine zC (wT ?_ (by size_fits))
 refine zC (m:=firstArgMember _ _) (wpAny_of_eq (a:=Value.none) (by first | rfl | (simp only[firstArgMember];rfl)) ?_)
 refine wT ?_ (by size_fits)
 simp only[raiseNew]
 refine zC (wpAny_handled ?_)
 first | rw[show A.in1.handled=none from hh] | rw[hh]
 refine zC (zI (wpAny_throw ?_))
 exact hE _ _ (((Heap.SameBut.update ..).extBut.push _).push _) ⟨_,yB _ rfl,rfl⟩
theorem TQ(hh:A.handled=none)(it l:Addr)(hne:l≠it)(items:Array Value):
  Draws prog w A it [it,l] items.size (λi v=>items[i]? = some v) (λi h=>h.IsTupleIter it l i/\h.IsTuple l items) where
 live:=λ_ _ st=>let⟨o,ho,_⟩:=st.1;⟨o,ho⟩
 frame:=λ_ _ _ st hk=>⟨let⟨o,ho,a⟩:=st.1;⟨o,hk it (by simp) o ho,a⟩,let⟨o,ho,a⟩:=st.2;⟨o,hk l (by simp) o ho,a⟩⟩
 item:=λi s Q E hi st hQ=>by
  refine Fe st.1 st.2 (x:=items[i]) (by simp[hi]) λh' hit' hs'=> ?_
  exact hQ _ h' s.toks (by simp[hi]) ⟨hit',let⟨o,ho,a⟩:=st.2;⟨o,hs'.extBut l o hne ho,a⟩⟩ hs'
 done:=λs Q E st hE=>vN hh st.1 st.2 (by simp) hE
theorem Pg{P:Nat->Value->Prop}{St:Nat->Heap->Prop}{Q:Option Value->Shared->Prop}
  (D:Draws prog w A.in1 it fp n P St) (he:jX s.heap e it c gv old) (hg:HS gv c) (hst:St i s.heap) (hlt:i<n) (hne:e≠it) (hef:e∉fp)
  (hQ:∀x h' tk tk',P i x->IsEnumOut h' e it (c+1) x s.heap.objs.size->St (i+1) h'->
   h'.get? s.heap.objs.size=some {cls:= .type "tuple",data:= .seq #[.int c tk,x]}->h'.objs.size=s.heap.objs.size+1->
   (∀b o,b≠e->b≠it->s.heap.get? b=some o->h'.get? b=some o)->Q (some (.ref s.heap.objs.size)) {s with heap:=h',toks:=tk'}):
  wpAny (model prog w) A (pyNext (.ref e)) Q E s:=by
 have hT:s.TypeIs (.ref e) "enumerate" := ⟨_,he,rfl⟩
 unfold pyNext
 exact zC (wpAny_attempt (zai (name:=Str.ofString "__next__") hT F.slot_enumerate_next
  (uS F.slot_enumerate_next hT F.entry_enumerate_next
   (Tz D he hg hst hlt hne hef λx h' tk tk' a b c d k q=>zI (hQ x h' tk tk' a b c d k q)) (F.args_enumerate_next_1 _))))
end
section
variable{X:Cx}{pins:List (Addr×Obj)}{σ:L2.St}{H:Hp}{s:Shared}{h':Heap}
theorem Inv.ac1(I:Inv X pins σ H s)(k:∀c o,c≠a->c≠b->s.heap.get? c=some o->h'.get? c=some o)(fa:Bg X pins H a)(fb:Bg X pins H b):Inv X pins σ H {s with heap:=h',toks:=t'}:=by
 obtain⟨na,La,_,a1,a2,a3⟩:=fa
 obtain⟨nb,Lb,_,b1,b2,b3⟩:=fb
 have nit:∀c u,H c=some u->c≠a/\c≠b:=λc u e=>⟨(λz=>by rw[z,na]at e;cases e),(λz=>by rw[z,nb]at e;cases e)⟩
 have kk:∀c o,c∉[a,b]->s.heap.get? c=some o->h'.get? c=some o:=λc o hc e=>k c o (λz=>hc (by simp[z])) (λz=>hc (by simp[z])) e
 refine I.step (g':=s.gens) (d':=s.drawn) (ch:=[a,b]) (λc hc=> ?_) (λc o _ _ hc e _=>kk c o hc e) (λc o _ _ hc e _=>⟨o.slots,kk c o hc e⟩) (λ_ _ _ _ n=>n)
  (λc o hc e=>⟨o,kk c o hc e⟩) (λ_ _ e=>e) (λ_ _ _ e=>e) (λc ps e=>⟨#[],by rw[e];simp⟩) (λm hm=> ?_) (λc u e=> ?_) I.bare
 ·rcases List.mem_cons.mp hc with rfl | hc
  ·exact⟨a1,La,a2,a3⟩
  ·obtain rfl:c=b:=by simpa using hc
   exact⟨b1,Lb,b2,b3⟩
 ·obtain⟨o,es,ep,ho,r⟩:=hm
  exact⟨o,es,ep,k _ o (Ne.symm La) (Ne.symm Lb) ho,r⟩
 ·refine(I.hok c u e).stay (λd v hd q=> ?_) (λ_ q=>q) λ_ _ q=>q
  rcases hd with z | z
  ·rw[z]at q ⊢;exact k _ v (nit c u e).1 (nit c u e).2 q
  ·exact k _ v (nit d _ z).1 (nit d _ z).2 q
theorem Inv.Rj(I:Inv X pins σ H s)(k:∀c o,c≠a->c≠b->s.heap.get? c=some o->h'.get? c=some o)(fa:Bg X pins H a)(fb:Bg X pins H b)(hT:s.heap.objs.size<=T)(new:dD X.prog X.w (upd H T o) h' T o):
  Inv X pins σ (upd H T o) {s with heap:=h',toks:=t'}:=by
 have J:Inv X pins σ H {s with heap:=h',toks:=t'}:=I.ac1 k fa fb
 have hn:H T=none:=I.hok.fresh hT
 obtain⟨na,La,_,a1,a2,a3⟩:=fa
 obtain⟨nb,Lb,_,b1,b2,b3⟩:=fb
 have kk:∀c o,c∉[a,b]->s.heap.get? c=some o->h'.get? c=some o:=λc o hc e=>k c o (λz=>hc (by simp[z])) (λz=>hc (by simp[z])) e
 have ne:∀{c:Addr} {u:Obj},s.heap.get? c=some u->c≠T:=λ{c u} e=>xD (yA (zS e) hT)
 refine I.step (g':=s.gens) (d':=s.drawn) (ch:=[a,b]) (λc hc=> ?_) (λc o _ _ hc e _=>kk c o hc e) (λc o _ _ hc e _=>⟨o.slots,kk c o hc e⟩) (λc u _ e n=>by rw[aL (ne e)];exact n)
  (λc o hc e=>⟨o,kk c o hc e⟩) (λc xs e=>by rw[aL (bJ e hn)];exact e) (λc ob u e=>by rw[aL (bJ e hn)];exact e) (λc ps e=>⟨#[],by rw[aL (bJ e hn),e];simp⟩) (λm hm=> ?_) (J.hok.track hn new) I.bare
 ·rcases List.mem_cons.mp hc with rfl | hc
  ·exact⟨a1,La,a2,a3⟩
  ·obtain rfl:c=b:=by simpa using hc
   exact⟨b1,Lb,b2,b3⟩
 ·obtain⟨o,es,ep,ho,r⟩:=hm
  exact⟨o,es,ep,k _ o (Ne.symm La) (Ne.symm Lb) ho,r⟩
end
def Ite(Sq:Hp->List V->Prop)(k:Int):It where
 go i H:=∃xs x,Sq H xs/\xs[i]? = some x
 X6 i H x H':=∃p y,H p=none/\x= .ref p/\H'=upd H p (.tup [.int (k+i),y])/\∀ys,Sq H ys->ys[i]? = some y
 stop i H:=∃xs,Sq H xs/\xs.length<=i
theorem Ri:(2:Nat)<=sizeLine:=by rw[sizeLine_eq];decide
section
variable{P:Program}{w:World}{K:Frag}{es:List Expr}{n:Nat}{pos:Pos}
structure Src(K:Frag)(Sq:Hp->List V->Prop)(a it:Addr)(At:Nat->Heap->Prop):Prop where
 get:∀(X:Cx) (pins:List (Addr×Obj)) (σ:L2.St) (H:Hp) (s:Shared) (xs:List V),X.K=K->Inv X pins σ H s->Sq H xs->∃its:List Value,Vals xs its/\(∃o,s.heap.get? a=some o/\o.cls≠ .type "enumerate")/\
  ∀(i:Nat) (A:Around),A.handled=none->At i s.heap->∃St:Nat->Heap->Prop,Draws X.prog X.w A it [it,a] its.length (λi v=>its[i]? = some v) St/\St i s.heap/\(∀j h,St j h->At j h)/\
   (its.length<=i->∀(Q:Value->Shared->Prop) (E:Value->Shared->Prop),(∀h' e,Heap.ExtBut it s.heap h'->(∃o,h'.get? e=some o/\o.cls= .type "StopIteration")->E (.ref e) {s with heap:=h'})->wpAny (model X.prog X.w) A (Builtin.SmallTypes.nextOf (.ref it)) Q E s)
 inj:∀(X:Cx) (pins:List (Addr×Obj)) (σ:L2.St) (H:Hp) (s:Shared) (xs ys:List V),X.K=K->Inv X pins σ H s->Sq H xs->Sq H ys->xs=ys
 keep:∀i h h',At i h->(∀o,h.get? it=some o->h'.get? it=some o)->At i h'
 obj:∀i h,At i h->∃o,h.get? it=some o/\(∀v,o.data≠ .cell v)/\o.cls≠ .type "enumerate"
theorem src_list(a it:Addr):Src K (λH xs=>pB K H a xs) a it (λi h=>h.IsListIter it a i) where
 get:=by
  intro X pins σ H s xs hK I hq
  subst hK
  obtain⟨its,rv,p,_⟩:=I.list hq
  refine⟨its,rv,?_,λi A hh st=> ?_⟩
  ·obtain⟨o,m,e,c,_⟩:=p
   exact⟨o,e,by rw[c];decide⟩
  ·have hne:a≠it:=λz=>by
    subst z
    obtain⟨o,m,e,c,_⟩:=p
    obtain⟨o',e',c',_⟩:=st
    rw[e]at e';cases e'
    rw[c]at c'
    exact absurd c' (by decide)
   have D:=Draws.list (prog:=X.prog) (w:=X.w) hh it a hne its.toArray
   refine⟨λi h=>h.IsListIter it a i/\h.IsList a its.toArray,by simpa using D,⟨st,p.isList⟩,λj h q=>q.1,λhl Q E hE=>wpAny_nextOf_list_end hh st p.isList (by simp;omega) hE⟩
 inj:=λX pins σ H s xs ys hK I h1 h2=>by subst hK;exact I.Ku h1 h2
 keep:=λi h h' st k=>st.at λo e=>k o e
 obj:=λi h st=>by obtain⟨o,e,c,d⟩:=st;exact⟨o,e,(λv z=>by rw[d]at z;cases z),by rw[c];decide⟩
theorem We(a it:Addr):Src K (λH xs=>kO K H a xs) a it (λi h=>h.IsTupleIter it a i) where
 get:=by
  intro X pins σ H s xs hK I hq
  subst hK
  obtain⟨its,rv,p,_⟩:=I.tuple hq
  refine⟨its,rv,?_,λi A hh st=> ?_⟩
  ·obtain⟨o,e,c,_⟩:=p
   exact⟨o,e,by rw[c];decide⟩
  ·have hne:a≠it:=λz=>by
    subst z
    obtain⟨o,e,c,_⟩:=p
    obtain⟨o',e',c',_⟩:=st
    rw[e]at e';cases e'
    rw[c]at c'
    exact absurd c' (by decide)
   have D:=TQ (prog:=X.prog) (w:=X.w) hh it a hne its.toArray
   refine⟨λi h=>h.IsTupleIter it a i/\h.IsTuple a its.toArray,by simpa using D,⟨st,p⟩,λj h q=>q.1,λhl Q E hE=>vN hh st (show s.heap.IsTuple a its.toArray from p) (by simp;omega) hE⟩
 inj:=λX pins σ H s xs ys hK I h1 h2=>by subst hK;exact I.Gj h1 h2
 keep:=λi h h' st k=>by obtain⟨o,e,a⟩:=st;exact⟨o,k o e,a⟩
 obj:=λi h st=>by obtain⟨o,e,c,d⟩:=st;exact⟨o,e,(λv z=>by rw[d]at z;cases z),by rw[c];decide⟩
theorem Bh{Sq:Hp->List V->Prop}{At:Nat->Heap->Prop}(S:Src K Sq a it At)(hei:e≠it)(k:Int):
  Turn P w K (.Tuple es n pos) (Ite Sq k) [e,it] e (λi h=>(∃gv old,jX h e it (k+(i:Nat)) gv old/\HS gv (k+(i:Nat)))/\At i h) where
 mem:=by simp
 obj:=λi h st b hb=>by
  obtain⟨⟨gv,old,he,_⟩,st⟩:=st
  rcases List.mem_cons.mp hb with rfl | hb
  ·exact⟨_,he,λv z=>by cases(show Data.fields _=Data.cell v from z)⟩
  ·obtain rfl:b=it:=by simpa using hb
   obtain⟨o,e1,e2,_⟩:=S.obj i h st
   exact⟨o,e1,e2⟩
 keep:=λi h h' st q=>by
  obtain⟨⟨gv,old,he,hg⟩,st⟩:=st
  exact⟨⟨gv,old,q e (by simp) _ he,hg⟩,S.keep i h h' st λo eo=>q it (by simp) o eo⟩
 item:=by
  intro X hP hw hK hc i pins s σ H E I hf st hgo
  subst hP hw
  obtain⟨⟨gv,old,he,hg⟩,st⟩:=st
  obtain⟨xs,x,hq,hx⟩:=hgo
  obtain⟨its,rv,⟨oa,ha,ca⟩,D⟩:=S.get X pins σ H s xs hK I hq
  obtain⟨St,D,hst,back,_⟩:=D i X.A.in1 (I.ok.hd hc) st
  obtain⟨u,hu,ru⟩:=rv.get hx
  have hlt:i<its.length:=(List.getElem?_eq_some_iff.mp hu).1
  have hea:e≠a:=λz=>by subst z;rw[he]at ha;cases ha;exact ca rfl
  refine Pg D he hg hst hlt hei (by simp[hei,hea]) λy h1 tk tk' hy ho ank hT hsz hk=> ?_
  have ey:y=u:=by
   have:=hy.symm.trans hu
   exact xI this
  subst ey
  refine⟨_,rfl,wpAny_letOwnedTupleGo_enum ho λh2 he2 hs2=> ?_⟩
  have hTe:s.heap.objs.size≠e:=xS (zS he)
  have hT2:h2.get? s.heap.objs.size=some {cls:= .type "tuple",data:= .seq #[.int (k+(i:Nat)) tk,y]}:=(hs2.2 _ hTe).trans hT
  have hf0:H s.heap.objs.size=none:=I.hok.fresh (zab _)
  refine⟨.ref s.heap.objs.size,upd H s.heap.objs.size (.tup [.int (k+(i:Nat)),x]),?_,rfl,⟨_,x,hf0,rfl,rfl,λys hy=>by rw[S.inj X pins σ H s ys xs hK I hy hq];exact hx⟩,⟨⟨.none,y,?_,.inl rfl⟩,S.keep _ _ _ (back _ _ ank) λo eo=>(hs2.2 it (Ne.symm hei)).trans eo⟩,λb hb=> ?_⟩
  ·refine I.Rj (λb o n1 n2 eb=>(hs2.2 b n1).trans (hk b o n1 n2 eb)) (hf e (by simp)) (hf it (by simp)) (zab _) ?_
   exact⟨Ri,[.int (k+(i:Nat)) tk,y],.cons ⟨tk,rfl⟩ (.cons ru .nil),⟨_,hT2,rfl,_,rfl⟩⟩
  ·have ec:k+((i+1:Nat):Int)=k+(i:Nat)+1:=()
   rw[ec]
   exact he2
  ·rw[aL]
   ·exact(hf b hb).1
   ·rcases List.mem_cons.mp hb with rfl | hb
    ·exact Ne.symm hTe
    ·obtain rfl:b=it:=by simpa using hb
     obtain⟨o,e1,_,_⟩:=S.obj i s.heap st
     exact xD (zS e1)
 done:=by
  intro X hP hw hK hc i pins s σ H E I hf st hgo
  subst hP hw
  obtain⟨⟨gv,old,he,hg⟩,st⟩:=st
  obtain⟨xs,hq,hx⟩:=hgo
  obtain⟨its,rv,⟨oa,ha,ca⟩,D⟩:=S.get X pins σ H s xs hK I hq
  obtain⟨St,_,_,_,fin⟩:=D i X.A.in1 (I.ok.hd hc) st
  have hT:s.TypeIs (.ref e) "enumerate" := ⟨_,he,rfl⟩
  obtain⟨f0,f1,f2,f3,f4,f5⟩:=hf it (by simp)
  unfold pyNext
  refine zC (wpAny_attempt (zai (name:=Str.ofString "__next__") hT F.slot_enumerate_next
   (uS F.slot_enumerate_next hT F.entry_enumerate_next ?_ (F.args_enumerate_next_1 _))))
  show wpAny _ _ (field (.ref e) 2 >>= _) _ _ _
  refine zC (vS he rfl (x:= .ref it) rfl ?_)
  refine zC (fin (by rw[<-rv.length];exact hx) _ _ λh' x he' hx'=> ?_)
  obtain⟨o,ho,hc⟩:=hx'
  refine zC (wpAny_isInstance (T:= "StopIteration") (b:=true) ⟨o,ho,hc⟩ isSubtype_stop ?_)
  exact zI ⟨rfl,I.turned (t':=s.toks) (λb o hb e=>he' b o hb e) f0 f1 f3 f4 f5⟩
 self:=λA i s Q E st hQ=>by
  obtain⟨⟨gv,old,he,_⟩,_⟩:=st
  have hT:s.TypeIs (.ref e) "enumerate" := ⟨_,he,rfl⟩
  refine wpAny_pyIter_slot hT F.slot_enumerate_iter (uS F.slot_enumerate_iter hT F.entry_enumerate_iter ?_ (F.args_enumerate_iter_1 _))
  show wpAny _ _ (ret (.ref e)) _ _ s
  exact zI ⟨_,rfl,"enumerate",_,hT,F.slot_enumerate_next.lookup,hQ⟩
end
theorem FW:bootBuiltins "enumerate" = some (.type "enumerate"):=by decide +kernel
section
variable{M:Model}{A:Around}{E:Value->Shared->Prop}{s:Shared}{env:Env}
theorem GK{T:String}{rest:List Expr}{kws:List Keyword}{Q:Value->Shared->Prop}
  (h:wpAny M A (spliced (backTo pos (starEach (e::rest) env))) (λvs s₁=>wpAny M A (evalAll ((backToKw pos (keywordEach kws env)).map (·.2)))
   (λkvs s₂=>wpAny M A (call (.type T) vs (((backToKw pos (keywordEach kws env)).filterMap (·.1)).zip kvs)) Q E s₂) E s₁) E s)
  (he:backTo pos (starEach (e::rest) env)=(false,eval e env)::backTo pos (starEach rest env))
  (hplain:(backTo pos (starEach (e::rest) env)).any (·.1)=false)
  (hall:(backToKw pos (keywordEach kws env)).all (·.1.isSome)=true)
  (hkw:(backToKw pos (keywordEach kws env)).any (·.1.isNone)=false):
  wpAny M A (callWith pos (.type T) [] (backTo pos (starEach (e::rest) env)) (backToKw pos (keywordEach kws env))) Q E s:=by
 have h2:wpAny M A (evalArgs (.type T) true (backTo pos (starEach (e::rest) env)) (backToKw pos (keywordEach kws env))) (λa s₁=>wpAny M A (call (.type T) ([]++a.pos) a.kw) Q E s₁) E s:=by
  rw[he]at h ⊢
  exact evalArgs_kwB hall h
 unfold callWith
 refine zC (wpAny_holding (vE h2 (λa s₁ h₁=>zC (wpAny_standAt ?_)) λ_ _ x=>x))
 simp only[hplain,hkw,Bool.or_false]
 refine zC (zI ?_)
 exact zC (vE h₁ (λr s₂ hr=>zC (wpAny_holding (wpAny_point (zI hr)))) λ_ _ x=>x)
end
section
variable{X:Cx}
theorem Za{pins:List (Addr×Obj)}{σ:L2.St}{H:Hp}{s:Shared}{x:Value}{i:Int}{t:Tok}{Q:Value->Shared->Prop}{E:Value->Shared->Prop}
  (hx:wpAny (model X.prog X.w) X.A.in1.in1 (pyIter x) (λitv s1=>Q (.ref s1.heap.objs.size) {s1 with heap:=s1.heap.push {cls:= .type "enumerate",data:= .fields #[.none,.bool false,itv,rawInt i,given i t,.none]}}) E s):
  wpAny (model X.prog X.w) X.A (call (.type "enumerate") [x] [("start",.int i t)]) Q E s:=by
 refine HQ (Q₁:=λobj s₁=>s₁.TypeIs obj "enumerate" /\ Q obj s₁) F.called_enumerate (Jy _ _) (Mr _ _) F.entry_enumerate_new F.entry_object_init (TF (vE hx (λitv s1 q=> ?_) λ_ _ z=>z)) λobj s₁ q=>⟨q.1,VJ _ _ _,?_⟩
 ·exact⟨_,rfl,⟨_,yB _ rfl,rfl⟩,q⟩
 ·exact zQ F.called_enumerate.init.lookup F.called_enumerate.made (by decide) q.1 ⟨rfl,q.2⟩
def ake(K:Frag)(ta tb:TE):TI:=λσ H R=>ta σ H λx H1=>tb σ H1 λy H2=>∃l i,x= .ref l/\y= .int i/\
 (((∃xs,pB K H2 l xs)/\((∀xs,pB K H2 l xs->xs.length<=sizeLine)->R (Ite (λH xs=>pB K H l xs) i) H2))\/((∃xs,kO K H2 l xs)/\((∀xs,kO K H2 l xs->xs.length<=sizeLine)->R (Ite (λH xs=>kO K H l xs) i) H2)))
theorem NK(i:Int)(t:Tok):HS (given i t) i:=by
 unfold given
 split
 ·exact .inl rfl
 ·exact .inr ⟨t,rfl⟩
set_option maxHeartbeats 4000000 in
theorem aa1(hg:Gl X "enumerate")(hm:X.mg "enumerate" = none)(ha:PE X a ta)(hb:PE X b tb)
  (he:backTo pos (starEach [a] X.env)=(false,eval a X.env)::backTo pos (starEach [] X.env):=by rfl)
  (hs:starEach [a] X.env=(false,eval a X.env)::starEach [] X.env:=by rfl)
  (hplain:(backTo pos (starEach [a] X.env)).any (·.1)=false:=by rfl)
  (hall:(backToKw pos (keywordEach [⟨some "start",b,kp⟩] X.env)).all (·.1.isSome)=true:=by rfl)
  (hkw:(backToKw pos (keywordEach [⟨some "start",b,kp⟩] X.env)).any (·.1.isNone)=false:=by rfl)
  (hnm:(backToKw pos (keywordEach [⟨some "start",b,kp⟩] X.env)).filterMap (·.1)=[("start" : Str)]:=by rfl):
  PI X (.Tuple es n tp) (.Call (.Name "enumerate" p) [a] [⟨some "start",b,kp⟩] pos) (ake X.K ta tb):=by
 intro pins s σ H R I h
 refine wpAny_Call_Name_kw (Gw I hg hm FW (GK ?_ he hplain hall hkw))
 rw[hs]
 show wpAny _ _ (spliced ((false,eval a X.env)::backTo pos (starEach [] X.env))) _ _ s
 refine Calls.spliced_cons (fP (ha pins s σ H _ I h) ?_)
 rintro u s1 ⟨x,H1,I1,r1,q1⟩
 refine Calls.spliced_nil ?_
 refine kws_cons (fP (hb pins s1 σ H1 _ I1 q1) ?_)
 rintro u2 s2 ⟨y,H2,I2,r2,q2⟩
 refine kws_nil ?_
 rw[hnm]
 obtain⟨l,i,rfl,rfl,q⟩:=q2
 obtain⟨t,rfl⟩:=r2
 cases(show u=Value.ref l from r1)
 show wpAny _ _ (call (.type "enumerate") [Value.ref l] [("start",.int i t)]) _ _ s2
 refine Za (X:=X) (pins:=pins) (σ:=σ) (H:=H2) ?_
 have f0:∀{h:Heap} {b:Addr},s2.heap.objs.size<=b->Bg X pins H2 b:=λ{h b} hb=>I2.Vv hb (I2.hok.fresh hb)
 rcases q with⟨⟨xs,hq⟩,q⟩ | ⟨⟨xs,hq⟩,q⟩
 ·obtain⟨its,rv,pp,hz⟩:=I2.list hq
  have q:=q λys hy=>by obtain⟨_,_,_,hz⟩:=I2.list hy;exact hz
  refine wpAny_pyIter_list pp.isList ?_
  have hsz:(s2.heap.push {cls:= .type "list_iterator",data:= .fields #[.ref l,.int 0 0]}).objs.size=s2.heap.objs.size+1:=Heap.size_push ..
  have hE:∀h,jX h (s2.heap.objs.size+1) s2.heap.objs.size i (given i t) .none->h.IsListIter s2.heap.objs.size l 0->(∀b o,s2.heap.get? b=some o->h.get? b=some o)->
    wpAny (model X.prog X.w) X.A (pyIter (.ref (s2.heap.objs.size+1))) (PIE X pins σ (.Tuple es n tp) R) X.xe {s2 with heap:=h}:=λh he hit hk=>by
   have T:=Bh (P:=X.prog) (w:=X.w) (es:=es) (n:=n) (pos:=tp) (src_list (K:=X.K) l s2.heap.objs.size) (e:=s2.heap.objs.size+1) (xS (Nat.lt_succ_self _)) i
   have tn0:(∃gv old,jX h (s2.heap.objs.size+1) s2.heap.objs.size (i+((0:Nat):Int)) gv old/\HS gv (i+((0:Nat):Int)))/\h.IsListIter s2.heap.objs.size l 0:=by
    have e0:i+((0:Nat):Int)=i:=by simp
    rw[e0]
    exact⟨⟨_,_,he,NK i t⟩,hit⟩
   refine T.self X.A 0 {s2 with heap:=h} _ _ tn0 ?_
   refine⟨_,_,_,_,H2,rfl,I2.kept (t':=s2.toks) hk,T,tn0,λb hb=> ?_,q⟩
   rcases List.mem_cons.mp hb with rfl | hb
   ·exact f0 (h:=h) (Nat.le_succ _)
   ·obtain rfl:b=s2.heap.objs.size:=by simpa using hb
    exact f0 (h:=h) (zab _)
  show wpAny _ _ (pyIter (.ref (s2.heap.push _).objs.size)) _ _ _
  rw[hsz]
  refine hE _ ?_ ⟨_,zD _ (yB _ rfl),rfl,rfl⟩ λb o eb=>zD _ (zD _ eb)
  have:=yB (s2.heap.push {cls:= .type "list_iterator",data:= .fields #[.ref l,.int 0 0]}) (o:={cls:= .type "enumerate",data:= .fields #[.none,.bool false,.ref s2.heap.objs.size,rawInt i,given i t,.none]}) rfl
  rw[hsz]at this
  exact this
 ·obtain⟨its,rv,pp,hz⟩:=I2.tuple hq
  have q:=q λys hy=>by obtain⟨_,_,_,hz⟩:=I2.tuple hy;exact hz
  refine wpAny_pyIter_tuple (show s2.heap.IsTuple l its.toArray from pp) ?_
  have hsz:(s2.heap.push {cls:= .type "tuple_iterator",data:= .fields #[.ref l,.int 0 0]}).objs.size=s2.heap.objs.size+1:=Heap.size_push ..
  have hE:∀h,jX h (s2.heap.objs.size+1) s2.heap.objs.size i (given i t) .none->h.IsTupleIter s2.heap.objs.size l 0->(∀b o,s2.heap.get? b=some o->h.get? b=some o)->
    wpAny (model X.prog X.w) X.A (pyIter (.ref (s2.heap.objs.size+1))) (PIE X pins σ (.Tuple es n tp) R) X.xe {s2 with heap:=h}:=λh he hit hk=>by
   have T:=Bh (P:=X.prog) (w:=X.w) (es:=es) (n:=n) (pos:=tp) (We (K:=X.K) l s2.heap.objs.size) (e:=s2.heap.objs.size+1) (xS (Nat.lt_succ_self _)) i
   have tn0:(∃gv old,jX h (s2.heap.objs.size+1) s2.heap.objs.size (i+((0:Nat):Int)) gv old/\HS gv (i+((0:Nat):Int)))/\h.IsTupleIter s2.heap.objs.size l 0:=by
    have e0:i+((0:Nat):Int)=i:=by simp
    rw[e0]
    exact⟨⟨_,_,he,NK i t⟩,hit⟩
   refine T.self X.A 0 {s2 with heap:=h} _ _ tn0 ?_
   refine⟨_,_,_,_,H2,rfl,I2.kept (t':=s2.toks) hk,T,tn0,λb hb=> ?_,q⟩
   rcases List.mem_cons.mp hb with rfl | hb
   ·exact f0 (h:=h) (Nat.le_succ _)
   ·obtain rfl:b=s2.heap.objs.size:=by simpa using hb
    exact f0 (h:=h) (zab _)
  show wpAny _ _ (pyIter (.ref (s2.heap.push _).objs.size)) _ _ _
  rw[hsz]
  refine hE _ ?_ ⟨_,zD _ (yB _ rfl),rfl,rfl⟩ λb o eb=>zD _ (zD _ eb)
  have:=yB (s2.heap.push {cls:= .type "tuple_iterator",data:= .fields #[.ref l,.int 0 0]}) (o:={cls:= .type "enumerate",data:= .fields #[.none,.bool false,.ref s2.heap.objs.size,rawInt i,given i t,.none]}) rfl
  rw[hsz]at this
  exact this
end
section
variable{prog:Program}{w:World}{A:Around}{E:Value->Shared->Prop}{s:Shared}
theorem Y_{Q:Fin->Shared->Prop}
  (hx:wpAny (model prog w) A (pyIter x) (λitv s1=>Q (.done (.ret (.ref s1.heap.objs.size))) {s1 with heap:=s1.heap.push {cls:= .type "enumerate",data:= .fields #[.none,.bool false,itv,rawInt 0,.none,.none]}}) E s):
  wpAny (model prog w) A (Builtin.«enumerate.__new__» ⟨[.type "enumerate",x],[]⟩) Q E s:=by
 have hsub:=sub_enumerate
 have key:wpAny (model prog w) A (do
   let itv <-pyIter x
   let r <-Builtin.SmallTypes.newRecord (Value.type "enumerate") (Builtin.SmallTypes.ownedTupleFields++[itv,rawInt 0,Value.none,Value.none])
   ret r) Q E s:=by
  refine zC (vE hx (λitv s1 h1=> ?_) λ_ _ z=>z)
  wp_walk
  first | exact h1 | exact⟨_,rfl,h1⟩
 wp_walk
 refine wpAny_stack_any λst=>zI ?_
 split
 ·rename_i c _ _ _ _ _
  cases(c==Value.type "enumerate")
  ·first | exact key | exact wpAny_rule key | (wp_step;first | exact key | (wp_step;exact key))
  ·first | exact key | exact wpAny_rule key | (wp_step;first | exact key | (wp_step;exact key))
 ·first | exact key | exact wpAny_rule key | (wp_step;first | exact key | (wp_step;exact key))
end
section
variable{X:Cx}
theorem Vx{Q:Value->Shared->Prop}{E:Value->Shared->Prop}
  (hx:wpAny (model X.prog X.w) X.A.in1.in1 (pyIter x) (λitv s1=>Q (.ref s1.heap.objs.size) {s1 with heap:=s1.heap.push {cls:= .type "enumerate",data:= .fields #[.none,.bool false,itv,rawInt 0,.none,.none]}}) E s):
  wpAny (model X.prog X.w) X.A (call (.type "enumerate") [x]) Q E s:=by
 refine HQ (Q₁:=λobj s₁=>s₁.TypeIs obj "enumerate" /\ Q obj s₁) F.called_enumerate (F.typeCall_enumerate_1 _) (F.newCall_enumerate_1 _) F.entry_enumerate_new F.entry_object_init (Y_ (vE hx (λitv s1 q=> ?_) λ_ _ z=>z)) λobj s₁ q=>⟨q.1,F.args_object_init_2 _ _,?_⟩
 ·exact⟨_,rfl,⟨_,yB _ rfl,rfl⟩,q⟩
 ·exact zQ F.called_enumerate.init.lookup F.called_enumerate.made (by decide) q.1 ⟨rfl,q.2⟩
def ahp(K:Frag)(ta:TE):TI:=λσ H R=>ta σ H λx H2=>∃l,x= .ref l/\
 (((∃xs,pB K H2 l xs)/\((∀xs,pB K H2 l xs->xs.length<=sizeLine)->R (Ite (λH xs=>pB K H l xs) 0) H2))\/((∃xs,kO K H2 l xs)/\((∀xs,kO K H2 l xs->xs.length<=sizeLine)->R (Ite (λH xs=>kO K H l xs) 0) H2)))
set_option maxHeartbeats 4000000 in
theorem aa2(hg:Gl X "enumerate")(hm:X.mg "enumerate" = none)(ha:PE X a ta)
  (hs:starEach [a] X.env=[(false,eval a X.env)]:=by rfl):
  PI X (.Tuple es n tp) (.Call (.Name "enumerate" p) [a] [] pos) (ahp X.K ta):=by
 intro pins s σ H R I h
 refine Call_ (Gw I hg hm FW (PyProof.Rows.callWith_type1 ?_ hs rfl))
 rw[hs]
 refine Calls.spliced_cons (fP (ha pins s σ H _ I h) ?_)
 rintro u s2 ⟨x,H2,I2,r1,q2⟩
 refine Calls.spliced_nil ?_
 obtain⟨l,rfl,q⟩:=q2
 cases(show u=Value.ref l from r1)
 show wpAny _ _ (call (.type "enumerate") [Value.ref l]) _ _ s2
 refine Vx (X:=X) ?_
 have f0:∀{h:Heap} {b:Addr},s2.heap.objs.size<=b->Bg X pins H2 b:=λ{h b} hb=>I2.Vv hb (I2.hok.fresh hb)
 rcases q with⟨⟨xs,hq⟩,q⟩ | ⟨⟨xs,hq⟩,q⟩
 ·obtain⟨its,rv,pp,hz⟩:=I2.list hq
  have q:=q λys hy=>by obtain⟨_,_,_,hz⟩:=I2.list hy;exact hz
  refine wpAny_pyIter_list pp.isList ?_
  have hsz:(s2.heap.push {cls:= .type "list_iterator",data:= .fields #[.ref l,.int 0 0]}).objs.size=s2.heap.objs.size+1:=Heap.size_push ..
  have hE:∀h,jX h (s2.heap.objs.size+1) s2.heap.objs.size 0 .none .none->h.IsListIter s2.heap.objs.size l 0->(∀b o,s2.heap.get? b=some o->h.get? b=some o)->
    wpAny (model X.prog X.w) X.A (pyIter (.ref (s2.heap.objs.size+1))) (PIE X pins σ (.Tuple es n tp) R) X.xe {s2 with heap:=h}:=λh he hit hk=>by
   have T:=Bh (P:=X.prog) (w:=X.w) (es:=es) (n:=n) (pos:=tp) (src_list (K:=X.K) l s2.heap.objs.size) (e:=s2.heap.objs.size+1) (xS (Nat.lt_succ_self _)) 0
   have tn0:(∃gv old,jX h (s2.heap.objs.size+1) s2.heap.objs.size (0+((0:Nat):Int)) gv old/\HS gv (0+((0:Nat):Int)))/\h.IsListIter s2.heap.objs.size l 0:=
    ⟨⟨_,_,he,.inl rfl⟩,hit⟩
   refine T.self X.A 0 {s2 with heap:=h} _ _ tn0 ?_
   refine⟨_,_,_,_,H2,rfl,I2.kept (t':=s2.toks) hk,T,tn0,λb hb=> ?_,q⟩
   rcases List.mem_cons.mp hb with rfl | hb
   ·exact f0 (h:=h) (Nat.le_succ _)
   ·obtain rfl:b=s2.heap.objs.size:=by simpa using hb
    exact f0 (h:=h) (zab _)
  show wpAny _ _ (pyIter (.ref (s2.heap.push _).objs.size)) _ _ _
  rw[hsz]
  refine hE _ ?_ ⟨_,zD _ (yB _ rfl),rfl,rfl⟩ λb o eb=>zD _ (zD _ eb)
  have:=yB (s2.heap.push {cls:= .type "list_iterator",data:= .fields #[.ref l,.int 0 0]}) (o:={cls:= .type "enumerate",data:= .fields #[.none,.bool false,.ref s2.heap.objs.size,rawInt 0,.none,.none]}) rfl
  rw[hsz]at this
  exact this
 ·obtain⟨its,rv,pp,hz⟩:=I2.tuple hq
  have q:=q λys hy=>by obtain⟨_,_,_,hz⟩:=I2.tuple hy;exact hz
  refine wpAny_pyIter_tuple (show s2.heap.IsTuple l its.toArray from pp) ?_
  have hsz:(s2.heap.push {cls:= .type "tuple_iterator",data:= .fields #[.ref l,.int 0 0]}).objs.size=s2.heap.objs.size+1:=Heap.size_push ..
  have hE:∀h,jX h (s2.heap.objs.size+1) s2.heap.objs.size 0 .none .none->h.IsTupleIter s2.heap.objs.size l 0->(∀b o,s2.heap.get? b=some o->h.get? b=some o)->
    wpAny (model X.prog X.w) X.A (pyIter (.ref (s2.heap.objs.size+1))) (PIE X pins σ (.Tuple es n tp) R) X.xe {s2 with heap:=h}:=λh he hit hk=>by
   have T:=Bh (P:=X.prog) (w:=X.w) (es:=es) (n:=n) (pos:=tp) (We (K:=X.K) l s2.heap.objs.size) (e:=s2.heap.objs.size+1) (xS (Nat.lt_succ_self _)) 0
   have tn0:(∃gv old,jX h (s2.heap.objs.size+1) s2.heap.objs.size (0+((0:Nat):Int)) gv old/\HS gv (0+((0:Nat):Int)))/\h.IsTupleIter s2.heap.objs.size l 0:=
    ⟨⟨_,_,he,.inl rfl⟩,hit⟩
   refine T.self X.A 0 {s2 with heap:=h} _ _ tn0 ?_
   refine⟨_,_,_,_,H2,rfl,I2.kept (t':=s2.toks) hk,T,tn0,λb hb=> ?_,q⟩
   rcases List.mem_cons.mp hb with rfl | hb
   ·exact f0 (h:=h) (Nat.le_succ _)
   ·obtain rfl:b=s2.heap.objs.size:=by simpa using hb
    exact f0 (h:=h) (zab _)
  show wpAny _ _ (pyIter (.ref (s2.heap.push _).objs.size)) _ _ _
  rw[hsz]
  refine hE _ ?_ ⟨_,zD _ (yB _ rfl),rfl,rfl⟩ λb o eb=>zD _ (zD _ eb)
  have:=yB (s2.heap.push {cls:= .type "tuple_iterator",data:= .fields #[.ref l,.int 0 0]}) (o:={cls:= .type "enumerate",data:= .fields #[.none,.bool false,.ref s2.heap.objs.size,rawInt 0,.none,.none]}) rfl
  rw[hsz]at this
  exact this
end
structure Mz(K:Frag)(C:Addr)(name:Str):Prop where
 cd:∃cd,PySem.W.clsIn K C=some cd/\cd.hasDict=true/\cd.mro.isEmpty=false/\cd.mro.contains (.type "object")=true/\cd.mro.contains (.type "BaseException")=true/\(∀self,refuseLoop self "__setattr__" cd.mro=pure .unit)
 sa:findIn K (.ref C) "__setattr__" = some (some (.builtin "object.__setattr__"))
 ga:findIn K (.ref C) "__getattribute__" = some (some (.builtin "BaseException.__getattribute__"))
 no:findIn K (.ref C) name=some none
section
variable{prog:Program}{w:World}{A:Around}{E:Value->Shared->Prop}{s:Shared}{K:Frag}{x C:Addr}{name:Str}{v:Value}
def XAt(h:Heap)(x C:Addr)(vs:Array Value)(dx:Option Addr):Prop:=h.get? x=some {cls:= .ref C,dict:=dx,data:= .fields vs}
theorem aiF(a:XAt h x C vs none):PySem.W.InstAt h x {cls:= .ref C,dict:=none,data:= .fields vs} C none:=⟨a,rfl,rfl,trivial⟩
theorem aiC{Q:Unit->Shared->Prop}(X:K.In s.heap)(F:Mz K C name)(hx:XAt s.heap x C vs none)
  (h:∀h' dx,s.heap.objs.size=dx->XAt h' x C vs (some dx)->h'.Ns1 dx (λy=>if y=name then some v else none)->(∀b o,b≠x->s.heap.get? b=some o->h'.get? b=some o)->Q .unit {s with heap:=h',toks:=s.toks+2}):
  wpAny (model prog w) A (setAttr (.ref x) name v) Q E s:=by
 have I:=aiF hx
 obtain⟨cd,hc,hhd,hne,hob,_,hre⟩:=F.cd
 have SF:=PySem.F.store_object
 refine PySem.W.set_plain X I F.sa ?_
 have sub:PySem.W.Looks (model prog w) s.heap (isInstance (.ref x) (.type "object")) true:=I.type.andThen (PySem.W.looks_mroIn X (by unfold PySem.W.mroIn;rw[hc,Option.bind_some,if_neg (by rw[hne];decide),hob]))
 refine codeAny_call_builtin SF.slot.plain SF.entry (@PySem.W.check_slot (model prog w) _ _ {s with toks:=s.toks+1} "object.__setattr__" "object" "__setattr__" (.ref x) [.str name s.toks,v] [] _ SF.kind SF.split sub (SF.args (.ref x) (.str name s.toks) v) ?_)
 have hm:PySem.W.Looks (model prog w) s.heap (mroOf (.ref C)) cd.mro:=(PySem.W.looks_clsIn X hc).andThen .now
 have L3:PySem.W.Looks (model prog w) s.heap (Builtin.ObjectAttr.storeTaker? none) none:= .now
 rw[PySem.W.osa_eq,refuse_eq]
 refine zC (zC (PySem.W.Looks.here (s:={s with toks:=s.toks+1}) I.type (zC (PySem.W.Looks.here (s:={s with toks:=s.toks+1}) hm ?_))))
 rw[hre]
 refine zI (zC (PySem.W.Looks.here (s:={s with toks:=s.toks+1}) I.type (zC (PySem.W.Looks.here (s:={s with toks:=s.toks+1}) (PySem.W.looks_findIn X F.no) (zC (PySem.W.Looks.here (s:={s with toks:=s.toks+1}) L3 ?_))))))
 refine zC (zI (zC (zC (wpAny_loadPart (s:={s with toks:=s.toks+1}) hx (zC (PySem.W.Looks.here (s:={s with toks:=s.toks+1}) (PySem.W.looks_clsIn X hc) ?_))))))
 rw[hhd]
 rw[if_neg (by decide)]
 dsimp only
 rw[if_neg (by simp[typeHasDict])]
 have hxs:x≠s.heap.objs.size:=xD (zS hx)
 have hx₁:(s.heap.push {cls:= .type "dict",data:= .dict #[]}).get? x=some {cls:= .ref C,dict:=none,data:= .fields vs}:=zD _ hx
 refine zC (wpAny_alloc' (zC (wpAny_update' hx₁ (zI ?_))))
 have hgd:((s.heap.push {cls:= .type "dict",data:= .dict #[]}).update x λo=>{cls:=o.cls,dict:=some s.heap.objs.size,data:=o.data,slots:=o.slots}).get? s.heap.objs.size=some {cls:= .type "dict",data:= .dict #[]}:=
  (Heap.get?_update_ne _ _ _ _ hxs.symm).trans (Heap.get?_push_at rfl rfl)
 have hnd:((s.heap.push {cls:= .type "dict",data:= .dict #[]}).update x λo=>{cls:=o.cls,dict:=some s.heap.objs.size,data:=o.data,slots:=o.slots}).Ns s.heap.objs.size (λ_=>none):=
  ⟨_,#[],_,hgd,rfl,λe he=>absurd he (by simp),λ_=>rfl⟩
 show wpAny _ _ (Builtin.ObjectAttr.storeInDict s.heap.objs.size (.str name s.toks) name v) _ _ _
 unfold Builtin.ObjectAttr.storeInDict Builtin.ObjectAttr.newKeyGuard
 refine zC (zI (zC (wpAny_nsSet1 (Heap.Ns1.of_empty hnd) λh' hn' hs=> ?_)))
 obtain⟨oD,esD,epD,hoD,hdD,hcD⟩:=hn'.count (Within.cons name v Within.nil)
 refine zC (wpAny_lookBehind hoD (by rw[hdD];exact pastItsLine_dict (yY hcD (by rw[List.length_cons,List.length_nil,sizeLine_eq];omega))) ?_)
 wp_walk
 have hx':h'.get? x=some {cls:= .ref C,dict:=some s.heap.objs.size,data:= .fields vs}:=(hs.2 x hxs).trans (vF _ hx₁ rfl)
 refine h h' _ rfl hx' hn' λb ob hb e=> ?_
 exact(hs.2 b (xD (zS e))).trans ((Heap.get?_update_ne _ _ _ _ hb).trans (zD _ e))
end
end L2
namespace L2
open PySem
section
variable{prog:Program}{w:World}{A:Around}{E:Value->Shared->Prop}{h:Heap}{g:Array GenState}{d:Drawn}{t:Nat}{os:OsState}
variable{nm q:Str}{C N:Addr}{bs bm bmB:List Value}{hdct:Bool}{sn:List Str}{sub:List Value}{ab:Bool}{col:Option Bool}{dd:Option Addr}{k0 k1 k2 k3 k5:Option Value}{B newId initId:String}
structure Uj(B:String)(bm:List Value):Prop where
 has:bm.contains (.type B)=true
 noA:bm.contains (.type "AttributeError")=false
 noN:bm.contains (.type "NameError")=false
theorem Ra(F:ExcBaseFacts B newId initId bmB)(T:Uj B bm){rest:List Value}{Q:Unit->Shared->Prop}(hC:h.get? C=some (excClassObj nm q C N bs bm hdct sn sub ab col dd k0 k1 k2 k3 k5 newId))
  (hq:Q .unit ⟨h,g,d,t,os⟩):wpAny M A (checkBuiltinCall newId ⟨.ref C::rest,[]⟩) Q E ⟨h,g,d,t,os⟩:=by
 have hcont:(Value.ref C::bm).contains (.type B)=true:=by rw[List.contains_cons,T.has,Bool.or_true]
 have hstar:=F.noStar
 simp only[checkBuiltinCall,F.newKind,F.newSplit,F.newRow]
 repeat (first | refine wpAny_loadPart_at hC ?_ | (refine wpAny_isSubtype_exc hC ?_;rw[hcont]) | refine wpAny_staticBase_exc hC ?_ | refine wpAny_madeBy_exc hC ?_ | simp only[bne_self_eq_false,Bool.false_eq_true,if_false] | wp_step)
 exact hq
theorem aiE{R:Result->Shared->Prop}(F:ExcBaseFacts B newId initId bmB)(T:Uj B bm){rest:List Value}(hC:h.get? C=some (excClassObj nm q C N bs bm hdct sn sub ab col dd k0 k1 k2 k3 k5 newId))
  (hq:R (.ok (.ret (.ref (h.objs.size+1)))) ⟨(h.push {cls:= .type "tuple",data:= .seq rest.toArray}).push
   {cls:= .ref C,data:= .fields #[.ref h.objs.size,.none,.none,.none,.bool false,.none]},g,d,t,os⟩) (hrest:rest.length<=sizeLine):
  codeAny (model prog w) A (.builtin newId ⟨.ref C::rest,[]⟩) R ⟨h,g,d,t,os⟩:=by
 have hends:=F.ends
 have hcB:(Value.ref C::bm).contains (.type B)=true:=by rw[List.contains_cons,T.has,Bool.or_true]
 have hcA:(Value.ref C::bm).contains (.type "AttributeError")=false:=by rw[List.contains_cons,T.noA];rfl
 have hcN:(Value.ref C::bm).contains (.type "NameError")=false:=by rw[List.contains_cons,T.noN];rfl
 refine codeAny_builtinAt F.entry ?_
 unfold Builtin.«BaseException.__new__»
 refine wpAt_bind ?_
 show wpAt _ _ _ (stack >>= _) _ _ _
 refine wpAt_bind (wpAt_stack λp below=>wpAt_of_wpAny ?_)
 wp_walk
 refine wpAt_of_wpAny ?_
 rw[F.owner]
 repeat (first | with_reducible refine wpAny_madeHere_exc F.canon hC ?_ | with_reducible refine wpAny_loadPart_at hC ?_ | (with_reducible refine wpAny_isSubtype_exc hC ?_;first | rw[hcB] | rw[hcA] | rw[hcN]) | wp_step)
 show R _ _
 rw[Heap.size_push]
 exact hq
theorem Q9(F:ExcBaseFacts B newId initId bmB)(T:Uj B bm){rest:List Value}{Q:Fin->Shared->Prop}
  (hC:h.get? C=some (excClassObj nm q C N bs bm hdct sn sub ab col dd k0 k1 k2 k3 k5 newId)) (hi:PySem.W.Looks (model prog w) h (typeLookup (.ref C) "__init__") (some (.ref fI)))
  (hfI:h.get? fI=some oI) (hfc:oI.cls= .type "function")
  (hq:∀h' e,h.objs.size<=e->Heap.MadeExcOf h h' e (.ref C) rest->
   wpAny (model prog w) A (call (.ref fI) (.ref e::rest)) (λr s'=>r= .none/\Q (.done (.ret (.ref e))) s') E ⟨h',g,d,t,os⟩) (hrest:rest.length<=sizeLine):
  wpAny (model prog w) A (Builtin.«type.__call__» ⟨.ref C::rest,[]⟩) Q E ⟨h,g,d,t,os⟩:=by
 repeat (first | with_reducible refine wpAny_loadPart_at hC ?_ | with_reducible refine wpAny_madeBy_exc hC ?_ | wp_step)
 refine codeAny_call_builtin_code (Code.quiet_builtin _ F.quiet) (Ra F T hC ?_)
 refine aiE F T hC ?_ hrest
 show wpAny _ _ _ _ _ _
 have hC₁:=zD {cls:= .ref C,data:= .fields #[.ref h.objs.size,.none,.none,.none,.bool false,.none]}
  (zD {cls:= .type "tuple",data:= .seq rest.toArray} hC)
 have hfI₁:=zD {cls:= .ref C,data:= .fields #[.ref h.objs.size,.none,.none,.none,.bool false,.none]}
  (zD {cls:= .type "tuple",data:= .seq rest.toArray} hfI)
 have hget:((h.push {cls:= .type "tuple",data:= .seq rest.toArray}).push
   {cls:= .ref C,data:= .fields #[.ref h.objs.size,.none,.none,.none,.bool false,.none]}).get? (h.objs.size+1)=some
   {cls:= .ref C,data:= .fields #[.ref h.objs.size,.none,.none,.none,.bool false,.none]}:=by heap_get
 have hcC:(Value.ref C::bm).contains (.ref C)=true:=by simp
 unfold isInstance
 repeat (first | with_reducible refine wpAny_loadPart_at hget ?_ | (with_reducible refine wpAny_isSubtype_exc hC₁ ?_;rw[hcC]) | wp_step)
 show wpAny _ _ (typeLookup (.ref C) _) _ _ _
 refine hi _ _ _ _ (λb o hb=>zD _ (zD _ hb)) ?_
 refine wpAny_holding (zC ?_)
 unfold bindSpecial
 refine zC (wpAny_typeOf (T:= "function") ⟨_,hfI₁,hfc⟩ ?_)
 rw[if_pos (by decide)]
 refine zI (zC (vE (hq _ (h.objs.size+1) (Nat.le_succ _) ⟨λb o hb=>zD _ (zD _ hb),Heap.get?_none_of_le (Nat.le_succ _),h.objs.size,hget,Heap.get?_none_of_le (zab _),?_⟩) (λr s' hr=> ?_) λ_ _ x=>x))
 ·exact zD _ (Heap.get?_push_at rfl rfl)
 ·obtain⟨rfl,hQ⟩:=hr
  wp_walk
  exact hQ
theorem x_call(F:ExcBaseFacts B newId initId bmB)(T:Uj B bm){rest:List Value}{Q:Value->Shared->Prop}
  (hC:h.get? C=some (excClassObj nm q C N bs bm hdct sn sub ab col dd k0 k1 k2 k3 k5 newId)) (hi:PySem.W.Looks (model prog w) h (typeLookup (.ref C) "__init__") (some (.ref fI)))
  (hfI:h.get? fI=some oI) (hfc:oI.cls= .type "function")
  (hq:∀h' e,h.objs.size<=e->Heap.MadeExcOf h h' e (.ref C) rest->
   wpAny (model prog w) (A.under (.builtin "type.__call__" ⟨.ref C::rest,[]⟩)) (call (.ref fI) (.ref e::rest)) (λr s'=>r= .none/\Q (.ref e) s') E ⟨h',g,d,t,os⟩) (hrest:rest.length<=sizeLine):
  wpAny (model prog w) A (call (.ref C) rest) Q E ⟨h,g,d,t,os⟩:=by
 have f1:=tc_lookup
 have f2:=tc_bind (.ref C)
 have hT:(⟨h,g,d,t,os⟩:Shared).TypeIs (.ref C) "type" := ⟨_,hC,rfl⟩
 refine wpAny_call (codeAny_of_tree ?_)
 show wpAny _ _ (callAny (.ref C) _) _ _ _
 repeat (any_goals (first | assumption | with_reducible refine wpAny_loadPart_at hC ?_ | wp_step))
 refine⟨rfl,?_⟩
 refine codeAny_call_builtin_at (Code.quiet_builtin _ (by decide +kernel)) entry_typeCall (wpAny_check_type_call_sub hC (Q9 (hrest:=hrest) F T hC hi hfI hfc λh' e hs hm=> ?_))
 exact hq h' e hs hm
end
structure Exc(h:Heap)(e C:Addr)(dx T:Option Addr)(fl:Value):Prop where
 at_:∃vs,h.get? e=some {cls:= .ref C,dict:=dx,data:= .fields vs}/\(match T with
  | none=>vs[1]? = some .none
  | some T=>vs[1]? = some (.ref T)/\T≠e/\∃oT ts,h.get? T=some oT/\oT.data= .fields ts/\ts[3]? = some fl)
def oA(fs:List Addr)(e:Addr)(T:Option Addr)(h h':Heap):Prop:=
 (h.objs.size<=h'.objs.size/\∀b o,h.get? b=some o->∃o',h'.get? b=some o')/\(∀b o,b≠e->some b≠T->b∉fs->h.get? b=some o->h'.get? b=some o)/\(∀b o,b≠e->some b≠T->h.get? b=some o->∃sl,h'.get? b=some {o with slots:=sl})
theorem oA.refl:oA fs e T h h:=⟨⟨zab _,λb o q=>⟨o,q⟩⟩,λ_ _ _ _ _ x=>x,λ_ o _ _ x=>⟨o.slots,x⟩⟩
theorem oA.trans(x:oA fs e T h h1)(y:oA fs e T' h1 h2)(hT:T'=T\/∃t,T'=some t/\h.objs.size<=t):oA fs e T h h2:=by
 have ne:∀b o,some b≠T->h.get? b=some o->some b≠T':=λb o n q z=>by
  rcases hT with r | ⟨t,r,q2⟩
  ·exact n (z.trans r)
  ·rw[r]at z;cases z
   exact absurd (yA (zS q) q2) (wS _)
 refine⟨⟨yY x.1.1 y.1.1,λb o q=>let⟨o1,q1⟩:=x.1.2 b o q;y.1.2 b o1 q1⟩,λb o n1 n2 n3 q=>y.2.1 b o n1 (ne b o n2 q) n3 (x.2.1 b o n1 n2 n3 q),λb o n1 n2 q=> ?_⟩
 obtain⟨sl,e1⟩:=x.2.2 b o n1 n2 q
 obtain⟨sl2,e2⟩:=y.2.2 b _ n1 (ne b o n2 q) e1
 exact⟨sl2,e2⟩
section
variable{M:Model}{A:Around}{E:Value->Shared->Prop}{s:Shared}
theorem V2{Q:Unit->Shared->Prop}
  (hfr:A.frames=some (env::outer)) (hl:s.heap.FunFrames base (env::outer)) (hf:env.frame=some L)
  (he:s.heap.get? e=some {cls:= .ref C,dict:=dx,data:= .fields vs}) (hsz:1<vs.size)
  (h:∀h' T,s.heap.objs.size<=T->oA ((env::outer).filterMap (·.frame)) e (some T) s.heap h'->Exc h' e C dx (some T) (rawInt L)->Q .unit {s with heap:=h'}):
  wpAny M A (do let a <-frameOf env;let pl <-entryPlaceOf L hadNext;let b <-EntryCells.newEntry head a .none (rawInt L) .none pl;setField (.ref e) 1 b) Q E s:=by
 have hene:e∉(env::outer).filterMap (·.frame):=λhm=>by
  obtain⟨_,o,ho,hnf⟩:=hl.mem hm
  rw[he]at ho;injection ho with ho;subst ho;exact hnf vs rfl
 refine zC (wpAny_frameOf_fun hfr hl hf λh₁ hs₁=> ?_)
 refine zC (wpAny_entryPlaceOf λpl hpl=> ?_)
 unfold EntryCells.newEntry newFields
 refine zC (wT ?_ (hpl.sizeOk5 _ _ _ _ _))
 have he₁:h₁.get? e=some {cls:= .ref C,dict:=dx,data:= .fields vs}:=(hs₁.2.1 e hene).trans he
 have he₂:=zD (h:=h₁) {cls:= .type "traceback",dict:=none,data:= .fields ([head,.ref L,.none,rawInt L,.none]++(if pl.isEmpty then List.replicate 6 Value.none else pl)).toArray} he₁
 refine wpAny_setField he₂ rfl hsz (h _ h₁.objs.size (by rw[hs₁.1];exact zab _) ?_ ?_)
 ·refine⟨⟨?_,λb o q=> ?_⟩,λb o n1 n2 n3 q=> ?_,λb o n1 n2 q=> ?_⟩
  ·rw[Heap.size_after_update,Heap.size_push,hs₁.1];omega
  ·by_cases n1:b=e
   ·subst n1
    exact⟨_,vF _ he₂ (Obj.isFreed_of_fields (Obj.data_mapFields rfl _))⟩
   ·obtain⟨sl,q1⟩:=hs₁.2.2 b o q
    exact⟨_,(xL _ _ (Ne.symm n1)).trans (zD _ q1)⟩
  ·rw[xL _ _ (Ne.symm n1)]
   exact zD _ ((hs₁.2.1 b n3).trans q)
  ·obtain⟨sl,q1⟩:=hs₁.2.2 b o q
   refine⟨sl,?_⟩
   rw[xL _ _ (Ne.symm n1)]
   exact zD _ q1
 ·have hTe:h₁.objs.size≠e:=xS (zS he₁)
  have hd₃:=Obj.data_mapFields (o:={cls:= .ref C,dict:=dx,data:= .fields vs}) rfl (·.setIfInBounds 1 (Value.ref h₁.objs.size))
  have he₃:=vF (Obj.mapFields (·.setIfInBounds 1 (Value.ref h₁.objs.size))) he₂ (Obj.isFreed_of_fields hd₃)
  have hT₃:=(xL (h₁.push {cls:= .type "traceback",dict:=none,data:= .fields ([head,.ref L,.none,rawInt L,.none]++(if pl.isEmpty then List.replicate 6 Value.none else pl)).toArray})
   (Obj.mapFields (·.setIfInBounds 1 (Value.ref h₁.objs.size))) (Ne.symm hTe)).trans (yB h₁ rfl)
  refine⟨⟨_,he₃,by simp[hsz],hTe,_,_,hT₃,rfl,by first | (simp;done) | (rcases hpl with rfl | ⟨_,_,_,_,_,_,_,rfl⟩<;>simp)⟩⟩
theorem oA.upd(ho:h.get? T=some oT)(hfr:(f oT).isFreed=false):oA fs e (some T) h (h.update T f):=by
 have k:∀b o,some b≠some T->h.get? b=some o->(h.update T f).get? b=some o:=λb o n q=>by
  rw[xL _ _ (λz=>n (by rw[z]))];exact q
 refine⟨⟨by rw[Heap.size_after_update];exact zab _,λb o q=> ?_⟩,λb o _ n2 _ q=>k b o n2 q,λb o _ n2 q=>⟨o.slots,k b o n2 q⟩⟩
 by_cases z:b=T
 ·subst z;exact⟨_,vF _ ho hfr⟩
 ·exact⟨o,k b o (λy=>z (xI y)) q⟩
theorem yU{Q:Unit->Shared->Prop}(x:Exc s.heap e C dx T fl)
  (h:∀h',oA [] e T s.heap h'->Exc h' e C dx T (fr.elim .none λf=>rawInt f)->Q .unit {s with heap:=h'}):wpAny M A (setFlight (.ref e) fr) Q E s:=by
 obtain⟨vs,he,hT⟩:=x.at_
 unfold setFlight
 cases T with
 | none=>
  refine zC (vS he rfl hT ?_)
  rw[if_neg (by decide)]
  exact zI (h s.heap .refl ⟨vs,he,hT⟩)
 | some T=>
  obtain⟨h1,hne,oT,ts,hoT,hd,h3⟩:=hT
  refine zC (vS he rfl h1 ?_)
  rw[if_pos (show(Value.ref T != Value.none)=true from by simp)]
  have hsz3:3<ts.size:=(Array.getElem?_eq_some_iff.mp h3).1
  refine wpAny_setField hoT hd hsz3 (h _ (.upd hoT (Obj.isFreed_of_fields (Obj.data_mapFields hd _))) ⟨vs,?_,h1,hne,_,_,vF _ hoT (Obj.isFreed_of_fields (Obj.data_mapFields hd _)),Obj.data_mapFields hd _,by simp[hsz3]⟩)
  rw[xL _ _ hne];exact he
theorem Ur{Q:Unit->Shared->Prop}
  (hfr:A.frames=some (env::outer)) (hl:s.heap.FunFrames base (env::outer)) (hf:env.frame=some L) (x:Exc s.heap e C dx T fl) (hfl:fl=fl\/fl=rawInt L)
  (h:∀h' T',(T=some T'\/s.heap.objs.size<=T')->oA ((env::outer).filterMap (·.frame)) e T s.heap h'->Exc h' e C dx (some T') (rawInt L)->Q .unit {s with heap:=h'}):wpAny M A (noteFrame (.ref e) env) Q E s:=by
 obtain⟨vs,he,hT⟩:=x.at_
 unfold noteFrame
 simp only[hf]
 cases T with
 | none=>
  refine zC (vS he rfl hT ?_)
  rw[if_neg (by decide)]
  refine V2 hfr hl hf he (Array.getElem?_eq_some_iff.mp hT).1 λh' T hs k x'=>h h' T (.inr hs) ?_ x'
  exact⟨k.1,λb o n1 _ n3 q=>k.2.1 b o n1 (λz=>by cases z;exact absurd (yA (zS q) hs) (wS _)) n3 q,λb o n1 _ q=>k.2.2 b o n1 (λz=>by cases z;exact absurd (yA (zS q) hs) (wS _)) q⟩
 | some T=>
  obtain⟨h1,hne,oT,ts,hoT,hd,h3⟩:=hT
  refine zC (vS he rfl h1 ?_)
  rw[if_pos (show(Value.ref T != Value.none)=true from by simp)]
  refine zC (vS hoT hd h3 ?_)
  by_cases hq:fl=rawInt L
  ·subst hq
   rw[if_pos (show(rawInt L==rawInt L)=true from by simp)]
   exact zI (h s.heap T (.inl rfl) .refl x)
  ·rw[if_neg (show ¬((fl==rawInt L)=true)from by simpa using hq)]
   have hsz3:3<ts.size:=(Array.getElem?_eq_some_iff.mp h3).1
   refine zC (wpAny_setField hoT hd hsz3 ?_)
   have other:∀b,b≠T->(s.heap.update T (Obj.mapFields (·.setIfInBounds 3 Value.none))).get? b=s.heap.get? b:=λb hb=>xL _ _ (Ne.symm hb)
   have noRecord:∀b o,s.heap.get? b=some o->(∀vs,o.data≠ .fields vs)->b≠T:=λb o hb hnf q=>by
    rw[q,hoT]at hb;injection hb with hb;subst hb;exact hnf ts hd
   refine V2 hfr (hl.of_keeps λb o hb hnf=>⟨o,(other b (noRecord b o hb hnf)).trans hb,rfl⟩) hf ((other e (Ne.symm hne)).trans he) (Array.getElem?_eq_some_iff.mp h1).1 λh' T' hs k x'=> ?_
   rw[Heap.size_after_update]at hs
   exact h h' T' (.inr hs) ((oA.upd hoT (Obj.isFreed_of_fields (Obj.data_mapFields hd _))).trans k (.inr ⟨T',rfl,hs⟩)) x'
theorem acS{Q:Unit->Shared->Prop}
  (hfr:A.frames=some (env::outer)) (hl:s.heap.FunFrames base (env::outer)) (hf:env.frame=some L) (x:Exc s.heap e C dx T fl) (hfl:fl=fl\/fl=rawInt L)
  (h:∀h' T',(T=some T'\/s.heap.objs.size<=T')->oA ((env::outer).filterMap (·.frame)) e T s.heap h'->Exc h' e C dx (some T') .none->Q .unit {s with heap:=h'}):wpAny M A (leaving env (.ref e)) Q E s:=by
 unfold leaving
 refine zC (Ur hfr hl hf x hfl λh' T' hT k x'=> ?_)
 refine yU (fr:=none) (s:={s with heap:=h'}) x' λh2 k2 x2=>h h2 T' hT (k.trans (T':=some T') ⟨k2.1,λb o n1 n2 _ q=>k2.2.1 b o n1 n2 (by simp) q,k2.2.2⟩ ?_) x2
 rcases hT with r | r
 ·exact .inl r.symm
 ·exact .inr ⟨T',rfl,r⟩
end
end L2
namespace L2
open PySem PySem.Spec PyProof.Rows
abbrev xO(a C:Addr)(dx:Option Addr):HO:= .ext λh=>Exc h a C dx none .none
theorem ae2(x:Exc h a C dx none .none):dD P w H h a (xO a C dx):=by
 refine⟨x,?_,λh1 h2 y k=> ?_⟩
 ·obtain⟨vs,e,_⟩:=x.at_;exact⟨_,e⟩
 ·obtain⟨vs,e,q⟩:=y.at_;exact⟨vs,k _ e,q⟩
theorem ae3(x:dD P w H h a (xO a C dx)):Exc h a C dx none .none:=x.1
section
variable{X:Cx}{pins:List (Addr×Obj)}{σ:St}{H:Hp}{s:Shared}{a C:Addr}{f:Str}{A:Around}{E:Value->Shared->Prop}
theorem Q7{Q:Unit->Shared->Prop}(I:Inv X pins σ H s)(e:H a=some (xO a C none))(F:Mz X.K C f)(ry:RelV y u)
  (h:∀dx s',H dx=none->dx≠a->Inv X pins σ (upd (upd H dx (.xd [(f,y)])) a (xO a C (some dx))) s'->Q .unit s'):wpAny (model X.prog X.w) A (setAttr (.ref a) f u) Q E s:=by
 obtain⟨vs,hx,h1⟩:=(ae3 (I.hok a _ e)).at_
 refine aiC I.Hr F hx λh' dx ed hx' hn kp=> ?_
 subst ed
 have hd0:H s.heap.objs.size=none:=I.hok.fresh (zab _)
 have nea:s.heap.objs.size≠a:=xS (I.hok.lt e)
 refine h _ _ hd0 nea (I.un ⟨λb o q n _ _=>kp b o (λz=>by subst z;rw[e]at n;cases n) q,λb o q n _ _=>⟨o.slots,kp b o (λz=>by subst z;rw[e]at n;cases n) q⟩,λb o q n _=> ?_,λb o q _=> ?_,λb xs q=> ?_,λb o xs q=> ?_,λb ps q=>⟨#[],?_⟩⟩ λb o q=> ?_)
 ·have n1:b≠a:=λz=>by subst z;rw[e]at n;cases n
  rw[aL n1,aL (xD (zS q))];exact n
 ·by_cases z:b=a
  ·subst z;exact⟨_,hx'⟩
  ·exact⟨o,kp b o z q⟩
 ·have n1:b≠a:=λz=>by subst z;rw[e]at q;cases q
  have n2:b≠s.heap.objs.size:=λz=>by subst z;rw[hd0]at q;cases q
  rw[aL n1,aL n2];exact q
 ·have n1:b≠a:=λz=>by subst z;rw[e]at q;cases q
  have n2:b≠s.heap.objs.size:=λz=>by subst z;rw[hd0]at q;cases q
  rw[aL n1,aL n2];exact q
 ·have n1:b≠a:=λz=>by subst z;rw[e]at q;cases q
  have n2:b≠s.heap.objs.size:=λz=>by subst z;rw[hd0]at q;cases q
  rw[aL n1,aL n2,q];simp
 ·by_cases z:b=a
  ·subst z
   rw[bB]at q;cases q
   exact ae2 ⟨vs,hx',h1⟩
  ·rw[aL z]at q
   by_cases z2:b=s.heap.objs.size
   ·subst z2
    rw[bB]at q;cases q
    refine⟨_,hn,λg=> ?_⟩
    by_cases zg:g=f
    ·subst zg;simp[List.lookup];exact ry
    ·have:(g==f)=false:=by simpa using zg
     simp[List.lookup,this,zg];exact zaa
   ·rw[aL z2]at q
    refine(I.hok b o q).stay (λb' u' hb q'=> ?_) (λb' q'=> ?_) λb' xs q'=> ?_
    ·refine kp b' u' (λz'=> ?_) q'
     rcases hb with r | r
     ·exact z (r▸z')
     ·rw[z',e]at r;cases r
    ·have n1:b'≠a:=λz=>by subst z;rw[e]at q';cases q'
     have n2:b'≠s.heap.objs.size:=λz=>by subst z;rw[hd0]at q';cases q'
     rw[aL n1,aL n2];exact q'
    ·have n1:b'≠a:=λz=>by subst z;rw[e]at q';cases q'
     have n2:b'≠s.heap.objs.size:=λz=>by subst z;rw[hd0]at q';cases q'
     rw[aL n1,aL n2];exact q'
end
section
variable{X:Cx}{o value:Expr}{ta tv:TE}{f:Str}{pos pos':Pos}
def afg(K:Frag)(ta tv:TE)(f:Str):TS:=λD σ H=>tv σ H λy H1=>ta σ H1 λx H2=>∃a C,x= .ref a/\H2 a=some (xO a C none)/\Mz K C f/\
 ∀dx,H2 dx=none->dx≠a->D.nx σ (upd (upd H2 dx (.xd [(f,y)])) a (xO a C (some dx)))
theorem adG(ha:PE X o ta)(hv:PE X value tv)(hs:swapsWith value (some (.Attribute o f pos')) pos.line X.env=pure false):PS X (.Assign [.Attribute o f pos'] value pos) (afg X.K ta tv f):=by
 intro pins s σ H D I h
 refine plainObj_wpAny_Assign_Attribute (fP (hv pins s σ H _ I h) ?_) hs
 rintro u s1 ⟨y,H1,I1,ry,q⟩
 refine fP (ha pins s1 σ H1 _ I1 q) ?_
 rintro ov s2 ⟨x,H2,I2,rx,a,C,ex,ea,F,q2⟩
 subst ex
 obtain rfl:ov=Value.ref a:=rx
 exact Q7 I2 ea F ry λdx s3 hd ne I3=>⟨σ,_,I3,q2 dx hd ne⟩
end
def Bj(K:Frag)(f:Str):Sp:=λvs H Q _=>∃a C y,vs=[.ref a,y]/\H a=some (xO a C none)/\Mz K C f/\∀dx,H dx=none->dx≠a->Q .non (upd (upd H dx (.xd [(f,y)])) a (xO a C (some dx)))
section
variable{P:Program}{w:World}{K:Frag}{mg:Str->Option Value}{base:Heap}
theorem ab7{x qual g:Str}{st:Stmt}{dV:Value}{f:Addr}{fd:FuncData}{N ps:List Str}{k:Nat}(F:yJ K x qual st dV f fd)(S:pL N ps (aZ st))(hps:ps.length=2)
  (hbody:∀(cdv:Value) (A:Around) (outer:List Env) (s:Shared) (H:Hp) (E:XK),IV (vY VV P w K mg base N qual (aZ st) f cdv A outer s H E).nox (cY st) (afg K (ac5 0) (ac5 1) g)):
  gw P w K mg base VV (k+1) f fd ps (Bj K g):=by
 refine F.ok S (λvs H Q E ⟨a,C,y,e,_⟩=>by rw[e,hps];rfl) λcdv A outer s H vs Q E hr ⟨a,C,y,e,hH,hF,q⟩=> ?_
 subst e
 refine⟨_,hbody cdv A outer s H E,y,rfl,.ref a,rfl,a,C,rfl,hH,hF,λdx hd ne=> .inl (q dx hd ne)⟩
end
structure XMk(K:Frag)(C f:Addr):Prop where
 obj:∃(nm q:Str) (N:Addr) (bs bm:List Value) (hdct:Bool) (sn:List Str) (sub:List Value) (ab:Bool) (col:Option Bool) (dd:Option Addr) (k0 k1 k2 k3 k5:Option Value),
  K.lookup C=some (excClassObj nm q C N bs bm hdct sn sub ab col dd k0 k1 k2 k3 k5 "ValueError.__new__")/\Uj "ValueError" bm/\bm.contains (.type "BaseException")=true
 init:findIn K (.ref C) "__init__" = some (some (.ref f))
 fn:isFn K (.ref f)=true
 kp:keepIn K (.ref C)=true
section
variable{X:Cx}{k:Nat}{f C:Addr}{fd:FuncData}{ps:List Str}{g:Str}
theorem Inv.aiD(I:Inv X pins σ H s)(hs:s.heap.objs.size<=e)(m:Heap.MadeExcOf s.heap h' e (.ref C) us):
  Inv X pins σ (upd H e (xO e C none)) {s with heap:=h'}:=by
 obtain⟨t,he,_,_⟩:=m.there
 exact I.laid (t':=s.toks) (λb u q=>m.keeps b u q) hs (ae2 ⟨_,he,rfl⟩)
theorem Yl(M:XMk X.K C f)(hX:Mz X.K C g)(F:gw X.prog X.w X.K X.mg X.base VV k f fd ps (Bj X.K g))(hr:gm (k+1) X.A)(hb:Binds X.K fd ps [])
  (I:Inv X pins σ H s) (r:RelV y u)
  (h:∀x dx,H x=none->H dx=none->dx≠x->s.heap.objs.size<=x->Q (.ref x) (upd (upd (upd H x (xO x C none)) dx (.xd [(g,y)])) x (xO x C (some dx)))):
  wpAny (model X.prog X.w) X.A (call (.ref C) [u]) (EP X pins σ Q) X.xe s:=by
 obtain⟨nm,q,N,bs,bm,hdct,sn,sub,ab,col,dd,k0,k1,k2,k3,k5,hC,hT,hB⟩:=M.obj
 have hfn:=beq_iff_eq.mp M.fn
 have lk:∃oI,X.K.lookup f=some oI/\oI.cls= .type "function" := by
  obtain⟨o,ho,hc⟩:=Option.map_eq_some_iff.mp hfn
  exact⟨o,ho,hc⟩
 obtain⟨oI,hoI,hcI⟩:=lk
 obtain⟨hp,gg,d,t,os⟩:=s
 refine x_call PySem.F.excBase_ValueError hT (I.Hr _ _ hC) (PySem.W.looks_findIn I.Hr M.init) (I.Hr _ _ hoI) hcI (λh' e hs m=> ?_) (by show 1<=sizeLine;decide)
 have I2:=I.aiD hs m
 have r2:Vals [V.ref e,y] [Value.ref e,u]:= .cons rfl (.cons r .nil)
 have n0:H e=none:=I.hok.fresh hs
 have hq:Bj X.K g [V.ref e,y] (upd H e (xO e C none)) (λv H2=>v= .non/\Q (.ref e) H2) E0:=by
  refine⟨e,C,y,rfl,bB,hX,λdx hd ne=>⟨rfl,h e dx n0 ?_ ne hs⟩⟩
  rw[aL ne]at hd;exact hd
 have hl:([Value.ref e,u]++[]).length=ps.length:=by rw[List.append_nil,<-r2.length];exact F.len _ _ _ _ hq
 refine wpAny_call (codeAny_mono (F.run _ X.stack _ _ ⟨[Value.ref e,u],[]⟩ [Value.ref e,u] _ _ E0 (hr.make C [u] []) (I2.env0.make C [u] []) (by simpa using hb _ [Value.ref e,u] I2.Hr hl) r2 hq) λr s' hq'=> ?_)
 cases r with
 | error e=>exact hq'.elim
 | ok fl=>
  cases fl with
  | ret u=>
   obtain⟨v,H',I3,rv,ev,q3⟩:=I2.after hq'
   subst ev
   exact⟨rv,⟨V.ref e,H',I3,rfl,q3⟩⟩
  | next=>exact False.elim hq'
  | brk=>exact False.elim hq'
  | cont=>exact False.elim hq'
end
def drop(H:Hp)(a:Addr):Hp:=λb=>if b=a then none else H b
theorem Xu(h:b≠a):drop H a b=H b:=by unfold drop;rw[if_neg h]
theorem N6:drop H a a=none:=by unfold drop;rw[if_pos rfl]
section
variable{X:Cx}{pins:List (Addr×Obj)}{σ:St}{H:Hp}{s:Shared}{a:Addr}{φ:Heap->Prop}
theorem Inv.akz(I:Inv X pins σ H s)(e:H a=some (.ext φ)):Inv X pins σ (drop H a) s:=by
 have nn:∀b,H b=none->drop H a b=none:=λb q=>by unfold drop;split<;>first | rfl | exact q
 have kk:∀b u,H b=some u->(∀ψ,u≠ .ext ψ)->drop H a b=some u:=λb u q n=>by
  have:b≠a:=λz=>by subst z;rw[e]at q;cases q;exact n _ rfl
  rw[Xu this];exact q
 refine⟨I.ok,I.os,I.bare,⟨I.base.keep,I.base.slot,λb o q n x=>nn b (I.base.free b o q n x),I.base.there,λb xs q=>kk b _ (I.base.tups b xs q) (by simp),λb o u q=>kk b _ (I.base.tY b o u q) (by simp),λb ps q=> ?_⟩,I.loc,I.cell,nn _ I.free,λx c q=>nn _ (I.jZ x c q),λp hp=> ?_,λb o q=> ?_,I.len⟩
 ·obtain⟨m,z⟩:=I.base.vp b ps q;exact⟨m,kk b _ z (by simp)⟩
 ·obtain⟨z1,z2,z3⟩:=I.pin p hp;exact⟨z1,nn _ z2,z3⟩
 ·have nb:b≠a:=λz=>by subst z;rw[N6]at q;cases q
  rw[Xu nb]at q
  exact(I.hok b o q).stay (λ_ _ _ z=>z) (λb' z=>kk b' _ z (by simp)) λb' xs z=>kk b' _ z (by simp)
end
def DK(P:Program)(w:World):VR:=λouter H s E ev s'=>∃e C dx T H',ev=Value.ref e/\s'.os=s.os/\AllBare s'.gens/\Un (frs outer) [] H H' s.heap s'.heap/\tZ P w H' s'.heap/\Exc s'.heap e C (some dx) (some T) .none/\
 s.heap.objs.size<=e/\s.heap.objs.size<=T/\H' e=none/\H' T=none/\E (.ref C) (some dx) H'
abbrev bA:=Addr->Addr->St->Hp->Prop
structure Bc(X:Cx)(pins:List (Addr×Obj))(H:Hp)(a:Addr):Prop where
 no:H a=none
 new:X.s₀.heap.objs.size<=a
 pin:∀p∈X.pn++pins,p.1≠a
def ig(X:Cx)(W:bA):Value->Shared->Prop:=λev s=>∃e C dx T fl pins σ H,ev=Value.ref e/\Inv X pins σ H s/\Exc s.heap e C (some dx) T fl/\(fl=fl\/fl=rawInt X.env.locals)/\Bc X pins H e/\(∀t,T=some t->Bc X pins H t)/\W C dx σ H
section
variable{X:Cx}{pins:List (Addr×Obj)}{σ:St}{H:Hp}{s:Shared}
theorem ig.WR(I:Inv X pins σ H s)(h:DK X.prog X.w X.stack H s E ev s')(hE:∀C dx H',E (.ref C) (some dx) H'->W C dx σ H'):ig X W ev s':=by
 obtain⟨e,C,dx,T,H',rfl,os,bare,un,hok,x,ne,nT,fe,fT,hq⟩:=h
 have old:∀a,s.heap.objs.size<=a->∀p∈X.pn++pins,p.1≠a:=λa ha p hp z=>by
  have:=zS (I.pin p hp).1
  rw[z]at this
  exact absurd (yA this ha) (wS _)
 exact⟨e,C,dx,some T,.none,pins,σ,H',rfl,I.call' os un hok bare (λb z=>absurd z (by simp)),x,.inl rfl,⟨fe,yY I.sz ne,old e ne⟩,λt z=>by cases z;exact⟨fT,yY I.sz nT,old T nT⟩,hE C dx H' hq⟩
theorem NP(ok:tZ P w H h)(k:oA fs e T h h')(he:H e=none)(hT:∀t,T=some t->H t=none)(hf:∀b∈fs,H b=none):tZ P w H h':=by
 have kp:∀b u o,H b=some o->h.get? b=some u->h'.get? b=some u:=λb u o q z=>
  k.2.1 b u (λy=>by subst y;rw[he]at q;cases q) (λy=>by rw[hT b y.symm]at q;cases q) (λy=>by rw[hf b y]at q;cases q) z
 intro b o q
 refine(ok b o q).stay (λb' u hb z=> ?_) (λ_ z=>z) λ_ _ z=>z
 rcases hb with rfl | hb
 ·exact kp _ u o q z
 ·exact kp _ u _ hb z
end
theorem ig.leave{P:Program}{w:World}{K:Frag}{mg:Str->Option Value}{base:Heap}{N:List Str}{qual:Str}{scope:Scope}{f:Addr}{cd:Value}{A:Around}{outer:List Env}{s:Shared}{H:Hp}{E:XK}{W:bA}{ev:Value}{s':Shared}
  (h:ig (vY (DK P w) P w K mg base N qual scope f cd A outer s H E) W ev s') (hE:∀C dx σ H',W C dx σ H'->E (.ref C) (some dx) H'):
  (vY (DK P w) P w K mg base N qual scope f cd A outer s H E).xe ev s':=by
 obtain⟨e,C,dx,T,fl,pins,σ,H',rfl,I,x,hfl,fe,fT,hW⟩:=h
 show wpAny _ _ (leaving _ (.ref e)) _ _ s'
 refine acS I.ok.frames I.stack rfl x hfl λh2 T' hT k x'=> ?_
 have hTn:∀t,T=some t->H' t=none:=λt z=>(fT t z).no
 have nT:s.heap.objs.size<=T':=by
  rcases hT with r | r
  ·exact(fT T' r).new
  ·exact yY I.sz r
 have fT':H' T'=none:=by
  rcases hT with r | r
  ·exact hTn T' r
  ·exact I.hok.fresh r
 have ok2:=NP I.hok k fe.no hTn I.Jc
 have ne:∀b o,s.heap.get? b=some o->b≠e/\some b≠T:=λb o q=>⟨λz=>absurd (yA (zS q) (z▸fe.new)) (wS _),λz=>absurd (yA (zS q) (fT b z.symm).new) (wS _)⟩
 have nL:∀b o,s.heap.get? b=some o->b≠s.heap.objs.size:=λb o q=>xD (zS q)
 refine⟨e,C,dx,T',H',rfl,I.os,I.bare,⟨λb o q n hb _=> ?_,λb o q n hb _=> ?_,λb o q n _=>I.base.free b o q n (by simp[vY]),λb o q _=> ?_,I.base.tups,I.base.tY,I.base.vp⟩,ok2,x',fe.new,nT,fe.no,fT',hE C dx σ H' hW⟩
 ·obtain⟨n1,n2⟩:=ne b o q
  refine k.2.1 b o n1 n2 (λz=> ?_) (I.base.keep b o q n hb (by simp[vY]))
  rcases List.mem_cons.mp (I.Ow b z)with y | y
  ·exact nL b o q y
  ·exact hb y
 ·obtain⟨n1,n2⟩:=ne b o q
  obtain⟨sl,q1⟩:=I.base.slot b o q n hb (by simp[vY])
  obtain⟨sl2,q2⟩:=k.2.2 b _ n1 n2 q1
  exact⟨sl2,q2⟩
 ·obtain⟨n1,n2⟩:=ne b o q
  obtain⟨o1,q1⟩:=I.base.there b o q (by simp[vY])
  obtain⟨sl2,q2⟩:=k.2.2 b _ n1 n2 q1
  exact⟨_,q2⟩
end L2
namespace L2
section
open PySem
variable{M:Model}{A:Around}{E:Value->Shared->Prop}{env:Env}
variable{nm q:Str}{C N:Addr}{bs bm:List Value}{hdct:Bool}{sn:List Str}{sub:List Value}{ab:Bool}{col:Option Bool}{dd:Option Addr}{k0 k1 k2 k3 k5:Option Value}{newId:String}
theorem Q_{Q:Flow->Shared->Prop}(hbase:bm.contains (.type "BaseException")=true)(hh:A.handled=none)
  (h:wpAny M A x (λv s₁=>∃e dx vs,v= .ref e/\s₁.heap.get? C=some (excClassObj nm q C N bs bm hdct sn sub ab col dd k0 k1 k2 k3 k5 newId)/\
   s₁.heap.get? e=some {cls:= .ref C,dict:=dx,data:= .fields vs}/\vs[1]? = some .none/\E (.ref e) s₁) E s):
  wpAny M A (raiseStmt env (some x) none) Q E s:=by
 have hcB:(Value.ref C::bm).contains (.type "BaseException")=true:=by rw[List.contains_cons,hbase,Bool.or_true]
 unfold raiseStmt
 refine zC (vE h (λv s₁ h₁=> ?_) λ_ _ x=>x)
 obtain⟨e,dx,vs,rfl,hC,he,h1,hE⟩:=h₁
 obtain⟨hp,g,d,tk,os⟩:=s₁
 have hfl:∀{Q:Unit->Shared->Prop},Q .unit ⟨hp,g,d,tk,os⟩->wpAny M A (setFlight (.ref e) none) Q E ⟨hp,g,d,tk,os⟩:=λhQ=>by
  unfold setFlight
  refine zC (vS he rfl h1 ?_)
  rw[if_neg (by decide)]
  exact zI hQ
 repeat (first | with_reducible refine wpAny_loadPart_at he ?_ | with_reducible refine wpAny_loadPart_at hC ?_ | (with_reducible refine wpAny_isSubtype_exc hC ?_;rw[hcB]) | with_reducible refine hfl ?_ | wp_step)
 exact wpAny_raiseNew_none hh hE
end
section
open PySem PySem.Spec PyProof.Rows
variable{X:Cx}{k:Nat}{f C:Addr}{fd:FuncData}{ps:List Str}{g:Str}{x:Str}{np cpos pos:Pos}{arg:Expr}{ta:TA}{W:bA}
theorem Zc{H:Hp}{x dx:Addr}{o1 o2 o3:HO}(hx:H x=none)(ne:dx≠x):drop (upd (upd (upd H x o1) dx o2) x o3) x=upd H dx o2:=by
 funext b
 unfold drop upd
 by_cases z:b=x
 ·subst z;rw[if_pos rfl,if_neg (Ne.symm ne),hx]
 ·rw[if_neg z,if_neg z]
  by_cases z2:b=dx
  ·rw[if_pos z2,if_pos z2]
  ·rw[if_neg z2,if_neg z2,if_neg z]
def af9(C:Addr)(g:Str)(W:bA)(ta:TA):TS:=λ_ σ H=>ta σ H λvs H1=>∃y,vs=[y]/\∀dx,H1 dx=none->W C dx σ (upd H1 dx (.xd [(g,y)]))
theorem aaX(M:XMk X.K C f)(hX:Mz X.K C g)(F:gw X.prog X.w X.K X.mg X.base VV k f fd ps (Bj X.K g))(hr:gm (k+1) X.A)(hb:Binds X.K fd ps [])(hg:Gl X x)(hm:X.mg x=some (.ref C))(hc:X.calm=true)
  (hW:∀ev s,ig X W ev s->X.xe ev s) (ha:PA X [arg] ta) (hdb:(x==("__debug__" : Str))=false:=by decide) (he:starEach [arg] X.env=[(false,eval arg X.env)]:=by rfl):
  PS X (.Raise (some (.Call (.Name x np) [arg] [] cpos)) none pos) (af9 C g W ta):=by
 intro pins s σ H D I h
 obtain⟨nm,q,N,bs,bm,hdct,sn,sub,ab,col,dd,k0,k1,k2,k3,k5,hC,hT,hB⟩:=M.obj
 rw[arm_exec_Raise]
 refine zC (wpAny_standAt (Q_ (C:=C) (nm:=nm) (q:=q) (N:=N) (bs:=bs) (bm:=bm) (hdct:=hdct) (sn:=sn) (sub:=sub) (ab:=ab) (col:=col) (dd:=dd) (k0:=k0) (k1:=k1) (k2:=k2) (k3:=k3) (k5:=k5) (newId:= "ValueError.__new__") hB (I.ok.hd hc) ?_))
 have main:wpAny (model X.prog X.w) X.A (eval (.Call (.Name x np) [arg] [] cpos) X.env) (EP X pins σ λv H3=>∃e dx y H1,v= .ref e/\H1 e=none/\H1 dx=none/\dx≠e/\X.s₀.heap.objs.size<=e/\(∀p∈X.pn++pins,p.1≠e)/\H3=upd (upd (upd H1 e (xO e C none)) dx (.xd [(g,y)])) e (xO e C (some dx))/\W C dx σ (upd H1 dx (.xd [(g,y)]))) X.xe s:=by
  refine wpAny_Call_Name_kw (Fp I hg hm ?_ hdb)
  refine PySem.W.callWith_K (h₀:=X.base) I.ok.mod.kin M.kp (fP (ha cpos pins s σ H _ I h) ?_) he rfl
  rintro us s1 ⟨vs,H1,I1,r,y,ev,q⟩
  refine⟨I1.Hr,?_⟩
  subst ev
  cases r with
  | cons r1 r2=>
   cases r2
   refine Yl M hX F hr hb I1 r1 λe dx n1 n2 ne hs=>⟨e,dx,y,H1,rfl,n1,n2,ne,yY I1.sz hs,λp hp z=> ?_,rfl,q dx n2⟩
   have:=zS (I1.pin p hp).1
   rw[z]at this
   exact absurd (yA this hs) (wS _)
 refine zC (fP main ?_)
 rintro v s1 ⟨vv,H3,I3,rv,e,dx,y,H1,ev,n1,n2,ne,sz,pn,eH,hw⟩
 refine zC (wpAny_standAt (zI ?_))
 subst ev eH
 obtain rfl:v=Value.ref e:=rv
 have x0:Exc s1.heap e C (some dx) none .none:=ae3 (I3.hok e _ bB)
 obtain⟨vs,hat,h1⟩:=x0.at_
 refine⟨e,some dx,vs,rfl,I3.Hr _ _ hC,hat,h1,hW _ _ ⟨e,C,dx,none,.none,pins,σ,_,rfl,I3.akz bB,x0,.inl rfl,⟨N6,sz,pn⟩,(λt z=>by cases z),?_⟩⟩
 rw[Zc n1 ne]
 exact hw
end
end L2
namespace L2
open PySem PySem.Spec PyProof.Rows
section
variable{X:Cx}{pins:List (Addr×Obj)}{σ:St}{H:Hp}{s:Shared}{e C:Addr}{dx T:Option Addr}{fl:Value}{h':Heap}{W:bA}
theorem Inv.Gq(I:Inv X pins σ H s)(h:s.heap.get? a=some o)(d:o.data= .fields vs):a≠X.env.locals/\∀x c,X.env.cells.lookup x=some c->c≠a:=by
 refine⟨λz=> ?_,λx c hc z=> ?_⟩
 ·obtain⟨m,⟨o',es,ep,ho,hd,_⟩,_⟩:=I.loc
  subst z
  rw[ho]at h;cases h;rw[hd]at d;cases d
 ·obtain⟨v,o',ho,hd⟩:=I.cell x c hc
  subst z
  rw[ho]at h;cases h;rw[hd]at d;cases d
theorem Inv.MJ(I:Inv X pins σ H s)(x:Exc s.heap e C dx T fl)(fe:Bc X pins H e)(fT:∀t,T=some t->Bc X pins H t)(k:oA (frs X.stack) e T s.heap h')(hE:∃o,h'.get? e=some o)(hTt:∀t,T=some t->∃o,h'.get? t=some o):
  Inv X pins σ H {s with heap:=h'}:=by
 obtain⟨vs,he,hT⟩:=x.at_
 have ok2:=NP I.hok k fe.no (λt z=>(fT t z).no) I.Jc
 refine I.call (t':=s.toks) (g':=s.gens) (d':=s.drawn) (ch:=e::T.toList) ⟨λb o q n hb hc=> ?_,λb o q n hb hc=> ?_,λb o q n _=>n,λb o q hc=> ?_,λ_ _ q=>q,λ_ _ _ q=>q,λb ps q=>⟨#[],by rw[q];simp⟩⟩ ok2 I.bare λb hb=> ?_
 ·simp at hc
  exact k.2.1 b o hc.1 (λz=>hc.2 z.symm) hb q
 ·simp at hc
  exact k.2.2 b o hc.1 (λz=>hc.2 z.symm) q
 ·simp at hc
  obtain⟨sl,z⟩:=k.2.2 b o hc.1 (λz=>hc.2 z.symm) q
  exact⟨_,z⟩
 ·simp at hb
  rcases hb with rfl | hb
  ·exact⟨.inr fe.new,(I.Gq he rfl).1,(I.Gq he rfl).2,fe.pin⟩
  ·subst hb
   obtain⟨_,_,oT,ts,hoT,hd,_⟩:=hT
   exact⟨.inr (fT b rfl).new,(I.Gq hoT hd).1,(I.Gq hoT hd).2,(fT b rfl).pin⟩
theorem oA.mono(k:oA fs e T h h')(hs:∀b∈fs,b∈fs'):oA fs' e T h h':=⟨k.1,λb o n1 n2 n3 q=>k.2.1 b o n1 n2 (λz=>n3 (hs b z)) q,k.2.2⟩
theorem Exc.here(x:Exc h' e C dx T fl):(∃o,h'.get? e=some o)/\∀t,T=some t->∃o,h'.get? t=some o:=by
 obtain⟨vs,he,hT⟩:=x.at_
 refine⟨⟨_,he⟩,λt z=> ?_⟩
 subst z
 obtain⟨_,_,oT,_,hoT,_⟩:=hT
 exact⟨oT,hoT⟩
theorem ig.Yv(hst:X.stack=X.env::X.outer)(hf:X.env.frame=some X.env.locals)(hA:A.frames=some X.stack):∀ev s',ig X W ev s'->wpAny (model X.prog X.w) A (noteFrame ev X.env) (λ_ s2=>cameBackBy (model X.prog X.w) X.A X.env (ig X W) ev s2) (cameBackBy (model X.prog X.w) X.A X.env (ig X W)) s':=by
 rintro ev s' ⟨e,C,dx,T,fl,pins,σ,H,rfl,I,x,hfl,fe,fT,hW⟩
 have abQ:=I.stack
 rw[hst]at abQ
 refine Ur (by rw[hA,hst]) abQ hf x hfl λh1 T1 hT1 k1 x1=> ?_
 have fT1:Bc X pins H T1:=by
  rcases hT1 with r | r
  ·exact fT T1 r
  ·refine⟨I.hok.fresh r,yY I.sz r,λp hp z=> ?_⟩
   have:=zS (I.pin p hp).1
   rw[z]at this
   exact absurd (yA this r) (wS _)
 have hTt:∀t,T=some t->∃o,h1.get? t=some o:=λt z=>by
  obtain⟨o,q⟩:=x.here.2 t z
  exact k1.1.2 t o q
 have I1:=I.MJ x fe fT (k1.mono (by rw[hst];exact λb z=>z)) x1.here.1 hTt
 unfold cameBackBy
 obtain⟨vs,he,h2,_⟩:=x1.at_
 refine zC (vS he rfl h2 ?_)
 rw[if_neg (by simp)]
 refine yU (s:={s' with heap:=h1}) x1 λh2 k2 x2=>⟨e,C,dx,some T1,_,pins,σ,H,rfl,I1.MJ x1 fe (λt z=>by cases z;exact fT1) (k2.mono (by simp)) x2.here.1 x2.here.2,x2,.inr (by rw[hf];rfl),fe,λt z=>by cases z;exact fT1,hW⟩
end
def Tk(X:Cx)(W:bA):Prop:=∀ev s,ig X W ev s->X.xe ev s
def EW(W:bA)(σ:St):XK:=λcv dxo H'=>∃C dx,cv=Value.ref C/\dxo=some dx/\W C dx σ H'
theorem ig.lM(h:ig (X.wish (ig X W)) W' ev s):ig X W' ev s:=by
 obtain⟨e,C,dx,T,fl,pins,σ,H,ee,I,x,hfl,fe,fT,hW⟩:=h
 exact⟨e,C,dx,T,fl,pins,σ,H,ee,I.lM,x,hfl,⟨fe.no,fe.new,fe.pin⟩,λt z=>⟨(fT t z).no,(fT t z).new,(fT t z).pin⟩,hW⟩
theorem Tk.wish{X:Cx}{W:bA}:Tk (X.wish (ig X W)) W:=λ_ _ h=>h.lM
section
variable{X:Cx}{k:Nat}{f C:Addr}{fd:FuncData}{ps:List Str}{sp:Sp}{yH:List V}{ds:List Value}{W:bA}{x m:Str}{p pos apos:Pos}{e o:Expr}{es:List Expr}{ta:TE}{t:TA}
theorem Pa(F:gw X.prog X.w X.K X.mg X.base (DK X.prog X.w) k f fd ps sp)(hr:gm k X.A)(hb:Binds X.K fd ps ds)(hd:Vals yH ds)(hx:Tk X W)
  (I:Inv X pins σ H s) (r:Vals vs us) (h:sp (vs++yH) H Q (EW W σ)):wpAny (model X.prog X.w) X.A (call (.ref f) us) (EP X pins σ Q) X.xe s:=by
 have r2:=r.append hd
 have hl:(us++ds).length=ps.length:=by rw[<-r2.length];exact F.len _ _ _ _ h
 refine wpAny_call (codeAny_mono (F.run X.A X.stack s H ⟨us,[]⟩ (us++ds) (vs++yH) Q _ hr I.env0 (hb s us I.Hr hl) r2 h) λr s' hq=> ?_)
 match r,hq with
 | .error e,hq=>exact hx _ _ (ig.WR I hq λC dx H' ⟨C',dx',e1,e2,w⟩=>by cases e1;cases e2;exact w)
 | .ok (.ret u),hq=>exact I.after hq
def aai(sp:Sp)(yH:List V)(W:bA)(t:TA):TE:=λσ H Q=>t σ H λvs H1=>sp (vs++yH) H1 Q (EW W σ)
theorem abb(F:gw X.prog X.w X.K X.mg X.base (DK X.prog X.w) k f fd ps sp)(hr:gm k X.A)(hg:Gl X x)(hm:X.mg x=some (.ref f))(hk:keepIn X.K (.ref f)=true)(hb:Binds X.K fd ps ds)(hd:Vals yH ds)(hx:Tk X W)
  (ha:PA X (e::es) t) (hdb:(x==("__debug__" : Str))=false:=by decide) (he:starEach (e::es) X.env=(false,eval e X.env)::starEach es X.env:=by rfl) (hpl:(backTo pos (starEach es X.env)).any (·.1)=false:=by rfl):
  PE X (.Call (.Name x p) (e::es) [] pos) (aai sp yH W t):=by
 intro pins s σ H Q I h
 exact wpAny_Call_Name_kw (Fp I hg hm (PySem.W.callWith_K (h₀:=X.base) I.ok.mod.kin hk (fP (ha pos pins s σ H _ I h) λus s1 ⟨vs,H1,I1,r,q⟩=>⟨I1.Hr,Pa F hr hb hd hx I1 r q⟩) he hpl) hdb)
def UJ(C:Addr)(m:Str)(sp:Sp)(yH:List V)(W:bA)(ta:TE)(t:TA):TE:=λσ H Q=>ta σ H λx H1=>∃a dx fs,x= .ref a/\H1 a=some (.ins C dx fs)/\fs.lookup m=none/\t σ H1 λvs H2=>sp (x::(vs++yH)) H2 Q (EW W σ)
theorem aa5(he:PE X o ta)(c:Lz X.K C)(hm:Meth X.K C m f)(F:gw X.prog X.w X.K X.mg X.base (DK X.prog X.w) k f fd ps sp)(hr:gm k X.A)(hb:Binds X.K fd ps ds)(hd:Vals yH ds)(hx:Tk X W)(ha:PA X (e::es) t)
  (hst:starEach (e::es) X.env=(false,eval e X.env)::starEach es X.env:=by rfl) (hpl:(backTo pos (starEach es X.env)).any (·.1)=false:=by rfl)
  (ht:eval (.Call (.Attribute o m apos) (e::es) [] pos) X.env=(do
   let ov <-eval o X.env
   standAt apos.atName
   let(f,first) <-holding [ov] (getMethod ov m pl)
   callWith pos f first (backTo pos (starEach (e::es) X.env)) (backToKw pos (keywordEach [] X.env))):=by rfl):
  PE X (.Call (.Attribute o m apos) (e::es) [] pos) (UJ C m sp yH W ta t):=by
 intro pins s σ H Q I h
 refine PySem.W.methodCall_KW (pl:=pl) (fP (he pins s σ H _ I h) ?_) ht
 rintro u s1 ⟨x,H1,I1,rx,a,dx,fs,ex,ea,l,q⟩
 subst ex
 obtain rfl:u=Value.ref a:=rx
 refine KY I1 ea c hm l ?_
 exact PySem.W.callWith_K (h₀:=X.base) (first:=[.ref a]) I1.ok.mod.kin hm.kp (fP (ha pos pins s1 σ H1 _ I1 q) λus s2 ⟨vs,H2,I2,r,q2⟩=>⟨I2.Hr,Pa (us:= .ref a::us) (vs:= .ref a::vs) F hr hb hd hx I2 (.cons rfl r) q2⟩) hst hpl
theorem Ys(he:PE X o ta)(c:Lz X.K C)(hm:Meth X.K C m f)(F:gw X.prog X.w X.K X.mg X.base (DK X.prog X.w) k f fd ps sp)(hr:gm k X.A)(hb:Binds X.K fd ps ds)(hd:Vals yH ds)(hx:Tk X W)
  (ht:eval (.Call (.Attribute o m apos) [] [] pos) X.env=(do
   let ov <-eval o X.env
   standAt apos.atName
   let(f,first) <-holding [ov] (getMethod ov m pl)
   callWith pos f first (backTo pos (starEach [] X.env)) (backToKw pos (keywordEach [] X.env))):=by rfl):
  PE X (.Call (.Attribute o m apos) [] [] pos) (UJ C m sp yH W ta afW):=by
 intro pins s σ H Q I h
 refine PySem.W.methodCall_KW (pl:=pl) (fP (he pins s σ H _ I h) ?_) ht
 rintro u s1 ⟨x,H1,I1,rx,a,dx,fs,ex,ea,l,q⟩
 subst ex
 obtain rfl:u=Value.ref a:=rx
 exact KY I1 ea c hm l (PySem.W.callWith_K0 (first:=[.ref a]) I1.Hr hm.kp (Pa (us:=[.ref a]) (vs:=[.ref a]) F hr hb hd hx I1 (.cons rfl .nil) q))
end
theorem yJ.okX{P:Program}{w:World}{K:Frag}{mg:Str->Option Value}{base:Heap}{x qual:Str}{st:Stmt}{dV:Value}{f:Addr}{fd:FuncData}{N ps:List Str}{k:Nat}{sp:Sp}(F:yJ K x qual st dV f fd)(S:pL N ps (aZ st))(len:∀vs H Q E,sp vs H Q E->vs.length=ps.length)
  (hbody:∀(cdv:Value) (A:Around) (outer:List Env) (s:Shared) (H:Hp) (vs:List V) (Q:VK) (E:XK),gm k (A.deeper (envOfC qual (aZ st) s.heap.objs.size f cdv))->sp vs H Q E->
   ∃t W,(∀C dx σ H',W C dx σ H'->E (.ref C) (some dx) H')/\IV ((vY (DK P w) P w K mg base N qual (aZ st) f cdv A outer s H E).wish (ig (vY (DK P w) P w K mg base N qual (aZ st) f cdv A outer s H E) W)) (cY st) t/\t {nx:=λ_ H'=>gcK H Q .non H',rt:=gcK H Q} (start N vs) H):
  gw P w K mg base (DK P w) (k+1) f fd ps sp:=by
 obtain⟨oc,od,kV,doc,pm,an,cdv,ct,osl,rfl,lk,hcd⟩:=F.ex
 refine gw.gc (sp:=λvs H Q' E=>∃Q,sp vs H Q E/\Q'=gcK H Q) (ab8 lk hcd S (λvs H Q E ⟨Q0,q,_⟩=>len vs H Q0 E q) λA outer s H vs Q' E hr hsp=> ?_) λvs H Q E q=>⟨Q,q,rfl⟩
 obtain⟨Q,hsp,rfl⟩:=hsp
 obtain⟨t,W,hE,h,q⟩:=hbody cdv A outer s H vs Q E hr hsp
 refine⟨t,λpins s1 σ H1 D I h1=> ?_,q⟩
 exact vE (h pins s1 σ H1 D (I.wish _) h1) (λ_ _ z=>z.lM) λ_ _ z=>z.leave hE
abbrev Cx.pp(X:Cx)(pins:List (Addr×Obj)):Cx:={X with pn:=X.pn++pins}
abbrev Cx.held(X:Cx)(e:Addr):Cx:={X with A:=X.A.mark (some (.ref e)),calm:=false,xe:=λ_ _=>False}
section
variable{X:Cx}{pins zE:List (Addr×Obj)}{σ:St}{H:Hp}{s:Shared}{e:Addr}
theorem Inv.pp(I:Inv X (pins++zE) σ H s):Inv (X.pp pins) zE σ H s:=
 ⟨⟨I.ok.mod,I.ok.kind,I.ok.glob,I.ok.blt,I.ok.above,I.ok.inj,I.ok.has,I.ok.cab,I.ok.hd,I.ok.frames,I.ok.stk,I.ok.exf,I.ok.bs,I.ok.XD,I.ok.Ss,I.ok.Tu,I.ok.Al,I.ok.frf⟩,I.os,I.bare,I.base,I.loc,I.cell,I.free,I.jZ,λp hp=>I.pin p (by rw[<-List.append_assoc];exact hp),I.hok,I.len⟩
theorem Inv.aiH(I:Inv (X.pp pins) zE σ H s):Inv X (pins++zE) σ H s:=
 ⟨⟨I.ok.mod,I.ok.kind,I.ok.glob,I.ok.blt,I.ok.above,I.ok.inj,I.ok.has,I.ok.cab,I.ok.hd,I.ok.frames,I.ok.stk,I.ok.exf,I.ok.bs,I.ok.XD,I.ok.Ss,I.ok.Tu,I.ok.Al,I.ok.frf⟩,I.os,I.bare,I.base,I.loc,I.cell,I.free,I.jZ,λp hp=>I.pin p (by rw[<-List.append_assoc]at hp;exact hp),I.hok,I.len⟩
theorem Inv.fewer(I:Inv X (pins++zE) σ H s):Inv X pins σ H s:=⟨I.ok,I.os,I.bare,I.base,I.loc,I.cell,I.free,I.jZ,λp hp=>I.pin p (by rw[<-List.append_assoc];exact List.mem_append_left _ hp),I.hok,I.len⟩
theorem Inv.held(I:Inv X pins σ H s)(e:Addr):Inv (X.held e) pins σ H s:=
 ⟨⟨I.ok.mod,I.ok.kind,I.ok.glob,I.ok.blt,I.ok.above,I.ok.inj,I.ok.has,I.ok.cab,(λz=>by cases z),I.ok.frames,I.ok.stk,I.ok.exf,I.ok.bs,I.ok.XD,I.ok.Ss,I.ok.Tu,I.ok.Al,I.ok.frf⟩,I.os,I.bare,I.base,I.loc,I.cell,I.free,I.jZ,I.pin,I.hok,I.len⟩
theorem Inv.Z2(ok:X.Ok)(I:Inv (X.held e) pins σ H s):Inv X pins σ H s:=⟨ok,I.os,I.bare,I.base,I.loc,I.cell,I.free,I.jZ,I.pin,I.hok,I.len⟩
theorem SP.map(g:∀σ H,Inv X' zE σ H s'->Inv X pins σ H s')(h:SP X' zE D f s'):SP X pins D f s':=by
 cases f with
 | next=>obtain⟨σ',H',I,q⟩:=h;exact⟨σ',H',g _ _ I,q⟩
 | brk=>obtain⟨σ',H',I,q⟩:=h;exact⟨σ',H',g _ _ I,q⟩
 | cont=>obtain⟨σ',H',I,q⟩:=h;exact⟨σ',H',g _ _ I,q⟩
 | ret u=>obtain⟨v,σ',H',I,r,q⟩:=h;exact⟨v,σ',H',g _ _ I,r,q⟩
end
def xmW(K:Frag)(cv:Value)(W:bA)(th:St->Hp->Prop):bA:=λC dx σ H=>∃b,exmOne K (.ref C) cv=some b/\(if b=true then th σ H else W C dx σ H)
section
variable{X:Cx}{W:bA}{c:Str}{cp hpos pos:Pos}{b₀:Stmt}{suite body:List Stmt}{tb:bA->TS}{ts:TS}{cv:Value}{v:V}
theorem Exc.typ(x:Exc h e C dx T fl):PySem.W.Looks M h (typeOf (.ref e)) (.ref C):=by
 obtain⟨vs,he,_⟩:=x.at_
 intro A Q E s k q
 exact zC (wpAny_loadPart (k _ _ he) (zI q))
theorem adH(hst:X.stack=X.env::X.outer)(hf:X.env.frame=some X.env.locals)(hx:Tk X W)(hv:∀u,RelV v u->u=cv)(hn:∀e,PE (X.held e) (.Name c cp) (tC v))
  (hb:∀pins W1,IV ((X.pp pins).wish (ig (X.pp pins) W1)) body (tb W1)) (hs:∀e,IV (X.held e) (b₀::suite) ts):
  PS X (.Try body [.ExceptHandler (some (.Name c cp)) none (b₀::suite) hpos] [] [] pos) (λD σ H=>tb (xmW X.K cv W (ts D)) D σ H):=by
 intro pins s σ H D I h
 have ok:=I.ok
 refine wpAny_Try_except (vE (hb pins (xmW X.K cv W (ts D)) [] s σ H D (Inv.wish (Inv.pp (zE:=[]) (by rw[List.append_nil];exact I)) _) h) (λf s1 h1=> ?_) λev s1 h1=> ?_)
 ·have h2:SP X pins D f s1:=SP.map (λσ H z=>z.lM.aiH.fewer) h1
  cases f with
  | next=>exact wpAny_execs_nil h2
  | brk=>exact h2
  | cont=>exact h2
  | ret u=>exact h2
 ·obtain⟨e,C,dx,T,fl,R7,σ',H',rfl,I1,x,hfl,fe,fT,hW⟩:=h1
  have J1:=I1.aiH
  have abQ:=J1.stack
  rw[hst]at abQ
  have cv1:∀{a},Bc (X.pp pins) R7 H' a->Bc X (pins++R7) H' a:=λz=>⟨z.no,z.new,λp hp=>z.pin p (by rw[<-List.append_assoc]at hp;exact hp)⟩
  have fe':=cv1 fe
  have fT':∀t,T=some t->Bc X (pins++R7) H' t:=λt z=>cv1 (fT t z)
  refine Ur (by rw[J1.ok.frames,hst]) abQ hf x hfl λh1 T1 hT1 k1 x1=> ?_
  have fT1:Bc X (pins++R7) H' T1:=by
   rcases hT1 with r | r
   ·exact fT' T1 r
   ·refine⟨J1.hok.fresh r,yY J1.sz r,λp hp z=> ?_⟩
    have:=zS (J1.pin p hp).1
    rw[z]at this
    exact absurd (yA this r) (wS _)
  have I2:=J1.MJ x fe' fT' (k1.mono (by rw[hst];exact λb z=>z)) x1.here.1 λt z=>let⟨o,q⟩:=x.here.2 t z;k1.1.2 t o q
  refine yU (fr:=none) (s:={s1 with heap:=h1}) x1 λh2 k2 x2=> ?_
  have I3:=I2.MJ x1 fe' (λt z=>by cases z;exact fT1) (k2.mono (by simp)) x2.here.1 x2.here.2
  obtain⟨vs2,he2,h12,ano,oT,ts2,hoT,hdT,h32⟩:=x2.at_
  have nfs:∀{a:Addr} {o:Obj} {vs:Array Value},h2.get? a=some o->o.data= .fields vs->a∉X.fs:=λq d hm=>by
   obtain⟨_,o',ho',hd'⟩:=I3.Al.mem hm
   have q':h2.get? _=some o':=ho'
   rw[q]at q';cases q';exact hd' _ d
  have I4:Inv X (pins++[(e,{cls:= .ref C,dict:=some dx,data:= .fields vs2}),(T1,oT)]) σ' H' {s1 with heap:=h2}:=I3.wQ λp hp=>by
   rcases List.mem_append.mp hp with z | z
   ·exact I3.pin p (xE _ (List.mem_append_left _ z))
   ·simp at z
    rcases z with rfl | rfl
    ·exact⟨he2,fe'.no,(I3.Gq he2 rfl).1,nfs he2 rfl,λv z=>by cases z⟩
    ·exact⟨hoT,fT1.no,(I3.Gq hoT hdT).1,nfs hoT hdT,λv z=>by rw[hdT]at z;cases z⟩
  obtain⟨b,hm,hif⟩:=hW
  have fw:∀{a},Bc X (pins++R7) H' a->Bc (X.held e) pins H' a:=λz=>⟨z.no,z.new,λp hp=>z.pin p (by rw[<-List.append_assoc];exact List.mem_append_left _ hp)⟩
  refine wpAny_handleBy_cons (codeAny_handlers_test (vE (hn e _ _ σ' H' (λv' Um=>v'=v/\Um=H') (I4.held e) ⟨rfl,rfl⟩) (λc' s3 ⟨v',Um,I5,rv,e1,e2⟩=> ?_) λ_ _ z=>z.elim)) (by intro q;cases q)
  subst e1 e2
  obtain rfl:=hv c' rv
  have x5:Exc s3.heap e C (some dx) (some T1) .none:=⟨vs2,(I5.pin (e,_) (by simp)).1,h12,ano,oT,ts2,(I5.pin (T1,oT) (by simp)).1,hdT,h32⟩
  refine PySem.W.Looks.here (s:=s3) (PySem.W.exm_one I5.Hr x5.typ hm) ?_
  cases b with
  | true=>
   refine codeAny_handlers_suite (yU (fr:=none) x5 λh6 k6 x6=> ?_)
   have I6:=(I5.fewer).MJ x5 (fw fe') (λt z=>by cases z;exact fw fT1) (k6.mono (by simp)) x6.here.1 x6.here.2
   refine vE (hs e pins _ σ' Um D I6 hif) (λf s7 z=> ?_) λ_ _ z=>z.elim
   exact SP.map (λ_ _ y=>y.Z2 ok) z
  | false=>
   refine wpAny_handleBy_nil ?_
   unfold PySem.passOn
   obtain⟨vs5,he5,h15,_⟩:=x5.at_
   refine zC (vS he5 rfl h15 ?_)
   rw[if_neg (by simp)]
   refine zC (yU x5 λh6 k6 x6=>wpAny_throw (hx _ _ ⟨e,C,dx,some T1,_,pins,σ',Um,rfl,?_,x6,.inr (by rw[hf];rfl),⟨fe'.no,fe'.new,(fw fe').pin⟩,λt z=>by cases z;exact⟨fT1.no,fT1.new,(fw fT1).pin⟩,hif⟩))
   exact((I5.fewer).MJ x5 (fw fe') (λt z=>by cases z;exact fw fT1) (k6.mono (by simp)) x6.here.1 x6.here.2).Z2 ok
end
abbrev xC(a C dx:Addr):HO:= .ext λh=>∃vs,h.get? a=some {cls:= .ref C,dict:=some dx,data:= .fields vs}
section
variable{X:Cx}{pins:List (Addr×Obj)}{σ:St}{H:Hp}{s:Shared}{h':Heap}{t':Nat}
theorem Inv.locals(I:Inv X pins σ H s)(hsb:Heap.SameBut X.env.locals s.heap h')(loc:∃m,h'.Ns X.env.locals m/\∀(i:Nat) (x:Str) (v:V),X.N[i]? = some x->σ[i]? = some (some v)->Vis X.env.scope x->∃u,RelV v u/\Look X.env h' m x u):
  Inv X pins σ H {s with heap:=h',toks:=t'}:=by
 have nL:∀b o,X.s₀.heap.get? b=some o->b≠X.env.locals:=λb o q=>xD (yA (zS q) I.ok.above)
 refine⟨I.ok,I.os,I.bare,⟨λb o q n hb hx=>(hsb.2 b (nL b o q)).trans (I.base.keep b o q n hb hx),λb o q n hb hx=> ?_,I.base.free,λb o q hx=> ?_,I.base.tups,I.base.tY,I.base.vp⟩,loc,λx c q=> ?_,I.free,I.jZ,λp hp=> ?_,λb o q=> ?_,I.len⟩
 ·obtain⟨sl,z⟩:=I.base.slot b o q n hb hx
  exact⟨sl,(hsb.2 b (nL b o q)).trans z⟩
 ·obtain⟨o',z⟩:=I.base.there b o q hx
  exact⟨o',(hsb.2 b (nL b o q)).trans z⟩
 ·obtain⟨v,o,ho,hd⟩:=I.cell x c q
  exact⟨v,o,(hsb.2 c (I.cne x c q)).trans ho,hd⟩
 ·obtain⟨z1,z2,z3,z4⟩:=I.pin p hp
  exact⟨(hsb.2 p.1 z3).trans z1,z2,z3,z4⟩
 ·have nl:∀b u,H b=some u->b≠X.env.locals:=λb u z y=>by rw[y,I.free]at z;cases z
  refine(I.hok b o q).stay (λb' u hb z=> ?_) (λ_ z=>z) λ_ _ z=>z
  rcases hb with rfl | hb
  ·exact(hsb.2 _ (nl _ _ q)).trans z
  ·exact(hsb.2 _ (nl _ _ hb)).trans z
end
structure XIs(K:Frag)(C:Addr):Prop where
 gn:findIn K (.ref C) "__getattr__" = some none
 ca:findIn K (.ref C) "__class__" = some (some (.builtin "object.__class__"))
 hn:PySem.W.specialIn K (.builtin "object.__class__") "__get__" = some (some (.builtin "getset_descriptor.__get__"))
 tk:PySem.W.takesIn K (.builtin "object.__class__")=some true
 mr:PySem.W.mroIn K C (.type "object")=some true
section
variable{X:Cx}{k:Nat}{f C:Addr}{fd:FuncData}{ps:List Str}{sp:Sp}{yH:List V}{ds:List Value}{W:bA}{x:Str}{p pos:Pos}{e:Expr}{es:List Expr}{t:TA}
def UL(C:Addr)(sp:Sp)(yH:List V)(W:bA)(t:TA):TE:=λσ H Q=>t σ H λvs H1=>∀x dx,H1 x=none->H1 dx=none->dx≠x->
 sp (.ref x::(vs++yH)) (upd (upd H1 dx (.own x)) x (.ins C dx [])) (λv H2=>v= .non/\Q (.ref x) H2) (EW W σ)
theorem Nj(M:Mk X.K C f)(F:gw X.prog X.w X.K X.mg X.base (DK X.prog X.w) k f fd ps sp)(hr:gm (k+1) X.A)(hb:Binds X.K fd ps ds)(hd:Vals yH ds)
  (hx:Tk X W) (I:Inv X pins σ H s) (r:Vals vs us)
  (h:∀x dx,H x=none->H dx=none->dx≠x->sp (.ref x::(vs++yH)) (upd (upd H dx (.own x)) x (.ins C dx [])) (λv H2=>v= .non/\Q (.ref x) H2) (EW W σ)):
  wpAny (model X.prog X.w) X.A (call (.ref C) us) (EP X pins σ Q) X.xe s:=by
 have hq:=h (s.heap.objs.size+1) s.heap.objs.size (I.hok.fresh (Nat.le_succ _)) (I.hok.fresh (zab _)) (xD (Nat.lt_succ_self _))
 have I2:=Inv.made (C:=C) I
 have r2:Vals (V.ref (s.heap.objs.size+1)::(vs++yH)) (Value.ref (s.heap.objs.size+1)::(us++ds)):= .cons rfl (r.append hd)
 have hl:(Value.ref (s.heap.objs.size+1)::us++ds).length=ps.length:=by
  have e:=r2.length
  rw[F.len _ _ _ _ hq]at e
  exact e.symm
 refine wpAny_call (abu (f:=f) I.Hr M.makes M.init (beq_iff_eq.mp M.fn) (codeAny_mono (F.run _ X.stack _ _ ⟨Value.ref (s.heap.objs.size+1)::us,[]⟩ (Value.ref (s.heap.objs.size+1)::(us++ds)) _ _ _ (hr.make C us [])
  (I2.env0.make C us []) (hb _ (Value.ref (s.heap.objs.size+1)::us) I2.Hr hl) r2 hq) λr s' hq'=> ?_))
 match r,hq' with
 | .error e,hq'=>exact hx _ _ (ig.WR I2 hq' λC dx H' ⟨C',dx',e1,e2,w⟩=>by cases e1;cases e2;exact w)
 | .ok (.ret u),hq'=>
  obtain⟨v,H',I3,rv,ev,q3⟩:=I2.after hq'
  subst ev
  exact⟨rv,⟨V.ref (s.heap.objs.size+1),H',I3,rfl,q3⟩⟩
theorem aa6(M:Mk X.K C f)(F:gw X.prog X.w X.K X.mg X.base (DK X.prog X.w) k f fd ps sp)(hr:gm (k+1) X.A)(hg:Gl X x)(hm:X.mg x=some (.ref C))(hb:Binds X.K fd ps ds)(hd:Vals yH ds)(hx:Tk X W)
  (ha:PA X (e::es) t) (hdb:(x==("__debug__" : Str))=false:=by decide) (he:starEach (e::es) X.env=(false,eval e X.env)::starEach es X.env:=by rfl) (hpl:(backTo pos (starEach es X.env)).any (·.1)=false:=by rfl):
  PE X (.Call (.Name x p) (e::es) [] pos) (UL C sp yH W t):=λpins s σ H Q I h=>
 wpAny_Call_Name_kw (Fp I hg hm (PySem.W.callWith_K (h₀:=X.base) I.ok.mod.kin M.kp (fP (ha pos pins s σ H _ I h) λus s1 ⟨vs,H1,I1,r,q⟩=>⟨I1.Hr,Nj M F hr hb hd hx I1 r q⟩) he hpl) hdb)
theorem Yt(M:Mk X.K C f)(F:gw X.prog X.w X.K X.mg X.base (DK X.prog X.w) k f fd ps sp)(hr:gm (k+1) X.A)(hg:Gl X x)(hm:X.mg x=some (.ref C))(hb:Binds X.K fd ps ds)(hd:Vals yH ds)(hx:Tk X W)
  (hdb:(x==("__debug__" : Str))=false:=by decide):PE X (.Call (.Name x p) [] [] pos) (UL C sp yH W afW):=λpins s σ H Q I h=>
 wpAny_Call_Name_kw (Fp I hg hm (PySem.W.callWith_K0 I.Hr M.kp (Nj (us:=[]) M F hr hb hd hx I .nil h)) hdb)
end
section
variable{K:Frag}{nm q:Str}{C N:Addr}{bs bm:List Value}{sn:List Str}{sub:List Value}{ab:Bool}{col:Option Bool}{dd:Option Addr}{k0 k1 k2 k3 k5:Option Value}{newId:String}{name:Str}
theorem V1(lo:K.lookup C=some (excClassObj nm q C N bs bm true sn sub ab col dd k0 k1 k2 k3 k5 newId))(h1:bm.contains (.type "object")=true)(h2:bm.contains (.type "BaseException")=true)(h3:∀self,refuseLoop self "__setattr__" bm=pure .unit)
  (sa:findIn K (.ref C) "__setattr__" = some (some (.builtin "object.__setattr__"))) (ga:findIn K (.ref C) "__getattribute__" = some (some (.builtin "BaseException.__getattribute__"))) (no:findIn K (.ref C) name=some none):Mz K C name:=
 ⟨⟨_,by unfold PySem.W.clsIn;rw[lo],rfl,rfl,by rw[List.contains_cons,h1,Bool.or_true],by rw[List.contains_cons,h2,Bool.or_true],λself=>(refuseLoop_ref self _ C bm).trans (h3 self)⟩,sa,ga,no⟩
theorem ZQ(lo:K.lookup C=some (excClassObj nm q C N bs bm true sn sub ab col dd k0 k1 k2 k3 k5 newId))(h1:bm.contains (.type "object")=true)(gn:findIn K (.ref C) "__getattr__" = some none)(ca:findIn K (.ref C) "__class__" = some (some (.builtin "object.__class__")))
  (hn:PySem.W.specialIn K (.builtin "object.__class__") "__get__" = some (some (.builtin "getset_descriptor.__get__"))) (tk:PySem.W.takesIn K (.builtin "object.__class__")=some true):XIs K C:=
 ⟨gn,ca,hn,tk,by unfold PySem.W.mroIn PySem.W.clsIn;rw[lo];simp only[Option.bind_some];rw[if_neg (by simp),List.contains_cons,h1,Bool.or_true]⟩
theorem ZP(lo:K.lookup C=some (excClassObj nm q C N bs bm true sn sub ab col dd k0 k1 k2 k3 k5 "ValueError.__new__"))(h0:bm.contains (.type "ValueError")=true)(hA:bm.contains (.type "AttributeError")=false)(hN:bm.contains (.type "NameError")=false)(h2:bm.contains (.type "BaseException")=true)
  (init:findIn K (.ref C) "__init__" = some (some (.ref f))) (fn:isFn K (.ref f)=true) (kp:keepIn K (.ref C)=true):XMk K C f:=
 ⟨⟨nm,q,N,bs,bm,true,sn,sub,ab,col,dd,k0,k1,k2,k3,k5,lo,⟨h0,hA,hN⟩,h2⟩,init,fn,kp⟩
theorem Xc(lo:K.lookup C=some (excClassObj nm q C N bs bm true sn sub ab col dd k0 k1 k2 k3 k5 newId))(h:subIn K t (.ref C)=some b):PySem.W.kitCls K t (.ref C)=some b:=by
 unfold PySem.W.kitCls
 dsimp only
 rw[if_pos,h]
 unfold PySem.W.clsIn PySem.W.typeIn
 rw[lo]
 simp[lo]
theorem sub_self(lo:K.lookup C=some (excClassObj nm q C N bs bm true sn sub ab col dd k0 k1 k2 k3 k5 newId)):subIn K (.ref C) (.ref C)=some true:=by
 show PySem.W.mroIn K C (.ref C)=some true
 unfold PySem.W.mroIn PySem.W.clsIn
 rw[lo]
 simp
theorem V0(lo:K.lookup C=some (excClassObj nm q C N bs bm true sn sub ab col dd k0 k1 k2 k3 k5 newId))(h2:bm.contains (.type "BaseException")=true)(h:subIn K t (.ref C)=some b):exmOne K t (.ref C)=some b:=by
 unfold exmOne
 have e:subIn K (.ref C) (.type "BaseException")=some true:=by
  show PySem.W.mroIn K C _=some true
  unfold PySem.W.mroIn PySem.W.clsIn
  rw[lo]
  simp only[Option.bind_some]
  rw[if_neg (by simp),List.contains_cons,h2,Bool.or_true]
 rw[if_pos (by rw[e];simp)]
 exact Xc lo h
theorem W_(lo:K.lookup C=some (excClassObj nm q C N bs bm true sn sub ab col dd k0 k1 k2 k3 k5 newId))(h:subIn K t (.ref C)=some b):kitOne K t (.ref C)=some b:=by
 unfold kitOne
 split
 ·rename_i z
  have z':t= .ref C:=beq_iff_eq.mp z
  subst z'
  rw[sub_self lo]at h
  exact h
 ·exact Xc lo h
end
end L2
namespace L2
open PySem
theorem G_{bm:List Value}{cs:List Addr}(e:bm=cs.map Value.ref++[.type "ValueError",.type "Exception",.type "BaseException",.type "object"]):∀self,refuseLoop self "__setattr__" bm=pure .unit:=by
 subst e
 intro self
 induction cs with
 | nil=>rfl
 | cons c r ih=>simp only[List.map_cons,List.cons_append,refuseLoop_ref];exact ih
end L2
namespace L2
open PySem PySem.Spec PyProof.Rows
def amK:V->Option Int->Option Int->Hp->VK->Prop:=λx lo hi H Q=>∃u,x= .str u/\u.length<=sizeLine/\Q (.str (Txt.slice u lo hi)) H
theorem af4:SlR X amK:=by
 intro pins s σ H x v vl vu lo hi sl Q I rx hs pl pu h
 obtain⟨u,rfl,hz,q⟩:=h
 obtain⟨t,rfl⟩:=rx
 have fin:∀(t':Tok) (k:Nat),EP X pins σ Q (.str (Txt.slice u lo hi) t') {s with toks:=k}:=λt' k=>⟨.str _,H,I.tok k,⟨t',rfl⟩,q⟩
 refine⟨"str",_,F.slot_str_getitem.lookup,typeIs_str _ _ _,?_⟩
 cases pl with
 | none=>
  cases pu with
  | none=>exact wpAny_getItem_str_slice (l:=none) (u:=none) (st:=none) hs rfl (post_val_or_str ⟨yY (Txt.slice_le u _ _) hz,fin⟩)
  | int j uj=>exact wpAny_getItem_str_slice (l:=none) (u:=some (j,uj)) (st:=none) hs rfl (post_val_or_str ⟨yY (Txt.slice_le u _ _) hz,fin⟩)
 | int i ui=>
  cases pu with
  | none=>exact wpAny_getItem_str_slice (l:=some (i,ui)) (u:=none) (st:=none) hs rfl (post_val_or_str ⟨yY (Txt.slice_le u _ _) hz,fin⟩)
  | int j uj=>exact wpAny_getItem_str_slice (l:=some (i,ui)) (u:=some (j,uj)) (st:=none) hs rfl (post_val_or_str ⟨yY (Txt.slice_le u _ _) hz,fin⟩)
theorem Uz{n:Nat}(h:n<=1000000):Builtin.Str.tooLong n=false:=by
 unfold Builtin.Str.tooLong
 exact zaf (by have:(1000000:Nat)<=sizeLine:=(by decide);omega)
theorem mulOk_of(hx:x.length<=1000)(h0: -(2 ^ 62)<n)(h1:n<=1000):MulOk x n:=by
 refine⟨?_,?_,?_⟩
 ·rw[zaf (),zaf ()];rfl
 ·intro a b
  have:(1000:Int)<=(2 ^ 63 - 1) / n:=by
   rw[Int.le_ediv_iff_mul_le ()]
   omega
  omega
 ·intro a b
  refine Uz ?_
  have:n.toNat<=1000:=()
  calc x.length*n.toNat<=1000*1000:=Nat.mul_le_mul hx this
   _<=1000000:=by decide
theorem U9:uy X (binaryOp .Mult) (λx y H Q=>∃i j,x= .str i/\y= .int j/\MulOk i j/\Q (.str (PySem.Txt.mul i j)) H):=by
 intro pins s σ H x y v u Q I rx ry h
 obtain⟨i,j,rfl,rfl,hz,q⟩:=h
 obtain⟨t,rfl⟩:=rx
 obtain⟨t',rfl⟩:=ry
 exact SB.mul hz (λt' tk=>⟨.str (PySem.Txt.mul i j),H,I.tok _,⟨_,rfl⟩,q⟩)
section
variable{X:Cx}
theorem afD(I:Inv X pins σ H s)(e:H a=some (.dK [])):Inv X pins σ (upd H a (.dT [])) s:=by
 obtain⟨z,hd,vs,rel,o,es,ep,h1,h2,h3,h4,h5,h6⟩:=acn I.hok e
 have hv:vs=[]:=by cases rel;rfl
 subst hv
 have he:es.toList=[]:=by
  have:=h5.length
  exact List.length_eq_zero_iff.mp (by simpa using this)
 exact QC (t':=s.toks) (h':=s.heap) I (by rw[e];exact zaa) ⟨rfl,λ_ _=>rfl⟩ ⟨o,h1⟩ ⟨Nat.zero_le _,hd,[],.nil,o,es,ep,h1,h2,h3,by rw[he];rfl,List.nodup_nil⟩
def VP(H:Hp)(a:Addr)(y:V)(o:Option V)(H':Hp):Prop:=(Dz H a y o/\H'=H)\/(H a=some (.dK [])/\(∃(k:List Key) (b:Addr),y= .ref b/\H b=some (.tup (k.map kV)))/\o=none/\H'=upd H a (.dT []))
theorem VP.inv(g:VP H a y o H')(I:Inv X pins σ H s):Inv X pins σ H' s/\Dz H' a y o:=by
 rcases g with⟨g,rfl⟩ | ⟨e,⟨k,b,rfl,eb⟩,rfl,rfl⟩
 ·exact⟨I,g⟩
 ·refine⟨afD I e,.inr ⟨[],k,b,.inl bB,rfl,?_,rfl⟩⟩
  rw[aL (λz=>by subst z;rw[e]at eb;cases eb)]
  exact eb
def agl(neg:Bool):R2:=λy x H Q=>∃a o H',x= .ref a/\VP H a y o H'/\Q (.bl (if neg=true then !o.isSome else o.isSome)) H'
theorem agW(hu:X.A.units+1<cLine):uy X (compareOp .In) (agl false):=by
 intro pins s σ H y x v u Q I ry rx h
 obtain⟨a,o,H',rfl,g,q⟩:=h
 obtain rfl:u=Value.ref a:=rx
 obtain⟨I1,g1⟩:=g.inv I
 exact anR hu I1 g1 ry λs' I'=>⟨.bl _,H',I',rfl,q⟩
theorem YB(hu:X.A.units+1<cLine):uy X (compareOp .NotIn) (agl true):=by
 intro pins s σ H y x v u Q I ry rx h
 obtain⟨a,o,H',rfl,g,q⟩:=h
 obtain rfl:u=Value.ref a:=rx
 obtain⟨I1,g1⟩:=g.inv I
 exact aey hu I1 g1 ry λs' I'=>⟨.bl _,H',I',rfl,q⟩
def ajt:R2:=λx y H Q=>∃a v,x= .ref a/\Dz H a y (some v)/\Q v H
theorem ael(hu:X.A.units+1<cLine):IxR X ajt:=by
 intro value slice pins s σ H x y v u Q I rx ry h hs
 obtain⟨a,d,rfl,g,q⟩:=h
 obtain rfl:v=Value.ref a:=rx
 exact tail_any (TV I g) PySem.F.slot_dict_getitem.lookup (Zd hu I g ry λw' s' I' rw'=>⟨d,H,I',rw',q⟩) hs
section
variable{o e f i value:Expr}{apos cpos pos pos':Pos}{td ty tx tv:TE}
def afX(td ty tx:TE):TE:=λσ H Q=>td σ H λx H1=>∃a,x= .ref a/\IsD H1 a/\ty σ H1 λy H2=>tx σ H2 λz H3=>∃o H4,VP H3 a y o H4/\Q (o.getD z) H4
theorem aa8(hu:X.A.units+1<cLine)(ho:PE X o td)(he:PE X e ty)(hf:PE X f tx)(m:M2 X o "get" apos e f cpos):PE X (.Call (.Attribute o "get" apos) [e,f] [] cpos) (afX td ty tx):=by
 intro pins s σ H Q I h
 refine wpAny_Call_method m.base m.few m.line PySem.F.plainAttrs_dict PySem.F.slot_dict_get PySem.F.type_dict_get (fP (ho pins s σ H _ I h) ?_)
 rintro u t ⟨x,H1,I1,rx,a,ex,d,q1⟩
 subst ex
 obtain rfl:u=Value.ref a:=rx
 have ty:=Vp I1 d
 refine⟨ty.1,ty.2.1,?_⟩
 rw[m.trees]
 refine Calls.callWith_builtin rfl (Calls.evalArgs_plain (Calls.spliced_cons (fP (he pins t σ H1 _ I1 q1) ?_)))
 rintro iv t2 ⟨y,H2,I2,ry,q2⟩
 refine Calls.spliced_cons (fP (hf pins t2 σ H2 _ I2 q2) ?_)
 rintro fv t3 ⟨z,H3,I3,rz,ov,H4,g,q3⟩
 refine Calls.spliced_nil ?_
 obtain⟨I4,g4⟩:=g.inv I3
 exact ahM hu I4 g4 ry rz λw' t4 I5 rw'=>⟨_,H4,I5,rw',q3⟩
def afY(td ty:TE):TE:=λσ H Q=>td σ H λx H1=>∃a,x= .ref a/\IsD H1 a/\ty σ H1 λy H2=>∃o H3,VP H2 a y o H3/\Q (o.getD .non) H3
theorem aa9(hu:X.A.units+1<cLine)(ho:PE X o td)(he:PE X e ty)(m:M1 X o "get" apos e cpos):PE X (.Call (.Attribute o "get" apos) [e] [] cpos) (afY td ty):=by
 intro pins s σ H Q I h
 refine wpAny_Call_method m.base m.few m.line PySem.F.plainAttrs_dict PySem.F.slot_dict_get PySem.F.type_dict_get (fP (ho pins s σ H _ I h) ?_)
 rintro u t ⟨x,H1,I1,rx,a,ex,d,q1⟩
 subst ex
 obtain rfl:u=Value.ref a:=rx
 have ty:=Vp I1 d
 refine⟨ty.1,ty.2.1,?_⟩
 rw[m.trees]
 refine Calls.callWith_builtin rfl (Calls.evalArgs_plain (Calls.spliced_cons (fP (he pins t σ H1 _ I1 q1) ?_)))
 rintro iv t2 ⟨y,H2,I2,ry,ov,H3,g,q2⟩
 refine Calls.spliced_nil ?_
 obtain⟨I3,g3⟩:=g.inv I2
 exact ahN hu I3 g3 ry λw' t4 I5 rw'=>⟨_,H3,I5,rw',q2⟩
def ak5(H:Hp)(a:Addr)(y v:V)(H':Hp):Prop:=Q6 H a y v H'\/∃(k:List Key) (b:Addr),H a=some (.dK [])/\y= .ref b/\H b=some (.tup (k.map kV))/\H'=upd H a (.dT [(k,v)])
def ajl(td ty tv:TE):TS:=λD σ H=>tv σ H λv H1=>td σ H1 λx H2=>ty σ H2 λy H3=>∃a H4,x= .ref a/\ak5 H3 a y v H4/\D.nx σ H4
theorem adL(hu:X.A.units+1<cLine)(ho:PE X o td)(hi:PE X i ty)(hv:PE X value tv)(hs:swapsWith value (some (.Subscript o i pos')) pos.line X.env=pure false):PS X (.Assign [.Subscript o i pos'] value pos) (ajl td ty tv):=by
 intro pins s σ H D I h
 refine wpAny_Assign_Subscript (fP (hv pins s σ H _ I h) ?_) hs
 rintro r t1 ⟨v,H1,I1,rv,q1⟩
 refine fP (ho pins t1 σ H1 _ I1 q1) ?_
 rintro u t2 ⟨x,H2,I2,rx,q2⟩
 refine fP (hi pins t2 σ H2 _ I2 q2) ?_
 rintro iv t3 ⟨y,H3,I3,ry,a,H4,ex,g,q3⟩
 subst ex
 obtain rfl:u=Value.ref a:=rx
 rcases g with g | ⟨k,b,e,rfl,eb,rfl⟩
 ·exact N7 hu I3 g ry rv λt4 I4=>⟨σ,H4,I4,q3⟩
 ·have eb':upd H3 a (.dT []) b=some (.tup (k.map kV)):=by
   rw[aL (λz=>by subst z;rw[e]at eb;cases eb)]
   exact eb
  refine N7 hu (afD I3 e) (Q6.t bB eb' (by rw[sizeLine_eq];decide)) ry rv λt4 I4=>⟨σ,_,I4,?_⟩
  rw[acY]
  exact q3
end
end
section
variable{prog:Program}{w:World}{A:Around}{E:Value->Shared->Prop}{s:Shared}{κ:Type}[DecidableEq κ]{knd:HeapKind prog w κ}{a:Addr}{xs:List (κ×Addr×Value)}
theorem Vn(hd:(a==sysModules)=false):MeetsIn prog w (Builtin.«dict.__len__» ⟨[.ref a],[]⟩) (λ_ R t=>∃ys:List (κ×Addr×Value),t.heap.DictOfH knd a ys/\R (.ok (.ret (.int ys.length t.toks))) {t with toks:=t.toks+1}):=
 .of_wp λA R t ⟨ys,hm,q⟩=>by
  obtain⟨o,es,ep,e1,_,e2,e3,_⟩:=hm
  show wpAny _ _ (dictSize a >>= _) _ _ t
  unfold dictSize
  refine zC (zC (wpAny_dictEntries e1 e2 (zI ?_)))
  show wpAny _ _ (Builtin.Dict.pendingCount a >>= _) _ _ t
  refine zC (wpAny_pendingCount_other hd (wpAny_ret_mkInt ?_))
  have sz:es.size=ys.length:=by rw[<-Array.length_toList,e3,zao]
  rw[Nat.add_zero,sz]
  exact q
theorem ana{Q:Value->Shared->Prop}(hd:(a==sysModules)=false)(hm:s.heap.DictOfH knd a xs)(hz:(xs.length:Int)<2 ^ 63)(q:Q (.int xs.length (s.toks+1)) {s with toks:=s.toks+1+1}):wpAny (model prog w) A (call (.builtin "len") [.ref a]) Q E s:=by
 refine Calls.call_function_entry kind_len plain_len entry_len (args_len1 _) ?_
 unfold Builtin.«len»
 refine zC (m:=oneArg "len" _) (zI (zC (m:=callSpecial? (.ref a) (Str.ofString "__len__")) ?_))
 refine zai (name:=Str.ofString "__len__") hm.typeIs F.slot_dict_len (call_meetsIn F.slot_dict_len hm.typeIs F.entry_dict_len (F.args_dict_len_1 _) (Vn (knd:=knd) hd) ⟨xs,hm,?_⟩)
 show wpAny (model prog w) _ _ _ _ {s with toks:=s.toks+1}
 refine zC (wpAny_holding (zI (zC (wpAny_letGo ?_))))
 show wpAny (model prog w) _ (if((xs.length:Nat):Int)<0 then _ else _) _ _ _
 rw[if_neg ()]
 show wpAny (model prog w) _ (if((xs.length:Nat):Int)>=2 ^ 63 then _ else _) _ _ _
 rw[if_neg ()]
 exact zC (wpAny_mkInt (zI ⟨_,rfl,q⟩))
end
theorem Zh:qP X (.builtin "len") (λxs H Q=>∃a kvs,xs=[V.ref a]/\H a=some (.dT kvs)/\Q (.int kvs.length) H):=by
 intro pins s σ H xs us Q I r h
 obtain⟨a,kvs,rfl,ha,q⟩:=h
 obtain⟨u,rfl,ru⟩:=vals1 r
 cases ru
 obtain⟨z,hd,ys,rel,dd⟩:=afB I.hok ha
 have hl:=Paired.length rel
 refine ana hd dd (by rw[<-hl];rw[sizeLine_eq]at z;omega) ⟨.int kvs.length,H,I.tok _,⟨_,by rw[hl]⟩,q⟩
end L2
namespace L2
open PySem PySem.W PyProof.Rows
def Way(n:Nat)(lt:Nat->Nat->Bool){α:Type}:KasT α->(α->Prop)->Prop
 | .ret a,Q=>Q a
 | .ask i j k,Q=>i<n/\j<n/\Way n lt (k (lt i j)) Q
theorem Way.bind{n:Nat}{lt:Nat->Nat->Bool}{α β:Type}{f:α->KasT β}{Q:β->Prop}:∀{t:KasT α},Way n lt t (λa=>Way n lt (f a) Q)->Way n lt (t.bind f) Q
 | .ret _,h=>h
 | .ask _ _ _,h=>⟨h.1,h.2.1,Way.bind h.2.2⟩
theorem Way.mono{n:Nat}{lt:Nat->Nat->Bool}{α:Type}{Q Q':α->Prop}(hq:∀a,Q a->Q' a):∀{t:KasT α},Way n lt t Q->Way n lt t Q'
 | .ret _,h=>hq _ h
 | .ask _ _ _,h=>⟨h.1,h.2.1,Way.mono hq h.2.2⟩
theorem Way.wp{G:Shared->Prop}{cmp:Nat->Nat->(Bool->Shared->Prop)->Shared->Prop}
  (hc:∀i j,i<n->j<n->∀(C:Bool->Shared->Prop) s,G s->(∀s',G s'->C (lt i j) s')->cmp i j C s) {α:Type} {R:α->Shared->Prop} {Q:α->Prop} (hR:∀a s,Q a->G s->R a s):
  ∀{t:KasT α} {s:Shared},Way n lt t Q->G s->t.kasWp cmp R s
 | .ret _,_,h,g=>hR _ _ h g
 | .ask i j k,s,h,g=>hc i j h.1 h.2.1 _ s g λ_ g'=>Way.wp hc hR h.2.2 g'
structure Pm(n:Nat)(p:Array Nat):Prop where
 sz:p.size=n
 pm:p.Perm (List.range n).toArray
section
variable{n:Nat}{O:KeyOrd}{k:Nat->O.α}
theorem Pm.lt(h:Pm n p)(hi:i<n):p.getD i 0<n:=by
 have hs:i<p.size:=by rw[h.sz];exact hi
 have e:p.getD i 0=p[i]:=by simp[Array.getD,hs]
 rw[e]
 have:=(Array.perm_iff_toList_perm.mp h.pm).mem_iff (a:=p[i])
 simpa using this.mp (by simp)
theorem Pm.of(h:Pm n p)(hp:q.Perm p):Pm n q:=⟨by rw[hp.size_eq,h.sz],hp.trans h.pm⟩
noncomputable def kk(k:Nat->O.α)(p:Array Nat)(i:Nat):O.α:=k (p.getD i 0)
theorem Tc(h:p[i]? = q[j]?):kk (O:=O) k p i=kk k q j:=by
 unfold kk
 rw[Array.getD_eq_getD_getElem?,Array.getD_eq_getD_getElem?,h]
theorem W9(hs:a<p.size)(hd:d<=a)(i:Nat):kk (O:=O) k (bubble p a d) i=if i=a - d then kk k p a else if a - d<i/\i<=a then kk k p (i - 1)else kk k p i:=by
 have g:=getElem?_bubble hs d hd i
 split
 ·rename_i h1;rw[if_pos h1]at g;exact Tc g
 ·rename_i h1
  rw[if_neg h1]at g
  split
  ·rename_i h2;rw[if_pos h2]at g;exact Tc g
  ·rename_i h2;rw[if_neg h2]at g;exact Tc g
theorem P_(hb:b<=p.size)(i:Nat):kk (O:=O) k (kas_rev p a b) i=if a<=i/\i<b then kk k p (a+b - 1 - i)else kk k p i:=by
 have g:=getElem?_mirror_all (i:=a) hb i
 unfold kas_rev
 split
 ·rename_i h1;rw[if_pos h1]at g;exact Tc g
 ·rename_i h1;rw[if_neg h1]at g;exact Tc g
def Up(k:Nat->O.α)(p:Array Nat)(m:Nat):Prop:=∀i j,i<=j->j<m->O.kle (kk k p i) (kk k p j)
def Dn(k:Nat->O.α)(p:Array Nat)(m:Nat):Prop:=∀i j,i<=j->j<m->O.kle (kk k p j) (kk k p i)
theorem Up.one:Up (O:=O) k p 1:=λi j a b=>by
 obtain rfl:i=j:=()
 exact O.irrefl _
theorem Up.more(h:Up (O:=O) k p m)(h1:1<=m)(e:O.kle (kk k p (m - 1)) (kk k p m)):Up k p (m+1):=λi j a b=>by
 rcases Nat.lt_or_ge j m with q | q
 ·exact h i j a q
 ·obtain rfl:j=m:=()
  rcases Nat.lt_or_ge i j with z | z
  ·exact KeyOrd.kle_trans (h i (j - 1) () ()) e
  ·obtain rfl:i=j:=()
   exact O.irrefl _
theorem Dn.more(h:Dn (O:=O) k p m)(h1:1<=m)(e:O.kle (kk k p m) (kk k p (m - 1))):Dn k p (m+1):=λi j a b=>by
 rcases Nat.lt_or_ge j m with q | q
 ·exact h i j a q
 ·obtain rfl:j=m:=()
  rcases Nat.lt_or_ge i j with z | z
  ·exact KeyOrd.kle_trans e (h i (j - 1) () ())
  ·obtain rfl:i=j:=()
   exact O.irrefl _
theorem Dn.like(h:Dn (O:=O) k p m)(e:∀i,kk (O:=O) k q i=kk k p i):Dn k q m:=λi j a b=>by rw[e,e];exact h i j a b
abbrev Vl(O:KeyOrd)(k:Nat->O.α):Nat->Nat->Bool:=λi j=>O.blt (k i) (k j)
theorem Om(hp:Pm n p):∀(f m:Nat),1<=m->m+f<=n->Up (O:=O) k p m->
  Way n (Vl O k) (kas_asc p f m) λr=>m<=r/\r<=m+f/\Up k p r/\(r=m+f\/O.klt (kk k p r) (kk k p (r - 1)))
 | 0,m,_,_,h=>⟨zab _,zab _,h,.inl rfl⟩
 | f+1,m,h1,h2,h=>by
  refine⟨hp.lt (),hp.lt (),?_⟩
  cases c:Vl O k (p.getD m 0) (p.getD (m - 1) 0)with
  | true=>dsimp only;rw[if_pos rfl];exact⟨zab _,(),h,.inr c⟩
  | false=>
   dsimp only;rw[if_neg xA]
   refine Way.mono ?_ (Om hp f (m+1) () () (h.more h1 c))
   rintro r ⟨a,b,c,d⟩
   exact⟨(),(),c,d.imp (λe=>()) id⟩
def Eqs(k:Nat->O.α)(p:Array Nat)(m q:Nat):Prop:=q+1<=m/\∀i,m - (q+1)<=i->i<m->kk (O:=O) k p i=kk k p (m - 1)
theorem Jz(hm:m<=p.size)(h:Eqs (O:=O) k p m q)(i:Nat):kk (O:=O) k (kas_rev p (m - (q+1)) m) i=kk k p i:=by
 rw[P_ hm]
 split
 ·rw[h.2 _ () (),h.2 i () ()]
 ·rfl
theorem DQ:∀(f:Nat) {p:Array Nat} {m q:Nat},Pm n p->m+f<=n->Dn (O:=O) k p m->Eqs (O:=O) k p m q->
  Way n (Vl O k) (kas_desc f p m q) λr=>Pm n r.1/\m<=r.2.1/\r.2.1<=n/\Dn k r.1 r.2.1/\Eqs (O:=O) k r.1 r.2.1 r.2.2
 | 0,p,m,q,hp,h2,h,he=>⟨hp,zab _,(),h,he⟩
 | f+1,p,m,q,hp,h2,h,he=>by
  have h1:1<=m:=by have:=he.1;omega
  refine⟨hp.lt (),hp.lt (),?_⟩
  have up:∀{t:KasT (Array Nat×Nat×Nat)},Way n (Vl O k) t (λr=>Pm n r.1/\m+1<=r.2.1/\r.2.1<=n/\Dn k r.1 r.2.1/\Eqs (O:=O) k r.1 r.2.1 r.2.2)->Way n (Vl O k) t (λr=>Pm n r.1/\m<=r.2.1/\r.2.1<=n/\Dn k r.1 r.2.1/\Eqs (O:=O) k r.1 r.2.1 r.2.2):=
   Way.mono λr ⟨a,b,c,d,e⟩=>⟨a,(),c,d,e⟩
  have one:∀{p':Array Nat},Eqs (O:=O) k p' (m+1) 0:=⟨(),λi a b=>by congr 1;omega⟩
  cases c:Vl O k (p.getD m 0) (p.getD (m - 1) 0)with
  | true=>
   dsimp only;rw[if_pos rfl]
   have d1:=h.more h1 (KeyOrd.kle_of_klt c)
   split
   ·have e:=Jz (by rw[hp.sz];omega) he
    exact up (DQ f (hp.of (mirror_perm _ _ _ _)) () (d1.like e) one)
   ·exact up (DQ f hp () d1 one)
  | false=>
   dsimp only;rw[if_neg xA]
   refine⟨hp.lt (),hp.lt (),?_⟩
   cases c':Vl O k (p.getD (m - 1) 0) (p.getD m 0)with
   | true=>dsimp only;rw[if_pos rfl];exact⟨hp,zab _,show m<=n by omega,h,he⟩
   | false=>
    dsimp only;rw[if_neg xA]
    have eq:kk (O:=O) k p m=kk k p (m - 1):=O.total _ _ c c'
    refine up (DQ f hp () (h.more h1 c') ⟨by have:=he.1;omega,λi a b=> ?_⟩)
    rw[show m+1 - 1=m by omega]
    rcases Nat.lt_or_ge i m with z | z
    ·rw[eq];exact he.2 i () z
    ·congr 1;omega
abbrev Cnt(n:Nat)(k:Nat->O.α):Nat×Array Nat->Prop:=λr=>Pm n r.2/\1<=r.1/\r.1<=n/\Up (O:=O) k r.2 r.1
theorem Rb(hp:Pm n p)(h1:1<=m)(h2:m<=n)(h:Dn (O:=O) k p m):Way n (Vl O k) (kas_tail3 m n p) (Cnt (O:=O) n k):=by
 have hq:Pm n (kas_rev p 0 m):=hp.of (mirror_perm _ _ _ _)
 have u:Up (O:=O) k (kas_rev p 0 m) m:=λi j a b=>by
  have hz:m<=p.size:=by rw[hp.sz];exact h2
  rw[P_ hz,P_ hz,if_pos ⟨(),()⟩,if_pos ⟨(),b⟩]
  exact h _ _ () ()
 exact Way.bind (Way.mono (λr ⟨a,b,c,_⟩=>⟨hq,(),(),c⟩) (Om hq (n - m) m h1 () u))
theorem Rc(hp:Pm n p)(h2:m+1<=n)(h:Dn (O:=O) k p (m+1)):Way n (Vl O k) (kas_descPart m n p) (Cnt (O:=O) n k):=by
 refine Way.bind (Way.mono ?_ (DQ (n - (m+1)) (q:=0) hp () h ⟨(),λi a b=>by congr 1;omega⟩))
 rintro⟨p',m',q'⟩ ⟨a,b,c,d,e⟩
 dsimp only at a b c d e ⊢
 split
 ·exact Rb (a.of (mirror_perm _ _ _ _)) () c (d.like (Jz (by rw[a.sz];exact c) e))
 ·exact Rb a () c d
theorem X7(hp:Pm n p)(h1:1<=n):Way n (Vl O k) (kas_count n p) (Cnt (O:=O) n k):=by
 refine Way.bind (Way.mono ?_ (Om hp (n - 1) 1 (zab _) () Up.one))
 rintro m ⟨a,b,u,l⟩
 split
 ·exact⟨hp,a,(),u⟩
 ·rename_i ne
  have ne':m≠n:=λz=>ne (by simp[z])
  have lt:O.klt (kk k p m) (kk k p (m - 1)):=l.resolve_left ()
  split
  ·refine⟨hp.lt (),hp.lt (),?_⟩
   cases c:Vl O k (p.getD 0 0) (p.getD (m - 1) 0)with
   | true=>dsimp only;rw[if_pos rfl];exact⟨hp,a,(),u⟩
   | false=>
    dsimp only;rw[if_neg xA]
    have al:∀i,i<m->kk (O:=O) k p i=kk k p (m - 1):=λi hi=>O.total _ _ (KeyOrd.kle_trans (show O.kle (kk k p (m - 1)) (kk k p 0)from c) (u 0 i () hi)) (u i (m - 1) () ())
    have eqs:Eqs (O:=O) k p m (m - 1):=⟨(),λi _ hi=>al i hi⟩
    have tn:=Jz (by rw[hp.sz];omega) eqs
    rw[show m - (m - 1+1)=0 by omega]at tn
    have dn:Dn (O:=O) k p m:=λi j x y=>by rw[al i (),al j y];exact O.irrefl _
    exact Rc (hp.of (mirror_perm _ _ _ _)) () ((dn.more a (KeyOrd.kle_of_klt lt)).like tn)
  ·obtain rfl:m=1:=()
   exact Rc hp () (Dn.more (m:=1) (λi j x y=>Up.one j i () ()) (zab _) (KeyOrd.kle_of_klt lt))
theorem Gi(hp:Pm n p)(ha:a<n)(u:Up (O:=O) k p a):∀(f l r:Nat),l<=r->r<=a->r - l<=f->(∀i,i<l->O.kle (kk k p i) (kk k p a))->(∀i,r<=i->i<a->O.klt (kk k p a) (kk k p i))->
  Way n (Vl O k) (kas_place p a f l r) λz=>z<=a/\(∀i,i<z->O.kle (kk k p i) (kk k p a))/\∀i,z<=i->i<a->O.klt (kk k p a) (kk k p i)
 | 0,l,r,h1,h2,h3,lo,hi=>⟨(),lo,λi x y=>hi i () y⟩
 | f+1,l,r,h1,h2,h3,lo,hi=>by
  unfold kas_place
  split
  ·exact⟨(),lo,λi x y=>hi i () y⟩
  ·refine⟨hp.lt ha,hp.lt (),?_⟩
   cases c:Vl O k (p.getD a 0) (p.getD ((l+r) / 2) 0)with
   | true=>
    dsimp only;rw[if_pos rfl]
    exact Gi hp ha u f l _ () () () lo λi x y=>KeyOrd.klt_of_klt_of_kle c (u _ i x y)
   | false=>
    dsimp only;rw[if_neg xA]
    exact Gi hp ha u f _ r () h2 () (λi x=>KeyOrd.kle_trans (u i ((l+r) / 2) () ()) c) hi
theorem V4:∀(f:Nat) {p:Array Nat} {a:Nat},Pm n p->a+f=n->Up (O:=O) k p a->Way n (Vl O k) (kas_bin f p a) λq=>Pm n q/\Up k q n
 | 0,p,a,hp,h,u=>⟨hp,by rw[<-h];exact u⟩
 | f+1,p,a,hp,h,u=>by
  refine Way.bind (Way.mono ?_ (Gi hp () u a 0 a () () () (λi x=>()) (λi x y=>())))
  rintro z ⟨hz,lo,hi⟩
  refine V4 f (hp.of (bubble_perm _ _ _)) () λi j x y=> ?_
  have hs:a<p.size:=by rw[hp.sz];omega
  rw[W9 hs (),W9 hs (),show a - (a - z)=z by omega]
  repeat' split
  all_goals first
   | exact O.irrefl _
   | exact lo _ ()
   | exact KeyOrd.kle_of_klt (hi _ () ())
   | exact u _ _ () ()
   | (exfalso;omega)
theorem ZW(h1:1<=n):Way n (Vl O k) (kas_sort n) λq=>Pm n q/\Up (O:=O) k q n:=by
 refine Way.bind (Way.mono ?_ (X7 (p:=(List.range n).toArray) ⟨by simp,Array.Perm.refl _⟩ h1))
 rintro⟨m,p⟩ ⟨a,b,c,u⟩
 dsimp only at a b c u ⊢
 split
 ·have e:max m 1=m:=()
  rw[e]
  exact V4 _ a () u
 ·exact⟨a,by rw[show n=m by omega];exact u⟩
end
end L2
namespace L2
open PySem PySem.Spec PySem.W PyProof.Rows
theorem C_:∀a:List Int,HT.lexLt a a=false
 | []=>rfl
 | x::xs=>by rw[HT.bG,if_pos rfl];exact C_ xs
theorem z_:∀a b:List Int,HT.lexLt a b=false->HT.lexLt b a=false->a=b
 | [],[],_,_=>rfl
 | [],_::_,h,_=>by cases h
 | _::_,[],_,h=>by cases h
 | x::xs,y::ys,h,h'=>by
  rw[HT.bG]at h h'
  by_cases e:x=y
  ·subst e
   rw[if_pos rfl]at h h'
   rw[z_ xs ys h h']
  ·rw[if_neg e]at h
   rw[if_neg (Ne.symm e)]at h'
   have:=of_decide_eq_false h
   have:=of_decide_eq_false h'
   omega
theorem Br:∀a b c:List Int,HT.lexLt a c=true->HT.lexLt a b=true\/HT.lexLt b c=true
 | _,_,[],h=>by rename_i a b;cases a<;>cases h
 | [],[],_::_,_=> .inr rfl
 | [],_::_,_::_,_=> .inl rfl
 | _::_,[],_::_,_=> .inr rfl
 | x::xs,y::ys,z::zs,h=>by
  rw[HT.bG]at h
  rw[HT.bG,HT.bG]
  by_cases e:x=z
  ·subst e
   rw[if_pos rfl]at h
   by_cases f:x=y
   ·subst f
    rw[if_pos rfl,if_pos rfl]
    exact Br xs ys zs h
   ·rw[if_neg f,if_neg (Ne.symm f)]
    rcases Int.lt_or_gt_of_ne f with q | q
    ·exact .inl (zag q)
    ·exact .inr (zag q)
  ·rw[if_neg e]at h
   have hz:=zah h
   by_cases f:x=y
   ·subst f
    right
    rw[if_neg e];exact h
   ·rw[if_neg f]
    rcases Int.lt_or_gt_of_ne f with q | q
    ·exact .inl (zag q)
    ·right
     rw[if_neg ()]
     exact zag ()
theorem S_(a b c:List Int)(h:HT.lexLt a b=true)(h':HT.lexLt b c=true):HT.lexLt a c=true:=by
 rcases Br a c b h with q | q
 ·exact q
 ·rcases Br b a c h' with r | r
  ·have e:∀x y:List Int,HT.lexLt x y=true->HT.lexLt y x=true->False:=by
    intro x
    induction x with
    | nil=>intro y h1 h2;cases y<;>cases h2
    | cons u us ih=>
     intro y h1 h2
     cases y with
     | nil=>cases h1
     | cons v vs=>
      rw[HT.bG]at h1 h2
      by_cases z:u=v
      ·subst z
       rw[if_pos rfl]at h1 h2
       exact ih vs h1 h2
      ·rw[if_neg z]at h1
       rw[if_neg (Ne.symm z)]at h2
       have:=zah h1
       have:=zah h2
       omega
   exact(e a b h r).elim
  ·exact r
def abD:KeyOrd:=⟨List Int,HT.lexLt,C_,S_,Br,z_⟩
noncomputable def Rp(s:Str):List Int:=s.cps.toList.map Int.ofNat++[-1]
def Kin(c d:List Int):Prop:=∀r r':List Int,HT.lexLt (c++r) (d++r')=if c=d then HT.lexLt r r' else HT.lexLt c d
theorem Jo:∀{c d:List Int},c.length=d.length->Kin c d
 | [],[],_=>λr r'=>by rw[if_pos rfl];rfl
 | [],_::_,h=>by cases h
 | _::_,[],h=>by cases h
 | x::c,y::d,h=>λr r'=>by
  have ih:=Jo (c:=c) (d:=d) (by simpa using h) r r'
  rw[List.cons_append,List.cons_append,HT.bG,HT.bG]
  by_cases e:x=y
  ·subst e
   rw[if_pos rfl,if_pos rfl,ih]
   by_cases q:c=d
   ·rw[if_pos q,if_pos (by rw[q])]
   ·rw[if_neg q,if_neg (λz=>q (by injection z))]
  ·rw[if_neg e,if_neg e,if_neg (λz=>e (by injection z))]
theorem Jm:∀(a b:List Nat),Kin (a.map Int.ofNat++[-1]) (b.map Int.ofNat++[-1])/\HT.lexLt (a.map Int.ofNat++[-1]) (b.map Int.ofNat++[-1])=decide (a<b)/\(a.map Int.ofNat++[-1]=b.map Int.ofNat++[-1]->a=b)
 | [],[]=>⟨Jo rfl,by simp[HT.lexLt],λ_=>rfl⟩
 | [],y::b=>by
  have e:(-1:Int)≠Int.ofNat y:=by simp
  have l:(-1:Int)<Int.ofNat y:=by simp;omega
  refine⟨λr r'=> ?_,?_,λh=> ?_⟩
  ·simp only[List.map_nil,List.nil_append,List.map_cons,List.cons_append]
   rw[HT.bG,HT.bG,if_neg e,if_neg e,if_neg (λz=>e (by injection z))]
  ·simp only[List.map_nil,List.nil_append,List.map_cons,List.cons_append]
   rw[HT.bG,if_neg e,zag l]
   simp
  ·simp only[List.map_nil,List.nil_append,List.map_cons,List.cons_append]at h
   exact absurd (by injection h) e
 | x::a,[]=>by
  have e:Int.ofNat x≠(-1:Int):=by simp
  have l:¬Int.ofNat x<(-1:Int):=by simp
  refine⟨λr r'=> ?_,?_,λh=> ?_⟩
  ·simp only[List.map_nil,List.nil_append,List.map_cons,List.cons_append]
   rw[HT.bG,HT.bG,if_neg e,if_neg e,if_neg (λz=>e (by injection z))]
  ·simp only[List.map_nil,List.nil_append,List.map_cons,List.cons_append]
   rw[HT.bG,if_neg e,zaf l]
   simp
  ·simp only[List.map_nil,List.nil_append,List.map_cons,List.cons_append]at h
   exact absurd (by injection h) e
 | x::a,y::b=>by
  obtain⟨k,l,i⟩:=Jm a b
  by_cases e:x=y
  ·subst e
   refine⟨λr r'=> ?_,?_,λh=> ?_⟩
   ·simp only[List.map_cons,List.cons_append]
    rw[HT.bG,HT.bG,if_pos rfl,if_pos rfl,k]
    by_cases q:a.map Int.ofNat++[-1]=b.map Int.ofNat++[-1]
    ·rw[if_pos q,if_pos (by rw[q])]
    ·rw[if_neg q,if_neg (λz=>q (by injection z))]
   ·simp only[List.map_cons,List.cons_append]
    rw[HT.bG,if_pos rfl,l]
    simp
   ·simp only[List.map_cons,List.cons_append]at h
    rw[i (by injection h)]
  ·have e':Int.ofNat x≠Int.ofNat y:=λz=>e (Int.ofNat.inj z)
   refine⟨λr r'=> ?_,?_,λh=> ?_⟩
   ·simp only[List.map_cons,List.cons_append]
    rw[HT.bG,HT.bG,if_neg e',if_neg e',if_neg (λz=>e' (by injection z))]
   ·simp only[List.map_cons,List.cons_append]
    rw[HT.bG,if_neg e']
    have:(Int.ofNat x<Int.ofNat y)↔x<y:=by simp
    simp[List.cons_lt_cons_iff,e]
   ·simp only[List.map_cons,List.cons_append]at h
    exact absurd (by injection h) e'
inductive Part (K:Frag) (H:Hp):V->List Int->Nat->Prop
 | int (i:Int):Part K H (.int i) [i] 0
 | str (x:Str):Part K H (.str x) (Rp x) 1
 | tup {a:Addr} {ns:List Int}:H a=some (.tup (ns.map V.int))->Part K H (.ref a) ns (ns.length+2)
theorem Part.kin{K:Frag}{H:Hp}{x y:V}{c d:List Int}{k:Nat}(h:Part K H x c k)(h':Part K H y d k):Kin c d:=by
 cases h with
 | int i=>cases h' with
  | int j=>exact Jo rfl
 | str a=>cases h' with
  | str b=>exact(Jm _ _).1
 | tup e=>
  generalize hk:_+2=k' at h'
  cases h' with
  | int j=>omega
  | str b=>omega
  | tup e'=>exact Jo ()
theorem Tr:∀{a b:List Int},a.map (Sum.inl:Int->Key)=b.map Sum.inl->a=b
 | [],[],_=>rfl
 | [],_::_,h=>by cases h
 | _::_,[],h=>by cases h
 | x::a,y::b,h=>by
  rw[List.map_cons,List.map_cons]at h
  injection h with h1 h2
  rw[Sum.inl.inj h1,Tr h2]
section
variable{X:Cx}{pins:List (Addr×Obj)}{σ:St}{H:Hp}{s:Shared}{A:Around}{E:Value->Shared->Prop}
theorem Td{ns:List Int}(ok:tZ P w H h)(e:H a=some (.tup (ns.map V.int))):(tupleKind (dz P w)).is h (ns.map Sum.inl) a:=by
 refine Ac ok ?_
 rw[e,List.map_map];rfl
theorem adU{Q:Bool->Shared->Prop}(I:Inv X pins σ H s)(hu:A.units<cLine)(h:Part X.K H x c k)(h':Part X.K H y d k)(r:RelV x u)(r':RelV y v)(q:Q (decide (c=d)) s):
  wpAny (model X.prog X.w) A (eqBool u v) Q E s:=by
 cases h with
 | int i=>cases h' with
  | int j=>
   obtain⟨t,rfl⟩:=r
   obtain⟨t',rfl⟩:=r'
   refine wpAny_eqBool_int ?_
   have e:(i==j)=decide ([i]=[j]):=by
    by_cases z:i=j<;>simp[z]
   rw[e];exact q
 | str a=>cases h' with
  | str b=>
   obtain⟨t,rfl⟩:=r
   obtain⟨t',rfl⟩:=r'
   refine wpAny_eqBool_str ?_
   have e:decide (a=b)=decide (Rp a=Rp b):=by
    by_cases z:a=b
    ·simp[z]
    ·have:Rp a≠Rp b:=λq=>z (by
      have:=(Jm _ _).2.2 q
      cases a;cases b;simp at this;rw[this])
     simp[z,this]
   rw[e];exact q
 | @tup a _ e=>
  generalize hk:_+2=k' at h'
  cases h' with
  | int j=>omega
  | str b=>omega
  | @tup b _ e'=>
   obtain rfl:u= .ref a:=r
   obtain rfl:v= .ref b:=r'
   refine wpAny_eqBool_tuple hu (Td I.hok e) (Td I.hok e') ?_
   have:(c.map (Sum.inl:Int->Key)=d.map Sum.inl)↔c=d:=⟨Tr,λz=>by rw[z]⟩
   simp only[this];exact q
theorem WL{Q:Bool->Shared->Prop}(I:Inv X pins σ H s)(hu:A.units<cLine)(h:Part X.K H x c k)(h':Part X.K H y d k)(r:RelV x u)(r':RelV y v)(hb:b=true->k<2)(q:Q (HT.lexLt c d) s):
  wpAny (model X.prog X.w) A (oneLt' b u v) Q E s:=by
 cases h with
 | int i=>cases h' with
  | int j=>
   obtain⟨t,rfl⟩:=r
   obtain⟨t',rfl⟩:=r'
   have e:HT.lexLt [i] [j]=decide (i<j):=by
    rw[HT.bG]
    by_cases z:i=j
    ·subst z;simp[HT.lexLt]
    ·rw[if_neg z]
   rw[e]at q
   cases b with
   | true=>exact oneLt_int q
   | false=>exact kat_one _ _ (lt_int q)
 | str a=>cases h' with
  | str z=>
   obtain⟨t,rfl⟩:=r
   obtain⟨t',rfl⟩:=r'
   have e:HT.lexLt (Rp a) (Rp z)=decide (a.cps.toList<z.cps.toList):=(Jm _ _).2.1
   rw[e]at q
   cases b with
   | true=>exact oneLt_str q
   | false=>exact kat_one _ _ (lt_str q)
 | @tup a _ e=>
  generalize hk:_+2=k' at h' hb
  cases h' with
  | int j=>omega
  | str z=>omega
  | @tup z _ e'=>
   obtain rfl:u= .ref a:=r
   obtain rfl:v= .ref z:=r'
   cases b with
   | true=>have:=hb rfl;omega
   | false=>
    obtain⟨_,its,r1,p1⟩:=(show dD X.prog X.w H s.heap a (.tup (c.map V.int))from I.hok a _ e)
    obtain⟨_,its2,r2,p2⟩:=(show dD X.prog X.w H s.heap z (.tup (d.map V.int))from I.hok z _ e')
    exact kat_one _ _ (HT.Ks p1 p2 (intsAre_of r1) (intsAre_of r2) hu q)
inductive Parts (K:Frag) (H:Hp):List V->List Int->List Nat->Prop
 | nil:Parts K H [] [] []
 | cons {x:V} {xs:List V} {c cs:List Int} {k:Nat} {ks:List Nat}:Part K H x c k->Parts K H xs cs ks->Parts K H (x::xs) (c++cs) (k::ks)
theorem W4:∀{xs ys:List V} {us vs:List Value} {c d:List Int} {ks:List Nat} {i:Nat} {Q:Bool->Shared->Prop} {s:Shared},Inv X pins σ H s->A.units<cLine->Parts X.K H xs c ks->Parts X.K H ys d ks->Vals xs us->Vals ys vs->
  (b=true->i=0->∀k,ks[0]? = some k->k<2)->Q (HT.lexLt c d) s->KatLex X.prog X.w A b false Q (us.zip vs) i s
 | [],ys,us,vs,c,d,ks,i,Q,s,I,hu,h,h',r,r',hb,q=>by
  cases h
  cases h'
  cases r
  exact kat_nil q
 | x::xs,ys,us,vs,c,d,ks,i,Q,s,I,hu,h,h',r,r',hb,q=>by
  cases h with
  | @cons _ _ c1 c2 k1 k2 p ps=>
  cases h' with
  | @cons _ _ d1 d2 _ _ p' ps'=>
  cases r with
  | cons r0 rs=>
  cases r' with
  | cons r0' rs'=>
  rw[List.zip_cons_cons]
  refine kat_cons (adU I hu p p' r0 r0' ?_)
  have e:=p.kin p'
  cases z:decide (c1=d1)with
  | true=>
   have z':=zah z
   rw[e,if_pos z']at q
   exact kat_yes (W4 I hu ps ps' rs rs' (λ_ h=>()) q)
  | false=>
   have z':=of_decide_eq_false z
   rw[e,if_neg z']at q
   refine kat_no (WL I hu p p' r0 r0' ?_ q)
   intro hb'
   have:=Bool.and_eq_true_iff.mp hb'
   exact hb this.1 (by simpa using this.2) _ rfl
end
inductive Q3 (K:Frag) (H:Hp):List V->List (List Int)->Prop
 | flat {ys:List V} {cs:List (List Int)} (k:Nat) (hk:k<2) (hl:cs.length=ys.length) (h:∀(i:Nat) (y:V) (c:List Int),ys[i]? = some y->cs[i]? = some c->Part K H y c k):Q3 K H ys cs
 | rows {ys:List V} {cs:List (List Int)} (k:Nat) (ks:List Nat) (hl:cs.length=ys.length) (h:∀(i:Nat) (y:V) (c:List Int),ys[i]? = some y->cs[i]? = some c->∃a xs,y=V.ref a/\H a=some (.tup xs)/\Parts K H xs c (k::ks)):Q3 K H ys cs
theorem Q3.len{K:Frag}{H:Hp}{ys:List V}{cs:List (List Int)}(h:Q3 K H ys cs):cs.length=ys.length:=by cases h<;>assumption
section
variable{X:Cx}{pins:List (Addr×Obj)}{σ:St}{H:Hp}{s:Shared}{A:Around}{E:Value->Shared->Prop}
theorem Inv.track(I:Inv X pins σ H s)(fp:Bg X pins H a)(h0:X.s₀.heap.get? a=none)(new:dD X.prog X.w (upd H a o) s.heap a o):Inv X pins σ (upd H a o) s where
 ok:=I.ok
 os:=I.os
 bare:=I.bare
 base:={
  keep:=I.base.keep
  slot:=I.base.slot
  free:=λb ob e n hx=>by rw[aL (by rintro rfl;rw[h0]at e;cases e)];exact I.base.free b ob e n hx
  there:=I.base.there
  tups:=λb xs e=>by
   have:=I.base.tups b xs e
   rw[aL (bJ this fp.1)];exact this
  tY:=λb ob xs e=>by
   have:=I.base.tY b ob xs e
   rw[aL (bJ this fp.1)];exact this
  vp:=λb ps e=>by
   obtain⟨ps',this⟩:=I.base.vp b ps e
   exact⟨ps',by rw[aL (bJ this fp.1)];exact this⟩}
 loc:=I.loc
 cell:=I.cell
 free:=by rw[aL (Ne.symm fp.2.1)];exact I.free
 jZ:=λx c e=>by rw[aL (fp.2.2.2.2.1 x c e)];exact I.jZ x c e
 pin:=λp hp=>by
  obtain⟨a1,a2,a3⟩:=I.pin p hp
  exact⟨a1,by rw[aL (fp.2.2.2.2.2 p hp)];exact a2,a3⟩
 hok:=tZ.track I.hok fp.1 new
 len:=I.len
theorem Jx(r:Vals ys vs)(hi:i<ys.length):∃y,ys[i]? = some y/\RelV y (vs.getD i Value.none):=by
 have e:ys[i]? = some ys[i]:=zac hi
 obtain⟨u,h1,h2⟩:=r.get e
 refine⟨_,e,?_⟩
 rw[List.getD_eq_getElem?_getD,h1]
 exact h2
noncomputable def tyK(k:Nat):Value:=if k=0 then .type "int" else if k=1 then .type "str" else .type "tuple"
theorem J9(I:Inv X pins σ H s)(h:Part X.K H y c k)(r:RelV y u):Looks M s.heap (typeOf u) (tyK k):=by
 cases h with
 | int i=>obtain⟨t,rfl⟩:=r;exact Looks.now
 | str x=>obtain⟨t,rfl⟩:=r;exact Looks.now
 | @tup a _ e=>
  obtain rfl:u= .ref a:=r
  obtain⟨_,its,r1,o,ho,hc,n,hd⟩:=(show dD X.prog X.w H s.heap a (.tup (c.map V.int))from I.hok a _ e)
  have:tyK (c.length+2)= .type "tuple" := by unfold tyK;rw[if_neg (),if_neg ()]
  rw[this,<-hc]
  exact show Looks M s.heap (typeOf (.ref a)) o.cls from(Looks.ld ho).andThen .now
theorem V5:∀{ys:List V} {vs:List Value} {s:Shared},Inv X pins σ H s->Vals ys vs->(k:Nat)->(∀y∈ys,∃a xs c ks,y=V.ref a/\H a=some (.tup xs)/\Parts X.K H xs c (k::ks))->
  ∃fs,KatTups s.heap vs fs/\fs.length=ys.length/\∀M,∀v∈fs,Looks M s.heap (typeOf v) (tyK k)
 | [],_,s,I,.nil,k,_=>⟨[],KatTups.nil,rfl,λ_ v h=>by cases h⟩
 | y::ys,_,s,I,.cons r rs,k,h=>by
  obtain⟨fs,t,hl,hf⟩:=V5 I rs k λy hy=>h y (yT _ hy)
  obtain⟨a,xs,c,ks,rfl,ha,p⟩:=h y xB
  obtain⟨_,its,r1,o,ho,hc,n,hd⟩:=(show dD X.prog X.w H s.heap a (.tup xs)from I.hok a _ ha)
  cases p with
  | @cons x xs' c1 c2 _ _ p ps=>
   cases r1 with
   | @cons _ u _ us r0 r0s=>
    cases(show _=Value.ref a from r)
    refine⟨u::fs,KatTups.cons ho hc hd (by simp) t,by simp[hl],λM v hv=> ?_⟩
    rcases List.mem_cons.mp hv with rfl | q
    ·exact J9 I p r0
    ·exact hf M v q
theorem Yn(h:Q3 X.K H ys cs)(r:Vals ys vs)(h2:2<=ys.length):∃κ:SortKind,
  (∀{σ:St} {pins:List (Addr×Obj)} {s:Shared} {A:Around} {E:Value->Shared->Prop} {Q:SortKind->Shared->Prop},Inv X pins σ H s->Q κ s->wpAny (model X.prog X.w) A (keyKind' vs.toArray) Q E s)/\
  ∀{σ:St} {pins:List (Addr×Obj)} {s:Shared} {A:Around} {E:Value->Shared->Prop} {Q:Bool->Shared->Prop} (i j:Nat),A.units<cLine->i<ys.length->j<ys.length->Inv X pins σ H s->Q (HT.lexLt (cs.getD i []) (cs.getD j [])) s->
   wpAny (model X.prog X.w) A (keyLt' κ (vs.getD i Value.none) (vs.getD j Value.none)) Q E s:=by
 have el:=r.length
 cases h with
 | flat k hk hl h=>
  have hp:∀i,i<ys.length->∃y,ys[i]? = some y/\RelV y (vs.getD i Value.none)/\Part X.K H y (cs.getD i []) k:=λi hi=>by
   obtain⟨y,e,ry⟩:=Jx r hi
   have ec:cs[i]? = some (cs.getD i []):=by simp[hl,hi]
   exact⟨y,e,ry,h i y _ e ec⟩
  refine⟨oneType',λ{σ pins s A E Q} I q=> ?_,λ{σ pins s A E Q} i j hu hi hj I q=> ?_⟩
  ·refine kas_kind (T:=tyK k) () (λv hv=> ?_) ?_ ?_ q
   ·obtain⟨i,hi,rfl⟩:=List.mem_iff_getElem.mp hv
    obtain⟨y,e,ry,p⟩:=hp i ()
    have:vs.getD i Value.none=vs[i]:=by simp[hi]
    rw[this]at ry
    exact J9 I p ry
   ·have:k=0\/k=1:=()
    rcases this with rfl | rfl<;>decide
   ·have:k=0\/k=1:=()
    rcases this with rfl | rfl<;>decide
  ·obtain⟨y,e,ry,p⟩:=hp i hi
   obtain⟨y',e',ry',p'⟩:=hp j hj
   rw[keyLt'_oneType]
   exact WL I hu p p' ry ry' (λ_=>hk) q
 | rows k ks hl h=>
  have hp:∀i,i<ys.length->∃a xs,ys[i]? = some (.ref a)/\vs.getD i Value.none= .ref a/\H a=some (.tup xs)/\Parts X.K H xs (cs.getD i []) (k::ks):=λi hi=>by
   obtain⟨y,e,ry⟩:=Jx r hi
   have ec:cs[i]? = some (cs.getD i []):=by simp[hl,hi]
   obtain⟨a,xs,rfl,ha,p⟩:=h i y _ e ec
   exact⟨a,xs,e,ry,ha,p⟩
  refine⟨tuples' (tyK k != Value.type "tuple"),λ{σ pins s A E Q} I q=> ?_,λ{σ pins s A E Q} i j hu hi hj I q=> ?_⟩
  ·obtain⟨fs,t,hf,lk⟩:=V5 I r k λy hy=>by
    obtain⟨i,hi,rfl⟩:=List.mem_iff_getElem.mp hy
    obtain⟨a,xs,e,_,ha,p⟩:=hp i hi
    rw[zac hi]at e
    exact⟨a,xs,_,ks,xI e,ha,p⟩
   refine kat_kind t () (λv hv=>lk _ v hv) ?_ q
   unfold tyK
   split
   ·decide
   ·split<;>decide
  ·obtain⟨a,xs,e,ev,ha,p⟩:=hp i hi
   obtain⟨a',xs',e',ev',ha',p'⟩:=hp j hj
   obtain⟨_,its,r1,o,ho,hc,n,hd⟩:=(show dD X.prog X.w H s.heap a (.tup xs)from I.hok a _ ha)
   obtain⟨_,its',r1',o',ho',hc',n',hd'⟩:=(show dD X.prog X.w H s.heap a' (.tup xs')from I.hok a' _ ha')
   rw[ev,ev']
   have lp:∀{xs:List V} {c:List Int} {ks:List Nat},Parts X.K H xs c ks->xs.length=ks.length:=λ{xs c ks} p=>by
    induction p with
    | nil=>rfl
    | cons _ _ ih=>simp[ih]
   have sz:decide (its.toArray.size<its'.toArray.size)=false:=by
    have:=r1.length
    have:=r1'.length
    have:=lp p
    have:=lp p'
    refine zaf ?_
    simp only[List.size_toArray]
    omega
   refine kat_lt ho hd ho' hd' ?_
   rw[sz]
   refine W4 I hu p p' (by simpa using r1) (by simpa using r1') (λhb _ k' hk'=> ?_) q
   have:k'=k:=by simpa using hk'.symm
   subst this
   by_cases z:k'<2
   ·exact z
   ·exfalso
    have:tyK k'= .type "tuple" := by unfold tyK;rw[if_neg (),if_neg ()]
    rw[this]at hb
    exact absurd hb (by decide)
structure Order(n:Nat)(cs:List (List Int))(q:List Nat):Prop where
 pm:q.Perm (List.range n)
 up:∀i j,i<=j->j<n->HT.lexLt (cs.getD (q.getD j 0) []) (cs.getD (q.getD i 0) [])=false
theorem Yc:∀{vs:List Value},vs.length<2->(vs.toArray.zip vs.toArray).map (·.2)=((List.range vs.length).map λi=>vs.getD i Value.none).toArray
 | [],_=>by simp
 | [_],_=>by simp
 | _::_::_,h=>absurd h (by simp)
theorem Yb{P:PySem.Fin->Shared->Prop}(I:Inv X pins σ H s)(hu:A.units<cLine)(fp:Bg X pins H l)(ho:s.heap.get? l=some (seqObj "list" vs.toArray n))(r:Vals ys vs)(h64:ys.length<64)(rk:Q3 X.K H ys cs)
  (h:∀(q:List Nat) (c:Nat) (s':Shared),Order ys.length cs q->s'.heap.get? l=some (seqObj "list" (q.map λi=>vs.getD i Value.none).toArray c)->Inv X pins σ H s'->P (.done (.ret .none)) s'):
  wpAny (model X.prog X.w) A (Builtin.«list.sort» ⟨[.ref l],[]⟩) P E s:=by
 have el:=r.length
 have hl:l<s.heap.objs.size:=zS ho
 have line:(64:Nat)<=sizeLine:=by decide
 obtain⟨e1,ho1⟩:∃e1,(s.heap.update l (Obj.mapSeq λ_=>(#[]:Array Value))).get? l=some (seqObj "list" #[] e1):=⟨_,get?_update_seq ho λ_=> #[]⟩
 have sb:=Heap.SameBut.update s.heap l (Obj.mapSeq λ_=>(#[]:Array Value))
 generalize hh:((s.heap.update l (Obj.mapSeq λ_=>(#[]:Array Value))).push (seqObj "tuple" vs.toArray 0)).push (seqObj "list" #[] 0)=h3
 have k3:∀b o,(s.heap.update l (Obj.mapSeq λ_=>(#[]:Array Value))).get? b=some o->h3.get? b=some o:=λb o e=>by
  rw[<-hh];exact zD _ (zD _ e)
 have ho3:h3.get? l=some (seqObj "list" #[] e1):=k3 _ _ ho1
 have I3:Inv X pins σ H {s with heap:=h3}:=I.turned (t':=s.toks) (it:=l) (λb o hb e=>k3 b o ((sb.2 b hb).trans e)) fp.1 fp.2.1 fp.2.2.2.1 fp.2.2.2.2.1 fp.2.2.2.2.2
 have fin:∀(s':Shared) (q:List Nat),Inv X pins σ H s'->s'.heap.get? l=some (seqObj "list" #[] e1)->Order ys.length cs q->q.length=ys.length->
   wpAny (model X.prog X.w) A (seqEpoch l) (λafter s''=>wpAny (model X.prog X.w) A (Builtin.List.listUpdate (.ref l) λ_=>(q.map λi=>vs.getD i Value.none).toArray) (λ_ s3=>after=e1/\P (.done (.ret .none)) s3) E s'') E s':=λs' q I' ho' od lq=>by
  refine seqEpoch_at ho' rfl ?_
  refine listUpdate_at ho' rfl ⟨rfl,?_⟩ (Nat.zero_le _) (by simp only[List.size_toArray,zao,lq];omega)
  obtain⟨c2,hc2⟩:∃c2,(s'.heap.update l (Obj.mapSeq λ_=>(q.map λi=>vs.getD i Value.none).toArray)).get? l=some (seqObj "list" (q.map λi=>vs.getD i Value.none).toArray c2):=⟨_,get?_update_seq ho' λ_=>_⟩
  have sb':=Heap.SameBut.update s'.heap l (Obj.mapSeq λ_=>(q.map λi=>vs.getD i Value.none).toArray)
  exact h q c2 _ od hc2 (I'.turned (t':=s'.toks) (it:=l) (λb o hb e=>(sb'.2 b hb).trans e) fp.1 fp.2.1 fp.2.2.2.1 fp.2.2.2.2.1 fp.2.2.2.2.2)
 rw[list_sort_plain]
 refine zC (listItems_at ho rfl (zC (listUpdate_at ho rfl (zC (seqEpoch_at ho1 rfl (zC (wpAny_newTuple (zC (wpAny_newList (wpAny_holding ?_) (Nat.zero_le _))) (by show vs.length<=_;omega))))) (by simp only[List.size_toArray];omega) (Nat.zero_le _))))
 show wpAny _ A _ P E {s with heap:=((s.heap.update l (Obj.mapSeq λ_=>(#[]:Array Value))).push (seqObj "tuple" vs.toArray 0)).push (seqObj "list" #[] 0)}
 rw[hh]
 dsimp only
 by_cases h2:vs.toArray.size<2
 ·rw[if_pos h2,if_pos h2]
  refine zC (zI ?_)
  rw[StateT.run_pure]
  refine zC (zI ?_)
  dsimp only
  have hs:vs.length<2:=by simpa using h2
  have od:Order ys.length cs (List.range ys.length):=⟨List.Perm.refl _,λi j a b=>by
   obtain rfl:i=j:=()
   exact C_ _⟩
  have out:(arrOf (SortSt.mk' general' (vs.toArray.zip vs.toArray) #[] 7 none)).map (·.2)=((List.range ys.length).map λi=>vs.getD i Value.none).toArray:=by
   have ea:arrOf (SortSt.mk' general' (vs.toArray.zip vs.toArray) #[] 7 none)=vs.toArray.zip vs.toArray:=rfl
   rw[ea,el]
   exact Yc hs
  rw[out]
  refine zC (vE (fin _ _ I3 ho3 od (by simp)) (λafter s'' hq=> ?_) λ_ _ z=>z)
  refine zC (vE hq (λ_ s3 hz=> ?_) λ_ _ z=>z)
  obtain⟨rfl,hz⟩:=hz
  simp only[bne_self_eq_false,Bool.false_eq_true,if_false]
  exact zI hz
 ·rw[if_neg h2,if_neg h2]
  have hs:2<=vs.length:=by simpa using h2
  obtain⟨κ,kind,ask⟩:=Yn rk r ()
  have I4:Inv X ((l,seqObj "list" #[] e1)::pins) σ H {s with heap:=h3}:=I3.wQ λp hp=>by
   rcases List.mem_cons.mp hp with rfl | hp
   ·exact⟨ho3,fp.1,fp.2.1,fp.2.2.1,λv z=>by cases z⟩
   ·exact I3.pin p (xE _ hp)
  refine zC (kind I3 ?_)
  have way:=ZW (n:=vs.length) (O:=abD) (k:=λi=>cs.getD i []) ()
  have wp:=Way.wp (G:=λs'=>Inv X ((l,seqObj "list" #[] e1)::pins) σ H s') (cmp:=kas_ask X.prog X.w A κ vs)
   (R:=λp s'=>(Pm vs.length p/\Up (O:=abD) (λi=>cs.getD i []) p vs.length)/\Inv X ((l,seqObj "list" #[] e1)::pins) σ H s')
   (λi j hi hj C s' g hc=>ask i j hu () () g (hc s' g)) (λa s' h1 h2=>⟨h1,h2⟩) way I4
  refine zC (vE (kat_run (Q:=λst' s'=>∃p:Array Nat,arrOf st'=p.map (kas_item (vs.toArray.zip vs.toArray))/\failedOf st'=none/\(Pm vs.length p/\Up (O:=abD) (λi=>cs.getD i []) p vs.length)/\Inv X ((l,seqObj "list" #[] e1)::pins) σ H s')
   rfl hs () (λp st' s' _ a2 a3 a4=>⟨p,a2,a3,a4⟩) wp) ?_ λ_ _ e=>e)
  rintro⟨⟨⟩,st'⟩ s' ⟨p,har,hf,⟨pm,up⟩,I5⟩
  dsimp only
  rw[kat_snds rfl har]
  have ho5:=(I5.pin (l,seqObj "list" #[] e1) (xE _ xB)).1
  have I6:Inv X pins σ H s':=I5.wQ λp hp=>I5.pin p (xE _ (yT _ hp))
  have od:Order ys.length cs p.toList:=by
   refine⟨?_,λi j a b=> ?_⟩
   ·have:=Array.perm_iff_toList_perm.mp pm.pm
    rw[el]
    simpa using this
   ·have:=up i j a ()
    have g:∀i,p.toList.getD i 0=p.getD i 0:=λi=>by
     rw[Array.getD_eq_getD_getElem?,List.getD_eq_getElem?_getD,Array.getElem?_toList]
    rw[g,g]
    exact this
  refine zC (vE (fin s' p.toList I6 ho5 od (by rw[Array.length_toList,pm.sz,el])) (λafter s'' hq=> ?_) λ_ _ z=>z)
  refine zC (vE hq (λ_ s3 hz=> ?_) λ_ _ z=>z)
  obtain⟨rfl,hz⟩:=hz
  rw[hf]
  simp only[bne_self_eq_false,Bool.false_eq_true,if_false]
  exact zI hz
end
end L2
namespace L2
open PySem PySem.Spec PySem.W PySem.Calls PyProof.Rows
def acN(h:Heap)(d:Addr)(es:Array DictEntry)(ep:Nat):Prop:=∃o,h.get? d=some o/\o.ExactDict/\o.data= .dict es ep
theorem acN.keep(x:acN h d es ep)(k:∀o,h.get? d=some o->h'.get? d=some o):acN h' d es ep:=
 let⟨o,a,b⟩:=x;⟨o,k o a,b⟩
noncomputable def itO(f0 f1:Value)(d:Addr)(i n ep:Nat)(ok ov:Value):Obj:=
 {cls:= .type "dict_itemiterator",dict:=none,data:= .fields #[f0,f1,.ref d,.int i 0,.int n 0,.int ep 0,ok,ov],slots:= #[]}
def ah7(h:Heap)(it d S:Addr)(i n ep:Nat):Prop:=∃f0 f1 ok ov,h.get? it=some (itO f0 f1 d i n ep ok ov)/\(f0= .none\/∃(a:Addr) (b:Bool) (oa:Obj),f0=rawInt a/\f1= .bool b/\h.get? a=some oa/\a≠it/\a≠S)
theorem ah7.keep(x:ah7 h it d S i n ep)(k:∀b o,b≠S->h.get? b=some o->h'.get? b=some o)(hS:it≠S):ah7 h' it d S i n ep:=by
 obtain⟨f0,f1,ok,ov,e,z⟩:=x
 exact⟨f0,f1,ok,ov,k _ _ hS e,z.imp id λ⟨a,b,oa,q1,q2,q3,q4,q5⟩=>⟨a,b,oa,q1,q2,k _ _ q5 q3,q4,q5⟩⟩
section
variable{prog:Program}{w:World}{A:Around}{E:Value->Shared->Prop}{s:Shared}
theorem Vo{Q:Value->Shared->Prop}(hd:(d==sysModules)=false)(x:acN s.heap d es ep)
  (h:Q (.ref s.heap.objs.size) {s with heap:=s.heap.push {cls:= .type "dict_items",data:= .fields #[.ref d]}}):wpAny (model prog w) A (call (.builtin "dict.items") [.ref d]) Q E s:=by
 obtain⟨o,ho,ex,_⟩:=x
 have ty:s.TypeIs (.ref d) "dict" := ⟨o,ho,ex.1⟩
 refine uS PySem.F.slot_dict_items ty PySem.F.entry_dict_items ?_ (PySem.F.args_dict_items_1 _)
 unfold Builtin.«dict.items» Builtin.Dict.noArgs
 refine zC (zC (wpAny_notOrdered_dict ty (show wpAny _ _ (pure d) _ _ s from zI ?_)))
 show wpAny _ _ (Builtin.Dict.showsAll d >>= _) _ _ s
 unfold Builtin.Dict.showsAll
 rw[if_neg (by rw[hd];decide)]
 exact zC (zI (zC (wT (zI ⟨_,rfl,h⟩))))
end
section
variable{X:Cx}{pins:List (Addr×Obj)}{σ:St}{H:Hp}{s:Shared}{A:Around}{E:Value->Shared->Prop}
def Yw(ys:List V)(q:List Nat):List V:=q.map λi=>ys.getD i .non
theorem Z0(r:Vals ys vs)(hq:∀i∈q,i<ys.length):Vals (Yw ys q) (q.map λi=>vs.getD i Value.none):=by
 induction q with
 | nil=>exact .nil
 | cons i q ih=>
  refine .cons ?_ (ih λj hj=>hq j (yT _ hj))
  obtain⟨y,e,ry⟩:=Jx r (hq i xB)
  show RelV (ys.getD i .non) _
  rw[List.getD_eq_getElem?_getD,e]
  exact ry
theorem Order.lt(h:Order n cs q):∀i∈q,i<n:=λi hi=>by
 have:=(h.pm.mem_iff (a:=i)).mp hi
 simpa using this
theorem Rz(hu:A.units+2<cLine)
  (col:wpAny (model X.prog X.w) A.in1 (collect u) (λvs s1=>∃ys cs H1,Inv X pins σ H1 s1/\Vals ys vs/\ys.length<64/\Q3 X.K H1 ys cs/\∀q l,Order ys.length cs q->H1 l=none->Q (.ref l) (upd H1 l (.lst (Yw ys q)))) E s):
  wpAny (model X.prog X.w) A (call (.builtin "sorted") [u]) (EP X pins σ Q) E s:=by
 refine Calls.call_function_entry kind_sorted plain_sorted entry_sorted (args_sorted1 _) ?_
 unfold Builtin.«sorted»
 refine zC (m:=checkCount "sorted" 1 1 _) (zI (zC (vE col (λvs s1 hq=> ?_) λ_ _ z=>z)))
 obtain⟨ys,cs,H1,I1,r,h64,rk,q1⟩:=hq
 have line:(64:Nat)<=sizeLine:=by decide
 have el:=r.length
 refine zC (wpAny_newList ?_ ())
 have ho:(s1.heap.push {cls:= .type "list",data:= .seq vs.toArray}).get? s1.heap.objs.size=some (seqObj "list" vs.toArray 0):=yB _ rfl
 have I2:Inv X pins σ H1 {s1 with heap:=s1.heap.push {cls:= .type "list",data:= .seq vs.toArray}}:=I1.kept (t':=s1.toks) λb o e=>zD _ e
 have fp:=I1.Vv (zab _) (I1.hok.fresh (zab _))
 refine zC (wpAny_holding (uS slot_list_sort ⟨_,ho,rfl⟩ entry_list_sort (Yb I2 ?_ fp ho r h64 rk λq c s' od e I3=> ?_) (args_list_sort _)))
 ·have e:A.in1.in1.units<=A.units+2:=by first | exact zab _ | (simp only[Around.in1];omega)
  exact Nat.lt_of_le_of_lt e hu
 ·refine⟨_,rfl,zI ⟨_,rfl,.ref s1.heap.objs.size,_,I3.track (o:= .lst (Yw ys q)) fp (Heap.get?_none_of_le I1.sz) ⟨?_,_,c,Z0 r od.lt,e⟩,rfl,q1 q _ od fp.1⟩⟩
  have:=od.pm.length_eq
  simp only[Yw,zao]
  simp at this
  omega
def Jw(v d:Addr):HO:= .ext λh=>h.IsItemsView v d
def agj:V->List V->Hp->VK->Prop:=λx us H Q=>∃d,x= .ref d/\us=[]/\IsD H d/\∀v,H v=none->Q (.ref v) (upd H v (Jw v d))
theorem afv(h:(dz P w).is k u=true):RelV (kV k) u:=by
 rcases eV (show KD k u=true from h)with⟨i,t,rfl,rfl⟩ | ⟨x,t,rfl,rfl⟩
 ·exact⟨t,rfl⟩
 ·exact⟨t,rfl⟩
theorem abo:MtR X "dict.items" agj:=by
 intro pins s σ H x xs v us Q I rx rs h
 obtain⟨d,rfl,rfl,dd,q⟩:=h
 cases rs
 obtain rfl:v= .ref d:=rx
 have ty:=Vp I dd
 have dd':(∃kvs,Rd H d (.dK kvs))\/∃kvs,Rd H d (.dT kvs):=dd
 have ents:∃es ep,acN s.heap d es ep:=by
  rcases dd' with⟨kvs,e⟩ | ⟨kvs,e⟩
  ·obtain⟨_,_,_,_,o,es,ep,ho,ex,hd,_⟩:=e.ok I.hok
   exact⟨es,ep,o,ho,ex,hd⟩
  ·obtain⟨_,_,_,_,o,es,ep,ho,ex,hd,_⟩:=e.ok I.hok
   exact⟨es,ep,o,ho,ex,hd⟩
 obtain⟨es,ep,en⟩:=ents
 refine Vo ty.2.2 en ?_
 have g:(s.heap.push {cls:= .type "dict_items",data:= .fields #[.ref d]}).IsItemsView s.heap.objs.size d:=⟨_,yB _ rfl,rfl,rfl⟩
 refine⟨.ref s.heap.objs.size,_,I.laid (t':=s.toks) (o:=Jw s.heap.objs.size d) (λb o e=>zD _ e) (zab _) ⟨g,⟨_,yB _ rfl⟩,λh1 h2 a b=> ?_⟩,rfl,q _ (I.hok.fresh (zab _))⟩
 obtain⟨o,e1,e2,e3⟩:=a
 exact⟨o,b o e1,e2,e3⟩
theorem Parts.keep{K:Frag}{H H':Hp}(k:∀a xs,H a=some (.tup xs)->H' a=some (.tup xs)):∀{xs:List V} {c:List Int} {ks:List Nat},Parts K H xs c ks->Parts K H' xs c ks
 | _,_,_,.nil=> .nil
 | _,_,_,.cons p ps=> .cons (by
   cases p with
   | int i=>exact .int i
   | str x=>exact .str x
   | tup e=>exact .tup (k _ _ e)) (ps.keep k)
end
end L2
namespace L2
open PySem PySem.Spec PyProof.Rows
def ae0(xs:List Str)(js:List Nat)(g:TG)(tt:TT)(te:TE)(σ:St)(Q:VK)(J:It)(H1:Hp):Prop:=
 ∃W:Nat->Nat->List V->Hp->Prop,(∃m,W 0 m [] H1)/\∀i m ys H,W i m ys H->
  (J.stop i H/\ys.length<=sizeLine/\∀p,H p=none->Q (.ref p) (upd H p (.lst ys)))\/
  (J.go i H/\∃N:List V->Hp->Prop,(∀ys' H',N ys' H'->ys'.length<=sizeLine/\∃m',m'<m/\W (i+1) m' ys' H')/\∀x H',J.X6 i H x H'->g x (Hh xs++caps js σ) H' λσ1 H1=>(σ1.length=(Hh xs++caps js σ).length/\σ1.drop xs.length=caps js σ)/\tt σ1 H1 λb H2=>
   if b=true then te σ1 H2 λy H3=>N (ys++[y]) H3 else N ys H2)
def af0(xs:List Str)(js:List Nat)(wi:TI)(g:TG)(tt:TT)(te:TE):TE:=λσ H Q=>wi σ H λJ H1=>ae0 xs js g tt te σ Q J H1
section
variable{X:Cx}{tg elt iter:Expr}{ifs:List Expr}{scope:Scope}{xs cs:List Str}{js:List Nat}{tt:TT}{te:TE}{pos:Pos}
theorem aba(hc:X.calm=true)(xs cs:List Str)(js:List Nat)(hi:PI X (tg) iter wi)(hcap:tV X scope cs js)(ht:∀cl C fp s H,PTs (c7 X scope cl C (xs++cs) fp s H) ifs tt)(he:∀cl C fp s H,PE (c7 X scope cl C (xs++cs) fp s H) elt te)
  (hall:∀y∈scope.names,y.2= .free->y.1∈cs) (hcell:∀y∈scope.names,y.2≠ .cell) (hnames:∀y∈scope.names,y.2= .local->scope.names.lookup y.1=some .local) (hg:∀cl C fp s H,PG (c7 X scope cl C (xs++cs) fp s H) tg g)
  (hkind:scope.kind= .function:=by rfl) (hs:∀v,foldedSetIterable iter X.env v=pure v:=by intro _;rfl):
  PE X (.ListComp elt [⟨tg,iter,ifs,0⟩] scope pos) (af0 xs js wi g tt te):=by
 intro pins s σ H Q I h
 obtain⟨cl,abT,Dh,Mt⟩:=Dk (env:=X.env) (scope:=scope) λn hn=>by
  obtain⟨j,hj⟩:=List.getElem?_of_mem (hall _ hn rfl)
  obtain⟨_,_,_,_,k⟩:=hcap.get hj
  exact I.ok.has n k
 rw[eval_ListComp]
 refine wpAny_comprehension_free (use:=none) rfl hs abT hkind hnames (fP (hi pins s σ H _ I h) λv s1 h1=>fP h1 λitv s2 h2=> ?_)
 obtain⟨it,fp,tn,J,H2,e,I2,T,st2,f2,W,w0,step⟩:=h2
 subst e
 refine HN (Q:=Q) (RR:=λacc C=>compPost (model X.prog X.w) X.A X.xe none (EP X pins σ Q) acc C) hc hcap ht he hcell hkind hg Dh Mt I2 T st2 f2 W w0 step λD C H3 s4 m' I4 hn hC hH q=> ?_
 exact⟨m',hn,λh' sb=>⟨.ref D,H3,I2.letGo I4 hC hH sb,rfl,q⟩⟩
end
end L2
namespace L2
open PySem PySem.Spec PySem.W PySem.Calls PyProof.Rows
section
variable{X:Cx}{pins:List (Addr×Obj)}{σ:St}{H:Hp}{s:Shared}
theorem acX(hl:acc.length=ys.length)(h:∀(j:Nat) (v:Value),acc[j]? = some v->∃y,ys[j]? = some y/\RelV y v):Vals ys acc:=by
 induction ys generalizing acc with
 | nil=>cases acc with
  | nil=>exact .nil
  | cons _ _=>simp at hl
 | cons y ys ih=>cases acc with
  | nil=>simp at hl
  | cons v acc=>
   refine .cons ?_ (ih (by simpa using hl) λj u hu=> ?_)
   ·obtain⟨y',e,r⟩:=h 0 v rfl
    simp at e
    subst e
    exact r
   ·obtain⟨y',e,r⟩:=h (j+1) u (by simpa using hu)
    exact⟨y',by simpa using e,r⟩
theorem ahe{κ:Type}{kvs:List (κ×V)}{vs:List (κ×Value)}(r:KV kvs vs){j:Nat}{k:κ}{x:Value}(h:vs[j]? = some (k,x)):∃v,kvs[j]? = some (k,v)/\RelV v x:=by
 unfold KV at r
 induction r generalizing j with
 | nil=>simp at h
 | @cons p q _ _ a _ ih=>
  cases j with
  | zero=>
   simp at h
   subst h
   exact⟨p.2,by rw[<-show p.1=k from a.1];rfl,a.2⟩
  | succ j=>
   obtain⟨v,e,r⟩:=ih (j:=j) (by simpa using h)
   exact⟨v,by simpa using e,r⟩
end
end L2
namespace S
open PySem PySem.Spec PyProof.Rows L2
inductive D where
 | non | bl (b:Bool) | int (i:Int) | str (x:Str) | tup (ds:List D) | ref (n:Nat) | cl (ds:List D) | ty (n:String) | cls (c:Nat) | exc (c:Nat) (d:D) | mW (ds:List D)
inductive MO where
 | lst (ds:List D) | ins (c:Nat) (fs:List (Str×D)) | dk (kvs:List (Key×D)) | dt (kvs:List (List Key×D)) | fd (kvs:List (Key×D))
abbrev St:=L2.St
abbrev Mem:=List MO
abbrev Sl:=List (Option D)
inductive Out (α:Type) where
 | ok (a:α) (M:Mem)
 | exc (c:Nat) (d:D) (M:Mem)
 | bad
def Out.bind{α β:Type}(o:Out α)(f:α->Mem->Out β):Out β:=match o with
 | .ok a M=>f a M
 | .exc c d M=> .exc c d M
 | .bad=> .bad
@[simp] theorem Out.gb{α β:Type}(c:Nat)(d:D)(M:Mem)(f:α->Mem->Out β):(Out.exc c d M:Out α).bind f= .exc c d M:=id rfl
@[simp] theorem Out.b_{α β:Type}(a:α)(M:Mem)(f:α->Mem->Out β):(Out.ok a M).bind f=f a M:=id rfl
@[simp] theorem Out.cW{α β:Type}(f:α->Mem->Out β):(Out.bad:Out α).bind f= .bad:=id rfl
def FrL(K:Frag)(H:Hp)(a:Addr)(xs:List V):Prop:=(∃o,H a=some (.lU o (.lst xs)))\/
 ∃(o:Obj) (its:Array Value) (n:Nat),K.lookup a=some o/\o.cls= .type "list" /\ o.dict=none/\o.data= .seq its n/\its.size<=sizeLine/\Vals xs its.toList
theorem FrL.sq{K:Frag}{H:Hp}{a:Addr}{xs:List V}(h:FrL K H a xs):pB K H a xs:=h.elim (λz=> .inl (.inr z)) .inr
def KT(K:Frag)(a:Addr)(xs:List V):Prop:=∃(o:Obj) (its:Array Value) (n:Nat),K.lookup a=some o/\o.cls= .type "tuple" /\ o.data= .seq its n/\its.size<=sizeLine/\Vals xs its.toList
mutual
inductive DV (K:Frag) (ct ι:Nat->Addr) (n:Nat) (H:Hp):D->V->Prop
 | non:DV K ct ι n H .non .non
 | bl (b:Bool):DV K ct ι n H (.bl b) (.bl b)
 | int (i:Int):DV K ct ι n H (.int i) (.int i)
 | str (x:Str):DV K ct ι n H (.str x) (.str x)
 | tup {a:Addr} {xs:List V} {ds:List D}:H a=some (.tup xs)->h_ K ct ι n H ds xs->DV K ct ι n H (.tup ds) (.ref a)
 | ref {i:Nat}:i<n->DV K ct ι n H (.ref i) (.ref (ι i))
 | cl {a:Addr} {xs:List V} {ds:List D}:FrL K H a xs->h_ K ct ι n H ds xs->DV K ct ι n H (.cl ds) (.ref a)
 | ty (s:String):DV K ct ι n H (.ty s) (.ty s)
 | cls (c:Nat):DV K ct ι n H (.cls c) (.ref (ct c))
 | exc {a dx:Addr} {c:Nat} {d:D} {v:V}:H a=some (xC a (ct c) dx)->H dx=some (.xd [("at",v)])->DV K ct ι n H d v->DV K ct ι n H (.exc c d) (.ref a)
 | mW {a:Addr} {xs:List V} {ds:List D}:KT K a xs->h_ K ct ι n H ds xs->DV K ct ι n H (.mW ds) (.ref a)
inductive h_ (K:Frag) (ct ι:Nat->Addr) (n:Nat) (H:Hp):List D->List V->Prop
 | nil:h_ K ct ι n H [] []
 | cons {d:D} {x:V} {ds:List D} {xs:List V}:DV K ct ι n H d x->h_ K ct ι n H ds xs->h_ K ct ι n H (d::ds) (x::xs)
end
structure Ext(K:Frag)(ι:Nat->Addr)(n:Nat)(H:Hp)(ι':Nat->Addr)(n':Nat)(H':Hp):Prop where
 tup:∀a xs,H a=some (.tup xs)->H' a=some (.tup xs)
 lU:∀a xs,FrL K H a xs->FrL K H' a xs
 ex:∀a φ,H a=some (.ext φ)->H' a=some (.ext φ)
 xd:∀a fs,H a=some (.xd fs)->H' a=some (.xd fs)
 fz:∀a o u,H a=some (.lU o u)->H' a=some (.lU o u)
 le:n<=n'
 same:∀i,i<n->ι' i=ι i
theorem Ext.refl{K:Frag}{ι:Nat->Addr}{n:Nat}{H:Hp}:Ext K ι n H ι n H:=⟨λ_ _ h=>h,λ_ _ h=>h,λ_ _ h=>h,λ_ _ h=>h,λ_ _ _ h=>h,zab _,λ_ _=>rfl⟩
theorem Ext.trans{K:Frag}{ι cg gP:Nat->Addr}{n n1 n2:Nat}{H H1 H2:Hp}(a:Ext K ι n H cg n1 H1)(b:Ext K cg n1 H1 gP n2 H2):Ext K ι n H gP n2 H2:=
 ⟨λx xs h=>b.tup x xs (a.tup x xs h),λx xs h=>b.lU x xs (a.lU x xs h),λx xs h=>b.ex x xs (a.ex x xs h),λx xs h=>b.xd x xs (a.xd x xs h),λx o u h=>b.fz x o u (a.fz x o u h),yY a.le b.le,λi hi=>(b.same i (yA hi a.le)).trans (a.same i hi)⟩
mutual
theorem DV.mono{K:Frag}{ct ι ι':Nat->Addr}{n n':Nat}{H H':Hp}(e:Ext K ι n H ι' n' H'):∀{d:D} {v:V},DV K ct ι n H d v->DV K ct ι' n' H' d v
 | _,_,.non=> .non
 | _,_,.bl b=> .bl b
 | _,_,.int i=> .int i
 | _,_,.str x=> .str x
 | _,_,.tup h hs=> .tup (e.tup _ _ h) (h_.mono e hs)
 | _,_,.ref (i:=i) h=>by rw[<-e.same i h];exact .ref (yA h e.le)
 | _,_,.cl h hs=> .cl (e.lU _ _ h) (h_.mono e hs)
 | _,_,.ty s=> .ty s
 | _,_,.cls c=> .cls c
 | _,_,.exc h1 h2 h3=> .exc (e.ex _ _ h1) (e.xd _ _ h2) (DV.mono e h3)
 | _,_,.mW h hs=> .mW h (h_.mono e hs)
theorem h_.mono{K:Frag}{ct ι ι':Nat->Addr}{n n':Nat}{H H':Hp}(e:Ext K ι n H ι' n' H'):∀{ds:List D} {vs:List V},h_ K ct ι n H ds vs->h_ K ct ι' n' H' ds vs
 | _,_,.nil=> .nil
 | _,_,.cons h hs=> .cons (DV.mono e h) (h_.mono e hs)
end
section
variable{K:Frag}{ct ι:Nat->Addr}{n:Nat}{H:Hp}
theorem h_.length:∀{ds:List D} {vs:List V},h_ K ct ι n H ds vs->vs.length=ds.length
 | _,_,.nil=>rfl
 | _,_,.cons _ h=>congrArg (· + 1) h.length
theorem h_.at:∀{ds:List D} {vs:List V} {i:Nat} {d:D},h_ K ct ι n H ds vs->ds[i]? = some d->∃v,vs[i]? = some v/\DV K ct ι n H d v
 | _,_,_,_,.nil,e=>by simp at e
 | _,_,0,_,.cons h _,e=>by simp at e;subst e;exact⟨_,rfl,h⟩
 | _,_,i+1,_,.cons _ hs,e=>by simpa using hs.at (i:=i) (by simpa using e)
theorem h_.append:∀{ds es:List D} {vs ws:List V},h_ K ct ι n H ds vs->h_ K ct ι n H es ws->h_ K ct ι n H (ds++es) (vs++ws)
 | _,_,_,_,.nil,h=>h
 | _,_,_,_,.cons h hs,h'=> .cons h (hs.append h')
theorem h_.take:∀{ds:List D} {vs:List V} (k:Nat),h_ K ct ι n H ds vs->h_ K ct ι n H (ds.take k) (vs.take k)
 | _,_,0,_=>by simp;exact .nil
 | _,_,_+1,.nil=>by simp;exact .nil
 | _,_,k+1,.cons h hs=>by simp;exact .cons h (hs.take k)
theorem h_.drop:∀{ds:List D} {vs:List V} (k:Nat),h_ K ct ι n H ds vs->h_ K ct ι n H (ds.drop k) (vs.drop k)
 | _,_,0,h=>by simpa using h
 | _,_,_+1,.nil=>by simp;exact .nil
 | _,_,k+1,.cons _ hs=>by simp;exact hs.drop k
theorem h_.set:∀{ds:List D} {vs:List V} {d:D} {v:V} (i:Nat),h_ K ct ι n H ds vs->DV K ct ι n H d v->h_ K ct ι n H (ds.set i d) (vs.set i v)
 | _,_,_,_,_,.nil,_=>by simp;exact .nil
 | _,_,_,_,0,.cons _ hs,h=>by simp;exact .cons h hs
 | _,_,_,_,i+1,.cons h' hs,h=>by simp;exact .cons h' (hs.set i h)
end
inductive Od (K:Frag) (ct ι:Nat->Addr) (n:Nat) (H:Hp):List (Str×D)->List (Str×V)->Prop
 | nil:Od K ct ι n H [] []
 | cons {x:Str} {d:D} {v:V} {fs:List (Str×D)} {vs:List (Str×V)}:DV K ct ι n H d v->Od K ct ι n H fs vs->Od K ct ι n H ((x,d)::fs) ((x,v)::vs)
theorem Od.mono{K:Frag}{ct ι ι':Nat->Addr}{n n':Nat}{H H':Hp}(e:Ext K ι n H ι' n' H'):∀{fs:List (Str×D)} {vs:List (Str×V)},Od K ct ι n H fs vs->Od K ct ι' n' H' fs vs
 | _,_,.nil=> .nil
 | _,_,.cons h hs=> .cons (h.mono e) (hs.mono e)
noncomputable def putD(f:Str)(d:D):List (Str×D)->List (Str×D)
 | []=>[(f,d)]
 | (x,e)::r=>if x=f then(x,d)::r else(x,e)::putD f d r
section
variable{K:Frag}{ct ι:Nat->Addr}{n:Nat}{H:Hp}
theorem Od.length:∀{fs:List (Str×D)} {vs:List (Str×V)},Od K ct ι n H fs vs->vs.length=fs.length
 | _,_,.nil=>rfl
 | _,_,.cons _ h=>congrArg (· + 1) h.length
theorem Od.look:∀{fs:List (Str×D)} {vs:List (Str×V)} {d:D},Od K ct ι n H fs vs->fs.lookup x=some d->∃v,vs.lookup x=some v/\DV K ct ι n H d v
 | _,_,_,.nil,e=>by simp at e
 | _,_,d,.cons (x:=y) h hs,e=>by
  rw[List.lookup_cons]at e ⊢
  cases z:x==y with
  | true=>rw[z]at e;exact⟨_,rfl,by cases e;exact h⟩
  | false=>rw[z]at e;exact hs.look e
theorem Od.aft:∀{fs:List (Str×D)} {vs:List (Str×V)},Od K ct ι n H fs vs->fs.lookup x=none->vs.lookup x=none
 | _,_,.nil,_=>rfl
 | _,_,.cons (x:=y) h hs,e=>by
  rw[List.lookup_cons]at e ⊢
  cases z:x==y with
  | true=>rw[z]at e;cases e
  | false=>rw[z]at e;exact hs.aft e
end
inductive Be (K:Frag) (ct ι:Nat->Addr) (n:Nat) (H:Hp) {κ:Type}:List (κ×D)->List (κ×V)->Prop
 | nil:Be K ct ι n H [] []
 | cons {x:κ} {d:D} {v:V} {fs:List (κ×D)} {vs:List (κ×V)}:DV K ct ι n H d v->Be K ct ι n H fs vs->Be K ct ι n H ((x,d)::fs) ((x,v)::vs)
theorem Be.mono{K:Frag}{ct ι ι':Nat->Addr}{n n':Nat}{H H':Hp}(e:Ext K ι n H ι' n' H'){κ:Type}:∀{fs:List (κ×D)} {vs:List (κ×V)},Be K ct ι n H fs vs->Be K ct ι' n' H' fs vs
 | _,_,.nil=> .nil
 | _,_,.cons h hs=> .cons (h.mono e) (hs.mono e)
theorem Be.length{K:Frag}{ct ι:Nat->Addr}{n:Nat}{H:Hp}{κ:Type}:∀{fs:List (κ×D)} {vs:List (κ×V)},Be K ct ι n H fs vs->vs.length=fs.length
 | _,_,.nil=>rfl
 | _,_,.cons _ h=>congrArg (· + 1) h.length
def OR(K:Frag)(ct ι:Nat->Addr)(n:Nat)(H:Hp)(a:Addr):MO->Prop
 | .lst ds=>∃vs,H a=some (.lst vs)/\h_ K ct ι n H ds vs
 | .ins c fs=>∃dx vs,H a=some (.ins (ct c) dx vs)/\Od K ct ι n H fs vs
 | .dk kvs=>∃vs,H a=some (.dK vs)/\Be K ct ι n H kvs vs
 | .dt kvs=>∃vs,H a=some (.dT vs)/\Be K ct ι n H kvs vs
 | .fd kvs=>∃o vs,H a=some (.lU o (.dK vs))/\Be K ct ι n H kvs vs
structure Rl(K:Frag)(ct ι:Nat->Addr)(M:Mem)(H:Hp):Prop where
 inj:∀i j,i<M.length->j<M.length->ι i=ι j->i=j
 obj:∀(i:Nat) (o:MO),M[i]? = some o->OR K ct ι M.length H (ι i) o
structure Ws(K:Frag)(ct ι:Nat->Addr)(e:Sl)(M:Mem)(σ:St)(H:Hp):Prop where
 rl:Rl K ct ι M H
 len:σ.length=e.length
 env:∀(i:Nat) (d:D),e[i]? = some (some d)->∃v,σ[i]? = some (some v)/\DV K ct ι M.length H d v
section
variable{K:Frag}{ct ι:Nat->Addr}{M:Mem}{H:Hp}
theorem OR.some(h:OR K ct ι n H a o):∃u,H a=some u:=by
 cases o with
 | lst ds=>obtain⟨vs,e,_⟩:=h;exact⟨_,e⟩
 | ins c fs=>obtain⟨dx,vs,e,_⟩:=h;exact⟨_,e⟩
 | dk kvs=>obtain⟨vs,e,_⟩:=h;exact⟨_,e⟩
 | dt kvs=>obtain⟨vs,e,_⟩:=h;exact⟨_,e⟩
 | fd kvs=>obtain⟨o,vs,e,_⟩:=h;exact⟨_,e⟩
theorem Qv(hp:∀b u,H p≠some (.lU b u))(h:FrL K H a xs):FrL K (upd H p o) a xs:=by
 rcases h with⟨b,h⟩ | h
 ·have ne:a≠p:=λe=>by subst e;exact hp _ _ h
  exact .inl ⟨b,by rw[aL ne];exact h⟩
 ·exact .inr h
theorem abm(hp:H p=none):∀b u,H p≠some (.lU b u):=λb u h=>by rw[hp]at h;cases h
theorem OR.keep(e:Ext K ι n H ι' n' H')(ea:a'=a)(hh:H' a=H a)(h:OR K ct ι n H a o):OR K ct ι' n' H' a' o:=by
 subst ea
 cases o with
 | lst ds=>obtain⟨vs,q,r⟩:=h;exact⟨vs,by rw[hh];exact q,r.mono e⟩
 | ins c fs=>obtain⟨dx,vs,q,r⟩:=h;exact⟨dx,vs,by rw[hh];exact q,r.mono e⟩
 | dk kvs=>obtain⟨vs,q,r⟩:=h;exact⟨vs,by rw[hh];exact q,r.mono e⟩
 | dt kvs=>obtain⟨vs,q,r⟩:=h;exact⟨vs,by rw[hh];exact q,r.mono e⟩
 | fd kvs=>obtain⟨o,vs,q,r⟩:=h;exact⟨o,vs,by rw[hh];exact q,r.mono e⟩
def jy(ι:Nat->Addr)(n:Nat)(p:Addr):Nat->Addr:=λi=>if i=n then p else ι i
theorem qg(hp:H p=none)(h:H a=some u):upd H p o a=some u:=by rw[aL (bJ h hp)];exact h
theorem Ext.fresh(hp:H p=none):Ext K ι n H ι n (upd H p o):=⟨λ_ _ h=>qg hp h,λ_ _ h=>Qv (abm hp) h,λ_ _ h=>qg hp h,λ_ _ h=>qg hp h,λ_ _ _ h=>qg hp h,zab _,λ_ _=>rfl⟩
theorem Rl.lt(R:Rl K ct ι M H)(h:M[i]? = some o):∃u,H (ι i)=some u:=(R.obj i o h).some
theorem Rl.fresh(R:Rl K ct ι M H)(hp:H p=none):Rl K ct ι M (upd H p o):=by
 refine⟨R.inj,λi x h=> ?_⟩
 obtain⟨u,hu⟩:=R.lt h
 exact(R.obj i x h).keep (Ext.fresh hp) rfl (aL (bJ hu hp))
theorem Ext.new(hp:H p=none):Ext K ι M.length H (jy ι M.length p) (M.length+1) (upd H p o):=
 ⟨λ_ _ h=>qg hp h,λ_ _ h=>Qv (abm hp) h,λ_ _ h=>qg hp h,λ_ _ h=>qg hp h,λ_ _ _ h=>qg hp h,Nat.le_succ _,λi hi=>by unfold jy;rw[if_neg (xD hi)]⟩
theorem Rl.new(R:Rl K ct ι M H)(hp:H p=none)(h:OR K ct (jy ι M.length p) (M.length+1) (upd H p o) p x):Rl K ct (jy ι M.length p) (M++[x]) (upd H p o):=by
 have ne:∀i,i<M.length->ι i≠p:=λi hi=>by
  obtain⟨u,hu⟩:=R.lt (zac hi)
  exact bJ hu hp
 have el:(M++[x]).length=M.length+1:=by simp
 refine⟨λi j hi hj e=> ?_,λi y hy=> ?_⟩
 ·rw[el]at hi hj
  unfold jy at e
  by_cases a:i=M.length
  ·by_cases b:j=M.length
   ·rw[a,b]
   ·rw[if_pos a,if_neg b]at e
    exact absurd e.symm (ne j ())
  ·by_cases b:j=M.length
   ·rw[if_neg a,if_pos b]at e
    exact absurd e (ne i ())
   ·rw[if_neg a,if_neg b]at e
    exact R.inj i j () () e
 ·rw[el]
  by_cases a:i<M.length
  ·rw[zae a]at hy
   obtain⟨u,hu⟩:=R.lt hy
   refine(R.obj i y hy).keep (Ext.new hp) ?_ (aL (bJ hu hp))
   unfold jy
   rw[if_neg (xD a)]
  ·have hi:i<(M++[x]).length:=(List.getElem?_eq_some_iff.mp hy).1
   have e:i=M.length:=by rw[el]at hi;omega
   subst e
   rw[zad (zab _)]at hy
   simp at hy
   subst hy
   have:jy ι M.length p M.length=p:=by unfold jy;rw[if_pos rfl]
   rw[this]
   exact h
theorem Ext.chg(h:H a=some u)(hu:∀xs,u≠ .tup xs)(hz:∀b x,u≠ .lU b x)(hx:∀φ,u≠ .ext φ:=by exact λ_ z=>nomatch z)(hd:∀fs,u≠ .xd fs:=by exact λ_ z=>nomatch z):Ext K ι n H ι n (upd H a o):=
 ⟨λb xs q=>by
  rw[aL (λe=>by subst e;rw[h]at q;exact hu xs (xI q))];exact q,λ_ _ q=>Qv (λb x r=>by rw[h]at r;exact hz b x (xI r)) q,λb φ q=>by
  rw[aL (λe=>by subst e;rw[h]at q;exact hx φ (xI q))];exact q,λb fs q=>by
  rw[aL (λe=>by subst e;rw[h]at q;exact hd fs (xI q))];exact q,λb x y q=>by
  rw[aL (λe=>by subst e;rw[h]at q;exact hz x y (xI q))];exact q,zab _,λ_ _=>rfl⟩
theorem Rl.chg(R:Rl K ct ι M H)(hi:i<M.length)(h:H (ι i)=some u)(hu:∀xs,u≠ .tup xs)(hz:∀b x,u≠ .lU b x)(hx:OR K ct ι M.length (upd H (ι i) o) (ι i) x)(hex:∀φ,u≠ .ext φ:=by exact λ_ z=>nomatch z)(hxd:∀fs,u≠ .xd fs:=by exact λ_ z=>nomatch z):Rl K ct ι (M.set i x) (upd H (ι i) o):=by
 refine⟨λj k hj hk e=>R.inj j k (by simpa using hj) (by simpa using hk) e,λj y hy=> ?_⟩
 rw[List.length_set]
 by_cases e:i=j
 ·subst e
  rw[zak hi]at hy
  cases hy
  exact hx
 ·rw[zaj e]at hy
  have hj:j<M.length:=(List.getElem?_eq_some_iff.mp hy).1
  exact(R.obj j y hy).keep (Ext.chg h hu hz hex hxd) rfl (aL λz=>e (R.inj i j hi hj z.symm))
theorem Ws.ext(w:Ws K ct ι e M σ H)(x:Ext K ι M.length H ι' M'.length H')(r:Rl K ct ι' M' H'):Ws K ct ι' e M' σ H':=
 ⟨r,w.len,λi d h=>let⟨v,a,b⟩:=w.env i d h;⟨v,a,b.mono x⟩⟩
theorem Ws.set(w:Ws K ct ι e M σ H)(i:Nat)(h:DV K ct ι M.length H d v):Ws K ct ι (e.set i (some d)) M (σ.set i (some v)) H:=by
 refine⟨w.rl,by simp[w.len],λj d' hj=> ?_⟩
 by_cases z:i=j
 ·subst z
  have hi:i<e.length:=by have:=(List.getElem?_eq_some_iff.mp hj).1;simpa using this
  rw[zak hi]at hj
  cases hj
  exact⟨v,zak (by rw[w.len];exact hi),h⟩
 ·rw[zaj z]at hj
  obtain⟨v',a,b⟩:=w.env j d' hj
  exact⟨v',by rw[zaj z];exact a,b⟩
end
theorem Ws.clear{K:Frag}{ct ι:Nat->Addr}{M:Mem}{H:Hp}{e:Sl}{σ:St}(w:Ws K ct ι e M σ H)(i:Nat):Ws K ct ι (e.set i none) M (σ.set i none) H:=by
 refine⟨w.rl,by simp[w.len],λj d' hj=> ?_⟩
 by_cases z:i=j
 ·subst z
  have hi:i<e.length:=by have:=(List.getElem?_eq_some_iff.mp hj).1;simpa using this
  rw[zak hi]at hj
  cases hj
 ·rw[zaj z]at hj
  obtain⟨v',a,b⟩:=w.env j d' hj
  exact⟨v',by rw[zaj z];exact a,b⟩
abbrev XW:=Addr->Addr->Hp->Prop
def wAt(W:bA)(σ:St):XW:=λC dx H=>W C dx σ H
def W0:bA:=λ_ _ _ _=>False
def gq{α β:Type}(rel:(Nat->Addr)->Mem->Hp->α->β->Prop)(K:Frag)(ct:Nat->Addr)(w:XW)(ι:Nat->Addr)(n:Nat)(H:Hp)(o:Out α)(Q:β->Hp->Prop):Prop:=match o with
 | .ok a M'=>∀ι' b H',Ext K ι n H ι' M'.length H'->Rl K ct ι' M' H'->rel ι' M' H' a b->Q b H'
 | .exc c d M'=>∀ι' dx v H',Ext K ι n H ι' M'.length H'->Rl K ct ι' M' H'->H' dx=some (.xd [("at",v)])->DV K ct ι' M'.length H' d v->w (ct c) dx H'
 | .bad=>False
def tG{α β:Type}(rel:(Nat->Addr)->Mem->Hp->α->β->Prop)(K:Frag)(ct:Nat->Addr)(W:bA)(m:Sl->Mem->Out α)(σ:St)(H:Hp)(Q:β->Hp->Prop):Prop:=
 ∃ι e M,Ws K ct ι e M σ H/\gq rel K ct (wAt W σ) ι M.length H (m e M) Q
abbrev dm(K:Frag)(ct:Nat->Addr):(Nat->Addr)->Mem->Hp->D->V->Prop:=λι M H d v=>DV K ct ι M.length H d v
abbrev Ij(K:Frag)(ct:Nat->Addr):(Nat->Addr)->Mem->Hp->List D->List V->Prop:=λι M H d v=>h_ K ct ι M.length H d v
abbrev Gp:(Nat->Addr)->Mem->Hp->Bool->Bool->Prop:=λ_ _ _ a b=>a=b
abbrev ME:=Sl->Mem->Out D
abbrev MT:=Sl->Mem->Out Bool
abbrev MA:=Sl->Mem->Out (List D)
def SE(X:Cx)(ct:Nat->Addr)(W:bA)(e:Expr)(m:ME):Prop:=PE X e (tG (dm X.K ct) X.K ct W m)
def Zw(X:Cx)(ct:Nat->Addr)(W:bA)(e:Expr)(m:MT):Prop:=PT X e (tG Gp X.K ct W m)
def SW(X:Cx)(ct:Nat->Addr)(W:bA)(e:Expr)(m:MT):Prop:=PW X e (tG Gp X.K ct W m)
def SA(X:Cx)(ct:Nat->Addr)(W:bA)(es:List Expr)(m:MA):Prop:=PA X es (tG (Ij X.K ct) X.K ct W m)
theorem SW.pt(h:SW X ct W e m):Zw X ct W e m:=PW.pt h
section
variable{X:Cx}{ct:Nat->Addr}
theorem PE.imp(h:PE X e t)(hi:∀σ H Q,t' σ H Q->t σ H Q):PE X e t':=λpins s σ H Q I q=>h pins s σ H Q I (hi σ H Q q)
theorem PT.imp(h:PT X e t)(hi:∀σ H Q,t' σ H Q->t σ H Q):PT X e t':=λpins s σ H Q I q=>h pins s σ H Q I (hi σ H Q q)
theorem PW.imp(h:PW X e t)(hi:∀σ H Q,t' σ H Q->t σ H Q):PW X e t':=λwh pins s σ H Q I q=>h wh pins s σ H Q I (hi σ H Q q)
theorem PA.imp(h:PA X es t)(hi:∀σ H Q,t' σ H Q->t σ H Q):PA X es t':=λpos pins s σ H Q I q=>h pos pins s σ H Q I (hi σ H Q q)
end
theorem gq.ext{α β:Type}{rel:(Nat->Addr)->Mem->Hp->α->β->Prop}{K:Frag}{ct ι ι':Nat->Addr}{w:XW}{n n':Nat}{H H':Hp}{o:Out α}{Q:β->Hp->Prop}(h:gq rel K ct w ι n H o Q)(x:Ext K ι n H ι' n' H'):gq rel K ct w ι' n' H' o Q:=by
 cases o with
 | ok a M=>exact λgP b H2 x2 r q=>h gP b H2 (x.trans x2) r q
 | exc c d M=>exact λgP dx v H2 x2 r q1 q2=>h gP dx v H2 (x.trans x2) r q1 q2
 | bad=>exact h
theorem gq.mono{α β:Type}{rel:(Nat->Addr)->Mem->Hp->α->β->Prop}{K:Frag}{ct ι:Nat->Addr}{w:XW}{n:Nat}{H:Hp}{o:Out α}{Q Q':β->Hp->Prop}(h:gq rel K ct w ι n H o Q)(x:∀b H,Q b H->Q' b H):gq rel K ct w ι n H o Q':=by
 cases o with
 | ok a M=>exact λgP b H2 x2 r q=>x b H2 (h gP b H2 x2 r q)
 | exc c d M=>exact h
 | bad=>exact h
def aol{α β γ δ:Type}(dM:(Nat->Addr)->Mem->Hp->α->β->Prop)(Ww:(Nat->Addr)->Mem->Hp->γ->δ->Prop)(K:Frag)(ct:Nat->Addr)(W:bA)(f:α->Sl->Mem->Out γ)(σ:St)(Q:δ->Hp->Prop)(b:β)(H1:Hp):Prop:=
 ∃ι e M a,Ws K ct ι e M σ H1/\dM ι M H1 a b/\gq Ww K ct (wAt W σ) ι M.length H1 (f a e M) Q
theorem bN{α β γ δ:Type}{dM:(Nat->Addr)->Mem->Hp->α->β->Prop}{Ww:(Nat->Addr)->Mem->Hp->γ->δ->Prop}{K:Frag}{ct:Nat->Addr}{W:bA}{ma:Sl->Mem->Out α}{f:α->Sl->Mem->Out γ}{σ:St}{H:Hp}{Q:δ->Hp->Prop}
  (h:tG Ww K ct W (λe M=>(ma e M).bind λa M1=>f a e M1) σ H Q):tG dM K ct W ma σ H (aol dM Ww K ct W f σ Q):=by
 obtain⟨ι,e,M,w,p⟩:=h
 refine⟨ι,e,M,w,?_⟩
 cases z:ma e M with
 | bad=>simp only[z,Out.cW]at p;exact p
 | exc xc xd xM=>simp only[z,Out.gb]at p;exact p
 | ok a M1=>
  simp only[z,Out.b_]at p
  exact λcg b H1 x r q=>⟨cg,e,M1,a,w.ext x r,q,p.ext x⟩
section
variable{X:Cx}{ct:Nat->Addr}{W:bA}{a b c:Expr}{ma mb mc:ME}{pos:Pos}
@[irreducible] def aq(i:Nat):ME:=λe M=>match e[i]? with
 | some (some d)=> .ok d M
 | _=> .bad
theorem lJ(h:e[i]? = some (some d)):aq i e M= .ok d M:=by unfold aq;rw[h]
def mC(d:D):ME:=λ_ M=> .ok d M
theorem dU(h:PE X e t)(hi:∀σ H Q,tG (dm X.K ct) X.K ct W m σ H Q->t σ H Q):SE X ct W e m:=PE.imp h hi
theorem aj(i:Nat)(hN:X.N[i]? = some x:=by rfl)(hv:Vis X.env.scope x:=by first | exact Or.inl rfl | exact Or.inr (Or.inl rfl) | exact Or.inr (Or.inr rfl))(hd:(x==("__debug__" : Str))=false:=by decide)
  (hcd:(x==("__classdict__" : Str))=false:=by decide):SE X ct W (.Name x pos) (aq i):=dU (aa4 hN hv hd hcd) λσ H Q ⟨ι,e,M,w,p⟩=>by
 unfold aq at p
 cases z:e[i]? with
 | none=>rw[z]at p;exact p.elim
 | some o=>
  cases o with
  | none=>rw[z]at p;exact p.elim
  | some d=>
   rw[z]at p
   obtain⟨v,hv,dv⟩:=w.env i d z
   exact⟨v,hv,p ι v H .refl w.rl dv⟩
theorem Rx(dv:∀ι n,DV X.K ct ι n H d v)(h:tG (dm X.K ct) X.K ct W (mC d) σ H Q):tC v σ H Q:=by
 obtain⟨ι,e,M,w,p⟩:=h
 exact p ι v H .refl w.rl (dv _ _)
theorem aA{i j pos}:SE X ct W (.Constant (.int i) j pos) (mC (.int i)):=dU agC λ_ _ _ h=>Rx (λ_ _=> .int i) h
theorem mD{b j pos}:SE X ct W (.Constant (.bool b) j pos) (mC (.bl b)):=dU ajE λ_ _ _ h=>Rx (λ_ _=> .bl b) h
theorem j0{j pos}:SE X ct W (.Constant .none j pos) (mC .non):=dU agA λ_ _ _ h=>Rx (λ_ _=> .non) h
theorem bF{x j pos}:SE X ct W (.Constant (.str x) j pos) (mC (.str x)):=dU agx λ_ _ _ h=>Rx (λ_ _=> .str x) h
abbrev qZ:=D->D->Mem->Out D
def aC(op:qZ)(ma mb:ME):ME:=λe M=>(ma e M).bind λd M1=>(mb e M1).bind λd' M2=>op d d' M2
def Q4(K:Frag)(ct:Nat->Addr)(op:qZ)(r:R2):Prop:=
 ∀{w:XW} ι M H d d' v v' Q,Rl K ct ι M H->DV K ct ι M.length H d v->DV K ct ι M.length H d' v'->gq (dm K ct) K ct w ι M.length H (op d d' M) Q->r v v' H Q
def fO(X:Cx)(ct:Nat->Addr)(f:Value->Value->Sem Value)(op:qZ):Prop:=∃r,uy X f r/\Q4 X.K ct op r
theorem JK(hs:Q4 X.K ct op r)(h:tG (dm X.K ct) X.K ct W (aC op ma mb) σ H Q):
  tOp r (tG (dm X.K ct) X.K ct W ma) (tG (dm X.K ct) X.K ct W mb) σ H Q:=by
 obtain⟨ι,e,M,w,p⟩:=bN (dM:=dm X.K ct) h
 refine⟨ι,e,M,w,p.mono ?_⟩
 rintro x H1 ⟨cg,e1,M1,d1,w1,q1,p1⟩
 refine⟨cg,e1,M1,w1,?_⟩
 cases z:mb e1 M1 with
 | bad=>simp only[z,Out.cW]at p1;exact p1
 | exc xc xd xM=>simp only[z,Out.gb]at p1;exact p1
 | ok d2 M2=>
  simp only[z,Out.b_]at p1
  exact λgP y H2 x2 r2 q2=>hs gP M2 H2 d1 d2 x y Q r2 (q1.mono x2) q2 (p1.ext x2)
theorem aR(h:fO X ct (binaryOp op) sop)(ha:SE X ct W a ma)(hb:SE X ct W b mb):SE X ct W (.BinOp a op b pos) (aC sop ma mb):=by
 obtain⟨r,ho,hs⟩:=h
 exact dU (ajB ho ha hb) λσ H Q q=>JK hs q
theorem bK(h:fO X ct (compareOp op) sop)(ha:SE X ct W a ma)(hb:SE X ct W b mb)(hm:behindInMarks op b=false):SE X ct W (.Compare a [op] [b] pos) (aC sop ma mb):=by
 obtain⟨r,ho,hs⟩:=h
 exact dU (adT ho ha hb hm) λσ H Q q=>JK hs q
def Zr(d:D)(M:Mem):Out Bool:=match d with
 | .bl b=> .ok b M
 | _=> .bad
def aY(m:ME):MT:=λe M=>(m e M).bind Zr
theorem Rt{Q:Bool->Hp->Prop}(hi:∀Q,tG (dm X.K ct) X.K ct W m σ H Q->t σ H Q)(h:tG Gp X.K ct W (aY m) σ H Q):ae8 t σ H Q:=by
 refine hi _ ?_
 obtain⟨ι,e,M,w,p⟩:=bN (dM:=dm X.K ct) (f:=λd _ M=>Zr d M) h
 refine⟨ι,e,M,w,p.mono ?_⟩
 rintro x H1 ⟨cg,e1,M1,d1,w1,q1,p1⟩
 cases q1 with
 | bl b=>exact⟨b,rfl,p1 cg b H1 .refl w1.rl rfl⟩
 | _=>exact False.elim p1
theorem aV(h:fO X ct (compareOp op) sop)(ha:SE X ct W a ma)(hb:SE X ct W b mb)(hm:behindInMarks op b=false):Zw X ct W (.Compare a [op] [b] pos) (aY (aC sop ma mb)):=by
 obtain⟨r,ho,hs⟩:=h
 exact PT.imp (adE ho ha hb hm) λσ H Q q=>Rt (λQ q=>JK hs q) q
theorem rA(h:SE X ct W a m)(he:∀whole,isTrue a X.env whole=(do let v <-whole;standAt a.pos;holding [v] (truthy v)):=by intro _;rfl):Zw X ct W a (aY m):=
 PT.imp (ago h he) λσ H Q q=>Rt (λQ q=>q) q
def mUn(op:D->Mem->Out D)(ma:ME):ME:=λe M=>(ma e M).bind op
def UnS(X:Cx)(ct:Nat->Addr)(f:Value->Sem Value)(op:D->Mem->Out D):Prop:=∃r,UnR X f r/\∀{w:XW} ι M H d v Q,Rl X.K ct ι M H->DV X.K ct ι M.length H d v->gq (dm X.K ct) X.K ct w ι M.length H (op d M) Q->r v H Q
theorem aau(h:UnS X ct (unaryOp op) sop)(ha:SE X ct W a ma):SE X ct W (.UnaryOp op a pos) (mUn sop ma):=by
 obtain⟨r,ho,hs⟩:=h
 refine dU (ajz ho ha) λσ H Q q=> ?_
 obtain⟨ι,e,M,w,p⟩:=bN (dM:=dm X.K ct) (f:=λd _ M=>sop d M) q
 exact⟨ι,e,M,w,p.mono λx H1 ⟨cg,e1,M1,d1,w1,q1,p1⟩=>hs cg M1 H1 d1 x Q w1.rl q1 p1⟩
variable{t u:MT}{rest:List Expr}
def Vk(t u:MT):MT:=λe M=>(t e M).bind λk M1=>if k=true then u e M1 else .ok false M1
def ZD(t u:MT):MT:=λe M=>(t e M).bind λk M1=>if k=true then .ok true M1 else u e M1
def Vh(t:MT):MT:=λe M=>(t e M).bind λk M1=> .ok (!k) M1
theorem Jb(ha:Zw X ct W a t):SW X ct W (.BoolOp .And [a] pos) t:=adA ha
theorem yW(ha:Zw X ct W a t):SW X ct W (.BoolOp .Or [a] pos) t:=agm ha
theorem JL(ha:Zw X ct W a t)(hb:SW X ct W (.BoolOp .And (b::rest) pos) u):SW X ct W (.BoolOp .And (a::b::rest) pos) (Vk t u):=PW.imp (agn ha hb) λσ H Q q=>by
 obtain⟨ι,e,M,w,p⟩:=bN (dM:=Gp) (f:=λk e M1=>if k=true then u e M1 else .ok false M1) q
 refine⟨ι,e,M,w,p.mono ?_⟩
 rintro k H1 ⟨cg,e1,M1,d1,w1,q1,p1⟩
 have KR:d1=k:=q1;subst KR
 cases d1 with
 | true=>exact⟨cg,e1,M1,w1,p1⟩
 | false=>exact p1 cg false H1 .refl w1.rl rfl
theorem BZ(ha:Zw X ct W a t)(hb:SW X ct W (.BoolOp .Or (b::rest) pos) u):SW X ct W (.BoolOp .Or (a::b::rest) pos) (ZD t u):=PW.imp (ajx ha hb) λσ H Q q=>by
 obtain⟨ι,e,M,w,p⟩:=bN (dM:=Gp) (f:=λk e M1=>if k=true then .ok true M1 else u e M1) q
 refine⟨ι,e,M,w,p.mono ?_⟩
 rintro k H1 ⟨cg,e1,M1,d1,w1,q1,p1⟩
 have KR:d1=k:=q1;subst KR
 cases d1 with
 | false=>exact⟨cg,e1,M1,w1,p1⟩
 | true=>exact p1 cg true H1 .refl w1.rl rfl
theorem JM(ha:Zw X ct W a t):Zw X ct W (.UnaryOp .Not a pos) (Vh t):=PT.imp (agp ha) λσ H Q q=>by
 obtain⟨ι,e,M,w,p⟩:=bN (dM:=Gp) (f:=λk e M1=> .ok (!k) M1) q
 refine⟨ι,e,M,w,p.mono ?_⟩
 rintro k H1 ⟨cg,e1,M1,d1,w1,q1,p1⟩
 have KR:d1=k:=q1;subst KR
 exact p1 cg _ H1 .refl w1.rl rfl
def jx(ma mb:ME):ME:=λe M=>(ma e M).bind λd M1=>(Zr d M1).bind λk M2=>if k=true then mb e M2 else .ok (.bl false) M2
def S7(ma mb:ME):ME:=λe M=>(ma e M).bind λd M1=>(Zr d M1).bind λk M2=>if k=true then .ok (.bl true) M2 else mb e M2
def WY(ma:ME):ME:=λe M=>(ma e M).bind λd M1=>(Zr d M1).bind λk M2=> .ok (.bl (!k)) M2
theorem iw{op}(h:SE X ct W a m):SE X ct W (.BoolOp op [a] pos) m:=agy h
theorem j4(ha:SE X ct W a ma)(hb:SE X ct W (.BoolOp .And (b::rest) pos) mb):SE X ct W (.BoolOp .And (a::b::rest) pos) (jx ma mb):=dU (agE ha hb) λσ H Q q=>by
 obtain⟨ι,e,M,w,p⟩:=bN (dM:=dm X.K ct) (f:=λd e M1=>(Zr d M1).bind λk M2=>if k=true then mb e M2 else .ok (.bl false) M2) q
 refine⟨ι,e,M,w,p.mono ?_⟩
 rintro x H1 ⟨cg,e1,M1,d1,w1,q1,p1⟩
 cases q1 with
 | bl k=>
  refine⟨k,rfl,?_⟩
  simp only[Zr,Out.b_]at p1
  cases k with
  | true=>exact⟨cg,e1,M1,w1,p1⟩
  | false=>exact p1 cg _ H1 .refl w1.rl (.bl false)
 | _=>exact False.elim p1
theorem RG(ha:SE X ct W a ma)(hb:SE X ct W (.BoolOp .Or (b::rest) pos) mb):SE X ct W (.BoolOp .Or (a::b::rest) pos) (S7 ma mb):=dU (ajA ha hb) λσ H Q q=>by
 obtain⟨ι,e,M,w,p⟩:=bN (dM:=dm X.K ct) (f:=λd e M1=>(Zr d M1).bind λk M2=>if k=true then .ok (.bl true) M2 else mb e M2) q
 refine⟨ι,e,M,w,p.mono ?_⟩
 rintro x H1 ⟨cg,e1,M1,d1,w1,q1,p1⟩
 cases q1 with
 | bl k=>
  refine⟨k,rfl,?_⟩
  simp only[Zr,Out.b_]at p1
  cases k with
  | false=>exact⟨cg,e1,M1,w1,p1⟩
  | true=>exact p1 cg _ H1 .refl w1.rl (.bl true)
 | _=>exact False.elim p1
theorem aav(ha:SE X ct W a ma):SE X ct W (.UnaryOp .Not a pos) (WY ma):=dU (agz ha) λσ H Q q=>by
 obtain⟨ι,e,M,w,p⟩:=bN (dM:=dm X.K ct) (f:=λd _ M1=>(Zr d M1).bind λk M2=>(Out.ok (D.bl (!k)) M2:Out D)) q
 refine⟨ι,e,M,w,p.mono ?_⟩
 rintro x H1 ⟨cg,e1,M1,d1,w1,q1,p1⟩
 cases q1 with
 | bl k=>exact⟨k,rfl,p1 cg _ H1 .refl w1.rl (.bl _)⟩
 | _=>exact False.elim p1
def mIf(t:MT)(ma mb:ME):ME:=λe M=>(t e M).bind λk M1=>if k=true then ma e M1 else mb e M1
theorem ai6(hc:Zw X ct W c t)(ha:SE X ct W a ma)(hb:SE X ct W b mb):SE X ct W (.IfExp c a b pos) (mIf t ma mb):=dU (aa7 hc ha hb) λσ H Q q=>by
 obtain⟨ι,e,M,w,p⟩:=bN (dM:=Gp) (f:=λk e M1=>if k=true then ma e M1 else mb e M1) q
 refine⟨ι,e,M,w,p.mono ?_⟩
 rintro k H1 ⟨cg,e1,M1,d1,w1,q1,p1⟩
 have KR:d1=k:=q1;subst KR
 cases d1 with
 | true=>exact⟨cg,e1,M1,w1,p1⟩
 | false=>exact⟨cg,e1,M1,w1,p1⟩
variable{es:List Expr}{ms:MA}
def aF:MA:=λ_ M=> .ok [] M
def au(m:ME)(ms:MA):MA:=λe M=>(m e M).bind λd M1=>(ms e M1).bind λds M2=> .ok (d::ds) M2
theorem az:SA X ct W [] aF:=PA.imp agF λσ H Q ⟨ι,e,M,w,p⟩=>p ι [] H .refl w.rl .nil
theorem ao(ha:SE X ct W a ma)(hr:SA X ct W es ms)(hs:starEach (a::es) X.env=(false,eval a X.env)::starEach es X.env:=by rfl):SA X ct W (a::es) (au ma ms):=PA.imp (adV ha hr hs) λσ H Q q=>by
 obtain⟨ι,e,M,w,p⟩:=bN (dM:=dm X.K ct) (f:=λd e M1=>(ms e M1).bind λds M2=> .ok (d::ds) M2) q
 refine⟨ι,e,M,w,p.mono ?_⟩
 rintro x H1 ⟨cg,e1,M1,d1,w1,q1,p1⟩
 refine⟨cg,e1,M1,w1,?_⟩
 cases z:ms e1 M1 with
 | bad=>simp only[z,Out.cW]at p1;exact p1
 | exc xc xd xM=>simp only[z,Out.gb]at p1;exact p1
 | ok ds M2=>
  simp only[z,Out.b_]at p1
  exact λgP xs H2 x2 r2 q2=>p1 gP (x::xs) H2 x2 r2 (.cons (q1.mono x2) q2)
def gB(ms:MA):ME:=λe M=>(ms e M).bind λds M1=>if ds.length<=sizeLine then .ok (.tup ds) M1 else .bad
def CZ(ms:MA):ME:=λe M=>(ms e M).bind λds M1=>if ds.length<=sizeLine then .ok (.ref M1.length) (M1++[.lst ds])else .bad
theorem Eu{w:XW}{K:Frag}{ι:Nat->Addr}{M:Mem}{H:Hp}{ds:List D}{xs:List V}{Q:VK}{p:Addr}(R:Rl K ct ι M H)(h:h_ K ct ι M.length H ds xs)(hp:H p=none)(q:gq (dm K ct) K ct w ι M.length H (.ok (.tup ds) M) Q):Q (.ref p) (upd H p (.tup xs)):=
 q ι (.ref p) _ (Ext.fresh hp) (R.fresh hp) (.tup bB (h.mono (Ext.fresh hp)))
theorem rR{w:XW}{K:Frag}{ι:Nat->Addr}{M:Mem}{H:Hp}{ds:List D}{xs:List V}{Q:VK}{p:Addr}(R:Rl K ct ι M H)(h:h_ K ct ι M.length H ds xs)(hp:H p=none)(q:gq (dm K ct) K ct w ι M.length H (.ok (.ref M.length) (M++[.lst ds])) Q):Q (.ref p) (upd H p (.lst xs)):=by
 have el:(M++[MO.lst ds]).length=M.length+1:=by simp
 have x:Ext K ι M.length H (jy ι M.length p) (M.length+1) (upd H p (.lst xs)):=Ext.new hp
 have e:(jy ι M.length p) M.length=p:=by unfold jy;rw[if_pos rfl]
 have dv:DV K ct (jy ι M.length p) (M++[MO.lst ds]).length (upd H p (.lst xs)) (.ref M.length) (.ref p):=by
  have:=DV.ref (K:=K) (ct:=ct) (ι:=jy ι M.length p) (n:=(M++[MO.lst ds]).length) (H:=upd H p (.lst xs)) (i:=M.length) (by rw[el];omega)
  rw[e]at this
  exact this
 exact q (jy ι M.length p) (.ref p) _ (by rw[el];exact x) (R.new hp ⟨xs,bB,h.mono x⟩) dv
theorem bO{x1}(h:SA X ct W es ms):SE X ct W (.Tuple es x1 pos) (gB ms):=dU (agw h) λσ H Q q=>by
 obtain⟨ι,e,M,w,p⟩:=bN (dM:=Ij X.K ct) (f:=λds _ M1=>if ds.length<=sizeLine then .ok (D.tup ds) M1 else .bad) q
 refine⟨ι,e,M,w,p.mono ?_⟩
 rintro xs H1 ⟨cg,e1,M1,ds,w1,q1,p1⟩
 by_cases z:ds.length<=sizeLine
 ·simp only[z,if_true]at p1
  exact⟨by rw[q1.length];exact z,λpp hp=>Eu w1.rl q1 hp p1⟩
 ·simp only[z,if_false]at p1
  exact p1.elim
theorem wL(h:SA X ct W es ms):SE X ct W (.List es pos) (CZ ms):=dU (agB h) λσ H Q q=>by
 obtain⟨ι,e,M,w,p⟩:=bN (dM:=Ij X.K ct) (f:=λds _ M1=>if ds.length<=sizeLine then .ok (D.ref M1.length) (M1++[.lst ds])else .bad) q
 refine⟨ι,e,M,w,p.mono ?_⟩
 rintro xs H1 ⟨cg,e1,M1,ds,w1,q1,p1⟩
 by_cases z:ds.length<=sizeLine
 ·simp only[z,if_true]at p1
  exact⟨by rw[q1.length];exact z,λpp hp=>rR w1.rl q1 hp p1⟩
 ·simp only[z,if_false]at p1
  exact p1.elim
noncomputable def mR(cs:List Nat)(f:Str)(d:D)(M:Mem):Out D:=match d with
 | .ref n=>match M[n]? with
  | some (.ins c fs)=>if c∈cs then(match fs.lookup f with
   | some v=> .ok v M
   | none=> .bad)else .bad
  | _=> .bad
 | _=> .bad
def b8(cs:List Nat)(m:ME)(f:Str):ME:=λe M=>(m e M).bind (mR cs f)
def vg(K:Frag)(ct:Nat->Addr)(f:Str):List Nat->Prop
 | []=>True
 | c::cs=>(Lz K (ct c)/\vf K (ct c) f)/\vg K ct f cs
theorem vg.get{K:Frag}{ct:Nat->Addr}{f:Str}:∀{cs:List Nat} {c:Nat},vg K ct f cs->c∈cs->Lz K (ct c)/\vf K (ct c) f
 | [],_,_,h=>by simp at h
 | c::cs,d,⟨a,r⟩,h=>by
  rcases List.mem_cons.mp h with e | e
  ·subst e;exact a
  ·exact r.get e
theorem oX{K:Frag}{ι:Nat->Addr}{n:Nat}{H:Hp}{i:Nat}{v:V}(h:DV K ct ι n H (.ref i) v):i<n/\v= .ref (ι i):=by cases h with | ref h=>exact⟨h,rfl⟩
theorem aW(hc:vg X.K ct f cs)(he:SE X ct W a ma)(hb:attributeBase a f X.env (eval a X.env)=eval a X.env:=by rfl):SE X ct W (.Attribute a f pos) (b8 cs ma f):=dU (agD he hb) λσ H Q q=>by
 obtain⟨ι,e,M,w,p⟩:=bN (dM:=dm X.K ct) (f:=λd _ M1=>mR cs f d M1) q
 refine⟨ι,e,M,w,p.mono ?_⟩
 rintro x H1 ⟨cg,e1,M1,d1,w1,q1,p1⟩
 cases d1 with
 | ref n=>
  obtain⟨hn,rfl⟩:=oX q1
  simp only[mR]at p1
  cases z:M1[n]? with
  | none=>simp only[z]at p1;exact p1.elim
  | some o=>
   cases o with
   | ins c fs=>
    simp only[z]at p1
    by_cases hcs:c∈cs
    ·simp only[hcs,if_true]at p1
     cases z2:fs.lookup f with
     | none=>simp only[z2]at p1;exact p1.elim
     | some d=>
      simp only[z2]at p1
      obtain⟨dx,vs,hH,fv⟩:=w1.rl.obj n _ z
      obtain⟨v,hv,dv⟩:=fv.look z2
      exact⟨_,_,dx,vs,v,rfl,hH,(hc.get hcs).1,(hc.get hcs).2,hv,p1 cg v H1 .refl w1.rl dv⟩
    ·simp only[hcs,if_false]at p1
     exact p1.elim
   | _=>simp only[z]at p1;exact p1.elim
 | _=>exact p1.elim
abbrev Fn:=List D->Mem->Out D
def wE(E:XK):XW:=λC dx H=>E (.ref C) (some dx) H
theorem gq.wish{α β:Type}{rel:(Nat->Addr)->Mem->Hp->α->β->Prop}{K:Frag}{ct ι:Nat->Addr}{w w':XW}{n:Nat}{H:Hp}{o:Out α}{Q:β->Hp->Prop}(h:gq rel K ct w ι n H o Q)(x:∀C dx H,w C dx H->w' C dx H):gq rel K ct w' ι n H o Q:=by
 cases o with
 | ok a M=>exact h
 | exc c d M=>exact λgP dx v H2 x2 r q1 q2=>x _ _ _ (h gP dx v H2 x2 r q1 q2)
 | bad=>exact h
theorem gq.toE{α β:Type}{rel:(Nat->Addr)->Mem->Hp->α->β->Prop}{K:Frag}{ct ι:Nat->Addr}{W:bA}{σ:St}{n:Nat}{H:Hp}{o:Out α}{Q:β->Hp->Prop}(h:gq rel K ct (wAt W σ) ι n H o Q):gq rel K ct (wE (EW W σ)) ι n H o Q:=
 h.wish λC dx _ q=>⟨C,dx,rfl,rfl,q⟩
def spS(K:Frag)(ct:Nat->Addr)(fn:Fn)(ar:Nat):Sp:=λvs H Q E=>∃ι ds M,ds.length=ar/\Rl K ct ι M H/\h_ K ct ι M.length H ds vs/\gq (dm K ct) K ct (wE E) ι M.length H (fn ds M) Q
inductive Cst:D->V->Value->Prop
 | bl (b:Bool):Cst (.bl b) (.bl b) (.bool b)
 | non:Cst .non .non .none
 | str (x:Str) (t:Tok):Cst (.str x) (.str x) (.str x t)
inductive DG:List D->List V->List Value->Prop
 | nil:DG [] [] []
 | cons {d:D} {v:V} {u:Value} {ds:List D} {vs:List V} {us:List Value}:Cst d v u->DG ds vs us->DG (d::ds) (v::vs) (u::us)
theorem Cst.dv{K:Frag}{ι:Nat->Addr}{n:Nat}{H:Hp}{d:D}{v:V}{u:Value}(h:Cst d v u):DV K ct ι n H d v:=by
 cases h with
 | bl b=>exact .bl b
 | non=>exact .non
 | str x t=>exact .str x
theorem Cst.val{d:D}{v:V}{u:Value}(h:Cst d v u):RelV v u:=by
 cases h with
 | bl b=>exact rfl
 | non=>exact rfl
 | str x t=>exact⟨_,rfl⟩
theorem DG.dv{K:Frag}{ι:Nat->Addr}{n:Nat}{H:Hp}{ds:List D}{vs:List V}{us:List Value}(h:DG ds vs us):h_ K ct ι n H ds vs:=by
 induction h with
 | nil=>exact .nil
 | cons c _ ih=>exact .cons c.dv ih
theorem DG.vals(h:DG ds vs us):Vals vs us:=by
 induction h with
 | nil=>exact .nil
 | cons c _ ih=>exact .cons c.val ih
def bZ(fn:Fn)(ar:Nat)(dv:List D)(ms:MA):ME:=λe M=>(ms e M).bind λds M1=>if(ds++dv).length=ar then fn (ds++dv) M1 else .bad
variable{k:Nat}{f:Addr}{fd:FuncData}{ps:List Str}{fn:Fn}{dv:List D}{yH:List V}{Zb:List Value}{x:Str}{p:Pos}
theorem aah(hd:DG dv yH Zb)(h:tG (dm X.K ct) X.K ct W (bZ fn ps.length dv ms) σ H Q):aai (spS X.K ct fn ps.length) yH W (tG (Ij X.K ct) X.K ct W ms) σ H Q:=by
 obtain⟨ι,e,M,w,p⟩:=bN (dM:=Ij X.K ct) (f:=λds _ M1=>if(ds++dv).length=ps.length then fn (ds++dv) M1 else .bad) h
 refine⟨ι,e,M,w,p.mono ?_⟩
 rintro vs H1 ⟨cg,e1,M1,ds,w1,q1,p1⟩
 by_cases z:(ds++dv).length=ps.length
 ·simp only[z,if_true]at p1
  exact⟨cg,ds++dv,M1,z,w1.rl,q1.append hd.dv,p1.toE⟩
 ·simp only[z,if_false]at p1
  exact p1.elim
theorem bw(F:gw X.prog X.w X.K X.mg X.base (DK X.prog X.w) k f fd ps (spS X.K ct fn ar))(hx:Tk X W)(hr:gm k X.A)(hg:Gl X x)(hm:X.mg x=some (.ref f))(hk:keepIn X.K (.ref f)=true)(hb:Binds X.K fd ps Zb)(hd:DG dv yH Zb)
  (ha:SA X ct W (a::es) ms) (hdb:(x==("__debug__" : Str))=false:=by decide) (he:starEach (a::es) X.env=(false,eval a X.env)::starEach es X.env:=by rfl) (hpl:(backTo pos (starEach es X.env)).any (·.1)=false:=by rfl) (har:ps.length=ar:=by rfl):SE X ct W (.Call (.Name x p) (a::es) [] pos) (bZ fn ar dv ms):=by
 subst har
 exact dU (abb F hr hg hm hk hb hd.vals hx ha hdb he hpl) λσ H Q q=>aah hd q
noncomputable def uw(k:Nat)(m:Str)(d:D)(M:Mem):Bool:=match d with
 | .ref n=>match M[n]? with
  | some (.ins c fs)=>c==k&&(fs.lookup m).isNone
  | _=>false
 | _=>false
noncomputable def aU(k:Nat)(m:Str)(fn:Fn)(ar:Nat)(dv:List D)(mo:ME)(ms:MA):ME:=λe M=>(mo e M).bind λd M1=>if uw k m d M1=true then(ms e M1).bind λds M2=>if(d::(ds++dv)).length=ar then fn (d::(ds++dv)) M2 else .bad else .bad
theorem abP{K:Frag}{ι:Nat->Addr}{M:Mem}{H:Hp}{k:Nat}{m:Str}{d:D}{v:V}(R:Rl K ct ι M H)(h:uw k m d M=true)(q:DV K ct ι M.length H d v):∃a dx fs,v= .ref a/\H a=some (.ins (ct k) dx fs)/\fs.lookup m=none:=by
 cases d with
 | ref n=>
  obtain⟨hn,rfl⟩:=oX q
  unfold uw at h
  cases z:M[n]? with
  | none=>simp only[z]at h;cases h
  | some o=>
   cases o with
   | ins c fs=>
    simp only[z,Bool.and_eq_true,beq_iff_eq,Option.isNone_iff_eq_none]at h
    obtain⟨rfl,hl⟩:=h
    obtain⟨dx,vs,hH,fv⟩:=R.obj n _ z
    exact⟨_,dx,vs,rfl,hH,fv.aft hl⟩
   | _=>simp only[z]at h;cases h
 | _=>exact absurd h xA
theorem Ru(hd:DG dv yH Zb)(h:tG (dm X.K ct) X.K ct W (aU kc m fn ps.length dv mo ms) σ H Q):
  UJ (ct kc) m (spS X.K ct fn ps.length) yH W (tG (dm X.K ct) X.K ct W mo) (tG (Ij X.K ct) X.K ct W ms) σ H Q:=by
 obtain⟨ι,e,M,w,p⟩:=bN (dM:=dm X.K ct) (f:=λd e M1=>if uw kc m d M1=true then(ms e M1).bind λds M2=>if(d::(ds++dv)).length=ps.length then fn (d::(ds++dv)) M2 else .bad else .bad) h
 refine⟨ι,e,M,w,p.mono ?_⟩
 rintro v H1 ⟨cg,e1,M1,d,w1,q1,p1⟩
 cases z:uw kc m d M1 with
 | false=>simp only[z,Bool.false_eq_true,if_false]at p1;exact p1.elim
 | true=>
  simp only[z,if_true]at p1
  obtain⟨a,dx,fs,rfl,hH,hl⟩:=abP w1.rl z q1
  refine⟨a,dx,fs,rfl,hH,hl,cg,e1,M1,w1,?_⟩
  cases z2:ms e1 M1 with
  | bad=>simp only[z2,Out.cW]at p1;exact p1
  | exc xc xd xM=>simp only[z2,Out.gb]at p1;exact p1
  | ok ds M2=>
   simp only[z2,Out.b_]at p1
   intro gP vs H2 x2 r2 q2
   by_cases z3:(d::(ds++dv)).length=ps.length
   ·rw[if_pos z3]at p1
    exact⟨gP,_,M2,z3,r2,.cons (q1.mono x2) (q2.append hd.dv),(p1.ext x2).toE⟩
   ·rw[if_neg z3]at p1
    exact p1.elim
variable{o:Expr}{mo:ME}{kc:Nat}{m:Str}{apos:Pos}
theorem aH(he:SE X ct W o mo)(c:Lz X.K (ct kc))(hm:Meth X.K (ct kc) m f)(F:gw X.prog X.w X.K X.mg X.base (DK X.prog X.w) k f fd ps (spS X.K ct fn ar))(hx:Tk X W)(hr:gm k X.A)(hb:Binds X.K fd ps Zb)(hd:DG dv yH Zb)(ha:SA X ct W (a::es) ms)
  (hst:starEach (a::es) X.env=(false,eval a X.env)::starEach es X.env:=by rfl) (hpl:(backTo pos (starEach es X.env)).any (·.1)=false:=by rfl)
  (ht:eval (.Call (.Attribute o m apos) (a::es) [] pos) X.env=(do
   let ov <-eval o X.env
   standAt apos.atName
   let(f,first) <-holding [ov] (getMethod ov m pl)
   callWith pos f first (backTo pos (starEach (a::es) X.env)) (backToKw pos (keywordEach [] X.env))):=by rfl) (har:ps.length=ar:=by rfl):SE X ct W (.Call (.Attribute o m apos) (a::es) [] pos) (aU kc m fn ar dv mo ms):=by
 subst har
 exact dU (aa5 he c hm F hr hb hd.vals hx ha hst hpl ht) λσ H Q q=>Ru hd q
theorem RJ(he:SE X ct W o mo)(c:Lz X.K (ct kc))(hm:Meth X.K (ct kc) m f)(F:gw X.prog X.w X.K X.mg X.base (DK X.prog X.w) k f fd ps (spS X.K ct fn ar))(hx:Tk X W)(hr:gm k X.A)(hb:Binds X.K fd ps Zb)(hd:DG dv yH Zb)
  (ht:eval (.Call (.Attribute o m apos) [] [] pos) X.env=(do
   let ov <-eval o X.env
   standAt apos.atName
   let(f,first) <-holding [ov] (getMethod ov m pl)
   callWith pos f first (backTo pos (starEach [] X.env)) (backToKw pos (keywordEach [] X.env))):=by rfl) (har:ps.length=ar:=by rfl):SE X ct W (.Call (.Attribute o m apos) [] [] pos) (aU kc m fn ar dv mo aF):=by
 subst har
 exact dU (Ys he c hm F hr hb hd.vals hx ht) λσ H Q q=>by
  obtain⟨ι,e,M,w,p⟩:=Ru hd q
  refine⟨ι,e,M,w,p.mono λv H1 ⟨a,dx,fs,e1,e2,e3,cg,e4,M1,w1,p1⟩=>⟨a,dx,fs,e1,e2,e3,p1 cg [] H1 .refl w1.rl .nil⟩⟩
def Nz(d:D):Bool:=match d with
 | .non=>true
 | _=>false
noncomputable def z8(kc:Nat)(fn:Fn)(ar:Nat)(dv:List D)(ms:MA):ME:=λe M=>(ms e M).bind λds M1=>if(D.ref M1.length::(ds++dv)).length=ar then(fn (.ref M1.length::(ds++dv)) (M1++[.ins kc []])).bind λr M2=>if Nz r=true then .ok (.ref M1.length) M2 else .bad else .bad
theorem Rv(hd:DG dv yH Zb)(h:tG (dm X.K ct) X.K ct W (z8 kc fn ps.length dv ms) σ H Q):UL (ct kc) (spS X.K ct fn ps.length) yH W (tG (Ij X.K ct) X.K ct W ms) σ H Q:=by
 obtain⟨ι,e,M,w,p⟩:=bN (dM:=Ij X.K ct) (f:=λds _ M1=>if(D.ref M1.length::(ds++dv)).length=ps.length then(fn (D.ref M1.length::(ds++dv)) (M1++[.ins kc []])).bind λr M2=>if Nz r=true then .ok (D.ref M1.length) M2 else .bad else .bad) h
 refine⟨ι,e,M,w,p.mono ?_⟩
 rintro vs H1 ⟨cg,e1,M1,ds,w1,q1,p1⟩
 intro a dx ha hdx ne
 dsimp only at p1
 by_cases z:(D.ref M1.length::(ds++dv)).length=ps.length
 ·rw[if_pos z]at p1
  have ha':upd H1 dx (.own a) a=none:=by rw[aL (Ne.symm ne)];exact ha
  have el:(M1++[MO.ins kc []]).length=M1.length+1:=by simp
  have x1:Ext X.K cg M1.length H1 cg M1.length (upd H1 dx (.own a)):=Ext.fresh hdx
  have r1:Rl X.K ct cg M1 (upd H1 dx (.own a)):=w1.rl.fresh hdx
  have x2:Ext X.K cg M1.length (upd H1 dx (.own a)) (jy cg M1.length a) (M1.length+1) (upd (upd H1 dx (.own a)) a (.ins (ct kc) dx [])):=Ext.new ha'
  have r2:Rl X.K ct (jy cg M1.length a) (M1++[MO.ins kc []]) (upd (upd H1 dx (.own a)) a (.ins (ct kc) dx [])):=r1.new ha' ⟨dx,[],bB,.nil⟩
  have e0:(jy cg M1.length a) M1.length=a:=by unfold jy;rw[if_pos rfl]
  have dv0:DV X.K ct (jy cg M1.length a) (M1++[MO.ins kc []]).length (upd (upd H1 dx (.own a)) a (.ins (ct kc) dx [])) (.ref M1.length) (.ref a):=by
   have:=DV.ref (K:=X.K) (ct:=ct) (ι:=jy cg M1.length a) (n:=(M1++[MO.ins kc []]).length) (H:=upd (upd H1 dx (.own a)) a (.ins (ct kc) dx [])) (i:=M1.length) (by rw[el];omega)
   rw[e0]at this
   exact this
  refine⟨jy cg M1.length a,_,M1++[.ins kc []],z,r2,.cons dv0 ?_,?_⟩
  ·rw[el];exact(q1.append hd.dv).mono (x1.trans x2)
  ·cases z2:fn (.ref M1.length::(ds++dv)) (M1++[.ins kc []])with
   | bad=>rw[z2]at p1;exact p1
   | exc xc xd xM=>
    rw[z2]at p1
    simp only[Out.gb]at p1
    have p2:=(p1.ext (x1.trans x2)).toE
    rw[el]
    exact λDP dx3 v3 H3 x3 r3 q3 q4=>p2 DP dx3 v3 H3 x3 r3 q3 q4
   | ok r M2=>
    rw[z2]at p1
    simp only[Out.b_]at p1
    intro DP v3 H3 x3 r3 q3
    cases q3 with
    | non=>
     refine⟨rfl,?_⟩
     simp only[Nz,if_true]at p1
     refine p1 DP (.ref a) H3 ((x1.trans x2).trans (by rw[el]at x3;exact x3)) r3 (dv0.mono x3)
    | _=>exact False.elim p1
 ·rw[if_neg z]at p1
  exact p1.elim
theorem O2(Mk0:Mk X.K (ct kc) f)(F:gw X.prog X.w X.K X.mg X.base (DK X.prog X.w) k f fd ps (spS X.K ct fn ar))(hx:Tk X W)(hr:gm (k+1) X.A)(hg:Gl X x)(hm:X.mg x=some (.ref (ct kc)))(hb:Binds X.K fd ps Zb)(hd:DG dv yH Zb)
  (ha:SA X ct W (a::es) ms) (hdb:(x==("__debug__" : Str))=false:=by decide) (he:starEach (a::es) X.env=(false,eval a X.env)::starEach es X.env:=by rfl) (hpl:(backTo pos (starEach es X.env)).any (·.1)=false:=by rfl) (har:ps.length=ar:=by rfl):SE X ct W (.Call (.Name x p) (a::es) [] pos) (z8 kc fn ar dv ms):=by
 subst har
 exact dU (aa6 Mk0 F hr hg hm hb hd.vals hx ha hdb he hpl) λσ H Q q=>Rv hd q
theorem JP(Mk0:Mk X.K (ct kc) f)(F:gw X.prog X.w X.K X.mg X.base (DK X.prog X.w) k f fd ps (spS X.K ct fn ar))(hx:Tk X W)(hr:gm (k+1) X.A)(hg:Gl X x)(hm:X.mg x=some (.ref (ct kc)))(hb:Binds X.K fd ps Zb)(hd:DG dv yH Zb)
  (hdb:(x==("__debug__" : Str))=false:=by decide) (har:ps.length=ar:=by rfl):SE X ct W (.Call (.Name x p) [] [] pos) (z8 kc fn ar dv aF):=by
 subst har
 exact dU (Yt Mk0 F hr hg hm hb hd.vals hx hdb) λσ H Q q=>by
  obtain⟨ι,e,M,w,p⟩:=Rv hd q
  exact p ι [] H .refl w.rl .nil
abbrev Uo:=List D->Mem->Out D
def xx(op:Uo)(ms:MA):ME:=λe M=>(ms e M).bind op
def tW(X:Cx)(ct:Nat->Addr)(f:Value)(op:Uo):Prop:=∃r,qP X f r/\∀{w:XW} ι M H ds vs Q,Rl X.K ct ι M H->h_ X.K ct ι M.length H ds vs->gq (dm X.K ct) X.K ct w ι M.length H (op ds M) Q->r vs H Q
variable{id T:String}{op:Uo}
theorem aaj{r:List V->Hp->VK->Prop}(hs:∀{w:XW} ι M H ds vs Q,Rl X.K ct ι M H->h_ X.K ct ι M.length H ds vs->gq (dm X.K ct) X.K ct w ι M.length H (op ds M) Q->r vs H Q)
  (h:tG (dm X.K ct) X.K ct W (xx op ms) σ H Q):tCB r (tG (Ij X.K ct) X.K ct W ms) σ H Q:=by
 obtain⟨ι,e,M,w,p⟩:=bN (dM:=Ij X.K ct) (f:=λds _ M1=>op ds M1) h
 exact⟨ι,e,M,w,p.mono λvs H1 ⟨cg,e1,M1,ds,w1,q1,p1⟩=>hs cg M1 H1 ds vs Q w1.rl q1 p1⟩
theorem bD(h:tW X ct (.builtin id) op)(hg:Gl X x)(hm:X.mg x=none)(hv:bootBuiltins x=some (.builtin id))(ha:SA X ct W (a::es) ms)(hn:x≠ "__name__" := by decide)(hdb:(x==("__debug__" : Str))=false:=by decide)
  (he:starEach (a::es) X.env=(false,eval a X.env)::starEach es X.env:=by rfl) (hpl:(backTo pos (starEach es X.env)).any (·.1)=false:=by rfl):SE X ct W (.Call (.Name x p) (a::es) [] pos) (xx op ms):=by
 obtain⟨r,hr,hs⟩:=h
 exact dU (abd hr hg hm hv ha hn hdb he hpl) λσ H Q q=>aaj hs q
theorem RK(h:tW X ct (.type T) op)(hg:Gl X x)(hm:X.mg x=none)(hv:bootBuiltins x=some (.type T))(ha:SA X ct W (a::es) ms)(hn:x≠ "__name__" := by decide)(hdb:(x==("__debug__" : Str))=false:=by decide)
  (he:starEach (a::es) X.env=(false,eval a X.env)::starEach es X.env:=by rfl) (hpl:(backTo pos (starEach es X.env)).any (·.1)=false:=by rfl):SE X ct W (.Call (.Name x p) (a::es) [] pos) (xx op ms):=by
 obtain⟨r,hr,hs⟩:=h
 exact dU (Yu hr hg hm hv ha hn hdb he hpl) λσ H Q q=>aaj hs q
end
section
variable{X:Cx}{ct:Nat->Addr}{W:bA}
theorem oY{K:Frag}{ι:Nat->Addr}{n:Nat}{H:Hp}{i:Int}{v:V}(h:DV K ct ι n H (.int i) v):v= .int i:=by cases h;rfl
theorem qw{K:Frag}{ι:Nat->Addr}{n:Nat}{H:Hp}{i:Str}{v:V}(h:DV K ct ι n H (.str i) v):v= .str i:=by cases h;rfl
theorem Qz{K:Frag}{ι:Nat->Addr}{n:Nat}{H:Hp}{ds:List D}{v:V}(h:DV K ct ι n H (.tup ds) v):∃a xs,v= .ref a/\kO K H a xs/\h_ K ct ι n H ds xs:=by cases h with | tup a b=>exact⟨_,_,rfl,kO.of a,b⟩
theorem lK{K:Frag}{ι:Nat->Addr}{n:Nat}{H:Hp}{ds:List D}{v:V}(h:DV K ct ι n H (.tup ds) v):∃a xs,v= .ref a/\H a=some (.tup xs)/\h_ K ct ι n H ds xs:=by cases h with | tup a b=>exact⟨_,_,rfl,a,b⟩
noncomputable def n_(M:Mem)(n:Nat):Option (List D):=match M[n]? with
 | some (.lst ds)=>some ds
 | _=>none
theorem dh(h:M[n]? = some (.lst ds)):n_ M n=some ds:=by unfold n_;rw[h]
theorem iU:n_ M n=some ds↔M[n]? = some (.lst ds):=by
 refine⟨λh=> ?_,dh⟩
 unfold n_ at h
 split at h
 ·rename_i e;cases h;exact e
 ·cases h
noncomputable def Gm(M:Mem)(d:D):Option (List D):=match d with
 | .ref n=>n_ M n
 | .cl ds=>some ds
 | _=>none
theorem Rl.seq{K:Frag}{ι:Nat->Addr}{M:Mem}{H:Hp}(R:Rl K ct ι M H){d:D}{v:V}{ds:List D}(h:Gm M d=some ds)(q:DV K ct ι M.length H d v):∃a xs,v= .ref a/\pB K H a xs/\h_ K ct ι M.length H ds xs:=by
 cases q with
 | @ref i hi=>obtain⟨vs,q,r⟩:=R.obj i _ (iU.mp h);exact⟨_,vs,rfl,pB.of q,r⟩
 | cl h1 h2=>cases h;exact⟨_,_,rfl,h1.sq,h2⟩
 | _=>cases h
noncomputable def Qj(C:Int->Int->Bool)(g:Int->Int->D):qZ:=λd e M=>match d,e with
 | .int i,.int j=>if C i j=true then .ok (g i j) M else .bad
 | _,_=> .bad
theorem WN{P:Int->Int->Prop}(hP:∀i j,C i j=true->P i j)(hg:∀(K:Frag) ι n H i j,DV K ct ι n H (g i j) (gv i j)):Q4 X.K ct (Qj C g) (rI P gv):=by
 intro w ι M H d d' v v' Q R h h' p
 cases d with
 | int i=>
  cases d' with
  | int j=>
   cases oY h
   cases oY h'
   simp only[Qj]at p
   cases z:C i j with
   | false=>simp only[z,Bool.false_eq_true,if_false]at p;exact p.elim
   | true=>
    simp only[z,if_true]at p
    exact⟨i,j,rfl,rfl,hP i j z,p ι _ H .refl R (hg _ _ _ _ _ _)⟩
  | _=>exact p.elim
 | _=>cases d'<;>exact p.elim
def C1:Int->Int->Bool:=λ_ _=>true
theorem agk(h:rI (λ_ _=>True) g x y H Q):ZC g x y H Q:=let⟨i,j,a,b,_,q⟩:=h;⟨i,j,a,b,q⟩
theorem Q4.imp{K:Frag}{op:qZ}{r r':R2}(h:Q4 K ct op r)(i:∀x y H Q,r x y H Q->r' x y H Q):Q4 K ct op r':=λι M H d d' v v' Q R a b p=>i _ _ _ _ (h ι M H d d' v v' Q R a b p)
theorem qm(h:uy X f (ZC gv))(hg:∀(K:Frag) ι n H i j,DV K ct ι n H (g i j) (gv i j)):fO X ct f (Qj C1 g):=
 ⟨_,h,Q4.imp (WN (P:=λ_ _=>True) (λ_ _ _=>trivial) hg) λ_ _ _ _ q=>agk q⟩
theorem Bt{P:Int->Int->Prop}(h:uy X f (rI P gv))(hP:∀i j,C i j=true->P i j)(hg:∀(K:Frag) ι n H i j,DV K ct ι n H (g i j) (gv i j)):fO X ct f (Qj C g):=
 ⟨_,h,WN hP hg⟩
def uE(a b:qZ):qZ:=λd e M=>match a d e M with
 | .bad=>b d e M
 | o=>o
theorem Q4.or{K:Frag}{a b:qZ}{r r':R2}(ha:Q4 K ct a r)(hb:Q4 K ct b r'):Q4 K ct (uE a b) (λx y H Q=>r x y H Q\/r' x y H Q):=by
 intro w ι M H d d' v v' Q R q q' p
 unfold uE at p
 cases z:a d d' M with
 | ok x M1=>rw[z]at p;exact .inl (ha ι M H d d' v v' Q R q q' (by rw[z];exact p))
 | exc xc xd xM=>rw[z]at p;exact .inl (ha ι M H d d' v v' Q R q q' (by rw[z];exact p))
 | bad=>rw[z]at p;exact .inr (hb ι M H d d' v v' Q R q q' p)
theorem iz(h:a d e M= .ok x M'):uE a b d e M= .ok x M':=by unfold uE;rw[h]
theorem p_(h:a d e M= .bad):uE a b d e M=b d e M:=by unfold uE;rw[h]
theorem fO.or(ha:fO X ct f a)(hb:fO X ct f b):fO X ct f (uE a b):=by
 obtain⟨r,h,hs⟩:=ha
 obtain⟨r',h',hs'⟩:=hb
 refine⟨_,h.or h',λι M H d d' v v' Q R q q' p=> ?_⟩
 unfold uE at p
 cases z:a d d' M with
 | ok x M1=>rw[z]at p;exact .inl (hs ι M H d d' v v' Q R q q' (by rw[z];exact p))
 | exc xc xd xM=>rw[z]at p;exact .inl (hs ι M H d d' v v' Q R q q' (by rw[z];exact p))
 | bad=>rw[z]at p;exact .inr (hs' ι M H d d' v v' Q R q q' p)
noncomputable def ah2(i j:Int):Bool:=decide ((-(2 ^ 64)<i/\i<2 ^ 64)\/(-(2 ^ 64)<j/\j<2 ^ 64))
def ah3(_ j:Int):Bool:=decide (0<j/\j<1073741824)
def akK(_ j:Int):Bool:=decide (0<j)
def Zq(i j:Int):Bool:=decide (0<=j/\j<=1000000/\i.natAbs<2 ^ 64)
def akJ(_ j:Int):Bool:=decide (0<=j)
def afk:qZ:=Qj C1 λi j=> .int (i+j)
def O5:qZ:=Qj C1 λi j=> .int (i - j)
def aaB:qZ:=Qj ah2 λi j=> .int (i*j)
def rP:qZ:=Qj ah3 λi j=> .int (i / j)
def iW:qZ:=Qj akK λi j=> .int (i % j)
def O7:qZ:=Qj Zq λi j=> .int (i ^ j.toNat)
def CP:qZ:=Qj Zq λi j=> .int (i*2 ^ j.toNat)
def aaz:qZ:=Qj akJ λi j=> .int (i / 2 ^ j.toNat)
def O_:qZ:=Qj C1 λi j=> .int (Builtin.bitAnd i j)
def sOr:qZ:=Qj C1 λi j=> .int (Builtin.bitOr i j)
def aja:qZ:=Qj C1 λi j=> .bl (decide (i<j))
def L_:qZ:=Qj C1 λi j=> .bl (decide (i<=j))
def J2:qZ:=Qj C1 λi j=> .bl (decide (j<i))
def Yk:qZ:=Qj C1 λi j=> .bl (decide (j<=i))
theorem aeN:fO X ct (binaryOp .Add) afk:=qm agZ λ_ _ _ _ _ _=> .int _
theorem GP:fO X ct (binaryOp .Sub) O5:=qm agL λ_ _ _ _ _ _=> .int _
theorem aeK:fO X ct (binaryOp .Mult) aaB:=Bt agQ (λi j h=>by unfold ah2 at h;exact(decide_eq_true_eq.mp h :)) λ_ _ _ _ _ _=> .int _
theorem uU:fO X ct (binaryOp .FloorDiv) rP:=Bt adZ (λi j h=>by unfold ah3 at h;exact(decide_eq_true_eq.mp h :)) λ_ _ _ _ _ _=> .int _
theorem iQ:fO X ct (binaryOp .Mod) iW:=Bt agR (λ_ _ h=>zah h) λ_ _ _ _ _ _=> .int _
theorem QL:fO X ct (binaryOp .Pow) O7:=Bt agO (λi j h=>by unfold Zq at h;exact(decide_eq_true_eq.mp h :)) λ_ _ _ _ _ _=> .int _
theorem Dl:fO X ct (binaryOp .LShift) CP:=Bt agN (λi j h=>by unfold Zq at h;exact(decide_eq_true_eq.mp h :)) λ_ _ _ _ _ _=> .int _
theorem ahT:fO X ct (binaryOp .RShift) aaz:=Bt agM (λ_ _ h=>zah h) λ_ _ _ _ _ _=> .int _
theorem Lj:fO X ct (binaryOp .BitAnd) O_:=qm agY λ_ _ _ _ _ _=> .int _
theorem XF:fO X ct (binaryOp .BitOr) sOr:=qm ajF λ_ _ _ _ _ _=> .int _
theorem akG:fO X ct (compareOp .Lt) aja:=qm ajG λ_ _ _ _ _ _=> .bl _
theorem Li:fO X ct (compareOp .LtE) L_:=qm ajH λ_ _ _ _ _ _=> .bl _
theorem FZ:fO X ct (compareOp .Gt) J2:=qm ajI λ_ _ _ _ _ _=> .bl _
theorem acy:fO X ct (compareOp .GtE) Yk:=qm ajJ λ_ _ _ _ _ _=> .bl _
noncomputable def agh:qZ:=λd e M=>match d,e with
 | .ref n,.ref m=>match M[n]?,M[m]? with
  | some (.lst xs),some (.lst ys)=>if xs.length+ys.length<=sizeLine then .ok (.ref M.length) (M++[.lst (xs++ys)])else .bad
  | _,_=> .bad
 | _,_=> .bad
theorem ah0:fO X ct (binaryOp .Add) agh:=by
 refine⟨_,agX,λι M H d d' v v' Q R h h' p=> ?_⟩
 cases d with
 | ref n=>
  cases d' with
  | ref m=>
   obtain⟨_,rfl⟩:=oX h
   obtain⟨_,rfl⟩:=oX h'
   simp only[agh]at p
   split at p
   ·rename_i xs ys e1 e2
    split at p
    ·rename_i hz
     obtain⟨vs,q,r⟩:=R.obj n _ e1
     obtain⟨vs',q',r'⟩:=R.obj m _ e2
     exact⟨_,_,vs,vs',rfl,rfl,q,q',by rw[r.length,r'.length];exact hz,λpp hp=>rR R (r.append r') hp p⟩
    ·exact p.elim
   ·exact p.elim
  | _=>exact p.elim
 | _=>cases d'<;>exact p.elim
noncomputable def Wn:qZ:=λd e M=>match d,e with
 | .str a,.str b=>if a.length+b.length<=sizeLine then .ok (.str (a++b)) M else .bad
 | _,_=> .bad
theorem aeM:fO X ct (binaryOp .Add) Wn:=by
 refine⟨_,U_,λι M H d d' v v' Q R h h' p=> ?_⟩
 unfold Wn at p
 split at p
 ·cases qw h
  cases qw h'
  split at p
  ·rename_i hz
   exact⟨_,_,rfl,rfl,hz,p ι _ H .refl R (.str _)⟩
  ·exact p.elim
 ·exact p.elim
noncomputable def aaA:qZ:=λd e M=>match d,e with
 | .str a,.int n=>if a.length<=1000/\ -(2 ^ 62)<n/\n<=1000 then .ok (.str (PySem.Txt.mul a n)) M else .bad
 | _,_=> .bad
theorem aeJ:fO X ct (binaryOp .Mult) aaA:=by
 refine⟨_,U9,λι M H d d' v v' Q R h h' p=> ?_⟩
 unfold aaA at p
 split at p
 ·cases qw h
  cases oY h'
  split at p
  ·rename_i hz
   exact⟨_,_,rfl,rfl,mulOk_of hz.1 hz.2.1 hz.2.2,p ι _ H .refl R (.str _)⟩
  ·exact p.elim
 ·exact p.elim
def O8:qZ:=uE aaB aaA
theorem VD:fO X ct (binaryOp .Mult) O8:=aeK.or aeJ
noncomputable def Ni:qZ:=λd e M=>match d,e with
 | .tup xs,.tup ys=>if xs.isEmpty=false/\xs.length+ys.length<=sizeLine then .ok (.tup (xs++ys)) M else .bad
 | _,_=> .bad
theorem XJ:fO X ct (binaryOp .Add) Ni:=by
 refine⟨_,ad0,λι M H d d' v v' Q R h h' p=> ?_⟩
 unfold Ni at p
 split at p
 ·rename_i xs ys
  obtain⟨a,vs,rfl,ha,hd⟩:=lK h
  obtain⟨b,us,rfl,hb,hd'⟩:=lK h'
  split at p
  ·rename_i hz
   have l1:=hd.length
   have l2:=hd'.length
   refine⟨a,b,vs,us,rfl,rfl,kO.of ha,kO.of hb,λz=> ?_,(),λz=> ?_,λ_ pp hp=>Eu R (hd.append hd') hp p⟩
   ·rw[z]at l1
    have:=hz.1
    cases xs with
    | nil=>cases this
    | cons _ _=>simp at l1
   ·subst z
    have e:ys=[]:=List.length_eq_zero_iff.mp l2.symm
    subst e
    rw[List.append_nil]at p
    exact p ι _ H .refl R (.tup ha hd)
  ·exact p.elim
 ·exact p.elim
def rQ:qZ:=uE (uE afk agh) (uE Wn Ni)
theorem nJ:fO X ct (binaryOp .Add) rQ:=(aeN.or ah0).or (aeM.or XJ)
def agb:qZ:=λd e M=>match d,e with
 | .str a,.str b=> .ok (.bl (decide (a.cps.toList<b.cps.toList))) M
 | _,_=> .bad
theorem ahV:fO X ct (compareOp .Lt) agb:=by
 refine⟨_,Yx,λι M H d d' v v' Q R h h' p=> ?_⟩
 unfold agb at p
 split at p
 ·cases qw h
  cases qw h'
  exact⟨_,_,rfl,rfl,p ι _ H .refl R (.bl _)⟩
 ·exact p.elim
noncomputable def jk:List D->Option (List Int)
 | []=>some []
 | .int i::r=>(jk r).map (i:: ·)
 | _=>none
theorem oE{K:Frag}{ι:Nat->Addr}{n:Nat}{H:Hp}:∀{ds:List D} {is:List Int} {vs:List V},jk ds=some is->h_ K ct ι n H ds vs->vs=is.map V.int
 | [],_,_,h,.nil=>by cases h;rfl
 | d::r,is,_,h,.cons q qs=>by
  cases q with
  | int i=>
   simp only[jk]at h
   obtain⟨js,h1,rfl⟩:=Option.map_eq_some_iff.mp h
   rw[oE h1 qs]
   rfl
  | _=>simp only[jk]at h;cases h
noncomputable def aga:qZ:=λd e M=>match d,e with
 | .tup xs,.tup ys=>match jk xs,jk ys with
  | some is,some js=> .ok (.bl (HT.lexLt is js)) M
  | _,_=> .bad
 | _,_=> .bad
theorem ahU(hu:X.A.units+64<cLine):fO X ct (compareOp .Lt) aga:=by
 refine⟨_,agS (),λι M H d d' v v' Q R h h' p=> ?_⟩
 unfold aga at p
 split at p
 ·obtain⟨a,vs,rfl,ha,hd⟩:=lK h
  obtain⟨b,us,rfl,hb,hd'⟩:=lK h'
  split at p
  ·rename_i is js e1 e2
   have x1:=oE e1 hd
   have x2:=oE e2 hd'
   subst x1 x2
   exact⟨a,b,is,js,rfl,rfl,kO.of ha,kO.of hb,p ι _ H .refl R (.bl _)⟩
  ·exact p.elim
 ·exact p.elim
def sLt:qZ:=uE (uE aja agb) aga
theorem GQ(hu:X.A.units+64<cLine):fO X ct (compareOp .Lt) sLt:=(akG.or ahV).or (ahU hu)
def Yi:D->Mem->Out D:=λd M=>match d with
 | .int i=> .ok (.int (-i)) M
 | _=> .bad
theorem Uu:UnS X ct (unaryOp .USub) Yi:=⟨_,afR,λι M H d v Q R h p=>by
 cases d with
 | int i=>cases oY h;exact⟨i,rfl,p ι _ H .refl R (.int _)⟩
 | _=>exact p.elim⟩
noncomputable def rY(f:D->Option Dt):List D->Option (List Dt)
 | []=>some []
 | d::ds=>match f d,rY f ds with
  | some t,some ts=>some (t::ts)
  | _,_=>none
noncomputable def eG(M:Mem):Nat->D->Option Dt
 | 0,_=>none
 | k+1,d=>match d with
  | .non=>some .non
  | .bl b=>some (.bl b)
  | .int i=>some (.int i)
  | .str x=>some (.str x)
  | .tup ds=>(rY (eG M k) ds).map .tup
  | .ref n=>match n_ M n with
   | some ds=>(rY (eG M k) ds).map .lst
   | none=>none
  | .cl ds=>(rY (eG M k) ds).map .lst
  | .ty _=>none
  | .cls _=>none
  | .exc _ _=>none
  | .mW _=>none
theorem Jj{K:Frag}{ι:Nat->Addr}{n:Nat}{H:Hp}{k:Nat}{f:D->Option Dt}(hf:∀d t v,f d=some t->DV K ct ι n H d v->Is K H v t/\dep t<=k):
  ∀{ds:List D} {ts:List Dt} {vs:List V},rY f ds=some ts->h_ K ct ι n H ds vs->IW K H vs ts/\deps ts<=k
 | [],ts,_,h,.nil=>by cases h;exact⟨.nil,by unfold deps;exact Nat.zero_le _⟩
 | d::ds,ts,_,h,.cons q qs=>by
  simp only[rY]at h
  cases z:f d with
  | none=>rw[z]at h;cases h
  | some t=>
   cases z2:rY f ds with
   | none=>rw[z,z2]at h;cases h
   | some ts'=>
    rw[z,z2]at h
    cases h
    obtain⟨a,b⟩:=hf d t _ z q
    obtain⟨a',b'⟩:=Jj hf z2 qs
    exact⟨.cons a a',by unfold deps;exact Nat.max_le.mpr ⟨b,b'⟩⟩
theorem Ec{K:Frag}{ι:Nat->Addr}{M:Mem}{H:Hp}(R:Rl K ct ι M H):∀(k:Nat) (d:D) (t:Dt) (v:V),eG M k d=some t->DV K ct ι M.length H d v->Is K H v t/\dep t<=k
 | 0,d,t,v,h,_=>by simp only[eG]at h;cases h
 | k+1,d,t,v,h,q=>by
  cases q with
  | non=>simp only[eG]at h;cases h;exact⟨.non,by unfold dep;exact Nat.zero_le _⟩
  | bl b=>simp only[eG]at h;cases h;exact⟨.bl b,by unfold dep;exact Nat.zero_le _⟩
  | int b=>simp only[eG]at h;cases h;exact⟨.int b,by unfold dep;exact Nat.zero_le _⟩
  | str b=>simp only[eG]at h;cases h;exact⟨.str b,by unfold dep;exact Nat.zero_le _⟩
  | ty b=>simp only[eG]at h;cases h
  | cls b=>simp only[eG]at h;cases h
  | exc _ _ _=>simp only[eG]at h;cases h
  | mW _ _=>simp only[eG]at h;cases h
  | @tup a xs ds hs hd=>
   simp only[eG]at h
   cases z:rY (eG M k) ds with
   | none=>rw[z]at h;cases h
   | some ts=>
    rw[z]at h
    cases h
    obtain⟨a,b⟩:=Jj (λd t v=>Ec R k d t v) z hd
    exact⟨.tup (kO.of hs) a,by unfold dep;omega⟩
  | @ref i hi=>
   simp only[eG]at h
   cases z0:n_ M i with
   | none=>rw[z0]at h;cases h
   | some ds=>
    rw[z0]at h
    obtain⟨xs,hs,hd⟩:=R.obj i _ (iU.mp z0)
    cases z:rY (eG M k) ds with
    | none=>simp only[z]at h;cases h
    | some ts=>
     simp only[z]at h
     cases h
     obtain⟨a,b⟩:=Jj (λd t v=>Ec R k d t v) z hd
     exact⟨.lst (pB.of hs) a,by unfold dep;omega⟩
  | @cl a xs ds hs hd=>
   simp only[eG]at h
   cases z:rY (eG M k) ds with
   | none=>rw[z]at h;cases h
   | some ts=>
    rw[z]at h
    cases h
    obtain⟨a,b⟩:=Jj (λd t v=>Ec R k d t v) z hd
    exact⟨.lst hs.sq a,by unfold dep;omega⟩
def Tw(M:Mem)(d e:D):Option Bool:=match eG M 12 d,eG M 12 e with
 | some a,some b=>some (jb a b)
 | _,_=>none
def sEq:qZ:=λd e M=>match Tw M d e with
 | some b=> .ok (.bl b) M
 | none=> .bad
def sNe:qZ:=λd e M=>match Tw M d e with
 | some b=> .ok (.bl (!b)) M
 | none=> .bad
theorem acg{K:Frag}{ι:Nat->Addr}{M:Mem}{H:Hp}{d e:D}{v u:V}{b:Bool}(R:Rl K ct ι M H)(h:Tw M d e=some b)(q:DV K ct ι M.length H d v)(q':DV K ct ι M.length H e u):∃x y,Is K H v x/\Is K H u y/\dep x<=20/\b=jb x y:=by
 unfold Tw at h
 cases z:eG M 12 d with
 | none=>rw[z]at h;cases h
 | some x=>
  cases z2:eG M 12 e with
  | none=>rw[z,z2]at h;cases h
  | some y=>
   rw[z,z2]at h
   cases h
   obtain⟨a,c⟩:=Ec R 12 d x v z q
   obtain⟨a',_⟩:=Ec R 12 e y u z2 q'
   exact⟨x,y,a,a',(),rfl⟩
theorem bR(hu:X.A.units+64<cLine):fO X ct (compareOp .Eq) sEq:=by
 refine⟨_,agV hu,λι M H d d' v v' Q R h h' p=> ?_⟩
 unfold sEq at p
 cases z:Tw M d d' with
 | none=>rw[z]at p;exact p.elim
 | some b=>
  rw[z]at p
  obtain⟨x,y,a,a',hd,rfl⟩:=acg R z h h'
  exact⟨x,y,a,a',hd,p ι _ H .refl R (.bl _)⟩
theorem lz(hu:X.A.units+64<cLine):fO X ct (compareOp .NotEq) sNe:=by
 refine⟨_,agP hu,λι M H d d' v v' Q R h h' p=> ?_⟩
 unfold sNe at p
 cases z:Tw M d d' with
 | none=>rw[z]at p;exact p.elim
 | some b=>
  rw[z]at p
  obtain⟨x,y,a,a',hd,rfl⟩:=acg R z h h'
  exact⟨x,y,a,a',hd,p ι _ H .refl R (.bl _)⟩
def NB(d:D):Bool:=match d with
 | .non=>true
 | _=>false
theorem abO{K:Frag}{ι:Nat->Addr}{n:Nat}{H:Hp}{d:D}{v:V}(q:DV K ct ι n H d v):decide (v= .non)=NB d:=by
 cases q<;>simp[NB]
def sIs:qZ:=λd e M=>match e with
 | .non=> .ok (.bl (NB d)) M
 | _=> .bad
def zA:qZ:=λd e M=>match e with
 | .non=> .ok (.bl (!NB d)) M
 | _=> .bad
theorem T7:fO X ct (compareOp .Is) sIs:=by
 refine⟨_,agU,λι M H d d' v v' Q R h h' p=> ?_⟩
 cases h' with
 | non=>exact⟨rfl,p ι _ H .refl R (by rw[abO h];exact .bl _)⟩
 | _=>exact p.elim
theorem vZ:fO X ct (compareOp .IsNot) zA:=by
 refine⟨_,adY,λι M H d d' v v' Q R h h' p=> ?_⟩
 cases h' with
 | non=>exact⟨rfl,p ι _ H .refl R (by rw[abO h];exact .bl _)⟩
 | _=>exact p.elim
theorem h_.Mw{K:Frag}{ι:Nat->Addr}{n:Nat}{H:Hp}{ds:List D}{vs:List V}{i:Int}{d:D}(h:h_ K ct ι n H ds vs)(e:L2.Mw ds i=some d):∃v,L2.Mw vs i=some v/\DV K ct ι n H d v:=by
 unfold L2.Mw at*
 rw[h.length]
 cases z:ixN ds.length i with
 | none=>rw[z]at e;cases e
 | some j=>rw[z]at e;exact h.at e
variable{a b:Expr}{ma mb:ME}{pos:Pos}
section
variable{κ:Type}[DecidableEq κ]
noncomputable def uB(kvs:List (κ×D))(k:κ):Option D:=(kvs.find? λkv=>decide (kv.1=k)).map (·.2)
noncomputable def Yp(kvs:List (κ×D))(k:κ)(d:D):List (κ×D):=if(kvs.any λkv=>decide (kv.1=k))=true then kvs.map (λkv=>if kv.1=k then(kv.1,d)else kv)else kvs++[(k,d)]
variable{K:Frag}{ι:Nat->Addr}{n:Nat}{H:Hp}
theorem Be.val:∀{kvs:List (κ×D)} {vs:List (κ×V)},Be K ct ι n H kvs vs->∀k,(∀d,uB kvs k=some d->∃v,Bw vs k=some v/\DV K ct ι n H d v)/\(uB kvs k=none->Bw vs k=none)
 | _,_,.nil,k=>⟨λd h=>by simp[uB]at h,λ_=>rfl⟩
 | _,_,.cons (x:=x) (d:=d) (v:=v) (fs:=fs) h hs,k=>by
  by_cases e:x=k
  ·have e1:uB ((x,d)::fs) k=some d:=by simp[uB,e]
   rw[e1,DR (p:=(x,v)) e]
   exact⟨λd' q=>by cases q;exact⟨_,rfl,h⟩,λq=>by cases q⟩
  ·have e1:uB ((x,d)::fs) k=uB fs k:=by simp[uB,e]
   rw[e1,DW (p:=(x,v)) e]
   exact hs.val k
theorem Be.any:∀{kvs:List (κ×D)} {vs:List (κ×V)},Be K ct ι n H kvs vs->∀k,(vs.any λkv=>decide (kv.1=k))=(kvs.any λkv=>decide (kv.1=k))
 | _,_,.nil,_=>rfl
 | _,_,.cons _ hs,k=>by simp only[List.any_cons,hs.any k]
theorem Be.repl(hd:DV K ct ι n H d v)(k:κ):∀{kvs:List (κ×D)} {vs:List (κ×V)},Be K ct ι n H kvs vs->Be K ct ι n H (kvs.map λkv=>if kv.1=k then(kv.1,d)else kv) (vs.map λkv=>if kv.1=k then(kv.1,v)else kv)
 | _,_,.nil=> .nil
 | _,_,.cons (x:=x) h hs=>by
  simp only[List.map_cons]
  by_cases e:x=k
  ·rw[if_pos e,if_pos e];exact .cons hd (hs.repl hd k)
  ·rw[if_neg e,if_neg e];exact .cons h (hs.repl hd k)
theorem Be.snoc(hd:DV K ct ι n H d v)(k:κ):∀{kvs:List (κ×D)} {vs:List (κ×V)},Be K ct ι n H kvs vs->Be K ct ι n H (kvs++[(k,d)]) (vs++[(k,v)])
 | _,_,.nil=> .cons hd .nil
 | _,_,.cons h hs=> .cons h (hs.snoc hd k)
theorem Be.put(h:Be K ct ι n H kvs vs)(hd:DV K ct ι n H d v)(k:κ):Be K ct ι n H (Yp kvs k d) (putK vs k v):=by
 unfold Yp putK
 rw[h.any k]
 split
 ·exact h.repl hd k
 ·exact h.snoc hd k
end
noncomputable def toKey:D->Option Key
 | .int i=>some (.inl i)
 | .str s=>some (.inr s)
 | _=>none
noncomputable def toKeys:List D->Option (List Key)
 | []=>some []
 | d::r=>match toKey d,toKeys r with
  | some k,some ks=>some (k::ks)
  | _,_=>none
section
variable{K:Frag}{ι:Nat->Addr}{n:Nat}{H:Hp}
theorem JG(h:toKey d=some k)(q:DV K ct ι n H d v):v=kV k:=by
 cases q<;>simp only[toKey]at h<;>cases h<;>rfl
theorem vm:∀{ds:List D} {ks:List Key} {vs:List V},toKeys ds=some ks->h_ K ct ι n H ds vs->vs=ks.map kV
 | [],ks,_,h,.nil=>by cases h;rfl
 | d::r,ks,_,h,.cons q qs=>by
  simp only[toKeys]at h
  cases z:toKey d with
  | none=>rw[z]at h;cases h
  | some k=>
   cases z2:toKeys r with
   | none=>rw[z,z2]at h;cases h
   | some kr=>
    rw[z,z2]at h
    cases h
    rw[JG z q,vm z2 qs]
    rfl
end
noncomputable def BV(M:Mem)(n:Nat)(y:D):Option (Option D×Mem):=match M[n]? with
 | some (.dk kvs)=>match toKey y with
  | some k=>some (uB kvs k,M)
  | none=>match y with
   | .tup ds=>match toKeys ds with
    | some _=>if kvs.isEmpty=true then some (none,M.set n (.dt []))else none
    | none=>none
   | _=>none
 | some (.dt kvs)=>match y with
  | .tup ds=>match toKeys ds with
   | some k=>some (uB kvs k,M)
   | none=>none
  | _=>none
 | _=>none
theorem Jp{K:Frag}{ι:Nat->Addr}{M M':Mem}{H:Hp}{n:Nat}{y:D}{vy:V}{o:Option D}(R:Rl K ct ι M H)(h:BV M n y=some (o,M'))(hn:n<M.length)(q:DV K ct ι M.length H y vy):
  ∃ov H',VP H (ι n) vy ov H'/\Ext K ι M.length H ι M'.length H'/\Rl K ct ι M' H'/\(∀d,o=some d->∃v,ov=some v/\DV K ct ι M'.length H' d v/\H'=H/\M'=M)/\(o=none->ov=none):=by
 unfold BV at h
 split at h
 ·rename_i kvs e
  obtain⟨vs,hH,pv⟩:=R.obj n _ e
  split at h
  ·rename_i k ek
   cases h
   have ey:=JG ek q
   subst ey
   refine⟨Bw vs k,H,.inl ⟨Dz.k hH,rfl⟩,.refl,R,λd hd=> ?_,λhd=>(pv.val k).2 hd⟩
   obtain⟨v,h1,h2⟩:=(pv.val k).1 d hd
   exact⟨v,h1,h2,rfl,rfl⟩
  ·split at h
   ·rename_i ds
    split at h
    ·rename_i ks eks
     split at h
     ·rename_i hem
      cases h
      have ek:kvs=[]:=List.isEmpty_iff.mp hem
      subst ek
      cases pv
      obtain⟨b,xs,rfl,hb,hd⟩:=lK q
      have ex:=vm eks hd
      subst ex
      have x2:Ext K ι M.length H ι M.length (upd H (ι n) (.dT [])):=Ext.chg hH (λ_ z=>nomatch z) (λ_ _ z=>nomatch z)
      refine⟨none,upd H (ι n) (.dT []),.inr ⟨hH,⟨ks,b,rfl,hb⟩,rfl,rfl⟩,by rw[List.length_set];exact x2,R.chg hn hH (λ_ z=>nomatch z) (λ_ _ z=>nomatch z) ⟨[],bB,.nil⟩,(λd hd=>nomatch hd),λ_=>rfl⟩
     ·cases h
    ·cases h
   ·cases h
 ·rename_i kvs e
  obtain⟨vs,hH,pv⟩:=R.obj n _ e
  split at h
  ·rename_i ds
   split at h
   ·rename_i ks eks
    cases h
    obtain⟨b,xs,rfl,hb,hd⟩:=lK q
    have ex:=vm eks hd
    subst ex
    refine⟨Bw vs ks,H,.inl ⟨Dz.t hH hb,rfl⟩,.refl,R,λd hd=> ?_,λhd=>(pv.val ks).2 hd⟩
    obtain⟨v,h1,h2⟩:=(pv.val ks).1 d hd
    exact⟨v,h1,h2,rfl,rfl⟩
   ·cases h
  ·cases h
 ·cases h
noncomputable def adt:qZ:=λd y M=>match d with
 | .ref n=>match BV M n y with
  | some (some v,_)=> .ok v M
  | _=> .bad
 | _=> .bad
theorem agJ{K:Frag}:Q4 K ct adt ajt:=by
 intro w ι M H d d' v v' Q R h h' p
 cases d with
 | ref n=>
  obtain⟨hn,rfl⟩:=oX h
  simp only[adt]at p
  split at p
  ·rename_i x M' e
   obtain⟨ov,H',g,_,_,h1,_⟩:=Jp R e hn h'
   obtain⟨vx,rfl,dv,rfl,rfl⟩:=h1 x rfl
   rcases g with⟨g,_⟩ | ⟨_,_,z,_⟩
   ·exact⟨_,vx,rfl,g,p ι vx _ .refl R dv⟩
   ·cases z
  ·exact p.elim
 | _=>exact p.elim
noncomputable def Ma:qZ:=λd e M=>match e with
 | .int i=>match d with
  | .tup ds=>match L2.Mw ds i with
   | some x=> .ok x M
   | none=> .bad
  | d=>match Gm M d with
   | some ds=>match L2.Mw ds i with
    | some x=> .ok x M
    | none=> .bad
   | none=> .bad
 | _=> .bad
theorem agI:Q4 X.K ct Ma (λx y H Q=>ajs X.K x y H Q\/ajq X.K x y H Q):=by
 intro w ι M H d d' v v' Q R h h' p
 cases d' with
 | int i=>
  cases oY h'
  cases d with
  | tup ds=>
   obtain⟨aa,xs,rfl,hs,hd⟩:=Qz h
   simp only[Ma]at p
   cases z:L2.Mw ds i with
   | none=>rw[z]at p;exact p.elim
   | some x=>
    rw[z]at p
    obtain⟨v,e,dv⟩:=hd.Mw z
    exact .inr ⟨_,_,_,_,rfl,rfl,hs,e,p ι v H .refl R dv⟩
  | _=>
   simp only[Ma]at p
   split at p
   ·rename_i ds z0
    obtain⟨aa,xs,rfl,hs,hd⟩:=R.seq z0 h
    cases z:L2.Mw ds i with
    | none=>rw[z]at p;exact p.elim
    | some x=>
     rw[z]at p
     obtain⟨v,e,dv⟩:=hd.Mw z
     exact .inl ⟨_,_,_,_,rfl,rfl,hs,e,p ι v H .refl R dv⟩
   ·exact p.elim
 | _=>exact p.elim
def adq:qZ:=λd e M=>match d,e with
 | .str z,.int i=>match L2.Mw z.cps.toList i with
  | some c=>if z.length<=sizeLine then .ok (.str ⟨#[c]⟩) M else .bad
  | none=> .bad
 | _,_=> .bad
theorem agH{K:Frag}:Q4 K ct adq ajr:=by
 intro w ι M H d d' v v' Q R h h' p
 unfold adq at p
 split at p
 ·rename_i z i
  cases qw h
  cases oY h'
  cases e:L2.Mw z.cps.toList i with
  | none=>rw[e]at p;exact p.elim
  | some c=>
   rw[e]at p
   dsimp only at p
   split at p
   ·rename_i hz
    exact⟨z,i,c,rfl,rfl,hz,e,p ι _ H .refl R (.str _)⟩
   ·exact p.elim
 ·exact p.elim
def bh:qZ:=uE (uE Ma adt) adq
theorem aN(hu:X.A.units+64<cLine)(ha:SE X ct W a ma)(hb:SE X ct W b mb)(hs:X4 b:=by exact λ_ _=>rfl):SE X ct W (.Subscript a b pos) (aC bh ma mb):=
 dU (ajC (((aek.or ahj).or (ael ())).or ahk) ha hb hs) λσ H Q q=>JK (Q4.or (Q4.or agI agJ) agH) q
noncomputable def U4(neg:Bool):qZ:=λy x M=>match x with
 | .ref n=>match BV M n y with
  | some (o,M')=> .ok (.bl (if neg=true then !o.isSome else o.isSome)) M'
  | none=> .bad
 | _=> .bad
theorem abi{K:Frag}{neg:Bool}:Q4 K ct (U4 neg) (agl neg):=by
 intro w ι M H d d' v v' Q R h h' p
 cases d' with
 | ref n=>
  obtain⟨hn,rfl⟩:=oX h'
  simp only[U4]at p
  cases e:BV M n d with
  | none=>rw[e]at p;exact p.elim
  | some oM=>
   obtain⟨o,M'⟩:=oM
   rw[e]at p
   obtain⟨ov,H',g,x,R',h1,h2⟩:=Jp R e hn h
   have es:ov.isSome=o.isSome:=by
    cases o with
    | none=>rw[h2 rfl];rfl
    | some d=>obtain⟨v,rfl,_⟩:=h1 d rfl;rfl
   exact⟨_,ov,H',rfl,g,by rw[es];exact p ι _ H' x R' (.bl _)⟩
 | _=>cases d<;>exact p.elim
noncomputable def Rn:D->Option V
 | .non=>some .non
 | .bl b=>some (.bl b)
 | .int i=>some (.int i)
 | .str s=>some (.str s)
 | _=>none
noncomputable def Oq:List D->Option (List V)
 | []=>some []
 | d::r=>match Rn d,Oq r with
  | some v,some vs=>some (v::vs)
  | _,_=>none
theorem V8{K:Frag}{ι:Nat->Addr}{n:Nat}{H:Hp}{d:D}{u v:V}(h:Rn d=some u)(q:DV K ct ι n H d v):v=u/\Cu u=true:=by
 cases q<;>simp only[Rn]at h<;>cases h<;>exact⟨rfl,rfl⟩
theorem V7{K:Frag}{ι:Nat->Addr}{n:Nat}{H:Hp}:∀{ds:List D} {us vs:List V},Oq ds=some us->h_ K ct ι n H ds vs->vs=us/\us.all Cu=true
 | [],_,_,h,.nil=>by cases h;exact⟨rfl,rfl⟩
 | d::r,us,_,h,.cons q qs=>by
  simp only[Oq]at h
  cases z:Rn d with
  | none=>rw[z]at h;cases h
  | some u=>
   cases z2:Oq r with
   | none=>rw[z,z2]at h;cases h
   | some ur=>
    rw[z,z2]at h
    cases h
    obtain⟨rfl,f1⟩:=V8 z q
    obtain⟨rfl,f2⟩:=V7 z2 qs
    exact⟨rfl,by simp[f1,f2]⟩
theorem ahZ(hu:X.A.units+64<cLine):fO X ct (compareOp .In) (U4 false):=⟨_,agW (),abi⟩
theorem Zm(hu:X.A.units+64<cLine):fO X ct (compareOp .NotIn) (U4 true):=⟨_,YB (),abi⟩
def cut{α:Type}(xs:List α)(lo hi:Option Int):List α:=(xs.drop (HT.bh xs.length 0 lo)).take (HT.bh xs.length xs.length hi - HT.bh xs.length 0 lo)
theorem h_.cut{K:Frag}{ι:Nat->Addr}{n:Nat}{H:Hp}{ds:List D}{vs:List V}(h:h_ K ct ι n H ds vs)(lo hi:Option Int):h_ K ct ι n H (S.cut ds lo hi) (TY vs lo hi):=by
 unfold S.cut TY
 rw[h.length]
 exact(h.drop _).take _
abbrev MO':=Sl->Mem->Out (Option Int)
def amI:(Nat->Addr)->Mem->Hp->Option Int->Option Int->Prop:=λ_ _ _ a b=>a=b
def SO(X:Cx)(ct:Nat->Addr)(W:bA)(e:Option Expr)(m:MO'):Prop:=PO X e (tG amI X.K ct W m)
def asI(d:D)(M:Mem):Out (Option Int):=match d with
 | .int i=> .ok (some i) M
 | _=> .bad
def xu:MO':=λ_ M=> .ok none M
def Kq(m:ME):MO':=λe M=>(m e M).bind asI
theorem Eg:SO X ct W none xu:=λpins s σ H Q I ⟨ι,e,M,w,p⟩=>adO pins s σ H Q I (p ι none H .refl w.rl rfl)
theorem Ef(h:SE X ct W a ma):SO X ct W (some a) (Kq ma):=λpins s σ H Q I q=>adN h pins s σ H Q I (by
 obtain⟨ι,e,M,w,p⟩:=bN (dM:=dm X.K ct) (f:=λd _ M1=>asI d M1) q
 refine⟨ι,e,M,w,p.mono ?_⟩
 rintro v H1 ⟨cg,e1,M1,d,w1,q1,p1⟩
 cases q1 with
 | int i=>exact⟨i,rfl,p1 cg _ H1 .refl w1.rl rfl⟩
 | _=>exact p1.elim)
noncomputable def sSl(d:D)(lo hi:Option Int)(M:Mem):Out D:=match d with
 | .tup ds=>if HT.bh ds.length 0 lo=0/\HT.bh ds.length ds.length hi=ds.length then .bad else .ok (.tup (cut ds lo hi)) M
 | .str u=>if u.length<=sizeLine then .ok (.str (Txt.slice u lo hi)) M else .bad
 | d=>match Gm M d with
  | some ds=> .ok (.ref M.length) (M++[.lst (cut ds lo hi)])
  | none=> .bad
noncomputable def mSl(m:ME)(lo hi:MO'):ME:=λe M=>(m e M).bind λd M1=>(lo e M1).bind λl M2=>(hi e M2).bind λh M3=>sSl d l h M3
theorem ai5{lo hi:Option Expr}{ml mh:MO'}(ha:SE X ct W a ma)(hl:SO X ct W lo ml)(hh:SO X ct W hi mh):SE X ct W (.Subscript a (.Slice lo hi none p2) pos) (mSl ma ml mh):=by
 refine dU (R9 ((adb.or aaq).or af4) ha hl hh) λσ H Q q=> ?_
 obtain⟨ι,e,M,w,p⟩:=bN (dM:=dm X.K ct) (f:=λd e M1=>(ml e M1).bind λl M2=>(mh e M2).bind λh M3=>sSl d l h M3) q
 refine⟨ι,e,M,w,p.mono ?_⟩
 rintro v H1 ⟨cg,e1,M1,d,w1,q1,p1⟩
 refine⟨cg,e1,M1,w1,?_⟩
 cases z:ml e1 M1 with
 | bad=>simp only[z,Out.cW]at p1;exact p1
 | exc xc xd xM=>simp only[z,Out.gb]at p1;exact p1
 | ok l M2=>
  simp only[z,Out.b_]at p1
  intro gP l' H2 x2 r2 el
  have KR:l=l':=el;subst KR
  refine⟨gP,e1,M2,w1.ext x2 r2,?_⟩
  have p2:=p1.ext x2
  cases z2:mh e1 M2 with
  | bad=>simp only[z2,Out.cW]at p2;exact p2
  | exc xc xd xM=>simp only[z2,Out.gb]at p2;exact p2
  | ok h M3=>
   simp only[z2,Out.b_]at p2
   intro DP h' H3 x3 r3 eh
   have KR:h=h':=eh;subst KR
   have p3:=p2.ext x3
   have q3:=(q1.mono x2).mono x3
   cases d with
   | tup ds=>
    obtain⟨aa,xs,rfl,hs,hd⟩:=Qz q3
    simp only[sSl]at p3
    split at p3
    ·exact p3.elim
    ·rename_i hw
     exact .inl (.inr ⟨_,_,rfl,hs,by rw[hd.length];exact hw,λpp hp=>Eu r3 (hd.cut l h) hp p3⟩)
   | str u=>
    cases qw q3
    simp only[sSl]at p3
    split at p3
    ·rename_i hz
     exact .inr ⟨u,rfl,hz,p3 DP _ H3 .refl r3 (.str _)⟩
    ·exact p3.elim
   | _=>
    simp only[sSl]at p3
    split at p3
    ·rename_i ds z0
     obtain⟨aa,xs,rfl,hs,hd⟩:=r3.seq z0 q3
     exact .inl (.inl ⟨_,_,rfl,hs,λpp hp=>rR r3 (hd.cut l h) hp p3⟩)
    ·exact p3.elim
theorem K6{K:Frag}{ι:Nat->Addr}{n:Nat}{H:Hp}{d:D}{vs:List V}(h:h_ K ct ι n H [d] vs):∃v,vs=[v]/\DV K ct ι n H d v:=by
 cases h with | cons a b=>cases b;exact⟨_,rfl,a⟩
theorem aky{K:Frag}{ι:Nat->Addr}{n:Nat}{H:Hp}{d d':D}{vs:List V}(h:h_ K ct ι n H [d,d'] vs):∃v v',vs=[v,v']/\DV K ct ι n H d v/\DV K ct ι n H d' v':=by
 cases h with | cons a b=>obtain⟨v,rfl,q⟩:=K6 b;exact⟨_,_,rfl,a,q⟩
noncomputable def vB(M:Mem)(d:D):Option (List D):=match d with
 | .tup ds=>some ds
 | .mW ds=>some ds
 | d=>Gm M d
theorem Rl.seqs{K:Frag}{ι:Nat->Addr}{M:Mem}{H:Hp}(R:Rl K ct ι M H){d:D}{v:V}{ds:List D}(h:vB M d=some ds)(q:DV K ct ι M.length H d v):∃a xs,v= .ref a/\(pB K H a xs\/kO K H a xs)/\h_ K ct ι M.length H ds xs:=by
 cases d with
 | tup es=>cases h;obtain⟨a,xs,e,hs,hd⟩:=Qz q;exact⟨a,xs,e,.inr hs,hd⟩
 | mW es=>cases h;cases q with | mW h1 h2=>exact⟨_,_,rfl,.inr (.inr h1),h2⟩
 | _=>simp only[vB]at h;obtain⟨a,xs,e,hs,hd⟩:=R.seq h q;exact⟨a,xs,e,.inl hs,hd⟩
noncomputable def Wj:Uo:=λds M=>match ds with
 | [d]=>match vB M d with
  | some es=> .ok (.int es.length) M
  | none=> .bad
 | _=> .bad
theorem aeE:tW X ct (.builtin "len") Wj:=by
 refine⟨_,QK,λι M H ds vs Q R h p=> ?_⟩
 unfold Wj at p
 split at p
 ·rename_i d
  obtain⟨v,rfl,q⟩:=K6 h
  cases z:vB M d with
  | none=>rw[z]at p;exact p.elim
  | some es=>
   rw[z]at p
   obtain⟨a,xs,rfl,hs,hd⟩:=R.seqs z q
   exact⟨_,xs,rfl,hs,p ι _ H .refl R (by rw[hd.length];exact .int _)⟩
 ·exact p.elim
def orN(a b:Uo):Uo:=λds M=>match a ds M with
 | .bad=>b ds M
 | o=>o
theorem tW.or{f:Value}{a b:Uo}(ha:tW X ct f a)(hb:tW X ct f b):tW X ct f (orN a b):=by
 obtain⟨r,h,hs⟩:=ha
 obtain⟨r',h',hs'⟩:=hb
 refine⟨_,h.or h',λι M H ds vs Q R q p=> ?_⟩
 unfold orN at p
 cases z:a ds M with
 | ok x M1=>rw[z]at p;exact .inl (hs ι M H ds vs Q R q (by rw[z];exact p))
 | exc xc xd xM=>rw[z]at p;exact .inl (hs ι M H ds vs Q R q (by rw[z];exact p))
 | bad=>rw[z]at p;exact .inr (hs' ι M H ds vs Q R q p)
theorem abj{a b:Uo}{ds:List D}{x:D}{M M':Mem}(h:a ds M= .ok x M'):orN a b ds M= .ok x M':=by unfold orN;rw[h]
noncomputable def aaD:Uo:=λds M=>match ds with
 | [.ref n]=>match M[n]? with
  | some (.dk kvs)=> .ok (.int kvs.length) M
  | some (.dt kvs)=> .ok (.int kvs.length) M
  | _=> .bad
 | _=> .bad
theorem aeF:tW X ct (.builtin "len") aaD:=by
 refine⟨_,Zi.or Zh,λι M H ds vs Q R h p=> ?_⟩
 unfold aaD at p
 split at p
 ·rename_i n
  obtain⟨v,rfl,q⟩:=K6 h
  obtain⟨hn,rfl⟩:=oX q
  split at p
  ·rename_i kvs e
   obtain⟨ys,hH,pv⟩:=R.obj n _ e
   exact .inl ⟨_,ys,rfl,hH,by rw[pv.length];exact p ι _ H .refl R (.int _)⟩
  ·rename_i kvs e
   obtain⟨ys,hH,pv⟩:=R.obj n _ e
   exact .inr ⟨_,ys,rfl,hH,by rw[pv.length];exact p ι _ H .refl R (.int _)⟩
  ·exact p.elim
 ·exact p.elim
noncomputable def U3(neg:Bool):qZ:=λy x M=>match Rn y,vB M x with
 | some v,some ds=>match Oq ds with
  | some vs=> .ok (.bl (if neg=true then !inV v vs else inV v vs)) M
  | none=> .bad
 | _,_=> .bad
theorem abh{K:Frag}{neg:Bool}:Q4 K ct (U3 neg) (rIn K neg):=by
 intro w ι M H d d' v v' Q R h h' p
 unfold U3 at p
 split at p
 ·rename_i u ds e1 e2
  obtain⟨rfl,f1⟩:=V8 e1 h
  obtain⟨a,xs,rfl,hs,hd⟩:=R.seqs e2 h'
  cases e3:Oq ds with
  | none=>rw[e3]at p;exact p.elim
  | some us=>
   rw[e3]at p
   obtain⟨rfl,f2⟩:=V7 e3 hd
   exact⟨a,_,rfl,hs,f1,f2,p ι _ H .refl R (.bl _)⟩
 ·exact p.elim
def sIn:qZ:=uE (U4 false) (U3 false)
def U0:qZ:=uE (U4 true) (U3 true)
theorem XH(hu:X.A.units+64<cLine):fO X ct (compareOp .In) sIn:=(ahZ hu).or ⟨_,Yz,abh⟩
theorem acw(hu:X.A.units+64<cLine):fO X ct (compareOp .NotIn) U0:=(Zm hu).or ⟨_,Pn,abh⟩
noncomputable def aaC:Uo:=λds M=>match ds with
 | [.str z]=>if z.length<=sizeLine then .ok (.int z.length) M else .bad
 | _=> .bad
theorem aeD:tW X ct (.builtin "len") aaC:=by
 refine⟨_,QJ,λι M H ds vs Q R h p=> ?_⟩
 unfold aaC at p
 split at p
 ·obtain⟨v,rfl,q⟩:=K6 h
  cases qw q
  split at p
  ·rename_i hz
   exact⟨_,rfl,hz,p ι _ H .refl R (.int _)⟩
  ·exact p.elim
 ·exact p.elim
def gJ:Uo:=orN (orN Wj aaD) aaC
theorem fL:tW X ct (.builtin "len") gJ:=(aeE.or aeF).or aeD
noncomputable def J0:Uo:=λds M=>match ds with
 | [.int i,.int j]=> .ok (.int (if j > i then j else i)) M
 | _=> .bad
def Wi:Uo:=λds M=>match ds with
 | [.int i,.int j]=> .ok (.int (if j<i then j else i)) M
 | _=> .bad
theorem Jq(hc:X.calm=true):tW X ct (.builtin "max") J0:=by
 refine⟨_,Zg hc,λι M H ds vs Q R h p=> ?_⟩
 unfold J0 at p
 split at p
 ·obtain⟨v,v',rfl,q,q'⟩:=aky h
  cases oY q
  cases oY q'
  exact⟨_,_,rfl,p ι _ H .refl R (.int _)⟩
 ·exact p.elim
theorem aeC(hc:X.calm=true):tW X ct (.builtin "min") Wi:=by
 refine⟨_,Zf hc,λι M H ds vs Q R h p=> ?_⟩
 unfold Wi at p
 split at p
 ·obtain⟨v,v',rfl,q,q'⟩:=aky h
  cases oY q
  cases oY q'
  exact⟨_,_,rfl,p ι _ H .refl R (.int _)⟩
 ·exact p.elim
def G9:Uo:=λds M=>match ds with
 | [d]=>match vB M d with
  | some es=> .ok (.ref M.length) (M++[.lst es])
  | none=> .bad
 | _=> .bad
theorem Xx:tW X ct (.type "list") G9:=by
 refine⟨_,QH,λι M H ds vs Q R h p=> ?_⟩
 unfold G9 at p
 split at p
 ·rename_i d
  obtain⟨v,rfl,q⟩:=K6 h
  cases z:vB M d with
  | none=>rw[z]at p;exact p.elim
  | some es=>
   rw[z]at p
   obtain⟨a,xs,rfl,hs,hd⟩:=R.seqs z q
   exact⟨_,xs,rfl,hs,λpp hp=>rR R hd hp p⟩
 ·exact p.elim
def MtS(X:Cx)(ct:Nat->Addr)(T id:String)(op:D->List D->Mem->Out D):Prop:=∃r,MtR X id r/\∀{w:XW} ι M H d ds v vs Q,Rl X.K ct ι M H->DV X.K ct ι M.length H d v->h_ X.K ct ι M.length H ds vs->gq (dm X.K ct) X.K ct w ι M.length H (op d ds M) Q->r v vs H Q
noncomputable def X8(T:String)(d:D)(M:Mem):Bool:=match d with
 | .int _=>T== "int"
 | .str _=>T== "str"
 | .ref n=>T== "list" && (n_ M n).isSome
 | _=>false
theorem Z4{K:Frag}{ι:Nat->Addr}{M:Mem}{H:Hp}{T:String}{d:D}{v:V}(R:Rl K ct ι M H)(h:X8 T d M=true)(q:DV K ct ι M.length H d v):tyV K T v H:=by
 cases q with
 | int i=>exact beq_iff_eq.mp h
 | str i=>exact beq_iff_eq.mp h
 | @ref i hi=>
  simp only[X8,Bool.and_eq_true,beq_iff_eq]at h
  obtain⟨e,h2⟩:=h
  obtain⟨ds,z⟩:=Option.isSome_iff_exists.mp h2
  obtain⟨xs,hs,_⟩:=R.obj i _ (iU.mp z)
  exact .inl ⟨e,xs,pB.of hs⟩
 | _=>exact absurd h xA
noncomputable def mBM(T:String)(op:D->List D->Mem->Out D)(mo:ME)(ms:MA):ME:=λe M=>(mo e M).bind λd M1=>if X8 T d M1=true then(ms e M1).bind λds M2=>op d ds M2 else .bad
variable{o:Expr}{es:List Expr}{mo:ME}{ms:MA}{name:Str}{apos cpos:Pos}{T id:String}{op:D->List D->Mem->Out D}
theorem af7(pa:PlainAttrs T)(slot:Slot T name id)(hty:typeOf (.builtin id)=pure (.type "method_descriptor"))(hm:MtS X ct T id op)(ho:SE X ct W o mo)
  (hbase:attributeBase o name X.env (eval o X.env)=eval o X.env:=by rfl) (hline:(apos.endLine==cpos.line)=true:=by rfl):SE X ct W (.Call (.Attribute o name apos) [] [] cpos) (mBM T op mo aF):=by
 obtain⟨r,hr,hs⟩:=hm
 refine dU (abe pa slot hty hr ho hbase hline) λσ H Q q=> ?_
 obtain⟨ι,e,M,w,p⟩:=bN (dM:=dm X.K ct) (f:=λd e M1=>if X8 T d M1=true then(aF e M1).bind λds M2=>op d ds M2 else .bad) q
 refine⟨ι,e,M,w,p.mono ?_⟩
 rintro v H1 ⟨cg,e1,M1,d,w1,q1,p1⟩
 cases z:X8 T d M1 with
 | false=>simp only[z,Bool.false_eq_true,if_false]at p1;exact p1.elim
 | true=>
  simp only[z,if_true,aF,Out.b_]at p1
  exact⟨Z4 w1.rl z q1,hs cg M1 H1 d [] v [] Q w1.rl q1 .nil p1⟩
theorem afd(pa:PlainAttrs T)(slot:Slot T name id)(hty:typeOf (.builtin id)=pure (.type "method_descriptor"))(hm:MtS X ct T id op)(ho:SE X ct W o mo)(ha:SA X ct W (a::es) ms)
  (hbase:attributeBase o name X.env (eval o X.env)=eval o X.env:=by rfl)
  (hfew:((backTo cpos (starEach (a::es) X.env)).all (λx=> !x.1)&&(backToKw cpos (keywordEach [] X.env)).all (λx=>x.1.isSome)
   && decide ((a::es).length+([]:List Keyword).length+(if([]:List Keyword).isEmpty then 0 else 1)<30))=true:=by rfl)
  (hline:(apos.endLine==cpos.line)=true:=by rfl) (hs:starEach (a::es) X.env=(false,eval a X.env)::starEach es X.env:=by rfl) (hplain:(backTo cpos (starEach es X.env)).any (·.1)=false:=by rfl):
  SE X ct W (.Call (.Attribute o name apos) (a::es) [] cpos) (mBM T op mo ms):=by
 obtain⟨r,hr,hss⟩:=hm
 refine dU (ajD pa slot hty hr ho ha hbase hfew hline hs hplain) λσ H Q q=> ?_
 obtain⟨ι,e,M,w,p⟩:=bN (dM:=dm X.K ct) (f:=λd e M1=>if X8 T d M1=true then(ms e M1).bind λds M2=>op d ds M2 else .bad) q
 refine⟨ι,e,M,w,p.mono ?_⟩
 rintro v H1 ⟨cg,e1,M1,d,w1,q1,p1⟩
 cases z:X8 T d M1 with
 | false=>simp only[z,Bool.false_eq_true,if_false]at p1;exact p1.elim
 | true=>
  simp only[z,if_true]at p1
  refine⟨Z4 w1.rl z q1,cg,e1,M1,w1,?_⟩
  cases z2:ms e1 M1 with
  | bad=>simp only[z2,Out.cW]at p1;exact p1
  | exc xc xd xM=>simp only[z2,Out.gb]at p1;exact p1
  | ok ds M2=>
   simp only[z2,Out.b_]at p1
   exact λgP vs H2 x2 r2 q2=>hss gP M2 H2 d ds v vs Q r2 (q1.mono x2) q2 (p1.ext x2)
noncomputable def Bl:D->List D->Mem->Out D:=λd ds M=>match d,ds with
 | .ref n,[x]=>match M[n]? with
  | some (.lst es)=>if es.length<sizeLine then .ok .non (M.set n (.lst (es++[x])))else .bad
  | _=> .bad
 | _,_=> .bad
theorem YH:MtS X ct "list" "list.append" Bl:=by
 refine⟨_,YG,λι M H d ds v vs Q R q qs p=> ?_⟩
 unfold Bl at p
 split at p
 ·rename_i n x
  obtain⟨hn,rfl⟩:=oX q
  obtain⟨y,rfl,qy⟩:=K6 qs
  split at p
  ·rename_i es e1
   split at p
   ·rename_i hz
    obtain⟨xs,hH,hd⟩:=R.obj n _ e1
    have x2:Ext X.K ι M.length H ι M.length (upd H (ι n) (.lst (xs++[y]))):=Ext.chg hH (λ_ z=>nomatch z) (λ_ _ z=>nomatch z)
    refine⟨_,xs,y,rfl,rfl,hH,by rw[hd.length];exact hz,?_⟩
    refine p ι .non _ (by rw[List.length_set];exact x2) (R.chg hn hH (λ_ z=>nomatch z) (λ_ _ z=>nomatch z) ⟨_,bB,(hd.append (.cons qy .nil)).mono x2⟩) .non
   ·exact p.elim
  ·exact p.elim
 ·exact p.elim
def Wm:D->List D->Mem->Out D:=λd ds M=>match d,ds with
 | .int i,[]=> .ok (.int (Builtin.Int.intBits i:Nat)) M
 | _,_=> .bad
theorem ad9:MtS X ct "int" "int.bit_length" Wm:=by
 refine⟨_,ad8,λι M H d ds v vs Q R q qs p=> ?_⟩
 unfold Wm at p
 split at p
 ·cases oY q
  cases qs
  exact⟨_,rfl,rfl,p ι _ H .refl R (.int _)⟩
 ·exact p.elim
end
inductive g_ where
 | next (e:Sl) (M:Mem) | ret (d:D) (M:Mem) | brk (e:Sl) (M:Mem) | cont (e:Sl) (M:Mem) | exc (c:Nat) (d:D) (e:Sl) (M:Mem) | bad
abbrev MS:=Sl->Mem->g_
def v_(K:Frag)(ct:Nat->Addr)(W:bA)(ι:Nat->Addr)(n:Nat)(H:Hp)(o:g_)(T:Ends):Prop:=match o with
 | .next e M=>∀ι' σ' H',Ext K ι n H ι' M.length H'->Ws K ct ι' e M σ' H'->T.nx σ' H'
 | .ret d M=>∀ι' v H',Ext K ι n H ι' M.length H'->Rl K ct ι' M H'->DV K ct ι' M.length H' d v->T.rt v H'
 | .brk e M=>∀ι' σ' H',Ext K ι n H ι' M.length H'->Ws K ct ι' e M σ' H'->T.bk σ' H'
 | .cont e M=>∀ι' σ' H',Ext K ι n H ι' M.length H'->Ws K ct ι' e M σ' H'->T.ct σ' H'
 | .exc c d e M=>∀ι' σ' dx v H',Ext K ι n H ι' M.length H'->Ws K ct ι' e M σ' H'->H' dx=some (.xd [("at",v)])->DV K ct ι' M.length H' d v->W (ct c) dx σ' H'
 | .bad=>False
def tS(K:Frag)(ct:Nat->Addr)(W:bA)(m:MS):TS:=λT σ H=>∃ι e M,Ws K ct ι e M σ H/\v_ K ct W ι M.length H (m e M) T
def SS(X:Cx)(ct:Nat->Addr)(W:bA)(st:Stmt)(m:MS):Prop:=PS X st (tS X.K ct W m)
def ZF(X:Cx)(ct:Nat->Addr)(W:bA)(st:List Stmt)(m:MS):Prop:=IV X st (tS X.K ct W m)
theorem v_.ext{K:Frag}{ct ι ι':Nat->Addr}{W:bA}{n n':Nat}{H H':Hp}{o:g_}{T:Ends}(h:v_ K ct W ι n H o T)(x:Ext K ι n H ι' n' H'):v_ K ct W ι' n' H' o T:=by
 cases o with
 | next e M=>exact λgP b H2 x2 w=>h gP b H2 (x.trans x2) w
 | ret d M=>exact λgP b H2 x2 r q=>h gP b H2 (x.trans x2) r q
 | brk e M=>exact λgP b H2 x2 w=>h gP b H2 (x.trans x2) w
 | cont e M=>exact λgP b H2 x2 w=>h gP b H2 (x.trans x2) w
 | exc c d e M=>exact λgP b dx v H2 x2 w q1 q2=>h gP b dx v H2 (x.trans x2) w q1 q2
 | bad=>exact h
def uG{α:Type}(e:Sl)(o:Out α)(f:α->Mem->g_):g_:=match o with
 | .ok a M=>f a M
 | .exc c d M=> .exc c d e M
 | .bad=> .bad
@[simp] theorem Pz{α:Type}(e:Sl)(a:α)(M:Mem)(f:α->Mem->g_):uG e (.ok a M) f=f a M:=id rfl
@[simp] theorem Jf{α:Type}(e:Sl)(c:Nat)(d:D)(M:Mem)(f:α->Mem->g_):uG e (.exc c d M:Out α) f= .exc c d e M:=id rfl
@[simp] theorem Jg{α:Type}(e:Sl)(f:α->Mem->g_):uG e (.bad:Out α) f= .bad:=id rfl
theorem uc{α β:Type}{rel:(Nat->Addr)->Mem->Hp->α->β->Prop}{K:Frag}{ct:Nat->Addr}{W:bA}{m:Sl->Mem->Out α}{f:α->Sl->Mem->g_}{σ:St}{H:Hp}{T:Ends}
  (h:tS K ct W (λe M=>uG e (m e M) λa M1=>f a e M1) T σ H):tG rel K ct W m σ H (λb H1=>∃ι e M a,Ws K ct ι e M σ H1/\rel ι M H1 a b/\v_ K ct W ι M.length H1 (f a e M) T):=by
 obtain⟨ι,e,M,w,p⟩:=h
 refine⟨ι,e,M,w,?_⟩
 cases z:m e M with
 | bad=>simp only[z,Jg]at p;exact p
 | exc xc xd xM=>simp only[z,Jf]at p;exact λcg dx v H1 x r q1 q2=>p cg σ dx v H1 x (w.ext x r) q1 q2
 | ok a M1=>
  simp only[z,Pz]at p
  exact λcg b H1 x r q=>⟨cg,e,M1,a,w.ext x r,q,p.ext x⟩
section
variable{X:Cx}{ct:Nat->Addr}{W:bA}{st:Stmt}{rest:List Stmt}{s t:MS}{a:Expr}{ma:ME}{pos:Pos}
theorem PS.imp{st:Stmt}{t t':TS}(h:PS X st t)(hi:∀T σ H,t' T σ H->t T σ H):PS X st t':=λpins s σ H T I q=>h pins s σ H T I (hi T σ H q)
theorem IV.imp{st:List Stmt}{t t':TS}(h:IV X st t)(hi:∀T σ H,t' T σ H->t T σ H):IV X st t':=λpins s σ H T I q=>h pins s σ H T I (hi T σ H q)
def bH:MS:=λe M=> .next e M
noncomputable def aQ(s t:MS):MS:=λe M=>match s e M with
 | .next e' M'=>t e' M'
 | o=>o
theorem aaf(h:tS X.K ct W bH T σ H):ae9 T σ H:=let⟨ι,_,_,w,p⟩:=h;p ι σ H .refl w
theorem bu:ZF X ct W [] bH:=IV.imp adF λT σ H q=>aaf q
theorem aB(h1:SS X ct W st s)(h2:ZF X ct W rest t):ZF X ct W (st::rest) (aQ s t):=IV.imp (aaV h1 h2) λT σ H ⟨ι,e,M,w,p⟩=>by
 refine⟨ι,e,M,w,?_⟩
 unfold aQ at p
 cases z:s e M with
 | next e' M'=>rw[z]at p;exact λι' σ' H' x w'=>⟨ι',e',M',w',p.ext x⟩
 | ret d M'=>rw[z]at p;exact p
 | brk d M'=>rw[z]at p;exact p
 | cont d M'=>rw[z]at p;exact p
 | exc c d e M'=>rw[z]at p;exact p
 | bad=>rw[z]at p;exact p
theorem aD(h1:SS X ct W st s):ZF X ct W [st] s:=WD h1
def O9:MS:=λ_ _=> .bad
theorem pN:SS X ct W st O9:=λ_ _ _ _ _ _ ⟨_,_,_,_,p⟩=>p.elim
noncomputable def gU(m:ME):MS:=λe M=>uG e (m e M) λ_ M1=> .next e M1
theorem di(he:SE X ct W a ma)(hs:swapsWith a none pos.line X.env=pure false:=by rfl):SS X ct W (.Expr a pos) (gU ma):=PS.imp (adK he hs) λT σ H q=>by
 obtain⟨ι,e,M,w,p⟩:=uc (rel:=dm X.K ct) (f:=λ_ e M1=> .next e M1) q
 exact⟨ι,e,M,w,p.mono λv H1 ⟨cg,e1,M1,d,w1,q1,p1⟩=>p1 cg σ H1 .refl w1⟩
noncomputable def bz(m:ME):MS:=λe M=>uG e (m e M) λd M1=> .ret d M1
theorem aK(he:SE X ct W a ma):SS X ct W (.Return (some a) pos) (bz ma):=PS.imp (agr he) λT σ H q=>by
 obtain⟨ι,e,M,w,p⟩:=uc (rel:=dm X.K ct) (f:=λd e M1=> .ret d M1) q
 exact⟨ι,e,M,w,p.mono λv H1 ⟨cg,e1,M1,d,w1,q1,p1⟩=>p1 cg v H1 .refl w1.rl q1⟩
def afh:MS:=λ_ M=> .ret .non M
theorem ac8:SS X ct W (.Return none pos) afh:=PS.imp adI λT σ H ⟨ι,_,_,w,p⟩=>p ι .non H .refl w.rl .non
noncomputable def jM(c:MT)(s t:MS):MS:=λe M=>uG e (c e M) λk M1=>if k=true then s e M1 else t e M1
theorem bC{b b':List Stmt}(hc:Zw X ct W c mc)(ha:ZF X ct W b s)(hb:ZF X ct W b' t):SS X ct W (.If c b b' pos) (jM mc s t):=PS.imp (ajy hc ha hb) λT σ H q=>by
 obtain⟨ι,e,M,w,p⟩:=uc (rel:=Gp) (f:=λk e M1=>if k=true then s e M1 else t e M1) q
 refine⟨ι,e,M,w,p.mono ?_⟩
 rintro k H1 ⟨cg,e1,M1,d,w1,q1,p1⟩
 have KR:d=k:=q1;subst KR
 cases d with
 | true=>exact⟨cg,e1,M1,w1,p1⟩
 | false=>exact⟨cg,e1,M1,w1,p1⟩
abbrev Tg:=D->Sl->Option Sl
abbrev Tgs:=List D->Sl->Option Sl
def afH(K:Frag)(ct ι:Nat->Addr)(M:Mem)(H:Hp)(o:Option Sl)(Q:St->Hp->Prop):Prop:=match o with
 | some e'=>∀σ',Ws K ct ι e' M σ' H->Q σ' H
 | none=>False
def tT(K:Frag)(ct:Nat->Addr)(g:Tg):TG:=λv σ H Q=>∃ι e M d,Ws K ct ι e M σ H/\DV K ct ι M.length H d v/\afH K ct ι M H (g d e) Q
def tTs(K:Frag)(ct:Nat->Addr)(g:Tgs):TGs:=λvs σ H Q=>∃ι e M ds,Ws K ct ι e M σ H/\h_ K ct ι M.length H ds vs/\afH K ct ι M H (g ds e) Q
def SG(X:Cx)(ct:Nat->Addr)(tg:Expr)(g:Tg):Prop:=PG X tg (tT X.K ct g)
def SGs(X:Cx)(ct:Nat->Addr)(tg:List Expr)(g:Tgs):Prop:=Zx X tg (tTs X.K ct g)
theorem PG.imp{tg:Expr}{t t':TG}(h:PG X tg t)(hi:∀v σ H Q,t' v σ H Q->t v σ H Q):PG X tg t':=λpins s σ H v u Q I r q=>h pins s σ H v u Q I r (hi v σ H Q q)
theorem Zx.imp{tg:List Expr}{t t':TGs}(h:Zx X tg t)(hi:∀v σ H Q,t' v σ H Q->t v σ H Q):Zx X tg t':=λpins s σ H v u Q I r q=>h pins s σ H v u Q I r (hi v σ H Q q)
def gN(i:Nat):Tg:=λd e=>some (e.set i (some d))
theorem iu{i:Nat}{x:Str}(hN:X.N.Nodup)(hi:X.N[i]? = some x)(hx:Loc X.env.scope x)(hf:X.fn x=true\/X.env.scope.names.lookup x=some .local:=by first | exact .inl rfl | exact .inr rfl | assumption):SG X ct (.Name x pos) (gN i):=
 PG.imp (Pj hN hi hx hf) λv σ H Q ⟨ι,e,M,d,w,q,p⟩=>p _ (w.set i q)
def vW:Tgs:=λds e=>match ds with
 | []=>some e
 | _=>none
noncomputable def d8(g:Tg)(gs:Tgs):Tgs:=λds e=>match ds with
 | d::r=>(g d e).bind λe'=>gs r e'
 | []=>none
theorem OD:SGs X ct [] vW:=Zx.imp WK λvs σ H Q ⟨ι,e,M,ds,w,q,p⟩=>by
 cases q with
 | nil=>exact⟨rfl,p σ w⟩
 | cons _ _=>exact p.elim
theorem rD{es:List Expr}{g:Tg}{gs:Tgs}(h1:SG X ct a g)(h2:SGs X ct es gs)
  (hs:(assignEach (a::es) X.env).map (·.2)=assign a X.env::(assignEach es X.env).map (·.2):=by rfl):SGs X ct (a::es) (d8 g gs):=Zx.imp (R8 h1 h2 hs) λvs σ H Q ⟨ι,e,M,ds,w,q,p⟩=>by
 cases q with
 | nil=>exact p.elim
 | @cons d x ds xs h hs=>
  refine⟨x,xs,rfl,ι,e,M,d,w,h,?_⟩
  simp only[d8]at p
  cases z:g d e with
  | none=>rw[z]at p;exact p.elim
  | some e'=>rw[z]at p;exact λσ' w'=>⟨ι,e',M,ds,w',hs,p⟩
noncomputable def gT(n:Nat)(gs:Tgs):Tg:=λd e=>match d with
 | .tup ds=>if ds.length=n then gs ds e else none
 | _=>none
theorem UT{es:List Expr}{k:Nat}{n:Nat}(hc:X.calm=true)(h:SGs X ct es gs)
  (hn:(assignEach es X.env).length=n:=by rfl) (hst:(assignEach es X.env).findIdx? (·.1)=none:=by rfl):SG X ct (.Tuple es k pos) (gT n gs):=PG.imp (aa3 hc h hn hst) λv σ H Q ⟨ι,e,M,d,w,q,p⟩=>by
 cases q with
 | @tup a xs ds hs hd=>
  simp only[gT]at p
  split at p
  ·rename_i hl
   exact⟨a,xs,rfl,kO.of hs,by rw[hd.length];exact hl,ι,e,M,ds,w,hd,p⟩
  ·exact p.elim
 | _=>exact p.elim
noncomputable def bV(m:ME)(g:Tg):MS:=λe M=>uG e (m e M) λd M1=>match g d e with
 | some e'=> .next e' M1
 | none=> .bad
theorem Ou(he:∀Q,tG (dm X.K ct) X.K ct W m σ H Q->te σ H Q)(hg:∀v H Q,tT X.K ct g v σ H Q->tg v σ H Q)(h:tS X.K ct W (bV m g) T σ H):ac7 te tg T σ H:=by
 refine he _ ?_
 obtain⟨ι,e,M,w,p⟩:=uc (rel:=dm X.K ct) (f:=λd e M1=>match g d e with
  | some e'=> .next e' M1
  | none=> .bad) h
 refine⟨ι,e,M,w,p.mono ?_⟩
 rintro v H1 ⟨cg,e1,M1,d,w1,q1,p1⟩
 refine hg _ _ _ ⟨cg,e1,M1,d,w1,q1,?_⟩
 cases z:g d e1 with
 | none=>rw[z]at p1;exact p1
 | some e'=>rw[z]at p1;exact λσ' w'=>p1 cg σ' H1 .refl w'
theorem af2(he:SE X ct W a ma)(hg:SG X ct tg g)(hs:swapsWithSole [tg] a pos.line X.env=pure false:=by rfl)(hw:swappedStores [tg] a X.env=pure none:=by rfl)
  (h1:(assignEach [tg] X.env).map (·.2)=[assign tg X.env]:=by rfl):SS X ct W (.Assign [tg] a pos) (bV ma g):=PS.imp (agu he hg hs hw h1) λT σ H q=>Ou (λ_ q=>q) (λ_ _ _ q=>q) q
theorem bf(hN:X.N.Nodup)(hi:X.N[i]? = some x)(hx:Loc X.env.scope x)(he:SE X ct W a ma)(hs:swapsWith a (some (.Name x pos')) pos.line X.env=pure false:=by rfl)(hf:X.fn x=true\/X.env.scope.names.lookup x=some .local:=by first | exact .inl rfl | exact .inr rfl | assumption):
  SS X ct W (.Assign [.Name x pos'] a pos) (bV ma (gN i)):=PS.imp (agq hN hi hx he hs hf) λT σ H q=>Ou (λ_ q=>q) (λv H Q ⟨ι,e,M,d,w,q,p⟩=>p _ (w.set i q)) q
noncomputable def mH(cs:List Nat)(f:Str)(d:D)(o:D)(M:Mem):Option Mem:=match o with
 | .ref n=>match M[n]? with
  | some (.ins c fs)=>if c∈cs/\fs.length<1000 then some (M.set n (.ins c (putD f d fs)))else none
  | _=>none
 | _=>none
noncomputable def dJ(cs:List Nat)(mo mv:ME)(f:Str):MS:=λe M=>uG e (mv e M) λd M1=>uG e (mo e M1) λo M2=>match mH cs f d o M2 with
 | some M3=> .next e M3
 | none=> .bad
theorem Od.put{K:Frag}{ι:Nat->Addr}{n:Nat}{H:Hp}{f:Str}{d:D}{v:V}(h:DV K ct ι n H d v):∀{fs:List (Str×D)} {vs:List (Str×V)},Od K ct ι n H fs vs->Od K ct ι n H (putD f d fs) (uD f v vs)
 | _,_,.nil=> .cons h .nil
 | _,_,.cons (x:=x) h' hs=>by
  unfold putD uD
  by_cases e:x=f
  ·rw[if_pos e,if_pos e];exact .cons h hs
  ·rw[if_neg e,if_neg e];exact .cons h' (hs.put h)
theorem cG{cs:List Nat}{f:Str}(hc:vg X.K ct f cs)(ho:SE X ct W o mo)(hv:SE X ct W a ma)(hs:swapsWith a (some (.Attribute o f pos')) pos.line X.env=pure false:=by rfl):
  SS X ct W (.Assign [.Attribute o f pos'] a pos) (dJ cs mo ma f):=PS.imp (agt ho hv hs) λT σ H q=>by
 obtain⟨ι,e,M,w,p⟩:=uc (rel:=dm X.K ct) (f:=λd e M1=>uG e (mo e M1) λo M2=>match mH cs f d o M2 with
  | some M3=> .next e M3
  | none=> .bad) q
 refine⟨ι,e,M,w,p.mono ?_⟩
 rintro y H1 ⟨cg,e1,M1,d,w1,q1,p1⟩
 refine⟨cg,e1,M1,w1,?_⟩
 cases z:mo e1 M1 with
 | bad=>simp only[z,Jg]at p1;exact p1
 | exc xc xd xM=>simp only[z,Jf]at p1;exact λgP dx v H2 x r q1 q2=>p1 gP σ dx v H2 x (w1.ext x r) q1 q2
 | ok o' M2=>
  simp only[z,Pz]at p1
  intro gP x H2 x2 r2 q2
  have p2:=p1.ext x2
  have w2:=w1.ext x2 r2
  have qd:=q1.mono x2
  cases q2 with
  | @ref n hn=>
   simp only[mH]at p2
   cases z0:M2[n]? with
   | none=>rw[z0]at p2;exact p2.elim
   | some ob=>
    cases ob with
    | lst _=>rw[z0]at p2;exact p2.elim
    | dk _=>rw[z0]at p2;exact p2.elim
    | dt _=>rw[z0]at p2;exact p2.elim
    | fd _=>rw[z0]at p2;exact p2.elim
    | ins c fs=>
     simp only[z0]at p2
     by_cases hcs:c∈cs/\fs.length<1000
     ·rw[if_pos hcs]at p2
      obtain⟨dx,vs,hH,fv⟩:=r2.obj n _ z0
      have x3:Ext X.K gP M2.length H2 gP M2.length (upd H2 (gP n) (.ins (ct c) dx (uD f y vs))):=Ext.chg hH (λ_ z=>nomatch z) (λ_ _ z=>nomatch z)
      refine⟨_,_,dx,vs,rfl,hH,(hc.get hcs.1).1,(hc.get hcs.1).2,by rw[fv.length];exact hcs.2,?_⟩
      have r3:=r2.chg (o:= .ins (ct c) dx (uD f y vs)) (x:= .ins c (putD f d fs)) hn hH (λ_ z=>nomatch z) (λ_ _ z=>nomatch z) ⟨dx,_,bB,(fv.put qd).mono x3⟩
      have x3':Ext X.K gP M2.length H2 gP (M2.set n (.ins c (putD f d fs))).length (upd H2 (gP n) (.ins (ct c) dx (uD f y vs))):=by rw[List.length_set];exact x3
      exact p2 gP σ _ x3' (w2.ext x3' r3)
     ·rw[if_neg hcs]at p2
      exact p2.elim
  | _=>exact p2.elim
structure Itm where
 src:Option (Nat×List D)
 ds:List D
def ir(s:Option (Nat×List D))(M:Mem):Prop:=match s with
 | none=>True
 | some (n,ds)=>n_ M n=some ds
noncomputable instance{s:Option (Nat×List D)}{M:Mem}:Decidable (ir s M):=Classical.propDecidable _
def adw(K:Frag)(ct:Nat->Addr):(Nat->Addr)->Mem->Hp->Itm->It->Prop:=λι M H it J=>ir it.src M/\it.ds.length<=sizeLine/\∀ι' M' H',Ext K ι M.length H ι' M'.length H'->Rl K ct ι' M' H'->ir it.src M'->
 ∀i,(∀d,it.ds[i]? = some d->J.go i H'/\∀x H2,J.X6 i H' x H2->Ext K ι' M'.length H' ι' M'.length H2/\Rl K ct ι' M' H2/\DV K ct ι' M'.length H2 d x)/\(it.ds.length<=i->J.stop i H')
abbrev MI:=Sl->Mem->Out Itm
def SI(X:Cx)(ct:Nat->Addr)(W:bA)(tg e:Expr)(m:MI):Prop:=PI X tg e (tG (adw X.K ct) X.K ct W m)
theorem PI.imp{tg e:Expr}{t t':TI}(h:PI X tg e t)(hi:∀σ H R,t' σ H R->t σ H R):PI X tg e t':=λpins s σ H R I q=>h pins s σ H R I (hi σ H R q)
noncomputable def fZ(src:Option (Nat×List D))(g:Tg)(b:MS):List D->Sl->Mem->g_
 | [],e,M=>if ir src M then .next e M else .bad
 | d::ds,e,M=>if ir src M then(match g d e with
   | none=> .bad
   | some e1=>match b e1 M with
    | .next e2 M2=>fZ src g b ds e2 M2
    | .cont e2 M2=>fZ src g b ds e2 M2
    | .brk e2 M2=> .next e2 M2
    | .ret d M2=> .ret d M2
    | .exc c d e2 M2=> .exc c d e2 M2
    | .bad=> .bad)else .bad
noncomputable def Ih(mi:MI)(g:Tg)(b:MS):MS:=λe M=>uG e (mi e M) λit M1=>fZ it.src g b it.ds e M1
theorem uC{body:List Stmt}(hp:X.Ok->PassesOwn (model X.prog X.w) X.A X.env X.xe)(hc:X.calm=true)(hi:SI X ct W tg iter mi)(hg:SG X ct tg g)(hb:ZF X ct W body b)
  (hs:∀x,foldedSetIterable iter X.env x=pure x:=by intro _;rfl):SS X ct W (.For tg iter body [] pos) (Ih mi g b):=PS.imp (λpins s σ H D I h=>adJ (hp I.ok) hc hi hg hb hs pins s σ H D I h) λT σ H q=>by
 obtain⟨ι,e,M,w,p⟩:=uc (rel:=adw X.K ct) (f:=λit e M1=>fZ it.src g b it.ds e M1) q
 refine⟨ι,e,M,w,p.mono ?_⟩
 rintro J H1 ⟨cg,e1,M1,it,w1,q1,p1⟩
 obtain⟨ok1,_,step⟩:=q1
 refine⟨λi m σ' H'=>m=it.ds.length - i/\i<=it.ds.length/\∃ι' e' M',Ext X.K cg M1.length H1 ι' M'.length H'/\Ws X.K ct ι' e' M' σ' H'/\v_ X.K ct W ι' M'.length H' (fZ it.src g b (it.ds.drop i) e' M') T,
  ⟨it.ds.length,by simp,Nat.zero_le _,cg,e1,M1,.refl,w1,by simpa using p1⟩,?_⟩
 rintro i m σ' H' ⟨rfl,hi,ι',e',M',x',w',p'⟩
 by_cases hlt:i<it.ds.length
 ·rw[List.drop_eq_getElem_cons hlt]at p'
  unfold fZ at p'
  by_cases ok':ir it.src M'
  ·rw[if_pos ok']at p'
   obtain⟨go,yl⟩:=(step ι' M' H' x' w'.rl ok' i).1 _ (zac hlt)
   refine .inr ⟨go,λσ2 H2=>∃gP e2 M2,Ext X.K cg M1.length H1 gP M2.length H2/\Ws X.K ct gP e2 M2 σ2 H2/\v_ X.K ct W gP M2.length H2 (fZ it.src g b (it.ds.drop (i+1)) e2 M2) T,?_,?_⟩
   ·rintro σ2 H2 ⟨gP,e2,M2,x2,w2,p2⟩
    exact⟨it.ds.length - (i+1),(),rfl,hlt,gP,e2,M2,x2,w2,p2⟩
   ·intro x H2 y
    obtain⟨x2,r2,dv⟩:=yl x H2 y
    have w2:=w'.ext x2 r2
    have p2:=p'.ext x2
    refine⟨ι',e',M',_,w2,dv,?_⟩
    cases z:g it.ds[i] e' with
    | none=>rw[z]at p2;exact p2
    | some e2=>
     rw[z]at p2
     intro σ3 w3
     refine⟨ι',e2,M',w3,?_⟩
     cases z3:b e2 M' with
     | next e4 M4=>simp only[z3]at p2;exact λι5 σ5 H5 x5 w5=>⟨ι5,e4,M4,(x'.trans x2).trans x5,w5,p2.ext x5⟩
     | cont e4 M4=>simp only[z3]at p2;exact λι5 σ5 H5 x5 w5=>⟨ι5,e4,M4,(x'.trans x2).trans x5,w5,p2.ext x5⟩
     | brk e4 M4=>simp only[z3]at p2;exact p2
     | ret d M4=>simp only[z3]at p2;exact p2
     | exc xc xd xe xM=>simp only[z3]at p2;exact p2
     | bad=>simp only[z3]at p2;exact p2
  ·rw[if_neg ok']at p'
   exact p'.elim
 ·have e0:i=it.ds.length:=()
  subst e0
  rw[List.drop_length]at p'
  unfold fZ at p'
  by_cases ok':ir it.src M'
  ·rw[if_pos ok']at p'
   exact .inl ⟨(step ι' M' H' x' w'.rl ok' _).2 (zab _),p' ι' σ' H' .refl w'⟩
  ·rw[if_neg ok']at p'
   exact p'.elim
noncomputable def Y5(d:D)(M1:Mem):Out Itm:=match d with
 | .ref n=>match n_ M1 n with
  | some ds=> .ok ⟨some (n,ds),ds⟩ M1
  | none=> .bad
 | .cl ds=> .ok ⟨none,ds⟩ M1
 | .tup ds=> .ok ⟨none,ds⟩ M1
 | _=> .bad
def Fj(m:ME):MI:=λe M=>(m e M).bind Y5
theorem agv(hl:PE X l tl):PI X tg l (λσ H R=>tl σ H λx H1=>∃a,x= .ref a/\(((∃xs,pB X.K H1 a xs)/\((∀xs,pB X.K H1 a xs->xs.length<=sizeLine)->R (Itl X.K a) H1))\/((∃xs,kO X.K H1 a xs)/\((∀xs,kO X.K H1 a xs->xs.length<=sizeLine)->R (Itt X.K a) H1)))):=by
 intro pins s σ H R I h
 refine fP (hl pins s σ H _ I h) ?_
 rintro v s1 ⟨x,H1,I1,r1,q1⟩
 obtain⟨a,e,q⟩:=q1
 subst e
 cases r1
 rcases q with⟨⟨xs,hq⟩,q⟩ | ⟨⟨xs,hq⟩,q⟩
 ·obtain⟨its,rv,p,hz⟩:=I1.list hq
  have q:=q λys hy=>by obtain⟨_,_,_,hz⟩:=I1.list hy;exact hz
  refine wpAny_pyIter_list p.isList ?_
  refine⟨s1.heap.objs.size,[s1.heap.objs.size],_,_,H1,rfl,I1.kept (t':=s1.toks) λb o e=>zD _ e,X_ a _,⟨_,yB _ rfl,rfl,rfl⟩,λb hb=> ?_,q⟩
  have e:b=s1.heap.objs.size:=by simpa using hb
  subst e
  exact I1.Vv (zab _) (I1.hok.fresh (zab _))
 ·obtain⟨its,rv,p,hz⟩:=I1.tuple hq
  have q:=q λys hy=>by obtain⟨_,_,_,hz⟩:=I1.tuple hy;exact hz
  refine wpAny_pyIter_tuple (show s1.heap.IsTuple a its.toArray from p) ?_
  refine⟨s1.heap.objs.size,[s1.heap.objs.size],_,_,H1,rfl,I1.kept (t':=s1.toks) λb o e=>zD _ e,Uw a _,⟨_,yB _ rfl,rfl,rfl⟩,λb hb=> ?_,q⟩
  have e:b=s1.heap.objs.size:=by simpa using hb
  subst e
  exact I1.Vv (zab _) (I1.hok.fresh (zab _))
theorem Tn{K:Frag}{ι:Nat->Addr}{M:Mem}{H:Hp}{a:Addr}{xs:List V}{ds:List D}(R:Rl K ct ι M H)(hq:pB K H a xs)(hd:h_ K ct ι M.length H ds xs)(i:Nat):
  (∀d,ds[i]? = some d->(Itl K a).go i H/\∀x H2,(Itl K a).X6 i H x H2->Ext K ι M.length H ι M.length H2/\Rl K ct ι M H2/\DV K ct ι M.length H2 d x)/\(ds.length<=i->(Itl K a).stop i H):=by
 refine⟨λd e=> ?_,λh=>⟨xs,hq,by rw[hd.length];exact h⟩⟩
 obtain⟨v,hv,dv⟩:=hd.at e
 refine⟨⟨xs,v,hq,hv⟩,λx H2 y=> ?_⟩
 obtain⟨e2,y⟩:=y
 subst e2
 have z:=y xs hq
 rw[hv]at z
 cases z
 exact⟨.refl,R,dv⟩
theorem abK{K:Frag}{ι:Nat->Addr}{M:Mem}{H:Hp}{a:Addr}{xs:List V}{ds:List D}(R:Rl K ct ι M H)(hq:kO K H a xs)(hd:h_ K ct ι M.length H ds xs)(i:Nat):
  (∀d,ds[i]? = some d->(Itt K a).go i H/\∀x H2,(Itt K a).X6 i H x H2->Ext K ι M.length H ι M.length H2/\Rl K ct ι M H2/\DV K ct ι M.length H2 d x)/\(ds.length<=i->(Itt K a).stop i H):=by
 refine⟨λd e=> ?_,λh=>⟨xs,hq,by rw[hd.length];exact h⟩⟩
 obtain⟨v,hv,dv⟩:=hd.at e
 refine⟨⟨xs,v,hq,hv⟩,λx H2 y=> ?_⟩
 obtain⟨e2,y⟩:=y
 subst e2
 have z:=y xs hq
 rw[hv]at z
 cases z
 exact⟨.refl,R,dv⟩
theorem CN{tg:Expr}(hl:SE X ct W a ma):SI X ct W tg a (Fj ma):=PI.imp (agv hl) λσ H R q=>by
 obtain⟨ι,e,M,w,p⟩:=bN (dM:=dm X.K ct) (f:=λd _ M1=>Y5 d M1) q
 refine⟨ι,e,M,w,p.mono ?_⟩
 rintro v H1 ⟨cg,e1,M1,d,w1,q1,p1⟩
 cases q1 with
 | @ref n hn=>
  dsimp only[Y5]at p1
  cases z:n_ M1 n with
  | none=>rw[z]at p1;exact p1.elim
  | some ds=>
   rw[z]at p1
   obtain⟨xs,hH,hd⟩:=w1.rl.obj n _ (iU.mp z)
   refine⟨_,rfl,.inl ⟨⟨xs,pB.of hH⟩,λhz=>p1 cg _ H1 .refl w1.rl ⟨z,by rw[<-hd.length];exact hz xs (pB.of hH),λgP M2 H2 x2 r2 ok2 i=> ?_⟩⟩⟩
   obtain⟨xs2,hH2,hd2⟩:=r2.obj n _ (iU.mp ok2)
   rw[<-x2.same n hn]
   exact Tn r2 (pB.of hH2) hd2 i
 | cl h1 h2=>exact⟨_,rfl,.inl ⟨⟨_,h1.sq⟩,λhz=>p1 cg _ H1 .refl w1.rl ⟨trivial,by rw[<-h2.length];exact hz _ h1.sq,λgP M2 H2 x2 r2 ok2 i=>Tn r2 (x2.lU _ _ h1).sq (h2.mono x2) i⟩⟩⟩
 | tup h1 h2=>exact⟨_,rfl,.inr ⟨⟨_,kO.of h1⟩,λhz=>p1 cg _ H1 .refl w1.rl ⟨trivial,by rw[<-h2.length];exact hz _ (kO.of h1),λgP M2 H2 x2 r2 ok2 i=>abK r2 (kO.of (x2.tup _ _ h1)) (h2.mono x2) i⟩⟩⟩
 | _=>exact p1.elim
def DN(lo:Int)(n:Nat):List D:=(List.range n).map λ(k:Nat)=>D.int (lo+k)
noncomputable def Mf(ds:List D)(M1:Mem):Out Itm:=match ds with
 | [.int j]=>if -(2 ^ 62)<=j/\j<2 ^ 24 then .ok ⟨none,DN 0 j.toNat⟩ M1 else .bad
 | _=> .bad
def Ko(ms:MA):MI:=λe M=>(ms e M).bind Mf
theorem abL{K:Frag}{ι:Nat->Addr}{M:Mem}{H:Hp}(R:Rl K ct ι M H)(lo:Int)(n i:Nat):
  (∀d,(DN lo n)[i]? = some d->(Itr lo n).go i H/\∀x H2,(Itr lo n).X6 i H x H2->Ext K ι M.length H ι M.length H2/\Rl K ct ι M H2/\DV K ct ι M.length H2 d x)/\((DN lo n).length<=i->(Itr lo n).stop i H):=by
 refine⟨λd e=> ?_,λh=>(by simpa[DN]using h:n<=i)⟩
 unfold DN at e
 rw[zan]at e
 obtain⟨k,hk,rfl⟩:=Option.map_eq_some_iff.mp e
 obtain⟨hi,e2⟩:=List.getElem?_eq_some_iff.mp hk
 have hi':i<n:=by simpa using hi
 have ek:k=i:=by rw[<-e2];simp
 subst ek
 refine⟨hi',λx H2 y=> ?_⟩
 obtain⟨e3,y⟩:=y
 subst e3 y
 exact⟨.refl,R,.int _⟩
theorem aha:(2 ^ 24:Nat)<=sizeLine:=by rw[sizeLine_eq];decide
theorem vA(hg:Gl X "range")(hm:X.mg "range" = none)(ha:SA X ct W [a] ms)(hs:starEach [a] X.env=[(false,eval a X.env)]:=by rfl):SI X ct W tg (.Call (.Name "range" p) [a] [] pos) (Ko ms):=PI.imp (Yr hg hm ha hs) λσ H R q=>by
 obtain⟨ι,e,M,w,p⟩:=bN (dM:=Ij X.K ct) (f:=λds _ M1=>Mf ds M1) q
 refine⟨ι,e,M,w,p.mono ?_⟩
 rintro v H1 ⟨cg,e1,M1,d,w1,q1,p1⟩
 dsimp only[Mf]at p1
 split at p1
 ·rename_i j
  obtain⟨v,rfl,q2⟩:=K6 q1
  cases oY q2
  split at p1
  ·rename_i hj
   have hz:=aha
   exact⟨j,rfl,hj.1,(),p1 cg _ H1 .refl w1.rl ⟨trivial,by simp[DN];omega,λgP M2 H2 x2 r2 ok2 i=>abL r2 0 _ i⟩⟩
  ·exact p1.elim
 ·exact p1.elim
noncomputable def Ol(c:MT)(b:MS):Nat->Sl->Mem->g_
 | 0,_,_=> .bad
 | n+1,e,M=>match c e M with
  | .bad=> .bad
  | .exc c d M1=> .exc c d e M1
  | .ok false M1=> .next e M1
  | .ok true M1=>match b e M1 with
   | .next e2 M2=>Ol c b n e2 M2
   | .cont e2 M2=>Ol c b n e2 M2
   | .brk e2 M2=> .next e2 M2
   | .ret d M2=> .ret d M2
   | .exc c d e2 M2=> .exc c d e2 M2
   | .bad=> .bad
theorem Ju:∀(n:Nat) (e:Sl) (M:Mem),Ol c b n e M≠ .bad->Ol c b (n+1) e M=Ol c b n e M
 | 0,_,_,h=>absurd rfl h
 | n+1,e,M,h=>by
  unfold Ol at h ⊢
  cases z:c e M with
  | bad=>rfl
  | exc _ _ _=>rfl
  | ok k M1=>
   cases k with
   | false=>rfl
   | true=>
    simp only[z]at h ⊢
    cases z2:b e M1 with
    | next e2 M2=>simp only[z2]at h ⊢;exact Ju n e2 M2 h
    | cont e2 M2=>simp only[z2]at h ⊢;exact Ju n e2 M2 h
    | brk e2 M2=>rfl
    | ret d M2=>rfl
    | exc _ _ _ _=>rfl
    | bad=>rfl
theorem Ut(h:Ol c b n e M≠ .bad):∀k,Ol c b (n+k) e M=Ol c b n e M
 | 0=>rfl
 | k+1=>by
  have ih:=Ut h k
  rw[<-Nat.add_assoc,Ju _ _ _ (by rw[ih];exact h)]
  exact ih
open Classical in
def JW(c:MT)(b:MS):MS:=λe M=>if h:∃n,Ol c b n e M≠ .bad then Ol c b (Classical.choose h) e M else .bad
theorem Yg(h:Ol c b n e M=o)(ho:o≠ .bad):JW c b e M=o:=by
 have ex:∃n,Ol c b n e M≠ .bad:=⟨n,by rw[h];exact ho⟩
 unfold JW
 rw[dif_pos ex]
 have h1:=Classical.choose_spec ex
 rcases Nat.le_total n (Classical.choose ex)with l | l
 ·obtain⟨k,hk⟩:=Nat.exists_eq_add_of_le l
  rw[hk,Ut (by rw[h];exact ho) k,h]
 ·obtain⟨k,hk⟩:=Nat.exists_eq_add_of_le l
  rw[<-h,hk,Ut h1 k]
theorem aal(hp:X.Ok->PassesOwn (model X.prog X.w) X.A X.env X.xe)(hc:Zw X ct W c mc)(hb:ZF X ct W body b):SS X ct W (.While c body [] pos) (JW mc b):=PS.imp (λpins s σ H D I h=>aaW (hp I.ok) hc hb pins s σ H D I h) λT σ H ⟨ι,e,M,w,p⟩=>by
 unfold JW at p
 split at p
 ·rename_i ex
  refine⟨λm σ' H'=>∃ι' e' M',Ws X.K ct ι' e' M' σ' H'/\v_ X.K ct W ι' M'.length H' (Ol mc b m e' M') T,⟨_,ι,e,M,w,p⟩,?_⟩
  rintro m σ' H' ⟨ι',e',M',w',p'⟩
  cases m with
  | zero=>exact p'.elim
  | succ m=>
   refine⟨ι',e',M',w',?_⟩
   unfold Ol at p'
   cases z:mc e' M' with
   | bad=>rw[z]at p';exact p'
   | exc xc xd xM=>rw[z]at p';exact λgP dx v H2 x r q1 q2=>p' gP σ' dx v H2 x (w'.ext x r) q1 q2
   | ok k M1=>
    intro gP k2 H2 x2 r2 ek
    have KR:k=k2:=ek;subst KR
    have w2:=w'.ext x2 r2
    cases k with
    | false=>rw[z]at p';exact p' gP σ' H2 x2 w2
    | true=>
     simp only[z]at p'
     have p2:=p'.ext x2
     show ∃N:St->Hp->Prop,_
     refine⟨λσ3 H3=>∃DP e3 M3,Ws X.K ct DP e3 M3 σ3 H3/\v_ X.K ct W DP M3.length H3 (Ol mc b m e3 M3) T,λσ3 H3 q3=>⟨m,Nat.lt_succ_self _,q3⟩,gP,e',M1,w2,?_⟩
     cases z3:b e' M1 with
     | next e4 M4=>simp only[z3]at p2;exact λι5 σ5 H5 x5 w5=>⟨ι5,e4,M4,w5,p2.ext x5⟩
     | cont e4 M4=>simp only[z3]at p2;exact λι5 σ5 H5 x5 w5=>⟨ι5,e4,M4,w5,p2.ext x5⟩
     | brk e4 M4=>simp only[z3]at p2;exact p2
     | ret d M4=>simp only[z3]at p2;exact p2
     | exc xc xd xe xM=>simp only[z3]at p2;exact p2
     | bad=>simp only[z3]at p2;exact p2
 ·exact p.elim
def ql(js:List Nat)(e:Sl):Sl:=js.map λi=>(e[i]?).join
def Out.WT{α:Type}(o:Out α):Out α:=match o with
 | .ok a M=> .ok a M
 | _=> .bad
@[simp] theorem w6{α:Type}(a:α)(M:Mem):(Out.ok a M).WT= .ok a M:=id rfl
@[simp] theorem Ji{α:Type}:(Out.bad:Out α).WT= .bad:=id rfl
@[simp] theorem Jh{α:Type}(c:Nat)(d:D)(M:Mem):(Out.exc c d M:Out α).WT= .bad:=id rfl
def sZ(src:Option (Nat×List D))(tt:MT)(te:ME)(ce:Sl):List D->List D->Mem->Out D
 | [],ys,M=>if ir src M then .ok (.ref M.length) (M++[.lst ys])else .bad
 | d::ds,ys,M=>if ir src M then(tt (some d::ce) M).WT.bind λk M1=>if k=true then(te (some d::ce) M1).WT.bind λy M2=>sZ src tt te ce ds (ys++[y]) M2 else sZ src tt te ce ds ys M1 else .bad
def Hi(js:List Nat)(mi:MI)(tt:MT)(te:ME):ME:=λe M=>(mi e M).bind λit M1=>sZ it.src tt te (ql js e) it.ds [] M1
def STs(X:Cx)(ct:Nat->Addr)(W:bA)(ifs:List Expr)(m:MT):Prop:=PTs X ifs (tG Gp X.K ct W m)
def Kr:MT:=λ_ M=> .ok true M
theorem Ov:STs X ct W [] Kr:=λpins s σ H Q I ⟨ι,e,M,w,p⟩=>adD pins s σ H Q I (p ι true H .refl w.rl rfl)
theorem Wb(h:Zw X ct W c m):STs X ct W [c] m:=adC h
theorem Ws.caps{K:Frag}{ι:Nat->Addr}{e:Sl}{M:Mem}{σ:St}{H:Hp}{d:D}{v:V}(w:Ws K ct ι e M σ H)(js:List Nat)(h:DV K ct ι M.length H d v):Ws K ct ι (some d::ql js e) M (some v::L2.caps js σ) H:=by
 refine⟨w.rl,by simp[ql,L2.caps],λi x hx=> ?_⟩
 cases i with
 | zero=>simp at hx;subst hx;exact⟨v,rfl,h⟩
 | succ i=>
  simp only[List.getElem?_cons_succ,ql,zan]at hx
  obtain⟨j,hj,ej⟩:=Option.map_eq_some_iff.mp hx
  cases z:e[j]? with
  | none=>rw[z]at ej;cases ej
  | some o=>
   rw[z]at ej
   cases(show o=some x from ej)
   obtain⟨u,hu,du⟩:=w.env j x z
   refine⟨u,?_,du⟩
   simp only[List.getElem?_cons_succ,L2.caps,zan,hj,Option.map_some,hu]
   rfl
theorem Rw(h:tG (dm X.K ct) X.K ct W (Hi js mi tt te) σ H Q):aag js (tG (adw X.K ct) X.K ct W mi) (tG Gp X.K ct W0 tt) (tG (dm X.K ct) X.K ct W0 te) σ H Q:=by
 obtain⟨ι,e,M,w,p⟩:=bN (dM:=adw X.K ct) (f:=λit e M1=>sZ it.src tt te (ql js e) it.ds [] M1) h
 refine⟨ι,e,M,w,p.mono ?_⟩
 rintro J H1 ⟨cg,e1,M1,it,w1,q1,p1⟩
 obtain⟨ok1,hz,step⟩:=q1
 refine⟨λi m ys H'=>m=it.ds.length - i/\i<=it.ds.length/\ys.length<=i/\∃ι' M' ds',Ext X.K cg M1.length H1 ι' M'.length H'/\Rl X.K ct ι' M' H'/\h_ X.K ct ι' M'.length H' ds' ys/\gq (dm X.K ct) X.K ct (wAt W σ) ι' M'.length H' (sZ it.src tt te (ql js e1) (it.ds.drop i) ds' M') Q,
  ⟨it.ds.length,by simp,Nat.zero_le _,zab _,cg,M1,[],.refl,w1.rl,.nil,by simpa using p1⟩,?_⟩
 rintro i m ys H' ⟨rfl,hi,hy,ι',M',ds',x',r',dy,p'⟩
 by_cases hlt:i<it.ds.length
 ·rw[List.drop_eq_getElem_cons hlt]at p'
  unfold sZ at p'
  by_cases ok':ir it.src M'
  ·rw[if_pos ok']at p'
   obtain⟨go,yl⟩:=(step ι' M' H' x' r' ok' i).1 _ (zac hlt)
   refine .inr ⟨go,λZy H2=>Zy.length<=i+1/\∃gP M2 ds2,Ext X.K cg M1.length H1 gP M2.length H2/\Rl X.K ct gP M2 H2/\h_ X.K ct gP M2.length H2 ds2 Zy/\gq (dm X.K ct) X.K ct (wAt W σ) gP M2.length H2 (sZ it.src tt te (ql js e1) (it.ds.drop (i+1)) ds2 M2) Q,?_,?_⟩
   ·rintro Zy H2 ⟨hl2,q2⟩
    exact⟨(),it.ds.length - (i+1),(),rfl,hlt,hl2,q2⟩
   ·intro x H2 y
    obtain⟨x2,r2,dv⟩:=yl x H2 y
    have w2:Ws X.K ct ι' (some it.ds[i]::ql js e1) M' (some x::L2.caps js σ) H2:=(w1.ext (x'.trans x2) r2).caps js dv
    have p2:=p'.ext x2
    refine⟨ι',_,M',w2,?_⟩
    cases z:tt (some it.ds[i]::ql js e1) M' with
    | bad=>simp only[z,Ji,Out.cW]at p2;exact p2
    | exc xc xd xM=>simp only[z,Jh,Out.cW]at p2;exact p2.elim
    | ok k M3=>
     simp only[z,w6,Out.b_]at p2
     intro DP k3 H3 x3 r3 ek
     have KR:k=k3:=ek;subst KR
     have p3:=p2.ext x3
     have w3:=w2.ext x3 r3
     have dy3:=(dy.mono x2).mono x3
     cases k with
     | false=>exact⟨(),DP,M3,ds',(x'.trans x2).trans x3,r3,dy3,p3⟩
     | true=>
      simp only[if_true]at p3 ⊢
      refine⟨DP,_,M3,w3,?_⟩
      cases z4:te (some it.ds[i]::ql js e1) M3 with
      | bad=>simp only[z4,Ji,Out.cW]at p3;exact p3
      | exc xc xd xM=>simp only[z4,Jh,Out.cW]at p3;exact p3.elim
      | ok yy M4=>
       simp only[z4,w6,Out.b_]at p3
       intro ι4 v4 H4 x4 r4 d4
       exact⟨by rw[List.length_append];simp;omega,ι4,M4,ds'++[yy],((x'.trans x2).trans x3).trans x4,r4,(dy3.mono x4).append (.cons d4 .nil),p3.ext x4⟩
  ·rw[if_neg ok']at p'
   exact p'.elim
 ·have e0:i=it.ds.length:=()
  subst e0
  rw[List.drop_length]at p'
  unfold sZ at p'
  by_cases ok':ir it.src M'
  ·rw[if_pos ok']at p'
   exact .inl ⟨(step ι' M' H' x' r' ok' _).2 (zab _),(),λpp hp=>rR r' dy hp p'⟩
  ·rw[if_neg ok']at p'
   exact p'.elim
variable{elt iter:Expr}{ifs:List Expr}{scope:Scope}{x:Str}{px:Pos}{mi:MI}{tt:MT}{te:ME}
theorem O3(hc:X.calm=true)(cs:List Str)(js:List Nat)(hi:SI X ct W (.Name x px) iter mi)(hcap:tV X scope cs js)(ht:∀cl C fp s H,STs (c7 X scope cl C (x::cs) fp s H) ct W0 ifs tt)(he:∀cl C fp s H,SE (c7 X scope cl C (x::cs) fp s H) ct W0 elt te)
  (hall:∀y∈scope.names,y.2= .free->y.1∈cs) (hcell:∀y∈scope.names,y.2≠ .cell) (hnames:∀y∈scope.names,y.2= .local->scope.names.lookup y.1=some .local) (hnd:(x::cs).Nodup)
  (hkind:scope.kind= .function:=by rfl) (hx:scope.names.lookup x=some .local:=by rfl) (hs:∀v,foldedSetIterable iter X.env v=pure v:=by intro _;rfl):
  SE X ct W (.ListComp elt [⟨.Name x px,iter,ifs,0⟩] scope pos) (Hi js mi tt te):=
 dU (adS (tt:=tG Gp X.K ct W0 tt) (te:=tG (dm X.K ct) X.K ct W0 te) hc cs js hi hcap (λcl C fp s H=>ht cl C fp s H) (λcl C fp s H=>he cl C fp s H) hall hcell hnames hnd hkind hx hs) λσ H Q q=>Rw q
theorem ac9(hc:X.calm=true)(cs:List Str)(js:List Nat)(hN:X.N.Nodup)(hk:X.N[k]? = some y)(hy:X.env.scope.names.lookup y=some .local)(hi:SI X ct W (.Name x px) iter mi)(hcap:tV X scope cs js)
  (ht:∀cl C fp s H,STs (c7 X scope cl C (x::cs) fp s H) ct W0 ifs tt) (he:∀cl C fp s H,SE (c7 X scope cl C (x::cs) fp s H) ct W0 elt te)
  (hall:∀y∈scope.names,y.2= .free->y.1∈cs) (hcell:∀y∈scope.names,y.2≠ .cell) (hnames:∀y∈scope.names,y.2= .local->scope.names.lookup y.1=some .local) (hnd:(x::cs).Nodup)
  (hsw:swapsWith (.ListComp elt [⟨.Name x px,iter,ifs,0⟩] scope pos) (some (.Name y py)) spos.line X.env=pure true:=by rfl)
  (hkind:scope.kind= .function:=by rfl) (hx:scope.names.lookup x=some .local:=by rfl) (hs:∀v,foldedSetIterable iter X.env v=pure v:=by intro _;rfl):
  SS X ct W (.Assign [.Name y py] (.ListComp elt [⟨.Name x px,iter,ifs,0⟩] scope pos) spos) (bV (Hi js mi tt te) (gN k)):=
 PS.imp (adM (tt:=tG Gp X.K ct W0 tt) (te:=tG (dm X.K ct) X.K ct W0 te) hc cs js hN hk hy hi hcap (λcl C fp s H=>ht cl C fp s H) (λcl C fp s H=>he cl C fp s H) hall hcell hnames hnd hsw hkind hx hs) λT σ H q=>Ou (λ_ q=>Rw q) (λv H Q ⟨ι,e,M,d,w,q,p⟩=>p _ (w.set k q)) q
end
def slots(n:Nat)(ds:List D):Sl:=ds.map some++List.replicate (n - ds.length) none
noncomputable def aP(n:Nat)(b:MS):Fn:=λds M=>match b (slots n ds) M with
 | .ret d M'=> .ok d M'
 | .next _ M'=> .ok .non M'
 | .exc c d _ M'=> .exc c d M'
 | _=> .bad
theorem Ws.start{K:Frag}{ct ι:Nat->Addr}{M:Mem}{H:Hp}{ds:List D}{vs:List V}(N:List Str)(R:Rl K ct ι M H)(h:h_ K ct ι M.length H ds vs):Ws K ct ι (slots N.length ds) M (L2.start N vs) H:=by
 refine⟨R,by simp[slots,L2.start,h.length],λi d hd=> ?_⟩
 unfold slots at hd
 by_cases z:i<ds.length
 ·rw[zae (by simpa using z),zan]at hd
  obtain⟨d',e1,e2⟩:=Option.map_eq_some_iff.mp hd
  cases e2
  obtain⟨v,hv,dv⟩:=h.at e1
  refine⟨v,?_,dv⟩
  unfold L2.start
  rw[zae (by rw[zao,h.length];exact z),zan,hv]
  rfl
 ·rw[zad (by simpa using z),List.getElem?_replicate]at hd
  split at hd<;>cases hd
section
variable{P:Program}{w:World}{K:Frag}{mg:Str->Option Value}{base:Heap}{ct:Nat->Addr}
theorem anI{n ar:Nat}{b:MS}{x qual:Str}{st:Stmt}{dV:Value}{f:Addr}{fd:FuncData}{N ps:List Str}{k:Nat}(F:yJ K x qual st dV f fd)(S:pL N ps (aZ st))(hn:N.length=n)(har:ps.length=ar)
  (hbody:∀(cdv:Value) (A:Around) (outer:List PySem.Env) (s:Shared) (H:Hp) (E:XK) (W:bA),gm k (A.deeper (envOfC qual (aZ st) s.heap.objs.size f cdv))->
   ZF ((vY (DK P w) P w K mg base N qual (aZ st) f cdv A outer s H E).wish (ig (vY (DK P w) P w K mg base N qual (aZ st) f cdv A outer s H E) W)) ct W (cY st) b):
  gw P w K mg base (DK P w) (k+1) f fd ps (spS K ct (aP n b) ar):=by
 subst hn har
 refine F.okX S (λvs H Q E ⟨ι,ds,M,hl,_,hd,_⟩=>by rw[hd.length,hl]) ?_
 rintro cdv A outer s H vs Q E hr ⟨ι,ds,M,hl,R,hd,p⟩
 refine⟨_,λC dx _ H'=>E (.ref C) (some dx) H',λC dx σ H' z=>z,hbody cdv A outer s H E _ hr,ι,slots N.length ds,M,Ws.start N R hd,?_⟩
 unfold aP at p
 cases z:b (slots N.length ds) M with
 | ret d M'=>rw[z]at p;exact λι' v H' x r q=> .inl (p ι' v H' x r q)
 | next e M'=>rw[z]at p;exact λι' σ' H' x w'=> .inl (p ι' .non H' x w'.rl .non)
 | exc c d e M'=>rw[z]at p;exact λι' σ' dx v H' x w' q1 q2=>p ι' dx v H' x w'.rl q1 q2
 | brk e M'=>rw[z]at p;exact p.elim
 | cont e M'=>rw[z]at p;exact p.elim
 | bad=>rw[z]at p;exact p.elim
end
theorem akp{P:Program}{w:World}{K:Frag}{mg:Str->Option Value}{base:Heap}{k:Nat}{f:Addr}{fd:FuncData}{ps:List Str}{sp:Sp}(F:gw P w K mg base (DK P w) k f fd ps sp):gw P w K mg base VV k f fd ps (λvs H Q _=>sp vs H Q E0):=
 ⟨λvs H Q _ h=>F.len vs H Q E0 h,λA outer s H args us vs Q E hr he hb hv hs=>codeAny_mono (F.run A outer s H args us vs Q E0 hr he hb hv hs) λr s' hq=>by
  match r,hq with
  | .error e,hq=>obtain⟨_,_,_,_,_,_,_,_,_,_,_,_,_,_,_,z⟩:=hq;exact z.elim
  | .ok (.ret u),hq=>exact hq⟩
theorem jm(hst:Y.stack=Y.env::Y.outer)(hf:Y.env.frame=some Y.env.locals)(ok:(Y.wish (ig Y W)).Ok):PassesOwn (model Y.prog Y.w) Y.A Y.env (ig Y W):=λev s' h=>ig.Yv hst hf ok.frames ev s' h
theorem Tk.none:Tk X W0:=λ_ _ ⟨_,_,_,_,_,_,_,_,_,_,_,_,_,_,z⟩=>z.elim
def spL(K:Frag):Sp:=λvs H Q _=>∃(a:Addr) (ns:List Int),vs=[.ref a]/\FrL K H a (ns.map V.int)/\ns.length<=63/\∀H',Q (.bl true) H'
theorem TJ{K:Frag}{ct ι:Nat->Addr}{n:Nat}{H:Hp}:∀ns:List Int,h_ K ct ι n H (ns.map D.int) (ns.map V.int)
 | []=> .nil
 | i::r=> .cons (.int i) (TJ r)
theorem aka{P:Program}{w:World}{K:Frag}{mg:Str->Option Value}{base:Heap}{ct:Nat->Addr}{k:Nat}{f:Addr}{fd:FuncData}{x:Str}{fn:Fn}(F:gw P w K mg base (DK P w) k f fd [x] (spS K ct fn 1))
  (h:∀ns:List Int,ns.length<=63->∃M,fn [.cl (ns.map D.int)] []= .ok (.bl true) M):gw P w K mg base VV k f fd [x] (spL K):=by
 refine(akp F).imp ?_
 rintro vs H Q E ⟨a,ns,e,hf,hl,q⟩
 subst e
 obtain⟨M,e⟩:=h ns hl
 refine⟨λ_=>0,[.cl (ns.map D.int)],[],rfl,⟨λi j hi=>absurd hi (Nat.not_lt_zero _),λi o h=>by simp at h⟩,.cons (.cl hf (TJ ns)) .nil,?_⟩
 rw[e]
 intro ι' v H' _ _ dv
 cases dv
 exact q H'
theorem aiG{l:PySem.W.OpenLaw}{loose:List Str}{XP:(Str->Option Value)->Heap->Prop}{YP:World->Heap->Prop}{K:Params->Frag}{x:Str}{k:Nat}(hn:l.most=some 63)(hdf:d.params.defaults=[])(hr:gm k callerA)
  (hY:∀(w:World) (h:Heap),YP w h->(K w.params).In h)
  (F:∀(w:World) (mg:Str->Option Value) (fa:Addr) (h:Heap),(K w.params).In h->h.Ns mainGlobals mg->mg d.name=some (.ref fa)->
   ∃fd:FuncData,(∀(s:Shared) (u:Value),BindsTo s fd ⟨[u],[]⟩ [(x,u)])/\∀base:Heap,(K w.params).In base->base.Ns mainGlobals mg->gw l.prog w (K w.params) mg base VV k fa fd [x] (spL (K w.params))):
  PySem.W.WalkO q loose XP YP l.row.toRowW d [] (λf vs=>PySem.call f vs):=
 acV (n:=63) (k:=k) (x:=x) (CX:=λ_=>VV) (sp:=λw=>spL (K w.params)) hn (by decide) hdf hr hY F (λ_ H a ns hl hO hS=>⟨a,ns,rfl,by
  rcases hS with(z | z) | z
  ·rcases hO a with n | ⟨o,xs,n⟩
   ·rw[n]at z;cases z
   ·rw[n]at z;cases z
  ·exact .inl z
  ·exact .inr z,hl,λ_=>rfl⟩) λ_ _ _ _ _ z=>z
section
variable{e:Sl}{M:Mem}
@[simp] theorem ajT:aq 0 (some d::r) M= .ok d M:=lJ rfl
@[simp] theorem ao4:aq 1 (o0::some d::r) M= .ok d M:=lJ rfl
@[simp] theorem ao3:aq 2 (o0::o1::some d::r) M= .ok d M:=lJ rfl
@[simp] theorem ao2:aq 3 (o0::o1::o2::some d::r) M= .ok d M:=lJ rfl
@[simp] theorem ao1:aq 4 (o0::o1::o2::o3::some d::r) M= .ok d M:=lJ rfl
@[simp] theorem ao0:aq 5 (o0::o1::o2::o3::o4::some d::r) M= .ok d M:=lJ rfl
@[simp] theorem aoZ:aq 6 (o0::o1::o2::o3::o4::o5::some d::r) M= .ok d M:=lJ rfl
@[simp] theorem aoY:aq 7 (o0::o1::o2::o3::o4::o5::o6::some d::r) M= .ok d M:=lJ rfl
@[simp] theorem aoX:aq 8 (o0::o1::o2::o3::o4::o5::o6::o7::some d::r) M= .ok d M:=lJ rfl
@[simp] theorem aoW:aq 9 (o0::o1::o2::o3::o4::o5::o6::o7::o8::some d::r) M= .ok d M:=lJ rfl
@[simp] theorem am3:aq 10 (o0::o1::o2::o3::o4::o5::o6::o7::o8::o9::some d::r) M= .ok d M:=lJ rfl
@[simp] theorem am2:aq 11 (o0::o1::o2::o3::o4::o5::o6::o7::o8::o9::o10::some d::r) M= .ok d M:=lJ rfl
@[simp] theorem ao6:mC d e M= .ok d M:=id rfl
def bd2{α β γ:Type}(op:α->β->Mem->Out γ)(mb:Sl->Mem->Out β)(e:Sl)(d:α)(M:Mem):Out γ:=(mb e M).bind (op d)
@[simp high] theorem QV{α β γ:Type}{op:α->β->Mem->Out γ}{mb:Sl->Mem->Out β}{d:α}:(Out.ok d M).bind (bd2 op mb e)=(mb e M).bind (op d):=id rfl
@[simp] theorem Jk:aC op ma mb e M=(ma e M).bind (bd2 op mb e):=id rfl
def cN{β:Type}(a b:Sl->Mem->β)(e:Sl)(k:Bool)(M:Mem):β:=if k=true then a e M else b e M
@[simp] theorem apL{β:Type}{a b:Sl->Mem->β}{k:Bool}:cN a b e k M=if k=true then a e M else b e M:=id rfl
@[simp high] theorem arb{β:Type}{a b:Sl->Mem->Out β}:(Out.ok true M).bind (cN a b e)=a e M:=id rfl
@[simp high] theorem arc{β:Type}{a b:Sl->Mem->Out β}:(Out.ok false M).bind (cN a b e)=b e M:=id rfl
@[simp high] theorem apJ:uG e (.ok true M) (cN a b e)=a e M:=id rfl
@[simp high] theorem apK:uG e (.ok false M) (cN a b e)=b e M:=id rfl
def bdB{β:Type}(f:Bool->Mem->Out β)(d:D)(M:Mem):Out β:=(Zr d M).bind f
@[simp high] theorem aob{β:Type}{f:Bool->Mem->Out β}{b:Bool}:(Out.ok (.bl b) M).bind (bdB f)=(Out.ok b M).bind f:=id rfl
def mFl:MT:=λ_ M=> .ok false M
@[simp] theorem am8:mFl e M= .ok false M:=id rfl
@[simp] theorem aeb:Kr e M= .ok true M:=id rfl
def ajM(k:Bool)(M:Mem):Out Bool:= .ok (!k) M
@[simp] theorem alw:ajM k M= .ok (!k) M:=id rfl
def ajL(k:Bool)(M:Mem):Out D:= .ok (.bl (!k)) M
@[simp] theorem alv:ajL k M= .ok (.bl (!k)) M:=id rfl
@[simp] theorem am4:mUn op ma e M=(ma e M).bind op:=id rfl
@[simp] theorem aog:Zr (.bl b) M= .ok b M:=id rfl
@[simp] theorem Km:aY m e M=(m e M).bind Zr:=id rfl
@[simp] theorem W3:Vk t u e M=(t e M).bind (cN u mFl e):=id rfl
@[simp] theorem ag8:ZD t u e M=(t e M).bind (cN Kr u e):=id rfl
@[simp] theorem alB:Vh t e M=(t e M).bind ajM:=id rfl
@[simp] theorem aj7:jx t u e M=(t e M).bind (bdB (cN u (mC (.bl false)) e)):=id rfl
@[simp] theorem alA:S7 t u e M=(t e M).bind (bdB (cN (mC (.bl true)) u e)):=id rfl
@[simp] theorem ajW:WY t e M=(t e M).bind (bdB ajL):=id rfl
@[simp] theorem am7:mIf t a b e M=(t e M).bind (cN a b e):=id rfl
@[simp] theorem alC:aF e M= .ok [] M:=id rfl
def okC(d:D)(ds:List D)(M:Mem):Out (List D):= .ok (d::ds) M
@[simp high] theorem amS:(Out.ok ds M).bind (okC d)= .ok (d::ds) M:=id rfl
@[simp] theorem aj4:au m ms e M=(m e M).bind (bd2 okC ms e):=id rfl
theorem Bq:sizeLine=16777216:=sizeLine_eq
def Rk(ds:List D)(M:Mem):Out D:=if ds.length<=sizeLine then .ok (.tup ds) M else .bad
@[simp low] theorem ak_:Rk ds M=if ds.length<=16777216 then .ok (.tup ds) M else .bad:=by unfold Rk;rw[Bq]
@[simp] theorem aly:gB ms e M=(ms e M).bind Rk:=id rfl
@[simp high] theorem aoD:(Out.ok [a0] M).bind Rk= .ok (.tup [a0]) M:=by simp
@[simp high] theorem aoC:(Out.ok [a0,a1] M).bind Rk= .ok (.tup [a0,a1]) M:=by simp
@[simp high] theorem aoB:(Out.ok [a0,a1,a2] M).bind Rk= .ok (.tup [a0,a1,a2]) M:=by simp
@[simp high] theorem aoA:(Out.ok [a0,a1,a2,a3] M).bind Rk= .ok (.tup [a0,a1,a2,a3]) M:=by simp
@[simp high] theorem aoz:(Out.ok [a0,a1,a2,a3,a4] M).bind Rk= .ok (.tup [a0,a1,a2,a3,a4]) M:=by simp
def aef(ds:List D)(M:Mem):Out D:=if ds.length<=sizeLine then .ok (.ref M.length) (M++[.lst ds])else .bad
@[simp low] theorem alK:aef ds M=if ds.length<=16777216 then .ok (.ref M.length) (M++[.lst ds])else .bad:=by unfold aef;rw[Bq]
@[simp high] theorem ao7:(Out.ok [] M).bind aef= .ok (.ref M.length) (M++[.lst []]):=by simp
@[simp] theorem alD:CZ ms e M=(ms e M).bind aef:=id rfl
@[simp] theorem alF:b8 cs m f e M=(m e M).bind (mR cs f):=id rfl
theorem dj(h:M[n]? = some (.ins c fs))(hc:c∈cs)(hf:fs.lookup f=some d):mR cs f (.ref n) M= .ok d M:=by
 unfold mR;simp only[h,hc,if_true,hf]
def Cz(fn:Fn)(ar:Nat)(dv ds:List D)(M:Mem):Out D:=if(ds++dv).length=ar then fn (ds++dv) M else .bad
@[simp low] theorem akE:Cz fn ar dv ds M=if(ds++dv).length=ar then fn (ds++dv) M else .bad:=id rfl
@[simp high] theorem an_:(Out.ok [a0] M).bind (Cz fn 1 [])=fn [a0] M:=id rfl
@[simp high] theorem an9:(Out.ok [a0,a1] M).bind (Cz fn 2 [])=fn [a0,a1] M:=id rfl
@[simp high] theorem an8:(Out.ok [a0,a1,a2] M).bind (Cz fn 3 [])=fn [a0,a1,a2] M:=id rfl
@[simp high] theorem an7:(Out.ok [a0,a1,a2,a3] M).bind (Cz fn 4 [])=fn [a0,a1,a2,a3] M:=id rfl
@[simp high] theorem an6:(Out.ok [a0,a1,a2,a3,a4] M).bind (Cz fn 5 [])=fn [a0,a1,a2,a3,a4] M:=id rfl
@[simp high] theorem an5:(Out.ok [a0,a1,a2,a3,a4,a5] M).bind (Cz fn 6 [])=fn [a0,a1,a2,a3,a4,a5] M:=id rfl
@[simp] theorem aj6:bZ fn ar dv ms e M=(ms e M).bind (Cz fn ar dv):=id rfl
def callC(fn:Fn)(ar:Nat)(dv:List D)(d:D)(ds:List D)(M:Mem):Out D:=Cz fn ar dv (d::ds) M
@[simp high] theorem akF:(Out.ok ds M).bind (callC fn ar dv d)=(Out.ok (d::ds) M).bind (Cz fn ar dv):=id rfl
def afq(k:Nat)(m:Str)(fn:Fn)(ar:Nat)(dv:List D)(ms:MA)(e:Sl)(d:D)(M:Mem):Out D:=if uw k m d M=true then(ms e M).bind (callC fn ar dv d)else .bad
@[simp high] theorem ajR:(Out.ok d M).bind (afq k m fn ar dv ms e)=if uw k m d M=true then(ms e M).bind (callC fn ar dv d)else .bad:=id rfl
@[simp] theorem ajX:aU k m fn ar dv mo ms e M=(mo e M).bind (afq k m fn ar dv ms e):=id rfl
theorem Ae(h:M[n]? = some (.ins k fs))(hf:fs.lookup m=none):uw k m (.ref n) M=true:=by
 unfold uw;simp[h,hf]
def mkR(n:Nat)(r:D)(M:Mem):Out D:=if Nz r=true then .ok (.ref n) M else .bad
@[simp] theorem amZ:mkR n r M=if Nz r=true then .ok (.ref n) M else .bad:=id rfl
def mkO(kc:Nat)(fn:Fn)(ar:Nat)(dv ds:List D)(M:Mem):Out D:=if(D.ref M.length::(ds++dv)).length=ar then(fn (.ref M.length::(ds++dv)) (M++[.ins kc []])).bind (mkR M.length)else .bad
@[simp high] theorem am1:(Out.ok ds M).bind (mkO kc fn ar dv)=if(D.ref M.length::(ds++dv)).length=ar then(fn (.ref M.length::(ds++dv)) (M++[.ins kc []])).bind (mkR M.length)else .bad:=id rfl
@[simp] theorem ajY:z8 kc fn ar dv ms e M=(ms e M).bind (mkO kc fn ar dv):=id rfl
@[simp] theorem air:Nz .non=true:=id rfl
@[simp] theorem am9:xx op ms e M=(ms e M).bind op:=id rfl
def bmO(T:String)(op:D->List D->Mem->Out D)(ms:MA)(e:Sl)(d:D)(M:Mem):Out D:=if X8 T d M=true then(ms e M).bind (op d)else .bad
@[simp high] theorem aoa:(Out.ok d M).bind (bmO T op ms e)=if X8 T d M=true then(ms e M).bind (op d)else .bad:=id rfl
@[simp] theorem am_:mBM T op mo ms e M=(mo e M).bind (bmO T op ms e):=id rfl
def bd3(op:D->Option Int->Option Int->Mem->Out D)(lo hi:MO')(e:Sl)(d:D)(M:Mem):Out D:=(lo e M).bind (bd2 (op d) hi e)
@[simp] theorem aoc{op:D->Option Int->Option Int->Mem->Out D}{lo hi:MO'}:bd3 op lo hi e d M=(lo e M).bind (bd2 (op d) hi e):=id rfl
@[simp] theorem am5{lo hi:MO'}:mSl m lo hi e M=(m e M).bind (bd3 sSl lo hi e):=id rfl
@[simp] theorem ajV:Kq m e M=(m e M).bind asI:=id rfl
@[simp] theorem ag9:xu e M= .ok none M:=id rfl
@[simp] theorem al5:asI (.int i) M= .ok (some i) M:=id rfl
@[simp] theorem abx:Fj m e M=(m e M).bind Y5:=id rfl
theorem sU(h:M[n]? = some (.lst ds)):Y5 (.ref n) M= .ok ⟨some (n,ds),ds⟩ M:=by simp only[Y5,dh h]
@[simp] theorem ajU:Ko ms e M=(ms e M).bind Mf:=id rfl
theorem Et(h: -(2 ^ 62)<=j)(h2:j<2 ^ 24):Mf [.int j] M= .ok ⟨none,DN 0 j.toNat⟩ M:=by simp only[Mf];rw[if_pos ⟨h,h2⟩]
def cpO(tt:MT)(te:ME)(ce:Sl)(it:Itm)(M:Mem):Out D:=sZ it.src tt te ce it.ds [] M
@[simp] theorem anS:cpO tt te ce it M=sZ it.src tt te ce it.ds [] M:=id rfl
@[simp] theorem aj5:Hi js mi tt te e M=(mi e M).bind (cpO tt te (ql js e)):=id rfl
@[simp] theorem Gz:Qj C g (.int i) (.int j) M=if C i j=true then .ok (g i j) M else .bad:=id rfl
@[simp] theorem ajm:rQ (.int i) (.int j) M= .ok (.int (i+j)) M:=id rfl
@[simp] theorem ai7:O5 (.int i) (.int j) M= .ok (.int (i - j)) M:=id rfl
@[simp] theorem aaI:O_ (.int i) (.int j) M= .ok (.int (Builtin.bitAnd i j)) M:=id rfl
@[simp] theorem alk:sOr (.int i) (.int j) M= .ok (.int (Builtin.bitOr i j)) M:=id rfl
@[simp] theorem alo:sLt (.int i) (.int j) M= .ok (.bl (decide (i<j))) M:=id rfl
@[simp] theorem aje:L_ (.int i) (.int j) M= .ok (.bl (decide (i<=j))) M:=id rfl
@[simp] theorem ajh:J2 (.int i) (.int j) M= .ok (.bl (decide (j<i))) M:=id rfl
@[simp] theorem aji:Yk (.int i) (.int j) M= .ok (.bl (decide (j<=i))) M:=id rfl
theorem JX(h:(-(2 ^ 64)<i/\i<2 ^ 64)\/(-(2 ^ 64)<j/\j<2 ^ 64)):O8 (.int i) (.int j) M= .ok (.int (i*j)) M:=by
 refine iz ?_;unfold aaB;rw[Gz,if_pos (by unfold ah2;exact zag h)]
theorem vJ(h:0<j)(h2:j<1073741824):rP (.int i) (.int j) M= .ok (.int (i / j)) M:=by
 unfold rP;rw[Gz,if_pos (by unfold ah3;exact zag ⟨h,h2⟩)]
theorem mZ(h:0<j):iW (.int i) (.int j) M= .ok (.int (i % j)) M:=by
 unfold iW;rw[Gz,if_pos (by unfold akK;exact zag h)]
theorem RV(h:0<=j/\j<=1000000/\i.natAbs<2 ^ 64):O7 (.int i) (.int j) M= .ok (.int (i ^ j.toNat)) M:=by
 unfold O7;rw[Gz,if_pos (by unfold Zq;exact zag h)]
@[simp] theorem ai_:Yi (.int i) M= .ok (.int (-i)) M:=id rfl
theorem Ao(h:eG M 12 d=some a)(h':eG M 12 d'=some b):Tw M d d'=some (jb a b):=by unfold Tw;rw[h,h']
theorem rO(h:Tw M d d'=some b):sEq d d' M= .ok (.bl b) M:=by unfold sEq;rw[h]
theorem zy(h:Tw M d d'=some b):sNe d d' M= .ok (.bl (!b)) M:=by unfold sNe;rw[h]
theorem Xq:Tw M (.int i) (.int j)=some (decide (i=j)):=by
 rw[Ao (a:= .int i) (b:= .int j) rfl rfl];unfold jb;rw[Bool.beq_eq_decide_eq]
theorem Xp:Tw M (.str i) (.str j)=some (decide (i=j)):=by
 rw[Ao (a:= .str i) (b:= .str j) rfl rfl];unfold jb;rw[Bool.beq_eq_decide_eq]
theorem aci:Tw M (.bl i) (.bl j)=some (decide (i=j)):=by
 rw[Ao (a:= .bl i) (b:= .bl j) rfl rfl];unfold jb;rw[Bool.beq_eq_decide_eq]
@[simp] theorem Wl:sEq (.int i) (.int j) M= .ok (.bl (decide (i=j))) M:=rO Xq
@[simp] theorem aln:sNe (.int i) (.int j) M= .ok (.bl (!decide (i=j))) M:=zy Xq
@[simp] theorem als:sEq (.str i) (.str j) M= .ok (.bl (decide (i=j))) M:=rO Xp
@[simp] theorem alm:sNe (.str i) (.str j) M= .ok (.bl (!decide (i=j))) M:=zy Xp
@[simp] theorem amF:sEq (.bl i) (.bl j) M= .ok (.bl (decide (i=j))) M:=rO aci
@[simp] theorem amC:sNe (.bl i) (.bl j) M= .ok (.bl (!decide (i=j))) M:=zy aci
@[simp] theorem alr:sIs d .non M= .ok (.bl (NB d)) M:=id rfl
@[simp] theorem agg:zA d .non M= .ok (.bl (!NB d)) M:=id rfl
@[simp] theorem alM:NB .non=true:=id rfl
@[simp] theorem alN:NB (.int i)=false:=id rfl
@[simp] theorem alL:NB (.tup i)=false:=id rfl
theorem QW{α:Type}{xs:List α}{k:Int}(h:0<=k):Mw xs k=xs[k.toNat]? := by
 unfold Mw ixN
 rw[if_pos h]
 by_cases z:k<xs.length
 ·rw[if_pos z];rfl
 ·rw[if_neg z]
  show none=_
  rw[List.getElem?_eq_none ()]
theorem wM(h0:0<=k)(h:ds[k.toNat]? = some d):bh (.tup ds) (.int k) M= .ok d M:=
 iz (iz (by simp only[Ma,QW h0,h]))
theorem age(h0:0<=k)(h:ds[k.toNat]? = some d):bh (.cl ds) (.int k) M= .ok d M:=
 iz (iz (by simp only[Ma,Gm,QW h0,h]))
theorem jL(hM:M[n]? = some (.lst ds))(h0:0<=k)(h:ds[k.toNat]? = some d):bh (.ref n) (.int k) M= .ok d M:=
 iz (iz (by simp only[Ma,Gm,dh hM,QW h0,h]))
@[simp] theorem kZ:bh (.tup (d::r)) (.int 0) M= .ok d M:=wM (by decide) rfl
@[simp] theorem RW:bh (.tup (d0::d::r)) (.int 1) M= .ok d M:=wM (by decide) rfl
@[simp] theorem ajg:bh (.tup (d0::d1::d::r)) (.int 2) M= .ok d M:=wM (by decide) rfl
@[simp] theorem ajf:bh (.tup (d0::d1::d2::d::r)) (.int 3) M= .ok d M:=wM (by decide) rfl
theorem kY(hM:M[n]? = some (.lst ds)):gJ [.ref n] M= .ok (.int ds.length) M:=abj (abj (by simp only[Wj,vB,Gm,dh hM]))
@[simp] theorem ajb:gJ [.tup ds] M= .ok (.int ds.length) M:=id rfl
@[simp] theorem alp:gJ [.cl ds] M= .ok (.int ds.length) M:=id rfl
@[simp] theorem amz{ds:List D}{lo hi:Option Int}:sSl (.cl ds) lo hi M= .ok (.ref M.length) (M++[.lst (cut ds lo hi)]):=id rfl
theorem RX(hM:M[n]? = some (.lst ds))(h:ds.length<16777216):Bl (.ref n) [d] M= .ok .non (M.set n (.lst (ds++[d]))):=by
 simp only[Bl,hM];rw[Bq,if_pos h]
@[simp] theorem ak9:X8 "int" (.int i) M=true:=id rfl
@[simp] theorem aif:Wm (.int i) [] M= .ok (.int (Builtin.Int.intBits i:Nat)) M:=id rfl
@[simp] theorem aid:J0 [.int i,.int j] M= .ok (.int (if j > i then j else i)) M:=id rfl
@[simp] theorem aic:Wi [.int i,.int j] M= .ok (.int (if j<i then j else i)) M:=id rfl
@[simp] theorem ai9:bH e M= .next e M:=id rfl
def g_.seq(o:g_)(t:MS):g_:=match o with
 | .next e M=>t e M
 | .ret d M=> .ret d M
 | .brk e M=> .brk e M
 | .cont e M=> .cont e M
 | .exc c d e M=> .exc c d e M
 | .bad=> .bad
@[simp] theorem O6:aQ s t e M=(s e M).seq t:=by
 unfold aQ g_.seq
 cases s e M<;>rfl
@[simp] theorem RD:(g_.next e M).seq t=t e M:=id rfl
@[simp] theorem alg:(g_.ret d M).seq t= .ret d M:=id rfl
@[simp] theorem alh:(g_.exc c d e M).seq t= .exc c d e M:=id rfl
@[simp] theorem ajk:gU m e M=uG e (m e M) λ_ M1=> .next e M1:=id rfl
@[simp] theorem alj:bz m e M=uG e (m e M) .ret:=id rfl
@[simp] theorem U5:jM c s t e M=uG e (c e M) (cN s t e):=id rfl
def tgO(o:Option Sl)(M:Mem):g_:=match o with
 | some e'=> .next e' M
 | none=> .bad
@[simp] theorem aiQ:tgO (some e) M= .next e M:=id rfl
def Ge(g:Tg)(e:Sl)(d:D)(M:Mem):g_:=tgO (g d e) M
@[simp low] theorem al4:Ge g e d M=tgO (g d e) M:=id rfl
@[simp] theorem adv:bV m g e M=uG e (m e M) (Ge g e):=by
 unfold bV Ge tgO;rfl
@[simp high] theorem apY:uG e (.ok d M) (Ge (gN 1) (o0::o1::r))= .next (o0::some d::r) M:=id rfl
@[simp high] theorem apW:uG e (.ok d M) (Ge (gN 2) (o0::o1::o2::r))= .next (o0::o1::some d::r) M:=id rfl
@[simp high] theorem apV:uG e (.ok d M) (Ge (gN 3) (o0::o1::o2::o3::r))= .next (o0::o1::o2::some d::r) M:=id rfl
@[simp high] theorem apU:uG e (.ok d M) (Ge (gN 4) (o0::o1::o2::o3::o4::r))= .next (o0::o1::o2::o3::some d::r) M:=id rfl
@[simp high] theorem apT:uG e (.ok d M) (Ge (gN 5) (o0::o1::o2::o3::o4::o5::r))= .next (o0::o1::o2::o3::o4::some d::r) M:=id rfl
@[simp high] theorem apS:uG e (.ok d M) (Ge (gN 6) (o0::o1::o2::o3::o4::o5::o6::r))= .next (o0::o1::o2::o3::o4::o5::some d::r) M:=id rfl
@[simp high] theorem apR:uG e (.ok d M) (Ge (gN 7) (o0::o1::o2::o3::o4::o5::o6::o7::r))= .next (o0::o1::o2::o3::o4::o5::o6::some d::r) M:=id rfl
@[simp high] theorem apQ:uG e (.ok d M) (Ge (gN 8) (o0::o1::o2::o3::o4::o5::o6::o7::o8::r))= .next (o0::o1::o2::o3::o4::o5::o6::o7::some d::r) M:=id rfl
@[simp high] theorem apP:uG e (.ok d M) (Ge (gN 9) (o0::o1::o2::o3::o4::o5::o6::o7::o8::o9::r))= .next (o0::o1::o2::o3::o4::o5::o6::o7::o8::some d::r) M:=id rfl
@[simp high] theorem aof:uG e (.ok d M) (Ge (gN 10) (o0::o1::o2::o3::o4::o5::o6::o7::o8::o9::o10::r))= .next (o0::o1::o2::o3::o4::o5::o6::o7::o8::o9::some d::r) M:=id rfl
@[simp high] theorem aoe:uG e (.ok d M) (Ge (gN 11) (o0::o1::o2::o3::o4::o5::o6::o7::o8::o9::o10::o11::r))= .next (o0::o1::o2::o3::o4::o5::o6::o7::o8::o9::o10::some d::r) M:=id rfl
@[simp] theorem akm:gN i d e=some (e.set i (some d)):=id rfl
@[simp] theorem apm:gT n gs (.tup ds) e=if ds.length=n then gs ds e else none:=id rfl
@[simp] theorem akn:d8 g gs (d::ds) e=(g d e).bind (gs ds):=id rfl
@[simp] theorem alR:vW [] e=some e:=id rfl
def SQ(o:Option Mem)(e:Sl):g_:=match o with
 | some M=> .next e M
 | none=> .bad
@[simp] theorem aim:SQ (some M) e= .next e M:=id rfl
def fl2(cs:List Nat)(f:Str)(e:Sl)(d o:D)(M:Mem):g_:=SQ (mH cs f d o M) e
@[simp] theorem anK:fl2 cs f e d o M=SQ (mH cs f d o M) e:=id rfl
def fl1(f:D->D->Mem->g_)(mo:ME)(e:Sl)(d:D)(M:Mem):g_:=uG e (mo e M) (f d)
@[simp] theorem anM:fl1 f mo e d M=uG e (mo e M) (f d):=id rfl
@[simp] theorem ajj:dJ cs mo mv f e M=uG e (mv e M) (fl1 (fl2 cs f e) mo e):=by
 unfold dJ fl1 fl2 SQ;rfl
theorem jN(h:M[n]? = some (.ins c fs))(hc:c∈cs)(hl:fs.length<1000):mH cs f d (.ref n) M=some (M.set n (.ins c (putD f d fs))):=by
 unfold mH;simp only[h];rw[if_pos ⟨hc,hl⟩]
def foO(g:Tg)(b:MS)(e:Sl)(it:Itm)(M:Mem):g_:=fZ it.src g b it.ds e M
@[simp] theorem anH:foO g b e it M=fZ it.src g b it.ds e M:=id rfl
@[simp] theorem adu:Ih mi g b e M=uG e (mi e M) (foO g b e):=id rfl
@[simp] theorem rC:slots (n+1) (d::ds)=some d::slots n ds:=by
 unfold slots
 simp
@[simp] theorem wK:slots (n+1) []=none::slots n []:=by
 unfold slots
 simp[List.replicate_succ]
@[simp] theorem rB:slots 0 []=[]:=id rfl
def Ii(o:g_):Out D:=match o with
 | .ret d M=> .ok d M
 | .next _ M=> .ok .non M
 | .exc c d _ M=> .exc c d M
 | _=> .bad
@[simp] theorem pJ:aP n b ds M=Ii (b (slots n ds) M):=by
 unfold aP Ii
 cases b (slots n ds) M<;>rfl
@[simp] theorem ajo:Ii (.ret d M)= .ok d M:=id rfl
@[simp] theorem ajp:Ii (.exc c d e M)= .exc c d M:=id rfl
@[simp] theorem aih:Ii (.next e M)= .ok .non M:=id rfl
end
def g_.to(o:g_)(P:Sl->Mem->Prop)(R:D->Mem->Prop):Prop:=match o with
 | .next e M=>P e M
 | .cont e M=>P e M
 | .ret d M=>R d M
 | _=>False
@[simp] theorem alb{P:Sl->Mem->Prop}{R:D->Mem->Prop}:(g_.next e M).to P R=P e M:=id rfl
theorem NZ(P:Nat->Sl->Mem->Prop){R:D->Mem->Prop}:∀(ds:List D) (k:Nat) {e:Sl} {M:Mem},P k e M->
  (∀i e M,k<=i->i<=k+ds.length->P i e M->ir src M)->
  (∀i d e M,ds[i]? = some d->P (k+i) e M->∃e1,g d e=some e1/\(b e1 M).to (P (k+i+1)) R)->
  (∃e' M',fZ src g b ds e M= .next e' M'/\P (k+ds.length) e' M')\/∃r M',fZ src g b ds e M= .ret r M'/\R r M'
 | [],k,e,M,h0,hs,_=> .inl ⟨e,M,by unfold fZ;rw[if_pos (hs k e M (zab _) (zab _) h0)],h0⟩
 | d::ds,k,e,M,h0,hs,hb=>by
  unfold fZ
  rw[if_pos (hs k e M (zab _) (Nat.le_add_right _ _) h0)]
  obtain⟨e1,hg,h⟩:=hb 0 d e M rfl h0
  rw[hg]
  have go:∀{e2:Sl} {M2:Mem},P (k+1) e2 M2->(∃e' M',fZ src g b ds e2 M2= .next e' M'/\P (k+(d::ds).length) e' M')\/∃r M',fZ src g b ds e2 M2= .ret r M'/\R r M':=λ{e2 M2} p=>by
   have go:=NZ (src:=src) (g:=g) (b:=b) P (R:=R) ds (k+1) (e:=e2) (M:=M2) p
    (λi e M h1 h2=>hs i e M () (by simp only[List.length_cons];omega)) (λi d e M hd hp=>by
     have e4:k+(i+1)=k+1+i:=()
     have:=hb (i+1) d e M (by simpa using hd) (by rw[e4];exact hp)
     rw[e4]at this
     exact this)
   have el:k+1+ds.length=k+(d::ds).length:=by simp only[List.length_cons];omega
   rw[el]at go
   exact go
  cases z:b e1 M with
  | next e2 M2=>rw[z]at h;simp only[z];exact go h
  | cont e2 M2=>rw[z]at h;simp only[z];exact go h
  | ret r M2=>rw[z]at h;simp only[z];exact .inr ⟨r,M2,rfl,h⟩
  | brk _ _=>rw[z]at h;exact h.elim
  | exc _ _ _ _=>rw[z]at h;exact h.elim
  | bad=>rw[z]at h;exact h.elim
theorem oW(P:Nat->Sl->Mem->Prop)(h0:P 0 e M)
  (hs:∀i e M,i<=ds.length->P i e M->ir src M)
  (hb:∀i d e M,ds[i]? = some d->P i e M->∃e1,g d e=some e1/\(b e1 M).to (P (i+1)) λ_ _=>False):
  ∃e' M',fZ src g b ds e M= .next e' M'/\P ds.length e' M':=by
 rcases NZ (src:=src) (g:=g) (b:=b) P (R:=λ_ _=>False) ds 0 h0 (λi e M _ h2=>hs i e M ()) (λi d e M hd hp=>by
  rw[Nat.zero_add]at hp ⊢
  exact hb i d e M hd hp)with h | ⟨_,_,_,h⟩
 ·simpa using h
 ·exact h.elim
theorem K_(P:Nat->List D->Mem->Prop):∀(ds:List D) (k:Nat) {ys:List D} {M:Mem},P k ys M->
  (∀i ys M,k<=i->i<=k+ds.length->P i ys M->ir src M)->
  (∀i d ys M,ds[i]? = some d->P (k+i) ys M->∃t M1,tt (some d::ce) M= .ok t M1/\((t=false/\P (k+i+1) ys M1)\/(t=true/\∃y M2,te (some d::ce) M1= .ok y M2/\P (k+i+1) (ys++[y]) M2)))->
  ∃ys' M',sZ src tt te ce ds ys M= .ok (.ref M'.length) (M'++[.lst ys'])/\P (k+ds.length) ys' M'
 | [],k,ys,M,h0,hs,_=>⟨ys,M,by unfold sZ;rw[if_pos (hs k ys M (zab _) (zab _) h0)],h0⟩
 | d::ds,k,ys,M,h0,hs,hb=>by
  unfold sZ
  rw[if_pos (hs k ys M (zab _) (Nat.le_add_right _ _) h0)]
  obtain⟨t,M1,ht,h⟩:=hb 0 d ys M rfl h0
  rw[ht,w6,Out.b_]
  have el:k+1+ds.length=k+(d::ds).length:=by simp only[List.length_cons];omega
  have go:∀{Zy:List D} {M2:Mem},P (k+1) Zy M2->∃ys' M',sZ src tt te ce ds Zy M2= .ok (.ref M'.length) (M'++[.lst ys'])/\P (k+(d::ds).length) ys' M':=λ{Zy M2} p=>by
   have:=K_ (src:=src) (tt:=tt) (te:=te) (ce:=ce) P ds (k+1) (ys:=Zy) (M:=M2) p
    (λi e M h1 h2=>hs i e M () (by simp only[List.length_cons];omega)) (λi d e M hd hp=>by
     have:=hb (i+1) d e M (by simpa using hd) (by have:k+(i+1)=k+1+i:=()
                                                  rw[this];exact hp)
     have e3:k+(i+1)+1=k+1+i+1:=()
     rw[e3]at this
     exact this)
   rw[el]at this
   exact this
  rcases h with⟨rfl,p⟩ | ⟨rfl,y,M2,hy,p⟩
  ·exact go p
  ·simp only[if_true]
   rw[hy,w6,Out.b_]
   exact go p
theorem acr(f:D->D)(hs:ir src M)(hf:∀d∈ds,te (some d::ce) M= .ok (f d) M):sZ src Kr te ce ds [] M= .ok (.ref M.length) (M++[.lst (ds.map f)]):=by
 have key:∀(ds ys:List D),(∀d∈ds,te (some d::ce) M= .ok (f d) M)->sZ src Kr te ce ds ys M= .ok (.ref M.length) (M++[.lst (ys++ds.map f)]):=by
  intro ds
  induction ds with
  | nil=>intro ys _;unfold sZ;rw[if_pos hs];simp
  | cons d r ih=>
   intro ys h
   unfold sZ
   rw[if_pos hs,aeb,w6,Out.b_]
   simp only[if_true]
   rw[h d xB,w6,Out.b_,ih _ λx hx=>h x (yT _ hx)]
   simp
 have:=key ds [] hf
 simpa using this
theorem Es{lo:Int}{n i:Nat}(h:(DN lo n)[i]? = some d):i<n/\d= .int (lo+i):=by
 unfold DN at h
 rw[zan]at h
 obtain⟨k,hk,rfl⟩:=Option.map_eq_some_iff.mp h
 obtain⟨hi,e⟩:=List.getElem?_eq_some_iff.mp hk
 simp at hi e
 exact⟨hi,by rw[<-e]⟩
theorem Wu{lo:Int}{n:Nat}:(DN lo n).length=n:=by simp[DN]
section
variable{X:Cx}{ct:Nat->Addr}{W:bA}
noncomputable def HR:List D->Option Bool
 | []=>some true
 | .bl b::r=>(HR r).map λk=>b&&k
 | _=>none
theorem Ue:∀{ds:List D} {k:Bool},HR ds=some k->∃bs:List Bool,ds=bs.map D.bl/\k=bs.all id
 | [],k,h=>by cases h;exact⟨[],rfl,rfl⟩
 | d::r,k,h=>by
  cases d with
  | bl b=>
   simp only[HR]at h
   obtain⟨k',h1,rfl⟩:=Option.map_eq_some_iff.mp h
   obtain⟨bs,rfl,rfl⟩:=Ue h1
   exact⟨b::bs,rfl,rfl⟩
  | _=>simp only[HR]at h;cases h
theorem Xr{K:Frag}{ι:Nat->Addr}{n:Nat}{H:Hp}:∀{bs:List Bool} {vs:List V},h_ K ct ι n H (bs.map D.bl) vs->vs=bs.map V.bl
 | [],_,.nil=>rfl
 | b::bs,_,.cons h hs=>by cases h;rw[Xr hs];rfl
theorem acF(bs:List Bool):(List.range bs.length).all (λj=>bs.getD j true)=bs.all id:=by
 rw[Bool.eq_iff_iff,List.all_eq_true,List.all_eq_true]
 constructor
 ·intro h b hb
  obtain⟨j,hj,e⟩:=List.mem_iff_getElem.mp hb
  have:=h j (List.mem_range.mpr hj)
  rw[List.getD_eq_getElem?_getD,zac hj]at this
  rw[<-e]
  exact this
 ·intro h j hj
  have hj':=List.mem_range.mp hj
  rw[List.getD_eq_getElem?_getD,zac hj']
  exact h _ (List.getElem_mem hj')
theorem Zj(hc:X.calm=true):qP X (.builtin "all") (λxs H Q=>∃(a:Addr) (bs:List Bool),xs=[.ref a]/\pB X.K H a (bs.map V.bl)/\Q (.bl (bs.all id)) H):=by
 intro pins s σ H xs us Q I r h
 obtain⟨a,bs,rfl,hq,q⟩:=h
 obtain⟨u,rfl,ru⟩:=vals1 r
 cases(show u=Value.ref a from ru)
 obtain⟨its,rv,p,hz⟩:=I.list hq
 have hlt:a<s.heap.objs.size:=by obtain⟨o,n,e,_⟩:=p;exact zS e
 have hl:its.length=bs.length:=by rw[<-rv.length,zao]
 refine call_all_walk (wpAny_pyIter_list p.isList ⟨s.heap.objs.size,[s.heap.objs.size,a],[s.heap.objs.size],its.toArray.size,λi v=>its.toArray[i]? = some v,_,λj=>bs.getD j true,rfl,
  Walks.list (A:=X.A.in1) (I.ok.hd hc) s.heap.objs.size a (xD hlt) its.toArray,⟨⟨_,yB _ rfl,rfl,rfl⟩,p.isList.push _⟩,?_,λh' tk hk=> ?_⟩)
 ·intro i v s' Q' E' hP hQ
  have hP':its[i]? = some v:=by simpa using hP
  have hi:i<its.length:=(List.getElem?_eq_some_iff.mp hP').1
  have hb:bs[i]? = some bs[i]:=zac ()
  obtain⟨u,hu,ru⟩:=rv.get (i:=i) (x:=V.bl bs[i]) (by rw[zan,hb];rfl)
  rw[hP']at hu
  cases hu
  cases ru
  refine wpAny_truthy_bool ?_
  have e:bs.getD i true=bs[i]:=by rw[List.getD_eq_getElem?_getD,hb];rfl
  rw[<-e]
  exact hQ
 ·have e:(List.range its.toArray.size).all (λj=>bs.getD j true)=bs.all id:=by
   rw[List.size_toArray,hl]
   exact acF bs
  rw[e]
  exact⟨.bl _,H,I.kept λb o eb=>hk b o (by simp;exact xD (zS eb)) (zD _ eb),rfl,q⟩
noncomputable def R0:Uo:=λds M=>match ds with
 | [d]=>match Gm M d with
  | some es=>match HR es with
   | some k=> .ok (.bl k) M
   | none=> .bad
  | none=> .bad
 | _=> .bad
theorem acq(hc:X.calm=true):tW X ct (.builtin "all") R0:=by
 refine⟨_,Zj hc,λι M H ds vs Q R h p=> ?_⟩
 unfold R0 at p
 split at p
 ·rename_i d
  obtain⟨v,rfl,q⟩:=K6 h
  cases z:Gm M d with
  | none=>rw[z]at p;exact p.elim
  | some es=>
   rw[z]at p
   dsimp only at p
   obtain⟨a,xs,rfl,hs,hd⟩:=R.seq z q
   cases z2:HR es with
   | none=>rw[z2]at p;exact p.elim
   | some k=>
    rw[z2]at p
    obtain⟨bs,rfl,rfl⟩:=Ue z2
    rw[Xr hd]at hs
    exact⟨a,bs,rfl,hs,p ι _ H .refl R (.bl _)⟩
 ·exact p.elim
theorem Zv(bs:List Bool):HR (bs.map D.bl)=some (bs.all id):=by
 induction bs with
 | nil=>rfl
 | cons b r ih=>simp[HR,ih]
theorem RZ{n:Nat}{bs:List Bool}(h:M[n]? = some (.lst (bs.map D.bl))):R0 [.ref n] M= .ok (.bl (bs.all id)) M:=by
 simp only[R0,Gm,dh h,Zv]
end
noncomputable def lu(i:Int):List D->List D
 | []=>[]
 | d::r=> .tup [.int i,d]::lu (i+1) r
theorem N5:∀(i:Int) (ds:List D) (k:Nat),(lu i ds)[k]? = (ds[k]?).map λd=>D.tup [.int (i+k),d]
 | i,[],k=>by simp[lu]
 | i,d::r,0=>by simp[lu]
 | i,d::r,k+1=>by
  simp only[lu,List.getElem?_cons_succ]
  rw[N5 (i+1) r k]
  have:i+1+(k:Int)=i+((k+1:Nat):Int):=()
  rw[this]
theorem iV:∀(i:Int) (ds:List D),(lu i ds).length=ds.length
 | _,[]=>rfl
 | i,_::r=>by simp[lu,iV (i+1) r]
noncomputable def sX(d k:D)(M:Mem):Out Itm:=match k with
 | .int i=>match d with
  | .ref n=>match n_ M n with
   | some ds=> .ok ⟨some (n,ds),lu i ds⟩ M
   | none=> .bad
  | .cl ds=> .ok ⟨none,lu i ds⟩ M
  | .tup ds=> .ok ⟨none,lu i ds⟩ M
  | .mW ds=> .ok ⟨none,lu i ds⟩ M
  | _=> .bad
 | _=> .bad
def aby(ma mb:ME):MI:=λe M=>(ma e M).bind λd M1=>(mb e M1).bind λk M2=>sX d k M2
section
variable{X:Cx}{ct:Nat->Addr}{W:bA}
theorem qi{K:Frag}{Sq:Hp->List V->Prop}{ι:Nat->Addr}{M:Mem}{H:Hp}{xs:List V}{ds:List D}{k:Int}(R:Rl K ct ι M H)(hq:Sq H xs)(hd:h_ K ct ι M.length H ds xs)(i:Nat):
  (∀d,(lu k ds)[i]? = some d->(Ite Sq k).go i H/\∀x H2,(Ite Sq k).X6 i H x H2->Ext K ι M.length H ι M.length H2/\Rl K ct ι M H2/\DV K ct ι M.length H2 d x)/\((lu k ds).length<=i->(Ite Sq k).stop i H):=by
 refine⟨λd e=> ?_,λh=>⟨xs,hq,by rw[hd.length];rw[iV]at h;exact h⟩⟩
 rw[N5]at e
 obtain⟨d0,e0,rfl⟩:=Option.map_eq_some_iff.mp e
 obtain⟨v,hv,dv⟩:=hd.at e0
 refine⟨⟨xs,v,hq,hv⟩,λx H2 y=> ?_⟩
 obtain⟨p,y0,hp,rfl,rfl,hy⟩:=y
 have z:=hy xs hq
 rw[hv]at z
 cases z
 exact⟨Ext.fresh hp,R.fresh hp,.tup bB (.cons (.int _) (.cons (dv.mono (Ext.fresh hp)) .nil))⟩
theorem aar(hg:Gl X "enumerate")(hm:X.mg "enumerate" = none)(ha:SE X ct W a ma)(hb:SE X ct W b mb)
  (he:backTo pos (starEach [a] X.env)=(false,eval a X.env)::backTo pos (starEach [] X.env):=by rfl)
  (hs:starEach [a] X.env=(false,eval a X.env)::starEach [] X.env:=by rfl)
  (hplain:(backTo pos (starEach [a] X.env)).any (·.1)=false:=by rfl)
  (hall:(backToKw pos (keywordEach [⟨some "start",b,kp⟩] X.env)).all (·.1.isSome)=true:=by rfl)
  (hkw:(backToKw pos (keywordEach [⟨some "start",b,kp⟩] X.env)).any (·.1.isNone)=false:=by rfl)
  (hnm:(backToKw pos (keywordEach [⟨some "start",b,kp⟩] X.env)).filterMap (·.1)=[("start" : Str)]:=by rfl):
  SI X ct W (.Tuple es n tp) (.Call (.Name "enumerate" p) [a] [⟨some "start",b,kp⟩] pos) (aby ma mb):=PI.imp (aa1 hg hm ha hb he hs hplain hall hkw hnm) λσ H R q=>by
 obtain⟨ι,e,M,w,p⟩:=bN (dM:=dm X.K ct) (f:=λd e M1=>(mb e M1).bind λk M2=>sX d k M2) q
 refine⟨ι,e,M,w,p.mono ?_⟩
 rintro x H1 ⟨cg,e1,M1,d,w1,q1,p1⟩
 refine⟨cg,e1,M1,w1,?_⟩
 cases z:mb e1 M1 with
 | bad=>simp only[z,Out.cW]at p1;exact p1
 | exc xc xd xM=>simp only[z,Out.gb]at p1;exact p1
 | ok k M2=>
  simp only[z,Out.b_]at p1
  intro gP y H2 x2 r2 q2
  have p2:=p1.ext x2
  have q1:=q1.mono x2
  cases q2 with
  | int i=>
   cases q1 with
   | @ref m hm=>
    simp only[sX]at p2
    cases z0:n_ M2 m with
    | none=>rw[z0]at p2;exact p2.elim
    | some ds=>
     simp only[z0]at p2
     obtain⟨xs,hH,hd⟩:=r2.obj m _ (iU.mp z0)
     refine⟨_,i,rfl,rfl,.inl ⟨⟨xs,pB.of hH⟩,λhz=>p2 gP _ H2 .refl r2 ⟨z0,by rw[iV,<-hd.length];exact hz xs (pB.of hH),λDP M3 H3 x3 r3 ok3 j=> ?_⟩⟩⟩
     obtain⟨xs3,hH3,hd3⟩:=r3.obj m _ (iU.mp ok3)
     rw[<-x3.same m hm]
     exact qi r3 (pB.of hH3) hd3 j
   | cl h1 h2=>exact⟨_,i,rfl,rfl,.inl ⟨⟨_,h1.sq⟩,λhz=>p2 gP _ H2 .refl r2 ⟨trivial,by rw[iV,<-h2.length];exact hz _ h1.sq,λDP M3 H3 x3 r3 ok3 j=>qi (Sq:=λH xs=>pB X.K H _ xs) r3 (x3.lU _ _ h1).sq (h2.mono x3) j⟩⟩⟩
   | tup h1 h2=>exact⟨_,i,rfl,rfl,.inr ⟨⟨_,kO.of h1⟩,λhz=>p2 gP _ H2 .refl r2 ⟨trivial,by rw[iV,<-h2.length];exact hz _ (kO.of h1),λDP M3 H3 x3 r3 ok3 j=>qi (Sq:=λH xs=>kO X.K H _ xs) r3 (kO.of (x3.tup _ _ h1)) (h2.mono x3) j⟩⟩⟩
   | mW h1 h2=>exact⟨_,i,rfl,rfl,.inr ⟨⟨_,.inr h1⟩,λhz=>p2 gP _ H2 .refl r2 ⟨trivial,by rw[iV,<-h2.length];exact hz _ (.inr h1),λDP M3 H3 x3 r3 ok3 j=>qi (Sq:=λH xs=>kO X.K H _ xs) r3 (.inr h1) (h2.mono x3) j⟩⟩⟩
   | _=>exact p2.elim
  | _=>exact p2.elim
@[simp] theorem aj2:aby ma mb e M=(ma e M).bind (bd2 sX mb e):=id rfl
@[simp] theorem ahE:sX (.tup ds) (.int i) M= .ok ⟨none,lu i ds⟩ M:=id rfl
def Vi(ma:ME):MI:=λe M=>(ma e M).bind λd M1=>sX d (.int 0) M1
theorem aas(hg:Gl X "enumerate")(hm:X.mg "enumerate" = none)(ha:SE X ct W a ma)
  (hs:starEach [a] X.env=[(false,eval a X.env)]:=by rfl):
  SI X ct W (.Tuple es n tp) (.Call (.Name "enumerate" p) [a] [] pos) (Vi ma):=PI.imp (aa2 hg hm ha hs) λσ H R q=>by
 obtain⟨ι,e,M,w,p⟩:=bN (dM:=dm X.K ct) (f:=λd _ M1=>sX d (.int 0) M1) q
 refine⟨ι,e,M,w,p.mono ?_⟩
 rintro x H1 ⟨gP,e1,M2,d,w1,q1,p2⟩
 have r2:=w1.rl
 cases q1 with
 | @ref m hm=>
  simp only[sX]at p2
  cases z0:n_ M2 m with
  | none=>rw[z0]at p2;exact p2.elim
  | some ds=>
   simp only[z0]at p2
   obtain⟨xs,hH,hd⟩:=r2.obj m _ (iU.mp z0)
   refine⟨_,rfl,.inl ⟨⟨xs,pB.of hH⟩,λhz=>p2 gP _ H1 .refl r2 ⟨z0,by rw[iV,<-hd.length];exact hz xs (pB.of hH),λDP M3 H3 x3 r3 ok3 j=> ?_⟩⟩⟩
   obtain⟨xs3,hH3,hd3⟩:=r3.obj m _ (iU.mp ok3)
   rw[<-x3.same m hm]
   exact qi r3 (pB.of hH3) hd3 j
 | cl h1 h2=>exact⟨_,rfl,.inl ⟨⟨_,h1.sq⟩,λhz=>p2 gP _ H1 .refl r2 ⟨trivial,by rw[iV,<-h2.length];exact hz _ h1.sq,λDP M3 H3 x3 r3 ok3 j=>qi (Sq:=λH xs=>pB X.K H _ xs) r3 (x3.lU _ _ h1).sq (h2.mono x3) j⟩⟩⟩
 | tup h1 h2=>exact⟨_,rfl,.inr ⟨⟨_,kO.of h1⟩,λhz=>p2 gP _ H1 .refl r2 ⟨trivial,by rw[iV,<-h2.length];exact hz _ (kO.of h1),λDP M3 H3 x3 r3 ok3 j=>qi (Sq:=λH xs=>kO X.K H _ xs) r3 (kO.of (x3.tup _ _ h1)) (h2.mono x3) j⟩⟩⟩
 | mW h1 h2=>exact⟨_,rfl,.inr ⟨⟨_,.inr h1⟩,λhz=>p2 gP _ H1 .refl r2 ⟨trivial,by rw[iV,<-h2.length];exact hz _ (.inr h1),λDP M3 H3 x3 r3 ok3 j=>qi (Sq:=λH xs=>kO X.K H _ xs) r3 (.inr h1) (h2.mono x3) j⟩⟩⟩
 | _=>exact p2.elim
@[simp] theorem aio:Vi ma e M=(ma e M).bind λd M1=>sX d (.int 0) M1:=id rfl
@[simp] theorem ahF:sX (.mW ds) (.int i) M= .ok ⟨none,lu i ds⟩ M:=id rfl
@[simp] theorem ajc:gJ [.mW ds] M= .ok (.int ds.length) M:=id rfl
noncomputable def one(ds:List D)(c:Nat)(e:Sl)(M:Mem):g_:=match ds with
 | [d]=> .exc c d e M
 | _=> .bad
def sRz(c:Nat)(ms:MA):MS:=λe M=>uG e (ms e M) λds M1=>one ds c e M1
theorem aam(Mx:XMk X.K (ct c) f)(hX:Mz X.K (ct c) "at")(F:gw X.prog X.w X.K X.mg X.base VV k f fd ps (Bj X.K "at"))(hr:gm (k+1) X.A)(hb:Binds X.K fd ps [])
  (hg:Gl X x) (hm:X.mg x=some (.ref (ct c))) (hc:X.calm=true) (hW:Tk X W) (ha:SA X ct W [arg] ms) (hdb:(x==("__debug__" : Str))=false:=by decide) (he:starEach [arg] X.env=[(false,eval arg X.env)]:=by rfl):
  SS X ct W (.Raise (some (.Call (.Name x np) [arg] [] cpos)) none pos) (sRz c ms):=PS.imp (aaX Mx hX F hr hb hg hm hc hW ha hdb he) λT σ H q=>by
 obtain⟨ι,e,M,w,p⟩:=uc (rel:=Ij X.K ct) (f:=λds e M1=>one ds c e M1) q
 refine⟨ι,e,M,w,p.mono ?_⟩
 rintro vs H1 ⟨cg,e1,M1,ds,w1,q1,p1⟩
 unfold one at p1
 split at p1
 ·rename_i d
  obtain⟨v,rfl,qv⟩:=K6 q1
  refine⟨v,rfl,λdx hd=> ?_⟩
  have x2:Ext X.K cg M1.length H1 cg M1.length (upd H1 dx (.xd [("at",v)])):=Ext.fresh hd
  exact p1 cg σ dx v _ x2 (w1.ext x2 (w1.rl.fresh hd)) bB (qv.mono x2)
 ·exact p1.elim
def XX(K:Frag)(ct:Nat->Addr)(cv:Value):List (Nat×Bool)->Prop
 | []=>True
 | (c,b)::r=>exmOne K (.ref (ct c)) cv=some b/\XX K ct cv r
theorem XX.get{K:Frag}{cv:Value}:∀{cl:List (Nat×Bool)} {c:Nat} {b:Bool},XX K ct cv cl->cl.lookup c=some b->exmOne K (.ref (ct c)) cv=some b
 | [],_,_,_,h=>by simp at h
 | (k,b')::r,c,b,⟨h1,h2⟩,h=>by
  rw[List.lookup_cons]at h
  cases z:c==k with
  | true=>rw[z]at h;cases h;cases(beq_iff_eq.mp z);exact h1
  | false=>rw[z]at h;exact h2.get h
noncomputable def g_.WT(o:g_):g_:=match o with
 | .exc _ _ _ _=> .bad
 | o=>o
noncomputable def Z6(cl:List (Nat×Bool))(h:Nat->D->Sl->Mem->g_)(o:g_):g_:=match o with
 | .exc c d e M=>match cl.lookup c with
  | some true=>h c d e M
  | some false=> .exc c d e M
  | none=> .bad
 | o=>o
def adm(cl:List (Nat×Bool))(b s:MS):MS:=λe M=>Z6 cl (λ_ _ e' M'=>(s e' M').WT) (b e M)
theorem v_.WT{K:Frag}{ι:Nat->Addr}{n:Nat}{H:Hp}{o:g_}{T:Ends}(h:v_ K ct W ι n H o.WT T):v_ K ct W0 ι n H o T:=by
 cases o with
 | exc c d e M=>exact False.elim h
 | next e M=>exact h
 | ret e M=>exact h
 | brk e M=>exact h
 | cont e M=>exact h
 | bad=>exact h
variable{c:Str}{cp hpos pos:Pos}{b₀:Stmt}{suite body:List Stmt}{b s:MS}{cl:List (Nat×Bool)}{cv:Value}{v:V}
theorem af1(hst:X.stack=X.env::X.outer)(hf:X.env.frame=some X.env.locals)(hx:Tk X W)(hv:∀u,RelV v u->u=cv)(hn:∀e,PE (X.held e) (.Name c cp) (tC v))(hm:XX X.K ct cv cl)
  (hb:∀pins W1,ZF ((X.pp pins).wish (ig (X.pp pins) W1)) ct W1 body b) (hs:∀e,ZF (X.held e) ct W0 (b₀::suite) s):
  SS X ct W (.Try body [.ExceptHandler (some (.Name c cp)) none (b₀::suite) hpos] [] [] pos) (adm cl b s):=
 PS.imp (adH (tb:=λW1=>tS X.K ct W1 b) (ts:=tS X.K ct W0 s) hst hf hx hv hn hb hs) λT σ H ⟨ι,e,M,w,p⟩=>by
  refine⟨ι,e,M,w,?_⟩
  unfold adm at p
  cases z:b e M with
  | exc xc xd xe xM=>
   rw[z]at p
   simp only[Z6]at p
   cases z2:cl.lookup xc with
   | none=>simp only[z2]at p;exact p.elim
   | some k=>
    simp only[z2]at p
    have e2:=hm.get z2
    cases k with
    | false=>exact λι' σ' dx v' H' x w' q1 q2=>⟨false,e2,p ι' σ' dx v' H' x w' q1 q2⟩
    | true=>exact λι' σ' dx v' H' x w' q1 q2=>⟨true,e2,ι',xe,xM,w',(v_.WT p).ext x⟩
  | next _ _=>rw[z]at p;exact p
  | ret _ _=>rw[z]at p;exact p
  | brk _ _=>rw[z]at p;exact p
  | cont _ _=>rw[z]at p;exact p
  | bad=>rw[z]at p;exact p
end
section
variable{e:Sl}{M:Mem}{c:Nat}{d:D}
@[simp] theorem amA:sRz c ms e M=uG e (ms e M) λds M1=>one ds c e M1:=id rfl
@[simp] theorem ali:adm cl b s e M=Z6 cl (λ_ _ e' M'=>(s e' M').WT) (b e M):=id rfl
@[simp] theorem ajN:(g_.next e M).WT= .next e M:=id rfl
end
section
variable{X:Cx}{ct:Nat->Addr}{W:bA}{pos:Pos}
def uv:ME:=λ_ M=> .ok (.ref M.length) (M++[.dk []])
theorem lD:SE X ct W (.Dict [] [] pos) uv:=dU aa_ λσ H Q ⟨ι,e,M,w,p⟩ pp hp=>by
 have el:(M++[MO.dk []]).length=M.length+1:=by simp
 have x:Ext X.K ι M.length H (jy ι M.length pp) (M.length+1) (upd H pp (.dK [])):=Ext.new hp
 have e0:(jy ι M.length pp) M.length=pp:=by unfold jy;rw[if_pos rfl]
 have dv:DV X.K ct (jy ι M.length pp) (M++[MO.dk []]).length (upd H pp (.dK [])) (.ref M.length) (.ref pp):=by
  have:=DV.ref (K:=X.K) (ct:=ct) (ι:=jy ι M.length pp) (n:=(M++[MO.dk []]).length) (H:=upd H pp (.dK [])) (i:=M.length) (by rw[el];omega)
  rw[e0]at this
  exact this
 exact p (jy ι M.length pp) (.ref pp) _ (by rw[el];exact x) (w.rl.new hp ⟨[],bB,.nil⟩) dv
noncomputable def sV(d:D)(M:Mem):Bool:=match d with
 | .ref n=>match M[n]? with
  | some (.dk _)=>true
  | some (.dt _)=>true
  | _=>false
 | _=>false
theorem Tq{K:Frag}{ι:Nat->Addr}{M:Mem}{H:Hp}{d:D}{v:V}(R:Rl K ct ι M H)(h:sV d M=true)(q:DV K ct ι M.length H d v):∃n,d= .ref n/\n<M.length/\v= .ref (ι n)/\IsD H (ι n):=by
 cases d with
 | ref n=>
  obtain⟨hn,rfl⟩:=oX q
  refine⟨n,rfl,hn,rfl,?_⟩
  unfold sV at h
  dsimp only at h
  split at h
  ·rename_i kvs e
   obtain⟨vs,hH,_⟩:=R.obj n _ e
   exact .inl ⟨vs,.inl hH⟩
  ·rename_i kvs e
   obtain⟨vs,hH,_⟩:=R.obj n _ e
   exact .inr ⟨vs,.inl hH⟩
  ·cases h
 | _=>exact absurd h xA
noncomputable def Di(d k x:D)(M:Mem):Out D:=match d with
 | .ref n=>match BV M n k with
  | some (some v,M')=> .ok v M'
  | some (none,M')=> .ok x M'
  | none=> .bad
 | _=> .bad
noncomputable def Cj(mo mk mx:ME):ME:=λe M=>(mo e M).bind λd M1=>if sV d M1=true then(mk e M1).bind λk M2=>(mx e M2).bind λx M3=>Di d k x M3 else .bad
noncomputable def W2(mo mk:ME):ME:=λe M=>(mo e M).bind λd M1=>if sV d M1=true then(mk e M1).bind λk M2=>Di d k .non M2 else .bad
theorem Xk(R:Rl X.K ct ι M H)(hn:n<M.length)(qk:DV X.K ct ι M.length H k vk)(qx:DV X.K ct ι M.length H x vx)(p:gq (dm X.K ct) X.K ct w ι M.length H (Di (.ref n) k x M) Q):
  ∃o H',VP H (ι n) vk o H'/\Q (o.getD vx) H':=by
 simp only[Di]at p
 split at p
 ·rename_i v M' e
  obtain⟨ov,H',g,x2,R',h1,_⟩:=Jp R e hn qk
  obtain⟨u,rfl,dv,_,_⟩:=h1 v rfl
  exact⟨_,H',g,p ι u H' x2 R' dv⟩
 ·rename_i M' e
  obtain⟨ov,H',g,x2,R',_,h2⟩:=Jp R e hn qk
  have:=h2 rfl
  subst this
  exact⟨_,H',g,p ι vx H' x2 R' (qx.mono x2)⟩
 ·exact p.elim
variable{o e f i value:Expr}{mo mk mx mv:ME}{apos cpos pos':Pos}
theorem ud(hu:X.A.units+64<cLine)(ho:SE X ct W o mo)(he:SE X ct W e mk)(hf:SE X ct W f mx)
  (base:attributeBase o "get" X.env (eval o X.env)=eval o X.env:=by rfl)
  (few:((backTo cpos (starEach [e,f] X.env)).all (λx=> !x.1)&&(backToKw cpos (keywordEach [] X.env)).all (λx=>x.1.isSome)
   && decide (([e,f]:List Expr).length+([]:List Keyword).length+(if([]:List Keyword).isEmpty then 0 else 1)<30))=true:=by rfl)
  (line:(apos.endLine==cpos.line)=true:=by rfl) (trees:backTo cpos (starEach [e,f] X.env)=[(false,eval e X.env),(false,eval f X.env)]:=by rfl):
  SE X ct W (.Call (.Attribute o "get" apos) [e,f] [] cpos) (Cj mo mk mx):=dU (aa8 () ho he hf ⟨base,few,line,trees⟩) λσ H Q q=>by
 obtain⟨ι,e,M,w,p⟩:=bN (dM:=dm X.K ct) (f:=λd e M1=>if sV d M1=true then(mk e M1).bind λk M2=>(mx e M2).bind λx M3=>Di d k x M3 else .bad) q
 refine⟨ι,e,M,w,p.mono ?_⟩
 rintro v H1 ⟨cg,e1,M1,d,w1,q1,p1⟩
 cases z:sV d M1 with
 | false=>simp only[z,Bool.false_eq_true,if_false]at p1;exact p1.elim
 | true=>
  simp only[z,if_true]at p1
  obtain⟨n,rfl,hn,rfl,hD⟩:=Tq w1.rl z q1
  refine⟨_,rfl,hD,cg,e1,M1,w1,?_⟩
  cases z2:mk e1 M1 with
  | bad=>simp only[z2,Out.cW]at p1;exact p1
  | exc xc xd xM=>simp only[z2,Out.gb]at p1;exact p1
  | ok k M2=>
   simp only[z2,Out.b_]at p1
   intro gP vk H2 x2 r2 q2
   refine⟨gP,e1,M2,w1.ext x2 r2,?_⟩
   have p2:=p1.ext x2
   cases z3:mx e1 M2 with
   | bad=>simp only[z3,Out.cW]at p2;exact p2
   | exc xc xd xM=>simp only[z3,Out.gb]at p2;exact p2
   | ok x M3=>
    simp only[z3,Out.b_]at p2
    intro DP vx H3 x3 r3 q3
    have:=Xk r3 (yA (yA hn x2.le) x3.le) (q2.mono x3) q3 (p2.ext x3)
    rw[<-x2.same n hn,<-x3.same n (yA hn x2.le)]
    exact this
theorem Wg(hu:X.A.units+64<cLine)(ho:SE X ct W o mo)(he:SE X ct W e mk)
  (base:attributeBase o "get" X.env (eval o X.env)=eval o X.env:=by rfl)
  (few:((backTo cpos (starEach [e] X.env)).all (λx=> !x.1)&&(backToKw cpos (keywordEach [] X.env)).all (λx=>x.1.isSome)
   && decide (([e]:List Expr).length+([]:List Keyword).length+(if([]:List Keyword).isEmpty then 0 else 1)<30))=true:=by rfl)
  (line:(apos.endLine==cpos.line)=true:=by rfl) (trees:backTo cpos (starEach [e] X.env)=[(false,eval e X.env)]:=by rfl):
  SE X ct W (.Call (.Attribute o "get" apos) [e] [] cpos) (W2 mo mk):=dU (aa9 () ho he ⟨base,few,line,trees⟩) λσ H Q q=>by
 obtain⟨ι,e,M,w,p⟩:=bN (dM:=dm X.K ct) (f:=λd e M1=>if sV d M1=true then(mk e M1).bind λk M2=>Di d k .non M2 else .bad) q
 refine⟨ι,e,M,w,p.mono ?_⟩
 rintro v H1 ⟨cg,e1,M1,d,w1,q1,p1⟩
 cases z:sV d M1 with
 | false=>simp only[z,Bool.false_eq_true,if_false]at p1;exact p1.elim
 | true=>
  simp only[z,if_true]at p1
  obtain⟨n,rfl,hn,rfl,hD⟩:=Tq w1.rl z q1
  refine⟨_,rfl,hD,cg,e1,M1,w1,?_⟩
  cases z2:mk e1 M1 with
  | bad=>simp only[z2,Out.cW]at p1;exact p1
  | exc xc xd xM=>simp only[z2,Out.gb]at p1;exact p1
  | ok k M2=>
   simp only[z2,Out.b_]at p1
   intro gP vk H2 x2 r2 q2
   have:=Xk r2 (yA hn x2.le) q2 .non (p1.ext x2)
   rw[<-x2.same n hn]
   exact this
noncomputable def FT(M:Mem)(o k d:D):Option Mem:=match o with
 | .ref n=>match M[n]? with
  | some (.dk kvs)=>match toKey k with
   | some kk=>if kvs.length<sizeLine then some (M.set n (.dk (Yp kvs kk d)))else none
   | none=>match k with
    | .tup ds=>match toKeys ds with
     | some ks=>if kvs.isEmpty=true then some (M.set n (.dt [(ks,d)]))else none
     | none=>none
    | _=>none
  | some (.dt kvs)=>match k with
   | .tup ds=>match toKeys ds with
    | some ks=>if kvs.length<sizeLine then some (M.set n (.dt (Yp kvs ks d)))else none
    | none=>none
   | _=>none
  | _=>none
 | _=>none
theorem aez(R:Rl X.K ct ι M H)(h:FT M (.ref n) k d=some M')(hn:n<M.length)(qk:DV X.K ct ι M.length H k vk)(qd:DV X.K ct ι M.length H d vd):
  ∃H',ak5 H (ι n) vk vd H'/\Ext X.K ι M.length H ι M'.length H'/\Rl X.K ct ι M' H':=by
 simp only[FT]at h
 split at h
 ·rename_i kvs e
  obtain⟨vs,hH,pv⟩:=R.obj n _ e
  split at h
  ·rename_i kk ek
   split at h
   ·rename_i hz
    cases h
    have:=JG ek qk
    subst this
    have x2:Ext X.K ι M.length H ι M.length (upd H (ι n) (.dK (putK vs kk vd))):=Ext.chg hH (λ_ z=>nomatch z) (λ_ _ z=>nomatch z)
    exact⟨_,.inl (Q6.k hH (by rw[pv.length];exact hz)),by rw[List.length_set];exact x2,R.chg hn hH (λ_ z=>nomatch z) (λ_ _ z=>nomatch z) ⟨_,bB,(pv.put qd kk).mono x2⟩⟩
   ·cases h
  ·split at h
   ·rename_i ds
    split at h
    ·rename_i ks eks
     split at h
     ·rename_i hem
      cases h
      have ek:kvs=[]:=List.isEmpty_iff.mp hem
      subst ek
      cases pv
      obtain⟨b,xs,rfl,hb,hd⟩:=lK qk
      have ex:=vm eks hd
      subst ex
      have x2:Ext X.K ι M.length H ι M.length (upd H (ι n) (.dT [(ks,vd)])):=Ext.chg hH (λ_ z=>nomatch z) (λ_ _ z=>nomatch z)
      exact⟨_,.inr ⟨ks,b,hH,rfl,hb,rfl⟩,by rw[List.length_set];exact x2,R.chg hn hH (λ_ z=>nomatch z) (λ_ _ z=>nomatch z) ⟨_,bB,.cons (qd.mono x2) .nil⟩⟩
     ·cases h
    ·cases h
   ·cases h
 ·rename_i kvs e
  obtain⟨vs,hH,pv⟩:=R.obj n _ e
  split at h
  ·rename_i ds
   split at h
   ·rename_i ks eks
    split at h
    ·rename_i hz
     cases h
     obtain⟨b,xs,rfl,hb,hd⟩:=lK qk
     have ex:=vm eks hd
     subst ex
     have x2:Ext X.K ι M.length H ι M.length (upd H (ι n) (.dT (putK vs ks vd))):=Ext.chg hH (λ_ z=>nomatch z) (λ_ _ z=>nomatch z)
     exact⟨_,.inl (Q6.t hH hb (by rw[pv.length];exact hz)),by rw[List.length_set];exact x2,R.chg hn hH (λ_ z=>nomatch z) (λ_ _ z=>nomatch z) ⟨_,bB,(pv.put qd ks).mono x2⟩⟩
    ·cases h
   ·cases h
  ·cases h
 ·cases h
noncomputable def oF(mo mk mv:ME):MS:=λe M=>uG e (mv e M) λd M1=>uG e (mo e M1) λo M2=>uG e (mk e M2) λk M3=>SQ (FT M3 o k d) e
theorem mY(hu:X.A.units+64<cLine)(ho:SE X ct W o mo)(hi:SE X ct W i mk)(hv:SE X ct W value mv)(hs:swapsWith value (some (.Subscript o i pos')) pos.line X.env=pure false:=by rfl):
  SS X ct W (.Assign [.Subscript o i pos'] value pos) (oF mo mk mv):=PS.imp (adL () ho hi hv hs) λT σ H q=>by
 obtain⟨ι,e,M,w,p⟩:=uc (rel:=dm X.K ct) (f:=λd e M1=>uG e (mo e M1) λo M2=>uG e (mk e M2) λk M3=>SQ (FT M3 o k d) e) q
 refine⟨ι,e,M,w,p.mono ?_⟩
 rintro vd H1 ⟨cg,e1,M1,d,w1,q1,p1⟩
 refine⟨cg,e1,M1,w1,?_⟩
 cases z:mo e1 M1 with
 | bad=>simp only[z,Jg]at p1;exact p1
 | exc xc xd xM=>simp only[z,Jf]at p1;exact λgP dx v H2 x r q1 q2=>p1 gP σ dx v H2 x (w1.ext x r) q1 q2
 | ok o' M2=>
  simp only[z,Pz]at p1
  intro gP vo H2 x2 r2 q2
  have p2:=p1.ext x2
  have w2:=w1.ext x2 r2
  refine⟨gP,e1,M2,w2,?_⟩
  cases z2:mk e1 M2 with
  | bad=>simp only[z2,Jg]at p2;exact p2
  | exc xc xd xM=>simp only[z2,Jf]at p2;exact λDP dx v H3 x r q1 q2=>p2 DP σ dx v H3 x (w2.ext x r) q1 q2
  | ok k M3=>
   simp only[z2,Pz]at p2
   intro DP vk H3 x3 r3 q3
   have p3:=p2.ext x3
   have w3:=w2.ext x3 r3
   cases z3:FT M3 o' k d with
   | none=>rw[z3]at p3;exact p3.elim
   | some M4=>
    rw[z3]at p3
    cases o' with
    | ref n=>
     obtain⟨hn,rfl⟩:=oX q2
     have hn3:n<M3.length:=yA hn x3.le
     obtain⟨H4,g,x4,r4⟩:=aez r3 z3 hn3 q3 ((q1.mono x2).mono x3)
     refine⟨_,H4,rfl,?_,p3 DP σ H4 x4 (w3.ext x4 r4)⟩
     rw[<-x3.same n hn]
     exact g
    | _=>simp only[FT]at z3;cases z3
end
section
variable{e:Sl}{M:Mem}
@[simp] theorem aj3:uv e M= .ok (.ref M.length) (M++[.dk []]):=id rfl
def gt3(mx:ME)(e:Sl)(d k:D)(M:Mem):Out D:=(mx e M).bind (Di d k)
@[simp] theorem anx:gt3 mx e d k M=(mx e M).bind (Di d k):=id rfl
def gt2(f:D->D->Mem->Out D)(mk:ME)(e:Sl)(d:D)(M:Mem):Out D:=if sV d M=true then(mk e M).bind (f d)else .bad
@[simp] theorem anz:gt2 f mk e d M=if sV d M=true then(mk e M).bind (f d)else .bad:=id rfl
@[simp] theorem aj0:Cj mo mk mx e M=(mo e M).bind (gt2 (gt3 mx e) mk e):=id rfl
def gt1(d k:D)(M:Mem):Out D:=Di d k .non M
@[simp] theorem anB:gt1 d k M=Di d k .non M:=id rfl
@[simp] theorem aj1:W2 mo mk e M=(mo e M).bind (gt2 gt1 mk e):=id rfl
def ds3(p:Mem->D->D->D->Option Mem)(e:Sl)(d o k:D)(M:Mem):g_:=SQ (p M o k d) e
@[simp] theorem anO:ds3 p e d o k M=SQ (p M o k d) e:=id rfl
def ds2(p:Mem->D->D->D->Option Mem)(mk:ME)(e:Sl)(d o:D)(M:Mem):g_:=uG e (mk e M) (ds3 p e d o)
@[simp] theorem anQ:ds2 p mk e d o M=uG e (mk e M) (ds3 p e d o):=id rfl
@[simp] theorem aie:oF mo mk mv e M=uG e (mv e M) (fl1 (ds2 FT mk e) mo e):=id rfl
theorem xK(h:M[n]? = some (.dk kvs)):sV (.ref n) M=true:=by simp only[sV,h]
theorem aen(h:M[n]? = some (.dt kvs)):sV (.ref n) M=true:=by simp only[sV,h]
theorem QD(h:M[n]? = some (.dk kvs)):BV M n (.int s)=some (uB kvs (.inl s),M):=by simp only[BV,h,toKey]
theorem ahO(h:M[n]? = some (.dt kvs))(hk:toKeys ds=some ks):BV M n (.tup ds)=some (uB kvs ks,M):=by simp only[BV,h,hk]
theorem ahP(h:M[n]? = some (.dk []))(hk:toKeys ds=some ks):BV M n (.tup ds)=some (none,M.set n (.dt [])):=by simp only[BV,h,hk,toKey];rfl
end
end S
namespace S
open PySem L2
variable{M:Mem}
theorem aaJ(h:a.length+b.length<=16777216):rQ (.str a) (.str b) M= .ok (.str (a++b)) M:=by
 refine(p_ rfl).trans (iz ?_)
 simp only[Wn]
 rw[if_pos (by rw[Bq];exact h)]
theorem ado(h0:0<=k)(h:a.cps.toList[k.toNat]? = some c)(hl:a.length<=16777216):bh (.str a) (.int k) M= .ok (.str ⟨#[c]⟩) M:=by
 refine(p_ rfl).trans ?_
 simp only[adq,QW h0,h]
 rw[if_pos (by rw[Bq];exact hl)]
theorem Uk{a b:Str}:(a++b).length=a.length+b.length:=by
 show(a.cps++b.cps).size=_
 rw[Array.size_append];rfl
end S
namespace S
open PySem PySem.Spec PyProof.Rows L2
section
variable{X:Cx}{ct:Nat->Addr}{W:bA}{pos:Pos}
def afI(K:Frag)(ct ι:Nat->Addr)(M:Mem)(H:Hp)(n:Nat)(σ:St)(o:Option Sl)(Q:St->Hp->Prop):Prop:=match o with
 | some e'=>∀σ',Ws K ct ι e' M σ' H->(σ'.length=σ.length/\σ'.drop n=σ.drop n)->Q σ' H
 | none=>False
def tTN(K:Frag)(ct:Nat->Addr)(n:Nat)(g:Tg):TG:=λv σ H Q=>∃ι e M d,Ws K ct ι e M σ H/\DV K ct ι M.length H d v/\afI K ct ι M H n σ (g d e) Q
def amj(K:Frag)(ct:Nat->Addr)(n:Nat)(g:Tgs):TGs:=λvs σ H Q=>∃ι e M ds,Ws K ct ι e M σ H/\h_ K ct ι M.length H ds vs/\afI K ct ι M H n σ (g ds e) Q
def SN(X:Cx)(ct:Nat->Addr)(n:Nat)(tg:Expr)(g:Tg):Prop:=PG X tg (tTN X.K ct n g)
def SNs(X:Cx)(ct:Nat->Addr)(n:Nat)(tg:List Expr)(g:Tgs):Prop:=Zx X tg (amj X.K ct n g)
theorem Wf(hN:X.N.Nodup)(hi:X.N[i]? = some x)(hx:Loc X.env.scope x)(hin:i<n)(hf:X.fn x=true\/X.env.scope.names.lookup x=some .local:=by first | exact .inl rfl | exact .inr rfl | assumption):SN X ct n (.Name x pos) (gN i):=
 PG.imp (Pj hN hi hx hf) λv σ H Q ⟨ι,e,M,d,w,q,p⟩=>p _ (w.set i q) ⟨List.length_set,List.drop_set_of_lt hin⟩
theorem ada{n:Nat}:SNs X ct n [] vW:=Zx.imp WK λvs σ H Q ⟨ι,e,M,ds,w,q,p⟩=>by
 cases q with
 | nil=>exact⟨rfl,p σ w ⟨rfl,rfl⟩⟩
 | cons _ _=>exact p.elim
theorem RB{n:Nat}{es:List Expr}(h1:SN X ct n a g)(h2:SNs X ct n es gs)
  (hs:(assignEach (a::es) X.env).map (·.2)=assign a X.env::(assignEach es X.env).map (·.2):=by rfl):SNs X ct n (a::es) (d8 g gs):=Zx.imp (R8 h1 h2 hs) λvs σ H Q ⟨ι,e,M,ds,w,q,p⟩=>by
 cases q with
 | nil=>exact p.elim
 | @cons d x ds xs h hs=>
  refine⟨x,xs,rfl,ι,e,M,d,w,h,?_⟩
  simp only[d8]at p
  cases z:g d e with
  | none=>rw[z]at p;exact p.elim
  | some e'=>
   rw[z]at p
   refine λσ' w' hd=>⟨ι,e',M,ds,w',hs,?_⟩
   simp only[Option.bind_some]at p
   cases z2:gs ds e' with
   | none=>rw[z2]at p;exact p.elim
   | some e2=>rw[z2]at p;exact λσ2 w2 hd2=>p σ2 w2 ⟨hd2.1.trans hd.1,hd2.2.trans hd.2⟩
theorem af3(hc:X.calm=true)(h:SNs X ct m es gs)
  (hn:(assignEach es X.env).length=n:=by rfl) (hst:(assignEach es X.env).findIdx? (·.1)=none:=by rfl):SN X ct m (.Tuple es k pos) (gT n gs):=PG.imp (aa3 hc h hn hst) λv σ H Q ⟨ι,e,M,d,w,q,p⟩=>by
 cases q with
 | @tup a xs ds hs hd=>
  simp only[gT]at p
  split at p
  ·rename_i hl
   exact⟨a,xs,rfl,kO.of hs,by rw[hd.length];exact hl,ι,e,M,ds,w,hd,p⟩
  ·exact p.elim
 | _=>exact p.elim
def Fd(n:Nat):Sl:=List.replicate n none
noncomputable def Cy(src:Option (Nat×List D))(g:Tg)(n:Nat)(tt:MT)(te:ME)(ce:Sl):List D->List D->Mem->Out D
 | [],ys,M=>if ir src M then .ok (.ref M.length) (M++[.lst ys])else .bad
 | d::ds,ys,M=>if ir src M then match g d (Fd n++ce)with
   | some e1=>(tt e1 M).WT.bind λk M1=>if k=true then(te e1 M1).WT.bind λy M2=>Cy src g n tt te ce ds (ys++[y]) M2 else Cy src g n tt te ce ds ys M1
   | none=> .bad
  else .bad
theorem Ws.akD{K:Frag}{ι:Nat->Addr}{e:Sl}{M:Mem}{σ:St}{H:Hp}(w:Ws K ct ι e M σ H)(xs:List Str)(js:List Nat):Ws K ct ι (Fd xs.length++ql js e) M (Hh xs++L2.caps js σ) H:=by
 refine⟨w.rl,by simp[ql,L2.caps,Fd,Hh],λi x hx=> ?_⟩
 rcases Nat.lt_or_ge i xs.length with q | q
 ·rw[zae (by simpa[Fd]using q)]at hx
  simp[Fd,q]at hx
 ·rw[zad (by simpa[Fd]using q)]at hx
  rw[zad (by simpa[Hh]using q)]
  have l1:(Fd xs.length).length=xs.length:=by simp[Fd]
  have l2:(Hh xs).length=xs.length:=by simp[Hh]
  rw[l1]at hx
  rw[l2]
  simp only[ql,zan]at hx
  obtain⟨j,hj,ej⟩:=Option.map_eq_some_iff.mp hx
  cases z:e[j]? with
  | none=>rw[z]at ej;cases ej
  | some o=>
   rw[z]at ej
   cases(show o=some x from ej)
   obtain⟨u,hu,du⟩:=w.env j x z
   refine⟨u,?_,du⟩
   simp only[L2.caps,zan,hj,Option.map_some,hu]
   rfl
variable{tg elt iter:Expr}{ifs:List Expr}{scope:Scope}{mi:MI}{g:Tg}{tt:MT}{te:ME}
end
theorem N8(c:D->Bool)(f:D->D):∀{ds ys:List D},ir src M->(∀d∈ds,∃e1,g d (Fd n++ce)=some e1/\tt e1 M= .ok (c d) M/\(c d=true->te e1 M= .ok (f d) M))->
  Cy src g n tt te ce ds ys M= .ok (.ref M.length) (M++[.lst (ys++(ds.filter c).map f)])
 | [],ys,hs,_=>by unfold Cy;rw[if_pos hs];simp
 | d::ds,ys,hs,h=>by
  unfold Cy
  rw[if_pos hs]
  obtain⟨e1,h1,h2,h3⟩:=h d xB
  have ih:=λys=>N8 (src:=src) (g:=g) (n:=n) (tt:=tt) (te:=te) (ce:=ce) (M:=M) c f (ds:=ds) (ys:=ys) hs λd' hd'=>h d' (yT _ hd')
  rw[h1]
  simp only[h2,w6,Out.b_]
  cases z:c d with
  | true=>simp[h3 z,ih,z]
  | false=>simp[ih,z]
end S
namespace S
theorem Zk:PySem.bootBuiltins "sorted" = some (.builtin "sorted"):=by rfl
open PySem PySem.Spec PyProof.Rows L2
noncomputable def gH:D->Option (List Int×Nat)
 | .int i=>some ([i],0)
 | .str s=>some (Rp s,1)
 | .tup ds=>(jk ds).map λis=>(is,is.length+2)
 | _=>none
noncomputable def m5:List D->Option (List Int×List Nat)
 | []=>some ([],[])
 | d::ds=>match gH d,m5 ds with
  | some p,some q=>some (p.1++q.1,p.2::q.2)
  | _,_=>none
def R4:D->Option (List Int×List Nat)
 | .tup ds=>m5 ds
 | _=>none
def qt(d:D):List Int:=match gH d with
 | some p=>p.1
 | none=>match R4 d with
  | some p=>p.1
  | none=>[]
def Y7(d:D):List D->List D
 | []=>[d]
 | x::l=>if HT.lexLt (qt x) (qt d)=true then x::Y7 d l else d::x::l
def Ig:List D->List D
 | []=>[]
 | d::l=>Y7 d (Ig l)
abbrev UpD(l:List D):Prop:=l.Pairwise λa b=>HT.lexLt (qt b) (qt a)=false
theorem GC(d:D):∀l:List D,(Y7 d l).Perm (d::l)
 | []=>List.Perm.refl _
 | x::l=>by
  unfold Y7
  split
  ·exact((GC d l).cons x).trans (List.Perm.swap d x l)
  ·exact List.Perm.refl _
theorem vq:∀l:List D,(Ig l).Perm l
 | []=>List.Perm.refl _
 | d::l=>(GC d _).trans ((vq l).cons d)
theorem Xf(d:D):∀{l:List D},UpD l->UpD (Y7 d l)
 | [],_=>List.pairwise_singleton _ _
 | x::l,h=>by
  rw[UpD,List.pairwise_cons]at h
  unfold Y7
  split
  ·rename_i hx
   rw[UpD,List.pairwise_cons]
   refine⟨λy hy=> ?_,Xf d h.2⟩
   rcases List.mem_cons.mp ((GC d l).mem_iff.mp hy)with rfl | hy
   ·exact KeyOrd.kle_of_klt (O:=abD) hx
   ·exact h.1 y hy
  ·rename_i hx
   rw[UpD,List.pairwise_cons]
   have hx':HT.lexLt (qt x) (qt d)=false:=by simpa using hx
   refine⟨λy hy=> ?_,List.pairwise_cons.mpr h⟩
   rcases List.mem_cons.mp hy with rfl | hy
   ·exact hx'
   ·exact KeyOrd.kle_trans (O:=abD) (a:=qt d) (b:=qt x) (c:=qt y) hx' (h.1 y hy)
theorem Wd:∀l:List D,UpD (Ig l)
 | []=>List.Pairwise.nil
 | d::l=>Xf d (Wd l)
theorem MP:∀{l m:List D},UpD l->UpD m->l.Perm m->(∀a∈l,∀b∈l,qt a=qt b->a=b)->l=m
 | [],m,_,_,p,_=>by have:=p.length_eq;cases m with
  | nil=>rfl
  | cons _ _=>simp at this
 | a::l,[],_,_,p,_=>by have:=p.length_eq;simp at this
 | a::l,b::m,h,h',p,k=>by
  rw[UpD,List.pairwise_cons]at h h'
  have hb:b∈a::l:=p.mem_iff.mpr xB
  have ha:a∈b::m:=p.mem_iff.mp xB
  have e:a=b:=by
   rcases List.mem_cons.mp hb with q | q
   ·exact q.symm
   ·rcases List.mem_cons.mp ha with r | r
    ·exact r
    ·exact k a xB b hb (z_ _ _ (h'.1 a r) (h.1 b q))
  subst e
  rw[MP h.2 h'.2 ((List.perm_cons a).mp p) λx hx y hy=>k x (yT _ hx) y (yT _ hy)]
theorem ac_(hm:UpD m)(p:l.Perm m)(k:∀a∈l,∀b∈l,qt a=qt b->a=b):Ig l=m:=
 MP (Wd l) hm ((vq l).trans p) λa ha b hb=>k a ((vq l).mem_iff.mp ha) b ((vq l).mem_iff.mp hb)
theorem Ro:∀{a b:List Nat} {r r':List Int},a.map Int.ofNat++[-1]++r=b.map Int.ofNat++[-1]++r'->a=b/\r=r'
 | [],[],r,r',h=>by simpa using h
 | [],y::b,r,r',h=>by
  simp at h
 | x::a,[],r,r',h=>by
  simp at h
 | x::a,y::b,r,r',h=>by
  simp only[List.map_cons,List.cons_append]at h
  injection h with h1 h2
  obtain⟨e1,e2⟩:=Ro h2
  have:x=y:=Int.ofNat.inj h1
  exact⟨by rw[this,e1],e2⟩
theorem t8:∀{ds:List D} {is:List Int},jk ds=some is->ds=is.map D.int
 | [],is,h=>by cases h;rfl
 | d::r,is,h=>by
  cases d with
  | int i=>
   simp only[jk]at h
   obtain⟨js,h1,rfl⟩:=Option.map_eq_some_iff.mp h
   rw[t8 h1];rfl
  | _=>simp[jk]at h
theorem Sd(h:gH d=some (c,k))(h':gH d'=some (c',k))(e:c++r=c'++r'):d=d'/\r=r':=by
 cases d with
 | int i=>
  cases d' with
  | int j=>simp only[gH]at h h';cases h;cases h';simp at e;exact⟨by rw[e.1],e.2⟩
  | str s=>simp only[gH]at h h';cases h;cases h'
  | tup ds=>simp only[gH]at h h';cases h;obtain⟨is,_,q⟩:=Option.map_eq_some_iff.mp h';simp at q
  | _=>simp[gH]at h'
 | str s=>
  cases d' with
  | int j=>simp only[gH]at h h';cases h;cases h'
  | str s'=>
   simp only[gH]at h h'
   cases h;cases h'
   obtain⟨e1,e2⟩:=Ro e
   refine⟨?_,e2⟩
   cases s;cases s'
   simp at e1
   rw[e1]
  | tup ds=>simp only[gH]at h h';cases h;obtain⟨is,_,q⟩:=Option.map_eq_some_iff.mp h';simp at q
  | _=>simp[gH]at h'
 | tup ds=>
  simp only[gH]at h
  obtain⟨is,hi,q⟩:=Option.map_eq_some_iff.mp h
  simp at q
  obtain⟨rfl,rfl⟩:=q
  cases d' with
  | int j=>simp[gH]at h'
  | str s=>simp[gH]at h'
  | tup ds'=>
   simp only[gH]at h'
   obtain⟨js,hj,q⟩:=Option.map_eq_some_iff.mp h'
   simp at q
   obtain⟨rfl,ek⟩:=q
   obtain⟨e1,e2⟩:=List.append_inj e ek.symm
   rw[t8 hi,t8 hj,e1]
   exact⟨rfl,e2⟩
  | _=>simp[gH]at h'
 | _=>simp[gH]at h
theorem Nq:∀{ds ds':List D} {c:List Int} {ks:List Nat},m5 ds=some (c,ks)->m5 ds'=some (c,ks)->ds=ds'
 | [],[],_,_,_,_=>rfl
 | [],d'::ds',c,ks,h,h'=>by
  simp only[m5]at h h'
  cases h
  split at h'<;>simp at h'
 | d::ds,[],c,ks,h,h'=>by
  simp only[m5]at h h'
  cases h'
  split at h<;>simp at h
 | d::ds,d'::ds',c,ks,h,h'=>by
  simp only[m5]at h h'
  split at h
  ·rename_i p q hp hq
   split at h'
   ·rename_i p' q' hp' hq'
    simp at h h'
    obtain⟨h1,h2⟩:=h
    obtain⟨h1',h2'⟩:=h'
    subst h1 h2
    simp at h2'
    obtain⟨e1,e2⟩:=Sd (d:=d) (d':=d') (k:=p.2) (by rw[hp]) (by rw[hp',<-h2'.1]) h1'.symm
    have:=Nq (ds:=ds) (ds':=ds') (c:=q.1) (ks:=q.2) (by rw[hq]) (by rw[hq',e2,<-h2'.2])
    rw[e1,this]
   ·cases h'
  ·cases h
inductive Srt (ds:List D):Prop
 | flat (k:Nat) (hk:k<2) (h:∀d∈ds,∃c,gH d=some (c,k)):Srt ds
 | rows (k:Nat) (ks:List Nat) (h:∀d∈ds,∃c,R4 d=some (c,k::ks)):Srt ds
theorem KC(h:gH d=some (c,k)):qt d=c:=by unfold qt;rw[h]
theorem J8:∀{is:List Int},m5 (is.map D.int)=some (is,is.map λ_=>0)
 | []=>rfl
 | i::is=>by
  have:=J8 (is:=is)
  simp only[List.map_cons,m5,gH,this]
  rfl
theorem Qa(h:R4 d=some (c,ks)):qt d=c:=by
 cases d with
 | tup ds=>
  unfold qt
  cases z:gH (.tup ds)with
  | none=>dsimp only;rw[h]
  | some p=>
   dsimp only
   simp only[gH]at z
   obtain⟨is,hi,q⟩:=Option.map_eq_some_iff.mp z
   rw[<-q]
   simp only[R4]at h
   rw[t8 hi,J8]at h
   simp at h
   exact h.1
 | _=>simp[R4]at h
theorem Srt.inj(h:Srt ds):∀a∈ds,∀b∈ds,qt a=qt b->a=b:=by
 intro a ha b hb e
 cases h with
 | flat k hk h=>
  obtain⟨c,h1⟩:=h a ha
  obtain⟨c',h2⟩:=h b hb
  rw[KC h1,KC h2]at e
  exact(Sd (r:=[]) (r':=[]) h1 h2 (by rw[e])).1
 | rows k ks h=>
  obtain⟨c,h1⟩:=h a ha
  obtain⟨c',h2⟩:=h b hb
  rw[Qa h1,Qa h2]at e
  subst e
  cases a with
  | tup xs=>cases b with
   | tup ys=>rw[Nq (show m5 xs=some (c,k::ks)from h1) (show m5 ys=some (c,k::ks)from h2)]
   | _=>simp[R4]at h2
  | _=>simp[R4]at h1
theorem adW(h:Srt ds)(o:Order ds.length (ds.map qt) q):(q.map λi=>ds.getD i .non)=Ig ds:=by
 have pm:(q.map λi=>ds.getD i .non).Perm ds:=by
  have:=o.pm.map λi=>ds.getD i .non
  have e:((List.range ds.length).map λi=>ds.getD i .non)=ds:=by
   refine List.ext_getElem? λi=> ?_
   rw[zan]
   rcases Nat.lt_or_ge i ds.length with z | z
   ·simp[z]
   ·simp[z]
  rw[e]at this
  exact this
 refine(ac_ ?_ pm.symm h.inj).symm
 rw[UpD,List.pairwise_map]
 refine List.pairwise_iff_getElem.mpr λi j hi hj hij=> ?_
 have hl:q.length=ds.length:=by have:=o.pm.length_eq;simpa using this
 have:=o.up i j () ()
 have g:∀x,x∈q->(ds.map qt).getD x []=qt (ds.getD x .non):=λx hx=>by
  have:=o.lt x hx
  simp[this]
 have gi:q.getD i 0=q[i]:=by simp[hi]
 have gj:q.getD j 0=q[j]:=by simp[hj]
 rw[gi,gj,g _ (List.getElem_mem hi),g _ (List.getElem_mem hj)]at this
 exact this
open Classical in
section
variable{X:Cx}{ct:Nat->Addr}{W:bA}{pos:Pos}{K:Frag}{ι:Nat->Addr}{n:Nat}{H:Hp}
theorem WM(h:gH d=some (c,k))(q:DV K ct ι n H d v):Part K H v c k:=by
 cases q with
 | int i=>simp only[gH]at h;cases h;exact .int i
 | str s=>simp only[gH]at h;cases h;exact .str s
 | tup e r=>
  simp only[gH]at h
  obtain⟨is,hi,z⟩:=Option.map_eq_some_iff.mp h
  simp at z
  obtain⟨rfl,rfl⟩:=z
  have:=oE hi r
  subst this
  exact .tup e
 | _=>simp[gH]at h
theorem R_:∀{ds:List D} {c:List Int} {ks:List Nat} {vs:List V},m5 ds=some (c,ks)->h_ K ct ι n H ds vs->Parts K H vs c ks
 | [],c,ks,_,h,.nil=>by simp only[m5]at h;cases h;exact .nil
 | d::ds,c,ks,_,h,.cons q qs=>by
  simp only[m5]at h
  split at h
  ·rename_i p p' hp hp'
   cases h
   exact .cons (WM hp q) (R_ hp' qs)
  ·cases h
theorem adx(h:Srt ds)(q:h_ K ct ι n H ds vs):Q3 K H vs (ds.map qt):=by
 have hl:=q.length
 have get:∀{i:Nat} {y:V},vs[i]? = some y->∃d,ds[i]? = some d/\DV K ct ι n H d y:=λ{i y} hy=>by
  have hi:=(List.getElem?_eq_some_iff.mp hy).1
  have hd:ds[i]? = some ds[i]:=zac ()
  obtain⟨v,h1,h2⟩:=q.at hd
  rw[hy]at h1
  cases h1
  exact⟨_,hd,h2⟩
 cases h with
 | flat k hk h=>
  refine .flat k hk (by simp;omega) λi y c hy hc=> ?_
  obtain⟨d,hd,dv⟩:=get hy
  rw[zan,hd]at hc
  cases hc
  obtain⟨c,h1⟩:=h d (jS hd)
  rw[KC h1]
  exact WM h1 dv
 | rows k ks h=>
  refine .rows k ks (by simp;omega) λi y c hy hc=> ?_
  obtain⟨d,hd,dv⟩:=get hy
  rw[zan,hd]at hc
  cases hc
  obtain⟨c,h1⟩:=h d (jS hd)
  rw[Qa h1]
  cases dv with
  | tup e r=>exact⟨_,_,rfl,e,R_ h1 r⟩
  | _=>simp[R4]at h1
theorem agG(h:h_ K ct ι n H ds vs)(hq:∀i∈q,i<ds.length):h_ K ct ι n H (q.map λi=>ds.getD i .non) (Yw vs q):=by
 induction q with
 | nil=>exact .nil
 | cons i q ih=>
  refine .cons ?_ (ih λj hj=>hq j (yT _ hj))
  have hi:=hq i xB
  have hd:ds[i]? = some ds[i]:=zac hi
  obtain⟨v,h1,h2⟩:=h.at hd
  show DV K ct ι n H (ds.getD i .non) (vs.getD i .non)
  rw[List.getD_eq_getElem?_getD,List.getD_eq_getElem?_getD,hd,h1]
  exact h2
def Ad:Key->D
 | .inl i=> .int i
 | .inr s=> .str s
open Classical in
theorem Xa:DV K ct ι n H (Ad k) (kV k):=by
 cases k with
 | inl i=>exact .int i
 | inr s=>exact .str s
variable{o:Expr}{mo:ME}{apos p1 pos1:Pos}
end
end S
namespace S
open PySem PySem.Spec PyProof.Rows L2
section
variable{X:Cx}{ct:Nat->Addr}{W:bA}{pos:Pos}{K:Frag}{ι:Nat->Addr}{n:Nat}{H:Hp}
theorem adB(h:Be K ct ι n H kvs vs):h_ K ct ι n H (kvs.map λp=>Ad p.1) (vs.map λp=>kV p.1):=by
 induction h with
 | nil=>exact .nil
 | cons _ _ ih=>exact .cons Xa ih
variable{o:Expr}{mo:ME}{apos p1 pos1:Pos}
end
end S
namespace L2
open PySem PySem.Spec PyProof.Rows
section
variable{X:Cx}
theorem M8:∀(l:List (Str×Tok)),Vals ((l.map (·.1)).map V.str) (strValues l)
 | []=> .nil
 | (_,t)::l=> .cons ⟨t,rfl⟩ (M8 l)
theorem split_len(x y:Str):(Txt.split x y).length<=x.length+2:=by
 unfold Txt.split
 split
 ·simp
 ·split
  ·simp
  ·rw[length_partsBetween]
   have:=StrLaws.occ_length_le x y 0 x.length (x.length+1)
   omega
def agi:V->List V->Hp->VK->Prop:=λx vs H Q=>∃y z,x= .str y/\vs=[.str z]/\y.length+2<=sizeLine/\(z.length==0)=false/\∀p,H p=none->Q (.ref p) (upd H p (.lst ((Txt.split y z).map V.str)))
theorem abn:MtR X "str.split" agi:=by
 intro pins s σ H x vs v us Q I rx r h
 obtain⟨y,z,rfl,rfl,hl,hz,q⟩:=h
 obtain⟨t,rfl⟩:=rx
 obtain⟨u,rfl,t',rfl⟩:=vals1 r
 have fin:∀(l:List (Str×Tok)) (k:Nat),l.map (·.1)=Txt.split y z->EP X pins σ Q (.ref s.heap.objs.size) {s with heap:=s.heap.push {cls:= .type "list",data:= .seq (strValues l).toArray},toks:=k}:=λl k e=>
  ⟨.ref _,_,I.aj9 (t':=k) (by rw[<-e];exact M8 l) (by rw[zao];exact yY (split_len y z) hl),rfl,q _ I.fresh⟩
 have ahs:(Builtin.Str.partsBetween y (Builtin.Str.occurrences y z 0 y.length (y.length+1)) z.length).length<=sizeLine:=by
  rw[length_partsBetween]
  have:=StrLaws.occ_length_le y z 0 y.length (y.length+1)
  omega
 cases h1:(decide (y.length<z.length)||decide (Builtin.Str.strKind y<Builtin.Str.strKind z))with
 | true=>exact call_meets F.slot_str_split (typeIs_str _ _ _) F.entry_str_split (F.args_str_split_2 _ _) (meets_str_split_cannot_occur y z t t' h1) (fin [(y,t)] s.toks (if_pos h1).symm)
 | false=>
  have n1:=ne_true_of_eq_false h1
  cases h2:(Builtin.Str.occurrences y z 0 y.length (y.length+1)).isEmpty with
  | true=>exact call_meets F.slot_str_split (typeIs_str _ _ _) F.entry_str_split (F.args_str_split_2 _ _) (meets_str_split_not_found y z t t' h1 hz h2) (fin [(y,t)] s.toks ((if_neg n1).trans (if_pos h2)).symm)
  | false=>
   have n2:=ne_true_of_eq_false h2
   refine call_meets F.slot_str_split (typeIs_str _ _ _) F.entry_str_split (F.args_str_split_2 _ _) (meets_str_split_sep y z t t' h1 hz h2 () ahs) ?_
   have:=fin (numbered s.toks (Builtin.Str.partsBetween y (Builtin.Str.occurrences y z 0 y.length (y.length+1)) z.length)) (s.toks+(Builtin.Str.partsBetween y (Builtin.Str.occurrences y z 0 y.length (y.length+1)) z.length).length) ((numbered_texts _ _).trans ((if_neg n1).trans (if_neg n2)).symm)
   rw[<-strsFrom_eq]at this
   exact this
theorem Yy:uy X (compareOp .LtE) (λx y H Q=>∃i j,x= .str i/\y= .str j/\Q (.bl (!(decide (j.cps.toList<i.cps.toList)))) H):=by
 intro pins s σ H x y v u Q I rx ry h
 obtain⟨i,j,rfl,rfl,q⟩:=h
 obtain⟨t,rfl⟩:=rx
 obtain⟨t',rfl⟩:=ry
 exact PySem.P.le_str (Qx I q rfl)
end
end L2
namespace X3
open PySem PyProof.Rows PySem.SeqAt
open PySem.AutoSeq1 (wpAny_loadPart')
open PySem.MeetsSeq PySem.MeetsSeq2 PySem.MeetsSeq3
noncomputable def Nx:List Int->List Int->Bool
 | [],_=>true
 | _::_,[]=>false
 | x::xs,y::ys=>if x=y then Nx xs ys else decide (x<=y)
theorem abE:∀{vs ws:List Value} {ns ms:List Int},IntsAre vs ns->IntsAre ws ms->vs.zip ws=[]->Nx ns ms=decide (ns.length<=ms.length)
 | _,_,_,_,.nil,_,_=>by simp[Nx]
 | _,_,_,_,.cons _ _ _,.nil,_=>by simp[Nx]
 | _,_,_,_,.cons _ _ _,.cons _ _ _,h=>by rw[List.zip_cons_cons]at h;cases h
theorem aj_(l b:Addr)(its its2:Array Value)(n n2:Nat)(dd dd2:Option Addr)(sl sl2:Array (Option Value))(ns ms:List Int)(hi:IntsAre its.toList ns)(hj:IntsAre its2.toList ms):
  Meets (Builtin.«tuple.__le__» ⟨[.ref l,.ref b],[]⟩)
   (λ_ R s=>s.heap.get? l=some {cls:= .type "tuple",dict:=dd,data:= .seq its n,slots:=sl}/\s.heap.get? b=some {cls:= .type "tuple",dict:=dd2,data:= .seq its2 n2,slots:=sl2}/\
    R (.ok (.ret (.bool (Nx ns ms)))) s):=
 .of_wp λprog w A R s h=>by
  obtain⟨hp,g,d,tk,os⟩:=s
  obtain⟨hl,hb,h⟩:=h
  have f2:=AutoSeq1.sub_tuple_tuple
  have z1:its.size=ns.length:=by rw[<-hi.length];simp
  have z2:its2.size=ms.length:=by rw[<-hj.length];simp
  wp_walk using wpAny_loadPart' hl,wpAny_loadPart' hb,wpAny_forIn_list _ (λrest b s'=>b.1=none/\s'=⟨hp,g,d,tk,os⟩/\∃(vs ws:List Value) (ns' ms':List Int),rest=vs.zip ws/\
   IntsAre vs ns'/\IntsAre ws ms'/\ns'.length+its2.size=ms'.length+its.size/\R (.ok (.ret (.bool (Nx ns' ms')))) ⟨hp,g,d,tk,os⟩) _
  case turn=>
   rintro⟨y,x⟩ rest b s' ⟨hb',rfl,vs,ws,ns',ms',hz,hvi,hwi,hlen,hR⟩
   cases hvi with
   | nil=>rw[List.zip_nil_left]at hz;cases hz
   | cons a t hv2=>
    cases hwi with
    | nil=>rw[List.zip_nil_right]at hz;cases hz
    | cons c u hw2=>
     rw[List.zip_cons_cons]at hz
     obtain⟨hyx,hrest⟩:=List.cons.inj hz
     cases hyx
     simp only[Nx]at hR
     simp only[List.length_cons]at hlen
     by_cases hac:a=c
     ·rw[if_pos hac]at hR
      refine zC ((SeqAt.EqAt.int_int a t c u:SeqAt.EqAt A.in1 ⟨hp,g,d,tk,os⟩ _ _ _) prog w _ _ ?_)
      rw[beq_iff_eq.mpr hac]
      wp_walk
      exact⟨rfl,rfl,_,_,_,_,hrest,hv2,hw2,(),hR⟩
     ·rw[if_neg hac]at hR
      refine zC ((SeqAt.EqAt.int_int a t c u:SeqAt.EqAt A.in1 ⟨hp,g,d,tk,os⟩ _ _ _) prog w _ _ ?_)
      rw[beq_eq_false_iff_ne.mpr hac]
      have hri:∀(E:Value->Shared->Prop) (Q:Value->Shared->Prop),Q (.bool (decide (a<=c))) ⟨hp,g,d,tk,os⟩->wpAny (model prog w) A.in1 (richCompare .LtE (.int a t) (.int c u)) Q E ⟨hp,g,d,tk,os⟩:=λE Q hq=>
       (PyProof.Rows.le_int hq:wpAny (model prog w) A.in1 (compareOp .LtE (.int a t) (.int c u)) Q E ⟨hp,g,d,tk,os⟩)
      wp_walk using hri
      exact⟨_,rfl,by simpa using hR⟩
  case fin=>
   rintro⟨b1,b2⟩ s' ⟨hb',rfl,vs,ws,ns',ms',hz,hvi,hwi,hlen,hR⟩
   simp only at hb'
   subst hb'
   have hv:Nx ns' ms'=decide (its.size<=its2.size):=by
    rw[abE hvi hwi hz.symm]
    exact decide_eq_decide.mpr ()
   rw[hv]at hR
   wp_walk
   exact⟨_,rfl,by simpa[Builtin.Tuple.tupleCompareSizes]using hR⟩
  case h=>
   exact⟨rfl,rfl,its.toList,its2.toList,ns,ms,rfl,hi,hj,(),h⟩
end X3
namespace L2
open PySem PySem.Spec PyProof.Rows
section
variable{X:Cx}
theorem agT(hu:X.A.units<cLine):uy X (compareOp .LtE) (λx y H Q=>∃a b ns ms,x= .ref a/\y= .ref b/\kO X.K H a (ns.map V.int)/\kO X.K H b (ms.map V.int)/\Q (.bl (X3.Nx ns ms)) H):=by
 intro pins s σ H x y v u Q I rx ry h
 obtain⟨a,b,ns,ms,rfl,rfl,ha,hb,q⟩:=h
 cases rx
 cases ry
 obtain⟨its,r1,p1,_⟩:=I.tuple ha
 obtain⟨its2,r2,p2,_⟩:=I.tuple hb
 obtain⟨⟨cls,dd,data,sl⟩,ho,hc,n,hd⟩:=id p1
 obtain⟨⟨cls2,dd2,data2,sl2⟩,ho2,hc2,n2,hd2⟩:=id p2
 simp only at hc hd hc2 hd2
 subst hc hd hc2 hd2
 exact richCompare_meets_room (op:= .LtE) ⟨_,ho,rfl⟩ ⟨_,ho2,rfl⟩ PySem.F.slot_tuple_le PySem.F.entry_tuple_le (PySem.F.args_tuple_le_2 _ _) (X3.aj_ a b _ _ n n2 dd dd2 sl sl2 ns ms (intsAre_of r1) (intsAre_of r2))
  ⟨ho,ho2,show Value.bool (X3.Nx ns ms)≠Value.notImplemented/\EP X pins σ Q (.bool (X3.Nx ns ms)) s from⟨(λx=>nomatch x),⟨.bl _,H,I,rfl,q⟩⟩⟩ hu
end
def ah6(K:Frag)(a:Addr)(T:List (Str×Int)):Prop:=(a==sysModules)=false/\∃o es ep,K.lookup a=some o/\o.ExactDict/\o.data= .dict es ep/\PyProof.Rows.KTD.Rows (λi v=>∃t,v=Value.int i t) es.toList T
noncomputable def Gk(k:Str):List (Str×Int)->V
 | []=> .non
 | (x,i)::T=>if decide (k=x)=true then .int i else Gk k T
section
variable{X:Cx}{o e:Expr}{apos cpos:Pos}{td ty:TE}
theorem Rr{P:Value->Prop}:∀{T:List (Str×Int)},(∀v,RelV (Gk k T) v->P v)->PyProof.Rows.KTD.Each h k P (P .none) (T.map λp=>(p.1,PyProof.Rows.KTD.Dat.flat (PyData.int p.2)))
 | [],hp=>hp .none rfl
 | (x,i)::T,hp=>by
  show if decide (k=x)=true then _ else _
  unfold Gk at hp
  by_cases hk:decide (k=x)=true
  ·rw[if_pos hk]at hp ⊢
   exact λt=>hp _ ⟨t,rfl⟩
  ·rw[if_neg hk]at hp ⊢
   exact Rr hp
def aiV(K:Frag)(td ty:TE):TE:=λσ H Q=>td σ H λx H1=>∃a T,x= .ref a/\ah6 K a T/\ty σ H1 λy H2=>∃k,y= .str k/\Q (Gk k T) H2
theorem adR(ho:PE X o td)(he:PE X e ty)(m:M1 X o "get" apos e cpos):PE X (.Call (.Attribute o "get" apos) [e] [] cpos) (aiV X.K td ty):=by
 intro pins s σ H Q I h
 refine wpAny_Call_method m.base m.few m.line PySem.F.plainAttrs_dict PySem.F.slot_dict_get PySem.F.type_dict_get (fP (ho pins s σ H _ I h) ?_)
 rintro u t ⟨x,H1,I1,rx,a,T,ex,tb,q1⟩
 subst ex
 obtain rfl:u=Value.ref a:=rx
 obtain⟨hs,ob,es,ep,ho',hx,hd,hr⟩:=tb
 have here:∀(h:Heap),X.K.In h->PyProof.Rows.KTD.Here h h a (T.map λp=>(p.1,PyProof.Rows.KTD.Dat.flat (PyData.int p.2))):=λh hk=>
  ⟨⟨hs,ob,es,ep,hk _ _ ho',hx,hd,hr.mono (R':=PyProof.Rows.KTD.Dat.At h) (f:=λi=>PyProof.Rows.KTD.Dat.flat (PyData.int i)) λi v ⟨t,e⟩=>by subst e;exact .int i t⟩,λ_ _ z=>z⟩
 refine⟨(here _ I1.Hr).typeIs,(here _ I1.Hr).noDict,?_⟩
 rw[m.trees]
 refine Calls.callWith_builtin rfl (Calls.evalArgs_plain (Calls.spliced_cons (fP (he pins t σ H1 _ I1 q1) ?_)))
 rintro iv t2 ⟨y,H2,I2,ry,k,ek,q2⟩
 refine Calls.spliced_nil ?_
 subst ek
 obtain⟨tk,rfl⟩:=ry
 exact PyProof.Rows.KTD.get1_text (here _ I2.Hr) (Rr λv rv=>⟨_,H2,I2.tok _,rv,q2⟩)
end
end L2
namespace S
open PySem PySem.Spec PyProof.Rows L2
section
variable{X:Cx}{ct:Nat->Addr}{W:bA}{pos pos':Pos}
noncomputable def strsOf:List D->Option (List Str)
 | []=>some []
 | .str w::r=>(strsOf r).map (w:: ·)
 | _=>none
theorem Wc{K:Frag}{ι:Nat->Addr}{n:Nat}{H:Hp}:∀(ws:List Str),h_ K ct ι n H (ws.map D.str) (ws.map V.str)
 | []=> .nil
 | w::ws=> .cons (.str w) (Wc ws)
noncomputable def aoG:D->List D->Mem->Out D:=λd ds M=>match d,ds with
 | .str y,[.ref n]=>match M[n]? with
  | some (.lst es)=>match strsOf es with
   | some ws=>if JoinOk y ws=true then .ok (.str (Txt.join y ws)) M else .bad
   | none=> .bad
  | _=> .bad
 | _,_=> .bad
noncomputable def Gn:D->List D->Mem->Out D:=λd ds M=>match d,ds with
 | .str y,[.str z]=>if y.length+2<=sizeLine/\(z.length==0)=false then .ok (.ref M.length) (M++[.lst ((Txt.split y z).map D.str)])else .bad
 | _,_=> .bad
theorem abp:MtS X ct "str" "str.split" Gn:=by
 refine⟨_,abn,λι M H d ds v vs Q R q qs p=> ?_⟩
 unfold Gn at p
 split at p
 ·rename_i y z
  cases qw q
  obtain⟨u,rfl,qu⟩:=K6 qs
  cases qw qu
  split at p
  ·rename_i hz
   exact⟨y,z,rfl,rfl,hz.1,hz.2,λpp hp=>rR R (Wc _) hp p⟩
  ·exact p.elim
 ·exact p.elim
noncomputable def agc:qZ:=λd e M=>match d,e with
 | .str a,.str b=> .ok (.bl (!decide (b.cps.toList<a.cps.toList))) M
 | _,_=> .bad
theorem ahX:fO X ct (compareOp .LtE) agc:=by
 refine⟨_,Yy,λι M H d d' v v' Q R h h' p=> ?_⟩
 unfold agc at p
 split at p
 ·cases qw h
  cases qw h'
  exact⟨_,_,rfl,rfl,p ι _ H .refl R (.bl _)⟩
 ·exact p.elim
noncomputable def adn:qZ:=λd e M=>match d,e with
 | .tup xs,.tup ys=>match jk xs,jk ys with
  | some is,some js=> .ok (.bl (X3.Nx is js)) M
  | _,_=> .bad
 | _,_=> .bad
theorem ahW(hu:X.A.units+64<cLine):fO X ct (compareOp .LtE) adn:=by
 refine⟨_,agT (),λι M H d d' v v' Q R h h' p=> ?_⟩
 unfold adn at p
 split at p
 ·obtain⟨a,vs,rfl,ha,hd⟩:=lK h
  obtain⟨b,us,rfl,hb,hd'⟩:=lK h'
  split at p
  ·rename_i is js e1 e2
   have x1:=oE e1 hd
   have x2:=oE e2 hd'
   subst x1 x2
   exact⟨a,b,is,js,rfl,rfl,kO.of ha,kO.of hb,p ι _ H .refl R (.bl _)⟩
  ·exact p.elim
 ·exact p.elim
def sLe:qZ:=uE (uE L_ agc) adn
theorem ahY(hu:X.A.units+64<cLine):fO X ct (compareOp .LtE) sLe:=(Li.or ahX).or (ahW hu)
def itS(d:D)(M1:Mem):Out Itm:=match d with
 | .str u=>if u.length<=sizeLine then .ok ⟨none,u.cps.toList.map λc=>D.str ⟨#[c]⟩⟩ M1 else .bad
 | _=> .bad
def Ot(k:Str):List (Str×Int)->D
 | []=> .non
 | (x,i)::T=>if decide (k=x)=true then .int i else Ot k T
theorem Wa{K:Frag}{ι:Nat->Addr}{n:Nat}{H:Hp}{k:Str}:∀(T:List (Str×Int)),DV K ct ι n H (Ot k T) (Gk k T)
 | []=> .non
 | (x,i)::T=>by
  unfold Ot Gk
  split
  ·exact .int i
  ·exact Wa T
def aej(T:List (Str×Int))(k:D)(M:Mem):Out D:=match k with
 | .str z=> .ok (Ot z T) M
 | _=> .bad
def abw(T:List (Str×Int))(mk:ME):ME:=λe M=>(mk e M).bind (aej T)
theorem adl(T:List (Str×Int))(hg:Gl X x)(hm:X.mg x=some (.ref a))(hT:ah6 X.K a T)(he:SE X ct W e mk)(hd:(x==("__debug__" : Str))=false:=by decide)
  (base:attributeBase (.Name x p) "get" X.env (eval (.Name x p) X.env)=eval (.Name x p) X.env:=by rfl)
  (few:((backTo cpos (starEach [e] X.env)).all (λx=> !x.1)&&(backToKw cpos (keywordEach [] X.env)).all (λx=>x.1.isSome)
   && decide (([e]:List Expr).length+([]:List Keyword).length+(if([]:List Keyword).isEmpty then 0 else 1)<30))=true:=by rfl)
  (line:(apos.endLine==cpos.line)=true:=by rfl) (trees:backTo cpos (starEach [e] X.env)=[(false,eval e X.env)]:=by rfl):
  SE X ct W (.Call (.Attribute (.Name x p) "get" apos) [e] [] cpos) (abw T mk):=dU (adR (Pk (v:= .ref a) hg hm rfl hd) he ⟨base,few,line,trees⟩) λσ H Q q=>by
 obtain⟨ι,e,M,w,p⟩:=bN (dM:=dm X.K ct) (f:=λk _ M1=>aej T k M1) q
 refine⟨a,T,rfl,hT,ι,e,M,w,p.mono ?_⟩
 rintro v H1 ⟨cg,e1,M1,d,w1,q1,p1⟩
 cases q1 with
 | str z=>exact⟨_,rfl,p1 cg _ H1 .refl w1.rl (Wa T)⟩
 | _=>exact p1.elim
end
theorem ie(h1:sc.kind= .function:=by rfl)(h2:sc.isCoroutine=false:=by rfl)(h3:sc.isGenerator=false:=by rfl)(h4:N.Nodup:=by decide +kernel)(h5:N.take ps.length=ps:=by rfl)
  (h6:∀x∈ps,sc.names.lookup x=some .local\/sc.names.lookup x=some .cell:=by decide +kernel) (h7:∀y∈sc.names,y.2≠ .free:=by decide +kernel):pL N ps sc:=⟨h1,h2,h3,h4,h5,h6,h7⟩
section
variable{e:Sl}{M:Mem}
@[simp] theorem ajZ:abw T mk e M=(mk e M).bind (aej T):=id rfl
@[simp] theorem akb:aej T (.str z) M= .ok (Ot z T) M:=id rfl
theorem Yh(h:y.length+2<=16777216)(hz:(z.length==0)=false):Gn (.str y) [.str z] M= .ok (.ref M.length) (M++[.lst ((Txt.split y z).map D.str)]):=by
 simp only[Gn]
 rw[if_pos ⟨by rw[Bq];exact h,hz⟩]
theorem ajd(h1:jk xs=some is)(h2:jk ys=some js):sLe (.tup xs) (.tup ys) M= .ok (.bl (X3.Nx is js)) M:=by
 refine(p_ rfl).trans ?_
 simp only[adn,h1,h2]
end
section
variable{X:Cx}{ct:Nat->Addr}
def notStar:Expr->Bool
 | .Starred _ _=>false
 | _=>true
theorem ai1(h:notStar a=true):starEach (a::es) env=(false,eval a env)::starEach es env:=by
 cases a<;>first | rfl | cases h
theorem aX(ha:SE X ct W a ma)(hr:SA X ct W es ms)(h:notStar a=true:=by rfl):SA X ct W (a::es) (au ma ms):=ao ha hr (ai1 h)
end
theorem W7{α:Type}{us:List α}(h:us.length=5):∃a b c d e,us=[a,b,c,d,e]:=match us,h with | [a,b,c,d,e],_=>⟨a,b,c,d,e,rfl⟩
section
variable{X:Cx}{ct:Nat->Addr}{W:bA}
theorem Bk(hg:Gl X x)(hm:X.mg x=some (.ref a))(hk:∀ι n H,DV X.K ct ι n H (.mW ds) (.ref a))(hd:(x==("__debug__" : Str))=false:=by decide):SE X ct W (.Name x pos) (mC (.mW ds)):=
 dU (Pk (v:= .ref a) hg hm rfl hd) λ_ _ _ h=>Rx (λ_ _=>hk _ _ _) h
theorem GF{K:Frag}{ι:Nat->Addr}{n:Nat}{H:Hp}{a:Addr}{o:Obj}{its:Array Value}{k:Nat}{xs:List V}{ds:List D}(h1:K.lookup a=some o)(h2:o.cls= .type "tuple")(h3:o.data= .seq its k)
  (h4:its.size<=1000) (h5:Vals xs its.toList) (h6:h_ K ct ι n H ds xs):DV K ct ι n H (.mW ds) (.ref a):=
 .mW ⟨o,its,k,h1,h2,h3,yY h4 (by simp[sizeLine]),h5⟩ h6
theorem JH:∀(is:List Int),jk (is.map D.int)=some is
 | []=>rfl
 | i::is=>by simp only[List.map_cons,jk,JH is];rfl
end
end S
namespace L2
open PySem PySem.Spec PyProof.Rows
section
variable{X:Cx}{pins:List (Addr×Obj)}{σ:St}{H:Hp}{s:Shared}{d:Addr}{o:Obj}{kvs:List (Key×V)}
def acK(X:Cx)(d:Addr):Prop:=∀o u,X.H₀ d≠some (.lU o u)
theorem Inv.amX(I:Inv X pins σ H s)(e:H d=some (.dK kvs)):acK X d:=λo u q=>by
 have:=I.base.tY d o u q
 rw[e]at this;cases this
theorem Inv.aes(I:Inv X pins σ H s)(e:H d=some (.dK kvs))(ho:s.heap.get? d=some o):Inv X pins σ (upd H d (.lU o (.dK kvs))) s:=by
 have hk:∀b u,(∀ks,u≠ .dK ks)->H b=some u->upd H d (.lU o (.dK kvs)) b=some u:=λb u n q=>by
  rw[aL (λz=>by subst z;rw[e]at q;exact n _ (xI q).symm)];exact q
 have hz:∀b,H b=none->upd H d (.lU o (.dK kvs)) b=none:=λb q=>by
  rw[aL (λz=>by subst z;rw[e]at q;cases q)];exact q
 refine⟨I.ok,I.os,I.bare,⟨I.base.keep,I.base.slot,λb o q n z=>hz b (I.base.free b o q n z),I.base.there,λb xs q=>hk _ _ (λ_ z=>nomatch z) (I.base.tups b xs q),λb o u q=>hk _ _ (λ_ z=>nomatch z) (I.base.tY b o u q),λb ps q=> ?_⟩,
  I.loc,I.cell,hz _ I.free,λx c q=>hz _ (I.jZ x c q),λp hp=> ?_,λb u q=> ?_,I.len⟩
 ·obtain⟨m,z⟩:=I.base.vp b ps q;exact⟨m,hk _ _ (λ_ z=>nomatch z) z⟩
 ·obtain⟨z1,z2,z3⟩:=I.pin p hp;exact⟨z1,hz _ z2,z3⟩
 ·by_cases z:b=d
  ·subst z
   rw[bB]at q;cases q
   exact⟨ho,(I.hok b _ e).stay (λ_ _ _ y=>y) (λb' y=>hk _ _ (λ_ z=>nomatch z) y) λb' xs y=>hk _ _ (λ_ z=>nomatch z) y⟩
  ·rw[aL z]at q
   exact(I.hok b u q).stay (λ_ _ _ y=>y) (λb' y=>hk _ _ (λ_ z=>nomatch z) y) λb' xs y=>hk _ _ (λ_ z=>nomatch z) y
theorem Inv.aiP(I:Inv X pins σ H s)(nf:acK X d)(e:H d=some (.lU o (.dK kvs))):Inv X pins σ (upd H d (.dK kvs)) s:=by
 have hk:∀b u,(∀a z,u≠ .lU a z)->H b=some u->upd H d (.dK kvs) b=some u:=λb u n q=>by
  rw[aL (λz=>by subst z;rw[e]at q;exact n _ _ (xI q).symm)];exact q
 have hz:∀b,H b=none->upd H d (.dK kvs) b=none:=λb q=>by
  rw[aL (λz=>by subst z;rw[e]at q;cases q)];exact q
 refine⟨I.ok,I.os,I.bare,⟨I.base.keep,I.base.slot,λb o q n z=>hz b (I.base.free b o q n z),I.base.there,λb xs q=>hk _ _ (λ_ _ z=>nomatch z) (I.base.tups b xs q),λb o' u q=> ?_,λb ps q=> ?_⟩,
  I.loc,I.cell,hz _ I.free,λx c q=>hz _ (I.jZ x c q),λp hp=> ?_,λb u q=> ?_,I.len⟩
 ·rw[aL (λz=>by subst z;exact nf _ _ q)]
  exact I.base.tY b o' u q
 ·obtain⟨m,z⟩:=I.base.vp b ps q;exact⟨m,hk _ _ (λ_ _ z=>nomatch z) z⟩
 ·obtain⟨z1,z2,z3⟩:=I.pin p hp;exact⟨z1,hz _ z2,z3⟩
 ·by_cases z:b=d
  ·subst z
   rw[bB]at q;cases q
   exact(show dD X.prog X.w H s.heap b (.lU o (.dK kvs))from I.hok b _ e).2.stay (λ_ _ _ y=>y) (λb' y=>hk _ _ (λ_ _ z=>nomatch z) y) λb' xs y=>hk _ _ (λ_ _ z=>nomatch z) y
  ·rw[aL z]at q
   exact(I.hok b u q).stay (λ_ _ _ y=>y) (λb' y=>hk _ _ (λ_ _ z=>nomatch z) y) λb' xs y=>hk _ _ (λ_ _ z=>nomatch z) y
theorem Nr{α β:Type}{F:α->β->Prop}:∀{l₁:List α} {l₂:List β},Paired F l₁ l₂->∀{i:Nat} {a:α} {b:β},l₁[i]? = some a->l₂[i]? = some b->F a b
 | _,_,.nil,_,_,_,h,_=>by simp at h
 | _,_,.cons r t,0,_,_,h,h'=>by simp at h h';subst h h';exact r
 | _,_,.cons r t,i+1,_,_,h,h'=>Nr t (by simpa using h) (by simpa using h')
theorem ab2(I:Inv X pins σ H s)(e:H d=some (.lU o (.dK kvs)))(hep:o.data= .dict es ep):∃vs,KV kvs vs/\s.heap.DictAt (dz X.prog X.w) d vs ep:=by
 obtain⟨ho,z,hd,vs,rel,o',es',ep',g,r1,r2,r3⟩:=(show dD X.prog X.w H s.heap d (.lU o (.dK kvs))from I.hok d _ e)
 rw[ho]at g;cases g
 rw[hep]at r2;cases r2
 exact⟨vs,rel,o,es,ho,r1,hep,r3⟩
end
end L2
namespace S
open PySem PySem.Spec PyProof.Rows L2
structure Wk(K:Frag)(H H':Hp):Prop where
 tup:∀a xs,H a=some (.tup xs)->H' a=some (.tup xs)
 lU:∀a xs,FrL K H a xs->FrL K H' a xs
 ex:∀a φ,H a=some (.ext φ)->H' a=some (.ext φ)
 xd:∀a fs,H a=some (.xd fs)->H' a=some (.xd fs)
mutual
theorem DV.wk{K:Frag}{ct ι:Nat->Addr}{n:Nat}{H H':Hp}(e:Wk K H H'):∀{d:D} {v:V},DV K ct ι n H d v->DV K ct ι n H' d v
 | _,_,.non=> .non
 | _,_,.bl b=> .bl b
 | _,_,.int i=> .int i
 | _,_,.str x=> .str x
 | _,_,.tup h hs=> .tup (e.tup _ _ h) (h_.wk e hs)
 | _,_,.ref h=> .ref h
 | _,_,.cl h hs=> .cl (e.lU _ _ h) (h_.wk e hs)
 | _,_,.ty s=> .ty s
 | _,_,.cls c=> .cls c
 | _,_,.exc h1 h2 h3=> .exc (e.ex _ _ h1) (e.xd _ _ h2) (DV.wk e h3)
 | _,_,.mW h hs=> .mW h (h_.wk e hs)
theorem h_.wk{K:Frag}{ct ι:Nat->Addr}{n:Nat}{H H':Hp}(e:Wk K H H'):∀{ds:List D} {vs:List V},h_ K ct ι n H ds vs->h_ K ct ι n H' ds vs
 | _,_,.nil=> .nil
 | _,_,.cons h hs=> .cons (DV.wk e h) (h_.wk e hs)
end
section
variable{K:Frag}{ct ι:Nat->Addr}{n:Nat}{H H':Hp}{M:Mem}{d:Addr}{o:Obj}{ys:List (Key×V)}
theorem Od.wk(e:Wk K H H'):∀{fs:List (Str×D)} {vs:List (Str×V)},Od K ct ι n H fs vs->Od K ct ι n H' fs vs
 | _,_,.nil=> .nil
 | _,_,.cons h hs=> .cons (h.wk e) (Od.wk e hs)
theorem Be.wk{κ:Type}(e:Wk K H H'):∀{fs:List (κ×D)} {vs:List (κ×V)},Be K ct ι n H fs vs->Be K ct ι n H' fs vs
 | _,_,.nil=> .nil
 | _,_,.cons h hs=> .cons (h.wk e) (Be.wk e hs)
theorem OR.wk(e:Wk K H H')(hh:H' a=H a)(h:OR K ct ι n H a x):OR K ct ι n H' a x:=by
 cases x with
 | lst ds=>obtain⟨vs,q,r⟩:=h;exact⟨vs,by rw[hh];exact q,r.wk e⟩
 | ins c fs=>obtain⟨dx,vs,q,r⟩:=h;exact⟨dx,vs,by rw[hh];exact q,r.wk e⟩
 | dk kvs=>obtain⟨vs,q,r⟩:=h;exact⟨vs,by rw[hh];exact q,r.wk e⟩
 | dt kvs=>obtain⟨vs,q,r⟩:=h;exact⟨vs,by rw[hh];exact q,r.wk e⟩
 | fd kvs=>obtain⟨o,vs,q,r⟩:=h;exact⟨o,vs,by rw[hh];exact q,r.wk e⟩
theorem Wk.ac2(h:H d=some (.lU o (.dK ys))):Wk K H (upd H d (.dK ys)) where
 tup:=λa xs q=>by rw[aL (λz=>by subst z;rw[h]at q;cases q)];exact q
 lU:=λa xs q=>by
  rcases q with⟨b,q⟩ | q
  ·exact .inl ⟨b,by rw[aL (λz=>by subst z;rw[h]at q;cases q)];exact q⟩
  ·exact .inr q
 ex:=λa φ q=>by rw[aL (λz=>by subst z;rw[h]at q;cases q)];exact q
 xd:=λa fs q=>by rw[aL (λz=>by subst z;rw[h]at q;cases q)];exact q
theorem Rl.ac2(R:Rl K ct ι M H)(hi:i<M.length)(h:H (ι i)=some (.lU o (.dK ys)))(pv:Be K ct ι M.length H kvs ys):Rl K ct ι (M.set i (.dk kvs)) (upd H (ι i) (.dK ys)):=by
 refine⟨λj k hj hk e=>R.inj j k (by simpa using hj) (by simpa using hk) e,λj y hy=> ?_⟩
 rw[List.length_set]
 by_cases e:i=j
 ·subst e
  rw[zak hi]at hy
  cases hy
  exact⟨ys,bB,pv.wk (Wk.ac2 h)⟩
 ·rw[zaj e]at hy
  have hj:j<M.length:=(List.getElem?_eq_some_iff.mp hy).1
  exact(R.obj j y hy).wk (Wk.ac2 h) (aL λz=>e (R.inj i j hi hj z.symm))
theorem ab_(h1:H1 d=some (.dK ys1))(x:Ext K cg n1 (upd H1 d (.lU o1 (.dK ys1))) ι' n' H')(h':H' d=some (.lU o (.dK ys))):Ext K cg n1 H1 ι' n' (upd H' d (.dK ys)) where
 tup:=λa xs q=>by
  have ne:a≠d:=λz=>by subst z;rw[h1]at q;cases q
  rw[aL ne];exact x.tup a xs (by rw[aL ne];exact q)
 lU:=λa xs q=>by
  rcases q with⟨b,q⟩ | q
  ·have ne:a≠d:=λz=>by subst z;rw[h1]at q;cases q
   exact .inl ⟨b,by rw[aL ne];exact x.fz a b _ (by rw[aL ne];exact q)⟩
  ·exact .inr q
 ex:=λa φ q=>by
  have ne:a≠d:=λz=>by subst z;rw[h1]at q;cases q
  rw[aL ne];exact x.ex a φ (by rw[aL ne];exact q)
 xd:=λa fs q=>by
  have ne:a≠d:=λz=>by subst z;rw[h1]at q;cases q
  rw[aL ne];exact x.xd a fs (by rw[aL ne];exact q)
 fz:=λa b u q=>by
  have ne:a≠d:=λz=>by subst z;rw[h1]at q;cases q
  rw[aL ne];exact x.fz a b u (by rw[aL ne];exact q)
 le:=x.le
 same:=x.same
end
theorem Be.key{K:Frag}{ct ι:Nat->Addr}{n:Nat}{H:Hp}{κ:Type}:∀{fs:List (κ×D)} {vs:List (κ×V)},Be K ct ι n H fs vs->∀{i:Nat} {a:κ×D} {b:κ×V},fs[i]? = some a->vs[i]? = some b->a.1=b.1
 | _,_,.nil,_,_,_,h,_=>by simp at h
 | _,_,.cons r t,0,_,_,h,h'=>by simp at h h';subst h h';rfl
 | _,_,.cons r t,i+1,_,_,h,h'=>Be.key t (by simpa using h) (by simpa using h')
end S
namespace L2
open PySem PySem.Spec PySem.W PySem.Calls PyProof.Rows
section
variable{X:Cx}
def aaT(K:Frag):List V->Hp->VK->Prop:=λxs H Q=>∃d kvs cs,xs=[.ref d]/\H d=some (.dK kvs)/\kvs.length<64/\Q3 K H (kvs.map λp=>kV p.1) cs/\∀q l,Order kvs.length cs q->H l=none->Q (.ref l) (upd H l (.lst (Yw (kvs.map λp=>kV p.1) q)))
theorem QG(hc:X.calm=true)(hu:X.A.units+2<cLine):qP X (.builtin "sorted") (aaT X.K):=by
 intro pins s σ H xs us Q I r h
 obtain⟨d,kvs,cs,rfl,hd,h64,rk,q⟩:=h
 obtain⟨u,rfl,rx⟩:=vals1 r
 cases rx
 obtain⟨z,ns,vs,kv,dd⟩:=(show dD X.prog X.w H s.heap d (.dK kvs)from I.hok d _ hd)
 obtain⟨ep,da⟩:=dd.dictAt
 have lv:kvs.length=vs.length:=Paired.length kv
 refine Rz hu (kdu_collect (A:=X.A.in1) (kdl_dict (knd:=dz X.prog X.w) (kvs:=vs) (ep:=ep) ns) (I.ok.hd hc) da () λh' tk acc kp it=> ?_)
 refine⟨kvs.map λp=>kV p.1,cs,H,I.kept kp,acX ?_ λj v hv=> ?_,by simpa using h64,rk,by simpa using q⟩
 ·have:=it.1
  simp
  omega
 ·obtain⟨k,x,e1,e2⟩:=it.2 j v (by rw[<-Array.getElem?_toList];exact hv)
  obtain⟨y,e3,_⟩:=ahe kv e1
  exact⟨kV k,by rw[zan,e3];rfl,afv e2⟩
end
end L2
namespace S
open PySem PySem.Spec PyProof.Rows L2
open Classical in
noncomputable def zx:Uo:=λds M=>match ds with
 | [.ref n]=>match M[n]? with
  | some (.dk kvs)=>if Srt (kvs.map λp=>Ad p.1)/\kvs.length<64 then .ok (.ref M.length) (M++[.lst (Ig (kvs.map λp=>Ad p.1))])else .bad
  | _=> .bad
 | _=> .bad
section
variable{X:Cx}{ct:Nat->Addr}
theorem VB(hc:X.calm=true)(hu:X.A.units+64<cLine):tW X ct (.builtin "sorted") zx:=by
 refine⟨_,QG hc (),λι M H ds vs Q R h p=> ?_⟩
 unfold zx at p
 split at p
 ·rename_i n
  obtain⟨v,rfl,q⟩:=K6 h
  obtain⟨hn,rfl⟩:=oX q
  split at p
  ·rename_i kvs z
   split at p
   ·rename_i hs
    obtain⟨ys,hH,pv⟩:=R.obj n _ z
    have dy:=adB pv
    have hl:=dy.length
    simp only[zao]at hl
    refine⟨_,ys,(kvs.map λp=>Ad p.1).map qt,rfl,hH,(),adx hs.1 dy,λq l od hl'=> ?_⟩
    have od':Order (kvs.map λp=>Ad p.1).length ((kvs.map λp=>Ad p.1).map qt) q:=by
     rw[zao,show kvs.length=ys.length by omega];exact od
    have:=agG dy od'.lt
    rw[adW hs.1 od']at this
    exact rR R this hl' p
   ·exact p.elim
  ·exact p.elim
 ·exact p.elim
end
theorem RT(h:M[n]? = some (.dk kvs))(hs:Srt (kvs.map λp=>Ad p.1))(hl:kvs.length<64):zx [.ref n] M= .ok (.ref M.length) (M++[.lst (Ig (kvs.map λp=>Ad p.1))]):=by
 simp only[zx,h];rw[if_pos ⟨hs,hl⟩]
end S
namespace S
theorem W6{α:Type}{us:List α}(h:us.length=6):∃a b c d e f,us=[a,b,c,d,e,f]:=by
 match us,h with
 | [a,b,c,d,e,f],_=>exact⟨a,b,c,d,e,f,rfl⟩
theorem W5{α:Type}{us:List α}(h:us.length=7):∃a b c d e f g,us=[a,b,c,d,e,f,g]:=by
 match us,h with
 | [a,b,c,d,e,f,g],_=>exact⟨a,b,c,d,e,f,g,rfl⟩
end S
namespace L2
open PySem PySem.Spec PyProof.Rows
section
variable{X:Cx}{pins:List (Addr×Obj)}{σ:St}{H:Hp}{s:Shared}{d:Addr}{o:Obj}{kvs:List (Key×V)}
def Iti(d:Addr)(o:Obj)(kvs:List (Key×V)):It:=
 ⟨λi H=>H d=some (.lU o (.dK kvs))/\i<kvs.length,λi H x H'=>∃a p,H a=none/\kvs[i]? = some p/\x= .ref a/\H'=upd H a (.tup [kV p.1,p.2]),λi H=>H d=some (.lU o (.dK kvs))/\kvs.length<=i⟩
theorem Uy{P:Program}{w:World}{K:Frag}{es:List Expr}{n:Nat}{tp:Pos}{ee:Array DictEntry}{ep:Nat}(hep:o.data= .dict ee ep)(it:Addr):
  Turn P w K (.Tuple es n tp) (Iti d o kvs) [it] it (λi h=>∃ok ov,IsItemIter h it d i kvs.length ep ok ov) where
 mem:=by simp
 obj:=λi h st b hb=>by
  have e:b=it:=by simpa using hb
  subst e
  obtain⟨ok,ov,e⟩:=st
  exact⟨_,e,λv z=>by cases(show Data.fields _=Data.cell v from z)⟩
 keep:=λi h h' ⟨ok,ov,e⟩ k=>⟨ok,ov,k it (by simp) _ e⟩
 item:=by
  intro X hP hw hK hc i pins s σ H E I hf st hg
  subst hP hw hK
  obtain⟨hq,hi⟩:=hg
  obtain⟨ok,ov,st⟩:=st
  obtain⟨vs,rel,dd⟩:=ab2 I hq hep
  have hl:vs.length=kvs.length:=rel.length.symm
  obtain⟨p,hp⟩:∃p,kvs[i]? = some p:=⟨_,zac hi⟩
  obtain⟨q,hq2⟩:∃q,vs[i]? = some q:=⟨_,zac ()⟩
  obtain⟨pq1,pq2⟩:=Nr rel hp hq2
  rw[<-hl]at st
  refine wpAny_pyNext_items_item (k:=q.1) (v:=q.2) st dd hq2 λkey h1 hkey ho hT hsz hk=>⟨_,rfl,wpAny_letOwnedTupleGo_items ho λh2 he2 hs2=> ?_⟩
  have hTe:s.heap.objs.size≠it:=xS (zS st)
  have hT2:h2.get? s.heap.objs.size=some {cls:= .type "tuple",data:= .seq #[key,q.2]}:=(hs2.2 _ hTe).trans hT
  have hf0:H s.heap.objs.size=none:=I.hok.fresh (zab _)
  have hfi:=hf it (by simp)
  refine⟨.ref s.heap.objs.size,upd H s.heap.objs.size (.tup [kV p.1,p.2]),?_,rfl,⟨_,p,hf0,hp,rfl,rfl⟩,⟨key,q.2,by rw[<-hl];exact he2⟩,λb hb=> ?_⟩
  ·refine I.Rj (λb o n1 n2 eb=>(hs2.2 b n1).trans (hk b o n1 eb)) hfi hfi (zab _) ?_
   exact⟨Ri,[key,q.2],.cons (by rw[pq1];exact afv hkey) (.cons pq2 .nil),⟨_,hT2,rfl,_,rfl⟩⟩
  ·have e:b=it:=by simpa using hb
   subst e
   rw[aL (Ne.symm hTe)]
   exact hfi.1
 done:=by
  intro X hP hw hK hc i pins s σ H E I hf st hg
  subst hP hw hK
  obtain⟨hq,hi⟩:=hg
  obtain⟨ok,ov,st⟩:=st
  obtain⟨vs,rel,dd⟩:=ab2 I hq hep
  have hl:vs.length=kvs.length:=rel.length.symm
  obtain⟨f0,f1,f2,f3,f4,f5⟩:=hf it (by simp)
  rw[<-hl]at st
  exact wpAny_pyNext_items_end (I.ok.hd hc) st dd (List.getElem?_eq_none ()) λh' eb=>⟨rfl,I.turned (t':=s.toks) (λb o hb e=>eb b o hb e) f0 f1 f3 f4 f5⟩
 self:=λ_ _ _ _ _ ⟨_,_,st⟩ h=>PySem.W.kcp_self st h
def aho(tl:TE):TI:=λσ H R=>tl σ H λx H1=>∃v d kvs,x= .ref v/\H1 v=some (Jw v d)/\H1 d=some (.dK kvs)/\∀o,acK X d->kvs.length<=sizeLine->R (Iti d o kvs) (upd H1 d (.lU o (.dK kvs)))
theorem aa0(hl:PE X l tl):PI X (.Tuple es n tp) l (aho (X:=X) tl):=by
 intro pins s σ H R I h
 refine fP (hl pins s σ H _ I h) ?_
 rintro v s1 ⟨x,H1,I1,r1,q1⟩
 obtain⟨vw,d,kvs,e,hv,hd,q⟩:=q1
 subst e
 cases r1
 obtain⟨z,hs,vs,rel,o,es',ep,g,r1,r2,r3⟩:=acn I1.hok hd
 have view:s1.heap.IsItemsView vw d:=(show dD X.prog X.w H1 s1.heap vw (Jw vw d)from I1.hok vw _ hv).1
 refine wpAny_pyIter_items (knd:=dz X.prog X.w) (kvs:=vs) (ep:=ep) view (show s1.heap.DictAt (dz X.prog X.w) d vs ep from⟨o,es',g,r1,r2,r3⟩) ?_
 have I2:Inv X pins σ H1 {s1 with heap:=s1.heap.push {cls:= .type "dict_itemiterator",data:= .fields #[.none,.bool false,.ref d,.int 0 0,.int vs.length 0,.int ep 0,.none,.none]}}:=I1.kept (t':=s1.toks) λb o e=>zD _ e
 have g2:(s1.heap.push {cls:= .type "dict_itemiterator",data:= .fields #[.none,.bool false,.ref d,.int 0 0,.int vs.length 0,.int ep 0,.none,.none]}).get? d=some o:=zD _ g
 have I3:=I2.aes hd g2
 have hlt:d<s1.heap.objs.size:=zS g
 have hn:upd H1 d (.lU o (.dK kvs)) s1.heap.objs.size=none:=by
  rw[aL (xS hlt)];exact I1.hok.fresh (zab _)
 refine⟨s1.heap.objs.size,[s1.heap.objs.size],_,_,_,rfl,I3,Uy (o:=o) (kvs:=kvs) r2 _,⟨_,_,by rw[rel.length];exact yB _ rfl⟩,λb hb=> ?_,q o (I1.amX hd) z⟩
 have e:b=s1.heap.objs.size:=by simpa using hb
 subst e
 exact I1.Vv (zab _) hn
def aiR(X:Cx)(te:TE):TE:=λσ H Q=>te σ H λv H1=>∃d o kvs,acK X d/\H1 d=some (.lU o (.dK kvs))/\Q v (upd H1 d (.dK kvs))
theorem adP(h:PE X e te):PE X e (aiR X te):=by
 intro pins s σ H Q I q
 refine vE (h pins s σ H _ I q) (λu s' z=> ?_) λ_ _ z=>z
 obtain⟨v,H',I',r,d,o,kvs,nf,e',q'⟩:=z
 exact⟨v,_,I'.aiP nf e',r,q'⟩
end
end L2
namespace S
open PySem PySem.Spec PyProof.Rows L2
def Ew(p:Key×D):D:= .tup [Ad p.1,p.2]
noncomputable def M6(n:Nat)(o:Out D):Out D:=match o with
 | .ok d M=>match M[n]? with
  | some (.fd kvs)=> .ok d (M.set n (.dk kvs))
  | _=> .bad
 | _=> .bad
noncomputable def Le(m:Nat)(js:List Nat)(g:Tg)(tt:MT)(te:ME)(e:Sl)(d:D)(M:Mem):Out D:=match d with
 | .ref n=>match M[n]? with
  | some (.dk kvs)=>M6 n (Cy none g m tt te (ql js e) (kvs.map Ew) [] (M.set n (.fd kvs)))
  | _=> .bad
 | _=> .bad
def Vj(m:Nat)(js:List Nat)(mo:ME)(g:Tg)(tt:MT)(te:ME):ME:=λe M=>(mo e M).bind λd M1=>Le m js g tt te e d M1
section
variable{X:Cx}{ct:Nat->Addr}{W:bA}{pos:Pos}
theorem pairs_at{K:Frag}{ι:Nat->Addr}{n:Nat}{H:Hp}:∀{kvs:List (Key×D)} {ys:List (Key×V)},Be K ct ι n H kvs ys->∀{i:Nat} {p:Key×V},ys[i]? = some p->∃q,kvs[i]? = some q/\q.1=p.1/\DV K ct ι n H q.2 p.2
 | _,_,.nil,_,_,h=>by simp at h
 | _,_,.cons (d:=d) r t,0,_,h=>by simp at h;subst h;exact⟨(_,d),rfl,rfl,r⟩
 | _,_,.cons r t,i+1,_,h=>by
  obtain⟨q,h1,h2⟩:=pairs_at t (i:=i) (by simpa using h)
  exact⟨q,by simpa using h1,h2⟩
theorem aaw(hc:X.calm=true)(xs cs:List Str)(js:List Nat)(ho:SE X ct W o mo)(hcap:tV X scope cs js)
  (hg:∀cl C fp s H,SN (c7 X scope cl C (xs++cs) fp s H) ct xs.length (.Tuple es kt tp) g) (ht:∀cl C fp s H,STs (c7 X scope cl C (xs++cs) fp s H) ct W0 ifs tt) (he:∀cl C fp s H,SE (c7 X scope cl C (xs++cs) fp s H) ct W0 elt te)
  (hall:∀y∈scope.names,y.2= .free->y.1∈cs) (hcell:∀y∈scope.names,y.2≠ .cell) (hnames:∀y∈scope.names,y.2= .local->scope.names.lookup y.1=some .local)
  (hbase:attributeBase o "items" X.env (eval o X.env)=eval o X.env:=by rfl) (hline:(apos.endLine==pos1.line)=true:=by rfl)
  (hkind:scope.kind= .function:=by rfl) (hs:∀v,foldedSetIterable (.Call (.Attribute o "items" apos) [] [] pos1) X.env v=pure v:=by intro _;rfl):
  SE X ct W (.ListComp elt [⟨.Tuple es kt tp,.Call (.Attribute o "items" apos) [] [] pos1,ifs,0⟩] scope pos) (Vj xs.length js mo g tt te):=by
 refine dU (adP (aba (g:=tTN X.K ct xs.length g) (tt:=tG Gp X.K ct W0 tt) (te:=tG (dm X.K ct) X.K ct W0 te) hc xs cs js (aa0 (abe PySem.F.plainAttrs_dict PySem.F.slot_dict_items PySem.F.type_dict_items abo ho hbase hline)) hcap (λcl C fp s H=>ht cl C fp s H) (λcl C fp s H=>he cl C fp s H) hall hcell hnames (λcl C fp s H=>hg cl C fp s H) hkind hs)) λσ H Q q=> ?_
 obtain⟨ι,e,M,w,p⟩:=bN (dM:=dm X.K ct) (f:=λd e M1=>Le xs.length js g tt te e d M1) q
 refine⟨ι,e,M,w,p.mono ?_⟩
 rintro v H1 ⟨cg,e1,M1,d,w1,q1,p1⟩
 replace p1:gq (dm X.K ct) X.K ct (wAt W σ) cg M1.length H1 (Le xs.length js g tt te e1 d M1) Q:=p1
 unfold Le at p1
 split at p1
 ·rename_i n
  split at p1
  ·rename_i kvs hM
   obtain⟨hn,rfl⟩:=oX q1
   obtain⟨ys,hH,pv⟩:=w1.rl.obj n _ hM
   have hkl:ys.length=kvs.length:=pv.length
   refine⟨.inr (.inr (.inl ⟨rfl,.inl ⟨ys,hH⟩⟩)),_,rfl,rfl,.inl ⟨ys,.inl hH⟩,λvw hvw=> ?_⟩
   have nev:cg n≠vw:=λz=>by rw[z,hvw]at hH;cases hH
   have xv:Ext X.K cg M1.length H1 cg M1.length (upd H1 vw (Jw vw (cg n))):=Ext.fresh hvw
   have rv:Rl X.K ct cg M1 (upd H1 vw (Jw vw (cg n))):=w1.rl.fresh hvw
   obtain⟨Hv,hHv⟩:∃Hv,Hv=upd H1 vw (Jw vw (cg n)):=⟨_,rfl⟩
   rw[<-hHv]at xv rv
   have hHd:Hv (cg n)=some (.dK ys):=by rw[hHv,aL nev];exact hH
   have pvv:Be X.K ct cg M1.length Hv kvs ys:=pv.mono xv
   have wv:Ws X.K ct cg e1 M1 σ Hv:=w1.ext xv rv
   have pv1:=p1.ext xv
   rw[<-hHv]
   refine⟨vw,cg n,ys,rfl,by rw[hHv];exact bB,hHd,λo nf hlen=> ?_⟩
   obtain⟨Hz,hHz⟩:∃Hz,Hz=upd Hv (cg n) (.lU o (.dK ys)):=⟨_,rfl⟩
   have hzd:Hz (cg n)=some (.lU o (.dK ys)):=by rw[hHz];exact bB
   have x0:Ext X.K cg M1.length Hv cg M1.length Hz:=by rw[hHz];exact Ext.chg hHd (λ_ z=>nomatch z) (λ_ _ z=>nomatch z)
   have r0:Rl X.K ct cg (M1.set n (.fd kvs)) Hz:=by
    have:=rv.chg (o:= .lU o (.dK ys)) (x:= .fd kvs) hn hHd (λ_ z=>nomatch z) (λ_ _ z=>nomatch z) ⟨o,ys,bB,pvv.mono (by rw[<-hHz];exact x0)⟩
    rw[hHz];exact this
   have w0:Ws X.K ct cg e1 (M1.set n (.fd kvs)) σ Hz:=wv.ext (by rw[List.length_set];exact x0) r0
   rw[<-hHz]
   obtain⟨ds,hds⟩:∃ds,ds=kvs.map Ew:=⟨_,rfl⟩
   rw[<-hds]at pv1
   have hdl:ds.length=ys.length:=by rw[hds,zao,hkl]
   have fin:∀ι' M' H' ds' zs pp,Ext X.K cg M1.length Hz ι' M'.length H'->Rl X.K ct ι' M' H'->h_ X.K ct ι' M'.length H' ds' zs->H' pp=none->gq (dm X.K ct) X.K ct (wAt W σ) cg M1.length Hv (M6 n (.ok (.ref M'.length) (M'++[.lst ds']))) Q->
     ∃d o kvs,acK X d/\(upd H' pp (.lst zs)) d=some (.lU o (.dK kvs))/\Q (.ref pp) (upd (upd H' pp (.lst zs)) d (.dK kvs)):=λι' M' H' ds' zs pp x' r' dy hp p'=>by
    have hn':n<M'.length:=yA hn x'.le
    have en:ι' n=cg n:=x'.same n hn
    unfold M6 at p'
    simp only[zae hn']at p'
    cases z:M'[n]? with
    | none=>simp only[z]at p';exact p'.elim
    | some y=>
     cases y with
     | fd ks=>
      simp only[z]at p'
      obtain⟨o',ys',h',pv'⟩:=r'.obj n _ z
      rw[en]at h'
      have npp:cg n≠pp:=λq=>by rw[q,hp]at h';cases h'
      have hd2:(upd H' pp (.lst zs)) (cg n)=some (.lU o' (.dK ys')):=by rw[aL npp];exact h'
      refine⟨cg n,o',ys',nf,hd2,?_⟩
      have x2:Ext X.K ι' M'.length H' (jy ι' M'.length pp) (M'.length+1) (upd H' pp (.lst zs)):=Ext.new hp
      have e2:(jy ι' M'.length pp) M'.length=pp:=by unfold jy;rw[if_pos rfl]
      have en2:(jy ι' M'.length pp) n=cg n:=by rw[x2.same n hn',en]
      have r2:Rl X.K ct (jy ι' M'.length pp) (M'++[.lst ds']) (upd H' pp (.lst zs)):=r'.new hp ⟨zs,bB,dy.mono x2⟩
      have ln2:(M'++[MO.lst ds']).length=M'.length+1:=by simp
      have hn2:n<(M'++[MO.lst ds']).length:=by rw[ln2];omega
      have R3:=r2.ac2 (i:=n) (kvs:=ks) hn2 (by rw[en2];exact hd2) (by rw[ln2];exact pv'.mono x2)
      rw[en2]at R3
      refine p' (jy ι' M'.length pp) (.ref pp) _ ?_ R3 ?_
      ·rw[List.length_set,ln2]
       rw[hHz]at x'
       exact ab_ hHd (x'.trans x2) hd2
      ·have q9:∀(k:Nat) (HH:Hp),M'.length<k->DV X.K ct (jy ι' M'.length pp) k HH (.ref M'.length) (.ref ((jy ι' M'.length pp) M'.length)):=λk HH hk=> .ref hk
       rw[e2]at q9
       exact q9 _ _ (by rw[List.length_set,ln2];omega)
     | _=>simp only[z]at p';exact p'.elim
   refine⟨λi m zs H'=>m=ds.length - i/\i<=ds.length/\zs.length<=i/\∃ι' M' ds',Ext X.K cg M1.length Hz ι' M'.length H'/\Rl X.K ct ι' M' H'/\h_ X.K ct ι' M'.length H' ds' zs/\gq (dm X.K ct) X.K ct (wAt W σ) cg M1.length Hv (M6 n (Cy none g xs.length tt te (ql js e1) (ds.drop i) ds' M')) Q,
    ⟨ds.length,by simp,Nat.zero_le _,zab _,cg,M1.set n (.fd kvs),[],by rw[List.length_set];exact .refl,r0,.nil,by simpa using pv1⟩,?_⟩
   rintro i m zs H' ⟨rfl,hi,hy,ι',M',ds',x',r',dy,p'⟩
   have hq:H' (cg n)=some (.lU o (.dK ys)):=x'.fz _ _ _ hzd
   by_cases hlt:i<ds.length
   ·rw[List.drop_eq_getElem_cons hlt]at p'
    unfold Cy at p'
    rw[if_pos (show ir none M' from trivial)]at p'
    refine .inr ⟨⟨hq,()⟩,λZy H2=>Zy.length<=i+1/\∃gP M2 ds2,Ext X.K cg M1.length Hz gP M2.length H2/\Rl X.K ct gP M2 H2/\h_ X.K ct gP M2.length H2 ds2 Zy/\gq (dm X.K ct) X.K ct (wAt W σ) cg M1.length Hv (M6 n (Cy none g xs.length tt te (ql js e1) (ds.drop (i+1)) ds2 M2)) Q,?_,?_⟩
    ·rintro Zy H2 ⟨hl2,q2⟩
     exact⟨(),ds.length - (i+1),(),rfl,hlt,hl2,q2⟩
    ·rintro x H2 ⟨a,pr,ha,hpr,rfl,rfl⟩
     have x2:Ext X.K ι' M'.length H' ι' M'.length (upd H' a (.tup [kV pr.1,pr.2])):=Ext.fresh ha
     have r2:Rl X.K ct ι' M' (upd H' a (.tup [kV pr.1,pr.2])):=r'.fresh ha
     obtain⟨qr,hq1,hq2,hq3⟩:=pairs_at pvv hpr
     have dsi:ds[i]=Ew qr:=by
      have h3:ds[i]? = some (Ew qr):=by rw[hds,zan,hq1];rfl
      rw[zac hlt]at h3
      exact xI h3
     have xz:Ext X.K cg M1.length Hv ι' M'.length (upd H' a (.tup [kV pr.1,pr.2])):=(x0.trans x').trans x2
     have dv:DV X.K ct ι' M'.length (upd H' a (.tup [kV pr.1,pr.2])) ds[i] (.ref a):=by
      rw[dsi]
      refine .tup bB (.cons ?_ (.cons (hq3.mono xz) .nil))
      rw[hq2];exact Xa
     have w2:Ws X.K ct ι' (Fd xs.length++ql js e1) M' (Hh xs++L2.caps js σ) (upd H' a (.tup [kV pr.1,pr.2])):=(wv.ext xz r2).akD xs js
     refine⟨ι',_,M',ds[i],w2,dv,?_⟩
     cases zg:g ds[i] (Fd xs.length++ql js e1)with
     | none=>rw[zg]at p';exact p'.elim
     | some eg=>
     rw[zg]at p'
     dsimp only at p'
     intro σ' wg hd
     refine⟨⟨hd.1,by rw[hd.2];simp[Hh]⟩,ι',eg,M',wg,?_⟩
     cases z:tt eg M' with
     | bad=>simp only[z,Ji,Out.cW]at p';exact p'
     | exc xc xd xM=>simp only[z,Jh,Out.cW]at p';exact p'.elim
     | ok k M3=>
      simp only[z,w6,Out.b_]at p'
      intro DP k3 H3 x3 r3 ek
      have KR:k=k3:=ek;subst KR
      have w3:=wg.ext x3 r3
      have dy3:=(dy.mono x2).mono x3
      cases k with
      | false=>exact⟨(),DP,M3,ds',(x'.trans x2).trans x3,r3,dy3,p'⟩
      | true=>
       simp only[if_true]at p' ⊢
       refine⟨DP,_,M3,w3,?_⟩
       cases z4:te eg M3 with
       | bad=>simp only[z4,Ji,Out.cW]at p';exact p'
       | exc xc xd xM=>simp only[z4,Jh,Out.cW]at p';exact p'.elim
       | ok yy M4=>
        simp only[z4,w6,Out.b_]at p'
        intro ι4 v4 H4 x4 r4 d4
        exact⟨by rw[List.length_append];simp;omega,ι4,M4,ds'++[yy],((x'.trans x2).trans x3).trans x4,r4,(dy3.mono x4).append (.cons d4 .nil),p'⟩
   ·have e0:i=ds.length:=()
    subst e0
    rw[List.drop_length]at p'
    unfold Cy at p'
    rw[if_pos (show ir none M' from trivial)]at p'
    exact .inl ⟨⟨hq,()⟩,(),λpp hp=>fin ι' M' H' ds' zs pp x' r' dy hp p'⟩
  ·exact p1.elim
 ·exact p1.elim
end
section
variable{e:Sl}{M:Mem}
@[simp] theorem aip:Vj m js mo g tt te e M=(mo e M).bind λd M1=>Le m js g tt te e d M1:=id rfl
theorem set_same(h:M[n]? = some o):M.set n o=M:=by
 refine List.ext_getElem? λi=> ?_
 have hn:n<M.length:=(List.getElem?_eq_some_iff.mp h).1
 by_cases z:n=i
 ·subst z
  rw[zak hn,h]
 ·rw[zaj z]
theorem Ze(h:M[n]? = some (.dk kvs))(c:D->Bool)(f:D->D)(hh:∀d∈kvs.map Ew,∃e1,g d (Fd m++ql js e)=some e1/\∀M',tt e1 M'= .ok (c d) M'/\(c d=true->te e1 M'= .ok (f d) M')):
  Le m js g tt te e (.ref n) M= .ok (.ref M.length) (M++[.lst (((kvs.map Ew).filter c).map f)]):=by
 have hn:n<M.length:=(List.getElem?_eq_some_iff.mp h).1
 simp only[Le,h]
 rw[N8 (src:=none) c f trivial λd hd=>by obtain⟨e1,h1,h2⟩:=hh d hd;exact⟨e1,h1,(h2 _).1,(h2 _).2⟩]
 rw[List.nil_append]
 have e1:(M.set n (.fd kvs)++[MO.lst (((kvs.map Ew).filter c).map f)])[n]? = some (.fd kvs):=by
  rw[zae (by rw[List.length_set];exact hn),zak hn]
 simp only[M6,e1,List.length_set]
 rw[List.set_append_left _ _ (by rw[List.length_set];exact hn),List.set_set,set_same h]
end
end S
namespace L2
open PySem PySem.Spec PyProof.Rows
abbrev Dsc:=Nat×Str×Str×Stmt×List Str
abbrev i_(c:Nat)(n q:Str)(s:Stmt)(p:List Str):Dsc:=(c,n,q,s,p)
set_option genInjectivity false in
structure Fv where
 f:Addr
 oc:Value
 kV:Value
 dc:Value
 pm:Value
 cd:Value
 ct:Value
 od:Option Addr
 an:Option Addr
 sl:Array (Option Value)
def fv0:Fv:=⟨0,.none,.none,.none,.none,.none,.none,none,none,#[]⟩
noncomputable def d0:Dsc:=(0,"","",.Pass ⟨0,0,0,0⟩,[])
noncomputable def Fv.fd(x:Fv)(d:Dsc):FuncData:=fnOf d.2.1 d.2.2.1 (eU d.2.2.2.1) (cY d.2.2.2.1) (aZ d.2.2.2.1) .none x.kV x.dc x.pm x.an x.cd x.ct
def Bd(nm qn:Str)(st:Stmt)(ps:List Str):Prop:=∀(kV doc pm:Value) (an:Option Addr) (cdv ct:Value) (us:List Value),us.length=ps.length->bindArgs (fnOf nm qn (eU st) (cY st) (aZ st) .none kV doc pm an cdv ct) ⟨us,[]⟩=pure (ps.zip us)
structure ak4(K:Frag)(cls:Nat->Addr)(d:Dsc)(x:Fv):Prop where
 a0:(d.1==0)=true->nsIn K mainGlobals d.2.1=some (some (.ref x.f))
 a1:(d.1==0)=false->findIn K (.ref (cls (d.1 - 1))) d.2.1=some (some (.ref x.f))/\isFn K (.ref x.f)=true
 lk:K.lookup x.f=some ⟨x.oc,x.od,.func (x.fd d),x.sl⟩
 cd:codeIn K x.cd d.2.2.1=true
 kp:keepIn K (.ref x.f)=true
 bd:Bd d.2.1 d.2.2.1 d.2.2.2.1 d.2.2.2.2
def Q5(K:Frag)(cls:Nat->Addr):List Dsc->List Fv->Prop
 | [],[]=>True
 | d::ds,x::xs=>ak4 K cls d x/\Q5 K cls ds xs
 | _,_=>False
section
variable{K:Frag}{cls:Nat->Addr}
theorem Q5.ok:∀{ds:List Dsc} {xs:List Fv},Q5 K cls ds xs->∀{i:Nat},Nat.blt i ds.length=true->ak4 K cls (ds.getD i d0) (xs.getD i fv0)
 | [],_,_,i,hi=>by
  rw[Nat.blt_eq]at hi
  exact absurd hi (Nat.not_lt_zero _)
 | _::_,[],h,_,_=>h.elim
 | d::ds,x::xs,h,0,_=>h.1
 | d::ds,x::xs,h,i+1,hi=>by
  rw[Nat.blt_eq]at hi
  exact Q5.ok h.2 (by rw[Nat.blt_eq];simpa using hi)
theorem aew:∃xs,Q5 K cls [] xs:=⟨[],trivial⟩
theorem ahL{nm:Str}{st:Stmt}{ps:List Str}{ds:List Dsc}{f:Addr}{oc kV dc pm cd ct:Value}{od an:Option Addr}{sl:Array (Option Value)}(h1:nsIn K mainGlobals nm=some (some (.ref f)))
  (h2:K.lookup f=some ⟨oc,od,.func (fnOf nm nm (eU st) (cY st) (aZ st) .none kV dc pm an cd ct),sl⟩) (h3:codeIn K cd nm=true) (h4:keepIn K (.ref f)=true) (hb:Bd nm nm st ps) (r:∃xs,Q5 K cls ds xs):∃xs,Q5 K cls ((0,nm,nm,st,ps)::ds) xs:=
 let⟨xs,h⟩:=r
 ⟨⟨f,oc,kV,dc,pm,cd,ct,od,an,sl⟩::xs,⟨λ_=>h1,(λz=>nomatch z),h2,h3,h4,hb⟩,h⟩
theorem ahK{c:Nat}{nm qn:Str}{st:Stmt}{ps:List Str}{ds:List Dsc}{C f:Addr}{oc kV dc pm cd ct:Value}{od an:Option Addr}{sl:Array (Option Value)}(hC:cls c=C)(h1:findIn K (.ref C) nm=some (some (.ref f)))(h0:isFn K (.ref f)=true)
  (h2:K.lookup f=some ⟨oc,od,.func (fnOf nm qn (eU st) (cY st) (aZ st) .none kV dc pm an cd ct),sl⟩) (h3:codeIn K cd qn=true) (h4:keepIn K (.ref f)=true) (hb:Bd nm qn st ps) (r:∃xs,Q5 K cls ds xs):∃xs,Q5 K cls ((c+1,nm,qn,st,ps)::ds) xs:=
 let⟨xs,h⟩:=r
 ⟨⟨f,oc,kV,dc,pm,cd,ct,od,an,sl⟩::xs,⟨(λz=>nomatch z),λ_=>⟨by rw[Nat.add_sub_cancel,hC];exact h1,h0⟩,h2,h3,h4,hb⟩,h⟩
variable{ds:List Dsc}{xs:List Fv}
theorem Q5.fn(h:Q5 K cls ds xs)(hi:Nat.blt i ds.length=true):yJ K (ds.getD i d0).2.1 (ds.getD i d0).2.2.1 (ds.getD i d0).2.2.2.1 .none (xs.getD i fv0).f ((xs.getD i fv0).fd (ds.getD i d0)):=xU (h.ok hi).lk (h.ok hi).cd (h.ok hi).kp
theorem Q5.b(h:Q5 K cls ds xs)(hi:Nat.blt i ds.length=true):Binds K ((xs.getD i fv0).fd (ds.getD i d0)) (ds.getD i d0).2.2.2.2 []:=(h.fn hi).binds (h.ok hi).bd
theorem Q5.me(h:Q5 K cls ds xs)(hi:Nat.blt i ds.length=true)(h1:((ds.getD i d0).1==0)=false):Meth K (cls ((ds.getD i d0).1 - 1)) (ds.getD i d0).2.1 (xs.getD i fv0).f:=
 ⟨((h.ok hi).a1 h1).1,((h.ok hi).a1 h1).2,(h.ok hi).kp⟩
theorem Q5.mk(h:Q5 K cls ds xs)(hi:Nat.blt i ds.length=true)(h1:((ds.getD i d0).1==0)=false)(hn:(ds.getD i d0).2.1= "__init__")(hC:cls ((ds.getD i d0).1 - 1)=C)(m:PySem.W.makesIn K C=true)(k:keepIn K (.ref C)=true):Mk K C (xs.getD i fv0).f:=
 ⟨m,by rw[<-hC,<-hn];exact((h.ok hi).a1 h1).1,((h.ok hi).a1 h1).2,k⟩
def Bf(K:Frag)(C:Addr):List Str->Prop
 | []=>True
 | a::l=>vf K C a/\Bf K C l
theorem Bf.get:∀{l:List Str},Bf K C l->∀{i:Nat},Nat.blt i l.length=true->vf K C (l.getD i "")
 | [],_,i,hi=>by
  rw[Nat.blt_eq]at hi
  exact absurd hi (Nat.not_lt_zero _)
 | a::l,h,0,_=>h.1
 | a::l,h,i+1,hi=>by
  rw[Nat.blt_eq]at hi
  exact Bf.get h.2 (by rw[Nat.blt_eq];simpa using hi)
theorem zT:Bf K C []:=trivial
theorem vM(h:findIn K (.ref C) a=some none)(r:Bf K C l):Bf K C (a::l):=⟨h,r⟩
end
noncomputable def lW(b:Int):List Int->Int
 | []=>b
 | n::l=>lW (if n > b then n else b) l
def maxD(d:Int):List Int->Int
 | []=>d
 | n::l=>lW n l
theorem Bu:∀(l:List Int) (b:Int),b<=lW b l
 | [],b=>Int.le_refl _
 | n::l,b=>by
  have:=Bu l (if n > b then n else b)
  unfold lW
  split at this<;>rename_i h
  ·rw[if_pos h];omega
  ·rw[if_neg h];exact this
theorem Dm:∀(l:List Int) (b:Int),lW b l=b\/lW b l∈l
 | [],b=> .inl rfl
 | n::l,b=>by
  unfold lW
  by_cases h:n > b
  ·rw[if_pos h]
   rcases Dm l n with e | e
   ·exact .inr (by rw[e];exact xB)
   ·exact .inr (yT _ e)
  ·rw[if_neg h]
   rcases Dm l b with e | e
   ·exact .inl e
   ·exact .inr (yT _ e)
theorem Lk:∀(l:List Int) (b:Int),∀x∈l,x<=lW b l
 | [],b,x,h=>by cases h
 | n::l,b,x,h=>by
  unfold lW
  rcases List.mem_cons.mp h with e | e
  ·have:=Bu l (if n > b then n else b)
   subst e
   split at this<;>rename_i h2
   ·rw[if_pos h2];exact this
   ·rw[if_neg h2];omega
  ·exact Lk l _ x e
section
variable{prog:Program}{w:World}{A:Around}{R:Result->Shared->Prop}{I l S:Addr}{vs:List Value}{ns:List Int}{kw:List (Str×Value)}
theorem Fl:(toString "max" ++ toString ".loop" : String)= "max.loop" := by decide
theorem Xe(hr:Vals (ns.map V.int) vs){j:Nat}{n:Int}(h:ns[j]? = some n):∃t,vs.toArray[j]? = some (.int n t):=by
 obtain⟨u,hu,ru⟩:=hr.get (i:=j) (x:=V.int n) (by rw[zan,h];rfl)
 obtain⟨t,rfl⟩:=ru
 exact⟨t,by simpa using hu⟩
theorem aep{Q:Value->Shared->Prop}{E:Value->Shared->Prop}(h:Q (.bool (decide (a > b))) s):wpAny (model prog w) A (richCompare .Gt (.int a t) (.int b u)) Q E s:=
 CmpOf.ints_gt (P:=λi v=>(i=0/\v= .int a t)\/(i=1/\v= .int b u)) (λi=>if i=0 then a else b) (λi v z=>by
  rcases z with⟨rfl,rfl⟩ | ⟨rfl,rfl⟩
  ·exact⟨t,rfl⟩
  ·exact⟨u,rfl⟩) 0 1 _ _ s Q E (.inl ⟨rfl,rfl⟩) (.inr ⟨rfl,rfl⟩) h
theorem YL(hh:A.handled=none)(hr:Vals (ns.map V.int) vs)(hlI:l≠I)(hlS:l≠S)(hIS:I≠S):∀(k j:Nat) (s:Shared) (b:Int) (tb:Tok) (c:Nat),j+k=ns.length->s.heap.IsListIter I l j->s.heap.IsList l vs.toArray->
      s.heap.get? S=some {cls:= .type "list",dict:=none,data:= .seq #[.int b tb,.int b tb] c,slots:= #[]}->
   (∀(t:Tok) (h':Heap),(∀x o,x≠I->x≠S->s.heap.get? x=some o->h'.get? x=some o)->R (.ok (.ret (.int (lW b (ns.drop j)) t))) {s with heap:=h'})->
   codeAny (model prog w) A (.builtin "max.loop" ⟨[.ref I,.none,.ref S],kw⟩) R s:=by
 intro k
 induction k with
 | zero=>
  intro j s b tb c hk hit hl hS hR
  have hj:j=ns.length:=()
  have hz:vs.length=ns.length:=by rw[<-hr.length,zao]
  refine codeAny_builtin PySem.F.entry_max_loop (by
   rw[Around.under_plainId PySem.F.plain_max_loop]
   show wpAny _ A.in1 (seqItems? (.ref S) >>= _) _ _ s
   refine zC (wpAny_seqItems hS rfl ?_)
   show wpAny _ A.in1 (tryCatch (pyNext (.ref I)) _ >>= _) _ _ s
   refine zC (wpAny_tryCatch (wpAny_pyNext_list_end (A:=A.in1) hh hit hl (by simp;omega) λh1 e1=> ?_))
   have hS1:=e1 S _ (Ne.symm hIS) hS
   show wpAny _ A.in1 (updateSeq S (λ_=> #[]) >>= _) _ _ {s with heap:=h1}
   refine zC (wpAny_updateSeq (s:={s with heap:=h1}) hS1 rfl (zC (wpAny_letGo (zI ?_))))
   have e0:ns.drop j=[]:=by rw[hj];exact List.drop_length
   have:=hR tb (h1.update S (Obj.mapSeq λ_=> #[])) λx o nI nS e=>(xL _ _ (Ne.symm nS)).trans (e1 x o nI e)
   rw[e0]at this
   exact this)
 | succ k ih=>
  intro j s b tb c hk hit hl hS hR
  have hlt:j<ns.length:=()
  have hn:ns[j]? = some ns[j]:=zac hlt
  obtain⟨t,hv⟩:=Xe hr hn
  have ed:ns.drop j=ns[j]::ns.drop (j+1):=List.drop_eq_getElem_cons hlt
  refine codeAny_builtin PySem.F.entry_max_loop (by
   rw[Around.under_plainId PySem.F.plain_max_loop]
   show wpAny _ A.in1 (seqItems? (.ref S) >>= _) _ _ s
   refine zC (wpAny_seqItems hS rfl ?_)
   show wpAny _ A.in1 (tryCatch (pyNext (.ref I)) _ >>= _) _ _ s
   refine zC (wpAny_tryCatch (wpAny_pyNext_list_item hit hl hv λh1 hit1 sb1=> ?_))
   have k1:∀x o,x≠I->s.heap.get? x=some o->h1.get? x=some o:=λx o nI e=>(sb1.2 x nI).trans e
   have hS1:=k1 S _ (Ne.symm hIS) hS
   have hl1:h1.IsList l vs.toArray:=hl.at λo e=>k1 l o hlI e
   show wpAny _ A.in1 (tryCatch (holding [.int ns[j] t,.int ns[j] t] (richCompare .Gt (.int ns[j] t) (.int b tb) >>= _)) _ >>= _) _ _ {s with heap:=h1}
   refine zC (wpAny_tryCatch (wpAny_holding (zC (aep (s:={s with heap:=h1}) ?_))))
   refine zC (wpAny_holding (wpAny_truthy_bool (zC (wpAny_letGo (zI ?_)))))
   by_cases z:ns[j] > b
   ·rw[zag z]
    simp only[if_true]
    refine zC (wpAny_updateSeq (s:={s with heap:=h1}) hS1 rfl (zC (wpAny_letGo ?_)))
    rw[Fl]
    have k2:∀x o,x≠S->h1.get? x=some o->(h1.update S (Obj.mapSeq λ_=> #[.int ns[j] t,.int ns[j] t])).get? x=some o:=λx o nS e=>(xL _ _ (Ne.symm nS)).trans e
    refine zI ⟨plainId_quiet PySem.F.plain_max_loop _,ih (j+1) _ ns[j] t _ () (hit1.at λo e=>k2 I o hIS e) (hl1.at λo e=>k2 l o hlS e) (vF _ hS1 rfl) λt' h' kk=> ?_⟩
    have:=hR t' h' λx o nI nS e=>kk x o nI nS (k2 x o nS (k1 x o nI e))
    rw[ed,lW,if_pos z]at this
    exact this
   ·rw[zaf z]
    simp only[Bool.false_eq_true,if_false]
    refine zC (wpAny_letGo ?_)
    rw[Fl]
    refine zI ⟨plainId_quiet PySem.F.plain_max_loop _,ih (j+1) _ b tb c () hit1 hl1 hS1 λt' h' kk=> ?_⟩
    have:=hR t' h' λx o nI nS e=>kk x o nI nS (k1 x o nI e)
    rw[ed,lW,if_neg z]at this
    exact this)
theorem abt(a v:Value):argsOk "max" ⟨[a],[(Str.ofString "default",v)]⟩:=by unfold argsOk;kernel_rfl
theorem YM{Q:Value->Shared->Prop}{E:Value->Shared->Prop}(hh:A.handled=none)(hr:Vals (ns.map V.int) vs)(hl:s.heap.IsList l vs.toArray)
  (hQ:∀(t:Tok) (h':Heap),(∀x o,s.heap.get? x=some o->h'.get? x=some o)->Q (.int (maxD d ns) t) {s with heap:=h'}):wpAny (model prog w) A (call (.builtin "max") [.ref l] [(Str.ofString "default",.int d td)]) Q E s:=by
 obtain⟨ol,hol,_⟩:=id hl
 have hll:l<s.heap.objs.size:=zS hol
 refine kmk_tree PySem.F.kind_max PySem.F.plain_max PySem.F.entry_max (abt _ _) ?_
 refine zC (wpAny_of_eq (show Builtin.Builtins.bindParams "max" ["key","default"] 0 ⟨[],[(Str.ofString "default",.int d td)]⟩=pure [none,some (.int d td)]from rfl) ?_)
 refine zC (zI (zC (wpAny_pyIter_list hl ?_)))
 refine zC (wpAny_newList ?_ (Nat.zero_le _))
 rw[Fl]
 obtain⟨h1,e1⟩:∃h1,h1=s.heap.push {cls:= .type "list_iterator",data:= .fields #[.ref l,.int 0 0]}:=⟨_,rfl⟩
 obtain⟨h2,e2⟩:∃h2,h2=h1.push {cls:= .type "list",data:= .seq ([]:List Value).toArray}:=⟨_,rfl⟩
 have z1:h1.objs.size=s.heap.objs.size+1:=by rw[e1,Heap.size_push]
 have g:∀x o,s.heap.get? x=some o->h2.get? x=some o:=λx o e=>by rw[e2,e1];exact zD _ (zD _ e)
 have hI:h2.get? s.heap.objs.size=some {cls:= .type "list_iterator",data:= .fields #[.ref l,.int 0 0]}:=by rw[e2,e1];exact zD _ (yB _ rfl)
 have hS:h2.get? h1.objs.size=some {cls:= .type "list",dict:=none,data:= .seq #[] 0,slots:= #[]}:=by rw[e2];exact yB _ rfl
 have hit:h2.IsListIter s.heap.objs.size l 0:=⟨_,hI,rfl,rfl⟩
 have hl2:h2.IsList l vs.toArray:=hl.at λo e=>g l o e
 have hlI:l≠s.heap.objs.size:=xD hll
 have hlS:l≠h1.objs.size:=by rw[z1];exact xD (Nat.lt_succ_of_lt hll)
 have hIS:s.heap.objs.size≠h1.objs.size:=by rw[z1];exact xD (Nat.lt_succ_self _)
 have old:∀{x:Addr} {o:Obj},s.heap.get? x=some o->x≠s.heap.objs.size/\x≠h1.objs.size:=λ{x o} e=>by
  have q:x<s.heap.objs.size:=zS e
  exact⟨xD q,by rw[z1];exact xD (Nat.lt_succ_of_lt q)⟩
 rw[<-e1,<-e2]
 refine zI ⟨plainId_quiet PySem.F.plain_max_loop _,codeAny_builtin PySem.F.entry_max_loop (by
  rw[Around.under_plainId PySem.F.plain_max_loop]
  show wpAny _ A.in1 (seqItems? (.ref h1.objs.size) >>= _) _ _ {s with heap:=h2}
  refine zC (wpAny_seqItems (s:={s with heap:=h2}) hS rfl ?_)
  show wpAny _ A.in1 (tryCatch (pyNext (.ref s.heap.objs.size)) _ >>= _) _ _ {s with heap:=h2}
  have hz:vs.length=ns.length:=by rw[<-hr.length,zao]
  match ns,hr,hz,hQ with
  | [],hr,hz,hQ=>
   refine zC (wpAny_tryCatch (wpAny_pyNext_list_end (A:=A.in1) (s:={s with heap:=h2}) hh hit hl2 (by simp;simpa using hz) λh3 e3=> ?_))
   exact zC (wpAny_rule (zI (hQ td h3 λx o e=>e3 x o (old e).1 (g x o e))))
  | n::r,hr,hz,hQ=>
   obtain⟨t,hv⟩:=Xe (j:=0) (n:=n) hr rfl
   refine zC (wpAny_tryCatch (wpAny_pyNext_list_item (s:={s with heap:=h2}) hit hl2 hv λh3 anq sb3=> ?_))
   have k3:∀x o,x≠s.heap.objs.size->h2.get? x=some o->h3.get? x=some o:=λx o nI e=>(sb3.2 x nI).trans e
   have hS3:=k3 _ _ (Ne.symm hIS) hS
   show wpAny _ A.in1 (updateSeq h1.objs.size (λ_=> #[.int n t,.int n t]) >>= _) _ _ {s with heap:=h3}
   refine zC (wpAny_updateSeq (s:={s with heap:=h3}) hS3 rfl ?_)
   rw[Fl]
   have k4:∀x o,x≠h1.objs.size->h3.get? x=some o->(h3.update h1.objs.size (Obj.mapSeq λ_=> #[.int n t,.int n t])).get? x=some o:=λx o nS e=>(xL _ _ (Ne.symm nS)).trans e
   refine zI ⟨plainId_quiet PySem.F.plain_max_loop _,YL hh hr hlI hlS hIS r.length 1 _ n t _ (by simp;omega) (anq.at λo e=>k4 _ o hIS e) ((hl2.at λo e=>k3 l o hlI e).at λo e=>k4 l o hlS e) (vF _ hS3 rfl) λt' h' kk=> ?_⟩
   exact hQ t' h' λx o e=>kk x o (old e).1 (old e).2 (k4 x o (old e).2 (k3 x o (old e).1 (g x o e))))⟩
end
section
variable{X:Cx}
def afo(K:Frag):R2:=λx y H Q=>∃l ns d,x= .ref l/\y= .int d/\pB K H l (ns.map V.int)/\Q (.int (maxD d ns)) H
theorem adQ(hc:X.calm=true)(hg:Gl X "max")(hm:X.mg "max" = none)(ha:PE X a ta)(hb:PE X b tb)
  (he:backTo pos (starEach [a] X.env)=(false,eval a X.env)::backTo pos (starEach [] X.env):=by rfl) (hs:starEach [a] X.env=(false,eval a X.env)::starEach [] X.env:=by rfl) (hplain:(backTo pos (starEach [a] X.env)).any (·.1)=false:=by rfl)
  (hall:(backToKw pos (keywordEach [⟨some "default",b,kp⟩] X.env)).all (·.1.isSome)=true:=by rfl) (hkw:(backToKw pos (keywordEach [⟨some "default",b,kp⟩] X.env)).any (·.1.isNone)=false:=by rfl)
  (hnm:(backToKw pos (keywordEach [⟨some "default",b,kp⟩] X.env)).filterMap (·.1)=[("default" : Str)]:=by rfl):PE X (.Call (.Name "max" p) [a] [⟨some "default",b,kp⟩] pos) (tOp (afo X.K) ta tb):=by
 intro pins s σ H Q I h
 refine wpAny_Call_Name_kw (Gw I hg hm Lh (callWith_kw ?_ he hplain hall hkw))
 rw[hs]
 show wpAny _ _ (spliced ((false,eval a X.env)::backTo pos (starEach [] X.env))) _ _ s
 refine Calls.spliced_cons (fP (ha pins s σ H _ I h) ?_)
 rintro u s1 ⟨x,H1,I1,r1,q1⟩
 refine Calls.spliced_nil ?_
 refine kws_cons (fP (hb pins s1 σ H1 _ I1 q1) ?_)
 rintro u2 s2 ⟨y,H2,I2,r2,q2⟩
 refine kws_nil ?_
 rw[hnm]
 obtain⟨l,ns,d,rfl,rfl,hq,q⟩:=q2
 obtain⟨t,rfl⟩:=r2
 cases(show u=Value.ref l from r1)
 obtain⟨its,rv,pl,hz⟩:=I2.list hq
 exact YM (A:=X.A) (I2.ok.hd hc) rv pl.isList λt' h' kk=>⟨.int _,H2,I2.kept (t':=s2.toks) kk,⟨t',rfl⟩,q⟩
end
end L2
namespace S
open PySem PySem.Spec PyProof.Rows L2
noncomputable def JZ:qZ:=λd e M=>match d,e with
 | .ref n,.int k=>match n_ M n with
  | some es=>match jk es with
   | some is=> .ok (.int (maxD k is)) M
   | none=> .bad
  | none=> .bad
 | _,_=> .bad
section
variable{X:Cx}{ct:Nat->Addr}{W:bA}
theorem adX:Q4 X.K ct JZ (afo X.K):=by
 intro w ι M H d d' v v' Q R h h' p
 unfold JZ at p
 split at p
 ·rename_i n k
  obtain⟨hn,rfl⟩:=oX h
  cases oY h'
  split at p
  ·rename_i es z
   split at p
   ·rename_i is zi
    obtain⟨ys,hH,dy⟩:=R.obj n _ (iU.mp z)
    have e:=oE zi dy
    subst e
    exact⟨_,is,k,rfl,rfl,pB.of hH,p ι _ H .refl R (.int _)⟩
   ·exact p.elim
  ·exact p.elim
 ·exact p.elim
theorem adk(hc:X.calm=true)(hg:Gl X "max")(hm:X.mg "max" = none)(ha:SE X ct W a ma)(hb:SE X ct W b mb)
  (he:backTo pos (starEach [a] X.env)=(false,eval a X.env)::backTo pos (starEach [] X.env):=by rfl) (hs:starEach [a] X.env=(false,eval a X.env)::starEach [] X.env:=by rfl) (hplain:(backTo pos (starEach [a] X.env)).any (·.1)=false:=by rfl)
  (hall:(backToKw pos (keywordEach [⟨some "default",b,kp⟩] X.env)).all (·.1.isSome)=true:=by rfl) (hkw:(backToKw pos (keywordEach [⟨some "default",b,kp⟩] X.env)).any (·.1.isNone)=false:=by rfl)
  (hnm:(backToKw pos (keywordEach [⟨some "default",b,kp⟩] X.env)).filterMap (·.1)=[("default" : Str)]:=by rfl):SE X ct W (.Call (.Name "max" p) [a] [⟨some "default",b,kp⟩] pos) (aC JZ ma mb):=
 dU (adQ hc hg hm ha hb he hs hplain hall hkw hnm) λσ H Q q=>JK adX q
end
theorem Yj(h:M[n]? = some (.lst (is.map D.int))):JZ (.ref n) (.int k) M= .ok (.int (maxD k is)) M:=by
 simp only[JZ,dh h,JH]
end S
namespace L2
open PySem PySem.Spec PyProof.Rows
open PySem.MeetsSeq PySem.MeetsSeq2 PySem.MeetsSeq3
section
variable{prog:Program}{w:World}{A:Around}{E:Value->Shared->Prop}{s:Shared}
theorem FJ{items:Array Value}{lo hi:Option Int}{Q:Value->Shared->Prop}(ht:IsTup s.heap t items)(hs:s.heap.IsSliceOf sl vl vu .none)(pl:IsPart vl lo)(pu:IsPart vu hi)
  (hw:HT.bh items.size 0 lo=0/\HT.bh items.size items.size hi=items.size) (h:Q (.ref t) s):wpAny (model prog w) A (getItem (.ref t) (.ref sl)) Q E s:=by
 obtain⟨os,hos,hcs,hds⟩:=id hs
 have hTs:s.TypeIs (.ref sl) "slice" := ⟨os,hos,hcs⟩
 unfold getItem
 try with_reducible refine wpAny_holding ?_
 first | refine zC (zI ?_) | skip
 refine zC (wpAny_sequenceKey ht.typeIs (by decide) ?_)
 refine zC (zai (name:=Str.ofString "__getitem__") ht.typeIs PyProof.Rows.slot_tuple_getitem
  (uS PyProof.Rows.slot_tuple_getitem ht.typeIs entry_tuple_getitem ?_ (args_tuple_getitem _ _)))
 show wpAny _ _ (Builtin.Tuple.tupleItemsOf (.ref t) >>= _) _ _ s
 refine zC (tupleItemsOf_ ht ?_)
 refine zC (wpAny_typeOf hTs ?_)
 rw[if_pos (by decide)]
 refine zC (HT.vz hs pl pu ?_)
 have yes:(((HT.bh items.size 0 lo:Nat):Int)==0&&(1:Int)==1&&(HT.bh items.size items.size hi - HT.bh items.size 0 lo)==items.size)=true:=by
  rw[hw.1,hw.2];simp
 show wpAny _ _ (if(((HT.bh items.size 0 lo:Nat):Int)==0&&(1:Int)==1&&(HT.bh items.size items.size hi - HT.bh items.size 0 lo)==items.size)=true then _ else _) _ _ s
 rw[if_pos yes]
 refine zC ?_
 unfold Builtin.Tuple.tupleIsExact
 refine zC (wpAny_typeOf ht.typeIs ?_)
 refine zI ?_
 rw[if_pos (by decide)]
 refine zC (wpAny_rule ?_)
 exact zI ⟨_,rfl,zI h⟩
end
section
variable{X:Cx}
def amM(K:Frag):V->Option Int->Option Int->Hp->VK->Prop:=λx lo hi H Q=>∃a xs,x= .ref a/\kO K H a xs/\
 (HT.bh xs.length 0 lo=0/\HT.bh xs.length xs.length hi=xs.length)/\Q (.ref a) H
theorem af5:SlR X (amM X.K):=by
 intro pins s σ H x v vl vu lo hi sl Q I rx hs pl pu h
 obtain⟨a,xs,rfl,hx,hw,q⟩:=h
 cases rx
 obtain⟨its,r,ht,hz⟩:=I.tuple hx
 have hlen:its.toArray.size=xs.length:=by rw[List.size_toArray];exact r.length.symm
 refine⟨"tuple",_,PyProof.Rows.slot_tuple_getitem.lookup,ht.typeIs,?_⟩
 exact FJ ht hs pl pu (by rw[hlen];exact hw) ⟨.ref a,H,I,rfl,q⟩
end
end L2
namespace S
open PySem PySem.Spec PyProof.Rows L2
section
variable{X:Cx}{ct:Nat->Addr}{W:bA}{a:Expr}{ma:ME}{pos:Pos}
noncomputable def aay(d:D)(lo hi:Option Int)(M:Mem):Out D:=match d with
 | .tup ds=> .ok (.tup (cut ds lo hi)) M
 | _=> .bad
theorem Xw{α:Type}{xs:List α}{lo hi:Option Int}(h:HT.bh xs.length 0 lo=0/\HT.bh xs.length xs.length hi=xs.length):cut xs lo hi=xs:=by
 unfold cut
 rw[h.1,h.2]
 simp
noncomputable def YQ(m:ME)(lo hi:MO'):ME:=λe M=>(m e M).bind λd M1=>(lo e M1).bind λl M2=>(hi e M2).bind λh M3=>aay d l h M3
theorem O1{lo hi:Option Expr}{ml mh:MO'}(ha:SE X ct W a ma)(hl:SO X ct W lo ml)(hh:SO X ct W hi mh):SE X ct W (.Subscript a (.Slice lo hi none p2) pos) (YQ ma ml mh):=by
 refine dU (R9 (aaq.or af5) ha hl hh) λσ H Q q=> ?_
 obtain⟨ι,e,M,w,p⟩:=bN (dM:=dm X.K ct) (f:=λd e M1=>(ml e M1).bind λl M2=>(mh e M2).bind λh M3=>aay d l h M3) q
 refine⟨ι,e,M,w,p.mono ?_⟩
 rintro v H1 ⟨cg,e1,M1,d,w1,q1,p1⟩
 refine⟨cg,e1,M1,w1,?_⟩
 cases z:ml e1 M1 with
 | bad=>simp only[z,Out.cW]at p1;exact p1
 | exc xc xd xM=>simp only[z,Out.gb]at p1;exact p1
 | ok l M2=>
  simp only[z,Out.b_]at p1
  intro gP l' H2 x2 r2 el
  have KR:l=l':=el;subst KR
  refine⟨gP,e1,M2,w1.ext x2 r2,?_⟩
  have p2:=p1.ext x2
  cases z2:mh e1 M2 with
  | bad=>simp only[z2,Out.cW]at p2;exact p2
  | exc xc xd xM=>simp only[z2,Out.gb]at p2;exact p2
  | ok h M3=>
   simp only[z2,Out.b_]at p2
   intro DP h' H3 x3 r3 eh
   have KR:h=h':=eh;subst KR
   have p3:=p2.ext x3
   have q3:=(q1.mono x2).mono x3
   cases d with
   | tup ds=>
    obtain⟨aa,xs,rfl,hs,hd⟩:=Qz q3
    simp only[aay]at p3
    by_cases hw:HT.bh ds.length 0 l=0/\HT.bh ds.length ds.length h=ds.length
    ·rw[Xw hw]at p3
     exact .inr ⟨_,_,rfl,hs,by rw[hd.length];exact hw,p3 DP _ H3 .refl r3 q3⟩
    ·exact .inl ⟨_,_,rfl,hs,by rw[hd.length];exact hw,λpp hp=>Eu r3 (hd.cut l h) hp p3⟩
   | _=>exact p3.elim
@[simp] theorem alz{lo hi:MO'}:YQ m lo hi e M=(m e M).bind (bd3 aay lo hi e):=id rfl
@[simp] theorem ai8{ds:List D}{lo hi:Option Int}:aay (.tup ds) lo hi M= .ok (.tup (cut ds lo hi)) M:=id rfl
end
end S
namespace L2
open PySem PySem.Spec PyProof.Rows
open PySem.MeetsSeq PySem.MeetsSeq2 PySem.MeetsSeq3 PySem.SeqAt
section
variable{prog:Program}{w:World}{A:Around}{E:Value->Shared->Prop}{s:Shared}
theorem acu{ws:List Value}{Q:Value->Shared->Prop}(ht:IsTup s.heap t ([]:List Value).toArray)(hb:IsTup s.heap b ws.toArray)(h:Q (.ref b) s):wpAny (model prog w) A (binaryOp .Add (.ref t) (.ref b)) Q E s:=by
 obtain⟨⟨cls,dd,data,sl⟩,ho,hc,n,hd⟩:=id ht
 obtain⟨⟨cls2,dd2,data2,sl2⟩,ho2,hc2,n2,hd2⟩:=id hb
 simp only at hc hd hc2 hd2
 subst hc hd hc2 hd2
 exact concat_meets ⟨_,ho,rfl⟩ ⟨_,ho2,rfl⟩ noFill_tuple_add seq_tuple_add PySem.F.slot_tuple_add PySem.F.entry_tuple_add (PySem.F.args_tuple_add_2 _ _)
  (tuple_addW0 t b ([]:List Value).toArray ws.toArray n n2 dd dd2 sl sl2 (by simp)) ⟨ho,ho2,h⟩
end
section
variable{X:Cx}
def ajv(K:Frag):R2:=λx y H Q=>∃a b ys,x= .ref a/\y= .ref b/\kO K H a []/\kO K H b ys/\Q (.ref b) H
theorem ad1:uy X (binaryOp .Add) (ajv X.K):=by
 intro pins s σ H x y v u Q I rx ry h
 obtain⟨a,b,ys,rfl,rfl,ha,hb,q⟩:=h
 cases rx
 cases ry
 obtain⟨its,r1,p1,_⟩:=I.tuple ha
 obtain⟨its2,r2,p2,_⟩:=I.tuple hb
 cases r1
 exact acu p1 p2 ⟨.ref b,H,I,rfl,q⟩
end
end L2
namespace S
open PySem PySem.Spec PyProof.Rows L2
section
variable{X:Cx}{ct:Nat->Addr}{M:Mem}
noncomputable def aaH:qZ:=λd e M=>match d,e with
 | .tup [],.tup ys=> .ok (.tup ys) M
 | _,_=> .bad
theorem aeL:fO X ct (binaryOp .Add) aaH:=by
 refine⟨_,ad1,λι M H d d' v v' Q R h h' p=> ?_⟩
 unfold aaH at p
 split at p
 ·rename_i ys
  obtain⟨a,vs,rfl,ha,hd⟩:=lK h
  obtain⟨b,us,rfl,hb,hd'⟩:=lK h'
  cases hd
  exact⟨a,b,us,rfl,rfl,kO.of ha,kO.of hb,p ι _ H .refl R (.tup hb hd')⟩
 ·exact p.elim
def J4:qZ:=uE Ni aaH
theorem XM:fO X ct (binaryOp .Add) J4:=XJ.or aeL
theorem aaK(h:xs.length+ys.length<=sizeLine):J4 (.tup xs) (.tup ys) M= .ok (.tup (xs++ys)) M:=by
 cases xs with
 | nil=>exact(p_ (by simp[Ni])).trans rfl
 | cons x xs=>exact iz (by simp only[Ni];exact if_pos ⟨rfl,h⟩)
end
end S
namespace L2
open PySem
theorem gm.mo(r:gm k A)(h:j<=k:=by decide):gm j A:=r.mono h
end L2
namespace S
open PySem PySem.Spec PyProof.Rows L2
theorem bT{P:Program}{w:World}{K:Frag}{mg:Str->Option Value}{base:Heap}{ct:Nat->Addr}{n ar:Nat}{b:MS}{x qual:Str}{st:Stmt}{dV:Value}{f:Addr}{fd:FuncData}{ps:List Str}{k:Nat}(N:List Str)(F:yJ K x qual st dV f fd)(Z:pL N ps (aZ st))
  (hbody:∀{cdv:Value} {A:Around} {outer:List PySem.Env} {s:Shared} {H:Hp} {E:XK} {W:bA},gm k (A.deeper (envOfC qual (aZ st) s.heap.objs.size f cdv))->N.Nodup->(A.deeper (envOfC qual (aZ st) s.heap.objs.size f cdv)).units+64<cLine->
   ZF ((vY (DK P w) P w K mg base N qual (aZ st) f cdv A outer s H E).wish (ig (vY (DK P w) P w K mg base N qual (aZ st) f cdv A outer s H E) W)) ct W (cY st) b) (hn:N.length=n:=by rfl) (har:ps.length=ar:=by rfl):
  gw P w K mg base (DK P w) (k+1) f fd ps (spS K ct (aP n b) ar):=anI F Z hn har λ_ _ _ _ _ _ _ hr=>hbody hr Z.nd hr.units
theorem cQ{X:Cx}{W:bA}:Tk (X.wish (ig X W)) W:=Tk.wish
theorem jj{α:Type}{a:α}{q:Prop}:a=a\/q:=Or.inl rfl
end S
set_option Elab.async false
set_option maxHeartbeats 0
set_option maxRecDepth 100000
set_option linter.all false
namespace My
open PySem L2 S
def yo:MS:=
 (jM (aY (aC sLt (aq 1) (xx gJ (au (aq 0) aF)))) (bz (aC bh (aq 0) (aq 1))) bH)
def uV:MS:=
 (aQ yo
 (bz (mC (.int 0))))
def k_:Fn:=aP 2 uV
def yV:MS:=
 (bV (aC rQ (aq 2) (aC CP (aC O_ (aC aaz (aq 0) (aq 3)) (mC (.int 1))) (aC bh (aq 1) (aq 3)))) (gN 2))
def HB:MS:=
 (Ih (Ko (au (mC (.int 5)) aF)) (gN 3) yV)
def GR:MS:=
 (aQ (bV (mC (.int 0)) (gN 2))
 (aQ HB
 (bz (aq 2))))
def q_:Fn:=aP 4 GR
def Ag:MS:=
 (jM (ZD (aY (aC Yk (aq 1) (xx gJ (au (aq 0) aF)))) (aY (aC U0 (aC bh (aq 0) (aq 1)) (aq 2)))) (bz (aq 1)) bH)
def gQ:MS:=
 Ag
def Am:MS:=
 (Ih (Vi (mC (.mW [(.mW [(.str "once"),(.str "free")]),(.mW [(.str "best"),(.str "any")]),(.mW [(.str "own"),(.str "old")]),(.mW [(.str "most"),(.str "half")])]))) (gT 2 (d8 (gN 1) (d8 (gN 2) vW))) gQ)
def Af:MS:=
 (jM (aY (aC J2 (xx gJ (au (aq 0) aF)) (xx gJ (au (mC (.mW [(.mW [(.str "once"),(.str "free")]),(.mW [(.str "best"),(.str "any")]),(.mW [(.str "own"),(.str "old")]),(.mW [(.str "most"),(.str "half")])])) aF)))) (bz (xx gJ (au (mC (.mW [(.mW [(.str "once"),(.str "free")]),(.mW [(.str "best"),(.str "any")]),(.mW [(.str "own"),(.str "old")]),(.mW [(.str "most"),(.str "half")])])) aF))) bH)
def x_:MS:=
 (aQ Am
 (aQ Af
 (bz (mC .non))))
def xq:Fn:=aP 3 x_
def Aj:MS:=
 (jM (aY (aC zA (aq 3) (mC .non))) O9 bH)
def nO:MS:=
 (aQ (bV (mBM "str" Gn (aq 1) (au (mC (.str " ")) aF)) (gN 2))
 (aQ (bV (bZ xq 1 [] (au (aq 2) aF)) (gN 3))
 (aQ Aj
 (aQ (dJ [6] (aq 0) (aC sEq (aC bh (aq 2) (mC (.int 0))) (mC (.str "once"))) "once")
 (aQ (dJ [6] (aq 0) (aC sEq (aC bh (aq 2) (mC (.int 1))) (mC (.str "best"))) "best")
 (aQ (dJ [6] (aq 0) (aC sEq (aC bh (aq 2) (mC (.int 2))) (mC (.str "own"))) "own")
 (dJ [6] (aq 0) (aC sEq (aC bh (aq 2) (mC (.int 3))) (mC (.str "most"))) "most")))))))
def jQ:Fn:=aP 4 nO
def Gd:MS:=
 (aQ (bV (z8 6 jQ 2 [(.str "once best own most")] aF) (gN 1))
 (aQ (dJ [6] (aq 1) (b8 [6] (aq 0) "once") "once")
 (aQ (dJ [6] (aq 1) (b8 [6] (aq 0) "best") "best")
 (aQ (dJ [6] (aq 1) (b8 [6] (aq 0) "own") "own")
 (aQ (dJ [6] (aq 1) (b8 [6] (aq 0) "most") "most")
 (bz (aq 1)))))))
def Fi:Fn:=aP 2 Gd
def tQ:MS:=
 (aQ (dJ [0,7,8] (aq 0) (aq 1) "rules")
 (aQ (dJ [0] (aq 0) uv "terms")
 (aQ (dJ [0] (aq 0) uv "votes")
 (aQ (dJ [0] (aq 0) uv "askings")
 (dJ [0] (aq 0) uv "seated")))))
def sO:Fn:=aP 2 tQ
def tH:MS:=
 (aQ (dJ [7] (aq 0) (aq 1) "first_roll")
 (aQ (dJ [0,7,8] (aq 0) (aq 2) "rules")
 (aQ (dJ [7] (aq 0) uv "rows")
 (aQ (dJ [7] (aq 0) uv "lines")
 (aQ (dJ [7] (aq 0) uv "marks")
 (dJ [7] (aq 0) uv "places"))))))
def sG:Fn:=aP 3 tH
def tK:MS:=
 (aQ (dJ [5] (aq 0) uv "beats")
 (aQ (dJ [5] (aq 0) uv "heard")
 (aQ (dJ [5] (aq 0) uv "looks")
 (dJ [5] (aq 0) uv "seen"))))
def sH:Fn:=aP 1 tK
def nQ:MS:=
 (aQ (dJ [8] (aq 0) (aq 1) "first")
 (aQ (dJ [0,7,8] (aq 0) (mIf (aY (aC sIs (aq 2) (mC .non))) (z8 6 jQ 2 [(.str "once best own most")] aF) (aU 6 "twin" Fi 1 [] (aq 2) aF)) "rules")
 (aQ (dJ [8] (aq 0) (z8 0 sO 2 [] (au (b8 [0,7,8] (aq 0) "rules") aF)) "ballots")
 (aQ (dJ [8] (aq 0) (z8 7 sG 3 [] (au (gB (au (aq 1) (au (mC (.int 0)) aF))) (au (b8 [0,7,8] (aq 0) "rules") aF))) "strides")
 (aQ (dJ [8] (aq 0) (z8 5 sH 1 [] aF) "replies")
 (aQ (dJ [8] (aq 0) (mC (.int 0)) "count")
 (dJ [8] (aq 0) (mC .non) "breach")))))))
def qT:Fn:=aP 3 nQ
def mO:MS:=
 (bz (jx (aC J2 (xx gJ (au (aq 0) aF)) (mC (.int 0))) (aC sEq (abw [("vote",4),("chair",4),("write",4),("beat",3),("told",5),("settle",4),("answer",6),("look",6),("seen",8)] (aC bh (aq 0) (mC (.int 0)))) (xx gJ (au (aq 0) aF)))))
def fW:Fn:=aP 1 mO
def qj:MS:=
 (jM (aY (aC sIn (aC bh (aq 0) (mC (.int 0))) (mC (.mW [(.str "vote"),(.str "chair"),(.str "told")])))) (bz (aC bh (aq 0) (mC (.int 2)))) bH)
def rm:MS:=
 (aQ qj
 (bz (aC bh (aq 0) (mC (.int 1)))))
def jO:Fn:=aP 1 rm
def Dg:MS:=
 (jM (aY (aC sEq (xx gJ (au (aq 0) aF)) (mC (.int 0)))) (bz (gB (au (mC (.int 0)) (au (mC (.int 0)) aF)))) bH)
def Gb:MS:=
 (aQ Dg
 (bz (gB (au (aC bh (aC bh (aq 0) (mUn Yi (mC (.int 1)))) (mC (.int 0))) (au (xx gJ (au (aq 0) aF)) aF)))))
def z7:Fn:=aP 1 Gb
def pq:MS:=
 (bz (Cj (b8 [7] (aq 0) "rows") (aq 1) (gB aF)))
def bM:Fn:=aP 2 pq
def nU:MS:=
 (bz (Cj (b8 [0] (aq 0) "terms") (aq 1) (mC (.int 0))))
def dB:Fn:=aP 2 nU
def l_:MS:=
 (bz (Cj (b8 [0] (aq 0) "votes") (gB (au (aq 1) (au (aq 2) aF))) (mC (.int 0))))
def cZ:Fn:=aP 3 l_
def CK:MS:=
 (bV (aC sOr (aq 1) (aC CP (mC (.int 1)) (aq 2))) (gN 1))
def K5:MS:=
 (Ih (Fj (aq 0)) (gN 2) CK)
def Lp:MS:=
 (aQ (bV (mC (.int 0)) (gN 1))
 (aQ K5
 (bz (aq 1))))
def m6:Fn:=aP 3 Lp
def jz:MS:=
 (jM (aY (b8 [6] (b8 [0,7,8] (aq 0) "rules") "once")) (bz (aC sNe (aq 4) (mC (.int 0)))) bH)
def iT:MS:=
 (aQ (bV (aU 0 "votes_of" cZ 3 [] (aq 0) (au (aq 1) (au (aq 2) aF))) (gN 4))
 (aQ jz
 (bz (aC sNe (aC O_ (aq 4) (bZ m6 1 [] (au (CZ (au (aq 3) aF)) aF))) (mC (.int 0))))))
def iC:Fn:=aP 5 iT
def jJ:MS:=
 (bz (W2 (b8 [0] (aq 0) "askings") (gB (au (aq 1) (au (aq 2) aF)))))
def fX:Fn:=aP 3 jJ
def fu:MS:=
 (jM (aY (aC sIs (aq 4) (mC .non))) (bz (mC (.bl false))) bH)
def dR:MS:=
 (aQ (bV (aU 0 "asked_with" fX 3 [] (aq 0) (au (aq 1) (au (aq 2) aF))) (gN 4))
 (aQ fu
 (bz (S7 (aC sLe (aq 3) (aq 4)) (WY (b8 [6] (b8 [0,7,8] (aq 0) "rules") "best"))))))
def dN:Fn:=aP 5 dR
def d7:MS:=
 (jM (ZD (aY (aC sLt (aq 2) (aU 0 "term_of" dB 2 [] (aq 0) (au (aq 1) aF)))) (aY (aU 0 "is_spent" iC 4 [] (aq 0) (au (aq 1) (au (aq 2) (au (aq 3) aF)))))) (bz (mC (.bl false))) bH)
def dZ:MS:=
 (jM (aY (aC sEq (aq 3) (aq 1))) (bz (aC J2 (aq 2) (aU 0 "term_of" dB 2 [] (aq 0) (au (aq 1) aF)))) bH)
def dI:MS:=
 (aQ d7
 (aQ dZ
 (bz (aU 0 "is_good_enough" dN 4 [] (aq 0) (au (aq 3) (au (aq 2) (au (aq 4) aF)))))))
def dH:Fn:=aP 5 dI
def mj:MS:=
 (bz (W2 (b8 [0] (aq 0) "seated") (aq 1)))
def cj:Fn:=aP 2 mj
def Dr:MS:=
 (bz (Hi [0] (Ko (au (mBM "int" Wm (aq 0) aF) aF)) (aY (aC sNe (aC O_ (aq 1) (aC CP (mC (.int 1)) (aq 0))) (mC (.int 0)))) (aq 0)))
def sy:Fn:=aP 1 Dr
def kj:MS:=
 (bz (xx R0 (au (Hi [2,0,3] (Fj (bZ sy 1 [] (au (aq 1) aF))) Kr (aC sNe (aC O_ (aU 0 "votes_of" cZ 3 [] (aq 2) (au (aq 0) (au (aq 1) aF))) (bZ m6 1 [] (au (CZ (au (aq 3) aF)) aF))) (mC (.int 0)))) aF)))
def j7:Fn:=aP 4 kj
def VG:MS:=
 (bz (xx gJ (au (bZ sy 1 [] (au (aq 0) aF)) aF)))
def Kl:Fn:=aP 1 VG
def Hx:MS:=
 (jM (aY (aq 2)) (bz (aC Yk (aq 3) (bZ Kl 1 [] (au (aq 1) aF)))) bH)
def oZ:MS:=
 (aQ (bV (aC O8 (mC (.int 2)) (bZ Kl 1 [] (au (aC O_ (aq 0) (aq 1)) aF))) (gN 3))
 (aQ Hx
 (bz (aC J2 (aq 3) (bZ Kl 1 [] (au (aq 1) aF))))))
def Bp:Fn:=aP 4 oZ
def Fq:MS:=
 (jM (Vh (aY (bZ Bp 3 [] (au (aq 1) (au (aC bh (aq 0) (mC (.int 0))) (au (aq 2) aF)))))) (bz (mC (.bl false))) bH)
def Ax:MS:=
 (aQ Fq
 (bz (S7 (aC sEq (aC bh (aq 0) (mC (.int 1))) (mC (.int 0))) (bZ Bp 3 [] (au (aq 1) (au (aC bh (aq 0) (mC (.int 1))) (au (aq 2) aF)))))))
def Kh:Fn:=aP 3 Ax
def yd:MS:=
 (bz (bZ Kh 3 [] (au (aq 1) (au (aq 2) (au (WY (b8 [6] (aq 0) "most")) aF)))))
def qR:Fn:=aP 3 yd
def cV:MS:=
 (jM (ZD (aY (aC sNe (aU 0 "term_of" dB 2 [] (aq 0) (au (aq 1) aF)) (aq 2))) (aY (aC sEq (aU 0 "chair_of" cj 2 [] (aq 0) (au (aq 2) aF)) (aq 1)))) (bz (mC (.bl false))) bH)
def cU:MS:=
 (jM (aY (aC sNe (aU 0 "asked_with" fX 3 [] (aq 0) (au (aq 1) (au (aq 2) aF))) (aq 4))) (bz (mC (.bl false))) bH)
def cO:MS:=
 (aQ cV
 (aQ cU
 (bz (jx (aU 0 "voted_all" j7 4 [] (aq 0) (au (aq 3) (au (aq 2) (au (aq 1) aF)))) (aU 6 "wins" qR 3 [] (b8 [0,7,8] (aq 0) "rules") (au (aq 5) (au (aq 3) aF)))))))
def cL:Fn:=aP 6 cO
def f9:MT:=
 (Vk (aY (aC J2 (aq 1) (mC (.int 0)))) (aY (aC sNe (aC bh (aC bh (aC bh (aq 0) (aC O5 (aq 1) (mC (.int 1)))) (mC (.int 1))) (mC (.int 0))) (mC (.str "roll")))))
def jf:MS:=
 (bV (aC O5 (aq 1) (mC (.int 1))) (gN 1))
def t7:MS:=
 (JW f9 jf)
def qz:MS:=
 (aQ (bV (xx gJ (au (aq 0) aF)) (gN 1))
 (aQ t7
 (bz (aq 1))))
def lG:Fn:=aP 2 qz
def Ah:MS:=
 (jM (aY (aC sEq (aq 2) (mC (.int 0)))) (bz (aq 1)) bH)
def Bv:MS:=
 (aQ (bV (bZ lG 1 [] (au (aq 0) aF)) (gN 2))
 (aQ Ah
 (aQ (bV (aC bh (aC bh (aq 0) (aC O5 (aq 2) (mC (.int 1)))) (mC (.int 1))) (gN 3))
 (bz (gB (au (aC bh (aq 3) (mC (.int 1))) (au (aC bh (aq 3) (mC (.int 2))) aF)))))))
def vR:Fn:=aP 4 Bv
def lX:MS:=
 (bz (bZ vR 2 [] (au (aU 7 "row_of" bM 2 [] (aq 0) (au (aq 1) aF)) (au (b8 [7] (aq 0) "first_roll") aF))))
def lN:Fn:=aP 2 lX
def tE:MS:=
 (bz (Cj (b8 [7] (aq 0) "lines") (aq 1) (gB aF)))
def bU:Fn:=aP 2 tE
def lY:MS:=
 (bz (jx (aC L_ (mC (.int 0)) (aq 2)) (aC L_ (aq 2) (xx gJ (au (aU 7 "line" bU 2 [] (aq 0) (au (aq 1) aF)) aF)))))
def lO:Fn:=aP 3 lY
def nP:MS:=
 (bz (Cj (b8 [5] (aq 0) "beats") (aq 1) (mC (.int 0))))
def m8:Fn:=aP 2 nP
def lZ:MS:=
 (bz (jx (aC L_ (mC (.int 0)) (aq 2)) (aC L_ (aq 2) (aU 5 "beat_of" m8 2 [] (aq 0) (au (aq 1) aF)))))
def lQ:Fn:=aP 3 lZ
def sW:MS:=
 (jM (ZD (aY (aC sIs (aq 5) (mC .non))) (ZD (aY (aC sEq (aq 5) (aq 1))) (aY (aC sLt (aq 2) (aU 0 "term_of" dB 2 [] (b8 [8] (aq 0) "ballots") (au (aq 1) aF)))))) (bz (mC (.bl false))) bH)
def pA:MS:=
 (aQ (bV (aU 0 "chair_of" cj 2 [] (b8 [8] (aq 0) "ballots") (au (aq 2) aF)) (gN 5))
 (aQ sW
 (bz (jx (aU 7 "may_tell" lO 3 [] (b8 [8] (aq 0) "strides") (au (aq 2) (au (aq 3) aF))) (aU 5 "may_hear" lQ 3 [] (b8 [8] (aq 0) "replies") (au (aq 2) (au (aq 4) aF)))))))
def oV:Fn:=aP 6 pA
def fK:MS:=
 (jM (aY (aC sEq (aC bh (aq 1) (mC (.int 0))) (mC (.str "vote")))) (bz (aU 0 "may_vote" dH 5 [] (b8 [8] (aq 0) "ballots") (au (aq 2) (au (aC bh (aq 1) (mC (.int 2))) (au (aC bh (aq 1) (mC (.int 3))) (au (aq 3) aF)))))) bH)
def fJ:MS:=
 (jM (aY (aC sEq (aC bh (aq 1) (mC (.int 0))) (mC (.str "chair")))) (bz (aU 0 "may_chair" cL 6 [] (b8 [8] (aq 0) "ballots") (au (aq 2) (au (aC bh (aq 1) (mC (.int 2))) (au (aC bh (aq 1) (mC (.int 3))) (au (aq 3) (au (aU 7 "row_roll" lN 2 [] (b8 [8] (aq 0) "strides") (au (aq 2) aF)) aF))))))) bH)
def eF:MS:=
 (aQ (bV (aC bh (aq 1) (mC (.int 1))) (gN 2))
 (aQ (bV (bZ z7 1 [] (au (aU 7 "row_of" bM 2 [] (b8 [8] (aq 0) "strides") (au (aq 2) aF)) aF)) (gN 3))
 (aQ fK
 (aQ fJ
 (bz (aU 8 "may_tell" oV 5 [] (aq 0) (au (aq 2) (au (aC bh (aq 1) (mC (.int 2))) (au (aC bh (aq 1) (mC (.int 3))) (au (aC bh (aq 1) (mC (.int 4))) aF))))))))))
def bW:Fn:=aP 4 eF
def jW:MS:=
 (bz (jx (aC sIn (aq 1) (b8 [0] (aq 0) "seated")) (aC sEq (aU 0 "term_of" dB 2 [] (aq 0) (au (aC bh (b8 [0] (aq 0) "seated") (aq 1)) aF)) (aq 1))))
def gY:Fn:=aP 2 jW
def lR:MS:=
 (jM (aY (aC sEq (aC bh (aq 3) (mC (.int 0))) (aq 1))) (bz (aq 2)) bH)
def eY:MS:=
 lR
def lV:MS:=
 (Ih (aby (aq 0) (mC (.int 1))) (gT 2 (d8 (gN 2) (d8 (gN 3) vW))) eY)
def jV:MS:=
 (aQ lV
 (bz (mC .non)))
def jP:Fn:=aP 4 jV
def jF:MS:=
 (bz (aC JZ (Vj 2 [1] (b8 [7] (aq 0) "marks") (gT 2 (d8 (gN 0) (d8 (gN 1) vW))) (aY (aC L_ (aq 0) (aq 2))) (aq 1)) (mC (.int 0))))
def jt:Fn:=aP 2 jF
def j9:MS:=
 (bz (bZ vR 2 [] (au (aU 7 "line" bU 2 [] (aq 0) (au (aq 1) aF)) (au (b8 [7] (aq 0) "first_roll") aF))))
def gO:Fn:=aP 2 j9
def nu:MS:=
 (jM (aY (aC J2 (bZ lG 1 [] (au (aU 7 "line" bU 2 [] (aq 0) (au (aq 1) aF)) aF)) (aU 7 "mark_up_to" jt 2 [] (aq 0) (au (aq 1) aF)))) (bz (mC (.bl false))) bH)
def nq:MS:=
 (jM (aY (aC sEq (aC bh (aq 3) (mC (.int 1))) (mC (.int 0)))) (bz (jx (aC sEq (aC bh (aq 2) (mC (.int 1))) (aC bh (aq 3) (mC (.int 0)))) (aC sNe (aC bh (aq 2) (mC (.int 2))) (mC (.int 0))))) bH)
def jE:MS:=
 (aQ nu
 (aQ (bV (aU 7 "line_roll" gO 2 [] (aq 0) (au (aq 1) aF)) (gN 3))
 (aQ nq
 (bz (aC sEq (aq 2) (gB (au (mC (.str "roll")) (au (aC bh (aq 3) (mC (.int 1))) (au (mC (.int 0)) aF)))))))))
def jr:Fn:=aP 4 jE
def cT:MS:=
 (jM (aY (aC sNe (aq 2) (aC rQ (xx gJ (au (aq 4) aF)) (mC (.int 1))))) (bz (mC (.bl false))) bH)
def cR:MS:=
 (jM (aY (aC sNe (aq 5) (aC sEq (aq 3) (gB (au (mC (.str "start")) aF))))) (bz (mC (.bl false))) bH)
def cM:MS:=
 (aQ (bV (aU 7 "line" bU 2 [] (aq 0) (au (aq 1) aF)) (gN 4))
 (aQ cT
 (aQ (bV (aC sIs (bZ jP 2 [] (au (aq 4) (au (aq 1) aF))) (mC .non)) (gN 5))
 (aQ cR
 (bz (S7 (aC sNe (aC bh (aq 3) (mC (.int 0))) (mC (.str "roll"))) (aU 7 "may_change" jr 3 [] (aq 0) (au (aq 1) (au (aq 3) aF)))))))))
def cJ:Fn:=aP 6 cM
def tD:MS:=
 (bz (Cj (b8 [7] (aq 0) "marks") (aq 1) (mC (.int 0))))
def m7:Fn:=aP 2 tD
def jC:MS:=
 (bz (Cj (b8 [7] (aq 0) "places") (gB (au (aq 1) (au (aq 2) aF))) (mC (.int 0))))
def dg:Fn:=aP 3 jC
def jG:MS:=
 (bz (xx R0 (au (Hi [1,3,2,0] (Fj (bZ sy 1 [] (au (aq 4) aF))) Kr (S7 (aC sEq (aq 0) (aq 1)) (aC Yk (aU 7 "place_told" dg 3 [] (aq 4) (au (aq 0) (au (aq 3) aF))) (aq 2)))) aF)))
def ju:Fn:=aP 5 jG
def jd:MS:=
 (bz (aU 6 "wins" qR 3 [] (b8 [0,7,8] (aq 0) "rules") (au (aU 7 "line_roll" gO 2 [] (aq 0) (au (aq 1) aF)) (au (aq 2) aF))))
def iZ:Fn:=aP 3 jd
def nj:MS:=
 (jM (ZD (aY (aC L_ (aq 3) (aU 7 "mark" m7 2 [] (aq 0) (au (aq 2) aF)))) (aY (aC J2 (aq 3) (xx gJ (au (aq 5) aF))))) (bz (mC (.bl false))) bH)
def ni:MS:=
 (jM (Vk (aY (b8 [6] (b8 [0,7,8] (aq 0) "rules") "own")) (aY (aC sNe (aC bh (aC bh (aq 5) (aC O5 (aq 3) (mC (.int 1)))) (mC (.int 0))) (aq 2)))) (bz (mC (.bl false))) bH)
def jD:MS:=
 (aQ (bV (aU 7 "line" bU 2 [] (aq 0) (au (aq 2) aF)) (gN 5))
 (aQ nj
 (aQ ni
 (bz (jx (aU 7 "have_place" ju 5 [] (aq 0) (au (aq 1) (au (aq 2) (au (aq 3) (au (aq 4) aF))))) (aU 7 "are_winners" iZ 3 [] (aq 0) (au (aq 2) (au (aq 4) aF))))))))
def jq:Fn:=aP 6 jD
def iM:MS:=
 (jM (aY (aC sEq (aC bh (aq 1) (mC (.int 0))) (mC (.str "write")))) (bz (aU 7 "may_write" cJ 4 [] (b8 [8] (aq 0) "strides") (au (aq 2) (au (aC bh (aq 1) (mC (.int 2))) (au (aC bh (aq 1) (mC (.int 3))) aF))))) bH)
def nC:MS:=
 (jM (aY (aC sEq (aC bh (aq 1) (mC (.int 0))) (mC (.str "beat")))) O9 bH)
def nA:MS:=
 (jM (aY (aC sEq (aC bh (aq 1) (mC (.int 0))) (mC (.str "settle")))) (bz (aU 7 "may_settle" jq 5 [] (b8 [8] (aq 0) "strides") (au (aU 0 "chair_of" cj 2 [] (b8 [8] (aq 0) "ballots") (au (aq 2) aF)) (au (aq 2) (au (aC bh (aq 1) (mC (.int 2))) (au (aC bh (aq 1) (mC (.int 3))) aF)))))) bH)
def xR:MS:=
 (jM (aY (aC sEq (aC bh (aq 1) (mC (.int 0))) (mC (.str "answer")))) O9 bH)
def xQ:MS:=
 (jM (aY (aC sEq (aC bh (aq 1) (mC (.int 0))) (mC (.str "look")))) O9 bH)
def gk:MS:=
 (aQ (bV (aC bh (aq 1) (mC (.int 1))) (gN 2))
 (aQ iM
 (aQ nC
 (aQ nA
 (aQ xR
 (aQ xQ
 O9))))))
def dY:Fn:=aP 3 gk
def cC:MS:=
 (jM (ZD (aY (aC zA (b8 [8] (aq 0) "breach") (mC .non))) (ZD (Vh (aY (bZ fW 1 [] (au (aq 1) aF)))) (aY (aC sLt (bZ jO 1 [] (au (aq 1) aF)) (mC (.int 1)))))) (bz (mC (.bl false))) bH)
def cB:MS:=
 (jM (aY (aC sIn (aC bh (aq 1) (mC (.int 0))) (mC (.mW [(.str "vote"),(.str "chair"),(.str "told")])))) (bz (aU 8 "allows_hand" bW 2 [] (aq 0) (au (aq 1) aF))) bH)
def cX:MS:=
 (aQ cC
 (aQ cB
 (bz (jx (aU 0 "stands" gY 2 [] (b8 [8] (aq 0) "ballots") (au (aC bh (aq 1) (mC (.int 1))) aF)) (aU 8 "allows_chair" dY 2 [] (aq 0) (au (aq 1) aF))))))
def bI:Fn:=aP 2 cX
def qF:MS:=
 (oF (b8 [0] (aq 0) "terms") (aq 1) (aq 2))
def lH:Fn:=aP 3 qF
def jT:MS:=
 (jM (aY (aC sEq (aq 3) (aq 1))) (oF (b8 [0] (aq 0) "askings") (gB (au (aq 1) (au (aq 2) aF))) (aq 4)) bH)
def tR:MS:=
 (aQ jT
 (aQ (oF (b8 [0] (aq 0) "votes") (gB (au (aq 1) (au (aq 2) aF))) (aC sOr (aU 0 "votes_of" cZ 3 [] (aq 0) (au (aq 1) (au (aq 2) aF))) (bZ m6 1 [] (au (CZ (au (aq 3) aF)) aF))))
 (gU (aU 0 "reach" lH 3 [] (aq 0) (au (aq 1) (au (aq 2) aF))))))
def sS:Fn:=aP 5 tR
def kJ:MS:=
 (oF (b8 [0] (aq 0) "seated") (aq 2) (aq 1))
def j8:Fn:=aP 3 kJ
def jH:MS:=
 (oF (b8 [7] (aq 0) "lines") (aq 2) (aU 7 "row_of" bM 2 [] (aq 0) (au (aq 1) aF)))
def jw:Fn:=aP 3 jH
def A_:MS:=
 (bz (aC sEq (YQ (aq 0) xu (Kq (aq 2))) (YQ (aq 1) xu (Kq (aq 2)))))
def uq:Fn:=aP 3 A_
def nM:MS:=
 (aQ (bV (aU 7 "mark" m7 2 [] (aq 0) (au (aq 1) aF)) (gN 3))
 (bz (S7 (aC sEq (aq 3) (mC (.int 0))) (bZ uq 3 [] (au (aU 7 "line" bU 2 [] (aq 0) (au (aq 1) aF)) (au (aU 7 "line" bU 2 [] (aq 0) (au (aq 2) aF)) (au (aq 3) aF)))))))
def jh:Fn:=aP 4 nM
def mJ:MS:=
 (jM (Vh (aY (aU 7 "is_kept" jh 3 [] (aq 0) (au (xx Wi (au (aq 2) (au (aq 1) aF))) (au (xx J0 (au (aq 2) (au (aq 1) aF))) aF))))) (bz (xx J0 (au (aq 2) (au (aq 1) aF)))) bH)
def gR:MS:=
 mJ
def mK:MS:=
 (Ih (Fj (xx zx (au (b8 [7] (aq 0) "lines") aF))) (gN 2) gR)
def jc:MS:=
 (aQ mK
 (bz (mC .non)))
def iY:Fn:=aP 3 jc
def qO:MS:=
 (jM (aY (aC zA (aq 2) (mC .non))) (dJ [8] (aq 0) (gB (au (mC (.str "lost")) (au (aq 2) aF))) "breach") bH)
def nR:MS:=
 (aQ (bV (aU 7 "lost_behind" iY 2 [] (b8 [8] (aq 0) "strides") (au (aq 1) aF)) (gN 2))
 qO)
def ji:Fn:=aP 3 nR
def jY:MS:=
 (jM (aY (aC zA (aU 0 "chair_of" cj 2 [] (b8 [8] (aq 0) "ballots") (au (aq 2) aF)) (mC .non))) (aQ (dJ [8] (aq 0) (gB (au (mC (.str "chairs")) (au (aq 2) aF))) "breach")
 afh) bH)
def g8:MS:=
 (aQ jY
 (aQ (gU (aU 0 "take_seat" j8 3 [] (b8 [8] (aq 0) "ballots") (au (aq 1) (au (aq 2) aF))))
 (aQ (gU (aU 7 "begin_line" jw 3 [] (b8 [8] (aq 0) "strides") (au (aq 1) (au (aq 2) aF))))
 (gU (aU 8 "find_lost" ji 2 [] (aq 0) (au (aq 2) aF))))))
def gW:Fn:=aP 3 g8
def Df:MS:=
 (jM (aY (bZ uq 3 [] (au (aq 1) (au (aq 0) (au (aq 2) aF))))) (bz (YQ (aq 1) xu xu)) bH)
def Ga:MS:=
 (aQ Df
 (bz (YQ (aq 0) xu (Kq (aq 2)))))
def Fg:Fn:=aP 3 Ga
def tu:MS:=
 (aQ (oF (b8 [7] (aq 0) "rows") (aq 1) (bZ Fg 3 [] (au (aU 7 "line" bU 2 [] (aq 0) (au (aq 2) aF)) (au (aU 7 "row_of" bM 2 [] (aq 0) (au (aq 1) aF)) (au (aq 3) aF)))))
 (oF (b8 [7] (aq 0) "places") (gB (au (aq 1) (au (aq 2) aF))) (xx J0 (au (aq 3) (au (aU 7 "place_told" dg 3 [] (aq 0) (au (aq 1) (au (aq 2) aF))) aF)))))
def sE:Fn:=aP 4 tu
def j_:MS:=
 (bz (Cj (b8 [5] (aq 0) "heard") (gB (au (aq 1) (au (aq 2) aF))) (mC (.int 0))))
def j6:Fn:=aP 3 j_
def tL:MS:=
 (oF (b8 [5] (aq 0) "heard") (gB (au (aq 1) (au (aq 2) aF))) (xx J0 (au (aq 3) (au (aU 5 "beat_told" j6 3 [] (aq 0) (au (aq 1) (au (aq 2) aF))) aF))))
def sI:Fn:=aP 4 tL
def fH:MS:=
 (jM (aY (aC sEq (aC bh (aq 1) (mC (.int 0))) (mC (.str "chair")))) (gU (aU 8 "follow_to_chair" gW 3 [] (aq 0) (au (aq 2) (au (aq 3) aF)))) (aQ (gU (aU 0 "reach" lH 3 [] (b8 [8] (aq 0) "ballots") (au (aq 2) (au (aq 3) aF))))
 (aQ (gU (aU 7 "tell" sE 4 [] (b8 [8] (aq 0) "strides") (au (aq 2) (au (aq 3) (au (aC bh (aq 1) (mC (.int 3))) aF)))))
 (gU (aU 5 "hear" sI 4 [] (b8 [8] (aq 0) "replies") (au (aq 2) (au (aq 3) (au (aC bh (aq 1) (mC (.int 4))) aF))))))))
def fG:MS:=
 (jM (aY (aC sEq (aC bh (aq 1) (mC (.int 0))) (mC (.str "vote")))) (gU (aU 0 "cast" sS 5 [] (b8 [8] (aq 0) "ballots") (au (aq 2) (au (aq 3) (au (aC bh (aq 1) (mC (.int 3))) (au (bZ z7 1 [] (au (aU 7 "row_of" bM 2 [] (b8 [8] (aq 0) "strides") (au (aq 2) aF)) aF)) aF)))))) fH)
def eE:MS:=
 (aQ (bV (aC bh (aq 1) (mC (.int 1))) (gN 2))
 (aQ (bV (aC bh (aq 1) (mC (.int 2))) (gN 3))
 fG))
def dG:Fn:=aP 4 eE
def qD:MS:=
 (aQ (bV (gB (au (aq 2) (au (aq 3) aF))) (gN 4))
 (aQ (oF (b8 [7] (aq 0) "lines") (aq 2) (aC J4 (aU 7 "line" bU 2 [] (aq 0) (au (aq 2) aF)) (gB (au (aq 4) aF))))
 (oF (b8 [7] (aq 0) "rows") (aq 1) (aC J4 (aU 7 "row_of" bM 2 [] (aq 0) (au (aq 1) aF)) (gB (au (aq 4) aF))))))
def qp:Fn:=aP 5 qD
def o_:MS:=
 (oF (b8 [7] (aq 0) "marks") (aq 1) (aq 2))
def oU:Fn:=aP 3 o_
def iK:MS:=
 (jM (aY (aC sEq (aC bh (aq 1) (mC (.int 0))) (mC (.str "seen")))) O9 bH)
def iJ:MS:=
 (jM (aY (aC sEq (aC bh (aq 1) (mC (.int 0))) (mC (.str "look")))) O9 iK)
def iI:MS:=
 (jM (aY (aC sEq (aC bh (aq 1) (mC (.int 0))) (mC (.str "settle")))) (aQ (gU (aU 7 "settle" oU 3 [] (b8 [8] (aq 0) "strides") (au (aq 2) (au (aC bh (aq 1) (mC (.int 2))) aF))))
 (gU (aU 8 "find_lost" ji 2 [] (aq 0) (au (aq 2) aF)))) iJ)
def iH:MS:=
 (jM (aY (aC sEq (aC bh (aq 1) (mC (.int 0))) (mC (.str "beat")))) O9 iI)
def iG:MS:=
 (jM (aY (aC sEq (aC bh (aq 1) (mC (.int 0))) (mC (.str "write")))) (gU (aU 7 "write" qp 4 [] (b8 [8] (aq 0) "strides") (au (aU 0 "chair_of" cj 2 [] (b8 [8] (aq 0) "ballots") (au (aq 2) aF)) (au (aq 2) (au (aC bh (aq 1) (mC (.int 3))) aF))))) iH)
def gh:MS:=
 (aQ (bV (aC bh (aq 1) (mC (.int 1))) (gN 2))
 iG)
def dX:Fn:=aP 3 gh
def fj:MS:=
 (jM (Vh (aY (aU 8 "allows" bI 2 [] (aq 0) (au (aq 1) aF)))) (sRz 2 (au (b8 [8] (aq 0) "count") aF)) bH)
def e_:MS:=
 (jM (aY (aC sIn (aC bh (aq 1) (mC (.int 0))) (mC (.mW [(.str "vote"),(.str "chair"),(.str "told")])))) (gU (aU 8 "follow_hand" dG 2 [] (aq 0) (au (aq 1) aF))) (gU (aU 8 "follow_chair" dX 2 [] (aq 0) (au (aq 1) aF))))
def gf:MS:=
 (aQ fj
 (aQ (dJ [8] (aq 0) (aC rQ (b8 [8] (aq 0) "count") (mC (.int 1))) "count")
 e_))
def aM:Fn:=aP 2 gf
def lg:MS:=
 (jM (Vk (aY (aC zA (aq 4) (mC .non))) (aY (aC sNe (aC bh (aq 4) (mC (.int 0))) (aq 2)))) (gU (aU 8 "take" aM 2 [] (aq 0) (au (gB (au (mC (.str "told")) (au (aq 2) (au (aC bh (aq 4) (mC (.int 1))) (au (aq 5) (au (mC (.int 0)) aF)))))) aF))) bH)
def Cp:MS:=
 (jM (aY (aC sNe (aq 7) (aq 2))) (aQ (gU (aU 8 "take" aM 2 [] (aq 0) (au (gB (au (mC (.str "vote")) (au (aq 7) (au (aq 3) (au (aq 2) aF))))) aF)))
 (bV (aC sOr (aq 6) (aC CP (mC (.int 1)) (aq 7))) (gN 6))) bH)
def pI:MS:=
 Cp
def Cw:MS:=
 (Ih (Fj (aq 1)) (gN 7) pI)
def Az:MS:=
 (aQ lg
 (aQ (gU (aU 8 "take" aM 2 [] (aq 0) (au (gB (au (mC (.str "vote")) (au (aq 2) (au (aq 3) (au (aq 2) aF))))) aF)))
 (aQ (bV (aC CP (mC (.int 1)) (aq 2)) (gN 6))
 (aQ Cw
 (gU (aU 8 "take" aM 2 [] (aq 0) (au (gB (au (mC (.str "chair")) (au (aq 2) (au (aq 3) (au (aq 6) aF))))) aF)))))))
def uo:Fn:=aP 8 Az
def Ai:MS:=
 (jM (aY (aC sNe (aq 5) (aC bh (aq 2) (mC (.int 0))))) (aQ (gU (aU 8 "take" aM 2 [] (aq 0) (au (gB (au (mC (.str "told")) (au (aq 5) (au (aC bh (aq 2) (mC (.int 1))) (au (xx gJ (au (aq 3) aF)) (au (mC (.int 0)) aF)))))) aF)))
 (bV (aC sOr (aq 4) (aC CP (mC (.int 1)) (aq 5))) (gN 4))) bH)
def mX:MS:=
 Ai
def An:MS:=
 (Ih (Fj (aq 1)) (gN 5) mX)
def yc:MS:=
 (aQ (bV (aC CP (mC (.int 1)) (aC bh (aq 2) (mC (.int 0)))) (gN 4))
 (aQ An
 (gU (aU 8 "take" aM 2 [] (aq 0) (au (gB (au (mC (.str "settle")) (au (aC bh (aq 2) (mC (.int 1))) (au (xx gJ (au (aq 3) aF)) (au (aq 4) aF))))) aF)))))
def xr:Fn:=aP 6 yc
def wJ:MS:=
 (bV (aC rQ (aq 1) (aC bh (mC (.str "abcdefghijklmnopqrstuvwxyz")) (aC iW (aC rP (aq 0) (aC rQ (mC (.int 8)) (aC O8 (mC (.int 5)) (aq 2)))) (mC (.int 26))))) (gN 1))
def FP:MS:=
 (Ih (Ko (au (aC rQ (mC (.int 1)) (aC iW (aq 0) (mC (.int 8)))) aF)) (gN 2) wJ)
def Dq:MS:=
 (aQ (bV (mC (.str "")) (gN 1))
 (aQ FP
 (bz (aq 1))))
def su:Fn:=aP 3 Dq
def iD:MS:=
 (jM (aY (aC sLt (aq 3) (mC (.int 2)))) (bz (gB (au (mC (.str "start")) aF))) bH)
def xP:MS:=
 (jM (aY (aC sEq (aC iW (aq 4) (mC (.int 3))) (mC (.int 0)))) (bV (gB (au (mC (.str "swap")) (au (bZ su 1 [] (au (aq 4) aF)) (au (aq 5) (au (aC iW (aq 4) (mC (.int 7))) aF))))) (gN 6)) bH)
def jR:MS:=
 (jM (aY (aC sLt (aq 3) (mC (.int 5)))) (aQ (bV (aC iW (aq 4) (aC O7 (mC (.int 10)) (mC (.int 40)))) (gN 5))
 (aQ (bV (aC bh (CZ (au (gB (au (mC (.str "put")) (au (bZ su 1 [] (au (aq 4) aF)) (au (aq 5) aF)))) (au (gB (au (mC (.str "add")) (au (bZ su 1 [] (au (aq 4) aF)) (au (aC O5 (mC (.int 0)) (aq 5)) aF)))) aF))) (aC iW (aq 4) (mC (.int 2)))) (gN 6))
 (aQ xP
 (bz (gB (au (mC (.str "ask")) (au (aC iW (aC rP (aq 4) (mC (.int 2))) (aC O7 (mC (.int 10)) (mC (.int 40)))) (au (aC iW (aC rP (aq 4) (mC (.int 7))) (aC O7 (mC (.int 10)) (mC (.int 40)))) (au (aq 6) aF))))))))) bH)
def qU:MS:=
 (jM (aY (aC sEq (aq 3) (mC (.int 5)))) (bz (gB (au (mC (.str "roll")) (au (bZ q_ 2 [] (au (aC rQ (mC (.int 1)) (aC iW (aq 4) (mC (.int 31)))) (au (aq 2) aF))) (au (bZ q_ 2 [] (au (aC iW (aC rP (aq 4) (mC (.int 31))) (mC (.int 32))) (au (aq 2) aF))) aF))))) bH)
def xN:MS:=
 (jM (aY (aC sEq (aC bh (aq 1) (mC (.int 1))) (mC (.int 0)))) (bz (gB (au (mC (.str "roll")) (au (aC bh (aq 1) (mC (.int 0))) (au (bZ q_ 2 [] (au (aC iW (aq 4) (mC (.int 32))) (au (aq 2) aF))) aF))))) bH)
def jB:MS:=
 (aQ (bV (aC iW (aq 0) (mC (.int 8))) (gN 3))
 (aQ (bV (aC rP (aq 0) (mC (.int 8))) (gN 4))
 (aQ iD
 (aQ jR
 (aQ qU
 (aQ xN
 (bz (gB (au (mC (.str "roll")) (au (aC bh (aq 1) (mC (.int 1))) (au (mC (.int 0)) aF)))))))))))
def iB:Fn:=aP 7 jB
def Ft:MS:=
 (jM (aY (aC sEq (aC bh (aC bh (aC bh (aq 0) (aq 3)) (mC (.int 1))) (mC (.int 0))) (mC (.str "roll")))) (bV (gB (au (aC bh (aC bh (aC bh (aq 0) (aq 3)) (mC (.int 1))) (mC (.int 1))) (au (aC bh (aC bh (aC bh (aq 0) (aq 3)) (mC (.int 1))) (mC (.int 2))) (au (aC rQ (aq 3) (mC (.int 1))) aF)))) (gN 2)) bH)
def wI:MS:=
 Ft
def FN:MS:=
 (Ih (Ko (au (xx gJ (au (aq 0) aF)) aF)) (gN 3) wI)
def Dp:MS:=
 (aQ (bV (gB (au (aq 1) (au (mC (.int 0)) (au (mC (.int 0)) aF)))) (gN 2))
 (aQ FN
 (bz (aq 2))))
def rZ:Fn:=aP 4 Dp
def Hw:MS:=
 (jM (aY (aC sEq (aC sEq (aC bh (aq 0) (mC (.int 0))) (mC (.str "start"))) (aq 5))) (bz (mC (.bl false))) bH)
def Hu:MS:=
 (jM (aY (aC sNe (aC bh (aq 0) (mC (.int 0))) (mC (.str "roll")))) (bz (mC (.bl true))) bH)
def Ht:MS:=
 (jM (aY (aC J2 (aq 8) (aq 4))) (bz (mC (.bl false))) bH)
def Hs:MS:=
 (jM (aY (aC sEq (aq 7) (mC (.int 0)))) (bz (jx (aC sEq (aC bh (aq 0) (mC (.int 1))) (aq 6)) (aC sNe (aC bh (aq 0) (mC (.int 2))) (mC (.int 0))))) bH)
def GX:MS:=
 (aQ (bV (jx (aC sNe (aq 1) (CZ aF)) (aC sEq (aC bh (aC bh (aq 1) (mUn Yi (mC (.int 1)))) (mC (.int 0))) (aq 3))) (gN 5))
 (aQ Hw
 (aQ Hu
 (aQ (bV (bZ rZ 2 [] (au (aq 1) (au (aq 2) aF))) (gT 3 (d8 (gN 6) (d8 (gN 7) (d8 (gN 8) vW)))))
 (aQ Ht
 (aQ Hs
 (bz (jx (aC sEq (aC bh (aq 0) (mC (.int 1))) (aq 7)) (aC sEq (aC bh (aq 0) (mC (.int 2))) (mC (.int 0)))))))))))
def Bo:Fn:=aP 9 GX
def ye:MS:=
 (bz (xx G9 (au (aU 7 "line" bU 2 [] (b8 [8] (aq 0) "strides") (au (aq 1) aF)) aF)))
def m_:Fn:=aP 2 ye
def tM:MS:=
 (bz (xx G9 (au (aU 7 "row_of" bM 2 [] (b8 [8] (aq 0) "strides") (au (aq 1) aF)) aF)))
def m9:Fn:=aP 2 tM
def BW:MS:=
 (gU (aU 8 "take" aM 2 [] (aq 0) (au (gB (au (mC (.str "write")) (au (aq 7) (au (aq 8) (au (aq 9) aF))))) aF)))
def BX:MS:=
 (bV (mC (.bl true)) (gN 11))
def Cm:MS:=
 (adm [(1,false),(2,true)] BW BX)
def Ck:MS:=
 (jM (aY (aq 10)) (gU (mBM "list" Bl (aq 2) (au (gB (au (aq 7) (au (aq 9) aF))) aF))) bH)
def Ay:MS:=
 (aQ (bV (aC bh (CZ (au (aC bh (aq 1) (mC (.int 1))) (au (aC bh (aq 1) (mC (.int 1))) (au (aC bh (aq 1) (mC (.int 1))) (au (aC bh (aq 1) (mC (.int 1))) (au (aC O5 (aC bh (aq 1) (mC (.int 1))) (mC (.int 1))) (au (mC (.int 0)) aF))))))) (aC iW (aq 5) (mC (.int 6)))) (gN 7))
 (aQ (bV (aC rQ (xx gJ (au (aq 2) aF)) (aC bh (CZ (au (mC (.int 1)) (au (mC (.int 1)) (au (mC (.int 1)) (au (mC (.int 1)) (au (mC (.int 0)) (au (mC (.int 2)) (au (mC (.int 3)) aF)))))))) (aC iW (aC rP (aq 5) (mC (.int 6))) (mC (.int 7))))) (gN 8))
 (aQ (bV (bZ iB 3 [] (au (aC rP (aq 5) (mC (.int 42))) (au (bZ rZ 2 [] (au (aq 2) (au (aq 3) aF))) (au (aq 6) aF)))) (gN 9))
 (aQ (bV (jx (aC sEq (aq 7) (aC bh (aq 1) (mC (.int 1)))) (jx (aC sEq (aq 8) (aC rQ (xx gJ (au (aq 2) aF)) (mC (.int 1)))) (bZ Bo 5 [] (au (aq 9) (au (aq 2) (au (aq 3) (au (aq 7) (au (aq 4) aF)))))))) (gN 10))
 (aQ (bV (mC (.bl false)) (gN 11))
 (aQ Cm
 (aQ Ck
 (bz (jx (aC sNe (aq 11) (aq 10)) (jx (aC sEq (aU 8 "line" m_ 2 [] (aq 0) (au (aC bh (aq 1) (mC (.int 1))) aF)) (aq 2)) (aC sEq (aU 8 "row_of" m9 2 [] (aq 0) (au (aC bh (aq 1) (mC (.int 0))) aF)) (aq 2))))))))))))
def zY:Fn:=aP 12 Ay
def tO:MS:=
 (bz (b8 [8] (aq 0) "breach"))
def sJ:Fn:=aP 1 tO
def Qo:MS:=
 (jM (Vk (aY (aC sNe (aq 4) (CZ aF))) (Vk (aY (aC sEq (aC bh (aC bh (aq 4) (mUn Yi (mC (.int 1)))) (mC (.int 0))) (aq 7))) (aY (aC J2 (xx gJ (au (aq 4) aF)) (aq 6))))) (aQ (gU (bZ xr 4 [] (au (aq 3) (au (aq 1) (au (aq 5) (au (aq 4) aF))))))
 (bV (xx gJ (au (aq 4) aF)) (gN 6))) bH)
def Qn:MS:=
 (jM (Vh (aY (bZ zY 7 [] (au (aq 3) (au (aq 5) (au (aq 4) (au (aq 2) (au (aq 6) (au (aC rP (aq 8) (mC (.int 8))) (au (aq 1) aF)))))))))) (bz (mC (.bl false))) bH)
def Xg:MS:=
 (jM (aY (aC sEq (aq 9) (mC (.int 1)))) Qo Qn)
def Fw:MS:=
 (jM (ZD (aY (aC sEq (aq 9) (mC (.int 0)))) (aY (aC sIs (aq 5) (mC .non)))) (aQ (bV (aC rQ (aC rQ (aq 7) (mC (.int 1))) (aC iW (aC rP (aq 8) (mC (.int 8))) (mC (.int 3)))) (gN 7))
 (aQ (bV (aC bh (aq 1) (aC iW (aC rP (aq 8) (mC (.int 24))) (mC (.int 5)))) (gN 10))
 (aQ (gU (bZ uo 6 [] (au (aq 3) (au (aq 1) (au (aq 10) (au (aq 7) (au (aq 5) (au (xx gJ (au (aq 4) aF)) aF))))))))
 (bV (gB (au (aq 10) (au (aq 7) aF))) (gN 5))))) Xg)
def Qm:MS:=
 (jM (ZD (aY (aC zA (aU 8 "broken" sJ 1 [] (aq 3) aF) (mC .non))) (aY (aC sNe (aU 8 "line" m_ 2 [] (aq 3) (au (aq 7) aF)) (aq 4)))) (bz (mC (.bl false))) bH)
def Ja:MS:=
 (aQ (bV (aC iW (aq 8) (mC (.int 8))) (gN 9))
 (aQ Fw
 Qm))
def Xo:MS:=
 (Ih (Fj (mSl (aq 0) (Kq (mC (.int 2))) (Kq (mC (.int 42))))) (gN 8) Ja)
def acC:MS:=
 (aQ (bV (Hi [0] (Ko (au (mC (.int 5)) aF)) Kr (aC rQ (aC iW (bZ k_ 2 [] (au (aq 1) (au (mC (.int 0)) aF))) (mC (.int 16))) (aC O8 (mC (.int 11)) (aq 0)))) (gN 1))
 (aQ (bV (bZ q_ 2 [] (au (mC (.int 31)) (au (aq 1) aF))) (gN 2))
 (aQ (bV (z8 8 qT 3 [.non] (au (aq 2) aF)) (gN 3))
 (aQ (bV (CZ aF) (gN 4))
 (aQ (bV (mC .non) (gN 5))
 (aQ (bV (mC (.int 0)) (gN 6))
 (aQ (bV (aC rQ (mC (.int 1)) (aC iW (bZ k_ 2 [] (au (aq 0) (au (mC (.int 1)) aF))) (aC O7 (mC (.int 10)) (mC (.int 40))))) (gN 7))
 (aQ Xo
 (bz (mC (.bl true)))))))))))
def afs:Fn:=aP 11 acC
def Gr(M M':Mem):Prop:=∀(i:Nat) (o:MO),M[i]? = some o->M'[i]? = some o
theorem Gr.refl:Gr M M:=λ_ _ h=>h
theorem Gr.trans{M M1 M2:Mem}(a:Gr M M1)(b:Gr M1 M2):Gr M M2:=λi o h=>b i o (a i o h)
theorem Gr.app:Gr M (M++xs):=λi o h=>by
 rw[zae (List.getElem?_eq_some_iff.mp h).1];exact h
theorem Hj{M:Mem}{i:Nat}{o:MO}(h:M[i]? = some o):i<M.length:=(List.getElem?_eq_some_iff.mp h).1
theorem cF:(M++[o])[M.length]? = some o:=by simp
theorem T3(q:D->Bool)(f:D->D)(hs:ir src M)(ht:∀d∈ds,tt (some d::ce) M= .ok (q d) M)(hf:∀d∈ds,te (some d::ce) M= .ok (f d) M):
  sZ src tt te ce ds [] M= .ok (.ref M.length) (M++[.lst ((ds.filter q).map f)]):=by
 have key:∀(ds ys:List D),(∀d∈ds,tt (some d::ce) M= .ok (q d) M)->(∀d∈ds,te (some d::ce) M= .ok (f d) M)->sZ src tt te ce ds ys M= .ok (.ref M.length) (M++[.lst (ys++(ds.filter q).map f)]):=by
  intro ds
  induction ds with
  | nil=>intro ys _ _;unfold sZ;rw[if_pos hs];simp
  | cons d r ih=>
   intro ys h1 h2
   unfold sZ
   rw[if_pos hs,h1 d xB]
   show(Out.ok _ _).bind _=_
   rw[Out.b_]
   cases z:q d with
   | false=>
    simp only[Bool.false_eq_true,if_false]
    rw[ih _ (λx hx=>h1 x (yT _ hx)) λx hx=>h2 x (yT _ hx),List.filter_cons,z]
    simp
   | true=>
    simp only[if_true]
    rw[h2 d xB]
    show(Out.ok _ _).bind _=_
    rw[Out.b_,ih _ (λx hx=>h1 x (yT _ hx)) λx hx=>h2 x (yT _ hx),List.filter_cons,z]
    simp
 have:=key ds [] ht hf
 simpa using this
def hv(hs:List Nat):List D:=hs.map λ(h:Nat)=>D.int (h:Int)
theorem U7(n:Nat)(p:Nat->Bool)(q:D->Bool)(h:∀i,i<n->q (.int (0+(i:Int)))=p i):((DN 0 n).filter q).map (λd=>d)=hv ((List.range n).filter p):=by
 unfold DN hv
 rw[List.map_id',List.filter_map]
 have:(List.range n).filter (q∘λ(k:Nat)=>D.int (0+(k:Int)))=(List.range n).filter p:=by
  refine List.filter_congr λi hi=> ?_
  exact h i (List.mem_range.mp hi)
 rw[this]
 refine List.map_congr_left λi _=> ?_
 show D.int (0+(i:Int))=D.int (i:Int)
 rw[Int.zero_add]
theorem Jd(h:0<=j/\j<=1000000/\i.natAbs<2 ^ 64):CP (.int i) (.int j) M= .ok (.int (i*2 ^ j.toNat)) M:=by
 unfold CP;rw[Gz,if_pos (by unfold Zq;exact zag h)]
theorem ade(h:0<=j):aaz (.int i) (.int j) M= .ok (.int (i / 2 ^ j.toNat)) M:=by
 unfold aaz;rw[Gz,if_pos (by unfold akJ;exact zag h)]
theorem ah4(n i:Nat):(!decide (Builtin.bitAnd (n:Int) (1*2 ^ (0+(i:Int)).toNat)=0))=n.testBit i:=by
 have e1:Builtin.bitAnd (n:Int) (1*2 ^ (0+(i:Int)).toNat)=((n &&& 2 ^ i:Nat):Int):=by
  rw[Int.zero_add,zam,HM.WQ,HM.F_]
 rw[e1]
 have q:=HM.Lq n i
 cases z:n.testBit i with
 | true=>
  have q':=q.mpr z
  simp only[Bool.not_eq_true',decide_eq_false_iff_not]
  omega
 | false=>
  have q':¬(n &&& 2 ^ i≠0):=λr=>by rw[q.mp r]at z;cases z
  simp only[Bool.not_eq_false',decide_eq_true_eq]
  omega
def qB(f:Int->Bool)(d:D):Bool:=match d with
 | .int j=>f j
 | _=>false
theorem WW(h:d∈DN lo n):∃i:Nat,i<n/\d= .int (lo+i):=by
 obtain⟨i,hi⟩:=List.getElem?_of_mem h
 exact⟨i,(Es hi).1,(Es hi).2⟩
theorem Ak(n:Nat)(hn:n<2 ^ 60):sy [.int n] M= .ok (.ref M.length) (M++[.lst (hv (HM.cD n))]):=by
 have hz:=HM.intBits_le n hn
 have e1:Mf [.int (Builtin.Int.intBits n:Nat)] M= .ok ⟨none,DN 0 (Builtin.Int.intBits n)⟩ M:=by
  have:=Et (M:=M) (j:=(Builtin.Int.intBits n:Nat)) () ()
  simpa using this
 have e2:=T3 (src:=none) (tt:=aY (aC sNe (aC O_ (aq 1) (aC CP (mC (.int 1)) (aq 0))) (mC (.int 0)))) (te:=aq 0) (ce:=[some (.int n)]) (M:=M) (qB λj=> !decide (Builtin.bitAnd (n:Int) (1*2 ^ j.toNat)=0)) (λd=>d) (ds:=DN 0 (Builtin.Int.intBits n)) trivial
  (λd hd=>by
   obtain⟨i,hi,rfl⟩:=WW hd
   have:CP (.int 1) (.int (0+(i:Int))) M= .ok (.int (1*2 ^ (0+(i:Int)).toNat)) M:=Jd ⟨(),(),by decide⟩
   simp[this,qB,aaI,-Int.zero_add,-Int.one_mul])
  (λd hd=>ajT)
 have e3:=U7 (Builtin.Int.intBits n) (λh=>n.testBit h) (qB λj=> !decide (Builtin.bitAnd (n:Int) (1*2 ^ j.toNat)=0)) (λi _=>ah4 n i)
 rw[HM.Qq n hn]at e3
 rw[e3]at e2
 simp only[sy,Dr]
 simp[ql,e1,e2]
theorem WX(n:Nat)(hn:n<2 ^ 60):∃M',Kl [.int n] M= .ok (.int (HM.cnt n:Nat)) M'/\Gr M M':=by
 refine⟨M++[.lst (hv (HM.cD n))],?_,Gr.app⟩
 simp only[Kl,VG]
 simp[Ak n hn,kY cF,hv,HM.cnt]
def yr(S p:Nat)(h:Bool):Bool:=if h then decide (HM.cnt p<=2*HM.cnt (S &&& p))else decide (HM.cnt p<2*HM.cnt (S &&& p))
theorem ah5(hp:p<2 ^ 60):S &&& p<2 ^ 60:=Nat.lt_of_le_of_lt Nat.and_le_right hp
theorem ajQ:O8 (.int 2) (.int j) M= .ok (.int (2*j)) M:=JX (.inl ())
theorem Lf(S p:Nat)(h:Bool)(hp:p<2 ^ 60):∃M',Bp [.int S,.int p,.bl h] M= .ok (.bl (yr S p h)) M'/\Gr M M':=by
 obtain⟨M1,e1,g1⟩:=WX (M:=M) (S &&& p) (ah5 hp)
 obtain⟨M2,e2,g2⟩:=WX (M:=M1) p hp
 refine⟨M2,?_,g1.trans g2⟩
 have ea:Builtin.bitAnd (S:Int) (p:Int)=((S &&& p:Nat):Int):=HM.F_ S p
 simp only[Bp,oZ,Hx]
 cases h with
 | true=>
  simp[ea,e1,ajQ,e2,yr]
  omega
 | false=>
  simp[ea,e1,ajQ,e2,yr]
  omega
theorem acU(S p q:Nat)(h:Bool)(hp:p<2 ^ 60)(hq:q<2 ^ 60):∃M',Kh [.tup [.int p,.int q],.int S,.bl h] M= .ok (.bl (yr S p h&&(decide (q=0)||yr S q h))) M'/\Gr M M':=by
 obtain⟨M1,e1,g1⟩:=Lf (M:=M) S p h hp
 cases z:yr S p h with
 | false=>
  rw[z]at e1
  exact⟨M1,by simp[Kh,Ax,Fq,e1],g1⟩
 | true=>
  rw[z]at e1
  by_cases hq0:q=0
  ·subst hq0
   exact⟨M1,by simp[Kh,Ax,Fq,e1],g1⟩
  ·obtain⟨M2,e2,g2⟩:=Lf (M:=M1) S q h hq
   exact⟨M2,by simp[Kh,Ax,Fq,e1,hq0,e2],g1.trans g2⟩
def Ch(p:Nat->Prop)(M M':Mem):Prop:=M.length<=M'.length/\∀(i:Nat) (o:MO),¬p i->M[i]? = some o->M'[i]? = some o
theorem Ch.refl{p:Nat->Prop}:Ch p M M:=⟨zab _,λ_ _ _ h=>h⟩
theorem Ch.trans{p:Nat->Prop}{M M1 M2:Mem}(a:Ch p M M1)(b:Ch p M1 M2):Ch p M M2:=⟨yY a.1 b.1,λi o n h=>b.2 i o n (a.2 i o n h)⟩
theorem Ch.mono{p q:Nat->Prop}{M M1:Mem}(a:Ch p M M1)(h:∀i,i<M.length->p i->q i):Ch q M M1:=⟨a.1,λi o n e=>a.2 i o (λz=>n (h i (Hj e) z)) e⟩
theorem Gr.le(h:Gr M M'):M.length<=M'.length:=by
 by_cases z:M.length=0
 ·omega
 ·have:=Hj (h (M.length - 1) _ (zac ()))
  omega
theorem Gr.ch{p:Nat->Prop}(h:Gr M M'):Ch p M M':=⟨h.le,λi o _ e=>h i o e⟩
theorem Ch.set{p:Nat->Prop}(h:p n):Ch p M (M.set n o):=⟨by simp,λi x z e=>by
 by_cases q:i=n
 ·subst q;exact absurd h z
 ·rw[zaj (Ne.symm q)];exact e⟩
theorem jg{M:Mem}{n:Nat}{o o':MO}(h:M[n]? = some o'):(M.set n o)[n]? = some o:=by
 rw[zak (Hj h)]
theorem rE{M:Mem}{n m:Nat}{o x:MO}(h:M[n]? = some x)(hn:n≠m):(M.set m o)[n]? = some x:=by
 rw[zaj (Ne.symm hn)];exact h
section
variable{κ α:Type}[DecidableEq κ]
noncomputable def gv(l:List (κ×α))(k:κ):Option α:=(l.find? λp=>decide (p.1=k)).map (·.2)
noncomputable def gp(l:List (κ×α))(k:κ)(x:α):List (κ×α):=if(l.any λp=>decide (p.1=k))=true then l.map (λp=>if p.1=k then(p.1,x)else p)else l++[(k,x)]
@[simp] theorem anw:gv ([]:List (κ×α)) k=none:=rfl
theorem qW{p:κ×α}{l:List (κ×α)}{k:κ}:gv (p::l) k=if p.1=k then some p.2 else gv l k:=by
 by_cases h:p.1=k<;>simp[gv,h]
theorem acE{l:List (κ×α)}{k:κ}:(l.any λp=>decide (p.1=k))=(gv l k).isSome:=by
 induction l with
 | nil=>rfl
 | cons p l ih=>rw[List.any_cons,ih,qW];by_cases h:p.1=k<;>simp[h]
theorem ahv{l:List (κ×α)}{k k':κ}{i:α}:gv (l.map (λp=>if p.1=k then(p.1,i)else p)) k'=if k'=k then(gv l k).map λ_=>i else gv l k':=by
 induction l with
 | nil=>simp
 | cons p l ih=>
  rw[List.map_cons,qW,qW,qW,ih]
  by_cases h:p.1=k
  ·by_cases h':k'=k
   ·subst h';simp[h]
   ·simp[h,h',Ne.symm h',λz:k=k'=>h' z.symm]
  ·by_cases h':k'=k
   ·subst h';simp[h]
   ·simp[h,h']
theorem ahw{l:List (κ×α)}{k k':κ}{i:α}:gv (l++[(k,i)]) k'=(gv l k').or (if k=k' then some i else none):=by
 induction l with
 | nil=>simp[qW]
 | cons p l ih=>rw[List.cons_append,qW,qW,ih];by_cases h:p.1=k'<;>simp[h]
theorem Hy{l:List (κ×α)}{k k':κ}{i:α}:gv (gp l k i) k'=if k'=k then some i else gv l k':=by
 unfold gp
 rw[acE]
 split
 ·rename_i h
  rw[ahv]
  obtain⟨j,hj⟩:=Option.isSome_iff_exists.mp h
  simp[hj]
 ·rename_i h
  rw[ahw]
  by_cases z:k'=k
  ·subst z
   rw[Option.not_isSome_iff_eq_none.mp h];simp
  ·rw[if_neg (λq:k=k'=>z q.symm),if_neg z];simp
theorem abY{l:List (κ×α)}{k:κ}{i:α}:(gp l k i).length<=l.length+1:=by
 unfold gp
 split<;>simp
variable{κ':Type}[DecidableEq κ']
def ge(f:κ->κ')(g:α->D)(l:List (κ×α)):List (κ'×D):=l.map λp=>(f p.1,g p.2)
theorem K1{f:κ->κ'}{g:α->D}(hf:∀a b,f a=f b->a=b){l:List (κ×α)}{k:κ}:uB (ge f g l) (f k)=(gv l k).map g:=by
 induction l with
 | nil=>rfl
 | cons p l ih=>
  rw[qW]
  have e:ge f g (p::l)=(f p.1,g p.2)::ge f g l:=rfl
  rw[e]
  by_cases h:p.1=k
  ·subst h;simp[uB]
  ·have:f p.1≠f k:=λz=>h (hf _ _ z)
   have e2:uB ((f p.1,g p.2)::ge f g l) (f k)=uB (ge f g l) (f k):=by simp[uB,this]
   rw[e2,ih];simp[h]
theorem Vt{f:κ->κ'}{g:α->D}(hf:∀a b,f a=f b->a=b){l:List (κ×α)}{k:κ}{i:α}:Yp (ge f g l) (f k) (g i)=ge f g (gp l k i):=by
 have e:((ge f g l).any λkv=>decide (kv.1=f k))=(l.any λp=>decide (p.1=k)):=by
  unfold ge
  rw[List.any_map]
  congr 1
  funext p
  have:(f p.1=f k)=(p.1=k):=propext ⟨hf _ _,λz=>by rw[z]⟩
  simp[this]
 unfold Yp gp
 rw[e]
 split
 ·unfold ge
  rw[List.map_map,List.map_map]
  congr 1
  funext p
  by_cases h:p.1=k
  ·simp[h]
  ·have:f p.1≠f k:=λz=>h (hf _ _ z)
   simp[h,this]
 ·unfold ge
  simp
@[simp] theorem Qt:(ge f g l).length=l.length:=by simp[ge]
end
def kN(h:Nat):Key:= .inl (h:Int)
def kI(t:Int):Key:= .inl t
def kP(p:Nat×Int):List Key:=[.inl (p.1:Int),.inl p.2]
def kQ(p:Int×Nat):List Key:=[.inl p.1,.inl (p.2:Int)]
theorem abH(a b:Nat)(h:kN a=kN b):a=b:=by
 have:(a:Int)=(b:Int):=by simpa[kN]using h
 omega
theorem Qh(a b:Int)(h:kI a=kI b):a=b:=by simpa[kI]using h
theorem abG(a b:Nat×Int)(h:kP a=kP b):a=b:=by
 obtain⟨a1,a2⟩:=a
 obtain⟨b1,b2⟩:=b
 simp[kP]at h
 have:a1=b1:=()
 simp[h,this]
def nD(n:Nat):D:= .int (n:Int)
def eD(e:Int×Nat):D:= .tup [.int e.1,.int (e.2:Int)]
def LK(M:Mem)(n:Nat)(kvs:List (List Key×D)):Prop:=M[n]? = some (.dt kvs)\/M[n]? = some (.dk [])/\kvs=[]
theorem LK.ch{p:Nat->Prop}(h:LK M n kvs)(c:Ch p M M')(hn:¬p n):LK M' n kvs:=h.imp (c.2 _ _ hn) λz=>⟨c.2 _ _ hn z.1,z.2⟩
theorem LK.dic(h:LK M n kvs):sV (.ref n) M=true:=by
 rcases h with h | h
 ·exact aen h
 ·exact xK h.1
theorem LK.some(h:LK M n kvs):∃o,M[n]? = some o:=by
 rcases h with h | h
 ·exact⟨_,h⟩
 ·exact⟨_,h.1⟩
section
variable{M:Mem}{n:Nat}{α:Type}{g:α->D}
theorem JF:toKeys [.int (p.1:Int),.int p.2]=some (kP p):=rfl
theorem ai4{κ:Type}[DecidableEq κ]{f:κ->List Key}(hf:∀a b,f a=f b->a=b){l:List (κ×α)}{ds:List D}{k:κ}(h:LK M n (ge f g l))(hk:toKeys ds=some (f k)):
  ∃M',BV M n (.tup ds)=some ((gv l k).map g,M')/\LK M' n (ge f g l)/\Ch (· = n) M M':=by
 rcases h with h | ⟨h,e⟩
 ·exact⟨M,by rw[ahO h hk,K1 hf],.inl h,Ch.refl⟩
 ·have e':l=[]:=by cases l with
   | nil=>rfl
   | cons _ _=>simp[ge]at e
  subst e'
  exact⟨_,by rw[ahP h hk];rfl,.inl (jg h),Ch.set rfl⟩
theorem Qs(h:BV M n k=Option.some (o,M')):Di (.ref n) k x M= .ok (o.getD x) M':=by
 simp only[Di,h]
 cases o<;>rfl
theorem Xi(h:LK M n (ge kP g l))(p:Nat×Int)(x:D):
  ∃M',Di (.ref n) (.tup [.int (p.1:Int),.int p.2]) x M= .ok (((gv l p).map g).getD x) M'/\LK M' n (ge kP g l)/\Ch (· = n) M M':=by
 obtain⟨M',e,t,c⟩:=ai4 abG h (JF (p:=p))
 exact⟨M',Qs e,t,c⟩
theorem Wy(h:LK M n (ge kP g l))(p:Nat×Int)(x:α)(hl:l.length<=1000):FT M (.ref n) (.tup [.int (p.1:Int),.int p.2]) (g x)=some (M.set n (.dt (ge kP g (gp l p x)))):=by
 have hz:(ge kP g l).length<sizeLine:=by
  rw[Qt]
  have:1000<sizeLine:=by decide
  omega
 rcases h with h | ⟨h,e⟩
 ·simp only[FT,h,JF,if_pos hz,<-Vt abG]
 ·have e':l=[]:=by cases l with
   | nil=>rfl
   | cons _ _=>simp[ge]at e
  subst e'
  simp only[FT,h,JF,toKey]
  rfl
theorem afx(h:M[n]? = some (.dk (ge kN g l)))(k:Nat)(x:D):Di (.ref n) (.int (k:Int)) x M= .ok (((gv l k).map g).getD x) M:=
 Qs (by rw[QD h];show some (uB (ge kN g l) (kN k),M)=_;rw[K1 abH])
theorem Xj(h:M[n]? = some (.dk (ge kI g l)))(k:Int)(x:D):Di (.ref n) (.int k) x M= .ok (((gv l k).map g).getD x) M:=
 Qs (by rw[QD h];show some (uB (ge kI g l) (kI k),M)=_;rw[K1 Qh])
theorem aaU(h:M[n]? = some (.dk (ge kN g l)))(k:Nat)(x:α)(hl:l.length<=1000):FT M (.ref n) (.int (k:Int)) (g x)=some (M.set n (.dk (ge kN g (gp l k x)))):=by
 have hz:(ge kN g l).length<sizeLine:=by
  rw[Qt]
  have:1000<sizeLine:=by decide
  omega
 simp only[FT,h,toKey,if_pos hz]
 rw[<-Vt abH]
 rfl
theorem Wz(h:M[n]? = some (.dk (ge kI g l)))(k:Int)(x:α)(hl:l.length<=1000):FT M (.ref n) (.int k) (g x)=some (M.set n (.dk (ge kI g (gp l k x)))):=by
 have hz:(ge kI g l).length<sizeLine:=by
  rw[Qt]
  have:1000<sizeLine:=by decide
  omega
 simp only[FT,h,toKey,if_pos hz]
 rw[<-Vt Qh]
 rfl
theorem anh(h:M[n]? = some (.dk (ge kI g l)))(k:Int):sIn (.int k) (.ref n) M= .ok (.bl (gv l k).isSome) M:=by
 refine iz ?_
 have:BV M n (.int k)=some ((gv l k).map g,M):=by rw[QD h];show some (uB (ge kI g l) (kI k),M)=_;rw[K1 Qh]
 simp only[U4,this]
 simp
end
inductive Wh where
 | st
 | ask (w n:Int) (o:D)
 | LC (a b:Nat)
noncomputable def Wh.d:Wh->D
 | .st=> .tup [.str "start"]
 | .ask w n o=> .tup [.str "ask",.int w,.int n,o]
 | .LC a b=> .tup [.str "roll",.int (a:Int),.int (b:Int)]
abbrev En:=Int×Wh
def mV(e:En):D:= .tup [.int e.1,e.2.d]
def esD(es:List En):D:= .tup (es.map mV)
set_option genInjectivity false in
structure BA where
 b:Nat
 rl:Nat
 bl:Nat
 tm:Nat
 vt:Nat
 ak:Nat
 se:Nat
 sd:Nat
 ro:Nat
 ln:Nat
 mr:Nat
 pl:Nat
 rp:Nat
 bt:Nat
 hd:Nat
 lk:Nat
 sn:Nat
set_option genInjectivity false in
structure BO where
 S:Nat
 r1:Bool
 r2:Bool
 r3:Bool
 r4:Bool
 cnt:Nat
 br:D
 tm:List (Nat×Int)
 vt:List ((Nat×Int)×Nat)
 ak:List ((Nat×Int)×(Int×Nat))
 se:List (Int×Nat)
 ro:List (Nat×List En)
 ln:List (Int×List En)
 mr:List (Int×Nat)
 pl:List ((Nat×Int)×Nat)
 bt:List (Int×Nat)
 hd:List ((Nat×Int)×Nat)
 lk:List ((Int×Nat)×D)
 sn:List ((Int×Nat)×Bool)
noncomputable def Ym(a b c d:Bool):MO:= .ins 6 [("once",.bl a),("best",.bl b),("own",.bl c),("most",.bl d)]
noncomputable def Ln(a:BA)(S cnt:Nat)(br:D):MO:= .ins 8 [("first",.int (S:Int)),("rules",.ref a.rl),("ballots",.ref a.bl),("strides",.ref a.sd),("replies",.ref a.rp),("count",.int (cnt:Int)),("breach",br)]
noncomputable def akI(a:BA):MO:= .ins 0 [("rules",.ref a.rl),("terms",.ref a.tm),("votes",.ref a.vt),("askings",.ref a.ak),("seated",.ref a.se)]
noncomputable def amx(a:BA)(S:Nat):MO:= .ins 7 [("first_roll",.tup [.int (S:Int),.int 0]),("rules",.ref a.rl),("rows",.ref a.ro),("lines",.ref a.ln),("marks",.ref a.mr),("places",.ref a.pl)]
noncomputable def amH(a:BA):MO:= .ins 5 [("beats",.ref a.bt),("heard",.ref a.hd),("looks",.ref a.lk),("seen",.ref a.sn)]
def Oo(a:BA):Prop:=a.b<a.rl/\a.rl<a.bl/\a.bl<a.tm/\a.tm<a.vt/\a.vt<a.ak/\a.ak<a.se/\a.se<a.sd/\a.sd<a.ro/\a.ro<a.ln/\a.ln<a.mr/\a.mr<a.pl/\a.pl<a.rp/\a.rp<a.bt/\a.bt<a.hd/\a.hd<a.lk/\a.lk<a.sn
structure b7(M:Mem)(a:BA)(s:BO):Prop where
 b:M[a.b]? = some (Ln a s.S s.cnt s.br)
 rl:M[a.rl]? = some (Ym s.r1 s.r2 s.r3 s.r4)
 bl:M[a.bl]? = some (akI a)
 tm:M[a.tm]? = some (.dk (ge kN D.int s.tm))
 vt:LK M a.vt (ge kP nD s.vt)
 ak:LK M a.ak (ge kP eD s.ak)
 se:M[a.se]? = some (.dk (ge kI nD s.se))
 sd:M[a.sd]? = some (amx a s.S)
 ro:M[a.ro]? = some (.dk (ge kN esD s.ro))
 ln:M[a.ln]? = some (.dk (ge kI esD s.ln))
 mr:M[a.mr]? = some (.dk (ge kI nD s.mr))
 pl:LK M a.pl (ge kP nD s.pl)
 rp:M[a.rp]? = some (amH a)
 bt:M[a.bt]? = some (.dk (ge kI nD s.bt))
 hd:LK M a.hd (ge kP nD s.hd)
 lk:LK M a.lk (ge kQ id s.lk)
 sn:LK M a.sn (ge kQ D.bl s.sn)
 o:a.b<a.rl/\a.rl<a.bl/\a.bl<a.tm/\a.tm<a.vt/\a.vt<a.ak/\a.ak<a.se/\a.se<a.sd/\a.sd<a.ro/\a.ro<a.ln/\a.ln<a.mr/\a.mr<a.pl/\a.pl<a.rp/\a.rp<a.bt/\a.bt<a.hd/\a.hd<a.lk/\a.lk<a.sn
def Rg(a:BA):Nat->Prop:=λi=>a.b<=i/\i<=a.sn
theorem vU{fs:List (Str×D)}{m:Str}(h:(fs.map (·.1)).contains m=false):fs.lookup m=none:=by
 induction fs with
 | nil=>rfl
 | cons p l ih=>
  rw[List.map_cons,List.contains_cons,Bool.or_eq_false_iff]at h
  rw[List.lookup_cons,h.1]
  exact ih h.2
section
variable{M M':Mem}{a:BA}{s:BO}
noncomputable def ad(a:BA)(i:Nat):Nat:=[a.b,a.rl,a.bl,a.tm,a.vt,a.ak,a.se,a.sd,a.ro,a.ln,a.mr,a.pl,a.rp,a.bt,a.hd,a.lk,a.sn].getD i 0
theorem akL(o:Oo a):∀i,i<16->ad a i<ad a (i+1)
 | 0,_=>o.1
 | 1,_=>o.2.1
 | 2,_=>o.2.2.1
 | 3,_=>o.2.2.2.1
 | 4,_=>o.2.2.2.2.1
 | 5,_=>o.2.2.2.2.2.1
 | 6,_=>o.2.2.2.2.2.2.1
 | 7,_=>o.2.2.2.2.2.2.2.1
 | 8,_=>o.2.2.2.2.2.2.2.2.1
 | 9,_=>o.2.2.2.2.2.2.2.2.2.1
 | 10,_=>o.2.2.2.2.2.2.2.2.2.2.1
 | 11,_=>o.2.2.2.2.2.2.2.2.2.2.2.1
 | 12,_=>o.2.2.2.2.2.2.2.2.2.2.2.2.1
 | 13,_=>o.2.2.2.2.2.2.2.2.2.2.2.2.2.1
 | 14,_=>o.2.2.2.2.2.2.2.2.2.2.2.2.2.2.1
 | 15,_=>o.2.2.2.2.2.2.2.2.2.2.2.2.2.2.2
 | n+16,h=>absurd h (Nat.not_lt.mpr (Nat.le_add_left 16 n))
theorem Uh(o:Oo a):∀j i,i<j->j<=16->ad a i<ad a j
 | 0,_,h,_=>absurd h (Nat.not_lt_zero _)
 | j+1,i,h,k=>by
  rcases Nat.lt_or_eq_of_le (Nat.le_of_lt_succ h)with z | z
  ·exact Nat.lt_trans (Uh o j i z (Nat.le_of_lt k)) (akL o j k)
  ·subst z;exact akL o _ k
theorem CJ(o:Oo a)(i j:Nat)(h:(decide (i≠j)&&(decide (i<=16)&&decide (j<=16)))=true):ad a i≠ad a j:=by
 simp only[Bool.and_eq_true,decide_eq_true_eq]at h
 rcases Nat.lt_or_gt_of_ne h.1 with z | z
 ·exact xD (Uh o j i z h.2.2)
 ·exact xS (Uh o i j z h.2.1)
theorem ou(o:Oo a)(i:Nat)(h:decide (i<=16)=true):Rg a (ad a i):=by
 have h:=zah h
 constructor
 ·cases i with
  | zero=>exact zab _
  | succ n=>exact Nat.le_of_lt (Uh o (n+1) 0 (Nat.succ_pos n) h)
 ·rcases Nat.lt_or_eq_of_le h with z | z
  ·exact Nat.le_of_lt (Uh o 16 i z (zab _))
  ·subst z;exact zab _
theorem b7.ch{p:Nat->Prop}(h:b7 M a s)(c:Ch p M M')(hp:∀i,a.b<=i->i<=a.sn->¬p i):b7 M' a s:=by
 have o:=h.o
 have r:=λi=> @ou a o i
 exact⟨c.2 _ _ (hp _ (r 0 rfl).1 (r 0 rfl).2) h.b,c.2 _ _ (hp _ (r 1 rfl).1 (r 1 rfl).2) h.rl,c.2 _ _ (hp _ (r 2 rfl).1 (r 2 rfl).2) h.bl,c.2 _ _ (hp _ (r 3 rfl).1 (r 3 rfl).2) h.tm,h.vt.ch c (hp _ (r 4 rfl).1 (r 4 rfl).2),h.ak.ch c (hp _ (r 5 rfl).1 (r 5 rfl).2),c.2 _ _ (hp _ (r 6 rfl).1 (r 6 rfl).2) h.se,c.2 _ _ (hp _ (r 7 rfl).1 (r 7 rfl).2) h.sd,c.2 _ _ (hp _ (r 8 rfl).1 (r 8 rfl).2) h.ro,c.2 _ _ (hp _ (r 9 rfl).1 (r 9 rfl).2) h.ln,c.2 _ _ (hp _ (r 10 rfl).1 (r 10 rfl).2) h.mr,h.pl.ch c (hp _ (r 11 rfl).1 (r 11 rfl).2),c.2 _ _ (hp _ (r 12 rfl).1 (r 12 rfl).2) h.rp,c.2 _ _ (hp _ (r 13 rfl).1 (r 13 rfl).2) h.bt,h.hd.ch c (hp _ (r 14 rfl).1 (r 14 rfl).2),h.lk.ch c (hp _ (r 15 rfl).1 (r 15 rfl).2),h.sn.ch c (hp _ (r 16 rfl).1 (r 16 rfl).2),o⟩
theorem b7.u_b(h:b7 M a s)(c:Ch (· = a.b) M M')(e:M'[a.b]? = some (Ln a s.S m d)):b7 M' a {s with cnt:=m,br:=d}:=by
 have o:=h.o
 have n:=λi=> @CJ a o i 0
 exact⟨e,c.2 _ _ (n 1 rfl) h.rl,c.2 _ _ (n 2 rfl) h.bl,c.2 _ _ (n 3 rfl) h.tm,h.vt.ch c (n 4 rfl),h.ak.ch c (n 5 rfl),c.2 _ _ (n 6 rfl) h.se,c.2 _ _ (n 7 rfl) h.sd,c.2 _ _ (n 8 rfl) h.ro,c.2 _ _ (n 9 rfl) h.ln,c.2 _ _ (n 10 rfl) h.mr,h.pl.ch c (n 11 rfl),c.2 _ _ (n 12 rfl) h.rp,c.2 _ _ (n 13 rfl) h.bt,h.hd.ch c (n 14 rfl),h.lk.ch c (n 15 rfl),h.sn.ch c (n 16 rfl),o⟩
theorem b7.ame(h:b7 M a s)(c:Ch (· = a.tm) M M')(e:M'[a.tm]? = some (.dk (ge kN D.int l))):b7 M' a {s with tm:=l}:=by
 have o:=h.o
 have n:=λi=> @CJ a o i 3
 exact⟨c.2 _ _ (n 0 rfl) h.b,c.2 _ _ (n 1 rfl) h.rl,c.2 _ _ (n 2 rfl) h.bl,e,h.vt.ch c (n 4 rfl),h.ak.ch c (n 5 rfl),c.2 _ _ (n 6 rfl) h.se,c.2 _ _ (n 7 rfl) h.sd,c.2 _ _ (n 8 rfl) h.ro,c.2 _ _ (n 9 rfl) h.ln,c.2 _ _ (n 10 rfl) h.mr,h.pl.ch c (n 11 rfl),c.2 _ _ (n 12 rfl) h.rp,c.2 _ _ (n 13 rfl) h.bt,h.hd.ch c (n 14 rfl),h.lk.ch c (n 15 rfl),h.sn.ch c (n 16 rfl),o⟩
theorem b7.aiI(h:b7 M a s)(c:Ch (· = a.vt) M M')(e:LK M' a.vt (ge kP nD l)):b7 M' a {s with vt:=l}:=by
 have o:=h.o
 have n:=λi=> @CJ a o i 4
 exact⟨c.2 _ _ (n 0 rfl) h.b,c.2 _ _ (n 1 rfl) h.rl,c.2 _ _ (n 2 rfl) h.bl,c.2 _ _ (n 3 rfl) h.tm,e,h.ak.ch c (n 5 rfl),c.2 _ _ (n 6 rfl) h.se,c.2 _ _ (n 7 rfl) h.sd,c.2 _ _ (n 8 rfl) h.ro,c.2 _ _ (n 9 rfl) h.ln,c.2 _ _ (n 10 rfl) h.mr,h.pl.ch c (n 11 rfl),c.2 _ _ (n 12 rfl) h.rp,c.2 _ _ (n 13 rfl) h.bt,h.hd.ch c (n 14 rfl),h.lk.ch c (n 15 rfl),h.sn.ch c (n 16 rfl),o⟩
theorem b7.aiN(h:b7 M a s)(c:Ch (· = a.ak) M M')(e:LK M' a.ak (ge kP eD l)):b7 M' a {s with ak:=l}:=by
 have o:=h.o
 have n:=λi=> @CJ a o i 5
 exact⟨c.2 _ _ (n 0 rfl) h.b,c.2 _ _ (n 1 rfl) h.rl,c.2 _ _ (n 2 rfl) h.bl,c.2 _ _ (n 3 rfl) h.tm,h.vt.ch c (n 4 rfl),e,c.2 _ _ (n 6 rfl) h.se,c.2 _ _ (n 7 rfl) h.sd,c.2 _ _ (n 8 rfl) h.ro,c.2 _ _ (n 9 rfl) h.ln,c.2 _ _ (n 10 rfl) h.mr,h.pl.ch c (n 11 rfl),c.2 _ _ (n 12 rfl) h.rp,c.2 _ _ (n 13 rfl) h.bt,h.hd.ch c (n 14 rfl),h.lk.ch c (n 15 rfl),h.sn.ch c (n 16 rfl),o⟩
theorem b7.amf(h:b7 M a s)(c:Ch (· = a.se) M M')(e:M'[a.se]? = some (.dk (ge kI nD l))):b7 M' a {s with se:=l}:=by
 have o:=h.o
 have n:=λi=> @CJ a o i 6
 exact⟨c.2 _ _ (n 0 rfl) h.b,c.2 _ _ (n 1 rfl) h.rl,c.2 _ _ (n 2 rfl) h.bl,c.2 _ _ (n 3 rfl) h.tm,h.vt.ch c (n 4 rfl),h.ak.ch c (n 5 rfl),e,c.2 _ _ (n 7 rfl) h.sd,c.2 _ _ (n 8 rfl) h.ro,c.2 _ _ (n 9 rfl) h.ln,c.2 _ _ (n 10 rfl) h.mr,h.pl.ch c (n 11 rfl),c.2 _ _ (n 12 rfl) h.rp,c.2 _ _ (n 13 rfl) h.bt,h.hd.ch c (n 14 rfl),h.lk.ch c (n 15 rfl),h.sn.ch c (n 16 rfl),o⟩
theorem b7.aiJ(h:b7 M a s)(c:Ch (· = a.ro) M M')(e:M'[a.ro]? = some (.dk (ge kN esD l))):b7 M' a {s with ro:=l}:=by
 have o:=h.o
 have n:=λi=> @CJ a o i 8
 exact⟨c.2 _ _ (n 0 rfl) h.b,c.2 _ _ (n 1 rfl) h.rl,c.2 _ _ (n 2 rfl) h.bl,c.2 _ _ (n 3 rfl) h.tm,h.vt.ch c (n 4 rfl),h.ak.ch c (n 5 rfl),c.2 _ _ (n 6 rfl) h.se,c.2 _ _ (n 7 rfl) h.sd,e,c.2 _ _ (n 9 rfl) h.ln,c.2 _ _ (n 10 rfl) h.mr,h.pl.ch c (n 11 rfl),c.2 _ _ (n 12 rfl) h.rp,c.2 _ _ (n 13 rfl) h.bt,h.hd.ch c (n 14 rfl),h.lk.ch c (n 15 rfl),h.sn.ch c (n 16 rfl),o⟩
theorem b7.aiL(h:b7 M a s)(c:Ch (· = a.ln) M M')(e:M'[a.ln]? = some (.dk (ge kI esD l))):b7 M' a {s with ln:=l}:=by
 have o:=h.o
 have n:=λi=> @CJ a o i 9
 exact⟨c.2 _ _ (n 0 rfl) h.b,c.2 _ _ (n 1 rfl) h.rl,c.2 _ _ (n 2 rfl) h.bl,c.2 _ _ (n 3 rfl) h.tm,h.vt.ch c (n 4 rfl),h.ak.ch c (n 5 rfl),c.2 _ _ (n 6 rfl) h.se,c.2 _ _ (n 7 rfl) h.sd,c.2 _ _ (n 8 rfl) h.ro,e,c.2 _ _ (n 10 rfl) h.mr,h.pl.ch c (n 11 rfl),c.2 _ _ (n 12 rfl) h.rp,c.2 _ _ (n 13 rfl) h.bt,h.hd.ch c (n 14 rfl),h.lk.ch c (n 15 rfl),h.sn.ch c (n 16 rfl),o⟩
theorem b7.amg(h:b7 M a s)(c:Ch (· = a.mr) M M')(e:M'[a.mr]? = some (.dk (ge kI nD l))):b7 M' a {s with mr:=l}:=by
 have o:=h.o
 have n:=λi=> @CJ a o i 10
 exact⟨c.2 _ _ (n 0 rfl) h.b,c.2 _ _ (n 1 rfl) h.rl,c.2 _ _ (n 2 rfl) h.bl,c.2 _ _ (n 3 rfl) h.tm,h.vt.ch c (n 4 rfl),h.ak.ch c (n 5 rfl),c.2 _ _ (n 6 rfl) h.se,c.2 _ _ (n 7 rfl) h.sd,c.2 _ _ (n 8 rfl) h.ro,c.2 _ _ (n 9 rfl) h.ln,e,h.pl.ch c (n 11 rfl),c.2 _ _ (n 12 rfl) h.rp,c.2 _ _ (n 13 rfl) h.bt,h.hd.ch c (n 14 rfl),h.lk.ch c (n 15 rfl),h.sn.ch c (n 16 rfl),o⟩
theorem b7.aiK(h:b7 M a s)(c:Ch (· = a.pl) M M')(e:LK M' a.pl (ge kP nD l)):b7 M' a {s with pl:=l}:=by
 have o:=h.o
 have n:=λi=> @CJ a o i 11
 exact⟨c.2 _ _ (n 0 rfl) h.b,c.2 _ _ (n 1 rfl) h.rl,c.2 _ _ (n 2 rfl) h.bl,c.2 _ _ (n 3 rfl) h.tm,h.vt.ch c (n 4 rfl),h.ak.ch c (n 5 rfl),c.2 _ _ (n 6 rfl) h.se,c.2 _ _ (n 7 rfl) h.sd,c.2 _ _ (n 8 rfl) h.ro,c.2 _ _ (n 9 rfl) h.ln,c.2 _ _ (n 10 rfl) h.mr,e,c.2 _ _ (n 12 rfl) h.rp,c.2 _ _ (n 13 rfl) h.bt,h.hd.ch c (n 14 rfl),h.lk.ch c (n 15 rfl),h.sn.ch c (n 16 rfl),o⟩
theorem b7.aiM(h:b7 M a s)(c:Ch (· = a.hd) M M')(e:LK M' a.hd (ge kP nD l)):b7 M' a {s with hd:=l}:=by
 have o:=h.o
 have n:=λi=> @CJ a o i 14
 exact⟨c.2 _ _ (n 0 rfl) h.b,c.2 _ _ (n 1 rfl) h.rl,c.2 _ _ (n 2 rfl) h.bl,c.2 _ _ (n 3 rfl) h.tm,h.vt.ch c (n 4 rfl),h.ak.ch c (n 5 rfl),c.2 _ _ (n 6 rfl) h.se,c.2 _ _ (n 7 rfl) h.sd,c.2 _ _ (n 8 rfl) h.ro,c.2 _ _ (n 9 rfl) h.ln,c.2 _ _ (n 10 rfl) h.mr,h.pl.ch c (n 11 rfl),c.2 _ _ (n 12 rfl) h.rp,c.2 _ _ (n 13 rfl) h.bt,e,h.lk.ch c (n 15 rfl),h.sn.ch c (n 16 rfl),o⟩
theorem b7.fbl(h:b7 M a s):mR [8] "ballots" (.ref a.b) M= .ok (.ref a.bl) M:=dj h.b (by simp) rfl
theorem b7.Xm(h:b7 M a s):mR [8] "strides" (.ref a.b) M= .ok (.ref a.sd) M:=dj h.b (by simp) rfl
theorem b7.frp(h:b7 M a s):mR [8] "replies" (.ref a.b) M= .ok (.ref a.rp) M:=dj h.b (by simp) rfl
theorem b7.frb(h:b7 M a s):mR [0,7,8] "rules" (.ref a.bl) M= .ok (.ref a.rl) M:=dj h.bl (by simp) rfl
theorem b7.ftm(h:b7 M a s):mR [0] "terms" (.ref a.bl) M= .ok (.ref a.tm) M:=dj h.bl (by simp) rfl
theorem b7.fvt(h:b7 M a s):mR [0] "votes" (.ref a.bl) M= .ok (.ref a.vt) M:=dj h.bl (by simp) rfl
theorem b7.fak(h:b7 M a s):mR [0] "askings" (.ref a.bl) M= .ok (.ref a.ak) M:=dj h.bl (by simp) rfl
theorem b7.fse(h:b7 M a s):mR [0] "seated" (.ref a.bl) M= .ok (.ref a.se) M:=dj h.bl (by simp) rfl
theorem b7.frs(h:b7 M a s):mR [0,7,8] "rules" (.ref a.sd) M= .ok (.ref a.rl) M:=dj h.sd (by simp) rfl
theorem b7.fro(h:b7 M a s):mR [7] "rows" (.ref a.sd) M= .ok (.ref a.ro) M:=dj h.sd (by simp) rfl
theorem b7.fln(h:b7 M a s):mR [7] "lines" (.ref a.sd) M= .ok (.ref a.ln) M:=dj h.sd (by simp) rfl
theorem b7.fmk(h:b7 M a s):mR [7] "marks" (.ref a.sd) M= .ok (.ref a.mr) M:=dj h.sd (by simp) rfl
theorem b7.fpl(h:b7 M a s):mR [7] "places" (.ref a.sd) M= .ok (.ref a.pl) M:=dj h.sd (by simp) rfl
theorem b7.fbt(h:b7 M a s):mR [5] "beats" (.ref a.rp) M= .ok (.ref a.bt) M:=dj h.rp (by simp) rfl
theorem b7.fhd(h:b7 M a s):mR [5] "heard" (.ref a.rp) M= .ok (.ref a.hd) M:=dj h.rp (by simp) rfl
theorem b7.fcn(h:b7 M a s):mR [8] "count" (.ref a.b) M= .ok (.int (s.cnt:Int)) M:=dj h.b (by simp) rfl
theorem b7.fbr(h:b7 M a s):mR [8] "breach" (.ref a.b) M= .ok s.br M:=dj h.b (by simp) rfl
theorem b7.ffr(h:b7 M a s):mR [7] "first_roll" (.ref a.sd) M= .ok (.tup [.int (s.S:Int),.int 0]) M:=dj h.sd (by simp) rfl
theorem b7.f1(h:b7 M a s):mR [6] "once" (.ref a.rl) M= .ok (.bl s.r1) M:=dj h.rl (by simp) rfl
theorem b7.f2(h:b7 M a s):mR [6] "best" (.ref a.rl) M= .ok (.bl s.r2) M:=dj h.rl (by simp) rfl
theorem b7.f3(h:b7 M a s):mR [6] "own" (.ref a.rl) M= .ok (.bl s.r3) M:=dj h.rl (by simp) rfl
theorem b7.f4(h:b7 M a s):mR [6] "most" (.ref a.rl) M= .ok (.bl s.r4) M:=dj h.rl (by simp) rfl
theorem b7.Gh(h:b7 M a s){m:Str}(hm:(["first","rules","ballots","strides","replies","count","breach"]:List Str).contains m=false):uw 8 m (.ref a.b) M=true:=Ae h.b (vU hm)
theorem b7.oO(h:b7 M a s){m:Str}(hm:(["rules","terms","votes","askings","seated"]:List Str).contains m=false):uw 0 m (.ref a.bl) M=true:=Ae h.bl (vU hm)
theorem b7.gK(h:b7 M a s){m:Str}(hm:(["first_roll","rules","rows","lines","marks","places"]:List Str).contains m=false):uw 7 m (.ref a.sd) M=true:=Ae h.sd (vU hm)
theorem b7.aea(h:b7 M a s){m:Str}(hm:(["beats","heard","looks","seen"]:List Str).contains m=false):uw 5 m (.ref a.rp) M=true:=Ae h.rp (vU hm)
theorem b7.ajS(h:b7 M a s){m:Str}(hm:(["once","best","own","most"]:List Str).contains m=false):uw 6 m (.ref a.rl) M=true:=Ae h.rl (vU hm)
end
theorem ahx(g:Gr M0 M)(h:M0.length<=r):Gr M0 (M.set r o):=λi q hq=>by
 have:=Hj hq
 rw[zaj ()]
 exact g i q hq
theorem get_set{M:Mem}{n:Nat}{o x:MO}(h:M[n]? = some o):(M.set n x)[n]? = some x:=zak (Hj h)
theorem abI{l i:Nat}{ws:List Str}{w:Str}(h:M[l]? = some (.lst (ws.map D.str)))(hw:ws[i]? = some w):bh (.ref l) (.int (i:Int)) M= .ok (.str w) M:=
 jL h () (by simp[hw])
theorem YF:U0 (.str w) (.mW [.str a,.str b]) M= .ok (.bl (!(decide (a=w)||decide (b=w)))) M:=by
 refine(p_ rfl).trans ?_
 simp only[U3,Rn,vB,Oq]
 simp[inV,eqV,Bool.beq_eq_decide_eq]
def afL(w0 w1 w2 w3:Str):Prop:=(w0= "once" \/ w0= "free")/\(w1= "best" \/ w1= "any")/\(w2= "own" \/ w2= "old")/\(w3= "most" \/ w3= "half")
theorem I_{l i:Nat}{ws:List Str}{w a b:Str}{ds:List D}{u v:Option D}(hM:M[l]? = some (.lst (ws.map D.str)))(hw:ws[i]? = some w)(h:w=a\/w=b):
  fZ none (gT 2 (d8 (gN 1) (d8 (gN 2) vW))) gQ (.tup [.int (i:Int),.mW [.str a,.str b]]::ds) [some (.ref l),u,v] M=fZ none (gT 2 (d8 (gN 1) (d8 (gN 2) vW))) gQ ds [some (.ref l),some (.int (i:Int)),some (.mW [.str a,.str b])] M:=by
 have hl:¬((ws.length:Int)<=(i:Int)):=by have:=(List.getElem?_eq_some_iff.mp hw).1;omega
 have e:gQ [some (.ref l),some (.int (i:Int)),some (.mW [.str a,.str b])] M= .next [some (.ref l),some (.int (i:Int)),some (.mW [.str a,.str b])] M:=by
  have hb:(!(decide (a=w)||decide (b=w)))=false:=by rcases h with z | z<;>simp[z]
  simp only[gQ,Ag]
  simp only[U5,ag8,Km,Jk,QV]
  simp[kY hM,abI hM hw,YF,hl]
  exact λq=>h.elim (λz=>absurd z.symm q) Eq.symm
 rw[fZ,if_pos (show ir none M from trivial)]
 simp[e]
theorem Us(hM:M[l]? = some (.lst ([w0,w1,w2,w3].map D.str)))(hg:afL w0 w1 w2 w3):xq [.ref l] M= .ok .non M:=by
 obtain⟨g0,g1,g2,g3⟩:=hg
 have en:∀ds:List D,sX (.mW ds) (.int 0) M= .ok ⟨none,lu 0 ds⟩ M:=λds=>rfl
 have s0:=λds=>I_ (i:=0) (ds:=ds) (u:=none) (v:=none) hM rfl g0
 have s1:=λds u v=>I_ (i:=1) (ds:=ds) (u:=u) (v:=v) hM rfl g1
 have s2:=λds u v=>I_ (i:=2) (ds:=ds) (u:=u) (v:=v) hM rfl g2
 have s3:=λds u v=>I_ (i:=3) (ds:=ds) (u:=u) (v:=v) hM rfl g3
 have lp:fZ none (gT 2 (d8 (gN 1) (d8 (gN 2) vW))) gQ (lu 0 [.mW [.str "once",.str "free"],.mW [.str "best",.str "any"],.mW [.str "own",.str "old"],.mW [.str "most",.str "half"]]) [some (.ref l),none,none] M= .next [some (.ref l),some (.int 3),some (.mW [.str "most",.str "half"])] M:=by
  refine(s0 _).trans ((s1 _ _ _).trans ((s2 _ _ _).trans ((s3 _ _ _).trans ?_)))
  show fZ _ _ _ [] _ _=_
  rw[fZ,if_pos (show ir none M from trivial)]
  rfl
 simp only[xq,x_,Am,Af]
 simp[lp,kY hM]
theorem aaL(hy:y.length<=1000)(hs:Txt.split y " " = [w0,w1,w2,w3])(hg:afL w0 w1 w2 w3):
  ∃M',jQ [.ref M.length,.str y] (M++[.ins 6 []])= .ok .non M'/\Gr M M'/\M'[M.length]? = some (Ym (decide (w0= "once")) (decide (w1= "best")) (decide (w2= "own")) (decide (w3= "most"))):=by
 obtain⟨N,hN⟩:∃N,N=M++[MO.ins 6 []]:=⟨_,rfl⟩
 obtain⟨N1,hN1⟩:∃N1,N1=N++[MO.lst ([w0,w1,w2,w3].map D.str)]:=⟨_,rfl⟩
 have g:Gr M N:=by rw[hN];exact Gr.app
 have g1:Gr N N1:=by rw[hN1];exact Gr.app
 have hl:N1[N.length]? = some (.lst ([w0,w1,w2,w3].map D.str)):=by rw[hN1];exact cF
 have h0:N1[M.length]? = some (.ins 6 []):=g1 _ _ (by rw[hN];exact cF)
 have nl:N.length=M.length+1:=by rw[hN];simp
 have e1:Gn (.str y) [.str " "] N= .ok (.ref N.length) N1:=by rw[Yh () (by decide),hs,<-hN1]
 have ty:X8 "str" (.str y) N=true:=rfl
 have e2:=Us hl hg
 obtain⟨b0,hb0⟩:∃b0,b0=decide (w0= "once"):=⟨_,rfl⟩
 obtain⟨b1,hb1⟩:∃b1,b1=decide (w1= "best"):=⟨_,rfl⟩
 obtain⟨b2,hb2⟩:∃b2,b2=decide (w2= "own"):=⟨_,rfl⟩
 obtain⟨b3,hb3⟩:∃b3,b3=decide (w3= "most"):=⟨_,rfl⟩
 have q1:mH [6] "once" (.bl b0) (.ref M.length) N1=some (N1.set M.length (.ins 6 [("once",.bl b0)])):=by
  rw[jN h0 (by simp) (by simp)];rfl
 have q2:mH [6] "best" (.bl b1) (.ref M.length) (N1.set M.length (.ins 6 [("once",.bl b0)]))=some (N1.set M.length (.ins 6 [("once",.bl b0),("best",.bl b1)])):=by
  rw[jN (get_set h0) (by simp) (by simp),List.set_set];rfl
 have q3:mH [6] "own" (.bl b2) (.ref M.length) (N1.set M.length (.ins 6 [("once",.bl b0),("best",.bl b1)]))=some (N1.set M.length (.ins 6 [("once",.bl b0),("best",.bl b1),("own",.bl b2)])):=by
  rw[jN (get_set h0) (by simp) (by simp),List.set_set];rfl
 have q4:mH [6] "most" (.bl b3) (.ref M.length) (N1.set M.length (.ins 6 [("once",.bl b0),("best",.bl b1),("own",.bl b2)]))=some (N1.set M.length (Ym b0 b1 b2 b3)):=by
  rw[jN (get_set h0) (by simp) (by simp),List.set_set];rfl
 have ix:∀(o:MO) (i:Nat) (w:Str),[w0,w1,w2,w3][i]? = some w->bh (.ref N.length) (.int (i:Int)) (N1.set M.length o)= .ok (.str w) (N1.set M.length o):=λo i w hw=>abI (by rw[zaj ()];exact hl) hw
 have i0:bh (.ref N.length) (.int 0) N1= .ok (.str w0) N1:=abI (i:=0) hl rfl
 have i1:=λo=>ix o 1 w1 rfl
 have i2:=λo=>ix o 2 w2 rfl
 have i3:=λo=>ix o 3 w3 rfl
 simp only[Int.cast_ofNat_Int]at i1 i2 i3
 refine⟨N1.set M.length (Ym b0 b1 b2 b3),?_,ahx (g.trans g1) (zab _),by rw[<-hb0,<-hb1,<-hb2,<-hb3];exact get_set h0⟩
 simp only[jQ,nO,Aj]
 simp[<-hN,ty,e1,e2,i0,i1,i2,i3,<-hb0,<-hb1,<-hb2,<-hb3,q1,q2,q3,q4]
theorem U6:∃M',jQ [.ref M.length,.str "once best own most"] (M++[.ins 6 []])= .ok .non M'/\Gr M M'/\M'[M.length]? = some (Ym true true true true):=
 aaL (by decide) (show Txt.split "once best own most" " " = ([("once" : Str),"best","own","most"]:List Str) by decide +kernel) ⟨.inl rfl,.inl rfl,.inl rfl,.inl rfl⟩
def BO.term(s:BO)(h:Nat):Int:=(gv s.tm h).getD 0
def BO.Gg(s:BO)(h:Nat)(t:Int):Nat:=(gv s.vt (h,t)).getD 0
def BO.ask(s:BO)(h:Nat)(t:Int):Option (Int×Nat):=gv s.ak (h,t)
def BO.head(s:BO)(t:Int):Option Nat:=gv s.se t
def BO.row(s:BO)(h:Nat):List En:=(gv s.ro h).getD []
def BO.line(s:BO)(t:Int):List En:=(gv s.ln t).getD []
def BO.mark(s:BO)(t:Int):Nat:=(gv s.mr t).getD 0
structure Bx(M:Mem)(a:BA)(s:BO)(M':Mem):Prop where
 h:b7 M' a s
 c:Ch (Rg a) M M'
section
variable{M M1 M2 M':Mem}{a:BA}{s s':BO}
theorem Bx.trans(x:Bx M a s M1)(y:Bx M1 a s' M2):Bx M a s' M2:=⟨y.h,x.c.trans y.c⟩
theorem Bx.of(h:b7 M a s):Bx M a s M:=⟨h,Ch.refl⟩
theorem Bx.gr(h:b7 M a s)(g:Gr M M'):Bx M a s M':=⟨h.ch (p:=λ_=>False) g.ch (λ_ _ _ z=>z),g.ch⟩
theorem Ch.one(c:Ch (· = n) M M')(hn:Rg a n):Ch (Rg a) M M':=c.mono λi _ z=>by have z:i=n:=z;subst z;exact hn
theorem KZ{o:Option Nat}:(o.map nD).getD (.int 0)= .int ((o.getD 0:Nat):Int):=by cases o<;>rfl
theorem ahA{o:Option Int}:(o.map D.int).getD (.int 0)= .int (o.getD 0):=by cases o<;>rfl
theorem Xl{o:Option (List En)}:(o.map esD).getD (.tup [])=esD (o.getD []):=by cases o<;>rfl
theorem Ed(h:b7 M a s)(k:Nat):dB [.ref a.bl,.int (k:Int)] M= .ok (.int (s.term k)) M:=by
 have e:=afx h.tm k (.int 0)
 rw[ahA]at e
 simp only[dB,nU]
 simp[h.ftm,xK h.tm,e,BO.term]
theorem Jv(h:b7 M a s)(k:Nat)(t:Int):∃M',cZ [.ref a.bl,.int (k:Int),.int t] M= .ok (.int (s.Gg k t:Nat)) M'/\Bx M a s M':=by
 obtain⟨M',e,tt,c⟩:=Xi h.vt (k,t) (.int 0)
 rw[KZ]at e
 refine⟨M',?_,h.aiI c tt,c.one (ou h.o 4 rfl)⟩
 simp only[cZ,l_]
 simp[h.fvt,h.vt.dic,e,BO.Gg]
theorem Ud(h:b7 M a s)(k:Nat)(t:Int):∃M',fX [.ref a.bl,.int (k:Int),.int t] M= .ok (((s.ask k t).map eD).getD .non) M'/\Bx M a s M':=by
 obtain⟨M',e,tt,c⟩:=Xi h.ak (k,t) .non
 refine⟨M',?_,h.aiN c tt,c.one (ou h.o 5 rfl)⟩
 simp only[fX,jJ]
 simp[h.fak,h.ak.dic,e,BO.ask]
theorem Fx(h:b7 M a s)(t:Int):cj [.ref a.bl,.int t] M= .ok (((s.head t).map nD).getD .non) M:=by
 have e:=Xj h.se t .non
 simp only[cj,mj]
 simp[h.fse,xK h.se,e,BO.head]
theorem wN(h:b7 M a s)(k:Nat):bM [.ref a.sd,.int (k:Int)] M= .ok (esD (s.row k)) M:=by
 have e:=afx h.ro k (.tup [])
 rw[Xl]at e
 simp only[bM,pq]
 simp[h.fro,xK h.ro,e,BO.row]
theorem or_zero(w:Nat):Builtin.bitOr 0 (1*2 ^ ((w:Int)).toNat)=((2 ^ w:Nat):Int):=by
 have:Builtin.bitOr ((0:Nat):Int) ((2 ^ w:Nat):Int)=((0 ||| 2 ^ w:Nat):Int):=HM.QS 0 (2 ^ w)
 rw[Nat.zero_or]at this
 rw[zam,HM.WQ]
 exact this
theorem OJ{n w:Nat}(hM:M[n]? = some (.lst [.int (w:Int)]))(hw:w<60):m6 [.ref n] M= .ok (.int ((2 ^ w:Nat):Int)) M:=by
 have sh:CP (.int 1) (.int (w:Int)) M= .ok (.int (1*2 ^ ((w:Int)).toNat)) M:=Jd ⟨(),(),by decide⟩
 have ok:ir (some (n,[D.int (w:Int)])) M:=dh hM
 have lp:fZ (some (n,[D.int (w:Int)])) (gN 2) CK [.int (w:Int)] [some (.ref n),some (.int 0),none] M= .next [some (.ref n),some (.int ((2 ^ w:Nat):Int)),some (.int (w:Int))] M:=by
  rw[fZ,if_pos ok]
  simp only[akm,CK]
  simp only[adv,Jk,QV]
  have oz:=or_zero w
  simp at oz
  simp[sh]
  rw[fZ,if_pos ok,oz]
 simp only[m6,Lp,K5]
 simp[sU hM,lp]
theorem XR(n w:Nat):(!decide (Builtin.bitAnd (n:Int) ((2 ^ w:Nat):Int)=0))=n.testBit w:=by
 rw[HM.F_]
 have q:=HM.Lq n w
 cases z:n.testBit w with
 | true=>
  have q':=q.mpr z
  simp only[Bool.not_eq_true',decide_eq_false_iff_not]
  omega
 | false=>
  have q':¬(n &&& 2 ^ w≠0):=λr=>by rw[q.mp r]at z;cases z
  simp only[Bool.not_eq_false',decide_eq_true_eq]
  omega
def BO.spent(s:BO)(h:Nat)(t:Int)(w:Nat):Bool:=if s.r1=true then !decide (s.Gg h t=0)else(s.Gg h t).testBit w
theorem aap(h:b7 M a s)(k:Nat)(t:Int){w:Nat}(hw:w<60):∃M',iC [.ref a.bl,.int (k:Int),.int t,.int (w:Int)] M= .ok (.bl (s.spent k t w)) M'/\Bx M a s M':=by
 obtain⟨M1,e1,x1⟩:=Jv h k t
 have me:=h.oO (m:= "votes_of") rfl
 cases z:s.r1 with
 | true=>
  refine⟨M1,?_,x1⟩
  simp only[iC,iT,jz]
  simp[me,e1,x1.h.frb,x1.h.f1,z,BO.spent,Int.ofNat_eq_zero]
 | false=>
  obtain⟨N,hN⟩:∃N,N=M1++[MO.lst [.int (w:Int)]]:=⟨_,rfl⟩
  have g:Gr M1 N:=by rw[hN];exact Gr.app
  have e2:m6 [.ref M1.length] N= .ok (.int ((2 ^ w:Nat):Int)) N:=OJ (by rw[hN];exact cF) hw
  refine⟨N,?_,x1.trans (Bx.gr x1.h g)⟩
  have b:=XR (s.Gg k t) w
  simp only[iC,iT,jz]
  simp only[pJ]
  simp[me,e1,x1.h.frb,x1.h.f1,z,BO.spent,<-hN,e2]
  simpa using b
noncomputable def BO.good(s:BO)(w:Nat)(t:Int)(e:Int×Nat):Bool:=match s.ask w t with
 | none=>false
 | some q=>X3.Nx [e.1,(e.2:Int)] [q.1,(q.2:Int)]|| !s.r2
theorem aeq(h:b7 M a s)(w:Nat)(t:Int)(e:Int×Nat):∃M',dN [.ref a.bl,.int (w:Int),.int t,eD e] M= .ok (.bl (s.good w t e)) M'/\Bx M a s M':=by
 obtain⟨M1,e1,x1⟩:=Ud h w t
 have me:=h.oO (m:= "asked_with") rfl
 refine⟨M1,?_,x1⟩
 cases z:s.ask w t with
 | none=>
  rw[z]at e1
  simp only[dN,dR,fu]
  simp at e1
  simp[me,e1,BO.good,z]
 | some q=>
  rw[z]at e1
  have le:sLe (eD e) (eD q) M1= .ok (.bl (X3.Nx [e.1,(e.2:Int)] [q.1,(q.2:Int)])) M1:=ajd rfl rfl
  simp only[Option.map_some,Option.getD_some]at e1
  have nn:NB (eD q)=false:=rfl
  simp only[dN,dR,fu]
  simp only[pJ]
  cases zz:X3.Nx [e.1,(e.2:Int)] [q.1,(q.2:Int)]with
  | true=>rw[zz]at le;simp[me,e1,nn,le,BO.good,z,zz]
  | false=>rw[zz]at le;simp[me,e1,nn,le,BO.good,z,zz,x1.h.frb,x1.h.f2]
def BO.lF(s:BO)(h:Nat)(t:Int)(w:Nat)(e:Int×Nat):Bool:=if t<s.term h\/s.spent h t w=true then false else if w=h then decide (s.term h<t)else s.good w t e
theorem Vd(h:b7 M a s)(k:Nat)(t:Int){w:Nat}(hw:w<60)(e:Int×Nat):∃M',dH [.ref a.bl,.int (k:Int),.int t,.int (w:Int),eD e] M= .ok (.bl (s.lF k t w e)) M'/\Bx M a s M':=by
 have e0:=Ed h k
 have m0:=h.oO (m:= "term_of") rfl
 have m1:=h.oO (m:= "is_spent") rfl
 by_cases c0:t<s.term k
 ·refine⟨M,?_,Bx.of h⟩
  simp only[dH,dI,d7,dZ]
  simp[m0,e0,c0,BO.lF]
 ·obtain⟨M1,e1,x1⟩:=aap h k t hw
  cases c1:s.spent k t w with
  | true=>
   rw[c1]at e1
   refine⟨M1,?_,x1⟩
   simp only[dH,dI,d7,dZ]
   simp[m0,m1,e0,c0,e1,BO.lF,c1]
  | false=>
   rw[c1]at e1
   by_cases c2:w=k
   ·subst c2
    have e2:=Ed x1.h w
    have m2:=x1.h.oO (m:= "term_of") rfl
    refine⟨M1,?_,x1⟩
    simp only[dH,dI,d7,dZ]
    simp[m0,m1,e0,c0,e1,BO.lF,c1,m2,e2]
   ·obtain⟨M2,e2,x2⟩:=aeq x1.h w t e
    have m2:=x1.h.oO (m:= "is_good_enough") rfl
    have c2':¬((w:Int)=(k:Int)):=()
    refine⟨M2,?_,x1.trans x2⟩
    simp only[dH,dI,d7,dZ]
    simp[m0,m1,e0,c0,e1,BO.lF,c1,m2,e2,c2,c2']
theorem b7.lt(h:b7 M a s):a.sn<M.length:=by
 obtain⟨o,e⟩:=h.sn.some
 exact Hj e
theorem b7.nrg(h:b7 M a s)(hn:M.length<=n):¬Rg a n:=λz=>by
 have:=h.lt
 have:n<=a.sn:=z.2
 omega
theorem aeu{o:Option Nat}{k:Nat}:sEq ((o.map nD).getD .non) (.int (k:Int)) M= .ok (.bl (decide (o=some k))) M:=by
 cases o with
 | none=>exact rO rfl
 | some j=>
  show sEq (.int (j:Int)) (.int (k:Int)) M=_
  rw[Wl]
  congr 2
  by_cases z:j=k
  ·subst z;simp
  ·have:¬((j:Int)=(k:Int)):=()
   simp[z,this]
theorem ach:Tw M (eD e) (eD q)=some (decide (e=q)):=by
 have:Tw M (eD e) (eD q)=some (jb (.tup [.int e.1,.int (e.2:Int)]) (.tup [.int q.1,.int (q.2:Int)])):=rfl
 rw[this]
 congr 1
 obtain⟨e1,e2⟩:=e
 obtain⟨q1,q2⟩:=q
 by_cases z:e1=q1
 ·by_cases z2:e2=q2
  ·subst z z2;simp[sY]
  ·have:¬((e2:Int)=(q2:Int)):=()
   simp[jb,xX,z,z2,this]
 ·simp[jb,xX,z]
theorem ag4:sNe ((o.map eD).getD .non) (eD e) M= .ok (.bl (!decide (o=some e))) M:=by
 cases o with
 | none=>exact zy (b:=false) rfl
 | some q=>
  show sNe (eD q) (eD e) M=_
  rw[zy (b:=decide (q=e)) ach];simp
def BO.vh(s:BO)(V:Nat)(t:Int)(w:Nat):Bool:=(HM.cD V).all λv=>(s.Gg v t).testBit w
structure akN(M0:Mem)(a:BA)(s:BO)(V:Nat)(t:Int)(w:Nat)(i:Nat)(ys:List D)(M:Mem):Prop where
 y:ys=((HM.cD V).take i).map λv=>D.bl ((s.Gg v t).testBit w)
 x:Bx M0 a s M
theorem Rf(h:b7 M a s){V:Nat}(hV:V<2 ^ 60)(t:Int){w:Nat}(hw:w<60):∃M',j7 [.ref a.bl,.int (V:Int),.int t,.int (w:Int)] M= .ok (.bl (s.vh V t w)) M'/\Bx M a s M':=by
 have e0:=Ak (M:=M) V hV
 obtain⟨N,hN⟩:∃N,N=M++[MO.lst (hv (HM.cD V))]:=⟨_,rfl⟩
 rw[<-hN]at e0
 have g:Gr M N:=by rw[hN];exact Gr.app
 have x0:Bx M a s N:=Bx.gr h g
 have hl:N[M.length]? = some (.lst (hv (HM.cD V))):=by rw[hN];exact cF
 have keep:∀{M':Mem},Bx N a s M'->M'[M.length]? = some (.lst (hv (HM.cD V))):=λ{M'} x=>x.c.2 _ _ (h.nrg (zab _)) hl
 obtain⟨ys,M1,e1,hy,x1⟩:=K_ (src:=some (M.length,hv (HM.cD V))) (tt:=Kr) (te:=aC sNe (aC O_ (aU 0 "votes_of" cZ 3 [] (aq 2) (au (aq 0) (au (aq 1) aF))) (bZ m6 1 [] (au (CZ (au (aq 3) aF)) aF))) (mC (.int 0)))
  (ce:=[some (.int t),some (.ref a.bl),some (.int (w:Int))]) (akN N a s V t w) (hv (HM.cD V)) 0 (ys:=[]) (M:=N) ⟨by simp,Bx.of x0.h⟩ (λi ys M' _ _ p=>dh (keep p.x)) (λi d ys M' hd p=>by
   rw[Nat.zero_add]at p ⊢
   obtain⟨v,hv1,rfl⟩:∃v,(HM.cD V)[i]? = some v/\D.int (v:Int)=d:=by simpa[hv]using hd
   obtain⟨M2,e2,x2⟩:=Jv p.x.h v t
   obtain⟨N2,hN2⟩:∃N2,N2=M2++[MO.lst [.int (w:Int)]]:=⟨_,rfl⟩
   have g2:Gr M2 N2:=by rw[hN2];exact Gr.app
   have e3:m6 [.ref M2.length] N2= .ok (.int ((2 ^ w:Nat):Int)) N2:=OJ (by rw[hN2];exact cF) hw
   have b:=XR (s.Gg v t) w
   refine⟨true,M',rfl,.inr ⟨rfl,.bl ((s.Gg v t).testBit w),N2,?_,?_,p.x.trans (x2.trans (Bx.gr x2.h g2))⟩⟩
   ·simp[p.x.h.oO (m:= "votes_of") rfl,e2,<-hN2,e3]
    simpa using b
   ·rw[p.y,List.take_succ,hv1]
    simp)
 rw[Nat.zero_add]at hy
 have hy':ys=((HM.cD V).map λv=>(s.Gg v t).testBit w).map D.bl:=by
  rw[hy,List.take_of_length_le (by simp[hv])]
  simp
 have x1':Bx M a s M1:=x0.trans x1
 obtain⟨N1,hN1⟩:∃N1,N1=M1++[MO.lst ys]:=⟨_,rfl⟩
 rw[<-hN1]at e1
 have g1:Gr M1 N1:=by rw[hN1];exact Gr.app
 have al:R0 [.ref M1.length] N1= .ok (.bl (s.vh V t w)) N1:=by
  have q:N1[M1.length]? = some (.lst (((HM.cD V).map λv=>(s.Gg v t).testBit w).map D.bl)):=by rw[hN1,hy'];exact cF
  rw[RZ q]
  simp[BO.vh,List.all_map]
 refine⟨N1,?_,x1'.trans (Bx.gr x1'.h g1)⟩
 simp only[j7,kj]
 simp[e0,sU hl,ql,e1,al]
theorem Wo(h:b7 M a s){V p q:Nat}(hp:p<2 ^ 60)(hq:q<2 ^ 60):∃M',qR [.ref a.rl,.tup [.int (p:Int),.int (q:Int)],.int (V:Int)] M= .ok (.bl (yr V p (!s.r4)&&(decide (q=0)||yr V q (!s.r4)))) M'/\Bx M a s M':=by
 obtain⟨M1,e1,g1⟩:=acU (M:=M) V p q (!s.r4) hp hq
 refine⟨M1,?_,Bx.gr h g1⟩
 simp only[qR,yd]
 simp[h.f4,e1]
def BO.won(s:BO)(V p q:Nat):Bool:=yr V p (!s.r4)&&(decide (q=0)||yr V q (!s.r4))
def BO.jn(s:BO)(h:Nat)(t:Int)(V:Nat)(e:Int×Nat)(p q:Nat):Bool:=
 if s.term h≠t\/s.head t=some h then false else if s.ask h t≠some e then false else s.vh V t h&&s.won V p q
theorem S5(h:b7 M a s){k:Nat}(hk:k<60)(t:Int){V p q:Nat}(hV:V<2 ^ 60)(hp:p<2 ^ 60)(hq:q<2 ^ 60)(e:Int×Nat):
  ∃M',cL [.ref a.bl,.int (k:Int),.int t,.int (V:Int),eD e,.tup [.int (p:Int),.int (q:Int)]] M= .ok (.bl (s.jn k t V e p q)) M'/\Bx M a s M':=by
 have e0:=Ed h k
 have m0:=h.oO (m:= "term_of") rfl
 have m1:=h.oO (m:= "chair_of") rfl
 have m2:=h.oO (m:= "asked_with") rfl
 have e1:=Fx h t
 have q1:=aeu (M:=M) (o:=s.head t) (k:=k)
 by_cases c0:s.term k=t
 ·by_cases c1:s.head t=some k
  ·refine⟨M,?_,Bx.of h⟩
   rw[c1]at q1
   simp only[cL,cO,cV,cU]
   simp[m0,m1,e0,c0,e1,c1,q1,BO.jn]
   simp at q1
   simp[q1]
  ·obtain⟨M1,e2,x1⟩:=Ud h k t
   have q2:=ag4 (M:=M1) (o:=s.ask k t) (e:=e)
   rw[zaf c1]at q1
   by_cases c2:s.ask k t=some e
   ·have q2':sNe (eD e) (eD e) M1= .ok (.bl false) M1:=by rw[zy (b:=true) (by rw[ach];simp)];rfl
    obtain⟨M2,e3,x2⟩:=Rf x1.h hV t hk
    have m3:=x1.h.oO (m:= "voted_all") rfl
    obtain⟨M3,e4,x3⟩:=Wo x2.h (V:=V) hp hq
    have m4:=x2.h.ajS (m:= "wins") rfl
    have fr:=x2.h.frb
    cases c3:s.vh V t k with
    | true=>
     rw[c3]at e3
     refine⟨M3,?_,x1.trans (x2.trans x3)⟩
     simp only[cL,cO,cV,cU]
     simp only[pJ]
     simp[m0,m1,e0,c0,e1,q1,m2,e2,q2',m3,e3,fr,m4,e4,BO.jn,c1,c2,c3,BO.won]
    | false=>
     rw[c3]at e3
     refine⟨M2,?_,x1.trans x2⟩
     simp only[cL,cO,cV,cU]
     simp only[pJ]
     simp[m0,m1,e0,c0,e1,q1,m2,e2,q2',m3,e3,BO.jn,c1,c2,c3]
   ·rw[zaf c2]at q2
    refine⟨M1,?_,x1⟩
    simp only[cL,cO,cV,cU]
    simp only[pJ]
    simp[m0,m1,e0,c0,e1,q1,m2,e2,q2,BO.jn,c1,c2]
 ·refine⟨M,?_,Bx.of h⟩
  simp only[cL,cO,cV,cU]
  simp[m0,e0,c0,BO.jn]
theorem afE:(("chair" : Str)= "vote")=False:=eq_false (by decide)
theorem in_of:sIn (.str x) (.mW [.str "vote",.str "chair",.str "told"]) M= .ok (.bl (decide ("vote" = x)||(decide ("chair" = x)||decide ("told" = x)))) M:=by
 refine(p_ rfl).trans ?_
 simp only[U3,Rn,vB,Oq]
 simp[inV,eqV,Bool.beq_eq_decide_eq]
def pap(x:Str)(h:Nat)(t:Int)(y:Nat):D:= .tup [.str x,.int (h:Int),.int t,.int (y:Int)]
abbrev pV(h:Nat)(t:Int)(w:Nat):D:=pap "vote" h t w
abbrev pC(h:Nat)(t:Int)(V:Nat):D:=pap "chair" h t V
def OfH(x:Str):Prop:=x= "vote" \/ x= "chair"
section
variable{x:Str}{h y:Nat}{t:Int}
theorem ab6(hx:OfH x):fW [pap x h t y] M= .ok (.bl true) M:=by
 have k:Ot x [("vote",4),("chair",4),("write",4),("beat",3),("told",5),("settle",4),("answer",6),("look",6),("seen",8)]= .int 4:=by rcases hx with rfl | rfl<;>rfl
 simp only[fW,mO,pap]
 simp[k]
theorem ahm(hx:OfH x):sIn (.str x) (.mW [.str "vote",.str "chair",.str "told"]) M= .ok (.bl true) M:=by
 rw[in_of]
 rcases hx with rfl | rfl<;>simp
theorem aac(hx:OfH x):jO [pap x h t y] M= .ok (.int t) M:=by
 simp only[jO,rm,qj,pap]
 simp[ahm hx]
end
def BO.Hf(s:BO)(t:Int)(r:Bool):Bool:=NB s.br&&decide (1<=t)&&r
theorem XS(h:b7 M a s)(hx:OfH x)(hh:∃M',bW [.ref a.b,pap x k t y] M= .ok (.bl r) M'/\Bx M a s M'):∃M',bI [.ref a.b,pap x k t y] M= .ok (.bl (s.Hf t r)) M'/\Bx M a s M':=by
 have f:=ab6 (M:=M) (h:=k) (t:=t) (y:=y) hx
 have tn:=aac (M:=M) (h:=k) (t:=t) (y:=y) hx
 have i0:bh (pap x k t y) (.int 0) M= .ok (.str x) M:=kZ
 cases c0:NB s.br with
 | false=>
  refine⟨M,?_,Bx.of h⟩
  simp only[bI,cX,cC,cB]
  simp[h.fbr,c0,BO.Hf]
 | true=>
  by_cases c1:t<1
  ·refine⟨M,?_,Bx.of h⟩
   have c1':¬(1<=t):=()
   simp only[bI,cX,cC,cB]
   simp[h.fbr,c0,f,tn,c1,c1',BO.Hf]
  ·have c1':1<=t:=()
   obtain⟨M1,e1,x1⟩:=hh
   refine⟨M1,?_,x1⟩
   simp only[bI,cX,cC,cB]
   simp[h.fbr,c0,f,tn,c1,i0,ahm hx,h.Gh (m:= "allows_hand") rfl,e1,BO.Hf,c1']
structure Few(s:BO):Prop where
 tm:s.tm.length<=900
 vt:s.vt.length<=900
 ak:s.ak.length<=900
 se:s.se.length<=900
 ln:s.ln.length<=60
def BO.cast(s:BO)(h:Nat)(t:Int)(w:Nat)(e:Int×Nat):BO:=
 {s with ak:=if w=h then gp s.ak (h,t) e else s.ak,vt:=gp s.vt (h,t) (s.Gg h t ||| 2 ^ w),tm:=gp s.tm h t}
theorem agK(n w:Nat):Builtin.bitOr (n:Int) ((2:Int) ^ w)=((n ||| 2 ^ w:Nat):Int):=by
 have:=HM.QS n (2 ^ w)
 rwa [show((2 ^ w:Nat):Int)=(2:Int) ^ w by simp]at this
theorem R5(h:b7 M a s)(hl:s.tm.length<=1000)(k:Nat)(t:Int):∃M',lH [.ref a.bl,.int (k:Int),.int t] M= .ok .non M'/\Bx M a {s with tm:=gp s.tm k t} M':=by
 have p:=aaU h.tm k t hl
 refine⟨_,?_,h.ame (Ch.set rfl) (jg h.tm),Ch.one (Ch.set rfl) (ou h.o 3 rfl)⟩
 simp only[lH,qF]
 simp[h.ftm,p]
theorem aeI(h:b7 M a s)(hf:Few s)(k:Nat)(t:Int){w:Nat}(hw:w<60)(e:Int×Nat):∃M',sS [.ref a.bl,.int (k:Int),.int t,.int (w:Int),eD e] M= .ok .non M'/\Bx M a (s.cast k t w e) M':=by
 obtain⟨M1,e1,x1⟩:∃M1,jT [some (.ref a.bl),some (.int (k:Int)),some (.int t),some (.int (w:Int)),some (eD e)] M= .next [some (.ref a.bl),some (.int (k:Int)),some (.int t),some (.int (w:Int)),some (eD e)] M1/\Bx M a {s with ak:=if w=k then gp s.ak (k,t) e else s.ak} M1:=by
  by_cases c:w=k
  ·subst c
   have p:=Wy h.ak (w,t) e (by have:=hf.ak;omega)
   refine⟨_,?_,by rw[if_pos rfl];exact h.aiN (Ch.set rfl) (.inl (by obtain⟨o,q⟩:=h.ak.some;exact jg q)),Ch.one (Ch.set rfl) (show Rg a a.ak from ou h.o 5 rfl)⟩
   simp only[jT]
   simp[h.fak,p]
  ·have c':¬((w:Int)=(k:Int)):=()
   refine⟨M,?_,by rw[if_neg c];exact Bx.of h⟩
   simp only[jT]
   simp[c']
 obtain⟨M2,e2,x2⟩:=Jv x1.h k t
 obtain⟨N,hN⟩:∃N,N=M2++[MO.lst [.int (w:Int)]]:=⟨_,rfl⟩
 have g:Gr M2 N:=by rw[hN];exact Gr.app
 have e3:m6 [.ref M2.length] N= .ok (.int ((2 ^ w:Nat):Int)) N:=OJ (by rw[hN];exact cF) hw
 have x3:=x1.trans (x2.trans (Bx.gr x2.h g))
 have p:=Wy x3.h.vt (k,t) (s.Gg k t ||| 2 ^ w) (by have:=hf.vt;show s.vt.length<=1000;omega)
 have x4:Bx N a {s with ak:=if w=k then gp s.ak (k,t) e else s.ak,vt:=gp s.vt (k,t) (s.Gg k t ||| 2 ^ w)} (N.set a.vt (.dt (ge kP nD (gp s.vt (k,t) (s.Gg k t ||| 2 ^ w))))):=
  ⟨x3.h.aiI (Ch.set rfl) (.inl (by obtain⟨o,q⟩:=x3.h.vt.some;exact jg q)),Ch.one (Ch.set rfl) (ou h.o 4 rfl)⟩
 obtain⟨M5,e5,x5⟩:=R5 x4.h (by have:=hf.tm;show s.tm.length<=1000;omega) k t
 refine⟨M5,?_,x3.trans (x4.trans x5)⟩
 have o2:=agK (s.Gg k t) w
 have e2':cZ [.ref a.bl,.int (k:Int),.int t] M1= .ok (.int ((s.Gg k t:Nat):Int)) M2:=e2
 have nn:D.int ((s.Gg k t ||| 2 ^ w:Nat):Int)=nD (s.Gg k t ||| 2 ^ w):=rfl
 simp only[sS,tR]
 simp only[pJ,rC,rB,O6,e1,RD]
 simp[x1.h.oO (m:= "votes_of") rfl,e2',<-hN,e3,o2,x3.h.fvt]
 rw[nn,p]
 simp[x4.h.oO (m:= "reach") rfl,e5]
theorem adh(h:b7 M a s)(hl:s.se.length<=1000)(k:Nat)(t:Int):∃M',j8 [.ref a.bl,.int (k:Int),.int t] M= .ok .non M'/\Bx M a {s with se:=gp s.se t k} M':=by
 have p:=Wz h.se t k hl
 refine⟨_,?_,h.amf (Ch.set rfl) (jg h.se),Ch.one (Ch.set rfl) (ou h.o 6 rfl)⟩
 simp only[j8,kJ]
 have nn:D.int (k:Int)=nD k:=rfl
 simp[h.fse]
 rw[nn,p]
 simp
theorem acB(h:b7 M a s)(hl:s.ln.length<=1000)(k:Nat)(t:Int):∃M',jw [.ref a.sd,.int (k:Int),.int t] M= .ok .non M'/\Bx M a {s with ln:=gp s.ln t (s.row k)} M':=by
 have p:=Wz h.ln t (s.row k) hl
 have e:=wN h k
 refine⟨_,?_,h.aiL (Ch.set rfl) (jg h.ln),Ch.one (Ch.set rfl) (ou h.o 9 rfl)⟩
 simp only[jw,jH]
 simp[h.gK (m:= "row_of") rfl,e,h.fln,p]
theorem aan:Srt ((ge kI esD l).map λp=>Ad p.1):= .flat 0 () λd hd=>by
 obtain⟨p,hp,rfl⟩:=List.mem_map.mp hd
 obtain⟨q,_,rfl⟩:=List.mem_map.mp hp
 exact⟨_,rfl⟩
structure akV(M0:Mem)(a:BA)(t:Int)(i:Nat)(e:Sl)(M:Mem):Prop where
 m:M0=M
 e:∃v,e=[some (.ref a.sd),some (.int t),v]
theorem Ph(h:b7 M a s):∃M',mH [8] "count" (.int ((s.cnt:Int)+1)) (.ref a.b) M=some M'/\Bx M a {s with cnt:=s.cnt+1} M':=by
 refine⟨_,jN h.b (by simp) (by simp),?_⟩
 refine⟨h.u_b (Ch.set rfl) (jg h.b),Ch.one (Ch.set rfl) (ou h.o 0 rfl)⟩
theorem aae(h:b7 M a s)(hx:OfH x)(ha:∃M',bI [.ref a.b,pap x k t y] M= .ok (.bl c) M'/\Bx M a s M')
  (hf:∀M2,b7 M2 a {s with cnt:=s.cnt+1}->∃M',dG [.ref a.b,pap x k t y] M2= .ok .non M'/\Bx M2 a s3 M'):
  (c=true/\∃M',aM [.ref a.b,pap x k t y] M= .ok .non M'/\Bx M a s3 M')\/(c=false/\∃M',aM [.ref a.b,pap x k t y] M= .exc 2 (.int (s.cnt:Int)) M'/\Bx M a s M'):=by
 obtain⟨M1,e1,x1⟩:=ha
 have m1:=h.Gh (m:= "allows") rfl
 have i0:∀M,bh (pap x k t y) (.int 0) M= .ok (.str x) M:=λM=>kZ
 cases c with
 | false=>
  refine .inr ⟨rfl,M1,?_,x1⟩
  simp only[aM,gf,fj,e_]
  simp[m1,e1,x1.h.fcn,one]
 | true=>
  obtain⟨M2,e2,x2⟩:=Ph x1.h
  obtain⟨M3,e4,x3⟩:=hf M2 x2.h
  refine .inl ⟨rfl,M3,?_,x1.trans (x2.trans x3)⟩
  simp only[aM,gf,fj,e_]
  simp[m1,e1,x1.h.fcn,e2,i0,ahm hx,x2.h.Gh (m:= "follow_hand") rfl,e4]
end
theorem Uc{α:Type}{xs:List α}{k:Nat}(h:xs.length=k+1):Mw xs (-1)=xs[k]? := by
 unfold Mw ixN
 rw[if_neg (by decide),if_pos (),h]
 show xs[(-1+((k+1:Nat):Int)).toNat]? = _
 congr 1
 omega
theorem aaF(hM:M[n]? = some (.lst ds))(hl:ds.length=k+1)(h:ds[k]? = some d):bh (.ref n) (.int (-1)) M= .ok d M:=
 iz (iz (by simp only[Ma,Gm,dh hM,Uc hl,h]))
section
variable{M:Mem}
def mU(es:List En):Int×Nat:=match es.getLast? with
 | none=>(0,0)
 | some e=>(e.1,es.length)
theorem aer{es:List En}{n:Nat}(h:es[n]? = some e):(es.map mV)[n]? = some (mV e):=by simp[h]
theorem agf{es:List En}{n:Nat}(h:es[n]? = some e):bh (esD es) (.int (n:Int)) M= .ok (mV e) M:=
 wM () (by rw[zam];exact aer h)
theorem amD(hl:es.length=k+1)(h:es[k]? = some e):bh (esD es) (.int (-1)) M= .ok (mV e) M:=by
 have q:=Uc (xs:=es.map mV) (k:=k) (by simpa using hl)
 rw[aer h]at q
 exact iz (iz (by simp only[esD,Ma,Gm,q]))
theorem Qy:z7 [esD es] M= .ok (eD (mU es)) M:=by
 cases z:es.length with
 | zero=>
  have:=List.length_eq_zero_iff.mp z
  subst this
  simp only[z7,Gb,Dg,esD]
  simp[eD,mU]
 | succ k=>
  have hk:es[k]? = some (es[k]'()):=zac ()
  have q:=amD (M:=M) z hk
  have g:mU es=((es[k]'()).1,es.length):=by
   simp only[mU,List.getLast?_eq_getElem?,z,Nat.add_sub_cancel,hk]
  have ln:gJ [esD es] M= .ok (.int ((k+1:Nat):Int)) M:=by simp[esD,z]
  have n0:¬(((k+1:Nat):Int)=0):=()
  simp only[z7,Gb,Dg]
  simp only[Int.natCast_add,Int.cast_ofNat_Int]at ln n0
  simp[ln,n0,q,g,eD,mV,z]
def Wh.Xd:Wh->Bool
 | .LC _ _=>true
 | _=>false
def Wr(es:List En):Nat->Nat
 | 0=>0
 | n+1=>match es[n]? with
  | some e=>if e.2.Xd=true then n+1 else Wr es n
  | none=>0
def Nm(es:List En):Nat:=Wr es es.length
theorem aao:(("start" : Str)= "roll")=False:=eq_false (by decide)
theorem acD:(("ask" : Str)= "roll")=False:=eq_false (by decide)
theorem ae5(w:Wh):∃d,bh w.d (.int 0) M= .ok d M/\sNe d (.str "roll") M= .ok (.bl (!w.Xd)) M:=by
 cases w with
 | st=>exact⟨.str "start",kZ,by simp[Wh.Xd,aao]⟩
 | ask a b c=>exact⟨.str "ask",kZ,by simp[Wh.Xd,acD]⟩
 | LC a b=>exact⟨.str "roll",kZ,by simp[Wh.Xd]⟩
theorem afl:∀n,n<=es.length->Ol f9 jf (n+1) [some (esD es),some (.int (n:Int))] M= .next [some (esD es),some (.int (Wr es n:Nat))] M
 | 0,_=>by
  unfold Ol
  simp[f9,Wr]
 | n+1,h=>by
  have hn:es[n]? = some (es[n]'()):=zac ()
  have q:=agf (M:=M) hn
  obtain⟨d,e1,e2⟩:=ae5 (M:=M) (es[n]'()).2
  have s1:((n+1:Nat):Int) - 1=(n:Int):=()
  have p0:(0:Int)<((n+1:Nat):Int):=()
  have ih:=afl (es:=es) n ()
  simp only[f9,jf]at ih
  unfold Ol
  simp only[f9,Wr,hn]
  cases z:(es[n]'()).2.Xd with
  | true=>
   rw[z]at e2
   simp only[W3,Km,Jk,QV]
   simp[p0,s1,q,mV,e1,e2]
  | false=>
   rw[z]at e2
   simp only[W3,Km,Jk,QV]
   simp[p0,s1,q,mV,e1,e2,jf,ih]
theorem R1:lG [esD es] M= .ok (.int (Nm es:Nat)) M:=by
 have w:=Yg (afl (M:=M) (es:=es) es.length (zab _)) (λz=>nomatch z)
 have ln:gJ [esD es] M= .ok (.int (es.length:Int)) M:=by simp[esD]
 simp only[lG,qz,t7]
 simp[ln,w,Nm]
def mQ(es:List En)(S:Nat):Nat×Nat:=match Nm es with
 | 0=>(S,0)
 | n+1=>match es[n]? with
  | some (_,.LC a b)=>(a,b)
  | _=>(0,0)
theorem aaN:∀{n m:Nat},Wr es n=m+1->∃t a b,es[m]? = some (t,.LC a b)
 | 0,_,h=>nomatch h
 | n+1,m,h=>by
  unfold Wr at h
  cases z:es[n]? with
  | none=>rw[z]at h;cases h
  | some e=>
   rw[z]at h
   dsimp only at h
   split at h
   ·rename_i q
    obtain rfl:n=m:=()
    obtain⟨t,w⟩:=e
    cases w with
    | LC a b=>exact⟨t,a,b,z⟩
    | st=>cases q
    | ask _ _ _=>cases q
   ·exact aaN h
theorem Wt{es:List En}{S:Nat}:vR [esD es,.tup [.int (S:Int),.int 0]] M= .ok (.tup [.int ((mQ es S).1:Int),.int ((mQ es S).2:Int)]) M:=by
 have e:=R1 (M:=M) (es:=es)
 cases z:Nm es with
 | zero=>
  rw[z]at e
  simp only[vR,Bv,Ah]
  simp at e
  simp[e,mQ,z]
 | succ n=>
  rw[z]at e
  obtain⟨t,a,b,hn⟩:=aaN z
  have q:=agf (M:=M) hn
  have n0:¬(((n+1:Nat):Int)=0):=()
  have s1:((n+1:Nat):Int) - 1=(n:Int):=()
  simp only[Int.natCast_add,Int.cast_ofNat_Int]at e n0 s1
  simp only[vR,Bv,Ah]
  simp[e,n0,s1,q,mV,Wh.d,mQ,z,hn]
end
section
variable{M:Mem}{t:Int}{x:D}
def stE(es:List En)(t:Int):Bool:=es.any λe=>decide (e.1=t)
theorem afb:∀(es:List En) (i:Int) (v2 v3:Option D),(stE es t=true/\∃k:Int,fZ none (gT 2 (d8 (gN 2) (d8 (gN 3) vW))) eY (lu i (es.map mV)) [some x,some (.int t),v2,v3] M= .ret (.int k) M)
  \/ (stE es t=false/\∃e,fZ none (gT 2 (d8 (gN 2) (d8 (gN 3) vW))) eY (lu i (es.map mV)) [some x,some (.int t),v2,v3] M= .next e M)
 | [],i,v2,v3=> .inr ⟨rfl,_,by simp only[List.map_nil,lu];exact if_pos (show ir none M from trivial)⟩
 | e::es,i,v2,v3=>by
  have sk:ir none M:=trivial
  simp only[List.map_cons,lu]
  rw[fZ,if_pos sk]
  by_cases z:e.1=t
  ·refine .inl ⟨by simp[stE,z],i,?_⟩
   simp[eY,lR,mV,z]
  ·have ih:=afb es (i+1) (some (.int i)) (some (mV e))
   have q:stE (e::es) t=stE es t:=by simp[stE,z]
   rw[q]
   simp only[eY,lR]at ih ⊢
   simp only[mV]at ih ⊢
   simpa[z]using ih
theorem ai2:∃d,jP [esD es,.int t] M= .ok d M/\NB d=(!stE es t):=by
 rcases afb (M:=M) (t:=t) (x:=esD es) es 1 none none with⟨h,k,e⟩ | ⟨h,v,e⟩
 ·refine⟨.int k,?_,by rw[h];rfl⟩
  simp only[jP,jV,lV,esD]at e ⊢
  simp[e]
 ·refine⟨.non,?_,by rw[h];rfl⟩
  simp only[jP,jV,lV,esD]at e ⊢
  simp[e]
end
section
variable{M:Mem}
def Ly(e:En):Prop:=∃t,∀M,eG M 11 (mV e)=some t
theorem PX{es:List En}(h:∀e∈es,Ly e):∃ts,ts.length=es.length/\∀M:Mem,rY (eG M 11) (es.map mV)=some ts:=by
 induction es with
 | nil=>exact⟨[],rfl,λM=>rfl⟩
 | cons d r ih=>
  obtain⟨ts,l,h1⟩:=ih λx hx=>h x (yT _ hx)
  obtain⟨t,h2⟩:=h d xB
  exact⟨t::ts,by simp[l],λM=>by simp only[List.map_cons,rY,h2 M,h1 M]⟩
theorem V9(h:∀e∈es,Ly e):∃ts,ts.length=es.length/\∀M:Mem,eG M 12 (esD es)=some (.tup ts):=by
 obtain⟨ts,l,q⟩:=PX h
 refine⟨ts,l,λM=> ?_⟩
 show(rY (eG M 11) (es.map mV)).map Dt.tup=_
 rw[q M]
 rfl
theorem akv(hx:∀e∈xs,Ly e)(hy:∀e∈ys,Ly e)(h:xs.length=ys.length->xs=ys):Tw M (esD xs) (esD ys)=some (decide (xs.length=ys.length)):=by
 obtain⟨ts,l1,e1⟩:=V9 hx
 obtain⟨us,l2,e2⟩:=V9 hy
 rw[Ao (e1 M) (e2 M)]
 congr 1
 by_cases z:xs.length=ys.length
 ·have q:=h z
  subst q
  have:=(e1 M).symm.trans (e2 M)
  cases this
  simp[sY]
 ·rw[zaf z]
  unfold jb
  exact Ar ()
theorem acp{α:Type}(xs:List α)(p:Nat):cut xs none (some (p:Int))=xs.take p:=by
 unfold cut
 rw[HT.aaE,HT.adp]
 by_cases z:p<=xs.length
 ·simp[Nat.min_eq_left z]
 ·rw[Nat.min_eq_right ()]
  simp
  rw[List.take_of_length_le ()]
theorem Ug{xs ys:List En}{p:Nat}(hx:∀e∈xs,Ly e)(hy:∀e∈ys,Ly e)(h:(xs.take p).length=(ys.take p).length->xs.take p=ys.take p):
  uq [esD xs,esD ys,.int (p:Int)] M= .ok (.bl (decide ((xs.take p).length=(ys.take p).length))) M:=by
 have e:=akv (M:=M) (xs:=xs.take p) (ys:=ys.take p) (λe he=>hx e (List.mem_of_mem_take he)) (λe he=>hy e (List.mem_of_mem_take he)) h
 have c:∀zs:List En,cut (zs.map mV) none (some (p:Int))=(zs.take p).map mV:=λzs=>by rw[acp,List.map_take]
 have e:=rO e
 simp only[uq,A_,esD]at e ⊢
 simp[c]at e ⊢
 simp[e]
theorem ahb{line row:List En}{p:Nat}(hx:∀e∈line,Ly e)(hy:∀e∈row,Ly e)(h:(row.take p).length=(line.take p).length->row.take p=line.take p):
  Fg [esD line,esD row,.int (p:Int)] M= .ok (esD (if(row.take p).length=(line.take p).length then row else line.take p)) M:=by
 have e:=Ug (M:=M) hy hx h
 have c0:cut (row.map mV) none none=row.map mV:=Xw ⟨rfl,rfl⟩
 have c:cut (line.map mV) none (some (p:Int))=(line.take p).map mV:=by rw[acp,List.map_take]
 by_cases z:(row.take p).length=(line.take p).length
 ·rw[if_pos z]
  rw[zag z]at e
  simp only[Fg,Ga,Df]
  simp[e]
  simp[esD,c0]
 ·rw[if_neg z]
  rw[zaf z]at e
  simp only[Fg,Ga,Df]
  simp[e]
  simp[esD,c]
end
section
variable{M M':Mem}{a:BA}{s s':BO}
def muC(t:Int):D->Bool
 | .tup [.int u,_]=>decide (u<=t)
 | _=>false
def muF:D->D
 | .tup [_,x]=>x
 | _=> .non
def BO.upTo(s:BO)(t:Int):Int:=maxD 0 ((s.mr.filter λp=>decide (p.1<=t)).map λp=>(p.2:Int))
theorem acZ(h:b7 M a s)(t:Int):∃M',jt [.ref a.sd,.int t] M= .ok (.int (s.upTo t)) M'/\Bx M a s M':=by
 have e1:=Ze (M:=M) (e:=[some (.ref a.sd),some (.int t)]) (m:=2) (js:=[1]) (g:=gT 2 (d8 (gN 0) (d8 (gN 1) vW))) (tt:=aY (aC L_ (aq 0) (aq 2))) (te:=aq 1) h.mr (muC t) muF (λd hd=>by
  obtain⟨q,hq,rfl⟩:=List.mem_map.mp hd
  obtain⟨p,_,rfl⟩:=List.mem_map.mp hq
  refine⟨_,rfl,λM'=>⟨?_,λ_=> ?_⟩⟩
  ·simp[ql,muC,kI,Ad,Fd];rfl
  ·simp[ql,muF,Fd];rfl)
 have el:(((ge kI nD s.mr).map Ew).filter (muC t)).map muF=((s.mr.filter λp=>decide (p.1<=t)).map λp=>(p.2:Int)).map D.int:=by
  generalize s.mr=l
  induction l with
  | nil=>rfl
  | cons p l ih=>
   have e:ge kI nD (p::l)=(kI p.1,nD p.2)::ge kI nD l:=rfl
   have m:muC t (Ew (kI p.1,nD p.2))=decide (p.1<=t):=rfl
   rw[e,List.map_cons,List.filter_cons,List.filter_cons,m]
   by_cases z:p.1<=t
   ·simp only[z,decide_true,if_true,List.map_cons]
    rw[ih];rfl
   ·simp only[z,decide_false,Bool.false_eq_true,if_false]
    exact ih
 rw[el]at e1
 obtain⟨N,hN⟩:∃N,N=M++[MO.lst (((s.mr.filter λp=>decide (p.1<=t)).map λp=>(p.2:Int)).map D.int)]:=⟨_,rfl⟩
 rw[<-hN]at e1
 have g:Gr M N:=by rw[hN];exact Gr.app
 have mx:JZ (.ref M.length) (.int 0) N= .ok (.int (s.upTo t)) N:=Yj (by rw[hN];exact cF)
 refine⟨N,?_,Bx.gr h g⟩
 simp only[jt,jF]
 simp[h.fmk,e1,mx]
theorem pK(h:b7 M a s)(t:Int):bU [.ref a.sd,.int t] M= .ok (esD (s.line t)) M:=by
 have e:=Xj h.ln t (.tup [])
 rw[Xl]at e
 simp only[bU,tE]
 simp[h.fln,xK h.ln,e,BO.line]
theorem PN(h:b7 M a s)(t:Int):m7 [.ref a.sd,.int t] M= .ok (.int (s.mark t:Nat)) M:=by
 have e:=Xj h.mr t (.int 0)
 rw[KZ]at e
 simp only[m7,tD]
 simp[h.fmk,xK h.mr,e,BO.mark]
theorem S8(h:b7 M a s)(t:Int):gO [.ref a.sd,.int t] M= .ok (.tup [.int ((mQ (s.line t) s.S).1:Int),.int ((mQ (s.line t) s.S).2:Int)]) M:=by
 simp only[gO,j9]
 simp[h.gK (m:= "line") rfl,pK h t,h.ffr,Wt]
theorem aaM(h:b7 M a s)(k:Nat):lN [.ref a.sd,.int (k:Int)] M= .ok (.tup [.int ((mQ (s.row k) s.S).1:Int),.int ((mQ (s.row k) s.S).2:Int)]) M:=by
 simp only[lN,lX]
 simp[h.gK (m:= "row_of") rfl,wN h k,h.ffr,Wt]
theorem Xb(h:b7 M a s)(h1:∀e∈s.line t,Ly e)(h2:∀e∈s.line u,Ly e)(hp:(s.line t).take (s.mark t)=(s.line u).take (s.mark t)):jh [.ref a.sd,.int t,.int u] M= .ok (.bl true) M:=by
 have e:=Ug (M:=M) h1 h2 λ_=>hp
 rw[zag (by rw[hp])]at e
 simp only[jh,nM]
 simp[h.gK (m:= "mark") rfl,PN h,h.gK (m:= "line") rfl,pK h,e]
theorem YJ(h:d∈Ig ((ge kI esD l).map λp=>Ad p.1)):∃t:Int,d= .int t/\(gv l t).isSome=true:=by
 obtain⟨p,hp,rfl⟩:=List.mem_map.mp ((vq _).mem_iff.mp h)
 obtain⟨q,hq,rfl⟩:=List.mem_map.mp hp
 refine⟨q.1,rfl,?_⟩
 rw[<-acE,List.any_eq_true]
 exact⟨q,hq,by simp⟩
structure Kp(s:BO):Prop where
 ok:∀t,∀e∈s.line t,Ly e
 kp:∀t u,t<=u->(gv s.ln t).isSome=true->(gv s.ln u).isSome=true->(s.line t).take (s.mark t)=(s.line u).take (s.mark t)
theorem aeg(h:b7 M a s)(k:Kp s)(hl:s.ln.length<=60)(ht:(gv s.ln t).isSome=true):∃M',iY [.ref a.sd,.int t] M= .ok .non M'/\Bx M a s M':=by
 have sd:=RT h.ln aan (by rw[Qt];omega)
 obtain⟨N,hN⟩:∃N,N=M++[MO.lst (Ig ((ge kI esD s.ln).map λp=>Ad p.1))]:=⟨_,rfl⟩
 rw[<-hN]at sd
 have g:Gr M N:=by rw[hN];exact Gr.app
 have x:=Bx.gr h g
 have hL:N[M.length]? = some (.lst (Ig ((ge kI esD s.ln).map λp=>Ad p.1))):=by rw[hN];exact cF
 obtain⟨e',M1,lp,hm1,v,rfl⟩:=oW (src:=some (M.length,Ig ((ge kI esD s.ln).map λp=>Ad p.1))) (g:=gN 2) (b:=gR) (akV N a t) (ds:=Ig ((ge kI esD s.ln).map λp=>Ad p.1)) (e:=[some (.ref a.sd),some (.int t),none]) (M:=N)
  ⟨rfl,_,rfl⟩ (λi e M' _ p=>by rw[<-p.m];exact dh hL) λi d e M' hd p=>by
   obtain⟨pm,v,rfl⟩:=p
   subst pm
   obtain⟨u,rfl,hu⟩:=YJ (jS hd)
   refine⟨_,rfl,?_⟩
   have kk:jh [.ref a.sd,.int (if t<u then t else u),.int (if u<t then t else u)] N= .ok (.bl true) N:=by
    rcases Int.le_total u t with z | z
    ·rw[if_neg ()]
     have q:(if u<t then t else u)=t:=by split<;>omega
     rw[q]
     exact Xb x.h (k.ok _) (k.ok _) (k.kp _ _ z hu ht)
    ·rw[if_neg (show ¬u<t by omega)]
     have q:(if t<u then t else u)=t:=by split<;>omega
     rw[q]
     exact Xb x.h (k.ok _) (k.ok _) (k.kp _ _ z ht hu)
   simp only[gR,mJ]
   simp[x.h.gK (m:= "is_kept") rfl,kk]
   exact⟨rfl,_,rfl⟩
 subst hm1
 refine⟨N,?_,x⟩
 simp only[iY,jc,mK]
 simp[h.fln,sd,sU hL,lp]
theorem Xn(h:b7 M a s)(k:Kp s)(hl:s.ln.length<=60)(ht:(gv s.ln t).isSome=true):∃M',ji [.ref a.b,.int t] M= .ok .non M'/\Bx M a s M':=by
 obtain⟨M1,e1,x1⟩:=aeg h k hl ht
 refine⟨M1,?_,x1⟩
 simp only[ji,nR,qO]
 simp[h.Xm,h.gK (m:= "lost_behind") rfl,e1]
def WOk:Wh->Prop
 | .ask _ _ o=>∃t,∀(k:Nat) (M:Mem),eG M (k+2) o=some t
 | _=>True
def Wh.isS:Wh->Bool
 | .st=>true
 | _=>false
theorem WOk.dt(h:WOk w):∃ts,∀(k:Nat) (M:Mem),eG M (k+4) w.d=some (.tup ts):=by
 cases w with
 | st=>exact⟨[.str "start"],λk M=>rfl⟩
 | LC p q=>exact⟨[.str "roll",.int p,.int q],λk M=>rfl⟩
 | ask p q o=>
  obtain⟨t,h⟩:=h
  refine⟨[.str "ask",.int p,.int q,t],λk M=> ?_⟩
  have e:=h (k+1) M
  show(rY (eG M (k+3)) [.str "ask",.int p,.int q,o]).map Dt.tup=_
  have e':eG M (k+3) o=some t:=e
  have e1:eG M (k+3) (.str "ask")=some (.str "ask"):=rfl
  have e2:∀i:Int,eG M (k+3) (.int i)=some (.int i):=λ_=>rfl
  simp only[rY,e',e1,e2]
  rfl
theorem WOk.en(h:WOk w)(t:Int):Ly (t,w):=by
 obtain⟨ts,h⟩:=h.dt
 refine⟨.tup [.int t,.tup ts],λM=> ?_⟩
 show(rY (eG M 10) [.int t,w.d]).map Dt.tup=_
 have e:=h 6 M
 have e2:eG M 10 (.int t)=some (.int t):=rfl
 simp only[rY,e,e2]
 rfl
theorem aks(h:WOk w):sEq w.d (.tup [.str "start"]) M= .ok (.bl w.isS) M:=by
 cases w with
 | st=>exact rO rfl
 | LC p q=>exact rO rfl
 | ask p q o=>
  obtain⟨t,h⟩:=h
  have e1:eG M 12 (Wh.ask p q o).d=some (.tup [.str "ask",.int p,.int q,t]):=by
   have e:=h 9 M
   show(rY (eG M 11) [.str "ask",.int p,.int q,o]).map Dt.tup=_
   have e':eG M 11 o=some t:=e
   have e1:eG M 11 (.str "ask")=some (.str "ask"):=rfl
   have e2:∀i:Int,eG M 11 (.int i)=some (.int i):=λ_=>rfl
   simp only[rY,e',e1,e2]
   rfl
  refine rO ((Ao e1 (b:= .tup [.str "start"]) rfl).trans ?_)
  congr 1
noncomputable def BO.Ff(s:BO)(t:Int)(p q:Nat):Bool:=if s.upTo t<(Nm (s.line t):Int)then false else if(mQ (s.line t) s.S).2=0 then decide (p=(mQ (s.line t) s.S).1)&& !decide (q=0)else decide (p=(mQ (s.line t) s.S).2)&&decide (q=0)
theorem aku{p q:Nat}:sEq (.int (p:Int)) (.int (q:Int)) M= .ok (.bl (decide (p=q))) M:=by
 rw[Wl]
 congr 2
 by_cases z:p=q
 ·subst z;simp
 ·have:¬((p:Int)=(q:Int)):=()
  simp[z,this]
theorem ahC{p q r:Nat}:sEq (.tup [.str "roll",.int (p:Int),.int (q:Int)]) (.tup [.str "roll",.int (r:Int),.int 0]) M= .ok (.bl (decide (p=r)&&decide (q=0))) M:=by
 refine rO ((Ao (a:= .tup [.str "roll",.int p,.int q]) (b:= .tup [.str "roll",.int r,.int 0]) rfl rfl).trans ?_)
 congr 1
 by_cases z:p=r
 ·by_cases z2:q=0
  ·subst z z2;simp[sY]
  ·have:¬((q:Int)=0):=()
   simp[jb,xX,z,z2,this]
 ·have:¬((p:Int)=(r:Int)):=()
  simp[jb,xX,z,this]
theorem abr(h:b7 M a s)(t:Int)(p q:Nat):∃M',jr [.ref a.sd,.int t,(Wh.LC p q).d] M= .ok (.bl (s.Ff t p q)) M'/\Bx M a s M':=by
 have e0:=pK h t
 obtain⟨M1,e1,x1⟩:=acZ h t
 have e2:=S8 x1.h t
 have m1:=h.gK (m:= "line") rfl
 have m2:=h.gK (m:= "mark_up_to") rfl
 have m3:=x1.h.gK (m:= "line_roll") rfl
 refine⟨M1,?_,x1⟩
 obtain⟨P,hP⟩:∃P,P=mQ (s.line t) s.S:=⟨_,rfl⟩
 rw[<-hP]at e2
 simp only[jr,jE,nu,nq,BO.Ff,<-hP]
 by_cases z:s.upTo t<(Nm (s.line t):Int)
 ·simp[m1,e0,R1,m2,e1,z]
 ·by_cases z2:P.2=0
  ·rw[z2]at e2
   simp at e2
   simp only[if_neg z,if_pos z2]
   by_cases z3:p=P.1
   ·have z3':(p:Int)=(P.1:Int):=by rw[z3]
    simp[m1,e0,R1,m2,e1,z,m3,e2,Wh.d,z3,Int.ofNat_eq_zero]
   ·have z3':¬((p:Int)=(P.1:Int)):=()
    simp[m1,e0,R1,m2,e1,z,m3,e2,Wh.d,z3,z3']
  ·have z2':¬((P.2:Int)=0):=()
   have q2:=ahC (M:=M1) (p:=p) (q:=q) (r:=P.2)
   simp[m1,e0,R1,m2,e1,z,m3,e2,z2,z2',Wh.d,q2]
theorem anf{α:Type}{g:α->D}{n:Nat}{l:List (Int×α)}(h:M[n]? = some (.dk (ge kI g l))){k:Int}{x:α}(hx:gv l k=some x):bh (.ref n) (.int k) M= .ok (g x) M:=by
 have e:BV M n (.int k)=some (some (g x),M):=by rw[QD h];show some (uB (ge kI g l) (kI k),M)=_;rw[K1 Qh,hx];rfl
 refine iz ((p_ ?_).trans ?_)
 ·simp only[Ma,Gm,n_,h]
 ·simp only[adt,e]
def BO.stands(s:BO)(t:Int):Bool:=match s.head t with
 | none=>false
 | some h=>decide (s.term h=t)
theorem M_(h:b7 M a s)(t:Int):gY [.ref a.bl,.int t] M= .ok (.bl (s.stands t)) M:=by
 have i:=anh h.se t
 cases z:gv s.se t with
 | none=>
  rw[z]at i
  have e:s.stands t=false:=by simp[BO.stands,BO.head,z]
  simp only[gY,jW]
  simp at i
  simp[h.fse,i,e]
 | some k=>
  rw[z]at i
  have e:s.stands t=decide (s.term k=t):=by simp[BO.stands,BO.head,z]
  have x:=anf (M:=M) h.se z
  have q:=Ed h k
  simp only[nD]at x
  simp only[gY,jW]
  simp at i
  simp[h.fse,i,e,x,h.oO (m:= "term_of") rfl,q]
def BO.qe(s:BO)(t p:Int)(w:Wh):Bool:=if p=(s.line t).length+1/\(!stE (s.line t) t)=w.isS then(match w with
 | .LC x y=>s.Ff t x y
 | _=>true)else false
theorem abq(h:b7 M a s)(t p:Int)(hw:WOk w):∃M',cJ [.ref a.sd,.int t,.int p,w.d] M= .ok (.bl (s.qe t p w)) M'/\Bx M a s M':=by
 have e0:=pK h t
 have m0:=h.gK (m:= "line") rfl
 have ln:gJ [esD (s.line t)] M= .ok (.int ((s.line t).length:Int)) M:=by simp[esD]
 obtain⟨d,e1,e2⟩:=ai2 (M:=M) (t:=t) (es:=s.line t)
 have e3:=aks (M:=M) hw
 by_cases z1:p=(s.line t).length+1
 ·by_cases z2:(!stE (s.line t) t)=w.isS
  ·obtain⟨d2,e4,e5⟩:=ae5 (M:=M) w
   rw[z2]at e2
   cases w with
   | LC x y=>
    obtain⟨M1,e6,x6⟩:=abr h t x y
    refine⟨M1,?_,x6⟩
    have q:s.qe t p (.LC x y)=s.Ff t x y:=if_pos ⟨z1,z2⟩
    rw[q]
    simp only[cJ,cM,cT,cR]
    simp only[Wh.Xd]at e5
    simp[m0,e0,ln,<-z1,e1,e2,e3,e4,e5,h.gK (m:= "may_change") rfl,e6]
   | st=>
    refine⟨M,?_,Bx.of h⟩
    have q:s.qe t p .st=true:=if_pos ⟨z1,z2⟩
    rw[q]
    simp only[cJ,cM,cT,cR]
    simp only[Wh.Xd]at e5
    simp[m0,e0,ln,<-z1,e1,e2,e3,e4,e5]
   | ask x y o=>
    refine⟨M,?_,Bx.of h⟩
    have q:s.qe t p (.ask x y o)=true:=if_pos ⟨z1,z2⟩
    rw[q]
    simp only[cJ,cM,cT,cR]
    simp only[Wh.Xd]at e5
    simp[m0,e0,ln,<-z1,e1,e2,e3,e4,e5]
  ·refine⟨M,?_,Bx.of h⟩
   have q:s.qe t p w=false:=if_neg λr=>z2 r.2
   rw[q]
   simp only[cJ,cM,cT,cR]
   rw[<-e2]at z2
   simp[m0,e0,ln,<-z1,e1,e3,z2]
 ·refine⟨M,?_,Bx.of h⟩
  have q:s.qe t p w=false:=if_neg λr=>z1 r.1
  rw[q]
  simp only[cJ,cM,cT,cR]
  simp[m0,e0,ln,z1]
theorem af6(h:n<=1000):n+1<=sizeLine:=yY (Nat.succ_le_succ h) (by decide)
theorem acG(h:es.length<=1000):J4 (esD es) (.tup [mV e]) M= .ok (esD (es++[e])) M:=by
 have q:=aaK (M:=M) (xs:=es.map mV) (ys:=[mV e]) (by simpa using af6 h)
 simpa[esD]using q
theorem ZR(h:b7 M a s)(hl:s.ln.length<=1000)(hr:s.ro.length<=1000)(h1:(s.line t).length<=1000)(h2:(s.row k).length<=1000):
  ∃M',qp [.ref a.sd,.int (k:Int),.int t,w.d] M= .ok .non M'/\Bx M a {s with ln:=gp s.ln t (s.line t++[(t,w)]),ro:=gp s.ro k (s.row k++[(t,w)])} M':=by
 have e0:=pK h t
 have a1:∀M:Mem,J4 (esD (s.line t)) (.tup [.tup [.int t,w.d]]) M= .ok (esD (s.line t++[(t,w)])) M:=λM=>acG (e:=(t,w)) h1
 have a2:∀M:Mem,J4 (esD (s.row k)) (.tup [.tup [.int t,w.d]]) M= .ok (esD (s.row k++[(t,w)])) M:=λM=>acG (e:=(t,w)) h2
 have p1:=Wz h.ln t (s.line t++[(t,w)]) hl
 have b1:=h.aiL (Ch.set rfl) (jg (o:= .dk (ge kI esD (gp s.ln t (s.line t++[(t,w)])))) h.ln)
 have c1:Ch (Rg a) M (M.set a.ln (.dk (ge kI esD (gp s.ln t (s.line t++[(t,w)]))))):=Ch.set (show Rg a a.ln from ou h.o 9 rfl)
 obtain⟨M1,hM1⟩:∃M1,M1=M.set a.ln (.dk (ge kI esD (gp s.ln t (s.line t++[(t,w)])))):=⟨_,rfl⟩
 rw[<-hM1]at p1 b1 c1
 have e1:bM [.ref a.sd,.int (k:Int)] M1= .ok (esD (s.row k)) M1:=wN b1 k
 have p2:=aaU b1.ro k (s.row k++[(t,w)]) hr
 have b2:=b1.aiJ (Ch.set rfl) (jg (o:= .dk (ge kN esD (gp s.ro k (s.row k++[(t,w)])))) b1.ro)
 have c2:Ch (Rg a) M1 (M1.set a.ro (.dk (ge kN esD (gp s.ro k (s.row k++[(t,w)]))))):=Ch.set (show Rg a a.ro from ou h.o 8 rfl)
 refine⟨_,?_,b2,c1.trans c2⟩
 simp only[qp,qD]
 simp[h.fln,h.gK (m:= "line") rfl,e0,a1,p1,b1.fro,b1.gK (m:= "row_of") rfl,e1,a2,p2]
theorem Yd(h:b7 M a s)(hl:s.mr.length<=1000)(t:Int)(p:Nat):∃M',oU [.ref a.sd,.int t,.int (p:Int)] M= .ok .non M'/\Bx M a {s with mr:=gp s.mr t p} M':=by
 have q:=Wz h.mr t p hl
 refine⟨_,?_,h.amg (Ch.set rfl) (jg h.mr),Ch.set (show Rg a a.mr from ou h.o 10 rfl)⟩
 simp only[oU,o_]
 have nn:D.int (p:Int)=nD p:=rfl
 simp[h.fmk]
 rw[nn,q]
 simp
def BO.Np(s:BO)(k:Nat)(t:Int):Nat:=(gv s.pl (k,t)).getD 0
theorem aaY(h:b7 M a s)(k:Nat)(t:Int):∃M',dg [.ref a.sd,.int (k:Int),.int t] M= .ok (.int (s.Np k t:Nat)) M'/\Bx M a s M':=by
 obtain⟨M',e,tt,c⟩:=Xi h.pl (k,t) (.int 0)
 rw[KZ]at e
 refine⟨M',?_,h.aiK c tt,c.one (show Rg a a.pl from ou h.o 11 rfl)⟩
 simp only[dg,jC]
 simp[h.fpl,h.pl.dic,e,BO.Np]
def BO.NT(s:BO)(c:Nat)(t:Int)(p V:Nat):Bool:=(HM.cD V).all λv=>decide (v=c)||decide (p<=s.Np v t)
structure ak0(M0:Mem)(a:BA)(s:BO)(c:Nat)(t:Int)(p V:Nat)(i:Nat)(ys:List D)(M:Mem):Prop where
 y:ys=((HM.cD V).take i).map λv=>D.bl (decide (v=c)||decide (p<=s.Np v t))
 x:Bx M0 a s M
theorem abU(h:b7 M a s){V:Nat}(hV:V<2 ^ 60)(c:Nat)(t:Int)(p:Nat):∃M',ju [.ref a.sd,.int (c:Int),.int t,.int (p:Int),.int (V:Int)] M= .ok (.bl (s.NT c t p V)) M'/\Bx M a s M':=by
 have e0:=Ak (M:=M) V hV
 obtain⟨N,hN⟩:∃N,N=M++[MO.lst (hv (HM.cD V))]:=⟨_,rfl⟩
 rw[<-hN]at e0
 have g:Gr M N:=by rw[hN];exact Gr.app
 have x0:Bx M a s N:=Bx.gr h g
 have hl:N[M.length]? = some (.lst (hv (HM.cD V))):=by rw[hN];exact cF
 have keep:∀{M':Mem},Bx N a s M'->M'[M.length]? = some (.lst (hv (HM.cD V))):=λ{M'} x=>x.c.2 _ _ (h.nrg (zab _)) hl
 obtain⟨ys,M1,e1,hy,x1⟩:=K_ (src:=some (M.length,hv (HM.cD V))) (tt:=Kr) (te:=S7 (aC sEq (aq 0) (aq 1)) (aC Yk (aU 7 "place_told" dg 3 [] (aq 4) (au (aq 0) (au (aq 3) aF))) (aq 2)))
  (ce:=[some (.int (c:Int)),some (.int (p:Int)),some (.int t),some (.ref a.sd)]) (ak0 N a s c t p V) (hv (HM.cD V)) 0 (ys:=[]) (M:=N) ⟨by simp,Bx.of x0.h⟩ (λi ys M' _ _ q=>dh (keep q.x)) (λi d ys M' hd q=>by
   rw[Nat.zero_add]at q ⊢
   obtain⟨v,hv1,rfl⟩:∃v,(HM.cD V)[i]? = some v/\D.int (v:Int)=d:=by simpa[hv]using hd
   by_cases z:v=c
   ·refine⟨true,M',rfl,.inr ⟨rfl,.bl true,M',?_,?_,q.x⟩⟩
    ·simp[z]
    ·rw[q.y,List.take_succ,hv1]
     simp[z]
   ·obtain⟨M2,e2,x2⟩:=aaY q.x.h v t
    have z':¬((v:Int)=(c:Int)):=()
    refine⟨true,M',rfl,.inr ⟨rfl,.bl (decide (p<=s.Np v t)),M2,?_,?_,q.x.trans x2⟩⟩
    ·simp[z',q.x.h.gK (m:= "place_told") rfl,e2]
    ·rw[q.y,List.take_succ,hv1]
     simp[z])
 rw[Nat.zero_add]at hy
 have hy':ys=((HM.cD V).map λv=>decide (v=c)||decide (p<=s.Np v t)).map D.bl:=by
  rw[hy,List.take_of_length_le (by simp[hv])]
  simp
 have x1':Bx M a s M1:=x0.trans x1
 obtain⟨N1,hN1⟩:∃N1,N1=M1++[MO.lst ys]:=⟨_,rfl⟩
 rw[<-hN1]at e1
 have g1:Gr M1 N1:=by rw[hN1];exact Gr.app
 have al:R0 [.ref M1.length] N1= .ok (.bl (s.NT c t p V)) N1:=by
  have q:N1[M1.length]? = some (.lst (((HM.cD V).map λv=>decide (v=c)||decide (p<=s.Np v t)).map D.bl)):=by rw[hN1,hy'];exact cF
  rw[RZ q]
  simp[BO.NT,List.all_map]
 refine⟨N1,?_,x1'.trans (Bx.gr x1'.h g1)⟩
 simp only[ju,jG]
 simp[e0,sU hl,ql,e1,al]
theorem afQ(h:b7 M a s)(t:Int){V:Nat}(h1:(mQ (s.line t) s.S).1<2 ^ 60)(h2:(mQ (s.line t) s.S).2<2 ^ 60):
  ∃M',iZ [.ref a.sd,.int t,.int (V:Int)] M= .ok (.bl (s.won V (mQ (s.line t) s.S).1 (mQ (s.line t) s.S).2)) M'/\Bx M a s M':=by
 obtain⟨M1,e1,x1⟩:=Wo h (V:=V) h1 h2
 refine⟨M1,?_,x1⟩
 simp only[iZ,jd]
 simp[h.frs,h.ajS (m:= "wins") rfl,h.gK (m:= "line_roll") rfl,S8 h t,e1,BO.won]
theorem YK(h:b7 M a s){c:Nat}{t:Int}{p V:Nat}(hV:V<2 ^ 60)(h1:(mQ (s.line t) s.S).1<2 ^ 60)(h2:(mQ (s.line t) s.S).2<2 ^ 60)
  (z1:s.mark t<p) {e:En} (z2:(s.line t)[p - 1]? = some e) (z3:e.1=t) (z4:s.NT c t p V=true) (z5:s.won V (mQ (s.line t) s.S).1 (mQ (s.line t) s.S).2=true):
  ∃M',jq [.ref a.sd,.int (c:Int),.int t,.int (p:Int),.int (V:Int)] M= .ok (.bl true) M'/\Bx M a s M':=by
 obtain⟨M1,e1,x1⟩:=abU h hV c t p
 obtain⟨M2,e2,x2⟩:=afQ x1.h t (V:=V) h1 h2
 rw[z4]at e1
 rw[z5]at e2
 refine⟨M2,?_,x1.trans x2⟩
 have lt:p - 1<(s.line t).length:=(List.getElem?_eq_some_iff.mp z2).1
 have ln:gJ [esD (s.line t)] M= .ok (.int ((s.line t).length:Int)) M:=by simp[esD]
 have ix:=agf (M:=M) z2
 have pc:((p - 1:Nat):Int)=(p:Int) - 1:=()
 rw[pc]at ix
 have n1:¬((p:Int)<=(s.mark t:Int)):=()
 have n2:¬(((s.line t).length:Int)<(p:Int)):=()
 simp only[jq,jD,nj,ni]
 cases z6:s.r3 with
 | false=>
  have f:=h.f3
  rw[z6]at f
  simp[h.gK (m:= "line") rfl,pK h t,h.gK (m:= "mark") rfl,PN h t,ln,n1,n2,h.frs,f,h.gK (m:= "have_place") rfl,e1,x1.h.gK (m:= "are_winners") rfl,e2]
 | true=>
  have f:=h.f3
  rw[z6]at f
  simp[h.gK (m:= "line") rfl,pK h t,h.gK (m:= "mark") rfl,PN h t,ln,n1,n2,h.frs,f,ix,mV,z3,h.gK (m:= "have_place") rfl,e1,x1.h.gK (m:= "are_winners") rfl,e2]
def BO.beat(s:BO)(t:Int):Nat:=(gv s.bt t).getD 0
theorem aeP(h:b7 M a s)(t:Int):m8 [.ref a.rp,.int t] M= .ok (.int (s.beat t:Nat)) M:=by
 have e:=Xj h.bt t (.int 0)
 rw[KZ]at e
 simp only[m8,nP]
 simp[h.fbt,xK h.bt,e,BO.beat]
def BO.hrd(s:BO)(k:Nat)(t:Int):Nat:=(gv s.hd (k,t)).getD 0
theorem ahr(h:b7 M a s)(k:Nat)(t:Int):∃M',j6 [.ref a.rp,.int (k:Int),.int t] M= .ok (.int (s.hrd k t:Nat)) M'/\Bx M a s M':=by
 obtain⟨M',e,tt,c⟩:=Xi h.hd (k,t) (.int 0)
 rw[KZ]at e
 refine⟨M',?_,h.aiM c tt,c.one (show Rg a a.hd from ou h.o 14 rfl)⟩
 simp only[j6,j_]
 simp[h.fhd,h.hd.dic,e,BO.hrd]
theorem abS(h:b7 M a s)(hl:s.hd.length<=1000)(k:Nat)(t:Int):∃M',sI [.ref a.rp,.int (k:Int),.int t,.int 0] M= .ok .non M'/\Bx M a {s with hd:=gp s.hd (k,t) (s.hrd k t)} M':=by
 obtain⟨M1,e1,x1⟩:=ahr h k t
 have p:=Wy x1.h.hd (k,t) (s.hrd k t) hl
 refine⟨_,?_,x1.h.aiM (Ch.set rfl) (.inl (by obtain⟨o,q⟩:=x1.h.hd.some;exact jg q)),x1.c.trans (Ch.set (show Rg a a.hd from ou h.o 14 rfl))⟩
 have nn:D.int (if 0<s.hrd k t then((s.hrd k t:Nat):Int)else 0)=nD (s.hrd k t):=by
  unfold nD
  congr 1
  split<;>omega
 simp only[sI,tL]
 simp[h.aea (m:= "beat_told") rfl,e1,x1.h.fhd]
 rw[nn,p]
 simp
theorem ac3(h:b7 M a s)(hl:s.ro.length<=1000)(hp:s.pl.length<=1000)(h1:∀e∈s.line t,Ly e)(h2:∀e∈s.row k,Ly e)(hq:((s.row k).take p).length=((s.line t).take p).length->(s.row k).take p=(s.line t).take p):
  ∃M',sE [.ref a.sd,.int (k:Int),.int t,.int (p:Int)] M= .ok .non M'/\Bx M a {s with ro:=gp s.ro k (if((s.row k).take p).length=((s.line t).take p).length then s.row k else(s.line t).take p),pl:=gp s.pl (k,t) (max p (s.Np k t))} M':=by
 have e0:=ahb (M:=M) h1 h2 hq
 obtain⟨R,hR⟩:∃R,R=(if((s.row k).take p).length=((s.line t).take p).length then s.row k else(s.line t).take p):=⟨_,rfl⟩
 rw[<-hR]at e0 ⊢
 have p1:=aaU h.ro k R hl
 have b1:=h.aiJ (Ch.set rfl) (jg (o:= .dk (ge kN esD (gp s.ro k R))) h.ro)
 have c1:Ch (Rg a) M (M.set a.ro (.dk (ge kN esD (gp s.ro k R)))):=Ch.set (show Rg a a.ro from ou h.o 8 rfl)
 obtain⟨M1,hM1⟩:∃M1,M1=M.set a.ro (.dk (ge kN esD (gp s.ro k R))):=⟨_,rfl⟩
 rw[<-hM1]at p1 b1 c1
 obtain⟨M2,e2,x2⟩:=aaY b1 k t
 have e2':dg [.ref a.sd,.int (k:Int),.int t] M1= .ok (.int (s.Np k t:Nat)) M2:=e2
 have q:=Wy x2.h.pl (k,t) (max p (s.Np k t)) hp
 refine⟨_,?_,x2.h.aiK (Ch.set rfl) (.inl (by obtain⟨o,w⟩:=x2.h.pl.some;exact jg w)),c1.trans (x2.c.trans (Ch.set (show Rg a a.pl from ou h.o 11 rfl)))⟩
 have nn:D.int (if(p:Int)<((s.Np k t:Nat):Int)then((s.Np k t:Nat):Int)else(p:Int))=nD (max p (s.Np k t)):=by
  unfold nD
  congr 1
  split<;>omega
 simp only[sE,tu]
 simp[h.fro,h.gK (m:= "line") rfl,pK h t,h.gK (m:= "row_of") rfl,wN h k,e0,p1,b1.gK (m:= "place_told") rfl,e2',x2.h.fpl]
 simp at nn
 rw[nn,q]
 simp
theorem ae6:(("told" : Str)= "vote")=False:=eq_false (by decide)
theorem ae7:(("told" : Str)= "chair")=False:=eq_false (by decide)
def pT(k:Nat)(t:Int)(p:Nat):D:= .tup [.str "told",.int (k:Int),.int t,.int (p:Int),.int 0]
theorem SX(h:b7 M a s)(hc:s.head t=some c)(hk:c≠k)(ht:s.term k<=t)(hp:p<=(s.line t).length):
  oV [.ref a.b,.int (k:Int),.int t,.int (p:Int),.int 0] M= .ok (.bl true) M:=by
 have e0:=Fx h t
 rw[hc]at e0
 simp only[Option.map_some,Option.getD_some,nD]at e0
 have e1:=Ed h k
 have e2:=pK h t
 have e3:=aeP h t
 have ln:gJ [esD (s.line t)] M= .ok (.int ((s.line t).length:Int)) M:=by simp[esD]
 have n1:¬((c:Int)=(k:Int)):=()
 have n2:¬(t<s.term k):=()
 have f1:lO [.ref a.sd,.int t,.int (p:Int)] M= .ok (.bl true) M:=by
  simp only[lO,lY]
  simp[h.gK (m:= "line") rfl,e2,ln,hp]
 have f2:lQ [.ref a.rp,.int t,.int 0] M= .ok (.bl true) M:=by
  simp only[lQ,lZ]
  simp[h.aea (m:= "beat_of") rfl,e3]
 simp only[oV,pA,sW]
 simp[h.fbl,h.oO (m:= "chair_of") rfl,e0,n1,h.oO (m:= "term_of") rfl,e1,n2,h.Xm,h.gK (m:= "may_tell") rfl,f1,h.frp,h.aea (m:= "may_hear") rfl,f2]
theorem ab5:fW [pT k t p] M= .ok (.bl true) M:=by
 have q:Ot "told" [("vote",4),("chair",4),("write",4),("beat",3),("told",5),("settle",4),("answer",6),("look",6),("seen",8)]= .int 5:=rfl
 simp only[fW,mO,pT]
 simp[q]
theorem Vq:sIn (.str "told") (.mW [.str "vote",.str "chair",.str "told"]) M= .ok (.bl true) M:=by
 refine(p_ rfl).trans ?_
 simp only[U3,Rn,vB,Oq]
 simp[inV,eqV,Bool.beq_eq_decide_eq]
theorem aeT(h:b7 M a s)(hb:NB s.br=true)(t1:1<=t)(hc:s.head t=some c)(hk:c≠k)(ht:s.term k<=t)(hp:p<=(s.line t).length):
  bI [.ref a.b,pT k t p] M= .ok (.bl true) M:=by
 have e:=SX h hc hk ht hp
 have f:=ab5 (M:=M) (k:=k) (p:=p) (t:=t)
 have tn:jO [pT k t p] M= .ok (.int t) M:=by
  simp only[jO,rm,qj,pT]
  simp[Vq]
 have ah:bW [.ref a.b,pT k t p] M= .ok (.bl true) M:=by
  simp only[bW,eF,fK,fJ,pT]
  have i4:bh (.tup [.str "told",.int (k:Int),.int t,.int (p:Int),.int 0]) (.int 4) M= .ok (.int 0) M:=wM (by decide) rfl
  simp[h.Xm,h.gK (m:= "row_of") rfl,wN h k,Qy,ae6,ae7,h.Gh (m:= "may_tell") rfl,i4,e]
 have n1:¬(t<1):=()
 have i0:bh (pT k t p) (.int 0) M= .ok (.str "told") M:=kZ
 simp only[bI,cX,cC,cB]
 simp[h.fbr,hb,f,tn,n1,i0,Vq,h.Gh (m:= "allows_hand") rfl,ah]
structure ak2(s:BO):Prop where
 tm:s.tm.length<=1000
 ro:s.ro.length<=1000
 pl:s.pl.length<=1000
 hd:s.hd.length<=1000
def BO.led(s:BO)(k:Nat)(t:Int)(p:Nat):List En:=if((s.row k).take p).length=((s.line t).take p).length then s.row k else(s.line t).take p
def BO.told(s:BO)(k:Nat)(t:Int)(p:Nat):BO:={s with cnt:=s.cnt+1,tm:=gp s.tm k t,ro:=gp s.ro k (s.led k t p),pl:=gp s.pl (k,t) (max p (s.Np k t)),hd:=gp s.hd (k,t) (s.hrd k t)}
theorem afT(h:b7 M a s)(f:ak2 s)(hb:NB s.br=true)(t1:1<=t)(hc:s.head t=some c)(hk:c≠k)(ht:s.term k<=t)(hp:p<=(s.line t).length)
  (h1:∀e∈s.line t,Ly e) (h2:∀e∈s.row k,Ly e) (hq:((s.row k).take p).length=((s.line t).take p).length->(s.row k).take p=(s.line t).take p):
  ∃M',aM [.ref a.b,pT k t p] M= .ok .non M'/\Bx M a (s.told k t p) M':=by
 have e0:=aeT h hb t1 hc hk ht hp
 obtain⟨M2,e2,x2⟩:=Ph h
 obtain⟨M3,e3,x3⟩:=R5 x2.h f.tm k t
 obtain⟨M4,e4,x4⟩:=ac3 x3.h (k:=k) (t:=t) (p:=p) f.ro f.pl h1 h2 hq
 obtain⟨M5,e5,x5⟩:=abS x4.h f.hd k t
 have fh:dG [.ref a.b,pT k t p] M2= .ok .non M5:=by
  have i4:∀M:Mem,bh (.tup [.str "told",.int (k:Int),.int t,.int (p:Int),.int 0]) (.int 4) M= .ok (.int 0) M:=λM=>wM (by decide) rfl
  simp only[dG,eE,fH,fG,pT]
  simp[ae6,ae7,x2.h.fbl,x2.h.oO (m:= "reach") rfl,e3,x3.h.Xm,x3.h.gK (m:= "tell") rfl,e4,x4.h.frp,x4.h.aea (m:= "hear") rfl,i4,e5]
 refine⟨M5,?_,x2.trans (x3.trans (x4.trans x5))⟩
 have i0:∀M:Mem,bh (pT k t p) (.int 0) M= .ok (.str "told") M:=λM=>kZ
 simp only[aM,gf,fj,e_]
 simp[h.Gh (m:= "allows") rfl,e0,h.fcn,e2,i0,Vq,x2.h.Gh (m:= "follow_hand") rfl,fh]
theorem Zt(h:b7 M a s)(k:Nat)(t:Int)(hw:w<60):∃M',bW [.ref a.b,pV k t w] M= .ok (.bl (s.lF k t w (mU (s.row k)))) M'/\Bx M a s M':=by
 obtain⟨M1,e1,x1⟩:=Vd h k t hw (mU (s.row k))
 refine⟨M1,?_,x1⟩
 simp only[bW,eF,fK,fJ,pap]
 simp[h.Xm,h.gK (m:= "row_of") rfl,wN h k,Qy,h.fbl,h.oO (m:= "may_vote") rfl,e1]
theorem Zu(h:b7 M a s){k:Nat}(hk:k<60)(t:Int){V:Nat}(hV:V<2 ^ 60)(h1:(mQ (s.row k) s.S).1<2 ^ 60)(h2:(mQ (s.row k) s.S).2<2 ^ 60):
  ∃M',bW [.ref a.b,pC k t V] M= .ok (.bl (s.jn k t V (mU (s.row k)) (mQ (s.row k) s.S).1 (mQ (s.row k) s.S).2)) M'/\Bx M a s M':=by
 obtain⟨M1,e1,x1⟩:=S5 h hk t hV h1 h2 (mU (s.row k))
 refine⟨M1,?_,x1⟩
 simp only[bW,eF,fK,fJ,pap]
 simp[afE,h.Xm,h.gK (m:= "row_of") rfl,wN h k,Qy,h.fbl,h.oO (m:= "may_chair") rfl,h.gK (m:= "row_roll") rfl,aaM h k,e1]
theorem V_(h:b7 M a s)(hf:Few s)(k:Nat)(t:Int)(hw:w<60)(hb:NB s.br=true)(t1:1<=t)(hv:s.lF k t w (mU (s.row k))=true):
  ∃M',aM [.ref a.b,pV k t w] M= .ok .non M'/\Bx M a ({s with cnt:=s.cnt+1}.cast k t w (mU (s.row k))) M':=by
 have r:=aae h (.inl rfl) (XS h (.inl rfl) (Zt h k t hw)) (s3:={s with cnt:=s.cnt+1}.cast k t w (mU (s.row k))) λM2 h2=>by
  obtain⟨M3,e3,x3⟩:=aeI h2 ⟨hf.tm,hf.vt,hf.ak,hf.se,hf.ln⟩ k t hw (mU (s.row k))
  have r:bM [.ref a.sd,.int (k:Int)] M2= .ok (esD (s.row k)) M2:=wN h2 k
  refine⟨M3,?_,x3⟩
  simp only[dG,eE,fH,fG,pap]
  simp[h2.fbl,h2.Xm,h2.gK (m:= "row_of") rfl,r,Qy,h2.oO (m:= "cast") rfl,e3]
 have o:s.Hf t (s.lF k t w (mU (s.row k)))=true:=by simp[BO.Hf,hb,t1,hv]
 rcases r with⟨_,r⟩ | ⟨r,_⟩
 ·exact r
 ·rw[o]at r;cases r
theorem Z_(h:b7 M a s)(hf:Few s)(hn:s.head t=none)(kp:Kp {s with se:=gp s.se t k,ln:=gp s.ln t (s.row k)})(hl:s.ln.length<60):
  ∃M',gW [.ref a.b,.int (k:Int),.int t] M= .ok .non M'/\Bx M a {s with se:=gp s.se t k,ln:=gp s.ln t (s.row k)} M':=by
 have e0:=Fx h t
 rw[hn]at e0
 obtain⟨M1,e1,x1⟩:=adh h (by have:=hf.se;omega) k t
 obtain⟨M2,e2,x2⟩:=acB x1.h (by show s.ln.length<=1000;omega) k t
 obtain⟨M3,e3,x3⟩:=Xn x2.h kp (by show(gp s.ln t _).length<=60;exact yY abY ()) (t:=t) (by show(gv (gp s.ln t _) t).isSome=true;rw[Hy,if_pos rfl];rfl)
 refine⟨M3,?_,x1.trans (x2.trans x3)⟩
 simp only[Option.map_none,Option.getD_none]at e0
 simp only[gW,g8,jY]
 simp[h.fbl,h.oO (m:= "chair_of") rfl,e0,h.oO (m:= "take_seat") rfl,e1,x1.h.Xm,x1.h.gK (m:= "begin_line") rfl,e2,x2.h.Gh (m:= "find_lost") rfl,e3]
theorem ac4(h:b7 M a s)(hf:Few s){k:Nat}(hk:k<60){t:Int}{V:Nat}(hV:V<2 ^ 60)(h1:(mQ (s.row k) s.S).1<2 ^ 60)(h2:(mQ (s.row k) s.S).2<2 ^ 60)(hb:NB s.br=true)(t1:1<=t)
  (hn:s.head t=none) (kp:Kp {s with se:=gp s.se t k,ln:=gp s.ln t (s.row k)}) (hl:s.ln.length<60) (hc:s.jn k t V (mU (s.row k)) (mQ (s.row k) s.S).1 (mQ (s.row k) s.S).2=true):
  ∃M',aM [.ref a.b,pC k t V] M= .ok .non M'/\Bx M a {s with cnt:=s.cnt+1,se:=gp s.se t k,ln:=gp s.ln t (s.row k)} M':=by
 have r:=aae h (.inr rfl) (XS h (.inr rfl) (Zu h hk t hV h1 h2)) (s3:={s with cnt:=s.cnt+1,se:=gp s.se t k,ln:=gp s.ln t (s.row k)}) λM2 b2=>by
  obtain⟨M3,e3,x3⟩:=Z_ b2 ⟨hf.tm,hf.vt,hf.ak,hf.se,hf.ln⟩ (k:=k) (t:=t) hn ⟨kp.ok,kp.kp⟩ hl
  refine⟨M3,?_,x3⟩
  simp only[dG,eE,fH,fG,pap]
  simp[afE,b2.Gh (m:= "follow_to_chair") rfl,e3]
 have o:s.Hf t (s.jn k t V (mU (s.row k)) (mQ (s.row k) s.S).1 (mQ (s.row k) s.S).2)=true:=by simp[BO.Hf,hb,t1,hc]
 rcases r with⟨_,r⟩ | ⟨r,_⟩
 ·exact r
 ·rw[o]at r;cases r
def pW(t p:Int)(w:Wh):D:= .tup [.str "write",.int t,.int p,w.d]
theorem ab4:fW [pW t p w] M= .ok (.bl true) M:=by
 have q:Ot "write" [("vote",4),("chair",4),("write",4),("beat",3),("told",5),("settle",4),("answer",6),("look",6),("seen",8)]= .int 4:=rfl
 simp only[fW,mO,pW]
 simp[q]
theorem Ql:sIn (.str "write") (.mW [.str "vote",.str "chair",.str "told"]) M= .ok (.bl false) M:=by
 rw[in_of]
 have e1:(("vote" : Str)= "write")=False:=eq_false (by decide)
 have e2:(("chair" : Str)= "write")=False:=eq_false (by decide)
 have e3:(("told" : Str)= "write")=False:=eq_false (by decide)
 simp[e1,e2,e3]
def BO.mq(s:BO)(t p:Int)(w:Wh):Bool:=decide (1<=t)&&(s.stands t&&s.qe t p w)
theorem aeS(h:b7 M a s)(hb:NB s.br=true)(t p:Int)(hw:WOk w):∃M',bI [.ref a.b,pW t p w] M= .ok (.bl (s.mq t p w)) M'/\Bx M a s M':=by
 have f:=ab4 (M:=M) (t:=t) (p:=p) (w:=w)
 have tn:jO [pW t p w] M= .ok (.int t) M:=by
  simp only[jO,rm,qj,pW]
  simp[Ql]
 have i0:bh (pW t p w) (.int 0) M= .ok (.str "write") M:=kZ
 have i1:bh (pW t p w) (.int 1) M= .ok (.int t) M:=RW
 have e1:=M_ h t
 by_cases z1:t<1
 ·refine⟨M,?_,Bx.of h⟩
  have q:s.mq t p w=false:=by simp[BO.mq,show ¬1<=t by omega]
  rw[q]
  simp only[bI,cX,cC,cB]
  simp[h.fbr,hb,f,tn,z1]
 ·have z1':1<=t:=()
  cases z2:s.stands t with
  | false=>
   rw[z2]at e1
   refine⟨M,?_,Bx.of h⟩
   have q:s.mq t p w=false:=by simp[BO.mq,z2]
   rw[q]
   simp only[bI,cX,cC,cB]
   simp[h.fbr,hb,f,tn,z1,i0,i1,Ql,h.fbl,h.oO (m:= "stands") rfl,e1]
  | true=>
   rw[z2]at e1
   obtain⟨M1,e2,x2⟩:=abq h t p hw
   have ac:dY [.ref a.b,pW t p w] M= .ok (.bl (s.qe t p w)) M1:=by
    simp only[dY,gk,iM,pW]
    simp[h.Xm,h.gK (m:= "may_write") rfl,e2]
   refine⟨M1,?_,x2⟩
   have q:s.mq t p w=s.qe t p w:=by simp[BO.mq,z2,z1']
   rw[q]
   simp only[bI,cX,cC,cB]
   simp[h.fbr,hb,f,tn,z1,i0,i1,Ql,h.fbl,h.oO (m:= "stands") rfl,e1,h.Gh (m:= "allows_chair") rfl,ac]
theorem afS(h:b7 M a s)(hb:NB s.br=true)(hl:s.ln.length<=1000)(hr:s.ro.length<=1000)(t p:Int)(hw:WOk w)(l1:(s.line t).length<=1000)(l2:∀k,(s.row k).length<=1000):
  (s.mq t p w=true/\∃k M',s.head t=some k/\aM [.ref a.b,pW t p w] M= .ok .non M'/\Bx M a {s with cnt:=s.cnt+1,ln:=gp s.ln t (s.line t++[(t,w)]),ro:=gp s.ro k (s.row k++[(t,w)])} M')
  \/ (s.mq t p w=false/\∃M',aM [.ref a.b,pW t p w] M= .exc 2 (.int (s.cnt:Int)) M'/\Bx M a s M'):=by
 obtain⟨M1,e1,x1⟩:=aeS h hb t p hw
 have m1:=h.Gh (m:= "allows") rfl
 have i0:∀M:Mem,bh (pW t p w) (.int 0) M= .ok (.str "write") M:=λM=>kZ
 cases c:s.mq t p w with
 | false=>
  rw[c]at e1
  refine .inr ⟨rfl,M1,?_,x1⟩
  simp only[aM,gf,fj,e_]
  simp[m1,e1,x1.h.fcn,one]
 | true=>
  rw[c]at e1
  obtain⟨k,hk⟩:∃k,s.head t=some k:=by
   cases z:s.head t with
   | none=>simp[BO.mq,BO.stands,z]at c
   | some k=>exact⟨k,rfl⟩
  obtain⟨M2,e2,x2⟩:=Ph x1.h
  obtain⟨M3,e3,x3⟩:=ZR x2.h (k:=k) (t:=t) (w:=w) hl hr l1 (l2 k)
  have hd:cj [.ref a.bl,.int t] M2= .ok (.int (k:Int)) M2:=by
   have q:=Fx x2.h t
   have hk':({s with cnt:=s.cnt+1}:BO).head t=some k:=hk
   rw[hk']at q
   exact q
  have fc:dX [.ref a.b,pW t p w] M2= .ok .non M3:=by
   simp only[dX,gh,iK,iJ,iI,iH,iG,pW]
   simp[x2.h.Xm,x2.h.fbl,x2.h.oO (m:= "chair_of") rfl,hd,x2.h.gK (m:= "write") rfl,e3]
  refine .inl ⟨rfl,k,M3,hk,?_,x1.trans (x2.trans x3)⟩
  simp only[aM,gf,fj,e_]
  simp[m1,e1,x1.h.fcn,e2,i0,Ql,x2.h.Gh (m:= "follow_chair") rfl,fc]
def pS(t:Int)(p V:Nat):D:= .tup [.str "settle",.int t,.int (p:Int),.int (V:Int)]
theorem Vr:sIn (.str "settle") (.mW [.str "vote",.str "chair",.str "told"]) M= .ok (.bl false) M:=by
 rw[in_of]
 have e1:(("vote" : Str)= "settle")=False:=eq_false (by decide)
 have e2:(("chair" : Str)= "settle")=False:=eq_false (by decide)
 have e3:(("told" : Str)= "settle")=False:=eq_false (by decide)
 simp[e1,e2,e3]
theorem afU(h:b7 M a s)(hb:NB s.br=true)(hl:s.mr.length<=1000)(hn:s.ln.length<=60){c:Nat}{t:Int}{p V:Nat}(t1:1<=t)(hc:s.head t=some c)(ht:s.term c=t)(hV:V<2 ^ 60)
  (h1:(mQ (s.line t) s.S).1<2 ^ 60) (h2:(mQ (s.line t) s.S).2<2 ^ 60) (z1:s.mark t<p) {e:En} (z2:(s.line t)[p - 1]? = some e) (z3:e.1=t) (z4:s.NT c t p V=true)
  (z5:s.won V (mQ (s.line t) s.S).1 (mQ (s.line t) s.S).2=true) (kp:Kp {s with mr:=gp s.mr t p}) (hs:(gv s.ln t).isSome=true):
  ∃M',aM [.ref a.b,pS t p V] M= .ok .non M'/\Bx M a {s with cnt:=s.cnt+1,mr:=gp s.mr t p} M':=by
 have ws:(("settle" : Str)= "write")=False:=eq_false (by decide)
 have bs:(("settle" : Str)= "beat")=False:=eq_false (by decide)
 have f:fW [pS t p V] M= .ok (.bl true) M:=by
  have q:Ot "settle" [("vote",4),("chair",4),("write",4),("beat",3),("told",5),("settle",4),("answer",6),("look",6),("seen",8)]= .int 4:=rfl
  simp only[fW,mO,pS]
  simp[q]
 have tn:jO [pS t p V] M= .ok (.int t) M:=by
  simp only[jO,rm,qj,pS]
  simp[Vr]
 have i0:∀M:Mem,bh (pS t p V) (.int 0) M= .ok (.str "settle") M:=λM=>kZ
 have i1:∀M:Mem,bh (pS t p V) (.int 1) M= .ok (.int t) M:=λM=>RW
 have e1:gY [.ref a.bl,.int t] M= .ok (.bl true) M:=by rw[M_ h t];simp[BO.stands,hc,ht]
 obtain⟨M1,e2,x2⟩:=YK h (c:=c) hV h1 h2 z1 z2 z3 z4 z5
 have hd:=Fx h t
 rw[hc]at hd
 simp only[Option.map_some,Option.getD_some,nD]at hd
 have ac:dY [.ref a.b,pS t p V] M= .ok (.bl true) M1:=by
  simp only[dY,gk,iM,nC,nA,pS]
  simp[ws,bs,h.Xm,h.fbl,h.oO (m:= "chair_of") rfl,hd,h.gK (m:= "may_settle") rfl,e2]
 have al:bI [.ref a.b,pS t p V] M= .ok (.bl true) M1:=by
  simp only[bI,cX,cC,cB]
  simp[h.fbr,hb,f,tn,show ¬t<1 by omega,i0,i1,Vr,h.fbl,h.oO (m:= "stands") rfl,e1,h.Gh (m:= "allows_chair") rfl,ac]
 obtain⟨M2,e3,x3⟩:=Ph x2.h
 obtain⟨M3,e4,x4⟩:=Yd x3.h hl t p
 obtain⟨M4,e5,x5⟩:=Xn x4.h ⟨kp.ok,kp.kp⟩ hn (t:=t) hs
 have fc:dX [.ref a.b,pS t p V] M2= .ok .non M4:=by
  simp only[dX,gh,iK,iJ,iI,iH,iG,pS]
  simp[ws,bs,x3.h.Xm,x3.h.gK (m:= "settle") rfl,e4,x4.h.Gh (m:= "find_lost") rfl,e5]
 refine⟨M4,?_,x2.trans (x3.trans (x4.trans x5))⟩
 simp only[aM,gf,fj,e_]
 simp[h.Gh (m:= "allows") rfl,al,x2.h.fcn,e3,i0,Vr,x3.h.Gh (m:= "follow_chair") rfl,fc]
end
section
variable{M:Mem}
theorem pf(h:c∈cs)(h2:fs.length<1000):mH cs f d (.ref M.length) (M++(MO.ins c fs::xs))=some (M++(MO.ins c (putD f d fs)::xs)):=by
 rw[jN (by simp:(M++(MO.ins c fs::xs))[M.length]? = some (.ins c fs)) h h2]
 simp
theorem abg:∀{fs:List (Str×D)},(putD f d fs).length<=fs.length+1
 | []=>zab _
 | (x,e)::r=>by
  unfold putD
  split
  ·exact Nat.le_succ _
  ·exact Nat.succ_le_succ abg
theorem abf(h:fs.length<n):(putD f d fs).length<n+1:=Nat.lt_of_le_of_lt abg (Nat.succ_lt_succ h)
theorem Zo:sO [.ref M.length,.ref r] (M++[.ins 0 []])= .ok .non (M++[.ins 0 [("rules",.ref r),("terms",.ref (M.length+1)),("votes",.ref (M.length+2)),("askings",.ref (M.length+3)),("seated",.ref (M.length+4))],.dk [],.dk [],.dk [],.dk []]):=by
 simp only[sO,tQ]
 simp(maxDischargeDepth:=9) [pf,abf]
 rfl
theorem aak:sG [.ref M.length,dd,.ref r] (M++[.ins 7 []])= .ok .non (M++[.ins 7 [("first_roll",dd),("rules",.ref r),("rows",.ref (M.length+1)),("lines",.ref (M.length+2)),("marks",.ref (M.length+3)),("places",.ref (M.length+4))],.dk [],.dk [],.dk [],.dk []]):=by
 simp only[sG,tH]
 simp(maxDischargeDepth:=9) [pf,abf]
 rfl
theorem aaP : sH [.ref M.length] (M++[.ins 5 []])= .ok .non (M++[.ins 5 [("beats",.ref (M.length+1)),("heard",.ref (M.length+2)),("looks",.ref (M.length+3)),("seen",.ref (M.length+4))],.dk [],.dk [],.dk [],.dk []]):=by
 simp only[sH,tK]
 simp(maxDischargeDepth:=9) [pf,abf]
 rfl
def adr(b n:Nat):BA:=⟨b,b+1,n,n+1,n+2,n+3,n+4,n+5,n+6,n+7,n+8,n+9,n+10,n+11,n+12,n+13,n+14⟩
def b0(S:Nat)(r1 r2 r3 r4:Bool):BO:=⟨S,r1,r2,r3,r4,0,.non,[],[],[],[],[],[],[],[],[],[],[],[]⟩
theorem acA{S:Nat}{b1 b2 b3 b4:Bool}
  (hr:∀(o:MO) (e:Sl),mIf (aY (aC sIs (aq 2) (mC .non))) (z8 6 jQ 2 [(.str "once best own most")] aF) (aU 6 "twin" Fi 1 [] (aq 2) aF) [some (.ref M.length),some (.int (S:Int)),some r] (M++[.ins 8 [("first",.int (S:Int))]])= .ok (.ref (M.length+1)) N1)
  (g:Gr (M++[.ins 8 [("first",.int (S:Int))]]) N1) (hN:N1[M.length+1]? = some (Ym b1 b2 b3 b4)):
  ∃M',qT [.ref M.length,.int (S:Int),r] (M++[.ins 8 []])= .ok .non M'/\b7 M' (adr M.length N1.length) (b0 S b1 b2 b3 b4)/\Gr M M':=by
 have hl:=Hj hN
 obtain⟨a,ha⟩:∃a,a=adr M.length N1.length:=⟨_,rfl⟩
 have h1:N1[M.length]? = some (.ins 8 [("first",.int (S:Int))]):=g _ _ (by simp)
 have p1:mH [8] "first" (.int (S:Int)) (.ref M.length) (M++[.ins 8 []])=some (M++[.ins 8 [("first",.int (S:Int))]]):=by
  rw[jN (by simp:(M++[MO.ins 8 []])[M.length]? = some (.ins 8 [])) (by simp) (by simp)]
  simp[putD]
 have p2:mH [0,7,8] "rules" (.ref (M.length+1)) (.ref M.length) N1=some (N1.set M.length (.ins 8 [("first",.int (S:Int)),("rules",.ref (M.length+1))])):=by
  rw[jN h1 (by simp) (by simp)];rfl
 obtain⟨A,hA⟩:∃A,A=N1.set M.length (.ins 8 [("first",.int (S:Int)),("rules",.ref (M.length+1))]):=⟨_,rfl⟩
 have lA:A.length=N1.length:=by rw[hA,List.length_set]
 have hA0:A[M.length]? = some (.ins 8 [("first",.int (S:Int)),("rules",.ref (M.length+1))]):=by rw[hA];exact get_set h1
 have fA:mR [0,7,8] "rules" (.ref M.length) A= .ok (.ref (M.length+1)) A:=dj hA0 (by simp) rfl
 have e3:=Zo (M:=A) (r:=M.length+1)
 obtain⟨B0,hB0⟩:∃B0,B0=A++[MO.ins 0 [("rules",.ref (M.length+1)),("terms",.ref (A.length+1)),("votes",.ref (A.length+2)),("askings",.ref (A.length+3)),("seated",.ref (A.length+4))],.dk [],.dk [],.dk [],.dk []]:=⟨_,rfl⟩
 rw[<-hB0]at e3
 have akk:B0[M.length]? = some (.ins 8 [("first",.int (S:Int)),("rules",.ref (M.length+1))]):=by rw[hB0];exact Gr.app _ _ hA0
 have p3:mH [8] "ballots" (.ref A.length) (.ref M.length) B0=some (B0.set M.length (.ins 8 [("first",.int (S:Int)),("rules",.ref (M.length+1)),("ballots",.ref A.length)])):=by
  rw[jN akk (by simp) (by simp)];rfl
 obtain⟨B,hB⟩:∃B,B=B0.set M.length (.ins 8 [("first",.int (S:Int)),("rules",.ref (M.length+1)),("ballots",.ref A.length)]):=⟨_,rfl⟩
 have lB:B.length=A.length+5:=by rw[hB,List.length_set,hB0];simp
 have hB1:B[M.length]? = some (.ins 8 [("first",.int (S:Int)),("rules",.ref (M.length+1)),("ballots",.ref A.length)]):=by rw[hB];exact get_set akk
 have fB:mR [0,7,8] "rules" (.ref M.length) B= .ok (.ref (M.length+1)) B:=dj hB1 (by simp) rfl
 have e4:=aak (M:=B) (r:=M.length+1) (dd:= .tup [.int (S:Int),.int 0])
 obtain⟨C0,hC0⟩:∃C0,C0=B++[MO.ins 7 [("first_roll",.tup [.int (S:Int),.int 0]),("rules",.ref (M.length+1)),("rows",.ref (B.length+1)),("lines",.ref (B.length+2)),("marks",.ref (B.length+3)),("places",.ref (B.length+4))],.dk [],.dk [],.dk [],.dk []]:=⟨_,rfl⟩
 rw[<-hC0]at e4
 have akj:C0[M.length]? = some (.ins 8 [("first",.int (S:Int)),("rules",.ref (M.length+1)),("ballots",.ref A.length)]):=by rw[hC0];exact Gr.app _ _ hB1
 have p4:mH [8] "strides" (.ref B.length) (.ref M.length) C0=some (C0.set M.length (.ins 8 [("first",.int (S:Int)),("rules",.ref (M.length+1)),("ballots",.ref A.length),("strides",.ref B.length)])):=by
  rw[jN akj (by simp) (by simp)];rfl
 obtain⟨C,hC⟩:∃C,C=C0.set M.length (.ins 8 [("first",.int (S:Int)),("rules",.ref (M.length+1)),("ballots",.ref A.length),("strides",.ref B.length)]):=⟨_,rfl⟩
 have lC:C.length=B.length+5:=by rw[hC,List.length_set,hC0];simp
 have hC1:C[M.length]? = some (.ins 8 [("first",.int (S:Int)),("rules",.ref (M.length+1)),("ballots",.ref A.length),("strides",.ref B.length)]):=by rw[hC];exact get_set akj
 have e5:=aaP (M:=C)
 obtain⟨E0,hE0⟩:∃E0,E0=C++[MO.ins 5 [("beats",.ref (C.length+1)),("heard",.ref (C.length+2)),("looks",.ref (C.length+3)),("seen",.ref (C.length+4))],.dk [],.dk [],.dk [],.dk []]:=⟨_,rfl⟩
 rw[<-hE0]at e5
 have aeo:E0[M.length]? = some (.ins 8 [("first",.int (S:Int)),("rules",.ref (M.length+1)),("ballots",.ref A.length),("strides",.ref B.length)]):=by rw[hE0];exact Gr.app _ _ hC1
 have p5:mH [8] "replies" (.ref C.length) (.ref M.length) E0=some (E0.set M.length (.ins 8 [("first",.int (S:Int)),("rules",.ref (M.length+1)),("ballots",.ref A.length),("strides",.ref B.length),("replies",.ref C.length)])):=by
  rw[jN aeo (by simp) (by simp)];rfl
 have p6:mH [8] "count" (.int 0) (.ref M.length) (E0.set M.length (.ins 8 [("first",.int (S:Int)),("rules",.ref (M.length+1)),("ballots",.ref A.length),("strides",.ref B.length),("replies",.ref C.length)]))=some (E0.set M.length (.ins 8 [("first",.int (S:Int)),("rules",.ref (M.length+1)),("ballots",.ref A.length),("strides",.ref B.length),("replies",.ref C.length),("count",.int 0)])):=by
  rw[jN (get_set aeo) (by simp) (by simp),List.set_set];rfl
 have p7:mH [8] "breach" .non (.ref M.length) (E0.set M.length (.ins 8 [("first",.int (S:Int)),("rules",.ref (M.length+1)),("ballots",.ref A.length),("strides",.ref B.length),("replies",.ref C.length),("count",.int 0)]))=some (E0.set M.length (Ln a S 0 .non)):=by
  rw[jN (get_set aeo) (by simp) (by simp),List.set_set,ha,lC,lB,lA];rfl
 obtain⟨Z,hZ⟩:∃Z,Z=E0.set M.length (Ln a S 0 .non):=⟨_,rfl⟩
 rw[<-hZ]at p7
 refine⟨Z,?_,?_,?_⟩
 ·simp only[qT,nQ]
  have hr':=hr (.dk []) []
  simp[p1]
  simp at hr'
  simp[hr',p2,<-hA,fA,e3,p3,<-hB,fB,e4,p4,<-hC,e5,p5,p6,p7]
 ·
  have kA:∀i o,i≠M.length->N1[i]? = some o->A[i]? = some o:=λi o hi h=>by rw[hA];exact rE h hi
  have kB:∀i o,i≠M.length->A[i]? = some o->B[i]? = some o:=λi o hi h=>by rw[hB];exact rE (by rw[hB0];exact Gr.app _ _ h) hi
  have kC:∀i o,i≠M.length->B[i]? = some o->C[i]? = some o:=λi o hi h=>by rw[hC];exact rE (by rw[hC0];exact Gr.app _ _ h) hi
  have kE:∀i o,i≠M.length->C[i]? = some o->Z[i]? = some o:=λi o hi h=>by rw[hZ];exact rE (by rw[hE0];exact Gr.app _ _ h) hi
  have qB:∀(j:Nat) (o:MO),([MO.ins 0 [("rules",.ref (M.length+1)),("terms",.ref (A.length+1)),("votes",.ref (A.length+2)),("askings",.ref (A.length+3)),("seated",.ref (A.length+4))],.dk [],.dk [],.dk [],.dk []]:List MO)[j]? = some o->Z[N1.length+j]? = some o:=λj o h=>
   kE _ _ () (kC _ _ () (by rw[hB];refine rE ?_ ();rw[hB0,zad (),lA,Nat.add_sub_cancel_left,<-lA];exact h))
  have qC:∀(j:Nat) (o:MO),([MO.ins 7 [("first_roll",.tup [.int (S:Int),.int 0]),("rules",.ref (M.length+1)),("rows",.ref (B.length+1)),("lines",.ref (B.length+2)),("marks",.ref (B.length+3)),("places",.ref (B.length+4))],.dk [],.dk [],.dk [],.dk []]:List MO)[j]? = some o->Z[N1.length+5+j]? = some o:=λj o h=>
   kE _ _ () (by rw[hC];refine rE ?_ ();rw[hC0,zad (),show N1.length+5+j - B.length=j by omega];exact h)
  have qE:∀(j:Nat) (o:MO),([MO.ins 5 [("beats",.ref (C.length+1)),("heard",.ref (C.length+2)),("looks",.ref (C.length+3)),("seen",.ref (C.length+4))],.dk [],.dk [],.dk [],.dk []]:List MO)[j]? = some o->Z[N1.length+10+j]? = some o:=λj o h=>by
   rw[hZ]
   refine rE ?_ ()
   rw[hE0,zad (),show N1.length+10+j - C.length=j by omega];exact h
  have hz0:Z[M.length]? = some (Ln (adr M.length N1.length) S 0 .non):=by rw[hZ,<-ha];exact get_set aeo
  have eA:A.length=N1.length:=lA
  have eB:B.length=N1.length+5:=()
  have eC:C.length=N1.length+10:=()
  rw[eA]at qB
  rw[eB]at qC
  rw[eC]at qE
  refine⟨?_,?_,?_,?_,.inr ⟨?_,rfl⟩,.inr ⟨?_,rfl⟩,?_,?_,?_,?_,?_,.inr ⟨?_,rfl⟩,?_,?_,.inr ⟨?_,rfl⟩,.inr ⟨?_,rfl⟩,.inr ⟨?_,rfl⟩,?_⟩
  ·exact hz0
  ·exact kE _ _ (by simp[adr]) (kC _ _ (by simp[adr]) (kB _ _ (by simp[adr]) (kA _ _ (by simp[adr]) hN)))
  ·exact qB 0 _ rfl
  ·exact qB 1 _ rfl
  ·exact qB 2 _ rfl
  ·exact qB 3 _ rfl
  ·exact qB 4 _ rfl
  ·exact qC 0 _ rfl
  ·exact qC 1 _ rfl
  ·exact qC 2 _ rfl
  ·exact qC 3 _ rfl
  ·exact qC 4 _ rfl
  ·exact qE 0 _ rfl
  ·exact qE 1 _ rfl
  ·exact qE 2 _ rfl
  ·exact qE 3 _ rfl
  ·exact qE 4 _ rfl
  ·simp only[adr];omega
 ·
  intro i o h
  have hi:=Hj h
  have h':N1[i]? = some o:=g _ _ (Gr.app _ _ h)
  rw[hZ]
  refine rE ?_ ()
  rw[hE0]
  refine Gr.app _ _ ?_
  rw[hC]
  refine rE ?_ ()
  rw[hC0]
  refine Gr.app _ _ ?_
  rw[hB]
  refine rE ?_ ()
  rw[hB0]
  refine Gr.app _ _ ?_
  rw[hA]
  exact rE h' ()
theorem VF{S:Nat}:∃a M',qT [.ref M.length,.int (S:Int),.non] (M++[.ins 8 []])= .ok .non M'/\a.b=M.length/\b7 M' a (b0 S true true true true)/\Gr M M':=by
 obtain⟨N1,e,g,o⟩:=U6 (M:=M++[.ins 8 [("first",.int (S:Int))]])
 have l:(M++[MO.ins 8 [("first",.int (S:Int))]]).length=M.length+1:=by simp
 rw[l]at e o
 obtain⟨M',e',h,g'⟩:=acA (M:=M) (S:=S) (r:= .non) (N1:=N1) (λ_ _=>by simp at e;simp[e]) g o
 exact⟨_,M',e',rfl,h,g'⟩
end
theorem Wq:∀n,n<=xs.length->Wr (xs++[e]) n=Wr xs n
 | 0,_=>rfl
 | n+1,h=>by
  unfold Wr
  rw[zae (),Wq n ()]
theorem Er:Nm (xs++[e])=if e.2.Xd=true then xs.length+1 else Nm xs:=by
 unfold Nm
 rw[List.length_append,List.length_singleton]
 show Wr (xs++[e]) (xs.length+1)=_
 rw[Wr]
 have:(xs++[e])[xs.length]? = some e:=by simp
 rw[this]
 dsimp only
 rw[Wq _ (zab _)]
theorem aaO:∀n,Wr xs n<=n
 | 0=>zab _
 | n+1=>by
  unfold Wr
  split
  ·split
   ·exact zab _
   ·exact wP (aaO n)
  ·exact Nat.zero_le _
theorem Wv:mQ (xs++[(t,.LC a b)]) S=(a,b):=by
 have e:Nm (xs++[(t,.LC a b)])=xs.length+1:=by rw[Er];rfl
 simp[mQ,e]
theorem Je(h:e.2.Xd=false):mQ (xs++[e]) S=mQ xs S:=by
 have q:Nm (xs++[e])=Nm xs:=by rw[Er,h];rfl
 unfold mQ
 rw[q]
 cases z:Nm xs with
 | zero=>rfl
 | succ n=>
  have l:n<xs.length:=by
   have:=aaO (xs:=xs) xs.length
   unfold Nm at z
   omega
  dsimp only
  rw[zae l]
section
variable{M:Mem}
structure akU(M0:Mem)(l:Nat)(L:List En)(S:Nat)(i:Nat)(e:Sl)(M:Mem):Prop where
 m:M0=M
 e:∃v,e=[some (.ref l),some (.int (S:Int)),some (.tup [.int ((mQ (L.take i) S).1:Int),.int ((mQ (L.take i) S).2:Int),.int (Nm (L.take i):Nat)]),v]
theorem Nv{l S:Nat}{L:List En}(h:M[l]? = some (.lst (L.map mV)))(hL:L.length<=1000):rZ [.ref l,.int (S:Int)] M= .ok (.tup [.int ((mQ L S).1:Int),.int ((mQ L S).2:Int),.int (Nm L:Nat)]) M:=by
 have ln:gJ [.ref l] M= .ok (.int (L.length:Int)) M:=by rw[kY h];simp
 obtain⟨e',M1,lp,hm,v,rfl⟩:=oW (src:=none) (g:=gN 3) (b:=wI) (akU M l L S) (ds:=DN 0 L.length) (e:=[some (.ref l),some (.int (S:Int)),some (.tup [.int (S:Int),.int 0,.int 0]),none]) (M:=M)
  ⟨rfl,_,rfl⟩ (λ_ _ _ _ _=>trivial) λi d e M' hd p=>by
   obtain⟨pm,v,rfl⟩:=p
   subst pm
   obtain⟨hi,rfl⟩:=Es hd
   have hn:L[i]? = some (L[i]'hi):=zac hi
   obtain⟨w,hw⟩:∃w,w=L[i]'hi:=⟨_,rfl⟩
   rw[<-hw]at hn
   have tk:L.take (i+1)=L.take i++[w]:=by rw[List.take_succ,hn];rfl
   have tl:(L.take i).length=i:=by rw[List.length_take];omega
   have ix:bh (.ref l) (.int (0+(i:Int))) M= .ok (mV w) M:=by
    rw[Int.zero_add]
    exact jL h () (by rw[zam];exact aer hn)
   have ix':bh (.ref l) (.int (i:Int)) M= .ok (mV w) M:=by rw[<-Int.zero_add (i:Int)];exact ix
   refine⟨_,rfl,?_⟩
   obtain⟨t,x⟩:=w
   simp only[wI,Ft]
   cases x with
   | LC p q=>
    simp[ix',mV,Wh.d]
    exact⟨rfl,some (.int (i:Int)),by rw[tk,Wv,Er,tl];simp[Wh.Xd]⟩
   | st=>
    simp[ix',mV,Wh.d,aao]
    exact⟨rfl,some (.int (i:Int)),by rw[tk,Je rfl,Er];simp[Wh.Xd]⟩
   | ask p q o=>
    simp[ix',mV,Wh.d,acD]
    exact⟨rfl,some (.int (i:Int)),by rw[tk,Je rfl,Er];simp[Wh.Xd]⟩
 subst hm
 have tl:(DN 0 L.length).length=L.length:=Wu
 rw[tl,List.take_of_length_le (zab _)]at lp
 simp only[rZ,Dp,FN]
 have rg:Mf [.int (L.length:Int)] M= .ok ⟨none,DN 0 L.length⟩ M:=Et () ()
 simp[ln,rg,lp]
end
def hds(c:Nat):List Nat:=[c,c+11,c+22,c+33,c+44]
theorem xT(hc:c<16)(hh:h∈hds c):h<60:=by
 simp[hds]at hh
 omega
theorem Fy(hi:i<5):(hds c)[i]? = some (c+11*i):=by
 match i,hi with
 | 0,_=>rfl
 | 1,_=>rfl
 | 2,_=>rfl
 | 3,_=>rfl
 | 4,_=>rfl
def fs(c:Nat):Nat:=HM.setOf (hds c)
def Sub(c p:Nat):Prop:=∀j,p.testBit j=true->j∈hds c
theorem K3:(fs c).testBit j=decide (j∈hds c):=HM.B_ _ _
theorem ab1(hc:c<16):fs c<2 ^ 60:=HM.aat _ λ_ hx=>xT hc hx
theorem Vu:Sub c (fs c):=λj h=>by rw[K3]at h;exact zah h
theorem sub_zero:Sub c 0:=λj h=>by rw[Nat.zero_testBit]at h;cases h
theorem Sub.and(h:Sub c p):fs c &&& p=p:=by
 apply Nat.eq_of_testBit_eq
 intro j
 rw[Nat.testBit_and,K3]
 cases z:p.testBit j with
 | false=>simp
 | true=>simp[h j z]
theorem Sub.lt(hc:c<16)(h:Sub c p):p<2 ^ 60:=by
 have:=Nat.and_le_left (n:=fs c) (m:=p)
 rw[h.and]at this
 exact Nat.lt_of_le_of_lt this (ab1 hc)
theorem T6(hc:c<16)(h:Sub c p)(h0:p≠0):yr (fs c) p false=true:=by
 unfold yr
 rw[h.and]
 obtain⟨j,hj⟩:=Nat.exists_testBit_of_ne_zero h0
 have:0<HM.cnt p:=List.length_pos_of_mem (HM.zW.mpr ⟨xT hc (h j hj),hj⟩)
 simp
 omega
theorem V3{s:BO}{c p q:Nat}(hc:c<16)(h1:Sub c p)(h0:p≠0)(h2:Sub c q)(r:s.r4=true):s.won (fs c) p q=true:=by
 unfold BO.won
 have e:=T6 hc h1 h0
 rw[r]
 by_cases z:q=0
 ·simp[e,z]
 ·have e2:=T6 hc h2 z
  simp[e,e2]
theorem aeV(hP:P<2 ^ m)(hn:n<=1)(j:Nat):(P+n*2 ^ m).testBit j=(P.testBit j||(decide (n=1)&&decide (j=m))):=by
 have q:=Nat.two_pow_add_eq_or_of_lt hP n
 have e:P+n*2 ^ m=2 ^ m*n ||| P:=by rw[<-q,Nat.mul_comm,Nat.add_comm]
 rw[e,Nat.testBit_or]
 have:n=0\/n=1:=()
 rcases this with rfl | rfl
 ·simp
 ·rw[Nat.mul_one,Nat.testBit_two_pow,Bool.or_comm]
  by_cases z:m=j
  ·simp[z]
  ·have z':¬j=m:=λw=>z w.symm
   simp[z,z']
structure akO(M0:Mem)(c hl:Nat)(x:Int)(i:Nat)(e:Sl)(M:Mem):Prop where
 m:M0=M
 e:∃(P:Nat) (v:Option D),e=[some (.int x),some (.ref hl),some (.int (P:Int)),v]/\P<2 ^ (c+11*i)/\Sub c P/\(x=31->∀k,k<i->P.testBit (c+11*k)=true)
section
variable{M:Mem}
theorem r5:Mf [.int 5] M= .ok ⟨none,DN 0 5⟩ M:=Et () ()
theorem akH(hi:i<5):Builtin.bitAnd ((31:Int) / 2 ^ i) 1=1:=by
 match i,hi with
 | 0,_=>rfl
 | 1,_=>rfl
 | 2,_=>rfl
 | 3,_=>rfl
 | 4,_=>rfl
theorem Jl(hc:c<16)(hM:M[hl]? = some (.lst (hv (hds c))))(x:Int):∃P:Nat,q_ [.int x,.ref hl] M= .ok (.int (P:Int)) M/\Sub c P/\(x=31->P=fs c):=by
 obtain⟨e',M1,lp,hm,P,v,rfl,h1,h2,h3⟩:=oW (src:=none) (g:=gN 3) (b:=yV) (akO M c hl x) (ds:=DN 0 5) (e:=[some (.int x),some (.ref hl),some (.int 0),none]) (M:=M)
  ⟨rfl,0,none,rfl,Nat.two_pow_pos _,sub_zero,λ_ k h=>absurd h (Nat.not_lt_zero _)⟩ (λ_ _ _ _ _=>trivial) λi d e M' hd p=>by
   obtain⟨pm,P,v,rfl,h1,h2,h3⟩:=p
   subst pm
   obtain⟨hi,rfl⟩:=Es hd
   obtain⟨n,hn,hn1⟩:=HM.Zn (x / 2 ^ i) 1
   have hn':Builtin.bitAnd (x / 2 ^ i) 1=(n:Int):=hn
   have ix:bh (.ref hl) (.int (i:Int)) M= .ok (.int ((c:Int)+11*(i:Int))) M:=by
    refine jL hM () ?_
    simp only[hv,zan,zam,Fy hi]
    simp
   have sh:CP (.int (n:Int)) (.int ((c:Int)+11*(i:Int))) M= .ok (.int ((n:Int)*2 ^ (c+11*i))) M:=by
    rw[Jd ⟨(),(),()⟩,show((c:Int)+11*(i:Int)).toNat=c+11*i by omega]
   have sr:aaz (.int x) (.int (i:Int)) M= .ok (.int (x / 2 ^ i)) M:=by
    rw[ade (),zam]
   refine⟨_,rfl,?_⟩
   simp only[yV]
   simp[sr,hn',ix,sh]
   have pc:(P:Int)+(n:Int)*2 ^ (c+11*i)=((P+n*2 ^ (c+11*i):Nat):Int):=by simp
   have ab:=aeV h1 hn1
   refine⟨rfl,P+n*2 ^ (c+11*i),some (.int (i:Int)),by rw[pc],?_,?_,?_⟩
   ·have:n*2 ^ (c+11*i)<=1*2 ^ (c+11*i):=Nat.mul_le_mul_right _ hn1
    have q:2 ^ (c+11*i+1)<=2 ^ (c+11*(i+1)):=Nat.pow_le_pow_right (by decide) ()
    rw[Nat.pow_succ]at q
    omega
   ·intro j hj
    rw[ab]at hj
    simp at hj
    rcases hj with hj | ⟨_,rfl⟩
    ·exact h2 j hj
    ·exact jS (Fy hi)
   ·intro hx k hk
    rw[ab]
    rcases Nat.lt_or_eq_of_le (Nat.le_of_lt_succ hk)with z | z
    ·rw[h3 hx k z];rfl
    ·subst z
     rw[hx,akH hi]at hn'
     have:n=1:=()
     simp[this]
 subst hm
 refine⟨P,?_,h2,λhx=> ?_⟩
 ·simp only[q_,GR,HB]
  simp[r5,lp]
 ·apply Nat.eq_of_testBit_eq
  intro j
  rw[K3]
  cases z:P.testBit j with
  | true=>simp[h2 j z]
  | false=>
   symm
   rw[decide_eq_false_iff_not]
   intro hj
   have h5:(DN 0 5).length=5:=Wu
   have hh:=h3 hx
   rw[h5]at hh
   simp[hds]at hj
   rcases hj with rfl | rfl | rfl | rfl | rfl
   ·have:=hh 0 ();rw[Nat.mul_zero,Nat.add_zero]at this;rw[this]at z;cases z
   ·have:=hh 1 ();rw[this]at z;cases z
   ·have:=hh 2 ();rw[this]at z;cases z
   ·have:=hh 3 ();rw[this]at z;cases z
   ·have:=hh 4 ();rw[this]at z;cases z
structure akR(M0:Mem)(n:Int)(i:Nat)(e:Sl)(M:Mem):Prop where
 m:M0=M
 e:∃(s:Str) (v:Option D),e=[some (.int n),some (.str s),v]/\s.length=i
theorem S9(n:Int):∃s:Str,su [.int n] M= .ok (.str s) M:=by
 obtain⟨k,hk⟩:∃k:Nat,1+n % 8=(k:Int):=⟨(1+n % 8).toNat,()⟩
 obtain⟨e',M1,lp,hm,s,v,rfl,_⟩:=oW (src:=none) (g:=gN 2) (b:=wJ) (akR M n) (ds:=DN 0 k) (e:=[some (.int n),some (.str ""),none]) (M:=M)
  ⟨rfl,"",none,rfl,by decide +kernel⟩ (λ_ _ _ _ _=>trivial) λi d e M' hd p=>by
   obtain⟨pm,s,v,rfl,hs⟩:=p
   subst pm
   obtain⟨hi,rfl⟩:=Es hd
   refine⟨_,rfl,?_⟩
   have mu:O8 (.int 5) (.int (i:Int)) M= .ok (.int (5*(i:Int))) M:=JX (.inl ())
   have dv:rP (.int n) (.int (8+5*(i:Int))) M= .ok (.int (n / (8+5*(i:Int)))) M:=vJ () ()
   obtain⟨z,hz⟩:∃z,z=n / (8+5*(i:Int)):=⟨_,rfl⟩
   rw[<-hz]at dv
   have md:iW (.int z) (.int 26) M= .ok (.int (z % 26)) M:=mZ ()
   have hl:(z % 26).toNat<(Str.ofString "abcdefghijklmnopqrstuvwxyz").cps.toList.length:=by
    have:(Str.ofString "abcdefghijklmnopqrstuvwxyz").cps.toList.length=26:=by decide +kernel
    omega
   have ix:bh (.str "abcdefghijklmnopqrstuvwxyz") (.int (z % 26)) M= .ok (.str ⟨#[(Str.ofString "abcdefghijklmnopqrstuvwxyz").cps.toList[(z % 26).toNat]]⟩) M:=ado () (zac hl) (by decide +kernel)
   obtain⟨c,hc⟩:∃c,c=(Str.ofString "abcdefghijklmnopqrstuvwxyz").cps.toList[(z % 26).toNat]:=⟨_,rfl⟩
   rw[<-hc]at ix
   have lc:(⟨#[c]⟩:Str).length=1:=rfl
   have a1:rQ (.str s) (.str ⟨#[c]⟩) M= .ok (.str (s++⟨#[c]⟩)) M:=aaJ ()
   simp only[wJ]
   simp[mu,dv,md,ix,a1]
   exact⟨rfl,s++⟨#[c]⟩,some (.int (i:Int)),rfl,by rw[Uk];omega⟩
 subst hm
 refine⟨s,?_⟩
 have md:iW (.int n) (.int 8) M= .ok (.int (n % 8)) M:=mZ ()
 have rg:Mf [.int (k:Int)] M= .ok ⟨none,DN 0 k⟩ M:=Et () ()
 simp only[su,Dq,FP]
 simp[md,hk,rg,lp]
def WIn(c:Nat):Wh->Prop
 | .LC p q=>Sub c p/\Sub c q
 | _=>True
theorem abz(hc:c<16)(hM:M[hl]? = some (.lst (hv (hds c))))(hp:Sub c p)(hq:Sub c q)(x:Int):
  ∃(w:Wh) (M':Mem),iB [.int x,.tup [.int (p:Int),.int (q:Int),.int (k:Int)],.ref hl] M= .ok w.d M'/\Gr M M'/\WOk w/\WIn c w:=by
 have md:∀(z j:Int) (M:Mem),0<j->iW (.int z) (.int j) M= .ok (.int (z % j)) M:=λz j M h=>mZ h
 have dv:∀(z j:Int) (M:Mem),0<j->j<1073741824->rP (.int z) (.int j) M= .ok (.int (z / j)) M:=λz j M h h'=>vJ h h'
 obtain⟨T,hT⟩:∃T:Int,T=10 ^ 40:=⟨_,rfl⟩
 have hT0:0<T:=by rw[hT];decide
 have pw:∀M:Mem,O7 (.int 10) (.int 40) M= .ok (.int T) M:=λM=>by rw[RV ⟨(),(),by decide⟩,hT];rfl
 clear hT
 obtain⟨r,hr⟩:∃r,r=x / 8:=⟨_,rfl⟩
 by_cases z1:x % 8<2
 ·refine⟨.st,M,?_,Gr.refl,trivial,trivial⟩
  simp only[iB,jB,iD]
  simp[md,dv,z1,Wh.d]
 ·by_cases z2:x % 8<5
  ·obtain⟨s,e1⟩:=S9 (M:=M) r
   obtain⟨M1,hM1⟩:∃M1:Mem,M1=M++[.lst [.tup [.str "put",.str s,.int (r % T)],.tup [.str "add",.str s,.int (-(r % T))]]]:=⟨_,rfl⟩
   have g1:Gr M M1:=by rw[hM1];exact Gr.app
   obtain⟨s2,e2⟩:=S9 (M:=M1) r
   obtain⟨o,e3,ho⟩:∃o,bh (.ref M.length) (.int (r % 2)) M1= .ok o M1/\∃t,∀(k:Nat) (M:Mem),eG M (k+2) o=some t:=by
    have h1:M1[M.length]? = some (.lst [.tup [.str "put",.str s,.int (r % T)],.tup [.str "add",.str s,.int (-(r % T))]]):=by rw[hM1];exact cF
    have:r % 2=0\/r % 2=1:=()
    rcases this with e | e<;>rw[e]
    ·exact⟨_,jL h1 () rfl,_,λ_ _=>rfl⟩
    ·exact⟨_,jL h1 () rfl,_,λ_ _=>rfl⟩
   by_cases z5:r % 3=0
   ·refine⟨.ask (r / 2 % T) (r / 7 % T) (.tup [.str "swap",.str s2,.int (r % T),.int (r % 7)]),M1,?_,g1,⟨_,λ_ _=>rfl⟩,trivial⟩
    simp only[iB,jB,iD,xP,jR]
    simp[md,dv,z1,z2,<-hr,pw,hT0,e1,<-hM1,e3,z5,e2,Wh.d]
   ·refine⟨.ask (r / 2 % T) (r / 7 % T) o,M1,?_,g1,ho,trivial⟩
    simp only[iB,jB,iD,xP,jR]
    simp[md,dv,z1,z2,<-hr,pw,hT0,e1,<-hM1,e3,z5,Wh.d]
  ·by_cases z3:x % 8=5
   ·obtain⟨P,e1,s1,_⟩:=Jl hc hM (1+r % 31)
    obtain⟨Q,e2,s2,_⟩:=Jl hc hM (r / 31 % 32)
    refine⟨.LC P Q,M,?_,Gr.refl,trivial,s1,s2⟩
    simp only[iB,jB,iD,jR,qU]
    simp[md,dv,z1,z2,z3,<-hr,e1,e2,Wh.d]
   ·by_cases z4:q=0
    ·obtain⟨Q,e2,s2,_⟩:=Jl hc hM (r % 32)
     refine⟨.LC p Q,M,?_,Gr.refl,trivial,hp,s2⟩
     simp only[iB,jB,iD,jR,qU,xN]
     simp[md,dv,z1,z2,z3,<-hr,z4,e2,Wh.d]
    ·refine⟨.LC q 0,M,?_,Gr.refl,trivial,hq,sub_zero⟩
     simp only[iB,jB,iD,jR,qU,xN]
     simp[md,dv,z1,z2,z3,z4,Wh.d]
end
theorem aab{α:Type}{xs L:List α}{n:Nat}(h:xs <+: L)(hn:n<=xs.length):xs.take n=L.take n:=by
 obtain⟨t,rfl⟩:=h
 exact(List.take_append_of_le_length hn).symm
theorem ahy{κ α:Type}[DecidableEq κ]{l:List (κ×α)}{k:κ}{x:α}{p:κ×α}(h:p∈gp l k x):p=(k,x)\/p∈l:=by
 unfold gp at h
 split at h
 ·obtain⟨q,hq,rfl⟩:=List.mem_map.mp h
  split
  ·rename_i z;exact .inl (by rw[z])
  ·exact .inr hq
 ·rcases List.mem_append.mp h with z | z
  ·exact .inr z
  ·exact .inl (List.mem_singleton.mp z)
theorem ahz{κ α:Type}[DecidableEq κ]{l:List (κ×α)}{k:κ}{x:α}:(k,x)∈gp l k x:=by
 unfold gp
 split
 ·rename_i z
  obtain⟨p,hp,hk⟩:=List.any_eq_true.mp z
  have hk:=zah hk
  exact List.mem_map.mpr ⟨p,hp,by rw[if_pos hk,hk]⟩
 ·exact xE _ xB
theorem ahu{κ α:Type}[DecidableEq κ]{l:List (κ×α)}{k:κ}{x:α}(h:gv l k=some x):(k,x)∈l:=by
 induction l with
 | nil=>cases h
 | cons p l ih=>
  rw[qW]at h
  split at h
  ·rename_i z
   cases h
   rw[<-z]
   exact xB
  ·exact yT _ (ih h)
theorem ag5{xs:List Int}{m:Nat}(h:∀x∈xs,0<=x/\x<=(m:Int))(e:m=0\/(m:Int)∈xs):maxD 0 xs=(m:Int):=by
 cases xs with
 | nil=>
  rcases e with e | e
  ·rw[e];rfl
  ·cases e
 | cons n l=>
  show lW n l=_
  have h1:=h n xB
  have up:lW n l<=(m:Int):=by
   rcases Dm l n with z | z
   ·rw[z];exact h1.2
   ·exact(h _ (yT _ z)).2
  have lo:(m:Int)<=lW n l:=by
   rcases e with e | e
   ·have:=Bu l n
    omega
   ·rcases List.mem_cons.mp e with z | z
    ·rw[z];exact Bu l n
    ·exact Lk l n _ z
  omega
structure Cv(c:Nat)(L:List En)(T:Int)(m:Nat)(s:BO):Prop where
 S:s.S=fs c
 r1:s.r1=true
 r4:s.r4=true
 br:s.br= .non
 ok:∀e∈L,Ly e
 so:L.Pairwise λa b=>a.1<=b.1
 tT:∀e∈L,0<=e.1/\e.1<=T
 T1:1<=T
 ln:∀t,s.line t <+: L
 ro:∀h,s.row h <+: L
 he:∀t h,s.head t=some h->t<=T/\h∈hds c
 lT:∀t,(gv s.ln t).isSome=true->t<=T
 mo:∀t u,t<=u->(gv s.ln t).isSome=true->(gv s.ln u).isSome=true->(s.line t).length<=(s.line u).length
 ma:∀t,s.mark t<=(s.line t).length
 mm:∀p∈s.mr,p.1<=T/\p.2<=m
 me:m=0\/∃p∈s.mr,p.2=m
 mL:m<=L.length
 r0:(mQ L s.S).1≠0
 ra:Sub c (mQ L s.S).1
 rb:Sub c (mQ L s.S).2
section
variable{c:Nat}{L:List En}{T:Int}{m:Nat}{s:BO}
theorem Cv.kp(h:Cv c L T m s):Kp s:=by
 refine⟨λt e he=>h.ok e ((h.ln t).subset he),λt u htu ht hu=> ?_⟩
 have a:=h.ma t
 have b:=h.mo t u htu ht hu
 rw[aab (h.ln t) a,aab (h.ln u) (yY a b)]
theorem Cv.rok(h:Cv c L T m s)(k:Nat):∀e∈s.row k,Ly e:=λe he=>h.ok e ((h.ro k).subset he)
theorem Cv.lok(h:Cv c L T m s)(t:Int):∀e∈s.line t,Ly e:=λe he=>h.ok e ((h.ln t).subset he)
theorem Cv.up(h:Cv c L T m s)(ht:T<=t):s.upTo t=(m:Int):=by
 refine ag5 (λx hx=> ?_) (h.me.imp id λ⟨p,hp,e⟩=> ?_)
 ·obtain⟨p,hp,rfl⟩:=List.mem_map.mp hx
  have:=h.mm p (List.mem_filter.mp hp).1
  omega
 ·have:=(h.mm p hp).1
  exact List.mem_map.mpr ⟨p,List.mem_filter.mpr ⟨hp,zag ()⟩,by rw[e]⟩
theorem Cv.ag7(h:Cv c L T m s)(t:Int):s.mark t<=m:=by
 unfold BO.mark
 cases z:gv s.mr t with
 | none=>exact Nat.zero_le _
 | some x=>exact(h.mm _ (ahu z)).2
theorem Cv.NQ(h:Cv c L T m s)(ht:T<t):s.head t=none:=by
 cases z:s.head t with
 | none=>rfl
 | some k=>
  have:=(h.he t k z).1
  omega
theorem Cv.ahG(h:Cv c L T m s)(hx:xs <+: L):X3.Nx [(mU xs).1,((mU xs).2:Int)] [(mU L).1,((mU L).2:Int)]=true:=by
 have so:=h.so
 have tT:=h.tT
 clear h
 obtain⟨t,rfl⟩:=hx
 rcases List.eq_nil_or_concat t with rfl | ⟨t',y,rfl⟩
 ·simp[X3.Nx]
 ·have eL:mU (xs++t'.concat y)=(y.1,(xs++t'.concat y).length):=by
   unfold mU
   simp
  rw[eL]
  rcases List.eq_nil_or_concat xs with rfl | ⟨x',z,rfl⟩
  ·have:=(tT y (by simp)).1
   simp[X3.Nx,mU]
   split
   ·omega
   ·exact zag this
  ·have eX:mU (x'.concat z)=(z.1,(x'.concat z).length):=by
    unfold mU
    simp
   rw[eX]
   have q:z.1<=y.1:=(List.pairwise_append.mp so).2.2 z (by simp) y (by simp)
   simp[X3.Nx]
   split
   ·omega
   ·exact q
theorem Cv.led(h:Cv c L T m s)(hl:s.line T=L)(k:Nat):s.led k T L.length=L:=by
 have p:=h.ro k
 unfold BO.led
 rw[hl,List.take_length,List.take_of_length_le p.length_le]
 split
 ·rename_i z;exact p.eq_of_length z
 ·rfl
theorem Cv.anc(h:Cv c L T m s)(hl:s.line T=L)(k:Nat):((s.row k).take L.length).length=((s.line T).take L.length).length->(s.row k).take L.length=(s.line T).take L.length:=by
 have p:=h.ro k
 rw[hl,List.take_length,List.take_of_length_le p.length_le]
 exact p.eq_of_length
end
structure Lg(n j:Nat)(s:BO):Prop where
 tm:s.tm.length<=n
 vt:s.vt.length<=n
 ak:s.ak.length<=n
 ro:s.ro.length<=n
 pl:s.pl.length<=n
 hd:s.hd.length<=n
 se:s.se.length<=j
 ln:s.ln.length<=j
 mr:s.mr.length<=j
structure Iv(c:Nat)(L:List En)(k:Nat)(T:Int)(m:Nat)(s:BO):Prop where
 v:Cv c L T m s
 lT:gv s.ln T=some L
 rk:s.row k=L
 kh:k∈hds c
 hd:s.head T=some k
 tm:∀h∈hds c,s.term h=T
 vt:∀h t,T<t->s.Gg h t=0
structure tU(M:Mem)(a:BA)(s:BO)(hl ll sl c:Nat)(cs:List Int)(L:List En):Prop where
 b:b7 M a s
 hs:M[hl]? = some (.lst (hv (hds c)))
 ln:M[ll]? = some (.lst (L.map mV))
 sc:M[sl]? = some (.lst (cs.map D.int))
 o:hl<a.b/\a.sn<ll/\ll<sl
section
variable{M M':Mem}{a:BA}{s s':BO}{hl ll sl c:Nat}{cs:List Int}{L:List En}{T T':Int}{m n j k:Nat}
theorem tU.bx(h:tU M a s hl ll sl c cs L)(x:Bx M a s' M'):tU M' a s' hl ll sl c cs L:=by
 obtain⟨o1,o2,o3⟩:=h.o
 exact⟨x.h,x.c.2 _ _ (λz=>Nat.not_lt.mpr z.1 o1) h.hs,x.c.2 _ _ (λz=>Nat.not_lt.mpr z.2 o2) h.ln,x.c.2 _ _ (λz=>Nat.not_lt.mpr z.2 (Nat.lt_trans o2 o3)) h.sc,h.o⟩
theorem tU.gr(h:tU M a s hl ll sl c cs L)(g:Gr M M'):tU M' a s hl ll sl c cs L:=h.bx (Bx.gr h.b g)
theorem aeh(h:x<=n)(hn:n<=800):x<=1000:=()
theorem ahc(h:x<=n)(hn:n<=800):x<=900:=()
theorem Lg.few(g:Lg n j s)(hn:n<=800)(hj:j<=50):Few s:=⟨ahc g.tm hn,ahc g.vt hn,ahc g.ak hn,by have:=g.se;omega,by have:=g.ln;omega⟩
theorem Lg.anN(g:Lg n j s)(hn:n<=800):ak2 s:=⟨aeh g.tm hn,aeh g.ro hn,aeh g.pl hn,aeh g.hd hn⟩
theorem yp{κ α:Type}[DecidableEq κ]{l:List (κ×α)}{k:κ}{x:α}(h:l.length<=n):(gp l k x).length<=n+1:=yY abY (Nat.succ_le_succ h)
theorem gvD{κ α:Type}[DecidableEq κ]{l:List (κ×α)}{k k':κ}{x d:α}:(gv (gp l k x) k').getD d=if k'=k then x else(gv l k').getD d:=by
 rw[Hy]
 split<;>rfl
theorem Iv.line(h:Iv c L k T m s):s.line T=L:=by unfold BO.line;rw[h.lT];rfl
theorem Iv.told(h:Iv c L k T m s)(hx:k≠x):Iv c L k T m (s.told x T L.length):=by
 have v:=h.v
 have r:∀y,(s.told x T L.length).row y=if y=x then L else s.row y:=λy=>by
  show(gv (gp s.ro x (s.led x T L.length)) y).getD []=_
  rw[gvD,v.led h.line]
  rfl
 refine⟨⟨v.S,v.r1,v.r4,v.br,v.ok,v.so,v.tT,v.T1,v.ln,λy=> ?_,v.he,v.lT,v.mo,v.ma,v.mm,v.me,v.mL,v.r0,v.ra,v.rb⟩,h.lT,?_,h.kh,h.hd,λy hy=> ?_,h.vt⟩
 ·rw[r]
  split
  ·exact List.prefix_refl _
  ·exact v.ro y
 ·rw[r,if_neg hx];exact h.rk
 ·show(gv (gp s.tm x T) y).getD 0=T
  rw[gvD]
  split
  ·rfl
  ·exact h.tm y hy
theorem Lg.told(g:Lg n j s)(x p:Nat):Lg (n+1) j (s.told x T p):=⟨yp g.tm,wP g.vt,wP g.ak,yp g.ro,yp g.pl,yp g.hd,g.se,g.ln,g.mr⟩
theorem V6(l:tU M a s hl ll sl c cs L)(h:Iv c L k T m s)(g:Lg n j s)(hn:n<=800)(hh:x∈hds c)(hx:k≠x):
  ∃M',aM [.ref a.b,pT x T L.length] M= .ok .non M'/\tU M' a (s.told x T L.length) hl ll sl c cs L:=by
 obtain⟨M',e,b⟩:=afT l.b (g.anN hn) (by rw[h.v.br];rfl) (p:=L.length) h.v.T1 h.hd hx (Int.le_of_eq (h.tm x hh)) (by rw[h.line];exact zab _) (h.v.lok T) (h.v.rok x) (h.v.anc h.line x)
 exact⟨M',e,l.bx b⟩
theorem Z7(h:Iv c L k T m s)(x:Nat):(s.told x T L.length).row x=L:=by
 show(gv (gp s.ro x (s.led x T L.length)) x).getD []=_
 rw[gvD,if_pos rfl,h.v.led h.line]
theorem Z8:p<=(s.told x T p).Np x T:=by
 show p<=(gv (gp s.pl (x,T) (max p (s.Np x T))) (x,T)).getD 0
 rw[gvD,if_pos rfl]
 exact Nat.le_max_left _ _
theorem Rm(h:y≠x):(s.told x T p).Np y T=s.Np y T:=by
 show(gv (gp s.pl (x,T) (max p (s.Np x T))) (y,T)).getD 0=_
 rw[gvD,if_neg λz=>h (Prod.mk.inj z).1]
 rfl
structure Mv(c:Nat)(L:List En)(T:Int)(m:Nat)(T':Int)(w:Nat)(dn:Nat->Prop)(s:BO):Prop where
 v:Cv c L T m s
 rw:s.row w=L
 y:∀h∈hds c,dn h->s.term h=T'/\(s.Gg h T').testBit w=true
 n:∀h∈hds c,¬dn h->s.term h<=T/\s.Gg h T'=0
 vt:∀h t,T'<t->s.Gg h t=0
 as:s.ask w T'=some (mU L)
variable{w:Nat}{dn dn':Nat->Prop}
theorem Mv.congr(h:Mv c L T m T' w dn s)(e:∀x∈hds c,(dn x↔dn' x)):Mv c L T m T' w dn' s:=
 ⟨h.v,h.rw,λx hx d=>h.y x hx ((e x hx).mpr d),λx hx d=>h.n x hx λz=>d ((e x hx).mp z),h.vt,h.as⟩
def cst(s:BO)(h:Nat)(t:Int)(w:Nat):BO:={s with cnt:=s.cnt+1}.cast h t w (mU (s.row h))
theorem Cv.cst(v:Cv c L T m s)(h:Nat)(t:Int)(w:Nat):Cv c L T m (cst s h t w):=
 ⟨v.S,v.r1,v.r4,v.br,v.ok,v.so,v.tT,v.T1,v.ln,v.ro,v.he,v.lT,v.mo,v.ma,v.mm,v.me,v.mL,v.r0,v.ra,v.rb⟩
theorem Lg.cst(g:Lg n j s)(h:Nat)(t:Int)(w:Nat):Lg (n+1) j (cst s h t w):=by
 refine⟨yp g.tm,yp g.vt,?_,wP g.ro,wP g.pl,wP g.hd,g.se,g.ln,g.mr⟩
 show(if w=h then gp s.ak (h,t) _ else s.ak).length<=n+1
 split
 ·exact yp g.ak
 ·exact wP g.ak
theorem Av:(cst s h t w).term x=if x=h then t else s.term x:=by
 show(gv (gp s.tm h t) x).getD 0=_
 rw[gvD]
 rfl
theorem xY:(cst s h t w).Gg x u=if(x,u)=(h,t)then s.Gg h t ||| 2 ^ w else s.Gg x u:=by
 show(gv (gp s.vt (h,t) _) (x,u)).getD 0=_
 rw[gvD]
 rfl
theorem aeB:(cst s h t h).ask h t=some (mU (s.row h)):=by
 show gv (if h=h then gp s.ak (h,t) _ else s.ak) (h,t)=_
 rw[if_pos rfl,Hy,if_pos rfl]
theorem Vz(z:w≠h):(cst s h t w).ask x u=s.ask x u:=by
 show gv (if w=h then gp s.ak (h,t) _ else s.ak) (x,u)=_
 rw[if_neg z]
 rfl
theorem acz(p w:Nat):(p ||| 2 ^ w).testBit w=true:=by rw[Nat.testBit_or,Nat.testBit_two_pow_self,Bool.or_true]
theorem ZZ(l:tU M a s hl ll sl c cs L)(v:Cv c L T m s)(hr:s.row w=L)(tm:∀h∈hds c,s.term h<=T)(vt:∀h t,T<t->s.Gg h t=0)(g:Lg n j s)(hn:n<=800)(hj:j<=50)(hc:c<16)(hw:w∈hds c)(hT:T<T'):
  ∃M',aM [.ref a.b,pV w T' w] M= .ok .non M'/\tU M' a (cst s w T' w) hl ll sl c cs L/\Mv c L T m T' w (· = w) (cst s w T' w):=by
 have t1:=tm w hw
 have T1:=v.T1
 have mv:s.lF w T' w (mU (s.row w))=true:=by
  unfold BO.lF BO.spent
  rw[if_neg]
  ·rw[if_pos rfl];exact zag ()
  ·rw[v.r1,if_pos rfl,vt w T' hT]
   simp
   omega
 obtain⟨M',e,x⟩:=V_ l.b (g.few hn hj) w T' (xT hc hw) (by rw[v.br];rfl) () mv
 refine⟨M',e,l.bx x,v.cst _ _ _,hr,λh hh d=> ?_,λh hh d=> ?_,λh t ht=> ?_,by rw[aeB,hr]⟩
 ·subst d
  rw[Av,if_pos rfl,xY,if_pos rfl]
  exact⟨rfl,acz _ _⟩
 ·rw[Av,if_neg d,xY,if_neg λz=>d (Prod.mk.inj z).1]
  exact⟨tm h hh,vt h T' hT⟩
 ·rw[xY,if_neg λz=>by have:=(Prod.mk.inj z).2;omega]
  exact vt h t ()
theorem ZX(l:tU M a s hl ll sl c cs L)(h:Mv c L T m T' w dn s)(g:Lg n j s)(hn:n<=800)(hj:j<=50)(hc:c<16)(hw:w∈hds c)(hT:T<T')(hx:x∈hds c)(hxw:x≠w)(hd:¬dn x):
  ∃M',aM [.ref a.b,pV x T' w] M= .ok .non M'/\tU M' a (cst s x T' w) hl ll sl c cs L/\Mv c L T m T' w (λy=>dn y\/y=x) (cst s x T' w):=by
 obtain⟨t1,t2⟩:=h.n x hx hd
 have T1:=h.v.T1
 have mv:s.lF x T' w (mU (s.row x))=true:=by
  unfold BO.lF BO.spent
  rw[if_neg]
  ·rw[if_neg (Ne.symm hxw)]
   unfold BO.good
   rw[h.as]
   dsimp only
   rw[h.v.ahG (h.v.ro x),Bool.true_or]
  ·rw[h.v.r1,if_pos rfl,t2]
   simp
   omega
 obtain⟨M',e,b⟩:=V_ l.b (g.few hn hj) x T' (xT hc hw) (by rw[h.v.br];rfl) () mv
 refine⟨M',e,l.bx b,h.v.cst _ _ _,h.rw,λy hy d=> ?_,λy hy d=> ?_,λy t ht=> ?_,by rw[Vz (Ne.symm hxw)];exact h.as⟩
 ·by_cases z:y=x
  ·subst z
   rw[Av,if_pos rfl,xY,if_pos rfl]
   exact⟨rfl,acz _ _⟩
  ·rw[Av,if_neg z,xY,if_neg λq=>z (Prod.mk.inj q).1]
   exact h.y y hy (d.resolve_right z)
 ·have z:¬y=x:=λq=>d (.inr q)
  rw[Av,if_neg z,xY,if_neg λq=>z (Prod.mk.inj q).1]
  exact h.n y hy λq=>d (.inl q)
 ·rw[xY,if_neg λz=>by have:=(Prod.mk.inj z).2;omega]
  exact h.vt y t ht
end
section
variable{M M':Mem}{a:BA}{s s':BO}{hl ll sl c:Nat}{cs:List Int}{L:List En}{T T':Int}{m n j k w:Nat}
def sat(s:BO)(w:Nat)(t:Int):BO:={s with cnt:=s.cnt+1,se:=gp s.se t w,ln:=gp s.ln t (s.row w)}
theorem Ei:(sat s w t).line u=if u=t then s.row w else s.line u:=by
 show(gv (gp s.ln t (s.row w)) u).getD []=_
 rw[gvD]
 rfl
theorem RM:(sat s w t).head u=if u=t then some w else s.head u:=by
 show gv (gp s.se t w) u=_
 rw[Hy]
 rfl
theorem JQ(h:(gv (sat s w t).ln u).isSome=true):u=t\/(gv s.ln u).isSome=true:=by
 have h:(gv (gp s.ln t (s.row w)) u).isSome=true:=h
 rw[Hy]at h
 split at h
 ·exact .inl ‹_›
 ·exact .inr h
theorem Cv.sat(v:Cv c L T m s)(hr:s.row w=L)(hw:w∈hds c)(hT:T<T'):Cv c L T' m (sat s w T'):=by
 refine⟨v.S,v.r1,v.r4,v.br,v.ok,v.so,λe he=> ?_,?_,λt=> ?_,v.ro,λt h e=> ?_,λt e=> ?_,λt u htu ht hu=> ?_,λt=> ?_,λp hp=> ?_,v.me,v.mL,v.r0,v.ra,v.rb⟩
 ·have:=v.tT e he;omega
 ·have:=v.T1;omega
 ·rw[Ei]
  split
  ·rw[hr];exact List.prefix_refl _
  ·exact v.ln t
 ·rw[RM]at e
  split at e
  ·cases e;exact⟨(),hw⟩
  ·have:=v.he t h e
   exact⟨(),this.2⟩
 ·rcases JQ e with z | z
  ·omega
  ·have:=v.lT t z;omega
 ·rw[Ei,Ei]
  by_cases z:u=T'
  ·rw[if_pos z,hr]
   split
   ·exact zab _
   ·exact(v.ln t).length_le
  ·have hu':=(JQ hu).resolve_left z
   have q:=v.lT u hu'
   have z2:¬t=T':=()
   rw[if_neg z,if_neg z2]
   exact v.mo t u htu ((JQ ht).resolve_left z2) hu'
 ·rw[Ei]
  split
  ·rw[hr];exact yY (v.ag7 t) v.mL
  ·exact v.ma t
 ·have:=v.mm p hp;omega
theorem Lg.sat(g:Lg n j s)(w:Nat)(t:Int):Lg n (j+1) (sat s w t):=⟨g.tm,g.vt,g.ak,g.ro,g.pl,g.hd,yp g.se,yp g.ln,wP g.mr⟩
theorem acs(l:tU M a s hl ll sl c cs L)(h:Mv c L T m T' w (λ_=>True) s)(g:Lg n j s)(hn:n<=800)(hj:j<=50)(hc:c<16)(hw:w∈hds c)(hT:T<T'):
  ∃M',aM [.ref a.b,pC w T' (fs c)] M= .ok .non M'/\tU M' a (sat s w T') hl ll sl c cs L/\Iv c L w T' m (sat s w T'):=by
 have v:=h.v
 have T1:=v.T1
 have v':=v.sat h.rw hw hT
 have kp:=v'.kp
 have ra:=v.ra
 have rb:=v.rb
 have mc:s.jn w T' (fs c) (mU (s.row w)) (mQ (s.row w) s.S).1 (mQ (s.row w) s.S).2=true:=by
  unfold BO.jn
  rw[if_neg,if_neg,h.rw]
  ·have va:s.vh (fs c) T' w=true:=List.all_eq_true.mpr λx hx=>(h.y x (Vu x (HM.zW.mp hx).2) trivial).2
   rw[va,V3 hc ra v.r0 rb v.r4]
   rfl
  ·rw[h.as,h.rw];exact λz=>z rfl
  ·rw[(h.y w hw trivial).1,v.NQ hT]
   simp
 have z1:(mQ (s.row w) s.S).1<2 ^ 60:=by rw[h.rw];exact ra.lt hc
 have z2:(mQ (s.row w) s.S).2<2 ^ 60:=by rw[h.rw];exact rb.lt hc
 obtain⟨M',e,x⟩:=ac4 l.b (g.few hn hj) (xT hc hw) (ab1 hc) z1 z2 (by rw[v.br];rfl) () (v.NQ hT) ⟨kp.ok,kp.kp⟩ (by have:=g.ln;omega) mc
 refine⟨M',e,l.bx x,v',?_,h.rw,hw,?_,λy hy=>(h.y y hy trivial).1,h.vt⟩
 ·show gv (gp s.ln T' (s.row w)) T'=_
  rw[Hy,if_pos rfl,h.rw]
 ·rw[RM,if_pos rfl]
structure Vb(c w i V:Nat):Prop where
 b:∀x,V.testBit x=true↔x=w\/(x∈hds c/\x<c+11*i)
theorem Vb.zero:Vb c w 0 (2 ^ w):=⟨λx=>by
 rw[Nat.testBit_two_pow]
 simp[hds]
 constructor
 ·intro z;exact .inl z.symm
 ·intro z;rcases z with z | z<;>omega⟩
theorem KQ(h:x∈hds c)(h2:x<c+11*(i+1)):x<c+11*i\/x=c+11*i:=by
 simp[hds]at h
 omega
theorem Vb.same{c w i V:Nat}(h:Vb c w i V)(e:c+11*i=w):Vb c w (i+1) V:=⟨λx=>by
 rw[h.b]
 constructor
 ·rintro(z | ⟨z,y⟩)
  ·exact .inl z
  ·exact .inr ⟨z,()⟩
 ·rintro(z | ⟨z,y⟩)
  ·exact .inl z
  ·rcases KQ z y with q | q
   ·exact .inr ⟨z,q⟩
   ·exact .inl ()⟩
theorem Vb.more{c w i V:Nat}(h:Vb c w i V)(hi:c+11*i∈hds c):Vb c w (i+1) (V ||| 2 ^ (c+11*i)):=⟨λx=>by
 rw[Nat.testBit_or,Bool.or_eq_true,h.b,Nat.testBit_two_pow,decide_eq_true_eq]
 constructor
 ·rintro((z | ⟨z,y⟩) | z)
  ·exact .inl z
  ·exact .inr ⟨z,()⟩
  ·subst z;exact .inr ⟨hi,()⟩
 ·rintro(z | ⟨z,y⟩)
  ·exact .inl (.inl z)
  ·rcases KQ z y with q | q
   ·exact .inl (.inr ⟨z,q⟩)
   ·exact .inr q.symm⟩
theorem Vb.all{c w V:Nat}(h:Vb c w 5 V)(hw:w∈hds c):V=fs c:=by
 apply Nat.eq_of_testBit_eq
 intro x
 rw[K3,Bool.eq_iff_iff,h.b,decide_eq_true_eq]
 constructor
 ·rintro(z | ⟨z,y⟩)
  ·subst z;exact hw
  ·exact z
 ·intro z
  exact .inr ⟨z,by simp[hds]at z;omega⟩
theorem adf(h:w<60):CP (.int 1) (.int (w:Int)) M= .ok (.int ((2 ^ w:Nat):Int)) M:=by
 rw[Jd ⟨(),(),by decide⟩]
 simp
theorem afp{p q:Nat}:sOr (.int (p:Int)) (.int (q:Int)) M= .ok (.int ((p ||| q:Nat):Int)) M:=by
 have:=HM.QS p q
 simp[this]
structure acO(a:BA)(hl ll sl c:Nat)(cs:List Int)(L:List En)(T:Int)(m n j:Nat)(T':Int)(w:Nat)(last:D)(i:Nat)(e:Sl)(M:Mem):Prop where
 h:∃(s:BO) (V:Nat) (v:Option D),e=[some (.ref a.b),some (.ref hl),some (.int (w:Int)),some (.int T'),some last,some (.int (L.length:Int)),some (.int (V:Int)),v]/\Vb c w i V/\tU M a s hl ll sl c cs L/\Mv c L T m T' w (λx=>x=w\/x<c+11*i) s/\Lg (n+i) j s
theorem aeG(hn:n<=700)(hj:j<=50)(hc:c<16)(hw:w∈hds c)(hT:T<T')(hd:(hv (hds c))[i]? = some d)(p:acO a hl ll sl c cs L T m n j T' w last i e M):
  ∃e1,gN 7 d e=some e1/\(pI e1 M).to (acO a hl ll sl c cs L T m n j T' w last (i+1)) λ_ _=>False:=by
 obtain⟨s,V,v,rfl,vb,l,mv,g⟩:=p
 have hi:i<5:=by
  have:=(List.getElem?_eq_some_iff.mp hd).1
  simpa[hv,hds]using this
 have hg:=Fy (c:=c) hi
 have hm:=jS hg
 obtain rfl:D.int ((c+11*i:Nat):Int)=d:=by
  simp only[hv,zan,hg]at hd
  exact xI hd
 obtain⟨x,hx⟩:∃x,x=c+11*i:=⟨_,rfl⟩
 refine⟨_,rfl,?_⟩
 simp only[pI,Cp]
 rw[<-hx]at hm ⊢
 have dd:∀y∈hds c,((y=w\/y<c+11*i)\/y=x↔(y=w\/y<c+11*(i+1))):=λy hy=>by
  constructor
  ·rintro((z | z) | z)
   ·exact .inl z
   ·exact .inr ()
   ·exact .inr ()
  ·rintro(z | z)
   ·exact .inl (.inl z)
   ·rcases KQ hy z with q | q
    ·exact .inl (.inr q)
    ·exact .inr ()
 by_cases z:x=w
 ·have z':(x:Int)=(w:Int):=()
  simp[z']
  exact⟨s,V,_,rfl,vb.same (),l,mv.congr λy hy=>by
   rw[<-dd y hy]
   exact⟨.inl,λq=>q.elim id λr=> .inl (r.trans z)⟩,⟨wP g.tm,wP g.vt,wP g.ak,wP g.ro,wP g.pl,wP g.hd,g.se,g.ln,g.mr⟩⟩
 ·have z':¬((x:Int)=(w:Int)):=()
  obtain⟨M1,e1,l1,m1⟩:=ZX l mv g () hj hc hw hT hm z ()
  have sh:=adf (M:=M1) (xT hc hm)
  have so:=afp (M:=M1) (p:=V) (q:=2 ^ x)
  have e1':aM [.ref a.b,.tup [.str "vote",.int (x:Int),.int T',.int (w:Int)]] M= .ok .non M1:=e1
  simp at sh so
  simp[z',l.b.Gh (m:= "take") rfl,e1',sh,so]
  exact⟨_,V ||| 2 ^ x,some (.int (x:Int)),rfl,by rw[hx];exact vb.more (by rw[<-hx];exact hm),l1,m1.congr dd,g.cst _ _ _⟩
theorem Lg.mono(g:Lg n j s):Lg (n+1) j s:=⟨wP g.tm,wP g.vt,wP g.ak,wP g.ro,wP g.pl,wP g.hd,g.se,g.ln,g.mr⟩
structure Pr(c:Nat)(L:List En)(T:Int)(m:Nat)(s:BO):Prop where
 v:Cv c L T m s
 tm:∀h∈hds c,s.term h<=T
 vt:∀h t,T<t->s.Gg h t=0
theorem Iv.pr(h:Iv c L k T m s):Pr c L T m s:=⟨h.v,λx hx=>Int.le_of_eq (h.tm x hx),h.vt⟩
def Las(c:Nat)(L:List En)(T:Int)(m:Nat)(s:BO)(last:D):Prop:=(last= .non/\L=[]/\Pr c L T m s)\/∃k:Nat,last= .tup [.int (k:Int),.int T]/\Iv c L k T m s
def chE(a:BA)(hl w:Nat)(T':Int)(last:D)(L:List En)(v6 v7:Option D):Sl:=[some (.ref a.b),some (.ref hl),some (.int (w:Int)),some (.int T'),some last,some (.int (L.length:Int)),v6,v7]
theorem ahQ(l:tU M a s hl ll sl c cs L)(h:Las c L T m s last)(g:Lg n j s)(hn:n<=700)(hw:w∈hds c):
  ∃s1 M1,lg (chE a hl w T' last L none none) M= .next (chE a hl w T' last L none none) M1/\tU M1 a s1 hl ll sl c cs L/\Pr c L T m s1/\s1.row w=L/\Lg (n+1) j s1:=by
 rcases h with⟨rfl,rfl,p⟩ | ⟨k,rfl,iv⟩
 ·refine⟨s,M,?_,l,p,List.prefix_nil.mp (p.v.ro w),g.mono⟩
  simp only[lg,chE]
  simp
 ·by_cases z:k=w
  ·subst z
   refine⟨s,M,?_,l,iv.pr,iv.rk,g.mono⟩
   simp only[lg,chE]
   simp
  ·obtain⟨M1,e1,l1⟩:=V6 l iv g () hw z
   have e1':aM [.ref a.b,.tup [.str "told",.int (w:Int),.int T,.int (L.length:Int),.int 0]] M= .ok .non M1:=e1
   have z':¬((k:Int)=(w:Int)):=()
   refine⟨_,M1,?_,l1,(iv.told z).pr,Z7 iv w,g.told w _⟩
   simp only[lg,chE]
   simp[z',l.b.Gh (m:= "take") rfl,e1']
theorem jl{s t:MS}{e e':Sl}{M M':Mem}(h:s e M= .next e' M'):aQ s t e M=t e' M':=by rw[O6,h,RD]
theorem YX(l:tU M a s hl ll sl c cs L)(h:Las c L T m s last)(g:Lg n j s)(hn:n<=600)(hj:j<=50)(hc:c<16)(hw:w∈hds c)(hT:T<T'):
  ∃s' M',uo [.ref a.b,.ref hl,.int (w:Int),.int T',last,.int (L.length:Int)] M= .ok .non M'/\tU M' a s' hl ll sl c cs L/\Iv c L w T' m s'/\Lg (n+10) (j+1) s':=by
 obtain⟨s1,M1,e1,l1,p1,r1,g1⟩:=ahQ (T':=T') l h g () hw
 obtain⟨M2,e2,l2,v2⟩:=ZZ l1 p1.v r1 p1.tm p1.vt g1 () hj hc hw hT
 have g2:=g1.cst w T' w
 have v2':=v2.congr (dn':=λx=>x=w\/x<c+11*0) λx hx=>⟨.inl,λz=>z.elim id λq=>by simp[hds]at hx;omega⟩
 obtain⟨e',M3,lp,s3,V,v,rfl,vb,l3,m3,g3⟩:=oW (src:=some (hl,hv (hds c))) (g:=gN 7) (b:=pI) (acO a hl ll sl c cs L T m (n+2) j T' w last) (ds:=hv (hds c)) (e:=chE a hl w T' last L (some (.int ((2 ^ w:Nat):Int))) none) (M:=M2)
  ⟨_,2 ^ w,none,rfl,Vb.zero,l2,v2',g2⟩ (λi e M' _ p=>by
   obtain⟨_,_,_,_,_,l,_⟩:=p.h
   exact dh l.hs) λi d e M' hd p=>aeG () hj hc hw hT hd p
 have h5:(hv (hds c)).length=5:=rfl
 rw[h5]at vb m3 g3
 obtain rfl:=vb.all hw
 have m3':=m3.congr (dn':=λ_=>True) λx hx=>⟨λ_=>trivial,λ_=> .inr (by simp[hds]at hx;omega)⟩
 obtain⟨M4,e4,l4,v4⟩:=acs l3 m3' g3 () hj hc hw hT
 refine⟨_,M4,?_,l4,v4,?_⟩
 ·have e2':aM [.ref a.b,.tup [.str "vote",.int (w:Int),.int T',.int (w:Int)]] M1= .ok .non M2:=e2
  have e4':aM [.ref a.b,.tup [.str "chair",.int (w:Int),.int T',.int (fs c:Int)]] M3= .ok .non M4:=e4
  have sh:=adf (M:=M2) (xT hc hw)
  have it:=sU (M:=M2) l2.hs
  simp only[uo,Az,Cw]
  simp only[pJ,rC,wK,rB]
  simp only[chE]at e1 lp
  rw[jl e1]
  simp at sh lp
  simp[l1.b.Gh (m:= "take") rfl,e2',sh,it,lp,l3.b.Gh (m:= "take") rfl,e4']
 ·have q:=g3.sat w T'
  have le:∀{x:Nat},x<=n+2+5->x<=n+10:=λh=>()
  exact⟨le q.tm,le q.vt,le q.ak,le q.ro,le q.pl,le q.hd,q.se,q.ln,q.mr⟩
def stl(s:BO)(T:Int)(p:Nat):BO:={s with cnt:=s.cnt+1,mr:=gp s.mr T p}
theorem Iv.stl(h:Iv c L k T m s):Iv c L k T L.length (stl s T L.length):=by
 have v:=h.v
 refine⟨⟨v.S,v.r1,v.r4,v.br,v.ok,v.so,v.tT,v.T1,v.ln,v.ro,v.he,v.lT,v.mo,λt=> ?_,λp hp=> ?_,.inr ⟨_,ahz,rfl⟩,zab _,v.r0,v.ra,v.rb⟩,h.lT,h.rk,h.kh,h.hd,h.tm,h.vt⟩
 ·show(gv (gp s.mr T L.length) t).getD 0<=_
  rw[gvD]
  split
  ·rename_i z;subst z;exact Nat.le_of_eq (by rw[<-h.line];rfl)
  ·exact v.ma t
 ·rcases ahy hp with rfl | z
  ·exact⟨Int.le_refl _,zab _⟩
  ·have:=v.mm p z
   have:=v.mL
   omega
structure acJ(a:BA)(hl ll sl c:Nat)(cs:List Int)(L:List En)(T:Int)(m n j k:Nat)(i:Nat)(e:Sl)(M:Mem):Prop where
 h:∃(s:BO) (V:Nat) (v:Option D),e=[some (.ref a.b),some (.ref hl),some (.tup [.int (k:Int),.int T]),some (.ref ll),some (.int (V:Int)),v]/\Vb c k i V/\tU M a s hl ll sl c cs L/\Iv c L k T m s/\Lg (n+i) j s/\∀x∈hds c,x≠k->x<c+11*i->L.length<=s.Np x T
theorem adi(hn:n<=700)(hc:c<16)(hd:(hv (hds c))[i]? = some d)(p:acJ a hl ll sl c cs L T m n j k i e M):
  ∃e1,gN 5 d e=some e1/\(mX e1 M).to (acJ a hl ll sl c cs L T m n j k (i+1)) λ_ _=>False:=by
 obtain⟨s,V,v,rfl,vb,l,iv,g,pl⟩:=p
 have hi:i<5:=by
  have:=(List.getElem?_eq_some_iff.mp hd).1
  simpa[hv,hds]using this
 have hg:=Fy (c:=c) hi
 have hm:=jS hg
 obtain rfl:D.int ((c+11*i:Nat):Int)=d:=by
  simp only[hv,zan,hg]at hd
  exact xI hd
 obtain⟨x,hx⟩:∃x,x=c+11*i:=⟨_,rfl⟩
 refine⟨_,rfl,?_⟩
 simp only[mX,Ai]
 rw[<-hx]at hm ⊢
 by_cases z:x=k
 ·have z':(x:Int)=(k:Int):=()
  simp[z']
  exact⟨s,V,_,rfl,vb.same (),l,iv,g.mono,λy hy yk yi=>pl y hy yk ((KQ hy yi).resolve_right ())⟩
 ·have z':¬((x:Int)=(k:Int)):=()
  obtain⟨M1,e1,l1⟩:=V6 l iv g () hm (Ne.symm z)
  have sh:=adf (M:=M1) (xT hc hm)
  have so:=afp (M:=M1) (p:=V) (q:=2 ^ x)
  have ln:gJ [.ref ll] M= .ok (.int (L.length:Int)) M:=by rw[kY l.ln];simp
  have e1':aM [.ref a.b,.tup [.str "told",.int (x:Int),.int T,.int (L.length:Int),.int 0]] M= .ok .non M1:=e1
  simp at sh so
  simp[z',ln,l.b.Gh (m:= "take") rfl,e1',sh,so]
  exact⟨_,V ||| 2 ^ x,some (.int (x:Int)),rfl,by rw[hx];exact vb.more (by rw[<-hx];exact hm),l1,iv.told (Ne.symm z),g.told _ _,λy hy yk yi=>by
   by_cases q:y=x
   ·subst q;exact Z8
   ·rw[Rm q]
    exact pl y hy yk ((KQ hy yi).resolve_right ())⟩
theorem Vm(l:tU M a s hl ll sl c cs L)(iv:Iv c L k T m s)(g:Lg n j s)(hn:n<=600)(hj:j<=50)(hc:c<16)(he:L[L.length - 1]? = some e)(et:e.1=T)(hm:m<L.length):
  ∃s' M',xr [.ref a.b,.ref hl,.tup [.int (k:Int),.int T],.ref ll] M= .ok .non M'/\tU M' a s' hl ll sl c cs L/\Iv c L k T L.length s'/\Lg (n+10) (j+1) s':=by
 obtain⟨e',M3,lp,s3,V,v,rfl,vb,l3,i3,g3,pl⟩:=oW (src:=some (hl,hv (hds c))) (g:=gN 5) (b:=mX) (acJ a hl ll sl c cs L T m n j k) (ds:=hv (hds c)) (e:=[some (.ref a.b),some (.ref hl),some (.tup [.int (k:Int),.int T]),some (.ref ll),some (.int ((2 ^ k:Nat):Int)),none]) (M:=M)
  ⟨s,2 ^ k,none,rfl,Vb.zero,l,iv,g,λx hx _ hi=>by simp[hds]at hx;omega⟩ (λi e M' _ p=>by
   obtain⟨_,_,_,_,_,l,_⟩:=p.h
   exact dh l.hs) λi d e M' hd p=>adi () hc hd p
 have h5:(hv (hds c)).length=5:=rfl
 rw[h5]at vb g3 pl
 obtain rfl:=vb.all iv.kh
 have v:=i3.v
 have i4:=i3.stl
 have kp:=i4.v.kp
 have z4:s3.NT k T L.length (fs c)=true:=List.all_eq_true.mpr λx hx=>by
  by_cases q:x=k
  ·simp[q]
  ·have hx:=Vu x (HM.zW.mp hx).2
   have:=pl x hx q (by simp[hds]at hx;omega)
   simp[this]
 have b60:=λ(x:Nat) (h:Sub c x)=>h.lt hc
 obtain⟨M4,e4,x4⟩:=afU l3.b (by rw[v.br];rfl) (by have:=g3.mr;omega) (by have:=g3.ln;omega) (p:=L.length) v.T1 i3.hd (i3.tm k i3.kh) (ab1 hc) (by rw[i3.line];exact b60 _ v.ra) (by rw[i3.line];exact b60 _ v.rb)
  (Nat.lt_of_le_of_lt (v.ag7 T) hm) (by rw[i3.line];exact he) et z4 (by rw[i3.line];exact V3 hc v.ra v.r0 v.rb v.r4) ⟨kp.ok,kp.kp⟩ (by rw[i3.lT];rfl)
 refine⟨_,M4,?_,l3.bx x4,i4,?_⟩
 ·have sh:=adf (M:=M) (xT hc iv.kh)
  have it:=sU (M:=M) l.hs
  have ln:gJ [.ref ll] M3= .ok (.int (L.length:Int)) M3:=by rw[kY l3.ln];simp
  have e4':aM [.ref a.b,.tup [.str "settle",.int T,.int (L.length:Int),.int (fs c:Int)]] M3= .ok .non M4:=e4
  simp only[xr,yc,An]
  simp at sh lp
  simp[sh,it,lp,ln,l3.b.Gh (m:= "take") rfl,e4']
 ·have le:∀{x:Nat},x<=n+5->x<=n+10:=λh=>()
  exact⟨le g3.tm,le g3.vt,le g3.ak,le g3.ro,le g3.pl,le g3.hd,wP g3.se,wP g3.ln,yp g3.mr⟩
def Mu(L:List En)(T:Int):Bool:=match L.getLast? with
 | none=>false
 | some e=>decide (e.1=T)
theorem Z9(h:M[l]? = some (.lst (L.map mV)))(ok:∀e∈L,Ly e):∃ts,ts.length=L.length/\eG M 12 (.ref l)=some (.lst ts):=by
 obtain⟨ts,tl,q⟩:=PX ok
 refine⟨ts,tl,?_⟩
 show(match n_ M l with | some ds=>(rY (eG M 11) ds).map Dt.lst | none=>none)=_
 rw[dh h]
 show(rY (eG M 11) (L.map mV)).map Dt.lst=_
 rw[q M]
 rfl
theorem ne_nil(h:M[l]? = some (.lst (L.map mV)))(ok:∀e∈L,Ly e):sNe (.ref l) (.ref M.length) (M++[.lst []])= .ok (.bl (!decide (L.length=0))) (M++[.lst []]):=by
 obtain⟨ts,tl,q⟩:=Z9 (Gr.app (xs:=[MO.lst []]) _ _ h) ok
 obtain⟨us,ul,r⟩:=Z9 (M:=M++[.lst []]) (L:=[]) (l:=M.length) cF (λe he=>by cases he)
 refine zy ((Ao q r).trans ?_)
 obtain rfl:us=[]:=List.length_eq_zero_iff.mp ul
 congr 1
 by_cases z:L.length=0
 ·obtain rfl:ts=[]:=List.length_eq_zero_iff.mp ()
  rw[zag z]
  exact sY _
 ·rw[zaf z]
  unfold jb
  exact Ar (by rw[List.length_nil];omega)
theorem Ua(h:L[L.length - 1]? = some e):Mu L T=decide (e.1=T):=by
 unfold Mu
 rw[List.getLast?_eq_getElem?,h]
theorem XN(h:L.length=0):Mu L T=false:=by
 rw[List.length_eq_zero_iff.mp h];rfl
theorem Gx(h:¬L.length=0):∃e,L[L.length - 1]? = some e:=⟨_,zac ()⟩
theorem abJ(h:M[l]? = some (.lst (L.map mV)))(z:¬L.length=0)(he:L[L.length - 1]? = some e):bh (.ref l) (.int (-1)) M= .ok (mV e) M:=
 aaF (k:=L.length - 1) h (by rw[zao];omega) (aer he)
theorem Cv.beg(v:Cv c L T m s):stE L T=Mu L T:=by
 by_cases z:L.length=0
 ·rw[XN z,List.length_eq_zero_iff.mp z];rfl
 ·obtain⟨e,he⟩:=Gx z
  rw[Ua he]
  have em:=jS he
  rw[Bool.eq_iff_iff,decide_eq_true_eq]
  unfold stE
  rw[List.any_eq_true]
  constructor
  ·rintro⟨x,hx,q⟩
   have q:=zah q
   have e1:=(v.tT e em).2
   have:x.1<=e.1:=by
    obtain⟨i,hi,rfl⟩:=List.mem_iff_getElem.mp hx
    obtain⟨_,rfl⟩:=List.getElem?_eq_some_iff.mp he
    rcases Nat.lt_or_eq_of_le (Nat.le_sub_one_of_lt hi)with r | r
    ·exact List.pairwise_iff_getElem.mp v.so i _ hi () r
    ·subst r;exact Int.le_refl _
   omega
  ·intro q
   exact⟨e,em,zag q⟩
theorem aev(h:M[ll]? = some (.lst (L.map mV)))(ok:∀e∈L,Ly e):
  bV (jx (aC sNe (aq 1) (CZ aF)) (aC sEq (aC bh (aC bh (aq 1) (mUn Yi (mC (.int 1)))) (mC (.int 0))) (aq 3))) (gN 5) [some w0,some (.ref ll),some S,some (.int T),some mk,none,v6,v7,v8] M
  = .next [some w0,some (.ref ll),some S,some (.int T),some mk,some (.bl (Mu L T)),v6,v7,v8] (M++[.lst []]):=by
 have e:=ne_nil h ok
 by_cases z:L.length=0
 ·rw[XN z]
  rw[zag z]at e
  simp[e]
 ·obtain⟨x,hx⟩:=Gx z
  rw[Ua hx]
  rw[zaf z]at e
  have q:=abJ (Gr.app (xs:=[MO.lst []]) _ _ h) z hx
  simp[e,q,mV]
theorem ae_:(("ask" : Str)= "start")=False:=eq_false (by decide)
theorem Nk:(("roll" : Str)= "start")=False:=eq_false (by decide)
theorem aei(l:tU M a s hl ll sl c cs L)(iv:Iv c L k T m s)(hL:L.length<=1000)(w:Wh):
  ∃M',Bo [w.d,.ref ll,.int (fs c:Int),.int T,.int (m:Int)] M= .ok (.bl (s.qe T ((L.length:Int)+1) w)) M'/\Gr M M':=by
 have v:=iv.v
 have o:=λw0 v6 v7 v8=>aev (w0:=w0) (v6:=v6) (v7:=v7) (v8:=v8) (T:=T) (S:= .int (fs c:Int)) (mk:= .int (m:Int)) l.ln v.ok
 obtain⟨N,hN⟩:∃N:Mem,N=M++[.lst []]:=⟨_,rfl⟩
 rw[<-hN]at o
 have g:Gr M N:=by rw[hN];exact Gr.app
 have lr:=Nv (S:=fs c) (g _ _ l.ln) hL
 have mw:∀w:Wh,s.qe T ((L.length:Int)+1) w=if(!Mu L T)=w.isS then(match w with
  | .LC x y=>s.Ff T x y
  | _=>true)else false:=λw=>by
  unfold BO.qe
  rw[iv.line,v.beg]
  by_cases z:(!Mu L T)=w.isS
  ·rw[if_pos ⟨rfl,z⟩,if_pos z]
   try cases w<;>rfl
  ·rw[if_neg λq=>z q.2,if_neg z]
 refine⟨N,?_,g⟩
 rw[mw]
 simp only[Bo,GX,Hw,Hu,Ht,Hs]
 simp only[pJ,rC,wK,rB]
 cases w with
 | st=>
  simp only[Wh.d]
  rw[jl (o _ _ _ _)]
  cases Mu L T with
  | true=>simp[Wh.isS]
  | false=>simp[Wh.isS,aao]
 | ask p q x=>
  simp only[Wh.d]
  rw[jl (o _ _ _ _)]
  cases Mu L T with
  | true=>simp[Wh.isS,ae_,acD]
  | false=>simp[Wh.isS,ae_]
 | LC p q=>
  simp only[Wh.d]
  rw[jl (o _ _ _ _)]
  cases Mu L T with
  | false=>simp[Wh.isS,Nk]
  | true=>
   have mc:s.Ff T p q=if m<Nm L then false else if(mQ L (fs c)).2=0 then decide (p=(mQ L (fs c)).1)&& !decide (q=0)else decide (p=(mQ L (fs c)).2)&&decide (q=0):=by
    unfold BO.Ff
    rw[iv.line,v.up (Int.le_refl _),v.S]
    simp
   simp only[Wh.isS,Bool.not_true,if_true]
   rw[mc]
   obtain⟨R,hR⟩:∃R,R=mQ L (fs c):=⟨_,rfl⟩
   rw[<-hR]at lr ⊢
   have eqn:∀x y:Nat,sEq (.int (x:Int)) (.int (y:Int)) N= .ok (.bl (decide (x=y))) N:=λx y=>aku
   by_cases z1:m<Nm L
   ·have z1':(m:Int)<(Nm L:Int):=()
    simp[Nk,lr,z1]
   ·by_cases z2:R.2=0
    ·rw[z2]at lr
     simp at lr
     by_cases z3:p=R.1
     ·simp[Nk,lr,z1,z2,z3]
     ·have z3':¬((p:Int)=(R.1:Int)):=()
      simp[Nk,lr,z1,z2,z3,z3']
    ·have z2':¬((R.2:Int)=0):=()
     by_cases z3:p=R.2
     ·simp[Nk,lr,z1,z2,z2',z3]
     ·have z3':¬((p:Int)=(R.2:Int)):=()
      simp[Nk,lr,z1,z2,z2',z3,z3']
end
section
variable{M M':Mem}{a:BA}{s s':BO}{hl ll sl c:Nat}{cs:List Int}{L:List En}{T T':Int}{m n j k:Nat}{w:Wh}
def Zz(s:BO)(k:Nat)(T:Int)(w:Wh):BO:={s with cnt:=s.cnt+1,ln:=gp s.ln T (s.line T++[(T,w)]),ro:=gp s.ro k (s.row k++[(T,w)])}
theorem Iv.ajn(h:Iv c L k T m s)(wi:WIn c w)(ha:s.qe T ((L.length:Int)+1) w=true):(mQ (L++[(T,w)]) s.S).1≠0/\Sub c (mQ (L++[(T,w)]) s.S).1/\Sub c (mQ (L++[(T,w)]) s.S).2:=by
 have v:=h.v
 cases w with
 | st=>rw[Je rfl];exact⟨v.r0,v.ra,v.rb⟩
 | ask p q o=>rw[Je rfl];exact⟨v.r0,v.ra,v.rb⟩
 | LC p q=>
  rw[Wv]
  refine⟨?_,wi.1,wi.2⟩
  have mc:s.Ff T p q=true:=by
   unfold BO.qe at ha
   split at ha
   ·exact ha
   ·cases ha
  unfold BO.Ff at mc
  rw[h.line]at mc
  split at mc
  ·cases mc
  ·split at mc
   ·rw[Bool.and_eq_true,decide_eq_true_eq]at mc
    rw[mc.1];exact v.r0
   ·rename_i z
    rw[Bool.and_eq_true,decide_eq_true_eq]at mc
    rw[mc.1];exact z
theorem Iv.Zz(h:Iv c L k T m s)(hw:WOk w)(wi:WIn c w)(ha:s.qe T ((L.length:Int)+1) w=true):Iv c (L++[(T,w)]) k T m (Zz s k T w):=by
 have v:=h.v
 obtain⟨r0,ra,rb⟩:=h.ajn wi ha
 have hl:∀t,(My.Zz s k T w).line t=if t=T then L++[(T,w)]else s.line t:=λt=>by
  show(gv (gp s.ln T (s.line T++[(T,w)])) t).getD []=_
  rw[gvD,h.line]
  rfl
 have hr:∀x,(My.Zz s k T w).row x=if x=k then L++[(T,w)]else s.row x:=λt=>by
  show(gv (gp s.ro k (s.row k++[(T,w)])) t).getD []=_
  rw[gvD,h.rk]
  rfl
 have hs:∀t,(gv (My.Zz s k T w).ln t).isSome=true->(gv s.ln t).isSome=true:=λt e=>by
  have e:(gv (gp s.ln T (s.line T++[(T,w)])) t).isSome=true:=e
  rw[Hy]at e
  split at e
  ·rename_i z;rw[z,h.lT];rfl
  ·exact e
 have pp:L <+: L++[(T,w)]:=List.prefix_append _ _
 have ll:(L++[(T,w)]).length=L.length+1:=by simp
 refine⟨⟨v.S,v.r1,v.r4,v.br,λe he=> ?_,?_,λe he=> ?_,v.T1,λt=> ?_,λx=> ?_,v.he,λt e=>v.lT t (hs t e),λt u htu ht hu=> ?_,λt=> ?_,v.mm,v.me,?_,r0,ra,rb⟩,?_,?_,h.kh,h.hd,h.tm,h.vt⟩
 ·rcases List.mem_append.mp he with z | z
  ·exact v.ok e z
  ·rw[List.mem_singleton.mp z];exact hw.en T
 ·refine List.pairwise_append.mpr ⟨v.so,List.pairwise_singleton _ _,λx hx y hy=> ?_⟩
  rw[List.mem_singleton.mp hy]
  exact(v.tT x hx).2
 ·rcases List.mem_append.mp he with z | z
  ·exact v.tT e z
  ·rw[List.mem_singleton.mp z]
   have:=v.T1
   exact⟨by show 0<=T;omega,Int.le_refl _⟩
 ·rw[hl]
  split
  ·exact List.prefix_refl _
  ·exact(v.ln t).trans pp
 ·rw[hr]
  split
  ·exact List.prefix_refl _
  ·exact(v.ro x).trans pp
 ·have ht:=hs t ht
  have hu:=hs u hu
  rw[hl,hl]
  by_cases z:u=T
  ·rw[if_pos z]
   split
   ·exact zab _
   ·exact((v.ln t).trans pp).length_le
  ·have:=v.lT u hu
   rw[if_neg z,if_neg ()]
   exact v.mo t u htu ht hu
 ·rw[hl]
  have e:(My.Zz s k T w).mark t=s.mark t:=rfl
  rw[e]
  split
  ·have:=v.ag7 t
   have:=v.mL
   omega
  ·exact v.ma t
 ·have:=v.mL
  omega
 ·show gv (gp s.ln T (s.line T++[(T,w)])) T=_
  rw[Hy,if_pos rfl,h.line]
 ·rw[hr,if_pos rfl]
theorem Lg.Zz(g:Lg n j s):Lg (n+1) (j+1) (Zz s k T w):=⟨wP g.tm,wP g.vt,wP g.ak,yp g.ro,wP g.pl,wP g.hd,wP g.se,yp g.ln,wP g.mr⟩
theorem tU.app(l:tU M a s hl ll sl c cs L)(e:En):tU (M.set ll (.lst ((L++[e]).map mV))) a s hl ll sl c cs (L++[e]):=by
 obtain⟨o1,o2,o3⟩:=l.o
 have bb:a.b<=a.sn:=(ou l.b.o 0 rfl).2
 have ch:Ch (· = ll) M (M.set ll (.lst ((L++[e]).map mV))):=Ch.set rfl
 exact⟨l.b.ch ch λi _ hi z=>Nat.not_lt.mpr hi (z▸o2),ch.2 _ _ (show ¬hl=ll by omega) l.hs,jg l.ln,ch.2 _ _ (show ¬sl=ll by omega) l.sc,l.o⟩
theorem T_(h:b7 M a s)(t:Int):m_ [.ref a.b,.int t] M= .ok (.ref M.length) (M++[.lst ((s.line t).map mV)]):=by
 have e:G9 [esD (s.line t)] M= .ok (.ref M.length) (M++[.lst ((s.line t).map mV)]):=by simp[esD,G9,vB]
 simp only[m_,ye]
 simp[h.Xm,h.gK (m:= "line") rfl,pK h t,e]
theorem aeO(h:b7 M a s)(x:Nat):m9 [.ref a.b,.int (x:Int)] M= .ok (.ref M.length) (M++[.lst ((s.row x).map mV)]):=by
 have e:G9 [esD (s.row x)] M= .ok (.ref M.length) (M++[.lst ((s.row x).map mV)]):=by simp[esD,G9,vB]
 simp only[m9,tM]
 simp[h.Xm,h.gK (m:= "row_of") rfl,wN h x,e]
theorem acd(h1:M[x]? = some (.lst (L.map mV)))(h2:M[y]? = some (.lst (L.map mV)))(ok:∀e∈L,Ly e):Tw M (.ref x) (.ref y)=some true:=by
 obtain⟨ts,q⟩:=PX ok
 have e:∀{x:Nat},M[x]? = some (.lst (L.map mV))->eG M 12 (.ref x)=some (.lst ts):=λ{x} h=>by
  show(match n_ M x with | some ds=>(rY (eG M 11) ds).map Dt.lst | none=>none)=_
  rw[dh h]
  show(rY (eG M 11) (L.map mV)).map Dt.lst=_
  rw[q.2 M]
  rfl
 rw[Ao (e h1) (e h2),sY]
theorem Iv.allow(h:Iv c L k T m s)(ht:t=T\/t=T - 1\/t=0):s.mq t p w=(decide (t=T)&&(decide (p=(L.length:Int)+1)&&s.qe T ((L.length:Int)+1) w)):=by
 have v:=h.v
 have T1:=v.T1
 by_cases z:t=T
 ·subst z
  have st:s.stands t=true:=by
   unfold BO.stands
   rw[h.hd]
   exact zag (h.tm k h.kh)
  unfold BO.mq
  rw[st,zag T1]
  by_cases y:p=(L.length:Int)+1
  ·subst y;simp
  ·have:s.qe t p w=false:=if_neg λq=>y (by rw[h.line]at q;exact q.1)
   simp[this,y]
 ·rw[zaf z,Bool.false_and]
  unfold BO.mq
  by_cases y:1<=t
  ·have st:s.stands t=false:=by
    unfold BO.stands
    cases q:s.head t with
    | none=>rfl
    | some x=>
     have:=v.he t x q
     exact zaf (by rw[h.tm x this.2];omega)
   rw[st,Bool.false_and,Bool.and_false]
  ·rw[zaf y,Bool.false_and]
def Oj(a:BA)(hl ll c k m:Nat)(T x:Int)(tl:Sl):Sl:=[some (.ref a.b),some (.tup [.int (k:Int),.int T]),some (.ref ll),some (.int (fs c:Int)),some (.int (m:Int)),some (.int x),some (.ref hl)]++tl
theorem afP(x:Int):∃(t:Int) (M1:Mem),bV (aC bh (CZ (au (aC bh (aq 1) (mC (.int 1))) (au (aC bh (aq 1) (mC (.int 1))) (au (aC bh (aq 1) (mC (.int 1))) (au (aC bh (aq 1) (mC (.int 1))) (au (aC O5 (aC bh (aq 1) (mC (.int 1))) (mC (.int 1))) (au (mC (.int 0)) aF))))))) (aC iW (aq 5) (mC (.int 6)))) (gN 7) (Oj a hl ll c k m T x [none,none,none,none,none]) M
  = .next (Oj a hl ll c k m T x [some (.int t),none,none,none,none]) M1/\Gr M M1/\(t=T\/t=T - 1\/t=0):=by
 have md:∀M:Mem,iW (.int x) (.int 6) M= .ok (.int (x % 6)) M:=λM=>mZ ()
 obtain⟨N,hN⟩:∃N:Mem,N=M++[.lst [.int T,.int T,.int T,.int T,.int (T - 1),.int 0]]:=⟨_,rfl⟩
 have h1:N[M.length]? = some (.lst [.int T,.int T,.int T,.int T,.int (T - 1),.int 0]):=by rw[hN];exact cF
 obtain⟨t,e,ht⟩:∃t:Int,bh (.ref M.length) (.int (x % 6)) N= .ok (.int t) N/\(t=T\/t=T - 1\/t=0):=by
  have:x % 6=0\/x % 6=1\/x % 6=2\/x % 6=3\/x % 6=4\/x % 6=5:=()
  rcases this with z | z | z | z | z | z<;>rw[z]
  ·exact⟨T,jL h1 () rfl,.inl rfl⟩
  ·exact⟨T,jL h1 () rfl,.inl rfl⟩
  ·exact⟨T,jL h1 () rfl,.inl rfl⟩
  ·exact⟨T,jL h1 () rfl,.inl rfl⟩
  ·exact⟨T - 1,jL h1 () rfl,.inr (.inl rfl)⟩
  ·exact⟨0,jL h1 () rfl,.inr (.inr rfl)⟩
 refine⟨t,N,?_,by rw[hN];exact Gr.app,ht⟩
 simp only[Oj]
 simp[<-hN,md,e]
theorem afO(x t:Int)(h:M[ll]? = some (.lst (L.map mV))):∃(p:Int) (M1:Mem),bV (aC rQ (xx gJ (au (aq 2) aF)) (aC bh (CZ (au (mC (.int 1)) (au (mC (.int 1)) (au (mC (.int 1)) (au (mC (.int 1)) (au (mC (.int 0)) (au (mC (.int 2)) (au (mC (.int 3)) aF)))))))) (aC iW (aC rP (aq 5) (mC (.int 6))) (mC (.int 7))))) (gN 8) (Oj a hl ll c k m T x [some (.int t),none,none,none,none]) M
  = .next (Oj a hl ll c k m T x [some (.int t),some (.int p),none,none,none]) M1/\Gr M M1:=by
 have md:∀(z:Int) (M:Mem),iW (.int z) (.int 7) M= .ok (.int (z % 7)) M:=λz M=>mZ ()
 have dv:∀M:Mem,rP (.int x) (.int 6) M= .ok (.int (x / 6)) M:=λM=>vJ () ()
 have ln:gJ [.ref ll] M= .ok (.int (L.length:Int)) M:=by rw[kY h];simp
 obtain⟨N,hN⟩:∃N:Mem,N=M++[.lst [.int 1,.int 1,.int 1,.int 1,.int 0,.int 2,.int 3]]:=⟨_,rfl⟩
 have h1:N[M.length]? = some (.lst [.int 1,.int 1,.int 1,.int 1,.int 0,.int 2,.int 3]):=by rw[hN];exact cF
 obtain⟨p,e⟩:∃p:Int,bh (.ref M.length) (.int (x / 6 % 7)) N= .ok (.int p) N:=by
  obtain⟨y,hy⟩:∃y:Nat,x / 6 % 7=(y:Int):=⟨(x / 6 % 7).toNat,()⟩
  have y7:y<7:=()
  rw[hy]
  have:∃p:Int,([.int 1,.int 1,.int 1,.int 1,.int 0,.int 2,.int 3]:List D)[y]? = some (.int p):=by
   match y,y7 with
   | 0,_=>exact⟨_,rfl⟩
   | 1,_=>exact⟨_,rfl⟩
   | 2,_=>exact⟨_,rfl⟩
   | 3,_=>exact⟨_,rfl⟩
   | 4,_=>exact⟨_,rfl⟩
   | 5,_=>exact⟨_,rfl⟩
   | 6,_=>exact⟨_,rfl⟩
  obtain⟨p,hp⟩:=this
  exact⟨p,jL h1 () (by rw[zam];exact hp)⟩
 refine⟨(L.length:Int)+p,N,?_,by rw[hN];exact Gr.app⟩
 simp only[Oj]
 simp[ln,<-hN,md,dv,e]
theorem ZS(x t p:Int)(l:tU M a s hl ll sl c cs L)(iv:Iv c L k T m s)(hL:L.length<=1000)(hc:c<16):∃(w:Wh) (M1:Mem),bV (bZ iB 3 [] (au (aC rP (aq 5) (mC (.int 42))) (au (bZ rZ 2 [] (au (aq 2) (au (aq 3) aF))) (au (aq 6) aF)))) (gN 9) (Oj a hl ll c k m T x [some (.int t),some (.int p),none,none,none]) M
  = .next (Oj a hl ll c k m T x [some (.int t),some (.int p),some w.d,none,none]) M1/\Gr M M1/\WOk w/\WIn c w:=by
 have dv:∀M:Mem,rP (.int x) (.int 42) M= .ok (.int (x / 42)) M:=λM=>vJ () ()
 have lr:=Nv (S:=fs c) l.ln hL
 have ra:=iv.v.ra
 have rb:=iv.v.rb
 rw[iv.v.S]at ra rb
 obtain⟨w,M1,e,g,ok,wi⟩:=abz (M:=M) (k:=Nm L) hc l.hs ra rb (x / 42)
 refine⟨w,M1,?_,g,ok,wi⟩
 simp only[Oj]
 simp[dv,lr,e]
theorem acT(x p:Int)(l:tU M a s hl ll sl c cs L)(iv:Iv c L k T m s)(hL:L.length<=1000)(w:Wh)(ht:t=T\/t=T - 1\/t=0):∃M1:Mem,bV (jx (aC sEq (aq 7) (aC bh (aq 1) (mC (.int 1)))) (jx (aC sEq (aq 8) (aC rQ (xx gJ (au (aq 2) aF)) (mC (.int 1)))) (bZ Bo 5 [] (au (aq 9) (au (aq 2) (au (aq 3) (au (aq 7) (au (aq 4) aF)))))))) (gN 10) (Oj a hl ll c k m T x [some (.int t),some (.int p),some w.d,none,none]) M
  = .next (Oj a hl ll c k m T x [some (.int t),some (.int p),some w.d,some (.bl (s.mq t p w)),none]) M1/\Gr M M1:=by
 have ln:gJ [.ref ll] M= .ok (.int (L.length:Int)) M:=by rw[kY l.ln];simp
 rw[iv.allow ht]
 obtain⟨M1,e,g⟩:=aei l iv hL w
 by_cases z:t=T
 ·by_cases y:p=(L.length:Int)+1
  ·refine⟨M1,?_,g⟩
   subst z y
   simp only[Oj]
   simp[ln,e]
  ·refine⟨M,?_,Gr.refl⟩
   simp only[Oj]
   simp[ln,z,y]
 ·refine⟨M,?_,Gr.refl⟩
  simp only[Oj]
  simp[z]
theorem ZV(x:Int)(l:tU M a s hl ll sl c cs L)(iv:Iv c L k T m s):∃M1:Mem,bz (jx (aC sNe (aq 11) (aq 10)) (jx (aC sEq (aU 8 "line" m_ 2 [] (aq 0) (au (aC bh (aq 1) (mC (.int 1))) aF)) (aq 2)) (aC sEq (aU 8 "row_of" m9 2 [] (aq 0) (au (aC bh (aq 1) (mC (.int 0))) aF)) (aq 2)))) (Oj a hl ll c k m T x [some (.int t),some (.int p),some w.d,some (.bl b),some (.bl (!b))]) M
  = .ret (.bl true) M1/\tU M1 a s hl ll sl c cs L:=by
 have e1:=T_ l.b T
 rw[iv.line]at e1
 obtain⟨N,hN⟩:∃N:Mem,N=M++[.lst (L.map mV)]:=⟨_,rfl⟩
 rw[<-hN]at e1
 have l1:tU N a s hl ll sl c cs L:=l.gr (by rw[hN];exact Gr.app)
 have q1:sEq (.ref M.length) (.ref ll) N= .ok (.bl true) N:=rO (acd (by rw[hN];exact cF) l1.ln iv.v.ok)
 have e2:=aeO l1.b k
 rw[iv.rk]at e2
 obtain⟨N2,hN2⟩:∃N2:Mem,N2=N++[.lst (L.map mV)]:=⟨_,rfl⟩
 rw[<-hN2]at e2
 have l2:tU N2 a s hl ll sl c cs L:=l1.gr (by rw[hN2];exact Gr.app)
 have q2:sEq (.ref N.length) (.ref ll) N2= .ok (.bl true) N2:=rO (acd (by rw[hN2];exact cF) l2.ln iv.v.ok)
 refine⟨N2,?_,l2⟩
 have bb:(!decide ((!b)=b))=true:=by cases b<;>rfl
 simp only[Oj]
 cases b<;>simp[l.b.Gh (m:= "line") rfl,e1,q1,l1.b.Gh (m:= "row_of") rfl,e2,q2]
theorem YS(x:Int)(l:tU M a s hl ll sl c cs L)(iv:Iv c L k T m s)(g:Lg n j s)(hn:n<=600)(hj:j<=50)(hL:L.length<=900)(hc:c<16):
  ∃s' M' L',zY [.ref a.b,.tup [.int (k:Int),.int T],.ref ll,.int (fs c:Int),.int (m:Int),.int x,.ref hl] M= .ok (.bl true) M'/\tU M' a s' hl ll sl c cs L'/\Iv c L' k T m s'/\Lg (n+10) (j+1) s'/\L'.length<=L.length+1:=by
 obtain⟨t,M1,e1,g1,ht⟩:=afP (M:=M) (a:=a) (hl:=hl) (ll:=ll) (c:=c) (k:=k) (m:=m) (T:=T) x
 have l1:=l.gr g1
 obtain⟨p,M2,e2,g2⟩:=afO (a:=a) (hl:=hl) (c:=c) (k:=k) (m:=m) (T:=T) x t l1.ln
 have l2:=l1.gr g2
 obtain⟨w,M3,e3,g3,ok,wi⟩:=ZS x t p l2 iv () hc
 have l3:=l2.gr g3
 obtain⟨M4,e4,g4⟩:=acT x p l3 iv () w ht
 have l4:=l3.gr g4
 have le:∀{x:Nat},x<=n->x<=n+10:=λh=>()
 simp only[zY,Ay,Cm,Ck,BW,BX]
 simp only[pJ,rC,wK,rB]
 simp only[Oj,List.cons_append,List.nil_append]at e1 e2 e3 e4
 rw[jl e1,jl e2,jl e3,jl e4]
 have lr:∀h,(s.row h).length<=1000:=λh=>yY (iv.v.ro h).length_le ()
 rcases afS l4.b (by rw[iv.v.br];rfl) (by have:=g.ln;omega) (by have:=g.ro;omega) t p ok (yY (iv.v.ln t).length_le ()) lr with⟨al,k',M5,hk,e5,x5⟩ | ⟨al,M5,e5,x5⟩
 ·have e5':aM [.ref a.b,.tup [.str "write",.int t,.int p,w.d]] M4= .ok .non M5:=e5
  have aw:=iv.allow (w:=w) (p:=p) ht
  rw[al]at aw ⊢
  have aw:=aw.symm
  rw[Bool.and_eq_true,Bool.and_eq_true,decide_eq_true_eq]at aw
  obtain⟨rfl,_,mw⟩:=aw
  obtain rfl:k=k':=xI (iv.hd.symm.trans hk)
  have i5:=iv.Zz ok wi mw
  have l5:tU M5 a (Zz s k t w) hl ll sl c cs L:=l4.bx x5
  have ap:Bl (.ref ll) [.tup [.int t,w.d]] M5= .ok .non (M5.set ll (.lst ((L++[(t,w)]).map mV))):=by
   rw[RX l5.ln (by rw[zao];omega)]
   simp[mV]
  have l6:=l5.app (t,w)
  obtain⟨M7,e7,l7⟩:=ZV x (p:=p) (t:=t) (w:=w) (b:=true) l6 i5
  refine⟨_,M7,_,?_,l7,i5,?_,by simp⟩
  ·simp only[Oj,List.cons_append,List.nil_append]at e7
   simp only[Bool.not_true]at e7
   have il:X8 "list" (.ref ll) M5=true:=by simp[X8,dh l5.ln]
   simp at e7
   simp[l4.b.Gh (m:= "take") rfl,e5',Z6,il,ap]
   simp[e7]
  ·have q:Lg (n+1) (j+1) (Zz s k t w):=g.Zz
   have le1:∀{x:Nat},x<=n+1->x<=n+10:=λh=>()
   exact⟨le1 q.tm,le1 q.vt,le1 q.ak,le1 q.ro,le1 q.pl,le1 q.hd,q.se,q.ln,q.mr⟩
 ·have e5':aM [.ref a.b,.tup [.str "write",.int t,.int p,w.d]] M4= .exc 2 (.int (s.cnt:Int)) M5:=e5
  rw[al]
  obtain⟨M7,e7,l7⟩:=ZV x (p:=p) (t:=t) (w:=w) (b:=false) (l4.bx x5) iv
  refine⟨s,M7,L,?_,l7,iv,⟨le g.tm,le g.vt,le g.ak,le g.ro,le g.pl,le g.hd,wP g.se,wP g.ln,wP g.mr⟩,Nat.le_succ _⟩
  simp only[Oj,List.cons_append,List.nil_append]at e7
  simp only[Bool.not_false]at e7
  simp at e7
  simp[l4.b.Gh (m:= "take") rfl,e5',Z6,List.lookup]
  simp[e7]
theorem ahn{c:MT}{s t:MS}{e:Sl}(h:c e M= .ok true M'):jM c s t e M=s e M':=by
 rw[U5,h]
 simp
theorem akc{c:MT}{s t:MS}{e:Sl}(h:c e M= .ok false M'):jM c s t e M=t e M':=by
 rw[U5,h]
 simp
def Gv(ns:List Int)(a:BA)(hl ll c m:Nat)(last:D)(T:Int)(tl:Sl):Sl:=[some (.cl (ns.map D.int)),some (.ref hl),some (.int (fs c:Int)),some (.ref a.b),some (.ref ll),some last,some (.int (m:Int)),some (.int T)]++tl
def Nxt(ns:List Int)(a:BA)(hl ll sl c:Nat)(cs:List Int)(n j q:Nat)(v8 v9:Option D)(o:g_):Prop:=∃(s:BO) (M:Mem) (L:List En) (k:Nat) (T:Int) (m:Nat) (v10:Option D),o= .next (Gv ns a hl ll c m (.tup [.int (k:Int),.int T]) T [v8,v9,v10]) M/\tU M a s hl ll sl c cs L/\Iv c L k T m s/\Lg (n+10) (j+1) s/\L.length<=q+1
theorem Lg.ten(g:Lg n j s):Lg (n+10) (j+1) s:=by
 have le:∀{x:Nat},x<=n->x<=n+10:=λh=>()
 exact⟨le g.tm,le g.vt,le g.ak,le g.ro,le g.pl,le g.hd,wP g.se,wP g.ln,wP g.mr⟩
theorem abB(l:tU M a s hl ll sl c cs L)(h:Las c L T m s last)(g:Lg n j s)(hn:n<=600)(hj:j<=50)(hc:c<16):
  Nxt ns a hl ll sl c cs n j L.length (some (.int x)) v9 (aQ (bV (aC rQ (aC rQ (aq 7) (mC (.int 1))) (aC iW (aC rP (aq 8) (mC (.int 8))) (mC (.int 3)))) (gN 7))
   (aQ (bV (aC bh (aq 1) (aC iW (aC rP (aq 8) (mC (.int 24))) (mC (.int 5)))) (gN 10))
   (aQ (gU (bZ uo 6 [] (au (aq 3) (au (aq 1) (au (aq 10) (au (aq 7) (au (aq 5) (au (xx gJ (au (aq 4) aF)) aF))))))))
   (bV (gB (au (aq 10) (au (aq 7) aF))) (gN 5)))) (Gv ns a hl ll c m last T [some (.int x),v9,v10]) M):=by
 have md:∀(z j:Int) (M:Mem),0<j->iW (.int z) (.int j) M= .ok (.int (z % j)) M:=λz j M h=>mZ h
 have dv:∀(z j:Int) (M:Mem),0<j->j<1073741824->rP (.int z) (.int j) M= .ok (.int (z / j)) M:=λz j M h h'=>vJ h h'
 obtain⟨i,hi⟩:∃i:Nat,x / 24 % 5=(i:Int):=⟨(x / 24 % 5).toNat,()⟩
 have hg:=Fy (c:=c) (i:=i) ()
 obtain⟨w,hw⟩:∃w,w=c+11*i:=⟨_,rfl⟩
 rw[<-hw]at hg
 have ix:bh (.ref hl) (.int (x / 24 % 5)) M= .ok (.int (w:Int)) M:=by
  rw[hi]
  refine jL l.hs () ?_
  simp only[hv,zan,zam,hg]
  rfl
 have ln:gJ [.ref ll] M= .ok (.int (L.length:Int)) M:=by rw[kY l.ln];simp
 obtain⟨T',hT⟩:∃T':Int,T'=T+1+x / 8 % 3:=⟨_,rfl⟩
 obtain⟨s',M',e,l',iv,g'⟩:=YX (T':=T') l h g hn hj hc (jS hg) ()
 refine⟨s',M',L,w,T',m,some (.int (w:Int)),?_,l',iv,g',Nat.le_succ _⟩
 simp only[Gv]
 simp[md,dv,<-hT,ix,ln,e]
theorem YT(l:tU M a s hl ll sl c cs L)(iv:Iv c L k T m s)(g:Lg n j s)(hn:n<=600)(hj:j<=50)(hc:c<16):
  Nxt ns a hl ll sl c cs n j L.length v8 v9 (Qo (Gv ns a hl ll c m (.tup [.int (k:Int),.int T]) T [v8,v9,v10]) M):=by
 have e:=ne_nil l.ln iv.v.ok
 obtain⟨N,hN⟩:∃N:Mem,N=M++[.lst []]:=⟨_,rfl⟩
 rw[<-hN]at e
 have l1:tU N a s hl ll sl c cs L:=l.gr (by rw[hN];exact Gr.app)
 have ln:∀{M:Mem} {s:BO},tU M a s hl ll sl c cs L->gJ [.ref ll] M= .ok (.int (L.length:Int)) M:=λl=>by rw[kY l.ln];simp
 simp only[Qo,Gv]
 by_cases z:L.length=0
 ·refine⟨s,N,L,k,T,m,v10,?_,l1,iv,g.ten,Nat.le_succ _⟩
  rw[zag z]at e
  simp[<-hN,e,Gv]
 ·obtain⟨y,hy⟩:=Gx z
  rw[zaf z]at e
  have q:=abJ l1.ln z hy
  by_cases z2:y.1=T
  ·by_cases z3:m<L.length
   ·obtain⟨s',M',e',l',iv',g'⟩:=Vm l1 iv g hn hj hc hy z2 z3
    refine⟨s',M',L,k,T,L.length,v10,?_,l',iv',g',Nat.le_succ _⟩
    have z3':(m:Int)<(L.length:Int):=()
    simp[<-hN,e,q,mV,z2,ln l1,z3,e',ln l',Gv]
   ·refine⟨s,N,L,k,T,m,v10,?_,l1,iv,g.ten,Nat.le_succ _⟩
    have z3':¬(m:Int)<(L.length:Int):=()
    simp[<-hN,e,q,mV,z2,ln l1,z3,Gv]
  ·refine⟨s,N,L,k,T,m,v10,?_,l1,iv,g.ten,Nat.le_succ _⟩
   simp[<-hN,e,q,mV,z2,Gv]
theorem abA(l:tU M a s hl ll sl c cs L)(iv:Iv c L k T m s)(g:Lg n j s)(hn:n<=600)(hj:j<=50)(hL:L.length<=900)(hc:c<16):
  Nxt ns a hl ll sl c cs n j L.length (some (.int x)) v9 (Qn (Gv ns a hl ll c m (.tup [.int (k:Int),.int T]) T [some (.int x),v9,v10]) M):=by
 obtain⟨s',M',L',e,l',iv',g',hq⟩:=YS (x / 8) l iv g hn hj hL hc
 have dv:rP (.int x) (.int 8) M= .ok (.int (x / 8)) M:=vJ () ()
 refine⟨s',M',L',k,T,m,v10,?_,l',iv',g',hq⟩
 simp only[Qn,Gv]
 simp[dv,e]
theorem aed(l:tU M a s hl ll sl c cs L)(h:Las c L T m s last)(g:Lg n j s)(hn:n<=600)(hj:j<=50)(hL:L.length<=900)(hc:c<16):
  Nxt ns a hl ll sl c cs n j L.length (some (.int x)) (some (.int (x % 8))) (Fw (Gv ns a hl ll c m last T [some (.int x),some (.int (x % 8)),v10]) M):=by
 have ch:=abB (ns:=ns) (x:=x) (v9:=some (.int (x % 8))) (v10:=v10) l h g hn hj hc
 by_cases z:x % 8=0
 ·rw[Fw,ahn (M':=M) (by simp[Gv,z])]
  exact ch
 ·rcases h with⟨rfl,rfl,p⟩ | ⟨k,rfl,iv⟩
  ·rw[Fw,ahn (M':=M) (by simp[Gv,z])]
   exact ch
  ·rw[Fw,akc (M':=M) (by simp[Gv,z]),Xg]
   by_cases z1:x % 8=1
   ·rw[ahn (M':=M) (by simp[Gv,z1])]
    exact YT l iv g hn hj hc
   ·rw[akc (M':=M) (by simp[Gv,z1])]
    exact abA l iv g hn hj hL hc
theorem aee(l:tU M a s hl ll sl c cs L)(iv:Iv c L k T m s):∃M',Qm (Gv ns a hl ll c m last T [v8,v9,v10]) M= .next (Gv ns a hl ll c m last T [v8,v9,v10]) M'/\tU M' a s hl ll sl c cs L:=by
 have br:sJ [.ref a.b] M= .ok .non M:=by
  simp only[sJ,tO]
  simp[l.b.fbr,iv.v.br]
 have e1:=T_ l.b T
 rw[iv.line]at e1
 obtain⟨N,hN⟩:∃N:Mem,N=M++[.lst (L.map mV)]:=⟨_,rfl⟩
 rw[<-hN]at e1
 have l1:tU N a s hl ll sl c cs L:=l.gr (by rw[hN];exact Gr.app)
 have q1:sNe (.ref M.length) (.ref ll) N= .ok (.bl false) N:=zy (b:=true) (acd (by rw[hN];exact cF) l1.ln iv.v.ok)
 refine⟨N,?_,l1⟩
 simp only[Qm,Gv]
 simp[l.b.Gh (m:= "broken") rfl,br,l.b.Gh (m:= "line") rfl,e1,q1]
structure acM(ns:List Int)(a:BA)(hl ll sl c:Nat)(cs:List Int)(i:Nat)(e:Sl)(M:Mem):Prop where
 h:∃(s:BO) (L:List En) (last:D) (T:Int) (m:Nat) (v8 v9 v10:Option D),e=Gv ns a hl ll c m last T [v8,v9,v10]/\tU M a s hl ll sl c cs L/\Las c L T m s last/\Lg (10*i) i s/\L.length<=i
theorem aec(hc:c<16)(hi:i<40)(hd:(cs.map D.int)[i]? = some d)(h:acM ns a hl ll sl c cs i e M):
  ∃e1,gN 8 d e=some e1/\(Ja e1 M).to (acM ns a hl ll sl c cs (i+1)) λ_ _=>False:=by
 obtain⟨s,L,last,T,m,v8,v9,v10,rfl,l,ls,g,hq⟩:=h
 obtain⟨x,rfl⟩:∃x:Int,d= .int x:=by
  obtain⟨x,_,rfl⟩:=List.mem_map.mp (jS hd)
  exact⟨x,rfl⟩
 refine⟨Gv ns a hl ll c m last T [some (.int x),v9,v10],rfl,?_⟩
 have md:iW (.int x) (.int 8) M= .ok (.int (x % 8)) M:=mZ ()
 have e1:bV (aC iW (aq 8) (mC (.int 8))) (gN 9) (Gv ns a hl ll c m last T [some (.int x),v9,v10]) M= .next (Gv ns a hl ll c m last T [some (.int x),some (.int (x % 8)),v10]) M:=by
  simp only[Gv]
  simp[md]
 obtain⟨s2,M2,L2,k,T2,m2,w10,e2,l2,i2,g2,q2⟩:=aed (ns:=ns) (x:=x) (v10:=v10) l ls g () () () hc
 obtain⟨M3,e3,l3⟩:=aee (ns:=ns) (last:= .tup [.int (k:Int),.int T2]) (v8:=some (.int x)) (v9:=some (.int (x % 8))) (v10:=w10) l2 i2
 rw[Ja,jl e1,jl e2,e3]
 exact⟨s2,L2,_,T2,m2,_,_,_,rfl,l3,.inr ⟨k,rfl,i2⟩,g2,()⟩
end
def cell(ns:List Int)(k:Nat):Int:=ns.getD k 0
theorem Xz(ns:List Int)(k:Nat){kk:Int}(hk:kk=k):k_ [.cl (ns.map D.int),.int kk] M= .ok (.int (cell ns k)) M:=by
 subst hk
 simp only[k_,uV,yo]
 by_cases h:k<ns.length
 ·have e:bh (.cl (ns.map D.int)) (.int k) M= .ok (.int ns[k]) M:=age () (by simp[h])
  simp[h,e,cell]
 ·simp[h,cell]
theorem aeA{α β:Type}(f:α->β)(xs:List α)(lo hi:Option Int):cut (xs.map f) lo hi=(cut xs lo hi).map f:=by
 unfold cut
 rw[zao,List.map_take,List.map_drop]
section
variable{M:Mem}
theorem amG:DN 0 5=[.int 0,.int 1,.int 2,.int 3,.int 4]:=rfl
def hB(x:Int)(d:D):D:=match d with
 | .int j=> .int (x+11*j)
 | d=>d
theorem abV(ns:List Int):∃c:Nat,c<16/\sZ none Kr (aC rQ (aC iW (bZ k_ 2 [] (au (aq 1) (au (mC (.int 0)) aF))) (mC (.int 16))) (aC O8 (mC (.int 11)) (aq 0))) [some (.cl (ns.map D.int))] (DN 0 5) [] M= .ok (.ref M.length) (M++[.lst (hv (hds c))]):=by
 have c0:=Xz (M:=M) ns 0 (kk:=0) rfl
 have m16:iW (.int (cell ns 0)) (.int 16) M= .ok (.int (cell ns 0 % 16)) M:=mZ ()
 refine⟨(cell ns 0 % 16).toNat,(),?_⟩
 rw[acr (src:=none) (hB (cell ns 0 % 16)) trivial λd hd=>by
  obtain⟨j,hj,rfl⟩:=WW hd
  have mu:O8 (.int 11) (.int (0+(j:Int))) M= .ok (.int (11*(0+(j:Int)))) M:=JX (.inl ())
  simp[c0,m16]
  simp at mu
  simp[mu,hB]]
 congr 3
 have:cell ns 0 % 16=((cell ns 0 % 16).toNat:Int):=()
 rw[amG]
 simp only[List.map_cons,List.map_nil,hB,hds,hv]
 congr 1
 simp only[List.cons.injEq,D.int.injEq,and_true]
 refine⟨(),(),(),(),()⟩
theorem akC(ns:List Int):(cut ns (some 2) (some 42)).length<=40:=by
 unfold cut
 rw[List.length_take]
 refine yY (Nat.min_le_left _ _) ?_
 simp[HT.bh]
 omega
theorem pr0(hT:1<=T):Pr c [] T 0 (b0 (fs c) true true true true):=by
 have e:(mQ [] (fs c))=(fs c,0):=rfl
 refine⟨⟨rfl,rfl,rfl,rfl,λe h=>(by cases h),List.Pairwise.nil,λe h=>(by cases h),hT,λt=>List.prefix_refl _,λt=>List.prefix_refl _,λt h z=>(by cases z),λt z=>(by cases z),λt u _ z=>(by cases z),λt=>zab _,λp h=>(by cases h),.inl rfl,zab _,?_,?_,?_⟩,λh _=> ?_,λh t _=>rfl⟩
 ·show(mQ [] (fs c)).1≠0
  rw[e]
  intro z
  have q:(fs c).testBit c=true:=by rw[K3];simp[hds]
  have z:fs c=0:=z
  rw[z,Nat.zero_testBit]at q
  cases q
 ·show Sub c (mQ [] (fs c)).1
  rw[e];exact Vu
 ·show Sub c (mQ [] (fs c)).2
  rw[e];exact sub_zero
 ·show(0:Int)<=T
  omega
theorem ahd(ns:List Int)(hn:ns.length<=63):∃M,afs [.cl (ns.map D.int)] []= .ok (.bl true) M:=by
 obtain⟨c,hc,e1⟩:=abV (M:=[]) ns
 obtain⟨A,hA⟩:∃A:Mem,A=[]++[MO.lst (hv (hds c))]:=⟨_,rfl⟩
 rw[<-hA]at e1
 have hA0:A[0]? = some (.lst (hv (hds c))):=by rw[hA];rfl
 have lA:A.length=1:=by rw[hA];rfl
 obtain⟨P,e2,_,hP⟩:=Jl (M:=A) (hl:=0) hc hA0 31
 obtain rfl:=hP rfl
 obtain⟨a,C,e3,ab,hb,gC⟩:=VF (M:=A) (S:=fs c)
 obtain⟨T,hT⟩:∃T:Int,T=10 ^ 40:=⟨_,rfl⟩
 have hT0:0<T:=by rw[hT];decide
 obtain⟨T1,hT1⟩:∃T1:Int,T1=1+cell ns 1 % T:=⟨_,rfl⟩
 have t1:1<=T1:=by
  have:=Int.emod_nonneg (cell ns 1) (Int.ne_of_gt hT0)
  omega
 obtain⟨cs,hcs⟩:∃cs,cs=cut ns (some 2) (some 42):=⟨_,rfl⟩
 have ape:cs.length<=40:=by rw[hcs];exact akC ns
 obtain⟨E,hE⟩:∃E:Mem,E=C++[.lst []]:=⟨_,rfl⟩
 obtain⟨F,hF⟩:∃F:Mem,F=E++[.lst (cs.map D.int)]:=⟨_,rfl⟩
 have lE:E.length=C.length+1:=by rw[hE];simp
 have gE:Gr C E:=by rw[hE];exact Gr.app
 have gF:Gr E F:=by rw[hF];exact Gr.app
 have l0:tU F a (b0 (fs c) true true true true) 0 C.length E.length c cs []:=by
  refine⟨(Bx.gr hb (gE.trans gF)).h,gF _ _ (gE _ _ (gC _ _ hA0)),gF _ _ (by rw[hE];exact cF),by rw[hF];exact cF,?_,hb.lt,?_⟩
  ·omega
  ·omega
 have z0:0<=10*0:=zab 0
 obtain⟨e',M1,lp,s1,L1,ao8,T2,m1,w8,w9,w10,he,l1,_⟩:=oW (src:=some (E.length,cs.map D.int)) (g:=gN 8) (b:=Ja) (acM ns a 0 C.length E.length c cs) (ds:=cs.map D.int)
  (e:=Gv ns a 0 C.length c 0 .non T1 [none,none,none]) (M:=F) ⟨_,[],.non,T1,0,none,none,none,rfl,l0,.inl ⟨rfl,rfl,pr0 t1⟩,⟨z0,z0,z0,z0,z0,z0,z0,z0,z0⟩,zab _⟩
  (λi e M' _ q=>by
   obtain⟨s,_,_,_,_,_,_,_,_,l,_⟩:=q.h
   exact dh l.sc)
  λi d e M2 hd hh=>aec hc (by have:=(List.getElem?_eq_some_iff.mp hd).1;simp at this;omega) hd hh
 have k1:=Xz (M:=E) ns 1 (kk:=1) rfl
 have pw:O7 (.int 10) (.int 40) E= .ok (.int T) E:=by rw[RV ⟨(),(),by decide⟩,hT];rfl
 have mT:iW (.int (cell ns 1)) (.int T) E= .ok (.int (cell ns 1 % T)) E:=mZ hT0
 have cm:cut (ns.map D.int) (some 2) (some 42)=cs.map D.int:=by rw[aeA,<-hcs]
 have itr:=sU (M:=F) (n:=E.length) (ds:=cs.map D.int) (by rw[hF];exact cF)
 refine⟨M1,?_⟩
 simp only[Gv,List.cons_append,List.nil_append]at lp
 simp only[afs,acC,Xo]
 simp only[pJ,rC,wK,rB]
 refine(congrArg Ii (jl (e':=[some (.cl (ns.map D.int)),some (.ref 0),none,none,none,none,none,none,none,none,none]) (M':=A) ?_)).trans ?_
 ·simp[r5,ql]
  simp only[List.length_nil]at e1
  simp[e1]
 refine(congrArg Ii (jl (e':=[some (.cl (ns.map D.int)),some (.ref 0),some (.int (fs c:Int)),none,none,none,none,none,none,none,none]) (M':=A) ?_)).trans ?_
 ·simp[e2]
 refine(congrArg Ii (jl (e':=[some (.cl (ns.map D.int)),some (.ref 0),some (.int (fs c:Int)),some (.ref a.b),none,none,none,none,none,none,none]) (M':=C) ?_)).trans ?_
 ·rw[ab]
  simp[e3]
 refine(congrArg Ii (jl (e':=[some (.cl (ns.map D.int)),some (.ref 0),some (.int (fs c:Int)),some (.ref a.b),some (.ref C.length),none,none,none,none,none,none]) (M':=E) ?_)).trans ?_
 ·simp[hE]
 refine(congrArg Ii (jl (e':=[some (.cl (ns.map D.int)),some (.ref 0),some (.int (fs c:Int)),some (.ref a.b),some (.ref C.length),some .non,none,none,none,none,none]) (M':=E) ?_)).trans ?_
 ·simp
 refine(congrArg Ii (jl (e':=[some (.cl (ns.map D.int)),some (.ref 0),some (.int (fs c:Int)),some (.ref a.b),some (.ref C.length),some .non,some (.int 0),none,none,none,none]) (M':=E) ?_)).trans ?_
 ·simp
 refine(congrArg Ii (jl (e':=[some (.cl (ns.map D.int)),some (.ref 0),some (.int (fs c:Int)),some (.ref a.b),some (.ref C.length),some .non,some (.int 0),some (.int T1),none,none,none]) (M':=E) ?_)).trans ?_
 ·simp[k1,pw,mT,<-hT1]
 simp only[O6,adu,abx]
 simp[cm,<-hF,itr]
 simp at lp
 simp[lp]
end
def top(i:Nat):Stmt:=PySem.Challenge.pw_chairvote_k62_writes.main.body.getD i (.Pass ⟨0,0,0,0⟩)
abbrev Ca:Stmt:=top 43
abbrev Ng:Stmt:=top 45
abbrev Ej:Stmt:=top 32
abbrev fU:Stmt:=inClass (top 33) 0
abbrev Em:Stmt:=inClass (top 33) 2
abbrev zq:Stmt:=inClass (top 9) 0
abbrev zb:Stmt:=inClass (top 35) 0
abbrev zc:Stmt:=inClass (top 29) 0
abbrev fV:Stmt:=inClass (top 41) 0
abbrev G7:Stmt:=top 39
abbrev Nb:Stmt:=top 40
abbrev RQ:Stmt:=top 18
abbrev vG:Stmt:=inClass (top 35) 1
abbrev uh:Stmt:=inClass (top 9) 1
abbrev rJ:Stmt:=inClass (top 9) 3
abbrev RN:Stmt:=top 2
abbrev rM:Stmt:=inClass (top 9) 6
abbrev p8:Stmt:=inClass (top 9) 4
abbrev kW:Stmt:=inClass (top 9) 7
abbrev rK:Stmt:=inClass (top 9) 5
abbrev rN:Stmt:=inClass (top 9) 11
abbrev JV:Stmt:=top 3
abbrev qL:Stmt:=inClass (top 9) 10
abbrev aax:Stmt:=top 4
abbrev mF:Stmt:=top 5
abbrev yX:Stmt:=top 6
abbrev El:Stmt:=inClass (top 33) 1
abbrev qN:Stmt:=inClass (top 9) 9
abbrev yg:Stmt:=top 19
abbrev Nf:Stmt:=top 20
abbrev rF:Stmt:=inClass (top 35) 6
abbrev za:Stmt:=inClass (top 35) 2
abbrev rG:Stmt:=inClass (top 35) 13
abbrev uf:Stmt:=inClass (top 29) 1
abbrev rH:Stmt:=inClass (top 29) 4
abbrev vH:Stmt:=inClass (top 41) 5
abbrev qK:Stmt:=inClass (top 41) 3
abbrev vI:Stmt:=inClass (top 9) 13
abbrev vC:Stmt:=top 21
abbrev pR:Stmt:=inClass (top 35) 4
abbrev qH:Stmt:=inClass (top 35) 7
abbrev pQ:Stmt:=inClass (top 35) 11
abbrev qG:Stmt:=inClass (top 35) 10
abbrev y_:Stmt:=inClass (top 35) 3
abbrev pO:Stmt:=inClass (top 35) 5
abbrev pU:Stmt:=inClass (top 35) 16
abbrev nZ:Stmt:=inClass (top 35) 8
abbrev pP:Stmt:=inClass (top 35) 15
abbrev pZ:Stmt:=inClass (top 41) 4
abbrev zp:Stmt:=inClass (top 41) 2
abbrev cz:Stmt:=inClass (top 11) 0
abbrev yj:Stmt:=inClass (top 9) 2
abbrev zu:Stmt:=inClass (top 9) 8
abbrev qM:Stmt:=inClass (top 9) 12
abbrev pX:Stmt:=inClass (top 35) 9
abbrev G8:Stmt:=top 22
abbrev ue:Stmt:=inClass (top 35) 20
abbrev nY:Stmt:=inClass (top 35) 19
abbrev ug:Stmt:=inClass (top 41) 12
abbrev mG:Stmt:=inClass (top 41) 10
abbrev RP:Stmt:=top 23
abbrev yZ:Stmt:=inClass (top 35) 14
abbrev qI:Stmt:=inClass (top 29) 5
abbrev zf:Stmt:=inClass (top 29) 6
abbrev qJ:Stmt:=inClass (top 41) 9
abbrev yh:Stmt:=inClass (top 35) 12
abbrev vD:Stmt:=inClass (top 35) 17
abbrev pY:Stmt:=inClass (top 41) 11
abbrev Eo:Stmt:=inClass (top 41) 1
abbrev G6:Stmt:=top 49
abbrev Ek:Stmt:=top 50
abbrev JT:Stmt:=top 44
abbrev JR:Stmt:=top 47
abbrev JS:Stmt:=top 46
abbrev Nh:Stmt:=top 48
abbrev Ep:Stmt:=inClass (top 41) 18
abbrev zj:Stmt:=inClass (top 41) 15
abbrev G5:Stmt:=top 51
abbrev zm:Stmt:=inClass (top 41) 13
abbrev afe:Stmt:=top 52
noncomputable def oh:List Dsc:=i_ 0 "_law_cell_at" "_law_cell_at" Ca ["_law_script","_law_k"]::
 i_ 0 "_law_set" "_law_set" Ng ["_law_cell","_law_hands"]::
 i_ 0 "wrong_word" "wrong_word" Ej ["words"]::
 i_ 7 "twin" "Rules.twin" Em ["self"]::
 i_ 1 "__init__" "Ballots.__init__" zq ["self","rules"]::
 i_ 8 "__init__" "Strides.__init__" zb ["self","first_roll","rules"]::
 i_ 6 "__init__" "Replies.__init__" zc ["self"]::
 i_ 0 "is_formed" "is_formed" G7 ["paper"]::
 i_ 0 "term_on" "term_on" Nb ["paper"]::
 i_ 0 "end_of" "end_of" RQ ["entries"]::
 i_ 8 "row_of" "Strides.row_of" vG ["self","hand"]::
 i_ 1 "term_of" "Ballots.term_of" uh ["self","hand"]::
 i_ 1 "votes_of" "Ballots.votes_of" rJ ["self","hand","term"]::
 i_ 0 "set_of" "set_of" RN ["hands"]::
 i_ 1 "is_spent" "Ballots.is_spent" rM ["self","hand","term","whom"]::
 i_ 1 "asked_with" "Ballots.asked_with" p8 ["self","hand","term"]::
 i_ 1 "is_good_enough" "Ballots.is_good_enough" kW ["self","whom","term","end"]::
 i_ 1 "may_vote" "Ballots.may_vote" rK ["self","hand","term","whom","end"]::
 i_ 1 "chair_of" "Ballots.chair_of" rN ["self","term"]::
 i_ 0 "hands_of" "hands_of" JV ["S"]::
 i_ 1 "voted_all" "Ballots.voted_all" qL ["self","voters","term","whom"]::
 i_ 0 "many" "many" aax ["S"]::
 i_ 7 "wins" "Rules.wins" El ["self","roll","S"]::
 i_ 1 "may_chair" "Ballots.may_chair" qN ["self","hand","term","voters","end","roll"]::
 i_ 0 "roll_place_of" "roll_place_of" yg ["entries"]::
 i_ 0 "roll_of" "roll_of" Nf ["entries","first_roll"]::
 i_ 8 "row_roll" "Strides.row_roll" rF ["self","hand"]::
 i_ 8 "line" "Strides.line" za ["self","term"]::
 i_ 8 "may_tell" "Strides.may_tell" rG ["self","term","place"]::
 i_ 6 "beat_of" "Replies.beat_of" uf ["self","term"]::
 i_ 6 "may_hear" "Replies.may_hear" rH ["self","term","beat"]::
 i_ 9 "may_tell" "Bench.may_tell" vH ["self","hand","term","place","beat"]::
 i_ 9 "allows_hand" "Bench.allows_hand" qK ["self","paper"]::
 i_ 1 "stands" "Ballots.stands" vI ["self","term"]::
 i_ 0 "start_place_of" "start_place_of" vC ["entries","term"]::
 i_ 8 "mark_up_to" "Strides.mark_up_to" pR ["self","term"]::
 i_ 8 "line_roll" "Strides.line_roll" qH ["self","term"]::
 i_ 8 "may_change" "Strides.may_change" pQ ["self","term","what"]::
 i_ 8 "may_write" "Strides.may_write" qG ["self","term","place","what"]::
 i_ 8 "mark" "Strides.mark" y_ ["self","term"]::
 i_ 8 "place_told" "Strides.place_told" pO ["self","hand","term"]::
 i_ 8 "have_place" "Strides.have_place" pU ["self","chair","term","place","hands"]::
 i_ 8 "are_winners" "Strides.are_winners" nZ ["self","term","hands"]::
 i_ 8 "may_settle" "Strides.may_settle" pP ["self","chair","term","place","hands"]::
 i_ 9 "allows_chair" "Bench.allows_chair" pZ ["self","paper"]::
 i_ 9 "allows" "Bench.allows" zp ["self","paper"]::
 i_ 1 "reach" "Ballots.reach" yj ["self","hand","term"]::
 i_ 1 "cast" "Ballots.cast" zu ["self","hand","term","whom","end"]::
 i_ 1 "take_seat" "Ballots.take_seat" qM ["self","hand","term"]::
 i_ 8 "begin_line" "Strides.begin_line" pX ["self","hand","term"]::
 i_ 0 "are_alike" "are_alike" G8 ["one","two","place"]::
 i_ 8 "is_kept" "Strides.is_kept" ue ["self","lesser","greater"]::
 i_ 8 "lost_behind" "Strides.lost_behind" nY ["self","term"]::
 i_ 9 "find_lost" "Bench.find_lost" ug ["self","term"]::
 i_ 9 "follow_to_chair" "Bench.follow_to_chair" mG ["self","hand","term"]::
 i_ 0 "led_by" "led_by" RP ["line","row","place"]::
 i_ 8 "tell" "Strides.tell" yZ ["self","hand","term","place"]::
 i_ 6 "beat_told" "Replies.beat_told" qI ["self","hand","term"]::
 i_ 6 "hear" "Replies.hear" zf ["self","hand","term","beat"]::
 i_ 9 "follow_hand" "Bench.follow_hand" qJ ["self","paper"]::
 i_ 8 "write" "Strides.write" yh ["self","hand","term","what"]::
 i_ 8 "settle" "Strides.settle" vD ["self","term","place"]::
 i_ 9 "follow_chair" "Bench.follow_chair" pY ["self","paper"]::
 i_ 9 "take" "Bench.take" Eo ["self","paper"]::
 i_ 0 "_law_chair" "_law_chair" G6 ["_law_bench","_law_hands","_law_hand","_law_term","_law_last","_law_size"]::
 i_ 0 "_law_settle" "_law_settle" Ek ["_law_bench","_law_hands","_law_last","_law_line"]::
 i_ 0 "_law_name" "_law_name" JT ["_law_cell"]::
 i_ 0 "_law_what" "_law_what" JR ["_law_cell","_law_roll_here","_law_hands"]::
 i_ 0 "_law_roll" "_law_roll" JS ["_law_line","_law_first"]::
 i_ 0 "_law_due" "_law_due" Nh ["_law_what_here","_law_line","_law_first","_law_term","_law_mark"]::
 i_ 9 "line" "Bench.line" Ep ["self","term"]::
 i_ 9 "row_of" "Bench.row_of" zj ["self","h"]::
 i_ 0 "_law_write" "_law_write" G5 ["_law_bench","_law_last","_law_line","_law_first","_law_mark","_law_cell","_law_hands"]::
 i_ 9 "broken" "Bench.broken" zm ["self"]::
 i_ 0 "law" "law" afe ["_law_script"]::[]
set_option genInjectivity false in
structure Adr where
 c:Nat->Addr
 xs:List Fv
 qX:Addr
 nF:FuncData
 DX:Addr
 Eb:Tok
 qY:Addr
 nG:FuncData
 DY:Addr
 Bs:Addr
 vX:FuncData
 MN:Addr
 K4:Addr
 K8:FuncData
 Z1:Addr
 gZ:Addr
 jU:FuncData
 GD:Addr
 Dj:Addr
 Qu:Addr
def Adr.f(t:Adr)(i:Nat):Addr:=(t.xs.getD i fv0).f
def Adr.d(t:Adr)(i:Nat):FuncData:=(t.xs.getD i fv0).fd (oh.getD i d0)
structure Txt(K:Frag)(mg:Str->Option Value)(t:Adr):Prop where
 D:Q5 K t.c oh t.xs
 G:∀(x:Str) (f:Addr),nsIn K mainGlobals x=some (some (.ref f))->mg x=some (.ref f)
 Cq:yJ K "__init__" "Rules.__init__" fU (.ref t.DX) t.qX t.nF
 nO:Binds K t.nF ["self","text"] []
 uW:Binds K t.nF ["self","text"] [.str "once best own most" t.Eb]
 Cr:yJ K "__init__" "Bench.__init__" fV (.ref t.DY) t.qY t.nG
 nQ:Binds K t.nG ["self","S","rules"] []
 CG:Binds K t.nG ["self","S","rules"] [.none]
 xV:yJ K "carries" "carries" mF (.ref t.MN) t.Bs t.vX
 oZ:Binds K t.vX ["S","part","half"] []
 VH:Binds K t.vX ["S","part","half"] [.bool false]
 CW:mg "carries" = some (.ref t.Bs)
 Qw:yJ K "wins" "wins" yX (.ref t.Z1) t.K4 t.K8
 Ax:Binds K t.K8 ["roll","S","half"] []
 aeQ:Binds K t.K8 ["roll","S","half"] [.bool false]
 ad_:mg "wins" = some (.ref t.K4)
 ux:yJ K "__init__" "HallError.__init__" cz .none t.gZ t.jU
 v5:Binds K t.jU ["self","at"] []
 rW:Mk K (t.c 6) t.qX
 nH:Lz K (t.c 6)
 Ke:mg "Rules" = some (.ref (t.c 6))
 vO:Bf K (t.c 6) ["once","best","own","most"]
 oN:Mk K (t.c 0) (t.f 4)
 aO:Lz K (t.c 0)
 Kg:mg "Ballots" = some (.ref (t.c 0))
 cI:Bf K (t.c 0) ["rules","terms","votes","askings","seated"]
 oJ:Mk K (t.c 7) (t.f 5)
 aJ:Lz K (t.c 7)
 Kd:mg "Strides" = some (.ref (t.c 7))
 cH:Bf K (t.c 7) ["first_roll","rules","rows","lines","marks","places"]
 oK:Mk K (t.c 5) (t.f 6)
 gG:Lz K (t.c 5)
 Kf:mg "Replies" = some (.ref (t.c 5))
 oH:Bf K (t.c 5) ["beats","heard","looks","seen"]
 vQ:Mk K (t.c 8) t.qY
 bQ:Lz K (t.c 8)
 SM:mg "Bench" = some (.ref (t.c 8))
 vP:Bf K (t.c 8) ["first","rules","ballots","strides","replies","count","breach"]
 PL:mg "HallError" = some (.ref (t.c 1))
 Og:XMk K (t.c 1) t.gZ
 Oi:Mz K (t.c 1) "at"
 Oh:XIs K (t.c 1)
 wA:exmOne K (.ref (t.c 1)) (.ref (t.c 1))=some true
 xJ:kitOne K (.ref (t.c 1)) (.ref (t.c 1))=some true
 nW:exmOne K (.ref (t.c 1)) (.ref (t.c 2))=some false
 yF:kitOne K (.ref (t.c 1)) (.ref (t.c 2))=some false
 zV:mg "BadPaper" = some (.ref (t.c 2))
 G3:XMk K (t.c 2) t.gZ
 G4:Mz K (t.c 2) "at"
 Q8:XIs K (t.c 2)
 yt:exmOne K (.ref (t.c 2)) (.ref (t.c 1))=some true
 yG:kitOne K (.ref (t.c 2)) (.ref (t.c 1))=some true
 pM:exmOne K (.ref (t.c 2)) (.ref (t.c 2))=some true
 Ab:kitOne K (.ref (t.c 2)) (.ref (t.c 2))=some true
 Ci:mg "wins_rolls" = some (.ref t.K4)
 abv:mg "all" = none
 zZ:mg "enumerate" = none
 jo:mg "len" = none
 Vg:mg "list" = none
 Nu:mg "max" = none
 afr:mg "min" = none
 Bm:mg "range" = none
 S6:mg "sorted" = none
 xj:mg "CHOICES" = some (.ref t.GD)
 wH:∀ct ι n H,S.DV K ct ι n H (.mW [(.mW [(.str "once"),(.str "free")]),(.mW [(.str "best"),(.str "any")]),(.mW [(.str "own"),(.str "old")]),(.mW [(.str "most"),(.str "half")])]) (.ref t.GD)
 um:mg "OF_HANDS" = some (.ref t.Dj)
 t_:∀ct ι n H,S.DV K ct ι n H (.mW [(.str "vote"),(.str "chair"),(.str "told")]) (.ref t.Dj)
 SJ:mg "SIZES" = some (.ref t.Qu)
 Rq:ah6 K t.Qu [("vote",4),("chair",4),("write",4),("beat",3),("told",5),("settle",4),("answer",6),("look",6),("seen",8)]
section
variable{P:Program}{w:World}{K:Frag}{mg:Str->Option Value}{base:Heap}{t:Adr}
theorem Txt.fn(T:Txt K mg t)(i:Nat)(h:Nat.blt i oh.length=true:=by rfl):yJ K (oh.getD i d0).2.1 (oh.getD i d0).2.2.1 (oh.getD i d0).2.2.2.1 .none (t.f i) (t.d i):=T.D.fn h
theorem Txt.kp(T:Txt K mg t)(i:Nat)(h:Nat.blt i oh.length=true:=by rfl):keepIn K (.ref (t.f i))=true:=(T.D.ok h).kp
theorem Txt.b(T:Txt K mg t)(i:Nat)(h:Nat.blt i oh.length=true:=by rfl):Binds K (t.d i) (oh.getD i d0).2.2.2.2 []:=T.D.b h
theorem Txt.me(T:Txt K mg t)(i:Nat)(h:Nat.blt i oh.length=true:=by rfl)(h1:((oh.getD i d0).1==0)=false:=by rfl):Meth K (t.c ((oh.getD i d0).1 - 1)) (oh.getD i d0).2.1 (t.f i):=T.D.me h h1
theorem Txt.mf(T:Txt K mg t)(i:Nat)(h:Nat.blt i oh.length=true:=by rfl)(h1:((oh.getD i d0).1==0)=true:=by rfl):mg (oh.getD i d0).2.1=some (.ref (t.f i)):=T.G _ _ ((T.D.ok h).a0 h1)
theorem Eh:pL ["self","at"] ["self","at"] (aZ cz):=ie
abbrev je{K:Frag}{mg:Str->Option Value}{t:Adr}(_:Txt K mg t)(i lv:Nat)(m:S.Fn)(ar:Nat):Prop:=∀{P:Program} {w:World} {base:Heap},gw P w K mg base (DK P w) lv (t.f i) (t.d i) (oh.getD i d0).2.2.2.2 (S.spS K t.c m ar)
theorem Txt.gM(T:Txt K mg t)(i:Nat)(e:Nat.blt i (["once","best","own","most"]:List Str).length=true:=by rfl):S.vg K t.c ((["once","best","own","most"]:List Str).getD i "") [6]:=⟨⟨T.nH,T.vO.get e⟩,zaa⟩
theorem Txt.d9(T:Txt K mg t)(i:Nat)(e:Nat.blt i (["rules","terms","votes","askings","seated"]:List Str).length=true:=by rfl):S.vg K t.c ((["rules","terms","votes","askings","seated"]:List Str).getD i "") [0]:=⟨⟨T.aO,T.cI.get e⟩,zaa⟩
theorem Txt.cA(T:Txt K mg t)(i:Nat)(e:Nat.blt i (["first_roll","rules","rows","lines","marks","places"]:List Str).length=true:=by rfl):S.vg K t.c ((["first_roll","rules","rows","lines","marks","places"]:List Str).getD i "") [7]:=⟨⟨T.aJ,T.cH.get e⟩,zaa⟩
theorem Txt.oG(T:Txt K mg t)(i:Nat)(e:Nat.blt i (["beats","heard","looks","seen"]:List Str).length=true:=by rfl):S.vg K t.c ((["beats","heard","looks","seen"]:List Str).getD i "") [5]:=⟨⟨T.gG,T.oH.get e⟩,zaa⟩
theorem Txt.a_(T:Txt K mg t)(i:Nat)(e:Nat.blt i (["first","rules","ballots","strides","replies","count","breach"]:List Str).length=true:=by rfl):S.vg K t.c ((["first","rules","ballots","strides","replies","count","breach"]:List Str).getD i "") [8]:=⟨⟨T.bQ,T.vP.get e⟩,zaa⟩
theorem zG(T:Txt K mg t):je T 0 1 (aP 2 uV) 2:=bT (st:=Ca) ["_law_script","_law_k"] (T.fn 0) ie λh n u=>
 (aB (bC (aV (GQ u) (aj 1) (bD fL rfl T.jo fM (ao (aj 0) az)) (aG _)) (aD (aK (aN u (aj 0) (aj 1)))) bu)
  (aD (aK aA)))
theorem wR(T:Txt K mg t):je T 1 1 (aP 4 GR) 2:=bT (st:=Ng) ["_law_cell","_law_hands","_law_some","_law_k"] (T.fn 1) ie λh n u=>
 (aB (bf (i:=2) n rfl jj aA)
  (aB (uC (jm rfl rfl) rfl (vA rfl T.Bm (ao aA az)) (iu (i:=3) n rfl jj) (aD (bf (i:=2) n rfl jj (aR nJ (aj 2) (aR Dl (aR Lj (aR ahT (aj 0) (aj 3)) aA) (aN u (aj 1) (aj 3)))))))
  (aD (aK (aj 2)))))
theorem Mg(T:Txt K mg t):je T 2 1 (aP 3 x_) 1:=bT (st:=Ej) ["words","k","choice"] (T.fn 2) ie λh n u=>
 (aB (uC (jm rfl rfl) rfl (aas rfl T.zZ (Bk rfl T.xj λι n H=>T.wH _ ι n H)) (UT rfl (rD (iu (i:=1) n rfl jj) (rD (iu (i:=2) n rfl jj) OD))) (aD (bC (SW.pt (BZ (aV acy (aj 1) (bD fL rfl T.jo fM (ao (aj 0) az)) (aG _)) (yW (aV (acw u) (aN u (aj 0) (aj 1)) (aj 2) (by with_unfolding_all rfl))))) (aD (aK (aj 1))) bu)))
  (aB (bC (aV FZ (bD fL rfl T.jo fM (ao (aj 0) az)) (bD fL rfl T.jo fM (ao (Bk rfl T.xj λι n H=>T.wH _ ι n H) az)) (aG _)) (aD (aK (bD fL rfl T.jo fM (ao (Bk rfl T.xj λι n H=>T.wH _ ι n H) az)))) bu)
  (aD (aK j0))))
theorem Ce(T:Txt K mg t):gw P w K mg base (DK P w) (1+1) t.qX t.nF ["self","text"] (spS K t.c (aP 4 nO) 2):=bT (st:=fU) ["self","text","words","wrong"] T.Cq ie λh n u=>
 (aB (bf (i:=2) n rfl jj (afd PySem.F.plainAttrs_str PySem.F.slot_str_split PySem.F.type_str_split abp (aj 1) (ao bF az)))
  (aB (bf (i:=3) n rfl jj (bw (Mg T) cQ h.mo rfl (T.mf 2) (T.kp 2) (T.b 2) .nil (ao (aj 2) az)))
  (aB (bC (aV vZ (aj 3) j0 (aG _)) (aD pN) bu)
  (aB (cG (T.gM 0) (aj 0) (bK (bR u) (aN u (aj 2) aA) bF (aG _)))
  (aB (cG (T.gM 1) (aj 0) (bK (bR u) (aN u (aj 2) aA) bF (aG _)))
  (aB (cG (T.gM 2) (aj 0) (bK (bR u) (aN u (aj 2) aA) bF (aG _)))
  (aD (cG (T.gM 3) (aj 0) (bK (bR u) (aN u (aj 2) aA) bF (aG _))))))))))
theorem Mi(T:Txt K mg t):je T 3 4 (aP 2 Gd) 1:=bT (st:=Em) ["self","like"] (T.fn 3) ie λh n u=>
 (aB (bf (i:=1) n rfl jj (JP (kc:=6) T.rW (Ce T) cQ h.mo rfl T.Ke T.uW (.cons (.str _ _) .nil)))
  (aB (cG (T.gM 0) (aj 1) (aW (T.gM 0) (aj 0)))
  (aB (cG (T.gM 1) (aj 1) (aW (T.gM 1) (aj 0)))
  (aB (cG (T.gM 2) (aj 1) (aW (T.gM 2) (aj 0)))
  (aB (cG (T.gM 3) (aj 1) (aW (T.gM 3) (aj 0)))
  (aD (aK (aj 1))))))))
theorem Iw(T:Txt K mg t):je T 4 1 (aP 2 tQ) 2:=bT (st:=zq) ["self","rules"] (T.fn 4) ie λh n u=>
 (aB (cG (cs:=[0,7,8]) ⟨⟨T.aO,(T.cI.get (i:=0) rfl)⟩,⟨⟨T.aJ,(T.cH.get (i:=1) rfl)⟩,(T.a_ 1)⟩⟩ (aj 0) (aj 1))
  (aB (cG (T.d9 1) (aj 0) lD)
  (aB (cG (T.d9 2) (aj 0) lD)
  (aB (cG (T.d9 3) (aj 0) lD)
  (aD (cG (T.d9 4) (aj 0) lD))))))
theorem Il(T:Txt K mg t):je T 5 1 (aP 3 tH) 3:=bT (st:=zb) ["self","first_roll","rules"] (T.fn 5) ie λh n u=>
 (aB (cG (T.cA 0) (aj 0) (aj 1))
  (aB (cG (cs:=[0,7,8]) ⟨⟨T.aO,(T.cI.get (i:=0) rfl)⟩,⟨⟨T.aJ,(T.cH.get (i:=1) rfl)⟩,(T.a_ 1)⟩⟩ (aj 0) (aj 2))
  (aB (cG (T.cA 2) (aj 0) lD)
  (aB (cG (T.cA 3) (aj 0) lD)
  (aB (cG (T.cA 4) (aj 0) lD)
  (aD (cG (T.cA 5) (aj 0) lD)))))))
theorem Im(T:Txt K mg t):je T 6 1 (aP 1 tK) 1:=bT (st:=zc) ["self"] (T.fn 6) ie λh n u=>
 (aB (cG (T.oG 0) (aj 0) lD)
  (aB (cG (T.oG 1) (aj 0) lD)
  (aB (cG (T.oG 2) (aj 0) lD)
  (aD (cG (T.oG 3) (aj 0) lD)))))
theorem Mj(T:Txt K mg t):gw P w K mg base (DK P w) (4+1) t.qY t.nG ["self","S","rules"] (spS K t.c (aP 3 nQ) 3):=bT (st:=fV) ["self","S","rules"] T.Cr ie λh n u=>
 (aB (cG (T.a_ 0) (aj 0) (aj 1))
  (aB (cG (cs:=[0,7,8]) ⟨⟨T.aO,(T.cI.get (i:=0) rfl)⟩,⟨⟨T.aJ,(T.cH.get (i:=1) rfl)⟩,(T.a_ 1)⟩⟩ (aj 0) (ai6 (aV T7 (aj 2) j0 (aG _)) (JP (kc:=6) T.rW (Ce T) cQ h.mo rfl T.Ke T.uW (.cons (.str _ _) .nil)) (RJ (kc:=6) (aj 2) T.nH (T.me 3) (Mi T) cQ h.mo (T.b 3) .nil)))
  (aB (cG (T.a_ 2) (aj 0) (O2 (kc:=0) T.oN (Iw T) cQ h.mo rfl T.Kg (T.b 4) .nil (ao (aW (cs:=[0,7,8]) ⟨⟨T.aO,(T.cI.get (i:=0) rfl)⟩,⟨⟨T.aJ,(T.cH.get (i:=1) rfl)⟩,(T.a_ 1)⟩⟩ (aj 0)) az)))
  (aB (cG (T.a_ 3) (aj 0) (O2 (kc:=7) T.oJ (Il T) cQ h.mo rfl T.Kd (T.b 5) .nil (ao (bO (ao (aj 1) (ao aA az))) (ao (aW (cs:=[0,7,8]) ⟨⟨T.aO,(T.cI.get (i:=0) rfl)⟩,⟨⟨T.aJ,(T.cH.get (i:=1) rfl)⟩,(T.a_ 1)⟩⟩ (aj 0)) az))))
  (aB (cG (T.a_ 4) (aj 0) (JP (kc:=5) T.oK (Im T) cQ h.mo rfl T.Kf (T.b 6) .nil))
  (aB (cG (T.a_ 5) (aj 0) aA)
  (aD (cG (T.a_ 6) (aj 0) j0))))))))
theorem Py(T:Txt K mg t):je T 7 1 (aP 1 mO) 1:=bT (st:=G7) ["paper"] (T.fn 7) ie λh n u=>
 (aD (aK (j4 (bK FZ (bD fL rfl T.jo fM (ao (aj 0) az)) aA (aG _)) (iw (bK (bR u) (adl [("vote",4),("chair",4),("write",4),("beat",3),("told",5),("settle",4),("answer",6),("look",6),("seen",8)] rfl T.SJ T.Rq (aN u (aj 0) aA)) (bD fL rfl T.jo fM (ao (aj 0) az)) (aG _))))))
theorem Va(T:Txt K mg t):je T 8 1 (aP 1 rm) 1:=bT (st:=Nb) ["paper"] (T.fn 8) ie λh n u=>
 (aB (bC (aV (XH u) (aN u (aj 0) aA) (Bk rfl T.um λι n H=>T.t_ _ ι n H) (by with_unfolding_all rfl)) (aD (aK (aN u (aj 0) aA))) bu)
  (aD (aK (aN u (aj 0) aA))))
theorem Nt(T:Txt K mg t):je T 9 1 (aP 1 Gb) 1:=bT (st:=RQ) ["entries"] (T.fn 9) ie λh n u=>
 (aB (bC (aV (bR u) (bD fL rfl T.jo fM (ao (aj 0) az)) aA (aG _)) (aD (aK (bO (ao aA (ao aA az))))) bu)
  (aD (aK (bO (ao (aN u (aN u (aj 0) (aau Uu aA)) aA) (ao (bD fL rfl T.jo fM (ao (aj 0) az)) az))))))
theorem dw(T:Txt K mg t):je T 10 1 (aP 2 pq) 2:=bT (st:=vG) ["self","hand"] (T.fn 10) ie λh n u=>
 (aD (aK (ud u (aW (T.cA 2) (aj 0)) (aj 1) (bO az))))
theorem eZ(T:Txt K mg t):je T 11 1 (aP 2 nU) 2:=bT (st:=uh) ["self","hand"] (T.fn 11) ie λh n u=>
 (aD (aK (ud u (aW (T.d9 1) (aj 0)) (aj 1) aA)))
theorem j5(T:Txt K mg t):je T 12 1 (aP 3 l_) 3:=bT (st:=rJ) ["self","hand","term"] (T.fn 12) ie λh n u=>
 (aD (aK (ud u (aW (T.d9 2) (aj 0)) (bO (ao (aj 1) (ao (aj 2) az))) aA)))
theorem Gs(T:Txt K mg t):je T 13 1 (aP 3 Lp) 1:=bT (st:=RN) ["hands","S","hand"] (T.fn 13) ie λh n u=>
 (aB (bf (i:=1) n rfl jj aA)
  (aB (uC (jm rfl rfl) rfl (CN (aj 0)) (iu (i:=2) n rfl jj) (aD (bf (i:=1) n rfl jj (aR XF (aj 1) (aR Dl aA (aj 2))))))
  (aD (aK (aj 1)))))
theorem BR(T:Txt K mg t):je T 14 2 (aP 5 iT) 4:=bT (st:=rM) ["self","hand","term","whom","votes"] (T.fn 14) ie λh n u=>
 (aB (bf (i:=4) n rfl jj (aH (kc:=0) (aj 0) T.aO (T.me 12) (j5 T) cQ h.mo (T.b 12) .nil (ao (aj 1) (ao (aj 2) az))))
  (aB (bC (rA (aW (T.gM 0) (aW (cs:=[0,7,8]) ⟨⟨T.aO,(T.cI.get (i:=0) rfl)⟩,⟨⟨T.aJ,(T.cH.get (i:=1) rfl)⟩,(T.a_ 1)⟩⟩ (aj 0)))) (aD (aK (bK (lz u) (aj 4) aA (aG _)))) bu)
  (aD (aK (bK (lz u) (aR Lj (aj 4) (bw (Gs T) cQ h.mo rfl (T.mf 13) (T.kp 13) (T.b 13) .nil (ao (wL (ao (aj 3) az)) az))) aA (aG _))))))
theorem n8(T:Txt K mg t):je T 15 1 (aP 3 jJ) 3:=bT (st:=p8) ["self","hand","term"] (T.fn 15) ie λh n u=>
 (aD (aK (Wg u (aW (T.d9 3) (aj 0)) (bO (ao (aj 1) (ao (aj 2) az))))))
theorem tX(T:Txt K mg t):je T 16 2 (aP 5 dR) 4:=bT (st:=kW) ["self","whom","term","end","asked"] (T.fn 16) ie λh n u=>
 (aB (bf (i:=4) n rfl jj (aH (kc:=0) (aj 0) T.aO (T.me 15) (n8 T) cQ h.mo (T.b 15) .nil (ao (aj 1) (ao (aj 2) az))))
  (aB (bC (aV T7 (aj 4) j0 (aG _)) (aD (aK mD)) bu)
  (aD (aK (RG (bK (ahY u) (aj 3) (aj 4) (aG _)) (iw (aav (aW (T.gM 1) (aW (cs:=[0,7,8]) ⟨⟨T.aO,(T.cI.get (i:=0) rfl)⟩,⟨⟨T.aJ,(T.cH.get (i:=1) rfl)⟩,(T.a_ 1)⟩⟩ (aj 0))))))))))
theorem BP(T:Txt K mg t):je T 17 3 (aP 5 dI) 5:=bT (st:=rK) ["self","hand","term","whom","end"] (T.fn 17) ie λh n u=>
 (aB (bC (SW.pt (BZ (aV (GQ u) (aj 2) (aH (kc:=0) (aj 0) T.aO (T.me 11) (eZ T) cQ h.mo (T.b 11) .nil (ao (aj 1) az)) (aG _)) (yW (rA (aH (kc:=0) (aj 0) T.aO (T.me 14) (BR T) cQ h.mo (T.b 14) .nil (ao (aj 1) (ao (aj 2) (ao (aj 3) az)))))))) (aD (aK mD)) bu)
  (aB (bC (aV (bR u) (aj 3) (aj 1) (aG _)) (aD (aK (bK FZ (aj 2) (aH (kc:=0) (aj 0) T.aO (T.me 11) (eZ T) cQ h.mo (T.b 11) .nil (ao (aj 1) az)) (aG _)))) bu)
  (aD (aK (aH (kc:=0) (aj 0) T.aO (T.me 16) (tX T) cQ h.mo (T.b 16) .nil (ao (aj 3) (ao (aj 2) (ao (aj 4) az))))))))
theorem d_(T:Txt K mg t):je T 18 1 (aP 2 mj) 2:=bT (st:=rN) ["self","term"] (T.fn 18) ie λh n u=>
 (aD (aK (Wg u (aW (T.d9 4) (aj 0)) (aj 1))))
theorem zH(T:Txt K mg t):je T 19 1 (aP 1 Dr) 1:=bT (st:=JV) ["S"] (T.fn 19) ie λh n u=>
 (aD (aK (O3 rfl ["S"] [0] (vA rfl T.Bm (ao (af7 PySem.F.plainAttrs_int PySem.F.slot_int_bit_length PySem.F.type_int_bit_length ad9 (aj 0)) az)) ⟨⟨rfl,rfl,by first | exact .inl rfl | exact .inr rfl⟩,zaa⟩ (λ_ _ _ _ _=>(Wb (aV (lz u) (aR Lj (aj 1) (aR Dl aA (aj 0))) aA (aG _)))) (λ_ _ _ _ _=>(aj 0)) (by decide +kernel) (by decide +kernel) (by decide +kernel) (by decide +kernel))))
theorem zN(T:Txt K mg t):je T 20 2 (aP 4 kj) 4:=bT (st:=qL) ["self","voters","term","whom"] (T.fn 20) ie λh n u=>
 (aD (aK (bD (acq rfl) rfl T.abv acv (ao (O3 rfl ["term","self","whom"] [2,0,3] (CN (bw (zH T) cQ h.mo rfl (T.mf 19) (T.kp 19) (T.b 19) .nil (ao (aj 1) az))) ⟨⟨rfl,rfl,by first | exact .inl rfl | exact .inr rfl⟩,⟨⟨rfl,rfl,by first | exact .inl rfl | exact .inr rfl⟩,⟨⟨rfl,rfl,by first | exact .inl rfl | exact .inr rfl⟩,zaa⟩⟩⟩ (λ_ _ _ _ _=>Ov) (λ_ _ _ _ _=>(bK (lz u) (aR Lj (aH (kc:=0) (aj 2) T.aO (T.me 12) (j5 T) Tk.none h.mo (T.b 12) .nil (ao (aj 0) (ao (aj 1) az))) (bw (Gs T) Tk.none h.mo rfl (T.mf 13) (T.kp 13) (T.b 13) .nil (ao (wL (ao (aj 3) az)) az))) aA (aG _))) (by decide +kernel) (by decide +kernel) (by decide +kernel) (by decide +kernel)) az))))
theorem Pq(T:Txt K mg t):je T 21 2 (aP 1 VG) 1:=bT (st:=aax) ["S"] (T.fn 21) ie λh n u=>
 (aD (aK (bD fL rfl T.jo fM (ao (bw (zH T) cQ h.mo rfl (T.mf 19) (T.kp 19) (T.b 19) .nil (ao (aj 0) az)) az))))
theorem Ka(T:Txt K mg t):gw P w K mg base (DK P w) (2+1) t.Bs t.vX ["S","part","half"] (spS K t.c (aP 4 oZ) 3):=bT (st:=mF) ["S","part","half","twice"] T.xV ie λh n u=>
 (aB (bf (i:=3) n rfl jj (aR VD aA (bw (Pq T) cQ h.mo rfl (T.mf 21) (T.kp 21) (T.b 21) .nil (ao (aR Lj (aj 0) (aj 1)) az))))
  (aB (bC (rA (aj 2)) (aD (aK (bK acy (aj 3) (bw (Pq T) cQ h.mo rfl (T.mf 21) (T.kp 21) (T.b 21) .nil (ao (aj 1) az)) (aG _)))) bu)
  (aD (aK (bK FZ (aj 3) (bw (Pq T) cQ h.mo rfl (T.mf 21) (T.kp 21) (T.b 21) .nil (ao (aj 1) az)) (aG _))))))
theorem ad4(T:Txt K mg t):gw P w K mg base (DK P w) (3+1) t.K4 t.K8 ["roll","S","half"] (spS K t.c (aP 3 Ax) 3):=bT (st:=yX) ["roll","S","half"] T.Qw ie λh n u=>
 (aB (bC (JM (rA (bw (Ka T) cQ h.mo rfl T.CW T.xV.kp T.oZ .nil (ao (aj 1) (ao (aN u (aj 0) aA) (ao (aj 2) az)))))) (aD (aK mD)) bu)
  (aD (aK (RG (bK (bR u) (aN u (aj 0) aA) aA (aG _)) (iw (bw (Ka T) cQ h.mo rfl T.CW T.xV.kp T.oZ .nil (ao (aj 1) (ao (aN u (aj 0) aA) (ao (aj 2) az)))))))))
theorem Cd(T:Txt K mg t):je T 22 5 (aP 3 yd) 3:=bT (st:=El) ["self","roll","S"] (T.fn 22) ie λh n u=>
 (aD (aK (bw (ad4 T) cQ h.mo rfl T.Ci T.Qw.kp T.Ax .nil (ao (aj 1) (ao (aj 2) (ao (aav (aW (T.gM 3) (aj 0))) az))))))
theorem zP(T:Txt K mg t):je T 23 6 (aP 6 cO) 6:=bT (st:=qN) ["self","hand","term","voters","end","roll"] (T.fn 23) ie λh n u=>
 (aB (bC (SW.pt (BZ (aV (lz u) (aH (kc:=0) (aj 0) T.aO (T.me 11) (eZ T) cQ h.mo (T.b 11) .nil (ao (aj 1) az)) (aj 2) (aG _)) (yW (aV (bR u) (aH (kc:=0) (aj 0) T.aO (T.me 18) (d_ T) cQ h.mo (T.b 18) .nil (ao (aj 2) az)) (aj 1) (aG _))))) (aD (aK mD)) bu)
  (aB (bC (aV (lz u) (aH (kc:=0) (aj 0) T.aO (T.me 15) (n8 T) cQ h.mo (T.b 15) .nil (ao (aj 1) (ao (aj 2) az))) (aj 4) (aG _)) (aD (aK mD)) bu)
  (aD (aK (j4 (aH (kc:=0) (aj 0) T.aO (T.me 20) (zN T) cQ h.mo (T.b 20) .nil (ao (aj 3) (ao (aj 2) (ao (aj 1) az)))) (iw (aH (kc:=6) (aW (cs:=[0,7,8]) ⟨⟨T.aO,(T.cI.get (i:=0) rfl)⟩,⟨⟨T.aJ,(T.cH.get (i:=1) rfl)⟩,(T.a_ 1)⟩⟩ (aj 0)) T.nH (T.me 22) (Cd T) cQ h.mo (T.b 22) .nil (ao (aj 5) (ao (aj 3) az)))))))))
theorem vK(T:Txt K mg t):je T 24 1 (aP 2 qz) 1:=bT (st:=yg) ["entries","place"] (T.fn 24) ie λh n u=>
 (aB (bf (i:=1) n rfl jj (bD fL rfl T.jo fM (ao (aj 0) az)))
  (aB (aal (jm rfl rfl) (SW.pt (JL (aV FZ (aj 1) aA (aG _)) (Jb (aV (lz u) (aN u (aN u (aN u (aj 0) (aR GP (aj 1) aA)) aA) aA) bF (aG _))))) (aD (bf (i:=1) n rfl jj (aR GP (aj 1) aA))))
  (aD (aK (aj 1)))))
theorem J_(T:Txt K mg t):je T 25 2 (aP 4 Bv) 2:=bT (st:=Nf) ["entries","first_roll","place","what"] (T.fn 25) ie λh n u=>
 (aB (bf (i:=2) n rfl jj (bw (vK T) cQ h.mo rfl (T.mf 24) (T.kp 24) (T.b 24) .nil (ao (aj 0) az)))
  (aB (bC (aV (bR u) (aj 2) aA (aG _)) (aD (aK (aj 1))) bu)
  (aB (bf (i:=3) n rfl jj (aN u (aN u (aj 0) (aR GP (aj 2) aA)) aA))
  (aD (aK (bO (ao (aN u (aj 3) aA) (ao (aN u (aj 3) aA) az))))))))
theorem BJ(T:Txt K mg t):je T 26 3 (aP 2 lX) 2:=bT (st:=rF) ["self","hand"] (T.fn 26) ie λh n u=>
 (aD (aK (bw (J_ T) cQ h.mo rfl (T.mf 25) (T.kp 25) (T.b 25) .nil (ao (aH (kc:=7) (aj 0) T.aJ (T.me 10) (dw T) cQ h.mo (T.b 10) .nil (ao (aj 1) az)) (ao (aW (T.cA 0) (aj 0)) az)))))
theorem cu(T:Txt K mg t):je T 27 1 (aP 2 tE) 2:=bT (st:=za) ["self","term"] (T.fn 27) ie λh n u=>
 (aD (aK (ud u (aW (T.cA 3) (aj 0)) (aj 1) (bO az))))
theorem BK(T:Txt K mg t):je T 28 2 (aP 3 lY) 3:=bT (st:=rG) ["self","term","place"] (T.fn 28) ie λh n u=>
 (aD (aK (j4 (bK Li aA (aj 2) (aG _)) (iw (bK Li (aj 2) (bD fL rfl T.jo fM (ao (aH (kc:=7) (aj 0) T.aJ (T.me 27) (cu T) cQ h.mo (T.b 27) .nil (ao (aj 1) az)) az)) (aG _))))))
theorem CT(T:Txt K mg t):je T 29 1 (aP 2 nP) 2:=bT (st:=uf) ["self","term"] (T.fn 29) ie λh n u=>
 (aD (aK (ud u (aW (T.oG 0) (aj 0)) (aj 1) aA)))
theorem BL(T:Txt K mg t):je T 30 2 (aP 3 lZ) 3:=bT (st:=rH) ["self","term","beat"] (T.fn 30) ie λh n u=>
 (aD (aK (j4 (bK Li aA (aj 2) (aG _)) (iw (bK Li (aj 2) (aH (kc:=5) (aj 0) T.gG (T.me 29) (CT T) cQ h.mo (T.b 29) .nil (ao (aj 1) az)) (aG _))))))
theorem E_(T:Txt K mg t):je T 31 3 (aP 6 pA) 5:=bT (st:=vH) ["self","hand","term","place","beat","chair"] (T.fn 31) ie λh n u=>
 (aB (bf (i:=5) n rfl jj (aH (kc:=0) (aW (T.a_ 2) (aj 0)) T.aO (T.me 18) (d_ T) cQ h.mo (T.b 18) .nil (ao (aj 2) az)))
  (aB (bC (SW.pt (BZ (aV T7 (aj 5) j0 (aG _)) (BZ (aV (bR u) (aj 5) (aj 1) (aG _)) (yW (aV (GQ u) (aj 2) (aH (kc:=0) (aW (T.a_ 2) (aj 0)) T.aO (T.me 11) (eZ T) cQ h.mo (T.b 11) .nil (ao (aj 1) az)) (aG _)))))) (aD (aK mD)) bu)
  (aD (aK (j4 (aH (kc:=7) (aW (T.a_ 3) (aj 0)) T.aJ (T.me 28) (BK T) cQ h.mo (T.b 28) .nil (ao (aj 2) (ao (aj 3) az))) (iw (aH (kc:=5) (aW (T.a_ 4) (aj 0)) T.gG (T.me 30) (BL T) cQ h.mo (T.b 30) .nil (ao (aj 2) (ao (aj 4) az)))))))))
theorem zM(T:Txt K mg t):je T 32 7 (aP 4 eF) 2:=bT (st:=qK) ["self","paper","hand","end"] (T.fn 32) ie λh n u=>
 (@aB _ _ _ _ _ _ _ (bf (i:=2) n rfl jj (aN u (aj 1) aA)) (@aB _ _ _ _ _ _ _ (bf (i:=3) n rfl jj (bw (Nt T) cQ h.mo rfl (T.mf 9) (T.kp 9) (T.b 9) .nil (ao (aH (kc:=7) (aW (T.a_ 3) (aj 0)) T.aJ (T.me 10) (dw T) cQ h.mo (T.b 10) .nil (ao (aj 2) az)) az))) (@aB _ _ _ _ _ _ _ (bC (aV (bR u) (aN u (aj 1) aA) bF (aG _)) (aD (aK (aH (kc:=0) (aW (T.a_ 2) (aj 0)) T.aO (T.me 17) (BP T) cQ h.mo (T.b 17) .nil (ao (aj 2) (ao (aN u (aj 1) aA) (ao (aN u (aj 1) aA) (ao (aj 3) az))))))) bu) (@aB _ _ _ _ _ _ _ (@bC _ _ _ _ _ _ _ _ _ _ (aV (bR u) (aN u (aj 1) aA) bF (aG _)) (@aD _ _ _ _ _ (@aK _ _ _ _ _ _ (@aH _ _ _ _ _ _ _ _ _ _ _ _ _ _ _ _ _ (0) _ _ _ _ (aW (T.a_ 2) (aj 0)) T.aO (T.me 23) (zP T) cQ h.mo (T.b 23) .nil (@aX _ _ _ _ _ _ _ (aj 2) (@aX _ _ _ _ _ _ _ (aN u (aj 1) aA) (@aX _ _ _ _ _ _ _ (aN u (aj 1) aA) (@aX _ _ _ _ _ _ _ (aj 3) (@aX _ _ _ _ _ _ _ (aH (kc:=7) (aW (T.a_ 3) (aj 0)) T.aJ (T.me 26) (BJ T) cQ h.mo (T.b 26) .nil (ao (aj 2) az)) az rfl) rfl) rfl) rfl) rfl) rfl rfl rfl rfl))) bu) (aD (aK (aH (kc:=8) (aj 0) T.bQ (T.me 31) (E_ T) cQ h.mo (T.b 31) .nil (ao (aj 2) (ao (aN u (aj 1) aA) (ao (aN u (aj 1) aA) (ao (aN u (aj 1) aA) az)))))))))))
theorem Fb(T:Txt K mg t):je T 33 2 (aP 2 jW) 2:=bT (st:=vI) ["self","term"] (T.fn 33) ie λh n u=>
 (aD (aK (j4 (bK (XH u) (aj 1) (aW (T.d9 4) (aj 0)) (by with_unfolding_all rfl)) (iw (bK (bR u) (aH (kc:=0) (aj 0) T.aO (T.me 11) (eZ T) cQ h.mo (T.b 11) .nil (ao (aN u (aW (T.d9 4) (aj 0)) (aj 1)) az)) (aj 1) (aG _))))))
theorem Ex(T:Txt K mg t):je T 34 1 (aP 4 jV) 2:=bT (st:=vC) ["entries","term","place","entry"] (T.fn 34) ie λh n u=>
 (aB (uC (jm rfl rfl) rfl (aar rfl T.zZ (aj 0) aA) (UT rfl (rD (iu (i:=2) n rfl jj) (rD (iu (i:=3) n rfl jj) OD))) (aD (bC (aV (bR u) (aN u (aj 3) aA) (aj 1) (aG _)) (aD (aK (aj 2))) bu)))
  (aD (aK j0)))
theorem yx(T:Txt K mg t):je T 35 1 (aP 2 jF) 2:=bT (st:=pR) ["self","term"] (T.fn 35) ie λh n u=>
 (aD (aK (adk rfl rfl T.Nu (aaw rfl ["other","mark"] ["term"] [1] (aW (T.cA 4) (aj 0)) ⟨⟨rfl,rfl,by first | exact .inl rfl | exact .inr rfl⟩,zaa⟩ (λ_ _ _ _ _=>(af3 rfl (RB (Wf (i:=0) (show((["other","mark"]:List Str)++(["term"]:List Str)).Nodup from by decide +kernel) rfl (.inl (lookup_relabel_local rfl)) (by decide) (.inr (lookup_relabel_local rfl))) (RB (Wf (i:=1) (show((["other","mark"]:List Str)++(["term"]:List Str)).Nodup from by decide +kernel) rfl (.inl (lookup_relabel_local rfl)) (by decide) (.inr (lookup_relabel_local rfl))) ada)))) (λ_ _ _ _ _=>(Wb (aV Li (aj 0) (aj 2) (aG _)))) (λ_ _ _ _ _=>(aj 1)) (by decide +kernel) (by decide +kernel) (by decide +kernel)) aA)))
theorem qb(T:Txt K mg t):je T 36 3 (aP 2 j9) 2:=bT (st:=qH) ["self","term"] (T.fn 36) ie λh n u=>
 (aD (aK (bw (J_ T) cQ h.mo rfl (T.mf 25) (T.kp 25) (T.b 25) .nil (ao (aH (kc:=7) (aj 0) T.aJ (T.me 27) (cu T) cQ h.mo (T.b 27) .nil (ao (aj 1) az)) (ao (aW (T.cA 0) (aj 0)) az)))))
theorem yw(T:Txt K mg t):je T 37 4 (aP 4 jE) 3:=bT (st:=pQ) ["self","term","what","roll"] (T.fn 37) ie λh n u=>
 (aB (bC (aV FZ (bw (vK T) cQ h.mo rfl (T.mf 24) (T.kp 24) (T.b 24) .nil (ao (aH (kc:=7) (aj 0) T.aJ (T.me 27) (cu T) cQ h.mo (T.b 27) .nil (ao (aj 1) az)) az)) (aH (kc:=7) (aj 0) T.aJ (T.me 35) (yx T) cQ h.mo (T.b 35) .nil (ao (aj 1) az)) (aG _)) (aD (aK mD)) bu)
  (aB (bf (i:=3) n rfl jj (aH (kc:=7) (aj 0) T.aJ (T.me 36) (qb T) cQ h.mo (T.b 36) .nil (ao (aj 1) az)))
  (aB (bC (aV (bR u) (aN u (aj 3) aA) aA (aG _)) (aD (aK (j4 (bK (bR u) (aN u (aj 2) aA) (aN u (aj 3) aA) (aG _)) (iw (bK (lz u) (aN u (aj 2) aA) aA (aG _)))))) bu)
  (aD (aK (bK (bR u) (aj 2) (bO (ao bF (ao (aN u (aj 3) aA) (ao aA az)))) (aG _)))))))
theorem zJ(T:Txt K mg t):je T 38 5 (aP 6 cM) 4:=bT (st:=qG) ["self","term","place","what","line","is_first"] (T.fn 38) ie λh n u=>
 (aB (bf (i:=4) n rfl jj (aH (kc:=7) (aj 0) T.aJ (T.me 27) (cu T) cQ h.mo (T.b 27) .nil (ao (aj 1) az)))
  (aB (bC (aV (lz u) (aj 2) (aR nJ (bD fL rfl T.jo fM (ao (aj 4) az)) aA) (aG _)) (aD (aK mD)) bu)
  (aB (bf (i:=5) n rfl jj (bK T7 (bw (Ex T) cQ h.mo rfl (T.mf 34) (T.kp 34) (T.b 34) .nil (ao (aj 4) (ao (aj 1) az))) j0 (aG _)))
  (aB (bC (aV (lz u) (aj 5) (bK (bR u) (aj 3) (bO (ao bF az)) (aG _)) (aG _)) (aD (aK mD)) bu)
  (aD (aK (RG (bK (lz u) (aN u (aj 3) aA) bF (aG _)) (iw (aH (kc:=7) (aj 0) T.aJ (T.me 37) (yw T) cQ h.mo (T.b 37) .nil (ao (aj 1) (ao (aj 3) az)))))))))))
theorem ym(T:Txt K mg t):je T 39 1 (aP 2 tD) 2:=bT (st:=y_) ["self","term"] (T.fn 39) ie λh n u=>
 (aD (aK (ud u (aW (T.cA 4) (aj 0)) (aj 1) aA)))
theorem n6(T:Txt K mg t):je T 40 1 (aP 3 jC) 3:=bT (st:=pO) ["self","hand","term"] (T.fn 40) ie λh n u=>
 (aD (aK (ud u (aW (T.cA 5) (aj 0)) (bO (ao (aj 1) (ao (aj 2) az))) aA)))
theorem yz(T:Txt K mg t):je T 41 2 (aP 5 jG) 5:=bT (st:=pU) ["self","chair","term","place","hands"] (T.fn 41) ie λh n u=>
 (aD (aK (bD (acq rfl) rfl T.abv acv (ao (O3 rfl ["chair","place","term","self"] [1,3,2,0] (CN (bw (zH T) cQ h.mo rfl (T.mf 19) (T.kp 19) (T.b 19) .nil (ao (aj 4) az))) ⟨⟨rfl,rfl,by first | exact .inl rfl | exact .inr rfl⟩,⟨⟨rfl,rfl,by first | exact .inl rfl | exact .inr rfl⟩,⟨⟨rfl,rfl,by first | exact .inl rfl | exact .inr rfl⟩,⟨⟨rfl,rfl,by first | exact .inl rfl | exact .inr rfl⟩,zaa⟩⟩⟩⟩ (λ_ _ _ _ _=>Ov) (λ_ _ _ _ _=>(RG (bK (bR u) (aj 0) (aj 1) (aG _)) (iw (bK acy (aH (kc:=7) (aj 4) T.aJ (T.me 40) (n6 T) Tk.none h.mo (T.b 40) .nil (ao (aj 0) (ao (aj 3) az))) (aj 2) (aG _))))) (by decide +kernel) (by decide +kernel) (by decide +kernel) (by decide +kernel)) az))))
theorem wV(T:Txt K mg t):je T 42 6 (aP 3 jd) 3:=bT (st:=nZ) ["self","term","hands"] (T.fn 42) ie λh n u=>
 (aD (aK (aH (kc:=6) (aW (cs:=[0,7,8]) ⟨⟨T.aO,(T.cI.get (i:=0) rfl)⟩,⟨⟨T.aJ,(T.cH.get (i:=1) rfl)⟩,(T.a_ 1)⟩⟩ (aj 0)) T.nH (T.me 22) (Cd T) cQ h.mo (T.b 22) .nil (ao (aH (kc:=7) (aj 0) T.aJ (T.me 36) (qb T) cQ h.mo (T.b 36) .nil (ao (aj 1) az)) (ao (aj 2) az)))))
theorem yu(T:Txt K mg t):je T 43 7 (aP 6 jD) 5:=bT (st:=pP) ["self","chair","term","place","hands","line"] (T.fn 43) ie λh n u=>
 (aB (bf (i:=5) n rfl jj (aH (kc:=7) (aj 0) T.aJ (T.me 27) (cu T) cQ h.mo (T.b 27) .nil (ao (aj 2) az)))
  (aB (bC (SW.pt (BZ (aV Li (aj 3) (aH (kc:=7) (aj 0) T.aJ (T.me 39) (ym T) cQ h.mo (T.b 39) .nil (ao (aj 2) az)) (aG _)) (yW (aV FZ (aj 3) (bD fL rfl T.jo fM (ao (aj 5) az)) (aG _))))) (aD (aK mD)) bu)
  (aB (bC (SW.pt (JL (rA (aW (T.gM 2) (aW (cs:=[0,7,8]) ⟨⟨T.aO,(T.cI.get (i:=0) rfl)⟩,⟨⟨T.aJ,(T.cH.get (i:=1) rfl)⟩,(T.a_ 1)⟩⟩ (aj 0)))) (Jb (aV (lz u) (aN u (aN u (aj 5) (aR GP (aj 3) aA)) aA) (aj 2) (aG _))))) (aD (aK mD)) bu)
  (aD (aK (j4 (aH (kc:=7) (aj 0) T.aJ (T.me 41) (yz T) cQ h.mo (T.b 41) .nil (ao (aj 1) (ao (aj 2) (ao (aj 3) (ao (aj 4) az))))) (iw (aH (kc:=7) (aj 0) T.aJ (T.me 42) (wV T) cQ h.mo (T.b 42) .nil (ao (aj 2) (ao (aj 4) az))))))))))
theorem yE(T:Txt K mg t):je T 44 8 (aP 3 gk) 2:=bT (st:=pZ) ["self","paper","term"] (T.fn 44) ie λh n u=>
 (aB (bf (i:=2) n rfl jj (aN u (aj 1) aA))
  (aB (bC (aV (bR u) (aN u (aj 1) aA) bF (aG _)) (aD (aK (aH (kc:=7) (aW (T.a_ 3) (aj 0)) T.aJ (T.me 38) (zJ T) cQ h.mo (T.b 38) .nil (ao (aj 2) (ao (aN u (aj 1) aA) (ao (aN u (aj 1) aA) az)))))) bu)
  (aB (bC (aV (bR u) (aN u (aj 1) aA) bF (aG _)) (aD pN) bu)
  (aB (bC (aV (bR u) (aN u (aj 1) aA) bF (aG _)) (aD (aK (aH (kc:=7) (aW (T.a_ 3) (aj 0)) T.aJ (T.me 43) (yu T) cQ h.mo (T.b 43) .nil (ao (aH (kc:=0) (aW (T.a_ 2) (aj 0)) T.aO (T.me 18) (d_ T) cQ h.mo (T.b 18) .nil (ao (aj 2) az)) (ao (aj 2) (ao (aN u (aj 1) aA) (ao (aN u (aj 1) aA) az))))))) bu)
  (aB (bC (aV (bR u) (aN u (aj 1) aA) bF (aG _)) (aD pN) bu)
  (aB (bC (aV (bR u) (aN u (aj 1) aA) bF (aG _)) (aD pN) bu)
  (aD pN)))))))
theorem Iu(T:Txt K mg t):je T 45 9 (aP 2 cX) 2:=bT (st:=zp) ["self","paper"] (T.fn 45) ie λh n u=>
 (aB (bC (SW.pt (BZ (aV vZ (aW (T.a_ 6) (aj 0)) j0 (aG _)) (BZ (JM (rA (bw (Py T) cQ h.mo rfl (T.mf 7) (T.kp 7) (T.b 7) .nil (ao (aj 1) az)))) (yW (aV (GQ u) (bw (Va T) cQ h.mo rfl (T.mf 8) (T.kp 8) (T.b 8) .nil (ao (aj 1) az)) aA (aG _)))))) (aD (aK mD)) bu)
  (aB (bC (aV (XH u) (aN u (aj 1) aA) (Bk rfl T.um λι n H=>T.t_ _ ι n H) (by with_unfolding_all rfl)) (aD (aK (aH (kc:=8) (aj 0) T.bQ (T.me 32) (zM T) cQ h.mo (T.b 32) .nil (ao (aj 1) az)))) bu)
  (aD (aK (j4 (aH (kc:=0) (aW (T.a_ 2) (aj 0)) T.aO (T.me 33) (Fb T) cQ h.mo (T.b 33) .nil (ao (aN u (aj 1) aA) az)) (iw (aH (kc:=8) (aj 0) T.bQ (T.me 44) (yE T) cQ h.mo (T.b 44) .nil (ao (aj 1) az))))))))
theorem EY(T:Txt K mg t):gw P w K mg base VV 1 t.gZ t.jU ["self","at"] (Bj K "at"):=
 ab7 (k:=0) T.ux Eh rfl λcdv A outer s H E=>WD (adG (pv 0) (pv 1) rfl)
theorem vL(T:Txt K mg t):je T 46 1 (aP 3 qF) 3:=bT (st:=yj) ["self","hand","term"] (T.fn 46) ie λh n u=>
 (aD (mY u (aW (T.d9 1) (aj 0)) (aj 1) (aj 2)))
theorem Iz(T:Txt K mg t):je T 47 2 (aP 5 tR) 5:=bT (st:=zu) ["self","hand","term","whom","end"] (T.fn 47) ie λh n u=>
 (aB (bC (aV (bR u) (aj 3) (aj 1) (aG _)) (aD (mY u (aW (T.d9 3) (aj 0)) (bO (ao (aj 1) (ao (aj 2) az))) (aj 4))) bu)
  (aB (mY u (aW (T.d9 2) (aj 0)) (bO (ao (aj 1) (ao (aj 2) az))) (aR XF (aH (kc:=0) (aj 0) T.aO (T.me 12) (j5 T) cQ h.mo (T.b 12) .nil (ao (aj 1) (ao (aj 2) az))) (bw (Gs T) cQ h.mo rfl (T.mf 13) (T.kp 13) (T.b 13) .nil (ao (wL (ao (aj 3) az)) az))))
  (aD (di (aH (kc:=0) (aj 0) T.aO (T.me 46) (vL T) cQ h.mo (T.b 46) .nil (ao (aj 1) (ao (aj 2) az)))))))
theorem zO(T:Txt K mg t):je T 48 1 (aP 3 kJ) 3:=bT (st:=qM) ["self","hand","term"] (T.fn 48) ie λh n u=>
 (aD (mY u (aW (T.d9 4) (aj 0)) (aj 2) (aj 1)))
theorem yC(T:Txt K mg t):je T 49 2 (aP 3 jH) 3:=bT (st:=pX) ["self","hand","term"] (T.fn 49) ie λh n u=>
 (aD (mY u (aW (T.cA 3) (aj 0)) (aj 2) (aH (kc:=7) (aj 0) T.aJ (T.me 10) (dw T) cQ h.mo (T.b 10) .nil (ao (aj 1) az))))
theorem Ey(T:Txt K mg t):je T 50 1 (aP 3 A_) 3:=bT (st:=G8) ["one","two","place"] (T.fn 50) ie λh n u=>
 (aD (aK (bK (bR u) (O1 (aj 0) Eg (Ef (aj 2))) (O1 (aj 1) Eg (Ef (aj 2))) (aG _))))
theorem CQ(T:Txt K mg t):je T 51 2 (aP 4 nM) 3:=bT (st:=ue) ["self","lesser","greater","mark"] (T.fn 51) ie λh n u=>
 (aB (bf (i:=3) n rfl jj (aH (kc:=7) (aj 0) T.aJ (T.me 39) (ym T) cQ h.mo (T.b 39) .nil (ao (aj 1) az)))
  (aD (aK (RG (bK (bR u) (aj 3) aA (aG _)) (iw (bw (Ey T) cQ h.mo rfl (T.mf 50) (T.kp 50) (T.b 50) .nil (ao (aH (kc:=7) (aj 0) T.aJ (T.me 27) (cu T) cQ h.mo (T.b 27) .nil (ao (aj 1) az)) (ao (aH (kc:=7) (aj 0) T.aJ (T.me 27) (cu T) cQ h.mo (T.b 27) .nil (ao (aj 2) az)) (ao (aj 3) az)))))))))
theorem wU(T:Txt K mg t):je T 52 3 (aP 3 jc) 2:=bT (st:=nY) ["self","term","other"] (T.fn 52) ie λh n u=>
 (aB (uC (jm rfl rfl) rfl (CN (bD (VB rfl u) rfl T.S6 Zk (ao (aW (T.cA 3) (aj 0)) az))) (iu (i:=2) n rfl jj) (aD (bC (JM (rA (aH (kc:=7) (aj 0) T.aJ (T.me 51) (CQ T) cQ h.mo (T.b 51) .nil (ao (bD (aeC rfl) rfl T.afr ahS (ao (aj 2) (ao (aj 1) az))) (ao (bD (Jq rfl) rfl T.Nu Lh (ao (aj 2) (ao (aj 1) az))) az))))) (aD (aK (bD (Jq rfl) rfl T.Nu Lh (ao (aj 2) (ao (aj 1) az))))) bu)))
  (aD (aK j0)))
theorem rT(T:Txt K mg t):je T 53 4 (aP 3 nR) 2:=bT (st:=ug) ["self","term","lost"] (T.fn 53) ie λh n u=>
 (aB (bf (i:=2) n rfl jj (aH (kc:=7) (aW (T.a_ 3) (aj 0)) T.aJ (T.me 52) (wU T) cQ h.mo (T.b 52) .nil (ao (aj 1) az)))
  (aD (bC (aV vZ (aj 2) j0 (aG _)) (aD (cG (T.a_ 6) (aj 0) (bO (ao bF (ao (aj 2) az))))) bu)))
theorem uF(T:Txt K mg t):je T 54 5 (aP 3 g8) 3:=bT (st:=mG) ["self","hand","term"] (T.fn 54) ie λh n u=>
 (aB (bC (aV vZ (aH (kc:=0) (aW (T.a_ 2) (aj 0)) T.aO (T.me 18) (d_ T) cQ h.mo (T.b 18) .nil (ao (aj 2) az)) j0 (aG _)) (aB (cG (T.a_ 6) (aj 0) (bO (ao bF (ao (aj 2) az))))
  (aD ac8)) bu)
  (aB (di (aH (kc:=0) (aW (T.a_ 2) (aj 0)) T.aO (T.me 48) (zO T) cQ h.mo (T.b 48) .nil (ao (aj 1) (ao (aj 2) az))))
  (aB (di (aH (kc:=7) (aW (T.a_ 3) (aj 0)) T.aJ (T.me 49) (yC T) cQ h.mo (T.b 49) .nil (ao (aj 1) (ao (aj 2) az))))
  (aD (di (aH (kc:=8) (aj 0) T.bQ (T.me 53) (rT T) cQ h.mo (T.b 53) .nil (ao (aj 2) az)))))))
theorem YC(T:Txt K mg t):je T 55 2 (aP 3 Ga) 3:=bT (st:=RP) ["line","row","place"] (T.fn 55) ie λh n u=>
 (aB (bC (rA (bw (Ey T) cQ h.mo rfl (T.mf 50) (T.kp 50) (T.b 50) .nil (ao (aj 1) (ao (aj 0) (ao (aj 2) az))))) (aD (aK (O1 (aj 1) Eg Eg))) bu)
  (aD (aK (O1 (aj 0) Eg (Ef (aj 2))))))
theorem Ik(T:Txt K mg t):je T 56 3 (aP 4 tu) 4:=bT (st:=yZ) ["self","hand","term","place"] (T.fn 56) ie λh n u=>
 (aB (mY u (aW (T.cA 2) (aj 0)) (aj 1) (bw (YC T) cQ h.mo rfl (T.mf 55) (T.kp 55) (T.b 55) .nil (ao (aH (kc:=7) (aj 0) T.aJ (T.me 27) (cu T) cQ h.mo (T.b 27) .nil (ao (aj 2) az)) (ao (aH (kc:=7) (aj 0) T.aJ (T.me 10) (dw T) cQ h.mo (T.b 10) .nil (ao (aj 1) az)) (ao (aj 3) az)))))
  (aD (mY u (aW (T.cA 5) (aj 0)) (bO (ao (aj 1) (ao (aj 2) az))) (bD (Jq rfl) rfl T.Nu Lh (ao (aj 3) (ao (aH (kc:=7) (aj 0) T.aJ (T.me 40) (n6 T) cQ h.mo (T.b 40) .nil (ao (aj 1) (ao (aj 2) az))) az))))))
theorem zK(T:Txt K mg t):je T 57 1 (aP 3 j_) 3:=bT (st:=qI) ["self","hand","term"] (T.fn 57) ie λh n u=>
 (aD (aK (ud u (aW (T.oG 1) (aj 0)) (bO (ao (aj 1) (ao (aj 2) az))) aA)))
theorem Io(T:Txt K mg t):je T 58 2 (aP 4 tL) 4:=bT (st:=zf) ["self","hand","term","beat"] (T.fn 58) ie λh n u=>
 (aD (mY u (aW (T.oG 1) (aj 0)) (bO (ao (aj 1) (ao (aj 2) az))) (bD (Jq rfl) rfl T.Nu Lh (ao (aj 3) (ao (aH (kc:=5) (aj 0) T.gG (T.me 57) (zK T) cQ h.mo (T.b 57) .nil (ao (aj 1) (ao (aj 2) az))) az)))))
theorem zL(T:Txt K mg t):je T 59 6 (aP 4 eE) 2:=bT (st:=qJ) ["self","paper","hand","term"] (T.fn 59) ie λh n u=>
 (aB (bf (i:=2) n rfl jj (aN u (aj 1) aA))
  (aB (bf (i:=3) n rfl jj (aN u (aj 1) aA))
  (aD (bC (aV (bR u) (aN u (aj 1) aA) bF (aG _)) (aD (di (aH (kc:=0) (aW (T.a_ 2) (aj 0)) T.aO (T.me 47) (Iz T) cQ h.mo (T.b 47) .nil (ao (aj 2) (ao (aj 3) (ao (aN u (aj 1) aA) (ao (bw (Nt T) cQ h.mo rfl (T.mf 9) (T.kp 9) (T.b 9) .nil (ao (aH (kc:=7) (aW (T.a_ 3) (aj 0)) T.aJ (T.me 10) (dw T) cQ h.mo (T.b 10) .nil (ao (aj 2) az)) az)) az))))))) (aD (bC (aV (bR u) (aN u (aj 1) aA) bF (aG _)) (aD (di (aH (kc:=8) (aj 0) T.bQ (T.me 54) (uF T) cQ h.mo (T.b 54) .nil (ao (aj 2) (ao (aj 3) az))))) (aB (di (aH (kc:=0) (aW (T.a_ 2) (aj 0)) T.aO (T.me 46) (vL T) cQ h.mo (T.b 46) .nil (ao (aj 2) (ao (aj 3) az))))
  (aB (di (aH (kc:=7) (aW (T.a_ 3) (aj 0)) T.aJ (T.me 56) (Ik T) cQ h.mo (T.b 56) .nil (ao (aj 2) (ao (aj 3) (ao (aN u (aj 1) aA) az)))))
  (aD (di (aH (kc:=5) (aW (T.a_ 4) (aj 0)) T.gG (T.me 58) (Io T) cQ h.mo (T.b 58) .nil (ao (aj 2) (ao (aj 3) (ao (aN u (aj 1) aA) az))))))))))))))
theorem Gu(T:Txt K mg t):je T 60 2 (aP 5 qD) 4:=bT (st:=yh) ["self","hand","term","what","entry"] (T.fn 60) ie λh n u=>
 (aB (bf (i:=4) n rfl jj (bO (ao (aj 2) (ao (aj 3) az))))
  (aB (mY u (aW (T.cA 3) (aj 0)) (aj 2) (aR XM (aH (kc:=7) (aj 0) T.aJ (T.me 27) (cu T) cQ h.mo (T.b 27) .nil (ao (aj 2) az)) (bO (ao (aj 4) az))))
  (aD (mY u (aW (T.cA 2) (aj 0)) (aj 1) (aR XM (aH (kc:=7) (aj 0) T.aJ (T.me 10) (dw T) cQ h.mo (T.b 10) .nil (ao (aj 1) az)) (bO (ao (aj 4) az)))))))
theorem Ez(T:Txt K mg t):je T 61 1 (aP 3 o_) 3:=bT (st:=vD) ["self","term","place"] (T.fn 61) ie λh n u=>
 (aD (mY u (aW (T.cA 4) (aj 0)) (aj 1) (aj 2)))
theorem yD(T:Txt K mg t):je T 62 5 (aP 3 gh) 2:=bT (st:=pY) ["self","paper","term"] (T.fn 62) ie λh n u=>
 (aB (bf (i:=2) n rfl jj (aN u (aj 1) aA))
  (aD (bC (aV (bR u) (aN u (aj 1) aA) bF (aG _)) (aD (di (aH (kc:=7) (aW (T.a_ 3) (aj 0)) T.aJ (T.me 60) (Gu T) cQ h.mo (T.b 60) .nil (ao (aH (kc:=0) (aW (T.a_ 2) (aj 0)) T.aO (T.me 18) (d_ T) cQ h.mo (T.b 18) .nil (ao (aj 2) az)) (ao (aj 2) (ao (aN u (aj 1) aA) az)))))) (aD (bC (aV (bR u) (aN u (aj 1) aA) bF (aG _)) (aD pN) (aD (bC (aV (bR u) (aN u (aj 1) aA) bF (aG _)) (aB (di (aH (kc:=7) (aW (T.a_ 3) (aj 0)) T.aJ (T.me 61) (Ez T) cQ h.mo (T.b 61) .nil (ao (aj 2) (ao (aN u (aj 1) aA) az))))
  (aD (di (aH (kc:=8) (aj 0) T.bQ (T.me 53) (rT T) cQ h.mo (T.b 53) .nil (ao (aj 2) az))))) (aD (bC (aV (bR u) (aN u (aj 1) aA) bF (aG _)) (aD pN) (aD (bC (aV (bR u) (aN u (aj 1) aA) bF (aG _)) (aD pN) bu)))))))))))
theorem gA(T:Txt K mg t):je T 63 10 (aP 2 gf) 2:=bT (st:=Eo) ["self","paper"] (T.fn 63) ie λh n u=>
 (aB (bC (JM (rA (aH (kc:=8) (aj 0) T.bQ (T.me 45) (Iu T) cQ h.mo (T.b 45) .nil (ao (aj 1) az)))) (aD (aam (c:=2) T.G3 T.G4 (EY T) h.mo T.v5 rfl T.zV rfl cQ (ao (aW (T.a_ 5) (aj 0)) az))) bu)
  (aB (cG (T.a_ 5) (aj 0) (aR nJ (aW (T.a_ 5) (aj 0)) aA))
  (aD (bC (aV (XH u) (aN u (aj 1) aA) (Bk rfl T.um λι n H=>T.t_ _ ι n H) (by with_unfolding_all rfl)) (aD (di (aH (kc:=8) (aj 0) T.bQ (T.me 59) (zL T) cQ h.mo (T.b 59) .nil (ao (aj 1) az)))) (aD (di (aH (kc:=8) (aj 0) T.bQ (T.me 62) (yD T) cQ h.mo (T.b 62) .nil (ao (aj 1) az))))))))
theorem Px(T:Txt K mg t):je T 64 11 (aP 8 Az) 6:=bT (st:=G6) ["_law_bench","_law_hands","_law_hand","_law_term","_law_last","_law_size","_law_voters","_law_other"] (T.fn 64) ie λh n u=>
 (@aB _ _ _ _ _ _ _ (@bC _ _ _ _ _ _ _ _ _ _ (SW.pt (JL (aV vZ (aj 4) j0 (aG _)) (Jb (aV (lz u) (aN u (aj 4) aA) (aj 2) (aG _))))) (@aD _ _ _ _ _ (@di _ _ _ _ _ _ (@aH _ _ _ _ _ _ _ _ _ _ _ _ _ _ _ _ _ (8) _ _ _ _ (aj 0) T.bQ (T.me 63) (gA T) cQ h.mo (T.b 63) .nil (@ao _ _ _ _ _ _ _ (@bO _ _ _ _ _ _ _ (@aX _ _ _ _ _ _ _ bF (@aX _ _ _ _ _ _ _ (aj 2) (@aX _ _ _ _ _ _ _ (aN u (aj 4) aA) (@aX _ _ _ _ _ _ _ (aj 5) (@aX _ _ _ _ _ _ _ aA az rfl) rfl) rfl) rfl) rfl)) az rfl) rfl rfl rfl rfl) rfl)) bu) (aB (di (aH (kc:=8) (aj 0) T.bQ (T.me 63) (gA T) cQ h.mo (T.b 63) .nil (ao (bO (ao bF (ao (aj 2) (ao (aj 3) (ao (aj 2) az))))) az)))
  (aB (bf (i:=6) n rfl jj (aR Dl aA (aj 2)))
  (aB (uC (jm rfl rfl) rfl (CN (aj 1)) (iu (i:=7) n rfl jj) (aD (bC (aV (lz u) (aj 7) (aj 2) (aG _)) (aB (di (aH (kc:=8) (aj 0) T.bQ (T.me 63) (gA T) cQ h.mo (T.b 63) .nil (ao (bO (ao bF (ao (aj 7) (ao (aj 3) (ao (aj 2) az))))) az)))
  (aD (bf (i:=6) n rfl jj (aR XF (aj 6) (aR Dl aA (aj 7)))))) bu)))
  (aD (di (aH (kc:=8) (aj 0) T.bQ (T.me 63) (gA T) cQ h.mo (T.b 63) .nil (ao (bO (ao bF (ao (aj 2) (ao (aj 3) (ao (aj 6) az))))) az))))))))
theorem Mh(T:Txt K mg t):je T 65 11 (aP 6 yc) 4:=bT (st:=Ek) ["_law_bench","_law_hands","_law_last","_law_line","_law_voters","_law_other"] (T.fn 65) ie λh n u=>
 (@aB _ _ _ _ _ _ _ (bf (i:=4) n rfl jj (aR Dl aA (aN u (aj 2) aA))) (@aB _ _ _ _ _ _ _ (@uC _ _ _ _ _ _ _ _ _ _ (jm rfl rfl) rfl (CN (aj 1)) (iu (i:=5) n rfl jj) (@aD _ _ _ _ _ (@bC _ _ _ _ _ _ _ _ _ _ (aV (lz u) (aj 5) (aN u (aj 2) aA) (aG _)) (@aB _ _ _ _ _ _ _ (@di _ _ _ _ _ _ (@aH _ _ _ _ _ _ _ _ _ _ _ _ _ _ _ _ _ (8) _ _ _ _ (aj 0) T.bQ (T.me 63) (gA T) cQ h.mo (T.b 63) .nil (@ao _ _ _ _ _ _ _ (@bO _ _ _ _ _ _ _ (@aX _ _ _ _ _ _ _ bF (@aX _ _ _ _ _ _ _ (aj 5) (@aX _ _ _ _ _ _ _ (aN u (aj 2) aA) (@aX _ _ _ _ _ _ _ (bD fL rfl T.jo fM (ao (aj 3) az)) (@aX _ _ _ _ _ _ _ aA az rfl) rfl) rfl) rfl) rfl)) az rfl) rfl rfl rfl rfl) rfl) (aD (bf (i:=4) n rfl jj (aR XF (aj 4) (aR Dl aA (aj 5)))))) bu)) (by intro _ ;rfl)) (aD (di (aH (kc:=8) (aj 0) T.bQ (T.me 63) (gA T) cQ h.mo (T.b 63) .nil (ao (bO (ao bF (ao (aN u (aj 2) aA) (ao (bD fL rfl T.jo fM (ao (aj 3) az)) (ao (aj 4) az))))) az))))))
theorem zF(T:Txt K mg t):je T 66 1 (aP 3 Dq) 1:=bT (st:=JT) ["_law_cell","_law_word","_law_k"] (T.fn 66) ie λh n u=>
 (aB (bf (i:=1) n rfl jj bF)
  (aB (uC (jm rfl rfl) rfl (vA rfl T.Bm (ao (aR nJ aA (aR iQ (aj 0) aA)) az)) (iu (i:=2) n rfl jj) (aD (bf (i:=1) n rfl jj (aR nJ (aj 1) (aN u bF (aR iQ (aR uU (aj 0) (aR nJ aA (aR VD aA (aj 2)))) aA))))))
  (aD (aK (aj 1)))))
theorem Sg(T:Txt K mg t):je T 67 2 (aP 7 jB) 3:=bT (st:=JR) ["_law_cell","_law_roll_here","_law_hands","_law_kind","_law_rest","_law_amount","_law_order"] (T.fn 67) ie λh n u=>
 (aB (bf (i:=3) n rfl jj (aR iQ (aj 0) aA))
  (aB (bf (i:=4) n rfl jj (aR uU (aj 0) aA))
  (aB (bC (aV (GQ u) (aj 3) aA (aG _)) (aD (aK (bO (ao bF az)))) bu)
  (aB (bC (aV (GQ u) (aj 3) aA (aG _)) (aB (bf (i:=5) n rfl jj (aR iQ (aj 4) (aR QL aA aA)))
  (aB (bf (i:=6) n rfl jj (aN u (wL (ao (bO (ao bF (ao (bw (zF T) cQ h.mo rfl (T.mf 66) (T.kp 66) (T.b 66) .nil (ao (aj 4) az)) (ao (aj 5) az)))) (ao (bO (ao bF (ao (bw (zF T) cQ h.mo rfl (T.mf 66) (T.kp 66) (T.b 66) .nil (ao (aj 4) az)) (ao (aR GP aA (aj 5)) az)))) az))) (aR iQ (aj 4) aA)))
  (aB (bC (aV (bR u) (aR iQ (aj 4) aA) aA (aG _)) (aD (bf (i:=6) n rfl jj (bO (ao bF (ao (bw (zF T) cQ h.mo rfl (T.mf 66) (T.kp 66) (T.b 66) .nil (ao (aj 4) az)) (ao (aj 5) (ao (aR iQ (aj 4) aA) az))))))) bu)
  (aD (aK (bO (ao bF (ao (aR iQ (aR uU (aj 4) aA) (aR QL aA aA)) (ao (aR iQ (aR uU (aj 4) aA) (aR QL aA aA)) (ao (aj 6) az)))))))))) bu)
  (aB (bC (aV (bR u) (aj 3) aA (aG _)) (aD (aK (bO (ao bF (ao (bw (wR T) cQ h.mo rfl (T.mf 1) (T.kp 1) (T.b 1) .nil (ao (aR nJ aA (aR iQ (aj 4) aA)) (ao (aj 2) az))) (ao (bw (wR T) cQ h.mo rfl (T.mf 1) (T.kp 1) (T.b 1) .nil (ao (aR iQ (aR uU (aj 4) aA) aA) (ao (aj 2) az))) az)))))) bu)
  (aB (bC (aV (bR u) (aN u (aj 1) aA) aA (aG _)) (aD (aK (bO (ao bF (ao (aN u (aj 1) aA) (ao (bw (wR T) cQ h.mo rfl (T.mf 1) (T.kp 1) (T.b 1) .nil (ao (aR iQ (aj 4) aA) (ao (aj 2) az))) az)))))) bu)
  (aD (aK (bO (ao bF (ao (aN u (aj 1) aA) (ao aA az))))))))))))
theorem Hg(T:Txt K mg t):je T 68 1 (aP 4 Dp) 2:=bT (st:=JS) ["_law_line","_law_first","_law_found","_law_k"] (T.fn 68) ie λh n u=>
 (aB (bf (i:=2) n rfl jj (bO (ao (aj 1) (ao aA (ao aA az)))))
  (aB (uC (jm rfl rfl) rfl (vA rfl T.Bm (ao (bD fL rfl T.jo fM (ao (aj 0) az)) az)) (iu (i:=3) n rfl jj) (aD (bC (aV (bR u) (aN u (aN u (aN u (aj 0) (aj 3)) aA) aA) bF (aG _)) (aD (bf (i:=2) n rfl jj (bO (ao (aN u (aN u (aN u (aj 0) (aj 3)) aA) aA) (ao (aN u (aN u (aN u (aj 0) (aj 3)) aA) aA) (ao (aR nJ (aj 3) aA) az)))))) bu)))
  (aD (aK (aj 2)))))
theorem Vc(T:Txt K mg t):je T 69 2 (aP 9 GX) 5:=bT (st:=Nh) ["_law_what_here","_law_line","_law_first","_law_term","_law_mark","_law_begun","_law_one","_law_two","_law_place"] (T.fn 69) ie λh n u=>
 (aB (bf (i:=5) n rfl jj (j4 (bK (lz u) (aj 1) (wL az) (aG _)) (iw (bK (bR u) (aN u (aN u (aj 1) (aau Uu aA)) aA) (aj 3) (aG _)))))
  (aB (bC (aV (bR u) (bK (bR u) (aN u (aj 0) aA) bF (aG _)) (aj 5) (aG _)) (aD (aK mD)) bu)
  (aB (bC (aV (lz u) (aN u (aj 0) aA) bF (aG _)) (aD (aK mD)) bu)
  (aB (af2 (bw (Hg T) cQ h.mo rfl (T.mf 68) (T.kp 68) (T.b 68) .nil (ao (aj 1) (ao (aj 2) az))) (UT rfl (rD (iu (i:=6) n rfl jj) (rD (iu (i:=7) n rfl jj) (rD (iu (i:=8) n rfl jj) OD)))))
  (aB (bC (aV FZ (aj 8) (aj 4) (aG _)) (aD (aK mD)) bu)
  (aB (bC (aV (bR u) (aj 7) aA (aG _)) (aD (aK (j4 (bK (bR u) (aN u (aj 0) aA) (aj 6) (aG _)) (iw (bK (lz u) (aN u (aj 0) aA) aA (aG _)))))) bu)
  (aD (aK (j4 (bK (bR u) (aN u (aj 0) aA) (aj 7) (aG _)) (iw (bK (bR u) (aN u (aj 0) aA) aA (aG _))))))))))))
theorem Cg(T:Txt K mg t):je T 70 2 (aP 2 ye) 2:=bT (st:=Ep) ["self","term"] (T.fn 70) ie λh n u=>
 (aD (aK (RK Xx rfl T.Vg XC (ao (aH (kc:=7) (aW (T.a_ 3) (aj 0)) T.aJ (T.me 27) (cu T) cQ h.mo (T.b 27) .nil (ao (aj 1) az)) az))))
theorem Ip(T:Txt K mg t):je T 71 2 (aP 2 tM) 2:=bT (st:=zj) ["self","h"] (T.fn 71) ie λh n u=>
 (aD (aK (RK Xx rfl T.Vg XC (ao (aH (kc:=7) (aW (T.a_ 3) (aj 0)) T.aJ (T.me 10) (dw T) cQ h.mo (T.b 10) .nil (ao (aj 1) az)) az))))
theorem Pu(T:Txt K mg t):je T 72 11 (aP 12 Ay) 7:=bT (st:=G5) ["_law_bench","_law_last","_law_line","_law_first","_law_mark","_law_cell","_law_hands","_law_term","_law_place","_law_what_here","_law_due_here","_law_refused"] (T.fn 72) ie λh n u=>
 (@aB _ _ _ _ _ _ _ (@bf _ _ _ _ _ _ (7) _ _ n rfl jj (@aN _ _ _ _ _ _ _ _ u (@wL _ _ _ _ _ _ (@aX _ _ _ _ _ _ _ (aN u (aj 1) aA) (@aX _ _ _ _ _ _ _ (aN u (aj 1) aA) (@aX _ _ _ _ _ _ _ (aN u (aj 1) aA) (@aX _ _ _ _ _ _ _ (aN u (aj 1) aA) (@aX _ _ _ _ _ _ _ (aR GP (aN u (aj 1) aA) aA) (@aX _ _ _ _ _ _ _ aA az rfl) rfl) rfl) rfl) rfl) rfl)) (aR iQ (aj 5) aA) (by exact λ_ _=>rfl)) rfl (by first | exact .inl rfl | exact .inr rfl | assumption)) (@aB _ _ _ _ _ _ _ (@bf _ _ _ _ _ _ (8) _ _ n rfl jj (@aR _ _ _ _ _ _ _ _ _ _ nJ (bD fL rfl T.jo fM (ao (aj 2) az)) (@aN _ _ _ _ _ _ _ _ u (@wL _ _ _ _ _ _ (@aX _ _ _ _ _ _ _ aA (@aX _ _ _ _ _ _ _ aA (@aX _ _ _ _ _ _ _ aA (@aX _ _ _ _ _ _ _ aA (@aX _ _ _ _ _ _ _ aA (@aX _ _ _ _ _ _ _ aA (@aX _ _ _ _ _ _ _ aA az rfl) rfl) rfl) rfl) rfl) rfl) rfl)) (aR iQ (aR uU (aj 5) aA) aA) (by exact λ_ _=>rfl))) rfl (by first | exact .inl rfl | exact .inr rfl | assumption)) (@aB _ _ _ _ _ _ _ (bf (i:=9) n rfl jj (bw (Sg T) cQ h.mo rfl (T.mf 67) (T.kp 67) (T.b 67) .nil (ao (aR uU (aj 5) aA) (ao (bw (Hg T) cQ h.mo rfl (T.mf 68) (T.kp 68) (T.b 68) .nil (ao (aj 2) (ao (aj 3) az))) (ao (aj 6) az))))) (@aB _ _ _ _ _ _ _ (@bf _ _ _ _ _ _ (10) _ _ n rfl jj (@j4 _ _ _ _ _ _ _ _ _ (bK (bR u) (aj 7) (aN u (aj 1) aA) (aG _)) (@j4 _ _ _ _ _ _ _ _ _ (bK (bR u) (aj 8) (aR nJ (bD fL rfl T.jo fM (ao (aj 2) az)) aA) (aG _)) (@iw _ _ _ _ _ _ _ (@bw _ _ _ _ _ _ _ _ _ _ _ _ _ _ _ _ _ _ (Vc T) cQ h.mo rfl (T.mf 69) (T.kp 69) (T.b 69) .nil (@aX _ _ _ _ _ _ _ (aj 9) (@aX _ _ _ _ _ _ _ (aj 2) (@aX _ _ _ _ _ _ _ (aj 3) (@aX _ _ _ _ _ _ _ (aj 7) (@aX _ _ _ _ _ _ _ (aj 4) az rfl) rfl) rfl) rfl) rfl) (by decide) rfl rfl rfl)))) rfl (by first | exact .inl rfl | exact .inr rfl | assumption)) (aB (bf (i:=11) n rfl jj mD)
  (aB (af1 (cl:=[(1,false),(2,true)]) (v:= .ref (t.c 2)) (cv:= .ref (t.c 2)) rfl rfl cQ (λ_ z=>z) (λ_=>Pk (v:= .ref (t.c 2)) rfl T.zV rfl) ⟨T.nW,⟨T.pM,zaa⟩⟩ (λ_ _=>(aD (di (aH (kc:=8) (aj 0) T.bQ (T.me 63) (gA T) cQ h.mo (T.b 63) .nil (ao (bO (ao bF (ao (aj 7) (ao (aj 8) (ao (aj 9) az))))) az))))) (λ_=>(aD (bf (i:=11) n rfl jj mD))))
  (aB (bC (rA (aj 10)) (aD (di (afd PySem.F.plainAttrs_list PySem.F.slot_list_append PySem.F.type_list_append YH (aj 2) (ao (bO (ao (aj 7) (ao (aj 9) az))) az)))) bu)
  (aD (aK (j4 (bK (lz u) (aj 11) (aj 10) (aG _)) (j4 (bK (bR u) (aH (kc:=8) (aj 0) T.bQ (T.me 70) (Cg T) cQ h.mo (T.b 70) .nil (ao (aN u (aj 1) aA) az)) (aj 2) (aG _)) (iw (bK (bR u) (aH (kc:=8) (aj 0) T.bQ (T.me 71) (Ip T) cQ h.mo (T.b 71) .nil (ao (aN u (aj 1) aA) az)) (aj 2) (aG _))))))))))))))
theorem Ir(T:Txt K mg t):je T 73 1 (aP 1 tO) 1:=bT (st:=zm) ["self"] (T.fn 73) ie λh n u=>
 (aD (aK (aW (T.a_ 6) (aj 0))))
theorem ag0(T:Txt K mg t):je T 74 12 (aP 11 acC) 1:=bT (st:=afe) ["_law_script","_law_hands","_law_first","_law_bench","_law_line","_law_last","_law_mark","_law_term","_law_cell","_law_kind","_law_hand"] (T.fn 74) ie λh n u=>
 (@aB _ _ _ _ _ _ _ (ac9 (k:=1) rfl ["_law_script"] [0] n rfl rfl (vA rfl T.Bm (ao aA az)) ⟨⟨rfl,rfl,by first | exact .inl rfl | exact .inr rfl⟩,zaa⟩ (λ_ _ _ _ _=>Ov) (λ_ _ _ _ _=>(aR nJ (aR iQ (bw (zG T) Tk.none h.mo rfl (T.mf 0) (T.kp 0) (T.b 0) .nil (ao (aj 1) (ao aA az))) aA) (aR VD aA (aj 0)))) (by decide +kernel) (by decide +kernel) (by decide +kernel) (by decide +kernel)) (@aB _ _ _ _ _ _ _ (bf (i:=2) n rfl jj (bw (wR T) cQ h.mo rfl (T.mf 1) (T.kp 1) (T.b 1) .nil (ao aA (ao (aj 1) az)))) (@aB _ _ _ _ _ _ _ (bf (i:=3) n rfl jj (O2 (kc:=8) T.vQ (Mj T) cQ h.mo rfl T.SM T.CG (.cons .non .nil) (ao (aj 2) az))) (@aB _ _ _ _ _ _ _ (bf (i:=4) n rfl jj (wL az)) (@aB _ _ _ _ _ _ _ (bf (i:=5) n rfl jj j0) (@aB _ _ _ _ _ _ _ (bf (i:=6) n rfl jj aA) (@aB _ _ _ _ _ _ _ (bf (i:=7) n rfl jj (aR nJ aA (aR iQ (bw (zG T) cQ h.mo rfl (T.mf 0) (T.kp 0) (T.b 0) .nil (ao (aj 0) (ao aA az))) (aR QL aA aA)))) (@aB _ _ _ _ _ _ _ (@uC _ _ _ _ _ _ _ _ _ _ (jm rfl rfl) rfl (CN (ai5 (aj 0) (Ef aA) (Ef aA))) (iu (i:=8) n rfl jj) (@aB _ _ _ _ _ _ _ (bf (i:=9) n rfl jj (aR iQ (aj 8) aA)) (@aB _ _ _ _ _ _ _ (@bC _ _ _ _ _ _ _ _ _ _ (SW.pt (BZ (aV (bR u) (aj 9) aA (aG _)) (yW (aV T7 (aj 5) j0 (aG _))))) (@aB _ _ _ _ _ _ _ (bf (i:=7) n rfl jj (aR nJ (aR nJ (aj 7) aA) (aR iQ (aR uU (aj 8) aA) aA))) (@aB _ _ _ _ _ _ _ (bf (i:=10) n rfl jj (aN u (aj 1) (aR iQ (aR uU (aj 8) aA) aA))) (@aB _ _ _ _ _ _ _ (@di _ _ _ _ _ _ (@bw _ _ _ _ _ _ _ _ _ _ _ _ _ _ _ _ _ _ (Px T) cQ h.mo rfl (T.mf 64) (T.kp 64) (T.b 64) .nil (@aX _ _ _ _ _ _ _ (aj 3) (@aX _ _ _ _ _ _ _ (aj 1) (@aX _ _ _ _ _ _ _ (aj 10) (@aX _ _ _ _ _ _ _ (aj 7) (@aX _ _ _ _ _ _ _ (aj 5) (@aX _ _ _ _ _ _ _ (bD fL rfl T.jo fM (ao (aj 4) az)) az rfl) rfl) rfl) rfl) rfl) rfl) (by decide) rfl rfl rfl) rfl) (aD (bf (i:=5) n rfl jj (bO (ao (aj 10) (ao (aj 7) az)))))))) (@aD _ _ _ _ _ (@bC _ _ _ _ _ _ _ _ _ _ (aV (bR u) (aj 9) aA (aG _)) (aD (bC (SW.pt (JL (aV (lz u) (aj 4) (wL az) (aG _)) (JL (aV (bR u) (aN u (aN u (aj 4) (aau Uu aA)) aA) (aj 7) (aG _)) (Jb (aV FZ (bD fL rfl T.jo fM (ao (aj 4) az)) (aj 6) (aG _)))))) (aB (di (bw (Mh T) cQ h.mo rfl (T.mf 65) (T.kp 65) (T.b 65) .nil (ao (aj 3) (ao (aj 1) (ao (aj 5) (ao (aj 4) az))))))
  (aD (bf (i:=6) n rfl jj (bD fL rfl T.jo fM (ao (aj 4) az))))) bu)) (@aD _ _ _ _ _ (@bC _ _ _ _ _ _ _ _ _ _ (@JM _ _ _ _ _ _ (@rA _ _ _ _ _ (@bw _ _ _ _ _ _ _ _ _ _ _ _ _ _ _ _ _ _ (Pu T) cQ h.mo rfl (T.mf 72) (T.kp 72) (T.b 72) .nil (@aX _ _ _ _ _ _ _ (aj 3) (@aX _ _ _ _ _ _ _ (aj 5) (@aX _ _ _ _ _ _ _ (aj 4) (@aX _ _ _ _ _ _ _ (aj 2) (@aX _ _ _ _ _ _ _ (aj 6) (@aX _ _ _ _ _ _ _ (aR uU (aj 8) aA) (@aX _ _ _ _ _ _ _ (aj 1) az rfl) rfl) rfl) rfl) rfl) rfl) rfl) (by decide) rfl rfl rfl) (by intro _ ;rfl))) (aD (aK mD)) bu))))) (aD (bC (SW.pt (BZ (aV vZ (RJ (kc:=8) (aj 3) T.bQ (T.me 73) (Ir T) cQ h.mo (T.b 73) .nil) j0 (aG _)) (yW (aV (lz u) (aH (kc:=8) (aj 3) T.bQ (T.me 70) (Cg T) cQ h.mo (T.b 70) .nil (ao (aj 7) az)) (aj 4) (aG _))))) (aD (aK mD)) bu)))) (by intro _ ;rfl)) (aD (aK mD))))))))))
theorem YZ(T:Txt K mg t)(s:Shared)(u:Value):BindsTo s (t.d 74) ⟨[u],[]⟩ [("_law_script",u)]:=by
 obtain⟨oc,od,kV,doc,pm,an,cdv,ct,osl,e,_⟩:=(T.fn 74 rfl).ex
 rw[e]
 exact .of_eq rfl
theorem ad5(T:Txt K mg t):gw P w K mg base VV 12 (t.f 74) (t.d 74) ["_law_script"] (spL K):=aka (ag0 T) ahd
end
set_option autoImplicit true in
theorem all_mk{K:Frag}{h:Heap}{mg:Str->Option Value}(X:K.In h)(G:h.Ns mainGlobals mg){vo0 vo1 vo2 vo3 CV wZ wY wX wW zR Kc:Obj}{vn0 vn1 vn2 vn3 Sv Mq Mp Mm Ml PB ack:Nat}{tk0 Ie Ib Ia H_ H9 HY HX HW JD JC JB:Tok}{Tv:Array DictEntry}{PJ Pb:Str}{Ul:Addr}{QM iR:List Value}{Ox:List Str}{O4:List Value}{QZ:Bool}{QF:Option Bool}{QB:Option Addr}{Qg Qf Qe Qd Qc:Option Value}{Sw R6:Str}{VN:Addr}{T8 jA:List Value}{RC:List Str}{RL:List Value}{Ui:Bool}{T4:Option Bool}{TX:Option Addr}{Tj Ti Th Tf Te:Option Value}(Ls:nsIn K mainGlobals "Rules" = some (some (.ref uz)))(Dw:nsIn K mainGlobals "Ballots" = some (some (.ref pH)))(Du:nsIn K mainGlobals "Strides" = some (some (.ref pF)))(Dv:nsIn K mainGlobals "Replies" = some (some (.ref pG)))(Lw:nsIn K mainGlobals "Bench" = some (some (.ref uA)))(yf:nsIn K mainGlobals "HallError" = some (some (.ref bL)))(Bb:nsIn K mainGlobals "BadPaper" = some (some (.ref cP)))(a0:findIn K (.ref uz) "__init__" = some (some (.ref f0)))(i0:isFn K (.ref f0)=true)(l0:K.lookup f0=some ⟨oc0,od0,.func (fnOf "__init__" "Rules.__init__" (eU fU) (cY fU) (aZ fU) (.ref v0) kV0 dc0 pm0 an0 cd0 ct0),sl0⟩)(c0:codeIn K cd0 "Rules.__init__" = true)(k0:keepIn K (.ref f0)=true)(lv0:K.lookup v0=some vo0)(dv0:vo0.data= .seq #[.str "once best own most" tk0] vn0)(a1:findIn K (.ref uA) "__init__" = some (some (.ref f1)))(i1:isFn K (.ref f1)=true)(l1:K.lookup f1=some ⟨oc1,od1,.func (fnOf "__init__" "Bench.__init__" (eU fV) (cY fV) (aZ fV) (.ref v1) kV1 dc1 pm1 an1 cd1 ct1),sl1⟩)(c1:codeIn K cd1 "Bench.__init__" = true)(k1:keepIn K (.ref f1)=true)(lv1:K.lookup v1=some vo1)(dv1:vo1.data= .seq #[.none] vn1)(a2:nsIn K mainGlobals "carries" = some (some (.ref f2)))(l2:K.lookup f2=some ⟨oc2,od2,.func (fnOf "carries" "carries" (eU mF) (cY mF) (aZ mF) (.ref v2) kV2 dc2 pm2 an2 cd2 ct2),sl2⟩)(c2:codeIn K cd2 "carries" = true)(k2:keepIn K (.ref f2)=true)(lv2:K.lookup v2=some vo2)(dv2:vo2.data= .seq #[.bool false] vn2)(a3:nsIn K mainGlobals "wins" = some (some (.ref f3)))(l3:K.lookup f3=some ⟨oc3,od3,.func (fnOf "wins" "wins" (eU yX) (cY yX) (aZ yX) (.ref v3) kV3 dc3 pm3 an3 cd3 ct3),sl3⟩)(c3:codeIn K cd3 "wins" = true)(k3:keepIn K (.ref f3)=true)(lv3:K.lookup v3=some vo3)(dv3:vo3.data= .seq #[.bool false] vn3)(a4:findIn K (.ref bL) "__init__" = some (some (.ref f4)))(i4:isFn K (.ref f4)=true)(l4:K.lookup f4=some ⟨oc4,od4,.func (fnOf "__init__" "HallError.__init__" (eU cz) (cY cz) (aZ cz) .none kV4 dc4 pm4 an4 cd4 ct4),sl4⟩)(c4:codeIn K cd4 "HallError.__init__" = true)(k4:keepIn K (.ref f4)=true)(nH:Lz K uz)(rW:PySem.W.makesIn K uz=true)(KH:keepIn K (.ref uz)=true)(vO:Bf K uz ["once","best","own","most"])(aO:Lz K pH)(oN:PySem.W.makesIn K pH=true)(De:keepIn K (.ref pH)=true)(cI:Bf K pH ["rules","terms","votes","askings","seated"])(aJ:Lz K pF)(oJ:PySem.W.makesIn K pF=true)(Dc:keepIn K (.ref pF)=true)(cH:Bf K pF ["first_roll","rules","rows","lines","marks","places"])(gG:Lz K pG)(oK:PySem.W.makesIn K pG=true)(Dd:keepIn K (.ref pG)=true)(oH:Bf K pG ["beats","heard","looks","seen"])(bQ:Lz K uA)(vQ:PySem.W.makesIn K uA=true)(KJ:keepIn K (.ref uA)=true)(vP:Bf K uA ["first","rules","ballots","strides","replies","count","breach"])(hn_:PySem.W.specialIn K (.builtin "object.__class__") "__get__" = some (some (.builtin "getset_descriptor.__get__")))(tk_:PySem.W.takesIn K (.builtin "object.__class__")=some true)(eO:K.lookup bL=some (excClassObj PJ Pb bL Ul QM iR true Ox O4 QZ QF QB Qg Qf Qe Qd Qc "ValueError.__new__"))(wG:iR.contains (.type "ValueError")=true)(wF:iR.contains (.type "AttributeError")=false)(wz:iR.contains (.type "NameError")=false)(jK:iR.contains (.type "BaseException")=true)(qQ:iR.contains (.type "object")=true)(wO:iR=[].map Value.ref++[.type "ValueError",.type "Exception",.type "BaseException",.type "object"])(xg:findIn K (.ref bL) "__init__" = some (some (.ref f4)))(xH:keepIn K (.ref bL)=true)(wu:findIn K (.ref bL) "__setattr__" = some (some (.builtin "object.__setattr__")))(wD:findIn K (.ref bL) "__getattribute__" = some (some (.builtin "BaseException.__getattribute__")))(wj:findIn K (.ref bL) "at" = some none)(wC:findIn K (.ref bL) "__getattr__" = some none)(wB:findIn K (.ref bL) "__class__" = some (some (.builtin "object.__class__")))(fY:K.lookup cP=some (excClassObj Sw R6 cP VN T8 jA true RC RL Ui T4 TX Tj Ti Th Tf Te "ValueError.__new__"))(yS:jA.contains (.type "ValueError")=true)(yR:jA.contains (.type "AttributeError")=false)(yN:jA.contains (.type "NameError")=false)(mz:jA.contains (.type "BaseException")=true)(t6:jA.contains (.type "object")=true)(zB:jA=[bL].map Value.ref++[.type "ValueError",.type "Exception",.type "BaseException",.type "object"])(zU:findIn K (.ref cP) "__init__" = some (some (.ref f4)))(Aa:keepIn K (.ref cP)=true)(yM:findIn K (.ref cP) "__setattr__" = some (some (.builtin "object.__setattr__")))(yQ:findIn K (.ref cP) "__getattribute__" = some (some (.builtin "BaseException.__getattribute__")))(yL:findIn K (.ref cP) "at" = some none)(yP:findIn K (.ref cP) "__getattr__" = some none)(yO:findIn K (.ref cP) "__class__" = some (some (.builtin "object.__class__")))(eN:subIn K (.ref bL) (.ref bL)=some true)(fC:subIn K (.ref bL) (.ref cP)=some false)(fD:subIn K (.ref cP) (.ref bL)=some true)(fQ:subIn K (.ref cP) (.ref cP)=some true)(Ds:nsIn K mainGlobals "CHOICES" = some (some (.ref GZ)))(z9:K.lookup GZ=some CV)(Aw:CV.cls= .type "tuple")(Aq:CV.data= .seq #[.ref u9,.ref uZ,.ref uY,.ref uX] Sv)(uK:K.lookup u9=some wZ)(uT:wZ.cls= .type "tuple")(uO:wZ.data= .seq #[.str "once" Ie,.str "free" Ib] Mq)(uJ:K.lookup uZ=some wY)(uR:wY.cls= .type "tuple")(uN:wY.data= .seq #[.str "best" Ia,.str "any" H_] Mp)(uI:K.lookup uY=some wX)(uQ:wX.cls= .type "tuple")(uM:wX.data= .seq #[.str "own" H9,.str "old" HY] Mm)(uH:K.lookup uX=some wW)(uP:wW.cls= .type "tuple")(uL:wW.data= .seq #[.str "most" HX,.str "half" HW] Ml)(Ba:nsIn K mainGlobals "OF_HANDS" = some (some (.ref Dy)))(xF:K.lookup Dy=some zR)(xZ:zR.cls= .type "tuple")(xW:zR.data= .seq #[.str "vote" JD,.str "chair" JC,.str "told" JB] PB)(Lr:nsIn K mainGlobals "SIZES" = some (some (.ref Jr)))(J3:(Jr==sysModules)=false)(Kz:K.lookup Jr=some Kc)(Jt:Kc.ExactDict)(K9:Kc.data= .dict Tv ack)(J6:PyProof.Rows.KTD.Rows (λi v=>∃t,v=Value.int i t) Tv.toList [("vote",4),("chair",4),("write",4),("beat",3),("told",5),("settle",4),("answer",6),("look",6),("seen",8)])(u_:nsIn K mainGlobals "wins_rolls" = some (some (.ref f3)))(ZM:nsIn K mainGlobals "all" = some none)(yK:nsIn K mainGlobals "enumerate" = some none)(ZL:nsIn K mainGlobals "len" = some none)(Uq:nsIn K mainGlobals "list" = some none)(ZK:nsIn K mainGlobals "max" = some none)(ZJ:nsIn K mainGlobals "min" = some none)(Oe:nsIn K mainGlobals "range" = some none)(Js:nsIn K mainGlobals "sorted" = some none)(D_:∃xs,Q5 K (λk=>match k with | 6=>uz | 0=>pH | 7=>pF | 5=>pG | 8=>uA | 1=>bL | 2=>cP | _=>0) oh xs):
  ∃t,Txt K mg t:=
 let⟨xs_,D⟩:=D_
 ⟨{c:=λk=>match k with | 6=>uz | 0=>pH | 7=>pF | 5=>pG | 8=>uA | 1=>bL | 2=>cP | _=>0,xs:=xs_,qX:=f0,nF:=fnOf "__init__" "Rules.__init__" (eU fU) (cY fU) (aZ fU) (.ref v0) kV0 dc0 pm0 an0 cd0 ct0,
   DX:=v0,
   Eb:=tk0,
   qY:=f1,nG:=fnOf "__init__" "Bench.__init__" (eU fV) (cY fV) (aZ fV) (.ref v1) kV1 dc1 pm1 an1 cd1 ct1,
   DY:=v1,
   Bs:=f2,vX:=fnOf "carries" "carries" (eU mF) (cY mF) (aZ mF) (.ref v2) kV2 dc2 pm2 an2 cd2 ct2,
   MN:=v2,
   K4:=f3,K8:=fnOf "wins" "wins" (eU yX) (cY yX) (aZ yX) (.ref v3) kV3 dc3 pm3 an3 cd3 ct3,
   Z1:=v3,
   gZ:=f4,jU:=fnOf "__init__" "HallError.__init__" (eU cz) (cY cz) (aZ cz) .none kV4 dc4 pm4 an4 cd4 ct4,
   GD:=GZ,
   Dj:=Dy,
   Qu:=Jr},
  {D:=D,G:=λ_ _ a=>jI X G a,Cq:=xU l0 c0 k0,
   nO:=λs us X hl=>by obtain⟨u0,u1,rfl⟩:=xG (us:=us) (by simpa using hl);exact PySem.W.binds_K X rfl lv0 dv0 rfl rfl,
   uW:=λs us X hl=>by obtain⟨u0,rfl⟩:=P0 (us:=us) (by simpa using hl);exact PySem.W.binds_K X rfl lv0 dv0 rfl rfl,
   Cr:=xU l1 c1 k1,
   nQ:=λs us X hl=>by obtain⟨u0,u1,u2,rfl⟩:=Fo (us:=us) (by simpa using hl);exact PySem.W.binds_K X rfl lv1 dv1 rfl rfl,
   CG:=λs us X hl=>by obtain⟨u0,u1,rfl⟩:=xG (us:=us) (by simpa using hl);exact PySem.W.binds_K X rfl lv1 dv1 rfl rfl,
   xV:=xU l2 c2 k2,
   oZ:=λs us X hl=>by obtain⟨u0,u1,u2,rfl⟩:=Fo (us:=us) (by simpa using hl);exact PySem.W.binds_K X rfl lv2 dv2 rfl rfl,
   VH:=λs us X hl=>by obtain⟨u0,u1,rfl⟩:=xG (us:=us) (by simpa using hl);exact PySem.W.binds_K X rfl lv2 dv2 rfl rfl,
   CW:=jI X G a2,
   Qw:=xU l3 c3 k3,
   Ax:=λs us X hl=>by obtain⟨u0,u1,u2,rfl⟩:=Fo (us:=us) (by simpa using hl);exact PySem.W.binds_K X rfl lv3 dv3 rfl rfl,
   aeQ:=λs us X hl=>by obtain⟨u0,u1,rfl⟩:=xG (us:=us) (by simpa using hl);exact PySem.W.binds_K X rfl lv3 dv3 rfl rfl,
   ad_:=jI X G a3,
   ux:=xU l4 c4 k4,
   v5:=(xU l4 c4 k4:yJ K _ _ cz .none _ _).binds (ps:=["self","at"]) λ_ _ _ _ _ _ us hl=>by obtain⟨u0,u1,rfl⟩:=xG hl;rfl,
   rW:=⟨rW,a0,i0,KH⟩,
   nH:=nH,
   Ke:=jI X G Ls,
   vO:=vO,
   oN:=D.mk (i:=4) rfl rfl rfl rfl oN De,
   aO:=aO,
   Kg:=jI X G Dw,
   cI:=cI,
   oJ:=D.mk (i:=5) rfl rfl rfl rfl oJ Dc,
   aJ:=aJ,
   Kd:=jI X G Du,
   cH:=cH,
   oK:=D.mk (i:=6) rfl rfl rfl rfl oK Dd,
   gG:=gG,
   Kf:=jI X G Dv,
   oH:=oH,
   vQ:=⟨vQ,a1,i1,KJ⟩,
   bQ:=bQ,
   SM:=jI X G Lw,
   vP:=vP,
   PL:=jI X G yf,
   Og:=ZP eO wG wF wz jK xg i4 xH,
   Oi:=V1 eO qQ jK (G_ wO) wu wD wj,
   Oh:=ZQ eO qQ wC wB hn_ tk_,
   zV:=jI X G Bb,
   G3:=ZP fY yS yR yN mz zU i4 Aa,
   G4:=V1 fY t6 mz (G_ zB) yM yQ yL,
   Q8:=ZQ fY t6 yP yO hn_ tk_,
   wA:=V0 eO jK eN,
   xJ:=W_ eO eN,
   nW:=V0 fY mz fC,
   yF:=W_ fY fC,
   yt:=V0 eO jK fD,
   yG:=W_ eO fD,
   pM:=V0 fY mz fQ,
   Ab:=W_ fY fQ,
   xj:=jI X G Ds,
   wH:=λct ι n H=>(S.GF (xs:=[.ref u9,.ref uZ,.ref uY,.ref uX]) z9 Aw Aq (by simp) (.cons rfl (.cons rfl (.cons rfl (.cons rfl .nil)))) (.cons (S.GF (xs:=[.str "once",.str "free"]) uK uT uO (by simp) (.cons ⟨_,rfl⟩ (.cons ⟨_,rfl⟩ .nil)) (.cons (.str _) (.cons (.str _) .nil))) (.cons (S.GF (xs:=[.str "best",.str "any"]) uJ uR uN (by simp) (.cons ⟨_,rfl⟩ (.cons ⟨_,rfl⟩ .nil)) (.cons (.str _) (.cons (.str _) .nil))) (.cons (S.GF (xs:=[.str "own",.str "old"]) uI uQ uM (by simp) (.cons ⟨_,rfl⟩ (.cons ⟨_,rfl⟩ .nil)) (.cons (.str _) (.cons (.str _) .nil))) (.cons (S.GF (xs:=[.str "most",.str "half"]) uH uP uL (by simp) (.cons ⟨_,rfl⟩ (.cons ⟨_,rfl⟩ .nil)) (.cons (.str _) (.cons (.str _) .nil))) .nil))))),
   um:=jI X G Ba,
   t_:=λct ι n H=>(S.GF (xs:=[.str "vote",.str "chair",.str "told"]) xF xZ xW (by simp) (.cons ⟨_,rfl⟩ (.cons ⟨_,rfl⟩ (.cons ⟨_,rfl⟩ .nil))) (.cons (.str _) (.cons (.str _) (.cons (.str _) .nil)))),
   SJ:=jI X G Lr,
   Rq:=⟨J3,_,_,_,Kz,Jt,K9,J6⟩,
   Ci:=jI X G u_,
   abv:=vT X G ZM,
   zZ:=vT X G yK,
   jo:=vT X G ZL,
   Vg:=vT X G Uq,
   Nu:=vT X G ZK,
   afr:=vT X G ZJ,
   Bm:=vT X G Oe,
   S6:=vT X G Js}⟩
end My
open PySem PySem.W PyProof.Rows L2
structure PySem.W.Fast:Prop where(tw2478162173666174976 tw2904411545997902912 tw779918605293276224 tw16688958871478488128 tw15216809397256084608 tw6379057793152349472 tw8055893699779325216 tw12306279781494606240 tw1814970191724764608 tw1184869122418120160 tw7894282204595665376 tw14741285545832963552 tw14369119774162034272 tw11943918372988565088 tw7983755477083182688 tw16985067719984168576 tw17414641442288833280 tw16838224819307936608 tw7539685113763989408 tw564021824260353952 tw10450295262957664321 tw18114172681338849377 tw11527620658835971201 tw3936893633585411297 tw15958895870979682689 tw11499754026737469057 tw8630311693574737729 tw7347803806490773377 tw14961906316032254881 tw916048089587368897 tw9045069780005172226 tw13003908532747091234 tw4289669268562479426 tw14847202143455180098 tw7011568311486197282 tw10916634106326945634 tw3547652715893969794 tw11115051969674820546 tw11222774575371165763 tw4532050683344607491 tw13463337343928463811 tw2742187660617273859 tw6326627850162436675 tw17004345698410481251 tw2340224765276708483 tw1350314096604531491 tw13007337296859182947 tw5763116776112136067 tw1796907098962486308 tw9678182767219016804 tw17173197406414243044 tw3297472946706558180 tw1519359102199846116 tw5219785691006750980 tw5839913940464894244 tw5903768205698224420 tw184994335900099876 tw4306800069039899972 tw8602975054374078852 tw16919117134759306628 tw18275232518582938244 tw11713237842607979140 tw9506791582030156933 tw15894785867078534309 tw1967368901098886437 tw3161176816961435013 tw1174805566762555845 tw2748766046501218821 tw3345900741132418597 tw17863444694234073669 tw15619712926653533893 tw10852547761066075845 tw8349838267517469445 tw16030131199790654213 tw1620286657036145413 tw18314871583745825541 tw10498433801663818533 tw4555209232474714917 tw5086231065149375365 tw4909674995474101189 tw5222348214845981669 tw5416139611811141605 tw15700078730088891430 tw6356225253822460998 tw1654568729378970054 tw10609191285643013734 tw6695717254808258278 tw13662980304662259430 tw17217337021815124742 tw1979823911171914566 tw3837375335170149222 tw18111149131383876454 tw8872164183124857702 tw13382154766495052742 tw3214346714406385831 tw1506203234468954279 tw11389004401561632359 tw781311002512215687 tw6509518775400310727 tw6330248928238192583 tw14147522752710571975 tw223118727386815560 tw8090655860118272200 tw13797411615256258856 tw2168243604608176424 tw14621096168835806632 tw11276772618164717000 tw1763558161245073928 tw2506499876419861384 tw11225163627151090600 tw8402465893886895113 tw15103145675939506249 tw7643075555233229929 tw14012658058955254921 tw10826770362818828457 tw13808452202529403113 tw12635169575549821161 tw16760409938821401897 tw9450366055615670601 tw206363479219269993 tw14813284512941770249 tw8250777671178590729 tw17346717811561427497 tw530964515466370665 tw12265403472310954825 tw6908648978458177385 tw17347792073729807241 tw2546826933325689737 tw17519385635143593034 tw16761246404853291242 tw9214341298447157546 tw2561583304547987978 tw2022273794471623242 tw17092649005023244938 tw8506210144733303498 tw10659811688624722634 tw10057057107099991818 tw705950571631090538 tw7427206129012204458 tw2652624226775400362 tw2854105344973890731 tw15155547896057035979 tw5507794137397575947 tw14211251770168880459 tw7164770739325450571 tw11204423671752887659 tw14300715144199377291 tw13290908048853123595 tw17592168550770342539 tw5370792781585225515 tw13971149711011675979 tw9463779999955748715 tw5282694603836018571 tw13823928466647838667 tw12549332222792886284 tw12610647692809097260 tw10329436890984099916 tw6009829698746189164 tw2561427220846901644 tw11097255211693842860 tw13950884022890862028 tw6886005216125425100 tw913716094136572556 tw2606324403108578988 tw16212495693302073004 tw352537715839537932 tw5015143791150963628 tw17936390825186035692 tw10138124852149393421 tw8504837103135119405 tw11467951072118170669 tw18267592705722441805 tw16245826844212263053 tw320308306306293933 tw18398632040909186349 tw12734989884252184909 tw16585364507770359149 tw10074222900434471469 tw486107293540455981 tw17572773169004623469 tw13315352765197791885 tw8432875344818982829 tw1815728300332275693 tw7624976286199658766 tw16140106021379127790 tw9528124467407872686 tw162318723964475086 tw11268163728056069838 tw7353513802767534862 tw6744079490941965070 tw2068138468776281902 tw8964127054896289582 tw8035313927136407438 tw3943907188834603982 tw16674817540237632462 tw15083992630473547791 tw14004320290906489967 tw14063489011161142383 tw5249180656133789903 tw12814779648212698383 tw7608704034966442255 tw5957703333947545071 tw9887445827511110127 tw10142941062947006063 tw12048656791410307727 tw18283426245104967375 tw3357162021705120527 tw10509355690402553968 tw16211707535012860336 tw9436971523940854480 tw5975613340647504592 tw15817324218135916272 tw15856856244965228400 tw3722580474060988433 tw2284556927470624881 tw13498683742581613681 tw13142169709645785233 tw78995413166772497 tw10418826035053108497 tw11201439086272651665 tw11530230443849055633 tw2725173171364026897 tw10726720447490729841 tw14738628815342549969 tw15204540715582319634 tw17127349430228196594 tw7284472101982176594 tw17508886962013503858 tw5308160538249706866 tw10718272209261753810 tw4231976542220983794 tw10322722635242075634 tw14285813599682062866 tw4856017660787804882 tw13199959448634452786 tw1316412416351228882 tw5483551364993225811 tw4197239154286987603 tw4699792034348707155 tw1362806679031020883 tw11552321230951681427 tw14600351307815203315 tw12561643158825024115 tw13464289692324551411 tw2968403126755799060 tw18349386088057125908 tw6996038217069306996 tw17494795862669069588 tw6151482875693102356 tw16759694773823428916 tw16302023827424192852 tw128952982548253172 tw15173178990659466740 tw13034182986844495412 tw2534118525775049268 tw3927938324247477876 tw9605298767174766228 tw5752875179081113300 tw11155076228631664372 tw7873432432242266932 tw14000397658491201364 tw12307628911062931316 tw7078703920596872213 tw10693044513021174869 tw10988595852504172757 tw2724709385480084821 tw9757427000634334645 tw10918821288045404597 tw17865161466600532597 tw9543171172919085749 tw2674913840127128277 tw1554585792496648917 tw17085533148380942165 tw9131573282049052501 tw6431333912534643573 tw5121769803573014485 tw1675315050189118421 tw15537458178475521078 tw16517519419211544694 tw2025492652846804182 tw11919700448632520982 tw1129784164896869686 tw1065945043162938742 tw3436528299855536502 tw9642843847070495158 tw10733248340935594454 tw11971202106382309974 tw7556082242885617270 tw13178209383374126774 tw11305523451830328022 tw13153883380064044022 tw4552473964803592407 tw12330069476174677207 tw15506667870376577271 tw10717838459747984663 tw17767197180115282359 tw7793033030699753975 tw8246009438247944983 tw1788200352435146583 tw13934901180121495415 tw5096548199990880183 tw11861988111078246359 tw6373987844264906711 tw814265596140254167 tw5383589579177963511 tw1258504394678472728 tw15259507184623767576 tw7330859913646288024 tw9833113146674068856 tw6880586161109830040 tw1190623910377524632 tw13445976387866392152 tw4468024319942931096 tw1650101817116786360 tw4082771764642212568 tw7072085492708319992 tw6490590442141495032 tw1438366190935102264 tw11836967163350442840 tw7432480751606461304 tw13200974380464267321 tw5325770778311870585 tw11509422528264369369 tw11599074788470080761 tw8772508445617748217 tw1285751710192978233 tw14819297767801313593 tw1705372539396637017 tw7134715913514868185 tw139879407522852409 tw10578589532542395961 tw14500087078215017113 tw11954370757193330361 tw10609118210678389465 tw7946351073042992089 tw915410575984783321 tw12044700005802016858 tw11265465611571044474 tw8513723389732435130 tw1408685876583230778 tw3537798389483276634 tw5852434413954315674 tw11963449559188455834 tw13608449858210308634 tw9378438371507561050 tw7319805891242064474 tw4998554442468912026 tw14386958721909831674 tw1561968323147358235 tw1721688622289983611 tw14250738139463941275 tw2284859168948414715 tw13454754747322299643 tw4515216807087953179 tw8923368118072079739 tw17867962021712561627 tw15287603445547715099 tw13348625521427618427 tw15042158443475418747 tw2466358814897393339 tw2321941848522011387 tw14986386240239683355 tw187832800055290715 tw3617374151544263547 tw14387669691889248155 tw2854917035714531291 tw8643580443230907387 tw2762703892102537340 tw555424981717359804 tw6845167687630970204 tw760045874909444508 tw9345374786207048156 tw6272298334051875452 tw2473207412249718396 tw8899187039870423772 tw6357247337196908316 tw12415251140209173436 tw12954072985092463677 tw13367851730322388093 tw14438753090949090525 tw11277220470119833949 tw5063935333080746397 tw8714218217293911485 tw16621408135935349181 tw14705607101979182589 tw16261541287474712061 tw10574341633932535357 tw11594125328955155165 tw9276777979523928861 tw11674291335392530237 tw3942661044871526205 tw9339503640351901533 tw130652212704925629 tw18137170778674288605 tw3717919864726756478 tw12951459410782343294 tw13093513199621538974 tw2495568523704333502 tw16909330632506741054 tw12797831326930995582 tw5827388897054712254 tw4230241793795109342 tw12161343440200480254 tw6077817610607693438 tw12561540318156396190 tw9020194072422624926 tw15410552822513611518 tw2871579624746599166 tw13812951807485994910 tw15204643642042852286 tw10672840450184537054 tw17045024801542874143 tw12502727948765650015 tw7175895387480745087 tw16241916755131088127 tw10269151599036720383 tw10906365155732571519 tw13373130447463735679 tw3582514727394502047 tw18434527634032965151 tw17532492240087135999 tw2903198139417054047 tw13803104043225452543 tw17256274085953474769:True)
theorem PySem.Challenge.cw_chairvote_k62_writes_holds : PySem.Challenge.rw_chairvote_k62_writes.Holds := by
 w_on;o_law;k_head;(case hw=>w_witness2)
 k_fill
 refine S.aiG (l:=PySem.Challenge.rw_chairvote_k62_writes) (x:= "_law_script") (k:=12) rfl rfl ⟨rfl,by decide,by decide⟩ (fun w h Y=>PySem.W.kIn_of Y) ?F
 case F=>
  intro w mg fa h KX G hmg
  have T:∃t,My.Txt (L2.KOf KX) mg t:=by
   dsimp only[L2.KOf]
   refine' My.all_mk KX G ?Ls ?Dw ?Du ?Dv ?Lw ?yf ?Bb ?a0 ?i0 ?l0 ?c0 ?k0 ?lv0 ?dv0 ?a1 ?i1 ?l1 ?c1 ?k1 ?lv1 ?dv1 ?a2 ?l2 ?c2 ?k2 ?lv2 ?dv2 ?a3 ?l3 ?c3 ?k3 ?lv3 ?dv3 ?a4 ?i4 ?l4 ?c4 ?k4 ?nH ?rW ?KH ?vO ?aO ?oN ?De ?cI ?aJ ?oJ ?Dc ?cH ?gG ?oK ?Dd ?oH ?bQ ?vQ ?KJ ?vP ?hn_ ?tk_ ?eO ?wG ?wF ?wz ?jK ?qQ ?wO ?xg ?xH ?wu ?wD ?wj ?wC ?wB ?fY ?yS ?yR ?yN ?mz ?t6 ?zB ?zU ?Aa ?yM ?yQ ?yL ?yP ?yO ?eN ?fC ?fD ?fQ ?Ds ?z9 ?Aw ?Aq ?uK ?uT ?uO ?uJ ?uR ?uN ?uI ?uQ ?uM ?uH ?uP ?uL ?Ba ?xF ?xZ ?xW ?Lr ?J3 ?Kz ?Jt ?K9 ?J6 ?u_ ?ZM ?yK ?ZL ?Uq ?ZK ?ZJ ?Oe ?Js ?D_
   case Ls | Dw | Du | Dv | Lw | yf | Bb | a0 | i0 | l0 | c0 | k0 | lv0=>k_is
   case dv0=>rfl
   case a1 | i1 | l1 | c1 | k1 | lv1=>k_is
   case dv1=>rfl
   case a2 | l2 | c2 | k2 | lv2=>k_is
   case dv2=>rfl
   case a3 | l3 | c3 | k3 | lv3=>k_is
   case dv3=>rfl
   case a4 | i4 | l4 | c4 | k4=>k_is
   case nH=>exact⟨by k_is,by k_is,by k_is,by k_is⟩
   case rW | KH=>k_is
   case vO=>(repeat (refine vM (by k_is) ?_));exact zT
   case aO=>exact⟨by k_is,by k_is,by k_is,by k_is⟩
   case oN | De=>k_is
   case cI=>(repeat (refine vM (by k_is) ?_));exact zT
   case aJ=>exact⟨by k_is,by k_is,by k_is,by k_is⟩
   case oJ | Dc=>k_is
   case cH=>(repeat (refine vM (by k_is) ?_));exact zT
   case gG=>exact⟨by k_is,by k_is,by k_is,by k_is⟩
   case oK | Dd=>k_is
   case oH=>(repeat (refine vM (by k_is) ?_));exact zT
   case bQ=>exact⟨by k_is,by k_is,by k_is,by k_is⟩
   case vQ | KJ=>k_is
   case vP=>(repeat (refine vM (by k_is) ?_));exact zT
   case hn_ | tk_ | eO=>k_is
   case wG | wF | wz | jK | qQ=>decide +kernel
   case wO=>rfl
   case xg | xH | wu | wD | wj | wC | wB | fY=>k_is
   case yS | yR | yN | mz | t6=>decide +kernel
   case zB=>rfl
   case zU | Aa | yM | yQ | yL | yP | yO | eN | fC | fD | fQ | Ds | z9=>k_is
   case Aw | Aq=>rfl
   case uK=>k_is
   case uT | uO=>rfl
   case uJ=>k_is
   case uR | uN=>rfl
   case uI=>k_is
   case uQ | uM=>rfl
   case uH=>k_is
   case uP | uL=>rfl
   case Ba | xF=>k_is
   case xZ | xW=>rfl
   case Lr=>k_is
   case J3=>decide
   case Kz=>k_is
   case Jt=>exact⟨rfl,rfl,rfl⟩
   case K9=>rfl
   case J6=>exact .cons rfl ⟨_,rfl⟩ (.cons rfl ⟨_,rfl⟩ (.cons rfl ⟨_,rfl⟩ (.cons rfl ⟨_,rfl⟩ (.cons rfl ⟨_,rfl⟩ (.cons rfl ⟨_,rfl⟩ (.cons rfl ⟨_,rfl⟩ (.cons rfl ⟨_,rfl⟩ (.cons rfl ⟨_,rfl⟩ (.nil)))))))))
   case u_ | ZM | yK | ZL | Uq | ZK | ZJ | Oe | Js=>k_is
   case D_=>(repeat (first | refine ahL (by k_is) (by k_is) (by k_is) (by k_is) (by intro kV dc pm an cd ct us hl;first | (obtain⟨u0,rfl⟩:=P0 hl;rfl) | (obtain⟨u0,u1,rfl⟩:=xG hl;rfl) | (obtain⟨u0,u1,u2,rfl⟩:=Fo hl;rfl) | (obtain⟨u0,u1,u2,u3,rfl⟩:=W8 hl;rfl) | (obtain⟨u0,u1,u2,u3,u4,rfl⟩:=S.W7 hl;rfl) | (obtain⟨u0,u1,u2,u3,u4,u5,rfl⟩:=S.W6 hl;rfl) | (obtain⟨u0,u1,u2,u3,u4,u5,u6,rfl⟩:=S.W5 hl;rfl)) ?_ | refine ahK rfl (by k_is) (by k_is) (by k_is) (by k_is) (by k_is) (by intro kV dc pm an cd ct us hl;first | (obtain⟨u0,rfl⟩:=P0 hl;rfl) | (obtain⟨u0,u1,rfl⟩:=xG hl;rfl) | (obtain⟨u0,u1,u2,rfl⟩:=Fo hl;rfl) | (obtain⟨u0,u1,u2,u3,rfl⟩:=W8 hl;rfl) | (obtain⟨u0,u1,u2,u3,u4,rfl⟩:=S.W7 hl;rfl) | (obtain⟨u0,u1,u2,u3,u4,u5,rfl⟩:=S.W6 hl;rfl) | (obtain⟨u0,u1,u2,u3,u4,u5,u6,rfl⟩:=S.W5 hl;rfl)) ?_));exact aew
  obtain⟨t,T⟩:=T
  have e0:=hmg.symm.trans (T.mf 74 rfl rfl)
  cases e0
  exact⟨(t.d 74),fun s u=>My.YZ T s u,fun base _ _=>My.ad5 T⟩

