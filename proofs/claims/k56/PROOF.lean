import PyProof.Rows.All
import KE.KSortTup
import KE.KTab
import KE.KDictOf
import KE.KIntText
import KE.KNestM
import KE.KFromBytes
import KE.KTryMore
import KE.KItemsList
import KE.KLam
import Wide.Txt2
import KE.KPairComp
import KE.KRevIter
import KE.KMinKey
import Wide.FinOn
import Lean
import PySem.Challenge.RW_chairvote_k56_first_terms
set_option bootstrap.genMatcherCode false
set_option compiler.extract_closed false
set_option Elab.async false
set_option linter.all false
set_option maxRecDepth 100000
set_option maxHeartbeats 0
local macro_rules
 | `(#check$s:str)=>
  let f:=fun(n:Lean.Name)=>Lean.mkIdent (.mkSimple s!"tw{n.hash}")
  let a:=((s.getString.splitOn " ").map fun i=>f (`Hq9.b++.mkSimple (if i.front.isDigit then "o_"++i else i))).toArray
  let a:=a.push (f `PySem.Challenge.pw_chairvote_k56_first_terms)
  `(command|structure $(Lean.mkIdent `PySem.W.Fast):ident:Prop where ($[$a:ident]*:True))
#check"1154 1375 1316 699 1389 1459 799 1479 398 801 1332 1216 1277 608 673 164 1376 1062 566 531 632 480 438 1097 1348 835 1156 1489 494 1127 1550 622 177 1178 1211 1075 1234 281 893 762 471 655 1446 1354 1213 499 229 912 1586 1417 230 302 330 135 1318 1250 1561 1530 1477 351 1571 1080 175 1007 1588 89 879 802 344 256 105 279 1049 95 324 613 1536 939 283 1528 892 1089 769 104 1295 924 401 425 957 297 1292 1035 170 215 1091 854 445 625 240 833 711 138 582 247 945 649 979 1276 408 1607 1271 719 1330 557 57 1082 1445 201 536 718 568 1418 885 87 414 74 1347 422 507 1090 775 1028 251 1185 379 676 1451 372 1466 1269 1108 70 1175 558 1557 110 1317 1112 185 1241 916 1596 1410 828 325 961 739 725 826 1603 381 708 754 753 1367 278 744 755 1432 831 577 908 1471 615 1535 1424 1208 1000 464 1041 761 155 842 236 318 1425 207 1105 925 970 1430 1514 191 937 1235 331 187 1124 257 1564 535 1361 287 683 202 791 1383 1334 1325 1438 200 179 184 1163 1281 395 1006 282 1299 1179 303 1255 641 869 1168 55 946 519 146 552 1141 1069 735 584 515 1222 650 1284 1390 900 858 575 1243 316 840 208 528 999 845 1597 486 951 1604 626 63 1199 223 803 1055 545 1340 1595 1374 593 1170 658 772 264 165 1228 300 1020 1145 1396 813 221 611 249 393 726 841 907 458 1288 1173 1444 424 1507 587 1149 356 1042 1148 450 1278 731 1431 1393 367 700 964 323 1411 1206 209 1267 703 810 360 774 492 1497 346 49 1285 1315 786 614 862 508 736 949 965 242 56 45 588 917 228 1556 1523 1070 546 562 747 1453 537 1404 116 441 1487 897 783 642 991 1059 250 798 1137 1119 1096 697 576 365 359 819 444 781 426 443 1465 776 899 553 69 1353 1409 696 1337 1551 1048 1026 1577 944 527 380 675 827 607 569 1249 1147 647 1242 846 788 1439 1063 686 337 998 1346 1501 387 852 506 338 194 513 792 339 620 1516 407 1341 878 1467 400 1159 1126 317 958 1485 627 751 271 1027 554 978 1554 1047 78 493 501 289 1187 1470 1087 768 985 938 1193 1098 388 539 1220 956 1045 855 219 123 1339 366 821 214 1005 1194 465 857 787 580 1014 1512 60 171 1508 1369 1066 733 1500 594 618 570 73 671 901 1162 128 1388 402 982 457 634 1076 662 451 573 1021 1103 434 1083 1304 119 1403 767 1558 153 478 1544 953 500 1283 423 604 134 533 373 1543 1117 222 1013 140 1221 1056 345 1155 497 1128 1215 1257 1186 293 1486 1386 459 741 1227 1360 932 1077 161 814 1437 1611 120 931 102 1402 90 1298 1130 80 1578 665 875 1229 1600 412 651 1381 1111 353 820 1225 977 1200 143 984 1169 235 1565 311 195 887 633 672 1509 1110 452 589 83 521 1236 856 681 1068 1201 479 639 986 487 606 158 1602 657 1362 386 237 1333 677 847 1397 1593 1522 1270 559 437 1161 547 1568 1488 473 472 147 384 149 391 125 1472 1590 1140 534 793 1521 1024 1264 1054 1129 1214 599 1290 296 524 695 972 883 1246 1355 1537 601 415 913 689 1322 1174 853 1423 178 993 1478 186 1505 1256 1034 894 263 911 963 1549 1031 272 1609 1297 1563 1458 870 1125 216 583 930 1180 1368 261 1263 918 421 1003 150 640 834 806 309 838 1416 992 732 1192 108 358 258 310 868 485 277 265 782 1484 416 409 1309 427 71 923 600 1570 1326 1061 1040 93 1033 1207 394 886 705 866 538 760 86 270 113 592 1452 374 514 1542 717 98 244 1118 1582 243 1019 1248 871 1610 1589 1490 1305 1529 332 724 971 131 1382 800 1012 906 1104 1017 621 1460 1379 1262 659 466 1515 1291 172 101 352 304 117 1084 952 1395 1572 sts_681 tree_286 tree_559 tree_680 sts_93 tree_1133 tree_1215 sts_153 tree_1578 sts_806 sts_78 sts_49 tree_861 sts_562 sts_703 view_39 tree_107 tree_186 sts_642 sts_287 tree_1317 tree_738 heap_39 sts_1318 tree_641 tree_137 tree_1493 tree_92 tree_287 tree_1611 tree_122 sts_108 tree_152 tree_430 sts_123 sts_187 sts_1582 tree_77 tree_1305 sts_739 heap_1612 tree_805 tree_870 heap_46 sts_138 sts_289 sts_871 tree_47 tree_702 tree_515 sts_1309 sts_862 sts_519"
theorem Hq9.a {T Q:Prop}(t:T)(k:T->Q):Q:=k t
def Hq9.b:{P:Prop//P->PySem.Challenge.rw_chairvote_k56_first_terms.Holds}:=⟨_,fun h=>by
 refine' Hq9.a ?hc fun _=>?g
 case g=>w_on;o_law;k_head;(case hw=>w_witness2)
 case hc=>exact h⟩
abbrev zC:=@PySem.wpAny_bind
abbrev zD:=@PySem.Heap.get?_push_of_some
abbrev zI:=@PySem.wpAny_pure
abbrev zS:=@PySem.Heap.lt_size
abbrev yA:=@Nat.lt_of_lt_of_le
abbrev yB:=@PySem.Heap.get?_push_size
abbrev yT:=@List.mem_cons_of_mem
abbrev yY:=@Nat.le_trans
abbrev xA:=@Bool.false_ne_true
abbrev xB:=@List.mem_cons_self
abbrev xD:=@Nat.ne_of_lt
abbrev xE:=@List.mem_append_right
abbrev xI:=@Option.some.inj
abbrev xL:=@PySem.Heap.get?_update_other
abbrev xS:=@Nat.ne_of_gt
abbrev wP:=@Nat.lt_irrefl
abbrev wS:=@PySem.wpAny_newObj_type
abbrev wT:=@PySem.wpAny_mono
abbrev vE:=@PySem.wpAny_setField_rec
abbrev vF:=@PySem.Heap.get?_update_self
abbrev vS:=@PySem.wpAny_field
abbrev vT:=@PySem.W.mg_none_of
abbrev uS:=@PySem.W.kia_one
abbrev jI:=@PySem.wpAny_call_entry
abbrev jS:=@PySem.W.mg_of
abbrev zaa:=@True.intro
abbrev zab:=@Nat.le_refl
abbrev zac:=@List.getElem?_eq_getElem
abbrev zad:=@List.getElem?_append_right
abbrev zae:=@List.getElem?_append_left
abbrev zaf:=@decide_eq_false
abbrev zag:=@decide_eq_true
abbrev zah:=@PySem.wpAny_callSpecial?_slot
abbrev zai:=@List.getElem?_set_ne
abbrev zaj:=@List.getElem?_set_self
abbrev zam:=@List.getElem?_map
abbrev zan:=@List.length_map
noncomputable section
local macro_rules|`(())=>`(by lia)
open PySem.W (Frag fnOf findIn keepIn nsIn codeIn isFn kitOne subIn exmOne)
set_option Elab.async false
set_option linter.all false
set_option maxRecDepth 100000
namespace L2
open PySem PySem.Spec PyProof.Rows
abbrev Key:=Sum Int Str
noncomputable def Oj:Key->Value->Bool
 | .inl k,v=>Value.isInt k v
 | .inr x,v=>Value.isStrOf x v
noncomputable def ayA(w:World):Key->Int
 | .inl k=>hashInt k
 | .inr x=>hashStr w x
theorem iV:∀{k:Key} {v:Value},Oj k v=true->(∃i t,k=Sum.inl i/\v=Value.int i t)\/(∃x t,k=Sum.inr x/\v=Value.str x t)
 | .inl i,v,h=>by
  obtain⟨t,e⟩:=Value.isInt_shape (k:=i) (v:=v) h
  exact .inl ⟨i,t,rfl,e⟩
 | .inr x,v,h=>by
  obtain⟨t,e⟩:=Value.isStrOf_shape (x:=x) (v:=v) h
  exact .inr ⟨x,t,rfl,e⟩
theorem aaM(i:Int)(t:Tok):Oj (.inl i) (.int i t)=true:=by simp[Oj,Value.isInt]
theorem aaL(x:Str)(t:Tok):Oj (.inr x) (.str x t)=true:=by simp[Oj,Value.isStrOf]
theorem ahL(a b:Int):decide ((Sum.inl a:Key)=Sum.inl b)=(a==b):=by
 by_cases e:a=b
 ·subst e;simp
 ·have h:¬(Sum.inl a:Key)=Sum.inl b:=λq=>e (Sum.inl.inj q)
  rw[zaf h]
  exact(beq_eq_false_iff_ne.mpr e).symm
theorem ahI(a b:Str):decide ((Sum.inr a:Key)=Sum.inr b)=decide (a=b):=by
 by_cases e:a=b
 ·subst e;simp
 ·have h:¬(Sum.inr a:Key)=Sum.inr b:=λq=>e (Sum.inr.inj q)
  rw[zaf h,zaf e]
theorem ahK(a:Int)(b:Str):decide ((Sum.inl a:Key)=Sum.inr b)=false:=zaf (λq=>nomatch q)
theorem ahJ(a:Str)(b:Int):decide ((Sum.inr a:Key)=Sum.inl b)=false:=zaf (λq=>nomatch q)
noncomputable def gM(prog:Program)(w:World):PySem.KeyKind prog w Key where
 is:=Oj
 hash:=ayA w
 inj:=λv a b ha hb=>by
  rcases iV ha with⟨i,t,rfl,rfl⟩ | ⟨x,t,rfl,rfl⟩
  ·rcases iV hb with⟨j,u,rfl,e⟩ | ⟨y,u,rfl,e⟩
   ·injection e with e1 _;rw[e1]
   ·exact nomatch e
  ·rcases iV hb with⟨j,u,rfl,e⟩ | ⟨y,u,rfl,e⟩
   ·exact nomatch e
   ·injection e with e1 _;rw[e1]
 byValue:=λk v h=>by
  rcases iV h with⟨i,t,rfl,rfl⟩ | ⟨x,t,rfl,rfl⟩<;>rfl
 pyHash:=λhv h=>by
  rcases iV hv with⟨i,t,rfl,rfl⟩ | ⟨x,t,rfl,rfl⟩
  ·exact wpAny_pyHash_int h
  ·exact wpAny_pyHash_str h
 eqBool:=λhu hv h=>by
  rcases iV hu with⟨i,t,rfl,rfl⟩ | ⟨x,t,rfl,rfl⟩
  ·rcases iV hv with⟨j,u,rfl,rfl⟩ | ⟨y,u,rfl,rfl⟩
   ·rw[ahL]at h;exact wpAny_eqBool_int h
   ·rw[ahK]at h;exact SeqAt.EqAt.int_str i t y u _ _ _ _ h
  ·rcases iV hv with⟨j,u,rfl,rfl⟩ | ⟨y,u,rfl,rfl⟩
   ·rw[ahJ]at h;exact SeqAt.EqAt.str_int x t j u _ _ _ _ h
   ·rw[ahI]at h;exact wpAny_eqBool_str h
 «strs» := λk x t v h=>by
  rcases iV h with⟨i,u,rfl,e⟩ | ⟨y,u,rfl,e⟩
  ·exact nomatch e
  ·injection e with e1 _
   subst e1
   cases v<;>rfl
theorem Vn(prog:Program)(w:World)(i:Int)(t:Tok):(gM prog w).is (.inl i) (.int i t)=true:=aaM i t
theorem Vm(prog:Program)(w:World)(x:Str)(t:Tok):(gM prog w).is (.inr x) (.str x t)=true:=aaL x t
inductive V where
 | non | bl (b:Bool) | int (i:Int) | str (x:Str) | byt (b:Array UInt8) | flt (b:UInt64) | ref (a:Addr) | ty (n:String)
 deriving DecidableEq
def RelV:V->Value->Prop
 | .non,u=>u=Value.none
 | .bl b,u=>u=Value.bool b
 | .int i,u=>∃t,u=Value.int i t
 | .str x,u=>∃t,u=Value.str x t
 | .byt b,u=>∃t,u=Value.bytes b t
 | .flt b,u=>∃t,u=Value.float b t
 | .ref a,u=>u=Value.ref a
 | .ty n,u=>u=Value.type n
abbrev Vals:List V->List Value->Prop:=Paired RelV
theorem Vals.length(r:Vals xs us):xs.length=us.length:=Paired.length r
theorem Vals.get:∀{xs:List V} {us:List Value} {i:Nat} {x:V},Vals xs us->xs[i]? = some x->∃u,us[i]? = some u/\RelV x u
 | _,_,_,_,.nil,e=>by simp at e
 | _,_,0,_,.cons r _,e=>by simp at e;subst e;exact⟨_,rfl,r⟩
 | _,_,i+1,x,.cons _ t,e=>by
  obtain⟨u,h1,h2⟩:=Vals.get (i:=i) (x:=x) t (by simpa using e)
  exact⟨u,by simpa using h1,h2⟩
theorem Vals.append:∀{xs ys:List V} {us ws:List Value},Vals xs us->Vals ys ws->Vals (xs++ys) (us++ws)
 | _,_,_,_,.nil,s=>s
 | _,_,_,_,.cons r t,s=> .cons r (Vals.append t s)
theorem Vals.take:∀{xs:List V} {us:List Value} (n:Nat),Vals xs us->Vals (xs.take n) (us.take n)
 | _,_,0,_=> .nil
 | _,_,_+1,.nil=> .nil
 | _,_,n+1,.cons r t=> .cons r (Vals.take n t)
theorem Vals.drop:∀{xs:List V} {us:List Value} (n:Nat),Vals xs us->Vals (xs.drop n) (us.drop n)
 | _,_,0,r=>r
 | _,_,_+1,.nil=> .nil
 | _,_,n+1,.cons _ t=>Vals.drop n t
def Fe:Option V->Option Value->Prop
 | some v,some u=>RelV v u
 | none,none=>True
 | _,_=>False
def KV{κ:Type}:List (κ×V)->List (κ×Value)->Prop:=Paired λ(p:κ×V) (q:κ×Value)=>p.1=q.1/\RelV p.2 q.2
noncomputable def kV:Key->V
 | .inl i=> .int i
 | .inr x=> .str x
inductive HO where
 | lst (xs:List V)
 | tup (xs:List V)
 | dK (kvs:List (Key×V)) | dT (kvs:List (List Key×V))
 | set (S:Int->Bool) (n:Nat)
 | ins (C dx:Addr) (fs:List (Str×V))
 | own (x:Addr)
 | xd (fs:List (Str×V))
 | met (f x:Addr)
 | yK (lo hi:Int)
 | gb (o:Obj) (u:HO)
 | yJ (ps:Array Value)
 | ext (φ:Heap->Prop)
abbrev Hp:=Addr->Option HO
noncomputable def upd(H:Hp)(a:Addr)(o:HO):Hp:=λb=>if b=a then some o else H b
theorem aM:upd H a o a=some o:=by unfold upd;rw[if_pos rfl]
theorem aH(h:b≠a):upd H a o b=H b:=by unfold upd;rw[if_neg h]
theorem adO:upd (upd H a o) a u=upd H a u:=by
 funext b;unfold upd;split<;>rfl
theorem alA{H:Hp}{a b:Addr}{o u:HO}(h:H a=some o)(h':H b=some u)(d:o≠u):a≠b:=by
 intro e;subst e;rw[h]at h';exact d (xI h')
theorem bC{H:Hp}{a b:Addr}{o:HO}(h:H a=some o)(h':H b=none):a≠b:=by
 intro e;subst e;rw[h]at h';cases h'
section
variable(P:Program)(w:World)
def bT(H:Hp)(h:Heap)(a:Addr):HO->Prop
 | .lst xs=>xs.length<=sizeLine/\∃(its:List Value) (n:Nat),Vals xs its/\h.get? a=some {cls:= .type "list",data:= .seq its.toArray n}
 | .tup xs=>xs.length<=sizeLine/\∃its:List Value,Vals xs its/\IsTup h a its.toArray
 | .dK kvs=>kvs.length<=sizeLine/\(a==sysModules)=false/\∃vs,KV kvs vs/\h.DictOf (gM P w) a vs
 | .dT kvs=>kvs.length<=sizeLine/\(a==sysModules)=false/\∃xs:List (List Key×Addr×Value),
   Paired (λ(p:List Key×V) (q:List Key×Addr×Value)=>p.1=q.1/\H q.2.1=some (.tup (p.1.map kV))/\RelV p.2 q.2.2) kvs xs/\
   ∃o es ep,h.get? a=some o/\o.ExactDict/\o.data= .dict es ep/\es.toList=xs.map (entryOfKey (tupleKind (gM P w)))/\(xs.map (·.1)).Nodup
 | .set S n=>h.SetOf (intKind P w) a S n
 | .ins C dx fs=>H dx=some (.own a)/\fs.length<=1000/\dx≠a/\h.get? a=some (PySem.W.instObj C dx)/\
   ∃mA,h.Ns1 dx mA/\(∀f,Fe (fs.lookup f) (mA f))/\PySem.Within mA (fs.map (·.1))
 | .own _=>∃o,h.get? a=some o
 | .xd fs=>∃mA,h.Ns1 a mA/\∀f,Fe (fs.lookup f) (mA f)
 | .yK lo hi=>∃t u v,h.get? a=some {cls:= .type "range",data:= .fields #[.int lo t,.int hi u,.int 1 v]}
 | .gb o u=>h.get? a=some o/\bT H h a u
 | .yJ ps=>h.get? a=some {cls:= .none,data:= .fields ps}
 | .met f x=>h.get? a=some (PySem.W.methodObj (.ref f) (.ref x))
 | .ext φ=>φ h/\(∃o,h.get? a=some o)/\∀h1 h2:Heap,φ h1->(∀o,h1.get? a=some o->h2.get? a=some o)->φ h2
def ym(H:Hp)(h:Heap):Prop:=∀a o,H a=some o->bT P w H h a o
end
section
variable{P:Program}{w:World}{H H':Hp}{h h':Heap}{a:Addr}{o:HO}
theorem bT.lt(x:bT P w H h a o):a<h.objs.size:=by
 cases o with
 | lst xs=>obtain⟨_,_,_,_,e⟩:=x;exact zS e
 | tup xs=>obtain⟨_,_,_,p⟩:=x;exact p.lt
 | dK kvs=>obtain⟨_,_,_,_,o,_,_,e,_⟩:=x;exact zS e
 | dT kvs=>obtain⟨_,_,_,_,o,_,_,e,_⟩:=x;exact zS e
 | set S n=>obtain⟨o,_,_,_,e,_⟩:=x;exact zS e
 | ins C dx fs=>obtain⟨_,_,_,e,_⟩:=x;exact zS e
 | own y=>obtain⟨_,e⟩:=x;exact zS e
 | xd fs=>obtain⟨_,⟨_,_,_,e,_⟩,_⟩:=x;exact zS e
 | yK lo hi=>obtain⟨_,_,_,e⟩:=x;exact zS e
 | gb ob u=>obtain⟨e,_⟩:=x;exact zS e
 | yJ ps=>exact zS (show h.get? a=some _ from x)
 | met f y=>exact zS (show h.get? a=some _ from x)
 | ext φ=>obtain⟨_,⟨_,e⟩,_⟩:=x;exact zS e
theorem Paired.ahq{α β:Type}{F G:α->β->Prop}:∀{l₁:List α} {l₂:List β},Paired F l₁ l₂->(∀a b,F a b->G a b)->Paired G l₁ l₂
 | _,_,.nil,_=> .nil
 | _,_,.cons r t,f=> .cons (f _ _ r) (Paired.ahq t f)
theorem bT.stay(x:bT P w H h a o)(k:∀b u,(b=a\/H b=some (.own a))->h.get? b=some u->h'.get? b=some u)
  (ho:∀b,H b=some (.own a)->H' b=some (.own a)) (ht:∀b xs,H b=some (.tup xs)->H' b=some (.tup xs)):bT P w H' h' a o:=by
 induction o with
 | lst xs=>obtain⟨z,its,n,r,e⟩:=x;exact⟨z,its,n,r,k _ _ (.inl rfl) e⟩
 | tup xs=>obtain⟨z,its,r,ob,e,c⟩:=x;exact⟨z,its,r,ob,k _ _ (.inl rfl) e,c⟩
 | dK kvs=>obtain⟨z,y,vs,r,ob,es,ep,e,c⟩:=x;exact⟨z,y,vs,r,ob,es,ep,k _ _ (.inl rfl) e,c⟩
 | dT kvs=>
  obtain⟨z,y,xs,r,ob,es,ep,e,c⟩:=x
  exact⟨z,y,xs,Paired.ahq r λp q z=>⟨z.1,ht _ _ z.2.1,z.2.2⟩,ob,es,ep,k _ _ (.inl rfl) e,c⟩
 | set S n=>obtain⟨ob,es,ep,t,e,c⟩:=x;exact⟨ob,es,ep,t,k _ _ (.inl rfl) e,c⟩
 | ins C dx fs=>
  obtain⟨d,z,ne,e,mA,⟨od,es,ep,e2,c⟩,r⟩:=x
  exact⟨ho _ d,z,ne,k _ _ (.inl rfl) e,mA,⟨od,es,ep,k _ _ (.inr d) e2,c⟩,r⟩
 | own y=>obtain⟨ob,e⟩:=x;exact⟨ob,k _ _ (.inl rfl) e⟩
 | xd fs=>obtain⟨mA,⟨od,es,ep,e,c⟩,r⟩:=x;exact⟨mA,⟨od,es,ep,k _ _ (.inl rfl) e,c⟩,r⟩
 | yK lo hi=>obtain⟨t,u,v,e⟩:=x;exact⟨t,u,v,k _ _ (.inl rfl) e⟩
 | gb ob u ih=>obtain⟨e,q⟩:=x;exact⟨k _ _ (.inl rfl) e,ih q⟩
 | yJ ps=>
  have e:h.get? a=some {cls:= .none,data:= .fields ps}:=x
  show h'.get? a=some {cls:= .none,data:= .fields ps}
  exact k a _ (.inl rfl) e
 | met f y=>
  have e:h.get? a=some (PySem.W.methodObj (.ref f) (.ref y)):=x
  show h'.get? a=some (PySem.W.methodObj (.ref f) (.ref y))
  exact k a _ (.inl rfl) e
 | ext φ=>obtain⟨p,⟨o,e⟩,st⟩:=x;exact⟨st _ _ p λo q=>k _ _ (.inl rfl) q,⟨o,k _ _ (.inl rfl) e⟩,st⟩
theorem ym.lt(x:ym P w H h)(e:H a=some o):a<h.objs.size:=(x a o e).lt
theorem ym.fresh(x:ym P w H h)(e:h.objs.size<=a):H a=none:=by
 cases q:H a with
 | none=>rfl
 | some u=>exact absurd (yA (x.lt q) e) (wP _)
theorem ym.kept(x:ym P w H h)(k:∀b u,h.get? b=some u->h'.get? b=some u):ym P w H h':=λa o e=>
 (x a o e).stay (λb u _ q=>k b u q) (λ_ q=>q) λ_ _ q=>q
theorem ym.laid(x:ym P w H h)(k:∀b u,h.get? b=some u->h'.get? b=some u)(hp:h.objs.size<=a)(new:bT P w (upd H a o) h' a o):ym P w (upd H a o) h':=λb u e=>by
 have hn:=x.fresh hp
 by_cases hb:b=a
 ·subst hb;rw[aM]at e;cases e;exact new
 ·rw[aH hb]at e
  exact(x b u e).stay (λc v _ q=>k c v q) (λc q=>by rw[aH (bC q hn)];exact q) λc xs q=>by rw[aH (bC q hn)];exact q
end
def Rd(H:Hp)(a:Addr)(u:HO):Prop:=H a=some u\/∃o,H a=some (.gb o u)
theorem Rd.ok(r:Rd H a u)(x:ym P w H h):bT P w H h a u:=by
 rcases r with r | ⟨o,r⟩
 ·exact x a u r
 ·obtain⟨_,q⟩:=x a _ r
  exact q
def Mut:Option HO->Prop
 | some (.lst _)=>True
 | some (.dK _)=>True
 | some (.dT _)=>True
 | some (.set _ _)=>True
 | some (.ins _ _ _)=>True
 | some (.ext _)=>True
 | _=>False
section
variable{P:Program}{w:World}{H:Hp}{h h':Heap}{x e:Addr}{o':HO}
theorem ym.write(ok:ym P w H h)(mu:Mut (H x))(he:e=x\/H e=some (.own x))(k:∀b u,b≠e->h.get? b=some u->h'.get? b=some u)(heo:∃u,h'.get? e=some u)
  (new:bT P w (upd H x o') h' x o'):ym P w (upd H x o') h':=λb u q=>by
 have alx:∀c y,H c=some (.own y)->c≠x:=λc y r z=>by subst z;rw[r]at mu;exact mu
 have ayc:∀c xs,H c=some (.tup xs)->c≠x:=λc xs r z=>by subst z;rw[r]at mu;exact mu
 by_cases hb:b=x
 ·subst hb;rw[aM]at q;cases q;exact new
 ·rw[aH hb]at q
  by_cases hbe:b=e
  ·have q':H b=some (.own x):=by
    rcases he with z | z
    ·exact absurd (hbe.trans z) hb
    ·rw[hbe];exact z
   rw[q]at q';cases q'
   obtain⟨v,hv⟩:=heo
   exact⟨v,by rw[hbe];exact hv⟩
  ·refine(ok b u q).stay (λc v hc r=>k c v ?_ r) (λc r=>by rw[aH (alx c b r)];exact r) λc xs r=>by rw[aH (ayc c xs r)];exact r
   rcases hc with rfl | hc
   ·exact hbe
   ·rintro rfl
    rcases he with z | z
    ·exact alx c b hc z
    ·rw[hc]at z;cases z;exact hb rfl
end
structure Un(fs ex:List Addr)(H H':Hp)(h h':Heap):Prop where
 keep:∀b o,h.get? b=some o->H b=none->b∉fs->b∉ex->h'.get? b=some o
 slot:∀b o,h.get? b=some o->H b=none->b∈fs->b∉ex->∃sl,h'.get? b=some {o with slots:=sl}
 free:∀b o,h.get? b=some o->H b=none->b∉ex->H' b=none
 there:∀b o,h.get? b=some o->b∉ex->∃o',h'.get? b=some o'
 tups:∀b xs,H b=some (.tup xs)->H' b=some (.tup xs)
 vq:∀b o u,H b=some (.gb o u)->H' b=some (.gb o u)
 yo:∀b ps,H b=some (.yJ ps)->∃more,H' b=some (.yJ (ps++more))
section
variable{fs fs' ex ex':List Addr}{H H1 H2:Hp}{h h1 h2 h':Heap}{a x e:Addr}{o:HO}
theorem Un.any(u:Un fs ex H H1 h h1)(q:h.get? b=some ob)(n:H b=none)(hx:b∉ex):∃sl,h1.get? b=some {ob with slots:=sl}:=by
 by_cases hb:b∈fs
 ·exact u.slot b ob q n hb hx
 ·exact⟨ob.slots,u.keep b ob q n hb hx⟩
theorem Un.kept(k:∀b u,h.get? b=some u->h'.get? b=some u):Un fs ex H H h h':=
 ⟨λb ob q _ _ _=>k b ob q,λb ob q _ _ _=>⟨ob.slots,k b ob q⟩,λ_ _ _ n _=>n,λb ob q _=>⟨ob,k b ob q⟩,λ_ _ q=>q,λ_ _ _ q=>q,λ_ ps q=>⟨#[],by rw[q];simp⟩⟩
theorem Un.refl:Un fs ex H H h h:=Un.kept λ_ _ q=>q
theorem Un.laid(k:∀b u,h.get? b=some u->h'.get? b=some u)(hp:h.objs.size<=a)(hn:H a=none):Un fs ex H (upd H a o) h h' where
 keep:=λb u q _ _ _=>k b u q
 slot:=λb u q _ _ _=>⟨u.slots,k b u q⟩
 free:=λb u q n _=>by rw[aH (xD (yA (zS q) hp))];exact n
 there:=λb u q _=>⟨u,k b u q⟩
 tups:=λb xs q=>by rw[aH (bC q hn)];exact q
 vq:=λb u xs q=>by rw[aH (bC q hn)];exact q
 yo:=λb ps q=>⟨#[],by rw[aH (bC q hn),q];simp⟩
theorem Un.write(mu:Mut (H x))(he:e=x\/H e=some (.own x))(k:∀b u,b≠e->h.get? b=some u->h'.get? b=some u)(heo:∃u,h'.get? e=some u):Un fs ex H (upd H x o) h h':=by
 have hx:∀b,H b=none->b≠x:=λb n z=>by subst z;rw[n]at mu;exact mu
 have hb:∀b,H b=none->b≠e:=λb n z=>by
  subst z
  rcases he with r | r
  ·exact hx b n r
  ·rw[n]at r;cases r
 have hm:∀b u,H b=some u->¬Mut (some u)->b≠x:=λb u q nm z=>by subst z;rw[q]at mu;exact nm mu
 refine⟨λb u q n _ _=>k b u (hb b n) q,λb u q n _ _=>⟨u.slots,k b u (hb b n) q⟩,λb u q n _=>by rw[aH (hx b n)];exact n,λb u q _=> ?_,
  λb xs q=>by rw[aH (hm b _ q λz=>z)];exact q,λb u xs q=>by rw[aH (hm b _ q λz=>z)];exact q,λb ps q=>⟨#[],by rw[aH (hm b _ q λz=>z),q];simp⟩⟩
 by_cases hbe:b=e
 ·subst hbe;exact heo
 ·exact⟨u,k b u hbe q⟩
end
noncomputable def trk(h:Heap)(H:Hp):List Addr:=(List.range h.objs.size).filter λa=>(H a).isSome
noncomputable def Ot(h:Heap)(H:Hp):Heap:=PySem.W.hideAll h (trk h H)
theorem aaT(h:Heap)(H:Hp):(Ot h H).objs.size=h.objs.size:=PySem.W.hideAll_size _ _
theorem ac8(e:h.get? b=some o)(n:H b=none):(Ot h H).get? b=some o:=
 PySem.W.hideAll_get _ e λhm=>by
  have q:(H b).isSome=true:=(List.mem_filter.mp hm).2
  rw[n]at q;simp at q
theorem aeA(e:(Ot h H).get? b=some o):h.get? b=some o/\H b=none:=by
 have e':h.get? b=some o:=PySem.W.of_hideAll (trk h H) e
 refine⟨e',?_⟩
 cases q:H b with
 | none=>rfl
 | some x=>
  have hm:b∈trk h H:=List.mem_filter.mpr ⟨List.mem_range.mpr (zS e'),by simp[q]⟩
  have z:(Ot h H).get? b=none:=PySem.W.hideAll_none (trk h H) hm
  rw[z]at e;cases e
noncomputable def afp(g h:Heap)(L:Addr):List (Addr×Obj):=(List.range h.objs.size).filterMap λa=>if a=L\/(g.get? a).isSome=true then none else(h.get? a).map λo=>(a,o)
noncomputable def rest(g h:Heap)(L d:Addr):List (Addr×Obj):=(afp g h L).filter λp=>decide (p.1≠d)
structure Mod(K:Frag)(mg:Str->Option Value)(base:Heap):Prop where
 kin:K.In base
 glob:base.Ns mainGlobals mg
 blt:∃mb,base.Ns builtinsNs mb/\∀x:Str,x≠ "__name__" -> mb x=bootBuiltins x
 nolimit:base.NoLimit
structure Cx where
 prog:Program
 w:World
 K:Frag
 mg:Str->Option Value
 base:Heap
 A:Around
 N:List Str
 s₀:Shared
 H₀:Hp
 env:Env
 outer:List Env
 stack:List Env
 ex:List Addr
 fn:Str->Bool
 calm:Bool
 pn:List (Addr×Obj)
 xe:Value->Shared->Prop
noncomputable def frs(l:List Env):List Addr:=l.filterMap (·.frame)
abbrev Cx.fs(X:Cx):List Addr:=frs X.outer
def Vis(sc:Scope)(x:Str):Prop:=sc.names.lookup x=some .local\/sc.names.lookup x=some .cell\/sc.names.lookup x=some .free
def Loc(sc:Scope)(x:Str):Prop:=sc.names.lookup x=some .local\/sc.names.lookup x=some .cell
def Look(env:Env)(h:Heap)(m:Str->Option Value)(x:Str)(u:Value):Prop:=
 (env.kindOf x=some .local/\m x=some u)\/((env.kindOf x=some .cell\/env.kindOf x=some .free)/\∃c,env.cells.lookup x=some c/\h.IsCell c (some u))
structure Cx.Ok(X:Cx):Prop where
 mod:Mod X.K X.mg X.base
 kind:X.env.scope.kind= .function
 glob:X.env.globals=mainGlobals
 blt:X.env.builtins=builtinsNs
 above:X.s₀.heap.objs.size<=X.env.locals
 inj:∀x y c,X.env.cells.lookup x=some c->X.env.cells.lookup y=some c->x=y
 has:∀x,(X.env.kindOf x=some .cell\/X.env.kindOf x=some .free)->∃c,X.env.cells.lookup x=some c
 cab:∀x c,X.fn x=true->X.env.cells.lookup x=some c->X.s₀.heap.objs.size<=c
 hd:X.calm=true->X.A.handled=none
 frames:X.A.frames=some X.stack
 stk:X.stack=X.outer\/(X.stack=X.env::X.outer/\X.env.frame=some X.env.locals)
 exf:∀b∈X.ex,b≠X.env.locals/\∀x c,X.env.cells.lookup x=some c->c≠b
 bs:∀b o,X.base.get? b=some o->X.s₀.heap.get? b=some o/\X.H₀ b=none
 Yb:X.base.objs.size<=X.s₀.heap.objs.size
 Sh:∀b o,X.base.get? b=some o->b∉X.ex
 Tw:∀b∈X.ex,b∉X.fs
 BX:X.s₀.heap.FunFrames X.base X.outer
 frf:∀b∈X.fs,X.H₀ b=none
def ZL(X:Cx)(H:Hp)(x:Str)(c:Addr):Prop:=H c=none\/X.fn x=false/\∃o u,H c=some (.gb o u)
theorem ZL.imp(h:ZL X H x c)(hf:X.fn x=false->X'.fn x=false)(h0:H c=none->H' c=none)(h1:∀o u,H c=some (.gb o u)->H' c=some (.gb o u)):ZL X' H' x c:=
 h.elim (λz=> .inl (h0 z)) λ⟨f,o,u,z⟩=> .inr ⟨hf f,o,u,h1 o u z⟩
structure Inv(X:Cx)(pins:List (Addr×Obj))(σ:List (Option V))(H:Hp)(s:Shared):Prop where
 ok:X.Ok
 os:s.os=X.s₀.os
 bare:AllBare s.gens
 base:Un X.fs X.ex X.H₀ H X.s₀.heap s.heap
 loc:∃m,s.heap.Ns X.env.locals m/\∀(i:Nat) (x:Str) (v:V),X.N[i]? = some x->σ[i]? = some (some v)->Vis X.env.scope x->∃u,RelV v u/\Look X.env s.heap m x u
 cell:∀x c,X.env.cells.lookup x=some c->∃v,s.heap.IsCell c v
 free:H X.env.locals=none
 m7:∀x c,X.env.cells.lookup x=some c->ZL X H x c
 pin:∀p∈X.pn++pins,s.heap.get? p.1=some p.2/\H p.1=none/\p.1≠X.env.locals/\p.1∉X.fs/\∀v,p.2.data≠ .cell v
 hok:ym X.prog X.w H s.heap
 len:σ.length=X.N.length
section
variable{X:Cx}{pins:List (Addr×Obj)}{σ:List (Option V)}{H H':Hp}{s:Shared}{h':Heap}
theorem Cx.Ok.aye(ok:X.Ok)(e:X.base.get? b=some o):b∉X.fs:=λhb=>by
 have:=(ok.BX.mem hb).1
 rw[e]at this;cases this
theorem Inv.bs(I:Inv X pins σ H s):∀b o,X.base.get? b=some o->s.heap.get? b=some o/\H b=none:=λb o e=>
 ⟨I.base.keep b o (I.ok.bs b o e).1 (I.ok.bs b o e).2 (I.ok.aye e) (I.ok.Sh b o e),I.base.free b o (I.ok.bs b o e).1 (I.ok.bs b o e).2 (I.ok.Sh b o e)⟩
theorem Inv.bk(I:Inv X pins σ H s):∀b o,X.base.get? b=some o->s.heap.get? b=some o:=λb o e=>(I.bs b o e).1
theorem Inv.mod(I:Inv X pins σ H s):Mod X.K X.mg X.base:=I.ok.mod
theorem Inv.zb(I:Inv X pins σ H s):X.K.In s.heap:=I.ok.mod.kin.keeps I.bk
theorem Inv.fr(I:Inv X pins σ H s):∃m,Fr X.base X.env.locals s.heap m:=
 let⟨m,hn,_⟩:=I.loc
 ⟨m,hn,I.bk,yY I.ok.Yb I.ok.above⟩
theorem Inv.lt(I:Inv X pins σ H s):X.env.locals<s.heap.objs.size:=let⟨_,hn,_⟩:=I.loc;hn.lt
theorem Inv.sz(I:Inv X pins σ H s):X.s₀.heap.objs.size<=s.heap.objs.size:=yY I.ok.above (Nat.le_of_lt I.lt)
theorem Inv.ayd(I:Inv X pins σ H s)(h:s.heap.objs.size<=a):a∉X.fs:=λhb=>by
 obtain⟨_,o,ho,_⟩:=I.ok.BX.mem hb
 exact absurd (yA (zS ho) (yY I.sz h)) (wP _)
theorem Inv.cne(I:Inv X pins σ H s):∀x c,X.env.cells.lookup x=some c->c≠X.env.locals:=λx c e z=>by
 obtain⟨v,o,ho,hd⟩:=I.cell x c e
 obtain⟨m,⟨o',es,ep,ho',hd',_⟩,_⟩:=I.loc
 rw[z,ho']at ho;cases ho;rw[hd']at hd;cases hd
theorem Inv.BX(I:Inv X pins σ H s):s.heap.FunFrames X.base X.outer:=by
 have all:∀(l:List Env),(∀b∈frs l,b∈X.fs)->X.s₀.heap.FunFrames X.base l->s.heap.FunFrames X.base l:=by
  intro l
  induction l with
  | nil=>intro _ _;trivial
  | cons env r ih=>
   intro hs hl
   obtain⟨hk,⟨L,o,hf,hn,ho,hd⟩,hr⟩:=hl
   have hL:L∈X.fs:=hs L (by unfold frs;rw[List.filterMap_cons,hf];exact xB)
   obtain⟨sl,e⟩:=I.base.slot L o ho (I.ok.frf L hL) hL λz=>I.ok.Tw L z hL
   exact⟨hk,⟨L,_,hf,hn,e,hd⟩,ih (λb hb=>hs b (by unfold frs;rw[List.filterMap_cons,hf];exact yT _ hb)) hr⟩
 exact all X.outer (λ_ hb=>hb) I.ok.BX
theorem Inv.stack(I:Inv X pins σ H s):s.heap.FunFrames X.base X.stack:=by
 rcases I.ok.stk with e | ⟨e,hf⟩
 ·rw[e];exact I.BX
 ·rw[e]
  obtain⟨m,hn,_⟩:=I.loc
  refine .cons (by rw[I.ok.kind];decide) hf hn ?_ I.BX
  exact Heap.get?_none_of_le (yY I.ok.Yb I.ok.above)
theorem Inv.Mm(I:Inv X pins σ H s):∀b∈frs X.stack,b∈X.env.locals::X.fs:=λb hb=>by
 rcases I.ok.stk with e | ⟨e,hf⟩
 ·rw[e]at hb;exact yT _ hb
 ·rw[e]at hb
  unfold frs at hb
  rw[List.filterMap_cons,hf]at hb
  exact hb
theorem Inv.G7(I:Inv X pins σ H s):∀b∈frs X.stack,H b=none:=λb hb=>by
 rcases List.mem_cons.mp (I.Mm b hb)with e | hb
 ·rw[e];exact I.free
 ·obtain⟨_,o,ho,_⟩:=I.ok.BX.mem hb
  exact I.base.free b o ho (I.ok.frf b hb) λz=>I.ok.Tw b z hb
theorem Inv.step{g':Array GenState}{t':Nat}{ch:List Addr}(I:Inv X pins σ H s)
  (hch:∀b∈ch,(b∈X.ex\/X.s₀.heap.objs.size<=b)/\b≠X.env.locals/\(∀x c,X.env.cells.lookup x=some c->c≠b)/\∀p∈X.pn++pins,p.1≠b)
  (keep:∀b o,b≠X.env.locals->b∉X.fs->b∉ch->s.heap.get? b=some o->H b=none->h'.get? b=some o)
  (slot:∀b o,b≠X.env.locals->b∈X.fs->b∉ch->s.heap.get? b=some o->H b=none->∃sl,h'.get? b=some {o with slots:=sl}) (free:∀b o,b∉ch->s.heap.get? b=some o->H b=none->H' b=none)
  (there:∀b o,b∉ch->s.heap.get? b=some o->∃o',h'.get? b=some o')
  (tups:∀b xs,H b=some (.tup xs)->H' b=some (.tup xs)) (vq:∀b o u,H b=some (.gb o u)->H' b=some (.gb o u)) (yo:∀b ps,H b=some (.yJ ps)->∃more,H' b=some (.yJ (ps++more)))
  (ns:∀m,s.heap.Ns X.env.locals m->h'.Ns X.env.locals m) (hok:ym X.prog X.w H' h') (hg:AllBare g'):
  Inv X pins σ H' {s with heap:=h',gens:=g',drawn:=d',toks:=t'}:=by
 have neL:∀b o,X.s₀.heap.get? b=some o->b≠X.env.locals:=λb o e=>xD (yA (zS e) I.ok.above)
 have neC:∀b o,X.s₀.heap.get? b=some o->b∉X.ex->b∉ch:=λb o e hx hb=>by
  rcases(hch b hb).1 with z | z
  ·exact hx z
  ·exact absurd (yA (zS e) z) (wP _)
 have cellK:∀x c,X.env.cells.lookup x=some c->∀v,s.heap.IsCell c v->h'.IsCell c v:=λx c e v ⟨o,ho,hd⟩=>by
  have nch:c∉ch:=λz=>(hch c z).2.2.1 x c e rfl
  rcases I.m7 x c e with fr | ⟨_,o1,u1,fr⟩
  ·by_cases hc:c∈X.fs
   ·obtain⟨sl,q⟩:=slot c o (I.cne x c e) hc nch ho fr
    exact⟨_,q,hd⟩
   ·exact⟨o,keep c o (I.cne x c e) hc nch ho fr,hd⟩
  ·have z1:=(I.hok c _ fr).1
   rw[ho]at z1
   cases z1
   exact⟨o,(hok c _ (vq c o u1 fr)).1,hd⟩
 refine⟨I.ok,I.os,hg,⟨λb o e n hb hx=> ?_,λb o e n hb hx=> ?_,λb o e n hx=> ?_,λb o e hx=> ?_,λb xs e=>tups b xs (I.base.tups b xs e),λb o xs e=>vq b o xs (I.base.vq b o xs e),λb ps e=> ?_⟩,?_,λx c e=> ?_,?_,λx c e=> ?_,λp hp=> ?_,hok,I.len⟩
 ·exact keep b o (neL b o e) hb (neC b o e hx) (I.base.keep b o e n hb hx) (I.base.free b o e n hx)
 ·obtain⟨sl,e1⟩:=I.base.slot b o e n hb hx
  obtain⟨sl',e2⟩:=slot b _ (neL b o e) hb (neC b o e hx) e1 (I.base.free b o e n hx)
  exact⟨sl',e2⟩
 ·obtain⟨o',e1⟩:=I.base.there b o e hx
  exact free b o' (neC b o e hx) e1 (I.base.free b o e n hx)
 ·obtain⟨o',e1⟩:=I.base.there b o e hx
  exact there b o' (neC b o e hx) e1
 ·obtain⟨m1,e1⟩:=I.base.yo b ps e
  obtain⟨m2,e2⟩:=yo b _ e1
  exact⟨m1++m2,by rw[e2,Array.append_assoc]⟩
 ·obtain⟨m,hn,hl⟩:=I.loc
  refine⟨m,ns m hn,λi x v e1 e2 e3=> ?_⟩
  obtain⟨u,r,l⟩:=hl i x v e1 e2 e3
  refine⟨u,r,?_⟩
  rcases l with l | ⟨k,c,e,z⟩
  ·exact .inl l
  ·exact .inr ⟨k,c,e,cellK x c e _ z⟩
 ·obtain⟨v,z⟩:=I.cell x c e
  exact⟨v,cellK x c e v z⟩
 ·obtain⟨m,⟨o,_,_,ho,_⟩,_⟩:=I.loc
  exact free _ o (λz=>(hch _ z).2.1 rfl) ho I.free
 ·obtain⟨v,o,ho,hd⟩:=I.cell x c e
  exact(I.m7 x c e).imp id (λfr=>free c o (λz=>(hch c z).2.2.1 x c e rfl) ho fr) (vq c)
 ·obtain⟨e,n,ne,nf,d⟩:=I.pin p hp
  have nch:p.1∉ch:=λz=>(hch p.1 z).2.2.2 p hp rfl
  exact⟨keep p.1 p.2 ne nf nch e n,free p.1 p.2 nch e n,ne,nf,d⟩
theorem Inv.un(I:Inv X pins σ H s)(u:Un X.fs [] H H' s.heap h')(hok:ym X.prog X.w H' h'):Inv X pins σ H' {s with heap:=h',toks:=t'}:=by
 obtain⟨m,⟨o,es,ep,ho,r⟩,_⟩:=id I.loc
 obtain⟨sl,hL⟩:=u.any ho I.free (by simp)
 exact I.step (g':=s.gens) (d':=s.drawn) (ch:=[]) (λ_ z=>nomatch z) (λb o _ hb _ e n=>u.keep b o e n hb (by simp)) (λb o _ hb _ e n=>u.slot b o e n hb (by simp)) (λb o _ e n=>u.free b o e n (by simp)) (λb o _ e=>u.there b o e (by simp)) u.tups u.vq u.yo (λm' hm=>by
  obtain⟨o',es',ep',ho',r'⟩:=hm
  rw[ho]at ho';cases ho'
  exact⟨_,es',ep',hL,r'⟩) hok I.bare
theorem Inv.call(I:Inv X pins σ H s)(u:Un (frs X.stack) ch H H' s.heap h')(hok:ym X.prog X.w H' h')(hg:AllBare g')
  (hch:∀b∈ch,(b∈X.ex\/X.s₀.heap.objs.size<=b)/\b≠X.env.locals/\(∀x c,X.env.cells.lookup x=some c->c≠b)/\∀p∈X.pn++pins,p.1≠b):
  Inv X pins σ H' {s with heap:=h',gens:=g',drawn:=d',toks:=t'}:=by
 obtain⟨m,⟨o,es,ep,ho,r⟩,_⟩:=id I.loc
 obtain⟨sl,hL⟩:=u.any ho I.free λz=>(hch _ z).2.1 rfl
 exact I.step (ch:=ch) hch (λb o hL hb hc e n=>u.keep b o e n (λz=>(List.mem_cons.mp (I.Mm b z)).elim hL hb) hc) (λb o _ _ hc e n=>u.any e n hc) (λb o hc e n=>u.free b o e n hc) (λb o hc e=>u.there b o e hc) u.tups u.vq u.yo (λm' hm=>by
  obtain⟨o',es',ep',ho',r'⟩:=hm
  rw[ho]at ho';cases ho'
  exact⟨_,es',ep',hL,r'⟩) hok hg
theorem Inv.turned(I:Inv X pins σ H s)(k:∀b o,b≠it->s.heap.get? b=some o->h'.get? b=some o)(hn:H it=none)(hL:it≠X.env.locals)
  (h1:it∈X.ex\/X.s₀.heap.objs.size<=it) (h2:∀x c,X.env.cells.lookup x=some c->c≠it) (h3:∀p∈X.pn++pins,p.1≠it):Inv X pins σ H {s with heap:=h',toks:=t'}:=by
 have nit:∀b u,H b=some u->b≠it:=λb u e z=>by rw[z,hn]at e;cases e
 refine I.step (g':=s.gens) (d':=s.drawn) (ch:=[it]) (λb hb=> ?_) (λb o _ _ hc e _=>k b o (λz=>hc (by simp[z])) e) (λb o _ _ hc e _=>⟨o.slots,k b o (λz=>hc (by simp[z])) e⟩) (λ_ _ _ _ n=>n)
  (λb o hc e=>⟨o,k b o (λz=>hc (by simp[z])) e⟩) (λ_ _ e=>e) (λ_ _ _ e=>e) (λb ps e=>⟨#[],by rw[e];simp⟩) (λm hm=> ?_) (λb u e=> ?_) I.bare
 ·have e:b=it:=by simpa using hb
  subst e
  exact⟨h1,hL,h2,h3⟩
 ·obtain⟨o,es,ep,ho,r⟩:=hm
  exact⟨o,es,ep,k _ o (Ne.symm hL) ho,r⟩
 ·refine(I.hok b u e).stay (λc v hc q=>k c v ?_ q) (λ_ q=>q) λ_ _ q=>q
  rcases hc with z | z
  ·rw[z];exact nit b u e
  ·exact nit c _ z
theorem Inv.tok(I:Inv X pins σ H s)(t:Nat):Inv X pins σ H {s with toks:=t}:=I.un (h':=s.heap) (t':=t) Un.refl I.hok
theorem Inv.kept(I:Inv X pins σ H s)(k:∀b u,s.heap.get? b=some u->h'.get? b=some u):Inv X pins σ H {s with heap:=h',toks:=t'}:=I.un (Un.kept k) (I.hok.kept k)
theorem Inv.laid(I:Inv X pins σ H s)(k:∀b u,s.heap.get? b=some u->h'.get? b=some u)(hp:s.heap.objs.size<=a)(new:bT X.prog X.w (upd H a o) h' a o):
  Inv X pins σ (upd H a o) {s with heap:=h',toks:=t'}:=I.un (Un.laid k hp (I.hok.fresh hp)) (I.hok.laid k hp new)
theorem Inv.write(I:Inv X pins σ H s)(mu:Mut (H x))(he:e=x\/H e=some (.own x))(k:∀b u,b≠e->s.heap.get? b=some u->h'.get? b=some u)(heo:∃u,h'.get? e=some u)
  (new:bT X.prog X.w (upd H x o) h' x o):Inv X pins σ (upd H x o) {s with heap:=h',toks:=t'}:=I.un (Un.write mu he k heo) (I.hok.write mu he k heo new)
theorem Inv.weak(I:Inv X pins σ H s)(hl:σ'.length=σ.length)(w:∀(i:Nat) v,σ'[i]? = some (some v)->σ[i]? = some (some v)):Inv X pins σ' H s:=
 ⟨I.ok,I.os,I.bare,I.base,let⟨m,hn,hl'⟩:=I.loc;⟨m,hn,λi x v e1 e2 e3=>hl' i x v e1 (w i v e2) e3⟩,I.cell,I.free,I.m7,I.pin,I.hok,hl.trans I.len⟩
theorem Inv.z8(I:Inv X pins σ H s)(h:∀p∈Cu,s.heap.get? p.1=some p.2/\H p.1=none/\p.1≠X.env.locals/\p.1∉X.fs/\∀v,p.2.data≠ .cell v):Inv X Cu σ H s:=
 ⟨I.ok,I.os,I.bare,I.base,I.loc,I.cell,I.free,I.m7,λp hp=>(List.mem_append.mp hp).elim (λz=>I.pin p (List.mem_append_left _ z)) (h p),I.hok,I.len⟩
theorem Nz{N:List Str}(hN:N.Nodup){i j:Nat}{x:Str}(a:N[i]? = some x)(b:N[j]? = some x):i=j:=by
 obtain⟨h1,e1⟩:=List.getElem?_eq_some_iff.mp a
 obtain⟨h2,e2⟩:=List.getElem?_eq_some_iff.mp b
 exact(List.getElem_inj hN).mp (e1.trans e2.symm)
theorem Jj{E:Value->Shared->Prop}{Q:Unit->Shared->Prop}(I:Inv X pins σ H s)(hN:X.N.Nodup)(hi:X.N[i]? = some x)(hx:Loc X.env.scope x)(r:RelV v u)
  (h:∀s',Inv X pins (σ.set i (some v)) H s'->(∃a,Heap.SameBut a s.heap s'.heap/\(a=X.env.locals\/X.env.cells.lookup x=some a))->Q .unit s') (hf:X.fn x=true\/X.env.scope.names.lookup x=some .local:=by first | exact .inl rfl | exact .inr rfl | assumption):wpAny M A (storeName X.env x u) Q E s:=by
 obtain⟨m,hn,hl⟩:=id I.loc
 have hcls:(X.env.scope.kind== .class||(X.env.scope.kind== .module&&X.env.locals != X.env.globals))=false:=by rw[I.ok.kind];rfl
 have anv:i<σ.length:=by rw[I.len];exact(List.getElem?_eq_some_iff.mp hi).1
 have cne:=I.cne
 have tracked:∀{a:Addr} {h':Heap},(∃o,s.heap.get? a=some o/\H a=none)->Heap.SameBut a s.heap h'->ym X.prog X.w H h':=λ{a h'} ha hs b ob e=>by
  obtain⟨_,_,hfree⟩:=ha
  refine(I.hok b ob e).stay (λc w' hc q=>(hs.2 c ?_).trans q) (λ_ q=>q) λ_ _ q=>q
  rintro rfl
  rcases hc with rfl | hc
  ·rw[hfree]at e;cases e
  ·rw[hfree]at hc;cases hc
 rcases hx with hk | hk
 ·refine wpAny_storeName_local hk hn (λh' hn' hs=> ?_) hcls
  obtain⟨oL,_,_,hoL,_⟩:=id hn
  refine h _ ⟨I.ok,I.os,I.bare,⟨λb o e n hb hx=> ?_,λb o e n hb hx=> ?_,I.base.free,λb o e hx=> ?_,I.base.tups,I.base.vq,I.base.yo⟩,⟨_,hn',λj y v' e1 e2 e3=> ?_⟩,λy c e=> ?_,I.free,I.m7,λp hp=> ?_,tracked ⟨oL,hoL,I.free⟩ hs,by simpa using I.len⟩ ⟨_,hs,.inl rfl⟩
  ·exact(hs.2 b (xD (yA (zS e) I.ok.above))).trans (I.base.keep b o e n hb hx)
  ·obtain⟨sl,e1⟩:=I.base.slot b o e n hb hx
   exact⟨sl,(hs.2 b (xD (yA (zS e) I.ok.above))).trans e1⟩
  ·obtain⟨o',e1⟩:=I.base.there b o e hx
   exact⟨o',(hs.2 b (xD (yA (zS e) I.ok.above))).trans e1⟩
  ·by_cases hj:j=i
   ·subst hj
    rw[hi]at e1;cases e1
    rw[zaj anv]at e2
    cases e2
    exact⟨u,r,.inl ⟨hk,by simp⟩⟩
   ·rw[zai (Ne.symm hj)]at e2
    obtain⟨u',r',q⟩:=hl j y v' e1 e2 e3
    refine⟨u',r',?_⟩
    rcases q with⟨k,e⟩ | ⟨k,c,e,z⟩
    ·refine .inl ⟨k,?_⟩
     have:y≠x:=λe=>hj (Nz hN e1 (e▸hi))
     simp[this,e]
    ·exact .inr ⟨k,c,e,z.sameBut hs (cne y c e)⟩
  ·obtain⟨w',z⟩:=I.cell y c e
   exact⟨w',z.sameBut hs (cne y c e)⟩
  ·obtain⟨e,n,ne,nf,d⟩:=I.pin p hp
   exact⟨(hs.2 p.1 ne).trans e,n,ne,nf,d⟩
 ·have hfn:X.fn x=true:=by
   rcases hf with z | z
   ·exact z
   ·rw[z]at hk;cases hk
  obtain⟨c,hc⟩:=I.ok.has x (.inl hk)
  obtain⟨w',z⟩:=I.cell x c hc
  refine wpAny_storeName_cell I.ok.kind hk hc z (λh' hc' hs=> ?_)
  obtain⟨oc,hoc,azo⟩:=id z
  refine h {s with heap:=h'} ⟨I.ok,I.os,I.bare,⟨λb o e n hb hx=> ?_,λb o e n hb hx=> ?_,I.base.free,λb o e hx=> ?_,I.base.tups,I.base.vq,I.base.yo⟩,⟨m,hn.sameBut hs (Ne.symm (cne x c hc)),λj y v' e1 e2 e3=> ?_⟩,λy c' e=> ?_,I.free,I.m7,λp hp=> ?_,tracked ⟨oc,hoc,(I.m7 x c hc).elim id λz=>absurd hfn (by rw[z.1];decide)⟩ hs,by simpa using I.len⟩ ⟨c,hs,.inr hc⟩
  ·exact(hs.2 b (xD (yA (zS e) (I.ok.cab x c hfn hc)))).trans (I.base.keep b o e n hb hx)
  ·obtain⟨sl,e1⟩:=I.base.slot b o e n hb hx
   exact⟨sl,(hs.2 b (xD (yA (zS e) (I.ok.cab x c hfn hc)))).trans e1⟩
  ·obtain⟨o',e1⟩:=I.base.there b o e hx
   exact⟨o',(hs.2 b (xD (yA (zS e) (I.ok.cab x c hfn hc)))).trans e1⟩
  ·by_cases hj:j=i
   ·subst hj
    rw[hi]at e1;cases e1
    rw[zaj anv]at e2
    cases e2
    exact⟨u,r,.inr ⟨.inl hk,c,hc,hc'⟩⟩
   ·rw[zai (Ne.symm hj)]at e2
    obtain⟨u',r',q⟩:=hl j y v' e1 e2 e3
    refine⟨u',r',?_⟩
    rcases q with q | ⟨k,c',e,z'⟩
    ·exact .inl q
    ·refine .inr ⟨k,c',e,z'.sameBut hs ?_⟩
     rintro rfl
     exact hj (Nz hN e1 (I.ok.inj _ _ _ e hc▸hi))
  ·by_cases hcc:c'=c
   ·subst hcc;exact⟨_,hc'⟩
   ·obtain⟨w2,z2⟩:=I.cell y c' e
    exact⟨w2,z2.sameBut hs hcc⟩
  ·obtain⟨e,n,ne,nf,d⟩:=I.pin p hp
   refine⟨(hs.2 p.1 ?_).trans e,n,ne,nf,d⟩
   intro q
   rw[q,hoc]at e
   have q':oc=p.2:=xI e
   exact d w' (by rw[<-q'];exact azo)
theorem G6{E:Value->Shared->Prop}{Q:Unit->Shared->Prop}(I:Inv X pins σ H s)(hN:X.N.Nodup)(hi:X.N[i]? = some x)(hx:Loc X.env.scope x)(r:RelV v u)
  (h:∀s',Inv X pins (σ.set i (some v)) H s'->Q .unit s') (hf:X.fn x=true\/X.env.scope.names.lookup x=some .local:=by first | exact .inl rfl | exact .inr rfl | assumption):wpAny M A (storeName X.env x u) Q E s:=
 Jj I hN hi hx r (λs' I' _=>h s' I') hf
theorem Inv.call'(I:Inv X pins σ H s)(ho:s'.os=s.os)(u:Un (frs X.stack) ch H H' s.heap s'.heap)(hok:ym X.prog X.w H' s'.heap)(hg:AllBare s'.gens)
  (hch:∀b∈ch,(b∈X.ex\/X.s₀.heap.objs.size<=b)/\b≠X.env.locals/\(∀x c,X.env.cells.lookup x=some c->c≠b)/\∀p∈X.pn++pins,p.1≠b):Inv X pins σ H' s':=by
 obtain⟨h',g',d',t',o'⟩:=s'
 have e:o'=s.os:=ho
 subst e
 exact I.call (g':=g') (t':=t') (d':=d') u hok hg hch
end
abbrev XK:=Value->Option Addr->Hp->Prop
abbrev St:=List (Option V)
abbrev VK:=V->Hp->Prop
abbrev TE:=St->Hp->VK->Prop
abbrev TT:=St->Hp->(Bool->Hp->Prop)->Prop
abbrev TA:=St->Hp->(List V->Hp->Prop)->Prop
structure Ends where
 nx:St->Hp->Prop
 rt:VK
 bk:St->Hp->Prop:=λ_ _=>False
 ct:St->Hp->Prop:=λ_ _=>False
abbrev TS:=Ends->St->Hp->Prop
def EP(X:Cx)(pins:List (Addr×Obj))(σ:St)(Q:VK)(u:Value)(s':Shared):Prop:=∃v H',Inv X pins σ H' s'/\RelV v u/\Q v H'
def TP(X:Cx)(pins:List (Addr×Obj))(σ:St)(Q:Bool->Hp->Prop)(b:Bool)(s':Shared):Prop:=∃H',Inv X pins σ H' s'/\Q b H'
def AP(X:Cx)(pins:List (Addr×Obj))(σ:St)(Q:List V->Hp->Prop)(us:List Value)(s':Shared):Prop:=∃vs H',Inv X pins σ H' s'/\Vals vs us/\Q vs H'
def SP(X:Cx)(pins:List (Addr×Obj))(D:Ends)(f:Flow)(s':Shared):Prop:=
 match f with
 | .next=>∃σ' H',Inv X pins σ' H' s'/\D.nx σ' H'
 | .brk=>∃σ' H',Inv X pins σ' H' s'/\D.bk σ' H'
 | .cont=>∃σ' H',Inv X pins σ' H' s'/\D.ct σ' H'
 | .ret u=>∃v σ' H',Inv X pins σ' H' s'/\RelV v u/\D.rt v H'
def PE(X:Cx)(e:Expr)(t:TE):Prop:=
 ∀(pins:List (Addr×Obj)) (s:Shared) (σ:St) (H:Hp) (Q:VK),Inv X pins σ H s->t σ H Q->wpAny (model X.prog X.w) X.A (eval e X.env) (EP X pins σ Q) X.xe s
def PT(X:Cx)(e:Expr)(t:TT):Prop:=
 ∀(pins:List (Addr×Obj)) (s:Shared) (σ:St) (H:Hp) (Q:Bool->Hp->Prop),Inv X pins σ H s->t σ H Q->wpAny (model X.prog X.w) X.A (isTrue e X.env (eval e X.env)) (TP X pins σ Q) X.xe s
def PW(X:Cx)(e:Expr)(t:TT):Prop:=
 ∀(whole:Sem Value) (pins:List (Addr×Obj)) (s:Shared) (σ:St) (H:Hp) (Q:Bool->Hp->Prop),Inv X pins σ H s->t σ H Q->wpAny (model X.prog X.w) X.A (isTrue e X.env whole) (TP X pins σ Q) X.xe s
theorem PW.pt(h:PW X e t):PT X e t:=h _
def PA(X:Cx)(es:List Expr)(t:TA):Prop:=
 ∀(pos:Pos) (pins:List (Addr×Obj)) (s:Shared) (σ:St) (H:Hp) (Q:List V->Hp->Prop),Inv X pins σ H s->t σ H Q->wpAny (model X.prog X.w) X.A (spliced (backTo pos (starEach es X.env))) (AP X pins σ Q) X.xe s
def PS(X:Cx)(st:Stmt)(t:TS):Prop:=
 ∀(pins:List (Addr×Obj)) (s:Shared) (σ:St) (H:Hp) (D:Ends),Inv X pins σ H s->t D σ H->wpAny (model X.prog X.w) X.A (exec st X.env) (SP X pins D) X.xe s
def Le(X:Cx)(st:List Stmt)(t:TS):Prop:=
 ∀(pins:List (Addr×Obj)) (s:Shared) (σ:St) (H:Hp) (D:Ends),Inv X pins σ H s->t D σ H->wpAny (model X.prog X.w) X.A (execs st X.env) (SP X pins D) X.xe s
theorem kj{α:Type}{t:Sem α}{Q Q':α->Shared->Prop}{M:Model}{A:Around}{E:Value->Shared->Prop}{s:Shared}(h:wpAny M A t Q E s)(hQ:∀a s,Q a s->Q' a s):wpAny M A t Q' E s:=wT h hQ λ_ _ x=>x
section
variable{X:Cx}
def ZS(i:Nat):TE:=λσ H Q=>∃v,σ[i]? = some (some v)/\Q v H
def tC(v:V):TE:=λ_ H Q=>Q v H
theorem RX(hN:X.N[i]? = some x)(hv:Vis X.env.scope x)(hd:(x==("__debug__" : Str))=false:=by decide)(hcd:(x==("__classdict__" : Str))=false:=by decide):PE X (.Name x pos) (ZS i):=by
 intro pins s σ H Q I h
 obtain⟨v,e,h⟩:=h
 obtain⟨m,hn,hl⟩:=I.loc
 obtain⟨u,r,l⟩:=hl i x v hN e hv
 have fin:EP X pins σ Q u s:=⟨v,H,I,r,h⟩
 rcases l with⟨hk,hm⟩ | ⟨hk,c,hc,hcell⟩
 ·exact wpAny_Name (wpAny_loadName_local I.ok.kind hk hn hm fin) hd
 ·rcases hk with hk | hk
  ·exact wpAny_Name (wpAny_loadName_cell I.ok.kind hk hc hcell fin) hd
  ·exact wpAny_Name (wpAny_loadName_free I.ok.kind hk hc hcell fin hcd) hd
theorem ag2{i j pos}:PE X (.Constant (.int i) j pos) (tC (.int i)):=λ_ _ _ H _ I h=>wpAny_Constant_int ⟨.int i,H,I.tok _,⟨_,rfl⟩,h⟩
theorem alo{b j pos}:PE X (.Constant (.bool b) j pos) (tC (.bl b)):=λ_ _ _ H _ I h=>Constant_bool ⟨.bl b,H,I,rfl,h⟩
theorem agZ{j pos}:PE X (.Constant .none j pos) (tC .non):=λ_ _ _ H _ I h=>Constant_none ⟨.non,H,I,rfl,h⟩
theorem agW{x j pos}:PE X (.Constant (.str x) j pos) (tC (.str x)):=λ_ _ _ H _ I h=>Calls.Constant_str ⟨.str x,H,I.tok _,⟨_,rfl⟩,h⟩
def Gl(X:Cx)(x:Str):Prop:=X.env.kindOf x=some .globalImplicit
theorem Eg{E:Value->Shared->Prop}{Q:Value->Shared->Prop}(I:Inv X pins σ H s)(hg:Gl X x)(hm:X.mg x=some u)(h:Q u s)
  (hd:(x==("__debug__" : Str))=false:=by decide):wpAny (model X.prog X.w) X.A (eval (.Name x pos) X.env) Q E s:=
 Calls.Name_function_global I.ok.kind hg (Calls.loadGlobal_global (by rw[I.ok.glob];exact I.mod.glob.keeps I.bk) hm h) hd
theorem Dd{E:Value->Shared->Prop}{Q:Value->Shared->Prop}(I:Inv X pins σ H s)(hg:Gl X x)(hm:X.mg x=none)(hv:bootBuiltins x=some u)(h:Q u s)
  (hn:x≠ "__name__" := by decide) (hd:(x==("__debug__" : Str))=false:=by decide):wpAny (model X.prog X.w) X.A (eval (.Name x pos) X.env) Q E s:=by
 obtain⟨mb,h1,h2⟩:=I.mod.blt
 exact Calls.Name_function_global I.ok.kind hg (Calls.loadGlobal_builtin (by rw[I.ok.glob];exact I.mod.glob.keeps I.bk) hm (by rw[I.ok.blt];exact h1.keeps I.bk) ((h2 x hn).trans hv) h) hd
theorem Y7(hg:Gl X x)(hm:X.mg x=some u)(r:RelV v u)(hd:(x==("__debug__" : Str))=false:=by decide):PE X (.Name x pos) (tC v):=
 λ_ _ _ H _ I h=>Eg I hg hm ⟨v,H,I,r,h⟩ hd
theorem aes(hg:Gl X x)(hm:X.mg x=none)(hv:bootBuiltins x=some u)(r:RelV v u)(hn:x≠ "__name__" := by decide)(hd:(x==("__debug__" : Str))=false:=by decide):PE X (.Name x pos) (tC v):=
 λ_ _ _ H _ I h=>Dd I hg hm hv ⟨v,H,I,r,h⟩ hn hd
variable{a b:Expr}{ta tb:TE}{pos:Pos}
def tB(t:TE):TT:=λσ H Q=>t σ H λx H1=>∃c,x= .bl c/\Q c H1
theorem agN(h:PE X e t)(he:∀whole,isTrue e X.env whole=(do let v <-whole;standAt e.pos;holding [v] (truthy v)):=by intro _;rfl):PT X e (tB t):=by
 intro pins s σ H Q I hw
 refine isTrue_plain (kj (h pins s σ H _ I hw) ?_) (he _)
 rintro v s1 ⟨x,H1,I1,r1,q1⟩
 obtain⟨d,rfl,q⟩:=q1
 cases r1
 exact wpAny_truthy_bool ⟨H1,I1,q⟩
variable{tA tB':TT}{rest:List Expr}
def avi(t u:TT):TT:=λσ H Q=>t σ H λc H1=>if c=true then u σ H1 Q else Q false H1
def tOr(t u:TT):TT:=λσ H Q=>t σ H λc H1=>if c=true then Q true H1 else u σ H1 Q
def ava(t:TT):TT:=λσ H Q=>t σ H λc H1=>Q (!c) H1
theorem ad_(ha:PT X a tA):PW X (.BoolOp .And [a] pos) tA:=by
 intro wh pins s σ H Q I h
 refine isTrue_and (kj (ha pins s σ H Q I h) λc s1 e=> ?_)
 cases c with
 | true=>exact isTrue_and_nil e
 | false=>exact e
theorem agL(ha:PT X a tA):PW X (.BoolOp .Or [a] pos) tA:=by
 intro wh pins s σ H Q I h
 refine isTrue_or (kj (ha pins s σ H Q I h) λc s1 e=> ?_)
 cases c with
 | false=>exact isTrue_or_nil e
 | true=>exact e
theorem agM(ha:PT X a tA)(hb:PW X (.BoolOp .And (b::rest) pos) tB'):PW X (.BoolOp .And (a::b::rest) pos) (avi tA tB'):=by
 intro wh pins s σ H Q I h
 refine isTrue_and (kj (ha pins s σ H _ I h) ?_)
 rintro c s1 ⟨H1,I1,q1⟩
 cases c with
 | true=>exact hb wh pins s1 σ H1 Q I1 q1
 | false=>exact⟨H1,I1,q1⟩
theorem ako(ha:PT X a tA)(hb:PW X (.BoolOp .Or (b::rest) pos) tB'):PW X (.BoolOp .Or (a::b::rest) pos) (tOr tA tB'):=by
 intro wh pins s σ H Q I h
 refine isTrue_or (kj (ha pins s σ H _ I h) ?_)
 rintro c s1 ⟨H1,I1,q1⟩
 cases c with
 | true=>exact⟨H1,I1,q1⟩
 | false=>exact hb wh pins s1 σ H1 Q I1 q1
theorem agO(ha:PT X a tA):PT X (.UnaryOp .Not a pos) (ava tA):=by
 intro pins s σ H Q I h
 exact isTrue_not (ha pins s σ H (λc H1=>Q (!c) H1) I h)
def ajQ(ta tb:TE):TE:=λσ H Q=>ta σ H λx H1=>∃c,x= .bl c/\if c=true then tb σ H1 Q else Q (.bl false) H1
def au_(ta tb:TE):TE:=λσ H Q=>ta σ H λx H1=>∃c,x= .bl c/\if c=true then Q (.bl true) H1 else tb σ H1 Q
def ajL(ta:TE):TE:=λσ H Q=>ta σ H λx H1=>∃c,x= .bl c/\Q (.bl (!c)) H1
theorem agX{op}(h:PE X a t):PE X (.BoolOp op [a] pos) t:=λpins s σ H Q I hw=>BoolOp_one (h pins s σ H Q I hw)
theorem ag3(ha:PE X a ta)(hb:PE X (.BoolOp .And (b::rest) pos) tb):PE X (.BoolOp .And (a::b::rest) pos) (ajQ ta tb):=by
 intro pins s σ H Q I h
 refine BoolOp_and (kj (ha pins s σ H _ I h) ?_)
 rintro v s1 ⟨x,H1,I1,r1,q1⟩
 obtain⟨c,rfl,q1⟩:=q1
 cases r1
 refine wpAny_truthy_bool ?_
 cases c with
 | true=>exact hb pins s1 σ H1 Q I1 q1
 | false=>exact⟨.bl false,H1,I1,rfl,q1⟩
theorem alk(ha:PE X a ta)(hb:PE X (.BoolOp .Or (b::rest) pos) tb):PE X (.BoolOp .Or (a::b::rest) pos) (au_ ta tb):=by
 intro pins s σ H Q I h
 refine BoolOp_or (kj (ha pins s σ H _ I h) ?_)
 rintro v s1 ⟨x,H1,I1,r1,q1⟩
 obtain⟨c,rfl,q1⟩:=q1
 cases r1
 refine wpAny_truthy_bool ?_
 cases c with
 | false=>exact hb pins s1 σ H1 Q I1 q1
 | true=>exact⟨.bl true,H1,I1,rfl,q1⟩
theorem agY(ha:PE X a ta):PE X (.UnaryOp .Not a pos) (ajL ta):=by
 intro pins s σ H Q I h
 refine UnaryOp_ (kj (ha pins s σ H _ I h) ?_)
 rintro v s1 ⟨x,H1,I1,r1,q1⟩
 obtain⟨c,rfl,q1⟩:=q1
 cases r1
 exact not_of (wpAny_truthy_bool ⟨.bl (!c),H1,I1,rfl,q1⟩)
end
def Ew(K:Frag)(H:Hp)(a:Addr)(xs:List V):Prop:=
 Rd H a (.lst xs)\/
  ∃(o:Obj) (its:Array Value) (n:Nat),K.lookup a=some o/\o.cls= .type "list" /\ o.dict=none/\o.data= .seq its n/\its.size<=sizeLine/\Vals xs its.toList
def zG(K:Frag)(H:Hp)(a:Addr)(xs:List V):Prop:=
 Rd H a (.tup xs)\/
  ∃(o:Obj) (its:Array Value) (n:Nat),K.lookup a=some o/\o.cls= .type "tuple" /\ o.data= .seq its n/\its.size<=sizeLine/\Vals xs its.toList
noncomputable def az9:Value->Option V
 | .none=>some .non
 | .bool b=>some (.bl b)
 | .int i _=>some (.int i)
 | .str x _=>some (.str x)
 | .bytes b _=>some (.byt b)
 | .float b _=>some (.flt b)
 | .ref a=>some (.ref a)
 | .type n=>some (.ty n)
 | _=>none
theorem RelV.abs(r:RelV x u):az9 u=some x:=by
 cases x with
 | non=>cases r;rfl
 | bl _=>cases r;rfl
 | int _=>obtain⟨t,rfl⟩:=r;rfl
 | str _=>obtain⟨t,rfl⟩:=r;rfl
 | byt _=>obtain⟨t,rfl⟩:=r;rfl
 | flt _=>obtain⟨t,rfl⟩:=r;rfl
 | ref _=>cases r;rfl
 | ty _=>cases r;rfl
theorem RelV.inj(r:RelV x u)(q:RelV y u):x=y:=xI (r.abs.symm.trans q.abs)
theorem Vals.inj:∀{xs ys:List V} {us:List Value},Vals xs us->Vals ys us->xs=ys
 | _,_,_,.nil,.nil=>rfl
 | _,_,_,.cons r t,.cons r' t'=>by rw[r.inj r',Vals.inj t t']
section
variable{X:Cx}{pins:List (Addr×Obj)}{σ:St}{H:Hp}{s:Shared}{a:Addr}{xs ys:List V}
theorem Ew.of{K:Frag}(h:H a=some (.lst xs)):Ew K H a xs:= .inl (.inl h)
theorem zG.of{K:Frag}(h:H a=some (.tup xs)):zG K H a xs:= .inl (.inl h)
theorem Inv.list(I:Inv X pins σ H s)(h:Ew X.K H a xs):∃its:List Value,Vals xs its/\PlainL s.heap a its.toArray/\xs.length<=sizeLine:=by
 rcases h with h | ⟨o,its,n,hk,hc,hd,hs,hz,r⟩
 ·obtain⟨z,its,n,r,e⟩:=h.ok I.hok
  exact⟨its,r,⟨_,n,e,rfl,rfl,rfl⟩,z⟩
 ·refine⟨its.toList,r,⟨o,n,I.zb a o hk,hc,hd,by simpa using hs⟩,?_⟩
  have e:=r.length
  simp only[Array.length_toList]at e
  lia
theorem Inv.tuple(I:Inv X pins σ H s)(h:zG X.K H a xs):∃its:List Value,Vals xs its/\IsTup s.heap a its.toArray/\xs.length<=sizeLine:=by
 rcases h with h | ⟨o,its,n,hk,hc,hs,hz,r⟩
 ·obtain⟨z,its,r,p⟩:=h.ok I.hok
  exact⟨its,r,p,z⟩
 ·refine⟨its.toList,r,⟨o,I.zb a o hk,hc,n,by simpa using hs⟩,?_⟩
  have e:=r.length
  simp only[Array.length_toList]at e
  lia
theorem Inv.Vs(I:Inv X pins σ H s)(h:Ew X.K H a xs)(h':Ew X.K H a ys):xs=ys:=by
 obtain⟨its,r,⟨o,n,e,_,_,d⟩,_⟩:=I.list h
 obtain⟨its',r',⟨o',n',e',_,_,d'⟩,_⟩:=I.list h'
 rw[e]at e';cases e'
 rw[d]at d'
 injection d' with d1 _
 have:its=its':=by simpa using congrArg Array.toList d1
 subst this
 exact r.inj r'
theorem Inv.Ql(I:Inv X pins σ H s)(h:zG X.K H a xs)(h':zG X.K H a ys):xs=ys:=by
 obtain⟨its,r,⟨o,e,_,n,d⟩,_⟩:=I.tuple h
 obtain⟨its',r',⟨o',e',_,n',d'⟩,_⟩:=I.tuple h'
 rw[e]at e';cases e'
 rw[d]at d'
 injection d' with d1 _
 have:its=its':=by simpa using congrArg Array.toList d1
 subst this
 exact r.inj r'
end
abbrev Cx.wish(X:Cx)(E:Value->Shared->Prop):Cx:={X with xe:=E}
abbrev Cx.nox(X:Cx):Cx:=X.wish λ_ _=>False
theorem Cx.Ok.wish{X:Cx}(ok:X.Ok)(E:Value->Shared->Prop):(X.wish E).Ok:=
 ⟨ok.mod,ok.kind,ok.glob,ok.blt,ok.above,ok.inj,ok.has,ok.cab,ok.hd,ok.frames,ok.stk,ok.exf,ok.bs,ok.Yb,ok.Sh,ok.Tw,ok.BX,ok.frf⟩
theorem Cx.Ok.qX{X:Cx}{E:Value->Shared->Prop}(ok:(X.wish E).Ok):X.Ok:=
 ⟨ok.mod,ok.kind,ok.glob,ok.blt,ok.above,ok.inj,ok.has,ok.cab,ok.hd,ok.frames,ok.stk,ok.exf,ok.bs,ok.Yb,ok.Sh,ok.Tw,ok.BX,ok.frf⟩
section
variable{X:Cx}{pins:List (Addr×Obj)}{σ:St}{H:Hp}{s:Shared}{E:Value->Shared->Prop}
theorem Inv.wish(I:Inv X pins σ H s)(E:Value->Shared->Prop):Inv (X.wish E) pins σ H s:=⟨I.ok.wish E,I.os,I.bare,I.base,I.loc,I.cell,I.free,I.m7,I.pin,I.hok,I.len⟩
theorem Inv.qX(I:Inv (X.wish E) pins σ H s):Inv X pins σ H s:=⟨I.ok.qX,I.os,I.bare,I.base,I.loc,I.cell,I.free,I.m7,I.pin,I.hok,I.len⟩
theorem SP.qX(h:SP (X.wish E) pins D f s'):SP X pins D f s':=by
 cases f with
 | next=>obtain⟨σ',H',I,q⟩:=h;exact⟨σ',H',I.qX,q⟩
 | brk=>obtain⟨σ',H',I,q⟩:=h;exact⟨σ',H',I.qX,q⟩
 | cont=>obtain⟨σ',H',I,q⟩:=h;exact⟨σ',H',I.qX,q⟩
 | ret u=>obtain⟨v,σ',H',I,r,q⟩:=h;exact⟨v,σ',H',I.qX,r,q⟩
theorem Le.nox{st:List Stmt}(h:Le X.nox st t):Le X st t:=λpins s σ H D I hw=>
 wT (h pins s σ H D (I.wish _) hw) (λ_ _ q=>q.qX) λ_ _ z=>False.elim z
end
section
variable{X:Cx}{st:Stmt}{rest:List Stmt}{t u:TS}{e:Expr}{te:TE}{pos:Pos}
def afA:TS:=λD σ H=>D.nx σ H
def au8(t u:TS):TS:=λD σ H=>t {D with nx:=u D} σ H
theorem aeg:Le X [] afA:=λ_ _ σ H _ I h=>wpAny_execs_nil ⟨σ,H,I,h⟩
theorem acn(h1:PS X st t)(h2:Le X rest u):Le X (st::rest) (au8 t u):=by
 intro pins s σ H D I h
 refine wpAny_execs_cons (kj (h1 pins s σ H {D with nx:=u D} I h) λf s1 q=> ?_)
 cases f with
 | next=>
  obtain⟨σ',H',I',q⟩:=q
  exact h2 pins s1 σ' H' D I' q
 | ret v=>exact q
 | brk=>exact q
 | cont=>exact q
theorem YZ(h1:PS X st t):Le X [st] t:=by
 intro pins s σ H D I h
 refine wpAny_execs_cons (kj (h1 pins s σ H D I h) λf s1 q=> ?_)
 cases f with
 | next=>exact wpAny_execs_nil q
 | ret v=>exact q
 | brk=>exact q
 | cont=>exact q
theorem Inv.quiet(I:Inv X pins σ H s):interactive X.env=false:=by simp[interactive,I.ok.kind]
def ajO(te:TE):TS:=λD σ H=>te σ H λ_ H1=>D.nx σ H1
theorem aej(he:PE X e te)(hs:swapsWith e none pos.line X.env=pure false:=by rfl):PS X (.Expr e pos) (ajO te):=by
 intro pins s σ H D I h
 exact wpAny_Expr_any (kj (he pins s σ H _ I h) λv s1 ⟨x,H1,I1,r1,q1⟩=>⟨σ,H1,I1,q1⟩) I.quiet hs
def au9(te:TE):TS:=λD σ H=>te σ H D.rt
theorem agQ(he:PE X e te):PS X (.Return (some e) pos) (au9 te):=by
 intro pins s σ H D I h
 exact wpAny_Return_some (kj (he pins s σ H _ I h) λv s1 ⟨x,H1,I1,r1,q1⟩=>⟨x,σ,H1,I1,r1,q1⟩)
def avd(c:TT)(t u:TS):TS:=λD σ H=>c σ H λb H1=>if b=true then t D σ H1 else u D σ H1
theorem akp(hc:PT X c tc)(ha:Le X a t)(hb:Le X b u):PS X (.If c a b pos) (avd tc t u):=by
 intro pins s σ H D I h
 refine wpAny_If (kj (hc pins s σ H _ I h) ?_)
 rintro d s1 ⟨H1,I1,q1⟩
 cases d with
 | true=>exact ha pins s1 σ H1 D I1 q1
 | false=>exact hb pins s1 σ H1 D I1 q1
end
abbrev TG:=V->St->Hp->(St->Hp->Prop)->Prop
abbrev TGs:=List V->St->Hp->(St->Hp->Prop)->Prop
def PG(X:Cx)(target:Expr)(t:TG):Prop:=
 ∀(pins:List (Addr×Obj)) (s:Shared) (σ:St) (H:Hp) (v:V) (u:Value) (Q:St->Hp->Prop),Inv X pins σ H s->RelV v u->t v σ H Q->
  wpAny (model X.prog X.w) X.A (assign target X.env u) (λ_ s'=>∃σ' H',Inv X pins σ' H' s'/\Q σ' H') X.xe s
def PGs(X:Cx)(ts:List Expr)(t:TGs):Prop:=
 ∀(pins:List (Addr×Obj)) (s:Shared) (σ:St) (H:Hp) (vs:List V) (us:List Value) (Q:St->Hp->Prop),Inv X pins σ H s->Vals vs us->t vs σ H Q->
  wpAny (model X.prog X.w) X.A (assignInOrder ((assignEach ts X.env).map (·.2)) us) (λ_ s'=>∃σ' H',Inv X pins σ' H' s'/\Q σ' H') X.xe s
section
variable{X:Cx}{pos:Pos}
def Oz(i:Nat):TG:=λv σ H Q=>Q (σ.set i (some v)) H
theorem RQ(hN:X.N.Nodup)(hi:X.N[i]? = some x)(hx:Loc X.env.scope x)(hf:X.fn x=true\/X.env.scope.names.lookup x=some .local:=by first | exact .inl rfl | exact .inr rfl | assumption):PG X (.Name x pos) (Oz i):=by
 intro pins s σ H v u Q I r h
 exact wpAny_assign_Name (G6 I hN hi hx r (λs' I'=>⟨_,H,I',h⟩) hf)
def azu:TGs:=λvs σ H Q=>vs=[]/\Q σ H
def anC(t:TG)(u:TGs):TGs:=λvs σ H Q=>∃v r,vs=v::r/\t v σ H λσ' H'=>u r σ' H' Q
theorem Y6:PGs X [] azu:=by
 intro pins s σ H vs us Q I r h
 obtain⟨e,h⟩:=h
 subst e
 cases r
 exact assignInOrder_nil ⟨σ,H,I,h⟩
theorem Vh(h1:PG X e t)(h2:PGs X es u)
  (hs:(assignEach (e::es) X.env).map (·.2)=assign e X.env::(assignEach es X.env).map (·.2):=by rfl):PGs X (e::es) (anC t u):=by
 intro pins s σ H vs us Q I r h
 obtain⟨v,vr,e1,h⟩:=h
 subst e1
 cases r with
 | cons r rr=>
  rw[hs]
  refine assignInOrder_cons (kj (h1 pins s σ H _ _ _ I r h) ?_)
  rintro _ s1 ⟨σ1,H1,I1,q1⟩
  exact h2 pins s1 σ1 H1 _ _ Q I1 rr q1
def azt(K:Frag)(n:Nat)(t:TGs):TG:=λv σ H Q=>∃a xs,v= .ref a/\zG K H a xs/\xs.length=n/\t xs σ H Q
theorem acy(hc:X.calm=true)(h:PGs X es t)
  (hn:(assignEach es X.env).length=n:=by rfl) (hst:(assignEach es X.env).findIdx? (·.1)=none:=by rfl):PG X (.Tuple es k pos) (azt X.K n t):=by
 intro pins s σ H v u Q I r hw
 obtain⟨a,xs,e1,hq,hl,hw⟩:=hw
 subst e1
 cases r
 obtain⟨its,rv,ht,hz⟩:=I.tuple hq
 refine assign_Tuple_tuple (I.ok.hd hc) ht (by simp[hn,<-hl,rv.length]) hst λh' hx=> ?_
 have I1:Inv X pins σ H {s with heap:=h'}:=I.kept (t':=s.toks) λb o e=>hx b o (xD (zS e)) e
 exact h pins _ σ H xs _ Q I1 (by simpa using rv) hw
def adT(te:TE)(g:TG):TS:=λD σ H=>te σ H λx H1=>g x σ H1 D.nx
theorem agP(hN:X.N.Nodup)(hi:X.N[i]? = some x)(hx:Loc X.env.scope x)(he:PE X e te)(hs:swapsWith e (some (.Name x pos')) pos.line X.env=pure false:=by rfl)(hf:X.fn x=true\/X.env.scope.names.lookup x=some .local:=by first | exact .inl rfl | exact .inr rfl | assumption):
  PS X (.Assign [.Name x pos'] e pos) (adT te (Oz i)):=by
 intro pins s σ H D I h
 refine wpAny_Assign_Name (kj (he pins s σ H _ I h) ?_) hs
 rintro v s1 ⟨y,H1,I1,r1,q1⟩
 exact G6 I1 hN hi hx r1 (λs2 I2=>⟨_,H1,I2,q1⟩) hf
def age(c:TT)(tb:TS):TS:=λD σ H=>∃W:Nat->St->Hp->Prop,(∃m,W m σ H)/\∀m σ H,W m σ H->
 c σ H λb H1=>if b=true then ∃N:St->Hp->Prop,(∀σ' H',N σ' H'->∃m',m'<m/\W m' σ' H')/\tb {D with nx:=N,ct:=N,bk:=D.nx} σ H1 else D.nx σ H1
theorem aco(hp:PassesOwn (model X.prog X.w) X.A X.env X.xe)(hc:PT X c tc)(hb:Le X body tb):PS X (.While c body [] pos) (age tc tb):=by
 intro pins s σ H D I h
 obtain⟨W,⟨m0,w0⟩,turn⟩:=h
 refine wpAny_While (codeAny_whileLoop (λn s'=>∃σ' H',Inv X pins σ' H' s'/\W n σ' H') ?_ m0 ⟨σ,H,I,w0⟩)
 rintro n s1 ⟨σ1,H1,I1,w1⟩
 refine wpAny_passesOwn hp (kj (hc pins s1 σ1 H1 _ I1 (turn n σ1 H1 w1)) ?_)
 rintro b s2 ⟨H2,I2,q2⟩
 cases b with
 | true=>
  obtain⟨N,hN,q2⟩:=q2
  rw[if_pos rfl]
  refine wpAny_passesOwn hp (kj (hb pins s2 σ1 H2 _ I2 q2) λf s3 q3=> ?_)
  cases f with
  | next=>
   obtain⟨σ3,H3,I3,n3⟩:=q3
   obtain⟨m',hm,w3⟩:=hN σ3 H3 n3
   exact⟨m',hm,σ3,H3,I3,w3⟩
  | cont=>
   obtain⟨σ3,H3,I3,n3⟩:=q3
   obtain⟨m',hm,w3⟩:=hN σ3 H3 n3
   exact⟨m',hm,σ3,H3,I3,w3⟩
  | brk=>exact q3
  | ret v=>exact q3
 | false=>
  rw[if_neg xA]
  exact wpAny_execs_nil ⟨σ1,H2,I2,q2⟩
end
structure It where
 go:Nat->Hp->Prop
 yld:Nat->Hp->V->Hp->Prop
 stop:Nat->Hp->Prop
def Ff(X:Cx)(pins:List (Addr×Obj))(H:Hp)(b:Addr):Prop:=
 H b=none/\b≠X.env.locals/\b∉X.fs/\(b∈X.ex\/X.s₀.heap.objs.size<=b)/\(∀x c,X.env.cells.lookup x=some c->c≠b)/\∀p∈X.pn++pins,p.1≠b
theorem Inv.Qc(I:Inv X pins σ H s)(hb:s.heap.objs.size<=b)(hn:H' b=none):Ff X pins H' b:=by
 refine⟨hn,xS (yA I.lt hb),I.ayd hb,.inr (yY I.sz hb),λx c e z=> ?_,λp hp z=> ?_⟩
 ·obtain⟨v,q⟩:=I.cell x c e
  exact absurd (yA q.lt (by rw[z];exact hb)) (wP _)
 ·exact absurd (yA (zS (I.pin p hp).1) (by rw[z];exact hb)) (wP _)
structure Turn(P:Program)(w:World)(K:Frag)(tg:Expr)(J:It)(fp:List Addr)(it:Addr)(tn:Nat->Heap->Prop):Prop where
 mem:it∈fp
 obj:∀i h,tn i h->∀b∈fp,∃o,h.get? b=some o/\∀v,o.data≠ .cell v
 keep:∀i h h',tn i h->(∀b∈fp,∀o,h.get? b=some o->h'.get? b=some o)->tn i h'
 item:∀(X:Cx),X.prog=P->X.w=w->X.K=K->X.calm=true->∀(i:Nat) (pins:List (Addr×Obj)) (s:Shared) (σ:St) (H:Hp) (E:Value->Shared->Prop),Inv X pins σ H s->(∀b∈fp,Ff X pins H b)->tn i s.heap->J.go i H->
  wpAny (model P w) X.A (pyNext (.ref it)) (λr s1=>∃u,r=some u/\
   wpAny (model P w) X.A (letOwnedTupleGo tg (.ref it) u) (λ_ s2=>∃x H',Inv X pins σ H' s2/\RelV x u/\J.yld i H x H'/\tn (i+1) s2.heap/\∀b∈fp,H' b=none) E s1) E s
 done:∀(X:Cx),X.prog=P->X.w=w->X.K=K->X.calm=true->∀(i:Nat) (pins:List (Addr×Obj)) (s:Shared) (σ:St) (H:Hp) (E:Value->Shared->Prop),Inv X pins σ H s->(∀b∈fp,Ff X pins H b)->tn i s.heap->J.stop i H->
  wpAny (model P w) X.A (pyNext (.ref it)) (λr s1=>r=none/\Inv X pins σ H s1) E s
 self:∀(A:Around) (i:Nat) (s:Shared) (Q:Value->Shared->Prop) (E:Value->Shared->Prop),tn i s.heap->Q (.ref it) s->wpAny (model P w) A (pyIter (.ref it)) Q E s
abbrev TI:=St->Hp->(It->Hp->Prop)->Prop
def PIE(X:Cx)(pins:List (Addr×Obj))(σ:St)(tg:Expr)(R:It->Hp->Prop)(itv:Value)(s2:Shared):Prop:=
 ∃(it:Addr) (fp:List Addr) (tn:Nat->Heap->Prop) (J:It) (H':Hp),itv= .ref it/\Inv X pins σ H' s2/\Turn X.prog X.w X.K tg J fp it tn/\tn 0 s2.heap/\(∀b∈fp,Ff X pins H' b)/\R J H'
def PI(X:Cx)(tg iter:Expr)(wi:TI):Prop:=
 ∀(pins:List (Addr×Obj)) (s:Shared) (σ:St) (H:Hp) (R:It->Hp->Prop),Inv X pins σ H s->wi σ H R->
  wpAny (model X.prog X.w) X.A (eval iter X.env) (λv s1=>wpAny (model X.prog X.w) X.A (pyIter v) (PIE X pins σ tg R) X.xe s1) X.xe s
theorem Zk{E:Value->Shared->Prop}{Q:Unit->Shared->Prop}(ho:s.heap.get? it=some o)(hc:o.cls= .type n)(hd:o.data= .fields vs)
  (hn:["enumerate","zip","dict_itemiterator","dict_reverseitemiterator","odict_iterator","itertools.zip_longest","itertools.pairwise"].contains n=false) (hQ:Q .unit s):wpAny M A (letOwnedTupleGo tg (.ref it) u) Q E s:=by
 unfold letOwnedTupleGo
 cases tg<;>first
  | exact zI hQ
  | (cases u<;>first
    | exact zI hQ
    | (refine zC (wpAny_load ho ?_)
       rw[hc,hd]
       show wpAny M A (if(["enumerate","zip","dict_itemiterator","dict_reverseitemiterator","odict_iterator","itertools.zip_longest","itertools.pairwise"].contains n&&vs[0]? == some (rawInt _))=true then _ else _) Q E s
       rw[if_neg (by intro h;rw[hn,Bool.false_and]at h;cases h)]
       exact zI hQ))
noncomputable def Itl(K:Frag)(a:Addr):It:=
 ⟨λi H=>∃xs x,Ew K H a xs/\xs[i]? = some x,λi H x H'=>H'=H/\∀xs,Ew K H a xs->xs[i]? = some x,λi H=>∃xs,Ew K H a xs/\xs.length<=i⟩
noncomputable def Itt(K:Frag)(a:Addr):It:=
 ⟨λi H=>∃xs x,zG K H a xs/\xs[i]? = some x,λi H x H'=>H'=H/\∀xs,zG K H a xs->xs[i]? = some x,λi H=>∃xs,zG K H a xs/\xs.length<=i⟩
noncomputable def Itr(lo:Int)(n:Nat):It:=⟨λi _=>i<n,λi H x H'=>H'=H/\x= .int (lo+i),λi _=>n<=i⟩
theorem ZP{P:Program}{w:World}{K:Frag}{tg:Expr}(a it:Addr):Turn P w K tg (Itl K a) [it] it (λi h=>h.IsListIter it a i) where
 mem:=by simp
 obj:=λi h st b hb=>by
  have e:b=it:=by simpa using hb
  subst e
  obtain⟨o,e,c,d⟩:=st
  exact⟨o,e,λv z=>by rw[d]at z;cases z⟩
 keep:=λi h h' st k=>st.at λo e=>k it (by simp) o e
 item:=by
  intro X hP hw hK hc i pins s σ H E I hf st hg
  subst hP hw hK
  obtain⟨xs,x,hq,hx⟩:=hg
  obtain⟨its,rv,p,hz⟩:=I.list hq
  obtain⟨u,hu,ru⟩:=rv.get hx
  obtain⟨f0,f1,f2,f3,f4,f5⟩:=hf it (by simp)
  refine wpAny_pyNext_list_item st p.isList (x:=u) (by simpa using hu) λh' st' sb=> ?_
  have I1:Inv X pins σ H {s with heap:=h'}:=I.turned (t':=s.toks) (λb o hb e=>(sb.2 b hb).trans e) f0 f1 f3 f4 f5
  obtain⟨o,e,c,d⟩:=id st'
  exact⟨u,rfl,Zk (s:={s with heap:=h'}) e c d (by decide) ⟨x,H,I1,ru,⟨rfl,λys hy=>by rw[I.Vs hy hq];exact hx⟩,st',λb hb=>(hf b hb).1⟩⟩
 done:=by
  intro X hP hw hK hc i pins s σ H E I hf st hg
  subst hP hw hK
  obtain⟨xs,hq,hx⟩:=hg
  obtain⟨its,rv,p,hz⟩:=I.list hq
  obtain⟨f0,f1,f2,f3,f4,f5⟩:=hf it (by simp)
  have hl:=rv.length
  exact wpAny_pyNext_list_end (I.ok.hd hc) st p.isList (by simp;lia) λh' eb=>⟨rfl,I.turned (t':=s.toks) (λb o hb e=>eb b o hb e) f0 f1 f3 f4 f5⟩
 self:=λ_ _ _ _ _ st h=>wpAny_pyIter_listiter st h
theorem Wr{P:Program}{w:World}{K:Frag}{tg:Expr}(a it:Addr):Turn P w K tg (Itt K a) [it] it (λi h=>h.IsTupleIter it a i) where
 mem:=by simp
 obj:=λi h st b hb=>by
  have e:b=it:=by simpa using hb
  subst e
  obtain⟨o,e,c,d⟩:=st
  exact⟨o,e,λv z=>by rw[d]at z;cases z⟩
 keep:=λi h h' st k=>st.at λo e=>k it (by simp) o e
 item:=by
  intro X hP hw hK hc i pins s σ H E I hf st hg
  subst hP hw hK
  obtain⟨xs,x,hq,hx⟩:=hg
  obtain⟨its,rv,p,hz⟩:=I.tuple hq
  obtain⟨u,hu,ru⟩:=rv.get hx
  obtain⟨f0,f1,f2,f3,f4,f5⟩:=hf it (by simp)
  refine wpAny_pyNext_tuple_item st (show s.heap.IsTuple a its.toArray from p) (x:=u) (by simpa using hu) λh' st' sb=> ?_
  have I1:Inv X pins σ H {s with heap:=h'}:=I.turned (t':=s.toks) (λb o hb e=>(sb.2 b hb).trans e) f0 f1 f3 f4 f5
  obtain⟨o,e,c,d⟩:=id st'
  exact⟨u,rfl,Zk (s:={s with heap:=h'}) e c d (by decide) ⟨x,H,I1,ru,⟨rfl,λys hy=>by rw[I.Ql hy hq];exact hx⟩,st',λb hb=>(hf b hb).1⟩⟩
 done:=by
  intro X hP hw hK hc i pins s σ H E I hf st hg
  subst hP hw hK
  obtain⟨xs,hq,hx⟩:=hg
  obtain⟨its,rv,p,hz⟩:=I.tuple hq
  obtain⟨f0,f1,f2,f3,f4,f5⟩:=hf it (by simp)
  have hl:=rv.length
  exact wpAny_pyNext_tuple_end (I.ok.hd hc) st (show s.heap.IsTuple a its.toArray from p) (by simp;lia) λh' eb=>⟨rfl,I.turned (t':=s.toks) (λb o hb e=>eb b o hb e) f0 f1 f3 f4 f5⟩
 self:=λ_ _ _ _ _ st h=>wpAny_pyIter_tupleiter st h
theorem Wt{P:Program}{w:World}{K:Frag}{tg:Expr}(it:Addr)(lo:Int)(n:Nat):Turn P w K tg (Itr lo n) [it] it (λi h=>IsRangeIter h it (lo+(i:Nat)*1) ((n:Int) - (i:Nat)) 1) where
 mem:=by simp
 obj:=λi h st b hb=>by
  have e:b=it:=by simpa using hb
  subst e
  exact⟨_,st,λv z=>by
   have z':Data.fields _=Data.cell v:=z
   cases z'⟩
 keep:=λi h h' st k=>k it (by simp) _ st
 item:=by
  intro X hP hw hK hc i pins s σ H E I hf st hg
  subst hP hw hK
  obtain⟨f0,f1,f2,f3,f4,f5⟩:=hf it (by simp)
  have W:=Walks.range (prog:=X.prog) (w:=X.w) (I.ok.hd hc) it lo 1 n
  refine W.item i s _ _ hg st λv h' tk hv st' kk=> ?_
  obtain⟨t,rfl⟩:=hv
  have I1:Inv X pins σ H {s with heap:=h',toks:=tk}:=I.turned (λb o hb e=>kk b o (by simpa using hb) e) f0 f1 f3 f4 f5
  refine⟨_,rfl,Zk (s:={s with heap:=h',toks:=tk}) (n:= "range_iterator") st' rfl rfl (by decide) ⟨.int (lo+i),H,I1,⟨t,?_⟩,⟨rfl,rfl⟩,st',λb hb=>(hf b hb).1⟩⟩
  rw[Int.mul_one]
 done:=by
  intro X hP hw hK hc i pins s σ H E I hf st hg
  subst hP hw hK
  obtain⟨f0,f1,f2,f3,f4,f5⟩:=hf it (by simp)
  exact wpAny_pyNext_range_end (I.ok.hd hc) st (by have:n<=i:=hg;lia) λh' eb=>⟨rfl,I.turned (t':=s.toks) (λb o hb e=>eb b o hb e) f0 f1 f3 f4 f5⟩
 self:=λ_ _ _ _ _ st h=>wpAny_pyIter_rangeiter st h
section
variable{X:Cx}{tg:Expr}
theorem Vf{pins:List (Addr×Obj)}{R:It->Hp->Prop}{E:Value->Shared->Prop}{lo hi:Int}{tk:Nat}(I:Inv X pins σ H s)(h1: -(2 ^ 62)<=lo)(h2:lo<2 ^ 62)(h3: -(2 ^ 62)<=hi)(h4:hi<2 ^ 62)
  (q:R (Itr lo (hi - lo).toNat) H):wpAny (model X.prog X.w) X.A (pyIter (.ref s.heap.objs.size)) (PIE X pins σ tg R) E {s with heap:=s.heap.push {cls:= .type "range",data:= .fields #[.int lo t,.int hi u,.int 1 v]},toks:=tk}:=by
 refine wpAny_pyIter_range (IsRange.new ..) (small_one h1 h2 h3 h4) ?_
 have I1:Inv X pins σ H {s with heap:=s.heap.push {cls:= .type "range",data:= .fields #[.int lo t,.int hi u,.int 1 v]},toks:=tk}:=I.kept λb o e=>zD _ e
 refine⟨(s.heap.push {cls:= .type "range",data:= .fields #[.int lo t,.int hi u,.int 1 v]}).objs.size,[(s.heap.push {cls:= .type "range",data:= .fields #[.int lo t,.int hi u,.int 1 v]}).objs.size],_,_,H,rfl,
  I1.kept (t':=tk) λb o e=>zD _ e,Wt _ lo (hi - lo).toNat,?_,λb hb=> ?_,q⟩
 ·have e1:lo+((0:Nat):Int)*1=lo:=by simp
  have e2:(((hi - lo).toNat:Nat):Int) - ((0:Nat):Int)=Builtin.Range.rangeSize lo hi 1:=by rw[rangeSize_one];split<;>lia
  show IsRangeIter _ _ (lo+((0:Nat):Int)*1) ((((hi - lo).toNat:Nat):Int) - ((0:Nat):Int)) 1
  rw[e1,e2]
  exact yB _ rfl
 ·have e:b=(s.heap.push {cls:= .type "range",data:= .fields #[.int lo t,.int hi u,.int 1 v]}).objs.size:=by simpa using hb
  subst e
  exact I1.Qc (zab _) (I1.hok.fresh (zab _))
def anr(ta:TA):TI:=λσ H R=>ta σ H λvs H1=>∃j:Int,vs=[.int j]/\ -(2 ^ 62)<=j/\j<2 ^ 62/\R (Itr 0 j.toNat) H1
def anq(ta:TA):TI:=λσ H R=>ta σ H λvs H1=>∃i j:Int,vs=[.int i,.int j]/\(-(2 ^ 62)<=i/\i<2 ^ 62/\ -(2 ^ 62)<=j/\j<2 ^ 62)/\R (Itr i (j - i).toNat) H1
theorem aam(hg:Gl X "range")(hm:X.mg "range" = none)(ha:PA X [a] ta)(hs:starEach [a] X.env=[(false,eval a X.env)]:=by rfl):PI X tg (.Call (.Name "range" p) [a] [] pos) (anr ta):=by
 intro pins s σ H R I h
 refine Call_ (Dd I hg hm boot_range (PyProof.Rows.callWith_type1 (kj (ha pos pins s σ H _ I h) ?_) hs rfl))
 rintro us s1 ⟨vs,H1,I1,r1,q1⟩
 obtain⟨j,e,q1,q2,q⟩:=q1
 subst e
 cases r1 with
 | cons r rr=>
  cases rr
  obtain⟨t,rfl⟩:=r
  exact call_range_1 (Vf I1 () () q1 q2 (by simpa using q))
theorem aal(hg:Gl X "range")(hm:X.mg "range" = none)(ha:PA X [a,b] ta)(hs:starEach [a,b] X.env=[(false,eval a X.env),(false,eval b X.env)]:=by rfl)(hs2:starEach [b] X.env=[(false,eval b X.env)]:=by rfl):
  PI X tg (.Call (.Name "range" p) [a,b] [] pos) (anq ta):=by
 intro pins s σ H R I h
 refine Call_ (Dd I hg hm boot_range (PyProof.Rows.callWith_type1 (kj (ha pos pins s σ H _ I h) λus s1 ⟨vs,H1,I1,r1,q1⟩=> ?_) (by rw[hs,hs2]) (by rw[hs2];rfl)))
 obtain⟨i,j,e,⟨q1,q2,q3,q4⟩,q⟩:=q1
 subst e
 cases r1 with
 | cons r rr=>
  cases rr with
  | cons r' rr=>
   cases rr
   obtain⟨t,rfl⟩:=r
   obtain⟨t',rfl⟩:=r'
   exact call_range_2 (Vf I1 q1 q2 q3 q4 q)
def ave(wi:TI)(g:TG)(tb:TS):TS:=λD σ H=>wi σ H λJ H1=>∃W:Nat->Nat->St->Hp->Prop,(∃m,W 0 m σ H1)/\∀i m σ H,W i m σ H->
 (J.stop i H/\D.nx σ H)\/(J.go i H/\∃N:St->Hp->Prop,(∀σ' H',N σ' H'->∃m',m'<m/\W (i+1) m' σ' H')/\∀x H',J.yld i H x H'->g x σ H' λσ2 H2=>tb {D with nx:=N,ct:=N,bk:=D.nx} σ2 H2)
noncomputable def Ng(fp:List Addr)(h:Heap):List (Addr×Obj):=fp.filterMap λb=>(h.get? b).map λo=>(b,o)
theorem Ab(hb:b∈fp)(e:h.get? b=some o):(b,o)∈Ng fp h:=List.mem_filterMap.mpr ⟨b,hb,by rw[e];rfl⟩
theorem aaw(hp:p∈Ng fp h):p.1∈fp/\h.get? p.1=some p.2:=by
 obtain⟨b,hb,e⟩:=List.mem_filterMap.mp hp
 cases q:h.get? b with
 | none=>rw[q]at e;cases e
 | some o=>
  rw[q]at e
  have e':(b,o)=p:=xI e
  subst e'
  exact⟨hb,q⟩
theorem Inv.pinned(I:Inv X pins σ H s)(hf:∀b∈fp,Ff X pins H b)(ho:∀b∈fp,∃o,s.heap.get? b=some o/\∀v,o.data≠ .cell v):Inv X (pins++Ng fp s.heap) σ H s:=
 I.z8 λp hp=>(List.mem_append.mp hp).elim (λz=>I.pin p (xE _ z)) λz=>by
  obtain⟨hb,e⟩:=aaw z
  obtain⟨f0,f1,f2,_⟩:=hf p.1 hb
  obtain⟨o,e',d⟩:=ho p.1 hb
  rw[e]at e';cases e'
  exact⟨e,f0,f1,f2,d⟩
theorem Inv.GZ(I:Inv X (pins++pl) σ H s):Inv X pins σ H s:=I.z8 λp hp=>I.pin p (xE _ (List.mem_append_left _ hp))
theorem agR(hp:PassesOwn (model X.prog X.w) X.A X.env X.xe)(hc:X.calm=true)(hi:PI X tg iter wi)(hg:PG X tg g)(hb:Le X body tb)
  (hs:∀x,foldedSetIterable iter X.env x=pure x:=by intro _;rfl):PS X (.For tg iter body [] pos) (ave wi g tb):=by
 intro pins s σ H D I h
 refine wpAny_For (kj (hi pins s σ H _ I h) λv s1 h1=>kj h1 λitv s2 h2=> ?_) hs
 obtain⟨it,fp,tn,J,H2,e,I2,T,st2,f2,W,⟨m0,w0⟩,turn⟩:=h2
 subst e
 have stat:∀{H':Hp},(∀b∈fp,H' b=none)->∀b∈fp,Ff X pins H' b:=λhn b hb=>⟨hn b hb,(f2 b hb).2⟩
 refine codeAny_forLoop_any (λn s'=>∃i σ' H',Inv X pins σ' H' s'/\tn i s'.heap/\(∀b∈fp,H' b=none)/\W i n σ' H') ?_ m0 ⟨0,σ,H2,I2,st2,λb hb=>(f2 b hb).1,w0⟩
 rintro n s3 ⟨i,σ3,H3,I3,st3,fr3,w3⟩
 rcases turn i n σ3 H3 w3 with⟨stop,qn⟩ | ⟨go,N,hN,step⟩
 ·refine wpAny_passesOwn hp (kj (T.done X rfl rfl rfl hc i pins s3 σ3 H3 X.xe I3 (stat fr3) st3 stop) ?_)
  rintro r s4 ⟨hr,I4⟩
  subst hr
  exact wpAny_execs_nil ⟨σ3,H3,I4,qn⟩
 ·refine wpAny_passesOwn hp (kj (T.item X rfl rfl rfl hc i pins s3 σ3 H3 X.xe I3 (stat fr3) st3 go) ?_)
  rintro r s4 ⟨u,hr,h4⟩
  subst hr
  refine wpAny_passesOwn hp (kj h4 ?_)
  rintro _ s5 ⟨x,H5,I5,r5,y5,st5,fr5⟩
  have I5':=I5.pinned (stat fr5) (T.obj _ _ st5)
  refine wpAny_passesOwn hp (kj (hg _ s5 σ3 H5 x u _ I5' r5 (step x H5 y5)) ?_)
  rintro _ s6 ⟨σ6,H6,I6,q6⟩
  refine wpAny_passesOwn hp (kj (hb _ s6 σ6 H6 _ I6 q6) λf s7 q7=> ?_)
  have again:∀{σ7:St} {H7:Hp},Inv X (pins++Ng fp s5.heap) σ7 H7 s7->N σ7 H7->∃m,m<n/\∃i σ' H',Inv X pins σ' H' s7/\tn i s7.heap/\(∀b∈fp,H' b=none)/\W i m σ' H':=λ{σ7 H7} I7 n7=>by
   obtain⟨m',hm,w7⟩:=hN σ7 H7 n7
   refine⟨m',hm,i+1,σ7,H7,I7.GZ,T.keep _ _ _ st5 λb hb o e=>(I7.pin (b,o) (xE _ (xE _ (Ab hb e)))).1,λb hb=> ?_,w7⟩
   obtain⟨o,e,d⟩:=T.obj _ _ st5 b hb
   exact(I7.pin (b,o) (xE _ (xE _ (Ab hb e)))).2.1
  cases f with
  | next=>obtain⟨σ7,H7,I7,n7⟩:=q7;exact again I7 n7
  | cont=>obtain⟨σ7,H7,I7,n7⟩:=q7;exact again I7 n7
  | brk=>obtain⟨σ7,H7,I7,q7⟩:=q7;exact⟨σ7,H7,I7.GZ,q7⟩
  | ret v=>obtain⟨x7,σ7,H7,I7,r7,q7⟩:=q7;exact⟨x7,σ7,H7,I7.GZ,r7,q7⟩
end
abbrev R2:=V->V->Hp->VK->Prop
def Bg(X:Cx)(f:Value->Value->Sem Value)(r:R2):Prop:=
 ∀(pins:List (Addr×Obj)) (s:Shared) (σ:St) (H:Hp) (x y:V) (v u:Value) (Q:VK),Inv X pins σ H s->RelV x v->RelV y u->r x y H Q->
  wpAny (model X.prog X.w) X.A (f v u) (EP X pins σ Q) X.xe s
def UnR(X:Cx)(f:Value->Sem Value)(r:V->Hp->VK->Prop):Prop:=
 ∀(pins:List (Addr×Obj)) (s:Shared) (σ:St) (H:Hp) (x:V) (v:Value) (Q:VK),Inv X pins σ H s->RelV x v->r x H Q->
  wpAny (model X.prog X.w) X.A (f v) (EP X pins σ Q) X.xe s
def qU(X:Cx)(f:Value)(r:List V->Hp->VK->Prop):Prop:=
 ∀(pins:List (Addr×Obj)) (s:Shared) (σ:St) (H:Hp) (xs:List V) (us:List Value) (Q:VK),Inv X pins σ H s->Vals xs us->r xs H Q->
  wpAny (model X.prog X.w) X.A (call f us) (EP X pins σ Q) X.xe s
def tOp(r:R2)(ta tb:TE):TE:=λσ H Q=>ta σ H λx H1=>tb σ H1 λy H2=>r x y H2 Q
def tUn(r:V->Hp->VK->Prop)(ta:TE):TE:=λσ H Q=>ta σ H λx H1=>r x H1 Q
def rI(C:Int->Int->Prop)(g:Int->Int->V):R2:=λx y H Q=>∃i j,x= .int i/\y= .int j/\C i j/\Q (g i j) H
def rI0(g:Int->Int->V):R2:=λx y H Q=>∃i j,x= .int i/\y= .int j/\Q (g i j) H
def rU(g:Int->V):V->Hp->VK->Prop:=λx H Q=>∃i,x= .int i/\Q (g i) H
section
variable{X:Cx}{a b c:Expr}{ta tb tc:TE}{pos:Pos}
theorem aiV(ha:PE X a ta)(hb:PE X b tb){R:V->V->Hp->Prop}(I:Inv X pins σ H s)
  (h:ta σ H λx H1=>tb σ H1 λy H2=>R x y H2) {Q:Value->Shared->Prop} {f:Value->Value->Sem Value}
  (hf:∀v u s2 x y H2,Inv X pins σ H2 s2->RelV x v->RelV y u->R x y H2->wpAny (model X.prog X.w) X.A (f v u) Q X.xe s2):
  wpAny (model X.prog X.w) X.A (eval a X.env) (λv s₁=>wpAny (model X.prog X.w) X.A (eval b X.env) (λu s₂=>wpAny (model X.prog X.w) X.A (f v u) Q X.xe s₂) X.xe s₁) X.xe s:=by
 refine kj (ha pins s σ H _ I h) ?_
 rintro v s1 ⟨x,H1,I1,r1,q1⟩
 refine kj (hb pins s1 σ H1 _ I1 q1) ?_
 rintro u s2 ⟨y,H2,I2,r2,q2⟩
 exact hf v u s2 x y H2 I2 r1 r2 q2
theorem alm(ho:Bg X (binaryOp op) r)(ha:PE X a ta)(hb:PE X b tb):PE X (.BinOp a op b pos) (tOp r ta tb):=by
 intro pins s σ H Q I h
 exact wpAny_BinOp (aiV ha hb I h λv u s2 x y H2 I2 rx ry q=>ho pins s2 σ H2 x y v u Q I2 rx ry q)
theorem alj{r:V->Hp->VK->Prop}(ho:UnR X (unaryOp op) r)(ha:PE X a ta):PE X (.UnaryOp op a pos) (tUn r ta):=by
 intro pins s σ H Q I h
 exact UnaryOp_ (kj (ha pins s σ H _ I h) λv s1 ⟨x,H1,I1,r1,q1⟩=>ho pins s1 σ H1 x v Q I1 r1 q1)
theorem opI{f:Value->Value->Sem Value}{C:Int->Int->Prop}{g:Int->Int->Int}
  (rule:∀(i j:Int) (t u:Tok) (s:Shared) (Q:Value->Shared->Prop) (E:Value->Shared->Prop),C i j->Q (.int (g i j) s.toks) {s with toks:=s.toks+1}->wpAny (model X.prog X.w) X.A (f (.int i t) (.int j u)) Q E s):
  Bg X f (rI C λi j=> .int (g i j)):=by
 intro pins s σ H x y v u Q I rx ry h
 obtain⟨i,j,rfl,rfl,hc,q⟩:=h
 obtain⟨t,rfl⟩:=rx
 obtain⟨t',rfl⟩:=ry
 exact rule i j t t' s _ _ hc ⟨.int (g i j),H,I.tok _,⟨_,rfl⟩,q⟩
theorem aex{f:Value->Value->Sem Value}{g:Int->Int->Int}
  (rule:∀(i j:Int) (t u:Tok) (s:Shared) (Q:Value->Shared->Prop) (E:Value->Shared->Prop),Q (.int (g i j) s.toks) {s with toks:=s.toks+1}->wpAny (model X.prog X.w) X.A (f (.int i t) (.int j u)) Q E s):
  Bg X f (rI0 λi j=> .int (g i j)):=by
 intro pins s σ H x y v u Q I rx ry h
 obtain⟨i,j,rfl,rfl,q⟩:=h
 obtain⟨t,rfl⟩:=rx
 obtain⟨t',rfl⟩:=ry
 exact rule i j t t' s _ _ ⟨.int (g i j),H,I.tok _,⟨_,rfl⟩,q⟩
theorem aey{f:Value->Value->Sem Value}{g:Int->Int->Bool}
  (rule:∀(i j:Int) (t u:Tok) (s:Shared) (Q:Value->Shared->Prop) (E:Value->Shared->Prop),Q (.bool (g i j)) s->wpAny (model X.prog X.w) X.A (f (.int i t) (.int j u)) Q E s):
  Bg X f (rI0 λi j=> .bl (g i j)):=by
 intro pins s σ H x y v u Q I rx ry h
 obtain⟨i,j,rfl,rfl,q⟩:=h
 obtain⟨t,rfl⟩:=rx
 obtain⟨t',rfl⟩:=ry
 exact rule i j t t' s _ _ ⟨.bl (g i j),H,I,rfl,q⟩
def aAe(i j:Int):Prop:=0<j/\j<1073741824
def arF(i j:Int):Prop:=0<=j/\j<=1000000/\i.natAbs<2 ^ 64
def ai4(i j:Int):Prop:=(-(2 ^ 64)<i/\i<2 ^ 64)\/(-(2 ^ 64)<j/\j<2 ^ 64)
theorem ai4.ok(h:ai4 i j):IntMulOk i j:=by
 rcases h with⟨h1,h2⟩ | ⟨h1,h2⟩
 ·exact .of_left (intBits_le_64 h1 h2)
 ·exact .of_right (intBits_le_64 h1 h2)
theorem Wq(k:Nat):(0:Int)<=2 ^ k:=by
 rw[two_pow_cast]
 exact Int.natCast_nonneg _
theorem ahm:Bg X (binaryOp .Add) (rI0 λi j=> .int (i+j)):=aex λ_ _ _ _ _ _ _ q=>add_int q
theorem ag9:Bg X (binaryOp .Sub) (rI0 λi j=> .int (i - j)):=aex λ_ _ _ _ _ _ _ q=>sub_int q
theorem ahe:Bg X (binaryOp .Mult) (rI ai4 λi j=> .int (i*j)):=opI λ_ _ _ _ _ _ _ hc q=>mul_int q hc.ok
theorem aev:Bg X (binaryOp .FloorDiv) (rI aAe λi j=> .int (i / j)):=opI λi j _ _ _ _ _ hc q=>by
 have h1:(0:Int)<j:=hc.1
 have h2:j<1073741824:=hc.2
 exact floordiv_int () (by rw[Int.fdiv_eq_ediv_of_nonneg i ()];exact q) (.inl (PyProof.noPylong_small ()))
theorem ahf:Bg X (binaryOp .Mod) (rI (λ_ j=>0<j) λi j=> .int (i % j)):=opI λi j _ _ _ _ _ hc q=>by
 have h1:(0:Int)<j:=hc
 exact mod_int' () (by rw[Int.fmod_eq_emod_of_nonneg i ()];exact q)
theorem ahc:Bg X (binaryOp .Pow) (rI arF λi j=> .int (i ^ j.toNat)):=opI λ_ _ _ _ _ _ _ hc q=>pow_int_small hc.1 hc.2.1 hc.2.2 q
theorem ahb:Bg X (binaryOp .LShift) (rI arF λi j=> .int (i*2 ^ j.toNat)):=opI λ_ _ _ _ _ _ _ hc q=>lshift_int_small hc.1 hc.2.1 hc.2.2 q
theorem aha:Bg X (binaryOp .RShift) (rI (λ_ j=>0<=j) λi j=> .int (i / 2 ^ j.toNat)):=opI λi j _ _ _ _ _ hc q=>
 rshift_int hc (by rw[Int.fdiv_eq_ediv_of_nonneg i (Wq _)];exact q)
theorem ahl:Bg X (binaryOp .BitAnd) (rI0 λi j=> .int (Builtin.bitAnd i j)):=aex λ_ _ _ _ _ _ _ q=>and_int q
theorem alq:Bg X (binaryOp .BitOr) (rI0 λi j=> .int (Builtin.bitOr i j)):=aex λ_ _ _ _ _ _ _ q=>or_int q
theorem unI{f:Value->Sem Value}{g:Int->Int}
  (rule:∀(i:Int) (t:Tok) (s:Shared) (Q:Value->Shared->Prop) (E:Value->Shared->Prop),Q (.int (g i) s.toks) {s with toks:=s.toks+1}->wpAny (model X.prog X.w) X.A (f (.int i t)) Q E s):
  UnR X f (rU λi=> .int (g i)):=by
 intro pins s σ H x v Q I rx h
 obtain⟨i,rfl,q⟩:=h
 obtain⟨t,rfl⟩:=rx
 exact rule i t s _ _ ⟨.int (g i),H,I.tok _,⟨_,rfl⟩,q⟩
theorem agd:UnR X (unaryOp .USub) (rU λi=> .int (-i)):=unI λ_ _ _ _ _ q=>neg_int q
theorem XQ(I:Inv X pins σ H s)(q:Q (.bl k) H)(e:k=k'):EP X pins σ Q (.bool k') s:=by
 subst e
 exact⟨.bl k,H,I,rfl,q⟩
theorem alr:Bg X (compareOp .Lt) (rI0 λi j=> .bl (decide (i<j))):=aey λ_ _ _ _ _ _ _ q=>lt_int q
theorem als:Bg X (compareOp .LtE) (rI0 λi j=> .bl (decide (i<=j))):=aey λ_ _ _ _ _ _ _ q=>le_int q
theorem alu:Bg X (compareOp .Gt) (rI0 λi j=> .bl (decide (j<i))):=aey λ_ _ _ _ _ _ _ q=>gt_int q
theorem alv:Bg X (compareOp .GtE) (rI0 λi j=> .bl (decide (j<=i))):=aey λ_ _ _ _ _ _ _ q=>ge_int q
theorem aat:Bg X (compareOp .Lt) (λx y H Q=>∃i j,x= .str i/\y= .str j/\Q (.bl (decide (i.cps.toList<j.cps.toList))) H):=by
 intro pins s σ H x y v u Q I rx ry h
 obtain⟨i,j,rfl,rfl,q⟩:=h
 obtain⟨t,rfl⟩:=rx
 obtain⟨t',rfl⟩:=ry
 exact lt_str (XQ I q rfl)
theorem ahh:Bg X (compareOp .Is) (λx y H Q=>y= .non/\Q (.bl (decide (x= .non))) H):=by
 intro pins s σ H x y v u Q I rx ry h
 obtain⟨rfl,q⟩:=h
 cases ry
 refine is_none_gen (XQ I q ?_)
 cases x<;>first
  | (cases rx;rfl)
  | (obtain⟨t,rfl⟩:=rx;rfl)
theorem aeu:Bg X (compareOp .IsNot) (λx y H Q=>y= .non/\Q (.bl (!decide (x= .non))) H):=by
 intro pins s σ H x y v u Q I rx ry h
 obtain⟨rfl,q⟩:=h
 cases ry
 refine isnot_none_gen (XQ I q ?_)
 cases x<;>first
  | (cases rx;rfl)
  | (obtain⟨t,rfl⟩:=rx;rfl)
theorem Bg.or(h:Bg X f r)(h':Bg X f r'):Bg X f (λx y H Q=>r x y H Q\/r' x y H Q):=by
 intro pins s σ H x y v u Q I rx ry q
 rcases q with q | q
 ·exact h pins s σ H x y v u Q I rx ry q
 ·exact h' pins s σ H x y v u Q I rx ry q
theorem bW(b:Expr)(h:op≠ .In:=by decide)(h2:op≠ .NotIn:=by decide):behindInMarks op b=false:=by
 have e1:(op==CmpOp.In)=false:=by cases op<;>first | rfl | exact absurd rfl h
 have e2:(op==CmpOp.NotIn)=false:=by cases op<;>first | rfl | exact absurd rfl h2
 cases b<;>simp[behindInMarks,e1,e2]
theorem aer(ho:Bg X (compareOp op) r)(ha:PE X a ta)(hb:PE X b tb)(hm:behindInMarks op b=false):PE X (.Compare a [op] [b] pos) (tOp r ta tb):=by
 intro pins s σ H Q I h
 exact wpAny_Compare1 (aiV ha hb I h λv u s2 x y H2 I2 rx ry q=>ho pins s2 σ H2 x y v u Q I2 rx ry q) hm
def afz(t:TE):TT:=λσ H Q=>t σ H λx H'=>∃k,x= .bl k/\Q k H'
theorem aef(ho:Bg X (compareOp op) r)(ha:PE X a ta)(hb:PE X b tb)(hm:behindInMarks op b=false):PT X (.Compare a [op] [b] pos) (afz (tOp r ta tb)):=by
 intro pins s σ H Q I h
 refine wpAny_isTrue_Compare1 (kj (ha pins s σ H _ I h) λv s1 ⟨x,H1,I1,r1,q1⟩=>kj (hb pins s1 σ H1 _ I1 q1) λu s2 ⟨y,H2,I2,r2,q2⟩=>
  kj (ho pins s2 σ H2 x y v u _ I2 r1 r2 q2) λc s3 ⟨z,H3,I3,r3,k,e,q3⟩=> ?_) hm
 subst e
 cases r3
 exact wpAny_truthy_bool ⟨H3,I3,q3⟩
theorem Od:(sizeLine:Nat)<2 ^ 63:=by rw[sizeLine_eq];decide
theorem W9:Bg X (binaryOp .Add) (λx y H Q=>∃i j,x= .str i/\y= .str j/\i.length+j.length<=sizeLine/\Q (.str (i++j)) H):=by
 intro pins s σ H x y v u Q I rx ry h
 obtain⟨i,j,rfl,rfl,hz,q⟩:=h
 obtain⟨t,rfl⟩:=rx
 obtain⟨t',rfl⟩:=ry
 exact add_str (λt' tk=>⟨.str (i++j),H,I.tok _,⟨_,rfl⟩,q⟩) hz
theorem vals1(r:Vals [x] us):∃u,us=[u]/\RelV x u:=by
 cases r with
 | cons r1 r2=>cases r2;exact⟨_,rfl,r1⟩
theorem vals2(r:Vals [x,y] us):∃u w',us=[u,w']/\RelV x u/\RelV y w':=by
 cases r with
 | cons r1 r2=>
  cases r2 with
  | cons r3 r4=>cases r4;exact⟨_,_,rfl,r1,r3⟩
end
structure Yq(h:Heap)(x dx C:Addr)(mA:Str->Option Value):Prop where
 obj:h.get? x=some (PySem.W.instObj C dx)
 ns:h.Ns1 dx mA
 ne:dx≠x
theorem JQ{h:Heap}{dx:Addr}{mA:Str->Option Value}(n:h.Ns1 dx mA):∃od,h.get? dx=some od/\∀name,PySem.W.lookIn name od=some (mA name):=by
 obtain⟨o,es,ep,ho,hd,hk,_,hm⟩:=n
 refine⟨o,ho,λname=> ?_⟩
 have e:=hm name
 unfold nsFind findBy at e
 rw[<-Array.find?_toList]at e
 unfold PySem.W.lookIn
 rw[hd]
 dsimp only
 split
 ·rename_i y q
  rw[q]at e
  exact congrArg some e
 ·rename_i q
  rw[q]at e
  have a:es.toList.any (·.refKey)=false:=by
   rw[List.any_eq_false]
   intro y hy
   obtain⟨z,t,hkey⟩:=hk y (Array.mem_toList_iff.mp hy)
   simp[DictEntry.refKey,hkey]
  have a':¬es.toList.any (·.refKey)=true:=by rw[a];exact xA
  rw[if_neg a']
  exact congrArg some e
theorem Yq.look(I:Yq h x dx C mA):∃od,PySem.W.InstAt h x (PySem.W.instObj C dx) C (some od)/\∀name,PySem.W.lookIn name od=some (mA name):=
 let⟨od,ho,hl⟩:=JQ I.ns
 ⟨od,⟨I.obj,rfl,rfl,ho⟩,hl⟩
section
variable{prog:Program}{w:World}{A:Around}{E:Value->Shared->Prop}{s:Shared}{K:Frag}{x dx C f:Addr}{mA:Str->Option Value}{name:Str}{v:Value}
theorem get_map{Q:Value->Shared->Prop}(X:K.In s.heap)(I:Yq s.heap x dx C mA)(hg:PySem.W.plainGet K C name=true)(hh:PySem.W.hasDictIn K C=true)
  (ha:findIn K (.ref C) name=some none) (hv:mA name=some v) (hv':PySem.W.handedIn v=true) (h:Q v {s with toks:=s.toks+1}):
  wpAny (model prog w) A (getAttr (.ref x) name expr) Q E s:=by
 obtain⟨od,J,hl⟩:=I.look
 exact PySem.W.get_value X J (PySem.W.plainGet_of hg).1 (PySem.W.findObj_own hh ha rfl (by rw[hl,hv])) hv' h
theorem ac9{Q:Value×List Value->Shared->Prop}(X:K.In s.heap)(I:Yq s.heap x dx C mA)(hg:PySem.W.plainGet K C name=true)
  (hf:findIn K (.ref C) name=some (some (.ref f))) (ht:isFn K (.ref f)=true) (hv:mA name=none) (h:Q (.ref f,[.ref x]) s):
  wpAny (model prog w) A (getMethod (.ref x) name pl) Q E s:=by
 obtain⟨od,J,hl⟩:=I.look
 exact PySem.W.method_fn X J (PySem.W.plainGet_of hg).1 (PySem.W.plainGet_of hg).2 hf (beq_iff_eq.mp ht) (by show(PySem.W.lookIn name od).map (·.isSome)=some false;rw[hl,hv];rfl) h
theorem adZ{Q:Unit->Shared->Prop}(X:K.In s.heap)(I:Yq s.heap x dx C mA)
  (hs:findIn K (.ref C) "__setattr__" = some (some (.builtin "object.__setattr__"))) (hp:PySem.W.plainOver K C=true) (ht:PySem.W.takerIn K C name=some none) (hh:PySem.W.hasDictIn K C=true)
  (hw:PySem.Within mA ns) (hsz:ns.length<=sizeLine)
  (h:∀h',Yq h' x dx C (λy=>if y=name then some v else mA y)->Heap.SameBut dx s.heap h'->Q .unit {s with heap:=h',toks:=s.toks+2}):
  wpAny (model prog w) A (setAttr (.ref x) name v) Q E s:=by
 obtain⟨od,J,hl⟩:=I.look
 refine PySem.W.set_plain X J hs (PySem.W.osa_open (s:={s with toks:=s.toks+1}) (r:=none) X J hp ht λb=> ?_)
 obtain⟨cd,hc,hd'⟩:=PySem.W.any_some hh
 have hx:s.heap.get? x=some ⟨.ref C,some dx,.plain,#[]⟩:=I.obj
 refine zC (zI (zC (zC (wpAny_loadPart hx (zC (PySem.W.Looks.here (s:={s with toks:=s.toks+1}) (PySem.W.looks_clsIn X hc) ?_))))))
 rw[hd']
 refine zI (a:=some dx) (zC (zI (zC ?_)))
 refine wpAny_nsSet1 (s:={s with toks:=s.toks+1}) I.ns λh' hn2 hs2=> ?_
 obtain⟨oD,esD,epD,hoD,hdD,hcD⟩:=hn2.count (PySem.Within.cons name v hw)
 refine zC (wpAny_lookBehind hoD (by rw[hdD];exact pastItsLine_dict (yY hcD (by rw[List.length_cons];lia))) ?_)
 exact zI (h _ ⟨(hs2.2 _ (Ne.symm I.ne)).trans I.obj,hn2,I.ne⟩ hs2)
theorem acO{R:Result->Shared->Prop}(X:K.In s.heap)(hm:PySem.W.makesIn K C=true)
  (hi:findIn K (.ref C) "__init__" = some (some (.ref f))) (hf:PySem.W.typeIn K (.ref f)=some (.type "function"))
  (h:codeAny (model prog w) (A.under (.builtin "type.__call__" ⟨.ref C::vs,kw⟩)) (.call (.ref f) ⟨.ref (s.heap.objs.size+1)::vs,kw⟩) (PySem.W.InitBack (s.heap.objs.size+1) R)
   {s with heap:=(s.heap.push PySem.W.emptyDict).push (PySem.W.instObj C s.heap.objs.size)}):
  codeAny (model prog w) A (.call (.ref C) ⟨vs,kw⟩) R s:=by
 obtain⟨hh,g,d,t,os⟩:=s
 exact PySem.W.make_core (PySem.W.makes_of X hm) (PySem.W.looks_findIn X hi) (λself=>PySem.W.bind_fn X self hf) (.inl rfl) h
theorem aaC{R:Result->Shared->Prop}(X:K.In s.heap)(hm:PySem.W.makesIn K C=true)
  (hi:findIn K (.ref C) "__init__" = some (some (.builtin "object.__init__")))
  (hb:∀self,PySem.W.Looks (model prog w) s.heap (bindSpecial (.builtin "object.__init__") self) (.builtin "object.__init__",[self]))
  (h:codeAny (model prog w) (A.under (.builtin "type.__call__" ⟨[.ref C],[]⟩)) (.call (.builtin "object.__init__") ⟨[.ref (s.heap.objs.size+1)],[]⟩) (PySem.W.InitBack (s.heap.objs.size+1) R)
   {s with heap:=(s.heap.push PySem.W.emptyDict).push (PySem.W.instObj C s.heap.objs.size)}):
  codeAny (model prog w) A (.call (.ref C) ⟨[],[]⟩) R s:=by
 obtain⟨hh,g,d,t,os⟩:=s
 exact PySem.W.make_core (PySem.W.makes_of X hm) (PySem.W.looks_findIn X hi) hb (.inr ⟨rfl,rfl⟩) h
end
noncomputable def yt(f:Str)(v:V):List (Str×V)->List (Str×V)
 | []=>[(f,v)]
 | (g,x)::r=>if g=f then(g,v)::r else(g,x)::yt f v r
theorem Kr(f g:Str)(v:V):∀fs:List (Str×V),(yt f v fs).lookup g=if g=f then some v else fs.lookup g
 | []=>by
  show List.lookup g [(f,v)]=_
  by_cases h:g=f
  ·have hb:(g==f)=true:=beq_iff_eq.mpr h
   simp only[List.lookup,hb,if_pos h]
  ·have hb:(g==f)=false:=beq_eq_false_iff_ne.mpr h
   simp only[List.lookup,hb,if_neg h]
 | (k,x)::r=>by
  have ih:=Kr f g v r
  rw[show yt f v ((k,x)::r)=(if k=f then(k,v)::r else(k,x)::yt f v r)from rfl]
  by_cases hk:k=f
  ·rw[if_pos hk]
   by_cases h:g=k
   ·have hb:(g==k)=true:=beq_iff_eq.mpr h
    simp only[List.lookup,hb,if_pos (h.trans hk)]
   ·have hb:(g==k)=false:=beq_eq_false_iff_ne.mpr h
    simp only[List.lookup,hb,if_neg (λe:g=f=>h (e.trans hk.symm))]
  ·rw[if_neg hk]
   by_cases h:g=k
   ·have hb:(g==k)=true:=beq_iff_eq.mpr h
    simp only[List.lookup,hb,if_neg (λe:g=f=>hk (h.symm.trans e))]
   ·have hb:(g==k)=false:=beq_eq_false_iff_ne.mpr h
    simp only[List.lookup,hb]
    exact ih
theorem JT(f:Str)(v:V):∀fs:List (Str×V),f∈(yt f v fs).map (·.1)/\∀g,g∈fs.map (·.1)->g∈(yt f v fs).map (·.1)
 | []=>⟨by simp[yt],λg h=>by simp at h⟩
 | (k,x)::r=>by
  obtain⟨i1,i2⟩:=JT f v r
  rw[show yt f v ((k,x)::r)=(if k=f then(k,v)::r else(k,x)::yt f v r)from rfl]
  by_cases hk:k=f
  ·rw[if_pos hk]
   subst hk
   exact⟨by simp,λg h=>by simpa using h⟩
  ·rw[if_neg hk]
   refine⟨?_,λg h=> ?_⟩
   ·rw[List.map_cons]
    exact yT _ i1
   ·rw[List.map_cons]at h ⊢
    rcases List.mem_cons.mp h with e | e
    ·exact List.mem_cons.mpr (.inl e)
    ·exact yT _ (i2 g e)
theorem Ku(f:Str)(v:V):∀fs:List (Str×V),(yt f v fs).length<=fs.length+1
 | []=>by simp[yt]
 | (k,x)::r=>by
  have ih:=Ku f v r
  rw[show yt f v ((k,x)::r)=(if k=f then(k,v)::r else(k,x)::yt f v r)from rfl]
  by_cases hk:k=f
  ·rw[if_pos hk,List.length_cons,List.length_cons];lia
  ·rw[if_neg hk,List.length_cons,List.length_cons];lia
theorem Fe.some_of(r:Fe (some v) o):∃u,o=some u/\RelV v u:=by
 cases o with
 | none=>exact(show False from r).elim
 | some u=>exact⟨u,rfl,r⟩
theorem Fe.none_of(r:Fe none o):o=none:=by
 cases o with
 | none=>rfl
 | some u=>exact(show False from r).elim
theorem QK(r:RelV v u):PySem.W.handedIn u=true:=by
 cases v with
 | non=>cases(show u=Value.none from r);rfl
 | bl b=>cases(show u=Value.bool b from r);rfl
 | int i=>obtain⟨t,e⟩:=(show ∃t,u=Value.int i t from r);cases e;rfl
 | str x=>obtain⟨t,e⟩:=(show ∃t,u=Value.str x t from r);cases e;rfl
 | byt b=>obtain⟨t,e⟩:=(show ∃t,u=Value.bytes b t from r);cases e;rfl
 | flt b=>obtain⟨t,e⟩:=(show ∃t,u=Value.float b t from r);cases e;rfl
 | ref a=>cases(show u=Value.ref a from r);rfl
 | ty n=>cases(show u=Value.type n from r);rfl
section
variable{P:Program}{w:World}{H H':Hp}{h h':Heap}{a C dx:Addr}{fs fs':List (Str×V)}
theorem LC(hok:ym P w H h)(e:H a=some (.ins C dx fs)):∃mA,Yq h a dx C mA/\(∀f,Fe (fs.lookup f) (mA f))/\PySem.Within mA (fs.map (·.1))/\fs.length<=1000/\H dx=some (.own a):=by
 obtain⟨d,z,ne,ob,mA,n,r,q⟩:=(show bT P w H h a (.ins C dx fs)from hok a _ e)
 exact⟨mA,⟨ob,n,ne⟩,r,q,z,d⟩
end
structure Li(K:Frag)(C:Addr):Prop where
 pg:PySem.W.plainGet K C Str.empty=true
 hd:PySem.W.hasDictIn K C=true
 po:PySem.W.plainOver K C=true
 sa:findIn K (.ref C) "__setattr__" = some (some (.builtin "object.__setattr__"))
theorem Li.get{K:Frag}{C:Addr}(c:Li K C)(f:Str):PySem.W.plainGet K C f=true:=c.pg
def bU(K:Frag)(C:Addr)(f:Str):Prop:=findIn K (.ref C) f=some none
theorem bU.taker{K:Frag}{C:Addr}{f:Str}(n:bU K C f):PySem.W.takerIn K C f=some none:=by
 unfold PySem.W.takerIn
 rw[show findIn K (.ref C) f=some none from n]
 rfl
structure Meth(K:Frag)(C:Addr)(m:Str)(f:Addr):Prop where
 at_:findIn K (.ref C) m=some (some (.ref f))
 fn:isFn K (.ref f)=true
 kp:keepIn K (.ref f)=true
section
variable{X:Cx}{pins:List (Addr×Obj)}{σ:St}{H:Hp}{s:Shared}{a C dx:Addr}{fs:List (Str×V)}{f:Str}{v:V}{A:Around}{E:Value->Shared->Prop}
theorem XM{Q:Value->Shared->Prop}(I:Inv X pins σ H s)(e:H a=some (.ins C dx fs))(c:Li X.K C)(n:bU X.K C f)(l:fs.lookup f=some v)
  (h:∀u s',Inv X pins σ H s'->RelV v u->Q u s'):wpAny (model X.prog X.w) A (getAttr (.ref a) f b) Q E s:=by
 obtain⟨mA,O,r,_,_,_⟩:=LC I.hok e
 obtain⟨u,hu,ru⟩:=Fe.some_of (v:=v) (o:=mA f) (by rw[<-l];exact r f)
 exact get_map I.zb O (c.get f) c.hd n hu (QK ru) (h u _ (I.tok _) ru)
theorem Ox{Q:Value×List Value->Shared->Prop}(I:Inv X pins σ H s)(e:H a=some (.ins C dx fs))(c:Li X.K C)(k:Meth X.K C m g)(l:fs.lookup m=none)
  (h:Q (.ref g,[.ref a]) s):wpAny (model X.prog X.w) A (getMethod (.ref a) m pl) Q E s:=by
 obtain⟨mA,O,r,_,_,_⟩:=LC I.hok e
 have hn:mA m=none:=Fe.none_of (by rw[<-l];exact r m)
 exact ac9 I.zb O (c.get m) k.at_ k.fn hn h
theorem WL{Q:Unit->Shared->Prop}(I:Inv X pins σ H s)(e:H a=some (.ins C dx fs))(c:Li X.K C)(n:bU X.K C f)(hl:fs.length<1000)(ry:RelV y u)
  (h:∀s',Inv X pins σ (upd H a (.ins C dx (yt f y fs))) s'->Q .unit s'):wpAny (model X.prog X.w) A (setAttr (.ref a) f u) Q E s:=by
 obtain⟨mA,O,r,wi,_,ho⟩:=LC I.hok e
 have hz:(fs.map (·.1)).length<=sizeLine:=by rw[zan,sizeLine_eq];lia
 refine adZ I.zb O c.sa c.po n.taker c.hd wi hz λh' O' sb=>h _ ?_
 have hd:∃o,h'.get? dx=some o:=let⟨o,_,_,e',_⟩:=O'.ns;⟨o,e'⟩
 refine I.write (x:=a) (e:=dx) (by rw[e];exact zaa) (.inr ho) (λb q hb z=>(sb.2 b hb).trans z) hd ?_
 refine⟨by rw[aH O.ne];exact ho,?_,O.ne,O'.obj,_,O'.ns,λg=> ?_,λg hg=> ?_⟩
 ·have:=Ku f y fs;lia
 ·show Fe ((yt f y fs).lookup g) (if g=f then some u else mA g)
  rw[Kr]
  by_cases q:g=f
  ·rw[if_pos q,if_pos q];exact ry
  ·rw[if_neg q,if_neg q];exact r g
 ·by_cases q:g=f
  ·rw[q];exact(JT f y fs).1
  ·refine(JT f y fs).2 g (wi g λz=>hg ?_)
   show(if g=f then some u else mA g)=none
   rw[if_neg q];exact z
theorem Inv.made(I:Inv X pins σ H s):Inv X pins σ (upd (upd H s.heap.objs.size (.own (s.heap.objs.size+1))) (s.heap.objs.size+1) (.ins C s.heap.objs.size []))
  {s with heap:=(s.heap.push PySem.W.emptyDict).push (PySem.W.instObj C s.heap.objs.size)}:=by
 have e1:(s.heap.push PySem.W.emptyDict).get? s.heap.objs.size=some PySem.W.emptyDict:=yB s.heap rfl
 have e2:((s.heap.push PySem.W.emptyDict).push (PySem.W.instObj C s.heap.objs.size)).get? (s.heap.objs.size+1)=some (PySem.W.instObj C s.heap.objs.size):=by
  have:=yB (s.heap.push PySem.W.emptyDict) (o:=PySem.W.instObj C s.heap.objs.size) rfl
  rwa [Heap.size_push]at this
 have e3:(s.heap.push PySem.W.emptyDict).Ns s.heap.objs.size (λ_=>none):=⟨PySem.W.emptyDict,#[],_,e1,rfl,(λe he=>absurd he (by simp)),λ_=>rfl⟩
 have I1:=I.laid (a:=s.heap.objs.size) (o:= .own (s.heap.objs.size+1)) (h':=s.heap.push PySem.W.emptyDict) (t':=s.toks) (λb u q=>zD _ q) (zab _) ⟨_,e1⟩
 refine I1.laid (a:=s.heap.objs.size+1) (o:= .ins C s.heap.objs.size []) (t':=s.toks) (λb u q=>zD _ q) (Nat.le_of_eq (Heap.size_push _ _)) ?_
 have ne:s.heap.objs.size≠s.heap.objs.size+1:=xD (Nat.lt_succ_self _)
 refine⟨by rw[aH ne,aM],Nat.zero_le _,ne,e2,λ_=>none,(Heap.Ns1.of_empty e3).at λo q=>zD _ q,λ_=>zaa,λy hy=>absurd rfl hy⟩
theorem ZC{Q:Value->Shared->Prop}(hb:attributeBase e f env (eval e env)=eval e env)
  (h:wpAny (model prog w) A (eval e env) (λo s₁=>wpAny (model prog w) A (getAttr o f true) Q E s₁) E s):wpAny (model prog w) A (eval (.Attribute e f pos) env) Q E s:=
 Attribute_any_ h (by rw[arm_eval_Attribute,hb])
end
def ajN(K:Frag)(ta:TE)(f:Str):TE:=λσ H Q=>ta σ H λx H1=>∃a C dx fs v,x= .ref a/\H1 a=some (.ins C dx fs)/\Li K C/\bU K C f/\fs.lookup f=some v/\Q v H1
def awf(K:Frag)(ta tv:TE)(f:Str):TS:=λD σ H=>tv σ H λy H1=>ta σ H1 λx H2=>∃a C dx fs,x= .ref a/\H2 a=some (.ins C dx fs)/\Li K C/\bU K C f/\fs.length<1000/\
 D.nx σ (upd H2 a (.ins C dx (yt f y fs)))
section
variable{X:Cx}{o e value:Expr}{f:Str}{pos pos' tpos:Pos}{ta tv:TE}
theorem acC(he:PE X e ta)(hb:attributeBase e f X.env (eval e X.env)=eval e X.env):PE X (.Attribute e f pos) (ajN X.K ta f):=by
 intro pins s σ H Q I h
 refine ZC hb (kj (he pins s σ H _ I h) ?_)
 rintro u s1 ⟨x,H1,I1,rx,a,C,dx,fs,v,ex,ea,c,n,l,q⟩
 subst ex
 obtain rfl:u=Value.ref a:=rx
 exact XM I1 ea c n l λu' s2 I2 ru=>⟨v,H1,I2,ru,q⟩
theorem agS(ha:PE X o ta)(hv:PE X value tv)(hs:swapsWith value (some (.Attribute o f pos')) pos.line X.env=pure false):PS X (.Assign [.Attribute o f pos'] value pos) (awf X.K ta tv f):=by
 intro pins s σ H D I h
 refine plainObj_wpAny_Assign_Attribute (kj (hv pins s σ H _ I h) ?_) hs
 rintro u s1 ⟨y,H1,I1,ry,q⟩
 refine kj (ha pins s1 σ H1 _ I1 q) ?_
 rintro ov s2 ⟨x,H2,I2,rx,a,C,dx,fs,ex,ea,c,n,l,q2⟩
 subst ex
 obtain rfl:ov=Value.ref a:=rx
 exact WL I2 ea c n l ry λs3 I3=>⟨σ,_,I3,q2⟩
end
section
variable{X:Cx}{pins:List (Addr×Obj)}{σ:St}{H:Hp}{s:Shared}{A:Around}{E:Value->Shared->Prop}{Q:Value->Shared->Prop}{c:Value}{b:Bool}
inductive Iz (K:Frag) (H:Hp):V->Value->Prop where
 | non:Iz K H .non (.type "NoneType")
 | bl (x:Bool):Iz K H (.bl x) (.type "bool")
 | int (i:Int):Iz K H (.int i) (.type "int")
 | str (x:Str):Iz K H (.str x) (.type "str")
 | flt (x:UInt64):Iz K H (.flt x) (.type "float")
 | lst {a:Addr} {xs:List V} (e:H a=some (.lst xs)):Iz K H (.ref a) (.type "list")
 | gb {a:Addr} {o:Obj} {xs:List V} (e:H a=some (.gb o (.lst xs))):Iz K H (.ref a) (.type "list")
 | tup {a:Addr} {xs:List V} (e:H a=some (.tup xs)):Iz K H (.ref a) (.type "tuple")
 | dK {a:Addr} {kvs:List (Key×V)} (e:H a=some (.dK kvs)):Iz K H (.ref a) (.type "dict")
 | dT {a:Addr} {kvs:List (List Key×V)} (e:H a=some (.dT kvs)):Iz K H (.ref a) (.type "dict")
 | ins {a C dx:Addr} {fs:List (Str×V)} (e:H a=some (.ins C dx fs)) (cl:Li K C) (ha:findIn K (.ref C) "__class__" = some (some (.builtin "object.__class__")))
   (hn:PySem.W.specialIn K (.builtin "object.__class__") "__get__" = some (some (.builtin "getset_descriptor.__get__"))) (htk:PySem.W.takesIn K (.builtin "object.__class__")=some true)
   (hm:PySem.W.mroIn K C (.type "object")=some true):Iz K H (.ref a) (.ref C)
theorem QG(I:Inv X pins σ H s)(rx:RelV x u)(ty:Iz X.K H x t)(e:kitOne X.K t c=some b)(h:∀tk,Q (.bool b) {s with toks:=tk}):
  wpAny (model X.prog X.w) A (call (.builtin "isinstance") [u,c]) Q E s:=by
 cases ty with
 | non=>cases(show u=Value.none from rx);exact uS PySem.W.kitx_none I.zb zaa e (λz=>nomatch z) h
 | bl y=>cases(show u=Value.bool y from rx);exact uS PySem.W.kitx_bool I.zb zaa e (λz=>nomatch z) h
 | int i=>obtain⟨t,q⟩:=(show ∃t,u=Value.int i t from rx);cases q;exact uS PySem.W.kitx_int I.zb zaa e (λz=>nomatch z) h
 | str y=>obtain⟨t,q⟩:=(show ∃t,u=Value.str y t from rx);cases q;exact uS PySem.W.kitx_str I.zb zaa e (λz=>nomatch z) h
 | flt y=>obtain⟨t,q⟩:=(show ∃t,u=Value.float y t from rx);cases q;exact uS PySem.W.kitx_float I.zb zaa e (λz=>nomatch z) h
 | @lst a xs ea=>
  cases(show u=Value.ref a from rx)
  obtain⟨_,_,n,_,h1⟩:=(show bT X.prog X.w H s.heap a (.lst xs)from I.hok a _ ea)
  exact uS PySem.W.kitx_list I.zb ⟨_,h1,rfl⟩ e (λz=>nomatch z) h
 | @gb a ob xs ea=>
  cases(show u=Value.ref a from rx)
  obtain⟨_,_,_,n,_,h1⟩:=(show bT X.prog X.w H s.heap a (.gb ob (.lst xs))from I.hok a _ ea)
  exact uS PySem.W.kitx_list I.zb ⟨_,h1,rfl⟩ e (λz=>nomatch z) h
 | @tup a xs ea=>
  cases(show u=Value.ref a from rx)
  obtain⟨_,_,_,p⟩:=(show bT X.prog X.w H s.heap a (.tup xs)from I.hok a _ ea)
  obtain⟨o,h1,h2,_⟩:=p
  exact uS PySem.W.kitx_tuple I.zb ⟨o,h1,h2⟩ e (λz=>nomatch z) h
 | @dK a kvs ea=>
  cases(show u=Value.ref a from rx)
  obtain⟨_,_,vs,_,p⟩:=(show bT X.prog X.w H s.heap a (.dK kvs)from I.hok a _ ea)
  obtain⟨o,es,ep,h1,h2,_⟩:=p
  exact uS PySem.W.kitx_dict I.zb ⟨o,h1,h2.1⟩ e (λz=>nomatch z) h
 | @dT a kvs ea=>
  cases(show u=Value.ref a from rx)
  obtain⟨_,_,xs,_,o,es,ep,h1,h2,_⟩:=(show bT X.prog X.w H s.heap a (.dT kvs)from I.hok a _ ea)
  exact uS PySem.W.kitx_dict I.zb ⟨o,h1,h2.1⟩ e (λz=>nomatch z) h
 | @ins a C dx fs ea cl ha hn htk hm=>
  cases(show u=Value.ref a from rx)
  obtain⟨mA,O,_⟩:=LC I.hok ea
  obtain⟨od,J,_⟩:=O.look
  exact uS (PySem.W.kitx_own (cl.get _) cl.hd ha hn htk hm) I.zb J e (λz=>nomatch z) h
end
structure jT(k:Nat)(A:Around):Prop where
 hd:A.handled=none
 dp:A.depth+3*k+5<recursionLimit
 un:A.units+16*k+200<cLine
theorem jT.mono(r:jT k A)(h:j<=k):jT j A:=⟨r.hd,by have:=r.dp;lia,by have:=r.un;lia⟩
theorem jT.deeper(r:jT (k+1) A)(env:Env):jT k (A.deeper env):=
 ⟨r.hd,by have:=r.dp;show A.depth+1+3*k+5<_;lia,by have:=r.un;show A.units+3+16*k+200<_;lia⟩
theorem Xg{A:Around}{C:Addr}{us:List Value}{kw:List (Str×Value)}:(A.under (.builtin "type.__call__" ⟨.ref C::us,kw⟩)).depth=A.depth+1:=by
 first | rfl | simp[Around.under,Code.weight,Code.isCreation,Code.isGuard,Code.isCaller,Code.frames,Code.isFrame,guardIds]
theorem Xf{A:Around}{C:Addr}{us:List Value}{kw:List (Str×Value)}:(A.under (.builtin "type.__call__" ⟨.ref C::us,kw⟩)).units=A.units+1:=by
 first | rfl | simp[Around.under,Code.cUnits,Code.frames,Code.isFrame]
theorem jT.make(r:jT (k+1) A)(C:Addr)(us:List Value)(kw:List (Str×Value)):jT k (A.under (.builtin "type.__call__" ⟨.ref C::us,kw⟩)):=
 ⟨r.hd,by have:=r.dp;rw[Xg];lia,by have:=r.un;rw[Xf];lia⟩
theorem jT.depth(r:jT k A):A.depth<recursionLimit:=by have:=r.dp;lia
theorem jT.units(r:jT k A):A.units+64<cLine:=by have:=r.un;lia
def adS:TA:=λ_ H Q=>Q [] H
def afB(ta:TE)(tr:TA):TA:=λσ H Q=>ta σ H λx H1=>tr σ H1 λxs H2=>Q (x::xs) H2
section
variable{X:Cx}{e:Expr}{es:List Expr}{te:TE}{t:TA}{pos:Pos}
theorem Jw:PA X [] adS:=λ_ _ _ _ H Q I h=>Calls.spliced_nil ⟨[],H,I,.nil,h⟩
theorem DX(ha:PE X e te)(hr:PA X es t)(hs:starEach (e::es) X.env=(false,eval e X.env)::starEach es X.env:=by rfl):PA X (e::es) (afB te t):=by
 intro pos pins s σ H Q I h
 rw[hs]
 show wpAny _ _ (spliced ((false,eval e X.env)::backTo pos (starEach es X.env))) _ _ s
 refine Calls.spliced_cons (kj (ha pins s σ H _ I h) ?_)
 rintro u s1 ⟨x,H1,I1,r1,q1⟩
 exact kj (hr pos pins s1 σ H1 _ I1 q1) λus s2 ⟨xs,H2,I2,r2,q2⟩=>⟨x::xs,H2,I2,.cons r1 r2,q2⟩
def au6(t:TA):TE:=λσ H Q=>t σ H λxs H1=>xs.length<=sizeLine/\∀p,H1 p=none->Q (.ref p) (upd H1 p (.tup xs))
def avb(t:TA):TE:=λσ H Q=>t σ H λxs H1=>xs.length<=sizeLine/\∀p,H1 p=none->Q (.ref p) (upd H1 p (.lst xs))
theorem agV{x1}(h:PA X es t):PE X (.Tuple es x1 pos) (au6 t):=by
 intro pins s σ H Q I hq
 refine wpAny_Tuple_spliced (kj (h pos pins s σ H _ I hq) λus s1 ⟨xs,H1,I1,r,z,q⟩=>⟨by rw[<-r.length];exact z,?_⟩)
 have hf:H1 s1.heap.objs.size=none:=I1.hok.fresh (zab _)
 refine⟨.ref s1.heap.objs.size,upd H1 s1.heap.objs.size (.tup xs),I1.laid (t':=s1.toks) (λb u e=>zD _ e) (zab _) ?_,rfl,q _ hf⟩
 exact⟨z,us,r,⟨_,yB _ rfl,rfl,_,rfl⟩⟩
theorem ag1(h:PA X es t):PE X (.List es pos) (avb t):=by
 intro pins s σ H Q I hq
 refine wpAny_List_spliced (kj (h pos pins s σ H _ I hq) λus s1 ⟨xs,H1,I1,r,z,q⟩=>⟨by rw[<-r.length];exact z,?_⟩)
 have hf:H1 s1.heap.objs.size=none:=I1.hok.fresh (zab _)
 refine⟨.ref s1.heap.objs.size,upd H1 s1.heap.objs.size (.lst xs),I1.laid (t':=s1.toks) (λb u e=>zD _ e) (zab _) ?_,rfl,q _ hf⟩
 exact⟨z,us,0,r,yB _ rfl⟩
end
abbrev Sp:=List V->Hp->VK->XK->Prop
abbrev ZM:=List Env->Hp->Shared->XK->Value->Shared->Prop
structure V_(P:Program)(w:World)(K:Frag)(mg:Str->Option Value)(base:Heap)(A:Around)(outer:List Env)(s:Shared)(H:Hp):Prop where
 frames:A.frames=some outer
 mod:Mod K mg base
 bs:∀b o,base.get? b=some o->s.heap.get? b=some o/\H b=none
 Yb:base.objs.size<=s.heap.objs.size
 BX:s.heap.FunFrames base outer
 frf:∀b∈frs outer,H b=none
 hok:ym P w H s.heap
 bare:AllBare s.gens
def CE(outer:List Env)(P:Program)(w:World)(H:Hp)(s:Shared)(Q:VK)(u:Value)(s':Shared):Prop:=
 ∃v H',s'.os=s.os/\AllBare s'.gens/\Un (frs outer) [] H H' s.heap s'.heap/\ym P w H' s'.heap/\RelV v u/\Q v H'
def CR(CX:ZM)(outer:List Env)(P:Program)(w:World)(H:Hp)(s:Shared)(Q:VK)(E:XK)(r:Result)(s':Shared):Prop:=
 match r with
 | .ok (.ret u)=>CE outer P w H s Q u s'
 | .ok _=>False
 | .error e=>CX outer H s E e s'
structure g8(P:Program)(w:World)(K:Frag)(mg:Str->Option Value)(base:Heap)(CX:ZM)(k:Nat)(f:Addr)(fd:FuncData)(ps:List Str)(sp:Sp):Prop where
 len:∀vs H Q E,sp vs H Q E->vs.length=ps.length
 run:∀(A:Around) (outer:List Env) (s:Shared) (H:Hp) (args:Args) (us:List Value) (vs:List V) (Q:VK) (E:XK),jT k A->V_ P w K mg base A outer s H->BindsTo s fd args (ps.zip us)->Vals vs us->sp vs H Q E->
  codeAny (model P w) A (.call (.ref f) args) (CR CX outer P w H s Q E) s
theorem g8.imp{P:Program}{w:World}{K:Frag}{mg:Str->Option Value}{base:Heap}{CX:ZM}{k:Nat}{f:Addr}{fd:FuncData}{ps:List Str}{sp sp':Sp}(F:g8 P w K mg base CX k f fd ps sp)
  (h:∀vs H Q E,sp' vs H Q E->sp vs H Q E):g8 P w K mg base CX k f fd ps sp':=
 ⟨λvs H Q E q=>F.len vs H Q E (h _ _ _ _ q),λA outer s H args us vs Q E hr he hb hv hs=>F.run A outer s H args us vs Q E hr he hb hv (h _ _ _ _ hs)⟩
theorem V_.make{P:Program}{w:World}{K:Frag}{mg:Str->Option Value}{base:Heap}{A:Around}{outer:List Env}{s:Shared}{H:Hp}(e:V_ P w K mg base A outer s H)(C:Addr)(us:List Value)(kw:List (Str×Value)):
  V_ P w K mg base (A.under (.builtin "type.__call__" ⟨.ref C::us,kw⟩)) outer s H:=⟨by first | exact e.frames | (simpa[Around.under,Code.envs,Code.isFrame,pushEnvs]using e.frames),e.mod,e.bs,e.Yb,e.BX,e.frf,e.hok,e.bare⟩
section
variable{X:Cx}{pins:List (Addr×Obj)}{σ:St}{H:Hp}{s s':Shared}
theorem Inv.env0(I:Inv X pins σ H s):V_ X.prog X.w X.K X.mg X.base X.A X.stack s H:=
 ⟨I.ok.frames,I.ok.mod,I.bs,yY I.ok.Yb I.sz,I.stack,I.G7,I.hok,I.bare⟩
theorem Inv.after(I:Inv X pins σ H s)(h:CE X.stack X.prog X.w H s Q u s'):EP X pins σ Q u s':=by
 obtain⟨v,H',os,bare,un,hok,r,q⟩:=h
 obtain⟨hh,g,d,t,os'⟩:=s'
 obtain rfl:os'=s.os:=os
 exact⟨v,H',I.call (h':=hh) (g':=g) (d':=d) (t':=t) (ch:=[]) un hok bare (λb z=>absurd z (by simp)),r,q⟩
end
def Binds(K:Frag)(fd:FuncData)(ps:List Str)(ds:List Value):Prop:=
 ∀(s:Shared) (us:List Value),K.In s.heap->(us++ds).length=ps.length->BindsTo s fd ⟨us,[]⟩ (ps.zip (us++ds))
theorem Binds.all{K:Frag}{fd:FuncData}{ps:List Str}(h:∀us:List Value,us.length=ps.length->bindArgs fd ⟨us,[]⟩=pure (ps.zip us)):Binds K fd ps []:=λs us _ hl=>by
 rw[List.append_nil]at hl ⊢
 exact .of_eq (h us hl)
section
variable{X:Cx}{CX:ZM}{k:Nat}{f C:Addr}{fd:FuncData}{ps:List Str}{sp:Sp}{BZ:List V}{ds:List Value}{E:XK}{x m:Str}{p pos apos:Pos}{e o:Expr}{es:List Expr}{ta:TE}{t:TA}
structure Mk(K:Frag)(C f:Addr):Prop where
 makes:PySem.W.makesIn K C=true
 init:findIn K (.ref C) "__init__" = some (some (.ref f))
 fn:isFn K (.ref f)=true
 kp:keepIn K (.ref C)=true
end
structure lu(N P:List Str)(sc:Scope):Prop where
 kind:sc.kind= .function
 co:sc.isCoroutine=false
 gen:sc.isGenerator=false
 nd:N.Nodup
 pre:N.take P.length=P
 par:∀x∈P,sc.names.lookup x=some .local\/sc.names.lookup x=some .cell
 aho:∀y∈sc.names,y.2≠ .free
theorem Q7{kindOf:Str->Option NameKind}{x:Str}:∀{binds:List (Str×Value)} {m:Str->Option Value},(∀v,(x,v)∉binds)->bindL kindOf binds m x=m x
 | [],_,_=>rfl
 | (n,v)::r,m,h=>by
  unfold bindL
  rw[Q7 λw hw=>h w (yT _ hw)]
  split
  ·have:x≠n:=by rintro rfl;exact h v xB
   simp[this]
  ·rfl
theorem Q9{kindOf:Str->Option NameKind}{x:Str}:∀{binds:List (Str×Value)} {m:Str->Option Value},(∀v,(x,v)∉binds)->bindC kindOf binds m x=m x
 | [],_,_=>rfl
 | (n,v)::r,m,h=>by
  unfold bindC
  rw[Q9 λw hw=>h w (yT _ hw)]
  split
  ·rfl
  ·have:x≠n:=by rintro rfl;exact h v xB
   simp[this]
theorem Q8{kindOf:Str->Option NameKind}{x:Str}:∀{P:List Str} {vs:List Value} {i:Nat} {m:Str->Option Value},P.Nodup->P[i]? = some x->vs[i]? = some v->kindOf x=some .local->
  bindL kindOf (P.zip vs) m x=some v
 | [],_,_,_,_,h,_,_=>by simp at h
 | _::_,[],_,_,_,_,h,_=>by simp at h
 | p::P,w::vs,0,m,nd,h1,h2,hk=>by
  simp at h1 h2;subst h1;subst h2
  show bindL kindOf ((p,w)::P.zip vs) m p=_
  unfold bindL
  rw[Q7 λv hv=>(List.nodup_cons.mp nd).1 (List.of_mem_zip hv).1,if_pos hk]
  simp
 | p::P,w::vs,i+1,m,nd,h1,h2,hk=>by
  show bindL kindOf ((p,w)::P.zip vs) m x=_
  unfold bindL
  exact Q8 (i:=i) (List.nodup_cons.mp nd).2 (by simpa using h1) (by simpa using h2) hk
theorem Q_{kindOf:Str->Option NameKind}{x:Str}:∀{P:List Str} {vs:List Value} {i:Nat} {m:Str->Option Value},P.Nodup->P[i]? = some x->vs[i]? = some v->kindOf x≠some .local->
  bindC kindOf (P.zip vs) m x=some v
 | [],_,_,_,_,h,_,_=>by simp at h
 | _::_,[],_,_,_,_,h,_=>by simp at h
 | p::P,w::vs,0,m,nd,h1,h2,hk=>by
  simp at h1 h2;subst h1;subst h2
  show bindC kindOf ((p,w)::P.zip vs) m p=_
  unfold bindC
  rw[Q9 λv hv=>(List.nodup_cons.mp nd).1 (List.of_mem_zip hv).1,if_neg hk]
  simp
 | p::P,w::vs,i+1,m,nd,h1,h2,hk=>by
  show bindC kindOf ((p,w)::P.zip vs) m x=_
  unfold bindC
  exact Q_ (i:=i) (List.nodup_cons.mp nd).2 (by simpa using h1) (by simpa using h2) hk
noncomputable def start(N:List Str)(vs:List V):St:=vs.map some++List.replicate (N.length - vs.length) none
noncomputable def rY(CX:ZM)(P:Program)(w:World)(K:Frag)(mg:Str->Option Value)(base:Heap)(N:List Str)(qual:Str)(scope:Scope)(f:Addr)(cd:Value)(A:Around)(outer:List Env)(s:Shared)(H:Hp)(E:XK):Cx where
 prog:=P
 w:=w
 K:=K
 mg:=mg
 base:=base
 A:=A.deeper (envOfC qual scope s.heap.objs.size f cd)
 N:=N
 s₀:=s
 H₀:=H
 env:=envOfC qual scope s.heap.objs.size f cd
 outer:=outer
 stack:=envOfC qual scope s.heap.objs.size f cd::outer
 ex:=[]
 calm:=true
 fn:=λ_=>true
 pn:=[]
 xe:=λe s'=>wpAny (model P w) (A.deeper (envOfC qual scope s.heap.objs.size f cd)) (leaving (envOfC qual scope s.heap.objs.size f cd) e) (λ_ s''=>CX outer H s E e s'') (λe' s''=>CX outer H s E e' s'') s'
theorem VH{sc:Scope}{n:Nat}{x:Str}(h:sc.names.lookup x=some .cell):∃c,(cellsFrom n sc.names []).lookup x=some c:=by
 have q:=PySem.W.cellsFrom_some sc.names n [] (.inl h)
 exact Option.isSome_iff_exists.mp q
theorem QJ{CX:ZM}{P:Program}{w:World}{K:Frag}{mg:Str->Option Value}{base:Heap}{N ps:List Str}{qual:Str}{scope:Scope}{f:Addr}{cd:Value}{A:Around}{outer:List Env}{s s1:Shared}{H:Hp}{E:XK}{us:List Value}{vs:List V}
  (S:lu N ps scope) (hd:A.handled=none) (e0:V_ P w K mg base A outer s H) (hl:vs.length=ps.length) (r:Vals vs us)
  (x:InCallC s s.heap.objs.size (bindL (envOfC qual scope s.heap.objs.size f cd).kindOf (ps.zip us) λ_=>none) (cellsFrom (s.heap.objs.size+1) scope.names []) (bindC (envOfC qual scope s.heap.objs.size f cd).kindOf (ps.zip us) λ_=>none) s1):
  Inv (rY CX P w K mg base N qual scope f cd A outer s H E) [] (start N vs) H s1:=by
 have hpl:ps.length<=N.length:=by have:=congrArg List.length S.pre;rw[List.length_take]at this;lia
 obtain⟨h1,tk,rfl,hk⟩:=x.done
 have noA:∀b:Addr,b∉(rY CX P w K mg base N qual scope f cd A outer s H E).ex:=λb z=>absurd (show b∈([]:List Addr)from z) (by simp)
 refine⟨⟨e0.mod,S.kind,rfl,rfl,zab _,λy z c h1 h2=> ?_,λy hy=> ?_,λy c _ h=> ?_,λ_=>hd,Around.frames_deeper e0.frames,.inr ⟨rfl,rfl⟩,λb z=>absurd z (noA b),e0.bs,e0.Yb,λb _ _=>noA b,λb z=>absurd z (noA b),e0.BX,e0.frf⟩,
  rfl,e0.bare,Un.kept hk,⟨_,x.toInCall.ns,λi y v h1 h2 h3=> ?_⟩,λy c h=>⟨_,x.cell y c h⟩,e0.hok.fresh (zab _),λy c h=> ?_,λp hp=>absurd (show p∈([]:List (Addr×Obj))from hp) (by simp),e0.hok.kept hk,?_⟩
 ·exact name_of_addr x.apart (PySem.mem_of_lookup h1) (PySem.mem_of_lookup h2)
 ·have hy:scope.names.lookup y=some .cell\/scope.names.lookup y=some .free:=hy
  rcases hy with hy | hy
  ·exact VH hy
  ·exact absurd rfl (S.aho _ (PySem.mem_of_lookup hy))
 ·exact Nat.le_of_lt (x.above y c (PySem.mem_of_lookup h))
 ·have hi:i<vs.length:=by
   unfold start at h2
   by_cases hi:i<vs.length
   ·exact hi
   ·rw[zad (by simpa using hi)]at h2
    rw[List.getElem?_replicate]at h2
    split at h2<;>cases h2
  have ha:vs[i]? = some v:=by
   unfold start at h2
   rw[zae (by simpa using hi),zam]at h2
   cases e:vs[i]? with
   | none=>rw[e]at h2;cases h2
   | some a=>rw[e]at h2;cases h2;rfl
  obtain⟨u,hu,rv⟩:=r.get ha
  have hp:ps[i]? = some y:=by
   rw[<-S.pre,List.getElem?_take_of_lt ()];exact h1
  have ndP:ps.Nodup:=by rw[<-S.pre];exact S.nd.sublist (List.take_sublist _ _)
  refine⟨u,rv,?_⟩
  rcases S.par y (List.mem_of_getElem? hp)with k | k
  ·exact .inl ⟨k,Q8 ndP hp hu k⟩
  ·obtain⟨c,e⟩:=VH (n:=s.heap.objs.size+1) k
   refine .inr ⟨.inl k,c,e,?_⟩
   have q:=x.cell y c e
   rw[Q_ ndP hp hu (by show scope.names.lookup y≠_;rw[k];decide)]at q
   exact q
 ·exact .inl (e0.hok.fresh (Nat.le_of_lt (x.above y c (PySem.mem_of_lookup h))))
 ·unfold start
  show _=N.length
  rw[List.length_append,zan,List.length_replicate]
  lia
theorem afV{CX:ZM}{P:Program}{w:World}{K:Frag}{mg:Str->Option Value}{base:Heap}{k:Nat}{f:Addr}{name qual:Str}{params:Arguments}{body:List Stmt}{scope:Scope}{dV kV doc pm cdv ct oc:Value}{an od:Option Addr}
  {osl:Array (Option Value)} {N ps:List Str} {sp:Sp} (lk:K.lookup f=some ⟨oc,od,.func (fnOf name qual params body scope dV kV doc pm an cdv ct),osl⟩) (hcd:codeIn K cdv qual=true) (S:lu N ps scope)
  (len:∀vs H Q E,sp vs H Q E->vs.length=ps.length)
  (hbody:∀(A:Around) (outer:List Env) (s:Shared) (H:Hp) (vs:List V) (Q:VK) (E:XK),jT k (A.deeper (envOfC qual scope s.heap.objs.size f cdv))->sp vs H Q E->
   ∃t,Le (rY CX P w K mg base N qual scope f cdv A outer s H E) body t/\t {nx:=λ_ H'=>Q .non H',rt:=Q} (start N vs) H):
  g8 P w K mg base CX (k+1) f (fnOf name qual params body scope dV kV doc pm an cdv ct) ps sp:=by
 refine⟨len,λA outer s H args us vs Q E hr e0 hb r hsp=> ?_⟩
 have hl:=len _ _ _ _ hsp
 have KX:K.In s.heap:=e0.mod.kin.keeps λb o e=>(e0.bs b o e).1
 have lim:s.heap.NoLimit:=e0.mod.nolimit.keeps λb o e=>(e0.bs b o e).1
 have hkind:∀y∈ps.zip us,scope.names.lookup y.1=some .local\/(scope.names.lookup y.1=some .cell/\((cellsFrom (s.heap.objs.size+1) scope.names []).lookup y.1).isSome=true):=λ⟨n,v⟩ hy=>by
  rcases S.par n (List.of_mem_zip hy).1 with q | q
  ·exact .inl q
  ·exact .inr ⟨q,PySem.W.cellsFrom_some _ _ _ (.inl q)⟩
 refine codeAny_call_function hr.depth (KX _ _ lk) rfl S.co S.gen rfl (PySem.W.codeRec_of KX hcd) (hb _ _ _ _ ?_)
 refine wpAny_newFunctionEnv_cells S.kind hkind λenv he s1 x=> ?_
 subst he
 refine⟨lim.keeps x.toInCall.keep,codeAny_func ?_⟩
 obtain⟨t,ht,hq⟩:=hbody A outer s H vs Q E (hr.deeper _) hsp
 have I:Inv (rY CX P w K mg base N qual scope f cdv A outer s H E) [] (start N vs) H s1:=QJ S hr.hd e0 hl r x
 refine wT (ht [] s1 (start N vs) H _ I hq) (λfl s' hs=> ?_) λe s' hs=>hs
 have fin:∀{σ':St} {H':Hp} {v:V} {u:Value},Inv (rY CX P w K mg base N qual scope f cdv A outer s H E) [] σ' H' s'->RelV v u->Q v H'->CE outer P w H s Q u s':=
  λ{σ' H' v u} J rv q=>⟨v,H',J.os,J.bare,J.base,J.hok,rv,q⟩
 cases fl with
 | ret u=>
  obtain⟨v,σ',H',J,rv,q⟩:=hs
  exact fin J rv q
 | next=>
  obtain⟨σ',H',J,q⟩:=hs
  exact fin (v:=V.non) (u:=Value.none) J rfl q
 | brk=>
  obtain⟨_,_,_,q⟩:=hs
  exact False.elim q
 | cont=>
  obtain⟨_,_,_,q⟩:=hs
  exact False.elim q
section
variable{X:Cx}{x:Str}{p pos:Pos}{e:Expr}{es:List Expr}{t:TA}{id T:String}{r:List V->Hp->VK->Prop}
def tCB(r:List V->Hp->VK->Prop)(t:TA):TE:=λσ H Q=>t σ H λvs H1=>r vs H1 Q
theorem Nk(hc:qU X (.builtin id) r)(hg:Gl X x)(hm:X.mg x=none)(hv:bootBuiltins x=some (.builtin id))(ha:PA X (e::es) t)(hn:x≠ "__name__" := by decide)(hdb:(x==("__debug__" : Str))=false:=by decide)
  (he:starEach (e::es) X.env=(false,eval e X.env)::starEach es X.env:=by rfl) (hpl:(backTo pos (starEach es X.env)).any (·.1)=false:=by rfl):PE X (.Call (.Name x p) (e::es) [] pos) (tCB r t):=by
 intro pins s σ H Q I h
 refine wpAny_Call_Name_kw (Dd I hg hm hv ?_ hn hdb)
 exact PyProof.Rows.callWith_builtin1 (kj (ha pos pins s σ H _ I h) λus s1 ⟨vs,H1,I1,r1,q1⟩=>hc pins s1 σ H1 vs us Q I1 r1 q1) he hpl
theorem Jv(hc:qU X (.type T) r)(hg:Gl X x)(hm:X.mg x=none)(hv:bootBuiltins x=some (.type T))(ha:PA X (e::es) t)(hn:x≠ "__name__" := by decide)(hdb:(x==("__debug__" : Str))=false:=by decide)
  (he:starEach (e::es) X.env=(false,eval e X.env)::starEach es X.env:=by rfl) (hpl:(backTo pos (starEach es X.env)).any (·.1)=false:=by rfl):PE X (.Call (.Name x p) (e::es) [] pos) (tCB r t):=by
 intro pins s σ H Q I h
 refine wpAny_Call_Name_kw (Dd I hg hm hv ?_ hn hdb)
 exact PyProof.Rows.callWith_type1 (kj (ha pos pins s σ H _ I h) λus s1 ⟨vs,H1,I1,r1,q1⟩=>hc pins s1 σ H1 vs us Q I1 r1 q1) he hpl
end
end L2
namespace HT
open PySem PyProof.Rows
noncomputable def lexLt:List Int->List Int->Bool
 | [],[]=>false
 | [],_::_=>true
 | _::_,[]=>false
 | x::xs,y::ys=>if x=y then lexLt xs ys else decide (x<y)
theorem Xn(x y:Int)(xs ys:List Int):lexLt (x::xs) (y::ys)=if x=y then lexLt xs ys else decide (x<y):=rfl
theorem P_:lexLt [] []=false:=rfl
theorem Oe(y:Int)(ys:List Int):lexLt [] (y::ys)=true:=rfl
theorem Og(x:Int)(xs:List Int):lexLt (x::xs) []=false:=rfl
theorem adi(A:Around)(s:Shared)(a:Int)(t:Tok)(c:Int)(u:Tok):∃e,SeqAt.EqAt A s (.int a t) (.int c u) e/\(e=true↔a=c):=
 ⟨(a==c),SeqAt.EqAt.int_int a t c u,by simp⟩
theorem ach(A:Around)(s:Shared)(a:Int)(t:Tok)(c:Int)(u:Tok)(prog:Program)(w:World)(E:Value->Shared->Prop)(Q:Value->Shared->Prop)(h:Q (.bool (decide (a<c))) s):
  wpAny (model prog w) A (richCompare .Lt (.int a t) (.int c u)) Q E s:=
 (PyProof.Rows.lt_int h:wpAny (model prog w) A (compareOp .Lt (.int a t) (.int c u)) Q E s)
section
open PySem.SeqAt
open PySem.AutoSeq1 (wpAny_loadPart')
open PySem.MeetsSeq PySem.MeetsSeq2 PySem.MeetsSeq3
theorem Pu(l b:Addr)(items items2:Array Value)(n n2:Nat)(dd dd2:Option Addr)(sl sl2:Array (Option Value))(ns ms:List Int)(hi:IntsAre items.toList ns)(hj:IntsAre items2.toList ms):
  Meets (Builtin.«tuple.__lt__» ⟨[.ref l,.ref b],[]⟩)
   (λ_ R s=>s.heap.get? l=some {cls:= .type "tuple",dict:=dd,data:= .seq items n,slots:=sl}/\s.heap.get? b=some {cls:= .type "tuple",dict:=dd2,data:= .seq items2 n2,slots:=sl2}/\
    R (.ok (.ret (.bool (lexLt ns ms)))) s):=
 .of_wp λprog w A R s h=>by
  obtain⟨hp,g,d,tk,os⟩:=s;obtain⟨hl,hb,h⟩:=h
  have f2:=AutoSeq1.sub_tuple_tuple
  have z1:items.size=ns.length:=by rw[<-hi.length];simp
  have z2:items2.size=ms.length:=by rw[<-hj.length];simp
  wp_walk using wpAny_loadPart' hl,wpAny_loadPart' hb,wpAny_forIn_list _ (λrest b s'=>b.1=none/\s'=⟨hp,g,d,tk,os⟩/\∃(vs ws:List Value) (ns' ms':List Int),rest=vs.zip ws/\
   IntsAre vs ns'/\IntsAre ws ms'/\ns'.length+items2.size=ms'.length+items.size/\R (.ok (.ret (.bool (lexLt ns' ms')))) ⟨hp,g,d,tk,os⟩) _
  case turn=>
   rintro⟨y,x⟩ rest b s' ⟨hb',rfl,vs,ws,ns',ms',hz,hvi,hwi,hlen,hR⟩
   cases hvi with
   | nil=>rw[List.zip_nil_left]at hz;cases hz
   | cons a t azl=>
    cases hwi with
    | nil=>rw[List.zip_nil_right]at hz;cases hz
    | cons c u azk=>
     rw[List.zip_cons_cons]at hz
     injection hz with hyx hrest
     injection hyx with hy hx
     subst hy hx
     rw[Xn]at hR
     simp only[List.length_cons]at hlen
     obtain⟨e,he,hiff⟩:=adi A.in1 ⟨hp,g,d,tk,os⟩ a t c u
     refine zC (he prog w _ _ ?_)
     cases e with
     | true=>
      rw[if_pos (hiff.mp rfl)]at hR
      wp_walk
      exact⟨rfl,rfl,_,_,_,_,hrest,azl,azk,(),hR⟩
     | false=>
      rw[if_neg (λq=>absurd (hiff.mpr q) xA)]at hR
      have hri:=ach A.in1 ⟨hp,g,d,tk,os⟩ a t c u prog w
      wp_walk using hri
      exact⟨_,rfl,by simpa using hR⟩
  case fin=>
   rintro⟨b1,b2⟩ s' ⟨hb',rfl,vs,ws,ns',ms',hz,hvi,hwi,hlen,hR⟩
   simp only at hb'
   subst hb'
   have hv:lexLt ns' ms'=decide (items.size<items2.size):=by
    cases hvi with
    | nil=>
     cases hwi with
     | nil=>
      simp only[List.length_nil]at hlen
      rw[P_]
      exact(zaf ()).symm
     | cons c u hw=>
      simp only[List.length_nil,List.length_cons]at hlen
      rw[Oe]
      exact(zag ()).symm
    | cons a t hv=>
     cases hwi with
     | nil=>
      simp only[List.length_nil,List.length_cons]at hlen
      rw[Og]
      exact(zaf ()).symm
     | cons c u hw=>
      rw[List.zip_cons_cons]at hz
      cases hz
   rw[hv]at hR
   wp_walk
   exact⟨_,rfl,by simpa[Builtin.Tuple.tupleCompareSizes]using hR⟩
  case h=>
   exact⟨rfl,rfl,items.toList,items2.toList,ns,ms,rfl,hi,hj,(),h⟩
end
section
variable{prog:Program}{w:World}{A:Around}{E:Value->Shared->Prop}{s:Shared}
theorem Xk{Q:Value->Shared->Prop}(hl:IsTup s.heap l items)(hb:IsTup s.heap b items2)(hi:IntsAre items.toList ns)(hj:IntsAre items2.toList ms)
  (hu:A.units<cLine) (h:Q (.bool (lexLt ns ms)) s):wpAny (model prog w) A (compareOp .Lt (.ref l) (.ref b)) Q E s:=by
 obtain⟨⟨cls,dd,data,sl⟩,ho,hc,n,hd⟩:=id hl
 obtain⟨⟨cls2,dd2,data2,sl2⟩,ho2,hc2,n2,hd2⟩:=id hb
 simp only at hc hd hc2 hd2
 subst hc hd hc2 hd2
 exact richCompare_meets_room (op:= .Lt) ⟨_,ho,rfl⟩ ⟨_,ho2,rfl⟩ PySem.F.slot_tuple_lt PySem.F.entry_tuple_lt (PySem.F.args_tuple_lt_2 _ _) (Pu l b items items2 n n2 dd dd2 sl sl2 ns ms hi hj)
  ⟨ho,ho2,show Value.bool (lexLt ns ms)≠Value.notImplemented/\Q (.bool (lexLt ns ms)) s from⟨(λx=>nomatch x),h⟩⟩ hu
theorem afg{Q:Value->Shared->Prop}(ht:IsTup s.heap t vs.toArray)(hb:IsTup s.heap b ws.toArray)(hv:vs≠[])
  (h1:ws=[]->Q (.ref t) s) (h2:ws≠[]->Q (.ref s.heap.objs.size) {s with heap:=s.heap.push {cls:= .type "tuple",data:= .seq (vs++ws).toArray}})
  (hsz:vs.length+ws.length<=sizeLine):wpAny (model prog w) A (binaryOp .Add (.ref t) (.ref b)) Q E s:=by
 obtain⟨⟨cls,dd,data,sl⟩,ho,hc,n,hd⟩:=id ht
 obtain⟨⟨cls2,dd2,data2,sl2⟩,ho2,hc2,n2,hd2⟩:=id hb
 simp only at hc hd hc2 hd2
 subst hc hd hc2 hd2
 have e:vs.toArray++ws.toArray=(vs++ws).toArray:=by simp
 by_cases hw:ws=[]
 ·exact concat_meets ⟨_,ho,rfl⟩ ⟨_,ho2,rfl⟩ noFill_tuple_add seq_tuple_add PySem.F.slot_tuple_add PySem.F.entry_tuple_add (PySem.F.args_tuple_add_2 _ _)
   (tuple_addW1 t b vs.toArray ws.toArray n n2 dd dd2 sl sl2 (by simpa using hv) (by simp[hw])) ⟨ho,ho2,h1 hw⟩
 ·refine concat_meets ⟨_,ho,rfl⟩ ⟨_,ho2,rfl⟩ noFill_tuple_add seq_tuple_add PySem.F.slot_tuple_add PySem.F.entry_tuple_add (PySem.F.args_tuple_add_2 _ _)
   (tuple_addW2 t b vs.toArray ws.toArray n n2 dd dd2 sl sl2 (by simpa using hv) (by simpa using hw) (by rw[List.size_toArray,List.size_toArray];exact hsz)) ⟨ho,ho2,?_⟩
  rw[e]
  exact h2 hw
noncomputable def jg(n d:Nat):Option Int->Nat
 | none=>d
 | some v=>if v<0 then(v+(n:Int)).toNat else min v.toNat n
theorem agz(n d:Nat)(hd:d<=n)(o:Option Int):jg n d o<=n:=by
 cases o with
 | none=>exact hd
 | some v=>
  show(if v<0 then(v+(n:Int)).toNat else min v.toNat n)<=n
  by_cases hv:v<0
  ·rw[if_pos hv];lia
  ·rw[if_neg hv];exact Nat.min_le_right _ _
theorem Zx(v:Int)(n d:Nat):(if v<0 then max (v+(n:Int)) 0 else min v (n:Int))=((jg n d (some v):Nat):Int):=by
 show(if v<0 then max (v+(n:Int)) 0 else min v (n:Int))=(((if v<0 then(v+(n:Int)).toNat else min v.toNat n):Nat):Int)
 by_cases hv:v<0
 ·simp only[if_pos hv];lia
 ·simp only[if_neg hv];lia
theorem Yn(lo hi:Option Int)(n:Nat):Builtin.Slice.sliceAdjust lo hi 1 (n:Int)=(((jg n 0 lo:Nat):Int),((jg n n hi:Nat):Int)):=by
 have h1:¬((1:Int)<0):=()
 unfold Builtin.Slice.sliceAdjust
 simp only[h1,if_false]
 refine Prod.ext ?_ ?_
 ·cases lo with
  | none=>rfl
  | some v=>exact Zx v n 0
 ·cases hi with
  | none=>rfl
  | some v=>exact Zx v n n
theorem W5(i j:Nat):Builtin.Slice.slicePlaces (i:Int) (j:Int) 1=j - i:=by
 unfold Builtin.Slice.slicePlaces
 have h1:(1:Int) > 0:=()
 simp only[h1,if_true,Int.ediv_one]
 split<;>lia
theorem Mq{Q:Option Int->Shared->Prop}(p:IsPart v o)(h:Q o s):wpAny (model prog w) A (Builtin.Slice.slicePartIndex v) Q E s:=by
 cases p with
 | none=>exact slicePart_none h
 | int i t=>exact slicePart_int h
theorem Jl{lo hi:Option Int}{n:Nat}{Q:Int×Int×Nat->Shared->Prop}(hs:s.heap.IsSliceOf sl vl vu .none)(pl:IsPart vl lo)(pu:IsPart vu hi)
  (h:Q (((jg n 0 lo:Nat):Int),1,jg n n hi - jg n 0 lo) s):wpAny (model prog w) A (Builtin.Slice.sliceApplied (.ref sl) (pure (n:Int))) Q E s:=by
 obtain⟨os,hos,hcs,hds⟩:=id hs
 unfold Builtin.Slice.sliceApplied Builtin.Slice.sliceFields
 refine zC (zC (vS hos hds (x:=vl) rfl (zC (vS hos hds (x:=vu) rfl (zC (vS hos hds (x:= .none) rfl (zI ?_)))))))
 refine zC (slicePart_none ?_)
 show wpAny _ _ (if((1:Int)==0)=true then _ else _) _ _ s
 rw[if_neg (by decide)]
 refine zC (Mq pl (zC (Mq pu (zC (zI ?_)))))
 show wpAny _ _ (match Builtin.Slice.sliceAdjust lo hi 1 (n:Int)with | (lo,hi)=>pure (lo,(1:Int),Builtin.Slice.slicePlaces lo hi 1)) _ _ s
 rw[Yn lo hi n]
 show wpAny _ _ (pure (((jg n 0 lo:Nat):Int),(1:Int),Builtin.Slice.slicePlaces ((jg n 0 lo:Nat):Int) ((jg n n hi:Nat):Int) 1)) _ _ s
 rw[W5]
 exact zI h
theorem acv(xs:Array Value)(i k:Nat):((List.range k).filterMap λ(m:Nat)=>xs[((i:Int)+(m:Int)*1).toNat]?).toArray=((xs.toList.drop i).take k).toArray:=by
 have e:(λ(m:Nat)=>xs[((i:Int)+(m:Int)*1).toNat]?)=λm=>xs[i+m]? := by
  funext m
  have:((i:Int)+(m:Int)*1).toNat=i+m:=()
  rw[this]
 rw[e]
 have:=pick_run xs i k
 rw[List.filterMap_map]at this
 have e2:((λx=>xs[x]?)∘λx=>i+x)=λm=>xs[i+m]? := rfl
 rw[e2]at this
 rw[this]
theorem HR{items:Array Value}{lo hi:Option Int}{Q:Value->Shared->Prop}(ht:IsTup s.heap t items)(hs:s.heap.IsSliceOf sl vl vu .none)(pl:IsPart vl lo)(pu:IsPart vu hi)
  (hw:¬(jg items.size 0 lo=0/\jg items.size items.size hi=items.size))
  (h:Q (.ref s.heap.objs.size) {s with heap:=s.heap.push {cls:= .type "tuple",data:= .seq ((items.toList.drop (jg items.size 0 lo)).take (jg items.size items.size hi - jg items.size 0 lo)).toArray}})
  (hsz:items.size<=sizeLine):wpAny (model prog w) A (getItem (.ref t) (.ref sl)) Q E s:=by
 have Zj:sizeOk (.seq ((items.toList.drop (jg items.size 0 lo)).take (jg items.size items.size hi - jg items.size 0 lo)).toArray):=by
  show((items.toList.drop (jg items.size 0 lo)).take (jg items.size items.size hi - jg items.size 0 lo)).toArray.size<=sizeLine
  rw[List.size_toArray,List.length_take,List.length_drop,Array.length_toList]
  lia
 have hj:jg items.size items.size hi<=items.size:=agz _ _ (zab _) hi
 obtain⟨os,hos,hcs,hds⟩:=id hs
 have hTs:s.TypeIs (.ref sl) "slice" := ⟨os,hos,hcs⟩
 unfold getItem
 try with_reducible refine wpAny_holding ?_
 first | refine zC (zI ?_) | skip
 refine zC (wpAny_sequenceKey ht.typeIs (by decide) ?_)
 refine zC (zah (name:=Str.ofString "__getitem__") ht.typeIs PyProof.Rows.slot_tuple_getitem
  (jI PyProof.Rows.slot_tuple_getitem ht.typeIs entry_tuple_getitem ?_ (args_tuple_getitem _ _)))
 show wpAny _ _ (Builtin.Tuple.tupleItemsOf (.ref t) >>= _) _ _ s
 refine zC (tupleItemsOf_ ht ?_)
 refine zC (wpAny_typeOf hTs ?_)
 rw[if_pos (by decide)]
 refine zC (Jl hs pl pu ?_)
 have hno:¬((((jg items.size 0 lo:Nat):Int)==0&&(1:Int)==1&&(jg items.size items.size hi - jg items.size 0 lo)==items.size)=true):=by
  intro q
  rw[Bool.and_eq_true,Bool.and_eq_true]at q
  have q1:((jg items.size 0 lo:Nat):Int)=0:=eq_of_beq q.1.1
  have q2:jg items.size items.size hi - jg items.size 0 lo=items.size:=eq_of_beq q.2
  exact hw ⟨(),()⟩
 show wpAny _ _ (if(((jg items.size 0 lo:Nat):Int)==0&&(1:Int)==1&&(jg items.size items.size hi - jg items.size 0 lo)==items.size)=true then _ else _) _ _ s
 rw[if_neg hno,acv]
 first
  | exact zC (m:=Builtin.Tuple.tupleExact _) (wS (zI ⟨_,rfl,zI h⟩) Zj)
  | exact zC (m:=Builtin.Tuple.tupleExact _) (wS (zC (zI (zI ⟨_,rfl,zI h⟩))) Zj)
  | exact zC (zC (m:=Builtin.Tuple.tupleExact _) (wS (zI (zI ⟨_,rfl,zI h⟩)) Zj))
  | exact zC (zC (m:=Builtin.Tuple.tupleExact _) (wS (zI ⟨_,rfl,zI h⟩) Zj))
end
end HT
namespace L2
open PySem PySem.Spec PyProof.Rows
abbrev TO:=St->Hp->(Option Int->Hp->Prop)->Prop
def PO(X:Cx)(e:Option Expr)(t:TO):Prop:=
 ∀(pins:List (Addr×Obj)) (s:Shared) (σ:St) (H:Hp) (Q:Option Int->Hp->Prop),Inv X pins σ H s->t σ H Q->
  wpAny (model X.prog X.w) X.A (evalPart e X.env) (λu s'=>∃o H',Inv X pins σ H' s'/\IsPart u o/\Q o H') X.xe s
def adR:TO:=λ_ H Q=>Q none H
def ajJ(t:TE):TO:=λσ H Q=>t σ H λx H1=>∃i,x= .int i/\Q (some i) H1
theorem intsAre_of:∀{us:List Value},Vals (ns.map V.int) us->IntsAre us ns:=by
 induction ns with
 | nil=>intro us r;rw[List.map_nil]at r;cases r;exact .nil
 | cons n ns ih=>
  intro us r
  rw[List.map_cons]at r
  cases r with
  | cons r1 r2=>
   obtain⟨t,e⟩:=r1
   subst e
   exact .cons n t (ih r2)
section
variable{X:Cx}{e:Expr}{te:TE}{lo hi:Option Expr}{tl th:TO}{pos p2:Pos}
theorem aeo:PO X none adR:=by
 intro pins s σ H Q I h
 rw[evalPart_none]
 exact zI ⟨none,H,I,.none,h⟩
theorem aen(h:PE X e te):PO X (some e) (ajJ te):=by
 intro pins s σ H Q I hw
 rw[evalPart_some]
 refine kj (h pins s σ H _ I hw) ?_
 rintro u s1 ⟨x,H1,I1,r1,q1⟩
 obtain⟨i,rfl,q⟩:=q1
 obtain⟨t,rfl⟩:=r1
 exact⟨some i,H1,I1,.int i t,q⟩
def SlR(X:Cx)(r:V->Option Int->Option Int->Hp->VK->Prop):Prop:=
 ∀(pins:List (Addr×Obj)) (s:Shared) (σ:St) (H:Hp) (x:V) (v vl vu:Value) (lo hi:Option Int) (sl:Addr) (Q:VK),Inv X pins σ H s->RelV x v->s.heap.IsSliceOf sl vl vu .none->IsPart vl lo->IsPart vu hi->r x lo hi H Q->
  ∃T id,typeLookup (.type T) "__getitem__" = pure (some (.builtin id))/\s.TypeIs v T/\wpAny (model X.prog X.w) X.A (getItem v (.ref sl)) (EP X pins σ Q) X.xe s
theorem SlR.or{r r':V->Option Int->Option Int->Hp->VK->Prop}(h:SlR X r)(h':SlR X r'):SlR X (λx lo hi H Q=>r x lo hi H Q\/r' x lo hi H Q):=by
 intro pins s σ H x v vl vu lo hi sl Q I rx hs pl pu q
 rcases q with q | q
 ·exact h pins s σ H x v vl vu lo hi sl Q I rx hs pl pu q
 ·exact h' pins s σ H x v vl vu lo hi sl Q I rx hs pl pu q
def tSl(r:V->Option Int->Option Int->Hp->VK->Prop)(te:TE)(tl th:TO):TE:=λσ H Q=>te σ H λx H1=>tl σ H1 λl H2=>th σ H2 λu H3=>r x l u H3 Q
theorem acz{r:V->Option Int->Option Int->Hp->VK->Prop}(hr:SlR X r)(he:PE X e te)(hl:PO X lo tl)(hu:PO X hi th):PE X (.Subscript e (.Slice lo hi none p2) pos) (tSl r te tl th):=by
 intro pins s σ H Q I h
 refine Subscript_ (kj (he pins s σ H _ I h) ?_)
 rintro v s1 ⟨x,H1,I1,r1,q1⟩
 refine wpAny_Slice (kj (hl pins s1 σ H1 _ I1 q1) ?_)
 rintro vl s2 ⟨l,H2,I2,pl,q2⟩
 refine kj (hu pins s2 σ H2 _ I2 q2) ?_
 rintro vu s3 ⟨u,H3,I3,pu,q3⟩
 rw[evalPart_none]
 refine zI ?_
 have I4:Inv X pins σ H3 {s3 with heap:=s3.heap.push {cls:= .type "slice",data:= .fields #[vl,vu,.none]}}:=I3.kept (t':=s3.toks) λb ob q=>zD _ q
 obtain⟨T,id,hT,ht,hg⟩:=hr pins {s3 with heap:=s3.heap.push {cls:= .type "slice",data:= .fields #[vl,vu,.none]}} σ H3 x v vl vu l u s3.heap.objs.size Q I4 r1 (Heap.IsSliceOf.new ..) pl pu q3
 show wpAny (model X.prog X.w) X.A (subscriptTail e (.Slice lo hi none p2) v (.ref s3.heap.objs.size)) (EP X pins σ Q) X.xe {s3 with heap:=s3.heap.push {cls:= .type "slice",data:= .fields #[vl,vu,.none]}}
 exact tail_any (ops:=[.ref s3.heap.objs.size,v]) ht hT hg (by with_unfolding_all rfl)
noncomputable def VF(xs:List V)(lo hi:Option Int):List V:=(xs.drop (HT.jg xs.length 0 lo)).take (HT.jg xs.length xs.length hi - HT.jg xs.length 0 lo)
theorem KN(xs:List V)(lo hi:Option Int):(VF xs lo hi).length<=xs.length:=by
 unfold VF
 rw[List.length_take,List.length_drop]
 lia
def awk(K:Frag):V->Option Int->Option Int->Hp->VK->Prop:=λx lo hi H Q=>∃a xs,x= .ref a/\zG K H a xs/\
 ¬(HT.jg xs.length 0 lo=0/\HT.jg xs.length xs.length hi=xs.length)/\∀p,H p=none->Q (.ref p) (upd H p (.tup (VF xs lo hi)))
theorem agl:SlR X (awk X.K):=by
 intro pins s σ H x v vl vu lo hi sl Q I rx hs pl pu h
 obtain⟨a,xs,rfl,hx,hw,q⟩:=h
 cases rx
 obtain⟨its,r,ht,hz⟩:=I.tuple hx
 have hlen:its.toArray.size=xs.length:=by rw[List.size_toArray];exact r.length.symm
 refine⟨"tuple",_,PyProof.Rows.slot_tuple_getitem.lookup,ht.typeIs,?_⟩
 refine HT.HR ht hs pl pu (by rw[hlen];exact hw) ?_ (by rw[hlen];exact hz)
 rw[hlen]
 refine⟨.ref s.heap.objs.size,_,I.laid (t':=s.toks) (o:= .tup (VF xs lo hi)) (λb ob q=>zD _ q) (zab _) ?_,rfl,q _ (I.hok.fresh (zab _))⟩
 exact⟨yY (KN xs lo hi) hz,_,(r.drop (HT.jg xs.length 0 lo)).take (HT.jg xs.length xs.length hi - HT.jg xs.length 0 lo),IsTup.new _ _⟩
def awo(K:Frag):R2:=λx y H Q=>∃a b ns ms,x= .ref a/\y= .ref b/\zG K H a (ns.map V.int)/\zG K H b (ms.map V.int)/\Q (.bl (HT.lexLt ns ms)) H
theorem ahg(hu:X.A.units<cLine):Bg X (compareOp .Lt) (awo X.K):=by
 intro pins s σ H x y v u Q I rx ry h
 obtain⟨a,b,ns,ms,rfl,rfl,ha,hb,q⟩:=h
 cases rx
 cases ry
 obtain⟨its,r1,p1,_⟩:=I.tuple ha
 obtain⟨its2,r2,p2,_⟩:=I.tuple hb
 have i1:IntsAre its.toArray.toList ns:=intsAre_of r1
 have i2:IntsAre its2.toArray.toList ms:=intsAre_of r2
 exact HT.Xk p1 p2 i1 i2 hu ⟨.bl (HT.lexLt ns ms),H,I,rfl,q⟩
def akm(K:Frag):R2:=λx y H Q=>∃a b xs ys,x= .ref a/\y= .ref b/\zG K H a xs/\zG K H b ys/\xs≠[]/\xs.length+ys.length<=sizeLine/\
 (ys=[]->Q (.ref a) H)/\(ys≠[]->∀p,H p=none->Q (.ref p) (upd H p (.tup (xs++ys))))
theorem Vals.Ss(r:Vals xs us):us=[]↔xs=[]:=by
 cases r with
 | nil=>simp
 | cons _ _=>simp
theorem aew:Bg X (binaryOp .Add) (akm X.K):=by
 intro pins s σ H x y v u Q I rx ry h
 obtain⟨a,b,xs,ys,rfl,rfl,ha,hb,hx,hz,q1,q2⟩:=h
 cases rx
 cases ry
 obtain⟨its,r1,p1,_⟩:=I.tuple ha
 obtain⟨its2,r2,p2,_⟩:=I.tuple hb
 refine HT.afg p1 p2 (λz=>hx (r1.Ss.mp z)) (λz=>⟨.ref a,H,I,rfl,q1 (r2.Ss.mp z)⟩) (λz=> ?_) (by rw[<-r1.length,<-r2.length];exact hz)
 refine⟨.ref s.heap.objs.size,_,I.laid (t':=s.toks) (o:= .tup (xs++ys)) (λb ob q=>zD _ q) (zab _) ?_,rfl,q2 (λw=>z (r2.Ss.mpr w)) _ (I.hok.fresh (zab _))⟩
 exact⟨by rw[List.length_append];exact hz,_,r1.append r2,IsTup.new _ _⟩
end
noncomputable def ixN(n:Nat)(i:Int):Option Nat:=if 0<=i then(if i<n then some i.toNat else none)else if -(n:Int)<=i then some (i+n).toNat else none
noncomputable def Ug{α:Type}(xs:List α)(i:Int):Option α:=(ixN xs.length i).bind λj=>xs[j]?
theorem aeU(h:ixN n i=some j):seqIndex? i n=some j/\j<n/\ -(n:Int)<=i/\i<n:=by
 unfold ixN at h
 by_cases h0:0<=i
 ·rw[if_pos h0]at h
  by_cases h1:i<n
  ·rw[if_pos h1]at h
   have e:i.toNat=j:=xI h
   exact⟨by rw[seqIndex_of h0 h1,e],(),(),h1⟩
  ·rw[if_neg h1]at h;cases h
 ·rw[if_neg h0]at h
  by_cases h1: -(n:Int)<=i
  ·rw[if_pos h1]at h
   have e:(i+n).toNat=j:=xI h
   exact⟨by rw[seqIndex_neg () h1,e],(),h1,()⟩
  ·rw[if_neg h1]at h;cases h
theorem Ue{α:Type}{xs:List α}{i:Int}{v:α}(h:Ug xs i=some v):∃j,seqIndex? i xs.length=some j/\xs[j]? = some v/\j<xs.length/\ -(xs.length:Int)<=i/\i<xs.length:=by
 unfold Ug at h
 cases e:ixN xs.length i with
 | none=>rw[e]at h;cases h
 | some j=>
  rw[e]at h
  obtain⟨h1,h2,h3,h4⟩:=aeU e
  exact⟨j,h1,h,h2,h3,h4⟩
def ZG(b:Expr):Prop:=∀o i,subscripted b false o i=operate [o,i] (getItem o i)
def IxR(X:Cx)(r:R2):Prop:=
 ∀(value slice:Expr) (pins:List (Addr×Obj)) (s:Shared) (σ:St) (H:Hp) (x y:V) (v u:Value) (Q:VK),Inv X pins σ H s->RelV x v->RelV y u->r x y H Q->
  subscripted slice false v u=operate [v,u] (getItem v u)->wpAny (model X.prog X.w) X.A (subscriptTail value slice v u) (EP X pins σ Q) X.xe s
def MtR(X:Cx)(id:String)(r:V->List V->Hp->VK->Prop):Prop:=
 ∀(pins:List (Addr×Obj)) (s:Shared) (σ:St) (H:Hp) (x:V) (xs:List V) (v:Value) (us:List Value) (Q:VK),Inv X pins σ H s->RelV x v->Vals xs us->r x xs H Q->
  wpAny (model X.prog X.w) X.A (call (.builtin id) (v::us)) (EP X pins σ Q) X.xe s
section
variable{X:Cx}{a b:Expr}{ta tb:TE}{pos:Pos}
theorem IxR.or(h:IxR X r)(h':IxR X r'):IxR X (λx y H Q=>r x y H Q\/r' x y H Q):=by
 intro value slice pins s σ H x y v u Q I rx ry q hs
 rcases q with q | q
 ·exact h value slice pins s σ H x y v u Q I rx ry q hs
 ·exact h' value slice pins s σ H x y v u Q I rx ry q hs
theorem aln(hr:IxR X r)(ha:PE X a ta)(hb:PE X b tb)(hs:ZG b):PE X (.Subscript a b pos) (tOp r ta tb):=by
 intro pins s σ H Q I h
 exact Subscript_ (aiV ha hb I h λv u s2 x y H2 I2 rx ry q=>hr a b pins s2 σ H2 x y v u Q I2 rx ry q (hs _ _))
def akj(K:Frag):R2:=λx y H Q=>∃p xs i v,x= .ref p/\y= .int i/\Ew K H p xs/\Ug xs i=some v/\Q v H
def akh(K:Frag):R2:=λx y H Q=>∃p xs i v,x= .ref p/\y= .int i/\zG K H p xs/\Ug xs i=some v/\Q v H
def aki:R2:=λx y H Q=>∃z i c,x= .str z/\y= .int i/\z.length<=sizeLine/\Ug z.cps.toList i=some c/\Q (.str ⟨#[c]⟩) H
theorem aeS:IxR X (akj X.K):=by
 intro value slice pins s σ H x y v u Q I rx ry h hs
 obtain⟨p,xs,i,z,rfl,rfl,hq,he,q⟩:=h
 cases rx
 obtain⟨t,rfl⟩:=ry
 obtain⟨its,r,pl,hz⟩:=I.list hq
 obtain⟨j,h1,h2,h3,h4,h5⟩:=Ue he
 obtain⟨w,ew,rw'⟩:=r.get h2
 have hl:=r.length
 have hn:=Od
 have fin:EP X pins σ Q w s:=⟨z,H,I,rw',q⟩
 by_cases h0:0<=i
 ·have hj:i.toNat=j:=by
   rw[seqIndex_of h0 h5]at h1
   exact xI h1
  exact item_listR pl.isList h0 () (by rw[hj];simpa using ew) fin hs
 ·have hj:(i+(its.toArray.size:Int)).toNat=j:=by
   rw[seqIndex_neg () h4]at h1
   rw[List.size_toArray,<-hl]
   exact xI h1
  exact subscriptTail_builtinR (x:=w) pl.isList.typeIs slot_list_getitem.lookup
   (wpAny_getItem_list_neg (Q:=λr s'=>r=w/\EP X pins σ Q r s') pl.isList () (by rw[List.size_toArray]<;>lia) () (by rw[hj];simpa using ew) ⟨rfl,fin⟩) hs
theorem ahM:IxR X (akh X.K):=by
 intro value slice pins s σ H x y v u Q I rx ry h hs
 obtain⟨p,xs,i,z,rfl,rfl,hq,he,q⟩:=h
 cases rx
 obtain⟨t,rfl⟩:=ry
 obtain⟨its,r,pl,hz⟩:=I.tuple hq
 obtain⟨j,h1,h2,h3,h4,h5⟩:=Ue he
 obtain⟨w,ew,rw'⟩:=r.get h2
 have hl:=r.length
 have hn:=Od
 have fin:EP X pins σ Q w s:=⟨z,H,I,rw',q⟩
 exact subscriptTail_builtinR (x:=w) pl.typeIs slot_tuple_getitem.lookup
  (getItem_tuple (j:=j) (Q:=λr s'=>r=w/\EP X pins σ Q r s') pl () () (by rw[List.size_toArray,<-hl];exact h1) (by simpa using ew) ⟨rfl,fin⟩) hs
theorem ahN:IxR X aki:=by
 intro value slice pins s σ H x y v u Q I rx ry h hs
 obtain⟨z,i,c,rfl,rfl,hz,he,q⟩:=h
 obtain⟨t,rfl⟩:=rx
 obtain⟨t',rfl⟩:=ry
 obtain⟨j,h1,h2,h3,h4,h5⟩:=Ue he
 have hl:z.cps.toList.length=z.length:=by simp[Str.length]
 rw[hl]at h1 h4 h5
 have hn:=Od
 exact tail_any (typeIs_str s z t) slot_str_getitem.lookup (getItem_str (c:=c) (by
  have e1:decide (i< -(2 ^ 63:Int))=false:=zaf ()
  have e2:decide (i>=2 ^ 63)=false:=zaf ()
  rw[e1,e2,Bool.or_false]) (by rw[h1];simpa using h2) ⟨.str ⟨#[c]⟩,H,I.tok _,⟨_,rfl⟩,q⟩) hs
theorem Rv(lo hi:Option Int)(n:Nat):(sliceBounds lo hi none n).1=((HT.jg n 0 lo:Nat):Int)/\(sliceBounds lo hi none n).2.1=((HT.jg n n hi:Nat):Int)/\(sliceBounds lo hi none n).2.2=1:=by
 refine⟨?_,?_,rfl⟩
 ·cases lo with
  | none=>simp[sliceBounds,HT.jg]
  | some i=>
   simp only[sliceBounds,HT.jg,Option.getD_none,show(1:Int) > 0 by decide,if_true]
   by_cases h:i<0
   ·simp only[h,if_true]<;>lia
   ·simp only[h,if_false]<;>lia
 ·cases hi with
  | none=>simp[sliceBounds,HT.jg]
  | some i=>
   simp only[sliceBounds,HT.jg,Option.getD_none,show(1:Int) > 0 by decide,if_true]
   by_cases h:i<0
   ·simp only[h,if_true]<;>lia
   ·simp only[h,if_false]<;>lia
theorem Py(its:List Value)(lo hi:Option Int):slicePick its.toArray lo hi none=((its.drop (HT.jg its.length 0 lo)).take (HT.jg its.length its.length hi - HT.jg its.length 0 lo)).toArray:=by
 obtain⟨h1,h2,h3⟩:=Rv lo hi its.toArray.size
 unfold slicePick
 rw[h1,h2,h3]
 simp only[sliceRange_one,pick_run,List.size_toArray]<;>rfl
def awm(K:Frag):V->Option Int->Option Int->Hp->VK->Prop:=λx lo hi H Q=>∃a xs,x= .ref a/\Ew K H a xs/\∀p,H p=none->Q (.ref p) (upd H p (.lst (VF xs lo hi)))
theorem adX:SlR X (awm X.K):=by
 intro pins s σ H x v vl vu lo hi sl Q I rx hs pl pu h
 obtain⟨a,xs,rfl,hx,q⟩:=h
 cases rx
 obtain⟨its,r,ht,hz⟩:=I.list hx
 have hlen:=r.length
 refine⟨"list",_,slot_list_getitem.lookup,ht.isList.typeIs,?_⟩
 refine wpAny_getItem_list_slice ht.isList hs pl pu .none (by simp) ?_ (by rw[List.size_toArray]<;>lia)
 rw[Py,<-hlen]
 refine⟨.ref s.heap.objs.size,_,I.laid (t':=s.toks) (o:= .lst (VF xs lo hi)) (λb ob q=>zD _ q) (zab _) ?_,rfl,q _ (I.hok.fresh (zab _))⟩
 exact⟨yY (KN xs lo hi) hz,_,0,(r.drop (HT.jg xs.length 0 lo)).take (HT.jg xs.length xs.length hi - HT.jg xs.length 0 lo),yB _ rfl⟩
noncomputable def FT:V->Bool
 | .non=>true
 | .bl _=>true
 | .int _=>true
 | .str _=>true
 | _=>false
noncomputable def eqV:V->V->Bool
 | .non,.non=>true
 | .bl a,.bl b=>a==b
 | .bl a,.int b=>(if a then 1 else 0)==b
 | .int a,.bl b=>a==(if b then 1 else 0)
 | .int a,.int b=>a==b
 | .str a,.str b=>a==b
 | _,_=>false
theorem ahS(ry:RelV y u)(rx:RelV x v)(fy:FT y=true)(fx:FT x=true):SeqAt.EqAt A s u v (eqV y x):=by
 cases y with
 | non=>
  cases ry
  cases x with
  | non=>cases rx;exact SeqAt.EqAt.same _
  | bl b=>cases rx;exact SeqAt.EqAt.none_bool b
  | int b=>obtain⟨t,rfl⟩:=rx;exact SeqAt.EqAt.none_int b t
  | str b=>obtain⟨t,rfl⟩:=rx;exact SeqAt.EqAt.none_str b t
  | _=>exact absurd (show false=true from fx) xA
 | bl a=>
  cases ry
  cases x with
  | non=>cases rx;exact SeqAt.EqAt.bool_none a
  | bl b=>cases rx;exact SeqAt.EqAt.bool_bool a b
  | int b=>obtain⟨t,rfl⟩:=rx;exact SeqAt.EqAt.bool_int a b t
  | str b=>obtain⟨t,rfl⟩:=rx;exact SeqAt.EqAt.bool_str a b t
  | _=>exact absurd (show false=true from fx) xA
 | int a=>
  obtain⟨t',rfl⟩:=ry
  cases x with
  | non=>cases rx;exact SeqAt.EqAt.int_none a t'
  | bl b=>cases rx;exact SeqAt.EqAt.int_bool a t' b
  | int b=>obtain⟨t,rfl⟩:=rx;exact SeqAt.EqAt.int_int a t' b t
  | str b=>obtain⟨t,rfl⟩:=rx;exact SeqAt.EqAt.int_str a t' b t
  | _=>exact absurd (show false=true from fx) xA
 | str a=>
  obtain⟨t',rfl⟩:=ry
  cases x with
  | non=>cases rx;exact SeqAt.EqAt.str_none a t'
  | bl b=>cases rx;exact SeqAt.EqAt.str_bool a t' b
  | int b=>obtain⟨t,rfl⟩:=rx;exact SeqAt.EqAt.str_int a t' b t
  | str b=>obtain⟨t,rfl⟩:=rx;exact SeqAt.EqAt.str_str a t' b t
  | _=>exact absurd (show false=true from fx) xA
 | _=>exact absurd (show false=true from fy) xA
noncomputable def eqU(x:V)(u:Value):Bool:=match u with
 | .none=>eqV .non x
 | .bool b=>eqV (.bl b) x
 | .int i _=>eqV (.int i) x
 | .str z _=>eqV (.str z) x
 | _=>false
theorem adg(r:RelV y u)(f:FT y=true):eqU x u=eqV y x:=by
 cases y with
 | non=>cases r;rfl
 | bl b=>cases r;rfl
 | int i=>obtain⟨t,rfl⟩:=r;rfl
 | str z=>obtain⟨t,rfl⟩:=r;rfl
 | _=>exact absurd (show false=true from f) xA
theorem Uh:∀{xs:List V} {us:List Value},Vals xs us->xs.all FT=true->us.any (eqU x)=xs.any λy=>eqV y x
 | _,_,.nil,_=>rfl
 | y::xs,u::us,.cons r t,f=>by
  rw[List.all_cons,Bool.and_eq_true]at f
  rw[List.any_cons,List.any_cons,adg r f.1,Uh t f.2]
theorem NT(rx:RelV x v)(fx:FT x=true):∀{xs:List V} {us:List Value},Vals xs us->xs.all FT=true->∀u∈us,SeqAt.EqAt A s u v (eqU x u)
 | _,_,.nil,_=>λu hu=>by cases hu
 | y::xs,u::us,.cons r t,f=>λu' hu=>by
  rw[List.all_cons,Bool.and_eq_true]at f
  rcases List.mem_cons.mp hu with rfl | hu
  ·rw[adg r f.1];exact ahS r rx f.1 fx
  ·exact NT rx fx t f.2 u' hu
noncomputable def inV(x:V)(xs:List V):Bool:=xs.any λy=>eqV y x
def rIn(K:Frag)(neg:Bool):R2:=λx y H Q=>∃p xs,y= .ref p/\(Ew K H p xs\/zG K H p xs)/\FT x=true/\xs.all FT=true/\Q (.bl (if neg then !inV x xs else inV x xs)) H
theorem aau:Bg X (compareOp .In) (rIn X.K false):=by
 intro pins s σ H x y v u Q I rx ry h
 obtain⟨p,xs,rfl,hq,fx,fs,q⟩:=h
 cases ry
 rcases hq with hq | hq
 ·obtain⟨its,r,pl,hz⟩:=I.list hq
  refine SeqAt.in_listAt (eqU x) pl.isList (λw hw=>NT rx fx r fs w (by simpa using hw)) ⟨.bl _,H,I,rfl,?_⟩
  rw[show its.toArray.any (eqU x)=its.any (eqU x) by simp,Uh r fs]
  exact q
 ·obtain⟨its,r,pl,hz⟩:=I.tuple hq
  refine SeqAt.in_tupleAt (eqU x) pl (λw hw=>NT rx fx r fs w (by simpa using hw)) ⟨.bl _,H,I,rfl,?_⟩
  rw[show its.toArray.any (eqU x)=its.any (eqU x) by simp,Uh r fs]
  exact q
theorem T9:qU X (.builtin "len") (λxs H Q=>∃p ys,xs=[.ref p]/\(Ew X.K H p ys\/zG X.K H p ys)/\Q (.int ys.length) H):=by
 intro pins s σ H xs us Q I r h
 obtain⟨p,ys,rfl,hq,q⟩:=h
 obtain⟨u,rfl,rx⟩:=vals1 r
 cases rx
 have hn:=Od
 rcases hq with hq | hq
 ·obtain⟨its,r',pl,hz⟩:=I.list hq
  have hlen:=r'.length
  exact Calls.call_len_list pl.isList (by simp only[List.size_toArray]<;>lia) ⟨.int ys.length,H,I.tok _,⟨s.toks+1,by rw[List.size_toArray,hlen]⟩,q⟩
 ·obtain⟨its,r',pl,hz⟩:=I.tuple hq
  have hlen:=r'.length
  exact len_tuple pl (by simp only[List.size_toArray]<;>lia) ⟨.int ys.length,H,I.tok _,⟨s.toks+1,by rw[List.size_toArray,hlen]⟩,q⟩
theorem T8:qU X (.builtin "len") (λxs H Q=>∃z,xs=[.str z]/\z.length<=sizeLine/\Q (.int z.length) H):=by
 intro pins s σ H xs us Q I r h
 obtain⟨z,rfl,hz,q⟩:=h
 obtain⟨u,rfl,t,rfl⟩:=vals1 r
 have hn:=Od
 exact len_str () ⟨.int z.length,H,I.tok _,⟨_,rfl⟩,q⟩
theorem qU.or{r r':List V->Hp->VK->Prop}(h:qU X f r)(h':qU X f r'):qU X f (λxs H Q=>r xs H Q\/r' xs H Q):=by
 intro pins s σ H xs us Q I rs q
 rcases q with q | q
 ·exact h pins s σ H xs us Q I rs q
 ·exact h' pins s σ H xs us Q I rs q
theorem T7:qU X (.type "list") (λxs H Q=>∃p ys,xs=[.ref p]/\(Ew X.K H p ys\/zG X.K H p ys)/\∀l,H l=none->Q (.ref l) (upd H l (.lst ys))):=by
 intro pins s σ H xs us Q I r h
 obtain⟨p,ys,rfl,hq,q⟩:=h
 obtain⟨u,rfl,rx⟩:=vals1 r
 cases rx
 have fin:∀(its:List Value),Vals ys its->ys.length<=sizeLine->∀(h':Heap) (c':Nat),(∀b o',s.heap.get? b=some o'->h'.get? b=some o')->
   h'.get? s.heap.objs.size=some {cls:= .type "list",dict:=none,data:= .seq its.toArray c',slots:= #[]}->EP X pins σ Q (.ref s.heap.objs.size) {s with heap:=h'}:=λits r' hz h' c' kp e=>
  ⟨.ref s.heap.objs.size,_,I.laid (t':=s.toks) kp (zab _) (show bT X.prog X.w _ h' _ (.lst ys)from⟨hz,its,c',r',e⟩),rfl,q _ (I.hok.fresh (zab _))⟩
 rcases hq with hq | hq
 ·obtain⟨its,r',pl,hz⟩:=I.list hq
  have hlen:=r'.length
  obtain⟨o,ho,hc,n,hd⟩:=pl.isList
  exact call_list_seq p (.inl rfl) ho hc hd (λh' c' kp e=>fin its r' hz h' c' kp e) (by simp only[List.size_toArray]<;>lia)
 ·obtain⟨its,r',pl,hz⟩:=I.tuple hq
  have hlen:=r'.length
  obtain⟨o,ho,hc,n,hd⟩:=pl
  exact call_list_seq p (.inr rfl) ho hc hd (λh' c' kp e=>fin its r' hz h' c' kp e) (by simp only[List.size_toArray]<;>lia)
theorem Qe:qU X (.type "tuple") (λxs H Q=>∃p ys,xs=[.ref p]/\((Ew X.K H p ys/\∀l,H l=none->Q (.ref l) (upd H l (.tup ys)))\/(zG X.K H p ys/\Q (.ref p) H))):=by
 intro pins s σ H xs us Q I r h
 obtain⟨p,ys,rfl,h⟩:=h
 obtain⟨u,rfl,rx⟩:=vals1 r
 cases rx
 rcases h with⟨hq,q⟩ | ⟨hq,q⟩
 ·obtain⟨its,r',pl,hz⟩:=I.list hq
  have hlen:=r'.length
  refine call_tuple_list pl.isList (λh' kp=> ?_) (by simp only[List.size_toArray]<;>lia)
  have I1:Inv X pins σ H {s with heap:=h'}:=I.kept (t':=s.toks) kp
  have I2:Inv X pins σ (upd H h'.objs.size (.tup ys)) {s with heap:=h'.push {cls:= .type "tuple",data:= .seq its.toArray}}:=
   I1.laid (t':=s.toks) (λb o e=>zD _ e) (zab _) (show bT X.prog X.w _ _ _ (.tup ys)from⟨hz,its,r',IsTup.new _ _⟩)
  exact⟨.ref h'.objs.size,_,I2,rfl,q _ (I1.hok.fresh (zab _))⟩
 ·obtain⟨its,r',pl,hz⟩:=I.tuple hq
  exact call_tuple_same pl ⟨.ref p,H,I,rfl,q⟩
def tyV(K:Frag)(T:String)(x:V)(H:Hp):Prop:=match x with
 | .str _=>T= "str"
 | .int _=>T= "int"
 | .ref p=>(T= "list" /\ ∃xs,Ew K H p xs)\/(T= "tuple" /\ ∃o,K.lookup p=some o/\o.cls= .type "tuple" /\ o.dict=none)\/
   (T= "dict" /\ ((∃kvs,H p=some (.dK kvs))\/∃kvs,H p=some (.dT kvs)))\/(T= "set" /\ ∃S n,H p=some (.set S n))
 | _=>False
theorem abu(I:Inv X pins σ H s)(r:RelV x v)(ty:tyV X.K T x H):
  s.TypeIs v T/\∀a,v= .ref a->∃ob,s.heap.get? a=some ob/\ob.dict=none:=by
 cases x with
 | str z=>
  obtain⟨t,rfl⟩:=r
  cases(show T= "str" from ty)
  exact⟨typeIs_str s z t,λ_ e=>nomatch e⟩
 | int i=>
  obtain⟨t,rfl⟩:=r
  cases(show T= "int" from ty)
  exact⟨typeIs_int s i t,λ_ e=>nomatch e⟩
 | ref p=>
  cases r
  rcases ty with⟨rfl,xs,hq⟩ | ⟨rfl,o,hk,hc,hd⟩ | ⟨rfl,hk⟩ | ⟨rfl,S,n,hk⟩
  ·obtain⟨its,_,pl,_⟩:=I.list hq
   refine⟨pl.isList.typeIs,λa e=> ?_⟩
   cases e
   obtain⟨o,n,e,c,hd,_⟩:=pl
   exact⟨o,e,hd⟩
  ·refine⟨⟨o,I.zb p o hk,hc⟩,λa e=> ?_⟩
   cases e
   exact⟨o,I.zb _ o hk,hd⟩
  ·have z:∃o,s.heap.get? p=some o/\o.ExactDict:=by
    rcases hk with⟨kvs,hk⟩ | ⟨kvs,hk⟩
    ·obtain⟨_,_,_,_,o,_,_,e,ex,_⟩:=I.hok p _ hk
     exact⟨o,e,ex⟩
    ·obtain⟨_,_,_,_,o,_,_,e,ex,_⟩:=I.hok p _ hk
     exact⟨o,e,ex⟩
   obtain⟨o,e,ex⟩:=z
   refine⟨⟨o,e,ex.1⟩,λa e2=> ?_⟩
   cases e2
   exact⟨o,e,ex.2.1⟩
  ·obtain⟨o,_,_,_,e,ex,_⟩:=I.hok p _ hk
   refine⟨⟨o,e,ex.1⟩,λa e2=> ?_⟩
   cases e2
   exact⟨o,e,ex.2.1⟩
 | _=>exact False.elim ty
def avh(K:Frag)(T:String)(r:V->List V->Hp->VK->Prop)(to:TE):TE:=λσ H Q=>to σ H λx H1=>tyV K T x H1/\r x [] H1 Q
def tBM(K:Frag)(T:String)(r:V->List V->Hp->VK->Prop)(to:TE)(t:TA):TE:=λσ H Q=>to σ H λx H1=>tyV K T x H1/\t σ H1 λxs H2=>r x xs H2 Q
variable{o e:Expr}{es:List Expr}{to:TE}{t:TA}{name:Str}{apos cpos:Pos}{T id:String}{r:V->List V->Hp->VK->Prop}
theorem RZ(pa:PlainAttrs T)(slot:Slot T name id)(hty:typeOf (.builtin id)=pure (.type "method_descriptor"))(hm:MtR X id r)(ho:PE X o to)
  (hbase:attributeBase o name X.env (eval o X.env)=eval o X.env:=by rfl) (hline:(apos.endLine==cpos.line)=true:=by rfl):PE X (.Call (.Attribute o name apos) [] [] cpos) (avh X.K T r to):=by
 intro pins s σ H Q I h
 refine wpAny_Call_method0_late hbase hline (kj (ho pins s σ H _ I h) ?_)
 rintro v s1 ⟨x,H1,I1,r1,ty,q1⟩
 obtain⟨h1,h2⟩:=abu I1 r1 ty
 exact⟨T,id,pa,slot,hty,h1,h2,Calls.callWith_builtin rfl (PySem.evalArgs_none (hm pins s1 σ H1 x [] v [] Q I1 r1 .nil q1))⟩
theorem afI(pa:PlainAttrs T)(slot:Slot T name id)(hty:typeOf (.builtin id)=pure (.type "method_descriptor"))(hm:MtR X id r)(ho:PE X o to)(ha:PA X (e::es) t)
  (hbase:attributeBase o name X.env (eval o X.env)=eval o X.env:=by rfl)
  (hfew:((backTo cpos (starEach (e::es) X.env)).all (λx=> !x.1)&&(backToKw cpos (keywordEach [] X.env)).all (λx=>x.1.isSome)
   && decide ((e::es).length+([]:List Keyword).length+(if([]:List Keyword).isEmpty then 0 else 1)<30))=true:=by rfl)
  (hline:(apos.endLine==cpos.line)=true:=by rfl) (hs:starEach (e::es) X.env=(false,eval e X.env)::starEach es X.env:=by rfl) (hplain:(backTo cpos (starEach es X.env)).any (·.1)=false:=by rfl):
  PE X (.Call (.Attribute o name apos) (e::es) [] cpos) (tBM X.K T r to t):=by
 intro pins s σ H Q I h
 refine wpAny_Call_method_late hbase hfew hline rfl (kj (ho pins s σ H _ I h) ?_)
 rintro v s1 ⟨x,H1,I1,r1,ty,q1⟩
 obtain⟨h1,h2⟩:=abu I1 r1 ty
 refine⟨T,id,pa,slot,hty,h1,h2,?_⟩
 have hA:=ha cpos pins s1 σ H1 _ I1 q1
 rw[hs]at hA ⊢
 refine Calls.callWith_builtin (by show(false||(backTo cpos (starEach es X.env)).any (·.1))=false;rw[hplain]<;>rfl) (Calls.evalArgs_plain ?_)
 exact kj hA λus s2 ⟨vs,H2,I2,r2,q2⟩=>hm pins s2 σ H2 x vs v us Q I2 r1 r2 q2
end
def MtM(X:Cx)(id:String)(r:V->List V->Hp->VK->Prop):Prop:=
 ∀(pins:List (Addr×Obj)) (s:Shared) (σ:St) (H:Hp) (x:V) (xs:List V) (v:Value) (us:List Value) (Q:VK),Inv X pins σ H s->RelV x v->Vals xs us->r x xs H Q->
  wpAny (model X.prog X.w) X.A (call (.builtin id) (v::us)) (EP X pins σ Q) X.xe s
theorem Vals.one:∀{x:V} {us:List Value},Vals [x] us->∃u,us=[u]/\RelV x u
 | _,_,.cons r .nil=>⟨_,rfl,r⟩
section
variable{X:Cx}{pins:List (Addr×Obj)}{σ:St}{H:Hp}{s:Shared}{l b:Addr}{xs ys zs:List V}
theorem Inv.alP{its its':List Value}{n:Nat}{f:Array Value->Array Value}{t':Nat}(I:Inv X pins σ H s)(hH:H l=some (.lst xs))
  (e:s.heap.get? l=some {cls:= .type "list",data:= .seq its.toArray n}) (hf:f its.toArray=its'.toArray) (hv:Vals ys its') (hz:ys.length<=sizeLine):
  Inv X pins σ (upd H l (.lst ys)) {s with heap:=s.heap.update l (Obj.mapSeq f),toks:=t'}:=by
 have q:=PySem.IsL.update e f
 rw[hf]at q
 refine I.write (x:=l) (e:=l) (by rw[hH];exact trivial) (.inl rfl) (λb' u hb hu=>(xL s.heap (Obj.mapSeq f) (Ne.symm hb)).trans hu) ⟨_,q⟩ ?_
 exact⟨hz,its',_,hv,q⟩
theorem Inv.ayu(I:Inv X pins σ H s)(hv:Vals ys its)(hz:ys.length<=sizeLine):
  Inv X pins σ (upd H s.heap.objs.size (.lst ys)) {s with heap:=s.heap.push {cls:= .type "list",data:= .seq its.toArray},toks:=t'}:=
 I.laid (λ_ _ q=>zD _ q) (zab _) ⟨hz,its,0,hv,yB _ rfl⟩
theorem Inv.fresh(I:Inv X pins σ H s):H s.heap.objs.size=none:=I.hok.fresh (zab _)
theorem Inv.aaE(I:Inv X pins σ H s)(hH:H l=some (.lst xs)):xs.length<=sizeLine/\∃(its:List Value) (n:Nat),Vals xs its/\xs.length=its.length/\s.heap.get? l=some {cls:= .type "list",data:= .seq its.toArray n}:=by
 obtain⟨z,its,n,r,e⟩:=I.hok l _ hH
 exact⟨z,its,n,r,r.length,e⟩
theorem acJ(h:n<=sizeLine):Builtin.List.listTooLong n=false:=by
 unfold Builtin.List.listTooLong
 exact zaf ()
end
section
variable{X:Cx}
def YX:V->List V->Hp->VK->Prop:=λx vs H Q=>∃l xs y,x= .ref l/\vs=[y]/\H l=some (.lst xs)/\xs.length<sizeLine/\Q .non (upd H l (.lst (xs++[y])))
theorem Qy:MtM X "list.append" YX:=by
 intro pins s σ H x vs v us Q I rx rv h
 obtain⟨l,xs,y,rfl,rfl,hH,hz,q⟩:=h
 cases rx
 obtain⟨u,rfl,ru⟩:=rv.one
 obtain⟨z,its,n,r,hl,e⟩:=I.aaE hH
 refine call_meets F.slot_list_append ⟨_,e,rfl⟩ F.entry_list_append (F.args_list_append_2 _ _) (PySem.list_append l its.toArray n u (by rw[List.size_toArray];lia)) ⟨e,?_⟩
 refine⟨.non,_,I.alP (its':=its++[u]) hH e (by simp) (r.append (.cons ru .nil)) ?_,rfl,q⟩
 rw[List.length_append,List.length_singleton]
 lia
def ad9:V->List V->Hp->VK->Prop:=λx vs H Q=>∃l b xs zs,x= .ref l/\vs=[.ref b]/\H l=some (.lst xs)/\H b=some (.lst zs)/\xs.length+zs.length<=sizeLine/\Q .non (upd H l (.lst (xs++zs)))
theorem aaA:MtM X "list.extend" ad9:=by
 intro pins s σ H x vs v us Q I rx rv h
 obtain⟨l,b,xs,zs,rfl,rfl,hH,hB,hz,q⟩:=h
 cases rx
 obtain⟨u,rfl,ru⟩:=rv.one
 cases ru
 obtain⟨z,its,n,r,hl,e⟩:=I.aaE hH
 obtain⟨z2,its2,n2,r2,hl2,e2⟩:=I.aaE hB
 have hsz:its.toArray.size+its2.toArray.size<=sizeLine:=by rw[List.size_toArray,List.size_toArray];lia
 have anu:¬(!its.toArray.isEmpty&&Builtin.List.listTooLong (its.toArray.size+its2.toArray.size))=true:=by
  rw[acJ hsz,Bool.and_false]
  exact xA
 refine call_meets F.slot_list_extend ⟨_,e,rfl⟩ F.entry_list_extend (F.args_list_extend_2 _ _)
  (AutoSeq1.list_extend_list_list_0 l its.toArray n b its2.toArray n2 anu (by rw[List.size_toArray];lia) ()) ⟨e,e2,?_⟩
 refine⟨.non,_,I.alP (its':=its++its2) hH e (by simp) (r.append r2) ?_,rfl,q⟩
 rw[List.length_append]
 lia
def awq:R2:=λx y H Q=>∃l b xs zs,x= .ref l/\y= .ref b/\H l=some (.lst xs)/\H b=some (.lst zs)/\xs.length+zs.length<=sizeLine/\∀p,H p=none->Q (.ref p) (upd H p (.lst (xs++zs)))
theorem ahk:Bg X (binaryOp .Add) awq:=by
 intro pins s σ H x y v u Q I rx ry h
 obtain⟨l,b,xs,zs,rfl,rfl,hH,hB,hz,q⟩:=h
 cases rx
 cases ry
 obtain⟨z,its,n,r,hl,e⟩:=I.aaE hH
 obtain⟨z2,its2,n2,r2,hl2,e2⟩:=I.aaE hB
 refine PySem.P.add_list e e2 ?_ (by rw[List.size_toArray,List.size_toArray];lia)
 have ea:its.toArray++its2.toArray=(its++its2).toArray:=by simp
 rw[ea]
 exact⟨.ref _,_,I.ayu (t':=s.toks) (r.append r2) (by rw[List.length_append];lia),rfl,q _ I.fresh⟩
end
end L2
namespace Att
open PySem PySem.W PySem.Calls PyProof.Rows
theorem K7:∀(ns:List Int) (vs:List Value),WellAll P h vs (ns.map WData.int)->IntsAre vs ns:=by
 intro ns
 induction ns with
 | nil=>
  intro vs w
  rw[List.map_nil]at w
  cases w
  exact .nil
 | cons n ns ih=>
  intro vs w
  rw[List.map_cons]at w
  cases w with
  | cons a b=>
   cases a
   exact .cons _ _ (ih _ b)
theorem Z6{l:OpenLaw}{n:Nat}(hn:l.most=some n){P:Params}{h:Heap}{args:List WData}{vals:List Value}
  (hpre:l.row.toRowW.claim.pre args=true) (hwl:WellAll P h vals args):
  ∃a vs ns,vals=[Value.ref a]/\args=[WData.list (ns.map WData.int)]/\h.get? a=some {cls:= .type "list",data:= .seq vs.toArray}/\IntsAre vs ns/\ns.length<=n:=by
 have hsh:WShape.hasAll [] args [.list .int]=true:=(pre_splitW hpre).1
 have hc:l.pre.holds [] {args:=args}=true:=(pre_splitW hpre).2
 obtain⟨d,r,rfl,h1,h2⟩:=hasAllW_cons hsh
 obtain rfl:=hasAllW_nil h2
 obtain⟨xs,rfl,h3⟩:=hasW_list h1
 obtain⟨ns,rfl⟩:=items_int h3
 have hlen:ns.length<=n:=by
  unfold OpenLaw.pre at hc
  have h4:(WTm.not (.lt (.lit (.int (n:Int))) (.len (.arg 0)))).holds [] {args:=[.list (ns.map .int)]}=true:=by
   have h4:=(holds_andW hc).1
   rw[hn]at h4
   exact h4
  have h5:=condW_of h4 (w_not (w_lt w_lit (w_len_list (w_arg rfl))))
  rw[zan]at h5
  refine Nat.le_of_not_lt λq=> ?_
  have q':(n:Int)<((ns.length:Nat):Int):=()
  first
   | (rw[zag q']at h5;exact absurd h5 (by decide))
   | (simp at h5;lia)
 cases hwl with
 | cons w1 w2=>
  cases w2
  cases w1 with
  | list ho hall=>exact⟨_,_,ns,rfl,rfl,ho,K7 ns _ hall,hlen⟩
theorem aai(l:OpenLaw)(args:List WData):l.row.toRowW.claim.post args (.bool true) args=true:=
 postW_of (r:=l.row.toRowW) (X:=(true==true))
  (show WShape.has [] (.bool true) .bool=true by first | rfl | decide | simp[WShape.has,WShape.arms,WShape.armsAll])
  (show(WTm.eq .res (.lit (.bool true))).value [] {args:=args,res:=some (.bool true),after:=args}=some (.bool (true==true))from w_eq_bool (w_res rfl) w_lit) rfl
theorem V1{l:OpenLaw}{n:Nat}{q:Program}{loose:List Str}{XP:(Str->Option Value)->Heap->Prop}{YP:World->Heap->Prop}{d:DefRec}
  (hn:l.most=some n) (hdf:d.params.defaults=[])
  (call:∀(w:World) (s₀ s₁:Shared) (mg mb:Str->Option Value) (fa:Addr) (o:Obj) (pm cd doc:Value) (a:Addr) (vs:List Value) (ns:List Int),
   Ground q loose [] XP w s₀ mg mb s₁.heap->YP w s₁.heap->
   s₁.heap.get? fa=some o->o.data= .func (docDef d.name d.params d.body d.scope pm cd doc)->s₁.heap.CodeRec cd d.name->mg d.name=some (.ref fa)->
   s₁.heap.get? a=some {cls:= .type "list",data:= .seq vs.toArray}->IntsAre vs ns->ns.length<=n->s₁.gens= #[]->
   codeAny (model l.prog w) callerA (.call (.ref fa) ⟨[.ref a],[]⟩) (λr s'=>r= .ok (.ret (.bool true))/\OldK s₁.heap s'.heap/\s'.os=s₁.os/\AllBare s'.gens) s₁):
  WalkO q loose XP YP l.row.toRowW d [] (λf vs=>PySem.call f vs):=by
 intro w s₀ s₁ mg mb G Y fa o pm cd doc dV kV ho hd hcd hD hmg hg args vals as hpre hlay hrd hwl hlo
 obtain rfl:dV= .none:=Dflts.none hD hdf
 obtain rfl:kV= .none:=Dflts.noKw hD
 obtain⟨a,vs,ns,rfl,rfl,hobj,hints,hlen⟩:=Z6 hn hpre hwl
 refine enter_call (codeAny_mono (call w s₀ s₁ mg mb fa o pm cd doc a vs ns G Y ho (fd_plain hd) hcd hmg hobj hints hlen hg) λr s' hq=> ?_)
 obtain⟨rfl,h2,h3,h4⟩:=hq
 exact⟨.inl ⟨.bool true,.bool true,[],rfl,λ_=>rfl,.bool true,aai l _,λ_=>⟨List.Pairwise.nil,λ_ hm=>(nomatch hm)⟩⟩,h2,h3,h4⟩
end Att
namespace L2
open PySem PySem.Spec PyProof.Rows
theorem Jh:∀{vs:List Value} {ns:List Int},IntsAre vs ns->Vals (ns.map V.int) vs
 | _,_,.nil=> .nil
 | _,_,.cons n t h=> .cons ⟨t,rfl⟩ (Jh h)
abbrev KOf{K:Frag}{h:Heap}(_:K.In h):Frag:=K
noncomputable def inClass(s:Stmt)(j:Nat):Stmt:=match s with
 | .ClassDef _ _ _ body _ _ _ _ _ _ _=>body.getD j (.Pass ⟨0,0,0,0⟩)
 | _=> .Pass ⟨0,0,0,0⟩
noncomputable def aB(s:Stmt):Arguments:=match s with
 | .FunctionDef _ a _ _ _ _ _ _ _ _=>a
 | _=>{posonlyargs:=[],args:=[],vararg:=none,kwonlyargs:=[],kw_defaults:=[],kwarg:=none,defaults:=[]}
noncomputable def aA(s:Stmt):List Stmt:=match s with
 | .FunctionDef _ _ b _ _ _ _ _ _ _=>b
 | _=>[]
noncomputable def ak(s:Stmt):Scope:=match s with
 | .FunctionDef _ _ _ _ _ _ sc _ _ _=>sc
 | _=>{kind:= .function,names:=[],isGenerator:=false,isCoroutine:=false}
abbrev CX0:ZM:=λ_ _ _ _ _ _=>False
abbrev E0:XK:=λ_ _ _=>False
section
variable{X:Cx}
theorem pv(i:Nat)(hN:X.N[i]? = some x:=by rfl)(hv:Vis X.env.scope x:=by first | exact Or.inl rfl | exact Or.inr (Or.inl rfl) | exact Or.inr (Or.inr rfl))(hd:(x==("__debug__" : Str))=false:=by decide)
  (hcd:(x==("__classdict__" : Str))=false:=by decide):PE X (.Name x pos) (ZS i):=RX hN hv hd hcd
end
theorem Bc(h:∀n,(n,NameKind.free)∈scope.names->∃c,env.cells.lookup n=some c):
  ∃cl,closureFor scope env=pure cl/\(∀n c,cl.lookup n=some c->env.cells.lookup n=some c)/\∀n,(n,NameKind.free)∈scope.names->∃c,cl.lookup n=some c:=by
 have go:∀(names:List (Str×NameKind)) (acc:List (Str×Addr)),(∀n,(n,NameKind.free)∈names->∃c,env.cells.lookup n=some c)->(∀n c,acc.lookup n=some c->env.cells.lookup n=some c)->
   ∃cl,(forIn names acc λ(x:Str×NameKind) (r:List (Str×Addr))=>if(x.2==NameKind.free)=true then do let a <-cellOf env x.1;pure (ForInStep.yield ((x.1,a)::r))else pure (ForInStep.yield r):Sem (List (Str×Addr)))=pure cl/\
    (∀n c,cl.lookup n=some c->env.cells.lookup n=some c)/\(∀n,(n,NameKind.free)∈names->∃c,cl.lookup n=some c)/\∀n c,acc.lookup n=some c->∃c,cl.lookup n=some c:=by
  intro names
  induction names with
  | nil=>intro acc _ h2;exact⟨acc,rfl,h2,(λ_ z=>nomatch z),λn c e=>⟨c,e⟩⟩
  | cons x r ih=>
   intro acc h1 h2
   obtain⟨n,k⟩:=x
   by_cases hk:k=NameKind.free
   ·subst hk
    obtain⟨c,hc⟩:=h1 n xB
    obtain⟨cl,e1,e2,e3,e4⟩:=ih ((n,c)::acc) (λm z=>h1 m (yT _ z)) (λm d e=>by
     rw[List.lookup_cons]at e
     cases q:m==n with
     | true=>rw[q]at e;cases e;rw[eq_of_beq q];exact hc
     | false=>rw[q]at e;exact h2 m d e)
    refine⟨cl,?_,e2,λm z=> ?_,λm d e=> ?_⟩
    ·rw[List.forIn_cons]
     have:cellOf env n=pure c:=by unfold cellOf;rw[hc]
     simp only[this,beq_self_eq_true,if_true]
     exact e1
    ·rcases List.mem_cons.mp z with z | z
     ·cases z
      exact e4 n c (by rw[List.lookup_cons,beq_self_eq_true])
     ·exact e3 m z
    ·cases q:m==n with
     | true=>exact e4 m c (by rw[List.lookup_cons,q])
     | false=>exact e4 m d (by rw[List.lookup_cons,q];exact e)
   ·obtain⟨cl,e1,e2,e3,e4⟩:=ih acc (λm z=>h1 m (yT _ z)) h2
    refine⟨cl,?_,e2,λm z=> ?_,e4⟩
    ·rw[List.forIn_cons]
     have:(k==NameKind.free)=false:=by simpa using hk
     simp only[this,Bool.false_eq_true,if_false]
     exact e1
    ·rcases List.mem_cons.mp z with z | z
     ·cases z;exact absurd rfl hk
     ·exact e3 m z
 obtain⟨cl,e1,e2,e3,_⟩:=go scope.names [] h (λ_ _ e=>nomatch e)
 refine⟨cl,?_,e2,e3⟩
 unfold closureFor
 show(forIn scope.names [] _ >>= λr=>pure r)=_
 rw[show(forIn scope.names [] λ(x:Str×NameKind) (r:List (Str×Addr))=>_:Sem (List (Str×Addr)))=pure cl from e1]
 rfl
noncomputable def gU(env:Env)(x:Str×NameKind):Str×NameKind:=if(x.2== .free&&env.scope.kind== .function&&env.kindOf x.1==some .cell)then(x.1,.cell)else(x.1,x.2)
theorem M9(env:Env)(x:Str×NameKind):(gU env x).1=x.1:=by
 unfold gU;split<;>rfl
theorem YW:∀{names:List (Str×NameKind)},(∀z∈names,z.2≠ .cell)->((names.map (gU env)).lookup y=some .cell\/(names.map (gU env)).lookup y=some .free)->(y,NameKind.free)∈names
 | [],_,h=>by rcases h with h | h<;>cases h
 | (n,k)::r,hc,h=>by
  rw[List.map_cons]at h
  have e1:(gU env (n,k)).1=n:=M9 env (n,k)
  cases hx:y==n with
  | true=>
   have ey:=eq_of_beq hx
   subst ey
   have hk:k≠ .cell:=hc (y,k) xB
   have q:(gU env (y,k)).2= .cell\/(gU env (y,k)).2= .free:=by
    have l:∀kk,List.lookup y (gU env (y,k)::List.map (gU env) r)=some kk->(gU env (y,k)).2=kk:=λkk z=>by
     rw[show gU env (y,k)=(y,(gU env (y,k)).2)from Prod.ext e1 rfl,List.lookup_cons,beq_self_eq_true]at z
     exact xI z
    rcases h with h | h
    ·exact .inl (l _ h)
    ·exact .inr (l _ h)
   have hk2:k= .free:=by
    unfold gU at q
    split at q
    ·rename_i z
     rw[Bool.and_eq_true,Bool.and_eq_true]at z
     simpa using z.1.1
    ·rcases q with q | q
     ·exact absurd q hk
     ·exact q
   rw[hk2]
   exact xB
  | false=>
   have l:List.lookup y (gU env (n,k)::List.map (gU env) r)=List.lookup y (List.map (gU env) r):=by
    rw[show gU env (n,k)=(n,(gU env (n,k)).2)from Prod.ext e1 rfl,List.lookup_cons,hx]
   rw[l]at h
   exact yT _ (YW (λz hz=>hc z (yT _ hz)) h)
theorem acg:∀{names:List (Str×NameKind)},names.lookup y=some .free->(names.map (gU env)).lookup y=some .cell\/(names.map (gU env)).lookup y=some .free
 | [],h=>by cases h
 | (n,k)::r,h=>by
  rw[List.map_cons]
  have e1:(gU env (n,k)).1=n:=M9 env (n,k)
  rw[show gU env (n,k)=(n,(gU env (n,k)).2)from Prod.ext e1 rfl,List.lookup_cons]
  rw[List.lookup_cons]at h
  cases hx:y==n with
  | true=>
   rw[hx]at h
   have hk:k= .free:=xI h
   subst hk
   show some (gU env (n,NameKind.free)).2=some NameKind.cell\/some (gU env (n,NameKind.free)).2=some NameKind.free
   unfold gU
   split
   ·exact .inl rfl
   ·exact .inr rfl
  | false=>
   rw[hx]at h
   exact acg h
section
variable{prog:Program}{w:World}{A:Around}{R:Result->Shared->Prop}
theorem abx(W:Nat->Shared->Prop)
  (turn:∀n s,W n s->wpAny (model prog w) A (pyNext it) (λr s1=>match r with
   | none=>R (.ok .next) s1
   | some v=>wpAny (model prog w) A (letOwnedTupleGo tg it v) (λ_ s2=>wpAny (model prog w) A (assign tg env v) (λ_ s3=>
     wpAny (model prog w) A (forIn ifs true λc r=>if r=true then do let ok <-isTrue c env (eval c env);pure (ForInStep.yield ok)else pure (ForInStep.yield r)) (λok s4=>
      if ok=true then wpAny (model prog w) A (eval elt env) (λx s5=>wpAny (model prog w) A (call (.builtin "list.append") [acc,x]) (λ_ s6=>∃m,m<n/\W m s6) (λ_ _=>False) s5) (λ_ _=>False) s4
      else ∃m,m<n/\W m s4) (λ_ _=>False) s3) (λ_ _=>False) s2) (λ_ _=>False) s1) (λ_ _=>False) s)
  (n:Nat) (h:W n s):codeAny (model prog w) A (.compLoop (.ListComp elt [⟨tg,iter,ifs,0⟩] scope pos) 0 it acc env) R s:=by
 have ex:∀{α:Type} {t:Sem α} {Q Q':α->Shared->Prop} {E:Value->Shared->Prop} {s:Shared},wpAny (model prog w) A t Q (λ_ _=>False) s->(∀a s,Q a s->Q' a s)->wpAny (model prog w) A t Q' E s:=
  λh f=>wT h f λ_ _ z=>z.elim
 refine codeAny_loop rfl W (λn s hI=> ?_) n h
 show wpAny _ A ((compTurn (.ListComp elt [⟨tg,iter,ifs,0⟩] scope pos) 0 it acc env).onRaise (λx=>do noteFrame x env;theTreesLotGoes x)) _ _ s
 refine wpAny_noted ?_
 rw[compTurn_list]
 refine zC (wpAny_standAt (zC (ex (turn n s hI) λr s1 h1=> ?_)))
 cases r with
 | none=>exact zI h1
 | some v=>
  refine zC (ex h1 λ_ s2 h2=>zC (ex h2 λ_ s3 h3=>zC (ex h3 λok s4 h4=> ?_)))
  cases ok with
  | false=>exact zI ⟨rfl,h4⟩
  | true=>exact zC (zC (ex h4 λx s5 h5=>zC (ex h5 λ_ s6 h6=>zI (zI ⟨rfl,h6⟩))))
end
noncomputable def cV(X:Cx)(scope:Scope)(cl:List (Str×Addr))(C:Addr)(N:List Str)(fp:List Addr)(s:Shared)(H:Hp):Cx where
 prog:=X.prog
 w:=X.w
 K:=X.K
 mg:=X.mg
 base:=X.base
 A:=X.A
 N:=N
 s₀:=s
 H₀:=H
 env:=compEnvC scope cl C X.env
 outer:=X.stack
 stack:=X.stack
 ex:=fp
 fn:=λ_=>false
 calm:=X.calm
 pn:=[]
 xe:=λ_ _=>False
def uL(X:Cx)(scope:Scope):List Str->List Nat->Prop
 | [],[]=>True
 | y::cs,i::js=>(X.N[i]? = some y/\scope.names.lookup y=some .free/\(X.env.kindOf y=some .cell\/X.env.kindOf y=some .free))/\uL X scope cs js
 | _,_=>False
theorem uL.len:∀{cs:List Str} {js:List Nat},uL X scope cs js->js.length=cs.length
 | [],[],_=>rfl
 | _::_,_::_,h=>by rw[List.length_cons,List.length_cons,uL.len h.2]
 | [],_::_,h=>h.elim
 | _::_,[],h=>h.elim
theorem uL.get:∀{cs:List Str} {js:List Nat} {j:Nat},uL X scope cs js->cs[j]? = some y->
  ∃i,js[j]? = some i/\X.N[i]? = some y/\scope.names.lookup y=some .free/\(X.env.kindOf y=some .cell\/X.env.kindOf y=some .free)
 | [],[],_,_,e=>by simp at e
 | _::_,i::_,0,h,e=>by simp at e;subst e;exact⟨i,rfl,h.1.1,h.1.2⟩
 | _::_,_::_,j+1,h,e=>by
  obtain⟨i,e1,r⟩:=uL.get (j:=j) h.2 (by simpa using e)
  exact⟨i,by simpa using e1,r⟩
 | [],_::_,_,h,_=>h.elim
 | _::_,[],_,h,_=>h.elim
noncomputable def caps(js:List Nat)(σ:St):St:=js.map λi=>(σ[i]?).join
def PTs(X:Cx)(ifs:List Expr)(t:TT):Prop:=
 ∀(pins:List (Addr×Obj)) (s:Shared) (σ:St) (H:Hp) (Q:Bool->Hp->Prop),Inv X pins σ H s->t σ H Q->
  wpAny (model X.prog X.w) X.A (forIn ifs true λc r=>if r=true then do let ok <-isTrue c X.env (eval c X.env);pure (ForInStep.yield ok)else pure (ForInStep.yield r)) (TP X pins σ Q) X.xe s
def avj:TT:=λ_ H Q=>Q true H
theorem aee:PTs X [] avj:=λ_ _ _ H _ I h=>zI ⟨H,I,h⟩
theorem aed(h:PT X c t):PTs X [c] t:=by
 intro pins s σ H Q I hq
 rw[List.forIn_cons]
 simp only[if_true]
 exact zC (zC (kj (h pins s σ H Q I hq) λok s1 q=>zI (zI q)))
def ai3(js:List Nat)(tt:TT)(te:TE)(σ:St)(Q:VK)(J:It)(H1:Hp):Prop:=
 ∃W:Nat->Nat->List V->Hp->Prop,(∃m,W 0 m [] H1)/\∀i m ys H,W i m ys H->
  (J.stop i H/\ys.length<=sizeLine/\∀p,H p=none->Q (.ref p) (upd H p (.lst ys)))\/
  (J.go i H/\∃N:List V->Hp->Prop,(∀ys' H',N ys' H'->ys'.length<=sizeLine/\∃m',m'<m/\W (i+1) m' ys' H')/\∀x H',J.yld i H x H'->tt (some x::caps js σ) H' λb H2=>
   if b=true then te (some x::caps js σ) H2 λy H3=>N (ys++[y]) H3 else N ys H2)
def abF(js:List Nat)(wi:TI)(tt:TT)(te:TE):TE:=λσ H Q=>wi σ H λJ H1=>ai3 js tt te σ Q J H1
theorem ym.track(x:ym P w H h)(hn:H a=none)(new:bT P w (upd H a o) h a o):ym P w (upd H a o) h:=λb u e=>by
 by_cases hb:b=a
 ·subst hb;rw[aM]at e;cases e;exact new
 ·rw[aH hb]at e
  exact(x b u e).stay (λc v _ q=>q) (λc q=>by rw[aH (bC q hn)];exact q) λc xs q=>by rw[aH (bC q hn)];exact q
theorem Un.track(u:Un fs ex H H1 h h1)(hn:h.get? a=none)(hH:H a=none):Un fs ex H (upd H1 a o) h h1 where
 keep:=u.keep
 slot:=u.slot
 free:=λb ob e n hx=>by rw[aH (by rintro rfl;rw[hn]at e;cases e)];exact u.free b ob e n hx
 there:=u.there
 tups:=λb xs e=>by rw[aH (bC e hH)];exact u.tups b xs e
 vq:=λb ob xs e=>by rw[aH (bC e hH)];exact u.vq b ob xs e
 yo:=λb ps e=>by rw[aH (bC e hH)];exact u.yo b ps e
noncomputable def IV(xs:List Str):St:=xs.map λ_=>none
section
variable{X:Cx}{x:Str}{px:Pos}{tg elt iter:Expr}{ifs:List Expr}{scope:Scope}{xs cs:List Str}{js:List Nat}{tt:TT}{te:TE}{pos:Pos}
theorem Dn{g:TG}{cl:List (Str×Addr)}{pins:List (Addr×Obj)}{σ:St}{H2:Hp}{s2:Shared}{it:Addr}{fp:List Addr}{tn:Nat->Heap->Prop}{J:It}{Q:VK}{RR:Value->Addr->Result->Shared->Prop}
  (hc:X.calm=true) (hcap:uL X scope cs js) (ht:∀cl C fp s H,PTs (cV X scope cl C (xs++cs) fp s H) ifs tt) (he:∀cl C fp s H,PE (cV X scope cl C (xs++cs) fp s H) elt te)
  (hcell:∀y∈scope.names,y.2≠ .cell) (hkind:scope.kind= .function) (hg:∀cl C fp s H,PG (cV X scope cl C (xs++cs) fp s H) tg g)
  (De:∀n c,cl.lookup n=some c->X.env.cells.lookup n=some c) (K8:∀n,(n,NameKind.free)∈scope.names->∃c,cl.lookup n=some c)
  (I2:Inv X pins σ H2 s2) (T:Turn X.prog X.w X.K (tg) J fp it tn) (st2:tn 0 s2.heap) (f2:∀b∈fp,Ff X pins H2 b)
  (W:Nat->Nat->List V->Hp->Prop) (w0:∃m,W 0 m [] H2)
  (step:∀i m ys H,W i m ys H->
   (J.stop i H/\ys.length<=sizeLine/\∀p,H p=none->Q (.ref p) (upd H p (.lst ys)))\/
   (J.go i H/\∃N:List V->Hp->Prop,(∀ys' H',N ys' H'->ys'.length<=sizeLine/\∃m',m'<m/\W (i+1) m' ys' H')/\∀x H',J.yld i H x H'->g x (IV xs++caps js σ) H' λσ1 H1=>(σ1.length=(IV xs++caps js σ).length/\σ1.drop xs.length=caps js σ)/\tt σ1 H1 λb H2=>
    if b=true then te σ1 H2 λy H3=>N (ys++[y]) H3 else N ys H2))
  (fin:∀(D C:Addr) (H3:Hp) (s4:Shared) (m':Str->Option Value),Inv X pins σ H3 s4->s4.heap.Ns C m'->s2.heap.objs.size<=C->H3 C=none->Q (.ref D) H3->RR (.ref D) C (.ok .next) s4):
  wpAny (model X.prog X.w) X.A (newList []) (λacc s3=>wpAny (model X.prog X.w) X.A (newFunctionEnv scope X.env.globals cl [] X.env.qual none .none (some X.env)) (λcenv s4=>
   codeAny (model X.prog X.w) X.A (.compStart (.ListComp elt [⟨tg,iter,ifs,0⟩] scope pos) 0 (.ref it) acc {cenv with scope:=relabel scope X.env}) (RR acc cenv.locals) s4) X.xe s3) X.xe s2:=by
 refine wS (wpAny_newFunctionEnv hcell (by intro y hy;simp at hy) (λh1 hns hsb=> ?_) hkind)
 dsimp only at hns hsb ⊢
 generalize hP:s2.heap.push {cls:= .type "list",dict:=none,data:= .seq ([]:List Value).toArray}=hq at hns hsb ⊢
 have eC:hq.objs.size=s2.heap.objs.size+1:=by rw[<-hP,Heap.size_push]
 generalize eD:s2.heap.objs.size=D at eC ⊢
 generalize eCC:hq.objs.size=C at hns hsb eC ⊢
 have DC:D≠C:=()
 have old:∀b o,s2.heap.get? b=some o->h1.get? b=some o:=λb o e=>by
  have lt: @LT.lt Nat _ b s2.heap.objs.size:=zS e
  exact hsb.extBut b o (λz=>by subst z;lia) (zD _ (hP▸zD _ e))
 have az8:h1.get? D=some {cls:= .type "list",dict:=none,data:= .seq ([]:List Value).toArray}:=hsb.extBut _ _ DC (zD _ (hP▸eD▸yB _ rfl))
 have noD:s2.heap.get? D=none:=Heap.get?_none_of_le ()
 have HD:H2 D=none:=I2.hok.fresh ()
 have HC:H2 C=none:=I2.hok.fresh ()
 have anF:∀b∈fp,@LT.lt Nat _ b D:=λb hb=>by
  obtain⟨o,e,_⟩:=T.obj _ _ st2 b hb
  have q: @LT.lt Nat _ b s2.heap.objs.size:=zS e
  lia
 have Dfp:D∉fp:=λz=>wP _ (anF D z)
 have azv:∀b∈frs X.stack,@LT.lt Nat _ b D:=λb hb=>by
  obtain⟨_,o,ho,_⟩:=I2.stack.mem hb
  have q: @LT.lt Nat _ b s2.heap.objs.size:=zS ho
  lia
 have azL:∀y c,cl.lookup y=some c-> @LT.lt Nat _ c D:=λy c e=>by
  obtain⟨v,z⟩:=I2.cell y c (De y c e)
  have q: @LT.lt Nat _ c s2.heap.objs.size:=z.lt
  lia
 have ok:(cV X scope cl C (xs++cs) fp s2 H2).Ok:=by
  refine⟨I2.ok.mod,hkind,I2.ok.glob,I2.ok.blt,(by show s2.heap.objs.size<=C;lia),λy z c e1 e2=>I2.ok.inj y z c (De y c e1) (De z c e2),λy hy=>K8 y (YW hcell hy),λy c e=>(by cases e),I2.ok.hd,I2.ok.frames,.inl rfl,
   λb hb=>⟨?_,λy c e=>(f2 b hb).2.2.2.2.1 y c (De y c e)⟩,I2.bs,yY I2.ok.Yb I2.sz,λb o e hb=> ?_,λb hb z=> ?_,I2.stack,I2.G7⟩
  ·have q:=anF b hb
   show b≠C
   intro z
   subst z
   lia
  ·rcases(f2 b hb).2.2.2.1 with z | z
   ·exact I2.ok.Sh b o e z
   ·have l: @LT.lt Nat _ b X.base.objs.size:=zS e
    have l2:=I2.ok.Yb
    have l3: @LE.le Nat _ X.s₀.heap.objs.size b:=z
    lia
  ·rcases List.mem_cons.mp (I2.Mm b z)with e | e
   ·exact(f2 b hb).2.1 e
   ·exact(f2 b hb).2.2.1 e
 have I0:Inv (cV X scope cl C (xs++cs) fp s2 H2) [(D,{cls:= .type "list",dict:=none,data:= .seq ([]:List Value).toArray})] (IV xs++caps js σ) H2 {s2 with heap:=h1,toks:=s2.toks+([]:List (Str×Value)).length}:=by
  refine⟨ok,rfl,I2.bare,Un.kept old,⟨_,hns,λi y v e1 e2 e3=> ?_⟩,λy c e=> ?_,HC,λy c e=>(I2.m7 y c (De y c e)).imp (λ_=>rfl) id λ_ _ z=>z,λp hp=> ?_,I2.hok.kept old,?_⟩
  ·have hi:xs.length<=i:=by
    rcases Nat.lt_or_ge i xs.length with q | q
    ·rw[zae (by simpa[IV]using q)]at e2
     simp[IV]at e2
    ·exact q
   obtain⟨j,rfl⟩:∃j,i=xs.length+j:=⟨i - xs.length,()⟩
   ·have e1':cs[j]? = some y:=by
     have:(xs++cs)[xs.length+j]? = some y:=e1
     rw[zad ()]at this
     simpa using this
    obtain⟨i0,q1,q2,q3,q4⟩:=hcap.get e1'
    have e2':σ[i0]? = some (some v):=by
     have z:(caps js σ)[j]? = some (some v):=by
      rw[zad (by simp[IV])]at e2
      simpa[IV]using e2
     unfold caps at z
     rw[zam,q1]at z
     have z':(σ[i0]?).join=some v:=by simpa using z
     cases r:σ[i0]? with
     | none=>rw[r]at z';cases z'
     | some r'=>rw[r]at z';exact congrArg some z'
    obtain⟨m,_,hl⟩:=I2.loc
    obtain⟨u,r,l⟩:=hl i0 y v q2 e2' (by rcases q4 with q | q;exact .inr (.inl q);exact .inr (.inr q))
    obtain⟨c,hcy⟩:=K8 y (PySem.mem_of_lookup q3)
    refine⟨u,r,.inr ⟨acg q3,c,hcy,?_⟩⟩
    rcases l with⟨k,_⟩ | ⟨_,c',ec,o,ho,hd⟩
    ·rcases q4 with q | q<;>rw[q]at k<;>cases k
    ·rw[De y c hcy]at ec
     cases ec
     exact⟨o,old _ _ ho,hd⟩
  ·obtain⟨v,o,ho,hd⟩:=I2.cell y c (De y c e)
   exact⟨v,o,old _ _ ho,hd⟩
  ·have ep:p=(D,{cls:= .type "list",dict:=none,data:= .seq ([]:List Value).toArray}):=by simpa[cV]using hp
   subst ep
   exact⟨az8,HD,(by show D≠C;lia),(λz=>wP _ (azv D z)),λv z=>by cases z⟩
  ·show(IV xs++caps js σ).length=(xs++cs).length
   unfold caps IV
   rw[List.length_append,List.length_append,zan,zan,hcap.len]
 have stat:∀{pn:List (Addr×Obj)} {H':Hp},(∀b∈fp,H' b=none)->(∀p∈pn,p.1∉fp)->∀b∈fp,Ff (cV X scope cl C (xs++cs) fp s2 H2) pn H' b:=λhn hpn b hb=>
  ⟨hn b hb,(ok.exf b hb).1,ok.Tw b hb,.inl hb,λy c e=>(ok.exf b hb).2 y c e,λp hp z=>hpn p (by simpa[cV]using hp) (z▸hb)⟩
 have loop:∀s3:Shared,s3={s2 with heap:=h1,toks:=s2.toks+([]:List (Str×Value)).length}->
   codeAny (model X.prog X.w) X.A (.compLoop (.ListComp elt [⟨tg,iter,ifs,0⟩] scope pos) 0 (.ref it) (.ref D) (compEnvC scope cl C X.env)) (RR (.ref D) C) s3:=by
  rintro s3 rfl
  obtain⟨m0,w0⟩:=w0
  refine abx (λn s=>∃(i:Nat) (ys:List V) (its:List Value) (c:Nat) (H:Hp),Inv (cV X scope cl C (xs++cs) fp s2 H2) [(D,{cls:= .type "list",data:= .seq its.toArray c})] (IV xs++caps js σ) H s/\
   tn i s.heap/\(∀b∈fp,H b=none)/\Vals ys its/\W i n ys H) ?_ m0 ⟨0,[],[],0,H2,I0,T.keep _ _ _ st2 λb _ o e=>old b o e,λb hb=>(f2 b hb).1,.nil,w0⟩
  rintro n s3 ⟨i,ys,its,c,H3,I3,st3,fr3,rv,w3⟩
  have pD:∀p∈[((D,{cls:= .type "list",data:= .seq its.toArray c}):Addr×Obj)],p.1∉fp:=λp hp=>by
   have:p=(D,{cls:= .type "list",data:= .seq its.toArray c}):=by simpa using hp
   subst this
   exact Dfp
  rcases step i n ys H3 w3 with⟨stop,hlen,qn⟩ | ⟨go,N,hN,step⟩
  ·refine kj (T.done (cV X scope cl C (xs++cs) fp s2 H2) rfl rfl rfl hc i _ s3 _ H3 (λ_ _=>False) I3 (stat fr3 pD) st3 stop) ?_
   rintro r s4 ⟨hr,I4⟩
   subst hr
   obtain⟨gD,nD,_⟩:=I4.pin _ (xE _ xB)
   obtain⟨m',hn',_⟩:=id I4.loc
   have u4:Un (frs X.stack) fp H2 H3 s2.heap s4.heap:=I4.base
   have k4:ym X.prog X.w (upd H3 D (.lst ys)) s4.heap:=ym.track I4.hok nD ⟨hlen,its,c,rv,gD⟩
   have I5:Inv X pins σ (upd H3 D (.lst ys)) s4:=I2.call' (ch:=fp) I4.os (u4.track noD HD) k4 I4.bare λb hb=>⟨(f2 b hb).2.2.2.1,(f2 b hb).2.1,(f2 b hb).2.2.2.2.1,(f2 b hb).2.2.2.2.2⟩
   exact fin D C _ s4 m' I5 hn' () (by rw[aH (Ne.symm DC)];exact I4.free) (qn D nD)
  ·refine kj (T.item (cV X scope cl C (xs++cs) fp s2 H2) rfl rfl rfl hc i _ s3 _ H3 (λ_ _=>False) I3 (stat fr3 pD) st3 go) ?_
   rintro r s4 ⟨u,hr,h4⟩
   subst hr
   refine kj h4 ?_
   rintro _ s5 ⟨v,H5,I5,r5,y5,st5,fr5⟩
   have I5':=I5.pinned (stat fr5 pD) (T.obj _ _ st5)
   refine kj (hg cl C fp s2 H2 _ s5 (IV xs++caps js σ) H5 v u _ I5' r5 (step v H5 y5)) ?_
   rintro _ s6 ⟨σ6,H6,I6,⟨ayw,aoB⟩,q6⟩
   have weak:∀{pn:List (Addr×Obj)} {H':Hp} {s':Shared},Inv (cV X scope cl C (xs++cs) fp s2 H2) pn σ6 H' s'->Inv (cV X scope cl C (xs++cs) fp s2 H2) pn (IV xs++caps js σ) H' s':=λI'=>
    I'.weak ayw.symm λj z e=>by
     have hj:xs.length<=j:=by
      rcases Nat.lt_or_ge j xs.length with q | q
      ·rw[zae (by simpa[IV]using q)]at e
       simp[IV]at e
      ·exact q
     rw[zad (by simpa[IV]using hj),<-aoB]at e
     rw[List.getElem?_drop]at e
     rw[<-e]
     congr 1
     simp[IV]
     lia
   have tnK:∀{σ':St} {H':Hp} {s':Shared},Inv (cV X scope cl C (xs++cs) fp s2 H2) ([(D,{cls:= .type "list",data:= .seq its.toArray c})]++Ng fp s5.heap) σ' H' s'->(∀b∈fp,∀o,s5.heap.get? b=some o->s'.heap.get? b=some o)/\∀b∈fp,H' b=none:=λI'=>
    ⟨λb hb o e=>(I'.pin (b,o) (xE _ (xE _ (Ab hb e)))).1,λb hb=>by
     obtain⟨o,e,_⟩:=T.obj _ _ st5 b hb
     exact(I'.pin (b,o) (xE _ (xE _ (Ab hb e)))).2.1⟩
   refine kj (ht cl C fp s2 H2 _ s6 σ6 H6 _ I6 q6) ?_
   rintro b s7 ⟨H7,I7,q7⟩
   cases b with
   | false=>
    rw[if_neg xA]at q7 ⊢
    obtain⟨_,m',hm,w7⟩:=hN _ _ q7
    exact⟨m',hm,i+1,ys,its,c,H7,weak I7.GZ,T.keep _ _ _ st5 (tnK I7).1,(tnK I7).2,rv,w7⟩
   | true=>
    rw[if_pos rfl]at q7 ⊢
    refine kj (he cl C fp s2 H2 _ s7 σ6 H7 _ I7 q7) ?_
    rintro yv s8 ⟨y,H8,I8,r8,q8⟩
    obtain⟨hl8,m',hm,w8⟩:=hN _ _ q8
    rw[List.length_append,List.length_singleton]at hl8
    obtain⟨gD,nD,dC,dF,_⟩:=I8.pin (D,{cls:= .type "list",data:= .seq its.toArray c}) (xE _ (List.mem_append_left _ xB))
    have el:=rv.length
    refine wpAny_list_append_plain (hsz:=by rw[List.size_toArray];lia) ⟨c,gD⟩ λh9 p9 sb9=> ?_
    obtain⟨c9,g9⟩:=p9
    have g9':h9.get? D=some {cls:= .type "list",data:= .seq (its++[yv]).toArray c9}:=by simpa using g9
    have I9:Inv (cV X scope cl C (xs++cs) fp s2 H2) [] (IV xs++caps js σ) H8 {s8 with heap:=h9}:=
     (weak (I8.z8 (Cu:=[]) (λp hp=>nomatch hp))).turned (t':=s8.toks) (it:=D) (λb o hb e=>(sb9.2 b hb).trans e) nD dC (.inr (by show s2.heap.objs.size<=D;lia)) (λy c e z=>by have q:=azL y c e;subst z;lia) (λp hp=>nomatch hp)
    refine⟨m',hm,i+1,ys++[y],its++[yv],c9,H8,I9.z8 λp hp=> ?_,?_,(tnK I8).2,rv.append (.cons r8 .nil),w8⟩
    ·have:p=(D,{cls:= .type "list",data:= .seq (its++[yv]).toArray c9}):=by simpa using hp
     subst this
     exact⟨g9',nD,dC,dF,λv z=>by cases z⟩
    ·exact T.keep _ _ _ st5 λb hb o e=>(sb9.2 b (λz=>Dfp (z▸hb))).trans ((tnK I8).1 b hb o e)
 exact codeAny_compStart_list (loop _ rfl) (T.self _ 0 _ _ _ (T.keep _ _ _ st2 λb _ o e=>old b o e) (loop _ rfl))
theorem O8{cl:List (Str×Addr)}{pins:List (Addr×Obj)}{σ:St}{H2:Hp}{s2:Shared}{it:Addr}{fp:List Addr}{tn:Nat->Heap->Prop}{J:It}{Q:VK}{RR:Value->Addr->Result->Shared->Prop}
  (hc:X.calm=true) (hcap:uL X scope cs js) (ht:∀cl C fp s H,PTs (cV X scope cl C (x::cs) fp s H) ifs tt) (he:∀cl C fp s H,PE (cV X scope cl C (x::cs) fp s H) elt te)
  (hcell:∀y∈scope.names,y.2≠ .cell) (hkind:scope.kind= .function) (hx:scope.names.lookup x=some .local) (hnd:(x::cs).Nodup)
  (De:∀n c,cl.lookup n=some c->X.env.cells.lookup n=some c) (K8:∀n,(n,NameKind.free)∈scope.names->∃c,cl.lookup n=some c)
  (I2:Inv X pins σ H2 s2) (T:Turn X.prog X.w X.K (.Name x px) J fp it tn) (st2:tn 0 s2.heap) (f2:∀b∈fp,Ff X pins H2 b)
  (W:Nat->Nat->List V->Hp->Prop) (w0:∃m,W 0 m [] H2)
  (step:∀i m ys H,W i m ys H->
   (J.stop i H/\ys.length<=sizeLine/\∀p,H p=none->Q (.ref p) (upd H p (.lst ys)))\/
   (J.go i H/\∃N:List V->Hp->Prop,(∀ys' H',N ys' H'->ys'.length<=sizeLine/\∃m',m'<m/\W (i+1) m' ys' H')/\∀x H',J.yld i H x H'->tt (some x::caps js σ) H' λb H2=>
    if b=true then te (some x::caps js σ) H2 λy H3=>N (ys++[y]) H3 else N ys H2))
  (fin:∀(D C:Addr) (H3:Hp) (s4:Shared) (m':Str->Option Value),Inv X pins σ H3 s4->s4.heap.Ns C m'->s2.heap.objs.size<=C->H3 C=none->Q (.ref D) H3->RR (.ref D) C (.ok .next) s4):
  wpAny (model X.prog X.w) X.A (newList []) (λacc s3=>wpAny (model X.prog X.w) X.A (newFunctionEnv scope X.env.globals cl [] X.env.qual none .none (some X.env)) (λcenv s4=>
   codeAny (model X.prog X.w) X.A (.compStart (.ListComp elt [⟨.Name x px,iter,ifs,0⟩] scope pos) 0 (.ref it) acc {cenv with scope:=relabel scope X.env}) (RR acc cenv.locals) s4) X.xe s3) X.xe s2:=
 Dn (xs:=[x]) (g:=Oz 0) hc hcap ht he hcell hkind (λcl C fp s H=>RQ hnd rfl (.inl (lookup_relabel_local hx)) (.inr (lookup_relabel_local hx))) De K8 I2 T st2 f2 W w0
  (λi m ys H h=>(step i m ys H h).imp id λ⟨go,N,hN,st⟩=>⟨go,N,hN,λx H' y=>⟨⟨rfl,rfl⟩,st x H' y⟩⟩) fin
theorem Inv.letGo(I2:Inv X pins σ2 H2 s2)(I:Inv X pins σ H s)(hC:s2.heap.objs.size<=C)(hn:H C=none)(sb:Heap.SameBut C s.heap h'):Inv X pins σ H {s with heap:=h'}:=
 I.turned (t':=s.toks) (λb o hb e=>(sb.2 b hb).trans e) hn (xS (yA I2.lt hC)) (.inr (yY I2.sz hC))
  (λy c e z=>by obtain⟨v,q⟩:=I2.cell y c e;exact absurd (yA q.lt (by rw[z];exact hC)) (wP _))
  (λp hp z=>absurd (yA (zS (I2.pin p hp).1) (by rw[z];exact hC)) (wP _))
theorem aeq(hc:X.calm=true)(cs:List Str)(js:List Nat)(hi:PI X (.Name x px) iter wi)(hcap:uL X scope cs js)(ht:∀cl C fp s H,PTs (cV X scope cl C (x::cs) fp s H) ifs tt)(he:∀cl C fp s H,PE (cV X scope cl C (x::cs) fp s H) elt te)
  (hall:∀y∈scope.names,y.2= .free->y.1∈cs) (hcell:∀y∈scope.names,y.2≠ .cell) (hnames:∀y∈scope.names,y.2= .local->scope.names.lookup y.1=some .local) (hnd:(x::cs).Nodup)
  (hkind:scope.kind= .function:=by rfl) (hx:scope.names.lookup x=some .local:=by rfl) (hs:∀v,foldedSetIterable iter X.env v=pure v:=by intro _;rfl):
  PE X (.ListComp elt [⟨.Name x px,iter,ifs,0⟩] scope pos) (abF js wi tt te):=by
 intro pins s σ H Q I h
 obtain⟨cl,XH,De,K8⟩:=Bc (env:=X.env) (scope:=scope) λn hn=>by
  obtain⟨j,hj⟩:=List.getElem?_of_mem (hall _ hn rfl)
  obtain⟨_,_,_,_,k⟩:=hcap.get hj
  exact I.ok.has n k
 rw[eval_ListComp]
 refine wpAny_comprehension_free (use:=none) rfl hs XH hkind hnames (kj (hi pins s σ H _ I h) λv s1 h1=>kj h1 λitv s2 h2=> ?_)
 obtain⟨it,fp,tn,J,H2,e,I2,T,st2,f2,W,w0,step⟩:=h2
 subst e
 refine O8 (Q:=Q) (RR:=λacc C=>compPost (model X.prog X.w) X.A X.xe none (EP X pins σ Q) acc C) hc hcap ht he hcell hkind hx hnd De K8 I2 T st2 f2 W w0 step λD C H3 s4 m' I4 hn hC hH q=> ?_
 exact⟨m',hn,λh' sb=>⟨.ref D,H3,I2.letGo I4 hC hH sb,rfl,q⟩⟩
theorem ael(hc:X.calm=true)(cs:List Str)(js:List Nat)(hN:X.N.Nodup)(hk:X.N[k]? = some y)(hy:X.env.scope.names.lookup y=some .local)(hi:PI X (.Name x px) iter wi)(hcap:uL X scope cs js)
  (ht:∀cl C fp s H,PTs (cV X scope cl C (x::cs) fp s H) ifs tt) (he:∀cl C fp s H,PE (cV X scope cl C (x::cs) fp s H) elt te)
  (hall:∀y∈scope.names,y.2= .free->y.1∈cs) (hcell:∀y∈scope.names,y.2≠ .cell) (hnames:∀y∈scope.names,y.2= .local->scope.names.lookup y.1=some .local) (hnd:(x::cs).Nodup)
  (hsw:swapsWith (.ListComp elt [⟨.Name x px,iter,ifs,0⟩] scope pos) (some (.Name y py)) spos.line X.env=pure true:=by rfl)
  (hkind:scope.kind= .function:=by rfl) (hx:scope.names.lookup x=some .local:=by rfl) (hs:∀v,foldedSetIterable iter X.env v=pure v:=by intro _;rfl):
  PS X (.Assign [.Name y py] (.ListComp elt [⟨.Name x px,iter,ifs,0⟩] scope pos) spos) (adT (abF js wi tt te) (Oz k)):=by
 intro pins s σ H D I h
 obtain⟨cl,XH,De,K8⟩:=Bc (env:=X.env) (scope:=scope) λn hn=>by
  obtain⟨j,hj⟩:=List.getElem?_of_mem (hall _ hn rfl)
  obtain⟨_,_,_,_,k⟩:=hcap.get hj
  exact I.ok.has n k
 rw[exec_Assign_Name_used _ _ _ _ hsw]
 refine zC (wpAny_standAt (zC ?_))
 show wpAny _ X.A (do let _ <-comprehension (.ListComp elt [⟨.Name x px,iter,ifs,0⟩] scope pos) scope X.env _ (newList []) false (eval iter X.env) (some (assign (.Name y py) X.env))) _ _ s
 refine zC (kj (wpAny_comprehension_free (use:=some (assign (.Name y py) X.env)) (Q:=λ_ s'=>SP X pins D .next s') rfl hs XH hkind hnames (kj (hi pins s σ H _ I h) λv s1 h1=>kj h1 λitv s2 h2=> ?_)) (λ_ s' q=>zI (zI q)))
 obtain⟨it,fp,tn,J,H2,e,I2,T,st2,f2,W,w0,step⟩:=h2
 subst e
 refine O8 (Q:=λx H1=>Oz k x σ H1 D.nx) (RR:=λacc C=>compPost (model X.prog X.w) X.A X.xe (some (assign (.Name y py) X.env)) (λ_ s'=>SP X pins D .next s') acc C) hc hcap ht he hcell hkind hx hnd De K8 I2 T st2 f2 W w0 step λD' C H3 s4 m' I4 hn hC hH q=> ?_
 show wpAny _ X.A (assign (.Name y py) X.env (.ref D')) _ _ _
 refine wpAny_assign_Name (Jj (v:= .ref D') I4 hN hk (.inl hy) rfl (?_) (.inr hy))
 rintro s5 I5 ⟨a,sb,ha⟩
 have neC:C≠a:=by
  rcases ha with e | e
  ·rw[e];exact xS (yA I2.lt hC)
  ·intro z
   obtain⟨v,q⟩:=I2.cell y a e
   exact absurd (yA q.lt (by rw[<-z];exact hC)) (wP _)
 exact⟨m',hn.sameBut sb neC,λh' sb'=>⟨_,H3,I2.letGo I5 hC hH sb',q⟩⟩
end
noncomputable def afX:HO->Bool
 | .dT _=>false
 | .gb _ (.dT _)=>false
 | .gb _ (.ins _ _ _)=>false
 | .gb _ (.gb _ _)=>false
 | _=>true
def Flat(H:Hp):Prop:=∀a o,H a=some o->afX o=true
def ZJ(H:Hp):Prop:=∀a C dx fs,H a=some (.ins C dx fs)->H dx=some (.own a)
structure Fgt(H H' Wc:Hp):Prop where
 sub:∀a o,Wc a=some o->H' a=some o
 flat:Flat Wc
 own:ZJ H->ZJ Wc
 tup:∀b xs,H b=some (.tup xs)->Wc b=some (.tup xs)
 gb:∀b o u,H b=some (.gb o u)->Wc b=some (.gb o u)
 yJ:∀b ps,H b=some (.yJ ps)->∃more,Wc b=some (.yJ (ps++more))
theorem bT.less(x:bT P w H' h a o)(f:afX o=true)(hw:∀C dx fs,o= .ins C dx fs->H dx=some (.own a)):bT P w H h a o:=by
 cases o with
 | dT kvs=>exact absurd f xA
 | ins C dx fs=>exact⟨hw C dx fs rfl,x.2⟩
 | gb ob u=>
  cases u with
  | dT _=>exact absurd f xA
  | ins _ _ _=>exact absurd f xA
  | gb _ _=>exact absurd f xA
  | _=>exact x
 | _=>exact x
theorem ym.less(x:ym P w H' h)(s:∀a o,H a=some o->H' a=some o)(f:Flat H)(hw:ZJ H):ym P w H h:=λa o e=>
 (x a o (s a o e)).less (f a o e) λC dx fs z=>hw a C dx fs (by rw[<-z];exact e)
theorem ym.own(x:ym P w H h):ZJ H:=λa _ _ _ e=>(x a _ e).1
def gcK(H:Hp)(Q:VK):VK:=λv H'=>Q v H'\/∃Wc,Fgt H H' Wc/\Q v Wc
theorem g8.gc{P:Program}{w:World}{K:Frag}{mg:Str->Option Value}{base:Heap}{CX:ZM}{k:Nat}{f:Addr}{fd:FuncData}{ps:List Str}{sp sp':Sp}(F:g8 P w K mg base CX k f fd ps sp)
  (h:∀vs H Q E,sp' vs H Q E->sp vs H (gcK H Q) E):g8 P w K mg base CX k f fd ps sp':=by
 refine⟨λvs H Q E q=>F.len vs H _ E (h _ _ _ _ q),λA outer s H args us vs Q E hr he hb hv hs=>codeAny_mono (F.run A outer s H args us vs (gcK H Q) E hr he hb hv (h _ _ _ _ hs)) λr s' hq=> ?_⟩
 cases r with
 | error e=>exact hq
 | ok fl=>
  cases fl with
  | ret u=>
   obtain⟨v,H',os,bare,un,hok,rv,q⟩:=hq
   rcases q with q | ⟨Wc,g,q⟩
   ·exact⟨v,H',os,bare,un,hok,rv,q⟩
   refine⟨v,Wc,os,bare,⟨un.keep,un.slot,λb o e n hx=> ?_,un.there,g.tup,g.gb,g.yJ⟩,hok.less g.sub g.flat (g.own he.hok.own),rv,q⟩
   cases z:Wc b with
   | none=>rfl
   | some o'=>
    have z':=g.sub b o' z
    rw[un.free b o e n hx]at z'
    cases z'
  | next=>exact hq
  | brk=>exact hq
  | cont=>exact hq
structure aV(K:Frag)(x qual:Str)(st:Stmt)(dV:Value)(f:Addr)(fd:FuncData):Prop where
 ex:∃(oc:Value) (od:Option Addr) (kV doc pm:Value) (an:Option Addr) (cdv ct:Value) (osl:Array (Option Value)),
  fd=fnOf x qual (aB st) (aA st) (ak st) dV kV doc pm an cdv ct/\K.lookup f=some ⟨oc,od,.func fd,osl⟩/\codeIn K cdv qual=true
 kp:keepIn K (.ref f)=true
section
variable{P:Program}{w:World}{K:Frag}{mg:Str->Option Value}{base:Heap}
theorem aV.ok{x qual:Str}{st:Stmt}{dV:Value}{f:Addr}{fd:FuncData}{N ps:List Str}{k:Nat}{sp:Sp}(F:aV K x qual st dV f fd)(S:lu N ps (ak st))(len:∀vs H Q E,sp vs H Q E->vs.length=ps.length)
  (hbody:∀(cdv:Value) (A:Around) (outer:List Env) (s:Shared) (H:Hp) (vs:List V) (Q:VK) (E:XK),jT k (A.deeper (envOfC qual (ak st) s.heap.objs.size f cdv))->sp vs H Q E->
   ∃t,Le (rY CX0 P w K mg base N qual (ak st) f cdv A outer s H E).nox (aA st) t/\t {nx:=λ_ H'=>gcK H Q .non H',rt:=gcK H Q} (start N vs) H):g8 P w K mg base CX0 (k+1) f fd ps sp:=by
 obtain⟨oc,od,kV,doc,pm,an,cdv,ct,osl,rfl,lk,hcd⟩:=F.ex
 refine g8.gc (sp:=λvs H Q' E=>∃Q,sp vs H Q E/\Q'=gcK H Q) (afV lk hcd S (λvs H Q E ⟨Q0,q,_⟩=>len vs H Q0 E q) λA outer s H vs Q' E hr hsp=> ?_) λvs H Q E q=>⟨Q,q,rfl⟩
 obtain⟨Q,hsp,rfl⟩:=hsp
 obtain⟨t,h,q⟩:=hbody cdv A outer s H vs Q E hr hsp
 exact⟨t,h.nox,q⟩
theorem aV.binds{x qual:Str}{st:Stmt}{dV:Value}{f:Addr}{fd:FuncData}{ps:List Str}(F:aV K x qual st dV f fd)
  (h:∀(kV doc pm:Value) (an:Option Addr) (cdv ct:Value) (us:List Value),us.length=ps.length->bindArgs (fnOf x qual (aB st) (aA st) (ak st) dV kV doc pm an cdv ct) ⟨us,[]⟩=pure (ps.zip us)):Binds K fd ps []:=by
 obtain⟨oc,od,kV,doc,pm,an,cdv,ct,osl,rfl,lk,hcd⟩:=F.ex
 exact .all (h kV doc pm an cdv ct)
theorem aC{x qual:Str}{st:Stmt}{dV:Value}{f:Addr}{oc:Value}{od an:Option Addr}{osl:Array (Option Value)}{kV doc pm cdv ct:Value}(l:K.lookup f=some ⟨oc,od,.func (fnOf x qual (aB st) (aA st) (ak st) dV kV doc pm an cdv ct),osl⟩)
  (c:codeIn K cdv qual=true) (k:keepIn K (.ref f)=true):aV K x qual st dV f (fnOf x qual (aB st) (aA st) (ak st) dV kV doc pm an cdv ct):=⟨⟨oc,od,kV,doc,pm,an,cdv,ct,osl,rfl,l,c⟩,k⟩
end
theorem T_:bootBuiltins "len" = some (.builtin "len"):=by decide +kernel
theorem uh:bootBuiltins "isinstance" = some (.builtin "isinstance"):=by decide +kernel
theorem afh:bootBuiltins "bool" = some (.type "bool"):=by decide +kernel
theorem Iv:bootBuiltins "list" = some (.type "list"):=by decide +kernel
theorem VM:bootBuiltins "tuple" = some (.type "tuple"):=by decide +kernel
def ajD:V->Value->Prop
 | .ty n,c=>c= .type n
 | .ref a,c=>c= .ref a
 | _,_=>False
@[irreducible] def agI(K:Frag):List V->Hp->VK->Prop:=λxs H Q=>∃x cv t c b,xs=[x,cv]/\ajD cv c/\Iz K H x t/\kitOne K t c=some b/\Q (.bl b) H
section
variable{X:Cx}
theorem VJ:qU X (.builtin "isinstance") (agI X.K):=by
 intro pins s σ H xs us Q I r h
 unfold agI at h
 obtain⟨x,cv,t,c,b,rfl,hc,ty,e,q⟩:=h
 obtain⟨u,v,rfl,rx,rc⟩:=vals2 r
 have ec:v=c:=by
  cases cv with
  | ty n=>exact(show v=Value.type n from rc).trans (show c=Value.type n from hc).symm
  | ref a=>exact(show v=Value.ref a from rc).trans (show c=Value.ref a from hc).symm
  | _=>exact hc.elim
 subst ec
 exact QG I rx ty e λtk=>⟨.bl b,H,I.tok tk,rfl,q⟩
end
def akn:V->List V->Hp->VK->Prop:=λx vs H Q=>∃i,x= .int i/\vs=[]/\Q (.int (Builtin.Int.intBits i:Nat)) H
section
variable{X:Cx}
theorem aeC:MtR X "int.bit_length" akn:=by
 intro pins s σ H x vs v us Q I rx r h
 obtain⟨i,rfl,rfl,q⟩:=h
 obtain⟨t,rfl⟩:=rx
 cases r
 exact call_int_bit_length ⟨.int _,H,I.tok _,⟨_,rfl⟩,q⟩
end
def arD(g:TG)(tb:TS)(D:Ends)(σ:St)(J:It)(H1:Hp):Prop:=
 ∃W:Nat->Nat->St->Hp->Prop,(∃m,W 0 m σ H1)/\∀i m σ H,W i m σ H->
  (J.stop i H/\D.nx σ H)\/(J.go i H/\∃N:St->Hp->Prop,(∀σ' H',N σ' H'->∃m',m'<m/\W (i+1) m' σ' H')/\∀x H',J.yld i H x H'->g x σ H' λσ2 H2=>tb {D with nx:=N,ct:=N,bk:=D.nx} σ2 H2)
def ajM(wi:TI)(g:TG)(tb:TS):TS:=λD σ H=>wi σ H λJ H1=>arD g tb D σ J H1
theorem aei(hp:PassesOwn (model X.prog X.w) X.A X.env X.xe)(hc:X.calm=true)(hi:PI X tg iter wi)(hg:PG X tg g)(hb:Le X body tb)
  (hs:∀x,foldedSetIterable iter X.env x=pure x:=by intro _;rfl):PS X (.For tg iter body [] pos) (ajM wi g tb):=agR hp hc hi hg hb hs
theorem cB{α:Type}{us:List α}(h:us.length=1):∃a,us=[a]:=match us,h with | [a],_=>⟨a,rfl⟩
theorem eY{α:Type}{us:List α}(h:us.length=2):∃a b,us=[a,b]:=match us,h with | [a,b],_=>⟨a,b,rfl⟩
theorem xF{α:Type}{us:List α}(h:us.length=3):∃a b c,us=[a,b,c]:=match us,h with | [a,b,c],_=>⟨a,b,c,rfl⟩
theorem Zd{α:Type}{us:List α}(h:us.length=4):∃a b c d,us=[a,b,c,d]:=match us,h with | [a,b,c,d],_=>⟨a,b,c,d,rfl⟩
inductive Dt where
 | non | bl (b:Bool) | int (i:Int) | str (x:Str) | tup (ds:List Dt) | lst (ds:List Dt)
mutual
inductive Is (K:Frag) (H:Hp):V->Dt->Prop
 | non:Is K H .non .non
 | bl (b:Bool):Is K H (.bl b) (.bl b)
 | int (i:Int):Is K H (.int i) (.int i)
 | str (x:Str):Is K H (.str x) (.str x)
 | tup {a:Addr} {xs:List V} {ds:List Dt}:zG K H a xs->Wb K H xs ds->Is K H (.ref a) (.tup ds)
 | lst {a:Addr} {xs:List V} {ds:List Dt}:Ew K H a xs->Wb K H xs ds->Is K H (.ref a) (.lst ds)
inductive Wb (K:Frag) (H:Hp):List V->List Dt->Prop
 | nil:Wb K H [] []
 | cons {x:V} {d:Dt} {xs:List V} {ds:List Dt}:Is K H x d->Wb K H xs ds->Wb K H (x::xs) (d::ds)
end
mutual
def pN:Dt->Dt->Bool
 | .non,.non=>true
 | .bl a,.bl b=>a==b
 | .bl a,.int b=>(if a then 1 else 0)==b
 | .int a,.bl b=>a==(if b then 1 else 0)
 | .int a,.int b=>a==b
 | .str a,.str b=>a==b
 | .tup ds,.tup es=>GC ds es
 | .lst ds,.lst es=>GC ds es
 | _,_=>false
def GC:List Dt->List Dt->Bool
 | [],[]=>true
 | d::ds,e::es=>pN d e&&GC ds es
 | _,_=>false
end
mutual
def dep:Dt->Nat
 | .tup ds=>deps ds+1
 | .lst ds=>deps ds+1
 | _=>0
def deps:List Dt->Nat
 | []=>0
 | d::ds=>max (dep d) (deps ds)
end
mutual
theorem Ip:∀d:Dt,pN d d=true
 | .non=>by unfold pN;rfl
 | .bl a=>by unfold pN;simp
 | .int a=>by unfold pN;simp
 | .str a=>by unfold pN;simp
 | .tup ds=>by unfold pN;exact J4 ds
 | .lst ds=>by unfold pN;exact J4 ds
theorem J4:∀ds:List Dt,GC ds ds=true
 | []=>by unfold GC;rfl
 | d::ds=>by unfold GC;rw[Ip d,J4 ds];rfl
end
theorem O5:∀{ds es:List Dt},ds.length≠es.length->GC ds es=false
 | [],[],h=>absurd rfl h
 | [],_::_,_=>by unfold GC;rfl
 | _::_,[],_=>by unfold GC;rfl
 | d::ds,e::es,h=>by
  unfold GC
  rw[O5 (ds:=ds) (es:=es) λz=>h (by rw[List.length_cons,List.length_cons,z]),Bool.and_false]
theorem O6:∀{ds es:List Dt},ds.length=es.length->(List.range ds.length).all (λj=>pN (ds.getD j .non) (es.getD j .non))=GC ds es
 | [],[],_=>by unfold GC;rfl
 | [],_::_,h=>by cases h
 | _::_,[],h=>by cases h
 | d::ds,e::es,h=>by
  have ih:=O6 (ds:=ds) (es:=es) (Nat.succ.inj h)
  rw[List.length_cons,List.range_succ_eq_map,List.all_cons,List.all_map,GC,<-ih]
  rfl
theorem Wb.length{K:Frag}{H:Hp}:∀{xs:List V} {ds:List Dt},Wb K H xs ds->xs.length=ds.length
 | _,_,.nil=>rfl
 | _,_,.cons _ r=>by rw[List.length_cons,List.length_cons,Wb.length r]
theorem Wb.get{K:Frag}{H:Hp}:∀{xs:List V} {ds:List Dt} {i:Nat} {x:V},Wb K H xs ds->xs[i]? = some x->∃d,ds[i]? = some d/\Is K H x d
 | _,_,_,_,.nil,e=>by simp at e
 | _,_,0,_,.cons r _,e=>by simp at e;subst e;exact⟨_,rfl,r⟩
 | _,_,i+1,x,.cons _ t,e=>by
  obtain⟨d,h1,h2⟩:=Wb.get (i:=i) (x:=x) t (by simpa using e)
  exact⟨d,by simpa using h1,h2⟩
theorem ae9(ds es:List Dt):pN (.tup ds) (.tup es)=GC ds es:=by unfold pN;rfl
theorem Zv(ds es:List Dt):pN (.lst ds) (.lst es)=GC ds es:=by unfold pN;rfl
section
variable{X:Cx}{pins:List (Addr×Obj)}{σ:St}{H:Hp}{s:Shared}
theorem Inv.Vk(I:Inv X pins σ H s)(h:zG X.K H a xs)(h':Ew X.K H a ys):False:=by
 obtain⟨its,_,pt,_⟩:=I.tuple h
 obtain⟨jts,_,pl,_⟩:=I.list h'
 obtain⟨o,e,c,_⟩:=pt
 obtain⟨o',n',e',c',_⟩:=pl
 rw[e]at e';cases e'
 rw[c]at c'
 injection c' with z
 exact absurd z (by decide)
mutual
theorem Inv.ac4(I:Inv X pins σ H s):∀{v:V} {d e:Dt},Is X.K H v d->Is X.K H v e->d=e
 | _,_,_,.non,.non=>rfl
 | _,_,_,.bl _,.bl _=>rfl
 | _,_,_,.int _,.int _=>rfl
 | _,_,_,.str _,.str _=>rfl
 | _,_,_,.tup q r,.tup q' r'=>congrArg Dt.tup (Inv.Tf I r (I.Ql q q'▸r'))
 | _,_,_,.lst q r,.lst q' r'=>congrArg Dt.lst (Inv.Tf I r (I.Vs q q'▸r'))
 | _,_,_,.tup q _,.lst q' _=>(I.Vk q q').elim
 | _,_,_,.lst q _,.tup q' _=>(I.Vk q' q).elim
theorem Inv.Tf(I:Inv X pins σ H s):∀{vs:List V} {ds es:List Dt},Wb X.K H vs ds->Wb X.K H vs es->ds=es
 | _,_,_,.nil,.nil=>rfl
 | _,_,_,.cons r t,.cons r' t'=>by rw[Inv.ac4 I r r',Inv.Tf I t t']
end
theorem XX:∀{ds:List Dt} {j:Nat} {d:Dt},ds[j]? = some d->dep d<=deps ds
 | [],_,_,e=>by simp at e
 | d'::ds,0,d,e=>by simp at e;subst e;unfold deps;exact Nat.le_max_left _ _
 | d'::ds,j+1,d,e=>by
  have:=XX (ds:=ds) (j:=j) (d:=d) (by simpa using e)
  unfold deps
  exact yY this (Nat.le_max_right _ _)
theorem Vw(r1:Vals xs its)(r2:Vals ys jts)(q1:Wb X.K H xs ds)(q2:Wb X.K H ys es)
  (ih:∀(j:Nat) (x y:V) (d e:Dt) (u v:Value),ds[j]? = some d->es[j]? = some e->Is X.K H x d->Is X.K H y e->RelV x u->RelV y v->SeqAt.EqAt A s u v (pN d e)):
  ∀j (h1:j<its.toArray.size) (h2:j<jts.toArray.size),SeqAt.EqAt A s its.toArray[j] jts.toArray[j] (pN (ds.getD j .non) (es.getD j .non)):=λj h1 h2=>by
 have l1:=r1.length
 have l2:=r2.length
 have j1:j<xs.length:=by simp at h1;lia
 have j2:j<ys.length:=by simp at h2;lia
 obtain⟨w1,g1,p1⟩:=r1.get (i:=j) (x:=xs[j]) (by simp[j1])
 obtain⟨w2,g2,p2⟩:=r2.get (i:=j) (x:=ys[j]) (by simp[j2])
 obtain⟨d,e1,i1⟩:=q1.get (i:=j) (x:=xs[j]) (by simp[j1])
 obtain⟨e,e2,i2⟩:=q2.get (i:=j) (x:=ys[j]) (by simp[j2])
 have d1:ds.getD j .non=d:=by simp[List.getD,e1]
 have d2:es.getD j .non=e:=by simp[List.getD,e2]
 have c1:its.toArray[j]=w1:=by
  have:=List.getElem?_eq_some_iff.mp g1
  simpa using this.2
 have c2:jts.toArray[j]=w2:=by
  have:=List.getElem?_eq_some_iff.mp g2
  simpa using this.2
 rw[d1,d2,c1,c2]
 exact ih j _ _ d e _ _ e1 e2 i1 i2 p1 p2
theorem aae(h:n=m)(p:Nat->Bool):((List.range (min n m)).all p&&n==m)=(List.range n).all p:=by
 subst h
 rw[Nat.min_self]
 simp
theorem aoz(hf:∀x t,u≠ .float x t)(hs:u=v->b=true)(h:SeqAt.RcAt A s u v b):SeqAt.EqAt A s u v b:=λprog w E Q hq=>by
 unfold eqBool
 refine wpAny_holding (wpAny_ite_split (λz=> ?_) λ_=> ?_)
 ·rw[hs (eq_of_beq z)]at hq
  exact zC (wpAny_rule (zI hq))
 ·cases u<;>first | exact absurd rfl (hf _ _) | exact zC (h prog w E _ (wpAny_truthy_bool hq))
theorem afH(I:Inv X pins σ H s):∀(n:Nat) (A:Around) (x y:V) (d e:Dt) (u v:Value),dep d<=n->A.units+n<cLine->Is X.K H x d->Is X.K H y e->RelV x u->RelV y v->SeqAt.RcAt A s u v (pN d e)/\SeqAt.RcNeAt A s u v (!pN d e):=by
 intro n
 induction n using Nat.strongRecOn with
 | ind n ih=>
  intro A x y d e u v hd hu hx hy rx ry
  have hu0:A.units<cLine:=()
  have in1:A.in1.units=A.units+1:=rfl
  have ih':∀d',dep d'<n->∀(x y:V) (e:Dt) (u v:Value),Is X.K H x d'->Is X.K H y e->RelV x u->RelV y v->SeqAt.EqAt A.in1 s u v (pN d' e):=λd' hd x y e u v hx hy rx ry=>aoz (λb t z=>by
   subst z
   cases hx<;>first | (obtain⟨_,z⟩:=rx;cases z) | cases rx) (λz=>by
   subst z
   cases rx.inj ry
   rw[I.ac4 hx hy,Ip]) (ih _ hd A.in1 x y d' e u v (zab _) () hx hy rx ry).1
  cases hx with
  | non=>
   cases rx
   cases hy with
   | non=>cases ry;unfold pN;exact⟨.none_none,.none_none⟩
   | bl b=>cases ry;unfold pN;exact⟨.none_bool b,.none_bool b⟩
   | int b=>obtain⟨t,rfl⟩:=ry;unfold pN;exact⟨.none_int b t,.none_int b t⟩
   | str b=>obtain⟨t,rfl⟩:=ry;unfold pN;exact⟨.none_str b t,.none_str b t⟩
   | tup q r=>cases ry;obtain⟨_,_,p,_⟩:=I.tuple q;unfold pN;exact⟨.none_tuple p hu0,.none_tuple p hu0⟩
   | lst q r=>cases ry;obtain⟨_,_,p,_⟩:=I.list q;unfold pN;exact⟨.none_list p.isList hu0,.none_list p.isList hu0⟩
  | bl a=>
   cases rx
   cases hy with
   | non=>cases ry;unfold pN;exact⟨.bool_none a,.bool_none a⟩
   | bl b=>cases ry;unfold pN;exact⟨.bool_bool a b,.bool_bool a b⟩
   | int b=>obtain⟨t,rfl⟩:=ry;unfold pN;exact⟨.bool_int a b t,.bool_int a b t⟩
   | str b=>obtain⟨t,rfl⟩:=ry;unfold pN;exact⟨.bool_str a b t,.bool_str a b t⟩
   | tup q r=>cases ry;obtain⟨_,_,p,_⟩:=I.tuple q;unfold pN;exact⟨.bool_tuple a p hu0,.bool_tuple a p hu0⟩
   | lst q r=>cases ry;obtain⟨_,_,p,_⟩:=I.list q;unfold pN;exact⟨.bool_list a p.isList hu0,.bool_list a p.isList hu0⟩
  | int a=>
   obtain⟨t',rfl⟩:=rx
   cases hy with
   | non=>cases ry;unfold pN;exact⟨.int_none a t',.int_none a t'⟩
   | bl b=>cases ry;unfold pN;exact⟨.int_bool a t' b,.int_bool a t' b⟩
   | int b=>obtain⟨t,rfl⟩:=ry;unfold pN;exact⟨.int_int a t' b t,.int_int a t' b t⟩
   | str b=>obtain⟨t,rfl⟩:=ry;unfold pN;exact⟨.int_str a t' b t,.int_str a t' b t⟩
   | tup q r=>cases ry;obtain⟨_,_,p,_⟩:=I.tuple q;unfold pN;exact⟨.int_tuple a t' p hu0,.int_tuple a t' p hu0⟩
   | lst q r=>cases ry;obtain⟨_,_,p,_⟩:=I.list q;unfold pN;exact⟨.int_list a t' p.isList hu0,.int_list a t' p.isList hu0⟩
  | str a=>
   obtain⟨t',rfl⟩:=rx
   cases hy with
   | non=>cases ry;unfold pN;exact⟨.str_none a t',.str_none a t'⟩
   | bl b=>cases ry;unfold pN;exact⟨.str_bool a t' b,.str_bool a t' b⟩
   | int b=>obtain⟨t,rfl⟩:=ry;unfold pN;exact⟨.str_int a t' b t,.str_int a t' b t⟩
   | str b=>obtain⟨t,rfl⟩:=ry;unfold pN;exact⟨.str_str a t' b t,.str_str a t' b t⟩
   | tup q r=>cases ry;obtain⟨_,_,p,_⟩:=I.tuple q;unfold pN;exact⟨.str_tuple a t' p hu0,.str_tuple a t' p hu0⟩
   | lst q r=>cases ry;obtain⟨_,_,p,_⟩:=I.list q;unfold pN;exact⟨.str_list a t' p.isList hu0,.str_list a t' p.isList hu0⟩
  | @tup a xs ds q r=>
   cases(show u=Value.ref a from rx)
   obtain⟨its,r1,p1,_⟩:=I.tuple q
   cases hy with
   | non=>cases ry;unfold pN;exact⟨.tuple_none p1 hu0,.tuple_none p1 hu0⟩
   | bl b=>cases ry;unfold pN;exact⟨.tuple_bool b p1 hu0,.tuple_bool b p1 hu0⟩
   | int b=>obtain⟨t,rfl⟩:=ry;unfold pN;exact⟨.tuple_int b t p1 hu0,.tuple_int b t p1 hu0⟩
   | str b=>obtain⟨t,rfl⟩:=ry;unfold pN;exact⟨.tuple_str b t p1 hu0,.tuple_str b t p1 hu0⟩
   | lst q' r'=>cases ry;obtain⟨_,_,p,_⟩:=I.list q';unfold pN;exact⟨.tuple_list p1 p.isList hu0,.tuple_list p1 p.isList hu0⟩
   | @tup b ys es q' r'=>
    cases(show v=Value.ref b from ry)
    obtain⟨jts,r2,p2,_⟩:=I.tuple q'
    have l1:=r1.length
    have l2:=r2.length
    have l3:=r.length
    have l4:=r'.length
    have dl:deps ds<n:=by unfold dep at hd;lia
    have it:=Vw (A:=A.in1) (s:=s) r1 r2 r r' λj x y d e u v h1 h2 ix iy rx ry=>ih' d (Nat.lt_of_le_of_lt (XX h1) dl) x y e u v ix iy rx ry
    have ez:((List.range (min its.toArray.size jts.toArray.size)).all (λj=>pN (ds.getD j .non) (es.getD j .non))&&its.toArray.size==jts.toArray.size)=pN (.tup ds) (.tup es):=by
     rw[ae9]
     by_cases hl:ds.length=es.length
     ·rw[aae (by simp;lia),<-O6 hl]
      congr 2
      simp;lia
     ·rw[O5 hl]
      have:(its.toArray.size==jts.toArray.size)=false:=by simp;lia
      rw[this,Bool.and_false]
    rw[<-ez]
    exact⟨.tuples (e:=λj=>pN (ds.getD j .non) (es.getD j .non)) p1 p2 hu0 it,.tuples (e:=λj=>pN (ds.getD j .non) (es.getD j .non)) p1 p2 hu0 it⟩
  | @lst a xs ds q r=>
   cases(show u=Value.ref a from rx)
   obtain⟨its,r1,p1,_⟩:=I.list q
   cases hy with
   | non=>cases ry;unfold pN;exact⟨.list_none p1.isList hu0,.list_none p1.isList hu0⟩
   | bl b=>cases ry;unfold pN;exact⟨.list_bool b p1.isList hu0,.list_bool b p1.isList hu0⟩
   | int b=>obtain⟨t,rfl⟩:=ry;unfold pN;exact⟨.list_int b t p1.isList hu0,.list_int b t p1.isList hu0⟩
   | str b=>obtain⟨t,rfl⟩:=ry;unfold pN;exact⟨.list_str b t p1.isList hu0,.list_str b t p1.isList hu0⟩
   | tup q' r'=>cases ry;obtain⟨_,_,p,_⟩:=I.tuple q';unfold pN;exact⟨.list_tuple p1.isList p hu0,.list_tuple p1.isList p hu0⟩
   | @lst b ys es q' r'=>
    cases(show v=Value.ref b from ry)
    obtain⟨jts,r2,p2,_⟩:=I.list q'
    have l1:=r1.length
    have l2:=r2.length
    have l3:=r.length
    have l4:=r'.length
    have dl:deps ds<n:=by unfold dep at hd;lia
    have it:=Vw (A:=A.in1) (s:=s) r1 r2 r r' λj x y d e u v h1 h2 ix iy rx ry=>ih' d (Nat.lt_of_le_of_lt (XX h1) dl) x y e u v ix iy rx ry
    by_cases hl:ds.length=es.length
    ·have ez:(List.range its.toArray.size).all (λj=>pN (ds.getD j .non) (es.getD j .non))=pN (.lst ds) (.lst es):=by
      rw[Zv,<-O6 hl]
      congr 2
      simp;lia
     have sz:its.toArray.size=jts.toArray.size:=by simp;lia
     rw[<-ez]
     exact⟨.lists (e:=λj=>pN (ds.getD j .non) (es.getD j .non)) p1.isList p2.isList sz hu0 it,.lists (e:=λj=>pN (ds.getD j .non) (es.getD j .non)) p1.isList p2.isList sz hu0 it⟩
    ·have sz:(its.toArray.size != jts.toArray.size)=true:=by simp;lia
     rw[Zv,O5 hl]
     exact⟨.lists_lengths p1.isList p2.isList sz hu0,.lists_lengths p1.isList p2.isList sz hu0⟩
end
def awp(K:Frag):R2:=λx y H Q=>∃d e,Is K H x d/\Is K H y e/\dep d<=20/\Q (.bl (pN d e)) H
def awn(K:Frag):R2:=λx y H Q=>∃d e,Is K H x d/\Is K H y e/\dep d<=20/\Q (.bl (!pN d e)) H
theorem ahi(hu:X.A.units+64<cLine):Bg X (compareOp .Eq) (awp X.K):=by
 intro pins s σ H x y v u Q I rx ry h
 obtain⟨d,e,hx,hy,hd,q⟩:=h
 exact(afH I 20 X.A _ _ _ _ _ _ hd () hx hy rx ry).1 _ _ _ _ ⟨.bl _,H,I,rfl,q⟩
theorem ahd(hu:X.A.units+64<cLine):Bg X (compareOp .NotEq) (awn X.K):=by
 intro pins s σ H x y v u Q I rx ry h
 obtain⟨d,e,hx,hy,hd,q⟩:=h
 exact(afH I 20 X.A _ _ _ _ _ _ hd () hx hy rx ry).2 _ _ _ _ ⟨.bl _,H,I,rfl,q⟩
end L2
namespace HM
open PySem
theorem Ub(x:Int):Builtin.bitNot (Builtin.bitNot x)=x:=by
 unfold Builtin.bitNot;lia
theorem VV(n:Nat):¬(0<=Builtin.bitNot (n:Int)):=by
 unfold Builtin.bitNot;lia
theorem Pg(a b:Nat):Builtin.bitAnd (a:Int) (b:Int)=((a &&& b:Nat):Int):=by
 unfold Builtin.bitAnd
 simp
theorem Zz(a b:Nat):Builtin.bitOr (a:Int) (b:Int)=((a ||| b:Nat):Int):=by
 unfold Builtin.bitOr Builtin.bitAnd
 rw[zaf (VV a),zaf (VV b)]
 dsimp only
 rw[Ub,Ub,Ub]
 simp
noncomputable def aZ(n:Nat):List Nat:=(List.range 60).filter λh=>n.testBit h
noncomputable def cnt(n:Nat):Nat:=(aZ n).length
noncomputable def setOf(hs:List Nat):Nat:=hs.foldl (λS h=>S ||| 2 ^ h) 0
theorem Lq(h:Nat):(1:Int)*2 ^ h=((2 ^ h:Nat):Int):=by simp
theorem Yl(n h:Nat):(n &&& 2 ^ h≠0)↔n.testBit h=true:=by
 constructor
 ·intro hn
  cases e:n.testBit h with
  | true=>rfl
  | false=>
   refine absurd (Nat.eq_of_testBit_eq λi=> ?_) hn
   rw[Nat.testBit_and,Nat.testBit_two_pow,Nat.zero_testBit]
   by_cases hi:h=i
   ·subst hi;simp[e]
   ·simp[hi]
 ·intro e hz
  have t:(n &&& 2 ^ h).testBit h=true:=by rw[Nat.testBit_and,e,Nat.testBit_two_pow];simp
  rw[hz,Nat.zero_testBit]at t
  cases t
theorem U4(n h:Nat):((n / 2 ^ h) &&& 1=1)↔n.testBit h=true:=by
 rw[Nat.and_one_is_mod,Nat.testBit_eq_decide_div_mod_eq]
 simp
theorem Mj(hn:n<2 ^ 60)(e:n.testBit h=true):h<60:=by
 by_cases hh:h<60
 ·exact hh
 ·have:n<2 ^ h:=yA hn (Nat.pow_le_pow_right (by decide) ())
  rw[Nat.testBit_lt_two_pow this]at e
  cases e
theorem BL(hab:a<=b)(h:∀i,a<=i->i<b->p i=false):(List.range b).filter p=(List.range a).filter p:=by
 obtain⟨k,rfl⟩:=Nat.exists_eq_add_of_le hab
 rw[List.range_add,List.filter_append]
 have:(List.map (λx=>a+x) (List.range k)).filter p=[]:=by
  rw[List.filter_eq_nil_iff]
  intro x hx
  obtain⟨j,hj,rfl⟩:=List.mem_map.mp hx
  rw[h (a+j) () (by have:=List.mem_range.mp hj;lia)]
  decide
 rw[this,List.append_nil]
theorem Tq(n:Nat)(hn:n<2 ^ 60):(List.range (Builtin.Int.intBits (n:Int))).filter (λh=>n.testBit h)=aZ n:=by
 unfold aZ
 have azq:∀h,n.testBit h=true->h<Builtin.Int.intBits (n:Int):=by
  intro h e
  have h0:n≠0:=by rintro rfl;rw[Nat.zero_testBit]at e;cases e
  unfold Builtin.Int.intBits
  have:¬((n:Int)==0)=true:=by simp[h0]
  rw[if_neg this]
  by_cases hh:h<n.log2+1
  ·simpa using hh
  ·have:n<2 ^ h:=yA (Nat.lt_log2_self) (Nat.pow_le_pow_right (by decide) ())
   rw[Nat.testBit_lt_two_pow this]at e
   cases e
 rcases Nat.le_total (Builtin.Int.intBits (n:Int)) 60 with h | h
 ·refine(BL h λi hi _=> ?_).symm
  cases e:n.testBit i with
  | false=>rfl
  | true=>have:=azq i e;lia
 ·refine BL h λi hi _=> ?_
  cases e:n.testBit i with
  | false=>rfl
  | true=>have:=Mj hn e;lia
theorem intBits_le(n:Nat)(hn:n<2 ^ 60):Builtin.Int.intBits (n:Int)<=60:=by
 unfold Builtin.Int.intBits
 split
 ·decide
 ·rename_i h
  have h0:n≠0:=by rintro rfl;simp at h
  have:(n:Int).natAbs.log2<60:=by
   have e:(n:Int).natAbs=n:=by simp
   rw[e]
   exact(Nat.log2_lt h0).mpr hn
  lia
theorem Pz(hs:List Nat)(i:Nat):(setOf hs).testBit i=decide (i∈hs):=by
 unfold setOf
 have go:∀(hs:List Nat) (S:Nat),(hs.foldl (λS h=>S ||| 2 ^ h) S).testBit i=(S.testBit i||decide (i∈hs)):=by
  intro hs
  induction hs with
  | nil=>intro S;simp
  | cons h r ih=>
   intro S
   rw[List.foldl_cons,ih,Nat.testBit_or,Nat.testBit_two_pow]
   by_cases e:h=i
   ·subst e;simp
   ·have e':¬i=h:=λz=>e z.symm
    simp[e,e']
 rw[go];simp
theorem CP:h∈aZ n↔h<60/\n.testBit h=true:=by
 unfold aZ;rw[List.mem_filter,List.mem_range]
theorem Fg(n:Nat)(hn:n<2 ^ 60):setOf (aZ n)=n:=by
 refine Nat.eq_of_testBit_eq λi=> ?_
 rw[Pz]
 cases e:n.testBit i with
 | true=>exact zag (CP.mpr ⟨Mj hn e,e⟩)
 | false=>exact zaf λz=>by rw[(CP.mp z).2]at e;cases e
end HM
set_option Elab.async false
set_option linter.all false
set_option maxRecDepth 100000
namespace L2
open PySem PySem.Spec PyProof.Rows
section
variable{κ:Type}[DecidableEq κ]
noncomputable def Ey(kvs:List (κ×V))(k:κ):Option V:=(kvs.find? λkv=>decide (kv.1=k)).map (·.2)
noncomputable def putK(kvs:List (κ×V))(k:κ)(v:V):List (κ×V):=
 if(kvs.any λkv=>decide (kv.1=k))=true then kvs.map (λkv=>if kv.1=k then(kv.1,v)else kv)else kvs++[(k,v)]
theorem GR{p:κ×V}{r:List (κ×V)}{k:κ}(e:p.1=k):Ey (p::r) k=some p.2:=by simp[Ey,List.find?_cons,e]
theorem GX{p:κ×V}{r:List (κ×V)}{k:κ}(e:¬p.1=k):Ey (p::r) k=Ey r k:=by simp[Ey,List.find?_cons,e]
theorem Uy(k:κ):∀kvs:List (κ×V),(kvs.any λkv=>decide (kv.1=k))=(Ey kvs k).isSome
 | []=>rfl
 | p::r=>by
  rw[List.any_cons]
  by_cases e:p.1=k
  ·simp only[GR e,zag e,Bool.true_or,Option.isSome_some]
  ·rw[GX e,zaf e,Bool.false_or];exact Uy k r
theorem Ks(kvs:List (κ×V))(k:κ)(v:V):(putK kvs k v).length<=kvs.length+1:=by
 unfold putK
 split
 ·rw[zan];lia
 ·rw[List.length_append,List.length_cons,List.length_nil];lia
theorem Fe.JW(r:Fe o u):o.isSome=u.isSome:=by
 cases o with
 | none=>cases u with
  | none=>rfl
  | some _=>exact(show False from r).elim
 | some _=>cases u with
  | none=>exact(show False from r).elim
  | some _=>rfl
theorem KV.val(r:KV kvs vs)(k:κ):Fe (Ey kvs k) (valueAt vs k):=by
 unfold KV at r
 induction r with
 | nil=>exact zaa
 | @cons p q ps qs h t ih=>
  obtain⟨h1,h2⟩:=h
  by_cases e:p.1=k
  ·have e':q.1=k:=h1.symm.trans e
   have b:valueAt (q::qs) k=some q.2:=by simp[valueAt,List.find?_cons,e']
   rw[GR e,b];exact h2
  ·have e':¬q.1=k:=λz=>e (h1.trans z)
   have b:valueAt (q::qs) k=valueAt qs k:=by simp[valueAt,List.find?_cons,e']
   rw[GX e,b];exact ih
theorem KV.any(r:KV kvs vs)(k:κ):(kvs.any λkv=>decide (kv.1=k))=vs.any λkv=>decide (kv.1=k):=by
 unfold KV at r
 induction r with
 | nil=>rfl
 | cons h t ih=>rw[List.any_cons,List.any_cons,ih,h.1]
theorem KV.repl(r:KV kvs vs)(k:κ)(ry:RelV y u):
  KV (kvs.map λkv=>if kv.1=k then(kv.1,y)else kv) (vs.map λkv=>if kv.1=k then(kv.1,u)else kv):=by
 unfold KV at r ⊢
 induction r with
 | nil=>exact .nil
 | @cons p q ps qs h t ih=>
  rw[List.map_cons,List.map_cons]
  refine .cons ?_ ih
  obtain⟨h1,h2⟩:=h
  by_cases e:p.1=k
  ·rw[if_pos e,if_pos (h1.symm.trans e)];exact⟨h1,ry⟩
  ·rw[if_neg e,if_neg (λz=>e (h1.trans z))];exact⟨h1,h2⟩
theorem KV.put(r:KV kvs vs)(k:κ)(ry:RelV y u):KV (putK kvs k y) (stored vs k u):=by
 unfold putK stored
 rw[r.any k]
 by_cases e:(vs.any λkv=>decide (kv.1=k))=true
 ·rw[if_pos e,if_pos e];exact r.repl k ry
 ·rw[if_neg e,if_neg e];exact Paired.snoc r ⟨rfl,ry⟩
theorem KV.length(r:KV kvs vs):kvs.length=vs.length:=Paired.length r
end
theorem Zg(r:RelV (kV k) u):(gM P w).is k u=true:=by
 cases k with
 | inl i=>obtain⟨t,e⟩:=(show ∃t,u=Value.int i t from r);subst e;exact Vn P w i t
 | inr x=>obtain⟨t,e⟩:=(show ∃t,u=Value.str x t from r);subst e;exact Vm P w x t
theorem QF:∀{ks:List Key} {us:List Value},Vals (ks.map kV) us->ItemsAre (gM P w) ks us
 | [],_,r=>by rw[List.map_nil]at r;cases r;exact .nil
 | k::ks,_,r=>by
  rw[List.map_cons]at r
  cases r with
  | cons h t=>exact .cons (Zg h) (QF t)
abbrev KT(H:Hp):List (List Key×V)->List (List Key×Addr×Value)->Prop:=Paired λp q=>p.1=q.1/\H q.2.1=some (.tup (p.1.map kV))/\RelV p.2 q.2.2
theorem KT.val(r:KT H kvs xs)(k:List Key):Fe (Ey kvs k) ((atKey xs k).map (·.2)):=by
 induction r with
 | nil=>exact zaa
 | @cons p q ps qs h t ih=>
  obtain⟨h1,_,h2⟩:=h
  by_cases e:p.1=k
  ·have e':q.1=k:=h1.symm.trans e
   have b:atKey (q::qs) k=some q.2:=by simp[atKey,List.find?_cons,e']
   rw[GR e,b];exact h2
  ·have e':¬q.1=k:=λz=>e (h1.trans z)
   have b:atKey (q::qs) k=atKey qs k:=by simp[atKey,List.find?_cons,e']
   rw[GX e,b];exact ih
theorem KT.repl(r:KT H kvs xs)(k:List Key)(ry:RelV y u):
  KT H (kvs.map λkv=>if kv.1=k then(kv.1,y)else kv) (xs.map (putAt k u)):=by
 induction r with
 | nil=>exact .nil
 | @cons p q ps qs h t ih=>
  rw[List.map_cons,List.map_cons]
  refine .cons ?_ ih
  obtain⟨h1,h2,h3⟩:=h
  unfold putAt
  by_cases e:p.1=k
  ·rw[if_pos e,if_pos (h1.symm.trans e)];exact⟨h1,h2,ry⟩
  ·rw[if_neg e,if_neg (λz=>e (h1.trans z))];exact⟨h1,h2,h3⟩
theorem KT.put(r:KT H kvs xs)(k:List Key)(hb:H b=some (.tup (k.map kV)))(ry:RelV y u):
  KT H (putK kvs k y) (storedH xs k b u):=by
 have e:(kvs.any λkv=>decide (kv.1=k))=(atKey xs k).isSome:=by
  rw[Uy,(r.val k).JW,Option.isSome_map]
 unfold putK storedH
 rw[e]
 by_cases q:(atKey xs k).isSome=true
 ·rw[if_pos q,if_pos q];exact r.repl k ry
 ·rw[if_neg q,if_neg q];exact Paired.snoc r ⟨rfl,hb,ry⟩
theorem KT.keeps(r:KT H kvs xs)(ht:∀b ys,H b=some (.tup ys)->H' b=some (.tup ys)):KT H' kvs xs:=
 Paired.ahq r λ_ _ z=>⟨z.1,ht _ _ z.2.1,z.2.2⟩
section
variable{P:Program}{w:World}{H:Hp}{h:Heap}{a:Addr}
theorem afG(ok:ym P w H h)(e:Rd H a u):bT P w H h a u:=e.ok ok
theorem QW(ok:ym P w H h)(e:Rd H a (.dK kvs)):kvs.length<=sizeLine/\(a==sysModules)=false/\∃vs,KV kvs vs/\h.DictOf (gM P w) a vs:=
 show bT P w H h a (.dK kvs)from afG ok e
theorem adn(ok:ym P w H h)(e:H a=some (.dK kvs)):kvs.length<=sizeLine/\(a==sysModules)=false/\∃vs,KV kvs vs/\h.DictOf (gM P w) a vs:=QW ok (.inl e)
theorem SM(ok:ym P w H h)(e:H a=some (.tup (ks.map kV))):(tupleKind (gM P w)).is h ks a:=by
 obtain⟨_,its,r,o,h1,h2,n,h3⟩:=(show bT P w H h a (.tup (ks.map kV))from ok a _ e)
 exact⟨o,its.toArray,n,h1,h2,h3,by simpa using QF r⟩
theorem VB(ok:ym P w H h)(e:Rd H a (.dT kvs)):kvs.length<=sizeLine/\(a==sysModules)=false/\
  ∃xs,KT H kvs xs/\h.DictOfH (tupleKind (gM P w)) a xs:=by
 obtain⟨z,y,xs,r,o,es,ep,h1,h2,h3,h4,h5⟩:=(show bT P w H h a (.dT kvs)from afG ok e)
 refine⟨z,y,xs,r,o,es,ep,h1,h2,h3,h4,λx hx=> ?_,h5⟩
 have all:∀{l:List (List Key×V)} {m:List (List Key×Addr×Value)},KT H l m->∀x∈m,(tupleKind (gM P w)).is h x.1 x.2.1:=by
  intro l m q
  induction q with
  | nil=>intro x hx;exact nomatch hx
  | @cons p q ps qs hq t ih=>
   intro x hx
   rcases List.mem_cons.mp hx with e | hx
   ·subst e
    exact SM ok (by rw[<-hq.1];exact hq.2.1)
   ·exact ih x hx
 exact all r x hx
theorem af1(ok:ym P w H h)(e:H a=some (.dT kvs)):kvs.length<=sizeLine/\(a==sysModules)=false/\
  ∃xs,KT H kvs xs/\h.DictOfH (tupleKind (gM P w)) a xs:=VB ok (.inl e)
end
def Lh(H:Hp)(a:Addr)(y:V)(r:Option V):Prop:=
 (∃kvs k,Rd H a (.dK kvs)/\y=kV k/\r=Ey kvs k)\/∃kvs k b,Rd H a (.dT kvs)/\y= .ref b/\H b=some (.tup (k.map kV))/\r=Ey kvs k
def Uq(H:Hp)(a:Addr)(y v:V)(H':Hp):Prop:=
 (∃kvs k,H a=some (.dK kvs)/\y=kV k/\kvs.length<sizeLine/\H'=upd H a (.dK (putK kvs k v)))\/
 ∃kvs k b,H a=some (.dT kvs)/\y= .ref b/\H b=some (.tup (k.map kV))/\kvs.length<sizeLine/\H'=upd H a (.dT (putK kvs k v))
theorem Lh.k{H:Hp}{a:Addr}{kvs:List (Key×V)}{k:Key}(e:H a=some (.dK kvs)):Lh H a (kV k) (Ey kvs k):= .inl ⟨kvs,k,.inl e,rfl,rfl⟩
theorem Lh.t{kvs:List (List Key×V)}{k:List Key}(e:H a=some (.dT kvs))(eb:H b=some (.tup (k.map kV))):Lh H a (.ref b) (Ey kvs k):= .inr ⟨kvs,k,b,.inl e,rfl,eb,rfl⟩
theorem Uq.k{H:Hp}{a:Addr}{kvs:List (Key×V)}{k:Key}{v:V}(e:H a=some (.dK kvs))(hl:kvs.length<sizeLine):Uq H a (kV k) v (upd H a (.dK (putK kvs k v))):= .inl ⟨kvs,k,e,rfl,hl,rfl⟩
theorem Uq.t{kvs:List (List Key×V)}{k:List Key}(e:H a=some (.dT kvs))(eb:H b=some (.tup (k.map kV)))(hl:kvs.length<sizeLine):
  Uq H a (.ref b) v (upd H a (.dT (putK kvs k v))):= .inr ⟨kvs,k,b,e,rfl,eb,hl,rfl⟩
section
variable{X:Cx}{pins:List (Addr×Obj)}{σ:St}{H:Hp}{s:Shared}{a:Addr}{y v:V}{u r:Value}{o:Option V}{A:Around}{E:Value->Shared->Prop}
theorem Inv.big(I:Inv X pins σ H s):sysModules<s.heap.objs.size:=by
 have h:mainGlobals<s.heap.objs.size:=(I.mod.glob.keeps I.bk).lt
 exact Nat.lt_trans (by decide) h
theorem aaY{Q:Value->Shared->Prop}(hu:A.units+1<cLine)(I:Inv X pins σ H s)(g:Lh H a y (some v))(ry:RelV y u)(h:∀w' s',Inv X pins σ H s'->RelV v w'->Q w' s'):
  wpAny (model X.prog X.w) A (getItem (.ref a) u) Q E s:=by
 rcases g with⟨kvs,k,e,ey,l⟩ | ⟨kvs,k,b,e,ey,eb,l⟩
 ·subst ey
  obtain⟨z,hd,vs,rel,dd⟩:=QW I.hok e
  obtain⟨w',hw,rw'⟩:=Fe.some_of (v:=v) (o:=valueAt vs k) (by rw[l];exact rel.val k)
  exact wpAny_getItem_of (Zg ry) dd.mapOf hw (h w' _ (I.tok _) rw')
 ·subst ey
  cases(show u=Value.ref b from ry)
  obtain⟨z,hd,xs,rel,dd⟩:=VB I.hok e
  obtain⟨w',hw,rw'⟩:=Fe.some_of (v:=v) (o:=(atKey xs k).map (·.2)) (by rw[l];exact rel.val k)
  obtain⟨p,hp,hp2⟩:=Option.map_eq_some_iff.mp hw
  refine wpAny_getItem_heap (tupleKind_room_in1 hu) (SM I.hok eb) dd hp ?_
  rw[hp2]
  exact h w' _ (I.tok _) rw'
theorem azF{Q:Value->Shared->Prop}(hu:A.units+1<cLine)(I:Inv X pins σ H s)(g:Lh H a y o)(ry:RelV y u)(h:∀s',Inv X pins σ H s'->Q (.bool o.isSome) s'):
  wpAny (model X.prog X.w) A (compareOp .In u (.ref a)) Q E s:=by
 rcases g with⟨kvs,k,e,ey,l⟩ | ⟨kvs,k,b,e,ey,eb,l⟩
 ·subst ey
  obtain⟨z,hd,vs,rel,dd⟩:=QW I.hok e
  refine wpAny_in_of (Zg ry) hd dd.mapOf ?_
  rw[<-(rel.val k).JW,<-l]
  exact h _ (I.tok _)
 ·subst ey
  cases(show u=Value.ref b from ry)
  obtain⟨z,hd,xs,rel,dd⟩:=VB I.hok e
  refine wpAny_in_heap (tupleKind_room_in1 hu) (SM I.hok eb) hd dd ?_
  have q:=(rel.val k).JW
  rw[Option.isSome_map]at q
  rw[<-q,<-l]
  exact h _ (I.tok _)
theorem TJ(I:Inv X pins σ H s)(mu:Mut (H a))(hs:Heap.SameBut a s.heap h')(he:∃q,h'.get? a=some q)(new:bT X.prog X.w (upd H a ob) h' a ob):
  Inv X pins σ (upd H a ob) {s with heap:=h',toks:=t'}:=
 I.write (x:=a) (e:=a) mu (.inl rfl) (λb q hb z=>(hs.2 b hb).trans z) he new
theorem ahU(z:kvs.length<=sizeLine)(hd:(a==sysModules)=false)(rel:KV kvs vs)(dd:h'.DictOf (gM P w) a vs):
  bT P w H' h' a (.dK kvs):=⟨z,hd,vs,rel,dd⟩
theorem QX{Q:Unit->Shared->Prop}(hu:A.units+1<cLine)(I:Inv X pins σ H s)(g:Uq H a y v H')(ry:RelV y u)(rv:RelV v r)(h:∀s',Inv X pins σ H' s'->Q .unit s'):
  wpAny (model X.prog X.w) A (setItem (.ref a) u r) Q E s:=by
 rcases g with⟨kvs,k,e,ey,l,eH⟩ | ⟨kvs,k,b,e,ey,eb,l,eH⟩
 ·subst ey eH
  obtain⟨z,hd,vs,rel,dd⟩:=adn I.hok e
  have hz:vs.length<=sizeLine:=by rw[<-rel.length];exact z
  have hl:(putK kvs k v).length<=sizeLine:=by have:=Ks kvs k v;lia
  refine wpAny_setItem_pairs (hsz:=hz) (Zg ry) dd λh' dd' hs=>h _ ?_
  have he:∃q,h'.get? a=some q:=let⟨q,_,_,hq,_⟩:=dd';⟨q,hq⟩
  exact TJ I (by rw[e];exact zaa) hs he (ahU hl hd (rel.put k rv) dd')
 ·subst ey eH
  cases(show u=Value.ref b from ry)
  obtain⟨z,hd,xs,rel,dd⟩:=af1 I.hok e
  have hz:xs.length<=sizeLine:=by rw[<-Paired.length rel];exact z
  have hl:(putK kvs k v).length<=sizeLine:=by have:=Ks kvs k v;lia
  refine wpAny_setItem_heap (hsz:=hz) (tupleKind_room_in1 hu) (SM I.hok eb) dd λh' dd' hs=>h _ ?_
  obtain⟨q,es,ep,hq,h2,h3,h4,_,h5⟩:=dd'
  refine TJ I (by rw[e];exact zaa) hs ⟨q,hq⟩ ⟨hl,hd,_,(rel.put k eb rv).keeps λc ys ec=> ?_,q,es,ep,hq,h2,h3,h4,h5⟩
  rw[aH (alA ec e (λz=>nomatch z))]
  exact ec
end
section
variable{X:Cx}{pins:List (Addr×Obj)}{σ:St}{H:Hp}{s:Shared}{a:Addr}{kvs:List (Key×V)}{k:Key}{u:Value}{A:Around}{E:Value->Shared->Prop}
theorem apu{Q:Value->Shared->Prop}(I:Inv X pins σ H s)(e:Rd H a (.dK kvs))(h:∀t s',Inv X pins σ H s'->Q (.int kvs.length t) s'):wpAny (model X.prog X.w) A (call (.builtin "len") [.ref a]) Q E s:=by
 obtain⟨z,hd,vs,rel,dd⟩:=QW I.hok e
 refine call_len_dict hd dd (by rw[<-rel.length];rw[sizeLine_eq]at z;lia) ?_
 rw[<-rel.length]
 exact h _ _ (I.tok _)
end
theorem VD(I:Inv X pins σ H s)(g:Lh H a y o):s.TypeIs (.ref a) "dict" := by
 rcases g with⟨kvs,k,e,_,_⟩ | ⟨kvs,k,b,e,_,_,_⟩
 ·obtain⟨_,_,vs,_,dd⟩:=QW I.hok e
  exact dd.typeIs
 ·obtain⟨_,_,xs,_,dd⟩:=VB I.hok e
  exact dd.typeIs
theorem ado(h:Heap)(hb:sysModules<h.objs.size):bT P w H (h.push {cls:= .type "dict",data:= .dict #[]}) h.objs.size (.dK []):=
 ⟨Nat.zero_le _,beq_eq_false_iff_ne.mpr (Ne.symm (xD hb)),[],.nil,Heap.DictOf.new h⟩
def agf:TE:=λ_ H Q=>∀p,H p=none->Q (.ref p) (upd H p (.dK []))
section
variable{X:Cx}{pos:Pos}
theorem acD:PE X (.Dict [] [] pos) agf:=λpins s σ H Q I h=>
 wpAny_Dict_empty ⟨.ref s.heap.objs.size,_,I.laid (a:=s.heap.objs.size) (o:= .dK []) (t':=s.toks) (λ_ _ q=>zD _ q) (zab _) (ado s.heap I.big),rfl,h _ (I.hok.fresh (zab _))⟩
end
structure M1(X:Cx)(o:Expr)(m:Str)(apos:Pos)(e:Expr)(cpos:Pos):Prop where
 base:attributeBase o m X.env (eval o X.env)=eval o X.env
 few:((backTo cpos (starEach [e] X.env)).all (λx=> !x.1)&&(backToKw cpos (keywordEach [] X.env)).all (λx=>x.1.isSome)
  && decide (([e]:List Expr).length+([]:List Keyword).length+(if([]:List Keyword).isEmpty then 0 else 1)<30))=true
 line:(apos.endLine==cpos.line)=true
 trees:backTo cpos (starEach [e] X.env)=[(false,eval e X.env)]
structure M2(X:Cx)(o:Expr)(m:Str)(apos:Pos)(e f:Expr)(cpos:Pos):Prop where
 base:attributeBase o m X.env (eval o X.env)=eval o X.env
 few:((backTo cpos (starEach [e,f] X.env)).all (λx=> !x.1)&&(backToKw cpos (keywordEach [] X.env)).all (λx=>x.1.isSome)
  && decide (([e,f]:List Expr).length+([]:List Keyword).length+(if([]:List Keyword).isEmpty then 0 else 1)<30))=true
 line:(apos.endLine==cpos.line)=true
 trees:backTo cpos (starEach [e,f] X.env)=[(false,eval e X.env),(false,eval f X.env)]
def IsD(H:Hp)(a:Addr):Prop:=(∃kvs,Rd H a (.dK kvs))\/∃kvs,Rd H a (.dT kvs)
theorem ahO(I:Inv X pins σ H s)(d:IsD H a):
  s.TypeIs (.ref a) "dict" /\ (∀b,Value.ref a= .ref b->∃ob,s.heap.get? b=some ob/\ob.dict=none)/\(a==sysModules)=false:=by
 rcases d with⟨kvs,e⟩ | ⟨kvs,e⟩
 ·obtain⟨_,hd,vs,_,dd⟩:=QW I.hok e
  refine⟨dd.typeIs,λb q=> ?_,hd⟩
  cases q
  obtain⟨ob,_,_,h1,h2,_⟩:=dd
  exact⟨ob,h1,h2.2.1⟩
 ·obtain⟨_,hd,xs,_,dd⟩:=VB I.hok e
  refine⟨dd.typeIs,λb q=> ?_,hd⟩
  cases q
  obtain⟨ob,_,_,h1,h2,_⟩:=dd
  exact⟨ob,h1,h2.2.1⟩
section
variable{X:Cx}
theorem aa3:qU X (.builtin "len") (λxs H Q=>∃a kvs,xs=[V.ref a]/\H a=some (.dK kvs)/\Q (.int kvs.length) H):=by
 intro pins s σ H xs us Q I r h
 obtain⟨a,kvs,rfl,ha,q⟩:=h
 obtain⟨u,rfl,ru⟩:=vals1 r
 cases ru
 exact apu I (.inl ha) λt s' I'=>⟨.int kvs.length,H,I',⟨t,rfl⟩,q⟩
end
section
variable{prog:Program}{w:World}{A:Around}{E:Value->Shared->Prop}{s:Shared}
noncomputable def given(i:Int)(t:Tok):Value:=if Builtin.SmallTypes.fitsIndex i=true then .none else .int i t
end
section
variable{X:Cx}{pins:List (Addr×Obj)}{σ:L2.St}{H:Hp}{s:Shared}{h':Heap}
theorem Inv.adP(I:Inv X pins σ H s)(k:∀c o,c≠a->c≠b->s.heap.get? c=some o->h'.get? c=some o)(fa:Ff X pins H a)(fb:Ff X pins H b):Inv X pins σ H {s with heap:=h',toks:=t'}:=by
 obtain⟨na,La,_,a1,a2,a3⟩:=fa
 obtain⟨nb,Lb,_,b1,b2,b3⟩:=fb
 have nit:∀c u,H c=some u->c≠a/\c≠b:=λc u e=>⟨(λz=>by rw[z,na]at e;cases e),(λz=>by rw[z,nb]at e;cases e)⟩
 have kk:∀c o,c∉[a,b]->s.heap.get? c=some o->h'.get? c=some o:=λc o hc e=>k c o (λz=>hc (by simp[z])) (λz=>hc (by simp[z])) e
 refine I.step (g':=s.gens) (d':=s.drawn) (ch:=[a,b]) (λc hc=> ?_) (λc o _ _ hc e _=>kk c o hc e) (λc o _ _ hc e _=>⟨o.slots,kk c o hc e⟩) (λ_ _ _ _ n=>n)
  (λc o hc e=>⟨o,kk c o hc e⟩) (λ_ _ e=>e) (λ_ _ _ e=>e) (λc ps e=>⟨#[],by rw[e];simp⟩) (λm hm=> ?_) (λc u e=> ?_) I.bare
 ·rcases List.mem_cons.mp hc with rfl | hc
  ·exact⟨a1,La,a2,a3⟩
  ·obtain rfl:c=b:=by simpa using hc
   exact⟨b1,Lb,b2,b3⟩
 ·obtain⟨o,es,ep,ho,r⟩:=hm
  exact⟨o,es,ep,k _ o (Ne.symm La) (Ne.symm Lb) ho,r⟩
 ·refine(I.hok c u e).stay (λd v hd q=> ?_) (λ_ q=>q) λ_ _ q=>q
  rcases hd with z | z
  ·rw[z]at q ⊢;exact k _ v (nit c u e).1 (nit c u e).2 q
  ·exact k _ v (nit d _ z).1 (nit d _ z).2 q
theorem Inv.aby(I:Inv X pins σ H s)(k:∀c o,c≠a->c≠b->s.heap.get? c=some o->h'.get? c=some o)(fa:Ff X pins H a)(fb:Ff X pins H b)(hT:s.heap.objs.size<=T)(new:bT X.prog X.w (upd H T o) h' T o):
  Inv X pins σ (upd H T o) {s with heap:=h',toks:=t'}:=by
 have J:Inv X pins σ H {s with heap:=h',toks:=t'}:=I.adP k fa fb
 have hn:H T=none:=I.hok.fresh hT
 obtain⟨na,La,_,a1,a2,a3⟩:=fa
 obtain⟨nb,Lb,_,b1,b2,b3⟩:=fb
 have kk:∀c o,c∉[a,b]->s.heap.get? c=some o->h'.get? c=some o:=λc o hc e=>k c o (λz=>hc (by simp[z])) (λz=>hc (by simp[z])) e
 have ne:∀{c:Addr} {u:Obj},s.heap.get? c=some u->c≠T:=λ{c u} e=>xD (yA (zS e) hT)
 refine I.step (g':=s.gens) (d':=s.drawn) (ch:=[a,b]) (λc hc=> ?_) (λc o _ _ hc e _=>kk c o hc e) (λc o _ _ hc e _=>⟨o.slots,kk c o hc e⟩) (λc u _ e n=>by rw[aH (ne e)];exact n)
  (λc o hc e=>⟨o,kk c o hc e⟩) (λc xs e=>by rw[aH (bC e hn)];exact e) (λc ob u e=>by rw[aH (bC e hn)];exact e) (λc ps e=>⟨#[],by rw[aH (bC e hn),e];simp⟩) (λm hm=> ?_) (J.hok.track hn new) I.bare
 ·rcases List.mem_cons.mp hc with rfl | hc
  ·exact⟨a1,La,a2,a3⟩
  ·obtain rfl:c=b:=by simpa using hc
   exact⟨b1,Lb,b2,b3⟩
 ·obtain⟨o,es,ep,ho,r⟩:=hm
  exact⟨o,es,ep,k _ o (Ne.symm La) (Ne.symm Lb) ho,r⟩
end
theorem abw:(2:Nat)<=sizeLine:=by rw[sizeLine_eq];decide
structure zA(K:Frag)(C:Addr)(name:Str):Prop where
 cd:∃cd,PySem.W.clsIn K C=some cd/\cd.hasDict=true/\cd.mro.isEmpty=false/\cd.mro.contains (.type "object")=true/\cd.mro.contains (.type "BaseException")=true/\(∀self,refuseLoop self "__setattr__" cd.mro=pure .unit)
 sa:findIn K (.ref C) "__setattr__" = some (some (.builtin "object.__setattr__"))
 ga:findIn K (.ref C) "__getattribute__" = some (some (.builtin "BaseException.__getattribute__"))
 no:findIn K (.ref C) name=some none
section
variable{prog:Program}{w:World}{A:Around}{E:Value->Shared->Prop}{s:Shared}{K:Frag}{x C:Addr}{name:Str}{v:Value}
def XAt(h:Heap)(x C:Addr)(vs:Array Value)(dx:Option Addr):Prop:=h.get? x=some {cls:= .ref C,dict:=dx,data:= .fields vs}
theorem ajw(a:XAt h x C vs none):PySem.W.InstAt h x {cls:= .ref C,dict:=none,data:= .fields vs} C none:=⟨a,rfl,rfl,trivial⟩
theorem ajs{Q:Unit->Shared->Prop}(X:K.In s.heap)(F:zA K C name)(hx:XAt s.heap x C vs none)
  (h:∀h' dx,s.heap.objs.size=dx->XAt h' x C vs (some dx)->h'.Ns1 dx (λy=>if y=name then some v else none)->(∀b o,b≠x->s.heap.get? b=some o->h'.get? b=some o)->Q .unit {s with heap:=h',toks:=s.toks+2}):
  wpAny (model prog w) A (setAttr (.ref x) name v) Q E s:=by
 have I:=ajw hx
 obtain⟨cd,hc,hhd,hne,hob,_,hre⟩:=F.cd
 have SF:=PySem.F.store_object
 refine PySem.W.set_plain X I F.sa ?_
 have sub:PySem.W.Looks (model prog w) s.heap (isInstance (.ref x) (.type "object")) true:=I.type.andThen (PySem.W.looks_mroIn X (by unfold PySem.W.mroIn;rw[hc,Option.bind_some,if_neg (by rw[hne];decide),hob]))
 refine codeAny_call_builtin SF.slot.plain SF.entry (@PySem.W.check_slot (model prog w) _ _ {s with toks:=s.toks+1} "object.__setattr__" "object" "__setattr__" (.ref x) [.str name s.toks,v] [] _ SF.kind SF.split sub (SF.args (.ref x) (.str name s.toks) v) ?_)
 have hm:PySem.W.Looks (model prog w) s.heap (mroOf (.ref C)) cd.mro:=(PySem.W.looks_clsIn X hc).andThen .now
 have L3:PySem.W.Looks (model prog w) s.heap (Builtin.ObjectAttr.storeTaker? none) none:= .now
 rw[PySem.W.osa_eq,refuse_eq]
 refine zC (zC (PySem.W.Looks.here (s:={s with toks:=s.toks+1}) I.type (zC (PySem.W.Looks.here (s:={s with toks:=s.toks+1}) hm ?_))))
 rw[hre]
 refine zI (zC (PySem.W.Looks.here (s:={s with toks:=s.toks+1}) I.type (zC (PySem.W.Looks.here (s:={s with toks:=s.toks+1}) (PySem.W.looks_findIn X F.no) (zC (PySem.W.Looks.here (s:={s with toks:=s.toks+1}) L3 ?_))))))
 refine zC (zI (zC (zC (wpAny_loadPart (s:={s with toks:=s.toks+1}) hx (zC (PySem.W.Looks.here (s:={s with toks:=s.toks+1}) (PySem.W.looks_clsIn X hc) ?_))))))
 rw[hhd]
 rw[if_neg (by decide)]
 dsimp only
 rw[if_neg (by simp[typeHasDict])]
 have hxs:x≠s.heap.objs.size:=xD (zS hx)
 have hx₁:(s.heap.push {cls:= .type "dict",data:= .dict #[]}).get? x=some {cls:= .ref C,dict:=none,data:= .fields vs}:=zD _ hx
 refine zC (wpAny_alloc' (zC (wpAny_update' hx₁ (zI ?_))))
 have hgd:((s.heap.push {cls:= .type "dict",data:= .dict #[]}).update x λo=>{cls:=o.cls,dict:=some s.heap.objs.size,data:=o.data,slots:=o.slots}).get? s.heap.objs.size=some {cls:= .type "dict",data:= .dict #[]}:=
  (Heap.get?_update_ne _ _ _ _ hxs.symm).trans (Heap.get?_push_at rfl rfl)
 have hnd:((s.heap.push {cls:= .type "dict",data:= .dict #[]}).update x λo=>{cls:=o.cls,dict:=some s.heap.objs.size,data:=o.data,slots:=o.slots}).Ns s.heap.objs.size (λ_=>none):=
  ⟨_,#[],_,hgd,rfl,λe he=>absurd he (by simp),λ_=>rfl⟩
 show wpAny _ _ (Builtin.ObjectAttr.storeInDict s.heap.objs.size (.str name s.toks) name v) _ _ _
 unfold Builtin.ObjectAttr.storeInDict Builtin.ObjectAttr.newKeyGuard
 refine zC (zI (zC (wpAny_nsSet1 (Heap.Ns1.of_empty hnd) λh' hn' hs=> ?_)))
 obtain⟨oD,esD,epD,hoD,hdD,hcD⟩:=hn'.count (Within.cons name v Within.nil)
 refine zC (wpAny_lookBehind hoD (by rw[hdD];exact pastItsLine_dict (yY hcD (by rw[List.length_cons,List.length_nil,sizeLine_eq];lia))) ?_)
 wp_walk
 have hx':h'.get? x=some {cls:= .ref C,dict:=some s.heap.objs.size,data:= .fields vs}:=(hs.2 x hxs).trans (vF _ hx₁ rfl)
 refine h h' _ rfl hx' hn' λb ob hb e=> ?_
 exact(hs.2 b (xD (zS e))).trans ((Heap.get?_update_ne _ _ _ _ hb).trans (zD _ e))
theorem Zm:builtinKind "BaseException.__getattribute__" = some .slot:=by decide +kernel
theorem Vy:splitId "BaseException.__getattribute__" = some ("BaseException","__getattribute__"):=by decide +kernel
theorem Zn(self:Value):bindSpecial (.builtin "BaseException.__getattribute__") self=pure (.builtin "BaseException.__getattribute__",[self]):=by
 have:=(PySem.F.excAttr_ValueError).ga.bind self
 exact this
theorem auZ{Q:Value->Shared->Prop}(X:K.In s.heap)(F:zA K C name)(hgn:findIn K (.ref C) "__getattr__" = some none)(hx:XAt s.heap x C vs (some dx))(hn:s.heap.Ns1 dx mA)(hv:mA name=some v)(hh:PySem.W.handedIn v=true)
  (h:Q v {s with toks:=s.toks+1}):wpAny (model prog w) A (getAttr (.ref x) name expr) Q E s:=by
 obtain⟨od,hod,hl⟩:=JQ hn
 have I:PySem.W.InstAt s.heap x {cls:= .ref C,dict:=some dx,data:= .fields vs} C (some od):=⟨hx,rfl,rfl,hod⟩
 obtain⟨cd,hc,hhd,hne,_,hbe,_⟩:=F.cd
 have hf:PySem.W.findObj K C (some od) name=some (.value v):=by
  unfold PySem.W.findObj PySem.W.ownOf
  rw[hc,Option.bind_some,F.no]
  simp only[Option.bind_some]
  rw[if_pos hhd,hl,hv]
  rfl
 have L0:=I.type (M:=model prog w)
 have L1:=PySem.W.looks_findIn (M:=model prog w) X F.ga
 have L2:=PySem.W.looks_find (M:=model prog w) X I hf
 have L3:=PySem.W.looks_findIn (M:=model prog w) X hgn
 have sub:PySem.W.Looks (model prog w) s.heap (isInstance (.ref x) (.type "BaseException")) true:=I.type.andThen (PySem.W.looks_mroIn X (by unfold PySem.W.mroIn;rw[hc,Option.bind_some,if_neg (by rw[hne];decide),hbe]))
 obtain⟨hh',g,d,t,os⟩:=s
 unfold getAttr getAttrBy
 refine zC (wpAny_mkText (wpAny_holding (zC (L0.at (zC (L1.at ?_))))))
 dsimp only
 rw[if_neg (by rw[show(Value.builtin "BaseException.__getattribute__" == Value.builtin "object.__getattribute__")=false from by decide +kernel,Bool.and_false];decide)]
 unfold getAttrByItsOwn hookBefore
 rw[if_pos (show onTheHeap (Value.ref C)=true from rfl)]
 refine zC (L3.at (zC ?_))
 have f3:=Zn (.ref x)
 have hx0:(expr&&onTheHeap (Value.builtin "BaseException.__getattribute__"))=false:=by cases expr<;>rfl
 repeat (any_goals (first | assumption | wp_step))
 refine codeAny_call_builtin PySem.F.excAttr_ValueError.ga.plain PySem.F.entry_bexc_ga (@PySem.W.check_slot (model prog w) _ _ ⟨hh',g,d,t+1,os⟩ "BaseException.__getattribute__" "BaseException" "__getattribute__" (.ref x) [.str name t] [] _ Zm Vy sub (PySem.F.args_bexc_ga _ _) ?_)
 unfold Builtin.«object.__getattribute__»
 refine zC (zI (zC (zI (zC (L0.at (zC (L2.at ?_)))))))
 refine zI ?_
 dsimp only
 rw[PySem.W.handedOut_of hh]
 exact zI h
end
end L2
namespace L2
open PySem
section
variable{prog:Program}{w:World}{A:Around}{E:Value->Shared->Prop}{h:Heap}{g:Array GenState}{d:Drawn}{t:Nat}{os:OsState}
variable{nm q:Str}{C N:Addr}{bs bm bmB:List Value}{hdct:Bool}{sn:List Str}{sub:List Value}{ab:Bool}{col:Option Bool}{dd:Option Addr}{k0 k1 k2 k3 k5:Option Value}{B newId initId:String}
structure V2(B:String)(bm:List Value):Prop where
 has:bm.contains (.type B)=true
 noA:bm.contains (.type "AttributeError")=false
 noN:bm.contains (.type "NameError")=false
theorem Uw(F:ExcBaseFacts B newId initId bmB)(T:V2 B bm){rest:List Value}{Q:Unit->Shared->Prop}(hC:h.get? C=some (excClassObj nm q C N bs bm hdct sn sub ab col dd k0 k1 k2 k3 k5 newId))
  (hq:Q .unit ⟨h,g,d,t,os⟩):wpAny M A (checkBuiltinCall newId ⟨.ref C::rest,[]⟩) Q E ⟨h,g,d,t,os⟩:=by
 have hcont:(Value.ref C::bm).contains (.type B)=true:=by rw[List.contains_cons,T.has,Bool.or_true]
 have hstar:=F.noStar
 simp only[checkBuiltinCall,F.newKind,F.newSplit,F.newRow]
 repeat (first | refine wpAny_loadPart_at hC ?_ | (refine wpAny_isSubtype_exc hC ?_;rw[hcont]) | refine wpAny_staticBase_exc hC ?_ | refine wpAny_madeBy_exc hC ?_ | simp only[bne_self_eq_false,Bool.false_eq_true,if_false] | wp_step)
 exact hq
theorem ajv{R:Result->Shared->Prop}(F:ExcBaseFacts B newId initId bmB)(T:V2 B bm){rest:List Value}(hC:h.get? C=some (excClassObj nm q C N bs bm hdct sn sub ab col dd k0 k1 k2 k3 k5 newId))
  (hq:R (.ok (.ret (.ref (h.objs.size+1)))) ⟨(h.push {cls:= .type "tuple",data:= .seq rest.toArray}).push
   {cls:= .ref C,data:= .fields #[.ref h.objs.size,.none,.none,.none,.bool false,.none]},g,d,t,os⟩) (hrest:rest.length<=sizeLine):
  codeAny (model prog w) A (.builtin newId ⟨.ref C::rest,[]⟩) R ⟨h,g,d,t,os⟩:=by
 have hends:=F.ends
 have hcB:(Value.ref C::bm).contains (.type B)=true:=by rw[List.contains_cons,T.has,Bool.or_true]
 have hcA:(Value.ref C::bm).contains (.type "AttributeError")=false:=by rw[List.contains_cons,T.noA];rfl
 have hcN:(Value.ref C::bm).contains (.type "NameError")=false:=by rw[List.contains_cons,T.noN];rfl
 refine codeAny_builtinAt F.entry ?_
 unfold Builtin.«BaseException.__new__»
 refine wpAt_bind ?_
 show wpAt _ _ _ (stack >>= _) _ _ _
 refine wpAt_bind (wpAt_stack λp below=>wpAt_of_wpAny ?_)
 wp_walk
 refine wpAt_of_wpAny ?_
 rw[F.owner]
 repeat (first | with_reducible refine wpAny_madeHere_exc F.canon hC ?_ | with_reducible refine wpAny_loadPart_at hC ?_ | (with_reducible refine wpAny_isSubtype_exc hC ?_;first | rw[hcB] | rw[hcA] | rw[hcN]) | wp_step)
 show R _ _
 rw[Heap.size_push]
 exact hq
theorem Uu(F:ExcBaseFacts B newId initId bmB)(T:V2 B bm){rest:List Value}{Q:Fin->Shared->Prop}
  (hC:h.get? C=some (excClassObj nm q C N bs bm hdct sn sub ab col dd k0 k1 k2 k3 k5 newId)) (hi:PySem.W.Looks (model prog w) h (typeLookup (.ref C) "__init__") (some (.ref fI)))
  (hfI:h.get? fI=some oI) (hfc:oI.cls= .type "function")
  (hq:∀h' e,h.objs.size<=e->Heap.MadeExcOf h h' e (.ref C) rest->
   wpAny (model prog w) A (call (.ref fI) (.ref e::rest)) (λr s'=>r= .none/\Q (.done (.ret (.ref e))) s') E ⟨h',g,d,t,os⟩) (hrest:rest.length<=sizeLine):
  wpAny (model prog w) A (Builtin.«type.__call__» ⟨.ref C::rest,[]⟩) Q E ⟨h,g,d,t,os⟩:=by
 repeat (first | with_reducible refine wpAny_loadPart_at hC ?_ | with_reducible refine wpAny_madeBy_exc hC ?_ | wp_step)
 refine codeAny_call_builtin_code (Code.quiet_builtin _ F.quiet) (Uw F T hC ?_)
 refine ajv F T hC ?_ hrest
 show wpAny _ _ _ _ _ _
 have hC₁:=zD {cls:= .ref C,data:= .fields #[.ref h.objs.size,.none,.none,.none,.bool false,.none]}
  (zD {cls:= .type "tuple",data:= .seq rest.toArray} hC)
 have hfI₁:=zD {cls:= .ref C,data:= .fields #[.ref h.objs.size,.none,.none,.none,.bool false,.none]}
  (zD {cls:= .type "tuple",data:= .seq rest.toArray} hfI)
 have hget:((h.push {cls:= .type "tuple",data:= .seq rest.toArray}).push
   {cls:= .ref C,data:= .fields #[.ref h.objs.size,.none,.none,.none,.bool false,.none]}).get? (h.objs.size+1)=some
   {cls:= .ref C,data:= .fields #[.ref h.objs.size,.none,.none,.none,.bool false,.none]}:=by heap_get
 have hcC:(Value.ref C::bm).contains (.ref C)=true:=by simp
 unfold isInstance
 repeat (first | with_reducible refine wpAny_loadPart_at hget ?_ | (with_reducible refine wpAny_isSubtype_exc hC₁ ?_;rw[hcC]) | wp_step)
 show wpAny _ _ (typeLookup (.ref C) _) _ _ _
 refine hi _ _ _ _ (λb o hb=>zD _ (zD _ hb)) ?_
 refine wpAny_holding (zC ?_)
 unfold bindSpecial
 refine zC (wpAny_typeOf (T:= "function") ⟨_,hfI₁,hfc⟩ ?_)
 rw[if_pos (by decide)]
 refine zI (zC (wT (hq _ (h.objs.size+1) (Nat.le_succ _) ⟨λb o hb=>zD _ (zD _ hb),Heap.get?_none_of_le (Nat.le_succ _),h.objs.size,hget,Heap.get?_none_of_le (zab _),?_⟩) (λr s' hr=> ?_) λ_ _ x=>x))
 ·exact zD _ (Heap.get?_push_at rfl rfl)
 ·obtain⟨rfl,hQ⟩:=hr
  wp_walk
  exact hQ
theorem x_call(F:ExcBaseFacts B newId initId bmB)(T:V2 B bm){rest:List Value}{Q:Value->Shared->Prop}
  (hC:h.get? C=some (excClassObj nm q C N bs bm hdct sn sub ab col dd k0 k1 k2 k3 k5 newId)) (hi:PySem.W.Looks (model prog w) h (typeLookup (.ref C) "__init__") (some (.ref fI)))
  (hfI:h.get? fI=some oI) (hfc:oI.cls= .type "function")
  (hq:∀h' e,h.objs.size<=e->Heap.MadeExcOf h h' e (.ref C) rest->
   wpAny (model prog w) (A.under (.builtin "type.__call__" ⟨.ref C::rest,[]⟩)) (call (.ref fI) (.ref e::rest)) (λr s'=>r= .none/\Q (.ref e) s') E ⟨h',g,d,t,os⟩) (hrest:rest.length<=sizeLine):
  wpAny (model prog w) A (call (.ref C) rest) Q E ⟨h,g,d,t,os⟩:=by
 have f1:=tc_lookup
 have f2:=tc_bind (.ref C)
 have hT:(⟨h,g,d,t,os⟩:Shared).TypeIs (.ref C) "type" := ⟨_,hC,rfl⟩
 refine wpAny_call (codeAny_of_tree ?_)
 show wpAny _ _ (callAny (.ref C) _) _ _ _
 repeat (any_goals (first | assumption | with_reducible refine wpAny_loadPart_at hC ?_ | wp_step))
 refine⟨rfl,?_⟩
 refine codeAny_call_builtin_at (Code.quiet_builtin _ (by decide +kernel)) entry_typeCall (wpAny_check_type_call_sub hC (Uu (hrest:=hrest) F T hC hi hfI hfc λh' e hs hm=> ?_))
 exact hq h' e hs hm
end
structure Exc(h:Heap)(e C:Addr)(dx T:Option Addr)(fl:Value):Prop where
 at_:∃vs,h.get? e=some {cls:= .ref C,dict:=dx,data:= .fields vs}/\(match T with
  | none=>vs[1]? = some .none
  | some T=>vs[1]? = some (.ref T)/\T≠e/\∃oT ts,h.get? T=some oT/\oT.data= .fields ts/\ts[3]? = some fl)
def sJ(fs:List Addr)(e:Addr)(T:Option Addr)(h h':Heap):Prop:=
 (h.objs.size<=h'.objs.size/\∀b o,h.get? b=some o->∃o',h'.get? b=some o')/\(∀b o,b≠e->some b≠T->b∉fs->h.get? b=some o->h'.get? b=some o)/\(∀b o,b≠e->some b≠T->h.get? b=some o->∃sl,h'.get? b=some {o with slots:=sl})
theorem sJ.refl:sJ fs e T h h:=⟨⟨zab _,λb o q=>⟨o,q⟩⟩,λ_ _ _ _ _ x=>x,λ_ o _ _ x=>⟨o.slots,x⟩⟩
theorem sJ.trans(x:sJ fs e T h h1)(y:sJ fs e T' h1 h2)(hT:T'=T\/∃t,T'=some t/\h.objs.size<=t):sJ fs e T h h2:=by
 have ne:∀b o,some b≠T->h.get? b=some o->some b≠T':=λb o n q z=>by
  rcases hT with r | ⟨t,r,q2⟩
  ·exact n (z.trans r)
  ·rw[r]at z;cases z
   exact absurd (yA (zS q) q2) (wP _)
 refine⟨⟨yY x.1.1 y.1.1,λb o q=>let⟨o1,q1⟩:=x.1.2 b o q;y.1.2 b o1 q1⟩,λb o n1 n2 n3 q=>y.2.1 b o n1 (ne b o n2 q) n3 (x.2.1 b o n1 n2 n3 q),λb o n1 n2 q=> ?_⟩
 obtain⟨sl,e1⟩:=x.2.2 b o n1 n2 q
 obtain⟨sl2,e2⟩:=y.2.2 b _ n1 (ne b o n2 q) e1
 exact⟨sl2,e2⟩
section
variable{M:Model}{A:Around}{E:Value->Shared->Prop}{s:Shared}
theorem Yu{Q:Unit->Shared->Prop}
  (hfr:A.frames=some (env::outer)) (hl:s.heap.FunFrames base (env::outer)) (hf:env.frame=some L)
  (he:s.heap.get? e=some {cls:= .ref C,dict:=dx,data:= .fields vs}) (hsz:1<vs.size)
  (h:∀h' T,s.heap.objs.size<=T->sJ ((env::outer).filterMap (·.frame)) e (some T) s.heap h'->Exc h' e C dx (some T) (rawInt L)->Q .unit {s with heap:=h'}):
  wpAny M A (do let a <-frameOf env;let pl <-entryPlaceOf L hadNext;let b <-EntryCells.newEntry head a .none (rawInt L) .none pl;setField (.ref e) 1 b) Q E s:=by
 have hene:e∉(env::outer).filterMap (·.frame):=λhm=>by
  obtain⟨_,o,ho,hnf⟩:=hl.mem hm
  rw[he]at ho;injection ho with ho;subst ho;exact hnf vs rfl
 refine zC (wpAny_frameOf_fun hfr hl hf λh₁ hs₁=> ?_)
 refine zC (wpAny_entryPlaceOf λpl hpl=> ?_)
 unfold EntryCells.newEntry newFields
 refine zC (wS ?_ (hpl.sizeOk5 _ _ _ _ _))
 have he₁:h₁.get? e=some {cls:= .ref C,dict:=dx,data:= .fields vs}:=(hs₁.2.1 e hene).trans he
 have he₂:=zD (h:=h₁) {cls:= .type "traceback",dict:=none,data:= .fields ([head,.ref L,.none,rawInt L,.none]++(if pl.isEmpty then List.replicate 6 Value.none else pl)).toArray} he₁
 refine wpAny_setField he₂ rfl hsz (h _ h₁.objs.size (by rw[hs₁.1];exact zab _) ?_ ?_)
 ·refine⟨⟨?_,λb o q=> ?_⟩,λb o n1 n2 n3 q=> ?_,λb o n1 n2 q=> ?_⟩
  ·rw[Heap.size_after_update,Heap.size_push,hs₁.1];lia
  ·by_cases n1:b=e
   ·subst n1
    exact⟨_,vF _ he₂ (Obj.isFreed_of_fields (Obj.data_mapFields rfl _))⟩
   ·obtain⟨sl,q1⟩:=hs₁.2.2 b o q
    exact⟨_,(xL _ _ (Ne.symm n1)).trans (zD _ q1)⟩
  ·rw[xL _ _ (Ne.symm n1)]
   exact zD _ ((hs₁.2.1 b n3).trans q)
  ·obtain⟨sl,q1⟩:=hs₁.2.2 b o q
   refine⟨sl,?_⟩
   rw[xL _ _ (Ne.symm n1)]
   exact zD _ q1
 ·have hTe:h₁.objs.size≠e:=xS (zS he₁)
  have hd₃:=Obj.data_mapFields (o:={cls:= .ref C,dict:=dx,data:= .fields vs}) rfl (·.setIfInBounds 1 (Value.ref h₁.objs.size))
  have he₃:=vF (Obj.mapFields (·.setIfInBounds 1 (Value.ref h₁.objs.size))) he₂ (Obj.isFreed_of_fields hd₃)
  have hT₃:=(xL (h₁.push {cls:= .type "traceback",dict:=none,data:= .fields ([head,.ref L,.none,rawInt L,.none]++(if pl.isEmpty then List.replicate 6 Value.none else pl)).toArray})
   (Obj.mapFields (·.setIfInBounds 1 (Value.ref h₁.objs.size))) (Ne.symm hTe)).trans (yB h₁ rfl)
  refine⟨⟨_,he₃,by simp[hsz],hTe,_,_,hT₃,rfl,by first | (simp;done) | (rcases hpl with rfl | ⟨_,_,_,_,_,_,_,rfl⟩<;>simp)⟩⟩
theorem sJ.upd(ho:h.get? T=some oT)(hfr:(f oT).isFreed=false):sJ fs e (some T) h (h.update T f):=by
 have k:∀b o,some b≠some T->h.get? b=some o->(h.update T f).get? b=some o:=λb o n q=>by
  rw[xL _ _ (λz=>n (by rw[z]))];exact q
 refine⟨⟨by rw[Heap.size_after_update];exact zab _,λb o q=> ?_⟩,λb o _ n2 _ q=>k b o n2 q,λb o _ n2 q=>⟨o.slots,k b o n2 q⟩⟩
 by_cases z:b=T
 ·subst z;exact⟨_,vF _ ho hfr⟩
 ·exact⟨o,k b o (λy=>z (xI y)) q⟩
theorem Cd{Q:Unit->Shared->Prop}(x:Exc s.heap e C dx T fl)
  (h:∀h',sJ [] e T s.heap h'->Exc h' e C dx T (fr.elim .none λf=>rawInt f)->Q .unit {s with heap:=h'}):wpAny M A (setFlight (.ref e) fr) Q E s:=by
 obtain⟨vs,he,hT⟩:=x.at_
 unfold setFlight
 cases T with
 | none=>
  refine zC (vS he rfl hT ?_)
  rw[if_neg (by decide)]
  exact zI (h s.heap .refl ⟨vs,he,hT⟩)
 | some T=>
  obtain⟨h1,hne,oT,ts,hoT,hd,h3⟩:=hT
  refine zC (vS he rfl h1 ?_)
  rw[if_pos (show(Value.ref T != Value.none)=true from by simp)]
  have hsz3:3<ts.size:=(Array.getElem?_eq_some_iff.mp h3).1
  refine wpAny_setField hoT hd hsz3 (h _ (.upd hoT (Obj.isFreed_of_fields (Obj.data_mapFields hd _))) ⟨vs,?_,h1,hne,_,_,vF _ hoT (Obj.isFreed_of_fields (Obj.data_mapFields hd _)),Obj.data_mapFields hd _,by simp[hsz3]⟩)
  rw[xL _ _ hne];exact he
theorem Wj{Q:Unit->Shared->Prop}
  (hfr:A.frames=some (env::outer)) (hl:s.heap.FunFrames base (env::outer)) (hf:env.frame=some L) (x:Exc s.heap e C dx T fl) (hfl:fl=fl\/fl=rawInt L)
  (h:∀h' T',(T=some T'\/s.heap.objs.size<=T')->sJ ((env::outer).filterMap (·.frame)) e T s.heap h'->Exc h' e C dx (some T') (rawInt L)->Q .unit {s with heap:=h'}):wpAny M A (noteFrame (.ref e) env) Q E s:=by
 obtain⟨vs,he,hT⟩:=x.at_
 unfold noteFrame
 simp only[hf]
 cases T with
 | none=>
  refine zC (vS he rfl hT ?_)
  rw[if_neg (by decide)]
  refine Yu hfr hl hf he (Array.getElem?_eq_some_iff.mp hT).1 λh' T hs k x'=>h h' T (.inr hs) ?_ x'
  exact⟨k.1,λb o n1 _ n3 q=>k.2.1 b o n1 (λz=>by cases z;exact absurd (yA (zS q) hs) (wP _)) n3 q,λb o n1 _ q=>k.2.2 b o n1 (λz=>by cases z;exact absurd (yA (zS q) hs) (wP _)) q⟩
 | some T=>
  obtain⟨h1,hne,oT,ts,hoT,hd,h3⟩:=hT
  refine zC (vS he rfl h1 ?_)
  rw[if_pos (show(Value.ref T != Value.none)=true from by simp)]
  refine zC (vS hoT hd h3 ?_)
  by_cases hq:fl=rawInt L
  ·subst hq
   rw[if_pos (show(rawInt L==rawInt L)=true from by simp)]
   exact zI (h s.heap T (.inl rfl) .refl x)
  ·rw[if_neg (show ¬((fl==rawInt L)=true)from by simpa using hq)]
   have hsz3:3<ts.size:=(Array.getElem?_eq_some_iff.mp h3).1
   refine zC (wpAny_setField hoT hd hsz3 ?_)
   have other:∀b,b≠T->(s.heap.update T (Obj.mapFields (·.setIfInBounds 3 Value.none))).get? b=s.heap.get? b:=λb hb=>xL _ _ (Ne.symm hb)
   have noRecord:∀b o,s.heap.get? b=some o->(∀vs,o.data≠ .fields vs)->b≠T:=λb o hb hnf q=>by
    rw[q,hoT]at hb;injection hb with hb;subst hb;exact hnf ts hd
   refine Yu hfr (hl.of_keeps λb o hb hnf=>⟨o,(other b (noRecord b o hb hnf)).trans hb,rfl⟩) hf ((other e (Ne.symm hne)).trans he) (Array.getElem?_eq_some_iff.mp h1).1 λh' T' hs k x'=> ?_
   rw[Heap.size_after_update]at hs
   exact h h' T' (.inr hs) ((sJ.upd hoT (Obj.isFreed_of_fields (Obj.data_mapFields hd _))).trans k (.inr ⟨T',rfl,hs⟩)) x'
theorem Yt{Q:Unit->Shared->Prop}
  (hfr:A.frames=some (env::outer)) (hl:s.heap.FunFrames base (env::outer)) (hf:env.frame=some L) (x:Exc s.heap e C dx T fl) (hfl:fl=fl\/fl=rawInt L)
  (h:∀h' T',(T=some T'\/s.heap.objs.size<=T')->sJ ((env::outer).filterMap (·.frame)) e T s.heap h'->Exc h' e C dx (some T') .none->Q .unit {s with heap:=h'}):wpAny M A (leaving env (.ref e)) Q E s:=by
 unfold leaving
 refine zC (Wj hfr hl hf x hfl λh' T' hT k x'=> ?_)
 refine Cd (fr:=none) (s:={s with heap:=h'}) x' λh2 k2 x2=>h h2 T' hT (k.trans (T':=some T') ⟨k2.1,λb o n1 n2 _ q=>k2.2.1 b o n1 n2 (by simp) q,k2.2.2⟩ ?_) x2
 rcases hT with r | r
 ·exact .inl r.symm
 ·exact .inr ⟨T',rfl,r⟩
end
end L2
namespace L2
open PySem PySem.Spec PyProof.Rows
abbrev xO(a C:Addr)(dx:Option Addr):HO:= .ext λh=>Exc h a C dx none .none
theorem afx(x:Exc h a C dx none .none):bT P w H h a (xO a C dx):=by
 refine⟨x,?_,λh1 h2 y k=> ?_⟩
 ·obtain⟨vs,e,_⟩:=x.at_;exact⟨_,e⟩
 ·obtain⟨vs,e,q⟩:=y.at_;exact⟨vs,k _ e,q⟩
theorem afy(x:bT P w H h a (xO a C dx)):Exc h a C dx none .none:=x.1
section
variable{X:Cx}{pins:List (Addr×Obj)}{σ:St}{H:Hp}{s:Shared}{a C:Addr}{f:Str}{A:Around}{E:Value->Shared->Prop}
theorem Us{Q:Unit->Shared->Prop}(I:Inv X pins σ H s)(e:H a=some (xO a C none))(F:zA X.K C f)(ry:RelV y u)
  (h:∀dx s',H dx=none->dx≠a->Inv X pins σ (upd (upd H dx (.xd [(f,y)])) a (xO a C (some dx))) s'->Q .unit s'):wpAny (model X.prog X.w) A (setAttr (.ref a) f u) Q E s:=by
 obtain⟨vs,hx,h1⟩:=(afy (I.hok a _ e)).at_
 refine ajs I.zb F hx λh' dx ed hx' hn kp=> ?_
 subst ed
 have hd0:H s.heap.objs.size=none:=I.hok.fresh (zab _)
 have nea:s.heap.objs.size≠a:=xS (I.hok.lt e)
 refine h _ _ hd0 nea (I.un ⟨λb o q n _ _=>kp b o (λz=>by subst z;rw[e]at n;cases n) q,λb o q n _ _=>⟨o.slots,kp b o (λz=>by subst z;rw[e]at n;cases n) q⟩,λb o q n _=> ?_,λb o q _=> ?_,λb xs q=> ?_,λb o xs q=> ?_,λb ps q=>⟨#[],?_⟩⟩ λb o q=> ?_)
 ·have n1:b≠a:=λz=>by subst z;rw[e]at n;cases n
  rw[aH n1,aH (xD (zS q))];exact n
 ·by_cases z:b=a
  ·subst z;exact⟨_,hx'⟩
  ·exact⟨o,kp b o z q⟩
 ·have n1:b≠a:=λz=>by subst z;rw[e]at q;cases q
  have n2:b≠s.heap.objs.size:=λz=>by subst z;rw[hd0]at q;cases q
  rw[aH n1,aH n2];exact q
 ·have n1:b≠a:=λz=>by subst z;rw[e]at q;cases q
  have n2:b≠s.heap.objs.size:=λz=>by subst z;rw[hd0]at q;cases q
  rw[aH n1,aH n2];exact q
 ·have n1:b≠a:=λz=>by subst z;rw[e]at q;cases q
  have n2:b≠s.heap.objs.size:=λz=>by subst z;rw[hd0]at q;cases q
  rw[aH n1,aH n2,q];simp
 ·by_cases z:b=a
  ·subst z
   rw[aM]at q;cases q
   exact afx ⟨vs,hx',h1⟩
  ·rw[aH z]at q
   by_cases z2:b=s.heap.objs.size
   ·subst z2
    rw[aM]at q;cases q
    refine⟨_,hn,λg=> ?_⟩
    by_cases zg:g=f
    ·subst zg;simp[List.lookup];exact ry
    ·have:(g==f)=false:=by simpa using zg
     simp[List.lookup,this,zg];exact zaa
   ·rw[aH z2]at q
    refine(I.hok b o q).stay (λb' u' hb q'=> ?_) (λb' q'=> ?_) λb' xs q'=> ?_
    ·refine kp b' u' (λz'=> ?_) q'
     rcases hb with r | r
     ·exact z (r▸z')
     ·rw[z',e]at r;cases r
    ·have n1:b'≠a:=λz=>by subst z;rw[e]at q';cases q'
     have n2:b'≠s.heap.objs.size:=λz=>by subst z;rw[hd0]at q';cases q'
     rw[aH n1,aH n2];exact q'
    ·have n1:b'≠a:=λz=>by subst z;rw[e]at q';cases q'
     have n2:b'≠s.heap.objs.size:=λz=>by subst z;rw[hd0]at q';cases q'
     rw[aH n1,aH n2];exact q'
end
section
variable{X:Cx}{o value:Expr}{ta tv:TE}{f:Str}{pos pos':Pos}
def afE(K:Frag)(ta tv:TE)(f:Str):TS:=λD σ H=>tv σ H λy H1=>ta σ H1 λx H2=>∃a C,x= .ref a/\H2 a=some (xO a C none)/\zA K C f/\
 ∀dx,H2 dx=none->dx≠a->D.nx σ (upd (upd H2 dx (.xd [(f,y)])) a (xO a C (some dx)))
theorem aeh(ha:PE X o ta)(hv:PE X value tv)(hs:swapsWith value (some (.Attribute o f pos')) pos.line X.env=pure false):PS X (.Assign [.Attribute o f pos'] value pos) (afE X.K ta tv f):=by
 intro pins s σ H D I h
 refine plainObj_wpAny_Assign_Attribute (kj (hv pins s σ H _ I h) ?_) hs
 rintro u s1 ⟨y,H1,I1,ry,q⟩
 refine kj (ha pins s1 σ H1 _ I1 q) ?_
 rintro ov s2 ⟨x,H2,I2,rx,a,C,ex,ea,F,q2⟩
 subst ex
 obtain rfl:ov=Value.ref a:=rx
 exact Us I2 ea F ry λdx s3 hd ne I3=>⟨σ,_,I3,q2 dx hd ne⟩
end
def DG(K:Frag)(f:Str):Sp:=λvs H Q _=>∃a C y,vs=[.ref a,y]/\H a=some (xO a C none)/\zA K C f/\∀dx,H dx=none->dx≠a->Q .non (upd (upd H dx (.xd [(f,y)])) a (xO a C (some dx)))
section
variable{P:Program}{w:World}{K:Frag}{mg:Str->Option Value}{base:Heap}
theorem adb{x qual g:Str}{st:Stmt}{dV:Value}{f:Addr}{fd:FuncData}{N ps:List Str}{k:Nat}(F:aV K x qual st dV f fd)(S:lu N ps (ak st))(hps:ps.length=2)
  (hbody:∀(cdv:Value) (A:Around) (outer:List Env) (s:Shared) (H:Hp) (E:XK),Le (rY CX0 P w K mg base N qual (ak st) f cdv A outer s H E).nox (aA st) (afE K (ZS 0) (ZS 1) g)):
  g8 P w K mg base CX0 (k+1) f fd ps (DG K g):=by
 refine F.ok S (λvs H Q E ⟨a,C,y,e,_⟩=>by rw[e,hps];rfl) λcdv A outer s H vs Q E hr ⟨a,C,y,e,hH,hF,q⟩=> ?_
 subst e
 refine⟨_,hbody cdv A outer s H E,y,rfl,.ref a,rfl,a,C,rfl,hH,hF,λdx hd ne=> .inl (q dx hd ne)⟩
end
structure XMk(K:Frag)(C f:Addr):Prop where
 obj:∃(nm q:Str) (N:Addr) (bs bm:List Value) (hdct:Bool) (sn:List Str) (sub:List Value) (ab:Bool) (col:Option Bool) (dd:Option Addr) (k0 k1 k2 k3 k5:Option Value),
  K.lookup C=some (excClassObj nm q C N bs bm hdct sn sub ab col dd k0 k1 k2 k3 k5 "ValueError.__new__")/\V2 "ValueError" bm/\bm.contains (.type "BaseException")=true
 init:findIn K (.ref C) "__init__" = some (some (.ref f))
 fn:isFn K (.ref f)=true
 kp:keepIn K (.ref C)=true
section
variable{X:Cx}{k:Nat}{f C:Addr}{fd:FuncData}{ps:List Str}{g:Str}
theorem Inv.ajt(I:Inv X pins σ H s)(hs:s.heap.objs.size<=e)(m:Heap.MadeExcOf s.heap h' e (.ref C) us):
  Inv X pins σ (upd H e (xO e C none)) {s with heap:=h'}:=by
 obtain⟨t,he,_,_⟩:=m.there
 exact I.laid (t':=s.toks) (λb u q=>m.keeps b u q) hs (afx ⟨_,he,rfl⟩)
theorem aab(M:XMk X.K C f)(hX:zA X.K C g)(F:g8 X.prog X.w X.K X.mg X.base CX0 k f fd ps (DG X.K g))(hr:jT (k+1) X.A)(hb:Binds X.K fd ps [])
  (I:Inv X pins σ H s) (r:RelV y u)
  (h:∀x dx,H x=none->H dx=none->dx≠x->s.heap.objs.size<=x->Q (.ref x) (upd (upd (upd H x (xO x C none)) dx (.xd [(g,y)])) x (xO x C (some dx)))):
  wpAny (model X.prog X.w) X.A (call (.ref C) [u]) (EP X pins σ Q) X.xe s:=by
 obtain⟨nm,q,N,bs,bm,hdct,sn,sub,ab,col,dd,k0,k1,k2,k3,k5,hC,hT,hB⟩:=M.obj
 have hfn:=beq_iff_eq.mp M.fn
 have lk:∃oI,X.K.lookup f=some oI/\oI.cls= .type "function" := by
  obtain⟨o,ho,hc⟩:=Option.map_eq_some_iff.mp hfn
  exact⟨o,ho,hc⟩
 obtain⟨oI,hoI,hcI⟩:=lk
 obtain⟨hp,gg,d,t,os⟩:=s
 refine x_call PySem.F.excBase_ValueError hT (I.zb _ _ hC) (PySem.W.looks_findIn I.zb M.init) (I.zb _ _ hoI) hcI (λh' e hs m=> ?_) (by show 1<=sizeLine;decide)
 have I2:=I.ajt hs m
 have r2:Vals [V.ref e,y] [Value.ref e,u]:= .cons rfl (.cons r .nil)
 have n0:H e=none:=I.hok.fresh hs
 have hq:DG X.K g [V.ref e,y] (upd H e (xO e C none)) (λv H2=>v= .non/\Q (.ref e) H2) E0:=by
  refine⟨e,C,y,rfl,aM,hX,λdx hd ne=>⟨rfl,h e dx n0 ?_ ne hs⟩⟩
  rw[aH ne]at hd;exact hd
 have hl:([Value.ref e,u]++[]).length=ps.length:=by rw[List.append_nil,<-r2.length];exact F.len _ _ _ _ hq
 refine wpAny_call (codeAny_mono (F.run _ X.stack _ _ ⟨[Value.ref e,u],[]⟩ [Value.ref e,u] _ _ E0 (hr.make C [u] []) (I2.env0.make C [u] []) (by simpa using hb _ [Value.ref e,u] I2.zb hl) r2 hq) λr s' hq'=> ?_)
 cases r with
 | error e=>exact hq'.elim
 | ok fl=>
  cases fl with
  | ret u=>
   obtain⟨v,H',I3,rv,ev,q3⟩:=I2.after hq'
   subst ev
   exact⟨rv,⟨V.ref e,H',I3,rfl,q3⟩⟩
  | next=>exact False.elim hq'
  | brk=>exact False.elim hq'
  | cont=>exact False.elim hq'
end
noncomputable def drop(H:Hp)(a:Addr):Hp:=λb=>if b=a then none else H b
theorem Zu(h:b≠a):drop H a b=H b:=by unfold drop;rw[if_neg h]
theorem QV:drop H a a=none:=by unfold drop;rw[if_pos rfl]
section
variable{X:Cx}{pins:List (Addr×Obj)}{σ:St}{H:Hp}{s:Shared}{a:Addr}{φ:Heap->Prop}
theorem Inv.aoA(I:Inv X pins σ H s)(e:H a=some (.ext φ)):Inv X pins σ (drop H a) s:=by
 have nn:∀b,H b=none->drop H a b=none:=λb q=>by unfold drop;split<;>first | rfl | exact q
 have kk:∀b u,H b=some u->(∀ψ,u≠ .ext ψ)->drop H a b=some u:=λb u q n=>by
  have:b≠a:=λz=>by subst z;rw[e]at q;cases q;exact n _ rfl
  rw[Zu this];exact q
 refine⟨I.ok,I.os,I.bare,⟨I.base.keep,I.base.slot,λb o q n x=>nn b (I.base.free b o q n x),I.base.there,λb xs q=>kk b _ (I.base.tups b xs q) (by simp),λb o u q=>kk b _ (I.base.vq b o u q) (by simp),λb ps q=> ?_⟩,I.loc,I.cell,nn _ I.free,λx c q=>(I.m7 x c q).imp id (nn _) λo u z=>kk c _ z (by simp),λp hp=> ?_,λb o q=> ?_,I.len⟩
 ·obtain⟨m,z⟩:=I.base.yo b ps q;exact⟨m,kk b _ z (by simp)⟩
 ·obtain⟨z1,z2,z3⟩:=I.pin p hp;exact⟨z1,nn _ z2,z3⟩
 ·have nb:b≠a:=λz=>by subst z;rw[QV]at q;cases q
  rw[Zu nb]at q
  exact(I.hok b o q).stay (λ_ _ _ z=>z) (λb' z=>kk b' _ z (by simp)) λb' xs z=>kk b' _ z (by simp)
end
def wV(P:Program)(w:World):ZM:=λouter H s E ev s'=>∃e C dx T H',ev=Value.ref e/\s'.os=s.os/\AllBare s'.gens/\Un (frs outer) [] H H' s.heap s'.heap/\ym P w H' s'.heap/\Exc s'.heap e C (some dx) (some T) .none/\
 s.heap.objs.size<=e/\s.heap.objs.size<=T/\H' e=none/\H' T=none/\E (.ref C) (some dx) H'
abbrev bf:=Addr->Addr->St->Hp->Prop
structure BR(X:Cx)(pins:List (Addr×Obj))(H:Hp)(a:Addr):Prop where
 no:H a=none
 new:X.s₀.heap.objs.size<=a
 pin:∀p∈X.pn++pins,p.1≠a
def jt(X:Cx)(W:bf):Value->Shared->Prop:=λev s=>∃e C dx T fl pins σ H,ev=Value.ref e/\Inv X pins σ H s/\Exc s.heap e C (some dx) T fl/\(fl=fl\/fl=rawInt X.env.locals)/\BR X pins H e/\(∀t,T=some t->BR X pins H t)/\W C dx σ H
section
variable{X:Cx}{pins:List (Addr×Obj)}{σ:St}{H:Hp}{s:Shared}
theorem jt.Y_(I:Inv X pins σ H s)(h:wV X.prog X.w X.stack H s E ev s')(hE:∀C dx H',E (.ref C) (some dx) H'->W C dx σ H'):jt X W ev s':=by
 obtain⟨e,C,dx,T,H',rfl,os,bare,un,hok,x,ne,nT,fe,fT,hq⟩:=h
 have old:∀a,s.heap.objs.size<=a->∀p∈X.pn++pins,p.1≠a:=λa ha p hp z=>by
  have:=zS (I.pin p hp).1
  rw[z]at this
  exact absurd (yA this ha) (wP _)
 exact⟨e,C,dx,some T,.none,pins,σ,H',rfl,I.call' os un hok bare (λb z=>absurd z (by simp)),x,.inl rfl,⟨fe,yY I.sz ne,old e ne⟩,λt z=>by cases z;exact⟨fT,yY I.sz nT,old T nT⟩,hE C dx H' hq⟩
theorem JZ(ok:ym P w H h)(k:sJ fs e T h h')(he:H e=none)(hT:∀t,T=some t->H t=none)(hf:∀b∈fs,H b=none):ym P w H h':=by
 have kp:∀b u o,H b=some o->h.get? b=some u->h'.get? b=some u:=λb u o q z=>
  k.2.1 b u (λy=>by subst y;rw[he]at q;cases q) (λy=>by rw[hT b y.symm]at q;cases q) (λy=>by rw[hf b y]at q;cases q) z
 intro b o q
 refine(ok b o q).stay (λb' u hb z=> ?_) (λ_ z=>z) λ_ _ z=>z
 rcases hb with rfl | hb
 ·exact kp _ u o q z
 ·exact kp _ u _ hb z
end
theorem jt.leave{P:Program}{w:World}{K:Frag}{mg:Str->Option Value}{base:Heap}{N:List Str}{qual:Str}{scope:Scope}{f:Addr}{cd:Value}{A:Around}{outer:List Env}{s:Shared}{H:Hp}{E:XK}{W:bf}{ev:Value}{s':Shared}
  (h:jt (rY (wV P w) P w K mg base N qual scope f cd A outer s H E) W ev s') (hE:∀C dx σ H',W C dx σ H'->E (.ref C) (some dx) H'):
  (rY (wV P w) P w K mg base N qual scope f cd A outer s H E).xe ev s':=by
 obtain⟨e,C,dx,T,fl,pins,σ,H',rfl,I,x,hfl,fe,fT,hW⟩:=h
 show wpAny _ _ (leaving _ (.ref e)) _ _ s'
 refine Yt I.ok.frames I.stack rfl x hfl λh2 T' hT k x'=> ?_
 have hTn:∀t,T=some t->H' t=none:=λt z=>(fT t z).no
 have nT:s.heap.objs.size<=T':=by
  rcases hT with r | r
  ·exact(fT T' r).new
  ·exact yY I.sz r
 have fT':H' T'=none:=by
  rcases hT with r | r
  ·exact hTn T' r
  ·exact I.hok.fresh r
 have ok2:=JZ I.hok k fe.no hTn I.G7
 have ne:∀b o,s.heap.get? b=some o->b≠e/\some b≠T:=λb o q=>⟨λz=>absurd (yA (zS q) (z▸fe.new)) (wP _),λz=>absurd (yA (zS q) (fT b z.symm).new) (wP _)⟩
 have nL:∀b o,s.heap.get? b=some o->b≠s.heap.objs.size:=λb o q=>xD (zS q)
 refine⟨e,C,dx,T',H',rfl,I.os,I.bare,⟨λb o q n hb _=> ?_,λb o q n hb _=> ?_,λb o q n _=>I.base.free b o q n (by simp[rY]),λb o q _=> ?_,I.base.tups,I.base.vq,I.base.yo⟩,ok2,x',fe.new,nT,fe.no,fT',hE C dx σ H' hW⟩
 ·obtain⟨n1,n2⟩:=ne b o q
  refine k.2.1 b o n1 n2 (λz=> ?_) (I.base.keep b o q n hb (by simp[rY]))
  rcases List.mem_cons.mp (I.Mm b z)with y | y
  ·exact nL b o q y
  ·exact hb y
 ·obtain⟨n1,n2⟩:=ne b o q
  obtain⟨sl,q1⟩:=I.base.slot b o q n hb (by simp[rY])
  obtain⟨sl2,q2⟩:=k.2.2 b _ n1 n2 q1
  exact⟨sl2,q2⟩
 ·obtain⟨n1,n2⟩:=ne b o q
  obtain⟨o1,q1⟩:=I.base.there b o q (by simp[rY])
  obtain⟨sl2,q2⟩:=k.2.2 b _ n1 n2 q1
  exact⟨_,q2⟩
end L2
namespace L2
section
open PySem
variable{M:Model}{A:Around}{E:Value->Shared->Prop}{env:Env}
variable{nm q:Str}{C N:Addr}{bs bm:List Value}{hdct:Bool}{sn:List Str}{sub:List Value}{ab:Bool}{col:Option Bool}{dd:Option Addr}{k0 k1 k2 k3 k5:Option Value}{newId:String}
theorem Uv{Q:Flow->Shared->Prop}(hbase:bm.contains (.type "BaseException")=true)(hh:A.handled=none)
  (h:wpAny M A x (λv s₁=>∃e dx vs,v= .ref e/\s₁.heap.get? C=some (excClassObj nm q C N bs bm hdct sn sub ab col dd k0 k1 k2 k3 k5 newId)/\
   s₁.heap.get? e=some {cls:= .ref C,dict:=dx,data:= .fields vs}/\vs[1]? = some .none/\E (.ref e) s₁) E s):
  wpAny M A (raiseStmt env (some x) none) Q E s:=by
 have hcB:(Value.ref C::bm).contains (.type "BaseException")=true:=by rw[List.contains_cons,hbase,Bool.or_true]
 unfold raiseStmt
 refine zC (wT h (λv s₁ h₁=> ?_) λ_ _ x=>x)
 obtain⟨e,dx,vs,rfl,hC,he,h1,hE⟩:=h₁
 obtain⟨hp,g,d,tk,os⟩:=s₁
 have hfl:∀{Q:Unit->Shared->Prop},Q .unit ⟨hp,g,d,tk,os⟩->wpAny M A (setFlight (.ref e) none) Q E ⟨hp,g,d,tk,os⟩:=λhQ=>by
  unfold setFlight
  refine zC (vS he rfl h1 ?_)
  rw[if_neg (by decide)]
  exact zI hQ
 repeat (first | with_reducible refine wpAny_loadPart_at he ?_ | with_reducible refine wpAny_loadPart_at hC ?_ | (with_reducible refine wpAny_isSubtype_exc hC ?_;rw[hcB]) | with_reducible refine hfl ?_ | wp_step)
 exact wpAny_raiseNew_none hh hE
end
section
open PySem PySem.Spec PyProof.Rows
variable{X:Cx}{k:Nat}{f C:Addr}{fd:FuncData}{ps:List Str}{g:Str}{x:Str}{np cpos pos:Pos}{arg:Expr}{ta:TA}{W:bf}
theorem aaW{H:Hp}{x dx:Addr}{o1 o2 o3:HO}(hx:H x=none)(ne:dx≠x):drop (upd (upd (upd H x o1) dx o2) x o3) x=upd H dx o2:=by
 funext b
 unfold drop upd
 by_cases z:b=x
 ·subst z;rw[if_pos rfl,if_neg (Ne.symm ne),hx]
 ·rw[if_neg z,if_neg z]
  by_cases z2:b=dx
  ·rw[if_pos z2,if_pos z2]
  ·rw[if_neg z2,if_neg z2,if_neg z]
def agu(C:Addr)(g:Str)(W:bf)(ta:TA):TS:=λ_ σ H=>ta σ H λvs H1=>∃y,vs=[y]/\∀dx,H1 dx=none->W C dx σ (upd H1 dx (.xd [(g,y)]))
theorem acq(M:XMk X.K C f)(hX:zA X.K C g)(F:g8 X.prog X.w X.K X.mg X.base CX0 k f fd ps (DG X.K g))(hr:jT (k+1) X.A)(hb:Binds X.K fd ps [])(hg:Gl X x)(hm:X.mg x=some (.ref C))(hc:X.calm=true)
  (hW:∀ev s,jt X W ev s->X.xe ev s) (ha:PA X [arg] ta) (hdb:(x==("__debug__" : Str))=false:=by decide) (he:starEach [arg] X.env=[(false,eval arg X.env)]:=by rfl):
  PS X (.Raise (some (.Call (.Name x np) [arg] [] cpos)) none pos) (agu C g W ta):=by
 intro pins s σ H D I h
 obtain⟨nm,q,N,bs,bm,hdct,sn,sub,ab,col,dd,k0,k1,k2,k3,k5,hC,hT,hB⟩:=M.obj
 rw[arm_exec_Raise]
 refine zC (wpAny_standAt (Uv (C:=C) (nm:=nm) (q:=q) (N:=N) (bs:=bs) (bm:=bm) (hdct:=hdct) (sn:=sn) (sub:=sub) (ab:=ab) (col:=col) (dd:=dd) (k0:=k0) (k1:=k1) (k2:=k2) (k3:=k3) (k5:=k5) (newId:= "ValueError.__new__") hB (I.ok.hd hc) ?_))
 have main:wpAny (model X.prog X.w) X.A (eval (.Call (.Name x np) [arg] [] cpos) X.env) (EP X pins σ λv H3=>∃e dx y H1,v= .ref e/\H1 e=none/\H1 dx=none/\dx≠e/\X.s₀.heap.objs.size<=e/\(∀p∈X.pn++pins,p.1≠e)/\H3=upd (upd (upd H1 e (xO e C none)) dx (.xd [(g,y)])) e (xO e C (some dx))/\W C dx σ (upd H1 dx (.xd [(g,y)]))) X.xe s:=by
  refine wpAny_Call_Name_kw (Eg I hg hm ?_ hdb)
  refine PySem.W.callWith_K (h₀:=X.base) I.ok.mod.kin M.kp (kj (ha cpos pins s σ H _ I h) ?_) he rfl
  rintro us s1 ⟨vs,H1,I1,r,y,ev,q⟩
  refine⟨I1.zb,?_⟩
  subst ev
  cases r with
  | cons r1 r2=>
   cases r2
   refine aab M hX F hr hb I1 r1 λe dx n1 n2 ne hs=>⟨e,dx,y,H1,rfl,n1,n2,ne,yY I1.sz hs,λp hp z=> ?_,rfl,q dx n2⟩
   have:=zS (I1.pin p hp).1
   rw[z]at this
   exact absurd (yA this hs) (wP _)
 refine zC (kj main ?_)
 rintro v s1 ⟨vv,H3,I3,rv,e,dx,y,H1,ev,n1,n2,ne,sz,pn,eH,hw⟩
 refine zC (wpAny_standAt (zI ?_))
 subst ev eH
 obtain rfl:v=Value.ref e:=rv
 have x0:Exc s1.heap e C (some dx) none .none:=afy (I3.hok e _ aM)
 obtain⟨vs,hat,h1⟩:=x0.at_
 refine⟨e,some dx,vs,rfl,I3.zb _ _ hC,hat,h1,hW _ _ ⟨e,C,dx,none,.none,pins,σ,_,rfl,I3.aoA aM,x0,.inl rfl,⟨QV,sz,pn⟩,(λt z=>by cases z),?_⟩⟩
 rw[aaW n1 ne]
 exact hw
end
end L2
namespace L2
open PySem PySem.Spec PyProof.Rows
section
variable{X:Cx}{pins:List (Addr×Obj)}{σ:St}{H:Hp}{s:Shared}{e C:Addr}{dx T:Option Addr}{fl:Value}{h':Heap}{W:bf}
theorem Inv.Cr(I:Inv X pins σ H s)(h:s.heap.get? a=some o)(d:o.data= .fields vs):a≠X.env.locals/\∀x c,X.env.cells.lookup x=some c->c≠a:=by
 refine⟨λz=> ?_,λx c hc z=> ?_⟩
 ·obtain⟨m,⟨o',es,ep,ho,hd,_⟩,_⟩:=I.loc
  subst z
  rw[ho]at h;cases h;rw[hd]at d;cases d
 ·obtain⟨v,o',ho,hd⟩:=I.cell x c hc
  subst z
  rw[ho]at h;cases h;rw[hd]at d;cases d
theorem Inv.Qh(I:Inv X pins σ H s)(x:Exc s.heap e C dx T fl)(fe:BR X pins H e)(fT:∀t,T=some t->BR X pins H t)(k:sJ (frs X.stack) e T s.heap h')(hE:∃o,h'.get? e=some o)(hTt:∀t,T=some t->∃o,h'.get? t=some o):
  Inv X pins σ H {s with heap:=h'}:=by
 obtain⟨vs,he,hT⟩:=x.at_
 have ok2:=JZ I.hok k fe.no (λt z=>(fT t z).no) I.G7
 refine I.call (t':=s.toks) (g':=s.gens) (d':=s.drawn) (ch:=e::T.toList) ⟨λb o q n hb hc=> ?_,λb o q n hb hc=> ?_,λb o q n _=>n,λb o q hc=> ?_,λ_ _ q=>q,λ_ _ _ q=>q,λb ps q=>⟨#[],by rw[q];simp⟩⟩ ok2 I.bare λb hb=> ?_
 ·simp at hc
  exact k.2.1 b o hc.1 (λz=>hc.2 z.symm) hb q
 ·simp at hc
  exact k.2.2 b o hc.1 (λz=>hc.2 z.symm) q
 ·simp at hc
  obtain⟨sl,z⟩:=k.2.2 b o hc.1 (λz=>hc.2 z.symm) q
  exact⟨_,z⟩
 ·simp at hb
  rcases hb with rfl | hb
  ·exact⟨.inr fe.new,(I.Cr he rfl).1,(I.Cr he rfl).2,fe.pin⟩
  ·subst hb
   obtain⟨_,_,oT,ts,hoT,hd,_⟩:=hT
   exact⟨.inr (fT b rfl).new,(I.Cr hoT hd).1,(I.Cr hoT hd).2,(fT b rfl).pin⟩
theorem sJ.mono(k:sJ fs e T h h')(hs:∀b∈fs,b∈fs'):sJ fs' e T h h':=⟨k.1,λb o n1 n2 n3 q=>k.2.1 b o n1 n2 (λz=>n3 (hs b z)) q,k.2.2⟩
theorem Exc.here(x:Exc h' e C dx T fl):(∃o,h'.get? e=some o)/\∀t,T=some t->∃o,h'.get? t=some o:=by
 obtain⟨vs,he,hT⟩:=x.at_
 refine⟨⟨_,he⟩,λt z=> ?_⟩
 subst z
 obtain⟨_,_,oT,_,hoT,_⟩:=hT
 exact⟨oT,hoT⟩
theorem jt.aar(hst:X.stack=X.env::X.outer)(hf:X.env.frame=some X.env.locals)(hA:A.frames=some X.stack):∀ev s',jt X W ev s'->wpAny (model X.prog X.w) A (noteFrame ev X.env) (λ_ s2=>cameBackBy (model X.prog X.w) X.A X.env (jt X W) ev s2) (cameBackBy (model X.prog X.w) X.A X.env (jt X W)) s':=by
 rintro ev s' ⟨e,C,dx,T,fl,pins,σ,H,rfl,I,x,hfl,fe,fT,hW⟩
 have ac7:=I.stack
 rw[hst]at ac7
 refine Wj (by rw[hA,hst]) ac7 hf x hfl λh1 T1 hT1 k1 x1=> ?_
 have fT1:BR X pins H T1:=by
  rcases hT1 with r | r
  ·exact fT T1 r
  ·refine⟨I.hok.fresh r,yY I.sz r,λp hp z=> ?_⟩
   have:=zS (I.pin p hp).1
   rw[z]at this
   exact absurd (yA this r) (wP _)
 have hTt:∀t,T=some t->∃o,h1.get? t=some o:=λt z=>by
  obtain⟨o,q⟩:=x.here.2 t z
  exact k1.1.2 t o q
 have I1:=I.Qh x fe fT (k1.mono (by rw[hst];exact λb z=>z)) x1.here.1 hTt
 unfold cameBackBy
 obtain⟨vs,he,h2,_⟩:=x1.at_
 refine zC (vS he rfl h2 ?_)
 rw[if_neg (by simp)]
 refine Cd (s:={s' with heap:=h1}) x1 λh2 k2 x2=>⟨e,C,dx,some T1,_,pins,σ,H,rfl,I1.Qh x1 fe (λt z=>by cases z;exact fT1) (k2.mono (by simp)) x2.here.1 x2.here.2,x2,.inr (by rw[hf];rfl),fe,λt z=>by cases z;exact fT1,hW⟩
end
def Tk(X:Cx)(W:bf):Prop:=∀ev s,jt X W ev s->X.xe ev s
def EW(W:bf)(σ:St):XK:=λcv dxo H'=>∃C dx,cv=Value.ref C/\dxo=some dx/\W C dx σ H'
theorem jt.qX(h:jt (X.wish (jt X W)) W' ev s):jt X W' ev s:=by
 obtain⟨e,C,dx,T,fl,pins,σ,H,ee,I,x,hfl,fe,fT,hW⟩:=h
 exact⟨e,C,dx,T,fl,pins,σ,H,ee,I.qX,x,hfl,⟨fe.no,fe.new,fe.pin⟩,λt z=>⟨(fT t z).no,(fT t z).new,(fT t z).pin⟩,hW⟩
theorem Tk.wish{X:Cx}{W:bf}:Tk (X.wish (jt X W)) W:=λ_ _ h=>h.qX
section
variable{X:Cx}{k:Nat}{f C:Addr}{fd:FuncData}{ps:List Str}{sp:Sp}{BZ:List V}{ds:List Value}{W:bf}{x m:Str}{p pos apos:Pos}{e o:Expr}{es:List Expr}{ta:TE}{t:TA}
theorem RJ(F:g8 X.prog X.w X.K X.mg X.base (wV X.prog X.w) k f fd ps sp)(hr:jT k X.A)(hb:Binds X.K fd ps ds)(hd:Vals BZ ds)(hx:Tk X W)
  (I:Inv X pins σ H s) (r:Vals vs us) (h:sp (vs++BZ) H Q (EW W σ)):wpAny (model X.prog X.w) X.A (call (.ref f) us) (EP X pins σ Q) X.xe s:=by
 have r2:=r.append hd
 have hl:(us++ds).length=ps.length:=by rw[<-r2.length];exact F.len _ _ _ _ h
 refine wpAny_call (codeAny_mono (F.run X.A X.stack s H ⟨us,[]⟩ (us++ds) (vs++BZ) Q _ hr I.env0 (hb s us I.zb hl) r2 h) λr s' hq=> ?_)
 match r,hq with
 | .error e,hq=>exact hx _ _ (jt.Y_ I hq λC dx H' ⟨C',dx',e1,e2,w⟩=>by cases e1;cases e2;exact w)
 | .ok (.ret u),hq=>exact I.after hq
def abH(sp:Sp)(BZ:List V)(W:bf)(t:TA):TE:=λσ H Q=>t σ H λvs H1=>sp (vs++BZ) H1 Q (EW W σ)
theorem acF(F:g8 X.prog X.w X.K X.mg X.base (wV X.prog X.w) k f fd ps sp)(hr:jT k X.A)(hg:Gl X x)(hm:X.mg x=some (.ref f))(hk:keepIn X.K (.ref f)=true)(hb:Binds X.K fd ps ds)(hd:Vals BZ ds)(hx:Tk X W)
  (ha:PA X (e::es) t) (hdb:(x==("__debug__" : Str))=false:=by decide) (he:starEach (e::es) X.env=(false,eval e X.env)::starEach es X.env:=by rfl) (hpl:(backTo pos (starEach es X.env)).any (·.1)=false:=by rfl):
  PE X (.Call (.Name x p) (e::es) [] pos) (abH sp BZ W t):=by
 intro pins s σ H Q I h
 exact wpAny_Call_Name_kw (Eg I hg hm (PySem.W.callWith_K (h₀:=X.base) I.ok.mod.kin hk (kj (ha pos pins s σ H _ I h) λus s1 ⟨vs,H1,I1,r,q⟩=>⟨I1.zb,RJ F hr hb hd hx I1 r q⟩) he hpl) hdb)
def Ww(C:Addr)(m:Str)(sp:Sp)(BZ:List V)(W:bf)(ta:TE)(t:TA):TE:=λσ H Q=>ta σ H λx H1=>∃a dx fs,x= .ref a/\H1 a=some (.ins C dx fs)/\fs.lookup m=none/\t σ H1 λvs H2=>sp (x::(vs++BZ)) H2 Q (EW W σ)
theorem acA(he:PE X o ta)(c:Li X.K C)(hm:Meth X.K C m f)(F:g8 X.prog X.w X.K X.mg X.base (wV X.prog X.w) k f fd ps sp)(hr:jT k X.A)(hb:Binds X.K fd ps ds)(hd:Vals BZ ds)(hx:Tk X W)(ha:PA X (e::es) t)
  (hst:starEach (e::es) X.env=(false,eval e X.env)::starEach es X.env:=by rfl) (hpl:(backTo pos (starEach es X.env)).any (·.1)=false:=by rfl)
  (ht:eval (.Call (.Attribute o m apos) (e::es) [] pos) X.env=(do
   let ov <-eval o X.env
   standAt apos.atName
   let(f,first) <-holding [ov] (getMethod ov m pl)
   callWith pos f first (backTo pos (starEach (e::es) X.env)) (backToKw pos (keywordEach [] X.env))):=by rfl):
  PE X (.Call (.Attribute o m apos) (e::es) [] pos) (Ww C m sp BZ W ta t):=by
 intro pins s σ H Q I h
 refine PySem.W.methodCall_KW (pl:=pl) (kj (he pins s σ H _ I h) ?_) ht
 rintro u s1 ⟨x,H1,I1,rx,a,dx,fs,ex,ea,l,q⟩
 subst ex
 obtain rfl:u=Value.ref a:=rx
 refine Ox I1 ea c hm l ?_
 exact PySem.W.callWith_K (h₀:=X.base) (first:=[.ref a]) I1.ok.mod.kin hm.kp (kj (ha pos pins s1 σ H1 _ I1 q) λus s2 ⟨vs,H2,I2,r,q2⟩=>⟨I2.zb,RJ (us:= .ref a::us) (vs:= .ref a::vs) F hr hb hd hx I2 (.cons rfl r) q2⟩) hst hpl
theorem aan(he:PE X o ta)(c:Li X.K C)(hm:Meth X.K C m f)(F:g8 X.prog X.w X.K X.mg X.base (wV X.prog X.w) k f fd ps sp)(hr:jT k X.A)(hb:Binds X.K fd ps ds)(hd:Vals BZ ds)(hx:Tk X W)
  (ht:eval (.Call (.Attribute o m apos) [] [] pos) X.env=(do
   let ov <-eval o X.env
   standAt apos.atName
   let(f,first) <-holding [ov] (getMethod ov m pl)
   callWith pos f first (backTo pos (starEach [] X.env)) (backToKw pos (keywordEach [] X.env))):=by rfl):
  PE X (.Call (.Attribute o m apos) [] [] pos) (Ww C m sp BZ W ta adS):=by
 intro pins s σ H Q I h
 refine PySem.W.methodCall_KW (pl:=pl) (kj (he pins s σ H _ I h) ?_) ht
 rintro u s1 ⟨x,H1,I1,rx,a,dx,fs,ex,ea,l,q⟩
 subst ex
 obtain rfl:u=Value.ref a:=rx
 exact Ox I1 ea c hm l (PySem.W.callWith_K0 (first:=[.ref a]) I1.zb hm.kp (RJ (us:=[.ref a]) (vs:=[.ref a]) F hr hb hd hx I1 (.cons rfl .nil) q))
end
theorem aV.okX{P:Program}{w:World}{K:Frag}{mg:Str->Option Value}{base:Heap}{x qual:Str}{st:Stmt}{dV:Value}{f:Addr}{fd:FuncData}{N ps:List Str}{k:Nat}{sp:Sp}(F:aV K x qual st dV f fd)(S:lu N ps (ak st))(len:∀vs H Q E,sp vs H Q E->vs.length=ps.length)
  (hbody:∀(cdv:Value) (A:Around) (outer:List Env) (s:Shared) (H:Hp) (vs:List V) (Q:VK) (E:XK),jT k (A.deeper (envOfC qual (ak st) s.heap.objs.size f cdv))->sp vs H Q E->
   ∃t W,(∀C dx σ H',W C dx σ H'->E (.ref C) (some dx) H')/\Le ((rY (wV P w) P w K mg base N qual (ak st) f cdv A outer s H E).wish (jt (rY (wV P w) P w K mg base N qual (ak st) f cdv A outer s H E) W)) (aA st) t/\t {nx:=λ_ H'=>gcK H Q .non H',rt:=gcK H Q} (start N vs) H):
  g8 P w K mg base (wV P w) (k+1) f fd ps sp:=by
 obtain⟨oc,od,kV,doc,pm,an,cdv,ct,osl,rfl,lk,hcd⟩:=F.ex
 refine g8.gc (sp:=λvs H Q' E=>∃Q,sp vs H Q E/\Q'=gcK H Q) (afV lk hcd S (λvs H Q E ⟨Q0,q,_⟩=>len vs H Q0 E q) λA outer s H vs Q' E hr hsp=> ?_) λvs H Q E q=>⟨Q,q,rfl⟩
 obtain⟨Q,hsp,rfl⟩:=hsp
 obtain⟨t,W,hE,h,q⟩:=hbody cdv A outer s H vs Q E hr hsp
 refine⟨t,λpins s1 σ H1 D I h1=> ?_,q⟩
 exact wT (h pins s1 σ H1 D (I.wish _) h1) (λ_ _ z=>z.qX) λ_ _ z=>z.leave hE
abbrev Cx.pp(X:Cx)(pins:List (Addr×Obj)):Cx:={X with pn:=X.pn++pins}
abbrev Cx.held(X:Cx)(e:Addr):Cx:={X with A:=X.A.mark (some (.ref e)),calm:=false,xe:=λ_ _=>False}
section
variable{X:Cx}{pins Cu:List (Addr×Obj)}{σ:St}{H:Hp}{s:Shared}{e:Addr}
theorem Inv.pp(I:Inv X (pins++Cu) σ H s):Inv (X.pp pins) Cu σ H s:=
 ⟨⟨I.ok.mod,I.ok.kind,I.ok.glob,I.ok.blt,I.ok.above,I.ok.inj,I.ok.has,I.ok.cab,I.ok.hd,I.ok.frames,I.ok.stk,I.ok.exf,I.ok.bs,I.ok.Yb,I.ok.Sh,I.ok.Tw,I.ok.BX,I.ok.frf⟩,I.os,I.bare,I.base,I.loc,I.cell,I.free,I.m7,λp hp=>I.pin p (by rw[<-List.append_assoc];exact hp),I.hok,I.len⟩
theorem Inv.ajC(I:Inv (X.pp pins) Cu σ H s):Inv X (pins++Cu) σ H s:=
 ⟨⟨I.ok.mod,I.ok.kind,I.ok.glob,I.ok.blt,I.ok.above,I.ok.inj,I.ok.has,I.ok.cab,I.ok.hd,I.ok.frames,I.ok.stk,I.ok.exf,I.ok.bs,I.ok.Yb,I.ok.Sh,I.ok.Tw,I.ok.BX,I.ok.frf⟩,I.os,I.bare,I.base,I.loc,I.cell,I.free,I.m7,λp hp=>I.pin p (by rw[<-List.append_assoc]at hp;exact hp),I.hok,I.len⟩
theorem Inv.fewer(I:Inv X (pins++Cu) σ H s):Inv X pins σ H s:=⟨I.ok,I.os,I.bare,I.base,I.loc,I.cell,I.free,I.m7,λp hp=>I.pin p (by rw[<-List.append_assoc];exact List.mem_append_left _ hp),I.hok,I.len⟩
theorem Inv.held(I:Inv X pins σ H s)(e:Addr):Inv (X.held e) pins σ H s:=
 ⟨⟨I.ok.mod,I.ok.kind,I.ok.glob,I.ok.blt,I.ok.above,I.ok.inj,I.ok.has,I.ok.cab,(λz=>by cases z),I.ok.frames,I.ok.stk,I.ok.exf,I.ok.bs,I.ok.Yb,I.ok.Sh,I.ok.Tw,I.ok.BX,I.ok.frf⟩,I.os,I.bare,I.base,I.loc,I.cell,I.free,I.m7,I.pin,I.hok,I.len⟩
theorem Inv.Wn(ok:X.Ok)(I:Inv (X.held e) pins σ H s):Inv X pins σ H s:=⟨ok,I.os,I.bare,I.base,I.loc,I.cell,I.free,I.m7,I.pin,I.hok,I.len⟩
theorem SP.map(g:∀σ H,Inv X' Cu σ H s'->Inv X pins σ H s')(h:SP X' Cu D f s'):SP X pins D f s':=by
 cases f with
 | next=>obtain⟨σ',H',I,q⟩:=h;exact⟨σ',H',g _ _ I,q⟩
 | brk=>obtain⟨σ',H',I,q⟩:=h;exact⟨σ',H',g _ _ I,q⟩
 | cont=>obtain⟨σ',H',I,q⟩:=h;exact⟨σ',H',g _ _ I,q⟩
 | ret u=>obtain⟨v,σ',H',I,r,q⟩:=h;exact⟨v,σ',H',g _ _ I,r,q⟩
end
section
variable{X:Cx}{W:bf}{c:Str}{cp hpos pos:Pos}{b₀:Stmt}{suite body:List Stmt}{tb:bf->TS}{ts:TS}{cv:Value}{v:V}
theorem Exc.typ(x:Exc h e C dx T fl):PySem.W.Looks M h (typeOf (.ref e)) (.ref C):=by
 obtain⟨vs,he,_⟩:=x.at_
 intro A Q E s k q
 exact zC (wpAny_loadPart (k _ _ he) (zI q))
end
abbrev xC(a C dx:Addr):HO:= .ext λh=>∃vs,h.get? a=some {cls:= .ref C,dict:=some dx,data:= .fields vs}
section
variable{X:Cx}{pins:List (Addr×Obj)}{σ:St}{H:Hp}{s:Shared}{h':Heap}{t':Nat}
theorem Inv.locals(I:Inv X pins σ H s)(hsb:Heap.SameBut X.env.locals s.heap h')(loc:∃m,h'.Ns X.env.locals m/\∀(i:Nat) (x:Str) (v:V),X.N[i]? = some x->σ[i]? = some (some v)->Vis X.env.scope x->∃u,RelV v u/\Look X.env h' m x u):
  Inv X pins σ H {s with heap:=h',toks:=t'}:=by
 have nL:∀b o,X.s₀.heap.get? b=some o->b≠X.env.locals:=λb o q=>xD (yA (zS q) I.ok.above)
 refine⟨I.ok,I.os,I.bare,⟨λb o q n hb hx=>(hsb.2 b (nL b o q)).trans (I.base.keep b o q n hb hx),λb o q n hb hx=> ?_,I.base.free,λb o q hx=> ?_,I.base.tups,I.base.vq,I.base.yo⟩,loc,λx c q=> ?_,I.free,I.m7,λp hp=> ?_,λb o q=> ?_,I.len⟩
 ·obtain⟨sl,z⟩:=I.base.slot b o q n hb hx
  exact⟨sl,(hsb.2 b (nL b o q)).trans z⟩
 ·obtain⟨o',z⟩:=I.base.there b o q hx
  exact⟨o',(hsb.2 b (nL b o q)).trans z⟩
 ·obtain⟨v,o,ho,hd⟩:=I.cell x c q
  exact⟨v,o,(hsb.2 c (I.cne x c q)).trans ho,hd⟩
 ·obtain⟨z1,z2,z3,z4⟩:=I.pin p hp
  exact⟨(hsb.2 p.1 z3).trans z1,z2,z3,z4⟩
 ·have nl:∀b u,H b=some u->b≠X.env.locals:=λb u z y=>by rw[y,I.free]at z;cases z
  refine(I.hok b o q).stay (λb' u hb z=> ?_) (λ_ z=>z) λ_ _ z=>z
  rcases hb with rfl | hb
  ·exact(hsb.2 _ (nl _ _ q)).trans z
  ·exact(hsb.2 _ (nl _ _ hb)).trans z
theorem aaH(l:Look env h m x u)(hm:m' x=m x)(hc:∀c,env.cells.lookup x=some c->h'.get? c=h.get? c):Look env h' m' x u:=by
 rcases l with⟨k,e⟩ | ⟨k,c,e,o,ho,hd⟩
 ·exact .inl ⟨k,hm.trans e⟩
 ·exact .inr ⟨k,c,e,o,(hc c e).trans ho,hd⟩
theorem name_goes{E:Value->Shared->Prop}{Q:Unit->Shared->Prop}(I:Inv X pins σ H s)(nd:X.N.Nodup)(hi:X.N[i]? = some n)(hl:X.env.scope.names.lookup n=some .local)(hk:X.env.kindOf n=some .local)
  (hp:(X.env.scope.kind== .class||(X.env.scope.kind== .module&&X.env.locals != X.env.globals))=false)
  (h:∀s',Inv X pins (σ.set i none) H s'->Q .unit s'):wpAny M A (do bindName X.env n .none;unbindBehindTheSuite X.env n pos) Q E s:=by
 refine zC (wpAny_bindName (G6 (v:= .non) I nd hi (.inl hl) rfl (λs1 I1=> ?_) (.inr hl)))
 unfold unbindBehindTheSuite
 refine wpAny_onRaise ?_
 unfold unbindName
 refine zC (wpAny_point (zC ?_))
 unfold deleteName
 simp only[hk,hp]
 rw[if_neg (by decide)]
 obtain⟨m,hn,hlk⟩:=I1.loc
 have il:i<σ.length:=by rw[I.len];exact(List.getElem?_eq_some_iff.mp hi).1
 have there:(m n).isSome=true:=by
  obtain⟨u,ru,l⟩:=hlk i n .non hi (by rw[zaj il]) (.inl hl)
  rcases l with⟨_,z⟩ | ⟨z,_⟩
  ·rw[z];rfl
  ·rw[hk]at z;rcases z with z | z<;>cases z
 refine zC (wpAny_nsDel_keeps hn λh2 v hn2 hs2=> ?_)
 rw[there]
 simp only[if_true,Bool.not_true,Bool.false_eq_true,if_false]
 refine zI (wpAny_point (h _ ?_))
 have I2:Inv X pins (σ.set i none) H s1:=I1.weak (by simp) λj w hj=>by
  by_cases z:i=j
  ·subst z;rw[zaj il]at hj;cases hj
  ·rw[zai z]at hj ⊢;exact hj
 refine I2.locals (t':=s1.toks) hs2 ⟨_,hn2,λj x w hj hw hv=> ?_⟩
 have ne:x≠n:=λz=>by
  subst z
  have:j=i:=Nz nd hj hi
  subst this
  rw[zaj il]at hw;cases hw
 have hw':(σ.set i (some .non))[j]? = some (some w):=by
  by_cases z:i=j
  ·subst z;rw[zaj il]at hw;cases hw
  ·rw[zai z]at hw ⊢;exact hw
 obtain⟨u,ru,l⟩:=hlk j x w hj hw' hv
 exact⟨u,ru,aaH l (by rw[if_neg ne]) λc hc=>hs2.2 c (I1.cne x c hc)⟩
end
section
variable{X:Cx}{W:bf}{c n:Str}{cp hpos pos:Pos}{b₀:Stmt}{suite body:List Stmt}{tb:bf->TS}{ts:TS}{cv:Value}{v:V}{i:Nat}
noncomputable def Ends.less(D:Ends)(i:Nat):Ends:={nx:=λσ H=>D.nx (σ.set i none) H,bk:=λσ H=>D.bk (σ.set i none) H,ct:=λσ H=>D.ct (σ.set i none) H,rt:=D.rt}
def xmA(K:Frag)(cv:Value)(W:bf)(th:Addr->Addr->Addr->St->Hp->Prop):bf:=λC dx σ H=>∃b,exmOne K (.ref C) cv=some b/\(if b=true then(∀e,H e=none->th e C dx σ H)else W C dx σ H)
theorem Inv.caught(I:Inv X pins σ H s)(h:s.heap.get? e=some {cls:= .ref C,dict:=some dx,data:= .fields vs})(f:BR X pins H e):Inv X pins σ (upd H e (xC e C dx)) s:=by
 have hk:∀b u,H b=some u->upd H e (xC e C dx) b=some u:=λb u q=>by rw[aH (bC q f.no)];exact q
 have hn:∀b,b≠e->H b=none->upd H e (xC e C dx) b=none:=λb z q=>by rw[aH z];exact q
 refine⟨I.ok,I.os,I.bare,⟨I.base.keep,I.base.slot,λb o q n x=>hn b (λz=>absurd (yA (zS q) (z▸f.new)) (wP _)) (I.base.free b o q n x),I.base.there,λb xs q=>hk _ _ (I.base.tups b xs q),λb o u q=>hk _ _ (I.base.vq b o u q),λb ps q=> ?_⟩,I.loc,I.cell,hn _ (Ne.symm (I.Cr h rfl).1) I.free,λx c q=>(I.m7 x c q).imp id (hn _ ((I.Cr h rfl).2 x c q)) λo u z=>hk _ _ z,λp hp=> ?_,λb o q=> ?_,I.len⟩
 ·obtain⟨m,z⟩:=I.base.yo b ps q;exact⟨m,hk _ _ z⟩
 ·obtain⟨z1,z2,z3⟩:=I.pin p hp;exact⟨z1,hn _ (f.pin p hp) z2,z3⟩
 ·by_cases z:b=e
  ·subst z
   rw[aM]at q;cases q
   exact⟨⟨vs,h⟩,⟨_,h⟩,λh1 h2 ⟨vs1,y⟩ k=>⟨vs1,k _ y⟩⟩
  ·rw[aH z]at q
   exact(I.hok b o q).stay (λ_ _ _ y=>y) (λb' y=>hk _ _ y) λb' xs y=>hk _ _ y
theorem acp(hst:X.stack=X.env::X.outer)(hf:X.env.frame=some X.env.locals)(hx:Tk X W)(hv:∀u,RelV v u->u=cv)(hn:∀e,PE (X.held e) (.Name c cp) (tC v))
  (nd:X.N.Nodup) (hi:X.N[i]? = some n) (hl:X.env.scope.names.lookup n=some .local) (hk:X.env.kindOf n=some .local)
  (hb:∀pins W1,Le ((X.pp pins).wish (jt (X.pp pins) W1)) body (tb W1)) (hs:∀e,Le (X.held e) (b₀::suite) ts):
  PS X (.Try body [.ExceptHandler (some (.Name c cp)) (some n) (b₀::suite) hpos] [] [] pos)
   (λD σ H=>tb (xmA X.K cv W λe C dx σ' H'=>ts (Ends.less D i) (σ'.set i (some (.ref e))) (upd H' e (xC e C dx))) D σ H):=by
 intro pins s σ H D I h
 have ok:=I.ok
 have hcls:(X.env.scope.kind== .class||(X.env.scope.kind== .module&&X.env.locals != X.env.globals))=false:=by rw[ok.kind];rfl
 refine wpAny_Try_except (wT (hb pins (xmA X.K cv W λe C dx σ' H'=>ts (Ends.less D i) (σ'.set i (some (.ref e))) (upd H' e (xC e C dx))) [] s σ H D (Inv.wish (Inv.pp (Cu:=[]) (by rw[List.append_nil];exact I)) _) h) (λf s1 h1=> ?_) λev s1 h1=> ?_)
 ·have h2:SP X pins D f s1:=SP.map (λσ H z=>z.qX.ajC.fewer) h1
  cases f with
  | next=>exact wpAny_execs_nil h2
  | brk=>exact h2
  | cont=>exact h2
  | ret u=>exact h2
 ·obtain⟨e,C,dx,T,fl,Vg,σ',H',rfl,I1,x,hfl,fe,fT,hW⟩:=h1
  have J1:=I1.ajC
  have ac7:=J1.stack
  rw[hst]at ac7
  have cv1:∀{a},BR (X.pp pins) Vg H' a->BR X (pins++Vg) H' a:=λz=>⟨z.no,z.new,λp hp=>z.pin p (by rw[<-List.append_assoc]at hp;exact hp)⟩
  have fe':=cv1 fe
  have fT':∀t,T=some t->BR X (pins++Vg) H' t:=λt z=>cv1 (fT t z)
  refine Wj (by rw[J1.ok.frames,hst]) ac7 hf x hfl λh1 T1 hT1 k1 x1=> ?_
  have fT1:BR X (pins++Vg) H' T1:=by
   rcases hT1 with r | r
   ·exact fT' T1 r
   ·refine⟨J1.hok.fresh r,yY J1.sz r,λp hp z=> ?_⟩
    have:=zS (J1.pin p hp).1
    rw[z]at this
    exact absurd (yA this r) (wP _)
  have I2:=J1.Qh x fe' fT' (k1.mono (by rw[hst];exact λb z=>z)) x1.here.1 λt z=>let⟨o,q⟩:=x.here.2 t z;k1.1.2 t o q
  refine Cd (fr:=none) (s:={s1 with heap:=h1}) x1 λh2 k2 x2=> ?_
  have I3:=I2.Qh x1 fe' (λt z=>by cases z;exact fT1) (k2.mono (by simp)) x2.here.1 x2.here.2
  obtain⟨vs2,he2,h12,azp,oT,ts2,hoT,hdT,h32⟩:=x2.at_
  have nfs:∀{a:Addr} {o:Obj} {vs:Array Value},h2.get? a=some o->o.data= .fields vs->a∉X.fs:=λq d hm=>by
   obtain⟨_,o',ho',hd'⟩:=I3.BX.mem hm
   have q':h2.get? _=some o':=ho'
   rw[q]at q';cases q';exact hd' _ d
  have I4:Inv X (pins++[(e,{cls:= .ref C,dict:=some dx,data:= .fields vs2}),(T1,oT)]) σ' H' {s1 with heap:=h2}:=I3.z8 λp hp=>by
   rcases List.mem_append.mp hp with z | z
   ·exact I3.pin p (xE _ (List.mem_append_left _ z))
   ·simp at z
    rcases z with rfl | rfl
    ·exact⟨he2,fe'.no,(I3.Cr he2 rfl).1,nfs he2 rfl,λv z=>by cases z⟩
    ·exact⟨hoT,fT1.no,(I3.Cr hoT hdT).1,nfs hoT hdT,λv z=>by rw[hdT]at z;cases z⟩
  obtain⟨b,hm,hif⟩:=hW
  have fw:∀{a},BR X (pins++Vg) H' a->BR (X.held e) pins H' a:=λz=>⟨z.no,z.new,λp hp=>z.pin p (by rw[<-List.append_assoc];exact List.mem_append_left _ hp)⟩
  refine wpAny_handleBy_cons (codeAny_handlers_test (wT (hn e _ _ σ' H' (λv' Wc=>v'=v/\Wc=H') (I4.held e) ⟨rfl,rfl⟩) (λc' s3 ⟨v',Wc,I5,rv,e1,e2⟩=> ?_) λ_ _ z=>z.elim)) (by intro q;cases q)
  subst e1 e2
  obtain rfl:=hv c' rv
  have x5:Exc s3.heap e C (some dx) (some T1) .none:=⟨vs2,(I5.pin (e,_) (by simp)).1,h12,azp,oT,ts2,(I5.pin (T1,oT) (by simp)).1,hdT,h32⟩
  refine PySem.W.Looks.here (s:=s3) (PySem.W.exm_one I5.zb x5.typ hm) ?_
  cases b with
  | true=>
   refine codeAny_handlers_suite_as (Cd (fr:=none) x5 λh6 k6 x6=> ?_)
   have I6:=(I5.fewer).Qh x5 (fw fe') (λt z=>by cases z;exact fw fT1) (k6.mono (by simp)) x6.here.1 x6.here.2
   obtain⟨vs6,he6,_⟩:=x6.at_
   have I7:=I6.caught he6 (fw fe')
   refine G6 (v:= .ref e) (I7.Wn ok) nd hi (.inl hl) rfl (λs8 I8=> ?_) (.inr hl)
   refine wT (hs e pins s8 _ _ (Ends.less D i) (I8.held e) (hif e fe'.no)) (λf s9 z=> ?_) λ_ _ z=>z.elim
   show wpAny _ _ (do bindName X.env n .none;unbindBehindTheSuite X.env n hpos) _ _ _
   have z':SP X pins (Ends.less D i) f s9:=SP.map (λ_ _ y=>y.Wn ok) z
   cases f with
   | next=>obtain⟨σ9,H9,I9,q9⟩:=z';exact name_goes I9 nd hi hl hk hcls λs' I'=>⟨_,_,I',q9⟩
   | brk=>obtain⟨σ9,H9,I9,q9⟩:=z';exact name_goes I9 nd hi hl hk hcls λs' I'=>⟨_,_,I',q9⟩
   | cont=>obtain⟨σ9,H9,I9,q9⟩:=z';exact name_goes I9 nd hi hl hk hcls λs' I'=>⟨_,_,I',q9⟩
   | ret u=>obtain⟨v9,σ9,H9,I9,r9,q9⟩:=z';exact name_goes I9 nd hi hl hk hcls λs' I'=>⟨v9,_,_,I',r9,q9⟩
  | false=>
   refine wpAny_handleBy_nil ?_
   unfold PySem.passOn
   obtain⟨vs5,he5,h15,_⟩:=x5.at_
   refine zC (vS he5 rfl h15 ?_)
   rw[if_neg (by simp)]
   refine zC (Cd x5 λh6 k6 x6=>wpAny_throw (hx _ _ ⟨e,C,dx,some T1,_,pins,σ',Wc,rfl,?_,x6,.inr (by rw[hf];rfl),⟨fe'.no,fe'.new,(fw fe').pin⟩,λt z=>by cases z;exact⟨fT1.no,fT1.new,(fw fT1).pin⟩,hif⟩))
   exact((I5.fewer).Qh x5 (fw fe') (λt z=>by cases z;exact fw fT1) (k6.mono (by simp)) x6.here.1 x6.here.2).Wn ok
end
section
variable{X:Cx}{e:Expr}{ta:TE}{f:Str}{pos:Pos}
def au5(K:Frag)(ta:TE)(f:Str):TE:=λσ H Q=>ta σ H λx H1=>∃a C dx fs v,x= .ref a/\H1 a=some (xC a C dx)/\H1 dx=some (.xd fs)/\zA K C f/\findIn K (.ref C) "__getattr__" = some none/\fs.lookup f=some v/\Q v H1
theorem agU(he:PE X e ta)(hb:attributeBase e f X.env (eval e X.env)=eval e X.env):PE X (.Attribute e f pos) (au5 X.K ta f):=by
 intro pins s σ H Q I h
 refine ZC hb (kj (he pins s σ H _ I h) ?_)
 rintro u s1 ⟨x,H1,I1,rx,a,C,dx,fs,v,ex,ea,ed,F,hg,l,q⟩
 subst ex
 obtain rfl:u=Value.ref a:=rx
 obtain⟨⟨vs,hx⟩,_⟩:=(show bT X.prog X.w H1 s1.heap a (xC a C dx)from I1.hok a _ ea)
 obtain⟨mA,hn,hr⟩:=(show bT X.prog X.w H1 s1.heap dx (.xd fs)from I1.hok dx _ ed)
 have r0:=hr f
 rw[l]at r0
 cases hm:mA f with
 | none=>rw[hm]at r0;exact r0.elim
 | some u=>
  rw[hm]at r0
  exact auZ I1.zb F hg hx hn hm (QK r0) ⟨v,H1,I1.tok _,r0,q⟩
end
structure XIs(K:Frag)(C:Addr):Prop where
 gn:findIn K (.ref C) "__getattr__" = some none
 ca:findIn K (.ref C) "__class__" = some (some (.builtin "object.__class__"))
 hn:PySem.W.specialIn K (.builtin "object.__class__") "__get__" = some (some (.builtin "getset_descriptor.__get__"))
 tk:PySem.W.takesIn K (.builtin "object.__class__")=some true
 mr:PySem.W.mroIn K C (.type "object")=some true
section
variable{prog:Program}{w:World}{A:Around}{E:Value->Shared->Prop}{s:Shared}{K:Frag}{x C:Addr}{name:Str}{ox od:Obj}
theorem adM{Q:Option Value->Shared->Prop}(X:K.In s.heap)(F:zA K C name)(S:XIs K C)(I:PySem.W.InstAt s.heap x ox C (some od))(h:Q (some (.ref C)) {s with toks:=s.toks+1}):
  wpAny (model prog w) A (getAttr? (.ref x) "__class__") Q E s:=by
 obtain⟨cd,hc,hhd,hne,_,hbe,_⟩:=F.cd
 have hf:PySem.W.findObj K C (some od) "__class__" = some (.bind (.builtin "getset_descriptor.__get__") (.builtin "object.__class__")):=PySem.W.findObj_data (by rw[hc];rfl) S.ca S.hn S.tk
 have L0:=I.type (M:=model prog w)
 have L1:=PySem.W.looks_findIn (M:=model prog w) X F.ga
 have L2:=PySem.W.looks_find (M:=model prog w) X I hf
 have L3:=PySem.W.looks_findIn (M:=model prog w) X S.gn
 have sub:PySem.W.Looks (model prog w) s.heap (isInstance (.ref x) (.type "BaseException")) true:=I.type.andThen (PySem.W.looks_mroIn X (by unfold PySem.W.mroIn;rw[hc,Option.bind_some,if_neg (by rw[hne];decide),hbe]))
 obtain⟨hh',g,d,t,os⟩:=s
 unfold getAttr? getAttrBy? getAttrBy
 refine zC (wpAny_mkText (zC (wpAny_attempt (wpAny_holding (zC (L0.at (zC (L1.at ?_))))))))
 dsimp only
 rw[if_neg (by rw[show(Value.builtin "BaseException.__getattribute__" == Value.builtin "object.__getattribute__")=false from by decide +kernel,Bool.and_false];decide)]
 unfold getAttrByItsOwn hookBefore
 rw[if_pos (show onTheHeap (Value.ref C)=true from rfl)]
 refine zC (L3.at (zC ?_))
 have f3:=Zn (.ref x)
 have hx0:(false&&onTheHeap (Value.builtin "BaseException.__getattribute__"))=false:=rfl
 repeat (any_goals (first | assumption | wp_step))
 refine codeAny_call_builtin PySem.F.excAttr_ValueError.ga.plain PySem.F.entry_bexc_ga (@PySem.W.check_slot (model prog w) _ _ ⟨hh',g,d,t+1,os⟩ "BaseException.__getattribute__" "BaseException" "__getattribute__" (.ref x) [.str "__class__" t] [] _ Zm Vy sub (PySem.F.args_bexc_ga _ _) ?_)
 unfold Builtin.«object.__getattribute__»
 refine zC (zI (zC (zI (zC (L0.at (zC (L2.at ?_)))))))
 show wpAny _ _ (holding [_] (call (.builtin "getset_descriptor.__get__") [.builtin "object.__class__",.ref x,.ref C]) >>= ret) _ _ _
 refine zC (wpAny_holding (wpAny_call (PySem.W.class_get (s:=⟨hh',g,d,t+1,os⟩) (ox:=ox) (od:=some od) X I S.mr ?_)))
 refine zI ?_
 dsimp only
 exact PySem.W.handed_on rfl (zI h)
end
theorem ac0{K:Frag}{x C dx:Addr}{name:Str}(F:zA K C name)(S:XIs K C):
  PySem.W.KitX K (.ref x) (.ref C) (λh=>∃ox od,PySem.W.InstAt h x ox C (some od)) where
 ty:=λ_ _ _ ⟨_,_,I⟩=>I.type
 it:=λ_ _ X _=>by
  obtain⟨cdD,hcD,_⟩:=F.cd
  unfold PySem.W.clsIn at hcD
  split at hcD
  ·rename_i c' d' cd' sl' ho
   intro A' Q' E' s' k q
   unfold isType loadHead
   exact zC (wpAny_loadPart (k _ _ (X _ _ ho)) (zI q))
  ·cases hcD
 ne:=λh tp dd its n sl X htp=>by
  obtain⟨cdD,hcD,_⟩:=F.cd
  refine Bool.eq_false_iff.mpr λq=> ?_
  have e:C=tp:=Value.ref.inj (beq_iff_eq.mp q)
  subst e
  unfold PySem.W.clsIn at hcD
  split at hcD
  ·rename_i c' d' cd' sl' ho
   have z:=(X _ _ ho).symm.trans htp
   cases z
  ·cases hcD
 ca:=λX ⟨_,_,I⟩ k=>adM X F S I k
def awj(K:Frag)(f:Str):List V->Hp->VK->Prop:=λxs H Q=>∃a C dx fs cv c b,xs=[.ref a,cv]/\ajD cv c/\H a=some (xC a C dx)/\H dx=some (.xd fs)/\zA K C f/\XIs K C/\kitOne K (.ref C) c=some b/\Q (.bl b) H
theorem adu:qU X (.builtin "isinstance") (awj X.K f):=by
 intro pins s σ H xs us Q I r h
 obtain⟨a,C,dx,fs,cv,c,b,rfl,hc,ha,hd,F,S,e,q⟩:=h
 obtain⟨u,v,rfl,rx,rc⟩:=vals2 r
 have ec:v=c:=by
  cases cv with
  | ty n=>exact(show v=Value.type n from rc).trans (show c=Value.type n from hc).symm
  | ref a=>exact(show v=Value.ref a from rc).trans (show c=Value.ref a from hc).symm
  | _=>exact hc.elim
 subst ec
 obtain rfl:u=Value.ref a:=rx
 obtain⟨⟨vs,hx⟩,_⟩:=(show bT X.prog X.w H s.heap a (xC a C dx)from I.hok a _ ha)
 obtain⟨mA,hn,hr⟩:=(show bT X.prog X.w H s.heap dx (.xd fs)from I.hok dx _ hd)
 obtain⟨od,hod,_⟩:=JQ hn
 exact uS (ac0 (dx:=dx) F S) I.zb ⟨_,od,hx,rfl,rfl,hod⟩ e (λz=>nomatch z) λtk=>⟨.bl b,H,I.tok tk,rfl,q⟩
section
variable{X:Cx}{k:Nat}{f C:Addr}{fd:FuncData}{ps:List Str}{sp:Sp}{BZ:List V}{ds:List Value}{W:bf}{x:Str}{p pos:Pos}{e:Expr}{es:List Expr}{t:TA}
def Wx(C:Addr)(sp:Sp)(BZ:List V)(W:bf)(t:TA):TE:=λσ H Q=>t σ H λvs H1=>∀x dx,H1 x=none->H1 dx=none->dx≠x->
 sp (.ref x::(vs++BZ)) (upd (upd H1 dx (.own x)) x (.ins C dx [])) (λv H2=>v= .non/\Q (.ref x) H2) (EW W σ)
theorem Qs(M:Mk X.K C f)(F:g8 X.prog X.w X.K X.mg X.base (wV X.prog X.w) k f fd ps sp)(hr:jT (k+1) X.A)(hb:Binds X.K fd ps ds)(hd:Vals BZ ds)
  (hx:Tk X W) (I:Inv X pins σ H s) (r:Vals vs us)
  (h:∀x dx,H x=none->H dx=none->dx≠x->sp (.ref x::(vs++BZ)) (upd (upd H dx (.own x)) x (.ins C dx [])) (λv H2=>v= .non/\Q (.ref x) H2) (EW W σ)):
  wpAny (model X.prog X.w) X.A (call (.ref C) us) (EP X pins σ Q) X.xe s:=by
 have hq:=h (s.heap.objs.size+1) s.heap.objs.size (I.hok.fresh (Nat.le_succ _)) (I.hok.fresh (zab _)) (xD (Nat.lt_succ_self _))
 have I2:=Inv.made (C:=C) I
 have r2:Vals (V.ref (s.heap.objs.size+1)::(vs++BZ)) (Value.ref (s.heap.objs.size+1)::(us++ds)):= .cons rfl (r.append hd)
 have hl:(Value.ref (s.heap.objs.size+1)::us++ds).length=ps.length:=by
  have e:=r2.length
  rw[F.len _ _ _ _ hq]at e
  exact e.symm
 refine wpAny_call (acO (f:=f) I.zb M.makes M.init (beq_iff_eq.mp M.fn) (codeAny_mono (F.run _ X.stack _ _ ⟨Value.ref (s.heap.objs.size+1)::us,[]⟩ (Value.ref (s.heap.objs.size+1)::(us++ds)) _ _ _ (hr.make C us [])
  (I2.env0.make C us []) (hb _ (Value.ref (s.heap.objs.size+1)::us) I2.zb hl) r2 hq) λr s' hq'=> ?_))
 match r,hq' with
 | .error e,hq'=>exact hx _ _ (jt.Y_ I2 hq' λC dx H' ⟨C',dx',e1,e2,w⟩=>by cases e1;cases e2;exact w)
 | .ok (.ret u),hq'=>
  obtain⟨v,H',I3,rv,ev,q3⟩:=I2.after hq'
  subst ev
  exact⟨rv,⟨V.ref (s.heap.objs.size+1),H',I3,rfl,q3⟩⟩
theorem acB(M:Mk X.K C f)(F:g8 X.prog X.w X.K X.mg X.base (wV X.prog X.w) k f fd ps sp)(hr:jT (k+1) X.A)(hg:Gl X x)(hm:X.mg x=some (.ref C))(hb:Binds X.K fd ps ds)(hd:Vals BZ ds)(hx:Tk X W)
  (ha:PA X (e::es) t) (hdb:(x==("__debug__" : Str))=false:=by decide) (he:starEach (e::es) X.env=(false,eval e X.env)::starEach es X.env:=by rfl) (hpl:(backTo pos (starEach es X.env)).any (·.1)=false:=by rfl):
  PE X (.Call (.Name x p) (e::es) [] pos) (Wx C sp BZ W t):=λpins s σ H Q I h=>
 wpAny_Call_Name_kw (Eg I hg hm (PySem.W.callWith_K (h₀:=X.base) I.ok.mod.kin M.kp (kj (ha pos pins s σ H _ I h) λus s1 ⟨vs,H1,I1,r,q⟩=>⟨I1.zb,Qs M F hr hb hd hx I1 r q⟩) he hpl) hdb)
theorem aao(M:Mk X.K C f)(F:g8 X.prog X.w X.K X.mg X.base (wV X.prog X.w) k f fd ps sp)(hr:jT (k+1) X.A)(hg:Gl X x)(hm:X.mg x=some (.ref C))(hb:Binds X.K fd ps ds)(hd:Vals BZ ds)(hx:Tk X W)
  (hdb:(x==("__debug__" : Str))=false:=by decide):PE X (.Call (.Name x p) [] [] pos) (Wx C sp BZ W adS):=λpins s σ H Q I h=>
 wpAny_Call_Name_kw (Eg I hg hm (PySem.W.callWith_K0 I.zb M.kp (Qs (us:=[]) M F hr hb hd hx I .nil h)) hdb)
end
section
variable{K:Frag}{nm q:Str}{C N:Addr}{bs bm:List Value}{sn:List Str}{sub:List Value}{ab:Bool}{col:Option Bool}{dd:Option Addr}{k0 k1 k2 k3 k5:Option Value}{newId:String}{name:Str}
theorem Rh(lo:K.lookup C=some (excClassObj nm q C N bs bm true sn sub ab col dd k0 k1 k2 k3 k5 newId))(h1:bm.contains (.type "object")=true)(h2:bm.contains (.type "BaseException")=true)(h3:∀self,refuseLoop self "__setattr__" bm=pure .unit)
  (sa:findIn K (.ref C) "__setattr__" = some (some (.builtin "object.__setattr__"))) (ga:findIn K (.ref C) "__getattribute__" = some (some (.builtin "BaseException.__getattribute__"))) (no:findIn K (.ref C) name=some none):zA K C name:=
 ⟨⟨_,by unfold PySem.W.clsIn;rw[lo],rfl,rfl,by rw[List.contains_cons,h1,Bool.or_true],by rw[List.contains_cons,h2,Bool.or_true],λself=>(refuseLoop_ref self _ C bm).trans (h3 self)⟩,sa,ga,no⟩
theorem Wi(lo:K.lookup C=some (excClassObj nm q C N bs bm true sn sub ab col dd k0 k1 k2 k3 k5 newId))(h1:bm.contains (.type "object")=true)(gn:findIn K (.ref C) "__getattr__" = some none)(ca:findIn K (.ref C) "__class__" = some (some (.builtin "object.__class__")))
  (hn:PySem.W.specialIn K (.builtin "object.__class__") "__get__" = some (some (.builtin "getset_descriptor.__get__"))) (tk:PySem.W.takesIn K (.builtin "object.__class__")=some true):XIs K C:=
 ⟨gn,ca,hn,tk,by unfold PySem.W.mroIn PySem.W.clsIn;rw[lo];simp only[Option.bind_some];rw[if_neg (by simp),List.contains_cons,h1,Bool.or_true]⟩
theorem Wg(lo:K.lookup C=some (excClassObj nm q C N bs bm true sn sub ab col dd k0 k1 k2 k3 k5 "ValueError.__new__"))(h0:bm.contains (.type "ValueError")=true)(hA:bm.contains (.type "AttributeError")=false)(hN:bm.contains (.type "NameError")=false)(h2:bm.contains (.type "BaseException")=true)
  (init:findIn K (.ref C) "__init__" = some (some (.ref f))) (fn:isFn K (.ref f)=true) (kp:keepIn K (.ref C)=true):XMk K C f:=
 ⟨⟨nm,q,N,bs,bm,true,sn,sub,ab,col,dd,k0,k1,k2,k3,k5,lo,⟨h0,hA,hN⟩,h2⟩,init,fn,kp⟩
theorem Zf(lo:K.lookup C=some (excClassObj nm q C N bs bm true sn sub ab col dd k0 k1 k2 k3 k5 newId))(h:subIn K t (.ref C)=some b):PySem.W.kitCls K t (.ref C)=some b:=by
 unfold PySem.W.kitCls
 dsimp only
 rw[if_pos,h]
 unfold PySem.W.clsIn PySem.W.typeIn
 rw[lo]
 simp[lo]
theorem sub_self(lo:K.lookup C=some (excClassObj nm q C N bs bm true sn sub ab col dd k0 k1 k2 k3 k5 newId)):subIn K (.ref C) (.ref C)=some true:=by
 show PySem.W.mroIn K C (.ref C)=some true
 unfold PySem.W.mroIn PySem.W.clsIn
 rw[lo]
 simp
theorem GP(lo:K.lookup C=some (excClassObj nm q C N bs bm true sn sub ab col dd k0 k1 k2 k3 k5 newId))(h2:bm.contains (.type "BaseException")=true)(h:subIn K t (.ref C)=some b):exmOne K t (.ref C)=some b:=by
 unfold exmOne
 have e:subIn K (.ref C) (.type "BaseException")=some true:=by
  show PySem.W.mroIn K C _=some true
  unfold PySem.W.mroIn PySem.W.clsIn
  rw[lo]
  simp only[Option.bind_some]
  rw[if_neg (by simp),List.contains_cons,h2,Bool.or_true]
 rw[if_pos (by rw[e];simp)]
 exact Zf lo h
theorem HJ(lo:K.lookup C=some (excClassObj nm q C N bs bm true sn sub ab col dd k0 k1 k2 k3 k5 newId))(h:subIn K t (.ref C)=some b):kitOne K t (.ref C)=some b:=by
 unfold kitOne
 split
 ·rename_i z
  have z':t= .ref C:=beq_iff_eq.mp z
  subst z'
  rw[sub_self lo]at h
  exact h
 ·exact Zf lo h
end
end L2
namespace L2
open PySem
theorem Cq{bm:List Value}{cs:List Addr}(e:bm=cs.map Value.ref++[.type "ValueError",.type "Exception",.type "BaseException",.type "object"]):∀self,refuseLoop self "__setattr__" bm=pure .unit:=by
 subst e
 intro self
 induction cs with
 | nil=>rfl
 | cons c r ih=>simp only[List.map_cons,List.cons_append,refuseLoop_ref];exact ih
end L2
namespace L2
open PySem PySem.Spec PyProof.Rows
def awl:V->Option Int->Option Int->Hp->VK->Prop:=λx lo hi H Q=>∃u,x= .str u/\u.length<=sizeLine/\Q (.str (Txt.slice u lo hi)) H
theorem agm:SlR X awl:=by
 intro pins s σ H x v vl vu lo hi sl Q I rx hs pl pu h
 obtain⟨u,rfl,hz,q⟩:=h
 obtain⟨t,rfl⟩:=rx
 have fin:∀(t':Tok) (k:Nat),EP X pins σ Q (.str (Txt.slice u lo hi) t') {s with toks:=k}:=λt' k=>⟨.str _,H,I.tok k,⟨t',rfl⟩,q⟩
 refine⟨"str",_,F.slot_str_getitem.lookup,typeIs_str _ _ _,?_⟩
 cases pl with
 | none=>
  cases pu with
  | none=>exact wpAny_getItem_str_slice (l:=none) (u:=none) (st:=none) hs rfl (post_val_or_str ⟨yY (Txt.slice_le u _ _) hz,fin⟩)
  | int j uj=>exact wpAny_getItem_str_slice (l:=none) (u:=some (j,uj)) (st:=none) hs rfl (post_val_or_str ⟨yY (Txt.slice_le u _ _) hz,fin⟩)
 | int i ui=>
  cases pu with
  | none=>exact wpAny_getItem_str_slice (l:=some (i,ui)) (u:=none) (st:=none) hs rfl (post_val_or_str ⟨yY (Txt.slice_le u _ _) hz,fin⟩)
  | int j uj=>exact wpAny_getItem_str_slice (l:=some (i,ui)) (u:=some (j,uj)) (st:=none) hs rfl (post_val_or_str ⟨yY (Txt.slice_le u _ _) hz,fin⟩)
theorem Wv{n:Nat}(h:n<=1000000):Builtin.Str.tooLong n=false:=by
 unfold Builtin.Str.tooLong
 exact zaf (by have:(1000000:Nat)<=sizeLine:=(by decide);lia)
theorem mulOk_of(hx:x.length<=1000)(h0: -(2 ^ 62)<n)(h1:n<=1000):MulOk x n:=by
 refine⟨?_,?_,?_⟩
 ·rw[zaf (),zaf ()];rfl
 ·intro a b
  have:(1000:Int)<=(2 ^ 63 - 1) / n:=by
   rw[Int.le_ediv_iff_mul_le ()]
   lia
  lia
 ·intro a b
  refine Wv ?_
  have:n.toNat<=1000:=()
  calc x.length*n.toNat<=1000*1000:=Nat.mul_le_mul hx this
   _<=1000000:=by decide
theorem W8:Bg X (binaryOp .Mult) (λx y H Q=>∃i j,x= .str i/\y= .int j/\MulOk i j/\Q (.str (PySem.Txt.mul i j)) H):=by
 intro pins s σ H x y v u Q I rx ry h
 obtain⟨i,j,rfl,rfl,hz,q⟩:=h
 obtain⟨t,rfl⟩:=rx
 obtain⟨t',rfl⟩:=ry
 exact SB.mul hz (λt' tk=>⟨.str (PySem.Txt.mul i j),H,I.tok _,⟨_,rfl⟩,q⟩)
section
variable{X:Cx}
theorem af2(I:Inv X pins σ H s)(e:H a=some (.dK [])):Inv X pins σ (upd H a (.dT [])) s:=by
 obtain⟨z,hd,vs,rel,o,es,ep,h1,h2,h3,h4,h5,h6⟩:=adn I.hok e
 have hv:vs=[]:=by cases rel;rfl
 subst hv
 have he:es.toList=[]:=by
  have:=h5.length
  exact List.length_eq_zero_iff.mp (by simpa using this)
 exact TJ (t':=s.toks) (h':=s.heap) I (by rw[e];exact zaa) ⟨rfl,λ_ _=>rfl⟩ ⟨o,h1⟩ ⟨Nat.zero_le _,hd,[],.nil,o,es,ep,h1,h2,h3,by rw[he];rfl,List.nodup_nil⟩
def afu(H:Hp)(a:Addr)(y:V)(o:Option V)(H':Hp):Prop:=(Lh H a y o/\H'=H)\/(H a=some (.dK [])/\(∃(k:List Key) (b:Addr),y= .ref b/\H b=some (.tup (k.map kV)))/\o=none/\H'=upd H a (.dT []))
theorem afu.inv(g:afu H a y o H')(I:Inv X pins σ H s):Inv X pins σ H' s/\Lh H' a y o:=by
 rcases g with⟨g,rfl⟩ | ⟨e,⟨k,b,rfl,eb⟩,rfl,rfl⟩
 ·exact⟨I,g⟩
 ·refine⟨af2 I e,.inr ⟨[],k,b,.inl aM,rfl,?_,rfl⟩⟩
  rw[aH (λz=>by subst z;rw[e]at eb;cases eb)]
  exact eb
def akl(neg:Bool):R2:=λy x H Q=>∃a o H',x= .ref a/\afu H a y o H'/\Q (.bl (if neg=true then !o.isSome else o.isSome)) H'
theorem ahj(hu:X.A.units+1<cLine):Bg X (compareOp .In) (akl false):=by
 intro pins s σ H y x v u Q I ry rx h
 obtain⟨a,o,H',rfl,g,q⟩:=h
 obtain rfl:u=Value.ref a:=rx
 obtain⟨I1,g1⟩:=g.inv I
 exact azF hu I1 g1 ry λs' I'=>⟨.bl _,H',I',rfl,q⟩
def akk:R2:=λx y H Q=>∃a v,x= .ref a/\Lh H a y (some v)/\Q v H
theorem aeT(hu:X.A.units+1<cLine):IxR X akk:=by
 intro value slice pins s σ H x y v u Q I rx ry h hs
 obtain⟨a,d,rfl,g,q⟩:=h
 obtain rfl:v=Value.ref a:=rx
 exact tail_any (VD I g) PySem.F.slot_dict_getitem.lookup (aaY hu I g ry λw' s' I' rw'=>⟨d,H,I',rw',q⟩) hs
section
variable{o e f i value:Expr}{apos cpos pos pos':Pos}{td ty tx tv:TE}
def arE(H:Hp)(a:Addr)(y v:V)(H':Hp):Prop:=Uq H a y v H'\/∃(k:List Key) (b:Addr),H a=some (.dK [])/\y= .ref b/\H b=some (.tup (k.map kV))/\H'=upd H a (.dT [(k,v)])
def akb(td ty tv:TE):TS:=λD σ H=>tv σ H λv H1=>td σ H1 λx H2=>ty σ H2 λy H3=>∃a H4,x= .ref a/\arE H3 a y v H4/\D.nx σ H4
theorem aek(hu:X.A.units+1<cLine)(ho:PE X o td)(hi:PE X i ty)(hv:PE X value tv)(hs:swapsWith value (some (.Subscript o i pos')) pos.line X.env=pure false):PS X (.Assign [.Subscript o i pos'] value pos) (akb td ty tv):=by
 intro pins s σ H D I h
 refine wpAny_Assign_Subscript (kj (hv pins s σ H _ I h) ?_) hs
 rintro r t1 ⟨v,H1,I1,rv,q1⟩
 refine kj (ho pins t1 σ H1 _ I1 q1) ?_
 rintro u t2 ⟨x,H2,I2,rx,q2⟩
 refine kj (hi pins t2 σ H2 _ I2 q2) ?_
 rintro iv t3 ⟨y,H3,I3,ry,a,H4,ex,g,q3⟩
 subst ex
 obtain rfl:u=Value.ref a:=rx
 rcases g with g | ⟨k,b,e,rfl,eb,rfl⟩
 ·exact QX hu I3 g ry rv λt4 I4=>⟨σ,H4,I4,q3⟩
 ·have eb':upd H3 a (.dT []) b=some (.tup (k.map kV)):=by
   rw[aH (λz=>by subst z;rw[e]at eb;cases eb)]
   exact eb
  refine QX hu (af2 I3 e) (Uq.t aM eb' (by rw[sizeLine_eq];decide)) ry rv λt4 I4=>⟨σ,_,I4,?_⟩
  rw[adO]
  exact q3
end
end
section
variable{prog:Program}{w:World}{A:Around}{E:Value->Shared->Prop}{s:Shared}{κ:Type}[DecidableEq κ]{knd:HeapKind prog w κ}{a:Addr}{xs:List (κ×Addr×Value)}
theorem Xo(hd:(a==sysModules)=false):MeetsIn prog w (Builtin.«dict.__len__» ⟨[.ref a],[]⟩) (λ_ R t=>∃ys:List (κ×Addr×Value),t.heap.DictOfH knd a ys/\R (.ok (.ret (.int ys.length t.toks))) {t with toks:=t.toks+1}):=
 .of_wp λA R t ⟨ys,hm,q⟩=>by
  obtain⟨o,es,ep,e1,_,e2,e3,_⟩:=hm
  show wpAny _ _ (dictSize a >>= _) _ _ t
  unfold dictSize
  refine zC (zC (wpAny_dictEntries e1 e2 (zI ?_)))
  show wpAny _ _ (Builtin.Dict.pendingCount a >>= _) _ _ t
  refine zC (wpAny_pendingCount_other hd (wpAny_ret_mkInt ?_))
  have sz:es.size=ys.length:=by rw[<-Array.length_toList,e3,zan]
  rw[Nat.add_zero,sz]
  exact q
theorem ayv{Q:Value->Shared->Prop}(hd:(a==sysModules)=false)(hm:s.heap.DictOfH knd a xs)(hz:(xs.length:Int)<2 ^ 63)(q:Q (.int xs.length (s.toks+1)) {s with toks:=s.toks+1+1}):wpAny (model prog w) A (call (.builtin "len") [.ref a]) Q E s:=by
 refine Calls.call_function_entry kind_len plain_len entry_len (args_len1 _) ?_
 unfold Builtin.«len»
 refine zC (m:=oneArg "len" _) (zI (zC (m:=callSpecial? (.ref a) (Str.ofString "__len__")) ?_))
 refine zah (name:=Str.ofString "__len__") hm.typeIs F.slot_dict_len (call_meetsIn F.slot_dict_len hm.typeIs F.entry_dict_len (F.args_dict_len_1 _) (Xo (knd:=knd) hd) ⟨xs,hm,?_⟩)
 show wpAny (model prog w) _ _ _ _ {s with toks:=s.toks+1}
 refine zC (wpAny_holding (zI (zC (wpAny_letGo ?_))))
 show wpAny (model prog w) _ (if((xs.length:Nat):Int)<0 then _ else _) _ _ _
 rw[if_neg ()]
 show wpAny (model prog w) _ (if((xs.length:Nat):Int)>=2 ^ 63 then _ else _) _ _ _
 rw[if_neg ()]
 exact zC (wpAny_mkInt (zI ⟨_,rfl,q⟩))
end
theorem aa2:qU X (.builtin "len") (λxs H Q=>∃a kvs,xs=[V.ref a]/\H a=some (.dT kvs)/\Q (.int kvs.length) H):=by
 intro pins s σ H xs us Q I r h
 obtain⟨a,kvs,rfl,ha,q⟩:=h
 obtain⟨u,rfl,ru⟩:=vals1 r
 cases ru
 obtain⟨z,hd,ys,rel,dd⟩:=af1 I.hok ha
 have hl:=Paired.length rel
 refine ayv hd dd (by rw[<-hl];rw[sizeLine_eq]at z;lia) ⟨.int kvs.length,H,I.tok _,⟨_,by rw[hl]⟩,q⟩
end L2
namespace L2
open PySem PySem.W PyProof.Rows
section
variable{n:Nat}{O:KeyOrd}{k:Nat->O.α}
noncomputable def kk(k:Nat->O.α)(p:Array Nat)(i:Nat):O.α:=k (p.getD i 0)
end
end L2
namespace L2
open PySem PySem.Spec PySem.W PyProof.Rows
section
variable{X:Cx}{pins:List (Addr×Obj)}{σ:St}{H:Hp}{s:Shared}{A:Around}{E:Value->Shared->Prop}
theorem Inv.track(I:Inv X pins σ H s)(fp:Ff X pins H a)(h0:X.s₀.heap.get? a=none)(new:bT X.prog X.w (upd H a o) s.heap a o):Inv X pins σ (upd H a o) s where
 ok:=I.ok
 os:=I.os
 bare:=I.bare
 base:={
  keep:=I.base.keep
  slot:=I.base.slot
  free:=λb ob e n hx=>by rw[aH (by rintro rfl;rw[h0]at e;cases e)];exact I.base.free b ob e n hx
  there:=I.base.there
  tups:=λb xs e=>by
   have:=I.base.tups b xs e
   rw[aH (bC this fp.1)];exact this
  vq:=λb ob xs e=>by
   have:=I.base.vq b ob xs e
   rw[aH (bC this fp.1)];exact this
  yo:=λb ps e=>by
   obtain⟨ps',this⟩:=I.base.yo b ps e
   exact⟨ps',by rw[aH (bC this fp.1)];exact this⟩}
 loc:=I.loc
 cell:=I.cell
 free:=by rw[aH (Ne.symm fp.2.1)];exact I.free
 m7:=λx c e=>(I.m7 x c e).imp id (λz=>by rw[aH (fp.2.2.2.2.1 x c e)];exact z) λo u z=>by rw[aH (fp.2.2.2.2.1 x c e)];exact z
 pin:=λp hp=>by
  obtain⟨a1,a2,a3⟩:=I.pin p hp
  exact⟨a1,by rw[aH (fp.2.2.2.2.2 p hp)];exact a2,a3⟩
 hok:=ym.track I.hok fp.1 new
 len:=I.len
theorem Z2:∀{vs:List Value},vs.length<2->(vs.toArray.zip vs.toArray).map (·.2)=((List.range vs.length).map λi=>vs.getD i Value.none).toArray
 | [],_=>by simp
 | [_],_=>by simp
 | _::_::_,h=>absurd h (by simp)
end
end L2
namespace L2
open PySem PySem.Spec PySem.W PySem.Calls PyProof.Rows
theorem Ve(d:Addr):¬((Value.ref d==Value.none)=true):=λz=>xA z
def Lg(h:Heap)(d:Addr)(es:Array DictEntry)(ep:Nat):Prop:=∃o,h.get? d=some o/\o.ExactDict/\o.data= .dict es ep
theorem Lg.keep(x:Lg h d es ep)(k:∀o,h.get? d=some o->h'.get? d=some o):Lg h' d es ep:=
 let⟨o,a,b⟩:=x;⟨o,k o a,b⟩
noncomputable def itO(f0 f1:Value)(d:Addr)(i n ep:Nat)(ok ov:Value):Obj:=
 {cls:= .type "dict_itemiterator",dict:=none,data:= .fields #[f0,f1,.ref d,.int i 0,.int n 0,.int ep 0,ok,ov],slots:= #[]}
def Yr(h:Heap)(it d S:Addr)(i n ep:Nat):Prop:=∃f0 f1 ok ov,h.get? it=some (itO f0 f1 d i n ep ok ov)/\(f0= .none\/∃(a:Addr) (b:Bool) (oa:Obj),f0=rawInt a/\f1= .bool b/\h.get? a=some oa/\a≠it/\a≠S)
theorem Yr.keep(x:Yr h it d S i n ep)(k:∀b o,b≠S->h.get? b=some o->h'.get? b=some o)(hS:it≠S):Yr h' it d S i n ep:=by
 obtain⟨f0,f1,ok,ov,e,z⟩:=x
 exact⟨f0,f1,ok,ov,k _ _ hS e,z.imp id λ⟨a,b,oa,q1,q2,q3,q4,q5⟩=>⟨a,b,oa,q1,q2,k _ _ q5 q3,q4,q5⟩⟩
section
variable{prog:Program}{w:World}{A:Around}{E:Value->Shared->Prop}{s:Shared}
theorem XD{Q:Value->Shared->Prop}(hd:(d==sysModules)=false)(x:Lg s.heap d es ep)
  (h:Q (.ref s.heap.objs.size) {s with heap:=s.heap.push {cls:= .type "dict_items",data:= .fields #[.ref d]}}):wpAny (model prog w) A (call (.builtin "dict.items") [.ref d]) Q E s:=by
 obtain⟨o,ho,ex,_⟩:=x
 have ty:s.TypeIs (.ref d) "dict" := ⟨o,ho,ex.1⟩
 refine jI PySem.F.slot_dict_items ty PySem.F.entry_dict_items ?_ (PySem.F.args_dict_items_1 _)
 unfold Builtin.«dict.items» Builtin.Dict.noArgs
 refine zC (zC (wpAny_notOrdered_dict ty (show wpAny _ _ (pure d) _ _ s from zI ?_)))
 show wpAny _ _ (Builtin.Dict.showsAll d >>= _) _ _ s
 unfold Builtin.Dict.showsAll
 rw[if_neg (by rw[hd];decide)]
 exact zC (zI (zC (wS (zI ⟨_,rfl,h⟩))))
theorem XC{Q:Value->Shared->Prop}(hv:s.heap.IsItemsView v d)(x:Lg s.heap d es ep)
  (h:Q (.ref s.heap.objs.size) {s with heap:=s.heap.push (itO .none (.bool false) d 0 es.size ep .none .none)}):wpAny (model prog w) A (pyIter (.ref v)) Q E s:=by
 obtain⟨o1,g1,c1,d1⟩:=id hv
 obtain⟨o,ho,ex,hdat⟩:=x
 refine wpAny_pyIter_slot hv.typeIs PySem.F.slot_dict_items_iter (jI PySem.F.slot_dict_items_iter hv.typeIs PySem.F.entry_dict_items_iter ?_ (PySem.F.args_dict_items_iter_1 _))
 unfold Builtin.«dict_items.__iter__» Builtin.Dict_items.dictOf Builtin.Dict_items.newIterator
 refine zC (zI (zC (zC (vS g1 d1 (x:= .ref d) rfl (zI (zC (zC (wpAny_dictEntries ho hdat (zC (wpAny_dictEpoch ho hdat ?_))))))))))
 simp only[show Builtin.Dict_items.ownsTuple "dict_itemiterator" = true from by decide,if_true]
 refine wS (zI ⟨_,rfl,"dict_itemiterator",_,⟨_,yB _ rfl,rfl⟩,PySem.F.slot_dict_itemiterator_next.lookup,?_⟩)
  (by simp only[sizeOk,Builtin.Dict_items.ownedTupleFields,List.size_toArray,List.length_append,List.length_cons,List.length_nil,sizeLine_eq];lia)
 simpa[rawInt,itO,Builtin.Dict_items.ownedTupleFields]using h
theorem Xz{Q:Option Value->Shared->Prop}(g:Yr s.heap it d S i es.size ep)(x:Lg s.heap d es ep)(hS:S<s.heap.objs.size)(hi:i<es.size)
  (h:∀h':Heap,Yr h' it d S (i+1) es.size ep->h'.get? s.heap.objs.size=some {cls:= .type "tuple",data:= .seq #[es[i].key,es[i].val]}->h'.objs.size=s.heap.objs.size+1->
   (∀b o,b≠it->s.heap.get? b=some o->h'.get? b=some o)->Q (some (.ref s.heap.objs.size)) {s with heap:=h'}):wpAny (model prog w) A (pyNext (.ref it)) Q E s:=by
 obtain⟨f0,f1,ok,ov,e0,ff⟩:=g
 obtain⟨o,ho,ex,hdat⟩:=x
 obtain⟨hp,gs,dr,tk,os⟩:=s
 have ty:Shared.TypeIs ⟨hp,gs,dr,tk,os⟩ (.ref it) "dict_itemiterator" := ⟨_,e0,rfl⟩
 have own:Builtin.Dict_items.ownsTuple "dict_itemiterator" = true:=by decide
 have lt:it<hp.objs.size:=zS e0
 unfold pyNext
 refine zC (wpAny_attempt (zah (name:=Str.ofString "__next__") ty PySem.F.slot_dict_itemiterator_next (jI PySem.F.slot_dict_itemiterator_next ty PySem.F.entry_dict_itemiterator_next ?_ (PySem.F.args_dict_itemiterator_next_1 _))))
 refine zC (zI (zC (zC (zC (wpAny_typeNameOfWhole_itemiter ty (zI (zC (wpAny_fieldsOf e0 rfl ?_))))))))
 simp only[own,if_true]
 show wpAny _ _ (if(Value.ref d==Value.none)=true then _ else _) _ _ _
 rw[if_neg (Ve d)]
 refine zC (zI (zC (wpAny_dictEntries ho hdat ?_)))
 rw[if_neg (by simp)]
 refine zC (zI (zC (wpAny_dictEpoch ho hdat ?_)))
 rw[if_neg (by simp)]
 refine zI ?_
 simp only[show ¬((i:Int)<0) by lia,if_false,Int.toNat_natCast,Array.getElem?_eq_getElem hi]
 refine zC (zC (wpAny_typeNameOfWhole_itemiter ty (zI (zC (wpAny_isOneOf_itemiter ty ?_)))))
 show wpAny _ _ (setField (.ref it) 3 (rawInt ((i:Int)+1)) >>= _) _ _ ⟨hp,gs,dr,tk,os⟩
 refine zC (vE e0 (by simp) λh1 e1 b1=> ?_)
 have e1':h1.get? it=some (itO f0 f1 d (i+1) es.size ep ok ov):=by
  have z:((i+1:Nat):Int)=(i:Int)+1:=()
  unfold itO
  rw[z]
  simpa[rawInt]using e1
 replace b1:Heap.SameBut it hp h1:=b1
 have ty1:Shared.TypeIs ⟨h1,gs,dr,tk,os⟩ (.ref it) "dict_itemiterator" := ⟨_,e1',rfl⟩
 refine zC (wpAny_holding (zC (wpAny_isOneOf_itemiter ty1 (zC (wpAny_isOneOf_itemiter ty1 ?_)))))
 show wpAny _ _ (Builtin.Dict_items.pairFromOwner (.ref it) 6 es[i].key es[i].val) _ _ ⟨h1,gs,dr,tk,os⟩
 have z1:h1.objs.size=hp.objs.size:=b1.1
 unfold Builtin.Dict_items.pairFromOwner
 refine zC (wpAny_newTuple ?_)
 generalize eh2:h1.push {cls:= .type "tuple",data:= .seq [es[i].key,es[i].val].toArray}=h2
 have e2:h2.get? it=some (itO f0 f1 d (i+1) es.size ep ok ov):=by rw[<-eh2];exact zD _ e1'
 have t2:h2.get? hp.objs.size=some {cls:= .type "tuple",data:= .seq #[es[i].key,es[i].val]}:=by rw[<-eh2,<-z1];exact yB _ rfl
 have z2:h2.objs.size=hp.objs.size+1:=by rw[<-eh2,Heap.size_push,z1]
 have k2:∀b o,b≠it->hp.get? b=some o->h2.get? b=some o:=λb o hb q=>by rw[<-eh2];exact zD _ (b1.extBut b o hb q)
 have done:∀h3:Heap,(∃f0 f1 ok ov,h3.get? it=some (itO f0 f1 d (i+1) es.size ep ok ov)/\(f0= .none\/∃(a:Addr) (b:Bool) (oa:Obj),f0=rawInt a/\f1= .bool b/\h3.get? a=some oa/\a≠it/\a≠S))->Heap.SameBut it h2 h3->Q (some (.ref hp.objs.size)) ⟨h3,gs,dr,tk,os⟩:=λh3 q1 q2=>
  h h3 q1 (q2.extBut _ _ (xS lt) t2) (by show h3.objs.size=hp.objs.size+1;rw[q2.1,z2]) λb o hb q=>q2.extBut b o hb (k2 b o hb q)
 show wpAny _ _ (Builtin.Dict_items.ownedTupleIsFree (.ref it) >>= _) _ _ ⟨h2,gs,dr,tk,os⟩
 rw[z1]
 unfold Builtin.Dict_items.ownedTupleIsFree
 rcases ff with rfl | ⟨a,b,oa,rfl,rfl,ha,hai,haS⟩
 ·refine zC (zC (vS e2 rfl (x:= .none) rfl (zI ?_)))
  simp only[if_true]
  refine zC (vS e2 rfl (x:=ok) rfl (zC (vS e2 rfl (x:=ov) rfl (zC (vE e2 (by simp) λh3 e3 b3=> ?_)))))
  replace b3:Heap.SameBut it h2 h3:=b3
  refine zC (vE e3 (by simp) λh4 e4 b4=>zC (vE e4 (by simp) λh5 e5 b5=>zC (vE e5 (by simp) λh6 e6 b6=> ?_)))
  replace b4:Heap.SameBut it h3 h4:=b4
  replace b5:Heap.SameBut it h4 h5:=b5
  replace b6:Heap.SameBut it h5 h6:=b6
  have sb:Heap.SameBut it h2 h6:=⟨by rw[b6.1,b5.1,b4.1,b3.1],λc hc=>(b6.2 c hc).trans ((b5.2 c hc).trans ((b4.2 c hc).trans (b3.2 c hc)))⟩
  refine zC (wpAny_letGo (zI (zI ⟨_,rfl,zI (done h6 ⟨_,_,_,_,e6,.inr ⟨hp.objs.size,false,_,rfl,rfl,sb.extBut _ _ (xS lt) t2,xS lt,xS hS⟩⟩ sb)⟩)))
 ·refine zC (zC (vS e2 rfl (x:=rawInt a) rfl ?_))
  show wpAny _ _ (loadIfAlive ((a:Int).toNat) >>= _) _ _ _
  rw[Int.toNat_natCast]
  have ha2:=k2 a oa hai ha
  refine zC (kdx_alive ha2 ?_)
  simp only[Option.isNone_some,Bool.false_eq_true,if_false]
  refine zC (vS e2 rfl (x:= .bool b) rfl ?_)
  cases b with
  | true=>
   rw[if_neg (by decide)]
   refine zI ?_
   simp only[Bool.false_eq_true,if_false]
   exact zI (zI ⟨_,rfl,zI (done h2 ⟨_,_,_,_,e2,.inr ⟨a,true,oa,rfl,rfl,ha2,hai,haS⟩⟩ (Heap.SameBut.refl _ _))⟩)
  | false=>
   rw[if_pos (by decide)]
   refine zC (vE e2 (by simp) λh3 e3 b3=>zI ?_)
   replace b3:Heap.SameBut it h2 h3:=b3
   simp only[Bool.false_eq_true,if_false]
   exact zI (zI ⟨_,rfl,zI (done h3 ⟨_,_,_,_,e3,.inr ⟨a,true,oa,rfl,rfl,b3.extBut _ _ hai ha2,hai,haS⟩⟩ b3)⟩)
theorem Xy{Q:Option Value->Shared->Prop}(hh:A.handled=none)(g:Yr s.heap it d S i es.size ep)(x:Lg s.heap d es ep)(hi:es.size<=i)
  (h:∀h':Heap,Heap.ExtBut it s.heap h'->Q none {s with heap:=h'}):wpAny (model prog w) A (pyNext (.ref it)) Q E s:=by
 obtain⟨f0,f1,ok,ov,e0,_⟩:=g
 obtain⟨o,ho,ex,hdat⟩:=x
 have ty:s.TypeIs (.ref it) "dict_itemiterator" := ⟨_,e0,rfl⟩
 have own:Builtin.Dict_items.ownsTuple "dict_itemiterator" = true:=by decide
 unfold pyNext
 refine zC (wpAny_attempt (zah (name:=Str.ofString "__next__") ty PySem.F.slot_dict_itemiterator_next (jI PySem.F.slot_dict_itemiterator_next ty PySem.F.entry_dict_itemiterator_next ?_ (PySem.F.args_dict_itemiterator_next_1 _))))
 refine zC (zI (zC (zC (zC (wpAny_typeNameOfWhole_itemiter ty (zI (zC (wpAny_fieldsOf e0 rfl ?_))))))))
 simp only[own,if_true]
 show wpAny _ _ (if(Value.ref d==Value.none)=true then _ else _) _ _ s
 rw[if_neg (Ve d)]
 refine zC (zI (zC (wpAny_dictEntries ho hdat ?_)))
 rw[if_neg (by simp)]
 refine zC (zI (zC (wpAny_dictEpoch ho hdat ?_)))
 rw[if_neg (by simp)]
 refine zI ?_
 simp only[show ¬((i:Int)<0) by lia,if_false,Int.toNat_natCast,Array.getElem?_eq_none hi]
 refine zC (zC (wpAny_typeNameOfWhole_itemiter ty (zI ?_)))
 show wpAny _ _ (setField (.ref it) 2 .none >>= _) _ _ s
 refine zC (wpAny_setField e0 rfl (by simp) ?_)
 show wpAny _ _ (newExc (.type "StopIteration") [] >>= _) _ _ _
 simp only[newExc,newTuple]
 refine zC (zC (wS (zC (m:=firstArgMember _ _) (wpAny_of_eq (a:=Value.none) (by first | rfl | (simp only[firstArgMember];rfl)) (wS ?_ (by size_fits)))) (by size_fits)))
 simp only[raiseNew]
 refine zC (wpAny_handled ?_)
 rw[show A.in1.handled=none from hh]
 refine zC (zI (wpAny_throw ?_))
 refine zC (wpAny_isInstance (T:= "StopIteration") (b:=true) ⟨_,yB _ rfl,rfl⟩ isSubtype_stop (zI ?_))
 exact h _ (((Heap.SameBut.update ..).extBut.push _).push _)
structure Prs(es:Array DictEntry)(lo:Addr)(h:Heap)(as:List Addr):Prop where
 lt:∀a∈as,lo<a/\a<h.objs.size
 up:as.Pairwise (· < ·)
 ix:∀(j:Nat) (a:Addr),as[j]? = some a->∃e,es[j]? = some e/\h.get? a=some {cls:= .type "tuple",data:= .seq #[e.key,e.val]}
theorem Oq{S I d:Addr}{es:Array DictEntry}{ep:Nat}{R:Result->Shared->Prop}(hh:A.handled=none)(hSI:S<I)(hSd:d≠S)(hId:d≠I)(hn:es.size<=sizeLine)(res:Value){h0:Heap}
  (hR:∀h' tk (acc:Array Value) c as,(∀b o,b≠S->b≠I->h0.get? b=some o->h'.get? b=some o)->h'.get? S=some {cls:= .type "list",data:= .seq acc c}->as.length=es.size->Prs es I h' as->acc.toList=as.map Value.ref->R (.ok (.ret res)) {s with heap:=h',toks:=tk}):
  ∀(k i:Nat) (h:Heap) (tk c:Nat) (acc:Array Value) (as:List Addr),es.size=i+k->Yr h I d S i es.size ep->Lg h d es ep->(∀b o,b≠S->b≠I->h0.get? b=some o->h.get? b=some o)->h.get? S=some {cls:= .type "list",data:= .seq acc c}->
   acc.toList=as.map Value.ref->as.length=i->Prs es I h as->codeAny (model prog w) A (.builtin "list.extend.loop" ⟨[.ref S,.ref I,res],[]⟩) R {s with heap:=h,toks:=tk}
 | 0,i,h,tk,c,acc,as,hk,g,x,kp,hS,ha,hl,pr=>by
  refine codeAny_builtin PySem.F.entry_extend_loop ?_
  rw[Around.under_plainId PySem.F.plain_extend_loop _]
  show wpAny _ A.in1 (pyNext (.ref I) >>= _) _ _ _
  refine zC (Xy (s:={s with heap:=h,toks:=tk}) (A:=A.in1) hh g x () λh' he=>zI ?_)
  refine hR h' tk acc c as (λb o q1 q2 e=>he b o q2 (kp b o q1 q2 e)) (he S _ (xD hSI) hS) () ⟨λa m=>⟨(pr.lt a m).1,?_⟩,pr.up,λj a m=> ?_⟩ ha
  ·obtain⟨j,m'⟩:=List.mem_iff_getElem?.mp m
   obtain⟨e,_,q⟩:=pr.ix j a m'
   exact zS (he a _ (xS (pr.lt a m).1) q)
  ·obtain⟨e,q1,q2⟩:=pr.ix j a m
   exact⟨e,q1,he a _ (xS (pr.lt a (List.mem_of_getElem? m)).1) q2⟩
 | k+1,i,h,tk,c,acc,as,hk,g,x,kp,hS,ha,hl,pr=>by
  have hi:i<es.size:=()
  have ne:S≠I:=xD hSI
  have sl:S<h.objs.size:=zS hS
  have il:I<h.objs.size:=let⟨_,_,_,_,e,_⟩:=g;zS e
  have za:acc.size=i:=by rw[<-Array.length_toList,ha,zan,hl]
  refine codeAny_builtin PySem.F.entry_extend_loop ?_
  rw[Around.under_plainId PySem.F.plain_extend_loop _]
  show wpAny _ A.in1 (pyNext (.ref I) >>= _) _ _ _
  refine zC (Xz (s:={s with heap:=h,toks:=tk}) g x sl hi λh' g' ht hz kp'=> ?_)
  dsimp only at ht hz kp' ⊢
  have hS':=kp' S _ ne hS
  generalize eu:h'.update S (Obj.mapSeq (·.push (Value.ref h.objs.size)))=h2
  have up:∀b o,b≠S->h'.get? b=some o->h2.get? b=some o:=λb o hb e=>by rw[<-eu];exact(xL _ _ (Ne.symm hb)).trans e
  have ht2:=up _ _ (xS sl) ht
  show wpAny _ A.in1 (updateSeq S (·.push (Value.ref h.objs.size)) >>= _) _ _ _
  refine zC (wpAny_updateSeq hS' rfl (zI ⟨plainId_quiet PySem.F.plain_extend_loop _,?_⟩) (by rw[za];lia) (by show(acc.push _).size<=_;rw[Array.size_push,za];lia))
  rw[eu]
  refine Oq hh hSI hSd hId hn res hR k (i+1) h2 tk _ (acc.push (.ref h.objs.size)) (as++[h.objs.size]) () (g'.keep up (Ne.symm ne)) (x.keep λo e=>up d o hSd (kp' d o hId e))
   (λb o q1 q2 e=>up b o q1 (kp' b o q2 (kp b o q1 q2 e))) (by rw[<-eu];exact vF _ hS' rfl) (by rw[Array.toList_push,ha,List.map_append];rfl) (by rw[List.length_append,hl];rfl) ⟨λa m=> ?_,?_,λj a m=> ?_⟩
  ·rcases List.mem_append.mp m with m | m
   ·have:=pr.lt a m
    have l2:=zS ht2
    exact⟨this.1,Nat.lt_trans this.2 l2⟩
   ·rw[List.mem_singleton.mp m]
    exact⟨il,zS ht2⟩
  ·refine List.pairwise_append.mpr ⟨pr.up,List.pairwise_singleton _ _,λa m b m'=> ?_⟩
   rw[List.mem_singleton.mp m']
   exact(pr.lt a m).2
  ·rcases Nat.lt_or_ge j as.length with q | q
   ·rw[zae q]at m
    obtain⟨e,q1,q2⟩:=pr.ix j a m
    have:=(pr.lt a (List.mem_of_getElem? m)).1
    exact⟨e,q1,up a _ (xS (Nat.lt_trans hSI this)) (kp' a _ (xS this) q2)⟩
   ·rw[zad q]at m
    have j0:j=i:=by
     have:=(List.getElem?_eq_some_iff.mp m).1
     simp at this
     lia
    subst j0
    have:h.objs.size=a:=by rw[hl]at m;simpa using m
    subst this
    exact⟨es[j],Array.getElem?_eq_getElem hi,ht2⟩
theorem Td{R:Result->Shared->Prop}(hh:A.handled=none)(hv:s.heap.IsItemsView r d)(x:Lg s.heap d es ep)(hSr:S≠r)(hSd:d≠S)(res:Value)(c0:Nat)(hS:s.heap.get? S=some {cls:= .type "list",data:= .seq #[] c0})(hn:es.size<=sizeLine)
  (hR:∀h' tk (acc:Array Value) c as,(∀b o,b≠S->s.heap.get? b=some o->h'.get? b=some o)->h'.get? S=some {cls:= .type "list",data:= .seq acc c}->as.length=es.size->Prs es s.heap.objs.size h' as->acc.toList=as.map Value.ref->R (.ok (.ret res)) {s with heap:=h',toks:=tk}):
  wpAny (model prog w) A.in1 (Builtin.List.listExtendWith (.ref S) (.ref r) res) (λfin s'=>match fin with | .done f=>R (.ok f) s' | .again c'=>c'.quiet=true/\codeAny (model prog w) A c' R s') (λe s'=>R (.error e) s') s:=by
 have sl:S<s.heap.objs.size:=zS hS
 have dl:d<s.heap.objs.size:=let⟨_,e,_⟩:=x;zS e
 have go:∀(h:Heap) (c1 tk:Nat),(∀b o,b≠S->(s.heap.push (itO .none (.bool false) d 0 es.size ep .none .none)).get? b=some o->h.get? b=some o)->h.get? S=some {cls:= .type "list",data:= .seq #[] c1}->
   codeAny (model prog w) A (.builtin "list.extend.loop" ⟨[.ref S,.ref s.heap.objs.size,res],[]⟩) R {s with heap:=h,toks:=tk}:=λh c1 tk kp h1=>
  Oq (s:=s) (h0:=s.heap) hh sl hSd (xD dl) hn res (λh' tk' acc c as k'=>hR h' tk' acc c as λb o hb e=>k' b o hb (xD (zS e)) e) es.size 0 h tk c1 #[] [] ()
   ⟨_,_,_,_,kp _ _ (xS sl) (yB _ rfl),.inl rfl⟩ (x.keep λo e=>kp d o hSd (zD _ e)) (λb o hb _ e=>kp b o hb (zD _ e)) h1 rfl rfl ⟨(λa m=>nomatch m),List.Pairwise.nil,(λj a m=>by simp at m)⟩
 unfold Builtin.List.listExtendWith
 refine zC (wpAny_typeOf (T:= "dict_items") hv.typeIs ?_)
 simp only[show Builtin.List.listSameRef (.ref S) (.ref r)=false by simp[Builtin.List.listSameRef,hSr],show(Value.type "dict_items" == Value.type "list")=false by decide,show(Value.type "dict_items" == Value.type "tuple")=false by decide,Bool.or_false,Bool.false_eq_true,if_false]
 refine zC (XC hv x (zC (wpAny_holding (kdx_hint (let⟨o,ho,hc,_⟩:=hv;⟨o,zD _ ho,hc⟩) ?_))))
 have h1:=zD (itO .none (.bool false) d 0 es.size ep .none .none) hS
 refine wpAny_ite_split (λ_=> ?_) (λ_=>zI ⟨plainId_quiet PySem.F.plain_extend_loop _,go _ c0 _ (λb o _ e=>e) h1⟩)
 refine zC (wpAny_rule (zC ?_))
 show wpAny _ _ (updateSeq S (·.push .none) >>= λ_=>updateSeq S (·.pop)) _ _ _
 have h2:=vF (Obj.mapSeq (·.push Value.none)) h1 rfl
 have h3:=vF (Obj.mapSeq (·.pop)) h2 rfl
 refine zC (wpAny_updateSeq h1 rfl (wpAny_updateSeq (hz:=by seq_fits) h2 rfl (zI ⟨plainId_quiet PySem.F.plain_extend_loop _,go _ _ _ (λb o hb e=> ?_) h3⟩)))
 exact(xL _ _ (Ne.symm hb)).trans ((xL _ _ (Ne.symm hb)).trans e)
theorem Qa{R:List Value->Shared->Prop}(hh:A.handled=none)(hv:s.heap.IsItemsView r d)(x:Lg s.heap d es ep)(hn:es.size<=sizeLine)
  (h:∀(h':Heap) (tk:Nat) (as:List Addr),(∀b o,s.heap.get? b=some o->h'.get? b=some o)->as.length=es.size->Prs es s.heap.objs.size h' as->R (as.map Value.ref) {s with heap:=h',toks:=tk}):
  wpAny (model prog w) A (collect (.ref r)) R E s:=by
 have rl:r<s.heap.objs.size:=let⟨_,e,_⟩:=hv;zS e
 have dl:d<s.heap.objs.size:=let⟨_,e,_⟩:=x;zS e
 have hS:(s.heap.push {cls:= .type "list",data:= .seq ([]:List Value).toArray}).get? s.heap.objs.size=some {cls:= .type "list",data:= .seq #[]}:=yB _ rfl
 unfold collect
 refine zC (wpAny_runValue (codeAny_builtin entry_proto_collect' ?_))
 rw[Around.under_plainId PySem.F.plain_proto_collect _]
 show wpAny _ A.in1 (newList [] >>= λl=>again (.builtin "list.__iadd__" ⟨[l,.ref r],[]⟩)) _ _ s
 refine zC (wS (zI ⟨plainId_quiet PySem.F.plain_list_iadd _,codeAny_builtin entry_list_iadd' ?_⟩))
 rw[Around.under_plainId PySem.F.plain_list_iadd _]
 show wpAny _ A.in1 (Builtin.List.listExtendWith (.ref s.heap.objs.size) (.ref r) (.ref s.heap.objs.size)) _ _ _
 have key:=Td (prog:=prog) (w:=w) (A:=A) (s:={s with heap:=s.heap.push {cls:= .type "list",data:= .seq ([]:List Value).toArray}}) (es:=es) (ep:=ep) (S:=s.heap.objs.size)
  (R:=λq s'=>∃(h':Heap) (tk:Nat) (acc:Array Value) (c:Nat) (as:List Addr),q= .ok (.ret (.ref s.heap.objs.size))/\s'={s with heap:=h',toks:=tk}/\(∀b o,s.heap.get? b=some o->h'.get? b=some o)/\
   h'.get? s.heap.objs.size=some {cls:= .type "list",data:= .seq acc c}/\as.length=es.size/\Prs es s.heap.objs.size h' as/\acc.toList=as.map Value.ref)
  hh (let⟨o,ho,y⟩:=hv;⟨o,zD _ ho,y⟩) (x.keep λo e=>zD _ e) (xS rl) (xD dl) (.ref s.heap.objs.size) 0 hS hn
  λh' tk acc c as k1 k2 k3 k4 k5=>⟨h',tk,acc,c,as,rfl,rfl,λb o e=>k1 b o (xD (zS e)) (zD _ e),k2,k3,
   ⟨λa m=>⟨by have:=(k4.lt a m).1;rw[Heap.size_push]at this;exact Nat.lt_of_succ_lt this,(k4.lt a m).2⟩,k4.up,k4.ix⟩,k5⟩
 have out:∀{s':Shared} {q:Result},(∃(h':Heap) (tk:Nat) (acc:Array Value) (c:Nat) (as:List Addr),q= .ok (.ret (.ref s.heap.objs.size))/\s'={s with heap:=h',toks:=tk}/\(∀b o,s.heap.get? b=some o->h'.get? b=some o)/\
   h'.get? s.heap.objs.size=some {cls:= .type "list",data:= .seq acc c}/\as.length=es.size/\Prs es s.heap.objs.size h' as/\acc.toList=as.map Value.ref)->∃as:List Addr,q= .ok (.ret (.ref s.heap.objs.size))/\(∃o acc c,s'.heap.get? s.heap.objs.size=some o/\o.data= .seq acc c/\acc.toList=as.map Value.ref)/\R (as.map Value.ref) s':=by
  rintro s' q ⟨h',tk,acc,c,as,rfl,rfl,k1,k2,k3,k4,k5⟩
  exact⟨as,rfl,⟨_,acc,c,k2,rfl,k5⟩,h h' tk as k1 k3 k4⟩
 refine wT key (λfin s' y=> ?_) λe s' y=> ?_
 ·cases fin with
  | done f=>
   obtain⟨as,e,⟨o,acc,c,ho,hd,ha⟩,q⟩:=out y
   cases e
   show wpAny _ A (load s.heap.objs.size >>= _) _ _ _
   refine zC (wpAny_load ho ?_)
   rw[hd]
   refine zI ?_
   show R acc.toList _
   rw[ha];exact q
  | again c1=>
   refine⟨y.1,codeAny_mono y.2 λq s2 z=> ?_⟩
   obtain⟨as,rfl,⟨o,acc,c,ho,hd,ha⟩,q⟩:=out z
   show wpAny _ A (load s.heap.objs.size >>= _) _ _ _
   refine zC (wpAny_load ho ?_)
   rw[hd]
   refine zI ?_
   show R acc.toList _
   rw[ha];exact q
 ·obtain⟨as,e,_⟩:=out y
  cases e
end
section
variable{X:Cx}{pins:List (Addr×Obj)}{σ:St}{H:Hp}{s:Shared}{A:Around}{E:Value->Shared->Prop}
noncomputable def Bl(v d:Addr):HO:= .ext λh=>h.IsItemsView v d
def agH:V->List V->Hp->VK->Prop:=λx us H Q=>∃d,x= .ref d/\us=[]/\IsD H d/\∀v,H v=none->Q (.ref v) (upd H v (Bl v d))
def aAd(H:Hp)(d:Addr)(ps:List (V×V)):Prop:=(∃kvs,H d=some (.dK kvs)/\ps=kvs.map λp=>(kV p.1,p.2))\/
 ∃kvs:List (List Key×V),H d=some (.dT kvs)/\Paired (λ(p:List Key×V) (q:V×V)=>∃b,q.1= .ref b/\H b=some (.tup (p.1.map kV))/\q.2=p.2) kvs ps
theorem afS(h:(gM P w).is k u=true):RelV (kV k) u:=by
 rcases iV (show Oj k u=true from h)with⟨i,t,rfl,rfl⟩ | ⟨x,t,rfl,rfl⟩
 ·exact⟨t,rfl⟩
 ·exact⟨t,rfl⟩
theorem ae5(I:Inv X pins σ H s)(h:(∃kvs,H d=some (.dK kvs))\/∃kvs,H d=some (.dT kvs)):∃es ep ps,Lg s.heap d es ep/\aAd H d ps/\es.size<=sizeLine/\Paired (λ(p:V×V) (e:DictEntry)=>RelV p.1 e.key/\RelV p.2 e.val) ps es.toList:=by
 rcases h with⟨kvs,e⟩ | ⟨kvs,e⟩
 ·obtain⟨z,_,vs,r,o,es,ep,ho,ex,hd,_,pr,_⟩:=(show bT X.prog X.w H s.heap d (.dK kvs)from I.hok d _ e)
  have pz:∀{es:List DictEntry} {vs:List (Key×Value)} {kvs:List (Key×V)},Pairs (gM X.prog X.w) es vs->KV kvs vs->Paired (λ(p:V×V) (e:DictEntry)=>RelV p.1 e.key/\RelV p.2 e.val) (kvs.map λp=>(kV p.1,p.2)) es:=by
   intro es vs kvs a b
   induction a generalizing kvs with
   | nil=>cases b;exact .nil
   | cons h1 h2 _ ih=>
    cases b with
    | cons q qs=>
     refine .cons ⟨?_,?_⟩ (ih qs)
     ·have:=afS h1;rw[<-q.1]at this;exact this
     ·rw[h2];exact q.2
  have pp:=pz pr r
  refine⟨es,ep,_,⟨o,ho,ex,hd⟩,.inl ⟨kvs,e,rfl⟩,?_,pp⟩
  have h1:=pp.length
  have h2:es.toList.length=es.size:=Array.length_toList
  rw[zan]at h1
  lia
 ·obtain⟨z,_,xs,r,o,es,ep,ho,ex,hd,he,_⟩:=(show bT X.prog X.w H s.heap d (.dT kvs)from I.hok d _ e)
  have pz:∀{kvs:List (List Key×V)} {xs:List (List Key×Addr×Value)},Paired (λ(p:List Key×V) (q:List Key×Addr×Value)=>p.1=q.1/\H q.2.1=some (.tup (p.1.map kV))/\RelV p.2 q.2.2) kvs xs->
    ∃ps:List (V×V),Paired (λ(p:List Key×V) (q:V×V)=>∃b,q.1= .ref b/\H b=some (.tup (p.1.map kV))/\q.2=p.2) kvs ps/\Paired (λ(p:V×V) (e:DictEntry)=>RelV p.1 e.key/\RelV p.2 e.val) ps (xs.map (entryOfKey (tupleKind (gM X.prog X.w)))):=by
   intro kvs xs a
   induction a with
   | nil=>exact⟨[],.nil,.nil⟩
   | @cons p q _ _ h _ ih=>
    obtain⟨ps,i1,i2⟩:=ih
    exact⟨(.ref q.2.1,p.2)::ps,.cons ⟨q.2.1,rfl,h.2.1,rfl⟩ i1,.cons ⟨rfl,h.2.2⟩ i2⟩
  obtain⟨ps,p1,p2⟩:=pz r
  rw[<-he]at p2
  refine⟨es,ep,ps,⟨o,ho,ex,hd⟩,.inr ⟨kvs,e,p1⟩,?_,p2⟩
  have h0:=p1.length
  have h1:=p2.length
  have h2:es.toList.length=es.size:=Array.length_toList
  lia
theorem Vl:MtR X "dict.items" agH:=by
 intro pins s σ H x xs v us Q I rx rs h
 obtain⟨d,rfl,rfl,dd,q⟩:=h
 cases rs
 obtain rfl:v= .ref d:=rx
 have ty:=ahO I dd
 have dd':(∃kvs,Rd H d (.dK kvs))\/∃kvs,Rd H d (.dT kvs):=dd
 have ents:∃es ep,Lg s.heap d es ep:=by
  rcases dd' with⟨kvs,e⟩ | ⟨kvs,e⟩
  ·obtain⟨_,_,_,_,o,es,ep,ho,ex,hd,_⟩:=e.ok I.hok
   exact⟨es,ep,o,ho,ex,hd⟩
  ·obtain⟨_,_,_,_,o,es,ep,ho,ex,hd,_⟩:=e.ok I.hok
   exact⟨es,ep,o,ho,ex,hd⟩
 obtain⟨es,ep,en⟩:=ents
 refine XD ty.2.2 en ?_
 have g:(s.heap.push {cls:= .type "dict_items",data:= .fields #[.ref d]}).IsItemsView s.heap.objs.size d:=⟨_,yB _ rfl,rfl,rfl⟩
 refine⟨.ref s.heap.objs.size,_,I.laid (t':=s.toks) (o:=Bl s.heap.objs.size d) (λb o e=>zD _ e) (zab _) ⟨g,⟨_,yB _ rfl⟩,λh1 h2 a b=> ?_⟩,rfl,q _ (I.hok.fresh (zab _))⟩
 obtain⟨o,e1,e2,e3⟩:=a
 exact⟨o,b o e1,e2,e3⟩
noncomputable def Ji(H:Hp):List (Addr×HO)->Hp
 | []=>H
 | p::r=>Ji (upd H p.1 p.2) r
theorem Qk:∀{l:List (Addr×HO)} {H:Hp},H a=some o->(∀p∈l,p.1≠a)->Ji H l a=some o
 | [],_,h,_=>h
 | p::l,H,h,n=>Qk (l:=l) (by rw[aH (Ne.symm (n p xB))];exact h) λq hq=>n q (yT _ hq)
theorem Rj:∀{l:List (Addr×HO)} {H:Hp} {i:Nat} {p:Addr×HO},(l.map (·.1)).Nodup->l[i]? = some p->Ji H l p.1=some p.2
 | q::l,H,0,p,nd,e=>by
  simp at e
  subst e
  rw[List.map_cons,List.nodup_cons]at nd
  show Ji (upd H q.1 q.2) l q.1=some q.2
  exact Qk aM λr hr z=>nd.1 (by rw[<-z];exact List.mem_map_of_mem hr)
 | q::l,H,i+1,p,nd,e=>by
  rw[List.map_cons,List.nodup_cons]at nd
  show Ji (upd H q.1 q.2) l p.1=some p.2
  exact Rj (i:=i) nd.2 (by simpa using e)
 | [],_,_,_,_,e=>by simp at e
noncomputable def prs(as:List Addr)(ps:List (V×V)):List (Addr×HO):=(as.zip ps).map λp=>(p.1,.tup [p.2.1,p.2.2])
theorem ZQ(qs:Paired (λ(a:Addr) (p:V×V)=>∃u v,RelV p.1 u/\RelV p.2 v/\s.heap.get? a=some {cls:= .type "tuple",data:= .seq #[u,v]}) as ps):
  ∀{H:Hp},Inv X pins σ H s->as.Pairwise (· < ·)->(∀a∈as,Ff X pins H a/\X.s₀.heap.get? a=none)->Inv X pins σ (Ji H (prs as ps)) s:=by
 induction qs with
 | nil=>intro H I _ _;exact I
 | @cons a p as ps q _ ih=>
  intro H I nd h
  obtain⟨f,z⟩:=h a xB
  obtain⟨u,v,r1,r2,e⟩:=q
  rw[List.pairwise_cons]at nd
  have new:bT X.prog X.w (upd H a (.tup [p.1,p.2])) s.heap a (.tup [p.1,p.2]):=⟨by show 2<=sizeLine;decide,[u,v],.cons r1 (.cons r2 .nil),_,e,rfl,0,rfl⟩
  have I1:Inv X pins σ (upd H a (.tup [p.1,p.2])) s:=I.track f z new
  show Inv X pins σ (Ji (upd H a (.tup [p.1,p.2])) (prs as ps)) s
  refine ih I1 nd.2 λb hb=> ?_
  obtain⟨f',z'⟩:=h b (yT _ hb)
  exact⟨⟨by rw[aH (xS (nd.1 b hb))];exact f'.1,f'.2⟩,z'⟩
end
end L2
namespace L2
open PySem PySem.Spec PyProof.Rows
def afw(xs:List Str)(js:List Nat)(g:TG)(tt:TT)(te:TE)(σ:St)(Q:VK)(J:It)(H1:Hp):Prop:=
 ∃W:Nat->Nat->List V->Hp->Prop,(∃m,W 0 m [] H1)/\∀i m ys H,W i m ys H->
  (J.stop i H/\ys.length<=sizeLine/\∀p,H p=none->Q (.ref p) (upd H p (.lst ys)))\/
  (J.go i H/\∃N:List V->Hp->Prop,(∀ys' H',N ys' H'->ys'.length<=sizeLine/\∃m',m'<m/\W (i+1) m' ys' H')/\∀x H',J.yld i H x H'->g x (IV xs++caps js σ) H' λσ1 H1=>(σ1.length=(IV xs++caps js σ).length/\σ1.drop xs.length=caps js σ)/\tt σ1 H1 λb H2=>
   if b=true then te σ1 H2 λy H3=>N (ys++[y]) H3 else N ys H2)
def Wy(xs:List Str)(js:List Nat)(wi:TI)(g:TG)(tt:TT)(te:TE):TE:=λσ H Q=>wi σ H λJ H1=>afw xs js g tt te σ Q J H1
section
variable{X:Cx}{tg elt iter:Expr}{ifs:List Expr}{scope:Scope}{xs cs:List Str}{js:List Nat}{tt:TT}{te:TE}{pos:Pos}
theorem acE(hc:X.calm=true)(xs cs:List Str)(js:List Nat)(hi:PI X (tg) iter wi)(hcap:uL X scope cs js)(ht:∀cl C fp s H,PTs (cV X scope cl C (xs++cs) fp s H) ifs tt)(he:∀cl C fp s H,PE (cV X scope cl C (xs++cs) fp s H) elt te)
  (hall:∀y∈scope.names,y.2= .free->y.1∈cs) (hcell:∀y∈scope.names,y.2≠ .cell) (hnames:∀y∈scope.names,y.2= .local->scope.names.lookup y.1=some .local) (hg:∀cl C fp s H,PG (cV X scope cl C (xs++cs) fp s H) tg g)
  (hkind:scope.kind= .function:=by rfl) (hs:∀v,foldedSetIterable iter X.env v=pure v:=by intro _;rfl):
  PE X (.ListComp elt [⟨tg,iter,ifs,0⟩] scope pos) (Wy xs js wi g tt te):=by
 intro pins s σ H Q I h
 obtain⟨cl,XH,De,K8⟩:=Bc (env:=X.env) (scope:=scope) λn hn=>by
  obtain⟨j,hj⟩:=List.getElem?_of_mem (hall _ hn rfl)
  obtain⟨_,_,_,_,k⟩:=hcap.get hj
  exact I.ok.has n k
 rw[eval_ListComp]
 refine wpAny_comprehension_free (use:=none) rfl hs XH hkind hnames (kj (hi pins s σ H _ I h) λv s1 h1=>kj h1 λitv s2 h2=> ?_)
 obtain⟨it,fp,tn,J,H2,e,I2,T,st2,f2,W,w0,step⟩:=h2
 subst e
 refine Dn (Q:=Q) (RR:=λacc C=>compPost (model X.prog X.w) X.A X.xe none (EP X pins σ Q) acc C) hc hcap ht he hcell hkind hg De K8 I2 T st2 f2 W w0 step λD C H3 s4 m' I4 hn hC hH q=> ?_
 exact⟨m',hn,λh' sb=>⟨.ref D,H3,I2.letGo I4 hC hH sb,rfl,q⟩⟩
theorem acr(hc:X.calm=true)(xs cs:List Str)(js:List Nat)(hN:X.N.Nodup)(hk:X.N[k]? = some y)(hy:X.env.scope.names.lookup y=some .local)(hi:PI X (tg) iter wi)(hcap:uL X scope cs js)
  (ht:∀cl C fp s H,PTs (cV X scope cl C (xs++cs) fp s H) ifs tt) (he:∀cl C fp s H,PE (cV X scope cl C (xs++cs) fp s H) elt te)
  (hall:∀y∈scope.names,y.2= .free->y.1∈cs) (hcell:∀y∈scope.names,y.2≠ .cell) (hnames:∀y∈scope.names,y.2= .local->scope.names.lookup y.1=some .local) (hg:∀cl C fp s H,PG (cV X scope cl C (xs++cs) fp s H) tg g)
  (hsw:swapsWith (.ListComp elt [⟨tg,iter,ifs,0⟩] scope pos) (some (.Name y py)) spos.line X.env=pure true:=by rfl)
  (hkind:scope.kind= .function:=by rfl) (hs:∀v,foldedSetIterable iter X.env v=pure v:=by intro _;rfl):
  PS X (.Assign [.Name y py] (.ListComp elt [⟨tg,iter,ifs,0⟩] scope pos) spos) (adT (Wy xs js wi g tt te) (Oz k)):=by
 intro pins s σ H D I h
 obtain⟨cl,XH,De,K8⟩:=Bc (env:=X.env) (scope:=scope) λn hn=>by
  obtain⟨j,hj⟩:=List.getElem?_of_mem (hall _ hn rfl)
  obtain⟨_,_,_,_,k⟩:=hcap.get hj
  exact I.ok.has n k
 rw[exec_Assign_Name_used _ _ _ _ hsw]
 refine zC (wpAny_standAt (zC ?_))
 show wpAny _ X.A (do let _ <-comprehension (.ListComp elt [⟨tg,iter,ifs,0⟩] scope pos) scope X.env _ (newList []) false (eval iter X.env) (some (assign (.Name y py) X.env))) _ _ s
 refine zC (kj (wpAny_comprehension_free (use:=some (assign (.Name y py) X.env)) (Q:=λ_ s'=>SP X pins D .next s') rfl hs XH hkind hnames (kj (hi pins s σ H _ I h) λv s1 h1=>kj h1 λitv s2 h2=> ?_)) (λ_ s' q=>zI (zI q)))
 obtain⟨it,fp,tn,J,H2,e,I2,T,st2,f2,W,w0,step⟩:=h2
 subst e
 refine Dn (Q:=λx H1=>Oz k x σ H1 D.nx) (RR:=λacc C=>compPost (model X.prog X.w) X.A X.xe (some (assign (.Name y py) X.env)) (λ_ s'=>SP X pins D .next s') acc C) hc hcap ht he hcell hkind hg De K8 I2 T st2 f2 W w0 step λD' C H3 s4 m' I4 hn hC hH q=> ?_
 show wpAny _ X.A (assign (.Name y py) X.env (.ref D')) _ _ _
 refine wpAny_assign_Name (Jj (v:= .ref D') I4 hN hk (.inl hy) rfl (?_) (.inr hy))
 rintro s5 I5 ⟨a,sb,ha⟩
 have neC:C≠a:=by
  rcases ha with e | e
  ·rw[e];exact xS (yA I2.lt hC)
  ·intro z
   obtain⟨v,q⟩:=I2.cell y a e
   exact absurd (yA q.lt (by rw[<-z];exact hC)) (wP _)
 exact⟨m',hn.sameBut sb neC,λh' sb'=>⟨_,H3,I2.letGo I5 hC hH sb',q⟩⟩
end
end L2
namespace L2
open PySem PySem.Spec PySem.W PySem.Calls PyProof.Rows
section
variable{X:Cx}{pins:List (Addr×Obj)}{σ:St}{H:Hp}{s:Shared}
theorem Ri(hl:acc.length=ys.length)(h:∀(j:Nat) (v:Value),acc[j]? = some v->∃y,ys[j]? = some y/\RelV y v):Vals ys acc:=by
 induction ys generalizing acc with
 | nil=>cases acc with
  | nil=>exact .nil
  | cons _ _=>simp at hl
 | cons y ys ih=>cases acc with
  | nil=>simp at hl
  | cons v acc=>
   refine .cons ?_ (ih (by simpa using hl) λj u hu=> ?_)
   ·obtain⟨y',e,r⟩:=h 0 v rfl
    simp at e
    subst e
    exact r
   ·obtain⟨y',e,r⟩:=h (j+1) u (by simpa using hu)
    exact⟨y',by simpa using e,r⟩
theorem ahG{κ:Type}{kvs:List (κ×V)}{vs:List (κ×Value)}(r:KV kvs vs){j:Nat}{k:κ}{x:Value}(h:vs[j]? = some (k,x)):∃v,kvs[j]? = some (k,v)/\RelV v x:=by
 unfold KV at r
 induction r generalizing j with
 | nil=>simp at h
 | @cons p q _ _ a _ ih=>
  cases j with
  | zero=>
   simp at h
   subst h
   exact⟨p.2,by rw[<-show p.1=k from a.1];rfl,a.2⟩
  | succ j=>
   obtain⟨v,e,r⟩:=ih (j:=j) (by simpa using h)
   exact⟨v,by simpa using e,r⟩
theorem aaK(I:Inv X pins σ H s)(kp:∀b o,s.heap.get? b=some o->h'.get? b=some o)(e:h'.get? s.heap.objs.size=some {cls:= .type "list",data:= .seq acc c})(hz:ys.length<=sizeLine)(r:Vals ys acc.toList)
  (q:∀l,H l=none->Q (.ref l) (upd H l (.lst ys))):EP X pins σ Q (.ref s.heap.objs.size) {s with heap:=h',toks:=tk}:=
 ⟨.ref s.heap.objs.size,_,I.laid (t':=tk) kp (zab _) (show bT X.prog X.w _ h' _ (.lst ys)from⟨hz,acc.toList,c,r,by rw[Array.toArray_toList];exact e⟩),rfl,q _ (I.hok.fresh (zab _))⟩
noncomputable def Ux(v d:Addr):HO:= .ext λh=>h.IsValuesView v d
def ad8:V->List V->Hp->VK->Prop:=λx us H Q=>∃d kvs,x= .ref d/\us=[]/\H d=some (.dK kvs)/\∀v,H v=none->Q (.ref v) (upd H v (Ux v d))
theorem aaz:MtR X "dict.values" ad8:=by
 intro pins s σ H x xs v us Q I rx rs h
 obtain⟨d,kvs,rfl,rfl,hd,q⟩:=h
 cases rs
 obtain rfl:v= .ref d:=rx
 obtain⟨z,ns,vs,kv,dd⟩:=(show bT X.prog X.w H s.heap d (.dK kvs)from I.hok d _ hd)
 refine call_meetsIn PySem.F.slot_dict_values dd.typeIs PySem.F.entry_dict_values (PySem.F.args_dict_values_1 _) (meets_dict_values (gM X.prog X.w) d ns) ⟨⟨vs,dd⟩,?_⟩
 have g:(s.heap.push {cls:= .type "dict_values",data:= .fields #[.ref d]}).IsValuesView s.heap.objs.size d:=⟨_,yB _ rfl,rfl,rfl⟩
 refine⟨.ref s.heap.objs.size,_,I.laid (t':=s.toks) (o:=Ux s.heap.objs.size d) (λb o e=>zD _ e) (zab _) ⟨g,⟨_,yB _ rfl⟩,λh1 h2 a b=> ?_⟩,rfl,q _ (I.hok.fresh (zab _))⟩
 obtain⟨o,e1,e2,e3⟩:=a
 exact⟨o,b o e1,e2,e3⟩
def agG:List V->Hp->VK->Prop:=λxs H Q=>∃v d kvs,xs=[.ref v]/\H v=some (Ux v d)/\H d=some (.dK kvs)/\∀l,H l=none->Q (.ref l) (upd H l (.lst (kvs.map λp=>p.2)))
theorem X_(hc:X.calm=true):qU X (.type "list") agG:=by
 intro pins s σ H xs us Q I r h
 obtain⟨v,d,kvs,rfl,hv,hd,q⟩:=h
 obtain⟨u,rfl,rx⟩:=vals1 r
 cases rx
 obtain⟨z,ns,vs,kv,dd⟩:=(show bT X.prog X.w H s.heap d (.dK kvs)from I.hok d _ hd)
 have view:s.heap.IsValuesView v d:=(show bT X.prog X.w H s.heap v (Ux v d)from I.hok v _ hv).1
 obtain⟨ep,da⟩:=dd.dictAt
 have lv:kvs.length=vs.length:=Paired.length kv
 refine kdl_call (kdl_values (knd:=gM X.prog X.w) (r:=v) (kvs:=vs) (ep:=ep)) (I.ok.hd hc) ⟨view,da⟩ () λh' tk acc c kp e it=>aaK I kp e (by simp;lia) (Ri ?_ λj x hx=> ?_) q
 ·have:=it.1
  simp
  lia
 ·obtain⟨k,e1⟩:=it.2 j x (by rw[<-Array.getElem?_toList];exact hx)
  obtain⟨y,e3,r3⟩:=ahG kv e1
  exact⟨y,by rw[zam,e3];rfl,r3⟩
end
end L2
namespace S
open PySem PySem.Spec PyProof.Rows L2
inductive D where
 | non | bl (b:Bool) | int (i:Int) | str (x:Str) | tup (ds:List D) | ref (n:Nat) | cl (ds:List D) | ty (n:String) | cls (c:Nat) | exc (c:Nat) (d:D) | X5 (ds:List D) | fn (l:Nat) (nm:Str)
inductive MO where
 | lst (ds:List D) | ins (c:Nat) (fs:List (Str×D)) | dk (kvs:List (Key×D)) | dt (kvs:List (List Key×D)) | fd (kvs:List (Key×D))
abbrev St:=L2.St
abbrev Mem:=List MO
abbrev Sl:=List (Option D)
inductive Out (α:Type) where
 | ok (a:α) (M:Mem)
 | exc (c:Nat) (d:D) (M:Mem)
 | bad
noncomputable def Out.bind{α β:Type}(o:Out α)(f:α->Mem->Out β):Out β:=match o with
 | .ok a M=>f a M
 | .exc c d M=> .exc c d M
 | .bad=> .bad
@[simp] theorem Out.sr{α β:Type}(c:Nat)(d:D)(M:Mem)(f:α->Mem->Out β):(Out.exc c d M:Out α).bind f= .exc c d M:=id rfl
@[simp] theorem Out.d7{α β:Type}(a:α)(M:Mem)(f:α->Mem->Out β):(Out.ok a M).bind f=f a M:=id rfl
@[simp] theorem Out.eU{α β:Type}(f:α->Mem->Out β):(Out.bad:Out α).bind f= .bad:=id rfl
def FrL(K:Frag)(H:Hp)(a:Addr)(xs:List V):Prop:=(∃o,H a=some (.gb o (.lst xs)))\/
 ∃(o:Obj) (its:Array Value) (n:Nat),K.lookup a=some o/\o.cls= .type "list" /\ o.dict=none/\o.data= .seq its n/\its.size<=sizeLine/\Vals xs its.toList
theorem FrL.sq{K:Frag}{H:Hp}{a:Addr}{xs:List V}(h:FrL K H a xs):Ew K H a xs:=h.elim (λz=> .inl (.inr z)) .inr
def KT(K:Frag)(a:Addr)(xs:List V):Prop:=∃(o:Obj) (its:Array Value) (n:Nat),K.lookup a=some o/\o.cls= .type "tuple" /\ o.data= .seq its n/\its.size<=sizeLine/\Vals xs its.toList
noncomputable def GK:HO:= .ext λ_=>True
abbrev K6(x nm p:Str)(p1 p5 p2 p3 p4:Pos):Expr:= .Call (.Attribute (.Attribute (.Name x p1) nm p5) "append" p2) [.Name p p3] [] p4
def abd(o:Obj)(cv:Value)(c:Addr)(nm:Str):Prop:=∃(name qual x p:Str) (p1 p5 p2 p3 p4 pa:Pos) (scope:Scope) (pm ctv:Value),
 o={cls:= .type "function",data:= .func (PySem.W.kla_fn name qual ⟨[],[⟨p,none,pa⟩],none,[],[],none,[]⟩ (K6 x nm p p1 p5 p2 p3 p4) scope [(x,c)] pm cv ctv)}/\
 scope.kind= .function/\scope.isCoroutine=false/\scope.isGenerator=false/\scope.names.lookup x=some .free/\scope.names.lookup p=some .local/\(∀y∈scope.names,y.2≠ .cell)/\x≠p/\
 (x==("__debug__" : Str))=false/\(x==("__classdict__" : Str))=false/\(p==("__debug__" : Str))=false/\(p==("__classdict__" : Str))=false/\(p2.endLine==p4.line)=true/\(∀y,scope.names.lookup y=some .free->y=x)/\
 ∀u:Value,bindArgs (PySem.W.kla_fn name qual ⟨[],[⟨p,none,pa⟩],none,[],[],none,[]⟩ (K6 x nm p p1 p5 p2 p3 p4) scope [(x,c)] pm cv ctv) ⟨[u],[]⟩=pure [(p,u)]
def BV(H:Hp)(cv:Value):Prop:=∃c oc vs q t,cv= .ref c/\H c=some (.gb oc GK)/\oc.data= .fields vs/\vs[1]? = some (.str q t)
mutual
inductive DV (K:Frag) (ct ι:Nat->Addr) (n:Nat) (H:Hp):D->V->Prop
 | non:DV K ct ι n H .non .non
 | bl (b:Bool):DV K ct ι n H (.bl b) (.bl b)
 | int (i:Int):DV K ct ι n H (.int i) (.int i)
 | str (x:Str):DV K ct ι n H (.str x) (.str x)
 | tup {a:Addr} {xs:List V} {ds:List D}:H a=some (.tup xs)->nU K ct ι n H ds xs->DV K ct ι n H (.tup ds) (.ref a)
 | ref {i:Nat}:i<n->DV K ct ι n H (.ref i) (.ref (ι i))
 | cl {a:Addr} {xs:List V} {ds:List D}:FrL K H a xs->nU K ct ι n H ds xs->DV K ct ι n H (.cl ds) (.ref a)
 | ty (s:String):DV K ct ι n H (.ty s) (.ty s)
 | cls (c:Nat):DV K ct ι n H (.cls c) (.ref (ct c))
 | exc {a dx:Addr} {c:Nat} {d:D} {v:V}:H a=some (xC a (ct c) dx)->H dx=some (.xd [("at",v)])->DV K ct ι n H d v->DV K ct ι n H (.exc c d) (.ref a)
 | fn {f c:Addr} {o oc:Obj} {uc:HO} {cv:Value} {l:Nat} {nm:Str}:H f=some (.gb o GK)->abd o cv c nm->BV H cv->H c=some (.gb oc uc)->(oc.data= .cell (some (.ref (ι l)))/\∀ks,uc≠ .dK ks)->l<n->DV K ct ι n H (.fn l nm) (.ref f)
 | X5 {a:Addr} {xs:List V} {ds:List D}:KT K a xs->nU K ct ι n H ds xs->DV K ct ι n H (.X5 ds) (.ref a)
inductive nU (K:Frag) (ct ι:Nat->Addr) (n:Nat) (H:Hp):List D->List V->Prop
 | nil:nU K ct ι n H [] []
 | cons {d:D} {x:V} {ds:List D} {xs:List V}:DV K ct ι n H d x->nU K ct ι n H ds xs->nU K ct ι n H (d::ds) (x::xs)
end
structure Ext(K:Frag)(ι:Nat->Addr)(n:Nat)(H:Hp)(ι':Nat->Addr)(n':Nat)(H':Hp):Prop where
 tup:∀a xs,H a=some (.tup xs)->H' a=some (.tup xs)
 gb:∀a xs,FrL K H a xs->FrL K H' a xs
 ex:∀a φ,H a=some (.ext φ)->H' a=some (.ext φ)
 xd:∀a fs,H a=some (.xd fs)->H' a=some (.xd fs)
 fz:∀a o u,H a=some (.gb o u)->H' a=some (.gb o u)
 le:n<=n'
 same:∀i,i<n->ι' i=ι i
theorem Ext.refl{K:Frag}{ι:Nat->Addr}{n:Nat}{H:Hp}:Ext K ι n H ι n H:=⟨λ_ _ h=>h,λ_ _ h=>h,λ_ _ h=>h,λ_ _ h=>h,λ_ _ _ h=>h,zab _,λ_ _=>rfl⟩
theorem Ext.trans{K:Frag}{ι cF lM:Nat->Addr}{n n1 n2:Nat}{H H1 H2:Hp}(a:Ext K ι n H cF n1 H1)(b:Ext K cF n1 H1 lM n2 H2):Ext K ι n H lM n2 H2:=
 ⟨λx xs h=>b.tup x xs (a.tup x xs h),λx xs h=>b.gb x xs (a.gb x xs h),λx xs h=>b.ex x xs (a.ex x xs h),λx xs h=>b.xd x xs (a.xd x xs h),λx o u h=>b.fz x o u (a.fz x o u h),yY a.le b.le,λi hi=>(b.same i (yA hi a.le)).trans (a.same i hi)⟩
theorem BV.mono(h:BV H cv)(f:∀a o u,H a=some (.gb o u)->H' a=some (.gb o u)):BV H' cv:=
 let⟨c,oc,vs,q,t,a1,a2,r⟩:=h;⟨c,oc,vs,q,t,a1,f _ _ _ a2,r⟩
mutual
theorem DV.mono{K:Frag}{ct ι ι':Nat->Addr}{n n':Nat}{H H':Hp}(e:Ext K ι n H ι' n' H'):∀{d:D} {v:V},DV K ct ι n H d v->DV K ct ι' n' H' d v
 | _,_,.non=> .non
 | _,_,.bl b=> .bl b
 | _,_,.int i=> .int i
 | _,_,.str x=> .str x
 | _,_,.tup h hs=> .tup (e.tup _ _ h) (nU.mono e hs)
 | _,_,.ref (i:=i) h=>by rw[<-e.same i h];exact .ref (yA h e.le)
 | _,_,.cl h hs=> .cl (e.gb _ _ h) (nU.mono e hs)
 | _,_,.ty s=> .ty s
 | _,_,.cls c=> .cls c
 | _,_,.exc h1 h2 h3=> .exc (e.ex _ _ h1) (e.xd _ _ h2) (DV.mono e h3)
 | _,_,.fn (l:=l) h1 h2 h3 h4 h5 h6=> .fn (e.fz _ _ _ h1) h2 (h3.mono e.fz) (e.fz _ _ _ h4) (by rw[e.same l h6];exact h5) (yA h6 e.le)
 | _,_,.X5 h hs=> .X5 h (nU.mono e hs)
theorem nU.mono{K:Frag}{ct ι ι':Nat->Addr}{n n':Nat}{H H':Hp}(e:Ext K ι n H ι' n' H'):∀{ds:List D} {vs:List V},nU K ct ι n H ds vs->nU K ct ι' n' H' ds vs
 | _,_,.nil=> .nil
 | _,_,.cons h hs=> .cons (DV.mono e h) (nU.mono e hs)
end
section
variable{K:Frag}{ct ι:Nat->Addr}{n:Nat}{H:Hp}
theorem nU.length:∀{ds:List D} {vs:List V},nU K ct ι n H ds vs->vs.length=ds.length
 | _,_,.nil=>rfl
 | _,_,.cons _ h=>congrArg (· + 1) h.length
theorem nU.at:∀{ds:List D} {vs:List V} {i:Nat} {d:D},nU K ct ι n H ds vs->ds[i]? = some d->∃v,vs[i]? = some v/\DV K ct ι n H d v
 | _,_,_,_,.nil,e=>by simp at e
 | _,_,0,_,.cons h _,e=>by simp at e;subst e;exact⟨_,rfl,h⟩
 | _,_,i+1,_,.cons _ hs,e=>by simpa using hs.at (i:=i) (by simpa using e)
theorem nU.append:∀{ds es:List D} {vs ws:List V},nU K ct ι n H ds vs->nU K ct ι n H es ws->nU K ct ι n H (ds++es) (vs++ws)
 | _,_,_,_,.nil,h=>h
 | _,_,_,_,.cons h hs,h'=> .cons h (hs.append h')
theorem nU.take:∀{ds:List D} {vs:List V} (k:Nat),nU K ct ι n H ds vs->nU K ct ι n H (ds.take k) (vs.take k)
 | _,_,0,_=>by simp;exact .nil
 | _,_,_+1,.nil=>by simp;exact .nil
 | _,_,k+1,.cons h hs=>by simp;exact .cons h (hs.take k)
theorem nU.drop:∀{ds:List D} {vs:List V} (k:Nat),nU K ct ι n H ds vs->nU K ct ι n H (ds.drop k) (vs.drop k)
 | _,_,0,h=>by simpa using h
 | _,_,_+1,.nil=>by simp;exact .nil
 | _,_,k+1,.cons _ hs=>by simp;exact hs.drop k
end
inductive Rb (K:Frag) (ct ι:Nat->Addr) (n:Nat) (H:Hp):List (Str×D)->List (Str×V)->Prop
 | nil:Rb K ct ι n H [] []
 | cons {x:Str} {d:D} {v:V} {fs:List (Str×D)} {vs:List (Str×V)}:DV K ct ι n H d v->Rb K ct ι n H fs vs->Rb K ct ι n H ((x,d)::fs) ((x,v)::vs)
theorem Rb.mono{K:Frag}{ct ι ι':Nat->Addr}{n n':Nat}{H H':Hp}(e:Ext K ι n H ι' n' H'):∀{fs:List (Str×D)} {vs:List (Str×V)},Rb K ct ι n H fs vs->Rb K ct ι' n' H' fs vs
 | _,_,.nil=> .nil
 | _,_,.cons h hs=> .cons (h.mono e) (hs.mono e)
noncomputable def putD(f:Str)(d:D):List (Str×D)->List (Str×D)
 | []=>[(f,d)]
 | (x,e)::r=>if x=f then(x,d)::r else(x,e)::putD f d r
section
variable{K:Frag}{ct ι:Nat->Addr}{n:Nat}{H:Hp}
theorem Rb.length:∀{fs:List (Str×D)} {vs:List (Str×V)},Rb K ct ι n H fs vs->vs.length=fs.length
 | _,_,.nil=>rfl
 | _,_,.cons _ h=>congrArg (· + 1) h.length
theorem Rb.look:∀{fs:List (Str×D)} {vs:List (Str×V)} {d:D},Rb K ct ι n H fs vs->fs.lookup x=some d->∃v,vs.lookup x=some v/\DV K ct ι n H d v
 | _,_,_,.nil,e=>by simp at e
 | _,_,d,.cons (x:=y) h hs,e=>by
  rw[List.lookup_cons]at e ⊢
  cases z:x==y with
  | true=>rw[z]at e;exact⟨_,rfl,by cases e;exact h⟩
  | false=>rw[z]at e;exact hs.look e
theorem Rb.afR:∀{fs:List (Str×D)} {vs:List (Str×V)},Rb K ct ι n H fs vs->fs.lookup x=none->vs.lookup x=none
 | _,_,.nil,_=>rfl
 | _,_,.cons (x:=y) h hs,e=>by
  rw[List.lookup_cons]at e ⊢
  cases z:x==y with
  | true=>rw[z]at e;cases e
  | false=>rw[z]at e;exact hs.afR e
end
inductive Du (K:Frag) (ct ι:Nat->Addr) (n:Nat) (H:Hp) {κ:Type}:List (κ×D)->List (κ×V)->Prop
 | nil:Du K ct ι n H [] []
 | cons {x:κ} {d:D} {v:V} {fs:List (κ×D)} {vs:List (κ×V)}:DV K ct ι n H d v->Du K ct ι n H fs vs->Du K ct ι n H ((x,d)::fs) ((x,v)::vs)
theorem Du.mono{K:Frag}{ct ι ι':Nat->Addr}{n n':Nat}{H H':Hp}(e:Ext K ι n H ι' n' H'){κ:Type}:∀{fs:List (κ×D)} {vs:List (κ×V)},Du K ct ι n H fs vs->Du K ct ι' n' H' fs vs
 | _,_,.nil=> .nil
 | _,_,.cons h hs=> .cons (h.mono e) (hs.mono e)
theorem Du.length{K:Frag}{ct ι:Nat->Addr}{n:Nat}{H:Hp}{κ:Type}:∀{fs:List (κ×D)} {vs:List (κ×V)},Du K ct ι n H fs vs->vs.length=fs.length
 | _,_,.nil=>rfl
 | _,_,.cons _ h=>congrArg (· + 1) h.length
def OR(K:Frag)(ct ι:Nat->Addr)(n:Nat)(H:Hp)(a:Addr):MO->Prop
 | .lst ds=>∃vs,H a=some (.lst vs)/\nU K ct ι n H ds vs
 | .ins c fs=>∃dx vs,H a=some (.ins (ct c) dx vs)/\Rb K ct ι n H fs vs
 | .dk kvs=>∃vs,H a=some (.dK vs)/\Du K ct ι n H kvs vs
 | .dt kvs=>∃vs,H a=some (.dT vs)/\Du K ct ι n H kvs vs
 | .fd kvs=>∃o vs,H a=some (.gb o (.dK vs))/\Du K ct ι n H kvs vs
def TabOk(H:Hp)(ps:Array Value):Prop:=TriplesOk ps.toList/\∀pos cv,codeAmong pos ps.toList=some cv->BV H cv
def V3(ct:Nat->Addr)(H:Hp):Prop:=∀k,1000<=k->ct k≠0->∃ps,H (ct k)=some (.yJ ps)/\TabOk H ps
structure Rl(K:Frag)(ct ι:Nat->Addr)(M:Mem)(H:Hp):Prop where
 inj:∀i j,i<M.length->j<M.length->ι i=ι j->i=j
 obj:∀(i:Nat) (o:MO),M[i]? = some o->OR K ct ι M.length H (ι i) o
 tab:V3 ct H
structure Ws(K:Frag)(ct ι:Nat->Addr)(e:Sl)(M:Mem)(σ:St)(H:Hp):Prop where
 rl:Rl K ct ι M H
 len:σ.length=e.length
 env:∀(i:Nat) (d:D),e[i]? = some (some d)->∃v,σ[i]? = some (some v)/\DV K ct ι M.length H d v
section
variable{K:Frag}{ct ι:Nat->Addr}{M:Mem}{H:Hp}
theorem OR.some(h:OR K ct ι n H a o):∃u,H a=some u:=by
 cases o with
 | lst ds=>obtain⟨vs,e,_⟩:=h;exact⟨_,e⟩
 | ins c fs=>obtain⟨dx,vs,e,_⟩:=h;exact⟨_,e⟩
 | dk kvs=>obtain⟨vs,e,_⟩:=h;exact⟨_,e⟩
 | dt kvs=>obtain⟨vs,e,_⟩:=h;exact⟨_,e⟩
 | fd kvs=>obtain⟨o,vs,e,_⟩:=h;exact⟨_,e⟩
theorem Tt(hp:∀b u,H p≠some (.gb b u))(h:FrL K H a xs):FrL K (upd H p o) a xs:=by
 rcases h with⟨b,h⟩ | h
 ·have ne:a≠p:=λe=>by subst e;exact hp _ _ h
  exact .inl ⟨b,by rw[aH ne];exact h⟩
 ·exact .inr h
theorem acK(hp:H p=none):∀b u,H p≠some (.gb b u):=λb u h=>by rw[hp]at h;cases h
theorem OR.keep(e:Ext K ι n H ι' n' H')(ea:a'=a)(hh:H' a=H a)(h:OR K ct ι n H a o):OR K ct ι' n' H' a' o:=by
 subst ea
 cases o with
 | lst ds=>obtain⟨vs,q,r⟩:=h;exact⟨vs,by rw[hh];exact q,r.mono e⟩
 | ins c fs=>obtain⟨dx,vs,q,r⟩:=h;exact⟨dx,vs,by rw[hh];exact q,r.mono e⟩
 | dk kvs=>obtain⟨vs,q,r⟩:=h;exact⟨vs,by rw[hh];exact q,r.mono e⟩
 | dt kvs=>obtain⟨vs,q,r⟩:=h;exact⟨vs,by rw[hh];exact q,r.mono e⟩
 | fd kvs=>obtain⟨o,vs,q,r⟩:=h;exact⟨o,vs,by rw[hh];exact q,r.mono e⟩
noncomputable def lF(ι:Nat->Addr)(n:Nat)(p:Addr):Nat->Addr:=λi=>if i=n then p else ι i
theorem m6(hp:H p=none)(h:H a=some u):upd H p o a=some u:=by rw[aH (bC h hp)];exact h
theorem V3.keep(h:V3 ct H)(h1:∀a ps,H a=some (.yJ ps)->H' a=some (.yJ ps))(h2:∀a o u,H a=some (.gb o u)->H' a=some (.gb o u)):V3 ct H':=λk hk hc=>
 let⟨ps,a,t,b⟩:=h k hk hc
 ⟨ps,h1 _ _ a,t,λpos cv z=>(b pos cv z).mono h2⟩
theorem Ext.fresh(hp:H p=none):Ext K ι n H ι n (upd H p o):=⟨λ_ _ h=>m6 hp h,λ_ _ h=>Tt (acK hp) h,λ_ _ h=>m6 hp h,λ_ _ h=>m6 hp h,λ_ _ _ h=>m6 hp h,zab _,λ_ _=>rfl⟩
theorem Rl.lt(R:Rl K ct ι M H)(h:M[i]? = some o):∃u,H (ι i)=some u:=(R.obj i o h).some
theorem Rl.fresh(R:Rl K ct ι M H)(hp:H p=none):Rl K ct ι M (upd H p o):=by
 refine⟨R.inj,λi x h=> ?_,R.tab.keep (λ_ _ h=>m6 hp h) λ_ _ _ h=>m6 hp h⟩
 obtain⟨u,hu⟩:=R.lt h
 exact(R.obj i x h).keep (Ext.fresh hp) rfl (aH (bC hu hp))
theorem Ext.new(hp:H p=none):Ext K ι M.length H (lF ι M.length p) (M.length+1) (upd H p o):=
 ⟨λ_ _ h=>m6 hp h,λ_ _ h=>Tt (acK hp) h,λ_ _ h=>m6 hp h,λ_ _ h=>m6 hp h,λ_ _ _ h=>m6 hp h,Nat.le_succ _,λi hi=>by unfold lF;rw[if_neg (xD hi)]⟩
theorem Rl.new(R:Rl K ct ι M H)(hp:H p=none)(h:OR K ct (lF ι M.length p) (M.length+1) (upd H p o) p x):Rl K ct (lF ι M.length p) (M++[x]) (upd H p o):=by
 have ne:∀i,i<M.length->ι i≠p:=λi hi=>by
  obtain⟨u,hu⟩:=R.lt (zac hi)
  exact bC hu hp
 have el:(M++[x]).length=M.length+1:=by simp
 refine⟨λi j hi hj e=> ?_,λi y hy=> ?_,R.tab.keep (λ_ _ h=>m6 hp h) λ_ _ _ h=>m6 hp h⟩
 ·rw[el]at hi hj
  unfold lF at e
  by_cases a:i=M.length
  ·by_cases b:j=M.length
   ·rw[a,b]
   ·rw[if_pos a,if_neg b]at e
    exact absurd e.symm (ne j ())
  ·by_cases b:j=M.length
   ·rw[if_neg a,if_pos b]at e
    exact absurd e (ne i ())
   ·rw[if_neg a,if_neg b]at e
    exact R.inj i j () () e
 ·rw[el]
  by_cases a:i<M.length
  ·rw[zae a]at hy
   obtain⟨u,hu⟩:=R.lt hy
   refine(R.obj i y hy).keep (Ext.new hp) ?_ (aH (bC hu hp))
   unfold lF
   rw[if_neg (xD a)]
  ·have hi:i<(M++[x]).length:=(List.getElem?_eq_some_iff.mp hy).1
   have e:i=M.length:=by rw[el]at hi;lia
   subst e
   rw[zad (zab _)]at hy
   simp at hy
   subst hy
   have:lF ι M.length p M.length=p:=by unfold lF;rw[if_pos rfl]
   rw[this]
   exact h
theorem Ext.chg(h:H a=some u)(hu:∀xs,u≠ .tup xs)(hz:∀b x,u≠ .gb b x)(hx:∀φ,u≠ .ext φ:=by exact λ_ z=>nomatch z)(hd:∀fs,u≠ .xd fs:=by exact λ_ z=>nomatch z):Ext K ι n H ι n (upd H a o):=
 ⟨λb xs q=>by
  rw[aH (λe=>by subst e;rw[h]at q;exact hu xs (xI q))];exact q,λ_ _ q=>Tt (λb x r=>by rw[h]at r;exact hz b x (xI r)) q,λb φ q=>by
  rw[aH (λe=>by subst e;rw[h]at q;exact hx φ (xI q))];exact q,λb fs q=>by
  rw[aH (λe=>by subst e;rw[h]at q;exact hd fs (xI q))];exact q,λb x y q=>by
  rw[aH (λe=>by subst e;rw[h]at q;exact hz x y (xI q))];exact q,zab _,λ_ _=>rfl⟩
theorem Rl.chg(R:Rl K ct ι M H)(hi:i<M.length)(h:H (ι i)=some u)(hu:∀xs,u≠ .tup xs)(hz:∀b x,u≠ .gb b x)(hx:OR K ct ι M.length (upd H (ι i) o) (ι i) x)(hex:∀φ,u≠ .ext φ:=by exact λ_ z=>nomatch z)(hxd:∀fs,u≠ .xd fs:=by exact λ_ z=>nomatch z)(htb:∀ps,u≠ .yJ ps:=by exact λ_ z=>nomatch z):Rl K ct ι (M.set i x) (upd H (ι i) o):=by
 refine⟨λj k hj hk e=>R.inj j k (by simpa using hj) (by simpa using hk) e,λj y hy=> ?_,R.tab.keep (λb ps q=>by
  rw[aH (λe=>by subst e;rw[h]at q;exact htb ps (xI q))];exact q) λb x y q=>by
  rw[aH (λe=>by subst e;rw[h]at q;exact hz x y (xI q))];exact q⟩
 rw[List.length_set]
 by_cases e:i=j
 ·subst e
  rw[zaj hi]at hy
  cases hy
  exact hx
 ·rw[zai e]at hy
  have hj:j<M.length:=(List.getElem?_eq_some_iff.mp hy).1
  exact(R.obj j y hy).keep (Ext.chg h hu hz hex hxd) rfl (aH λz=>e (R.inj i j hi hj z.symm))
theorem Ws.ext(w:Ws K ct ι e M σ H)(x:Ext K ι M.length H ι' M'.length H')(r:Rl K ct ι' M' H'):Ws K ct ι' e M' σ H':=
 ⟨r,w.len,λi d h=>let⟨v,a,b⟩:=w.env i d h;⟨v,a,b.mono x⟩⟩
theorem Ws.set(w:Ws K ct ι e M σ H)(i:Nat)(h:DV K ct ι M.length H d v):Ws K ct ι (e.set i (some d)) M (σ.set i (some v)) H:=by
 refine⟨w.rl,by simp[w.len],λj d' hj=> ?_⟩
 by_cases z:i=j
 ·subst z
  have hi:i<e.length:=by have:=(List.getElem?_eq_some_iff.mp hj).1;simpa using this
  rw[zaj hi]at hj
  cases hj
  exact⟨v,zaj (by rw[w.len];exact hi),h⟩
 ·rw[zai z]at hj
  obtain⟨v',a,b⟩:=w.env j d' hj
  exact⟨v',by rw[zai z];exact a,b⟩
end
theorem Ws.clear{K:Frag}{ct ι:Nat->Addr}{M:Mem}{H:Hp}{e:Sl}{σ:St}(w:Ws K ct ι e M σ H)(i:Nat):Ws K ct ι (e.set i none) M (σ.set i none) H:=by
 refine⟨w.rl,by simp[w.len],λj d' hj=> ?_⟩
 by_cases z:i=j
 ·subst z
  have hi:i<e.length:=by have:=(List.getElem?_eq_some_iff.mp hj).1;simpa using this
  rw[zaj hi]at hj
  cases hj
 ·rw[zai z]at hj
  obtain⟨v',a,b⟩:=w.env j d' hj
  exact⟨v',by rw[zai z];exact a,b⟩
abbrev XW:=Addr->Addr->Hp->Prop
def wAt(W:bf)(σ:St):XW:=λC dx H=>W C dx σ H
def W0:bf:=λ_ _ _ _=>False
def ju{α β:Type}(rel:(Nat->Addr)->Mem->Hp->α->β->Prop)(K:Frag)(ct:Nat->Addr)(w:XW)(ι:Nat->Addr)(n:Nat)(H:Hp)(o:Out α)(Q:β->Hp->Prop):Prop:=match o with
 | .ok a M'=>∀ι' b H',Ext K ι n H ι' M'.length H'->Rl K ct ι' M' H'->rel ι' M' H' a b->Q b H'
 | .exc c d M'=>∀ι' dx v H',Ext K ι n H ι' M'.length H'->Rl K ct ι' M' H'->H' dx=some (.xd [("at",v)])->DV K ct ι' M'.length H' d v->w (ct c) dx H'
 | .bad=>False
def tG{α β:Type}(rel:(Nat->Addr)->Mem->Hp->α->β->Prop)(K:Frag)(ct:Nat->Addr)(W:bf)(m:Sl->Mem->Out α)(σ:St)(H:Hp)(Q:β->Hp->Prop):Prop:=
 ∃ι e M,Ws K ct ι e M σ H/\ju rel K ct (wAt W σ) ι M.length H (m e M) Q
abbrev eE(K:Frag)(ct:Nat->Addr):(Nat->Addr)->Mem->Hp->D->V->Prop:=λι M H d v=>DV K ct ι M.length H d v
abbrev Hh(K:Frag)(ct:Nat->Addr):(Nat->Addr)->Mem->Hp->List D->List V->Prop:=λι M H d v=>nU K ct ι M.length H d v
abbrev Hg:(Nat->Addr)->Mem->Hp->Bool->Bool->Prop:=λ_ _ _ a b=>a=b
abbrev ME:=Sl->Mem->Out D
abbrev MT:=Sl->Mem->Out Bool
abbrev MA:=Sl->Mem->Out (List D)
def SE(X:Cx)(ct:Nat->Addr)(W:bf)(e:Expr)(m:ME):Prop:=PE X e (tG (eE X.K ct) X.K ct W m)
def STt(X:Cx)(ct:Nat->Addr)(W:bf)(e:Expr)(m:MT):Prop:=PT X e (tG Hg X.K ct W m)
def SW(X:Cx)(ct:Nat->Addr)(W:bf)(e:Expr)(m:MT):Prop:=PW X e (tG Hg X.K ct W m)
def SA(X:Cx)(ct:Nat->Addr)(W:bf)(es:List Expr)(m:MA):Prop:=PA X es (tG (Hh X.K ct) X.K ct W m)
theorem SW.pt(h:SW X ct W e m):STt X ct W e m:=PW.pt h
section
variable{X:Cx}{ct:Nat->Addr}
theorem PE.imp(h:PE X e t)(hi:∀σ H Q,t' σ H Q->t σ H Q):PE X e t':=λpins s σ H Q I q=>h pins s σ H Q I (hi σ H Q q)
theorem PT.imp(h:PT X e t)(hi:∀σ H Q,t' σ H Q->t σ H Q):PT X e t':=λpins s σ H Q I q=>h pins s σ H Q I (hi σ H Q q)
theorem PW.imp(h:PW X e t)(hi:∀σ H Q,t' σ H Q->t σ H Q):PW X e t':=λwh pins s σ H Q I q=>h wh pins s σ H Q I (hi σ H Q q)
theorem PA.imp(h:PA X es t)(hi:∀σ H Q,t' σ H Q->t σ H Q):PA X es t':=λpos pins s σ H Q I q=>h pos pins s σ H Q I (hi σ H Q q)
end
theorem ju.ext{α β:Type}{rel:(Nat->Addr)->Mem->Hp->α->β->Prop}{K:Frag}{ct ι ι':Nat->Addr}{w:XW}{n n':Nat}{H H':Hp}{o:Out α}{Q:β->Hp->Prop}(h:ju rel K ct w ι n H o Q)(x:Ext K ι n H ι' n' H'):ju rel K ct w ι' n' H' o Q:=by
 cases o with
 | ok a M=>exact λlM b H2 x2 r q=>h lM b H2 (x.trans x2) r q
 | exc c d M=>exact λlM dx v H2 x2 r q1 q2=>h lM dx v H2 (x.trans x2) r q1 q2
 | bad=>exact h
theorem ju.mono{α β:Type}{rel:(Nat->Addr)->Mem->Hp->α->β->Prop}{K:Frag}{ct ι:Nat->Addr}{w:XW}{n:Nat}{H:Hp}{o:Out α}{Q Q':β->Hp->Prop}(h:ju rel K ct w ι n H o Q)(x:∀b H,Q b H->Q' b H):ju rel K ct w ι n H o Q':=by
 cases o with
 | ok a M=>exact λlM b H2 x2 r q=>x b H2 (h lM b H2 x2 r q)
 | exc c d M=>exact h
 | bad=>exact h
def az_{α β γ δ:Type}(fY:(Nat->Addr)->Mem->Hp->α->β->Prop)(YT:(Nat->Addr)->Mem->Hp->γ->δ->Prop)(K:Frag)(ct:Nat->Addr)(W:bf)(f:α->Sl->Mem->Out γ)(σ:St)(Q:δ->Hp->Prop)(b:β)(H1:Hp):Prop:=
 ∃ι e M a,Ws K ct ι e M σ H1/\fY ι M H1 a b/\ju YT K ct (wAt W σ) ι M.length H1 (f a e M) Q
theorem b7{α β γ δ:Type}{fY:(Nat->Addr)->Mem->Hp->α->β->Prop}{YT:(Nat->Addr)->Mem->Hp->γ->δ->Prop}{K:Frag}{ct:Nat->Addr}{W:bf}{ma:Sl->Mem->Out α}{f:α->Sl->Mem->Out γ}{σ:St}{H:Hp}{Q:δ->Hp->Prop}
  (h:tG YT K ct W (λe M=>(ma e M).bind λa M1=>f a e M1) σ H Q):tG fY K ct W ma σ H (az_ fY YT K ct W f σ Q):=by
 obtain⟨ι,e,M,w,p⟩:=h
 refine⟨ι,e,M,w,?_⟩
 cases z:ma e M with
 | bad=>simp only[z,Out.eU]at p;exact p
 | exc xc xd xM=>simp only[z,Out.sr]at p;exact p
 | ok a M1=>
  simp only[z,Out.d7]at p
  exact λcF b H1 x r q=>⟨cF,e,M1,a,w.ext x r,q,p.ext x⟩
section
variable{X:Cx}{ct:Nat->Addr}{W:bf}{a b c:Expr}{ma mb mc:ME}{pos:Pos}
@[irreducible]noncomputable def aq(i:Nat):ME:=λe M=>match e[i]? with
 | some (some d)=> .ok d M
 | _=> .bad
theorem rG(h:e[i]? = some (some d)):aq i e M= .ok d M:=by unfold aq;rw[h]
noncomputable def mC(d:D):ME:=λ_ M=> .ok d M
theorem fX(h:PE X e t)(hi:∀σ H Q,tG (eE X.K ct) X.K ct W m σ H Q->t σ H Q):SE X ct W e m:=PE.imp h hi
theorem aj(i:Nat)(hN:X.N[i]? = some x:=by rfl)(hv:Vis X.env.scope x:=by first | exact Or.inl rfl | exact Or.inr (Or.inl rfl) | exact Or.inr (Or.inr rfl))(hd:(x==("__debug__" : Str))=false:=by decide)
  (hcd:(x==("__classdict__" : Str))=false:=by decide):SE X ct W (.Name x pos) (aq i):=fX (RX hN hv hd hcd) λσ H Q ⟨ι,e,M,w,p⟩=>by
 unfold aq at p
 cases z:e[i]? with
 | none=>rw[z]at p;exact p.elim
 | some o=>
  cases o with
  | none=>rw[z]at p;exact p.elim
  | some d=>
   rw[z]at p
   obtain⟨v,hv,dv⟩:=w.env i d z
   exact⟨v,hv,p ι v H .refl w.rl dv⟩
theorem Qn(dv:∀ι n,DV X.K ct ι n H d v)(h:tG (eE X.K ct) X.K ct W (mC d) σ H Q):tC v σ H Q:=by
 obtain⟨ι,e,M,w,p⟩:=h
 exact p ι v H .refl w.rl (dv _ _)
theorem aN{i j pos}:SE X ct W (.Constant (.int i) j pos) (mC (.int i)):=fX ag2 λ_ _ _ h=>Qn (λ_ _=> .int i) h
theorem YG{b j pos}:SE X ct W (.Constant (.bool b) j pos) (mC (.bl b)):=fX alo λ_ _ _ h=>Qn (λ_ _=> .bl b) h
theorem qY{j pos}:SE X ct W (.Constant .none j pos) (mC .non):=fX agZ λ_ _ _ h=>Qn (λ_ _=> .non) h
theorem lY{x j pos}:SE X ct W (.Constant (.str x) j pos) (mC (.str x)):=fX agW λ_ _ _ h=>Qn (λ_ _=> .str x) h
theorem ajW(hg:Gl X x)(hm:X.mg x=none)(hv:bootBuiltins x=some (.type n))(hn:x≠ "__name__" := by decide)(hd:(x==("__debug__" : Str))=false:=by decide):SE X ct W (.Name x pos) (mC (.ty n)):=
 fX (aes (v:= .ty n) hg hm hv rfl hn hd) λ_ _ _ h=>Qn (λ_ _=> .ty n) h
theorem WM(hg:Gl X x)(hm:X.mg x=some (.ref (ct k)))(hd:(x==("__debug__" : Str))=false:=by decide):SE X ct W (.Name x pos) (mC (.cls k)):=
 fX (Y7 (v:= .ref (ct k)) hg hm rfl hd) λ_ _ _ h=>Qn (λ_ _=> .cls k) h
abbrev yI:=D->D->Mem->Out D
noncomputable def aR(op:yI)(ma mb:ME):ME:=λe M=>(ma e M).bind λd M1=>(mb e M1).bind λd' M2=>op d d' M2
def Ur(K:Frag)(ct:Nat->Addr)(op:yI)(r:R2):Prop:=
 ∀{w:XW} ι M H d d' v v' Q,Rl K ct ι M H->DV K ct ι M.length H d v->DV K ct ι M.length H d' v'->ju (eE K ct) K ct w ι M.length H (op d d' M) Q->r v v' H Q
def m_(X:Cx)(ct:Nat->Addr)(f:Value->Value->Sem Value)(op:yI):Prop:=∃r,Bg X f r/\Ur X.K ct op r
theorem Rn(hs:Ur X.K ct op r)(h:tG (eE X.K ct) X.K ct W (aR op ma mb) σ H Q):
  tOp r (tG (eE X.K ct) X.K ct W ma) (tG (eE X.K ct) X.K ct W mb) σ H Q:=by
 obtain⟨ι,e,M,w,p⟩:=b7 (fY:=eE X.K ct) h
 refine⟨ι,e,M,w,p.mono ?_⟩
 rintro x H1 ⟨cF,e1,M1,d1,w1,q1,p1⟩
 refine⟨cF,e1,M1,w1,?_⟩
 cases z:mb e1 M1 with
 | bad=>simp only[z,Out.eU]at p1;exact p1
 | exc xc xd xM=>simp only[z,Out.sr]at p1;exact p1
 | ok d2 M2=>
  simp only[z,Out.d7]at p1
  exact λlM y H2 x2 r2 q2=>hs lM M2 H2 d1 d2 x y Q r2 (q1.mono x2) q2 (p1.ext x2)
theorem cG(h:m_ X ct (binaryOp op) sop)(ha:SE X ct W a ma)(hb:SE X ct W b mb):SE X ct W (.BinOp a op b pos) (aR sop ma mb):=by
 obtain⟨r,ho,hs⟩:=h
 exact fX (alm ho ha hb) λσ H Q q=>Rn hs q
theorem yq(h:m_ X ct (compareOp op) sop)(ha:SE X ct W a ma)(hb:SE X ct W b mb)(hm:behindInMarks op b=false):SE X ct W (.Compare a [op] [b] pos) (aR sop ma mb):=by
 obtain⟨r,ho,hs⟩:=h
 exact fX (aer ho ha hb hm) λσ H Q q=>Rn hs q
noncomputable def asB(d:D)(M:Mem):Out Bool:=match d with
 | .bl b=> .ok b M
 | _=> .bad
noncomputable def cL(m:ME):MT:=λe M=>(m e M).bind asB
theorem UJ{Q:Bool->Hp->Prop}(hi:∀Q,tG (eE X.K ct) X.K ct W m σ H Q->t σ H Q)(h:tG Hg X.K ct W (cL m) σ H Q):afz t σ H Q:=by
 refine hi _ ?_
 obtain⟨ι,e,M,w,p⟩:=b7 (fY:=eE X.K ct) (f:=λd _ M=>asB d M) h
 refine⟨ι,e,M,w,p.mono ?_⟩
 rintro x H1 ⟨cF,e1,M1,d1,w1,q1,p1⟩
 cases q1 with
 | bl b=>exact⟨b,rfl,p1 cF b H1 .refl w1.rl rfl⟩
 | _=>exact False.elim p1
theorem dm(h:m_ X ct (compareOp op) sop)(ha:SE X ct W a ma)(hb:SE X ct W b mb)(hm:behindInMarks op b=false):STt X ct W (.Compare a [op] [b] pos) (cL (aR sop ma mb)):=by
 obtain⟨r,ho,hs⟩:=h
 exact PT.imp (aef ho ha hb hm) λσ H Q q=>UJ (λQ q=>Rn hs q) q
theorem zX(h:SE X ct W a m)(he:∀whole,isTrue a X.env whole=(do let v <-whole;standAt a.pos;holding [v] (truthy v)):=by intro _;rfl):STt X ct W a (cL m):=
 PT.imp (agN h he) λσ H Q q=>UJ (λQ q=>q) q
noncomputable def mUn(op:D->Mem->Out D)(ma:ME):ME:=λe M=>(ma e M).bind op
def UnS(X:Cx)(ct:Nat->Addr)(f:Value->Sem Value)(op:D->Mem->Out D):Prop:=∃r,UnR X f r/\∀{w:XW} ι M H d v Q,Rl X.K ct ι M H->DV X.K ct ι M.length H d v->ju (eE X.K ct) X.K ct w ι M.length H (op d M) Q->r v H Q
theorem ajV(h:UnS X ct (unaryOp op) sop)(ha:SE X ct W a ma):SE X ct W (.UnaryOp op a pos) (mUn sop ma):=by
 obtain⟨r,ho,hs⟩:=h
 refine fX (alj ho ha) λσ H Q q=> ?_
 obtain⟨ι,e,M,w,p⟩:=b7 (fY:=eE X.K ct) (f:=λd _ M=>sop d M) q
 exact⟨ι,e,M,w,p.mono λx H1 ⟨cF,e1,M1,d1,w1,q1,p1⟩=>hs cF M1 H1 d1 x Q w1.rl q1 p1⟩
variable{t u:MT}{rest:List Expr}
noncomputable def acW(t u:MT):MT:=λe M=>(t e M).bind λk M1=>if k=true then u e M1 else .ok false M1
noncomputable def mOr(t u:MT):MT:=λe M=>(t e M).bind λk M1=>if k=true then .ok true M1 else u e M1
noncomputable def aaD(t:MT):MT:=λe M=>(t e M).bind λk M1=> .ok (!k) M1
theorem Rp(ha:STt X ct W a t):SW X ct W (.BoolOp .And [a] pos) t:=ad_ ha
theorem Ml(ha:STt X ct W a t):SW X ct W (.BoolOp .Or [a] pos) t:=agL ha
theorem Wz(ha:STt X ct W a t)(hb:SW X ct W (.BoolOp .And (b::rest) pos) u):SW X ct W (.BoolOp .And (a::b::rest) pos) (acW t u):=PW.imp (agM ha hb) λσ H Q q=>by
 obtain⟨ι,e,M,w,p⟩:=b7 (fY:=Hg) (f:=λk e M1=>if k=true then u e M1 else .ok false M1) q
 refine⟨ι,e,M,w,p.mono ?_⟩
 rintro k H1 ⟨cF,e1,M1,d1,w1,q1,p1⟩
 have Tr:d1=k:=q1;subst Tr
 cases d1 with
 | true=>exact⟨cF,e1,M1,w1,p1⟩
 | false=>exact p1 cF false H1 .refl w1.rl rfl
theorem Qo(ha:STt X ct W a t)(hb:SW X ct W (.BoolOp .Or (b::rest) pos) u):SW X ct W (.BoolOp .Or (a::b::rest) pos) (mOr t u):=PW.imp (ako ha hb) λσ H Q q=>by
 obtain⟨ι,e,M,w,p⟩:=b7 (fY:=Hg) (f:=λk e M1=>if k=true then .ok true M1 else u e M1) q
 refine⟨ι,e,M,w,p.mono ?_⟩
 rintro k H1 ⟨cF,e1,M1,d1,w1,q1,p1⟩
 have Tr:d1=k:=q1;subst Tr
 cases d1 with
 | false=>exact⟨cF,e1,M1,w1,p1⟩
 | true=>exact p1 cF true H1 .refl w1.rl rfl
theorem Rr(ha:STt X ct W a t):STt X ct W (.UnaryOp .Not a pos) (aaD t):=PT.imp (agO ha) λσ H Q q=>by
 obtain⟨ι,e,M,w,p⟩:=b7 (fY:=Hg) (f:=λk e M1=> .ok (!k) M1) q
 refine⟨ι,e,M,w,p.mono ?_⟩
 rintro k H1 ⟨cF,e1,M1,d1,w1,q1,p1⟩
 have Tr:d1=k:=q1;subst Tr
 exact p1 cF _ H1 .refl w1.rl rfl
noncomputable def Kq(ma mb:ME):ME:=λe M=>(ma e M).bind λd M1=>(asB d M1).bind λk M2=>if k=true then mb e M2 else .ok (.bl false) M2
noncomputable def ahs(ma mb:ME):ME:=λe M=>(ma e M).bind λd M1=>(asB d M1).bind λk M2=>if k=true then .ok (.bl true) M2 else mb e M2
noncomputable def acT(ma:ME):ME:=λe M=>(ma e M).bind λd M1=>(asB d M1).bind λk M2=> .ok (.bl (!k)) M2
theorem Mv{op}(h:SE X ct W a m):SE X ct W (.BoolOp op [a] pos) m:=agX h
theorem Rx(ha:SE X ct W a ma)(hb:SE X ct W (.BoolOp .And (b::rest) pos) mb):SE X ct W (.BoolOp .And (a::b::rest) pos) (Kq ma mb):=fX (ag3 ha hb) λσ H Q q=>by
 obtain⟨ι,e,M,w,p⟩:=b7 (fY:=eE X.K ct) (f:=λd e M1=>(asB d M1).bind λk M2=>if k=true then mb e M2 else .ok (.bl false) M2) q
 refine⟨ι,e,M,w,p.mono ?_⟩
 rintro x H1 ⟨cF,e1,M1,d1,w1,q1,p1⟩
 cases q1 with
 | bl k=>
  refine⟨k,rfl,?_⟩
  simp only[asB,Out.d7]at p1
  cases k with
  | true=>exact⟨cF,e1,M1,w1,p1⟩
  | false=>exact p1 cF _ H1 .refl w1.rl (.bl false)
 | _=>exact False.elim p1
theorem ajY(ha:SE X ct W a ma)(hb:SE X ct W (.BoolOp .Or (b::rest) pos) mb):SE X ct W (.BoolOp .Or (a::b::rest) pos) (ahs ma mb):=fX (alk ha hb) λσ H Q q=>by
 obtain⟨ι,e,M,w,p⟩:=b7 (fY:=eE X.K ct) (f:=λd e M1=>(asB d M1).bind λk M2=>if k=true then .ok (.bl true) M2 else mb e M2) q
 refine⟨ι,e,M,w,p.mono ?_⟩
 rintro x H1 ⟨cF,e1,M1,d1,w1,q1,p1⟩
 cases q1 with
 | bl k=>
  refine⟨k,rfl,?_⟩
  simp only[asB,Out.d7]at p1
  cases k with
  | false=>exact⟨cF,e1,M1,w1,p1⟩
  | true=>exact p1 cF _ H1 .refl w1.rl (.bl true)
 | _=>exact False.elim p1
theorem agq(ha:SE X ct W a ma):SE X ct W (.UnaryOp .Not a pos) (acT ma):=fX (agY ha) λσ H Q q=>by
 obtain⟨ι,e,M,w,p⟩:=b7 (fY:=eE X.K ct) (f:=λd _ M1=>(asB d M1).bind λk M2=>(Out.ok (D.bl (!k)) M2:Out D)) q
 refine⟨ι,e,M,w,p.mono ?_⟩
 rintro x H1 ⟨cF,e1,M1,d1,w1,q1,p1⟩
 cases q1 with
 | bl k=>exact⟨k,rfl,p1 cF _ H1 .refl w1.rl (.bl _)⟩
 | _=>exact False.elim p1
variable{es:List Expr}{ms:MA}
noncomputable def aJ:MA:=λ_ M=> .ok [] M
noncomputable def az(m:ME)(ms:MA):MA:=λe M=>(m e M).bind λd M1=>(ms e M1).bind λds M2=> .ok (d::ds) M2
theorem aG:SA X ct W [] aJ:=PA.imp Jw λσ H Q ⟨ι,e,M,w,p⟩=>p ι [] H .refl w.rl .nil
theorem au(ha:SE X ct W a ma)(hr:SA X ct W es ms)(hs:starEach (a::es) X.env=(false,eval a X.env)::starEach es X.env:=by rfl):SA X ct W (a::es) (az ma ms):=PA.imp (DX ha hr hs) λσ H Q q=>by
 obtain⟨ι,e,M,w,p⟩:=b7 (fY:=eE X.K ct) (f:=λd e M1=>(ms e M1).bind λds M2=> .ok (d::ds) M2) q
 refine⟨ι,e,M,w,p.mono ?_⟩
 rintro x H1 ⟨cF,e1,M1,d1,w1,q1,p1⟩
 refine⟨cF,e1,M1,w1,?_⟩
 cases z:ms e1 M1 with
 | bad=>simp only[z,Out.eU]at p1;exact p1
 | exc xc xd xM=>simp only[z,Out.sr]at p1;exact p1
 | ok ds M2=>
  simp only[z,Out.d7]at p1
  exact λlM xs H2 x2 r2 q2=>p1 lM (x::xs) H2 x2 r2 (.cons (q1.mono x2) q2)
noncomputable def kh(ms:MA):ME:=λe M=>(ms e M).bind λds M1=>if ds.length<=sizeLine then .ok (.tup ds) M1 else .bad
noncomputable def yW(ms:MA):ME:=λe M=>(ms e M).bind λds M1=>if ds.length<=sizeLine then .ok (.ref M1.length) (M1++[.lst ds])else .bad
theorem Hi{w:XW}{K:Frag}{ι:Nat->Addr}{M:Mem}{H:Hp}{ds:List D}{xs:List V}{Q:VK}{p:Addr}(R:Rl K ct ι M H)(h:nU K ct ι M.length H ds xs)(hp:H p=none)(q:ju (eE K ct) K ct w ι M.length H (.ok (.tup ds) M) Q):Q (.ref p) (upd H p (.tup xs)):=
 q ι (.ref p) _ (Ext.fresh hp) (R.fresh hp) (.tup aM (h.mono (Ext.fresh hp)))
theorem rm{w:XW}{K:Frag}{ι:Nat->Addr}{M:Mem}{H:Hp}{ds:List D}{xs:List V}{Q:VK}{p:Addr}(R:Rl K ct ι M H)(h:nU K ct ι M.length H ds xs)(hp:H p=none)(q:ju (eE K ct) K ct w ι M.length H (.ok (.ref M.length) (M++[.lst ds])) Q):Q (.ref p) (upd H p (.lst xs)):=by
 have el:(M++[MO.lst ds]).length=M.length+1:=by simp
 have x:Ext K ι M.length H (lF ι M.length p) (M.length+1) (upd H p (.lst xs)):=Ext.new hp
 have e:(lF ι M.length p) M.length=p:=by unfold lF;rw[if_pos rfl]
 have dv:DV K ct (lF ι M.length p) (M++[MO.lst ds]).length (upd H p (.lst xs)) (.ref M.length) (.ref p):=by
  have:=DV.ref (K:=K) (ct:=ct) (ι:=lF ι M.length p) (n:=(M++[MO.lst ds]).length) (H:=upd H p (.lst xs)) (i:=M.length) (by rw[el];lia)
  rw[e]at this
  exact this
 exact q (lF ι M.length p) (.ref p) _ (by rw[el];exact x) (R.new hp ⟨xs,aM,h.mono x⟩) dv
theorem fU{x1}(h:SA X ct W es ms):SE X ct W (.Tuple es x1 pos) (kh ms):=fX (agV h) λσ H Q q=>by
 obtain⟨ι,e,M,w,p⟩:=b7 (fY:=Hh X.K ct) (f:=λds _ M1=>if ds.length<=sizeLine then .ok (D.tup ds) M1 else .bad) q
 refine⟨ι,e,M,w,p.mono ?_⟩
 rintro xs H1 ⟨cF,e1,M1,ds,w1,q1,p1⟩
 by_cases z:ds.length<=sizeLine
 ·simp only[z,if_true]at p1
  exact⟨by rw[q1.length];exact z,λpp hp=>Hi w1.rl q1 hp p1⟩
 ·simp only[z,if_false]at p1
  exact p1.elim
theorem pI(h:SA X ct W es ms):SE X ct W (.List es pos) (yW ms):=fX (ag1 h) λσ H Q q=>by
 obtain⟨ι,e,M,w,p⟩:=b7 (fY:=Hh X.K ct) (f:=λds _ M1=>if ds.length<=sizeLine then .ok (D.ref M1.length) (M1++[.lst ds])else .bad) q
 refine⟨ι,e,M,w,p.mono ?_⟩
 rintro xs H1 ⟨cF,e1,M1,ds,w1,q1,p1⟩
 by_cases z:ds.length<=sizeLine
 ·simp only[z,if_true]at p1
  exact⟨by rw[q1.length];exact z,λpp hp=>rm w1.rl q1 hp p1⟩
 ·simp only[z,if_false]at p1
  exact p1.elim
noncomputable def cO(cs:List Nat)(f:Str)(d:D)(M:Mem):Out D:=match d with
 | .ref n=>match M[n]? with
  | some (.ins c fs)=>if c∈cs then(match fs.lookup f with
   | some v=> .ok v M
   | none=> .bad)else .bad
  | _=> .bad
 | _=> .bad
noncomputable def aX(cs:List Nat)(m:ME)(f:Str):ME:=λe M=>(m e M).bind (cO cs f)
def J8(K:Frag)(ct:Nat->Addr)(f:Str):List Nat->Prop
 | []=>True
 | c::cs=>(Li K (ct c)/\bU K (ct c) f)/\J8 K ct f cs
theorem J8.get{K:Frag}{ct:Nat->Addr}{f:Str}:∀{cs:List Nat} {c:Nat},J8 K ct f cs->c∈cs->Li K (ct c)/\bU K (ct c) f
 | [],_,_,h=>by simp at h
 | c::cs,d,⟨a,r⟩,h=>by
  rcases List.mem_cons.mp h with e | e
  ·subst e;exact a
  ·exact r.get e
theorem nC{K:Frag}{ι:Nat->Addr}{n:Nat}{H:Hp}{i:Nat}{v:V}(h:DV K ct ι n H (.ref i) v):i<n/\v= .ref (ι i):=by cases h with | ref h=>exact⟨h,rfl⟩
theorem aL(hc:J8 X.K ct f cs)(he:SE X ct W a ma)(hb:attributeBase a f X.env (eval a X.env)=eval a X.env:=by rfl):SE X ct W (.Attribute a f pos) (aX cs ma f):=fX (acC he hb) λσ H Q q=>by
 obtain⟨ι,e,M,w,p⟩:=b7 (fY:=eE X.K ct) (f:=λd _ M1=>cO cs f d M1) q
 refine⟨ι,e,M,w,p.mono ?_⟩
 rintro x H1 ⟨cF,e1,M1,d1,w1,q1,p1⟩
 cases d1 with
 | ref n=>
  obtain⟨hn,rfl⟩:=nC q1
  simp only[cO]at p1
  cases z:M1[n]? with
  | none=>simp only[z]at p1;exact p1.elim
  | some o=>
   cases o with
   | ins c fs=>
    simp only[z]at p1
    by_cases hcs:c∈cs
    ·simp only[hcs,if_true]at p1
     cases z2:fs.lookup f with
     | none=>simp only[z2]at p1;exact p1.elim
     | some d=>
      simp only[z2]at p1
      obtain⟨dx,vs,hH,fv⟩:=w1.rl.obj n _ z
      obtain⟨v,hv,dv⟩:=fv.look z2
      exact⟨_,_,dx,vs,v,rfl,hH,(hc.get hcs).1,(hc.get hcs).2,hv,p1 cF v H1 .refl w1.rl dv⟩
    ·simp only[hcs,if_false]at p1
     exact p1.elim
   | _=>simp only[z]at p1;exact p1.elim
 | _=>exact p1.elim
abbrev Fn:=List D->Mem->Out D
def wE(E:XK):XW:=λC dx H=>E (.ref C) (some dx) H
theorem ju.wish{α β:Type}{rel:(Nat->Addr)->Mem->Hp->α->β->Prop}{K:Frag}{ct ι:Nat->Addr}{w w':XW}{n:Nat}{H:Hp}{o:Out α}{Q:β->Hp->Prop}(h:ju rel K ct w ι n H o Q)(x:∀C dx H,w C dx H->w' C dx H):ju rel K ct w' ι n H o Q:=by
 cases o with
 | ok a M=>exact h
 | exc c d M=>exact λlM dx v H2 x2 r q1 q2=>x _ _ _ (h lM dx v H2 x2 r q1 q2)
 | bad=>exact h
theorem ju.toE{α β:Type}{rel:(Nat->Addr)->Mem->Hp->α->β->Prop}{K:Frag}{ct ι:Nat->Addr}{W:bf}{σ:St}{n:Nat}{H:Hp}{o:Out α}{Q:β->Hp->Prop}(h:ju rel K ct (wAt W σ) ι n H o Q):ju rel K ct (wE (EW W σ)) ι n H o Q:=
 h.wish λC dx _ q=>⟨C,dx,rfl,rfl,q⟩
def spS(K:Frag)(ct:Nat->Addr)(fn:Fn)(ar:Nat):Sp:=λvs H Q E=>∃ι ds M,ds.length=ar/\Rl K ct ι M H/\nU K ct ι M.length H ds vs/\ju (eE K ct) K ct (wE E) ι M.length H (fn ds M) Q
inductive Cst:D->V->Value->Prop
 | bl (b:Bool):Cst (.bl b) (.bl b) (.bool b)
 | non:Cst .non .non .none
 | str (x:Str) (t:Tok):Cst (.str x) (.str x) (.str x t)
 | int (x:Int) (t:Tok):Cst (.int x) (.int x) (.int x t)
inductive GJ:List D->List V->List Value->Prop
 | nil:GJ [] [] []
 | cons {d:D} {v:V} {u:Value} {ds:List D} {vs:List V} {us:List Value}:Cst d v u->GJ ds vs us->GJ (d::ds) (v::vs) (u::us)
theorem Cst.dv{K:Frag}{ι:Nat->Addr}{n:Nat}{H:Hp}{d:D}{v:V}{u:Value}(h:Cst d v u):DV K ct ι n H d v:=by
 cases h with
 | bl b=>exact .bl b
 | non=>exact .non
 | str x t=>exact .str x
 | int x t=>exact .int x
theorem Cst.val{d:D}{v:V}{u:Value}(h:Cst d v u):RelV v u:=by
 cases h with
 | bl b=>exact rfl
 | non=>exact rfl
 | str x t=>exact⟨_,rfl⟩
 | int x t=>exact⟨_,rfl⟩
theorem GJ.dv{K:Frag}{ι:Nat->Addr}{n:Nat}{H:Hp}{ds:List D}{vs:List V}{us:List Value}(h:GJ ds vs us):nU K ct ι n H ds vs:=by
 induction h with
 | nil=>exact .nil
 | cons c _ ih=>exact .cons c.dv ih
theorem GJ.vals(h:GJ ds vs us):Vals vs us:=by
 induction h with
 | nil=>exact .nil
 | cons c _ ih=>exact .cons c.val ih
noncomputable def j9(fn:Fn)(ar:Nat)(dv:List D)(ms:MA):ME:=λe M=>(ms e M).bind λds M1=>if(ds++dv).length=ar then fn (ds++dv) M1 else .bad
variable{k:Nat}{f:Addr}{fd:FuncData}{ps:List Str}{fn:Fn}{dv:List D}{BZ:List V}{dus:List Value}{x:Str}{p:Pos}
theorem abG(hd:GJ dv BZ dus)(h:tG (eE X.K ct) X.K ct W (j9 fn ps.length dv ms) σ H Q):abH (spS X.K ct fn ps.length) BZ W (tG (Hh X.K ct) X.K ct W ms) σ H Q:=by
 obtain⟨ι,e,M,w,p⟩:=b7 (fY:=Hh X.K ct) (f:=λds _ M1=>if(ds++dv).length=ps.length then fn (ds++dv) M1 else .bad) h
 refine⟨ι,e,M,w,p.mono ?_⟩
 rintro vs H1 ⟨cF,e1,M1,ds,w1,q1,p1⟩
 by_cases z:(ds++dv).length=ps.length
 ·simp only[z,if_true]at p1
  exact⟨cF,ds++dv,M1,z,w1.rl,q1.append hd.dv,p1.toE⟩
 ·simp only[z,if_false]at p1
  exact p1.elim
theorem fV(F:g8 X.prog X.w X.K X.mg X.base (wV X.prog X.w) k f fd ps (spS X.K ct fn ar))(hx:Tk X W)(hr:jT k X.A)(hg:Gl X x)(hm:X.mg x=some (.ref f))(hk:keepIn X.K (.ref f)=true)(hb:Binds X.K fd ps dus)(hd:GJ dv BZ dus)
  (ha:SA X ct W (a::es) ms) (hdb:(x==("__debug__" : Str))=false:=by decide) (he:starEach (a::es) X.env=(false,eval a X.env)::starEach es X.env:=by rfl) (hpl:(backTo pos (starEach es X.env)).any (·.1)=false:=by rfl) (har:ps.length=ar:=by rfl):SE X ct W (.Call (.Name x p) (a::es) [] pos) (j9 fn ar dv ms):=by
 subst har
 exact fX (acF F hr hg hm hk hb hd.vals hx ha hdb he hpl) λσ H Q q=>abG hd q
noncomputable def cC(k:Nat)(m:Str)(d:D)(M:Mem):Bool:=match d with
 | .ref n=>match M[n]? with
  | some (.ins c fs)=>c==k&&(fs.lookup m).isNone
  | _=>false
 | _=>false
noncomputable def aO(k:Nat)(m:Str)(fn:Fn)(ar:Nat)(dv:List D)(mo:ME)(ms:MA):ME:=λe M=>(mo e M).bind λd M1=>if cC k m d M1=true then(ms e M1).bind λds M2=>if(d::(ds++dv)).length=ar then fn (d::(ds++dv)) M2 else .bad else .bad
theorem ac6{K:Frag}{ι:Nat->Addr}{M:Mem}{H:Hp}{k:Nat}{m:Str}{d:D}{v:V}(R:Rl K ct ι M H)(h:cC k m d M=true)(q:DV K ct ι M.length H d v):∃a dx fs,v= .ref a/\H a=some (.ins (ct k) dx fs)/\fs.lookup m=none:=by
 cases d with
 | ref n=>
  obtain⟨hn,rfl⟩:=nC q
  unfold cC at h
  cases z:M[n]? with
  | none=>simp only[z]at h;cases h
  | some o=>
   cases o with
   | ins c fs=>
    simp only[z,Bool.and_eq_true,beq_iff_eq,Option.isNone_iff_eq_none]at h
    obtain⟨rfl,hl⟩:=h
    obtain⟨dx,vs,hH,fv⟩:=R.obj n _ z
    exact⟨_,dx,vs,rfl,hH,fv.afR hl⟩
   | _=>simp only[z]at h;cases h
 | _=>exact absurd h xA
theorem UL(hd:GJ dv BZ dus)(h:tG (eE X.K ct) X.K ct W (aO kc m fn ps.length dv mo ms) σ H Q):
  Ww (ct kc) m (spS X.K ct fn ps.length) BZ W (tG (eE X.K ct) X.K ct W mo) (tG (Hh X.K ct) X.K ct W ms) σ H Q:=by
 obtain⟨ι,e,M,w,p⟩:=b7 (fY:=eE X.K ct) (f:=λd e M1=>if cC kc m d M1=true then(ms e M1).bind λds M2=>if(d::(ds++dv)).length=ps.length then fn (d::(ds++dv)) M2 else .bad else .bad) h
 refine⟨ι,e,M,w,p.mono ?_⟩
 rintro v H1 ⟨cF,e1,M1,d,w1,q1,p1⟩
 cases z:cC kc m d M1 with
 | false=>simp only[z,Bool.false_eq_true,if_false]at p1;exact p1.elim
 | true=>
  simp only[z,if_true]at p1
  obtain⟨a,dx,fs,rfl,hH,hl⟩:=ac6 w1.rl z q1
  refine⟨a,dx,fs,rfl,hH,hl,cF,e1,M1,w1,?_⟩
  cases z2:ms e1 M1 with
  | bad=>simp only[z2,Out.eU]at p1;exact p1
  | exc xc xd xM=>simp only[z2,Out.sr]at p1;exact p1
  | ok ds M2=>
   simp only[z2,Out.d7]at p1
   intro lM vs H2 x2 r2 q2
   by_cases z3:(d::(ds++dv)).length=ps.length
   ·rw[if_pos z3]at p1
    exact⟨lM,_,M2,z3,r2,.cons (q1.mono x2) (q2.append hd.dv),(p1.ext x2).toE⟩
   ·rw[if_neg z3]at p1
    exact p1.elim
variable{o:Expr}{mo:ME}{kc:Nat}{m:Str}{apos:Pos}
theorem cH(he:SE X ct W o mo)(c:Li X.K (ct kc))(hm:Meth X.K (ct kc) m f)(F:g8 X.prog X.w X.K X.mg X.base (wV X.prog X.w) k f fd ps (spS X.K ct fn ar))(hx:Tk X W)(hr:jT k X.A)(hb:Binds X.K fd ps dus)(hd:GJ dv BZ dus)(ha:SA X ct W (a::es) ms)
  (hst:starEach (a::es) X.env=(false,eval a X.env)::starEach es X.env:=by rfl) (hpl:(backTo pos (starEach es X.env)).any (·.1)=false:=by rfl)
  (ht:eval (.Call (.Attribute o m apos) (a::es) [] pos) X.env=(do
   let ov <-eval o X.env
   standAt apos.atName
   let(f,first) <-holding [ov] (getMethod ov m pl)
   callWith pos f first (backTo pos (starEach (a::es) X.env)) (backToKw pos (keywordEach [] X.env))):=by rfl) (har:ps.length=ar:=by rfl):SE X ct W (.Call (.Attribute o m apos) (a::es) [] pos) (aO kc m fn ar dv mo ms):=by
 subst har
 exact fX (acA he c hm F hr hb hd.vals hx ha hst hpl ht) λσ H Q q=>UL hd q
theorem aY(he:SE X ct W o mo)(c:Li X.K (ct kc))(hm:Meth X.K (ct kc) m f)(F:g8 X.prog X.w X.K X.mg X.base (wV X.prog X.w) k f fd ps (spS X.K ct fn ar))(hx:Tk X W)(hr:jT k X.A)(hb:Binds X.K fd ps dus)(hd:GJ dv BZ dus)
  (ht:eval (.Call (.Attribute o m apos) [] [] pos) X.env=(do
   let ov <-eval o X.env
   standAt apos.atName
   let(f,first) <-holding [ov] (getMethod ov m pl)
   callWith pos f first (backTo pos (starEach [] X.env)) (backToKw pos (keywordEach [] X.env))):=by rfl) (har:ps.length=ar:=by rfl):SE X ct W (.Call (.Attribute o m apos) [] [] pos) (aO kc m fn ar dv mo aJ):=by
 subst har
 exact fX (aan he c hm F hr hb hd.vals hx ht) λσ H Q q=>by
  obtain⟨ι,e,M,w,p⟩:=UL hd q
  refine⟨ι,e,M,w,p.mono λv H1 ⟨a,dx,fs,e1,e2,e3,cF,e4,M1,w1,p1⟩=>⟨a,dx,fs,e1,e2,e3,p1 cF [] H1 .refl w1.rl .nil⟩⟩
noncomputable def QH(d:D):Bool:=match d with
 | .non=>true
 | _=>false
noncomputable def wC(kc:Nat)(fn:Fn)(ar:Nat)(dv:List D)(ms:MA):ME:=λe M=>(ms e M).bind λds M1=>if(D.ref M1.length::(ds++dv)).length=ar then(fn (.ref M1.length::(ds++dv)) (M1++[.ins kc []])).bind λr M2=>if QH r=true then .ok (.ref M1.length) M2 else .bad else .bad
theorem UT(hd:GJ dv BZ dus)(h:tG (eE X.K ct) X.K ct W (wC kc fn ps.length dv ms) σ H Q):Wx (ct kc) (spS X.K ct fn ps.length) BZ W (tG (Hh X.K ct) X.K ct W ms) σ H Q:=by
 obtain⟨ι,e,M,w,p⟩:=b7 (fY:=Hh X.K ct) (f:=λds _ M1=>if(D.ref M1.length::(ds++dv)).length=ps.length then(fn (D.ref M1.length::(ds++dv)) (M1++[.ins kc []])).bind λr M2=>if QH r=true then .ok (D.ref M1.length) M2 else .bad else .bad) h
 refine⟨ι,e,M,w,p.mono ?_⟩
 rintro vs H1 ⟨cF,e1,M1,ds,w1,q1,p1⟩
 intro a dx ha hdx ne
 dsimp only at p1
 by_cases z:(D.ref M1.length::(ds++dv)).length=ps.length
 ·rw[if_pos z]at p1
  have ha':upd H1 dx (.own a) a=none:=by rw[aH (Ne.symm ne)];exact ha
  have el:(M1++[MO.ins kc []]).length=M1.length+1:=by simp
  have x1:Ext X.K cF M1.length H1 cF M1.length (upd H1 dx (.own a)):=Ext.fresh hdx
  have r1:Rl X.K ct cF M1 (upd H1 dx (.own a)):=w1.rl.fresh hdx
  have x2:Ext X.K cF M1.length (upd H1 dx (.own a)) (lF cF M1.length a) (M1.length+1) (upd (upd H1 dx (.own a)) a (.ins (ct kc) dx [])):=Ext.new ha'
  have r2:Rl X.K ct (lF cF M1.length a) (M1++[MO.ins kc []]) (upd (upd H1 dx (.own a)) a (.ins (ct kc) dx [])):=r1.new ha' ⟨dx,[],aM,.nil⟩
  have e0:(lF cF M1.length a) M1.length=a:=by unfold lF;rw[if_pos rfl]
  have dv0:DV X.K ct (lF cF M1.length a) (M1++[MO.ins kc []]).length (upd (upd H1 dx (.own a)) a (.ins (ct kc) dx [])) (.ref M1.length) (.ref a):=by
   have:=DV.ref (K:=X.K) (ct:=ct) (ι:=lF cF M1.length a) (n:=(M1++[MO.ins kc []]).length) (H:=upd (upd H1 dx (.own a)) a (.ins (ct kc) dx [])) (i:=M1.length) (by rw[el];lia)
   rw[e0]at this
   exact this
  refine⟨lF cF M1.length a,_,M1++[.ins kc []],z,r2,.cons dv0 ?_,?_⟩
  ·rw[el];exact(q1.append hd.dv).mono (x1.trans x2)
  ·cases z2:fn (.ref M1.length::(ds++dv)) (M1++[.ins kc []])with
   | bad=>rw[z2]at p1;exact p1
   | exc xc xd xM=>
    rw[z2]at p1
    simp only[Out.sr]at p1
    have p2:=(p1.ext (x1.trans x2)).toE
    rw[el]
    exact λPr dx3 v3 H3 x3 r3 q3 q4=>p2 Pr dx3 v3 H3 x3 r3 q3 q4
   | ok r M2=>
    rw[z2]at p1
    simp only[Out.d7]at p1
    intro Pr v3 H3 x3 r3 q3
    cases q3 with
    | non=>
     refine⟨rfl,?_⟩
     simp only[QH,if_true]at p1
     refine p1 Pr (.ref a) H3 ((x1.trans x2).trans (by rw[el]at x3;exact x3)) r3 (dv0.mono x3)
    | _=>exact False.elim p1
 ·rw[if_neg z]at p1
  exact p1.elim
theorem wZ(Mk0:Mk X.K (ct kc) f)(F:g8 X.prog X.w X.K X.mg X.base (wV X.prog X.w) k f fd ps (spS X.K ct fn ar))(hx:Tk X W)(hr:jT (k+1) X.A)(hg:Gl X x)(hm:X.mg x=some (.ref (ct kc)))(hb:Binds X.K fd ps dus)(hd:GJ dv BZ dus)
  (ha:SA X ct W (a::es) ms) (hdb:(x==("__debug__" : Str))=false:=by decide) (he:starEach (a::es) X.env=(false,eval a X.env)::starEach es X.env:=by rfl) (hpl:(backTo pos (starEach es X.env)).any (·.1)=false:=by rfl) (har:ps.length=ar:=by rfl):SE X ct W (.Call (.Name x p) (a::es) [] pos) (wC kc fn ar dv ms):=by
 subst har
 exact fX (acB Mk0 F hr hg hm hb hd.vals hx ha hdb he hpl) λσ H Q q=>UT hd q
theorem U7(Mk0:Mk X.K (ct kc) f)(F:g8 X.prog X.w X.K X.mg X.base (wV X.prog X.w) k f fd ps (spS X.K ct fn ar))(hx:Tk X W)(hr:jT (k+1) X.A)(hg:Gl X x)(hm:X.mg x=some (.ref (ct kc)))(hb:Binds X.K fd ps dus)(hd:GJ dv BZ dus)
  (hdb:(x==("__debug__" : Str))=false:=by decide) (har:ps.length=ar:=by rfl):SE X ct W (.Call (.Name x p) [] [] pos) (wC kc fn ar dv aJ):=by
 subst har
 exact fX (aao Mk0 F hr hg hm hb hd.vals hx hdb) λσ H Q q=>by
  obtain⟨ι,e,M,w,p⟩:=UT hd q
  exact p ι [] H .refl w.rl .nil
abbrev V4:=List D->Mem->Out D
noncomputable def Vr(op:V4)(ms:MA):ME:=λe M=>(ms e M).bind op
def wR(X:Cx)(ct:Nat->Addr)(f:Value)(op:V4):Prop:=∃r,qU X f r/\∀{w:XW} ι M H ds vs Q,Rl X.K ct ι M H->nU X.K ct ι M.length H ds vs->ju (eE X.K ct) X.K ct w ι M.length H (op ds M) Q->r vs H Q
variable{id T:String}{op:V4}
theorem abI{r:List V->Hp->VK->Prop}(hs:∀{w:XW} ι M H ds vs Q,Rl X.K ct ι M H->nU X.K ct ι M.length H ds vs->ju (eE X.K ct) X.K ct w ι M.length H (op ds M) Q->r vs H Q)
  (h:tG (eE X.K ct) X.K ct W (Vr op ms) σ H Q):tCB r (tG (Hh X.K ct) X.K ct W ms) σ H Q:=by
 obtain⟨ι,e,M,w,p⟩:=b7 (fY:=Hh X.K ct) (f:=λds _ M1=>op ds M1) h
 exact⟨ι,e,M,w,p.mono λvs H1 ⟨cF,e1,M1,ds,w1,q1,p1⟩=>hs cF M1 H1 ds vs Q w1.rl q1 p1⟩
theorem uo(h:wR X ct (.builtin id) op)(hg:Gl X x)(hm:X.mg x=none)(hv:bootBuiltins x=some (.builtin id))(ha:SA X ct W (a::es) ms)(hn:x≠ "__name__" := by decide)(hdb:(x==("__debug__" : Str))=false:=by decide)
  (he:starEach (a::es) X.env=(false,eval a X.env)::starEach es X.env:=by rfl) (hpl:(backTo pos (starEach es X.env)).any (·.1)=false:=by rfl):SE X ct W (.Call (.Name x p) (a::es) [] pos) (Vr op ms):=by
 obtain⟨r,hr,hs⟩:=h
 exact fX (Nk hr hg hm hv ha hn hdb he hpl) λσ H Q q=>abI hs q
theorem Cj(h:wR X ct (.type T) op)(hg:Gl X x)(hm:X.mg x=none)(hv:bootBuiltins x=some (.type T))(ha:SA X ct W (a::es) ms)(hn:x≠ "__name__" := by decide)(hdb:(x==("__debug__" : Str))=false:=by decide)
  (he:starEach (a::es) X.env=(false,eval a X.env)::starEach es X.env:=by rfl) (hpl:(backTo pos (starEach es X.env)).any (·.1)=false:=by rfl):SE X ct W (.Call (.Name x p) (a::es) [] pos) (Vr op ms):=by
 obtain⟨r,hr,hs⟩:=h
 exact fX (Jv hr hg hm hv ha hn hdb he hpl) λσ H Q q=>abI hs q
end
section
variable{X:Cx}{ct:Nat->Addr}{W:bf}
theorem rP{K:Frag}{ι:Nat->Addr}{n:Nat}{H:Hp}{i:Int}{v:V}(h:DV K ct ι n H (.int i) v):v= .int i:=by cases h;rfl
theorem Dm{K:Frag}{ι:Nat->Addr}{n:Nat}{H:Hp}{i:Str}{v:V}(h:DV K ct ι n H (.str i) v):v= .str i:=by cases h;rfl
theorem XS{K:Frag}{ι:Nat->Addr}{n:Nat}{H:Hp}{ds:List D}{v:V}(h:DV K ct ι n H (.tup ds) v):∃a xs,v= .ref a/\zG K H a xs/\nU K ct ι n H ds xs:=by cases h with | tup a b=>exact⟨_,_,rfl,zG.of a,b⟩
theorem vI{K:Frag}{ι:Nat->Addr}{n:Nat}{H:Hp}{ds:List D}{v:V}(h:DV K ct ι n H (.tup ds) v):∃a xs,v= .ref a/\H a=some (.tup xs)/\nU K ct ι n H ds xs:=by cases h with | tup a b=>exact⟨_,_,rfl,a,b⟩
noncomputable def uy(M:Mem)(n:Nat):Option (List D):=match M[n]? with
 | some (.lst ds)=>some ds
 | _=>none
theorem g_(h:M[n]? = some (.lst ds)):uy M n=some ds:=by unfold uy;rw[h]
theorem vR:uy M n=some ds↔M[n]? = some (.lst ds):=by
 refine⟨λh=> ?_,g_⟩
 unfold uy at h
 split at h
 ·rename_i e;cases h;exact e
 ·cases h
noncomputable def Ms(M:Mem)(d:D):Option (List D):=match d with
 | .ref n=>uy M n
 | .cl ds=>some ds
 | _=>none
theorem Rl.seq{K:Frag}{ι:Nat->Addr}{M:Mem}{H:Hp}(R:Rl K ct ι M H){d:D}{v:V}{ds:List D}(h:Ms M d=some ds)(q:DV K ct ι M.length H d v):∃a xs,v= .ref a/\Ew K H a xs/\nU K ct ι M.length H ds xs:=by
 cases q with
 | @ref i hi=>obtain⟨vs,q,r⟩:=R.obj i _ (vR.mp h);exact⟨_,vs,rfl,Ew.of q,r⟩
 | cl h1 h2=>cases h;exact⟨_,_,rfl,h1.sq,h2⟩
 | _=>cases h
noncomputable def Th(C:Int->Int->Bool)(g:Int->Int->D):yI:=λd e M=>match d,e with
 | .int i,.int j=>if C i j=true then .ok (g i j) M else .bad
 | _,_=> .bad
theorem Y8{P:Int->Int->Prop}(hP:∀i j,C i j=true->P i j)(hg:∀(K:Frag) ι n H i j,DV K ct ι n H (g i j) (gv i j)):Ur X.K ct (Th C g) (rI P gv):=by
 intro w ι M H d d' v v' Q R h h' p
 cases d with
 | int i=>
  cases d' with
  | int j=>
   cases rP h
   cases rP h'
   simp only[Th]at p
   cases z:C i j with
   | false=>simp only[z,Bool.false_eq_true,if_false]at p;exact p.elim
   | true=>
    simp only[z,if_true]at p
    exact⟨i,j,rfl,rfl,hP i j z,p ι _ H .refl R (hg _ _ _ _ _ _)⟩
  | _=>exact p.elim
 | _=>cases d'<;>exact p.elim
noncomputable def C1:Int->Int->Bool:=λ_ _=>true
theorem agJ(h:rI (λ_ _=>True) g x y H Q):rI0 g x y H Q:=let⟨i,j,a,b,_,q⟩:=h;⟨i,j,a,b,q⟩
theorem Ur.imp{K:Frag}{op:yI}{r r':R2}(h:Ur K ct op r)(i:∀x y H Q,r x y H Q->r' x y H Q):Ur K ct op r':=λι M H d d' v v' Q R a b p=>i _ _ _ _ (h ι M H d d' v v' Q R a b p)
theorem uJ(h:Bg X f (rI0 gv))(hg:∀(K:Frag) ι n H i j,DV K ct ι n H (g i j) (gv i j)):m_ X ct f (Th C1 g):=
 ⟨_,h,Ur.imp (Y8 (P:=λ_ _=>True) (λ_ _ _=>trivial) hg) λ_ _ _ _ q=>agJ q⟩
theorem Eu{P:Int->Int->Prop}(h:Bg X f (rI P gv))(hP:∀i j,C i j=true->P i j)(hg:∀(K:Frag) ι n H i j,DV K ct ι n H (g i j) (gv i j)):m_ X ct f (Th C g):=
 ⟨_,h,Y8 hP hg⟩
noncomputable def Cv(a b:yI):yI:=λd e M=>match a d e M with
 | .bad=>b d e M
 | o=>o
theorem Ur.or{K:Frag}{a b:yI}{r r':R2}(ha:Ur K ct a r)(hb:Ur K ct b r'):Ur K ct (Cv a b) (λx y H Q=>r x y H Q\/r' x y H Q):=by
 intro w ι M H d d' v v' Q R q q' p
 unfold Cv at p
 cases z:a d d' M with
 | ok x M1=>rw[z]at p;exact .inl (ha ι M H d d' v v' Q R q q' (by rw[z];exact p))
 | exc xc xd xM=>rw[z]at p;exact .inl (ha ι M H d d' v v' Q R q q' (by rw[z];exact p))
 | bad=>rw[z]at p;exact .inr (hb ι M H d d' v v' Q R q q' p)
theorem tO(h:a d e M= .ok x M'):Cv a b d e M= .ok x M':=by unfold Cv;rw[h]
theorem Vi(h:a d e M= .bad):Cv a b d e M=b d e M:=by unfold Cv;rw[h]
theorem m_.or(ha:m_ X ct f a)(hb:m_ X ct f b):m_ X ct f (Cv a b):=by
 obtain⟨r,h,hs⟩:=ha
 obtain⟨r',h',hs'⟩:=hb
 refine⟨_,h.or h',λι M H d d' v v' Q R q q' p=> ?_⟩
 unfold Cv at p
 cases z:a d d' M with
 | ok x M1=>rw[z]at p;exact .inl (hs ι M H d d' v v' Q R q q' (by rw[z];exact p))
 | exc xc xd xM=>rw[z]at p;exact .inl (hs ι M H d d' v v' Q R q q' (by rw[z];exact p))
 | bad=>rw[z]at p;exact .inr (hs' ι M H d d' v v' Q R q q' p)
noncomputable def aiW(i j:Int):Bool:=decide ((-(2 ^ 64)<i/\i<2 ^ 64)\/(-(2 ^ 64)<j/\j<2 ^ 64))
noncomputable def aiX(_ j:Int):Bool:=decide (0<j/\j<1073741824)
noncomputable def aqx(_ j:Int):Bool:=decide (0<j)
noncomputable def aa7(i j:Int):Bool:=decide (0<=j/\j<=1000000/\i.natAbs<2 ^ 64)
noncomputable def aqw(_ j:Int):Bool:=decide (0<=j)
noncomputable def afF:yI:=Th C1 λi j=> .int (i+j)
noncomputable def abW:yI:=Th C1 λi j=> .int (i - j)
noncomputable def ab2:yI:=Th aiW λi j=> .int (i*j)
noncomputable def Vb:yI:=Th aiX λi j=> .int (i / j)
noncomputable def Gm:yI:=Th aqx λi j=> .int (i % j)
noncomputable def abY:yI:=Th aa7 λi j=> .int (i ^ j.toNat)
noncomputable def Ez:yI:=Th aa7 λi j=> .int (i*2 ^ j.toNat)
noncomputable def U9:yI:=Th aqw λi j=> .int (i / 2 ^ j.toNat)
noncomputable def aaa:yI:=Th C1 λi j=> .int (Builtin.bitAnd i j)
noncomputable def sOr:yI:=Th C1 λi j=> .int (Builtin.bitOr i j)
noncomputable def aj3:yI:=Th C1 λi j=> .bl (decide (i<j))
noncomputable def agy:yI:=Th C1 λi j=> .bl (decide (i<=j))
noncomputable def WT:yI:=Th C1 λi j=> .bl (decide (j<i))
noncomputable def Z_:yI:=Th C1 λi j=> .bl (decide (j<=i))
theorem afm:m_ X ct (binaryOp .Add) afF:=uJ ahm λ_ _ _ _ _ _=> .int _
theorem Yc:m_ X ct (binaryOp .Sub) abW:=uJ ag9 λ_ _ _ _ _ _=> .int _
theorem afj:m_ X ct (binaryOp .Mult) ab2:=Eu ahe (λi j h=>by unfold aiW at h;exact(decide_eq_true_eq.mp h :)) λ_ _ _ _ _ _=> .int _
theorem ady:m_ X ct (binaryOp .FloorDiv) Vb:=Eu aev (λi j h=>by unfold aiX at h;exact(decide_eq_true_eq.mp h :)) λ_ _ _ _ _ _=> .int _
theorem Pb:m_ X ct (binaryOp .Mod) Gm:=Eu ahf (λ_ _ h=>of_decide_eq_true h) λ_ _ _ _ _ _=> .int _
theorem aiP:m_ X ct (binaryOp .Pow) abY:=Eu ahc (λi j h=>by unfold aa7 at h;exact(decide_eq_true_eq.mp h :)) λ_ _ _ _ _ _=> .int _
theorem Pa:m_ X ct (binaryOp .LShift) Ez:=Eu ahb (λi j h=>by unfold aa7 at h;exact(decide_eq_true_eq.mp h :)) λ_ _ _ _ _ _=> .int _
theorem adw:m_ X ct (binaryOp .RShift) U9:=Eu aha (λ_ _ h=>of_decide_eq_true h) λ_ _ _ _ _ _=> .int _
theorem Ye:m_ X ct (binaryOp .BitAnd) aaa:=uJ ahl λ_ _ _ _ _ _=> .int _
theorem af4:m_ X ct (binaryOp .BitOr) sOr:=uJ alq λ_ _ _ _ _ _=> .int _
theorem aqs:m_ X ct (compareOp .Lt) aj3:=uJ alr λ_ _ _ _ _ _=> .bl _
theorem aqt:m_ X ct (compareOp .LtE) agy:=uJ als λ_ _ _ _ _ _=> .bl _
theorem VR:m_ X ct (compareOp .Gt) WT:=uJ alu λ_ _ _ _ _ _=> .bl _
theorem Zy:m_ X ct (compareOp .GtE) Z_:=uJ alv λ_ _ _ _ _ _=> .bl _
noncomputable def ad5:yI:=λd e M=>match d,e with
 | .ref n,.ref m=>match M[n]?,M[m]? with
  | some (.lst xs),some (.lst ys)=>if xs.length+ys.length<=sizeLine then .ok (.ref M.length) (M++[.lst (xs++ys)])else .bad
  | _,_=> .bad
 | _,_=> .bad
theorem aiU:m_ X ct (binaryOp .Add) ad5:=by
 refine⟨_,ahk,λι M H d d' v v' Q R h h' p=> ?_⟩
 cases d with
 | ref n=>
  cases d' with
  | ref m=>
   obtain⟨_,rfl⟩:=nC h
   obtain⟨_,rfl⟩:=nC h'
   simp only[ad5]at p
   split at p
   ·rename_i xs ys e1 e2
    split at p
    ·rename_i hz
     obtain⟨vs,q,r⟩:=R.obj n _ e1
     obtain⟨vs',q',r'⟩:=R.obj m _ e2
     exact⟨_,_,vs,vs',rfl,rfl,q,q',by rw[r.length,r'.length];exact hz,λpp hp=>rm R (r.append r') hp p⟩
    ·exact p.elim
   ·exact p.elim
  | _=>exact p.elim
 | _=>cases d'<;>exact p.elim
noncomputable def ab9:yI:=λd e M=>match d,e with
 | .str a,.str b=>if a.length+b.length<=sizeLine then .ok (.str (a++b)) M else .bad
 | _,_=> .bad
theorem afl:m_ X ct (binaryOp .Add) ab9:=by
 refine⟨_,W9,λι M H d d' v v' Q R h h' p=> ?_⟩
 unfold ab9 at p
 split at p
 ·cases Dm h
  cases Dm h'
  split at p
  ·rename_i hz
   exact⟨_,_,rfl,rfl,hz,p ι _ H .refl R (.str _)⟩
  ·exact p.elim
 ·exact p.elim
noncomputable def ab1:yI:=λd e M=>match d,e with
 | .str a,.int n=>if a.length<=1000/\ -(2 ^ 62)<n/\n<=1000 then .ok (.str (PySem.Txt.mul a n)) M else .bad
 | _,_=> .bad
theorem afi:m_ X ct (binaryOp .Mult) ab1:=by
 refine⟨_,W8,λι M H d d' v v' Q R h h' p=> ?_⟩
 unfold ab1 at p
 split at p
 ·cases Dm h
  cases rP h'
  split at p
  ·rename_i hz
   exact⟨_,_,rfl,rfl,mulOk_of hz.1 hz.2.1 hz.2.2,p ι _ H .refl R (.str _)⟩
  ·exact p.elim
 ·exact p.elim
noncomputable def ad2:yI:=Cv ab2 ab1
theorem aiQ:m_ X ct (binaryOp .Mult) ad2:=afj.or afi
noncomputable def ab8:yI:=λd e M=>match d,e with
 | .tup xs,.tup ys=>if xs.isEmpty=false/\xs.length+ys.length<=sizeLine then .ok (.tup (xs++ys)) M else .bad
 | _,_=> .bad
theorem afk:m_ X ct (binaryOp .Add) ab8:=by
 refine⟨_,aew,λι M H d d' v v' Q R h h' p=> ?_⟩
 unfold ab8 at p
 split at p
 ·rename_i xs ys
  obtain⟨a,vs,rfl,ha,hd⟩:=vI h
  obtain⟨b,us,rfl,hb,hd'⟩:=vI h'
  split at p
  ·rename_i hz
   have l1:=hd.length
   have l2:=hd'.length
   refine⟨a,b,vs,us,rfl,rfl,zG.of ha,zG.of hb,λz=> ?_,(),λz=> ?_,λ_ pp hp=>Hi R (hd.append hd') hp p⟩
   ·rw[z]at l1
    have:=hz.1
    cases xs with
    | nil=>cases this
    | cons _ _=>simp at l1
   ·subst z
    have e:ys=[]:=List.length_eq_zero_iff.mp l2.symm
    subst e
    rw[List.append_nil]at p
    exact p ι _ H .refl R (.tup ha hd)
  ·exact p.elim
 ·exact p.elim
noncomputable def vf:yI:=Cv (Cv afF ad5) (Cv ab9 ab8)
theorem pO:m_ X ct (binaryOp .Add) vf:=(afm.or aiU).or (afl.or afk)
noncomputable def agx:yI:=λd e M=>match d,e with
 | .str a,.str b=> .ok (.bl (decide (a.cps.toList<b.cps.toList))) M
 | _,_=> .bad
theorem aiS:m_ X ct (compareOp .Lt) agx:=by
 refine⟨_,aat,λι M H d d' v v' Q R h h' p=> ?_⟩
 unfold agx at p
 split at p
 ·cases Dm h
  cases Dm h'
  exact⟨_,_,rfl,rfl,p ι _ H .refl R (.bl _)⟩
 ·exact p.elim
noncomputable def Cg:List D->Option (List Int)
 | []=>some []
 | .int i::r=>(Cg r).map (i:: ·)
 | _=>none
theorem Dz{K:Frag}{ι:Nat->Addr}{n:Nat}{H:Hp}:∀{ds:List D} {is:List Int} {vs:List V},Cg ds=some is->nU K ct ι n H ds vs->vs=is.map V.int
 | [],_,_,h,.nil=>by cases h;rfl
 | d::r,is,_,h,.cons q qs=>by
  cases q with
  | int i=>
   simp only[Cg]at h
   obtain⟨js,h1,rfl⟩:=Option.map_eq_some_iff.mp h
   rw[Dz h1 qs]
   rfl
  | _=>simp only[Cg]at h;cases h
noncomputable def agw:yI:=λd e M=>match d,e with
 | .tup xs,.tup ys=>match Cg xs,Cg ys with
  | some is,some js=> .ok (.bl (HT.lexLt is js)) M
  | _,_=> .bad
 | _,_=> .bad
theorem aiR(hu:X.A.units+64<cLine):m_ X ct (compareOp .Lt) agw:=by
 refine⟨_,ahg (),λι M H d d' v v' Q R h h' p=> ?_⟩
 unfold agw at p
 split at p
 ·obtain⟨a,vs,rfl,ha,hd⟩:=vI h
  obtain⟨b,us,rfl,hb,hd'⟩:=vI h'
  split at p
  ·rename_i is js e1 e2
   have x1:=Dz e1 hd
   have x2:=Dz e2 hd'
   subst x1 x2
   exact⟨a,b,is,js,rfl,rfl,zG.of ha,zG.of hb,p ι _ H .refl R (.bl _)⟩
  ·exact p.elim
 ·exact p.elim
noncomputable def sLt:yI:=Cv (Cv aj3 agx) agw
theorem Yd(hu:X.A.units+64<cLine):m_ X ct (compareOp .Lt) sLt:=(aqs.or aiS).or (aiR hu)
noncomputable def agv:D->Mem->Out D:=λd M=>match d with
 | .int i=> .ok (.int (-i)) M
 | _=> .bad
theorem agc:UnS X ct (unaryOp .USub) agv:=⟨_,agd,λι M H d v Q R h p=>by
 cases d with
 | int i=>cases rP h;exact⟨i,rfl,p ι _ H .refl R (.int _)⟩
 | _=>exact p.elim⟩
noncomputable def Hx(f:D->Option Dt):List D->Option (List Dt)
 | []=>some []
 | d::ds=>match f d,Hx f ds with
  | some t,some ts=>some (t::ts)
  | _,_=>none
noncomputable def pH(M:Mem):Nat->D->Option Dt
 | 0,_=>none
 | k+1,d=>match d with
  | .non=>some .non
  | .bl b=>some (.bl b)
  | .int i=>some (.int i)
  | .str x=>some (.str x)
  | .tup ds=>(Hx (pH M k) ds).map .tup
  | .ref n=>match uy M n with
   | some ds=>(Hx (pH M k) ds).map .lst
   | none=>none
  | .cl ds=>(Hx (pH M k) ds).map .lst
  | .ty _=>none
  | .cls _=>none
  | .exc _ _=>none
  | .fn _ _=>none
  | .X5 _=>none
theorem Lx{K:Frag}{ι:Nat->Addr}{n:Nat}{H:Hp}{k:Nat}{f:D->Option Dt}(hf:∀d t v,f d=some t->DV K ct ι n H d v->Is K H v t/\dep t<=k):
  ∀{ds:List D} {ts:List Dt} {vs:List V},Hx f ds=some ts->nU K ct ι n H ds vs->Wb K H vs ts/\deps ts<=k
 | [],ts,_,h,.nil=>by cases h;exact⟨.nil,by unfold deps;exact Nat.zero_le _⟩
 | d::ds,ts,_,h,.cons q qs=>by
  simp only[Hx]at h
  cases z:f d with
  | none=>rw[z]at h;cases h
  | some t=>
   cases z2:Hx f ds with
   | none=>rw[z,z2]at h;cases h
   | some ts'=>
    rw[z,z2]at h
    cases h
    obtain⟨a,b⟩:=hf d t _ z q
    obtain⟨a',b'⟩:=Lx hf z2 qs
    exact⟨.cons a a',by unfold deps;exact Nat.max_le.mpr ⟨b,b'⟩⟩
theorem G3{K:Frag}{ι:Nat->Addr}{M:Mem}{H:Hp}(R:Rl K ct ι M H):∀(k:Nat) (d:D) (t:Dt) (v:V),pH M k d=some t->DV K ct ι M.length H d v->Is K H v t/\dep t<=k
 | 0,d,t,v,h,_=>by simp only[pH]at h;cases h
 | k+1,d,t,v,h,q=>by
  cases q with
  | non=>simp only[pH]at h;cases h;exact⟨.non,by unfold dep;exact Nat.zero_le _⟩
  | bl b=>simp only[pH]at h;cases h;exact⟨.bl b,by unfold dep;exact Nat.zero_le _⟩
  | int b=>simp only[pH]at h;cases h;exact⟨.int b,by unfold dep;exact Nat.zero_le _⟩
  | str b=>simp only[pH]at h;cases h;exact⟨.str b,by unfold dep;exact Nat.zero_le _⟩
  | ty b=>simp only[pH]at h;cases h
  | cls b=>simp only[pH]at h;cases h
  | exc _ _ _=>simp only[pH]at h;cases h
  | fn _ _ _ _ _ _=>simp only[pH]at h;cases h
  | X5 _ _=>simp only[pH]at h;cases h
  | @tup a xs ds hs hd=>
   simp only[pH]at h
   cases z:Hx (pH M k) ds with
   | none=>rw[z]at h;cases h
   | some ts=>
    rw[z]at h
    cases h
    obtain⟨a,b⟩:=Lx (λd t v=>G3 R k d t v) z hd
    exact⟨.tup (zG.of hs) a,by unfold dep;lia⟩
  | @ref i hi=>
   simp only[pH]at h
   cases z0:uy M i with
   | none=>rw[z0]at h;cases h
   | some ds=>
    rw[z0]at h
    obtain⟨xs,hs,hd⟩:=R.obj i _ (vR.mp z0)
    cases z:Hx (pH M k) ds with
    | none=>simp only[z]at h;cases h
    | some ts=>
     simp only[z]at h
     cases h
     obtain⟨a,b⟩:=Lx (λd t v=>G3 R k d t v) z hd
     exact⟨.lst (Ew.of hs) a,by unfold dep;lia⟩
  | @cl a xs ds hs hd=>
   simp only[pH]at h
   cases z:Hx (pH M k) ds with
   | none=>rw[z]at h;cases h
   | some ts=>
    rw[z]at h
    cases h
    obtain⟨a,b⟩:=Lx (λd t v=>G3 R k d t v) z hd
    exact⟨.lst hs.sq a,by unfold dep;lia⟩
noncomputable def Zt(M:Mem)(d e:D):Option Bool:=match pH M 12 d,pH M 12 e with
 | some a,some b=>some (pN a b)
 | _,_=>none
noncomputable def sEq:yI:=λd e M=>match Zt M d e with
 | some b=> .ok (.bl b) M
 | none=> .bad
noncomputable def sNe:yI:=λd e M=>match Zt M d e with
 | some b=> .ok (.bl (!b)) M
 | none=> .bad
theorem adh{K:Frag}{ι:Nat->Addr}{M:Mem}{H:Hp}{d e:D}{v u:V}{b:Bool}(R:Rl K ct ι M H)(h:Zt M d e=some b)(q:DV K ct ι M.length H d v)(q':DV K ct ι M.length H e u):∃x y,Is K H v x/\Is K H u y/\dep x<=20/\b=pN x y:=by
 unfold Zt at h
 cases z:pH M 12 d with
 | none=>rw[z]at h;cases h
 | some x=>
  cases z2:pH M 12 e with
  | none=>rw[z,z2]at h;cases h
  | some y=>
   rw[z,z2]at h
   cases h
   obtain⟨a,c⟩:=G3 R 12 d x v z q
   obtain⟨a',_⟩:=G3 R 12 e y u z2 q'
   exact⟨x,y,a,a',(),rfl⟩
theorem wO(hu:X.A.units+64<cLine):m_ X ct (compareOp .Eq) sEq:=by
 refine⟨_,ahi hu,λι M H d d' v v' Q R h h' p=> ?_⟩
 unfold sEq at p
 cases z:Zt M d d' with
 | none=>rw[z]at p;exact p.elim
 | some b=>
  rw[z]at p
  obtain⟨x,y,a,a',hd,rfl⟩:=adh R z h h'
  exact⟨x,y,a,a',hd,p ι _ H .refl R (.bl _)⟩
theorem Dq(hu:X.A.units+64<cLine):m_ X ct (compareOp .NotEq) sNe:=by
 refine⟨_,ahd hu,λι M H d d' v v' Q R h h' p=> ?_⟩
 unfold sNe at p
 cases z:Zt M d d' with
 | none=>rw[z]at p;exact p.elim
 | some b=>
  rw[z]at p
  obtain⟨x,y,a,a',hd,rfl⟩:=adh R z h h'
  exact⟨x,y,a,a',hd,p ι _ H .refl R (.bl _)⟩
noncomputable def isN(d:D):Bool:=match d with
 | .non=>true
 | _=>false
theorem ac5{K:Frag}{ι:Nat->Addr}{n:Nat}{H:Hp}{d:D}{v:V}(q:DV K ct ι n H d v):decide (v= .non)=isN d:=by
 cases q<;>simp[isN]
noncomputable def sIs:yI:=λd e M=>match e with
 | .non=> .ok (.bl (isN d)) M
 | _=> .bad
noncomputable def M5:yI:=λd e M=>match e with
 | .non=> .ok (.bl (!isN d)) M
 | _=> .bad
theorem aqu:m_ X ct (compareOp .Is) sIs:=by
 refine⟨_,ahh,λι M H d d' v v' Q R h h' p=> ?_⟩
 cases h' with
 | non=>exact⟨rfl,p ι _ H .refl R (by rw[ac5 h];exact .bl _)⟩
 | _=>exact p.elim
theorem VP:m_ X ct (compareOp .IsNot) M5:=by
 refine⟨_,aeu,λι M H d d' v v' Q R h h' p=> ?_⟩
 cases h' with
 | non=>exact⟨rfl,p ι _ H .refl R (by rw[ac5 h];exact .bl _)⟩
 | _=>exact p.elim
theorem nU.Ug{K:Frag}{ι:Nat->Addr}{n:Nat}{H:Hp}{ds:List D}{vs:List V}{i:Int}{d:D}(h:nU K ct ι n H ds vs)(e:L2.Ug ds i=some d):∃v,L2.Ug vs i=some v/\DV K ct ι n H d v:=by
 unfold L2.Ug at*
 rw[h.length]
 cases z:ixN ds.length i with
 | none=>rw[z]at e;cases e
 | some j=>rw[z]at e;exact h.at e
variable{a b:Expr}{ma mb:ME}{pos:Pos}
section
variable{κ:Type}[DecidableEq κ]
noncomputable def Ce(kvs:List (κ×D))(k:κ):Option D:=(kvs.find? λkv=>decide (kv.1=k)).map (·.2)
noncomputable def aag(kvs:List (κ×D))(k:κ)(d:D):List (κ×D):=if(kvs.any λkv=>decide (kv.1=k))=true then kvs.map (λkv=>if kv.1=k then(kv.1,d)else kv)else kvs++[(k,d)]
variable{K:Frag}{ι:Nat->Addr}{n:Nat}{H:Hp}
theorem Du.val:∀{kvs:List (κ×D)} {vs:List (κ×V)},Du K ct ι n H kvs vs->∀k,(∀d,Ce kvs k=some d->∃v,Ey vs k=some v/\DV K ct ι n H d v)/\(Ce kvs k=none->Ey vs k=none)
 | _,_,.nil,k=>⟨λd h=>by simp[Ce]at h,λ_=>rfl⟩
 | _,_,.cons (x:=x) (d:=d) (v:=v) (fs:=fs) h hs,k=>by
  by_cases e:x=k
  ·have e1:Ce ((x,d)::fs) k=some d:=by simp[Ce,e]
   rw[e1,GR (p:=(x,v)) e]
   exact⟨λd' q=>by cases q;exact⟨_,rfl,h⟩,λq=>by cases q⟩
  ·have e1:Ce ((x,d)::fs) k=Ce fs k:=by simp[Ce,e]
   rw[e1,GX (p:=(x,v)) e]
   exact hs.val k
theorem Du.any:∀{kvs:List (κ×D)} {vs:List (κ×V)},Du K ct ι n H kvs vs->∀k,(vs.any λkv=>decide (kv.1=k))=(kvs.any λkv=>decide (kv.1=k))
 | _,_,.nil,_=>rfl
 | _,_,.cons _ hs,k=>by simp only[List.any_cons,hs.any k]
theorem Du.repl(hd:DV K ct ι n H d v)(k:κ):∀{kvs:List (κ×D)} {vs:List (κ×V)},Du K ct ι n H kvs vs->Du K ct ι n H (kvs.map λkv=>if kv.1=k then(kv.1,d)else kv) (vs.map λkv=>if kv.1=k then(kv.1,v)else kv)
 | _,_,.nil=> .nil
 | _,_,.cons (x:=x) h hs=>by
  simp only[List.map_cons]
  by_cases e:x=k
  ·rw[if_pos e,if_pos e];exact .cons hd (hs.repl hd k)
  ·rw[if_neg e,if_neg e];exact .cons h (hs.repl hd k)
theorem Du.snoc(hd:DV K ct ι n H d v)(k:κ):∀{kvs:List (κ×D)} {vs:List (κ×V)},Du K ct ι n H kvs vs->Du K ct ι n H (kvs++[(k,d)]) (vs++[(k,v)])
 | _,_,.nil=> .cons hd .nil
 | _,_,.cons h hs=> .cons h (hs.snoc hd k)
theorem Du.put(h:Du K ct ι n H kvs vs)(hd:DV K ct ι n H d v)(k:κ):Du K ct ι n H (aag kvs k d) (putK vs k v):=by
 unfold aag putK
 rw[h.any k]
 split
 ·exact h.repl hd k
 ·exact h.snoc hd k
end
noncomputable def toKey:D->Option Key
 | .int i=>some (.inl i)
 | .str s=>some (.inr s)
 | _=>none
noncomputable def toKeys:List D->Option (List Key)
 | []=>some []
 | d::r=>match toKey d,toKeys r with
  | some k,some ks=>some (k::ks)
  | _,_=>none
section
variable{K:Frag}{ι:Nat->Addr}{n:Nat}{H:Hp}
theorem Mi(h:toKey d=some k)(q:DV K ct ι n H d v):v=kV k:=by
 cases q<;>simp only[toKey]at h<;>cases h<;>rfl
theorem yO:∀{ds:List D} {ks:List Key} {vs:List V},toKeys ds=some ks->nU K ct ι n H ds vs->vs=ks.map kV
 | [],ks,_,h,.nil=>by cases h;rfl
 | d::r,ks,_,h,.cons q qs=>by
  simp only[toKeys]at h
  cases z:toKey d with
  | none=>rw[z]at h;cases h
  | some k=>
   cases z2:toKeys r with
   | none=>rw[z,z2]at h;cases h
   | some kr=>
    rw[z,z2]at h
    cases h
    rw[Mi z q,yO z2 qs]
    rfl
end
noncomputable def X4(M:Mem)(n:Nat)(y:D):Option (Option D×Mem):=match M[n]? with
 | some (.dk kvs)=>match toKey y with
  | some k=>some (Ce kvs k,M)
  | none=>match y with
   | .tup ds=>match toKeys ds with
    | some _=>if kvs.isEmpty=true then some (none,M.set n (.dt []))else none
    | none=>none
   | _=>none
 | some (.dt kvs)=>match y with
  | .tup ds=>match toKeys ds with
   | some k=>some (Ce kvs k,M)
   | none=>none
  | _=>none
 | _=>none
theorem Zw{K:Frag}{ι:Nat->Addr}{M M':Mem}{H:Hp}{n:Nat}{y:D}{vy:V}{o:Option D}(R:Rl K ct ι M H)(h:X4 M n y=some (o,M'))(hn:n<M.length)(q:DV K ct ι M.length H y vy):
  ∃ov H',afu H (ι n) vy ov H'/\Ext K ι M.length H ι M'.length H'/\Rl K ct ι M' H'/\(∀d,o=some d->∃v,ov=some v/\DV K ct ι M'.length H' d v/\H'=H/\M'=M)/\(o=none->ov=none):=by
 unfold X4 at h
 split at h
 ·rename_i kvs e
  obtain⟨vs,hH,pv⟩:=R.obj n _ e
  split at h
  ·rename_i k ek
   cases h
   have ey:=Mi ek q
   subst ey
   refine⟨Ey vs k,H,.inl ⟨Lh.k hH,rfl⟩,.refl,R,λd hd=> ?_,λhd=>(pv.val k).2 hd⟩
   obtain⟨v,h1,h2⟩:=(pv.val k).1 d hd
   exact⟨v,h1,h2,rfl,rfl⟩
  ·split at h
   ·rename_i ds
    split at h
    ·rename_i ks eks
     split at h
     ·rename_i hem
      cases h
      have ek:kvs=[]:=List.isEmpty_iff.mp hem
      subst ek
      cases pv
      obtain⟨b,xs,rfl,hb,hd⟩:=vI q
      have ex:=yO eks hd
      subst ex
      have x2:Ext K ι M.length H ι M.length (upd H (ι n) (.dT [])):=Ext.chg hH (λ_ z=>nomatch z) (λ_ _ z=>nomatch z)
      refine⟨none,upd H (ι n) (.dT []),.inr ⟨hH,⟨ks,b,rfl,hb⟩,rfl,rfl⟩,by rw[List.length_set];exact x2,R.chg hn hH (λ_ z=>nomatch z) (λ_ _ z=>nomatch z) ⟨[],aM,.nil⟩,(λd hd=>nomatch hd),λ_=>rfl⟩
     ·cases h
    ·cases h
   ·cases h
 ·rename_i kvs e
  obtain⟨vs,hH,pv⟩:=R.obj n _ e
  split at h
  ·rename_i ds
   split at h
   ·rename_i ks eks
    cases h
    obtain⟨b,xs,rfl,hb,hd⟩:=vI q
    have ex:=yO eks hd
    subst ex
    refine⟨Ey vs ks,H,.inl ⟨Lh.t hH hb,rfl⟩,.refl,R,λd hd=> ?_,λhd=>(pv.val ks).2 hd⟩
    obtain⟨v,h1,h2⟩:=(pv.val ks).1 d hd
    exact⟨v,h1,h2,rfl,rfl⟩
   ·cases h
  ·cases h
 ·cases h
noncomputable def ad4:yI:=λd y M=>match d with
 | .ref n=>match X4 M n y with
  | some (some v,_)=> .ok v M
  | _=> .bad
 | _=> .bad
theorem ag6{K:Frag}:Ur K ct ad4 akk:=by
 intro w ι M H d d' v v' Q R h h' p
 cases d with
 | ref n=>
  obtain⟨hn,rfl⟩:=nC h
  simp only[ad4]at p
  split at p
  ·rename_i x M' e
   obtain⟨ov,H',g,_,_,h1,_⟩:=Zw R e hn h'
   obtain⟨vx,rfl,dv,rfl,rfl⟩:=h1 x rfl
   rcases g with⟨g,_⟩ | ⟨_,_,z,_⟩
   ·exact⟨_,vx,rfl,g,p ι vx _ .refl R dv⟩
   ·cases z
  ·exact p.elim
 | _=>exact p.elim
noncomputable def U_:yI:=λd e M=>match e with
 | .int i=>match d with
  | .tup ds=>match L2.Ug ds i with
   | some x=> .ok x M
   | none=> .bad
  | d=>match Ms M d with
   | some ds=>match L2.Ug ds i with
    | some x=> .ok x M
    | none=> .bad
   | none=> .bad
 | _=> .bad
theorem ag5:Ur X.K ct U_ (λx y H Q=>akj X.K x y H Q\/akh X.K x y H Q):=by
 intro w ι M H d d' v v' Q R h h' p
 cases d' with
 | int i=>
  cases rP h'
  cases d with
  | tup ds=>
   obtain⟨aa,xs,rfl,hs,hd⟩:=XS h
   simp only[U_]at p
   cases z:L2.Ug ds i with
   | none=>rw[z]at p;exact p.elim
   | some x=>
    rw[z]at p
    obtain⟨v,e,dv⟩:=hd.Ug z
    exact .inr ⟨_,_,_,_,rfl,rfl,hs,e,p ι v H .refl R dv⟩
  | _=>
   simp only[U_]at p
   split at p
   ·rename_i ds z0
    obtain⟨aa,xs,rfl,hs,hd⟩:=R.seq z0 h
    cases z:L2.Ug ds i with
    | none=>rw[z]at p;exact p.elim
    | some x=>
     rw[z]at p
     obtain⟨v,e,dv⟩:=hd.Ug z
     exact .inl ⟨_,_,_,_,rfl,rfl,hs,e,p ι v H .refl R dv⟩
   ·exact p.elim
 | _=>exact p.elim
noncomputable def agB:yI:=λd e M=>match d,e with
 | .str z,.int i=>match L2.Ug z.cps.toList i with
  | some c=>if z.length<=sizeLine then .ok (.str ⟨#[c]⟩) M else .bad
  | none=> .bad
 | _,_=> .bad
theorem ag4{K:Frag}:Ur K ct agB aki:=by
 intro w ι M H d d' v v' Q R h h' p
 unfold agB at p
 split at p
 ·rename_i z i
  cases Dm h
  cases rP h'
  cases e:L2.Ug z.cps.toList i with
  | none=>rw[e]at p;exact p.elim
  | some c=>
   rw[e]at p
   dsimp only at p
   split at p
   ·rename_i hz
    exact⟨z,i,c,rfl,rfl,hz,e,p ι _ H .refl R (.str _)⟩
   ·exact p.elim
 ·exact p.elim
noncomputable def jg:yI:=Cv (Cv U_ ad4) agB
theorem mY(hu:X.A.units+64<cLine)(ha:SE X ct W a ma)(hb:SE X ct W b mb)(hs:ZG b:=by exact λ_ _=>rfl):SE X ct W (.Subscript a b pos) (aR jg ma mb):=
 fX (aln (((aeS.or ahM).or (aeT ())).or ahN) ha hb hs) λσ H Q q=>Rn (Ur.or (Ur.or ag5 ag6) ag4) q
noncomputable def ab6(neg:Bool):yI:=λy x M=>match x with
 | .ref n=>match X4 M n y with
  | some (o,M')=> .ok (.bl (if neg=true then !o.isSome else o.isSome)) M'
  | none=> .bad
 | _=> .bad
theorem ag8{K:Frag}{neg:Bool}:Ur K ct (ab6 neg) (akl neg):=by
 intro w ι M H d d' v v' Q R h h' p
 cases d' with
 | ref n=>
  obtain⟨hn,rfl⟩:=nC h'
  simp only[ab6]at p
  cases e:X4 M n d with
  | none=>rw[e]at p;exact p.elim
  | some oM=>
   obtain⟨o,M'⟩:=oM
   rw[e]at p
   obtain⟨ov,H',g,x,R',h1,h2⟩:=Zw R e hn h
   have es:ov.isSome=o.isSome:=by
    cases o with
    | none=>rw[h2 rfl];rfl
    | some d=>obtain⟨v,rfl,_⟩:=h1 d rfl;rfl
   exact⟨_,ov,H',rfl,g,by rw[es];exact p ι _ H' x R' (.bl _)⟩
 | _=>cases d<;>exact p.elim
noncomputable def abB:D->Option V
 | .non=>some .non
 | .bl b=>some (.bl b)
 | .int i=>some (.int i)
 | .str s=>some (.str s)
 | _=>none
noncomputable def ZR:List D->Option (List V)
 | []=>some []
 | d::r=>match abB d,ZR r with
  | some v,some vs=>some (v::vs)
  | _,_=>none
theorem Yz{K:Frag}{ι:Nat->Addr}{n:Nat}{H:Hp}{d:D}{u v:V}(h:abB d=some u)(q:DV K ct ι n H d v):v=u/\FT u=true:=by
 cases q<;>simp only[abB]at h<;>cases h<;>exact⟨rfl,rfl⟩
theorem Yy{K:Frag}{ι:Nat->Addr}{n:Nat}{H:Hp}:∀{ds:List D} {us vs:List V},ZR ds=some us->nU K ct ι n H ds vs->vs=us/\us.all FT=true
 | [],_,_,h,.nil=>by cases h;exact⟨rfl,rfl⟩
 | d::r,us,_,h,.cons q qs=>by
  simp only[ZR]at h
  cases z:abB d with
  | none=>rw[z]at h;cases h
  | some u=>
   cases z2:ZR r with
   | none=>rw[z,z2]at h;cases h
   | some ur=>
    rw[z,z2]at h
    cases h
    obtain⟨rfl,f1⟩:=Yz z q
    obtain⟨rfl,f2⟩:=Yy z2 qs
    exact⟨rfl,by simp[f1,f2]⟩
theorem aiT(hu:X.A.units+64<cLine):m_ X ct (compareOp .In) (ab6 false):=⟨_,ahj (),ag8⟩
noncomputable def cut{α:Type}(xs:List α)(lo hi:Option Int):List α:=(xs.drop (HT.jg xs.length 0 lo)).take (HT.jg xs.length xs.length hi - HT.jg xs.length 0 lo)
theorem nU.cut{K:Frag}{ι:Nat->Addr}{n:Nat}{H:Hp}{ds:List D}{vs:List V}(h:nU K ct ι n H ds vs)(lo hi:Option Int):nU K ct ι n H (S.cut ds lo hi) (VF vs lo hi):=by
 unfold S.cut VF
 rw[h.length]
 exact(h.drop _).take _
abbrev MO':=Sl->Mem->Out (Option Int)
def awi:(Nat->Addr)->Mem->Hp->Option Int->Option Int->Prop:=λ_ _ _ a b=>a=b
def SO(X:Cx)(ct:Nat->Addr)(W:bf)(e:Option Expr)(m:MO'):Prop:=PO X e (tG awi X.K ct W m)
noncomputable def asI(d:D)(M:Mem):Out (Option Int):=match d with
 | .int i=> .ok (some i) M
 | _=> .bad
noncomputable def Sy:MO':=λ_ M=> .ok none M
noncomputable def acS(m:ME):MO':=λe M=>(m e M).bind asI
theorem adW:SO X ct W none Sy:=λpins s σ H Q I ⟨ι,e,M,w,p⟩=>aeo pins s σ H Q I (p ι none H .refl w.rl rfl)
theorem adV(h:SE X ct W a ma):SO X ct W (some a) (acS ma):=λpins s σ H Q I q=>aen h pins s σ H Q I (by
 obtain⟨ι,e,M,w,p⟩:=b7 (fY:=eE X.K ct) (f:=λd _ M1=>asI d M1) q
 refine⟨ι,e,M,w,p.mono ?_⟩
 rintro v H1 ⟨cF,e1,M1,d,w1,q1,p1⟩
 cases q1 with
 | int i=>exact⟨i,rfl,p1 cF _ H1 .refl w1.rl rfl⟩
 | _=>exact p1.elim)
noncomputable def sSl(d:D)(lo hi:Option Int)(M:Mem):Out D:=match d with
 | .tup ds=>if HT.jg ds.length 0 lo=0/\HT.jg ds.length ds.length hi=ds.length then .bad else .ok (.tup (cut ds lo hi)) M
 | .str u=>if u.length<=sizeLine then .ok (.str (Txt.slice u lo hi)) M else .bad
 | d=>match Ms M d with
  | some ds=> .ok (.ref M.length) (M++[.lst (cut ds lo hi)])
  | none=> .bad
noncomputable def mSl(m:ME)(lo hi:MO'):ME:=λe M=>(m e M).bind λd M1=>(lo e M1).bind λl M2=>(hi e M2).bind λh M3=>sSl d l h M3
theorem ajX{lo hi:Option Expr}{ml mh:MO'}(ha:SE X ct W a ma)(hl:SO X ct W lo ml)(hh:SO X ct W hi mh):SE X ct W (.Subscript a (.Slice lo hi none p2) pos) (mSl ma ml mh):=by
 refine fX (acz ((adX.or agl).or agm) ha hl hh) λσ H Q q=> ?_
 obtain⟨ι,e,M,w,p⟩:=b7 (fY:=eE X.K ct) (f:=λd e M1=>(ml e M1).bind λl M2=>(mh e M2).bind λh M3=>sSl d l h M3) q
 refine⟨ι,e,M,w,p.mono ?_⟩
 rintro v H1 ⟨cF,e1,M1,d,w1,q1,p1⟩
 refine⟨cF,e1,M1,w1,?_⟩
 cases z:ml e1 M1 with
 | bad=>simp only[z,Out.eU]at p1;exact p1
 | exc xc xd xM=>simp only[z,Out.sr]at p1;exact p1
 | ok l M2=>
  simp only[z,Out.d7]at p1
  intro lM l' H2 x2 r2 el
  have Tr:l=l':=el;subst Tr
  refine⟨lM,e1,M2,w1.ext x2 r2,?_⟩
  have p2:=p1.ext x2
  cases z2:mh e1 M2 with
  | bad=>simp only[z2,Out.eU]at p2;exact p2
  | exc xc xd xM=>simp only[z2,Out.sr]at p2;exact p2
  | ok h M3=>
   simp only[z2,Out.d7]at p2
   intro Pr h' H3 x3 r3 eh
   have Tr:h=h':=eh;subst Tr
   have p3:=p2.ext x3
   have q3:=(q1.mono x2).mono x3
   cases d with
   | tup ds=>
    obtain⟨aa,xs,rfl,hs,hd⟩:=XS q3
    simp only[sSl]at p3
    split at p3
    ·exact p3.elim
    ·rename_i hw
     exact .inl (.inr ⟨_,_,rfl,hs,by rw[hd.length];exact hw,λpp hp=>Hi r3 (hd.cut l h) hp p3⟩)
   | str u=>
    cases Dm q3
    simp only[sSl]at p3
    split at p3
    ·rename_i hz
     exact .inr ⟨u,rfl,hz,p3 Pr _ H3 .refl r3 (.str _)⟩
    ·exact p3.elim
   | _=>
    simp only[sSl]at p3
    split at p3
    ·rename_i ds z0
     obtain⟨aa,xs,rfl,hs,hd⟩:=r3.seq z0 q3
     exact .inl (.inl ⟨_,_,rfl,hs,λpp hp=>rm r3 (hd.cut l h) hp p3⟩)
    ·exact p3.elim
theorem O4{K:Frag}{ι:Nat->Addr}{n:Nat}{H:Hp}{d:D}{vs:List V}(h:nU K ct ι n H [d] vs):∃v,vs=[v]/\DV K ct ι n H d v:=by
 cases h with | cons a b=>cases b;exact⟨_,rfl,a⟩
theorem adl{K:Frag}{ι:Nat->Addr}{n:Nat}{H:Hp}{d d':D}{vs:List V}(h:nU K ct ι n H [d,d'] vs):∃v v',vs=[v,v']/\DV K ct ι n H d v/\DV K ct ι n H d' v':=by
 cases h with | cons a b=>obtain⟨v,rfl,q⟩:=O4 b;exact⟨_,_,rfl,a,q⟩
noncomputable def Bo(M:Mem)(d:D):Option (List D):=match d with
 | .tup ds=>some ds
 | .X5 ds=>some ds
 | d=>Ms M d
theorem Rl.seqs{K:Frag}{ι:Nat->Addr}{M:Mem}{H:Hp}(R:Rl K ct ι M H){d:D}{v:V}{ds:List D}(h:Bo M d=some ds)(q:DV K ct ι M.length H d v):∃a xs,v= .ref a/\(Ew K H a xs\/zG K H a xs)/\nU K ct ι M.length H ds xs:=by
 cases d with
 | tup es=>cases h;obtain⟨a,xs,e,hs,hd⟩:=XS q;exact⟨a,xs,e,.inr hs,hd⟩
 | X5 es=>cases h;cases q with | X5 h1 h2=>exact⟨_,_,rfl,.inr (.inr h1),h2⟩
 | _=>simp only[Bo]at h;obtain⟨a,xs,e,hs,hd⟩:=R.seq h q;exact⟨a,xs,e,.inl hs,hd⟩
noncomputable def YK:V4:=λds M=>match ds with
 | [d]=>match Bo M d with
  | some es=> .ok (.int es.length) M
  | none=> .bad
 | _=> .bad
theorem afc:wR X ct (.builtin "len") YK:=by
 refine⟨_,T9,λι M H ds vs Q R h p=> ?_⟩
 unfold YK at p
 split at p
 ·rename_i d
  obtain⟨v,rfl,q⟩:=O4 h
  cases z:Bo M d with
  | none=>rw[z]at p;exact p.elim
  | some es=>
   rw[z]at p
   obtain⟨a,xs,rfl,hs,hd⟩:=R.seqs z q
   exact⟨_,xs,rfl,hs,p ι _ H .refl R (by rw[hd.length];exact .int _)⟩
 ·exact p.elim
noncomputable def orN(a b:V4):V4:=λds M=>match a ds M with
 | .bad=>b ds M
 | o=>o
theorem wR.or{f:Value}{a b:V4}(ha:wR X ct f a)(hb:wR X ct f b):wR X ct f (orN a b):=by
 obtain⟨r,h,hs⟩:=ha
 obtain⟨r',h',hs'⟩:=hb
 refine⟨_,h.or h',λι M H ds vs Q R q p=> ?_⟩
 unfold orN at p
 cases z:a ds M with
 | ok x M1=>rw[z]at p;exact .inl (hs ι M H ds vs Q R q (by rw[z];exact p))
 | exc xc xd xM=>rw[z]at p;exact .inl (hs ι M H ds vs Q R q (by rw[z];exact p))
 | bad=>rw[z]at p;exact .inr (hs' ι M H ds vs Q R q p)
theorem acI{a b:V4}{ds:List D}{x:D}{M M':Mem}(h:a ds M= .ok x M'):orN a b ds M= .ok x M':=by unfold orN;rw[h]
noncomputable def ab4:V4:=λds M=>match ds with
 | [.ref n]=>match M[n]? with
  | some (.dk kvs)=> .ok (.int kvs.length) M
  | some (.dt kvs)=> .ok (.int kvs.length) M
  | _=> .bad
 | _=> .bad
theorem afd:wR X ct (.builtin "len") ab4:=by
 refine⟨_,aa3.or aa2,λι M H ds vs Q R h p=> ?_⟩
 unfold ab4 at p
 split at p
 ·rename_i n
  obtain⟨v,rfl,q⟩:=O4 h
  obtain⟨hn,rfl⟩:=nC q
  split at p
  ·rename_i kvs e
   obtain⟨ys,hH,pv⟩:=R.obj n _ e
   exact .inl ⟨_,ys,rfl,hH,by rw[pv.length];exact p ι _ H .refl R (.int _)⟩
  ·rename_i kvs e
   obtain⟨ys,hH,pv⟩:=R.obj n _ e
   exact .inr ⟨_,ys,rfl,hH,by rw[pv.length];exact p ι _ H .refl R (.int _)⟩
  ·exact p.elim
 ·exact p.elim
noncomputable def agD(neg:Bool):yI:=λy x M=>match abB y,Bo M x with
 | some v,some ds=>match ZR ds with
  | some vs=> .ok (.bl (if neg=true then !inV v vs else inV v vs)) M
  | none=> .bad
 | _,_=> .bad
theorem ag7{K:Frag}{neg:Bool}:Ur K ct (agD neg) (rIn K neg):=by
 intro w ι M H d d' v v' Q R h h' p
 unfold agD at p
 split at p
 ·rename_i u ds e1 e2
  obtain⟨rfl,f1⟩:=Yz e1 h
  obtain⟨a,xs,rfl,hs,hd⟩:=R.seqs e2 h'
  cases e3:ZR ds with
  | none=>rw[e3]at p;exact p.elim
  | some us=>
   rw[e3]at p
   obtain⟨rfl,f2⟩:=Yy e3 hd
   exact⟨a,_,rfl,hs,f1,f2,p ι _ H .refl R (.bl _)⟩
 ·exact p.elim
noncomputable def sIn:yI:=Cv (ab6 false) (agD false)
theorem adx(hu:X.A.units+64<cLine):m_ X ct (compareOp .In) sIn:=(aiT hu).or ⟨_,aau,ag7⟩
noncomputable def ab3:V4:=λds M=>match ds with
 | [.str z]=>if z.length<=sizeLine then .ok (.int z.length) M else .bad
 | _=> .bad
theorem afb:wR X ct (.builtin "len") ab3:=by
 refine⟨_,T8,λι M H ds vs Q R h p=> ?_⟩
 unfold ab3 at p
 split at p
 ·obtain⟨v,rfl,q⟩:=O4 h
  cases Dm q
  split at p
  ·rename_i hz
   exact⟨_,rfl,hz,p ι _ H .refl R (.int _)⟩
  ·exact p.elim
 ·exact p.elim
noncomputable def WR:V4:=orN (orN YK ab4) ab3
theorem TY:wR X ct (.builtin "len") WR:=(afc.or afd).or afb
noncomputable def MN:V4:=λds M=>match ds with
 | [d]=>match Bo M d with
  | some es=> .ok (.ref M.length) (M++[.lst es])
  | none=> .bad
 | _=> .bad
noncomputable def ago(M:Mem)(d:D):Option (List D):=match d with
 | .X5 _=>none
 | d=>Bo M d
noncomputable def Cm:V4:=λds M=>match ds with
 | [d]=>match ago M d with
  | some es=> .ok (.tup es) M
  | none=> .bad
 | _=> .bad
theorem TX:wR X ct (.type "list") MN:=by
 refine⟨_,T7,λι M H ds vs Q R h p=> ?_⟩
 unfold MN at p
 split at p
 ·rename_i d
  obtain⟨v,rfl,q⟩:=O4 h
  cases z:Bo M d with
  | none=>rw[z]at p;exact p.elim
  | some es=>
   rw[z]at p
   obtain⟨a,xs,rfl,hs,hd⟩:=R.seqs z q
   exact⟨_,xs,rfl,hs,λpp hp=>rm R hd hp p⟩
 ·exact p.elim
theorem VG:wR X ct (.type "tuple") Cm:=by
 refine⟨_,Qe,λι M H ds vs Q R h p=> ?_⟩
 unfold Cm at p
 split at p
 ·rename_i d
  obtain⟨v,rfl,q⟩:=O4 h
  cases d with
  | tup es=>
   obtain⟨aa,xs,rfl,hs,hd⟩:=vI q
   exact⟨_,xs,rfl,.inr ⟨zG.of hs,p ι _ H .refl R (.tup hs hd)⟩⟩
  | X5 es=>exact p.elim
  | _=>
   split at p
   ·rename_i es z
    simp only[ago,Bo]at z
    obtain⟨a,xs,rfl,hs,hd⟩:=R.seq z q
    exact⟨_,xs,rfl,.inl ⟨hs,λpp hp=>Hi R hd hp p⟩⟩
   ·exact p.elim
 ·exact p.elim
noncomputable def tyN(M:Mem)(d:D):Option String:=match d with
 | .non=>some "NoneType"
 | .bl _=>some "bool"
 | .int _=>some "int"
 | .str _=>some "str"
 | .tup _=>some "tuple"
 | .ref n=>(uy M n).map λ_=> "list"
 | .cl _=>some "list"
 | _=>none
noncomputable def agh(a b:String):Bool:=a==b||(a== "bool" && b== "int")
noncomputable def zW:List String:=["NoneType","bool","int","str","tuple","list"]
theorem aeR{K:Frag}:∀a∈zW,∀b∈zW,kitOne K (.type a) (.type b)=some (agh a b):=by
 intro a ha b hb
 simp only[zW,List.mem_cons,List.not_mem_nil,or_false]at ha hb
 rcases ha with rfl | rfl | rfl | rfl | rfl | rfl<;>rcases hb with rfl | rfl | rfl | rfl | rfl | rfl<;>with_unfolding_all rfl
noncomputable def ab5:V4:=λds M=>match ds with
 | [d,.ty b]=>match tyN M d with
  | some a=>if b∈zW then .ok (.bl (agh a b)) M else .bad
  | none=> .bad
 | _=> .bad
@[irreducible] def ack(K:Frag):List V->Hp->VK->Prop:=λxs H Q=>∃x n b,xs=[x,.ty n]/\Q (.bl b) H/\
 ((∃t,Iz K H x t/\kitOne K t (.type n)=some b)\/(∃a ys,x= .ref a/\zG K H a ys/\kitOne K (.type "tuple") (.type n)=some b)\/(∃a ys,x= .ref a/\Ew K H a ys/\kitOne K (.type "list") (.type n)=some b))
theorem aa4:qU X (.builtin "isinstance") (ack X.K):=by
 intro pins s σ H xs us Q I r h
 unfold ack at h
 obtain⟨x,n,b,rfl,q,h⟩:=h
 obtain⟨u,v,rfl,rx,rc⟩:=vals2 r
 obtain rfl:v= .type n:=rc
 rcases h with⟨t,ty,e⟩ | ⟨a,ys,rfl,hs,e⟩ | ⟨a,ys,rfl,hs,e⟩
 ·exact QG I rx ty e λtk=>⟨.bl b,H,I.tok tk,rfl,q⟩
 ·cases(show u=Value.ref a from rx)
  obtain⟨its,_,⟨o,h1,h2,_⟩,_⟩:=I.tuple hs
  exact uS PySem.W.kitx_tuple I.zb ⟨o,h1,h2⟩ e (λz=>nomatch z) λtk=>⟨.bl b,H,I.tok tk,rfl,q⟩
 ·cases(show u=Value.ref a from rx)
  obtain⟨its,_,⟨o,n',h1,h2,_⟩,_⟩:=I.list hs
  exact uS PySem.W.kitx_list I.zb ⟨o,h1,h2⟩ e (λz=>nomatch z) λtk=>⟨.bl b,H,I.tok tk,rfl,q⟩
theorem ahW:wR X ct (.builtin "isinstance") ab5:=by
 refine⟨_,aa4,λι M H ds vs Q R h p=> ?_⟩
 unfold ab5 at p
 split at p
 ·rename_i d n
  obtain⟨v,v',rfl,q,q'⟩:=adl h
  cases q'
  unfold ack
  cases z:tyN M d with
  | none=>rw[z]at p;exact p.elim
  | some a=>
   rw[z]at p
   by_cases hn:n∈zW
   ·simp only[hn,if_true]at p
    have ha:a∈zW:=by
     unfold tyN at z
     cases d with
     | ref m=>
      cases z1:uy M m with
      | none=>simp only[z1]at z;cases z
      | some es=>simp only[z1]at z;cases z;show "list" ∈ zW;decide
     | ty _=>cases z
     | cls _=>cases z
     | exc _ _=>cases z
     | fn _ _=>cases z
     | X5 _=>cases z
     | _=>cases z;decide
    have e:=aeR (K:=X.K) a ha n hn
    refine⟨v,n,agh a n,rfl,p ι _ H .refl R (.bl _),?_⟩
    cases q with
    | non=>cases z;exact .inl ⟨_,.non,e⟩
    | bl b=>cases z;exact .inl ⟨_,.bl b,e⟩
    | int b=>cases z;exact .inl ⟨_,.int b,e⟩
    | str b=>cases z;exact .inl ⟨_,.str b,e⟩
    | tup hs hd=>cases z;exact .inr (.inl ⟨_,_,rfl,zG.of hs,e⟩)
    | @ref i hi=>
     simp only[tyN]at z
     cases z1:uy M i with
     | none=>rw[z1]at z;cases z
     | some es=>
      rw[z1]at z
      cases z
      obtain⟨xs,hs,hd⟩:=R.obj i _ (vR.mp z1)
      exact .inr (.inr ⟨_,_,rfl,Ew.of hs,e⟩)
    | cl hs hd=>cases z;exact .inr (.inr ⟨_,_,rfl,hs.sq,e⟩)
    | ty b=>cases z
    | cls b=>cases z
    | exc _ _ _=>cases z
    | fn _ _ _ _ _ _=>cases z
    | X5 _ _=>cases z
   ·simp only[hn,if_false]at p
    exact p.elim
 ·exact p.elim
def MtS(X:Cx)(ct:Nat->Addr)(T id:String)(op:D->List D->Mem->Out D):Prop:=∃r,MtR X id r/\∀{w:XW} ι M H d ds v vs Q,Rl X.K ct ι M H->DV X.K ct ι M.length H d v->nU X.K ct ι M.length H ds vs->ju (eE X.K ct) X.K ct w ι M.length H (op d ds M) Q->r v vs H Q
noncomputable def Wo(T:String)(d:D)(M:Mem):Bool:=match d with
 | .int _=>T== "int"
 | .str _=>T== "str"
 | .ref n=>T== "list" && (uy M n).isSome
 | _=>false
theorem abv{K:Frag}{ι:Nat->Addr}{M:Mem}{H:Hp}{T:String}{d:D}{v:V}(R:Rl K ct ι M H)(h:Wo T d M=true)(q:DV K ct ι M.length H d v):tyV K T v H:=by
 cases q with
 | int i=>exact beq_iff_eq.mp h
 | str i=>exact beq_iff_eq.mp h
 | @ref i hi=>
  simp only[Wo,Bool.and_eq_true,beq_iff_eq]at h
  obtain⟨e,h2⟩:=h
  obtain⟨ds,z⟩:=Option.isSome_iff_exists.mp h2
  obtain⟨xs,hs,_⟩:=R.obj i _ (vR.mp z)
  exact .inl ⟨e,xs,Ew.of hs⟩
 | _=>exact absurd h xA
noncomputable def mBM(T:String)(op:D->List D->Mem->Out D)(mo:ME)(ms:MA):ME:=λe M=>(mo e M).bind λd M1=>if Wo T d M1=true then(ms e M1).bind λds M2=>op d ds M2 else .bad
variable{o:Expr}{es:List Expr}{mo:ME}{ms:MA}{name:Str}{apos cpos:Pos}{T id:String}{op:D->List D->Mem->Out D}
theorem ags(pa:PlainAttrs T)(slot:Slot T name id)(hty:typeOf (.builtin id)=pure (.type "method_descriptor"))(hm:MtS X ct T id op)(ho:SE X ct W o mo)
  (hbase:attributeBase o name X.env (eval o X.env)=eval o X.env:=by rfl) (hline:(apos.endLine==cpos.line)=true:=by rfl):SE X ct W (.Call (.Attribute o name apos) [] [] cpos) (mBM T op mo aJ):=by
 obtain⟨r,hr,hs⟩:=hm
 refine fX (RZ pa slot hty hr ho hbase hline) λσ H Q q=> ?_
 obtain⟨ι,e,M,w,p⟩:=b7 (fY:=eE X.K ct) (f:=λd e M1=>if Wo T d M1=true then(aJ e M1).bind λds M2=>op d ds M2 else .bad) q
 refine⟨ι,e,M,w,p.mono ?_⟩
 rintro v H1 ⟨cF,e1,M1,d,w1,q1,p1⟩
 cases z:Wo T d M1 with
 | false=>simp only[z,Bool.false_eq_true,if_false]at p1;exact p1.elim
 | true=>
  simp only[z,if_true,aJ,Out.d7]at p1
  exact⟨abv w1.rl z q1,hs cF M1 H1 d [] v [] Q w1.rl q1 .nil p1⟩
theorem abV(pa:PlainAttrs T)(slot:Slot T name id)(hty:typeOf (.builtin id)=pure (.type "method_descriptor"))(hm:MtS X ct T id op)(ho:SE X ct W o mo)(ha:SA X ct W (a::es) ms)
  (hbase:attributeBase o name X.env (eval o X.env)=eval o X.env:=by rfl)
  (hfew:((backTo cpos (starEach (a::es) X.env)).all (λx=> !x.1)&&(backToKw cpos (keywordEach [] X.env)).all (λx=>x.1.isSome)
   && decide ((a::es).length+([]:List Keyword).length+(if([]:List Keyword).isEmpty then 0 else 1)<30))=true:=by rfl)
  (hline:(apos.endLine==cpos.line)=true:=by rfl) (hs:starEach (a::es) X.env=(false,eval a X.env)::starEach es X.env:=by rfl) (hplain:(backTo cpos (starEach es X.env)).any (·.1)=false:=by rfl):
  SE X ct W (.Call (.Attribute o name apos) (a::es) [] cpos) (mBM T op mo ms):=by
 obtain⟨r,hr,hss⟩:=hm
 refine fX (afI pa slot hty hr ho ha hbase hfew hline hs hplain) λσ H Q q=> ?_
 obtain⟨ι,e,M,w,p⟩:=b7 (fY:=eE X.K ct) (f:=λd e M1=>if Wo T d M1=true then(ms e M1).bind λds M2=>op d ds M2 else .bad) q
 refine⟨ι,e,M,w,p.mono ?_⟩
 rintro v H1 ⟨cF,e1,M1,d,w1,q1,p1⟩
 cases z:Wo T d M1 with
 | false=>simp only[z,Bool.false_eq_true,if_false]at p1;exact p1.elim
 | true=>
  simp only[z,if_true]at p1
  refine⟨abv w1.rl z q1,cF,e1,M1,w1,?_⟩
  cases z2:ms e1 M1 with
  | bad=>simp only[z2,Out.eU]at p1;exact p1
  | exc xc xd xM=>simp only[z2,Out.sr]at p1;exact p1
  | ok ds M2=>
   simp only[z2,Out.d7]at p1
   exact λlM vs H2 x2 r2 q2=>hss lM M2 H2 d ds v vs Q r2 (q1.mono x2) q2 (p1.ext x2)
noncomputable def w6:D->List D->Mem->Out D:=λd ds M=>match d,ds with
 | .ref n,[x]=>match M[n]? with
  | some (.lst es)=>if es.length<sizeLine then .ok .non (M.set n (.lst (es++[x])))else .bad
  | _=> .bad
 | _,_=> .bad
theorem Qz:MtS X ct "list" "list.append" w6:=by
 refine⟨_,Qy,λι M H d ds v vs Q R q qs p=> ?_⟩
 unfold w6 at p
 split at p
 ·rename_i n x
  obtain⟨hn,rfl⟩:=nC q
  obtain⟨y,rfl,qy⟩:=O4 qs
  split at p
  ·rename_i es e1
   split at p
   ·rename_i hz
    obtain⟨xs,hH,hd⟩:=R.obj n _ e1
    have x2:Ext X.K ι M.length H ι M.length (upd H (ι n) (.lst (xs++[y]))):=Ext.chg hH (λ_ z=>nomatch z) (λ_ _ z=>nomatch z)
    refine⟨_,xs,y,rfl,rfl,hH,by rw[hd.length];exact hz,?_⟩
    refine p ι .non _ (by rw[List.length_set];exact x2) (R.chg hn hH (λ_ z=>nomatch z) (λ_ _ z=>nomatch z) ⟨_,aM,(hd.append (.cons qy .nil)).mono x2⟩) .non
   ·exact p.elim
  ·exact p.elim
 ·exact p.elim
noncomputable def YM:D->List D->Mem->Out D:=λd ds M=>match d,ds with
 | .int i,[]=> .ok (.int (Builtin.Int.intBits i:Nat)) M
 | _,_=> .bad
theorem aeD:MtS X ct "int" "int.bit_length" YM:=by
 refine⟨_,aeC,λι M H d ds v vs Q R q qs p=> ?_⟩
 unfold YM at p
 split at p
 ·cases rP q
  cases qs
  exact⟨_,rfl,rfl,p ι _ H .refl R (.int _)⟩
 ·exact p.elim
end
inductive jR where
 | next (e:Sl) (M:Mem) | ret (d:D) (M:Mem) | brk (e:Sl) (M:Mem) | cont (e:Sl) (M:Mem) | exc (c:Nat) (d:D) (e:Sl) (M:Mem) | bad
abbrev MS:=Sl->Mem->jR
def zB(K:Frag)(ct:Nat->Addr)(W:bf)(ι:Nat->Addr)(n:Nat)(H:Hp)(o:jR)(T:Ends):Prop:=match o with
 | .next e M=>∀ι' σ' H',Ext K ι n H ι' M.length H'->Ws K ct ι' e M σ' H'->T.nx σ' H'
 | .ret d M=>∀ι' v H',Ext K ι n H ι' M.length H'->Rl K ct ι' M H'->DV K ct ι' M.length H' d v->T.rt v H'
 | .brk e M=>∀ι' σ' H',Ext K ι n H ι' M.length H'->Ws K ct ι' e M σ' H'->T.bk σ' H'
 | .cont e M=>∀ι' σ' H',Ext K ι n H ι' M.length H'->Ws K ct ι' e M σ' H'->T.ct σ' H'
 | .exc c d e M=>∀ι' σ' dx v H',Ext K ι n H ι' M.length H'->Ws K ct ι' e M σ' H'->H' dx=some (.xd [("at",v)])->DV K ct ι' M.length H' d v->W (ct c) dx σ' H'
 | .bad=>False
def tS(K:Frag)(ct:Nat->Addr)(W:bf)(m:MS):TS:=λT σ H=>∃ι e M,Ws K ct ι e M σ H/\zB K ct W ι M.length H (m e M) T
def SS(X:Cx)(ct:Nat->Addr)(W:bf)(st:Stmt)(m:MS):Prop:=PS X st (tS X.K ct W m)
def SSs(X:Cx)(ct:Nat->Addr)(W:bf)(st:List Stmt)(m:MS):Prop:=Le X st (tS X.K ct W m)
theorem zB.ext{K:Frag}{ct ι ι':Nat->Addr}{W:bf}{n n':Nat}{H H':Hp}{o:jR}{T:Ends}(h:zB K ct W ι n H o T)(x:Ext K ι n H ι' n' H'):zB K ct W ι' n' H' o T:=by
 cases o with
 | next e M=>exact λlM b H2 x2 w=>h lM b H2 (x.trans x2) w
 | ret d M=>exact λlM b H2 x2 r q=>h lM b H2 (x.trans x2) r q
 | brk e M=>exact λlM b H2 x2 w=>h lM b H2 (x.trans x2) w
 | cont e M=>exact λlM b H2 x2 w=>h lM b H2 (x.trans x2) w
 | exc c d e M=>exact λlM b dx v H2 x2 w q1 q2=>h lM b dx v H2 (x.trans x2) w q1 q2
 | bad=>exact h
noncomputable def zF{α:Type}(e:Sl)(o:Out α)(f:α->Mem->jR):jR:=match o with
 | .ok a M=>f a M
 | .exc c d M=> .exc c d e M
 | .bad=> .bad
@[simp] theorem Ny{α:Type}(e:Sl)(a:α)(M:Mem)(f:α->Mem->jR):zF e (.ok a M) f=f a M:=id rfl
@[simp] theorem Lr{α:Type}(e:Sl)(c:Nat)(d:D)(M:Mem)(f:α->Mem->jR):zF e (.exc c d M:Out α) f= .exc c d e M:=id rfl
@[simp] theorem Ls{α:Type}(e:Sl)(f:α->Mem->jR):zF e (.bad:Out α) f= .bad:=id rfl
theorem wX{α β:Type}{rel:(Nat->Addr)->Mem->Hp->α->β->Prop}{K:Frag}{ct:Nat->Addr}{W:bf}{m:Sl->Mem->Out α}{f:α->Sl->Mem->jR}{σ:St}{H:Hp}{T:Ends}
  (h:tS K ct W (λe M=>zF e (m e M) λa M1=>f a e M1) T σ H):tG rel K ct W m σ H (λb H1=>∃ι e M a,Ws K ct ι e M σ H1/\rel ι M H1 a b/\zB K ct W ι M.length H1 (f a e M) T):=by
 obtain⟨ι,e,M,w,p⟩:=h
 refine⟨ι,e,M,w,?_⟩
 cases z:m e M with
 | bad=>simp only[z,Ls]at p;exact p
 | exc xc xd xM=>simp only[z,Lr]at p;exact λcF dx v H1 x r q1 q2=>p cF σ dx v H1 x (w.ext x r) q1 q2
 | ok a M1=>
  simp only[z,Ny]at p
  exact λcF b H1 x r q=>⟨cF,e,M1,a,w.ext x r,q,p.ext x⟩
section
variable{X:Cx}{ct:Nat->Addr}{W:bf}{st:Stmt}{rest:List Stmt}{s t:MS}{a:Expr}{ma:ME}{pos:Pos}
theorem PS.imp{st:Stmt}{t t':TS}(h:PS X st t)(hi:∀T σ H,t' T σ H->t T σ H):PS X st t':=λpins s σ H T I q=>h pins s σ H T I (hi T σ H q)
theorem Le.imp{st:List Stmt}{t t':TS}(h:Le X st t)(hi:∀T σ H,t' T σ H->t T σ H):Le X st t':=λpins s σ H T I q=>h pins s σ H T I (hi T σ H q)
noncomputable def jf:MS:=λe M=> .next e M
noncomputable def aQ(s t:MS):MS:=λe M=>match s e M with
 | .next e' M'=>t e' M'
 | o=>o
theorem abD(h:tS X.K ct W jf T σ H):afA T σ H:=let⟨ι,_,_,w,p⟩:=h;p ι σ H .refl w
theorem fQ:SSs X ct W [] jf:=Le.imp aeg λT σ H q=>abD q
theorem aF(h1:SS X ct W st s)(h2:SSs X ct W rest t):SSs X ct W (st::rest) (aQ s t):=Le.imp (acn h1 h2) λT σ H ⟨ι,e,M,w,p⟩=>by
 refine⟨ι,e,M,w,?_⟩
 unfold aQ at p
 cases z:s e M with
 | next e' M'=>rw[z]at p;exact λι' σ' H' x w'=>⟨ι',e',M',w',p.ext x⟩
 | ret d M'=>rw[z]at p;exact p
 | brk d M'=>rw[z]at p;exact p
 | cont d M'=>rw[z]at p;exact p
 | exc c d e M'=>rw[z]at p;exact p
 | bad=>rw[z]at p;exact p
theorem aK(h1:SS X ct W st s):SSs X ct W [st] s:=YZ h1
noncomputable def RG:MS:=λ_ _=> .bad
theorem um:SS X ct W st RG:=λ_ _ _ _ _ _ ⟨_,_,_,_,p⟩=>p.elim
noncomputable def j8(m:ME):MS:=λe M=>zF e (m e M) λ_ M1=> .next e M1
theorem gm(he:SE X ct W a ma)(hs:swapsWith a none pos.line X.env=pure false:=by rfl):SS X ct W (.Expr a pos) (j8 ma):=PS.imp (aej he hs) λT σ H q=>by
 obtain⟨ι,e,M,w,p⟩:=wX (rel:=eE X.K ct) (f:=λ_ e M1=> .next e M1) q
 exact⟨ι,e,M,w,p.mono λv H1 ⟨cF,e1,M1,d,w1,q1,p1⟩=>p1 cF σ H1 .refl w1⟩
noncomputable def dZ(m:ME):MS:=λe M=>zF e (m e M) λd M1=> .ret d M1
theorem a_(he:SE X ct W a ma):SS X ct W (.Return (some a) pos) (dZ ma):=PS.imp (agQ he) λT σ H q=>by
 obtain⟨ι,e,M,w,p⟩:=wX (rel:=eE X.K ct) (f:=λd e M1=> .ret d M1) q
 exact⟨ι,e,M,w,p.mono λv H1 ⟨cF,e1,M1,d,w1,q1,p1⟩=>p1 cF v H1 .refl w1.rl q1⟩
noncomputable def Gn(c:MT)(s t:MS):MS:=λe M=>zF e (c e M) λk M1=>if k=true then s e M1 else t e M1
theorem j7{b b':List Stmt}(hc:STt X ct W c mc)(ha:SSs X ct W b s)(hb:SSs X ct W b' t):SS X ct W (.If c b b' pos) (Gn mc s t):=PS.imp (akp hc ha hb) λT σ H q=>by
 obtain⟨ι,e,M,w,p⟩:=wX (rel:=Hg) (f:=λk e M1=>if k=true then s e M1 else t e M1) q
 refine⟨ι,e,M,w,p.mono ?_⟩
 rintro k H1 ⟨cF,e1,M1,d,w1,q1,p1⟩
 have Tr:d=k:=q1;subst Tr
 cases d with
 | true=>exact⟨cF,e1,M1,w1,p1⟩
 | false=>exact⟨cF,e1,M1,w1,p1⟩
abbrev Tg:=D->Sl->Option Sl
abbrev Tgs:=List D->Sl->Option Sl
def af7(K:Frag)(ct ι:Nat->Addr)(M:Mem)(H:Hp)(o:Option Sl)(Q:St->Hp->Prop):Prop:=match o with
 | some e'=>∀σ',Ws K ct ι e' M σ' H->Q σ' H
 | none=>False
def tT(K:Frag)(ct:Nat->Addr)(g:Tg):TG:=λv σ H Q=>∃ι e M d,Ws K ct ι e M σ H/\DV K ct ι M.length H d v/\af7 K ct ι M H (g d e) Q
def tTs(K:Frag)(ct:Nat->Addr)(g:Tgs):TGs:=λvs σ H Q=>∃ι e M ds,Ws K ct ι e M σ H/\nU K ct ι M.length H ds vs/\af7 K ct ι M H (g ds e) Q
def SG(X:Cx)(ct:Nat->Addr)(tg:Expr)(g:Tg):Prop:=PG X tg (tT X.K ct g)
def SGs(X:Cx)(ct:Nat->Addr)(tg:List Expr)(g:Tgs):Prop:=PGs X tg (tTs X.K ct g)
theorem PG.imp{tg:Expr}{t t':TG}(h:PG X tg t)(hi:∀v σ H Q,t' v σ H Q->t v σ H Q):PG X tg t':=λpins s σ H v u Q I r q=>h pins s σ H v u Q I r (hi v σ H Q q)
theorem PGs.imp{tg:List Expr}{t t':TGs}(h:PGs X tg t)(hi:∀v σ H Q,t' v σ H Q->t v σ H Q):PGs X tg t':=λpins s σ H v u Q I r q=>h pins s σ H v u Q I r (hi v σ H Q q)
noncomputable def gN(i:Nat):Tg:=λd e=>some (e.set i (some d))
theorem p7{i:Nat}{x:Str}(hN:X.N.Nodup)(hi:X.N[i]? = some x)(hx:Loc X.env.scope x)(hf:X.fn x=true\/X.env.scope.names.lookup x=some .local:=by first | exact .inl rfl | exact .inr rfl | assumption):SG X ct (.Name x pos) (gN i):=
 PG.imp (RQ hN hi hx hf) λv σ H Q ⟨ι,e,M,d,w,q,p⟩=>p _ (w.set i q)
noncomputable def QM:Tgs:=λds e=>match ds with
 | []=>some e
 | _=>none
noncomputable def sY(g:Tg)(gs:Tgs):Tgs:=λds e=>match ds with
 | d::r=>(g d e).bind λe'=>gs r e'
 | []=>none
theorem YF:SGs X ct [] QM:=PGs.imp Y6 λvs σ H Q ⟨ι,e,M,ds,w,q,p⟩=>by
 cases q with
 | nil=>exact⟨rfl,p σ w⟩
 | cons _ _=>exact p.elim
theorem Ci{es:List Expr}{g:Tg}{gs:Tgs}(h1:SG X ct a g)(h2:SGs X ct es gs)
  (hs:(assignEach (a::es) X.env).map (·.2)=assign a X.env::(assignEach es X.env).map (·.2):=by rfl):SGs X ct (a::es) (sY g gs):=PGs.imp (Vh h1 h2 hs) λvs σ H Q ⟨ι,e,M,ds,w,q,p⟩=>by
 cases q with
 | nil=>exact p.elim
 | @cons d x ds xs h hs=>
  refine⟨x,xs,rfl,ι,e,M,d,w,h,?_⟩
  simp only[sY]at p
  cases z:g d e with
  | none=>rw[z]at p;exact p.elim
  | some e'=>rw[z]at p;exact λσ' w'=>⟨ι,e',M,ds,w',hs,p⟩
noncomputable def gT(n:Nat)(gs:Tgs):Tg:=λd e=>match d with
 | .tup ds=>if ds.length=n then gs ds e else none
 | _=>none
theorem abO{es:List Expr}{k:Nat}{n:Nat}(hc:X.calm=true)(h:SGs X ct es gs)
  (hn:(assignEach es X.env).length=n:=by rfl) (hst:(assignEach es X.env).findIdx? (·.1)=none:=by rfl):SG X ct (.Tuple es k pos) (gT n gs):=PG.imp (acy hc h hn hst) λv σ H Q ⟨ι,e,M,d,w,q,p⟩=>by
 cases q with
 | @tup a xs ds hs hd=>
  simp only[gT]at p
  split at p
  ·rename_i hl
   exact⟨a,xs,rfl,zG.of hs,by rw[hd.length];exact hl,ι,e,M,ds,w,hd,p⟩
  ·exact p.elim
 | _=>exact p.elim
noncomputable def iw(m:ME)(g:Tg):MS:=λe M=>zF e (m e M) λd M1=>match g d e with
 | some e'=> .next e' M1
 | none=> .bad
theorem Ro(he:∀Q,tG (eE X.K ct) X.K ct W m σ H Q->te σ H Q)(hg:∀v H Q,tT X.K ct g v σ H Q->tg v σ H Q)(h:tS X.K ct W (iw m g) T σ H):adT te tg T σ H:=by
 refine he _ ?_
 obtain⟨ι,e,M,w,p⟩:=wX (rel:=eE X.K ct) (f:=λd e M1=>match g d e with
  | some e'=> .next e' M1
  | none=> .bad) h
 refine⟨ι,e,M,w,p.mono ?_⟩
 rintro v H1 ⟨cF,e1,M1,d,w1,q1,p1⟩
 refine hg _ _ _ ⟨cF,e1,M1,d,w1,q1,?_⟩
 cases z:g d e1 with
 | none=>rw[z]at p1;exact p1
 | some e'=>rw[z]at p1;exact λσ' w'=>p1 cF σ' H1 .refl w'
theorem d8(hN:X.N.Nodup)(hi:X.N[i]? = some x)(hx:Loc X.env.scope x)(he:SE X ct W a ma)(hs:swapsWith a (some (.Name x pos')) pos.line X.env=pure false:=by rfl)(hf:X.fn x=true\/X.env.scope.names.lookup x=some .local:=by first | exact .inl rfl | exact .inr rfl | assumption):
  SS X ct W (.Assign [.Name x pos'] a pos) (iw ma (gN i)):=PS.imp (agP hN hi hx he hs hf) λT σ H q=>Ro (λ_ q=>q) (λv H Q ⟨ι,e,M,d,w,q,p⟩=>p _ (w.set i q)) q
noncomputable def lz(cs:List Nat)(f:Str)(d:D)(o:D)(M:Mem):Option Mem:=match o with
 | .ref n=>match M[n]? with
  | some (.ins c fs)=>if c∈cs/\fs.length<1000 then some (M.set n (.ins c (putD f d fs)))else none
  | _=>none
 | _=>none
noncomputable def dj(cs:List Nat)(mo mv:ME)(f:Str):MS:=λe M=>zF e (mv e M) λd M1=>zF e (mo e M1) λo M2=>match lz cs f d o M2 with
 | some M3=> .next e M3
 | none=> .bad
theorem Rb.put{K:Frag}{ι:Nat->Addr}{n:Nat}{H:Hp}{f:Str}{d:D}{v:V}(h:DV K ct ι n H d v):∀{fs:List (Str×D)} {vs:List (Str×V)},Rb K ct ι n H fs vs->Rb K ct ι n H (putD f d fs) (yt f v vs)
 | _,_,.nil=> .cons h .nil
 | _,_,.cons (x:=x) h' hs=>by
  unfold putD yt
  by_cases e:x=f
  ·rw[if_pos e,if_pos e];exact .cons h hs
  ·rw[if_neg e,if_neg e];exact .cons h' (hs.put h)
theorem bO{cs:List Nat}{f:Str}(hc:J8 X.K ct f cs)(ho:SE X ct W o mo)(hv:SE X ct W a ma)(hs:swapsWith a (some (.Attribute o f pos')) pos.line X.env=pure false:=by rfl):
  SS X ct W (.Assign [.Attribute o f pos'] a pos) (dj cs mo ma f):=PS.imp (agS ho hv hs) λT σ H q=>by
 obtain⟨ι,e,M,w,p⟩:=wX (rel:=eE X.K ct) (f:=λd e M1=>zF e (mo e M1) λo M2=>match lz cs f d o M2 with
  | some M3=> .next e M3
  | none=> .bad) q
 refine⟨ι,e,M,w,p.mono ?_⟩
 rintro y H1 ⟨cF,e1,M1,d,w1,q1,p1⟩
 refine⟨cF,e1,M1,w1,?_⟩
 cases z:mo e1 M1 with
 | bad=>simp only[z,Ls]at p1;exact p1
 | exc xc xd xM=>simp only[z,Lr]at p1;exact λlM dx v H2 x r q1 q2=>p1 lM σ dx v H2 x (w1.ext x r) q1 q2
 | ok o' M2=>
  simp only[z,Ny]at p1
  intro lM x H2 x2 r2 q2
  have p2:=p1.ext x2
  have w2:=w1.ext x2 r2
  have qd:=q1.mono x2
  cases q2 with
  | @ref n hn=>
   simp only[lz]at p2
   cases z0:M2[n]? with
   | none=>rw[z0]at p2;exact p2.elim
   | some ob=>
    cases ob with
    | lst _=>rw[z0]at p2;exact p2.elim
    | dk _=>rw[z0]at p2;exact p2.elim
    | dt _=>rw[z0]at p2;exact p2.elim
    | fd _=>rw[z0]at p2;exact p2.elim
    | ins c fs=>
     simp only[z0]at p2
     by_cases hcs:c∈cs/\fs.length<1000
     ·rw[if_pos hcs]at p2
      obtain⟨dx,vs,hH,fv⟩:=r2.obj n _ z0
      have x3:Ext X.K lM M2.length H2 lM M2.length (upd H2 (lM n) (.ins (ct c) dx (yt f y vs))):=Ext.chg hH (λ_ z=>nomatch z) (λ_ _ z=>nomatch z)
      refine⟨_,_,dx,vs,rfl,hH,(hc.get hcs.1).1,(hc.get hcs.1).2,by rw[fv.length];exact hcs.2,?_⟩
      have r3:=r2.chg (o:= .ins (ct c) dx (yt f y vs)) (x:= .ins c (putD f d fs)) hn hH (λ_ z=>nomatch z) (λ_ _ z=>nomatch z) ⟨dx,_,aM,(fv.put qd).mono x3⟩
      have x3':Ext X.K lM M2.length H2 lM (M2.set n (.ins c (putD f d fs))).length (upd H2 (lM n) (.ins (ct c) dx (yt f y vs))):=by rw[List.length_set];exact x3
      exact p2 lM σ _ x3' (w2.ext x3' r3)
     ·rw[if_neg hcs]at p2
      exact p2.elim
  | _=>exact p2.elim
structure Itm where
 src:Option (Nat×List D)
 ds:List D
def lU(s:Option (Nat×List D))(M:Mem):Prop:=match s with
 | none=>True
 | some (n,ds)=>uy M n=some ds
noncomputable instance{s:Option (Nat×List D)}{M:Mem}:Decidable (lU s M):=Classical.propDecidable _
def aad(K:Frag)(ct:Nat->Addr):(Nat->Addr)->Mem->Hp->Itm->It->Prop:=λι M H it J=>lU it.src M/\it.ds.length<=sizeLine/\∀ι' M' H',Ext K ι M.length H ι' M'.length H'->Rl K ct ι' M' H'->lU it.src M'->
 ∀i,(∀d,it.ds[i]? = some d->J.go i H'/\∀x H2,J.yld i H' x H2->Ext K ι' M'.length H' ι' M'.length H2/\Rl K ct ι' M' H2/\DV K ct ι' M'.length H2 d x)/\(it.ds.length<=i->J.stop i H')
abbrev MI:=Sl->Mem->Out Itm
def SI(X:Cx)(ct:Nat->Addr)(W:bf)(tg e:Expr)(m:MI):Prop:=PI X tg e (tG (aad X.K ct) X.K ct W m)
theorem PI.imp{tg e:Expr}{t t':TI}(h:PI X tg e t)(hi:∀σ H R,t' σ H R->t σ H R):PI X tg e t':=λpins s σ H R I q=>h pins s σ H R I (hi σ H R q)
noncomputable def j_(src:Option (Nat×List D))(g:Tg)(b:MS):List D->Sl->Mem->jR
 | [],e,M=>if lU src M then .next e M else .bad
 | d::ds,e,M=>if lU src M then(match g d e with
   | none=> .bad
   | some e1=>match b e1 M with
    | .next e2 M2=>j_ src g b ds e2 M2
    | .cont e2 M2=>j_ src g b ds e2 M2
    | .brk e2 M2=> .next e2 M2
    | .ret d M2=> .ret d M2
    | .exc c d e2 M2=> .exc c d e2 M2
    | .bad=> .bad)else .bad
noncomputable def M6(mi:MI)(g:Tg)(b:MS):MS:=λe M=>zF e (mi e M) λit M1=>j_ it.src g b it.ds e M1
theorem zY{body:List Stmt}(hp:X.Ok->PassesOwn (model X.prog X.w) X.A X.env X.xe)(hc:X.calm=true)(hi:SI X ct W tg iter mi)(hg:SG X ct tg g)(hb:SSs X ct W body b)
  (hs:∀x,foldedSetIterable iter X.env x=pure x:=by intro _;rfl):SS X ct W (.For tg iter body [] pos) (M6 mi g b):=PS.imp (λpins s σ H D I h=>aei (hp I.ok) hc hi hg hb hs pins s σ H D I h) λT σ H q=>by
 obtain⟨ι,e,M,w,p⟩:=wX (rel:=aad X.K ct) (f:=λit e M1=>j_ it.src g b it.ds e M1) q
 refine⟨ι,e,M,w,p.mono ?_⟩
 rintro J H1 ⟨cF,e1,M1,it,w1,q1,p1⟩
 obtain⟨ok1,_,step⟩:=q1
 refine⟨λi m σ' H'=>m=it.ds.length - i/\i<=it.ds.length/\∃ι' e' M',Ext X.K cF M1.length H1 ι' M'.length H'/\Ws X.K ct ι' e' M' σ' H'/\zB X.K ct W ι' M'.length H' (j_ it.src g b (it.ds.drop i) e' M') T,
  ⟨it.ds.length,by simp,Nat.zero_le _,cF,e1,M1,.refl,w1,by simpa using p1⟩,?_⟩
 rintro i m σ' H' ⟨rfl,hi,ι',e',M',x',w',p'⟩
 by_cases hlt:i<it.ds.length
 ·rw[List.drop_eq_getElem_cons hlt]at p'
  unfold j_ at p'
  by_cases ok':lU it.src M'
  ·rw[if_pos ok']at p'
   obtain⟨go,yl⟩:=(step ι' M' H' x' w'.rl ok' i).1 _ (zac hlt)
   refine .inr ⟨go,λσ2 H2=>∃lM e2 M2,Ext X.K cF M1.length H1 lM M2.length H2/\Ws X.K ct lM e2 M2 σ2 H2/\zB X.K ct W lM M2.length H2 (j_ it.src g b (it.ds.drop (i+1)) e2 M2) T,?_,?_⟩
   ·rintro σ2 H2 ⟨lM,e2,M2,x2,w2,p2⟩
    exact⟨it.ds.length - (i+1),(),rfl,hlt,lM,e2,M2,x2,w2,p2⟩
   ·intro x H2 y
    obtain⟨x2,r2,dv⟩:=yl x H2 y
    have w2:=w'.ext x2 r2
    have p2:=p'.ext x2
    refine⟨ι',e',M',_,w2,dv,?_⟩
    cases z:g it.ds[i] e' with
    | none=>rw[z]at p2;exact p2
    | some e2=>
     rw[z]at p2
     intro σ3 w3
     refine⟨ι',e2,M',w3,?_⟩
     cases z3:b e2 M' with
     | next e4 M4=>simp only[z3]at p2;exact λι5 σ5 H5 x5 w5=>⟨ι5,e4,M4,(x'.trans x2).trans x5,w5,p2.ext x5⟩
     | cont e4 M4=>simp only[z3]at p2;exact λι5 σ5 H5 x5 w5=>⟨ι5,e4,M4,(x'.trans x2).trans x5,w5,p2.ext x5⟩
     | brk e4 M4=>simp only[z3]at p2;exact p2
     | ret d M4=>simp only[z3]at p2;exact p2
     | exc xc xd xe xM=>simp only[z3]at p2;exact p2
     | bad=>simp only[z3]at p2;exact p2
  ·rw[if_neg ok']at p'
   exact p'.elim
 ·have e0:i=it.ds.length:=()
  subst e0
  rw[List.drop_length]at p'
  unfold j_ at p'
  by_cases ok':lU it.src M'
  ·rw[if_pos ok']at p'
   exact .inl ⟨(step ι' M' H' x' w'.rl ok' _).2 (zab _),p' ι' σ' H' .refl w'⟩
  ·rw[if_neg ok']at p'
   exact p'.elim
noncomputable def Te(d:D)(M1:Mem):Out Itm:=match d with
 | .ref n=>match uy M1 n with
  | some ds=> .ok ⟨some (n,ds),ds⟩ M1
  | none=> .bad
 | .cl ds=> .ok ⟨none,ds⟩ M1
 | .tup ds=> .ok ⟨none,ds⟩ M1
 | _=> .bad
noncomputable def wD(m:ME):MI:=λe M=>(m e M).bind Te
theorem agT(hl:PE X l tl):PI X tg l (λσ H R=>tl σ H λx H1=>∃a,x= .ref a/\(((∃xs,Ew X.K H1 a xs)/\((∀xs,Ew X.K H1 a xs->xs.length<=sizeLine)->R (Itl X.K a) H1))\/((∃xs,zG X.K H1 a xs)/\((∀xs,zG X.K H1 a xs->xs.length<=sizeLine)->R (Itt X.K a) H1)))):=by
 intro pins s σ H R I h
 refine kj (hl pins s σ H _ I h) ?_
 rintro v s1 ⟨x,H1,I1,r1,q1⟩
 obtain⟨a,e,q⟩:=q1
 subst e
 cases r1
 rcases q with⟨⟨xs,hq⟩,q⟩ | ⟨⟨xs,hq⟩,q⟩
 ·obtain⟨its,rv,p,hz⟩:=I1.list hq
  have q:=q λys hy=>by obtain⟨_,_,_,hz⟩:=I1.list hy;exact hz
  refine wpAny_pyIter_list p.isList ?_
  refine⟨s1.heap.objs.size,[s1.heap.objs.size],_,_,H1,rfl,I1.kept (t':=s1.toks) λb o e=>zD _ e,ZP a _,⟨_,yB _ rfl,rfl,rfl⟩,λb hb=> ?_,q⟩
  have e:b=s1.heap.objs.size:=by simpa using hb
  subst e
  exact I1.Qc (zab _) (I1.hok.fresh (zab _))
 ·obtain⟨its,rv,p,hz⟩:=I1.tuple hq
  have q:=q λys hy=>by obtain⟨_,_,_,hz⟩:=I1.tuple hy;exact hz
  refine wpAny_pyIter_tuple (show s1.heap.IsTuple a its.toArray from p) ?_
  refine⟨s1.heap.objs.size,[s1.heap.objs.size],_,_,H1,rfl,I1.kept (t':=s1.toks) λb o e=>zD _ e,Wr a _,⟨_,yB _ rfl,rfl,rfl⟩,λb hb=> ?_,q⟩
  have e:b=s1.heap.objs.size:=by simpa using hb
  subst e
  exact I1.Qc (zab _) (I1.hok.fresh (zab _))
theorem Vv{K:Frag}{ι:Nat->Addr}{M:Mem}{H:Hp}{a:Addr}{xs:List V}{ds:List D}(R:Rl K ct ι M H)(hq:Ew K H a xs)(hd:nU K ct ι M.length H ds xs)(i:Nat):
  (∀d,ds[i]? = some d->(Itl K a).go i H/\∀x H2,(Itl K a).yld i H x H2->Ext K ι M.length H ι M.length H2/\Rl K ct ι M H2/\DV K ct ι M.length H2 d x)/\(ds.length<=i->(Itl K a).stop i H):=by
 refine⟨λd e=> ?_,λh=>⟨xs,hq,by rw[hd.length];exact h⟩⟩
 obtain⟨v,hv,dv⟩:=hd.at e
 refine⟨⟨xs,v,hq,hv⟩,λx H2 y=> ?_⟩
 obtain⟨e2,y⟩:=y
 subst e2
 have z:=y xs hq
 rw[hv]at z
 cases z
 exact⟨.refl,R,dv⟩
theorem ac2{K:Frag}{ι:Nat->Addr}{M:Mem}{H:Hp}{a:Addr}{xs:List V}{ds:List D}(R:Rl K ct ι M H)(hq:zG K H a xs)(hd:nU K ct ι M.length H ds xs)(i:Nat):
  (∀d,ds[i]? = some d->(Itt K a).go i H/\∀x H2,(Itt K a).yld i H x H2->Ext K ι M.length H ι M.length H2/\Rl K ct ι M H2/\DV K ct ι M.length H2 d x)/\(ds.length<=i->(Itt K a).stop i H):=by
 refine⟨λd e=> ?_,λh=>⟨xs,hq,by rw[hd.length];exact h⟩⟩
 obtain⟨v,hv,dv⟩:=hd.at e
 refine⟨⟨xs,v,hq,hv⟩,λx H2 y=> ?_⟩
 obtain⟨e2,y⟩:=y
 subst e2
 have z:=y xs hq
 rw[hv]at z
 cases z
 exact⟨.refl,R,dv⟩
theorem yp{tg:Expr}(hl:SE X ct W a ma):SI X ct W tg a (wD ma):=PI.imp (agT hl) λσ H R q=>by
 obtain⟨ι,e,M,w,p⟩:=b7 (fY:=eE X.K ct) (f:=λd _ M1=>Te d M1) q
 refine⟨ι,e,M,w,p.mono ?_⟩
 rintro v H1 ⟨cF,e1,M1,d,w1,q1,p1⟩
 cases q1 with
 | @ref n hn=>
  dsimp only[Te]at p1
  cases z:uy M1 n with
  | none=>rw[z]at p1;exact p1.elim
  | some ds=>
   rw[z]at p1
   obtain⟨xs,hH,hd⟩:=w1.rl.obj n _ (vR.mp z)
   refine⟨_,rfl,.inl ⟨⟨xs,Ew.of hH⟩,λhz=>p1 cF _ H1 .refl w1.rl ⟨z,by rw[<-hd.length];exact hz xs (Ew.of hH),λlM M2 H2 x2 r2 ok2 i=> ?_⟩⟩⟩
   obtain⟨xs2,hH2,hd2⟩:=r2.obj n _ (vR.mp ok2)
   rw[<-x2.same n hn]
   exact Vv r2 (Ew.of hH2) hd2 i
 | cl h1 h2=>exact⟨_,rfl,.inl ⟨⟨_,h1.sq⟩,λhz=>p1 cF _ H1 .refl w1.rl ⟨trivial,by rw[<-h2.length];exact hz _ h1.sq,λlM M2 H2 x2 r2 ok2 i=>Vv r2 (x2.gb _ _ h1).sq (h2.mono x2) i⟩⟩⟩
 | tup h1 h2=>exact⟨_,rfl,.inr ⟨⟨_,zG.of h1⟩,λhz=>p1 cF _ H1 .refl w1.rl ⟨trivial,by rw[<-h2.length];exact hz _ (zG.of h1),λlM M2 H2 x2 r2 ok2 i=>ac2 r2 (zG.of (x2.tup _ _ h1)) (h2.mono x2) i⟩⟩⟩
 | _=>exact p1.elim
noncomputable def yK(lo:Int)(n:Nat):List D:=(List.range n).map λ(k:Nat)=>D.int (lo+k)
noncomputable def PJ(ds:List D)(M1:Mem):Out Itm:=match ds with
 | [.int j]=>if -(2 ^ 62)<=j/\j<2 ^ 24 then .ok ⟨none,yK 0 j.toNat⟩ M1 else .bad
 | _=> .bad
noncomputable def QC(ms:MA):MI:=λe M=>(ms e M).bind PJ
noncomputable def acd(ds:List D)(M1:Mem):Out Itm:=match ds with
 | [.int i,.int j]=>if -(2 ^ 62)<=i/\i<2 ^ 62/\ -(2 ^ 62)<=j/\j<2 ^ 62/\j - i<=2 ^ 24 then .ok ⟨none,yK i (j - i).toNat⟩ M1 else .bad
 | _=> .bad
noncomputable def acR(ms:MA):MI:=λe M=>(ms e M).bind acd
theorem Vu{K:Frag}{ι:Nat->Addr}{M:Mem}{H:Hp}(R:Rl K ct ι M H)(lo:Int)(n i:Nat):
  (∀d,(yK lo n)[i]? = some d->(Itr lo n).go i H/\∀x H2,(Itr lo n).yld i H x H2->Ext K ι M.length H ι M.length H2/\Rl K ct ι M H2/\DV K ct ι M.length H2 d x)/\((yK lo n).length<=i->(Itr lo n).stop i H):=by
 refine⟨λd e=> ?_,λh=>(by simpa[yK]using h:n<=i)⟩
 unfold yK at e
 rw[zam]at e
 obtain⟨k,hk,rfl⟩:=Option.map_eq_some_iff.mp e
 obtain⟨hi,e2⟩:=List.getElem?_eq_some_iff.mp hk
 have hi':i<n:=by simpa using hi
 have ek:k=i:=by rw[<-e2];simp
 subst ek
 refine⟨hi',λx H2 y=> ?_⟩
 obtain⟨e3,y⟩:=y
 subst e3 y
 exact⟨.refl,R,.int _⟩
theorem Xm:(2 ^ 24:Nat)<=sizeLine:=by rw[sizeLine_eq];decide
theorem DK(hg:Gl X "range")(hm:X.mg "range" = none)(ha:SA X ct W [a] ms)(hs:starEach [a] X.env=[(false,eval a X.env)]:=by rfl):SI X ct W tg (.Call (.Name "range" p) [a] [] pos) (QC ms):=PI.imp (aam hg hm ha hs) λσ H R q=>by
 obtain⟨ι,e,M,w,p⟩:=b7 (fY:=Hh X.K ct) (f:=λds _ M1=>PJ ds M1) q
 refine⟨ι,e,M,w,p.mono ?_⟩
 rintro v H1 ⟨cF,e1,M1,d,w1,q1,p1⟩
 dsimp only[PJ]at p1
 split at p1
 ·rename_i j
  obtain⟨v,rfl,q2⟩:=O4 q1
  cases rP q2
  split at p1
  ·rename_i hj
   have hz:=Xm
   exact⟨j,rfl,hj.1,(),p1 cF _ H1 .refl w1.rl ⟨trivial,by simp[yK];lia,λlM M2 H2 x2 r2 ok2 i=>Vu r2 0 _ i⟩⟩
  ·exact p1.elim
 ·exact p1.elim
theorem Z1(hg:Gl X "range")(hm:X.mg "range" = none)(ha:SA X ct W [a,b] ms)(hs:starEach [a,b] X.env=[(false,eval a X.env),(false,eval b X.env)]:=by rfl)(hs2:starEach [b] X.env=[(false,eval b X.env)]:=by rfl):SI X ct W tg (.Call (.Name "range" p) [a,b] [] pos) (acR ms):=PI.imp (aal hg hm ha hs hs2) λσ H R q=>by
 obtain⟨ι,e,M,w,p⟩:=b7 (fY:=Hh X.K ct) (f:=λds _ M1=>acd ds M1) q
 refine⟨ι,e,M,w,p.mono ?_⟩
 rintro v H1 ⟨cF,e1,M1,d,w1,q1,p1⟩
 dsimp only[acd]at p1
 split at p1
 ·rename_i i j
  obtain⟨v,v',rfl,q2,q3⟩:=adl q1
  cases rP q2
  cases rP q3
  split at p1
  ·rename_i hj
   have hz:=Xm
   exact⟨i,j,rfl,⟨hj.1,hj.2.1,hj.2.2.1,hj.2.2.2.1⟩,p1 cF _ H1 .refl w1.rl ⟨trivial,by simp[yK];lia,λlM M2 H2 x2 r2 ok2 k=>Vu r2 i _ k⟩⟩
  ·exact p1.elim
 ·exact p1.elim
noncomputable def Mf(c:MT)(b:MS):Nat->Sl->Mem->jR
 | 0,_,_=> .bad
 | n+1,e,M=>match c e M with
  | .bad=> .bad
  | .exc c d M1=> .exc c d e M1
  | .ok false M1=> .next e M1
  | .ok true M1=>match b e M1 with
   | .next e2 M2=>Mf c b n e2 M2
   | .cont e2 M2=>Mf c b n e2 M2
   | .brk e2 M2=> .next e2 M2
   | .ret d M2=> .ret d M2
   | .exc c d e2 M2=> .exc c d e2 M2
   | .bad=> .bad
theorem Ma:∀(n:Nat) (e:Sl) (M:Mem),Mf c b n e M≠ .bad->Mf c b (n+1) e M=Mf c b n e M
 | 0,_,_,h=>absurd rfl h
 | n+1,e,M,h=>by
  unfold Mf at h ⊢
  cases z:c e M with
  | bad=>rfl
  | exc _ _ _=>rfl
  | ok k M1=>
   cases k with
   | false=>rfl
   | true=>
    simp only[z]at h ⊢
    cases z2:b e M1 with
    | next e2 M2=>simp only[z2]at h ⊢;exact Ma n e2 M2 h
    | cont e2 M2=>simp only[z2]at h ⊢;exact Ma n e2 M2 h
    | brk e2 M2=>rfl
    | ret d M2=>rfl
    | exc _ _ _ _=>rfl
    | bad=>rfl
theorem Wl(h:Mf c b n e M≠ .bad):∀k,Mf c b (n+k) e M=Mf c b n e M
 | 0=>rfl
 | k+1=>by
  have ih:=Wl h k
  rw[<-Nat.add_assoc,Ma _ _ _ (by rw[ih];exact h)]
  exact ih
open Classical in
def Jp(c:MT)(b:MS):MS:=λe M=>if h:∃n,Mf c b n e M≠ .bad then Mf c b (Classical.choose h) e M else .bad
theorem Jo(h:Mf c b n e M=o)(ho:o≠ .bad):Jp c b e M=o:=by
 have ex:∃n,Mf c b n e M≠ .bad:=⟨n,by rw[h];exact ho⟩
 unfold Jp
 rw[dif_pos ex]
 have h1:=Classical.choose_spec ex
 rcases Nat.le_total n (Classical.choose ex)with l | l
 ·obtain⟨k,hk⟩:=Nat.exists_eq_add_of_le l
  rw[hk,Wl (by rw[h];exact ho) k,h]
 ·obtain⟨k,hk⟩:=Nat.exists_eq_add_of_le l
  rw[<-h,hk,Wl h1 k]
theorem U0(hp:X.Ok->PassesOwn (model X.prog X.w) X.A X.env X.xe)(hc:STt X ct W c mc)(hb:SSs X ct W body b):SS X ct W (.While c body [] pos) (Jp mc b):=PS.imp (λpins s σ H D I h=>aco (hp I.ok) hc hb pins s σ H D I h) λT σ H ⟨ι,e,M,w,p⟩=>by
 unfold Jp at p
 split at p
 ·rename_i ex
  refine⟨λm σ' H'=>∃ι' e' M',Ws X.K ct ι' e' M' σ' H'/\zB X.K ct W ι' M'.length H' (Mf mc b m e' M') T,⟨_,ι,e,M,w,p⟩,?_⟩
  rintro m σ' H' ⟨ι',e',M',w',p'⟩
  cases m with
  | zero=>exact p'.elim
  | succ m=>
   refine⟨ι',e',M',w',?_⟩
   unfold Mf at p'
   cases z:mc e' M' with
   | bad=>rw[z]at p';exact p'
   | exc xc xd xM=>rw[z]at p';exact λlM dx v H2 x r q1 q2=>p' lM σ' dx v H2 x (w'.ext x r) q1 q2
   | ok k M1=>
    intro lM k2 H2 x2 r2 ek
    have Tr:k=k2:=ek;subst Tr
    have w2:=w'.ext x2 r2
    cases k with
    | false=>rw[z]at p';exact p' lM σ' H2 x2 w2
    | true=>
     simp only[z]at p'
     have p2:=p'.ext x2
     show ∃N:St->Hp->Prop,_
     refine⟨λσ3 H3=>∃Pr e3 M3,Ws X.K ct Pr e3 M3 σ3 H3/\zB X.K ct W Pr M3.length H3 (Mf mc b m e3 M3) T,λσ3 H3 q3=>⟨m,Nat.lt_succ_self _,q3⟩,lM,e',M1,w2,?_⟩
     cases z3:b e' M1 with
     | next e4 M4=>simp only[z3]at p2;exact λι5 σ5 H5 x5 w5=>⟨ι5,e4,M4,w5,p2.ext x5⟩
     | cont e4 M4=>simp only[z3]at p2;exact λι5 σ5 H5 x5 w5=>⟨ι5,e4,M4,w5,p2.ext x5⟩
     | brk e4 M4=>simp only[z3]at p2;exact p2
     | ret d M4=>simp only[z3]at p2;exact p2
     | exc xc xd xe xM=>simp only[z3]at p2;exact p2
     | bad=>simp only[z3]at p2;exact p2
 ·exact p.elim
noncomputable def qW(js:List Nat)(e:Sl):Sl:=js.map λi=>(e[i]?).join
noncomputable def Out.noX{α:Type}(o:Out α):Out α:=match o with
 | .ok a M=> .ok a M
 | _=> .bad
@[simp] theorem z9{α:Type}(a:α)(M:Mem):(Out.ok a M).noX= .ok a M:=id rfl
@[simp] theorem D_{α:Type}:(Out.bad:Out α).noX= .bad:=id rfl
@[simp] theorem DY{α:Type}(c:Nat)(d:D)(M:Mem):(Out.exc c d M:Out α).noX= .bad:=id rfl
noncomputable def yF(src:Option (Nat×List D))(tt:MT)(te:ME)(ce:Sl):List D->List D->Mem->Out D
 | [],ys,M=>if lU src M then .ok (.ref M.length) (M++[.lst ys])else .bad
 | d::ds,ys,M=>if lU src M then(tt (some d::ce) M).noX.bind λk M1=>if k=true then(te (some d::ce) M1).noX.bind λy M2=>yF src tt te ce ds (ys++[y]) M2 else yF src tt te ce ds ys M1 else .bad
def yX(js:List Nat)(mi:MI)(tt:MT)(te:ME):ME:=λe M=>(mi e M).bind λit M1=>yF it.src tt te (qW js e) it.ds [] M1
def STs(X:Cx)(ct:Nat->Addr)(W:bf)(ifs:List Expr)(m:MT):Prop:=PTs X ifs (tG Hg X.K ct W m)
noncomputable def Oc:MT:=λ_ M=> .ok true M
theorem Rq:STs X ct W [] Oc:=λpins s σ H Q I ⟨ι,e,M,w,p⟩=>aee pins s σ H Q I (p ι true H .refl w.rl rfl)
theorem G5(h:STt X ct W c m):STs X ct W [c] m:=aed h
theorem Ws.caps{K:Frag}{ι:Nat->Addr}{e:Sl}{M:Mem}{σ:St}{H:Hp}{d:D}{v:V}(w:Ws K ct ι e M σ H)(js:List Nat)(h:DV K ct ι M.length H d v):Ws K ct ι (some d::qW js e) M (some v::L2.caps js σ) H:=by
 refine⟨w.rl,by simp[qW,L2.caps],λi x hx=> ?_⟩
 cases i with
 | zero=>simp at hx;subst hx;exact⟨v,rfl,h⟩
 | succ i=>
  simp only[List.getElem?_cons_succ,qW,zam]at hx
  obtain⟨j,hj,ej⟩:=Option.map_eq_some_iff.mp hx
  cases z:e[j]? with
  | none=>rw[z]at ej;cases ej
  | some o=>
   rw[z]at ej
   cases(show o=some x from ej)
   obtain⟨u,hu,du⟩:=w.env j x z
   refine⟨u,?_,du⟩
   simp only[List.getElem?_cons_succ,L2.caps,zam,hj,Option.map_some,hu]
   rfl
theorem UW(h:tG (eE X.K ct) X.K ct W (yX js mi tt te) σ H Q):abF js (tG (aad X.K ct) X.K ct W mi) (tG Hg X.K ct W0 tt) (tG (eE X.K ct) X.K ct W0 te) σ H Q:=by
 obtain⟨ι,e,M,w,p⟩:=b7 (fY:=aad X.K ct) (f:=λit e M1=>yF it.src tt te (qW js e) it.ds [] M1) h
 refine⟨ι,e,M,w,p.mono ?_⟩
 rintro J H1 ⟨cF,e1,M1,it,w1,q1,p1⟩
 obtain⟨ok1,hz,step⟩:=q1
 refine⟨λi m ys H'=>m=it.ds.length - i/\i<=it.ds.length/\ys.length<=i/\∃ι' M' ds',Ext X.K cF M1.length H1 ι' M'.length H'/\Rl X.K ct ι' M' H'/\nU X.K ct ι' M'.length H' ds' ys/\ju (eE X.K ct) X.K ct (wAt W σ) ι' M'.length H' (yF it.src tt te (qW js e1) (it.ds.drop i) ds' M') Q,
  ⟨it.ds.length,by simp,Nat.zero_le _,zab _,cF,M1,[],.refl,w1.rl,.nil,by simpa using p1⟩,?_⟩
 rintro i m ys H' ⟨rfl,hi,hy,ι',M',ds',x',r',dy,p'⟩
 by_cases hlt:i<it.ds.length
 ·rw[List.drop_eq_getElem_cons hlt]at p'
  unfold yF at p'
  by_cases ok':lU it.src M'
  ·rw[if_pos ok']at p'
   obtain⟨go,yl⟩:=(step ι' M' H' x' r' ok' i).1 _ (zac hlt)
   refine .inr ⟨go,λys2 H2=>ys2.length<=i+1/\∃lM M2 ds2,Ext X.K cF M1.length H1 lM M2.length H2/\Rl X.K ct lM M2 H2/\nU X.K ct lM M2.length H2 ds2 ys2/\ju (eE X.K ct) X.K ct (wAt W σ) lM M2.length H2 (yF it.src tt te (qW js e1) (it.ds.drop (i+1)) ds2 M2) Q,?_,?_⟩
   ·rintro ys2 H2 ⟨hl2,q2⟩
    exact⟨(),it.ds.length - (i+1),(),rfl,hlt,hl2,q2⟩
   ·intro x H2 y
    obtain⟨x2,r2,dv⟩:=yl x H2 y
    have w2:Ws X.K ct ι' (some it.ds[i]::qW js e1) M' (some x::L2.caps js σ) H2:=(w1.ext (x'.trans x2) r2).caps js dv
    have p2:=p'.ext x2
    refine⟨ι',_,M',w2,?_⟩
    cases z:tt (some it.ds[i]::qW js e1) M' with
    | bad=>simp only[z,D_,Out.eU]at p2;exact p2
    | exc xc xd xM=>simp only[z,DY,Out.eU]at p2;exact p2.elim
    | ok k M3=>
     simp only[z,z9,Out.d7]at p2
     intro Pr k3 H3 x3 r3 ek
     have Tr:k=k3:=ek;subst Tr
     have p3:=p2.ext x3
     have w3:=w2.ext x3 r3
     have dy3:=(dy.mono x2).mono x3
     cases k with
     | false=>exact⟨(),Pr,M3,ds',(x'.trans x2).trans x3,r3,dy3,p3⟩
     | true=>
      simp only[if_true]at p3 ⊢
      refine⟨Pr,_,M3,w3,?_⟩
      cases z4:te (some it.ds[i]::qW js e1) M3 with
      | bad=>simp only[z4,D_,Out.eU]at p3;exact p3
      | exc xc xd xM=>simp only[z4,DY,Out.eU]at p3;exact p3.elim
      | ok yy M4=>
       simp only[z4,z9,Out.d7]at p3
       intro ι4 v4 H4 x4 r4 d4
       exact⟨by rw[List.length_append];simp;lia,ι4,M4,ds'++[yy],((x'.trans x2).trans x3).trans x4,r4,(dy3.mono x4).append (.cons d4 .nil),p3.ext x4⟩
  ·rw[if_neg ok']at p'
   exact p'.elim
 ·have e0:i=it.ds.length:=()
  subst e0
  rw[List.drop_length]at p'
  unfold yF at p'
  by_cases ok':lU it.src M'
  ·rw[if_pos ok']at p'
   exact .inl ⟨(step ι' M' H' x' r' ok' _).2 (zab _),(),λpp hp=>rm r' dy hp p'⟩
  ·rw[if_neg ok']at p'
   exact p'.elim
variable{elt iter:Expr}{ifs:List Expr}{scope:Scope}{x:Str}{px:Pos}{mi:MI}{tt:MT}{te:ME}
theorem Ln(hc:X.calm=true)(cs:List Str)(js:List Nat)(hi:SI X ct W (.Name x px) iter mi)(hcap:uL X scope cs js)(ht:∀cl C fp s H,STs (cV X scope cl C (x::cs) fp s H) ct W0 ifs tt)(he:∀cl C fp s H,SE (cV X scope cl C (x::cs) fp s H) ct W0 elt te)
  (hall:∀y∈scope.names,y.2= .free->y.1∈cs) (hcell:∀y∈scope.names,y.2≠ .cell) (hnames:∀y∈scope.names,y.2= .local->scope.names.lookup y.1=some .local) (hnd:(x::cs).Nodup)
  (hkind:scope.kind= .function:=by rfl) (hx:scope.names.lookup x=some .local:=by rfl) (hs:∀v,foldedSetIterable iter X.env v=pure v:=by intro _;rfl):
  SE X ct W (.ListComp elt [⟨.Name x px,iter,ifs,0⟩] scope pos) (yX js mi tt te):=
 fX (aeq (tt:=tG Hg X.K ct W0 tt) (te:=tG (eE X.K ct) X.K ct W0 te) hc cs js hi hcap (λcl C fp s H=>ht cl C fp s H) (λcl C fp s H=>he cl C fp s H) hall hcell hnames hnd hkind hx hs) λσ H Q q=>UW q
theorem YC{y:Str}{py spos:Pos}{k:Nat}(hc:X.calm=true)(cs:List Str)(js:List Nat)(hN:X.N.Nodup)(hk:X.N[k]? = some y)(hy:X.env.scope.names.lookup y=some .local)(hi:SI X ct W (.Name x px) iter mi)(hcap:uL X scope cs js)
  (ht:∀cl C fp s H,STs (cV X scope cl C (x::cs) fp s H) ct W0 ifs tt) (he:∀cl C fp s H,SE (cV X scope cl C (x::cs) fp s H) ct W0 elt te)
  (hall:∀y∈scope.names,y.2= .free->y.1∈cs) (hcell:∀y∈scope.names,y.2≠ .cell) (hnames:∀y∈scope.names,y.2= .local->scope.names.lookup y.1=some .local) (hnd:(x::cs).Nodup)
  (hsw:swapsWith (.ListComp elt [⟨.Name x px,iter,ifs,0⟩] scope pos) (some (.Name y py)) spos.line X.env=pure true:=by rfl)
  (hkind:scope.kind= .function:=by rfl) (hx:scope.names.lookup x=some .local:=by rfl) (hs:∀v,foldedSetIterable iter X.env v=pure v:=by intro _;rfl):
  SS X ct W (.Assign [.Name y py] (.ListComp elt [⟨.Name x px,iter,ifs,0⟩] scope pos) spos) (iw (yX js mi tt te) (gN k)):=
 PS.imp (ael (tt:=tG Hg X.K ct W0 tt) (te:=tG (eE X.K ct) X.K ct W0 te) hc cs js hN hk hy hi hcap (λcl C fp s H=>ht cl C fp s H) (λcl C fp s H=>he cl C fp s H) hall hcell hnames hnd hsw hkind hx hs) λT σ H q=>Ro (λ_ q=>UW q) (λv H Q ⟨ι,e,M,d,w,q,p⟩=>p _ (w.set k q)) q
end
noncomputable def slots(n:Nat)(ds:List D):Sl:=ds.map some++List.replicate (n - ds.length) none
noncomputable def aU(n:Nat)(b:MS):Fn:=λds M=>match b (slots n ds) M with
 | .ret d M'=> .ok d M'
 | .next _ M'=> .ok .non M'
 | .exc c d _ M'=> .exc c d M'
 | _=> .bad
theorem Ws.start{K:Frag}{ct ι:Nat->Addr}{M:Mem}{H:Hp}{ds:List D}{vs:List V}(N:List Str)(R:Rl K ct ι M H)(h:nU K ct ι M.length H ds vs):Ws K ct ι (slots N.length ds) M (L2.start N vs) H:=by
 refine⟨R,by simp[slots,L2.start,h.length],λi d hd=> ?_⟩
 unfold slots at hd
 by_cases z:i<ds.length
 ·rw[zae (by simpa using z),zam]at hd
  obtain⟨d',e1,e2⟩:=Option.map_eq_some_iff.mp hd
  cases e2
  obtain⟨v,hv,dv⟩:=h.at e1
  refine⟨v,?_,dv⟩
  unfold L2.start
  rw[zae (by rw[zan,h.length];exact z),zam,hv]
  rfl
 ·rw[zad (by simpa using z),List.getElem?_replicate]at hd
  split at hd<;>cases hd
section
variable{P:Program}{w:World}{K:Frag}{mg:Str->Option Value}{base:Heap}{ct:Nat->Addr}
theorem ade{n ar:Nat}{b:MS}{x qual:Str}{st:Stmt}{dV:Value}{f:Addr}{fd:FuncData}{N ps:List Str}{k:Nat}(F:aV K x qual st dV f fd)(S:lu N ps (ak st))(hn:N.length=n)(har:ps.length=ar)
  (hbody:∀(cdv:Value) (A:Around) (outer:List PySem.Env) (s:Shared) (H:Hp) (E:XK) (W:bf),jT k (A.deeper (envOfC qual (ak st) s.heap.objs.size f cdv))->
   SSs ((rY (wV P w) P w K mg base N qual (ak st) f cdv A outer s H E).wish (jt (rY (wV P w) P w K mg base N qual (ak st) f cdv A outer s H E) W)) ct W (aA st) b):
  g8 P w K mg base (wV P w) (k+1) f fd ps (spS K ct (aU n b) ar):=by
 subst hn har
 refine F.okX S (λvs H Q E ⟨ι,ds,M,hl,_,hd,_⟩=>by rw[hd.length,hl]) ?_
 rintro cdv A outer s H vs Q E hr ⟨ι,ds,M,hl,R,hd,p⟩
 refine⟨_,λC dx _ H'=>E (.ref C) (some dx) H',λC dx σ H' z=>z,hbody cdv A outer s H E _ hr,ι,slots N.length ds,M,Ws.start N R hd,?_⟩
 unfold aU at p
 cases z:b (slots N.length ds) M with
 | ret d M'=>rw[z]at p;exact λι' v H' x r q=> .inl (p ι' v H' x r q)
 | next e M'=>rw[z]at p;exact λι' σ' H' x w'=> .inl (p ι' .non H' x w'.rl .non)
 | exc c d e M'=>rw[z]at p;exact λι' σ' dx v H' x w' q1 q2=>p ι' dx v H' x w'.rl q1 q2
 | brk e M'=>rw[z]at p;exact p.elim
 | cont e M'=>rw[z]at p;exact p.elim
 | bad=>rw[z]at p;exact p.elim
end
theorem anD{P:Program}{w:World}{K:Frag}{mg:Str->Option Value}{base:Heap}{k:Nat}{f:Addr}{fd:FuncData}{ps:List Str}{sp:Sp}(F:g8 P w K mg base (wV P w) k f fd ps sp):g8 P w K mg base CX0 k f fd ps (λvs H Q _=>sp vs H Q E0):=
 ⟨λvs H Q _ h=>F.len vs H Q E0 h,λA outer s H args us vs Q E hr he hb hv hs=>codeAny_mono (F.run A outer s H args us vs Q E0 hr he hb hv hs) λr s' hq=>by
  match r,hq with
  | .error e,hq=>obtain⟨_,_,_,_,_,_,_,_,_,_,_,_,_,_,_,z⟩:=hq;exact z.elim
  | .ok (.ret u),hq=>exact hq⟩
theorem n6(hst:Y.stack=Y.env::Y.outer)(hf:Y.env.frame=some Y.env.locals)(ok:(Y.wish (jt Y W)).Ok):PassesOwn (model Y.prog Y.w) Y.A Y.env (jt Y W):=λev s' h=>jt.aar hst hf ok.frames ev s' h
theorem Tk.none:Tk X W0:=λ_ _ ⟨_,_,_,_,_,_,_,_,_,_,_,_,_,_,z⟩=>z.elim
theorem Vz{K:Frag}{ct ι:Nat->Addr}{n:Nat}{H:Hp}:∀ns:List Int,nU K ct ι n H (ns.map D.int) (ns.map V.int)
 | []=> .nil
 | i::r=> .cons (.int i) (Vz r)
def adU(K:Frag)(ct:Nat->Addr):Sp:=λvs H Q _=>∃(a:Addr) (ns:List Int),vs=[.ref a]/\FrL K H a (ns.map V.int)/\ns.length<=63/\V3 ct H/\∀H',Q (.bl true) H'
theorem ahC{P:Program}{w:World}{K:Frag}{mg:Str->Option Value}{base:Heap}{ct:Nat->Addr}{k:Nat}{f:Addr}{fd:FuncData}{x:Str}{fn:Fn}(F:g8 P w K mg base (wV P w) k f fd [x] (spS K ct fn 1))
  (h:∀ns:List Int,ns.length<=63->∃M,fn [.cl (ns.map D.int)] []= .ok (.bl true) M):g8 P w K mg base CX0 k f fd [x] (adU K ct):=by
 refine(anD F).imp ?_
 rintro vs H Q E ⟨a,ns,e,hf,hl,ht,q⟩
 subst e
 obtain⟨M,e⟩:=h ns hl
 refine⟨λ_=>0,[.cl (ns.map D.int)],[],rfl,⟨λi j hi=>absurd hi (Nat.not_lt_zero _),λi o h=>by simp at h,ht⟩,.cons (.cl hf (Vz ns)) .nil,?_⟩
 rw[e]
 intro ι' v H' _ _ dv
 cases dv
 exact q H'
section
variable{e:Sl}{M:Mem}
@[simp low] theorem ar6(h:e[i]? = some (some d)):aq i e M= .ok d M:=rG h
@[simp] theorem afO:aq 0 (some d::r) M= .ok d M:=rG rfl
@[simp] theorem aAW:aq 1 (o0::some d::r) M= .ok d M:=rG rfl
@[simp] theorem aAV:aq 2 (o0::o1::some d::r) M= .ok d M:=rG rfl
@[simp] theorem aAU:aq 3 (o0::o1::o2::some d::r) M= .ok d M:=rG rfl
@[simp] theorem aAT:aq 4 (o0::o1::o2::o3::some d::r) M= .ok d M:=rG rfl
@[simp] theorem aAS:aq 5 (o0::o1::o2::o3::o4::some d::r) M= .ok d M:=rG rfl
@[simp] theorem aAR:aq 6 (o0::o1::o2::o3::o4::o5::some d::r) M= .ok d M:=rG rfl
@[simp] theorem aAQ:aq 7 (o0::o1::o2::o3::o4::o5::o6::some d::r) M= .ok d M:=rG rfl
@[simp] theorem aAP:aq 8 (o0::o1::o2::o3::o4::o5::o6::o7::some d::r) M= .ok d M:=rG rfl
@[simp] theorem aAO:aq 9 (o0::o1::o2::o3::o4::o5::o6::o7::o8::some d::r) M= .ok d M:=rG rfl
@[simp] theorem aAY:mC d e M= .ok d M:=id rfl
def bd2{α β γ:Type}(op:α->β->Mem->Out γ)(mb:Sl->Mem->Out β)(e:Sl)(d:α)(M:Mem):Out γ:=(mb e M).bind (op d)
@[simp high] theorem az6{α β γ:Type}{op:α->β->Mem->Out γ}{mb:Sl->Mem->Out β}{d:α}:(Out.ok d M).bind (bd2 op mb e)=(mb e M).bind (op d):=id rfl
@[simp] theorem ase:aR op ma mb e M=(ma e M).bind (bd2 op mb e):=id rfl
def cN{β:Type}(a b:Sl->Mem->β)(e:Sl)(k:Bool)(M:Mem):β:=if k=true then a e M else b e M
@[simp] theorem aBM{β:Type}{a b:Sl->Mem->β}{k:Bool}:cN a b e k M=if k=true then a e M else b e M:=id rfl
@[simp high] theorem aDy{β:Type}{a b:Sl->Mem->Out β}:(Out.ok true M).bind (cN a b e)=a e M:=id rfl
@[simp high] theorem aDz{β:Type}{a b:Sl->Mem->Out β}:(Out.ok false M).bind (cN a b e)=b e M:=id rfl
@[simp high] theorem aBK:zF e (.ok true M) (cN a b e)=a e M:=id rfl
@[simp high] theorem aBL:zF e (.ok false M) (cN a b e)=b e M:=id rfl
def bdB{β:Type}(f:Bool->Mem->Out β)(d:D)(M:Mem):Out β:=(asB d M).bind f
@[simp high] theorem az4{β:Type}{f:Bool->Mem->Out β}{b:Bool}:(Out.ok (.bl b) M).bind (bdB f)=(Out.ok b M).bind f:=id rfl
def mFl:MT:=λ_ M=> .ok false M
@[simp] theorem ayq:mFl e M= .ok false M:=id rfl
@[simp] theorem aeJ:Oc e M= .ok true M:=id rfl
def alz(k:Bool)(M:Mem):Out Bool:= .ok (!k) M
@[simp] theorem ar4:alz k M= .ok (!k) M:=id rfl
def aly(k:Bool)(M:Mem):Out D:= .ok (.bl (!k)) M
@[simp] theorem ar3:aly k M= .ok (.bl (!k)) M:=id rfl
@[simp] theorem ayl:mUn op ma e M=(ma e M).bind op:=id rfl
@[simp] theorem az7:asB (.bl b) M= .ok b M:=id rfl
@[simp] theorem alD:cL m e M=(m e M).bind asB:=id rfl
@[simp] theorem asf:acW t u e M=(t e M).bind (cN u mFl e):=id rfl
@[simp] theorem ayp:mOr t u e M=(t e M).bind (cN Oc u e):=id rfl
@[simp] theorem ar9:aaD t e M=(t e M).bind alz:=id rfl
@[simp] theorem alN:Kq t u e M=(t e M).bind (bdB (cN u (mC (.bl false)) e)):=id rfl
@[simp] theorem ar8:ahs t u e M=(t e M).bind (bdB (cN (mC (.bl true)) u e)):=id rfl
@[simp] theorem alI:acT t e M=(t e M).bind (bdB aly):=id rfl
@[simp] theorem ar_:aJ e M= .ok [] M:=id rfl
def okC(d:D)(ds:List D)(M:Mem):Out (List D):= .ok (d::ds) M
@[simp high] theorem aws:(Out.ok ds M).bind (okC d)= .ok (d::ds) M:=id rfl
@[simp] theorem acU:az m ms e M=(m e M).bind (bd2 okC ms e):=id rfl
theorem Aj:sizeLine=16777216:=sizeLine_eq
def UG(ds:List D)(M:Mem):Out D:=if ds.length<=sizeLine then .ok (.tup ds) M else .bad
@[simp low] theorem arL:UG ds M=if ds.length<=16777216 then .ok (.tup ds) M else .bad:=by unfold UG;rw[Aj]
@[simp] theorem ar7:kh ms e M=(ms e M).bind UG:=id rfl
@[simp high] theorem aAm:(Out.ok [a0] M).bind UG= .ok (.tup [a0]) M:=by simp
@[simp high] theorem aAl:(Out.ok [a0,a1] M).bind UG= .ok (.tup [a0,a1]) M:=by simp
@[simp high] theorem aAk:(Out.ok [a0,a1,a2] M).bind UG= .ok (.tup [a0,a1,a2]) M:=by simp
@[simp high] theorem aAj:(Out.ok [a0,a1,a2,a3] M).bind UG= .ok (.tup [a0,a1,a2,a3]) M:=by simp
@[simp high] theorem aAi:(Out.ok [a0,a1,a2,a3,a4] M).bind UG= .ok (.tup [a0,a1,a2,a3,a4]) M:=by simp
def aeN(ds:List D)(M:Mem):Out D:=if ds.length<=sizeLine then .ok (.ref M.length) (M++[.lst ds])else .bad
@[simp low] theorem asi:aeN ds M=if ds.length<=16777216 then .ok (.ref M.length) (M++[.lst ds])else .bad:=by unfold aeN;rw[Aj]
@[simp high] theorem aAZ:(Out.ok [] M).bind aeN= .ok (.ref M.length) (M++[.lst []]):=by simp
@[simp] theorem asa:yW ms e M=(ms e M).bind aeN:=id rfl
@[simp] theorem asd:aX cs m f e M=(m e M).bind (cO cs f):=id rfl
theorem aW(h:M[n]? = some (.ins c fs))(hc:c∈cs)(hf:fs.lookup f=some d):cO cs f (.ref n) M= .ok d M:=by
 unfold cO;simp only[h,hc,if_true,hf]
def O_(fn:Fn)(ar:Nat)(dv ds:List D)(M:Mem):Out D:=if(ds++dv).length=ar then fn (ds++dv) M else .bad
@[simp low] theorem aqq:O_ fn ar dv ds M=if(ds++dv).length=ar then fn (ds++dv) M else .bad:=id rfl
@[simp high] theorem azY:(Out.ok [a0] M).bind (O_ fn 1 [])=fn [a0] M:=id rfl
@[simp high] theorem azX:(Out.ok [a0,a1] M).bind (O_ fn 2 [])=fn [a0,a1] M:=id rfl
@[simp high] theorem azW:(Out.ok [a0,a1,a2] M).bind (O_ fn 3 [])=fn [a0,a1,a2] M:=id rfl
@[simp] theorem Oa:j9 fn ar dv ms e M=(ms e M).bind (O_ fn ar dv):=id rfl
def callC(fn:Fn)(ar:Nat)(dv:List D)(d:D)(ds:List D)(M:Mem):Out D:=O_ fn ar dv (d::ds) M
@[simp high] theorem aqr:(Out.ok ds M).bind (callC fn ar dv d)=(Out.ok (d::ds) M).bind (O_ fn ar dv):=id rfl
def afL(k:Nat)(m:Str)(fn:Fn)(ar:Nat)(dv:List D)(ms:MA)(e:Sl)(d:D)(M:Mem):Out D:=if cC k m d M=true then(ms e M).bind (callC fn ar dv d)else .bad
@[simp high] theorem alC:(Out.ok d M).bind (afL k m fn ar dv ms e)=if cC k m d M=true then(ms e M).bind (callC fn ar dv d)else .bad:=id rfl
@[simp] theorem alJ:aO k m fn ar dv mo ms e M=(mo e M).bind (afL k m fn ar dv ms e):=id rfl
theorem bM(h:M[n]? = some (.ins k fs))(hf:fs.lookup m=none):cC k m (.ref n) M=true:=by
 unfold cC;simp[h,hf]
def mkR(n:Nat)(r:D)(M:Mem):Out D:=if QH r=true then .ok (.ref n) M else .bad
@[simp] theorem ayi:mkR n r M=if QH r=true then .ok (.ref n) M else .bad:=id rfl
def mkO(kc:Nat)(fn:Fn)(ar:Nat)(dv ds:List D)(M:Mem):Out D:=if(D.ref M.length::(ds++dv)).length=ar then(fn (.ref M.length::(ds++dv)) (M++[.ins kc []])).bind (mkR M.length)else .bad
@[simp high] theorem ayk:(Out.ok ds M).bind (mkO kc fn ar dv)=if(D.ref M.length::(ds++dv)).length=ar then(fn (.ref M.length::(ds++dv)) (M++[.ins kc []])).bind (mkR M.length)else .bad:=id rfl
@[simp] theorem alK:wC kc fn ar dv ms e M=(ms e M).bind (mkO kc fn ar dv):=id rfl
@[simp] theorem ajh:QH .non=true:=id rfl
@[simp] theorem ayr:Vr op ms e M=(ms e M).bind op:=id rfl
def bmO(T:String)(op:D->List D->Mem->Out D)(ms:MA)(e:Sl)(d:D)(M:Mem):Out D:=if Wo T d M=true then(ms e M).bind (op d)else .bad
@[simp high] theorem az3:(Out.ok d M).bind (bmO T op ms e)=if Wo T d M=true then(ms e M).bind (op d)else .bad:=id rfl
@[simp] theorem ays:mBM T op mo ms e M=(mo e M).bind (bmO T op ms e):=id rfl
def bd3(op:D->Option Int->Option Int->Mem->Out D)(lo hi:MO')(e:Sl)(d:D)(M:Mem):Out D:=(lo e M).bind (bd2 (op d) hi e)
@[simp] theorem az5{op:D->Option Int->Option Int->Mem->Out D}{lo hi:MO'}:bd3 op lo hi e d M=(lo e M).bind (bd2 (op d) hi e):=id rfl
@[simp] theorem ayn{lo hi:MO'}:mSl m lo hi e M=(m e M).bind (bd3 sSl lo hi e):=id rfl
@[simp] theorem alH:acS m e M=(m e M).bind asI:=id rfl
@[simp] theorem aht:Sy e M= .ok none M:=id rfl
@[simp] theorem auQ:asI (.int i) M= .ok (some i) M:=id rfl
@[simp] theorem alL:wD m e M=(m e M).bind Te:=id rfl
@[simp] theorem ano:Te (.tup ds) M= .ok ⟨none,ds⟩ M:=id rfl
theorem uB(h:M[n]? = some (.lst ds)):Te (.ref n) M= .ok ⟨some (n,ds),ds⟩ M:=by simp only[Te,g_ h]
@[simp] theorem alG:QC ms e M=(ms e M).bind PJ:=id rfl
@[simp] theorem alF:acR ms e M=(ms e M).bind acd:=id rfl
theorem Hf(h: -(2 ^ 62)<=j)(h2:j<2 ^ 24):PJ [.int j] M= .ok ⟨none,yK 0 j.toNat⟩ M:=by simp only[PJ];rw[if_pos ⟨h,h2⟩]
def cpO(tt:MT)(te:ME)(ce:Sl)(it:Itm)(M:Mem):Out D:=yF it.src tt te ce it.ds [] M
@[simp] theorem azJ:cpO tt te ce it M=yF it.src tt te ce it.ds [] M:=id rfl
@[simp] theorem acV:yX js mi tt te e M=(mi e M).bind (cpO tt te (qW js e)):=id rfl
@[simp] theorem JX:Th C g (.int i) (.int j) M=if C i j=true then .ok (g i j) M else .bad:=id rfl
@[simp] theorem akc:vf (.int i) (.int j) M= .ok (.int (i+j)) M:=id rfl
@[simp] theorem aj0:abW (.int i) (.int j) M= .ok (.int (i - j)) M:=id rfl
@[simp] theorem M8:aaa (.int i) (.int j) M= .ok (.int (Builtin.bitAnd i j)) M:=id rfl
@[simp] theorem YJ:sOr (.int i) (.int j) M= .ok (.int (Builtin.bitOr i j)) M:=id rfl
@[simp] theorem arU:sLt (.int i) (.int j) M= .ok (.bl (decide (i<j))) M:=id rfl
@[simp] theorem aj5:agy (.int i) (.int j) M= .ok (.bl (decide (i<=j))) M:=id rfl
@[simp] theorem aj9:WT (.int i) (.int j) M= .ok (.bl (decide (j<i))) M:=id rfl
@[simp] theorem aj_:Z_ (.int i) (.int j) M= .ok (.bl (decide (j<=i))) M:=id rfl
theorem ab0(h:(-(2 ^ 64)<i/\i<2 ^ 64)\/(-(2 ^ 64)<j/\j<2 ^ 64)):ad2 (.int i) (.int j) M= .ok (.int (i*j)) M:=by
 refine tO ?_;unfold ab2;rw[JX,if_pos (by unfold aiW;exact zag h)]
theorem Va(h:0<j)(h2:j<1073741824):Vb (.int i) (.int j) M= .ok (.int (i / j)) M:=by
 unfold Vb;rw[JX,if_pos (by unfold aiX;exact zag ⟨h,h2⟩)]
theorem Cp(h:0<j):Gm (.int i) (.int j) M= .ok (.int (i % j)) M:=by
 unfold Gm;rw[JX,if_pos (by unfold aqx;exact zag h)]
theorem abX(h:0<=j/\j<=1000000/\i.natAbs<2 ^ 64):abY (.int i) (.int j) M= .ok (.int (i ^ j.toNat)) M:=by
 unfold abY;rw[JX,if_pos (by unfold aa7;exact zag h)]
@[simp] theorem aj2:agv (.int i) M= .ok (.int (-i)) M:=id rfl
theorem Tz(h:pH M 12 d=some a)(h':pH M 12 d'=some b):Zt M d d'=some (pN a b):=by unfold Zt;rw[h,h']
theorem Jr(h:Zt M d d'=some b):sEq d d' M= .ok (.bl b) M:=by unfold sEq;rw[h]
theorem MK(h:Zt M d d'=some b):sNe d d' M= .ok (.bl (!b)) M:=by unfold sNe;rw[h]
theorem Zr:Zt M (.int i) (.int j)=some (decide (i=j)):=by
 rw[Tz (a:= .int i) (b:= .int j) rfl rfl];unfold pN;rw[Bool.beq_eq_decide_eq]
theorem Zq:Zt M (.str i) (.str j)=some (decide (i=j)):=by
 rw[Tz (a:= .str i) (b:= .str j) rfl rfl];unfold pN;rw[Bool.beq_eq_decide_eq]
@[simp] theorem arZ:sEq (.int i) (.int j) M= .ok (.bl (decide (i=j))) M:=Jr Zr
@[simp] theorem arT:sNe (.int i) (.int j) M= .ok (.bl (!decide (i=j))) M:=MK Zr
@[simp] theorem arY:sEq (.str i) (.str j) M= .ok (.bl (decide (i=j))) M:=Jr Zq
@[simp] theorem arS:sNe (.str i) (.str j) M= .ok (.bl (!decide (i=j))) M:=MK Zq
theorem O2(h:pH M 12 d=some t):Zt M d d=some true:=by rw[Tz h h,Ip]
@[simp] theorem arW:sIs d .non M= .ok (.bl (isN d)) M:=id rfl
@[simp] theorem agC:M5 d .non M= .ok (.bl (!isN d)) M:=id rfl
@[simp] theorem atr:isN .non=true:=id rfl
@[simp] theorem atu:isN (.int i)=false:=id rfl
theorem Yi{α:Type}{xs:List α}{k:Int}(h:0<=k):Ug xs k=xs[k.toNat]? := by
 unfold Ug ixN
 rw[if_pos h]
 by_cases z:k<xs.length
 ·rw[if_pos z];rfl
 ·rw[if_neg z]
  show none=_
  rw[List.getElem?_eq_none ()]
theorem YL(h0:0<=k)(h:ds[k.toNat]? = some d):jg (.tup ds) (.int k) M= .ok d M:=
 tO (tO (by simp only[U_,Yi h0,h]))
theorem agA(h0:0<=k)(h:ds[k.toNat]? = some d):jg (.cl ds) (.int k) M= .ok d M:=
 tO (tO (by simp only[U_,Ms,Yi h0,h]))
theorem ad3(hM:M[n]? = some (.lst ds))(h0:0<=k)(h:ds[k.toNat]? = some d):jg (.ref n) (.int k) M= .ok d M:=
 tO (tO (by simp only[U_,Ms,g_ hM,Yi h0,h]))
@[simp] theorem aj7:jg (.tup (d::r)) (.int 0) M= .ok d M:=YL (by decide) rfl
@[simp] theorem aj6:jg (.tup (d0::d::r)) (.int 1) M= .ok d M:=YL (by decide) rfl
theorem MP(hM:M[n]? = some (.lst ds)):WR [.ref n] M= .ok (.int ds.length) M:=acI (acI (by simp only[YK,Bo,Ms,g_ hM]))
@[simp] theorem arV:WR [.cl ds] M= .ok (.int ds.length) M:=id rfl
theorem Jq(hM:M[n]? = some (.lst ds)):MN [.ref n] M= .ok (.ref M.length) (M++[.lst ds]):=by simp only[MN,Bo,Ms,g_ hM]
theorem MJ(hM:M[n]? = some (.lst ds)):Cm [.ref n] M= .ok (.tup ds) M:=by simp only[Cm,ago,Bo,Ms,g_ hM]
theorem Ke(hM:M[n]? = some (.lst ds))(h:ds.length<16777216):w6 (.ref n) [d] M= .ok .non (M.set n (.lst (ds++[d]))):=by
 simp only[w6,hM];rw[Aj,if_pos h]
theorem Mh(hM:M[n]? = some (.lst ds)):Wo "list" (.ref n) M=true:=by simp[Wo,g_ hM]
@[simp] theorem arK:Wo "int" (.int i) M=true:=id rfl
@[simp] theorem ai8:YM (.int i) [] M= .ok (.int (Builtin.Int.intBits i:Nat)) M:=id rfl
@[simp] theorem adH:ab5 [.int i,.ty "bool"] M= .ok (.bl false) M:=by unfold ab5;rfl
@[simp] theorem aj1:jf e M= .next e M:=id rfl
noncomputable def jR.seq(o:jR)(t:MS):jR:=match o with
 | .next e M=>t e M
 | .ret d M=> .ret d M
 | .brk e M=> .brk e M
 | .cont e M=> .cont e M
 | .exc c d e M=> .exc c d e M
 | .bad=> .bad
@[simp] theorem YH:aQ s t e M=(s e M).seq t:=by
 unfold aQ jR.seq
 cases s e M<;>rfl
@[simp] theorem abR:(jR.next e M).seq t=t e M:=id rfl
@[simp] theorem ad0:(jR.ret d M).seq t= .ret d M:=id rfl
@[simp] theorem arP:(jR.exc c d e M).seq t= .exc c d e M:=id rfl
@[simp] theorem aka:j8 m e M=zF e (m e M) λ_ M1=> .next e M1:=id rfl
@[simp] theorem ad1:dZ m e M=zF e (m e M) .ret:=id rfl
@[simp] theorem awe:Gn c s t e M=zF e (c e M) (cN s t e):=id rfl
noncomputable def tgO(o:Option Sl)(M:Mem):jR:=match o with
 | some e'=> .next e' M
 | none=> .bad
def Qf(g:Tg)(e:Sl)(d:D)(M:Mem):jR:=tgO (g d e) M
@[simp] theorem YQ:iw m g e M=zF e (m e M) (Qf g e):=by
 unfold iw Qf tgO;rfl
@[simp high] theorem aBW:zF e (.ok d M) (Qf (gN 1) (o0::o1::r))= .next (o0::some d::r) M:=id rfl
@[simp high] theorem aBV:zF e (.ok d M) (Qf (gN 2) (o0::o1::o2::r))= .next (o0::o1::some d::r) M:=id rfl
@[simp high] theorem aBU:zF e (.ok d M) (Qf (gN 3) (o0::o1::o2::o3::r))= .next (o0::o1::o2::some d::r) M:=id rfl
@[simp high] theorem aBT:zF e (.ok d M) (Qf (gN 4) (o0::o1::o2::o3::o4::r))= .next (o0::o1::o2::o3::some d::r) M:=id rfl
@[simp high] theorem aBS:zF e (.ok d M) (Qf (gN 5) (o0::o1::o2::o3::o4::o5::r))= .next (o0::o1::o2::o3::o4::some d::r) M:=id rfl
@[simp high] theorem aBR:zF e (.ok d M) (Qf (gN 6) (o0::o1::o2::o3::o4::o5::o6::r))= .next (o0::o1::o2::o3::o4::o5::some d::r) M:=id rfl
@[simp high] theorem aBQ:zF e (.ok d M) (Qf (gN 7) (o0::o1::o2::o3::o4::o5::o6::o7::r))= .next (o0::o1::o2::o3::o4::o5::o6::some d::r) M:=id rfl
@[simp high] theorem aBP:zF e (.ok d M) (Qf (gN 8) (o0::o1::o2::o3::o4::o5::o6::o7::o8::r))= .next (o0::o1::o2::o3::o4::o5::o6::o7::some d::r) M:=id rfl
noncomputable def Vp(o:Option Mem)(e:Sl):jR:=match o with
 | some M=> .next e M
 | none=> .bad
@[simp] theorem ajb:Vp (some M) e= .next e M:=id rfl
def fl2(cs:List Nat)(f:Str)(e:Sl)(d o:D)(M:Mem):jR:=Vp (lz cs f d o M) e
@[simp] theorem azy:fl2 cs f e d o M=Vp (lz cs f d o M) e:=id rfl
def fl1(f:D->D->Mem->jR)(mo:ME)(e:Sl)(d:D)(M:Mem):jR:=zF e (mo e M) (f d)
@[simp] theorem azA:fl1 f mo e d M=zF e (mo e M) (f d):=id rfl
@[simp] theorem ab7:dj cs mo mv f e M=zF e (mv e M) (fl1 (fl2 cs f e) mo e):=by
 unfold dj fl1 fl2 Vp;rfl
def foO(g:Tg)(b:MS)(e:Sl)(it:Itm)(M:Mem):jR:=j_ it.src g b it.ds e M
@[simp] theorem azx:foO g b e it M=j_ it.src g b it.ds e M:=id rfl
@[simp] theorem arX:M6 mi g b e M=zF e (mi e M) (foO g b e):=id rfl
@[simp] theorem agk:slots (n+1) (d::ds)=some d::slots n ds:=by
 unfold slots
 simp
@[simp] theorem agj:slots (n+1) []=none::slots n []:=by
 unfold slots
 simp[List.replicate_succ]
@[simp] theorem agi:slots 0 []=[]:=id rfl
noncomputable def acf(o:jR):Out D:=match o with
 | .ret d M=> .ok d M
 | .next _ M=> .ok .non M
 | .exc c d _ M=> .exc c d M
 | _=> .bad
@[simp] theorem ad6:aU n b ds M=acf (b (slots n ds) M):=by
 unfold aU acf
 cases b (slots n ds) M<;>rfl
@[simp] theorem ace:acf (.ret d M)= .ok d M:=id rfl
@[simp] theorem ake:acf (.exc c d e M)= .exc c d M:=id rfl
@[simp] theorem ai9:acf (.next e M)= .ok .non M:=id rfl
end
theorem adt(f:D->D)(hs:lU src M)(hf:∀d∈ds,te (some d::ce) M= .ok (f d) M):yF src Oc te ce ds [] M= .ok (.ref M.length) (M++[.lst (ds.map f)]):=by
 have key:∀(ds ys:List D),(∀d∈ds,te (some d::ce) M= .ok (f d) M)->yF src Oc te ce ds ys M= .ok (.ref M.length) (M++[.lst (ys++ds.map f)]):=by
  intro ds
  induction ds with
  | nil=>intro ys _;unfold yF;rw[if_pos hs];simp
  | cons d r ih=>
   intro ys h
   unfold yF
   rw[if_pos hs,aeJ,z9,Out.d7]
   simp only[if_true]
   rw[h d xB,z9,Out.d7,ih _ λx hx=>h x (yT _ hx)]
   simp
 have:=key ds [] hf
 simpa using this
theorem YS{lo:Int}{n i:Nat}(h:(yK lo n)[i]? = some d):i<n/\d= .int (lo+i):=by
 unfold yK at h
 rw[zam]at h
 obtain⟨k,hk,rfl⟩:=Option.map_eq_some_iff.mp h
 obtain⟨hi,e⟩:=List.getElem?_eq_some_iff.mp hk
 simp at hi e
 exact⟨hi,by rw[<-e]⟩
section
variable{X:Cx}{ct:Nat->Addr}{W:bf}
noncomputable def one(ds:List D)(c:Nat)(e:Sl)(M:Mem):jR:=match ds with
 | [d]=> .exc c d e M
 | _=> .bad
noncomputable def sRz(c:Nat)(ms:MA):MS:=λe M=>zF e (ms e M) λds M1=>one ds c e M1
theorem U3(Mx:XMk X.K (ct c) f)(hX:zA X.K (ct c) "at")(F:g8 X.prog X.w X.K X.mg X.base CX0 k f fd ps (DG X.K "at"))(hr:jT (k+1) X.A)(hb:Binds X.K fd ps [])
  (hg:Gl X x) (hm:X.mg x=some (.ref (ct c))) (hc:X.calm=true) (hW:Tk X W) (ha:SA X ct W [arg] ms) (hdb:(x==("__debug__" : Str))=false:=by decide) (he:starEach [arg] X.env=[(false,eval arg X.env)]:=by rfl):
  SS X ct W (.Raise (some (.Call (.Name x np) [arg] [] cpos)) none pos) (sRz c ms):=PS.imp (acq Mx hX F hr hb hg hm hc hW ha hdb he) λT σ H q=>by
 obtain⟨ι,e,M,w,p⟩:=wX (rel:=Hh X.K ct) (f:=λds e M1=>one ds c e M1) q
 refine⟨ι,e,M,w,p.mono ?_⟩
 rintro vs H1 ⟨cF,e1,M1,ds,w1,q1,p1⟩
 unfold one at p1
 split at p1
 ·rename_i d
  obtain⟨v,rfl,qv⟩:=O4 q1
  refine⟨v,rfl,λdx hd=> ?_⟩
  have x2:Ext X.K cF M1.length H1 cF M1.length (upd H1 dx (.xd [("at",v)])):=Ext.fresh hd
  exact p1 cF σ dx v _ x2 (w1.ext x2 (w1.rl.fresh hd)) aM (qv.mono x2)
 ·exact p1.elim
def ZF(K:Frag)(ct:Nat->Addr)(cv:Value):List (Nat×Bool)->Prop
 | []=>True
 | (c,b)::r=>exmOne K (.ref (ct c)) cv=some b/\ZF K ct cv r
theorem ZF.get{K:Frag}{cv:Value}:∀{cl:List (Nat×Bool)} {c:Nat} {b:Bool},ZF K ct cv cl->cl.lookup c=some b->exmOne K (.ref (ct c)) cv=some b
 | [],_,_,_,h=>by simp at h
 | (k,b')::r,c,b,⟨h1,h2⟩,h=>by
  rw[List.lookup_cons]at h
  cases z:c==k with
  | true=>rw[z]at h;cases h;cases(beq_iff_eq.mp z);exact h1
  | false=>rw[z]at h;exact h2.get h
noncomputable def jR.noX(o:jR):jR:=match o with
 | .exc _ _ _ _=> .bad
 | o=>o
noncomputable def jR.less(i:Nat)(o:jR):jR:=match o with
 | .next e M=> .next (e.set i none) M
 | .brk e M=> .brk (e.set i none) M
 | .cont e M=> .cont (e.set i none) M
 | .ret d M=> .ret d M
 | .exc _ _ _ _=> .bad
 | .bad=> .bad
noncomputable def abA(cl:List (Nat×Bool))(h:Nat->D->Sl->Mem->jR)(o:jR):jR:=match o with
 | .exc c d e M=>match cl.lookup c with
  | some true=>h c d e M
  | some false=> .exc c d e M
  | none=> .bad
 | o=>o
noncomputable def RD(i:Nat)(cl:List (Nat×Bool))(b s:MS):MS:=λe M=>abA cl (λc d e' M'=>(s (e'.set i (some (.exc c d))) M').less i) (b e M)
theorem zB.less{K:Frag}{ι:Nat->Addr}{n i:Nat}{H:Hp}{o:jR}{T:Ends}(h:zB K ct W ι n H (o.less i) T):zB K ct W0 ι n H o (Ends.less T i):=by
 cases o with
 | exc c d e M=>exact False.elim h
 | next e M=>exact λι' σ' H' x w=>h ι' _ H' x (w.clear i)
 | ret e M=>exact h
 | brk e M=>exact λι' σ' H' x w=>h ι' _ H' x (w.clear i)
 | cont e M=>exact λι' σ' H' x w=>h ι' _ H' x (w.clear i)
 | bad=>exact h
variable{c:Str}{cp hpos pos:Pos}{b₀:Stmt}{suite body:List Stmt}{b s:MS}{cl:List (Nat×Bool)}{cv:Value}{v:V}
theorem abK(hst:X.stack=X.env::X.outer)(hf:X.env.frame=some X.env.locals)(hx:Tk X W)(hv:∀u,RelV v u->u=cv)(hn:∀e,PE (X.held e) (.Name c cp) (tC v))(hm:ZF X.K ct cv cl)
  (nd:X.N.Nodup) (hi:X.N[i]? = some n) (hl:X.env.scope.names.lookup n=some .local) (hk:X.env.kindOf n=some .local)
  (hb:∀pins W1,SSs ((X.pp pins).wish (jt (X.pp pins) W1)) ct W1 body b) (hs:∀e,SSs (X.held e) ct W0 (b₀::suite) s):
  SS X ct W (.Try body [.ExceptHandler (some (.Name c cp)) (some n) (b₀::suite) hpos] [] [] pos) (RD i cl b s):=
 PS.imp (acp (tb:=λW1=>tS X.K ct W1 b) (ts:=tS X.K ct W0 s) hst hf hx hv hn nd hi hl hk hb hs) λT σ H ⟨ι,e,M,w,p⟩=>by
  refine⟨ι,e,M,w,?_⟩
  unfold RD at p
  cases z:b e M with
  | exc xc xd xe xM=>
   rw[z]at p
   simp only[abA]at p
   cases z2:cl.lookup xc with
   | none=>simp only[z2]at p;exact p.elim
   | some k=>
    simp only[z2]at p
    have e2:=hm.get z2
    cases k with
    | false=>exact λι' σ' dx v' H' x w' q1 q2=>⟨false,e2,p ι' σ' dx v' H' x w' q1 q2⟩
    | true=>
     refine λι' σ' dx v' H' x w' q1 q2=>⟨true,e2,?_⟩
     show ∀a,H' a=none->_
     intro a ha
     have x2:Ext X.K ι' xM.length H' ι' xM.length (upd H' a (xC a (ct xc) dx)):=Ext.fresh ha
     have w2:=w'.ext x2 (w'.rl.fresh ha)
     have dvx:DV X.K ct ι' xM.length (upd H' a (xC a (ct xc) dx)) (.exc xc xd) (.ref a):= .exc aM (x2.xd _ _ q1) (q2.mono x2)
     exact⟨ι',_,xM,w2.set i dvx,(zB.less p).ext (x.trans x2)⟩
  | next _ _=>rw[z]at p;exact p
  | ret _ _=>rw[z]at p;exact p
  | brk _ _=>rw[z]at p;exact p
  | cont _ _=>rw[z]at p;exact p
  | bad=>rw[z]at p;exact p
def afq(K:Frag)(ct:Nat->Addr):List Nat->Prop
 | []=>True
 | c::r=>(zA K (ct c) "at" /\ XIs K (ct c))/\afq K ct r
theorem afq.get{K:Frag}:∀{cs:List Nat} {c:Nat},afq K ct cs->c∈cs->zA K (ct c) "at" /\ XIs K (ct c)
 | [],_,_,h=>by simp at h
 | c::cs,d,⟨a,r⟩,h=>by
  rcases List.mem_cons.mp h with e | e
  ·subst e;exact a
  ·exact r.get e
noncomputable def Ut(cs:List Nat)(d:D)(M:Mem):Out D:=match d with
 | .exc c x=>if c∈cs then .ok x M else .bad
 | _=> .bad
noncomputable def ahr(cs:List Nat)(m:ME):ME:=λe M=>(m e M).bind (Ut cs)
theorem agp(hc:afq X.K ct cs)(ha:SE X ct W a ma)(hb:attributeBase a "at" X.env (eval a X.env)=eval a X.env:=by rfl):SE X ct W (.Attribute a "at" pos) (ahr cs ma):=fX (agU ha hb) λσ H Q q=>by
 obtain⟨ι,e,M,w,p⟩:=b7 (fY:=eE X.K ct) (f:=λd _ M1=>Ut cs d M1) q
 refine⟨ι,e,M,w,p.mono ?_⟩
 rintro x H1 ⟨cF,e1,M1,d,w1,q1,p1⟩
 cases q1 with
 | @exc a dx c d v h1 h2 h3=>
  simp only[Ut]at p1
  by_cases z:c∈cs
  ·rw[if_pos z]at p1
   exact⟨a,ct c,dx,_,v,rfl,h1,h2,(hc.get z).1,(hc.get z).2.gn,rfl,p1 cF v H1 .refl w1.rl h3⟩
  ·rw[if_neg z]at p1;exact p1.elim
 | _=>exact p1.elim
def ZK(K:Frag)(ct:Nat->Addr)(cv:Value):List (Nat×Bool)->Prop
 | []=>True
 | (c,b)::r=>(kitOne K (.ref (ct c)) cv=some b/\zA K (ct c) "at" /\ XIs K (ct c))/\ZK K ct cv r
theorem ZK.get{K:Frag}{cv:Value}:∀{cl:List (Nat×Bool)} {c:Nat} {b:Bool},ZK K ct cv cl->cl.lookup c=some b->kitOne K (.ref (ct c)) cv=some b/\zA K (ct c) "at" /\ XIs K (ct c)
 | [],_,_,_,h=>by simp at h
 | (k,b')::r,c,b,⟨h1,h2⟩,h=>by
  rw[List.lookup_cons]at h
  cases z:c==k with
  | true=>rw[z]at h;cases h;cases(beq_iff_eq.mp z);exact h1
  | false=>rw[z]at h;exact h2.get h
noncomputable def Z8(k:D)(cl:List (Nat×Bool)):V4:=λds M=>match ds with
 | [.exc c _,.cls k']=>match k with
  | .cls k=>if k=k' then(match cl.lookup c with
   | some b=> .ok (.bl b) M
   | none=> .bad)else .bad
  | _=> .bad
 | [.exc c _,.ty n']=>match k with
  | .ty n=>if n=n' then(match cl.lookup c with
   | some b=> .ok (.bl b) M
   | none=> .bad)else .bad
  | _=> .bad
 | _=> .bad
theorem adq(h:ZK X.K ct (.ref (ct k)) cl):wR X ct (.builtin "isinstance") (Z8 (.cls k) cl):=by
 refine⟨_,adu (f:= "at"),λι M H ds vs Q R hd p=> ?_⟩
 unfold Z8 at p
 split at p
 ·rename_i c d k'
  obtain⟨v,v',rfl,q,q'⟩:=adl hd
  cases q'
  dsimp only at p
  by_cases z:k=k'
  ·subst z
   rw[if_pos rfl]at p
   cases z2:cl.lookup c with
   | none=>rw[z2]at p;exact p.elim
   | some b=>
    rw[z2]at p
    cases q with
    | @exc a dx c d v h1 h2 h3=>
     exact⟨a,ct c,dx,_,.ref (ct k),.ref (ct k),b,rfl,rfl,h1,h2,(h.get z2).2.1,(h.get z2).2.2,(h.get z2).1,p ι _ H .refl R (.bl b)⟩
  ·rw[if_neg z]at p;exact p.elim
 ·exact p.elim
 ·exact p.elim
end
section
variable{e:Sl}{M:Mem}{c:Nat}{d:D}
@[simp] theorem awb:sRz c ms e M=zF e (ms e M) λds M1=>one ds c e M1:=id rfl
@[simp] theorem awr:one [d] c e M= .exc c d e M:=id rfl
@[simp] theorem ai6:RD i cl b s e M=abA cl (λc d e' M'=>(s (e'.set i (some (.exc c d))) M').less i) (b e M):=id rfl
theorem abz(z:cl.lookup c=some true):abA cl h (.exc c d e M)=h c d e M:=by simp only[abA,z]
@[simp] theorem ajf:(jR.next e M).less i= .next (e.set i none) M:=id rfl
@[simp] theorem ar5:ahr cs m e M=(m e M).bind (Ut cs):=id rfl
@[simp] theorem aju:Ut cs (.exc c d) M=if c∈cs then .ok d M else .bad:=id rfl
@[simp] theorem ajZ:Z8 (.cls k) cl [.exc c d,.cls k] M=match cl.lookup c with
  | some b=> .ok (.bl b) M
  | none=> .bad:=by simp[Z8]
end
section
variable{X:Cx}{ct:Nat->Addr}{W:bf}{pos:Pos}
noncomputable def Kp:ME:=λ_ M=> .ok (.ref M.length) (M++[.dk []])
theorem DP:SE X ct W (.Dict [] [] pos) Kp:=fX acD λσ H Q ⟨ι,e,M,w,p⟩ pp hp=>by
 have el:(M++[MO.dk []]).length=M.length+1:=by simp
 have x:Ext X.K ι M.length H (lF ι M.length pp) (M.length+1) (upd H pp (.dK [])):=Ext.new hp
 have e0:(lF ι M.length pp) M.length=pp:=by unfold lF;rw[if_pos rfl]
 have dv:DV X.K ct (lF ι M.length pp) (M++[MO.dk []]).length (upd H pp (.dK [])) (.ref M.length) (.ref pp):=by
  have:=DV.ref (K:=X.K) (ct:=ct) (ι:=lF ι M.length pp) (n:=(M++[MO.dk []]).length) (H:=upd H pp (.dK [])) (i:=M.length) (by rw[el];lia)
  rw[e0]at this
  exact this
 exact p (lF ι M.length pp) (.ref pp) _ (by rw[el];exact x) (w.rl.new hp ⟨[],aM,.nil⟩) dv
noncomputable def aBc(d:D)(M:Mem):Bool:=match d with
 | .ref n=>match M[n]? with
  | some (.dk _)=>true
  | some (.dt _)=>true
  | _=>false
 | _=>false
variable{o e f i value:Expr}{mo mk mx mv:ME}{apos cpos pos':Pos}
noncomputable def TV(M:Mem)(o k d:D):Option Mem:=match o with
 | .ref n=>match M[n]? with
  | some (.dk kvs)=>match toKey k with
   | some kk=>if kvs.length<sizeLine then some (M.set n (.dk (aag kvs kk d)))else none
   | none=>match k with
    | .tup ds=>match toKeys ds with
     | some ks=>if kvs.isEmpty=true then some (M.set n (.dt [(ks,d)]))else none
     | none=>none
    | _=>none
  | some (.dt kvs)=>match k with
   | .tup ds=>match toKeys ds with
    | some ks=>if kvs.length<sizeLine then some (M.set n (.dt (aag kvs ks d)))else none
    | none=>none
   | _=>none
  | _=>none
 | _=>none
theorem ae_(R:Rl X.K ct ι M H)(h:TV M (.ref n) k d=some M')(hn:n<M.length)(qk:DV X.K ct ι M.length H k vk)(qd:DV X.K ct ι M.length H d vd):
  ∃H',arE H (ι n) vk vd H'/\Ext X.K ι M.length H ι M'.length H'/\Rl X.K ct ι M' H':=by
 simp only[TV]at h
 split at h
 ·rename_i kvs e
  obtain⟨vs,hH,pv⟩:=R.obj n _ e
  split at h
  ·rename_i kk ek
   split at h
   ·rename_i hz
    cases h
    have:=Mi ek qk
    subst this
    have x2:Ext X.K ι M.length H ι M.length (upd H (ι n) (.dK (putK vs kk vd))):=Ext.chg hH (λ_ z=>nomatch z) (λ_ _ z=>nomatch z)
    exact⟨_,.inl (Uq.k hH (by rw[pv.length];exact hz)),by rw[List.length_set];exact x2,R.chg hn hH (λ_ z=>nomatch z) (λ_ _ z=>nomatch z) ⟨_,aM,(pv.put qd kk).mono x2⟩⟩
   ·cases h
  ·split at h
   ·rename_i ds
    split at h
    ·rename_i ks eks
     split at h
     ·rename_i hem
      cases h
      have ek:kvs=[]:=List.isEmpty_iff.mp hem
      subst ek
      cases pv
      obtain⟨b,xs,rfl,hb,hd⟩:=vI qk
      have ex:=yO eks hd
      subst ex
      have x2:Ext X.K ι M.length H ι M.length (upd H (ι n) (.dT [(ks,vd)])):=Ext.chg hH (λ_ z=>nomatch z) (λ_ _ z=>nomatch z)
      exact⟨_,.inr ⟨ks,b,hH,rfl,hb,rfl⟩,by rw[List.length_set];exact x2,R.chg hn hH (λ_ z=>nomatch z) (λ_ _ z=>nomatch z) ⟨_,aM,.cons (qd.mono x2) .nil⟩⟩
     ·cases h
    ·cases h
   ·cases h
 ·rename_i kvs e
  obtain⟨vs,hH,pv⟩:=R.obj n _ e
  split at h
  ·rename_i ds
   split at h
   ·rename_i ks eks
    split at h
    ·rename_i hz
     cases h
     obtain⟨b,xs,rfl,hb,hd⟩:=vI qk
     have ex:=yO eks hd
     subst ex
     have x2:Ext X.K ι M.length H ι M.length (upd H (ι n) (.dT (putK vs ks vd))):=Ext.chg hH (λ_ z=>nomatch z) (λ_ _ z=>nomatch z)
     exact⟨_,.inl (Uq.t hH hb (by rw[pv.length];exact hz)),by rw[List.length_set];exact x2,R.chg hn hH (λ_ z=>nomatch z) (λ_ _ z=>nomatch z) ⟨_,aM,(pv.put qd ks).mono x2⟩⟩
    ·cases h
   ·cases h
  ·cases h
 ·cases h
noncomputable def M7(mo mk mv:ME):MS:=λe M=>zF e (mv e M) λd M1=>zF e (mo e M1) λo M2=>zF e (mk e M2) λk M3=>Vp (TV M3 o k d) e
theorem Rt(hu:X.A.units+64<cLine)(ho:SE X ct W o mo)(hi:SE X ct W i mk)(hv:SE X ct W value mv)(hs:swapsWith value (some (.Subscript o i pos')) pos.line X.env=pure false:=by rfl):
  SS X ct W (.Assign [.Subscript o i pos'] value pos) (M7 mo mk mv):=PS.imp (aek () ho hi hv hs) λT σ H q=>by
 obtain⟨ι,e,M,w,p⟩:=wX (rel:=eE X.K ct) (f:=λd e M1=>zF e (mo e M1) λo M2=>zF e (mk e M2) λk M3=>Vp (TV M3 o k d) e) q
 refine⟨ι,e,M,w,p.mono ?_⟩
 rintro vd H1 ⟨cF,e1,M1,d,w1,q1,p1⟩
 refine⟨cF,e1,M1,w1,?_⟩
 cases z:mo e1 M1 with
 | bad=>simp only[z,Ls]at p1;exact p1
 | exc xc xd xM=>simp only[z,Lr]at p1;exact λlM dx v H2 x r q1 q2=>p1 lM σ dx v H2 x (w1.ext x r) q1 q2
 | ok o' M2=>
  simp only[z,Ny]at p1
  intro lM vo H2 x2 r2 q2
  have p2:=p1.ext x2
  have w2:=w1.ext x2 r2
  refine⟨lM,e1,M2,w2,?_⟩
  cases z2:mk e1 M2 with
  | bad=>simp only[z2,Ls]at p2;exact p2
  | exc xc xd xM=>simp only[z2,Lr]at p2;exact λPr dx v H3 x r q1 q2=>p2 Pr σ dx v H3 x (w2.ext x r) q1 q2
  | ok k M3=>
   simp only[z2,Ny]at p2
   intro Pr vk H3 x3 r3 q3
   have p3:=p2.ext x3
   have w3:=w2.ext x3 r3
   cases z3:TV M3 o' k d with
   | none=>rw[z3]at p3;exact p3.elim
   | some M4=>
    rw[z3]at p3
    cases o' with
    | ref n=>
     obtain⟨hn,rfl⟩:=nC q2
     have hn3:n<M3.length:=yA hn x3.le
     obtain⟨H4,g,x4,r4⟩:=ae_ r3 z3 hn3 q3 ((q1.mono x2).mono x3)
     refine⟨_,H4,rfl,?_,p3 Pr σ H4 x4 (w3.ext x4 r4)⟩
     rw[<-x3.same n hn]
     exact g
    | _=>simp only[TV]at z3;cases z3
end
section
variable{e:Sl}{M:Mem}
@[simp] theorem alM:Kp e M= .ok (.ref M.length) (M++[.dk []]):=id rfl
def ds3(p:Mem->D->D->D->Option Mem)(e:Sl)(d o k:D)(M:Mem):jR:=Vp (p M o k d) e
@[simp] theorem azC:ds3 p e d o k M=Vp (p M o k d) e:=id rfl
def ds2(p:Mem->D->D->D->Option Mem)(mk:ME)(e:Sl)(d o:D)(M:Mem):jR:=zF e (mk e M) (ds3 p e d o)
@[simp] theorem azE:ds2 p mk e d o M=zF e (mk e M) (ds3 p e d o):=id rfl
@[simp] theorem ai7:M7 mo mk mv e M=zF e (mv e M) (fl1 (ds2 TV mk e) mo e):=id rfl
theorem adp(h:M[n]? = some (.dk kvs)):X4 M n (.int s)=some (Ce kvs (.inl s),M):=by simp only[X4,h,toKey]
end
section
variable{X:Cx}{ct:Nat->Addr}{W:bf}{pos:Pos}
noncomputable def af8(K:Frag)(ct ι:Nat->Addr)(M:Mem)(H:Hp)(n:Nat)(σ:St)(o:Option Sl)(Q:St->Hp->Prop):Prop:=match o with
 | some e'=>∀σ',Ws K ct ι e' M σ' H->(σ'.length=σ.length/\σ'.drop n=σ.drop n)->Q σ' H
 | none=>False
def tTN(K:Frag)(ct:Nat->Addr)(n:Nat)(g:Tg):TG:=λv σ H Q=>∃ι e M d,Ws K ct ι e M σ H/\DV K ct ι M.length H d v/\af8 K ct ι M H n σ (g d e) Q
def au7(K:Frag)(ct:Nat->Addr)(n:Nat)(g:Tgs):TGs:=λvs σ H Q=>∃ι e M ds,Ws K ct ι e M σ H/\nU K ct ι M.length H ds vs/\af8 K ct ι M H n σ (g ds e) Q
def SN(X:Cx)(ct:Nat->Addr)(n:Nat)(tg:Expr)(g:Tg):Prop:=PG X tg (tTN X.K ct n g)
def SNs(X:Cx)(ct:Nat->Addr)(n:Nat)(tg:List Expr)(g:Tgs):Prop:=PGs X tg (au7 X.K ct n g)
theorem Lk(hN:X.N.Nodup)(hi:X.N[i]? = some x)(hx:Loc X.env.scope x)(hin:i<n)(hf:X.fn x=true\/X.env.scope.names.lookup x=some .local:=by first | exact .inl rfl | exact .inr rfl | assumption):SN X ct n (.Name x pos) (gN i):=
 PG.imp (RQ hN hi hx hf) λv σ H Q ⟨ι,e,M,d,w,q,p⟩=>p _ (w.set i q) ⟨List.length_set,List.drop_set_of_lt hin⟩
theorem YD{n:Nat}:SNs X ct n [] QM:=PGs.imp Y6 λvs σ H Q ⟨ι,e,M,ds,w,q,p⟩=>by
 cases q with
 | nil=>exact⟨rfl,p σ w ⟨rfl,rfl⟩⟩
 | cons _ _=>exact p.elim
theorem G8{n:Nat}{es:List Expr}(h1:SN X ct n a g)(h2:SNs X ct n es gs)
  (hs:(assignEach (a::es) X.env).map (·.2)=assign a X.env::(assignEach es X.env).map (·.2):=by rfl):SNs X ct n (a::es) (sY g gs):=PGs.imp (Vh h1 h2 hs) λvs σ H Q ⟨ι,e,M,ds,w,q,p⟩=>by
 cases q with
 | nil=>exact p.elim
 | @cons d x ds xs h hs=>
  refine⟨x,xs,rfl,ι,e,M,d,w,h,?_⟩
  simp only[sY]at p
  cases z:g d e with
  | none=>rw[z]at p;exact p.elim
  | some e'=>
   rw[z]at p
   refine λσ' w' hd=>⟨ι,e',M,ds,w',hs,?_⟩
   simp only[Option.bind_some]at p
   cases z2:gs ds e' with
   | none=>rw[z2]at p;exact p.elim
   | some e2=>rw[z2]at p;exact λσ2 w2 hd2=>p σ2 w2 ⟨hd2.1.trans hd.1,hd2.2.trans hd.2⟩
theorem abM(hc:X.calm=true)(h:SNs X ct m es gs)
  (hn:(assignEach es X.env).length=n:=by rfl) (hst:(assignEach es X.env).findIdx? (·.1)=none:=by rfl):SN X ct m (.Tuple es k pos) (gT n gs):=PG.imp (acy hc h hn hst) λv σ H Q ⟨ι,e,M,d,w,q,p⟩=>by
 cases q with
 | @tup a xs ds hs hd=>
  simp only[gT]at p
  split at p
  ·rename_i hl
   exact⟨a,xs,rfl,zG.of hs,by rw[hd.length];exact hl,ι,e,M,ds,w,hd,p⟩
  ·exact p.elim
 | _=>exact p.elim
noncomputable def Hq(n:Nat):Sl:=List.replicate n none
noncomputable def pZ(src:Option (Nat×List D))(g:Tg)(n:Nat)(tt:MT)(te:ME)(ce:Sl):List D->List D->Mem->Out D
 | [],ys,M=>if lU src M then .ok (.ref M.length) (M++[.lst ys])else .bad
 | d::ds,ys,M=>if lU src M then match g d (Hq n++ce)with
   | some e1=>(tt e1 M).noX.bind λk M1=>if k=true then(te e1 M1).noX.bind λy M2=>pZ src g n tt te ce ds (ys++[y]) M2 else pZ src g n tt te ce ds ys M1
   | none=> .bad
  else .bad
def SJ(n:Nat)(js:List Nat)(mi:MI)(g:Tg)(tt:MT)(te:ME):ME:=λe M=>(mi e M).bind λit M1=>pZ it.src g n tt te (qW js e) it.ds [] M1
theorem Ws.af3{K:Frag}{ι:Nat->Addr}{e:Sl}{M:Mem}{σ:St}{H:Hp}(w:Ws K ct ι e M σ H)(xs:List Str)(js:List Nat):Ws K ct ι (Hq xs.length++qW js e) M (IV xs++L2.caps js σ) H:=by
 refine⟨w.rl,by simp[qW,L2.caps,Hq,IV],λi x hx=> ?_⟩
 rcases Nat.lt_or_ge i xs.length with q | q
 ·rw[zae (by simpa[Hq]using q)]at hx
  simp[Hq,q]at hx
 ·rw[zad (by simpa[Hq]using q)]at hx
  rw[zad (by simpa[IV]using q)]
  have l1:(Hq xs.length).length=xs.length:=by simp[Hq]
  have l2:(IV xs).length=xs.length:=by simp[IV]
  rw[l1]at hx
  rw[l2]
  simp only[qW,zam]at hx
  obtain⟨j,hj,ej⟩:=Option.map_eq_some_iff.mp hx
  cases z:e[j]? with
  | none=>rw[z]at ej;cases ej
  | some o=>
   rw[z]at ej
   cases(show o=some x from ej)
   obtain⟨u,hu,du⟩:=w.env j x z
   refine⟨u,?_,du⟩
   simp only[L2.caps,zam,hj,Option.map_some,hu]
   rfl
theorem ZV(h:tG (eE X.K ct) X.K ct W (SJ xs.length js mi g tt te) σ H Q):Wy xs js (tG (aad X.K ct) X.K ct W mi) (tTN X.K ct xs.length g) (tG Hg X.K ct W0 tt) (tG (eE X.K ct) X.K ct W0 te) σ H Q:=by
 obtain⟨ι,e,M,w,p⟩:=b7 (fY:=aad X.K ct) (f:=λit e M1=>pZ it.src g xs.length tt te (qW js e) it.ds [] M1) h
 refine⟨ι,e,M,w,p.mono ?_⟩
 rintro J H1 ⟨cF,e1,M1,it,w1,q1,p1⟩
 obtain⟨ok1,hz,step⟩:=q1
 refine⟨λi m ys H'=>m=it.ds.length - i/\i<=it.ds.length/\ys.length<=i/\∃ι' M' ds',Ext X.K cF M1.length H1 ι' M'.length H'/\Rl X.K ct ι' M' H'/\nU X.K ct ι' M'.length H' ds' ys/\ju (eE X.K ct) X.K ct (wAt W σ) ι' M'.length H' (pZ it.src g xs.length tt te (qW js e1) (it.ds.drop i) ds' M') Q,
  ⟨it.ds.length,by simp,Nat.zero_le _,zab _,cF,M1,[],.refl,w1.rl,.nil,by simpa using p1⟩,?_⟩
 rintro i m ys H' ⟨rfl,hi,hy,ι',M',ds',x',r',dy,p'⟩
 by_cases hlt:i<it.ds.length
 ·rw[List.drop_eq_getElem_cons hlt]at p'
  unfold pZ at p'
  by_cases ok':lU it.src M'
  ·rw[if_pos ok']at p'
   obtain⟨go,yl⟩:=(step ι' M' H' x' r' ok' i).1 _ (zac hlt)
   refine .inr ⟨go,λys2 H2=>ys2.length<=i+1/\∃lM M2 ds2,Ext X.K cF M1.length H1 lM M2.length H2/\Rl X.K ct lM M2 H2/\nU X.K ct lM M2.length H2 ds2 ys2/\ju (eE X.K ct) X.K ct (wAt W σ) lM M2.length H2 (pZ it.src g xs.length tt te (qW js e1) (it.ds.drop (i+1)) ds2 M2) Q,?_,?_⟩
   ·rintro ys2 H2 ⟨hl2,q2⟩
    exact⟨(),it.ds.length - (i+1),(),rfl,hlt,hl2,q2⟩
   ·intro x H2 y
    obtain⟨x2,r2,dv⟩:=yl x H2 y
    have w2:Ws X.K ct ι' (Hq xs.length++qW js e1) M' (IV xs++L2.caps js σ) H2:=(w1.ext (x'.trans x2) r2).af3 xs js
    have p2:=p'.ext x2
    refine⟨ι',_,M',it.ds[i],w2,dv,?_⟩
    cases zg:g it.ds[i] (Hq xs.length++qW js e1)with
    | none=>rw[zg]at p2;exact p2.elim
    | some eg=>
    rw[zg]at p2
    dsimp only at p2
    intro σ' wg hd
    refine⟨⟨hd.1,by rw[hd.2];simp[IV]⟩,ι',eg,M',wg,?_⟩
    cases z:tt eg M' with
    | bad=>simp only[z,D_,Out.eU]at p2;exact p2
    | exc xc xd xM=>simp only[z,DY,Out.eU]at p2;exact p2.elim
    | ok k M3=>
     simp only[z,z9,Out.d7]at p2
     intro Pr k3 H3 x3 r3 ek
     have Tr:k=k3:=ek;subst Tr
     have p3:=p2.ext x3
     have w3:=wg.ext x3 r3
     have dy3:=(dy.mono x2).mono x3
     cases k with
     | false=>exact⟨(),Pr,M3,ds',(x'.trans x2).trans x3,r3,dy3,p3⟩
     | true=>
      simp only[if_true]at p3 ⊢
      refine⟨Pr,_,M3,w3,?_⟩
      cases z4:te eg M3 with
      | bad=>simp only[z4,D_,Out.eU]at p3;exact p3
      | exc xc xd xM=>simp only[z4,DY,Out.eU]at p3;exact p3.elim
      | ok yy M4=>
       simp only[z4,z9,Out.d7]at p3
       intro ι4 v4 H4 x4 r4 d4
       exact⟨by rw[List.length_append];simp;lia,ι4,M4,ds'++[yy],((x'.trans x2).trans x3).trans x4,r4,(dy3.mono x4).append (.cons d4 .nil),p3.ext x4⟩
  ·rw[if_neg ok']at p'
   exact p'.elim
 ·have e0:i=it.ds.length:=()
  subst e0
  rw[List.drop_length]at p'
  unfold pZ at p'
  by_cases ok':lU it.src M'
  ·rw[if_pos ok']at p'
   exact .inl ⟨(step ι' M' H' x' r' ok' _).2 (zab _),(),λpp hp=>rm r' dy hp p'⟩
  ·rw[if_neg ok']at p'
   exact p'.elim
variable{tg elt iter:Expr}{ifs:List Expr}{scope:Scope}{mi:MI}{g:Tg}{tt:MT}{te:ME}
theorem abL(hc:X.calm=true)(xs cs:List Str)(js:List Nat)(hN:X.N.Nodup)(hk:X.N[k]? = some y)(hy:X.env.scope.names.lookup y=some .local)(hi:SI X ct W tg iter mi)(hcap:uL X scope cs js)(hg:∀cl C fp s H,SN (cV X scope cl C (xs++cs) fp s H) ct xs.length tg g)
  (ht:∀cl C fp s H,STs (cV X scope cl C (xs++cs) fp s H) ct W0 ifs tt) (he:∀cl C fp s H,SE (cV X scope cl C (xs++cs) fp s H) ct W0 elt te)
  (hall:∀y∈scope.names,y.2= .free->y.1∈cs) (hcell:∀y∈scope.names,y.2≠ .cell) (hnames:∀y∈scope.names,y.2= .local->scope.names.lookup y.1=some .local)
  (hsw:swapsWith (.ListComp elt [⟨tg,iter,ifs,0⟩] scope pos) (some (.Name y py)) spos.line X.env=pure true:=by rfl)
  (hkind:scope.kind= .function:=by rfl) (hs:∀v,foldedSetIterable iter X.env v=pure v:=by intro _;rfl):
  SS X ct W (.Assign [.Name y py] (.ListComp elt [⟨tg,iter,ifs,0⟩] scope pos) spos) (iw (SJ xs.length js mi g tt te) (gN k)):=
 PS.imp (acr (g:=tTN X.K ct xs.length g) (tt:=tG Hg X.K ct W0 tt) (te:=tG (eE X.K ct) X.K ct W0 te) hc xs cs js hN hk hy hi hcap (λcl C fp s H=>ht cl C fp s H) (λcl C fp s H=>he cl C fp s H) hall hcell hnames (λcl C fp s H=>hg cl C fp s H) hsw hkind hs) λT σ H q=>Ro (λ_ q=>ZV q) (λv H Q ⟨ι,e,M,d,w,q,p⟩=>p _ (w.set k q)) q
end
section
variable{e:Sl}{M:Mem}
def cpT(n:Nat)(g:Tg)(tt:MT)(te:ME)(ce:Sl)(it:Itm)(M:Mem):Out D:=pZ it.src g n tt te ce it.ds [] M
@[simp] theorem azH:cpT n g tt te ce it M=pZ it.src g n tt te ce it.ds [] M:=id rfl
@[simp] theorem ajd:SJ n js mi g tt te e M=(mi e M).bind (cpT n g tt te (qW js e)):=id rfl
end
theorem Q3(c:D->Bool)(f:D->D):∀{ds ys:List D},lU src M->(∀d∈ds,∃e1,g d (Hq n++ce)=some e1/\tt e1 M= .ok (c d) M/\(c d=true->te e1 M= .ok (f d) M))->
  pZ src g n tt te ce ds ys M= .ok (.ref M.length) (M++[.lst (ys++(ds.filter c).map f)])
 | [],ys,hs,_=>by unfold pZ;rw[if_pos hs];simp
 | d::ds,ys,hs,h=>by
  unfold pZ
  rw[if_pos hs]
  obtain⟨e1,h1,h2,h3⟩:=h d xB
  have ih:=λys=>Q3 (src:=src) (g:=g) (n:=n) (tt:=tt) (te:=te) (ce:=ce) (M:=M) c f (ds:=ds) (ys:=ys) hs λd' hd'=>h d' (yT _ hd')
  rw[h1]
  simp only[h2,z9,Out.d7]
  cases z:c d with
  | true=>simp[h3 z,ih,z]
  | false=>simp[ih,z]
end S
namespace S
theorem Q5:PySem.bootBuiltins "sorted" = some (.builtin "sorted"):=by rfl
open PySem PySem.Spec PyProof.Rows L2
section
variable{X:Cx}{ct:Nat->Addr}{W:bf}{pos:Pos}{K:Frag}{ι:Nat->Addr}{n:Nat}{H:Hp}
noncomputable def Xp:Key->D
 | .inl i=> .int i
 | .inr s=> .str s
open Classical in
theorem SQ:DV K ct ι n H (Xp k) (kV k):=by
 cases k with
 | inl i=>exact .int i
 | inr s=>exact .str s
theorem abt:∀{H:Hp},(∀p∈ps,H p.1=none)->(ps.map (·.1)).Nodup->Ext K ι n H ι n (Ji H ps):=by
 induction ps with
 | nil=>intro H _ _;exact .refl
 | cons p ps ih=>
  intro H h nd
  rw[List.map_cons,List.nodup_cons]at nd
  refine(Ext.fresh (o:=p.2) (h p xB)).trans (ih (λq hq=> ?_) nd.2)
  rw[aH (λz=>nd.1 (by rw[<-z];exact List.mem_map_of_mem hq))]
  exact h q (yT _ hq)
theorem adN:∀{H:Hp},Rl K ct ι M H->(∀p∈ps,H p.1=none)->(ps.map (·.1)).Nodup->Rl K ct ι M (Ji H ps):=by
 induction ps with
 | nil=>intro H R _ _;exact R
 | cons p ps ih=>
  intro H R h nd
  rw[List.map_cons,List.nodup_cons]at nd
  refine ih (R.fresh (o:=p.2) (h p xB)) (λq hq=> ?_) nd.2
  rw[aH (λz=>nd.1 (by rw[<-z];exact List.mem_map_of_mem hq))]
  exact h q (yT _ hq)
theorem Y0(h:as.length=qs.length):(prs as qs).map (·.1)=as:=by
 unfold prs
 rw[List.map_map]
 have e:((λx=>x.fst)∘λ(p:Addr×V×V)=>(p.1,HO.tup [p.2.1,p.2.2]))=Prod.fst:=rfl
 rw[e,List.map_fst_zip]
 lia
variable{o:Expr}{mo:ME}{apos p1 pos1:Pos}
end
end S
namespace S
open PySem PySem.Spec PyProof.Rows L2
section
variable{X:Cx}{ct:Nat->Addr}{W:bf}{pos:Pos}{K:Frag}{ι:Nat->Addr}{n:Nat}{H:Hp}
noncomputable def awc:V4:=λds M=>match ds with
 | [.ref n]=>match M[n]? with
  | some (.dk kvs)=> .ok (.ref M.length) (M++[.lst (kvs.map λp=>Xp p.1)])
  | _=> .bad
 | _=> .bad
theorem aec(h:Du K ct ι n H kvs vs):nU K ct ι n H (kvs.map λp=>Xp p.1) (vs.map λp=>kV p.1):=by
 induction h with
 | nil=>exact .nil
 | cons _ _ ih=>exact .cons SQ ih
theorem aeb{kvs:List (Key×D)}{vs:List (Key×V)}(h:Du K ct ι n H kvs vs):nU K ct ι n H (kvs.map λp=>p.2) (vs.map λp=>p.2):=by
 induction h with
 | nil=>exact .nil
 | cons q _ ih=>exact .cons q ih
noncomputable def QD(d:D)(M:Mem):Out D:=match d with
 | .ref n=>match M[n]? with
  | some (.dk kvs)=> .ok (.ref M.length) (M++[.lst (kvs.map λp=>p.2)])
  | _=> .bad
 | _=> .bad
def Xi(mo:ME):ME:=λe M=>(mo e M).bind QD
variable{o:Expr}{mo:ME}{apos p1 pos1:Pos}
theorem abS(hc:X.calm=true)(ho:SE X ct W o mo)(hg:Gl X "list")(hm:X.mg "list" = none)
  (hbase:attributeBase o "values" X.env (eval o X.env)=eval o X.env:=by rfl) (hline:(apos.endLine==pos1.line)=true:=by rfl)
  (he:starEach [.Call (.Attribute o "values" apos) [] [] pos1] X.env=(false,eval (.Call (.Attribute o "values" apos) [] [] pos1) X.env)::starEach [] X.env:=by rfl) (hpl:(backTo pos (starEach [] X.env)).any (·.1)=false:=by rfl):
  SE X ct W (.Call (.Name "list" p1) [.Call (.Attribute o "values" apos) [] [] pos1] [] pos) (Xi mo):=by
 refine fX (Jv (X_ hc) hg hm Iv (DX (RZ PySem.F.plainAttrs_dict PySem.F.slot_dict_values PySem.F.type_dict_values aaz ho hbase hline) Jw he) (by decide) (by decide) he hpl) λσ H Q q=> ?_
 obtain⟨ι,e,M,w,p⟩:=b7 (fY:=eE X.K ct) (f:=λd _ M1=>QD d M1) q
 refine⟨ι,e,M,w,p.mono ?_⟩
 rintro v H1 ⟨cF,e1,M1,d,w1,q1,p1⟩
 cases d with
 | ref m=>
  obtain⟨hn,rfl⟩:=nC q1
  simp only[QD]at p1
  split at p1
  ·rename_i kvs em
   obtain⟨vs,hH,pv⟩:=w1.rl.obj m _ em
   refine⟨.inr (.inr (.inl ⟨rfl,.inl ⟨vs,hH⟩⟩)),_,vs,rfl,rfl,hH,λv hv=> ?_⟩
   have ne:cF m≠v:=λz=>by rw[z,hv]at hH;cases hH
   have x2:Ext X.K cF M1.length H1 cF M1.length (upd H1 v (Ux v (cF m))):=Ext.fresh hv
   exact⟨v,cF m,vs,rfl,aM,by rw[aH ne];exact hH,λl hl=>rm (w1.rl.fresh hv) ((aeb pv).mono x2) hl (p1.ext x2)⟩
  ·exact p1.elim
 | _=>exact p1.elim
end
section
variable{e:Sl}{M:Mem}
@[simp] theorem ajc:Xi mo e M=(mo e M).bind QD:=id rfl
end
section
variable{X:Cx}{ct:Nat->Addr}{W:bf}{pos pos':Pos}
noncomputable def strsOf:List D->Option (List Str)
 | []=>some []
 | .str w::r=>(strsOf r).map (w:: ·)
 | _=>none
noncomputable def aAt:D->List D->Mem->Out D:=λd ds M=>match d,ds with
 | .str y,[.ref n]=>match M[n]? with
  | some (.lst es)=>match strsOf es with
   | some ws=>if JoinOk y ws=true then .ok (.str (Txt.join y ws)) M else .bad
   | none=> .bad
  | _=> .bad
 | _,_=> .bad
noncomputable def G_:D->List D->Mem->Out D:=λd ds M=>match d,ds with
 | .ref n,[.ref k]=>match M[n]?,M[k]? with
  | some (.lst es),some (.lst fs)=>if es.length+fs.length<=sizeLine then .ok .non (M.set n (.lst (es++fs)))else .bad
  | _,_=> .bad
 | _,_=> .bad
theorem aaB:MtS X ct "list" "list.extend" G_:=by
 refine⟨_,aaA,λι M H d ds v vs Q R q qs p=> ?_⟩
 unfold G_ at p
 split at p
 ·rename_i n k
  obtain⟨hn,rfl⟩:=nC q
  obtain⟨y,rfl,qy⟩:=O4 qs
  obtain⟨hk,rfl⟩:=nC qy
  split at p
  ·rename_i es fs e1 e2
   split at p
   ·rename_i hz
    obtain⟨xs,hH,hd⟩:=R.obj n _ e1
    obtain⟨ys,hB,hd2⟩:=R.obj k _ e2
    have x2:Ext X.K ι M.length H ι M.length (upd H (ι n) (.lst (xs++ys))):=Ext.chg hH (λ_ z=>nomatch z) (λ_ _ z=>nomatch z)
    refine⟨_,_,xs,ys,rfl,rfl,hH,hB,by rw[hd.length,hd2.length];exact hz,?_⟩
    exact p ι .non _ (by rw[List.length_set];exact x2) (R.chg hn hH (λ_ z=>nomatch z) (λ_ _ z=>nomatch z) ⟨_,aM,(hd.append hd2).mono x2⟩) .non
   ·exact p.elim
  ·exact p.elim
 ·exact p.elim
end
theorem p8(h1:sc.kind= .function:=by rfl)(h2:sc.isCoroutine=false:=by rfl)(h3:sc.isGenerator=false:=by rfl)(h4:N.Nodup:=by decide +kernel)(h5:N.take ps.length=ps:=by rfl)
  (h6:∀x∈ps,sc.names.lookup x=some .local\/sc.names.lookup x=some .cell:=by decide +kernel) (h7:∀y∈sc.names,y.2≠ .free:=by decide +kernel):lu N ps sc:=⟨h1,h2,h3,h4,h5,h6,h7⟩
section
variable{e:Sl}{M:Mem}
theorem WW(h1:M[n]? = some (.lst es))(h2:M[k]? = some (.lst fs))(hz:es.length+fs.length<=16777216):G_ (.ref n) [.ref k] M= .ok .non (M.set n (.lst (es++fs))):=by
 simp only[G_,h1,h2]
 rw[if_pos (by rw[Aj];exact hz)]
end
section
variable{X:Cx}{ct:Nat->Addr}
noncomputable def notStar:Expr->Bool
 | .Starred _ _=>false
 | _=>true
theorem ajR(h:notStar a=true):starEach (a::es) env=(false,eval a env)::starEach es env:=by
 cases a<;>first | rfl | cases h
theorem bu(ha:SE X ct W a ma)(hr:SA X ct W es ms)(h:notStar a=true:=by rfl):SA X ct W (a::es) (az ma ms):=au ha hr (ajR h)
end
section
variable{X:Cx}{ct:Nat->Addr}{W:bf}
noncomputable def Xh(m1 m2:ME):ME:=λe M=>match m1 e M with
 | .bad=>m2 e M
 | o=>o
theorem SE.or(h1:SE X ct W e m1)(h2:SE X ct W e m2):SE X ct W e (Xh m1 m2):=by
 intro pins s σ H Q I ⟨ι,e',M,w,p⟩
 unfold Xh at p
 cases z:m1 e' M with
 | bad=>rw[z]at p;exact h2 pins s σ H Q I ⟨ι,e',M,w,p⟩
 | ok d M1=>rw[z]at p;exact h1 pins s σ H Q I ⟨ι,e',M,w,by rw[z];exact p⟩
 | exc c d M1=>rw[z]at p;exact h1 pins s σ H Q I ⟨ι,e',M,w,by rw[z];exact p⟩
end
section
variable{e:Sl}{M:Mem}
@[simp] theorem aeH:Xh m1 m2 e M=match m1 e M with
  | .bad=>m2 e M
  | o=>o:=id rfl
end
theorem Zc{α:Type}{us:List α}(h:us.length=5):∃a b c d e,us=[a,b,c,d,e]:=match us,h with | [a,b,c,d,e],_=>⟨a,b,c,d,e,rfl⟩
theorem adv{R:Result->Shared->Prop}(hroom:A.depth<recursionLimit)
  (ho:s.heap.get? a=some o) (hd':o.data= .func fd) (hco:fd.scope.isCoroutine=false) (hgen:fd.scope.isGenerator=false) (hbody:fd.body= .expr body) (hc:fd.code= .ref c) (hoc:s.heap.get? c=some oc) (hdc:oc.data= .fields vs) (hq:vs[1]? = some (.str q t))
  (h:wpAny (model prog w) A.in1 (bindArgs fd args) (λbinds s₁=>
   wpAny (model prog w) A.in1 (newFunctionEnv fd.scope fd.globals fd.closure binds (q++ ".<locals>.") (some a) (.ref c) none fd.builtins)
    (λenv s₂=>s₂.heap.NoLimit/\codeAny (model prog w) A (.expr body env) R s₂) (λe s'=>R (.error e) s') s₁) (λe s'=>R (.error e) s') s):
  codeAny (model prog w) A (.call (.ref a) args) R s:=by
 refine codeAny_of_tree ?_
 show wpAny _ A.in1 (callAny (.ref a) args) _ _ s
 simp only[callAny]
 refine zC (wpAny_load ho ?_)
 simp only[hd',callFunction,hco,hgen,hbody,hc]
 refine zC (m:=field (.ref c) 1) (vS hoc hdc hq (zC (zI ?_)))
 exact zC (wT h (λbinds s₁ h₁=>zC (wT h₁ (λenv s₂ h₂=>zC (wpAny_enterFrame h₂.1 hroom
  (zI (And.intro rfl h₂.2)))) λ_ _ h'=>h')) λ_ _ h'=>h')
noncomputable def QZ(P:Program)(w:World)(K:Frag)(mg:Str->Option Value)(base:Heap)(x p q:Str)(scope:Scope)(f c cd:Addr)(A:Around)(outer:List Env)(s:Shared)(H:Hp):Cx where
 prog:=P
 w:=w
 K:=K
 mg:=mg
 base:=base
 A:=A.deeper (PySem.W.envX q scope s.heap.objs.size f (.ref cd) [(x,c)])
 N:=[x,p]
 s₀:=s
 H₀:=H
 env:=PySem.W.envX q scope s.heap.objs.size f (.ref cd) [(x,c)]
 outer:=outer
 stack:=PySem.W.envX q scope s.heap.objs.size f (.ref cd) [(x,c)]::outer
 ex:=[]
 calm:=true
 fn:=λ_=>false
 pn:=[]
 xe:=λ_ _=>False
section
variable{P:Program}{w:World}{K:Frag}{mg:Str->Option Value}{base:Heap}{A:Around}{outer:List Env}{s:Shared}{H:Hp}{f c a b C dx:Addr}{o oc:Obj}{uc:HO}{cv:Value}{nm:Str}{fs:List (Str×V)}{xs:List V}{v:V}{u:Value}
theorem aeP(hr:jT 1 A)(e0:V_ P w K mg base A outer s H)(hf:H f=some (.gb o GK))(L:abd o cv c nm)(hz:BV H cv)(hc:H c=some (.gb oc uc))(hd:oc.data= .cell (some (.ref a)))(ha:H a=some (.ins C dx fs))(hC:Li K C)(hA:bU K C nm)(hF:fs.lookup nm=some (.ref b))(hl:H b=some (.lst xs))(hn:xs.length<sizeLine)(rv:RelV v u):
  codeAny (model P w) A (.call (.ref f) ⟨[u],[]⟩) (λr s'=>match r with | .ok (.ret u')=>CE outer P w H s (λv' H'=>v'= .non/\H'=upd H b (.lst (xs++[v]))) u' s' | _=>False) s:=by
 obtain⟨name,qual,x,p,p1,p5,p2,p3,p4,pa,scope,pm,ctv,rfl,h1,h2,h3,h4,h5,h6,h7,h8,h9,h10,h11,h12,h13,h14⟩:=L
 obtain⟨cd,ocd,vs,q,t,rfl,z1,z2,z3⟩:=hz
 have gf:=(e0.hok f _ hf).1
 have gc:=(e0.hok c _ hc).1
 have gcd:=(e0.hok cd _ z1).1
 have lim:s.heap.NoLimit:=e0.mod.nolimit.keeps λb o e=>(e0.bs b o e).1
 refine adv hr.depth gf rfl h2 h3 rfl rfl gcd z2 z3 ?_
 rw[h14 u]
 refine zI (wpAny_newFunctionEnv h6 (λy hy=>by rw[List.mem_singleton.mp hy];exact h5) (λh' hns hsb=>⟨lim.fresh _ hsb,?_⟩) h1)
 show codeAny _ _ (.expr _ (PySem.W.envX q scope s.heap.objs.size f (.ref cd) [(x,c)])) _ _
 refine PySem.W.kla_codeExpr ?_
 have kp:∀b o,s.heap.get? b=some o->h'.get? b=some o:=λb o e=>hsb.extBut b o (xD (zS e)) (zD _ e)
 have noA:∀b:Addr,b∉(QZ P w K mg base x p q scope f c cd A outer s H).ex:=λb z=>absurd (show b∈([]:List Addr)from z) (by simp)
 have lk:∀{y:Str} {c':Addr},(QZ P w K mg base x p q scope f c cd A outer s H).env.cells.lookup y=some c'->y=x/\c'=c:=λ{y c'} e=>by
  have e':List.lookup y [(x,c)]=some c':=e
  rw[List.lookup_cons]at e'
  cases hy:y==x with
  | true=>rw[hy]at e';cases e';exact⟨eq_of_beq hy,rfl⟩
  | false=>rw[hy]at e';cases e'
 have lx:(QZ P w K mg base x p q scope f c cd A outer s H).env.cells.lookup x=some c:=by
  show List.lookup x [(x,c)]=some c
  rw[List.lookup_cons,beq_self_eq_true]
 have ok:(QZ P w K mg base x p q scope f c cd A outer s H).Ok:=by
  refine⟨e0.mod,h1,rfl,rfl,zab _,λy z c' e1 e2=>(lk e1).1.trans (lk e2).1.symm,λy hy=> ?_,λy c' e=>(by cases e),λ_=>hr.hd,Around.frames_deeper e0.frames,.inr ⟨rfl,rfl⟩,λb z=>absurd z (noA b),e0.bs,e0.Yb,λb _ _=>noA b,λb z=>absurd z (noA b),e0.BX,e0.frf⟩
  have hy:scope.names.lookup y=some .cell\/scope.names.lookup y=some .free:=hy
  rcases hy with hy | hy
  ·exact absurd rfl (h6 _ (PySem.mem_of_lookup hy))
  ·rw[h13 y hy];exact⟨c,lx⟩
 have I:Inv (QZ P w K mg base x p q scope f c cd A outer s H) [] [some (.ref a),some v] H {s with heap:=h',toks:=s.toks+[(p,u)].length}:=by
  refine⟨ok,rfl,e0.bare,Un.kept kp,⟨_,hns,λi y v' e1 e2 e3=> ?_⟩,λy c' e=> ?_,e0.hok.fresh (zab _),λy c' e=> ?_,λp hp=>absurd (show p∈([]:List (Addr×Obj))from hp) (by simp),e0.hok.kept kp,rfl⟩
  ·match i,e1,e2 with
   | 0,e1,e2=>
    cases e1;cases e2
    exact⟨_,rfl,.inr ⟨.inr h4,c,lx,oc,kp _ _ gc,hd⟩⟩
   | 1,e1,e2=>
    cases e1;cases e2
    exact⟨u,rv,.inl ⟨h5,by simp⟩⟩
  ·obtain⟨rfl,rfl⟩:=lk e
   exact⟨_,oc,kp _ _ gc,hd⟩
  ·obtain⟨rfl,rfl⟩:=lk e
   exact .inr ⟨rfl,oc,uc,hc⟩
 have pe:PE (QZ P w K mg base x p q scope f c cd A outer s H) (K6 x nm p p1 p5 p2 p3 p4) (tBM K "list" YX (ajN K (ZS 0) nm) (afB (ZS 1) adS)):=
  afI PySem.F.plainAttrs_list PySem.F.slot_list_append PySem.F.type_list_append Qy (acC (RX rfl (.inr (.inr h4)) h8 h9) rfl) (DX (RX rfl (.inl h5) h10 h11) Jw) (hline:=h12)
 refine wT (pe [] _ _ H (λv' H'=>v'= .non/\H'=upd H b (.lst (xs++[v]))) I ⟨.ref a,rfl,a,C,dx,fs,.ref b,rfl,ha,hC,hA,hF,?_,v,rfl,b,xs,v,rfl,rfl,hl,hn,rfl,rfl⟩) (λu' s' ⟨v',H',J,r',q'⟩=> ?_) λe s' h=>h.elim
 ·exact .inl ⟨rfl,xs,Ew.of hl⟩
 ·exact⟨v',H',J.os,J.bare,J.base,J.hok,r',q'⟩
end
def rFn(x:V)(H:Hp):Prop:=∃f o cv c nm,x= .ref f/\H f=some (.gb o GK)/\abd o cv c nm
def agK(K:Frag):R2:=λx y H Q=>∃f o cv c nm oc uc a C dx fs b xs,x= .ref f/\H f=some (.gb o GK)/\abd o cv c nm/\BV H cv/\H c=some (.gb oc uc)/\oc.data= .cell (some (.ref a))/\H a=some (.ins C dx fs)/\Li K C/\bU K C nm/\fs.lookup nm=some (.ref b)/\H b=some (.lst xs)/\xs.length<sizeLine/\Q .non (upd H b (.lst (xs++[y])))
def agg(K:Frag)(ta:TE)(t:TA):TE:=λσ H Q=>ta σ H λx H1=>rFn x H1/\t σ H1 λvs H2=>∃y,vs=[y]/\agK K x y H2 Q
theorem afW(L:abd o cv c nm)(e:h.get? f=some o):PySem.W.FnAt f h:=by
 obtain⟨name,qual,x,p,p1,p5,p2,p3,p4,pa,scope,pm,ctv,rfl,_⟩:=L
 exact⟨_,_,_,_,e⟩
theorem acG(hn:PE X (.Name x p) ta)(he:PA X [e] t)(hr:jT 1 X.A)
  (hs:starEach [e] X.env=(false,eval e X.env)::starEach [] X.env:=by rfl) (hpl:(backTo pos (starEach [] X.env)).any (·.1)=false:=by rfl):PE X (.Call (.Name x p) [e] [] pos) (agg X.K ta t):=by
 intro pins s σ H Q I h
 refine wpAny_Call_Name_kw (kj (hn pins s σ H _ I h) ?_)
 rintro u s1 ⟨v,H1,I1,r1,⟨f,o,cv,c,nm,ev,hf,L⟩,q1⟩
 subst ev
 obtain rfl:u=Value.ref f:=r1
 refine PySem.W.callWith_F (afW L (I1.hok f _ hf).1) (kj (he pos pins s1 σ H1 _ I1 q1) ?_) hs hpl
 rintro us s2 ⟨vs,H2,I2,r2,y,ey,q2⟩
 subst ey
 cases r2 with
 | cons ru rn=>
  cases rn
  obtain⟨f',o2,cv2,c2,nm2,oc,uc,a,C,dx,fs,b,xs,ef,hf2,L2',hz,hc,hd,ha,hC,hA,hF,hl,hlen,q⟩:=q2
  cases ef
  refine⟨afW L2' (I2.hok f _ hf2).1,wpAny_call (codeAny_mono (aeP hr I2.env0 hf2 L2' hz hc hd ha hC hA hF hl hlen ru) λr s' hq=> ?_)⟩
  match r,hq with
  | .ok (.ret u'),⟨v',H',a1,a2,a3,a4,a5,a6,a7⟩=>
   subst a6
   subst a7
   exact I2.after ⟨_,_,a1,a2,a3,a4,a5,q⟩
noncomputable def afo(l:Nat)(y:D)(M:Mem):Out D:=match M[l]? with
 | some (.lst ds)=>if ds.length<sizeLine then .ok .non (M.set l (.lst (ds++[y])))else .bad
 | _=> .bad
noncomputable def Js(f:Str)(cs:List Nat):yI:=λd y M=>match d with
 | .fn n nm=>if nm=f then(match cO cs nm (.ref n) M with
  | .ok (.ref l) _=>afo l y M
  | _=> .bad)else .bad
 | _=> .bad
noncomputable def isFn:D->Bool
 | .fn _ _=>true
 | _=>false
noncomputable def Ob(f:Str)(cs:List Nat)(ma:ME)(ms:MA):ME:=λe M=>(ma e M).bind λd M1=>if isFn d=true then(ms e M1).bind λds M2=>match ds with
 | [y]=>Js f cs d y M2
 | _=> .bad else .bad
section
variable{X:Cx}{ct:Nat->Addr}{W:bf}
theorem anH(h:isFn d=true)(q:DV X.K ct ι n H d v):rFn v H:=by
 cases q with
 | fn h1 h2 h3 h4 h5 h6=>exact⟨_,_,_,_,_,rfl,h1,h2⟩
 | _=>cases h
theorem abU(hcs:J8 X.K ct f cs)(hn:SE X ct W (.Name x p) ma)(ha:SA X ct W [a] ms)(hr:jT 1 X.A)
  (hs:starEach [a] X.env=(false,eval a X.env)::starEach [] X.env:=by rfl) (hpl:(backTo pos (starEach [] X.env)).any (·.1)=false:=by rfl):SE X ct W (.Call (.Name x p) [a] [] pos) (Ob f cs ma ms):=by
 refine fX (acG hn ha hr hs hpl) λσ H Q q=> ?_
 obtain⟨ι,e,M,w,p⟩:=b7 (fY:=eE X.K ct) (f:=λd e M1=>if isFn d=true then(ms e M1).bind λds M2=>match ds with
  | [y]=>Js f cs d y M2
  | _=> .bad else .bad) q
 refine⟨ι,e,M,w,p.mono ?_⟩
 rintro v H1 ⟨cF,e1,M1,d,w1,q1,p1⟩
 cases z:isFn d with
 | false=>simp only[z,Bool.false_eq_true,if_false]at p1;exact p1.elim
 | true=>
  simp only[z,if_true]at p1
  refine⟨anH z q1,cF,e1,M1,w1,?_⟩
  cases z2:ms e1 M1 with
  | bad=>simp only[z2,Out.eU]at p1;exact p1
  | exc xc xd xM=>simp only[z2,Out.sr]at p1;exact p1
  | ok ds M2=>
   simp only[z2,Out.d7]at p1
   intro lM vs H2 x2 r2 q2
   match ds,q2,p1 with
   | [y],.cons (x:=vy) qy .nil,p1=>
    refine⟨_,rfl,?_⟩
    have q1':=q1.mono x2
    have p2:=p1.ext x2
    cases d with
    | fn n nm=>
     simp only[Js]at p2
     by_cases zn:nm=f
     ·subst zn
      rw[if_pos rfl]at p2
      cases q1' with
      | fn h1 h2 h3 h4 h5 h6=>
       simp only[cO]at p2
       cases z3:M2[n]? with
       | none=>simp only[z3]at p2;exact p2.elim
       | some o=>
        cases o with
        | ins c fs=>
         simp only[z3]at p2
         by_cases hc:c∈cs
         ·simp only[hc,if_true]at p2
          cases z4:fs.lookup nm with
          | none=>simp only[z4]at p2;exact p2.elim
          | some d4=>
           simp only[z4]at p2
           cases d4 with
           | ref l=>
            simp only[afo]at p2
            split at p2
            ·rename_i es e5
             split at p2
             ·rename_i hz
              obtain⟨dx,us,hI,fv⟩:=r2.obj n _ z3
              obtain⟨v,hv,dv⟩:=fv.look z4
              obtain⟨hl,rfl⟩:=nC dv
              obtain⟨xs,hH,hd⟩:=r2.obj l _ e5
              have x3:Ext X.K lM M2.length H2 lM M2.length (upd H2 (lM l) (.lst (xs++[vy]))):=Ext.chg hH (λ_ z=>nomatch z) (λ_ _ z=>nomatch z)
              refine⟨_,_,_,_,_,_,_,_,_,dx,us,_,xs,rfl,h1,h2,h3,h4,h5.1,hI,(hcs.get hc).1,(hcs.get hc).2,hv,hH,by rw[hd.length];exact hz,?_⟩
              exact p2 lM .non _ (by rw[List.length_set];exact x3) (r2.chg hl hH (λ_ z=>nomatch z) (λ_ _ z=>nomatch z) ⟨_,aM,(hd.append (.cons qy .nil)).mono x3⟩) .non
             ·exact p2.elim
            ·exact p2.elim
           | _=>exact p2.elim
         ·simp only[hc,if_false]at p2
          exact p2.elim
        | _=>simp only[z3]at p2;exact p2.elim
     ·rw[if_neg zn]at p2
      exact p2.elim
    | _=>cases z
end
theorem Kc(h:∃i t,a= .int i t)(h':∃i t,b= .int i t):∀l:List Value,TriplesOk l->TriplesOk (l++[a,b,c])
 | [],_=>by obtain⟨i,t,rfl⟩:=h;obtain⟨j,u,rfl⟩:=h';exact trivial
 | .int _ _:: .int _ _::_::rest,q=>Kc h h' rest q
theorem Ra:∀l:List Value,TriplesOk l->codeAmong pos (l++[a,b,c])=some cv->codeAmong pos l=some cv\/cv=c
 | [],_,e=>by
  simp only[List.nil_append]at e
  unfold codeAmong at e
  split at e
  ·rename_i h1
   split at e
   ·cases h1;cases e;exact .inr rfl
   ·cases h1;unfold codeAmong at e;cases e
  ·cases e
 | .int i t:: .int j u::x::rest,q,e=>by
  simp only[List.cons_append,codeAmong]at e ⊢
  split at e
  ·rename_i z;rw[if_pos z];exact .inl e
  ·rename_i z;rw[if_neg z];exact Ra rest q e
section
variable{X:Cx}{pins:List (Addr×Obj)}{σ:St}{H:Hp}{s:Shared}
theorem Inv.freeze(I:L2.Inv X pins σ H s)(hf:X.fn x=false)(hl:X.env.cells.lookup x=some c)(hc:X.s₀.heap.objs.size<=c)(hn:H c=none)(ho:s.heap.get? c=some oc):
  L2.Inv X pins σ (upd H c (.gb oc GK)) s:=by
 have hk:∀b u,H b=some u->upd H c (.gb oc GK) b=some u:=λb u q=>by rw[aH (bC q hn)];exact q
 have hz:∀b,b≠c->H b=none->upd H c (.gb oc GK) b=none:=λb z q=>by rw[aH z];exact q
 have od:∃v,oc.data= .cell v:=by
  obtain⟨v,o',e,d⟩:=I.cell x c hl
  rw[ho]at e;cases e
  exact⟨v,d⟩
 refine⟨I.ok,I.os,I.bare,⟨I.base.keep,I.base.slot,λb o q n z=>hz b (λe=>absurd (yA (zS q) (e▸hc)) (wP _)) (I.base.free b o q n z),I.base.there,λb xs q=>hk _ _ (I.base.tups b xs q),λb o u q=>hk _ _ (I.base.vq b o u q),λb ps q=> ?_⟩,I.loc,I.cell,hz _ (Ne.symm (I.cne x c hl)) I.free,λy c' e=> ?_,λp hp=> ?_,λb o q=> ?_,I.len⟩
 ·obtain⟨m,z⟩:=I.base.yo b ps q;exact⟨m,hk _ _ z⟩
 ·by_cases e':c'=c
  ·subst e'
   have:y=x:=I.ok.inj y x c' e hl
   subst this
   exact .inr ⟨hf,oc,GK,aM⟩
  ·exact(I.m7 y c' e).imp id (hz _ e') λo u z=>hk _ _ z
 ·obtain⟨z1,z2,z3,z4,z5⟩:=I.pin p hp
  refine⟨z1,hz _ (λe=> ?_) z2,z3,z4,z5⟩
  rw[e,ho]at z1
  obtain⟨v,d⟩:=od
  exact z5 v (by rw[<-xI z1];exact d)
 ·by_cases z:b=c
  ·subst z
   rw[aM]at q;cases q
   exact⟨ho,trivial,⟨_,ho⟩,λ_ _ _ _=>trivial⟩
  ·rw[aH z]at q
   exact(I.hok b o q).stay (λ_ _ _ y=>y) (λb' y=>hk _ _ y) λb' xs y=>hk _ _ y
theorem Inv.made(I:L2.Inv X pins σ H s)(hP:H P=some (.yJ ps))(hx:Heap.ExtBut P s.heap h')(hP2:h'.get? P=some {cls:= .none,data:= .fields (ps++more)})
  (h1:s.heap.objs.size<=c') (h2:c'<h'.objs.size) (hc':h'.get? c'=some oc') (hob:ob.isFreed=false):
  L2.Inv X pins σ (upd (upd (upd H P (.yJ (ps++more))) c' (.gb oc' GK)) h'.objs.size (.gb ob GK)) {s with heap:=h'.push ob,toks:=tk}:=by
 obtain⟨f,hf⟩:∃f,f=h'.objs.size:=⟨_,rfl⟩
 rw[<-hf]
 have cf:c'<f:=by rw[hf];exact h2
 have lt:∀b o,s.heap.get? b=some o->b<c':=λb o e=>yA (zS e) h1
 have ltH:∀b u,H b=some u->b<c':=λb u e=>yA (I.hok.lt e) h1
 have Pc:P<c':=ltH P _ hP
 have kp:∀b o,b≠P->s.heap.get? b=some o->(h'.push ob).get? b=some o:=λb o n e=>zD _ (hx b o n e)
 have ne1:∀b,b<c'->b≠P->upd (upd (upd H P (.yJ (ps++more))) c' (.gb oc' GK)) f (.gb ob GK) b=H b:=λb l n=>by
  rw[aH (xD (Nat.lt_trans l cf)),aH (xD l),aH n]
 have atP:upd (upd (upd H P (.yJ (ps++more))) c' (.gb oc' GK)) f (.gb ob GK) P=some (.yJ (ps++more)):=by
  rw[aH (xD (Nat.lt_trans Pc cf)),aH (xD Pc),aM]
 have hk:∀b u,b≠P->H b=some u->upd (upd (upd H P (.yJ (ps++more))) c' (.gb oc' GK)) f (.gb ob GK) b=some u:=λb u n e=>by rw[ne1 b (ltH b u e) n];exact e
 have nP:∀b u,H b=some u->(∀qs,u≠ .yJ qs)->b≠P:=λb u e n z=>by subst z;rw[hP]at e;cases e;exact n _ rfl
 have nN:∀b,H b=none->b≠P:=λb e z=>by subst z;rw[hP]at e;cases e
 have hPp:(h'.push ob).get? P=some {cls:= .none,data:= .fields (ps++more)}:=zD _ hP2
 refine I.un (H':=upd (upd (upd H P (.yJ (ps++more))) c' (.gb oc' GK)) f (.gb ob GK)) ⟨λb o e n _ _=>kp b o (nN b n) e,λb o e n _ _=>⟨o.slots,kp b o (nN b n) e⟩,λb o e n _=>by rw[ne1 b (lt b o e) (nN b n)];exact n,λb o e _=> ?_,
  λb xs e=>hk b _ (nP b _ e λ_ z=>nomatch z) e,λb o u e=>hk b _ (nP b _ e λ_ z=>nomatch z) e,λb qs e=> ?_⟩ λb u e=> ?_
 ·by_cases z:b=P
  ·exact⟨_,z▸hPp⟩
  ·exact⟨o,kp b o z e⟩
 ·by_cases z:b=P
  ·subst z
   rw[hP]at e;cases e
   exact⟨more,atP⟩
  ·exact⟨#[],by rw[hk b _ z e];simp⟩
 ·by_cases zf:b=f
  ·subst zf
   rw[aM]at e;cases e
   have g:(h'.push ob).get? b=some ob:=by rw[hf];exact yB _ hob
   exact⟨g,trivial,⟨_,g⟩,λ_ _ _ _=>trivial⟩
  ·rw[aH zf]at e
   by_cases zc:b=c'
   ·subst zc
    rw[aM]at e;cases e
    have g:(h'.push ob).get? b=some oc':=zD _ hc'
    exact⟨g,trivial,⟨_,g⟩,λ_ _ _ _=>trivial⟩
   ·rw[aH zc]at e
    by_cases z:b=P
    ·subst z
     rw[aM]at e;cases e
     exact hPp
    ·rw[aH z]at e
     refine(I.hok b u e).stay (λc v hc y=>kp c v ?_ y) (λc y=>hk c _ (nP c _ y λ_ z=>nomatch z) y) λc xs y=>hk c _ (nP c _ y λ_ z=>nomatch z) y
     rcases hc with rfl | hc
     ·exact z
     ·exact nP c _ hc λ_ z=>nomatch z
structure arz(x nm p:Str)(p1 p5 p2 p3 p4 pa:Pos)(scope:Scope):Prop where
 k:scope.kind= .function
 co:scope.isCoroutine=false
 gen:scope.isGenerator=false
 fx:scope.names.lookup x=some .free
 lp:scope.names.lookup p=some .local
 nc:∀y∈scope.names,y.2≠ .cell
 ne:x≠p
 d1:(x==("__debug__" : Str))=false
 d2:(x==("__classdict__" : Str))=false
 d3:(p==("__debug__" : Str))=false
 d4:(p==("__classdict__" : Str))=false
 ln:(p2.endLine==p4.line)=true
 fr:∀y,scope.names.lookup y=some .free->y=x
 bd:∀(name qual:Str) (cl:List (Str×Addr)) (pm cv ctv u:Value),bindArgs (PySem.W.kla_fn name qual ⟨[],[⟨p,none,pa⟩],none,[],[],none,[]⟩ (K6 x nm p p1 p5 p2 p3 p4) scope cl pm cv ctv) ⟨[u],[]⟩=pure [(p,u)]
structure Made(H H':Hp)(f c P a:Addr)(nm:Str):Prop where
 keep:∀b u,b≠P->H b=some u->H' b=some u
 tab:∃ps,H' P=some (.yJ ps)/\TabOk H' ps
 fn:∃o cv oc uc,H' f=some (.gb o GK)/\abd o cv c nm/\BV H' cv/\H' c=some (.gb oc uc)/\oc.data= .cell (some (.ref a))/\∀ks,uc≠ .dK ks
def avc(N:List Str)(x nm:Str)(c P:Addr):TE:=λσ H Q=>∃(i:Nat) (a:Addr) (ps:Array Value),N[i]? = some x/\σ[i]? = some (some (V.ref a))/\H P=some (.yJ ps)/\TabOk H ps/\∀f H',Made H H' f c P a nm->Q (.ref f) H'
theorem aaq(Sx:arz x nm p p1 p5 p2 p3 p4 pa scope)(hfn:X.fn x=false)(hl:X.env.cells.lookup x=some c)(hcab:X.s₀.heap.objs.size<=c)(hk:X.env.kindOf x=some .cell)(hcode:X.env.code= .ref cd)
  (C:PySem.W.CodeHd X.base cd P) (hb:X.base.BuiltinsAt X.mg P) (hcl:closureFor scope X.env=pure [(x,c)]) (hd:defaultsOf ⟨[],[⟨p,none,pa⟩],none,[],[],none,[]⟩ X.env=([],[]):=by rfl):
  PE X (.Lambda ⟨[],[⟨p,none,pa⟩],none,[],[],none,[]⟩ (K6 x nm p p1 p5 p2 p3 p4) scope pos) (avc X.N x nm c P):=by
 intro pins s σ H Q I ⟨i,a,ps,hN,hσ,hP,hT,hq⟩
 obtain⟨oc,ho,hd'⟩:∃oc,s.heap.get? c=some oc/\oc.data= .cell (some (.ref a)):=by
  obtain⟨m,hn,hlk⟩:=I.loc
  obtain⟨u,r,l⟩:=hlk i x _ hN hσ (.inr (.inl hk))
  obtain rfl:u=Value.ref a:=r
  rcases l with⟨k,_⟩ | ⟨_,c',e,o',e1,e2⟩
  ·rw[hk]at k;cases k
  ·rw[hl]at e;cases e
   exact⟨o',e1,e2⟩
 obtain⟨H1,uc,I1,hc1,k1,n1⟩:∃H1 uc,L2.Inv X pins σ H1 s/\H1 c=some (.gb oc uc)/\(∀b u,H b=some u->H1 b=some u)/\H1 P=some (.yJ ps):=by
  rcases I.m7 x c hl with hn | ⟨_,o',u',hz⟩
  ·refine⟨_,GK,Inv.freeze I hfn hl hcab hn ho,aM,λb u e=>by rw[aH (bC e hn)];exact e,?_⟩
   rw[aH (bC hP hn)];exact hP
  ·have:=(I.hok c _ hz).1
   rw[ho]at this
   cases this
   exact⟨H,u',I,hz,λ_ _ e=>e,hP⟩
 have nd:∀ks,uc≠ .dK ks:=λks z=>by
  subst z
  obtain⟨_,_,_,_,o2,es,ep,ho2,ex,hd2,_⟩:=(show bT X.prog X.w H1 s.heap c (.gb oc (.dK ks))from I1.hok c _ hc1).2
  rw[ho]at ho2;cases ho2;rw[hd']at hd2;cases hd2
 have hT1:TabOk H1 ps:=⟨hT.1,λpos cv z=>(hT.2 pos cv z).mono λb o u e=>k1 b _ e⟩
 have gP:s.heap.get? P=some (PySem.W.tabObj ps):=I1.hok P _ n1
 have hgs:s.heap.Ns mainGlobals X.mg:=I.ok.mod.glob.keeps I.bk
 have hgP:mainGlobals≠P:=λq=>by
  obtain⟨o,es,ep,e,hd,_⟩:=hgs
  rw[q,gP]at e;cases e;cases hd
 have Pc:P≠c:=λe=>by rw[e,hc1]at n1;cases n1
 refine PySem.W.kla_eval hd ?_
 cases hf:codeAmong pos ps.toList with
 | none=>
  refine PySem.W.kla_makeFunction (mg:=X.mg) hcl I.ok.glob hgs hcode (C.keeps I.bk) gP hT.1 hf hgP (hb.keeps I.bk) λc' ctv h' tk hx h1 h2 hrec hP2=> ?_
  obtain⟨c2,oc',vs,t,e2,hoc,hdc,hv⟩:=hrec
  cases e2
  have J:=Inv.made (ob:=PySem.W.kla_obj "<lambda>" (X.env.qual++ "<lambda>") ⟨[],[⟨p,none,pa⟩],none,[],[],none,[]⟩ (K6 x nm p p1 p5 p2 p3 p4) scope [(x,c)] ((X.mg "__name__").getD .none) c' ctv) (tk:=tk) I1 n1 hx hP2 h1 h2 hoc rfl
  have lc:c<c':=yA (zS ho) h1
  have ltH:∀b u,H1 b=some u->b<c':=λb u e=>yA (I1.hok.lt e) h1
  have kk:∀b u,b≠P->H1 b=some u->upd (upd (upd H1 P (.yJ (ps++ #[rawInt pos.line,rawInt pos.col,.ref c']))) c' (.gb oc' GK)) h'.objs.size (.gb (PySem.W.kla_obj "<lambda>" (X.env.qual++ "<lambda>") ⟨[],[⟨p,none,pa⟩],none,[],[],none,[]⟩ (K6 x nm p p1 p5 p2 p3 p4) scope [(x,c)] ((X.mg "__name__").getD .none) c' ctv) GK) b=some u:=λb u n e=>by
   rw[aH (xD (Nat.lt_trans (ltH b u e) h2)),aH (xD (ltH b u e)),aH n];exact e
  have kz:∀b o u,H1 b=some (.gb o u)->upd (upd (upd H1 P (.yJ (ps++ #[rawInt pos.line,rawInt pos.col,.ref c']))) c' (.gb oc' GK)) h'.objs.size (.gb (PySem.W.kla_obj "<lambda>" (X.env.qual++ "<lambda>") ⟨[],[⟨p,none,pa⟩],none,[],[],none,[]⟩ (K6 x nm p p1 p5 p2 p3 p4) scope [(x,c)] ((X.mg "__name__").getD .none) c' ctv) GK) b=some (.gb o u):=λb o u e=>kk b _ (λz=>by rw[z,n1]at e;cases e) e
  have cz:BV (upd (upd (upd H1 P (.yJ (ps++ #[rawInt pos.line,rawInt pos.col,.ref c']))) c' (.gb oc' GK)) h'.objs.size (.gb (PySem.W.kla_obj "<lambda>" (X.env.qual++ "<lambda>") ⟨[],[⟨p,none,pa⟩],none,[],[],none,[]⟩ (K6 x nm p p1 p5 p2 p3 p4) scope [(x,c)] ((X.mg "__name__").getD .none) c' ctv) GK)) (.ref c'):=
   ⟨c',oc',vs,_,t,rfl,by rw[aH (xD h2),aM],hdc,hv⟩
  refine⟨.ref h'.objs.size,_,J,rfl,hq _ _ ⟨λb u n e=>kk b u n (k1 b u e),⟨ps++ #[rawInt pos.line,rawInt pos.col,.ref c'],?_,?_,?_⟩,_,_,oc,uc,aM,⟨_,_,x,p,p1,p5,p2,p3,p4,pa,scope,_,_,rfl,Sx.k,Sx.co,Sx.gen,Sx.fx,Sx.lp,Sx.nc,Sx.ne,Sx.d1,Sx.d2,Sx.d3,Sx.d4,Sx.ln,Sx.fr,λu=>Sx.bd _ _ _ _ _ _ u⟩,cz,kz c oc uc hc1,hd',nd⟩⟩
  ·rw[aH (xD (Nat.lt_trans (ltH P _ n1) h2)),aH (xD (ltH P _ n1)),aM]
  ·rw[Array.toList_append]
   exact Kc ⟨_,_,rfl⟩ ⟨_,_,rfl⟩ _ hT.1
  ·intro pos' cv e
   rw[Array.toList_append]at e
   rcases Ra _ hT.1 e with z | z
   ·exact(hT1.2 pos' cv z).mono kz
   ·rw[z];exact cz
 | some cv=>
  refine PySem.W.kla_makeFunctionHit (mg:=X.mg) hcl I.ok.glob hgs hcode (C.keeps I.bk) gP hT.1 hf (hb.keeps I.bk) λctv h' tk hk' hsz=> ?_
  have hfr:H1 h'.objs.size=none:=I1.hok.fresh hsz
  have kk:∀b u,H1 b=some u->upd H1 h'.objs.size (.gb {cls:= .type "function",data:= .func (PySem.W.kla_fn "<lambda>" (X.env.qual++ "<lambda>") ⟨[],[⟨p,none,pa⟩],none,[],[],none,[]⟩ (K6 x nm p p1 p5 p2 p3 p4) scope [(x,c)] ((X.mg "__name__").getD .none) cv ctv)} GK) b=some u:=λb u e=>by
   rw[aH (bC e hfr)];exact e
  refine⟨.ref h'.objs.size,_,I1.laid (a:=h'.objs.size) (t':=tk) (λb u e=>zD _ (hk' b u e)) hsz (o:= .gb {cls:= .type "function",data:= .func (PySem.W.kla_fn "<lambda>" (X.env.qual++ "<lambda>") ⟨[],[⟨p,none,pa⟩],none,[],[],none,[]⟩ (K6 x nm p p1 p5 p2 p3 p4) scope [(x,c)] ((X.mg "__name__").getD .none) cv ctv)} GK) ⟨yB _ rfl,trivial,⟨_,yB _ rfl⟩,λ_ _ _ _=>trivial⟩,rfl,
   hq _ _ ⟨λb u _ e=>kk b u (k1 b u e),⟨ps,kk _ _ n1,hT.1,λpos' cv' z=>(hT1.2 pos' cv' z).mono λb o u e=>kk b _ e⟩,_,_,oc,uc,aM,⟨_,_,x,p,p1,p5,p2,p3,p4,pa,scope,_,_,rfl,Sx.k,Sx.co,Sx.gen,Sx.fx,Sx.lp,Sx.nc,Sx.ne,Sx.d1,Sx.d2,Sx.d3,Sx.d4,Sx.ln,Sx.fr,λu=>Sx.bd _ _ _ _ _ _ u⟩,(hT1.2 pos cv hf).mono λb o u e=>kk b _ e,kk c _ hc1,hd',nd⟩⟩
end
noncomputable def aeI(i:Nat)(nm:Str):ME:=λe M=>match e[i]? with
 | some (some (.ref l))=> .ok (.fn l nm) M
 | _=> .bad
section
variable{K:Frag}{ct ι:Nat->Addr}{M:Mem}{H H':Hp}{f c P a:Addr}{nm:Str}{ps:Array Value}
theorem Made.not(hP:H P=some (.yJ ps))(e:H b=some u)(n:∀qs,u≠ .yJ qs):b≠P:=λz=>by subst z;rw[hP]at e;cases e;exact n _ rfl
theorem Made.ext(m:Made H H' f c P a nm)(hP:H P=some (.yJ ps)):Ext K ι n H ι n H' where
 tup:=λb xs e=>m.keep b _ (Made.not hP e λ_ z=>nomatch z) e
 gb:=λb xs e=>by
  rcases e with⟨o,e⟩ | e
  ·exact .inl ⟨o,m.keep b _ (Made.not hP e λ_ z=>nomatch z) e⟩
  ·exact .inr e
 ex:=λb φ e=>m.keep b _ (Made.not hP e λ_ z=>nomatch z) e
 xd:=λb φ e=>m.keep b _ (Made.not hP e λ_ z=>nomatch z) e
 fz:=λb o u e=>m.keep b _ (Made.not hP e λ_ z=>nomatch z) e
 le:=zab _
 same:=λ_ _=>rfl
theorem alp(h:OR K ct ι n H b o):∃u,H b=some u/\∀qs,u≠ .yJ qs:=by
 cases o with
 | lst ds=>obtain⟨vs,e,_⟩:=h;exact⟨_,e,λ_ z=>nomatch z⟩
 | ins c fs=>obtain⟨dx,vs,e,_⟩:=h;exact⟨_,e,λ_ z=>nomatch z⟩
 | dk kvs=>obtain⟨vs,e,_⟩:=h;exact⟨_,e,λ_ z=>nomatch z⟩
 | dt kvs=>obtain⟨vs,e,_⟩:=h;exact⟨_,e,λ_ z=>nomatch z⟩
 | fd kvs=>obtain⟨o,vs,e,_⟩:=h;exact⟨_,e,λ_ z=>nomatch z⟩
theorem Made.rl(m:Made H H' f c P a nm)(hP:H P=some (.yJ ps))(R:Rl K ct ι M H):Rl K ct ι M H' where
 inj:=R.inj
 obj:=λi o h=>by
  obtain⟨u,hu,n⟩:=alp (R.obj i o h)
  exact(R.obj i o h).keep (m.ext hP) rfl ((m.keep _ _ (Made.not hP hu n) hu).trans hu.symm)
 tab:=λk hk hc=>by
  by_cases e:ct k=P
  ·rw[e];exact m.tab
  ·obtain⟨qs,h1,h2,h3⟩:=R.tab k hk hc
   exact⟨qs,m.keep _ _ e h1,h2,λpos cv z=>(h3 pos cv z).mono (m.ext (K:=K) (ι:=ι) (n:=0) hP).fz⟩
end
theorem Z5(i:Nat)(Sx:arz x nm p p1 p5 p2 p3 p4 pa scope)(hN:X.N[i]? = some x)(hk1:1000<=k)(hk2:ct k≠0)
  (hfn:X.fn x=false) (hl:X.env.cells.lookup x=some c) (hcab:X.s₀.heap.objs.size<=c) (hk:X.env.kindOf x=some .cell) (hcode:X.env.code= .ref cd)
  (C:PySem.W.CodeHd X.base cd (ct k)) (hb:X.base.BuiltinsAt X.mg (ct k)) (hcl:closureFor scope X.env=pure [(x,c)]) (hd:defaultsOf ⟨[],[⟨p,none,pa⟩],none,[],[],none,[]⟩ X.env=([],[]):=by rfl):
  SE X ct W (.Lambda ⟨[],[⟨p,none,pa⟩],none,[],[],none,[]⟩ (K6 x nm p p1 p5 p2 p3 p4) scope pos) (aeI i nm):=by
 refine fX (aaq Sx hfn hl hcab hk hcode C hb hcl hd) ?_
 rintro σ H Q ⟨ι,e,M,w,q⟩
 unfold aeI at q
 split at q
 ·rename_i l z
  obtain⟨v,hσ,dv⟩:=w.env i _ z
  obtain⟨hl',rfl⟩:=nC dv
  obtain⟨ps,hP,hT⟩:=w.rl.tab k hk1 hk2
  refine⟨i,ι l,ps,hN,hσ,hP,hT,λf H' m=> ?_⟩
  obtain⟨o,cv,oc,uc,m1,m2,m3,m4,m5⟩:=m.fn
  exact q ι (.ref f) H' (m.ext hP) (m.rl hP w.rl) (.fn m1 m2 m3 m4 m5 hl')
 ·exact q.elim
abbrev fnz(X:Cx)(g:Str->Bool):Cx:={X with fn:=g}
section
variable{X:Cx}{pins:List (Addr×Obj)}{σ:St}{H:Hp}{s:Shared}{W:bf}{st:Stmt}{rest body:List Stmt}{t u:TS}{E:Value->Shared->Prop}
theorem aeW(I:L2.Inv X pins σ H s)(hg:∀x,g x=true->X.fn x=true):L2.Inv (fnz X g) pins σ H s:=
 ⟨⟨I.ok.mod,I.ok.kind,I.ok.glob,I.ok.blt,I.ok.above,I.ok.inj,I.ok.has,λx c h=>I.ok.cab x c (hg x h),I.ok.hd,I.ok.frames,I.ok.stk,I.ok.exf,I.ok.bs,I.ok.Yb,I.ok.Sh,I.ok.Tw,I.ok.BX,I.ok.frf⟩,I.os,I.bare,I.base,I.loc,I.cell,I.free,
  λx c e=>(I.m7 x c e).imp (λz=>by
   cases q:g x with
   | false=>exact q
   | true=>rw[hg x q]at z;cases z) id λ_ _ z=>z,I.pin,I.hok,I.len⟩
def ai1(X:Cx)(W:bf)(st:List Stmt)(t:TS):Prop:=
 ∀(pins:List (Addr×Obj)) (s:Shared) (σ:St) (H:Hp) (D:Ends),L2.Inv X pins σ H s->t D σ H->wpAny (model X.prog X.w) X.A (execs st X.env) (λfl s'=>∃g,SP (fnz X g) pins D fl s') (λe s'=>∃g,jt (fnz X g) W e s') s
theorem aah(g:Str->Bool)(hg:∀x,g x=true->X.fn x=true)(h:Le ((fnz X g).wish (jt (fnz X g) W)) body t):ai1 X W body t:=λpins s σ H D I q=>
 wT (h pins s σ H D ((aeW I hg).wish _) q) (λ_ _ z=>⟨g,z.qX⟩) λ_ _ z=>⟨g,z⟩
end
theorem ahA{P:Program}{w:World}{K:Frag}{mg:Str->Option Value}{base:Heap}{N:List Str}{qual:Str}{scope:Scope}{f:Addr}{cd:Value}{A:Around}{outer:List PySem.Env}{s:Shared}{H:Hp}{E:XK}{W:bf}{ev:Value}{s':Shared}{g:Str->Bool}
  (h:jt (fnz (rY (wV P w) P w K mg base N qual scope f cd A outer s H E) g) W ev s') (hE:∀C dx σ H',W C dx σ H'->E (.ref C) (some dx) H'):
  (rY (wV P w) P w K mg base N qual scope f cd A outer s H E).xe ev s':=by
 obtain⟨e,C,dx,T,fl,pins,σ,H',rfl,I,x,hfl,fe,fT,hW⟩:=h
 show wpAny _ _ (leaving _ (.ref e)) _ _ s'
 refine Yt I.ok.frames I.stack rfl x hfl λh2 T' hT k x'=> ?_
 have hTn:∀t,T=some t->H' t=none:=λt z=>(fT t z).no
 have nT:s.heap.objs.size<=T':=by
  rcases hT with r | r
  ·exact(fT T' r).new
  ·exact yY I.sz r
 have fT':H' T'=none:=by
  rcases hT with r | r
  ·exact hTn T' r
  ·exact I.hok.fresh r
 have ok2:=JZ I.hok k fe.no hTn I.G7
 have ne:∀b o,s.heap.get? b=some o->b≠e/\some b≠T:=λb o q=>⟨λz=>absurd (yA (zS q) (z▸fe.new)) (wP _),λz=>absurd (yA (zS q) (fT b z.symm).new) (wP _)⟩
 have nL:∀b o,s.heap.get? b=some o->b≠s.heap.objs.size:=λb o q=>xD (zS q)
 refine⟨e,C,dx,T',H',rfl,I.os,I.bare,⟨λb o q n hb _=> ?_,λb o q n hb _=> ?_,λb o q n _=>I.base.free b o q n (by simp[rY]),λb o q _=> ?_,I.base.tups,I.base.vq,I.base.yo⟩,ok2,x',fe.new,nT,fe.no,fT',hE C dx σ H' hW⟩
 ·obtain⟨n1,n2⟩:=ne b o q
  refine k.2.1 b o n1 n2 (λz=> ?_) (I.base.keep b o q n hb (by simp[rY]))
  rcases List.mem_cons.mp (I.Mm b z)with y | y
  ·exact nL b o q y
  ·exact hb y
 ·obtain⟨n1,n2⟩:=ne b o q
  obtain⟨sl,q1⟩:=I.base.slot b o q n hb (by simp[rY])
  obtain⟨sl2,q2⟩:=k.2.2 b _ n1 n2 q1
  exact⟨sl2,q2⟩
 ·obtain⟨n1,n2⟩:=ne b o q
  obtain⟨o1,q1⟩:=I.base.there b o q (by simp[rY])
  obtain⟨sl2,q2⟩:=k.2.2 b _ n1 n2 q1
  exact⟨_,q2⟩
theorem ahR{P:Program}{w:World}{K:Frag}{mg:Str->Option Value}{base:Heap}{k:Nat}{f:Addr}{name qual:Str}{params:Arguments}{body:List Stmt}{scope:Scope}{dV kV doc pm cdv ct oc:Value}{an od:Option Addr}
  {osl:Array (Option Value)} {N ps:List Str} {sp:Sp} (lk:K.lookup f=some ⟨oc,od,.func (fnOf name qual params body scope dV kV doc pm an cdv ct),osl⟩) (hcd:codeIn K cdv qual=true) (S:lu N ps scope)
  (len:∀vs H Q E,sp vs H Q E->vs.length=ps.length)
  (hbody:∀(A:Around) (outer:List PySem.Env) (s:Shared) (H:Hp) (vs:List V) (Q:VK) (E:XK),jT k (A.deeper (envOfC qual scope s.heap.objs.size f cdv))->sp vs H Q E->
   ∃t W,(∀C dx σ H',W C dx σ H'->E (.ref C) (some dx) H')/\ai1 (rY (wV P w) P w K mg base N qual scope f cdv A outer s H E) W body t/\t {nx:=λ_ H'=>Q .non H',rt:=Q} (start N vs) H):
  g8 P w K mg base (wV P w) (k+1) f (fnOf name qual params body scope dV kV doc pm an cdv ct) ps sp:=by
 refine⟨len,λA outer s H args us vs Q E hr e0 hb r hsp=> ?_⟩
 have hl:=len _ _ _ _ hsp
 have KX:K.In s.heap:=e0.mod.kin.keeps λb o e=>(e0.bs b o e).1
 have lim:s.heap.NoLimit:=e0.mod.nolimit.keeps λb o e=>(e0.bs b o e).1
 have hkind:∀y∈ps.zip us,scope.names.lookup y.1=some .local\/(scope.names.lookup y.1=some .cell/\((cellsFrom (s.heap.objs.size+1) scope.names []).lookup y.1).isSome=true):=λ⟨n,v⟩ hy=>by
  rcases S.par n (List.of_mem_zip hy).1 with q | q
  ·exact .inl q
  ·exact .inr ⟨q,PySem.W.cellsFrom_some _ _ _ (.inl q)⟩
 refine codeAny_call_function hr.depth (KX _ _ lk) rfl S.co S.gen rfl (PySem.W.codeRec_of KX hcd) (hb _ _ _ _ ?_)
 refine wpAny_newFunctionEnv_cells S.kind hkind λenv he s1 x=> ?_
 subst he
 refine⟨lim.keeps x.toInCall.keep,codeAny_func ?_⟩
 obtain⟨t,W,hE,ht,hq⟩:=hbody A outer s H vs Q E (hr.deeper _) hsp
 have I:L2.Inv (rY (wV P w) P w K mg base N qual scope f cdv A outer s H E) [] (start N vs) H s1:=QJ S hr.hd e0 hl r x
 refine wT (ht [] s1 (start N vs) H _ I hq) (?_) λe s' ⟨g,hs⟩=>ahA hs hE
 rintro fl s' ⟨g,hs⟩
 have fin:∀{σ':St} {H':Hp} {v:V} {u:Value},L2.Inv (fnz (rY (wV P w) P w K mg base N qual scope f cdv A outer s H E) g) [] σ' H' s'->RelV v u->Q v H'->CE outer P w H s Q u s':=
  λ{σ' H' v u} J rv q=>⟨v,H',J.os,J.bare,J.base,J.hok,rv,q⟩
 cases fl with
 | ret u=>
  obtain⟨v,σ',H',J,rv,q⟩:=hs
  exact fin J rv q
 | next=>
  obtain⟨σ',H',J,q⟩:=hs
  exact fin (v:=V.non) (u:=Value.none) J rfl q
 | brk=>
  obtain⟨_,_,_,q⟩:=hs
  exact False.elim q
 | cont=>
  obtain⟨_,_,_,q⟩:=hs
  exact False.elim q
def arv(X:Cx)(ct:Nat->Addr)(W:bf)(st:List Stmt)(m:MS):Prop:=ai1 X W st (tS X.K ct W m)
section
variable{X:Cx}{ct:Nat->Addr}{W:bf}{st:Stmt}{rest:List Stmt}{s t:MS}
theorem abJ(g:Str->Bool)(hg:∀x,g x=true->X.fn x=true)(h:SSs ((fnz X g).wish (jt (fnz X g) W)) ct W rest t):arv X ct W rest t:=aah g hg h
end
section
variable{P:Program}{w:World}{K:Frag}{mg:Str->Option Value}{base:Heap}{ct:Nat->Addr}
theorem anG{n ar:Nat}{b:MS}{x qual:Str}{st:Stmt}{dV:Value}{f:Addr}{fd:FuncData}{N ps:List Str}{k:Nat}(F:aV K x qual st dV f fd)(S:lu N ps (ak st))(hn:N.length=n)(har:ps.length=ar)
  (hbody:∀(cdv:Value) (A:Around) (outer:List PySem.Env) (s:Shared) (H:Hp) (E:XK) (W:bf),fd.code=cdv->jT k (A.deeper (envOfC qual (ak st) s.heap.objs.size f cdv))->
   arv (rY (wV P w) P w K mg base N qual (ak st) f cdv A outer s H E) ct W (aA st) b):
  g8 P w K mg base (wV P w) (k+1) f fd ps (spS K ct (aU n b) ar):=by
 subst hn har
 obtain⟨oc,od,kV,doc,pm,an,cdv,ctv,osl,rfl,lk,hcd⟩:=F.ex
 refine g8.gc (sp:=λvs H Q' E=>∃Q,spS K ct (aU N.length b) ps.length vs H Q E/\Q'=gcK H Q) (ahR lk hcd S (λvs H Q E ⟨Q0,⟨ι,ds,M,hl,_,hd,_⟩,_⟩=>by rw[hd.length,hl]) λA outer s H vs Q' E hr hsp=> ?_) λvs H Q E q=>⟨Q,q,rfl⟩
 obtain⟨Q,⟨ι,ds,M,hl,R,hd,p⟩,rfl⟩:=hsp
 refine⟨_,λC dx _ H'=>E (.ref C) (some dx) H',λC dx σ H' z=>z,hbody cdv A outer s H E _ rfl hr,ι,slots N.length ds,M,Ws.start N R hd,?_⟩
 unfold aU at p
 cases z:b (slots N.length ds) M with
 | ret d M'=>rw[z]at p;exact λι' v H' x r q=> .inl (p ι' v H' x r q)
 | next e M'=>rw[z]at p;exact λι' σ' H' x w'=> .inl (p ι' .non H' x w'.rl .non)
 | exc c d e M'=>rw[z]at p;exact λι' σ' dx v H' x w' q1 q2=>p ι' dx v H' x w'.rl q1 q2
 | brk e M'=>rw[z]at p;exact p.elim
 | cont e M'=>rw[z]at p;exact p.elim
 | bad=>rw[z]at p;exact p.elim
end
theorem aaI{P:Program}{w:World}{K:Frag}{mg mb:Str->Option Value}{CX:ZM}{k:Nat}{fa a:Addr}{fd:FuncData}{x:Str}{sp:Sp}{s₁:Shared}{vs:List Value}{ns:List Int}{tabs:List (Addr×Addr)}
  (KX:K.In s₁.heap) (hns:s₁.heap.Ns mainGlobals mg) (hb:s₁.heap.Ns builtinsNs mb) (hbb:∀x:Str,x≠ "__name__" -> mb x=bootBuiltins x) (hlim:s₁.heap.NoLimit) (hg:s₁.gens= #[])
  (ha:s₁.heap.get? a=some {cls:= .type "list",data:= .seq vs.toArray}) (hi:IntsAre vs ns) (hl:ns.length<=sizeLine) (hr:jT k callerA)
  (hT:PySem.W.TabsAt tabs s₁.heap) (hKt:∀q∈tabs,K.lookup q.2=none) (hbi:∀q∈tabs,s₁.heap.BuiltinsAt mg q.2)
  (F:∀base:Heap,K.In base->base.Ns mainGlobals mg->(∀q∈tabs,PySem.W.CodeHd base q.1 q.2/\base.BuiltinsAt mg q.2)->g8 P w K mg base CX k fa fd [x] sp) (hbind:∀(s:Shared) (u:Value),BindsTo s fd ⟨[u],[]⟩ [(x,u)])
  (hsp:∀H:Hp,(∀q∈tabs,H q.2=some (.yJ #[]))->FrL K H a (ns.map V.int)->sp [.ref a] H (λv _=>v= .bl true) λ_ _ _=>False)
  (hCX:∀H e s',CX [] H s₁ (λ_ _ _=>False) e s'->False):
  codeAny (model P w) callerA (.call (.ref fa) ⟨[.ref a],[]⟩) (λr s'=>r= .ok (.ret (.bool true))/\OldK s₁.heap s'.heap/\s'.os=s₁.os/\AllBare s'.gens) s₁:=by
 have rv:=Jh hi
 have lenV:=hi.length
 have core:∀H:Hp,(∀b,H b=none\/(b=a/\∃o xs,H b=some (.gb o (.lst xs)))\/∃q∈tabs,b=q.2/\H b=some (.yJ #[]))->(∀q∈tabs,H q.2=some (.yJ #[]))->FrL K H a (ns.map V.int)->ym P w H s₁.heap->(H a≠none->K.lookup a=none)->
   codeAny (model P w) callerA (.call (.ref fa) ⟨[.ref a],[]⟩) (λr s'=>r= .ok (.ret (.bool true))/\OldK s₁.heap s'.heap/\s'.os=s₁.os/\AllBare s'.gens) s₁:=by
  intro H hO hH hS hok hK
  have LR:∀{b:Addr} {o:Obj},s₁.heap.get? b=some o->H b=none->(Ot s₁.heap H).get? b=some o:=λe n=>ac8 e n
  have noT:∀{b:Addr} {o:Obj},s₁.heap.get? b=some o->o.cls≠ .type "list" -> o.cls≠ .none->H b=none:=λ{b o} e n1 n2=>by
   rcases hO b with z | ⟨rfl,_⟩ | ⟨q,hq,rfl,_⟩
   ·exact z
   ·rw[ha]at e;cases e;exact absurd rfl n1
   ·rw[(hT q hq).2]at e;cases e;exact absurd rfl n2
  have noA:∀{b:Addr} {o:Obj} {es:Array DictEntry} {ep:Nat},s₁.heap.get? b=some o->o.data= .dict es ep->H b=none:=λ{b o es ep} e d=>by
   rcases hO b with z | ⟨rfl,_⟩ | ⟨q,hq,rfl,_⟩
   ·exact z
   ·rw[ha]at e;cases e
    have d':Data.seq vs.toArray _=Data.dict es ep:=d
    cases d'
   ·rw[(hT q hq).2]at e;cases e;cases d
  have nsK:∀{b:Addr} {m:Str->Option Value},s₁.heap.Ns b m->(Ot s₁.heap H).Ns b m:=λ{b m} ⟨o,es,ep,e,d,r⟩=>⟨o,es,ep,LR e (noA e d),d,r⟩
  have hKb:K.In (Ot s₁.heap H):=λb o e=>LR (KX b o e) (by
   rcases hO b with z | ⟨rfl,o2,xs,z⟩ | ⟨q,hq,rfl,_⟩
   ·exact z
   ·rw[hK (by rw[z];simp)]at e;cases e
   ·rw[hKt q hq]at e;cases e)
  have hTb:∀q∈tabs,PySem.W.CodeHd (Ot s₁.heap H) q.1 q.2/\(Ot s₁.heap H).BuiltinsAt mg q.2:=λq hq=>by
   obtain⟨o,us,file,tf,flags,tg,inF,text,tt,e1,r1,r⟩:=(hT q hq).1
   obtain⟨bm,ob,b1,b2,b3,b4,b5,b6,r'⟩:=hbi q hq
   exact⟨⟨o,us,file,tf,flags,tg,inF,text,tt,LR e1 (noT e1 (by rw[r1];decide) (by rw[r1];decide)),r1,r⟩,bm,ob,b1,b2,b3,b4,LR b5 (noT b5 (by rw[b6];decide) (by rw[b6];decide)),b6,r'⟩
  have hM:Mod K mg (Ot s₁.heap H):=⟨hKb,nsK hns,⟨mb,nsK hb,hbb⟩,let⟨mc,h1,h2⟩:=hlim;⟨mc,nsK h1,h2⟩⟩
  have e0:V_ P w K mg (Ot s₁.heap H) callerA [] s₁ H:=⟨rfl,hM,λb o e=>aeA e,Nat.le_of_eq (aaT _ _),trivial,λb hb=>absurd (show b∈([]:List Addr)from hb) (by simp),hok,.of_eq hg⟩
  refine codeAny_mono ((F _ hKb (nsK hns) hTb).run callerA [] s₁ H ⟨[.ref a],[]⟩ [.ref a] [.ref a] _ _ hr e0 (hbind s₁ (.ref a)) (.cons rfl .nil) (hsp H hH hS)) λr s' h=> ?_
  cases r with
  | error e=>exact(hCX H e s' h).elim
  | ok fl=>
   cases fl with
   | next=>exact False.elim h
   | brk=>exact False.elim h
   | cont=>exact False.elim h
   | ret u=>
    obtain⟨v,H',os,bare,un,hok',r',q⟩:=h
    have q':v= .bl true:=q
    subst q'
    obtain rfl:u=Value.bool true:=r'
    have key:∀b o,s₁.heap.get? b=some o->s'.heap.get? b=some o\/∃q∈tabs,b=q.2/\∃more,s'.heap.get? b=some (PySem.W.tabObj (#[]++more)):=λb o e=>by
     rcases hO b with z | ⟨rfl,ob,xs,z⟩ | ⟨q,hq,rfl,z⟩
     ·exact .inl (un.keep b o e z (by intro z;exact absurd (show b∈([]:List Addr)from z) (by simp)) (by simp))
     ·have z2:=un.vq b ob _ z
      obtain⟨e1,_⟩:=hok b _ z
      obtain⟨e2,_⟩:=hok' b _ z2
      rw[e]at e1;cases e1
      exact .inl e2
     ·obtain⟨more,z2⟩:=un.yo _ _ z
      exact .inr ⟨q,hq,rfl,more,hok' _ _ z2⟩
    refine⟨rfl,⟨λb o e=> ?_,λb o e=> ?_⟩,os,bare⟩
    ·rcases key b o e with z | ⟨q,hq,rfl,more,z⟩
     ·exact .inl z
     ·have e2:=(hT q hq).2
      rw[e]at e2;cases e2
      obtain⟨o,us,file,tf,flags,tg,inF,text,tt,e1,r1,r2,r3,r4⟩:=(hT q hq).1
      exact .inr (.inl ⟨⟨q.1,o,us,e1,r1,r2,r3⟩,rfl,#[],more,rfl,z⟩)
    ·rcases key b o e with z | ⟨q,hq,rfl,more,z⟩
     ·exact⟨_,z⟩
     ·exact⟨_,z⟩
 have aT:a∉tabs.map (·.2):=λz=>by
  obtain⟨q,hq,e⟩:=List.mem_map.mp z
  have:=(hT q hq).2
  rw[e,ha]at this
  cases this
 have tH:∀{b:Addr},b∈tabs.map (·.2)->bT P w (λ_=>none) s₁.heap b (.yJ #[]):=λ{b} z=>by
  obtain⟨q,hq,rfl⟩:=List.mem_map.mp z
  exact(hT q hq).2
 cases hk:K.lookup a with
 | some o=>
  have e:=KX a o hk
  rw[ha]at e
  cases e
  refine core (λb=>if b∈tabs.map (·.2)then some (.yJ #[])else none) (λb=> ?_) (λq hq=>if_pos (List.mem_map_of_mem hq)) (.inr ⟨_,vs.toArray,_,hk,rfl,rfl,rfl,by rw[List.size_toArray,lenV];exact hl,by simpa using rv⟩) (λb u z=> ?_) λz=>absurd (if_neg aT) z
  ·by_cases hb:b∈tabs.map (·.2)
   ·obtain⟨q,hq,e⟩:=List.mem_map.mp hb
    exact .inr (.inr ⟨q,hq,e.symm,if_pos hb⟩)
   ·exact .inl (if_neg hb)
  ·by_cases hb:b∈tabs.map (·.2)
   ·have z':=(if_pos hb).symm.trans z
    cases z'
    exact tH hb
   ·have z':=(if_neg hb).symm.trans z
    cases z'
 | none=>
  refine core (λb=>if b∈tabs.map (·.2)then some (.yJ #[])else if b=a then some (.gb {cls:= .type "list",data:= .seq vs.toArray} (.lst (ns.map V.int)))else none) (λb=> ?_) (λq hq=>if_pos (List.mem_map_of_mem hq)) (.inl ⟨{cls:= .type "list",data:= .seq vs.toArray},(if_neg aT).trans (if_pos rfl)⟩) (λb u z=> ?_) λ_=>hk
  ·by_cases hb:b∈tabs.map (·.2)
   ·obtain⟨q,hq,e⟩:=List.mem_map.mp hb
    exact .inr (.inr ⟨q,hq,e.symm,if_pos hb⟩)
   ·by_cases hb2:b=a
    ·exact .inr (.inl ⟨hb2,_,_,(if_neg hb).trans (if_pos hb2)⟩)
    ·exact .inl ((if_neg hb).trans (if_neg hb2))
  ·by_cases hb:b∈tabs.map (·.2)
   ·have z':=(if_pos hb).symm.trans z
    cases z'
    exact tH hb
   ·by_cases hb2:b=a
    ·have z':=((if_neg hb).trans (if_pos hb2)).symm.trans z
     cases z'
     subst hb2
     exact⟨ha,by rw[zan];exact hl,vs,_,rv,ha⟩
    ·have z':=((if_neg hb).trans (if_neg hb2)).symm.trans z
     cases z'
theorem VL(T:PyProof.Rows.Top p loose mean mg mb h)(hP:h.get? P=some (PySem.W.tabObj #[])):h.BuiltinsAt mg P:=by
 obtain⟨bm,ob,b1,b2,b3,b4,b5,b6⟩:=T.bmain
 refine⟨bm,ob,b1,b2,λq=> ?_,λq=> ?_,b3,b4,b5,b6⟩
 ·obtain⟨o,es,ep,e,hd,_⟩:=T.g
  rw[q,e]at b3;cases b3;rw[hd]at b6;cases b6
 ·rw[q,hP]at b3;cases b3;cases b4
theorem adQ:TabOk H #[]:=⟨trivial,λpos cv z=>by
 have:codeAmong pos []=none:=rfl
 rw[show(#[]:Array Value).toList=[]from rfl,this]at z
 cases z⟩
structure Mk0(K:Frag)(C:Addr):Prop where
 makes:PySem.W.makesIn K C=true
 init:findIn K (.ref C) "__init__" = some (some (.builtin "object.__init__"))
 kp:keepIn K (.ref C)=true
def YB(C:Addr):TE:=λ_ H Q=>∀x dx,H x=none->H dx=none->dx≠x->Q (.ref x) (upd (upd H dx (.own x)) x (.ins C dx []))
section
variable{X:Cx}{ct:Nat->Addr}{W:bf}{C:Addr}
theorem WX(M:Mk0 X.K C)(I:L2.Inv X pins σ H s)(h:YB C σ H Q):wpAny (model X.prog X.w) X.A (call (.ref C) []) (EP X pins σ Q) X.xe s:=by
 have hq:=h (s.heap.objs.size+1) s.heap.objs.size (I.hok.fresh (Nat.le_succ _)) (I.hok.fresh (zab _)) (xD (Nat.lt_succ_self _))
 have I2:=L2.Inv.made (C:=C) I
 have Y:=PySem.W.makes_of (M:=model X.prog X.w) I.zb M.makes
 refine wpAny_call (aaC I.zb M.makes M.init (λself=>PySem.W.Looks.of_pure (PySem.W.oi_bind self)) ?_)
 have g1:((s.heap.push PySem.W.emptyDict).push (PySem.W.instObj C s.heap.objs.size)).get? (s.heap.objs.size+1)=some (PySem.W.instObj C s.heap.objs.size):=by
  have:=yB (s.heap.push PySem.W.emptyDict) (o:=PySem.W.instObj C s.heap.objs.size) rfl
  rw[Heap.size_push]at this
  exact this
 have t1:PySem.W.Looks (model X.prog X.w) ((s.heap.push PySem.W.emptyDict).push (PySem.W.instObj C s.heap.objs.size)) (typeOf (.ref (s.heap.objs.size+1))) (.ref C):=(PySem.W.Looks.ld g1).andThen .now
 have t2:PySem.W.Looks (model X.prog X.w) ((s.heap.push PySem.W.emptyDict).push (PySem.W.instObj C s.heap.objs.size)) (isInstance (.ref (s.heap.objs.size+1)) (.type "object")) true:=t1.andThen (Y.top.keeps λb o e=>zD _ (zD _ e))
 obtain⟨hh,g,d,t,os⟩:=s
 refine codeAny_call_builtin PySem.W.oi_plain PySem.W.entry_oi (@PySem.W.check_slot (model X.prog X.w) _ _ _ "object.__init__" "object" "__init__" (.ref (hh.objs.size+1)) [] [] _ PySem.W.oi_kind PySem.W.oi_split t2 (PySem.W.oi_args (.ref (hh.objs.size+1))) ?_)
 rw[PySem.W.oi_run]
 exact zI (And.intro rfl ⟨V.ref (hh.objs.size+1),_,I2,rfl,hq⟩)
theorem aap(M:Mk0 X.K C)(hg:Gl X x)(hm:X.mg x=some (.ref C))(hdb:(x==("__debug__" : Str))=false:=by decide):PE X (.Call (.Name x p) [] [] pos) (YB C):=by
 intro pins s σ H Q I h
 refine wpAny_Call_Name_kw (Eg I hg hm ?_ hdb)
 exact PySem.W.callWith_K0 I.zb M.kp (WX M I h)
noncomputable def Ly(c:Nat):ME:=λ_ M=> .ok (.ref M.length) (M++[.ins c []])
@[simp] theorem ahu:Ly c e M= .ok (.ref M.length) (M++[.ins c []]):=id rfl
theorem Qq(M:Mk0 X.K (ct kc))(hg:Gl X x)(hm:X.mg x=some (.ref (ct kc)))(hdb:(x==("__debug__" : Str))=false:=by decide):SE X ct W (.Call (.Name x p) [] [] pos) (Ly kc):=by
 refine fX (aap M hg hm hdb) ?_
 rintro σ H Q ⟨ι,e,M,w,q⟩
 refine λa dx ha hdx ne=> ?_
 have x1:Ext X.K ι M.length H ι M.length (upd H dx (.own a)):=Ext.fresh hdx
 have r1:Rl X.K ct ι M (upd H dx (.own a)):=w.rl.fresh hdx
 have ha':upd H dx (.own a) a=none:=by rw[aH (Ne.symm ne)];exact ha
 have x2:Ext X.K ι M.length (upd H dx (.own a)) (lF ι M.length a) (M.length+1) (upd (upd H dx (.own a)) a (.ins (ct kc) dx [])):=Ext.new ha'
 have r2:Rl X.K ct (lF ι M.length a) (M++[MO.ins kc []]) (upd (upd H dx (.own a)) a (.ins (ct kc) dx [])):=r1.new ha' ⟨dx,[],aM,.nil⟩
 have el:(M++[MO.ins kc []]).length=M.length+1:=by simp
 refine q (lF ι M.length a) (.ref a) _ (by rw[el];exact x1.trans x2) r2 ?_
 have hd:lF ι M.length a M.length=a:=by unfold lF;rw[if_pos rfl]
 have:=DV.ref (K:=X.K) (ct:=ct) (ι:=lF ι M.length a) (n:=(M++[MO.ins kc []]).length) (H:=upd (upd H dx (.own a)) a (.ins (ct kc) dx [])) (i:=M.length) (by rw[el];exact Nat.lt_succ_self _)
 rw[hd]at this
 exact this
end
structure OIs(K:Frag)(C:Addr):Prop where
 cl:Li K C
 ha:findIn K (.ref C) "__class__" = some (some (.builtin "object.__class__"))
 hn:PySem.W.specialIn K (.builtin "object.__class__") "__get__" = some (some (.builtin "getset_descriptor.__get__"))
 tk:PySem.W.takesIn K (.builtin "object.__class__")=some true
 mr:PySem.W.mroIn K C (.type "object")=some true
def V6(K:Frag)(ct:Nat->Addr)(k:Nat):List (Nat×Bool)->Prop
 | []=>True
 | (c,b)::r=>(kitOne K (.ref (ct c)) (.ref (ct k))=some b/\OIs K (ct c))/\V6 K ct k r
theorem V6.get{K:Frag}{ct:Nat->Addr}{k:Nat}:∀{cl:List (Nat×Bool)} {c:Nat} {b:Bool},V6 K ct k cl->cl.lookup c=some b->kitOne K (.ref (ct c)) (.ref (ct k))=some b/\OIs K (ct c)
 | [],_,_,_,e=>by cases e
 | (c',b')::r,c,b,h,e=>by
  rw[List.lookup_cons]at e
  cases z:c==c' with
  | true=>rw[z]at e;cases e;rw[eq_of_beq z];exact h.1
  | false=>rw[z]at e;exact V6.get h.2 e
noncomputable def Z9(k:Nat)(cl:List (Nat×Bool)):V4:=λds M=>match ds with
 | [.ref n,.cls k']=>if k=k' then(match M[n]? with
  | some (.ins c _)=>(match cl.lookup c with
   | some b=> .ok (.bl b) M
   | none=> .bad)
  | _=> .bad)else .bad
 | _=> .bad
theorem abZ(h:M[n]? = some (.ins c fs))(hb:cl.lookup c=some b):Z9 k cl [.ref n,.cls k] M= .ok (.bl b) M:=by
 simp only[Z9,if_true,h,hb]
theorem ahV(h:V6 X.K ct k cl):wR X ct (.builtin "isinstance") (Z9 k cl):=by
 refine⟨_,VJ,λι M H ds vs Q R hd p=> ?_⟩
 unfold Z9 at p
 split at p
 ·rename_i n k'
  obtain⟨v,v',rfl,q,q'⟩:=adl hd
  cases q'
  by_cases z:k=k'
  ·subst z
   rw[if_pos rfl]at p
   split at p
   ·rename_i c fs e
    cases z2:cl.lookup c with
    | none=>rw[z2]at p;exact p.elim
    | some b=>
     rw[z2]at p
     obtain⟨hn,rfl⟩:=nC q
     obtain⟨dx,us,hH,_⟩:=R.obj n _ e
     unfold agI
     exact⟨_,_,.ref (ct c),.ref (ct k),b,rfl,rfl,(let z:=(h.get z2).2;.ins hH z.cl z.ha z.hn z.tk z.mr),(h.get z2).1,p ι _ H .refl R (.bl b)⟩
   ·exact p.elim
  ·rw[if_neg z]at p;exact p.elim
 ·exact p.elim
theorem ahF{p x y:Str}(h:List.lookup y [(p,NameKind.local),(x,NameKind.free)]=some NameKind.free):y=x:=by
 rw[List.lookup_cons]at h
 cases z:y==p with
 | true=>rw[z]at h;cases h
 | false=>
  rw[z]at h
  have h:List.lookup y [(x,NameKind.free)]=some NameKind.free:=h
  rw[List.lookup_cons]at h
  cases z2:y==x with
  | true=>exact eq_of_beq z2
  | false=>rw[z2]at h;cases h
theorem ahE:a<=a+1+b:=yY (Nat.le_succ _) (Nat.le_add_right _ _)
end S
namespace L2
open PySem PySem.Spec PyProof.Rows
section
variable{X:Cx}{pins:List (Addr×Obj)}{σ:St}{H:Hp}{s:Shared}{d:Addr}{o:Obj}{kvs:List (Key×V)}
def adF(X:Cx)(d:Addr):Prop:=∀o u,X.H₀ d≠some (.gb o u)
theorem Inv.ayf(I:Inv X pins σ H s)(e:H d=some (.dK kvs)):adF X d:=λo u q=>by
 have:=I.base.vq d o u q
 rw[e]at this;cases this
theorem Inv.ae1(I:Inv X pins σ H s)(e:H d=some (.dK kvs))(ho:s.heap.get? d=some o):Inv X pins σ (upd H d (.gb o (.dK kvs))) s:=by
 have hk:∀b u,(∀ks,u≠ .dK ks)->H b=some u->upd H d (.gb o (.dK kvs)) b=some u:=λb u n q=>by
  rw[aH (λz=>by subst z;rw[e]at q;exact n _ (xI q).symm)];exact q
 have hz:∀b,H b=none->upd H d (.gb o (.dK kvs)) b=none:=λb q=>by
  rw[aH (λz=>by subst z;rw[e]at q;cases q)];exact q
 refine⟨I.ok,I.os,I.bare,⟨I.base.keep,I.base.slot,λb o q n z=>hz b (I.base.free b o q n z),I.base.there,λb xs q=>hk _ _ (λ_ z=>nomatch z) (I.base.tups b xs q),λb o u q=>hk _ _ (λ_ z=>nomatch z) (I.base.vq b o u q),λb ps q=> ?_⟩,
  I.loc,I.cell,hz _ I.free,λx c q=>(I.m7 x c q).imp id (hz _) λ_ _ z=>hk _ _ (λ_ z=>nomatch z) z,λp hp=> ?_,λb u q=> ?_,I.len⟩
 ·obtain⟨m,z⟩:=I.base.yo b ps q;exact⟨m,hk _ _ (λ_ z=>nomatch z) z⟩
 ·obtain⟨z1,z2,z3⟩:=I.pin p hp;exact⟨z1,hz _ z2,z3⟩
 ·by_cases z:b=d
  ·subst z
   rw[aM]at q;cases q
   exact⟨ho,(I.hok b _ e).stay (λ_ _ _ y=>y) (λb' y=>hk _ _ (λ_ z=>nomatch z) y) λb' xs y=>hk _ _ (λ_ z=>nomatch z) y⟩
  ·rw[aH z]at q
   exact(I.hok b u q).stay (λ_ _ _ y=>y) (λb' y=>hk _ _ (λ_ z=>nomatch z) y) λb' xs y=>hk _ _ (λ_ z=>nomatch z) y
theorem Inv.ajG(I:Inv X pins σ H s)(nf:adF X d)(e:H d=some (.gb o (.dK kvs))):Inv X pins σ (upd H d (.dK kvs)) s:=by
 have hk:∀b u,(∀a z,u≠ .gb a z)->H b=some u->upd H d (.dK kvs) b=some u:=λb u n q=>by
  rw[aH (λz=>by subst z;rw[e]at q;exact n _ _ (xI q).symm)];exact q
 have hz:∀b,H b=none->upd H d (.dK kvs) b=none:=λb q=>by
  rw[aH (λz=>by subst z;rw[e]at q;cases q)];exact q
 have ncd:∀x c,X.env.cells.lookup x=some c->c≠d:=λx c q z=>by
  subst z
  obtain⟨v,o',e1,e2⟩:=I.cell x c q
  obtain⟨_,_,_,_,o2,es,ep,ho,ex,hd,_⟩:=(show bT X.prog X.w H s.heap c (.gb o (.dK kvs))from I.hok c _ e).2
  rw[ho]at e1;cases e1;rw[hd]at e2;cases e2
 refine⟨I.ok,I.os,I.bare,⟨I.base.keep,I.base.slot,λb o q n z=>hz b (I.base.free b o q n z),I.base.there,λb xs q=>hk _ _ (λ_ _ z=>nomatch z) (I.base.tups b xs q),λb o' u q=> ?_,λb ps q=> ?_⟩,
  I.loc,I.cell,hz _ I.free,λx c q=>(I.m7 x c q).imp id (hz _) λ_ _ z=>by rw[aH (ncd x c q)];exact z,λp hp=> ?_,λb u q=> ?_,I.len⟩
 ·rw[aH (λz=>by subst z;exact nf _ _ q)]
  exact I.base.vq b o' u q
 ·obtain⟨m,z⟩:=I.base.yo b ps q;exact⟨m,hk _ _ (λ_ _ z=>nomatch z) z⟩
 ·obtain⟨z1,z2,z3⟩:=I.pin p hp;exact⟨z1,hz _ z2,z3⟩
 ·by_cases z:b=d
  ·subst z
   rw[aM]at q;cases q
   exact(show bT X.prog X.w H s.heap b (.gb o (.dK kvs))from I.hok b _ e).2.stay (λ_ _ _ y=>y) (λb' y=>hk _ _ (λ_ _ z=>nomatch z) y) λb' xs y=>hk _ _ (λ_ _ z=>nomatch z) y
  ·rw[aH z]at q
   exact(I.hok b u q).stay (λ_ _ _ y=>y) (λb' y=>hk _ _ (λ_ _ z=>nomatch z) y) λb' xs y=>hk _ _ (λ_ _ z=>nomatch z) y
theorem Qv{α β:Type}{F:α->β->Prop}:∀{l₁:List α} {l₂:List β},Paired F l₁ l₂->∀{i:Nat} {a:α} {b:β},l₁[i]? = some a->l₂[i]? = some b->F a b
 | _,_,.nil,_,_,_,h,_=>by simp at h
 | _,_,.cons r t,0,_,_,h,h'=>by simp at h h';subst h h';exact r
 | _,_,.cons r t,i+1,_,_,h,h'=>Qv t (by simpa using h) (by simpa using h')
theorem ac_(I:Inv X pins σ H s)(e:H d=some (.gb o (.dK kvs)))(hep:o.data= .dict es ep):∃vs,KV kvs vs/\s.heap.DictAt (gM X.prog X.w) d vs ep:=by
 obtain⟨ho,z,hd,vs,rel,o',es',ep',g,r1,r2,r3⟩:=(show bT X.prog X.w H s.heap d (.gb o (.dK kvs))from I.hok d _ e)
 rw[ho]at g;cases g
 rw[hep]at r2;cases r2
 exact⟨vs,rel,o,es,ho,r1,hep,r3⟩
end
end L2
namespace S
open PySem PySem.Spec PyProof.Rows L2
structure Wk(K:Frag)(H H':Hp):Prop where
 tup:∀a xs,H a=some (.tup xs)->H' a=some (.tup xs)
 gb:∀a xs,FrL K H a xs->FrL K H' a xs
 ex:∀a φ,H a=some (.ext φ)->H' a=some (.ext φ)
 xd:∀a fs,H a=some (.xd fs)->H' a=some (.xd fs)
 fz:∀a o u,(∀ks,u≠ .dK ks)->H a=some (.gb o u)->H' a=some (.gb o u)
 tb:∀a ps,H a=some (.yJ ps)->H' a=some (.yJ ps)
theorem ada(ks:List (Key×V)):GK≠ .dK ks:=λz=>nomatch z
theorem BV.wk{K:Frag}{H H':Hp}{cv:Value}(e:Wk K H H')(h:BV H cv):BV H' cv:=
 let⟨c,oc,vs,q,t,a1,a2,r⟩:=h;⟨c,oc,vs,q,t,a1,e.fz _ _ _ ada a2,r⟩
mutual
theorem DV.wk{K:Frag}{ct ι:Nat->Addr}{n:Nat}{H H':Hp}(e:Wk K H H'):∀{d:D} {v:V},DV K ct ι n H d v->DV K ct ι n H' d v
 | _,_,.non=> .non
 | _,_,.bl b=> .bl b
 | _,_,.int i=> .int i
 | _,_,.str x=> .str x
 | _,_,.tup h hs=> .tup (e.tup _ _ h) (nU.wk e hs)
 | _,_,.ref h=> .ref h
 | _,_,.cl h hs=> .cl (e.gb _ _ h) (nU.wk e hs)
 | _,_,.ty s=> .ty s
 | _,_,.cls c=> .cls c
 | _,_,.exc h1 h2 h3=> .exc (e.ex _ _ h1) (e.xd _ _ h2) (DV.wk e h3)
 | _,_,.X5 h hs=> .X5 h (nU.wk e hs)
 | _,_,.fn h1 h2 h3 h4 h5 h6=> .fn (e.fz _ _ _ ada h1) h2 (h3.wk e) (e.fz _ _ _ h5.2 h4) h5 h6
theorem nU.wk{K:Frag}{ct ι:Nat->Addr}{n:Nat}{H H':Hp}(e:Wk K H H'):∀{ds:List D} {vs:List V},nU K ct ι n H ds vs->nU K ct ι n H' ds vs
 | _,_,.nil=> .nil
 | _,_,.cons h hs=> .cons (DV.wk e h) (nU.wk e hs)
end
section
variable{K:Frag}{ct ι:Nat->Addr}{n:Nat}{H H':Hp}{M:Mem}{d:Addr}{o:Obj}{ys:List (Key×V)}
theorem Rb.wk(e:Wk K H H'):∀{fs:List (Str×D)} {vs:List (Str×V)},Rb K ct ι n H fs vs->Rb K ct ι n H' fs vs
 | _,_,.nil=> .nil
 | _,_,.cons h hs=> .cons (h.wk e) (Rb.wk e hs)
theorem Du.wk{κ:Type}(e:Wk K H H'):∀{fs:List (κ×D)} {vs:List (κ×V)},Du K ct ι n H fs vs->Du K ct ι n H' fs vs
 | _,_,.nil=> .nil
 | _,_,.cons h hs=> .cons (h.wk e) (Du.wk e hs)
theorem OR.wk(e:Wk K H H')(hh:H' a=H a)(h:OR K ct ι n H a x):OR K ct ι n H' a x:=by
 cases x with
 | lst ds=>obtain⟨vs,q,r⟩:=h;exact⟨vs,by rw[hh];exact q,r.wk e⟩
 | ins c fs=>obtain⟨dx,vs,q,r⟩:=h;exact⟨dx,vs,by rw[hh];exact q,r.wk e⟩
 | dk kvs=>obtain⟨vs,q,r⟩:=h;exact⟨vs,by rw[hh];exact q,r.wk e⟩
 | dt kvs=>obtain⟨vs,q,r⟩:=h;exact⟨vs,by rw[hh];exact q,r.wk e⟩
 | fd kvs=>obtain⟨o,vs,q,r⟩:=h;exact⟨o,vs,by rw[hh];exact q,r.wk e⟩
theorem Wk.abC(h:H d=some (.gb o (.dK ys))):Wk K H (upd H d (.dK ys)) where
 tup:=λa xs q=>by rw[aH (λz=>by subst z;rw[h]at q;cases q)];exact q
 gb:=λa xs q=>by
  rcases q with⟨b,q⟩ | q
  ·exact .inl ⟨b,by rw[aH (λz=>by subst z;rw[h]at q;cases q)];exact q⟩
  ·exact .inr q
 ex:=λa φ q=>by rw[aH (λz=>by subst z;rw[h]at q;cases q)];exact q
 xd:=λa fs q=>by rw[aH (λz=>by subst z;rw[h]at q;cases q)];exact q
 fz:=λa o u n q=>by rw[aH (λz=>by subst z;rw[h]at q;cases q;exact n _ rfl)];exact q
 tb:=λa ps q=>by rw[aH (λz=>by subst z;rw[h]at q;cases q)];exact q
theorem V3.wk(e:Wk K H H')(h:V3 ct H):V3 ct H':=λk hk hc=>
 let⟨ps,a,t,b⟩:=h k hk hc
 ⟨ps,e.tb _ _ a,t,λpos cv z=>(b pos cv z).wk e⟩
theorem Rl.abC(R:Rl K ct ι M H)(hi:i<M.length)(h:H (ι i)=some (.gb o (.dK ys)))(pv:Du K ct ι M.length H kvs ys):Rl K ct ι (M.set i (.dk kvs)) (upd H (ι i) (.dK ys)):=by
 refine⟨λj k hj hk e=>R.inj j k (by simpa using hj) (by simpa using hk) e,λj y hy=> ?_,R.tab.wk (K:=K) (Wk.abC h)⟩
 rw[List.length_set]
 by_cases e:i=j
 ·subst e
  rw[zaj hi]at hy
  cases hy
  exact⟨ys,aM,pv.wk (Wk.abC h)⟩
 ·rw[zai e]at hy
  have hj:j<M.length:=(List.getElem?_eq_some_iff.mp hy).1
  exact(R.obj j y hy).wk (Wk.abC h) (aH λz=>e (R.inj i j hi hj z.symm))
theorem adf(h1:H1 d=some (.dK ys1))(x:Ext K cF n1 (upd H1 d (.gb o1 (.dK ys1))) ι' n' H')(h':H' d=some (.gb o (.dK ys))):Ext K cF n1 H1 ι' n' (upd H' d (.dK ys)) where
 tup:=λa xs q=>by
  have ne:a≠d:=λz=>by subst z;rw[h1]at q;cases q
  rw[aH ne];exact x.tup a xs (by rw[aH ne];exact q)
 gb:=λa xs q=>by
  rcases q with⟨b,q⟩ | q
  ·have ne:a≠d:=λz=>by subst z;rw[h1]at q;cases q
   exact .inl ⟨b,by rw[aH ne];exact x.fz a b _ (by rw[aH ne];exact q)⟩
  ·exact .inr q
 ex:=λa φ q=>by
  have ne:a≠d:=λz=>by subst z;rw[h1]at q;cases q
  rw[aH ne];exact x.ex a φ (by rw[aH ne];exact q)
 xd:=λa fs q=>by
  have ne:a≠d:=λz=>by subst z;rw[h1]at q;cases q
  rw[aH ne];exact x.xd a fs (by rw[aH ne];exact q)
 fz:=λa b u q=>by
  have ne:a≠d:=λz=>by subst z;rw[h1]at q;cases q
  rw[aH ne];exact x.fz a b u (by rw[aH ne];exact q)
 le:=x.le
 same:=x.same
end
end S
namespace L2
open PySem PySem.Spec PyProof.Rows
section
variable{X:Cx}{pins:List (Addr×Obj)}{σ:St}{H:Hp}{s:Shared}{d:Addr}{o:Obj}{kvs:List (Key×V)}
noncomputable def Iti(d:Addr)(o:Obj)(kvs:List (Key×V)):It:=
 ⟨λi H=>H d=some (.gb o (.dK kvs))/\i<kvs.length,λi H x H'=>∃a p,H a=none/\kvs[i]? = some p/\x= .ref a/\H'=upd H a (.tup [kV p.1,p.2]),λi H=>H d=some (.gb o (.dK kvs))/\kvs.length<=i⟩
theorem Wu{P:Program}{w:World}{K:Frag}{es:List Expr}{n:Nat}{tp:Pos}{ee:Array DictEntry}{ep:Nat}(hep:o.data= .dict ee ep)(it:Addr):
  Turn P w K (.Tuple es n tp) (Iti d o kvs) [it] it (λi h=>∃ok ov,IsItemIter h it d i kvs.length ep ok ov) where
 mem:=by simp
 obj:=λi h st b hb=>by
  have e:b=it:=by simpa using hb
  subst e
  obtain⟨ok,ov,e⟩:=st
  exact⟨_,e,λv z=>by cases(show Data.fields _=Data.cell v from z)⟩
 keep:=λi h h' ⟨ok,ov,e⟩ k=>⟨ok,ov,k it (by simp) _ e⟩
 item:=by
  intro X hP hw hK hc i pins s σ H E I hf st hg
  subst hP hw hK
  obtain⟨hq,hi⟩:=hg
  obtain⟨ok,ov,st⟩:=st
  obtain⟨vs,rel,dd⟩:=ac_ I hq hep
  have hl:vs.length=kvs.length:=rel.length.symm
  obtain⟨p,hp⟩:∃p,kvs[i]? = some p:=⟨_,zac hi⟩
  obtain⟨q,hq2⟩:∃q,vs[i]? = some q:=⟨_,zac ()⟩
  obtain⟨pq1,pq2⟩:=Qv rel hp hq2
  rw[<-hl]at st
  refine wpAny_pyNext_items_item (k:=q.1) (v:=q.2) st dd hq2 λkey h1 hkey ho hT hsz hk=>⟨_,rfl,wpAny_letOwnedTupleGo_items ho λh2 he2 hs2=> ?_⟩
  have hTe:s.heap.objs.size≠it:=xS (zS st)
  have hT2:h2.get? s.heap.objs.size=some {cls:= .type "tuple",data:= .seq #[key,q.2]}:=(hs2.2 _ hTe).trans hT
  have hf0:H s.heap.objs.size=none:=I.hok.fresh (zab _)
  have hfi:=hf it (by simp)
  refine⟨.ref s.heap.objs.size,upd H s.heap.objs.size (.tup [kV p.1,p.2]),?_,rfl,⟨_,p,hf0,hp,rfl,rfl⟩,⟨key,q.2,by rw[<-hl];exact he2⟩,λb hb=> ?_⟩
  ·refine I.aby (λb o n1 n2 eb=>(hs2.2 b n1).trans (hk b o n1 eb)) hfi hfi (zab _) ?_
   exact⟨abw,[key,q.2],.cons (by rw[pq1];exact afS hkey) (.cons pq2 .nil),⟨_,hT2,rfl,_,rfl⟩⟩
  ·have e:b=it:=by simpa using hb
   subst e
   rw[aH (Ne.symm hTe)]
   exact hfi.1
 done:=by
  intro X hP hw hK hc i pins s σ H E I hf st hg
  subst hP hw hK
  obtain⟨hq,hi⟩:=hg
  obtain⟨ok,ov,st⟩:=st
  obtain⟨vs,rel,dd⟩:=ac_ I hq hep
  have hl:vs.length=kvs.length:=rel.length.symm
  obtain⟨f0,f1,f2,f3,f4,f5⟩:=hf it (by simp)
  rw[<-hl]at st
  exact wpAny_pyNext_items_end (I.ok.hd hc) st dd (List.getElem?_eq_none ()) λh' eb=>⟨rfl,I.turned (t':=s.toks) (λb o hb e=>eb b o hb e) f0 f1 f3 f4 f5⟩
 self:=λ_ _ _ _ _ ⟨_,_,st⟩ h=>PySem.W.kcp_self st h
def ahP(tl:TE):TI:=λσ H R=>tl σ H λx H1=>∃v d kvs,x= .ref v/\H1 v=some (Bl v d)/\H1 d=some (.dK kvs)/\∀o,adF X d->kvs.length<=sizeLine->R (Iti d o kvs) (upd H1 d (.gb o (.dK kvs)))
theorem acw(hl:PE X l tl):PI X (.Tuple es n tp) l (ahP (X:=X) tl):=by
 intro pins s σ H R I h
 refine kj (hl pins s σ H _ I h) ?_
 rintro v s1 ⟨x,H1,I1,r1,q1⟩
 obtain⟨vw,d,kvs,e,hv,hd,q⟩:=q1
 subst e
 cases r1
 obtain⟨z,hs,vs,rel,o,es',ep,g,r1,r2,r3⟩:=adn I1.hok hd
 have view:s1.heap.IsItemsView vw d:=(show bT X.prog X.w H1 s1.heap vw (Bl vw d)from I1.hok vw _ hv).1
 refine wpAny_pyIter_items (knd:=gM X.prog X.w) (kvs:=vs) (ep:=ep) view (show s1.heap.DictAt (gM X.prog X.w) d vs ep from⟨o,es',g,r1,r2,r3⟩) ?_
 have I2:Inv X pins σ H1 {s1 with heap:=s1.heap.push {cls:= .type "dict_itemiterator",data:= .fields #[.none,.bool false,.ref d,.int 0 0,.int vs.length 0,.int ep 0,.none,.none]}}:=I1.kept (t':=s1.toks) λb o e=>zD _ e
 have g2:(s1.heap.push {cls:= .type "dict_itemiterator",data:= .fields #[.none,.bool false,.ref d,.int 0 0,.int vs.length 0,.int ep 0,.none,.none]}).get? d=some o:=zD _ g
 have I3:=I2.ae1 hd g2
 have hlt:d<s1.heap.objs.size:=zS g
 have hn:upd H1 d (.gb o (.dK kvs)) s1.heap.objs.size=none:=by
  rw[aH (xS hlt)];exact I1.hok.fresh (zab _)
 refine⟨s1.heap.objs.size,[s1.heap.objs.size],_,_,_,rfl,I3,Wu (o:=o) (kvs:=kvs) r2 _,⟨_,_,by rw[rel.length];exact yB _ rfl⟩,λb hb=> ?_,q o (I1.ayf hd) z⟩
 have e:b=s1.heap.objs.size:=by simpa using hb
 subst e
 exact I1.Qc (zab _) hn
def ajI(X:Cx)(te:TE):TE:=λσ H Q=>te σ H λv H1=>∃d o kvs,adF X d/\H1 d=some (.gb o (.dK kvs))/\Q v (upd H1 d (.dK kvs))
theorem aep(h:PE X e te):PE X e (ajI X te):=by
 intro pins s σ H Q I q
 refine wT (h pins s σ H _ I q) (λu s' z=> ?_) λ_ _ z=>z
 obtain⟨v,H',I',r,d,o,kvs,nf,e',q'⟩:=z
 exact⟨v,_,I'.ajG nf e',r,q'⟩
end
end L2
namespace S
open PySem PySem.Spec PyProof.Rows L2
noncomputable def Nm(p:Key×D):D:= .tup [Xp p.1,p.2]
noncomputable def Qm(n:Nat)(o:Out D):Out D:=match o with
 | .ok d M=>match M[n]? with
  | some (.fd kvs)=> .ok d (M.set n (.dk kvs))
  | _=> .bad
 | _=> .bad
noncomputable def O9(m:Nat)(js:List Nat)(g:Tg)(tt:MT)(te:ME)(e:Sl)(d:D)(M:Mem):Out D:=match d with
 | .ref n=>match M[n]? with
  | some (.dk kvs)=>Qm n (pZ none g m tt te (qW js e) (kvs.map Nm) [] (M.set n (.fd kvs)))
  | _=> .bad
 | _=> .bad
def Xj(m:Nat)(js:List Nat)(mo:ME)(g:Tg)(tt:MT)(te:ME):ME:=λe M=>(mo e M).bind λd M1=>O9 m js g tt te e d M1
section
variable{X:Cx}{ct:Nat->Addr}{W:bf}{pos:Pos}
theorem pairs_at{K:Frag}{ι:Nat->Addr}{n:Nat}{H:Hp}:∀{kvs:List (Key×D)} {ys:List (Key×V)},Du K ct ι n H kvs ys->∀{i:Nat} {p:Key×V},ys[i]? = some p->∃q,kvs[i]? = some q/\q.1=p.1/\DV K ct ι n H q.2 p.2
 | _,_,.nil,_,_,h=>by simp at h
 | _,_,.cons (d:=d) r t,0,_,h=>by simp at h;subst h;exact⟨(_,d),rfl,rfl,r⟩
 | _,_,.cons r t,i+1,_,h=>by
  obtain⟨q,h1,h2⟩:=pairs_at t (i:=i) (by simpa using h)
  exact⟨q,by simpa using h1,h2⟩
theorem abT(hc:X.calm=true)(xs cs:List Str)(js:List Nat)(ho:SE X ct W o mo)(hcap:uL X scope cs js)
  (hg:∀cl C fp s H,SN (cV X scope cl C (xs++cs) fp s H) ct xs.length (.Tuple es kt tp) g) (ht:∀cl C fp s H,STs (cV X scope cl C (xs++cs) fp s H) ct W0 ifs tt) (he:∀cl C fp s H,SE (cV X scope cl C (xs++cs) fp s H) ct W0 elt te)
  (hall:∀y∈scope.names,y.2= .free->y.1∈cs) (hcell:∀y∈scope.names,y.2≠ .cell) (hnames:∀y∈scope.names,y.2= .local->scope.names.lookup y.1=some .local)
  (hbase:attributeBase o "items" X.env (eval o X.env)=eval o X.env:=by rfl) (hline:(apos.endLine==pos1.line)=true:=by rfl)
  (hkind:scope.kind= .function:=by rfl) (hs:∀v,foldedSetIterable (.Call (.Attribute o "items" apos) [] [] pos1) X.env v=pure v:=by intro _;rfl):
  SE X ct W (.ListComp elt [⟨.Tuple es kt tp,.Call (.Attribute o "items" apos) [] [] pos1,ifs,0⟩] scope pos) (Xj xs.length js mo g tt te):=by
 refine fX (aep (acE (g:=tTN X.K ct xs.length g) (tt:=tG Hg X.K ct W0 tt) (te:=tG (eE X.K ct) X.K ct W0 te) hc xs cs js (acw (RZ PySem.F.plainAttrs_dict PySem.F.slot_dict_items PySem.F.type_dict_items Vl ho hbase hline)) hcap (λcl C fp s H=>ht cl C fp s H) (λcl C fp s H=>he cl C fp s H) hall hcell hnames (λcl C fp s H=>hg cl C fp s H) hkind hs)) λσ H Q q=> ?_
 obtain⟨ι,e,M,w,p⟩:=b7 (fY:=eE X.K ct) (f:=λd e M1=>O9 xs.length js g tt te e d M1) q
 refine⟨ι,e,M,w,p.mono ?_⟩
 rintro v H1 ⟨cF,e1,M1,d,w1,q1,p1⟩
 replace p1:ju (eE X.K ct) X.K ct (wAt W σ) cF M1.length H1 (O9 xs.length js g tt te e1 d M1) Q:=p1
 unfold O9 at p1
 split at p1
 ·rename_i n
  split at p1
  ·rename_i kvs hM
   obtain⟨hn,rfl⟩:=nC q1
   obtain⟨ys,hH,pv⟩:=w1.rl.obj n _ hM
   have hkl:ys.length=kvs.length:=pv.length
   refine⟨.inr (.inr (.inl ⟨rfl,.inl ⟨ys,hH⟩⟩)),_,rfl,rfl,.inl ⟨ys,.inl hH⟩,λvw hvw=> ?_⟩
   have nev:cF n≠vw:=λz=>by rw[z,hvw]at hH;cases hH
   have xv:Ext X.K cF M1.length H1 cF M1.length (upd H1 vw (Bl vw (cF n))):=Ext.fresh hvw
   have rv:Rl X.K ct cF M1 (upd H1 vw (Bl vw (cF n))):=w1.rl.fresh hvw
   obtain⟨Hv,hHv⟩:∃Hv,Hv=upd H1 vw (Bl vw (cF n)):=⟨_,rfl⟩
   rw[<-hHv]at xv rv
   have hHd:Hv (cF n)=some (.dK ys):=by rw[hHv,aH nev];exact hH
   have pvv:Du X.K ct cF M1.length Hv kvs ys:=pv.mono xv
   have wv:Ws X.K ct cF e1 M1 σ Hv:=w1.ext xv rv
   have pv1:=p1.ext xv
   rw[<-hHv]
   refine⟨vw,cF n,ys,rfl,by rw[hHv];exact aM,hHd,λo nf hlen=> ?_⟩
   obtain⟨Hz,hHz⟩:∃Hz,Hz=upd Hv (cF n) (.gb o (.dK ys)):=⟨_,rfl⟩
   have hzd:Hz (cF n)=some (.gb o (.dK ys)):=by rw[hHz];exact aM
   have x0:Ext X.K cF M1.length Hv cF M1.length Hz:=by rw[hHz];exact Ext.chg hHd (λ_ z=>nomatch z) (λ_ _ z=>nomatch z)
   have r0:Rl X.K ct cF (M1.set n (.fd kvs)) Hz:=by
    have:=rv.chg (o:= .gb o (.dK ys)) (x:= .fd kvs) hn hHd (λ_ z=>nomatch z) (λ_ _ z=>nomatch z) ⟨o,ys,aM,pvv.mono (by rw[<-hHz];exact x0)⟩
    rw[hHz];exact this
   have w0:Ws X.K ct cF e1 (M1.set n (.fd kvs)) σ Hz:=wv.ext (by rw[List.length_set];exact x0) r0
   rw[<-hHz]
   obtain⟨ds,hds⟩:∃ds,ds=kvs.map Nm:=⟨_,rfl⟩
   rw[<-hds]at pv1
   have hdl:ds.length=ys.length:=by rw[hds,zan,hkl]
   have fin:∀ι' M' H' ds' zs pp,Ext X.K cF M1.length Hz ι' M'.length H'->Rl X.K ct ι' M' H'->nU X.K ct ι' M'.length H' ds' zs->H' pp=none->ju (eE X.K ct) X.K ct (wAt W σ) cF M1.length Hv (Qm n (.ok (.ref M'.length) (M'++[.lst ds']))) Q->
     ∃d o kvs,adF X d/\(upd H' pp (.lst zs)) d=some (.gb o (.dK kvs))/\Q (.ref pp) (upd (upd H' pp (.lst zs)) d (.dK kvs)):=λι' M' H' ds' zs pp x' r' dy hp p'=>by
    have hn':n<M'.length:=yA hn x'.le
    have en:ι' n=cF n:=x'.same n hn
    unfold Qm at p'
    simp only[zae hn']at p'
    cases z:M'[n]? with
    | none=>simp only[z]at p';exact p'.elim
    | some y=>
     cases y with
     | fd ks=>
      simp only[z]at p'
      obtain⟨o',ys',h',pv'⟩:=r'.obj n _ z
      rw[en]at h'
      have npp:cF n≠pp:=λq=>by rw[q,hp]at h';cases h'
      have hd2:(upd H' pp (.lst zs)) (cF n)=some (.gb o' (.dK ys')):=by rw[aH npp];exact h'
      refine⟨cF n,o',ys',nf,hd2,?_⟩
      have x2:Ext X.K ι' M'.length H' (lF ι' M'.length pp) (M'.length+1) (upd H' pp (.lst zs)):=Ext.new hp
      have e2:(lF ι' M'.length pp) M'.length=pp:=by unfold lF;rw[if_pos rfl]
      have en2:(lF ι' M'.length pp) n=cF n:=by rw[x2.same n hn',en]
      have r2:Rl X.K ct (lF ι' M'.length pp) (M'++[.lst ds']) (upd H' pp (.lst zs)):=r'.new hp ⟨zs,aM,dy.mono x2⟩
      have ln2:(M'++[MO.lst ds']).length=M'.length+1:=by simp
      have hn2:n<(M'++[MO.lst ds']).length:=by rw[ln2];lia
      have R3:=r2.abC (i:=n) (kvs:=ks) hn2 (by rw[en2];exact hd2) (by rw[ln2];exact pv'.mono x2)
      rw[en2]at R3
      refine p' (lF ι' M'.length pp) (.ref pp) _ ?_ R3 ?_
      ·rw[List.length_set,ln2]
       rw[hHz]at x'
       exact adf hHd (x'.trans x2) hd2
      ·have q9:∀(k:Nat) (HH:Hp),M'.length<k->DV X.K ct (lF ι' M'.length pp) k HH (.ref M'.length) (.ref ((lF ι' M'.length pp) M'.length)):=λk HH hk=> .ref hk
       rw[e2]at q9
       exact q9 _ _ (by rw[List.length_set,ln2];lia)
     | _=>simp only[z]at p';exact p'.elim
   refine⟨λi m zs H'=>m=ds.length - i/\i<=ds.length/\zs.length<=i/\∃ι' M' ds',Ext X.K cF M1.length Hz ι' M'.length H'/\Rl X.K ct ι' M' H'/\nU X.K ct ι' M'.length H' ds' zs/\ju (eE X.K ct) X.K ct (wAt W σ) cF M1.length Hv (Qm n (pZ none g xs.length tt te (qW js e1) (ds.drop i) ds' M')) Q,
    ⟨ds.length,by simp,Nat.zero_le _,zab _,cF,M1.set n (.fd kvs),[],by rw[List.length_set];exact .refl,r0,.nil,by simpa using pv1⟩,?_⟩
   rintro i m zs H' ⟨rfl,hi,hy,ι',M',ds',x',r',dy,p'⟩
   have hq:H' (cF n)=some (.gb o (.dK ys)):=x'.fz _ _ _ hzd
   by_cases hlt:i<ds.length
   ·rw[List.drop_eq_getElem_cons hlt]at p'
    unfold pZ at p'
    rw[if_pos (show lU none M' from trivial)]at p'
    refine .inr ⟨⟨hq,()⟩,λys2 H2=>ys2.length<=i+1/\∃lM M2 ds2,Ext X.K cF M1.length Hz lM M2.length H2/\Rl X.K ct lM M2 H2/\nU X.K ct lM M2.length H2 ds2 ys2/\ju (eE X.K ct) X.K ct (wAt W σ) cF M1.length Hv (Qm n (pZ none g xs.length tt te (qW js e1) (ds.drop (i+1)) ds2 M2)) Q,?_,?_⟩
    ·rintro ys2 H2 ⟨hl2,q2⟩
     exact⟨(),ds.length - (i+1),(),rfl,hlt,hl2,q2⟩
    ·rintro x H2 ⟨a,pr,ha,hpr,rfl,rfl⟩
     have x2:Ext X.K ι' M'.length H' ι' M'.length (upd H' a (.tup [kV pr.1,pr.2])):=Ext.fresh ha
     have r2:Rl X.K ct ι' M' (upd H' a (.tup [kV pr.1,pr.2])):=r'.fresh ha
     obtain⟨qr,hq1,hq2,hq3⟩:=pairs_at pvv hpr
     have dsi:ds[i]=Nm qr:=by
      have h3:ds[i]? = some (Nm qr):=by rw[hds,zam,hq1];rfl
      rw[zac hlt]at h3
      exact xI h3
     have xz:Ext X.K cF M1.length Hv ι' M'.length (upd H' a (.tup [kV pr.1,pr.2])):=(x0.trans x').trans x2
     have dv:DV X.K ct ι' M'.length (upd H' a (.tup [kV pr.1,pr.2])) ds[i] (.ref a):=by
      rw[dsi]
      refine .tup aM (.cons ?_ (.cons (hq3.mono xz) .nil))
      rw[hq2];exact SQ
     have w2:Ws X.K ct ι' (Hq xs.length++qW js e1) M' (IV xs++L2.caps js σ) (upd H' a (.tup [kV pr.1,pr.2])):=(wv.ext xz r2).af3 xs js
     refine⟨ι',_,M',ds[i],w2,dv,?_⟩
     cases zg:g ds[i] (Hq xs.length++qW js e1)with
     | none=>rw[zg]at p';exact p'.elim
     | some eg=>
     rw[zg]at p'
     dsimp only at p'
     intro σ' wg hd
     refine⟨⟨hd.1,by rw[hd.2];simp[IV]⟩,ι',eg,M',wg,?_⟩
     cases z:tt eg M' with
     | bad=>simp only[z,D_,Out.eU]at p';exact p'
     | exc xc xd xM=>simp only[z,DY,Out.eU]at p';exact p'.elim
     | ok k M3=>
      simp only[z,z9,Out.d7]at p'
      intro Pr k3 H3 x3 r3 ek
      have Tr:k=k3:=ek;subst Tr
      have w3:=wg.ext x3 r3
      have dy3:=(dy.mono x2).mono x3
      cases k with
      | false=>exact⟨(),Pr,M3,ds',(x'.trans x2).trans x3,r3,dy3,p'⟩
      | true=>
       simp only[if_true]at p' ⊢
       refine⟨Pr,_,M3,w3,?_⟩
       cases z4:te eg M3 with
       | bad=>simp only[z4,D_,Out.eU]at p';exact p'
       | exc xc xd xM=>simp only[z4,DY,Out.eU]at p';exact p'.elim
       | ok yy M4=>
        simp only[z4,z9,Out.d7]at p'
        intro ι4 v4 H4 x4 r4 d4
        exact⟨by rw[List.length_append];simp;lia,ι4,M4,ds'++[yy],((x'.trans x2).trans x3).trans x4,r4,(dy3.mono x4).append (.cons d4 .nil),p'⟩
   ·have e0:i=ds.length:=()
    subst e0
    rw[List.drop_length]at p'
    unfold pZ at p'
    rw[if_pos (show lU none M' from trivial)]at p'
    exact .inl ⟨⟨hq,()⟩,(),λpp hp=>fin ι' M' H' ds' zs pp x' r' dy hp p'⟩
  ·exact p1.elim
 ·exact p1.elim
end
section
variable{e:Sl}{M:Mem}
@[simp] theorem aje:Xj m js mo g tt te e M=(mo e M).bind λd M1=>O9 m js g tt te e d M1:=id rfl
theorem set_same(h:M[n]? = some o):M.set n o=M:=by
 refine List.ext_getElem? λi=> ?_
 have hn:n<M.length:=(List.getElem?_eq_some_iff.mp h).1
 by_cases z:n=i
 ·subst z
  rw[zaj hn,h]
 ·rw[zai z]
theorem aaZ(h:M[n]? = some (.dk kvs))(c:D->Bool)(f:D->D)(hh:∀d∈kvs.map Nm,∃e1,g d (Hq m++qW js e)=some e1/\∀M',tt e1 M'= .ok (c d) M'/\(c d=true->te e1 M'= .ok (f d) M')):
  O9 m js g tt te e (.ref n) M= .ok (.ref M.length) (M++[.lst (((kvs.map Nm).filter c).map f)]):=by
 have hn:n<M.length:=(List.getElem?_eq_some_iff.mp h).1
 simp only[O9,h]
 rw[Q3 (src:=none) c f trivial λd hd=>by obtain⟨e1,h1,h2⟩:=hh d hd;exact⟨e1,h1,(h2 _).1,(h2 _).2⟩]
 rw[List.nil_append]
 have e1:(M.set n (.fd kvs)++[MO.lst (((kvs.map Nm).filter c).map f)])[n]? = some (.fd kvs):=by
  rw[zae (by rw[List.length_set];exact hn),zaj hn]
 simp only[Qm,e1,List.length_set]
 rw[List.set_append_left _ _ (by rw[List.length_set];exact hn),List.set_set,set_same h]
end
end S
namespace L2
open PySem PySem.Spec PyProof.Rows
abbrev Dsc:=Nat×Str×Str×Stmt×List Str
set_option genInjectivity false in
structure Fv where
 f:Addr
 oc:Value
 kV:Value
 dc:Value
 pm:Value
 cd:Value
 ct:Value
 od:Option Addr
 an:Option Addr
 sl:Array (Option Value)
noncomputable def d0:Dsc:=(0,"","",.Pass ⟨0,0,0,0⟩,[])
end L2
namespace S
open PySem PySem.Spec PyProof.Rows L2
noncomputable def ahw:ME:=λ_ _=> .bad
theorem U6:SE X ct W e ahw:=λpins s σ H Q I ⟨_,_,_,_,p⟩=>p.elim
end S
namespace L2
open PySem
theorem jT.mo(r:jT k A)(h:j<=k:=by decide):jT j A:=r.mono h
end L2
namespace S
open PySem PySem.Spec PyProof.Rows L2
theorem fL{P:Program}{w:World}{K:Frag}{mg:Str->Option Value}{base:Heap}{ct:Nat->Addr}{n ar:Nat}{b:MS}{x qual:Str}{st:Stmt}{dV:Value}{f:Addr}{fd:FuncData}{ps:List Str}{k:Nat}(N:List Str)(F:aV K x qual st dV f fd)(Z:lu N ps (ak st))
  (hbody:∀{cdv:Value} {A:Around} {outer:List PySem.Env} {s:Shared} {H:Hp} {E:XK} {W:bf},jT k (A.deeper (envOfC qual (ak st) s.heap.objs.size f cdv))->N.Nodup->(A.deeper (envOfC qual (ak st) s.heap.objs.size f cdv)).units+64<cLine->
   SSs ((rY (wV P w) P w K mg base N qual (ak st) f cdv A outer s H E).wish (jt (rY (wV P w) P w K mg base N qual (ak st) f cdv A outer s H E) W)) ct W (aA st) b) (hn:N.length=n:=by rfl) (har:ps.length=ar:=by rfl):
  g8 P w K mg base (wV P w) (k+1) f fd ps (spS K ct (aU n b) ar):=ade F Z hn har λ_ _ _ _ _ _ _ hr=>hbody hr Z.nd hr.units
theorem mX{X:Cx}{W:bf}:Tk (X.wish (jt X W)) W:=Tk.wish
theorem Kv{α:Type}{a:α}{q:Prop}:a=a\/q:=Or.inl rfl
end S
namespace L2
open PySem PySem.Spec PySem.W PySem.Calls PyProof.Rows
section
variable{X:Cx}
theorem ZX(I1:Inv X pins σ H s1)(rv:Vals (ns.map V.int) acc)(el:acc.length<64)(q:∀l,H l=none->Q (.ref l) (upd H l (.lst ((sortI ns).map V.int)))):
  wpAny (model X.prog X.w) X.A.in1 (do let l <-newList acc;let _ <-holding [l] (call (.builtin "list.sort") [l] []);ret l) (λfin s'=>∃r,fin= .done (.ret r)/\EP X pins σ Q r s') X.xe s1:=by
 have ia:=intsAre_of rv
 have line:(64:Nat)<=sizeLine:=by decide
 refine zC (wpAny_newList ?_ ())
 have ho:(s1.heap.push {cls:= .type "list",data:= .seq acc.toArray}).get? s1.heap.objs.size=some (seqObj "list" acc.toArray 0):=yB _ rfl
 have I2:Inv X pins σ H {s1 with heap:=s1.heap.push {cls:= .type "list",data:= .seq acc.toArray},toks:=s1.toks}:=I1.kept (t':=s1.toks) λb o e=>zD _ e
 have fp:=I1.Qc (zab _) (I1.hok.fresh (zab _))
 refine zC (wpAny_holding (jI slot_list_sort ⟨_,ho,rfl⟩ entry_list_sort (list_sort_tree ho ia el λout ns' ia' pm pw=> ?_) (args_list_sort _)))
 obtain rfl:=eq_sortI pm pw
 have sb:=Heap.SameBut.update (s1.heap.push {cls:= .type "list",data:= .seq acc.toArray}) s1.heap.objs.size (Obj.mapSeq λ_=>(#[]:Array Value))
 obtain⟨e1,ho1⟩:∃e1,((s1.heap.push {cls:= .type "list",data:= .seq acc.toArray}).update s1.heap.objs.size (Obj.mapSeq λ_=>(#[]:Array Value))).get? s1.heap.objs.size=some (seqObj "list" #[] e1):=⟨_,get?_update_seq ho λ_=> #[]⟩
 generalize hh:(((s1.heap.push {cls:= .type "list",data:= .seq acc.toArray}).update s1.heap.objs.size (Obj.mapSeq λ_=>(#[]:Array Value))).push (seqObj "tuple" acc.toArray 0)).push (seqObj "list" #[] 0)=h3
 have k3:∀b o,((s1.heap.push {cls:= .type "list",data:= .seq acc.toArray}).update s1.heap.objs.size (Obj.mapSeq λ_=>(#[]:Array Value))).get? b=some o->h3.get? b=some o:=λb o e=>by
  rw[<-hh];exact zD _ (zD _ e)
 have sb':=Heap.SameBut.update h3 s1.heap.objs.size (Obj.mapSeq λ_=>out)
 obtain⟨c2,hc2⟩:∃c2,(h3.update s1.heap.objs.size (Obj.mapSeq λ_=>out)).get? s1.heap.objs.size=some (seqObj "list" out c2):=⟨_,get?_update_seq (k3 _ _ ho1) λ_=>out⟩
 have es:sortedHeap (s1.heap.push {cls:= .type "list",data:= .seq acc.toArray}) s1.heap.objs.size acc out=h3.update s1.heap.objs.size (Obj.mapSeq λ_=>out):=by
  unfold sortedHeap
  rw[<-hh]
 have I3:=I2.turned (t':=s1.toks) (it:=s1.heap.objs.size) (h':=h3.update s1.heap.objs.size (Obj.mapSeq λ_=>out)) (λb o hb e=>(sb'.2 b hb).trans (k3 b o ((sb.2 b hb).trans e))) fp.1 fp.2.1 fp.2.2.2.1 fp.2.2.2.2.1 fp.2.2.2.2.2
 show ∃_,_
 rw[es]
 refine⟨_,rfl,zI ⟨_,rfl,.ref s1.heap.objs.size,_,I3.track (o:= .lst ((sortI ns).map V.int)) fp (Heap.get?_none_of_le I1.sz) ⟨?_,out.toList,c2,Jh ia',by rw[Array.toArray_toList];exact hc2⟩,rfl,q _ fp.1⟩⟩
 have h1:=IntsAre.length ia
 have h2:=pm.length_eq
 rw[zan]
 lia
end
end L2
namespace S
open PySem PySem.Spec PyProof.Rows L2
theorem aea{K:Frag}{ct ι:Nat->Addr}{n:Nat}{H:Hp}{ps:List (Key×D)}{qs:List (Key×V)}(h:Du K ct ι n H ps qs):ps.length=qs.length:=by
 induction h with
 | nil=>rfl
 | cons _ _ ih=>rw[List.length_cons,List.length_cons,ih]
end S
namespace L2
open PySem PySem.Spec PySem.W PySem.Calls PyProof.Rows
def Bh(n:Nat){α:Type}:KasT α->(α->Prop)->Prop
 | .ret a,Q=>Q a
 | .ask i j k,Q=>j<i/\i<n/\Bh n (k false) Q
theorem Bh.bind{n:Nat}{α β:Type}{f:α->KasT β}{Q:β->Prop}:∀{t:KasT α},Bh n t (λa=>Bh n (f a) Q)->Bh n (t.bind f) Q
 | .ret _,h=>h
 | .ask _ _ _,h=>⟨h.1,h.2.1,Bh.bind h.2.2⟩
theorem Bh.mono{n:Nat}{α:Type}{Q Q':α->Prop}(hq:∀a,Q a->Q' a):∀{t:KasT α},Bh n t Q->Bh n t Q'
 | .ret _,h=>hq _ h
 | .ask _ _ _,h=>⟨h.1,h.2.1,Bh.mono hq h.2.2⟩
theorem Bh.wp{n:Nat}{G:Shared->Prop}{cmp:Nat->Nat->(Bool->Shared->Prop)->Shared->Prop}(hc:∀i j,j<i->i<n->∀(C:Bool->Shared->Prop) s,G s->(∀s',G s'->C false s')->cmp i j C s){α:Type}{R:α->Shared->Prop}{Q:α->Prop}(hR:∀a s,Q a->G s->R a s):
  ∀{t:KasT α} {s:Shared},Bh n t Q->G s->t.kasWp cmp R s
 | .ret _,_,h,g=>hR _ _ h g
 | .ask i j k,s,h,g=>hc i j h.1 h.2.1 _ s g λ_ g'=>Bh.wp hc hR h.2.2 g'
theorem ZD:∀(f m:Nat),1<=m->m+f=n->Bh n (kas_asc (List.range n).toArray f m) (· = n)
 | 0,m,_,h=>(show m=n by lia)
 | f+1,m,h1,h=>by
  have g:∀i,i<n->(List.range n).toArray.getD i 0=i:=λi hi=>by simp[hi]
  refine⟨?_,?_,?_⟩
  ·rw[g m (),g (m - 1) ()];lia
  ·rw[g m ()];lia
  ·exact ZD f (m+1) () ()
theorem adA(h:1<=n):Bh n (kas_sort n) (· = (List.range n).toArray):=by
 unfold kas_sort kas_count
 refine Bh.bind (Bh.bind ((ZD (n - 1) 1 (zab _) ()).mono λa e=> ?_))
 subst e
 rw[if_pos (by simp)]
 show Bh _ (if _<_ then _ else _) _
 rw[if_neg (wP _)]
 rfl
section
variable{X:Cx}{pins:List (Addr×Obj)}{σ:St}{H:Hp}{s:Shared}{A:Around}{E:Value->Shared->Prop}
def Ris(H:Hp)(as:List Addr)(ks:List Int):Prop:=as.length=ks.length/\(∀(i:Nat) (a:Addr) (k:Int),as[i]? = some a->ks[i]? = some k->∃xs,H a=some (.tup (.int k::xs)))/\ks.Pairwise (· < ·)
theorem Vd(I:Inv X pins σ H s):∀{as:List Addr} {ks:List Int},as.length=ks.length->(∀(i:Nat) (a:Addr) (k:Int),as[i]? = some a->ks[i]? = some k->∃xs,H a=some (.tup (.int k::xs)))->
  ∃fs,KatTups s.heap (as.map Value.ref) fs/\fs.length=as.length/\∀M,∀v∈fs,Looks M s.heap (typeOf v) (.type "int")
 | [],_,_,_=>⟨[],KatTups.nil,rfl,λ_ v h=>by cases h⟩
 | a::as,[],l,_=>by cases l
 | a::as,k::ks,l,h=>by
  obtain⟨fs,t,hl,hf⟩:=Vd I (as:=as) (ks:=ks) (by simpa using l) λi b c h1 h2=>h (i+1) b c h1 h2
  obtain⟨xs,ha⟩:=h 0 a k rfl rfl
  obtain⟨_,its,r1,o,ho,hc,n,hd⟩:=(show bT X.prog X.w H s.heap a (.tup (.int k::xs))from I.hok a _ ha)
  cases r1 with
  | @cons _ u _ us r0 r0s=>
   refine⟨u::fs,KatTups.cons ho hc hd (by simp) t,by simp[hl],λM v hv=> ?_⟩
   rcases List.mem_cons.mp hv with rfl | q
   ·obtain⟨t',rfl⟩:=r0;exact Looks.now
   ·exact hf M v q
theorem agE(I:Inv X pins σ H s)(h:Ris H as ks)(hij:j<i)(hi:i<as.length){Q:Bool->Shared->Prop}(q:Q false s):wpAny (model X.prog X.w) A (keyLt' (tuples' (Value.type "int" != Value.type "tuple")) ((as.map Value.ref).getD i Value.none) ((as.map Value.ref).getD j Value.none)) Q E s:=by
 obtain⟨hl,hh,pw⟩:=h
 have hi':i<ks.length:=()
 have lt:=List.pairwise_iff_getElem.mp pw j i () hi' hij
 obtain⟨xs,ha⟩:=hh i _ _ (zac hi) (zac hi')
 obtain⟨ys,hb⟩:=hh j _ _ (zac ()) (zac ())
 obtain⟨_,its,r1,o,ho,hc,n,hd⟩:=(show bT X.prog X.w H s.heap _ (.tup _)from I.hok _ _ ha)
 obtain⟨_,its',r1',o',ho',hc',n',hd'⟩:=(show bT X.prog X.w H s.heap _ (.tup _)from I.hok _ _ hb)
 have e1:(as.map Value.ref).getD i Value.none= .ref as[i]:=by simp[hi]
 have e2:(as.map Value.ref).getD j Value.none= .ref (as[j]'()):=by simp[show j<as.length by lia]
 rw[e1,e2]
 refine kat_lt ho hd ho' hd' ?_
 cases r1 with
 | cons r0 _=>
  cases r1' with
  | cons r0' _=>
   obtain⟨t,rfl⟩:=r0
   obtain⟨t',rfl⟩:=r0'
   show KatLex _ _ _ _ _ _ (List.zip (_::_) (_::_)) 0 s
   rw[List.zip_cons_cons]
   refine kat_cons (wpAny_eqBool_int ?_)
   have ne:(ks[i]==ks[j])=false:=by simp;lia
   rw[ne]
   refine kat_no ?_
   have q':Q (decide (ks[i]<ks[j])) s:=by rw[zaf ()];exact q
   exact oneLt_int q'
theorem range_getD:(List.range vs.length).map (λi=>vs.getD i Value.none)=vs:=by
 apply List.ext_getElem?
 intro i
 rw[zam]
 by_cases h:i<vs.length
 ·simp[h]
 ·simp[h]
theorem WD{P:PySem.Fin->Shared->Prop}(I:Inv X pins σ H s)(fp:Ff X pins H l)(hv:vs=as.map Value.ref)(ho:s.heap.get? l=some (seqObj "list" vs.toArray n))(h64:vs.length<64)(rs:Ris H as ks)
  (h:∀(c:Nat) (s':Shared),s'.heap.get? l=some (seqObj "list" vs.toArray c)->Inv X pins σ H s'->P (.done (.ret .none)) s'):wpAny (model X.prog X.w) A (Builtin.«list.sort» ⟨[.ref l],[]⟩) P E s:=by
 have el:vs.length=as.length:=by rw[hv,zan]
 have hl:l<s.heap.objs.size:=zS ho
 have line:(64:Nat)<=sizeLine:=by decide
 obtain⟨e1,ho1⟩:∃e1,(s.heap.update l (Obj.mapSeq λ_=>(#[]:Array Value))).get? l=some (seqObj "list" #[] e1):=⟨_,get?_update_seq ho λ_=> #[]⟩
 have sb:=Heap.SameBut.update s.heap l (Obj.mapSeq λ_=>(#[]:Array Value))
 generalize hh:((s.heap.update l (Obj.mapSeq λ_=>(#[]:Array Value))).push (seqObj "tuple" vs.toArray 0)).push (seqObj "list" #[] 0)=h3
 have k3:∀b o,(s.heap.update l (Obj.mapSeq λ_=>(#[]:Array Value))).get? b=some o->h3.get? b=some o:=λb o e=>by
  rw[<-hh];exact zD _ (zD _ e)
 have ho3:h3.get? l=some (seqObj "list" #[] e1):=k3 _ _ ho1
 have I3:Inv X pins σ H {s with heap:=h3}:=I.turned (t':=s.toks) (it:=l) (λb o hb e=>k3 b o ((sb.2 b hb).trans e)) fp.1 fp.2.1 fp.2.2.2.1 fp.2.2.2.2.1 fp.2.2.2.2.2
 have fin:∀(s':Shared),Inv X pins σ H s'->s'.heap.get? l=some (seqObj "list" #[] e1)->
   wpAny (model X.prog X.w) A (seqEpoch l) (λafter s''=>wpAny (model X.prog X.w) A (Builtin.List.listUpdate (.ref l) λ_=>vs.toArray) (λ_ s3=>after=e1/\P (.done (.ret .none)) s3) E s'') E s':=λs' I' ho'=>by
  refine seqEpoch_at ho' rfl ?_
  refine listUpdate_at ho' rfl ⟨rfl,?_⟩ (Nat.zero_le _) (by simp only[List.size_toArray];lia)
  obtain⟨c2,hc2⟩:∃c2,(s'.heap.update l (Obj.mapSeq λ_=>vs.toArray)).get? l=some (seqObj "list" vs.toArray c2):=⟨_,get?_update_seq ho' λ_=>_⟩
  have sb':=Heap.SameBut.update s'.heap l (Obj.mapSeq λ_=>vs.toArray)
  exact h c2 _ hc2 (I'.turned (t':=s'.toks) (it:=l) (λb o hb e=>(sb'.2 b hb).trans e) fp.1 fp.2.1 fp.2.2.2.1 fp.2.2.2.2.1 fp.2.2.2.2.2)
 rw[list_sort_plain]
 refine zC (listItems_at ho rfl (zC (listUpdate_at ho rfl (zC (seqEpoch_at ho1 rfl (zC (wpAny_newTuple (zC (wpAny_newList (wpAny_holding ?_) (Nat.zero_le _))) (by show vs.length<=_;lia))))) (by simp only[List.size_toArray];lia) (Nat.zero_le _))))
 show wpAny _ A _ P E {s with heap:=((s.heap.update l (Obj.mapSeq λ_=>(#[]:Array Value))).push (seqObj "tuple" vs.toArray 0)).push (seqObj "list" #[] 0)}
 rw[hh]
 dsimp only
 by_cases h2:vs.toArray.size<2
 ·rw[if_pos h2,if_pos h2]
  refine zC (zI ?_)
  rw[StateT.run_pure]
  refine zC (zI ?_)
  dsimp only
  have hs:vs.length<2:=by simpa using h2
  have out:(arrOf (SortSt.mk' general' (vs.toArray.zip vs.toArray) #[] 7 none)).map (·.2)=vs.toArray:=by
   have ea:arrOf (SortSt.mk' general' (vs.toArray.zip vs.toArray) #[] 7 none)=vs.toArray.zip vs.toArray:=rfl
   rw[ea,Z2 hs,range_getD]
  rw[out]
  refine zC (wT (fin _ I3 ho3) (λafter s'' hq=> ?_) λ_ _ z=>z)
  refine zC (wT hq (λ_ s3 hz=> ?_) λ_ _ z=>z)
  obtain⟨rfl,hz⟩:=hz
  simp only[bne_self_eq_false,Bool.false_eq_true,if_false]
  exact zI hz
 ·rw[if_neg h2,if_neg h2]
  have hs:2<=vs.length:=by simpa using h2
  have I4:Inv X ((l,seqObj "list" #[] e1)::pins) σ H {s with heap:=h3}:=I3.z8 λp hp=>by
   rcases List.mem_cons.mp hp with rfl | hp
   ·exact⟨ho3,fp.1,fp.2.1,fp.2.2.1,λv z=>by cases z⟩
   ·exact I3.pin p (xE _ hp)
  obtain⟨fs,t,lf,lk⟩:=Vd I3 rs.1 rs.2.1
  refine zC (kat_kind (T:=Value.type "int") (by rw[hv];exact t) () (λv hv=>lk _ v hv) (by decide) ?_)
  have wp:=Bh.wp (G:=λs'=>Inv X ((l,seqObj "list" #[] e1)::pins) σ H s') (cmp:=kas_ask X.prog X.w A (tuples' (Value.type "int" != Value.type "tuple")) vs)
   (R:=λp s'=>p=(List.range vs.length).toArray/\Inv X ((l,seqObj "list" #[] e1)::pins) σ H s')
   (λi j hij hi C s' g hc=>by
    unfold kas_ask
    rw[hv]
    exact agE g rs hij () (hc s' g)) (λa s' h1 h2=>⟨h1,h2⟩) (adA (n:=vs.length) ()) I4
  refine zC (wT (kat_run (Q:=λst' s'=>∃p:Array Nat,arrOf st'=p.map (kas_item (vs.toArray.zip vs.toArray))/\failedOf st'=none/\p=(List.range vs.length).toArray/\Inv X ((l,seqObj "list" #[] e1)::pins) σ H s')
   rfl hs () (λp st' s' _ a2 a3 a4=>⟨p,a2,a3,a4⟩) wp) ?_ λ_ _ e=>e)
  rintro⟨⟨⟩,st'⟩ s' ⟨p,har,hf,rfl,I5⟩
  dsimp only
  rw[kat_snds rfl har,List.toList_toArray,range_getD]
  have ho5:=(I5.pin (l,seqObj "list" #[] e1) (xE _ xB)).1
  have I6:Inv X pins σ H s':=I5.z8 λp hp=>I5.pin p (xE _ (yT _ hp))
  refine zC (wT (fin s' I6 ho5) (λafter s'' hq=> ?_) λ_ _ z=>z)
  refine zC (wT hq (λ_ s3 hz=> ?_) λ_ _ z=>z)
  obtain⟨rfl,hz⟩:=hz
  rw[hf]
  simp only[bne_self_eq_false,Bool.false_eq_true,if_false]
  exact zI hz
def acj:List V->Hp->VK->Prop:=λxs H Q=>∃(v d:Addr) (kvs:List (Key×V)) (ks:List Int),xs=[.ref v]/\H v=some (Bl v d)/\H d=some (.dK kvs)/\kvs.length<64/\(kvs.map λp=>kV p.1)=ks.map V.int/\ks.Pairwise (· < ·)/\
 ∀as l,as.length=kvs.length->as.Nodup->(∀a∈as,H a=none)->Ji H (prs as (kvs.map λp=>(kV p.1,p.2))) l=none->Q (.ref l) (upd (Ji H (prs as (kvs.map λp=>(kV p.1,p.2)))) l (.lst (as.map V.ref)))
theorem T6(hc:X.calm=true):qU X (.builtin "sorted") acj:=by
 intro pins s σ H xs us Q I r h
 obtain⟨v,d,kvs,ks,rfl,hv,hd,h64,ek,pw,q⟩:=h
 obtain⟨u,rfl,rx⟩:=vals1 r
 cases rx
 obtain⟨es,ep,ps,en,hp,hz,pe⟩:=ae5 I (.inl ⟨kvs,hd⟩)
 have eps:ps=kvs.map λp=>(kV p.1,p.2):=by
  rcases hp with⟨kvs',h1,h2⟩ | ⟨kvs',h1,_⟩
  ·rw[hd]at h1
   injection h1 with h1
   injection h1 with h1
   rw[h2,h1]
  ·rw[hd]at h1
   injection h1 with h1
   cases h1
 rw[<-eps]at q
 have lk:ps.length=kvs.length:=by rw[eps,zan]
 have view:s.heap.IsItemsView v d:=(show bT X.prog X.w H s.heap v (Bl v d)from I.hok v _ hv).1
 have lp0:=pe.length
 have lp1:es.toList.length=es.size:=Array.length_toList
 have lp:ps.length=es.size:=lp0.trans lp1
 refine Calls.call_function_entry kind_sorted plain_sorted entry_sorted (args_sorted1 _) ?_
 unfold Builtin.«sorted»
 refine zC (m:=checkCount "sorted" 1 1 _) (zI (zC (Qa (A:=X.A.in1) (I.ok.hd hc) view en hz λh' tk as kp la pr=> ?_)))
 have I1:Inv X pins σ H {s with heap:=h',toks:=tk}:=I.kept kp
 have fr:∀a∈as,s.heap.objs.size<=a:=λa ha=>Nat.le_of_lt (pr.lt a ha).1
 have fresh:∀a∈as,H a=none:=λa ha=>I.hok.fresh (fr a ha)
 have ant:Paired (λ(a:Addr) (p:V×V)=>∃u v,RelV p.1 u/\RelV p.2 v/\h'.get? a=some {cls:= .type "tuple",data:= .seq #[u,v]}) as ps:=by
  have go:∀{as:List Addr} {ps:List (V×V)} {es:List DictEntry},as.length=es.length->Paired (λ(p:V×V) (e:DictEntry)=>RelV p.1 e.key/\RelV p.2 e.val) ps es->(∀(j:Nat) (a:Addr),as[j]? = some a->∃e,es[j]? = some e/\h'.get? a=some {cls:= .type "tuple",data:= .seq #[e.key,e.val]})->
    Paired (λ(a:Addr) (p:V×V)=>∃u v,RelV p.1 u/\RelV p.2 v/\h'.get? a=some {cls:= .type "tuple",data:= .seq #[u,v]}) as ps:=by
   intro as
   induction as with
   | nil=>intro ps es l a _;cases a with
    | nil=>exact .nil
    | cons _ _=>simp at l
   | cons a as ih=>
    intro ps es l b h
    cases b with
    | nil=>simp at l
    | @cons p e _ _ r rs=>
     refine .cons ?_ (ih (by simpa using l) rs λj a ha=> ?_)
     ·obtain⟨e',q1,q2⟩:=h 0 a rfl
      simp at q1
      subst q1
      exact⟨_,_,r.1,r.2,q2⟩
     ·obtain⟨e',q1,q2⟩:=h (j+1) a (by simpa using ha)
      exact⟨e',by simpa using q1,q2⟩
  exact go (by rw[la,Array.length_toList]) pe λj a ha=>by
   obtain⟨e,q1,q2⟩:=pr.ix j a ha
   exact⟨e,by rw[Array.getElem?_toList];exact q1,q2⟩
 have I2:=ZQ (s:={s with heap:=h',toks:=tk}) ant I1 pr.up (λa ha=>⟨I.Qc (fr a ha) (fresh a ha),Heap.get?_none_of_le (yY I.sz (fr a ha))⟩)
 have nd:as.Nodup:=pr.up.imp λh=>xD h
 have ndz:((prs as ps).map (·.1)).Nodup:=by
  have:(prs as ps).map (·.1)=as:=by
   unfold prs
   rw[List.map_map]
   have e:((λx=>x.fst)∘λ(p:Addr×V×V)=>(p.1,HO.tup [p.2.1,p.2.2]))=Prod.fst:=rfl
   rw[e,List.map_fst_zip]
   lia
  rw[this];exact nd
 have lks:kvs.length=ks.length:=by
  have:=congrArg List.length ek
  simpa using this
 have ris:Ris (Ji H (prs as ps)) as ks:=by
  refine⟨(),λi a k ha hk=> ?_,pw⟩
  have hi:i<ps.length:=by
   have:=(List.getElem?_eq_some_iff.mp ha).1
   lia
  have hpi:ps[i]? = some ps[i]:=zac hi
  have e0:ps[i].1= .int k:=by
   have e1:(ps.map (·.1))[i]? = some (V.int k):=by
    have:ps.map (·.1)=ks.map V.int:=by
     rw[<-ek,eps,List.map_map]
     rfl
    rw[this,zam,hk]
    rfl
   rw[zam,hpi]at e1
   exact xI e1
  have:(prs as ps)[i]? = some (a,.tup [ps[i].1,ps[i].2]):=by
   unfold prs
   rw[zam,show(as.zip ps)[i]? = some (a,ps[i])from List.getElem?_zip_eq_some.mpr ⟨ha,hpi⟩]
   rfl
  have q:=Rj ndz this (H:=H)
  rw[e0]at q
  exact⟨_,q⟩
 have line:(64:Nat)<=sizeLine:=by decide
 have ll:(as.map Value.ref).length<64:=by rw[zan];lia
 refine zC (wpAny_newList ?_ ())
 have ho:(h'.push {cls:= .type "list",data:= .seq (as.map Value.ref).toArray}).get? h'.objs.size=some (seqObj "list" (as.map Value.ref).toArray 0):=yB _ rfl
 have I3:Inv X pins σ (Ji H (prs as ps)) {s with heap:=h'.push {cls:= .type "list",data:= .seq (as.map Value.ref).toArray},toks:=tk}:=I2.kept (t':=tk) λb o e=>zD _ e
 have fp:=I2.Qc (zab _) (I2.hok.fresh (zab _))
 refine zC (wpAny_holding (jI slot_list_sort ⟨_,ho,rfl⟩ entry_list_sort (WD I3 fp rfl ho ll ris λc s' e I4=> ?_) (args_list_sort _)))
 have va:∀as:List Addr,Vals (as.map V.ref) (as.map Value.ref):=λas=>by
  induction as with
  | nil=>exact .nil
  | cons a as ih=>exact .cons rfl ih
 refine⟨_,rfl,zI ⟨_,rfl,.ref h'.objs.size,_,I4.track (o:= .lst (as.map V.ref)) fp (Heap.get?_none_of_le I2.sz) ⟨?_,_,c,va as,e⟩,rfl,q as _ () nd fresh fp.1⟩⟩
 rw[zan]at ll ⊢
 lia
end
end L2
namespace S
open PySem PySem.Spec PyProof.Rows L2
noncomputable def acH(p:Key×D):D:= .tup [Xp p.1,p.2]
open Classical in
noncomputable def wY(d:D)(M:Mem):Out D:=match d with
 | .ref n=>match M[n]? with
  | some (.dk kvs)=>match Cg (kvs.map λp=>Xp p.1)with
   | some ks=>if ks.Pairwise (· < ·)/\kvs.length<64 then .ok (.ref M.length) (M++[.lst (kvs.map acH)])else .bad
   | none=> .bad
  | _=> .bad
 | _=> .bad
def HF(mo:ME):ME:=λe M=>(mo e M).bind wY
section
variable{X:Cx}{ct:Nat->Addr}{W:bf}{o:Expr}{mo:ME}{apos p1 pos1 pos:Pos}
theorem aas{K:Frag}{ι:Nat->Addr}{n:Nat}{H:Hp}{kvs:List (Key×D)}{ys:List (Key×V)}(h:Du K ct ι n H kvs ys):∀{as:List Addr},as.length=ys.length->(∀(i:Nat) (a:Addr) (q:Key×V),as[i]? = some a->ys[i]? = some q->H a=some (.tup [kV q.1,q.2]))->nU K ct ι n H (kvs.map acH) (as.map V.ref):=by
 induction h with
 | nil=>
  intro as la _
  cases as with
  | nil=>exact .nil
  | cons _ _=>simp at la
 | @cons x d v fs vs hd _ ih=>
  intro as la hh
  cases as with
  | nil=>simp at la
  | cons a as=>
   exact .cons (.tup (hh 0 a _ rfl rfl) (.cons SQ (.cons hd .nil))) (ih (by simpa using la) λi a q h1 h2=>hh (i+1) a q (by simpa using h1) (by simpa using h2))
theorem Mu(hc:X.calm=true)(ho:SE X ct W o mo)(hg:Gl X "sorted")(hm:X.mg "sorted" = none)
  (hbase:attributeBase o "items" X.env (eval o X.env)=eval o X.env:=by rfl) (hline:(apos.endLine==pos1.line)=true:=by rfl)
  (he:starEach [.Call (.Attribute o "items" apos) [] [] pos1] X.env=(false,eval (.Call (.Attribute o "items" apos) [] [] pos1) X.env)::starEach [] X.env:=by rfl) (hpl:(backTo pos (starEach [] X.env)).any (·.1)=false:=by rfl):
  SE X ct W (.Call (.Name "sorted" p1) [.Call (.Attribute o "items" apos) [] [] pos1] [] pos) (HF mo):=by
 refine fX (Nk (T6 hc) hg hm Q5 (DX (RZ PySem.F.plainAttrs_dict PySem.F.slot_dict_items PySem.F.type_dict_items Vl ho hbase hline) Jw he) (by decide) (by decide) he hpl) λσ H Q q=> ?_
 obtain⟨ι,e,M,w,p⟩:=b7 (fY:=eE X.K ct) (f:=λd _ M1=>wY d M1) q
 refine⟨ι,e,M,w,p.mono ?_⟩
 rintro v H1 ⟨cF,e1,M1,d,w1,q1,p1⟩
 dsimp only at p1
 unfold wY at p1
 split at p1
 ·rename_i m
  obtain⟨hn,rfl⟩:=nC q1
  have R1:=w1.rl
  split at p1
  ·rename_i kvs z
   split at p1
   ·rename_i ks ek
    split at p1
    ·rename_i hs
     obtain⟨ys,hH,pv⟩:=R1.obj m _ z
     have dy:=aec pv
     refine⟨.inr (.inr (.inl ⟨rfl,.inl ⟨ys,hH⟩⟩)),_,rfl,rfl,.inl ⟨ys,.inl hH⟩,λv hv=> ?_⟩
     have ne:cF m≠v:=λz'=>by rw[z',hv]at hH;cases hH
     have x2:Ext X.K cF M1.length H1 cF M1.length (upd H1 v (Bl v (cF m))):=Ext.fresh hv
     have R2:Rl X.K ct cF M1 (upd H1 v (Bl v (cF m))):=R1.fresh hv
     have p2:=p1.ext x2
     have ly:=aea pv
     refine⟨v,cF m,ys,ks,rfl,aM,by rw[aH ne];exact hH,(),Dz ek dy,hs.1,λas l la nd fr hl=> ?_⟩
     have la':as.length=(ys.map λp=>(kV p.1,p.2)).length:=by rw[zan];exact la
     have fr':∀p∈prs as (ys.map λp=>(kV p.1,p.2)),upd H1 v (Bl v (cF m)) p.1=none:=λp hp=>by
      have:p.1∈(prs as (ys.map λp=>(kV p.1,p.2))).map (·.1):=List.mem_map_of_mem hp
      rw[Y0 la']at this
      exact fr _ this
     have nd':((prs as (ys.map λp=>(kV p.1,p.2))).map (·.1)).Nodup:=by rw[Y0 la'];exact nd
     have x3:=abt (K:=X.K) (ι:=cF) (n:=M1.length) fr' nd'
     have R3:=adN R2 fr' nd'
     have dv3:=aas ((pv.mono x2).mono x3) la λi a q ha hq=>by
      have:(prs as (ys.map λp=>(kV p.1,p.2)))[i]? = some (a,.tup [kV q.1,q.2]):=by
       unfold prs
       rw[zam,show(as.zip (ys.map λp=>(kV p.1,p.2)))[i]? = some (a,(kV q.1,q.2))from List.getElem?_zip_eq_some.mpr ⟨ha,by rw[zam,hq];rfl⟩]
       rfl
      exact Rj nd' this
     exact rm R3 dv3 hl (p2.ext x3)
    ·exact p1.elim
   ·exact p1.elim
  ·exact p1.elim
 ·exact p1.elim
end
section
variable{e:Sl}{M:Mem}
@[simp] theorem afP:HF mo e M=(mo e M).bind wY:=id rfl
theorem Mp(h:M[n]? = some (.dk kvs))(hk:Cg (kvs.map λp=>Xp p.1)=some ks)(hs:ks.Pairwise (· < ·))(hl:kvs.length<64):wY (.ref n) M= .ok (.ref M.length) (M++[.lst (kvs.map acH)]):=by
 simp only[wY,h,hk];rw[if_pos ⟨hs,hl⟩]
end
end S
namespace L2
open PySem PySem.Spec PySem.W PySem.Calls PyProof.Rows
section
variable{prog:Program}{w:World}{A:Around}{E:Value->Shared->Prop}{s:Shared}
noncomputable def Oh(w:World):Bool:= !w.params.followText "set-order"
noncomputable def PB(w:World):Obj:={cls:= .type "set",dict:=none,data:= .set #[] 0 (.fresh 0 0 (Oh w))}
theorem newCall_set_1(a:Value):checkBuiltinCall "set.__new__" ⟨[.type "set",a],[]⟩=pure .unit:=F.newCall_set_1 a
theorem typeCall_set_1(a:Value):checkTypeCall "set" ⟨[a],[]⟩=pure .unit:=F.typeCall_set_1 a
theorem Qd{Q₁:Value->Shared->Prop}(a:Value)(h:Q₁ (.ref s.heap.objs.size) {s with heap:=s.heap.push (PB w)}):
  codeAny (model prog w) A (.call (.builtin "set.__new__") ⟨[.type "set",a],[]⟩) (wants Q₁ E) s:=by
 refine codeAny_of_tree ?_
 show wpAny _ A.in1 (do checkBuiltinCall "set.__new__" ⟨[.type "set",a],[]⟩;again (.builtin "set.__new__" ⟨[.type "set",a],[]⟩)) _ _ s
 refine zC (wpAny_of_eq (newCall_set_1 a) (zI ⟨plainId_quiet F.plain_set_new _,codeAny_builtin F.entry_set_new ?_⟩))
 rw[Around.under_plainId F.plain_set_new _]
 unfold Builtin.«set.__new__» Builtin.Frozenset.newClass
 have hsub:=sub_set_self
 obtain⟨hp,g,d,tk,os⟩:=s
 dsimp only
 wp_walk
 refine wpAny_askSetting (zI ?_)
 dsimp only
 simp only[newObj]
 refine zC (wpAny_alloc (zI ?_))
 exact zI h
theorem K9{Q:Unit->Shared->Prop}(hT:s.TypeIs self "set")(hQ:Q .unit s):
  wpAny M A (checkBuiltinCall "set.__init__" ⟨[self,a],[]⟩) Q E s:=by
 simp only[checkBuiltinCall,kind_set_init,split_set_init,sig_set_init]
 refine zC (wpAny_isInstance hT sub_set_self ?_)
 simp only[Bool.not_true,Bool.false_eq_true,if_false]
 unfold Bind.checkArgs
 dsimp only
 refine zC (m:=Bind.printed "set" true _ _) (PyProof.Rows.printed_name (by decide) ?_)
 refine zC (m:=Bind.printed "*" false _ _) (PyProof.Rows.printed_star (self:=self) rfl hT λshort=> ?_)
 have hrn:(Manifest.Receiver.self==Manifest.Receiver.none)=false:=by decide
 have hn:(if(Manifest.Receiver.self==Manifest.Receiver.none)=true then[self,a].length else[self,a].length - 1)=1:=by simp[hrn]
 rw[hn]
 simp only[List.map_nil]
 have hc:Bind.check ⟨.positional,"set","*",.self,[⟨"iterable",.posOnly,false⟩]⟩ "set" short 1 []=pure .unit:=by
  simp[Bind.check,Bind.checkCount,Bind.isPositional]
  intro z
  exact absurd z (by decide)
 rw[hc]
 exact zI hQ
theorem aa1{Q:Value->Shared->Prop}
  (h:wpAny (model prog w) A.in1.in1 (Builtin.«set.__init__» ⟨[.ref s.heap.objs.size,a],[]⟩) (λfin s'=>fin= .done (.ret .none)/\Q (.ref s.heap.objs.size) s') E {s with heap:=s.heap.push (PB w)}):
  wpAny (model prog w) A (call (.type "set") [a]) Q E s:=by
 obtain⟨c,tl,hmro⟩:=F.called_set.mro
 have hmade:=F.called_set.made
 have hsub:=F.called_set.sub
 refine wpAny_call (codeAny_of_tree ?_)
 show wpAny _ _ (callAny (.type "set") _) _ _ _
 refine zI ⟨Code.quiet_builtin _ (by decide +kernel),codeAny_builtin F.entry_type_call ?_⟩
 rw[Around.under_plain (weight_type_call_type "set" [a] []) rfl]
 have h1:=F.called_set.notType
 have h2:=F.called_set.canCreate
 have hct:=typeCall_set_1 a
 repeat (any_goals (first | assumption | wp_step))
 refine codeAny_mono (Qd (E:=E) (Q₁:=λobj s₁=>obj= .ref s.heap.objs.size/\s₁={s with heap:=s.heap.push (PB w)}) a ⟨rfl,rfl⟩) λr s₁ hr=> ?_
 cases r with
 | error e=>exact hr
 | ok fl=>
  cases fl with
  | ret obj=>
   obtain⟨rfl,rfl⟩:=hr
   have hS:(s.heap.push (PB w)).get? s.heap.objs.size=some (PB w):=yB _ rfl
   have hT:Shared.TypeIs {s with heap:=s.heap.push (PB w)} (.ref s.heap.objs.size) "set" := ⟨_,hS,rfl⟩
   have hli:=F.called_set.init.lookup
   have hbi:=F.called_set.init.bind (.ref s.heap.objs.size)
   repeat (any_goals (first | assumption | wp_step))
   refine codeAny_mono (codeAny_call_builtin (R:=wants (λr s₂=>r= .none/\Q (.ref s.heap.objs.size) s₂) E) F.called_set.init.plain F.entry_set_init (K9 hT ?_)) λr₂ s₂ hr₂=> ?_
   ·exact wT h (λfin s' hf=>by obtain⟨rfl,hq⟩:=hf;exact⟨rfl,hq⟩) λe s' he=>he
   ·cases r₂ with
    | error e=>exact hr₂
    | ok fl₂=>
     cases fl₂ with
     | ret r=>
      obtain⟨rfl,hq⟩:=hr₂
      repeat (any_goals (first | assumption | wp_step))
     | _=>exact hr₂.elim
  | _=>exact hr.elim
theorem aeO(led:Bool)(h:Int)(x:Value):∃t d g,layNew (.fresh 0 0 led) #[] h x=(#[(h,x)],t,d,g)/\t.led=led/\t.fits 1=true/\t.tooFull=false:=by
 unfold layNew
 split
 ·rename_i j d _
  exact⟨{mask:=7,place:= #[j],dummies:= #[],finger:=0,led:=led,moves:=0,plain:=true},d,false,rfl,rfl,rfl,rfl⟩
 ·exact⟨_,_,_,rfl,rfl,rfl,rfl⟩
def Um(w:World)(h:Heap)(a:Addr)(x:Value):Prop:=∃o hs ep t,h.get? a=some o/\o.ExactSet/\o.data= .set #[(hs,x)] ep t/\t.fits 1=true/\t.led=Oh w
theorem abQ{a:Addr}{k:Int}{x:Value}{Q:Bool->Shared->Prop}(hk:(intKind prog w).is k x=true)(hx:x.scannable=true)(ho:s.heap.get? a=some (PB w))
  (h:∀h',Heap.SameBut a s.heap h'->Um w h' a x->Q true {s with heap:=h'}):wpAny (model prog w) A (setAddHashed a x ((intKind prog w).hash k)) Q E s:=by
 unfold setAddHashed setAddHashedIn
 refine wpAny_holding (zC (wpAny_setState_of ho rfl rfl ?_))
 dsimp only
 rw[byScan_of (knd:=intKind prog w) hx (by decide) (λe he=>by simp at he)]
 simp only[↓reduceIte]
 unfold setAddByScan
 refine zC ?_
 refine zC (wpAny_rule ?_)
 refine zC (wpAny_setScan_of hk ho rfl rfl (λe he=>by simp at he) ?_)
 obtain⟨t,d,g,e,e1,e2,e3⟩:=aeO (Oh w) ((intKind prog w).hash k) x
 rw[show List.findIdx? (λe:Int×Value=>(intKind prog w).is k e.snd) (#[]:Array (Int×Value)).toList=none from rfl]
 dsimp only
 rw[e]
 dsimp only
 have fin:∀(t2:SetTable) (Z:Sem (Option Bool)),t2.led=Oh w->t2.fits 1=true->t2.tooFull=false->wpAny (model prog w) A (storeSet a #[((intKind prog w).hash k,x)] t2 >>= λ_=>if(!d&&t2.tooFull)=true then Z else pure (some true)) (λa_1 s'=>wpAny (model prog w) A (match a_1 with | some added=>pure added | none=>setAddHashedIn a x ((intKind prog w).hash k) 99999) Q E s') E s:=λt2 Z f1 f2 f3=>by
  have line:(1:Nat)<=sizeLine:=by decide
  refine zC (wpAny_storeSet_of ho rfl ?_ line)
  rw[f3,Bool.and_false,if_neg xA]
  have get:=vF (Obj.putSet #[((intKind prog w).hash k,x)] t2) ho (by rw[putSet_of _ t2 rfl];rfl)
  rw[putSet_of _ t2 rfl]at get
  exact zI (zI (h _ (Heap.SameBut.update s.heap a (Obj.putSet _ t2)) ⟨_,(intKind prog w).hash k,0+1,t2,get,⟨rfl,rfl,rfl⟩,rfl,f2,f1⟩))
 refine zC ?_
 cases g
 all_goals first | refine zI ?_ | refine wpAny_rule ?_
 all_goals
  split
  ·rw[hashByValue_scannable 8 hx]
   refine zC (zI ?_)
   split
   ·exact fin t _ e1 e2 e3
   ·exact fin _ _ e1 (SetTable.fits_plain_off e2) e3
  ·refine zC (zI ?_)
   simp only[↓reduceIte]
   exact fin t _ e1 e2 e3
theorem QT:entryFor table "set.update.loop" = some Builtin.«set.update.loop» := entryFor_of_tree (by kernel_rfl)
theorem Ju:plainId "set.update.loop" = true:=by decide +kernel
theorem sub_list_set:isSubtype (.type "list") (.type "set")=pure false:=by rw[isSubtype_type];kernel_rfl
theorem Px:isSubtype (.type "list") (.type "frozenset")=pure false:=by rw[isSubtype_type];kernel_rfl
theorem Z3{R:Result->Shared->Prop}(hh:A.in1.handled=none)(hne:l≠I)(haI:a≠I)(hal:a≠l)(ho:s.heap.get? a=some (PB w))(hl:s.heap.IsList l #[x])(hi:s.heap.IsListIter I l 0)(hk:(intKind prog w).is k x=true)(hx:x.scannable=true)
  (h:∀h' tk,Um w h' a x->(∀b o,b≠a->b≠I->s.heap.get? b=some o->h'.get? b=some o)->R (.ok (.ret .none)) {s with heap:=h',toks:=tk}):
  codeAny (model prog w) A (.builtin "set.update.loop" ⟨[.ref a,.ref I],[]⟩) R s:=by
 have W:=Walks.list (prog:=prog) (w:=w) hh I l hne #[x]
 refine codeAny_builtin QT ?_
 rw[Around.under_plainId Ju _]
 unfold Builtin.«set.update.loop»
 show wpAny _ A.in1 (pyNext (.ref I) >>= _) _ _ s
 refine zC (W.item 0 s _ _ (show 0<1 by decide) ⟨hi,hl⟩ λv h1 tk1 hP st1 kp1=> ?_)
 obtain rfl:v=x:=by simpa using hP.symm
 have ho1:h1.get? a=some (PB w):=kp1 _ _ (by simpa using haI) ho
 dsimp only
 refine zC (wpAny_holding ?_)
 unfold setAdd
 refine wpAny_holding ?_
 refine zC ((intKind prog w).pyHash hk ?_)
 refine abQ (s:={s with heap:=h1,toks:=tk1+1}) hk hx ho1 λh2 sb2 so2=> ?_
 refine zI ⟨plainId_quiet Ju _,?_⟩
 have st2:=W.frame 1 h1 h2 st1 λb hb o e=>(sb2.2 b (by
  simp at hb
  rcases hb with rfl | rfl
  ·exact Ne.symm haI
  ·exact Ne.symm hal)).trans e
 refine codeAny_builtin QT ?_
 rw[Around.under_plainId Ju _]
 unfold Builtin.«set.update.loop»
 show wpAny _ A.in1 (pyNext (.ref I) >>= _) _ _ _
 refine zC (W.done {s with heap:=h2,toks:=tk1+1} _ _ st2 λh3 tk3 kp3=> ?_)
 dsimp only
 refine zI (h h3 tk3 ?_ λb o hb hI e=>kp3 _ _ (by simpa using hI) ((sb2.2 b hb).trans (kp1 _ _ (by simpa using hI) e)))
 obtain⟨o,hs,ep,t,q,rest⟩:=so2
 exact⟨o,hs,ep,t,kp3 _ _ (by simpa using haI) q,rest⟩
theorem Z4{Q:Shared->Prop}(hh:A.handled=none)(hal:a≠l)(ho:s.heap.get? a=some (PB w))(hl:s.heap.IsList l #[x])(hk:(intKind prog w).is k x=true)(hx:x.scannable=true)
  (h:∀h' tk,Um w h' a x->(∀b o,b≠a->s.heap.get? b=some o->h'.get? b=some o)->Q {s with heap:=h',toks:=tk}):
  wpAny (model prog w) A (Builtin.«set.__init__» ⟨[.ref a,.ref l],[]⟩) (λfin s'=>fin= .done (.ret .none)/\Q s') E s:=by
 have hT:s.TypeIs (.ref a) "set" := ⟨_,ho,rfl⟩
 have hTl:s.TypeIs (.ref l) "list" := hl.typeIs
 have hS:s.heap.get? a=some {cls:= .type "set",dict:=none,data:= .set #[] 0 (.fresh 0 0 (Oh w))}:=ho
 have f1:=sub_list_set
 have f2:=Px
 unfold Builtin.«set.__init__» noKeywords
 repeat (any_goals (first | assumption | ((with_reducible show wpAny _ _ (pyIter (Value.ref l)) _ _ _);refine wpAny_pyIter_list hl ?_) | ((with_reducible show wpAny _ _ (runValue _) _ _ _);refine wpAny_runValue ?_) | wp_step))
 have ll:l<s.heap.objs.size:=by obtain⟨o,q,_⟩:=hl;exact zS q
 refine Z3 (I:=s.heap.objs.size) (l:=l) (x:=x) (k:=k) (by simpa using hh) (xD ll) (xD (zS ho)) hal (zD _ ho) (hl.push _) ⟨_,yB _ rfl,rfl,rfl⟩ hk hx λh' tk so kp=> ?_
 exact zI (zI ⟨rfl,h h' tk so λb o hb e=>kp b o hb (xD (zS e)) (zD _ e)⟩)
end
section
variable{X:Cx}
noncomputable def U5(X:Cx)(v:Addr)(i:Int):HO:= .ext λh=>∃x,Um X.w h v x/\(intKind X.prog X.w).is i x=true/\x.scannable=true
def akg(X:Cx):List V->Hp->VK->Prop:=λxs H Q=>∃l i,xs=[.ref l]/\Ew X.K H l [.int i]/\∀v,H v=none->Q (.ref v) (upd H v (U5 X v i))
theorem int_is:(intKind prog w).is i (.int i tk)=true:=by
 simp[intKind,Value.isInt]
theorem X8(hc:X.calm=true):qU X (.type "set") (akg X):=by
 intro pins s σ H xs us Q I r h
 obtain⟨l,i,rfl,hl,q⟩:=h
 obtain⟨u,rfl,rx⟩:=vals1 r
 cases(show u=Value.ref l from rx)
 obtain⟨its,r',⟨o,nn,ho,hcl,hd,hdt⟩,_⟩:=I.list hl
 obtain⟨x,rfl,rx⟩:=vals1 r'
 obtain⟨tk0,rfl⟩:∃tk,x= .int i tk:=rx
 have ll:=zS ho
 refine aa1 (Z4 (k:=i) (by simpa using I.ok.hd hc) (xS ll) (yB _ rfl) (l:=l) (x:= .int i tk0) ⟨_,zD _ ho,hcl,nn,hdt⟩ ?_ rfl λh' tk so kp=> ?_)
 ·exact int_is
 ·obtain⟨os,hs,ep,t,g,rest⟩:=so
  have ok:bT X.prog X.w (upd H s.heap.objs.size (U5 X s.heap.objs.size i)) h' s.heap.objs.size (U5 X s.heap.objs.size i):=by
   refine⟨⟨_,⟨os,hs,ep,t,g,rest⟩,int_is,rfl⟩,⟨_,g⟩,λh1 h2 z kp=> ?_⟩
   obtain⟨x,⟨os,hs,ep,t,g,rest⟩,z⟩:=z
   exact⟨x,⟨os,hs,ep,t,kp _ g,rest⟩,z⟩
  exact⟨.ref s.heap.objs.size,_,I.laid (t':=tk) (λb o e=>kp b o (xD (zS e)) (zD _ e)) (zab _) ok,rfl,q _ (I.hok.fresh (zab _))⟩
end
section
variable{prog:Program}{w:World}{A:Around}{E:Value->Shared->Prop}{s:Shared}
theorem O3:entryFor table "set.__iter__" = some Builtin.«frozenset.__iter__» := entryFor_alias (id':= "frozenset.__iter__") (by kernel_rfl) rfl (by decide +kernel) (by kernel_rfl)
theorem jx:Slot "set_iterator" "__next__" "set_iterator.__next__" :=
 .of (owner:= "set_iterator") (n:= "__next__") (by rw[typeLookup_type,builtinLookup_eq_fast];kernel_rfl) (by decide +kernel) (by decide +kernel) (by decide +kernel)
  (by first | exact .inl (by decide +kernel) | exact .inr (by decide +kernel)) (by rw[isSubtype_type];kernel_rfl)
theorem Bm:Slot "set_iterator" "__iter__" "set_iterator.__iter__" :=
 .of (owner:= "set_iterator") (n:= "__iter__") (by rw[typeLookup_type,builtinLookup_eq_fast];kernel_rfl) (by decide +kernel) (by decide +kernel) (by decide +kernel)
  (by first | exact .inl (by decide +kernel) | exact .inr (by decide +kernel)) (by rw[isSubtype_type];kernel_rfl)
theorem zx:entryFor table "set_iterator.__next__" = some Builtin.«set_iterator.__next__» := entryFor_of_tree (by kernel_rfl)
theorem Kf:Manifest.owners.lookup (String.ofList ['r','o','t','a','r','e','t','i','_','t','e','s'].reverse)=some Manifest.sig_set_iterator:=by kernel_rfl
theorem BP(a:Value):argsOk "set_iterator.__next__" ⟨[a],[]⟩:=by
 unfold argsOk;rw[signature?_of (id:= "set_iterator.__next__") (n:=['_','_','t','x','e','n','_','_']) (o:=['r','o','t','a','r','e','t','i','_','t','e','s']) (by kernel_rfl) Kf];kernel_rfl
def yH(w:World)(h:Heap)(a:Addr)(x:Value)(hs:Int)(ep:Nat)(t:SetTable):Prop:=∃o,h.get? a=some o/\o.ExactSet/\o.data= .set #[(hs,x)] ep t/\t.fits 1=true/\t.led=Oh w
def IK(h:Heap)(I a:Addr)(slot i ep:Nat):Prop:=∃o,h.get? I=some o/\o.cls= .type "set_iterator" /\ o.data= .fields #[.int slot 0,.int i 0,.ref a,.int 1 0,.int ep 0]
theorem abP{Q:Bool->Shared->Prop}(hT:s.TypeIs (.ref r) "set")(h:Q false s):wpAny (model prog w) A (Builtin.List.listLengthHint (.ref r)) Q E s:=by
 unfold Builtin.List.listLengthHint
 refine zC (wpAny_specialOf hT PySem.F.slot_set_len.lookup ?_)
 generalize hid:("set.__len__" : String)=id0
 wp_delta
 rw[show splitId id0=some ("set","__len__")from by subst hid;decide +kernel]
 subst hid
 refine zC (wpAny_isInstance (T:= "set") (b:=true) hT (by rw[isSubtype_type];kernel_rfl) ?_)
 refine wpAny_ite_split (λhab=>absurd hab (by decide)) (λ_=> ?_)
 refine wpAny_ite_split (λ_=> ?_) (λhab=>absurd (by decide +kernel) hab)
 refine zC (wpAny_typeOf hT ?_)
 exact zI h
theorem aaS{Q:Value->Shared->Prop}(hm:yH w s.heap a x hs ep t)
  (hQ:Q (.ref s.heap.objs.size) {s with heap:=s.heap.push {cls:= .type "set_iterator",data:= .fields #[.int 0 0,.int 0 0,.ref a,.int 1 0,.int ep 0]}}):
  wpAny (model prog w) A (pyIter (.ref a)) Q E s:=by
 obtain⟨o,ho,hc,hd,hf,hl⟩:=hm
 have hT:s.TypeIs (.ref a) "set" := ⟨o,ho,hc.1⟩
 refine wpAny_pyIter_slot hT F.slot_set_iter (jI F.slot_set_iter hT O3 ?_ (F.args_set_iter_1 _))
 unfold Builtin.«frozenset.__iter__» Builtin.Frozenset.slot0 Builtin.Frozenset.sizeOf setDrawn setEpoch setEntries setsByText
 repeat (any_goals (first | assumption | ((with_reducible show wpAny _ _ (setState _) _ _ _);refine wpAny_setState_of ho hd hf ?_) | wp_step))
 refine wpAny_askSetting (zI (zI ?_))
 dsimp only
 refine wpAny_ite_split (λhab=> ?_) (λ_=> ?_)
 ·rw[Bool.and_eq_true]at hab
  have h2:=hab.2
  obtain⟨mask,place,dummies,finger,led,moves,plain⟩:=t
  cases plain
  ·exact absurd (show false=true from h2) xA
  ·exact absurd (show false=true from h2) xA
 ·refine zC (zI (zC (zC (wpAny_setState_of ho hd hf (zI ?_)))))
  refine zC (wS (zI ⟨_,rfl,"set_iterator",_,⟨_,yB _ rfl,rfl⟩,jx.lookup,?_⟩))
  exact hQ
theorem acu{α:Type}(next:Nat->Nat)(e:α):pickOrder next #[e]= #[e]:=by
 unfold pickOrder
 show pickOrder.go next 1 0 [e] #[]=_
 unfold pickOrder.go
 rw[show([e].length)=1 from rfl,Nat.mod_one]
 show pickOrder.go next 0 1 _ _=_
 unfold pickOrder.go
 rfl
theorem afn(j:Nat):SetTable.below #[j] 0=0:=by
 unfold SetTable.below
 show SetTable.below.go #[j] 0 1 0 1=0
 unfold SetTable.below.go
 simp[SetTable.below.go]
theorem below_1(j:Nat):SetTable.below #[j] (j+1)=1:=by
 unfold SetTable.below
 show SetTable.below.go #[j] (j+1) 1 0 1=1
 unfold SetTable.below.go
 simp[SetTable.below.go]
theorem Kd{a:Addr}{x:Value}{hs:Int}{ep j slot given:Nat}{t:SetTable}{Q:Option (Value×Nat)->Shared->Prop}(hp:t.place= #[j])(hm:yH w s.heap a x hs ep t)
  (hg:given=0/\slot=0/\Q (some (x,if w.params.followText "set-order" = true then 0 else j+1)) s\/given=1/\slot=(if w.params.followText "set-order" = true then 0 else j+1)/\Q none s):
  wpAny (model prog w) A (setNext a slot given ep) Q E s:=by
 obtain⟨o,ho,hc,hd,hf,hl⟩:=hm
 unfold setNext setsByText
 refine zC (wpAny_setState_of ho hd hf ?_)
 dsimp only
 refine zC (zC (wpAny_askSetting (zI ?_)))
 show wpAny _ _ (if w.params.followText "set-order" = true then _ else _) _ _ s
 by_cases z:w.params.followText "set-order" = true
 ·rw[if_pos z]
  rw[if_pos z]at hg
  rw[if_neg (by simp)]
  unfold setWalk setsByText
  refine zC (zC (wpAny_setState_of ho hd hf (zC (zC (wpAny_askSetting (zI ?_))))))
  show wpAny _ _ (if w.params.followText "set-order" = true then _ else _) _ _ s
  rw[if_pos z]
  refine zC (wpAny_askSetting (zI (zI ?_)))
  rw[acu]
  rcases hg with⟨rfl,rfl,q⟩ | ⟨rfl,rfl,q⟩
  ·exact q
  ·exact q
 ·rw[if_neg z]
  rw[if_neg z]at hg
  refine wpAny_ite_split (λhab=> ?_) (λ_=> ?_)
  ·obtain⟨mask,place,dummies,finger,led,moves,plain⟩:=t
   cases plain
   ·exact absurd (show false=true from hab) xA
   ·exact absurd (show false=true from hab) xA
  ·have lt:t.led=true:=by rw[hl];unfold Oh;simp[z]
   refine zC ?_
   show wpAny _ _ (ite _ _ _) _ _ _
   rw[lt]
   refine wpAny_ite_split (λhab=>absurd hab (by simp)) (λ_=>zI (zI ?_))
   rw[hp]
   rcases hg with⟨rfl,rfl,q⟩ | ⟨rfl,rfl,q⟩
   ·rw[afn];exact q
   ·rw[below_1];exact q
theorem aay{Q:Option Value->Shared->Prop}(hp:t.place= #[j])(hit:IK s.heap I a 0 0 ep)(hm:yH w s.heap a x hs ep t)(hne:a≠I)
  (hQ:∀h',IK h' I a (if w.params.followText "set-order" = true then 0 else j+1) 1 ep->Heap.SameBut I s.heap h'->Q (some x) {s with heap:=h'}):
  wpAny (model prog w) A (pyNext (.ref I)) Q E s:=by
 obtain⟨oi,hoi,hci,hdi⟩:=id hit
 obtain⟨o,ho,hc,hd,hf,hl⟩:=hm
 have hT:s.TypeIs (.ref I) "set_iterator" := ⟨oi,hoi,hci⟩
 unfold pyNext
 refine zC (wpAny_attempt (zah (name:=Str.ofString "__next__") hT jx (jI jx hT zx ?_ (BP _))))
 unfold Builtin.«set_iterator.__next__» setEntries
 repeat (any_goals (first | assumption | ((with_reducible show wpAny _ _ (setNext _ _ _ _) _ _ _);refine Kd hp ⟨o,ho,hc,hd,hf,hl⟩ (.inl ⟨rfl,rfl,show id _ from ?_⟩)) | ((with_reducible show wpAny _ _ (setState _) _ _ _);refine wpAny_setState_of ho hd hf ?_) | ((with_reducible show wpAny _ _ (fieldsOf _) _ _ _);refine wpAny_fieldsOf hoi hdi ?_) | wp_step))
 dsimp only[id]
 refine zC (wpAny_setField hoi hdi (by simp) ?_)
 obtain⟨m,hm⟩:∃m:Nat,m=if w.params.followText "set-order" = true then 0 else j+1:=⟨_,rfl⟩
 rw[<-hm]at hQ ⊢
 have g1:=vF (Obj.mapFields (·.setIfInBounds 0 (rawInt (m:Int)))) hoi (Obj.isFreed_of_fields (Obj.data_mapFields hdi _))
 have d1:=Obj.data_mapFields hdi (·.setIfInBounds 0 (rawInt (m:Int)))
 refine zC (wpAny_setField (s:={s with heap:=s.heap.update I (Obj.mapFields (·.setIfInBounds 0 (rawInt (m:Int))))}) g1 d1 (by simp) ?_)
 have g2:=vF (Obj.mapFields (·.setIfInBounds 1 (rawInt ((0:Nat)+1:Int)))) g1 (Obj.isFreed_of_fields (Obj.data_mapFields d1 _))
 have d2:=Obj.data_mapFields d1 (·.setIfInBounds 1 (rawInt ((0:Nat)+1:Int)))
 refine zI ⟨_,rfl,zI (hQ _ ⟨_,g2,?_,?_⟩ ((Heap.SameBut.update ..).trans (Heap.SameBut.update ..)))⟩
 ·exact(Obj.cls_mapFields ..).trans ((Obj.cls_mapFields ..).trans hci)
 ·rw[d2]
  simp[rawInt]
theorem ZW{Q:Option Value->Shared->Prop}(hh:A.handled=none)(hp:t.place= #[j])(hit:IK s.heap I a (if w.params.followText "set-order" = true then 0 else j+1) 1 ep)(hm:yH w s.heap a x hs ep t)(hne:a≠I)
  (hQ:∀h',Heap.ExtBut I s.heap h'->Q none {s with heap:=h'}):
  wpAny (model prog w) A (pyNext (.ref I)) Q E s:=by
 obtain⟨oi,hoi,hci,hdi⟩:=id hit
 obtain⟨o,ho,hc,hd,hf,hl⟩:=hm
 have hT:s.TypeIs (.ref I) "set_iterator" := ⟨oi,hoi,hci⟩
 unfold pyNext
 refine zC (wpAny_attempt (zah (name:=Str.ofString "__next__") hT jx (jI jx hT zx ?_ (BP _))))
 unfold Builtin.«set_iterator.__next__» setEntries
 repeat (any_goals (first | assumption | ((with_reducible show wpAny _ _ (setNext _ _ _ _) _ _ _);refine Kd hp ⟨o,ho,hc,hd,hf,hl⟩ (.inr ⟨rfl,by simp,show id _ from ?_⟩)) | ((with_reducible show wpAny _ _ (setState _) _ _ _);refine wpAny_setState_of ho hd hf ?_) | ((with_reducible show wpAny _ _ (fieldsOf _) _ _ _);refine wpAny_fieldsOf hoi hdi ?_) | wp_step))
 dsimp only[id]
 refine zC (wpAny_setField hoi hdi (by simp) ?_)
 show wpAny _ _ (newExc (.type "StopIteration") [] >>= _) _ _ _
 refine zC ?_
 simp only[newExc,newTuple]
 refine zC (wS ?_ (by size_fits))
 refine zC (m:=firstArgMember _ _) (wpAny_of_eq (a:=Value.none) (by first | rfl | (simp only[firstArgMember];rfl)) ?_)
 refine wS ?_ (by size_fits)
 simp only[raiseNew]
 refine zC (wpAny_handled ?_)
 rw[show A.in1.handled=none from hh]
 refine zC (zI (wpAny_throw ?_))
 refine zC (wpAny_isInstance (T:= "StopIteration") (b:=true) ⟨_,yB _ rfl,rfl⟩ isSubtype_stop ?_)
 exact zI (hQ _ (((Heap.SameBut.update ..).extBut.push _).push _))
theorem J2:entryFor table "set_iterator.__iter__" = some Builtin.«dict_keyiterator.__iter__» := entryFor_alias (id':= "dict_keyiterator.__iter__") (by kernel_rfl) rfl (by decide +kernel) (by kernel_rfl)
theorem Ld(a:Value):argsOk "set_iterator.__iter__" ⟨[a],[]⟩:=by
 unfold argsOk;rw[signature?_of (id:= "set_iterator.__iter__") (n:=['_','_','r','e','t','i','_','_']) (o:=['r','o','t','a','r','e','t','i','_','t','e','s']) (by kernel_rfl) Kf];kernel_rfl
theorem Mt{Q:Value->Shared->Prop}(hit:IK s.heap I a slot i ep)(h:Q (.ref I) s):wpAny (model prog w) A (pyIter (.ref I)) Q E s:=by
 obtain⟨o,ho,hc,hd⟩:=hit
 have hT:s.TypeIs (.ref I) "set_iterator" := ⟨o,ho,hc⟩
 refine wpAny_pyIter_slot hT Bm (jI Bm hT J2 ?_ (Ld _))
 show wpAny _ _ (ret (.ref I)) _ _ s
 exact zI ⟨_,rfl,"set_iterator",_,hT,jx.lookup,h⟩
theorem IK.at(x:IK h I a slot i ep)(e:∀o,h.get? I=some o->h'.get? I=some o):IK h' I a slot i ep:=let⟨o,ho,r⟩:=x;⟨o,e _ ho,r⟩
theorem yH.at(m:yH w h a x hs ep t)(e:∀o,h.get? a=some o->h'.get? a=some o):yH w h' a x hs ep t:=let⟨o,ho,r⟩:=m;⟨o,e _ ho,r⟩
def ajT(w:World)(I a:Addr)(x:Value)(hs:Int)(ep j:Nat)(t:SetTable)(k:Nat)(h:Heap):Prop:=
 yH w h a x hs ep t/\(k=0/\IK h I a 0 0 ep\/k=1/\IK h I a (if w.params.followText "set-order" = true then 0 else j+1) 1 ep)
theorem Wm(hh:A.handled=none)(hp:t.place= #[j])(hne:a≠I):Walks prog w A I [I,a] [I] 1 (λ_ v=>v=x) (ajT w I a x hs ep j t) where
 sub:=λb hb=>by simp at hb;simp[hb]
 frame:=λ_ _ _ z hk=>⟨z.1.at λo e=>hk a (by simp) o e,z.2.imp (λy=>⟨y.1,y.2.at λo e=>hk I (by simp) o e⟩) λy=>⟨y.1,y.2.at λo e=>hk I (by simp) o e⟩⟩
 item:=λi s Q E hi z hQ=>by
  obtain rfl:i=0:=()
  obtain⟨m,⟨_,it⟩ | ⟨z,_⟩⟩:=z
  ·exact aay hp it m hne λh' it' sb=>hQ x h' s.toks rfl ⟨m.at λo e=>(sb.2 a hne).trans e,.inr ⟨rfl,it'⟩⟩ λb o hb e=>sb.extBut b o (λy=>hb (by simp[y])) e
  ·cases z
 done:=λs Q E z hQ=>by
  obtain⟨m,⟨z,_⟩ | ⟨_,it⟩⟩:=z
  ·cases z
  ·exact ZW hh hp it m hne λh' eb=>hQ h' s.toks λb o hb e=>eb b o (λy=>hb (by simp[y])) e
 self:=λi s Q E z hQ=>by
  obtain⟨_,⟨_,it⟩ | ⟨_,it⟩⟩:=z
  ·exact Mt it hQ
  ·exact Mt it hQ
theorem ac1(hp:t.place= #[j]):KdlSrc prog w "set" a a 1 (λ_ v=>v=x) (λh=>yH w h a x hs ep t) where
 type:=λ_ m=>let⟨o,ho,hc,_⟩:=m;⟨o,ho,hc.1⟩
 there:=λ_ m=>let⟨_,ho,_⟩:=m;⟨zS ho,zS ho⟩
 keep:=λ_ _ m hk=>m.at λo e=>hk a (.inl rfl) o e
 notList:=by decide
 notTuple:=by decide
 hint:=λ_ _ _ _ m hq=>abP (let⟨o,ho,hc,_⟩:=m;⟨o,ho,hc.1⟩) hq
 iter:=λ_ s hh m=>⟨_,_,(λ_ _ hq=>aaS m hq),Wm (j:=j) hh hp (let⟨_,ho,_⟩:=m;xD (zS ho)),⟨m.at λo e=>zD _ e,.inl ⟨rfl,_,yB _ rfl,rfl,rfl⟩⟩⟩
end
section
variable{X:Cx}
theorem aaj{t:SetTable}(h:t.fits 1=true):∃j,t.place= #[j]:=by
 have h':t.place.size=1:=by
  unfold SetTable.fits at h
  simp at h
  lia
 exact Array.size_eq_one_iff.mp h'
def aci(X:Cx):List V->Hp->VK->Prop:=λxs H Q=>∃v i,xs=[.ref v]/\H v=some (U5 X v i)/\∀l,H l=none->Q (.ref l) (upd H l (.lst [.int i]))
theorem T5(hc:X.calm=true):qU X (.builtin "sorted") (aci X):=by
 intro pins s σ H xs us Q I r h
 obtain⟨v,i,rfl,hv,q⟩:=h
 obtain⟨u,rfl,rx⟩:=vals1 r
 cases rx
 obtain⟨x,⟨o,hs,ep,t,ho,hx,hd,hf,hl⟩,hi,hsc⟩:=(show bT X.prog X.w H s.heap v (U5 X v i)from I.hok v _ hv).1
 obtain⟨j,hp⟩:=aaj hf
 have m:yH X.w s.heap v x hs ep t:=⟨o,ho,hx,hd,hf,hl⟩
 refine Calls.call_function_entry kind_sorted plain_sorted entry_sorted (args_sorted1 _) ?_
 unfold Builtin.«sorted»
 refine zC (m:=checkCount "sorted" 1 1 _) (zI (zC (kdu_collect (A:=X.A.in1) (ac1 hp) (I.ok.hd hc) m (by decide) λh' tk acc kp it=> ?_)))
 refine ZX (ns:=[i]) (I.kept (t':=tk) kp) (Ri ?_ λj v hv=> ?_) ?_ q
 ·have:=it.1
  simp
  lia
 ·have e:=it.2 j v (by rw[<-Array.getElem?_toList];exact hv)
  have e1:=it.1
  subst e
  have hj:j=0:=by
   have:=(List.getElem?_eq_some_iff.mp hv).1
   rw[Array.length_toList]at this
   lia
  subst hj
  exact⟨.int i,rfl,by obtain⟨t,rfl⟩:=Value.isInt_shape hi;exact⟨t,rfl⟩⟩
 ·have:=it.1
  rw[Array.length_toList]
  lia
end
section
variable{prog:Program}{w:World}{A:Around}{E:Value->Shared->Prop}{s:Shared}
theorem VN:bootBuiltins "reversed" = some (.type "reversed"):=by decide +kernel
theorem aiO:bootBuiltins "set" = some (.type "set"):=by decide +kernel
theorem aaF:typeLookup (.type "list_reverseiterator") "__len__" = pure none:=by rw[typeLookup_type,builtinLookup_eq_fast];kernel_rfl
theorem aaG:typeLookup (.type "list_reverseiterator") "__length_hint__" = pure (some (.builtin "list_reverseiterator.__length_hint__")):=by rw[typeLookup_type,builtinLookup_eq_fast];kernel_rfl
theorem acZ{Q:Bool->Shared->Prop}(hT:s.TypeIs (.ref r) "list_reverseiterator")(h:Q false s):wpAny (model prog w) A (Builtin.List.listLengthHint (.ref r)) Q E s:=by
 unfold Builtin.List.listLengthHint
 refine zC (wpAny_specialOf hT aaF ?_)
 show wpAny _ A (specialOf (Value.ref r) (Str.ofString "__length_hint__") >>= _) _ _ _
 refine zC (wpAny_specialOf hT aaG ?_)
 generalize hid:("list_reverseiterator.__length_hint__" : String)=id0
 wp_delta
 rw[show splitId id0=some ("list_reverseiterator","__length_hint__")from by subst hid;decide +kernel]
 subst hid
 refine zC (wpAny_isInstance (b:=true) hT (by rw[isSubtype_type];kernel_rfl) ?_)
 exact zI h
theorem Xl{R:Result->Shared->Prop}(hh:A.handled=none)(hSr:S≠r)(hSl:S≠l)(hne:l≠r)(hit:s.heap.IsRevIter r l ((its.size:Int) - 1))(hl:s.heap.IsList l its)(hn:its.size<=sizeLine)(hS:s.heap.get? S=some {cls:= .type "list",data:= .seq #[] c₀})
  (hR:∀h' tk acc' c',(∀b o,b≠S->b≠r->s.heap.get? b=some o->h'.get? b=some o)->h'.get? S=some {cls:= .type "list",dict:=none,data:= .seq acc' c',slots:= #[]}->ItemsOf (λi v=>its[its.size - 1 - i]? = some v) acc' its.size->R (.ok (.ret .none)) {s with heap:=h',toks:=tk}):
  wpAny (model prog w) A.in1 (Builtin.List.listExtendWith (.ref S) (.ref r) .none)
   (λfin s'=>match fin with | .done f=>R (.ok f) s' | .again c'=>c'.quiet=true/\codeAny (model prog w) A c' R s') (λe s'=>R (.error e) s') s:=by
 have W:=Walks.listRev (prog:=prog) (w:=w) (A:=A.in1) hh r l hne its
 have hSf:S∉[r,l]:=by simp only[List.mem_cons,List.not_mem_nil,or_false,not_or];exact⟨hSr,hSl⟩
 unfold Builtin.List.listExtendWith
 refine zC (wpAny_typeOf hit.typeIs ?_)
 have h1:Builtin.List.listSameRef (.ref S) (.ref r)=false:=by simp[Builtin.List.listSameRef,hSr]
 rw[if_neg (by rw[h1];decide)]
 refine zC (wpAny_pyIter_revIter hit ?_)
 refine zC (wpAny_holding (acZ hit.typeIs ?_))
 rw[if_neg (by decide)]
 have st0:(0<=its.size/\s.heap.IsRevIter r l ((its.size:Int) - 1 - ((0:Nat):Int))/\s.heap.IsList l its):=⟨Nat.zero_le _,by rw[show(its.size:Int) - 1 - ((0:Nat):Int)=(its.size:Int) - 1 from by lia];exact hit,hl⟩
 refine zI ⟨plainId_quiet PySem.F.plain_extend_loop _,codeAny_extend_loopS W.toS hn S hSf .none its.size 0 _ #[] c₀ rfl (Nat.zero_le _) st0 hS (ItemsOf.nil _) λs' acc' c' hm hS' hacc=> ?_⟩
 rw[Moved.eq_with hm]
 refine hR s'.heap s'.toks acc' c' (λb o hb hbr e=>hm.heap b o (λhmem=> ?_) e) hS' hacc
 rcases List.mem_cons.mp hmem with e' | hmem
 ·exact hb e'
 ·exact hbr (List.mem_singleton.mp hmem)
theorem acY{Q:Value->Shared->Prop}(hh:A.handled=none)(hne:l≠r)(hit:s.heap.IsRevIter r l ((its.size:Int) - 1))(hl:s.heap.IsList l its)(hn:its.size<=sizeLine)
  (hQ:∀h' tk acc' c',(∀b o,b≠r->s.heap.get? b=some o->h'.get? b=some o)->h'.get? s.heap.objs.size=some {cls:= .type "list",dict:=none,data:= .seq acc' c',slots:= #[]}->ItemsOf (λi v=>its[its.size - 1 - i]? = some v) acc' its.size->Q (.ref s.heap.objs.size) {s with heap:=h',toks:=tk}):
  wpAny (model prog w) A (call (.type "list") [.ref r]) Q E s:=by
 refine callType_codes (Q₁:=λobj s₁=>obj= .ref s.heap.objs.size/\s₁={s with heap:=s.heap.push {cls:= .type "list",data:= .seq #[]}}) PySem.F.called_list (PySem.F.typeCall_list_1 _) PySem.F.entry_list_init (code_list_new _ ⟨rfl,rfl⟩) λobj s₁ h₁=> ?_
 obtain⟨rfl,rfl⟩:=h₁
 have hS:(s.heap.push {cls:= .type "list",data:= .seq #[]}).get? s.heap.objs.size=some {cls:= .type "list",data:= .seq #[]}:=yB _ rfl
 have lr:r<s.heap.objs.size:=let⟨_,ho,_⟩:=hit;zS ho
 have ll:l<s.heap.objs.size:=let⟨_,ho,_⟩:=hl;zS ho
 refine⟨⟨_,hS,rfl⟩,PySem.F.args_list_init_2 _ _,?_⟩
 show wpAny _ _ (do let old <-Builtin.List.listItems (.ref s.heap.objs.size);Builtin.List.listUpdate (.ref s.heap.objs.size) (λ_=> #[]);letGo old.toList.reverse;Builtin.List.listExtendWith (.ref s.heap.objs.size) (.ref r) .none) _ _ _
 refine zC ?_
 unfold Builtin.List.listItems
 refine zC (wpAny_seqItems hS rfl (zI ?_))
 show wpAny _ _ (updateSeq s.heap.objs.size (λ_=> #[]) >>= λ_=>letGo (#[]:Array Value).toList.reverse >>= λ_=>Builtin.List.listExtendWith (.ref s.heap.objs.size) (.ref r) .none) _ _ _
 refine zC (wpAny_updateSeq hS rfl ?_)
 have hS₂:=vF (Obj.mapSeq (λ_=>(#[]:Array Value))) hS rfl
 have oth:∀b o,b≠s.heap.objs.size->s.heap.get? b=some o->((s.heap.push {cls:= .type "list",data:= .seq #[]}).update s.heap.objs.size (Obj.mapSeq (λ_=>(#[]:Array Value)))).get? b=some o:=
  λb o hb e=>(xL _ _ (Ne.symm hb)).trans (zD _ e)
 refine zC (wpAny_letGo ?_)
 refine Xl (A:=A.in1) hh (xS lr) (xS ll) hne (hit.at λo e=>oth _ _ (xD lr) e) (hl.at λo e=>oth _ _ (xD ll) e) hn hS₂ λh' tk acc' c' hk hS' hacc=> ?_
 exact⟨rfl,hQ h' tk acc' c' (λb o hb e=>hk b o (xD (zS e)) hb (oth b o (xD (zS e)) e)) hS' hacc⟩
end
section
variable{X:Cx}{e:Expr}{te:TE}{p p1 pos pos1:Pos}
def abE(t:TE):TE:=λσ H Q=>t σ H λx H1=>∃l ys,x= .ref l/\H1 l=some (.lst ys)/\∀n,H1 n=none->Q (.ref n) (upd H1 n (.lst ys.reverse))
theorem W7(hc:X.calm=true)(he:PE X e te)(hg:Gl X "list")(hm:X.mg "list" = none)(hg1:Gl X "reversed")(hm1:X.mg "reversed" = none)
  (h1:starEach [.Call (.Name "reversed" p1) [e] [] pos1] X.env=(false,eval (.Call (.Name "reversed" p1) [e] [] pos1) X.env)::starEach [] X.env:=by rfl) (h2:starEach [e] X.env=(false,eval e X.env)::starEach [] X.env:=by rfl) (h3:starEach [] X.env=[]:=by rfl):
  PE X (.Call (.Name "list" p) [.Call (.Name "reversed" p1) [e] [] pos1] [] pos) (abE te):=by
 intro pins s σ H Q I h
 refine wpAny_Call_Name_kw (Dd I hg hm Iv ?_)
 refine PyProof.Rows.callWith_type1 ?_ h1 (by rw[h3];rfl)
 rw[h1,h3]
 show wpAny _ _ (spliced [(false,eval (.Call (.Name "reversed" p1) [e] [] pos1) X.env)]) _ _ s
 refine Calls.spliced_cons ?_
 refine wpAny_Call_Name_kw (Dd I hg1 hm1 VN ?_)
 refine PyProof.Rows.callWith_type1 ?_ h2 (by rw[h3];rfl)
 rw[h2,h3]
 show wpAny _ _ (spliced [(false,eval e X.env)]) _ _ s
 refine Calls.spliced_cons (kj (he pins s σ H _ I h) λu s1 ⟨x,H1,I1,r1,l,ys,ex,hH,q⟩=>Calls.spliced_nil ?_)
 subst ex
 obtain rfl:u=Value.ref l:=r1
 obtain⟨z,its,n,rv,hl,eo⟩:=I1.aaE hH
 have il:s1.heap.IsList l its.toArray:=⟨_,eo,rfl,n,rfl⟩
 refine call_reversed_list il (Calls.spliced_nil ?_)
 have ll:=zS eo
 have I2:Inv X pins σ H1 {s1 with heap:=s1.heap.push (revObj l ((its.toArray.size:Int) - 1))}:=I1.kept (t':=s1.toks) λb o e=>zD _ e
 have fp:=I1.Qc (zab _) (I1.hok.fresh (zab _))
 refine acY (s:={s1 with heap:=s1.heap.push (revObj l ((its.toArray.size:Int) - 1))}) (I.ok.hd hc) (xD ll) ⟨_,yB _ rfl,rfl,rfl⟩ (il.push _) ?_ λh' tk acc c kp hS it=> ?_
 ·rw[List.size_toArray,<-rv.length];exact z
 ·have I3:=I2.turned (t':=tk) (it:=s1.heap.objs.size) (h':=h') (λb o hb e=>kp b o hb e) fp.1 fp.2.1 fp.2.2.2.1 fp.2.2.2.2.1 fp.2.2.2.2.2
  have fp2:=I2.Qc (zab _) (I2.hok.fresh (zab _))
  have el:=rv.length
  have ea:acc.size=its.length:=it.1.trans (by simp)
  refine⟨.ref _,_,I3.track (o:= .lst ys.reverse) fp2 (Heap.get?_none_of_le I2.sz) ⟨by rw[List.length_reverse];exact z,acc.toList,c,Ri (by rw[List.length_reverse,Array.length_toList];lia) λj v hv=> ?_,by rw[Array.toArray_toList];exact hS⟩,rfl,q _ fp2.1⟩
  have hj:j<ys.length:=by
   have:=(List.getElem?_eq_some_iff.mp hv).1
   rw[Array.length_toList]at this
   lia
  have e1:=it.2 j v (by rw[<-Array.getElem?_toList];exact hv)
  rw[List.size_toArray,List.getElem?_toArray,<-el]at e1
  obtain⟨u,hu,ru⟩:=rv.get (zac (show ys.length - 1 - j<ys.length by lia))
  rw[e1]at hu
  cases hu
  exact⟨_,by rw[List.getElem?_reverse hj];exact zac (),ru⟩
end
end L2
namespace S
open PySem PySem.Spec PyProof.Rows L2
noncomputable def lrs(d:D)(M:Mem):Out D:=match d with
 | .ref n=>match M[n]? with
  | some (.lst [.int i])=> .ok (.ref M.length) (M++[.lst [.int i]])
  | _=> .bad
 | _=> .bad
noncomputable def ahv(mo:ME):ME:=λe M=>(mo e M).bind lrs
@[simp] theorem asb:ahv mo e M=(mo e M).bind lrs:=id rfl
theorem ahz(h:M[n]? = some (.lst [.int i])):lrs (.ref n) M= .ok (.ref M.length) (M++[.lst [.int i]]):=by simp only[lrs,h]
section
variable{X:Cx}{ct:Nat->Addr}{W:bf}{o:Expr}{mo:ME}{p0 p1 p2 p3 q0 q1 q2 q3:Pos}
theorem agr(hc:X.calm=true)(ho:SE X ct W o mo)(hl:Gl X "list")(ml:X.mg "list" = none)(hr:Gl X "reversed")(mr:X.mg "reversed" = none)(hs:Gl X "sorted")(ms:X.mg "sorted" = none)(ht:Gl X "set")(mt:X.mg "set" = none)
  (h3:starEach [] X.env=[]:=by rfl) (e0:starEach [o] X.env=(false,eval o X.env)::starEach [] X.env:=by rfl) (e1:starEach [.Call (.Name "set" p3) [o] [] q3] X.env=(false,eval (.Call (.Name "set" p3) [o] [] q3) X.env)::starEach [] X.env:=by rfl)
  (e2:starEach [.Call (.Name "sorted" p2) [.Call (.Name "set" p3) [o] [] q3] [] q2] X.env=(false,eval (.Call (.Name "sorted" p2) [.Call (.Name "set" p3) [o] [] q3] [] q2) X.env)::starEach [] X.env:=by rfl)
  (e3:starEach [.Call (.Name "reversed" p1) [.Call (.Name "sorted" p2) [.Call (.Name "set" p3) [o] [] q3] [] q2] [] q1] X.env=(false,eval (.Call (.Name "reversed" p1) [.Call (.Name "sorted" p2) [.Call (.Name "set" p3) [o] [] q3] [] q2] [] q1) X.env)::starEach [] X.env:=by rfl):
  SE X ct W (.Call (.Name "list" p0) [.Call (.Name "reversed" p1) [.Call (.Name "sorted" p2) [.Call (.Name "set" p3) [o] [] q3] [] q2] [] q1] [] q0) (ahv mo):=by
 refine fX (W7 hc (Nk (T5 hc) hs ms Q5 (DX (Jv (X8 hc) ht mt aiO (DX ho Jw e0) (by decide) (by decide) e0 (by rw[h3];rfl)) Jw e1) (by decide) (by decide) e1 (by rw[h3];rfl)) hl ml hr mr e3 e2 h3) λσ H Q q=> ?_
 obtain⟨ι,e,M,w,p⟩:=b7 (fY:=eE X.K ct) (f:=λd _ M1=>lrs d M1) q
 refine⟨ι,e,M,w,p.mono ?_⟩
 rintro v H1 ⟨cF,e1,M1,d,w1,q1,p1⟩
 dsimp only[lrs]at p1
 split at p1
 ·rename_i m
  obtain⟨hn,rfl⟩:=nC q1
  split at p1
  ·rename_i i em
   obtain⟨vs,hH,hd⟩:=w1.rl.obj m _ em
   obtain⟨u,rfl,du⟩:=O4 hd
   cases rP du
   refine⟨_,i,rfl,Ew.of hH,λa ha=>⟨a,i,rfl,aM,λb hb=>⟨b,[.int i],rfl,aM,λc hc'=> ?_⟩⟩⟩
   have x2:Ext X.K cF M1.length H1 cF M1.length (upd H1 a (U5 X a i)):=Ext.fresh ha
   have x3:Ext X.K cF M1.length (upd H1 a (U5 X a i)) cF M1.length (upd (upd H1 a (U5 X a i)) b (.lst [.int i])):=Ext.fresh hb
   exact rm ((w1.rl.fresh ha).fresh hb) (.cons (.int i) .nil) hc' (p1.ext (x2.trans x3))
  ·exact p1.elim
 ·exact p1.elim
end
end S
namespace L2
open PySem PySem.Spec PyProof.Rows
noncomputable def Itd(hi:Int)(n:Nat):It:=⟨λi _=>i<n,λi H x H'=>H'=H/\x= .int (hi - i),λi _=>n<=i⟩
theorem Uz{P:Program}{w:World}{K:Frag}{tg:Expr}(it:Addr)(lo:Int)(n:Nat):Turn P w K tg (Itd lo n) [it] it (λi h=>IsRangeIter h it (lo+(i:Nat)*(-1)) ((n:Int) - (i:Nat)) (-1)) where
 mem:=by simp
 obj:=λi h st b hb=>by
  have e:b=it:=by simpa using hb
  subst e
  exact⟨_,st,λv z=>by
   have z':Data.fields _=Data.cell v:=z
   cases z'⟩
 keep:=λi h h' st k=>k it (by simp) _ st
 item:=by
  intro X hP hw hK hc i pins s σ H E I hf st hg
  subst hP hw hK
  obtain⟨f0,f1,f2,f3,f4,f5⟩:=hf it (by simp)
  have W:=Walks.range (prog:=X.prog) (w:=X.w) (I.ok.hd hc) it lo (-1) n
  refine W.item i s _ _ hg st λv h' tk hv st' kk=> ?_
  obtain⟨t,rfl⟩:=hv
  have I1:Inv X pins σ H {s with heap:=h',toks:=tk}:=I.turned (λb o hb e=>kk b o (by simpa using hb) e) f0 f1 f3 f4 f5
  refine⟨_,rfl,Zk (s:={s with heap:=h',toks:=tk}) (n:= "range_iterator") st' rfl rfl (by decide) ⟨.int (lo - i),H,I1,⟨t,?_⟩,⟨rfl,rfl⟩,st',λb hb=>(hf b hb).1⟩⟩
  congr 1
  lia
 done:=by
  intro X hP hw hK hc i pins s σ H E I hf st hg
  subst hP hw hK
  obtain⟨f0,f1,f2,f3,f4,f5⟩:=hf it (by simp)
  exact wpAny_pyNext_range_end (I.ok.hd hc) st (by have:n<=i:=hg;lia) λh' eb=>⟨rfl,I.turned (t':=s.toks) (λb o hb e=>eb b o hb e) f0 f1 f3 f4 f5⟩
 self:=λ_ _ _ _ _ st h=>wpAny_pyIter_rangeiter st h
theorem Qp(a b:Int):Builtin.Range.rangeSize a b (-1)=if b<a then a - b else 0:=by
 unfold Builtin.Range.rangeSize
 simp only[show ¬((-1:Int) > 0) by decide,if_false,show -(-1:Int)=1 from rfl,Int.ediv_one,gt_iff_lt]
 split<;>lia
theorem small_down(ha: -(2 ^ 62)<=a)(ha':a<2 ^ 62)(hb: -(2 ^ 62)<=b)(hb':b<2 ^ 62):Builtin.Range.small a b (-1)=true:=by
 unfold Builtin.Range.small
 rw[Qp]
 simp only[Builtin.Range.rangeFitsLong,Bool.and_eq_true,Bool.or_eq_true,decide_eq_true_eq,beq_iff_eq,show ¬((-1:Int) > 0) by decide,if_false]
 split<;>lia
section
variable{X:Cx}{tg:Expr}
def anp(ta:TA):TI:=λσ H R=>ta σ H λvs H1=>∃i j:Int,vs=[.int i,.int j,.int (-1)]/\(-(2 ^ 62)<=i/\i<2 ^ 62/\ -(2 ^ 62)<=j/\j<2 ^ 62)/\R (Itd i (i - j).toNat) H1
theorem aak(hg:Gl X "range")(hm:X.mg "range" = none)(ha:PA X [a,b,c] ta)(hs:starEach [a,b,c] X.env=(false,eval a X.env)::starEach [b,c] X.env:=by rfl)(hs2:starEach [b,c] X.env=[(false,eval b X.env),(false,eval c X.env)]:=by rfl):
  PI X tg (.Call (.Name "range" p) [a,b,c] [] pos) (anp ta):=by
 intro pins s σ H R I h
 refine Call_ (Dd I hg hm boot_range (PyProof.Rows.callWith_type1 (kj (ha pos pins s σ H _ I h) λus s1 ⟨vs,H1,I1,r1,q1⟩=> ?_) hs (by rw[hs2];rfl)))
 obtain⟨lo,hi,e,⟨q1,q2,q3,q4⟩,q⟩:=q1
 subst e
 cases r1 with
 | cons r rr=>
  cases rr with
  | cons r' rr=>
   cases rr with
   | cons r'' rr=>
    cases rr
    obtain⟨t,rfl⟩:=r
    obtain⟨u,rfl⟩:=r'
    obtain⟨v,rfl⟩:=r''
    refine call_range_3 (by decide) ?_ (Or.inl (PyProof.noPylong_small ()))
    obtain⟨tk,etk⟩:∃tk,tk=s1.toks:=⟨_,rfl⟩
    refine wpAny_pyIter_range (IsRange.new ..) (small_down q1 q2 q3 q4) ?_
    have I2:Inv X pins σ H1 {s1 with heap:=s1.heap.push {cls:= .type "range",data:= .fields #[.int lo t,.int hi u,.int (-1) v]},toks:=s1.toks}:=I1.kept λb o e=>zD _ e
    refine⟨(s1.heap.push {cls:= .type "range",data:= .fields #[.int lo t,.int hi u,.int (-1) v]}).objs.size,[(s1.heap.push {cls:= .type "range",data:= .fields #[.int lo t,.int hi u,.int (-1) v]}).objs.size],_,_,H1,rfl,
     I2.kept (t':=s1.toks) λb o e=>zD _ e,Uz _ lo (lo - hi).toNat,?_,λb hb=> ?_,q⟩
    ·have e1:lo+((0:Nat):Int)*(-1)=lo:=by simp
     have e2:(((lo - hi).toNat:Nat):Int) - ((0:Nat):Int)=Builtin.Range.rangeSize lo hi (-1):=by rw[Qp];split<;>lia
     show IsRangeIter _ _ (lo+((0:Nat):Int)*(-1)) ((((lo - hi).toNat:Nat):Int) - ((0:Nat):Int)) (-1)
     rw[e1,e2]
     exact yB _ rfl
    ·have e:b=(s1.heap.push {cls:= .type "range",data:= .fields #[.int lo t,.int hi u,.int (-1) v]}).objs.size:=by simpa using hb
     subst e
     exact I2.Qc (zab _) (I2.hok.fresh (zab _))
end
end L2
namespace S
open PySem PySem.Spec PyProof.Rows L2
noncomputable def aac(hi:Int)(n:Nat):List D:=(List.range n).map λ(k:Nat)=>D.int (hi - k)
noncomputable def ab_(ds:List D)(M1:Mem):Out Itm:=match ds with
 | [.int i,.int j,.int k]=>if k= -1/\ -(2 ^ 62)<=i/\i<2 ^ 62/\ -(2 ^ 62)<=j/\j<2 ^ 62/\i - j<=2 ^ 24 then .ok ⟨none,aac i (i - j).toNat⟩ M1 else .bad
 | _=> .bad
noncomputable def acQ(ms:MA):MI:=λe M=>(ms e M).bind ab_
@[simp] theorem alE:acQ ms e M=(ms e M).bind ab_:=id rfl
section
variable{X:Cx}{ct:Nat->Addr}{W:bf}
theorem ac3{K:Frag}{ι:Nat->Addr}{M:Mem}{H:Hp}(R:Rl K ct ι M H)(lo:Int)(n i:Nat):
  (∀d,(aac lo n)[i]? = some d->(Itd lo n).go i H/\∀x H2,(Itd lo n).yld i H x H2->Ext K ι M.length H ι M.length H2/\Rl K ct ι M H2/\DV K ct ι M.length H2 d x)/\((aac lo n).length<=i->(Itd lo n).stop i H):=by
 refine⟨λd e=> ?_,λh=>(by simpa[aac]using h:n<=i)⟩
 unfold aac at e
 rw[zam]at e
 obtain⟨k,hk,rfl⟩:=Option.map_eq_some_iff.mp e
 obtain⟨hi,e2⟩:=List.getElem?_eq_some_iff.mp hk
 have hi':i<n:=by simpa using hi
 have ek:k=i:=by rw[<-e2];simp
 subst ek
 refine⟨hi',λx H2 y=> ?_⟩
 obtain⟨e3,y⟩:=y
 subst e3 y
 exact⟨.refl,R,.int _⟩
theorem Z0(hg:Gl X "range")(hm:X.mg "range" = none)(ha:SA X ct W [a,b,c] ms)(hs:starEach [a,b,c] X.env=(false,eval a X.env)::starEach [b,c] X.env:=by rfl)(hs2:starEach [b,c] X.env=[(false,eval b X.env),(false,eval c X.env)]:=by rfl):SI X ct W tg (.Call (.Name "range" p) [a,b,c] [] pos) (acQ ms):=PI.imp (aak hg hm ha hs hs2) λσ H R q=>by
 obtain⟨ι,e,M,w,p⟩:=b7 (fY:=Hh X.K ct) (f:=λds _ M1=>ab_ ds M1) q
 refine⟨ι,e,M,w,p.mono ?_⟩
 rintro v H1 ⟨cF,e1,M1,d,w1,q1,p1⟩
 dsimp only[ab_]at p1
 split at p1
 ·rename_i i j k
  split at p1
  ·rename_i hj
   cases q1 with
   | cons q2 q1=>
    obtain⟨v,v',rfl,q3,q4⟩:=adl q1
    cases rP q2
    cases rP q3
    cases rP q4
    have hz:=Xm
    obtain⟨rfl,h1,h2,h3,h4,h5⟩:=hj
    exact⟨i,j,rfl,⟨h1,h2,h3,h4⟩,p1 cF _ H1 .refl w1.rl ⟨trivial,by simp[aac];lia,λlM M2 H2 x2 r2 ok2 k=>ac3 r2 i _ k⟩⟩
  ·exact p1.elim
 ·exact p1.elim
end
theorem ajx{l:PySem.W.OpenLaw}{q:Program}{loose:List Str}{XP:(Str->Option Value)->Heap->Prop}{YP:World->Heap->Prop}{d:DefRec}{K:Params->Frag}{x:Str}{k:Nat}{ts:List Addr}(hn:l.most=some 63)(hdf:d.params.defaults=[])(hr:jT k callerA)
  (hY:∀(w:World) (h:Heap),YP w h->(K w.params).In h) (hT:∀(w:World) (h:Heap),YP w h->∀P∈ts,h.get? P=some (PySem.W.tabObj #[]))
  (F:∀(w:World) (mg:Str->Option Value) (fa:Addr) (h:Heap),(K w.params).In h->h.Ns mainGlobals mg->mg d.name=some (.ref fa)->
   ∃(fd:FuncData) (tabs:List (Addr×Addr)) (ct:Nat->Addr),(∀(s:Shared) (u:Value),BindsTo s fd ⟨[u],[]⟩ [(x,u)])/\
    (∀z∈tabs,PySem.W.codeHdIn (K w.params) z.1 z.2=true/\z.2∈ts)/\(∀z∈tabs,(K w.params).lookup z.2=none)/\(∀k',1000<=k'->ct k'≠0->∃z∈tabs,ct k'=z.2)/\
    ∀base:Heap,(K w.params).In base->base.Ns mainGlobals mg->(∀z∈tabs,PySem.W.CodeHd base z.1 z.2/\base.BuiltinsAt mg z.2)->g8 l.prog w (K w.params) mg base CX0 k fa fd [x] (adU (K w.params) ct)):
  PySem.W.WalkO q loose XP YP l.row.toRowW d [] (λf vs=>PySem.call f vs):=by
 refine Att.V1 hn hdf λw s₀ s₁ mg mb fa o pm cd doc a vs ns G Y ho hd hcd hmg hobj hints hlen hg=> ?_
 have KX:=hY w _ Y
 obtain⟨fd,tabs,ct,hb,h1,h2,h3,hF⟩:=F w mg fa _ KX G.T.g hmg
 have hT:PySem.W.TabsAt tabs s₁.heap:=λz hz=>⟨PySem.W.codeHd_of_K KX (h1 z hz).1,hT w _ Y _ (h1 z hz).2⟩
 refine aaI KX G.T.g G.T.b G.T.builtins G.T.nolimit hg hobj hints (yY hlen (by decide)) hr hT h2 (λz hz=>VL G.T (hT z hz).2) hF hb (λH hH hS=>⟨a,ns,rfl,hS,hlen,λk' hk hc=> ?_,λ_=>rfl⟩) λ_ _ _ z=>z
 obtain⟨z,hz,e⟩:=h3 k' hk hc
 exact⟨#[],by rw[e];exact hH z hz,adQ⟩
end S
set_option Elab.async false
set_option maxRecDepth 100000
set_option linter.all false
namespace My
open PySem L2 S
def Bu:MS:=
 (Gn (cL (aR sLt (aq 1) (Vr WR (az (aq 0) aJ)))) (dZ (aR jg (aq 0) (aq 1))) jf)
def e_:MS:=
 (aQ Bu
 (dZ (mC (.int 0))))
def gO:Fn:=aU 2 e_
def jw:MS:=
 (Gn (cL (aR sNe (aR U9 (aq 1) (aX [16] (aq 0) "number")) (mC (.int 0)))) (sRz 4 (az (aq 1) aJ)) jf)
def cA:MS:=
 jw
def eO:Fn:=aU 2 cA
def qG:MS:=
 (aQ (dj [8] (aq 0) (aq 1) "base")
 (aQ (dj [8] (aq 0) (aq 2) "base_term")
 (aQ (dj [8] (aq 0) (aq 3) "base_roll")
 (dj [8,9,15] (aq 0) (Vr MN (az (aq 4) aJ)) "kept"))))
def wz:Fn:=aU 5 qG
def qF:MS:=
 (dZ (wC 8 wz 5 [] (az (aX [8] (aq 0) "base") (az (aX [8] (aq 0) "base_term") (az (aX [8] (aq 0) "base_roll") (az (aX [8,9,15] (aq 0) "kept") aJ))))))
def Af:Fn:=aU 1 qF
def qT:MS:=
 (aQ (dj [9,15] (aq 0) (aq 1) "term")
 (aQ (dj [9,15] (aq 0) (aq 2) "vote")
 (aQ (dj [9,15] (aq 0) (aO 8 "twin" Af 1 [] (aq 3) aJ) "row")
 (dj [8,9,15] (aq 0) (aq 4) "kept"))))
def xx:Fn:=aU 5 qT
def mU:MS:=
 (aQ (iw (yX [] (wD (HF (aX [14] (aq 0) "amounts"))) (cL (aR sNe (aR jg (aq 0) (mC (.int 1))) (mC (.int 0)))) (aq 0)) (gN 1))
 (aQ (iw (SJ 2 [] (wD (HF (aX [14] (aq 0) "answered"))) (gT 2 (sY (gN 0) (sY (gN 1) QM))) Oc (aR vf (aq 0) (kh (az (aq 1) aJ)))) (gN 2))
 (dZ (kh (az (Vr Cm (az (aq 1) aJ)) (az (Vr Cm (az (aq 2) aJ)) aJ))))))
def rB:Fn:=aU 3 mU
def mV:MS:=
 (aQ (dj [14] (aq 0) Kp "amounts")
 (dj [14] (aq 0) Kp "answered"))
def rC:Fn:=aU 1 mV
def Rm:MS:=
 (M7 (aX [14] (aq 1) "amounts") (aq 2) (aq 3))
def Il:MS:=
 (M6 (wD (aR jg (aq 0) (mC (.int 0)))) (gT 2 (sY (gN 2) (sY (gN 3) QM))) Rm)
def Rk:MS:=
 (M7 (aX [14] (aq 1) "answered") (kh (az (aq 4) (az (aq 5) aJ))) (aq 6))
def Ik:MS:=
 (M6 (wD (aR jg (aq 0) (mC (.int 1)))) (gT 3 (sY (gN 4) (sY (gN 5) (sY (gN 6) QM)))) Rk)
def tD:MS:=
 (aQ (iw (wC 14 rC 1 [] aJ) (gN 1))
 (aQ Il
 (aQ Ik
 (dZ (aq 1)))))
def Gx:Fn:=aU 7 tD
def qP:MS:=
 (aQ (dj [13,15] (aq 0) (aq 1) "me")
 (aQ (dj [15] (aq 0) (aq 3) "note")
 (aQ (dj [9,15] (aq 0) (aX [9,15] (aq 2) "term") "term")
 (aQ (dj [9,15] (aq 0) (aX [9,15] (aq 2) "vote") "vote")
 (aQ (dj [9,15] (aq 0) (aO 8 "twin" Af 1 [] (aX [9,15] (aq 2) "row") aJ) "row")
 (aQ (dj [8,9,15] (aq 0) (aX [8,9,15] (aq 2) "kept") "kept")
 (aQ (dj [15] (aq 0) (aX [8] (aX [9,15] (aq 0) "row") "base") "settled")
 (aQ (dj [15] (aq 0) (aX [8] (aX [9,15] (aq 0) "row") "base") "done")
 (aQ (dj [15] (aq 0) (j9 Gx 1 [] (az (aX [8,9,15] (aq 2) "kept") aJ)) "shelf")
 (aQ (dj [15] (aq 0) (mC .non) "chair")
 (dj [15] (aq 0) (Ly 11) "seat")))))))))))
def C_:Fn:=aU 4 qP
def iz:MS:=
 (M7 (aX [16] (aq 0) "hands") (aq 1) (wC 15 C_ 4 [] (az (aq 1) (az (aq 2) (az (aeI 0 "noted") aJ)))))
def qb:Fn:=aU 3 iz
def yE:MS:=
 (Gn (cL (aR sEq (aq 2) (mC (.int 0)))) (sRz 4 (az (aq 2) aJ)) jf)
def tM:MS:=
 (j8 (aO 16 "bring_up" qb 3 [] (aq 0) (az (aq 5) (az (aq 4) aJ))))
def FW:MS:=
 (M6 (QC (az (aq 1) aJ)) (gN 5) tM)
def lR:MS:=
 (aQ (dj [16] (aq 0) (aq 1) "number")
 (aQ yE
 (aQ (j8 (aO 16 "refuse_strangers" eO 2 [] (aq 0) (az (aq 2) aJ)))
 (aQ (dj [16] (aq 0) (yW aJ) "letters")
 (aQ (dj [16] (aq 0) (yW aJ) "noted")
 (aQ (dj [16] (aq 0) Kp "hands")
 (aQ (dj [16] (aq 0) Kp "texts")
 (aQ (iw (wC 9 xx 5 [] (az (aq 3) (az (mC .non) (az (wC 8 wz 5 [] (az (mC (.int 0)) (az (mC (.int 0)) (az (kh (az (aq 2) (az (mC (.int 0)) aJ))) (az (yW aJ) aJ))))) (az (aO 14 "told" rB 1 [] (wC 14 rC 1 [] aJ) aJ) aJ))))) (gN 4))
 FW))))))))
def oh:Fn:=aU 6 lR
def Al:MS:=
 (Gn (cL (aR sIs (aq 2) (mC .non))) (dZ (wC 16 oh 4 [(.int 0)] (az (aq 0) (az (aq 1) aJ)))) jf)
def mR:MS:=
 (aQ Al
 (dZ (wC 16 oh 4 [] (az (aq 0) (az (aq 1) (az (aq 2) aJ))))))
def qu:Fn:=aU 3 mR
def Bt:MS:=
 (Gn (mOr (cL (Vr (Z8 (.cls 3) [(0,false),(3,true),(4,false)]) (az (aq 4) (az (mC (.cls 3)) aJ)))) (aaD (cL (Vr (Z8 (.cls 0) [(0,true),(3,true),(4,true)]) (az (aq 4) (az (mC (.cls 0)) aJ)))))) (iw (mC .non) (gN 3)) jf)
def Bj:MS:=
 (j8 (j9 qu 3 [] (az (aq 0) (az (aq 1) (az (aq 2) aJ)))))
def Bk:MS:=
 (aQ (iw (ahr [0,3,4] (aq 4)) (gN 3))
 Bt)
def Bs:MS:=
 (RD 4 [(0,false),(3,false),(4,true)] Bj Bk)
def j4:MS:=
 (aQ (iw (mC .non) (gN 3))
 (aQ Bs
 (dZ (Kq (aR sEq (aq 3) (aq 1)) (acT (Vr ab5 (az (aq 3) (az (mC (.ty "bool")) aJ))))))))
def tQ:Fn:=aU 5 j4
def qK:MS:=
 (Gn (mOr (cL (aR sLt (aq 1) (mC (.int 0)))) (cL (aR Z_ (aq 1) (aX [16] (aq 0) "number")))) RG jf)
def cW:MS:=
 qK
def jn:Fn:=aU 2 cW
def zz:MS:=
 (dZ (kh (az (aq 0) (az (aX [9,15] (aq 1) "term") (az (aX [9,15] (aq 1) "vote") (az (aX [15] (aq 1) "chair") (az (aX [15] (aq 1) "settled") (az (aX [15] (aq 1) "done") (az (aO 14 "told" rB 1 [] (aX [15] (aq 1) "shelf") aJ) aJ)))))))))
def N7:Fn:=aU 2 zz
def nj:MS:=
 (dZ (mC (.str "sits")))
def yx:Fn:=aU 1 nj
def pA:MS:=
 (dZ (mC (.str "asks")))
def Ai:Fn:=aU 1 pA
def o_:MS:=
 (dZ (mC (.str "chairs")))
def Ag:Fn:=aU 1 o_
def Fw:MS:=
 (Gn (cL (aR sIn (aq 1) (aX [16] (aq 0) "hands"))) (dZ (j9 N7 2 [] (az (Xh (aO 11 "word" yx 1 [] (aX [15] (aR jg (aX [16] (aq 0) "hands") (aq 1)) "seat") aJ) (Xh (aO 12 "word" Ai 1 [] (aX [15] (aR jg (aX [16] (aq 0) "hands") (aq 1)) "seat") aJ) (aO 13 "word" Ag 1 [] (aX [15] (aR jg (aX [16] (aq 0) "hands") (aq 1)) "seat") aJ))) (az (aR jg (aX [16] (aq 0) "hands") (aq 1)) aJ)))) jf)
def oF:MS:=
 (aQ (j8 (aO 16 "refuse_unknown" jn 2 [] (aq 0) (az (aq 1) aJ)))
 (aQ Fw
 RG))
def gY:Fn:=aU 2 oF
def lQ:MS:=
 (dZ (Vr MN (az (aX [16] (aq 0) "letters") aJ)))
def n_:Fn:=aU 1 lQ
def j6:MS:=
 (dZ (Vr MN (az (aX [16] (aq 0) "noted") aJ)))
def tR:Fn:=aU 1 j6
def lJ:MS:=
 (dZ (yX [] (wD (aX [16] (aq 0) "noted")) (cL (aR sIn (aR jg (aq 0) (mC (.int 0))) (kh (az (mC (.str "answer")) (az (mC (.str "seen")) aJ))))) (aq 0)))
def wB:Fn:=aU 1 lJ
def qQ:MS:=
 (j8 (mBM "list" G_ (aX [16] (aq 0) "letters") (az (aq 1) aJ)))
def Dc:Fn:=aU 2 qQ
def jB:MS:=
 (dZ (Vr (Z9 13 [(11,false)]) (az (aX [15] (aq 0) "seat") (az (mC (.cls 13)) aJ))))
def uO:Fn:=aU 1 jB
def o9:MS:=
 (aQ (dj [9,15] (aq 0) (aq 1) "term")
 (aQ (dj [9,15] (aq 0) (mC .non) "vote")
 (aQ (dj [15] (aq 0) (mC .non) "chair")
 (dj [15] (aq 0) (Ly 11) "seat"))))
def vh:Fn:=aU 2 o9
def pL:MS:=
 (Gn (cL (aR M5 (aq 2) (mC .non))) (j8 (Ob "noted" [16] (aq 2) (az (aq 1) aJ))) jf)
def cD:MS:=
 (aQ (iw (aX [15] (aq 0) "note") (gN 2))
 pL)
def bR:Fn:=aU 3 cD
def je:MS:=
 (aQ (dj [9,15] (aq 0) (aq 1) "vote")
 (j8 (aO 15 "tell_paper" bR 2 [] (aq 0) (az (kh (az (mC (.str "vote")) (az (aX [13,15] (aq 0) "me") (az (aX [9,15] (aq 0) "term") (az (aq 1) aJ))))) aJ))))
def oN:Fn:=aU 2 je
def vX:MS:=
 (iw (aR sOr (aq 1) (aR Ez (mC (.int 1)) (aq 2))) (gN 1))
def O1:MS:=
 (M6 (wD (aq 0)) (gN 2) vX)
def wQ:MS:=
 (aQ (iw (mC (.int 0)) (gN 1))
 (aQ O1
 (dZ (aq 1))))
def HB:Fn:=aU 3 wQ
def pB:MS:=
 (dj [12] (aq 0) (j9 HB 1 [] (az (yW (az (aq 1) aJ)) aJ)) "voters")
def vm:Fn:=aU 2 pB
def gh:MS:=
 (dZ (aR vf (aX [8] (aq 0) "base") (Vr WR (az (aX [8,9,15] (aq 0) "kept") aJ))))
def jY:Fn:=aU 1 gh
def qO:MS:=
 (dZ (Kq (aR sLt (aX [8] (aq 0) "base") (aq 1)) (aR agy (aq 1) (aO 8 "last" jY 1 [] (aq 0) aJ))))
def CZ:Fn:=aU 2 qO
def zj:MS:=
 (Gn (aaD (cL (aO 8 "keeps" CZ 2 [] (aq 0) (az (aq 1) aJ)))) RG jf)
def fH:MS:=
 (aQ zj
 (dZ (aR jg (aX [8,9,15] (aq 0) "kept") (aR abW (aR abW (aq 1) (aX [8] (aq 0) "base")) (mC (.int 1))))))
def lD:Fn:=aU 2 fH
def uP:MS:=
 (Gn (cL (aR sEq (aq 1) (aX [8] (aq 0) "base"))) (dZ (aX [8] (aq 0) "base_term")) jf)
def iW:MS:=
 (aQ uP
 (dZ (aR jg (aO 8 "entry_at" lD 2 [] (aq 0) (az (aq 1) aJ)) (mC (.int 0)))))
def ni:Fn:=aU 2 iW
def vW:MS:=
 (dZ (kh (az (aO 8 "term_at" ni 2 [] (aq 0) (az (aO 8 "last" jY 1 [] (aq 0) aJ) aJ)) (az (aO 8 "last" jY 1 [] (aq 0) aJ) aJ))))
def sW:Fn:=aU 1 vW
def qD:MS:=
 (dZ (yX [0] (QC (az (mBM "int" YM (aq 0) aJ) aJ)) (cL (aR sNe (aR aaa (aq 1) (aR Ez (mC (.int 1)) (aq 0))) (mC (.int 0)))) (aq 0)))
def Ae:Fn:=aU 1 qD
def vU:MS:=
 (dZ (aR sOr (aR jg (aq 0) (mC (.int 0))) (aR jg (aq 0) (mC (.int 1)))))
def JM:Fn:=aU 1 vU
def bK:MT:=
 (acW (cL (aR WT (aq 1) (aX [8] (aq 0) "base"))) (cL (aR sNe (aR jg (aR jg (aO 8 "entry_at" lD 2 [] (aq 0) (az (aq 1) aJ)) (mC (.int 1))) (mC (.int 0))) (mC (.str "roll")))))
def fW:MS:=
 (iw (aR abW (aq 1) (mC (.int 1))) (gN 1))
def nA:MS:=
 (Jp bK fW)
def cU:MS:=
 (aQ nA
 (dZ (aq 1)))
def cT:Fn:=aU 2 cU
def Bv:MS:=
 (Gn (cL (aR sEq (aq 2) (aX [8] (aq 0) "base"))) (dZ (aX [8] (aq 0) "base_roll")) jf)
def nq:MS:=
 (aQ (iw (aO 8 "roll_place_by" cT 2 [] (aq 0) (az (aq 1) aJ)) (gN 2))
 (aQ Bv
 (aQ (iw (aR jg (aO 8 "entry_at" lD 2 [] (aq 0) (az (aq 2) aJ)) (mC (.int 1))) (gN 3))
 (dZ (kh (az (aR jg (aq 3) (mC (.int 1))) (az (aR jg (aq 3) (mC (.int 2))) aJ)))))))
def yz:Fn:=aU 4 nq
def mW:MS:=
 (dZ (aO 8 "roll_by" yz 2 [] (aq 0) (az (aO 8 "last" jY 1 [] (aq 0) aJ) aJ)))
def qw:Fn:=aU 1 mW
def j5:MS:=
 (dZ (yX [0] (wD (j9 Ae 1 [] (az (j9 JM 1 [] (az (aO 8 "roll" qw 1 [] (aX [9,15] (aq 0) "row") aJ) aJ)) aJ))) (cL (aR sNe (aq 0) (aX [13,15] (aq 1) "me"))) (aq 0)))
def iU:Fn:=aU 1 j5
def Ds:MS:=
 (dZ (Vr WR (az (j9 Ae 1 [] (az (aq 0) aJ)) aJ)))
def N_:Fn:=aU 1 Ds
def Kw:MS:=
 (Gn (cL (aq 2)) (dZ (aR Z_ (aq 3) (j9 N_ 1 [] (az (aq 1) aJ)))) jf)
def tE:MS:=
 (aQ (iw (aR ad2 (mC (.int 2)) (j9 N_ 1 [] (az (aR aaa (aq 0) (aq 1)) aJ))) (gN 3))
 (aQ Kw
 (dZ (aR WT (aq 3) (j9 N_ 1 [] (az (aq 1) aJ))))))
def Ed:Fn:=aU 4 tE
def Vx:MS:=
 (Gn (aaD (cL (j9 Ed 3 [] (az (aq 1) (az (aR jg (aq 0) (mC (.int 0))) (az (aq 2) aJ)))))) (dZ (mC (.bl false))) jf)
def Ph:MS:=
 (aQ Vx
 (dZ (ahs (aR sEq (aR jg (aq 0) (mC (.int 1))) (mC (.int 0))) (j9 Ed 3 [] (az (aq 1) (az (aR jg (aq 0) (mC (.int 1))) (az (aq 2) aJ)))))))
def N6:Fn:=aU 3 Ph
def pq:MS:=
 (aQ (dj [13,15] (aq 0) (aq 1) "me")
 (aQ (dj [13] (aq 0) (aq 2) "start")
 (aQ (dj [13] (aq 0) (mC (.int 0)) "beat")
 (aQ (dj [13] (aq 0) Kp "beats")
 (aQ (dj [13] (aq 0) Kp "places")
 (dj [13] (aq 0) (yW aJ) "looks"))))))
def Ah:Fn:=aU 3 pq
def vV:MS:=
 (aQ (j8 (mBM "list" w6 (aX [8,9,15] (aq 0) "kept") (az (aq 1) aJ)))
 (dZ (aO 8 "last" jY 1 [] (aq 0) aJ)))
def Ef:Fn:=aU 2 vV
def gj:MS:=
 (dj [13] (aq 0) (aR vf (aX [13] (aq 0) "beat") (mC (.int 1))) "beat")
def qx:Fn:=aU 1 gj
def jA:MS:=
 (aQ (j8 (aO 13 "begin_beat" qx 1 [] (aX [15] (aq 0) "seat") aJ))
 (aQ (j8 (aO 15 "tell_paper" bR 2 [] (aq 0) (az (kh (az (mC (.str "beat")) (az (aX [9,15] (aq 0) "term") (az (aX [13] (aX [15] (aq 0) "seat") "beat") aJ)))) aJ)))
 (dZ (yX [0] (wD (aO 15 "others" iU 1 [] (aq 0) aJ)) Oc ahw))))
def uN:Fn:=aU 1 jA
def eV:MS:=
 (dZ (ahv (aR vf (yW (az (aq 1) aJ)) (Xi (aX [13] (aq 0) "places")))))
def ou:Fn:=aU 2 eV
def jm:MS:=
 (dZ (j9 HB 1 [] (az (aR vf (yW (az (aX [13,15] (aq 0) "me") aJ)) (Xj 2 [1] (aX [13] (aq 0) "places") (gT 2 (sY (gN 0) (sY (gN 1) QM))) (cL (aR Z_ (aq 1) (aq 2))) (aq 0))) aJ)))
def rF:Fn:=aU 2 jm
def wG:MS:=
 (Gn (cL (j9 N6 3 [(.bl false)] (az (aq 1) (az (aO 13 "having" rF 2 [] (aX [15] (aq 0) "seat") (az (aq 2) aJ)) aJ)))) (dZ (aq 2)) jf)
def lW:MS:=
 wG
def wM:MS:=
 (M6 (wD (aO 13 "places_known" ou 2 [] (aX [15] (aq 0) "seat") (az (aO 8 "last" jY 1 [] (aX [9,15] (aq 0) "row") aJ) aJ))) (gN 2) lW)
def jd:MS:=
 (aQ (iw (aO 8 "roll" qw 1 [] (aX [9,15] (aq 0) "row") aJ) (gN 1))
 (aQ wM
 (dZ (aX [15] (aq 0) "settled"))))
def sX:Fn:=aU 3 jd
def pQ:MS:=
 (Gn (cL (aR sEq (aO 8 "term_at" ni 2 [] (aX [9,15] (aq 0) "row") (az (aq 1) aJ)) (aX [9,15] (aq 0) "term"))) (dZ (aq 1)) jf)
def gk:MS:=
 pQ
def pX:MS:=
 (M6 (acQ (az (aO 15 "place_won" sX 1 [] (aq 0) aJ) (az (aX [15] (aq 0) "settled") (az (mUn agv (mC (.int 1))) aJ)))) (gN 1) gk)
def dH:MS:=
 (aQ pX
 (dZ (mC .non)))
def mH:Fn:=aU 2 dH
def uX:MS:=
 (Gn (cL (aR sEq (aR jg (aq 2) (mC (.int 0))) (mC (.str "ask")))) RG jf)
def kE:MS:=
 (aQ (iw (aR jg (aO 8 "entry_at" lD 2 [] (aX [9,15] (aq 0) "row") (az (aq 1) aJ)) (mC (.int 1))) (gN 2))
 (aQ uX
 (dj [15] (aq 0) (aq 1) "done")))
def u5:MS:=
 (M6 (acR (az (aR vf (aX [15] (aq 0) "done") (mC (.int 1))) (az (aR vf (aX [15] (aq 0) "settled") (mC (.int 1))) aJ))) (gN 1) kE)
def ir:MS:=
 u5
def rE:Fn:=aU 3 ir
def jc:MS:=
 (dZ (aO 8 "roll_place_by" cT 2 [] (aq 0) (az (aO 8 "last" jY 1 [] (aq 0) aJ) aJ)))
def sV:Fn:=aU 1 jc
def oA:MS:=
 (Gn (mOr (cL (aR sEq (aq 1) (mC (.int 0)))) (cL (aR WT (aO 8 "roll_place" sV 1 [] (aX [9,15] (aq 0) "row") aJ) (aX [15] (aq 0) "settled")))) (dZ (yW aJ)) jf)
def cQ:MS:=
 (aQ (iw (aR jg (aO 8 "roll" qw 1 [] (aX [9,15] (aq 0) "row") aJ) (mC (.int 1))) (gN 1))
 (aQ oA
 RG))
def jZ:Fn:=aU 2 cQ
def jr:MT:=
 (acW (cL (aR WT (Vr WR (az (aq 1) aJ)) (mC (.int 0)))) (cL ahw))
def sG:MS:=
 RG
def sE:MS:=
 (Jp jr sG)
def fK:MS:=
 (aQ (iw (aX [13] (aX [15] (aq 0) "seat") "looks") (gN 1))
 sE)
def pK:Fn:=aU 2 fK
def uQ:MS:=
 (Gn (cL (aR M5 (aq 2) (mC .non))) (aQ (dj [15] (aq 0) (aq 2) "settled")
 (aQ (j8 (aO 15 "tell_paper" bR 2 [] (aq 0) (az (kh (az (mC (.str "settle")) (az (aX [9,15] (aq 0) "term") (az (aq 2) (az (aO 13 "having" rF 2 [] (aX [15] (aq 0) "seat") (az (aq 2) aJ)) aJ))))) aJ)))
 (aQ (j8 (aO 15 "do_settled" rE 1 [] (aq 0) aJ))
 (iw (aO 15 "leave_double_roll" jZ 1 [] (aq 0) aJ) (gN 1))))) jf)
def nu:MS:=
 (aQ (iw (yW aJ) (gN 1))
 (aQ (iw (aO 15 "place_to_settle" mH 1 [] (aq 0) aJ) (gN 2))
 (aQ uQ
 (aQ (j8 (aO 15 "answer_looks" pK 1 [] (aq 0) aJ))
 (dZ (aq 1))))))
def yC:Fn:=aU 3 nu
def fJ:MS:=
 (aQ (iw (aO 8 "put" Ef 2 [] (aX [9,15] (aq 0) "row") (az (kh (az (aX [9,15] (aq 0) "term") (az (aq 1) aJ))) aJ)) (gN 2))
 (aQ (j8 (aO 15 "tell_paper" bR 2 [] (aq 0) (az (kh (az (mC (.str "write")) (az (aX [9,15] (aq 0) "term") (az (aq 2) (az (aq 1) aJ))))) aJ)))
 (aQ (iw (aO 15 "tell_all" uN 1 [] (aq 0) aJ) (gN 3))
 (dZ (aR vf (aq 3) (aO 15 "settle" yC 1 [] (aq 0) aJ))))))
def pJ:Fn:=aU 4 fJ
def ig:MS:=
 (aQ (j8 (aO 15 "tell_paper" bR 2 [] (aq 0) (az (kh (az (mC (.str "chair")) (az (aX [13,15] (aq 0) "me") (az (aX [9,15] (aq 0) "term") (az (aX [12] (aX [15] (aq 0) "seat") "voters") aJ))))) aJ)))
 (aQ (dj [15] (aq 0) (wC 13 Ah 3 [] (az (aX [13,15] (aq 0) "me") (az (aR vf (aO 8 "last" jY 1 [] (aX [9,15] (aq 0) "row") aJ) (mC (.int 1))) aJ))) "seat")
 (aQ (dj [15] (aq 0) (aX [13,15] (aq 0) "me") "chair")
 (dZ (aO 15 "put_and_tell" pJ 2 [] (aq 0) (az (kh (az (mC (.str "start")) aJ)) aJ))))))
def rD:Fn:=aU 1 ig
def oE:MS:=
 (Gn (aaD (cL (j9 N6 3 [(.bl false)] (az (aO 8 "roll" qw 1 [] (aX [9,15] (aq 0) "row") aJ) (az (aX [12] (aX [15] (aq 0) "seat") "voters") aJ))))) (dZ (yW aJ)) jf)
def d_:MS:=
 (aQ oE
 (dZ (aO 15 "take_chair" rD 1 [] (aq 0) aJ)))
def jj:Fn:=aU 1 d_
def yD:MS:=
 (Gn (cL (aO 15 "is_chair" uO 1 [] (aq 0) aJ)) RG jf)
def uK:MS:=
 (aQ yD
 (aQ (j8 (aO 15 "enter" vh 2 [] (aq 0) (az (aR vf (aX [9,15] (aq 0) "term") (mC (.int 1))) aJ)))
 (aQ (j8 (aO 15 "give_vote" oN 2 [] (aq 0) (az (aX [13,15] (aq 0) "me") aJ)))
 (aQ (dj [15] (aq 0) (wC 12 vm 2 [] (az (aX [13,15] (aq 0) "me") aJ)) "seat")
 (aQ (iw (yX [0] (wD (aO 15 "others" iU 1 [] (aq 0) aJ)) Oc (kh (az (mC (.str "please")) (az (aX [13,15] (aq 1) "me") (az (aq 0) (az (aX [9,15] (aq 1) "term") (az (aO 8 "end" sW 1 [] (aX [9,15] (aq 1) "row") aJ) aJ))))))) (gN 1))
 (dZ (aR vf (aq 1) (aO 15 "count_votes" jj 1 [] (aq 0) aJ))))))))
def xu:Fn:=aU 2 uK
def zm:MS:=
 (Gn (cL (aR sIn (aq 1) (aX [16] (aq 0) "texts"))) RG jf)
def lH:MS:=
 (aQ (j8 (aO 16 "refuse_unknown" jn 2 [] (aq 0) (az (aq 1) aJ)))
 (aQ zm
 (dZ (aR jg (aX [16] (aq 0) "hands") (aq 1)))))
def wA:Fn:=aU 2 lH
def qR:MS:=
 (j8 (aO 16 "send" Dc 2 [] (aq 0) (az (aO 15 "ring" xu 1 [] (aO 16 "hand_up" wA 2 [] (aq 0) (az (aq 1) aJ)) aJ) aJ)))
def qJ:Fn:=aU 2 qR
def Ej:MS:=
 (Gn (cL (aR WT (aR Gm (j9 gO 2 [] (az (aq 0) (az (mC (.int 1)) aJ))) (mC (.int 4))) (mC (.int 0)))) (aQ (iw (aR Gm (aR Vb (j9 gO 2 [] (az (aq 0) (az (mC (.int 1)) aJ))) (mC (.int 4))) (aR abY (mC (.int 10)) (mC (.int 40)))) (gN 3))
 (iw (aq 3) (gN 4))) jf)
def LK:MS:=
 (Gn (mOr (cL (aR sEq (aq 2) (mC (.int 0)))) (cL (aR Z_ (aq 2) (aR Ez (mC (.int 1)) (aq 1))))) (dZ (j9 tQ 3 [] (az (aq 1) (az (aq 2) (az (aq 3) aJ))))) jf)
def Zi:MS:=
 (Gn (cL (aR sNe (aO 16 "view" gY 2 [] (aq 5) (az (aq 6) aJ)) (kh (az (mC (.str "sits")) (az (aq 4) (az (mC .non) (az (mC .non) (az (mC (.int 0)) (az (mC (.int 0)) (az (kh (az (kh aJ) (az (kh aJ) aJ))) aJ)))))))))) (dZ (mC (.bl false))) jf)
def Lj:MS:=
 Zi
def Zo:MS:=
 (M6 (QC (az (aq 1) aJ)) (gN 6) Lj)
def Ti:MS:=
 (Gn (mOr (cL (aR sNe (aO 16 "road" n_ 1 [] (aq 5) aJ) (yW aJ))) (mOr (cL (aR sNe (aO 16 "papers" tR 1 [] (aq 5) aJ) (yW aJ))) (cL (aR sNe (aO 16 "answers" wB 1 [] (aq 5) aJ) (yW aJ))))) (dZ (mC (.bl false))) jf)
def Ei:MS:=
 (Gn (cL (aR sEq (aq 2) (aR Ez (mC (.int 1)) (aq 6)))) (dZ (Kq (aR sEq (mSl (aq 7) Sy (acS (mC (.int 6)))) (kh (az (mC (.str "chairs")) (az (aR vf (aq 4) (mC (.int 1))) (az (aq 6) (az (aq 6) (az (mC (.int 1)) (az (mC (.int 1)) aJ)))))))) (aR sEq (aO 16 "road" n_ 1 [] (aq 5) aJ) (yW aJ)))) jf)
def Zh:MS:=
 (Gn (acW (cL (aR sNe (aq 9) (aq 6))) (cL (aR sEq (aR aaa (aR U9 (aq 2) (aq 9)) (mC (.int 1))) (mC (.int 1))))) (j8 (mBM "list" w6 (aq 8) (az (kh (az (mC (.str "please")) (az (aq 6) (az (aq 9) (az (aR vf (aq 4) (mC (.int 1))) (az (kh (az (mC (.int 0)) (az (mC (.int 0)) aJ))) aJ)))))) aJ))) jf)
def G4:MS:=
 Zh
def Io:MS:=
 (M6 (QC (az (aq 1) aJ)) (gN 9) G4)
def HQ:MS:=
 (Gn (cL (aR sNe (aO 16 "papers" tR 1 [] (aq 5) aJ) (yW (az (kh (az (mC (.str "vote")) (az (aq 6) (az (aR vf (aq 4) (mC (.int 1))) (az (aq 6) aJ))))) aJ)))) (dZ (mC (.bl false))) jf)
def V0:MS:=
 (aQ (iw (aR vf (mC (.int 1)) (aR Gm (j9 gO 2 [] (az (aq 0) (az (mC (.int 0)) aJ))) (mC (.int 9)))) (gN 1))
 (aQ (iw (aR Gm (aR Vb (j9 gO 2 [] (az (aq 0) (az (mC (.int 0)) aJ))) (mC (.int 9))) (aR Ez (mC (.int 2)) (aq 1))) (gN 2))
 (aQ (iw (mC .non) (gN 3))
 (aQ (iw (mC (.int 0)) (gN 4))
 (aQ Ej
 (aQ LK
 (aQ (iw (j9 qu 3 [] (az (aq 1) (az (aq 2) (az (aq 3) aJ)))) (gN 5))
 (aQ Zo
 (aQ Ti
 (aQ (iw (aR Gm (j9 gO 2 [] (az (aq 0) (az (mC (.int 2)) aJ))) (aq 1)) (gN 6))
 (aQ (j8 (aO 16 "ring" qJ 2 [] (aq 5) (az (aq 6) aJ)))
 (aQ (iw (aO 16 "view" gY 2 [] (aq 5) (az (aq 6) aJ)) (gN 7))
 (aQ Ei
 (aQ (iw (yW aJ) (gN 8))
 (aQ Io
 (aQ HQ
 (dZ (Kq (aR sEq (aq 7) (kh (az (mC (.str "asks")) (az (aR vf (aq 4) (mC (.int 1))) (az (aq 6) (az (mC .non) (az (mC (.int 0)) (az (mC (.int 0)) (az (kh (az (kh aJ) (az (kh aJ) aJ))) aJ))))))))) (aR sEq (aO 16 "road" n_ 1 [] (aq 5) aJ) (aq 8))))))))))))))))))))
def afN:Fn:=aU 10 V0
def Gr(M M':Mem):Prop:=∀(i:Nat) (o:MO),M[i]? = some o->M'[i]? = some o
theorem Gr.trans{M M1 M2:Mem}(a:Gr M M1)(b:Gr M1 M2):Gr M M2:=λi o h=>b i o (a i o h)
theorem Gr.app:Gr M (M++xs):=λi o h=>by
 rw[zae (List.getElem?_eq_some_iff.mp h).1];exact h
theorem acX{M:Mem}{i:Nat}{o:MO}(h:M[i]? = some o):i<M.length:=(List.getElem?_eq_some_iff.mp h).1
theorem adC:(M++[o])[M.length]? = some o:=by simp
theorem KQ(q:D->Bool)(f:D->D)(hs:lU src M)(ht:∀d∈ds,tt (some d::ce) M= .ok (q d) M)(hf:∀d∈ds,te (some d::ce) M= .ok (f d) M):
  yF src tt te ce ds [] M= .ok (.ref M.length) (M++[.lst ((ds.filter q).map f)]):=by
 have key:∀(ds ys:List D),(∀d∈ds,tt (some d::ce) M= .ok (q d) M)->(∀d∈ds,te (some d::ce) M= .ok (f d) M)->yF src tt te ce ds ys M= .ok (.ref M.length) (M++[.lst (ys++(ds.filter q).map f)]):=by
  intro ds
  induction ds with
  | nil=>intro ys _ _;unfold yF;rw[if_pos hs];simp
  | cons d r ih=>
   intro ys h1 h2
   unfold yF
   rw[if_pos hs,h1 d xB]
   show(Out.ok _ _).bind _=_
   rw[Out.d7]
   cases z:q d with
   | false=>
    simp only[Bool.false_eq_true,if_false]
    rw[ih _ (λx hx=>h1 x (yT _ hx)) λx hx=>h2 x (yT _ hx),List.filter_cons,z]
    simp
   | true=>
    simp only[if_true]
    rw[h2 d xB]
    show(Out.ok _ _).bind _=_
    rw[Out.d7,ih _ (λx hx=>h1 x (yT _ hx)) λx hx=>h2 x (yT _ hx),List.filter_cons,z]
    simp
 have:=key ds [] ht hf
 simpa using this
noncomputable def hv(hs:List Nat):List D:=hs.map λ(h:Nat)=>D.int (h:Int)
theorem WY(n:Nat)(p:Nat->Bool)(q:D->Bool)(h:∀i,i<n->q (.int (0+(i:Int)))=p i):((yK 0 n).filter q).map (λd=>d)=hv ((List.range n).filter p):=by
 unfold yK hv
 rw[List.map_id',List.filter_map]
 have:(List.range n).filter (q∘λ(k:Nat)=>D.int (0+(k:Int)))=(List.range n).filter p:=by
  refine List.filter_congr λi hi=> ?_
  exact h i (List.mem_range.mp hi)
 rw[this]
 refine List.map_congr_left λi _=> ?_
 show D.int (0+(i:Int))=D.int (i:Int)
 rw[Int.zero_add]
theorem DN(h:0<=j/\j<=1000000/\i.natAbs<2 ^ 64):Ez (.int i) (.int j) M= .ok (.int (i*2 ^ j.toNat)) M:=by
 unfold Ez;rw[JX,if_pos (by unfold aa7;exact zag h)]
theorem Rw(h:0<=j):U9 (.int i) (.int j) M= .ok (.int (i / 2 ^ j.toNat)) M:=by
 unfold U9;rw[JX,if_pos (by unfold aqw;exact zag h)]
theorem aiY(n i:Nat):(!decide (Builtin.bitAnd (n:Int) (1*2 ^ (0+(i:Int)).toNat)=0))=n.testBit i:=by
 have e1:Builtin.bitAnd (n:Int) (1*2 ^ (0+(i:Int)).toNat)=((n &&& 2 ^ i:Nat):Int):=by
  rw[Int.zero_add,Int.toNat_natCast,HM.Lq,HM.Pg]
 rw[e1]
 have q:=HM.Yl n i
 cases z:n.testBit i with
 | true=>
  have q':=q.mpr z
  simp only[Bool.not_eq_true',decide_eq_false_iff_not]
  lia
 | false=>
  have q':¬(n &&& 2 ^ i≠0):=λr=>by rw[q.mp r]at z;cases z
  simp only[Bool.not_eq_false',decide_eq_true_eq]
  lia
theorem adY(n i:Nat):decide (Builtin.bitAnd ((n:Int) / 2 ^ (0+(i:Int)).toNat) 1=1)=n.testBit i:=by
 have e1:Builtin.bitAnd ((n:Int) / 2 ^ (0+(i:Int)).toNat) 1=((n / 2 ^ i &&& 1:Nat):Int):=by
  have:((n:Int) / 2 ^ (0+(i:Int)).toNat)=((n / 2 ^ i:Nat):Int):=by
   rw[Int.zero_add,Int.toNat_natCast]
   simp
  rw[this]
  exact HM.Pg _ 1
 rw[e1]
 have q:=HM.U4 n i
 cases z:n.testBit i with
 | true=>
  have q':=q.mpr z
  simp only[decide_eq_true_eq]
  lia
 | false=>
  have q':¬(n / 2 ^ i &&& 1=1):=λr=>by rw[q.mp r]at z;cases z
  simp only[decide_eq_false_iff_not]
  lia
noncomputable def qB(f:Int->Bool)(d:D):Bool:=match d with
 | .int j=>f j
 | _=>false
theorem aeE{lo:Int}{n:Nat}{d:D}(h:d∈yK lo n):∃i:Nat,i<n/\d= .int (lo+i):=by
 obtain⟨i,hi⟩:=List.getElem?_of_mem h
 exact⟨i,(YS hi).1,(YS hi).2⟩
theorem Ky(n:Nat)(hn:n<2 ^ 60):Ae [.int n] M= .ok (.ref M.length) (M++[.lst (hv (HM.aZ n))]):=by
 have hz:=HM.intBits_le n hn
 have e1:PJ [.int (Builtin.Int.intBits n:Nat)] M= .ok ⟨none,yK 0 (Builtin.Int.intBits n)⟩ M:=by
  have:=Hf (M:=M) (j:=(Builtin.Int.intBits n:Nat)) () ()
  simpa using this
 have e2:=KQ (src:=none) (tt:=cL (aR sNe (aR aaa (aq 1) (aR Ez (mC (.int 1)) (aq 0))) (mC (.int 0)))) (te:=aq 0) (ce:=[some (.int n)]) (M:=M) (qB λj=> !decide (Builtin.bitAnd (n:Int) (1*2 ^ j.toNat)=0)) (λd=>d) (ds:=yK 0 (Builtin.Int.intBits n)) trivial
  (λd hd=>by
   obtain⟨i,hi,rfl⟩:=aeE hd
   have:Ez (.int 1) (.int (0+(i:Int))) M= .ok (.int (1*2 ^ (0+(i:Int)).toNat)) M:=DN ⟨(),(),by decide⟩
   simp[this,qB,M8,-Int.zero_add,-Int.one_mul])
  (λd hd=>afO)
 have e3:=WY (Builtin.Int.intBits n) (λh=>n.testBit h) (qB λj=> !decide (Builtin.bitAnd (n:Int) (1*2 ^ j.toNat)=0)) (λi _=>aiY n i)
 rw[HM.Tq n hn]at e3
 rw[e3]at e2
 simp only[Ae,qD]
 simp[qW,e1,e2]
noncomputable def uH(S p:Nat)(h:Bool):Bool:=if h then decide (HM.cnt p<=2*HM.cnt (S &&& p))else decide (HM.cnt p<2*HM.cnt (S &&& p))
theorem aiZ(hp:p<2 ^ 60):S &&& p<2 ^ 60:=Nat.lt_of_le_of_lt Nat.and_le_right hp
theorem ayh:ad2 (.int 2) (.int j) M= .ok (.int (2*j)) M:=ab0 (.inl ())
section
variable{M M':Mem}{e e':Sl}{s t:MS}{c:MT}{m:ME}{d:D}{R:jR}
theorem uR(h:s e M= .next e' M')(k:t e' M'=R):aQ s t e M=R:=by rw[YH,h,abR];exact k
theorem anB(h:s e M= .ret d M'):aQ s t e M= .ret d M':=by rw[YH,h,ad0]
theorem XJ(h:m e M= .ok d M'):dZ m e M= .ret d M':=by rw[ad1,h,Ny]
theorem aeZ(h:s (slots n ds) M= .ret d M'):aU n s ds M= .ok d M':=by rw[ad6,h,ace]
end
section
variable{M L:Mem}{k n:Nat}{x o:MO}
theorem ag:(M++L)[M.length+k]? = L[k]? := by rw[zad (Nat.le_add_right _ _),Nat.add_sub_cancel_left]
theorem Ym:(M++L)[M.length]? = L[0]? := by rw[zad (zab _),Nat.sub_self]
theorem as_:(M++L).set (M.length+k) x=M++L.set k x:=by rw[List.set_append_right _ _ (Nat.le_add_right _ _),Nat.add_sub_cancel_left]
theorem as0:(M++L).set M.length x=M++L.set 0 x:=by rw[List.set_append_right _ _ (zab _),Nat.sub_self]
theorem ao(h:M[n]? = some o)(L:Mem):(M++L)[n]? = some o:=Gr.app _ _ h
theorem aso(h:n<M.length)(L:Mem):(M++L).set n x=M.set n x++L:=List.set_append_left _ _ h
end
theorem sj{a b:String}:Str.ofString a=Str.ofString b↔a=b:=by
 refine⟨λh=> ?_,λh=>by rw[h]⟩
 rw[Str.ofString_eq_toList,Str.ofString_eq_toList]at h
 have h1:a.toList.map Char.toNat=b.toList.map Char.toNat:=by simpa using h
 have h2:=(List.map_inj_right (λx y e=>Char.ext (UInt32.toNat.inj e))).mp h1
 exact String.toList_inj.mp h2
theorem sj'{a b:String}:(Str.ofString a==Str.ofString b)=(a==b):=by
 rw[Bool.eq_iff_iff,beq_iff_eq,beq_iff_eq];exact sj
noncomputable def jV(b bt:Int)(br:D)(l:Nat):MO:= .ins 8 [("base",.int b),("base_term",.int bt),("base_roll",br),("kept",.ref l)]
theorem Vc{M:Mem}{h:Nat}{b bt:Int}{br:D}{es:List D}(hh:M[h]? = some (.lst es)):wz [.ref M.length,.int b,.int bt,br,.ref h] (M++[.ins 8 []])= .ok .non (M++[jV b bt br (M.length+1),.lst es]):=by
 simp only[wz,qG]
 simp[lz,Ym,ag,as0,as_,putD,ao hh,jV,Jq (ao hh _),sj]
theorem Yw{M:Mem}{r l:Nat}{b bt:Int}{br:D}{es:List D}(R:M[r]? = some (jV b bt br l))(K:M[l]? = some (.lst es)):Af [.ref r] M= .ok (.ref M.length) (M++[jV b bt br (M.length+1),.lst es]):=by
 simp only[Af,qF]
 unfold jV at R
 simp[cO,R,List.lookup,sj',Vc K]
noncomputable def Q6(t:Int)(v:D)(r:Nat)(kd:D):MO:= .ins 9 [("term",.int t),("vote",v),("row",.ref r),("kept",kd)]
theorem aa6{M:Mem}{r l:Nat}{b bt t:Int}{br v kd:D}{es:List D}(R:M[r]? = some (jV b bt br l))(K:M[l]? = some (.lst es)):
  xx [.ref M.length,.int t,v,.ref r,kd] (M++[.ins 9 []])= .ok .non (M++[Q6 t v (M.length+1) kd,jV b bt br (M.length+2),.lst es]):=by
 have tw:=λL=>Yw (ao R L) (ao K L)
 have is:∀L,cC 8 "twin" (.ref r) (M++L)=true:=λL=>bM (ao R L) (by simp[sj])
 simp only[xx,qT]
 simp[lz,Ym,ag,as0,as_,putD,Q6,sj,is,tw]
noncomputable def nY(a b:Nat):MO:= .ins 14 [("amounts",.ref a),("answered",.ref b)]
theorem Mr{M:Mem}:rC [.ref M.length] (M++[.ins 14 []])= .ok .non (M++[nY (M.length+1) (M.length+2),.dk [],.dk []]):=by
 simp only[rC,mV]
 simp[lz,Ym,ag,as0,as_,putD,nY,sj]
theorem fgz(g:Tg)(b:MS)(e:Sl)(M:Mem):j_ none g b [] e M= .next e M:=by rw[j_,if_pos (show lU none M from trivial)]
theorem abN{M:Mem}:Gx [.tup [.tup [],.tup []]] M= .ok (.ref M.length) (M++[nY (M.length+1) (M.length+2),.dk [],.dk []]):=by
 simp only[Gx,tD,Il,Ik]
 simp[Mr,fgz]
theorem cp0{n:Nat}{tt:MT}{te:ME}{ce:Sl}{M:Mem}(h:M[n]? = some (.lst [])):yF (some (n,[])) tt te ce [] [] M= .ok (.ref M.length) (M++[.lst []]):=by
 unfold yF;rw[if_pos (show lU (some (n,[])) M from g_ h)]
theorem azI{n k:Nat}{g:Tg}{tt:MT}{te:ME}{ce:Sl}{M:Mem}(h:M[n]? = some (.lst [])):pZ (some (n,[])) g k tt te ce [] [] M= .ok (.ref M.length) (M++[.lst []]):=by
 unfold pZ;rw[if_pos (show lU (some (n,[])) M from g_ h)]
theorem Yx{M:Mem}{s a b:Nat}(h:M[s]? = some (nY a b))(ha:M[a]? = some (.dk []))(hb:M[b]? = some (.dk [])):rB [.ref s] M= .ok (.tup [.tup [],.tup []]) (M++[.lst [],.lst [],.lst [],.lst []]):=by
 unfold nY at h
 have e1:wY (.ref a) M= .ok (.ref M.length) (M++[.lst []]):=Mp ha rfl List.Pairwise.nil (by decide)
 have e2:∀L,wY (.ref b) (M++L)= .ok (.ref (M++L).length) (M++L++[.lst []]):=λL=>Mp (ao hb L) rfl List.Pairwise.nil (by decide)
 have i1:Te (.ref M.length) (M++[.lst []])= .ok ⟨some (M.length,[]),[]⟩ _:=uB Ym
 have c1:∀tt te ce,yF (some (M.length,[])) tt te ce [] [] (M++[.lst []])= .ok (.ref (M.length+1)) (M++[.lst [],.lst []]):=λtt te ce=>(cp0 Ym).trans (by simp)
 have i2:Te (.ref (M.length+2)) (M++[.lst [],.lst [],.lst []])= .ok ⟨some (M.length+2,[]),[]⟩ _:=uB ag
 have c2:∀g k tt te ce,pZ (some (M.length+2,[])) g k tt te ce [] [] (M++[.lst [],.lst [],.lst []])= .ok (.ref (M.length+3)) (M++[.lst [],.lst [],.lst [],.lst []]):=λg k tt te ce=>(azI ag).trans (by simp)
 have t1:Cm [.ref (M.length+1)] (M++[.lst [],.lst [],.lst [],.lst []])= .ok (.tup []) _:=MJ ag
 have t2:Cm [.ref (M.length+3)] (M++[.lst [],.lst [],.lst [],.lst []])= .ok (.tup []) _:=MJ ag
 simp only[rB,mU]
 simp[cO,h,ao h,List.lookup,sj',e1,e2,i1,c1,i2,c2,t1,t2]
noncomputable def cM(me:Int)(H:Nat)(t:Int)(v:D)(r:Nat)(st dn:Int)(sh:Nat)(ch:D)(seat:Nat):MO:=
 .ins 15 [("me",.int me),("note",.fn H "noted"),("term",.int t),("vote",v),("row",.ref r),("kept",.tup [.tup [],.tup []]),("settled",.int st),("done",.int dn),("shelf",.ref sh),("chair",ch),("seat",.ref seat)]
theorem aaU{M:Mem}{bk rb lb H:Nat}{me t b bt:Int}{v br:D}{es:List D}(B:M[bk]? = some (Q6 t v rb (.tup [.tup [],.tup []])))(R:M[rb]? = some (jV b bt br lb))(K:M[lb]? = some (.lst es)):
  C_ [.ref M.length,.int me,.ref bk,.fn H "noted"] (M++[.ins 15 []])= .ok .non (M++[cM me H t v (M.length+1) b b (M.length+3) .non (M.length+6),jV b bt br (M.length+2),.lst es,nY (M.length+4) (M.length+5),.dk [],.dk [],.ins 11 []]):=by
 have tw:=λL=>Yw (ao R L) (ao K L)
 have is:∀L,cC 8 "twin" (.ref rb) (M++L)=true:=λL=>bM (ao R L) (by simp[sj])
 have sf:=λL=>abN (M:=M++L)
 unfold Q6 at B
 simp only[C_,qP]
 simp[lz,cO,Ym,ag,as0,as_,putD,List.lookup,sj,sj',ao B,is,tw,sf,cM,jV]
noncomputable def pF(w:Int)(l p d x:Nat):MO:= .ins 16 [("number",.int w),("letters",.ref l),("noted",.ref p),("hands",.ref d),("texts",.ref x)]
noncomputable def y_:Nat->List (Key×D)
 | 0=>[]
 | k+1=>y_ k++[(.inl (k:Int),.ref (18+7*k))]
theorem Ze:∀k,(y_ k).length=k
 | 0=>rfl
 | k+1=>by rw[y_,List.length_append,Ze k];rfl
theorem Oi:∀{k:Nat} {j:Int},(k:Int)<=j->∀p∈y_ k,p.1≠ .inl j
 | 0,_,_,p,h=>by simp[y_]at h
 | k+1,j,hj,p,h=>by
  rw[y_,List.mem_append]at h
  rcases h with h | h
  ·exact Oi () p h
  ·rw[List.mem_singleton.mp h]
   intro z
   have:(k:Int)=j:=Sum.inl.inj z
   lia
theorem Lz:∀{k i:Nat},i<k->Ce (y_ k) (.inl (i:Int))=some (.ref (18+7*i))
 | 0,_,h=>()
 | k+1,i,h=>by
  rw[y_]
  unfold Ce
  rw[List.find?_append]
  by_cases e:i<k
  ·have:=Lz e
   unfold Ce at this
   cases z:(y_ k).find? λkv=>decide (kv.1= .inl (i:Int))with
   | none=>rw[z]at this;cases this
   | some p=>rw[z]at this;exact this
  ·obtain rfl:i=k:=()
   have:(y_ i).find? (λkv=>decide (kv.1= .inl (i:Int)))=none:=by
    rw[List.find?_eq_none]
    intro p hp
    simpa using Oi (Int.le_refl _) p hp
   rw[this]
   simp
theorem aeQ{k:Nat}:aag (y_ k) (.inl (k:Int)) (.ref (18+7*k))=y_ (k+1):=by
 unfold aag
 rw[if_neg]
 ·rfl
 ·rw[List.any_eq_true]
  rintro⟨p,hp,e⟩
  exact Oi (Int.le_refl _) p hp (of_decide_eq_true e)
structure Blk(M:Mem)(A:Nat)(i:Nat)(t S:Int):Prop where
 o:M[A]? = some (cM i 0 t .non (A+1) 0 0 (A+3) .non (A+6))
 r:M[A+1]? = some (jV 0 0 (.tup [.int S,.int 0]) (A+2))
 k:M[A+2]? = some (.lst [])
 s:M[A+3]? = some (nY (A+4) (A+5))
 a:M[A+4]? = some (.dk [])
 b:M[A+5]? = some (.dk [])
 z:M[A+6]? = some (.ins 11 [])
theorem Blk.gr{M M':Mem}{A i:Nat}{t S:Int}(B:Blk M A i t S)(g:Gr M M'):Blk M' A i t S:=⟨g _ _ B.o,g _ _ B.r,g _ _ B.k,g _ _ B.s,g _ _ B.a,g _ _ B.b,g _ _ B.z⟩
structure HS(M:Mem)(w:Nat)(S t:Int)(k:Nat):Prop where
 h:M[0]? = some (pF w 1 2 3 4)
 l:M[1]? = some (.lst [])
 p:M[2]? = some (.lst [])
 d:M[3]? = some (.dk (y_ k))
 x:M[4]? = some (.dk [])
 bk:M[15]? = some (Q6 t .non 16 (.tup [.tup [],.tup []]))
 br:M[16]? = some (jV 0 0 (.tup [.int S,.int 0]) 17)
 bl:M[17]? = some (.lst [])
 b:∀i,i<k->Blk M (18+7*i) i t S
theorem HS.gr{M M':Mem}{w k:Nat}{S t:Int}(B:HS M w S t k)(g:Gr M M'):HS M' w S t k:=⟨g _ _ B.h,g _ _ B.l,g _ _ B.p,g _ _ B.d,g _ _ B.x,g _ _ B.bk,g _ _ B.br,g _ _ B.bl,λi hi=>(B.b i hi).gr g⟩
theorem adz{M:Mem}{w k:Nat}{S t:Int}(H:HS M w S t k)(hl:M.length=18+7*k)(hk:k<9):∃M',qb [.ref 0,.int k,.ref 15] M= .ok .non M'/\HS M' w S t (k+1)/\M'.length=18+7*(k+1):=by
 have hm:=aaU (H:=0) (me:=k) H.bk H.br H.bl
 obtain⟨L,hL⟩:∃L,L=[cM k 0 t .non (M.length+1) 0 0 (M.length+3) .non (M.length+6),jV 0 0 (.tup [.int S,.int 0]) (M.length+2),.lst [],nY (M.length+4) (M.length+5),.dk [],.dk [],.ins 11 []]:=⟨_,rfl⟩
 rw[<-hL]at hm
 have e1:cO [16] "hands" (.ref 0) (M++L)= .ok (.ref 3) (M++L):=aW (ao H.h L) (by simp) rfl
 have e2:TV (M++L) (.ref 3) (.int k) (.ref M.length)=some (M.set 3 (.dk (y_ (k+1)))++L):=by
  have h3:(3:Nat)<M.length:=()
  simp only[TV,ao H.d L,toKey]
  rw[if_pos (by rw[Ze,Aj];lia),aso h3,hl,aeQ]
 have e0:aeI 0 "noted" [some (.ref 0),some (.int k),some (.ref 15)] M= .ok (.fn 0 "noted") M:=rfl
 refine⟨M.set 3 (.dk (y_ (k+1)))++L,?_,?_,?_⟩
 ·simp only[qb,iz]
  simp[e0,hm,e1,e2]
 ·have o:∀n o',n≠3->M[n]? = some o'->(M.set 3 (.dk (y_ (k+1)))++L)[n]? = some o':=λn o' hn h=>ao (by rw[zai (Ne.symm hn)];exact h) L
  refine⟨o _ _ () H.h,o _ _ () H.l,o _ _ () H.p,ao (by rw[zaj ()]) L,o _ _ () H.x,o _ _ () H.bk,o _ _ () H.br,o _ _ () H.bl,λi hi=> ?_⟩
  by_cases e:i<k
  ·have B:=H.b i e
   exact⟨o _ _ () B.o,o _ _ () B.r,o _ _ () B.k,o _ _ () B.s,o _ _ () B.a,o _ _ () B.b,o _ _ () B.z⟩
  ·obtain rfl:i=k:=()
   rw[hl]at hL
   have q:∀n,(M.set 3 (.dk (y_ (i+1)))++L)[18+7*i+n]? = L[n]? := λn=>by
    have:=ag (M:=M.set 3 (.dk (y_ (i+1)))) (L:=L) (k:=n)
    rwa [List.length_set,hl]at this
   refine⟨(q 0).trans (by rw[hL];rfl),(q 1).trans (by rw[hL];rfl),(q 2).trans (by rw[hL];rfl),(q 3).trans (by rw[hL];rfl),(q 4).trans (by rw[hL];rfl),(q 5).trans (by rw[hL];rfl),(q 6).trans (by rw[hL];rfl)⟩
 ·rw[List.length_append,List.length_set,hl,hL]
  rfl
theorem fgn{g:Tg}{b:MS}{d:D}{ds:List D}{e e1 e2:Sl}{M M2:Mem}{R:jR}(h1:g d e=some e1)(h2:b e1 M= .next e2 M2)(k:j_ none g b ds e2 M2=R):j_ none g b (d::ds) e M=R:=by
 rw[j_,if_pos (show lU none M from trivial),h1]
 simp only[h2]
 exact k
noncomputable def m18(w:Nat)(S t:Int):Mem:=[pF w 1 2 3 4,.lst [],.lst [],.dk [],.dk [],.lst [],jV 0 0 (.tup [.int S,.int 0]) 7,.lst [],nY 9 10,.dk [],.dk [],.lst [],.lst [],.lst [],.lst [],Q6 t .non 16 (.tup [.tup [],.tup []]),jV 0 0 (.tup [.int S,.int 0]) 17,.lst []]
theorem hs0{w:Nat}{S t:Int}:HS (m18 w S t) w S t 0:=⟨rfl,rfl,rfl,rfl,rfl,rfl,rfl,rfl,λi hi=>()⟩
theorem QL{w:Nat}{S t:Int}(hw:w<=9){e:Sl}(he:e=[some (.ref 0),some (.int w),some (.int S),some (.int t),some (.ref 15),none]):∀(j k:Nat) {M:Mem} {v:Option D},k+j=w->HS M w S t k->M.length=18+7*k->
  ∃M' v',j_ none (gN 5) tM ((yK 0 w).drop k) [some (.ref 0),some (.int w),some (.int S),some (.int t),some (.ref 15),v] M= .next [some (.ref 0),some (.int w),some (.int S),some (.int t),some (.ref 15),v'] M'/\HS M' w S t w
 | 0,k,M,v,hk,H,hl=>by
  obtain rfl:k=w:=()
  refine⟨M,v,?_,H⟩
  rw[List.drop_of_length_le (by simp[yK])]
  exact fgz _ _ _ _
 | j+1,k,M,v,hk,H,hl=>by
  have hlt:k<(yK 0 w).length:=by simp[yK];lia
  obtain⟨M1,e1,H1,l1⟩:=adz H hl ()
  obtain⟨M',v',e2,H2⟩:=QL hw he j (k+1) (v:=some (.int (k:Int))) () H1 l1
  refine⟨M',v',?_,H2⟩
  have eg:(yK 0 w)[k]= .int (k:Int):=by simp[yK]
  have is:cC 16 "bring_up" (.ref 0) M=true:=bM H.h (by simp[sj])
  have et:tM [some (.ref 0),some (.int w),some (.int S),some (.int t),some (.ref 15),some (.int (k:Int))] M= .next [some (.ref 0),some (.int w),some (.int S),some (.int t),some (.ref 15),some (.int (k:Int))] M1:=by
   simp only[tM]
   simp[is,e1]
  rw[List.drop_eq_getElem_cons hlt,eg]
  exact fgn rfl et e2
theorem aeX{w:Nat}{S:Int}(t:Int)(hw:w<=9)(h0:0<S)(h1:S<2 ^ w):∃M',oh [.ref 0,.int w,.int S,.int t] [.ins 16 []]= .ok .non M'/\HS M' w S t w:=by
 obtain⟨M',v',e,H⟩:=QL (S:=S) (t:=t) hw rfl w 0 (v:=none) () hs0 rfl
 refine⟨M',?_,H⟩
 have sh:U9 (.int S) (.int w) [.ins 16 [("number",.int w)]]= .ok (.int 0) [.ins 16 [("number",.int w)]]:=by
  rw[Rw (),Int.toNat_natCast,Int.ediv_eq_zero_of_lt () h1]
 have rs:eO [.ref 0,.int S] [.ins 16 [("number",.int w)]]= .ok .non [.ins 16 [("number",.int w)]]:=by
  simp only[eO,cA,jw]
  simp[cO,List.lookup,sh]
 have r1:wz [.ref 6,.int 0,.int 0,.tup [.int S,.int 0],.ref 5] [pF w 1 2 3 4,.lst [],.lst [],.dk [],.dk [],.lst [],.ins 8 []]= .ok .non [pF w 1 2 3 4,.lst [],.lst [],.dk [],.dk [],.lst [],jV 0 0 (.tup [.int S,.int 0]) 7,.lst []]:=
  Vc (M:=[pF w 1 2 3 4,.lst [],.lst [],.dk [],.dk [],.lst []]) (h:=5) (es:=[]) rfl
 have r2:rC [.ref 8] [pF w 1 2 3 4,.lst [],.lst [],.dk [],.dk [],.lst [],jV 0 0 (.tup [.int S,.int 0]) 7,.lst [],.ins 14 []]= .ok .non [pF w 1 2 3 4,.lst [],.lst [],.dk [],.dk [],.lst [],jV 0 0 (.tup [.int S,.int 0]) 7,.lst [],nY 9 10,.dk [],.dk []]:=
  Mr (M:=[pF w 1 2 3 4,.lst [],.lst [],.dk [],.dk [],.lst [],jV 0 0 (.tup [.int S,.int 0]) 7,.lst []])
 have r3:rB [.ref 8] [pF w 1 2 3 4,.lst [],.lst [],.dk [],.dk [],.lst [],jV 0 0 (.tup [.int S,.int 0]) 7,.lst [],nY 9 10,.dk [],.dk []]= .ok (.tup [.tup [],.tup []]) [pF w 1 2 3 4,.lst [],.lst [],.dk [],.dk [],.lst [],jV 0 0 (.tup [.int S,.int 0]) 7,.lst [],nY 9 10,.dk [],.dk [],.lst [],.lst [],.lst [],.lst []]:=
  Yx (a:=9) (b:=10) rfl rfl rfl
 have is3:cC 14 "told" (.ref 8) [pF w 1 2 3 4,.lst [],.lst [],.dk [],.dk [],.lst [],jV 0 0 (.tup [.int S,.int 0]) 7,.lst [],nY 9 10,.dk [],.dk []]=true:=rfl
 have r4:xx [.ref 15,.int t,.non,.ref 6,.tup [.tup [],.tup []]] [pF w 1 2 3 4,.lst [],.lst [],.dk [],.dk [],.lst [],jV 0 0 (.tup [.int S,.int 0]) 7,.lst [],nY 9 10,.dk [],.dk [],.lst [],.lst [],.lst [],.lst [],.ins 9 []]= .ok .non (m18 w S t):=
  aa6 (M:=[pF w 1 2 3 4,.lst [],.lst [],.dk [],.dk [],.lst [],jV 0 0 (.tup [.int S,.int 0]) 7,.lst [],nY 9 10,.dk [],.dk [],.lst [],.lst [],.lst [],.lst []]) (r:=6) (l:=7) rfl rfl
 have rg:PJ [.int (w:Int)] (m18 w S t)= .ok ⟨none,yK 0 w⟩ (m18 w S t):=by
  have:=Hf (M:=m18 w S t) (j:=(w:Int)) () ()
  simpa using this
 have hS:¬S=0:=()
 have is0:cC 16 "refuse_strangers" (.ref 0) [.ins 16 [("number",.int w)]]=true:=rfl
 have eh:(MO.ins 16 [("number",D.int w),("letters",D.ref 1),("noted",D.ref 2),("hands",D.ref 3),("texts",D.ref 4)])=pF w 1 2 3 4:=rfl
 rw[List.drop_zero]at e
 simp only[oh,lR,yE,FW]
 simp[lz,putD,sj,hS,is0,is3,rs,eh,r1,r2,r3,r4,rg,e]
theorem aeY{w:Nat}{S:Int}(t:Int)(h:S=0\/2 ^ w<=S):oh [.ref 0,.int w,.int S,.int t] [.ins 16 []]= .exc 4 (.int S) [.ins 16 [("number",.int w)]]:=by
 simp only[oh,lR,yE]
 by_cases hS:S=0
 ·simp[lz,putD,hS]
 ·have h1:(2:Int) ^ w<=S:=by rcases h with h | h;exact absurd h hS;exact h
  have hp:(0:Int)<2 ^ w:=Int.pow_pos (by decide)
  have hq:¬S / 2 ^ w=0:=by
   have:1<=S / 2 ^ w:=(Int.le_ediv_iff_mul_le hp).mpr ()
   lia
  have sh:U9 (.int S) (.int w) [.ins 16 [("number",.int w)]]= .ok (.int (S / 2 ^ w)) [.ins 16 [("number",.int w)]]:=by
   rw[Rw (),Int.toNat_natCast]
  have rs:eO [.ref 0,.int S] [.ins 16 [("number",.int w)]]= .exc 4 (.int S) [.ins 16 [("number",.int w)]]:=by
   simp only[eO,cA,jw]
   simp[cO,List.lookup,sh,hq]
  have is0:cC 16 "refuse_strangers" (.ref 0) [.ins 16 [("number",.int w)]]=true:=rfl
  simp[lz,putD,hS,is0,rs]
def TD(d:D)(t:Int):Prop:=(d= .non/\t=0)\/d= .int t
theorem aeF{w:Nat}{S t:Int}{d:D}(hd:TD d t)(hw:w<=9)(h0:0<S)(h1:S<2 ^ w):∃M',qu [.int w,.int S,d] []= .ok (.ref 0) M'/\HS M' w S t w:=by
 obtain⟨M',e,H⟩:=aeX t hw h0 h1
 refine⟨M',?_,H⟩
 simp only[qu,mR,Al]
 rcases hd with⟨rfl,rfl⟩ | rfl
 ·simp[e]
 ·simp[e]
theorem aeG{w:Nat}{S t:Int}{d:D}(hd:TD d t)(h:S=0\/2 ^ w<=S):qu [.int w,.int S,d] []= .exc 4 (.int S) [.ins 16 [("number",.int w)]]:=by
 have e:=aeY t h
 simp only[qu,mR,Al]
 rcases hd with⟨rfl,rfl⟩ | rfl
 ·simp[e]
 ·simp[e]
theorem W2{w:Nat}{S t:Int}{d:D}(hd:TD d t)(h:S=0\/2 ^ w<=S):tQ [.int w,.int S,d] []= .ok (.bl true) [.ins 16 [("number",.int w)]]:=by
 have e:=aeG hd h
 simp only[tQ,j4,Bs,Bj,Bk,Bt]
 simp[e,abz,List.lookup]
theorem ixD{M:Mem}{n:Nat}{kvs:List (Key×D)}{i:Int}{v:D}(h:M[n]? = some (.dk kvs))(hv:Ce kvs (.inl i)=some v):jg (.ref n) (.int i) M= .ok v M:=by
 have e:=adp (s:=i) h
 rw[hv]at e
 refine tO ((Vi ?_).trans ?_)
 ·simp only[U_,Ms,uy,h]
 ·simp only[ad4,e]
theorem inD{M:Mem}{n:Nat}{kvs:List (Key×D)}{i:Int}(h:M[n]? = some (.dk kvs)):sIn (.int i) (.ref n) M= .ok (.bl (Ce kvs (.inl i)).isSome) M:=by
 have e:=adp (s:=i) h
 refine tO ?_
 simp only[ab6,e]
 simp
def Wd(c:Nat)(s:Str)(fs:List (Str×D)):Prop:=List.lookup ("word" : Str) fs=none/\(c=11/\s= "sits" \/ c=12/\s= "asks" \/ c=13/\s= "chairs")
theorem Mg{M:Mem}{w i:Nat}(h:M[0]? = some (pF w 1 2 3 4))(hi:i<w):jn [.ref 0,.int i] M= .ok .non M:=by
 have e1:cO [16] "number" (.ref 0) M= .ok (.int w) M:=aW h (by simp) rfl
 have n1:¬(i:Int)<0:=()
 have n2:¬(w:Int)<=(i:Int):=()
 simp only[jn,cW,qK]
 simp[e1,n1,n2]
theorem Yv{M:Mem}{w i r sh a b seat c:Nat}{t st dn:Int}{v ch:D}{s:Str}{fs:List (Str×D)}(h:M[0]? = some (pF w 1 2 3 4))(hd:M[3]? = some (.dk (y_ w)))(hi:i<w)(ho:M[18+7*i]? = some (cM i 0 t v r st dn sh ch seat))
  (hs:M[sh]? = some (nY a b)) (ha:M[a]? = some (.dk [])) (hb:M[b]? = some (.dk [])) (hz:M[seat]? = some (.ins c fs)) (hw:Wd c s fs):
  gY [.ref 0,.int i] M= .ok (.tup [.str s,.int t,v,ch,.int st,.int dn,.tup [.tup [],.tup []]]) (M++[.lst [],.lst [],.lst [],.lst []]):=by
 have e0:=Mg h hi
 have e1:cO [16] "hands" (.ref 0) M= .ok (.ref 3) M:=aW h (by simp) rfl
 have e2:=ixD hd (Lz hi)
 have e3:=inD (i:=(i:Int)) hd
 rw[Lz hi]at e3
 have e4:cO [15] "seat" (.ref (18+7*i)) M= .ok (.ref seat) M:=aW ho (by simp) rfl
 have i0:cC 16 "refuse_unknown" (.ref 0) M=true:=bM h (by simp[sj])
 have is:cC 14 "told" (.ref sh) M=true:=bM hs (by simp[sj])
 have tl:=Yx hs ha hb
 have vw:N7 [.str s,.ref (18+7*i)] M= .ok (.tup [.str s,.int t,v,ch,.int st,.int dn,.tup [.tup [],.tup []]]) (M++[.lst [],.lst [],.lst [],.lst []]):=by
  unfold cM at ho
  simp only[N7,zz]
  simp[cO,ho,List.lookup,sj',is,tl]
 obtain⟨wn,hw⟩:=hw
 have wd:Xh (aO 11 "word" yx 1 [] (aX [15] (aR jg (aX [16] (aq 0) "hands") (aq 1)) "seat") aJ) (Xh (aO 12 "word" Ai 1 [] (aX [15] (aR jg (aX [16] (aq 0) "hands") (aq 1)) "seat") aJ) (aO 13 "word" Ag 1 [] (aX [15] (aR jg (aX [16] (aq 0) "hands") (aq 1)) "seat") aJ)) [some (.ref 0),some (.int i)] M= .ok (.str s) M:=by
  rcases hw with⟨rfl,rfl⟩ | ⟨rfl,rfl⟩ | ⟨rfl,rfl⟩
  all_goals simp[e1,e2,e4,cC,hz,wn,yx,nj,Ai,pA,Ag,o_]
 simp only[gY,oF,Fw]
 simp[i0,e0,e1,e3,-aeH,wd,e2,vw]
noncomputable def Q(M:Mem)(A:Nat)(h:MO)(ps ks:List D)(L:Mem):Mem:=((M.set A h).set 2 (.lst ps)).set (A+2) (.lst ks)++L
structure At(M:Mem)(w S:Nat)(t:Int)(i A:Nat):Prop where
 H:HS M w S t w
 hi:i<w
 hw:w<=9
 e:A=18+7*i
 s:S<2 ^ w
section
variable{M:Mem}{w S:Nat}{t:Int}{i A:Nat}
theorem At.B(C:At M w S t i A):Blk M A i t S:=by rw[C.e];exact C.H.b i C.hi
theorem At.lt(C:At M w S t i A):A+6<M.length:=acX C.B.z
variable{h h':MO}{ps ks ps' ks':List D}{L L':Mem}{n k:Nat}{o x:MO}
theorem ql:(Q M A h ps ks L).length=M.length+L.length:=by simp[Q]
theorem qa:Q M A h ps ks L++L'=Q M A h ps ks (L++L'):=by simp[Q]
theorem qn:(Q M A h ps ks L)[M.length+k]? = L[k]? := by
 have:=ag (M:=((M.set A h).set 2 (.lst ps)).set (A+2) (.lst ks)) (L:=L) (k:=k)
 simpa[Q]using this
theorem sn:(Q M A h ps ks L).set (M.length+k) x=Q M A h ps ks (L.set k x):=by
 have:=as_ (M:=((M.set A h).set 2 (.lst ps)).set (A+2) (.lst ks)) (L:=L) (k:=k) (x:=x)
 simpa[Q]using this
theorem At.qA(C:At M w S t i A):(Q M A h ps ks L)[A]? = some h:=by
 have:=C.lt
 have:=C.e
 refine ao ?_ L
 rw[zai (),zai (),zaj ()]
theorem At.q2(C:At M w S t i A):(Q M A h ps ks L)[2]? = some (.lst ps):=by
 have:=C.lt
 have:=C.e
 refine ao ?_ L
 rw[zai (),zaj (by simp;lia)]
theorem At.qk(C:At M w S t i A):(Q M A h ps ks L)[A+2]? = some (.lst ks):=by
 have:=C.lt
 exact ao (by rw[zaj (by simp;lia)]) L
theorem qo(h1:A≠n)(h2:2≠n)(h3:A+2≠n)(q:M[n]? = some o):(Q M A h ps ks L)[n]? = some o:=
 ao (by rw[zai h3,zai h2,zai h1];exact q) L
theorem At.sA(C:At M w S t i A):(Q M A h ps ks L).set A x=Q M A x ps ks L:=by
 have:=C.lt
 have:=C.e
 unfold Q
 rw[aso (by simp;lia),List.set_comm _ _ (by lia:A+2≠A),List.set_comm _ _ (by lia:2≠A),List.set_set]
theorem At.s2(C:At M w S t i A):(Q M A h ps ks L).set 2 (.lst ps')=Q M A h ps' ks L:=by
 have:=C.lt
 have:=C.e
 unfold Q
 rw[aso (by simp;lia),List.set_comm _ _ (by lia:A+2≠2),List.set_set]
theorem At.sk(C:At M w S t i A):(Q M A h ps ks L).set (A+2) (.lst ks')=Q M A h ps ks' L:=by
 have:=C.lt
 unfold Q
 rw[aso (by simp;lia),List.set_set]
theorem At.q0(C:At M w S t i A):(Q M A h ps ks L)[0]? = some (pF w 1 2 3 4):=by have:=C.e;exact qo () () () C.H.h
theorem At.q1(C:At M w S t i A):(Q M A h ps ks L)[1]? = some (.lst []):=by have:=C.e;exact qo () () () C.H.l
theorem At.q3(C:At M w S t i A):(Q M A h ps ks L)[3]? = some (.dk (y_ w)):=by have:=C.e;exact qo () () () C.H.d
theorem At.qr(C:At M w S t i A):(Q M A h ps ks L)[A+1]? = some (jV 0 0 (.tup [.int S,.int 0]) (A+2)):=by have:=C.e;exact qo () () () C.B.r
theorem At.qz(C:At M w S t i A):(Q M A h ps ks L)[A+6]? = some (.ins 11 []):=by have:=C.e;exact qo () () () C.B.z
theorem At.q5(C:At M w S t i A):(Q M A h ps ks L)[A+3]? = some (nY (A+4) (A+5)):=by have:=C.e;exact qo () () () C.B.s
theorem At.q6(C:At M w S t i A):(Q M A h ps ks L)[A+4]? = some (.dk []):=by have:=C.e;exact qo () () () C.B.a
theorem At.q7(C:At M w S t i A):(Q M A h ps ks L)[A+5]? = some (.dk []):=by have:=C.e;exact qo () () () C.B.b
theorem At.start(C:At M w S t i A):M=Q M A (cM i 0 t .non (A+1) 0 0 (A+3) .non (A+6)) [] [] []:=by
 unfold Q
 rw[List.append_nil]
 have f:∀{n:Nat} {o:MO},M[n]? = some o->M.set n o=M:=λ{n o} q=>by
  obtain⟨hn,e⟩:=List.getElem?_eq_some_iff.mp q
  rw[<-e]
  exact List.set_getElem_self hn
 rw[f C.B.o,f C.H.p,f C.B.k]
end
noncomputable def st1(t:Int):D:= .tup [.int t,.tup [.str "start"]]
section
variable{X:Mem}{r l:Nat}{br:D}{t:Int}
theorem Eh{ks:List D}(R:X[r]? = some (jV 0 0 br l))(K:X[l]? = some (.lst ks)):jY [.ref r] X= .ok (.int ks.length) X:=by
 unfold jV at R
 simp only[jY,gh]
 simp[cO,R,List.lookup,sj',MP K]
theorem yr{m:Str}(R:X[r]? = some (jV 0 0 br l))(h:List.lookup m [("base",D.int 0),("base_term",D.int 0),("base_roll",br),("kept",D.ref l)]=none):cC 8 m (.ref r) X=true:=bM R h
theorem azB(R:X[r]? = some (jV 0 0 br l))(K:X[l]? = some (.lst [])):sW [.ref r] X= .ok (.tup [.int 0,.int 0]) X:=by
 have e1:=Eh R K
 have e2:ni [.ref r,.int 0] X= .ok (.int 0) X:=by
  unfold jV at R
  simp only[ni,iW,uP]
  simp[cO,R,List.lookup,sj']
 simp only[sW,vW]
 simp at e1
 simp[yr (m:= "last") R rfl,yr (m:= "term_at") R rfl,e1,e2]
theorem awh(R:X[r]? = some (jV 0 0 br l)):cT [.ref r,.int 0] X= .ok (.int 0) X:=by
 have e:Mf bK fW 1 [some (.ref r),some (.int 0)] X= .next [some (.ref r),some (.int 0)] X:=by
  have ec:bK [some (.ref r),some (.int 0)] X= .ok false X:=by
   unfold jV at R
   simp only[bK]
   simp[cO,R,List.lookup]
  rw[Mf,ec]
 have ew:=Jo e (λz=>nomatch z)
 simp only[cT,cU,nA]
 simp[ew]
theorem XR(R:X[r]? = some (jV 0 0 br l))(K:X[l]? = some (.lst [st1 t])):lD [.ref r,.int 1] X= .ok (st1 t) X:=by
 have e1:=Eh R K
 have e2:CZ [.ref r,.int 1] X= .ok (.bl true) X:=by
  have i1:=yr (m:= "last") R rfl
  unfold jV at R
  simp only[CZ,qO]
  simp at e1
  simp[cO,R,List.lookup,i1,e1]
 have i2:=yr (m:= "keeps") R rfl
 have ix:jg (.ref l) (.int 0) X= .ok (st1 t) X:=ad3 K () rfl
 unfold jV at R
 simp only[lD,fH,zj]
 simp[cO,R,List.lookup,sj',i2,e2,ix]
theorem ajH(R:X[r]? = some (jV 0 0 br l))(K:X[l]? = some (.lst [st1 t])):ni [.ref r,.int 1] X= .ok (.int t) X:=by
 have e:=XR R K
 have i:=yr (m:= "entry_at") R rfl
 unfold jV at R
 simp only[ni,iW,uP]
 simp[cO,R,List.lookup,i,e,st1]
theorem awg(R:X[r]? = some (jV 0 0 br l))(K:X[l]? = some (.lst [st1 t])):cT [.ref r,.int 1] X= .ok (.int 0) X:=by
 have e1:=XR R K
 have i:=yr (m:= "entry_at") R rfl
 have e:Mf bK fW 2 [some (.ref r),some (.int 1)] X= .next [some (.ref r),some (.int 0)] X:=by
  have ec:bK [some (.ref r),some (.int 0)] X= .ok false X:=by
   unfold jV at R
   simp only[bK]
   simp[cO,R,List.lookup]
  have ed:bK [some (.ref r),some (.int 1)] X= .ok true X:=by
   unfold jV at R
   simp only[bK]
   simp[cO,R,List.lookup,i,e1,st1,sj]
  have et:fW [some (.ref r),some (.int 1)] X= .next [some (.ref r),some (.int 0)] X:=by
   simp only[fW]
   simp
  rw[Mf,ed]
  simp only[et]
  rw[Mf,ec]
 have ew:=Jo e (λz=>nomatch z)
 simp only[cT,cU,nA]
 simp[ew]
theorem akf{p:Int}(R:X[r]? = some (jV 0 0 br l))(h:cT [.ref r,.int p] X= .ok (.int 0) X):yz [.ref r,.int p] X= .ok br X:=by
 have i:=yr (m:= "roll_place_by") R rfl
 unfold jV at R
 simp only[yz,nq,Bv]
 simp[cO,R,List.lookup,sj',i,h]
theorem Lp{ks:List D}(R:X[r]? = some (jV 0 0 br l))(K:X[l]? = some (.lst ks))(hk:ks=[]\/ks=[st1 t]):qw [.ref r] X= .ok br X/\sV [.ref r] X= .ok (.int 0) X:=by
 have e1:=Eh R K
 have i1:=yr (m:= "last") R rfl
 have i2:=yr (m:= "roll_by") R rfl
 have i3:=yr (m:= "roll_place_by") R rfl
 have hp:cT [.ref r,.int ks.length] X= .ok (.int 0) X:=by
  rcases hk with rfl | rfl
  ·exact awh R
  ·exact awg R K
 have hr:=akf R hp
 exact⟨by simp only[qw,mW];simp[i1,i2,e1,hr],by simp only[sV,jc];simp[i1,i3,e1,hp]⟩
end
theorem apv{f:Str}{cs:List Nat}{ma:ME}{ms:MA}{e:Sl}{M M1 M2:Mem}{l:Nat}{nm:Str}{y:D}(h1:ma e M= .ok (.fn l nm) M1)(h2:ms e M1= .ok [y] M2):Ob f cs ma ms e M=Js f cs (.fn l nm) y M2:=by
 unfold Ob
 rw[h1,Out.d7]
 show(ms e M1).bind _=_
 rw[h2,Out.d7]
theorem agn(h:e[k]? = some (some (.fn l nm))):Gn (cL (aR M5 (aq k) (mC .non))) s t e M=s e M:=by
 have e1:aq k e M= .ok (.fn l nm) M:=by simp[aq,h]
 simp[e1]
 first
 | rfl
 | exact λq=>nomatch (show false=true from q)
section
variable{M:Mem}{w S:Nat}{t:Int}{i A:Nat}{ps ks:List D}{L:Mem}{v ch:D}{st dn tt:Int}{seat:Nat}
theorem At.paper(C:At M w S t i A)(p:D)(hl:ps.length<100):bR [.ref A,p] (Q M A (cM i 0 tt v (A+1) st dn (A+3) ch seat) ps ks L)= .ok .non (Q M A (cM i 0 tt v (A+1) st dn (A+3) ch seat) (ps++[p]) ks L):=by
 obtain⟨h,hh⟩:∃h,h=cM i 0 tt v (A+1) st dn (A+3) ch seat:=⟨_,rfl⟩
 have e1:cO [15] "note" (.ref A) (Q M A h ps ks L)= .ok (.fn 0 "noted") (Q M A h ps ks L):=by rw[hh];exact aW C.qA (by simp) rfl
 have e2:Js "noted" [16] (.fn 0 "noted") p (Q M A h ps ks L)= .ok .non (Q M A h (ps++[p]) ks L):=by
  have e3:cO [16] "noted" (.ref 0) (Q M A h ps ks L)= .ok (.ref 2) (Q M A h ps ks L):=aW C.q0 (by simp) rfl
  have e4:afo 2 p (Q M A h ps ks L)= .ok .non (Q M A h (ps++[p]) ks L):=by
   simp only[afo,C.q2]
   rw[if_pos (by rw[Aj];lia),C.s2]
  simp only[Js,if_true,e3,e4]
 rw[<-hh]
 simp only[bR,cD]
 have e6:Ob "noted" [16] (aq 2) (az (aq 1) aJ) [some (.ref A),some p,some (.fn 0 "noted")] (Q M A h ps ks L)= .ok .non (Q M A h (ps++[p]) ks L):=(apv (M1:=Q M A h ps ks L) (M2:=Q M A h ps ks L) (l:=0) (nm:= "noted") (y:=p) (by simp) (by simp)).trans e2
 have e7:pL [some (.ref A),some p,some (.fn 0 "noted")] (Q M A h ps ks L)= .next [some (.ref A),some p,some (.fn 0 "noted")] (Q M A h (ps++[p]) ks L):=by
  rw[pL,agn rfl]
  simp[e6]
 simp[e1,e7]
theorem At.is{m:Str}(C:At M w S t i A)(h:List.lookup m [("me",D.int i),("note",D.fn 0 "noted"),("term",D.int tt),("vote",v),("row",D.ref (A+1)),("kept",D.tup [.tup [],.tup []]),("settled",D.int st),("done",D.int dn),("shelf",D.ref (A+3)),("chair",ch),("seat",D.ref seat)]=none):cC 15 m (.ref A) (Q M A (cM i 0 tt v (A+1) st dn (A+3) ch seat) ps ks L)=true:=bM C.qA h
theorem At.aeB(C:At M w S t i A):uO [.ref A] (Q M A (cM i 0 tt v (A+1) st dn (A+3) ch (A+6)) ps ks L)= .ok (.bl false) (Q M A (cM i 0 tt v (A+1) st dn (A+3) ch (A+6)) ps ks L):=by
 obtain⟨h,hh⟩:∃h,h=cM i 0 tt v (A+1) st dn (A+3) ch (A+6):=⟨_,rfl⟩
 have e1:cO [15] "seat" (.ref A) (Q M A h ps ks L)= .ok (.ref (A+6)) (Q M A h ps ks L):=by rw[hh];exact aW C.qA (by simp) rfl
 have e2:Z9 13 [(11,false)] [.ref (A+6),.cls 13] (Q M A h ps ks L)= .ok (.bl false) (Q M A h ps ks L):=abZ C.qz rfl
 rw[<-hh]
 simp only[uO,jB]
 simp[e1,e2]
theorem At.enter(C:At M w S t i A)(t':Int):vh [.ref A,.int t'] (Q M A (cM i 0 tt v (A+1) st dn (A+3) ch seat) ps ks L)= .ok .non (Q M A (cM i 0 t' .non (A+1) st dn (A+3) .non (M.length+L.length)) ps ks (L++[.ins 11 []])):=by
 simp only[vh,o9]
 simp[lz,C.qA,C.sA,cM,putD,sj,qa,ql]
theorem At.anA(C:At M w S t i A)(hl:ps.length<100):oN [.ref A,.int i] (Q M A (cM i 0 tt v (A+1) st dn (A+3) ch seat) ps ks L)= .ok .non (Q M A (cM i 0 tt (.int i) (A+1) st dn (A+3) ch seat) (ps++[.tup [.str "vote",.int i,.int tt,.int i]]) ks L):=by
 have e:=C.paper (tt:=tt) (v:= .int i) (st:=st) (dn:=dn) (ch:=ch) (seat:=seat) (ks:=ks) (L:=L) (.tup [.str "vote",.int i,.int tt,.int i]) hl
 have i1:=C.is (m:= "tell_paper") (tt:=tt) (v:= .int i) (st:=st) (dn:=dn) (ch:=ch) (seat:=seat) (ps:=ps) (ks:=ks) (L:=L) rfl
 unfold cM at e i1
 simp only[oN,je]
 simp[lz,cO,C.qA,C.sA,cM,putD,List.lookup,sj,sj',i1,e]
end
theorem az2{i:Nat}:Builtin.bitOr 0 (1*2 ^ ((i:Nat):Int).toNat)=((2 ^ i:Nat):Int):=by
 rw[Int.toNat_natCast,HM.Lq]
 have:=HM.Zz 0 (2 ^ i)
 simpa using this
theorem ajU{X:Mem}{l i:Nat}(h:X[l]? = some (.lst [.int i]))(hi:i<=1000000):HB [.ref l] X= .ok (.int (2 ^ i:Nat)) X:=by
 have sh:Ez (.int 1) (.int (i:Int)) X= .ok (.int (1*2 ^ ((i:Nat):Int).toNat)) X:=DN ⟨(),(),by decide⟩
 have hs:lU (some (l,[.int (i:Int)])) X:=g_ h
 have et:vX [some (.ref l),some (.int 0),some (.int i)] X= .next [some (.ref l),some (.int (2 ^ i:Nat)),some (.int i)] X:=by
  simp only[vX]
  simp[sh,YJ,az2,-Int.toNat_natCast,-Int.one_mul]
 have ef:j_ (some (l,[.int (i:Int)])) (gN 2) vX [.int (i:Int)] [some (.ref l),some (.int 0),none] X= .next [some (.ref l),some (.int (2 ^ i:Nat)),some (.int i)] X:=by
  rw[j_,if_pos hs]
  show(match vX [some (.ref l),some (.int 0),some (.int i)] X with
   | .next e2 M2=>_ | .cont e2 M2=>_ | .brk e2 M2=>_ | .ret d M2=>_ | .exc c d e2 M2=>_ | .bad=>_)=_
  rw[et]
  show j_ _ _ _ [] _ _=_
  rw[j_,if_pos hs]
 simp only[HB,wQ,O1]
 simp[uB h,ef]
noncomputable def K_(i:Nat):MO:= .ins 12 [("voters",.int (2 ^ i:Nat))]
theorem Yj{X:Mem}{i:Nat}(hi:i<=1000000):vm [.ref X.length,.int i] (X++[.ins 12 []])= .ok .non (X++[K_ i,.lst [.int i]]):=by
 have e:=ajU (X:=X++[.ins 12 [],.lst [.int (i:Int)]]) (l:=X.length+1) (i:=i) ag hi
 simp only[vm,pB]
 simp[lz,Ym,as0,putD,e,K_]
theorem acN{X:Mem}(n:Nat)(hn:n<2 ^ 60):N_ [.int n] X= .ok (.int (HM.cnt n:Nat)) (X++[.lst (hv (HM.aZ n))]):=by
 simp only[N_,Ds]
 simp[Ky n hn,MP adC,hv,HM.cnt]
theorem abp{X:Mem}(V p:Nat)(hp:p<2 ^ 60):N6 [.tup [.int p,.int 0],.int V,.bl false] X= .ok (.bl (uH V p false)) (X++[.lst (hv (HM.aZ (V &&& p))),.lst (hv (HM.aZ p))]):=by
 have ea:Builtin.bitAnd (V:Int) (p:Int)=((V &&& p:Nat):Int):=HM.Pg V p
 have e1:Ed [.int V,.int p,.bl false] X= .ok (.bl (uH V p false)) (X++[.lst (hv (HM.aZ (V &&& p))),.lst (hv (HM.aZ p))]):=by
  simp only[Ed,tE,Kw]
  simp[ea,acN (V &&& p) (aiZ hp),ayh,acN p hp,uH]
  lia
 simp only[N6,Ph,Vx]
 cases z:uH V p false with
 | false=>
  rw[z]at e1
  simp[e1]
 | true=>
  rw[z]at e1
  simp[e1]
noncomputable def Fj(S i:Nat):List D:=((HM.aZ S).filter λh=>decide (h≠i)).map λ(h:Nat)=>D.int (h:Int)
section
variable{M:Mem}{w S:Nat}{t:Int}{i A:Nat}{ps ks:List D}{L:Mem}{v ch:D}{st dn tt:Int}{seat:Nat}
theorem At.s60(C:At M w S t i A):S<2 ^ 60:=yA C.s (Nat.pow_le_pow_right (by decide) (by have:=C.hw;lia))
theorem At.others(C:At M w S t i A)(hk:ks=[]\/ks=[st1 tt]):iU [.ref A] (Q M A (cM i 0 tt v (A+1) st dn (A+3) ch seat) ps ks L)=
  .ok (.ref (M.length+(L.length+1))) (Q M A (cM i 0 tt v (A+1) st dn (A+3) ch seat) ps ks (L++[.lst (hv (HM.aZ S)),.lst (Fj S i)])):=by
 obtain⟨h,hh⟩:∃h,h=cM i 0 tt v (A+1) st dn (A+3) ch seat:=⟨_,rfl⟩
 rw[<-hh]
 have f1:cO [9,15] "row" (.ref A) (Q M A h ps ks L)= .ok (.ref (A+1)) (Q M A h ps ks L):=by rw[hh];exact aW C.qA (by simp) rfl
 have i1:cC 8 "roll" (.ref (A+1)) (Q M A h ps ks L)=true:=yr C.qr rfl
 have rl:=(Lp (t:=tt) (X:=Q M A h ps ks L) C.qr C.qk hk).1
 have mb:JM [.tup [.int S,.int 0]] (Q M A h ps ks L)= .ok (.int S) (Q M A h ps ks L):=by
  have:Builtin.bitOr (S:Int) 0=(S:Int):=by simpa using HM.Zz S 0
  simp only[JM,vU]
  simp[YJ,this]
 have ho:=Ky (M:=Q M A h ps ks L) S C.s60
 rw[ql,qa]at ho
 obtain⟨L1,hL1⟩:∃L1,L1=L++[MO.lst (hv (HM.aZ S))]:=⟨_,rfl⟩
 rw[<-hL1]at ho
 have hx:(Q M A h ps ks L1)[M.length+L.length]? = some (.lst (hv (HM.aZ S))):=by rw[qn,hL1];simp
 have f2:cO [13,15] "me" (.ref A) (Q M A h ps ks L1)= .ok (.int i) (Q M A h ps ks L1):=by rw[hh];exact aW C.qA (by simp) rfl
 have cp:=KQ (src:=some (M.length+L.length,hv (HM.aZ S))) (tt:=cL (aR sNe (aq 0) (aX [13,15] (aq 1) "me"))) (te:=aq 0) (ce:=[some (.ref A)]) (M:=Q M A h ps ks L1) (qB λj=>decide (j≠(i:Int))) (λd=>d) (ds:=hv (HM.aZ S)) (g_ hx)
  (λd hd=>by
   obtain⟨j,hj,rfl⟩:=List.mem_map.mp hd
   simp[f2,qB])
  (λd hd=>afO)
 have eo:((hv (HM.aZ S)).filter (qB λj=>decide (j≠(i:Int)))).map (λd=>d)=Fj S i:=by
  unfold Fj hv
  rw[List.map_id',List.filter_map]
  congr 1
  refine List.filter_congr λj _=> ?_
  simp[qB]
  lia
 rw[eo,ql,qa]at cp
 simp only[iU,j5]
 simp[f1,i1,rl,mb,ho,uB hx,qW,cp]
 simp[hL1]
end
noncomputable def vp(i:Nat)(t:Int):D:= .tup [.str "vote",.int i,.int t,.int i]
noncomputable def Wa(i:Nat)(t:Int)(d:D):D:= .tup [.str "please",.int i,d,.int t,.tup [.int 0,.int 0]]
section
variable{M:Mem}{w S:Nat}{t:Int}{i A:Nat}{ps ks:List D}{L:Mem}{v ch:D}{st dn tt:Int}{seat:Nat}
theorem At.i20(C:At M w S t i A):i<=1000000:=by have:=C.hi;have:=C.hw;lia
theorem At.wn(C:At M w S t i A){n:Nat}(hz:L[n]? = some (K_ i))(hk:ks=[]\/ks=[st1 tt]):
  j9 N6 3 [(.bl false)] (az (aO 8 "roll" qw 1 [] (aX [9,15] (aq 0) "row") aJ) (az (aX [12] (aX [15] (aq 0) "seat") "voters") aJ)) [some (.ref A)] (Q M A (cM i 0 tt v (A+1) st dn (A+3) ch (M.length+n)) ps ks L)=
   .ok (.bl (uH (2 ^ i) S false)) (Q M A (cM i 0 tt v (A+1) st dn (A+3) ch (M.length+n)) ps ks (L++[.lst (hv (HM.aZ (2 ^ i &&& S))),.lst (hv (HM.aZ S))])):=by
 obtain⟨h,hh⟩:∃h,h=cM i 0 tt v (A+1) st dn (A+3) ch (M.length+n):=⟨_,rfl⟩
 rw[<-hh]
 have f1:cO [9,15] "row" (.ref A) (Q M A h ps ks L)= .ok (.ref (A+1)) (Q M A h ps ks L):=by rw[hh];exact aW C.qA (by simp) rfl
 have f2:cO [15] "seat" (.ref A) (Q M A h ps ks L)= .ok (.ref (M.length+n)) (Q M A h ps ks L):=by rw[hh];exact aW C.qA (by simp) rfl
 have f3:cO [12] "voters" (.ref (M.length+n)) (Q M A h ps ks L)= .ok (.int (2 ^ i:Nat)) (Q M A h ps ks L):=aW (qn.trans hz) (by simp) rfl
 have i1:cC 8 "roll" (.ref (A+1)) (Q M A h ps ks L)=true:=yr C.qr rfl
 have rl:=(Lp (t:=tt) (X:=Q M A h ps ks L) C.qr C.qk hk).1
 have wx:=abp (X:=Q M A h ps ks L) (2 ^ i) S C.s60
 rw[qa]at wx
 simp only[Oa,acU]
 simp[f1,i1,rl,f2,f3,-Int.natCast_pow,wx]
theorem At.azG(C:At M w S t i A){n:Nat}(hz:L[n]? = some (K_ i))(hn:uH (2 ^ i) S false=false):jj [.ref A] (Q M A (cM i 0 tt v (A+1) st dn (A+3) ch (M.length+n)) ps [] L)=
  .ok (.ref (M.length+(L.length+2))) (Q M A (cM i 0 tt v (A+1) st dn (A+3) ch (M.length+n)) ps [] (L++[.lst (hv (HM.aZ (2 ^ i &&& S))),.lst (hv (HM.aZ S)),.lst []])):=by
 have e:=C.wn (tt:=tt) (v:=v) (st:=st) (dn:=dn) (ch:=ch) (ps:=ps) (ks:=[]) hz (.inl rfl)
 rw[hn]at e
 simp only[jj,d_,oE]
 simp[-Oa,e,ql,qa]
theorem At.lets(C:At M w S t i A)(hz:L=[.ins 11 [],K_ i,.lst [.int i]]):
  yX [0] (wD (aO 15 "others" iU 1 [] (aq 0) aJ)) Oc (kh (az (mC (.str "please")) (az (aX [13,15] (aq 1) "me") (az (aq 0) (az (aX [9,15] (aq 1) "term") (az (aO 8 "end" sW 1 [] (aX [9,15] (aq 1) "row") aJ) aJ)))))) [some (.ref A),none] (Q M A (cM i 0 tt v (A+1) st dn (A+3) ch (M.length+1)) ps [] L)=
   .ok (.ref (M.length+5)) (Q M A (cM i 0 tt v (A+1) st dn (A+3) ch (M.length+1)) ps [] (L++[.lst (hv (HM.aZ S)),.lst (Fj S i),.lst ((Fj S i).map (Wa i tt))])):=by
 have ot:=C.others (v:=v) (st:=st) (dn:=dn) (ch:=ch) (seat:=M.length+1) (ps:=ps) (ks:=[]) (L:=L) (tt:=tt) (.inl rfl)
 have i1:=C.is (m:= "others") (tt:=tt) (v:=v) (st:=st) (dn:=dn) (ch:=ch) (seat:=M.length+1) (ps:=ps) (ks:=[]) (L:=L) rfl
 obtain⟨h,hh⟩:∃h,h=cM i 0 tt v (A+1) st dn (A+3) ch (M.length+1):=⟨_,rfl⟩
 rw[<-hh]at ot i1 ⊢
 obtain⟨L1,hL1⟩:∃L1,L1=L++[MO.lst (hv (HM.aZ S)),.lst (Fj S i)]:=⟨_,rfl⟩
 rw[<-hL1]at ot
 have l1:L1.length=5:=by rw[hL1,hz];rfl
 have hx:(Q M A h ps [] L1)[M.length+(L.length+1)]? = some (.lst (Fj S i)):=by rw[qn,hL1,hz];rfl
 have f1:cO [13,15] "me" (.ref A) (Q M A h ps [] L1)= .ok (.int i) (Q M A h ps [] L1):=by rw[hh];exact aW C.qA (by simp) rfl
 have f2:cO [9,15] "term" (.ref A) (Q M A h ps [] L1)= .ok (.int tt) (Q M A h ps [] L1):=by rw[hh];exact aW C.qA (by simp) rfl
 have f3:cO [9,15] "row" (.ref A) (Q M A h ps [] L1)= .ok (.ref (A+1)) (Q M A h ps [] L1):=by rw[hh];exact aW C.qA (by simp) rfl
 have i2:cC 8 "end" (.ref (A+1)) (Q M A h ps [] L1)=true:=yr C.qr rfl
 have en:=azB (X:=Q M A h ps [] L1) C.qr C.qk
 have cp:=adt (src:=some (M.length+(L.length+1),Fj S i)) (te:=kh (az (mC (.str "please")) (az (aX [13,15] (aq 1) "me") (az (aq 0) (az (aX [9,15] (aq 1) "term") (az (aO 8 "end" sW 1 [] (aX [9,15] (aq 1) "row") aJ) aJ)))))) (ce:=[some (.ref A)]) (M:=Q M A h ps [] L1) (Wa i tt) (ds:=Fj S i) (g_ hx)
  (λd hd=>by simp[f1,f2,f3,i2,en,Wa])
 rw[ql,qa,l1]at cp
 rw[acV]
 simp[i1,ot,uB hx,qW,cp]
 simp[hL1]
end
theorem adD{X:Mem}{n m:Nat}{as bs:List D}(h:X[n]? = some (.lst as))(h':X[m]? = some (.lst bs))(hl:as.length+bs.length<=16777216):vf (.ref n) (.ref m) X= .ok (.ref X.length) (X++[.lst (as++bs)]):=by
 refine tO ((Vi rfl).trans ?_)
 simp only[ad5,Ms,uy,h,h']
 rw[if_pos (by rw[Aj];exact hl)]
noncomputable def lno(i S:Nat)(t:Int):Mem:=[.ins 11 [],K_ i,.lst [.int i],.lst (hv (HM.aZ S)),.lst (Fj S i),.lst ((Fj S i).map (Wa i t)),.lst (hv (HM.aZ (2 ^ i &&& S))),.lst (hv (HM.aZ S)),.lst [],.lst ((Fj S i).map (Wa i t))]
section
variable{M:Mem}{w S:Nat}{t:Int}{i A:Nat}
noncomputable def pM(M:Mem)(i A:Nat)(t:Int):MO:=cM i 0 t (.int i) (A+1) 0 0 (A+3) .non (M.length+1)
theorem At.pre(C:At M w S t i A){R:jR}{s:MS}
  (h:aQ (iw (yX [0] (wD (aO 15 "others" iU 1 [] (aq 0) aJ)) Oc (kh (az (mC (.str "please")) (az (aX [13,15] (aq 1) "me") (az (aq 0) (az (aX [9,15] (aq 1) "term") (az (aO 8 "end" sW 1 [] (aX [9,15] (aq 1) "row") aJ) aJ))))))) (gN 1)) s [some (.ref A),none] (Q M A (pM M i A (t+1)) [vp i (t+1)] [] [.ins 11 [],K_ i,.lst [.int i]])=R):
  aQ yD (aQ (j8 (aO 15 "enter" vh 2 [] (aq 0) (az (aR vf (aX [9,15] (aq 0) "term") (mC (.int 1))) aJ)))
   (aQ (j8 (aO 15 "give_vote" oN 2 [] (aq 0) (az (aX [13,15] (aq 0) "me") aJ)))
   (aQ (dj [15] (aq 0) (wC 12 vm 2 [] (az (aX [13,15] (aq 0) "me") aJ)) "seat")
   (aQ (iw (yX [0] (wD (aO 15 "others" iU 1 [] (aq 0) aJ)) Oc (kh (az (mC (.str "please")) (az (aX [13,15] (aq 1) "me") (az (aq 0) (az (aX [9,15] (aq 1) "term") (az (aO 8 "end" sW 1 [] (aX [9,15] (aq 1) "row") aJ) aJ))))))) (gN 1)) s)))) [some (.ref A),none] M=R:=by
 have e1:=C.aeB (tt:=t) (v:= .non) (st:=0) (dn:=0) (ch:= .non) (ps:=[]) (ks:=[]) (L:=[])
 have i1:=C.is (m:= "is_chair") (tt:=t) (v:= .non) (st:=0) (dn:=0) (ch:= .non) (seat:=A+6) (ps:=[]) (ks:=[]) (L:=[]) rfl
 have i2:=C.is (m:= "enter") (tt:=t) (v:= .non) (st:=0) (dn:=0) (ch:= .non) (seat:=A+6) (ps:=[]) (ks:=[]) (L:=[]) rfl
 have e2:=C.enter (tt:=t) (v:= .non) (st:=0) (dn:=0) (ch:= .non) (seat:=A+6) (ps:=[]) (ks:=[]) (L:=[]) (t+1)
 have f2:cO [9,15] "term" (.ref A) (Q M A (cM i 0 t .non (A+1) 0 0 (A+3) .non (A+6)) [] [] [])= .ok (.int t) _:=aW C.qA (by simp) rfl
 rw[<-C.start]at e1 i1 i2 e2 f2
 have e3:=C.anA (tt:=t+1) (v:= .non) (st:=0) (dn:=0) (ch:= .non) (seat:=M.length) (ps:=[]) (ks:=[]) (L:=[.ins 11 []]) (by decide)
 have f3:cO [13,15] "me" (.ref A) (Q M A (cM i 0 (t+1) .non (A+1) 0 0 (A+3) .non M.length) [] [] [.ins 11 []])= .ok (.int i) _:=aW C.qA (by simp) rfl
 have i3:=C.is (m:= "give_vote") (tt:=t+1) (v:= .non) (st:=0) (dn:=0) (ch:= .non) (seat:=M.length) (ps:=[]) (ks:=[]) (L:=[.ins 11 []]) rfl
 have f4:cO [13,15] "me" (.ref A) (Q M A (cM i 0 (t+1) (.int i) (A+1) 0 0 (A+3) .non M.length) [vp i (t+1)] [] [.ins 11 []])= .ok (.int i) _:=aW C.qA (by simp) rfl
 have e4:=Yj (X:=Q M A (cM i 0 (t+1) (.int i) (A+1) 0 0 (A+3) .non M.length) [vp i (t+1)] [] [.ins 11 []]) C.i20
 rw[ql,qa,qa]at e4
 have e5:lz [15] "seat" (.ref (M.length+1)) (.ref A) (Q M A (cM i 0 (t+1) (.int i) (A+1) 0 0 (A+3) .non M.length) [vp i (t+1)] [] [.ins 11 [],K_ i,.lst [.int i]])=some (Q M A (pM M i A (t+1)) [vp i (t+1)] [] [.ins 11 [],K_ i,.lst [.int i]]):=by
  simp[lz,C.qA,C.sA,cM,pM,putD,sj]
 refine uR (e':=[some (.ref A),none]) (M':=M) ?_ (uR (e':=[some (.ref A),none]) (M':=Q M A (cM i 0 (t+1) .non (A+1) 0 0 (A+3) .non M.length) [] [] [.ins 11 []]) ?_ (uR (e':=[some (.ref A),none]) (M':=Q M A (cM i 0 (t+1) (.int i) (A+1) 0 0 (A+3) .non M.length) [vp i (t+1)] [] [.ins 11 []]) ?_ (uR (e':=[some (.ref A),none]) ?_ h)))
 ·simp only[yD]
  simp[i1,e1]
 ·simp at e2
  simp[i2,f2,e2]
 ·simp at e3
  simp[f3,i3,e3,vp]
 ·simp at e4
  simp only[ab7]
  simp[f4,ql,qa,e4,e5]
theorem At.agF(C:At M w S t i A)(hn:uH (2 ^ i) S false=false):xu [.ref A] M= .ok (.ref (M.length+9)) (Q M A (pM M i A (t+1)) [vp i (t+1)] [] (lno i S (t+1))):=by
 have e1:=C.lets (tt:=t+1) (v:= .int i) (st:=0) (dn:=0) (ch:= .non) (ps:=[vp i (t+1)]) rfl
 obtain⟨L1,hL1⟩:∃L1,L1=[MO.ins 11 [],K_ i,.lst [.int i]]++[MO.lst (hv (HM.aZ S)),.lst (Fj S i),.lst ((Fj S i).map (Wa i (t+1)))]:=⟨_,rfl⟩
 rw[<-hL1]at e1
 have e2:=C.azG (tt:=t+1) (v:= .int i) (st:=0) (dn:=0) (ch:= .non) (ps:=[vp i (t+1)]) (L:=L1) (n:=1) (by rw[hL1];rfl) hn
 have i2:=C.is (m:= "count_votes") (tt:=t+1) (v:= .int i) (st:=0) (dn:=0) (ch:= .non) (seat:=M.length+1) (ps:=[vp i (t+1)]) (ks:=[]) (L:=L1) rfl
 obtain⟨L2,hL2⟩:∃L2,L2=L1++[MO.lst (hv (HM.aZ (2 ^ i &&& S))),.lst (hv (HM.aZ S)),.lst []]:=⟨_,rfl⟩
 rw[<-hL2]at e2
 have l1:L1.length=6:=by rw[hL1];rfl
 have l2:L2.length=9:=by rw[hL2,hL1];rfl
 rw[l1]at e2
 have x1:(Q M A (pM M i A (t+1)) [vp i (t+1)] [] L2)[M.length+5]? = some (.lst ((Fj S i).map (Wa i (t+1)))):=by rw[qn,hL2,hL1];rfl
 have x2:(Q M A (pM M i A (t+1)) [vp i (t+1)] [] L2)[M.length+8]? = some (.lst []):=by rw[qn,hL2,hL1];rfl
 have lo:(Fj S i).length<=60:=by
  unfold Fj
  rw[zan]
  exact yY (List.length_filter_le _ _) (by unfold HM.aZ;exact yY (List.length_filter_le _ _) (by simp))
 have ad:vf (.ref (M.length+5)) (.ref (M.length+8)) (Q M A (pM M i A (t+1)) [vp i (t+1)] [] L2)= .ok (.ref (M.length+9)) (Q M A (pM M i A (t+1)) [vp i (t+1)] [] (lno i S (t+1))):=by
  rw[adD x1 x2 (by simp;lia),ql,l2,qa,hL2,hL1,List.append_nil]
  rfl
 refine aeZ (C.pre (uR (e':=[some (.ref A),some (.ref (M.length+5))]) (M':=Q M A (pM M i A (t+1)) [vp i (t+1)] [] L1) ?_ (XJ ?_)))
 ·rw[YQ]
  unfold pM
  rw[e1]
  simp
 ·unfold pM at ad ⊢
  simp[i2,e2,ad]
end
noncomputable def yG(i:Nat)(b:Int)(x y z:Nat):MO:= .ins 13 [("me",.int i),("start",.int 1),("beat",.int b),("beats",.ref x),("places",.ref y),("looks",.ref z)]
structure Ch(M L:Mem)(c i:Nat)(b:Int):Prop where
 o:L[c]? = some (yG i b (M.length+(c+1)) (M.length+(c+2)) (M.length+(c+3)))
 p:L[c+2]? = some (.dk [])
 l:L[c+3]? = some (.lst [])
theorem Ch.app{M L X:Mem}{c i:Nat}{b:Int}(h:Ch M L c i b):Ch M (L++X) c i b:=⟨Gr.app _ _ h.o,Gr.app _ _ h.p,Gr.app _ _ h.l⟩
theorem X7{X:Mem}{i:Nat}:Ah [.ref X.length,.int i,.int 1] (X++[.ins 13 []])= .ok .non (X++[yG i 0 (X.length+1) (X.length+2) (X.length+3),.dk [],.dk [],.lst []]):=by
 simp only[Ah,pq]
 simp[lz,Ym,as0,putD,sj,yG]
section
variable{M:Mem}{h:MO}{ps ks:List D}{L:Mem}{A c i:Nat}{b:Int}
theorem Ch.at(C:Ch M L c i b):(Q M A h ps ks L)[M.length+c]? = some (yG i b (M.length+(c+1)) (M.length+(c+2)) (M.length+(c+3))):=qn.trans C.o
theorem Ch.having(C:Ch M L c i b)(hi:i<=1000000)(p:Int):rF [.ref (M.length+c),.int p] (Q M A h ps ks L)= .ok (.int (2 ^ i:Nat)) (Q M A h ps ks (L++[.lst [.int i],.lst [],.lst [.int i]])):=by
 have f1:cO [13,15] "me" (.ref (M.length+c)) (Q M A h ps ks L)= .ok (.int i) (Q M A h ps ks L):=aW C.at (by simp) rfl
 obtain⟨L1,hL1⟩:∃L1,L1=L++[MO.lst [D.int (i:Int)]]:=⟨_,rfl⟩
 have C1:Ch M L1 c i b:=by rw[hL1];exact C.app
 have f2:cO [13] "places" (.ref (M.length+c)) (Q M A h ps ks L1)= .ok (.ref (M.length+(c+2))) (Q M A h ps ks L1):=aW C1.at (by simp) rfl
 have ck:=λg tt te e=>aaZ (m:=2) (js:=[1]) (g:=g) (tt:=tt) (te:=te) (e:=e) (M:=Q M A h ps ks L1) (n:=M.length+(c+2)) (kvs:=[]) (qn.trans C1.p) (λ_=>true) (λd=>d) (by simp)
 obtain⟨L2,hL2⟩:∃L2,L2=L1++[MO.lst []]:=⟨_,rfl⟩
 simp only[List.map_nil,List.filter_nil,ql,qa,<-hL2]at ck
 have l1:L1.length=L.length+1:=by rw[hL1];simp
 have l2:L2.length=L.length+2:=by rw[hL2,hL1];simp
 have x1:(Q M A h ps ks L2)[M.length+L.length]? = some (.lst [.int (i:Int)]):=by rw[qn,hL2,hL1];simp
 have x2:(Q M A h ps ks L2)[M.length+L1.length]? = some (.lst []):=by rw[qn,hL2];simp
 have ad:=adD x1 x2 (by simp)
 rw[ql,l2,qa,List.append_nil]at ad
 have s1:=ajU (X:=Q M A h ps ks (L2++[.lst [.int (i:Int)]])) (l:=M.length+(L.length+2)) (i:=i) (by rw[qn,<-l2];simp) hi
 simp only[rF,jm]
 simp[f1,ql,qa,<-hL1,f2,ck,ad,s1,-Int.natCast_pow]
 simp[hL2,hL1]
theorem Ch.known(C:Ch M L c i b):ou [.ref (M.length+c),.int 1] (Q M A h ps ks L)= .ok (.ref (M.length+(L.length+3))) (Q M A h ps ks (L++[.lst [.int 1],.lst [],.lst [.int 1],.lst [.int 1]])):=by
 obtain⟨L1,hL1⟩:∃L1,L1=L++[MO.lst [D.int 1]]:=⟨_,rfl⟩
 have C1:Ch M L1 c i b:=by rw[hL1];exact C.app
 have f2:cO [13] "places" (.ref (M.length+c)) (Q M A h ps ks L1)= .ok (.ref (M.length+(c+2))) (Q M A h ps ks L1):=aW C1.at (by simp) rfl
 have lv:QD (.ref (M.length+(c+2))) (Q M A h ps ks L1)= .ok (.ref (M.length+L1.length)) (Q M A h ps ks (L1++[.lst []])):=by
  have e:(Q M A h ps ks L1)[M.length+(c+2)]? = some (.dk []):=qn.trans C1.p
  simp only[QD,e,ql,qa]
  rfl
 obtain⟨L2,hL2⟩:∃L2,L2=L1++[MO.lst []]:=⟨_,rfl⟩
 rw[<-hL2]at lv
 have l1:L1.length=L.length+1:=by rw[hL1];simp
 have l2:L2.length=L.length+2:=by rw[hL2,hL1];simp
 have x1:(Q M A h ps ks L2)[M.length+L.length]? = some (.lst [.int 1]):=by rw[qn,hL2,hL1];simp
 have x2:(Q M A h ps ks L2)[M.length+L1.length]? = some (.lst []):=by rw[qn,hL2];simp
 have ad:=adD x1 x2 (by simp)
 rw[ql,l2,qa,List.append_nil]at ad
 have lr:=ahz (M:=Q M A h ps ks (L2++[.lst [.int 1]])) (n:=M.length+(L.length+2)) (i:=1) (by rw[qn,<-l2];simp)
 rw[ql,qa]at lr
 simp only[ou,eV]
 simp[ql,qa,<-hL1,f2,lv,ad,lr]
 simp[hL2,hL1]
end
theorem fgr{src:Option (Nat×List D)}{g:Tg}{b:MS}{d x:D}{ds:List D}{e e1:Sl}{M M2:Mem}(hs:lU src M)(h1:g d e=some e1)(h2:b e1 M= .ret x M2):j_ src g b (d::ds) e M= .ret x M2:=by
 rw[j_,if_pos hs,h1]
 simp only[h2]
section
variable{M:Mem}{w S:Nat}{t:Int}{i A c:Nat}{ps:List D}{L:Mem}{b T st dn:Int}
noncomputable def pR(M:Mem)(i A c:Nat)(T st dn:Int):MO:=cM i 0 T (.int i) (A+1) st dn (A+3) (.int i) (M.length+c)
theorem At.cis{m:Str}{ks:List D}(C:At M w S t i A)(h:List.lookup m [("me",D.int i),("note",D.fn 0 "noted"),("term",D.int T),("vote",D.int i),("row",D.ref (A+1)),("kept",D.tup [.tup [],.tup []]),("settled",D.int st),("done",D.int dn),("shelf",D.ref (A+3)),("chair",D.int i),("seat",D.ref (M.length+c))]=none):cC 15 m (.ref A) (Q M A (pR M i A c T st dn) ps ks L)=true:=bM C.qA h
theorem At.won(C:At M w S t i A)(K:Ch M L c i b)(hw:uH (2 ^ i) S false=true):∃X,sX [.ref A] (Q M A (pR M i A c T st dn) ps [st1 T] L)= .ok (.int 1) (Q M A (pR M i A c T st dn) ps [st1 T] (L++X)):=by
 obtain⟨h,hh⟩:∃h,h=pR M i A c T st dn:=⟨_,rfl⟩
 have fr:∀L,cO [9,15] "row" (.ref A) (Q M A h ps [st1 T] L)= .ok (.ref (A+1)) (Q M A h ps [st1 T] L):=λL=>by rw[hh];exact aW C.qA (by simp) rfl
 have fs:∀L,cO [15] "seat" (.ref A) (Q M A h ps [st1 T] L)= .ok (.ref (M.length+c)) (Q M A h ps [st1 T] L):=λL=>by rw[hh];exact aW C.qA (by simp) rfl
 rw[<-hh]
 have i1:cC 8 "roll" (.ref (A+1)) (Q M A h ps [st1 T] L)=true:=yr C.qr rfl
 have i2:cC 8 "last" (.ref (A+1)) (Q M A h ps [st1 T] L)=true:=yr C.qr rfl
 have rl:=(Lp (t:=T) (X:=Q M A h ps [st1 T] L) C.qr C.qk (.inr rfl)).1
 have la:=Eh (X:=Q M A h ps [st1 T] L) C.qr C.qk
 simp at la
 have kn:=K.known (A:=A) (h:=h) (ps:=ps) (ks:=[st1 T])
 have i3:cC 13 "places_known" (.ref (M.length+c)) (Q M A h ps [st1 T] L)=true:=bM K.at rfl
 obtain⟨L4,hL4⟩:∃L4,L4=L++[MO.lst [.int 1],.lst [],.lst [.int 1],.lst [.int 1]]:=⟨_,rfl⟩
 rw[<-hL4]at kn
 have K4:Ch M L4 c i b:=by rw[hL4];exact K.app
 have x4:(Q M A h ps [st1 T] L4)[M.length+(L.length+3)]? = some (.lst [.int 1]):=by rw[qn,hL4];simp
 have hv1:=K4.having (A:=A) (h:=h) (ps:=ps) (ks:=[st1 T]) C.i20 1
 have i4:cC 13 "having" (.ref (M.length+c)) (Q M A h ps [st1 T] L4)=true:=bM K4.at rfl
 obtain⟨L5,hL5⟩:∃L5,L5=L4++[MO.lst [.int (i:Int)],.lst [],.lst [.int (i:Int)]]:=⟨_,rfl⟩
 rw[<-hL5]at hv1
 have wx:=abp (X:=Q M A h ps [st1 T] L5) (2 ^ i) S C.s60
 rw[qa,hw]at wx
 have et:lW [some (.ref A),some (.tup [.int S,.int 0]),some (.int 1)] (Q M A h ps [st1 T] L4)= .ret (.int 1) (Q M A h ps [st1 T] (L5++[.lst (hv (HM.aZ (2 ^ i &&& S))),.lst (hv (HM.aZ S))])):=by
  simp only[lW,wG]
  simp[fs,i4,hv1,-Int.natCast_pow,wx]
 have ef:j_ (some (M.length+(L.length+3),[.int 1])) (gN 2) lW [.int 1] [some (.ref A),some (.tup [.int S,.int 0]),none] (Q M A h ps [st1 T] L4)=_:=fgr (g_ x4) rfl et
 refine⟨[.lst [.int 1],.lst [],.lst [.int 1],.lst [.int 1],.lst [.int (i:Int)],.lst [],.lst [.int (i:Int)],.lst (hv (HM.aZ (2 ^ i &&& S))),.lst (hv (HM.aZ S))],?_⟩
 simp only[sX,jd,wM]
 simp[fr,i1,rl,fs,i2,la,i3,kn,uB x4,ef]
 simp[hL5,hL4]
theorem At.ajE(C:At M w S t i A)(K:Ch M L c i b)(hw:uH (2 ^ i) S false=true):∃X,mH [.ref A] (Q M A (pR M i A c T 0 dn) ps [st1 T] L)= .ok (.int 1) (Q M A (pR M i A c T 0 dn) ps [st1 T] (L++X)):=by
 obtain⟨X,e⟩:=C.won (T:=T) (st:=0) (dn:=dn) (ps:=ps) K hw
 have i1:=C.cis (m:= "place_won") (T:=T) (st:=0) (dn:=dn) (c:=c) (ps:=ps) (ks:=[st1 T]) (L:=L) rfl
 obtain⟨h,hh⟩:∃h,h=pR M i A c T 0 dn:=⟨_,rfl⟩
 obtain⟨L1,hL1⟩:∃L1,L1=L++X:=⟨_,rfl⟩
 have f1:cO [15] "settled" (.ref A) (Q M A h ps [st1 T] L1)= .ok (.int 0) (Q M A h ps [st1 T] L1):=by rw[hh];exact aW C.qA (by simp) rfl
 have f2:cO [9,15] "row" (.ref A) (Q M A h ps [st1 T] L1)= .ok (.ref (A+1)) (Q M A h ps [st1 T] L1):=by rw[hh];exact aW C.qA (by simp) rfl
 have f3:cO [9,15] "term" (.ref A) (Q M A h ps [st1 T] L1)= .ok (.int T) (Q M A h ps [st1 T] L1):=by rw[hh];exact aW C.qA (by simp) rfl
 rw[<-hh,<-hL1]at e
 rw[<-hh]at i1
 rw[<-hh]
 have i2:cC 8 "term_at" (.ref (A+1)) (Q M A h ps [st1 T] L1)=true:=yr C.qr rfl
 have tm:=ajH (X:=Q M A h ps [st1 T] L1) C.qr C.qk
 have rg:ab_ [.int 1,.int 0,.int (-1)] (Q M A h ps [st1 T] L1)= .ok ⟨none,[.int 1]⟩ (Q M A h ps [st1 T] L1):=rfl
 have et:gk [some (.ref A),some (.int 1)] (Q M A h ps [st1 T] L1)= .ret (.int 1) (Q M A h ps [st1 T] L1):=by
  simp only[gk,pQ]
  simp[f2,i2,tm,f3]
 have ef:j_ none (gN 1) gk [.int 1] [some (.ref A),none] (Q M A h ps [st1 T] L1)=_:=fgr trivial rfl et
 refine⟨X,?_⟩
 rw[<-hL1]
 simp only[mH,dH,pX]
 simp[i1,e,f1,rg,ef]
theorem At.dos(C:At M w S t i A):rE [.ref A] (Q M A (pR M i A c T 1 0) ps [st1 T] L)= .ok .non (Q M A (pR M i A c T 1 1) ps [st1 T] L):=by
 obtain⟨h,hh⟩:∃h,h=pR M i A c T 1 0:=⟨_,rfl⟩
 have f1:cO [15] "settled" (.ref A) (Q M A h ps [st1 T] L)= .ok (.int 1) (Q M A h ps [st1 T] L):=by rw[hh];exact aW C.qA (by simp) rfl
 have f2:cO [9,15] "row" (.ref A) (Q M A h ps [st1 T] L)= .ok (.ref (A+1)) (Q M A h ps [st1 T] L):=by rw[hh];exact aW C.qA (by simp) rfl
 have f3:cO [15] "done" (.ref A) (Q M A h ps [st1 T] L)= .ok (.int 0) (Q M A h ps [st1 T] L):=by rw[hh];exact aW C.qA (by simp) rfl
 have p1:lz [15] "done" (.int 1) (.ref A) (Q M A h ps [st1 T] L)=some (Q M A (pR M i A c T 1 1) ps [st1 T] L):=by
  rw[hh]
  simp[lz,C.qA,C.sA,cM,pR,putD,sj]
 have i2:cC 8 "entry_at" (.ref (A+1)) (Q M A h ps [st1 T] L)=true:=yr C.qr rfl
 have en:=XR (X:=Q M A h ps [st1 T] L) C.qr C.qk
 have rg:acd [.int 1,.int 2] (Q M A h ps [st1 T] L)= .ok ⟨none,[.int 1]⟩ (Q M A h ps [st1 T] L):=rfl
 rw[<-hh]
 have et:kE [some (.ref A),some (.int 1),none] (Q M A h ps [st1 T] L)= .next [some (.ref A),some (.int 1),some (.tup [.str "start"])] (Q M A (pR M i A c T 1 1) ps [st1 T] L):=by
  simp only[kE,uX]
  have sx:∀X,jg (st1 T) (.int 1) X= .ok (.tup [.str "start"]) X:=λX=>by simp[st1]
  simp[f2,i2,en,sx,sj,p1]
 have ef:j_ none (gN 1) kE [.int 1] [some (.ref A),none,none] (Q M A h ps [st1 T] L)=_:=fgn rfl et (fgz _ _ _ _)
 simp only[rE,ir,u5]
 simp[f1,f3,rg,ef]
theorem At.leave(C:At M w S t i A):jZ [.ref A] (Q M A (pR M i A c T st dn) ps [st1 T] L)= .ok (.ref (M.length+L.length)) (Q M A (pR M i A c T st dn) ps [st1 T] (L++[.lst []])):=by
 obtain⟨h,hh⟩:∃h,h=pR M i A c T st dn:=⟨_,rfl⟩
 have f2:cO [9,15] "row" (.ref A) (Q M A h ps [st1 T] L)= .ok (.ref (A+1)) (Q M A h ps [st1 T] L):=by rw[hh];exact aW C.qA (by simp) rfl
 have i1:cC 8 "roll" (.ref (A+1)) (Q M A h ps [st1 T] L)=true:=yr C.qr rfl
 have rl:=(Lp (t:=T) (X:=Q M A h ps [st1 T] L) C.qr C.qk (.inr rfl)).1
 rw[<-hh]
 simp only[jZ,cQ,oA]
 simp[f2,i1,rl,ql,qa]
theorem At.looks(C:At M w S t i A)(K:Ch M L c i b):pK [.ref A] (Q M A (pR M i A c T st dn) ps [st1 T] L)= .ok .non (Q M A (pR M i A c T st dn) ps [st1 T] L):=by
 obtain⟨h,hh⟩:∃h,h=pR M i A c T st dn:=⟨_,rfl⟩
 have f1:cO [15] "seat" (.ref A) (Q M A h ps [st1 T] L)= .ok (.ref (M.length+c)) (Q M A h ps [st1 T] L):=by rw[hh];exact aW C.qA (by simp) rfl
 have f2:cO [13] "looks" (.ref (M.length+c)) (Q M A h ps [st1 T] L)= .ok (.ref (M.length+(c+3))) (Q M A h ps [st1 T] L):=aW K.at (by simp) rfl
 rw[<-hh]
 have ln:=MP (M:=Q M A h ps [st1 T] L) (qn.trans K.l)
 have e:Mf jr sG 1 [some (.ref A),some (.ref (M.length+(c+3)))] (Q M A h ps [st1 T] L)= .next [some (.ref A),some (.ref (M.length+(c+3)))] (Q M A h ps [st1 T] L):=by
  have ec:jr [some (.ref A),some (.ref (M.length+(c+3)))] (Q M A h ps [st1 T] L)= .ok false (Q M A h ps [st1 T] L):=by
   simp only[jr]
   simp[ln]
  rw[Mf,ec]
 have ew:=Jo e (λz=>nomatch z)
 simp only[pK,fK,sE]
 simp[f1,f2,ew]
noncomputable def Gk(i:Nat)(T:Int):D:= .tup [.str "settle",.int T,.int 1,.int (2 ^ i:Nat)]
theorem At.settle(C:At M w S t i A)(K:Ch M L c i b)(hw:uH (2 ^ i) S false=true)(hl:ps.length<50):∃X n,yC [.ref A] (Q M A (pR M i A c T 0 0) ps [st1 T] L)= .ok (.ref (M.length+n)) (Q M A (pR M i A c T 1 1) (ps++[Gk i T]) [st1 T] (L++X))/\(L++X)[n]? = some (.lst []):=by
 obtain⟨L0,hL0⟩:∃L0,L0=L++[MO.lst []]:=⟨_,rfl⟩
 have K0:Ch M L0 c i b:=by rw[hL0];exact K.app
 obtain⟨X,e1⟩:=C.ajE (T:=T) (dn:=0) (ps:=ps) K0 hw
 have i1:=C.cis (m:= "place_to_settle") (T:=T) (st:=0) (dn:=0) (c:=c) (ps:=ps) (ks:=[st1 T]) (L:=L0) rfl
 obtain⟨L1,hL1⟩:∃L1,L1=L0++X:=⟨_,rfl⟩
 rw[<-hL1]at e1
 have K1:Ch M L1 c i b:=by rw[hL1];exact K0.app
 have p1:lz [15] "settled" (.int 1) (.ref A) (Q M A (pR M i A c T 0 0) ps [st1 T] L1)=some (Q M A (pR M i A c T 1 0) ps [st1 T] L1):=by
  simp[lz,C.qA,C.sA,cM,pR,putD,sj]
 have f1:cO [9,15] "term" (.ref A) (Q M A (pR M i A c T 1 0) ps [st1 T] L1)= .ok (.int T) _:=aW C.qA (by simp) rfl
 have f2:cO [15] "seat" (.ref A) (Q M A (pR M i A c T 1 0) ps [st1 T] L1)= .ok (.ref (M.length+c)) _:=aW C.qA (by simp) rfl
 have i2:cC 13 "having" (.ref (M.length+c)) (Q M A (pR M i A c T 1 0) ps [st1 T] L1)=true:=bM K1.at rfl
 have hv1:=K1.having (A:=A) (h:=pR M i A c T 1 0) (ps:=ps) (ks:=[st1 T]) C.i20 1
 obtain⟨L2,hL2⟩:∃L2,L2=L1++[MO.lst [.int (i:Int)],.lst [],.lst [.int (i:Int)]]:=⟨_,rfl⟩
 rw[<-hL2]at hv1
 have K2:Ch M L2 c i b:=by rw[hL2];exact K1.app
 have i3:=C.cis (m:= "tell_paper") (T:=T) (st:=1) (dn:=0) (c:=c) (ps:=ps) (ks:=[st1 T]) (L:=L1) rfl
 have e3:=C.paper (tt:=T) (v:= .int i) (st:=1) (dn:=0) (ch:= .int i) (seat:=M.length+c) (ps:=ps) (ks:=[st1 T]) (L:=L2) (Gk i T) ()
 have i4:=C.cis (m:= "do_settled") (T:=T) (st:=1) (dn:=0) (c:=c) (ps:=ps++[Gk i T]) (ks:=[st1 T]) (L:=L2) rfl
 have e4:=C.dos (T:=T) (c:=c) (ps:=ps++[Gk i T]) (L:=L2)
 have i5:=C.cis (m:= "leave_double_roll") (T:=T) (st:=1) (dn:=1) (c:=c) (ps:=ps++[Gk i T]) (ks:=[st1 T]) (L:=L2) rfl
 have e5:=C.leave (T:=T) (st:=1) (dn:=1) (c:=c) (ps:=ps++[Gk i T]) (L:=L2)
 obtain⟨L3,hL3⟩:∃L3,L3=L2++[MO.lst []]:=⟨_,rfl⟩
 rw[<-hL3]at e5
 have K3:Ch M L3 c i b:=by rw[hL3];exact K2.app
 have i6:=C.cis (m:= "answer_looks") (T:=T) (st:=1) (dn:=1) (c:=c) (ps:=ps++[Gk i T]) (ks:=[st1 T]) (L:=L3) rfl
 have e6:=C.looks (T:=T) (st:=1) (dn:=1) (ps:=ps++[Gk i T]) K3
 have e7:uQ [some (.ref A),some (.ref (M.length+L.length)),some (.int 1)] (Q M A (pR M i A c T 0 0) ps [st1 T] L1)= .next [some (.ref A),some (.ref (M.length+L2.length)),some (.int 1)] (Q M A (pR M i A c T 1 1) (ps++[Gk i T]) [st1 T] L3):=by
  have e3':bR [.ref A,Gk i T] (Q M A (pR M i A c T 1 0) ps [st1 T] L2)= .ok .non (Q M A (pR M i A c T 1 0) (ps++[Gk i T]) [st1 T] L2):=e3
  have es:Gk i T= .tup [.str "settle",.int T,.int 1,.int ((2 ^ i:Nat):Int)]:=rfl
  simp only[uQ]
  simp[p1,f1,f2,i2,hv1,i3,-Int.natCast_pow,<-es,e3',i4,e4,i5,e5]
 refine⟨[.lst []]++X++[.lst [.int (i:Int)],.lst [],.lst [.int (i:Int)]]++[.lst []],L2.length,?_,?_⟩
 ·have el:L++([MO.lst []]++X++[.lst [.int (i:Int)],.lst [],.lst [.int (i:Int)]]++[.lst []])=L3:=by rw[hL3,hL2,hL1,hL0];simp
  rw[el]
  simp only[yC,nu]
  simp[ql,qa,<-hL0,i1,e1,e7,i6,e6]
 ·have el:L++([MO.lst []]++X++[.lst [.int (i:Int)],.lst [],.lst [.int (i:Int)]]++[.lst []])=L3:=by rw[hL3,hL2,hL1,hL0];simp
  rw[el,hL3]
  simp
theorem Ch.beat(K:Ch M L c i b){h:MO}{ks:List D}:qx [.ref (M.length+c)] (Q M A h ps ks L)= .ok .non (Q M A h ps ks (L.set c (yG i (b+1) (M.length+(c+1)) (M.length+(c+2)) (M.length+(c+3))))):=by
 have e:=K.at (A:=A) (h:=h) (ps:=ps) (ks:=ks)
 unfold yG at e
 simp only[qx,gj]
 simp[cO,lz,e,List.lookup,sj',sj,putD,sn,yG]
theorem Ch.nxt(K:Ch M L c i b):Ch M (L.set c (yG i (b+1) (M.length+(c+1)) (M.length+(c+2)) (M.length+(c+3)))) c i (b+1):=
 ⟨zaj (acX K.o),(zai ()).trans K.p,(zai ()).trans K.l⟩
noncomputable def Dr(T b:Int):D:= .tup [.str "beat",.int T,.int b]
theorem At.au4(C:At M w S t i A)(K:Ch M L c i b)(ho:Fj S i=[])(hl:ps.length<50):∃L' n,uN [.ref A] (Q M A (pR M i A c T st dn) ps [st1 T] L)= .ok (.ref (M.length+n)) (Q M A (pR M i A c T st dn) (ps++[Dr T (b+1)]) [st1 T] L')/\L'[n]? = some (.lst [])/\Ch M L' c i (b+1)/\∀j o,c≠j->L[j]? = some o->L'[j]? = some o:=by
 have f1:∀L ps,cO [15] "seat" (.ref A) (Q M A (pR M i A c T st dn) ps [st1 T] L)= .ok (.ref (M.length+c)) (Q M A (pR M i A c T st dn) ps [st1 T] L):=λL ps=>aW C.qA (by simp) rfl
 have f2:∀L ps,cO [9,15] "term" (.ref A) (Q M A (pR M i A c T st dn) ps [st1 T] L)= .ok (.int T) (Q M A (pR M i A c T st dn) ps [st1 T] L):=λL ps=>aW C.qA (by simp) rfl
 have i1:cC 13 "begin_beat" (.ref (M.length+c)) (Q M A (pR M i A c T st dn) ps [st1 T] L)=true:=bM K.at rfl
 have e1:=K.beat (A:=A) (h:=pR M i A c T st dn) (ps:=ps) (ks:=[st1 T])
 have K1:=K.nxt
 obtain⟨L1,hL1⟩:∃L1,L1=L.set c (yG i (b+1) (M.length+(c+1)) (M.length+(c+2)) (M.length+(c+3))):=⟨_,rfl⟩
 rw[<-hL1]at e1 K1
 have f3:cO [13] "beat" (.ref (M.length+c)) (Q M A (pR M i A c T st dn) ps [st1 T] L1)= .ok (.int (b+1)) _:=aW K1.at (by simp) rfl
 have i2:=C.cis (m:= "tell_paper") (T:=T) (st:=st) (dn:=dn) (c:=c) (ps:=ps) (ks:=[st1 T]) (L:=L1) rfl
 have e2:bR [.ref A,Dr T (b+1)] (Q M A (pR M i A c T st dn) ps [st1 T] L1)= .ok .non (Q M A (pR M i A c T st dn) (ps++[Dr T (b+1)]) [st1 T] L1):=
  C.paper (tt:=T) (v:= .int i) (st:=st) (dn:=dn) (ch:= .int i) (seat:=M.length+c) (ps:=ps) (ks:=[st1 T]) (L:=L1) (Dr T (b+1)) ()
 have i3:=C.cis (m:= "others") (T:=T) (st:=st) (dn:=dn) (c:=c) (ps:=ps++[Dr T (b+1)]) (ks:=[st1 T]) (L:=L1) rfl
 have e3:iU [.ref A] (Q M A (pR M i A c T st dn) (ps++[Dr T (b+1)]) [st1 T] L1)= .ok (.ref (M.length+(L1.length+1))) (Q M A (pR M i A c T st dn) (ps++[Dr T (b+1)]) [st1 T] (L1++[.lst (hv (HM.aZ S)),.lst (Fj S i)])):=
  C.others (v:= .int i) (st:=st) (dn:=dn) (ch:= .int i) (seat:=M.length+c) (ps:=ps++[Dr T (b+1)]) (ks:=[st1 T]) (L:=L1) (tt:=T) (.inr rfl)
 rw[ho]at e3
 obtain⟨L2,hL2⟩:∃L2,L2=L1++[MO.lst (hv (HM.aZ S)),.lst []]:=⟨_,rfl⟩
 rw[<-hL2]at e3
 have x2:(Q M A (pR M i A c T st dn) (ps++[Dr T (b+1)]) [st1 T] L2)[M.length+(L1.length+1)]? = some (.lst []):=by rw[qn,hL2];simp
 have cp:=λtt te ce=>cp0 (tt:=tt) (te:=te) (ce:=ce) x2
 simp only[ql,qa]at cp
 refine⟨L2++[.lst []],L2.length,?_,by simp,?_,λj o hj q=> ?_⟩
 ·have es:Dr T (b+1)= .tup [.str "beat",.int T,.int (b+1)]:=rfl
  simp only[uN,jA]
  simp[f1,i1,e1,f2,f3,i2,<-es,e2,i3,e3,uB x2,cp]
 ·rw[hL2]
  exact K1.app.app
 ·rw[hL2]
  exact Gr.app _ _ (Gr.app _ _ (by rw[hL1,zai hj];exact q))
theorem At.put(C:At M w S t i A){h:MO}(e:D):Ef [.ref (A+1),e] (Q M A h ps [] L)= .ok (.int 1) (Q M A h ps [e] L):=by
 have f1:cO [8,9,15] "kept" (.ref (A+1)) (Q M A h ps [] L)= .ok (.ref (A+2)) (Q M A h ps [] L):=aW C.qr (by simp) rfl
 have ap:w6 (.ref (A+2)) [e] (Q M A h ps [] L)= .ok .non (Q M A h ps [e] L):=by
  rw[Ke (ds:=[]) C.qk (by decide),List.nil_append,C.sk]
 have i1:cC 8 "last" (.ref (A+1)) (Q M A h ps [e] L)=true:=yr C.qr rfl
 have la:=Eh (X:=Q M A h ps [e] L) C.qr C.qk
 simp at la
 have ty:Wo "list" (.ref (A+2)) (Q M A h ps [] L)=true:=Mh C.qk
 simp only[Ef,vV]
 simp[f1,ty,ap,i1,la]
noncomputable def wrP(T:Int):D:= .tup [.str "write",.int T,.int 1,.tup [.str "start"]]
theorem At.pat(C:At M w S t i A)(K:Ch M L c i 0)(ho:Fj S i=[])(hw:uH (2 ^ i) S false=true)(hl:ps.length<20):∃L' n ps',pJ [.ref A,.tup [.str "start"]] (Q M A (pR M i A c T 0 0) ps [] L)= .ok (.ref (M.length+n)) (Q M A (pR M i A c T 1 1) ps' [st1 T] L')/\L'[n]? = some (.lst [])/\Ch M L' c i 1/\∀j o,c≠j->L[j]? = some o->L'[j]? = some o:=by
 have f1:cO [9,15] "row" (.ref A) (Q M A (pR M i A c T 0 0) ps [] L)= .ok (.ref (A+1)) _:=aW C.qA (by simp) rfl
 have f2:∀ks,cO [9,15] "term" (.ref A) (Q M A (pR M i A c T 0 0) ps ks L)= .ok (.int T) (Q M A (pR M i A c T 0 0) ps ks L):=λks=>aW C.qA (by simp) rfl
 have i1:cC 8 "put" (.ref (A+1)) (Q M A (pR M i A c T 0 0) ps [] L)=true:=yr C.qr rfl
 have e1:Ef [.ref (A+1),st1 T] (Q M A (pR M i A c T 0 0) ps [] L)= .ok (.int 1) (Q M A (pR M i A c T 0 0) ps [st1 T] L):=C.put (st1 T)
 have i2:=C.cis (m:= "tell_paper") (T:=T) (st:=0) (dn:=0) (c:=c) (ps:=ps) (ks:=[st1 T]) (L:=L) rfl
 have e2:bR [.ref A,wrP T] (Q M A (pR M i A c T 0 0) ps [st1 T] L)= .ok .non (Q M A (pR M i A c T 0 0) (ps++[wrP T]) [st1 T] L):=
  C.paper (tt:=T) (v:= .int i) (st:=0) (dn:=0) (ch:= .int i) (seat:=M.length+c) (ps:=ps) (ks:=[st1 T]) (L:=L) (wrP T) ()
 have i3:=C.cis (m:= "tell_all") (T:=T) (st:=0) (dn:=0) (c:=c) (ps:=ps++[wrP T]) (ks:=[st1 T]) (L:=L) rfl
 obtain⟨L1,n1,e3,x1,K1,k1⟩:=C.au4 (T:=T) (st:=0) (dn:=0) (ps:=ps++[wrP T]) K ho (by simp;lia)
 obtain⟨p1,hp1⟩:∃p1,p1=ps++[wrP T]++[Dr T (0+1)]:=⟨_,rfl⟩
 rw[<-hp1]at e3
 have i4:=C.cis (m:= "settle") (T:=T) (st:=0) (dn:=0) (c:=c) (ps:=p1) (ks:=[st1 T]) (L:=L1) rfl
 obtain⟨X,n2,e4,x2⟩:=C.settle (T:=T) (ps:=p1) K1 hw (by rw[hp1];simp;lia)
 have y1:(Q M A (pR M i A c T 1 1) (p1++[Gk i T]) [st1 T] (L1++X))[M.length+n1]? = some (.lst []):=qn.trans (Gr.app _ _ x1)
 have y2:(Q M A (pR M i A c T 1 1) (p1++[Gk i T]) [st1 T] (L1++X))[M.length+n2]? = some (.lst []):=qn.trans x2
 have ad:=adD y1 y2 (by decide)
 rw[ql,qa]at ad
 refine⟨L1++X++[.lst []],(L1++X).length,p1++[Gk i T],?_,by simp,K1.app.app,λj o hj q=>Gr.app _ _ (Gr.app _ _ (k1 j o hj q))⟩
 have es:wrP T= .tup [.str "write",.int T,.int 1,.tup [.str "start"]]:=rfl
 have et:st1 T= .tup [.int T,.tup [.str "start"]]:=rfl
 simp only[pJ,fJ]
 simp only[List.append_nil]at ad
 simp[f1,f2,i1,<-et,e1,i2,<-es,e2,i3,e3,i4,e4,ad]
end
section
variable{M:Mem}{w S:Nat}{t:Int}{i A:Nat}{ps:List D}{L:Mem}{T:Int}
noncomputable def chP(i:Nat)(T:Int):D:= .tup [.str "chair",.int i,.int T,.int (2 ^ i:Nat)]
theorem At.take(C:At M w S t i A)(hz:L[1]? = some (K_ i))(ho:Fj S i=[])(hw:uH (2 ^ i) S false=true)(hl:ps.length<10):∃L' n c ps',rD [.ref A] (Q M A (pM M i A T) ps [] L)= .ok (.ref (M.length+n)) (Q M A (pR M i A c T 1 1) ps' [st1 T] L')/\L'[n]? = some (.lst [])/\Ch M L' c i 1/\∀(j:Nat) (o:MO),L[j]? = some o->L'[j]? = some o:=by
 have f1:∀ps,cO [13,15] "me" (.ref A) (Q M A (pM M i A T) ps [] L)= .ok (.int i) (Q M A (pM M i A T) ps [] L):=λps=>aW C.qA (by simp) rfl
 have f2:cO [9,15] "term" (.ref A) (Q M A (pM M i A T) ps [] L)= .ok (.int T) _:=aW C.qA (by simp) rfl
 have f3:cO [15] "seat" (.ref A) (Q M A (pM M i A T) ps [] L)= .ok (.ref (M.length+1)) _:=aW C.qA (by simp) rfl
 have f4:cO [12] "voters" (.ref (M.length+1)) (Q M A (pM M i A T) ps [] L)= .ok (.int (2 ^ i:Nat)) _:=aW (qn.trans hz) (by simp) rfl
 have i1:cC 15 "tell_paper" (.ref A) (Q M A (pM M i A T) ps [] L)=true:=bM C.qA rfl
 have e1:bR [.ref A,chP i T] (Q M A (pM M i A T) ps [] L)= .ok .non (Q M A (pM M i A T) (ps++[chP i T]) [] L):=
  C.paper (tt:=T) (v:= .int i) (st:=0) (dn:=0) (ch:= .non) (seat:=M.length+1) (ps:=ps) (ks:=[]) (L:=L) (chP i T) ()
 obtain⟨p1,hp1⟩:∃p1,p1=ps++[chP i T]:=⟨_,rfl⟩
 rw[<-hp1]at e1
 have f5:cO [9,15] "row" (.ref A) (Q M A (pM M i A T) p1 [] L)= .ok (.ref (A+1)) _:=aW C.qA (by simp) rfl
 have i2:cC 8 "last" (.ref (A+1)) (Q M A (pM M i A T) p1 [] L)=true:=yr C.qr rfl
 have la:=Eh (X:=Q M A (pM M i A T) p1 [] L) C.qr C.qk
 simp at la
 have e2:=X7 (X:=Q M A (pM M i A T) p1 [] L) (i:=i)
 rw[ql,qa,qa]at e2
 obtain⟨L1,hL1⟩:∃L1,L1=L++[yG i 0 (M.length+L.length+1) (M.length+L.length+2) (M.length+L.length+3),.dk [],.dk [],.lst []]:=⟨_,rfl⟩
 rw[<-hL1]at e2
 have K:Ch M L1 L.length i 0:=⟨by rw[hL1];exact Ym.trans rfl,by rw[hL1];exact ag.trans rfl,by rw[hL1];exact ag.trans rfl⟩
 have p2:lz [15] "seat" (.ref (M.length+L.length)) (.ref A) (Q M A (pM M i A T) p1 [] L1)=some (Q M A (cM i 0 T (.int i) (A+1) 0 0 (A+3) .non (M.length+L.length)) p1 [] L1):=by
  simp[lz,C.qA,C.sA,cM,pM,putD,sj]
 have f6:cO [13,15] "me" (.ref A) (Q M A (cM i 0 T (.int i) (A+1) 0 0 (A+3) .non (M.length+L.length)) p1 [] L1)= .ok (.int i) _:=aW C.qA (by simp) rfl
 have p3:lz [15] "chair" (.int i) (.ref A) (Q M A (cM i 0 T (.int i) (A+1) 0 0 (A+3) .non (M.length+L.length)) p1 [] L1)=some (Q M A (pR M i A L.length T 0 0) p1 [] L1):=by
  simp[lz,C.qA,C.sA,cM,pR,putD,sj]
 have i3:=C.cis (m:= "put_and_tell") (T:=T) (st:=0) (dn:=0) (c:=L.length) (ps:=p1) (ks:=[]) (L:=L1) rfl
 obtain⟨L',n,ps',e3,x,K',k'⟩:=C.pat (T:=T) (ps:=p1) K ho hw (by rw[hp1];simp;lia)
 refine⟨L',n,L.length,ps',?_,x,K',λj o q=>k' j o (xS (acX q)) (by rw[hL1];exact Gr.app _ _ q)⟩
 have es:chP i T= .tup [.str "chair",.int i,.int T,.int ((2 ^ i:Nat):Int)]:=rfl
 simp only[rD,ig]
 simp[f1,f2,f3,f4,i1,-Int.natCast_pow,<-es,e1,f5,i2,la,ql,qa,e2,p2,f6,p3,i3,e3]
theorem At.ad7(C:At M w S t i A)(ho:Fj S i=[])(hw:uH (2 ^ i) S false=true):∃L n c ps,xu [.ref A] M= .ok (.ref (M.length+n)) (Q M A (pR M i A c (t+1) 1 1) ps [st1 (t+1)] L)/\L[n]? = some (.lst [])/\Ch M L c i 1:=by
 have e1:=C.lets (tt:=t+1) (v:= .int i) (st:=0) (dn:=0) (ch:= .non) (ps:=[vp i (t+1)]) rfl
 obtain⟨L1,hL1⟩:∃L1,L1=[MO.ins 11 [],K_ i,.lst [.int i]]++[MO.lst (hv (HM.aZ S)),.lst (Fj S i),.lst ((Fj S i).map (Wa i (t+1)))]:=⟨_,rfl⟩
 rw[<-hL1]at e1
 have e2:=C.wn (tt:=t+1) (v:= .int i) (st:=0) (dn:=0) (ch:= .non) (ps:=[vp i (t+1)]) (ks:=[]) (L:=L1) (n:=1) (by rw[hL1];rfl) (.inl rfl)
 rw[hw]at e2
 obtain⟨L2,hL2⟩:∃L2,L2=L1++[MO.lst (hv (HM.aZ (2 ^ i &&& S))),.lst (hv (HM.aZ S))]:=⟨_,rfl⟩
 rw[<-hL2]at e2
 have i1:cC 15 "take_chair" (.ref A) (Q M A (pM M i A (t+1)) [vp i (t+1)] [] L2)=true:=bM C.qA rfl
 obtain⟨L3,n,c,ps,e3,x,K,k3⟩:=C.take (T:=t+1) (ps:=[vp i (t+1)]) (L:=L2) (by rw[hL2,hL1];rfl) ho hw (by simp)
 have ecv:jj [.ref A] (Q M A (pM M i A (t+1)) [vp i (t+1)] [] L1)= .ok (.ref (M.length+n)) (Q M A (pR M i A c (t+1) 1 1) ps [st1 (t+1)] L3):=by
  unfold pM at i1 e3 ⊢
  simp only[jj,d_,oE]
  simp[-Oa,e2,i1,e3]
 have i2:cC 15 "count_votes" (.ref A) (Q M A (pM M i A (t+1)) [vp i (t+1)] [] L1)=true:=bM C.qA rfl
 have x3:L3[5]? = some (.lst []):=k3 _ _ (by rw[hL2,hL1,ho];rfl)
 have ad:=adD (X:=Q M A (pR M i A c (t+1) 1 1) ps [st1 (t+1)] L3) (n:=M.length+5) (m:=M.length+n) (as:=[]) (bs:=[]) (qn.trans x3) (qn.trans x) (by decide)
 rw[ql,qa,List.append_nil]at ad
 refine⟨L3++[.lst []],L3.length,c,ps,?_,by simp,K.app⟩
 refine aeZ (C.pre (uR (e':=[some (.ref A),some (.ref (M.length+5))]) (M':=Q M A (pM M i A (t+1)) [vp i (t+1)] [] L1) ?_ (XJ ?_)))
 ·rw[YQ]
  unfold pM
  rw[e1]
  simp
 ·simp[i2,ecv,ad]
end
section
variable{X:Mem}{w:Nat}{ds:List D}
theorem RK(h:X[0]? = some (pF w 1 2 3 4))(h1:X[1]? = some (.lst ds)):n_ [.ref 0] X= .ok (.ref X.length) (X++[.lst ds]):=by
 have f:cO [16] "letters" (.ref 0) X= .ok (.ref 1) X:=aW h (by simp) rfl
 simp only[n_,lQ]
 simp[f,Jq h1]
theorem Qu(h:X[0]? = some (pF w 1 2 3 4))(h1:X[2]? = some (.lst ds)):tR [.ref 0] X= .ok (.ref X.length) (X++[.lst ds]):=by
 have f:cO [16] "noted" (.ref 0) X= .ok (.ref 2) X:=aW h (by simp) rfl
 simp only[tR,j6]
 simp[f,Jq h1]
theorem Yk(h:X[0]? = some (pF w 1 2 3 4))(h1:X[2]? = some (.lst [])):wB [.ref 0] X= .ok (.ref X.length) (X++[.lst []]):=by
 have f:cO [16] "noted" (.ref 0) X= .ok (.ref 2) X:=aW h (by simp) rfl
 simp only[wB,lJ]
 simp[f,uB h1,cp0 h1]
theorem ae3{n m:Nat}{es:List D}(hE:∀d∈es,∃t,pH X 11 d=some t)(h:X[n]? = some (.lst es))(h':X[m]? = some (.lst es)):Zt X (.ref n) (.ref m)=some true:=by
 have key:∀es:List D,(∀d∈es,∃t,pH X 11 d=some t)->∃ts,Hx (pH X 11) es=some ts:=by
  intro es
  induction es with
  | nil=>exact λ_=>⟨[],rfl⟩
  | cons d r ih=>
   intro q
   obtain⟨ts,e1⟩:=ih λx hx=>q x (yT _ hx)
   obtain⟨t,e2⟩:=q d xB
   exact⟨t::ts,by simp only[Hx,e2,e1]⟩
 obtain⟨ts,q⟩:=key es hE
 have e:∀{n:Nat},X[n]? = some (.lst es)->pH X 12 (.ref n)=some (.lst ts):=λ{n} h=>by
  show(match uy X n with | some ds=>(Hx (pH X 11) ds).map Dt.lst | none=>none)=_
  rw[g_ h]
  show(Hx (pH X 11) es).map Dt.lst=_
  rw[q]
  rfl
 rw[Tz (e h) (e h'),Ip]
end
section
variable{M:Mem}{w S:Nat}{t:Int}{i A:Nat}
theorem At.up(C:At M w S t i A):wA [.ref 0,.int i] M= .ok (.ref A) M:=by
 have e0:=Mg C.H.h C.hi
 have i0:cC 16 "refuse_unknown" (.ref 0) M=true:=bM C.H.h rfl
 have f1:cO [16] "hands" (.ref 0) M= .ok (.ref 3) M:=aW C.H.h (by simp) rfl
 have f2:cO [16] "texts" (.ref 0) M= .ok (.ref 4) M:=aW C.H.h (by simp) rfl
 have e1:=inD (i:=(i:Int)) C.H.x
 have e2:=ixD C.H.d (Lz C.hi)
 rw[<-C.e]at e2
 have e3:Ce ([]:List (Key×D)) (.inl (i:Int))=none:=rfl
 rw[e3]at e1
 simp only[wA,lH,zm]
 simp[i0,e0,f1,f2,e1,e2]
theorem At.afU(C:At M w S t i A){n:Nat}{L:Mem}{h:MO}{ps ks ds:List D}(e:xu [.ref A] M= .ok (.ref (M.length+n)) (Q M A h ps ks L))(x:L[n]? = some (.lst ds))(hd:ds.length<=60):qJ [.ref 0,.int i] M= .ok .non ((Q M A h ps ks L).set 1 (.lst ds)):=by
 have e1:=C.up
 have i1:cC 16 "hand_up" (.ref 0) M=true:=bM C.H.h rfl
 have i2:cC 15 "ring" (.ref A) M=true:=bM C.B.o rfl
 have i3:cC 16 "send" (.ref 0) M=true:=bM C.H.h rfl
 have f1:cO [16] "letters" (.ref 0) (Q M A h ps ks L)= .ok (.ref 1) (Q M A h ps ks L):=aW C.q0 (by simp) rfl
 have e2:=WW (M:=Q M A h ps ks L) C.q1 (qn.trans x) (by simp;lia)
 rw[List.nil_append]at e2
 have ty:Wo "list" (.ref 1) (Q M A h ps ks L)=true:=Mh C.q1
 have e3:Dc [.ref 0,.ref (M.length+n)] (Q M A h ps ks L)= .ok .non ((Q M A h ps ks L).set 1 (.lst ds)):=by
  simp only[Dc,qQ]
  simp[f1,ty,e2]
 simp only[qJ,qR]
 simp[i1,e1,i2,e,i3,e3]
theorem s1o{X:Mem}{n:Nat}{o x:MO}(hn:1≠n)(h:X[n]? = some o):(X.set 1 x)[n]? = some o:=by rw[zai hn];exact h
theorem At.vw(C:At M w S t i A){L:Mem}{ps ks ds:List D}{T st dn:Int}{v ch:D}{n c:Nat}{s:Str}{fs:List (Str×D)}(hz:L[n]? = some (.ins c fs))(hw:Wd c s fs):
  gY [.ref 0,.int i] ((Q M A (cM i 0 T v (A+1) st dn (A+3) ch (M.length+n)) ps ks L).set 1 (.lst ds))= .ok (.tup [.str s,.int T,v,ch,.int st,.int dn,.tup [.tup [],.tup []]]) ((Q M A (cM i 0 T v (A+1) st dn (A+3) ch (M.length+n)) ps ks L).set 1 (.lst ds)++[.lst [],.lst [],.lst [],.lst []]):=by
 have hA:=C.e
 have hl:=C.lt
 refine Yv (r:=A+1) (s1o () C.q0) (s1o () C.q3) C.hi ?_ (s1o () C.q5) (s1o () C.q6) (s1o () C.q7) (s1o () (qn.trans hz)) hw
 rw[<-C.e]
 exact s1o () C.qA
end
theorem aem(i S:Nat):2 ^ i &&& S=if S.testBit i=true then 2 ^ i else 0:=by
 refine Nat.eq_of_testBit_eq λj=> ?_
 rw[Nat.testBit_and,Nat.testBit_two_pow]
 by_cases e:i=j
 ·subst e
  cases z:S.testBit i with
  | true=>simp
  | false=>simp
 ·split<;>simp[e,Nat.testBit_two_pow]
theorem alone{S i:Nat}(hi:i<9)(h0:0<S)(h1:S<2 ^ 60):uH (2 ^ i) S false=decide (S=2 ^ i):=by
 have hb:∀i,i<9->HM.aZ (2 ^ i)=[i]:=by decide
 have c1:HM.cnt (2 ^ i)=1:=by unfold HM.cnt;rw[hb i hi];rfl
 unfold uH
 rw[if_neg (by simp),aem]
 by_cases e:S=2 ^ i
 ·subst e
  rw[if_pos (Nat.testBit_two_pow_self)]
  simp[c1]
 ·have hS:=HM.Fg S h1
  cases z:S.testBit i with
  | false=>
   have:HM.cnt 0=0:=by decide
   simp[e,this]
  | true=>
   have hm:i∈HM.aZ S:=HM.CP.mpr ⟨(),z⟩
   have:¬HM.cnt S<2:=λhc=>by
    unfold HM.cnt at hc
    match q:HM.aZ S with
    | []=>rw[q]at hm;cases hm
    | [j]=>
     rw[q]at hm hS
     have:i=j:=by simpa using hm
     subst this
     rw[<-hb i hi,HM.Fg _ (Nat.pow_lt_pow_right (by decide) ())]at hS
     exact e hS.symm
    | _::_::_=>rw[q]at hc;simp at hc;lia
   simp[e,c1]
   lia
theorem aet{i:Nat}(hi:i<9):Fj (2 ^ i) i=[]:=by
 have hb:∀i,i<9->Fj (2 ^ i) i=[]:=by
  intro i hi
  have:HM.aZ (2 ^ i)=[i]:=(by decide:∀i,i<9->HM.aZ (2 ^ i)=[i]) i hi
  unfold Fj
  rw[this]
  simp
 exact hb i hi
noncomputable def cell(ns:List Int)(k:Nat):Int:=ns.getD k 0
theorem T4(ns:List Int)(k:Nat){kk:Int}(hk:kk=k):gO [.cl (ns.map D.int),.int kk] M= .ok (.int (cell ns k)) M:=by
 subst hk
 simp only[gO,e_,Bu]
 by_cases h:k<ns.length
 ·have e:jg (.cl (ns.map D.int)) (.int k) M= .ok (.int ns[k]) M:=agA () (by simp[h])
  simp[h,e,cell]
 ·simp[h,cell]
noncomputable def le(sc:D)(w S:Nat)(d:D)(t:Int)(v v7 v8 v9:Option D):Sl:=[some sc,some (.int w),some (.int S),some d,some (.int t),some (.ref 0),v,v7,v8,v9]
noncomputable def sat(t:Int):D:= .tup [.str "sits",.int t,.non,.non,.int 0,.int 0,.tup [.tup [],.tup []]]
section
variable{sc d:D}{w S:Nat}{t:Int}{M:Mem}
theorem ajB(H:HS M w S t w){i:Nat}(hi:i<w):gY [.ref 0,.int i] M= .ok (sat t) (M++[.lst [],.lst [],.lst [],.lst []]):=by
 have B:=H.b i hi
 exact Yv H.h H.d hi B.o B.s B.a B.b B.z ⟨rfl,.inl ⟨rfl,rfl⟩⟩
theorem Qi:∀(j k:Nat) {M:Mem} {v:Option D},k+j=w->HS M w S t w->∃M' v',j_ none (gN 6) Lj ((yK 0 w).drop k) (le sc w S d t v none none none) M= .next (le sc w S d t v' none none none) M'/\HS M' w S t w
 | 0,k,M,v,hk,H=>by
  obtain rfl:k=w:=()
  refine⟨M,v,?_,H⟩
  rw[List.drop_of_length_le (by simp[yK])]
  exact fgz _ _ _ _
 | j+1,k,M,v,hk,H=>by
  have hlt:k<(yK 0 w).length:=by simp[yK];lia
  have e1:=ajB H (i:=k) ()
  obtain⟨M1,hM1⟩:∃M1,M1=M++[MO.lst [],.lst [],.lst [],.lst []]:=⟨_,rfl⟩
  rw[<-hM1]at e1
  obtain⟨M',v',e2,H2⟩:=Qi j (k+1) (M:=M1) (v:=some (.int (k:Int))) () (H.gr (by rw[hM1];exact Gr.app))
  refine⟨M',v',?_,H2⟩
  have eg:(yK 0 w)[k]= .int (k:Int):=by simp[yK]
  have is:cC 16 "view" (.ref 0) M=true:=bM H.h rfl
  have ne:sNe (sat t) (sat t) M1= .ok (.bl false) M1:=MK (O2 rfl)
  have et:Lj (le sc w S d t (some (.int (k:Int))) none none none) M= .next (le sc w S d t (some (.int (k:Int))) none none none) M1:=by
   have es:sat t= .tup [.str "sits",.int t,.non,.non,.int 0,.int 0,.tup [.tup [],.tup []]]:=rfl
   simp only[Lj,Zi,le]
   simp[is,e1,<-es,ne]
  rw[List.drop_eq_getElem_cons hlt,eg]
  exact fgn rfl et e2
theorem Xd{X:Mem}{ds:List D}(h:ds=[]):sNe (.ref X.length) (.ref (X.length+1)) (X++[.lst ds,.lst []])= .ok (.bl false) (X++[.lst ds,.lst []]):=by
 subst h
 exact MK (ae3 (es:=[]) (by simp) (Ym.trans rfl) (ag.trans rfl))
theorem adk(H:HS M w S t w){v:Option D}:∃M',Ti (le sc w S d t v none none none) M= .next (le sc w S d t v none none none) M'/\HS M' w S t w:=by
 obtain⟨M1,hM1⟩:∃M1,M1=M++[MO.lst [],.lst []]:=⟨_,rfl⟩
 obtain⟨M2,hM2⟩:∃M2,M2=M1++[MO.lst [],.lst []]:=⟨_,rfl⟩
 obtain⟨M3,hM3⟩:∃M3,M3=M2++[MO.lst [],.lst []]:=⟨_,rfl⟩
 have H1:HS M1 w S t w:=H.gr (by rw[hM1];exact Gr.app)
 have H2:HS M2 w S t w:=H1.gr (by rw[hM2];exact Gr.app)
 have H3:HS M3 w S t w:=H2.gr (by rw[hM3];exact Gr.app)
 have e1:=RK H.h H.l
 have e2:=Qu H1.h H1.p
 have e3:=Yk H2.h H2.p
 have n1:=Xd (X:=M) (ds:=[]) rfl
 have n2:=Xd (X:=M1) (ds:=[]) rfl
 have n3:=Xd (X:=M2) (ds:=[]) rfl
 rw[<-hM1]at n1
 rw[<-hM2]at n2
 rw[<-hM3]at n3
 have i1:cC 16 "road" (.ref 0) M=true:=bM H.h rfl
 have i2:cC 16 "papers" (.ref 0) M1=true:=bM H1.h rfl
 have i3:cC 16 "answers" (.ref 0) M2=true:=bM H2.h rfl
 refine⟨M3,?_,H3⟩
 simp only[Ti,le]
 simp[i1,e1,<-hM1,n1,i2,e2,<-hM2,n2,i3,e3,<-hM3,n3]
end
noncomputable def Qt(S i:Nat)(t:Int)(k:Nat):List D:=((List.range k).filter λh=>decide (h≠i)&&S.testBit h).map λ(h:Nat)=>Wa i t (.int h)
theorem Y4{S i w:Nat}{t:Int}(hw:w<=9)(hS:S<2 ^ w):Qt S i t w=(Fj S i).map (Wa i t):=by
 have e:HM.aZ S=(List.range w).filter λh=>S.testBit h:=by
  unfold HM.aZ
  rw[show 60=w+(60 - w) by lia,List.range_add,List.filter_append]
  have:((List.range (60 - w)).map λx=>w+x).filter (λh=>S.testBit h)=[]:=by
   rw[List.filter_eq_nil_iff]
   intro a ha
   obtain⟨j,_,rfl⟩:=List.mem_map.mp ha
   rw[Nat.testBit_lt_two_pow (yA hS (Nat.pow_le_pow_right (by decide) (Nat.le_add_right _ _)))]
   simp
  rw[this,List.append_nil]
 unfold Qt Fj
 rw[e,List.filter_filter,List.map_map]
 rfl
theorem acs{S i k:Nat}{t:Int}:Qt S i t (k+1)=Qt S i t k++if(decide (k≠i)&&S.testBit k)=true then[Wa i t (.int k)]else[]:=by
 unfold Qt
 rw[List.range_succ,List.filter_append,List.map_append]
 congr 1
 by_cases h:(decide (k≠i)&&S.testBit k)=true
 ·rw[if_pos h,List.filter_cons,if_pos h];rfl
 ·rw[if_neg h,List.filter_cons,if_neg h];rfl
theorem Y5{S i:Nat}{t:Int}(k:Nat):(Qt S i t k).length<=k:=by
 unfold Qt
 rw[zan]
 exact yY (List.length_filter_le _ _) (by simp)
section
variable{sc d vw:D}{w S i:Nat}{t:Int}{X:Mem}
theorem Vt(hw:w<=9):∀(j k:Nat) {v:Option D},k+j=w->∃v',j_ none (gN 9) G4 ((yK 0 w).drop k) (le sc w S d t (some (.int i)) (some vw) (some (.ref X.length)) v) (X++[.lst (Qt S i (t+1) k)])= .next (le sc w S d t (some (.int i)) (some vw) (some (.ref X.length)) v') (X++[.lst (Qt S i (t+1) w)])
 | 0,k,v,hk=>by
  obtain rfl:k=w:=()
  refine⟨v,?_⟩
  rw[List.drop_of_length_le (by simp[yK])]
  exact fgz _ _ _ _
 | j+1,k,v,hk=>by
  have hlt:k<(yK 0 w).length:=by simp[yK];lia
  obtain⟨v',e2⟩:=Vt hw j (k+1) (v:=some (.int (k:Int))) ()
  refine⟨v',?_⟩
  have eg:(yK 0 w)[k]= .int (k:Int):=by simp[yK]
  obtain⟨Y,hY⟩:∃Y,Y=X++[MO.lst (Qt S i (t+1) k)]:=⟨_,rfl⟩
  have hx:Y[X.length]? = some (.lst (Qt S i (t+1) k)):=by rw[hY];exact Ym.trans rfl
  have sh:U9 (.int S) (.int (k:Int)) Y= .ok (.int ((S:Int) / 2 ^ ((k:Nat):Int).toNat)) Y:=Rw ()
  have hb:decide (Builtin.bitAnd ((S:Int) / 2 ^ ((k:Nat):Int).toNat) 1=1)=S.testBit k:=by have:=adY S k;rwa [Int.zero_add]at this
  have ap:w6 (.ref X.length) [Wa i (t+1) (.int k)] Y= .ok .non (X++[.lst (Qt S i (t+1) k++[Wa i (t+1) (.int k)])]):=by
   rw[Ke hx (by have:=Y5 (S:=S) (i:=i) (t:=t+1) k;lia),hY,as0]
   rfl
  have ty:Wo "list" (.ref X.length) Y=true:=Mh hx
  have es:Wa i (t+1) (.int k)= .tup [.str "please",.int i,.int k,.int (t+1),.tup [.int 0,.int 0]]:=rfl
  have et:G4 (le sc w S d t (some (.int i)) (some vw) (some (.ref X.length)) (some (.int (k:Int)))) Y= .next (le sc w S d t (some (.int i)) (some vw) (some (.ref X.length)) (some (.int (k:Int)))) (X++[.lst (Qt S i (t+1) (k+1))]):=by
   rw[acs]
   simp only[G4,Zh,le]
   by_cases h1:k=i
   ·have h1':(k:Int)=(i:Int):=()
    simp[h1',h1,hY]
   ·have h1':¬(k:Int)=(i:Int):=()
    cases h2:S.testBit k with
    | true=>
     rw[h2]at hb
     simp[h1',h1,sh,M8,hb,-Int.toNat_natCast,ty,<-es,ap]
    | false=>
     rw[h2]at hb
     simp[h1',h1,sh,M8,hb,-Int.toNat_natCast]
     exact hY
  rw[List.drop_eq_getElem_cons hlt,eg,<-hY]
  exact fgn rfl et e2
end
section
variable{sc d:D}{w S i A:Nat}{t:Int}{M:Mem}
theorem At.ahB(C:At M w S t i A)(hS:S=2 ^ i){rest:MS}:∃M',aQ (j8 (aO 16 "ring" qJ 2 [] (aq 5) (az (aq 6) aJ))) (aQ (iw (aO 16 "view" gY 2 [] (aq 5) (az (aq 6) aJ)) (gN 7)) (aQ Ei rest)) (le sc w S d t (some (.int i)) none none none) M= .ret (.bl true) M':=by
 have hi9:i<9:=by have:=C.hi;have:=C.hw;lia
 have ho:Fj S i=[]:=by rw[hS];exact aet hi9
 have hw:uH (2 ^ i) S false=true:=by rw[alone hi9 (by rw[hS];exact Nat.two_pow_pos i) C.s60,hS];simp
 obtain⟨L,n,c,ps,e1,x,K⟩:=C.ad7 ho hw
 have e2:=C.afU e1 x (by simp)
 obtain⟨X,hX⟩:∃X,X=(Q M A (pR M i A c (t+1) 1 1) ps [st1 (t+1)] L).set 1 (.lst []):=⟨_,rfl⟩
 have e3:gY [.ref 0,.int i] X= .ok (.tup [.str "chairs",.int (t+1),.int i,.int i,.int 1,.int 1,.tup [.tup [],.tup []]]) (X++[.lst [],.lst [],.lst [],.lst []]):=by
  rw[hX]
  exact C.vw (n:=c) (c:=13) K.o ⟨rfl,.inr (.inr ⟨rfl,rfl⟩)⟩
 rw[<-hX]at e2
 have h0:X[0]? = some (pF w 1 2 3 4):=by rw[hX];exact s1o () C.q0
 have h1:X[1]? = some (.lst []):=by
  rw[hX]
  exact zaj (by rw[ql];have:=C.lt;lia)
 obtain⟨Y,hY⟩:∃Y,Y=X++[MO.lst [],.lst [],.lst [],.lst []]:=⟨_,rfl⟩
 rw[<-hY]at e3
 have e4:=RK (X:=Y) (by rw[hY];exact ao h0 _) (by rw[hY];exact ao h1 _)
 have i1:cC 16 "ring" (.ref 0) M=true:=bM C.H.h rfl
 have i2:cC 16 "view" (.ref 0) X=true:=bM h0 rfl
 have i3:cC 16 "road" (.ref 0) Y=true:=bM (by rw[hY];exact ao h0 _) rfl
 have q1:sEq (.tup [.str "chairs",.int (t+1),.int i,.int i,.int 1,.int 1]) (.tup [.str "chairs",.int (t+1),.int i,.int i,.int 1,.int 1]) Y= .ok (.bl true) Y:=Jr (O2 rfl)
 have q2:sEq (.ref Y.length) (.ref (Y.length+1)) (Y++[.lst [],.lst []])= .ok (.bl true) (Y++[.lst [],.lst []]):=Jr (ae3 (es:=[]) (by simp) (Ym.trans rfl) (ag.trans rfl))
 have sl:sSl (.tup [.str "chairs",.int (t+1),.int i,.int i,.int 1,.int 1,.tup [.tup [],.tup []]]) none (some 6) Y= .ok (.tup [.str "chairs",.int (t+1),.int i,.int i,.int 1,.int 1]) Y:=rfl
 have sh:∀Y,Ez (.int 1) (.int (i:Int)) Y= .ok (.int (S:Int)) Y:=λY=>by
  rw[DN ⟨(),(),by decide⟩,Int.toNat_natCast,HM.Lq,hS]
 refine⟨Y++[.lst [],.lst []],uR (e':=le sc w S d t (some (.int i)) none none none) (M':=X) ?_ (uR (e':=le sc w S d t (some (.int i)) (some (.tup [.str "chairs",.int (t+1),.int i,.int i,.int 1,.int 1,.tup [.tup [],.tup []]])) none none) (M':=Y) ?_ (anB ?_))⟩
 ·simp only[le]
  simp[i1,e2]
 ·simp only[le]
  simp[i2,e3]
 ·simp only[Ei,le]
  simp[sh,sl,q1,i3,e4,q2]
end
noncomputable def asV(i:Nat)(t:Int):D:= .tup [.str "asks",.int (t+1),.int i,.non,.int 0,.int 0,.tup [.tup [],.tup []]]
section
variable{sc d:D}{w S i A:Nat}{t:Int}{M:Mem}
theorem At.alQ(C:At M w S t i A)(h0:0<S)(hS:S≠2 ^ i):∃M',aQ (j8 (aO 16 "ring" qJ 2 [] (aq 5) (az (aq 6) aJ))) (aQ (iw (aO 16 "view" gY 2 [] (aq 5) (az (aq 6) aJ)) (gN 7)) (aQ Ei (aQ (iw (yW aJ) (gN 8)) (aQ Io (aQ HQ
  (dZ (Kq (aR sEq (aq 7) (kh (az (mC (.str "asks")) (az (aR vf (aq 4) (mC (.int 1))) (az (aq 6) (az (mC .non) (az (mC (.int 0)) (az (mC (.int 0)) (az (kh (az (kh aJ) (az (kh aJ) aJ))) aJ))))))))) (aR sEq (aO 16 "road" n_ 1 [] (aq 5) aJ) (aq 8))))))))) (le sc w S d t (some (.int i)) none none none) M= .ret (.bl true) M':=by
 have hi9:i<9:=by have:=C.hi;have:=C.hw;lia
 have hn:uH (2 ^ i) S false=false:=by rw[alone hi9 h0 C.s60];simp[hS]
 have e1:=C.agF hn
 have e2:=C.afU e1 (ds:=(Fj S i).map (Wa i (t+1))) rfl (by rw[<-Y4 C.hw C.s];have:=Y5 (S:=S) (i:=i) (t:=t+1) w;have:=C.hw;lia)
 obtain⟨X,hX⟩:∃X,X=(Q M A (pM M i A (t+1)) [vp i (t+1)] [] (lno i S (t+1))).set 1 (.lst ((Fj S i).map (Wa i (t+1)))):=⟨_,rfl⟩
 have e3:gY [.ref 0,.int i] X= .ok (asV i t) (X++[.lst [],.lst [],.lst [],.lst []]):=by
  rw[hX]
  exact C.vw (n:=1) (c:=12) (fs:=[("voters",.int (2 ^ i:Nat))]) rfl ⟨rfl,.inr (.inl ⟨rfl,rfl⟩)⟩
 rw[<-hX]at e2
 have x0:X[0]? = some (pF w 1 2 3 4):=by rw[hX];exact s1o () C.q0
 have x1:X[1]? = some (.lst (Qt S i (t+1) w)):=by
  rw[hX,Y4 C.hw C.s]
  exact zaj (by rw[ql];have:=C.lt;lia)
 have x2:X[2]? = some (.lst [vp i (t+1)]):=by rw[hX];exact s1o () C.q2
 obtain⟨Y,hY⟩:∃Y,Y=X++[MO.lst [],.lst [],.lst [],.lst []]:=⟨_,rfl⟩
 rw[<-hY]at e3
 have g1:Gr X Y:=by rw[hY];exact Gr.app
 obtain⟨v',e4⟩:=Vt (sc:=sc) (d:=d) (vw:=asV i t) (S:=S) (i:=i) (t:=t) (X:=Y) C.hw w 0 (v:=none) ()
 rw[List.drop_zero]at e4
 obtain⟨Z,hZ⟩:∃Z,Z=Y++[MO.lst (Qt S i (t+1) w)]:=⟨_,rfl⟩
 rw[<-hZ]at e4
 have g2:Gr X Z:=by rw[hZ];exact g1.trans Gr.app
 have zl:Z[Y.length]? = some (.lst (Qt S i (t+1) w)):=by rw[hZ];exact Ym.trans rfl
 have e5:=Qu (X:=Z) (g2 _ _ x0) (g2 _ _ x2)
 obtain⟨U,hU⟩:∃U,U=Z++[MO.lst [vp i (t+1)],.lst [vp i (t+1)]]:=⟨_,rfl⟩
 have g3:Gr Z U:=by rw[hU];exact Gr.app
 have n1:sNe (.ref Z.length) (.ref (Z.length+1)) U= .ok (.bl false) U:=by
  refine MK (ae3 (es:=[vp i (t+1)]) (λd hd=> ?_) (by rw[hU];exact Ym.trans rfl) (by rw[hU];exact ag.trans rfl))
  rw[List.mem_singleton.mp hd]
  exact⟨_,rfl⟩
 have e6:=RK (X:=U) (g3 _ _ (g2 _ _ x0)) (g3 _ _ (g2 _ _ x1))
 have q1:sEq (asV i t) (asV i t) U= .ok (.bl true) U:=Jr (O2 rfl)
 have q2:sEq (.ref U.length) (.ref Y.length) (U++[.lst (Qt S i (t+1) w)])= .ok (.bl true) (U++[.lst (Qt S i (t+1) w)]):=by
  refine Jr (ae3 (es:=Qt S i (t+1) w) (λd hd=> ?_) (Ym.trans rfl) (ao (g3 _ _ zl) _))
  obtain⟨h,_,rfl⟩:=List.mem_map.mp hd
  exact⟨_,rfl⟩
 have i1:cC 16 "ring" (.ref 0) M=true:=bM C.H.h rfl
 have i2:cC 16 "view" (.ref 0) X=true:=bM x0 rfl
 have i3:cC 16 "papers" (.ref 0) Z=true:=bM (g2 _ _ x0) rfl
 have i4:cC 16 "road" (.ref 0) U=true:=bM (g3 _ _ (g2 _ _ x0)) rfl
 have sh:Ez (.int 1) (.int (i:Int)) Y= .ok (.int ((2 ^ i:Nat):Int)) Y:=by
  rw[DN ⟨(),(),by decide⟩,Int.toNat_natCast,HM.Lq]
 have hS':¬(S:Int)=((2 ^ i:Nat):Int):=λz=>hS (Int.ofNat_inj.mp z)
 have rg:PJ [.int (w:Int)] (Y++[.lst []])= .ok ⟨none,yK 0 w⟩ (Y++[.lst []]):=by
  have:=Hf (M:=Y++[MO.lst []]) (j:=(w:Int)) () (by have:=C.hw;lia)
  simpa using this
 have ev:vp i (t+1)= .tup [.str "vote",.int i,.int (t+1),.int i]:=rfl
 have ea:asV i t= .tup [.str "asks",.int (t+1),.int i,.non,.int 0,.int 0,.tup [.tup [],.tup []]]:=rfl
 refine⟨U++[.lst (Qt S i (t+1) w)],uR (e':=le sc w S d t (some (.int i)) none none none) (M':=X) ?_ (uR (e':=le sc w S d t (some (.int i)) (some (asV i t)) none none) (M':=Y) ?_ (uR (e':=le sc w S d t (some (.int i)) (some (asV i t)) none none) (M':=Y) ?_ (uR (e':=le sc w S d t (some (.int i)) (some (asV i t)) (some (.ref Y.length)) none) (M':=Y++[.lst []]) ?_
  (uR (e':=le sc w S d t (some (.int i)) (some (asV i t)) (some (.ref Y.length)) v') (M':=Z) ?_ (uR (e':=le sc w S d t (some (.int i)) (some (asV i t)) (some (.ref Y.length)) v') (M':=U) ?_ (XJ ?_))))))⟩
 ·simp only[le]
  simp[i1,e2]
 ·simp only[le]
  simp[i2,e3]
 ·simp only[Ei,le]
  simp[sh,hS',-Int.natCast_pow]
 ·simp only[le]
  simp
 ·simp only[Io]
  have e4':j_ none (gN 9) G4 (yK 0 w) (le sc w S d t (some (.int i)) (some (asV i t)) (some (.ref Y.length)) none) (Y++[.lst []])=_:=e4
  simp only[le]at e4' ⊢
  simp[rg,e4']
 ·simp only[HQ,le]
  simp[i3,e5,<-ev,<-hU,n1]
 ·simp only[le]
  simp[<-ea,q1,i4,e6,q2]
end
theorem ahD(ns:List Int)(hn:ns.length<=63):∃M,afN [.cl (ns.map D.int)] []= .ok (.bl true) M:=by
 have c0:=λM=>T4 (M:=M) ns 0 (kk:=0) rfl
 have c1:=λM=>T4 (M:=M) ns 1 (kk:=1) rfl
 have c2:=λM=>T4 (M:=M) ns 2 (kk:=2) rfl
 obtain⟨sc,hsc⟩:∃sc,sc=D.cl (ns.map D.int):=⟨_,rfl⟩
 rw[<-hsc]at c0 c1 c2 ⊢
 obtain⟨w,hw,w1,w9⟩:∃w:Nat,(w:Int)=1+cell ns 0 % 9/\1<=w/\w<=9:=by
  have a:=Int.emod_nonneg (cell ns 0) (show(9:Int)≠0 by decide)
  have b:=Int.emod_lt_of_pos (cell ns 0) (show(0:Int)<9 by decide)
  exact⟨(1+cell ns 0 % 9).toNat,(),(),()⟩
 have hp:(0:Int)<2*2 ^ w:=by have:(0:Int)<2 ^ w:=Int.pow_pos (by decide);lia
 obtain⟨S,hS⟩:∃S:Nat,(S:Int)=cell ns 0 / 9 % (2*2 ^ w):=⟨(cell ns 0 / 9 % (2*2 ^ w)).toNat,Int.toNat_of_nonneg (Int.emod_nonneg _ ())⟩
 have m9:∀(z:Int) (M:Mem),Gm (.int z) (.int 9) M= .ok (.int (z % 9)) M:=λz M=>Cp ()
 have d9:∀(z:Int) (M:Mem),Vb (.int z) (.int 9) M= .ok (.int (z / 9)) M:=λz M=>Va () ()
 have sh2:∀M:Mem,Ez (.int 2) (.int (w:Int)) M= .ok (.int (2*2 ^ w)) M:=λM=>by rw[DN ⟨(),(),by decide⟩,Int.toNat_natCast]
 have sh1:∀M:Mem,Ez (.int 1) (.int (w:Int)) M= .ok (.int (2 ^ w)) M:=λM=>by rw[DN ⟨(),(),by decide⟩,Int.toNat_natCast,Int.one_mul]
 have mS:∀(z:Int) (M:Mem),Gm (.int z) (.int (2*2 ^ w)) M= .ok (.int (z % (2*2 ^ w))) M:=λz M=>Cp hp
 obtain⟨d,t,hd,e1⟩:∃d t,TD d t/\Ej [some sc,some (.int w),some (.int S),some .non,some (.int 0),none,none,none,none,none] []= .next [some sc,some (.int w),some (.int S),some d,some (.int t),none,none,none,none,none] []:=by
  have m4:∀(z:Int) (M:Mem),Gm (.int z) (.int 4) M= .ok (.int (z % 4)) M:=λz M=>Cp ()
  have d4:∀(z:Int) (M:Mem),Vb (.int z) (.int 4) M= .ok (.int (z / 4)) M:=λz M=>Va () ()
  have pw:∀M:Mem,abY (.int 10) (.int 40) M= .ok (.int (10 ^ 40)) M:=λM=>abX (by decide)
  have mP:∀(z:Int) (M:Mem),Gm (.int z) (.int (10 ^ 40)) M= .ok (.int (z % 10 ^ 40)) M:=λz M=>Cp ()
  by_cases hc:0<cell ns 1 % 4
  ·refine⟨.int (cell ns 1 / 4 % 10 ^ 40),cell ns 1 / 4 % 10 ^ 40,.inr rfl,?_⟩
   obtain⟨P,hP⟩:∃P:Int,P=10 ^ 40:=⟨_,rfl⟩
   rw[<-hP]at pw mP ⊢
   simp only[Ej]
   simp[c1,m4,hc,d4,pw,mP]
  ·refine⟨.non,0,.inl ⟨rfl,rfl⟩,?_⟩
   simp only[Ej]
   simp[c1,m4,hc]
 have akq:∀{R:jR} {s:MS},aQ Ej s [some sc,some (.int w),some (.int S),some .non,some (.int 0),none,none,none,none,none] []=R->aQ (iw (aR vf (mC (.int 1)) (aR Gm (j9 gO 2 [] (az (aq 0) (az (mC (.int 0)) aJ))) (mC (.int 9)))) (gN 1))
   (aQ (iw (aR Gm (aR Vb (j9 gO 2 [] (az (aq 0) (az (mC (.int 0)) aJ))) (mC (.int 9))) (aR Ez (mC (.int 2)) (aq 1))) (gN 2))
   (aQ (iw (mC .non) (gN 3)) (aQ (iw (mC (.int 0)) (gN 4)) (aQ Ej s)))) (slots 10 [sc]) []=R:=λ{R s} h=>by
  refine uR (e':=[some sc,some (.int w),none,none,none,none,none,none,none,none]) (M':=[]) ?_ (uR (e':=[some sc,some (.int w),some (.int S),none,none,none,none,none,none,none]) (M':=[]) ?_ (uR (e':=[some sc,some (.int w),some (.int S),some .non,none,none,none,none,none,none]) (M':=[]) ?_ (uR (M':=[]) ?_ h)))
  ·simp[c0,m9,<-hw]
  ·simp[c0,d9,sh2,mS,<-hS]
  ·simp
  ·simp
 by_cases hr:(S:Int)=0\/(2:Int) ^ w<=S
 ·
  have e2:=W2 (w:=w) hd hr
  refine⟨_,aeZ (akq (uR e1 (anB (d:= .bl true) (M':=[.ins 16 [("number",.int w)]]) ?_)))⟩
  simp only[LK]
  by_cases h0:(S:Int)=0
  ·rw[h0]at e2
   simp[h0,e2]
  ·have h1:(2:Int) ^ w<=S:=by rcases hr with h | h;exact absurd h h0;exact h
   have h0':¬S=0:=()
   simp[h0',sh1,h1,e2]
 ·
  have h0:0<S:=()
  have h1:(S:Int)<2 ^ w:=()
  have h1':S<2 ^ w:=by
   have:((2 ^ w:Nat):Int)=(2:Int) ^ w:=by simp
   lia
  obtain⟨M,e2,H⟩:=aeF hd w9 () h1
  have e3:LK [some sc,some (.int w),some (.int S),some d,some (.int t),none,none,none,none,none] []= .next [some sc,some (.int w),some (.int S),some d,some (.int t),none,none,none,none,none] []:=by
   have a:¬S=0:=()
   have b:¬(2:Int) ^ w<=S:=()
   simp only[LK]
   simp[a,sh1,b]
  obtain⟨M1,v1,e4,H1⟩:=Qi (sc:=sc) (d:=d) (S:=S) w 0 (v:=none) () H
  rw[List.drop_zero]at e4
  have rg:PJ [.int (w:Int)] M= .ok ⟨none,yK 0 w⟩ M:=by
   have:=Hf (M:=M) (j:=(w:Int)) () ()
   simpa using this
  obtain⟨M2,e5,H2⟩:=adk (sc:=sc) (d:=d) H1 (v:=v1)
  obtain⟨i,hi,hiw⟩:∃i:Nat,(i:Int)=cell ns 2 % (w:Int)/\i<w:=by
   have a:=Int.emod_nonneg (cell ns 2) (show(w:Int)≠0 by lia)
   have b:=Int.emod_lt_of_pos (cell ns 2) (show(0:Int)<w by lia)
   exact⟨(cell ns 2 % (w:Int)).toNat,(),()⟩
  have mw:∀(z:Int) (M:Mem),Gm (.int z) (.int (w:Int)) M= .ok (.int (z % (w:Int))) M:=λz M=>Cp ()
  have C:At M2 w S t i (18+7*i):=⟨H2,hiw,w9,rfl,h1'⟩
  have fin:∃M',aQ (j8 (aO 16 "ring" qJ 2 [] (aq 5) (az (aq 6) aJ))) (aQ (iw (aO 16 "view" gY 2 [] (aq 5) (az (aq 6) aJ)) (gN 7)) (aQ Ei (aQ (iw (yW aJ) (gN 8)) (aQ Io (aQ HQ
    (dZ (Kq (aR sEq (aq 7) (kh (az (mC (.str "asks")) (az (aR vf (aq 4) (mC (.int 1))) (az (aq 6) (az (mC .non) (az (mC (.int 0)) (az (mC (.int 0)) (az (kh (az (kh aJ) (az (kh aJ) aJ))) aJ))))))))) (aR sEq (aO 16 "road" n_ 1 [] (aq 5) aJ) (aq 8))))))))) (le sc w S d t (some (.int i)) none none none) M2= .ret (.bl true) M':=by
   by_cases e:S=2 ^ i
   ·exact C.ahB e
   ·exact C.alQ h0 e
  obtain⟨M',e6⟩:=fin
  refine⟨M',aeZ (akq (uR e1 (uR e3 (uR (e':=le sc w S d t none none none none) (M':=M) ?_ (uR (e':=le sc w S d t v1 none none none) (M':=M1) ?_ (uR e5 (uR (e':=le sc w S d t (some (.int i)) none none none) (M':=M2) ?_ e6)))))))⟩
  ·simp only[le]
   simp[e2]
  ·simp only[Zo,le]at e4 ⊢
   simp[rg,e4]
  ·simp only[le]
   simp[c2,mw,<-hi]
noncomputable def top(i:Nat):Stmt:=PySem.Challenge.pw_chairvote_k56_first_terms.main.body.getD i (.Pass ⟨0,0,0,0⟩)
abbrev gq:Stmt:=top 57
abbrev dG:Stmt:=inClass (top 2) 0
abbrev bA:Stmt:=inClass (top 55) 2
abbrev mD:Stmt:=inClass (top 20) 0
abbrev mj:Stmt:=inClass (top 20) 17
abbrev jN:Stmt:=inClass (top 23) 0
abbrev iC:Stmt:=inClass (top 48) 4
abbrev iD:Stmt:=inClass (top 48) 0
abbrev lZ:Stmt:=top 49
abbrev lN:Stmt:=inClass (top 52) 0
abbrev dY:Stmt:=inClass (top 55) 1
abbrev jM:Stmt:=inClass (top 55) 0
abbrev jU:Stmt:=top 58
abbrev eZ:Stmt:=top 59
abbrev bJ:Stmt:=inClass (top 55) 3
abbrev qZ:Stmt:=top 54
abbrev gw:Stmt:=inClass (top 44) 0
abbrev iJ:Stmt:=inClass (top 45) 1
abbrev iH:Stmt:=inClass (top 46) 1
abbrev jH:Stmt:=inClass (top 55) 21
abbrev jK:Stmt:=inClass (top 55) 18
abbrev gG:Stmt:=inClass (top 55) 19
abbrev fu:Stmt:=inClass (top 55) 20
abbrev jJ:Stmt:=inClass (top 55) 5
abbrev dX:Stmt:=inClass (top 52) 3
abbrev iG:Stmt:=inClass (top 52) 6
abbrev cX:Stmt:=inClass (top 52) 2
abbrev dD:Stmt:=inClass (top 52) 7
abbrev q_:Stmt:=top 36
abbrev iK:Stmt:=inClass (top 45) 0
abbrev mz:Stmt:=inClass (top 20) 2
abbrev jF:Stmt:=inClass (top 20) 4
abbrev fc:Stmt:=inClass (top 20) 5
abbrev gA:Stmt:=inClass (top 20) 6
abbrev oK:Stmt:=inClass (top 20) 3
abbrev l_:Stmt:=top 37
abbrev oH:Stmt:=top 39
abbrev b8:Stmt:=inClass (top 20) 7
abbrev gB:Stmt:=inClass (top 20) 8
abbrev mq:Stmt:=inClass (top 20) 9
abbrev gF:Stmt:=inClass (top 52) 4
abbrev z6:Stmt:=top 38
abbrev qH:Stmt:=top 40
abbrev Ck:Stmt:=top 41
abbrev iI:Stmt:=inClass (top 46) 0
abbrev oJ:Stmt:=inClass (top 20) 11
abbrev cJ:Stmt:=inClass (top 46) 2
abbrev dW:Stmt:=inClass (top 52) 11
abbrev bQ:Stmt:=inClass (top 46) 7
abbrev fB:Stmt:=inClass (top 46) 5
abbrev dB:Stmt:=inClass (top 52) 24
abbrev bD:Stmt:=inClass (top 52) 23
abbrev cZ:Stmt:=inClass (top 52) 26
abbrev dz:Stmt:=inClass (top 20) 10
abbrev bw:Stmt:=inClass (top 52) 25
abbrev cg:Stmt:=inClass (top 52) 31
abbrev gC:Stmt:=inClass (top 52) 22
abbrev b_:Stmt:=inClass (top 52) 10
abbrev cY:Stmt:=inClass (top 52) 9
abbrev cI:Stmt:=inClass (top 52) 8
abbrev jG:Stmt:=inClass (top 52) 5
abbrev fj:Stmt:=inClass (top 55) 4
abbrev jL:Stmt:=inClass (top 55) 6
abbrev Fi:Stmt:=top 60
set_option genInjectivity false in
structure Adr where
 tU:Addr
 t7:FuncData
 jb:Addr
 oZ:FuncData
 h_:Addr
 ie:FuncData
 Aw:Addr
 Bb:FuncData
 Aq:Addr
 Az:FuncData
 xZ:Addr
 yh:FuncData
 vz:Addr
 vJ:FuncData
 vA:Addr
 vK:FuncData
 An:Addr
 Ax:FuncData
 xU:Addr
 uG:FuncData
 J9:Addr
 m8:Addr
 jz:FuncData
 uF:Addr
 qM:FuncData
 J_:Addr
 Ka:Tok
 wL:Addr
 wN:FuncData
 pW:Addr
 pY:FuncData
 jo:Addr
 jq:FuncData
 Ij:Addr
 Ir:FuncData
 tV:Addr
 t8:FuncData
 vG:Addr
 vO:FuncData
 vC:Addr
 vM:FuncData
 xV:Addr
 yd:FuncData
 xX:Addr
 yf:FuncData
 t6:Addr
 ug:FuncData
 rN:Addr
 rT:FuncData
 xW:Addr
 ye:FuncData
 qg:Addr
 qj:FuncData
 vB:Addr
 vL:FuncData
 nH:Addr
 nO:FuncData
 oV:Addr
 oY:FuncData
 Im:Addr
 Iu:FuncData
 vH:Addr
 vP:FuncData
 Av:Addr
 Ba:FuncData
 xR:Addr
 x_:FuncData
 rK:Addr
 rQ:FuncData
 tW:Addr
 t_:FuncData
 Ep:Addr
 Et:FuncData
 Ao:Addr
 Ay:FuncData
 Em:Addr
 Er:FuncData
 kO:Addr
 kZ:FuncData
 tX:Addr
 ud:FuncData
 Ar:Addr
 A_:FuncData
 tZ:Addr
 uf:FuncData
 Tv:Addr
 TQ:FuncData
 En:Addr
 zy:FuncData
 Qj:Addr
 Tu:Addr
 O7:FuncData
 abr:Addr
 vD:Addr
 vN:FuncData
 Eo:Addr
 Es:FuncData
 mK:Addr
 mO:FuncData
 qe:Addr
 qi:FuncData
 jP:Addr
 jQ:FuncData
 rO:Addr
 rW:FuncData
 oU:Addr
 oX:FuncData
 iQ:Addr
 iR:FuncData
 nM:Addr
 nR:FuncData
 oO:Addr
 oW:FuncData
 gQ:Addr
 gR:FuncData
 kY:Addr
 lg:FuncData
 tY:Addr
 ue:FuncData
 kW:Addr
 k_:FuncData
 nJ:Addr
 nQ:FuncData
 mJ:Addr
 mL:FuncData
 xT:Addr
 yc:FuncData
 rM:Addr
 rR:FuncData
 xY:Addr
 yg:FuncData
 QS:Addr
 KJ:FuncData
 lG:Addr
 qN:Addr
 Bd:Addr
 yj:Addr
 dU:Addr
 uI:Addr
 Be:Addr
 lq:Addr
 bZ:Addr
 dN:Addr
 dR:Addr
 bB:Addr
 aP:Addr
structure Txt(K:Frag)(mg:Str->Option Value)(t:Adr):Prop where
 jl:aV K "_law_cell_at" "_law_cell_at" gq .none t.tU t.t7
 e_:Binds K t.t7 ["_law_script","_law_k"] []
 lC:mg "_law_cell_at" = some (.ref t.tU)
 xQ:aV K "__init__" "HallError.__init__" dG .none t.jb t.oZ
 tK:Binds K t.oZ ["self","at"] []
 pU:aV K "refuse_strangers" "Hall.refuse_strangers" bA .none t.h_ t.ie
 cA:Binds K t.ie ["self","S"] []
 pP:Meth K t.lG "refuse_strangers" t.h_
 KH:aV K "__init__" "Row.__init__" mD .none t.Aw t.Bb
 qG:Binds K t.Bb ["self","base","base_term","base_roll","entries"] []
 Gv:Mk K t.qN t.Aw
 Kz:aV K "twin" "Row.twin" mj .none t.Aq t.Az
 qF:Binds K t.Az ["self"] []
 CT:Meth K t.qN "twin" t.Aq
 Ii:aV K "__init__" "Book.__init__" jN .none t.xZ t.yh
 qT:Binds K t.yh ["self","term","vote","row","kept"] []
 Eb:Mk K t.Bd t.xZ
 Fx:aV K "told" "Shelf.told" iC .none t.vz t.vJ
 mU:Binds K t.vJ ["self"] []
 yw:Meth K t.yj "told" t.vz
 Fy:aV K "__init__" "Shelf.__init__" iD .none t.vA t.vK
 mV:Binds K t.vK ["self"] []
 vY:Mk K t.yj t.vA
 Df:aV K "shelf_of" "shelf_of" lZ .none t.An t.Ax
 tD:Binds K t.Ax ["told"] []
 Ko:mg "shelf_of" = some (.ref t.An)
 H_:aV K "__init__" "Hand.__init__" lN (.ref t.J9) t.xU t.uG
 qP:Binds K t.uG ["self","me","book","note"] []
 Ud:Binds K t.uG ["self","me","book","note"] [.none]
 Ea:Mk K t.dU t.xU
 zu:aV K "bring_up" "Hall.bring_up" dY .none t.m8 t.jz
 iz:Binds K t.jz ["self","h","book"] []
 yV:Meth K t.lG "bring_up" t.m8
 Ih:aV K "__init__" "Hall.__init__" jM (.ref t.J_) t.uF t.qM
 lR:Binds K t.qM ["self","number","S","term"] []
 Iw:Binds K t.qM ["self","number","S","term"] [.int 0 t.Ka]
 Aa:Mk K t.lG t.uF
 xH:aV K "_law_made" "_law_made" jU .none t.wL t.wN
 mR:Binds K t.wN ["_law_width","_law_first","_law_term"] []
 CK:mg "_law_made" = some (.ref t.wL)
 wH:aV K "_law_refused" "_law_refused" eZ .none t.pW t.pY
 j4:Binds K t.pY ["_law_width","_law_first","_law_term"] []
 CJ:mg "_law_refused" = some (.ref t.pW)
 rJ:aV K "refuse_unknown" "Hall.refuse_unknown" bJ .none t.jo t.jq
 cW:Binds K t.jq ["self","h"] []
 mG:Meth K t.lG "refuse_unknown" t.jo
 J0:aV K "viewed" "viewed" qZ .none t.Ij t.Ir
 zz:Binds K t.Ir ["word","hand"] []
 QB:mg "viewed" = some (.ref t.Ij)
 Dg:aV K "word" "Sitter.word" gw .none t.tV t.t8
 nj:Binds K t.t8 ["self"] []
 CQ:Meth K t.uI "word" t.tV
 FP:aV K "word" "Asker.word" iJ .none t.vG t.vO
 pA:Binds K t.vO ["self"] []
 Ft:Meth K t.Be "word" t.vG
 FJ:aV K "word" "Chair.word" iH .none t.vC t.vM
 o_:Binds K t.vM ["self"] []
 Fq:Meth K t.lq "word" t.vC
 Ia:aV K "view" "Hall.view" jH .none t.xV t.yd
 oF:Binds K t.yd ["self","h"] []
 Ac:Meth K t.lG "view" t.xV
 Ie:aV K "road" "Hall.road" jK .none t.xX t.yf
 lQ:Binds K t.yf ["self"] []
 vg:Meth K t.lG "road" t.xX
 Dl:aV K "papers" "Hall.papers" gG .none t.t6 t.ug
 j6:Binds K t.ug ["self"] []
 wu:Meth K t.lG "papers" t.t6
 BJ:aV K "answers" "Hall.answers" fu .none t.rN t.rT
 lJ:Binds K t.rT ["self"] []
 Br:Meth K t.lG "answers" t.rN
 Ib:aV K "send" "Hall.send" jJ .none t.xW t.ye
 qQ:Binds K t.ye ["self","letters"] []
 Hu:Meth K t.lG "send" t.xW
 zq:aV K "is_chair" "Hand.is_chair" dX .none t.qg t.qj
 jB:Binds K t.qj ["self"] []
 yU:Meth K t.dU "is_chair" t.qg
 Fz:aV K "enter" "Hand.enter" iG .none t.vB t.vL
 o9:Binds K t.vL ["self","term"] []
 Fp:Meth K t.dU "enter" t.vB
 wI:aV K "tell_paper" "Hand.tell_paper" cX .none t.nH t.nO
 cD:Binds K t.nO ["self","paper"] []
 fZ:Meth K t.dU "tell_paper" t.nH
 xP:aV K "give_vote" "Hand.give_vote" dD .none t.oV t.oY
 je:Binds K t.oY ["self","whom"] []
 xr:Meth K t.dU "give_vote" t.oV
 El:aV K "set_of" "set_of" q_ .none t.Im t.Iu
 wQ:Binds K t.Iu ["hands"] []
 JK:mg "set_of" = some (.ref t.Im)
 FQ:aV K "__init__" "Asker.__init__" iK .none t.vH t.vP
 pB:Binds K t.vP ["self","me"] []
 yR:Mk K t.Be t.vH
 KD:aV K "last" "Row.last" mz .none t.Av t.Ba
 gh:Binds K t.Ba ["self"] []
 jO:Meth K t.qN "last" t.Av
 HX:aV K "keeps" "Row.keeps" jF .none t.xR t.x_
 qO:Binds K t.x_ ["self","place"] []
 Hs:Meth K t.qN "keeps" t.xR
 Bw:aV K "entry_at" "Row.entry_at" fc .none t.rK t.rQ
 fH:Binds K t.rQ ["self","place"] []
 mZ:Meth K t.qN "entry_at" t.rK
 Dh:aV K "term_at" "Row.term_at" gA .none t.tW t.t_
 iW:Binds K t.t_ ["self","place"] []
 vZ:Meth K t.qN "term_at" t.tW
 OJ:aV K "end" "Row.end" oK .none t.Ep t.Et
 vW:Binds K t.Et ["self"] []
 N5:Meth K t.qN "end" t.Ep
 xJ:aV K "hands_of" "hands_of" l_ .none t.Ao t.Ay
 qD:Binds K t.Ay ["S"] []
 CN:mg "hands_of" = some (.ref t.Ao)
 Gz:aV K "members" "members" oH .none t.Em t.Er
 vU:Binds K t.Er ["roll"] []
 NB:mg "members" = some (.ref t.Em)
 uC:aV K "roll_place_by" "Row.roll_place_by" b8 .none t.kO t.kZ
 cU:Binds K t.kZ ["self","place"] []
 n8:Meth K t.qN "roll_place_by" t.kO
 Di:aV K "roll_by" "Row.roll_by" gB .none t.tX t.ud
 nq:Binds K t.ud ["self","place"] []
 CV:Meth K t.qN "roll_by" t.tX
 KC:aV K "roll" "Row.roll" mq .none t.Ar t.A_
 mW:Binds K t.A_ ["self"] []
 uv:Meth K t.qN "roll" t.Ar
 Dk:aV K "others" "Hand.others" gF .none t.tZ t.uf
 j5:Binds K t.uf ["self"] []
 v_:Meth K t.dU "others" t.tZ
 HW:aV K "many" "many" z6 .none t.Tv t.TQ
 Ds:Binds K t.TQ ["S"] []
 Lw:mg "many" = some (.ref t.Tv)
 Am:aV K "carries" "carries" qH (.ref t.Qj) t.En t.zy
 tE:Binds K t.zy ["S","part","half"] []
 Yh:Binds K t.zy ["S","part","half"] [.bool false]
 Gw:mg "carries" = some (.ref t.En)
 LQ:aV K "wins" "wins" Ck (.ref t.abr) t.Tu t.O7
 Ph:Binds K t.O7 ["roll","S","half"] []
 Uc:Binds K t.O7 ["roll","S","half"] [.bool false]
 Su:mg "wins" = some (.ref t.Tu)
 FN:aV K "__init__" "Chair.__init__" iI .none t.vD t.vN
 pq:Binds K t.vN ["self","me","start"] []
 yQ:Mk K t.lq t.vD
 OD:aV K "put" "Row.put" oJ .none t.Eo t.Es
 vV:Binds K t.Es ["self","entry"] []
 NZ:Meth K t.qN "put" t.Eo
 uZ:aV K "begin_beat" "Chair.begin_beat" cJ .none t.mK t.mO
 gj:Binds K t.mO ["self"] []
 uV:Meth K t.lq "begin_beat" t.mK
 zp:aV K "tell_all" "Hand.tell_all" dW .none t.qe t.qi
 jA:Binds K t.qi ["self"] []
 yS:Meth K t.dU "tell_all" t.qe
 sI:aV K "places_known" "Chair.places_known" bQ .none t.jP t.jQ
 eV:Binds K t.jQ ["self","last"] []
 sH:Meth K t.lq "places_known" t.jP
 BK:aV K "having" "Chair.having" fB .none t.rO t.rW
 jm:Binds K t.rW ["self","place"] []
 uM:Meth K t.lq "having" t.rO
 xN:aV K "place_won" "Hand.place_won" dB .none t.oU t.oX
 jd:Binds K t.oX ["self"] []
 xq:Meth K t.dU "place_won" t.oU
 qL:aV K "place_to_settle" "Hand.place_to_settle" bD .none t.iQ t.iR
 dH:Binds K t.iR ["self"] []
 qI:Meth K t.dU "place_to_settle" t.iQ
 wK:aV K "do_settled" "Hand.do_settled" cZ .none t.nM t.nR
 ir:Binds K t.nR ["self"] []
 wj:Meth K t.dU "do_settled" t.nM
 xK:aV K "roll_place" "Row.roll_place" dz .none t.oO t.oW
 jc:Binds K t.oW ["self"] []
 xm:Meth K t.qN "roll_place" t.oO
 pG:aV K "leave_double_roll" "Hand.leave_double_roll" bw .none t.gQ t.gR
 cQ:Binds K t.gR ["self"] []
 pC:Meth K t.dU "leave_double_roll" t.gQ
 uE:aV K "answer_looks" "Hand.answer_looks" cg .none t.kY t.lg
 fK:Binds K t.lg ["self"] []
 ux:Meth K t.dU "answer_looks" t.kY
 Dj:aV K "settle" "Hand.settle" gC .none t.tY t.ue
 nu:Binds K t.ue ["self"] []
 CW:Meth K t.dU "settle" t.tY
 uD:aV K "put_and_tell" "Hand.put_and_tell" b_ .none t.kW t.k_
 fJ:Binds K t.k_ ["self","what"] []
 uw:Meth K t.dU "put_and_tell" t.kW
 wJ:aV K "take_chair" "Hand.take_chair" cY .none t.nJ t.nQ
 ig:Binds K t.nQ ["self"] []
 v5:Meth K t.dU "take_chair" t.nJ
 uY:aV K "count_votes" "Hand.count_votes" cI .none t.mJ t.mL
 d_:Binds K t.mL ["self"] []
 uU:Meth K t.dU "count_votes" t.mJ
 HY:aV K "ring" "Hand.ring" jG .none t.xT t.yc
 uK:Binds K t.yc ["self"] []
 Ht:Meth K t.dU "ring" t.xT
 Bx:aV K "hand_up" "Hall.hand_up" fj .none t.rM t.rR
 lH:Binds K t.rR ["self","h"] []
 Bq:Meth K t.lG "hand_up" t.rM
 Ig:aV K "ring" "Hall.ring" jL .none t.xY t.yg
 qR:Binds K t.yg ["self","h"] []
 Hw:Meth K t.lG "ring" t.xY
 XN:aV K "law" "law" Fi .none t.QS t.KJ
 V0:Binds K t.KJ ["_law_script"] []
 acM:mg "law" = some (.ref t.QS)
 bN:Li K t.lG
 Sv:mg "Hall" = some (.ref t.lG)
 gW:bU K t.lG "number"
 fM:bU K t.lG "letters"
 gJ:bU K t.lG "noted"
 cP:bU K t.lG "hands"
 jX:bU K t.lG "texts"
 bz:Li K t.qN
 Xe:mg "Row" = some (.ref t.qN)
 dw:bU K t.qN "base"
 eG:bU K t.qN "base_term"
 eN:bU K t.qN "base_roll"
 dM:bU K t.qN "kept"
 bh:Li K t.Bd
 Zb:mg "Book" = some (.ref t.Bd)
 bG:bU K t.Bd "term"
 fD:bU K t.Bd "vote"
 bI:bU K t.Bd "row"
 dh:bU K t.Bd "kept"
 rZ:Li K t.yj
 NK:mg "Shelf" = some (.ref t.yj)
 eF:bU K t.yj "amounts"
 dJ:bU K t.yj "answered"
 aD:Li K t.dU
 Za:mg "Hand" = some (.ref t.dU)
 dI:bU K t.dU "me"
 mF:bU K t.dU "note"
 bF:bU K t.dU "term"
 fC:bU K t.dU "vote"
 bH:bU K t.dU "row"
 dg:bU K t.dU "kept"
 cj:bU K t.dU "settled"
 iM:bU K t.dU "done"
 jW:bU K t.dU "shelf"
 gH:bU K t.dU "chair"
 bx:bU K t.dU "seat"
 JP:Mk0 K t.uI
 Q4:Li K t.uI
 JL:mg "Sitter" = some (.ref t.uI)
 Dp:Li K t.Be
 Vo:mg "Asker" = some (.ref t.Be)
 fP:bU K t.Be "voters"
 bV:Li K t.lq
 NQ:mg "Chair" = some (.ref t.lq)
 cR:bU K t.lq "me"
 lA:bU K t.lq "start"
 gK:bU K t.lq "beat"
 lB:bU K t.lq "beats"
 fO:bU K t.lq "places"
 ji:bU K t.lq "looks"
 Qx:S.OIs K t.uI
 jy:kitOne K (.ref t.uI) (.ref t.lq)=some false
 Hr:mg "HallError" = some (.ref t.bZ)
 Rg:XMk K t.bZ t.jb
 u_:zA K t.bZ "at"
 u9:XIs K t.bZ
 zN:exmOne K (.ref t.bZ) (.ref t.bZ)=some true
 rH:kitOne K (.ref t.bZ) (.ref t.bZ)=some true
 Ca:exmOne K (.ref t.bZ) (.ref t.dN)=some false
 uA:kitOne K (.ref t.bZ) (.ref t.dN)=some false
 uT:exmOne K (.ref t.bZ) (.ref t.dR)=some false
 Fb:kitOne K (.ref t.bZ) (.ref t.dR)=some false
 NP:mg "NoChair" = some (.ref t.dN)
 Wh:XMk K t.dN t.jb
 zT:zA K t.dN "at"
 zP:XIs K t.dN
 B_:exmOne K (.ref t.dN) (.ref t.bZ)=some true
 uz:kitOne K (.ref t.dN) (.ref t.bZ)=some true
 Ge:exmOne K (.ref t.dN) (.ref t.dN)=some true
 wF:kitOne K (.ref t.dN) (.ref t.dN)=some true
 wW:exmOne K (.ref t.dN) (.ref t.dR)=some false
 HN:kitOne K (.ref t.dN) (.ref t.dR)=some false
 Ec:mg "NoRoll" = some (.ref t.dR)
 Jc:XMk K t.dR t.jb
 vQ:zA K t.dR "at"
 Dy:XIs K t.dR
 Ex:exmOne K (.ref t.dR) (.ref t.bZ)=some true
 uW:kitOne K (.ref t.dR) (.ref t.bZ)=some true
 GQ:exmOne K (.ref t.dR) (.ref t.dN)=some false
 xG:kitOne K (.ref t.dR) (.ref t.dN)=some false
 yL:exmOne K (.ref t.dR) (.ref t.dR)=some true
 JS:kitOne K (.ref t.dR) (.ref t.dR)=some true
 bB:t.jz.code= .ref t.bB
 iY:t.aP≠0
 iZ:PySem.W.codeHdIn K t.bB t.aP=true
 i_:K.lookup t.aP=none
 acP:mg "bool" = none
 rA:mg "isinstance" = none
 Vq:mg "len" = none
 JN:mg "list" = none
 Ad:mg "range" = none
 N8:mg "reversed" = none
 afM:mg "set" = none
 Hy:mg "sorted" = none
 Sw:mg "tuple" = none
noncomputable def Fd(t:Adr):Nat->Addr:=λk=>match k with
 | 16=>t.lG
 | 8=>t.qN
 | 9=>t.Bd
 | 14=>t.yj
 | 15=>t.dU
 | 11=>t.uI
 | 12=>t.Be
 | 13=>t.lq
 | 0=>t.bZ
 | 3=>t.dN
 | 4=>t.dR
 | 1000=>t.aP
 | _=>0
section
variable{P:Program}{w:World}{K:Frag}{mg:Str->Option Value}{base:Heap}{t:Adr}
theorem G9:lu ["self","at"] ["self","at"] (ak dG):=p8
theorem Jm:lu ["self","h","book"] ["self","h","book"] (ak dY):=p8
theorem zZ:lu ["self","number","S","term","book","h"] ["self","number","S","term"] (ak jM):=p8
theorem U8:lu ["_law_width","_law_first","_law_term"] ["_law_width","_law_first","_law_term"] (ak jU):=p8
theorem nZ:lu ["_law_width","_law_first","_law_term","_law_found","e"] ["_law_width","_law_first","_law_term"] (ak eZ):=p8
theorem sS:lu ["_law_script","_law_width","_law_first","_law_term","_law_due","_law_hall","_law_hand","_law_view","_law_letters","_law_other"] ["_law_script"] (ak Fi):=p8
abbrev sy{K:Frag}{mg:Str->Option Value}{t:Adr}(_:Txt K mg t)(f:Addr)(d:FuncData)(ps:List Str)(lv:Nat)(m:S.Fn)(ar:Nat):Prop:=∀{P:Program} {w:World} {base:Heap},g8 P w K mg base (wV P w) lv f d ps (S.spS K (Fd t) m ar)
theorem Nq(T:Txt K mg t):sy T t.tU t.t7 ["_law_script","_law_k"] 1 (aU 2 e_) 2:=fL (st:=gq) ["_law_script","_law_k"] T.jl p8 λh n u=>
 (aF (j7 (dm (Yd u) (aj 1) (uo TY rfl T.Vq T_ (au (aj 0) aG)) (bW _)) (aK (a_ (mY u (aj 0) (aj 1)))) fQ)
  (aK (a_ aN)))
theorem xj(T:Txt K mg t):g8 P w K mg base CX0 1 t.jb t.oZ ["self","at"] (DG K "at"):=
 adb (k:=0) T.xQ G9 rfl λcdv A outer s H E=>YZ (aeh (pv 0) (pv 1) rfl)
theorem yu(T:Txt K mg t):sy T t.h_ t.ie ["self","S"] 3 (aU 2 cA) 2:=fL (st:=bA) ["self","S"] T.pU p8 λh n u=>
 (aK (j7 (dm (Dq u) (cG adw (aj 1) (aL (cs:=[16]) ⟨⟨T.bN,T.gW⟩,zaa⟩ (aj 0))) aN (bW _)) (aK (U3 (c:=4) T.Jc T.vQ (xj T) h.mo T.tK rfl T.Ec rfl mX (au (aj 1) aG))) fQ))
theorem Km(T:Txt K mg t):sy T t.Aw t.Bb ["self","base","base_term","base_roll","entries"] 1 (aU 5 qG) 5:=fL (st:=mD) ["self","base","base_term","base_roll","entries"] T.KH p8 λh n u=>
 (aF (bO (cs:=[8]) ⟨⟨T.bz,T.dw⟩,zaa⟩ (aj 0) (aj 1))
  (aF (bO (cs:=[8]) ⟨⟨T.bz,T.eG⟩,zaa⟩ (aj 0) (aj 2))
  (aF (bO (cs:=[8]) ⟨⟨T.bz,T.eN⟩,zaa⟩ (aj 0) (aj 3))
  (aK (bO (cs:=[8,9,15]) ⟨⟨T.bz,T.dM⟩,⟨⟨T.bh,T.dh⟩,⟨⟨T.aD,T.dg⟩,zaa⟩⟩⟩ (aj 0) (Cj TX rfl T.JN Iv (au (aj 4) aG)))))))
theorem Kl(T:Txt K mg t):sy T t.Aq t.Az ["self"] 3 (aU 1 qF) 1:=fL (st:=mj) ["self"] T.Kz p8 λh n u=>
 (aK (a_ (wZ (kc:=8) T.Gv (Km T) mX h.mo rfl T.Xe T.qG .nil (au (aL (cs:=[8]) ⟨⟨T.bz,T.dw⟩,zaa⟩ (aj 0)) (au (aL (cs:=[8]) ⟨⟨T.bz,T.eG⟩,zaa⟩ (aj 0)) (au (aL (cs:=[8]) ⟨⟨T.bz,T.eN⟩,zaa⟩ (aj 0)) (au (aL (cs:=[8,9,15]) ⟨⟨T.bz,T.dM⟩,⟨⟨T.bh,T.dh⟩,⟨⟨T.aD,T.dg⟩,zaa⟩⟩⟩ (aj 0)) aG)))))))
theorem Sg(T:Txt K mg t):sy T t.xZ t.yh ["self","term","vote","row","kept"] 4 (aU 5 qT) 5:=fL (st:=jN) ["self","term","vote","row","kept"] T.Ii p8 λh n u=>
 (aF (bO (cs:=[9,15]) ⟨⟨T.bh,T.bG⟩,⟨⟨T.aD,T.bF⟩,zaa⟩⟩ (aj 0) (aj 1))
  (aF (bO (cs:=[9,15]) ⟨⟨T.bh,T.fD⟩,⟨⟨T.aD,T.fC⟩,zaa⟩⟩ (aj 0) (aj 2))
  (aF (bO (cs:=[9,15]) ⟨⟨T.bh,T.bI⟩,⟨⟨T.aD,T.bH⟩,zaa⟩⟩ (aj 0) (aY (kc:=8) (aj 3) T.bz T.CT (Kl T) mX h.mo T.qF .nil))
  (aK (bO (cs:=[8,9,15]) ⟨⟨T.bz,T.dM⟩,⟨⟨T.bh,T.dh⟩,⟨⟨T.aD,T.dg⟩,zaa⟩⟩⟩ (aj 0) (aj 4))))))
theorem Fl(T:Txt K mg t):sy T t.vz t.vJ ["self"] 1 (aU 3 mU) 1:=fL (st:=iC) ["self","values","answers"] T.Fx p8 λh n u=>
 (aF (YC (k:=1) rfl [] [] n rfl rfl (yp (Mu rfl (aL (cs:=[14]) ⟨⟨T.rZ,T.eF⟩,zaa⟩ (aj 0)) rfl T.Hy)) zaa (λ_ _ _ _ _=>(G5 (dm (Dq u) (mY u (aj 0) aN) aN (bW _)))) (λ_ _ _ _ _=>(aj 0)) (by decide +kernel) (by decide +kernel) (by decide +kernel) (by decide +kernel))
  (aF (abL (k:=2) rfl ["ask","answer"] [] [] n rfl rfl (yp (Mu rfl (aL (cs:=[14]) ⟨⟨T.rZ,T.dJ⟩,zaa⟩ (aj 0)) rfl T.Hy)) zaa (λ_ _ _ _ _=>(abM rfl (G8 (Lk (i:=0) (show((["ask","answer"]:List Str)++([]:List Str)).Nodup from by decide +kernel) rfl (.inl (lookup_relabel_local rfl)) (by decide) (.inr (lookup_relabel_local rfl))) (G8 (Lk (i:=1) (show((["ask","answer"]:List Str)++([]:List Str)).Nodup from by decide +kernel) rfl (.inl (lookup_relabel_local rfl)) (by decide) (.inr (lookup_relabel_local rfl))) YD)))) (λ_ _ _ _ _=>Rq) (λ_ _ _ _ _=>(cG pO (aj 0) (fU (au (aj 1) aG)))) (by decide +kernel) (by decide +kernel) (by decide +kernel))
  (aK (a_ (fU (au (Cj VG rfl T.Sw VM (au (aj 1) aG)) (au (Cj VG rfl T.Sw VM (au (aj 2) aG)) aG)))))))
theorem Fo(T:Txt K mg t):sy T t.vA t.vK ["self"] 1 (aU 1 mV) 1:=fL (st:=iD) ["self"] T.Fy p8 λh n u=>
 (aF (bO (cs:=[14]) ⟨⟨T.rZ,T.eF⟩,zaa⟩ (aj 0) DP)
  (aK (bO (cs:=[14]) ⟨⟨T.rZ,T.dJ⟩,zaa⟩ (aj 0) DP)))
theorem Vj(T:Txt K mg t):sy T t.An t.Ax ["told"] 3 (aU 7 tD) 1:=fL (st:=lZ) ["told","shelf","name","value","who","number","answer"] T.Df p8 λh n u=>
 (aF (d8 (i:=1) n rfl Kv (U7 (kc:=14) T.vY (Fo T) mX h.mo rfl T.NK T.mV .nil))
  (aF (zY (n6 rfl rfl) rfl (yp (mY u (aj 0) aN)) (abO rfl (Ci (p7 (i:=2) n rfl Kv) (Ci (p7 (i:=3) n rfl Kv) YF))) (aK (Rt u (aL (cs:=[14]) ⟨⟨T.rZ,T.eF⟩,zaa⟩ (aj 1)) (aj 2) (aj 3))))
  (aF (zY (n6 rfl rfl) rfl (yp (mY u (aj 0) aN)) (abO rfl (Ci (p7 (i:=4) n rfl Kv) (Ci (p7 (i:=5) n rfl Kv) (Ci (p7 (i:=6) n rfl Kv) YF)))) (aK (Rt u (aL (cs:=[14]) ⟨⟨T.rZ,T.dJ⟩,zaa⟩ (aj 1)) (fU (au (aj 4) (au (aj 5) aG))) (aj 6))))
  (aK (a_ (aj 1))))))
theorem R6(T:Txt K mg t):sy T t.xU t.uG ["self","me","book","note"] 4 (aU 4 qP) 4:=fL (st:=lN) ["self","me","book","note"] T.H_ p8 λh n u=>
 (aF (bO (cs:=[13,15]) ⟨⟨T.bV,T.cR⟩,⟨⟨T.aD,T.dI⟩,zaa⟩⟩ (aj 0) (aj 1))
  (aF (bO (cs:=[15]) ⟨⟨T.aD,T.mF⟩,zaa⟩ (aj 0) (aj 3))
  (aF (bO (cs:=[9,15]) ⟨⟨T.bh,T.bG⟩,⟨⟨T.aD,T.bF⟩,zaa⟩⟩ (aj 0) (aL (cs:=[9,15]) ⟨⟨T.bh,T.bG⟩,⟨⟨T.aD,T.bF⟩,zaa⟩⟩ (aj 2)))
  (aF (bO (cs:=[9,15]) ⟨⟨T.bh,T.fD⟩,⟨⟨T.aD,T.fC⟩,zaa⟩⟩ (aj 0) (aL (cs:=[9,15]) ⟨⟨T.bh,T.fD⟩,⟨⟨T.aD,T.fC⟩,zaa⟩⟩ (aj 2)))
  (aF (bO (cs:=[9,15]) ⟨⟨T.bh,T.bI⟩,⟨⟨T.aD,T.bH⟩,zaa⟩⟩ (aj 0) (aY (kc:=8) (aL (cs:=[9,15]) ⟨⟨T.bh,T.bI⟩,⟨⟨T.aD,T.bH⟩,zaa⟩⟩ (aj 2)) T.bz T.CT (Kl T) mX h.mo T.qF .nil))
  (aF (bO (cs:=[8,9,15]) ⟨⟨T.bz,T.dM⟩,⟨⟨T.bh,T.dh⟩,⟨⟨T.aD,T.dg⟩,zaa⟩⟩⟩ (aj 0) (aL (cs:=[8,9,15]) ⟨⟨T.bz,T.dM⟩,⟨⟨T.bh,T.dh⟩,⟨⟨T.aD,T.dg⟩,zaa⟩⟩⟩ (aj 2)))
  (aF (bO (cs:=[15]) ⟨⟨T.aD,T.cj⟩,zaa⟩ (aj 0) (aL (cs:=[8]) ⟨⟨T.bz,T.dw⟩,zaa⟩ (aL (cs:=[9,15]) ⟨⟨T.bh,T.bI⟩,⟨⟨T.aD,T.bH⟩,zaa⟩⟩ (aj 0))))
  (aF (bO (cs:=[15]) ⟨⟨T.aD,T.iM⟩,zaa⟩ (aj 0) (aL (cs:=[8]) ⟨⟨T.bz,T.dw⟩,zaa⟩ (aL (cs:=[9,15]) ⟨⟨T.bh,T.bI⟩,⟨⟨T.aD,T.bH⟩,zaa⟩⟩ (aj 0))))
  (aF (bO (cs:=[15]) ⟨⟨T.aD,T.jW⟩,zaa⟩ (aj 0) (fV (Vj T) mX h.mo rfl T.Ko T.Df.kp T.tD .nil (au (aL (cs:=[8,9,15]) ⟨⟨T.bz,T.dM⟩,⟨⟨T.bh,T.dh⟩,⟨⟨T.aD,T.dg⟩,zaa⟩⟩⟩ (aj 2)) aG)))
  (aF (bO (cs:=[15]) ⟨⟨T.aD,T.gH⟩,zaa⟩ (aj 0) qY)
  (aK (bO (cs:=[15]) ⟨⟨T.aD,T.bx⟩,zaa⟩ (aj 0) (Qq (kc:=11) T.JP rfl T.JL)))))))))))))
theorem JD(T:Txt K mg t)(cu:PySem.W.CodeHd base t.bB t.aP/\base.BuiltinsAt mg t.aP):g8 P w K mg base (wV P w) 6 t.m8 t.jz ["self","h","book"] (spS K (Fd t) qb 3):=by
 show g8 P w K mg base (wV P w) (5+1) t.m8 t.jz ["self","h","book"] (spS K (Fd t) (aU 3 iz) 3)
 have V7:= @R6 K mg t T P w base
 refine anG (n:=3) (ar:=3) (k:=5) (b:=iz) T.zu Jm rfl rfl ?_
 intro cdv A outer s H E W hcd hr
 obtain rfl:cdv= .ref t.bB:=hcd.symm.trans T.bB
 exact(abJ (λy=> !(y== "self")) (λ_ _=>rfl)
  (aK (Rt hr.units (aL (cs:=[16]) ⟨⟨T.bN,T.cP⟩,zaa⟩ (aj 0)) (aj 1) (wZ (kc:=15) T.Ea V7 Tk.wish (hr.mono (by decide)) rfl T.Za T.qP .nil (au (aj 1) (au (aj 2) (au (Z5 0 (k:=1000) ⟨rfl,rfl,rfl,rfl,rfl,by decide,by decide,rfl,rfl,rfl,rfl,rfl,λ_ z=>ahF z,λ_ _ _ _ _ _ _=>rfl⟩ rfl (by decide) T.iY rfl rfl (by first | exact Nat.le_succ _ | exact ahE | (show s.heap.objs.size<=_;lia)) rfl rfl cu.1 cu.2 rfl) aG)))))))
theorem Sd(T:Txt K mg t)(cu:PySem.W.CodeHd base t.bB t.aP/\base.BuiltinsAt mg t.aP):g8 P w K mg base (wV P w) 7 t.uF t.qM ["self","number","S","term"] (spS K (Fd t) oh 4):=by
 show g8 P w K mg base (wV P w) (6+1) t.uF t.qM ["self","number","S","term"] (spS K (Fd t) (aU 6 lR) 4)
 have J7:= @xj P w K mg base t T
 have zE:= @yu K mg t T P w base
 have V9:= @Sg K mg t T P w base
 have Ys:= @Km K mg t T P w base
 have Uo:= @Fl K mg t T P w base
 have Up:= @Fo K mg t T P w base
 have Lf:= @JD P w K mg base t T cu
 refine ade (n:=6) (ar:=4) (k:=6) (b:=lR) (x:= "__init__") (qual:= "Hall.__init__") (st:=jM) T.Ih zZ rfl rfl ?_
 intro cdv A outer s H E W hr
 exact(aF (bO (cs:=[16]) ⟨⟨T.bN,T.gW⟩,zaa⟩ (aj 0) (aj 1))
  (aF (j7 (dm (wO hr.units) (aj 2) aN (bW _)) (aK (U3 (c:=4) T.Jc T.vQ J7 (hr.mono (by decide)) T.tK rfl T.Ec rfl Tk.wish (au (aj 2) aG))) fQ)
  (aF (gm (cH (kc:=16) (aj 0) T.bN T.pP zE Tk.wish (hr.mono (by decide)) T.cA .nil (au (aj 2) aG)))
  (aF (bO (cs:=[16]) ⟨⟨T.bN,T.fM⟩,zaa⟩ (aj 0) (pI aG))
  (aF (bO (cs:=[16]) ⟨⟨T.bN,T.gJ⟩,zaa⟩ (aj 0) (pI aG))
  (aF (bO (cs:=[16]) ⟨⟨T.bN,T.cP⟩,zaa⟩ (aj 0) DP)
  (aF (bO (cs:=[16]) ⟨⟨T.bN,T.jX⟩,zaa⟩ (aj 0) DP)
  (aF (d8 (i:=4) zZ.nd rfl (Or.inl rfl) (wZ (kc:=9) T.Eb V9 Tk.wish (hr.mono (by decide)) rfl T.Zb T.qT .nil (au (aj 3) (au qY (au (wZ (kc:=8) T.Gv Ys Tk.wish (hr.mono (by decide)) rfl T.Xe T.qG .nil (au aN (au aN (au (fU (au (aj 2) (au aN aG))) (au (pI aG) aG))))) (au (aY (kc:=14) (U7 (kc:=14) T.vY Up Tk.wish (hr.mono (by decide)) rfl T.NK T.mV .nil) T.rZ T.yw Uo Tk.wish (hr.mono (by decide)) T.mU .nil) aG))))))
  (aK (zY (n6 rfl rfl) rfl (DK rfl T.Ad (au (aj 1) aG)) (p7 (i:=5) zZ.nd rfl (Or.inl rfl)) (aK (gm (cH (kc:=16) (aj 0) T.bN T.yV Lf Tk.wish (hr.mono (by decide)) T.iz .nil (au (aj 5) (au (aj 4) aG)))))))))))))))
theorem Kg(T:Txt K mg t)(cu:PySem.W.CodeHd base t.bB t.aP/\base.BuiltinsAt mg t.aP):g8 P w K mg base (wV P w) 9 t.wL t.wN ["_law_width","_law_first","_law_term"] (spS K (Fd t) qu 3):=by
 show g8 P w K mg base (wV P w) (8+1) t.wL t.wN ["_law_width","_law_first","_law_term"] (spS K (Fd t) (aU 3 mR) 3)
 have KY:= @Sd P w K mg base t T cu
 refine ade (n:=3) (ar:=3) (k:=8) (b:=mR) (x:= "_law_made") (qual:= "_law_made") (st:=jU) T.xH U8 rfl rfl ?_
 intro cdv A outer s H E W hr
 exact(aF (j7 (dm aqu (aj 2) qY (bW _)) (aK (a_ (wZ (kc:=16) T.Aa KY Tk.wish (hr.mono (by decide)) rfl T.Sv T.Iw (.cons (.int _ _) .nil) (au (aj 0) (au (aj 1) aG))))) fQ)
  (aK (a_ (wZ (kc:=16) T.Aa KY Tk.wish (hr.mono (by decide)) rfl T.Sv T.lR .nil (au (aj 0) (au (aj 1) (au (aj 2) aG)))))))
theorem Np(T:Txt K mg t)(cu:PySem.W.CodeHd base t.bB t.aP/\base.BuiltinsAt mg t.aP):g8 P w K mg base (wV P w) 10 t.pW t.pY ["_law_width","_law_first","_law_term"] (spS K (Fd t) tQ 3):=by
 show g8 P w K mg base (wV P w) (9+1) t.pW t.pY ["_law_width","_law_first","_law_term"] (spS K (Fd t) (aU 5 j4) 3)
 have GF:= @Kg P w K mg base t T cu
 refine ade (n:=5) (ar:=3) (k:=9) (b:=j4) (x:= "_law_refused") (qual:= "_law_refused") (st:=eZ) T.wH nZ rfl rfl ?_
 intro cdv A outer s H E W hr
 exact(aF (d8 (i:=3) nZ.nd rfl (Or.inl rfl) qY)
  (aF (abK (i:=4) (cl:=[(0,false),(3,false),(4,true)]) (v:= .ref t.dR) (cv:= .ref t.dR) rfl rfl Tk.wish (λ_ z=>z) (λ_=>Y7 (v:= .ref t.dR) rfl T.Ec rfl) ⟨T.uT,⟨T.wW,⟨T.yL,zaa⟩⟩⟩ nZ.nd rfl rfl rfl (λ_ _=>(aK (gm (fV GF Tk.wish (hr.mono (by decide)) rfl T.CK T.xH.kp T.mR .nil (au (aj 0) (au (aj 1) (au (aj 2) aG))))))) (λ_=>(aF (d8 (i:=3) nZ.nd rfl (Or.inl rfl) (agp (cs:=[0,3,4]) ⟨⟨T.u_,T.u9⟩,⟨⟨T.zT,T.zP⟩,⟨⟨T.vQ,T.Dy⟩,zaa⟩⟩⟩ (aj 4)))
  (aK (j7 (SW.pt (Qo (zX (uo (adq (k:=3) (cl:=[(0,false),(3,true),(4,false)]) ⟨⟨T.uA,T.u_,T.u9⟩,⟨⟨T.wF,T.zT,T.zP⟩,⟨⟨T.xG,T.vQ,T.Dy⟩,zaa⟩⟩⟩) rfl T.rA uh (au (aj 4) (au (WM (k:=3) rfl T.NP) aG)))) (Ml (Rr (zX (uo (adq (k:=0) (cl:=[(0,true),(3,true),(4,true)]) ⟨⟨T.rH,T.u_,T.u9⟩,⟨⟨T.uz,T.zT,T.zP⟩,⟨⟨T.uW,T.vQ,T.Dy⟩,zaa⟩⟩⟩) rfl T.rA uh (au (aj 4) (au (WM (k:=0) rfl T.Hr) aG)))))))) (aK (d8 (i:=3) nZ.nd rfl (Or.inl rfl) qY)) fQ)))))
  (aK (a_ (Rx (yq (wO hr.units) (aj 3) (aj 1) (bW _)) (Mv (agq (uo ahW rfl T.rA uh (au (aj 3) (au (ajW rfl T.acP afh) aG))))))))))
theorem rz(T:Txt K mg t):sy T t.jo t.jq ["self","h"] 1 (aU 2 cW) 2:=fL (st:=bJ) ["self","h"] T.rJ p8 λh n u=>
 (aK (j7 (SW.pt (Qo (dm (Yd u) (aj 1) aN (bW _)) (Ml (dm Zy (aj 1) (aL (cs:=[16]) ⟨⟨T.bN,T.gW⟩,zaa⟩ (aj 0)) (bW _))))) (aK um) fQ))
theorem aav(T:Txt K mg t):sy T t.Ij t.Ir ["word","hand"] 2 (aU 2 zz) 2:=fL (st:=qZ) ["word","hand"] T.J0 p8 λh n u=>
 (@aK _ _ _ _ _ (@a_ _ _ _ _ _ _ (@fU _ _ _ _ _ _ _ (@bu _ _ _ _ _ _ _ (aj 0) (@bu _ _ _ _ _ _ _ (aL (cs:=[9,15]) ⟨⟨T.bh,T.bG⟩,⟨⟨T.aD,T.bF⟩,zaa⟩⟩ (aj 1)) (@bu _ _ _ _ _ _ _ (aL (cs:=[9,15]) ⟨⟨T.bh,T.fD⟩,⟨⟨T.aD,T.fC⟩,zaa⟩⟩ (aj 1)) (@bu _ _ _ _ _ _ _ (aL (cs:=[15]) ⟨⟨T.aD,T.gH⟩,zaa⟩ (aj 1)) (@bu _ _ _ _ _ _ _ (aL (cs:=[15]) ⟨⟨T.aD,T.cj⟩,zaa⟩ (aj 1)) (@bu _ _ _ _ _ _ _ (aL (cs:=[15]) ⟨⟨T.aD,T.iM⟩,zaa⟩ (aj 1)) (@bu _ _ _ _ _ _ _ (aY (kc:=14) (aL (cs:=[15]) ⟨⟨T.aD,T.jW⟩,zaa⟩ (aj 1)) T.rZ T.yw (Fl T) mX h.mo T.mU .nil) aG rfl) rfl) rfl) rfl) rfl) rfl) rfl))))
theorem Nt(T:Txt K mg t):sy T t.tV t.t8 ["self"] 1 (aU 1 nj) 1:=fL (st:=gw) ["self"] T.Dg p8 λh n u=>
 (aK (a_ lY))
theorem PX(T:Txt K mg t):sy T t.vG t.vO ["self"] 1 (aU 1 pA) 1:=fL (st:=iJ) ["self"] T.FP p8 λh n u=>
 (aK (a_ lY))
theorem PL(T:Txt K mg t):sy T t.vC t.vM ["self"] 1 (aU 1 o_) 1:=fL (st:=iH) ["self"] T.FJ p8 λh n u=>
 (aK (a_ lY))
theorem R7(T:Txt K mg t):sy T t.xV t.yd ["self","h"] 3 (aU 2 oF) 2:=fL (st:=jH) ["self","h"] T.Ia p8 λh n u=>
 (aF (gm (cH (kc:=16) (aj 0) T.bN T.mG (rz T) mX h.mo T.cW .nil (au (aj 1) aG)))
  (aF (j7 (dm (adx u) (aj 1) (aL (cs:=[16]) ⟨⟨T.bN,T.cP⟩,zaa⟩ (aj 0)) (by with_unfolding_all rfl)) (aK (a_ (fV (aav T) mX h.mo rfl T.QB T.J0.kp T.zz .nil (au (SE.or (aY (kc:=11) (aL (cs:=[15]) ⟨⟨T.aD,T.bx⟩,zaa⟩ (mY u (aL (cs:=[16]) ⟨⟨T.bN,T.cP⟩,zaa⟩ (aj 0)) (aj 1))) T.Q4 T.CQ (Nt T) mX h.mo T.nj .nil) (SE.or (aY (kc:=12) (aL (cs:=[15]) ⟨⟨T.aD,T.bx⟩,zaa⟩ (mY u (aL (cs:=[16]) ⟨⟨T.bN,T.cP⟩,zaa⟩ (aj 0)) (aj 1))) T.Dp T.Ft (PX T) mX h.mo T.pA .nil) (aY (kc:=13) (aL (cs:=[15]) ⟨⟨T.aD,T.bx⟩,zaa⟩ (mY u (aL (cs:=[16]) ⟨⟨T.bN,T.cP⟩,zaa⟩ (aj 0)) (aj 1))) T.bV T.Fq (PL T) mX h.mo T.o_ .nil))) (au (mY u (aL (cs:=[16]) ⟨⟨T.bN,T.cP⟩,zaa⟩ (aj 0)) (aj 1)) aG))))) fQ)
  (aK um)))
theorem R9(T:Txt K mg t):sy T t.xX t.yf ["self"] 1 (aU 1 lQ) 1:=fL (st:=jK) ["self"] T.Ie p8 λh n u=>
 (aK (a_ (Cj TX rfl T.JN Iv (au (aL (cs:=[16]) ⟨⟨T.bN,T.fM⟩,zaa⟩ (aj 0)) aG))))
theorem Nx(T:Txt K mg t):sy T t.t6 t.ug ["self"] 1 (aU 1 j6) 1:=fL (st:=gG) ["self"] T.Dl p8 λh n u=>
 (aK (a_ (Cj TX rfl T.JN Iv (au (aL (cs:=[16]) ⟨⟨T.bN,T.gJ⟩,zaa⟩ (aj 0)) aG))))
theorem K5(T:Txt K mg t):sy T t.rN t.rT ["self"] 1 (aU 1 lJ) 1:=fL (st:=fu) ["self"] T.BJ p8 λh n u=>
 (aK (a_ (Ln rfl [] [] (yp (aL (cs:=[16]) ⟨⟨T.bN,T.gJ⟩,zaa⟩ (aj 0))) zaa (λ_ _ _ _ _=>(G5 (dm (adx u) (mY u (aj 0) aN) (fU (au lY (au lY aG))) (by with_unfolding_all rfl)))) (λ_ _ _ _ _=>(aj 0)) (by decide +kernel) (by decide +kernel) (by decide +kernel) (by decide +kernel))))
theorem R8(T:Txt K mg t):sy T t.xW t.ye ["self","letters"] 1 (aU 2 qQ) 2:=fL (st:=jJ) ["self","letters"] T.Ib p8 λh n u=>
 (aK (gm (abV PySem.F.plainAttrs_list PySem.F.slot_list_extend PySem.F.type_list_extend aaB (aL (cs:=[16]) ⟨⟨T.bN,T.fM⟩,zaa⟩ (aj 0)) (au (aj 1) aG))))
theorem JC(T:Txt K mg t):sy T t.qg t.qj ["self"] 1 (aU 1 jB) 1:=fL (st:=dX) ["self"] T.zq p8 λh n u=>
 (aK (a_ (uo (ahV (k:=13) (cl:=[(11,false)]) ⟨⟨T.jy,T.Qx⟩,zaa⟩) rfl T.rA uh (au (aL (cs:=[15]) ⟨⟨T.aD,T.bx⟩,zaa⟩ (aj 0)) (au (WM (k:=13) rfl T.NQ) aG)))))
theorem PK(T:Txt K mg t):sy T t.vB t.vL ["self","term"] 1 (aU 2 o9) 2:=fL (st:=iG) ["self","term"] T.Fz p8 λh n u=>
 (aF (bO (cs:=[9,15]) ⟨⟨T.bh,T.bG⟩,⟨⟨T.aD,T.bF⟩,zaa⟩⟩ (aj 0) (aj 1))
  (aF (bO (cs:=[9,15]) ⟨⟨T.bh,T.fD⟩,⟨⟨T.aD,T.fC⟩,zaa⟩⟩ (aj 0) qY)
  (aF (bO (cs:=[15]) ⟨⟨T.aD,T.gH⟩,zaa⟩ (aj 0) qY)
  (aK (bO (cs:=[15]) ⟨⟨T.aD,T.bx⟩,zaa⟩ (aj 0) (Qq (kc:=11) T.JP rfl T.JL))))))
theorem jh(T:Txt K mg t):sy T t.nH t.nO ["self","paper"] 2 (aU 3 cD) 2:=fL (st:=cX) ["self","paper","note"] T.wI p8 λh n u=>
 (aF (d8 (i:=2) n rfl Kv (aL (cs:=[15]) ⟨⟨T.aD,T.mF⟩,zaa⟩ (aj 0)))
  (aK (j7 (dm VP (aj 2) qY (bW _)) (aK (gm (abU (f:= "noted") (cs:=[16]) ⟨⟨T.bN,T.gJ⟩,zaa⟩ (aj 2) (au (aj 1) aG) h.mo))) fQ)))
theorem Ho(T:Txt K mg t):sy T t.oV t.oY ["self","whom"] 3 (aU 2 je) 2:=fL (st:=dD) ["self","whom"] T.xP p8 λh n u=>
 (aF (bO (cs:=[9,15]) ⟨⟨T.bh,T.fD⟩,⟨⟨T.aD,T.fC⟩,zaa⟩⟩ (aj 0) (aj 1))
  (aK (gm (cH (kc:=15) (aj 0) T.aD T.fZ (jh T) mX h.mo T.cD .nil (au (fU (au lY (au (aL (cs:=[13,15]) ⟨⟨T.bV,T.cR⟩,⟨⟨T.aD,T.dI⟩,zaa⟩⟩ (aj 0)) (au (aL (cs:=[9,15]) ⟨⟨T.bh,T.bG⟩,⟨⟨T.aD,T.bF⟩,zaa⟩⟩ (aj 0)) (au (aj 1) aG))))) aG)))))
theorem Qw(T:Txt K mg t):sy T t.Im t.Iu ["hands"] 1 (aU 3 wQ) 1:=fL (st:=q_) ["hands","S","hand"] T.El p8 λh n u=>
 (aF (d8 (i:=1) n rfl Kv aN)
  (aF (zY (n6 rfl rfl) rfl (yp (aj 0)) (p7 (i:=2) n rfl Kv) (aK (d8 (i:=1) n rfl Kv (cG af4 (aj 1) (cG Pa aN (aj 2))))))
  (aK (a_ (aj 1)))))
theorem P0(T:Txt K mg t):sy T t.vH t.vP ["self","me"] 2 (aU 2 pB) 2:=fL (st:=iK) ["self","me"] T.FQ p8 λh n u=>
 (aK (bO (cs:=[12]) ⟨⟨T.Dp,T.fP⟩,zaa⟩ (aj 0) (fV (Qw T) mX h.mo rfl T.JK T.El.kp T.wQ .nil (au (pI (au (aj 1) aG)) aG))))
theorem lO(T:Txt K mg t):sy T t.Av t.Ba ["self"] 1 (aU 1 gh) 1:=fL (st:=mz) ["self"] T.KD p8 λh n u=>
 (aK (a_ (cG pO (aL (cs:=[8]) ⟨⟨T.bz,T.dw⟩,zaa⟩ (aj 0)) (uo TY rfl T.Vq T_ (au (aL (cs:=[8,9,15]) ⟨⟨T.bz,T.dM⟩,⟨⟨T.bh,T.dh⟩,⟨⟨T.aD,T.dg⟩,zaa⟩⟩⟩ (aj 0)) aG)))))
theorem R4(T:Txt K mg t):sy T t.xR t.x_ ["self","place"] 2 (aU 2 qO) 2:=fL (st:=jF) ["self","place"] T.HX p8 λh n u=>
 (aK (a_ (Rx (yq (Yd u) (aL (cs:=[8]) ⟨⟨T.bz,T.dw⟩,zaa⟩ (aj 0)) (aj 1) (bW _)) (Mv (yq aqt (aj 1) (aY (kc:=8) (aj 0) T.bz T.jO (lO T) mX h.mo T.gh .nil) (bW _))))))
theorem p_(T:Txt K mg t):sy T t.rK t.rQ ["self","place"] 3 (aU 2 fH) 2:=fL (st:=fc) ["self","place"] T.Bw p8 λh n u=>
 (aF (j7 (Rr (zX (cH (kc:=8) (aj 0) T.bz T.Hs (R4 T) mX h.mo T.qO .nil (au (aj 1) aG)))) (aK um) fQ)
  (aK (a_ (mY u (aL (cs:=[8,9,15]) ⟨⟨T.bz,T.dM⟩,⟨⟨T.bh,T.dh⟩,⟨⟨T.aD,T.dg⟩,zaa⟩⟩⟩ (aj 0)) (cG Yc (cG Yc (aj 1) (aL (cs:=[8]) ⟨⟨T.bz,T.dw⟩,zaa⟩ (aj 0))) aN)))))
theorem Cw(T:Txt K mg t):sy T t.tW t.t_ ["self","place"] 4 (aU 2 iW) 2:=fL (st:=gA) ["self","place"] T.Dh p8 λh n u=>
 (aF (j7 (dm (wO u) (aj 1) (aL (cs:=[8]) ⟨⟨T.bz,T.dw⟩,zaa⟩ (aj 0)) (bW _)) (aK (a_ (aL (cs:=[8]) ⟨⟨T.bz,T.eG⟩,zaa⟩ (aj 0)))) fQ)
  (aK (a_ (mY u (cH (kc:=8) (aj 0) T.bz T.mZ (p_ T) mX h.mo T.fH .nil (au (aj 1) aG)) aN))))
theorem Xb(T:Txt K mg t):sy T t.Ep t.Et ["self"] 5 (aU 1 vW) 1:=fL (st:=oK) ["self"] T.OJ p8 λh n u=>
 (aK (a_ (fU (au (cH (kc:=8) (aj 0) T.bz T.vZ (Cw T) mX h.mo T.iW .nil (au (aY (kc:=8) (aj 0) T.bz T.jO (lO T) mX h.mo T.gh .nil) aG)) (au (aY (kc:=8) (aj 0) T.bz T.jO (lO T) mX h.mo T.gh .nil) aG)))))
theorem Kh(T:Txt K mg t):sy T t.Ao t.Ay ["S"] 1 (aU 1 qD) 1:=fL (st:=l_) ["S"] T.xJ p8 λh n u=>
 (aK (a_ (Ln rfl ["S"] [0] (DK rfl T.Ad (au (ags PySem.F.plainAttrs_int PySem.F.slot_int_bit_length PySem.F.type_int_bit_length aeD (aj 0)) aG)) ⟨⟨rfl,rfl,by first | exact .inl rfl | exact .inr rfl⟩,zaa⟩ (λ_ _ _ _ _=>(G5 (dm (Dq u) (cG Ye (aj 1) (cG Pa aN (aj 0))) aN (bW _)))) (λ_ _ _ _ _=>(aj 0)) (by decide +kernel) (by decide +kernel) (by decide +kernel) (by decide +kernel))))
theorem W_(T:Txt K mg t):sy T t.Em t.Er ["roll"] 1 (aU 1 vU) 1:=fL (st:=oH) ["roll"] T.Gz p8 λh n u=>
 (aK (a_ (cG af4 (mY u (aj 0) aN) (mY u (aj 0) aN))))
theorem uq(T:Txt K mg t):sy T t.kO t.kZ ["self","place"] 4 (aU 2 cU) 2:=fL (st:=b8) ["self","place"] T.uC p8 λh n u=>
 (aF (U0 (n6 rfl rfl) (SW.pt (Wz (dm VR (aj 1) (aL (cs:=[8]) ⟨⟨T.bz,T.dw⟩,zaa⟩ (aj 0)) (bW _)) (Rp (dm (Dq u) (mY u (mY u (cH (kc:=8) (aj 0) T.bz T.mZ (p_ T) mX h.mo T.fH .nil (au (aj 1) aG)) aN) aN) lY (bW _))))) (aK (d8 (i:=1) n rfl Kv (cG Yc (aj 1) aN))))
  (aK (a_ (aj 1))))
theorem Nu(T:Txt K mg t):sy T t.tX t.ud ["self","place"] 5 (aU 4 nq) 2:=fL (st:=gB) ["self","place","found","what"] T.Di p8 λh n u=>
 (aF (d8 (i:=2) n rfl Kv (cH (kc:=8) (aj 0) T.bz T.n8 (uq T) mX h.mo T.cU .nil (au (aj 1) aG)))
  (aF (j7 (dm (wO u) (aj 2) (aL (cs:=[8]) ⟨⟨T.bz,T.dw⟩,zaa⟩ (aj 0)) (bW _)) (aK (a_ (aL (cs:=[8]) ⟨⟨T.bz,T.eN⟩,zaa⟩ (aj 0)))) fQ)
  (aF (d8 (i:=3) n rfl Kv (mY u (cH (kc:=8) (aj 0) T.bz T.mZ (p_ T) mX h.mo T.fH .nil (au (aj 2) aG)) aN))
  (aK (a_ (fU (au (mY u (aj 3) aN) (au (mY u (aj 3) aN) aG))))))))
theorem xg(T:Txt K mg t):sy T t.Ar t.A_ ["self"] 6 (aU 1 mW) 1:=fL (st:=mq) ["self"] T.KC p8 λh n u=>
 (aK (a_ (cH (kc:=8) (aj 0) T.bz T.CV (Nu T) mX h.mo T.nq .nil (au (aY (kc:=8) (aj 0) T.bz T.jO (lO T) mX h.mo T.gh .nil) aG))))
theorem Cz(T:Txt K mg t):sy T t.tZ t.uf ["self"] 7 (aU 1 j5) 1:=fL (st:=gF) ["self"] T.Dk p8 λh n u=>
 (aK (a_ (Ln rfl ["self"] [0] (yp (fV (Kh T) mX h.mo rfl T.CN T.xJ.kp T.qD .nil (au (fV (W_ T) mX h.mo rfl T.NB T.Gz.kp T.vU .nil (au (aY (kc:=8) (aL (cs:=[9,15]) ⟨⟨T.bh,T.bI⟩,⟨⟨T.aD,T.bH⟩,zaa⟩⟩ (aj 0)) T.bz T.uv (xg T) mX h.mo T.mW .nil) aG)) aG))) ⟨⟨rfl,rfl,by first | exact .inl rfl | exact .inr rfl⟩,zaa⟩ (λ_ _ _ _ _=>(G5 (dm (Dq u) (aj 0) (aL (cs:=[13,15]) ⟨⟨T.bV,T.cR⟩,⟨⟨T.aD,T.dI⟩,zaa⟩⟩ (aj 1)) (bW _)))) (λ_ _ _ _ _=>(aj 0)) (by decide +kernel) (by decide +kernel) (by decide +kernel) (by decide +kernel))))
theorem R0(T:Txt K mg t):sy T t.Tv t.TQ ["S"] 2 (aU 1 Ds) 1:=fL (st:=z6) ["S"] T.HW p8 λh n u=>
 (aK (a_ (uo TY rfl T.Vq T_ (au (fV (Kh T) mX h.mo rfl T.CN T.xJ.kp T.qD .nil (au (aj 0) aG)) aG))))
theorem Nr(T:Txt K mg t):sy T t.En t.zy ["S","part","half"] 3 (aU 4 tE) 3:=fL (st:=qH) ["S","part","half","twice"] T.Am p8 λh n u=>
 (aF (d8 (i:=3) n rfl Kv (cG aiQ aN (fV (R0 T) mX h.mo rfl T.Lw T.HW.kp T.Ds .nil (au (cG Ye (aj 0) (aj 1)) aG))))
  (aF (j7 (zX (aj 2)) (aK (a_ (yq Zy (aj 3) (fV (R0 T) mX h.mo rfl T.Lw T.HW.kp T.Ds .nil (au (aj 1) aG)) (bW _)))) fQ)
  (aK (a_ (yq VR (aj 3) (fV (R0 T) mX h.mo rfl T.Lw T.HW.kp T.Ds .nil (au (aj 1) aG)) (bW _))))))
theorem Y9(T:Txt K mg t):sy T t.Tu t.O7 ["roll","S","half"] 4 (aU 3 Ph) 3:=fL (st:=Ck) ["roll","S","half"] T.LQ p8 λh n u=>
 (aF (j7 (Rr (zX (fV (Nr T) mX h.mo rfl T.Gw T.Am.kp T.tE .nil (au (aj 1) (au (mY u (aj 0) aN) (au (aj 2) aG)))))) (aK (a_ YG)) fQ)
  (aK (a_ (ajY (yq (wO u) (mY u (aj 0) aN) aN (bW _)) (Mv (fV (Nr T) mX h.mo rfl T.Gw T.Am.kp T.tE .nil (au (aj 1) (au (mY u (aj 0) aN) (au (aj 2) aG)))))))))
theorem PN(T:Txt K mg t):sy T t.vD t.vN ["self","me","start"] 1 (aU 3 pq) 3:=fL (st:=iI) ["self","me","start"] T.FN p8 λh n u=>
 (aF (bO (cs:=[13,15]) ⟨⟨T.bV,T.cR⟩,⟨⟨T.aD,T.dI⟩,zaa⟩⟩ (aj 0) (aj 1))
  (aF (bO (cs:=[13]) ⟨⟨T.bV,T.lA⟩,zaa⟩ (aj 0) (aj 2))
  (aF (bO (cs:=[13]) ⟨⟨T.bV,T.gK⟩,zaa⟩ (aj 0) aN)
  (aF (bO (cs:=[13]) ⟨⟨T.bV,T.lB⟩,zaa⟩ (aj 0) DP)
  (aF (bO (cs:=[13]) ⟨⟨T.bV,T.fO⟩,zaa⟩ (aj 0) DP)
  (aK (bO (cs:=[13]) ⟨⟨T.bV,T.ji⟩,zaa⟩ (aj 0) (pI aG))))))))
theorem Xa(T:Txt K mg t):sy T t.Eo t.Es ["self","entry"] 2 (aU 2 vV) 2:=fL (st:=oJ) ["self","entry"] T.OD p8 λh n u=>
 (aF (gm (abV PySem.F.plainAttrs_list PySem.F.slot_list_append PySem.F.type_list_append Qz (aL (cs:=[8,9,15]) ⟨⟨T.bz,T.dM⟩,⟨⟨T.bh,T.dh⟩,⟨⟨T.aD,T.dg⟩,zaa⟩⟩⟩ (aj 0)) (au (aj 1) aG)))
  (aK (a_ (aY (kc:=8) (aj 0) T.bz T.jO (lO T) mX h.mo T.gh .nil))))
theorem E_(T:Txt K mg t):sy T t.mK t.mO ["self"] 1 (aU 1 gj) 1:=fL (st:=cJ) ["self"] T.uZ p8 λh n u=>
 (aK (bO (cs:=[13]) ⟨⟨T.bV,T.gK⟩,zaa⟩ (aj 0) (cG pO (aL (cs:=[13]) ⟨⟨T.bV,T.gK⟩,zaa⟩ (aj 0)) aN)))
theorem JB(T:Txt K mg t):sy T t.qe t.qi ["self"] 8 (aU 1 jA) 1:=fL (st:=dW) ["self"] T.zp p8 λh n u=>
 (aF (gm (aY (kc:=13) (aL (cs:=[15]) ⟨⟨T.aD,T.bx⟩,zaa⟩ (aj 0)) T.bV T.uV (E_ T) mX h.mo T.gj .nil))
  (aF (gm (cH (kc:=15) (aj 0) T.aD T.fZ (jh T) mX h.mo T.cD .nil (au (fU (au lY (au (aL (cs:=[9,15]) ⟨⟨T.bh,T.bG⟩,⟨⟨T.aD,T.bF⟩,zaa⟩⟩ (aj 0)) (au (aL (cs:=[13]) ⟨⟨T.bV,T.gK⟩,zaa⟩ (aL (cs:=[15]) ⟨⟨T.aD,T.bx⟩,zaa⟩ (aj 0))) aG)))) aG)))
  (aK (a_ (Ln rfl ["self"] [0] (yp (aY (kc:=15) (aj 0) T.aD T.v_ (Cz T) mX h.mo T.j5 .nil)) ⟨⟨rfl,rfl,by first | exact .inl rfl | exact .inr rfl⟩,zaa⟩ (λ_ _ _ _ _=>Rq) (λ_ _ _ _ _=>U6) (by decide +kernel) (by decide +kernel) (by decide +kernel) (by decide +kernel))))))
theorem BW(T:Txt K mg t):sy T t.jP t.jQ ["self","last"] 1 (aU 2 eV) 2:=fL (st:=bQ) ["self","last"] T.sI p8 λh n u=>
 (aK (a_ (agr rfl (cG pO (pI (au (aj 1) aG)) (abS rfl (aL (cs:=[13]) ⟨⟨T.bV,T.fO⟩,zaa⟩ (aj 0)) rfl T.JN)) rfl T.JN rfl T.N8 rfl T.Hy rfl T.afM)))
theorem Bp(T:Txt K mg t):sy T t.rO t.rW ["self","place"] 2 (aU 2 jm) 2:=fL (st:=fB) ["self","place"] T.BK p8 λh n u=>
 (aK (a_ (fV (Qw T) mX h.mo rfl T.JK T.El.kp T.wQ .nil (au (cG pO (pI (au (aL (cs:=[13,15]) ⟨⟨T.bV,T.cR⟩,⟨⟨T.aD,T.dI⟩,zaa⟩⟩ (aj 0)) aG)) (abT rfl ["hand","known"] ["place"] [1] (aL (cs:=[13]) ⟨⟨T.bV,T.fO⟩,zaa⟩ (aj 0)) ⟨⟨rfl,rfl,by first | exact .inl rfl | exact .inr rfl⟩,zaa⟩ (λ_ _ _ _ _=>(abM rfl (G8 (Lk (i:=0) (show((["hand","known"]:List Str)++(["place"]:List Str)).Nodup from by decide +kernel) rfl (.inl (lookup_relabel_local rfl)) (by decide) (.inr (lookup_relabel_local rfl))) (G8 (Lk (i:=1) (show((["hand","known"]:List Str)++(["place"]:List Str)).Nodup from by decide +kernel) rfl (.inl (lookup_relabel_local rfl)) (by decide) (.inr (lookup_relabel_local rfl))) YD)))) (λ_ _ _ _ _=>(G5 (dm Zy (aj 1) (aj 2) (bW _)))) (λ_ _ _ _ _=>(aj 0)) (by decide +kernel) (by decide +kernel) (by decide +kernel))) aG))))
theorem Hl(T:Txt K mg t):sy T t.oU t.oX ["self"] 7 (aU 3 jd) 1:=fL (st:=dB) ["self","roll","place"] T.xN p8 λh n u=>
 (aF (d8 (i:=1) n rfl Kv (aY (kc:=8) (aL (cs:=[9,15]) ⟨⟨T.bh,T.bI⟩,⟨⟨T.aD,T.bH⟩,zaa⟩⟩ (aj 0)) T.bz T.uv (xg T) mX h.mo T.mW .nil))
  (aF (zY (n6 rfl rfl) rfl (yp (cH (kc:=13) (aL (cs:=[15]) ⟨⟨T.aD,T.bx⟩,zaa⟩ (aj 0)) T.bV T.sH (BW T) mX h.mo T.eV .nil (au (aY (kc:=8) (aL (cs:=[9,15]) ⟨⟨T.bh,T.bI⟩,⟨⟨T.aD,T.bH⟩,zaa⟩⟩ (aj 0)) T.bz T.jO (lO T) mX h.mo T.gh .nil) aG))) (p7 (i:=2) n rfl Kv) (aK (j7 (zX (fV (Y9 T) mX h.mo rfl T.Su T.LQ.kp T.Uc (.cons (.bl false) .nil) (au (aj 1) (au (cH (kc:=13) (aL (cs:=[15]) ⟨⟨T.aD,T.bx⟩,zaa⟩ (aj 0)) T.bV T.uM (Bp T) mX h.mo T.jm .nil (au (aj 2) aG)) aG)))) (aK (a_ (aj 2))) fQ)))
  (aK (a_ (aL (cs:=[15]) ⟨⟨T.aD,T.cj⟩,zaa⟩ (aj 0))))))
theorem yP(T:Txt K mg t):sy T t.iQ t.iR ["self"] 8 (aU 2 dH) 1:=fL (st:=bD) ["self","place"] T.qL p8 λh n u=>
 (aF (zY (n6 rfl rfl) rfl (Z0 rfl T.Ad (au (aY (kc:=15) (aj 0) T.aD T.xq (Hl T) mX h.mo T.jd .nil) (au (aL (cs:=[15]) ⟨⟨T.aD,T.cj⟩,zaa⟩ (aj 0)) (au (ajV agc aN) aG)))) (p7 (i:=1) n rfl Kv) (aK (j7 (dm (wO u) (cH (kc:=8) (aL (cs:=[9,15]) ⟨⟨T.bh,T.bI⟩,⟨⟨T.aD,T.bH⟩,zaa⟩⟩ (aj 0)) T.bz T.vZ (Cw T) mX h.mo T.iW .nil (au (aj 1) aG)) (aL (cs:=[9,15]) ⟨⟨T.bh,T.bG⟩,⟨⟨T.aD,T.bF⟩,zaa⟩⟩ (aj 0)) (bW _)) (aK (a_ (aj 1))) fQ)))
  (aK (a_ qY)))
theorem Gs(T:Txt K mg t):sy T t.nM t.nR ["self"] 4 (aU 3 ir) 1:=fL (st:=cZ) ["self","place","what"] T.wK p8 λh n u=>
 (aK (zY (n6 rfl rfl) rfl (Z1 rfl T.Ad (au (cG pO (aL (cs:=[15]) ⟨⟨T.aD,T.iM⟩,zaa⟩ (aj 0)) aN) (au (cG pO (aL (cs:=[15]) ⟨⟨T.aD,T.cj⟩,zaa⟩ (aj 0)) aN) aG))) (p7 (i:=1) n rfl Kv) (aF (d8 (i:=2) n rfl Kv (mY u (cH (kc:=8) (aL (cs:=[9,15]) ⟨⟨T.bh,T.bI⟩,⟨⟨T.aD,T.bH⟩,zaa⟩⟩ (aj 0)) T.bz T.mZ (p_ T) mX h.mo T.fH .nil (au (aj 1) aG)) aN))
  (aF (j7 (dm (wO u) (mY u (aj 2) aN) lY (bW _)) (aK um) fQ)
  (aK (bO (cs:=[15]) ⟨⟨T.aD,T.iM⟩,zaa⟩ (aj 0) (aj 1)))))))
theorem Hj(T:Txt K mg t):sy T t.oO t.oW ["self"] 5 (aU 1 jc) 1:=fL (st:=dz) ["self"] T.xK p8 λh n u=>
 (aK (a_ (cH (kc:=8) (aj 0) T.bz T.n8 (uq T) mX h.mo T.cU .nil (au (aY (kc:=8) (aj 0) T.bz T.jO (lO T) mX h.mo T.gh .nil) aG))))
theorem wU(T:Txt K mg t):sy T t.gQ t.gR ["self"] 7 (aU 2 cQ) 1:=fL (st:=bw) ["self","two"] T.pG p8 λh n u=>
 (aF (d8 (i:=1) n rfl Kv (mY u (aY (kc:=8) (aL (cs:=[9,15]) ⟨⟨T.bh,T.bI⟩,⟨⟨T.aD,T.bH⟩,zaa⟩⟩ (aj 0)) T.bz T.uv (xg T) mX h.mo T.mW .nil) aN))
  (aF (j7 (SW.pt (Qo (dm (wO u) (aj 1) aN (bW _)) (Ml (dm VR (aY (kc:=8) (aL (cs:=[9,15]) ⟨⟨T.bh,T.bI⟩,⟨⟨T.aD,T.bH⟩,zaa⟩⟩ (aj 0)) T.bz T.xm (Hj T) mX h.mo T.jc .nil) (aL (cs:=[15]) ⟨⟨T.aD,T.cj⟩,zaa⟩ (aj 0)) (bW _))))) (aK (a_ (pI aG))) fQ)
  (aK um)))
theorem CG(T:Txt K mg t):sy T t.kY t.lg ["self"] 1 (aU 2 fK) 1:=fL (st:=cg) ["self","looks"] T.uE p8 λh n u=>
 (aF (d8 (i:=1) n rfl Kv (aL (cs:=[13]) ⟨⟨T.bV,T.ji⟩,zaa⟩ (aL (cs:=[15]) ⟨⟨T.aD,T.bx⟩,zaa⟩ (aj 0))))
  (aK (U0 (n6 rfl rfl) (SW.pt (Wz (dm VR (uo TY rfl T.Vq T_ (au (aj 1) aG)) aN (bW _)) (Rp (zX U6)))) (aK um))))
theorem Nv(T:Txt K mg t):sy T t.tY t.ue ["self"] 9 (aU 3 nu) 1:=fL (st:=gC) ["self","letters","place"] T.Dj p8 λh n u=>
 (aF (d8 (i:=1) n rfl Kv (pI aG))
  (aF (d8 (i:=2) n rfl Kv (aY (kc:=15) (aj 0) T.aD T.qI (yP T) mX h.mo T.dH .nil))
  (aF (j7 (dm VP (aj 2) qY (bW _)) (aF (bO (cs:=[15]) ⟨⟨T.aD,T.cj⟩,zaa⟩ (aj 0) (aj 2))
  (aF (gm (cH (kc:=15) (aj 0) T.aD T.fZ (jh T) mX h.mo T.cD .nil (au (fU (au lY (au (aL (cs:=[9,15]) ⟨⟨T.bh,T.bG⟩,⟨⟨T.aD,T.bF⟩,zaa⟩⟩ (aj 0)) (au (aj 2) (au (cH (kc:=13) (aL (cs:=[15]) ⟨⟨T.aD,T.bx⟩,zaa⟩ (aj 0)) T.bV T.uM (Bp T) mX h.mo T.jm .nil (au (aj 2) aG)) aG))))) aG)))
  (aF (gm (aY (kc:=15) (aj 0) T.aD T.wj (Gs T) mX h.mo T.ir .nil))
  (aK (d8 (i:=1) n rfl Kv (aY (kc:=15) (aj 0) T.aD T.pC (wU T) mX h.mo T.cQ .nil)))))) fQ)
  (aF (gm (aY (kc:=15) (aj 0) T.aD T.ux (CG T) mX h.mo T.fK .nil))
  (aK (a_ (aj 1)))))))
theorem Cy(T:Txt K mg t):sy T t.kW t.k_ ["self","what"] 10 (aU 4 fJ) 2:=fL (st:=b_) ["self","what","place","letters"] T.uD p8 λh n u=>
 (aF (d8 (i:=2) n rfl Kv (cH (kc:=8) (aL (cs:=[9,15]) ⟨⟨T.bh,T.bI⟩,⟨⟨T.aD,T.bH⟩,zaa⟩⟩ (aj 0)) T.bz T.NZ (Xa T) mX h.mo T.vV .nil (au (fU (au (aL (cs:=[9,15]) ⟨⟨T.bh,T.bG⟩,⟨⟨T.aD,T.bF⟩,zaa⟩⟩ (aj 0)) (au (aj 1) aG))) aG)))
  (aF (gm (cH (kc:=15) (aj 0) T.aD T.fZ (jh T) mX h.mo T.cD .nil (au (fU (au lY (au (aL (cs:=[9,15]) ⟨⟨T.bh,T.bG⟩,⟨⟨T.aD,T.bF⟩,zaa⟩⟩ (aj 0)) (au (aj 2) (au (aj 1) aG))))) aG)))
  (aF (d8 (i:=3) n rfl Kv (aY (kc:=15) (aj 0) T.aD T.yS (JB T) mX h.mo T.jA .nil))
  (aK (a_ (cG pO (aj 3) (aY (kc:=15) (aj 0) T.aD T.CW (Nv T) mX h.mo T.nu .nil)))))))
theorem Gq(T:Txt K mg t):sy T t.nJ t.nQ ["self"] 11 (aU 1 ig) 1:=fL (st:=cY) ["self"] T.wJ p8 λh n u=>
 (aF (gm (cH (kc:=15) (aj 0) T.aD T.fZ (jh T) mX h.mo T.cD .nil (au (fU (au lY (au (aL (cs:=[13,15]) ⟨⟨T.bV,T.cR⟩,⟨⟨T.aD,T.dI⟩,zaa⟩⟩ (aj 0)) (au (aL (cs:=[9,15]) ⟨⟨T.bh,T.bG⟩,⟨⟨T.aD,T.bF⟩,zaa⟩⟩ (aj 0)) (au (aL (cs:=[12]) ⟨⟨T.Dp,T.fP⟩,zaa⟩ (aL (cs:=[15]) ⟨⟨T.aD,T.bx⟩,zaa⟩ (aj 0))) aG))))) aG)))
  (aF (bO (cs:=[15]) ⟨⟨T.aD,T.bx⟩,zaa⟩ (aj 0) (wZ (kc:=13) T.yQ (PN T) mX h.mo rfl T.NQ T.pq .nil (au (aL (cs:=[13,15]) ⟨⟨T.bV,T.cR⟩,⟨⟨T.aD,T.dI⟩,zaa⟩⟩ (aj 0)) (au (cG pO (aY (kc:=8) (aL (cs:=[9,15]) ⟨⟨T.bh,T.bI⟩,⟨⟨T.aD,T.bH⟩,zaa⟩⟩ (aj 0)) T.bz T.jO (lO T) mX h.mo T.gh .nil) aN) aG))))
  (aF (bO (cs:=[15]) ⟨⟨T.aD,T.gH⟩,zaa⟩ (aj 0) (aL (cs:=[13,15]) ⟨⟨T.bV,T.cR⟩,⟨⟨T.aD,T.dI⟩,zaa⟩⟩ (aj 0)))
  (aK (a_ (cH (kc:=15) (aj 0) T.aD T.uw (Cy T) mX h.mo T.fJ .nil (au (fU (au lY aG)) aG)))))))
theorem EY(T:Txt K mg t):sy T t.mJ t.mL ["self"] 12 (aU 1 d_) 1:=fL (st:=cI) ["self"] T.uY p8 λh n u=>
 (aF (j7 (Rr (zX (fV (Y9 T) mX h.mo rfl T.Su T.LQ.kp T.Uc (.cons (.bl false) .nil) (au (aY (kc:=8) (aL (cs:=[9,15]) ⟨⟨T.bh,T.bI⟩,⟨⟨T.aD,T.bH⟩,zaa⟩⟩ (aj 0)) T.bz T.uv (xg T) mX h.mo T.mW .nil) (au (aL (cs:=[12]) ⟨⟨T.Dp,T.fP⟩,zaa⟩ (aL (cs:=[15]) ⟨⟨T.aD,T.bx⟩,zaa⟩ (aj 0))) aG))))) (aK (a_ (pI aG))) fQ)
  (aK (a_ (aY (kc:=15) (aj 0) T.aD T.v5 (Gq T) mX h.mo T.ig .nil))))
theorem R5(T:Txt K mg t):sy T t.xT t.yc ["self"] 13 (aU 2 uK) 1:=fL (st:=jG) ["self","letters"] T.HY p8 λh n u=>
 (@aF _ _ _ _ _ _ _ (j7 (zX (aY (kc:=15) (aj 0) T.aD T.yU (JC T) mX h.mo T.jB .nil)) (aK um) fQ) (@aF _ _ _ _ _ _ _ (gm (cH (kc:=15) (aj 0) T.aD T.Fp (PK T) mX h.mo T.o9 .nil (au (cG pO (aL (cs:=[9,15]) ⟨⟨T.bh,T.bG⟩,⟨⟨T.aD,T.bF⟩,zaa⟩⟩ (aj 0)) aN) aG))) (@aF _ _ _ _ _ _ _ (gm (cH (kc:=15) (aj 0) T.aD T.xr (Ho T) mX h.mo T.je .nil (au (aL (cs:=[13,15]) ⟨⟨T.bV,T.cR⟩,⟨⟨T.aD,T.dI⟩,zaa⟩⟩ (aj 0)) aG))) (@aF _ _ _ _ _ _ _ (bO (cs:=[15]) ⟨⟨T.aD,T.bx⟩,zaa⟩ (aj 0) (wZ (kc:=12) T.yR (P0 T) mX h.mo rfl T.Vo T.pB .nil (au (aL (cs:=[13,15]) ⟨⟨T.bV,T.cR⟩,⟨⟨T.aD,T.dI⟩,zaa⟩⟩ (aj 0)) aG))) (@aF _ _ _ _ _ _ _ (@YC _ _ _ _ _ _ _ _ _ _ _ _ _ _ _ _ (1) rfl ["self"] [0] n rfl rfl (yp (aY (kc:=15) (aj 0) T.aD T.v_ (Cz T) mX h.mo T.j5 .nil)) ⟨⟨rfl,rfl,by first | exact .inl rfl | exact .inr rfl⟩,zaa⟩ (λ_ _ _ _ _=>Rq) (λ_ _ _ _ _=>(@fU _ _ _ _ _ _ _ (@bu _ _ _ _ _ _ _ lY (@bu _ _ _ _ _ _ _ (aL (cs:=[13,15]) ⟨⟨T.bV,T.cR⟩,⟨⟨T.aD,T.dI⟩,zaa⟩⟩ (aj 1)) (@bu _ _ _ _ _ _ _ (aj 0) (@bu _ _ _ _ _ _ _ (aL (cs:=[9,15]) ⟨⟨T.bh,T.bG⟩,⟨⟨T.aD,T.bF⟩,zaa⟩⟩ (aj 1)) (@bu _ _ _ _ _ _ _ (aY (kc:=8) (aL (cs:=[9,15]) ⟨⟨T.bh,T.bI⟩,⟨⟨T.aD,T.bH⟩,zaa⟩⟩ (aj 1)) T.bz T.N5 (Xb T) Tk.none h.mo T.vW .nil) aG rfl) rfl) rfl) rfl) rfl))) (by decide +kernel) (by decide +kernel) (by decide +kernel) (by decide +kernel) rfl rfl rfl (by intro _ ;rfl)) (aK (a_ (cG pO (aj 1) (aY (kc:=15) (aj 0) T.aD T.uU (EY T) mX h.mo T.d_ .nil)))))))))
theorem KZ(T:Txt K mg t):sy T t.rM t.rR ["self","h"] 2 (aU 2 lH) 2:=fL (st:=fj) ["self","h"] T.Bx p8 λh n u=>
 (aF (gm (cH (kc:=16) (aj 0) T.bN T.mG (rz T) mX h.mo T.cW .nil (au (aj 1) aG)))
  (aF (j7 (dm (adx u) (aj 1) (aL (cs:=[16]) ⟨⟨T.bN,T.jX⟩,zaa⟩ (aj 0)) (by with_unfolding_all rfl)) (aK um) fQ)
  (aK (a_ (mY u (aL (cs:=[16]) ⟨⟨T.bN,T.cP⟩,zaa⟩ (aj 0)) (aj 1))))))
theorem R_(T:Txt K mg t):sy T t.xY t.yg ["self","h"] 14 (aU 2 qR) 2:=fL (st:=jL) ["self","h"] T.Ig p8 λh n u=>
 (aK (gm (cH (kc:=16) (aj 0) T.bN T.Hu (R8 T) mX h.mo T.qQ .nil (au (aY (kc:=15) (cH (kc:=16) (aj 0) T.bN T.Bq (KZ T) mX h.mo T.lH .nil (au (aj 1) aG)) T.aD T.Ht (R5 T) mX h.mo T.uK .nil) aG))))
theorem ahn(T:Txt K mg t)(cu:PySem.W.CodeHd base t.bB t.aP/\base.BuiltinsAt mg t.aP):g8 P w K mg base (wV P w) 15 t.QS t.KJ ["_law_script"] (spS K (Fd t) afN 1):=by
 show g8 P w K mg base (wV P w) (14+1) t.QS t.KJ ["_law_script"] (spS K (Fd t) (aU 10 V0) 1)
 have p6:= @Nq K mg t T P w base
 have Qg:= @Np P w K mg base t T cu
 have GF:= @Kg P w K mg base t T cu
 have KR:= @R7 K mg t T P w base
 have Dv:= @R9 K mg t T P w base
 have FZ:= @Nx K mg t T P w base
 have Pq:= @K5 K mg t T P w base
 have V8:= @R_ K mg t T P w base
 refine ade (n:=10) (ar:=1) (k:=14) (b:=V0) (x:= "law") (qual:= "law") (st:=Fi) T.XN sS rfl rfl ?_
 intro cdv A outer s H E W hr
 exact(@aF _ _ _ _ _ _ _ (d8 (i:=1) sS.nd rfl (Or.inl rfl) (cG pO aN (cG Pb (fV p6 Tk.wish (hr.mono (by decide)) rfl T.lC T.jl.kp T.e_ .nil (au (aj 0) (au aN aG))) aN))) (@aF _ _ _ _ _ _ _ (d8 (i:=2) sS.nd rfl (Or.inl rfl) (cG Pb (cG ady (fV p6 Tk.wish (hr.mono (by decide)) rfl T.lC T.jl.kp T.e_ .nil (au (aj 0) (au aN aG))) aN) (cG Pa aN (aj 1)))) (@aF _ _ _ _ _ _ _ (d8 (i:=3) sS.nd rfl (Or.inl rfl) qY) (@aF _ _ _ _ _ _ _ (d8 (i:=4) sS.nd rfl (Or.inl rfl) aN) (@aF _ _ _ _ _ _ _ (j7 (dm VR (cG Pb (fV p6 Tk.wish (hr.mono (by decide)) rfl T.lC T.jl.kp T.e_ .nil (au (aj 0) (au aN aG))) aN) aN (bW _)) (aF (d8 (i:=3) sS.nd rfl (Or.inl rfl) (cG Pb (cG ady (fV p6 Tk.wish (hr.mono (by decide)) rfl T.lC T.jl.kp T.e_ .nil (au (aj 0) (au aN aG))) aN) (cG aiP aN aN)))
  (aK (d8 (i:=4) sS.nd rfl (Or.inl rfl) (aj 3)))) fQ) (@aF _ _ _ _ _ _ _ (j7 (SW.pt (Qo (dm (wO hr.units) (aj 2) aN (bW _)) (Ml (dm Zy (aj 2) (cG Pa aN (aj 1)) (bW _))))) (aK (a_ (fV Qg Tk.wish (hr.mono (by decide)) rfl T.CJ T.wH.kp T.j4 .nil (au (aj 1) (au (aj 2) (au (aj 3) aG)))))) fQ) (@aF _ _ _ _ _ _ _ (d8 (i:=5) sS.nd rfl (Or.inl rfl) (fV GF Tk.wish (hr.mono (by decide)) rfl T.CK T.xH.kp T.mR .nil (au (aj 1) (au (aj 2) (au (aj 3) aG))))) (@aF _ _ _ _ _ _ _ (@zY _ _ _ _ _ _ _ _ _ _ (n6 rfl rfl) rfl (DK rfl T.Ad (au (aj 1) aG)) (p7 (i:=6) sS.nd rfl (Or.inl rfl)) (@aK _ _ _ _ _ (@j7 _ _ _ _ _ _ _ _ _ _ (@dm _ _ _ _ _ _ _ _ _ _ (Dq hr.units) (cH (kc:=16) (aj 5) T.bN T.Ac KR Tk.wish (hr.mono (by decide)) T.oF .nil (au (aj 6) aG)) (@fU _ _ _ _ _ _ _ (@bu _ _ _ _ _ _ _ lY (@bu _ _ _ _ _ _ _ (aj 4) (@bu _ _ _ _ _ _ _ qY (@bu _ _ _ _ _ _ _ qY (@bu _ _ _ _ _ _ _ aN (@bu _ _ _ _ _ _ _ aN (@bu _ _ _ _ _ _ _ (fU (au (fU aG) (au (fU aG) aG))) aG rfl) rfl) rfl) rfl) rfl) rfl) rfl)) (bW _)) (aK (a_ YG)) fQ)) (by intro _ ;rfl)) (@aF _ _ _ _ _ _ _ (j7 (SW.pt (Qo (dm (Dq hr.units) (aY (kc:=16) (aj 5) T.bN T.vg Dv Tk.wish (hr.mono (by decide)) T.lQ .nil) (pI aG) (bW _)) (Qo (dm (Dq hr.units) (aY (kc:=16) (aj 5) T.bN T.wu FZ Tk.wish (hr.mono (by decide)) T.j6 .nil) (pI aG) (bW _)) (Ml (dm (Dq hr.units) (aY (kc:=16) (aj 5) T.bN T.Br Pq Tk.wish (hr.mono (by decide)) T.lJ .nil) (pI aG) (bW _)))))) (aK (a_ YG)) fQ) (@aF _ _ _ _ _ _ _ (d8 (i:=6) sS.nd rfl (Or.inl rfl) (cG Pb (fV p6 Tk.wish (hr.mono (by decide)) rfl T.lC T.jl.kp T.e_ .nil (au (aj 0) (au aN aG))) (aj 1))) (@aF _ _ _ _ _ _ _ (gm (cH (kc:=16) (aj 5) T.bN T.Hw V8 Tk.wish (hr.mono (by decide)) T.qR .nil (au (aj 6) aG))) (@aF _ _ _ _ _ _ _ (d8 (i:=7) sS.nd rfl (Or.inl rfl) (cH (kc:=16) (aj 5) T.bN T.Ac KR Tk.wish (hr.mono (by decide)) T.oF .nil (au (aj 6) aG))) (@aF _ _ _ _ _ _ _ (@j7 _ _ _ _ _ _ _ _ _ _ (dm (wO hr.units) (aj 2) (cG Pa aN (aj 6)) (bW _)) (@aK _ _ _ _ _ (@a_ _ _ _ _ _ _ (@Rx _ _ _ _ _ _ _ _ _ (@yq _ _ _ _ _ _ _ _ _ _ (wO hr.units) (ajX (aj 7) adW (adV aN)) (@fU _ _ _ _ _ _ _ (@bu _ _ _ _ _ _ _ lY (@bu _ _ _ _ _ _ _ (cG pO (aj 4) aN) (@bu _ _ _ _ _ _ _ (aj 6) (@bu _ _ _ _ _ _ _ (aj 6) (@bu _ _ _ _ _ _ _ aN (@bu _ _ _ _ _ _ _ aN aG rfl) rfl) rfl) rfl) rfl) rfl)) (bW _)) (Mv (yq (wO hr.units) (aY (kc:=16) (aj 5) T.bN T.vg Dv Tk.wish (hr.mono (by decide)) T.lQ .nil) (pI aG) (bW _)))))) fQ) (@aF _ _ _ _ _ _ _ (d8 (i:=8) sS.nd rfl (Or.inl rfl) (pI aG)) (@aF _ _ _ _ _ _ _ (@zY _ _ _ _ _ _ _ _ _ _ (n6 rfl rfl) rfl (DK rfl T.Ad (au (aj 1) aG)) (p7 (i:=9) sS.nd rfl (Or.inl rfl)) (@aK _ _ _ _ _ (@j7 _ _ _ _ _ _ _ _ _ _ (SW.pt (Wz (dm (Dq hr.units) (aj 9) (aj 6) (bW _)) (Rp (dm (wO hr.units) (cG Ye (cG adw (aj 2) (aj 9)) aN) aN (bW _))))) (@aK _ _ _ _ _ (@gm _ _ _ _ _ _ (@abV _ _ _ _ _ _ _ _ _ _ _ _ _ _ PySem.F.plainAttrs_list PySem.F.slot_list_append PySem.F.type_list_append Qz (aj 8) (@au _ _ _ _ _ _ _ (@fU _ _ _ _ _ _ _ (@bu _ _ _ _ _ _ _ lY (@bu _ _ _ _ _ _ _ (aj 6) (@bu _ _ _ _ _ _ _ (aj 9) (@bu _ _ _ _ _ _ _ (cG pO (aj 4) aN) (@bu _ _ _ _ _ _ _ (fU (au aN (au aN aG))) aG rfl) rfl) rfl) rfl) rfl)) aG rfl) rfl rfl rfl rfl rfl) rfl)) fQ)) (by intro _ ;rfl)) (@aF _ _ _ _ _ _ _ (j7 (dm (Dq hr.units) (aY (kc:=16) (aj 5) T.bN T.wu FZ Tk.wish (hr.mono (by decide)) T.j6 .nil) (pI (au (fU (au lY (au (aj 6) (au (cG pO (aj 4) aN) (au (aj 6) aG))))) aG)) (bW _)) (aK (a_ YG)) fQ) (@aK _ _ _ _ _ (@a_ _ _ _ _ _ _ (@Rx _ _ _ _ _ _ _ _ _ (@yq _ _ _ _ _ _ _ _ _ _ (wO hr.units) (aj 7) (@fU _ _ _ _ _ _ _ (@bu _ _ _ _ _ _ _ lY (@bu _ _ _ _ _ _ _ (cG pO (aj 4) aN) (@bu _ _ _ _ _ _ _ (aj 6) (@bu _ _ _ _ _ _ _ qY (@bu _ _ _ _ _ _ _ aN (@bu _ _ _ _ _ _ _ aN (@bu _ _ _ _ _ _ _ (fU (au (fU aG) (au (fU aG) aG))) aG rfl) rfl) rfl) rfl) rfl) rfl) rfl)) (bW _)) (Mv (yq (wO hr.units) (aY (kc:=16) (aj 5) T.bN T.vg Dv Tk.wish (hr.mono (by decide)) T.lQ .nil) (aj 8) (bW _))))))))))))))))))))))
theorem aaJ(T:Txt K mg t)(s:Shared)(u:Value):BindsTo s t.KJ ⟨[u],[]⟩ [("_law_script",u)]:=by
 obtain⟨oc,od,kV,doc,pm,an,cdv,ct,osl,e,_⟩:=T.XN.ex
 rw[e]
 exact .of_eq rfl
theorem afa(hk:1000<=k)(hc:Fd t k≠0):∃z∈[(t.bB,t.aP)],Fd t k=z.2:=by
 by_cases e:k=1000
 ·subst e;exact⟨_,xB,rfl⟩
 ·exfalso
  unfold Fd at hc
  split at hc<;>first | lia | exact hc rfl
theorem aez(T:Txt K mg t)(h:PySem.W.CodeHd base t.bB t.aP/\base.BuiltinsAt mg t.aP):g8 P w K mg base CX0 15 t.QS t.KJ ["_law_script"] (adU K (Fd t)):=ahC (ahn T h) ahD
end
set_option autoImplicit true in
theorem all_mk{ts:List Addr}{K:Frag}{h:Heap}{mg:Str->Option Value}(X:K.In h)(G:h.Ns mainGlobals mg){vo9 ajA ajz ajy:Obj}{vn9 au2 au1 au0:Nat}{ajF:Tok}{yM:Array Value}{Sq RL:Str}{V5:Addr}{Ua mQ:List Value}{Ru:List Str}{Ry:List Value}{Ui:Bool}{T3:Option Bool}{TF:Option Addr}{Tc S_ S7 S5 SX:Option Value}{Xc W3:Str}{abb:Addr}{Yg qC:List Value}{WK:List Str}{WN:List Value}{Yo:Bool}{X6:Option Bool}{X3:Option Addr}{Xx Xw Xv Xr Xq:Option Value}{aax aaf:Str}{adG:Addr}{aa5 tu:List Value}{ZZ:List Str}{Z7:List Value}{aa9:Bool}{aa0:Option Bool}{aaX:Option Addr}{aaR aaQ aaP aaO aaN:Option Value}(Uk:nsIn K mainGlobals "Hall" = some (some (.ref iT)))(Yp:nsIn K mainGlobals "Row" = some (some (.ref nW)))(Ul:nsIn K mainGlobals "Book" = some (some (.ref tL)))(Pj:nsIn K mainGlobals "Shelf" = some (some (.ref qp)))(Uj:nsIn K mainGlobals "Hand" = some (some (.ref di)))(J5:nsIn K mainGlobals "Sitter" = some (some (.ref lK)))(Pn:nsIn K mainGlobals "Asker" = some (some (.ref su)))(Pk:nsIn K mainGlobals "Chair" = some (some (.ref iu)))(Bf:nsIn K mainGlobals "HallError" = some (some (.ref bL)))(GD:nsIn K mainGlobals "NoChair" = some (some (.ref eX)))(J6:nsIn K mainGlobals "NoRoll" = some (some (.ref gZ)))(a0:nsIn K mainGlobals "_law_cell_at" = some (some (.ref f0)))(l0:K.lookup f0=some ⟨oc0,od0,.func (fnOf "_law_cell_at" "_law_cell_at" (aB gq) (aA gq) (ak gq) .none kV0 dc0 pm0 an0 cd0 ct0),sl0⟩)(c0:codeIn K cd0 "_law_cell_at" = true)(k0:keepIn K (.ref f0)=true)(a1:findIn K (.ref bL) "__init__" = some (some (.ref f1)))(i1:isFn K (.ref f1)=true)(l1:K.lookup f1=some ⟨oc1,od1,.func (fnOf "__init__" "HallError.__init__" (aB dG) (aA dG) (ak dG) .none kV1 dc1 pm1 an1 cd1 ct1),sl1⟩)(c1:codeIn K cd1 "HallError.__init__" = true)(k1:keepIn K (.ref f1)=true)(a2:findIn K (.ref iT) "refuse_strangers" = some (some (.ref f2)))(i2:isFn K (.ref f2)=true)(l2:K.lookup f2=some ⟨oc2,od2,.func (fnOf "refuse_strangers" "Hall.refuse_strangers" (aB bA) (aA bA) (ak bA) .none kV2 dc2 pm2 an2 cd2 ct2),sl2⟩)(c2:codeIn K cd2 "Hall.refuse_strangers" = true)(k2:keepIn K (.ref f2)=true)(a3:findIn K (.ref nW) "__init__" = some (some (.ref f3)))(i3:isFn K (.ref f3)=true)(l3:K.lookup f3=some ⟨oc3,od3,.func (fnOf "__init__" "Row.__init__" (aB mD) (aA mD) (ak mD) .none kV3 dc3 pm3 an3 cd3 ct3),sl3⟩)(c3:codeIn K cd3 "Row.__init__" = true)(k3:keepIn K (.ref f3)=true)(a4:findIn K (.ref nW) "twin" = some (some (.ref f4)))(i4:isFn K (.ref f4)=true)(l4:K.lookup f4=some ⟨oc4,od4,.func (fnOf "twin" "Row.twin" (aB mj) (aA mj) (ak mj) .none kV4 dc4 pm4 an4 cd4 ct4),sl4⟩)(c4:codeIn K cd4 "Row.twin" = true)(k4:keepIn K (.ref f4)=true)(a5:findIn K (.ref tL) "__init__" = some (some (.ref f5)))(i5:isFn K (.ref f5)=true)(l5:K.lookup f5=some ⟨oc5,od5,.func (fnOf "__init__" "Book.__init__" (aB jN) (aA jN) (ak jN) .none kV5 dc5 pm5 an5 cd5 ct5),sl5⟩)(c5:codeIn K cd5 "Book.__init__" = true)(k5:keepIn K (.ref f5)=true)(a6:findIn K (.ref qp) "told" = some (some (.ref f6)))(i6:isFn K (.ref f6)=true)(l6:K.lookup f6=some ⟨oc6,od6,.func (fnOf "told" "Shelf.told" (aB iC) (aA iC) (ak iC) .none kV6 dc6 pm6 an6 cd6 ct6),sl6⟩)(c6:codeIn K cd6 "Shelf.told" = true)(k6:keepIn K (.ref f6)=true)(a7:findIn K (.ref qp) "__init__" = some (some (.ref f7)))(i7:isFn K (.ref f7)=true)(l7:K.lookup f7=some ⟨oc7,od7,.func (fnOf "__init__" "Shelf.__init__" (aB iD) (aA iD) (ak iD) .none kV7 dc7 pm7 an7 cd7 ct7),sl7⟩)(c7:codeIn K cd7 "Shelf.__init__" = true)(k7:keepIn K (.ref f7)=true)(a8:nsIn K mainGlobals "shelf_of" = some (some (.ref f8)))(l8:K.lookup f8=some ⟨oc8,od8,.func (fnOf "shelf_of" "shelf_of" (aB lZ) (aA lZ) (ak lZ) .none kV8 dc8 pm8 an8 cd8 ct8),sl8⟩)(c8:codeIn K cd8 "shelf_of" = true)(k8:keepIn K (.ref f8)=true)(a9:findIn K (.ref di) "__init__" = some (some (.ref f9)))(i9:isFn K (.ref f9)=true)(l9:K.lookup f9=some ⟨oc9,od9,.func (fnOf "__init__" "Hand.__init__" (aB lN) (aA lN) (ak lN) (.ref v9) kV9 dc9 pm9 an9 cd9 ct9),sl9⟩)(c9:codeIn K cd9 "Hand.__init__" = true)(k9:keepIn K (.ref f9)=true)(lv9:K.lookup v9=some vo9)(dv9:vo9.data= .seq #[.none] vn9)(a10:findIn K (.ref iT) "bring_up" = some (some (.ref f10)))(i10:isFn K (.ref f10)=true)(l10:K.lookup f10=some ⟨ayb,axj,.func (fnOf "bring_up" "Hall.bring_up" (aB dY) (aA dY) (ak dY) .none amJ apt ali art afe aqo),awa⟩)(c10:codeIn K afe "Hall.bring_up" = true)(k10:keepIn K (.ref f10)=true)(a11:findIn K (.ref iT) "__init__" = some (some (.ref f11)))(i11:isFn K (.ref f11)=true)(l11:K.lookup f11=some ⟨aya,axi,.func (fnOf "__init__" "Hall.__init__" (aB jM) (aA jM) (ak jM) (.ref v11) amI aps alh ars aiN aqn),av_⟩)(c11:codeIn K aiN "Hall.__init__" = true)(k11:keepIn K (.ref f11)=true)(aeM:K.lookup v11=some ajA)(ae8:ajA.data= .seq #[.int 0 ajF] au2)(a12:nsIn K mainGlobals "_law_made" = some (some (.ref f12)))(l12:K.lookup f12=some ⟨ax_,axh,.func (fnOf "_law_made" "_law_made" (aB jU) (aA jU) (ak jU) .none amH apr alg arq aiM aqm),av9⟩)(c12:codeIn K aiM "_law_made" = true)(k12:keepIn K (.ref f12)=true)(a13:nsIn K mainGlobals "_law_refused" = some (some (.ref f13)))(l13:K.lookup f13=some ⟨ax9,axg,.func (fnOf "_law_refused" "_law_refused" (aB eZ) (aA eZ) (ak eZ) .none amG apq alf arp aiL aql),av8⟩)(c13:codeIn K aiL "_law_refused" = true)(k13:keepIn K (.ref f13)=true)(a14:findIn K (.ref iT) "refuse_unknown" = some (some (.ref f14)))(i14:isFn K (.ref f14)=true)(l14:K.lookup f14=some ⟨ax8,axf,.func (fnOf "refuse_unknown" "Hall.refuse_unknown" (aB bJ) (aA bJ) (ak bJ) .none amF apo ale aro aiK aqk),av7⟩)(c14:codeIn K aiK "Hall.refuse_unknown" = true)(k14:keepIn K (.ref f14)=true)(a15:nsIn K mainGlobals "viewed" = some (some (.ref f15)))(l15:K.lookup f15=some ⟨ax7,axe,.func (fnOf "viewed" "viewed" (aB qZ) (aA qZ) (ak qZ) .none amE apn ald arn aiJ aqj),av6⟩)(c15:codeIn K aiJ "viewed" = true)(k15:keepIn K (.ref f15)=true)(a16:findIn K (.ref lK) "word" = some (some (.ref f16)))(i16:isFn K (.ref f16)=true)(l16:K.lookup f16=some ⟨ax6,axd,.func (fnOf "word" "Sitter.word" (aB gw) (aA gw) (ak gw) .none amD apm alc arl aiI aqi),av5⟩)(c16:codeIn K aiI "Sitter.word" = true)(k16:keepIn K (.ref f16)=true)(a17:findIn K (.ref su) "word" = some (some (.ref f17)))(i17:isFn K (.ref f17)=true)(l17:K.lookup f17=some ⟨ax5,axc,.func (fnOf "word" "Asker.word" (aB iJ) (aA iJ) (ak iJ) .none amC apl alb ark aiH aqh),av4⟩)(c17:codeIn K aiH "Asker.word" = true)(k17:keepIn K (.ref f17)=true)(a18:findIn K (.ref iu) "word" = some (some (.ref f18)))(i18:isFn K (.ref f18)=true)(l18:K.lookup f18=some ⟨ax4,axb,.func (fnOf "word" "Chair.word" (aB iH) (aA iH) (ak iH) .none amB apk ala arj aiG aqg),av3⟩)(c18:codeIn K aiG "Chair.word" = true)(k18:keepIn K (.ref f18)=true)(a19:findIn K (.ref iT) "view" = some (some (.ref f19)))(i19:isFn K (.ref f19)=true)(l19:K.lookup f19=some ⟨ax3,axa,.func (fnOf "view" "Hall.view" (aB jH) (aA jH) (ak jH) .none amA apj ak_ ari aiF aqf),av2⟩)(c19:codeIn K aiF "Hall.view" = true)(k19:keepIn K (.ref f19)=true)(a20:findIn K (.ref iT) "road" = some (some (.ref f20)))(i20:isFn K (.ref f20)=true)(l20:K.lookup f20=some ⟨ax2,aw_,.func (fnOf "road" "Hall.road" (aB jK) (aA jK) (ak jK) .none amz api ak9 arh aiE aqe),av1⟩)(c20:codeIn K aiE "Hall.road" = true)(k20:keepIn K (.ref f20)=true)(a21:findIn K (.ref iT) "papers" = some (some (.ref f21)))(i21:isFn K (.ref f21)=true)(l21:K.lookup f21=some ⟨ax1,aw9,.func (fnOf "papers" "Hall.papers" (aB gG) (aA gG) (ak gG) .none amy aph ak8 arf aiD aqd),av0⟩)(c21:codeIn K aiD "Hall.papers" = true)(k21:keepIn K (.ref f21)=true)(a22:findIn K (.ref iT) "answers" = some (some (.ref f22)))(i22:isFn K (.ref f22)=true)(l22:K.lookup f22=some ⟨ax0,aw8,.func (fnOf "answers" "Hall.answers" (aB fu) (aA fu) (ak fu) .none amx apg ak7 ard aiC aqc),avZ⟩)(c22:codeIn K aiC "Hall.answers" = true)(k22:keepIn K (.ref f22)=true)(a23:findIn K (.ref iT) "send" = some (some (.ref f23)))(i23:isFn K (.ref f23)=true)(l23:K.lookup f23=some ⟨axZ,aw7,.func (fnOf "send" "Hall.send" (aB jJ) (aA jJ) (ak jJ) .none amw apf ak6 arc aiB aqb),avY⟩)(c23:codeIn K aiB "Hall.send" = true)(k23:keepIn K (.ref f23)=true)(a24:findIn K (.ref di) "is_chair" = some (some (.ref f24)))(i24:isFn K (.ref f24)=true)(l24:K.lookup f24=some ⟨axY,aw6,.func (fnOf "is_chair" "Hand.is_chair" (aB dX) (aA dX) (ak dX) .none amv ape ak5 arb aiA aqa),avX⟩)(c24:codeIn K aiA "Hand.is_chair" = true)(k24:keepIn K (.ref f24)=true)(a25:findIn K (.ref di) "enter" = some (some (.ref f25)))(i25:isFn K (.ref f25)=true)(l25:K.lookup f25=some ⟨axX,aw5,.func (fnOf "enter" "Hand.enter" (aB iG) (aA iG) (ak iG) .none amu apd ak4 ara aiz ap_),avW⟩)(c25:codeIn K aiz "Hand.enter" = true)(k25:keepIn K (.ref f25)=true)(a26:findIn K (.ref di) "tell_paper" = some (some (.ref f26)))(i26:isFn K (.ref f26)=true)(l26:K.lookup f26=some ⟨axW,aw4,.func (fnOf "tell_paper" "Hand.tell_paper" (aB cX) (aA cX) (ak cX) .none amt apc ak3 aq_ aiy ap9),avV⟩)(c26:codeIn K aiy "Hand.tell_paper" = true)(k26:keepIn K (.ref f26)=true)(a27:findIn K (.ref di) "give_vote" = some (some (.ref f27)))(i27:isFn K (.ref f27)=true)(l27:K.lookup f27=some ⟨axV,aw3,.func (fnOf "give_vote" "Hand.give_vote" (aB dD) (aA dD) (ak dD) .none ams apb ak2 aq9 aix ap8),avU⟩)(c27:codeIn K aix "Hand.give_vote" = true)(k27:keepIn K (.ref f27)=true)(a28:nsIn K mainGlobals "set_of" = some (some (.ref f28)))(l28:K.lookup f28=some ⟨axU,aw2,.func (fnOf "set_of" "set_of" (aB q_) (aA q_) (ak q_) .none amr apa ak1 aq8 aiw ap7),avT⟩)(c28:codeIn K aiw "set_of" = true)(k28:keepIn K (.ref f28)=true)(a29:findIn K (.ref su) "__init__" = some (some (.ref f29)))(i29:isFn K (.ref f29)=true)(l29:K.lookup f29=some ⟨axT,aw1,.func (fnOf "__init__" "Asker.__init__" (aB iK) (aA iK) (ak iK) .none amq ao_ ak0 aq7 aiv ap6),avS⟩)(c29:codeIn K aiv "Asker.__init__" = true)(k29:keepIn K (.ref f29)=true)(a30:findIn K (.ref nW) "last" = some (some (.ref f30)))(i30:isFn K (.ref f30)=true)(l30:K.lookup f30=some ⟨axS,aw0,.func (fnOf "last" "Row.last" (aB mz) (aA mz) (ak mz) .none amo ao9 akZ aq6 aiu ap5),avR⟩)(c30:codeIn K aiu "Row.last" = true)(k30:keepIn K (.ref f30)=true)(a31:findIn K (.ref nW) "keeps" = some (some (.ref f31)))(i31:isFn K (.ref f31)=true)(l31:K.lookup f31=some ⟨axR,awZ,.func (fnOf "keeps" "Row.keeps" (aB jF) (aA jF) (ak jF) .none amn ao8 akY aq5 ait ap4),avQ⟩)(c31:codeIn K ait "Row.keeps" = true)(k31:keepIn K (.ref f31)=true)(a32:findIn K (.ref nW) "entry_at" = some (some (.ref f32)))(i32:isFn K (.ref f32)=true)(l32:K.lookup f32=some ⟨axQ,awY,.func (fnOf "entry_at" "Row.entry_at" (aB fc) (aA fc) (ak fc) .none amm ao7 akX aq4 ais ap3),avP⟩)(c32:codeIn K ais "Row.entry_at" = true)(k32:keepIn K (.ref f32)=true)(a33:findIn K (.ref nW) "term_at" = some (some (.ref f33)))(i33:isFn K (.ref f33)=true)(l33:K.lookup f33=some ⟨axP,awX,.func (fnOf "term_at" "Row.term_at" (aB gA) (aA gA) (ak gA) .none aml ao6 akW aq3 air ap2),avO⟩)(c33:codeIn K air "Row.term_at" = true)(k33:keepIn K (.ref f33)=true)(a34:findIn K (.ref nW) "end" = some (some (.ref f34)))(i34:isFn K (.ref f34)=true)(l34:K.lookup f34=some ⟨axO,awW,.func (fnOf "end" "Row.end" (aB oK) (aA oK) (ak oK) .none amk ao5 akV aq2 aiq ap1),avN⟩)(c34:codeIn K aiq "Row.end" = true)(k34:keepIn K (.ref f34)=true)(a35:nsIn K mainGlobals "hands_of" = some (some (.ref f35)))(l35:K.lookup f35=some ⟨axN,awV,.func (fnOf "hands_of" "hands_of" (aB l_) (aA l_) (ak l_) .none amj ao4 akU aq1 aip ap0),avM⟩)(c35:codeIn K aip "hands_of" = true)(k35:keepIn K (.ref f35)=true)(a36:nsIn K mainGlobals "members" = some (some (.ref f36)))(l36:K.lookup f36=some ⟨axM,awU,.func (fnOf "members" "members" (aB oH) (aA oH) (ak oH) .none ami ao3 akT aq0 aio apZ),avL⟩)(c36:codeIn K aio "members" = true)(k36:keepIn K (.ref f36)=true)(a37:findIn K (.ref nW) "roll_place_by" = some (some (.ref f37)))(i37:isFn K (.ref f37)=true)(l37:K.lookup f37=some ⟨axL,awT,.func (fnOf "roll_place_by" "Row.roll_place_by" (aB b8) (aA b8) (ak b8) .none amh ao2 akS aqZ ain apY),avK⟩)(c37:codeIn K ain "Row.roll_place_by" = true)(k37:keepIn K (.ref f37)=true)(a38:findIn K (.ref nW) "roll_by" = some (some (.ref f38)))(i38:isFn K (.ref f38)=true)(l38:K.lookup f38=some ⟨axK,awS,.func (fnOf "roll_by" "Row.roll_by" (aB gB) (aA gB) (ak gB) .none amg ao1 akR aqY aim apW),avJ⟩)(c38:codeIn K aim "Row.roll_by" = true)(k38:keepIn K (.ref f38)=true)(a39:findIn K (.ref nW) "roll" = some (some (.ref f39)))(i39:isFn K (.ref f39)=true)(l39:K.lookup f39=some ⟨axJ,awR,.func (fnOf "roll" "Row.roll" (aB mq) (aA mq) (ak mq) .none amf ao0 akQ aqX ail apV),avI⟩)(c39:codeIn K ail "Row.roll" = true)(k39:keepIn K (.ref f39)=true)(a40:findIn K (.ref di) "others" = some (some (.ref f40)))(i40:isFn K (.ref f40)=true)(l40:K.lookup f40=some ⟨axI,awQ,.func (fnOf "others" "Hand.others" (aB gF) (aA gF) (ak gF) .none ame aoZ akP aqW aik apU),avH⟩)(c40:codeIn K aik "Hand.others" = true)(k40:keepIn K (.ref f40)=true)(a41:nsIn K mainGlobals "many" = some (some (.ref f41)))(l41:K.lookup f41=some ⟨axH,awP,.func (fnOf "many" "many" (aB z6) (aA z6) (ak z6) .none amd aoY akO aqV aij apT),avG⟩)(c41:codeIn K aij "many" = true)(k41:keepIn K (.ref f41)=true)(a42:nsIn K mainGlobals "carries" = some (some (.ref f42)))(l42:K.lookup f42=some ⟨axG,awO,.func (fnOf "carries" "carries" (aB qH) (aA qH) (ak qH) (.ref v42) amc aoX akN aqU aii apS),avF⟩)(c42:codeIn K aii "carries" = true)(k42:keepIn K (.ref f42)=true)(aeL:K.lookup v42=some ajz)(ae7:ajz.data= .seq #[.bool false] au1)(a43:nsIn K mainGlobals "wins" = some (some (.ref f43)))(l43:K.lookup f43=some ⟨axF,awN,.func (fnOf "wins" "wins" (aB Ck) (aA Ck) (ak Ck) (.ref v43) amb aoW akM aqT aih apR),avE⟩)(c43:codeIn K aih "wins" = true)(k43:keepIn K (.ref f43)=true)(aeK:K.lookup v43=some ajy)(ae6:ajy.data= .seq #[.bool false] au0)(a44:findIn K (.ref iu) "__init__" = some (some (.ref f44)))(i44:isFn K (.ref f44)=true)(l44:K.lookup f44=some ⟨axE,awM,.func (fnOf "__init__" "Chair.__init__" (aB iI) (aA iI) (ak iI) .none ama aoV akL aqS aif apQ),avD⟩)(c44:codeIn K aif "Chair.__init__" = true)(k44:keepIn K (.ref f44)=true)(a45:findIn K (.ref nW) "put" = some (some (.ref f45)))(i45:isFn K (.ref f45)=true)(l45:K.lookup f45=some ⟨axD,awL,.func (fnOf "put" "Row.put" (aB oJ) (aA oJ) (ak oJ) .none al_ aoU akK aqR aie apP),avC⟩)(c45:codeIn K aie "Row.put" = true)(k45:keepIn K (.ref f45)=true)(a46:findIn K (.ref iu) "begin_beat" = some (some (.ref f46)))(i46:isFn K (.ref f46)=true)(l46:K.lookup f46=some ⟨axC,awK,.func (fnOf "begin_beat" "Chair.begin_beat" (aB cJ) (aA cJ) (ak cJ) .none al9 aoT akJ aqQ aid apO),avB⟩)(c46:codeIn K aid "Chair.begin_beat" = true)(k46:keepIn K (.ref f46)=true)(a47:findIn K (.ref di) "tell_all" = some (some (.ref f47)))(i47:isFn K (.ref f47)=true)(l47:K.lookup f47=some ⟨axB,awJ,.func (fnOf "tell_all" "Hand.tell_all" (aB dW) (aA dW) (ak dW) .none al8 aoS akI aqP aic apM),avA⟩)(c47:codeIn K aic "Hand.tell_all" = true)(k47:keepIn K (.ref f47)=true)(a48:findIn K (.ref iu) "places_known" = some (some (.ref f48)))(i48:isFn K (.ref f48)=true)(l48:K.lookup f48=some ⟨axA,awI,.func (fnOf "places_known" "Chair.places_known" (aB bQ) (aA bQ) (ak bQ) .none al7 aoR akH aqO aib apL),avz⟩)(c48:codeIn K aib "Chair.places_known" = true)(k48:keepIn K (.ref f48)=true)(a49:findIn K (.ref iu) "having" = some (some (.ref f49)))(i49:isFn K (.ref f49)=true)(l49:K.lookup f49=some ⟨axz,awH,.func (fnOf "having" "Chair.having" (aB fB) (aA fB) (ak fB) .none al6 aoQ akG aqN aia apK),avy⟩)(c49:codeIn K aia "Chair.having" = true)(k49:keepIn K (.ref f49)=true)(a50:findIn K (.ref di) "place_won" = some (some (.ref f50)))(i50:isFn K (.ref f50)=true)(l50:K.lookup f50=some ⟨axy,awG,.func (fnOf "place_won" "Hand.place_won" (aB dB) (aA dB) (ak dB) .none al5 aoP akF aqM ah_ apJ),avx⟩)(c50:codeIn K ah_ "Hand.place_won" = true)(k50:keepIn K (.ref f50)=true)(a51:findIn K (.ref di) "place_to_settle" = some (some (.ref f51)))(i51:isFn K (.ref f51)=true)(l51:K.lookup f51=some ⟨axx,awF,.func (fnOf "place_to_settle" "Hand.place_to_settle" (aB bD) (aA bD) (ak bD) .none al4 aoO akE aqL ah9 apI),avw⟩)(c51:codeIn K ah9 "Hand.place_to_settle" = true)(k51:keepIn K (.ref f51)=true)(a52:findIn K (.ref di) "do_settled" = some (some (.ref f52)))(i52:isFn K (.ref f52)=true)(l52:K.lookup f52=some ⟨axw,awE,.func (fnOf "do_settled" "Hand.do_settled" (aB cZ) (aA cZ) (ak cZ) .none al3 aoN akD aqK ah8 apH),avv⟩)(c52:codeIn K ah8 "Hand.do_settled" = true)(k52:keepIn K (.ref f52)=true)(a53:findIn K (.ref nW) "roll_place" = some (some (.ref f53)))(i53:isFn K (.ref f53)=true)(l53:K.lookup f53=some ⟨axv,awD,.func (fnOf "roll_place" "Row.roll_place" (aB dz) (aA dz) (ak dz) .none al2 aoM akC aqJ ah7 apG),avu⟩)(c53:codeIn K ah7 "Row.roll_place" = true)(k53:keepIn K (.ref f53)=true)(a54:findIn K (.ref di) "leave_double_roll" = some (some (.ref f54)))(i54:isFn K (.ref f54)=true)(l54:K.lookup f54=some ⟨axu,awC,.func (fnOf "leave_double_roll" "Hand.leave_double_roll" (aB bw) (aA bw) (ak bw) .none al1 aoL akB aqI ah6 apF),avt⟩)(c54:codeIn K ah6 "Hand.leave_double_roll" = true)(k54:keepIn K (.ref f54)=true)(a55:findIn K (.ref di) "answer_looks" = some (some (.ref f55)))(i55:isFn K (.ref f55)=true)(l55:K.lookup f55=some ⟨axt,awB,.func (fnOf "answer_looks" "Hand.answer_looks" (aB cg) (aA cg) (ak cg) .none al0 aoK akA aqH ah5 apE),avs⟩)(c55:codeIn K ah5 "Hand.answer_looks" = true)(k55:keepIn K (.ref f55)=true)(a56:findIn K (.ref di) "settle" = some (some (.ref f56)))(i56:isFn K (.ref f56)=true)(l56:K.lookup f56=some ⟨axr,awA,.func (fnOf "settle" "Hand.settle" (aB gC) (aA gC) (ak gC) .none alZ aoJ akz aqG ah4 apD),avr⟩)(c56:codeIn K ah4 "Hand.settle" = true)(k56:keepIn K (.ref f56)=true)(a57:findIn K (.ref di) "put_and_tell" = some (some (.ref f57)))(i57:isFn K (.ref f57)=true)(l57:K.lookup f57=some ⟨axq,awz,.func (fnOf "put_and_tell" "Hand.put_and_tell" (aB b_) (aA b_) (ak b_) .none alY aoI aky aqF ah3 apC),avq⟩)(c57:codeIn K ah3 "Hand.put_and_tell" = true)(k57:keepIn K (.ref f57)=true)(a58:findIn K (.ref di) "take_chair" = some (some (.ref f58)))(i58:isFn K (.ref f58)=true)(l58:K.lookup f58=some ⟨axp,awy,.func (fnOf "take_chair" "Hand.take_chair" (aB cY) (aA cY) (ak cY) .none alX aoH akx aqE ah2 apB),avp⟩)(c58:codeIn K ah2 "Hand.take_chair" = true)(k58:keepIn K (.ref f58)=true)(a59:findIn K (.ref di) "count_votes" = some (some (.ref f59)))(i59:isFn K (.ref f59)=true)(l59:K.lookup f59=some ⟨axo,awx,.func (fnOf "count_votes" "Hand.count_votes" (aB cI) (aA cI) (ak cI) .none alW aoG akv aqD ah1 apA),avo⟩)(c59:codeIn K ah1 "Hand.count_votes" = true)(k59:keepIn K (.ref f59)=true)(a60:findIn K (.ref di) "ring" = some (some (.ref f60)))(i60:isFn K (.ref f60)=true)(l60:K.lookup f60=some ⟨axn,aww,.func (fnOf "ring" "Hand.ring" (aB jG) (aA jG) (ak jG) .none alV aoF aku aqC ah0 apz),avn⟩)(c60:codeIn K ah0 "Hand.ring" = true)(k60:keepIn K (.ref f60)=true)(a61:findIn K (.ref iT) "hand_up" = some (some (.ref f61)))(i61:isFn K (.ref f61)=true)(l61:K.lookup f61=some ⟨axm,awv,.func (fnOf "hand_up" "Hall.hand_up" (aB fj) (aA fj) (ak fj) .none alU aoE akt aqB ahZ apy),avm⟩)(c61:codeIn K ahZ "Hall.hand_up" = true)(k61:keepIn K (.ref f61)=true)(a62:findIn K (.ref iT) "ring" = some (some (.ref f62)))(i62:isFn K (.ref f62)=true)(l62:K.lookup f62=some ⟨axl,awu,.func (fnOf "ring" "Hall.ring" (aB jL) (aA jL) (ak jL) .none alT aoD aks aqA ahY apx),avl⟩)(c62:codeIn K ahY "Hall.ring" = true)(k62:keepIn K (.ref f62)=true)(a63:nsIn K mainGlobals "law" = some (some (.ref f63)))(l63:K.lookup f63=some ⟨axk,awt,.func (fnOf "law" "law" (aB Fi) (aA Fi) (ak Fi) .none alS aoC akr aqz ahX apw),avk⟩)(c63:codeIn K ahX "law" = true)(k63:keepIn K (.ref f63)=true)(sZ:afe= .ref qm)(yZ:K.lookup qm=some ⟨Jx,J3,.fields yM,Jk⟩)(yN:yM[11]? = some (.ref jC))(iY:jC≠0)(i_:K.lookup jC=none)(iZ:PySem.W.codeHdIn K qm jC=true)(sU:jC∈ts)(RV:PySem.W.plainGet K iT Str.empty=true)(Tn:PySem.W.hasDictIn K iT=true)(RN:PySem.W.plainOver K iT=true)(RB:findIn K (.ref iT) "__setattr__" = some (some (.builtin "object.__setattr__")))(Aa:PySem.W.makesIn K iT=true)(S8:keepIn K (.ref iT)=true)(gW:findIn K (.ref iT) "number" = some none)(fM:findIn K (.ref iT) "letters" = some none)(gJ:findIn K (.ref iT) "noted" = some none)(cP:findIn K (.ref iT) "hands" = some none)(jX:findIn K (.ref iT) "texts" = some none)(W6:PySem.W.plainGet K nW Str.empty=true)(XF:PySem.W.hasDictIn K nW=true)(W4:PySem.W.plainOver K nW=true)(WQ:findIn K (.ref nW) "__setattr__" = some (some (.builtin "object.__setattr__")))(Gv:PySem.W.makesIn K nW=true)(Xu:keepIn K (.ref nW)=true)(dw:findIn K (.ref nW) "base" = some none)(eG:findIn K (.ref nW) "base_term" = some none)(eN:findIn K (.ref nW) "base_roll" = some none)(dM:findIn K (.ref nW) "kept" = some none)(RW:PySem.W.plainGet K tL Str.empty=true)(Tp:PySem.W.hasDictIn K tL=true)(RP:PySem.W.plainOver K tL=true)(RC:findIn K (.ref tL) "__setattr__" = some (some (.builtin "object.__setattr__")))(Eb:PySem.W.makesIn K tL=true)(S9:keepIn K (.ref tL)=true)(bG:findIn K (.ref tL) "term" = some none)(fD:findIn K (.ref tL) "vote" = some none)(bI:findIn K (.ref tL) "row" = some none)(dh:findIn K (.ref tL) "kept" = some none)(Nh:PySem.W.plainGet K qp Str.empty=true)(Ou:PySem.W.hasDictIn K qp=true)(M_:PySem.W.plainOver K qp=true)(Mw:findIn K (.ref qp) "__setattr__" = some (some (.builtin "object.__setattr__")))(vY:PySem.W.makesIn K qp=true)(Ol:keepIn K (.ref qp)=true)(eF:findIn K (.ref qp) "amounts" = some none)(dJ:findIn K (.ref qp) "answered" = some none)(RT:PySem.W.plainGet K di Str.empty=true)(Tj:PySem.W.hasDictIn K di=true)(RM:PySem.W.plainOver K di=true)(Rz:findIn K (.ref di) "__setattr__" = some (some (.builtin "object.__setattr__")))(Ea:PySem.W.makesIn K di=true)(S6:keepIn K (.ref di)=true)(dI:findIn K (.ref di) "me" = some none)(mF:findIn K (.ref di) "note" = some none)(bF:findIn K (.ref di) "term" = some none)(fC:findIn K (.ref di) "vote" = some none)(bH:findIn K (.ref di) "row" = some none)(dg:findIn K (.ref di) "kept" = some none)(cj:findIn K (.ref di) "settled" = some none)(iM:findIn K (.ref di) "done" = some none)(jW:findIn K (.ref di) "shelf" = some none)(gH:findIn K (.ref di) "chair" = some none)(bx:findIn K (.ref di) "seat" = some none)(DW:PySem.W.plainGet K lK Str.empty=true)(Ek:PySem.W.hasDictIn K lK=true)(DR:PySem.W.plainOver K lK=true)(DQ:findIn K (.ref lK) "__setattr__" = some (some (.builtin "object.__setattr__")))(JH:PySem.W.makesIn K lK=true)(JV:keepIn K (.ref lK)=true)(JG:findIn K (.ref lK) "__init__" = some (some (.builtin "object.__init__")))(Nj:PySem.W.plainGet K su Str.empty=true)(Ow:PySem.W.hasDictIn K su=true)(Nf:PySem.W.plainOver K su=true)(MF:findIn K (.ref su) "__setattr__" = some (some (.builtin "object.__setattr__")))(yR:PySem.W.makesIn K su=true)(Oo:keepIn K (.ref su)=true)(fP:findIn K (.ref su) "voters" = some none)(Ni:PySem.W.plainGet K iu Str.empty=true)(Ov:PySem.W.hasDictIn K iu=true)(Nb:PySem.W.plainOver K iu=true)(Mz:findIn K (.ref iu) "__setattr__" = some (some (.builtin "object.__setattr__")))(yQ:PySem.W.makesIn K iu=true)(Om:keepIn K (.ref iu)=true)(cR:findIn K (.ref iu) "me" = some none)(lA:findIn K (.ref iu) "start" = some none)(gK:findIn K (.ref iu) "beat" = some none)(lB:findIn K (.ref iu) "beats" = some none)(fO:findIn K (.ref iu) "places" = some none)(ji:findIn K (.ref iu) "looks" = some none)(Jz:findIn K (.ref lK) "__class__" = some (some (.builtin "object.__class__")))(Jy:PySem.W.mroIn K lK (.type "object")=some true)(jy:kitOne K (.ref lK) (.ref iu)=some false)(hn_:PySem.W.specialIn K (.builtin "object.__class__") "__get__" = some (some (.builtin "getset_descriptor.__get__")))(tk_:PySem.W.takesIn K (.builtin "object.__class__")=some true)(fG:K.lookup bL=some (excClassObj Sq RL bL V5 Ua mQ true Ru Ry Ui T3 TF Tc S_ S7 S5 SX "ValueError.__new__"))(zV:mQ.contains (.type "ValueError")=true)(zU:mQ.contains (.type "AttributeError")=false)(zM:mQ.contains (.type "NameError")=false)(lV:mQ.contains (.type "BaseException")=true)(u6:mQ.contains (.type "object")=true)(z7:mQ=[].map Value.ref++[.type "ValueError",.type "Exception",.type "BaseException",.type "object"])(z_:findIn K (.ref bL) "__init__" = some (some (.ref f1)))(Ak:keepIn K (.ref bL)=true)(zK:findIn K (.ref bL) "__setattr__" = some (some (.builtin "object.__setattr__")))(zR:findIn K (.ref bL) "__getattribute__" = some (some (.builtin "BaseException.__getattribute__")))(zJ:findIn K (.ref bL) "at" = some none)(zQ:findIn K (.ref bL) "__getattr__" = some none)(zO:findIn K (.ref bL) "__class__" = some (some (.builtin "object.__class__")))(jk:K.lookup eX=some (excClassObj Xc W3 eX abb Yg qC true WK WN Yo X6 X3 Xx Xw Xv Xr Xq "ValueError.__new__"))(Gj:qC.contains (.type "ValueError")=true)(Gi:qC.contains (.type "AttributeError")=false)(Gd:qC.contains (.type "NameError")=false)(qt:qC.contains (.type "BaseException")=true)(zL:qC.contains (.type "object")=true)(Gp:qC=[bL].map Value.ref++[.type "ValueError",.type "Exception",.type "BaseException",.type "object"])(Gu:findIn K (.ref eX) "__init__" = some (some (.ref f1)))(Gy:keepIn K (.ref eX)=true)(Gb:findIn K (.ref eX) "__setattr__" = some (some (.builtin "object.__setattr__")))(Gh:findIn K (.ref eX) "__getattribute__" = some (some (.builtin "BaseException.__getattribute__")))(Ga:findIn K (.ref eX) "at" = some none)(Gg:findIn K (.ref eX) "__getattr__" = some none)(Gf:findIn K (.ref eX) "__class__" = some (some (.builtin "object.__class__")))(lE:K.lookup gZ=some (excClassObj aax aaf gZ adG aa5 tu true ZZ Z7 aa9 aa0 aaX aaR aaQ aaP aaO aaN "ValueError.__new__"))(Jg:tu.contains (.type "ValueError")=true)(Jf:tu.contains (.type "AttributeError")=false)(Ja:tu.contains (.type "NameError")=false)(sO:tu.contains (.type "BaseException")=true)(Dw:tu.contains (.type "object")=true)(Jt:tu=[bL].map Value.ref++[.type "ValueError",.type "Exception",.type "BaseException",.type "object"])(JF:findIn K (.ref gZ) "__init__" = some (some (.ref f1)))(JR:keepIn K (.ref gZ)=true)(I_:findIn K (.ref gZ) "__setattr__" = some (some (.builtin "object.__setattr__")))(Je:findIn K (.ref gZ) "__getattribute__" = some (some (.builtin "BaseException.__getattribute__")))(IW:findIn K (.ref gZ) "at" = some none)(Jd:findIn K (.ref gZ) "__getattr__" = some none)(Jb:findIn K (.ref gZ) "__class__" = some (some (.builtin "object.__class__")))(iB:subIn K (.ref bL) (.ref bL)=some true)(jE:subIn K (.ref bL) (.ref eX)=some false)(kJ:subIn K (.ref bL) (.ref gZ)=some false)(jD:subIn K (.ref eX) (.ref bL)=some true)(lX:subIn K (.ref eX) (.ref eX)=some true)(nG:subIn K (.ref eX) (.ref gZ)=some false)(kI:subIn K (.ref gZ) (.ref bL)=some true)(nF:subIn K (.ref gZ) (.ref eX)=some false)(oG:subIn K (.ref gZ) (.ref gZ)=some true)(Wf:nsIn K mainGlobals "bool" = some none)(zH:nsIn K mainGlobals "isinstance" = some none)(abn:nsIn K mainGlobals "len" = some none)(We:nsIn K mainGlobals "list" = some none)(Rf:nsIn K mainGlobals "range" = some none)(F_:nsIn K mainGlobals "reversed" = some none)(abm:nsIn K mainGlobals "set" = some none)(L_:nsIn K mainGlobals "sorted" = some none)(Rc:nsIn K mainGlobals "tuple" = some none):
  ∃t,Txt K mg t/\t.aP∈ts:=
 ⟨{lG:=iT,
   qN:=nW,
   Bd:=tL,
   yj:=qp,
   dU:=di,
   uI:=lK,
   Be:=su,
   lq:=iu,
   bZ:=bL,
   dN:=eX,
   dR:=gZ,
   tU:=f0,t7:=fnOf "_law_cell_at" "_law_cell_at" (aB gq) (aA gq) (ak gq) .none kV0 dc0 pm0 an0 cd0 ct0,
   jb:=f1,oZ:=fnOf "__init__" "HallError.__init__" (aB dG) (aA dG) (ak dG) .none kV1 dc1 pm1 an1 cd1 ct1,
   h_:=f2,ie:=fnOf "refuse_strangers" "Hall.refuse_strangers" (aB bA) (aA bA) (ak bA) .none kV2 dc2 pm2 an2 cd2 ct2,
   Aw:=f3,Bb:=fnOf "__init__" "Row.__init__" (aB mD) (aA mD) (ak mD) .none kV3 dc3 pm3 an3 cd3 ct3,
   Aq:=f4,Az:=fnOf "twin" "Row.twin" (aB mj) (aA mj) (ak mj) .none kV4 dc4 pm4 an4 cd4 ct4,
   xZ:=f5,yh:=fnOf "__init__" "Book.__init__" (aB jN) (aA jN) (ak jN) .none kV5 dc5 pm5 an5 cd5 ct5,
   vz:=f6,vJ:=fnOf "told" "Shelf.told" (aB iC) (aA iC) (ak iC) .none kV6 dc6 pm6 an6 cd6 ct6,
   vA:=f7,vK:=fnOf "__init__" "Shelf.__init__" (aB iD) (aA iD) (ak iD) .none kV7 dc7 pm7 an7 cd7 ct7,
   An:=f8,Ax:=fnOf "shelf_of" "shelf_of" (aB lZ) (aA lZ) (ak lZ) .none kV8 dc8 pm8 an8 cd8 ct8,
   xU:=f9,uG:=fnOf "__init__" "Hand.__init__" (aB lN) (aA lN) (ak lN) (.ref v9) kV9 dc9 pm9 an9 cd9 ct9,
   J9:=v9,
   m8:=f10,jz:=fnOf "bring_up" "Hall.bring_up" (aB dY) (aA dY) (ak dY) .none amJ apt ali art afe aqo,
   uF:=f11,qM:=fnOf "__init__" "Hall.__init__" (aB jM) (aA jM) (ak jM) (.ref v11) amI aps alh ars aiN aqn,
   J_:=v11,
   Ka:=ajF,
   wL:=f12,wN:=fnOf "_law_made" "_law_made" (aB jU) (aA jU) (ak jU) .none amH apr alg arq aiM aqm,
   pW:=f13,pY:=fnOf "_law_refused" "_law_refused" (aB eZ) (aA eZ) (ak eZ) .none amG apq alf arp aiL aql,
   jo:=f14,jq:=fnOf "refuse_unknown" "Hall.refuse_unknown" (aB bJ) (aA bJ) (ak bJ) .none amF apo ale aro aiK aqk,
   Ij:=f15,Ir:=fnOf "viewed" "viewed" (aB qZ) (aA qZ) (ak qZ) .none amE apn ald arn aiJ aqj,
   tV:=f16,t8:=fnOf "word" "Sitter.word" (aB gw) (aA gw) (ak gw) .none amD apm alc arl aiI aqi,
   vG:=f17,vO:=fnOf "word" "Asker.word" (aB iJ) (aA iJ) (ak iJ) .none amC apl alb ark aiH aqh,
   vC:=f18,vM:=fnOf "word" "Chair.word" (aB iH) (aA iH) (ak iH) .none amB apk ala arj aiG aqg,
   xV:=f19,yd:=fnOf "view" "Hall.view" (aB jH) (aA jH) (ak jH) .none amA apj ak_ ari aiF aqf,
   xX:=f20,yf:=fnOf "road" "Hall.road" (aB jK) (aA jK) (ak jK) .none amz api ak9 arh aiE aqe,
   t6:=f21,ug:=fnOf "papers" "Hall.papers" (aB gG) (aA gG) (ak gG) .none amy aph ak8 arf aiD aqd,
   rN:=f22,rT:=fnOf "answers" "Hall.answers" (aB fu) (aA fu) (ak fu) .none amx apg ak7 ard aiC aqc,
   xW:=f23,ye:=fnOf "send" "Hall.send" (aB jJ) (aA jJ) (ak jJ) .none amw apf ak6 arc aiB aqb,
   qg:=f24,qj:=fnOf "is_chair" "Hand.is_chair" (aB dX) (aA dX) (ak dX) .none amv ape ak5 arb aiA aqa,
   vB:=f25,vL:=fnOf "enter" "Hand.enter" (aB iG) (aA iG) (ak iG) .none amu apd ak4 ara aiz ap_,
   nH:=f26,nO:=fnOf "tell_paper" "Hand.tell_paper" (aB cX) (aA cX) (ak cX) .none amt apc ak3 aq_ aiy ap9,
   oV:=f27,oY:=fnOf "give_vote" "Hand.give_vote" (aB dD) (aA dD) (ak dD) .none ams apb ak2 aq9 aix ap8,
   Im:=f28,Iu:=fnOf "set_of" "set_of" (aB q_) (aA q_) (ak q_) .none amr apa ak1 aq8 aiw ap7,
   vH:=f29,vP:=fnOf "__init__" "Asker.__init__" (aB iK) (aA iK) (ak iK) .none amq ao_ ak0 aq7 aiv ap6,
   Av:=f30,Ba:=fnOf "last" "Row.last" (aB mz) (aA mz) (ak mz) .none amo ao9 akZ aq6 aiu ap5,
   xR:=f31,x_:=fnOf "keeps" "Row.keeps" (aB jF) (aA jF) (ak jF) .none amn ao8 akY aq5 ait ap4,
   rK:=f32,rQ:=fnOf "entry_at" "Row.entry_at" (aB fc) (aA fc) (ak fc) .none amm ao7 akX aq4 ais ap3,
   tW:=f33,t_:=fnOf "term_at" "Row.term_at" (aB gA) (aA gA) (ak gA) .none aml ao6 akW aq3 air ap2,
   Ep:=f34,Et:=fnOf "end" "Row.end" (aB oK) (aA oK) (ak oK) .none amk ao5 akV aq2 aiq ap1,
   Ao:=f35,Ay:=fnOf "hands_of" "hands_of" (aB l_) (aA l_) (ak l_) .none amj ao4 akU aq1 aip ap0,
   Em:=f36,Er:=fnOf "members" "members" (aB oH) (aA oH) (ak oH) .none ami ao3 akT aq0 aio apZ,
   kO:=f37,kZ:=fnOf "roll_place_by" "Row.roll_place_by" (aB b8) (aA b8) (ak b8) .none amh ao2 akS aqZ ain apY,
   tX:=f38,ud:=fnOf "roll_by" "Row.roll_by" (aB gB) (aA gB) (ak gB) .none amg ao1 akR aqY aim apW,
   Ar:=f39,A_:=fnOf "roll" "Row.roll" (aB mq) (aA mq) (ak mq) .none amf ao0 akQ aqX ail apV,
   tZ:=f40,uf:=fnOf "others" "Hand.others" (aB gF) (aA gF) (ak gF) .none ame aoZ akP aqW aik apU,
   Tv:=f41,TQ:=fnOf "many" "many" (aB z6) (aA z6) (ak z6) .none amd aoY akO aqV aij apT,
   En:=f42,zy:=fnOf "carries" "carries" (aB qH) (aA qH) (ak qH) (.ref v42) amc aoX akN aqU aii apS,
   Qj:=v42,
   Tu:=f43,O7:=fnOf "wins" "wins" (aB Ck) (aA Ck) (ak Ck) (.ref v43) amb aoW akM aqT aih apR,
   abr:=v43,
   vD:=f44,vN:=fnOf "__init__" "Chair.__init__" (aB iI) (aA iI) (ak iI) .none ama aoV akL aqS aif apQ,
   Eo:=f45,Es:=fnOf "put" "Row.put" (aB oJ) (aA oJ) (ak oJ) .none al_ aoU akK aqR aie apP,
   mK:=f46,mO:=fnOf "begin_beat" "Chair.begin_beat" (aB cJ) (aA cJ) (ak cJ) .none al9 aoT akJ aqQ aid apO,
   qe:=f47,qi:=fnOf "tell_all" "Hand.tell_all" (aB dW) (aA dW) (ak dW) .none al8 aoS akI aqP aic apM,
   jP:=f48,jQ:=fnOf "places_known" "Chair.places_known" (aB bQ) (aA bQ) (ak bQ) .none al7 aoR akH aqO aib apL,
   rO:=f49,rW:=fnOf "having" "Chair.having" (aB fB) (aA fB) (ak fB) .none al6 aoQ akG aqN aia apK,
   oU:=f50,oX:=fnOf "place_won" "Hand.place_won" (aB dB) (aA dB) (ak dB) .none al5 aoP akF aqM ah_ apJ,
   iQ:=f51,iR:=fnOf "place_to_settle" "Hand.place_to_settle" (aB bD) (aA bD) (ak bD) .none al4 aoO akE aqL ah9 apI,
   nM:=f52,nR:=fnOf "do_settled" "Hand.do_settled" (aB cZ) (aA cZ) (ak cZ) .none al3 aoN akD aqK ah8 apH,
   oO:=f53,oW:=fnOf "roll_place" "Row.roll_place" (aB dz) (aA dz) (ak dz) .none al2 aoM akC aqJ ah7 apG,
   gQ:=f54,gR:=fnOf "leave_double_roll" "Hand.leave_double_roll" (aB bw) (aA bw) (ak bw) .none al1 aoL akB aqI ah6 apF,
   kY:=f55,lg:=fnOf "answer_looks" "Hand.answer_looks" (aB cg) (aA cg) (ak cg) .none al0 aoK akA aqH ah5 apE,
   tY:=f56,ue:=fnOf "settle" "Hand.settle" (aB gC) (aA gC) (ak gC) .none alZ aoJ akz aqG ah4 apD,
   kW:=f57,k_:=fnOf "put_and_tell" "Hand.put_and_tell" (aB b_) (aA b_) (ak b_) .none alY aoI aky aqF ah3 apC,
   nJ:=f58,nQ:=fnOf "take_chair" "Hand.take_chair" (aB cY) (aA cY) (ak cY) .none alX aoH akx aqE ah2 apB,
   mJ:=f59,mL:=fnOf "count_votes" "Hand.count_votes" (aB cI) (aA cI) (ak cI) .none alW aoG akv aqD ah1 apA,
   xT:=f60,yc:=fnOf "ring" "Hand.ring" (aB jG) (aA jG) (ak jG) .none alV aoF aku aqC ah0 apz,
   rM:=f61,rR:=fnOf "hand_up" "Hall.hand_up" (aB fj) (aA fj) (ak fj) .none alU aoE akt aqB ahZ apy,
   xY:=f62,yg:=fnOf "ring" "Hall.ring" (aB jL) (aA jL) (ak jL) .none alT aoD aks aqA ahY apx,
   QS:=f63,KJ:=fnOf "law" "law" (aB Fi) (aA Fi) (ak Fi) .none alS aoC akr aqz ahX apw,
   bB:=qm,aP:=jC},
  {jl:=aC l0 c0 k0,
   e_:=(aC l0 c0 k0:aV K _ _ gq .none _ _).binds (ps:=["_law_script","_law_k"]) λ_ _ _ _ _ _ us hl=>by obtain⟨u0,u1,rfl⟩:=eY hl;rfl,
   lC:=jS X G a0,
   xQ:=aC l1 c1 k1,
   tK:=(aC l1 c1 k1:aV K _ _ dG .none _ _).binds (ps:=["self","at"]) λ_ _ _ _ _ _ us hl=>by obtain⟨u0,u1,rfl⟩:=eY hl;rfl,
   pU:=aC l2 c2 k2,
   cA:=(aC l2 c2 k2:aV K _ _ bA .none _ _).binds (ps:=["self","S"]) λ_ _ _ _ _ _ us hl=>by obtain⟨u0,u1,rfl⟩:=eY hl;rfl,
   pP:=⟨a2,i2,k2⟩,
   KH:=aC l3 c3 k3,
   qG:=(aC l3 c3 k3:aV K _ _ mD .none _ _).binds (ps:=["self","base","base_term","base_roll","entries"]) λ_ _ _ _ _ _ us hl=>by obtain⟨u0,u1,u2,u3,u4,rfl⟩:=Zc hl;rfl,
   Gv:=⟨Gv,a3,i3,Xu⟩,
   Kz:=aC l4 c4 k4,
   qF:=(aC l4 c4 k4:aV K _ _ mj .none _ _).binds (ps:=["self"]) λ_ _ _ _ _ _ us hl=>by obtain⟨u0,rfl⟩:=cB hl;rfl,
   CT:=⟨a4,i4,k4⟩,
   Ii:=aC l5 c5 k5,
   qT:=(aC l5 c5 k5:aV K _ _ jN .none _ _).binds (ps:=["self","term","vote","row","kept"]) λ_ _ _ _ _ _ us hl=>by obtain⟨u0,u1,u2,u3,u4,rfl⟩:=Zc hl;rfl,
   Eb:=⟨Eb,a5,i5,S9⟩,
   Fx:=aC l6 c6 k6,
   mU:=(aC l6 c6 k6:aV K _ _ iC .none _ _).binds (ps:=["self"]) λ_ _ _ _ _ _ us hl=>by obtain⟨u0,rfl⟩:=cB hl;rfl,
   yw:=⟨a6,i6,k6⟩,
   Fy:=aC l7 c7 k7,
   mV:=(aC l7 c7 k7:aV K _ _ iD .none _ _).binds (ps:=["self"]) λ_ _ _ _ _ _ us hl=>by obtain⟨u0,rfl⟩:=cB hl;rfl,
   vY:=⟨vY,a7,i7,Ol⟩,
   Df:=aC l8 c8 k8,
   tD:=(aC l8 c8 k8:aV K _ _ lZ .none _ _).binds (ps:=["told"]) λ_ _ _ _ _ _ us hl=>by obtain⟨u0,rfl⟩:=cB hl;rfl,
   Ko:=jS X G a8,
   H_:=aC l9 c9 k9,
   qP:=λs us X hl=>by obtain⟨u0,u1,u2,u3,rfl⟩:=Zd (us:=us) (by simpa using hl);exact PySem.W.binds_K X rfl lv9 dv9 rfl rfl,
   Ud:=λs us X hl=>by obtain⟨u0,u1,u2,rfl⟩:=xF (us:=us) (by simpa using hl);exact PySem.W.binds_K X rfl lv9 dv9 rfl rfl,
   Ea:=⟨Ea,a9,i9,S6⟩,
   zu:=aC l10 c10 k10,
   iz:=(aC l10 c10 k10:aV K _ _ dY .none _ _).binds (ps:=["self","h","book"]) λ_ _ _ _ _ _ us hl=>by obtain⟨u0,u1,u2,rfl⟩:=xF hl;rfl,
   yV:=⟨a10,i10,k10⟩,
   Ih:=aC l11 c11 k11,
   lR:=λs us X hl=>by obtain⟨u0,u1,u2,u3,rfl⟩:=Zd (us:=us) (by simpa using hl);exact PySem.W.binds_K X rfl aeM ae8 rfl rfl,
   Iw:=λs us X hl=>by obtain⟨u0,u1,u2,rfl⟩:=xF (us:=us) (by simpa using hl);exact PySem.W.binds_K X rfl aeM ae8 rfl rfl,
   Aa:=⟨Aa,a11,i11,S8⟩,
   xH:=aC l12 c12 k12,
   mR:=(aC l12 c12 k12:aV K _ _ jU .none _ _).binds (ps:=["_law_width","_law_first","_law_term"]) λ_ _ _ _ _ _ us hl=>by obtain⟨u0,u1,u2,rfl⟩:=xF hl;rfl,
   CK:=jS X G a12,
   wH:=aC l13 c13 k13,
   j4:=(aC l13 c13 k13:aV K _ _ eZ .none _ _).binds (ps:=["_law_width","_law_first","_law_term"]) λ_ _ _ _ _ _ us hl=>by obtain⟨u0,u1,u2,rfl⟩:=xF hl;rfl,
   CJ:=jS X G a13,
   rJ:=aC l14 c14 k14,
   cW:=(aC l14 c14 k14:aV K _ _ bJ .none _ _).binds (ps:=["self","h"]) λ_ _ _ _ _ _ us hl=>by obtain⟨u0,u1,rfl⟩:=eY hl;rfl,
   mG:=⟨a14,i14,k14⟩,
   J0:=aC l15 c15 k15,
   zz:=(aC l15 c15 k15:aV K _ _ qZ .none _ _).binds (ps:=["word","hand"]) λ_ _ _ _ _ _ us hl=>by obtain⟨u0,u1,rfl⟩:=eY hl;rfl,
   QB:=jS X G a15,
   Dg:=aC l16 c16 k16,
   nj:=(aC l16 c16 k16:aV K _ _ gw .none _ _).binds (ps:=["self"]) λ_ _ _ _ _ _ us hl=>by obtain⟨u0,rfl⟩:=cB hl;rfl,
   CQ:=⟨a16,i16,k16⟩,
   FP:=aC l17 c17 k17,
   pA:=(aC l17 c17 k17:aV K _ _ iJ .none _ _).binds (ps:=["self"]) λ_ _ _ _ _ _ us hl=>by obtain⟨u0,rfl⟩:=cB hl;rfl,
   Ft:=⟨a17,i17,k17⟩,
   FJ:=aC l18 c18 k18,
   o_:=(aC l18 c18 k18:aV K _ _ iH .none _ _).binds (ps:=["self"]) λ_ _ _ _ _ _ us hl=>by obtain⟨u0,rfl⟩:=cB hl;rfl,
   Fq:=⟨a18,i18,k18⟩,
   Ia:=aC l19 c19 k19,
   oF:=(aC l19 c19 k19:aV K _ _ jH .none _ _).binds (ps:=["self","h"]) λ_ _ _ _ _ _ us hl=>by obtain⟨u0,u1,rfl⟩:=eY hl;rfl,
   Ac:=⟨a19,i19,k19⟩,
   Ie:=aC l20 c20 k20,
   lQ:=(aC l20 c20 k20:aV K _ _ jK .none _ _).binds (ps:=["self"]) λ_ _ _ _ _ _ us hl=>by obtain⟨u0,rfl⟩:=cB hl;rfl,
   vg:=⟨a20,i20,k20⟩,
   Dl:=aC l21 c21 k21,
   j6:=(aC l21 c21 k21:aV K _ _ gG .none _ _).binds (ps:=["self"]) λ_ _ _ _ _ _ us hl=>by obtain⟨u0,rfl⟩:=cB hl;rfl,
   wu:=⟨a21,i21,k21⟩,
   BJ:=aC l22 c22 k22,
   lJ:=(aC l22 c22 k22:aV K _ _ fu .none _ _).binds (ps:=["self"]) λ_ _ _ _ _ _ us hl=>by obtain⟨u0,rfl⟩:=cB hl;rfl,
   Br:=⟨a22,i22,k22⟩,
   Ib:=aC l23 c23 k23,
   qQ:=(aC l23 c23 k23:aV K _ _ jJ .none _ _).binds (ps:=["self","letters"]) λ_ _ _ _ _ _ us hl=>by obtain⟨u0,u1,rfl⟩:=eY hl;rfl,
   Hu:=⟨a23,i23,k23⟩,
   zq:=aC l24 c24 k24,
   jB:=(aC l24 c24 k24:aV K _ _ dX .none _ _).binds (ps:=["self"]) λ_ _ _ _ _ _ us hl=>by obtain⟨u0,rfl⟩:=cB hl;rfl,
   yU:=⟨a24,i24,k24⟩,
   Fz:=aC l25 c25 k25,
   o9:=(aC l25 c25 k25:aV K _ _ iG .none _ _).binds (ps:=["self","term"]) λ_ _ _ _ _ _ us hl=>by obtain⟨u0,u1,rfl⟩:=eY hl;rfl,
   Fp:=⟨a25,i25,k25⟩,
   wI:=aC l26 c26 k26,
   cD:=(aC l26 c26 k26:aV K _ _ cX .none _ _).binds (ps:=["self","paper"]) λ_ _ _ _ _ _ us hl=>by obtain⟨u0,u1,rfl⟩:=eY hl;rfl,
   fZ:=⟨a26,i26,k26⟩,
   xP:=aC l27 c27 k27,
   je:=(aC l27 c27 k27:aV K _ _ dD .none _ _).binds (ps:=["self","whom"]) λ_ _ _ _ _ _ us hl=>by obtain⟨u0,u1,rfl⟩:=eY hl;rfl,
   xr:=⟨a27,i27,k27⟩,
   El:=aC l28 c28 k28,
   wQ:=(aC l28 c28 k28:aV K _ _ q_ .none _ _).binds (ps:=["hands"]) λ_ _ _ _ _ _ us hl=>by obtain⟨u0,rfl⟩:=cB hl;rfl,
   JK:=jS X G a28,
   FQ:=aC l29 c29 k29,
   pB:=(aC l29 c29 k29:aV K _ _ iK .none _ _).binds (ps:=["self","me"]) λ_ _ _ _ _ _ us hl=>by obtain⟨u0,u1,rfl⟩:=eY hl;rfl,
   yR:=⟨yR,a29,i29,Oo⟩,
   KD:=aC l30 c30 k30,
   gh:=(aC l30 c30 k30:aV K _ _ mz .none _ _).binds (ps:=["self"]) λ_ _ _ _ _ _ us hl=>by obtain⟨u0,rfl⟩:=cB hl;rfl,
   jO:=⟨a30,i30,k30⟩,
   HX:=aC l31 c31 k31,
   qO:=(aC l31 c31 k31:aV K _ _ jF .none _ _).binds (ps:=["self","place"]) λ_ _ _ _ _ _ us hl=>by obtain⟨u0,u1,rfl⟩:=eY hl;rfl,
   Hs:=⟨a31,i31,k31⟩,
   Bw:=aC l32 c32 k32,
   fH:=(aC l32 c32 k32:aV K _ _ fc .none _ _).binds (ps:=["self","place"]) λ_ _ _ _ _ _ us hl=>by obtain⟨u0,u1,rfl⟩:=eY hl;rfl,
   mZ:=⟨a32,i32,k32⟩,
   Dh:=aC l33 c33 k33,
   iW:=(aC l33 c33 k33:aV K _ _ gA .none _ _).binds (ps:=["self","place"]) λ_ _ _ _ _ _ us hl=>by obtain⟨u0,u1,rfl⟩:=eY hl;rfl,
   vZ:=⟨a33,i33,k33⟩,
   OJ:=aC l34 c34 k34,
   vW:=(aC l34 c34 k34:aV K _ _ oK .none _ _).binds (ps:=["self"]) λ_ _ _ _ _ _ us hl=>by obtain⟨u0,rfl⟩:=cB hl;rfl,
   N5:=⟨a34,i34,k34⟩,
   xJ:=aC l35 c35 k35,
   qD:=(aC l35 c35 k35:aV K _ _ l_ .none _ _).binds (ps:=["S"]) λ_ _ _ _ _ _ us hl=>by obtain⟨u0,rfl⟩:=cB hl;rfl,
   CN:=jS X G a35,
   Gz:=aC l36 c36 k36,
   vU:=(aC l36 c36 k36:aV K _ _ oH .none _ _).binds (ps:=["roll"]) λ_ _ _ _ _ _ us hl=>by obtain⟨u0,rfl⟩:=cB hl;rfl,
   NB:=jS X G a36,
   uC:=aC l37 c37 k37,
   cU:=(aC l37 c37 k37:aV K _ _ b8 .none _ _).binds (ps:=["self","place"]) λ_ _ _ _ _ _ us hl=>by obtain⟨u0,u1,rfl⟩:=eY hl;rfl,
   n8:=⟨a37,i37,k37⟩,
   Di:=aC l38 c38 k38,
   nq:=(aC l38 c38 k38:aV K _ _ gB .none _ _).binds (ps:=["self","place"]) λ_ _ _ _ _ _ us hl=>by obtain⟨u0,u1,rfl⟩:=eY hl;rfl,
   CV:=⟨a38,i38,k38⟩,
   KC:=aC l39 c39 k39,
   mW:=(aC l39 c39 k39:aV K _ _ mq .none _ _).binds (ps:=["self"]) λ_ _ _ _ _ _ us hl=>by obtain⟨u0,rfl⟩:=cB hl;rfl,
   uv:=⟨a39,i39,k39⟩,
   Dk:=aC l40 c40 k40,
   j5:=(aC l40 c40 k40:aV K _ _ gF .none _ _).binds (ps:=["self"]) λ_ _ _ _ _ _ us hl=>by obtain⟨u0,rfl⟩:=cB hl;rfl,
   v_:=⟨a40,i40,k40⟩,
   HW:=aC l41 c41 k41,
   Ds:=(aC l41 c41 k41:aV K _ _ z6 .none _ _).binds (ps:=["S"]) λ_ _ _ _ _ _ us hl=>by obtain⟨u0,rfl⟩:=cB hl;rfl,
   Lw:=jS X G a41,
   Am:=aC l42 c42 k42,
   tE:=λs us X hl=>by obtain⟨u0,u1,u2,rfl⟩:=xF (us:=us) (by simpa using hl);exact PySem.W.binds_K X rfl aeL ae7 rfl rfl,
   Yh:=λs us X hl=>by obtain⟨u0,u1,rfl⟩:=eY (us:=us) (by simpa using hl);exact PySem.W.binds_K X rfl aeL ae7 rfl rfl,
   Gw:=jS X G a42,
   LQ:=aC l43 c43 k43,
   Ph:=λs us X hl=>by obtain⟨u0,u1,u2,rfl⟩:=xF (us:=us) (by simpa using hl);exact PySem.W.binds_K X rfl aeK ae6 rfl rfl,
   Uc:=λs us X hl=>by obtain⟨u0,u1,rfl⟩:=eY (us:=us) (by simpa using hl);exact PySem.W.binds_K X rfl aeK ae6 rfl rfl,
   Su:=jS X G a43,
   FN:=aC l44 c44 k44,
   pq:=(aC l44 c44 k44:aV K _ _ iI .none _ _).binds (ps:=["self","me","start"]) λ_ _ _ _ _ _ us hl=>by obtain⟨u0,u1,u2,rfl⟩:=xF hl;rfl,
   yQ:=⟨yQ,a44,i44,Om⟩,
   OD:=aC l45 c45 k45,
   vV:=(aC l45 c45 k45:aV K _ _ oJ .none _ _).binds (ps:=["self","entry"]) λ_ _ _ _ _ _ us hl=>by obtain⟨u0,u1,rfl⟩:=eY hl;rfl,
   NZ:=⟨a45,i45,k45⟩,
   uZ:=aC l46 c46 k46,
   gj:=(aC l46 c46 k46:aV K _ _ cJ .none _ _).binds (ps:=["self"]) λ_ _ _ _ _ _ us hl=>by obtain⟨u0,rfl⟩:=cB hl;rfl,
   uV:=⟨a46,i46,k46⟩,
   zp:=aC l47 c47 k47,
   jA:=(aC l47 c47 k47:aV K _ _ dW .none _ _).binds (ps:=["self"]) λ_ _ _ _ _ _ us hl=>by obtain⟨u0,rfl⟩:=cB hl;rfl,
   yS:=⟨a47,i47,k47⟩,
   sI:=aC l48 c48 k48,
   eV:=(aC l48 c48 k48:aV K _ _ bQ .none _ _).binds (ps:=["self","last"]) λ_ _ _ _ _ _ us hl=>by obtain⟨u0,u1,rfl⟩:=eY hl;rfl,
   sH:=⟨a48,i48,k48⟩,
   BK:=aC l49 c49 k49,
   jm:=(aC l49 c49 k49:aV K _ _ fB .none _ _).binds (ps:=["self","place"]) λ_ _ _ _ _ _ us hl=>by obtain⟨u0,u1,rfl⟩:=eY hl;rfl,
   uM:=⟨a49,i49,k49⟩,
   xN:=aC l50 c50 k50,
   jd:=(aC l50 c50 k50:aV K _ _ dB .none _ _).binds (ps:=["self"]) λ_ _ _ _ _ _ us hl=>by obtain⟨u0,rfl⟩:=cB hl;rfl,
   xq:=⟨a50,i50,k50⟩,
   qL:=aC l51 c51 k51,
   dH:=(aC l51 c51 k51:aV K _ _ bD .none _ _).binds (ps:=["self"]) λ_ _ _ _ _ _ us hl=>by obtain⟨u0,rfl⟩:=cB hl;rfl,
   qI:=⟨a51,i51,k51⟩,
   wK:=aC l52 c52 k52,
   ir:=(aC l52 c52 k52:aV K _ _ cZ .none _ _).binds (ps:=["self"]) λ_ _ _ _ _ _ us hl=>by obtain⟨u0,rfl⟩:=cB hl;rfl,
   wj:=⟨a52,i52,k52⟩,
   xK:=aC l53 c53 k53,
   jc:=(aC l53 c53 k53:aV K _ _ dz .none _ _).binds (ps:=["self"]) λ_ _ _ _ _ _ us hl=>by obtain⟨u0,rfl⟩:=cB hl;rfl,
   xm:=⟨a53,i53,k53⟩,
   pG:=aC l54 c54 k54,
   cQ:=(aC l54 c54 k54:aV K _ _ bw .none _ _).binds (ps:=["self"]) λ_ _ _ _ _ _ us hl=>by obtain⟨u0,rfl⟩:=cB hl;rfl,
   pC:=⟨a54,i54,k54⟩,
   uE:=aC l55 c55 k55,
   fK:=(aC l55 c55 k55:aV K _ _ cg .none _ _).binds (ps:=["self"]) λ_ _ _ _ _ _ us hl=>by obtain⟨u0,rfl⟩:=cB hl;rfl,
   ux:=⟨a55,i55,k55⟩,
   Dj:=aC l56 c56 k56,
   nu:=(aC l56 c56 k56:aV K _ _ gC .none _ _).binds (ps:=["self"]) λ_ _ _ _ _ _ us hl=>by obtain⟨u0,rfl⟩:=cB hl;rfl,
   CW:=⟨a56,i56,k56⟩,
   uD:=aC l57 c57 k57,
   fJ:=(aC l57 c57 k57:aV K _ _ b_ .none _ _).binds (ps:=["self","what"]) λ_ _ _ _ _ _ us hl=>by obtain⟨u0,u1,rfl⟩:=eY hl;rfl,
   uw:=⟨a57,i57,k57⟩,
   wJ:=aC l58 c58 k58,
   ig:=(aC l58 c58 k58:aV K _ _ cY .none _ _).binds (ps:=["self"]) λ_ _ _ _ _ _ us hl=>by obtain⟨u0,rfl⟩:=cB hl;rfl,
   v5:=⟨a58,i58,k58⟩,
   uY:=aC l59 c59 k59,
   d_:=(aC l59 c59 k59:aV K _ _ cI .none _ _).binds (ps:=["self"]) λ_ _ _ _ _ _ us hl=>by obtain⟨u0,rfl⟩:=cB hl;rfl,
   uU:=⟨a59,i59,k59⟩,
   HY:=aC l60 c60 k60,
   uK:=(aC l60 c60 k60:aV K _ _ jG .none _ _).binds (ps:=["self"]) λ_ _ _ _ _ _ us hl=>by obtain⟨u0,rfl⟩:=cB hl;rfl,
   Ht:=⟨a60,i60,k60⟩,
   Bx:=aC l61 c61 k61,
   lH:=(aC l61 c61 k61:aV K _ _ fj .none _ _).binds (ps:=["self","h"]) λ_ _ _ _ _ _ us hl=>by obtain⟨u0,u1,rfl⟩:=eY hl;rfl,
   Bq:=⟨a61,i61,k61⟩,
   Ig:=aC l62 c62 k62,
   qR:=(aC l62 c62 k62:aV K _ _ jL .none _ _).binds (ps:=["self","h"]) λ_ _ _ _ _ _ us hl=>by obtain⟨u0,u1,rfl⟩:=eY hl;rfl,
   Hw:=⟨a62,i62,k62⟩,
   XN:=aC l63 c63 k63,
   V0:=(aC l63 c63 k63:aV K _ _ Fi .none _ _).binds (ps:=["_law_script"]) λ_ _ _ _ _ _ us hl=>by obtain⟨u0,rfl⟩:=cB hl;rfl,
   acM:=jS X G a63,
   bB:=sZ,
   iY:=iY,
   iZ:=iZ,
   i_:=i_,
   bN:=⟨RV,Tn,RN,RB⟩,
   Sv:=jS X G Uk,
   gW:=gW,
   fM:=fM,
   gJ:=gJ,
   cP:=cP,
   jX:=jX,
   bz:=⟨W6,XF,W4,WQ⟩,
   Xe:=jS X G Yp,
   dw:=dw,
   eG:=eG,
   eN:=eN,
   dM:=dM,
   bh:=⟨RW,Tp,RP,RC⟩,
   Zb:=jS X G Ul,
   bG:=bG,
   fD:=fD,
   bI:=bI,
   dh:=dh,
   rZ:=⟨Nh,Ou,M_,Mw⟩,
   NK:=jS X G Pj,
   eF:=eF,
   dJ:=dJ,
   aD:=⟨RT,Tj,RM,Rz⟩,
   Za:=jS X G Uj,
   dI:=dI,
   mF:=mF,
   bF:=bF,
   fC:=fC,
   bH:=bH,
   dg:=dg,
   cj:=cj,
   iM:=iM,
   jW:=jW,
   gH:=gH,
   bx:=bx,
   JP:=⟨JH,JG,JV⟩,
   Q4:=⟨DW,Ek,DR,DQ⟩,
   JL:=jS X G J5,
   Dp:=⟨Nj,Ow,Nf,MF⟩,
   Vo:=jS X G Pn,
   fP:=fP,
   bV:=⟨Ni,Ov,Nb,Mz⟩,
   NQ:=jS X G Pk,
   cR:=cR,
   lA:=lA,
   gK:=gK,
   lB:=lB,
   fO:=fO,
   ji:=ji,
   jy:=jy,
   Qx:=⟨⟨DW,Ek,DR,DQ⟩,Jz,hn_,tk_,Jy⟩,
   Hr:=jS X G Bf,
   Rg:=Wg fG zV zU zM lV z_ i1 Ak,
   u_:=Rh fG u6 lV (Cq z7) zK zR zJ,
   u9:=Wi fG u6 zQ zO hn_ tk_,
   NP:=jS X G GD,
   Wh:=Wg jk Gj Gi Gd qt Gu i1 Gy,
   zT:=Rh jk zL qt (Cq Gp) Gb Gh Ga,
   zP:=Wi jk zL Gg Gf hn_ tk_,
   Ec:=jS X G J6,
   Jc:=Wg lE Jg Jf Ja sO JF i1 JR,
   vQ:=Rh lE Dw sO (Cq Jt) I_ Je IW,
   Dy:=Wi lE Dw Jd Jb hn_ tk_,
   zN:=GP fG lV iB,
   rH:=HJ fG iB,
   Ca:=GP jk qt jE,
   uA:=HJ jk jE,
   uT:=GP lE sO kJ,
   Fb:=HJ lE kJ,
   B_:=GP fG lV jD,
   uz:=HJ fG jD,
   Ge:=GP jk qt lX,
   wF:=HJ jk lX,
   wW:=GP lE sO nG,
   HN:=HJ lE nG,
   Ex:=GP fG lV kI,
   uW:=HJ fG kI,
   GQ:=GP jk qt nF,
   xG:=HJ jk nF,
   yL:=GP lE sO oG,
   JS:=HJ lE oG,
   acP:=vT X G Wf,
   rA:=vT X G zH,
   Vq:=vT X G abn,
   JN:=vT X G We,
   Ad:=vT X G Rf,
   N8:=vT X G F_,
   afM:=vT X G abm,
   Hy:=vT X G L_,
   Sw:=vT X G Rc},sU⟩
theorem fin{ts:List Addr}(T:∃t,Txt K mg t/\t.aP∈ts)(hmg:mg "law" = some (.ref fa)):
  ∃(fd:FuncData) (tabs:List (Addr×Addr)) (ct:Nat->Addr),(∀(s:Shared) (u:Value),BindsTo s fd ⟨[u],[]⟩ [("_law_script",u)])/\(∀z∈tabs,PySem.W.codeHdIn K z.1 z.2=true/\z.2∈ts)/\(∀z∈tabs,K.lookup z.2=none)/\(∀k',1000<=k'->ct k'≠0->∃z∈tabs,ct k'=z.2)/\
   ∀base:Heap,K.In base->base.Ns mainGlobals mg->(∀z∈tabs,PySem.W.CodeHd base z.1 z.2/\base.BuiltinsAt mg z.2)->g8 P w K mg base CX0 15 fa fd ["_law_script"] (S.adU K ct):=by
 obtain⟨t,T,ht⟩:=T
 have e0:=hmg.symm.trans T.acM
 cases e0
 exact⟨t.KJ,[(t.bB,t.aP)],Fd t,λs u=>aaJ T s u,λz hz=>by rw[List.mem_singleton.mp hz];exact⟨T.iZ,ht⟩,λz hz=>by rw[List.mem_singleton.mp hz];exact T.i_,λk' hk hc=>afa hk hc,λbase _ _ hz=>aez T (hz _ (List.mem_singleton.mpr rfl))⟩
end My
open PySem PySem.W PyProof.Rows
theorem PySem.Challenge.cw_chairvote_k56_first_terms_holds : PySem.Challenge.rw_chairvote_k56_first_terms.Holds := by
 refine Hq9.b.2 ?_
 delta Hq9.b;dsimp only
 k_fill
 refine S.ajx (l:=PySem.Challenge.rw_chairvote_k56_first_terms) (x:= "_law_script") (k:=15) rfl rfl ⟨rfl,by decide,by decide⟩ (fun w h Y=>PySem.W.km_in_of Y) (fun w h Y=>PySem.W.km_tabs_of Y) ?F
 case F=>
  intro w mg fa h KX G hmg
  refine My.fin (K:=L2.KOf KX) ?_ hmg
  dsimp only[L2.KOf]
  refine' My.all_mk KX G ?Uk ?Yp ?Ul ?Pj ?Uj ?J5 ?Pn ?Pk ?Bf ?GD ?J6 ?a0 ?l0 ?c0 ?k0 ?a1 ?i1 ?l1 ?c1 ?k1 ?a2 ?i2 ?l2 ?c2 ?k2 ?a3 ?i3 ?l3 ?c3 ?k3 ?a4 ?i4 ?l4 ?c4 ?k4 ?a5 ?i5 ?l5 ?c5 ?k5 ?a6 ?i6 ?l6 ?c6 ?k6 ?a7 ?i7 ?l7 ?c7 ?k7 ?a8 ?l8 ?c8 ?k8 ?a9 ?i9 ?l9 ?c9 ?k9 ?lv9 ?dv9 ?a10 ?i10 ?l10 ?c10 ?k10 ?a11 ?i11 ?l11 ?c11 ?k11 ?aeM ?ae8 ?a12 ?l12 ?c12 ?k12 ?a13 ?l13 ?c13 ?k13 ?a14 ?i14 ?l14 ?c14 ?k14 ?a15 ?l15 ?c15 ?k15 ?a16 ?i16 ?l16 ?c16 ?k16 ?a17 ?i17 ?l17 ?c17 ?k17 ?a18 ?i18 ?l18 ?c18 ?k18 ?a19 ?i19 ?l19 ?c19 ?k19 ?a20 ?i20 ?l20 ?c20 ?k20 ?a21 ?i21 ?l21 ?c21 ?k21 ?a22 ?i22 ?l22 ?c22 ?k22 ?a23 ?i23 ?l23 ?c23 ?k23 ?a24 ?i24 ?l24 ?c24 ?k24 ?a25 ?i25 ?l25 ?c25 ?k25 ?a26 ?i26 ?l26 ?c26 ?k26 ?a27 ?i27 ?l27 ?c27 ?k27 ?a28 ?l28 ?c28 ?k28 ?a29 ?i29 ?l29 ?c29 ?k29 ?a30 ?i30 ?l30 ?c30 ?k30 ?a31 ?i31 ?l31 ?c31 ?k31 ?a32 ?i32 ?l32 ?c32 ?k32 ?a33 ?i33 ?l33 ?c33 ?k33 ?a34 ?i34 ?l34 ?c34 ?k34 ?a35 ?l35 ?c35 ?k35 ?a36 ?l36 ?c36 ?k36 ?a37 ?i37 ?l37 ?c37 ?k37 ?a38 ?i38 ?l38 ?c38 ?k38 ?a39 ?i39 ?l39 ?c39 ?k39 ?a40 ?i40 ?l40 ?c40 ?k40 ?a41 ?l41 ?c41 ?k41 ?a42 ?l42 ?c42 ?k42 ?aeL ?ae7 ?a43 ?l43 ?c43 ?k43 ?aeK ?ae6 ?a44 ?i44 ?l44 ?c44 ?k44 ?a45 ?i45 ?l45 ?c45 ?k45 ?a46 ?i46 ?l46 ?c46 ?k46 ?a47 ?i47 ?l47 ?c47 ?k47 ?a48 ?i48 ?l48 ?c48 ?k48 ?a49 ?i49 ?l49 ?c49 ?k49 ?a50 ?i50 ?l50 ?c50 ?k50 ?a51 ?i51 ?l51 ?c51 ?k51 ?a52 ?i52 ?l52 ?c52 ?k52 ?a53 ?i53 ?l53 ?c53 ?k53 ?a54 ?i54 ?l54 ?c54 ?k54 ?a55 ?i55 ?l55 ?c55 ?k55 ?a56 ?i56 ?l56 ?c56 ?k56 ?a57 ?i57 ?l57 ?c57 ?k57 ?a58 ?i58 ?l58 ?c58 ?k58 ?a59 ?i59 ?l59 ?c59 ?k59 ?a60 ?i60 ?l60 ?c60 ?k60 ?a61 ?i61 ?l61 ?c61 ?k61 ?a62 ?i62 ?l62 ?c62 ?k62 ?a63 ?l63 ?c63 ?k63 ?sZ ?yZ ?yN ?iY ?i_ ?iZ ?sU ?RV ?Tn ?RN ?RB ?Aa ?S8 ?gW ?fM ?gJ ?cP ?jX ?W6 ?XF ?W4 ?WQ ?Gv ?Xu ?dw ?eG ?eN ?dM ?RW ?Tp ?RP ?RC ?Eb ?S9 ?bG ?fD ?bI ?dh ?Nh ?Ou ?M_ ?Mw ?vY ?Ol ?eF ?dJ ?RT ?Tj ?RM ?Rz ?Ea ?S6 ?dI ?mF ?bF ?fC ?bH ?dg ?cj ?iM ?jW ?gH ?bx ?DW ?Ek ?DR ?DQ ?JH ?JV ?JG ?Nj ?Ow ?Nf ?MF ?yR ?Oo ?fP ?Ni ?Ov ?Nb ?Mz ?yQ ?Om ?cR ?lA ?gK ?lB ?fO ?ji ?Jz ?Jy ?jy ?hn_ ?tk_ ?fG ?zV ?zU ?zM ?lV ?u6 ?z7 ?z_ ?Ak ?zK ?zR ?zJ ?zQ ?zO ?jk ?Gj ?Gi ?Gd ?qt ?zL ?Gp ?Gu ?Gy ?Gb ?Gh ?Ga ?Gg ?Gf ?lE ?Jg ?Jf ?Ja ?sO ?Dw ?Jt ?JF ?JR ?I_ ?Je ?IW ?Jd ?Jb ?iB ?jE ?kJ ?jD ?lX ?nG ?kI ?nF ?oG ?Wf ?zH ?abn ?We ?Rf ?F_ ?abm ?L_ ?Rc
  case Uk | Yp | Ul | Pj | Uj | J5 | Pn | Pk | Bf | GD | J6 | a0 | l0 | c0 | k0 | a1 | i1 | l1 | c1 | k1 | a2 | i2 | l2 | c2 | k2 | a3 | i3 | l3 | c3 | k3 | a4 | i4 | l4 | c4 | k4 | a5 | i5 | l5 | c5 | k5 | a6 | i6 | l6 | c6 | k6 | a7 | i7 | l7 | c7 | k7 | a8 | l8 | c8 | k8 | a9 | i9 | l9 | c9 | k9 | lv9=>k_is
  case dv9=>rfl
  case a10 | i10 | l10 | c10 | k10 | a11 | i11 | l11 | c11 | k11 | aeM=>k_is
  case ae8=>rfl
  case a12 | l12 | c12 | k12 | a13 | l13 | c13 | k13 | a14 | i14 | l14 | c14 | k14 | a15 | l15 | c15 | k15 | a16 | i16 | l16 | c16 | k16 | a17 | i17 | l17 | c17 | k17 | a18 | i18 | l18 | c18 | k18 | a19 | i19 | l19 | c19 | k19 | a20 | i20 | l20 | c20 | k20 | a21 | i21 | l21 | c21 | k21 | a22 | i22 | l22 | c22 | k22 | a23 | i23 | l23 | c23 | k23 | a24 | i24 | l24 | c24 | k24 | a25 | i25 | l25 | c25 | k25 | a26 | i26 | l26 | c26 | k26 | a27 | i27 | l27 | c27 | k27 | a28 | l28 | c28 | k28 | a29 | i29 | l29 | c29 | k29 | a30 | i30 | l30 | c30 | k30 | a31 | i31 | l31 | c31 | k31 | a32 | i32 | l32 | c32 | k32 | a33 | i33 | l33 | c33 | k33 | a34 | i34 | l34 | c34 | k34 | a35 | l35 | c35 | k35 | a36 | l36 | c36 | k36 | a37 | i37 | l37 | c37 | k37 | a38 | i38 | l38 | c38 | k38 | a39 | i39 | l39 | c39 | k39 | a40 | i40 | l40 | c40 | k40 | a41 | l41 | c41 | k41 | a42 | l42 | c42 | k42 | aeL=>k_is
  case ae7=>rfl
  case a43 | l43 | c43 | k43 | aeK=>k_is
  case ae6=>rfl
  case a44 | i44 | l44 | c44 | k44 | a45 | i45 | l45 | c45 | k45 | a46 | i46 | l46 | c46 | k46 | a47 | i47 | l47 | c47 | k47 | a48 | i48 | l48 | c48 | k48 | a49 | i49 | l49 | c49 | k49 | a50 | i50 | l50 | c50 | k50 | a51 | i51 | l51 | c51 | k51 | a52 | i52 | l52 | c52 | k52 | a53 | i53 | l53 | c53 | k53 | a54 | i54 | l54 | c54 | k54 | a55 | i55 | l55 | c55 | k55 | a56 | i56 | l56 | c56 | k56 | a57 | i57 | l57 | c57 | k57 | a58 | i58 | l58 | c58 | k58 | a59 | i59 | l59 | c59 | k59 | a60 | i60 | l60 | c60 | k60 | a61 | i61 | l61 | c61 | k61 | a62 | i62 | l62 | c62 | k62 | a63 | l63 | c63 | k63=>k_is
  case sZ=>rfl
  case yZ=>k_is
  case yN=>rfl
  case iY=>decide
  case i_ | iZ=>kernel_rfl
  case sU=>decide
  case RV | Tn | RN | RB | Aa | S8 | gW | fM | gJ | cP | jX | W6 | XF | W4 | WQ | Gv | Xu | dw | eG | eN | dM | RW | Tp | RP | RC | Eb | S9 | bG | fD | bI | dh | Nh | Ou | M_ | Mw | vY | Ol | eF | dJ | RT | Tj | RM | Rz | Ea | S6 | dI | mF | bF | fC | bH | dg | cj | iM | jW | gH | bx | DW | Ek | DR | DQ | JH | JV | JG | Nj | Ow | Nf | MF | yR | Oo | fP | Ni | Ov | Nb | Mz | yQ | Om | cR | lA | gK | lB | fO | ji | Jz=>k_is
  case Jy | jy=>first | k_is | kernel_rfl
  case hn_ | tk_ | fG=>k_is
  case zV | zU | zM | lV | u6=>decide +kernel
  case z7=>rfl
  case z_ | Ak | zK | zR | zJ | zQ | zO | jk=>k_is
  case Gj | Gi | Gd | qt | zL=>decide +kernel
  case Gp=>rfl
  case Gu | Gy | Gb | Gh | Ga | Gg | Gf | lE=>k_is
  case Jg | Jf | Ja | sO | Dw=>decide +kernel
  case Jt=>rfl
  case JF | JR | I_ | Je | IW | Jd | Jb | iB | jE | kJ | jD | lX | nG | kI | nF | oG | Wf | zH | abn | We | Rf | F_ | abm | L_ | Rc=>k_is

