import PyProof.Rows.All
import Wide.All
import OpenK.AllK
import Wide.FinOn
import Lean
import PyProof.EqAt
import PyProof.EqKinds
import PyProof.TupleCall
import PyProof.Rows.EqDataRows
import PyProof.DictList
import PyProof.FactsAll.dict_1
import PyProof.FactsAll.subtypes_4
import KE.KTryMore
import PyProof.WalksEnum
import PyProof.EnumMake
import PyProof.ListStr
import PyProof.TupleOfStr
import PyProof.Dict
import PyProof.StrLawsIn
import PyProof.ToksMono
import PyProof.StrCalls6
import PyProof.StrWalks
import PyProof.ConsumeWalk
import PyProof.CallStr
import PyProof.MeetsStr
import KE.KIntText
import PyProof.StrLawsReplace
import PyProof.StrCalls2
import PyProof.StrOps2
import KE.KSortTup
import PyProof.WalksMore
import PyProof.TupleIter
import PyProof.SliceList
import PyProof.ListRange
import KE.KRevIter
import PyProof.ZipIter
import PyProof.StrLaws
import PySem.Challenge.RW_inkloom_k43_notes_refused
set_option Elab.async false
set_option linter.all false
set_option maxRecDepth 100000
set_option compiler.extract_closed false
noncomputable section
open PySem.W (Frag InstAt callWith_K cellsFrom_some codeIn codeRec_of exmOne fnOf hideAll hideAll_get instObj isFn keepIn kia_one kitOne kitx_dict kitx_list lookIn methodObj mg_none_of mg_of nsIn of_hideAll plainGet)
namespace L2
open PySem PySem.Spec PyProof.Rows
abbrev Key:=Sum Int Str
def nk:Key→Value→Bool
 | .inl k,v=>Value.isInt k v
 | .inr x,v=>Value.isStrOf x v
def G5(w:World):Key→Int
 | .inl k=>hashInt k
 | .inr x=>hashStr w x
theorem i4: ∀{k:Key} {v:Value},nk k v=true→(∃i t,k=Sum.inl i∧v=Value.int i t)∨(∃x t,k=Sum.inr x∧v=Value.str x t)
 | .inl i,v,h=>by
  obtain⟨t,e⟩:=Value.isInt_shape (k:=i) (v:=v) h
  exact .inl ⟨i,t,rfl,e⟩
 | .inr x,v,h=>by
  obtain⟨t,e⟩:=Value.isStrOf_shape (x:=x) (v:=v) h
  exact .inr ⟨x,t,rfl,e⟩
theorem G6(i:Int)(t:Tok):nk (.inl i) (.int i t)=true:=by simp[nk,Value.isInt]
theorem G7(x:Str)(t:Tok):nk (.inr x) (.str x t)=true:=by simp[nk,Value.isStrOf]
theorem G8(a b:Int):decide ((Sum.inl a:Key)=Sum.inl b)=(a==b):=by
 by_cases e:a=b
 ·subst e;simp
 ·have h: ¬(Sum.inl a:Key)=Sum.inl b:=fun q=>e (Sum.inl.inj q)
  rw[decide_eq_false h]
  exact(beq_eq_false_iff_ne.mpr e).symm
theorem G9(a b:Str):decide ((Sum.inr a:Key)=Sum.inr b)=decide (a=b):=by
 by_cases e:a=b
 ·subst e;simp
 ·have h: ¬(Sum.inr a:Key)=Sum.inr b:=fun q=>e (Sum.inr.inj q)
  rw[decide_eq_false h,decide_eq_false e]
theorem G_(a:Int)(b:Str):decide ((Sum.inl a:Key)=Sum.inr b)=false:=decide_eq_false (fun q=>nomatch q)
theorem Ha(a:Str)(b:Int):decide ((Sum.inr a:Key)=Sum.inl b)=false:=decide_eq_false (fun q=>nomatch q)
def cY(prog:Program)(w:World):PySem.KeyKind prog w Key where
 is:=nk
 hash:=G5 w
 inj:=fun v a b ha hb=>by
  rcases i4 ha with⟨i,t,rfl,rfl⟩ | ⟨x,t,rfl,rfl⟩
  ·rcases i4 hb with⟨j,u,rfl,e⟩ | ⟨y,u,rfl,e⟩
   ·injection e with e1 _;rw[e1]
   ·exact nomatch e
  ·rcases i4 hb with⟨j,u,rfl,e⟩ | ⟨y,u,rfl,e⟩
   ·exact nomatch e
   ·injection e with e1 _;rw[e1]
 byValue:=fun k v h=>by
  rcases i4 h with⟨i,t,rfl,rfl⟩ | ⟨x,t,rfl,rfl⟩ <;>rfl
 pyHash:=fun hv h=>by
  rcases i4 hv with⟨i,t,rfl,rfl⟩ | ⟨x,t,rfl,rfl⟩
  ·exact wpAny_pyHash_int h
  ·exact wpAny_pyHash_str h
 eqBool:=fun hu hv h=>by
  rcases i4 hu with⟨i,t,rfl,rfl⟩ | ⟨x,t,rfl,rfl⟩
  ·rcases i4 hv with⟨j,u,rfl,rfl⟩ | ⟨y,u,rfl,rfl⟩
   ·rw[G8] at h;exact wpAny_eqBool_int h
   ·rw[G_] at h;exact SeqAt.EqAt.int_str i t y u _ _ _ _ h
  ·rcases i4 hv with⟨j,u,rfl,rfl⟩ | ⟨y,u,rfl,rfl⟩
   ·rw[Ha] at h;exact SeqAt.EqAt.str_int x t j u _ _ _ _ h
   ·rw[G9] at h;exact wpAny_eqBool_str h
 «strs»:=fun k x t v h=>by
  rcases i4 h with⟨i,u,rfl,e⟩ | ⟨y,u,rfl,e⟩
  ·exact nomatch e
  ·injection e with e1 _
   subst e1
   cases v<;>rfl
theorem Ar(prog:Program)(w:World)(i:Int)(t:Tok):(cY prog w).is (.inl i) (.int i t)=true:=G6 i t
theorem As(prog:Program)(w:World)(x:Str)(t:Tok):(cY prog w).is (.inr x) (.str x t)=true:=G7 x t
inductive V where
 | aB | bl (b:Bool) | int (i:Int) | str (x:Str) | d_ (b:Array UInt8) | kP (b:UInt64) | ref (a:Addr) | ty (n:String)
 deriving DecidableEq
def RelV:V→Value→Prop
 | .aB,u=>u=Value.none
 | .bl b,u=>u=Value.bool b
 | .int i,u=> ∃t,u=Value.int i t
 | .str x,u=> ∃t,u=Value.str x t
 | .d_ b,u=> ∃t,u=Value.bytes b t
 | .kP b,u=> ∃t,u=Value.float b t
 | .ref a,u=>u=Value.ref a
 | .ty n,u=>u=Value.type n
abbrev Vals:List V→List Value→Prop:=Paired RelV
theorem Vals.length{xs:List V}{us:List Value}(r:Vals xs us):xs.length=us.length:=Paired.length r
theorem Vals.get: ∀{xs:List V} {us:List Value} {i:Nat} {x:V},Vals xs us→xs[i]?=some x→ ∃u,us[i]?=some u∧RelV x u
 | _,_,_,_, .nil,e=>by simp at e
 | _,_,0,_, .cons r _,e=>by simp at e;subst e;exact⟨_,rfl,r⟩
 | _,_,i+1,x, .cons _ t,e=>by
  obtain⟨u,h1,h2⟩:=Vals.get (i:=i) (x:=x) t (by simpa using e)
  exact⟨u,by simpa using h1,h2⟩
theorem Vals.set{x:V}{u:Value}(r:RelV x u): ∀{xs:List V} {us:List Value} (i:Nat),Vals xs us→Vals (xs.set i x) (us.set i u)
 | _,_,_, .nil=> .nil
 | _,_,0, .cons _ t=> .cons r t
 | _,_,i+1, .cons q t=> .cons q (Vals.set r i t)
theorem Vals.append: ∀{xs ys:List V} {us ws:List Value},Vals xs us→Vals ys ws→Vals (xs++ys) (us++ws)
 | _,_,_,_, .nil,s=>s
 | _,_,_,_, .cons r t,s=> .cons r (Vals.append t s)
theorem Vals.take: ∀{xs:List V} {us:List Value} (n:Nat),Vals xs us→Vals (xs.take n) (us.take n)
 | _,_,0,_=> .nil
 | _,_,_+1, .nil=> .nil
 | _,_,n+1, .cons r t=> .cons r (Vals.take n t)
theorem Vals.drop: ∀{xs:List V} {us:List Value} (n:Nat),Vals xs us→Vals (xs.drop n) (us.drop n)
 | _,_,0,r=>r
 | _,_,_+1, .nil=> .nil
 | _,_,n+1, .cons _ t=>Vals.drop n t
def i5:Option V→Option Value→Prop
 | some v,some u=>RelV v u
 | none,none=>True
 | _,_=>False
def KV{κ:Type}:List (κ×V)→List (κ×Value)→Prop:=Paired fun(p:κ×V) (q:κ×Value)=>p.1=q.1∧RelV p.2 q.2
def kV:Key→V
 | .inl i=> .int i
 | .inr x=> .str x
inductive HO where
 | lst (xs:List V)
 | tup (xs:List V)
 | dK (ar:List (Key×V)) | dT (ar:List (List Key×V))
 | set (S:Int→Bool) (n:Nat)
 | ins (C dx:Addr) (fs:List (Str×V))
 | own (x:Addr)
 | xd (fs:List (Str×V))
 | met (f x:Addr)
 | fH (lo hi:Int)
 | bA (o:Obj) (u:HO)
 | ir (ps:Array Value)
 | ext (φ:Heap→Prop)
abbrev Hp:=Addr→Option HO
def upd(H:Hp)(a:Addr)(o:HO):Hp:=fun b=>if b=a then some o else H b
theorem az{H:Hp}{a:Addr}{o:HO}:upd H a o a=some o:=by unfold upd;rw[if_pos rfl]
theorem bc{H:Hp}{a b:Addr}{o:HO}(h:b≠a):upd H a o b=H b:=by unfold upd;rw[if_neg h]
theorem Hb{H:Hp}{a b:Addr}{o u:HO}(h:H a=some o)(h':H b=some u)(d:o≠u):a≠b:=by
 intro e;subst e;rw[h] at h';exact d (Option.some.inj h')
theorem cO{H:Hp}{a b:Addr}{o:HO}(h:H a=some o)(h':H b=none):a≠b:=by
 intro e;subst e;rw[h] at h';cases h'
section
variable (P:Program) (w:World)
def bS(H:Hp)(h:Heap)(a:Addr):HO→Prop
 | .lst xs=>xs.length≤sizeLine∧ ∃(its:List Value) (n:Nat),Vals xs its∧h.get? a=some {cls:= .type "list",data:= .seq its.toArray n}
 | .tup xs=>xs.length≤sizeLine∧ ∃its:List Value,Vals xs its∧IsTup h a its.toArray
 | .dK ar=>ar.length≤sizeLine∧(a==sysModules)=false∧ ∃vs,KV ar vs∧h.DictOf (cY P w) a vs
 | .dT ar=>ar.length≤sizeLine∧(a==sysModules)=false∧ ∃xs:List (List Key×Addr×Value),
   Paired (fun(p:List Key×V) (q:List Key×Addr×Value)=>p.1=q.1∧H q.2.1=some (.tup (p.1.map kV))∧RelV p.2 q.2.2) ar xs∧
   ∃o es ep,h.get? a=some o∧o.ExactDict∧o.data= .dict es ep∧es.toList=xs.map (entryOfKey (tupleKind (cY P w)))∧(xs.map (·.1)).Nodup
 | .set S n=>h.SetOf (intKind P w) a S n
 | .ins C dx fs=>H dx=some (.own a)∧fs.length≤1000∧dx≠a∧h.get? a=some (instObj C dx)∧
   ∃mA,h.Ns1 dx mA∧(∀f,i5 (fs.lookup f) (mA f))∧PySem.Within mA (fs.map (·.1))
 | .own _=> ∃o,h.get? a=some o
 | .xd fs=> ∃mA,h.Ns1 a mA∧ ∀f,i5 (fs.lookup f) (mA f)
 | .fH lo hi=> ∃t u v,h.get? a=some {cls:= .type "range",data:= .fields #[.int lo t, .int hi u, .int 1 v]}
 | .bA o u=>h.get? a=some o∧bS H h a u
 | .ir ps=>h.get? a=some {cls:= .none,data:= .fields ps}
 | .met f x=>h.get? a=some (methodObj (.ref f) (.ref x))
 | .ext φ=>φ h∧(∃o,h.get? a=some o)∧ ∀h1 h2:Heap,φ h1→(∀o,h1.get? a=some o→h2.get? a=some o)→φ h2
def bH(H:Hp)(h:Heap):Prop:= ∀a o,H a=some o→bS P w H h a o
end
section
variable {P:Program} {w:World} {H H':Hp} {h h':Heap} {a:Addr} {o:HO}
theorem bS.lt(x:bS P w H h a o):a<h.objs.size:=by
 cases o with
 | lst xs=>obtain⟨_,_,_,_,e⟩:=x;exact Heap.lt_size e
 | tup xs=>obtain⟨_,_,_,p⟩:=x;exact p.lt
 | dK ar=>obtain⟨_,_,_,_,o,_,_,e,_⟩:=x;exact Heap.lt_size e
 | dT ar=>obtain⟨_,_,_,_,o,_,_,e,_⟩:=x;exact Heap.lt_size e
 | set S n=>obtain⟨o,_,_,_,e,_⟩:=x;exact Heap.lt_size e
 | ins C dx fs=>obtain⟨_,_,_,e,_⟩:=x;exact Heap.lt_size e
 | own y=>obtain⟨_,e⟩:=x;exact Heap.lt_size e
 | xd fs=>obtain⟨_,⟨_,_,_,e,_⟩,_⟩:=x;exact Heap.lt_size e
 | fH lo hi=>obtain⟨_,_,_,e⟩:=x;exact Heap.lt_size e
 | bA ob u=>obtain⟨e,_⟩:=x;exact Heap.lt_size e
 | ir ps=>exact Heap.lt_size (show h.get? a=some _ from x)
 | met f y=>exact Heap.lt_size (show h.get? a=some _ from x)
 | ext φ=>obtain⟨_,⟨_,e⟩,_⟩:=x;exact Heap.lt_size e
theorem Paired.vJ{α β:Type}{F G:α→β→Prop}: ∀{l₁:List α} {l₂:List β},Paired F l₁ l₂→(∀a b,F a b→G a b)→Paired G l₁ l₂
 | _,_, .nil,_=> .nil
 | _,_, .cons r t,f=> .cons (f _ _ r) (Paired.vJ t f)
theorem bS.iu(x:bS P w H h a o)(k: ∀b u,(b=a∨H b=some (.own a))→h.get? b=some u→h'.get? b=some u)
  (ho: ∀b,H b=some (.own a)→H' b=some (.own a)) (ht: ∀b xs,H b=some (.tup xs)→H' b=some (.tup xs)):bS P w H' h' a o:=by
 induction o with
 | lst xs=>obtain⟨z,its,n,r,e⟩:=x;exact⟨z,its,n,r,k _ _ (.inl rfl) e⟩
 | tup xs=>obtain⟨z,its,r,ob,e,c⟩:=x;exact⟨z,its,r,ob,k _ _ (.inl rfl) e,c⟩
 | dK ar=>obtain⟨z,y,vs,r,ob,es,ep,e,c⟩:=x;exact⟨z,y,vs,r,ob,es,ep,k _ _ (.inl rfl) e,c⟩
 | dT ar=>
  obtain⟨z,y,xs,r,ob,es,ep,e,c⟩:=x
  exact⟨z,y,xs,Paired.vJ r fun p q z=> ⟨z.1,ht _ _ z.2.1,z.2.2⟩,ob,es,ep,k _ _ (.inl rfl) e,c⟩
 | set S n=>obtain⟨ob,es,ep,t,e,c⟩:=x;exact⟨ob,es,ep,t,k _ _ (.inl rfl) e,c⟩
 | ins C dx fs=>
  obtain⟨d,z,ne,e,mA,⟨od,es,ep,e2,c⟩,r⟩:=x
  exact⟨ho _ d,z,ne,k _ _ (.inl rfl) e,mA,⟨od,es,ep,k _ _ (.inr d) e2,c⟩,r⟩
 | own y=>obtain⟨ob,e⟩:=x;exact⟨ob,k _ _ (.inl rfl) e⟩
 | xd fs=>obtain⟨mA,⟨od,es,ep,e,c⟩,r⟩:=x;exact⟨mA,⟨od,es,ep,k _ _ (.inl rfl) e,c⟩,r⟩
 | fH lo hi=>obtain⟨t,u,v,e⟩:=x;exact⟨t,u,v,k _ _ (.inl rfl) e⟩
 | bA ob u ih=>obtain⟨e,q⟩:=x;exact⟨k _ _ (.inl rfl) e,ih q⟩
 | ir ps=>
  have e:h.get? a=some {cls:= .none,data:= .fields ps}:=x
  show h'.get? a=some {cls:= .none,data:= .fields ps}
  exact k a _ (.inl rfl) e
 | met f y=>
  have e:h.get? a=some (methodObj (.ref f) (.ref y)):=x
  show h'.get? a=some (methodObj (.ref f) (.ref y))
  exact k a _ (.inl rfl) e
 | ext φ=>obtain⟨p,⟨o,e⟩,st⟩:=x;exact⟨st _ _ p fun o q=>k _ _ (.inl rfl) q,⟨o,k _ _ (.inl rfl) e⟩,st⟩
theorem bH.lt(x:bH P w H h)(e:H a=some o):a<h.objs.size:=(x a o e).lt
theorem bH.fresh(x:bH P w H h)(e:h.objs.size≤a):H a=none:=by
 cases q:H a with
 | none=>rfl
 | some u=>exact absurd (Nat.lt_of_lt_of_le (x.lt q) e) (Nat.lt_irrefl _)
theorem bH.kept(x:bH P w H h)(k: ∀b u,h.get? b=some u→h'.get? b=some u):bH P w H h':=fun a o e=>
 (x a o e).iu (fun b u _ q=>k b u q) (fun _ q=>q) fun _ _ q=>q
theorem bH.laid(x:bH P w H h)(k: ∀b u,h.get? b=some u→h'.get? b=some u)(hp:h.objs.size≤a)(new:bS P w (upd H a o) h' a o):bH P w (upd H a o) h':=fun b u e=>by
 have hn:=x.fresh hp
 by_cases hb:b=a
 ·subst hb;rw[az] at e;cases e;exact new
 ·rw[bc hb] at e
  exact(x b u e).iu (fun c v _ q=>k c v q) (fun c q=>by rw[bc (cO q hn)];exact q) fun c xs q=>by rw[bc (cO q hn)];exact q
end
def Rd(H:Hp)(a:Addr)(u:HO):Prop:=H a=some u∨ ∃o,H a=some (.bA o u)
theorem Rd.ok{P:Program}{w:World}{H:Hp}{h:Heap}{a:Addr}{u:HO}(r:Rd H a u)(x:bH P w H h):bS P w H h a u:=by
 rcases r with r | ⟨o,r⟩
 ·exact x a u r
 ·obtain⟨_,q⟩:=x a _ r
  exact q
def pq:Option HO→Prop
 | some (.lst _)=>True
 | some (.dK _)=>True
 | some (.dT _)=>True
 | some (.set _ _)=>True
 | some (.ins _ _ _)=>True
 | some (.ext _)=>True
 | _=>False
section
variable {P:Program} {w:World} {H:Hp} {h h':Heap} {x e:Addr} {o':HO}
theorem bH.write(ok:bH P w H h)(mu:pq (H x))(he:e=x∨H e=some (.own x))(k: ∀b u,b≠e→h.get? b=some u→h'.get? b=some u)(nq: ∃u,h'.get? e=some u)
  (new:bS P w (upd H x o') h' x o'):bH P w (upd H x o') h':=fun b u q=>by
 have Au: ∀c y,H c=some (.own y)→c≠x:=fun c y r z=>by subst z;rw[r] at mu;exact mu
 have Hc: ∀c xs,H c=some (.tup xs)→c≠x:=fun c xs r z=>by subst z;rw[r] at mu;exact mu
 by_cases hb:b=x
 ·subst hb;rw[az] at q;cases q;exact new
 ·rw[bc hb] at q
  by_cases kQ:b=e
  ·have q':H b=some (.own x):=by
    rcases he with z | z
    ·exact absurd (kQ.trans z) hb
    ·rw[kQ];exact z
   rw[q] at q';cases q'
   obtain⟨v,hv⟩:=nq
   exact⟨v,by rw[kQ];exact hv⟩
  ·refine(ok b u q).iu (fun c v hc r=>k c v ?_ r) (fun c r=>by rw[bc (Au c b r)];exact r) fun c xs r=>by rw[bc (Hc c xs r)];exact r
   rcases hc with rfl | hc
   ·exact kQ
   ·rintro rfl
    rcases he with z | z
    ·exact Au c b hc z
    ·rw[hc] at z;cases z;exact hb rfl
end
structure Un (fs ex:List Addr) (H H':Hp) (h h':Heap):Prop where
 keep: ∀b o,h.get? b=some o→H b=none→b∉fs→b∉ex→h'.get? b=some o
 slot: ∀b o,h.get? b=some o→H b=none→b∈fs→b∉ex→ ∃sl,h'.get? b=some {o with slots:=sl}
 free: ∀b o,h.get? b=some o→H b=none→b∉ex→H' b=none
 there: ∀b o,h.get? b=some o→b∉ex→ ∃o',h'.get? b=some o'
 ef: ∀b xs,H b=some (.tup xs)→H' b=some (.tup xs)
 dM: ∀b o u,H b=some (.bA o u)→H' b=some (.bA o u)
 eg: ∀b ps,H b=some (.ir ps)→ ∃more,H' b=some (.ir (ps++more))
section
variable {fs He ex ex':List Addr} {H H1 H2:Hp} {h h1 h2 h':Heap} {a x e:Addr} {o:HO}
theorem Un.any(u:Un fs ex H H1 h h1){b:Addr}{ob:Obj}(q:h.get? b=some ob)(n:H b=none)(hx:b∉ex): ∃sl,h1.get? b=some {ob with slots:=sl}:=by
 by_cases hb:b∈fs
 ·exact u.slot b ob q n hb hx
 ·exact⟨ob.slots,u.keep b ob q n hb hx⟩
theorem Un.kept(k: ∀b u,h.get? b=some u→h'.get? b=some u):Un fs ex H H h h':=
 ⟨fun b ob q _ _ _=>k b ob q,fun b ob q _ _ _=> ⟨ob.slots,k b ob q⟩,fun _ _ _ n _=>n,fun b ob q _=> ⟨ob,k b ob q⟩,fun _ _ q=>q,fun _ _ _ q=>q,fun _ ps q=> ⟨#[],by rw[q];simp⟩⟩
theorem Un.refl:Un fs ex H H h h:=Un.kept fun _ _ q=>q
theorem Un.laid(k: ∀b u,h.get? b=some u→h'.get? b=some u)(hp:h.objs.size≤a)(hn:H a=none):Un fs ex H (upd H a o) h h' where
 keep:=fun b u q _ _ _=>k b u q
 slot:=fun b u q _ _ _=> ⟨u.slots,k b u q⟩
 free:=fun b u q n _=>by rw[bc (Nat.ne_of_lt (Nat.lt_of_lt_of_le (Heap.lt_size q) hp))];exact n
 there:=fun b u q _=> ⟨u,k b u q⟩
 ef:=fun b xs q=>by rw[bc (cO q hn)];exact q
 dM:=fun b u xs q=>by rw[bc (cO q hn)];exact q
 eg:=fun b ps q=> ⟨#[],by rw[bc (cO q hn),q];simp⟩
theorem Un.write(mu:pq (H x))(he:e=x∨H e=some (.own x))(k: ∀b u,b≠e→h.get? b=some u→h'.get? b=some u)(nq: ∃u,h'.get? e=some u):Un fs ex H (upd H x o) h h':=by
 have hx: ∀b,H b=none→b≠x:=fun b n z=>by subst z;rw[n] at mu;exact mu
 have hb: ∀b,H b=none→b≠e:=fun b n z=>by
  subst z
  rcases he with r | r
  ·exact hx b n r
  ·rw[n] at r;cases r
 have hm: ∀b u,H b=some u→ ¬pq (some u)→b≠x:=fun b u q nm z=>by subst z;rw[q] at mu;exact nm mu
 refine⟨fun b u q n _ _=>k b u (hb b n) q,fun b u q n _ _=> ⟨u.slots,k b u (hb b n) q⟩,fun b u q n _=>by rw[bc (hx b n)];exact n,fun b u q _=> ?_,
  fun b xs q=>by rw[bc (hm b _ q fun z=>z)];exact q,fun b u xs q=>by rw[bc (hm b _ q fun z=>z)];exact q,fun b ps q=> ⟨#[],by rw[bc (hm b _ q fun z=>z),q];simp⟩⟩
 by_cases kQ:b=e
 ·subst kQ;exact nq
 ·exact⟨u,k b u kQ q⟩
end
def iw(h:Heap)(H:Hp):List Addr:=(List.range h.objs.size).filter fun a=> (H a).isSome
def i6(h:Heap)(H:Hp):Heap:=hideAll h (iw h H)
theorem Hf(h:Heap)(H:Hp):(i6 h H).objs.size=h.objs.size:=PySem.W.hideAll_size _ _
theorem Hg{h:Heap}{H:Hp}{b:Addr}{o:Obj}(e:h.get? b=some o)(n:H b=none):(i6 h H).get? b=some o:=
 hideAll_get _ e fun hm=>by
  have q:(H b).isSome=true:=(List.mem_filter.mp hm).2
  rw[n] at q;simp at q
theorem Hh{h:Heap}{H:Hp}{b:Addr}{o:Obj}(e:(i6 h H).get? b=some o):h.get? b=some o∧H b=none:=by
 have e':h.get? b=some o:=of_hideAll (iw h H) e
 refine⟨e', ?_⟩
 cases q:H b with
 | none=>rfl
 | some x=>
  have hm:b∈iw h H:=List.mem_filter.mpr ⟨List.mem_range.mpr (Heap.lt_size e'),by simp[q]⟩
  have z:(i6 h H).get? b=none:=PySem.W.hideAll_none (iw h H) hm
  rw[z] at e;cases e
structure Mod (K:Frag) (mg:Str→Option Value) (base:Heap):Prop where
 jJ:K.In base
 glob:base.Ns mainGlobals mg
 blt: ∃mb,base.Ns builtinsNs mb∧ ∀x:Str,x≠"__name__"→mb x=bootBuiltins x
 nolimit:base.NoLimit
structure Cx where
 prog:Program
 w:World
 K:Frag
 mg:Str→Option Value
 base:Heap
 A:Around
 N:List Str
 s₀:Shared
 H₀:Hp
 env:Env
 outer:List Env
 stack:List Env
 ex:List Addr
 fn:Str→Bool
 calm:Bool
 pn:List (Addr×Obj)
 xe:Value→Shared→Prop
def bp(l:List Env):List Addr:=l.filterMap (·.frame)
abbrev Cx.fs(X:Cx):List Addr:=bp X.outer
def si(sc:Scope)(x:Str):Prop:=sc.names.lookup x=some .local∨sc.names.lookup x=some .cell∨sc.names.lookup x=some .free
def Loc(sc:Scope)(x:Str):Prop:=sc.names.lookup x=some .local∨sc.names.lookup x=some .cell
def Look(env:Env)(h:Heap)(m:Str→Option Value)(x:Str)(u:Value):Prop:=
 (env.kindOf x=some .local∧m x=some u)∨((env.kindOf x=some .cell∨env.kindOf x=some .free)∧ ∃c,env.cells.lookup x=some c∧h.IsCell c (some u))
structure Cx.Ok (X:Cx):Prop where
 mod:Mod X.K X.mg X.base
 kind:X.env.scope.kind= .function
 glob:X.env.globals=mainGlobals
 blt:X.env.builtins=builtinsNs
 above:X.s₀.heap.objs.size≤X.env.locals
 inj: ∀x y c,X.env.cells.lookup x=some c→X.env.cells.lookup y=some c→x=y
 has: ∀x,(X.env.kindOf x=some .cell∨X.env.kindOf x=some .free)→ ∃c,X.env.cells.lookup x=some c
 sj: ∀x c,X.fn x=true→X.env.cells.lookup x=some c→X.s₀.heap.objs.size≤c
 hd:X.calm=true→X.A.handled=none
 frames:X.A.frames=some X.stack
 gc:X.stack=X.outer∨(X.stack=X.env::X.outer∧X.env.frame=some X.env.locals)
 Hi: ∀b∈X.ex,b≠X.env.locals∧ ∀x c,X.env.cells.lookup x=some c→c≠b
 bs: ∀b o,X.base.get? b=some o→X.s₀.heap.get? b=some o∧X.H₀ b=none
 kR:X.base.objs.size≤X.s₀.heap.objs.size
 sk: ∀b o,X.base.get? b=some o→b∉X.ex
 so: ∀b∈X.ex,b∉X.fs
 gN:X.s₀.heap.FunFrames X.base X.outer
 nr: ∀b∈X.fs,X.H₀ b=none
structure Inv (X:Cx) (pins:List (Addr×Obj)) (σ:List (Option V)) (H:Hp) (s:Shared):Prop where
 ok:X.Ok
 os:s.os=X.s₀.os
 bare:AllBare s.gens
 base:Un X.fs X.ex X.H₀ H X.s₀.heap s.heap
 loc: ∃m,s.heap.Ns X.env.locals m∧ ∀(i:Nat) (x:Str) (v:V),X.N[i]?=some x→σ[i]?=some (some v)→si X.env.scope x→ ∃u,RelV v u∧Look X.env s.heap m x u
 cell: ∀x c,X.env.cells.lookup x=some c→ ∃v,s.heap.IsCell c v
 free:H X.env.locals=none
 eK: ∀x c,X.env.cells.lookup x=some c→H c=none
 pin: ∀p∈X.pn++pins,s.heap.get? p.1=some p.2∧H p.1=none∧p.1≠X.env.locals∧p.1∉X.fs∧ ∀v,p.2.data≠ .cell v
 aE:bH X.prog X.w H s.heap
 len:σ.length=X.N.length
section
variable {X:Cx} {pins:List (Addr×Obj)} {σ:List (Option V)} {H H':Hp} {s:Shared} {h':Heap}
theorem Cx.Ok.Hj(ok:X.Ok){b:Addr}{o:Obj}(e:X.base.get? b=some o):b∉X.fs:=fun hb=>by
 have:=(ok.gN.mem hb).1
 rw[e] at this;cases this
theorem Inv.bs(I:Inv X pins σ H s): ∀b o,X.base.get? b=some o→s.heap.get? b=some o∧H b=none:=fun b o e=>
 ⟨I.base.keep b o (I.ok.bs b o e).1 (I.ok.bs b o e).2 (I.ok.Hj e) (I.ok.sk b o e),I.base.free b o (I.ok.bs b o e).1 (I.ok.bs b o e).2 (I.ok.sk b o e)⟩
theorem Inv.bk(I:Inv X pins σ H s): ∀b o,X.base.get? b=some o→s.heap.get? b=some o:=fun b o e=> (I.bs b o e).1
theorem Inv.mod(I:Inv X pins σ H s):Mod X.K X.mg X.base:=I.ok.mod
theorem Inv.cP(I:Inv X pins σ H s):X.K.In s.heap:=I.ok.mod.jJ.keeps I.bk
theorem Inv.lt(I:Inv X pins σ H s):X.env.locals<s.heap.objs.size:=let ⟨_,hn,_⟩:=I.loc;hn.lt
theorem Inv.sz(I:Inv X pins σ H s):X.s₀.heap.objs.size≤s.heap.objs.size:=Nat.le_trans I.ok.above (Nat.le_of_lt I.lt)
theorem Inv.Av(I:Inv X pins σ H s){a:Addr}(h:s.heap.objs.size≤a):a∉X.fs:=fun hb=>by
 obtain⟨_,o,ho,_⟩:=I.ok.gN.mem hb
 exact absurd (Nat.lt_of_lt_of_le (Heap.lt_size ho) (Nat.le_trans I.sz h)) (Nat.lt_irrefl _)
theorem Inv.kT(I:Inv X pins σ H s): ∀x c,X.env.cells.lookup x=some c→c≠X.env.locals:=fun x c e z=>by
 obtain⟨v,o,ho,hd⟩:=I.cell x c e
 obtain⟨m,⟨o',es,ep,dh,kU,_⟩,_⟩:=I.loc
 rw[z,dh] at ho;cases ho;rw[kU] at hd;cases hd
theorem Inv.gN(I:Inv X pins σ H s):s.heap.FunFrames X.base X.outer:=by
 have all: ∀(l:List Env),(∀b∈bp l,b∈X.fs)→X.s₀.heap.FunFrames X.base l→s.heap.FunFrames X.base l:=by
  intro l
  induction l with
  | nil=>intro _ _;trivial
  | cons env r ih=>
   intro hs hl
   obtain⟨hk,⟨L,o,hf,hn,ho,hd⟩,hr⟩:=hl
   have hL:L∈X.fs:=hs L (by unfold bp;rw[List.filterMap_cons,hf];exact List.mem_cons_self)
   obtain⟨sl,e⟩:=I.base.slot L o ho (I.ok.nr L hL) hL fun z=>I.ok.so L z hL
   exact⟨hk,⟨L,_,hf,hn,e,hd⟩,ih (fun b hb=>hs b (by unfold bp;rw[List.filterMap_cons,hf];exact List.mem_cons_of_mem _ hb)) hr⟩
 exact all X.outer (fun _ hb=>hb) I.ok.gN
theorem Inv.stack(I:Inv X pins σ H s):s.heap.FunFrames X.base X.stack:=by
 rcases I.ok.gc with e | ⟨e,hf⟩
 ·rw[e];exact I.gN
 ·rw[e]
  obtain⟨m,hn,_⟩:=I.loc
  refine .cons (by rw[I.ok.kind];decide) hf hn ?_ I.gN
  exact Heap.get?_none_of_le (Nat.le_trans I.ok.kR I.ok.above)
theorem Inv.sq(I:Inv X pins σ H s): ∀b∈bp X.stack,b∈X.env.locals::X.fs:=fun b hb=>by
 rcases I.ok.gc with e | ⟨e,hf⟩
 ·rw[e] at hb;exact List.mem_cons_of_mem _ hb
 ·rw[e] at hb
  unfold bp at hb
  rw[List.filterMap_cons,hf] at hb
  exact hb
theorem Inv.sr(I:Inv X pins σ H s): ∀b∈bp X.stack,H b=none:=fun b hb=>by
 rcases List.mem_cons.mp (I.sq b hb) with e | hb
 ·rw[e];exact I.free
 ·obtain⟨_,o,ho,_⟩:=I.ok.gN.mem hb
  exact I.base.free b o ho (I.ok.nr b hb) fun z=>I.ok.so b z hb
theorem Inv.step{g':Array GenState}{t':Nat}{d':Drawn}{ch:List Addr}(I:Inv X pins σ H s)
  (gd: ∀b∈ch,(b∈X.ex∨X.s₀.heap.objs.size≤b)∧b≠X.env.locals∧(∀x c,X.env.cells.lookup x=some c→c≠b)∧ ∀p∈X.pn++pins,p.1≠b)
  (keep: ∀b o,b≠X.env.locals→b∉X.fs→b∉ch→s.heap.get? b=some o→H b=none→h'.get? b=some o)
  (slot: ∀b o,b≠X.env.locals→b∈X.fs→b∉ch→s.heap.get? b=some o→H b=none→ ∃sl,h'.get? b=some {o with slots:=sl}) (free: ∀b o,b∉ch→s.heap.get? b=some o→H b=none→H' b=none)
  (there: ∀b o,b∉ch→s.heap.get? b=some o→ ∃o',h'.get? b=some o')
  (ef: ∀b xs,H b=some (.tup xs)→H' b=some (.tup xs)) (dM: ∀b o u,H b=some (.bA o u)→H' b=some (.bA o u)) (eg: ∀b ps,H b=some (.ir ps)→ ∃more,H' b=some (.ir (ps++more)))
  (ns: ∀m,s.heap.Ns X.env.locals m→h'.Ns X.env.locals m) (aE:bH X.prog X.w H' h') (hg:AllBare g'):
  Inv X pins σ H' {s with heap:=h',gens:=g',drawn:=d',toks:=t'}:=by
 have Aw: ∀b o,X.s₀.heap.get? b=some o→b≠X.env.locals:=fun b o e=>Nat.ne_of_lt (Nat.lt_of_lt_of_le (Heap.lt_size e) I.ok.above)
 have sv: ∀b o,X.s₀.heap.get? b=some o→b∉X.ex→b∉ch:=fun b o e hx hb=>by
  rcases (gd b hb).1 with z | z
  ·exact hx z
  ·exact absurd (Nat.lt_of_lt_of_le (Heap.lt_size e) z) (Nat.lt_irrefl _)
 have cellK: ∀x c,X.env.cells.lookup x=some c→ ∀v,s.heap.IsCell c v→h'.IsCell c v:=fun x c e v ⟨o,ho,hd⟩=>by
  have pv:c∉ch:=fun z=> (gd c z).2.2.1 x c e rfl
  by_cases hc:c∈X.fs
  ·obtain⟨sl,q⟩:=slot c o (I.kT x c e) hc pv ho (I.eK x c e)
   exact⟨_,q,hd⟩
  ·exact⟨o,keep c o (I.kT x c e) hc pv ho (I.eK x c e),hd⟩
 refine⟨I.ok,I.os,hg,⟨fun b o e n hb hx=> ?_,fun b o e n hb hx=> ?_,fun b o e n hx=> ?_,fun b o e hx=> ?_,fun b xs e=>ef b xs (I.base.ef b xs e),fun b o xs e=>dM b o xs (I.base.dM b o xs e),fun b ps e=> ?_⟩, ?_,fun x c e=> ?_, ?_,fun x c e=> ?_,fun p hp=> ?_,aE,I.len⟩
 ·exact keep b o (Aw b o e) hb (sv b o e hx) (I.base.keep b o e n hb hx) (I.base.free b o e n hx)
 ·obtain⟨sl,e1⟩:=I.base.slot b o e n hb hx
  obtain⟨vK,e2⟩:=slot b _ (Aw b o e) hb (sv b o e hx) e1 (I.base.free b o e n hx)
  exact⟨vK,e2⟩
 ·obtain⟨o',e1⟩:=I.base.there b o e hx
  exact free b o' (sv b o e hx) e1 (I.base.free b o e n hx)
 ·obtain⟨o',e1⟩:=I.base.there b o e hx
  exact there b o' (sv b o e hx) e1
 ·obtain⟨m1,e1⟩:=I.base.eg b ps e
  obtain⟨m2,e2⟩:=eg b _ e1
  exact⟨m1++m2,by rw[e2,Array.append_assoc]⟩
 ·obtain⟨m,hn,hl⟩:=I.loc
  refine⟨m,ns m hn,fun i x v e1 e2 e3=> ?_⟩
  obtain⟨u,r,l⟩:=hl i x v e1 e2 e3
  refine⟨u,r, ?_⟩
  rcases l with l | ⟨k,c,e,z⟩
  ·exact .inl l
  ·exact .inr ⟨k,c,e,cellK x c e _ z⟩
 ·obtain⟨v,z⟩:=I.cell x c e
  exact⟨v,cellK x c e v z⟩
 ·obtain⟨m,⟨o,_,_,ho,_⟩,_⟩:=I.loc
  exact free _ o (fun z=> (gd _ z).2.1 rfl) ho I.free
 ·obtain⟨v,o,ho,hd⟩:=I.cell x c e
  exact free c o (fun z=> (gd c z).2.2.1 x c e rfl) ho (I.eK x c e)
 ·obtain⟨e,n,ne,nf,d⟩:=I.pin p hp
  have pv:p.1∉ch:=fun z=> (gd p.1 z).2.2.2 p hp rfl
  exact⟨keep p.1 p.2 ne nf pv e n,free p.1 p.2 pv e n,ne,nf,d⟩
theorem Inv.un{t':Nat}(I:Inv X pins σ H s)(u:Un X.fs [] H H' s.heap h')(aE:bH X.prog X.w H' h'):Inv X pins σ H' {s with heap:=h',toks:=t'}:=by
 obtain⟨m,⟨o,es,ep,ho,r⟩,_⟩:=id I.loc
 obtain⟨sl,hL⟩:=u.any ho I.free (by simp)
 exact I.step (g':=s.gens) (d':=s.drawn) (ch:=[]) (fun _ z=>nomatch z) (fun b o _ hb _ e n=>u.keep b o e n hb (by simp)) (fun b o _ hb _ e n=>u.slot b o e n hb (by simp)) (fun b o _ e n=>u.free b o e n (by simp)) (fun b o _ e=>u.there b o e (by simp)) u.ef u.dM u.eg (fun m' hm=>by
  obtain⟨o',vL,vM,dh,r'⟩:=hm
  rw[ho] at dh;cases dh
  exact⟨_,vL,vM,hL,r'⟩) aE I.bare
theorem Inv.call{g':Array GenState}{t':Nat}{d':Drawn}{ch:List Addr}(I:Inv X pins σ H s)(u:Un (bp X.stack) ch H H' s.heap h')(aE:bH X.prog X.w H' h')(hg:AllBare g')
  (gd: ∀b∈ch,(b∈X.ex∨X.s₀.heap.objs.size≤b)∧b≠X.env.locals∧(∀x c,X.env.cells.lookup x=some c→c≠b)∧ ∀p∈X.pn++pins,p.1≠b):
  Inv X pins σ H' {s with heap:=h',gens:=g',drawn:=d',toks:=t'}:=by
 obtain⟨m,⟨o,es,ep,ho,r⟩,_⟩:=id I.loc
 obtain⟨sl,hL⟩:=u.any ho I.free fun z=> (gd _ z).2.1 rfl
 exact I.step (ch:=ch) gd (fun b o hL hb hc e n=>u.keep b o e n (fun z=> (List.mem_cons.mp (I.sq b z)).elim hL hb) hc) (fun b o _ _ hc e n=>u.any e n hc) (fun b o hc e n=>u.free b o e n hc) (fun b o hc e=>u.there b o e hc) u.ef u.dM u.eg (fun m' hm=>by
  obtain⟨o',vL,vM,dh,r'⟩:=hm
  rw[ho] at dh;cases dh
  exact⟨_,vL,vM,hL,r'⟩) aE hg
theorem Inv.turned{t':Nat}{it:Addr}(I:Inv X pins σ H s)(k: ∀b o,b≠it→s.heap.get? b=some o→h'.get? b=some o)(hn:H it=none)(hL:it≠X.env.locals)
  (h1:it∈X.ex∨X.s₀.heap.objs.size≤it) (h2: ∀x c,X.env.cells.lookup x=some c→c≠it) (h3: ∀p∈X.pn++pins,p.1≠it):Inv X pins σ H {s with heap:=h',toks:=t'}:=by
 have Ax: ∀b u,H b=some u→b≠it:=fun b u e z=>by rw[z,hn] at e;cases e
 refine I.step (g':=s.gens) (d':=s.drawn) (ch:=[it]) (fun b hb=> ?_) (fun b o _ _ hc e _=>k b o (fun z=>hc (by simp[z])) e) (fun b o _ _ hc e _=> ⟨o.slots,k b o (fun z=>hc (by simp[z])) e⟩) (fun _ _ _ _ n=>n)
  (fun b o hc e=> ⟨o,k b o (fun z=>hc (by simp[z])) e⟩) (fun _ _ e=>e) (fun _ _ _ e=>e) (fun b ps e=> ⟨#[],by rw[e];simp⟩) (fun m hm=> ?_) (fun b u e=> ?_) I.bare
 ·have e:b=it:=by simpa using hb
  subst e
  exact⟨h1,hL,h2,h3⟩
 ·obtain⟨o,es,ep,ho,r⟩:=hm
  exact⟨o,es,ep,k _ o (Ne.symm hL) ho,r⟩
 ·refine(I.aE b u e).iu (fun c v hc q=>k c v ?_ q) (fun _ q=>q) fun _ _ q=>q
  rcases hc with z | z
  ·rw[z];exact Ax b u e
  ·exact Ax c _ z
theorem Inv.tok(I:Inv X pins σ H s)(t:Nat):Inv X pins σ H {s with toks:=t}:=I.un (h':=s.heap) (t':=t) Un.refl I.aE
theorem Inv.kept{t':Nat}(I:Inv X pins σ H s)(k: ∀b u,s.heap.get? b=some u→h'.get? b=some u):Inv X pins σ H {s with heap:=h',toks:=t'}:=I.un (Un.kept k) (I.aE.kept k)
theorem Inv.laid{a:Addr}{o:HO}{t':Nat}(I:Inv X pins σ H s)(k: ∀b u,s.heap.get? b=some u→h'.get? b=some u)(hp:s.heap.objs.size≤a)(new:bS X.prog X.w (upd H a o) h' a o):
  Inv X pins σ (upd H a o) {s with heap:=h',toks:=t'}:=I.un (Un.laid k hp (I.aE.fresh hp)) (I.aE.laid k hp new)
theorem Inv.write{x e:Addr}{o:HO}{t':Nat}(I:Inv X pins σ H s)(mu:pq (H x))(he:e=x∨H e=some (.own x))(k: ∀b u,b≠e→s.heap.get? b=some u→h'.get? b=some u)(nq: ∃u,h'.get? e=some u)
  (new:bS X.prog X.w (upd H x o) h' x o):Inv X pins σ (upd H x o) {s with heap:=h',toks:=t'}:=I.un (Un.write mu he k nq) (I.aE.write mu he k nq new)
theorem Inv.nt{fj:List (Addr×Obj)}(I:Inv X pins σ H s)(h: ∀p∈fj,s.heap.get? p.1=some p.2∧H p.1=none∧p.1≠X.env.locals∧p.1∉X.fs∧ ∀v,p.2.data≠ .cell v):Inv X fj σ H s:=
 ⟨I.ok,I.os,I.bare,I.base,I.loc,I.cell,I.free,I.eK,fun p hp=> (List.mem_append.mp hp).elim (fun z=>I.pin p (List.mem_append_left _ z)) (h p),I.aE,I.len⟩
theorem Ay{N:List Str}(hN:N.Nodup){i j:Nat}{x:Str}(a:N[i]?=some x)(b:N[j]?=some x):i=j:=by
 obtain⟨h1,e1⟩:=List.getElem?_eq_some_iff.mp a
 obtain⟨h2,e2⟩:=List.getElem?_eq_some_iff.mp b
 exact(List.getElem_inj hN).mp (e1.trans e2.symm)
theorem Az{M:Model}{A:Around}{E:Value→Shared→Prop}{i:Nat}{x:Str}{v:V}{u:Value}{Q:Unit→Shared→Prop}(I:Inv X pins σ H s)(hN:X.N.Nodup)(hi:X.N[i]?=some x)(hx:Loc X.env.scope x)(r:RelV v u)
  (h: ∀s',Inv X pins (σ.set i (some v)) H s'→(∃a,Heap.SameBut a s.heap s'.heap∧(a=X.env.locals∨X.env.cells.lookup x=some a))→Q () s') (hf:X.fn x=true∨X.env.scope.names.lookup x=some .local:=by first | exact .inl rfl | exact .inr rfl | assumption):wpAny M A (storeName X.env x u) Q E s:=by
 obtain⟨m,hn,hl⟩:=id I.loc
 have Hk:(X.env.scope.kind== .class || (X.env.scope.kind== .module && X.env.locals !=X.env.globals))=false:=by rw[I.ok.kind];rfl
 have AA:i<σ.length:=by rw[I.len];exact(List.getElem?_eq_some_iff.mp hi).1
 have kT:=I.kT
 have tracked: ∀{a:Addr} {h':Heap},(∃o,s.heap.get? a=some o∧H a=none)→Heap.SameBut a s.heap h'→bH X.prog X.w H h':=fun {a h'} ha hs b ob e=>by
  obtain⟨_,_,AB⟩:=ha
  refine(I.aE b ob e).iu (fun c w' hc q=> (hs.2 c ?_).trans q) (fun _ q=>q) fun _ _ q=>q
  rintro rfl
  rcases hc with rfl | hc
  ·rw[AB] at e;cases e
  ·rw[AB] at hc;cases hc
 rcases hx with hk | hk
 ·refine wpAny_storeName_local hk hn (fun h' vN hs=> ?_) Hk
  obtain⟨oL,_,_,Hl,_⟩:=id hn
  refine h _ ⟨I.ok,I.os,I.bare,⟨fun b o e n hb hx=> ?_,fun b o e n hb hx=> ?_,I.base.free,fun b o e hx=> ?_,I.base.ef,I.base.dM,I.base.eg⟩,⟨_,vN,fun j y v' e1 e2 e3=> ?_⟩,fun y c e=> ?_,I.free,I.eK,fun p hp=> ?_,tracked ⟨oL,Hl,I.free⟩ hs,by simpa using I.len⟩ ⟨_,hs, .inl rfl⟩
  ·exact(hs.2 b (Nat.ne_of_lt (Nat.lt_of_lt_of_le (Heap.lt_size e) I.ok.above))).trans (I.base.keep b o e n hb hx)
  ·obtain⟨sl,e1⟩:=I.base.slot b o e n hb hx
   exact⟨sl,(hs.2 b (Nat.ne_of_lt (Nat.lt_of_lt_of_le (Heap.lt_size e) I.ok.above))).trans e1⟩
  ·obtain⟨o',e1⟩:=I.base.there b o e hx
   exact⟨o',(hs.2 b (Nat.ne_of_lt (Nat.lt_of_lt_of_le (Heap.lt_size e) I.ok.above))).trans e1⟩
  ·by_cases hj:j=i
   ·subst hj
    rw[hi] at e1;cases e1
    rw[List.getElem?_set_self AA] at e2
    cases e2
    exact⟨u,r, .inl ⟨hk,by simp⟩⟩
   ·rw[List.getElem?_set_ne (Ne.symm hj)] at e2
    obtain⟨u',r',q⟩:=hl j y v' e1 e2 e3
    refine⟨u',r', ?_⟩
    rcases q with⟨k,e⟩ | ⟨k,c,e,z⟩
    ·refine .inl ⟨k, ?_⟩
     have:y≠x:=fun e=>hj (Ay hN e1 (e ▸ hi))
     simp[this,e]
    ·exact .inr ⟨k,c,e,z.sameBut hs (kT y c e)⟩
  ·obtain⟨w',z⟩:=I.cell y c e
   exact⟨w',z.sameBut hs (kT y c e)⟩
  ·obtain⟨e,n,ne,nf,d⟩:=I.pin p hp
   exact⟨(hs.2 p.1 ne).trans e,n,ne,nf,d⟩
 ·have vO:X.fn x=true:=by
   rcases hf with z | z
   ·exact z
   ·rw[z] at hk;cases hk
  obtain⟨c,hc⟩:=I.ok.has x (.inl hk)
  obtain⟨w',z⟩:=I.cell x c hc
  refine wpAny_storeName_cell I.ok.kind hk hc z (fun h' eh hs=> ?_)
  obtain⟨oc,AD,Hm⟩:=id z
  refine h {s with heap:=h'} ⟨I.ok,I.os,I.bare,⟨fun b o e n hb hx=> ?_,fun b o e n hb hx=> ?_,I.base.free,fun b o e hx=> ?_,I.base.ef,I.base.dM,I.base.eg⟩,⟨m,hn.sameBut hs (Ne.symm (kT x c hc)),fun j y v' e1 e2 e3=> ?_⟩,fun y c' e=> ?_,I.free,I.eK,fun p hp=> ?_,tracked ⟨oc,AD,I.eK x c hc⟩ hs,by simpa using I.len⟩ ⟨c,hs, .inr hc⟩
  ·exact(hs.2 b (Nat.ne_of_lt (Nat.lt_of_lt_of_le (Heap.lt_size e) (I.ok.sj x c vO hc)))).trans (I.base.keep b o e n hb hx)
  ·obtain⟨sl,e1⟩:=I.base.slot b o e n hb hx
   exact⟨sl,(hs.2 b (Nat.ne_of_lt (Nat.lt_of_lt_of_le (Heap.lt_size e) (I.ok.sj x c vO hc)))).trans e1⟩
  ·obtain⟨o',e1⟩:=I.base.there b o e hx
   exact⟨o',(hs.2 b (Nat.ne_of_lt (Nat.lt_of_lt_of_le (Heap.lt_size e) (I.ok.sj x c vO hc)))).trans e1⟩
  ·by_cases hj:j=i
   ·subst hj
    rw[hi] at e1;cases e1
    rw[List.getElem?_set_self AA] at e2
    cases e2
    exact⟨u,r, .inr ⟨.inl hk,c,hc,eh⟩⟩
   ·rw[List.getElem?_set_ne (Ne.symm hj)] at e2
    obtain⟨u',r',q⟩:=hl j y v' e1 e2 e3
    refine⟨u',r', ?_⟩
    rcases q with q | ⟨k,c',e,z'⟩
    ·exact .inl q
    ·refine .inr ⟨k,c',e,z'.sameBut hs ?_⟩
     rintro rfl
     exact hj (Ay hN e1 (I.ok.inj _ _ _ e hc ▸ hi))
  ·by_cases AE:c'=c
   ·subst AE;exact⟨_,eh⟩
   ·obtain⟨w2,z2⟩:=I.cell y c' e
    exact⟨w2,z2.sameBut hs AE⟩
  ·obtain⟨e,n,ne,nf,d⟩:=I.pin p hp
   refine⟨(hs.2 p.1 ?_).trans e,n,ne,nf,d⟩
   intro q
   rw[q,AD] at e
   have q':oc=p.2:=Option.some.inj e
   exact d w' (by rw[←q'];exact Hm)
theorem vP{M:Model}{A:Around}{E:Value→Shared→Prop}{i:Nat}{x:Str}{v:V}{u:Value}{Q:Unit→Shared→Prop}(I:Inv X pins σ H s)(hN:X.N.Nodup)(hi:X.N[i]?=some x)(hx:Loc X.env.scope x)(r:RelV v u)
  (h: ∀s',Inv X pins (σ.set i (some v)) H s'→Q () s') (hf:X.fn x=true∨X.env.scope.names.lookup x=some .local:=by first | exact .inl rfl | exact .inr rfl | assumption):wpAny M A (storeName X.env x u) Q E s:=
 Az I hN hi hx r (fun s' I' _=>h s' I') hf
theorem Inv.vQ{s':Shared}{ch:List Addr}(I:Inv X pins σ H s)(ho:s'.os=s.os)(u:Un (bp X.stack) ch H H' s.heap s'.heap)(aE:bH X.prog X.w H' s'.heap)(hg:AllBare s'.gens)
  (gd: ∀b∈ch,(b∈X.ex∨X.s₀.heap.objs.size≤b)∧b≠X.env.locals∧(∀x c,X.env.cells.lookup x=some c→c≠b)∧ ∀p∈X.pn++pins,p.1≠b):Inv X pins σ H' s':=by
 obtain⟨h',g',d',t',o'⟩:=s'
 have e:o'=s.os:=ho
 subst e
 exact I.call (g':=g') (t':=t') (d':=d') u aE hg gd
end
abbrev XK:=Value→Option Addr→Hp→Prop
abbrev St:=List (Option V)
abbrev VK:=V→Hp→Prop
abbrev TE:=St→Hp→VK→Prop
abbrev TT:=St→Hp→(Bool→Hp→Prop)→Prop
abbrev TA:=St→Hp→(List V→Hp→Prop)→Prop
structure Ends where
 nx:St→Hp→Prop
 rt:VK
 bk:St→Hp→Prop:=fun _ _=>False
 ct:St→Hp→Prop:=fun _ _=>False
abbrev TS:=Ends→St→Hp→Prop
def EP(X:Cx)(pins:List (Addr×Obj))(σ:St)(Q:VK)(u:Value)(s':Shared):Prop:= ∃v H',Inv X pins σ H' s'∧RelV v u∧Q v H'
def TP(X:Cx)(pins:List (Addr×Obj))(σ:St)(Q:Bool→Hp→Prop)(b:Bool)(s':Shared):Prop:= ∃H',Inv X pins σ H' s'∧Q b H'
def AP(X:Cx)(pins:List (Addr×Obj))(σ:St)(Q:List V→Hp→Prop)(us:List Value)(s':Shared):Prop:= ∃vs H',Inv X pins σ H' s'∧Vals vs us∧Q vs H'
def SP(X:Cx)(pins:List (Addr×Obj))(D:Ends)(f:Flow)(s':Shared):Prop:=
 match f with
 | .next=> ∃σ' H',Inv X pins σ' H' s'∧D.nx σ' H'
 | .brk=> ∃σ' H',Inv X pins σ' H' s'∧D.bk σ' H'
 | .cont=> ∃σ' H',Inv X pins σ' H' s'∧D.ct σ' H'
 | .ret u=> ∃v σ' H',Inv X pins σ' H' s'∧RelV v u∧D.rt v H'
def PE(X:Cx)(e:Expr)(t:TE):Prop:=
 ∀(pins:List (Addr×Obj)) (s:Shared) (σ:St) (H:Hp) (Q:VK),Inv X pins σ H s→t σ H Q→wpAny (model X.prog X.w) X.A (eval e X.env) (EP X pins σ Q) X.xe s
def PT(X:Cx)(e:Expr)(t:TT):Prop:=
 ∀(pins:List (Addr×Obj)) (s:Shared) (σ:St) (H:Hp) (Q:Bool→Hp→Prop),Inv X pins σ H s→t σ H Q→wpAny (model X.prog X.w) X.A (isTrue e X.env (eval e X.env)) (TP X pins σ Q) X.xe s
def PW(X:Cx)(e:Expr)(t:TT):Prop:=
 ∀(whole:Sem Value) (pins:List (Addr×Obj)) (s:Shared) (σ:St) (H:Hp) (Q:Bool→Hp→Prop),Inv X pins σ H s→t σ H Q→wpAny (model X.prog X.w) X.A (isTrue e X.env whole) (TP X pins σ Q) X.xe s
theorem PW.pt{X:Cx}{e:Expr}{t:TT}(h:PW X e t):PT X e t:=h _
def PA(X:Cx)(es:List Expr)(t:TA):Prop:=
 ∀(pos:Pos) (pins:List (Addr×Obj)) (s:Shared) (σ:St) (H:Hp) (Q:List V→Hp→Prop),Inv X pins σ H s→t σ H Q→wpAny (model X.prog X.w) X.A (spliced (backTo pos (starEach es X.env))) (AP X pins σ Q) X.xe s
def PS(X:Cx)(st:Stmt)(t:TS):Prop:=
 ∀(pins:List (Addr×Obj)) (s:Shared) (σ:St) (H:Hp) (D:Ends),Inv X pins σ H s→t D σ H→wpAny (model X.prog X.w) X.A (exec st X.env) (SP X pins D) X.xe s
def dz(X:Cx)(st:List Stmt)(t:TS):Prop:=
 ∀(pins:List (Addr×Obj)) (s:Shared) (σ:St) (H:Hp) (D:Ends),Inv X pins σ H s→t D σ H→wpAny (model X.prog X.w) X.A (execs st X.env) (SP X pins D) X.xe s
theorem aJ{α:Type}{t:Sem α}{Q Q':α→Shared→Prop}{M:Model}{A:Around}{E:Value→Shared→Prop}{s:Shared}(h:wpAny M A t Q E s)(hQ: ∀a s,Q a s→Q' a s):wpAny M A t Q' E s:=wpAny_mono h hQ fun _ _ x=>x
section
variable {X:Cx}
def vR(i:Nat):TE:=fun σ H Q=> ∃v,σ[i]?=some (some v)∧Q v H
def tC(v:V):TE:=fun _ H Q=>Q v H
theorem Hn{i:Nat}{x:Str}{pos:Pos}(hN:X.N[i]?=some x)(hv:si X.env.scope x)(hd:(x==("__debug__":Str))=false:=by decide)(fI:(x==("__classdict__":Str))=false:=by decide):PE X (.Name x pos) (vR i):=by
 intro pins s σ H Q I h
 obtain⟨v,e,h⟩:=h
 obtain⟨m,hn,hl⟩:=I.loc
 obtain⟨u,r,l⟩:=hl i x v hN e hv
 have fin:EP X pins σ Q u s:=⟨v,H,I,r,h⟩
 rcases l with⟨hk,hm⟩ | ⟨hk,c,hc,AF⟩
 ·exact wpAny_Name (wpAny_loadName_local I.ok.kind hk hn hm fin) hd
 ·rcases hk with hk | hk
  ·exact wpAny_Name (wpAny_loadName_cell I.ok.kind hk hc AF fin) hd
  ·exact wpAny_Name (wpAny_loadName_free I.ok.kind hk hc AF fin fI) hd
theorem Ho{i j pos}:PE X (.Constant (.int i) j pos) (tC (.int i)):=fun _ _ _ H _ I h=>wpAny_Constant_int ⟨.int i,H,I.tok _,⟨_,rfl⟩,h⟩
theorem Hq{b j pos}:PE X (.Constant (.bool b) j pos) (tC (.bl b)):=fun _ _ _ H _ I h=>Constant_bool ⟨.bl b,H,I,rfl,h⟩
theorem Hr{j pos}:PE X (.Constant .none j pos) (tC .aB):=fun _ _ _ H _ I h=>Constant_none ⟨.aB,H,I,rfl,h⟩
theorem Hs{x j pos}:PE X (.Constant (.str x) j pos) (tC (.str x)):=fun _ _ _ H _ I h=>Calls.Constant_str ⟨.str x,H,I.tok _,⟨_,rfl⟩,h⟩
def Gl(X:Cx)(x:Str):Prop:=X.env.kindOf x=some .globalImplicit
theorem pw{E:Value→Shared→Prop}{pins:List (Addr×Obj)}{s:Shared}{σ:St}{H:Hp}{x:Str}{u:Value}{pos:Pos}{Q:Value→Shared→Prop}(I:Inv X pins σ H s)(hg:Gl X x)(hm:X.mg x=some u)(h:Q u s)
  (hd:(x==("__debug__":Str))=false:=by decide):wpAny (model X.prog X.w) X.A (eval (.Name x pos) X.env) Q E s:=
 Calls.Name_function_global I.ok.kind hg (Calls.loadGlobal_global (by rw[I.ok.glob];exact I.mod.glob.keeps I.bk) hm h) hd
theorem nu{E:Value→Shared→Prop}{pins:List (Addr×Obj)}{s:Shared}{σ:St}{H:Hp}{x:Str}{u:Value}{pos:Pos}{Q:Value→Shared→Prop}(I:Inv X pins σ H s)(hg:Gl X x)(hm:X.mg x=none)(hv:bootBuiltins x=some u)(h:Q u s)
  (hn:x≠"__name__":=by decide) (hd:(x==("__debug__":Str))=false:=by decide):wpAny (model X.prog X.w) X.A (eval (.Name x pos) X.env) Q E s:=by
 obtain⟨mb,h1,h2⟩:=I.mod.blt
 exact Calls.Name_function_global I.ok.kind hg (Calls.loadGlobal_builtin (by rw[I.ok.glob];exact I.mod.glob.keeps I.bk) hm (by rw[I.ok.blt];exact h1.keeps I.bk) ((h2 x hn).trans hv) h) hd
theorem AG{x:Str}{v:V}{u:Value}{pos:Pos}(hg:Gl X x)(hm:X.mg x=some u)(r:RelV v u)(hd:(x==("__debug__":Str))=false:=by decide):PE X (.Name x pos) (tC v):=
 fun _ _ _ H _ I h=>pw I hg hm ⟨v,H,I,r,h⟩ hd
theorem AH{x:Str}{v:V}{u:Value}{pos:Pos}(hg:Gl X x)(hm:X.mg x=none)(hv:bootBuiltins x=some u)(r:RelV v u)(hn:x≠"__name__":=by decide)(hd:(x==("__debug__":Str))=false:=by decide):PE X (.Name x pos) (tC v):=
 fun _ _ _ H _ I h=>nu I hg hm hv ⟨v,H,I,r,h⟩ hn hd
variable {a b:Expr} {ta tb:TE} {pos:Pos}
def tB(t:TE):TT:=fun σ H Q=>t σ H fun x H1=> ∃c,x= .bl c∧Q c H1
variable {tA sy:TT} {rest:List Expr}
def AI(t u:TT):TT:=fun σ H Q=>t σ H fun c H1=>if c=true then u σ H1 Q else Q false H1
def AJ(t u:TT):TT:=fun σ H Q=>t σ H fun c H1=>if c=true then Q true H1 else u σ H1 Q
def AK(t:TT):TT:=fun σ H Q=>t σ H fun c H1=>Q (!c) H1
theorem pw_and1(ha:PT X a tA):PW X (.BoolOp .And [a] pos) tA:=by
 intro wh pins s σ H Q I h
 refine isTrue_and (aJ (ha pins s σ H Q I h) fun c s1 e=> ?_)
 cases c with
 | true=>exact isTrue_and_nil e
 | false=>exact e
theorem pw_or1(ha:PT X a tA):PW X (.BoolOp .Or [a] pos) tA:=by
 intro wh pins s σ H Q I h
 refine isTrue_or (aJ (ha pins s σ H Q I h) fun c s1 e=> ?_)
 cases c with
 | false=>exact isTrue_or_nil e
 | true=>exact e
theorem pw_and(ha:PT X a tA)(hb:PW X (.BoolOp .And (b::rest) pos) sy):PW X (.BoolOp .And (a::b::rest) pos) (AI tA sy):=by
 intro wh pins s σ H Q I h
 refine isTrue_and (aJ (ha pins s σ H _ I h) fun c s1 ⟨H1,I1,q1⟩=> ?_)
 cases c with
 | true=>exact hb wh pins s1 σ H1 Q I1 q1
 | false=>exact⟨H1,I1,q1⟩
theorem pw_or(ha:PT X a tA)(hb:PW X (.BoolOp .Or (b::rest) pos) sy):PW X (.BoolOp .Or (a::b::rest) pos) (AJ tA sy):=by
 intro wh pins s σ H Q I h
 refine isTrue_or (aJ (ha pins s σ H _ I h) fun c s1 ⟨H1,I1,q1⟩=> ?_)
 cases c with
 | true=>exact⟨H1,I1,q1⟩
 | false=>exact hb wh pins s1 σ H1 Q I1 q1
theorem Ht(ha:PT X a tA):PT X (.UnaryOp .Not a pos) (AK tA):=by
 intro pins s σ H Q I h
 exact isTrue_not (ha pins s σ H (fun c H1=>Q (!c) H1) I h)
def AL(ta tb:TE):TE:=fun σ H Q=>ta σ H fun x H1=> ∃c,x= .bl c∧if c=true then tb σ H1 Q else Q (.bl false) H1
def AM(ta tb:TE):TE:=fun σ H Q=>ta σ H fun x H1=> ∃c,x= .bl c∧if c=true then Q (.bl true) H1 else tb σ H1 Q
theorem AN{op}{t:TE}(h:PE X a t):PE X (.BoolOp op [a] pos) t:=fun pins s σ H Q I hw=>BoolOp_one (h pins s σ H Q I hw)
theorem Hu(ha:PE X a ta)(hb:PE X (.BoolOp .And (b::rest) pos) tb):PE X (.BoolOp .And (a::b::rest) pos) (AL ta tb):=by
 intro pins s σ H Q I h
 refine BoolOp_and (aJ (ha pins s σ H _ I h) fun v s1 ⟨x,H1,I1,r1,q1⟩=> ?_)
 obtain⟨c,rfl,q1⟩:=q1
 cases r1
 refine wpAny_truthy_bool ?_
 cases c with
 | true=>exact hb pins s1 σ H1 Q I1 q1
 | false=>exact⟨.bl false,H1,I1,rfl,q1⟩
theorem Hv(ha:PE X a ta)(hb:PE X (.BoolOp .Or (b::rest) pos) tb):PE X (.BoolOp .Or (a::b::rest) pos) (AM ta tb):=by
 intro pins s σ H Q I h
 refine BoolOp_or (aJ (ha pins s σ H _ I h) fun v s1 ⟨x,H1,I1,r1,q1⟩=> ?_)
 obtain⟨c,rfl,q1⟩:=q1
 cases r1
 refine wpAny_truthy_bool ?_
 cases c with
 | false=>exact hb pins s1 σ H1 Q I1 q1
 | true=>exact⟨.bl true,H1,I1,rfl,q1⟩
def AO(t:TT)(ta tb:TE):TE:=fun σ H Q=>t σ H fun c H1=>if c=true then ta σ H1 Q else tb σ H1 Q
theorem Hw{c:Expr}(hc:PT X c tA)(ha:PE X a ta)(hb:PE X b tb):PE X (.IfExp c a b pos) (AO tA ta tb):=by
 intro pins s σ H Q I h
 refine wpAny_IfExp (aJ (hc pins s σ H _ I h) fun d s1 ⟨H1,I1,q1⟩=> ?_)
 cases d with
 | true=>exact ha pins s1 σ H1 Q I1 q1
 | false=>exact hb pins s1 σ H1 Q I1 q1
end
def aC(K:Frag)(H:Hp)(a:Addr)(xs:List V):Prop:=
 Rd H a (.lst xs)∨
  ∃(o:Obj) (its:Array Value) (n:Nat),K.lookup a=some o∧o.cls= .type "list"∧o.dict=none∧o.data= .seq its n∧its.size≤sizeLine∧Vals xs its.toList
def aT(K:Frag)(H:Hp)(a:Addr)(xs:List V):Prop:=
 Rd H a (.tup xs)∨
  ∃(o:Obj) (its:Array Value) (n:Nat),K.lookup a=some o∧o.cls= .type "tuple"∧o.data= .seq its n∧its.size≤sizeLine∧Vals xs its.toList
def Hx:Value→Option V
 | .none=>some .aB
 | .bool b=>some (.bl b)
 | .int i _=>some (.int i)
 | .str x _=>some (.str x)
 | .bytes b _=>some (.d_ b)
 | .float b _=>some (.kP b)
 | .ref a=>some (.ref a)
 | .type n=>some (.ty n)
 | _=>none
theorem RelV.abs{x:V}{u:Value}(r:RelV x u):Hx u=some x:=by
 cases x with
 | aB=>cases r;rfl
 | bl _=>cases r;rfl
 | int _=>obtain⟨t,rfl⟩:=r;rfl
 | str _=>obtain⟨t,rfl⟩:=r;rfl
 | d_ _=>obtain⟨t,rfl⟩:=r;rfl
 | kP _=>obtain⟨t,rfl⟩:=r;rfl
 | ref _=>cases r;rfl
 | ty _=>cases r;rfl
theorem RelV.inj{x y:V}{u:Value}(r:RelV x u)(q:RelV y u):x=y:=Option.some.inj (r.abs.symm.trans q.abs)
theorem Vals.inj: ∀{xs ys:List V} {us:List Value},Vals xs us→Vals ys us→xs=ys
 | _,_,_, .nil, .nil=>rfl
 | _,_,_, .cons r t, .cons r' t'=>by rw[r.inj r',Vals.inj t t']
section
variable {X:Cx} {pins:List (Addr×Obj)} {σ:St} {H:Hp} {s:Shared} {a:Addr} {xs ys:List V}
theorem aC.of{K:Frag}(h:H a=some (.lst xs)):aC K H a xs:= .inl (.inl h)
theorem aT.of{K:Frag}(h:H a=some (.tup xs)):aT K H a xs:= .inl (.inl h)
theorem Inv.list(I:Inv X pins σ H s)(h:aC X.K H a xs): ∃its:List Value,Vals xs its∧PlainL s.heap a its.toArray∧xs.length≤sizeLine:=by
 rcases h with h | ⟨o,its,n,hk,hc,hd,hs,hz,r⟩
 ·obtain⟨z,its,n,r,e⟩:=h.ok I.aE
  exact⟨its,r,⟨_,n,e,rfl,rfl,rfl⟩,z⟩
 ·refine⟨its.toList,r,⟨o,n,I.cP a o hk,hc,hd,by simpa using hs⟩, ?_⟩
  have e:=r.length
  simp only[Array.length_toList] at e
  omega
theorem Inv.tuple(I:Inv X pins σ H s)(h:aT X.K H a xs): ∃its:List Value,Vals xs its∧IsTup s.heap a its.toArray∧xs.length≤sizeLine:=by
 rcases h with h | ⟨o,its,n,hk,hc,hs,hz,r⟩
 ·obtain⟨z,its,r,p⟩:=h.ok I.aE
  exact⟨its,r,p,z⟩
 ·refine⟨its.toList,r,⟨o,I.cP a o hk,hc,n,by simpa using hs⟩, ?_⟩
  have e:=r.length
  simp only[Array.length_toList] at e
  omega
theorem Inv.AQ(I:Inv X pins σ H s)(h:aC X.K H a xs)(h':aC X.K H a ys):xs=ys:=by
 obtain⟨its,r,⟨o,n,e,_,_,d⟩,_⟩:=I.list h
 obtain⟨dR,r',⟨o',n',e',_,_,d'⟩,_⟩:=I.list h'
 rw[e] at e';cases e'
 rw[d] at d'
 injection d' with d1 _
 have:its=dR:=by simpa using congrArg Array.toList d1
 subst this
 exact r.inj r'
theorem Inv.vS(I:Inv X pins σ H s)(h:aT X.K H a xs)(h':aT X.K H a ys):xs=ys:=by
 obtain⟨its,r,⟨o,e,_,n,d⟩,_⟩:=I.tuple h
 obtain⟨dR,r',⟨o',e',_,n',d'⟩,_⟩:=I.tuple h'
 rw[e] at e';cases e'
 rw[d] at d'
 injection d' with d1 _
 have:its=dR:=by simpa using congrArg Array.toList d1
 subst this
 exact r.inj r'
end
section
variable {X:Cx} {pins:List (Addr×Obj)} {σ:St} {H:Hp} {s:Shared} {E:Value→Shared→Prop}
end
section
variable {X:Cx} {st:Stmt} {rest:List Stmt} {t u:TS} {e:Expr} {te:TE} {pos:Pos}
def sG:TS:=fun D σ H=>D.nx σ H
def vT(t u:TS):TS:=fun D σ H=>t {D with nx:=u D} σ H
theorem vU:dz X [] sG:=fun _ _ σ H _ I h=>wpAny_execs_nil ⟨σ,H,I,h⟩
theorem AR(h1:PS X st t)(h2:dz X rest u):dz X (st::rest) (vT t u):=by
 intro pins s σ H D I h
 refine wpAny_execs_cons (aJ (h1 pins s σ H {D with nx:=u D} I h) fun f s1 q=> ?_)
 cases f with
 | next=>
  obtain⟨σ',H',I',q⟩:=q
  exact h2 pins s1 σ' H' D I' q
 | ret v=>exact q
 | brk=>exact q
 | cont=>exact q
def Hy:TS:=fun D σ H=>D.bk σ H
def Hz:TS:=fun D σ H=>D.ct σ H
theorem Inv.quiet{pins:List (Addr×Obj)}{σ:St}{H:Hp}{s:Shared}(I:Inv X pins σ H s):interactive X.env=false:=by simp[interactive,I.ok.kind]
def AS(te:TE):TS:=fun D σ H=>te σ H fun _ H1=>D.nx σ H1
theorem HA(he:PE X e te)(hs:swapsWith e none pos.line X.env=pure false:=by rfl):PS X (.Expr e pos) (AS te):=by
 intro pins s σ H D I h
 exact wpAny_Expr_any (aJ (he pins s σ H _ I h) fun v s1 ⟨x,H1,I1,r1,q1⟩=> ⟨σ,H1,I1,q1⟩) I.quiet hs
def AU(te:TE):TS:=fun D σ H=>te σ H D.rt
theorem HB(he:PE X e te):PS X (.Return (some e) pos) (AU te):=by
 intro pins s σ H D I h
 exact wpAny_Return_some (aJ (he pins s σ H _ I h) fun v s1 ⟨x,H1,I1,r1,q1⟩=> ⟨x,σ,H1,I1,r1,q1⟩)
def HC:TS:=fun D _ H=>D.rt .aB H
def AV(c:TT)(t u:TS):TS:=fun D σ H=>c σ H fun b H1=>if b=true then t D σ H1 else u D σ H1
theorem HD{c:Expr}{a b:List Stmt}{tc:TT}(hc:PT X c tc)(ha:dz X a t)(hb:dz X b u):PS X (.If c a b pos) (AV tc t u):=by
 intro pins s σ H D I h
 refine wpAny_If (aJ (hc pins s σ H _ I h) fun d s1 ⟨H1,I1,q1⟩=> ?_)
 cases d with
 | true=>exact ha pins s1 σ H1 D I1 q1
 | false=>exact hb pins s1 σ H1 D I1 q1
def HE:TS:=fun _ _ _=>False
end
abbrev TG:=V→St→Hp→(St→Hp→Prop)→Prop
abbrev gO:=List V→St→Hp→(St→Hp→Prop)→Prop
def PG(X:Cx)(target:Expr)(t:TG):Prop:=
 ∀(pins:List (Addr×Obj)) (s:Shared) (σ:St) (H:Hp) (v:V) (u:Value) (Q:St→Hp→Prop),Inv X pins σ H s→RelV v u→t v σ H Q→
  wpAny (model X.prog X.w) X.A (assign target X.env u) (fun _ s'=> ∃σ' H',Inv X pins σ' H' s'∧Q σ' H') X.xe s
def kW(X:Cx)(ts:List Expr)(t:gO):Prop:=
 ∀(pins:List (Addr×Obj)) (s:Shared) (σ:St) (H:Hp) (vs:List V) (us:List Value) (Q:St→Hp→Prop),Inv X pins σ H s→Vals vs us→t vs σ H Q→
  wpAny (model X.prog X.w) X.A (assignInOrder ((assignEach ts X.env).map (·.2)) us) (fun _ s'=> ∃σ' H',Inv X pins σ' H' s'∧Q σ' H') X.xe s
abbrev vV:=V→V→V→Hp→(Hp→Prop)→Prop
def AW(X:Cx)(t:vV):Prop:=
 ∀(pins:List (Addr×Obj)) (s:Shared) (σ:St) (H:Hp) (o i v:V) (ov iv u:Value) (Q:Hp→Prop),Inv X pins σ H s→RelV o ov→RelV i iv→RelV v u→t o i v H Q→
  wpAny (model X.prog X.w) X.A (setItem ov iv u) (fun _ s'=> ∃H',Inv X pins σ H' s'∧Q H') X.xe s
section
variable {X:Cx} {pos:Pos}
def cI(i:Nat):TG:=fun v σ H Q=>Q (σ.set i (some v)) H
theorem jK{i:Nat}{x:Str}(hN:X.N.Nodup)(hi:X.N[i]?=some x)(hx:Loc X.env.scope x)(hf:X.fn x=true∨X.env.scope.names.lookup x=some .local:=by first | exact .inl rfl | exact .inr rfl | assumption):PG X (.Name x pos) (cI i):=by
 intro pins s σ H v u Q I r h
 exact wpAny_assign_Name (vP I hN hi hx r (fun s' I'=> ⟨_,H,I',h⟩) hf)
def pz:gO:=fun vs σ H Q=>vs=[]∧Q σ H
def jL(t:TG)(u:gO):gO:=fun vs σ H Q=> ∃v r,vs=v::r∧t v σ H fun σ' H'=>u r σ' H' Q
theorem sH:kW X [] pz:=by
 intro pins s σ H vs us Q I r h
 obtain⟨e,h⟩:=h
 subst e
 cases r
 exact assignInOrder_nil ⟨σ,H,I,h⟩
theorem kY{e:Expr}{es:List Expr}{t:TG}{u:gO}(h1:PG X e t)(h2:kW X es u)
  (hs:(assignEach (e::es) X.env).map (·.2)=assign e X.env::(assignEach es X.env).map (·.2):=by rfl):kW X (e::es) (jL t u):=by
 intro pins s σ H vs us Q I r h
 obtain⟨v,vr,e1,h⟩:=h
 subst e1
 cases r with
 | cons r rr=>
  rw[hs]
  refine assignInOrder_cons (aJ (h1 pins s σ H _ _ _ I r h) fun _ s1 ⟨σ1,H1,I1,q1⟩=> ?_)
  exact h2 pins s1 σ1 H1 _ _ Q I1 rr q1
def sI(K:Frag)(n:Nat)(t:gO):TG:=fun v σ H Q=> ∃a xs,v= .ref a∧aT K H a xs∧xs.length=n∧t xs σ H Q
theorem AX{es:List Expr}{k:Nat}{t:gO}{n:Nat}(hc:X.calm=true)(h:kW X es t)
  (hn:(assignEach es X.env).length=n:=by rfl) (iy:(assignEach es X.env).findIdx? (·.1)=none:=by rfl):PG X (.Tuple es k pos) (sI X.K n t):=by
 intro pins s σ H v u Q I r hw
 obtain⟨a,xs,e1,hq,hl,hw⟩:=hw
 subst e1
 cases r
 obtain⟨its,rv,ht,hz⟩:=I.tuple hq
 refine assign_Tuple_tuple (I.ok.hd hc) ht (by simp[hn,←hl,rv.length]) iy fun h' hx=> ?_
 have I1:Inv X pins σ H {s with heap:=h'}:=I.kept (t':=s.toks) fun b o e=>hx b o (Nat.ne_of_lt (Heap.lt_size e)) e
 exact h pins _ σ H xs _ Q I1 (by simpa using rv) hw
def AY(to ti:TE)(t:vV):TG:=fun v σ H Q=>to σ H fun o H1=>ti σ H1 fun i H2=>t o i v H2 fun H3=>Q σ H3
theorem HF{o i:Expr}{to ti:TE}{t:vV}(ho:PE X o to)(hi:PE X i ti)(hs:AW X t)
  (ha: ∀v,assign (.Subscript o i pos) X.env v=(do
   let ov ←holding [v] (eval o X.env)
   let iv ←holding [v,ov] (eval i X.env)
   standAt pos
   holding [v,ov,iv] (setItem ov iv v)
   release [v,ov,iv] []):=by intro _;rfl):PG X (.Subscript o i pos) (AY to ti t):=by
 intro pins s σ H v u Q I r h
 rw[ha]
 refine wpAny_bind (wpAny_holding (aJ (ho pins s σ H _ I h) fun ov s1 ⟨x,H1,I1,r1,q1⟩=> ?_))
 refine wpAny_bind (wpAny_holding (aJ (hi pins s1 σ H1 _ I1 q1) fun iv s2 ⟨y,H2,I2,r2,q2⟩=> ?_))
 refine wpAny_bind (wpAny_standAt (wpAny_bind (wpAny_holding (aJ (hs pins s2 σ H2 x y v ov iv u _ I2 r1 r2 r q2) fun _ s3 ⟨H3,I3,q3⟩=> ?_))))
 exact wpAny_release ⟨σ,H3,I3,q3⟩
def fJ(te:TE)(g:TG):TS:=fun D σ H=>te σ H fun x H1=>g x σ H1 D.nx
theorem AZ{tg e:Expr}{te:TE}{g:TG}(he:PE X e te)(hg:PG X tg g)(hs:swapsWithSole [tg] e pos.line X.env=pure false:=by rfl)(hw:swappedStores [tg] e X.env=pure none:=by rfl)
  (h1:(assignEach [tg] X.env).map (·.2)=[assign tg X.env]:=by rfl):PS X (.Assign [tg] e pos) (fJ te g):=by
 intro pins s σ H D I h
 refine wpAny_Assign_stores (aJ (he pins s σ H _ I h) fun v s1 ⟨x,H1,I1,r1,q1⟩=> ?_) hs hw
 rw[h1]
 exact aJ (hg pins s1 σ H1 x v _ I1 r1 q1) fun _ s2 q=>q
theorem A0{i:Nat}{x:Str}{e:Expr}{te:TE}{pos':Pos}(hN:X.N.Nodup)(hi:X.N[i]?=some x)(hx:Loc X.env.scope x)(he:PE X e te)(hs:swapsWith e (some (.Name x pos')) pos.line X.env=pure false:=by rfl)(hf:X.fn x=true∨X.env.scope.names.lookup x=some .local:=by first | exact .inl rfl | exact .inr rfl | assumption):
  PS X (.Assign [.Name x pos'] e pos) (fJ te (cI i)):=by
 intro pins s σ H D I h
 refine wpAny_Assign_Name (aJ (he pins s σ H _ I h) fun v s1 ⟨y,H1,I1,r1,q1⟩=> ?_) hs
 exact vP I1 hN hi hx r1 (fun s2 I2=> ⟨_,H1,I2,q1⟩) hf
end
section
variable {X:Cx} {pos:Pos}
def HG(c:TT)(tb:TS):TS:=fun D σ H=> ∃W:Nat→St→Hp→Prop,(∃m,W m σ H)∧ ∀m σ H,W m σ H→
 c σ H fun b H1=>if b=true then ∃N:St→Hp→Prop,(∀σ' H',N σ' H'→ ∃m',m'<m∧W m' σ' H')∧tb {D with nx:=N,ct:=N,bk:=D.nx} σ H1 else D.nx σ H1
end
structure It where
 go:Nat→Hp→Prop
 cZ:Nat→Hp→V→Hp→Prop
 stop:Nat→Hp→Prop
def fK(X:Cx)(pins:List (Addr×Obj))(H:Hp)(b:Addr):Prop:=
 H b=none∧b≠X.env.locals∧b∉X.fs∧(b∈X.ex∨X.s₀.heap.objs.size≤b)∧(∀x c,X.env.cells.lookup x=some c→c≠b)∧ ∀p∈X.pn++pins,p.1≠b
theorem Inv.kZ{X:Cx}{pins:List (Addr×Obj)}{σ:St}{H H':Hp}{s:Shared}{b:Addr}(I:Inv X pins σ H s)(hb:s.heap.objs.size≤b)(hn:H' b=none):fK X pins H' b:=by
 refine⟨hn,Nat.ne_of_gt (Nat.lt_of_lt_of_le I.lt hb),I.Av hb, .inr (Nat.le_trans I.sz hb),fun x c e z=> ?_,fun p hp z=> ?_⟩
 ·obtain⟨v,q⟩:=I.cell x c e
  exact absurd (Nat.lt_of_lt_of_le q.lt (by rw[z];exact hb)) (Nat.lt_irrefl _)
 ·exact absurd (Nat.lt_of_lt_of_le (Heap.lt_size (I.pin p hp).1) (by rw[z];exact hb)) (Nat.lt_irrefl _)
structure Turn (P:Program) (w:World) (K:Frag) (tg:Expr) (J:It) (fp:List Addr) (it:Addr) (tn:Nat→Heap→Prop):Prop where
 mem:it∈fp
 obj: ∀i h,tn i h→ ∀b∈fp,∃o,h.get? b=some o∧ ∀v,o.data≠ .cell v
 keep: ∀i h h',tn i h→(∀b∈fp,∀o,h.get? b=some o→h'.get? b=some o)→tn i h'
 item: ∀(X:Cx),X.prog=P→X.w=w→X.K=K→X.calm=true→ ∀(i:Nat) (pins:List (Addr×Obj)) (s:Shared) (σ:St) (H:Hp) (E:Value→Shared→Prop),Inv X pins σ H s→(∀b∈fp,fK X pins H b)→tn i s.heap→J.go i H→
  wpAny (model P w) X.A (pyNext (.ref it)) (fun r s1=> ∃u,r=some u∧
   wpAny (model P w) X.A (letOwnedTupleGo tg (.ref it) u) (fun _ s2=> ∃x H',Inv X pins σ H' s2∧RelV x u∧J.cZ i H x H'∧tn (i+1) s2.heap∧ ∀b∈fp,H' b=none) E s1) E s
 done: ∀(X:Cx),X.prog=P→X.w=w→X.K=K→X.calm=true→ ∀(i:Nat) (pins:List (Addr×Obj)) (s:Shared) (σ:St) (H:Hp) (E:Value→Shared→Prop),Inv X pins σ H s→(∀b∈fp,fK X pins H b)→tn i s.heap→J.stop i H→
  wpAny (model P w) X.A (pyNext (.ref it)) (fun r s1=>r=none∧Inv X pins σ H s1) E s
 self: ∀(A:Around) (i:Nat) (s:Shared) (Q:Value→Shared→Prop) (E:Value→Shared→Prop),tn i s.heap→Q (.ref it) s→wpAny (model P w) A (pyIter (.ref it)) Q E s
abbrev TI:=St→Hp→(It→Hp→Prop)→Prop
def A1(X:Cx)(pins:List (Addr×Obj))(σ:St)(tg:Expr)(R:It→Hp→Prop)(k_:Value)(s2:Shared):Prop:=
 ∃(it:Addr) (fp:List Addr) (tn:Nat→Heap→Prop) (J:It) (H':Hp),k_= .ref it∧Inv X pins σ H' s2∧Turn X.prog X.w X.K tg J fp it tn∧tn 0 s2.heap∧(∀b∈fp,fK X pins H' b)∧R J H'
def PI(X:Cx)(tg iter:Expr)(wi:TI):Prop:=
 ∀(pins:List (Addr×Obj)) (s:Shared) (σ:St) (H:Hp) (R:It→Hp→Prop),Inv X pins σ H s→wi σ H R→
  wpAny (model X.prog X.w) X.A (eval iter X.env) (fun v s1=>wpAny (model X.prog X.w) X.A (pyIter v) (A1 X pins σ tg R) X.xe s1) X.xe s
theorem nv{M:Model}{A:Around}{E:Value→Shared→Prop}{s:Shared}{tg:Expr}{it:Addr}{u:Value}{o:Obj}{n:String}{vs:Array Value}{Q:Unit→Shared→Prop}(ho:s.heap.get? it=some o)(hc:o.cls= .type n)(hd:o.data= .fields vs)
    (hn:["enumerate","zip","dict_itemiterator","dict_reverseitemiterator","odict_iterator","itertools.zip_longest","itertools.pairwise"].contains n=false) (hQ:Q () s):wpAny M A (letOwnedTupleGo tg (.ref it) u) Q E s:=by
  unfold letOwnedTupleGo
  cases tg<;>first
    | exact wpAny_pure hQ
    | (cases u<;>first
        | exact wpAny_pure hQ
        | (refine wpAny_bind (wpAny_load ho ?_)
           rw[hc,hd]
           show wpAny M A (if (["enumerate","zip","dict_itemiterator","dict_reverseitemiterator","odict_iterator","itertools.zip_longest","itertools.pairwise"].contains n && vs[0]?==some (rawInt _))=true then _ else _) Q E s
           rw[if_neg (by intro h;rw[hn,Bool.false_and] at h;cases h)]
           exact wpAny_pure hQ))
def cJ(K:Frag)(a:Addr):It:=
 ⟨fun i H=> ∃xs x,aC K H a xs∧xs[i]?=some x,fun i H x H'=>H'=H∧ ∀xs,aC K H a xs→xs[i]?=some x,fun i H=> ∃xs,aC K H a xs∧xs.length≤i⟩
def jM(K:Frag)(a:Addr):It:=
 ⟨fun i H=> ∃xs x,aT K H a xs∧xs[i]?=some x,fun i H x H'=>H'=H∧ ∀xs,aT K H a xs→xs[i]?=some x,fun i H=> ∃xs,aT K H a xs∧xs.length≤i⟩
def ei(lo:Int)(n:Nat):It:=⟨fun i _=>i<n,fun i H x H'=>H'=H∧x= .int (lo+i),fun i _=>n≤i⟩
theorem sJ{P:Program}{w:World}{K:Frag}{tg:Expr}(a it:Addr):Turn P w K tg (cJ K a) [it] it (fun i h=>h.IsListIter it a i) where
 mem:=by simp
 obj:=fun i h st b hb=>by
  have e:b=it:=by simpa using hb
  subst e
  obtain⟨o,e,c,d⟩:=st
  exact⟨o,e,fun v z=>by rw[d] at z;cases z⟩
 keep:=fun i h h' st k=>st.at fun o e=>k it (by simp) o e
 item:=by
  intro X hP hw hK hc i pins s σ H E I hf st hg
  subst hP hw hK
  obtain⟨xs,x,hq,hx⟩:=hg
  obtain⟨its,rv,p,hz⟩:=I.list hq
  obtain⟨u,hu,ru⟩:=rv.get hx
  obtain⟨f0,f1,f2,f3,f4,f5⟩:=hf it (by simp)
  refine wpAny_pyNext_list_item st p.isList (x:=u) (by simpa using hu) fun h' dA sb=> ?_
  have I1:Inv X pins σ H {s with heap:=h'}:=I.turned (t':=s.toks) (fun b o hb e=> (sb.2 b hb).trans e) f0 f1 f3 f4 f5
  obtain⟨o,e,c,d⟩:=id dA
  exact⟨u,rfl,nv (s:={s with heap:=h'}) e c d (by decide) ⟨x,H,I1,ru,⟨rfl,fun ys hy=>by rw[I.AQ hy hq];exact hx⟩,dA,fun b hb=> (hf b hb).1⟩⟩
 done:=by
  intro X hP hw hK hc i pins s σ H E I hf st hg
  subst hP hw hK
  obtain⟨xs,hq,hx⟩:=hg
  obtain⟨its,rv,p,hz⟩:=I.list hq
  obtain⟨f0,f1,f2,f3,f4,f5⟩:=hf it (by simp)
  have hl:=rv.length
  exact wpAny_pyNext_list_end (I.ok.hd hc) st p.isList (by simp;omega) fun h' eb=> ⟨rfl,I.turned (t':=s.toks) (fun b o hb e=>eb b o hb e) f0 f1 f3 f4 f5⟩
 self:=fun _ _ _ _ _ st h=>wpAny_pyIter_listiter st h
theorem HH{P:Program}{w:World}{K:Frag}{tg:Expr}(a it:Addr):Turn P w K tg (jM K a) [it] it (fun i h=>h.IsTupleIter it a i) where
 mem:=by simp
 obj:=fun i h st b hb=>by
  have e:b=it:=by simpa using hb
  subst e
  obtain⟨o,e,c,d⟩:=st
  exact⟨o,e,fun v z=>by rw[d] at z;cases z⟩
 keep:=fun i h h' st k=>st.at fun o e=>k it (by simp) o e
 item:=by
  intro X hP hw hK hc i pins s σ H E I hf st hg
  subst hP hw hK
  obtain⟨xs,x,hq,hx⟩:=hg
  obtain⟨its,rv,p,hz⟩:=I.tuple hq
  obtain⟨u,hu,ru⟩:=rv.get hx
  obtain⟨f0,f1,f2,f3,f4,f5⟩:=hf it (by simp)
  refine wpAny_pyNext_tuple_item st (show s.heap.IsTuple a its.toArray from p) (x:=u) (by simpa using hu) fun h' dA sb=> ?_
  have I1:Inv X pins σ H {s with heap:=h'}:=I.turned (t':=s.toks) (fun b o hb e=> (sb.2 b hb).trans e) f0 f1 f3 f4 f5
  obtain⟨o,e,c,d⟩:=id dA
  exact⟨u,rfl,nv (s:={s with heap:=h'}) e c d (by decide) ⟨x,H,I1,ru,⟨rfl,fun ys hy=>by rw[I.vS hy hq];exact hx⟩,dA,fun b hb=> (hf b hb).1⟩⟩
 done:=by
  intro X hP hw hK hc i pins s σ H E I hf st hg
  subst hP hw hK
  obtain⟨xs,hq,hx⟩:=hg
  obtain⟨its,rv,p,hz⟩:=I.tuple hq
  obtain⟨f0,f1,f2,f3,f4,f5⟩:=hf it (by simp)
  have hl:=rv.length
  exact wpAny_pyNext_tuple_end (I.ok.hd hc) st (show s.heap.IsTuple a its.toArray from p) (by simp;omega) fun h' eb=> ⟨rfl,I.turned (t':=s.toks) (fun b o hb e=>eb b o hb e) f0 f1 f3 f4 f5⟩
 self:=fun _ _ _ _ _ st h=>wpAny_pyIter_tupleiter st h
theorem HI{P:Program}{w:World}{K:Frag}{tg:Expr}(it:Addr)(lo:Int)(n:Nat):Turn P w K tg (ei lo n) [it] it (fun i h=>IsRangeIter h it (lo+ (i:Nat)*1) ((n:Int) - (i:Nat)) 1) where
 mem:=by simp
 obj:=fun i h st b hb=>by
  have e:b=it:=by simpa using hb
  subst e
  exact⟨_,st,fun v z=>by
   have z':Data.fields _=Data.cell v:=z
   cases z'⟩
 keep:=fun i h h' st k=>k it (by simp) _ st
 item:=by
  intro X hP hw hK hc i pins s σ H E I hf st hg
  subst hP hw hK
  obtain⟨f0,f1,f2,f3,f4,f5⟩:=hf it (by simp)
  have W:=Walks.range (prog:=X.prog) (w:=X.w) (I.ok.hd hc) it lo 1 n
  refine W.item i s _ _ hg st fun v h' tk hv dA kk=> ?_
  obtain⟨t,rfl⟩:=hv
  have I1:Inv X pins σ H {s with heap:=h',toks:=tk}:=I.turned (fun b o hb e=>kk b o (by simpa using hb) e) f0 f1 f3 f4 f5
  refine⟨_,rfl,nv (s:={s with heap:=h',toks:=tk}) (n:="range_iterator") dA rfl rfl (by decide) ⟨.int (lo+i),H,I1,⟨t, ?_⟩,⟨rfl,rfl⟩,dA,fun b hb=> (hf b hb).1⟩⟩
  rw[Int.mul_one]
 done:=by
  intro X hP hw hK hc i pins s σ H E I hf st hg
  subst hP hw hK
  obtain⟨f0,f1,f2,f3,f4,f5⟩:=hf it (by simp)
  exact wpAny_pyNext_range_end (I.ok.hd hc) st (by have:n≤i:=hg;omega) fun h' eb=> ⟨rfl,I.turned (t':=s.toks) (fun b o hb e=>eb b o hb e) f0 f1 f3 f4 f5⟩
 self:=fun _ _ _ _ _ st h=>wpAny_pyIter_rangeiter st h
section
variable {X:Cx} {tg:Expr}
def pA(K:Frag)(tl:TE):TI:=fun σ H R=>tl σ H fun x H1=> ∃a,x= .ref a∧(∃xs,aC K H1 a xs)∧R (cJ K a) H1
def vW(K:Frag)(tl:TE):TI:=fun σ H R=>tl σ H fun x H1=> ∃a,x= .ref a∧(∃xs,aT K H1 a xs)∧R (jM K a) H1
theorem HJ{l:Expr}{tl:TE}(hl:PE X l tl):PI X tg l (pA X.K tl):=by
 intro pins s σ H R I h
 refine aJ (hl pins s σ H _ I h) fun v s1 ⟨x,H1,I1,r1,q1⟩=> ?_
 obtain⟨a,e,⟨xs,hq⟩,q⟩:=q1
 subst e
 cases r1
 obtain⟨its,rv,p,hz⟩:=I1.list hq
 refine wpAny_pyIter_list p.isList ?_
 refine⟨s1.heap.objs.size,[s1.heap.objs.size],_,_,H1,rfl,I1.kept (t':=s1.toks) fun b o e=>Heap.get?_push_of_some _ e,sJ a _,⟨_,Heap.get?_push_size _ rfl,rfl,rfl⟩,fun b hb=> ?_,q⟩
 have e:b=s1.heap.objs.size:=by simpa using hb
 subst e
 exact I1.kZ (Nat.le_refl _) (I1.aE.fresh (Nat.le_refl _))
theorem HK{l:Expr}{tl:TE}(hl:PE X l tl):PI X tg l (vW X.K tl):=by
 intro pins s σ H R I h
 refine aJ (hl pins s σ H _ I h) fun v s1 ⟨x,H1,I1,r1,q1⟩=> ?_
 obtain⟨a,e,⟨xs,hq⟩,q⟩:=q1
 subst e
 cases r1
 obtain⟨its,rv,p,hz⟩:=I1.tuple hq
 refine wpAny_pyIter_tuple (show s1.heap.IsTuple a its.toArray from p) ?_
 refine⟨s1.heap.objs.size,[s1.heap.objs.size],_,_,H1,rfl,I1.kept (t':=s1.toks) fun b o e=>Heap.get?_push_of_some _ e,HH a _,⟨_,Heap.get?_push_size _ rfl,rfl,rfl⟩,fun b hb=> ?_,q⟩
 have e:b=s1.heap.objs.size:=by simpa using hb
 subst e
 exact I1.kZ (Nat.le_refl _) (I1.aE.fresh (Nat.le_refl _))
theorem HL{pins:List (Addr×Obj)}{σ:St}{H:Hp}{s:Shared}{R:It→Hp→Prop}{E:Value→Shared→Prop}{lo hi:Int}{t u v:Tok}{tk:Nat}(I:Inv X pins σ H s)(h1: -(2 ^ 62)≤lo)(h2:lo<2 ^ 62)(h3: -(2 ^ 62)≤hi)(h4:hi<2 ^ 62)
  (q:R (ei lo (hi - lo).toNat) H):wpAny (model X.prog X.w) X.A (pyIter (.ref s.heap.objs.size)) (A1 X pins σ tg R) E {s with heap:=s.heap.push {cls:= .type "range",data:= .fields #[.int lo t, .int hi u, .int 1 v]},toks:=tk}:=by
 refine wpAny_pyIter_range (IsRange.new ..) (small_one h1 h2 h3 h4) ?_
 have I1:Inv X pins σ H {s with heap:=s.heap.push {cls:= .type "range",data:= .fields #[.int lo t, .int hi u, .int 1 v]},toks:=tk}:=I.kept fun b o e=>Heap.get?_push_of_some _ e
 refine⟨(s.heap.push {cls:= .type "range",data:= .fields #[.int lo t, .int hi u, .int 1 v]}).objs.size,[(s.heap.push {cls:= .type "range",data:= .fields #[.int lo t, .int hi u, .int 1 v]}).objs.size],_,_,H,rfl,
  I1.kept (t':=tk) fun b o e=>Heap.get?_push_of_some _ e,HI _ lo (hi - lo).toNat, ?_,fun b hb=> ?_,q⟩
 ·have e1:lo+ ((0:Nat):Int)*1=lo:=by simp
  have e2:(((hi - lo).toNat:Nat):Int) - ((0:Nat):Int)=Builtin.Range.rangeSize lo hi 1:=by rw[rangeSize_one];split<;>omega
  show IsRangeIter _ _ (lo+ ((0:Nat):Int)*1) ((((hi - lo).toNat:Nat):Int) - ((0:Nat):Int)) 1
  rw[e1,e2]
  exact Heap.get?_push_size _ rfl
 ·have e:b=(s.heap.push {cls:= .type "range",data:= .fields #[.int lo t, .int hi u, .int 1 v]}).objs.size:=by simpa using hb
  subst e
  exact I1.kZ (Nat.le_refl _) (I1.aE.fresh (Nat.le_refl _))
def A2(ta:TA):TI:=fun σ H R=>ta σ H fun vs H1=> ∃j:Int,vs=[.int j]∧ -(2 ^ 62)≤j∧j<2 ^ 62∧R (ei 0 j.toNat) H1
def HM(ta:TA):TI:=fun σ H R=>ta σ H fun vs H1=> ∃i j:Int,vs=[.int i, .int j]∧(-(2 ^ 62)≤i∧i<2 ^ 62∧ -(2 ^ 62)≤j∧j<2 ^ 62)∧R (ei i (j - i).toNat) H1
theorem HN{a:Expr}{ta:TA}{p pos:Pos}(hg:Gl X "range")(hm:X.mg "range"=none)(ha:PA X [a] ta)(hs:starEach [a] X.env=[(false,eval a X.env)]:=by rfl):PI X tg (.Call (.Name "range" p) [a] [] pos) (A2 ta):=by
 intro pins s σ H R I h
 refine Call_ (nu I hg hm boot_range (PyProof.Rows.callWith_type1 (aJ (ha pos pins s σ H _ I h) fun us s1 ⟨vs,H1,I1,r1,q1⟩=> ?_) hs rfl))
 obtain⟨j,e,q1,q2,q⟩:=q1
 subst e
 cases r1 with
 | cons r rr=>
  cases rr
  obtain⟨t,rfl⟩:=r
  exact call_range_1 (HL I1 (by omega) (by omega) q1 q2 (by simpa using q))
def vX(wi:TI)(g:TG)(tb:TS):TS:=fun D σ H=>wi σ H fun J H1=> ∃W:Nat→Nat→St→Hp→Prop,(∃m,W 0 m σ H1)∧ ∀i m σ H,W i m σ H→
 (J.stop i H∧D.nx σ H)∨(J.go i H∧ ∃N:St→Hp→Prop,(∀σ' H',N σ' H'→ ∃m',m'<m∧W (i+1) m' σ' H')∧ ∀x H',J.cZ i H x H'→g x σ H' fun σ2 H2=>tb {D with nx:=N,ct:=N,bk:=D.nx} σ2 H2)
def ny(fp:List Addr)(h:Heap):List (Addr×Obj):=fp.filterMap fun b=> (h.get? b).map fun o=> (b,o)
theorem sM{fp:List Addr}{h:Heap}{b:Addr}{o:Obj}(hb:b∈fp)(e:h.get? b=some o):(b,o)∈ny fp h:=List.mem_filterMap.mpr ⟨b,hb,by rw[e];rfl⟩
theorem HP{fp:List Addr}{h:Heap}{p:Addr×Obj}(hp:p∈ny fp h):p.1∈fp∧h.get? p.1=some p.2:=by
 obtain⟨b,hb,e⟩:=List.mem_filterMap.mp hp
 cases q:h.get? b with
 | none=>rw[q] at e;cases e
 | some o=>
  rw[q] at e
  have e':(b,o)=p:=Option.some.inj e
  subst e'
  exact⟨hb,q⟩
theorem Inv.pinned{pins:List (Addr×Obj)}{σ:St}{H:Hp}{s:Shared}{fp:List Addr}(I:Inv X pins σ H s)(hf: ∀b∈fp,fK X pins H b)(ho: ∀b∈fp,∃o,s.heap.get? b=some o∧ ∀v,o.data≠ .cell v):Inv X (pins++ny fp s.heap) σ H s:=
 I.nt fun p hp=> (List.mem_append.mp hp).elim (fun z=>I.pin p (List.mem_append_right _ z)) fun z=>by
  obtain⟨hb,e⟩:=HP z
  obtain⟨f0,f1,f2,_⟩:=hf p.1 hb
  obtain⟨o,e',d⟩:=ho p.1 hb
  rw[e] at e';cases e'
  exact⟨e,f0,f1,f2,d⟩
theorem Inv.vY{pins pl:List (Addr×Obj)}{σ:St}{H:Hp}{s:Shared}(I:Inv X (pins++pl) σ H s):Inv X pins σ H s:=I.nt fun p hp=>I.pin p (List.mem_append_right _ (List.mem_append_left _ hp))
theorem HQ{iter:Expr}{body:List Stmt}{wi:TI}{g:TG}{tb:TS}{pos:Pos}(hp:PassesOwn (model X.prog X.w) X.A X.env X.xe)(hc:X.calm=true)(hi:PI X tg iter wi)(hg:PG X tg g)(hb:dz X body tb)
  (hs: ∀x,foldedSetIterable iter X.env x=pure x:=by intro _;rfl):PS X (.For tg iter body [] pos) (vX wi g tb):=by
 intro pins s σ H D I h
 refine wpAny_For (aJ (hi pins s σ H _ I h) fun v s1 h1=>aJ h1 fun k_ s2 h2=> ?_) hs
 obtain⟨it,fp,tn,J,H2,e,I2,T,pB,f2,W,⟨m0,w0⟩,turn⟩:=h2
 subst e
 have la: ∀{H':Hp},(∀b∈fp,H' b=none)→ ∀b∈fp,fK X pins H' b:=fun hn b hb=> ⟨hn b hb,(f2 b hb).2⟩
 refine codeAny_forLoop_any (fun n s'=> ∃i σ' H',Inv X pins σ' H' s'∧tn i s'.heap∧(∀b∈fp,H' b=none)∧W i n σ' H') ?_ m0 ⟨0,σ,H2,I2,pB,fun b hb=> (f2 b hb).1,w0⟩
 rintro n s3 ⟨i,σ3,H3,I3,A3,A4,w3⟩
 rcases turn i n σ3 H3 w3 with⟨stop,qn⟩ | ⟨go,N,hN,step⟩
 ·refine wpAny_passesOwn hp (aJ (T.done X rfl rfl rfl hc i pins s3 σ3 H3 X.xe I3 (la A4) A3 stop) fun r s4 ⟨hr,I4⟩=> ?_)
  subst hr
  exact wpAny_execs_nil ⟨σ3,H3,I4,qn⟩
 ·refine wpAny_passesOwn hp (aJ (T.item X rfl rfl rfl hc i pins s3 σ3 H3 X.xe I3 (la A4) A3 go) fun r s4 ⟨u,hr,h4⟩=> ?_)
  subst hr
  refine wpAny_passesOwn hp (aJ h4 fun _ s5 ⟨x,H5,I5,r5,y5,lb,vZ⟩=> ?_)
  have pF:=I5.pinned (la vZ) (T.obj _ _ lb)
  refine wpAny_passesOwn hp (aJ (hg _ s5 σ3 H5 x u _ pF r5 (step x H5 y5)) fun _ s6 ⟨σ6,H6,I6,q6⟩=> ?_)
  refine wpAny_passesOwn hp (aJ (hb _ s6 σ6 H6 _ I6 q6) fun f s7 q7=> ?_)
  have again: ∀{σ7:St} {H7:Hp},Inv X (pins++ny fp s5.heap) σ7 H7 s7→N σ7 H7→ ∃m,m<n∧ ∃i σ' H',Inv X pins σ' H' s7∧tn i s7.heap∧(∀b∈fp,H' b=none)∧W i m σ' H':=fun {σ7 H7} I7 n7=>by
   obtain⟨m',hm,w7⟩:=hN σ7 H7 n7
   refine⟨m',hm,i+1,σ7,H7,I7.vY,T.keep _ _ _ lb fun b hb o e=> (I7.pin (b,o) (List.mem_append_right _ (List.mem_append_right _ (sM hb e)))).1,fun b hb=> ?_,w7⟩
   obtain⟨o,e,d⟩:=T.obj _ _ lb b hb
   exact(I7.pin (b,o) (List.mem_append_right _ (List.mem_append_right _ (sM hb e)))).2.1
  cases f with
  | next=>obtain⟨σ7,H7,I7,n7⟩:=q7;exact again I7 n7
  | cont=>obtain⟨σ7,H7,I7,n7⟩:=q7;exact again I7 n7
  | brk=>obtain⟨σ7,H7,I7,q7⟩:=q7;exact⟨σ7,H7,I7.vY,q7⟩
  | ret v=>obtain⟨x7,σ7,H7,I7,r7,q7⟩:=q7;exact⟨x7,σ7,H7,I7.vY,r7,q7⟩
end
theorem HR{lo:Int}{n:Nat}{g:TG}{tb:TS}{D:Ends}{σ:St}{H:Hp}(Pv:Nat→St→Hp→Prop)(h0:Pv 0 σ H)
  (hs: ∀i σ H,i<n→Pv i σ H→g (.int (lo+i)) σ H fun σ2 H2=>tb {D with nx:=Pv (i+1),ct:=Pv (i+1),bk:=D.nx} σ2 H2) (hd: ∀σ H,Pv n σ H→D.nx σ H):
  ∃W:Nat→Nat→St→Hp→Prop,(∃m,W 0 m σ H)∧ ∀i m σ H,W i m σ H→
   ((ei lo n).stop i H∧D.nx σ H)∨((ei lo n).go i H∧ ∃N:St→Hp→Prop,(∀σ' H',N σ' H'→ ∃m',m'<m∧W (i+1) m' σ' H')∧ ∀x H',(ei lo n).cZ i H x H'→g x σ H' fun σ2 H2=>tb {D with nx:=N,ct:=N,bk:=D.nx} σ2 H2):=by
 refine⟨fun i m σ H=>m=n - i∧i≤n∧Pv i σ H,⟨n,by simp,Nat.zero_le _,h0⟩, ?_⟩
 rintro i m σ H ⟨rfl,hi,p⟩
 by_cases aQ:i<n
 ·refine .inr ⟨aQ,Pv (i+1),fun σ' H' p'=> ⟨n - (i+1),by omega,rfl,aQ,p'⟩,fun x H' y=> ?_⟩
  obtain⟨e,y⟩:=y
  subst e y
  exact hs i σ _ aQ p
 ·have e:i=n:=by omega
  subst e
  exact .inl ⟨Nat.le_refl _,hd σ H p⟩
abbrev R2:=V→V→Hp→VK→Prop
def ba(X:Cx)(f:Value→Value→Sem Value)(r:R2):Prop:=
 ∀(pins:List (Addr×Obj)) (s:Shared) (σ:St) (H:Hp) (x y:V) (v u:Value) (Q:VK),Inv X pins σ H s→RelV x v→RelV y u→r x y H Q→
  wpAny (model X.prog X.w) X.A (f v u) (EP X pins σ Q) X.xe s
def sN(X:Cx)(f:Value→Sem Value)(r:V→Hp→VK→Prop):Prop:=
 ∀(pins:List (Addr×Obj)) (s:Shared) (σ:St) (H:Hp) (x:V) (v:Value) (Q:VK),Inv X pins σ H s→RelV x v→r x H Q→
  wpAny (model X.prog X.w) X.A (f v) (EP X pins σ Q) X.xe s
def bT(X:Cx)(f:Value)(r:List V→Hp→VK→Prop):Prop:=
 ∀(pins:List (Addr×Obj)) (s:Shared) (σ:St) (H:Hp) (xs:List V) (us:List Value) (Q:VK),Inv X pins σ H s→Vals xs us→r xs H Q→
  wpAny (model X.prog X.w) X.A (call f us) (EP X pins σ Q) X.xe s
def HS(X:Cx)(r:V→Hp→(Bool→Hp→Prop)→Prop):Prop:=
 ∀(pins:List (Addr×Obj)) (s:Shared) (σ:St) (H:Hp) (x:V) (v:Value) (Q:Bool→Hp→Prop),Inv X pins σ H s→RelV x v→r x H Q→
  wpAny (model X.prog X.w) X.A (truthy v) (TP X pins σ Q) X.xe s
def dt(r:R2)(ta tb:TE):TE:=fun σ H Q=>ta σ H fun x H1=>tb σ H1 fun y H2=>r x y H2 Q
def A5(r:V→Hp→VK→Prop)(ta:TE):TE:=fun σ H Q=>ta σ H fun x H1=>r x H1 Q
def rI(C:Int→Int→Prop)(g:Int→Int→V):R2:=fun x y H Q=> ∃i j,x= .int i∧y= .int j∧C i j∧Q (g i j) H
def i7(g:Int→Int→V):R2:=fun x y H Q=> ∃i j,x= .int i∧y= .int j∧Q (g i j) H
def rU(g:Int→V):V→Hp→VK→Prop:=fun x H Q=> ∃i,x= .int i∧Q (g i) H
section
variable {X:Cx} {a b c:Expr} {ta tb tc:TE} {pos:Pos}
theorem v7(ha:PE X a ta)(hb:PE X b tb){pins:List (Addr×Obj)}{s:Shared}{σ:St}{H:Hp}{R:V→V→Hp→Prop}(I:Inv X pins σ H s)
  (h:ta σ H fun x H1=>tb σ H1 fun y H2=>R x y H2) {Q:Value→Shared→Prop} {f:Value→Value→Sem Value}
  (hf: ∀v u s2 x y H2,Inv X pins σ H2 s2→RelV x v→RelV y u→R x y H2→wpAny (model X.prog X.w) X.A (f v u) Q X.xe s2):
  wpAny (model X.prog X.w) X.A (eval a X.env) (fun v s₁=>wpAny (model X.prog X.w) X.A (eval b X.env) (fun u s₂=>wpAny (model X.prog X.w) X.A (f v u) Q X.xe s₂) X.xe s₁) X.xe s:=by
 refine aJ (ha pins s σ H _ I h) fun v s1 ⟨x,H1,I1,r1,q1⟩=> ?_
 refine aJ (hb pins s1 σ H1 _ I1 q1) fun u s2 ⟨y,H2,I2,r2,q2⟩=> ?_
 exact hf v u s2 x y H2 I2 r1 r2 q2
theorem HU{op:Operator}{r:R2}(ho:ba X (binaryOp op) r)(ha:PE X a ta)(hb:PE X b tb):PE X (.BinOp a op b pos) (dt r ta tb):=by
 intro pins s σ H Q I h
 exact wpAny_BinOp (v7 ha hb I h fun v u s2 x y H2 I2 rx ry q=>ho pins s2 σ H2 x y v u Q I2 rx ry q)
theorem HV{op:UnaryOp}{r:V→Hp→VK→Prop}(ho:sN X (unaryOp op) r)(ha:PE X a ta):PE X (.UnaryOp op a pos) (A5 r ta):=by
 intro pins s σ H Q I h
 exact UnaryOp_ (aJ (ha pins s σ H _ I h) fun v s1 ⟨x,H1,I1,r1,q1⟩=>ho pins s1 σ H1 x v Q I1 r1 q1)
theorem sO{f:Value→Value→Sem Value}{C:Int→Int→Prop}{g:Int→Int→Int}
  (rule: ∀(i j:Int) (t u:Tok) (s:Shared) (Q:Value→Shared→Prop) (E:Value→Shared→Prop),C i j→Q (.int (g i j) s.toks) {s with toks:=s.toks+1}→wpAny (model X.prog X.w) X.A (f (.int i t) (.int j u)) Q E s):
  ba X f (rI C fun i j=> .int (g i j)):=by
 intro pins s σ H x y v u Q I rx ry h
 obtain⟨i,j,rfl,rfl,hc,q⟩:=h
 obtain⟨t,rfl⟩:=rx
 obtain⟨t',rfl⟩:=ry
 exact rule i j t t' s _ _ hc ⟨.int (g i j),H,I.tok _,⟨_,rfl⟩,q⟩
theorem A6{f:Value→Value→Sem Value}{g:Int→Int→Int}
  (rule: ∀(i j:Int) (t u:Tok) (s:Shared) (Q:Value→Shared→Prop) (E:Value→Shared→Prop),Q (.int (g i j) s.toks) {s with toks:=s.toks+1}→wpAny (model X.prog X.w) X.A (f (.int i t) (.int j u)) Q E s):
  ba X f (i7 fun i j=> .int (g i j)):=by
 intro pins s σ H x y v u Q I rx ry h
 obtain⟨i,j,rfl,rfl,q⟩:=h
 obtain⟨t,rfl⟩:=rx
 obtain⟨t',rfl⟩:=ry
 exact rule i j t t' s _ _ ⟨.int (g i j),H,I.tok _,⟨_,rfl⟩,q⟩
theorem sP{f:Value→Value→Sem Value}{g:Int→Int→Bool}
  (rule: ∀(i j:Int) (t u:Tok) (s:Shared) (Q:Value→Shared→Prop) (E:Value→Shared→Prop),Q (.bool (g i j)) s→wpAny (model X.prog X.w) X.A (f (.int i t) (.int j u)) Q E s):
  ba X f (i7 fun i j=> .bl (g i j)):=by
 intro pins s σ H x y v u Q I rx ry h
 obtain⟨i,j,rfl,rfl,q⟩:=h
 obtain⟨t,rfl⟩:=rx
 obtain⟨t',rfl⟩:=ry
 exact rule i j t t' s _ _ ⟨.bl (g i j),H,I,rfl,q⟩
def A7(i j:Int):Prop:=0<j∧j<1073741824
def A8(i j:Int):Prop:=0≤j∧j≤1000000∧i.natAbs<2 ^ 64
def sQ(i j:Int):Prop:=(-(2 ^ 64) <i∧i<2 ^ 64)∨(-(2 ^ 64) <j∧j<2 ^ 64)
theorem sQ.ok{i j:Int}(h:sQ i j):IntMulOk i j:=by
 rcases h with⟨h1,h2⟩ | ⟨h1,h2⟩
 ·exact .of_left (intBits_le_64 h1 h2)
 ·exact .of_right (intBits_le_64 h1 h2)
theorem HW:ba X (binaryOp .Add) (i7 fun i j=> .int (i+j)):=A6 fun _ _ _ _ _ _ _ q=>add_int q
theorem HX:ba X (binaryOp .Sub) (i7 fun i j=> .int (i - j)):=A6 fun _ _ _ _ _ _ _ q=>sub_int q
theorem HY:ba X (binaryOp .Mult) (rI sQ fun i j=> .int (i*j)):=sO fun _ _ _ _ _ _ _ hc q=>mul_int q hc.ok
theorem HZ:ba X (binaryOp .FloorDiv) (rI A7 fun i j=> .int (i / j)):=sO fun i j _ _ _ _ _ hc q=>by
 have h1:(0:Int) <j:=hc.1
 have h2:j<1073741824:=hc.2
 exact floordiv_int (by omega) (by rw[Int.fdiv_eq_ediv_of_nonneg i (by omega)];exact q) (.inl (PyProof.noPylong_small (by omega)))
theorem H0:ba X (binaryOp .Mod) (rI (fun _ j=>0<j) fun i j=> .int (i % j)):=sO fun i j _ _ _ _ _ hc q=>by
 have h1:(0:Int) <j:=hc
 exact mod_int' (by omega) (by rw[Int.fmod_eq_emod_of_nonneg i (by omega)];exact q)
theorem H9:ba X (binaryOp .Pow) (rI A8 fun i j=> .int (i ^ j.toNat)):=sO fun _ _ _ _ _ _ _ hc q=>pow_int_small hc.1 hc.2.1 hc.2.2 q
theorem H_{f:Value→Sem Value}{g:Int→Int}
  (rule: ∀(i:Int) (t:Tok) (s:Shared) (Q:Value→Shared→Prop) (E:Value→Shared→Prop),Q (.int (g i) s.toks) {s with toks:=s.toks+1}→wpAny (model X.prog X.w) X.A (f (.int i t)) Q E s):
  sN X f (rU fun i=> .int (g i)):=by
 intro pins s σ H x v Q I rx h
 obtain⟨i,rfl,q⟩:=h
 obtain⟨t,rfl⟩:=rx
 exact rule i t s _ _ ⟨.int (g i),H,I.tok _,⟨_,rfl⟩,q⟩
theorem Ia:sN X (unaryOp .USub) (rU fun i=> .int (-i)):=H_ fun _ _ _ _ _ q=>neg_int q
end
def lg:V→V→Bool
 | .aB, .aB=>true | .aB, .int _=>true | .int _, .aB=>true | .aB, .bl _=>true | .bl _, .aB=>true | .aB, .str _=>true | .str _, .aB=>true
 | .int _, .int _=>true | .bl _, .bl _=>true | .str _, .str _=>true | .d_ _, .d_ _=>true
 | .int _, .str _=>true | .str _, .int _=>true | .bl _, .str _=>true | .str _, .bl _=>true
 | _,_=>false
def Ib:R2:=fun x y H Q=>lg x y=true∧Q (.bl (decide (x=y))) H
def Ic:R2:=fun x y H Q=>lg x y=true∧Q (.bl (!decide (x=y))) H
theorem A9{i j:Int}:decide (V.int i=V.int j)=(i==j):=by
 rw[Bool.eq_iff_iff]
 simp
theorem A_{i j:Bool}:decide (V.bl i=V.bl j)=(i==j):=by
 rw[Bool.eq_iff_iff]
 simp
theorem sR{i j:Str}:decide (V.str i=V.str j)=(i==j):=by
 rw[Bool.eq_iff_iff]
 simp
theorem Ba{i j:Array UInt8}:decide (V.d_ i=V.d_ j)=(i.toList==j.toList):=by
 rw[Bool.eq_iff_iff]
 cases i
 cases j
 simp
section
variable {X:Cx} {a b c:Expr} {ta tb tc:TE} {pos:Pos}
theorem bU{pins:List (Addr×Obj)}{σ:St}{H:Hp}{s:Shared}{Q:VK}{k k':Bool}(I:Inv X pins σ H s)(q:Q (.bl k) H)(e:k=k'):EP X pins σ Q (.bool k') s:=by
 subst e
 exact⟨.bl k,H,I,rfl,q⟩
theorem Ie:ba X (compareOp .Eq) Ib:=by
 intro pins s σ H x y v u Q I rx ry h
 obtain⟨hs,q⟩:=h
 cases x with
 | aB=>
  cases rx
  cases y with
  | aB=>cases ry;exact PySem.EqNone.eq_none_none (bU I q (by simp))
  | bl j=>cases ry;exact PySem.EqNone.eq_none_bool (bU I q (by simp))
  | int j=>obtain⟨t',rfl⟩:=ry;exact PySem.EqNone.eq_none_int (bU I q (by simp))
  | str j=>obtain⟨t',rfl⟩:=ry;exact PySem.EqNone.eq_none_str (bU I q (by simp))
  | _=>exact absurd (show false=true from hs) Bool.false_ne_true
 | bl i=>
  cases rx
  cases y with
  | aB=>cases ry;exact PySem.EqNone.eq_bool_none (bU I q (by simp))
  | bl j=>cases ry;exact eq_bool (bU I q A_)
  | str j=>obtain⟨t',rfl⟩:=ry;exact PySem.EqMixed.eq_bool_str (bU I q (by simp))
  | _=>exact absurd (show false=true from hs) Bool.false_ne_true
 | int i=>
  obtain⟨t,rfl⟩:=rx
  cases y with
  | aB=>cases ry;exact PySem.EqNone.eq_int_none (bU I q (by simp))
  | int j=>obtain⟨t',rfl⟩:=ry;exact eq_int (bU I q A9)
  | str j=>obtain⟨t',rfl⟩:=ry;exact PySem.EqMixed.eq_int_str (bU I q (by simp))
  | _=>exact absurd (show false=true from hs) Bool.false_ne_true
 | str i=>
  obtain⟨t,rfl⟩:=rx
  cases y with
  | aB=>cases ry;exact PySem.EqNone.eq_str_none (bU I q (by simp))
  | bl j=>cases ry;exact PySem.EqMixed.eq_str_bool (bU I q (by simp))
  | int j=>obtain⟨t',rfl⟩:=ry;exact PySem.EqMixed.eq_str_int (bU I q (by simp))
  | str j=>obtain⟨t',rfl⟩:=ry;exact eq_str (bU I q sR)
  | _=>exact absurd (show false=true from hs) Bool.false_ne_true
 | d_ i=>
  obtain⟨t,rfl⟩:=rx
  cases y with
  | d_ j=>obtain⟨t',rfl⟩:=ry;exact PySem.W.eq_bytes (bU I q Ba)
  | _=>exact absurd (show false=true from hs) Bool.false_ne_true
 | _=>cases y<;>exact absurd (show false=true from hs) Bool.false_ne_true
theorem Ig:ba X (compareOp .NotEq) Ic:=by
 intro pins s σ H x y v u Q I rx ry h
 obtain⟨hs,q⟩:=h
 cases x with
 | aB=>
  cases rx
  cases y with
  | aB=>cases ry;exact PySem.EqNone.ne_none_none (bU I q (by simp))
  | bl j=>cases ry;exact PySem.EqNone.ne_none_bool (bU I q (by simp))
  | int j=>obtain⟨t',rfl⟩:=ry;exact PySem.EqNone.ne_none_int (bU I q (by simp))
  | str j=>obtain⟨t',rfl⟩:=ry;exact PySem.EqNone.ne_none_str (bU I q (by simp))
  | _=>exact absurd (show false=true from hs) Bool.false_ne_true
 | bl i=>
  cases rx
  cases y with
  | aB=>cases ry;exact PySem.EqNone.ne_bool_none (bU I q (by simp))
  | bl j=>cases ry;exact ne_bool (bU I q (congrArg not A_))
  | str j=>obtain⟨t',rfl⟩:=ry;exact PySem.EqMixed.ne_bool_str (bU I q (by simp))
  | _=>exact absurd (show false=true from hs) Bool.false_ne_true
 | int i=>
  obtain⟨t,rfl⟩:=rx
  cases y with
  | aB=>cases ry;exact PySem.EqNone.ne_int_none (bU I q (by simp))
  | int j=>obtain⟨t',rfl⟩:=ry;exact ne_int (bU I q (congrArg not A9))
  | str j=>obtain⟨t',rfl⟩:=ry;exact PySem.EqMixed.ne_int_str (bU I q (by simp))
  | _=>exact absurd (show false=true from hs) Bool.false_ne_true
 | str i=>
  obtain⟨t,rfl⟩:=rx
  cases y with
  | aB=>cases ry;exact PySem.EqNone.ne_str_none (bU I q (by simp))
  | bl j=>cases ry;exact PySem.EqMixed.ne_str_bool (bU I q (by simp))
  | int j=>obtain⟨t',rfl⟩:=ry;exact PySem.EqMixed.ne_str_int (bU I q (by simp))
  | str j=>obtain⟨t',rfl⟩:=ry;exact ne_str (bU I q (congrArg not sR))
  | _=>exact absurd (show false=true from hs) Bool.false_ne_true
 | d_ i=>
  obtain⟨t,rfl⟩:=rx
  cases y with
  | d_ j=>obtain⟨t',rfl⟩:=ry;exact PySem.W.ne_bytes (bU I q (congrArg not Ba))
  | _=>exact absurd (show false=true from hs) Bool.false_ne_true
 | _=>cases y<;>exact absurd (show false=true from hs) Bool.false_ne_true
theorem Ih:ba X (compareOp .Lt) (i7 fun i j=> .bl (decide (i<j))):=sP fun _ _ _ _ _ _ _ q=>lt_int q
theorem Ii:ba X (compareOp .LtE) (i7 fun i j=> .bl (decide (i≤j))):=sP fun _ _ _ _ _ _ _ q=>le_int q
theorem Ij:ba X (compareOp .Gt) (i7 fun i j=> .bl (decide (j<i))):=sP fun _ _ _ _ _ _ _ q=>gt_int q
theorem Ik:ba X (compareOp .GtE) (i7 fun i j=> .bl (decide (j≤i))):=sP fun _ _ _ _ _ _ _ q=>ge_int q
theorem Il:ba X (compareOp .In) (fun x y H Q=> ∃i j,x= .str i∧y= .str j∧Q (.bl (!(Builtin.Str.occurrences j i 0 j.length 1).isEmpty)) H):=by
 intro pins s σ H x y v u Q I rx ry h
 obtain⟨i,j,rfl,rfl,q⟩:=h
 obtain⟨t,rfl⟩:=rx
 obtain⟨t',rfl⟩:=ry
 exact in_str (bU I q rfl)
theorem Im:ba X (compareOp .Is) (fun x y H Q=>y= .aB∧Q (.bl (decide (x= .aB))) H):=by
 intro pins s σ H x y v u Q I rx ry h
 obtain⟨rfl,q⟩:=h
 cases ry
 refine is_none_gen (bU I q ?_)
 cases x<;>first
  | (cases rx;rfl)
  | (obtain⟨t,rfl⟩:=rx;rfl)
theorem Io:ba X (compareOp .IsNot) (fun x y H Q=>y= .aB∧Q (.bl (!decide (x= .aB))) H):=by
 intro pins s σ H x y v u Q I rx ry h
 obtain⟨rfl,q⟩:=h
 cases ry
 refine isnot_none_gen (bU I q ?_)
 cases x<;>first
  | (cases rx;rfl)
  | (obtain⟨t,rfl⟩:=rx;rfl)
theorem Ip:ba X (compareOp .NotIn) (fun x y H Q=> ∃i j,x= .str i∧y= .str j∧Q (.bl (!(!(Builtin.Str.occurrences j i 0 j.length 1).isEmpty))) H):=by
 intro pins s σ H x y v u Q I rx ry h
 obtain⟨i,j,rfl,rfl,q⟩:=h
 obtain⟨t,rfl⟩:=rx
 obtain⟨t',rfl⟩:=ry
 exact notIn_str (bU I q rfl)
theorem ba.or{f:Value→Value→Sem Value}{r r':R2}(h:ba X f r)(h':ba X f r'):ba X f (fun x y H Q=>r x y H Q∨r' x y H Q):=by
 intro pins s σ H x y v u Q I rx ry q
 rcases q with q | q
 ·exact h pins s σ H x y v u Q I rx ry q
 ·exact h' pins s σ H x y v u Q I rx ry q
theorem Iq{op:CmpOp}{r:R2}(ho:ba X (compareOp op) r)(ha:PE X a ta)(hb:PE X b tb)(hm:behindInMarks op b=false):PE X (.Compare a [op] [b] pos) (dt r ta tb):=by
 intro pins s σ H Q I h
 exact wpAny_Compare1 (v7 ha hb I h fun v u s2 x y H2 I2 rx ry q=>ho pins s2 σ H2 x y v u Q I2 rx ry q) hm
def jN(t:TE):TT:=fun σ H Q=>t σ H fun x H'=> ∃k,x= .bl k∧Q k H'
theorem Ir{op:CmpOp}{r:R2}(ho:ba X (compareOp op) r)(ha:PE X a ta)(hb:PE X b tb)(hm:behindInMarks op b=false):PT X (.Compare a [op] [b] pos) (jN (dt r ta tb)):=by
 intro pins s σ H Q I h
 refine wpAny_isTrue_Compare1 (aJ (ha pins s σ H _ I h) fun v s1 ⟨x,H1,I1,r1,q1⟩=>aJ (hb pins s1 σ H1 _ I1 q1) fun u s2 ⟨y,H2,I2,r2,q2⟩=>
  aJ (ho pins s2 σ H2 x y v u _ I2 r1 r2 q2) fun c s3 ⟨z,H3,I3,r3,k,e,q3⟩=> ?_) hm
 subst e
 cases r3
 exact wpAny_truthy_bool ⟨H3,I3,q3⟩
def nz(r r':R2)(ta tb tc:TE):TE:=fun σ H Q=>ta σ H fun x H1=>tb σ H1 fun y H2=>r x y H2 fun z H3=> ∃k,z= .bl k∧
 (if k=true then tc σ H3 fun w' H4=>r' y w' H4 Q else Q (.bl false) H3)
theorem Iu{op cy:CmpOp}{r r':R2}(ho:ba X (compareOp op) r)(dh:ba X (compareOp cy) r')(ha:PE X a ta)(hb:PE X b tb)(hc:PE X c tc)
  (hm:lastMarks [op,cy] [b,c]=false:=by with_unfolding_all rfl):PE X (.Compare a [op,cy] [b,c] pos) (nz r r' ta tb tc):=by
 intro pins s σ H Q I h
 refine Compare_chain (aJ (ha pins s σ H _ I h) fun v s1 ⟨x,H1,I1,r1,q1⟩=>chain_link (aJ (hb pins s1 σ H1 _ I1 q1) fun u s2 ⟨y,H2,I2,r2,q2⟩=>
  aJ (ho pins s2 σ H2 x y v u _ I2 r1 r2 q2) fun d s3 ⟨z,H3,I3,r3,k,e,q3⟩=> ?_)) hm
 subst e
 cases r3
 refine wpAny_truthy_bool ?_
 cases k with
 | false=>exact ite_ff ⟨.bl false,H3,I3,rfl,q3⟩
 | true=>exact ite_tt (chain_last (aJ (hc pins s3 σ H3 _ I3 q3) fun w' s4 ⟨z',H4,I4,r4,q4⟩=>dh pins s4 σ H4 y z' u w' Q I4 r2 r4 q4))
theorem Iv{op cy:CmpOp}{r r':R2}(ho:ba X (compareOp op) r)(dh:ba X (compareOp cy) r')(ha:PE X a ta)(hb:PE X b tb)(hc:PE X c tc)
  (hm:lastMarks [op,cy] [b,c]=false:=by with_unfolding_all rfl):PT X (.Compare a [op,cy] [b,c] pos) (jN (nz r r' ta tb tc)):=by
 intro pins s σ H Q I h
 refine isTrue_chain (aJ (ha pins s σ H _ I h) fun v s1 ⟨x,H1,I1,r1,q1⟩=>test_link (aJ (hb pins s1 σ H1 _ I1 q1) fun u s2 ⟨y,H2,I2,r2,q2⟩=>
  aJ (ho pins s2 σ H2 x y v u _ I2 r1 r2 q2) fun d s3 ⟨z,H3,I3,r3,k,e,q3⟩=> ?_)) hm
 subst e
 cases r3
 refine wpAny_truthy_bool ?_
 cases k with
 | false=>
  obtain⟨k',e',q'⟩:=q3
  cases e'
  exact ite_ff ⟨H3,I3,q'⟩
 | true=>
  refine ite_tt (test_last (aJ (hc pins s3 σ H3 _ I3 q3) fun w' s4 ⟨z',H4,I4,r4,q4⟩=>aJ (dh pins s4 σ H4 y z' u w' _ I4 r2 r4 q4) fun d' s5 ⟨z2,H5,I5,r5,k2,e2,q5⟩=> ?_))
  subst e2
  cases r5
  exact wpAny_truthy_bool ⟨H5,I5,q5⟩
def Bb(K:Frag)(x:V)(H:Hp)(k:Bool):Prop:=
 match x with
 | .aB=>k=false
 | .bl b=>k=b
 | .int i=>k=(i !=0)
 | .str y=>y.length≤sizeLine∧k=((y.length:Int) !=0)
 | .d_ y=>y.size≤sizeLine∧k=((y.size:Int) !=0)
 | .ref p=> (∃xs,aC K H p xs∧k= !xs.isEmpty)∨(∃xs,aT K H p xs∧k= !xs.isEmpty)∨ ∃ar,H p=some (.dK ar)∧k= !ar.isEmpty
 | _=>False
theorem Iw{κ:Type}{ar:List (κ×V)}{vs:List (κ×Value)}(r:KV ar vs):(!vs.isEmpty)= !ar.isEmpty:=by
 cases r<;>rfl
theorem Bc{xs:List V}{its:List Value}(r:Vals xs its):(!its.toArray.isEmpty)= !xs.isEmpty:=by
 cases r<;>simp
theorem jO:(sizeLine:Nat) <2 ^ 63:=by rw[sizeLine_eq];decide
theorem Bd:HS X (fun x H Q=> ∃k,Bb X.K x H k∧Q k H):=by
 intro pins s σ H x v Q I rx h
 obtain⟨k,e,q⟩:=h
 have hl:=jO
 have hs:sizeLine=16777216:=sizeLine_eq
 cases x with
 | aB=>
  cases rx
  have e':k=false:=e
  subst e'
  exact truthy_none ⟨H,I,q⟩
 | bl b=>
  cases rx
  have e':k=b:=e
  subst e'
  exact wpAny_truthy_bool ⟨H,I,q⟩
 | int i=>
  obtain⟨t,rfl⟩:=rx
  have e':k=(i !=0):=e
  subst e'
  exact PySem.P.truthy_int ⟨H,I,q⟩
 | str y=>
  obtain⟨t,rfl⟩:=rx
  obtain⟨hy,e'⟩:y.length≤sizeLine∧k=((y.length:Int) !=0):=e
  subst e'
  exact PySem.P.truthy_str (by omega) ⟨H,I.tok _,q⟩
 | d_ y=>
  obtain⟨t,rfl⟩:=rx
  obtain⟨hy,e'⟩:y.size≤sizeLine∧k=((y.size:Int) !=0):=e
  subst e'
  exact PySem.W.truthy_bytes (by omega) ⟨H,I.tok _,q⟩
 | ref p=>
  cases rx
  have e':(∃xs,aC X.K H p xs∧k= !xs.isEmpty)∨(∃xs,aT X.K H p xs∧k= !xs.isEmpty)∨ ∃ar,H p=some (.dK ar)∧k= !ar.isEmpty:=e
  rcases e' with⟨xs,hx,e'⟩ | ⟨xs,hx,e'⟩ | ⟨ar,hx,e'⟩
  ·subst e'
   obtain⟨its,r,pl,hz⟩:=I.list hx
   have hlen:=r.length
   exact wpAny_truthy_list pl.isList (by simp only[List.size_toArray];omega) ⟨H,I.tok _,by rw[Bc r];exact q⟩
  ·subst e'
   obtain⟨its,r,pl,hz⟩:=I.tuple hx
   have hlen:=r.length
   exact truthy_tuple pl (by simp only[List.size_toArray];omega) ⟨H,I.tok _,by rw[Bc r];exact q⟩
  ·subst e'
   obtain⟨hz,hS,vs,r,m⟩:ar.length≤sizeLine∧(p==sysModules)=false∧ ∃vs,KV ar vs∧s.heap.DictOf (cY X.prog X.w) p vs:=I.aE p _ hx
   have hlen:ar.length=vs.length:=Paired.length r
   exact wpAny_truthy_dict hS m (by omega) ⟨H,I.tok _,by rw[Iw r];exact q⟩
 | _=>exact(show False from e).elim
theorem Iy:ba X (binaryOp .Add) (fun x y H Q=> ∃i j,x= .str i∧y= .str j∧i.length+j.length≤sizeLine∧Q (.str (i++j)) H):=by
 intro pins s σ H x y v u Q I rx ry h
 obtain⟨i,j,rfl,rfl,hz,q⟩:=h
 obtain⟨t,rfl⟩:=rx
 obtain⟨t',rfl⟩:=ry
 exact add_str (fun t' tk=> ⟨.str (i++j),H,I.tok _,⟨_,rfl⟩,q⟩) hz
theorem vals1{x:V}{us:List Value}(r:Vals [x] us): ∃u,us=[u]∧RelV x u:=by
 cases r with
 | cons r1 r2=>cases r2;exact⟨_,rfl,r1⟩
theorem vals2{x y:V}{us:List Value}(r:Vals [x,y] us): ∃u w',us=[u,w']∧RelV x u∧RelV y w':=by
 cases r with
 | cons r1 r2=>
  cases r2 with
  | cons r3 r4=>cases r4;exact⟨_,_,rfl,r1,r3⟩
theorem Iz:bT X (.builtin "abs") (fun xs H Q=> ∃i,xs=[.int i]∧Q (.int (if i<0 then -i else i)) H):=by
 intro pins s σ H xs us Q I r h
 obtain⟨i,rfl,q⟩:=h
 obtain⟨u,rfl,t,rfl⟩:=vals1 r
 exact call_abs_int fun u tk=> ⟨.int (if i<0 then -i else i),H,I.tok _,⟨_,rfl⟩,q⟩
theorem IA(hc:X.calm=true):bT X (.builtin "max") (fun xs H Q=> ∃i j,xs=[.int i, .int j]∧Q (.int (if j>i then j else i)) H):=by
 intro pins s σ H xs us Q I r h
 obtain⟨i,j,rfl,q⟩:=h
 obtain⟨u,w',rfl,⟨t,rfl⟩,⟨t',rfl⟩⟩:=vals2 r
 refine max_two_ints (I.ok.hd hc) fun h' tk k=> ⟨_,H,I.kept k, ?_,q⟩
 by_cases hj:j>i
 ·rw[if_pos hj,if_pos hj];exact⟨_,rfl⟩
 ·rw[if_neg hj,if_neg hj];exact⟨_,rfl⟩
theorem IB(hc:X.calm=true):bT X (.builtin "min") (fun xs H Q=> ∃i j,xs=[.int i, .int j]∧Q (.int (if j<i then j else i)) H):=by
 intro pins s σ H xs us Q I r h
 obtain⟨i,j,rfl,q⟩:=h
 obtain⟨u,w',rfl,⟨t,rfl⟩,⟨t',rfl⟩⟩:=vals2 r
 refine min_two_ints (I.ok.hd hc) fun h' tk k=> ⟨_,H,I.kept k, ?_,q⟩
 by_cases hj:j<i
 ·rw[if_pos hj,if_pos hj];exact⟨_,rfl⟩
 ·rw[if_neg hj,if_neg hj];exact⟨_,rfl⟩
theorem IC:bT X (.type "int") (fun xs H Q=> (∃i,xs=[.int i]∧Q (.int i) H)∨ ∃k,xs=[.bl k]∧Q (.int (if k then 1 else 0)) H):=by
 intro pins s σ H xs us Q I r h
 rcases h with⟨i,rfl,q⟩ | ⟨k,rfl,q⟩
 ·obtain⟨u,rfl,t,rfl⟩:=vals1 r
  exact call_int_int ⟨.int i,H,I,⟨_,rfl⟩,q⟩
 ·obtain⟨u,rfl,r1⟩:=vals1 r
  cases r1
  exact call_int_bool ⟨.int (if k then 1 else 0),H,I.tok _,⟨_,rfl⟩,q⟩
def Be(K:Frag)(x:V)(H:Hp)(n:Nat):Prop:=
 match x with
 | .str y=>y.length≤sizeLine∧n=y.length
 | .d_ y=>y.size≤sizeLine∧n=y.size
 | .ref p=> (∃xs,aC K H p xs∧n=xs.length)∨ ∃xs,aT K H p xs∧n=xs.length
 | _=>False
theorem ID:bT X (.builtin "len") (fun xs H Q=> ∃x n,xs=[x]∧Be X.K x H n∧Q (.int n) H):=by
 intro pins s σ H xs us Q I r h
 obtain⟨x,n,rfl,e,q⟩:=h
 obtain⟨u,rfl,rx⟩:=vals1 r
 have hl:=jO
 have hs:sizeLine=16777216:=sizeLine_eq
 cases x with
 | str y=>
  obtain⟨t,rfl⟩:=rx
  obtain⟨hy,e'⟩:y.length≤sizeLine∧n=y.length:=e
  subst e'
  exact len_str (by omega) ⟨.int _,H,I.tok _,⟨_,rfl⟩,q⟩
 | d_ y=>
  obtain⟨t,rfl⟩:=rx
  obtain⟨hy,e'⟩:y.size≤sizeLine∧n=y.size:=e
  subst e'
  exact PySem.W.len_bytes (by omega) ⟨.int _,H,I.tok _,⟨_,rfl⟩,q⟩
 | ref p=>
  cases rx
  have e':(∃xs,aC X.K H p xs∧n=xs.length)∨ ∃xs,aT X.K H p xs∧n=xs.length:=e
  rcases e' with⟨xs,hx,e'⟩ | ⟨xs,hx,e'⟩
  ·subst e'
   obtain⟨its,r',pl,hz⟩:=I.list hx
   have hlen:=r'.length
   exact Calls.call_len_list pl.isList (by simp only[List.size_toArray];omega) ⟨.int xs.length,H,I.tok _,⟨_,by simp only[List.size_toArray];rw[hlen]⟩,q⟩
  ·subst e'
   obtain⟨its,r',pl,hz⟩:=I.tuple hx
   have hlen:=r'.length
   exact len_tuple pl (by simp only[List.size_toArray];omega) ⟨.int xs.length,H,I.tok _,⟨_,by simp only[List.size_toArray];rw[hlen]⟩,q⟩
 | _=>exact(show False from e).elim
end
structure v8 (h:Heap) (x dx C:Addr) (mA:Str→Option Value):Prop where
 obj:h.get? x=some (instObj C dx)
 ns:h.Ns1 dx mA
 ne:dx≠x
theorem IE{h:Heap}{dx:Addr}{mA:Str→Option Value}(n:h.Ns1 dx mA): ∃od,h.get? dx=some od∧ ∀name,lookIn name od=some (mA name):=by
 obtain⟨o,es,ep,ho,hd,hk,_,hm⟩:=n
 refine⟨o,ho,fun name=> ?_⟩
 have e:=hm name
 unfold nsFind findBy at e
 rw[←Array.find?_toList] at e
 unfold lookIn
 rw[hd]
 dsimp only
 split
 ·rename_i y q
  rw[q] at e
  exact congrArg some e
 ·rename_i q
  rw[q] at e
  have a:es.toList.any (·.refKey)=false:=by
   rw[List.any_eq_false]
   intro y hy
   obtain⟨z,t,IF⟩:=hk y (Array.mem_toList_iff.mp hy)
   simp[DictEntry.refKey,IF]
  have a': ¬es.toList.any (·.refKey)=true:=by rw[a];exact Bool.false_ne_true
  rw[if_neg a']
  exact congrArg some e
theorem v8.look{h:Heap}{x dx C:Addr}{mA:Str→Option Value}(I:v8 h x dx C mA): ∃od,InstAt h x (instObj C dx) C (some od)∧ ∀name,lookIn name od=some (mA name):=
 let ⟨od,ho,hl⟩:=IE I.ns
 ⟨od,⟨I.obj,rfl,rfl,ho⟩,hl⟩
section
variable {prog:Program} {w:World} {A:Around} {E:Value→Shared→Prop} {s:Shared} {K:Frag} {x dx C f:Addr} {mA:Str→Option Value} {name:Str} {v:Value}
end
def Bf(f:Str)(v:V):List (Str×V)→List (Str×V)
 | []=> [(f,v)]
 | (g,x)::r=>if g=f then (g,v)::r else (g,x)::Bf f v r
section
variable {P:Program} {w:World} {H H':Hp} {h h':Heap} {a C dx:Addr} {fs He:List (Str×V)}
theorem IG(aE:bH P w H h)(e:H a=some (.ins C dx fs)): ∃mA,v8 h a dx C mA∧(∀f,i5 (fs.lookup f) (mA f))∧PySem.Within mA (fs.map (·.1))∧fs.length≤1000∧H dx=some (.own a):=by
 obtain⟨d,z,ne,ob,mA,n,r,q⟩:=(show bS P w H h a (.ins C dx fs) from aE a _ e)
 exact⟨mA,⟨ob,n,ne⟩,r,q,z,d⟩
end
structure lh (K:Frag) (C:Addr):Prop where
 pg:plainGet K C Str.empty=true
 hd:PySem.W.hasDictIn K C=true
 po:PySem.W.plainOver K C=true
 sa:PySem.W.findIn K (.ref C) "__setattr__"=some (some (.builtin "object.__setattr__"))
theorem lh.get{K:Frag}{C:Addr}(c:lh K C)(f:Str):plainGet K C f=true:=c.pg
def Bg(K:Frag)(C:Addr)(f:Str):Prop:=PySem.W.findIn K (.ref C) f=some none
structure Meth (K:Frag) (C:Addr) (m:Str) (f:Addr):Prop where
 at_:PySem.W.findIn K (.ref C) m=some (some (.ref f))
 fn:isFn K (.ref f)=true
 kp:keepIn K (.ref f)=true
section
variable {X:Cx} {pins:List (Addr×Obj)} {σ:St} {H:Hp} {s:Shared} {a C dx:Addr} {fs:List (Str×V)} {f:Str} {v:V} {A:Around} {E:Value→Shared→Prop}
end
def Bh(K:Frag)(ta:TE)(f:Str):TE:=fun σ H Q=>ta σ H fun x H1=> ∃a C dx fs v,x= .ref a∧H1 a=some (.ins C dx fs)∧lh K C∧Bg K C f∧fs.lookup f=some v∧Q v H1
def IH(K:Frag)(ta tv:TE)(f:Str):TS:=fun D σ H=>tv σ H fun y H1=>ta σ H1 fun x H2=> ∃a C dx fs,x= .ref a∧H2 a=some (.ins C dx fs)∧lh K C∧Bg K C f∧fs.length<1000∧
 D.nx σ (upd H2 a (.ins C dx (Bf f y fs)))
section
variable {X:Cx} {o e value:Expr} {f:Str} {pos pos' v9:Pos} {ta tv:TE}
end
section
variable {X:Cx} {pins:List (Addr×Obj)} {σ:St} {H:Hp} {s:Shared} {A:Around} {E:Value→Shared→Prop} {Q:Value→Shared→Prop} {c:Value} {b:Bool}
inductive gf (K:Frag) (H:Hp):V→Value→Prop where
 | aB:gf K H .aB (.type "NoneType")
 | bl (x:Bool):gf K H (.bl x) (.type "bool")
 | int (i:Int):gf K H (.int i) (.type "int")
 | str (x:Str):gf K H (.str x) (.type "str")
 | kP (x:UInt64):gf K H (.kP x) (.type "float")
 | lst {a:Addr} {xs:List V} (e:H a=some (.lst xs)):gf K H (.ref a) (.type "list")
 | bA {a:Addr} {o:Obj} {xs:List V} (e:H a=some (.bA o (.lst xs))):gf K H (.ref a) (.type "list")
 | tup {a:Addr} {xs:List V} (e:H a=some (.tup xs)):gf K H (.ref a) (.type "tuple")
 | dK {a:Addr} {ar:List (Key×V)} (e:H a=some (.dK ar)):gf K H (.ref a) (.type "dict")
 | dT {a:Addr} {ar:List (List Key×V)} (e:H a=some (.dT ar)):gf K H (.ref a) (.type "dict")
 | ins {a C dx:Addr} {fs:List (Str×V)} (e:H a=some (.ins C dx fs)) (cl:lh K C) (ha:PySem.W.findIn K (.ref C) "__class__"=some (some (.builtin "object.__class__")))
   (hn:PySem.W.specialIn K (.builtin "object.__class__") "__get__"=some (some (.builtin "getset_descriptor.__get__"))) (jP:PySem.W.takesIn K (.builtin "object.__class__")=some true)
   (hm:PySem.W.mroIn K C (.type "object")=some true):gf K H (.ref a) (.ref C)
theorem i8{x:V}{u t:Value}(I:Inv X pins σ H s)(rx:RelV x u)(ty:gf X.K H x t)(e:kitOne X.K t c=some b)(h: ∀tk,Q (.bool b) {s with toks:=tk}):
  wpAny (model X.prog X.w) A (call (.builtin "isinstance") [u,c]) Q E s:=by
 cases ty with
 | aB=>cases (show u=Value.none from rx);exact kia_one PySem.W.kitx_none I.cP True.intro e (fun z=>nomatch z) h
 | bl y=>cases (show u=Value.bool y from rx);exact kia_one PySem.W.kitx_bool I.cP True.intro e (fun z=>nomatch z) h
 | int i=>obtain⟨t,q⟩:=(show ∃t,u=Value.int i t from rx);cases q;exact kia_one PySem.W.kitx_int I.cP True.intro e (fun z=>nomatch z) h
 | str y=>obtain⟨t,q⟩:=(show ∃t,u=Value.str y t from rx);cases q;exact kia_one PySem.W.kitx_str I.cP True.intro e (fun z=>nomatch z) h
 | kP y=>obtain⟨t,q⟩:=(show ∃t,u=Value.float y t from rx);cases q;exact kia_one PySem.W.kitx_float I.cP True.intro e (fun z=>nomatch z) h
 | @lst a xs ea=>
  cases (show u=Value.ref a from rx)
  obtain⟨_,_,n,_,h1⟩:=(show bS X.prog X.w H s.heap a (.lst xs) from I.aE a _ ea)
  exact kia_one kitx_list I.cP ⟨_,h1,rfl⟩ e (fun z=>nomatch z) h
 | @bA a ob xs ea=>
  cases (show u=Value.ref a from rx)
  obtain⟨_,_,_,n,_,h1⟩:=(show bS X.prog X.w H s.heap a (.bA ob (.lst xs)) from I.aE a _ ea)
  exact kia_one kitx_list I.cP ⟨_,h1,rfl⟩ e (fun z=>nomatch z) h
 | @tup a xs ea=>
  cases (show u=Value.ref a from rx)
  obtain⟨_,_,_,p⟩:=(show bS X.prog X.w H s.heap a (.tup xs) from I.aE a _ ea)
  obtain⟨o,h1,h2,_⟩:=p
  exact kia_one PySem.W.kitx_tuple I.cP ⟨o,h1,h2⟩ e (fun z=>nomatch z) h
 | @dK a ar ea=>
  cases (show u=Value.ref a from rx)
  obtain⟨_,_,vs,_,p⟩:=(show bS X.prog X.w H s.heap a (.dK ar) from I.aE a _ ea)
  obtain⟨o,es,ep,h1,h2,_⟩:=p
  exact kia_one kitx_dict I.cP ⟨o,h1,h2.1⟩ e (fun z=>nomatch z) h
 | @dT a ar ea=>
  cases (show u=Value.ref a from rx)
  obtain⟨_,_,xs,_,o,es,ep,h1,h2,_⟩:=(show bS X.prog X.w H s.heap a (.dT ar) from I.aE a _ ea)
  exact kia_one kitx_dict I.cP ⟨o,h1,h2.1⟩ e (fun z=>nomatch z) h
 | @ins a C dx fs ea cl ha hn jP hm=>
  cases (show u=Value.ref a from rx)
  obtain⟨mA,O,_⟩:=IG I.aE ea
  obtain⟨od,J,_⟩:=O.look
  exact kia_one (PySem.W.kitx_own (cl.get _) cl.hd ha hn jP hm) I.cP J e (fun z=>nomatch z) h
end
structure c_ (k:Nat) (A:Around):Prop where
 hd:A.handled=none
 dp:A.depth+3*k+5<recursionLimit
 un:A.units+16*k+200<cLine
theorem c_.mono{j k:Nat}{A:Around}(r:c_ k A)(h:j≤k):c_ j A:=⟨r.hd,by have:=r.dp;omega,by have:=r.un;omega⟩
theorem c_.deeper{k:Nat}{A:Around}(r:c_ (k+1) A)(env:Env):c_ k (A.deeper env):=
 ⟨r.hd,by have:=r.dp;show A.depth+1+3*k+5<_;omega,by have:=r.un;show A.units+3+16*k+200<_;omega⟩
theorem c_.depth{k:Nat}{A:Around}(r:c_ k A):A.depth<recursionLimit:=by have:=r.dp;omega
theorem c_.units{k:Nat}{A:Around}(r:c_ k A):A.units+64<cLine:=by have:=r.un;omega
def fk:TA:=fun _ H Q=>Q [] H
def cz(ta:TE)(tr:TA):TA:=fun σ H Q=>ta σ H fun x H1=>tr σ H1 fun xs H2=>Q (x::xs) H2
section
variable {X:Cx} {e:Expr} {es:List Expr} {te:TE} {t:TA} {pos:Pos}
theorem lj:PA X [] fk:=fun _ _ _ _ H Q I h=>Calls.spliced_nil ⟨[],H,I, .nil,h⟩
theorem gg(ha:PE X e te)(hr:PA X es t)(hs:starEach (e::es) X.env=(false,eval e X.env)::starEach es X.env:=by rfl):PA X (e::es) (cz te t):=by
 intro pos pins s σ H Q I h
 rw[hs]
 show wpAny _ _ (spliced ((false,eval e X.env)::backTo pos (starEach es X.env))) _ _ s
 refine Calls.spliced_cons (aJ (ha pins s σ H _ I h) fun u s1 ⟨x,H1,I1,r1,q1⟩=> ?_)
 exact aJ (hr pos pins s1 σ H1 _ I1 q1) fun us s2 ⟨xs,H2,I2,r2,q2⟩=> ⟨x::xs,H2,I2, .cons r1 r2,q2⟩
def Bi(t:TA):TE:=fun σ H Q=>t σ H fun xs H1=>xs.length≤sizeLine∧ ∀p,H1 p=none→Q (.ref p) (upd H1 p (.tup xs))
def Bj(t:TA):TE:=fun σ H Q=>t σ H fun xs H1=>xs.length≤sizeLine∧ ∀p,H1 p=none→Q (.ref p) (upd H1 p (.lst xs))
theorem II{x1}(h:PA X es t):PE X (.Tuple es x1 pos) (Bi t):=by
 intro pins s σ H Q I hq
 refine wpAny_Tuple_spliced (aJ (h pos pins s σ H _ I hq) fun us s1 ⟨xs,H1,I1,r,z,q⟩=> ⟨by rw[←r.length];exact z, ?_⟩)
 have hf:H1 s1.heap.objs.size=none:=I1.aE.fresh (Nat.le_refl _)
 refine⟨.ref s1.heap.objs.size,upd H1 s1.heap.objs.size (.tup xs),I1.laid (t':=s1.toks) (fun b u e=>Heap.get?_push_of_some _ e) (Nat.le_refl _) ?_,rfl,q _ hf⟩
 exact⟨z,us,r,⟨_,Heap.get?_push_size _ rfl,rfl,_,rfl⟩⟩
theorem IJ(h:PA X es t):PE X (.List es pos) (Bj t):=by
 intro pins s σ H Q I hq
 refine wpAny_List_spliced (aJ (h pos pins s σ H _ I hq) fun us s1 ⟨xs,H1,I1,r,z,q⟩=> ⟨by rw[←r.length];exact z, ?_⟩)
 have hf:H1 s1.heap.objs.size=none:=I1.aE.fresh (Nat.le_refl _)
 refine⟨.ref s1.heap.objs.size,upd H1 s1.heap.objs.size (.lst xs),I1.laid (t':=s1.toks) (fun b u e=>Heap.get?_push_of_some _ e) (Nat.le_refl _) ?_,rfl,q _ hf⟩
 exact⟨z,us,0,r,Heap.get?_push_size _ rfl⟩
end
abbrev Sp:=List V→Hp→VK→XK→Prop
abbrev bw:=List Env→Hp→Shared→XK→Value→Shared→Prop
structure nA (P:Program) (w:World) (K:Frag) (mg:Str→Option Value) (base:Heap) (A:Around) (outer:List Env) (s:Shared) (H:Hp):Prop where
 frames:A.frames=some outer
 mod:Mod K mg base
 bs: ∀b o,base.get? b=some o→s.heap.get? b=some o∧H b=none
 kR:base.objs.size≤s.heap.objs.size
 gN:s.heap.FunFrames base outer
 nr: ∀b∈bp outer,H b=none
 aE:bH P w H s.heap
 bare:AllBare s.gens
def CE(outer:List Env)(P:Program)(w:World)(H:Hp)(s:Shared)(Q:VK)(u:Value)(s':Shared):Prop:=
 ∃v H',s'.os=s.os∧AllBare s'.gens∧Un (bp outer) [] H H' s.heap s'.heap∧bH P w H' s'.heap∧RelV v u∧Q v H'
def CR(CX:bw)(outer:List Env)(P:Program)(w:World)(H:Hp)(s:Shared)(Q:VK)(E:XK)(r:Result)(s':Shared):Prop:=
 match r with
 | .ok (.ret u)=>CE outer P w H s Q u s'
 | .ok _=>False
 | .error e=>CX outer H s E e s'
structure da (P:Program) (w:World) (K:Frag) (mg:Str→Option Value) (base:Heap) (CX:bw) (k:Nat) (f:Addr) (fd:FuncData) (ps:List Str) (sp:Sp):Prop where
 len: ∀vs H Q E,sp vs H Q E→vs.length=ps.length
 run: ∀(A:Around) (outer:List Env) (s:Shared) (H:Hp) (args:Args) (us:List Value) (vs:List V) (Q:VK) (E:XK),c_ k A→nA P w K mg base A outer s H→BindsTo s fd args (ps.zip us)→Vals vs us→sp vs H Q E→
  codeAny (model P w) A (.call (.ref f) args) (CR CX outer P w H s Q E) s
theorem da.mono{P:Program}{w:World}{K:Frag}{mg:Str→Option Value}{base:Heap}{CX:bw}{j k:Nat}{f:Addr}{fd:FuncData}{ps:List Str}{sp:Sp}(F:da P w K mg base CX j f fd ps sp)(h:j≤k):
  da P w K mg base CX k f fd ps sp:=⟨F.len,fun A outer s H args us vs Q E hr=>F.run A outer s H args us vs Q E (hr.mono h)⟩
section
variable {X:Cx} {pins:List (Addr×Obj)} {σ:St} {H:Hp} {s s':Shared}
theorem Inv.v_(I:Inv X pins σ H s):nA X.prog X.w X.K X.mg X.base X.A X.stack s H:=
 ⟨I.ok.frames,I.ok.mod,I.bs,Nat.le_trans I.ok.kR I.sz,I.stack,I.sr,I.aE,I.bare⟩
theorem Inv.after{Q:VK}{u:Value}(I:Inv X pins σ H s)(h:CE X.stack X.prog X.w H s Q u s'):EP X pins σ Q u s':=by
 obtain⟨v,H',os,bare,un,aE,r,q⟩:=h
 obtain⟨hh,g,d,t,IL⟩:=s'
 obtain rfl:IL=s.os:=os
 exact⟨v,H',I.call (h':=hh) (g':=g) (d':=d) (t':=t) (ch:=[]) un aE bare (fun b z=>absurd z (by simp)),r,q⟩
end
def wa(sp:Sp)(gh:List V)(E:XK)(t:TA):TE:=fun σ H Q=>t σ H fun vs H1=>sp (vs++gh) H1 Q E
def Bk(C:Addr)(m:Str)(sp:Sp)(gh:List V)(E:XK)(ta:TE)(t:TA):TE:=fun σ H Q=>ta σ H fun x H1=> ∃a dx fs,x= .ref a∧H1 a=some (.ins C dx fs)∧fs.lookup m=none∧
 t σ H1 fun vs H2=>sp (x::(vs++gh)) H2 Q E
def IM(C:Addr)(sp:Sp)(gh:List V)(E:XK)(t:TA):TE:=fun σ H Q=>t σ H fun vs H1=> ∀x dx,H1 x=none→H1 dx=none→dx≠x→
 sp (.ref x::(vs++gh)) (upd (upd H1 dx (.own x)) x (.ins C dx [])) (fun v H2=>v= .aB∧Q (.ref x) H2) E
def Binds(K:Frag)(fd:FuncData)(ps:List Str)(ds:List Value):Prop:=
 ∀(s:Shared) (us:List Value),K.In s.heap→(us++ds).length=ps.length→BindsTo s fd ⟨us,[]⟩ (ps.zip (us++ds))
theorem Binds.all{K:Frag}{fd:FuncData}{ps:List Str}(h: ∀us:List Value,us.length=ps.length→bindArgs fd ⟨us,[]⟩=pure (ps.zip us)):Binds K fd ps []:=fun s us _ hl=>by
 rw[List.append_nil] at hl⊢
 exact .of_eq (h us hl)
def Passes(CX:bw)(X:Cx)(E:XK):Prop:= ∀(pins:List (Addr×Obj)) (σ:St) (H:Hp) (s:Shared) (e:Value) (s':Shared),Inv X pins σ H s→CX X.stack H s E e s'→X.xe e s'
section
variable {X:Cx} {CX:bw} {k:Nat} {f C:Addr} {fd:FuncData} {ps:List Str} {sp:Sp} {gh:List V} {ds:List Value} {E:XK} {x m:Str} {p pos apos:Pos} {e o:Expr} {es:List Expr} {ta:TE} {t:TA}
theorem IP{pins:List (Addr×Obj)}{σ:St}{H:Hp}{s:Shared}{Q:VK}{us:List Value}{vs:List V}(F:da X.prog X.w X.K X.mg X.base CX k f fd ps sp)(hr:c_ k X.A)(hb:Binds X.K fd ps ds)(hd:Vals gh ds)(hx:Passes CX X E)
  (I:Inv X pins σ H s) (r:Vals vs us) (h:sp (vs++gh) H Q E):wpAny (model X.prog X.w) X.A (call (.ref f) us) (EP X pins σ Q) X.xe s:=by
 have r2:Vals (vs++gh) (us++ds):=r.append hd
 have hl:(us++ds).length=ps.length:=by rw[←r2.length];exact F.len _ _ _ _ h
 refine wpAny_call (codeAny_mono (F.run X.A X.stack s H ⟨us,[]⟩ (us++ds) (vs++gh) Q E hr I.v_ (hb s us I.cP hl) r2 h) fun r s' hq=> ?_)
 cases r with
 | error e=>exact hx pins σ H s e s' I hq
 | ok fl=>
  cases fl with
  | ret u=>exact I.after hq
  | next=>exact False.elim hq
  | brk=>exact False.elim hq
  | cont=>exact False.elim hq
theorem IQ(F:da X.prog X.w X.K X.mg X.base CX k f fd ps sp)(hr:c_ k X.A)(hg:Gl X x)(hm:X.mg x=some (.ref f))(hk:keepIn X.K (.ref f)=true)(hb:Binds X.K fd ps ds)(hd:Vals gh ds)(hx:Passes CX X E)
  (ha:PA X (e::es) t) (i9:(x==("__debug__":Str))=false:=by decide) (he:starEach (e::es) X.env=(false,eval e X.env)::starEach es X.env:=by rfl) (iz:(backTo pos (starEach es X.env)).any (·.1)=false:=by rfl):
  PE X (.Call (.Name x p) (e::es) [] pos) (wa sp gh E t):=by
 intro pins s σ H Q I h
 refine wpAny_Call_Name_kw (pw I hg hm ?_ i9)
 refine callWith_K (h₀:=X.base) I.ok.mod.jJ hk (aJ (ha pos pins s σ H _ I h) fun us s1 ⟨vs,H1,I1,r,q⟩=> ⟨I1.cP, ?_⟩) he iz
 exact IP F hr hb hd hx I1 r q
structure Mk (K:Frag) (C f:Addr):Prop where
 makes:PySem.W.makesIn K C=true
 init:PySem.W.findIn K (.ref C) "__init__"=some (some (.ref f))
 fn:isFn K (.ref f)=true
 kp:keepIn K (.ref C)=true
end
section
variable {X:Cx} {CX:bw} {k:Nat} {f C:Addr} {fd:FuncData} {ps ks:List Str} {sp:Sp} {E:XK} {x m:Str} {p pos apos ac8:Pos} {e o:Expr} {es:List Expr} {kws:List Keyword} {te ta:TE} {t tk:TA} {nm:Option Str}
variable {g:List Value→List Value→List Value} {gV:List V→List V→List V}
end
structure bL (N P:List Str) (sc:Scope):Prop where
 kind:sc.kind= .function
 co:sc.isCoroutine=false
 gen:sc.isGenerator=false
 nd:N.Nodup
 pre:N.take P.length=P
 par: ∀x∈P,sc.names.lookup x=some .local∨sc.names.lookup x=some .cell
 IS: ∀y∈sc.names,y.2≠ .free
theorem cb{N P:List Str}{sc:Scope}(a:sc.kind= .function:=by kernel_rfl)(b:sc.isCoroutine=false:=by kernel_rfl)(c:sc.isGenerator=false:=by kernel_rfl)(d:N.Nodup:=by decide+kernel)(e:N.take P.length=P:=by kernel_rfl)(f: ∀x∈P,sc.names.lookup x=some .local∨sc.names.lookup x=some .cell:=by decide+kernel)(g: ∀y∈sc.names,y.2≠ .free:=by decide+kernel):bL N P sc:=⟨a,b,c,d,e,f,g⟩
theorem Bl{kindOf:Str→Option NameKind}{x:Str}: ∀{binds:List (Str×Value)} {m:Str→Option Value},(∀v,(x,v)∉binds)→bindL kindOf binds m x=m x
 | [],_,_=>rfl
 | (n,v)::r,m,h=>by
  unfold bindL
  rw[Bl fun w hw=>h w (List.mem_cons_of_mem _ hw)]
  split
  ·have:x≠n:=by rintro rfl;exact h v List.mem_cons_self
   simp[this]
  ·rfl
theorem Bm{kindOf:Str→Option NameKind}{x:Str}: ∀{binds:List (Str×Value)} {m:Str→Option Value},(∀v,(x,v)∉binds)→bindC kindOf binds m x=m x
 | [],_,_=>rfl
 | (n,v)::r,m,h=>by
  unfold bindC
  rw[Bm fun w hw=>h w (List.mem_cons_of_mem _ hw)]
  split
  ·rfl
  ·have:x≠n:=by rintro rfl;exact h v List.mem_cons_self
   simp[this]
theorem Bn{kindOf:Str→Option NameKind}{x:Str}{v:Value}: ∀{P:List Str} {vs:List Value} {i:Nat} {m:Str→Option Value},P.Nodup→P[i]?=some x→vs[i]?=some v→kindOf x=some .local→
  bindL kindOf (P.zip vs) m x=some v
 | [],_,_,_,_,h,_,_=>by simp at h
 | _::_,[],_,_,_,_,h,_=>by simp at h
 | p::P,w::vs,0,m,nd,h1,h2,hk=>by
  simp at h1 h2;subst h1;subst h2
  show bindL kindOf ((p,w)::P.zip vs) m p=_
  unfold bindL
  rw[Bl fun v hv=> (List.nodup_cons.mp nd).1 (List.of_mem_zip hv).1,if_pos hk]
  simp
 | p::P,w::vs,i+1,m,nd,h1,h2,hk=>by
  show bindL kindOf ((p,w)::P.zip vs) m x=_
  unfold bindL
  exact Bn (i:=i) (List.nodup_cons.mp nd).2 (by simpa using h1) (by simpa using h2) hk
theorem Bo{kindOf:Str→Option NameKind}{x:Str}{v:Value}: ∀{P:List Str} {vs:List Value} {i:Nat} {m:Str→Option Value},P.Nodup→P[i]?=some x→vs[i]?=some v→kindOf x≠some .local→
  bindC kindOf (P.zip vs) m x=some v
 | [],_,_,_,_,h,_,_=>by simp at h
 | _::_,[],_,_,_,_,h,_=>by simp at h
 | p::P,w::vs,0,m,nd,h1,h2,hk=>by
  simp at h1 h2;subst h1;subst h2
  show bindC kindOf ((p,w)::P.zip vs) m p=_
  unfold bindC
  rw[Bm fun v hv=> (List.nodup_cons.mp nd).1 (List.of_mem_zip hv).1,if_neg hk]
  simp
 | p::P,w::vs,i+1,m,nd,h1,h2,hk=>by
  show bindC kindOf ((p,w)::P.zip vs) m x=_
  unfold bindC
  exact Bo (i:=i) (List.nodup_cons.mp nd).2 (by simpa using h1) (by simpa using h2) hk
def start(N:List Str)(vs:List V):St:=vs.map some++List.replicate (N.length - vs.length) none
def i_(CX:bw)(P:Program)(w:World)(K:Frag)(mg:Str→Option Value)(base:Heap)(N:List Str)(qual:Str)(scope:Scope)(f:Addr)(cd:Value)(A:Around)(outer:List Env)(s:Shared)(H:Hp)(E:XK):Cx where
 prog:=P
 w:=w
 K:=K
 mg:=mg
 base:=base
 A:=A.deeper (envOfC qual scope s.heap.objs.size f cd)
 N:=N
 s₀:=s
 H₀:=H
 env:=envOfC qual scope s.heap.objs.size f cd
 outer:=outer
 stack:=envOfC qual scope s.heap.objs.size f cd::outer
 ex:=[]
 calm:=true
 fn:=fun _=>true
 pn:=[]
 xe:=fun e s'=>wpAny (model P w) (A.deeper (envOfC qual scope s.heap.objs.size f cd)) (leaving (envOfC qual scope s.heap.objs.size f cd) e) (fun _ eL=>CX outer H s E e eL) (fun e' eL=>CX outer H s E e' eL) s'
theorem Bp{sc:Scope}{n:Nat}{x:Str}(h:sc.names.lookup x=some .cell): ∃c,(cellsFrom n sc.names []).lookup x=some c:=by
 have q:=cellsFrom_some sc.names n [] (.inl h)
 exact Option.isSome_iff_exists.mp q
theorem Bq{CX:bw}{P:Program}{w:World}{K:Frag}{mg:Str→Option Value}{base:Heap}{N ps:List Str}{qual:Str}{scope:Scope}{f:Addr}{cd:Value}{A:Around}{outer:List Env}{s s1:Shared}{H:Hp}{E:XK}{us:List Value}{vs:List V}
  (S:bL N ps scope) (hd:A.handled=none) (e0:nA P w K mg base A outer s H) (hl:vs.length=ps.length) (r:Vals vs us)
  (x:InCallC s s.heap.objs.size (bindL (envOfC qual scope s.heap.objs.size f cd).kindOf (ps.zip us) fun _=>none) (cellsFrom (s.heap.objs.size+1) scope.names []) (bindC (envOfC qual scope s.heap.objs.size f cd).kindOf (ps.zip us) fun _=>none) s1):
  Inv (i_ CX P w K mg base N qual scope f cd A outer s H E) [] (start N vs) H s1:=by
 have iz:ps.length≤N.length:=by have:=congrArg List.length S.pre;rw[List.length_take] at this;omega
 obtain⟨h1,tk,rfl,hk⟩:=x.done
 have pG: ∀b:Addr,b∉ (i_ CX P w K mg base N qual scope f cd A outer s H E).ex:=fun b z=>absurd (show b∈ ([]:List Addr) from z) (by simp)
 refine⟨⟨e0.mod,S.kind,rfl,rfl,Nat.le_refl _,fun y z c h1 h2=> ?_,fun y hy=> ?_,fun y c _ h=> ?_,fun _=>hd,Around.frames_deeper e0.frames, .inr ⟨rfl,rfl⟩,fun b z=>absurd z (pG b),e0.bs,e0.kR,fun b _ _=>pG b,fun b z=>absurd z (pG b),e0.gN,e0.nr⟩,
  rfl,e0.bare,Un.kept hk,⟨_,x.toInCall.ns,fun i y v h1 h2 h3=> ?_⟩,fun y c h=> ⟨_,x.cell y c h⟩,e0.aE.fresh (Nat.le_refl _),fun y c h=> ?_,fun p hp=>absurd (show p∈ ([]:List (Addr×Obj)) from hp) (by simp),e0.aE.kept hk, ?_⟩
 ·exact name_of_addr x.apart (PySem.mem_of_lookup h1) (PySem.mem_of_lookup h2)
 ·have hy:scope.names.lookup y=some .cell∨scope.names.lookup y=some .free:=hy
  rcases hy with hy | hy
  ·exact Bp hy
  ·exact absurd rfl (S.IS _ (PySem.mem_of_lookup hy))
 ·exact Nat.le_of_lt (x.above y c (PySem.mem_of_lookup h))
 ·have hi:i<vs.length:=by
   unfold start at h2
   by_cases hi:i<vs.length
   ·exact hi
   ·rw[List.getElem?_append_right (by simpa using hi)] at h2
    rw[List.getElem?_replicate] at h2
    split at h2<;>cases h2
  have ha:vs[i]?=some v:=by
   unfold start at h2
   rw[List.getElem?_append_left (by simpa using hi),List.getElem?_map] at h2
   cases e:vs[i]? with
   | none=>rw[e] at h2;cases h2
   | some a=>rw[e] at h2;cases h2;rfl
  obtain⟨u,hu,rv⟩:=r.get ha
  have hp:ps[i]?=some y:=by
   rw[←S.pre,List.getElem?_take_of_lt (by omega)];exact h1
  have Br:ps.Nodup:=by rw[←S.pre];exact S.nd.sublist (List.take_sublist _ _)
  refine⟨u,rv, ?_⟩
  rcases S.par y (List.mem_of_getElem? hp) with k | k
  ·exact .inl ⟨k,Bn Br hp hu k⟩
  ·obtain⟨c,e⟩:=Bp (n:=s.heap.objs.size+1) k
   refine .inr ⟨.inl k,c,e, ?_⟩
   have q:=x.cell y c e
   rw[Bo Br hp hu (by show scope.names.lookup y≠_;rw[k];decide)] at q
   exact q
 ·exact e0.aE.fresh (Nat.le_of_lt (x.above y c (PySem.mem_of_lookup h)))
 ·unfold start
  show _=N.length
  rw[List.length_append,List.length_map,List.length_replicate]
  omega
theorem IT{CX:bw}{P:Program}{w:World}{K:Frag}{mg:Str→Option Value}{base:Heap}{k:Nat}{f:Addr}{name qual:Str}{params:Arguments}{body:List Stmt}{scope:Scope}{dV kV doc pm bE ct oc:Value}{an od:Option Addr}
  {gP:Array (Option Value)} {N ps:List Str} {sp:Sp} (lk:K.lookup f=some ⟨oc,od, .func (fnOf name qual params body scope dV kV doc pm an bE ct),gP⟩) (fI:codeIn K bE qual=true) (S:bL N ps scope)
  (len: ∀vs H Q E,sp vs H Q E→vs.length=ps.length)
  (wb: ∀(A:Around) (outer:List Env) (s:Shared) (H:Hp) (vs:List V) (Q:VK) (E:XK),c_ k (A.deeper (envOfC qual scope s.heap.objs.size f bE))→sp vs H Q E→
   ∃t,dz (i_ CX P w K mg base N qual scope f bE A outer s H E) body t∧t {nx:=fun _ H'=>Q .aB H',rt:=Q} (start N vs) H):
  da P w K mg base CX (k+1) f (fnOf name qual params body scope dV kV doc pm an bE ct) ps sp:=by
 refine⟨len,fun A outer s H args us vs Q E hr e0 hb r fL=> ?_⟩
 have hl:=len _ _ _ _ fL
 have KX:K.In s.heap:=e0.mod.jJ.keeps fun b o e=> (e0.bs b o e).1
 have lim:s.heap.NoLimit:=e0.mod.nolimit.keeps fun b o e=> (e0.bs b o e).1
 have wc: ∀y∈ps.zip us,scope.names.lookup y.1=some .local∨(scope.names.lookup y.1=some .cell∧((cellsFrom (s.heap.objs.size+1) scope.names []).lookup y.1).isSome=true):=fun⟨n,v⟩ hy=>by
  rcases S.par n (List.of_mem_zip hy).1 with q | q
  ·exact .inl q
  ·exact .inr ⟨q,cellsFrom_some _ _ _ (.inl q)⟩
 refine codeAny_call_function hr.depth (KX _ _ lk) rfl S.co S.gen rfl (codeRec_of KX fI) (hb _ _ _ _ ?_)
 refine wpAny_newFunctionEnv_cells S.kind wc fun env he s1 x=> ?_
 subst he
 refine⟨lim.keeps x.toInCall.keep,codeAny_func ?_⟩
 obtain⟨t,ht,hq⟩:=wb A outer s H vs Q E (hr.deeper _) fL
 have I:Inv (i_ CX P w K mg base N qual scope f bE A outer s H E) [] (start N vs) H s1:=Bq S hr.hd e0 hl r x
 refine wpAny_mono (ht [] s1 (start N vs) H _ I hq) (fun fl s' hs=> ?_) fun e s' hs=>hs
 have fin: ∀{σ':St} {H':Hp} {v:V} {u:Value},Inv (i_ CX P w K mg base N qual scope f bE A outer s H E) [] σ' H' s'→RelV v u→Q v H'→CE outer P w H s Q u s':=
  fun {σ' H' v u} J rv q=> ⟨v,H',J.os,J.bare,J.base,J.aE,rv,q⟩
 cases fl with
 | ret u=>
  obtain⟨v,σ',H',J,rv,q⟩:=hs
  exact fin J rv q
 | next=>
  obtain⟨σ',H',J,q⟩:=hs
  exact fin (v:=V.aB) (u:=Value.none) J rfl q
 | brk=>
  obtain⟨_,_,_,q⟩:=hs
  exact False.elim q
 | cont=>
  obtain⟨_,_,_,q⟩:=hs
  exact False.elim q
section
variable {X:Cx} {x:Str} {p pos:Pos} {e:Expr} {es:List Expr} {t:TA} {id T:String} {r:List V→Hp→VK→Prop}
def eM(r:List V→Hp→VK→Prop)(t:TA):TE:=fun σ H Q=>t σ H fun vs H1=>r vs H1 Q
theorem sT(hc:bT X (.builtin id) r)(hg:Gl X x)(hm:X.mg x=none)(hv:bootBuiltins x=some (.builtin id))(ha:PA X (e::es) t)(hn:x≠"__name__":=by decide)(i9:(x==("__debug__":Str))=false:=by decide)
  (he:starEach (e::es) X.env=(false,eval e X.env)::starEach es X.env:=by rfl) (iz:(backTo pos (starEach es X.env)).any (·.1)=false:=by rfl):PE X (.Call (.Name x p) (e::es) [] pos) (eM r t):=by
 intro pins s σ H Q I h
 refine wpAny_Call_Name_kw (nu I hg hm hv ?_ hn i9)
 exact PyProof.Rows.callWith_builtin1 (aJ (ha pos pins s σ H _ I h) fun us s1 ⟨vs,H1,I1,r1,q1⟩=>hc pins s1 σ H1 vs us Q I1 r1 q1) he iz
theorem wd(hc:bT X (.type T) r)(hg:Gl X x)(hm:X.mg x=none)(hv:bootBuiltins x=some (.type T))(ha:PA X (e::es) t)(hn:x≠"__name__":=by decide)(i9:(x==("__debug__":Str))=false:=by decide)
  (he:starEach (e::es) X.env=(false,eval e X.env)::starEach es X.env:=by rfl) (iz:(backTo pos (starEach es X.env)).any (·.1)=false:=by rfl):PE X (.Call (.Name x p) (e::es) [] pos) (eM r t):=by
 intro pins s σ H Q I h
 refine wpAny_Call_Name_kw (nu I hg hm hv ?_ hn i9)
 exact PyProof.Rows.callWith_type1 (aJ (ha pos pins s σ H _ I h) fun us s1 ⟨vs,H1,I1,r1,q1⟩=>hc pins s1 σ H1 vs us Q I1 r1 q1) he iz
end
end L2
namespace HT
open PySem PyProof.Rows
section
open PySem.SeqAt
open PySem.AutoSeq1 (wpAny_loadPart')
open PySem.MeetsSeq PySem.MeetsSeq2 PySem.MeetsSeq3
end
section
variable {prog:Program} {w:World} {A:Around} {E:Value→Shared→Prop} {s:Shared}
theorem IU{t b:Addr}{vs ws:List Value}{Q:Value→Shared→Prop}(ht:IsTup s.heap t vs.toArray)(hb:IsTup s.heap b ws.toArray)(hv:vs≠ [])
  (h1:ws=[]→Q (.ref t) s) (h2:ws≠ []→Q (.ref s.heap.objs.size) {s with heap:=s.heap.push {cls:= .type "tuple",data:= .seq (vs++ws).toArray}})
  (hsz:vs.length+ws.length≤sizeLine):wpAny (model prog w) A (binaryOp .Add (.ref t) (.ref b)) Q E s:=by
 obtain⟨⟨cls,dd,data,sl⟩,ho,hc,n,hd⟩:=id ht
 obtain⟨⟨ac_,Bs,data2,lp⟩,fM,sU,n2,hd2⟩:=id hb
 simp only at hc hd sU hd2
 subst hc hd sU hd2
 have e:vs.toArray++ws.toArray=(vs++ws).toArray:=by simp
 by_cases hw:ws=[]
 ·exact concat_meets ⟨_,ho,rfl⟩ ⟨_,fM,rfl⟩ noFill_tuple_add seq_tuple_add PySem.F.slot_tuple_add PySem.F.entry_tuple_add (PySem.F.args_tuple_add_2 _ _)
   (tuple_addW1 t b vs.toArray ws.toArray n n2 dd Bs sl lp (by simpa using hv) (by simp[hw])) ⟨ho,fM,h1 hw⟩
 ·refine concat_meets ⟨_,ho,rfl⟩ ⟨_,fM,rfl⟩ noFill_tuple_add seq_tuple_add PySem.F.slot_tuple_add PySem.F.entry_tuple_add (PySem.F.args_tuple_add_2 _ _)
   (tuple_addW2 t b vs.toArray ws.toArray n n2 dd Bs sl lp (by simpa using hv) (by simpa using hw) (by rw[List.size_toArray,List.size_toArray];exact hsz)) ⟨ho,fM, ?_⟩
  rw[e]
  exact h2 hw
def aP(n d:Nat):Option Int→Nat
 | none=>d
 | some v=>if v<0 then (v+ (n:Int)).toNat else min v.toNat n
theorem IV(n d:Nat):aP n d none=d:=rfl
theorem IW(n d k:Nat):aP n d (some (k:Int))=min k n:=by
 show(if (k:Int) <0 then ((k:Int)+ (n:Int)).toNat else min (k:Int).toNat n)=min k n
 rw[if_neg (by omega),Int.toNat_natCast]
theorem we(n d:Nat)(hd:d≤n)(o:Option Int):aP n d o≤n:=by
 cases o with
 | none=>exact hd
 | some v=>
  show(if v<0 then (v+ (n:Int)).toNat else min v.toNat n)≤n
  by_cases hv:v<0
  ·rw[if_pos hv];omega
  ·rw[if_neg hv];exact Nat.min_le_right _ _
theorem Bt(v:Int)(n d:Nat):(if v<0 then max (v+ (n:Int)) 0 else min v (n:Int))=((aP n d (some v):Nat):Int):=by
 show(if v<0 then max (v+ (n:Int)) 0 else min v (n:Int))=(((if v<0 then (v+ (n:Int)).toNat else min v.toNat n):Nat):Int)
 by_cases hv:v<0
 ·simp only[if_pos hv];omega
 ·simp only[if_neg hv];omega
theorem IX(lo hi:Option Int)(n:Nat):Builtin.Slice.sliceAdjust lo hi 1 (n:Int)=(((aP n 0 lo:Nat):Int),((aP n n hi:Nat):Int)):=by
 have h1: ¬((1:Int) <0):=by omega
 unfold Builtin.Slice.sliceAdjust
 simp only[h1,if_false]
 refine Prod.ext ?_ ?_
 ·cases lo with
  | none=>rfl
  | some v=>exact Bt v n 0
 ·cases hi with
  | none=>rfl
  | some v=>exact Bt v n n
theorem IY(i j:Nat):Builtin.Slice.slicePlaces (i:Int) (j:Int) 1=j - i:=by
 unfold Builtin.Slice.slicePlaces
 have h1:(1:Int) >0:=by omega
 simp only[h1,if_true,Int.ediv_one]
 split<;>omega
theorem Bu{v:Value}{o:Option Int}{Q:Option Int→Shared→Prop}(p:IsPart v o)(h:Q o s):wpAny (model prog w) A (Builtin.Slice.slicePartIndex v) Q E s:=by
 cases p with
 | none=>exact slicePart_none h
 | int i t=>exact slicePart_int h
theorem IZ{sl:Addr}{vl vu:Value}{lo hi:Option Int}{n:Nat}{Q:Int×Int×Nat→Shared→Prop}(hs:s.heap.IsSliceOf sl vl vu .none)(pl:IsPart vl lo)(pu:IsPart vu hi)
  (h:Q (((aP n 0 lo:Nat):Int),1,aP n n hi - aP n 0 lo) s):wpAny (model prog w) A (Builtin.Slice.sliceApplied (.ref sl) (pure (n:Int))) Q E s:=by
 obtain⟨os,pH,Bv,sV⟩:=id hs
 unfold Builtin.Slice.sliceApplied Builtin.Slice.sliceFields
 refine wpAny_bind (wpAny_bind (wpAny_field pH sV (x:=vl) rfl (wpAny_bind (wpAny_field pH sV (x:=vu) rfl (wpAny_bind (wpAny_field pH sV (x:= .none) rfl (wpAny_pure ?_)))))))
 refine wpAny_bind (slicePart_none ?_)
 show wpAny _ _ (if ((1:Int)==0)=true then _ else _) _ _ s
 rw[if_neg (by decide)]
 refine wpAny_bind (Bu pl (wpAny_bind (Bu pu (wpAny_bind (wpAny_pure ?_)))))
 show wpAny _ _ (match Builtin.Slice.sliceAdjust lo hi 1 (n:Int) with | (lo,hi)=>pure (lo,(1:Int),Builtin.Slice.slicePlaces lo hi 1)) _ _ s
 rw[IX lo hi n]
 show wpAny _ _ (pure (((aP n 0 lo:Nat):Int),(1:Int),Builtin.Slice.slicePlaces ((aP n 0 lo:Nat):Int) ((aP n n hi:Nat):Int) 1)) _ _ s
 rw[IY]
 exact wpAny_pure h
theorem I_(xs:Array Value)(i k:Nat):((List.range k).filterMap fun(m:Nat)=>xs[((i:Int)+ (m:Int)*1).toNat]?).toArray=((xs.toList.drop i).take k).toArray:=by
 have e:(fun(m:Nat)=>xs[((i:Int)+ (m:Int)*1).toNat]?)=fun m=>xs[i+m]?:=by
  funext m
  have:((i:Int)+ (m:Int)*1).toNat=i+m:=by omega
  rw[this]
 rw[e]
 have:=pick_run xs i k
 rw[List.filterMap_map] at this
 have e2:((fun x=>xs[x]?)∘fun x=>i+x)=fun m=>xs[i+m]?:=rfl
 rw[e2] at this
 rw[this]
theorem Ja{t sl:Addr}{items:Array Value}{vl vu:Value}{lo hi:Option Int}{Q:Value→Shared→Prop}(ht:IsTup s.heap t items)(hs:s.heap.IsSliceOf sl vl vu .none)(pl:IsPart vl lo)(pu:IsPart vu hi)
  (hw: ¬(aP items.size 0 lo=0∧aP items.size items.size hi=items.size))
  (h:Q (.ref s.heap.objs.size) {s with heap:=s.heap.push {cls:= .type "tuple",data:= .seq ((items.toList.drop (aP items.size 0 lo)).take (aP items.size items.size hi - aP items.size 0 lo)).toArray}})
  (hsz:items.size≤sizeLine):wpAny (model prog w) A (getItem (.ref t) (.ref sl)) Q E s:=by
 have sX:sizeOk (.seq ((items.toList.drop (aP items.size 0 lo)).take (aP items.size items.size hi - aP items.size 0 lo)).toArray):=by
  show((items.toList.drop (aP items.size 0 lo)).take (aP items.size items.size hi - aP items.size 0 lo)).toArray.size≤sizeLine
  rw[List.size_toArray,List.length_take,List.length_drop,Array.length_toList]
  omega
 have hj:aP items.size items.size hi≤items.size:=we _ _ (Nat.le_refl _) hi
 obtain⟨os,pH,Bv,sV⟩:=id hs
 have Jb:s.TypeIs (.ref sl) "slice":=⟨os,pH,Bv⟩
 unfold getItem
 try with_reducible refine wpAny_holding ?_
 first | refine wpAny_bind (wpAny_pure ?_) | skip
 refine wpAny_bind (wpAny_sequenceKey ht.typeIs (by decide) ?_)
 refine wpAny_bind (wpAny_callSpecial?_slot (name:=Str.ofString "__getitem__") ht.typeIs PyProof.Rows.slot_tuple_getitem
  (wpAny_call_entry PyProof.Rows.slot_tuple_getitem ht.typeIs entry_tuple_getitem ?_ (args_tuple_getitem _ _)))
 show wpAny _ _ (Builtin.Tuple.tupleItemsOf (.ref t) >>=_) _ _ s
 refine wpAny_bind (tupleItemsOf_ ht ?_)
 refine wpAny_bind (wpAny_typeOf Jb ?_)
 rw[if_pos (by decide)]
 refine wpAny_bind (IZ hs pl pu ?_)
 have iA: ¬((((aP items.size 0 lo:Nat):Int)==0 && (1:Int)==1 && (aP items.size items.size hi - aP items.size 0 lo)==items.size)=true):=by
  intro q
  rw[Bool.and_eq_true,Bool.and_eq_true] at q
  have q1:((aP items.size 0 lo:Nat):Int)=0:=eq_of_beq q.1.1
  have q2:aP items.size items.size hi - aP items.size 0 lo=items.size:=eq_of_beq q.2
  exact hw ⟨by omega,by omega⟩
 show wpAny _ _ (if (((aP items.size 0 lo:Nat):Int)==0 && (1:Int)==1 && (aP items.size items.size hi - aP items.size 0 lo)==items.size)=true then _ else _) _ _ s
 rw[if_neg iA,I_]
 first
  | exact wpAny_bind (m:=Builtin.Tuple.tupleExact _) (wpAny_newObj_type (wpAny_pure ⟨_,rfl,wpAny_pure h⟩) sX)
  | exact wpAny_bind (m:=Builtin.Tuple.tupleExact _) (wpAny_newObj_type (wpAny_bind (wpAny_pure (wpAny_pure ⟨_,rfl,wpAny_pure h⟩))) sX)
  | exact wpAny_bind (wpAny_bind (m:=Builtin.Tuple.tupleExact _) (wpAny_newObj_type (wpAny_pure (wpAny_pure ⟨_,rfl,wpAny_pure h⟩)) sX))
  | exact wpAny_bind (wpAny_bind (m:=Builtin.Tuple.tupleExact _) (wpAny_newObj_type (wpAny_pure ⟨_,rfl,wpAny_pure h⟩) sX))
end
end HT
namespace L2
open PySem PySem.Spec PyProof.Rows
abbrev TO:=St→Hp→(Option Int→Hp→Prop)→Prop
def PO(X:Cx)(e:Option Expr)(t:TO):Prop:=
 ∀(pins:List (Addr×Obj)) (s:Shared) (σ:St) (H:Hp) (Q:Option Int→Hp→Prop),Inv X pins σ H s→t σ H Q→
  wpAny (model X.prog X.w) X.A (evalPart e X.env) (fun u s'=> ∃o H',Inv X pins σ H' s'∧IsPart u o∧Q o H') X.xe s
def Bw:TO:=fun _ H Q=>Q none H
def sY(t:TE):TO:=fun σ H Q=>t σ H fun x H1=> ∃i,x= .int i∧Q (some i) H1
theorem intsAre_of{ns:List Int}: ∀{us:List Value},Vals (ns.map V.int) us→IntsAre us ns:=by
 induction ns with
 | nil=>intro us r;rw[List.map_nil] at r;cases r;exact .nil
 | cons n ns ih=>
  intro us r
  rw[List.map_cons] at r
  cases r with
  | cons r1 r2=>
   obtain⟨t,e⟩:=r1
   subst e
   exact .cons n t (ih r2)
section
variable {X:Cx} {e:Expr} {te:TE} {lo hi:Option Expr} {tl th:TO} {pos p2:Pos}
theorem Jc:PO X none Bw:=by
 intro pins s σ H Q I h
 rw[evalPart_none]
 exact wpAny_pure ⟨none,H,I, .none,h⟩
theorem Jd(h:PE X e te):PO X (some e) (sY te):=by
 intro pins s σ H Q I hw
 rw[evalPart_some]
 refine aJ (h pins s σ H _ I hw) fun u s1 ⟨x,H1,I1,r1,q1⟩=> ?_
 obtain⟨i,rfl,q⟩:=q1
 obtain⟨t,rfl⟩:=r1
 exact⟨some i,H1,I1, .int i t,q⟩
def sZ(X:Cx)(r:V→Option Int→Option Int→Hp→VK→Prop):Prop:=
 ∀(pins:List (Addr×Obj)) (s:Shared) (σ:St) (H:Hp) (x:V) (v vl vu:Value) (lo hi:Option Int) (sl:Addr) (Q:VK),Inv X pins σ H s→RelV x v→s.heap.IsSliceOf sl vl vu .none→IsPart vl lo→IsPart vu hi→r x lo hi H Q→
  ∃T id,typeLookup (.type T) "__getitem__"=pure (some (.builtin id))∧s.TypeIs v T∧wpAny (model X.prog X.w) X.A (getItem v (.ref sl)) (EP X pins σ Q) X.xe s
def wg(r:V→Option Int→Option Int→Hp→VK→Prop)(te:TE)(tl th:TO):TE:=fun σ H Q=>te σ H fun x H1=>tl σ H1 fun l H2=>th σ H2 fun u H3=>r x l u H3 Q
theorem Je{r:V→Option Int→Option Int→Hp→VK→Prop}(hr:sZ X r)(he:PE X e te)(hl:PO X lo tl)(hu:PO X hi th):PE X (.Subscript e (.Slice lo hi none p2) pos) (wg r te tl th):=by
 intro pins s σ H Q I h
 refine Subscript_ (aJ (he pins s σ H _ I h) fun v s1 ⟨x,H1,I1,r1,q1⟩=> ?_)
 refine wpAny_Slice (aJ (hl pins s1 σ H1 _ I1 q1) fun vl s2 ⟨l,H2,I2,pl,q2⟩=>aJ (hu pins s2 σ H2 _ I2 q2) fun vu s3 ⟨u,H3,I3,pu,q3⟩=> ?_)
 rw[evalPart_none]
 refine wpAny_pure ?_
 have I4:Inv X pins σ H3 {s3 with heap:=s3.heap.push {cls:= .type "slice",data:= .fields #[vl,vu, .none]}}:=I3.kept (t':=s3.toks) fun b ob q=>Heap.get?_push_of_some _ q
 obtain⟨T,id,hT,ht,hg⟩:=hr pins {s3 with heap:=s3.heap.push {cls:= .type "slice",data:= .fields #[vl,vu, .none]}} σ H3 x v vl vu l u s3.heap.objs.size Q I4 r1 (Heap.IsSliceOf.new ..) pl pu q3
 show wpAny (model X.prog X.w) X.A (subscriptTail e (.Slice lo hi none p2) v (.ref s3.heap.objs.size)) (EP X pins σ Q) X.xe {s3 with heap:=s3.heap.push {cls:= .type "slice",data:= .fields #[vl,vu, .none]}}
 exact tail_any (ops:=[.ref s3.heap.objs.size,v]) ht hT hg (by with_unfolding_all rfl)
def fN(xs:List V)(lo hi:Option Int):List V:=(xs.drop (HT.aP xs.length 0 lo)).take (HT.aP xs.length xs.length hi - HT.aP xs.length 0 lo)
theorem Bx(xs:List V)(lo hi:Option Int):(fN xs lo hi).length≤xs.length:=by
 unfold fN
 rw[List.length_take,List.length_drop]
 omega
def Jf(K:Frag):V→Option Int→Option Int→Hp→VK→Prop:=fun x lo hi H Q=> ∃a xs,x= .ref a∧aT K H a xs∧
 ¬(HT.aP xs.length 0 lo=0∧HT.aP xs.length xs.length hi=xs.length)∧ ∀p,H p=none→Q (.ref p) (upd H p (.tup (fN xs lo hi)))
theorem Jg:sZ X (Jf X.K):=by
 intro pins s σ H x v vl vu lo hi sl Q I rx hs pl pu h
 obtain⟨a,xs,rfl,hx,hw,q⟩:=h
 cases rx
 obtain⟨its,r,ht,hz⟩:=I.tuple hx
 have hlen:its.toArray.size=xs.length:=by rw[List.size_toArray];exact r.length.symm
 refine⟨"tuple",_,PyProof.Rows.slot_tuple_getitem.lookup,ht.typeIs, ?_⟩
 refine HT.Ja ht hs pl pu (by rw[hlen];exact hw) ?_ (by rw[hlen];exact hz)
 rw[hlen]
 refine⟨.ref s.heap.objs.size,_,I.laid (t':=s.toks) (o:= .tup (fN xs lo hi)) (fun b ob q=>Heap.get?_push_of_some _ q) (Nat.le_refl _) ?_,rfl,q _ (I.aE.fresh (Nat.le_refl _))⟩
 exact⟨Nat.le_trans (Bx xs lo hi) hz,_,(r.drop (HT.aP xs.length 0 lo)).take (HT.aP xs.length xs.length hi - HT.aP xs.length 0 lo),IsTup.new _ _⟩
def By(K:Frag):R2:=fun x y H Q=> ∃a b xs ys,x= .ref a∧y= .ref b∧aT K H a xs∧aT K H b ys∧xs≠ []∧xs.length+ys.length≤sizeLine∧
 (ys=[]→Q (.ref a) H)∧(ys≠ []→ ∀p,H p=none→Q (.ref p) (upd H p (.tup (xs++ys))))
theorem Vals.wj{xs:List V}{us:List Value}(r:Vals xs us):us=[]↔xs=[]:=by
 cases r with
 | nil=>simp
 | cons _ _=>simp
theorem Jh:ba X (binaryOp .Add) (By X.K):=by
 intro pins s σ H x y v u Q I rx ry h
 obtain⟨a,b,xs,ys,rfl,rfl,ha,hb,hx,hz,q1,q2⟩:=h
 cases rx
 cases ry
 obtain⟨its,r1,p1,_⟩:=I.tuple ha
 obtain⟨eN,r2,p2,_⟩:=I.tuple hb
 refine HT.IU p1 p2 (fun z=>hx (r1.wj.mp z)) (fun z=> ⟨.ref a,H,I,rfl,q1 (r2.wj.mp z)⟩) (fun z=> ?_) (by rw[←r1.length,←r2.length];exact hz)
 refine⟨.ref s.heap.objs.size,_,I.laid (t':=s.toks) (o:= .tup (xs++ys)) (fun b ob q=>Heap.get?_push_of_some _ q) (Nat.le_refl _) ?_,rfl,q2 (fun w=>z (r2.wj.mpr w)) _ (I.aE.fresh (Nat.le_refl _))⟩
 exact⟨by rw[List.length_append];exact hz,_,r1.append r2,IsTup.new _ _⟩
end
def ja(n:Nat)(i:Int):Option Nat:=if 0≤i then (if i<n then some i.toNat else none) else if -(n:Int)≤i then some (i+n).toNat else none
def cQ{α:Type}(xs:List α)(i:Int):Option α:=(ja xs.length i).bind fun j=>xs[j]?
theorem Bz{n:Nat}{i:Int}{j:Nat}(h:ja n i=some j):seqIndex? i n=some j∧j<n∧ -(n:Int)≤i∧i<n:=by
 unfold ja at h
 by_cases h0:0≤i
 ·rw[if_pos h0] at h
  by_cases h1:i<n
  ·rw[if_pos h1] at h
   have e:i.toNat=j:=Option.some.inj h
   exact⟨by rw[seqIndex_of h0 h1,e],by omega,by omega,h1⟩
  ·rw[if_neg h1] at h;cases h
 ·rw[if_neg h0] at h
  by_cases h1: -(n:Int)≤i
  ·rw[if_pos h1] at h
   have e:(i+n).toNat=j:=Option.some.inj h
   exact⟨by rw[seqIndex_neg (by omega) h1,e],by omega,h1,by omega⟩
  ·rw[if_neg h1] at h;cases h
theorem wk{α:Type}{xs:List α}{i:Int}{v:α}(h:cQ xs i=some v): ∃j,seqIndex? i xs.length=some j∧xs[j]?=some v∧j<xs.length∧ -(xs.length:Int)≤i∧i<xs.length:=by
 unfold cQ at h
 cases e:ja xs.length i with
 | none=>rw[e] at h;cases h
 | some j=>
  rw[e] at h
  obtain⟨h1,h2,h3,h4⟩:=Bz e
  exact⟨j,h1,h,h2,h3,h4⟩
theorem lq{α:Type}{xs:List α}{j:Nat}{v:α}(h:xs[j]?=some v):cQ xs (j:Int)=some v:=by
 have hj:j<xs.length:=(List.getElem?_eq_some_iff.mp h).1
 have e:ja xs.length (j:Int)=some j:=by
  unfold ja
  rw[if_pos (by omega),if_pos (by omega)];simp
 unfold cQ;rw[e];exact h
theorem jQ{α:Type}(xs:List α)(v:α):cQ (xs++ [v]) (-1)=some v:=by
 have hl:(xs++ [v]).length=xs.length+1:=by simp
 have e:ja (xs++ [v]).length (-1)=some xs.length:=by
  unfold ja
  rw[hl,if_neg (by decide),if_pos (by omega)]
  congr 1
  omega
 unfold cQ
 rw[e]
 show(xs++ [v])[xs.length]?=some v
 simp
def BA(b:Expr):Prop:= ∀o i,subscripted b false o i=operate [o,i] (getItem o i)
def iB(X:Cx)(r:R2):Prop:=
 ∀(value slice:Expr) (pins:List (Addr×Obj)) (s:Shared) (σ:St) (H:Hp) (x y:V) (v u:Value) (Q:VK),Inv X pins σ H s→RelV x v→RelV y u→r x y H Q→
  subscripted slice false v u=operate [v,u] (getItem v u)→wpAny (model X.prog X.w) X.A (subscriptTail value slice v u) (EP X pins σ Q) X.xe s
def gQ(X:Cx)(id:String)(r:V→List V→Hp→VK→Prop):Prop:=
 ∀(pins:List (Addr×Obj)) (s:Shared) (σ:St) (H:Hp) (x:V) (xs:List V) (v:Value) (us:List Value) (Q:VK),Inv X pins σ H s→RelV x v→Vals xs us→r x xs H Q→
  wpAny (model X.prog X.w) X.A (call (.builtin id) (v::us)) (EP X pins σ Q) X.xe s
section
variable {X:Cx} {a b:Expr} {ta tb:TE} {pos:Pos}
theorem iB.or{r r':R2}(h:iB X r)(h':iB X r'):iB X (fun x y H Q=>r x y H Q∨r' x y H Q):=by
 intro value slice pins s σ H x y v u Q I rx ry q hs
 rcases q with q | q
 ·exact h value slice pins s σ H x y v u Q I rx ry q hs
 ·exact h' value slice pins s σ H x y v u Q I rx ry q hs
theorem Ji{r:R2}(hr:iB X r)(ha:PE X a ta)(hb:PE X b tb)(hs:BA b):PE X (.Subscript a b pos) (dt r ta tb):=by
 intro pins s σ H Q I h
 exact Subscript_ (v7 ha hb I h fun v u s2 x y H2 I2 rx ry q=>hr a b pins s2 σ H2 x y v u Q I2 rx ry q (hs _ _))
def BB(K:Frag):R2:=fun x y H Q=> ∃p xs i v,x= .ref p∧y= .int i∧aC K H p xs∧cQ xs i=some v∧Q v H
def BC(K:Frag):R2:=fun x y H Q=> ∃p xs i v,x= .ref p∧y= .int i∧aT K H p xs∧cQ xs i=some v∧Q v H
def BD:R2:=fun x y H Q=> ∃z i c,x= .str z∧y= .int i∧z.length≤sizeLine∧cQ z.cps.toList i=some c∧Q (.str ⟨#[c]⟩) H
theorem Jj:iB X (BB X.K):=by
 intro value slice pins s σ H x y v u Q I rx ry h hs
 obtain⟨p,xs,i,z,rfl,rfl,hq,he,q⟩:=h
 cases rx
 obtain⟨t,rfl⟩:=ry
 obtain⟨its,r,pl,hz⟩:=I.list hq
 obtain⟨j,h1,h2,h3,h4,h5⟩:=wk he
 obtain⟨w,ew,jb⟩:=r.get h2
 have hl:=r.length
 have hn:=jO
 have fin:EP X pins σ Q w s:=⟨z,H,I,jb,q⟩
 by_cases h0:0≤i
 ·have hj:i.toNat=j:=by
   rw[seqIndex_of h0 h5] at h1
   exact Option.some.inj h1
  exact item_listR pl.isList h0 (by omega) (by rw[hj];simpa using ew) fin hs
 ·have hj:(i+ (its.toArray.size:Int)).toNat=j:=by
   rw[seqIndex_neg (by omega) h4] at h1
   rw[List.size_toArray,←hl]
   exact Option.some.inj h1
  exact subscriptTail_builtinR (x:=w) pl.isList.typeIs slot_list_getitem.lookup
   (wpAny_getItem_list_neg (Q:=fun r s'=>r=w∧EP X pins σ Q r s') pl.isList (by omega) (by rw[List.size_toArray] <;>omega) (by omega) (by rw[hj];simpa using ew) ⟨rfl,fin⟩) hs
theorem Jk:iB X (BC X.K):=by
 intro value slice pins s σ H x y v u Q I rx ry h hs
 obtain⟨p,xs,i,z,rfl,rfl,hq,he,q⟩:=h
 cases rx
 obtain⟨t,rfl⟩:=ry
 obtain⟨its,r,pl,hz⟩:=I.tuple hq
 obtain⟨j,h1,h2,h3,h4,h5⟩:=wk he
 obtain⟨w,ew,jb⟩:=r.get h2
 have hl:=r.length
 have hn:=jO
 have fin:EP X pins σ Q w s:=⟨z,H,I,jb,q⟩
 exact subscriptTail_builtinR (x:=w) pl.typeIs slot_tuple_getitem.lookup
  (getItem_tuple (j:=j) (Q:=fun r s'=>r=w∧EP X pins σ Q r s') pl (by omega) (by omega) (by rw[List.size_toArray,←hl];exact h1) (by simpa using ew) ⟨rfl,fin⟩) hs
theorem Jl:iB X BD:=by
 intro value slice pins s σ H x y v u Q I rx ry h hs
 obtain⟨z,i,c,rfl,rfl,hz,he,q⟩:=h
 obtain⟨t,rfl⟩:=rx
 obtain⟨t',rfl⟩:=ry
 obtain⟨j,h1,h2,h3,h4,h5⟩:=wk he
 have hl:z.cps.toList.length=z.length:=by simp[Str.length]
 rw[hl] at h1 h4 h5
 have hn:=jO
 exact tail_any (typeIs_str s z t) slot_str_getitem.lookup (getItem_str (c:=c) (by
  have e1:decide (i< -(2 ^ 63:Int))=false:=decide_eq_false (by omega)
  have e2:decide (i≥2 ^ 63)=false:=decide_eq_false (by omega)
  rw[e1,e2,Bool.or_false]) (by rw[h1];simpa using h2) ⟨.str ⟨#[c]⟩,H,I.tok _,⟨_,rfl⟩,q⟩) hs
theorem Jm(its:List Value)(n j:Nat)(u:Value):Obj.mapSeq (·.setIfInBounds j u) {cls:= .type "list",data:= .seq its.toArray n}={cls:= .type "list",data:= .seq (its.set j u).toArray n}:=by
 simp[Obj.mapSeq]
theorem Inv.lst{pins:List (Addr×Obj)}{σ:St}{H:Hp}{s:Shared}{p:Addr}{xs:List V}(I:Inv X pins σ H s)(h:H p=some (.lst xs)):
  ∃(its:List Value) (n:Nat),Vals xs its∧s.heap.get? p=some {cls:= .type "list",data:= .seq its.toArray n}∧xs.length≤sizeLine:=by
 obtain⟨z,its,n,r,e⟩:=I.aE p _ h
 exact⟨its,n,r,e,z⟩
theorem Inv.Jn{pins:List (Addr×Obj)}{σ:St}{H:Hp}{s:Shared}{p:Addr}{xs ys:List V}{its dR:List Value}{n n':Nat}{f:Obj→Obj}(I:Inv X pins σ H s)(h:H p=some (.lst xs))
  (ho:s.heap.get? p=some {cls:= .type "list",data:= .seq its.toArray n}) (hf:f {cls:= .type "list",data:= .seq its.toArray n}={cls:= .type "list",data:= .seq dR.toArray n'}) (r:Vals ys dR) (hz:ys.length≤sizeLine) (t:Nat):
  Inv X pins σ (upd H p (.lst ys)) {s with heap:=s.heap.update p f,toks:=t}:=by
 have e:(s.heap.update p f).get? p=some {cls:= .type "list",data:= .seq dR.toArray n'}:=by
  rw[Heap.get?_update_self f ho (by rw[hf] <;>rfl),hf]
 refine I.write (x:=p) (e:=p) (by rw[h];trivial) (.inl rfl) (fun b u hb q=> (Heap.get?_update_other _ _ (Ne.symm hb)).trans q) ⟨_,e⟩ ?_
 exact⟨hz,dR,n',r,e⟩
def wm:V→V→V→Hp→(Hp→Prop)→Prop:=fun o i v H Q=> ∃p xs k j,o= .ref p∧i= .int k∧H p=some (.lst xs)∧ja xs.length k=some j∧Q (upd H p (.lst (xs.set j v)))
theorem set_list:AW X wm:=by
 intro pins s σ H o i v ov iv u Q I ro ri rv h
 obtain⟨p,xs,k,j,rfl,rfl,hp,hj,q⟩:=h
 cases ro
 obtain⟨t,rfl⟩:=ri
 obtain⟨its,n,r,ho,hz⟩:=I.lst hp
 obtain⟨h1,h2,h3,h4⟩:=Bz hj
 have hl:=r.length
 have hn:=jO
 have I':Inv X pins σ (upd H p (.lst (xs.set j v))) {s with heap:=s.heap.update p (Obj.mapSeq (·.setIfInBounds j u))}:=
  I.Jn hp ho (Jm its n j u) (r.set rv j) (by rw[List.length_set];exact hz) s.toks
 by_cases h0:0≤k
 ·have hk:k.toNat=j:=by
   rw[seqIndex_of h0 h4] at h1
   exact Option.some.inj h1
  exact PySem.W.ki_setAt ho h0 (by omega) (by rw[List.size_toArray,←hl];exact h4) (by rw[hk];exact⟨_,I',q⟩)
 ·have hk:(k+ (its.toArray.size:Int)).toNat=j:=by
   rw[seqIndex_neg (by omega) h3] at h1
   rw[List.size_toArray,←hl]
   exact Option.some.inj h1
  exact PySem.W.ki_setBack ho (by omega) (by rw[List.size_toArray,←hl];exact h3) (by omega) (by rw[hk];exact⟨_,I',q⟩)
theorem wo(lo hi:Option Int)(n:Nat):(sliceBounds lo hi none n).1=((HT.aP n 0 lo:Nat):Int)∧(sliceBounds lo hi none n).2.1=((HT.aP n n hi:Nat):Int)∧(sliceBounds lo hi none n).2.2=1:=by
 refine⟨?_, ?_,rfl⟩
 ·cases lo with
  | none=>simp[sliceBounds,HT.aP]
  | some i=>
   simp only[sliceBounds,HT.aP,Option.getD_none,show(1:Int) >0 by decide,if_true]
   by_cases h:i<0
   ·simp only[h,if_true] <;>omega
   ·simp only[h,if_false] <;>omega
 ·cases hi with
  | none=>simp[sliceBounds,HT.aP]
  | some i=>
   simp only[sliceBounds,HT.aP,Option.getD_none,show(1:Int) >0 by decide,if_true]
   by_cases h:i<0
   ·simp only[h,if_true] <;>omega
   ·simp only[h,if_false] <;>omega
theorem Jo(its:List Value)(lo hi:Option Int):slicePick its.toArray lo hi none=((its.drop (HT.aP its.length 0 lo)).take (HT.aP its.length its.length hi - HT.aP its.length 0 lo)).toArray:=by
 obtain⟨h1,h2,h3⟩:=wo lo hi its.toArray.size
 unfold slicePick
 rw[h1,h2,h3]
 simp only[sliceRange_one,pick_run,List.size_toArray] <;>rfl
def Jp(K:Frag):V→Option Int→Option Int→Hp→VK→Prop:=fun x lo hi H Q=> ∃a xs,x= .ref a∧aC K H a xs∧ ∀p,H p=none→Q (.ref p) (upd H p (.lst (fN xs lo hi)))
theorem Jq:sZ X (Jp X.K):=by
 intro pins s σ H x v vl vu lo hi sl Q I rx hs pl pu h
 obtain⟨a,xs,rfl,hx,q⟩:=h
 cases rx
 obtain⟨its,r,ht,hz⟩:=I.list hx
 have hlen:=r.length
 refine⟨"list",_,slot_list_getitem.lookup,ht.isList.typeIs, ?_⟩
 refine wpAny_getItem_list_slice ht.isList hs pl pu .none (by simp) ?_ (by rw[List.size_toArray] <;>omega)
 rw[Jo,←hlen]
 refine⟨.ref s.heap.objs.size,_,I.laid (t':=s.toks) (o:= .lst (fN xs lo hi)) (fun b ob q=>Heap.get?_push_of_some _ q) (Nat.le_refl _) ?_,rfl,q _ (I.aE.fresh (Nat.le_refl _))⟩
 exact⟨Nat.le_trans (Bx xs lo hi) hz,_,0,(r.drop (HT.aP xs.length 0 lo)).take (HT.aP xs.length xs.length hi - HT.aP xs.length 0 lo),Heap.get?_push_size _ rfl⟩
def dc:V→Bool
 | .aB=>true
 | .bl _=>true
 | .int _=>true
 | .str _=>true
 | _=>false
def dS:V→V→Bool
 | .aB, .aB=>true
 | .bl a, .bl b=>a==b
 | .bl a, .int b=> (if a then 1 else 0)==b
 | .int a, .bl b=>a==(if b then 1 else 0)
 | .int a, .int b=>a==b
 | .str a, .str b=>a==b
 | _,_=>false
theorem Jr{A:Around}{s:Shared}{y x:V}{u v:Value}(ry:RelV y u)(rx:RelV x v)(fy:dc y=true)(fx:dc x=true):SeqAt.EqAt A s u v (dS y x):=by
 cases y with
 | aB=>
  cases ry
  cases x with
  | aB=>cases rx;exact SeqAt.EqAt.same _
  | bl b=>cases rx;exact SeqAt.EqAt.none_bool b
  | int b=>obtain⟨t,rfl⟩:=rx;exact SeqAt.EqAt.none_int b t
  | str b=>obtain⟨t,rfl⟩:=rx;exact SeqAt.EqAt.none_str b t
  | _=>exact absurd (show false=true from fx) Bool.false_ne_true
 | bl a=>
  cases ry
  cases x with
  | aB=>cases rx;exact SeqAt.EqAt.bool_none a
  | bl b=>cases rx;exact SeqAt.EqAt.bool_bool a b
  | int b=>obtain⟨t,rfl⟩:=rx;exact SeqAt.EqAt.bool_int a b t
  | str b=>obtain⟨t,rfl⟩:=rx;exact SeqAt.EqAt.bool_str a b t
  | _=>exact absurd (show false=true from fx) Bool.false_ne_true
 | int a=>
  obtain⟨t',rfl⟩:=ry
  cases x with
  | aB=>cases rx;exact SeqAt.EqAt.int_none a t'
  | bl b=>cases rx;exact SeqAt.EqAt.int_bool a t' b
  | int b=>obtain⟨t,rfl⟩:=rx;exact SeqAt.EqAt.int_int a t' b t
  | str b=>obtain⟨t,rfl⟩:=rx;exact SeqAt.EqAt.int_str a t' b t
  | _=>exact absurd (show false=true from fx) Bool.false_ne_true
 | str a=>
  obtain⟨t',rfl⟩:=ry
  cases x with
  | aB=>cases rx;exact SeqAt.EqAt.str_none a t'
  | bl b=>cases rx;exact SeqAt.EqAt.str_bool a t' b
  | int b=>obtain⟨t,rfl⟩:=rx;exact SeqAt.EqAt.str_int a t' b t
  | str b=>obtain⟨t,rfl⟩:=rx;exact SeqAt.EqAt.str_str a t' b t
  | _=>exact absurd (show false=true from fx) Bool.false_ne_true
 | _=>exact absurd (show false=true from fy) Bool.false_ne_true
def du(x:V)(u:Value):Bool:=match u with
 | .none=>dS .aB x
 | .bool b=>dS (.bl b) x
 | .int i _=>dS (.int i) x
 | .str z _=>dS (.str z) x
 | _=>false
theorem s_{x y:V}{u:Value}(r:RelV y u)(f:dc y=true):du x u=dS y x:=by
 cases y with
 | aB=>cases r;rfl
 | bl b=>cases r;rfl
 | int i=>obtain⟨t,rfl⟩:=r;rfl
 | str z=>obtain⟨t,rfl⟩:=r;rfl
 | _=>exact absurd (show false=true from f) Bool.false_ne_true
theorem pI{x:V}: ∀{xs:List V} {us:List Value},Vals xs us→xs.all dc=true→us.any (du x)=xs.any fun y=>dS y x
 | _,_, .nil,_=>rfl
 | y::xs,u::us, .cons r t,f=>by
  rw[List.all_cons,Bool.and_eq_true] at f
  rw[List.any_cons,List.any_cons,s_ r f.1,pI t f.2]
theorem lA{A:Around}{s:Shared}{x:V}{v:Value}(rx:RelV x v)(fx:dc x=true): ∀{xs:List V} {us:List Value},Vals xs us→xs.all dc=true→ ∀u∈us,SeqAt.EqAt A s u v (du x u)
 | _,_, .nil,_=>fun u hu=>by cases hu
 | y::xs,u::us, .cons r t,f=>fun u' hu=>by
  rw[List.all_cons,Bool.and_eq_true] at f
  rcases List.mem_cons.mp hu with rfl | hu
  ·rw[s_ r f.1];exact Jr r rx f.1 fx
  ·exact lA rx fx t f.2 u' hu
def bB(x:V)(xs:List V):Bool:=xs.any fun y=>dS y x
def wq(K:Frag)(neg:Bool):R2:=fun x y H Q=> ∃p xs,y= .ref p∧(aC K H p xs∨aT K H p xs)∧dc x=true∧xs.all dc=true∧Q (.bl (if neg then !bB x xs else bB x xs)) H
theorem Js:ba X (compareOp .In) (wq X.K false):=by
 intro pins s σ H x y v u Q I rx ry h
 obtain⟨p,xs,rfl,hq,fx,fs,q⟩:=h
 cases ry
 rcases hq with hq | hq
 ·obtain⟨its,r,pl,hz⟩:=I.list hq
  refine SeqAt.in_listAt (du x) pl.isList (fun w hw=>lA rx fx r fs w (by simpa using hw)) ⟨.bl _,H,I,rfl, ?_⟩
  rw[show its.toArray.any (du x)=its.any (du x) by simp,pI r fs]
  exact q
 ·obtain⟨its,r,pl,hz⟩:=I.tuple hq
  refine SeqAt.in_tupleAt (du x) pl (fun w hw=>lA rx fx r fs w (by simpa using hw)) ⟨.bl _,H,I,rfl, ?_⟩
  rw[show its.toArray.any (du x)=its.any (du x) by simp,pI r fs]
  exact q
theorem Jt:ba X (compareOp .NotIn) (wq X.K true):=by
 intro pins s σ H x y v u Q I rx ry h
 obtain⟨p,xs,rfl,hq,fx,fs,q⟩:=h
 cases ry
 rcases hq with hq | hq
 ·obtain⟨its,r,pl,hz⟩:=I.list hq
  refine SeqAt.notIn_listAt (du x) pl.isList (fun w hw=>lA rx fx r fs w (by simpa using hw)) ⟨.bl _,H,I,rfl, ?_⟩
  rw[show its.toArray.any (du x)=its.any (du x) by simp,pI r fs]
  exact q
 ·obtain⟨its,r,pl,hz⟩:=I.tuple hq
  refine SeqAt.notIn_tupleAt (du x) pl (fun w hw=>lA rx fx r fs w (by simpa using hw)) ⟨.bl _,H,I,rfl, ?_⟩
  rw[show its.toArray.any (du x)=its.any (du x) by simp,pI r fs]
  exact q
theorem bT.or{f:Value}{r r':List V→Hp→VK→Prop}(h:bT X f r)(h':bT X f r'):bT X f (fun xs H Q=>r xs H Q∨r' xs H Q):=by
 intro pins s σ H xs us Q I rs q
 rcases q with q | q
 ·exact h pins s σ H xs us Q I rs q
 ·exact h' pins s σ H xs us Q I rs q
theorem Ju:bT X (.type "list") (fun xs H Q=> ∃p ys,xs=[.ref p]∧(aC X.K H p ys∨aT X.K H p ys)∧ ∀l,H l=none→Q (.ref l) (upd H l (.lst ys))):=by
 intro pins s σ H xs us Q I r h
 obtain⟨p,ys,rfl,hq,q⟩:=h
 obtain⟨u,rfl,rx⟩:=vals1 r
 cases rx
 have fin: ∀(its:List Value),Vals ys its→ys.length≤sizeLine→ ∀(h':Heap) (c':Nat),(∀b o',s.heap.get? b=some o'→h'.get? b=some o')→
   h'.get? s.heap.objs.size=some {cls:= .type "list",dict:=none,data:= .seq its.toArray c',slots:= #[]}→EP X pins σ Q (.ref s.heap.objs.size) {s with heap:=h'}:=fun its r' hz h' c' kp e=>
  ⟨.ref s.heap.objs.size,_,I.laid (t':=s.toks) kp (Nat.le_refl _) (show bS X.prog X.w _ h' _ (.lst ys) from⟨hz,its,c',r',e⟩),rfl,q _ (I.aE.fresh (Nat.le_refl _))⟩
 rcases hq with hq | hq
 ·obtain⟨its,r',pl,hz⟩:=I.list hq
  have hlen:=r'.length
  obtain⟨o,ho,hc,n,hd⟩:=pl.isList
  exact call_list_seq p (.inl rfl) ho hc hd (fun h' c' kp e=>fin its r' hz h' c' kp e) (by simp only[List.size_toArray] <;>omega)
 ·obtain⟨its,r',pl,hz⟩:=I.tuple hq
  have hlen:=r'.length
  obtain⟨o,ho,hc,n,hd⟩:=pl
  exact call_list_seq p (.inr rfl) ho hc hd (fun h' c' kp e=>fin its r' hz h' c' kp e) (by simp only[List.size_toArray] <;>omega)
theorem Jv:bT X (.type "tuple") (fun xs H Q=> ∃p ys,xs=[.ref p]∧((aC X.K H p ys∧ ∀l,H l=none→Q (.ref l) (upd H l (.tup ys)))∨(aT X.K H p ys∧Q (.ref p) H))):=by
 intro pins s σ H xs us Q I r h
 obtain⟨p,ys,rfl,h⟩:=h
 obtain⟨u,rfl,rx⟩:=vals1 r
 cases rx
 rcases h with⟨hq,q⟩ | ⟨hq,q⟩
 ·obtain⟨its,r',pl,hz⟩:=I.list hq
  have hlen:=r'.length
  refine call_tuple_list pl.isList (fun h' kp=> ?_) (by simp only[List.size_toArray] <;>omega)
  have I1:Inv X pins σ H {s with heap:=h'}:=I.kept (t':=s.toks) kp
  have I2:Inv X pins σ (upd H h'.objs.size (.tup ys)) {s with heap:=h'.push {cls:= .type "tuple",data:= .seq its.toArray}}:=
   I1.laid (t':=s.toks) (fun b o e=>Heap.get?_push_of_some _ e) (Nat.le_refl _) (show bS X.prog X.w _ _ _ (.tup ys) from⟨hz,its,r',IsTup.new _ _⟩)
  exact⟨.ref h'.objs.size,_,I2,rfl,q _ (I1.aE.fresh (Nat.le_refl _))⟩
 ·obtain⟨its,r',pl,hz⟩:=I.tuple hq
  exact call_tuple_same pl ⟨.ref p,H,I,rfl,q⟩
def jR(K:Frag)(T:String)(x:V)(H:Hp):Prop:=match x with
 | .str _=>T="str"
 | .int _=>T="int"
 | .ref p=> (T="list"∧ ∃xs,aC K H p xs)∨(T="tuple"∧ ∃o,K.lookup p=some o∧o.cls= .type "tuple"∧o.dict=none)∨
   (T="dict"∧((∃ar,H p=some (.dK ar))∨ ∃ar,H p=some (.dT ar)))∨(T="set"∧ ∃S n,H p=some (.set S n))
 | _=>False
theorem BE{pins:List (Addr×Obj)}{σ:St}{H:Hp}{s:Shared}{T:String}{x:V}{v:Value}(I:Inv X pins σ H s)(r:RelV x v)(ty:jR X.K T x H):
  s.TypeIs v T∧ ∀a,v= .ref a→ ∃ob,s.heap.get? a=some ob∧ob.dict=none:=by
 cases x with
 | str z=>
  obtain⟨t,rfl⟩:=r
  cases (show T="str" from ty)
  exact⟨typeIs_str s z t,fun _ e=>nomatch e⟩
 | int i=>
  obtain⟨t,rfl⟩:=r
  cases (show T="int" from ty)
  exact⟨typeIs_int s i t,fun _ e=>nomatch e⟩
 | ref p=>
  cases r
  rcases ty with⟨rfl,xs,hq⟩ | ⟨rfl,o,hk,hc,hd⟩ | ⟨rfl,hk⟩ | ⟨rfl,S,n,hk⟩
  ·obtain⟨its,_,pl,_⟩:=I.list hq
   refine⟨pl.isList.typeIs,fun a e=> ?_⟩
   cases e
   obtain⟨o,n,e,c,hd,_⟩:=pl
   exact⟨o,e,hd⟩
  ·refine⟨⟨o,I.cP p o hk,hc⟩,fun a e=> ?_⟩
   cases e
   exact⟨o,I.cP _ o hk,hd⟩
  ·have z: ∃o,s.heap.get? p=some o∧o.ExactDict:=by
    rcases hk with⟨ar,hk⟩ | ⟨ar,hk⟩
    ·obtain⟨_,_,_,_,o,_,_,e,ex,_⟩:=I.aE p _ hk
     exact⟨o,e,ex⟩
    ·obtain⟨_,_,_,_,o,_,_,e,ex,_⟩:=I.aE p _ hk
     exact⟨o,e,ex⟩
   obtain⟨o,e,ex⟩:=z
   refine⟨⟨o,e,ex.1⟩,fun a e2=> ?_⟩
   cases e2
   exact⟨o,e,ex.2.1⟩
  ·obtain⟨o,_,_,_,e,ex,_⟩:=I.aE p _ hk
   refine⟨⟨o,e,ex.1⟩,fun a e2=> ?_⟩
   cases e2
   exact⟨o,e,ex.2.1⟩
 | _=>exact False.elim ty
def gR(K:Frag)(T:String)(r:V→List V→Hp→VK→Prop)(to:TE)(t:TA):TE:=fun σ H Q=>to σ H fun x H1=>jR K T x H1∧t σ H1 fun xs H2=>r x xs H2 Q
variable {o e:Expr} {es:List Expr} {to:TE} {t:TA} {name:Str} {apos cK:Pos} {T id:String} {r:V→List V→Hp→VK→Prop}
theorem tj(pa:PlainAttrs T)(slot:Slot T name id)(Jw:typeOf (.builtin id)=pure (.type "method_descriptor"))(hm:gQ X id r)(ho:PE X o to)(ha:PA X (e::es) t)
  (Jx:attributeBase o name X.env (eval o X.env)=eval o X.env:=by rfl)
  (Jy:((backTo cK (starEach (e::es) X.env)).all (fun x=> !x.1) && (backToKw cK (keywordEach [] X.env)).all (fun x=>x.1.isSome)
   && decide ((e::es).length+ ([]:List Keyword).length+ (if ([]:List Keyword).isEmpty then 0 else 1) <30))=true:=by rfl)
  (Jz:(apos.endLine==cK.line)=true:=by rfl) (hs:starEach (e::es) X.env=(false,eval e X.env)::starEach es X.env:=by rfl) (JA:(backTo cK (starEach es X.env)).any (·.1)=false:=by rfl):
  PE X (.Call (.Attribute o name apos) (e::es) [] cK) (gR X.K T r to t):=by
 intro pins s σ H Q I h
 refine wpAny_Call_method_late Jx Jy Jz rfl (aJ (ho pins s σ H _ I h) fun v s1 ⟨x,H1,I1,r1,ty,q1⟩=> ?_)
 obtain⟨h1,h2⟩:=BE I1 r1 ty
 refine⟨T,id,pa,slot,Jw,h1,h2, ?_⟩
 have hA:=ha cK pins s1 σ H1 _ I1 q1
 rw[hs] at hA⊢
 refine Calls.callWith_builtin (by show(false || (backTo cK (starEach es X.env)).any (·.1))=false;rw[JA] <;>rfl) (Calls.evalArgs_plain ?_)
 exact aJ hA fun us s2 ⟨vs,H2,I2,r2,q2⟩=>hm pins s2 σ H2 x vs v us Q I2 r1 r2 q2
end
def pJ(X:Cx)(id:String)(r:V→List V→Hp→VK→Prop):Prop:=
 ∀(pins:List (Addr×Obj)) (s:Shared) (σ:St) (H:Hp) (x:V) (xs:List V) (v:Value) (us:List Value) (Q:VK),Inv X pins σ H s→RelV x v→Vals xs us→r x xs H Q→
  wpAny (model X.prog X.w) X.A (call (.builtin id) (v::us)) (EP X pins σ Q) X.xe s
theorem Vals.one: ∀{x:V} {us:List Value},Vals [x] us→ ∃u,us=[u]∧RelV x u
 | _,_, .cons r .nil=> ⟨_,rfl,r⟩
theorem Vals.zero: ∀{us:List Value},Vals [] us→us=[]
 | _, .nil=>rfl
theorem Vals.dropLast{xs:List V}{us:List Value}(h:Vals xs us):Vals xs.dropLast us.dropLast:=by
 induction h with
 | nil=>exact .nil
 | cons r t ih=>
  cases t with
  | nil=>exact .nil
  | cons q t'=>exact .cons r ih
theorem Vals.reverse{xs:List V}{us:List Value}(h:Vals xs us):Vals xs.reverse us.reverse:=by
 induction h with
 | nil=>exact .nil
 | cons r t ih=>rw[List.reverse_cons,List.reverse_cons];exact Vals.append ih (.cons r .nil)
theorem Vals.rep{xs:List V}{us:List Value}(h:Vals xs us): ∀k:Nat,Vals (List.replicate k xs).flatten (List.replicate k us).flatten
 | 0=> .nil
 | k+1=>by
  rw[List.replicate_succ,List.replicate_succ,List.flatten_cons,List.flatten_cons]
  exact Vals.append h (Vals.rep h k)
theorem JB{α:Type}(l:List α):l.eraseIdx (l.length - 1)=l.dropLast:=by
 induction l with
 | nil=>rfl
 | cons a r ih=>
  cases r with
  | nil=>rfl
  | cons b r=>
   have e:(a::b::r).length - 1=((b::r).length - 1)+1:=by
    have h1:(a::b::r).length=r.length+2:=rfl
    have h2:(b::r).length=r.length+1:=rfl
    omega
   rw[e,List.eraseIdx_cons_succ,ih]
   all_goals rfl
theorem foldl_rep(its:List Value): ∀(k:Nat) (acc:List Value),
  List.foldl (fun x1 x2=>x1++x2) acc.toArray (List.replicate k its.toArray)=(acc++ (List.replicate k its).flatten).toArray
 | 0,acc=>by simp
 | k+1,acc=>by
  have e:acc.toArray++its.toArray=(acc++its).toArray:=by simp
  have e2:(acc++its)++ (List.replicate k its).flatten=acc++ (List.replicate (k+1) its).flatten:=by
   rw[List.replicate_succ,List.flatten_cons,List.append_assoc]
  rw[←e2,←foldl_rep its k (acc++its),←e,List.replicate_succ,List.foldl_cons]
section
variable {X:Cx} {pins:List (Addr×Obj)} {σ:St} {H:Hp} {s:Shared} {l b:Addr} {xs ys zs:List V}
theorem Inv.pK{its dR:List Value}{n:Nat}{f:Array Value→Array Value}{t':Nat}(I:Inv X pins σ H s)(hH:H l=some (.lst xs))
  (e:s.heap.get? l=some {cls:= .type "list",data:= .seq its.toArray n}) (hf:f its.toArray=dR.toArray) (hv:Vals ys dR) (hz:ys.length≤sizeLine):
  Inv X pins σ (upd H l (.lst ys)) {s with heap:=s.heap.update l (Obj.mapSeq f),toks:=t'}:=by
 have q:=PySem.IsL.update e f
 rw[hf] at q
 refine I.write (x:=l) (e:=l) (by rw[hH];exact trivial) (.inl rfl) (fun b' u hb hu=> (Heap.get?_update_other s.heap (Obj.mapSeq f) (Ne.symm hb)).trans hu) ⟨_,q⟩ ?_
 exact⟨hz,dR,_,hv,q⟩
theorem Inv.BF{its:List Value}{t':Nat}(I:Inv X pins σ H s)(hv:Vals ys its)(hz:ys.length≤sizeLine):
  Inv X pins σ (upd H s.heap.objs.size (.lst ys)) {s with heap:=s.heap.push {cls:= .type "list",data:= .seq its.toArray},toks:=t'}:=
 I.laid (fun _ _ q=>Heap.get?_push_of_some _ q) (Nat.le_refl _) ⟨hz,its,0,hv,Heap.get?_push_size _ rfl⟩
theorem Inv.fresh(I:Inv X pins σ H s):H s.heap.objs.size=none:=I.aE.fresh (Nat.le_refl _)
theorem Inv.jc(I:Inv X pins σ H s)(hH:H l=some (.lst xs)):xs.length≤sizeLine∧ ∃(its:List Value) (n:Nat),Vals xs its∧xs.length=its.length∧s.heap.get? l=some {cls:= .type "list",data:= .seq its.toArray n}:=by
 obtain⟨z,its,n,r,e⟩:=I.aE l _ hH
 exact⟨z,its,n,r,r.length,e⟩
theorem BG{n:Nat}(h:n≤sizeLine):Builtin.List.listTooLong n=false:=by
 unfold Builtin.List.listTooLong
 exact decide_eq_false (by omega)
end
section
variable {X:Cx}
def JC:V→List V→Hp→VK→Prop:=fun x vs H Q=> ∃l xs y,x= .ref l∧vs=[y]∧H l=some (.lst xs)∧xs.length<sizeLine∧Q .aB (upd H l (.lst (xs++ [y])))
theorem JD:pJ X "list.append" JC:=by
 intro pins s σ H x vs v us Q I rx rv h
 obtain⟨l,xs,y,rfl,rfl,hH,hz,q⟩:=h
 cases rx
 obtain⟨u,rfl,ru⟩:=rv.one
 obtain⟨z,its,n,r,hl,e⟩:=I.jc hH
 refine call_meets F.slot_list_append ⟨_,e,rfl⟩ F.entry_list_append (F.args_list_append_2 _ _) (PySem.list_append l its.toArray n u (by rw[List.size_toArray];omega)) ⟨e, ?_⟩
 refine⟨.aB,_,I.pK (dR:=its++ [u]) hH e (by simp) (r.append (.cons ru .nil)) ?_,rfl,q⟩
 rw[List.length_append,List.length_singleton]
 omega
def JE:V→List V→Hp→VK→Prop:=fun x vs H Q=> ∃l b xs zs,x= .ref l∧vs=[.ref b]∧H l=some (.lst xs)∧H b=some (.lst zs)∧xs.length+zs.length≤sizeLine∧Q .aB (upd H l (.lst (xs++zs)))
theorem JF:pJ X "list.extend" JE:=by
 intro pins s σ H x vs v us Q I rx rv h
 obtain⟨l,b,xs,zs,rfl,rfl,hH,hB,hz,q⟩:=h
 cases rx
 obtain⟨u,rfl,ru⟩:=rv.one
 cases ru
 obtain⟨z,its,n,r,hl,e⟩:=I.jc hH
 obtain⟨z2,eN,n2,r2,gi,e2⟩:=I.jc hB
 have hsz:its.toArray.size+eN.toArray.size≤sizeLine:=by rw[List.size_toArray,List.size_toArray];omega
 have wt: ¬(!its.toArray.isEmpty && Builtin.List.listTooLong (its.toArray.size+eN.toArray.size))=true:=by
  rw[BG hsz,Bool.and_false]
  exact Bool.false_ne_true
 refine call_meets F.slot_list_extend ⟨_,e,rfl⟩ F.entry_list_extend (F.args_list_extend_2 _ _)
  (AutoSeq1.list_extend_list_list_0 l its.toArray n b eN.toArray n2 wt (by rw[List.size_toArray];omega) (by omega)) ⟨e,e2, ?_⟩
 refine⟨.aB,_,I.pK (dR:=its++eN) hH e (by simp) (r.append r2) ?_,rfl,q⟩
 rw[List.length_append]
 omega
def JG:V→List V→Hp→VK→Prop:=fun x vs H Q=> ∃l xs y,x= .ref l∧vs=[]∧H l=some (.lst xs)∧xs[xs.length - 1]?=some y∧Q y (upd H l (.lst xs.dropLast))
theorem JH:pJ X "list.pop" JG:=by
 intro pins s σ H x vs v us Q I rx rv h
 obtain⟨l,xs,y,rfl,rfl,hH,hy,q⟩:=h
 cases rx
 have pL:=rv.zero
 subst pL
 obtain⟨z,its,n,r,hl,e⟩:=I.jc hH
 obtain⟨u,hu,ru⟩:=r.get hy
 have wu:its.toArray[its.toArray.size - 1]?=some u:=by
  show its.toArray[its.length - 1]?=some u
  rw[←Array.getElem?_toList,←hl]
  exact hu
 refine call_meets F.slot_list_pop ⟨_,e,rfl⟩ F.entry_list_pop (F.args_list_pop_1 _) (MeetsSeq.list_pop_last l its.toArray n u wu (by rw[List.size_toArray];omega)) ⟨e, ?_⟩
 refine⟨y,_,I.pK (dR:=its.dropLast) hH e ?_ r.dropLast ?_,ru,q⟩
 ·show its.toArray.eraseIdxIfInBounds (its.toArray.size - 1)=its.dropLast.toArray
  rw[List.size_toArray,List.eraseIdxIfInBounds_toArray,JB]
 ·rw[List.length_dropLast]
  omega
def JI:V→List V→Hp→VK→Prop:=fun x vs H Q=> ∃l xs,x= .ref l∧vs=[]∧H l=some (.lst xs)∧Q .aB (upd H l (.lst xs.reverse))
theorem JJ:pJ X "list.reverse" JI:=by
 intro pins s σ H x vs v us Q I rx rv h
 obtain⟨l,xs,rfl,rfl,hH,q⟩:=h
 cases rx
 have pL:=rv.zero
 subst pL
 obtain⟨z,its,n,r,hl,e⟩:=I.jc hH
 refine call_meets F.slot_list_reverse ⟨_,e,rfl⟩ F.entry_list_reverse (F.args_list_reverse_1 _) (AutoSeq1.list_reverse_list_0 l its.toArray n (by rw[List.size_toArray];omega)) ⟨e, ?_⟩
 refine⟨.aB,_,I.pK (dR:=its.reverse) hH e (by simp) r.reverse ?_,rfl,q⟩
 rw[List.length_reverse]
 omega
def JK:V→List V→Hp→VK→Prop:=fun x vs H Q=> ∃l xs,x= .ref l∧vs=[]∧H l=some (.lst xs)∧Q .aB (upd H l (.lst []))
theorem JL:pJ X "list.clear" JK:=by
 intro pins s σ H x vs v us Q I rx rv h
 obtain⟨l,xs,rfl,rfl,hH,q⟩:=h
 cases rx
 have pL:=rv.zero
 subst pL
 obtain⟨z,its,n,r,hl,e⟩:=I.jc hH
 refine call_meets F.slot_list_clear ⟨_,e,rfl⟩ F.entry_list_clear (F.args_list_clear_1 _) (AutoSeq1.list_clear_list_0 l its.toArray n (by rw[List.size_toArray];omega)) ⟨e, ?_⟩
 exact⟨.aB,_,I.pK (dR:=[]) (ys:=[]) hH e rfl .nil (Nat.zero_le _),rfl,q⟩
def BH:R2:=fun x y H Q=> ∃l b xs zs,x= .ref l∧y= .ref b∧H l=some (.lst xs)∧H b=some (.lst zs)∧xs.length+zs.length≤sizeLine∧ ∀p,H p=none→Q (.ref p) (upd H p (.lst (xs++zs)))
theorem JM:ba X (binaryOp .Add) BH:=by
 intro pins s σ H x y v u Q I rx ry h
 obtain⟨l,b,xs,zs,rfl,rfl,hH,hB,hz,q⟩:=h
 cases rx
 cases ry
 obtain⟨z,its,n,r,hl,e⟩:=I.jc hH
 obtain⟨z2,eN,n2,r2,gi,e2⟩:=I.jc hB
 refine PySem.P.add_list e e2 ?_ (by rw[List.size_toArray,List.size_toArray];omega)
 have ea:its.toArray++eN.toArray=(its++eN).toArray:=by simp
 rw[ea]
 exact⟨.ref _,_,I.BF (t':=s.toks) (r.append r2) (by rw[List.length_append];omega),rfl,q _ I.fresh⟩
def BI:R2:=fun x y H Q=> ∃l k xs,x= .ref l∧y= .int k∧H l=some (.lst xs)∧ -(2 ^ 63)≤k∧k<2 ^ 63∧xs.length*k.toNat≤sizeLine∧
 ∀p,H p=none→Q (.ref p) (upd H p (.lst (List.replicate k.toNat xs).flatten))
theorem len_rep{α:Type}(xs:List α)(k:Nat):(List.replicate k xs).flatten.length=k*xs.length:=by
 induction k with
 | zero=>simp
 | succ k ih=>rw[List.replicate_succ,List.flatten_cons,List.length_append,ih,Nat.succ_mul,Nat.add_comm]
theorem JN:ba X (binaryOp .Mult) BI:=by
 intro pins s σ H x y v u Q I rx ry h
 obtain⟨l,k,xs,rfl,rfl,hH,h1,h2,hz,q⟩:=h
 cases rx
 obtain⟨t,rfl⟩:=ry
 obtain⟨z,its,n,r,hl,e⟩:=I.jc hH
 have hlen:its.toArray.size*k.toNat≤sizeLine:=by rw[List.size_toArray,←hl];exact hz
 have JO: ¬its.toArray.size*k.toNat> (2 ^ 63 - 1) / 8:=by
  have:(sizeLine:Nat)≤ (2 ^ 63 - 1) / 8:=by decide
  omega
 have BJ: ¬(!Builtin.List.listFitsIndex k)=true:=by
  rw[fitsIndex_both h1 h2]
  exact Bool.false_ne_true
 have wt: ¬Builtin.List.listTooLong (its.toArray.size*k.toNat)=true:=by
  rw[BG hlen]
  exact Bool.false_ne_true
 have JP:List.foldl (fun x1 x2=>x1++x2) #[] (List.replicate (if its.toArray.isEmpty=true then 0 else k.toNat) its.toArray)=(List.replicate k.toNat its).flatten.toArray:=by
  have f0: ∀m:Nat,List.foldl (fun x1 x2=>x1++x2) #[] (List.replicate m its.toArray)=(List.replicate m its).flatten.toArray:=fun m=>by
   have:=foldl_rep its m []
   rw[List.nil_append] at this
   exact this
  rw[f0]
  cases its with
  | nil=>simp
  | cons a r'=>rw[if_neg (by simp)]
 refine wpAny_binaryOp_repeat_ref (T:="list") (U:="int") (by decide) ⟨_,e,rfl⟩ (fun s'=>typeIs_int s' k t) noFill_list_mul F.fills_int_mul F.slot_int_rmul repeat_list F.slot_int_index.lookup
  (call_meets F.slot_int_rmul (typeIs_int s k t) F.entry_int_rmul (F.args_int_rmul_2 _ _) (int___rmul___int_list k t l its.toArray n)
   ⟨e,rfl,⟨_,e,rfl⟩,call_meets F.slot_list_mul ⟨_,e,rfl⟩ F.entry_list_mul (F.args_list_mul_2 _ _) (AutoListH.list___mul___list_int_3 l its.toArray n k t BJ JO wt) ⟨e, ?_⟩⟩)
 rw[JP]
 exact⟨.ref _,_,I.BF (t':=s.toks) (r.rep k.toNat) (by rw[len_rep,Nat.mul_comm];exact hz),rfl,q _ I.fresh⟩
end
section
variable {prog:Program} {w:World} {A:Around} {E:Value→Shared→Prop} {s:Shared}
end
section
variable {X:Cx}
end
end L2
namespace BK
open PySem PySem.W PySem.Calls PyProof.Rows
theorem JQ{P:Params}{h:Heap}: ∀(ns:List Int) (vs:List Value),WellAll P h vs (ns.map WData.int)→IntsAre vs ns:=by
 intro ns
 induction ns with
 | nil=>
  intro vs w
  rw[List.map_nil] at w
  cases w
  exact .nil
 | cons n ns ih=>
  intro vs w
  rw[List.map_cons] at w
  cases w with
  | cons a b=>
   cases a
   exact .cons _ _ (ih _ b)
theorem JR{l:OpenLaw}{n:Nat}(hn:l.most=some n){P:Params}{h:Heap}{args:List WData}{vals:List Value}
  (nB:l.row.toRowW.claim.pre args=true) (wx:WellAll P h vals args):
  ∃a vs ns,vals=[Value.ref a]∧args=[WData.list (ns.map WData.int)]∧h.get? a=some {cls:= .type "list",data:= .seq vs.toArray}∧IntsAre vs ns∧ns.length≤n:=by
 have JS:WShape.hasAll [] args [.list .int]=true:=(pre_splitW nB).1
 have hc:l.pre.holds [] {args:=args}=true:=(pre_splitW nB).2
 obtain⟨d,r,rfl,h1,h2⟩:=hasAllW_cons JS
 obtain rfl:=hasAllW_nil h2
 obtain⟨xs,rfl,h3⟩:=hasW_list h1
 obtain⟨ns,rfl⟩:=items_int h3
 have hlen:ns.length≤n:=by
  unfold OpenLaw.pre at hc
  have h4:(WTm.not (.lt (.lit (.int (n:Int))) (.len (.arg 0)))).holds [] {args:=[.list (ns.map .int)]}=true:=by
   have h4:=(holds_andW hc).1
   rw[hn] at h4
   exact h4
  have h5:=condW_of h4 (w_not (w_lt w_lit (w_len_list (w_arg rfl))))
  rw[List.length_map] at h5
  refine Nat.le_of_not_lt fun q=> ?_
  have q':(n:Int) < ((ns.length:Nat):Int):=by omega
  first
   | (rw[decide_eq_true q'] at h5;exact absurd h5 (by decide))
   | (simp at h5;omega)
 cases wx with
 | cons w1 w2=>
  cases w2
  cases w1 with
  | list ho lB=>exact⟨_,_,ns,rfl,rfl,ho,JQ ns _ lB,hlen⟩
theorem JT(l:OpenLaw)(args:List WData):l.row.toRowW.claim.post args (.bool true) args=true:=
 postW_of (r:=l.row.toRowW) (X:=(true==true))
  (show WShape.has [] (.bool true) .bool=true by first | rfl | decide | simp[WShape.has,WShape.arms,WShape.armsAll])
  (show(WTm.eq .res (.lit (.bool true))).value [] {args:=args,res:=some (.bool true),after:=args}=some (.bool (true==true)) from w_eq_bool (w_res rfl) w_lit) rfl
theorem JU{l:OpenLaw}{n:Nat}{q:Program}{loose:List Str}{XP:(Str→Option Value)→Heap→Prop}{YP:World→Heap→Prop}{d:DefRec}
  (hn:l.most=some n) (pM:d.params.defaults=[])
  (call: ∀(w:World) (s₀ s₁:Shared) (mg mb:Str→Option Value) (fa:Addr) (o:Obj) (pm cd doc:Value) (a:Addr) (vs:List Value) (ns:List Int),
   Ground q loose [] XP w s₀ mg mb s₁.heap→YP w s₁.heap→
   s₁.heap.get? fa=some o→o.data= .func (docDef d.name d.params d.body d.scope pm cd doc)→s₁.heap.CodeRec cd d.name→mg d.name=some (.ref fa)→
   s₁.heap.get? a=some {cls:= .type "list",data:= .seq vs.toArray}→IntsAre vs ns→ns.length≤n→s₁.gens= #[]→
   codeAny (model l.prog w) callerA (.call (.ref fa) ⟨[.ref a],[]⟩) (fun r s'=>r= .ok (.ret (.bool true))∧OldK s₁.heap s'.heap∧s'.os=s₁.os∧AllBare s'.gens) s₁):
  WalkO q loose XP YP l.row.toRowW d [] (fun f vs=>PySem.call f vs):=by
 intro w s₀ s₁ mg mb G Y fa o pm cd doc dV kV ho hd fI hD jd hg args vals as nB ada hrd wx tm
 obtain rfl:dV= .none:=Dflts.none hD pM
 obtain rfl:kV= .none:=Dflts.noKw hD
 obtain⟨a,vs,ns,rfl,rfl,wy,hints,hlen⟩:=JR hn nB wx
 refine enter_call (codeAny_mono (call w s₀ s₁ mg mb fa o pm cd doc a vs ns G Y ho (fd_plain hd) fI jd wy hints hlen hg) fun r s' hq=> ?_)
 obtain⟨rfl,h2,h3,h4⟩:=hq
 exact⟨.inl ⟨.bool true, .bool true,[],rfl,fun _=>rfl, .bool true,JT l _,fun _=> ⟨List.Pairwise.nil,fun _ hm=> (nomatch hm)⟩⟩,h2,h3,h4⟩
section
variable {prog:Program} {w:World} {A:Around} {E:Value→Shared→Prop} {s:Shared} {K:Frag}
end
end BK
namespace L2
open PySem PySem.Spec PyProof.Rows
theorem BL: ∀{vs:List Value} {ns:List Int},IntsAre vs ns→Vals (ns.map V.int) vs
 | _,_, .nil=> .nil
 | _,_, .cons n t h=> .cons ⟨t,rfl⟩ (BL h)
def wz(H:Hp):Prop:= ∀b,H b=none∨ ∃o xs,H b=some (.bA o (.lst xs))
theorem JV{P:Program}{w:World}{K:Frag}{mg mb:Str→Option Value}{CX:bw}{k:Nat}{fa a:Addr}{fd:FuncData}{x:Str}{sp:Sp}{s₁:Shared}{vs:List Value}{ns:List Int}
  (KX:K.In s₁.heap) (lE:s₁.heap.Ns mainGlobals mg) (hb:s₁.heap.Ns builtinsNs mb) (JW: ∀x:Str,x≠"__name__"→mb x=bootBuiltins x) (JX:s₁.heap.NoLimit) (hg:s₁.gens= #[])
  (ha:s₁.heap.get? a=some {cls:= .type "list",data:= .seq vs.toArray}) (hi:IntsAre vs ns) (hl:ns.length≤sizeLine) (hr:c_ k callerA)
  (F: ∀base:Heap,K.In base→base.Ns mainGlobals mg→da P w K mg base CX k fa fd [x] sp) (JY: ∀(s:Shared) (u:Value),BindsTo s fd ⟨[u],[]⟩ [(x,u)])
  (fL: ∀H:Hp,wz H→aC K H a (ns.map V.int)→sp [.ref a] H (fun v _=>v= .bl true) fun _ _ _=>False)
  (wA: ∀H e s',CX [] H s₁ (fun _ _ _=>False) e s'→False):
  codeAny (model P w) callerA (.call (.ref fa) ⟨[.ref a],[]⟩) (fun r s'=>r= .ok (.ret (.bool true))∧OldK s₁.heap s'.heap∧s'.os=s₁.os∧AllBare s'.gens) s₁:=by
 have rv:=BL hi
 have lF:=hi.length
 have core: ∀H:Hp,wz H→aC K H a (ns.map V.int)→bH P w H s₁.heap→(∀b,H b≠none→b=a)→(H a≠none→K.lookup a=none)→
   codeAny (model P w) callerA (.call (.ref fa) ⟨[.ref a],[]⟩) (fun r s'=>r= .ok (.ret (.bool true))∧OldK s₁.heap s'.heap∧s'.os=s₁.os∧AllBare s'.gens) s₁:=by
  intro H hO hS aE hA hK
  have je: ∀{b:Addr} {o:Obj},s₁.heap.get? b=some o→H b=none→(i6 s₁.heap H).get? b=some o:=fun e n=>Hg e n
  have pG: ∀{b:Addr} {o:Obj} {es:Array DictEntry} {ep:Nat},s₁.heap.get? b=some o→o.data= .dict es ep→H b=none:=fun {b o es ep} e d=>by
   cases q:H b with
   | none=>rfl
   | some u=>
    have e':b=a:=hA b (by rw[q];simp)
    subst e'
    rw[ha] at e;cases e
    have d':Data.seq vs.toArray _=Data.dict es ep:=d
    cases d'
  have tq: ∀{b:Addr} {m:Str→Option Value},s₁.heap.Ns b m→(i6 s₁.heap H).Ns b m:=fun {b m} ⟨o,es,ep,e,d,r⟩=> ⟨o,es,ep,je e (pG e d),d,r⟩
  have BM:K.In (i6 s₁.heap H):=fun b o e=>je (KX b o e) (by
   cases q:H b with
   | none=>rfl
   | some u=>
    have e':b=a:=hA b (by rw[q];simp)
    subst e'
    rw[hK (by rw[q];simp)] at e;cases e)
  have hM:Mod K mg (i6 s₁.heap H):=⟨BM,tq lE,⟨mb,tq hb,JW⟩,let ⟨mc,h1,h2⟩:=JX;⟨mc,tq h1,h2⟩⟩
  have e0:nA P w K mg (i6 s₁.heap H) callerA [] s₁ H:=⟨rfl,hM,fun b o e=>Hh e,Nat.le_of_eq (Hf _ _),trivial,fun b hb=>absurd (show b∈ ([]:List Addr) from hb) (by simp),aE, .of_eq hg⟩
  refine codeAny_mono ((F _ BM (tq lE)).run callerA [] s₁ H ⟨[.ref a],[]⟩ [.ref a] [.ref a] _ _ hr e0 (JY s₁ (.ref a)) (.cons rfl .nil) (fL H hO hS)) fun r s' h=> ?_
  cases r with
  | error e=>exact(wA H e s' h).elim
  | ok fl=>
   cases fl with
   | next=>exact False.elim h
   | brk=>exact False.elim h
   | cont=>exact False.elim h
   | ret u=>
    obtain⟨v,H',os,bare,un,JZ,r',q⟩:=h
    have q':v= .bl true:=q
    subst q'
    obtain rfl:u=Value.bool true:=r'
    refine⟨rfl,OldK.of_keep fun b o e=> ?_,os,bare⟩
    cases q:H b with
    | none=>exact un.keep b o e q (by intro z;exact absurd (show b∈ ([]:List Addr) from z) (by simp)) (by simp)
    | some u=>
     rcases hO b with z | ⟨ob,xs,z⟩
     ·rw[q] at z;cases z
     ·have z2:=un.dM b ob _ z
      obtain⟨e1,_⟩:=aE b _ z
      obtain⟨e2,_⟩:=JZ b _ z2
      rw[e] at e1;cases e1
      exact e2
 cases hk:K.lookup a with
 | some o=>
  have e:=KX a o hk
  rw[ha] at e
  cases e
  refine core (fun _=>none) (fun _=> .inl rfl) (.inr ⟨_,vs.toArray,_,hk,rfl,rfl,rfl,by rw[List.size_toArray,lF];exact hl,by simpa using rv⟩) (fun b u z=>by have z':(none:Option HO)=some u:=z;cases z') (fun b z=>absurd rfl z) fun z=>absurd rfl z
 | none=>
  refine core (fun b=>if b=a then some (.bA {cls:= .type "list",data:= .seq vs.toArray} (.lst (ns.map V.int))) else none) (fun b=> ?_) (.inl (.inr ⟨{cls:= .type "list",data:= .seq vs.toArray},if_pos rfl⟩)) (fun b u z=> ?_) (fun b z=> ?_) fun _=>hk
  ·by_cases hb:b=a
   ·exact .inr ⟨_,_,if_pos hb⟩
   ·exact .inl (if_neg hb)
  ·by_cases hb:b=a
   ·have z':=(if_pos hb).symm.trans z
    cases z'
    subst hb
    exact⟨ha,by rw[List.length_map];exact hl,vs,_,rv,ha⟩
   ·have z':=(if_neg hb).symm.trans z
    cases z'
  ·by_cases hb:b=a
   ·exact hb
   ·exact absurd (if_neg hb) z
theorem J0{l:PySem.W.OpenLaw}{n k:Nat}{q:Program}{loose:List Str}{XP:(Str→Option Value)→Heap→Prop}{YP:World→Heap→Prop}{d:DefRec}{K:Params→Frag}{CX:World→bw}{sp:World→Sp}{x:Str}
  (hn:l.most=some n) (BN:n≤sizeLine) (pM:d.params.defaults=[]) (hr:c_ k callerA)
  (hY: ∀(w:World) (h:Heap),YP w h→(K w.params).In h)
  (F: ∀(w:World) (mg:Str→Option Value) (fa:Addr) (h:Heap),(K w.params).In h→h.Ns mainGlobals mg→mg d.name=some (.ref fa)→
   ∃fd:FuncData,(∀(s:Shared) (u:Value),BindsTo s fd ⟨[u],[]⟩ [(x,u)])∧
    ∀base:Heap,(K w.params).In base→base.Ns mainGlobals mg→da l.prog w (K w.params) mg base (CX w) k fa fd [x] (sp w))
  (fL: ∀(w:World) (H:Hp) (a:Addr) (ns:List Int),ns.length≤n→wz H→aC (K w.params) H a (ns.map V.int)→sp w [.ref a] H (fun v _=>v= .bl true) fun _ _ _=>False)
  (wA: ∀(w:World) (H:Hp) (s:Shared) (e:Value) (s':Shared),CX w [] H s (fun _ _ _=>False) e s'→False):
  PySem.W.WalkO q loose XP YP l.row.toRowW d [] (fun f vs=>PySem.call f vs):=by
 refine BK.JU hn pM fun w s₀ s₁ mg mb fa o pm cd doc a vs ns G Y ho hd fI jd wy hints hlen hg=> ?_
 have KX:=hY w _ Y
 obtain⟨fd,hb,hF⟩:=F w mg fa _ KX G.T.g jd
 exact JV KX G.T.g G.T.b G.T.builtins G.T.nolimit hg wy hints (Nat.le_trans hlen BN) hr hF hb (fun H hO hS=>fL w H a ns hlen hO hS) fun H e s'=>wA w H s₁ e s'
end L2
namespace L2
open PySem PySem.Spec PyProof.Rows
def bF(s:Stmt):Arguments:=match s with
 | .FunctionDef _ a _ _ _ _ _ _ _ _=>a
 | _=> {posonlyargs:=[],args:=[],vararg:=none,kwonlyargs:=[],kw_defaults:=[],kwarg:=none,defaults:=[]}
def bh(s:Stmt):List Stmt:=match s with
 | .FunctionDef _ _ b _ _ _ _ _ _ _=>b
 | _=> []
def aM(s:Stmt):Scope:=match s with
 | .FunctionDef _ _ _ _ _ _ sc _ _ _=>sc
 | _=> {kind:= .function,names:=[],isGenerator:=false,isCoroutine:=false}
abbrev tu:bw:=fun _ _ _ _ _ _=>False
abbrev E0:XK:=fun _ _ _=>False
structure jS (K:Frag) (x qual:Str) (st:Stmt) (f:Addr) (fd:FuncData):Prop where
 ex: ∃(oc:Value) (od:Option Addr) (kV doc pm:Value) (an:Option Addr) (bE ct:Value) (gP:Array (Option Value)),
  fd=fnOf x qual (bF st) (bh st) (aM st) .none kV doc pm an bE ct∧K.lookup f=some ⟨oc,od, .func fd,gP⟩∧codeIn K bE qual=true
 kp:keepIn K (.ref f)=true
section
variable {P:Program} {w:World} {K:Frag} {mg:Str→Option Value} {base:Heap}
theorem jS.binds{x qual:Str}{st:Stmt}{f:Addr}{fd:FuncData}{ps:List Str}(F:jS K x qual st f fd)
  (h: ∀(kV doc pm:Value) (an:Option Addr) (bE ct:Value) (us:List Value),us.length=ps.length→bindArgs (fnOf x qual (bF st) (bh st) (aM st) .none kV doc pm an bE ct) ⟨us,[]⟩=pure (ps.zip us)):Binds K fd ps []:=by
 obtain⟨oc,od,kV,doc,pm,an,bE,ct,gP,rfl,lk,fI⟩:=F.ex
 exact .all (h kV doc pm an bE ct)
theorem cc{x qual:Str}{st:Stmt}{f:Addr}{oc:Value}{od an:Option Addr}{gP:Array (Option Value)}{kV doc pm bE ct:Value}(l:K.lookup f=some ⟨oc,od, .func (fnOf x qual (bF st) (bh st) (aM st) .none kV doc pm an bE ct),gP⟩)
  (c:codeIn K bE qual=true) (k:keepIn K (.ref f)=true):jS K x qual st f (fnOf x qual (bF st) (bh st) (aM st) .none kV doc pm an bE ct):=⟨⟨oc,od,kV,doc,pm,an,bE,ct,gP,rfl,l,c⟩,k⟩
end
section
variable {X:Cx}
end
theorem nC{A B:Prop}(h:B):if false=true then A else B:=by
 rw[if_neg Bool.false_ne_true]
 exact h
theorem jf{A B:Prop}(h:A):if true=true then A else B:=by
 rw[if_pos rfl]
 exact h
theorem wB{c A B:Prop}[Decidable c](h1:c→A)(h2: ¬c→B):if c then A else B:=by
 by_cases h:c
 ·rw[if_pos h]
  exact h1 h
 ·rw[if_neg h]
  exact h2 h
def ay(H H':Hp):Prop:= ∀b o,H b=some o→H' b=some o
theorem ay.refl(H:Hp):ay H H:=fun _ _ h=>h
theorem ay.trans{H H1 H2:Hp}(a:ay H H1)(b:ay H1 H2):ay H H2:=fun c o h=>b c o (a c o h)
theorem ay.free{H H':Hp}(e:ay H H'){l:Addr}(h:H' l=Option.none):H l=Option.none:=by
 cases q:H l with
 | none=>rfl
 | some o=>
  rw[e l o q] at h
  cases h
theorem ay.seq{K:Frag}{H H':Hp}{a:Addr}{xs:List V}(e:ay H H')(h:aC K H a xs):aC K H' a xs:=by
 rcases h with(h | ⟨o,h⟩) | h
 ·exact .inl (.inl (e _ _ h))
 ·exact .inl (.inr ⟨o,e _ _ h⟩)
 ·exact .inr h
section
variable {κ:Type} [DecidableEq κ]
def gk(ar:List (κ×V))(k:κ):Option V:=(ar.find? fun kv=>decide (kv.1=k)).map (·.2)
def putK(ar:List (κ×V))(k:κ)(v:V):List (κ×V):=
 if (ar.any fun kv=>decide (kv.1=k))=true then ar.map (fun kv=>if kv.1=k then (kv.1,v) else kv) else ar++ [(k,v)]
theorem wC{p:κ×V}{r:List (κ×V)}{k:κ}(e:p.1=k):gk (p::r) k=some p.2:=by simp[gk,List.find?_cons,e]
theorem nE{p:κ×V}{r:List (κ×V)}{k:κ}(e: ¬p.1=k):gk (p::r) k=gk r k:=by simp[gk,List.find?_cons,e]
theorem BO(k:κ): ∀ar:List (κ×V),(ar.any fun kv=>decide (kv.1=k))=(gk ar k).isSome
 | []=>rfl
 | p::r=>by
  rw[List.any_cons]
  by_cases e:p.1=k
  ·simp only[wC e,decide_eq_true e,Bool.true_or,Option.isSome_some]
  ·rw[nE e,decide_eq_false e,Bool.false_or];exact BO k r
theorem wD(ar:List (κ×V))(k:κ)(v:V):(putK ar k v).length≤ar.length+1:=by
 unfold putK
 split
 ·rw[List.length_map];omega
 ·rw[List.length_append,List.length_cons,List.length_nil];omega
theorem i5.J3{o:Option V}{u:Option Value}(r:i5 o u):o.isSome=u.isSome:=by
 cases o with
 | none=>cases u with
  | none=>rfl
  | some _=>exact(show False from r).elim
 | some _=>cases u with
  | none=>exact(show False from r).elim
  | some _=>rfl
theorem i5.getD{o:Option V}{u:Option Value}{d:V}{d':Value}(r:i5 o u)(rd:RelV d d'):RelV (o.getD d) (u.getD d'):=by
 cases o with
 | none=>cases u with
  | none=>exact rd
  | some _=>exact(show False from r).elim
 | some _=>cases u with
  | none=>exact(show False from r).elim
  | some _=>exact r
theorem KV.val{ar:List (κ×V)}{vs:List (κ×Value)}(r:KV ar vs)(k:κ):i5 (gk ar k) (valueAt vs k):=by
 unfold KV at r
 induction r with
 | nil=>exact True.intro
 | @cons p q ps qs h t ih=>
  obtain⟨h1,h2⟩:=h
  by_cases e:p.1=k
  ·have e':q.1=k:=h1.symm.trans e
   have b:valueAt (q::qs) k=some q.2:=by simp[valueAt,List.find?_cons,e']
   rw[wC e,b];exact h2
  ·have e': ¬q.1=k:=fun z=>e (h1.trans z)
   have b:valueAt (q::qs) k=valueAt qs k:=by simp[valueAt,List.find?_cons,e']
   rw[nE e,b];exact ih
theorem KV.any{ar:List (κ×V)}{vs:List (κ×Value)}(r:KV ar vs)(k:κ):(ar.any fun kv=>decide (kv.1=k))=vs.any fun kv=>decide (kv.1=k):=by
 unfold KV at r
 induction r with
 | nil=>rfl
 | cons h t ih=>rw[List.any_cons,List.any_cons,ih,h.1]
theorem KV.wF{ar:List (κ×V)}{vs:List (κ×Value)}(r:KV ar vs)(k:κ){y:V}{u:Value}(ry:RelV y u):
  KV (ar.map fun kv=>if kv.1=k then (kv.1,y) else kv) (vs.map fun kv=>if kv.1=k then (kv.1,u) else kv):=by
 unfold KV at r⊢
 induction r with
 | nil=>exact .nil
 | @cons p q ps qs h t ih=>
  rw[List.map_cons,List.map_cons]
  refine .cons ?_ ih
  obtain⟨h1,h2⟩:=h
  by_cases e:p.1=k
  ·rw[if_pos e,if_pos (h1.symm.trans e)];exact⟨h1,ry⟩
  ·rw[if_neg e,if_neg (fun z=>e (h1.trans z))];exact⟨h1,h2⟩
theorem KV.put{ar:List (κ×V)}{vs:List (κ×Value)}(r:KV ar vs)(k:κ){y:V}{u:Value}(ry:RelV y u):KV (putK ar k y) (stored vs k u):=by
 unfold putK stored
 rw[r.any k]
 by_cases e:(vs.any fun kv=>decide (kv.1=k))=true
 ·rw[if_pos e,if_pos e];exact r.wF k ry
 ·rw[if_neg e,if_neg e];exact Paired.snoc r ⟨rfl,ry⟩
theorem KV.length{ar:List (κ×V)}{vs:List (κ×Value)}(r:KV ar vs):ar.length=vs.length:=Paired.length r
end
theorem tw{P:Program}{w:World}{k:Key}{u:Value}(r:RelV (kV k) u):(cY P w).is k u=true:=by
 cases k with
 | inl i=>obtain⟨t,e⟩:=(show ∃t,u=Value.int i t from r);subst e;exact Ar P w i t
 | inr x=>obtain⟨t,e⟩:=(show ∃t,u=Value.str x t from r);subst e;exact As P w x t
theorem BP{P:Program}{w:World}: ∀{ks:List Key} {us:List Value},Vals (ks.map kV) us→ItemsAre (cY P w) ks us
 | [],_,r=>by rw[List.map_nil] at r;cases r;exact .nil
 | k::ks,_,r=>by
  rw[List.map_cons] at r
  cases r with
  | cons h t=>exact .cons (tw h) (BP t)
abbrev KT(H:Hp):List (List Key×V)→List (List Key×Addr×Value)→Prop:=Paired fun p q=>p.1=q.1∧H q.2.1=some (.tup (p.1.map kV))∧RelV p.2 q.2.2
theorem KT.val{H:Hp}{ar:List (List Key×V)}{xs:List (List Key×Addr×Value)}(r:KT H ar xs)(k:List Key):i5 (gk ar k) ((atKey xs k).map (·.2)):=by
 induction r with
 | nil=>exact True.intro
 | @cons p q ps qs h t ih=>
  obtain⟨h1,_,h2⟩:=h
  by_cases e:p.1=k
  ·have e':q.1=k:=h1.symm.trans e
   have b:atKey (q::qs) k=some q.2:=by simp[atKey,List.find?_cons,e']
   rw[wC e,b];exact h2
  ·have e': ¬q.1=k:=fun z=>e (h1.trans z)
   have b:atKey (q::qs) k=atKey qs k:=by simp[atKey,List.find?_cons,e']
   rw[nE e,b];exact ih
theorem KT.wF{H:Hp}{ar:List (List Key×V)}{xs:List (List Key×Addr×Value)}(r:KT H ar xs)(k:List Key){y:V}{u:Value}(ry:RelV y u):
  KT H (ar.map fun kv=>if kv.1=k then (kv.1,y) else kv) (xs.map (putAt k u)):=by
 induction r with
 | nil=>exact .nil
 | @cons p q ps qs h t ih=>
  rw[List.map_cons,List.map_cons]
  refine .cons ?_ ih
  obtain⟨h1,h2,h3⟩:=h
  unfold putAt
  by_cases e:p.1=k
  ·rw[if_pos e,if_pos (h1.symm.trans e)];exact⟨h1,h2,ry⟩
  ·rw[if_neg e,if_neg (fun z=>e (h1.trans z))];exact⟨h1,h2,h3⟩
theorem KT.put{H:Hp}{ar:List (List Key×V)}{xs:List (List Key×Addr×Value)}(r:KT H ar xs)(k:List Key){b:Addr}{y:V}{u:Value}(hb:H b=some (.tup (k.map kV)))(ry:RelV y u):
  KT H (putK ar k y) (storedH xs k b u):=by
 have e:(ar.any fun kv=>decide (kv.1=k))=(atKey xs k).isSome:=by
  rw[BO,(r.val k).J3,Option.isSome_map]
 unfold putK storedH
 rw[e]
 by_cases q:(atKey xs k).isSome=true
 ·rw[if_pos q,if_pos q];exact r.wF k ry
 ·rw[if_neg q,if_neg q];exact Paired.snoc r ⟨rfl,hb,ry⟩
theorem KT.keeps{H H':Hp}{ar:List (List Key×V)}{xs:List (List Key×Addr×Value)}(r:KT H ar xs)(ht: ∀b ys,H b=some (.tup ys)→H' b=some (.tup ys)):KT H' ar xs:=
 Paired.vJ r fun _ _ z=> ⟨z.1,ht _ _ z.2.1,z.2.2⟩
section
variable {P:Program} {w:World} {H:Hp} {h:Heap} {a:Addr}
theorem BQ{u:HO}(ok:bH P w H h)(e:Rd H a u):bS P w H h a u:=e.ok ok
theorem wG{ar:List (Key×V)}(ok:bH P w H h)(e:Rd H a (.dK ar)):ar.length≤sizeLine∧(a==sysModules)=false∧ ∃vs,KV ar vs∧h.DictOf (cY P w) a vs:=
 show bS P w H h a (.dK ar) from BQ ok e
theorem BR{ar:List (Key×V)}(ok:bH P w H h)(e:H a=some (.dK ar)):ar.length≤sizeLine∧(a==sysModules)=false∧ ∃vs,KV ar vs∧h.DictOf (cY P w) a vs:=wG ok (.inl e)
theorem wH{ks:List Key}(ok:bH P w H h)(e:H a=some (.tup (ks.map kV))):(tupleKind (cY P w)).is h ks a:=by
 obtain⟨_,its,r,o,h1,h2,n,h3⟩:=(show bS P w H h a (.tup (ks.map kV)) from ok a _ e)
 exact⟨o,its.toArray,n,h1,h2,h3,by simpa using BP r⟩
theorem wI{ar:List (List Key×V)}(ok:bH P w H h)(e:Rd H a (.dT ar)):ar.length≤sizeLine∧(a==sysModules)=false∧
  ∃xs,KT H ar xs∧h.DictOfH (tupleKind (cY P w)) a xs:=by
 obtain⟨z,y,xs,r,o,es,ep,h1,h2,h3,h4,h5⟩:=(show bS P w H h a (.dT ar) from BQ ok e)
 refine⟨z,y,xs,r,o,es,ep,h1,h2,h3,h4,fun x hx=> ?_,h5⟩
 have all: ∀{l:List (List Key×V)} {m:List (List Key×Addr×Value)},KT H l m→ ∀x∈m,(tupleKind (cY P w)).is h x.1 x.2.1:=by
  intro l m q
  induction q with
  | nil=>intro x hx;exact nomatch hx
  | @cons p q ps qs hq t ih=>
   intro x hx
   rcases List.mem_cons.mp hx with e | hx
   ·subst e
    exact wH ok (by rw[←hq.1];exact hq.2.1)
   ·exact ih x hx
 exact all r x hx
theorem J4{ar:List (List Key×V)}(ok:bH P w H h)(e:H a=some (.dT ar)):ar.length≤sizeLine∧(a==sysModules)=false∧
  ∃xs,KT H ar xs∧h.DictOfH (tupleKind (cY P w)) a xs:=wI ok (.inl e)
end
def jg(H:Hp)(a:Addr)(y:V)(r:Option V):Prop:=
 (∃ar k,Rd H a (.dK ar)∧y=kV k∧r=gk ar k)∨ ∃ar k b,Rd H a (.dT ar)∧y= .ref b∧H b=some (.tup (k.map kV))∧r=gk ar k
def lG(H:Hp)(a:Addr)(y v:V)(H':Hp):Prop:=
 (∃ar k,H a=some (.dK ar)∧y=kV k∧ar.length<sizeLine∧H'=upd H a (.dK (putK ar k v)))∨
 ∃ar k b,H a=some (.dT ar)∧y= .ref b∧H b=some (.tup (k.map kV))∧ar.length<sizeLine∧H'=upd H a (.dT (putK ar k v))
theorem jg.k{H:Hp}{a:Addr}{ar:List (Key×V)}{k:Key}(e:H a=some (.dK ar)):jg H a (kV k) (gk ar k):= .inl ⟨ar,k, .inl e,rfl,rfl⟩
theorem lG.k{H:Hp}{a:Addr}{ar:List (Key×V)}{k:Key}{v:V}(e:H a=some (.dK ar))(hl:ar.length<sizeLine):lG H a (kV k) v (upd H a (.dK (putK ar k v))):= .inl ⟨ar,k,e,rfl,hl,rfl⟩
section
variable {X:Cx} {pins:List (Addr×Obj)} {σ:St} {H:Hp} {s:Shared} {a:Addr} {y v:V} {u r:Value} {o:Option V} {A:Around} {E:Value→Shared→Prop}
theorem Inv.big(I:Inv X pins σ H s):sysModules<s.heap.objs.size:=by
 have h:mainGlobals<s.heap.objs.size:=(I.mod.glob.keeps I.bk).lt
 exact Nat.lt_trans (by decide) h
theorem wJ{h':Heap}{t':Nat}{ob:HO}(I:Inv X pins σ H s)(mu:pq (H a))(hs:Heap.SameBut a s.heap h')(he: ∃q,h'.get? a=some q)(new:bS X.prog X.w (upd H a ob) h' a ob):
  Inv X pins σ (upd H a ob) {s with heap:=h',toks:=t'}:=
 I.write (x:=a) (e:=a) mu (.inl rfl) (fun b q hb z=> (hs.2 b hb).trans z) he new
theorem BS{P:Program}{w:World}{H':Hp}{h':Heap}{ar:List (Key×V)}{vs:List (Key×Value)}(z:ar.length≤sizeLine)(hd:(a==sysModules)=false)(rel:KV ar vs)(dd:h'.DictOf (cY P w) a vs):
  bS P w H' h' a (.dK ar):=⟨z,hd,vs,rel,dd⟩
theorem J5{H':Hp}{Q:Unit→Shared→Prop}(hu:A.units+1<cLine)(I:Inv X pins σ H s)(g:lG H a y v H')(ry:RelV y u)(rv:RelV v r)(h: ∀s',Inv X pins σ H' s'→Q () s'):
  wpAny (model X.prog X.w) A (setItem (.ref a) u r) Q E s:=by
 rcases g with⟨ar,k,e,ey,l,eH⟩ | ⟨ar,k,b,e,ey,eb,l,eH⟩
 ·subst ey eH
  obtain⟨z,hd,vs,rel,dd⟩:=BR I.aE e
  have hz:vs.length≤sizeLine:=by rw[←rel.length];exact z
  have hl:(putK ar k v).length≤sizeLine:=by have:=wD ar k v;omega
  refine wpAny_setItem_pairs (hsz:=hz) (tw ry) dd fun h' lH hs=>h _ ?_
  have he: ∃q,h'.get? a=some q:=let ⟨q,_,_,hq,_⟩:=lH;⟨q,hq⟩
  exact wJ I (by rw[e];exact True.intro) hs he (BS hl hd (rel.put k rv) lH)
 ·subst ey eH
  cases (show u=Value.ref b from ry)
  obtain⟨z,hd,xs,rel,dd⟩:=J4 I.aE e
  have hz:xs.length≤sizeLine:=by rw[←Paired.length rel];exact z
  have hl:(putK ar k v).length≤sizeLine:=by have:=wD ar k v;omega
  refine wpAny_setItem_heap (hsz:=hz) (tupleKind_room_in1 hu) (wH I.aE eb) dd fun h' lH hs=>h _ ?_
  obtain⟨q,es,ep,hq,h2,h3,h4,_,h5⟩:=lH
  refine wJ I (by rw[e];exact True.intro) hs ⟨q,hq⟩ ⟨hl,hd,_,(rel.put k eb rv).keeps fun c ys ec=> ?_,q,es,ep,hq,h2,h3,h4,h5⟩
  rw[bc (Hb ec e (fun z=>nomatch z))]
  exact ec
end
section
variable {X:Cx} {pins:List (Addr×Obj)} {σ:St} {H:Hp} {s:Shared} {a:Addr} {ar:List (Key×V)} {k:Key} {u:Value} {A:Around} {E:Value→Shared→Prop}
end
def J6(td ty:TE):TE:=fun σ H Q=>td σ H fun x H1=>ty σ H1 fun y H2=> ∃a v,x= .ref a∧jg H2 a y (some v)∧Q v H2
def BU(ty td:TE):TE:=fun σ H Q=>ty σ H fun y H1=>td σ H1 fun x H2=> ∃a o,x= .ref a∧jg H2 a y o∧Q (.bl o.isSome) H2
def BV(ty td:TE):TE:=fun σ H Q=>ty σ H fun y H1=>td σ H1 fun x H2=> ∃a o,x= .ref a∧jg H2 a y o∧Q (.bl (!o.isSome)) H2
def BW(td ty tv:TE):TS:=fun D σ H=>tv σ H fun v H1=>td σ H1 fun x H2=>ty σ H2 fun y H3=> ∃a H4,x= .ref a∧lG H3 a y v H4∧D.nx σ H4
section
variable {X:Cx} {o i e value:Expr} {pos pos' v9:Pos} {td ty tv:TE}
theorem J7(hu:X.A.units+1<cLine)(ho:PE X o td)(hi:PE X i ty)(hv:PE X value tv)(hs:swapsWith value (some (.Subscript o i pos')) pos.line X.env=pure false):
  PS X (.Assign [.Subscript o i pos'] value pos) (BW td ty tv):=by
 intro pins s σ H D I h
 refine wpAny_Assign_Subscript (aJ (hv pins s σ H _ I h) fun r s1 ⟨v,H1,I1,rv,q1⟩=>aJ (ho pins s1 σ H1 _ I1 q1) fun u s2 ⟨x,H2,I2,rx,q2⟩=>aJ (hi pins s2 σ H2 _ I2 q2) fun iv s3 ⟨y,H3,I3,ry,a,H4,ex,g,q3⟩=> ?_) hs
 subst ex
 obtain rfl:u=Value.ref a:=rx
 exact J5 hu I3 g ry rv fun s4 I4=> ⟨σ,H4,I4,q3⟩
end
theorem J8{P:Program}{w:World}{H:Hp}(h:Heap)(hb:sysModules<h.objs.size):bS P w H (h.push {cls:= .type "dict",data:= .dict #[]}) h.objs.size (.dK []):=
 ⟨Nat.zero_le _,beq_eq_false_iff_ne.mpr (Ne.symm (Nat.ne_of_lt hb)),[], .nil,Heap.DictOf.new h⟩
def J9:TE:=fun _ H Q=> ∀p,H p=none→Q (.ref p) (upd H p (.dT []))
section
variable {X:Cx} {pos:Pos}
end
structure M2 (X:Cx) (o:Expr) (m:Str) (apos:Pos) (e f:Expr) (cK:Pos):Prop where
 base:attributeBase o m X.env (eval o X.env)=eval o X.env
 J_:((backTo cK (starEach [e,f] X.env)).all (fun x=> !x.1) && (backToKw cK (keywordEach [] X.env)).all (fun x=>x.1.isSome)
  && decide (([e,f]:List Expr).length+ ([]:List Keyword).length+ (if ([]:List Keyword).isEmpty then 0 else 1) <30))=true
 line:(apos.endLine==cK.line)=true
 trees:backTo cK (starEach [e,f] X.env)=[(false,eval e X.env),(false,eval f X.env)]
def wK(H:Hp)(a:Addr):Prop:=(∃ar,Rd H a (.dK ar))∨ ∃ar,Rd H a (.dT ar)
theorem Ka{X:Cx}{pins:List (Addr×Obj)}{σ:St}{H:Hp}{s:Shared}{a:Addr}(I:Inv X pins σ H s)(d:wK H a):
  s.TypeIs (.ref a) "dict"∧(∀b,Value.ref a= .ref b→ ∃ob,s.heap.get? b=some ob∧ob.dict=none)∧(a==sysModules)=false:=by
 rcases d with⟨ar,e⟩ | ⟨ar,e⟩
 ·obtain⟨_,hd,vs,_,dd⟩:=wG I.aE e
  refine⟨dd.typeIs,fun b q=> ?_,hd⟩
  cases q
  obtain⟨ob,_,_,h1,h2,_⟩:=dd
  exact⟨ob,h1,h2.2.1⟩
 ·obtain⟨_,hd,xs,_,dd⟩:=wI I.aE e
  refine⟨dd.typeIs,fun b q=> ?_,hd⟩
  cases q
  obtain⟨ob,_,_,h1,h2,_⟩:=dd
  exact⟨ob,h1,h2.2.1⟩
section
variable {X:Cx} {pins:List (Addr×Obj)} {σ:St} {H:Hp} {s:Shared} {a:Addr} {y d:V} {u r:Value} {o:Option V} {A:Around} {E:Value→Shared→Prop}
theorem Kb{Q:Value→Shared→Prop}(hu:A.units+1<cLine)(I:Inv X pins σ H s)(g:jg H a y o)(ry:RelV y u)(rd:RelV d r)(h: ∀w' s',Inv X pins σ H s'→RelV (o.getD d) w'→Q w' s'):
  wpAny (model X.prog X.w) A (call (.builtin "dict.get") [.ref a,u,r]) Q E s:=by
 rcases g with⟨ar,k,e,ey,l⟩ | ⟨ar,k,b,e,ey,eb,l⟩
 ·subst ey
  obtain⟨z,hd,vs,rel,dd⟩:=wG I.aE e
  refine call_meetsIn PySem.F.slot_dict_get dd.typeIs PySem.F.entry_dict_get (PySem.F.args_dict_get_3 _ _ _) (meets_dict_get_default (cY X.prog X.w) a (tw ry) hd r) ⟨_,dd.mapOf,h _ _ (I.tok _) ?_⟩
  rw[l]
  exact(rel.val k).getD rd
 ·subst ey
  cases (show u=Value.ref b from ry)
  obtain⟨z,hd,xs,rel,dd⟩:=wI I.aE e
  refine call_meetsIn PySem.F.slot_dict_get dd.typeIs PySem.F.entry_dict_get (PySem.F.args_dict_get_3 _ _ _) (meetsH_dict_get_default (tupleKind (cY X.prog X.w)) a b hd r) ⟨tupleKind_room_in1 hu,k,xs,wH I.aE eb,dd,h _ _ (I.tok _) ?_⟩
  rw[l]
  exact(rel.val k).getD rd
end
def BX(td ty tx:TE):TE:=fun σ H Q=>td σ H fun x H1=> ∃a,x= .ref a∧wK H1 a∧ty σ H1 fun y H2=>tx σ H2 fun z H3=> ∃o,jg H3 a y o∧Q (o.getD z) H3
section
variable {X:Cx} {o e f:Expr} {apos cK:Pos} {td ty tx:TE}
theorem Kc(hu:X.A.units+1<cLine)(ho:PE X o td)(he:PE X e ty)(hf:PE X f tx)(m:M2 X o "get" apos e f cK):PE X (.Call (.Attribute o "get" apos) [e,f] [] cK) (BX td ty tx):=by
 intro pins s σ H Q I h
 refine wpAny_Call_method m.base m.J_ m.line PySem.F.plainAttrs_dict PySem.F.slot_dict_get PySem.F.type_dict_get (aJ (ho pins s σ H _ I h) fun u s1 ⟨x,H1,I1,rx,a,ex,d,q1⟩=> ?_)
 subst ex
 obtain rfl:u=Value.ref a:=rx
 obtain⟨t1,t2,_⟩:=Ka I1 d
 refine⟨t1,t2, ?_⟩
 rw[m.trees]
 refine Calls.callWith_builtin rfl (Calls.evalArgs_plain (Calls.spliced_cons (aJ (he pins s1 σ H1 _ I1 q1) fun iv s2 ⟨y,H2,I2,ry,q2⟩=>
  Calls.spliced_cons (aJ (hf pins s2 σ H2 _ I2 q2) fun fv s3 ⟨z,H3,I3,rz,ov,g,q3⟩=>Calls.spliced_nil ?_))))
 exact Kb hu I3 g ry rz fun w' s4 I4 jb=> ⟨_,H3,I4,jb,q3⟩
end
end L2
set_option maxHeartbeats 4000000
namespace L2
open PySem PySem.Spec PyProof.Rows
section
variable {X:Cx} {pins:List (Addr×Obj)} {σ:St} {H:Hp} {s:Shared} {a:Addr} {o:HO}
theorem Inv.BY(I:Inv X pins σ H s)(hn:H a=none)(h0:X.s₀.heap.objs.size≤a)(hL:a≠X.env.locals)(hC: ∀x c,X.env.cells.lookup x=some c→c≠a)
  (hp: ∀p∈X.pn++pins,p.1≠a) (new:bS X.prog X.w (upd H a o) s.heap a o):Inv X pins σ (upd H a o) s:=by
 have Kd: ∀b u,X.s₀.heap.get? b=some u→b≠a:=fun b u e=>Nat.ne_of_lt (Nat.lt_of_lt_of_le (Heap.lt_size e) h0)
 have pN: ∀b u,H b=some u→b≠a:=fun b u e=>cO e hn
 refine⟨I.ok,I.os,I.bare,⟨I.base.keep,I.base.slot,fun b u e n hx=> ?_,I.base.there,fun b xs e=> ?_,fun b u xs e=> ?_,fun b ps e=> ?_⟩,I.loc,I.cell, ?_,fun x c e=> ?_,fun p q=> ?_,fun b u e=> ?_,I.len⟩
 ·rw[bc (Kd b u e)];exact I.base.free b u e n hx
 ·have z:=I.base.ef b xs e
  rw[bc (pN b _ z)];exact z
 ·have z:=I.base.dM b u xs e
  rw[bc (pN b _ z)];exact z
 ·obtain⟨m,z⟩:=I.base.eg b ps e
  exact⟨m,by rw[bc (pN b _ z)];exact z⟩
 ·rw[bc (Ne.symm hL)];exact I.free
 ·rw[bc (hC x c e)];exact I.eK x c e
 ·obtain⟨z1,z2,z3⟩:=I.pin p q
  exact⟨z1,by rw[bc (hp p q)];exact z2,z3⟩
 ·by_cases hb:b=a
  ·subst hb;rw[az] at e;cases e;exact new
  ·rw[bc hb] at e
   exact(I.aE b u e).iu (fun _ _ _ q=>q) (fun c q=>by rw[bc (pN c _ q)];exact q) fun c xs q=>by rw[bc (pN c _ q)];exact q
end
def cR(cells:List (Str×Addr)):List (Str×NameKind)→List (Str×Addr)→List (Str×Addr)
 | [],acc=>acc
 | (n,k)::r,acc=>cR cells r (if k= .free then (n,(cells.lookup n).getD 0)::acc else acc)
theorem BZ(env:Env): ∀(names:List (Str×NameKind)) (acc:List (Str×Addr)),(∀y∈names,y.2= .free→ ∃c,env.cells.lookup y.1=some c)→
  (forIn names acc (fun(x:Str×NameKind) (cs:List (Str×Addr))=>match x with
   | (name,kind)=>if (kind==NameKind.free)=true then do let a ←cellOf env name;pure (ForInStep.yield ((name,a)::cs)) else pure (ForInStep.yield cs)):Sem (List (Str×Addr)))=pure (cR env.cells names acc)
 | [],acc,_=>rfl
 | (n,k)::r,acc,h=>by
  have hr:=fun wL=>BZ env r wL fun y hy=>h y (List.mem_cons_of_mem _ hy)
  rw[List.forIn_cons]
  by_cases hk:k= .free
  ·subst hk
   obtain⟨c,e⟩:=h (n, .free) List.mem_cons_self rfl
   have e':cellOf env n=pure c:=by unfold cellOf;rw[e]
   have ec:cR env.cells ((n, .free)::r) acc=cR env.cells r ((n,c)::acc):=by simp[cR,e]
   rw[ec,←hr]
   simp[e']
  ·have hb:(k==NameKind.free)=false:=by simpa using hk
   have ec:cR env.cells ((n,k)::r) acc=cR env.cells r acc:=by simp[cR,hk]
   rw[ec,←hr]
   simp[hb]
theorem Ke{scope:Scope}{env:Env}(h: ∀y∈scope.names,y.2= .free→ ∃c,env.cells.lookup y.1=some c):closureFor scope env=pure (cR env.cells scope.names []):=by
 have:=BZ env scope.names [] h
 simp only[closureFor]
 rw[←this]
 simp
theorem B_{cells:List (Str×Addr)}: ∀(names:List (Str×NameKind)) (acc:List (Str×Addr)) (x:Str) (c:Addr),(cR cells names acc).lookup x=some c→(acc.lookup x=some c)∨((x, .free)∈names∧(cells.lookup x).getD 0=c)
 | [],acc,x,c,h=> .inl h
 | (n,k)::r,acc,x,c,h=>by
  simp only[cR] at h
  rcases B_ r _ x c h with z | ⟨z1,z2⟩
  ·by_cases hk:k= .free
   ·subst hk
    simp only[if_true] at z
    rw[List.lookup_cons] at z
    by_cases hx:x==n
    ·simp only[hx] at z
     have Kf:x=n:=eq_of_beq hx
     subst Kf
     exact .inr ⟨List.mem_cons_self,Option.some.inj z⟩
    ·have dN:(x==n)=false:=by simpa using hx
     simp only[dN] at z
     exact .inl z
   ·simp only[if_neg hk] at z
    exact .inl z
  ·exact .inr ⟨List.mem_cons_of_mem _ z1,z2⟩
theorem wM{cells:List (Str×Addr)}: ∀(names:List (Str×NameKind)) (acc:List (Str×Addr)) (x:Str),((x,NameKind.free)∈names∨ ∃c,acc.lookup x=some c)→ ∃c,(cR cells names acc).lookup x=some c
 | [],acc,x,h=>by
  rcases h with h | h
  ·cases h
  ·exact h
 | (n,k)::r,acc,x,h=>by
  simp only[cR]
  refine wM r _ x ?_
  rcases h with h | ⟨c,h⟩
  ·rcases List.mem_cons.mp h with e | h
   ·cases e
    refine .inr ?_
    simp[List.lookup_cons]
   ·exact .inl h
  ·refine .inr ?_
   by_cases hk:k= .free
   ·simp only[if_pos hk,List.lookup_cons]
    cases hx:x==n
    ·exact⟨c,h⟩
    ·exact⟨_,rfl⟩
   ·simp only[if_neg hk];exact⟨c,h⟩
theorem Ca{env:Env}: ∀(names:List (Str×NameKind)) (x:Str),
  (names.map fun(n,k)=>if (k==NameKind.free && env.scope.kind== .function && env.kindOf n==some .cell) then (n,NameKind.cell) else (n,k)).lookup x=
   (names.lookup x).map fun k=>if (k==NameKind.free && env.scope.kind== .function && env.kindOf x==some .cell) then NameKind.cell else k
 | [],_=>rfl
 | (n,k)::r,x=>by
  have ih:=Ca (env:=env) r x
  show List.lookup x ((if (k==NameKind.free && env.scope.kind== .function && env.kindOf n==some .cell)=true then (n,NameKind.cell) else (n,k))::_)=_
  cases hx:x==n with
  | true=>
   have e:x=n:=eq_of_beq hx
   subst e
   by_cases hc:(k==NameKind.free && env.scope.kind== .function && env.kindOf x==some .cell)=true
   ·rw[if_pos hc];simp only[List.lookup_cons,beq_self_eq_true,Option.map_some];rw[if_pos hc]
   ·rw[if_neg hc];simp only[List.lookup_cons,beq_self_eq_true,Option.map_some];rw[if_neg hc]
  | false=>
   by_cases hc:(k==NameKind.free && env.scope.kind== .function && env.kindOf n==some .cell)=true
   ·rw[if_pos hc];simp only[List.lookup_cons,hx];exact ih
   ·rw[if_neg hc];simp only[List.lookup_cons,hx];exact ih
section
variable {prog:Program} {w:World} {A:Around} {R:Result→Shared→Prop} {s:Shared}
theorem Kg{elt target iter:Expr}{ifs:List Expr}{scope:Scope}{pos:Pos}{it acc:Value}{env:Env}(I:Nat→Shared→Prop)
  (turn: ∀n s,I n s→wpAny (model prog w) A (pyNext it) (fun r s₁=>match r with
   | none=>R (.ok .next) s₁
   | some v=>wpAny (model prog w) A (letOwnedTupleGo target it v) (fun _ Cb=>wpAny (model prog w) A (assign target env v) (fun _ s₂=>
     wpAny (model prog w) A (forIn ifs true fun c r=>if r=true then do let ok ←isTrue c env (eval c env);pure (ForInStep.yield ok) else pure (ForInStep.yield r)) (fun ok s₃=>
      if ok=true then wpAny (model prog w) A (eval elt env) (fun x s₄=>
       wpAny (model prog w) A (call (.builtin "list.append") [acc,x]) (fun _ s₅=> ∃m,m<n∧I m s₅) (fun _ _=>False) s₄) (fun _ _=>False) s₃
      else ∃m,m<n∧I m s₃) (fun _ _=>False) s₂) (fun _ _=>False) Cb) (fun _ _=>False) s₁) (fun _ _=>False) s)
  (n:Nat) (h:I n s):codeAny (model prog w) A (.compLoop (.ListComp elt [⟨target,iter,ifs,0⟩] scope pos) 0 it acc env) R s:=by
 refine codeAny_loop rfl I (fun n s hI=> ?_) n h
 show wpAny _ A ((compTurn (.ListComp elt [⟨target,iter,ifs,0⟩] scope pos) 0 it acc env).onRaise (fun x=>do noteFrame x env;theTreesLotGoes x)) _ _ s
 refine wpAny_noted ?_
 rw[compTurn_list]
 refine wpAny_bind (wpAny_standAt (wpAny_bind (wpAny_mono (turn n s hI) (fun r s₁ h₁=> ?_) fun _ _ h'=>h'.elim)))
 cases r with
 | none=>exact wpAny_pure h₁
 | some v=>
  refine wpAny_bind (wpAny_mono h₁ (fun _ Cb Kh=> ?_) fun _ _ h'=>h'.elim)
  refine wpAny_bind (wpAny_mono Kh (fun _ s₂ h₂=>wpAny_bind (wpAny_mono h₂ (fun ok s₃ h₃=> ?_) fun _ _ h'=>h'.elim)) fun _ _ h'=>h'.elim)
  cases ok with
  | false=>exact wpAny_pure ⟨rfl,h₃⟩
  | true=>
   exact wpAny_bind (wpAny_bind (wpAny_mono h₃ (fun x s₄ h₄=>wpAny_bind (wpAny_mono h₄ (fun _ s₅ h₅=>wpAny_pure (wpAny_pure ⟨rfl,h₅⟩)) fun _ _ h'=>h'.elim)) fun _ _ h'=>h'.elim))
end
def dU(X:Cx)(scope:Scope)(N:List Str)(ex:List Addr)(C:Addr)(s:Shared)(H:Hp):Cx where
 prog:=X.prog
 w:=X.w
 K:=X.K
 mg:=X.mg
 base:=X.base
 A:=X.A
 N:=N
 s₀:=s
 H₀:=H
 env:=compEnvC scope (cR X.env.cells scope.names []) C X.env
 outer:=X.stack
 stack:=X.stack
 ex:=ex
 fn:=fun _=>false
 calm:=X.calm
 pn:=[]
 xe:=fun _ _=>False
structure gT (X:Cx) (scope:Scope) (ln:List Str) (fv:List (Str×Nat)):Prop where
 kind:scope.kind= .function
 Cc: ∀y∈scope.names,y.2≠ .cell
 locals: ∀y∈scope.names,y.2= .local→scope.names.lookup y.1=some .local
 free: ∀y∈scope.names,y.2= .free→(X.env.kindOf y.1=some .cell∨X.env.kindOf y.1=some .free)
 Ki: ∀p∈fv,X.N[p.2]?=some p.1∧scope.names.lookup p.1=some .free
def bj(σ:St)(fv:List (Str×Nat)):St:=fv.map fun p=> (σ[p.2]?).join
def dB(K:Frag):Option Nat→V→Hp→(List V→Prop)→Prop
 | none,x,_,Q=>Q [x]
 | some n,x,H,Q=>if n=102 then ∃a xs,x= .ref a∧aC K H a xs∧xs.length=2∧Q xs else ∃a xs,x= .ref a∧aT K H a xs∧xs.length=n∧Q xs
theorem Kj{K:Frag}{n:Nat}{x:V}{H:Hp}{P Q:List V→Prop}(h:dB K (some n) x H P)(k: ∀xs,P xs→Q xs):dB K (some n) x H Q:=by
 by_cases e:n=102
 ·have h:if n=102 then ∃a xs,x= .ref a∧aC K H a xs∧xs.length=2∧P xs else ∃a xs,x= .ref a∧aT K H a xs∧xs.length=n∧P xs:=h
  show if n=102 then ∃a xs,x= .ref a∧aC K H a xs∧xs.length=2∧Q xs else ∃a xs,x= .ref a∧aT K H a xs∧xs.length=n∧Q xs
  rw[if_pos e] at h⊢;obtain⟨a,xs,e1,e2,e3,q⟩:=h;exact⟨a,xs,e1,e2,e3,k _ q⟩
 ·have h:if n=102 then ∃a xs,x= .ref a∧aC K H a xs∧xs.length=2∧P xs else ∃a xs,x= .ref a∧aT K H a xs∧xs.length=n∧P xs:=h
  show if n=102 then ∃a xs,x= .ref a∧aC K H a xs∧xs.length=2∧Q xs else ∃a xs,x= .ref a∧aT K H a xs∧xs.length=n∧Q xs
  rw[if_neg e] at h⊢;obtain⟨a,xs,e1,e2,e3,q⟩:=h;exact⟨a,xs,e1,e2,e3,k _ q⟩
def dW:Option TT→TT
 | none=>fun _ H k=>k true H
 | some t=>t
def jh(K:Frag)(wi:TI)(tk:Option Nat)(fv:List (Str×Nat))(tc:Option TT)(te:TE):TE:=fun σ H Q=>
 wi σ H fun J H1=> ∃W:Nat→Nat→List V→Hp→Prop,(∃m,W 0 m [] H1)∧ ∀i m ys H2,W i m ys H2→
  (J.stop i H2∧ ∀p,H2 p=none→Q (.ref p) (upd H2 p (.lst ys)))∨
  (J.go i H2∧ ∀x H3,J.cZ i H2 x H3→dB K tk x H3 fun xs=>
   dW tc (xs.map some++bj σ fv) H3 fun b H5=>
    if b=true then te (xs.map some++bj σ fv) H5 fun y H6=>ys.length<sizeLine∧ ∃m',m'<m∧W (i+1) m' (ys++ [y]) H6
    else ∃m',m'<m∧W (i+1) m' ys H5)
section
variable {X:Cx} {pins:List (Addr×Obj)} {σ:St} {H:Hp} {s₂ s₃:Shared} {scope:Scope} {ln:List Str} {fv:List (Str×Nat)} {fp:List Addr} {h₁:Heap} {D C:Addr} {m:Str→Option Value} {t:Nat}
theorem gT.cells(S:gT X scope ln fv)(I:Inv X pins σ H s₂){x:Str}{c:Addr}(h:(cR X.env.cells scope.names []).lookup x=some c):X.env.cells.lookup x=some c∧(x,NameKind.free)∈scope.names:=by
 rcases B_ _ _ _ _ h with z | ⟨z1,z2⟩
 ·cases z
 ·obtain⟨c',e⟩:=I.ok.has x (S.free _ z1 rfl)
  rw[e] at z2
  have z3:c'=c:=z2
  subst z3
  exact⟨e,z1⟩
theorem gT.Cd(S:gT X scope ln fv)(I:Inv X pins σ H s₂):closureFor scope X.env=pure (cR X.env.cells scope.names []):=
 Ke fun y hy hk=>I.ok.has y.1 (S.free y hy hk)
theorem Kk(S:gT X scope ln fv)(I:Inv X pins σ H s₂)(f2: ∀b∈fp,fK X pins H b)(lI: ∀b∈fp,∃o,s₂.heap.get? b=some o)
  (os:s₃.os=s₂.os) (gens:s₃.gens=s₂.gens) (k3: ∀b o,s₂.heap.get? b=some o→s₃.heap.get? b=some o) (hD:D=s₂.heap.objs.size) (h3:s₃.heap.objs.size=s₂.heap.objs.size+1) (hC:C=s₃.heap.objs.size)
  (k4: ∀b o,s₃.heap.get? b=some o→h₁.get? b=some o) (lE:h₁.Ns C m):
  Inv (dU X scope (ln++fv.map (·.1)) (D::fp) C s₃ H) [] (ln.map (fun _=>none)++bj σ fv) H {s₃ with heap:=h₁,toks:=t}:=by
 have cl: ∀{x c},(cR X.env.cells scope.names []).lookup x=some c→X.env.cells.lookup x=some c:=fun h=> (S.cells I h).1
 have Kl: ∀{x c},(cR X.env.cells scope.names []).lookup x=some c→c<s₂.heap.objs.size:=fun h=>by
  obtain⟨v,q⟩:=I.cell _ _ (cl h)
  exact q.lt
 have Km: ∀b∈fp,b<s₂.heap.objs.size:=fun b hb=>by obtain⟨o,e⟩:=lI b hb;exact Heap.lt_size e
 have Kn: ∀b∈D::fp,b≤s₂.heap.objs.size:=fun b hb=>by
  rcases List.mem_cons.mp hb with e | hb
  ·rw[e,hD];exact Nat.le_refl _
  ·exact Nat.le_of_lt (Km b hb)
 have Ce: ∀x,(relabel scope X.env).names.lookup x=(scope.names.lookup x).map fun k=>if (k==NameKind.free && X.env.scope.kind== .function && X.env.kindOf x==some .cell) then NameKind.cell else k:=fun x=>Ca scope.names x
 have Ko: ∀x,scope.names.lookup x=some .free→((relabel scope X.env).names.lookup x=some .cell∨(relabel scope X.env).names.lookup x=some .free):=fun x e=>by
  rw[Ce,e]
  simp only[Option.map_some]
  split
  ·exact .inl rfl
  ·exact .inr rfl
 have Kp: ∀x,((relabel scope X.env).names.lookup x=some .cell∨(relabel scope X.env).names.lookup x=some .free)→(x,NameKind.free)∈scope.names:=fun x e=>by
  rw[Ce] at e
  cases q:scope.names.lookup x with
  | none=>rw[q] at e;rcases e with e | e<;>cases e
  | some k=>
   rw[q] at e
   have hm:(x,k)∈scope.names:=PySem.mem_of_lookup q
   simp only[Option.map_some] at e
   by_cases hk:k= .free
   ·rw[hk] at hm;exact hm
   ·have hb:(k==NameKind.free)=false:=by simpa using hk
    simp only[hb,Bool.false_and,Bool.false_eq_true,if_false] at e
    rcases e with e | e
    ·exact absurd (Option.some.inj e) (S.Cc _ hm)
    ·exact absurd (Option.some.inj e) hk
 refine⟨⟨I.ok.mod,S.kind,I.ok.glob,I.ok.blt,Nat.le_of_eq hC.symm,fun x y c h1 h2=>I.ok.inj x y c (cl h1) (cl h2),fun x hx=>wM _ _ x (.inl (Kp x hx)),fun x c h _=> (by cases h),I.ok.hd,I.ok.frames, .inl rfl,fun b hb=> ⟨?_,fun x c e=> ?_⟩,fun b o e=> ⟨k3 b o (I.bs b o e).1,(I.bs b o e).2⟩, ?_,fun b o e hb=> ?_,fun b hb hf=> ?_, ?_,I.sr⟩,
  rfl, ?_,Un.kept fun b u e=>k4 b u e,⟨m,lE,fun i x v e1 e2 e3=> ?_⟩,fun x c e=> ?_,I.aE.fresh ?_,fun x c e=>I.eK x c (cl e),fun p hp=>absurd (show p∈ ([]:List (Addr×Obj)) from hp) (by simp),I.aE.kept fun b u e=>k4 b u (k3 b u e), ?_⟩
 ·show b≠C
  have:=Kn b hb
  rw[hC,h3];exact Nat.ne_of_lt (Nat.lt_succ_of_le this)
 ·have q1:=Kl e
  rcases List.mem_cons.mp hb with z | z
  ·rw[z,hD];exact Nat.ne_of_lt q1
  ·exact(f2 b z).2.2.2.2.1 x c (cl e)
 ·show X.base.objs.size≤s₃.heap.objs.size
  have:=Nat.le_trans I.ok.kR I.sz
  omega
 ·have e2:=(I.bs b o e).1
  have nF:b∈D::fp:=hb
  rcases List.mem_cons.mp nF with z | z
  ·have:=Heap.lt_size e2
   rw[z,hD] at this;exact Nat.lt_irrefl _ this
  ·rcases (f2 b z).2.2.2.1 with q | q
   ·exact I.ok.sk b o e q
   ·exact absurd (Nat.lt_of_lt_of_le (Heap.lt_size (I.ok.bs b o e).1) q) (Nat.lt_irrefl _)
 ·have Cf:b∈bp X.stack:=hf
  have nF:b∈D::fp:=hb
  rcases List.mem_cons.mp nF with z | z
  ·rcases List.mem_cons.mp (I.sq b Cf) with q | q
   ·have:=I.lt
    rw[←q,z,hD] at this;exact Nat.lt_irrefl _ this
   ·exact I.Av (by rw[z,hD];exact Nat.le_refl _) q
  ·rcases List.mem_cons.mp (I.sq b Cf) with q | q
   ·exact(f2 b z).2.1 q
   ·exact(f2 b z).2.2.1 q
 ·exact PySem.Heap.FunFrames.of_keeps (fun b o e _=> ⟨o,k3 b o e,rfl⟩) I.stack
 ·show AllBare s₃.gens
  rw[gens];exact I.bare
 ·have hi:ln.length≤i:=by
   by_cases hi:i<ln.length
   ·exfalso
    rw[List.getElem?_append_left (by simpa using hi),List.getElem?_map] at e2
    cases q:ln[i]? with
    | none=>rw[q] at e2;cases e2
    | some y=>rw[q] at e2;cases e2
   ·omega
  have lJ:(ln++fv.map (·.1))[i]?=some x:=e1
  rw[List.getElem?_append_right hi,List.getElem?_map] at lJ
  rw[List.getElem?_append_right (by simpa using hi),List.length_map] at e2
  unfold bj at e2
  rw[List.getElem?_map] at e2
  cases q:fv[i - ln.length]? with
  | none=>rw[q] at lJ;cases lJ
  | some p=>
   rw[q] at lJ e2
   have ex:p.1=x:=Option.some.inj lJ
   have ev:(σ[p.2]?).join=some v:=Option.some.inj e2
   obtain⟨g1,g2⟩:=S.Ki p (List.mem_of_getElem? q)
   rw[ex] at g1 g2
   have Kq:σ[p.2]?=some (some v):=by
    cases z:σ[p.2]? with
    | none=>rw[z] at ev;cases ev
    | some o=>rw[z] at ev;rw[show o=some v from ev]
   have hk:=S.free _ (PySem.mem_of_lookup g2) rfl
   obtain⟨m2,BN,hl⟩:=I.loc
   obtain⟨u,r,l⟩:=hl p.2 x v g1 Kq (by rcases hk with k | k;exact .inr (.inl k);exact .inr (.inr k))
   refine⟨u,r, .inr ?_⟩
   rcases l with⟨k,_⟩ | ⟨_,c,ec,z⟩
   ·rcases hk with k' | k'<;> (rw[k] at k';cases k')
   ·refine⟨Ko x g2,c, ?_, ?_⟩
    ·obtain⟨c',e'⟩:=wM (cells:=X.env.cells) scope.names [] x (.inl (PySem.mem_of_lookup g2))
     have:=cl e'
     rw[ec] at this;cases this
     exact e'
    ·obtain⟨o,ho,hd⟩:=z
     exact⟨o,k4 c o (k3 c o ho),hd⟩
 ·obtain⟨v,o,ho,hd⟩:=I.cell x c (cl e)
  exact⟨v,o,k4 c o (k3 c o ho),hd⟩
 ·show s₂.heap.objs.size≤C
  rw[hC,h3];exact Nat.le_succ _
 ·show(ln.map (fun _=>none)++bj σ fv).length=(ln++fv.map (·.1)).length
  simp[bj]
end
structure wN (Φ:Cx→Prop) (P:Program) (w:World) (K:Frag) (tg:Expr) (J:It) (fp:List Addr) (it:Addr) (tn:Nat→Heap→Prop):Prop where
 mem:it∈fp
 obj: ∀i h,tn i h→ ∀b∈fp,∃o,h.get? b=some o∧ ∀v,o.data≠ .cell v
 keep: ∀i h h',tn i h→(∀b∈fp,∀o,h.get? b=some o→h'.get? b=some o)→tn i h'
 item: ∀(X:Cx),X.prog=P→X.w=w→X.K=K→Φ X→ ∀(i:Nat) (pins:List (Addr×Obj)) (s:Shared) (σ:St) (H:Hp) (E:Value→Shared→Prop),Inv X pins σ H s→(∀b∈fp,fK X pins H b)→tn i s.heap→J.go i H→
  wpAny (model P w) X.A (pyNext (.ref it)) (fun r s1=> ∃u,r=some u∧
   wpAny (model P w) X.A (letOwnedTupleGo tg (.ref it) u) (fun _ s2=> ∃x H',Inv X pins σ H' s2∧RelV x u∧J.cZ i H x H'∧tn (i+1) s2.heap∧ ∀b∈fp,H' b=none) E s1) E s
 done: ∀(X:Cx),X.prog=P→X.w=w→X.K=K→Φ X→ ∀(i:Nat) (pins:List (Addr×Obj)) (s:Shared) (σ:St) (H:Hp) (E:Value→Shared→Prop),Inv X pins σ H s→(∀b∈fp,fK X pins H b)→tn i s.heap→J.stop i H→
  wpAny (model P w) X.A (pyNext (.ref it)) (fun r s1=>r=none∧Inv X pins σ H s1) E s
 self: ∀(A:Around) (i:Nat) (s:Shared) (Q:Value→Shared→Prop) (E:Value→Shared→Prop),tn i s.heap→Q (.ref it) s→wpAny (model P w) A (pyIter (.ref it)) Q E s
def tD(Φ:Cx→Prop)(X:Cx)(tg iter:Expr)(wi:TI):Prop:=
 ∀(pins:List (Addr×Obj)) (s:Shared) (σ:St) (H:Hp) (R:It→Hp→Prop),Inv X pins σ H s→wi σ H R→
  wpAny (model X.prog X.w) X.A (eval iter X.env) (fun v s1=>wpAny (model X.prog X.w) X.A (pyIter v) (fun k_ s2=>
   ∃(it:Addr) (fp:List Addr) (tn:Nat→Heap→Prop) (J:It) (H':Hp),k_= .ref it∧Inv X pins σ H' s2∧wN Φ X.prog X.w X.K tg J fp it tn∧tn 0 s2.heap∧(∀b∈fp,fK X pins H' b)∧R J H') X.xe s1) X.xe s
abbrev Calm(X:Cx):Prop:=X.calm=true
theorem PI.p{X:Cx}{tg iter:Expr}{wi:TI}(h:PI X tg iter wi):tD Calm X tg iter wi:=fun pins s σ H R I q=>
 aJ (h pins s σ H R I q) fun v s1 h1=>aJ h1 fun k_ s2 ⟨it,fp,tn,J,H',e,I',T,st,f,r⟩=> ⟨it,fp,tn,J,H',e,I',⟨T.mem,T.obj,T.keep,T.item,T.done,T.self⟩,st,f,r⟩
section
variable {X:Cx} {pins:List (Addr×Obj)} {σ:St} {H:Hp} {s₂:Shared} {scope:Scope} {ln:List Str} {fv:List (Str×Nat)} {elt tg iter:Expr} {ifs:List Expr} {pos:Pos}
 {J:It} {fp:List Addr} {it:Addr} {tn:Nat→Heap→Prop} {tk:Option Nat} {tc:Option TT} {te:TE} {Qv:VK} {RR:Value→Addr→Result→Shared→Prop} {E:Value→Shared→Prop}
def tE(Ψ:Hp→Prop)(X:Cx)(scope:Scope)(ln:List Str)(fv:List (Str×Nat))(tg:Expr)(tk:Option Nat):Prop:=
 ∀(ex:List Addr) (C:Addr) (s:Shared) (H:Hp),Ψ H→ ∃g,PG (dU X scope (ln++fv.map (·.1)) ex C s H) tg g∧
  ∀(x:V) (pre φ:St) (H':Hp) (Q:St→Hp→Prop),pre.length=ln.length→dB X.K tk x H' (fun xs=>xs.length=ln.length→Q (xs.map some++φ) H')→g x (pre++φ) H' Q
def nG(X:Cx)(scope:Scope)(ln:List Str)(fv:List (Str×Nat))(tg:Expr)(tk:Option Nat):Prop:=
 ∀(ex:List Addr) (C:Addr) (s:Shared) (H:Hp),∃g,PG (dU X scope (ln++fv.map (·.1)) ex C s H) tg g∧
  ∀(x:V) (pre φ:St) (H':Hp) (Q:St→Hp→Prop),pre.length=ln.length→dB X.K tk x H' (fun xs=>xs.length=ln.length→Q (xs.map some++φ) H')→g x (pre++φ) H' Q
def pO(X:Cx)(scope:Scope)(N:List Str)(ifs:List Expr)(tc:Option TT):Prop:=
 match tc with
 | none=>ifs=[]
 | some t=> ∃c,ifs=[c]∧ ∀(ex:List Addr) (C:Addr) (s:Shared) (H:Hp),PT (dU X scope N ex C s H) c t
theorem Cg{Φ:Cx→Prop}{Ψ:Hp→Prop}(S:gT X scope ln fv)(hc: ∀Xc:Cx,Xc.A=X.A→Xc.calm=X.calm→Xc.H₀=H→Φ Xc)(hΨ:Ψ H)(hg:tE Ψ X scope ln fv tg tk)(ht:pO X scope (ln++fv.map (·.1)) ifs tc)
  (he: ∀(ex:List Addr) (C:Addr) (s:Shared) (H:Hp),PE (dU X scope (ln++fv.map (·.1)) ex C s H) elt te)
  (I:Inv X pins σ H s₂) (T:wN Φ X.prog X.w X.K tg J fp it tn) (st:tn 0 s₂.heap) (f2: ∀b∈fp,fK X pins H b)
  (h: ∃W:Nat→Nat→List V→Hp→Prop,(∃m,W 0 m [] H)∧ ∀i m ys H2,W i m ys H2→
   (J.stop i H2∧ ∀p,H2 p=none→Qv (.ref p) (upd H2 p (.lst ys)))∨
   (J.go i H2∧ ∀x H3,J.cZ i H2 x H3→dB X.K tk x H3 fun xs=>
    dW tc (xs.map some++bj σ fv) H3 fun b H5=>
     if b=true then te (xs.map some++bj σ fv) H5 fun y H6=>ys.length<sizeLine∧ ∃m',m'<m∧W (i+1) m' (ys++ [y]) H6
     else ∃m',m'<m∧W (i+1) m' ys H5))
  (Kr: ∀D C H' s' m,Inv X pins σ H' s'→s'.heap.Ns C m→H' C=none→C≠X.env.locals→X.s₀.heap.objs.size≤C→(∀x c,X.env.cells.lookup x=some c→c≠C)→(∀p∈X.pn++pins,p.1≠C)→Qv (.ref D) H'→RR (.ref D) C (.ok .next) s'):
  wpAny (model X.prog X.w) X.A (newList []) (fun acc s₃=>wpAny (model X.prog X.w) X.A (newFunctionEnv scope X.env.globals (cR X.env.cells scope.names []) [] X.env.qual none .none (some X.env)) (fun Ci s₄=>
   codeAny (model X.prog X.w) X.A (.compStart (.ListComp elt [⟨tg,iter,ifs,0⟩] scope pos) 0 (.ref it) acc {Ci with scope:=relabel scope X.env}) (RR acc Ci.locals) s₄) E s₃) E s₂:=by
 obtain⟨W,⟨m0,w0⟩,turn⟩:=h
 refine wpAny_newObj_type (wpAny_newFunctionEnv S.Cc (by intro y hy;simp at hy) (fun h₁ tF tG=> ?_) S.kind)
 dsimp only at tF tG⊢
 generalize jT:({s₂ with heap:=s₂.heap.push {cls:= .type "list",dict:=none,data:= .seq ([]:List Value).toArray}}:Shared)=s₃
 have ji:s₂.heap.push {cls:= .type "list",dict:=none,data:= .seq ([]:List Value).toArray}=s₃.heap:=by rw[←jT]
 rw[ji] at tF tG⊢
 have Cj:s₃.os=s₂.os:=by rw[←jT]
 have Ks:s₃.gens=s₂.gens:=by rw[←jT]
 have lK:s₃.heap.objs.size=s₂.heap.objs.size+1:=by rw[←ji,Heap.size_push]
 have k3: ∀b o,s₂.heap.get? b=some o→s₃.heap.get? b=some o:=fun b o e=>by rw[←ji];exact Heap.get?_push_of_some _ e
 have k4: ∀b o,s₃.heap.get? b=some o→h₁.get? b=some o:=fun b o e=>tG.extBut b o (Nat.ne_of_lt (Heap.lt_size e)) (Heap.get?_push_of_some _ e)
 have gD:s₃.heap.get? s₂.heap.objs.size=some {cls:= .type "list",dict:=none,data:= .seq ([]:List Value).toArray}:=by rw[←ji];exact Heap.get?_push_size _ rfl
 generalize eD:s₂.heap.objs.size=D at gD
 generalize eC:s₃.heap.objs.size=C at tF tG⊢
 have tH:D≠C:=by rw[←eD,←eC,lK];exact Nat.ne_of_lt (Nat.lt_succ_self _)
 have lI: ∀b∈fp,∃o,s₂.heap.get? b=some o:=fun b hb=>by obtain⟨o,e,_⟩:=T.obj 0 _ st b hb;exact⟨o,e⟩
 have Ck: ∀b∈fp,b≠D:=fun b hb=>by obtain⟨o,e⟩:=lI b hb;rw[←eD];exact Nat.ne_of_lt (Heap.lt_size e)
 have Kt: ∀b∈fp,b≠C:=fun b hb=>by
  obtain⟨o,e⟩:=lI b hb
  have:=Heap.lt_size e
  rw[←eC,lK];exact Nat.ne_of_lt (Nat.lt_succ_of_lt this)
 generalize eX:dU X scope (ln++fv.map (·.1)) (D::fp) C s₃ H=Xc
 have I4: ∀t,Inv Xc [] (ln.map (fun _=>none)++bj σ fv) H {s₃ with heap:=h₁,toks:=t}:=fun t=>by
  rw[←eX]
  exact Kk S I f2 lI Cj Ks k3 eD.symm lK eC.symm k4 tF
 have xL:Xc.env.locals=C:=by rw[←eX];rfl
 have tI:Xc.ex=D::fp:=by rw[←eX];rfl
 have Ku:Xc.fs=bp X.stack:=by rw[←eX];rfl
 have xP:Xc.prog=X.prog:=by rw[←eX];rfl
 have xw:Xc.w=X.w:=by rw[←eX];rfl
 have xK:Xc.K=X.K:=by rw[←eX];rfl
 have xA:Xc.A=X.A:=by rw[←eX];rfl
 have xc:Φ Xc:=hc Xc xA (by rw[←eX];rfl) (by rw[←eX];rfl)
 have Cm:Xc.pn=[]:=by rw[←eX];rfl
 have wO:Xc.xe=fun _ _=>False:=by rw[←eX];rfl
 have Cn:Xc.env.cells=cR X.env.cells scope.names []:=by rw[←eX];rfl
 have wQ:Xc.env=compEnvC scope (cR X.env.cells scope.names []) C X.env:=by rw[←eX];rfl
 have cD: ∀x c,Xc.env.cells.lookup x=some c→c≠D:=fun x c e=>by
  rw[Cn] at e
  obtain⟨v,q⟩:=I.cell x c (S.cells I e).1
  rw[←eD];exact Nat.ne_of_lt q.lt
 have cF: ∀x c,Xc.env.cells.lookup x=some c→ ∀b∈fp,c≠b:=fun x c e b hb=>by
  rw[Cn] at e
  exact(f2 b hb).2.2.2.2.1 x c (S.cells I e).1
 have sF: ∀b∈D::fp,b∉Xc.fs:=fun b hb hf=>by
  have:=(I4 0).ok.so b (by rw[tI];exact hb)
  exact this hf
 have la: ∀{H':Hp} {oD:Obj},(∀b∈fp,H' b=none)→ ∀b∈fp,fK Xc [(D,oD)] H' b:=fun hn b hb=>
  ⟨hn b hb,by rw[xL];exact Kt b hb,sF b (List.mem_cons_of_mem _ hb), .inl (by rw[tI];exact List.mem_cons_of_mem _ hb),fun x c e=>cF x c e b hb,fun p hp=>by
   rw[Cm] at hp
   rcases List.mem_singleton.mp (show p∈ [(D,_)] from hp) with rfl
   exact(Ck b hb).symm⟩
 have loop: ∀s₄:Shared,s₄={s₃ with heap:=h₁,toks:=s₃.toks+ ([]:List (Str×Value)).length}→
   codeAny (model X.prog X.w) X.A (.compLoop (.ListComp elt [⟨tg,iter,ifs,0⟩] scope pos) 0 (.ref it) (.ref D) (compEnvC scope (cR X.env.cells scope.names []) C X.env)) (RR (.ref D) C) s₄:=by
  rintro s₄ rfl
  refine Kg (fun n s'=> ∃i pre ys its nn H',Inv Xc [(D,{cls:= .type "list",data:= .seq (List.toArray its) nn})] (pre++bj σ fv) H' s'∧pre.length=ln.length∧tn i s'.heap∧(∀b∈fp,H' b=none)∧Vals ys its∧ys.length≤sizeLine∧W i n ys H') ?_ m0
   ⟨0,ln.map (fun _=>none),[],[],0,H,(I4 _).nt (fun p hp=> ?_),by simp,T.keep 0 _ _ st (fun b _ o e=>k4 b o (k3 b o e)),fun b hb=> (f2 b hb).1, .nil,Nat.zero_le _,w0⟩
  rotate_left
  ·have gU:=List.mem_singleton.mp hp
   subst gU
   refine⟨k4 _ _ gD,I.aE.fresh (Nat.le_of_eq eD),by rw[xL];exact tH,sF D List.mem_cons_self,fun v z=>by cases z⟩
  rintro n s' ⟨i,pre,ys,its,nn,H',I',nB,dA,Co,hv,hz,w'⟩
  have ade:=I'.pin (D,_) (List.mem_append_right _ List.mem_cons_self)
  rcases turn i n ys H' w' with⟨stop,qn⟩ | ⟨go,step⟩
  ·have td:=T.done Xc xP xw xK xc i _ s' _ H' (fun _ _=>False) I' (la Co) dA stop
   rw[xA] at td
   refine aJ td fun r s1 ⟨hr,I1⟩=> ?_
   subst hr
   have wR:=I1.pin (D,_) (List.mem_append_right _ List.mem_cons_self)
   have b1:=I1.base
   rw[Ku,tI] at b1
   have Cp:Xc.s₀=s₃:=by rw[←eX];rfl
   have Kv:Xc.H₀=H:=by rw[←eX];rfl
   rw[Cp,Kv] at b1
   have nD: ∀b o,s₂.heap.get? b=some o→b∉fp→b∉D::fp:=fun b o e hb hm=>by
    rcases List.mem_cons.mp hm with z | z
    ·have:=Heap.lt_size e
     rw[z,eD] at this;exact Nat.lt_irrefl _ this
    ·exact hb z
   have un:Un (bp X.stack) fp H H' s₂.heap s1.heap:=⟨fun b o e nb hb hx=>b1.keep b o (k3 b o e) nb hb (nD b o e hx),fun b o e nb hb hx=>b1.slot b o (k3 b o e) nb hb (nD b o e hx),fun b o e nb hx=>b1.free b o (k3 b o e) nb (nD b o e hx),
    fun b o e hx=>b1.there b o (k3 b o e) (nD b o e hx),b1.ef,b1.dM,b1.eg⟩
   have Kw:s1.os=s₂.os:=by rw[I1.os,Cp,Cj]
   have Cq:=I1.aE
   rw[xP,xw] at Cq
   have J1:Inv X pins σ H' s1:=I.vQ Kw un Cq I1.bare fun b hb=> ⟨(f2 b hb).2.2.2.1,(f2 b hb).2.1,(f2 b hb).2.2.2.2.1,(f2 b hb).2.2.2.2.2⟩
   have Kx: ∀x c,X.env.cells.lookup x=some c→c≠D:=fun x c e=>by
    obtain⟨v,q⟩:=I.cell x c e
    rw[←eD];exact Nat.ne_of_lt q.lt
   have Ky: ∀x c,X.env.cells.lookup x=some c→c≠C:=fun x c e=>by
    obtain⟨v,q⟩:=I.cell x c e
    rw[←eC,lK];exact Nat.ne_of_lt (Nat.lt_succ_of_lt q.lt)
   have pD: ∀p∈X.pn++pins,p.1≠D:=fun p hp=>by rw[←eD];exact Nat.ne_of_lt (Heap.lt_size (I.pin p hp).1)
   have pC: ∀p∈X.pn++pins,p.1≠C:=fun p hp=>by
    rw[←eC,lK];exact Nat.ne_of_lt (Nat.lt_succ_of_lt (Heap.lt_size (I.pin p hp).1))
   have lD:D≠X.env.locals:=by rw[←eD];exact Nat.ne_of_gt I.lt
   have lC:C≠X.env.locals:=by
    rw[←eC,lK];exact Nat.ne_of_gt (Nat.lt_succ_of_lt I.lt)
   have J2:Inv X pins σ (upd H' D (.lst ys)) s1:=Inv.BY J1 wR.2.1 (by rw[←eD];exact I.sz) lD Kx pD ⟨hz,its,nn,hv,wR.1⟩
   obtain⟨mC,Cr,_⟩:=I1.loc
   rw[xL] at Cr
   have fC:H' C=none:=by have:=I1.free;rw[xL] at this;exact this
   exact Kr D C _ s1 mC J2 Cr (by rw[bc (Ne.symm tH)];exact fC) lC (by rw[←eC,lK];exact Nat.le_succ_of_le I.sz) Ky pC (qn D wR.2.1)
  ·have ti:=T.item Xc xP xw xK xc i _ s' _ H' (fun _ _=>False) I' (la Co) dA go
   rw[xA] at ti
   refine aJ ti fun r s4 ⟨u,hr,h4⟩=> ?_
   subst hr
   refine aJ h4 fun _ s5 ⟨x,H5,I5,r5,y5,lb,vZ⟩=> ?_
   have pF:=I5.pinned (la vZ) (T.obj _ _ lb)
   obtain⟨g,pg,gq⟩:=hg (D::fp) C s₃ H hΨ
   rw[eX] at pg
   have rd:=step x H5 y5
   have Cs:=pg _ s5 _ H5 x u (fun σ6 H6=> ∃xs:List V,σ6=xs.map some++bj σ fv∧xs.length=ln.length∧H6=H5∧
     dW tc (xs.map some++bj σ fv) H5 fun b H5=>
     if b=true then te (xs.map some++bj σ fv) H5 fun y H6=>ys.length<sizeLine∧ ∃m',m'<n∧W (i+1) m' (ys++ [y]) H6
     else ∃m',m'<n∧W (i+1) m' ys H5) pF r5 (gq x pre (bj σ fv) H5 _ nB (by
      cases tk with
      | none=>exact fun hl=> ⟨_,rfl,hl,rfl,rd⟩
      | some k=>exact Kj rd fun xs rd hl=> ⟨xs,rfl,hl,rfl,rd⟩))
   rw[xA,xP,xw,wO,wQ] at Cs
   refine aJ Cs fun _ s6 ⟨σ6,H6,I6,xs,e6,wU,eH,Ct⟩=> ?_
   subst e6 eH
   have Cu: ∀{H7:Hp} {σ7:St} {s7:Shared},Inv Xc ([(D,{cls:= .type "list",data:= .seq (List.toArray its) nn})]++ny fp s5.heap) σ7 H7 s7→tn (i+1) s7.heap∧(∀b∈fp,H7 b=none)∧s7.heap.get? D=some {cls:= .type "list",data:= .seq (List.toArray its) nn}∧H7 D=none:=fun {H7 σ7 s7} I7=>by
    refine⟨T.keep _ _ _ lb fun b hb o e=> (I7.pin (b,o) (List.mem_append_right _ (List.mem_append_right _ (sM hb e)))).1,fun b hb=> ?_, ?_, ?_⟩
    ·obtain⟨o,e,d⟩:=T.obj _ _ lb b hb
     exact(I7.pin (b,o) (List.mem_append_right _ (List.mem_append_right _ (sM hb e)))).2.1
    ·exact(I7.pin (D,_) (List.mem_append_right _ (List.mem_append_left _ List.mem_cons_self))).1
    ·exact(I7.pin (D,_) (List.mem_append_right _ (List.mem_append_left _ List.mem_cons_self))).2.1
   have tests:wpAny (model X.prog X.w) X.A (forIn ifs true fun c r=>if r=true then do let ok ←isTrue c (compEnvC scope (cR X.env.cells scope.names []) C X.env) (eval c (compEnvC scope (cR X.env.cells scope.names []) C X.env));pure (ForInStep.yield ok) else pure (ForInStep.yield r))
     (fun ok s7=> ∃H7,Inv Xc ([(D,{cls:= .type "list",data:= .seq (List.toArray its) nn})]++ny fp s5.heap) (xs.map some++bj σ fv) H7 s7∧
      if ok=true then te (xs.map some++bj σ fv) H7 fun y H6=>ys.length<sizeLine∧ ∃m',m'<n∧W (i+1) m' (ys++ [y]) H6
      else ∃m',m'<n∧W (i+1) m' ys H7) (fun _ _=>False) s6:=by
    cases tc with
    | none=>
     have wV:ifs=[]:=ht
     subst wV
     exact wpAny_tests_nil ⟨_,I6,Ct⟩
    | some t=>
     obtain⟨c,wV,pt⟩:=(show ∃c,ifs=[c]∧ ∀(ex:List Addr) (C:Addr) (s:Shared) (H:Hp),PT (dU X scope (ln++fv.map (·.1)) ex C s H) c t from ht)
     subst wV
     have Cv:=pt (D::fp) C s₃ H
     rw[eX] at Cv
     have q:=Cv _ s6 _ _ _ I6 Ct
     rw[xA,xP,xw,wO,wQ] at q
     exact wpAny_tests_one (aJ q fun b s7 ⟨H7,I7,q7⟩=> ⟨H7,I7,q7⟩)
   refine aJ tests fun ok s7 ⟨H7,I7,q7⟩=> ?_
   cases ok with
   | false=>
    simp only[Bool.false_eq_true,if_false] at q7⊢
    obtain⟨m',hm,w7⟩:=q7
    obtain⟨t7,f7,d7,n7⟩:=Cu I7
    refine⟨m',hm,i+1,xs.map some,ys,its,nn,H7,I7.nt (fun p hp=> ?_),by simpa using wU,t7,f7,hv,hz,w7⟩
    exact I7.pin p (List.mem_append_right _ (List.mem_append_left _ hp))
   | true=>
    simp only[if_true] at q7⊢
    have q:=he (D::fp) C s₃ H
    rw[eX] at q
    have q:=q _ s7 _ H7 _ I7 q7
    rw[xA,xP,xw,wO,wQ] at q
    refine aJ q fun uy s8 ⟨y,H8,I8,r8,aQ,m',hm,w8⟩=> ?_
    obtain⟨t8,f8,d8,n8⟩:=Cu I8
    have hl:=hv.length
    refine call_meets F.slot_list_append ⟨_,d8,rfl⟩ F.entry_list_append (F.args_list_append_2 _ _) (PySem.list_append D its.toArray nn uy (by rw[List.size_toArray];omega)) ⟨d8, ?_⟩
    have I9: ∀t,Inv Xc [] (xs.map some++bj σ fv) H8 {s8 with heap:=s8.heap.update D (Obj.mapSeq (·.push uy)),toks:=t}:=fun t=>
     (I8.nt (fj:=[]) (fun p hp=>absurd hp (by simp))).turned (it:=D) (t':=t) (fun b o hb e=> (Heap.get?_update_other s8.heap (Obj.mapSeq (·.push uy)) (Ne.symm hb)).trans e) n8 (by rw[xL];exact tH) (.inl (by rw[tI];exact List.mem_cons_self)) cD
      (fun p hp=>by rw[Cm] at hp;exact absurd hp (by simp))
    have g9:=PySem.IsL.update d8 (·.push uy)
    obtain⟨n9,Kz⟩: ∃n9,(s8.heap.update D (Obj.mapSeq (·.push uy))).get? D=some {cls:= .type "list",data:= .seq (its++ [uy]).toArray n9}:=
     ⟨_,by rw[show(its++ [uy]).toArray=its.toArray.push uy by simp];exact g9⟩
    refine⟨m',hm,i+1,xs.map some,ys++ [y],its++ [uy],n9,H8,(I9 _).nt (fun p hp=> ?_),by simpa using wU, ?_,f8,hv.append (.cons r8 .nil), ?_,w8⟩
    ·have gU:=List.mem_singleton.mp hp
     subst gU
     exact⟨Kz,n8,by rw[xL];exact tH,sF D List.mem_cons_self,fun v z=>by cases z⟩
    ·exact T.keep _ _ _ t8 fun b hb o e=> (Heap.get?_update_other s8.heap (Obj.mapSeq (·.push uy)) (Ne.symm (Ck b hb))).trans e
    ·rw[List.length_append,List.length_singleton];omega
 have KA:tn 0 h₁:=T.keep 0 _ _ st fun b _ o e=>k4 b o (k3 b o e)
 have e4:({s₂ with heap:=h₁,toks:=s₂.toks+ ([]:List (Str×Value)).length}:Shared)={s₃ with heap:=h₁,toks:=s₃.toks+ ([]:List (Str×Value)).length}:=by rw[←jT]
 exact codeAny_compStart_list (loop _ e4) (T.self X.A 0 _ _ _ KA (loop _ e4))
end
section
variable {X:Cx} {scope:Scope} {ln:List Str} {fv:List (Str×Nat)} {elt tg iter:Expr} {ifs:List Expr} {pos:Pos} {wi:TI} {tk:Option Nat} {tc:Option TT} {te:TE}
theorem KC{Φ:Cx→Prop}{Ψ:Hp→Prop}(S:gT X scope ln fv)(hc: ∀H,Ψ H→ ∀Xc:Cx,Xc.A=X.A→Xc.calm=X.calm→Xc.H₀=H→Φ Xc)(hΨ: ∀pins σ H s,Inv X pins σ H s→Ψ H)(hi:tD Φ X tg iter wi)(hg:tE Ψ X scope ln fv tg tk)(ht:pO X scope (ln++fv.map (·.1)) ifs tc)
  (he: ∀(ex:List Addr) (C:Addr) (s:Shared) (H:Hp),PE (dU X scope (ln++fv.map (·.1)) ex C s H) elt te) (hs: ∀x,foldedSetIterable iter X.env x=pure x:=by intro _;rfl):
  PE X (.ListComp elt [⟨tg,iter,ifs,0⟩] scope pos) (jh X.K wi tk fv tc te):=by
 intro pins s σ H Q I h
 rw[eval_ListComp]
 refine wpAny_comprehension_free (use:=none) rfl hs (S.Cd I) S.kind S.locals (aJ (hi pins s σ H _ I h) fun v s1 h1=>aJ h1 fun k_ s2 h2=> ?_)
 obtain⟨it,fp,tn,J,H2,e,I2,T,pB,f2,hW⟩:=h2
 subst e
 refine Cg (RR:=fun acc C=>compPost (model X.prog X.w) X.A X.xe none (EP X pins σ Q) acc C) S (hc H2 (hΨ _ _ _ _ I2)) (hΨ _ _ _ _ I2) hg ht he I2 T pB f2 hW ?_
 intro D C H' s' m I' ns hn hL h0 tJ hp q
 refine⟨m,ns,fun h' sb=> ⟨.ref D,H', ?_,rfl,q⟩⟩
 exact I'.turned (it:=C) (t':=s'.toks) (fun b o hb e=>sb.extBut b o hb e) hn hL (.inr h0) tJ hp
theorem Cw{Φ:Cx→Prop}{Ψ:Hp→Prop}{i:Nat}{y:Str}{py pP:Pos}(hN:X.N.Nodup)(ej:X.N[i]?=some y)(hy:Loc X.env.scope y)(wW:swapsWith (.ListComp elt [⟨tg,iter,ifs,0⟩] scope pos) (some (.Name y py)) pP.line X.env=pure true)
  (S:gT X scope ln fv) (hc: ∀H,Ψ H→ ∀Xc:Cx,Xc.A=X.A→Xc.calm=X.calm→Xc.H₀=H→Φ Xc) (hΨ: ∀pins σ H s,Inv X pins σ H s→Ψ H) (hi:tD Φ X tg iter wi) (hg:tE Ψ X scope ln fv tg tk) (ht:pO X scope (ln++fv.map (·.1)) ifs tc)
  (he: ∀(ex:List Addr) (C:Addr) (s:Shared) (H:Hp),PE (dU X scope (ln++fv.map (·.1)) ex C s H) elt te) (hs: ∀x,foldedSetIterable iter X.env x=pure x:=by intro _;rfl)
  (hf:X.fn y=true∨X.env.scope.names.lookup y=some .local:=by first | exact .inl rfl | exact .inr rfl | assumption):
  PS X (.Assign [.Name y py] (.ListComp elt [⟨tg,iter,ifs,0⟩] scope pos) pP) (fJ (jh X.K wi tk fv tc te) (cI i)):=by
 intro pins s σ H D I h
 rw[exec_Assign_Name_used _ _ _ _ wW]
 refine wpAny_bind (wpAny_standAt (wpAny_bind ?_))
 show wpAny _ X.A (do let _ ←comprehension (.ListComp elt [⟨tg,iter,ifs,0⟩] scope pos) scope X.env _ (newList []) false (eval iter X.env) (some (assign (.Name y py) X.env))) _ _ s
 refine wpAny_bind (wpAny_mono (wpAny_comprehension_free (use:=some (assign (.Name y py) X.env)) (Q:=fun _ s'=>SP X pins D .next s') rfl hs (S.Cd I) S.kind S.locals
  (aJ (hi pins s σ H _ I h) fun v s1 h1=>aJ h1 fun k_ s2 h2=> ?_)) (fun _ s' hq=>wpAny_pure (wpAny_pure hq)) fun _ _ e=>e)
 obtain⟨it,fp,tn,J,H2,e,I2,T,pB,f2,hW⟩:=h2
 subst e
 refine Cg (Qv:=fun x H1=>cI i x σ H1 D.nx) (RR:=fun acc C=>compPost (model X.prog X.w) X.A X.xe (some (assign (.Name y py) X.env)) (fun _ s'=>SP X pins D .next s') acc C) S (hc H2 (hΨ _ _ _ _ I2)) (hΨ _ _ _ _ I2) hg ht he I2 T pB f2 hW ?_
 intro Da C H' s' m I' ns hn hL h0 tJ hp q
 show wpAny _ X.A (assign (.Name y py) X.env (.ref Da)) _ _ _
 refine wpAny_assign_Name (Az I' hN ej hy (v:= .ref Da) rfl (fun s4 I4 ⟨a,sb,ha⟩=> ?_) hf)
 have KD:C≠a:=by
  rcases ha with z | z
  ·rw[z];exact hL
  ·exact Ne.symm (tJ _ _ z)
 refine⟨m,ns.sameBut sb KD,fun h' KG=> ⟨_,H', ?_,q⟩⟩
 exact I4.turned (it:=C) (t':=s4.toks) (fun b o hb e=>KG.extBut b o hb e) hn hL (.inr h0) tJ hp
theorem Cy(S:gT X scope ln fv)(hc:X.calm=true)(hi:PI X tg iter wi)(hg:nG X scope ln fv tg tk)(ht:pO X scope (ln++fv.map (·.1)) ifs tc)
  (he: ∀(ex:List Addr) (C:Addr) (s:Shared) (H:Hp),PE (dU X scope (ln++fv.map (·.1)) ex C s H) elt te) (hs: ∀x,foldedSetIterable iter X.env x=pure x:=by intro _;rfl):
  PE X (.ListComp elt [⟨tg,iter,ifs,0⟩] scope pos) (jh X.K wi tk fv tc te):=
 KC (Φ:=Calm) (Ψ:=fun _=>True) S (fun _ _ Xc _ e _=>e.trans hc) (fun _ _ _ _ _=>trivial) hi.p (fun ex C s H _=>hg ex C s H) ht he hs
theorem KH{i:Nat}{y:Str}{py pP:Pos}(hN:X.N.Nodup)(ej:X.N[i]?=some y)(hy:Loc X.env.scope y)(wW:swapsWith (.ListComp elt [⟨tg,iter,ifs,0⟩] scope pos) (some (.Name y py)) pP.line X.env=pure true)
  (S:gT X scope ln fv) (hc:X.calm=true) (hi:PI X tg iter wi) (hg:nG X scope ln fv tg tk) (ht:pO X scope (ln++fv.map (·.1)) ifs tc)
  (he: ∀(ex:List Addr) (C:Addr) (s:Shared) (H:Hp),PE (dU X scope (ln++fv.map (·.1)) ex C s H) elt te) (hs: ∀x,foldedSetIterable iter X.env x=pure x:=by intro _;rfl)
  (hf:X.fn y=true∨X.env.scope.names.lookup y=some .local:=by first | exact .inl rfl | exact .inr rfl | assumption):
  PS X (.Assign [.Name y py] (.ListComp elt [⟨tg,iter,ifs,0⟩] scope pos) pP) (fJ (jh X.K wi tk fv tc te) (cI i)):=
 Cw (Φ:=Calm) (Ψ:=fun _=>True) hN ej hy wW S (fun _ _ Xc _ e _=>e.trans hc) (fun _ _ _ _ _=>trivial) hi.p (fun ex C s H _=>hg ex C s H) ht he hs hf
end
section
variable {X:Cx} {scope:Scope} {fv:List (Str×Nat)}
theorem KI{x:Str}{px:Pos}(hl:scope.names.lookup x=some .local)(iC:(x::fv.map (·.1)).Nodup):nG X scope [x] fv (.Name x px) none:=by
 intro ex C s H
 have KJ:Loc (dU X scope ([x]++fv.map (·.1)) ex C s H).env.scope x:= .inl (lookup_relabel_local hl)
 refine⟨cI 0,jK (X:=dU X scope ([x]++fv.map (·.1)) ex C s H) iC rfl KJ (.inr (lookup_relabel_local hl)),fun v pre φ H' Q hp h=> ?_⟩
 obtain⟨a,rfl⟩: ∃a,pre=[a]:=by
  match pre,hp with
  | [a],_=>exact⟨a,rfl⟩
 exact h rfl
theorem KL{x y:Str}{px py pos:Pos}{k:Nat}(hc:X.calm=true)(hx:scope.names.lookup x=some .local)(hy:scope.names.lookup y=some .local)(iC:(x::y::fv.map (·.1)).Nodup):nG X scope [x,y] fv (.Tuple [.Name x px, .Name y py] k pos) (some 2):=by
 intro ex C s H
 generalize eX:dU X scope ([x,y]++fv.map (·.1)) ex C s H=Xc
 have xN:Xc.N=x::y::fv.map (·.1):=by rw[←eX];rfl
 have xc:Xc.calm=true:=by rw[←eX];exact hc
 have lx:Xc.env.scope.names.lookup x=some .local:=by rw[←eX];exact lookup_relabel_local hx
 have ly:Xc.env.scope.names.lookup y=some .local:=by rw[←eX];exact lookup_relabel_local hy
 have p1:PG Xc (.Name x px) (cI 0):=jK (by rw[xN];exact iC) (by rw[xN];rfl) (.inl lx) (.inr lx)
 have p2:PG Xc (.Name y py) (cI 1):=jK (by rw[xN];exact iC) (by rw[xN];rfl) (.inl ly) (.inr ly)
 have xK:Xc.K=X.K:=by rw[←eX];rfl
 refine⟨sI Xc.K 2 (jL (cI 0) (jL (cI 1) pz)),AX xc (kY p1 (kY p2 sH)),fun v pre φ H' Q hp h=> ?_⟩
 obtain⟨a,b,rfl⟩: ∃a b,pre=[a,b]:=by
  match pre,hp with
  | [a,b],_=>exact⟨a,b,rfl⟩
 obtain⟨a',xs,rfl,e2,e3,q⟩:=h
 obtain⟨v1,v2,rfl⟩: ∃v1 v2,xs=[v1,v2]:=by
  match xs,e3 with
  | [v1,v2],_=>exact⟨v1,v2,rfl⟩
 exact⟨a',_,rfl,by rw[xK];exact e2,rfl,v1,_,rfl,v2,_,rfl,rfl,q rfl⟩
end
section
variable {X:Cx}
theorem ba.imp{f:Value→Value→Sem Value}{r r':R2}(h:ba X f r)(i: ∀x y H Q,r' x y H Q→r x y H Q):ba X f r':=fun pins s σ H x y v u Q I rx ry q=>h pins s σ H x y v u Q I rx ry (i _ _ _ _ q)
theorem bT.imp{f:Value}{r r':List V→Hp→VK→Prop}(h:bT X f r)(i: ∀xs H Q,r' xs H Q→r xs H Q):bT X f r':=fun pins s σ H xs us Q I rv q=>h pins s σ H xs us Q I rv (i _ _ _ q)
def Cz(K:Frag):R2:=fun x y H Q=>match x,y with
 | .int i, .int j=>Q (.int (i+j)) H
 | .str i, .str j=>i.length+j.length≤sizeLine∧Q (.str (i++j)) H
 | .ref l, .ref b=>BH (.ref l) (.ref b) H Q∨By K (.ref l) (.ref b) H Q
 | _,_=>False
theorem KN:ba X (binaryOp .Add) (Cz X.K):=by
 refine ba.imp ((HW.or Iy).or (JM.or Jh)) fun x y H Q h=> ?_
 cases x<;>cases y<;>first
  | exact False.elim h
  | exact .inl (.inl ⟨_,_,rfl,rfl,h⟩)
  | exact .inl (.inr ⟨_,_,rfl,rfl,h⟩)
  | exact .inr h
def iD(C:Int→Int→Prop)(g:Int→Int→V):R2:=fun x y H Q=>match x,y with
 | .int i, .int j=>C i j∧Q (g i j) H
 | _,_=>False
theorem wX{C:Int→Int→Prop}{g:Int→Int→V}(x y:V)(H:Hp)(Q:VK)(h:iD C g x y H Q):rI C g x y H Q:=by
 cases x<;>cases y<;>first
  | exact False.elim h
  | exact⟨_,_,rfl,rfl,h⟩
theorem pQ{g:Int→Int→V}(x y:V)(H:Hp)(Q:VK)(h:iD (fun _ _=>True) g x y H Q):i7 g x y H Q:=by
 cases x<;>cases y<;>first
  | exact False.elim h
  | exact⟨_,_,rfl,rfl,h.2⟩
def CA:R2:=fun x y H Q=>match x,y with
 | .int i, .int j=>sQ i j∧Q (.int (i*j)) H
 | .ref l, .int k=>BI (.ref l) (.int k) H Q
 | _,_=>False
theorem KO:ba X (binaryOp .Mult) CA:=by
 refine ba.imp (HY.or JN) fun x y H Q h=> ?_
 cases x<;>cases y<;>first
  | exact False.elim h
  | exact .inl ⟨_,_,rfl,rfl,h⟩
  | exact .inr h
def jj(K:Frag):Operator→R2
 | .Add=>Cz K
 | .Sub=>iD (fun _ _=>True) fun i j=> .int (i - j)
 | .Mult=>CA
 | .FloorDiv=>iD A7 fun i j=> .int (i / j)
 | .Mod=>iD (fun _ j=>0<j) fun i j=> .int (i % j)
 | .Pow=>iD A8 fun i j=> .int (i ^ j.toNat)
 | _=>fun _ _ _ _=>False
theorem CB(op:Operator):ba X (binaryOp op) (jj X.K op):=by
 cases op<;>first
  | exact KN
  | exact ba.imp HX pQ
  | exact KO
  | exact ba.imp HZ wX
  | exact ba.imp H0 wX
  | exact ba.imp H9 wX
  | exact fun _ _ _ _ _ _ _ _ _ _ _ _ h=>False.elim h
mutual
def Is(H:Hp):PyData→V→Prop
 | .none,v=>v= .aB
 | .bool b,v=>v= .bl b
 | .int i,v=>v= .int i
 | .str x,v=>v= .str x
 | .list xs,v=> ∃a vs,v= .ref a∧H a=some (.lst vs)∧IsL H xs vs
 | .tuple xs,v=> ∃a vs,v= .ref a∧H a=some (.tup vs)∧IsL H xs vs
 | .dict _,_=>False
def IsL(H:Hp):List PyData→List V→Prop
 | [],vs=>vs=[]
 | d::ds,vs=> ∃v r,vs=v::r∧Is H d v∧IsL H ds r
end
mutual
theorem Is.reads{pins:List (Addr×Obj)}{σ:St}{H:Hp}{s:Shared}(I:Inv X pins σ H s): ∀(d:PyData) (v:V) (u:Value),Is H d v→RelV v u→ ∃as,Reads s.heap u d as
 | .none,v,u,h,r=>by rw[show v= .aB from h] at r;rw[show u= .none from r];exact⟨_, .none⟩
 | .bool b,v,u,h,r=>by rw[show v= .bl b from h] at r;rw[show u= .bool b from r];exact⟨_, .bool b⟩
 | .int i,v,u,h,r=>by rw[show v= .int i from h] at r;obtain⟨t,e⟩:=r;rw[e];exact⟨_, .int i t⟩
 | .str x,v,u,h,r=>by rw[show v= .str x from h] at r;obtain⟨t,e⟩:=r;rw[e];exact⟨_, .str x t⟩
 | .list xs,v,u,h,r=>by
  obtain⟨a,vs,e,hH,hl⟩:=(show ∃a vs,v= .ref a∧H a=some (.lst vs)∧IsL H xs vs by simpa only[Is] using h)
  rw[e] at r
  rw[show u= .ref a from r]
  obtain⟨_,its,n,hv,hg⟩:=I.aE a _ hH
  obtain⟨as,q⟩:=IsL.reads I xs vs its hl hv
  exact⟨_, .list hg rfl rfl (by simpa using q)⟩
 | .tuple xs,v,u,h,r=>by
  obtain⟨a,vs,e,hH,hl⟩:=(show ∃a vs,v= .ref a∧H a=some (.tup vs)∧IsL H xs vs by simpa only[Is] using h)
  rw[e] at r
  rw[show u= .ref a from r]
  obtain⟨_,its,hv,o,hg,hc,n,hd⟩:=I.aE a _ hH
  obtain⟨as,q⟩:=IsL.reads I xs vs its hl hv
  exact⟨_, .tuple hg hc hd (by simpa using q)⟩
 | .dict _,v,u,h,r=>by simp only[Is] at h
theorem IsL.reads{pins:List (Addr×Obj)}{σ:St}{H:Hp}{s:Shared}(I:Inv X pins σ H s): ∀(ds:List PyData) (vs:List V) (us:List Value),IsL H ds vs→Vals vs us→ ∃as,ReadsAll s.heap us ds as
 | [],vs,us,h,r=>by
  rw[show vs=[] from h] at r
  cases r
  exact⟨_, .nil⟩
 | d::ds,vs,us,h,r=>by
  obtain⟨v,q,e,h1,h2⟩:=(show ∃v r,vs=v::r∧Is H d v∧IsL H ds r by simpa only[IsL] using h)
  rw[e] at r
  cases r with
  | cons r1 r2=>
   obtain⟨as,q1⟩:=Is.reads I d v _ h1 r1
   obtain⟨bs,q2⟩:=IsL.reads I ds q _ h2 r2
   exact⟨_, .cons q1 q2⟩
end
def KP:V→Bool
 | .kP _=>false
 | .d_ _=>false
 | _=>true
def KQ:R2:=fun x y H Q=> ∃a b xs,x= .ref a∧y= .ref b∧H a=some (.lst xs)∧H b=some (.lst xs)∧xs.all KP=true∧Q (.bl true) H
def jU(neg:Bool):R2:=fun x y H Q=>match lg x y with
 | true=>Q (.bl (neg ^^ decide (x=y))) H
 | false=> ∃d e,Is H d x∧Is H e y∧SeqAt.shaped d=true∧SeqAt.shaped e=true∧Q (.bl (neg ^^ PyData.eqv d e)) H
def KR:R2:=fun x y H Q=>jU false x y H Q∨KQ x y H Q
theorem KS(hu:X.A.units+64<cLine):ba X (compareOp .Eq) (jU false):=by
 intro pins s σ H x y v u Q I rx ry h
 unfold jU at h
 by_cases hs:lg x y=true
 ·rw[hs] at h
  simp only[Bool.false_xor] at h
  exact Ie pins s σ H x y v u Q I rx ry ⟨hs,h⟩
 ·rw[show lg x y=false by simpa using hs] at h
  obtain⟨d,e,h1,h2,h3,h4,q⟩:=h
  rw[Bool.false_xor] at q
  obtain⟨as,r1⟩:=Is.reads I d x v h1 rx
  obtain⟨bs,r2⟩:=Is.reads I e y u h2 ry
  exact eq_dataH r1 r2 h3 h4 hu ⟨.bl _,H,I,rfl,q⟩
theorem KU(hu:X.A.units+64<cLine):ba X (compareOp .NotEq) (jU true):=by
 intro pins s σ H x y v u Q I rx ry h
 unfold jU at h
 by_cases hs:lg x y=true
 ·rw[hs] at h
  simp only[Bool.true_xor] at h
  exact Ig pins s σ H x y v u Q I rx ry ⟨hs,h⟩
 ·rw[show lg x y=false by simpa using hs] at h
  obtain⟨d,e,h1,h2,h3,h4,q⟩:=h
  rw[Bool.true_xor] at q
  obtain⟨as,r1⟩:=Is.reads I d x v h1 rx
  obtain⟨bs,r2⟩:=Is.reads I e y u h2 ry
  exact ne_dataH r1 r2 h3 h4 hu ⟨.bl _,H,I,rfl,q⟩
theorem KW(l:Addr)(o:Obj)(es:Array DictEntry)(ep:Nat)(hc:o.cls= .type "dict")(hd:o.data= .dict es ep)(b:Str)(u:Tok):
  Meets (Builtin.«dict.__eq__» ⟨[.ref l, .str b u],[]⟩) (fun _ R s=>s.heap.get? l=some o∧R (.ok (.ret .notImplemented)) s):=
 .of_wp fun prog w A R s h=>by obtain⟨hp,g,d,tk,os⟩:=s;obtain⟨hl,h⟩:=h;obtain⟨cls,dd,data,sl⟩:=o;simp only at hc hd;subst hc hd;have f1:=F.sub_str_dict;wp_walk using AutoSeq1.wpAny_loadPart' hl;exact⟨_,rfl,h⟩
theorem KY(b:Str)(u:Tok)(l:Addr)(o:Obj)(es:Array DictEntry)(ep:Nat)(hc:o.cls= .type "dict")(hd:o.data= .dict es ep):
  Meets (Builtin.«str.__eq__» ⟨[.str b u, .ref l],[]⟩) (fun _ R s=>s.heap.get? l=some o∧R (.ok (.ret .notImplemented)) s):=
 .of_wp fun prog w A R s h=>by obtain⟨hp,g,d,tk,os⟩:=s;obtain⟨hl,h⟩:=h;obtain⟨cls,dd,data,sl⟩:=o;simp only at hc hd;subst hc hd;wp_walk using AutoSeq1.wpAny_loadPart' hl,wpAny_load hl;exact⟨_,rfl,h⟩
theorem KZ{A:Around}{s:Shared}{l:Addr}{o:Obj}{es:Array DictEntry}{ep:Nat}(b:Str)(u:Tok)(ho:s.heap.get? l=some o)(hc:o.cls= .type "dict")(hd:o.data= .dict es ep)(hu:A.units<cLine):SeqAt.EqAt A s (.str b u) (.ref l) false:=fun prog w E Q h=>by
 have rc:SeqAt.RcAt A s (.str b u) (.ref l) false:=fun prog w E Q h=>
  SeqAt.rc_eq_decline_or (k:=false) (typeIs_str s b u) ⟨_,ho,hc⟩ (by decide) F.sub_dict_str F.slot_str_eq F.slot_dict_eq_refl
   (fun _ hq=>call_meets F.slot_str_eq (typeIs_str s b u) F.entry_str_eq (F.args_str_eq_2 _ _) (KY b u l o es ep hc hd) ⟨ho,hq⟩)
   (fun _ hq=>call_meets F.slot_dict_eq_refl ⟨_,ho,hc⟩ F.entry_dict_eq (F.args_dict_eq_2 _ _) (KW l o es ep hc hd b u) ⟨ho,hq⟩)
   (fun _ hq=>wpAny_of_eq (rfl:isSame (.str b u) (.ref l)=pure false) hq) (.inr hu) h
 unfold eqBool
 refine wpAny_holding ?_
 refine wpAny_ite_split (fun eO=>absurd (eq_of_beq eO) nofun) (fun _=> ?_)
 exact wpAny_bind (rc prog w E _ (wpAny_truthy_bool h))
def CC(K:Frag)(H:Hp)(a:Addr):Prop:=(∃xs,aC K H a xs)∨(∃xs,aT K H a xs)∨ ∃ar,H a=some (.dK ar)
theorem pR{pins:List (Addr×Obj)}{σ:St}{H:Hp}{s:Shared}{a:Addr}(I:Inv X pins σ H s)(hc:CC X.K H a)(hu:X.A.units+64<cLine): ∀{ts:List Str} {us:List Value},Vals (ts.map V.str) us→ ∀u∈us,SeqAt.EqAt X.A.in1 s u (.ref a) false
 | [],_, .nil=>fun u hu=>by cases hu
 | t::ts,u::us, .cons r rs=>fun u' pT=>by
  rcases List.mem_cons.mp pT with rfl | pT
  ·obtain⟨k,rfl⟩:=(show ∃k,_=Value.str t k from r)
   have wY:X.A.in1.units<cLine:=by show X.A.units+1<cLine;omega
   rcases hc with⟨xs,hc⟩ | ⟨xs,hc⟩ | ⟨ar,hc⟩
   ·obtain⟨its,_,pl,_⟩:=I.list hc
    exact SeqAt.EqAt.str_list t k pl.isList wY
   ·obtain⟨its,_,pl,_⟩:=I.tuple hc
    exact SeqAt.EqAt.str_tuple t k pl wY
   ·obtain⟨_,_,vs,_,o,es,ep,ho,hx,hd,_⟩:=(show bS X.prog X.w H s.heap a (.dK ar) from I.aE a _ hc)
    exact KZ t k ho hx.1 hd wY
  ·exact pR I hc hu rs u' pT
def tK(K:Frag)(neg:Bool):R2:=fun x y H Q=>match y with
 | .str j=> ∃i,x= .str i∧Q (.bl (if neg then !(!(Builtin.Str.occurrences j i 0 j.length 1).isEmpty) else !(Builtin.Str.occurrences j i 0 j.length 1).isEmpty)) H
 | .ref p=>match x with
  | .ref a=> ∃ts:List Str,(aC K H p (ts.map V.str)∨aT K H p (ts.map V.str))∧CC K H a∧Q (.bl neg) H
  | x=>wq K neg x (.ref p) H Q
 | _=>False
theorem K0(hu:X.A.units+64<cLine):ba X (compareOp .In) (tK X.K false):=by
 intro pins s σ H x y v u Q I rx ry h
 cases y with
 | str j=>
  obtain⟨i,e,q⟩:=h
  exact Il pins s σ H x _ v u Q I rx ry ⟨i,j,e,rfl,q⟩
 | ref p=>
  cases x with
  | ref a=>
   obtain⟨ts,hq,hc,q⟩:=h
   cases rx
   cases ry
   rcases hq with hq | hq
   ·obtain⟨its,r,pl,hz⟩:=I.list hq
    refine SeqAt.in_listAt (fun _=>false) pl.isList (fun w hw=>pR I hc hu r w (by simpa using hw)) ⟨.bl _,H,I,rfl, ?_⟩
    rw[show(its.toArray.any fun _=>false)=false by simp];exact q
   ·obtain⟨its,r,pl,hz⟩:=I.tuple hq
    refine SeqAt.in_tupleAt (fun _=>false) pl (fun w hw=>pR I hc hu r w (by simpa using hw)) ⟨.bl _,H,I,rfl, ?_⟩
    rw[show(its.toArray.any fun _=>false)=false by simp];exact q
  | _=>exact Js pins s σ H _ _ v u Q I rx ry h
 | _=>exact False.elim h
theorem K1(hu:X.A.units+64<cLine):ba X (compareOp .NotIn) (tK X.K true):=by
 intro pins s σ H x y v u Q I rx ry h
 cases y with
 | str j=>
  obtain⟨i,e,q⟩:=h
  exact Ip pins s σ H x _ v u Q I rx ry ⟨i,j,e,rfl,q⟩
 | ref p=>
  cases x with
  | ref a=>
   obtain⟨ts,hq,hc,q⟩:=h
   cases rx
   cases ry
   rcases hq with hq | hq
   ·obtain⟨its,r,pl,hz⟩:=I.list hq
    refine SeqAt.notIn_listAt (fun _=>false) pl.isList (fun w hw=>pR I hc hu r w (by simpa using hw)) ⟨.bl _,H,I,rfl, ?_⟩
    rw[show(its.toArray.any fun _=>false)=false by simp];exact q
   ·obtain⟨its,r,pl,hz⟩:=I.tuple hq
    refine SeqAt.notIn_tupleAt (fun _=>false) pl (fun w hw=>pR I hc hu r w (by simpa using hw)) ⟨.bl _,H,I,rfl, ?_⟩
    rw[show(its.toArray.any fun _=>false)=false by simp];exact q
  | _=>exact Jt pins s σ H _ _ v u Q I rx ry h
 | _=>exact False.elim h
theorem K2{M:Model}{A:Around}{E:Value→Shared→Prop}{s:Shared}{Q:Value→Shared→Prop}{v:Value}{d:Bool}(hv: ∀id,v≠ .builtin id)(h:Q (.bool (v== .bool d)) s):wpAny M A (compareOp .Is v (.bool d)) Q E s:=by
 cases v<;>first | exact wpAny_pure h | exact absurd rfl (hv _)
theorem K3{M:Model}{A:Around}{E:Value→Shared→Prop}{s:Shared}{Q:Value→Shared→Prop}{v:Value}{d:Bool}(hv: ∀id,v≠ .builtin id)(h:Q (.bool (!(v== .bool d))) s):wpAny M A (compareOp .IsNot v (.bool d)) Q E s:=by
 cases v<;>first | exact wpAny_pure h | exact absurd rfl (hv _)
def CD:R2:=fun x y H Q=>match y with
 | .bl b=>Q (.bl (decide (x= .bl b))) H
 | _=>y= .aB∧Q (.bl (decide (x= .aB))) H
def CF:R2:=fun x y H Q=>match y with
 | .bl b=>Q (.bl (!decide (x= .bl b))) H
 | _=>y= .aB∧Q (.bl (!decide (x= .aB))) H
theorem K4:ba X (compareOp .Is) CD:=by
 intro pins s σ H x y v u Q I rx ry h
 cases y with
 | bl b=>
  cases ry
  have nb: ∀id,v≠ .builtin id:=fun id z=>by
   subst z
   cases x<;>first
    | (obtain⟨t,e⟩:=rx;cases e;done)
    | (cases rx;done)
  refine K2 nb (bU I (show Q (.bl (decide (x= .bl b))) H from h) ?_)
  cases x<;>first
   | (cases rx;rfl)
   | (obtain⟨t,rfl⟩:=rx;rfl)
   | (cases rx;rename_i a;cases a<;>cases b<;>rfl)
 | _=>exact Im pins s σ H x _ v u Q I rx ry h
theorem K5:ba X (compareOp .IsNot) CF:=by
 intro pins s σ H x y v u Q I rx ry h
 cases y with
 | bl b=>
  cases ry
  have nb: ∀id,v≠ .builtin id:=fun id z=>by
   subst z
   cases x<;>first
    | (obtain⟨t,e⟩:=rx;cases e;done)
    | (cases rx;done)
  refine K3 nb (bU I (show Q (.bl (!decide (x= .bl b))) H from h) ?_)
  cases x<;>first
   | (cases rx;rfl)
   | (obtain⟨t,rfl⟩:=rx;rfl)
   | (cases rx;rename_i a;cases a<;>cases b<;>rfl)
 | _=>exact Io pins s σ H x _ v u Q I rx ry h
def bY(K:Frag):CmpOp→R2
 | .Eq=>jU false
 | .NotEq=>jU true
 | .Lt=>iD (fun _ _=>True) fun i j=> .bl (decide (i<j))
 | .LtE=>iD (fun _ _=>True) fun i j=> .bl (decide (i≤j))
 | .Gt=>iD (fun _ _=>True) fun i j=> .bl (decide (j<i))
 | .GtE=>iD (fun _ _=>True) fun i j=> .bl (decide (j≤i))
 | .In=>tK K false
 | .NotIn=>tK K true
 | .Is=>CD
 | .IsNot=>CF
theorem nH(hu:X.A.units+64<cLine)(op:CmpOp):ba X (compareOp op) (bY X.K op):=by
 cases op with
 | Eq=>exact KS hu
 | NotEq=>exact KU hu
 | Lt=>exact ba.imp Ih pQ
 | LtE=>exact ba.imp Ii pQ
 | Gt=>exact ba.imp Ij pQ
 | GtE=>exact ba.imp Ik pQ
 | In=>exact K0 hu
 | NotIn=>exact K1 hu
 | Is=>exact K4
 | IsNot=>exact K5
inductive Ty where | int | str | bool | list | tuple | dict
 deriving DecidableEq
def Ty.nm:Ty→String
 | .int=> "int" | .str=> "str" | .bool=> "bool" | .list=> "list" | .tuple=> "tuple" | .dict=> "dict"
def bx(T:Ty)(x:V)(H:Hp)(Q:Bool→Prop):Prop:=match x with
 | .aB=>Q false
 | .bl _=>Q (T== .bool || T== .int)
 | .int _=>Q (T== .int)
 | .str _=>Q (T== .str)
 | .ref a=>match H a with
  | some (.lst _)=>Q (T== .list)
  | some (.bA _ (.lst _))=>Q (T== .list)
  | some (.tup _)=>Q (T== .tuple)
  | some (.dK _)=>Q (T== .dict)
  | some (.dT _)=>Q (T== .dict)
  | _=>False
 | _=>False
theorem jV(K:Frag)(S T:Ty):kitOne K (.type S.nm) (.type T.nm)=some (S==T || (S== .bool && T== .int)):=by
 cases S<;>cases T<;>rfl
theorem K6(K:Frag)(T:Ty):kitOne K (.type "NoneType") (.type T.nm)=some false:=by
 cases T<;>rfl
theorem K7(hc:X.calm=true):bT X (.builtin "sum") (fun xs H Q=> ∃(p:Addr) (ns:List Int),xs=[.ref p]∧aC X.K H p (ns.map V.int)∧Q (.int ns.sum) H):=by
 intro pins s σ H xs us Q I r h
 obtain⟨p,ns,rfl,hq,q⟩:=h
 obtain⟨u,rfl,ru⟩:=vals1 r
 cases ru
 obtain⟨its,rv,pl,hz⟩:=I.list hq
 have hi:=intsAre_of rv
 obtain⟨xs,hx⟩:=hi.allInts.items
 have tL:s.heap.IsList p (intItems xs):=hx ▸ pl.isList
 refine sum_intListG (I.ok.hd hc) tL fun h' tk t' hk=> ?_
 have e1:ns=xs.toList.map (·.1):=by
  rw[←nums_intItems,←hx]
  exact(show numsOf its.toArray.toList=ns from hi.numsOf).symm
 have e2:preSum (numAt xs) xs.size=ns.sum:=by
  rw[preSum_eq,List.take_of_length_le (by simp),e1]
 rw[e2]
 exact⟨.int ns.sum,H,I.kept (t':=tk) hk,⟨t',rfl⟩,q⟩
theorem CG: ∀{ts:List Str} {us:List Value},Vals (ts.map V.str) us→ ∃l:List (Str×Tok),us=strValues l∧l.map (·.1)=ts
 | [],_, .nil=> ⟨[],rfl,rfl⟩
 | x::ts,_, .cons ⟨t,e⟩ r=>by
  obtain⟨l,e1,e2⟩:=CG r
  subst e e1
  exact⟨(x,t)::l,rfl,by simp[e2]⟩
def rJoin(K:Frag):V→List V→Hp→VK→Prop:=fun x vs H Q=> ∃(sep:Str) (p:Addr) (ts:List Str),x= .str sep∧vs=[.ref p]∧aC K H p (ts.map V.str)∧JoinOk sep ts=true∧Q (.str (Txt.join sep ts)) H
theorem K8:gQ X "str.join" (rJoin X.K):=by
 intro pins s σ H x vs v us Q I rx rv h
 obtain⟨sep,p,ts,rfl,rfl,hq,hj,q⟩:=h
 obtain⟨t,rfl⟩:=rx
 obtain⟨u,rfl,ru⟩:=vals1 rv
 cases ru
 obtain⟨its,rv,pl,hz⟩:=I.list hq
 obtain⟨l,rfl,e2⟩:=CG rv
 exact SC.join pl.isList e2 hj fun t' k=> ⟨.str _,H,I.tok k,⟨t',rfl⟩,q⟩
def K9:V→List V→Hp→VK→Prop:=fun x vs H Q=> ∃z y,x= .str z∧vs=[.str y]∧z.length≤sizeLine∧Q (.str (Txt.lstripChars z y)) H
theorem K_:gQ X "str.lstrip" K9:=by
 intro pins s σ H x vs v us Q I rx rv h
 obtain⟨z,y,rfl,rfl,hz,q⟩:=h
 obtain⟨t,rfl⟩:=rx
 obtain⟨u,rfl,⟨t2,rfl⟩⟩:=vals1 rv
 refine call_gives F.slot_str_lstrip (typeIs_str _ _ _) F.entry_str_lstrip (F.args_str_lstrip_2 _ _) (gives_str_lstrip_chars z y t t2) (post_val_or_made (fun _=>fits_stripped _ _ _ hz) fun t' k=> ?_)
 exact⟨.str _,H,I.tok k,⟨t',rfl⟩,q⟩
def La:V→List V→Hp→VK→Prop:=fun x vs H Q=> ∃z y i,x= .str z∧vs=[.str y, .int i]∧Q (.bl (decide (fromIndex z.length i+y.length≤z.length) && Builtin.Str.subAt z y (fromIndex z.length i))) H
theorem Lb:gQ X "str.startswith" La:=by
 intro pins s σ H x vs v us Q I rx rv h
 obtain⟨z,y,i,rfl,rfl,q⟩:=h
 obtain⟨t,rfl⟩:=rx
 obtain⟨u,w,rfl,⟨t2,rfl⟩,⟨t3,rfl⟩⟩:=vals2 rv
 exact call_gives F.slot_str_startswith (typeIs_str _ _ _) F.entry_str_startswith (F.args_str_startswith_3 _ _ _) (gives_str_startswith_from z y i t t2 t3) ⟨.bl _,H,I,rfl,q⟩
def jk{α:Type}(xs:List α)(lo hi:Option Int):List α:=(xs.drop (HT.aP xs.length 0 lo)).take (HT.aP xs.length xs.length hi - HT.aP xs.length 0 lo)
def lL(z:Str)(lo hi:Option Int):Str:=⟨(jk z.cps.toList lo hi).toArray⟩
theorem Lc(z:Str)(lo hi:Option Int):((Builtin.Str.strSliceIndices lo hi 1 z.length).filterMap (z.cps[·]?))=jk z.cps.toList lo hi:=by
 obtain⟨h1,h2,h3⟩:=wo lo hi z.length
 have e0:Builtin.Str.strSliceIndices lo hi 1 z.length=sliceRange (sliceBounds lo hi none z.length).1 (sliceBounds lo hi none z.length).2.1 (sliceBounds lo hi none z.length).2.2:=rfl
 have hz:z.cps.toList.length=z.length:=by simp[Str.length]
 rw[e0,h1,h2,h3,sliceRange_one,pick_run]
 unfold jk
 rw[hz]
end
section
variable {X:Cx}
def tM(K:Frag)(neg:Bool):R2:=fun x y H Q=> ∃p xs d es,y= .ref p∧aC K H p xs∧Is H d x∧IsL H es xs∧SeqAt.shaped d=true∧d.depth≤60∧(∀e∈es,SeqAt.shaped e=true)∧Q (.bl (neg ^^ es.any fun e=>PyData.eqv e d)) H
open Classical in
end
def jl:HO:= .ext fun _=>True
structure tN (ob:Obj) (cls:Value) (vs:Array Value):Prop where
 cls:ob.cls=cls
 data:ob.data= .fields vs
 Ld:vs[2]?=some .none
 dict:ob.dict=none
def ExcAt(H:Hp)(ea D:Addr):Prop:= ∃ob vs,H ea=some (.bA ob jl)∧tN ob (.ref D) vs
structure pU (K:Frag) (D:Addr):Prop where
 pV:PySem.W.findIn K (.ref D) "__getattribute__"=some (some (.builtin "BaseException.__getattribute__"))
 pX:PySem.W.findIn K (.ref D) "__getattr__"=some none
 hk:(PySem.W.clsIn K D).isSome=true
 ha:PySem.W.findIn K (.ref D) "__class__"=some (some (.builtin "object.__class__"))
 hn:PySem.W.specialIn K (.builtin "object.__class__") "__get__"=some (some (.builtin "getset_descriptor.__get__"))
 jP:PySem.W.takesIn K (.builtin "object.__class__")=some true
 hm:PySem.W.mroIn K D (.type "object")=some true
 hb:PySem.W.mroIn K D (.type "BaseException")=some true
def cV:V→Value
 | .ref a=> .ref a
 | .ty n=> .type n
 | _=> .none
def iE(K:Frag):List V→Hp→VK→Prop
 | [.ref ea,c],H,Q=> ∃D b,ExcAt H ea D∧pU K D∧((∃C,c= .ref C)∨ ∃n,c= .ty n)∧kitOne K (.ref D) (cV c)=some b∧Q (.bl b) H
 | _,_,_=>False
def CH(sp:Sp)(hv:Option Addr)(t:TA):TE:=fun σ H Q=>t σ H fun vs H1=> (∃ea D,hv=some ea∧ExcAt H1 ea D)∧sp vs H1 Q E0
def wZ(C:Addr)(E:XK)(t:TA):TS:=fun _ σ H=>t σ H fun vs H1=>vs.length≤sizeLine∧E (.ref C) none H1
def Le(K:Frag)(C:Addr)(i n:Nat)(th:Addr→TS)(D:Ends):XK:=fun cls _ H'=>exmOne K cls (.ref C)=some true∧
 ∀(ea:Addr) (ob:Obj) (vs:Array Value) (σ':St),H' ea=none→σ'.length=n→tN ob cls vs→th ea {nx:=fun _ _=>False,rt:=D.rt} (σ'.set i (some (.ref ea))) (upd H' ea (.bA ob jl))
def Lf(K:Frag)(C:Addr)(i n:Nat)(tb:XK→TS)(th:Addr→TS):TS:=fun D σ H=>tb (Le K C i n th D) {nx:=D.nx,rt:=D.rt} σ H
def w4(K:Frag)(C:Addr)(i:Nat)(th:Addr→TS)(D:Ends)(σ:St):XK:=fun cls _ H'=>exmOne K cls (.ref C)=some true∧
 ∀(ea:Addr) (ob:Obj) (vs:Array Value),H' ea=none→tN ob cls vs→th ea {nx:=fun _ _=>False,rt:=D.rt} (σ.set i (some (.ref ea))) (upd H' ea (.bA ob jl))
def tO(K:Frag)(C:Addr)(i k:Nat)(sp:Sp)(ta:TA)(th:Addr→TS):TS:=fun D σ H=>ta σ H fun vs H1=>sp vs H1 (fun v H2=>D.nx (σ.set k (some v)) H2) (w4 K C i th D σ)
inductive jW where | len | min | max | sum | int | list | tuple | abs
 deriving DecidableEq
inductive gX where | append | pop | extend | join | lstrip | starts | reverse | clear | index | find | count | w5 | w6
 deriving DecidableEq
inductive IK where | list | tup | fH | Lg | zip | Lh | txt | tP | w9
 deriving DecidableEq
inductive RE where
 | v (i:Nat) | c (x:V) | g (j:Nat)
 | bin (op:Operator) (a b:RE) | neg (a:RE)
 | cmp (op:CmpOp) (a b:RE) | iG (op cy:CmpOp) (a b d:RE) | CI (op cy CJ:CmpOp) (a b d f:RE)
 | and (as:List RE) | or (as:List RE) | not (a:RE) | lM (t a b:RE)
 | call (j:Nat) (as:List RE) | blt (b:jW) (as:List RE) | cT (T:Ty) (a:RE)
 | di (m:gX) (o:RE) (as:List RE)
 | ix (a b:RE) | sl (a:RE) (lo hi:Option RE)
 | tup (as:List RE) | lst (as:List RE)
 | comp (tk:Option Nat) (fv:List (Str×Nat)) (k:IK) (its:List RE) (cond:Option RE) (elt:RE)
 | cL (a c:RE) | tQ (j:Nat) (a:RE) | w_ | same (a b:RE)
 | Li | Lj (a b:RE) | CK (a b:RE) | CL (a b:RE) | tR (o a b:RE) | inD (a b:RE) | CM (a b:RE)
 | xt (T:Frag→TA→TE) (as:List RE) | xm (T:Frag→TE→TA→TE) (o:RE) (as:List RE)
 | fld (o:RE) (f:Str) | CN (j:Nat) (m:Str) (o:RE) (as:List RE) | make (j:Nat) (as:List RE)
inductive RS where
 | asg (i:Nat) (e:RE) | lN (i:Nat) (e:RE) | set (o ix e:RE)
 | drop (e:RE) | ret (e:RE) | Lk
 | ite (c:RE) (t e:List RS)
 | iH (i:Nat) (k:IK) (its:List RE) (body:List RS)
 | Ll (is:List Nat) (k:IK) (its:List RE) (body:List RS)
 | Lm (c:RE) (body:List RS)
 | pass | brk | cont | never
 | Ln (o lo hi e:RE) | Lo (o:RE) (f:Str) (e:RE)
 | tU (is:List Nat) (e:RE) | dput (o i e:RE) | pY (j:Nat) (as:List RE) | Lp (n i j:Nat) (body su:List RS) | xa (k i j f:Nat) (as:List RE) (su:List RS)
structure aL where
 K:Frag
 fs:Nat→Sp
 gv:Nat→V
 E:XK
 sd:Addr→List (Key×V)→Prop
 ms:Nat→Addr×Sp
 kt:Nat→Addr×Sp
 ex:Nat→Addr
 hs:Nat→Sp
 hv:Option Addr
abbrev aL.calm(Γ:aL):aL:={Γ with E:=E0}
def fO(K:Frag)(x:V)(H:Hp)(Q:Bool→Prop):Prop:=match x with
 | .aB=>Q false
 | .bl b=>Q b
 | .int i=>Q (i !=0)
 | .str y=>y.length≤sizeLine∧Q ((y.length:Int) !=0)
 | .ref p=> (∃xs,aC K H p xs∧Q (!xs.isEmpty))∨(∃xs,aT K H p xs∧Q (!xs.isEmpty))∨ ∃ar,H p=some (.dK ar)∧Q (!ar.isEmpty)
 | _=>False
theorem CO{K:Frag}{x:V}{H:Hp}{Q:Bool→Prop}(h:fO K x H Q): ∃k,Bb K x H k∧Q k:=by
 cases x with
 | aB=>exact⟨_,rfl,h⟩
 | bl b=>exact⟨_,rfl,h⟩
 | int i=>exact⟨_,rfl,h⟩
 | str y=>exact⟨_,⟨h.1,rfl⟩,h.2⟩
 | ref p=>
  rcases h with⟨xs,h1,h2⟩ | ⟨xs,h1,h2⟩ | ⟨xs,h1,h2⟩
  ·exact⟨_, .inl ⟨xs,h1,rfl⟩,h2⟩
  ·exact⟨_, .inr (.inl ⟨xs,h1,rfl⟩),h2⟩
  ·exact⟨_, .inr (.inr ⟨xs,h1,rfl⟩),h2⟩
 | _=>exact False.elim h
def dE(K:Frag)(t:TE):TT:=fun σ H Q=>t σ H fun x H1=>fO K x H1 fun b=>Q b H1
def xb(K:Frag)(t:TE):TE:=fun σ H Q=>t σ H fun x H1=>fO K x H1 fun b=>Q (.bl (!b)) H1
def CP:V→Hp→VK→Prop:=fun x H Q=>match x with | .int i=>Q (.int (-i)) H | _=>False
def lF(K:Frag)(x:V)(H:Hp)(Q:Nat→Prop):Prop:=match x with
 | .str y=>y.length≤sizeLine∧Q y.length
 | .ref p=> (∃xs,aC K H p xs∧Q xs.length)∨ ∃xs,aT K H p xs∧Q xs.length
 | _=>False
def signs(x:Str):List V:=x.cps.toList.map fun c=>V.str ⟨#[c]⟩
def CQ:TE:=fun _ H Q=> ∀p,H p=none→Q (.ref p) (upd H p (.dK []))
def jX(K:Frag):jW→List V→Hp→VK→Prop
 | .len,[x],H,Q=>lF K x H fun n=>Q (.int n) H
 | .min,[.int i, .int j],H,Q=>Q (.int (if j<i then j else i)) H
 | .max,[.int i, .int j],H,Q=>Q (.int (if j>i then j else i)) H
 | .min,[.ref p],H,Q=> ∃ns:List Int,aC K H p (ns.map V.int)∧ns≠ []∧ ∀m:Int,m∈ns→(∀n∈ns,m≤n)→Q (.int m) H
 | .max,[.ref p],H,Q=> ∃ns:List Int,aC K H p (ns.map V.int)∧ns≠ []∧ ∀m:Int,m∈ns→(∀n∈ns,n≤m)→Q (.int m) H
 | .sum,[.ref p],H,Q=> ∃ns:List Int,aC K H p (ns.map V.int)∧Q (.int ns.sum) H
 | .int,[.int i],H,Q=>Q (.int i) H
 | .int,[.bl k],H,Q=>Q (.int (if k then 1 else 0)) H
 | .list,[.ref p],H,Q=> ∃ys,(aC K H p ys∨aT K H p ys)∧ ∀l,H l=none→Q (.ref l) (upd H l (.lst ys))
 | .list,[.str x],H,Q=>x.length≤sizeLine∧ ∀l,H l=none→Q (.ref l) (upd H l (.lst (signs x)))
 | .tuple,[.str x],H,Q=>x.length≤sizeLine∧ ∀l,H l=none→Q (.ref l) (upd H l (.tup (signs x)))
 | .abs,[.int i],H,Q=>Q (.int (if i<0 then -i else i)) H
 | .tuple,[.ref p],H,Q=> ∃ys,(aC K H p ys∧ ∀l,H l=none→Q (.ref l) (upd H l (.tup ys)))∨(aT K H p ys∧Q (.ref p) H)
 | _,_,_,_=>False
def gY(T:Ty):List V→Hp→VK→Prop
 | [x, .ty n],H,Q=>n=T.nm∧bx T x H fun b=>Q (.bl b) H
 | _,_,_=>False
def xf(K:Frag):gX→V→List V→Hp→VK→Prop
 | .append, .ref l,[y],H,Q=> ∃xs,H l=some (.lst xs)∧xs.length<sizeLine∧Q .aB (upd H l (.lst (xs++ [y])))
 | .pop, .ref l,[],H,Q=> ∃xs y,H l=some (.lst xs)∧xs[xs.length - 1]?=some y∧Q y (upd H l (.lst xs.dropLast))
 | .extend, .ref l,[.ref b],H,Q=> ∃xs zs,H l=some (.lst xs)∧H b=some (.lst zs)∧xs.length+zs.length≤sizeLine∧Q .aB (upd H l (.lst (xs++zs)))
 | .join, .str sep,[.ref p],H,Q=> ∃ts:List Str,aC K H p (ts.map V.str)∧JoinOk sep ts=true∧Q (.str (Txt.join sep ts)) H
 | .lstrip, .str z,[.str y],H,Q=>z.length≤sizeLine∧Q (.str (Txt.lstripChars z y)) H
 | .starts, .str z,[.str y, .int i],H,Q=>Q (.bl (decide (fromIndex z.length i+y.length≤z.length) && Builtin.Str.subAt z y (fromIndex z.length i))) H
 | .find, .str z,[.str y],H,Q=>Q (.int (match Builtin.Str.occurrences z y 0 z.length 1 with | i::_=> (i:Int) | []=> -1)) H
 | .find, .str z,[.str y, .int i],H,Q=>Q (.int (match Builtin.Str.occurrences z y (fromIndex z.length i) z.length 1 with | k::_=> (k:Int) | []=> -1)) H
 | .count, .str z,[.str y],H,Q=>Q (.int (Builtin.Str.occurrences z y 0 z.length (z.length+1)).length) H
 | .reverse, .ref l,[],H,Q=> ∃xs,H l=some (.lst xs)∧Q .aB (upd H l (.lst xs.reverse))
 | .index, .ref l,[.str y],H,Q=> ∃ts:List Str,aC K H l (ts.map V.str)∧y∈ts∧Q (.int (ts.idxOf y:Nat)) H
 | .clear, .ref l,[],H,Q=> ∃xs,H l=some (.lst xs)∧Q .aB (upd H l (.lst []))
 | .w5, .ref l,[y],H,Q=> ∃xs,aC K H l xs∧dc y=true∧xs.all dc=true∧Q (.int (xs.countP (fun z=>dS z y):Nat)) H
 | .w6, .ref l,[y],H,Q=> ∃xs,aC K H l xs∧dc y=true∧xs.all dc=true∧bB y xs=true∧Q (.int (xs.findIdx (fun z=>dS z y):Nat)) H
 | _,_,_,_,_=>False
def tV:gX→String
 | .join | .lstrip | .starts | .find | .count=> "str"
 | _=> "list"
def tW(K:Frag)(m:gX)(to:TE)(t:TA):TE:=fun σ H Q=>to σ H fun x H1=>jR K (tV m) x H1∧t σ H1 fun xs H2=>xf K m x xs H2 Q
def lO(K:Frag):V→Option Int→Option Int→Hp→VK→Prop:=fun x lo hi H Q=>match x with
 | .str z=>z.length≤sizeLine∧Q (.str (lL z lo hi)) H
 | .ref a=> (∃xs,aC K H a xs∧ ∀p,H p=none→Q (.ref p) (upd H p (.lst (fN xs lo hi))))∨
  (∃xs,aT K H a xs∧ ¬(HT.aP xs.length 0 lo=0∧HT.aP xs.length xs.length hi=xs.length)∧ ∀p,H p=none→Q (.ref p) (upd H p (.tup (fN xs lo hi))))
 | _=>False
def lP(ar:List (Key×V))(k:Key):Option V:=(ar.find? fun kv=>decide (kv.1=k)).map (·.2)
def CS(sd:Addr→List (Key×V)→Prop):R2:=fun x y H Q=> ∃p ar k v,x= .ref p∧y=kV k∧sd p ar∧lP ar k=some v∧Q v H
def jm(K:Frag)(sd:Addr→List (Key×V)→Prop):R2:=fun x y H Q=>BB K x y H Q∨BC K x y H Q∨BD x y H Q∨CS sd x y H Q
def Lq(r r' r2:R2)(ta tb tc td:TE):TT:=fun σ H Q=>ta σ H fun x H1=>tb σ H1 fun y H2=>r x y H2 fun z H3=> ∃k,z= .bl k∧
 (if k=true then tc σ H3 fun w H4=>r' y w H4 fun z2 H5=> ∃k2,z2= .bl k2∧(if k2=true then td σ H5 fun u H6=>r2 w u H6 fun z3 H7=> ∃k3,z3= .bl k3∧Q k3 H7 else Q false H5) else Q false H3)
def Lr(K:Frag)(a b:Addr):It:=
  ⟨fun i H=> ∃xs ys,aC K H a xs∧aC K H b ys∧i<xs.length∧i<ys.length,
   fun i H x H'=> ∃T,H T=none∧x= .ref T∧ ∀xs ys u v,aC K H a xs→aC K H b ys→xs[i]?=some u→ys[i]?=some v→H'=upd H T (.tup [u,v]),
   fun i H=> ∃xs ys,aC K H a xs∧aC K H b ys∧i=min xs.length ys.length⟩
def Ls(K:Frag)(a:Addr):It:=
  ⟨fun i H=> ∃xs,aC K H a xs∧i<xs.length,
   fun i H x H'=> ∃T,H T=none∧x= .ref T∧ ∀xs u,aC K H a xs→xs[i]?=some u→H'=upd H T (.tup [.int (i:Nat),u]),
   fun i H=> ∃xs,aC K H a xs∧i=xs.length⟩
def Lu(K:Frag)(ta:TA):TI:=fun σ H R=>ta σ H fun vs H1=> ∃a,vs=[.ref a]∧(∃xs,aC K H1 a xs)∧R (Ls K a) H1
def Lv(K:Frag)(ta:TA):TI:=fun σ H R=>ta σ H fun vs H1=> ∃a b,vs=[.ref a, .ref b]∧(∃xs,aC K H1 a xs)∧(∃ys,aC K H1 b ys)∧R (Lr K a b) H1
def jY(K:Frag)(a b:Addr):It:=
  ⟨fun i H=> ∃xs ys,aT K H a xs∧aT K H b ys∧i<xs.length∧i<ys.length,
   fun i H x H'=> ∃T,H T=none∧x= .ref T∧ ∀xs ys u v,aT K H a xs→aT K H b ys→xs[i]?=some u→ys[i]?=some v→H'=upd H T (.tup [u,v]),
   fun i H=> ∃xs ys,aT K H a xs∧aT K H b ys∧i=min xs.length ys.length⟩
def xg(K:Frag)(ta:TA):TI:=fun σ H R=>ta σ H fun vs H1=> ∃a b,vs=[.ref a, .ref b]∧(∃xs,aT K H1 a xs)∧(∃ys,aT K H1 b ys)∧R (jY K a b) H1
def pZ(z:Str):It:=⟨fun i _=>i<z.length,fun i H x H'=>H'=H∧ ∃c,z.cps[i]?=some c∧x= .str ⟨#[c]⟩,fun i _=>i=z.length⟩
def CT(ta:TE):TI:=fun σ H R=>ta σ H fun x H1=> ∃z,x= .str z∧R (pZ z) H1
def p6(lo c:Int)(n:Nat):It:=⟨fun i _=>i<n,fun i H x H'=>H'=H∧x= .int (lo+i*c),fun i _=>n≤i⟩
def CU(ta:TA):TI:=fun σ H R=>ta σ H fun vs H1=> ∃(i j c:Int) (n:Nat),vs=[.int i, .int j, .int c]∧c≠0∧Builtin.Range.small i j c=true∧Builtin.divisionGoesByPylong (j - i) c=false∧Builtin.Range.rangeSize i j c=n∧R (p6 i c n) H1
mutual
def af(Γ:aL):RE→TE
 | .v i=>vR i
 | .c x=>tC x
 | .g j=>tC (Γ.gv j)
 | .bin op a b=>dt (jj Γ.K op) (af Γ a) (af Γ b)
 | .neg a=>A5 CP (af Γ a)
 | .cmp op a b=>dt (bY Γ.K op) (af Γ a) (af Γ b)
 | .iG op cy a b d=>nz (bY Γ.K op) (bY Γ.K cy) (af Γ a) (af Γ b) (af Γ d)
 | .CI _ _ _ _ _ _ _=>fun _ _ _=>False
 | .and as=>CV Γ as
 | .or as=>CW Γ as
 | .not a=>xb Γ.K (af Γ a)
 | .lM t a b=>AO (bf Γ t) (af Γ a) (af Γ b)
 | .call j as=>wa (Γ.fs j) [] Γ.E (aY Γ as)
 | .blt b as=>eM (jX Γ.K b) (aY Γ as)
 | .cT T a=>eM (gY T) (cz (af Γ a) (cz (tC (.ty T.nm)) fk))
 | .di m o as=>tW Γ.K m (af Γ o) (aY Γ as)
 | .ix a b=>dt (jm Γ.K Γ.sd) (af Γ a) (af Γ b)
 | .sl a lo hi=>wg (lO Γ.K) (af Γ a) (jZ Γ lo) (jZ Γ hi)
 | .tup as=>Bi (aY Γ as)
 | .lst as=>Bj (aY Γ as)
 | .comp tk fv k its cond elt=>jh Γ.K (eo Γ k its) tk fv (p8 Γ.calm cond) (af Γ.calm elt)
 | .cL a c=>eM (iE Γ.K) (cz (af Γ a) (cz (af Γ c) fk))
 | .w_=>CQ
 | .same a b=>dt KR (af Γ a) (af Γ b)
 | .inD a b=>dt (tM Γ.K false) (af Γ a) (af Γ b)
 | .CM a b=>dt (tM Γ.K true) (af Γ a) (af Γ b)
 | .Li=>J9
 | .Lj a b=>J6 (af Γ a) (af Γ b)
 | .CK a b=>BU (af Γ a) (af Γ b)
 | .CL a b=>BV (af Γ a) (af Γ b)
 | .tR o a b=>BX (af Γ o) (af Γ a) (af Γ b)
 | .xt T as=>T Γ.K (aY Γ as)
 | .xm T o as=>T Γ.K (af Γ o) (aY Γ as)
 | .tQ j a=>CH (Γ.hs j) Γ.hv (cz (af Γ a) fk)
 | .fld o f=>Bh Γ.K (af Γ o) f
 | .CN j m o as=>Bk (Γ.ms j).1 m (Γ.ms j).2 [] Γ.E (af Γ o) (aY Γ as)
 | .make j as=>IM (Γ.kt j).1 (Γ.kt j).2 [] Γ.E (aY Γ as)
def bf(Γ:aL):RE→TT
 | .not a=>AK (bf Γ a)
 | .inD a b=>jN (dt (tM Γ.K false) (af Γ a) (af Γ b))
 | .CM a b=>jN (dt (tM Γ.K true) (af Γ a) (af Γ b))
 | .CK a b=>tB (BU (af Γ a) (af Γ b))
 | .CL a b=>tB (BV (af Γ a) (af Γ b))
 | .and as=>CY Γ as
 | .or as=>CZ Γ as
 | .cmp op a b=>jN (dt (bY Γ.K op) (af Γ a) (af Γ b))
 | .iG op cy a b d=>jN (nz (bY Γ.K op) (bY Γ.K cy) (af Γ a) (af Γ b) (af Γ d))
 | .CI op cy CJ a b d f=>Lq (bY Γ.K op) (bY Γ.K cy) (bY Γ.K CJ) (af Γ a) (af Γ b) (af Γ d) (af Γ f)
 | .v i=>dE Γ.K (vR i)
 | .call j as=>dE Γ.K (wa (Γ.fs j) [] Γ.E (aY Γ as))
 | .cT T a=>dE Γ.K (eM (gY T) (cz (af Γ a) (cz (tC (.ty T.nm)) fk)))
 | .cL a c=>dE Γ.K (eM (iE Γ.K) (cz (af Γ a) (cz (af Γ c) fk)))
 | .di m o as=>dE Γ.K (tW Γ.K m (af Γ o) (aY Γ as))
 | .ix a b=>dE Γ.K (dt (jm Γ.K Γ.sd) (af Γ a) (af Γ b))
 | .bin op a b=>dE Γ.K (dt (jj Γ.K op) (af Γ a) (af Γ b))
 | .fld o f=>dE Γ.K (Bh Γ.K (af Γ o) f)
 | .xt T as=>dE Γ.K (T Γ.K (aY Γ as))
 | .xm T o as=>dE Γ.K (T Γ.K (af Γ o) (aY Γ as))
 | .CN j m o as=>dE Γ.K (Bk (Γ.ms j).1 m (Γ.ms j).2 [] Γ.E (af Γ o) (aY Γ as))
 | _=>fun _ _ _=>False
def aY(Γ:aL):List RE→TA
 | []=>fk
 | a::r=>cz (af Γ a) (aY Γ r)
def CV(Γ:aL):List RE→TE
 | []=>fun _ _ _=>False
 | [a]=>af Γ a
 | a::r=>AL (af Γ a) (CV Γ r)
def CW(Γ:aL):List RE→TE
 | []=>fun _ _ _=>False
 | [a]=>af Γ a
 | a::r=>AM (af Γ a) (CW Γ r)
def CY(Γ:aL):List RE→TT
 | []=>fun _ _ _=>False
 | [a]=>bf Γ a
 | a::r=>AI (bf Γ a) (CY Γ r)
def CZ(Γ:aL):List RE→TT
 | []=>fun _ _ _=>False
 | [a]=>bf Γ a
 | a::r=>AJ (bf Γ a) (CZ Γ r)
def jZ(Γ:aL):Option RE→TO
 | none=>Bw
 | some a=>sY (af Γ a)
def p8(Γ:aL):Option RE→Option TT
 | none=>none
 | some a=>some (bf Γ a)
def eo(Γ:aL)(k:IK):List RE→TI
 | []=>fun _ _ _=>False
 | a::r=>match k with
  | .list=>pA Γ.K (af Γ a)
  | .tup=>vW Γ.K (af Γ a)
  | .fH=>A2 (cz (af Γ a) (aY Γ r))
  | .Lg=>HM (cz (af Γ a) (aY Γ r))
  | .zip=>Lv Γ.K (cz (af Γ a) (aY Γ r))
  | .Lh=>Lu Γ.K (cz (af Γ a) (aY Γ r))
  | .txt=>CT (af Γ a)
  | .tP=>xg Γ.K (cz (af Γ a) (aY Γ r))
  | .w9=>CU (cz (af Γ a) (aY Γ r))
end
structure bI where
 N:List Str
 sc:Scope
 fn:List Str
 gn:List Str
 bl:List Str
 mn:List Str
 kn:List Str
 en:List Str
 hn:List Str
 md:Nat
def xh(sc:Scope)(x:Str):Bool:=match sc.names.lookup x with
 | some .local=>true | some .cell=>true | some .free=>true | _=>false
def loc(sc:Scope)(x:Str):Bool:=match sc.names.lookup x with
 | some .local=>true | some .cell=>true | _=>false
def j0(sc:Scope)(x:Str):Bool:=match sc.names.lookup x with
 | some .globalImplicit=>true | _=>false
theorem Lw{sc:Scope}{x:Str}(h:xh sc x=true):si sc x:=by
 unfold xh at h
 unfold si
 cases e:sc.names.lookup x with
 | none=>rw[e] at h;cases h
 | some k=>rw[e] at h;cases k<;>first | exact .inl rfl | exact .inr (.inl rfl) | exact .inr (.inr rfl) | cases h
theorem p9{sc:Scope}{x:Str}(h:loc sc x=true):Loc sc x:=by
 unfold loc at h
 unfold Loc
 cases e:sc.names.lookup x with
 | none=>rw[e] at h;cases h
 | some k=>rw[e] at h;cases k<;>first | exact .inl rfl | exact .inr rfl | cases h
theorem Lx{sc:Scope}{x:Str}(h:j0 sc x=true):sc.names.lookup x=some .globalImplicit:=by
 unfold j0 at h
 cases e:sc.names.lookup x with
 | none=>rw[e] at h;cases h
 | some k=>rw[e] at h;cases k<;>first | rfl | cases h
structure p_ where
 elt:Expr
 tg:Expr
 iter:Expr
 ifs:List Expr
 sc:Scope
def jW.nm:jW→Str
 | .len=> "len" | .min=> "min" | .max=> "max" | .sum=> "sum" | .int=> "int" | .list=> "list" | .tuple=> "tuple" | .abs=> "abs"
def gX.nm:gX→Str
 | .append=> "append" | .pop=> "pop" | .extend=> "extend" | .join=> "join" | .lstrip=> "lstrip" | .starts=> "startswith" | .reverse=> "reverse" | .clear=> "clear" | .index=> "index" | .find=> "find" | .count=> "count" | .w5=> "count" | .w6=> "index"
def tX:Expr→Bool
 | .Call (.Name _ _) [] [] _=>false
 | _=>true
def noStar:Expr→Bool
 | .Starred ..=>false
 | _=>true
def tY:Expr→Bool
 | .Set ..=>false
 | _=>true
def xi(C0 sc:Scope):Scope:=
 {C0 with names:=C0.names.map fun(n,k)=>if (k== .free && sc.kind== .function && sc.names.lookup n==some .cell) then (n, .cell) else (n,k)}
def xj(tk:Option Nat)(tg:Expr):Option (List Str):=match tk,tg with
 | none, .Name x _=>some [x]
 | some 2, .Tuple [.Name x _, .Name y _] _ _=>some [x,y]
 | _,_=>none
def C1(S:bI)(c:p_)(ln:List Str)(fv:List (Str×Nat)):bI:={S with N:=ln++fv.map (·.1),sc:=xi c.sc S.sc,en:=[],md:=if S.md=0 then 0 else 2}
def tZ(S:bI)(c:p_)(ln:List Str)(fv:List (Str×Nat)):Bool:=
 decide (c.sc.kind= .function) && c.sc.names.all (fun y=>decide (y.2≠ .cell)) && c.sc.names.all (fun y=>decide (y.2≠ .local) || decide (c.sc.names.lookup y.1=some .local))
 && c.sc.names.all (fun y=>decide (y.2≠ .free) || decide (S.sc.names.lookup y.1=some .cell) || decide (S.sc.names.lookup y.1=some .free))
 && fv.all (fun p=>decide (S.N[p.2]?=some p.1) && decide (c.sc.names.lookup p.1=some .free))
 && ln.all (fun x=>decide (c.sc.names.lookup x=some .local)) && decide ((ln++fv.map (·.1)).Nodup) && tY c.iter
theorem boot_zip:bootBuiltins "zip"=some (.type "zip"):=by decide+kernel
end L2
set_option maxHeartbeats 400000
namespace L2
open PySem PySem.Spec PyProof.Rows
def fP(A:Around)(h:Heap):Prop:=A.handled=none∨ ∃e o vs,A.handled=some (.ref e)∧h.get? e=some o∧o.data= .fields vs∧vs[2]?=some .none
theorem fP.keeps{A:Around}{h h':Heap}(x:fP A h)(k: ∀b o vs,h.get? b=some o→o.data= .fields vs→vs[2]?=some .none→h'.get? b=some o):fP A h':=by
 rcases x with x | ⟨e,o,vs,a,b,c,d⟩
 ·exact .inl x
 ·exact .inr ⟨e,o,vs,a,k e o vs b c d,c,d⟩
theorem Ly:entryFor table "proto.unchain"=some Builtin.«proto.unchain»:=entryFor_of_fast (by kernel_rfl)
section
variable {prog:Program} {w:World} {A:Around} {E:Value→Shared→Prop} {s:Shared}
theorem LB{a:Addr}{o:Obj}{vs:Array Value}{i:Nat}{v:Value}{Q:Unit→Shared→Prop}(ho:s.heap.get? a=some o)(hd:o.data= .fields vs)(hi:i<vs.size)(h:Q () {s with heap:=s.heap.update a (Obj.mapFields (·.setIfInBounds i v))}):
  wpAny (model prog w) A (updateField a i v) Q E s:=by
 unfold updateField
 refine wpAny_bind (wpAny_load ho ?_)
 rw[hd]
 show wpAny _ _ (if i<vs.size then _ else _) _ _ s
 rw[if_pos hi]
 exact wpAny_update ho h
theorem LC{α:Type}{a:Addr}{o:Obj}{vs:Array Value}{Q:α→Shared→Prop}(hh:fP A s.heap)(ho:s.heap.get? a=some o)(hd:o.data= .fields vs)(h2:2<vs.size)(dO: ∀e,A.handled=some (.ref e)→e≠a)
  (hE: ∀h',Heap.SameBut a s.heap h'→(∃o',h'.get? a=some o'∧o'.cls=o.cls)→E (.ref a) {s with heap:=h'}):wpAny (model prog w) A (raiseNew (.ref a):Sem α) Q E s:=by
 unfold raiseNew
 refine wpAny_bind (wpAny_handled ?_)
 rcases hh with hh | ⟨e,oe,ve,hh,he,LD,LF⟩
 ·rw[hh]
  exact wpAny_bind (wpAny_pure (wpAny_throw (hE s.heap (Heap.SameBut.refl ..) ⟨o,ho,rfl⟩)))
 ·rw[hh]
  have ne:e≠a:=dO e hh
  have hb:((Value.ref e) !=(Value.ref a))=true:=by
   simp only[bne_iff_ne,ne_eq,Value.ref.injEq]
   exact ne
  dsimp only
  rw[if_pos hb]
  refine wpAny_bind (wpAny_holding (wpAny_runValue (codeAny_builtin Ly ?_)))
  unfold Builtin.«proto.unchain»
  dsimp only
  refine wpAny_bind (wpAny_field he LD LF ?_)
  rw[if_pos (by rfl)]
  refine wpAny_bind (wpAny_pure (wpAny_pure ?_))
  dsimp only
  refine wpAny_bind (LB ho hd h2 ?_)
  refine wpAny_throw (hE _ (Heap.SameBut.update ..) ⟨_,Heap.get?_update_self _ ho (Obj.isFreed_of_fields (Obj.data_mapFields hd _)),Obj.cls_mapFields ..⟩)
theorem C2{it:Addr}{f:Obj→Obj}{Qf:Fin→Shared→Prop}{Q:Option Value→Shared→Prop}(hh:fP A s.heap)(hn: ∀vs:Array Value,¬ ∃o,s.heap.get? it=some o∧o.data= .fields vs∧vs[2]?=some .none)
  (hQ: ∀h',Heap.ExtBut it s.heap h'→Q none {s with heap:=h'}):
  wpAny (model prog w) A.in1 Builtin.SmallTypes.stopIteration Qf (fun e s'=>wpAny (model prog w) A (do let b ←isInstance e (.type "StopIteration");if b=true then pure none else throw e) Q E s') {s with heap:=s.heap.update it f}:=by
 show wpAny _ _ (newExc (.type "StopIteration") [] >>=_) _ _ _
 refine wpAny_bind ?_
 simp only[newExc,newTuple]
 refine wpAny_bind (wpAny_newObj_type ?_ (by size_fits))
 refine wpAny_bind (m:=firstArgMember _ _) (wpAny_of_eq (a:=Value.none) (by first | rfl | (simp only[firstArgMember];rfl)) ?_)
 refine wpAny_newObj_type ?_ (by size_fits)
 dsimp only
 have lt: ∀b o,s.heap.get? b=some o→b≠it→(s.heap.update it f).get? b=some o:=fun b o e hb=> (Heap.get?_update_other _ _ (Ne.symm hb)).trans e
 have LG:fP A.in1 (((s.heap.update it f).push {cls:= .type "tuple",data:= .seq ([]:List Value).toArray}).push
   {cls:= .type "StopIteration",data:= .fields (#[.ref (s.heap.update it f).objs.size, .none, .none, .none, .bool false, .none]++ownMembersOf (.type "StopIteration") [])}):=by
  rcases hh with hh | ⟨e,oe,ve,h1,h2,h3,h4⟩
  ·exact .inl hh
  ·refine .inr ⟨e,oe,ve,h1,Heap.get?_push_of_some _ (Heap.get?_push_of_some _ (lt e oe h2 fun z=> ?_)),h3,h4⟩
   subst z
   exact hn ve ⟨oe,h2,h3,h4⟩
 refine LC LG (Heap.get?_push_size _ rfl) rfl (Nat.lt_of_lt_of_le (show 2<6 by decide) (by rw[Array.size_append];exact Nat.le_add_right 6 _)) (fun e he=> ?_) (fun h' sb ⟨o',q1,q2⟩=> ?_)
 ·rcases hh with hh | ⟨e',oe,ve,h1,h2,h3,h4⟩
  ·rw[show A.in1.handled=none from hh] at he;cases he
  ·rw[show A.in1.handled=_ from h1] at he
   cases he
   have:=Heap.lt_size h2
   refine Nat.ne_of_lt (Nat.lt_of_lt_of_le this ?_)
   rw[Heap.size_push,Heap.size_update]
   exact Nat.le_succ _
 ·refine wpAny_bind (wpAny_isInstance (T:="StopIteration") (b:=true) ⟨_,q1,q2⟩ isSubtype_stop ?_)
  refine wpAny_pure (hQ _ fun b o hb e=> ?_)
  have e3:=lt b o e hb
  have e4:=Heap.get?_push_of_some {cls:= .type "StopIteration",data:= .fields (#[.ref (s.heap.update it f).objs.size, .none, .none, .none, .bool false, .none]++ownMembersOf (.type "StopIteration") [])} (Heap.get?_push_of_some {cls:= .type "tuple",data:= .seq ([]:List Value).toArray} e3)
  refine(sb.2 b (Nat.ne_of_lt (Nat.lt_of_lt_of_le (Heap.lt_size e3) ?_))).trans e4
  rw[Heap.size_push]
  exact Nat.le_succ _
theorem LH{it l:Addr}{i:Nat}{items}{Q:Option Value→Shared→Prop}(hh:fP A s.heap)
  (hit:s.heap.IsListIter it l i) (hl:s.heap.IsList l items) (hx:items[i]?=none)
  (hQ: ∀h',Heap.ExtBut it s.heap h'→Q none {s with heap:=h'}):wpAny (model prog w) A (pyNext (.ref it)) Q E s:=by
 obtain⟨o,ho,hc,hd⟩:=id hit
 obtain⟨ol,xk,_,nl,j3⟩:=hl
 unfold pyNext
 refine wpAny_bind (wpAny_attempt (wpAny_callSpecial?_slot (name:=Str.ofString "__next__") hit.typeIs slot_listiter_next
  (wpAny_call_entry slot_listiter_next hit.typeIs entry_listiter_next ?_ (args_listiter_next _))))
 show wpAny _ _ (field (.ref it) 0>>=_) _ _ s
 refine wpAny_bind (wpAny_field ho hd (x:= .ref l) rfl ?_)
 show wpAny _ _ (if (Value.ref l==Value.none)=true then _ else _) _ _ s
 rw[if_neg (show ¬((Value.ref l==Value.none)=true) from Bool.false_ne_true)]
 show wpAny _ _ (field (.ref it) 1>>=_) _ _ s
 refine wpAny_bind (wpAny_field ho hd (x:= .int i 0) rfl ?_)
 show wpAny _ _ (seqItems? (.ref l) >>=_) _ _ s
 refine wpAny_bind (wpAny_seqItems xk j3 ?_)
 simp only[Int.toNat_natCast,hx]
 refine wpAny_bind (wpAny_rule (wpAny_bind (wpAny_setField ho hd (by simp) ?_)))
 exact C2 hh (fun vs z=>by obtain⟨o',h1,h2,h3⟩:=z;rw[ho] at h1;cases h1;rw[hd] at h2;cases h2;cases h3) hQ
theorem LI{it t:Addr}{i:Nat}{items}{Q:Option Value→Shared→Prop}(hh:fP A s.heap)
  (hit:IsTupIter s.heap it t i) (ht:IsTup s.heap t items) (hx:items[i]?=none)
  (hQ: ∀h',Heap.ExtBut it s.heap h'→Q none {s with heap:=h'}):wpAny (model prog w) A (pyNext (.ref it)) Q E s:=by
 obtain⟨o,ho,hc,hd⟩:=id hit
 obtain⟨ol,xk,_,nl,j3⟩:=ht
 unfold pyNext
 refine wpAny_bind (wpAny_attempt (wpAny_callSpecial?_slot (name:=Str.ofString "__next__") hit.typeIs slot_tupleiter_next
  (wpAny_call_entry slot_tupleiter_next hit.typeIs entry_tupleiter_next ?_ (args_tupleiter_next _))))
 show wpAny _ _ (field (.ref it) 0>>=_) _ _ s
 refine wpAny_bind (wpAny_field ho hd (x:= .ref t) rfl ?_)
 show wpAny _ _ (if (Value.ref t==Value.none)=true then _ else _) _ _ s
 rw[if_neg (show ¬((Value.ref t==Value.none)=true) from Bool.false_ne_true)]
 show wpAny _ _ (field (.ref it) 1>>=_) _ _ s
 refine wpAny_bind (wpAny_field ho hd (x:= .int i 0) rfl ?_)
 show wpAny _ _ (seqItems? (.ref t) >>=_) _ _ s
 refine wpAny_bind (wpAny_seqItems xk j3 ?_)
 simp only[Int.toNat_natCast,hx]
 refine wpAny_bind (wpAny_rule (wpAny_bind (wpAny_setField ho hd (by simp) ?_)))
 exact C2 hh (fun vs z=>by obtain⟨o',h1,h2,h3⟩:=z;rw[ho] at h1;cases h1;rw[hd] at h2;cases h2;cases h3) hQ
theorem LJ{t:Addr}{items:Array Value}{Q:List Value→Shared→Prop}(hh:fP A s.heap)(ht:IsTup s.heap t items)
  (hQ: ∀h',Heap.ExtBut s.heap.objs.size s.heap h'→Q items.toList {s with heap:=h'}):wpAny (model prog w) A (unpackItems (.ref t) items.size none) Q E s:=by
 have aQ:t≠s.heap.objs.size:=by obtain⟨o,ho,_⟩:=ht;exact Nat.ne_of_lt (Heap.lt_size ho)
 unfold unpackItems
 refine wpAny_bind ?_
 ·unfold notIterableAtAll
  refine wpAny_bind (wpAny_specialOf ht.typeIs slot_tuple_iter.lookup ?_)
  refine wpAny_pure ?_
  simp only[Bool.false_eq_true,if_false]
  refine wpAny_bind (wpAny_holding (iter_tuple ht ?_))
  refine wpAny_bind (wpAny_holding (draw_tuple aQ items.size 0 _ _ ⟨_,Heap.get?_push_size _ rfl,rfl,rfl⟩ (ht.push _) (by omega) fun h₁ qc jn=> ?_))
  have lB:List.take items.size (List.drop 0 items.toList)=items.toList:=by
   rw[List.drop_zero];exact List.take_of_length_le (by simp)
  rw[lB]
  rw[if_neg (by simp)]
  have xl:IsTup h₁ t items:=(ht.push _).extBut jn.extBut aQ
  have LK:fP A h₁:=hh.keeps fun b o vs e _ _=>jn.extBut b o (Nat.ne_of_lt (Heap.lt_size e)) (Heap.get?_push_of_some _ e)
  refine wpAny_bind (wpAny_holding (LI LK qc xl (by simp) fun h₂ xn=> ?_))
  simp only[Option.isSome_none,Bool.false_eq_true,if_false]
  refine wpAny_pure (hQ h₂ fun b o hb e=>xn b o hb (jn.extBut b o hb (Heap.get?_push_of_some _ e)))
theorem LM{env:Env}{elts:List Expr}{x1}{pos:Pos}{t:Addr}{items:Array Value}{Q:Unit→Shared→Prop}(hh:fP A s.heap)(ht:IsTup s.heap t items)
  (hn:(assignEach elts env).length=items.size) (xo:(assignEach elts env).findIdx? (·.1)=none)
  (h: ∀h',Heap.ExtBut s.heap.objs.size s.heap h'→wpAny (model prog w) A (assignInOrder ((assignEach elts env).map (·.2)) items.toList) Q E {s with heap:=h'}):
  wpAny (model prog w) A (assign (.Tuple elts x1 pos) env (.ref t)) Q E s:=by
 rw[assign_Tuple]
 refine wpAny_bind (wpAny_standAt ?_)
 unfold unpack
 rw[hn,xo]
 exact wpAny_bind (wpAny_holding (LJ hh ht h))
end
end L2
set_option maxHeartbeats 1000000
namespace L2
open PySem PySem.Spec PyProof.Rows PySem.W
section
variable {prog:Program} {w:World} {A:Around} {E:Value→Shared→Prop} {s:Shared} {K:Frag} {x D:Addr} {ox:Obj}
theorem LN{Q:Option Value→Shared→Prop}(X:K.In s.heap)(I:InstAt s.heap x ox D none)(pV:findIn K (.ref D) "__getattribute__"=some (some (.builtin "BaseException.__getattribute__")))(pX:findIn K (.ref D) "__getattr__"=some none)
  (hk:(clsIn K D).isSome=true) (ha:findIn K (.ref D) "__class__"=some (some (.builtin "object.__class__"))) (hn:specialIn K (.builtin "object.__class__") "__get__"=some (some (.builtin "getset_descriptor.__get__"))) (jP:takesIn K (.builtin "object.__class__")=some true)
  (hm:mroIn K D (.type "object")=some true) (hb:mroIn K D (.type "BaseException")=some true)
  (h:Q (some (.ref D)) {s with toks:=s.toks+1}):wpAny (model prog w) A (getAttr? (.ref x) "__class__") Q E s:=by
 have hf:findObj K D none "__class__"=some (.bind (.builtin "getset_descriptor.__get__") (.builtin "object.__class__")):=by
  obtain⟨cd,hc⟩:=Option.isSome_iff_exists.mp hk
  unfold findObj
  rw[hc,Option.bind_some,ha,Option.bind_some]
  simp only[hn,jP,Option.bind_some]
 obtain⟨hh,g,d,t,os⟩:=s
 have L0:=I.type (M:=model prog w)
 have L1:=looks_findIn (M:=model prog w) X pV
 have L2:=looks_findIn (M:=model prog w) X pX
 have L3:=looks_find (M:=model prog w) X I hf
 unfold getAttr? getAttrBy? getAttrBy
 refine wpAny_bind (wpAny_mkText (wpAny_bind (wpAny_attempt (wpAny_holding (wpAny_bind (L0.at (wpAny_bind (L1.at ?_))))))))
 have LO:(Value.builtin "BaseException.__getattribute__"==Value.builtin "object.__getattribute__")=false:=by decide+kernel
 show wpAny _ _ (if (onTheHeap (Value.ref D) && Value.builtin "BaseException.__getattribute__"==Value.builtin "object.__getattribute__")=true then _ else _) _ _ _
 rw[LO,Bool.and_false,if_neg (by decide)]
 unfold getAttrByItsOwn hookBefore
 refine wpAny_bind (L2.at ?_)
 refine wpAny_bind (wpAny_attempt (wpAny_holding ?_))
 show wpAny _ _ (boundAndCalled _ _ _) _ _ _
 unfold boundAndCalled
 rw[F.excAttr_ValueError.ga.bind (.ref x)]
 refine wpAny_bind (wpAny_pure ?_)
 refine wpAny_call (codeAny_call_builtin F.excAttr_ValueError.ga.plain F.entry_bexc_ga ?_)
 have L4:=looks_mroIn (M:=model prog w) X hb
 have LP:builtinKind "BaseException.__getattribute__"=some .slot:=by decide+kernel
 have LQ:splitId "BaseException.__getattribute__"=some ("BaseException","__getattribute__"):=by decide+kernel
 have adf:=F.args_bexc_ga (.ref x) (.str "__class__" t)
 simp only[checkBuiltinCall,LP,LQ]
 have L5:Looks (model prog w) hh (isInstance (.ref x) (.type "BaseException")) true:=L0.andThen L4
 refine wpAny_bind (L5.at ?_)
 repeat (any_goals (first | assumption | (with_reducible refine wpAny_loadPart_at I.at_ ?_;rw[I.cls];refine wpAny_pure (wpAny_bind (L3.at ?_))) | wp_step))
 refine class_get (s:=⟨hh,g,d,t+1,os⟩) (ox:=ox) (od:=none) X I hm ?_
 exact wpAny_pure (wpAny_pure (wpAny_pure h))
theorem LR(pV:findIn K (.ref D) "__getattribute__"=some (some (.builtin "BaseException.__getattribute__")))(pX:findIn K (.ref D) "__getattr__"=some none)
  (hk:(clsIn K D).isSome=true) (ha:findIn K (.ref D) "__class__"=some (some (.builtin "object.__class__"))) (hn:specialIn K (.builtin "object.__class__") "__get__"=some (some (.builtin "getset_descriptor.__get__"))) (jP:takesIn K (.builtin "object.__class__")=some true)
  (hm:mroIn K D (.type "object")=some true) (hb:mroIn K D (.type "BaseException")=some true):KitX K (.ref x) (.ref D) (fun h=>InstAt h x ox D none) where
 ty:=fun _ _ _ I=>I.type
 it:=fun _ _ X _=>by
  obtain⟨LS,lQ⟩:=Option.isSome_iff_exists.mp hk
  unfold clsIn at lQ
  split at lQ
  ·rename_i c' d' LU vK ho
   intro A' Q' E' s' k q
   unfold isType loadHead
   exact wpAny_bind (wpAny_loadPart (k _ _ (X _ _ ho)) (wpAny_pure q))
  ·cases lQ
 ne:=fun h tp dd its n sl X LV=>by
  obtain⟨LS,lQ⟩:=Option.isSome_iff_exists.mp hk
  refine Bool.eq_false_iff.mpr fun q=> ?_
  have e:D=tp:=Value.ref.inj (beq_iff_eq.mp q)
  subst e
  unfold clsIn at lQ
  split at lQ
  ·rename_i c' d' LU vK ho
   have z:=(X _ _ ho).symm.trans LV
   cases z
  ·cases lQ
 ca:=fun X I k=>LN X I pV pX hk ha hn jP hm hb k
end
end L2
set_option maxHeartbeats 400000
namespace L2
open PySem PySem.Spec PyProof.Rows
inductive bG (J:Shared→Prop) {α:Type}:Sem α→Prop
 | pure (a:α):bG J (.pure a)
 | raise (e:Value):bG J (.raise e)
 | unsupported (w:String):bG J (.unsupported w)
 | rule {t:String} {k:Unit→Sem α}:bG J (k ())→bG J (.rule t k)
 | load {a:Addr} {p:Option Value} {k:Obj→Sem α}:(∀o,bG J (k o))→bG J (.load a p k)
 | update {a:Addr} {p:Option Value} {f:Obj→Obj} {k:Unit→Sem α}:(∀s,J s→J {s with heap:=s.heap.update a f})→bG J (k ())→bG J (.update a p f k)
 | alloc {o:Obj} {k:Addr→Sem α}:(∀s,J s→J {s with heap:=s.heap.push o})→(∀a,bG J (k a))→bG J (.alloc o k)
 | stack {k:List (Code×Pos)→Sem α}:(∀t,bG J (k t))→bG J (.stack k)
theorem LW{M:Model}{Γ:PySem.Ctx}{J:Shared→Prop}{α:Type}{t:Sem α}(kt:bG J t): ∀{Q:α→Pos→Shared→Prop} {E:Value→Pos→Shared→Prop} {p:Pos} {s:Shared},J s→Sem.wp M Γ t Q E p s→
  Sem.wp M Γ t (fun a p s=>Q a p s∧J s) (fun e p s=>E e p s∧J s) p s:=by
 induction kt with
 | pure a=>intro Q E p s j h;rw[Sem.wp] at h⊢;exact⟨h,j⟩
 | raise e=>intro Q E p s j h;rw[Sem.wp] at h⊢;exact⟨h,j⟩
 | unsupported w=>intro Q E p s j h;rw[Sem.wp] at h;exact h.elim
 | rule _ ih=>intro Q E p s j h;rw[Sem.wp] at h⊢;exact ih j h
 | load _ ih=>intro Q E p s j h;rw[Sem.wp] at h⊢;obtain⟨o,e,h⟩:=h;exact⟨o,e,ih o j h⟩
 | update f _ ih=>intro Q E p s j h;rw[Sem.wp] at h⊢;exact⟨h.1,ih (f _ j) h.2⟩
 | alloc f _ ih=>intro Q E p s j h;rw[Sem.wp] at h⊢;exact ih _ (f _ j) h
 | stack _ ih=>intro Q E p s j h;rw[Sem.wp] at h⊢;exact ih _ j h
theorem qd{M:Model}{A:Around}{J:Shared→Prop}{α:Type}{t:Sem α}{Q:α→Shared→Prop}{E:Value→Shared→Prop}{s:Shared}(k:bG J t)(j:J s)(h:wpAny M A t Q E s):
  wpAny M A t (fun a s=>Q a s∧J s) (fun e s=>E e s∧J s) s:=fun Γ p hΓ=>LW k j (h Γ p hΓ)
def dm(e:Addr)(s:Shared):Prop:= ∃o vs,s.heap.get? e=some o∧o.data= .fields vs∧vs[2]?=some .none∧o.dict=none
theorem LX(f:Array Value→Array Value)(o:Obj):(Obj.mapFields f o).dict=o.dict:=by
 unfold Obj.mapFields
 split<;>rfl
theorem LY{e a:Addr}{i:Nat}{v:Value}(hi:i≠2)(s:Shared)(j:dm e s):dm e {s with heap:=s.heap.update a (Obj.mapFields (·.setIfInBounds i v))}:=by
 obtain⟨o,vs,h1,h2,h3,h4⟩:=j
 by_cases z:a=e
 ·subst z
  have d:=Obj.data_mapFields h2 (·.setIfInBounds i v)
  exact⟨_,_,Heap.get?_update_self _ h1 (Obj.isFreed_of_fields d),d,by rw[Array.getElem?_setIfInBounds_ne hi];exact h3,(LX _ _).trans h4⟩
 ·exact⟨o,vs,(Heap.get?_update_other _ _ z).trans h1,h2,h3,h4⟩
theorem LZ{e a:Addr}{f:Obj→Obj}(hf: ∀o,(f o).data=o.data∧(f o).dict=o.dict)(s:Shared)(j:dm e s):dm e {s with heap:=s.heap.update a f}:=by
 obtain⟨o,vs,h1,h2,h3,h4⟩:=j
 by_cases z:a=e
 ·subst z
  exact⟨_,vs,Heap.get?_update_self _ h1 (Obj.isFreed_of_fields ((hf o).1.trans h2)),(hf o).1.trans h2,h3,(hf o).2.trans h4⟩
 ·exact⟨o,vs,(Heap.get?_update_other _ _ z).trans h1,h2,h3,h4⟩
theorem L6{e:Addr}{ob:Obj}(s:Shared)(j:dm e s):dm e {s with heap:=s.heap.push ob}:=by
 obtain⟨o,vs,h1,h2,h3,h4⟩:=j
 exact⟨o,vs,Heap.get?_push_of_some _ h1,h2,h3,h4⟩
theorem bG.bind{J:Shared→Prop}{α β:Type}{t:Sem α}{f:α→Sem β}(kt:bG J t)(h: ∀a,bG J (f a)):bG J (t>>=f):=by
 show bG J (t.bind f)
 induction kt with
 | pure a=>exact h a
 | raise e=>exact .raise e
 | unsupported w=>exact .unsupported w
 | rule _ ih=>exact .rule ih
 | load _ ih=>exact .load ih
 | update g _ ih=>exact .update g ih
 | alloc g _ ih=>exact .alloc g ih
 | stack _ ih=>exact .stack ih
section
variable {e:Addr}
theorem xp{a:Addr}:bG (dm e) (load a):= .load fun o=> .pure o
theorem xq{v x:Value}{i:Nat}(hi:i≠2):bG (dm e) (setField v i x):=by
 unfold setField
 split
 ·rename_i a
  unfold updateField
  refine xp.bind fun o=> ?_
  split
  ·split
   ·exact .update (fun s j=>LY hi s j) (.pure ())
   ·exact .unsupported _
  ·exact .unsupported _
 ·exact .unsupported _
theorem L9{v:Value}:bG (dm e) (fieldsOf v):=by
 unfold fieldsOf
 split
 ·refine xp.bind fun o=> ?_
  split
  ·exact .pure _
  ·exact .unsupported _
 ·exact .unsupported _
theorem t5{v:Value}{i:Nat}:bG (dm e) (field v i):=by
 unfold field
 refine L9.bind fun vs=> ?_
 split
 ·exact .pure _
 ·exact .unsupported _
theorem xr{v:Value}{f:Option Addr}:bG (dm e) (setFlight v f):=by
 unfold setFlight
 refine t5.bind fun tb=> ?_
 split
 ·exact xq (by decide)
 ·exact .pure _
theorem xu:bG (dm e) stack:= .stack fun t=> .pure t
theorem L_{ty:String}{vs:List Value}:bG (dm e) (newFields ty vs):=by
 unfold newFields newObj newObjAsIs
 show bG (dm e) (if vs.toArray.size>sizeLine+2 then (unsupported "record:memory" >>=_) else _)
 split
 ·exact .unsupported _
 ·exact bG.bind (.alloc (fun s j=>L6 s j) fun a=> .pure a) fun a=> .pure _
theorem Ma{f:Addr}{b:Bool}:bG (dm e) (entryPlaceOf f b):=by
 unfold entryPlaceOf
 refine xu.bind fun adg=> ?_
 split
 ·exact .pure _
 ·exact .pure _
theorem C3: ∀l:List Env,bG (dm e) (readyFrames l)
 | []=> .pure _
 | env::outer=>by
  unfold readyFrames
  split
  ·refine xp.bind fun o=> ?_
   split
   ·exact .pure _
   ·refine bG.bind ?_ fun im=>bG.bind ?_ fun bk=>bG.bind (.update (fun s j=>LZ (by intro o;exact⟨rfl,rfl⟩) s j) (.pure ())) fun _=>C3 outer
    ·unfold behindIsImport
     split
     ·exact .pure _
     ·split
      ·exact .pure _
      ·exact t5.bind fun _=> .pure _
    ·unfold keptBack
     split
     ·split
      ·exact .pure _
      ·unfold underTheClaimsCaller
       exact bG.bind (xu.bind fun _=> .pure _) fun _=> .pure _
     ·exact .pure _
  ·exact .unsupported _
theorem Mb{env:Env}:bG (dm e) (PySem.frameOf env):=by
 unfold PySem.frameOf frameEnvs
 refine bG.bind (xu.bind fun _=> .pure _) fun l=> ?_
 refine bG.bind ?_ fun r=> ?_
 ·unfold frameObject
  split
  ·exact .pure _
  ·exact(C3 _).bind fun _=> .pure _
 ·split
  ·exact .pure _
  ·exact .unsupported _
theorem C4{v:Value}{env:Env}:bG (dm e) (noteFrame v env):=by
 unfold noteFrame
 split
 ·rename_i x d hq
  refine t5.bind fun hd=> ?_
  have tail:bG (dm e) (do let a ←PySem.frameOf env;let pl ←entryPlaceOf d (hd != .none);let b ←EntryCells.newEntry hd a .none (rawInt d) .none pl;setField v 1 b):=
   Mb.bind fun a=>Ma.bind fun pl=>bG.bind L_ fun b=>xq (by decide)
  dsimp only
  split
  ·refine t5.bind fun x=> ?_
   split
   ·exact .pure _
   ·exact(xq (by decide)).bind fun _=>tail
  ·exact tail
 ·exact .unsupported _
theorem C5{v:Value}{env:Env}:bG (dm e) (leaving env v):=by
 unfold leaving
 exact C4.bind fun _=>xr
end
end L2
set_option maxHeartbeats 4000000
namespace L2
open PySem PySem.Spec PyProof.Rows
theorem bS.t9{P:Program}{w:World}{H:Hp}{h:Heap}{a:Addr}{o:HO}(x:bS P w H h a o): ∃ob,h.get? a=some ob:=by
 cases o with
 | lst xs=>obtain⟨_,_,_,_,e⟩:=x;exact⟨_,e⟩
 | tup xs=>obtain⟨_,_,_,ob,e,_⟩:=x;exact⟨_,e⟩
 | dK ar=>obtain⟨_,_,_,_,o,_,_,e,_⟩:=x;exact⟨_,e⟩
 | dT ar=>obtain⟨_,_,_,_,o,_,_,e,_⟩:=x;exact⟨_,e⟩
 | set S n=>obtain⟨o,_,_,_,e,_⟩:=x;exact⟨_,e⟩
 | ins C dx fs=>obtain⟨_,_,_,e,_⟩:=x;exact⟨_,e⟩
 | own y=>obtain⟨_,e⟩:=x;exact⟨_,e⟩
 | xd fs=>obtain⟨_,⟨_,_,_,e,_⟩,_⟩:=x;exact⟨_,e⟩
 | fH lo hi=>obtain⟨_,_,_,e⟩:=x;exact⟨_,e⟩
 | bA ob u=>obtain⟨e,_⟩:=x;exact⟨_,e⟩
 | ir ps=>exact⟨_,(show h.get? a=some _ from x)⟩
 | met f y=>exact⟨_,(show h.get? a=some _ from x)⟩
 | ext φ=>obtain⟨_,⟨_,e⟩,_⟩:=x;exact⟨_,e⟩
theorem bH.t_{P:Program}{w:World}{H:Hp}{h h':Heap}(ok:bH P w H h)(k: ∀b u,H b≠none→h.get? b=some u→h'.get? b=some u):bH P w H h':=fun a o e=>
 (ok a o e).iu (fun b u hb hu=>k b u (by
  rcases hb with rfl | hb
  ·rw[e];exact Option.some_ne_none _
  ·rw[hb];exact Option.some_ne_none _) hu) (fun _ z=>z) (fun _ _ z=>z)
def dF(P:Program)(w:World):bw:=fun outer H s E e s'=> ∃(ea:Addr) (cls:Value) (t:Addr) (B:Heap) (H':Hp),
 e= .ref ea∧s'.os=s.os∧AllBare s'.gens∧Un (bp outer) [] H H' s.heap s'.heap∧bH P w H' s'.heap∧Heap.FlyingW B outer ea cls (.ref t) s'.heap∧dm ea s'∧H' ea=none∧
 (∀b,H' b≠none→ ∀o,s'.heap.get? b=some o→B.get? b=some o)∧(∀b o,s.heap.get? b=some o→b∉bp outer→ ∀o',s'.heap.get? b=some o'→B.get? b=some o')∧E cls none H'
theorem qe{P:Program}{w:World}{outer:List Env}{H:Hp}{s:Shared}{e:Value}{s':Shared}(h:dF P w outer H s E0 e s'):False:=by
 obtain⟨_,_,_,_,_,_,_,_,_,_,_,_,_,_,_,h⟩:=h
 exact h
section
variable {P:Program} {w:World} {K:Frag} {mg:Str→Option Value} {base:Heap} {N:List Str} {qual:Str} {scope:Scope} {f:Addr} {cd:Value} {A:Around} {outer:List Env} {s₀:Shared} {H₀:Hp} {E:XK}
theorem Mc:Passes (dF P w) (i_ (dF P w) P w K mg base N qual scope f cd A outer s₀ H₀ E) E:=by
 intro pins σ H s e s' I hx
 obtain⟨ea,cls,t,B,H',rfl,os,bare,u,aE,fl,qf,jo,c1,c2,hE⟩:=hx
 have qg:=I.ok.frames
 have hL:s₀.heap.objs.size≤ (envOfC qual scope s₀.heap.objs.size f cd).locals:=I.ok.above
 have nL: ∀b o,s₀.heap.get? b=some o→b∉bp outer→b∉bp (envOfC qual scope s₀.heap.objs.size f cd::outer):=fun b o hb hn hm=>by
  have xv:b∈ (envOfC qual scope s₀.heap.objs.size f cd).locals::bp outer:=hm
  rcases List.mem_cons.mp xv with rfl | z
  ·exact absurd (Heap.lt_size hb) (Nat.not_lt.mpr hL)
  ·exact hn z
 have gc: ∀b∈bp (envOfC qual scope s₀.heap.objs.size f cd::outer),H' b=none:=fun b hb=>by
  obtain⟨o,ho,_⟩:=(I.stack.mem hb).2
  exact u.free b o ho (I.sr b hb) List.not_mem_nil
 refine wpAny_mono (qd C5 qf (wpAny_leaves_onW (Q:=fun _ eL=> ∃h',eL={s' with heap:=h'}∧Heap.FlyingW B outer ea cls (.ref t) h'∧s'.heap.UpToSlots h') (E:=fun _ _=>False) qg rfl fl fun h' gm up=> ⟨h',rfl,gm,up⟩))
  (fun _ eL hq=> ?_) (fun _ _ z=>z.1.elim)
 obtain⟨⟨h',rfl,gm,up⟩,xx⟩:=hq
 have into: ∀b o,s.heap.get? b=some o→b∉bp (envOfC qual scope s₀.heap.objs.size f cd::outer)→ ∀o',s'.heap.get? b=some o'→h'.get? b=some o':=fun b o hb hn o' dh=>gm.1 b o' (c2 b o hb hn o' dh)
 have iw: ∀b o,H' b≠none→s'.heap.get? b=some o→h'.get? b=some o:=fun b o hb ho=>gm.1 b o (c1 b hb o ho)
 have eA: ∀b∈bp (envOfC qual scope s₀.heap.objs.size f cd::outer),∀o,s'.heap.get? b=some o→ ∃sl,h'.get? b=some {o with slots:=sl}:=fun b hb o ho=>by
  obtain⟨o1,j4,hd⟩:=(fl.2.2.1.mem hb).2
  rw[ho] at j4
  cases j4
  exact up b o ho hd
 refine⟨ea,cls,t,B,H',rfl,os.trans I.os,bare,⟨fun b o q n hn _=> ?_,fun b o q n hn _=> ?_,fun b o q n _=> ?_,fun b o q _=> ?_,fun b xs q=>u.ef b xs (I.base.ef b xs q),fun b o v q=>u.dM b o v (I.base.dM b o v q),fun b ps q=> ?_⟩,
  aE.t_ (fun b o hb ho=>iw b o hb ho),gm,xx,jo,fun b hb o ho=> ?_,fun b o q hn o' dh=> ?_,hE⟩
 ·have q1:=I.base.keep b o q n hn List.not_mem_nil
  have n1:=I.base.free b o q n List.not_mem_nil
  have gZ:=nL b o q hn
  exact into b o q1 gZ o (u.keep b o q1 n1 gZ List.not_mem_nil)
 ·obtain⟨sl,q1⟩:=I.base.slot b o q n hn List.not_mem_nil
  have n1:=I.base.free b o q n List.not_mem_nil
  have gZ:b∈bp (envOfC qual scope s₀.heap.objs.size f cd::outer):=List.mem_cons_of_mem _ hn
  obtain⟨lp,q2⟩:=u.slot b _ q1 n1 gZ List.not_mem_nil
  obtain⟨qh,q3⟩:=eA b gZ _ q2
  exact⟨qh,q3⟩
 ·obtain⟨o1,q1⟩:=I.base.there b o q List.not_mem_nil
  exact u.free b o1 q1 (I.base.free b o q n List.not_mem_nil) List.not_mem_nil
 ·obtain⟨o1,q1⟩:=I.base.there b o q List.not_mem_nil
  obtain⟨o2,q2⟩:=u.there b o1 q1 List.not_mem_nil
  by_cases hm:b∈bp (envOfC qual scope s₀.heap.objs.size f cd::outer)
  ·obtain⟨sl,q3⟩:=eA b hm o2 q2
   exact⟨_,q3⟩
  ·exact⟨o2,into b o1 q1 hm o2 q2⟩
 ·obtain⟨m1,e1⟩:=I.base.eg b ps q
  obtain⟨m2,e2⟩:=u.eg b _ e1
  exact⟨m1++m2,by rw[e2,Array.append_assoc]⟩
 ·obtain⟨fM,hH⟩:=Option.ne_none_iff_exists'.mp hb
  obtain⟨o2,q2⟩:=(aE b fM hH).t9
  have q3:=iw b o2 hb q2
  have g6:h'.get? b=some o:=ho
  rw[q3] at g6
  cases g6
  exact c1 b hb _ q2
 ·obtain⟨o1,q1⟩:=I.base.there b o q List.not_mem_nil
  obtain⟨o2,q2⟩:=u.there b o1 q1 List.not_mem_nil
  have gZ:=nL b o q hn
  have q3:=into b o1 q1 gZ o2 q2
  have g6:h'.get? b=some o':=dh
  rw[q3] at g6
  cases g6
  exact c2 b o1 q1 gZ _ q2
def Raises(X:Cx)(E:XK):Prop:= ∀(pins:List (Addr×Obj)) (σ:St) (H:Hp) (s:Shared) (h':Heap) (e:Addr) (cls:Value) (vs:List Value),Inv X pins σ H s→Heap.MadeExcOf s.heap h' e cls vs→E cls none H→X.xe (.ref e) {s with heap:=h'}
theorem Md:Raises (i_ (dF P w) P w K mg base N qual scope f cd A outer s₀ H₀ E) E:=by
 intro pins σ H s h1 e cls vs I hx hE
 have qg:=I.ok.frames
 have hL:s₀.heap.objs.size≤ (envOfC qual scope s₀.heap.objs.size f cd).locals:=I.ok.above
 have nL: ∀b o,s₀.heap.get? b=some o→b∉bp outer→b∉bp (envOfC qual scope s₀.heap.objs.size f cd::outer):=fun b o hb hn hm=>by
  have xv:b∈ (envOfC qual scope s₀.heap.objs.size f cd).locals::bp outer:=hm
  rcases List.mem_cons.mp xv with rfl | z
  ·exact absurd (Heap.lt_size hb) (Nat.not_lt.mpr hL)
  ·exact hn z
 have xy: ∀env∈ (envOfC qual scope s₀.heap.objs.size f cd::outer),∀b,env.frame=some b→b∈bp (envOfC qual scope s₀.heap.objs.size f cd::outer):=fun env he b hb=>List.mem_filterMap.mpr ⟨env,he,hb⟩
 have qf:dm e {s with heap:=h1}:=by
  obtain⟨t,ht,_,_⟩:=hx.there
  exact⟨_,_,ht,rfl,rfl,rfl⟩
 refine wpAny_mono (qd C5 qf (wpAny_leaves_madeW (Q:=fun _ eL=> ∃h' t,eL={s with heap:=h'}∧Heap.FlyingW (hideAll s.heap (bp (envOfC qual scope s₀.heap.objs.size f cd::outer))) outer e cls (.ref t) h'∧h1.UpToSlots h') (E:=fun _ _=>False)
  qg rfl (fun b o q=>of_hideAll _ q) (PySem.W.funFrames_hide I.stack xy) hx fun h' t gm _ _ up=> ⟨h',t,rfl,gm,up⟩)) (fun _ eL hq=> ?_) (fun _ _ z=>z.1.elim)
 obtain⟨⟨h',t,rfl,gm,up⟩,xx⟩:=hq
 have into: ∀b o,s.heap.get? b=some o→b∉bp (envOfC qual scope s₀.heap.objs.size f cd::outer)→h'.get? b=some o:=fun b o hb hn=>gm.1 b o (hideAll_get _ hb hn)
 have xB: ∀b,H b≠none→b∉bp (envOfC qual scope s₀.heap.objs.size f cd::outer):=fun b hb hm=>hb (I.sr b hm)
 have eA: ∀b∈bp (envOfC qual scope s₀.heap.objs.size f cd::outer),∀o,s.heap.get? b=some o→ ∃sl,h'.get? b=some {o with slots:=sl}:=fun b hb o ho=>by
  obtain⟨o1,j4,hd⟩:=(I.stack.mem hb).2
  rw[ho] at j4
  cases j4
  exact up b o (hx.keeps b o ho) hd
 refine⟨e,cls,t,_,H,rfl,I.os,I.bare,⟨fun b o q n hn _=> ?_,fun b o q n hn _=> ?_,fun b o q n _=>I.base.free b o q n List.not_mem_nil,fun b o q _=> ?_,I.base.ef,I.base.dM,I.base.eg⟩,
  I.aE.t_ (fun b o hb ho=>into b o ho (xB b hb)),gm,xx, ?_,fun b hb o ho=> ?_,fun b o q hn o' dh=> ?_,hE⟩
 ·exact into b o (I.base.keep b o q n hn List.not_mem_nil) (nL b o q hn)
 ·obtain⟨sl,q1⟩:=I.base.slot b o q n hn List.not_mem_nil
  obtain⟨qh,q3⟩:=eA b (List.mem_cons_of_mem _ hn) _ q1
  exact⟨qh,q3⟩
 ·obtain⟨o1,q1⟩:=I.base.there b o q List.not_mem_nil
  by_cases hm:b∈bp (envOfC qual scope s₀.heap.objs.size f cd::outer)
  ·obtain⟨sl,q3⟩:=eA b hm o1 q1
   exact⟨_,q3⟩
  ·exact⟨o1,into b o1 q1 hm⟩
 ·cases q:H e with
  | none=>rfl
  | some ho=>
   obtain⟨o2,q2⟩:=(I.aE e ho q).t9
   rw[hx.new] at q2
   cases q2
 ·obtain⟨fM,hH⟩:=Option.ne_none_iff_exists'.mp hb
  obtain⟨o2,q2⟩:=(I.aE b fM hH).t9
  have q3:=into b o2 q2 (xB b hb)
  have g6:h'.get? b=some o:=ho
  rw[q3] at g6
  cases g6
  exact hideAll_get _ q2 (xB b hb)
 ·obtain⟨o1,q1⟩:=I.base.there b o q List.not_mem_nil
  have gZ:=nL b o q hn
  have q3:=into b o1 q1 gZ
  have g6:h'.get? b=some o':=dh
  rw[q3] at g6
  cases g6
  exact hideAll_get _ q1 gZ
end
section
variable {X:Cx}
theorem Me{x:Str}{C:Addr}{bm:List Value}{B newId nI:String}{e:Expr}{es:List Expr}{t:TA}{np cK pos:Pos}{E:XK}(hc:X.calm=true)(O:OwnCls x C bm newId X.mg X.base)(FB:ExcBaseFacts B newId nI bm)(xC:Gl X x)
  (hd:(x==("__debug__":Str))=false) (ha:PA X (e::es) t) (hs:starEach (e::es) X.env=(false,eval e X.env)::starEach es X.env) (h1:(backTo cK (starEach es X.env)).any (·.1)=false) (hR:Raises X E):
  PS X (.Raise (some (.Call (.Name x np) (e::es) [] cK)) none pos) (wZ C E t):=by
 intro pins s σ H D I h
 obtain⟨tl,N,nm,q,bs,hdct,sn,sub,ab,col,dd,k0,k1,k2,k3,k5,mN,hC,hN,ua,T⟩:=O.obj
 have hg:PE X (.Name x np) (tC (.ref C)):=AG xC O.bound rfl hd
 refine wpAny_Raise_call_subT (C:=C) (nm:=nm) (q:=q) (N:=N) (bs:=bs) (bm:=tl) (hdct:=hdct) (sn:=sn) (sub:=sub) (ab:=ab) (col:=col) (dd:=dd) (k0:=k0) (k1:=k1) (k2:=k2) (k3:=k3) (k5:=k5)
  FB (mN:=mN) (T.hasType FB.hasBase) (I.ok.hd hc) (by rw[hs];show(false || (backTo cK (starEach es X.env)).any (·.1))=false;rw[h1];rfl) ua
  (aJ (hg pins s σ H (fun v H1=>v= .ref C∧wZ C E t D σ H1) I ⟨rfl,h⟩) fun f s1 ⟨v,H1,I1,r1,ev,q1⟩=> ?_)
 subst ev
 obtain rfl:f=Value.ref C:=r1
 refine⟨rfl, ?_⟩
 have hA:=ha cK pins s1 σ H1 _ I1 q1
 rw[hs] at hA⊢
 refine Calls.evalArgs_plain (aJ hA fun us s2 ⟨vs,H2,I2,r2,hl,q2⟩=> ⟨rfl, ?_,I2.bk _ _ hC,hN.keeps I2.bk,T.keeps I2.bk,fun h' e' hm=>hR pins σ H2 s2 h' e' _ _ I2 hm q2⟩)
 have:=r2.length
 show us.length≤sizeLine
 omega
end
theorem C6{P:Program}{w:World}{l:List Env}{H H':Hp}{h h1 h' B:Heap}(u:Un (bp l) [] H H' h h1)(aE:bH P w H' h1)(fr:h1.FunFrames B l)
  (c1: ∀b,H' b≠none→ ∀o,h1.get? b=some o→B.get? b=some o) (c2: ∀b o,h.get? b=some o→b∉bp l→ ∀o',h1.get? b=some o'→B.get? b=some o') (st:B.StaysIn h') (up:h1.UpToSlots h'):
  Un (bp l) [] H H' h h'∧bH P w H' h'∧(∀b,H' b≠none→ ∀o,h'.get? b=some o→B.get? b=some o)∧(∀b o,h.get? b=some o→b∉bp l→ ∀o',h'.get? b=some o'→B.get? b=some o'):=by
 have iw: ∀b o,H' b≠none→h1.get? b=some o→h'.get? b=some o:=fun b o hb ho=>st b o (c1 b hb o ho)
 have into: ∀b o,h.get? b=some o→b∉bp l→ ∀o',h1.get? b=some o'→h'.get? b=some o':=fun b o hb hn o' dh=>st b o' (c2 b o hb hn o' dh)
 have eA: ∀b∈bp l,∀o,h1.get? b=some o→ ∃sl,h'.get? b=some {o with slots:=sl}:=fun b hb o ho=>by
  obtain⟨o1,j4,hd⟩:=(fr.mem hb).2
  rw[ho] at j4
  cases j4
  exact up b o ho hd
 refine⟨⟨fun b o q n hn _=>into b o q hn o (u.keep b o q n hn List.not_mem_nil),fun b o q n hn _=> ?_,u.free,fun b o q _=> ?_,u.ef,u.dM,u.eg⟩,aE.t_ (fun b o hb ho=>iw b o hb ho),fun b hb o ho=> ?_,fun b o q hn o' dh=> ?_⟩
 ·obtain⟨sl,q1⟩:=u.slot b o q n hn List.not_mem_nil
  obtain⟨lp,q2⟩:=eA b hn _ q1
  exact⟨lp,q2⟩
 ·obtain⟨o1,q1⟩:=u.there b o q List.not_mem_nil
  by_cases hm:b∈bp l
  ·obtain⟨sl,q3⟩:=eA b hm o1 q1
   exact⟨_,q3⟩
  ·exact⟨o1,into b o q hm o1 q1⟩
 ·obtain⟨fM,hH⟩:=Option.ne_none_iff_exists'.mp hb
  obtain⟨o2,q2⟩:=(aE b fM hH).t9
  have q3:=iw b o2 hb q2
  rw[q3] at ho
  cases ho
  exact c1 b hb _ q2
 ·obtain⟨o2,q2⟩:=u.there b o q List.not_mem_nil
  have q3:=into b o q hn o2 q2
  rw[q3] at dh
  cases dh
  exact c2 b o q hn _ q2
def Cx.alt(X:Cx)(A:Around)(calm:Bool)(pn:List (Addr×Obj))(xe:Value→Shared→Prop):Cx:={X with A:=A,calm:=calm,pn:=pn,xe:=xe}
theorem Inv.alt{X:Cx}{pins fj lR:List (Addr×Obj)}{σ:St}{H:Hp}{s:Shared}{A':Around}{nJ:Bool}{xD:Value→Shared→Prop}(I:Inv X pins σ H s)(hf:A'.frames=X.A.frames)(hc:nJ=true→A'.handled=none)(hp: ∀p∈lR++fj,p∈X.pn++pins):
  Inv (X.alt A' nJ lR xD) fj σ H s where
 ok:=⟨I.ok.mod,I.ok.kind,I.ok.glob,I.ok.blt,I.ok.above,I.ok.inj,I.ok.has,I.ok.sj,hc,hf.trans I.ok.frames,I.ok.gc,I.ok.Hi,I.ok.bs,I.ok.kR,I.ok.sk,I.ok.so,I.ok.gN,I.ok.nr⟩
 os:=I.os
 bare:=I.bare
 base:=I.base
 loc:=I.loc
 cell:=I.cell
 free:=I.free
 eK:=I.eK
 pin:=fun p h=>I.pin p (hp p h)
 aE:=I.aE
 len:=I.len
theorem Inv.xE{X:Cx}{pins fj lR:List (Addr×Obj)}{σ:St}{H:Hp}{s:Shared}{A':Around}{nJ:Bool}{xD:Value→Shared→Prop}(ok:X.Ok)(I:Inv (X.alt A' nJ lR xD) fj σ H s)(hp: ∀p∈X.pn++pins,p∈lR++fj):
  Inv X pins σ H s where
 ok:=ok
 os:=I.os
 bare:=I.bare
 base:=I.base
 loc:=I.loc
 cell:=I.cell
 free:=I.free
 eK:=I.eK
 pin:=fun p h=>I.pin p (hp p h)
 aE:=I.aE
 len:=I.len
theorem Mf{P:Program}{w:World}{H:Hp}{h:Heap}{ea:Addr}{ob:Obj}(h1:h.get? ea=some ob):bS P w H h ea (.bA ob jl):=
 ⟨h1,trivial,⟨ob,h1⟩,fun _ _ _ _=>trivial⟩
theorem bH.more{P:Program}{w:World}{H:Hp}{h:Heap}{a:Addr}{o:HO}(ok:bH P w H h)(ha:H a=none)(x:bS P w (upd H a o) h a o):bH P w (upd H a o) h:=fun b u e=>by
 by_cases z:b=a
 ·subst z
  rw[az] at e
  cases e
  exact x
 ·rw[bc z] at e
  exact(ok b u e).iu (fun _ _ _ q=>q) (fun c q=>by rw[bc (cO q ha)];exact q) (fun c xs q=>by rw[bc (cO q ha)];exact q)
section
variable {X:Cx}
theorem Inv.Mg{pins:List (Addr×Obj)}{σ:St}{H:Hp}{s:Shared}{h':Heap}{m':Str→Option Value}{tk:Nat}(I:Inv X pins σ H s)(hn:h'.Ns X.env.locals m')(sb:Heap.SameBut X.env.locals s.heap h'):
  Inv X pins (List.replicate X.N.length none) H {s with heap:=h',toks:=tk} where
 ok:=I.ok
 os:=I.os
 bare:=I.bare
 base:=by
  have ne: ∀b o,X.s₀.heap.get? b=some o→b≠X.env.locals:=fun b o q z=>by
   rw[z] at q
   exact absurd (Heap.lt_size q) (Nat.not_lt.mpr I.ok.above)
  refine⟨fun b o q n hn hx=> (sb.2 b (ne b o q)).trans (I.base.keep b o q n hn hx),fun b o q n hn hx=> ?_,I.base.free,fun b o q hx=> ?_,I.base.ef,I.base.dM,I.base.eg⟩
  ·obtain⟨sl,e⟩:=I.base.slot b o q n hn hx
   exact⟨sl,(sb.2 b (ne b o q)).trans e⟩
  ·obtain⟨o',e⟩:=I.base.there b o q hx
   exact⟨o',(sb.2 b (ne b o q)).trans e⟩
 loc:=⟨m',hn,fun i x v h1 h2=>by
  rw[List.getElem?_replicate] at h2
  split at h2<;>cases h2⟩
 cell:=fun x c h=>by
  obtain⟨v,o,e,d⟩:=I.cell x c h
  refine⟨v,o,(sb.2 c (fun z=> ?_)).trans e,d⟩
  obtain⟨m,⟨o2,es,ep,e2,d2,_⟩,_⟩:=I.loc
  rw[z,e2] at e
  cases e
  rw[d] at d2
  cases d2
 free:=I.free
 eK:=I.eK
 pin:=fun p hp=>by
  obtain⟨a,b,c,d,e⟩:=I.pin p hp
  exact⟨(sb.2 _ c).trans a,b,c,d,e⟩
 aE:=I.aE.t_ fun b u hb hu=> (sb.2 b (fun z=>hb (by rw[z];exact I.free))).trans hu
 len:=List.length_replicate
end
def eP(A:Around)(H:Hp):Prop:= ∃e D,A.handled=some (.ref e)∧ExcAt H e D
def Hd(X:Cx):Prop:=eP X.A X.H₀
theorem ExcAt.keeps{H H':Hp}{e D:Addr}(h:ExcAt H e D)(k: ∀b o u,H b=some (.bA o u)→H' b=some (.bA o u)):ExcAt H' e D:=by
 obtain⟨ob,vs,h1,h2⟩:=h
 exact⟨ob,vs,k _ _ _ h1,h2⟩
theorem eP.keeps{A:Around}{H H':Hp}(h:eP A H)(k: ∀b o u,H b=some (.bA o u)→H' b=some (.bA o u)):eP A H':=by
 obtain⟨e,D,h1,h2⟩:=h
 exact⟨e,D,h1,h2.keeps k⟩
theorem eP.j3{P:Program}{w:World}{A:Around}{H:Hp}{h:Heap}(x:eP A H)(ok:bH P w H h):fP A h:=by
 obtain⟨e,D,h1,ob,vs,h2,h3⟩:=x
 exact .inr ⟨e,ob,vs,h1,(ok e _ h2).1,h3.data,h3.Ld⟩
section
variable {X:Cx} {pins:List (Addr×Obj)} {σ:St} {H:Hp} {s:Shared}
theorem Hd.at(h:Hd X)(I:Inv X pins σ H s):eP X.A H:=eP.keeps h I.base.dM
theorem Hd.j3(h:Hd X)(I:Inv X pins σ H s):fP X.A s.heap:=(h.at I).j3 I.aE
end
theorem Mh{P:Program}{w:World}{K:Frag}{tg:Expr}(a it:Addr):wN Hd P w K tg (cJ K a) [it] it (fun i h=>h.IsListIter it a i) where
 mem:=by simp
 obj:=(sJ (P:=P) (w:=w) (K:=K) (tg:=tg) a it).obj
 keep:=(sJ (P:=P) (w:=w) (K:=K) (tg:=tg) a it).keep
 item:=by
  intro X hP hw hK hc i pins s σ H E I hf st hg
  subst hP hw hK
  obtain⟨xs,x,hq,hx⟩:=hg
  obtain⟨its,rv,p,hz⟩:=I.list hq
  obtain⟨u,hu,ru⟩:=rv.get hx
  obtain⟨f0,f1,f2,f3,f4,f5⟩:=hf it (by simp)
  refine wpAny_pyNext_list_item st p.isList (x:=u) (by simpa using hu) fun h' dA sb=> ?_
  have I1:Inv X pins σ H {s with heap:=h'}:=I.turned (t':=s.toks) (fun b o hb e=> (sb.2 b hb).trans e) f0 f1 f3 f4 f5
  obtain⟨o,e,c,d⟩:=id dA
  exact⟨u,rfl,nv (s:={s with heap:=h'}) e c d (by decide) ⟨x,H,I1,ru,⟨rfl,fun ys hy=>by rw[I.AQ hy hq];exact hx⟩,dA,fun b hb=> (hf b hb).1⟩⟩
 done:=by
  intro X hP hw hK hc i pins s σ H E I hf st hg
  subst hP hw hK
  obtain⟨xs,hq,hx⟩:=hg
  obtain⟨its,rv,p,hz⟩:=I.list hq
  obtain⟨f0,f1,f2,f3,f4,f5⟩:=hf it (by simp)
  have hl:=rv.length
  exact LH (hc.j3 I) st p.isList (by simp;omega) fun h' eb=> ⟨rfl,I.turned (t':=s.toks) (fun b o hb e=>eb b o hb e) f0 f1 f3 f4 f5⟩
 self:=(sJ (P:=P) (w:=w) (K:=K) (tg:=tg) a it).self
section
variable {X:Cx} {tg:Expr}
theorem Mi{l:Expr}{tl:TE}(hl:PE X l tl):tD Hd X tg l (pA X.K tl):=by
 intro pins s σ H R I h
 refine aJ (hl pins s σ H _ I h) fun v s1 ⟨x,H1,I1,r1,q1⟩=> ?_
 obtain⟨a,e,⟨xs,hq⟩,q⟩:=q1
 subst e
 cases r1
 obtain⟨its,rv,p,hz⟩:=I1.list hq
 refine wpAny_pyIter_list p.isList ?_
 refine⟨s1.heap.objs.size,[s1.heap.objs.size],_,_,H1,rfl,I1.kept (t':=s1.toks) fun b o e=>Heap.get?_push_of_some _ e,Mh a _,⟨_,Heap.get?_push_size _ rfl,rfl,rfl⟩,fun b hb=> ?_,q⟩
 have e:b=s1.heap.objs.size:=by simpa using hb
 subst e
 exact I1.kZ (Nat.le_refl _) (I1.aE.fresh (Nat.le_refl _))
theorem Mj{pos:Pos}{es:List Expr}{k:Nat}{t:gO}{n:Nat}(hd:Hd X)(h:kW X es t)
  (hn:(assignEach es X.env).length=n:=by rfl) (iy:(assignEach es X.env).findIdx? (·.1)=none:=by rfl):PG X (.Tuple es k pos) (sI X.K n t):=by
 intro pins s σ H v u Q I r hw
 obtain⟨a,xs,e1,hq,hl,hw⟩:=hw
 subst e1
 cases r
 obtain⟨its,rv,ht,hz⟩:=I.tuple hq
 refine LM (hd.j3 I) ht (by simp[hn,←hl,rv.length]) iy fun h' hx=> ?_
 have I1:Inv X pins σ H {s with heap:=h'}:=I.kept (t':=s.toks) fun b o e=>hx b o (Nat.ne_of_lt (Heap.lt_size e)) e
 exact h pins _ σ H xs _ Q I1 (by simpa using rv) hw
theorem Ml{scope:Scope}{fv:List (Str×Nat)}{x y:Str}{px py pos:Pos}{k:Nat}(hx:scope.names.lookup x=some .local)(hy:scope.names.lookup y=some .local)(iC:(x::y::fv.map (·.1)).Nodup):tE (eP X.A) X scope [x,y] fv (.Tuple [.Name x px, .Name y py] k pos) (some 2):=by
 intro ex C s H hH
 generalize eX:dU X scope ([x,y]++fv.map (·.1)) ex C s H=Xc
 have xN:Xc.N=x::y::fv.map (·.1):=by rw[←eX];rfl
 have xd:Hd Xc:=by rw[←eX];exact hH
 have lx:Xc.env.scope.names.lookup x=some .local:=by rw[←eX];exact lookup_relabel_local hx
 have ly:Xc.env.scope.names.lookup y=some .local:=by rw[←eX];exact lookup_relabel_local hy
 have p1:PG Xc (.Name x px) (cI 0):=jK (by rw[xN];exact iC) (by rw[xN];rfl) (.inl lx) (.inr lx)
 have p2:PG Xc (.Name y py) (cI 1):=jK (by rw[xN];exact iC) (by rw[xN];rfl) (.inl ly) (.inr ly)
 have xK:Xc.K=X.K:=by rw[←eX];rfl
 refine⟨sI Xc.K 2 (jL (cI 0) (jL (cI 1) pz)),Mj xd (kY p1 (kY p2 sH)),fun v pre φ H' Q hp h=> ?_⟩
 obtain⟨a,b,rfl⟩: ∃a b,pre=[a,b]:=by
  match pre,hp with
  | [a,b],_=>exact⟨a,b,rfl⟩
 obtain⟨a',xs,rfl,e2,e3,q⟩:=h
 obtain⟨v1,v2,rfl⟩: ∃v1 v2,xs=[v1,v2]:=by
  match xs,e3 with
  | [v1,v2],_=>exact⟨v1,v2,rfl⟩
 exact⟨a',_,rfl,by rw[xK];exact e2,rfl,v1,_,rfl,v2,_,rfl,rfl,q rfl⟩
theorem Mm{X:Cx}: ∀H,eP X.A H→ ∀Xc:Cx,Xc.A=X.A→Xc.calm=X.calm→Xc.H₀=H→Hd Xc:=fun H h Xc a _ b=>by
 show eP Xc.A Xc.H₀
 rw[a,b];exact h
theorem Mn:bT X (.builtin "isinstance") (iE X.K):=by
 intro pins s σ H xs us Q I r h
 match xs,h with
 | [.ref ea,c],h=>
  obtain⟨D,b,⟨ob,vs,h1,h2⟩,hC,hc,hk,hq⟩:=h
  cases r with
  | cons r1 r=>
   cases r with
   | cons r2 r=>
    cases r
    rename_i u1 u2
    cases (show u1=Value.ref ea from r1)
    have e2:u2=cV c:=by
     rcases hc with⟨C,rfl⟩ | ⟨n,rfl⟩
     ·exact r2
     ·exact r2
    subst e2
    have at_:=(I.aE ea _ h1).1
    have inst:InstAt s.heap ea ob D none:=⟨at_,h2.cls,by unfold PySem.W.notCls;rw[h2.data],by rw[h2.dict];trivial⟩
    exact kia_one (LR hC.pV hC.pX hC.hk hC.ha hC.hn hC.jP hC.hm hC.hb) I.cP inst hk (fun z=>nomatch z) fun tk=> ⟨.bl b,H,I.tok tk,rfl,hq⟩
end
structure eQ (k:Nat) (A:Around):Prop where
 dp:A.depth+3*k+5<recursionLimit
 un:A.units+16*k+200<cLine
theorem c_.h{k:Nat}{A:Around}(r:c_ k A):eQ k A:=⟨r.dp,r.un⟩
theorem eQ.mark{k:Nat}{A:Around}(r:eQ k A)(v:Option Value):eQ k (A.mark v):=⟨r.dp,r.un⟩
theorem eQ.deeper{k:Nat}{A:Around}(r:eQ (k+1) A)(env:Env):eQ k (A.deeper env):=
 ⟨by have:=r.dp;show A.depth+1+3*k+5<_;omega,by have:=r.un;show A.units+3+16*k+200<_;omega⟩
theorem eQ.depth{k:Nat}{A:Around}(r:eQ k A):A.depth<recursionLimit:=by have:=r.dp;omega
theorem eQ.units{k:Nat}{A:Around}(r:eQ k A):A.units+64<cLine:=by have:=r.un;omega
def Mo(outer:List Env)(P:Program)(w:World)(H:Hp)(s:Shared)(Q:VK)(r:Result)(s':Shared):Prop:=
 match r with
 | .ok (.ret u)=>CE outer P w H s Q u s'
 | _=>False
structure lS (P:Program) (w:World) (K:Frag) (mg:Str→Option Value) (base:Heap) (k:Nat) (f:Addr) (fd:FuncData) (ps:List Str) (sp:Sp):Prop where
 len: ∀vs H Q E,sp vs H Q E→vs.length=ps.length
 run: ∀(A:Around) (outer:List Env) (s:Shared) (H:Hp) (args:Args) (us:List Value) (vs:List V) (Q:VK),eQ k A→eP A H→nA P w K mg base A outer s H→BindsTo s fd args (ps.zip us)→Vals vs us→sp vs H Q E0→
  codeAny (model P w) A (.call (.ref f) args) (Mo outer P w H s Q) s
theorem lS.mono{P:Program}{w:World}{K:Frag}{mg:Str→Option Value}{base:Heap}{j k:Nat}{f:Addr}{fd:FuncData}{ps:List Str}{sp:Sp}(F:lS P w K mg base j f fd ps sp)(h:j≤k):lS P w K mg base k f fd ps sp:=
 ⟨F.len,fun A outer s H args us vs Q hr=>F.run A outer s H args us vs Q ⟨by have:=hr.dp;omega,by have:=hr.un;omega⟩⟩
def ub(CX:bw)(P:Program)(w:World)(K:Frag)(mg:Str→Option Value)(base:Heap)(N:List Str)(qual:Str)(scope:Scope)(f:Addr)(cd:Value)(A:Around)(outer:List Env)(s:Shared)(H:Hp):Cx:=
 (i_ CX P w K mg base N qual scope f cd {A with handled:=none} outer s H E0).alt (A.deeper (envOfC qual scope s.heap.objs.size f cd)) false [] fun _ _=>False
theorem Mp{CX:bw}{P:Program}{w:World}{K:Frag}{mg:Str→Option Value}{base:Heap}{k:Nat}{f:Addr}{name qual:Str}{params:Arguments}{body:List Stmt}{scope:Scope}{dV kV doc pm bE ct oc:Value}{an od:Option Addr}
  {gP:Array (Option Value)} {N ps:List Str} {sp:Sp} (lk:K.lookup f=some ⟨oc,od, .func (fnOf name qual params body scope dV kV doc pm an bE ct),gP⟩) (fI:codeIn K bE qual=true) (S:bL N ps scope)
  (len: ∀vs H Q E,sp vs H Q E→vs.length=ps.length)
  (wb: ∀(A:Around) (outer:List Env) (s:Shared) (H:Hp) (vs:List V) (Q:VK),eQ k (A.deeper (envOfC qual scope s.heap.objs.size f bE))→eP A H→sp vs H Q E0→
   ∃t,dz (ub CX P w K mg base N qual scope f bE A outer s H) body t∧t {nx:=fun _ H'=>Q .aB H',rt:=Q} (start N vs) H):
  lS P w K mg base (k+1) f (fnOf name qual params body scope dV kV doc pm an bE ct) ps sp:=by
 refine⟨len,fun A outer s H args us vs Q hr hh e0 hb r fL=> ?_⟩
 have hl:=len _ _ _ _ fL
 have KX:K.In s.heap:=e0.mod.jJ.keeps fun b o e=> (e0.bs b o e).1
 have lim:s.heap.NoLimit:=e0.mod.nolimit.keeps fun b o e=> (e0.bs b o e).1
 have wc: ∀y∈ps.zip us,scope.names.lookup y.1=some .local∨(scope.names.lookup y.1=some .cell∧((cellsFrom (s.heap.objs.size+1) scope.names []).lookup y.1).isSome=true):=fun⟨n,v⟩ hy=>by
  rcases S.par n (List.of_mem_zip hy).1 with q | q
  ·exact .inl q
  ·exact .inr ⟨q,cellsFrom_some _ _ _ (.inl q)⟩
 refine codeAny_call_function hr.depth (KX _ _ lk) rfl S.co S.gen rfl (codeRec_of KX fI) (hb _ _ _ _ ?_)
 refine wpAny_newFunctionEnv_cells S.kind wc fun env he s1 x=> ?_
 subst he
 refine⟨lim.keeps x.toInCall.keep,codeAny_func ?_⟩
 obtain⟨t,ht,hq⟩:=wb A outer s H vs Q (hr.deeper _) hh fL
 have Mq:nA P w K mg base {A with handled:=none} outer s H:=⟨e0.frames,e0.mod,e0.bs,e0.kR,e0.gN,e0.nr,e0.aE,e0.bare⟩
 have I0:Inv (i_ CX P w K mg base N qual scope f bE {A with handled:=none} outer s H E0) [] (start N vs) H s1:=Bq S rfl Mq hl r x
 have I:Inv (ub CX P w K mg base N qual scope f bE A outer s H) [] (start N vs) H s1:=I0.alt rfl (fun z=>nomatch z) (fun p hp=>hp)
 refine wpAny_mono (ht [] s1 (start N vs) H _ I hq) (fun fl s' hs=> ?_) fun e s' hs=>hs.elim
 have fin: ∀{σ':St} {H':Hp} {v:V} {u:Value},Inv (ub CX P w K mg base N qual scope f bE A outer s H) [] σ' H' s'→RelV v u→Q v H'→CE outer P w H s Q u s':=
  fun {σ' H' v u} J rv q=> ⟨v,H',J.os,J.bare,J.base,J.aE,rv,q⟩
 cases fl with
 | ret u=>
  obtain⟨v,σ',H',J,rv,q⟩:=hs
  exact fin J rv q
 | next=>
  obtain⟨σ',H',J,q⟩:=hs
  exact fin (v:=V.aB) (u:=Value.none) J rfl q
 | brk=>
  obtain⟨_,_,_,q⟩:=hs
  exact False.elim q
 | cont=>
  obtain⟨_,_,_,q⟩:=hs
  exact False.elim q
theorem Mr{CX:bw}{P:Program}{w:World}{K:Frag}{mg:Str→Option Value}{base:Heap}{N:List Str}{qual:Str}{scope:Scope}{f:Addr}{cd:Value}{A:Around}{outer:List Env}{s:Shared}{H:Hp}(h:eP A H):Hd (ub CX P w K mg base N qual scope f cd A outer s H):=h
section
variable {X:Cx} {k:Nat} {f:Addr} {fd:FuncData} {ps:List Str} {sp:Sp} {x:Str} {p pos:Pos} {e:Expr} {ta:TE} {hv:Option Addr}
theorem Ms(F:lS X.prog X.w X.K X.mg X.base k f fd ps sp)(hr:eQ k X.A)(hg:Gl X x)(hm:X.mg x=some (.ref f))(hk:keepIn X.K (.ref f)=true)(hb:Binds X.K fd ps [])(hh: ∀e,hv=some e→X.A.handled=some (.ref e))
  (ha:PE X e ta) (hs:noStar e=true) (i9:(x==("__debug__":Str))=false):PE X (.Call (.Name x p) [e] [] pos) (CH sp hv (cz ta fk)):=by
 intro pins s σ H Q I h
 have he:starEach [e] X.env=(false,eval e X.env)::starEach [] X.env:=by cases e<;>first | rfl | cases hs
 refine wpAny_Call_Name_kw (pw I hg hm ?_ i9)
 have hA:PA X [e] (cz ta fk):=gg ha lj he
 refine callWith_K (h₀:=X.base) I.ok.mod.jJ hk (aJ (hA pos pins s σ H _ I h) fun us s1 ⟨vs,H1,I1,r,⟨ea,D,h1,h2⟩,q⟩=> ⟨I1.cP, ?_⟩) he rfl
 have r2:Vals vs us:=r
 have hl:us.length=ps.length:=by rw[←r2.length];exact F.len _ _ _ _ q
 have nF:=hb s1 us I1.cP (by rw[List.append_nil];exact hl)
 rw[List.append_nil] at nF
 refine wpAny_call (codeAny_mono (F.run X.A X.stack s1 H1 ⟨us,[]⟩ us vs Q hr ⟨ea,D,hh ea h1,h2⟩ I1.v_ nF r2 q) fun r s' hq=> ?_)
 cases r with
 | error e=>exact False.elim hq
 | ok fl=>
  cases fl with
  | ret u=>exact I1.after hq
  | next=>exact False.elim hq
  | brk=>exact False.elim hq
  | cont=>exact False.elim hq
end
def C7(CX:bw)(X:Cx)(x:Str)(sp:Sp):Prop:=
 ∃k f fd ps,da X.prog X.w X.K X.mg X.base CX k f fd ps sp∧c_ k X.A∧X.mg x=some (.ref f)∧keepIn X.K (.ref f)=true∧Binds X.K fd ps []
def C8(CX:bw)(X:Cx)(C:Addr)(m:Str)(sp:Sp):Prop:=
 lh X.K C∧ ∃k f fd ps,Meth X.K C m f∧da X.prog X.w X.K X.mg X.base CX k f fd ps sp∧c_ k X.A∧Binds X.K fd ps []
def C9(CX:bw)(X:Cx)(x:Str)(C:Addr)(sp:Sp):Prop:=
 ∃k f fd ps,Mk X.K C f∧da X.prog X.w X.K X.mg X.base CX k f fd ps sp∧c_ (k+1) X.A∧X.mg x=some (.ref C)∧Binds X.K fd ps []
def C_(X:Cx)(x:Str)(sp:Sp):Prop:=
 ∃k f fd ps,lS X.prog X.w X.K X.mg X.base k f fd ps sp∧eQ k X.A∧X.mg x=some (.ref f)∧keepIn X.K (.ref f)=true∧Binds X.K fd ps []
def Dc(X:Cx)(x:Str)(C:Addr):Prop:= ∃bm B newId nI,OwnCls x C bm newId X.mg X.base∧ExcBaseFacts B newId nI bm
structure Good (CX:bw) (S:bI) (Γ:aL) (X:Cx):Prop where
 N:X.N=S.N
 sc:X.env.scope=S.sc
 K:X.K=Γ.K
 calm:S.md=0→X.calm=true
 units:X.A.units+64<cLine
 fns:S.md=0→ ∀j x,S.fn[j]?=some x→C7 CX X x (Γ.fs j)
 iI: ∀j x,S.gn[j]?=some x→ ∃u,X.mg x=some u∧RelV (Γ.gv j) u
 dC: ∀x,S.bl.contains x=true→X.mg x=none
 pass:Passes CX X Γ.E
 iJ: ∀outer H s e s',CX outer H s E0 e s'→False
 jq: ∀p ar,Γ.sd p ar→ ∀h:Heap,X.K.In h→ ∃vs,KV ar vs∧h.DictOf (cY X.prog X.w) p vs
 lT:S.md=0→ ∀j m,S.mn[j]?=some m→C8 CX X (Γ.ms j).1 m (Γ.ms j).2
 lU:S.md=0→ ∀j x,S.kn[j]?=some x→C9 CX X x (Γ.kt j).1 (Γ.kt j).2
 nK: ∀j x,S.en[j]?=some x→Dc X x (Γ.ex j)
 jr: ∀j x,S.hn[j]?=some x→C_ X x (Γ.hs j)
 j5: ∀e,Γ.hv=some e→X.A.handled=some (.ref e)
 lV:S.md=1→Hd X
theorem uc{S:bI}(h:(if S.md=0 then 0 else 2)=0):S.md=0:=by
 split at h
 ·assumption
 ·cases h
section
variable {CX:bw} {S:bI} {Γ:aL} {X:Cx}
theorem Good.inner(G:Good CX S Γ X)(c:p_)(ln:List Str)(fv:List (Str×Nat))(ex:List Addr)(C:Addr)(s:Shared)(H:Hp):
  Good CX (C1 S c ln fv) Γ.calm (dU X c.sc (ln++fv.map (·.1)) ex C s H) where
 N:=rfl
 sc:=by
  show relabel c.sc X.env=xi c.sc S.sc
  rw[←G.sc];rfl
 K:=G.K
 calm:=fun h=>G.calm (uc h)
 units:=G.units
 fns:=fun m j x h=>G.fns (uc m) j x h
 iI:=G.iI
 dC:=G.dC
 pass:=fun _ _ _ _ _ _ _ h=> (G.iJ _ _ _ _ _ h).elim
 iJ:=G.iJ
 jq:=G.jq
 lT:=fun z j m h=>G.lT (uc z) j m h
 lU:=fun z j x h=>G.lU (uc z) j x h
 nK:=fun j x h=>by simp[C1] at h
 jr:=fun j x h=>G.jr j x h
 j5:=fun e h=>G.j5 e h
 lV:=fun h=>by
  have h':(if S.md=0 then 0 else 2)=1:=h
  split at h'<;>cases h'
theorem Good.gl(G:Good CX S Γ X){x:Str}(h:j0 S.sc x=true):Gl X x:=by
 show X.env.scope.names.lookup x=_
 rw[G.sc];exact Lx h
theorem bZ{e:Expr}{es:List Expr}{env:Env}(h:noStar e=true):starEach (e::es) env=(false,eval e env)::starEach es env:=by
 cases e<;>first | rfl | cases h
theorem je{o:Expr}{x:Str}{env:Env}(h:tX o=true):attributeBase o x env (eval o env)=eval o env:=by
 unfold attributeBase
 split
 ·cases h
 ·rfl
theorem qi{e:Expr}{env:Env}(h:tY e=true): ∀x,foldedSetIterable e env x=pure x:=by
 intro x
 cases e<;>first | rfl | cases h
def dv(es:List Expr):Bool:=es.all noStar
theorem eR(env:Env)(pos:Pos): ∀(es:List Expr),dv es=true→(backTo pos (starEach es env)).any (·.1)=false
 | [],h=>rfl
 | e::es,h=>by
  simp only[dv,List.all_cons,Bool.and_eq_true] at h
  rw[bZ h.1]
  have ih:=eR env pos es h.2
  show(false || (backTo pos (starEach es env)).any (·.1))=false
  rw[ih];rfl
theorem nM(env:Env)(pos:Pos): ∀(es:List Expr),dv es=true→(backTo pos (starEach es env)).all (fun x=> !x.1)=true
 | [],h=>rfl
 | e::es,h=>by
  simp only[dv,List.all_cons,Bool.and_eq_true] at h
  rw[bZ h.1]
  have ih:=nM env pos es h.2
  show(!false && (backTo pos (starEach es env)).all (fun x=> !x.1))=true
  rw[ih];rfl
theorem bR{e:Expr}{es:List Expr}(h:dv (e::es)=true):noStar e=true∧dv es=true:=by
 simp only[dv,List.all_cons,Bool.and_eq_true] at h
 exact h
theorem ud(G:Good CX S Γ X){c:p_}{ln:List Str}{fv:List (Str×Nat)}(h:tZ S c ln fv=true):
  gT X c.sc ln fv∧(∀x∈ln,c.sc.names.lookup x=some .local)∧(ln++fv.map (·.1)).Nodup∧tY c.iter=true:=by
 simp only[tZ,Bool.and_eq_true,decide_eq_true_eq,List.all_eq_true,Bool.or_eq_true] at h
 obtain⟨⟨⟨⟨⟨⟨⟨h1,h2⟩,h3⟩,h4⟩,h5⟩,h6⟩,h7⟩,h8⟩:=h
 refine⟨⟨h1,fun y hy=>h2 y hy,fun y hy hl=> ?_,fun y hy hf=> ?_,fun p hp=> ?_⟩,h6,h7,h8⟩
 ·rcases h3 y hy with z | z
  ·exact absurd hl z
  ·exact z
 ·show X.env.scope.names.lookup y.1=_∨X.env.scope.names.lookup y.1=_
  rw[G.sc]
  rcases h4 y hy with(z | z) | z
  ·exact absurd hf z
  ·exact .inl z
  ·exact .inr z
 ·rw[G.N];exact h5 p hp
theorem De(hc:X.calm=true){c:p_}{tk:Option Nat}{ln:List Str}{fv:List (Str×Nat)}(h:xj tk c.tg=some ln)(hl: ∀x∈ln,c.sc.names.lookup x=some .local)(hn:(ln++fv.map (·.1)).Nodup):
  nG X c.sc ln fv c.tg tk:=by
 unfold xj at h
 split at h
 ·rename_i x p he
  cases h
  rw[he]
  exact KI (hl x (by simp)) hn
 ·rename_i x p y q k pos he
  cases h
  rw[he]
  exact KL hc (hl x (by simp)) (hl y (by simp)) hn
 ·cases h
theorem Mt{xs:List V}{H:Hp}{Q:VK}{K:Frag}(h:jX K .int xs H Q):(∃i,xs=[.int i]∧Q (.int i) H)∨ ∃k,xs=[.bl k]∧Q (.int (if k then 1 else 0)) H:=by
 match xs,h with
 | [.int i],h=>exact .inl ⟨i,rfl,h⟩
 | [.bl k],h=>exact .inr ⟨k,rfl,h⟩
theorem Mu{K:Frag}{x:V}{H:Hp}{Q:Nat→Prop}(h:lF K x H Q): ∃n,Be K x H n∧Q n:=by
 match x,h with
 | .str y,h=>exact⟨_,⟨h.1,rfl⟩,h.2⟩
 | .ref p, .inl ⟨xs,a,b⟩=>exact⟨_, .inl ⟨xs,a,rfl⟩,b⟩
 | .ref p, .inr ⟨xs,a,b⟩=>exact⟨_, .inr ⟨xs,a,rfl⟩,b⟩
inductive Mv (X:Cx) (b:jW):Prop where
 | fn (id:String) (hv:bootBuiltins b.nm=some (.builtin id)) (hc:bT X (.builtin id) (jX X.K b))
 | ty (T:String) (hv:bootBuiltins b.nm=some (.type T)) (hc:bT X (.type T) (jX X.K b))
theorem boot_min:bootBuiltins "min"=some (.builtin "min"):=by decide+kernel
theorem boot_max:bootBuiltins "max"=some (.builtin "max"):=by decide+kernel
theorem boot_abs:bootBuiltins "abs"=some (.builtin "abs"):=by decide+kernel
theorem boot_sum:bootBuiltins "sum"=some (.builtin "sum"):=by decide+kernel
theorem Df:bootBuiltins "isinstance"=some (.builtin "isinstance"):=by decide+kernel
theorem Dg:bootBuiltins "int"=some (.type "int"):=by decide+kernel
theorem Mw:bootBuiltins "list"=some (.type "list"):=by decide+kernel
theorem Mx:bootBuiltins "tuple"=some (.type "tuple"):=by decide+kernel
theorem xF(f:Nat→Int)(lt:Nat→Nat→Bool)(h: ∀i j,lt i j=decide (f i<f j)): ∀n,argBest lt n≤n∧ ∀i,i≤n→f (argBest lt n)≤f i
 | 0=> ⟨Nat.le_refl _,fun i hi=>by
   obtain rfl:i=0:=by omega
   exact Int.le_refl _⟩
 | n+1=>by
  obtain⟨a,b⟩:=xF f lt h n
  have e:argBest lt (n+1)=if lt (n+1) (argBest lt n)=true then n+1 else argBest lt n:=rfl
  rw[e,h]
  split
  ·rename_i q
   have q:=of_decide_eq_true q
   refine⟨Nat.le_refl _,fun i hi=> ?_⟩
   by_cases z:i=n+1
   ·rw[z];exact Int.le_refl _
   ·have:=b i (by omega);omega
  ·rename_i q
   have q: ¬f (n+1) <f (argBest lt n):=fun z=>q (decide_eq_true z)
   refine⟨by omega,fun i hi=> ?_⟩
   by_cases z:i=n+1
   ·rw[z];omega
   ·exact b i (by omega)
theorem Dh{xs:Array (Int×Tok)}{i:Nat}(h:i<xs.size):numAt xs i=xs[i].1:=by
 unfold numAt
 rw[Array.getElem?_eq_getElem h];rfl
theorem Di{xs:Array (Int×Tok)}{i:Nat}(h:i<xs.size):numAt xs i∈xs.toList.map (·.1):=by
 rw[Dh h]
 exact List.mem_map.mpr ⟨xs[i],by simp,rfl⟩
theorem Dj{xs:Array (Int×Tok)}{n:Int}(h:n∈xs.toList.map (·.1)): ∃i,i<xs.size∧n=numAt xs i:=by
 obtain⟨y,hy,rfl⟩:=List.mem_map.mp h
 obtain⟨i,hi,rfl⟩:=List.getElem_of_mem hy
 have ej:i<xs.size:=by simpa using hi
 exact⟨i,ej,by rw[Dh ej];simp⟩
theorem Dk{pins:List (Addr×Obj)}{σ:St}{H:Hp}{s:Shared}{p:Addr}{ns:List Int}(I:Inv X pins σ H s)(hq:aC X.K H p (ns.map V.int)): ∃xs:Array (Int×Tok),s.heap.IsList p (intItems xs)∧ns=xs.toList.map (·.1):=by
 obtain⟨its,rv,pl,hz⟩:=I.list hq
 have hi:=intsAre_of rv
 obtain⟨xs,hx⟩:=hi.allInts.items
 refine⟨xs,hx ▸ pl.isList, ?_⟩
 rw[←nums_intItems,←hx]
 exact(show numsOf its.toArray.toList=ns from hi.numsOf).symm
theorem My(hc:X.calm=true):bT X (.builtin "min") (fun xs H Q=> ∃(p:Addr) (ns:List Int),xs=[.ref p]∧aC X.K H p (ns.map V.int)∧ns≠ []∧ ∀m:Int,m∈ns→(∀n∈ns,m≤n)→Q (.int m) H):=by
 intro pins s σ H xs us Q I r h
 obtain⟨p,ns,rfl,hq,dO,q⟩:=h
 obtain⟨u,rfl,ru⟩:=vals1 r
 cases ru
 obtain⟨xs,hl,rfl⟩:=Dk I hq
 have sz:0<xs.size:=Nat.pos_of_ne_zero fun z=>dO (by rw[Array.eq_empty_of_size_eq_zero z];rfl)
 refine min_intList (I.ok.hd hc) hl sz fun v h' tk hv hk=> ?_
 obtain⟨t,rfl⟩:=intItems_at hv
 obtain⟨b1,b2⟩:=xF (numAt xs) (fun i j=>decide (numAt xs i<numAt xs j)) (fun _ _=>rfl) (xs.size - 1)
 refine⟨.int _,H,I.kept (t':=tk) hk,⟨t,rfl⟩,q _ (Di (by omega)) fun n hn=> ?_⟩
 obtain⟨i,hi,rfl⟩:=Dj hn
 exact b2 i (by omega)
theorem Mz(hc:X.calm=true):bT X (.builtin "max") (fun xs H Q=> ∃(p:Addr) (ns:List Int),xs=[.ref p]∧aC X.K H p (ns.map V.int)∧ns≠ []∧ ∀m:Int,m∈ns→(∀n∈ns,n≤m)→Q (.int m) H):=by
 intro pins s σ H xs us Q I r h
 obtain⟨p,ns,rfl,hq,dO,q⟩:=h
 obtain⟨u,rfl,ru⟩:=vals1 r
 cases ru
 obtain⟨xs,hl,rfl⟩:=Dk I hq
 have sz:0<xs.size:=Nat.pos_of_ne_zero fun z=>dO (by rw[Array.eq_empty_of_size_eq_zero z];rfl)
 refine max_intList (I.ok.hd hc) hl sz fun v h' tk hv hk=> ?_
 obtain⟨t,rfl⟩:=intItems_at hv
 obtain⟨b1,b2⟩:=xF (fun i=> - numAt xs i) (fun i j=>decide (numAt xs i>numAt xs j)) (fun i j=>decide_eq_decide.mpr (by omega)) (xs.size - 1)
 refine⟨.int _,H,I.kept (t':=tk) hk,⟨t,rfl⟩,q _ (Di (by omega)) fun n hn=> ?_⟩
 obtain⟨i,hi,rfl⟩:=Dj hn
 have:=b2 i (by omega)
 omega
theorem Dl{x:Str}{acc:Array Value}(h:ItemsOf (SignAt x) acc x.cps.size):Vals (signs x) acc.toList:=by
 have go: ∀(l:List Nat) (us:List Value),us.length=l.length→(∀(j:Nat) (v:Value),us[j]?=some v→ ∃(c:Nat) (t:Tok),l[j]?=some c∧v=Value.str ⟨#[c]⟩ t)→Vals (l.map fun c=>V.str ⟨#[c]⟩) us:=by
  intro l
  induction l with
  | nil=>
   intro us hl _
   rw[List.length_eq_zero_iff.mp hl]
   exact .nil
  | cons c l ih=>
   intro us hl hv
   cases us with
   | nil=>cases hl
   | cons u us=>
    obtain⟨c',t,e1,e2⟩:=hv 0 u rfl
    have lJ:c=c':=by simpa using e1
    subst lJ
    exact .cons ⟨t,e2⟩ (ih us (by simpa using hl) fun j v hj=>by
     obtain⟨c2,t2,g1,g2⟩:=hv (j+1) v (by simpa using hj)
     exact⟨c2,t2,by simpa using g1,g2⟩)
 refine go x.cps.toList acc.toList ?_ fun j v hj=> ?_
 ·have:=h.1;simpa using this
 ·obtain⟨c,t,e1,e2⟩:=h.2 j v (by simpa using hj)
  exact⟨c,t,by simpa using e1,e2⟩
theorem Dm(x:Str):(signs x).length=x.length:=by simp[signs,Str.length]
theorem MA(hc:X.calm=true):bT X (.type "list") (fun xs H Q=> ∃x,xs=[.str x]∧x.length≤sizeLine∧ ∀l,H l=none→Q (.ref l) (upd H l (.lst (signs x)))):=by
 intro pins s σ H xs us Q I r h
 obtain⟨x,rfl,hx,q⟩:=h
 obtain⟨u,rfl,t,rfl⟩:=vals1 r
 refine call_list_str (I.ok.hd hc) x t (fun h' tk wL c' hk e xG=> ?_) hx
 have rv:=Dl xG
 exact⟨.ref s.heap.objs.size,_,I.laid (t':=tk) hk (Nat.le_refl _) (show bS X.prog X.w _ h' _ (.lst (signs x)) from⟨by rw[Dm];exact hx,wL.toList,c',rv,by simpa using e⟩),rfl,q _ (I.aE.fresh (Nat.le_refl _))⟩
theorem MB(hc:X.calm=true):bT X (.type "tuple") (fun xs H Q=> ∃x,xs=[.str x]∧x.length≤sizeLine∧ ∀l,H l=none→Q (.ref l) (upd H l (.tup (signs x)))):=by
 intro pins s σ H xs us Q I r h
 obtain⟨x,rfl,hx,q⟩:=h
 obtain⟨u,rfl,t,rfl⟩:=vals1 r
 refine call_tuple_str (I.ok.hd hc) x t (fun h' tk acc hk xG=> ?_) hx
 have rv:=Dl xG
 have I1:Inv X pins σ H {s with heap:=h',toks:=tk}:=I.kept (t':=tk) hk
 have I2:Inv X pins σ (upd H h'.objs.size (.tup (signs x))) {s with heap:=h'.push {cls:= .type "tuple",data:= .seq acc},toks:=tk}:=
  I1.laid (t':=tk) (fun b o e=>Heap.get?_push_of_some _ e) (Nat.le_refl _) (show bS X.prog X.w _ _ _ (.tup (signs x)) from⟨by rw[Dm];exact hx,acc.toList,rv,by simpa using IsTup.new _ _⟩)
 exact⟨.ref h'.objs.size,_,I2,rfl,q _ (I1.aE.fresh (Nat.le_refl _))⟩
theorem MC{pos:Pos}:PE X (.Dict [] [] pos) CQ:=fun pins s σ H Q I h=>by
 have big:sysModules<s.heap.objs.size:=Nat.lt_trans (by decide) (I.mod.glob.keeps I.bk).lt
 have ok:bS X.prog X.w (upd H s.heap.objs.size (.dK [])) (s.heap.push {cls:= .type "dict",data:= .dict #[]}) s.heap.objs.size (.dK []):=
  ⟨Nat.zero_le _,beq_eq_false_iff_ne.mpr (Ne.symm (Nat.ne_of_lt big)),[], .nil,Heap.DictOf.new s.heap⟩
 exact wpAny_Dict_empty ⟨.ref s.heap.objs.size,_,I.laid (t':=s.toks) (fun _ _ q=>Heap.get?_push_of_some _ q) (Nat.le_refl _) ok,rfl,h _ (I.aE.fresh (Nat.le_refl _))⟩
theorem MD(hc:X.calm=true)(b:jW):Mv X b:=by
 cases b with
 | len=>exact .fn "len" boot_len (bT.imp ID fun xs H Q h=>by
   rcases xs with _ | ⟨x,_ | ⟨_,_⟩⟩ <;> (try exact False.elim h)
   obtain⟨n,h1,h2⟩:=Mu (Q:=fun n=>Q (.int n) H) h;exact⟨x,n,rfl,h1,h2⟩)
 | min=>exact .fn "min" boot_min (bT.imp ((IB hc).or (My hc)) fun xs H Q h=>by
   match xs,h with
   | [.int i, .int j],h=>exact .inl ⟨i,j,rfl,h⟩
   | [.ref p],⟨ns,h1,h2,h3⟩=>exact .inr ⟨p,ns,rfl,h1,h2,h3⟩)
 | max=>exact .fn "max" boot_max (bT.imp ((IA hc).or (Mz hc)) fun xs H Q h=>by
   match xs,h with
   | [.int i, .int j],h=>exact .inl ⟨i,j,rfl,h⟩
   | [.ref p],⟨ns,h1,h2,h3⟩=>exact .inr ⟨p,ns,rfl,h1,h2,h3⟩)
 | sum=>exact .fn "sum" boot_sum (bT.imp (K7 hc) fun xs H Q h=>by
   rcases xs with _ | ⟨x,_ | ⟨_,_⟩⟩ <;> (try exact False.elim h) <;>cases x<;> (try exact False.elim h)
   obtain⟨ns,h1,h2⟩:=h;exact⟨_,ns,rfl,h1,h2⟩)
 | abs=>exact .fn "abs" boot_abs (bT.imp Iz fun xs H Q h=>by
   rcases xs with _ | ⟨x,_ | ⟨_,_⟩⟩ <;> (try exact False.elim h) <;>cases x<;> (try exact False.elim h)
   exact⟨_,rfl,h⟩)
 | int=>exact .ty "int" Dg (bT.imp IC fun xs H Q h=>Mt h)
 | list=>exact .ty "list" Mw (bT.imp (Ju.or (MA hc)) fun xs H Q h=>by
   rcases xs with _ | ⟨x,_ | ⟨_,_⟩⟩ <;> (try exact False.elim h) <;>cases x<;> (try exact False.elim h)
   ·exact .inr ⟨_,rfl,h.1,h.2⟩
   ·obtain⟨ys,h1,h2⟩:=h;exact .inl ⟨_,ys,rfl,h1,h2⟩)
 | tuple=>exact .ty "tuple" Mx (bT.imp (Jv.or (MB hc)) fun xs H Q h=>by
   rcases xs with _ | ⟨x,_ | ⟨_,_⟩⟩ <;> (try exact False.elim h) <;>cases x<;> (try exact False.elim h)
   ·exact .inr ⟨_,rfl,h.1,h.2⟩
   ·obtain⟨ys,h1⟩:=h;exact .inl ⟨_,ys,rfl,h1⟩)
structure ME (X:Cx) (m:gX) (id:String):Prop where
 pa:PlainAttrs (tV m)
 slot:Slot (tV m) m.nm id
 ty:typeOf (.builtin id)=pure (.type "method_descriptor")
 mt:gQ X id (xf X.K m)
theorem MF{P:Program}{w:World}{k:Key}{u:Value}(r:RelV (kV k) u):(cY P w).is k u=true:=by
 cases k with
 | inl i=>obtain⟨t,e⟩:=(show ∃t,u=Value.int i t from r);subst e;exact Ar P w i t
 | inr x=>obtain⟨t,e⟩:=(show ∃t,u=Value.str x t from r);subst e;exact As P w x t
theorem MG{ar:List (Key×V)}{vs:List (Key×Value)}(r:KV ar vs)(k:Key){v:V}(h:lP ar k=some v): ∃u,valueAt vs k=some u∧RelV v u:=by
 unfold KV at r
 induction r with
 | nil=>cases h
 | @cons p q ps qs hh t ih=>
  obtain⟨h1,h2⟩:=hh
  by_cases e:p.1=k
  ·have e':q.1=k:=h1.symm.trans e
   have b:valueAt (q::qs) k=some q.2:=by simp[valueAt,List.find?_cons,e']
   have a:lP (p::ps) k=some p.2:=by simp[lP,List.find?_cons,e]
   rw[a] at h
   cases h
   exact⟨_,b,h2⟩
  ·have e': ¬q.1=k:=fun z=>e (h1.trans z)
   have b:valueAt (q::qs) k=valueAt qs k:=by simp[valueAt,List.find?_cons,e']
   have a:lP (p::ps) k=lP ps k:=by simp[lP,List.find?_cons,e]
   rw[a] at h
   rw[b]
   exact ih h
theorem MH{sd:Addr→List (Key×V)→Prop}(xH: ∀p ar,sd p ar→ ∀h:Heap,X.K.In h→ ∃vs,KV ar vs∧h.DictOf (cY X.prog X.w) p vs):iB X (CS sd):=by
 intro value slice pins s σ H x y v u Q I rx ry h hs
 obtain⟨p,ar,k,z,rfl,rfl,hq,he,q⟩:=h
 cases rx
 obtain⟨vs,r,dd⟩:=xH p ar hq s.heap I.cP
 obtain⟨w,ew,jb⟩:=MG r k he
 exact subscriptTail_builtinR (x:=w) dd.mapOf.typeIs PySem.F.slot_dict_getitem.lookup
  (wpAny_getItem_of (Q:=fun r s'=>r=w∧EP X pins σ Q r s') (MF ry) dd.mapOf ew ⟨rfl,z,H,I.tok _,jb,q⟩) hs
theorem MI{sd:Addr→List (Key×V)→Prop}(xH: ∀p ar,sd p ar→ ∀h:Heap,X.K.In h→ ∃vs,KV ar vs∧h.DictOf (cY X.prog X.w) p vs):iB X (jm X.K sd):=Jj.or (Jk.or (Jl.or (MH xH)))
theorem ue(y:Str): ∀{ts:List Str} {us:List Value},Vals (ts.map V.str) us→ ∀(j:Nat) (h1:j<us.length) (h2:j<ts.length),(Value.isStrOf y us[j]=(ts[j]==y))
 | [],_, .nil,j,h1,_=>absurd h1 (Nat.not_lt_zero _)
 | t::ts,_, .cons r rs,0,_,_=>by
  obtain⟨k,rfl⟩:=(show ∃k,_=Value.str t k from r)
  rfl
 | t::ts,_, .cons r rs,j+1,h1,h2=>ue y rs j (Nat.lt_of_succ_lt_succ h1) (Nat.lt_of_succ_lt_succ h2)
theorem Dp{y:Str}: ∀{ts:List Str} {j:Nat},j<ts.idxOf y→ ∀(h2:j<ts.length),(ts[j]==y)=false
 | n::r,0,h,_=>by
  by_cases e:n=y
  ·subst e;simp at h
  ·simpa using e
 | n::r,j+1,h,h2=>by
  by_cases e:n=y
  ·subst e;simp at h
  ·have hb:(n==y)=false:=by simpa using e
   have h':j<r.idxOf y:=by
    rw[List.idxOf_cons,hb] at h
    exact Nat.lt_of_succ_lt_succ h
   exact Dp h' (Nat.lt_of_succ_lt_succ h2)
theorem MJ:gQ X "list.index" (fun x vs H Q=> ∃(l:Addr) (y:Str) (ts:List Str),x= .ref l∧vs=[.str y]∧aC X.K H l (ts.map V.str)∧y∈ts∧Q (.int (ts.idxOf y:Nat)) H):=by
 intro pins s σ H x vs v us Q I rx rv h
 obtain⟨l,y,ts,rfl,rfl,hq,hy,q⟩:=h
 cases rx
 obtain⟨u,rfl,⟨t,rfl⟩⟩:=vals1 rv
 obtain⟨its,r,⟨⟨cls,dd,data,sl⟩,n,ho,hc,Dq,hd⟩,hz⟩:=I.list hq
 simp only at hc hd
 subst hc hd
 have hlen:=r.length
 rw[List.length_map] at hlen hz
 have hj:ts.idxOf y<ts.length:=List.idxOf_lt_length_iff.mpr hy
 have hn:=jO
 refine call_meets PySem.F.slot_list_index ⟨_,ho,rfl⟩ PySem.F.entry_list_index (PySem.F.args_list_index_2 _ _)
  (PySem.SeqAt.list_indexAt l its.toArray n dd sl (.str y t) (Value.isStrOf y) (ts.idxOf y) (by simp;omega) (by omega) ?_ ?_) ⟨ho,fun z qj=> ?_,⟨.int _,H,I.tok _,⟨_,rfl⟩,q⟩⟩
 ·show Value.isStrOf y its[ts.idxOf y]=true
  rw[ue y r _ (by omega) hj]
  simpa using List.getElem_idxOf hj
 ·intro j xI aQ
  show Value.isStrOf y its[j]=false
  rw[ue y r j (by simpa using xI) (by omega)]
  exact Dp aQ _
 ·have hm:z∈its:=by simpa using qj
  obtain⟨j,Dr,rfl⟩:=List.getElem_of_mem hm
  have Ds:j<ts.length:=by omega
  have e:=ue y r j Dr Ds
  obtain⟨k,ek⟩:=(r.get (i:=j) (x:= .str ts[j]) (by simp[Ds]))
  obtain⟨MK,k2,ML⟩:=ek
  have MM:its[j]= .str ts[j] k2:=by
   have:=List.getElem?_eq_getElem Dr
   rw[MK] at this
   exact(Option.some.inj this).symm.trans ML
  rw[e,MM]
  exact PySem.SeqAt.EqAt.str_str _ _ _ _
theorem Dt{x:V}: ∀{xs:List V} {us:List Value},Vals xs us→xs.all dc=true→us.countP (du x)=xs.countP fun y=>dS y x
 | _,_, .nil,_=>rfl
 | y::xs,u::us, .cons r t,f=>by
  rw[List.all_cons,Bool.and_eq_true] at f
  rw[List.countP_cons,List.countP_cons,s_ r f.1,Dt t f.2]
theorem MN:gQ X "list.count" (fun x vs H Q=> ∃(l:Addr) (y:V) (xs:List V),x= .ref l∧vs=[y]∧aC X.K H l xs∧dc y=true∧xs.all dc=true∧Q (.int (xs.countP (fun z=>dS z y):Nat)) H):=by
 intro pins s σ H x vs v us Q I rx rv h
 obtain⟨l,y,xs,rfl,rfl,hq,fy,fs,q⟩:=h
 cases rx
 obtain⟨u,rfl,ru⟩:=vals1 rv
 obtain⟨its,r,⟨⟨cls,dd,data,sl⟩,n,ho,hc,Dq,hd⟩,hz⟩:=I.list hq
 simp only at hc hd
 subst hc hd
 rw[←Dt r fs] at q
 exact call_meets PySem.F.slot_list_count ⟨_,ho,rfl⟩ PySem.F.entry_list_count (PySem.F.args_list_count_2 _ _)
  (PySem.SeqAt.list_countAt l its.toArray n dd sl u (du y)) ⟨ho,fun z qj=>lA ru fy r fs z (by simpa using qj),⟨.int _,H,I.tok _,⟨_,rfl⟩,q⟩⟩
theorem MO:gQ X "list.index" (fun x vs H Q=> ∃(l:Addr) (y:V) (xs:List V),x= .ref l∧vs=[y]∧aC X.K H l xs∧dc y=true∧xs.all dc=true∧bB y xs=true∧Q (.int (xs.findIdx (fun z=>dS z y):Nat)) H):=by
 intro pins s σ H x vs v us Q I rx rv h
 obtain⟨l,y,xs,rfl,rfl,hq,fy,fs,xy,q⟩:=h
 cases rx
 obtain⟨u,rfl,ru⟩:=vals1 rv
 obtain⟨its,r,⟨⟨cls,dd,data,sl⟩,n,ho,hc,Dq,hd⟩,hz⟩:=I.list hq
 simp only at hc hd
 subst hc hd
 have hlen:=r.length
 have e: ∀j (h1:j<its.length) (h2:j<xs.length),du y its[j]=dS xs[j] y:=fun j h1 h2=>by
  obtain⟨w,e1,r1⟩:=r.get (i:=j) (x:=xs[j]) (by simp[h2])
  have e2:=List.getElem?_eq_getElem h1
  rw[e1] at e2
  rw[←Option.some.inj e2]
  exact s_ r1 (List.all_eq_true.mp fs _ (List.getElem_mem h2))
 have hj:xs.findIdx (fun z=>dS z y) <xs.length:=List.findIdx_lt_length.mpr (List.any_eq_true.mp xy)
 have hn:=jO
 refine call_meets PySem.F.slot_list_index ⟨_,ho,rfl⟩ PySem.F.entry_list_index (PySem.F.args_list_index_2 _ _)
  (PySem.SeqAt.list_indexAt l its.toArray n dd sl u (du y) (xs.findIdx fun z=>dS z y) (by simp;omega) (by omega) ?_ ?_) ⟨ho,fun z qj=>lA ru fy r fs z (by simpa using qj),⟨.int _,H,I.tok _,⟨_,rfl⟩,q⟩⟩
 ·show du y its[xs.findIdx fun z=>dS z y]=true
  rw[e _ (by omega) hj]
  exact List.findIdx_getElem (w:=hj)
 ·intro j xI aQ
  show du y its[j]=false
  rw[e j (by simpa using xI) (by omega)]
  simpa using List.not_of_lt_findIdx aQ
theorem MP(m:gX): ∃id,ME X m id:=by
 cases m with
 | append=>exact⟨_,F.plainAttrs_list,F.slot_list_append,F.type_list_append,fun pins s σ H x xs v us Q I rx rv h=>by
   cases x<;> (try exact False.elim h) <;>rcases xs with _ | ⟨y0,_ | ⟨_,_⟩⟩ <;> (try exact False.elim h)
   obtain⟨zs,h1,h2,h3⟩:=h
   exact JD pins s σ H _ _ v us Q I rx rv ⟨_,zs,_,rfl,rfl,h1,h2,h3⟩⟩
 | pop=>exact⟨_,F.plainAttrs_list,F.slot_list_pop,F.type_list_pop,fun pins s σ H x xs v us Q I rx rv h=>by
   cases x<;> (try exact False.elim h) <;>rcases xs with _ | ⟨_,_⟩ <;> (try exact False.elim h)
   obtain⟨zs,y,h1,h2,h3⟩:=h
   exact JH pins s σ H _ _ v us Q I rx rv ⟨_,zs,y,rfl,rfl,h1,h2,h3⟩⟩
 | extend=>exact⟨_,F.plainAttrs_list,F.slot_list_extend,F.type_list_extend,fun pins s σ H x xs v us Q I rx rv h=>by
   cases x<;> (try exact False.elim h) <;>rcases xs with _ | ⟨y0,_ | ⟨_,_⟩⟩ <;> (try exact False.elim h) <;>cases y0<;> (try exact False.elim h)
   obtain⟨ys,zs,h1,h2,h3,h4⟩:=h
   exact JF pins s σ H _ _ v us Q I rx rv ⟨_,_,ys,zs,rfl,rfl,h1,h2,h3,h4⟩⟩
 | join=>exact⟨_,F.plainAttrs_str,F.slot_str_join,F.type_str_join,fun pins s σ H x xs v us Q I rx rv h=>by
   cases x<;> (try exact False.elim h) <;>rcases xs with _ | ⟨y0,_ | ⟨_,_⟩⟩ <;> (try exact False.elim h) <;>cases y0<;> (try exact False.elim h)
   obtain⟨ts,h1,h2,h3⟩:=h
   exact K8 pins s σ H _ _ v us Q I rx rv ⟨_,_,ts,rfl,rfl,h1,h2,h3⟩⟩
 | lstrip=>exact⟨_,F.plainAttrs_str,F.slot_str_lstrip,F.type_str_lstrip,fun pins s σ H x xs v us Q I rx rv h=>by
   cases x<;> (try exact False.elim h) <;>rcases xs with _ | ⟨y0,_ | ⟨_,_⟩⟩ <;> (try exact False.elim h) <;>cases y0<;> (try exact False.elim h)
   obtain⟨h1,h2⟩:=h
   exact K_ pins s σ H _ _ v us Q I rx rv ⟨_,_,rfl,rfl,h1,h2⟩⟩
 | starts=>exact⟨_,F.plainAttrs_str,F.slot_str_startswith,F.type_str_startswith,fun pins s σ H x xs v us Q I rx rv h=>by
   cases x<;> (try exact False.elim h) <;>rcases xs with _ | ⟨y0,_ | ⟨y1,_ | ⟨_,_⟩⟩⟩ <;> (try exact False.elim h) <;>cases y0<;> (try exact False.elim h) <;>cases y1<;> (try exact False.elim h)
   exact Lb pins s σ H _ _ v us Q I rx rv ⟨_,_,_,rfl,rfl,h⟩⟩
 | find=>exact⟨_,F.plainAttrs_str,F.slot_str_find,F.type_str_find,fun pins s σ H x xs v us Q I rx rv h=>by
   match x,xs,h with
   | .str z,[.str y],h1=>
    obtain⟨t,rfl⟩:=rx
    obtain⟨u,rfl,⟨t2,rfl⟩⟩:=vals1 rv
    exact call_gives F.slot_str_find (typeIs_str _ _ _) F.entry_str_find (F.args_str_find_2 _ _) (gives_str_find z y t t2) ⟨.int _,H,I.tok _,⟨_,rfl⟩,h1⟩
   | .str z,[.str y, .int i],h1=>
    obtain⟨t,rfl⟩:=rx
    obtain⟨u,w',rfl,⟨t2,rfl⟩,⟨t3,rfl⟩⟩:=vals2 rv
    exact call_gives F.slot_str_find (typeIs_str _ _ _) F.entry_str_find (F.args_str_find_3 _ _ _) (gives_str_find_from z y i t t2 t3) ⟨.int _,H,I.tok _,⟨_,rfl⟩,h1⟩⟩
 | count=>exact⟨_,F.plainAttrs_str,F.slot_str_count,F.type_str_count,fun pins s σ H x xs v us Q I rx rv h=>by
   match x,xs,h with
   | .str z,[.str y],h1=>
    obtain⟨t,rfl⟩:=rx
    obtain⟨u,rfl,⟨t2,rfl⟩⟩:=vals1 rv
    exact call_gives F.slot_str_count (typeIs_str _ _ _) F.entry_str_count (F.args_str_count_2 _ _) (gives_str_count z y t t2) ⟨.int _,H,I.tok _,⟨_,rfl⟩,h1⟩⟩
 | reverse=>exact⟨_,F.plainAttrs_list,F.slot_list_reverse,F.type_list_reverse,fun pins s σ H x xs v us Q I rx rv h=>by
   cases x<;> (try exact False.elim h) <;>rcases xs with _ | ⟨_,_⟩ <;> (try exact False.elim h)
   obtain⟨zs,h1,h2⟩:=h
   exact JJ pins s σ H _ _ v us Q I rx rv ⟨_,zs,rfl,rfl,h1,h2⟩⟩
 | index=>exact⟨_,F.plainAttrs_list,F.slot_list_index,F.type_list_index,fun pins s σ H x xs v us Q I rx rv h=>by
   cases x<;> (try exact False.elim h) <;>rcases xs with _ | ⟨y0,_ | ⟨_,_⟩⟩ <;> (try exact False.elim h) <;>cases y0<;> (try exact False.elim h)
   obtain⟨ts,h1,h2,h3⟩:=h
   exact MJ pins s σ H _ _ v us Q I rx rv ⟨_,_,ts,rfl,rfl,h1,h2,h3⟩⟩
 | w5=>exact⟨_,F.plainAttrs_list,F.slot_list_count,F.type_list_count,fun pins s σ H x xs v us Q I rx rv h=>by
   cases x<;> (try exact False.elim h) <;>rcases xs with _ | ⟨y0,_ | ⟨_,_⟩⟩ <;> (try exact False.elim h)
   obtain⟨zs,h1,h2,h3,h4⟩:=h
   exact MN pins s σ H _ _ v us Q I rx rv ⟨_,_,zs,rfl,rfl,h1,h2,h3,h4⟩⟩
 | w6=>exact⟨_,F.plainAttrs_list,F.slot_list_index,F.type_list_index,fun pins s σ H x xs v us Q I rx rv h=>by
   cases x<;> (try exact False.elim h) <;>rcases xs with _ | ⟨y0,_ | ⟨_,_⟩⟩ <;> (try exact False.elim h)
   obtain⟨zs,h1,h2,h3,h4,h5⟩:=h
   exact MO pins s σ H _ _ v us Q I rx rv ⟨_,_,zs,rfl,rfl,h1,h2,h3,h4,h5⟩⟩
 | clear=>exact⟨_,F.plainAttrs_list,F.slot_list_clear,F.type_list_clear,fun pins s σ H x xs v us Q I rx rv h=>by
   cases x<;> (try exact False.elim h) <;>rcases xs with _ | ⟨_,_⟩ <;> (try exact False.elim h)
   obtain⟨zs,h1,h2⟩:=h
   exact JL pins s σ H _ _ v us Q I rx rv ⟨_,zs,rfl,rfl,h1,h2⟩⟩
theorem MQ{pins:List (Addr×Obj)}{σ:St}{H:Hp}{s:Shared}{T:Ty}{x:V}{u:Value}{Qb:Bool→Prop}{Q:Value→Shared→Prop}{E:Value→Shared→Prop}(I:Inv X pins σ H s)(rx:RelV x u)(h:bx T x H Qb)
  (hq: ∀b tk,Qb b→Q (.bool b) {s with toks:=tk}):wpAny (model X.prog X.w) X.A (call (.builtin "isinstance") [u, .type T.nm]) Q E s:=by
 match x,rx,h with
 | .aB,rx,h=>exact i8 I rx (.aB) (K6 _ T) fun tk=>hq _ _ h
 | .bl b,rx,h=>exact i8 I rx (.bl b) (jV X.K .bool T) fun tk=>hq _ _ (by cases T<;>exact h)
 | .int i,rx,h=>exact i8 I rx (.int i) (jV X.K .int T) fun tk=>hq _ _ (by cases T<;>exact h)
 | .str i,rx,h=>exact i8 I rx (.str i) (jV X.K .str T) fun tk=>hq _ _ (by cases T<;>exact h)
 | .ref a,rx,h=>
  cases e:H a with
  | none=>simp only[bx,e] at h
  | some o=>
   match o,e with
   | .lst xs,e=>simp only[bx,e] at h;exact i8 I rx (.lst e) (jV X.K .list T) fun tk=>hq _ _ (by cases T<;>exact h)
   | .bA ob (.lst xs),e=>simp only[bx,e] at h;exact i8 I rx (.bA e) (jV X.K .list T) fun tk=>hq _ _ (by cases T<;>exact h)
   | .tup xs,e=>simp only[bx,e] at h;exact i8 I rx (.tup e) (jV X.K .tuple T) fun tk=>hq _ _ (by cases T<;>exact h)
   | .dK xs,e=>simp only[bx,e] at h;exact i8 I rx (.dK e) (jV X.K .dict T) fun tk=>hq _ _ (by cases T<;>exact h)
   | .dT xs,e=>simp only[bx,e] at h;exact i8 I rx (.dT e) (jV X.K .dict T) fun tk=>hq _ _ (by cases T<;>exact h)
   | .set _ _,e=>simp only[bx,e] at h
   | .ins _ _ _,e=>simp only[bx,e] at h
   | .own _,e=>simp only[bx,e] at h
   | .xd _,e=>simp only[bx,e] at h
   | .met _ _,e=>simp only[bx,e] at h
   | .fH _ _,e=>simp only[bx,e] at h
   | .ir _,e=>simp only[bx,e] at h
   | .ext _,e=>simp only[bx,e] at h
   | .bA ob (.tup xs),e=>simp only[bx,e] at h
   | .bA ob (.dK xs),e=>simp only[bx,e] at h
   | .bA ob (.dT xs),e=>simp only[bx,e] at h
   | .bA ob (.set _ _),e=>simp only[bx,e] at h
   | .bA ob (.ins _ _ _),e=>simp only[bx,e] at h
   | .bA ob (.own _),e=>simp only[bx,e] at h
   | .bA ob (.xd _),e=>simp only[bx,e] at h
   | .bA ob (.met _ _),e=>simp only[bx,e] at h
   | .bA ob (.fH _ _),e=>simp only[bx,e] at h
   | .bA ob (.ir _),e=>simp only[bx,e] at h
   | .bA ob (.ext _),e=>simp only[bx,e] at h
   | .bA ob (.bA _ _),e=>simp only[bx,e] at h
theorem MR(T:Ty):bootBuiltins (Str.ofString T.nm)=some (.type T.nm):=by cases T<;>decide+kernel
theorem MS(T:Ty):bT X (.builtin "isinstance") (gY T):=by
 intro pins s σ H xs us Q I r h
 match xs,r,h with
 | [x, .ty n],r,⟨e,h⟩=>
  subst e
  obtain⟨u,w',rfl,ru,jb⟩:=vals2 r
  cases jb
  exact MQ I ru h fun b tk hb=> ⟨.bl b,H,I.tok tk,rfl,hb⟩
theorem MT{T:Ty}{a:Expr}{ta:TE}{p q pos:Pos}(ha:PE X a ta)(hs:noStar a=true)(hg:Gl X "isinstance")(hm:X.mg "isinstance"=none)(MU:Gl X (Str.ofString T.nm))(MV:X.mg (Str.ofString T.nm)=none):
  PE X (.Call (.Name "isinstance" p) [a, .Name (Str.ofString T.nm) q] [] pos) (eM (gY T) (cz ta (cz (tC (.ty T.nm)) fk))):=by
 have hT:PE X (.Name (Str.ofString T.nm) q) (tC (.ty T.nm)):=AH MU MV (MR T) rfl (by cases T<;>decide) (by cases T<;>decide)
 exact sT (MS T) hg hm Df (gg ha (gg hT lj rfl) (bZ hs)) (by decide) (by decide) (bZ hs) rfl
end
section
variable {X:Cx}
theorem MW:sZ X (lO X.K):=by
 intro pins s σ H x v vl vu lo hi sl Q I rx hs pl pu h
 match x,rx,h with
 | .ref a,rx, .inl ⟨xs,h1,h2⟩=>exact Jq pins s σ H _ v vl vu lo hi sl Q I rx hs pl pu ⟨a,xs,rfl,h1,h2⟩
 | .ref a,rx, .inr ⟨xs,h1,h2,h3⟩=>exact Jg pins s σ H _ v vl vu lo hi sl Q I rx hs pl pu ⟨a,xs,rfl,h1,h2,h3⟩
 | .str z,rx,⟨h1,h2⟩=>
  obtain⟨t,rfl⟩:=rx
  obtain⟨l,el,ml⟩: ∃l:Option (Int×Tok),vl=partValue l∧l.map (·.1)=lo:=by
   cases pl with
   | none=>exact⟨none,rfl,rfl⟩
   | int i t=>exact⟨some (i,t),rfl,rfl⟩
  obtain⟨u,eu,mu⟩: ∃u:Option (Int×Tok),vu=partValue u∧u.map (·.1)=hi:=by
   cases pu with
   | none=>exact⟨none,rfl,rfl⟩
   | int i t=>exact⟨some (i,t),rfl,rfl⟩
  subst el eu
  refine⟨"str",_,F.slot_str_getitem.lookup,typeIs_str _ _ _, ?_⟩
  refine wpAny_getItem_str_slice (l:=l) (u:=u) (st:=none) hs rfl ?_
  obtain⟨b1,b2,b3⟩:=wo lo hi z.length
  have hp:slicePicked z l u none=(List.range (HT.aP z.length z.length hi - HT.aP z.length 0 lo)).map (HT.aP z.length 0 lo+ ·):=by
   show Builtin.Str.strSliceIndices (l.map (·.1)) (u.map (·.1)) 1 z.length=_
   rw[ml,mu]
   have e0:Builtin.Str.strSliceIndices lo hi 1 z.length=sliceRange (sliceBounds lo hi none z.length).1 (sliceBounds lo hi none z.length).2.1 (sliceBounds lo hi none z.length).2.2:=rfl
   rw[e0,b1,b2,b3,sliceRange_one]
  have hc:((slicePicked z l u none).filterMap (z.cps[·]?))=jk z.cps.toList lo hi:=by
   show(Builtin.Str.strSliceIndices (l.map (·.1)) (u.map (·.1)) 1 z.length).filterMap (z.cps[·]?)=_
   rw[ml,mu,Lc]
  have hz:z.cps.toList.length=z.length:=by simp[Str.length]
  have hA:=HT.we z.length 0 (Nat.zero_le _) lo
  have hB:=HT.we z.length z.length (Nat.le_refl _) hi
  unfold sliceMade
  refine post_val_or_made (fun _=> ?_) fun t' k=> ?_
  ·show(List.toArray ((slicePicked z l u none).filterMap (z.cps[·]?))).size≤sizeLine
   rw[hc,List.size_toArray]
   have:(jk z.cps.toList lo hi).length≤z.cps.toList.length:=by unfold jk;simp only[List.length_take,List.length_drop];omega
   omega
  ·have e:(if (((none:Option (Int×Tok)).map (·.1)).getD 1==1 && (slicePicked z l u none).length==z.length)=true then z else ⟨((slicePicked z l u none).filterMap (z.cps[·]?)).toArray⟩)=lL z lo hi:=by
    split
    ·rename_i hq
     simp only[Bool.and_eq_true,beq_iff_eq] at hq
     have MZ:=hq.2
     rw[hp,List.length_map,List.length_range] at MZ
     have a0:HT.aP z.length 0 lo=0:=by omega
     have b0:HT.aP z.length z.length hi=z.length:=by omega
     unfold lL jk
     rw[hz,a0,b0,←hz,Nat.sub_zero,List.drop_zero,List.take_length]
    ·rw[hc];rfl
   rw[e]
   exact⟨.str _,H,I.tok k,⟨t',rfl⟩,h2⟩
theorem M0:sN X (unaryOp .USub) CP:=by
 intro pins s σ H x v Q I rx h
 match x,rx,h with
 | .int i,rx,h=>exact Ia pins s σ H _ v Q I rx ⟨i,rfl,h⟩
theorem M1{a:Expr}{ta:TE}{pos:Pos}(ha:PE X a ta):PE X (.UnaryOp .Not a pos) (xb X.K ta):=by
 intro pins s σ H Q I h
 refine UnaryOp_ (aJ (ha pins s σ H _ I h) fun v s1 ⟨x,H1,I1,r1,q1⟩=>not_of ?_)
 exact aJ (Bd pins s1 σ H1 x v (fun b H2=>Q (.bl (!b)) H2) I1 r1 (CO q1)) fun b s2 ⟨H2,I2,q2⟩=> ⟨.bl (!b),H2,I2,rfl,q2⟩
theorem nN{a:Expr}{ta:TE}(ha:PE X a ta)(he: ∀whole,isTrue a X.env whole=(do let v ←whole;standAt a.pos;holding [v] (truthy v))):PT X a (dE X.K ta):=by
 intro pins s σ H Q I h
 exact isTrue_plain (aJ (ha pins s σ H _ I h) fun v s1 ⟨x,H1,I1,r1,q1⟩=>Bd pins s1 σ H1 x v Q I1 r1 (CO q1)) (he _)
theorem M3{m:gX}{o e:Expr}{es:List Expr}{to:TE}{t:TA}{apos cK:Pos}(ho:PE X o to)(ha:PA X (e::es) t)(hb:tX o=true)(hl:(apos.endLine==cK.line)=true)(hn:(e::es).length<29)
  (hs:starEach (e::es) X.env=(false,eval e X.env)::starEach es X.env) (h1:(backTo cK (starEach es X.env)).any (·.1)=false) (h2:(backTo cK (starEach (e::es) X.env)).all (fun x=> !x.1)=true):
  PE X (.Call (.Attribute o m.nm apos) (e::es) [] cK) (tW X.K m to t):=by
 obtain⟨id,M⟩:=MP (X:=X) m
 exact tj M.pa M.slot M.ty M.mt ho ha (je hb) (by
  rw[h2]
  show(true && true && decide ((e::es).length+0+0<30))=true
  rw[decide_eq_true (by omega)];rfl) hl hs h1
end
section
variable {X:Cx} {CX:bw}
end
section
variable {prog:Program} {w:World} {A:Around} {E:Value→Shared→Prop} {s:Shared}
theorem Du{it l:Addr}{items:Array Value}(dO:l≠it): ∀(n i:Nat) (s:Shared) (Q:List Value→Shared→Prop),s.heap.IsListIter it l i→s.heap.IsList l items→i+n≤items.size→
  (∀h',h'.IsListIter it l (i+n)→Heap.SameBut it s.heap h'→Q ((items.toList.drop i).take n) {s with heap:=h'})→wpAny (model prog w) A (draw (.ref it) n) Q E s
 | 0,i,s,Q,hit,_,_,hQ=>by
  show wpAny _ _ (pure []) Q E s
  exact wpAny_pure (by simpa using hQ s.heap hit (Heap.SameBut.refl ..))
 | n+1,i,s,Q,hit,ht,hle,hQ=>by
  have aQ:i<items.size:=by omega
  show wpAny _ _ (pyNext (.ref it) >>=_) Q E s
  refine wpAny_bind (wpAny_pyNext_list_item hit ht (x:=items[i]) (by simp[aQ]) fun h₁ qc jn=> ?_)
  refine wpAny_bind (wpAny_holding (Du dO n (i+1) _ _ qc (ht.extBut jn.extBut dO) (by omega) fun h₂ M4 M5=>wpAny_pure ?_))
  have hd:items.toList.drop i=items[i]::items.toList.drop (i+1):=by simp[List.drop_eq_getElem_cons,aQ]
  have:=hQ h₂ (by rw[show i+ (n+1)=i+1+n by omega];exact M4) (jn.trans M5)
  rw[hd,List.take_succ_cons] at this
  exact this
theorem M6{t:Addr}{items:Array Value}{Q:List Value→Shared→Prop}(hh:A.handled=none)(ht:s.heap.IsList t items)
  (hQ: ∀h',Heap.ExtBut s.heap.objs.size s.heap h'→Q items.toList {s with heap:=h'}):wpAny (model prog w) A (unpackItems (.ref t) items.size none) Q E s:=by
 have aQ:t≠s.heap.objs.size:=by obtain⟨o,ho,_⟩:=ht;exact Nat.ne_of_lt (Heap.lt_size ho)
 unfold unpackItems
 refine wpAny_bind ?_
 ·unfold notIterableAtAll
  refine wpAny_bind (wpAny_specialOf ht.typeIs slot_list_iter.lookup ?_)
  refine wpAny_pure ?_
  simp only[Bool.false_eq_true,if_false]
  refine wpAny_bind (wpAny_holding (wpAny_pyIter_list ht ?_))
  refine wpAny_bind (wpAny_holding (Du aQ items.size 0 _ _ ⟨_,Heap.get?_push_size _ rfl,rfl,rfl⟩ (ht.push _) (by omega) fun h₁ qc jn=> ?_))
  have lB:List.take items.size (List.drop 0 items.toList)=items.toList:=by
   rw[List.drop_zero];exact List.take_of_length_le (by simp)
  rw[lB]
  rw[if_neg (by simp)]
  have xl:h₁.IsList t items:=(ht.push _).extBut jn.extBut aQ
  refine wpAny_bind (wpAny_holding (wpAny_pyNext_list_end hh qc xl (by simp) fun h₂ xn=> ?_))
  simp only[Option.isSome_none,Bool.false_eq_true,if_false]
  refine wpAny_pure (hQ h₂ fun b o hb e=>xn b o hb (jn.extBut b o hb (Heap.get?_push_of_some _ e)))
theorem M7{env:Env}{elts:List Expr}{x1}{pos:Pos}{t:Addr}{items:Array Value}{Q:Unit→Shared→Prop}(hh:A.handled=none)(ht:s.heap.IsList t items)
  (hn:(assignEach elts env).length=items.size) (xo:(assignEach elts env).findIdx? (·.1)=none)
  (h: ∀h',Heap.ExtBut s.heap.objs.size s.heap h'→wpAny (model prog w) A (assignInOrder ((assignEach elts env).map (·.2)) items.toList) Q E {s with heap:=h'}):
  wpAny (model prog w) A (assign (.Tuple elts x1 pos) env (.ref t)) Q E s:=by
 rw[assign_Tuple]
 refine wpAny_bind (wpAny_standAt ?_)
 unfold unpack
 rw[hn,xo]
 exact wpAny_bind (wpAny_holding (M6 hh ht h))
end
def lW(K:Frag)(n:Nat)(t:gO):TG:=fun v σ H Q=> ∃a xs,v= .ref a∧(aT K H a xs∨aC K H a xs)∧xs.length=n∧t xs σ H Q
theorem Dv{X:Cx}{es:List Expr}{k:Nat}{t:gO}{n:Nat}{pos:Pos}(hc:X.calm=true)(h:kW X es t)
  (hn:(assignEach es X.env).length=n) (iy:(assignEach es X.env).findIdx? (·.1)=none):PG X (.Tuple es k pos) (lW X.K n t):=by
 intro pins s σ H v u Q I r hw
 obtain⟨a,xs,e1,hq,hl,hw⟩:=hw
 rcases hq with hq | hq
 ·exact AX hc h hn iy pins s σ H v u Q I r ⟨a,xs,e1,hq,hl,hw⟩
 ·subst e1
  cases r
  obtain⟨its,rv,ht,hz⟩:=I.list hq
  refine M7 (I.ok.hd hc) ht.isList (by simp[hn,←hl,rv.length]) iy fun h' hx=> ?_
  have I1:Inv X pins σ H {s with heap:=h'}:=I.kept (t':=s.toks) fun b o e=>hx b o (Nat.ne_of_lt (Heap.lt_size e)) e
  exact h pins _ σ H xs _ Q I1 (by simpa using rv) hw
def lX:List Nat→gO
 | []=>pz
 | i::r=>jL (cI i) (lX r)
def M8(to:TE)(tl th:TO):TG:=fun v σ H Q=>to σ H fun o H1=>tl σ H1 fun i H2=>th σ H2 fun j H3=> ∃l b xs ys a c,o= .ref l∧v= .ref b∧i=some a∧j=some c∧H3 l=some (.lst xs)∧H3 b=some (.lst ys)∧l≠b∧
 0≤a∧a≤c∧c≤xs.length∧xs.length+ys.length≤sizeLine∧Q σ (upd H3 l (.lst (xs.take a.toNat++ys++xs.drop c.toNat)))
mutual
def aK(Γ:aL):RS→TS
 | .asg i e=>fJ (af Γ e) (cI i)
 | .lN i e=>fJ (af Γ e) (cI i)
 | .set o ix e=>fJ (af Γ e) (AY (af Γ o) (af Γ ix) wm)
 | .dput o i e=>BW (af Γ o) (af Γ i) (af Γ e)
 | .drop e=>AS (af Γ e)
 | .ret e=>AU (af Γ e)
 | .Lk=>HC
 | .ite c t e=>AV (bf Γ c) (aw Γ t) (aw Γ e)
 | .iH i k its body=>vX (eo Γ k its) (cI i) (aw Γ body)
 | .Ll is k its body=>vX (eo Γ k its) (lW Γ.K is.length (lX is)) (aw Γ body)
 | .Lm c body=>HG (bf Γ c) (aw Γ body)
 | .pass=>sG
 | .brk=>Hy
 | .cont=>Hz
 | .never=>HE
 | .Ln o lo hi e=>fJ (af Γ e) (M8 (af Γ o) (sY (af Γ lo)) (sY (af Γ hi)))
 | .Lo o f e=>IH Γ.K (af Γ o) (af Γ e) f
 | .tU is e=>fJ (af Γ e) (lW Γ.K is.length (lX is))
 | .pY j as=>wZ (Γ.ex j) Γ.E (aY Γ as)
 | .Lp n i j body su=>fun D σ H=> ∃C,Γ.gv j= .ref C∧Lf Γ.K C i n (fun E=>aw {Γ with E:=E} body) (fun ea=>aw {Γ with E:=E0,hv:=some ea} su) D σ H
 | .xa k i j f as su=>fun D σ H=> ∃C,Γ.gv j= .ref C∧tO Γ.K C i k (Γ.fs f) (aY {Γ with E:=E0} as) (fun ea=>aw {Γ with E:=E0,hv:=some ea} su) D σ H
def aw(Γ:aL):List RS→TS
 | []=>sG
 | s::r=>vT (aK Γ s) (aw Γ r)
end
def xJ:Expr→Bool
 | .Slice ..=>false | _=>true
def qk:Expr→Bool
 | .ListComp ..=>false | .SetComp ..=>false | .DictComp ..=>false | _=>true
def uf(sc:Scope)(x:Str)(line:Nat)(s:Scope)(p:Pos):Bool:=
 decide (sc.kind= .function) && decide (sc.names.lookup x=some .local) && (line==p.line) && !(s.names.any fun(n,k)=>n==x && (k== .local || k== .cell))
def nO(N:List Str)(sc:Scope):List Nat→List Str→Bool
 | [],xs=>xs.isEmpty
 | i::r,xs=>match xs with
  | []=>false
  | x::t=>decide (N[i]?=some x) && loc sc x && nO N sc r t
structure de (CX:bw) (S:bI) (Γ:aL) (X:Cx):Prop extends Good CX S Γ X where
 nd:S.N.Nodup
 g_: ∀x,X.fn x=true
 own:PassesOwn (model X.prog X.w) X.A X.env X.xe
 j6:X.env.scope.kind= .function
 rs: ∀(j:Nat) (x:Str),S.en[j]?=some x→Raises X Γ.E
 gc:X.stack=X.env::X.outer
 eA:X.env.frame=some X.env.locals
 lY:X.ex=[]
 j7:CX=dF X.prog X.w
def qV(S:bI)(i:Nat)(x:Str):Bool:=decide (S.N[i]?=some x) && xh S.sc x && !(x==("__debug__":Str)) && !(x==("__classdict__":Str))
def kG(S:bI)(j:Nat)(x:Str):Bool:=decide (S.gn[j]?=some x) && j0 S.sc x && !(x==("__debug__":Str))
def kF(S:bI)(j:Nat)(x:Str):Bool:=decide (S.fn[j]?=some x) && j0 S.sc x && !(x==("__debug__":Str))
def kB(S:bI)(x y:Str):Bool:=decide (x=y) && j0 S.sc x && S.bl.contains x
def kM(o:Expr)(m:Str)(x:Str)(n:Nat)(a c:Pos):Bool:=decide (x=m) && tX o && (a.endLine==c.line) && decide (n<29)
def kL(S:bI)(i:Nat)(x:Str):Bool:=decide (S.N[i]?=some x) && loc S.sc x
section
variable {CX:bw} {S:bI} {Γ:aL} {X:Cx} {e e2 a b c d:Expr} {es:List Expr} {x:Str} {p q pos:Pos} {r ra rb rc:RE} {rs:List RE} {i j:Nat}
theorem ae(G:Good CX S Γ X)(h:qV S i x=true:=by kernel_rfl):PE X (.Name x p) (af Γ (.v i)):=by
 simp only[qV,Bool.and_eq_true,decide_eq_true_eq,Bool.not_eq_true'] at h
 exact Hn (by rw[G.N];exact h.1.1.1) (by rw[G.sc];exact Lw h.1.1.2) h.1.2 h.2
theorem ax{v:Int}{k:Nat}:PE X (.Constant (.int v) k p) (af Γ (.c (.int v))):=Ho
theorem aq{v:Str}{k:Nat}:PE X (.Constant (.str v) k p) (af Γ (.c (.str v))):=Hs
theorem eS{v:Bool}{k:Nat}:PE X (.Constant (.bool v) k p) (af Γ (.c (.bl v))):=Hq
theorem dn{k:Nat}:PE X (.Constant .none k p) (af Γ (.c .aB)):=Hr
theorem dq(G:Good CX S Γ X)(h:kG S j x=true:=by kernel_rfl):PE X (.Name x p) (af Γ (.g j)):=by
 simp only[kG,Bool.and_eq_true,decide_eq_true_eq,Bool.not_eq_true'] at h
 obtain⟨u,hm,r⟩:=G.iI j x h.1.1
 exact AG (G.gl h.1.2) hm r h.2
theorem aF{op:Operator}(G:Good CX S Γ X)(ha:PE X a (af Γ ra))(hb:PE X b (af Γ rb)):PE X (.BinOp a op b p) (af Γ (.bin op ra rb)):=by
 show PE X _ (dt (jj Γ.K op) (af Γ ra) (af Γ rb))
 rw[←G.K]
 exact HU (CB op) ha hb
theorem iK(ha:PE X a (af Γ ra)):PE X (.UnaryOp .USub a p) (af Γ (.neg ra)):=HV M0 ha
theorem cU{op:CmpOp}(G:Good CX S Γ X)(ha:PE X a (af Γ ra))(hb:PE X b (af Γ rb))(hm:behindInMarks op b=false:=by kernel_rfl):PE X (.Compare a [op] [b] p) (af Γ (.cmp op ra rb)):=by
 show PE X _ (dt (bY Γ.K op) (af Γ ra) (af Γ rb))
 rw[←G.K]
 exact Iq (nH G.units op) ha hb hm
theorem M9{op cy:CmpOp}(G:Good CX S Γ X)(ha:PE X a (af Γ ra))(hb:PE X b (af Γ rb))(hc:PE X c (af Γ rc))(hm:lastMarks [op,cy] [b,c]=false:=by kernel_rfl):PE X (.Compare a [op,cy] [b,c] p) (af Γ (.iG op cy ra rb rc)):=by
 show PE X _ (nz (bY Γ.K op) (bY Γ.K cy) (af Γ ra) (af Γ rb) (af Γ rc))
 rw[←G.K]
 exact Iu (nH G.units op) (nH G.units cy) ha hb hc hm
theorem js(h:PE X e (af Γ r)):PE X (.BoolOp .And [e] p) (af Γ (.and [r])):=AN h
theorem hG{r2:RE}(h:PE X e (af Γ r))(t:PE X (.BoolOp .And (e2::es) p) (af Γ (.and (r2::rs)))):PE X (.BoolOp .And (e::e2::es) p) (af Γ (.and (r::r2::rs))):=Hu h t
theorem M_(h:PE X e (af Γ r)):PE X (.BoolOp .Or [e] p) (af Γ (.or [r])):=AN h
theorem Na{r2:RE}(h:PE X e (af Γ r))(t:PE X (.BoolOp .Or (e2::es) p) (af Γ (.or (r2::rs)))):PE X (.BoolOp .Or (e::e2::es) p) (af Γ (.or (r::r2::rs))):=Hv h t
theorem Dw(G:Good CX S Γ X)(ha:PE X a (af Γ ra)):PE X (.UnaryOp .Not a p) (af Γ (.not ra)):=by
 show PE X _ (xb Γ.K (af Γ ra))
 rw[←G.K]
 exact M1 ha
theorem ug(hc:PT X c (bf Γ rc))(ha:PE X a (af Γ ra))(hb:PE X b (af Γ rb)):PE X (.IfExp c a b p) (af Γ (.lM rc ra rb)):=Hw hc ha hb
theorem Nb:PE X (.Dict [] [] p) (af Γ .w_):=MC
theorem au:PA X [] (aY Γ []):=lj
theorem ah(h:PE X e (af Γ r))(t:PA X es (aY Γ rs))(hs:noStar e=true:=by kernel_rfl):PA X (e::es) (aY Γ (r::rs)):=gg h t (bZ hs)
theorem bq(G:Good CX S Γ X)(hA:PA X (e::es) (aY Γ (r::rs)))(h:kF S j x=true:=by kernel_rfl)(hn:dv (e::es)=true:=by kernel_rfl)(hq:S.md=0:=by rfl):PE X (.Call (.Name x p) (e::es) [] pos) (af Γ (.call j (r::rs))):=by
 simp only[kF,Bool.and_eq_true,decide_eq_true_eq,Bool.not_eq_true'] at h
 obtain⟨k,f,fd,ps,F,hr,hm,hk,hb⟩:=G.fns hq j x h.1.1
 exact IQ F hr (G.gl h.1.2) hm hk hb .nil G.pass hA h.2 (bZ (bR hn).1) (eR _ _ es (bR hn).2)
theorem cW{t:jW}(G:Good CX S Γ X)(hA:PA X (e::es) (aY Γ (r::rs)))(h:kB S x t.nm=true:=by kernel_rfl)(hn:dv (e::es)=true:=by kernel_rfl)(hq:S.md=0:=by rfl):PE X (.Call (.Name x p) (e::es) [] pos) (af Γ (.blt t (r::rs))):=by
 simp only[kB,Bool.and_eq_true,decide_eq_true_eq] at h
 obtain⟨⟨rfl,h2⟩,h3⟩:=h
 have n1:t.nm≠"__name__":=by cases t<;>decide
 have n2:(t.nm==("__debug__":Str))=false:=by cases t<;>decide
 show PE X _ (eM (jX Γ.K t) (aY Γ (r::rs)))
 rw[←G.K]
 cases MD (X:=X) (G.calm hq) t with
 | fn id hv hc=>exact sT hc (G.gl h2) (G.dC _ h3) hv hA n1 n2 (bZ (bR hn).1) (eR _ _ es (bR hn).2)
 | ty T hv hc=>exact wd hc (G.gl h2) (G.dC _ h3) hv hA n1 n2 (bZ (bR hn).1) (eR _ _ es (bR hn).2)
theorem eB{T:Ty}{y:Str}(G:Good CX S Γ X)(ha:PE X a (af Γ ra))(h:kB S x "isinstance"=true:=by kernel_rfl)(h2:kB S y (Str.ofString T.nm)=true:=by kernel_rfl)(hs:noStar a=true:=by kernel_rfl):PE X (.Call (.Name x p) [a, .Name y q] [] pos) (af Γ (.cT T ra)):=by
 simp only[kB,Bool.and_eq_true,decide_eq_true_eq] at h h2
 obtain⟨⟨rfl,g2⟩,g3⟩:=h
 obtain⟨⟨rfl,k2⟩,k3⟩:=h2
 exact MT ha hs (G.gl g2) (G.dC _ g3) (G.gl k2) (G.dC _ k3)
theorem eT(G:Good CX S Γ X)(ha:PE X a (af Γ ra))(hb:PE X b (af Γ rb))(h:kB S x "isinstance"=true:=by kernel_rfl)(hn:dv [a,b]=true:=by kernel_rfl):PE X (.Call (.Name x p) [a,b] [] pos) (af Γ (.cL ra rb)):=by
 simp only[kB,Bool.and_eq_true,decide_eq_true_eq] at h
 obtain⟨⟨rfl,g2⟩,g3⟩:=h
 show PE X _ (eM (iE Γ.K) (cz (af Γ ra) (cz (af Γ rb) fk)))
 rw[←G.K]
 exact sT Mn (G.gl g2) (G.dC _ g3) Df (gg ha (gg hb lj (bZ (bR (bR hn).2).1)) (bZ (bR hn).1)) (by decide) (by decide) (bZ (bR hn).1) (eR _ _ _ (bR hn).2)
theorem Nc{n:String}(G:Good CX S Γ X)(hv:bootBuiltins (Str.ofString n)=some (.type n))(h1:Str.ofString n≠"__name__")(h2:(Str.ofString n==("__debug__":Str))=false)(h:kB S x (Str.ofString n)=true:=by kernel_rfl):PE X (.Name x p) (af Γ (.c (.ty n))):=by
 simp only[kB,Bool.and_eq_true,decide_eq_true_eq] at h
 obtain⟨⟨rfl,g2⟩,g3⟩:=h
 exact AH (G.gl g2) (G.dC _ g3) hv rfl h1 h2
def kH(S:bI)(j:Nat)(x:Str):Bool:=decide (S.hn[j]?=some x) && j0 S.sc x && !(x==("__debug__":Str))
theorem Nd(G:Good CX S Γ X)(ha:PE X a (af Γ ra))(h:kH S j x=true:=by kernel_rfl)(hs:noStar a=true:=by kernel_rfl):PE X (.Call (.Name x p) [a] [] pos) (af Γ (.tQ j ra)):=by
 simp only[kH,Bool.and_eq_true,decide_eq_true_eq,Bool.not_eq_true'] at h
 obtain⟨k,f,fd,ps,F,hr,hm,hk,hb⟩:=G.jr j x h.1.1
 exact Ms F hr (G.gl h.1.2) hm hk hb G.j5 ha hs h.2
theorem fm{m:gX}{o:Expr}{ro:RE}{ap:Pos}(G:Good CX S Γ X)(ho:PE X o (af Γ ro))(hA:PA X (e::es) (aY Γ (r::rs)))(h:kM o m.nm x (es.length+1) ap pos=true:=by kernel_rfl)(hn:dv (e::es)=true:=by kernel_rfl):PE X (.Call (.Attribute o x ap) (e::es) [] pos) (af Γ (.di m ro (r::rs))):=by
 simp only[kM,Bool.and_eq_true,decide_eq_true_eq] at h
 obtain⟨⟨⟨rfl,h2⟩,h3⟩,h4⟩:=h
 show PE X _ (tW Γ.K m (af Γ ro) (aY Γ (r::rs)))
 rw[←G.K]
 exact M3 ho hA h2 h3 h4 (bZ (bR hn).1) (eR _ _ es (bR hn).2) (nM _ _ (e::es) hn)
theorem Nf(h:xJ b=true):BA b:=fun o i=>by cases b<;>first | rfl | cases h
theorem aW(G:Good CX S Γ X)(ha:PE X a (af Γ ra))(hb:PE X b (af Γ rb))(h:xJ b=true:=by kernel_rfl):PE X (.Subscript a b p) (af Γ (.ix ra rb)):=by
 show PE X _ (dt (jm Γ.K Γ.sd) (af Γ ra) (af Γ rb))
 rw[←G.K]
 exact Ji (MI G.jq) ha hb (Nf h)
theorem Ng{o f:Expr}{ro rf:RE}{ap:Pos}(G:Good CX S Γ X)(ho:PE X o (af Γ ro))(he:PE X e (af Γ r))(hf:PE X f (af Γ rf))(h:kM o "get" x 2 ap pos=true:=by kernel_rfl)(hn:dv [e,f]=true:=by kernel_rfl):PE X (.Call (.Attribute o x ap) [e,f] [] pos) (af Γ (.tR ro r rf)):=by
 simp only[kM,Bool.and_eq_true,decide_eq_true_eq] at h
 obtain⟨⟨⟨rfl,h2⟩,h3⟩,h4⟩:=h
 refine Kc (by have:=G.units;omega) ho he hf ⟨je h2, ?_,h3, ?_⟩
 ·rw[nM _ _ [e,f] hn];rfl
 ·rw[bZ (bR hn).1,bZ (bR (bR hn).2).1];rfl
theorem dX{lo hi:Option Expr}{rl rh:Option RE}(G:Good CX S Γ X)(ha:PE X a (af Γ ra))(hl:PO X lo (jZ Γ rl))(hh:PO X hi (jZ Γ rh)):PE X (.Subscript a (.Slice lo hi none q) p) (af Γ (.sl ra rl rh)):=by
 show PE X _ (wg (lO Γ.K) (af Γ ra) (jZ Γ rl) (jZ Γ rh))
 rw[←G.K]
 exact Je MW ha hl hh
theorem eU:PO X none (jZ Γ none):=Jc
theorem dG(ha:PE X a (af Γ ra)):PO X (some a) (jZ Γ (some ra)):=Jd ha
theorem br{k}(hA:PA X es (aY Γ rs)):PE X (.Tuple es k p) (af Γ (.tup rs)):=II hA
theorem bt(hA:PA X es (aY Γ rs)):PE X (.List es p) (af Γ (.lst rs)):=IJ hA
def ql(CX:bw)(S:bI)(Γ:aL)(cond:Option RE)(ifs:List Expr):Prop:=match cond with
 | none=>ifs=[]
 | some r=> ∃e0,ifs=[e0]∧ ∀X,Good CX S Γ X→PT X e0 (bf Γ r)
theorem hJ:ql CX S Γ none []:=rfl
theorem uh(h: ∀X,Good CX S Γ X→PT X e (bf Γ r)):ql CX S Γ (some r) [e]:=⟨e,rfl,h⟩
def kC(S:bI)(tk:Option Nat)(tg iter:Expr)(sc:Scope)(k:IK)(ln:List Str)(fv:List (Str×Nat)):Bool:=decide (xj tk tg=some ln) && (decide (k≠ .zip) || tk.isSome) && tZ S ⟨.Constant .none 0 ⟨0,0,0,0⟩,tg,iter,[],sc⟩ ln fv
abbrev cS(S:bI)(sc:Scope)(ln:List Str)(fv:List (Str×Nat)):bI:={S with N:=ln++fv.map (·.1),sc:=xi sc S.sc,en:=[],md:=if S.md=0 then 0 else 2}
theorem gp{tk:Option Nat}{fv:List (Str×Nat)}{k:IK}{its:List RE}{cond:Option RE}{elt:RE}{el tg iter:Expr}{ifs:List Expr}{sc:Scope}{ln:List Str}(G:Good CX S Γ X)(h:kC S tk tg iter sc k ln fv=true)(hi:PI X tg iter (eo Γ k its))
  (hc:ql CX (cS S sc ln fv) Γ.calm cond ifs) (he: ∀X,Good CX (cS S sc ln fv) Γ.calm X→PE X el (af Γ.calm elt)) (hq:S.md=0:=by rfl):PE X (.ListComp el [⟨tg,iter,ifs,0⟩] sc p) (af Γ (.comp tk fv k its cond elt)):=by
 simp only[kC,Bool.and_eq_true,decide_eq_true_eq] at h
 obtain⟨⟨h1,h2⟩,h3⟩:=h
 obtain⟨o1,o2,o3,o4⟩:=ud (c:=⟨.Constant .none 0 ⟨0,0,0,0⟩,tg,iter,[],sc⟩) G h3
 show PE X _ (jh Γ.K (eo Γ k its) tk fv (p8 Γ.calm cond) (af Γ.calm elt))
 rw[←G.K]
 refine Cy o1 (G.calm hq) hi (De (c:=⟨.Constant .none 0 ⟨0,0,0,0⟩,tg,iter,[],sc⟩) (G.calm hq) h1 o2 o3) ?_ (fun ex C s H=>he _ (G.inner ⟨.Constant .none 0 ⟨0,0,0,0⟩,tg,iter,[],sc⟩ ln fv ex C s H)) (qi o4)
 cases cond with
 | none=>exact hc
 | some r=>
  obtain⟨e0,q,hq⟩:=hc
  exact⟨e0,q,fun ex C s H=>hq _ (G.inner ⟨.Constant .none 0 ⟨0,0,0,0⟩,tg,iter,[],sc⟩ ln fv ex C s H)⟩
theorem eV(h:PT X a (bf Γ ra)):PT X (.UnaryOp .Not a p) (bf Γ (.not ra)):=Ht h
theorem ui(h:PT X e (bf Γ r)):PW X (.BoolOp .And [e] p) (bf Γ (.and [r])):=pw_and1 h
theorem uj{r2:RE}(h:PT X e (bf Γ r))(t:PW X (.BoolOp .And (e2::es) p) (bf Γ (.and (r2::rs)))):PW X (.BoolOp .And (e::e2::es) p) (bf Γ (.and (r::r2::rs))):=pw_and h t
theorem hU(h:PT X e (bf Γ r)):PW X (.BoolOp .Or [e] p) (bf Γ (.or [r])):=pw_or1 h
theorem fo{r2:RE}(h:PT X e (bf Γ r))(t:PW X (.BoolOp .Or (e2::es) p) (bf Γ (.or (r2::rs)))):PW X (.BoolOp .Or (e::e2::es) p) (bf Γ (.or (r::r2::rs))):=pw_or h t
theorem aN{op:CmpOp}(G:Good CX S Γ X)(ha:PE X a (af Γ ra))(hb:PE X b (af Γ rb))(hm:behindInMarks op b=false:=by kernel_rfl):PT X (.Compare a [op] [b] p) (bf Γ (.cmp op ra rb)):=by
 show PT X _ (jN (dt (bY Γ.K op) (af Γ ra) (af Γ rb)))
 rw[←G.K]
 exact Ir (nH G.units op) ha hb hm
theorem xM{op cy:CmpOp}(G:Good CX S Γ X)(ha:PE X a (af Γ ra))(hb:PE X b (af Γ rb))(hc:PE X c (af Γ rc))(hm:lastMarks [op,cy] [b,c]=false:=by kernel_rfl):PT X (.Compare a [op,cy] [b,c] p) (bf Γ (.iG op cy ra rb rc)):=by
 show PT X _ (jN (nz (bY Γ.K op) (bY Γ.K cy) (af Γ ra) (af Γ rb) (af Γ rc)))
 rw[←G.K]
 exact Iv (nH G.units op) (nH G.units cy) ha hb hc hm
theorem qm(G:Good CX S Γ X)(h:PE X (.Name x p) (af Γ (.v i))):PT X (.Name x p) (bf Γ (.v i)):=by
 show PT X _ (dE Γ.K (af Γ (.v i)))
 rw[←G.K]
 exact nN h fun _=>rfl
theorem uk(G:Good CX S Γ X)(h:PE X (.Call a es [] p) (af Γ (.call j rs))):PT X (.Call a es [] p) (bf Γ (.call j rs)):=by
 show PT X _ (dE Γ.K (af Γ (.call j rs)))
 rw[←G.K]
 exact nN h fun _=>rfl
theorem Dx(G:Good CX S Γ X)(h:PE X (.Call a es [] p) (af Γ (.cL ra rb))):PT X (.Call a es [] p) (bf Γ (.cL ra rb)):=by
 show PT X _ (dE Γ.K (af Γ (.cL ra rb)))
 rw[←G.K]
 exact nN h fun _=>rfl
theorem nP{T:Ty}(G:Good CX S Γ X)(h:PE X (.Call a es [] p) (af Γ (.cT T ra))):PT X (.Call a es [] p) (bf Γ (.cT T ra)):=by
 show PT X _ (dE Γ.K (af Γ (.cT T ra)))
 rw[←G.K]
 exact nN h fun _=>rfl
theorem xO(G:Good CX S Γ X)(h:PE X (.Subscript a b p) (af Γ (.ix ra rb))):PT X (.Subscript a b p) (bf Γ (.ix ra rb)):=by
 show PT X _ (dE Γ.K (af Γ (.ix ra rb)))
 rw[←G.K]
 exact nN h fun _=>rfl
theorem um{tg:Expr}(G:Good CX S Γ X)(ha:PE X a (af Γ ra)):PI X tg a (eo Γ .list [ra]):=by
 show PI X tg a (pA Γ.K (af Γ ra))
 rw[←G.K]
 exact HJ ha
theorem nQ{tg:Expr}(G:Good CX S Γ X)(ha:PE X a (af Γ ra)):PI X tg a (eo Γ .tup [ra]):=by
 show PI X tg a (vW Γ.K (af Γ ra))
 rw[←G.K]
 exact HK ha
theorem Dy{tg:Expr}(G:Good CX S Γ X)(ha:PE X a (af Γ ra))(h:kB S x "range"=true:=by kernel_rfl)(hs:noStar a=true:=by kernel_rfl):PI X tg (.Call (.Name x p) [a] [] pos) (eo Γ .fH [ra]):=by
 simp only[kB,Bool.and_eq_true,decide_eq_true_eq] at h
 obtain⟨⟨rfl,h2⟩,h3⟩:=h
 exact HN (G.gl h2) (G.dC _ h3) (gg ha lj (bZ hs)) (bZ hs)
end
section
variable {CX:bw} {S:bI} {Γ:aL} {X:Cx} {e a b c v:Expr} {es:List Expr} {x:Str} {p q pos:Pos} {r ra rb rc:RE} {i j:Nat} {st:Stmt} {Dz:List Stmt} {s:RS} {ss t u:List RS}
theorem uo{v:Expr}{t:Option Expr}{l:Nat}{env:Env}(h:qk v=true):swapsWith v t l env=pure false:=by
 cases v<;>first | rfl | cases h
theorem Nh{v:Expr}{x:Str}{p:Pos}{l:Nat}{env:Env}(h:env.kindOf x=some .cell):swapsWith v (some (.Name x p)) l env=pure false:=by
 cases v<;>first
  | rfl
  | (unfold swapsWith;simp only[h];have q:(some NameKind.cell==some NameKind.local)=false:=rfl;simp only[q,Bool.and_false,Bool.false_and])
theorem DA{v o i:Expr}{p:Pos}{l:Nat}{env:Env}:swapsWith v (some (.Subscript o i p)) l env=pure false:=by
 cases v<;>rfl
theorem Ni{v o i:Expr}{p:Pos}{env:Env}:swappedStores [.Subscript o i p] v env=pure none:=by
 cases v<;>rfl
theorem de.name(G:de CX S Γ X)(h:kL S i x=true):PG X (.Name x p) (cI i):=by
 simp only[kL,Bool.and_eq_true,decide_eq_true_eq] at h
 exact jK (by rw[G.N];exact G.nd) (by rw[G.N];exact h.1) (by rw[G.sc];exact p9 h.2) (.inl (G.g_ x))
theorem av:dz X [] (aw Γ []):=vU
theorem ao(h:PS X st (aK Γ s))(t:dz X Dz (aw Γ ss)):dz X (st::Dz) (aw Γ (s::ss)):=AR h t
theorem aZ(G:de CX S Γ X)(he:PE X v (af Γ r))(h:kL S i x=true:=by kernel_rfl)(hc:(qk v || decide (S.sc.names.lookup x=some .cell))=true:=by kernel_rfl):PS X (.Assign [.Name x p] v q) (aK Γ (.asg i r)):=by
 simp only[kL,Bool.and_eq_true,decide_eq_true_eq,Bool.or_eq_true] at h hc
 refine A0 (by rw[G.N];exact G.nd) (by rw[G.N];exact h.1) (by rw[G.sc];exact p9 h.2) he ?_ (.inl (G.g_ x))
 rcases hc with h4 | h4
 ·exact uo h4
 ·exact Nh (by show X.env.scope.names.lookup x=_;rw[G.sc];exact h4)
theorem Nj{tk:Option Nat}{fv:List (Str×Nat)}{k:IK}{its:List RE}{cond:Option RE}{elt:RE}{el tg iter:Expr}{ifs:List Expr}{sc:Scope}{ln:List Str}{pc:Pos}(G:de CX S Γ X)(h0:kL S i x=true)(hs:uf S.sc x p.line sc pc=true)(h:kC S tk tg iter sc k ln fv=true)(hi:PI X tg iter (eo Γ k its))
  (hc:ql CX (cS S sc ln fv) Γ.calm cond ifs) (he: ∀X,Good CX (cS S sc ln fv) Γ.calm X→PE X el (af Γ.calm elt)) (hq:S.md=0:=by rfl):PS X (.Assign [.Name x p] (.ListComp el [⟨tg,iter,ifs,0⟩] sc pc) q) (aK Γ (.lN i (.comp tk fv k its cond elt))):=by
 simp only[kC,kL,uf,Bool.and_eq_true,decide_eq_true_eq,beq_iff_eq,Bool.not_eq_true'] at h h0 hs
 obtain⟨⟨h1,h2⟩,h3⟩:=h
 obtain⟨o1,o2,o3,o4⟩:=ud (c:=⟨.Constant .none 0 ⟨0,0,0,0⟩,tg,iter,[],sc⟩) G.toGood h3
 show PS X _ (fJ (jh Γ.K (eo Γ k its) tk fv (p8 Γ.calm cond) (af Γ.calm elt)) (cI i))
 rw[←G.K]
 refine KH (by rw[G.N];exact G.nd) (by rw[G.N];exact h0.1) (by rw[G.sc];exact p9 h0.2) ?_ o1 (G.calm hq) hi (De (c:=⟨.Constant .none 0 ⟨0,0,0,0⟩,tg,iter,[],sc⟩) (G.calm hq) h1 o2 o3) ?_ (fun ex C s H=>he _ (G.toGood.inner ⟨.Constant .none 0 ⟨0,0,0,0⟩,tg,iter,[],sc⟩ ln fv ex C s H)) (qi o4) (.inl (G.g_ x))
 ·have e1:X.env.kindOf x=some .local:=by show X.env.scope.names.lookup x=_;rw[G.sc];exact hs.1.1.2
  have e2:X.env.blockKind= .function:=by unfold Env.blockKind;rw[G.j6];rfl
  unfold swapsWith
  simp only[e1,e2,hs.1.2,hs.2]
  show pure (true && true && (pc.line==pc.line) && !false)=pure true
  rw[beq_self_eq_true];rfl
 ·cases cond with
  | none=>exact hc
  | some r=>
   obtain⟨e0,q,hq⟩:=hc
   exact⟨e0,q,fun ex C s H=>hq _ (G.toGood.inner ⟨.Constant .none 0 ⟨0,0,0,0⟩,tg,iter,[],sc⟩ ln fv ex C s H)⟩
theorem Nk{fv:List (Str×Nat)}{cond:Option RE}{elt:RE}{el iter:Expr}{ifs:List Expr}{sc:Scope}{n1 n2:Str}{p1 p2 tp:Pos}{kt}{pc:Pos}(G:de CX S Γ X)(h0:kL S i x=true)(hs:uf S.sc x p.line sc pc=true)(h:kC S (some 2) (.Tuple [.Name n1 p1, .Name n2 p2] kt tp) iter sc .list [n1,n2] fv=true)(hi:PE X iter (af Γ ra))
  (hc:ql CX (cS S sc [n1,n2] fv) Γ.calm cond ifs) (he: ∀X,Good CX (cS S sc [n1,n2] fv) Γ.calm X→PE X el (af Γ.calm elt)) (hq:S.md=1:=by rfl):PS X (.Assign [.Name x p] (.ListComp el [⟨.Tuple [.Name n1 p1, .Name n2 p2] kt tp,iter,ifs,0⟩] sc pc) q) (aK Γ (.lN i (.comp (some 2) fv .list [ra] cond elt))):=by
 simp only[kC,kL,uf,Bool.and_eq_true,decide_eq_true_eq,beq_iff_eq,Bool.not_eq_true'] at h h0 hs
 obtain⟨⟨h1,h2⟩,h3⟩:=h
 obtain⟨o1,o2,o3,o4⟩:=ud (c:=⟨.Constant .none 0 ⟨0,0,0,0⟩, .Tuple [.Name n1 p1, .Name n2 p2] kt tp,iter,[],sc⟩) G.toGood h3
 show PS X _ (fJ (jh Γ.K (pA Γ.K (af Γ ra)) (some 2) fv (p8 Γ.calm cond) (af Γ.calm elt)) (cI i))
 rw[←G.K]
 have hH:Hd X:=G.lV hq
 refine Cw (Φ:=Hd) (Ψ:=eP X.A) (by rw[G.N];exact G.nd) (by rw[G.N];exact h0.1) (by rw[G.sc];exact p9 h0.2) ?_ o1 Mm (fun _ _ _ _ I=>hH.at I) (Mi hi) (Ml (o2 n1 (by simp)) (o2 n2 (by simp)) o3) ?_ (fun ex C s H=>he _ (G.toGood.inner ⟨.Constant .none 0 ⟨0,0,0,0⟩, .Tuple [.Name n1 p1, .Name n2 p2] kt tp,iter,[],sc⟩ [n1,n2] fv ex C s H)) (qi o4) (.inl (G.g_ x))
 ·have e1:X.env.kindOf x=some .local:=by show X.env.scope.names.lookup x=_;rw[G.sc];exact hs.1.1.2
  have e2:X.env.blockKind= .function:=by unfold Env.blockKind;rw[G.j6];rfl
  unfold swapsWith
  simp only[e1,e2,hs.1.2,hs.2]
  show pure (true && true && (pc.line==pc.line) && !false)=pure true
  rw[beq_self_eq_true];rfl
 ·cases cond with
  | none=>exact hc
  | some r=>
   obtain⟨e0,q,hq⟩:=hc
   exact⟨e0,q,fun ex C s H=>hq _ (G.toGood.inner ⟨.Constant .none 0 ⟨0,0,0,0⟩, .Tuple [.Name n1 p1, .Name n2 p2] kt tp,iter,[],sc⟩ [n1,n2] fv ex C s H)⟩
theorem qo(he:PE X v (af Γ r))(ha:PE X a (af Γ ra))(hb:PE X b (af Γ rb))(h:xJ b=true:=by kernel_rfl):PS X (.Assign [.Subscript a b p] v q) (aK Γ (.set ra rb r)):=
 AZ he (HF ha hb set_list (by intro w;cases b<;>first | rfl | cases h)) (by exact DA (o:=a) (i:=b) (p:=p) (l:=q.line) (env:=X.env)) Ni rfl
theorem DB(G:de CX S Γ X)(he:PE X v (af Γ r))(ha:PE X a (af Γ ra))(hb:PE X b (af Γ rb)):PS X (.Assign [.Subscript a b p] v q) (aK Γ (.dput ra rb r)):=
 J7 (by have:=G.toGood.units;omega) ha hb he (by exact DA (o:=a) (i:=b) (p:=p) (l:=q.line) (env:=X.env))
theorem nR(he:PE X v (af Γ r))(h:qk v=true:=by kernel_rfl):PS X (.Expr v p) (aK Γ (.drop r)):=HA he (uo h)
theorem aH(he:PE X v (af Γ r)):PS X (.Return (some v) p) (aK Γ (.ret r)):=HB he
theorem aO{as bs:List Stmt}(hc:PT X c (bf Γ rc))(ha:dz X as (aw Γ t))(hb:dz X bs (aw Γ u)):PS X (.If c as bs p) (aK Γ (.ite rc t u)):=HD hc ha hb
theorem qp{k:IK}{its:List RE}{iter:Expr}{as:List Stmt}(G:de CX S Γ X)(hi:PI X (.Name x p) iter (eo Γ k its))(ha:dz X as (aw Γ t))(h:kL S i x=true:=by kernel_rfl)(hs:tY iter=true:=by kernel_rfl)(hq:S.md=0:=by rfl):PS X (.For (.Name x p) iter as [] q) (aK Γ (.iH i k its t)):=
 HQ G.own (G.calm hq) hi (G.name h) ha (qi hs)
theorem DC(G:de CX S Γ X): ∀(is:List Nat) (xs:List (Str×Pos)),nO S.N S.sc is (xs.map (·.1))=true→
  kW X (xs.map fun y=> .Name y.1 y.2) (lX is)∧(assignEach (xs.map fun y=>Expr.Name y.1 y.2) X.env).length=is.length∧(assignEach (xs.map fun y=>Expr.Name y.1 y.2) X.env).findIdx? (·.1)=none
 | [],xs,h=>by
  simp only[nO,List.isEmpty_iff,List.map_eq_nil_iff] at h
  subst h;exact⟨sH,rfl,rfl⟩
 | i::r,[],h=>by simp only[List.map_nil,nO] at h;cases h
 | i::r,y::t,h=>by
  simp only[List.map_cons,nO,Bool.and_eq_true] at h
  obtain⟨i1,i2,i3⟩:=DC G r t h.2
  refine⟨kY (G.name (by simp only[kL,Bool.and_eq_true];exact h.1)) i1 rfl, ?_, ?_⟩
  ·show(assignEach _ X.env).length+1=r.length+1
   rw[i2]
  ·show List.findIdx? (·.1) ((false,assign (.Name y.1 y.2) X.env)::assignEach _ X.env)=none
   rw[List.findIdx?_cons,i3];rfl
def Nl:Expr→Bool
 | .Tuple ..=>false | _=>true
theorem Nm{is:List Nat}{kt}{tp:Pos}(xs:List (Str×Pos))(G:de CX S Γ X)(he:PE X v (af Γ r))(h:nO S.N S.sc is (xs.map (·.1))=true:=by kernel_rfl)(hc:(qk v && Nl v)=true:=by kernel_rfl)(hq:S.md=0:=by rfl):
  PS X (.Assign [.Tuple (xs.map fun y=> .Name y.1 y.2) kt tp] v q) (aK Γ (.tU is r)):=by
 simp only[Bool.and_eq_true] at hc
 obtain⟨i1,i2,i3⟩:=DC G is xs h
 show PS X _ (fJ (af Γ r) (lW Γ.K is.length (lX is)))
 rw[←G.K]
 refine AZ he (Dv (G.calm hq) i1 i2 i3) (by show swapsWith v (some (.Tuple (xs.map fun y=>Expr.Name y.1 y.2) kt tp)) q.line X.env=pure false;exact uo hc.1) ?_ rfl
 have h2:=hc.2
 cases v<;>first | rfl | cases h2
def kX(S:bI)(j:Nat)(x:Str):Bool:=decide (S.en[j]?=some x) && j0 S.sc x && !(x==("__debug__":Str))
theorem xQ{rs:List RE}{np cK:Pos}(G:de CX S Γ X)(hA:PA X (e::es) (aY Γ (r::rs)))(h:kX S j x=true:=by kernel_rfl)(hn:dv (e::es)=true:=by kernel_rfl)(hq:S.md=0:=by rfl):PS X (.Raise (some (.Call (.Name x np) (e::es) [] cK)) none pos) (aK Γ (.pY j (r::rs))):=by
 simp only[kX,Bool.and_eq_true,decide_eq_true_eq,Bool.not_eq_true'] at h
 obtain⟨bm,B,newId,nI,O,FB⟩:=G.nK j x h.1.1
 exact Me (G.calm hq) O FB (G.gl h.1.2) h.2 hA (bZ (bR hn).1) (eR _ _ es (bR hn).2) (G.rs j x h.1.1)
abbrev tS(S:bI):bI:={S with en:=[]}
abbrev hS(S:bI):bI:={S with en:=[],md:=2}
theorem de.Nn(G:de CX S Γ X)(pn:List (Addr×Obj))(xe:Value→Shared→Prop)(E:XK)(ho:PassesOwn (model X.prog X.w) X.A X.env xe)(hp:Passes (dF X.prog X.w) (X.alt X.A X.calm pn xe) E):
  de CX (tS S) {Γ with E:=E} (X.alt X.A X.calm pn xe):=
 {N:=G.N,sc:=G.sc,K:=G.K,calm:=G.calm,units:=G.units,fns:=G.fns,iI:=G.iI,dC:=G.dC,pass:=by rw[G.j7];exact hp,iJ:=G.iJ,jq:=G.jq,lT:=G.lT,lU:=G.lU,
  nK:=fun _ _ h=> (by simp at h),jr:=G.jr,j5:=G.j5,lV:=G.lV,nd:=G.nd,g_:=G.g_,own:=ho,j6:=G.j6,rs:=fun _ _ h=> (by simp at h),gc:=G.gc,eA:=G.eA,lY:=G.lY,j7:=G.j7}
theorem de.held(G:de CX S Γ X)(ea:Addr)(pn:List (Addr×Obj)):
  de CX (hS S) {Γ with E:=E0,hv:=some ea} (X.alt (X.A.mark (some (.ref ea))) false pn fun _ _=>False):=
 {N:=G.N,sc:=G.sc,K:=G.K,calm:=fun h=> (nomatch h),units:=G.units,fns:=fun h=> (nomatch h),iI:=G.iI,dC:=G.dC,pass:=fun _ _ _ _ _ _ _ h=> (G.iJ _ _ _ _ _ h).elim,iJ:=G.iJ,jq:=G.jq,lT:=fun h=> (nomatch h),lU:=fun h=> (nomatch h),
  nK:=fun _ _ h=> (by simp at h),jr:=fun j x h=> (by
   obtain⟨k,f,fd,ps,F,r,m⟩:=G.jr j x h
   exact⟨k,f,fd,ps,F,r.mark _,m⟩),
  j5:=fun e h=> (by cases h;rfl),lV:=fun h=> (nomatch h),nd:=G.nd,g_:=G.g_,own:=PassesOwn.never,j6:=G.j6,rs:=fun _ _ h=> (by simp at h),gc:=G.gc,eA:=G.eA,lY:=G.lY,j7:=G.j7}
end
section
variable {P:Program} {w:World} {K:Frag} {mg:Str→Option Value} {base:Heap}
def bV(P:Program)(w:World)(K:Frag)(mg:Str→Option Value)(base:Heap)(k:Nat)(x:Str)(sp:Sp):Prop:=
 ∃f fd ps,da P w K mg base (dF P w) k f fd ps sp∧mg x=some (.ref f)∧keepIn K (.ref f)=true∧Binds K fd ps []
theorem bV.mono{j k:Nat}{x:Str}{sp:Sp}(h:bV P w K mg base j x sp)(hk:j≤k):bV P w K mg base k x sp:=by
 obtain⟨f,fd,ps,F,r⟩:=h
 exact⟨f,fd,ps,F.mono hk,r⟩
def j8(tab:List (Str×Sp))(j:Nat):Sp:=match tab[j]? with
 | some p=>p.2
 | none=>fun _ _ _ _=>False
def lZ(tab:List (Str×V))(j:Nat):V:=match tab[j]? with
 | some p=>p.2
 | none=> .aB
structure cX (mg:Str→Option Value) (p:Str×V):Prop where
 ex: ∃u,mg p.1=some u∧RelV p.2 u
def iL(tab:List (Str×Addr×Sp))(j:Nat):Addr×Sp:=match tab[j]? with
 | some p=>p.2
 | none=> (0,fun _ _ _ _=>False)
def uq(tab:List (Str×Addr))(j:Nat):Addr:=match tab[j]? with
 | some p=>p.2
 | none=>0
abbrev aU(K:Frag)(tab:List (Str×Sp))(gt:List (Str×V))(dk:List (Addr×List (Key×V)):=[])(mt kt:List (Str×Addr×Sp):=[])(et:List (Str×Addr):=[])(ht:List (Str×Sp):=[])(E:XK:=E0):aL:=
 {K:=K,fs:=j8 tab,gv:=lZ gt,E:=E,sd:=fun p ar=> (p,ar)∈dk,ms:=iL mt,kt:=iL kt,ex:=uq et,hs:=j8 ht,hv:=none}
def Np(P:Program)(w:World)(K:Frag)(mg:Str→Option Value)(base:Heap)(k:Nat)(p:Str×Addr×Sp):Prop:=
 lh K p.2.1∧ ∃f fd ps,Meth K p.2.1 p.1 f∧da P w K mg base (dF P w) k f fd ps p.2.2∧Binds K fd ps []
def Nq(P:Program)(w:World)(K:Frag)(mg:Str→Option Value)(base:Heap)(k:Nat)(p:Str×Addr×Sp):Prop:=
 ∃j f fd ps,j+1≤k∧Mk K p.2.1 f∧da P w K mg base (dF P w) j f fd ps p.2.2∧mg p.1=some (.ref p.2.1)∧Binds K fd ps []
def Nr(P:Program)(w:World)(K:Frag)(q:Addr×List (Key×V)):Prop:= ∀h:Heap,K.In h→ ∃vs,KV q.2 vs∧h.DictOf (cY P w) q.1 vs
abbrev ur(N:List Str)(sc:Scope)(tab:List Str)(gt:List Str)(bl:List Str)(mn kn:List Str:=[])(en hn:List Str:=[])(md:Nat:=0):bI:={N:=N,sc:=sc,fn:=tab,gn:=gt,bl:=bl,mn:=mn,kn:=kn,en:=en,hn:=hn,md:=md}
def uu(mg:Str→Option Value)(base:Heap)(p:Str×Addr):Prop:= ∃bm B newId nI,OwnCls p.1 p.2 bm newId mg base∧ExcBaseFacts B newId nI bm
def nS(P:Program)(w:World)(K:Frag)(mg:Str→Option Value)(base:Heap)(k:Nat)(x:Str)(sp:Sp):Prop:=
 ∃f fd ps,lS P w K mg base k f fd ps sp∧mg x=some (.ref f)∧keepIn K (.ref f)=true∧Binds K fd ps []
theorem nS.mono{P:Program}{w:World}{K:Frag}{mg:Str→Option Value}{base:Heap}{j k:Nat}{x:Str}{sp:Sp}(h:nS P w K mg base j x sp)(hk:j≤k):nS P w K mg base k x sp:=by
 obtain⟨f,fd,ps,F,r⟩:=h
 exact⟨f,fd,ps,F.mono hk,r⟩
theorem ck{x qual:Str}{st:Stmt}{f:Addr}{fd:FuncData}{N ps:List Str}{k:Nat}{sp:Sp}(F:jS K x qual st f fd)(S:bL N ps (aM st))
  (tab:List (Str×Sp)) (gt:List (Str×V)) (bl:List Str) (mt kt:List (Str×Addr×Sp)) (et:List (Str×Addr)) (ht:List (Str×Sp)) (body:List RS)
  (hm: ∀{CX:bw} {Γ:aL} {X:Cx},de CX (ur N (aM st) (tab.map (·.1)) (gt.map (·.1)) bl (mt.map (·.1)) (kt.map (·.1)) (et.map (·.1)) (ht.map (·.1))) Γ X→dz X (bh st) (aw Γ body))
  (Nt: ∀p∈tab,bV P w K mg base k p.1 p.2) (xR: ∀p∈gt,cX mg p) (xS: ∀y∈bl,mg y=none) (dk:List (Addr×List (Key×V))) (Nu: ∀q∈dk,Nr P w K q)
  (Nv: ∀p∈mt,Np P w K mg base k p) (Nw: ∀p∈kt,Nq P w K mg base k p) (het: ∀p∈et,uu mg base p) (Nx: ∀p∈ht,nS P w K mg base k p.1 p.2)
  (len: ∀vs H Q E,sp vs H Q E→vs.length=ps.length)
  (xT: ∀vs H Q E,sp vs H Q E→aw (aU K tab gt dk mt kt et ht E) body {nx:=fun _ H'=>Q .aB H',rt:=Q} (start N vs) H):da P w K mg base (dF P w) (k+1) f fd ps sp:=by
 obtain⟨oc,od,kV,doc,pm,an,bE,ct,gP,rfl,lk,fI⟩:=F.ex
 refine IT lk fI S len fun A outer s H vs Q E hr fL=> ⟨_,hm (CX:=dF P w) (Γ:=aU K tab gt dk mt kt et ht E) ?_,xT vs H Q E fL⟩
 refine {N:=rfl,sc:=rfl,K:=rfl,calm:=fun _=>rfl,units:=hr.units,fns:=fun _ j y hj=> ?_,iI:=fun j y hj=> ?_,dC:=fun y hy=> ?_,pass:=Mc,iJ:=fun _ _ _ _ _ h=>qe h,jq:=fun p ar h=>Nu _ h,lT:=fun _ j y hj=> ?_,lU:=fun _ j y hj=> ?_,nK:=fun j y hj=> ?_,jr:=fun j y hj=> ?_,j5:=fun _ h=> (nomatch h),lV:=fun h=> (nomatch h),nd:=S.nd,g_:=fun _=>rfl,own:=PassesOwn.leaving,j6:=S.kind,rs:=fun _ _ _=>Md,gc:=rfl,eA:=rfl,lY:=rfl,j7:=rfl}
 ·have bJ:(tab.map (·.1))[j]?=some y:=hj
  rw[List.getElem?_map] at bJ
  cases q:tab[j]? with
  | none=>rw[q] at bJ;cases bJ
  | some p=>
   rw[q] at bJ
   have e:p.1=y:=Option.some.inj bJ
   obtain⟨f',l_,ma,F',m',k',b'⟩:=Nt p (List.mem_of_getElem? q)
   have es:j8 tab j=p.2:=by unfold j8;rw[q]
   show C7 (dF P w) _ y (j8 tab j)
   rw[es,←e]
   exact⟨k,f',l_,ma,F',hr,m',k',b'⟩
 ·have bJ:(gt.map (·.1))[j]?=some y:=hj
  rw[List.getElem?_map] at bJ
  cases q:gt[j]? with
  | none=>rw[q] at bJ;cases bJ
  | some p=>
   rw[q] at bJ
   have e:p.1=y:=Option.some.inj bJ
   obtain⟨u,h1,h2⟩:=(xR p (List.mem_of_getElem? q)).ex
   have es:lZ gt j=p.2:=by unfold lZ;rw[q]
   show ∃u,mg y=some u∧RelV (lZ gt j) u
   rw[es,←e]
   exact⟨u,h1,h2⟩
 ·exact xS y (by simpa using hy)
 ·have bJ:(mt.map (·.1))[j]?=some y:=hj
  rw[List.getElem?_map] at bJ
  cases q:mt[j]? with
  | none=>rw[q] at bJ;cases bJ
  | some p=>
   rw[q] at bJ
   have e:p.1=y:=Option.some.inj bJ
   obtain⟨c,f',l_,ma,m',F',b'⟩:=Nv p (List.mem_of_getElem? q)
   have es:iL mt j=p.2:=by unfold iL;rw[q]
   show C8 (dF P w) _ (iL mt j).1 y (iL mt j).2
   rw[es,←e]
   exact⟨c,k,f',l_,ma,m',F',hr,b'⟩
 ·have bJ:(kt.map (·.1))[j]?=some y:=hj
  rw[List.getElem?_map] at bJ
  cases q:kt[j]? with
  | none=>rw[q] at bJ;cases bJ
  | some p=>
   rw[q] at bJ
   have e:p.1=y:=Option.some.inj bJ
   obtain⟨i,f',l_,ma,hi,m',F',g',b'⟩:=Nw p (List.mem_of_getElem? q)
   have es:iL kt j=p.2:=by unfold iL;rw[q]
   show C9 (dF P w) _ y (iL kt j).1 (iL kt j).2
   rw[es,←e]
   exact⟨i,f',l_,ma,m',F',hr.mono hi,g',b'⟩
 ·have bJ:(et.map (·.1))[j]?=some y:=hj
  rw[List.getElem?_map] at bJ
  cases q:et[j]? with
  | none=>rw[q] at bJ;cases bJ
  | some p=>
   rw[q] at bJ
   have e:p.1=y:=Option.some.inj bJ
   have es:uq et j=p.2:=by unfold uq;rw[q]
   show Dc _ y (uq et j)
   rw[es,←e]
   exact het p (List.mem_of_getElem? q)
 ·have bJ:(ht.map (·.1))[j]?=some y:=hj
  rw[List.getElem?_map] at bJ
  cases q:ht[j]? with
  | none=>rw[q] at bJ;cases bJ
  | some p=>
   rw[q] at bJ
   have e:p.1=y:=Option.some.inj bJ
   obtain⟨f',l_,ma,F',m',k',b'⟩:=Nx p (List.mem_of_getElem? q)
   have es:j8 ht j=p.2:=by unfold j8;rw[q]
   show C_ _ y (j8 ht j)
   rw[es,←e]
   exact⟨k,f',l_,ma,F',hr.h,m',k',b'⟩
section
variable {x qual:Str} {st:Stmt} {f C:Addr} {fd:FuncData} {N ps:List Str} {k:Nat} {sp:Sp}
end
end
section
variable {P:Program} {w:World} {K:Frag} {mg:Str→Option Value} {base:Heap} {x qual:Str} {st:Stmt} {f:Addr} {fd:FuncData} {N ps:List Str} {k:Nat} {sp:Sp}
theorem Ny(F:jS K x qual st f fd)(S:bL N ps (aM st))(jd:mg x=some (.ref f))(hb:Binds K fd ps [])
  (gt:List (Str×V)) (bl:List Str) (body:List RS)
  (hm: ∀{CX:bw} {Γ:aL} {X:Cx},de CX (ur N (aM st) [] (gt.map (·.1)) bl (md:=1)) Γ X→dz X (bh st) (aw Γ body))
  (xR: ∀p∈gt,cX mg p) (xS: ∀y∈bl,mg y=none) (len: ∀vs H Q E,sp vs H Q E→vs.length=ps.length)
  (xT: ∀vs H Q,sp vs H Q E0→aw (aU K [] gt) body {nx:=fun _ H'=>Q .aB H',rt:=Q} (start N vs) H):nS P w K mg base (k+1) x sp:=by
 obtain⟨oc,od,kV,doc,pm,an,bE,ct,gP,rfl,lk,fI⟩:=F.ex
 refine⟨f,_,ps,Mp (CX:=dF P w) lk fI S len fun A outer s H vs Q hr hh fL=> ⟨_,hm (CX:=dF P w) (Γ:=aU K [] gt) ?_,xT vs H Q fL⟩,jd,F.kp,hb⟩
 refine {N:=rfl,sc:=rfl,K:=rfl,calm:=fun h=> (nomatch h),units:=hr.units,fns:=fun h=> (nomatch h),iI:=fun j y hj=> ?_,dC:=fun y hy=> ?_,pass:=fun _ _ _ _ _ _ _ h=> (qe h).elim,iJ:=fun _ _ _ _ _ h=>qe h,jq:=fun p ar h=> (nomatch h),lT:=fun h=> (nomatch h),lU:=fun h=> (nomatch h),nK:=fun j y hj=> (nomatch hj),jr:=fun j y hj=> (nomatch hj),j5:=fun _ h=> (nomatch h),lV:=fun _=>Mr hh,nd:=S.nd,g_:=fun _=>rfl,own:=PassesOwn.never,j6:=S.kind,rs:=fun _ _ hj=> (nomatch hj),gc:=rfl,eA:=rfl,lY:=rfl,j7:=rfl}
 ·have bJ:(gt.map (·.1))[j]?=some y:=hj
  rw[List.getElem?_map] at bJ
  cases q:gt[j]? with
  | none=>rw[q] at bJ;cases bJ
  | some p=>
   rw[q] at bJ
   have e:p.1=y:=Option.some.inj bJ
   obtain⟨u,h1,h2⟩:=(xR p (List.mem_of_getElem? q)).ex
   have es:lZ gt j=p.2:=by unfold lZ;rw[q]
   show ∃u,mg y=some u∧RelV (lZ gt j) u
   rw[es,←e]
   exact⟨u,h1,h2⟩
 ·exact xS y (by simpa using hy)
theorem da.top{k:Nat}(F:da P w K mg base (dF P w) k f fd ps sp):da P w K mg base tu k f fd ps (fun vs H Q _=>sp vs H Q E0):=
 ⟨fun vs H Q E h=>F.len vs H Q E0 h,fun A outer s H args us vs Q E hr e0 hb hv hs=>codeAny_mono (F.run A outer s H args us vs Q E0 hr e0 hb hv hs) fun r s' h=>by
  cases r with
  | error e=>exact(qe h).elim
  | ok fl=>cases fl<;>exact h⟩
end
section
variable {Γ:aL} {D:Ends} {σ:St} {H:Hp} {r:List RS} {Q:VK}
theorem Nz{i:Nat}{e:RE}(h:af Γ e σ H fun x H1=>aw Γ r D (σ.set i (some x)) H1):aw Γ (.asg i e::r) D σ H:=h
theorem NA{i:Nat}{e:RE}(h:af Γ e σ H fun x H1=>aw Γ r D (σ.set i (some x)) H1):aw Γ (.lN i e::r) D σ H:=h
theorem NB{c:RE}{t e:List RS}(h:bf Γ c σ H fun b H1=>if b=true then aw Γ t {D with nx:=aw Γ r D} σ H1 else aw Γ e {D with nx:=aw Γ r D} σ H1):aw Γ (.ite c t e::r) D σ H:=h
end
end L2
namespace L2.B
open PySem PySem.Spec PyProof.Rows
def cE:List Str:=["thing"]
noncomputable def xU:List RS:=
 [.ret (.and [(.cT .int (.v 0)),(.not (.cT .bool (.v 0)))])]
def aa:List Str:=[]
def DD:List Str:=["isinstance","int","bool"]
def nT:List Str:=["thing","words"]
noncomputable def uv:List RS:=
 [.ret (.and [(.cT .str (.v 0)),(.cmp .In (.v 0) (.v 1))])]
def nU:List Str:=["isinstance","str"]
noncomputable def uw:List RS:=
 [.ret (.and [(.cT .str (.v 0)),(.cmp .Eq (.di .lstrip (.v 0) [(.g 0)]) (.c (.str "")))])]
def NC:List Str:=["SIGNS"]
def qr:List Str:=["_law_script","_law_k"]
noncomputable def xV:List RS:=
 [.ite (.cmp .Lt (.v 1) (.blt .len [(.v 0)])) [.ret (.ix (.v 0) (.v 1))] [],
 .ret (.c (.int 0))]
def eY:List Str:=["len"]
def xW:List Str:=["_law_cell","_law_k","_law_number"]
def DE:List Str:=["_law_cell","_law_k"]
noncomputable def xX:List RS:=
 [.asg 2 (.bin .Mod (.bin .Add (.bin .Add (.bin .Mult (.v 0) (.c (.int 48271))) (.bin .Mult (.c (.int 7919)) (.v 1))) (.c (.int 11))) (.c (.int 1000003))),
 .ret (.bin .Mod (.bin .Mult (.bin .Mod (.bin .Mult (.v 2) (.v 2)) (.c (.int 1000003))) (.v 2)) (.c (.int 1000003)))]
def gr:List Str:=["_law_e","_law_some","_law_found_here"]
def DF:List Str:=["_law_e"]
noncomputable def dw:List RS:=
 [.asg 1 (.lst [(.tup [(.c (.str "text")),(.cL (.v 0) (.g 0))]),(.tup [(.c (.str "change")),(.cL (.v 0) (.g 1))]),(.tup [(.c (.str "fit")),(.cL (.v 0) (.g 2))])]),
 .asg 1 (.bin .Add (.v 1) (.lst [(.tup [(.c (.str "place")),(.cL (.v 0) (.g 3))]),(.tup [(.c (.str "side")),(.cL (.v 0) (.g 4))]),(.tup [(.c (.str "mark")),(.cL (.v 0) (.g 5))])])),
 .asg 1 (.bin .Add (.v 1) (.lst [(.tup [(.c (.str "node")),(.cL (.v 0) (.g 6))]),(.tup [(.c (.str "cursor")),(.cL (.v 0) (.g 7))])])),
 .asg 1 (.bin .Add (.v 1) (.lst [(.tup [(.c (.str "deed")),(.cL (.v 0) (.g 8))]),(.tup [(.c (.str "letter")),(.cL (.v 0) (.g 9))])])),
 .asg 1 (.bin .Add (.v 1) (.lst [(.tup [(.c (.str "gone")),(.cL (.v 0) (.g 10))]),(.tup [(.c (.str "hand")),(.cL (.v 0) (.g 11))]),(.tup [(.c (.str "note")),(.cL (.v 0) (.g 12))])])),
 .lN 2 (.comp (some 2) [] .list [(.v 1)] (some (.v 1)) (.v 0)),
 .ite (.or [(.not (.cL (.v 0) (.g 13))),(.not (.cL (.v 0) (.c (.ty "ValueError"))))]) [.drop (.di .append (.v 2) [(.c (.str "bare"))])] [],
 .ret (.di .join (.c (.str "/")) [(.v 2)])]
def jt:List Str:=["BadText","BadChange","BadFit","NoPlace","BadSide","NoMark","NoNode","NoCursor","BadDeed","BadLetter","NoLetter","NoHand","NoNote","InkError"]
def iM:List Str:=["isinstance","ValueError"]
def qu:List Str:=["thing","least","most"]
noncomputable def xY:List RS:=
 [.ret (.and [(.call 0 [(.v 0)]),(.iG .LtE .LtE (.v 1) (.v 0) (.v 2))])]
def ND:List Str:=["is_whole"]
theorem sameNew{H:Hp}{p:Addr}{o:HO}(h:H p=none):ay H (upd H p o):=fun b u e=>by rw[bc (cO e h)];exact e
def me(c:Addr)(H H':Hp):Prop:= ∀b o,H b=some o→b≠c→H' b=some o
theorem me.upd{H:Hp}{c:Addr}{o:HO}:me c H (upd H c o):=fun b u e n=>by rw[bc n];exact e
theorem ux{c:Addr}{H H1 H2:Hp}(a:ay H H1)(hc:H c=none)(b:me c H1 H2):ay H H2:=fun d o e=>b d o (a d o e) (cO e hc)
theorem iF{c:Bool}{A B:Prop}(q:B)(h:c=false:=by first | rfl | decide):if c=true then A else B:=by
 rw[h];exact nC q
theorem iT{c:Bool}{A B:Prop}(q:A)(h:c=true:=by first | rfl | decide):if c=true then A else B:=by
 rw[h];exact jf q
theorem cw{n:Nat}(h:n≤1000000):n≤sizeLine:=Nat.le_trans h (by decide)
theorem hV{n:Nat}(h:n≤1000000):n<sizeLine:=Nat.lt_of_le_of_lt h (by decide)
def cell(ns:List Int)(k:Nat):Int:=ns.getD k 0
def j9(K:Frag):Sp:=fun vs H Q E=> ∃(a:Addr) (ns:List Int) (k:Int),vs=[.ref a, .int k]∧aC K H a (ns.map V.int)∧0≤k∧Q (.int (cell ns k.toNat)) H
theorem NF{K:Frag}(vs:List V)(H:Hp)(Q:VK)(E:XK)(h:j9 K vs H Q E):aw (aU K [] [] (E:=E)) xV {nx:=fun _ H'=>Q .aB H',rt:=Q} (start qr vs) H:=by
 obtain⟨a,ns,k,rfl,ha,hk,q⟩:=h
 refine⟨_,rfl,_,rfl, .inl ⟨_,ha,trivial,_,rfl, ?_⟩⟩
 rw[List.length_map]
 refine wB (fun h=> ?_) (fun h=> ?_)
 ·have aQ:k< (ns.length:Int):=of_decide_eq_true h
  refine⟨_,rfl,_,rfl, .inl ⟨_,_,_,_,rfl,rfl,ha, ?_,q⟩⟩
  have e:=lq (xs:=ns.map V.int) (j:=k.toNat) (v:= .int (cell ns k.toNat)) (by
   have:k.toNat<ns.length:=by omega
   simp[cell,this])
  rw[show((k.toNat:Nat):Int)=k by omega] at e
  exact e
 ·have hge: ¬k< (ns.length:Int):=fun z=>h (decide_eq_true z)
  have e:cell ns k.toNat=0:=by
   have z:ns[k.toNat]?=none:=List.getElem?_eq_none_iff.mpr (by omega)
   unfold cell
   rw[List.getD_eq_getElem?_getD,z];rfl
  rw[e] at q
  exact q
theorem xZ:(0:Int) <1000003:=by decide
def mixed(c k:Int):Int:=let n:=(c*48271+7919*k+11) % 1000003;n*n % 1000003*n % 1000003
def fQ:Sp:=fun vs H Q E=> ∃c k,vs=[.int c, .int k]∧Q (.int (mixed c k)) H
theorem NG{K:Frag}(vs:List V)(H:Hp)(Q:VK)(E:XK)(h:fQ vs H Q E):aw (aU K [] [] (E:=E)) xX {nx:=fun _ H'=>Q .aB H',rt:=Q} (start xW vs) H:=by
 obtain⟨c,k,rfl,q⟩:=h
 have h0: ∀z:Int,0≤z % 1000003∧z % 1000003<1000003:=fun z=> ⟨Int.emod_nonneg _ (by decide),Int.emod_lt_of_pos _ (by decide)⟩
 have h1:=h0 (c*48271+7919*k+11)
 have h2:=h0 ((c*48271+7919*k+11) % 1000003* ((c*48271+7919*k+11) % 1000003))
 refine⟨_,rfl, .inr ⟨by decide,by decide⟩,_,rfl, .inl ⟨by decide,by decide⟩,xZ, ?_⟩
 refine⟨_,rfl,_,rfl, .inl ⟨by omega,by omega⟩,xZ,_,rfl, .inl ⟨by omega,by omega⟩,xZ, ?_⟩
 exact q
def SG:Str:=" !\"#$&'()*+,-./0123456789:;<=>?@ABCDEFGHIJKLMNOPQRSTUVWXYZ[\\]^_`abcdefghijklmnopqrstuvwxyz{|}~\n"
def good(x:Str):Prop:=x.length≤1000000∧ ∀c∈x.cps.toList,SG.cps.contains c=true
theorem takeWhile_all{α:Type}(p:α→Bool): ∀l:List α,(∀c∈l,p c=true)→l.takeWhile p=l
 | [],_=>rfl
 | c::l,h=>by rw[List.takeWhile_cons,h c List.mem_cons_self,takeWhile_all p l fun d hd=>h d (List.mem_cons_of_mem _ hd)];rfl
theorem NH(x y:Str)(h: ∀c∈x.cps.toList,y.cps.contains c=true):Txt.lstripChars x y="":=by
 have e0:stripLo y.cps.contains true x=x.length:=by
  unfold stripLo
  rw[if_pos rfl,takeWhile_all _ _ h]
  simp[Str.length]
 have e1:stripHi y.cps.contains false x x.length=x.length:=rfl
 unfold Txt.lstripChars Txt.stripBy stripSame stripped
 rw[e0,e1]
 split
 ·rename_i hq
  simp only[Bool.and_eq_true,beq_iff_eq] at hq
  have:x.cps= #[]:=Array.eq_empty_of_size_eq_zero hq.1
  obtain⟨c⟩:=x
  have e:c= #[]:=this
  subst e
  rfl
 ·show(⟨x.cps.extract x.length x.length⟩:Str)=_
  have:x.cps.extract x.length x.length= #[]:=by simp[Str.length]
  rw[this];rfl
abbrev gS:List (Str×V):=[("SIGNS", .str SG)]
def NI:Sp:=fun vs H Q E=> ∃x,vs=[.str x]∧good x∧Q (.bl true) H
theorem NJ{K:Frag}(vs:List V)(H:Hp)(Q:VK)(E:XK)(h:NI vs H Q E):aw (aU K [] gS (E:=E)) uw {nx:=fun _ H'=>Q .aB H',rt:=Q} (start cE vs) H:=by
 obtain⟨x,rfl,hx,q⟩:=h
 refine⟨_,rfl,rfl,_,rfl,jf ⟨_,rfl,rfl,cw hx.1, ?_⟩⟩
 show Q (.bl (false ^^ decide (V.str (Txt.lstripChars x SG)=V.str ""))) H
 rw[NH x SG hx.2,decide_eq_true rfl]
 exact q
def NK(K:Frag):Sp:=fun vs H Q E=> ∃w p xs,vs=[.str w, .ref p]∧aT K H p xs∧xs.all dc=true∧Q (.bl (bB (.str w) xs)) H
theorem NL{K:Frag}(vs:List V)(H:Hp)(Q:VK)(E:XK)(h:NK K vs H Q E):aw (aU K [] [] (E:=E)) uv {nx:=fun _ H'=>Q .aB H',rt:=Q} (start nT vs) H:=by
 obtain⟨w,p,xs,rfl,hp,hf,q⟩:=h
 exact⟨_,rfl,rfl,_,rfl,jf ⟨_,rfl,_,rfl,p,xs,rfl,(.inr hp),rfl,hf,q⟩⟩
theorem NM{α:Type}(p:α→Bool)(l:List α)(i:Nat)(v:α)(h:l[i]?=some v):(l.take (i+1)).filter p=(l.take i).filter p++ (if p v then [v] else []):=by
 rw[List.take_add_one,h,List.filter_append]
 cases hp:p v<;>simp[hp]
def cat(ts:List Str):Str:=Txt.join "" ts
def sz(ts:List Str):Nat:=(ts.map Str.length).sum
theorem NN(ts:List Str):(cat ts).cps.toList=(ts.map fun t=>t.cps.toList).flatten:=by
 have e:(Str.ofString "").cps= #[]:=rfl
 cases ts with
 | nil=>rfl
 | cons t r=>
  show(r.foldl (fun acc p=>acc++ (Str.ofString "").cps++p.cps) t.cps).toList=_
  rw[e]
  have go: ∀(r:List Str) (acc:Array Nat),(r.foldl (fun acc p=>acc++ #[]++p.cps) acc).toList=acc.toList++ (r.map fun t=>t.cps.toList).flatten:=by
   intro r
   induction r with
   | nil=>intro acc;simp
   | cons q r ih=>
    intro acc
    show(r.foldl (fun acc p=>acc++ #[]++p.cps) (acc++ #[]++q.cps)).toList=_
    rw[ih];simp
  rw[go];simp
theorem fS{x y:Str}(h:x.cps.toList=y.cps.toList):x=y:=by
 obtain⟨x⟩:=x
 obtain⟨y⟩:=y
 exact congrArg Str.mk (Array.toList_inj.mp h)
theorem app_list(x y:Str):(x++y).cps.toList=x.cps.toList++y.cps.toList:=by
 show(x.cps++y.cps).toList=_
 simp
theorem len_list(x:Str):x.length=x.cps.toList.length:=by simp[Str.length]
theorem joinOk_of{ts:List Str}(h:sz ts≤1000000):JoinOk "" ts=true:=by
 have go: ∀(l:List Str) (n:Nat),l.foldl (· + ·.length+ (Str.ofString "").length) n=n+sz l:=by
  intro l
  induction l with
  | nil=>intro n;rfl
  | cons t r ih=>
   intro n
   show r.foldl _ (n+t.length+0)=_
   rw[ih]
   show n+t.length+0+sz r=n+ (t.length+sz r)
   omega
 unfold JoinOk
 have e:ts.toArray.foldl (· + ·.length+ (Str.ofString "").length) 0=sz ts:=by
  rw[List.foldl_toArray,go,Nat.zero_add]
 rw[e]
 show(!decide (sz ts>sizeLine))=true
 rw[decide_eq_false (by have:=cw h;omega)]
 rfl
end L2.B
namespace L2.B
end L2.B
namespace L2.B
open PySem PySem.StrLaws
def pos(c:Nat):List Nat→Nat→List Nat
 | [],_=> []
 | d::r,k=>if d=c then k::pos c r (k+1) else pos c r (k+1)
theorem x3(c:Nat): ∀(a:List Nat) (k:Nat),(pos c a k).length=a.count c
 | [],k=>rfl
 | d::r,k=>by
  simp only[pos]
  rw[List.count_cons]
  split
  ·rename_i h;subst h;simp[x3 d r (k+1)]
  ·rename_i h
   have:(d==c)=false:=by simpa using h
   rw[x3 c r (k+1),this];simp
theorem uz(x y:Str)(hy:y.length=1)(hi lim:Nat): ∀(n lo:Nat) (acc:Array Nat) (free:Nat),free≤lo→
  ((forIn (List.range' lo n) (acc,free) (occBody x y hi lim)).run.fst.toList=acc.toList++ ((List.range' lo n).filter fun i=>decide (i+1≤hi) && Builtin.Str.subAt x y i).take (lim - acc.size))
 | 0,lo,acc,free,hf=>by simp
 | n+1,lo,acc,free,hf=>by
  rw[List.range'_succ,List.forIn_cons]
  unfold occBody
  rw[hy]
  by_cases hp:lo+1≤hi∧Builtin.Str.subAt x y lo=true
  ·have e:(decide (lo+1≤hi) && Builtin.Str.subAt x y lo)=true:=by simp[hp.1,hp.2]
   by_cases hs:acc.size<lim
   ·rw[if_pos ⟨⟨⟨hs,hf⟩,hp.1⟩,hp.2⟩]
    have ih:=uz x y hy hi lim n (lo+1) (acc.push lo) (lo+1) (Nat.le_refl _)
    unfold occBody at ih
    rw[hy] at ih
    refine Eq.trans ih ?_
    rw[List.filter_cons_of_pos (by exact e)]
    have e2:lim - acc.size=(lim - (acc.push lo).size)+1:=by rw[Array.size_push];omega
    rw[e2,List.take_succ_cons]
    simp
   ·rw[if_neg (fun z=>hs z.1.1.1)]
    have ih:=uz x y hy hi lim n (lo+1) acc free (by omega)
    unfold occBody at ih
    rw[hy] at ih
    refine Eq.trans ih ?_
    have e2:lim - acc.size=0:=by omega
    rw[e2];simp
  ·rw[if_neg (fun z=>hp ⟨z.1.2,z.2⟩)]
   have e: ¬(decide (lo+1≤hi) && Builtin.Str.subAt x y lo)=true:=by
    intro z
    simp only[Bool.and_eq_true,decide_eq_true_eq] at z
    exact hp z
   have ih:=uz x y hy hi lim n (lo+1) acc free (by omega)
   unfold occBody at ih
   rw[hy] at ih
   refine Eq.trans ih ?_
   rw[List.filter_cons_of_neg (by exact e)]
theorem NO(x:Str)(c i:Nat):Builtin.Str.subAt x ⟨#[c]⟩ i=decide (x.cps[i]?=some c):=by
 unfold Builtin.Str.subAt
 have e:(⟨#[c]⟩:Str).length=1:=rfl
 rw[e,show(⟨#[c]⟩:Str).cps= #[c] from rfl]
 by_cases h:i<x.cps.size
 ·have e2:x.cps.extract i (i+1)= #[x.cps[i]]:=by
   apply Array.ext
   ·simp;omega
   ·intro j h1 h2
    simp at h1 h2⊢
    have:j=0:=by omega
    subst this;rfl
  rw[e2,Array.getElem?_eq_getElem h]
  by_cases q:x.cps[i]=c
  ·subst q;simp
  ·have: ¬(#[x.cps[i]]= #[c]):=fun z=>q (by injection z with z;injection z)
   simp[q]
 ·have e2:x.cps.extract i (i+1)= #[]:=by
   apply Array.eq_empty_of_size_eq_zero
   simp;omega
  rw[e2,Array.getElem?_eq_none (by omega)]
  simp
theorem DG(c:Nat): ∀(l:List Nat) (k:Nat) (p:Nat→Bool),(∀i,i<l.length→p (k+i)=decide (l[i]?=some c))→(List.range' k l.length).filter p=pos c l k
 | [],k,p,h=>rfl
 | d::r,k,p,h=>by
  rw[List.length_cons,List.range'_succ]
  have h0:p k=decide (d=c):=by
   have:=h 0 (Nat.zero_lt_succ _)
   simpa using this
  have ih:=DG c r (k+1) p fun i hi=>by
   have:=h (i+1) (Nat.succ_lt_succ hi)
   rw[show k+1+i=k+ (i+1) by omega,this];simp
  by_cases e:d=c
  ·rw[List.filter_cons_of_pos (by rw[h0];simpa using e),ih,pos,if_pos e]
  ·rw[List.filter_cons_of_neg (by rw[h0];simpa using e),ih,pos,if_neg e]
theorem uA(x:Str)(c lo lim:Nat)(hl:lo≤x.length):Builtin.Str.occurrences x ⟨#[c]⟩ lo x.length lim=(pos c (x.cps.toList.drop lo) lo).take lim:=by
 have hx:x.cps.toList.length=x.length:=by simp[Str.length]
 rw[occ_eq,uz x _ rfl x.length lim _ lo #[] lo (Nat.le_refl _)]
 simp only[List.nil_append,Array.size_empty,Nat.sub_zero]
 congr 1
 have e:x.length+1 - lo=(x.cps.toList.drop lo).length+1:=by rw[List.length_drop,hx];omega
 rw[e,List.range'_concat,List.filter_append]
 rw[DG c (x.cps.toList.drop lo) lo]
 ·have: ¬(lo+1* (x.cps.toList.drop lo).length+1≤x.length):=by rw[List.length_drop,hx];omega
  rw[List.filter_cons_of_neg (by rw[decide_eq_false this];simp)]
  simp
 ·intro i hi
  rw[NO]
  rw[List.length_drop,hx] at hi
  rw[decide_eq_true (show lo+i+1≤x.length by omega),Bool.true_and,List.getElem?_drop,Array.getElem?_toList]
end L2.B
namespace L2
open PySem PySem.Spec PyProof.Rows
section
variable {X:Cx}
def qv(K:Frag):List V→Hp→VK→Prop:=fun xs H Q=> ∃(p:Addr) (bs:List Bool),xs=[.ref p]∧aC K H p (bs.map V.bl)∧Q (.bl (bs.all id)) H
theorem DH: ∀{bs:List Bool} {us:List Value},Vals (bs.map V.bl) us→us=bs.map Value.bool
 | [],_, .nil=>rfl
 | b::r,_, .cons e t=>by
  have e':_=Value.bool b:=e
  rw[List.map_cons,←DH t,e']
theorem all_range(bs:List Bool):((List.range bs.length).all fun i=> (bs[i]?).getD true)=bs.all id:=by
 rw[Bool.eq_iff_iff,List.all_eq_true,List.all_eq_true]
 constructor
 ·intro h b hb
  obtain⟨i,hi,rfl⟩:=List.getElem_of_mem hb
  have:=h i (List.mem_range.mpr hi)
  simpa[hi] using this
 ·intro h i hi
  have hi:=List.mem_range.mp hi
  have:=h _ (List.getElem_mem hi)
  simpa[hi] using this
theorem NP(hc:X.calm=true):bT X (.builtin "all") (qv X.K):=by
 intro pins s σ H xs us Q I r h
 obtain⟨p,bs,rfl,hq,q⟩:=h
 obtain⟨u,rfl,ru⟩:=vals1 r
 cases ru
 obtain⟨its,rv,pl,hz⟩:=I.list hq
 have e:=DH rv
 subst e
 have aQ: @LT.lt Nat _ p s.heap.objs.size:=by obtain⟨_,e,_⟩:=pl.isList;exact Heap.lt_size e
 refine call_all_walk (wpAny_pyIter_list pl.isList ?_)
 refine⟨s.heap.objs.size,[s.heap.objs.size,p],[s.heap.objs.size],(bs.map Value.bool).toArray.size,_,_,fun i=> (bs[i]?).getD true,rfl,
  Walks.list (A:=X.A.in1) (I.ok.hd hc) _ p (Nat.ne_of_lt aQ) _,⟨⟨_,Heap.get?_push_size _ rfl,rfl,rfl⟩,pl.isList.push _⟩,fun i v s' Q' E' hP hQ=> ?_,fun h' tk hk=> ?_⟩
 ·have qw:(bs.map Value.bool)[i]?=some v:=by simpa using hP
  rw[List.getElem?_map] at qw
  cases eb:bs[i]? with
  | none=>rw[eb] at qw;cases qw
  | some b=>
   rw[eb] at qw
   cases qw
   have DI:Q' ((bs[i]?).getD true) s':=hQ
   rw[eb] at DI
   exact wpAny_truthy_bool DI
 ·have e:((List.range (bs.map Value.bool).toArray.size).all fun i=> (bs[i]?).getD true)=bs.all id:=by
   have e0:(bs.map Value.bool).toArray.size=bs.length:=by simp
   rw[e0];exact all_range bs
  rw[e]
  refine⟨.bl _,H,I.kept (t':=tk) fun b o e=> ?_,rfl,q⟩
  exact hk b o (fun hm=>by rw[List.mem_singleton.mp hm] at e;exact Nat.lt_irrefl _ (Heap.lt_size e)) (Heap.get?_push_of_some _ e)
theorem boot_all:bootBuiltins "all"=some (.builtin "all"):=by decide+kernel
def qx:List V→Hp→VK→Prop:=fun xs H Q=> (∃i:Int,xs=[.int i]∧i.natAbs<10 ^ 10∧Q (.str (Str.ofString (toString i))) H)∨ ∃x,xs=[.str x]∧Q (.str x) H
theorem NQ:bT X (.type "str") qx:=by
 intro pins s σ H xs us Q I r h
 rcases h with⟨i,rfl,hi,q⟩ | ⟨x,rfl,q⟩
 ·obtain⟨u,rfl,⟨t,rfl⟩⟩:=vals1 r
  refine P.str_of_int ?_ ⟨.str _,H,I.tok _,⟨_,rfl⟩,q⟩
  by_cases h0:i.natAbs=0
  ·rw[h0];decide
  ·exact(Nat.log2_lt h0).mpr (Nat.lt_of_lt_of_le hi (by decide+kernel))
 ·obtain⟨u,rfl,⟨t,rfl⟩⟩:=vals1 r
  exact P.str_of_str ⟨.str x,H,I,⟨t,rfl⟩,q⟩
theorem NR:bootBuiltins "str"=some (.type "str"):=by decide+kernel
def uB:V→List V→Hp→VK→Prop:=fun x vs H Q=> ∃z y,x= .str z∧vs=[.str y]∧z.length≤sizeLine∧Q (.str (Txt.stripChars z y)) H
theorem NS:gQ X "str.strip" uB:=by
 intro pins s σ H x vs v us Q I rx rv h
 obtain⟨z,y,rfl,rfl,hz,q⟩:=h
 obtain⟨t,rfl⟩:=rx
 obtain⟨u,rfl,⟨t2,rfl⟩⟩:=vals1 rv
 refine call_gives F.slot_str_strip (typeIs_str _ _ _) F.entry_str_strip (F.args_str_strip_2 _ _) (gives_str_strip_chars z y t t2) (post_val_or_made (fun _=>fits_stripped _ _ _ hz) fun t' k=> ?_)
 exact⟨.str _,H,I.tok k,⟨t',rfl⟩,q⟩
def iN(z y:Str):List V:=match Builtin.Str.occurrences z y 0 z.length 1 with
 | i::_=> [.str (Builtin.Str.strSub z 0 i), .str y, .str (Builtin.Str.strSub z (i+y.length) z.length)]
 | []=> [.str z, .str Str.empty, .str Str.empty]
def uC:V→List V→Hp→VK→Prop:=fun x vs H Q=> ∃z y,x= .str z∧vs=[.str y]∧(y.length==0)=false∧z.length≤sizeLine∧ ∀l,H l=none→Q (.ref l) (upd H l (.tup (iN z y)))
theorem NT:gQ X "str.partition" uC:=by
 intro pins s σ H x vs v us Q I rx rv h
 obtain⟨z,y,rfl,rfl,hy,hz,q⟩:=h
 obtain⟨t,rfl⟩:=rx
 obtain⟨u,rfl,⟨t2,rfl⟩⟩:=vals1 rv
 refine call_meets F.slot_str_partition (typeIs_str _ _ _) F.entry_str_partition (F.args_str_partition_2 _ _) (meets_str_partition z y t t2 hy hz) ?_
 have qq:=q s.heap.objs.size (I.aE.fresh (Nat.le_refl _))
 unfold iN at qq
 cases ho:Builtin.Str.occurrences z y 0 z.length 1 with
 | nil=>
  rw[ho] at qq
  exact⟨.ref s.heap.objs.size,_,I.laid (o:= .tup [.str z, .str Str.empty, .str Str.empty]) (t':=s.toks+1) (fun b u e=>Heap.get?_push_of_some _ e) (Nat.le_refl _) ⟨by show 3≤sizeLine;decide,_, .cons ⟨_,rfl⟩ (.cons ⟨_,rfl⟩ (.cons ⟨_,rfl⟩ .nil)),⟨_,Heap.get?_push_size _ rfl,rfl,_,rfl⟩⟩,rfl,qq⟩
 | cons i r=>
  rw[ho] at qq
  exact⟨.ref s.heap.objs.size,_,I.laid (o:= .tup [.str (Builtin.Str.strSub z 0 i), .str y, .str (Builtin.Str.strSub z (i+y.length) z.length)]) (t':=s.toks+1+1) (fun b u e=>Heap.get?_push_of_some _ e) (Nat.le_refl _) ⟨by show 3≤sizeLine;decide,_, .cons ⟨_,rfl⟩ (.cons ⟨_,rfl⟩ (.cons ⟨_,rfl⟩ .nil)),⟨_,Heap.get?_push_size _ rfl,rfl,_,rfl⟩⟩,rfl,qq⟩
def j_(X:Cx)(e:Expr)(t:TE):Prop:=
 ∀(pins:List (Addr×Obj)) (s:Shared) (σ:St) (H:Hp) (Q:VK),0<s.toks→Inv X pins σ H s→t σ H Q→wpAny (model X.prog X.w) X.A (eval e X.env) (fun u s'=>0<s'.toks∧EP X pins σ Q u s') X.xe s
theorem PE.p{e:Expr}{t:TE}(h:PE X e t):j_ X e t:=fun pins s σ H Q ht I q=>wpAny_mono (wpAny_toks_of ht (h pins s σ H Q I q)) (fun _ _ x=>x) fun _ _ x=>x.2
def uD:V→List V→Hp→VK→Prop:=fun x vs H Q=> ∃z y w,x= .str z∧vs=[.str y, .str w]∧(y==w)=false∧z.length≤1048576∧w.length≤14∧Q (.str (Txt.replace z y w)) H
theorem NU{o:Expr}{to:TE}{y w:Str}{k1 k2:Nat}{p1 p2 ap cp:Pos}(ho:j_ X o to)(hb:tX o=true)(hl:(ap.endLine==cp.line)=true):
  j_ X (.Call (.Attribute o "replace" ap) [.Constant (.str y) k1 p1, .Constant (.str w) k2 p2] [] cp) (gR X.K "str" uD to (cz (tC (.str y)) (cz (tC (.str w)) fk))):=by
 intro pins s σ H Q ht I h
 refine wpAny_mono (wpAny_toks_of ht (?_:wpAny _ _ _ (EP X pins σ Q) X.xe s)) (fun _ _ x=>x) fun _ _ x=>x.2
 refine wpAny_Call_method_late (je hb) rfl hl rfl (wpAny_mono (ho pins s σ H _ ht I h) (fun v s1 ⟨NV,x,H1,I1,r1,ty,q1⟩=> ?_) fun _ _ e=>e)
 obtain⟨h1,h2⟩:=BE I1 r1 ty
 refine⟨"str","str.replace",F.plainAttrs_str,F.slot_str_replace,F.type_str_replace,h1,h2, ?_⟩
 obtain⟨z,y',w',rfl,e,dO,hz,hw,q⟩:=q1
 cases e
 obtain⟨t,rfl⟩:=r1
 refine Calls.callWith_builtin rfl (Calls.evalArgs_plain ?_)
 show wpAny _ _ (spliced [(false,eval (.Constant (.str y) k1 p1) X.env),(false,eval (.Constant (.str w) k2 p2) X.env)]) _ _ s1
 refine Calls.spliced_cons (wpAny_Constant_str (Calls.spliced_cons (wpAny_Constant_str (Calls.spliced_nil ?_))))
 exact SC.replaceW (Nat.ne_of_gt NV) (Nat.succ_ne_zero _) (Nat.ne_of_lt (Nat.lt_succ_self _)) dO hz hw fun t' k=> ⟨.str _,H1,I1.tok k,⟨t',rfl⟩,q⟩
theorem NW{op:Operator}{r:R2}{b:Expr}{tb:TE}{c:Str}{k:Nat}{p pos:Pos}(ho:ba X (binaryOp op) r)(hb:j_ X b tb):PE X (.BinOp (.Constant (.str c) k p) op b pos) (dt r (tC (.str c)) tb):=by
 intro pins s σ H Q I h
 refine wpAny_BinOp (wpAny_Constant_str ?_)
 exact wpAny_mono (hb pins _ σ H _ (Nat.succ_pos _) (I.tok (s.toks+1)) h) (fun u s2 ⟨_,y,H2,I2,r2,q2⟩=>ho pins s2 σ H2 (.str c) y _ u Q I2 ⟨_,rfl⟩ r2 q2) fun _ _ e=>e
theorem DJ{P:Program}{w:World}{K:Frag}{tg:Expr}{ty:String}(z:Str)(t:Tok)(it:Addr)
  (hn:["enumerate","zip","dict_itemiterator","dict_reverseitemiterator","odict_iterator","itertools.zip_longest","itertools.pairwise"].contains ty=false)
  (W: ∀A:Around,A.handled=none→Walks P w A it [it] [it] z.cps.size (SignAt z) (fun i h=>h.IsStrIter it ty z t i))
  (hs: ∀(A:Around) (i:Nat) (s:Shared) (Q:Value→Shared→Prop) (E:Value→Shared→Prop),s.heap.IsStrIter it ty z t i→Q (.ref it) s→wpAny (model P w) A (pyIter (.ref it)) Q E s):
  Turn P w K tg (pZ z) [it] it (fun i h=>h.IsStrIter it ty z t i) where
 mem:=by simp
 obj:=fun i h st b hb=>by
  obtain rfl:b=it:=by simpa using hb
  obtain⟨o,e,c,d⟩:=st
  exact⟨o,e,fun v q=>by rw[d] at q;cases q⟩
 keep:=fun i h h' st k=>by
  obtain⟨o,e,c⟩:=st
  exact⟨o,k it (by simp) o e,c⟩
 item:=by
  intro X hP hw hK hc i pins s σ H E I hf st hg
  subst hP hw hK
  obtain⟨f0,f1,f2,f3,f4,f5⟩:=hf it (by simp)
  refine(W X.A (I.ok.hd hc)).item i s _ _ hg st fun v h' tk hv dA kk=> ?_
  obtain⟨c,u,ec,rfl⟩:=hv
  have I1:Inv X pins σ H {s with heap:=h',toks:=tk}:=I.turned (t':=tk) (fun b o hb e=>kk b o (by simpa using hb) e) f0 f1 f3 f4 f5
  obtain⟨o,e,c0,d⟩:=id dA
  exact⟨_,rfl,nv (s:={s with heap:=h',toks:=tk}) e c0 d hn ⟨.str ⟨#[c]⟩,H,I1,⟨u,rfl⟩,⟨rfl,c,ec,rfl⟩,dA,fun b hb=> (hf b hb).1⟩⟩
 done:=by
  intro X hP hw hK hc i pins s σ H E I hf st hg
  subst hP hw hK
  obtain⟨f0,f1,f2,f3,f4,f5⟩:=hf it (by simp)
  have NX:i=z.cps.size:=hg
  subst NX
  exact(W X.A (I.ok.hd hc)).done s _ _ st fun h' tk kk=> ⟨rfl,I.turned (t':=tk) (fun b o hb e=>kk b o (by simpa using hb) e) f0 f1 f3 f4 f5⟩
 self:=fun A i s Q E st h=>hs A i s Q E st h
theorem NY{tg l:Expr}{tl:TE}(hl:PE X l tl):PI X tg l (CT tl):=by
 intro pins s σ H R I h
 refine aJ (hl pins s σ H _ I h) fun v s1 ⟨x,H1,I1,r1,q1⟩=> ?_
 obtain⟨z,e,q⟩:=q1
 subst e
 obtain⟨t,rfl⟩:=r1
 have fp: ∀b∈ [s1.heap.objs.size],fK X pins H1 b:=fun b hb=>by
  obtain rfl:b=s1.heap.objs.size:=by simpa using hb
  exact I1.kZ (Nat.le_refl _) (I1.aE.fresh (Nat.le_refl _))
 cases ha:z.cps.all (· <128)
 ·exact wpAny_pyIter_wide ha ⟨s1.heap.objs.size,[s1.heap.objs.size],_,_,H1,rfl,I1.kept (t':=s1.toks) fun b o e=>Heap.get?_push_of_some _ e,
   DJ z t _ (by decide) (fun A hA=>Walks.strWide hA _ z t) (fun A i s Q E st h=>wpAny_pyIter_striter_wide st h),⟨_,Heap.get?_push_size _ rfl,rfl,rfl⟩,fp,q⟩
 ·exact wpAny_pyIter_ascii ha ⟨s1.heap.objs.size,[s1.heap.objs.size],_,_,H1,rfl,I1.kept (t':=s1.toks) fun b o e=>Heap.get?_push_of_some _ e,
   DJ z t _ (by decide) (fun A hA=>Walks.strAscii hA _ z t) (fun A i s Q E st h=>wpAny_pyIter_striter_ascii st h),⟨_,Heap.get?_push_size _ rfl,rfl,rfl⟩,fp,q⟩
theorem x4{z:Str}{g:TG}{tb:TS}{D:Ends}{σ:St}{H:Hp}(Pv:Nat→St→Hp→Prop)(h0:Pv 0 σ H)
  (hs: ∀i c σ H,z.cps.toList[i]?=some c→Pv i σ H→g (.str ⟨#[c]⟩) σ H fun σ2 H2=>tb {D with nx:=Pv (i+1),ct:=Pv (i+1),bk:=D.nx} σ2 H2) (hd: ∀σ H,Pv z.length σ H→D.nx σ H):
  ∃W:Nat→Nat→St→Hp→Prop,(∃m,W 0 m σ H)∧ ∀i m σ H,W i m σ H→
   ((pZ z).stop i H∧D.nx σ H)∨((pZ z).go i H∧ ∃N:St→Hp→Prop,(∀σ' H',N σ' H'→ ∃m',m'<m∧W (i+1) m' σ' H')∧ ∀x H',(pZ z).cZ i H x H'→g x σ H' fun σ2 H2=>tb {D with nx:=N,ct:=N,bk:=D.nx} σ2 H2):=by
 refine⟨fun i m σ H=>m=z.length - i∧i≤z.length∧Pv i σ H,⟨z.length,by simp,Nat.zero_le _,h0⟩, ?_⟩
 rintro i m σ H ⟨rfl,hi,p⟩
 by_cases aQ:i<z.length
 ·refine .inr ⟨aQ,Pv (i+1),fun σ' H' p'=> ⟨z.length - (i+1),by omega,rfl,aQ,p'⟩,fun x H' y=> ?_⟩
  obtain⟨rfl,c,ec,rfl⟩:=y
  exact hs i c σ H' (by simpa using ec) p
 ·have e:i=z.length:=by omega
  subst e
  exact .inl ⟨rfl,hd σ H p⟩
end
def mf:Frag→TA→TE:=fun K t=>eM (qv K) t
def uE:Frag→TA→TE:=fun _ t=>eM qx t
def x5:Frag→TE→TA→TE:=fun K to t=>gR K "str" uB to t
def x6:Frag→TE→TA→TE:=fun K to t=>gR K "str" uC to t
def qy:Frag→TE→TA→TE:=fun K to t=>gR K "str" uD to t
section
variable {CX:bw} {S:bI} {Γ:aL} {X:Cx} {e e2 a b c d:Expr} {es:List Expr} {x:Str} {p q pos:Pos} {r ra rb rc:RE} {rs:List RE} {i j:Nat}
theorem uF(G:Good CX S Γ X)(hA:PA X (e::es) (aY Γ (r::rs)))(h:kB S x "all"=true:=by kernel_rfl)(hn:dv (e::es)=true:=by kernel_rfl)(hq:S.md=0:=by rfl):PE X (.Call (.Name x p) (e::es) [] pos) (af Γ (.xt mf (r::rs))):=by
 simp only[kB,Bool.and_eq_true,decide_eq_true_eq] at h
 obtain⟨⟨rfl,h2⟩,h3⟩:=h
 show PE X _ (eM (qv Γ.K) (aY Γ (r::rs)))
 rw[←G.K]
 exact sT (NP (G.calm hq)) (G.gl h2) (G.dC _ h3) boot_all hA (by decide) (by decide) (bZ (bR hn).1) (eR _ _ es (bR hn).2)
theorem DK(G:Good CX S Γ X)(hA:PA X (e::es) (aY Γ (r::rs)))(h:kB S x "str"=true:=by kernel_rfl)(hn:dv (e::es)=true:=by kernel_rfl):PE X (.Call (.Name x p) (e::es) [] pos) (af Γ (.xt uE (r::rs))):=by
 simp only[kB,Bool.and_eq_true,decide_eq_true_eq] at h
 obtain⟨⟨rfl,h2⟩,h3⟩:=h
 exact wd NQ (G.gl h2) (G.dC _ h3) NR hA (by decide) (by decide) (bZ (bR hn).1) (eR _ _ es (bR hn).2)
theorem x8{n:Nat}(h4:n<29)(hf:(backTo pos (starEach es X.env)).all (fun x=> !x.1)=true)(hn:n=es.length):((backTo pos (starEach es X.env)).all (fun x=> !x.1) && (backToKw pos (keywordEach [] X.env)).all (fun x=>x.1.isSome)
   && decide (es.length+ ([]:List Keyword).length+ (if ([]:List Keyword).isEmpty then 0 else 1) <30))=true:=by
 subst hn
 rw[hf]
 show(true && true && decide (es.length+0+0<30))=true
 rw[decide_eq_true (by omega)];rfl
theorem NZ{o:Expr}{ro:RE}{ap:Pos}(G:Good CX S Γ X)(ho:PE X o (af Γ ro))(hA:PA X (e::es) (aY Γ (r::rs)))(h:kM o "strip" x (es.length+1) ap pos=true:=by kernel_rfl)(hn:dv (e::es)=true:=by kernel_rfl):PE X (.Call (.Attribute o x ap) (e::es) [] pos) (af Γ (.xm x5 ro (r::rs))):=by
 simp only[kM,Bool.and_eq_true,decide_eq_true_eq] at h
 obtain⟨⟨⟨rfl,h2⟩,h3⟩,h4⟩:=h
 show PE X _ (gR Γ.K "str" uB (af Γ ro) (aY Γ (r::rs)))
 rw[←G.K]
 exact tj F.plainAttrs_str F.slot_str_strip F.type_str_strip NS ho hA (je h2) (x8 h4 (nM _ _ (e::es) hn) rfl) h3 (bZ (bR hn).1) (eR _ _ es (bR hn).2)
theorem N0{o:Expr}{ro:RE}{ap:Pos}(G:Good CX S Γ X)(ho:PE X o (af Γ ro))(hA:PA X (e::es) (aY Γ (r::rs)))(h:kM o "partition" x (es.length+1) ap pos=true:=by kernel_rfl)(hn:dv (e::es)=true:=by kernel_rfl):PE X (.Call (.Attribute o x ap) (e::es) [] pos) (af Γ (.xm x6 ro (r::rs))):=by
 simp only[kM,Bool.and_eq_true,decide_eq_true_eq] at h
 obtain⟨⟨⟨rfl,h2⟩,h3⟩,h4⟩:=h
 show PE X _ (gR Γ.K "str" uC (af Γ ro) (aY Γ (r::rs)))
 rw[←G.K]
 exact tj F.plainAttrs_str F.slot_str_partition F.type_str_partition NT ho hA (je h2) (x8 h4 (nM _ _ (e::es) hn) rfl) h3 (bZ (bR hn).1) (eR _ _ es (bR hn).2)
theorem x9{o:Expr}{ro:RE}{y w:Str}{k1 k2:Nat}{p1 p2 ap:Pos}(G:Good CX S Γ X)(h:kM o "replace" x 2 ap pos=true)(ho:j_ X o (af Γ ro)):
  j_ X (.Call (.Attribute o x ap) [.Constant (.str y) k1 p1, .Constant (.str w) k2 p2] [] pos) (af Γ (.xm qy ro [.c (.str y), .c (.str w)])):=by
 simp only[kM,Bool.and_eq_true,decide_eq_true_eq] at h
 obtain⟨⟨⟨rfl,h2⟩,h3⟩,h4⟩:=h
 show j_ X _ (gR Γ.K "str" uD (af Γ ro) (cz (tC (.str y)) (cz (tC (.str w)) fk)))
 rw[←G.K]
 exact NU ho h2 h3
theorem N1{op:Operator}{v:Str}{k:Nat}(G:Good CX S Γ X)(hb:j_ X b (af Γ rb)):PE X (.BinOp (.Constant (.str v) k q) op b p) (af Γ (.bin op (.c (.str v)) rb)):=by
 show PE X _ (dt (jj Γ.K op) (tC (.str v)) (af Γ rb))
 rw[←G.K]
 exact NW (CB op) hb
theorem N2{T:Frag→TA→TE}(G:Good CX S Γ X)(h:PE X (.Call a es [] p) (af Γ (.xt T rs))):PT X (.Call a es [] p) (bf Γ (.xt T rs)):=by
 show PT X _ (dE Γ.K (af Γ (.xt T rs)))
 rw[←G.K]
 exact nN h fun _=>rfl
theorem qz{tg:Expr}(ha:PE X a (af Γ ra)):PI X tg a (eo Γ .txt [ra]):=NY ha
end
end L2
namespace L2.eZ
def cB(c:Nat):List Nat:=if c=92 then [92,92] else if c=34 then [92,34] else if c=10 then [92,110] else [c]
def bz(l:List Nat):List Nat:=l.flatMap cB
def rep(c:Nat)(z l:List Nat):List Nat:=l.flatMap fun k=>if k=c then z else [k]
theorem uG(c:Nat)(z a b:List Nat):rep c z (a++b)=rep c z a++rep c z b:=List.flatMap_append
theorem rep3: ∀l:List Nat,rep 10 [92,110] (rep 34 [92,34] (rep 92 [92,92] l))=bz l
 | []=>rfl
 | c::r=>by
  have ih:=rep3 r
  have e:rep 92 [92,92] (c::r)=(if c=92 then [92,92] else [c])++rep 92 [92,92] r:=rfl
  have e2:bz (c::r)=cB c++bz r:=rfl
  rw[e,uG,uG,ih,e2]
  congr 1
  unfold cB
  by_cases h1:c=92
  ·simp[h1,rep]
  ·by_cases h2:c=34
   ·simp[h2,rep]
   ·by_cases h3:c=10
    ·simp[h3,rep]
    ·simp[h1,h2,h3,rep]
structure Tx where
 ts:List (List Nat)
 sg:List Nat
 ins:Bool
 es:Bool
def bW(t:Tx)(c:Nat):Tx:=
 if t.es=true then {t with sg:=t.sg++ [if c=110 then 10 else c],es:=false}
 else if c=92 then {t with es:=true}
 else if c≠34 then {t with sg:=t.sg++ [c]}
 else {ts:=if t.ins=true then t.ts++ [t.sg] else t.ts,sg:=[],ins:= !t.ins,es:=false}
theorem DL(ts:List (List Nat)): ∀(l sg:List Nat),(bz l).foldl bW ⟨ts,sg,true,false⟩=⟨ts,sg++l,true,false⟩
 | [],sg=>by simp[bz]
 | c::r,sg=>by
  have e2:bz (c::r)=cB c++bz r:=rfl
  rw[e2,List.foldl_append]
  have:(cB c).foldl bW ⟨ts,sg,true,false⟩=⟨ts,sg++ [c],true,false⟩:=by
   unfold cB
   by_cases h1:c=92
   ·simp[h1,bW]
   ·by_cases h2:c=34
    ·simp[h2,bW]
    ·by_cases h3:c=10
     ·simp[h3,bW]
     ·simp[h1,h2,h3,bW]
  rw[this,DL ts r]
  simp
def qt(l:List Nat):List Nat:=34::bz l++ [34]
theorem DM(ts:List (List Nat))(sg l:List Nat):(qt l).foldl bW ⟨ts,sg,false,false⟩=⟨ts++ [l],[],false,false⟩:=by
 have e:(qt l).foldl bW ⟨ts,sg,false,false⟩=([34]).foldl bW ((bz l).foldl bW ⟨ts,[],true,false⟩):=by
  show List.foldl bW _ (34::bz l++ [34])=_
  rw[List.cons_append,List.foldl_cons,List.foldl_append]
  rfl
 rw[e,DL]
 simp[bW]
def sep:List (List Nat)→List Nat
 | []=> []
 | [x]=>x
 | x::y::r=>x++32::sep (y::r)
theorem DN: ∀(xs:List (List Nat)) (ts:List (List Nat)) (sg:List Nat),xs≠ []→((sep (xs.map qt)).foldl bW ⟨ts,sg,false,false⟩).ts=ts++xs
 | [],_,_,h=>absurd rfl h
 | [x],ts,sg,_=>by
  show((qt x).foldl bW ⟨ts,sg,false,false⟩).ts=_
  rw[DM]
 | x::y::r,ts,sg,_=>by
  show((qt x++32::sep ((y::r).map qt)).foldl bW ⟨ts,sg,false,false⟩).ts=_
  rw[List.foldl_append,DM,List.foldl_cons]
  have e:bW ⟨ts++ [x],[],false,false⟩ 32=⟨ts++ [x],[32],false,false⟩:=by simp[bW]
  rw[e,DN (y::r) _ _ (by simp)]
  simp
open PySem PySem.Spec L2.B
abbrev sg(x:Str):List Nat:=x.cps.toList
def mk(l:List Nat):Str:=⟨l.toArray⟩
theorem e_(l:List Nat):sg (mk l)=l:=by simp[sg,mk]
theorem dD(x:Str):mk (sg x)=x:=fS (by simp[mk])
theorem x_(c:Nat)(z:List Nat): ∀l:List Nat,c∉l→rep c z l=l
 | [],_=>rfl
 | k::r,h=>by
  have h1: ¬k=c:=fun e=>h (e ▸ List.mem_cons_self ..)
  show(if k=c then z else [k])++rep c z r=_
  rw[if_neg h1,x_ c z r fun m=>h (List.mem_cons_of_mem _ m)]
  rfl
theorem DO(c:Nat)(z:Str): ∀ps:List Str,(∀p∈ps,c∉p.cps.toList)→rep c (sg z) (Str.join ⟨#[c]⟩ ps).cps.toList=(Str.join z ps).cps.toList
 | [],_=>rfl
 | [p],h=>x_ c _ _ (h p (List.mem_singleton.mpr rfl))
 | p::q::r,h=>by
  have ih:=DO c z (q::r) fun a ha=>h a (List.mem_cons_of_mem _ ha)
  show rep c (sg z) (p++ ⟨#[c]⟩++Str.join ⟨#[c]⟩ (q::r)).cps.toList=(p++z++Str.join z (q::r)).cps.toList
  simp only[Str.cps_append,Array.toList_append]
  rw[uG,uG,ih,x_ c _ _ (h p (List.mem_cons_self ..))]
  have:rep c (sg z) [c]=sg z:=by simp[rep]
  rw[this]
theorem ya(x z:Str)(c:Nat):sg (Txt.replace x ⟨#[c]⟩ z)=rep c (sg z) (sg x):=by
 show(Txt.replace x ⟨#[c]⟩ z).cps.toList=_
 rw[StrLaws.replace_one,←DO c z _ (StrLaws.split_free x c),StrLaws.join_split]
def bo(x:Str):Str:=mk (qt (sg x))
theorem mh(x:Str):sg (bo x)=qt (sg x):=e_ _
theorem uH(c:Nat)(z:List Nat)(hz:z.length≤2): ∀l:List Nat,(rep c z l).length≤2*l.length
 | []=>Nat.le_refl _
 | k::r=>by
  have ih:=uH c z hz r
  show((if k=c then z else [k])++rep c z r).length≤_
  rw[List.length_append,List.length_cons]
  split
  ·omega
  ·simp;omega
theorem uI: ∀l:List Nat,(bz l).length≤2*l.length
 | []=>Nat.le_refl _
 | c::r=>by
  have ih:=uI r
  show(cB c++bz r).length≤_
  rw[List.length_append,List.length_cons]
  have:(cB c).length≤2:=by unfold cB;split<;> (try split) <;> (try split) <;>simp
  omega
theorem yb(x:Str):(bo x).length≤2*x.length+2:=by
 rw[len_list,len_list]
 show(sg (bo x)).length≤_
 rw[mh]
 have:=uI (sg x)
 show(34::bz (sg x)++ [34]).length≤_
 simp;omega
theorem uJ: ∀ts:List Str,sg (Txt.join " " ts)=sep (ts.map sg):=by
 intro ts
 have e:Txt.join " " ts=Str.join " " ts:=StrLaws.glued_eq_join _ _
 rw[e]
 have go: ∀ts:List Str,sg (Str.join " " ts)=sep (ts.map sg):=by
  intro ts
  induction ts with
  | nil=>rfl
  | cons x r ih=>
   cases r with
   | nil=>rfl
   | cons y r=>
    show sg (x++" "++Str.join " " (y::r))=sg x++32::sep ((y::r).map sg)
    rw[←ih]
    show(x++" "++Str.join " " (y::r)).cps.toList=_
    simp only[Str.cps_append,Array.toList_append]
    have:(Str.ofString " ").cps.toList=[32]:=rfl
    show x.cps.toList++ (Str.ofString " ").cps.toList++_=_
    rw[this]
    simp
 exact go ts
theorem yc: ∀ls:List (List Nat),(sep ls).length≤ (ls.map List.length).sum+ls.length
 | []=>Nat.zero_le _
 | [x]=>by simp[sep]
 | x::y::r=>by
  have ih:=yc (y::r)
  show(x++32::sep (y::r)).length≤_
  simp only[List.length_append,List.length_cons,List.map_cons,List.sum_cons] at ih⊢
  omega
theorem qA{ts:List Str}(h:sz ts+ts.length≤1000000):JoinOk " " ts=true:=by
 have go: ∀(l:List Str) (n:Nat),l.foldl (· + ·.length+ (Str.ofString " ").length) n=n+sz l+l.length:=by
  intro l
  induction l with
  | nil=>intro n;simp[sz]
  | cons t r ih=>
   intro n
   show r.foldl _ (n+t.length+1)=_
   rw[ih]
   show n+t.length+1+sz r+r.length=n+ (t.length+sz r)+ (r.length+1)
   omega
 unfold JoinOk
 have e:ts.toArray.foldl (· + ·.length+ (Str.ofString " ").length) 0=0+sz ts+ts.length:=by
  rw[List.foldl_toArray,go]
 rw[e]
 show(!decide (0+sz ts+ts.length>sizeLine))=true
 rw[decide_eq_false (by have:=cw h;omega)]
 rfl
theorem DP: ∀(w r:List Nat) (k:Nat),32∉w→(pos 32 (w++32::r) k).take 1=[k+w.length]
 | [],r,k,_=>by simp[pos]
 | c::w,r,k,h=>by
  have h1: ¬c=32:=fun e=>h (e ▸ List.mem_cons_self ..)
  show(if c=32 then k::pos 32 (w++32::r) (k+1) else pos 32 (w++32::r) (k+1)).take 1=_
  rw[if_neg h1,DP w r (k+1) fun m=>h (List.mem_cons_of_mem _ m)]
  simp;omega
theorem pos_none: ∀(w:List Nat) (k:Nat),32∉w→pos 32 w k=[]
 | [],k,_=>rfl
 | c::w,k,h=>by
  have h1: ¬c=32:=fun e=>h (e ▸ List.mem_cons_self ..)
  show(if c=32 then k::pos 32 w (k+1) else pos 32 w (k+1))=_
  rw[if_neg h1,pos_none w (k+1) fun m=>h (List.mem_cons_of_mem _ m)]
theorem N3{z w r:Str}(h:sg z=sg w++32::sg r)(hw:32∉sg w):iN z " "=[.str w, .str " ", .str r]:=by
 unfold iN
 have ho:Builtin.Str.occurrences z " " 0 z.length 1=[w.length]:=by
  have:=uA z 32 0 1 (Nat.zero_le _)
  rw[List.drop_zero] at this
  show Builtin.Str.occurrences z ⟨#[32]⟩ 0 z.length 1=_
  rw[this]
  show(pos 32 (sg z) 0).take 1=_
  rw[h,DP _ _ _ hw,len_list]
  simp
 rw[ho]
 have e1:Builtin.Str.strSub z 0 w.length=w:=fS (by
  show(z.cps.extract 0 w.length).toList=_
  rw[Array.toList_extract]
  show((sg z).extract 0 w.length)=_
  rw[h,len_list,List.extract_eq_drop_take]
  simp)
 have e2:Builtin.Str.strSub z (w.length+1) z.length=r:=fS (by
  show(z.cps.extract (w.length+1) z.length).toList=_
  rw[Array.toList_extract]
  show((sg z).extract (w.length+1) z.length)=_
  have hz:z.length=w.length+1+r.length:=by
   rw[len_list,len_list,len_list]
   show(sg z).length=_
   rw[h];simp;omega
  have lw:(sg w).length=w.length:=(len_list w).symm
  have lr:(sg r).length=r.length:=(len_list r).symm
  have e3:sg w++32::sg r=(sg w++ [32])++sg r:=by simp
  rw[h,hz,List.extract_eq_drop_take,e3,List.drop_left' (by simp[lw]),show w.length+1+r.length - (w.length+1)=r.length by omega,←lr,List.take_length])
 show[V.str (Builtin.Str.strSub z 0 w.length), .str " ", .str (Builtin.Str.strSub z (w.length+1) z.length)]=_
 rw[e1,e2]
theorem N4{z:Str}(h:32∉sg z):iN z " "=[.str z, .str Str.empty, .str Str.empty]:=by
 unfold iN
 have ho:Builtin.Str.occurrences z " " 0 z.length 1=[]:=by
  have:=uA z 32 0 1 (Nat.zero_le _)
  rw[List.drop_zero] at this
  show Builtin.Str.occurrences z ⟨#[32]⟩ 0 z.length 1=_
  rw[this]
  show(pos 32 (sg z) 0).take 1=_
  rw[pos_none _ _ h];rfl
 rw[ho]
end L2.eZ
namespace L2.B
open PySem PySem.Spec PyProof.Rows
abbrev Dn(Q:VK):Ends:={nx:=fun _ H'=>Q .aB H',rt:=Q}
theorem qB(x y:Str):(x++y).length=x.length+y.length:=by rw[len_list,app_list,List.length_append,←len_list,←len_list]
end L2.B
namespace L2
open PySem PySem.Spec PyProof.Rows
section
variable {Γ:aL} {D:Ends} {σ:St} {H:Hp} {r:List RS} {Q:VK} {QA:List V→Hp→Prop} {QT:Bool→Hp→Prop}
theorem ai{i:Nat}{v:V}(h:σ[i]?=some (some v))(q:Q v H):af Γ (.v i) σ H Q:=⟨_,h,q⟩
theorem ag{v:V}(q:Q v H):af Γ (.c v) σ H Q:=q
theorem gu{j:Nat}(q:Q (Γ.gv j) H):af Γ (.g j) σ H Q:=q
theorem aI{op:Operator}{a b:RE}(h:af Γ a σ H fun x H1=>af Γ b σ H1 fun y H2=>jj Γ.K op x y H2 Q):af Γ (.bin op a b) σ H Q:=h
theorem cM{op:CmpOp}{a b:RE}(h:af Γ a σ H fun x H1=>af Γ b σ H1 fun y H2=>bY Γ.K op x y H2 Q):af Γ (.cmp op a b) σ H Q:=h
theorem aV{a b:RE}(h:af Γ a σ H fun x H1=>af Γ b σ H1 fun y H2=>jm Γ.K Γ.sd x y H2 Q):af Γ (.ix a b) σ H Q:=h
theorem N5{j:Nat}{as:List RE}(h:aY Γ as σ H fun vs H1=>Γ.fs j (vs++ []) H1 Q Γ.E):af Γ (.call j as) σ H Q:=h
theorem bu{j:Nat}{as:List RE}(sp:Sp)(hs:Γ.fs j=sp)(h:aY Γ as σ H fun vs H1=>sp vs H1 Q Γ.E):af Γ (.call j as) σ H Q:=by
 subst hs
 refine N5 ?_
 have e:(fun(vs:List V) (H1:Hp)=>Γ.fs j (vs++ []) H1 Q Γ.E)=fun vs H1=>Γ.fs j vs H1 Q Γ.E:=by
  funext vs H1;rw[List.append_nil]
 rw[e];exact h
theorem uK{b:jW}{as:List RE}(h:aY Γ as σ H fun vs H1=>jX Γ.K b vs H1 Q):af Γ (.blt b as) σ H Q:=h
theorem cu{as:List RE}(h:aY Γ as σ H fun xs H1=>xs.length≤sizeLine∧ ∀p,H1 p=none→Q (.ref p) (upd H1 p (.tup xs))):af Γ (.tup as) σ H Q:=h
theorem bC{as:List RE}(h:aY Γ as σ H fun xs H1=>xs.length≤sizeLine∧ ∀p,H1 p=none→Q (.ref p) (upd H1 p (.lst xs))):af Γ (.lst as) σ H Q:=h
theorem N6{a c:RE}(h:af Γ a σ H fun x H1=>af Γ c σ H1 fun y H2=>iE Γ.K [x,y] H2 Q):af Γ (.cL a c) σ H Q:=h
theorem DQ{a c:RE}(h:af Γ a σ H fun x H1=>af Γ c σ H1 fun y H2=>iE Γ.K [x,y] H2 fun z H3=>fO Γ.K z H3 fun b=>QT b H3):bf Γ (.cL a c) σ H QT:=h
theorem aA(q:QA [] H):aY Γ [] σ H QA:=q
theorem aj{a:RE}{as:List RE}(h:af Γ a σ H fun x H1=>aY Γ as σ H1 fun xs H2=>QA (x::xs) H2):aY Γ (a::as) σ H QA:=h
theorem a_{i:Nat}{e:RE}(h:af Γ e σ H fun x H1=>aw Γ r D (σ.set i (some x)) H1):aw Γ (.asg i e::r) D σ H:=h
theorem qC{e:RE}(h:af Γ e σ H fun _ H1=>aw Γ r D σ H1):aw Γ (.drop e::r) D σ H:=h
theorem aG{e:RE}(h:af Γ e σ H D.rt):aw Γ (.ret e::r) D σ H:=h
end
section
variable {Γ:aL} {D:Ends} {σ:St} {H:Hp} {r:List RS} {Q:VK} {QA:List V→Hp→Prop} {QT:Bool→Hp→Prop}
theorem hX{K:Frag}{b:Bool}{QB:Bool→Prop}(h:QB b):fO K (.bl b) H QB:=h
theorem fc{a:RE}(h:bf Γ a σ H fun b H1=>QT (!b) H1):bf Γ (.not a) σ H QT:=h
theorem uL{j:Nat}{as:List RE}(sp:Sp)(hs:Γ.fs j=sp)(h:aY Γ as σ H fun vs H1=>sp vs H1 (fun x H2=>fO Γ.K x H2 fun b=>QT b H2) Γ.E):bf Γ (.call j as) σ H QT:=by
 subst hs
 show aY Γ as σ H fun vs H1=>Γ.fs j (vs++ []) H1 (fun x H2=>fO Γ.K x H2 fun b=>QT b H2) Γ.E
 have e:(fun(vs:List V) (H1:Hp)=>Γ.fs j (vs++ []) H1 (fun x H2=>fO Γ.K x H2 fun b=>QT b H2) Γ.E)=fun vs H1=>Γ.fs j vs H1 (fun x H2=>fO Γ.K x H2 fun b=>QT b H2) Γ.E:=by
  funext vs H1;rw[List.append_nil]
 rw[e];exact h
theorem uM{a b:RE}(h:bf Γ a σ H fun c H1=>if c=true then bf Γ b σ H1 QT else QT false H1):bf Γ (.and [a,b]) σ H QT:=h
end
end L2
namespace L2.B
end L2.B
namespace L2.B
open PySem PySem.Spec PyProof.Rows
theorem N7{T:Ty}{v:V}{H:Hp}{P Q:Bool→Prop}(h:bx T v H P)(i: ∀b,P b→Q b):bx T v H Q:=by
 cases v with
 | ref a=>
  unfold bx at h⊢
  simp only at h⊢
  split at h
  all_goals first | exact i _ h | exact h.elim
 | aB=>exact i _ h
 | bl b=>exact i _ h
 | int _=>exact i _ h
 | str _=>exact i _ h
 | _=>exact False.elim h
def gA(T:Ty)(v:V)(H:Hp):Prop:=bx T v H fun b=>b=false
theorem gA.go{T:Ty}{v:V}{H:Hp}{Q:Bool→Prop}(h:gA T v H)(q:Q false):bx T v H Q:=N7 h fun b e=>by rw[e];exact q
def bD(x:Str):Bool:=x.cps.toList.all fun c=>SG.cps.contains c
theorem nV{α:Type}(p:α→Bool): ∀l:List α,l.all p=false→(l.takeWhile p).length<l.length
 | [],h=>by cases h
 | c::l,h=>by
  rw[List.takeWhile_cons]
  cases hc:p c with
  | false=>simp
  | true=>
   rw[List.all_cons,hc,Bool.true_and] at h
   have:=nV p l h
   simp;omega
theorem N8(x y:Str)(h:(x.cps.toList.all fun c=>y.cps.contains c)=false):Txt.lstripChars x y≠"":=by
 have lt:=nV _ _ h
 have e0:stripLo y.cps.contains true x=(x.cps.toList.takeWhile y.cps.contains).length:=by
  unfold stripLo
  rw[if_pos rfl]
 have e1: ∀n,stripHi y.cps.contains false x n=x.length:=fun n=>rfl
 intro z
 have z2:=congrArg Str.length z
 have l0:(Str.ofString "").length=0:=rfl
 rw[l0] at z2
 unfold Txt.lstripChars Txt.stripBy stripSame stripped at z2
 rw[e0,e1] at z2
 have hx:x.cps.size=x.cps.toList.length:=by simp
 split at z2
 ·have:x.cps.size=0:=z2
  omega
 ·have z3:(x.cps.extract (x.cps.toList.takeWhile y.cps.contains).length x.cps.size).size=0:=z2
  rw[Array.size_extract,Nat.min_self] at z3
  have z4:x.cps.size - (List.takeWhile (fun c=>y.cps.contains c) x.cps.toList).length=0:=z3
  omega
def N9(v:V)(H:Hp):Prop:=(∃x,v= .str x∧x.length≤1000000∧bD x=false)∨gA .str v H
def DR(v:V)(H:Hp):Prop:=(∃b,v= .bl b)∨gA .int v H
def qD:Sp:=fun vs H Q E=> ∃v,vs=[v]∧((∃i,v= .int i∧Q (.bl true) H)∨(DR v H∧Q (.bl false) H))
theorem N_{K:Frag}(vs:List V)(H:Hp)(Q:VK)(E:XK)(h:qD vs H Q E):aw (aU K [] [] (E:=E)) xU (Dn Q) (start cE vs) H:=by
 obtain⟨v,rfl,⟨i,rfl,q⟩ | ⟨⟨b,rfl⟩ | hn,q⟩⟩:=h
 ·exact⟨_,rfl,rfl,_,rfl,jf ⟨_,rfl,rfl,q⟩⟩
 ·exact⟨_,rfl,rfl,_,rfl,jf ⟨_,rfl,rfl,q⟩⟩
 ·exact⟨_,rfl,rfl,hn.go ⟨_,rfl,nC q⟩⟩
def ka:Sp:=fun vs H Q E=> ∃v,vs=[v]∧((∃x,v= .str x∧good x∧Q (.bl true) H)∨(N9 v H∧Q (.bl false) H))
theorem Oa{K:Frag}(vs:List V)(H:Hp)(Q:VK)(E:XK)(h:ka vs H Q E):aw (aU K [] gS (E:=E)) uw (Dn Q) (start cE vs) H:=by
 obtain⟨v,rfl,⟨x,rfl,hx,q⟩ | ⟨⟨x,rfl,hl,hx⟩ | hn,q⟩⟩:=h
 ·exact NJ _ _ _ _ ⟨x,rfl,hx,q⟩
 ·refine⟨_,rfl,rfl,_,rfl,jf ⟨_,rfl,rfl,cw hl, ?_⟩⟩
  show Q (.bl (false ^^ decide (V.str (Txt.lstripChars x SG)=V.str ""))) H
  rw[decide_eq_false (fun z=>N8 x SG hx (by injection z))]
  exact q
 ·exact⟨_,rfl,rfl,hn.go ⟨_,rfl,nC q⟩⟩
def ju(K:Frag):Sp:=fun vs H Q E=> ∃v p xs,vs=[v, .ref p]∧aT K H p xs∧xs.all dc=true∧((∃w,v= .str w∧Q (.bl (bB (.str w) xs)) H)∨(gA .str v H∧Q (.bl false) H))
theorem Ob{K:Frag}(vs:List V)(H:Hp)(Q:VK)(E:XK)(h:ju K vs H Q E):aw (aU K [] [] (E:=E)) uv (Dn Q) (start nT vs) H:=by
 obtain⟨v,p,xs,rfl,hp,hf,⟨w,rfl,q⟩ | ⟨hn,q⟩⟩:=h
 ·exact NL _ _ _ _ ⟨w,p,xs,rfl,hp,hf,q⟩
 ·exact⟨_,rfl,rfl,hn.go ⟨_,rfl,nC q⟩⟩
structure kb (K:Frag) (cs:List Addr) (cv:Addr) (D:Addr) (j:Nat):Prop where
 cls:pU K D
 Oc: ∀i c,cs[i]?=some c→kitOne K (.ref D) (.ref c)=some (decide (i=j))
 cv:kitOne K (.ref D) (.ref cv)=some true
 val:kitOne K (.ref D) (.type "ValueError")=some true
def gB:List Str:=["text","change","fit","place","side","mark","node","cursor","deed","letter","gone","hand","note"]
abbrev gW(c0 c1 c2 c3 c4 c5 c6 c7 c8 c9 hZ h_ ia cv:Addr):List (Str×V):=
 [("BadText", .ref c0),("BadChange", .ref c1),("BadFit", .ref c2),("NoPlace", .ref c3),("BadSide", .ref c4),("NoMark", .ref c5),("NoNode", .ref c6),("NoCursor", .ref c7),("BadDeed", .ref c8),("BadLetter", .ref c9),("NoLetter", .ref hZ),("NoHand", .ref h_),("NoNote", .ref ia),("InkError", .ref cv)]
def qE(K:Frag)(cs:List Addr)(cv:Addr):Sp:=fun vs H Q E=> ∃ea D j,vs=[.ref ea]∧ExcAt H ea D∧kb K cs cv D j∧j<13∧ ∀H',ay H H'→Q (.str (gB.getD j "")) H'
theorem _root_.L2.ExcAt.same{H H':Hp}{ea D:Addr}(h:ExcAt H ea D)(s:ay H H'):ExcAt H' ea D:=ExcAt.keeps h fun b o u e=>s b _ e
def ib(H:Hp)(v:V)(p:Str×Bool):Prop:= ∃t,v= .ref t∧H t=some (.tup [.str p.1, .bl p.2])
theorem ib.mono{H H':Hp}{v:V}{p:Str×Bool}(h:ib H v p)(s:ay H H'):ib H' v p:=by
 obtain⟨t,e,h⟩:=h
 exact⟨t,e,s _ _ h⟩
theorem mi.mono{H H':Hp}(s:ay H H'): ∀{vs:List V} {ps:List (Str×Bool)},Paired (ib H) vs ps→Paired (ib H') vs ps
 | _,_, .nil=> .nil
 | _,_, .cons h r=> .cons (h.mono s) (mi.mono s r)
theorem mi.get{H:Hp}: ∀{vs:List V} {ps:List (Str×Bool)} {i:Nat} {v:V},Paired (ib H) vs ps→vs[i]?=some v→ ∃p,ps[i]?=some p∧ib H v p
 | _,_,i,v, .nil,e=>by simp at e
 | _,_,0,v, .cons h r,e=>by simp at e;subst e;exact⟨_,rfl,h⟩
 | _,_,i+1,v, .cons h r,e=>by
  obtain⟨p,a,b⟩:=mi.get (i:=i) r (by simpa using e)
  exact⟨p,by simpa using a,b⟩
theorem Paired.app{α β:Type}{R:α→β→Prop}: ∀{xs nW:List α} {ys yd:List β},Paired R xs ys→Paired R nW yd→Paired R (xs++nW) (ys++yd)
 | _,_,_,_, .nil,s=>s
 | _,_,_,_, .cons r t,s=> .cons r (Paired.app t s)
section
variable {Γ:aL} {cs:List Addr} {cv ea D:Addr} {j:Nat}
theorem ye(hk:kb Γ.K cs cv D j)(hg: ∀i c,cs[i]?=some c→Γ.gv i= .ref c): ∀(ws:List (Str×Nat)) (σ:St) (H:Hp) (Q:List V→Hp→Prop),(∀p∈ws,p.2<cs.length)→σ[0]?=some (some (.ref ea))→ExcAt H ea D→
  (∀vs H',ay H H'→Paired (ib H') vs (ws.map fun p=> (p.1,decide (p.2=j)))→Q vs H')→aY Γ (ws.map fun p=> .tup [(.c (.str p.1)),(.cL (.v 0) (.g p.2))]) σ H Q
 | [],σ,H,Q,_,_,_,q=>q [] H (ay.refl _) .nil
 | (w,i)::ws,σ,H,Q,hl,h0,he,q=>by
  have hi:i<cs.length:=hl (w,i) (.head _)
  have hc:cs[i]?=some cs[i]:=by simp[hi]
  have key: ∀k:VK,iE Γ.K [.ref ea, .ref cs[i]] H k→iE Γ.K [.ref ea,Γ.gv i] H k:=by
   intro k;rw[hg i _ hc];exact id
  refine aj (cu (aj (ag (aj (N6 (ai h0 (gu (key _ ⟨D,_,he,hk.cls, .inl ⟨_,rfl⟩,hk.Oc i _ hc,aA ⟨(by show 2≤sizeLine;decide),fun t ht=> ?_⟩⟩))))))))
  have s1:=sameNew (o:= .tup [.str w, .bl (decide (i=j))]) ht
  refine ye hk hg ws σ _ _ (fun p hp=>hl p (.tail _ hp)) h0 (he.same s1) fun vs H' s2 hp=> ?_
  exact q (.ref t::vs) H' (s1.trans s2) (.cons ⟨t,rfl,s2 _ _ az⟩ hp)
theorem uN(hk:kb Γ.K cs cv D j)(hg: ∀i c,cs[i]?=some c→Γ.gv i= .ref c)(ws:List (Str×Nat)){l:Addr}{xs:List V}{ps:List (Str×Bool)}{H:Hp}{r:List RS}{E:Ends}(hl: ∀p∈ws,p.2<cs.length)(he:ExcAt H ea D)(h1:H l=some (.lst xs))
  (hp:Paired (ib H) xs ps) (hn:xs.length+ws.length≤1000) (q: ∀l' nW H',ay H H'→H' l'=some (.lst nW)→Paired (ib H') nW (ps++ws.map fun p=> (p.1,decide (p.2=j)))→aw Γ r E [some (.ref ea),some (.ref l'),none] H'):
  aw Γ (.asg 1 (.bin .Add (.v 1) (.lst (ws.map fun p=> .tup [(.c (.str p.1)),(.cL (.v 0) (.g p.2))])))::r) E [some (.ref ea),some (.ref l),none] H:=by
 refine⟨_,rfl,ye hk hg ws _ H _ hl rfl he fun vs H1 s1 hv=> ⟨?_,fun d hd=> ?_⟩⟩
 ·have:=Paired.length hv
  rw[List.length_map] at this
  exact cw (by omega)
 ·have e1:upd H1 d (.lst vs) l=some (.lst xs):=by rw[bc (cO (s1 _ _ h1) hd)];exact s1 _ _ h1
  have uO:=Paired.length hv
  rw[List.length_map] at uO
  refine .inl ⟨l,d,xs,vs,rfl,rfl,e1,az,cw (by omega),fun e Od=> ?_⟩
  have s2:=(sameNew (o:= .lst vs) hd).trans (sameNew (o:= .lst (xs++vs)) Od)
  exact q e (xs++vs) _ (s1.trans s2) az (Paired.app (mi.mono (s1.trans s2) hp) (mi.mono s2 hv))
end
theorem Oe(j:Nat)(hj:j<13):(((gB.zipIdx).map fun p=> (p.1,decide (p.2=j))).filter (·.2)).map (·.1)=[gB.getD j ""]∧(gB.getD j "").length≤10:=by
 match j,hj with
 | 0,_ | 1,_ | 2,_ | 3,_ | 4,_ | 5,_ | 6,_ | 7,_ | 8,_ | 9,_ | 10,_ | 11,_ | 12,_=>exact⟨rfl,by decide+kernel⟩
theorem Of{Γ:aL}{as:List RE}{σ:St}{H:Hp}{Q:VK}(h:aY Γ as σ H fun xs H1=>xs.length≤sizeLine∧ ∀p,H1 p=none→Q (.ref p) (upd H1 p (.lst xs))):af Γ (.lst as) σ H Q:=h
theorem join_one(sep x:Str):Txt.join sep [x]=x:=fS rfl
theorem Og{α β:Type}(p:α→Bool)(f:α→β)(l:List α)(i:Nat)(v:α)(h:l[i]?=some v):((l.take (i+1)).filter p).map f=((l.take i).filter p).map f++ (if p v then [f v] else []):=by
 rw[NM p l i v h,List.map_append]
 cases p v<;>rfl
theorem Oh{Γ:aL}{i g:Nat}{ea D C:Addr}{b:Bool}{σ:St}{H:Hp}{Q:Bool→Hp→Prop}(h0:σ[i]?=some (some (.ref ea)))(he:ExcAt H ea D)(hc:pU Γ.K D)(hg:Γ.gv g= .ref C)(hk:kitOne Γ.K (.ref D) (.ref C)=some b)(q:Q b H):bf Γ (.cL (.v i) (.g g)) σ H Q:=by
 have key: ∀k:VK,iE Γ.K [.ref ea, .ref C] H k→iE Γ.K [.ref ea,Γ.gv g] H k:=by
  intro k;rw[hg];exact id
 exact DQ (ai h0 (gu (key _ ⟨D,b,he,hc, .inl ⟨_,rfl⟩,hk,q⟩)))
theorem Oi{Γ:aL}{i:Nat}{ea D:Addr}{n:String}{b:Bool}{σ:St}{H:Hp}{Q:Bool→Hp→Prop}(h0:σ[i]?=some (some (.ref ea)))(he:ExcAt H ea D)(hc:pU Γ.K D)(hk:kitOne Γ.K (.ref D) (.type n)=some b)(q:Q b H):bf Γ (.cL (.v i) (.c (.ty n))) σ H Q:=
 DQ (ai h0 (ag ⟨D,b,he,hc, .inr ⟨_,rfl⟩,hk,q⟩))
theorem Oj{Γ:aL}{cs:List Addr}{cv ea D:Addr}{j:Nat}{H:Hp}{Q:VK}(hl:cs.length=13)(hg: ∀i c,cs[i]?=some c→Γ.gv i= .ref c)(hi:Γ.gv 13= .ref cv)(he:ExcAt H ea D)(hk:kb Γ.K cs cv D j)(hj:j<13)(q: ∀H',ay H H'→Q (.str (gB.getD j "")) H'):
  aw Γ dw (Dn Q) [some (.ref ea),none,none] H:=by
 refine Nz (Of (ye hk hg [("text",0),("change",1),("fit",2)] _ H _ (by rw[hl];decide) rfl he fun vs H1 s1 hv=> ⟨?_,fun d hd=> ?_⟩))
 ·have:=Paired.length hv
  exact cw (by rw[this];simp)
 have s2:=s1.trans (sameNew (o:= .lst vs) hd)
 have DS:=mi.mono (sameNew (o:= .lst vs) hd) hv
 have uO:=Paired.length hv
 refine uN hk hg [("place",3),("side",4),("mark",5)] (by rw[hl];decide) (he.same s2) az DS (by rw[uO];simp) fun l3 xs3 H3 s3 h3 yf=> ?_
 have DT:=Paired.length yf
 refine uN hk hg [("node",6),("cursor",7)] (by rw[hl];decide) ((he.same s2).same s3) h3 yf (by rw[DT];simp) fun l4 xs4 H4 s4 h4 yg=> ?_
 have DU:=Paired.length yg
 refine uN hk hg [("deed",8),("letter",9)] (by rw[hl];decide) (((he.same s2).same s3).same s4) h4 yg (by rw[DU];simp) fun l5 xs5 H5 s5 h5 nX=> ?_
 have DV:=Paired.length nX
 refine uN hk hg [("gone",10),("hand",11),("note",12)] (by rw[hl];decide) ((((he.same s2).same s3).same s4).same s5) h5 nX (by rw[DV];simp) fun l6 ic H6 s6 h6 DW=> ?_
 have yh:Paired (ib H6) ic ((gB.zipIdx).map fun p=> (p.1,decide (p.2=j))):=DW
 obtain⟨pick,adl⟩:=Oe j hj
 have Ol:((gB.zipIdx).map fun p=> (p.1,decide (p.2=j))).length=13:=by rw[List.length_map];rfl
 generalize ((gB.zipIdx).map fun p=> (p.1,decide (p.2=j)))=its at yh pick Ol
 have Om:=Paired.length yh
 have Oo:=((((he.same s2).same s3).same s4).same s5).same s6
 have Oq:=(((s2.trans s3).trans s4).trans s5).trans s6
 clear DW nX yg yf DS hv uO DT DU DV
 refine NA ⟨_,rfl,l6,rfl,⟨_,aC.of h6⟩,fun i m ys H7=>m=ic.length - i∧i≤ic.length∧H7=H6∧ys=(((its.take i).filter (·.2)).map (·.1)).map V.str,⟨_,rfl,Nat.zero_le _,rfl,rfl⟩, ?_⟩
 rintro i m ys H7 ⟨rfl,ej,rfl,rfl⟩
 by_cases aQ:i<ic.length
 ·refine .inr ⟨⟨ic,ic[i],aC.of h6,by simp[aQ]⟩, ?_⟩
  rintro x H8 ⟨rfl,hx⟩
  obtain⟨⟨w,b⟩,hp,t,rfl,ht⟩:=mi.get yh (hx ic (aC.of h6))
  have tf:=Og (·.2) (·.1) its i _ hp
  refine⟨t,_,rfl,aT.of ht,rfl,_,rfl, ?_⟩
  show if b=true then _ else _
  cases b with
  | true=>
   refine jf ⟨_,rfl, ?_,ic.length - (i+1),by omega,rfl,aQ,rfl, ?_⟩
   ·rw[List.length_map,List.length_map]
    have:=List.length_filter_le (·.2) (its.take i)
    have:=List.length_take_le i its
    exact hV (by omega)
   ·rw[tf];simp
  | false=>
   refine nC ⟨ic.length - (i+1),by omega,rfl,aQ,rfl, ?_⟩
   rw[tf];simp
 ·have dY:i=ic.length:=by omega
  subst dY
  refine .inl ⟨⟨ic,aC.of h6,Nat.le_refl _⟩,fun p hp=> ?_⟩
  rw[Om,show its.take its.length=its from List.take_length ..,pick]
  have s7:=sameNew (o:= .lst (List.map V.str [gB.getD j ""])) hp
  have DX:=Oo.same s7
  refine NB (Oh rfl DX hk.cls hi hk.cv (Oi rfl DX hk.cls hk.val ?_))
  refine⟨rfl,_,rfl,[gB.getD j ""],aC.of az, ?_, ?_⟩
  ·unfold JoinOk
   show(!decide (0+ (gB.getD j "").length+ (Str.ofString "/").length>sizeLine))=true
   rw[decide_eq_false];rfl
   have:(Str.ofString "/").length=1:=rfl
   have:(1000:Nat)≤sizeLine:=by decide
   omega
  ·rw[join_one]
   exact q _ (Oq.trans s7)
theorem Ot{K:Frag}{c0 c1 c2 c3 c4 c5 c6 c7 c8 c9 hZ h_ ia cv:Addr}(vs:List V)(H:Hp)(Q:VK)(h:qE K [c0,c1,c2,c3,c4,c5,c6,c7,c8,c9,hZ,h_,ia] cv vs H Q E0):
  aw (aU K [] (gW c0 c1 c2 c3 c4 c5 c6 c7 c8 c9 hZ h_ ia cv)) dw (Dn Q) (start gr vs) H:=by
 obtain⟨ea,D,j,rfl,he,hk,hj,q⟩:=h
 refine Oj (Γ:=aU K [] (gW c0 c1 c2 c3 c4 c5 c6 c7 c8 c9 hZ h_ ia cv)) (cs:=[c0,c1,c2,c3,c4,c5,c6,c7,c8,c9,hZ,h_,ia]) rfl (fun i c hi=> ?_) rfl he hk hj q
 have ej:i<13:=(List.getElem?_eq_some_iff.mp hi).1
 match i,ej with
 | 0,_ | 1,_ | 2,_ | 3,_ | 4,_ | 5,_ | 6,_ | 7,_ | 8,_ | 9,_ | 10,_ | 11,_ | 12,_=>exact congrArg V.ref (Option.some.inj hi)
end L2.B
namespace L2.B
end L2.B
namespace L2
open PySem PySem.Spec PyProof.Rows
section
variable {Γ:aL} {D:Ends} {σ:St} {H:Hp} {r:List RS} {Q:VK} {QA:List V→Hp→Prop} {QT:Bool→Hp→Prop}
theorem bb{c:RE}{t e:List RS}(h:bf Γ c σ H fun b H1=>if b=true then aw Γ t {D with nx:=aw Γ r D} σ H1 else aw Γ e {D with nx:=aw Γ r D} σ H1):aw Γ (.ite c t e::r) D σ H:=h
theorem bg{op:CmpOp}{a b:RE}(h:af Γ a σ H fun x H1=>af Γ b σ H1 fun y H2=>bY Γ.K op x y H2 fun z H3=> ∃k,z= .bl k∧QT k H3):bf Γ (.cmp op a b) σ H QT:=h
theorem jv{m:gX}{o a:RE}(h:af Γ o σ H fun x H1=>jR Γ.K (tV m) x H1∧af Γ a σ H1 fun y H2=>xf Γ.K m x [y] H2 Q):af Γ (.di m o [a]) σ H Q:=h
theorem cA{K:Frag}{x y:Str}{Q:VK}(q:Q (.bl (x==y)) H):bY K .Eq (.str x) (.str y) H Q:=by
 show Q (.bl (false ^^ decide (V.str x=V.str y))) H
 rw[Bool.false_xor,sR];exact q
theorem uP{K:Frag}{x y:Str}{Q:VK}(q:Q (.bl (x !=y)) H):bY K .NotEq (.str x) (.str y) H Q:=by
 show Q (.bl (true ^^ decide (V.str x=V.str y))) H
 rw[Bool.true_xor,sR];exact q
end
end L2
namespace L2.B
open PySem PySem.Spec PyProof.Rows
section
variable {Γ:aL} {σ:St} {H:Hp} {Q:VK} {QT:Bool→Hp→Prop} {K:Frag}
theorem eE{a b:RE}{r:List RE}(h:bf Γ a σ H fun c H1=>if c=true then QT true H1 else bf Γ (.or (b::r)) σ H1 QT):bf Γ (.or (a::b::r)) σ H QT:=h
theorem gC{a:RE}(h:bf Γ a σ H QT):bf Γ (.or [a]) σ H QT:=h
theorem iO{T:Ty}{a:RE}(h:af Γ a σ H fun x H1=>bx T x H1 fun b=>QT b H1):bf Γ (.cT T a) σ H QT:=by
 show dE Γ.K (eM (gY T) (cz (af Γ a) (cz (tC (.ty T.nm)) fk))) σ H QT
 have e: ∀(q:VK),(fun(x:V) (H1:Hp)=>bx T x H1 fun b=>q (.bl b) H1)=fun x H1=>gY T [x, .ty T.nm] H1 q:=by
  intro q;funext x H1;simp[gY]
 show af Γ a σ H fun x H1=>gY T [x, .ty T.nm] H1 fun v H2=>fO Γ.K v H2 fun b=>QT b H2
 rw[←e];exact h
theorem cm{sd:Addr→List (Key×V)→Prop}{a:Addr}{xs:List V}{i:Int}{v:V}(h:H a=some (.tup xs))(e:cQ xs i=some v)(q:Q v H):jm K sd (.ref a) (.int i) H Q:=
 .inr (.inl ⟨_,_,_,_,rfl,rfl,aT.of h,e,q⟩)
theorem fq{x y:Int}(q:Q (.bl (decide (x=y))) H):bY K .Eq (.int x) (.int y) H Q:=by
 show Q (.bl (false ^^ decide (V.int x=V.int y))) H
 rw[Bool.false_xor,show decide (V.int x=V.int y)=decide (x=y) from decide_eq_decide.mpr ⟨fun z=>by injection z,fun z=>by rw[z]⟩];exact q
theorem DY{x y:Int}(q:Q (.bl (!decide (x=y))) H):bY K .NotEq (.int x) (.int y) H Q:=by
 show Q (.bl (true ^^ decide (V.int x=V.int y))) H
 rw[Bool.true_xor,show decide (V.int x=V.int y)=decide (x=y) from decide_eq_decide.mpr ⟨fun z=>by injection z,fun z=>by rw[z]⟩];exact q
theorem Ou{x y:Int}(q:Q (.bl (decide (y<x))) H):bY K .Gt (.int x) (.int y) H Q:=⟨trivial,q⟩
theorem fU{i j:Int}(h:Q (.int (i+j)) H):jj K .Add (.int i) (.int j) H Q:=h
theorem pick{its:List V}{j:Int}(h0:0≤j)(h1:j<its.length): ∃v∈its,cQ its j=some v:=by
 have DZ:j.toNat<its.length:=by omega
 refine⟨its[j.toNat],List.getElem_mem DZ, ?_⟩
 have e:=lq (xs:=its) (j:=j.toNat) (v:=its[j.toNat]) (by simp[DZ])
 rw[show((j.toNat:Nat):Int)=j by omega] at e
 exact e
end
theorem Ov{K:Frag}{σ:St}{H:Hp}{QQ:List V→Hp→Addr→Prop}{te:TE}{fv:List (Str×Nat)}{a:Addr}{xs:List V}(ha:H a=some (.lst xs))(hl:xs.length≤1000000)(P:Nat→List V→Hp→Prop)(p0:P 0 [] H)
  (step: ∀i x ys H2,xs[i]?=some x→ay H H2→P i ys H2→ ∀Q':VK,(∀y H3,ay H2 H3→P (i+1) (ys++ [y]) H3→Q' y H3)→te (some x::bj σ fv) H2 Q')
  (fin: ∀ys H2 p,ay H H2→P xs.length ys H2→H2 p=none→QQ ys H2 p): ∃W:Nat→Nat→List V→Hp→Prop,(∃m,W 0 m [] H)∧ ∀i m ys H2,W i m ys H2→
   ((cJ K a).stop i H2∧ ∀p,H2 p=none→QQ ys H2 p)∨
   ((cJ K a).go i H2∧ ∀x H3,(cJ K a).cZ i H2 x H3→dB K none x H3 fun zs=>dW none (zs.map some++bj σ fv) H3 fun b H5=>
    if b=true then te (zs.map some++bj σ fv) H5 fun y H6=>ys.length<sizeLine∧ ∃m',m'<m∧W (i+1) m' (ys++ [y]) H6 else ∃m',m'<m∧W (i+1) m' ys H5):=by
 refine⟨fun i m ys H2=>m=xs.length - i∧i≤xs.length∧ys.length=i∧ay H H2∧P i ys H2,⟨_,rfl,Nat.zero_le _,rfl,ay.refl _,p0⟩, ?_⟩
 rintro i m ys H2 ⟨rfl,hi,hy,s,p⟩
 by_cases aQ:i<xs.length
 ·refine .inr ⟨⟨xs,xs[i],aC.of (s _ _ ha),by simp[aQ]⟩, ?_⟩
  rintro x H3 ⟨rfl,hx⟩
  have dN:=hx xs (aC.of (s _ _ ha))
  exact step i x ys _ dN s p _ fun y H4 s4 p4=> ⟨hV (by omega),xs.length - (i+1),by omega,rfl,aQ,by simp[hy],s.trans s4,p4⟩
 ·have dY:i=xs.length:=by omega
  subst dY
  exact .inl ⟨⟨xs,aC.of (s _ _ ha),Nat.le_refl _⟩,fun q hq=>fin ys _ q s p hq⟩
theorem Ow{K:Frag}{σ:St}{H:Hp}{QQ:List V→Hp→Addr→Prop}{te:TE}{fv:List (Str×Nat)}{lo:Int}{n:Nat}(hl:n≤1000000)(P:Nat→List V→Hp→Prop)(p0:P 0 [] H)
  (step: ∀i ys H2,i<n→ay H H2→P i ys H2→ ∀Q':VK,(∀y H3,ay H2 H3→P (i+1) (ys++ [y]) H3→Q' y H3)→te (some (.int (lo+i))::bj σ fv) H2 Q')
  (fin: ∀ys H2 p,ay H H2→P n ys H2→H2 p=none→QQ ys H2 p): ∃W:Nat→Nat→List V→Hp→Prop,(∃m,W 0 m [] H)∧ ∀i m ys H2,W i m ys H2→
   ((ei lo n).stop i H2∧ ∀p,H2 p=none→QQ ys H2 p)∨
   ((ei lo n).go i H2∧ ∀x H3,(ei lo n).cZ i H2 x H3→dB K none x H3 fun zs=>dW none (zs.map some++bj σ fv) H3 fun b H5=>
    if b=true then te (zs.map some++bj σ fv) H5 fun y H6=>ys.length<sizeLine∧ ∃m',m'<m∧W (i+1) m' (ys++ [y]) H6 else ∃m',m'<m∧W (i+1) m' ys H5):=by
 refine⟨fun i m ys H2=>m=n - i∧i≤n∧ys.length=i∧ay H H2∧P i ys H2,⟨_,rfl,Nat.zero_le _,rfl,ay.refl _,p0⟩, ?_⟩
 rintro i m ys H2 ⟨rfl,hi,hy,s,p⟩
 by_cases aQ:i<n
 ·refine .inr ⟨aQ, ?_⟩
  rintro x H3 ⟨rfl,rfl⟩
  exact step i ys _ aQ s p _ fun y H4 s4 p4=> ⟨hV (by omega),n - (i+1),by omega,rfl,aQ,by simp[hy],s.trans s4,p4⟩
 ·have dY:i=n:=by omega
  subst dY
  exact .inl ⟨Nat.le_refl _,fun q hq=>fin ys _ q s p hq⟩
end L2.B
namespace L2.B
end L2.B
namespace L2.B
end L2.B
namespace L2.B
open PySem PySem.Spec PyProof.Rows
theorem bP{K:Frag}{sd:Addr→List (Key×V)→Prop}{H:Hp}{a:Addr}{xs:List V}{i:Int}{v:V}{Q:VK}(h:H a=some (.lst xs))(e:cQ xs i=some v)(q:Q v H):jm K sd (.ref a) (.int i) H Q:=
 .inl ⟨_,_,_,_,rfl,rfl,aC.of h,e,q⟩
def nY(K:Frag)(p:Addr)(xs:List V):Prop:= ∀H,aT K H p xs
end L2.B
namespace L2
open PySem PySem.Spec PyProof.Rows
theorem ak{α:Type _}{p:α→Prop}: ∀x∈ ([]:List α),p x:=fun _ h=>nomatch h
theorem aD{α:Type _}{p:α→Prop}{a:α}{l:List α}(h:p a)(t: ∀x∈l,p x): ∀x∈a::l,p x:=List.forall_mem_cons.2 ⟨h,t⟩
section
variable {P:Program} {w:World} {K:Frag}
end
section
variable {P:Program} {w:World} {K:Frag} {mg:Str→Option Value} {base:Heap} {k:Nat}
open PySem.W in
theorem D0{x:Str}{C:Addr}(X:K.In base)(G:base.Ns mainGlobals mg)(e:nsIn K mainGlobals x=some (some (.ref C)))(q:excIn K C [.type "ValueError", .type "Exception", .type "BaseException", .type "object"] "ValueError.__new__"=true):uu mg base (x,C):=by
 refine⟨_,_,_,_,⟨mg_of X G e, ?_⟩,PySem.F.excBase_ValueError⟩
 unfold excIn at q
 split at q
 ·rename_i dd cd sl ho
  split at q
  ·rename_i C' bm k0 k1 k2 k3 n k5 hm hs
   simp only[Bool.and_eq_true,beq_iff_eq,Bool.not_eq_true'] at q
   obtain⟨⟨⟨⟨⟨rfl,rfl⟩,D1⟩,ht⟩,aE⟩,ua⟩:=q
   obtain⟨nm,bs,mro,ns,qn,hd,sn,sub,ab,col,del⟩:=cd
   dsimp only at hm D1 aE ua
   subst hm D1
   obtain⟨sl⟩:=sl
   have Ox:sl=_:=hs
   subst Ox
   exact⟨bm,ns,nm,qn,bs,hd,sn,sub,ab,col,dd,k0,k1,k2,k3,k5,_,X _ _ ho, .of_isNs (isNs_of_in X aE),nsMap_none_of_in X aE ua,tail_of_in X ht⟩
  ·cases q
 ·cases q
end
namespace B
theorem Oy{K:Frag}{D cv c0 c1 c2 c3 c4 c5 c6 c7 c8 c9 hZ h_ ia:Addr}{b0 b1 b2 b3 b4 b5 b6 b7 b8 b9 yi yj yk:Bool}{j:Nat}(h:pU K D)(hi:kitOne K (.ref D) (.ref cv)=some true)(hv:kitOne K (.ref D) (.type "ValueError")=some true)
  (k0:kitOne K (.ref D) (.ref c0)=some b0) (k1:kitOne K (.ref D) (.ref c1)=some b1) (k2:kitOne K (.ref D) (.ref c2)=some b2) (k3:kitOne K (.ref D) (.ref c3)=some b3) (k4:kitOne K (.ref D) (.ref c4)=some b4)
  (k5:kitOne K (.ref D) (.ref c5)=some b5) (k6:kitOne K (.ref D) (.ref c6)=some b6) (k7:kitOne K (.ref D) (.ref c7)=some b7) (k8:kitOne K (.ref D) (.ref c8)=some b8) (k9:kitOne K (.ref D) (.ref c9)=some b9)
  (yl:kitOne K (.ref D) (.ref hZ)=some yi) (ym:kitOne K (.ref D) (.ref h_)=some yj) (yn:kitOne K (.ref D) (.ref ia)=some yk)
  (e:[b0,b1,b2,b3,b4,b5,b6,b7,b8,b9,yi,yj,yk]=(List.range 13).map fun i=>decide (i=j):=by decide):kb K [c0,c1,c2,c3,c4,c5,c6,c7,c8,c9,hZ,h_,ia] cv D j:=by
 refine⟨h,fun i c hc=> ?_,hi,hv⟩
 have ej:i<13:=(List.getElem?_eq_some_iff.mp hc).1
 have eb:=congrArg (fun l=>l[i]?) e
 match i,ej with
 | 0,_=>cases hc;have eb:some b0=some (decide (0=j)):=eb;rw[k0,eb]
 | 1,_=>cases hc;have eb:some b1=some (decide (1=j)):=eb;rw[k1,eb]
 | 2,_=>cases hc;have eb:some b2=some (decide (2=j)):=eb;rw[k2,eb]
 | 3,_=>cases hc;have eb:some b3=some (decide (3=j)):=eb;rw[k3,eb]
 | 4,_=>cases hc;have eb:some b4=some (decide (4=j)):=eb;rw[k4,eb]
 | 5,_=>cases hc;have eb:some b5=some (decide (5=j)):=eb;rw[k5,eb]
 | 6,_=>cases hc;have eb:some b6=some (decide (6=j)):=eb;rw[k6,eb]
 | 7,_=>cases hc;have eb:some b7=some (decide (7=j)):=eb;rw[k7,eb]
 | 8,_=>cases hc;have eb:some b8=some (decide (8=j)):=eb;rw[k8,eb]
 | 9,_=>cases hc;have eb:some b9=some (decide (9=j)):=eb;rw[k9,eb]
 | 10,_=>cases hc;have eb:some yi=some (decide (10=j)):=eb;rw[yl,eb]
 | 11,_=>cases hc;have eb:some yj=some (decide (11=j)):=eb;rw[ym,eb]
 | 12,_=>cases hc;have eb:some yk=some (decide (12=j)):=eb;rw[yn,eb]
end B
end L2
namespace L2.B
open PySem PySem.Spec PyProof.Rows
def Oz(v:V)(lo hi:Int)(H:Hp):Prop:=DR v H∨ ∃i,v= .int i∧(i<lo∨hi<i)
def jw:Sp:=fun vs H Q E=> ∃(v:V) (lo hi:Int),vs=[v, .int lo, .int hi]∧((∃i,v= .int i∧lo≤i∧i≤hi∧Q (.bl true) H)∨(Oz v lo hi H∧Q (.bl false) H))
theorem OA{K:Frag}(vs:List V)(H:Hp)(Q:VK)(E:XK)(h:jw vs H Q E):aw (aU K [("is_whole",qD)] [] (E:=E)) xY (Dn Q) (start qu vs) H:=by
 have chain: ∀(i lo hi:Int) (b:Bool) (H:Hp),decide (lo≤i∧i≤hi)=b→Q (.bl b) H→af (aU K [("is_whole",qD)] [] (E:=E)) (.iG .LtE .LtE (.v 1) (.v 0) (.v 2)) [some (.int i),some (.int lo),some (.int hi)] H Q:=by
  intro i lo hi b H hb q
  refine⟨_,rfl,_,rfl,trivial,_,rfl, ?_⟩
  refine wB (fun h1=> ?_) (fun h1=> ?_)
  ·refine⟨_,rfl,trivial, ?_⟩
   have uQ:lo≤i:=of_decide_eq_true h1
   have e:decide (i≤hi)=b:=by rw[←hb];simp[uQ]
   show Q (.bl (decide (i≤hi))) H
   rw[e];exact q
  ·have uQ: ¬lo≤i:=fun z=>h1 (decide_eq_true z)
   have e:b=false:=by rw[←hb];simp[uQ]
   have e2:decide (lo≤i)=false:=decide_eq_false uQ
   rw[e] at q
   first
    | exact q
    | (show Q (.bl (decide (lo≤i))) H;rw[e2];exact q)
 obtain⟨v,lo,hi,rfl,⟨i,rfl,h1,h2,q⟩ | ⟨hn | ⟨i,rfl,hb⟩,q⟩⟩:=h
 ·exact⟨_,rfl,_,rfl, .inl ⟨i,rfl,_,rfl,jf (chain i lo hi true H (by simp[h1,h2]) q)⟩⟩
 ·exact⟨_,rfl,_,rfl, .inr ⟨hn,_,rfl,nC q⟩⟩
 ·exact⟨_,rfl,_,rfl, .inl ⟨i,rfl,_,rfl,jf (chain i lo hi false H (by rw[decide_eq_false];rintro⟨a,b⟩;omega) q)⟩⟩
end L2.B
namespace L2.eZ
open PySem PySem.Spec L2.B
section
variable {Γ:aL} {D:Ends} {σ:St} {H:Hp} {r t:List RS} {Q:VK} {QA:List V→Hp→Prop} {QT:Bool→Hp→Prop} {K:Frag} {i:Nat} {a:Addr} {xs:List V} {w k k2 k3:Str}
theorem bK(h:aw Γ r D σ H):aw Γ [] {D with nx:=aw Γ r D} σ H:=h
theorem aX(e:σ[i]?=some (some (.str w)))(hn:(w==k)=false)(h:aw Γ r D σ H):aw Γ (.ite (.cmp .Eq (.v i) (.c (.str k))) t []::r) D σ H:=
 bb (bg (ai e (ag (cA ⟨_,rfl,iF (bK h) hn⟩))))
theorem dP(e:σ[i]?=some (some (.str w)))(hy:(w==k)=true)(h:aw Γ t {D with nx:=aw Γ r D} σ H):aw Γ (.ite (.cmp .Eq (.v i) (.c (.str k))) t []::r) D σ H:=
 bb (bg (ai e (ag (cA ⟨_,rfl,iT h hy⟩))))
theorem fV(e:σ[i]?=some (some (.ref a)))(ha:H a=some (.tup xs))(h0:cQ xs 0=some (.str w))(hn:(w==k)=false)(h:aw Γ r D σ H):aw Γ (.ite (.cmp .Eq (.ix (.v i) (.c (.int 0))) (.c (.str k))) t []::r) D σ H:=
 bb (bg (aV (ai e (ag (cm ha h0 (ag (cA ⟨_,rfl,iF (bK h) hn⟩)))))))
theorem qF(e:σ[i]?=some (some (.ref a)))(ha:H a=some (.tup xs))(h0:cQ xs 0=some (.str w))(hy:(w==k)=true)(h:aw Γ t {D with nx:=aw Γ r D} σ H):aw Γ (.ite (.cmp .Eq (.ix (.v i) (.c (.int 0))) (.c (.str k))) t []::r) D σ H:=
 bb (bg (aV (ai e (ag (cm ha h0 (ag (cA ⟨_,rfl,iT h hy⟩)))))))
theorem mj{p:Addr}(hp:H p=some (.tup xs))(hf:xs.all dc=true)(q:Q (.bl (bB (.str w) xs)) H):bY K .In (.str w) (.ref p) H Q:=⟨p,xs,rfl, .inr (aT.of hp),rfl,hf,q⟩
theorem cf{x y:V}:([x,y]:List V).length≤sizeLine:=by show 2≤sizeLine;decide
theorem mm{x y z:V}:([x,y,z]:List V).length≤sizeLine:=by show 3≤sizeLine;decide
theorem gE{x:V}:([x]:List V).length≤sizeLine:=by show 1≤sizeLine;decide
theorem jx(e:σ[i]?=some (some (.str w)))(hn:bB (.str w) [.str k, .str k2]=false)(h: ∀H',ay H H'→aw Γ r D σ H'):aw Γ (.ite (.cmp .In (.v i) (.tup [(.c (.str k)),(.c (.str k2))])) t []::r) D σ H:=
 bb (bg (ai e (cu (aj (ag (aj (ag (aA ⟨cf,fun p hp=>mj az rfl ⟨_,rfl,iF (bK (h _ (sameNew hp))) hn⟩⟩))))))))
theorem iP(e:σ[i]?=some (some (.str w)))(hy:bB (.str w) [.str k, .str k2]=true)(h: ∀H',ay H H'→aw Γ t {D with nx:=aw Γ r D} σ H'):aw Γ (.ite (.cmp .In (.v i) (.tup [(.c (.str k)),(.c (.str k2))])) t []::r) D σ H:=
 bb (bg (ai e (cu (aj (ag (aj (ag (aA ⟨cf,fun p hp=>mj az rfl ⟨_,rfl,iT (h _ (sameNew hp)) hy⟩⟩))))))))
theorem D2(e:σ[i]?=some (some (.str w)))(hn:bB (.str w) [.str k, .str k2, .str k3]=false)(h: ∀H',ay H H'→aw Γ r D σ H'):aw Γ (.ite (.cmp .In (.v i) (.tup [(.c (.str k)),(.c (.str k2)),(.c (.str k3))])) t []::r) D σ H:=
 bb (bg (ai e (cu (aj (ag (aj (ag (aj (ag (aA ⟨mm,fun p hp=>mj az rfl ⟨_,rfl,iF (bK (h _ (sameNew hp))) hn⟩⟩))))))))))
theorem D3(e:σ[i]?=some (some (.str w)))(hy:bB (.str w) [.str k, .str k2, .str k3]=true)(h: ∀H',ay H H'→aw Γ t {D with nx:=aw Γ r D} σ H'):aw Γ (.ite (.cmp .In (.v i) (.tup [(.c (.str k)),(.c (.str k2)),(.c (.str k3))])) t []::r) D σ H:=
 bb (bg (ai e (cu (aj (ag (aj (ag (aj (ag (aA ⟨mm,fun p hp=>mj az rfl ⟨_,rfl,iT (h _ (sameNew hp)) hy⟩⟩))))))))))
theorem uR(e:σ[i]?=some (some (.ref a)))(ha:H a=some (.tup xs))(h0:cQ xs 0=some (.str w))(hn:bB (.str w) [.str k, .str k2, .str k3]=false)(h: ∀H',ay H H'→aw Γ r D σ H'):aw Γ (.ite (.cmp .In (.ix (.v i) (.c (.int 0))) (.tup [(.c (.str k)),(.c (.str k2)),(.c (.str k3))])) t []::r) D σ H:=
 bb (bg (aV (ai e (ag (cm ha h0 (cu (aj (ag (aj (ag (aj (ag (aA ⟨mm,fun p hp=>mj az rfl ⟨_,rfl,iF (bK (h _ (sameNew hp))) hn⟩⟩)))))))))))))
theorem OB(e:σ[i]?=some (some (.ref a)))(ha:H a=some (.tup xs))(h0:cQ xs 0=some (.str w))(hy:bB (.str w) [.str k, .str k2, .str k3]=true)(h: ∀H',ay H H'→aw Γ t {D with nx:=aw Γ r D} σ H'):aw Γ (.ite (.cmp .In (.ix (.v i) (.c (.int 0))) (.tup [(.c (.str k)),(.c (.str k2)),(.c (.str k3))])) t []::r) D σ H:=
 bb (bg (aV (ai e (ag (cm ha h0 (cu (aj (ag (aj (ag (aj (ag (aA ⟨mm,fun p hp=>mj az rfl ⟨_,rfl,iT (h _ (sameNew hp)) hy⟩⟩)))))))))))))
theorem qG{P:Bool→Prop}(ha:H a=some (.tup xs))(q:P true):bx .tuple (.ref a) H P:=by
 unfold bx;simp only[ha];exact q
theorem kc{T:Ty}{x:Str}{P:Bool→Prop}(q:P (T== .str)):bx T (.str x) H P:=q
theorem qH{T:Ty}{n:Int}{P:Bool→Prop}(q:P (T== .int)):bx T (.int n) H P:=q
theorem qI{T:Ty}{b:Bool}{P:Bool→Prop}(q:P (T== .bool || T== .int)):bx T (.bl b) H P:=q
theorem jy{P:Nat→Prop}(ha:H a=some (.tup xs))(q:P xs.length):lF K (.ref a) H P:= .inr ⟨xs,aT.of ha,q⟩
theorem dZ{x:RE}(h:af Γ x σ H fun v H1=>lF Γ.K v H1 fun n=>Q (.int n) H1):af Γ (.blt .len [x]) σ H Q:=h
theorem kd{a b:RE}(h:af Γ a σ H fun x H1=> ∃c,x= .bl c∧if c=true then af Γ b σ H1 Q else Q (.bl false) H1):af Γ (.and [a,b]) σ H Q:=h
theorem D4{a b c:RE}(h:af Γ a σ H fun x H1=> ∃k,x= .bl k∧if k=true then af Γ (.and [b,c]) σ H1 Q else Q (.bl false) H1):af Γ (.and [a,b,c]) σ H Q:=h
theorem OC{a b:RE}(h:af Γ a σ H fun x H1=> ∃c,x= .bl c∧if c=true then Q (.bl true) H1 else af Γ b σ H1 Q):af Γ (.or [a,b]) σ H Q:=h
theorem yo{x:RE}(h:af Γ x σ H fun v H1=>qv Γ.K [v] H1 Q):af Γ (.xt mf [x]) σ H Q:=h
theorem D5{x:RE}(h:af Γ x σ H fun v H1=>qx [v] H1 Q):af Γ (.xt uE [x]) σ H Q:=h
theorem D6{T:Frag→TE→TA→TE}{rr:V→List V→Hp→VK→Prop}{x y:RE}(hT:T=fun K to t=>gR K "str" rr to t)(h:af Γ x σ H fun v H1=>jR Γ.K "str" v H1∧af Γ y σ H1 fun u H2=>rr v [u] H2 Q):af Γ (.xm T x [y]) σ H Q:=by
 subst hT;exact h
theorem yq{x:RE}{y w:Str}(h:af Γ x σ H fun v H1=>jR Γ.K "str" v H1∧uD v [.str y, .str w] H1 Q):af Γ (.xm qy x [(.c (.str y)),(.c (.str w))]) σ H Q:=h
theorem OD{ws:List Str}(h:w∈ws):bB (.str w) (ws.map V.str)=true:=
 List.any_eq_true.mpr ⟨.str w,List.mem_map.mpr ⟨w,h,rfl⟩,by show(w==w)=true;simp⟩
theorem mq(ws:List Str):(ws.map V.str).all dc=true:=List.all_eq_true.mpr fun v hv=>by
 obtain⟨x,_,rfl⟩:=List.mem_map.mp hv
 rfl
theorem nZ{QQ:List V→Hp→Addr→Prop}{te:TE}{fv:List (Str×Nat)}(ha:H a=some (.tup xs))(hl:xs.length≤1000000)(P:Nat→List V→Hp→Prop)(p0:P 0 [] H)
  (step: ∀i x ys H2,xs[i]?=some x→ay H H2→P i ys H2→ ∀Q':VK,(∀y H3,ay H2 H3→P (i+1) (ys++ [y]) H3→Q' y H3)→te (some x::bj σ fv) H2 Q')
  (fin: ∀ys H2 p,ay H H2→P xs.length ys H2→H2 p=none→QQ ys H2 p): ∃W:Nat→Nat→List V→Hp→Prop,(∃m,W 0 m [] H)∧ ∀i m ys H2,W i m ys H2→
   ((jM K a).stop i H2∧ ∀p,H2 p=none→QQ ys H2 p)∨
   ((jM K a).go i H2∧ ∀x H3,(jM K a).cZ i H2 x H3→dB K none x H3 fun zs=>dW none (zs.map some++bj σ fv) H3 fun b H5=>
    if b=true then te (zs.map some++bj σ fv) H5 fun y H6=>ys.length<sizeLine∧ ∃m',m'<m∧W (i+1) m' (ys++ [y]) H6 else ∃m',m'<m∧W (i+1) m' ys H5):=by
 refine⟨fun i m ys H2=>m=xs.length - i∧i≤xs.length∧ys.length=i∧ay H H2∧P i ys H2,⟨_,rfl,Nat.zero_le _,rfl,ay.refl _,p0⟩, ?_⟩
 rintro i m ys H2 ⟨rfl,hi,hy,s,p⟩
 by_cases aQ:i<xs.length
 ·refine .inr ⟨⟨xs,xs[i],aT.of (s _ _ ha),by simp[aQ]⟩, ?_⟩
  rintro x H3 ⟨rfl,hx⟩
  have dN:=hx xs (aT.of (s _ _ ha))
  exact step i x ys _ dN s p _ fun y H4 s4 p4=> ⟨hV (by omega),xs.length - (i+1),by omega,rfl,aQ,by simp[hy],s.trans s4,p4⟩
 ·have dY:i=xs.length:=by omega
  subst dY
  exact .inl ⟨⟨xs,aT.of (s _ _ ha),Nat.le_refl _⟩,fun q hq=>fin ys _ q s p hq⟩
theorem OE{b:Addr}{zs:List V}{QQ:List V→Hp→Addr→Prop}{te:TE}{fv:List (Str×Nat)}(ha:H a=some (.tup xs))(hb:H b=some (.tup zs))(hz:zs.length=xs.length)(hl:xs.length≤1000000)(P:Nat→List V→Hp→Prop)(p0:P 0 [] H)
  (step: ∀i x z ys H2,xs[i]?=some x→zs[i]?=some z→ay H H2→P i ys H2→ ∀Q':VK,(∀y H3,ay H2 H3→P (i+1) (ys++ [y]) H3→Q' y H3)→te (some x::some z::bj σ fv) H2 Q')
  (hP: ∀i ys H2 H3,ay H2 H3→P i ys H2→P i ys H3)
  (fin: ∀ys H2 p,ay H H2→P xs.length ys H2→H2 p=none→QQ ys H2 p): ∃W:Nat→Nat→List V→Hp→Prop,(∃m,W 0 m [] H)∧ ∀i m ys H2,W i m ys H2→
   ((jY K a b).stop i H2∧ ∀p,H2 p=none→QQ ys H2 p)∨
   ((jY K a b).go i H2∧ ∀x H3,(jY K a b).cZ i H2 x H3→dB K (some 2) x H3 fun us=>dW none (us.map some++bj σ fv) H3 fun b H5=>
    if b=true then te (us.map some++bj σ fv) H5 fun y H6=>ys.length<sizeLine∧ ∃m',m'<m∧W (i+1) m' (ys++ [y]) H6 else ∃m',m'<m∧W (i+1) m' ys H5):=by
 refine⟨fun i m ys H2=>m=xs.length - i∧i≤xs.length∧ys.length=i∧ay H H2∧P i ys H2,⟨_,rfl,Nat.zero_le _,rfl,ay.refl _,p0⟩, ?_⟩
 rintro i m ys H2 ⟨rfl,hi,hy,s,p⟩
 have qa:aT K H2 a xs:=aT.of (s _ _ ha)
 have qb:aT K H2 b zs:=aT.of (s _ _ hb)
 by_cases aQ:i<xs.length
 ·refine .inr ⟨⟨xs,zs,qa,qb,aQ,by omega⟩, ?_⟩
  rintro x H3 ⟨T,hT,rfl,hx⟩
  have D7:i<zs.length:=by omega
  have dN:=hx xs zs xs[i] zs[i] qa qb (by simp[aQ]) (by simp[D7])
  subst dN
  refine⟨T,[xs[i],zs[i]],rfl,aT.of az,rfl, ?_⟩
  exact step i xs[i] zs[i] ys _ (by simp[aQ]) (by simp[D7]) (s.trans (sameNew hT)) (hP _ _ _ _ (sameNew hT) p) _ fun y H4 s4 p4=> ⟨hV (by omega),xs.length - (i+1),by omega,rfl,aQ,by simp[hy],(s.trans (sameNew hT)).trans s4,p4⟩
 ·have dY:i=xs.length:=by omega
  subst dY
  exact .inl ⟨⟨xs,zs,qa,qb,by omega⟩,fun q hq=>fin ys _ q s p hq⟩
end
end L2.eZ
namespace L2.eZ
abbrev Tk:=Bool×List Nat
def wr(t:Tk):List Nat:=if t.1=true then qt t.2 else t.2
structure Ts where
 ts:List Tk
 k:Nat
 x:List Nat
 e:Bool
def bM(t:Ts)(c:Nat):Option Ts:=
 if t.e=true then
  if c=92 then some ⟨t.ts,t.k,t.x++ [92],false⟩ else if c=34 then some ⟨t.ts,t.k,t.x++ [34],false⟩ else if c=110 then some ⟨t.ts,t.k,t.x++ [10],false⟩ else none
 else if t.k=1 then
  if c=10 then none else if c=34 then some ⟨t.ts,2,t.x,false⟩ else if c=92 then some ⟨t.ts,1,t.x,true⟩ else some ⟨t.ts,1,t.x++ [c],false⟩
 else if c=32 then some ⟨t.ts++ [(decide (t.k=2),t.x)],0,[],false⟩
 else if t.k=2 then none
 else if c=34∧t.x=[] then some ⟨t.ts,1,t.x,false⟩
 else some ⟨t.ts,t.k,t.x++ [c],false⟩
def bX:List Nat→Ts→Option Ts
 | [],t=>some t
 | c::l,t=> (bM t c).bind (bX l)
theorem n5: ∀(a b:List Nat) (t:Ts),bX (a++b) t=(bX a t).bind (bX b)
 | [],b,t=>rfl
 | c::a,b,t=>by
  show(bM t c).bind (bX (a++b))=((bM t c).bind (bX a)).bind (bX b)
  cases bM t c with
  | none=>rfl
  | some u=>exact n5 a b u
def t0:Ts:=⟨[],0,[],false⟩
def ft(t:Ts):List Tk:=t.ts++ [(decide (t.k=2),t.x)]
def tok(l:List Nat):Option (List Tk):=(bX l t0).bind fun t=>if t.k=1 then none else some (ft t)
def pre(ts:List Tk):List Nat:=ts.flatMap fun t=>wr t++ [32]
def par(t:Ts):List Nat:=if t.k=0 then t.x else if t.k=1 then 34::(bz t.x++if t.e=true then [92] else []) else qt t.x
def mv(t:Tk):Prop:=t.1=false→32∉t.2∧t.2.head?≠some 34
structure n_ (t:Ts):Prop where
 ok: ∀y∈t.ts,mv y
 x:t.k=0→32∉t.x∧t.x.head?≠some 34
 e:t.e=true→t.k=1
 k:t.k≤2
theorem uS(l:List Nat)(c:Nat):bz (l++ [c])=bz l++cB c:=by simp[bz]
theorem OF(ts:List Tk)(t:Tk):pre (ts++ [t])=pre ts++ (wr t++ [32]):=by simp[pre]
theorem OG{t t':Ts}{c:Nat}(I:n_ t)(h:bM t c=some t'):n_ t'∧pre t'.ts++par t'=(pre t.ts++par t)++ [c]:=by
 obtain⟨ts,k,x,e⟩:=t
 obtain⟨iQ,ix,ie,ik⟩:=I
 dsimp only at iQ ix ie ik
 unfold bM at h
 dsimp only at h
 by_cases he:e=true
 ·rw[if_pos he] at h
  have hk:=ie he
  subst he hk
  by_cases h1:c=92
  ·rw[if_pos h1] at h;cases h;subst h1
   exact⟨⟨iQ,fun h=> (nomatch h),fun h=> (nomatch h),ik⟩,by simp[par,uS,cB]⟩
  rw[if_neg h1] at h
  by_cases h2:c=34
  ·rw[if_pos h2] at h;cases h;subst h2
   exact⟨⟨iQ,fun h=> (nomatch h),fun h=> (nomatch h),ik⟩,by simp[par,uS,cB]⟩
  rw[if_neg h2] at h
  by_cases h3:c=110
  ·rw[if_pos h3] at h;cases h;subst h3
   exact⟨⟨iQ,fun h=> (nomatch h),fun h=> (nomatch h),ik⟩,by simp[par,uS,cB]⟩
  rw[if_neg h3] at h;cases h
 rw[if_neg he] at h
 have he:e=false:=by simpa using he
 subst he
 by_cases hk:k=1
 ·rw[if_pos hk] at h
  subst hk
  by_cases h1:c=10
  ·rw[if_pos h1] at h;cases h
  rw[if_neg h1] at h
  by_cases h2:c=34
  ·rw[if_pos h2] at h;cases h;subst h2
   exact⟨⟨iQ,fun h=> (nomatch h),fun h=> (nomatch h),Nat.le_of_ble_eq_true rfl⟩,by simp[par,qt]⟩
  rw[if_neg h2] at h
  by_cases h3:c=92
  ·rw[if_pos h3] at h;cases h;subst h3
   exact⟨⟨iQ,fun h=> (nomatch h),fun _=>rfl,Nat.le_of_ble_eq_true rfl⟩,by simp[par]⟩
  rw[if_neg h3] at h;cases h
  exact⟨⟨iQ,fun h=> (nomatch h),fun h=> (nomatch h),Nat.le_of_ble_eq_true rfl⟩,by simp[par,uS,cB,h1,h2,h3]⟩
 rw[if_neg hk] at h
 by_cases h1:c=32
 ·rw[if_pos h1] at h;cases h;subst h1
  refine⟨⟨fun y hy=> ?_,fun _=> ⟨by simp,by simp⟩,fun h=> (nomatch h),Nat.le_of_ble_eq_true rfl⟩, ?_⟩
  ·rcases List.mem_append.mp hy with hy | hy
   ·exact iQ y hy
   ·rw[List.mem_singleton] at hy;subst hy
    intro hf
    refine ix ?_
    have:k≠2:=by simpa using hf
    omega
  ·rw[OF]
   by_cases h2:k=2
   ·subst h2;simp[par,wr]
   ·have:k=0:=by omega
    subst this;simp[par,wr]
 rw[if_neg h1] at h
 by_cases h2:k=2
 ·rw[if_pos h2] at h;cases h
 rw[if_neg h2] at h
 have:k=0:=by omega
 subst this
 by_cases h3:c=34∧x=[]
 ·rw[if_pos h3] at h;cases h
  obtain⟨rfl,rfl⟩:=h3
  exact⟨⟨iQ,fun h=> (nomatch h),fun h=> (nomatch h),Nat.le_of_ble_eq_true rfl⟩,by simp[par,bz]⟩
 rw[if_neg h3] at h;cases h
 refine⟨⟨iQ,fun _=> ⟨?_, ?_⟩,fun h=> (nomatch h),Nat.le_of_ble_eq_true rfl⟩,by simp[par]⟩
 ·simp only[List.mem_append,List.mem_singleton,not_or]
  exact⟨(ix rfl).1,fun e=>h1 e.symm⟩
 ·cases x with
  | nil=>simp at h3⊢;exact h3
  | cons a r=>exact(ix rfl).2
theorem uT: ∀{l:List Nat} {t t':Ts},n_ t→bX l t=some t'→n_ t'∧pre t'.ts++par t'=(pre t.ts++par t)++l
 | [],t,t',I,h=>by cases h;exact⟨I,by simp⟩
 | c::l,t,t',I,h=>by
  change (bM t c).bind (bX l)=some t' at h
  cases e:bM t c with
  | none=>rw[e] at h;cases h
  | some u=>
   rw[e] at h
   obtain⟨I1,e1⟩:=OG I e
   obtain⟨I2,e2⟩:=uT I1 h
   exact⟨I2,by rw[e2,e1];simp⟩
theorem D8: ∀(ts:List Tk) (t:Tk),sep ((ts++ [t]).map wr)=pre ts++wr t
 | [],t=>by simp[sep,pre]
 | [a],t=>by simp[sep,pre]
 | a::b::r,t=>by
  have:=D8 (b::r) t
  simp only[List.cons_append,List.map_cons] at this⊢
  rw[show sep (wr a::wr b::List.map wr (r++ [t]))=wr a++32::sep (wr b::List.map wr (r++ [t])) from rfl,this]
  simp[pre]
theorem uU{l:List Nat}{ts:List Tk}(h:tok l=some ts):ts≠ []∧(∀y∈ts,mv y)∧sep (ts.map wr)=l:=by
 unfold tok at h
 cases e:bX l t0 with
 | none=>rw[e] at h;cases h
 | some t=>
  rw[e] at h
  change (if t.k=1 then none else some (ft t))=some ts at h
  by_cases hk:t.k=1
  ·rw[if_pos hk] at h;cases h
  rw[if_neg hk] at h;cases h
  have I0:n_ t0:=⟨fun _ h=> (nomatch h),fun _=> ⟨by simp[t0],by simp[t0]⟩,fun h=> (nomatch h),by decide⟩
  obtain⟨I,e1⟩:=uT I0 e
  have e1:pre t.ts++par t=l:=by rw[e1];simp[pre,par,t0]
  refine⟨by simp[ft],fun y hy=> ?_, ?_⟩
  ·rcases List.mem_append.mp hy with hy | hy
   ·exact I.ok y hy
   ·rw[List.mem_singleton] at hy;subst hy
    intro hf
    refine I.x ?_
    have:=I.k
    have:t.k≠2:=by simpa using hf
    omega
  ·rw[show ft t=t.ts++ [(decide (t.k=2),t.x)] from rfl,D8,←e1]
   congr 1
   unfold par wr
   have:=I.k
   by_cases h2:t.k=2
   ·simp[h2]
   ·have:t.k=0:=by omega
    simp[this]
theorem D9(ts:List Tk): ∀(x y:List Nat),32∉x→(y=[]→x.head?≠some 34)→bX x ⟨ts,0,y,false⟩=some ⟨ts,0,y++x,false⟩
 | [],y,_,_=>by simp[bX]
 | c::x,y,h,hy=>by
  have hc:c≠32:=fun e=>h (by simp[e])
  have h3: ¬(c=34∧y=[]):=fun⟨e1,e2⟩=>hy e2 (by simp[e1])
  have e:bM ⟨ts,0,y,false⟩ c=some ⟨ts,0,y++ [c],false⟩:=by simp[bM,hc,h3]
  show(bM ⟨ts,0,y,false⟩ c).bind (bX x)=_
  rw[e]
  show bX x ⟨ts,0,y++ [c],false⟩=_
  rw[D9 ts x (y++ [c]) (fun hm=>h (List.mem_cons_of_mem _ hm)) (fun e=>by simp at e)]
  simp
theorem D_(ts:List Tk): ∀(x y:List Nat),bX (bz x) ⟨ts,1,y,false⟩=some ⟨ts,1,y++x,false⟩
 | [],y=>by simp[bz,bX]
 | c::x,y=>by
  have e:bX (cB c) ⟨ts,1,y,false⟩=some ⟨ts,1,y++ [c],false⟩:=by
   unfold cB
   by_cases h1:c=92
   ·subst h1;simp[bX,bM]
   by_cases h2:c=34
   ·subst h2;simp[bX,bM]
   by_cases h3:c=10
   ·subst h3;simp[bX,bM]
   simp[bX,bM,h1,h2,h3]
  rw[show bz (c::x)=cB c++bz x from rfl,n5,e]
  show bX (bz x) _=_
  rw[D_ ts x];simp
theorem Ea(ts:List Tk)(t:Tk)(h:mv t):bX (wr t) ⟨ts,0,[],false⟩=some ⟨ts,if t.1=true then 2 else 0,t.2,false⟩:=by
 obtain⟨b,x⟩:=t
 cases b with
 | false=>
  have:=D9 ts x [] (h rfl).1 (fun _=> (h rfl).2)
  simpa[wr] using this
 | true=>
  show bX (34::(bz x++ [34])) _=_
  have e1:bM ⟨ts,0,[],false⟩ 34=some ⟨ts,1,[],false⟩:=by simp[bM]
  show(bM ⟨ts,0,[],false⟩ 34).bind (bX (bz x++ [34]))=_
  rw[e1]
  show bX (bz x++ [34]) ⟨ts,1,[],false⟩=_
  rw[n5,D_]
  simp[bX,bM]
theorem Eb: ∀(r:List Tk) (t:Tk) (d:List Tk),(∀y∈t::r,mv y)→ ∃u,bX (sep ((t::r).map wr)) ⟨d,0,[],false⟩=some u∧u.k≠1∧ft u=d++t::r
 | [],t,d,h=>by
  refine⟨_,Ea d t (h t (by simp)), ?_, ?_⟩
  ·show(if t.1=true then 2 else 0)≠1
   split<;>decide
  ·obtain⟨b,x⟩:=t
   cases b<;>simp[ft]
 | s::r,t,d,h=>by
  have e1:=Ea d t (h t (by simp))
  obtain⟨u,e2,e3,e4⟩:=Eb r s (d++ [t]) fun y hy=>h y (List.mem_cons_of_mem _ hy)
  refine⟨u, ?_,e3,by rw[e4];simp⟩
  rw[show sep ((t::s::r).map wr)=wr t++32::sep ((s::r).map wr) from rfl,n5,e1]
  have e5:bM ⟨d,if t.1=true then 2 else 0,t.2,false⟩ 32=some ⟨d++ [t],0,[],false⟩:=by
   obtain⟨b,x⟩:=t
   cases b<;>simp[bM]
  show(bM _ 32).bind (bX (sep ((s::r).map wr)))=_
  rw[e5];exact e2
theorem uV{t:Tk}{r:List Tk}(h: ∀y∈t::r,mv y):tok (sep ((t::r).map wr))=some (t::r):=by
 obtain⟨u,e1,e2,e3⟩:=Eb r t [] h
 unfold tok
 rw[show t0=⟨[],0,[],false⟩ from rfl,e1]
 show(if u.k=1 then none else some (ft u))=_
 rw[if_neg e2,e3];simp
end L2.eZ
namespace L2.B
open PySem PySem.Spec PyProof.Rows
end L2.B
namespace L2
open PySem PySem.Spec PyProof.Rows
section
variable {CX:bw} {S:bI} {Γ:aL} {X:Cx} {a b:Expr} {x:Str} {p q pos:Pos} {ra rb:RE}
end
end L2
namespace L2.B
open PySem PySem.Spec PyProof.Rows
end L2.B
namespace L2
open PySem PySem.Spec PyProof.Rows
section
variable {X:Cx}
def uW:V→List V→Hp→VK→Prop:=fun x vs H Q=> ∃z y,x= .str z∧vs=[.str y]∧(y.length==0)=false∧z.length≤1000000∧ ∀l,H l=none→Q (.ref l) (upd H l (.lst ((Txt.split z y).map V.str)))
theorem Ec: ∀(l:List (Str×Tok)),Vals ((l.map (·.1)).map V.str) (strValues l)
 | []=> .nil
 | (x,t)::r=> .cons ⟨t,rfl⟩ (Ec r)
theorem OH:gQ X "str.split" uW:=by
 intro pins s σ H x vs v us Q I rx rv h
 obtain⟨z,y,rfl,rfl,hy,hz,q⟩:=h
 obtain⟨t,rfl⟩:=rx
 obtain⟨u,rfl,⟨t2,rfl⟩⟩:=vals1 rv
 have hs:z.length≤sizeLine:=Nat.le_trans hz (by decide)
 have hn:(Builtin.Str.partsBetween z (Builtin.Str.occurrences z y 0 z.length (z.length+1)) y.length).length≤sizeLine:=by
  have e1:=StrLaws.occ_length_le z y 0 z.length (z.length+1)
  rw[length_partsBetween]
  have:z.length+2≤sizeLine:=Nat.le_trans (Nat.add_le_add_right hz 2) (by decide)
  omega
 have ln:(Txt.split z y).length≤sizeLine:=by
  unfold Txt.split
  split
  ·show 1≤sizeLine;decide
  ·split
   ·show 1≤sizeLine;decide
   ·exact hn
 have qq:=q s.heap.objs.size (I.aE.fresh (Nat.le_refl _))
 have fin: ∀(l:List (Str×Tok)) (k:Nat),l.map (·.1)=Txt.split z y→EP X pins σ Q (.ref s.heap.objs.size) {s with toks:=k,heap:=s.heap.push {cls:= .type "list",data:= .seq (strValues l).toArray}}:=fun l k e=>by
  rw[←e] at qq ln
  exact⟨.ref s.heap.objs.size,_,I.laid (o:= .lst ((l.map (·.1)).map V.str)) (t':=k) (fun b u e=>Heap.get?_push_of_some _ e) (Nat.le_refl _) ⟨by rw[List.length_map];exact ln,_,_,Ec l,Heap.get?_push_size _ rfl⟩,rfl,qq⟩
 cases h1:(decide (z.length<y.length) || decide (Builtin.Str.strKind z<Builtin.Str.strKind y))
 ·cases hf:(Builtin.Str.occurrences z y 0 z.length (z.length+1)).isEmpty
  ·refine call_meets F.slot_str_split (typeIs_str _ _ _) F.entry_str_split (F.args_str_split_2 _ _) (meets_str_split_sep z y t t2 h1 hy hf hs hn) ?_
   show wants _ _ _ {s with toks:=_,heap:=s.heap.push {cls:= .type "list",data:= .seq (strsFrom s.toks (Builtin.Str.partsBetween z (Builtin.Str.occurrences z y 0 z.length (z.length+1)) y.length)).toArray}}
   rw[strsFrom_eq]
   exact fin (numbered s.toks _) _ ((numbered_texts _ _).trans ((if_neg (ne_true_of_eq_false h1)).trans (if_neg (ne_true_of_eq_false hf))).symm)
  ·exact call_meets F.slot_str_split (typeIs_str _ _ _) F.entry_str_split (F.args_str_split_2 _ _) (meets_str_split_not_found z y t t2 h1 hy hf)
    (fin [(z,t)] s.toks ((if_neg (ne_true_of_eq_false h1)).trans (if_pos hf)).symm)
 ·exact call_meets F.slot_str_split (typeIs_str _ _ _) F.entry_str_split (F.args_str_split_2 _ _) (meets_str_split_cannot_occur z y t t2 h1)
   (fin [(z,t)] s.toks (if_pos h1).symm)
def yr:Frag→TE→TA→TE:=fun K to t=>gR K "str" uW to t
end
section
variable {CX:bw} {S:bI} {Γ:aL} {X:Cx} {e e2 a b c d:Expr} {es:List Expr} {x:Str} {p q pos:Pos} {r ra rb rc:RE} {rs:List RE} {i j:Nat}
theorem OI{o:Expr}{ro:RE}{ap:Pos}(G:Good CX S Γ X)(ho:PE X o (af Γ ro))(hA:PA X (e::es) (aY Γ (r::rs)))(h:kM o "split" x (es.length+1) ap pos=true:=by kernel_rfl)(hn:dv (e::es)=true:=by kernel_rfl):PE X (.Call (.Attribute o x ap) (e::es) [] pos) (af Γ (.xm yr ro (r::rs))):=by
 simp only[kM,Bool.and_eq_true,decide_eq_true_eq] at h
 obtain⟨⟨⟨rfl,h2⟩,h3⟩,h4⟩:=h
 show PE X _ (gR Γ.K "str" uW (af Γ ro) (aY Γ (r::rs)))
 rw[←G.K]
 exact tj F.plainAttrs_str F.slot_str_split F.type_str_split OH ho hA (je h2) (x8 h4 (nM _ _ (e::es) hn) rfl) h3 (bZ (bR hn).1) (eR _ _ es (bR hn).2)
end
section
variable {X:Cx}
end
section
variable {CX:bw} {S:bI} {Γ:aL} {X:Cx} {e:Expr} {es:List Expr} {x:Str} {p pos:Pos} {r:RE} {rs:List RE}
end
end L2
namespace L2.B
open PySem PySem.Spec PyProof.Rows
noncomputable def yt:List RS:=
 [.ret (.or [(.cmp .Is (.v 0) (.c (.bl true))),(.cmp .Is (.v 0) (.c (.bl false)))])]
end L2.B
namespace L2.Ed
open PySem PySem.W PyProof.Rows
section
variable {n:Nat} {lt:Nat→Nat→Bool} {p:Array Nat}
variable {cmp:Nat→Nat→(Bool→Shared→Prop)→Shared→Prop} {R:Shared→Prop}
end
end L2.Ed
namespace L2
open PySem PySem.Spec PyProof.Rows PySem.W L2.Ed
section
variable {prog:Program} {w:World} {A:Around} {E:Value→Shared→Prop} {s:Shared} {vs:List Value} {ts:List T3}
end
section
variable {X:Cx}
end
section
variable {CX:bw} {S:bI} {Γ:aL} {X:Cx} {e:Expr} {es:List Expr} {x:Str} {p pos:Pos} {r:RE} {rs:List RE}
end
end L2
namespace L2
open PySem PySem.Spec PyProof.Rows
section
variable {prog:Program} {w:World} {A:Around} {E:Value→Shared→Prop} {s:Shared} {l:Addr} {xs:Array (Int×Tok)}
end
section
variable {X:Cx}
end
section
variable {CX:bw} {S:bI} {Γ:aL} {X:Cx} {e:Expr} {es:List Expr} {x:Str} {p pos:Pos} {r:RE} {rs:List RE}
end
end L2
namespace L2.B
open PySem PySem.Spec PyProof.Rows
end L2.B
namespace L2
open PySem PySem.Spec PyProof.Rows
def qJ:List (TE×TE)→St→Hp→(List (V×V)→Hp→Prop)→Prop
 | [],_,H,Q=>Q [] H
 | (tk,tv)::r,σ,H,Q=>tk σ H fun x H1=>tv σ H1 fun y H2=>qJ r σ H2 fun ps H3=>Q ((x,y)::ps) H3
abbrev VV:List (V×V)→List (Value×Value)→Prop:=Paired fun p q=>RelV p.1 q.1∧RelV p.2 q.2
def ke(X:Cx)(pos:Pos)(keys:List (Option Expr))(values:List Expr)(jz:List (TE×TE)):Prop:=
 ∀(pins:List (Addr×Obj)) (s:Shared) (σ:St) (H:Hp) (Q:List (V×V)→Hp→Prop),Inv X pins σ H s→qJ jz σ H Q→
  wpAny (model X.prog X.w) X.A (evalPairs (pairTrees keys values X.env pos)) (fun vs s'=> ∃ps H',Inv X pins σ H' s'∧VV ps vs∧Q ps H') X.xe s
theorem OJ{X:Cx}{pos:Pos}:ke X pos [] [] []:=fun pins s σ H Q I h=>pairTrees_nil_walk ⟨[],H,I, .nil,h⟩
theorem OK{X:Cx}{pos:Pos}{k v:Expr}{ks:List (Option Expr)}{vs:List Expr}{tk tv:TE}{jz:List (TE×TE)}(hk:PE X k tk)(hv:PE X v tv)(hr:ke X pos ks vs jz):
  ke X pos (some k::ks) (v::vs) ((tk,tv)::jz):=fun pins s σ H Q I h=>
 pairTrees_cons_walk (aJ (hk pins s σ H _ I h) fun u s1 ⟨x,H1,I1,rx,q1⟩=>aJ (hv pins s1 σ H1 _ I1 q1) fun w2 s2 ⟨y,H2,I2,ry,q2⟩=>
  aJ (hr pins s2 σ H2 _ I2 q2) fun ws s3 ⟨ps,H3,I3,rel,q3⟩=> ⟨(x,y)::ps,H3,I3, .cons ⟨rx,ry⟩ rel,q3⟩)
def ig(ar more:List (Key×V)):List (Key×V):=more.foldl (fun acc kv=>putK acc kv.1 kv.2) ar
theorem KV.merge: ∀{more:List (Key×V)} {rs:List (Key×Value)} {ar:List (Key×V)} {vs:List (Key×Value)},KV more rs→KV ar vs→KV (ig ar more) (merged vs rs):=by
 intro more rs ar vs r
 unfold KV at r
 induction r generalizing ar vs with
 | nil=>intro q;exact q
 | @cons p q ps qs h t ih=>
  intro r0
  have e:KV (putK ar p.1 p.2) (stored vs q.1 q.2):=by
   have:=r0.put p.1 h.2
   rw[←h.1];exact this
  exact ih e
theorem Ee: ∀(more ar:List (Key×V)),(ig ar more).length≤ar.length+more.length
 | [],ar=>by show ar.length≤ar.length+0;omega
 | p::r,ar=>by
  have h1:=Ee r (putK ar p.1 p.2)
  have h2:=wD ar p.1 p.2
  show(ig (putK ar p.1 p.2) r).length≤_
  rw[List.length_cons];omega
theorem Ef{P:Program}{w:World}: ∀{ar:List (Key×V)} {ws:List (Value×Value)},VV (ar.map fun kv=> (kV kv.1,kv.2)) ws→ ∃rs,Carries (cY P w) ws rs∧KV ar rs
 | [],_,r=>by rw[List.map_nil] at r;cases r;exact⟨[],True.intro, .nil⟩
 | p::ar,_,r=>by
  rw[List.map_cons] at r
  cases r with
  | @cons a b as bs h t=>
   obtain⟨rs,c,q⟩:=Ef (P:=P) (w:=w) t
   obtain⟨b1,b2⟩:=b
   exact⟨(p.1,b2)::rs,⟨tw h.1,rfl,c⟩, .cons ⟨rfl,h.2⟩ q⟩
def yu(jz:List (TE×TE)):TE:=fun σ H Q=> ∀p,H p=none→qJ jz σ (upd H p (.dK [])) fun ps H2=>H2 p=some (.dK [])∧ ∃ar:List (Key×V),ps=ar.map (fun kv=> (kV kv.1,kv.2))∧ar.length≤15∧Q (.ref p) (upd H2 p (.dK (ig [] ar)))
theorem OL{X:Cx}{pos:Pos}{keys:List (Option Expr)}{values:List Expr}{jz:List (TE×TE)}(h:ke X pos keys values jz)(lB:keys.all (·.isSome)=true)(hl:keys.length=values.length)(h0:keys≠ [])
  (OM:keys.length≤15):PE X (.Dict keys values pos) (yu jz):=by
 intro pins s σ H Q I q
 have hn:=I.aE.fresh (Nat.le_refl s.heap.objs.size)
 have I1:=I.laid (a:=s.heap.objs.size) (o:= .dK []) (h':=s.heap.push {cls:= .type "dict",data:= .dict #[]}) (t':=s.toks) (fun _ _ q=>Heap.get?_push_of_some _ q) (Nat.le_refl _) (J8 s.heap I.big)
 refine wpAny_Dict_walk (knd:=cY X.prog X.w) lB hl h0 OM (aJ (h pins _ σ _ _ I1 (q _ hn)) fun ws s2 ⟨ps,H2,I2,rel,e,ar,ep,lk,q2⟩=> ?_)
 subst ep
 obtain⟨rs,c,rk⟩:=Ef (P:=X.prog) (w:=X.w) rel
 obtain⟨z,hd,vs0,r0,dd⟩:=BR I2.aE e
 cases r0
 refine⟨rs,c,dd,fun h' lH hs=> ⟨.ref s.heap.objs.size,_, ?_,rfl,q2⟩⟩
 have hz:(ig [] ar).length≤sizeLine:=by
  have h1:=Ee ar []
  rw[List.length_nil] at h1
  rw[sizeLine_eq];omega
 have he: ∃q,h'.get? s.heap.objs.size=some q:=let ⟨q,_,_,hq,_⟩:=lH;⟨q,hq⟩
 exact wJ I2 (by rw[e];exact True.intro) hs he (BS hz hd (rk.merge .nil) lH)
def mw:List (Key×V)→List V
 | []=> []
 | kv::r=>kV kv.1::kv.2::mw r
def mx:List (V×V)→List V
 | []=> []
 | p::r=>p.1::p.2::mx r
def oa:Frag→TA→TE:=fun _ t σ H Q=> ∀p,H p=none→t σ (upd H p (.dK [])) fun vs H2=>H2 p=some (.dK [])∧ ∃ar:List (Key×V),vs=mw ar∧ar.length≤15∧Q (.ref p) (upd H2 p (.dK (ig [] ar)))
def kf(Γ:aL):List RE→List (TE×TE)
 | a::b::r=> (af Γ a,af Γ b)::kf Γ r
 | _=> []
theorem yv{Γ:aL}{σ:St}: ∀(rs:List RE) (H:Hp) (Q:List V→Hp→Prop),rs.length % 2=0→aY Γ rs σ H Q=qJ (kf Γ rs) σ H fun ps H2=>Q (mx ps) H2
 | [],H,Q,_=>rfl
 | [a],H,Q,e=>absurd e (by show ¬(1 % 2=0);decide)
 | a::b::r,H,Q,e=>by
  have e':r.length % 2=0:=by
   have:(r.length+1+1) % 2=0:=e
   omega
  show(af Γ a σ H fun x H1=>af Γ b σ H1 fun y H2=>aY Γ r σ H2 fun vs H3=>Q (x::y::vs) H3)=af Γ a σ H fun x H1=>af Γ b σ H1 fun y H2=>qJ (kf Γ r) σ H2 fun ps H3=>Q (x::y::mx ps) H3
  congr 1
  funext x H1
  congr 1
  funext y H2
  exact yv r H2 (fun vs H3=>Q (x::y::vs) H3) e'
theorem uX: ∀(ps:List (V×V)) (ar:List (Key×V)),mx ps=mw ar↔ps=ar.map fun kv=> (kV kv.1,kv.2)
 | [],[]=> ⟨fun _=>rfl,fun _=>rfl⟩
 | [],kv::r=> ⟨(fun h=>by cases h),(fun h=>by cases h)⟩
 | p::ps,[]=> ⟨(fun h=>by cases h),(fun h=>by cases h)⟩
 | p::ps,kv::r=>by
  constructor
  ·intro h
   have h1:p.1=kV kv.1:=(List.cons.inj h).1
   have h2:p.2=kv.2:=(List.cons.inj (List.cons.inj h).2).1
   have h3:=(uX ps r).mp (List.cons.inj (List.cons.inj h).2).2
   rw[h3,List.map_cons,←h1,←h2]
  ·intro h
   rw[List.map_cons] at h
   obtain⟨h1,h2⟩:=List.cons.inj h
   show p.1::p.2::mx ps=kV kv.1::kv.2::mw r
   rw[(uX ps r).mpr h2,h1]
theorem ON{Γ:aL}{K:Frag}(rs:List RE)(e:rs.length % 2=0):oa K (aY Γ rs)=yu (kf Γ rs):=by
 funext σ H Q
 unfold oa yu
 apply propext
 constructor
 ·intro h p hp
  have:=h p hp
  rw[yv rs _ _ e] at this
  have e2:(fun(ps:List (V×V)) (H2:Hp)=>H2 p=some (.dK [])∧ ∃ar:List (Key×V),mx ps=mw ar∧ar.length≤15∧Q (.ref p) (upd H2 p (.dK (ig [] ar))))=fun ps H2=>H2 p=some (.dK [])∧ ∃ar:List (Key×V),ps=ar.map (fun kv=> (kV kv.1,kv.2))∧ar.length≤15∧Q (.ref p) (upd H2 p (.dK (ig [] ar))):=by
   funext ps H2
   simp only[uX]
  rw[e2] at this
  exact this
 ·intro h p hp
  have:=h p hp
  rw[yv rs _ _ e]
  have e2:(fun(ps:List (V×V)) (H2:Hp)=>H2 p=some (.dK [])∧ ∃ar:List (Key×V),mx ps=mw ar∧ar.length≤15∧Q (.ref p) (upd H2 p (.dK (ig [] ar))))=fun ps H2=>H2 p=some (.dK [])∧ ∃ar:List (Key×V),ps=ar.map (fun kv=> (kV kv.1,kv.2))∧ar.length≤15∧Q (.ref p) (upd H2 p (.dK (ig [] ar))):=by
   funext ps H2
   simp only[uX]
  rw[e2]
  exact this
section
variable {CX:bw} {S:bI} {Γ:aL} {X:Cx} {pos:Pos} {k v:Expr} {ks:List (Option Expr)} {vs:List Expr} {rk rv:RE} {rs:List RE}
theorem OO:ke X pos [] [] (kf Γ []):=OJ
theorem OP(hk:PE X k (af Γ rk))(hv:PE X v (af Γ rv))(h:ke X pos ks vs (kf Γ rs)):ke X pos (some k::ks) (v::vs) (kf Γ (rk::rv::rs)):=OK hk hv h
def Eg(keys:List (Option Expr))(values:List Expr)(rs:List RE):Bool:=keys.all (·.isSome) && decide (keys.length=values.length) && decide (keys.length≠0) && decide (keys.length≤15) && decide (rs.length % 2=0)
theorem OQ(hp:ke X pos ks vs (kf Γ rs))(h:Eg ks vs rs=true:=by kernel_rfl):PE X (.Dict ks vs pos) (af Γ (.xt oa rs)):=by
 simp only[Eg,Bool.and_eq_true,decide_eq_true_eq] at h
 obtain⟨⟨⟨⟨h1,h2⟩,h3⟩,h4⟩,h5⟩:=h
 show PE X _ (oa Γ.K (aY Γ rs))
 rw[ON rs h5]
 exact OL hp h1 h2 (fun z=>h3 (by rw[z];rfl)) h4
end
section
variable {X:Cx} {e ee el st:Expr} {te tl ts:TE} {p2 pos:Pos}
end
section
variable {CX:bw} {S:bI} {Γ:aL} {X:Cx} {a:Expr} {ra:RE} {p q p1 p2 p3:Pos}
end
section
variable {prog:Program} {w:World} {A:Around} {E:Value→Shared→Prop} {s:Shared}
end
section
variable {CX:bw} {S:bI} {Γ:aL} {X:Cx} {e:Expr} {es:List Expr} {x y:Str} {p p2 pos adn:Pos} {r:RE} {rs:List RE}
end
end L2
namespace L2.B
open PySem PySem.Spec PyProof.Rows
end L2.B
namespace L2
open PySem PySem.Spec PyProof.Rows
section
variable {prog:Program} {w:World} {A:Around} {E:Value→Shared→Prop} {s:Shared}
theorem yw{j b:Addr}{k:Nat}{its:Array Value}{x:Value}{Q:Value→Shared→Prop}(st:s.heap.IsTupleIter j b k)(tp:s.heap.IsTuple b its)(ex:its[k]?=some x)
  (hQ: ∀h',h'.IsTupleIter j b (k+1)→Heap.SameBut j s.heap h'→Q x {s with heap:=h'}):wpAny (model prog w) A (Builtin.SmallTypes.nextOf (.ref j)) Q E s:=by
 obtain⟨oj,gj,cj,dj⟩:=id st
 obtain⟨ob,gb, -,nb,db⟩:=tp
 unfold Builtin.SmallTypes.nextOf
 refine wpAny_bind (wpAny_callSpecial?_slot (name:=Str.ofString "__next__") st.typeIs F.slot_tuple_iterator_next (wpAny_call_entry F.slot_tuple_iterator_next st.typeIs F.entry_tuple_iterator_next ?_ (F.args_tuple_iterator_next_1 _)))
 show wpAny _ _ (field (.ref j) 0>>=_) _ _ s
 refine wpAny_bind (wpAny_field gj dj (x:= .ref b) rfl ?_)
 show wpAny _ _ (if (Value.ref b==Value.none)=true then _ else _) _ _ s
 rw[if_neg (show ¬(Value.ref b==Value.none)=true from Bool.false_ne_true)]
 show wpAny _ _ (field (.ref j) 1>>=_) _ _ s
 refine wpAny_bind (wpAny_field gj dj (x:= .int k 0) rfl ?_)
 show wpAny _ _ (seqItems? (.ref b) >>=_) _ _ s
 refine wpAny_bind (wpAny_seqItems gb db ?_)
 simp only[Int.toNat_natCast,ex]
 refine wpAny_bind (wpAny_setField gj dj (by simp) (wpAny_pure ⟨x,rfl,wpAny_pure (hQ _ ⟨_,Heap.get?_update_self _ gj (Obj.isFreed_of_fields (Obj.data_mapFields dj _)),(Obj.cls_mapFields ..).trans cj, ?_⟩ (Heap.SameBut.update ..))⟩))
 rw[Obj.data_mapFields dj];simp[rawInt]
theorem Eh{j b:Addr}{k:Nat}{its:Array Value}{Q:Value→Shared→Prop}(hh:A.handled=none)(st:s.heap.IsTupleIter j b k)(tp:s.heap.IsTuple b its)(ex:its[k]?=none)
  (hE: ∀h' e,Heap.ExtBut j s.heap h'→(∃o,h'.get? e=some o∧o.cls= .type "StopIteration")→E (.ref e) {s with heap:=h'}):wpAny (model prog w) A (Builtin.SmallTypes.nextOf (.ref j)) Q E s:=by
 obtain⟨oj,gj,cj,dj⟩:=id st
 obtain⟨ob,gb, -,nb,db⟩:=tp
 unfold Builtin.SmallTypes.nextOf
 refine wpAny_bind (wpAny_callSpecial?_slot (name:=Str.ofString "__next__") st.typeIs F.slot_tuple_iterator_next (wpAny_call_entry F.slot_tuple_iterator_next st.typeIs F.entry_tuple_iterator_next ?_ (F.args_tuple_iterator_next_1 _)))
 show wpAny _ _ (field (.ref j) 0>>=_) _ _ s
 refine wpAny_bind (wpAny_field gj dj (x:= .ref b) rfl ?_)
 show wpAny _ _ (if (Value.ref b==Value.none)=true then _ else _) _ _ s
 rw[if_neg (show ¬(Value.ref b==Value.none)=true from Bool.false_ne_true)]
 show wpAny _ _ (field (.ref j) 1>>=_) _ _ s
 refine wpAny_bind (wpAny_field gj dj (x:= .int k 0) rfl ?_)
 show wpAny _ _ (seqItems? (.ref b) >>=_) _ _ s
 refine wpAny_bind (wpAny_seqItems gb db ?_)
 simp only[Int.toNat_natCast,ex]
 refine wpAny_bind (wpAny_rule (wpAny_bind (wpAny_setField gj dj (by simp) ?_)))
 show wpAny _ _ (newExc (.type "StopIteration") [] >>=_) _ _ _
 refine wpAny_bind ?_
 simp only[newExc,newTuple]
 refine wpAny_bind (wpAny_newObj_type ?_ (by size_fits))
 refine wpAny_bind (m:=firstArgMember _ _) (wpAny_of_eq (a:=Value.none) (by first | rfl | (simp only[firstArgMember];rfl)) (wpAny_newObj_type ?_ (by size_fits)))
 simp only[raiseNew]
 refine wpAny_bind (wpAny_handled ?_)
 first | rw[show A.in1.handled=none from hh] | rw[hh]
 exact wpAny_bind (wpAny_pure (wpAny_throw (hE _ _ (((Heap.SameBut.update ..).extBut.push _).push _) ⟨_,Heap.get?_push_size _ rfl,rfl⟩)))
theorem OR{z TI TO i1 i2 l1 l2:Addr}{k1 k2:Nat}{xs ys:Array Value}{x y a b:Value}{Q:Value→Shared→Prop}(D:ZipApart z TI TO i1 i2 l1 l2)
  (zz:IsZip s.heap z TI TO .none) (pi:IsPair s.heap TI (.ref i1) (.ref i2)) (po:IsPair s.heap TO a b)
  (j1:s.heap.IsTupleIter i1 l1 k1) (j2:s.heap.IsTupleIter i2 l2 k2) (t1:s.heap.IsTuple l1 xs) (t2:s.heap.IsTuple l2 ys) (ex:xs[k1]?=some x) (ey:ys[k2]?=some y)
  (hQ: ∀h',IsZip h' z TI TO (rawInt s.heap.objs.size)→IsPair h' TO x y→h'.IsTupleIter i1 l1 (k1+1)→h'.IsTupleIter i2 l2 (k2+1)→IsPair h' s.heap.objs.size x y→
   (∀c o,c≠z→c≠TO→c≠i1→c≠i2→s.heap.get? c=some o→h'.get? c=some o)→Q (.ref s.heap.objs.size) {s with heap:=h'}):
  wpAny (model prog w) A (Builtin.«zip.__next__» ⟨[.ref z],[]⟩) (fun fin s'=> ∃v,fin= .done (.ret v)∧Q v s') E s:=by
 show wpAny _ _ (field (.ref z) 2>>=_) _ _ _
 refine wpAny_bind (wpAny_field zz rfl (x:= .bool false) rfl ?_)
 show wpAny _ _ (field (.ref z) 3>>=_) _ _ _
 refine wpAny_bind (wpAny_field zz rfl (x:= .ref TI) rfl (wpAny_bind (wpAny_seqItems pi rfl ?_)))
 show wpAny _ _ (Builtin.SmallTypes.ownedTupleIsFree (.ref z) >>=_) _ _ _
 refine wpAny_bind ?_
 unfold Builtin.SmallTypes.ownedTupleIsFree
 refine wpAny_bind (wpAny_field zz rfl (x:= .none) rfl (wpAny_pure ?_))
 simp only[if_true]
 refine wpAny_bind (wpAny_rule (wpAny_bind (wpAny_field zz rfl (x:= .ref TO) rfl ?_)))
 refine wpAny_bind (wpAny_setField_rec zz (by simp) fun g1 za s1=> ?_)
 replace za:IsZip g1 z TI TO .ellipsis:=za
 refine wpAny_bind ?_
 simp only[List.zipIdx_cons,List.zipIdx_nil,List.forIn_cons,List.forIn_nil]
 refine wpAny_bind (wpAny_bind (wpAny_onRaise ?_))
 show wpAny _ _ (Builtin.SmallTypes.nextOf (.ref i1) >>=_) _ _ _
 refine wpAny_bind (yw (j1.extBut s1.extBut D.i1z) (t1.extBut s1.extBut D.l1z) ex fun g2 Ei s2=>wpAny_pure ?_)
 have qK:IsPair g2 TO a b:=s2.extBut _ _ D.TOi1 (s1.extBut _ _ D.TOz po)
 refine wpAny_bind (wpAny_seqItems qK rfl (wpAny_bind (wpAny_updateSeq_pair qK fun g3 uY s3=> ?_)))
 replace uY:IsPair g3 TO x b:=uY
 refine wpAny_bind (wpAny_letGo (wpAny_pure (wpAny_bind (wpAny_bind (wpAny_onRaise ?_)))))
 show wpAny _ _ (Builtin.SmallTypes.nextOf (.ref i2) >>=_) _ _ _
 refine wpAny_bind (yw (((j2.extBut s1.extBut D.i2z).extBut s2.extBut D.i12.symm).extBut s3.extBut D.TOi2.symm) (((t2.extBut s1.extBut D.l2z).extBut s2.extBut D.l2i1).extBut s3.extBut D.l2TO) ey fun g4 OS s4=>wpAny_pure ?_)
 have Ej:IsPair g4 TO x b:=s4.extBut _ _ D.TOi2 uY
 refine wpAny_bind (wpAny_seqItems Ej rfl (wpAny_bind (wpAny_updateSeq_pair Ej fun g5 uZ s5=> ?_)))
 replace uZ:IsPair g5 TO x y:=uZ
 refine wpAny_bind (wpAny_letGo (wpAny_pure (wpAny_pure (wpAny_bind (wpAny_seqItems uZ rfl (wpAny_bind (wpAny_newTuple ?_)))))))
 have sz:g5.objs.size=s.heap.objs.size:=by rw[s5.1,s4.1,s3.1,s2.1,s1.1]
 have zb:IsZip g5 z TI TO .ellipsis:=s5.extBut _ _ D.TOz.symm (s4.extBut _ _ D.i2z.symm (s3.extBut _ _ D.TOz.symm (s2.extBut _ _ D.i1z.symm za)))
 have kp: ∀c o,c≠z→c≠TO→c≠i1→c≠i2→s.heap.get? c=some o→g5.get? c=some o:=fun c o n1 n2 n3 n4 q=>
  s5.extBut _ _ n2 (s4.extBut _ _ n4 (s3.extBut _ _ n2 (s2.extBut _ _ n3 (s1.extBut _ _ n1 q))))
 have OT:g5.IsTupleIter i1 l1 (k1+1):=((Ei.extBut s3.extBut D.TOi1.symm).extBut s4.extBut D.i12).extBut s5.extBut D.TOi1.symm
 have OU:g5.IsTupleIter i2 l2 (k2+1):=OS.extBut s5.extBut D.TOi2.symm
 have u0:z<g5.objs.size:=Heap.lt_size zb
 show wpAny _ _ (Builtin.SmallTypes.ownedTupleHandOut (.ref z) (.ref g5.objs.size) >>=_) _ _ _
 refine wpAny_bind ?_
 unfold Builtin.SmallTypes.ownedTupleHandOut
 have zc:IsZip (g5.push {cls:= .type "tuple",data:= .seq #[x,y]}) z TI TO .ellipsis:=Heap.get?_push_of_some _ zb
 refine wpAny_bind (wpAny_setField_rec zc (by simp) fun g7 zd s7=> ?_)
 replace zd:IsZip g7 z TI TO (rawInt g5.objs.size):=zd
 refine wpAny_setField_rec zd (by simp) fun g8 ze s8=> ?_
 replace ze:IsZip g8 z TI TO (rawInt g5.objs.size):=ze
 have up: ∀c o,c≠z→g5.get? c=some o→g8.get? c=some o:=fun c o n q=>s8.extBut _ _ n (s7.extBut _ _ n (Heap.get?_push_of_some _ q))
 have pt:IsPair g8 g5.objs.size x y:=s8.extBut _ _ (Nat.ne_of_gt u0) (s7.extBut _ _ (Nat.ne_of_gt u0) (Heap.get?_push_size _ rfl))
 rw[sz] at ze pt
 refine wpAny_pure ⟨_,rfl, ?_⟩
 show Q (.ref g5.objs.size) _
 rw[sz]
 exact hQ g8 ze (up _ _ D.TOz uZ) (OT.at fun o q=>up _ o D.i1z q) (OU.at fun o q=>up _ o D.i2z q) pt fun c o n1 n2 n3 n4 q=>up c o n1 (kp c o n1 n2 n3 n4 q)
theorem OV{z TI TO i1 i2 l1 l2:Addr}{k1 k2:Nat}{xs ys:Array Value}{a b:Value}{Q:Fin→Shared→Prop}(hh:A.handled=none)(D:ZipApart z TI TO i1 i2 l1 l2)
  (zz:IsZip s.heap z TI TO .none) (pi:IsPair s.heap TI (.ref i1) (.ref i2)) (po:IsPair s.heap TO a b)
  (j1:s.heap.IsTupleIter i1 l1 k1) (j2:s.heap.IsTupleIter i2 l2 k2) (t1:s.heap.IsTuple l1 xs) (t2:s.heap.IsTuple l2 ys) (he:xs[k1]?=none∨ys[k2]?=none)
  (hE: ∀h' e,(∀c o,c≠z→c≠TO→c≠i1→c≠i2→s.heap.get? c=some o→h'.get? c=some o)→(∃o,h'.get? e=some o∧o.cls= .type "StopIteration")→E (.ref e) {s with heap:=h'}):
  wpAny (model prog w) A (Builtin.«zip.__next__» ⟨[.ref z],[]⟩) Q E s:=by
 show wpAny _ _ (field (.ref z) 2>>=_) _ _ _
 refine wpAny_bind (wpAny_field zz rfl (x:= .bool false) rfl ?_)
 show wpAny _ _ (field (.ref z) 3>>=_) _ _ _
 refine wpAny_bind (wpAny_field zz rfl (x:= .ref TI) rfl (wpAny_bind (wpAny_seqItems pi rfl ?_)))
 show wpAny _ _ (Builtin.SmallTypes.ownedTupleIsFree (.ref z) >>=_) _ _ _
 refine wpAny_bind ?_
 unfold Builtin.SmallTypes.ownedTupleIsFree
 refine wpAny_bind (wpAny_field zz rfl (x:= .none) rfl (wpAny_pure ?_))
 simp only[if_true]
 refine wpAny_bind (wpAny_rule (wpAny_bind (wpAny_field zz rfl (x:= .ref TO) rfl ?_)))
 refine wpAny_bind (wpAny_setField_rec zz (by simp) fun g1 za s1=> ?_)
 replace za:IsZip g1 z TI TO .ellipsis:=za
 refine wpAny_bind ?_
 simp only[List.zipIdx_cons,List.zipIdx_nil,List.forIn_cons,List.forIn_nil]
 refine wpAny_bind (wpAny_bind (wpAny_onRaise ?_))
 show wpAny _ _ (Builtin.SmallTypes.nextOf (.ref i1) >>=_) _ _ _
 cases ex:xs[k1]? with
 | none=>
  refine wpAny_bind (Eh hh (j1.extBut s1.extBut D.i1z) (t1.extBut s1.extBut D.l1z) ex fun g2 e s2 ⟨oe,ge,ce⟩=> ?_)
  have zb:IsZip g2 z TI TO .ellipsis:=s2 _ _ D.i1z.symm za
  have ne:e≠z:=fun q=>by subst q;rw[zb] at ge;cases ge;simp at ce
  exact wpAny_setField_rec zb (by simp) fun g3 _ s3=>hE g3 e (fun c o n1 _ n3 _ q=>s3.extBut _ _ n1 (s2 _ _ n3 (s1.extBut _ _ n1 q))) ⟨oe,s3.extBut _ _ ne ge,ce⟩
 | some x=>
  have ey:ys[k2]?=none:=by
   rcases he with q | q
   ·rw[ex] at q;cases q
   ·exact q
  refine wpAny_bind (yw (j1.extBut s1.extBut D.i1z) (t1.extBut s1.extBut D.l1z) ex fun g2 Ei s2=>wpAny_pure ?_)
  have qK:IsPair g2 TO a b:=s2.extBut _ _ D.TOi1 (s1.extBut _ _ D.TOz po)
  refine wpAny_bind (wpAny_seqItems qK rfl (wpAny_bind (wpAny_updateSeq_pair qK fun g3 uY s3=> ?_)))
  refine wpAny_bind (wpAny_letGo (wpAny_pure (wpAny_bind (wpAny_bind (wpAny_onRaise ?_)))))
  show wpAny _ _ (Builtin.SmallTypes.nextOf (.ref i2) >>=_) _ _ _
  refine wpAny_bind (Eh hh (((j2.extBut s1.extBut D.i2z).extBut s2.extBut D.i12.symm).extBut s3.extBut D.TOi2.symm) (((t2.extBut s1.extBut D.l2z).extBut s2.extBut D.l2i1).extBut s3.extBut D.l2TO) ey fun g4 e s4 ⟨oe,ge,ce⟩=> ?_)
  have zb:IsZip g4 z TI TO .ellipsis:=s4 _ _ D.i2z.symm (s3.extBut _ _ D.TOz.symm (s2.extBut _ _ D.i1z.symm za))
  have ne:e≠z:=fun q=>by subst q;rw[zb] at ge;cases ge;simp at ce
  exact wpAny_setField_rec zb (by simp) fun g5 _ s5=>hE g5 e (fun c o n1 n2 n3 n4 q=>s5.extBut _ _ n1 (s4 _ _ n4 (s3.extBut _ _ n2 (s2.extBut _ _ n3 (s1.extBut _ _ n1 q))))) ⟨oe,s5.extBut _ _ ne ge,ce⟩
theorem qL{h:Heap}{o:Obj}{n:Nat}(hn:n=h.objs.size)(hf:o.isFreed=false):(h.push o).get? n=some o:=by
 subst hn;exact Heap.get?_push_size _ hf
theorem OW(l1 l2:Addr)(xs ys:Array Value):
  Meets (Builtin.«zip.__new__» ⟨[.type "zip", .ref l1, .ref l2],[]⟩) (fun _ R s=>s.heap.IsTuple l1 xs∧s.heap.IsTuple l2 ys∧
   ∀h',IsZip h' (s.heap.objs.size+4) (s.heap.objs.size+2) (s.heap.objs.size+3) .none→IsPair h' (s.heap.objs.size+2) (.ref s.heap.objs.size) (.ref (s.heap.objs.size+1))→
   IsPair h' (s.heap.objs.size+3) .none .none→h'.IsTupleIter s.heap.objs.size l1 0→h'.IsTupleIter (s.heap.objs.size+1) l2 0→
   (∀c o,s.heap.get? c=some o→h'.get? c=some o)→R (.ok (.ret (.ref (s.heap.objs.size+4)))) {s with heap:=h'}):=
 .of_wp fun prog w A R s h=>by
  obtain⟨hp,g,d,tk,os⟩:=s
  obtain⟨t1,t2,h⟩:=h
  have u1:Heap.IsTuple (Shared.heap ⟨hp,g,d,tk,os⟩) l1 xs:=t1
  have u2:Heap.IsTuple (Shared.heap ⟨hp.push {cls:= .type "tuple_iterator",data:= .fields #[.ref l1, .int 0 0]},g,d,tk,os⟩) l2 ys:=Heap.IsTuple.push t2 _
  have su:=sub_zip
  wp_walk using wpAny_pyIter_tuple u1,wpAny_pyIter_tuple u2
  refine⟨_,rfl, ?_⟩
  have z1: ∀(h:Heap) (o:Obj),(h.push o).objs.size=h.objs.size+1:=fun h o=>Heap.size_push ..
  simp only[z1]
  refine h _ (qL (by simp only[z1]) rfl) (Heap.get?_push_of_some _ (Heap.get?_push_of_some _ (qL (by simp only[z1]) rfl))) (Heap.get?_push_of_some _ (qL (by simp only[z1]) rfl))
   ⟨{cls:= .type "tuple_iterator",data:= .fields #[.ref l1, .int 0 0]},Heap.get?_push_of_some _ (Heap.get?_push_of_some _ (Heap.get?_push_of_some _ (Heap.get?_push_of_some _ (qL rfl rfl)))),rfl,rfl⟩
   ⟨{cls:= .type "tuple_iterator",data:= .fields #[.ref l2, .int 0 0]},Heap.get?_push_of_some _ (Heap.get?_push_of_some _ (Heap.get?_push_of_some _ (qL (by simp only[z1]) rfl))),rfl,rfl⟩ fun c o q=> ?_
  exact Heap.get?_push_of_some _ (Heap.get?_push_of_some _ (Heap.get?_push_of_some _ (Heap.get?_push_of_some _ (Heap.get?_push_of_some _ q))))
theorem OX{l1 l2:Addr}{xs ys:Array Value}{Q:Value→Shared→Prop}(t1:s.heap.IsTuple l1 xs)(t2:s.heap.IsTuple l2 ys)
  (h: ∀h',IsZip h' (s.heap.objs.size+4) (s.heap.objs.size+2) (s.heap.objs.size+3) .none→IsPair h' (s.heap.objs.size+2) (.ref s.heap.objs.size) (.ref (s.heap.objs.size+1))→
   IsPair h' (s.heap.objs.size+3) .none .none→h'.IsTupleIter s.heap.objs.size l1 0→h'.IsTupleIter (s.heap.objs.size+1) l2 0→
   (∀c o,s.heap.get? c=some o→h'.get? c=some o)→Q (.ref (s.heap.objs.size+4)) {s with heap:=h'}):wpAny (model prog w) A (call (.type "zip") [.ref l1, .ref l2]) Q E s:=
 callType_new F.called_zip (by decide) (F.typeCall_zip_2 _ _) (F.newCall_zip_2 _ _) (fun obj=>F.args_object_init_3 obj _ _) F.entry_zip_new (OW l1 l2 xs ys) ⟨t1,t2,fun h' a b c d e k=> ⟨⟨_,a,rfl⟩,h h' a b c d e k⟩⟩
theorem OY{z TI TO i1 i2 l1 l2:Addr}{k1 k2:Nat}{xs ys:Array Value}{x y a b:Value}{Q:Option Value→Shared→Prop}(D:ZipApart z TI TO i1 i2 l1 l2)
  (zz:IsZip s.heap z TI TO .none) (pi:IsPair s.heap TI (.ref i1) (.ref i2)) (po:IsPair s.heap TO a b)
  (j1:s.heap.IsTupleIter i1 l1 k1) (j2:s.heap.IsTupleIter i2 l2 k2) (t1:s.heap.IsTuple l1 xs) (t2:s.heap.IsTuple l2 ys) (ex:xs[k1]?=some x) (ey:ys[k2]?=some y)
  (hQ: ∀h',IsZip h' z TI TO (rawInt s.heap.objs.size)→IsPair h' TO x y→h'.IsTupleIter i1 l1 (k1+1)→h'.IsTupleIter i2 l2 (k2+1)→IsPair h' s.heap.objs.size x y→
   (∀c o,c≠z→c≠TO→c≠i1→c≠i2→s.heap.get? c=some o→h'.get? c=some o)→Q (some (.ref s.heap.objs.size)) {s with heap:=h'}):
  wpAny (model prog w) A (pyNext (.ref z)) Q E s:=by
 have ty:s.TypeIs (.ref z) "zip":=⟨_,zz,rfl⟩
 unfold pyNext
 exact wpAny_bind (wpAny_attempt (wpAny_callSpecial?_slot (name:=Str.ofString "__next__") ty F.slot_zip_next (wpAny_call_entry F.slot_zip_next ty F.entry_zip_next (OR D zz pi po j1 j2 t1 t2 ex ey fun h' a b c d e f=>wpAny_pure (hQ h' a b c d e f)) (F.args_zip_next_1 _))))
theorem OZ{z TI TO i1 i2 l1 l2:Addr}{k1 k2:Nat}{xs ys:Array Value}{a b:Value}{Q:Option Value→Shared→Prop}(hh:A.handled=none)(D:ZipApart z TI TO i1 i2 l1 l2)
  (zz:IsZip s.heap z TI TO .none) (pi:IsPair s.heap TI (.ref i1) (.ref i2)) (po:IsPair s.heap TO a b)
  (j1:s.heap.IsTupleIter i1 l1 k1) (j2:s.heap.IsTupleIter i2 l2 k2) (t1:s.heap.IsTuple l1 xs) (t2:s.heap.IsTuple l2 ys) (he:xs[k1]?=none∨ys[k2]?=none)
  (hQ: ∀h',(∀c o,c≠z→c≠TO→c≠i1→c≠i2→s.heap.get? c=some o→h'.get? c=some o)→Q none {s with heap:=h'}):wpAny (model prog w) A (pyNext (.ref z)) Q E s:=by
 have ty:s.TypeIs (.ref z) "zip":=⟨_,zz,rfl⟩
 unfold pyNext
 refine wpAny_bind (wpAny_attempt (wpAny_callSpecial?_slot (name:=Str.ofString "__next__") ty F.slot_zip_next (wpAny_call_entry F.slot_zip_next ty F.entry_zip_next (OV hh D zz pi po j1 j2 t1 t2 he fun h' e kk ⟨o,ho,hc⟩=> ?_) (F.args_zip_next_1 _))))
 exact wpAny_bind (wpAny_isInstance (T:="StopIteration") (b:=true) ⟨o,ho,hc⟩ isSubtype_stop (wpAny_pure (hQ _ kk)))
end
theorem O0{P:Program}{w:World}{K:Frag}{elts:List Expr}{k:Nat}{pos:Pos}{z TI TO i1 i2 l1 l2:Addr}(D:ZipApart z TI TO i1 i2 l1 l2):
  Turn P w K (.Tuple elts k pos) (jY K l1 l2) [z,TI,TO,i1,i2] z
   (fun i h=>IsZip h z TI TO .none∧IsPair h TI (.ref i1) (.ref i2)∧(∃a b,IsPair h TO a b)∧h.IsTupleIter i1 l1 i∧h.IsTupleIter i2 l2 i) where
 mem:=by simp
 obj:=fun i h st b hb=>by
  obtain⟨hz,jA,⟨a,b',kg⟩,⟨o1,e1,c1,d1⟩,⟨o2,e2,c2,d2⟩⟩:=st
  simp only[List.mem_cons,List.not_mem_nil,or_false] at hb
  rcases hb with rfl | rfl | rfl | rfl | rfl
  ·exact⟨_,hz,fun v q=>by cases q⟩
  ·exact⟨_,jA,fun v q=>by cases q⟩
  ·exact⟨_,kg,fun v q=>by cases q⟩
  ·exact⟨_,e1,fun v q=>by rw[d1] at q;cases q⟩
  ·exact⟨_,e2,fun v q=>by rw[d2] at q;cases q⟩
 keep:=fun i h h' st hk=>by
  obtain⟨hz,jA,⟨a,b',kg⟩,h1,h2⟩:=st
  exact⟨hk z (by simp) _ hz,hk TI (by simp) _ jA,⟨a,b',hk TO (by simp) _ kg⟩,h1.at fun o e=>hk i1 (by simp) o e,h2.at fun o e=>hk i2 (by simp) o e⟩
 item:=by
  intro X hP hw hK hc i pins s σ H E I hf st hg
  subst hP hw hK
  obtain⟨xs,ys,hx,hy,Ek,El⟩:=hg
  obtain⟨og,r1,p1,z1⟩:=I.tuple hx
  obtain⟨eN,r2,p2,z2⟩:=I.tuple hy
  have my:=r1.length
  have gi:=r2.length
  obtain⟨hz,jA,⟨a0,b0,kg⟩,h1,h2⟩:=id st
  obtain⟨u,eu,ra⟩:=r1.get (i:=i) (x:=xs[i]) (by simp[Ek])
  obtain⟨v,ev,rb⟩:=r2.get (i:=i) (x:=ys[i]) (by simp[El])
  refine OY D hz jA kg h1 h2 (show s.heap.IsTuple l1 og.toArray from p1) (show s.heap.IsTuple l2 eN.toArray from p2) (x:=u) (y:=v) (by simpa using eu) (by simpa using ev) fun h' q1 q2 q3 q4 q5 kk=> ?_
  have u0: @LT.lt Nat _ z s.heap.objs.size:=Heap.lt_size hz
  refine⟨_,rfl,wpAny_letOwnedTupleGo_zip q1 fun u9 u_ sb=> ?_⟩
  have k2: ∀b o,b∉ [z,TO,i1,i2]→s.heap.get? b=some o→u9.get? b=some o:=fun b o hb e=>by
   simp only[List.mem_cons,List.not_mem_nil,or_false,not_or] at hb
   exact sb.extBut _ _ hb.1 (kk b o hb.1 hb.2.1 hb.2.2.1 hb.2.2.2 e)
  have fz: ∀b∈ [z,TO,i1,i2],b∈ [z,TI,TO,i1,i2]:=fun b hb=>by
   simp only[List.mem_cons,List.not_mem_nil,or_false] at hb⊢
   rcases hb with rfl | rfl | rfl | rfl<;>simp
  have I1:Inv X pins σ H {s with heap:=u9}:=by
   refine I.step (g':=s.gens) (d':=s.drawn) (t':=s.toks) (ch:=[z,TO,i1,i2]) (fun b hb=> ?_) (fun b o _ _ hc e _=>k2 b o hc e) (fun b o _ _ hc e _=> ⟨o.slots,k2 b o hc e⟩) (fun _ _ _ _ n=>n)
    (fun b o hc e=> ⟨o,k2 b o hc e⟩) (fun _ _ e=>e) (fun _ _ _ e=>e) (fun b ps e=> ⟨#[],by rw[e];simp⟩) (fun m hm=> ?_) (fun b o e=> ?_) I.bare
   ·obtain⟨f0,f1,f2,f3,f4,f5⟩:=hf b (fz b hb)
    exact⟨f3,f1,f4,f5⟩
   ·obtain⟨o,es,ep,ho,r⟩:=hm
    exact⟨o,es,ep,k2 _ o (fun hb=> (hf _ (fz _ hb)).2.1 rfl) ho,r⟩
   ·have nb: ∀c o',H c=some o'→c∉ [z,TO,i1,i2]:=fun c o' e hb=>by
     rw[(hf c (fz c hb)).1] at e;cases e
    refine(I.aE b o e).iu (fun c q eh e'=>k2 c q ?_ e') (fun _ q=>q) fun _ _ q=>q
    rcases eh with rfl | eh
    ·exact nb _ _ e
    ·exact nb _ _ eh
  have fT:H s.heap.objs.size=none:=I.aE.fresh (Nat.le_refl _)
  have tT:u9.IsTuple s.heap.objs.size #[u,v]:=⟨_,sb.extBut _ _ (Nat.ne_of_gt u0) q5,rfl,_,rfl⟩
  have I2:Inv X pins σ (upd H s.heap.objs.size (.tup [xs[i],ys[i]])) {s with heap:=u9}:=by
   refine Inv.BY I1 fT I.sz (Nat.ne_of_gt I.lt) (fun x c e q=> ?_) (fun p hp q=> ?_) ⟨by show 2≤sizeLine;decide,[u,v], .cons ra (.cons rb .nil),tT⟩
   ·obtain⟨v',q'⟩:=I.cell x c e
    have:=q'.lt
    rw[q] at this
    exact absurd this (Nat.lt_irrefl _)
   ·have:=Heap.lt_size (I.pin p hp).1
    rw[q] at this
    exact absurd this (Nat.lt_irrefl _)
  refine⟨.ref s.heap.objs.size,_,I2,rfl,⟨s.heap.objs.size,fT,rfl,fun nW yd a' b' dN wu ea eb=> ?_⟩, ?_,fun c eh=> ?_⟩
  ·rw[I.vS dN hx] at ea
   rw[I.vS wu hy] at eb
   simp only[Ek,El,List.getElem?_eq_getElem,Option.some.injEq] at ea eb
   rw[ea,eb]
  ·exact⟨u_,sb.extBut _ _ D.TIz (kk _ _ D.TIz D.TITO D.TIi1 D.TIi2 jA),⟨_,_,sb.extBut _ _ D.TOz q2⟩,q3.extBut sb.extBut D.i1z,q4.extBut sb.extBut D.i2z⟩
  ·have n0:=(hf c eh).1
   have:c≠s.heap.objs.size:=fun q=>by
    obtain⟨o,e⟩: ∃o,s.heap.get? c=some o:=by
     obtain⟨o1,e1,_⟩:=h1
     obtain⟨o2,e2,_⟩:=h2
     simp only[List.mem_cons,List.not_mem_nil,or_false] at eh
     rcases eh with rfl | rfl | rfl | rfl | rfl
     ·exact⟨_,hz⟩
     ·exact⟨_,jA⟩
     ·exact⟨_,kg⟩
     ·exact⟨_,e1⟩
     ·exact⟨_,e2⟩
    have:=Heap.lt_size e
    rw[q] at this
    exact absurd this (Nat.lt_irrefl _)
   rw[bc this];exact n0
 done:=by
  intro X hP hw hK hc i pins s σ H E I hf st hg
  subst hP hw hK
  obtain⟨xs,ys,hx,hy,hi⟩:=hg
  obtain⟨og,r1,p1,z1⟩:=I.tuple hx
  obtain⟨eN,r2,p2,z2⟩:=I.tuple hy
  have my:=r1.length
  have gi:=r2.length
  obtain⟨hz,jA,⟨a0,b0,kg⟩,h1,h2⟩:=id st
  have he:og.toArray[i]?=none∨eN.toArray[i]?=none:=by
   rcases Nat.le_total xs.length ys.length with q | q
   ·exact .inl (by simp;omega)
   ·exact .inr (by simp;omega)
  refine OZ (I.ok.hd hc) D hz jA kg h1 h2 (show s.heap.IsTuple l1 og.toArray from p1) (show s.heap.IsTuple l2 eN.toArray from p2) he fun h' kk=> ⟨rfl, ?_⟩
  have k2: ∀b o,b∉ [z,TO,i1,i2]→s.heap.get? b=some o→h'.get? b=some o:=fun b o hb e=>by
   simp only[List.mem_cons,List.not_mem_nil,or_false,not_or] at hb
   exact kk b o hb.1 hb.2.1 hb.2.2.1 hb.2.2.2 e
  have fz: ∀b∈ [z,TO,i1,i2],b∈ [z,TI,TO,i1,i2]:=fun b hb=>by
   simp only[List.mem_cons,List.not_mem_nil,or_false] at hb⊢
   rcases hb with rfl | rfl | rfl | rfl<;>simp
  refine I.step (g':=s.gens) (d':=s.drawn) (t':=s.toks) (ch:=[z,TO,i1,i2]) (fun b hb=> ?_) (fun b o _ _ hc e _=>k2 b o hc e) (fun b o _ _ hc e _=> ⟨o.slots,k2 b o hc e⟩) (fun _ _ _ _ n=>n)
   (fun b o hc e=> ⟨o,k2 b o hc e⟩) (fun _ _ e=>e) (fun _ _ _ e=>e) (fun b ps e=> ⟨#[],by rw[e];simp⟩) (fun m hm=> ?_) (fun b o e=> ?_) I.bare
  ·obtain⟨f0,f1,f2,f3,f4,f5⟩:=hf b (fz b hb)
   exact⟨f3,f1,f4,f5⟩
  ·obtain⟨o,es,ep,ho,r⟩:=hm
   exact⟨o,es,ep,k2 _ o (fun hb=> (hf _ (fz _ hb)).2.1 rfl) ho,r⟩
  ·have nb: ∀c o',H c=some o'→c∉ [z,TO,i1,i2]:=fun c o' e hb=>by
    rw[(hf c (fz c hb)).1] at e;cases e
   refine(I.aE b o e).iu (fun c q eh e'=>k2 c q ?_ e') (fun _ q=>q) fun _ _ q=>q
   rcases eh with rfl | eh
   ·exact nb _ _ e
   ·exact nb _ _ eh
 self:=fun A i s Q E st hQ=>wpAny_pyIter_zip st.1 hQ
theorem O1{X:Cx}{elts:List Expr}{k:Nat}{v9:Pos}{a b:Expr}{ta:TA}{p pos:Pos}(hg:Gl X "zip")(hm:X.mg "zip"=none)(ha:PA X [a,b] ta)
  (hs:starEach [a,b] X.env=(false,eval a X.env)::starEach [b] X.env) (iz:(backTo pos (starEach [b] X.env)).any (·.1)=false):
  PI X (.Tuple elts k v9) (.Call (.Name "zip" p) [a,b] [] pos) (xg X.K ta):=by
 intro pins s σ H R I h
 refine Call_ (nu I hg hm boot_zip (PyProof.Rows.callWith_type1 (aJ (ha pos pins s σ H _ I h) fun us s1 ⟨vs,H1,I1,r1,q1⟩=> ?_) hs iz))
 obtain⟨l1,l2,e,⟨xs,hx⟩,⟨ys,hy⟩,q⟩:=q1
 subst e
 obtain⟨u,v,rfl,ru,rv⟩:=vals2 r1
 cases ru
 cases rv
 obtain⟨og,rr1,p1,z1⟩:=I1.tuple hx
 obtain⟨eN,rr2,p2,z2⟩:=I1.tuple hy
 have Em:s1.heap.IsTuple l1 og.toArray:=p1
 have En:s1.heap.IsTuple l2 eN.toArray:=p2
 refine OX Em En fun h' a1 a2 a3 a4 a5 hk=> ?_
 refine wpAny_pyIter_zip a1 ?_
 have lt1: @LT.lt Nat _ l1 s1.heap.objs.size:=by obtain⟨_,e,_⟩:=Em;exact Heap.lt_size e
 have lt2: @LT.lt Nat _ l2 s1.heap.objs.size:=by obtain⟨_,e,_⟩:=En;exact Heap.lt_size e
 have D:ZipApart (s1.heap.objs.size+4) (s1.heap.objs.size+2) (s1.heap.objs.size+3) s1.heap.objs.size (s1.heap.objs.size+1) l1 l2:=by
  constructor<;> (show @Ne Nat _ _;omega)
 have I2:Inv X pins σ H1 {s1 with heap:=h'}:=I1.kept (t':=s1.toks) hk
 refine⟨_,_,_,_,H1,rfl,I2,O0 D,⟨a1,a2,⟨_,_,a3⟩,a4,a5⟩,fun b' hb=> ?_,q⟩
 have hle:s1.heap.objs.size≤b':=by
  simp only[List.mem_cons,List.not_mem_nil,or_false] at hb
  rcases hb with rfl | rfl | rfl | rfl | rfl
  ·exact Nat.le_add_right _ _
  ·exact Nat.le_add_right _ _
  ·exact Nat.le_add_right _ _
  ·exact Nat.le_refl _
  ·exact Nat.le_add_right _ _
 exact I1.kZ (b:=b') (H':=H1) hle (I1.aE.fresh hle)
section
variable {CX:bw} {S:bI} {Γ:aL} {X:Cx} {a b:Expr} {x:Str} {p pos:Pos} {ra rb:RE}
theorem O2{ts:List Expr}{k}{tp:Pos}(G:Good CX S Γ X)(ha:PE X a (af Γ ra))(hb:PE X b (af Γ rb))(h:kB S x "zip"=true:=by kernel_rfl)(hn:dv [a,b]=true:=by kernel_rfl):PI X (.Tuple ts k tp) (.Call (.Name x p) [a,b] [] pos) (eo Γ .tP [ra,rb]):=by
 simp only[kB,Bool.and_eq_true,decide_eq_true_eq] at h
 obtain⟨⟨rfl,h2⟩,h3⟩:=h
 show PI X _ _ (xg Γ.K (cz (af Γ ra) (aY Γ [rb])))
 rw[←G.K]
 exact O1 (G.gl h2) (G.dC _ h3) (gg ha (gg hb lj (bZ (bR (bR hn).2).1)) (bZ (bR hn).1)) (bZ (bR hn).1) (eR _ _ _ (bR hn).2)
end
variable {X:Cx}
def yx:List V→Hp→VK→Prop:=fun xs H Q=> ∃z:Str,xs=[.str z]∧NumText.AllDigits z.cps.toList∧z.cps.toList≠ []∧z.length≤640∧Q (.int (NumText.digitsVal z.cps.toList:Nat)) H
theorem O3:bT X (.type "int") yx:=by
 intro pins s σ H xs us Q I r h
 obtain⟨z,rfl,h0,h1,h2,q⟩:=h
 obtain⟨u,rfl,⟨t,rfl⟩⟩:=vals1 r
 exact PySem.W.KIN.call_text (intText_digits h0 h1 (by omega)) h2 ⟨.int _,H,I.tok _,⟨_,rfl⟩,q⟩
def va:Frag→TA→TE:=fun _ t=>eM yx t
theorem Eo{CX:bw}{S:bI}{Γ:aL}{e:Expr}{es:List Expr}{x:Str}{p pos:Pos}{r:RE}{rs:List RE}(G:Good CX S Γ X)(hA:PA X (e::es) (aY Γ (r::rs)))(h:kB S x "int"=true:=by kernel_rfl)(hn:dv (e::es)=true:=by kernel_rfl):PE X (.Call (.Name x p) (e::es) [] pos) (af Γ (.xt va (r::rs))):=by
 simp only[kB,Bool.and_eq_true,decide_eq_true_eq] at h
 obtain⟨⟨rfl,h2⟩,h3⟩:=h
 exact wd O3 (G.gl h2) (G.dC _ h3) Dg hA (by decide) (by decide) (bZ (bR hn).1) (eR _ _ es (bR hn).2)
end L2
namespace L2.B
open PySem PySem.Spec PyProof.Rows
noncomputable def yy:List RS:=
 [.ite (.or [(.not (.cT .tuple (.v 0))),(.not (.iG .LtE .LtE (.c (.int 1)) (.blt .len [(.v 0)]) (.g 0)))]) [.ret (.c (.bl false))] [],
 .ret (.xt mf [(.comp none [] .tup [(.v 0)] none (.call 0 [(.v 0)]))])]
def O4:List Str:=["is_text"]
def O5:List Str:=["MOST_CURSORS"]
def Ep:List Str:=["isinstance","tuple","len","all"]
def qM:List Str:=["word","thing"]
noncomputable def yz:List RS:=
 [.ite (.cmp .Eq (.v 0) (.c (.str "enter"))) [.ret (.call 0 [(.v 1)])] [],
 .ite (.cmp .Eq (.v 0) (.c (.str "paste"))) [.ret (.call 1 [(.v 1)])] [],
 .ite (.cmp .Eq (.v 0) (.c (.str "erase"))) [.ret (.call 2 [(.v 1),(.g 0)])] [],
 .ite (.cmp .In (.v 0) (.tup [(.c (.str "spread")),(.c (.str "go"))])) [.ret (.call 3 [(.v 1),(.c (.int 0)),(.g 1)])] [],
 .ite (.cmp .Eq (.v 0) (.c (.str "mark"))) [.ret (.call 2 [(.v 1),(.g 2)])] [],
 .ret (.and [(.cmp .Eq (.v 0) (.c (.str "span"))),(.call 4 [(.v 1)])])]
def O6:List Str:=["is_text","are_texts","is_word","is_between","is_truth"]
def O7:List Str:=["ERASE_WORDS","MOST_NUMBER","SIDES"]
noncomputable def oh:List RS:=
 [.ite (.or [(.not (.cT .tuple (.v 0))),(.cmp .Eq (.blt .len [(.v 0)]) (.c (.int 0))),(.not (.cT .str (.ix (.v 0) (.c (.int 0)))))]) [.ret (.c (.bl false))] [],
 .ite (.cmp .In (.ix (.v 0) (.c (.int 0))) (.tup [(.c (.str "only")),(.c (.str "undo")),(.c (.str "redo"))])) [.ret (.cmp .Eq (.blt .len [(.v 0)]) (.c (.int 1)))] [],
 .ite (.cmp .Eq (.ix (.v 0) (.c (.int 0))) (.c (.str "step"))) [.ret (.and [(.cmp .Eq (.blt .len [(.v 0)]) (.c (.int 3))),(.call 0 [(.ix (.v 0) (.c (.int 1))),(.g 0)]),(.call 1 [(.ix (.v 0) (.c (.int 2)))])])] [],
 .ret (.and [(.cmp .Eq (.blt .len [(.v 0)]) (.c (.int 2))),(.call 2 [(.ix (.v 0) (.c (.int 0))),(.ix (.v 0) (.c (.int 1)))])])]
def O8:List Str:=["is_word","is_truth","is_object"]
def O9:List Str:=["STEP_WORDS"]
def Er:List Str:=["isinstance","tuple","len","str"]
def gF:List Str:=["deed"]
noncomputable def yA:List RS:=
 [.ite (.not (.call 0 [(.v 0)])) [.pY 0 [(.c (.str "this is no deed"))]] []]
def O_:List Str:=["is_deed"]
def Pa:List Str:=["BadDeed"]
def qN:List Str:=["text"]
noncomputable def yB:List RS:=
 [.ret (.bin .Add (.bin .Add (.c (.str "\"")) (.xm qy (.xm qy (.xm qy (.v 0) [(.c (.str "\\")),(.c (.str "\\\\"))]) [(.c (.str "\"")),(.c (.str "\\\""))]) [(.c (.str "\n")),(.c (.str "\\n"))])) (.c (.str "\"")))]
def vb:List Str:=["deed","word"]
noncomputable def vc:List RS:=
 [.asg 1 (.ix (.v 0) (.c (.int 0))),
 .ite (.cmp .Eq (.v 1) (.c (.str "enter"))) [.ret (.lst [(.v 1),(.call 0 [(.ix (.v 0) (.c (.int 1)))])])] [],
 .ite (.cmp .Eq (.v 1) (.c (.str "paste"))) [.ret (.bin .Add (.lst [(.v 1)]) (.comp none [] .tup [(.ix (.v 0) (.c (.int 1)))] none (.call 0 [(.v 0)])))] [],
 .ite (.cmp .Eq (.v 1) (.c (.str "step"))) [.ret (.lst [(.lM (.ix (.v 0) (.c (.int 2))) (.c (.str "hold")) (.c (.str "step"))),(.ix (.v 0) (.c (.int 1)))])] [],
 .ite (.cmp .Eq (.v 1) (.c (.str "span"))) [.ret (.lst [(.v 1),(.lM (.ix (.v 0) (.c (.int 1))) (.c (.str "grows")) (.c (.str "stays")))])] [],
 .ret (.bin .Add (.lst [(.v 1)]) (.comp none [] .tup [(.sl (.v 0) (some (.c (.int 1))) none)] none (.xt uE [(.v 0)])))]
def Pb:List Str:=["quoted"]
def Es:List Str:=["str"]
noncomputable def yC:List RS:=
 [.drop (.call 0 [(.v 0)]),
 .ret (.di .join (.c (.str " ")) [(.call 1 [(.v 0)])])]
def Pc:List Str:=["need_deed","words_of"]
def yD:List Str:=["row","texts","signs","inside","escaped","sign"]
def Et:List Str:=["row"]
noncomputable def yE:List RS:=
 [.asg 1 (.lst []),
 .asg 2 (.lst []),
 .asg 3 (.c (.bl false)),
 .asg 4 (.c (.bl false)),
 .iH 5 .txt [(.v 0)] [.ite (.v 4) [.drop (.di .append (.v 2) [(.lM (.cmp .Eq (.v 5) (.c (.str "n"))) (.c (.str "\n")) (.v 5))]),
   .asg 4 (.c (.bl false))] [.ite (.cmp .Eq (.v 5) (.c (.str "\\"))) [.asg 4 (.c (.bl true))] [.ite (.cmp .NotEq (.v 5) (.c (.str "\""))) [.drop (.di .append (.v 2) [(.v 5)])] [.ite (.v 3) [.drop (.di .append (.v 1) [(.di .join (.c (.str "")) [(.v 2)])])] [],
     .asg 2 (.lst []),
     .asg 3 (.not (.v 3))]]]],
 .ret (.v 1)]
def qO:List Str:=["word"]
noncomputable def yF:List RS:=
 [.ite (.or [(.cmp .Eq (.blt .len [(.v 0)]) (.c (.int 0))),(.cmp .Gt (.blt .len [(.v 0)]) (.g 0)),(.cmp .NotEq (.xm x5 (.v 0) [(.g 1)]) (.c (.str "")))]) [.ret (.c .aB)] [],
 .ret (.xt va [(.v 0)])]
def Pd:List Str:=["MOST_FIGURES","FIGURES"]
def vd:List Str:=["len","int"]
def vf:List Str:=["line","parts","word","rest"]
def vg:List Str:=["line"]
noncomputable def qP:List RS:=
 [.asg 1 (.xm x6 (.v 0) [(.c (.str " "))]),
 .asg 2 (.ix (.v 1) (.c (.int 0))),
 .asg 3 (.ix (.v 1) (.c (.int 2))),
 .ite (.cmp .Eq (.v 2) (.c (.str "enter"))) [.ret (.bin .Add (.tup [(.v 2)]) (.blt .tuple [(.call 0 [(.v 3)])]))] [],
 .ite (.cmp .Eq (.v 2) (.c (.str "paste"))) [.ret (.tup [(.v 2),(.blt .tuple [(.call 0 [(.v 3)])])])] [],
 .ite (.cmp .In (.v 2) (.tup [(.c (.str "step")),(.c (.str "hold"))])) [.ret (.tup [(.c (.str "step")),(.v 3),(.cmp .Eq (.v 2) (.c (.str "hold")))])] [],
 .ite (.cmp .In (.v 2) (.tup [(.c (.str "spread")),(.c (.str "go"))])) [.ret (.tup [(.v 2),(.call 1 [(.v 3)])])] [],
 .ite (.cmp .Eq (.v 2) (.c (.str "span"))) [.ret (.tup [(.v 2),(.cmp .Eq (.v 3) (.c (.str "grows")))])] [],
 .ite (.cmp .In (.v 2) (.tup [(.c (.str "only")),(.c (.str "undo")),(.c (.str "redo"))])) [.ret (.tup [(.v 2)])] [],
 .ret (.tup [(.v 2),(.v 3)])]
def Pe:List Str:=["texts_of","number_of"]
def Eu:List Str:=["tuple"]
def yG:List Str:=["line","deed"]
noncomputable def yH:List RS:=
 [.ite (.not (.cT .str (.v 0))) [.pY 0 [(.c (.str "a line is a text"))]] [],
 .asg 1 (.call 0 [(.v 0)]),
 .ite (.or [(.not (.call 1 [(.v 1)])),(.cmp .NotEq (.call 2 [(.v 1)]) (.v 0))]) [.pY 0 [(.c (.str "this is no deed as it is written"))]] [],
 .ret (.v 1)]
def Pf:List Str:=["guess","is_deed","shown"]
def Pg:List Str:=["NoNote"]
end L2.B
namespace L2.eZ
open PySem PySem.Spec L2.B
inductive Dd where
 | bare (w:Str) | word (w x:Str) | num (w:Str) (n:Nat) | enter (x:Str) | bN (xs:List Str) | step (x:Str) (b:Bool) | span (b:Bool)
def ff(H:Hp)(a:Addr):Dd→Prop
 | .bare w=>H a=some (.tup [.str w])
 | .word w x=>H a=some (.tup [.str w, .str x])
 | .num w n=>H a=some (.tup [.str w, .int n])
 | .enter x=>H a=some (.tup [.str "enter", .str x])
 | .bN xs=> ∃t,H a=some (.tup [.str "paste", .ref t])∧H t=some (.tup (xs.map V.str))
 | .step x b=>H a=some (.tup [.str "step", .str x, .bl b])
 | .span b=>H a=some (.tup [.str "span", .bl b])
theorem ff.same{H H':Hp}{a:Addr}{d:Dd}(h:ff H a d)(s:ay H H'):ff H' a d:=by
 cases d<;>first | exact s _ _ h | (obtain⟨t,h1,h2⟩:=h;exact⟨t,s _ _ h1,s _ _ h2⟩)
def eW:List Str:=["left","right","back","on","home","end"]
def sW:List Str:=["left","right","home","end","top","bottom","back","on","up","down"]
def mW:List Str:=["left","right"]
def dy:Dd→Prop
 | .bare w=>w="only"∨w="undo"∨w="redo"
 | .word w x=> (w="erase"∧x∈eW)∨(w="mark"∧x∈mW)
 | .num w n=> (w="spread"∨w="go")∧n≤999999999
 | .enter x=>bD x=true∧x.length≤10000
 | .bN xs=>1≤xs.length∧xs.length≤40∧ ∀x∈xs,bD x=true∧x.length≤10000
 | .step x _=>x∈sW
 | .span _=>True
inductive Ge where
 | texts (xs:List Str) | bN (xs:List Str) | step (x:Str) (b:Bool) | num (w:Str) (o:Option Nat) | span (b:Bool) | bare (w:Str) | two (w x:Str)
def qQ:Option Nat→V
 | some n=> .int n
 | none=> .aB
def kh(H:Hp)(a:Addr):Ge→Prop
 | .texts xs=>H a=some (.tup (.str "enter"::xs.map V.str))
 | .bN xs=> ∃t,H a=some (.tup [.str "paste", .ref t])∧H t=some (.tup (xs.map V.str))
 | .step x b=>H a=some (.tup [.str "step", .str x, .bl b])
 | .num w o=>H a=some (.tup [.str w,qQ o])
 | .span b=>H a=some (.tup [.str "span", .bl b])
 | .bare w=>H a=some (.tup [.str w])
 | .two w x=>H a=some (.tup [.str w, .str x])
theorem kh.same{H H':Hp}{a:Addr}{d:Ge}(h:kh H a d)(s:ay H H'):kh H' a d:=by
 cases d<;>first | exact s _ _ h | (obtain⟨t,h1,h2⟩:=h;exact⟨t,s _ _ h1,s _ _ h2⟩)
def mz:List Str:=["enter","paste","step","hold","spread","go","span","only","undo","redo"]
def qR:Ge→Prop
 | .texts xs=>xs.length≤10000∧ ∀x∈xs,x.length≤10000
 | .bN xs=>xs.length≤10000∧ ∀x∈xs,x.length≤10000
 | .step _ _=>True
 | .num w _=>w="spread"∨w="go"
 | .span _=>True
 | .bare w=>w="only"∨w="undo"∨w="redo"
 | .two w x=>w∉mz
def cn(w:Str)(ws:List Str):Bool:=bB (.str w) (ws.map V.str)
theorem dH{w:Str}{ws:List Str}:cn w ws=true↔w∈ws:=by
 refine⟨fun h=> ?_,fun h=>OD h⟩
 obtain⟨v,hv,e⟩:=List.any_eq_true.mp h
 obtain⟨x,hx,rfl⟩:=List.mem_map.mp hv
 have e:(x==w)=true:=e
 rwa [eq_of_beq e] at hx
def toD:Ge→Option Dd
 | .texts [x]=>if bD x=true then some (.enter x) else none
 | .texts _=>none
 | .bN xs=>if (decide (1≤xs.length∧xs.length≤40) && xs.all bD)=true then some (.bN xs) else none
 | .step x b=>if cn x sW=true then some (.step x b) else none
 | .num w (some n)=>if decide ((n:Int)≤999999999)=true then some (.num w n) else none
 | .num _ none=>none
 | .span b=>some (.span b)
 | .bare w=>some (.bare w)
 | .two w x=>if w="erase" then (if cn x eW=true then some (.word w x) else none) else if w="mark" then (if cn x mW=true then some (.word w x) else none) else none
def mB(v:V):Bool:=decide (v= .bl true) || decide (v= .bl false)
def ki:Sp:=fun vs H Q E=> ∃v,vs=[v]∧Q (.bl (mB v)) H
theorem Ph{K:Frag}(vs:List V)(H:Hp)(Q:VK)(E:XK)(h:ki vs H Q E):aw (aU K [] [] (E:=E)) yt (Dn Q) (start cE vs) H:=by
 obtain⟨v,rfl,q⟩:=h
 refine aG (OC (cM (ai rfl (ag ?_))))
 show ∃c,V.bl (decide (v= .bl true))= .bl c∧_
 refine⟨_,rfl,wB (fun h=> ?_) (fun h=> ?_)⟩
 ·rw[show mB v=true by unfold mB;rw[h];rfl] at q;exact q
 ·refine cM (ai rfl (ag ?_))
  show Q (.bl (decide (v= .bl false))) H
  rw[show mB v=decide (v= .bl false) by unfold mB;rw[Bool.not_eq_true _ |>.mp h];rfl] at q
  exact q
theorem yI{Γ:aL}{σ:St}{H:Hp}{QT:Bool→Hp→Prop}{op cy:CmpOp}{a b c:RE}(h:af Γ a σ H fun x H1=>af Γ b σ H1 fun y H2=>bY Γ.K op x y H2 fun z H3=> ∃k,z= .bl k∧if k=true then af Γ c σ H3 fun w H4=>bY Γ.K cy y w H4 fun u H5=> ∃k,u= .bl k∧QT k H5 else ∃k,V.bl false= .bl k∧QT k H3):
  bf Γ (.iG op cy a b c) σ H QT:=h
theorem oi{Γ:aL}{σ:St}{H:Hp}{Q:VK}{fv:List (Str×Nat)}{x elt:RE}(h:af Γ x σ H fun v H1=> ∃a xs,v= .ref a∧aT Γ.K H1 a xs∧ ∃W:Nat→Nat→List V→Hp→Prop,(∃m,W 0 m [] H1)∧ ∀i m ys H2,W i m ys H2→
   ((jM Γ.K a).stop i H2∧ ∀p,H2 p=none→Q (.ref p) (upd H2 p (.lst ys)))∨
   ((jM Γ.K a).go i H2∧ ∀x H3,(jM Γ.K a).cZ i H2 x H3→dB Γ.K none x H3 fun zs=>dW none (zs.map some++bj σ fv) H3 fun b H5=>
    if b=true then af Γ.calm elt (zs.map some++bj σ fv) H5 fun y H6=>ys.length<sizeLine∧ ∃m',m'<m∧W (i+1) m' (ys++ [y]) H6 else ∃m',m'<m∧W (i+1) m' ys H5)):af Γ (.comp none fv .tup [x] none elt) σ H Q:=by
 have e: ∀(A B:VK),(∀v H1,A v H1↔B v H1)→af Γ x σ H A→af Γ x σ H B:=fun A B eO ha=>by
  have:A=B:=funext fun x=>funext fun H1=>propext (eO x H1)
  rw[←this];exact ha
 refine e _ _ (fun v H1=> ⟨?_, ?_⟩) h
 ·rintro⟨a,xs,h1,h2,h3⟩;exact⟨a,h1,⟨xs,h2⟩,h3⟩
 ·rintro⟨a,h1,⟨xs,h2⟩,h3⟩;exact⟨a,xs,h1,h2,h3⟩
theorem qS{xs:List Str}{i:Nat}{v:V}(h:(xs.map V.str)[i]?=some v): ∃y,xs[i]?=some y∧v= .str y:=by
 rw[List.getElem?_map] at h
 cases e:xs[i]? with
 | none=>rw[e] at h;cases h
 | some y=>rw[e] at h;cases h;exact⟨y,rfl,rfl⟩
def qT:Sp:=fun vs H Q E=> ∃(t:Addr) (xs:List Str),vs=[.ref t]∧H t=some (.tup (xs.map V.str))∧xs.length≤10000∧(∀x∈xs,x.length≤10000)∧ ∀H',ay H H'→Q (.bl (decide (1≤xs.length∧xs.length≤40) && xs.all bD)) H'
theorem Pj{K:Frag}(vs:List V)(H:Hp)(Q:VK)(E:XK)(h:qT vs H Q E):aw (aU K [("is_text",ka)] [("MOST_CURSORS", .int 40)] (E:=E)) yy (Dn Q) (start cE vs) H:=by
 obtain⟨t,xs,rfl,ht,h1,hx,q⟩:=h
 refine bb (eE (fc (iO (ai rfl (qG ht (iF ?_))))))
 have iA: ∀b:Bool,b=false→decide (1≤xs.length∧xs.length≤40)=b→Q (.bl false) H:=by
  intro b hb e
  have:=q H (ay.refl _)
  rwa [e,hb,Bool.false_and] at this
 refine gC (fc (yI (ag (dZ (ai rfl (jy ht ⟨trivial,_,rfl, ?_⟩))))))
 by_cases a1:1≤xs.length
 ·refine iT (gu ⟨trivial,_,rfl, ?_⟩) (decide_eq_true (by simp;omega))
  by_cases a2:xs.length≤40
  ·refine iF (bK ?_) (by rw[decide_eq_true (by simp;omega)];rfl)
   refine aG (yo (oi (ai rfl ⟨t,_,rfl,aT.of ht,nZ ht (by simp;omega) (fun i ys _=>ys=((xs.take i).map bD).map V.bl) rfl ?_ ?_⟩)))
   ·intro i x ys H2 hi s p Q' k
    obtain⟨y,hy,rfl⟩:=qS hi
    have ek:ys++ [V.bl (bD y)]=((xs.take (i+1)).map bD).map V.bl:=by
     rw[List.take_add_one,hy,p];simp
    have hl:=hx y (List.mem_of_getElem? hy)
    refine bu ka rfl (aj (ai rfl (aA ⟨_,rfl, ?_⟩)))
    cases e:bD y with
    | true=>exact .inl ⟨y,rfl,⟨by omega,List.all_eq_true.mp e⟩,k _ _ (ay.refl _) (by rw[←ek,e])⟩
    | false=>exact .inr ⟨.inl ⟨y,rfl,by omega,e⟩,k _ _ (ay.refl _) (by rw[←ek,e])⟩
   ·intro ys H2 p s hp hn
    refine⟨p,xs.map bD,rfl,aC.of ?_, ?_⟩
    ·rw[az,hp];simp
    ·have:=q _ (s.trans (sameNew hn (o:= .lst ys)))
     rw[decide_eq_true ⟨a1,a2⟩,Bool.true_and] at this
     rw[show((xs.map bD).all id)=xs.all bD by simp[List.all_map]]
     exact this
  ·exact iT (aG (ag (iA _ rfl (decide_eq_false fun h=>a2 h.2)))) (by rw[decide_eq_false (by simp;omega)];rfl)
 ·exact iF ⟨_,rfl,iT (aG (ag (iA _ rfl (decide_eq_false fun h=>a1 h.1))))⟩ (decide_eq_false (by simp;omega))
theorem iR{w k:Str}(h:w≠k):(w==k)=false:=by simpa using h
theorem Ew{w:Str}{ws:List Str}(h: ∀k∈ws,w≠k):bB (.str w) (ws.map V.str)=false:=by
 cases e:bB (.str w) (ws.map V.str) with
 | false=>rfl
 | true=>exact absurd rfl (h w (dH.mp e))
theorem om{w k:Str}(h:w∉mz)(hk:k∈mz):w≠k:=fun e=>h (e ▸ hk)
inductive fW (H:Hp):Str→V→Bool→Prop
 | enter {x:Str}:x.length≤10000→fW H "enter" (.str x) (bD x)
 | bN {t:Addr} {xs:List Str}:H t=some (.tup (xs.map V.str))→xs.length≤10000→(∀x∈xs,x.length≤10000)→fW H "paste" (.ref t) (decide (1≤xs.length∧xs.length≤40) && xs.all bD)
 | erase {x:Str}:fW H "erase" (.str x) (cn x eW)
 | num {w:Str} {n:Nat}:(w="spread"∨w="go")→fW H w (.int n) (decide ((n:Int)≤999999999))
 | vh {w:Str}:(w="spread"∨w="go")→fW H w .aB false
 | mark {x:Str}:fW H "mark" (.str x) (cn x mW)
 | span {b:Bool}:fW H "span" (.bl b) true
 | odd {w x:Str}:w∉mz→w≠"erase"→w≠"mark"→fW H w (.str x) false
abbrev Pk(K:Frag):List (Str×Sp):=[("is_text",ka),("are_texts",qT),("is_word",ju K),("is_between",jw),("is_truth",ki)]
def qU:Sp:=fun vs H Q E=> ∃w v b,vs=[.str w,v]∧fW H w v b∧ ∀H',ay H H'→Q (.bl b) H'
theorem Pl{K:Frag}{pE pS:Addr}(PE:nY K pE (eW.map V.str))(PS:nY K pS (mW.map V.str))(vs:List V)(H:Hp)(Q:VK)(E:XK)(h:qU vs H Q E):
  aw (aU K (Pk K) [("ERASE_WORDS", .ref pE),("MOST_NUMBER", .int 999999999),("SIDES", .ref pS)] (E:=E)) yz (Dn Q) (start qM vs) H:=by
 obtain⟨w,v,b,rfl,o,q⟩:=h
 cases o with
 | @enter x hx=>
  refine dP rfl (by decide+kernel) (aG (bu ka rfl (aj (ai rfl (aA ⟨_,rfl, ?_⟩)))))
  have q:=q _ (ay.refl _)
  cases e:bD x with
  | true=>rw[e] at q;exact .inl ⟨x,rfl,⟨by omega,List.all_eq_true.mp e⟩,q⟩
  | false=>rw[e] at q;exact .inr ⟨.inl ⟨x,rfl,by omega,e⟩,q⟩
 | bN ht h1 h2=>exact aX rfl (by decide+kernel) (dP rfl (by decide+kernel) (aG (bu qT rfl (aj (ai rfl (aA ⟨_,_,rfl,ht,h1,h2,q⟩))))))
 | erase=>
  exact aX rfl (by decide+kernel) (aX rfl (by decide+kernel) (dP rfl (by decide+kernel) (aG (bu (ju K) rfl (aj (ai rfl (aj (gu (aA ⟨_,pE,_,rfl,PE H,mq _, .inl ⟨_,rfl,q _ (ay.refl _)⟩⟩)))))))))
 | @num _ n hw=>
  have key: ∀H',ay H H'→jw [.int (n:Int), .int 0, .int 999999999] H' Q E:=fun H' s=>by
   have q:=q _ s
   by_cases hn:(n:Int)≤999999999
   ·rw[decide_eq_true hn] at q;exact⟨_,_,_,rfl, .inl ⟨_,rfl,by omega,hn,q⟩⟩
   ·rw[decide_eq_false hn] at q;exact⟨_,_,_,rfl, .inr ⟨.inr ⟨_,rfl, .inr (by omega)⟩,q⟩⟩
  rcases hw with rfl | rfl
  ·exact aX rfl (by decide+kernel) (aX rfl (by decide+kernel) (aX rfl (by decide+kernel) (iP rfl (by decide+kernel) fun H' s=>aG (bu jw rfl (aj (ai rfl (aj (ag (aj (gu (aA (key _ s))))))))))))
  ·exact aX rfl (by decide+kernel) (aX rfl (by decide+kernel) (aX rfl (by decide+kernel) (iP rfl (by decide+kernel) fun H' s=>aG (bu jw rfl (aj (ai rfl (aj (ag (aj (gu (aA (key _ s))))))))))))
 | vh hw=>
  rcases hw with rfl | rfl
  ·exact aX rfl (by decide+kernel) (aX rfl (by decide+kernel) (aX rfl (by decide+kernel) (iP rfl (by decide+kernel) fun H' s=>aG (bu jw rfl (aj (ai rfl (aj (ag (aj (gu (aA ⟨_,_,_,rfl, .inr ⟨.inl (.inr rfl),q _ s⟩⟩)))))))))))
  ·exact aX rfl (by decide+kernel) (aX rfl (by decide+kernel) (aX rfl (by decide+kernel) (iP rfl (by decide+kernel) fun H' s=>aG (bu jw rfl (aj (ai rfl (aj (ag (aj (gu (aA ⟨_,_,_,rfl, .inr ⟨.inl (.inr rfl),q _ s⟩⟩)))))))))))
 | mark=>
  exact aX rfl (by decide+kernel) (aX rfl (by decide+kernel) (aX rfl (by decide+kernel) (jx rfl (by decide+kernel) fun H' s=>dP rfl (by decide+kernel) (aG (bu (ju K) rfl (aj (ai rfl (aj (gu (aA ⟨_,pS,_,rfl,PS H',mq _, .inl ⟨_,rfl,q _ s⟩⟩))))))))))
 | @span b=>
  refine aX rfl (by decide+kernel) (aX rfl (by decide+kernel) (aX rfl (by decide+kernel) (jx rfl (by decide+kernel) fun H' s=>aX rfl (by decide+kernel) (aG (kd (cM (ai rfl (ag (cA ⟨_,rfl,iT (bu ki rfl (aj (ai rfl (aA ⟨_,rfl, ?_⟩)))) (by decide+kernel)⟩)))))))))
  rw[show mB (.bl b)=true by cases b<;>rfl];exact q _ s
 | @odd w x ho h1 h2=>
  refine aX rfl (iR (om ho (by decide+kernel))) (aX rfl (iR (om ho (by decide+kernel))) (aX rfl (iR h1) (jx rfl (Ew (ws:=["spread","go"]) ?_) fun H' s=>aX rfl (iR h2) (aG (kd (cM (ai rfl (ag (cA ⟨_,rfl,iF (q _ s) (iR (om ho (by decide+kernel)))⟩)))))))))
  intro k hk
  refine om ho ?_
  rcases List.mem_cons.mp hk with rfl | hk
  ·decide+kernel
  ·rw[List.mem_singleton.mp hk];decide+kernel
theorem fW.same{H H':Hp}{w:Str}{v:V}{b:Bool}(h:fW H w v b)(s:ay H H'):fW H' w v b:=by
 cases h with
 | enter h=>exact .enter h
 | bN h h1 h2=>exact .bN (s _ _ h) h1 h2
 | erase=>exact .erase
 | num h=>exact .num h
 | vh h=>exact .vh h
 | mark=>exact .mark
 | span=>exact .span
 | odd h h1 h2=>exact .odd h h1 h2
def kj:Sp:=fun vs H Q E=> ∃a g,vs=[.ref a]∧kh H a g∧qR g∧ ∀H',ay H H'→Q (.bl (toD g).isSome) H'
abbrev vi(K:Frag):List (Str×Sp):=[("is_word",ju K),("is_truth",ki),("is_object",qU)]
theorem mD{x:V}{r:List V}:cQ (x::r) 0=some x:=lq (xs:=x::r) (j:=0) rfl
section
variable {K:Frag} {pW:Addr} {Q:VK} {E:XK}
theorem qW{H:Hp}{a:Addr}{w:Str}{r:List V}(ha:H a=some (.tup (.str w::r)))(h:aw (aU K (vi K) [("STEP_WORDS", .ref pW)] (E:=E)) (oh.drop 1) (Dn Q) [some (.ref a)] H):
  aw (aU K (vi K) [("STEP_WORDS", .ref pW)] (E:=E)) oh (Dn Q) (start cE [.ref a]) H:=by
 refine bb (eE (fc (iO (ai rfl (qG ha (iF ?_))))))
 refine eE (bg (dZ (ai rfl (jy ha (ag (fq ⟨_,rfl,iF ?_ ?_⟩))))))
 ·exact gC (fc (iO (aV (ai rfl (ag (cm ha mD (kc (iF (bK h)))))))))
 ·simp;omega
theorem kl{H:Hp}{a:Addr}{w:Str}{v:V}{b:Bool}(ha:H a=some (.tup [.str w,v]))(hw:bB (.str w) [.str "only", .str "undo", .str "redo"]=false)(h2:(w=="step")=false)(o:fW H w v b)(q: ∀H',ay H H'→Q (.bl b) H'):
  aw (aU K (vi K) [("STEP_WORDS", .ref pW)] (E:=E)) oh (Dn Q) (start cE [.ref a]) H:=by
 refine qW ha (uR rfl ha rfl hw fun H' s=> ?_)
 have fX:=s _ _ ha
 refine fV rfl fX rfl h2 (aG (kd (cM (dZ (ai rfl (jy fX (ag (fq ⟨_,rfl,iT ?_ rfl⟩))))))))
 exact bu qU rfl (aj (aV (ai rfl (ag (cm fX rfl (aj (aV (ai rfl (ag (cm fX rfl (aA ⟨w,v,b,rfl,o.same s,fun H2 s2=>q _ (s.trans s2)⟩)))))))))))
end
theorem oo{α:Type}{c:Bool}{x:α}:(if c=true then some x else none).isSome=c:=by cases c<;>rfl
theorem Pm{K:Frag}{pW:Addr}(PW:nY K pW (sW.map V.str))(vs:List V)(H:Hp)(Q:VK)(E:XK)(h:kj vs H Q E):
  aw (aU K (vi K) [("STEP_WORDS", .ref pW)] (E:=E)) oh (Dn Q) (start cE vs) H:=by
 obtain⟨a,g,rfl,ha,hg,q⟩:=h
 cases g with
 | texts xs=>
  cases xs with
  | nil=>
   refine qW ha (uR rfl ha rfl (by decide+kernel) fun H' s=>fV rfl (s _ _ ha) rfl (by decide+kernel) (aG (kd (cM (dZ (ai rfl (jy (s _ _ ha) (ag (fq ⟨_,rfl,iF (q _ s) ?_⟩)))))))))
   decide
  | cons x r=>
   cases r with
   | nil=>
    refine kl ha (by decide+kernel) (by decide+kernel) (.enter (hg.2 x (by simp))) fun H' s=> ?_
    have:=q H' s
    rwa [show(toD (.texts [x])).isSome=bD x from oo] at this
   | cons y r=>
    refine qW ha (uR rfl ha mD (by decide+kernel) fun H' s=>fV rfl (s _ _ ha) mD (by decide+kernel) (aG (kd (cM (dZ (ai rfl (jy (s _ _ ha) (ag (fq ⟨_,rfl,iF (q _ s) ?_⟩)))))))))
    exact decide_eq_false (by simp;omega)
 | bN xs=>
  obtain⟨t,ha,ht⟩:=ha
  refine kl ha (by decide+kernel) (by decide+kernel) (.bN ht hg.1 hg.2) fun H' s=> ?_
  have:=q H' s
  rwa [show(toD (.bN xs)).isSome=_ from oo] at this
 | num w o=>
  have h1:bB (.str w) [.str "only", .str "undo", .str "redo"]=false:=by rcases hg with rfl | rfl<;>decide+kernel
  have h2:(w=="step")=false:=by rcases hg with rfl | rfl<;>decide+kernel
  cases o with
  | none=>exact kl ha h1 h2 (.vh hg) q
  | some n=>
   refine kl ha h1 h2 (.num hg) fun H' s=> ?_
   have:=q H' s
   rwa [show(toD (.num w (some n))).isSome=_ from oo] at this
 | span b=>exact kl ha (by decide+kernel) (by decide+kernel) .span q
 | bare w=>
  refine qW ha (OB rfl ha rfl ?_ fun H' s=>aG (cM (dZ (ai rfl (jy (s _ _ ha) (ag (fq (q _ s))))))))
  rcases hg with rfl | rfl | rfl<;>decide+kernel
 | two w x=>
  have hn:w∉mz:=hg
  have h1:bB (.str w) [.str "only", .str "undo", .str "redo"]=false:=Ew (ws:=["only","undo","redo"]) fun k hk=>om hn ((by decide+kernel: ∀k∈ (["only","undo","redo"]:List Str),k∈mz) k hk)
  have h2:(w=="step")=false:=iR (om hn (by decide+kernel))
  by_cases e1:w="erase"
  ·subst e1
   refine kl ha h1 h2 .erase fun H' s=> ?_
   have:=q H' s
   rwa [show(toD (.two "erase" x)).isSome=cn x eW from oo] at this
  by_cases e2:w="mark"
  ·subst e2
   refine kl ha h1 h2 .mark fun H' s=> ?_
   have:=q H' s
   rwa [show(toD (.two "mark" x)).isSome=cn x mW from oo] at this
  refine kl ha h1 h2 (.odd hn e1 e2) fun H' s=> ?_
  have:=q H' s
  rwa [show(toD (.two w x)).isSome=false by simp[toD,e1,e2]] at this
 | step x b=>
  refine qW ha (uR rfl ha rfl (by decide+kernel) fun H' s=> ?_)
  have fX:=s _ _ (show H a=some (.tup [.str "step", .str x, .bl b]) from ha)
  have q:=q _ s
  rw[show(toD (.step x b)).isSome=cn x sW from oo] at q
  refine qF rfl fX rfl (by decide+kernel) (aG (D4 (cM (dZ (ai rfl (jy fX (ag (fq ⟨_,rfl,iT ?_ rfl⟩))))))))
  refine kd (bu (ju K) rfl (aj (aV (ai rfl (ag (cm fX rfl (aj (gu (aA ⟨_,pW,_,rfl,PW H',mq _, .inl ⟨_,rfl,_,rfl, ?_⟩⟩)))))))))
  show if cn x sW=true then _ else _
  cases e:cn x sW with
  | false=>rw[e] at q;exact iF q
  | true=>
   rw[e] at q
   refine iT (bu ki rfl (aj (aV (ai rfl (ag (cm fX rfl (aA ⟨_,rfl, ?_⟩)))))))
   rw[show mB (.bl b)=true by cases b<;>rfl];exact q
def qX:Sp:=fun vs H Q E=> ∃a g d,vs=[.ref a]∧kh H a g∧qR g∧toD g=some d∧ ∀H',ay H H'→Q .aB H'
theorem Pn{K:Frag}{C:Addr}(vs:List V)(H:Hp)(Q:VK)(E:XK)(h:qX vs H Q E):aw (aU K [("is_deed",kj)] [] (et:=[("BadDeed",C)]) (E:=E)) yA (Dn Q) (start gF vs) H:=by
 obtain⟨a,g,d,rfl,ha,hg,hd,q⟩:=h
 refine bb (fc (uL kj rfl (aj (ai rfl (aA ⟨a,g,rfl,ha,hg,fun H' s=> ?_⟩)))))
 rw[hd]
 exact hX (iF (q _ s))
theorem iS{α:Type}{c:Bool}{x d:α}(e:(if c=true then some x else none)=some d):c=true∧x=d:=by
 cases c with
 | false=>cases e
 | true=>cases e;exact⟨rfl,rfl⟩
theorem Ex{H:Hp}{a:Addr}{g:Ge}{d:Dd}(h:kh H a g)(hg:qR g)(e:toD g=some d):ff H a d∧dy d:=by
 cases g with
 | texts xs=>
  match xs,h,hg,e with
  | [x],h,hg,e=>
   obtain⟨hx,rfl⟩:=iS (c:=bD x) (x:=Dd.enter x) e
   exact⟨h,hx,hg.2 x (by simp)⟩
  | [],_,_,e=>cases e
  | _::_::_,_,_,e=>cases e
 | bN xs=>
  obtain⟨hb,rfl⟩:=iS (c:=(decide (1≤xs.length∧xs.length≤40) && xs.all bD)) (x:=Dd.bN xs) e
  simp only[Bool.and_eq_true,decide_eq_true_eq] at hb
  exact⟨h,hb.1.1,hb.1.2,fun x hx=> ⟨List.all_eq_true.mp hb.2 x hx,hg.2 x hx⟩⟩
 | step x b=>
  obtain⟨hb,rfl⟩:=iS (c:=cn x sW) (x:=Dd.step x b) e
  exact⟨h,dH.mp hb⟩
 | num w o=>
  cases o with
  | none=>cases e
  | some n=>
   obtain⟨hb,rfl⟩:=iS (c:=decide ((n:Int)≤999999999)) (x:=Dd.num w n) e
   exact⟨h,hg,by have:=of_decide_eq_true hb;omega⟩
 | span b=>cases e;exact⟨h,trivial⟩
 | bare w=>cases e;exact⟨h,hg⟩
 | two w x=>
  by_cases h1:w="erase"
  ·subst h1
   obtain⟨hb,rfl⟩:=iS (c:=cn x eW) (x:=Dd.word "erase" x) e
   exact⟨h, .inl ⟨rfl,dH.mp hb⟩⟩
  by_cases h2:w="mark"
  ·subst h2
   obtain⟨hb,rfl⟩:=iS (c:=cn x mW) (x:=Dd.word "mark" x) e
   exact⟨h, .inr ⟨rfl,dH.mp hb⟩⟩
  rw[show toD (.two w x)=none by simp[toD,h1,h2]] at e
  cases e
def fu:Sp:=fun vs H Q E=> ∃x,vs=[.str x]∧x.length≤100000∧ ∀H',ay H H'→Q (.str (bo x)) H'
theorem Ey{x z:Str}(h:sg z=bz (sg x)):(("\"":Str)++z)++ ("\"":Str)=bo x:=fS (by
 show sg _=sg (bo x)
 rw[mh]
 show((Str.ofString "\""++z)++Str.ofString "\"").cps.toList=_
 rw[app_list,app_list]
 have e:(Str.ofString "\"").cps.toList=[34]:=rfl
 rw[e]
 show[34]++sg z++ [34]=34::bz (sg x)++ [34]
 rw[h];rfl)
theorem Po{K:Frag}(vs:List V)(H:Hp)(Q:VK)(E:XK)(h:fu vs H Q E):aw (aU K [] [] (E:=E)) yB (Dn Q) (start qN vs) H:=by
 obtain⟨x,rfl,hx,q⟩:=h
 have e1:(Str.ofString "\\")=⟨#[92]⟩:=rfl
 have e2:(Str.ofString "\"")=⟨#[34]⟩:=rfl
 have e3:(Str.ofString "\n")=⟨#[10]⟩:=rfl
 obtain⟨z1,d1⟩: ∃z1,z1=Txt.replace x "\\" "\\\\":=⟨_,rfl⟩
 obtain⟨z2,d2⟩: ∃z2,z2=Txt.replace z1 "\"" "\\\"":=⟨_,rfl⟩
 obtain⟨z3,d3⟩: ∃z3,z3=Txt.replace z2 "\n" "\\n":=⟨_,rfl⟩
 have s1:sg z1=rep 92 [92,92] (sg x):=by rw[d1];exact ya x "\\\\" 92
 have s2:sg z2=rep 34 [92,34] (sg z1):=by rw[d2];exact ya z1 "\\\"" 34
 have s3:sg z3=rep 10 [92,110] (sg z2):=by rw[d3];exact ya z2 "\\n" 10
 have l1:z1.length≤2*x.length:=by rw[len_list,len_list];show(sg z1).length≤_;rw[s1];exact uH _ _ (by decide) _
 have l2:z2.length≤2*z1.length:=by rw[len_list,len_list];show(sg z2).length≤_;rw[s2];exact uH _ _ (by decide) _
 have l3:z3.length≤2*z2.length:=by rw[len_list,len_list];show(sg z3).length≤_;rw[s3];exact uH _ _ (by decide) _
 have hz:sg z3=bz (sg x):=by rw[s3,s2,s1];exact rep3 _
 refine aG (aI (aI (ag (yq (yq (yq (ai rfl ⟨rfl,x,_,_,rfl,rfl,(by decide+kernel),by omega,by decide, ?_⟩)))))))
 rw[←d1]
 refine⟨rfl,z1,_,_,rfl,rfl,(by decide+kernel),by omega,by decide, ?_⟩
 rw[←d2]
 refine⟨rfl,z2,_,_,rfl,rfl,(by decide+kernel),by omega,by decide, ?_⟩
 rw[←d3]
 refine⟨?_,ag ⟨?_, ?_⟩⟩
 ·show 1+z3.length≤sizeLine
  exact cw (by omega)
 ·show(Str.ofString "\""++z3).length+1≤sizeLine
  refine cw ?_
  rw[len_list,app_list,List.length_append,←len_list,←len_list]
  show 1+z3.length+1≤_
  omega
 ·have:=q H (ay.refl _)
  rw[←Ey hz] at this
  exact this
theorem vj{Γ:aL}{σ:St}{H:Hp}{Q:VK}{t a b:RE}(h:bf Γ t σ H fun c H1=>if c=true then af Γ a σ H1 Q else af Γ b σ H1 Q):af Γ (.lM t a b) σ H Q:=h
theorem yJ{Γ:aL}{σ:St}{H:Hp}{QT:Bool→Hp→Prop}{a b:RE}(h:af Γ a σ H fun x H1=>af Γ b σ H1 fun y H2=>jm Γ.K Γ.sd x y H2 fun z H3=>fO Γ.K z H3 fun c=>QT c H3):bf Γ (.ix a b) σ H QT:=h
theorem iU{Γ:aL}{σ:St}{H:Hp}{x:RE}(A B:VK)(eO: ∀v H1,A v H1↔B v H1)(ha:af Γ x σ H A):af Γ x σ H B:=by
 have:A=B:=funext fun x=>funext fun H1=>propext (eO x H1)
 rw[←this];exact ha
theorem yK{Γ:aL}{σ:St}{H:Hp}{Q:VK}{x:RE}{n:Int}(h:af Γ x σ H fun v H1=>lO Γ.K v (some n) none H1 Q):af Γ (.sl x (some (.c (.int n))) none) σ H Q:=by
 refine iU (x:=x) _ _ (fun v H1=> ⟨fun h=> ?_,fun h=> ?_⟩) h
 ·exact⟨n,rfl,h⟩
 ·obtain⟨m,e,h⟩:=h
  cases e
  exact h
def num(n:Nat):Str:=Str.ofString (toString ((n:Nat):Int))
def wl:Dd→List Str
 | .bare w=> [w]
 | .word w x=> [w,x]
 | .num w n=> [w,num n]
 | .enter x=> ["enter",bo x]
 | .bN xs=> "paste"::xs.map bo
 | .step x b=> [if b then "hold" else "step",x]
 | .span b=> ["span",if b then "grows" else "stays"]
def line(d:Dd):Str:=Txt.join " " (wl d)
def qY:Sp:=fun vs H Q E=> ∃a d,vs=[.ref a]∧ff H a d∧dy d∧ ∀p H',ay H H'→H' p=some (.lst ((wl d).map V.str))→Q (.ref p) H'
theorem qZ{K:Frag}{H:Hp}{Q:VK}{a b:Addr}{xs ys:List V}(ha:H a=some (.lst xs))(hb:H b=some (.lst ys))(hl:xs.length+ys.length≤1000000)(q: ∀p,H p=none→Q (.ref p) (upd H p (.lst (xs++ys)))):jj K .Add (.ref a) (.ref b) H Q:=
 .inl ⟨a,b,xs,ys,rfl,rfl,ha,hb,cw hl,q⟩
theorem lt_num{n:Nat}(h:n≤999999999):((n:Nat):Int).natAbs<10 ^ 10:=by
 have e:(10:Nat) ^ 10=10000000000:=by decide
 rw[e];omega
section
variable {K:Frag} {Q:VK} {E:XK} {a:Addr} {H:Hp}
theorem yL(w:Str)(vs:List V)(xs:List Str)(ha:H a=some (.tup (.str w::vs)))(hc:fN (.str w::vs) (some 1) none=vs)(hs: ¬(HT.aP (V.str w::vs).length 0 (some 1)=0∧HT.aP (V.str w::vs).length (V.str w::vs).length none=(V.str w::vs).length))(hl:vs.length=xs.length)(h1:vs.length≤1)
  (hv: ∀(i:Nat) (v:V) (x:Str),vs[i]?=some v→xs[i]?=some x→ ∀(H2:Hp) (Q2:VK),Q2 (.str x) H2→qx [v] H2 Q2)
  (n1:(w=="enter")=false) (n2:(w=="paste")=false) (n3:(w=="step")=false) (n4:(w=="span")=false) (q: ∀p H',ay H H'→H' p=some (.lst ((w::xs).map V.str))→Q (.ref p) H'):
  aw (aU K [("quoted",fu)] [] (E:=E)) vc (Dn Q) (start vb [.ref a]) H:=by
 refine a_ (aV (ai rfl (ag (cm ha mD ?_))))
 refine aX rfl n1 (aX rfl n2 (aX rfl n3 (aX rfl n4 (aG (aI (bC (aj (ai rfl (aA ⟨gE,fun p hp=> ?_⟩)))))))))
 have fX:=sameNew (o:= .lst [.str w]) hp _ _ ha
 refine oi (yK (ai rfl (.inr ⟨_,aT.of fX,hs,fun t ht=> ?_⟩)))
 rw[hc]
 refine⟨t,vs,rfl,aT.of az,nZ az (by omega) (fun i ys _=>ys=(xs.take i).map V.str) (by simp) ?_ ?_⟩
 ·intro i x ys H2 hi s e Q' k
  have ej:i<xs.length:=by rw[←hl];exact(List.getElem?_eq_some_iff.mp hi).1
  refine D5 (ai rfl (hv i x xs[i] hi (by simp[ej]) _ _ (k _ _ (ay.refl _) ?_)))
  rw[e,List.take_succ_eq_append_getElem ej,List.map_append];rfl
 ·intro ys H2 c s e hn
  have s2:ay (upd H p (.lst [.str w])) H2:=(sameNew ht).trans s
  have q0:H2 p=some (.lst [.str w]):=s2 _ _ az
  have jB:upd H2 c (.lst ys) p=some (.lst [.str w]):=sameNew (o:= .lst ys) hn _ _ q0
  refine qZ jB az (by rw[e];simp;omega) fun r hr=> ?_
  refine q r _ (((sameNew hp).trans s2).trans ((sameNew hn).trans (sameNew hr))) ?_
  rw[az,e,hl,List.take_length];rfl
end
theorem Pp{K:Frag}(vs:List V)(H:Hp)(Q:VK)(E:XK)(h:qY vs H Q E):aw (aU K [("quoted",fu)] [] (E:=E)) vc (Dn Q) (start vb vs) H:=by
 obtain⟨a,d,rfl,ha,hd,q⟩:=h
 have jC: ∀x y:V,¬(HT.aP [x,y].length 0 (some 1)=0∧HT.aP [x,y].length [x,y].length none=[x,y].length):=fun x y z=>absurd z.1 (by show ¬HT.aP 2 0 (some 1)=0;decide)
 have Pq: ∀x:V,¬(HT.aP [x].length 0 (some 1)=0∧HT.aP [x].length [x].length none=[x].length):=fun x z=>absurd z.1 (by show ¬HT.aP 1 0 (some 1)=0;decide)
 cases d with
 | bare w=>
  have n:(w=="enter")=false∧(w=="paste")=false∧(w=="step")=false∧(w=="span")=false:=by
   rcases hd with rfl | rfl | rfl<;>exact⟨(by decide+kernel),(by decide+kernel),(by decide+kernel),(by decide+kernel)⟩
  exact yL w [] [] ha rfl (Pq _) rfl (Nat.zero_le _) (fun i v x h=>by simp at h) n.1 n.2.1 n.2.2.1 n.2.2.2 q
 | word w x=>
  have n:(w=="enter")=false∧(w=="paste")=false∧(w=="step")=false∧(w=="span")=false:=by
   rcases hd with⟨rfl,_⟩ | ⟨rfl,_⟩ <;>exact⟨(by decide+kernel),(by decide+kernel),(by decide+kernel),(by decide+kernel)⟩
  refine yL w [.str x] [x] ha rfl (jC _ _) rfl (Nat.le_refl _) (fun i v y h h2 H2 Q2 q2=> ?_) n.1 n.2.1 n.2.2.1 n.2.2.2 q
  cases i with
  | zero=>cases h;cases h2;exact .inr ⟨x,rfl,q2⟩
  | succ i=>simp at h
 | num w n=>
  have m:(w=="enter")=false∧(w=="paste")=false∧(w=="step")=false∧(w=="span")=false:=by
   rcases hd.1 with rfl | rfl<;>exact⟨(by decide+kernel),(by decide+kernel),(by decide+kernel),(by decide+kernel)⟩
  refine yL w [.int n] [num n] ha rfl (jC _ _) rfl (Nat.le_refl _) (fun i v y h h2 H2 Q2 q2=> ?_) m.1 m.2.1 m.2.2.1 m.2.2.2 q
  cases i with
  | zero=>cases h;cases h2;exact .inl ⟨_,rfl,lt_num hd.2,q2⟩
  | succ i=>simp at h
 | enter x=>
  refine a_ (aV (ai rfl (ag (cm ha rfl ?_))))
  refine dP rfl (by decide+kernel) (aG (bC (aj (ai rfl (aj (bu fu rfl (aj (aV (ai rfl (ag (cm ha rfl (aA ⟨x,rfl,by have:=hd.2;omega,fun H' s=> ?_⟩))))))))))))
  exact aA ⟨cf,fun p hp=>q p _ (s.trans (sameNew hp)) az⟩
 | bN xs=>
  obtain⟨t,ha,ht⟩:=ha
  refine a_ (aV (ai rfl (ag (cm ha rfl ?_))))
  refine aX rfl (by decide+kernel) (dP rfl (by decide+kernel) (aG (aI (bC (aj (ai rfl (aA ⟨gE,fun p hp=> ?_⟩)))))))
  have fX:=sameNew (o:= .lst [.str "paste"]) hp _ _ ha
  have km:=sameNew (o:= .lst [.str "paste"]) hp _ _ ht
  refine oi (aV (ai rfl (ag (cm fX rfl ⟨t,_,rfl,aT.of km,nZ km (by have:=hd.2.1;simp;omega) (fun i ys _=>ys=((xs.take i).map bo).map V.str) (by simp) ?_ ?_⟩))))
  ·intro i v ys H2 hi s e Q' k
   obtain⟨x,hx,rfl⟩:=qS hi
   have ej:i<xs.length:=(List.getElem?_eq_some_iff.mp hx).1
   have hl:=(hd.2.2 x (List.mem_of_getElem? hx)).2
   refine bu fu rfl (aj (ai rfl (aA ⟨x,rfl,by omega,fun H' s'=>k _ _ s' ?_⟩)))
   rw[e,List.take_succ_eq_append_getElem ej,(List.getElem?_eq_some_iff.mp hx).2,List.map_append,List.map_append];rfl
  ·intro ys H2 c s e hn
   have jB:upd H2 c (.lst ys) p=some (.lst [.str "paste"]):=sameNew (o:= .lst ys) hn _ _ (s _ _ az)
   have hl:=hd.2.1
   rw[List.length_map,List.take_length] at e
   refine qZ jB az (by rw[e];simp;omega) fun r hr=> ?_
   refine q r _ (((sameNew hp).trans s).trans ((sameNew hn).trans (sameNew hr))) ?_
   rw[az,e];rfl
 | step x b=>
  refine a_ (aV (ai rfl (ag (cm ha rfl ?_))))
  refine aX rfl (by decide+kernel) (aX rfl (by decide+kernel) (dP rfl (by decide+kernel) (aG (bC (aj (vj (yJ (ai rfl (ag (cm ha rfl (hX ?_)))))))))))
  cases b with
  | true=>exact iT (ag (aj (aV (ai rfl (ag (cm ha rfl (aA ⟨cf,fun p hp=>q p _ (sameNew hp) az⟩)))))))
  | false=>exact iF (ag (aj (aV (ai rfl (ag (cm ha rfl (aA ⟨cf,fun p hp=>q p _ (sameNew hp) az⟩)))))))
 | span b=>
  refine a_ (aV (ai rfl (ag (cm ha rfl ?_))))
  refine aX rfl (by decide+kernel) (aX rfl (by decide+kernel) (aX rfl (by decide+kernel) (dP rfl (by decide+kernel) (aG (bC (aj (ai rfl (aj (vj (yJ (ai rfl (ag (cm ha rfl (hX ?_))))))))))))))
  cases b with
  | true=>exact iT (ag (aA ⟨cf,fun p hp=>q p _ (sameNew hp) az⟩))
  | false=>exact iF (ag (aA ⟨cf,fun p hp=>q p _ (sameNew hp) az⟩))
theorem vk{d:Dd}(hd:dy d):sz (wl d)+ (wl d).length≤1000000:=by
 have q2: ∀x:Str,x.length≤10000→(bo x).length≤20002:=fun x h=>by have:=yb x;omega
 cases d with
 | bare w=>rcases hd with rfl | rfl | rfl<;>decide+kernel
 | word w x=>
  have hx:x.length≤10:=by
   rcases hd with⟨_,h⟩ | ⟨_,h⟩
   ·exact(show ∀y∈eW,y.length≤10 by decide+kernel) x h
   ·exact(show ∀y∈mW,y.length≤10 by decide+kernel) x h
  have hw:w.length≤10:=by rcases hd with⟨rfl,_⟩ | ⟨rfl,_⟩ <;>decide+kernel
  show w.length+ (x.length+0)+2≤_
  omega
 | num w n=>
  have hw:w.length≤10:=by rcases hd.1 with rfl | rfl<;>decide+kernel
  have hn:(num n).length≤10:=PySem.W.KT.len_num (by omega) (by have:=hd.2;omega)
  show w.length+ ((num n).length+0)+2≤_
  omega
 | enter x=>
  have:=q2 x hd.2
  show(Str.ofString "enter").length+ ((bo x).length+0)+2≤_
  have e:(Str.ofString "enter").length=5:=rfl
  omega
 | bN xs=>
  have go: ∀l:List Str,(∀x∈l,x.length≤10000)→sz (l.map bo)≤20002*l.length:=by
   intro l h
   induction l with
   | nil=>exact Nat.le_refl _
   | cons x r ih=>
    have h1:=q2 x (h x List.mem_cons_self)
    have h2:=ih fun y hy=>h y (List.mem_cons_of_mem _ hy)
    show(bo x).length+sz (r.map bo)≤20002* (r.length+1)
    omega
  have g:=go xs fun x hx=> (hd.2.2 x hx).2
  have hl:=hd.2.1
  show(Str.ofString "paste").length+sz (xs.map bo)+ ((xs.map bo).length+1)≤_
  have e:(Str.ofString "paste").length=5:=rfl
  rw[List.length_map]
  omega
 | step x b=>
  have hx:x.length≤10:=(show ∀y∈sW,y.length≤10 by decide+kernel) x hd
  cases b with
  | true=>show(Str.ofString "hold").length+ (x.length+0)+2≤_;have e:(Str.ofString "hold").length=4:=rfl;omega
  | false=>show(Str.ofString "step").length+ (x.length+0)+2≤_;have e:(Str.ofString "step").length=4:=rfl;omega
 | span b=>cases b<;>decide+kernel
def q8:Sp:=fun vs H Q E=> ∃a g d,vs=[.ref a]∧kh H a g∧qR g∧toD g=some d∧ ∀H',ay H H'→Q (.str (line d)) H'
theorem Pr{K:Frag}(vs:List V)(H:Hp)(Q:VK)(E:XK)(h:q8 vs H Q E):aw (aU K [("need_deed",qX),("words_of",qY)] [] (E:=E)) yC (Dn Q) (start gF vs) H:=by
 obtain⟨a,g,d,rfl,ha,hg,e,q⟩:=h
 refine qC (bu qX rfl (aj (ai rfl (aA ⟨a,g,d,rfl,ha,hg,e,fun H1 s1=> ?_⟩))))
 obtain⟨hd,ok⟩:=Ex (ha.same s1) hg e
 refine aG (jv (ag ⟨rfl,bu qY rfl (aj (ai rfl (aA ⟨a,d,rfl,hd,ok,fun p H2 s2 hp=> ?_⟩)))⟩))
 exact⟨wl d,aC.of hp,qA (vk ok),q _ (s1.trans s2)⟩
def one(c:Nat):V:= .str ⟨#[c]⟩
def tx(l:List Nat):V:= .str (mk l)
theorem gG(c k:Nat):((⟨#[c]⟩:Str)==⟨#[k]⟩)=decide (c=k):=by
 by_cases h:c=k
 ·subst h;simp
 ·rw[decide_eq_false h]
  apply beq_eq_false_iff_ne.mpr
  intro e
  injection e with e
  have:=congrArg Array.toList e
  simp at this
  exact h this
theorem Pt(l:List Nat):cat (l.map fun c=> (⟨#[c]⟩:Str))=mk l:=fS (by
 rw[NN]
 show _=sg (mk l)
 rw[e_]
 induction l with
 | nil=>rfl
 | cons c r ih=>rw[List.map_cons,List.map_cons,List.flatten_cons,ih];rfl)
theorem Ez: ∀l:List Nat,sz (l.map fun c=> (⟨#[c]⟩:Str))=l.length
 | []=>rfl
 | c::r=>by
  show 1+sz (r.map fun c=> (⟨#[c]⟩:Str))=r.length+1
  rw[Ez r];omega
def gH(x:Str):List (List Nat):=((sg x).foldl bW ⟨[],[],false,false⟩).ts
def oq:Sp:=fun vs H Q E=> ∃x,vs=[.str x]∧x.length≤100000∧ ∀p H',ay H H'→H' p=some (.lst ((gH x).map tx))→Q (.ref p) H'
theorem EA(t:Tx)(c:Nat):(bW t c).sg.length≤t.sg.length+1∧(bW t c).ts.length≤t.ts.length+1:=by
 unfold bW
 split
 ·exact⟨by simp,by simp⟩
 ·split
  ·exact⟨by simp,by simp⟩
  ·split
   ·exact⟨by simp,by simp⟩
   ·refine⟨by simp, ?_⟩
    show(if t.ins=true then t.ts++ [t.sg] else t.ts).length≤_
    split<;>simp
theorem EB{K:Frag}{H:Hp}{b:Addr}{xs:List V}(hb:H b=some (.lst xs)):jR K "list" (.ref b) H:= .inl ⟨rfl,xs,aC.of hb⟩
theorem yM{Γ:aL}{σ:St}{H:Hp}{Q:VK}{i:Nat}{e:RE}{b:Addr}{xs:List V}{y:V}(hi:σ[i]?=some (some (.ref b)))(hb:H b=some (.lst xs))(hl:xs.length≤200000)(h: ∀Q':VK,Q' y H→af Γ e σ H Q')(q:Q .aB (upd H b (.lst (xs++ [y])))):af Γ (.di .append (.v i) [e]) σ H Q:=
 jv (ai hi ⟨EB hb,h _ ⟨xs,hb,hV (by omega),q⟩⟩)
theorem mE{Γ:aL}{σ:St}{H:Hp}{QT:Bool→Hp→Prop}{i:Nat}{b:Bool}(hi:σ[i]?=some (some (.bl b)))(q:QT b H):bf Γ (.v i) σ H QT:=⟨_,hi,q⟩
theorem Pu{Γ:aL}{σ:St}{H:Hp}{Q:VK}{a:RE}(h:af Γ a σ H fun x H1=>fO Γ.K x H1 fun b=>Q (.bl (!b)) H1):af Γ (.not a) σ H Q:=h
def EC(H:Hp)(x:Str)(a:Addr)(i:Nat)(σ:St)(H2:Hp):Prop:= ∃(b:Addr) (u:Option V) (t:Tx),t=((sg x).take i).foldl bW ⟨[],[],false,false⟩∧σ=[some (.str x),some (.ref a),some (.ref b),some (.bl t.ins),some (.bl t.es),u]∧
  ay H H2∧H b=none∧b≠a∧H2 a=some (.lst (t.ts.map tx))∧H2 b=some (.lst (t.sg.map one))∧t.sg.length≤i∧t.ts.length≤i∧i≤x.length
theorem Pw{K:Frag}(vs:List V)(H:Hp)(Q:VK)(E:XK)(h:oq vs H Q E):aw (aU K [] [] (E:=E)) yE (Dn Q) (start yD vs) H:=by
 obtain⟨x,rfl,hx,q⟩:=h
 refine a_ (bC (aA ⟨Nat.zero_le _,fun a ha=>a_ (bC (aA ⟨Nat.zero_le _,fun b hb=>a_ (ag (a_ (ag ?_)))⟩))⟩))
 have mF:H b=none:=(sameNew ha).free hb
 have eO:b≠a:=fun z=>by rw[z,az] at hb;cases hb
 refine⟨_,rfl,x,rfl,x4 (z:=x) (EC H x a) ?_ ?_ ?_⟩
 ·exact⟨b,none,_,rfl,rfl,(sameNew ha).trans (sameNew hb),mF,eO,by rw[bc eO.symm,az];rfl,by rw[az];rfl,Nat.le_refl _,Nat.le_refl _,Nat.zero_le _⟩
 ·rintro i c σ H2 hc ⟨b,u,t,et,rfl,s,mF,eO,h1,h2,l1,l2,hi⟩
  have aQ:i< (sg x).length:=(List.getElem?_eq_some_iff.mp hc).1
  have ot:i<x.length:=by rw[len_list];exact aQ
  have e:bW t c=((sg x).take (i+1)).foldl bW ⟨[],[],false,false⟩:=by
   rw[List.take_succ_eq_append_getElem aQ,(List.getElem?_eq_some_iff.mp hc).2,List.foldl_append,←et];rfl
  have sz:=EA t c
  have sb: ∀o,ay H (upd H2 b o):=fun o d o' e'=>by rw[bc (cO e' mF)];exact s _ _ e'
  have sa: ∀o,ay H (upd H2 a o):=fun o d o' e'=>by rw[bc (cO e' ha)];exact s _ _ e'
  have k1:t.sg.length≤200000:=by omega
  have k2:t.ts.length≤200000:=by omega
  have g1:(t.sg.map one).length≤200000:=by rw[List.length_map];exact k1
  have g2:(t.ts.map tx).length≤200000:=by rw[List.length_map];exact k2
  obtain⟨ts,fw,ins,es⟩:=t
  show aw _ _ _ [some (.str x),some (.ref a),some (.ref b),some (.bl ins),some (.bl es),some (one c)] H2
  cases es with
  | true=>
   refine bb (mE rfl (iT ?_))
   have e1:((⟨#[c]⟩:Str)==Str.ofString "n")=decide (c=110):=gG c 110
   refine qC (yM (y:=one (if c=110 then 10 else c)) rfl h2 g1 (fun Q' q'=>vj (bg (ai rfl (ag (cA ⟨_,rfl, ?_⟩))))) ?_)
   ·rw[e1]
    by_cases h:c=110
    ·rw[if_pos h] at q';exact iT (ag q') (decide_eq_true h)
    ·rw[if_neg h] at q';exact iF (ai rfl q') (decide_eq_false h)
   ·refine a_ (ag ?_)
    have es:bW ⟨ts,fw,ins,true⟩ c=⟨ts,fw++ [if c=110 then 10 else c],ins,false⟩:=rfl
    rw[es] at e sz
    exact⟨b,_,_,e,rfl,sb _,mF,eO,by rw[bc eO.symm];exact h1,by rw[az,List.map_append];rfl,by have:=sz.1;omega,by have:=sz.2;omega,by omega⟩
  | false=>
   refine bb (mE rfl (iF ?_))
   have e1:((⟨#[c]⟩:Str)==Str.ofString "\\")=decide (c=92):=gG c 92
   refine bb (bg (ai rfl (ag (cA ⟨_,rfl, ?_⟩))))
   rw[e1]
   by_cases h:c=92
   ·refine iT (a_ (ag ?_)) (decide_eq_true h)
    have es:bW ⟨ts,fw,ins,false⟩ c=⟨ts,fw,ins,true⟩:=by simp[bW,h]
    rw[es] at e sz
    exact⟨b,_,_,e,rfl,s,mF,eO,h1,h2,by omega,by omega,by omega⟩
   ·refine iF ?_ (decide_eq_false h)
    have e2:((⟨#[c]⟩:Str) !=Str.ofString "\"")= !decide (c=34):=by rw[←gG c 34];rfl
    refine bb (bg (ai rfl (ag (uP ⟨_,rfl, ?_⟩))))
    rw[e2]
    by_cases h3:c=34
    ·refine iF ?_ (by rw[decide_eq_true h3];rfl)
     have es:bW ⟨ts,fw,ins,false⟩ c=⟨if ins=true then ts++ [fw] else ts,[], !ins,false⟩:=by simp[bW,h3]
     rw[es] at e sz
     have fin: ∀(D:Ends) (H3:Hp),(∀σ' H',EC H x a (i+1) σ' H'→D.nx σ' H')→ay H H3→H3 a=some (.lst ((if ins=true then ts++ [fw] else ts).map tx))→aw (aU K [] [] (E:=E)) [.asg 2 (.lst []), .asg 3 (.not (.v 3))] D [some (.str x),some (.ref a),some (.ref b),some (.bl ins),some (.bl false),some (one c)] H3:=by
      intro D H3 hD s3 ED
      refine a_ (bC (aA ⟨Nat.zero_le _,fun d hd=>a_ (Pu (ai rfl (hX ?_)))⟩))
      have EE:d≠a:=fun z=>by rw[z,ED] at hd;cases hd
      exact hD _ _ ⟨d,_,_,e,rfl,s3.trans (sameNew hd),s3.free hd,EE,by rw[bc EE.symm];exact ED,by rw[az];rfl,by have:=sz.1;omega,by have:=sz.2;omega,by omega⟩
     refine bb (mE rfl ?_)
     cases ins with
     | false=>exact iF (bK (fin _ H2 (fun _ _ h=>h) s h1))
     | true=>
      refine iT (qC (yM (y:=tx fw) rfl h1 g2 (fun Q' q'=>jv (ag ⟨rfl,ai rfl ⟨fw.map fun c=> (⟨#[c]⟩:Str), ?_, ?_, ?_⟩⟩)) ?_))
      ·refine aC.of ?_;rw[h2,List.map_map];rfl
      ·exact joinOk_of (by rw[Ez];exact Nat.le_trans k1 (by decide))
      ·have:=Pt fw
       show Q' (.str (cat _)) H2
       rw[this];exact q'
      ·exact fin _ _ (fun _ _ h=>h) (sa _) (by rw[az];show some (HO.lst (ts.map tx++ [tx fw]))=some (HO.lst ((ts++ [fw]).map tx));rw[List.map_append];rfl)
    ·refine iT ?_ (by rw[decide_eq_false h3];rfl)
     have es:bW ⟨ts,fw,ins,false⟩ c=⟨ts,fw++ [c],ins,false⟩:=by simp[bW,h,h3]
     rw[es] at e sz
     refine qC (yM (y:=one c) rfl h2 g1 (fun Q' q'=>ai rfl q') ?_)
     exact⟨b,_,_,e,rfl,sb _,mF,eO,by rw[bc eO.symm];exact h1,by rw[az,List.map_append];rfl,by have:=sz.1;omega,by have:=sz.2;omega,by omega⟩
 ·rintro σ H2 ⟨b,u,t,et,rfl,s,mF,eO,h1,h2,l1,l2,hi⟩
  refine aG (ai rfl (q a H2 s ?_))
  rw[h1,et,len_list,List.take_length];rfl
theorem Px(x y:Str)(h: ∀c∈x.cps.toList,y.cps.contains c=true)(h0:0<x.length):Txt.stripChars x y="":=by
 have e0:stripLo y.cps.contains true x=x.length:=by
  unfold stripLo
  rw[if_pos rfl,takeWhile_all _ _ h,len_list]
 have e1:stripHi y.cps.contains true x x.length=x.length:=by
  unfold stripHi
  rw[if_pos rfl,len_list,List.drop_length];rfl
 unfold Txt.stripChars Txt.stripBy stripSame stripped
 rw[e0,e1]
 have:(x.length==0)=false:=by simp;omega
 rw[this,Bool.false_and,if_neg Bool.false_ne_true]
 refine fS ?_
 show(x.cps.extract x.length x.length).toList=[]
 simp
def FG:Str:="0123456789"
theorem vm(n:Nat): ∀c∈ (num n).cps.toList,48≤c∧c≤57:=by
 intro c hc
 unfold num at hc
 rw[PySem.W.KIN.signs_num] at hc
 obtain⟨ch,gd,e⟩:=List.mem_map.mp hc
 have r:=PyProof.Rows.digit_range (Nat.isDigit_of_mem_toDigits (by decide) (by decide) gd)
 rw[←e]
 exact r
theorem EF(n:Nat):0< (num n).length:=by
 rw[len_list]
 unfold num
 rw[PySem.W.KIN.signs_num,List.length_map]
 have:=PySem.toDigits_len_ge 10 n
 omega
theorem yN{n:Nat}(h:n≤999999999):(num n).length≤9:=by
 have e:(10:Int) ^ 9=1000000000:=by decide
 exact PyProof.Rows.toString_length_le (by omega) (by decide) (by rw[e];omega)
def mG(l:List Nat):Bool:=l.all fun c=>FG.cps.contains c
theorem yO(c:Nat):FG.cps.contains c=true↔48≤c∧c≤57:=by
 constructor
 ·intro h
  have e:FG.cps= #[48,49,50,51,52,53,54,55,56,57]:=by decide+kernel
  rw[e] at h
  simp at h
  omega
 ·rintro⟨h1,h2⟩
  exact(show ∀k,k<58→48≤k→FG.cps.contains k=true by decide+kernel) c (by omega) h1
theorem q9{l:List Nat}:mG l=true↔NumText.AllDigits l:=by
 unfold mG NumText.AllDigits
 rw[List.all_eq_true]
 exact⟨fun h c hc=> (yO c).mp (h c hc),fun h c hc=> (yO c).mpr (h c hc)⟩
def ou(r:Str):Option Nat:=if (decide (r.length=0) || decide (9<r.length) || !mG (sg r))=true then none else some (NumText.digitsVal (sg r))
theorem nV(p:Nat→Bool): ∀l:List Nat,(∃c∈l,p c=false)→(l.takeWhile p).length<l.length
 | [],⟨_,h,_⟩=> (nomatch h)
 | a::l,⟨c,hc,hp⟩=>by
  cases e:p a with
  | false=>simp[e]
  | true=>
   simp only[List.takeWhile_cons,e,if_true,List.length_cons]
   have:=nV p l ⟨c,by
    rcases List.mem_cons.mp hc with rfl | h
    ·rw[e] at hp;cases hp
    ·exact h,hp⟩
   omega
theorem EG(p:Nat→Bool): ∀l:List Nat,l.drop (l.takeWhile p).length=l.dropWhile p
 | []=>rfl
 | a::l=>by
  cases e:p a with
  | false=>simp[e]
  | true=>simp only[List.takeWhile_cons,List.dropWhile_cons,e,if_true,List.length_cons,List.drop_succ_cons];exact EG p l
theorem Py(x y:Str)(h: ∃c∈sg x,y.cps.contains c=false):(Txt.stripChars x y=="")=false:=by
 have h1:=nV y.cps.contains (sg x) h
 have hx:x.length=(sg x).length:=len_list x
 refine iR fun e=> ?_
 unfold Txt.stripChars Txt.stripBy at e
 by_cases hs:stripSame y.cps.contains true true x=true
 ·rw[if_pos hs] at e
  rw[e] at hx
  have:(Str.ofString "").length=0:=rfl
  rw[e] at h1
  omega
 ·rw[if_neg hs] at e
  have e2:(stripped y.cps.contains true true x).length=0:=by rw[e];rfl
  unfold stripped stripHi stripLo at e2
  rw[if_pos rfl,if_pos rfl] at e2
  have h2:((((sg x).drop ((sg x).takeWhile y.cps.contains).length).reverse).takeWhile y.cps.contains).length< ((sg x).drop ((sg x).takeWhile y.cps.contains).length).reverse.length:=by
   refine nV _ _ ?_
   obtain⟨c,hc,hp⟩:=h
   refine⟨c, ?_,hp⟩
   rw[List.mem_reverse]
   have:=List.takeWhile_append_dropWhile (p:=y.cps.contains) (l:=sg x)
   rw[←this] at hc
   have ed:(sg x).drop ((sg x).takeWhile y.cps.contains).length=(sg x).dropWhile y.cps.contains:=EG _ _
   rw[ed]
   rcases List.mem_append.mp hc with hc | hc
   ·exact absurd (List.all_eq_true.mp (List.all_takeWhile (l:=sg x) (p:=y.cps.contains)) c hc) (by rw[hp];decide)
   ·exact hc
  rw[List.length_reverse,List.length_drop] at h2
  have e3:(Builtin.Str.strSub x ((sg x).takeWhile y.cps.contains).length (x.length - ((((sg x).drop ((sg x).takeWhile y.cps.contains).length).reverse).takeWhile y.cps.contains).length)).length=min (x.length - ((((sg x).drop ((sg x).takeWhile y.cps.contains).length).reverse).takeWhile y.cps.contains).length) x.length - ((sg x).takeWhile y.cps.contains).length:=by
   exact Array.size_extract
  have e4:=e3.symm.trans e2
  omega
def q_:Sp:=fun vs H Q E=> ∃z:Str,vs=[.str z]∧z.length≤10000∧Q (qQ (ou z)) H
theorem EH{Γ:aL}{σ:St}{H:Hp}{Q:VK}{x:RE}(h:af Γ x σ H fun v H1=>yx [v] H1 Q):af Γ (.xt va [x]) σ H Q:=h
theorem Pz{K:Frag}(vs:List V)(H:Hp)(Q:VK)(E:XK)(h:q_ vs H Q E):aw (aU K [] [("MOST_FIGURES", .int 9),("FIGURES", .str FG)] (E:=E)) yF (Dn Q) (start qO vs) H:=by
 obtain⟨z,rfl,hz,q⟩:=h
 have hl:z.length≤sizeLine:=cw (by omega)
 unfold ou at q
 refine bb (eE (bg (dZ (ai rfl ⟨hl,ag (fq ⟨_,rfl, ?_⟩)⟩))))
 by_cases h0:z.length=0
 ·rw[decide_eq_true h0] at q
  exact iT (aG (ag q)) (decide_eq_true (by omega))
 refine iF ?_ (decide_eq_false (by omega))
 rw[decide_eq_false h0,Bool.false_or] at q
 refine eE (bg (dZ (ai rfl ⟨hl,gu (Ou ⟨_,rfl, ?_⟩)⟩)))
 by_cases h9:9<z.length
 ·rw[decide_eq_true h9] at q
  exact iT (aG (ag q)) (decide_eq_true (by show(9:Int) <_;omega))
 refine iF ?_ (decide_eq_false (by show ¬(9:Int) <_;omega))
 rw[decide_eq_false h9,Bool.false_or] at q
 refine gC (bg (D6 (T:=x5) (rr:=uB) rfl (ai rfl ⟨rfl,gu ⟨_,FG,rfl,rfl,hl,ag (uP ⟨_,rfl, ?_⟩)⟩⟩)))
 cases e:mG (sg z) with
 | true=>
  rw[e] at q
  have ha:=q9.mp e
  rw[Px z FG (fun c hc=> (yO c).mpr (ha c hc)) (by omega)]
  refine iF (bK (aG (EH (ai rfl ⟨z,rfl,ha,fun hn=>h0 ?_,by omega,q⟩)))) (by decide)
  rw[len_list,hn];rfl
 | false=>
  rw[e] at q
  have hb: ∃c∈sg z,FG.cps.contains c=false:=by
   obtain⟨c,hc,hp⟩:=List.all_eq_false.mp e
   exact⟨c,hc,by simpa using hp⟩
  have:=Py z FG hb
  exact iT (aG (ag q)) (by show(!(Txt.stripChars z FG==""))=true;rw[this];rfl)
def ij(l:List Nat):List Nat:=l.takeWhile fun c=> !(c==32)
def fA(l:List Nat):List Nat:=(l.dropWhile fun c=> !(c==32)).drop 1
theorem yP: ∀{w r:List Nat},32∉w→ij (w++32::r)=w∧fA (w++32::r)=r
 | [],r,_=> ⟨rfl,rfl⟩
 | c::w,r,h=>by
  have hc:(c==32)=false:=by
   simp only[List.mem_cons,not_or] at h
   simp;exact fun e=>h.1 e.symm
  have ih:=yP (w:=w) (r:=r) fun hm=>h (List.mem_cons_of_mem _ hm)
  unfold ij fA at ih⊢
  simp only[List.cons_append,List.takeWhile_cons,List.dropWhile_cons,hc,Bool.not_false,if_true]
  exact⟨by rw[ih.1],ih.2⟩
theorem rg: ∀{w:List Nat},32∉w→ij w=w∧fA w=[]
 | [],_=> ⟨rfl,rfl⟩
 | c::w,h=>by
  have hc:(c==32)=false:=by
   simp only[List.mem_cons,not_or] at h
   simp;exact fun e=>h.1 e.symm
  have ih:=rg (w:=w) fun hm=>h (List.mem_cons_of_mem _ hm)
  unfold ij fA at ih⊢
  simp only[List.takeWhile_cons,List.dropWhile_cons,hc,Bool.not_false,if_true]
  exact⟨by rw[ih.1],ih.2⟩
theorem yQ: ∀l:List Nat,32∉ij l∧(32∈l→l=ij l++32::fA l)
 | []=> ⟨(fun h=>nomatch h),fun h=> (nomatch h)⟩
 | c::l=>by
  have ih:=yQ l
  unfold ij fA at ih⊢
  cases e:(c==32) with
  | true=>
   have:c=32:=by simpa using e
   subst this
   simp
  | false=>
   have hc:c≠32:=by simpa using e
   simp only[List.takeWhile_cons,List.dropWhile_cons,e,Bool.not_false,if_true]
   refine⟨fun h=> ?_,fun h=> ?_⟩
   ·rcases List.mem_cons.mp h with h | h
    ·exact hc h.symm
    ·exact ih.1 h
   ·rcases List.mem_cons.mp h with h | h
    ·exact absurd h.symm hc
    ·rw[List.cons_append,←ih.2 h]
def ko(w r:Str):Ge:=
 if (w=="enter")=true then .texts ((gH r).map mk) else if (w=="paste")=true then .bN ((gH r).map mk) else if bB (.str w) [.str "step", .str "hold"]=true then .step r (w=="hold")
 else if bB (.str w) [.str "spread", .str "go"]=true then .num w (ou r) else if (w=="span")=true then .span (r=="grows") else if bB (.str w) [.str "only", .str "undo", .str "redo"]=true then .bare w else .two w r
def gs(z:Str):Ge:=ko (mk (ij (sg z))) (mk (fA (sg z)))
theorem kr{z w r:Str}(h:sg z=sg w++32::sg r)(hw:32∉sg w):gs z=ko w r:=by
 unfold gs
 rw[h,(yP hw).1,(yP hw).2,dD,dD]
theorem PB{w:Str}(hw:32∉sg w):gs w=ko w "":=by
 unfold gs
 rw[(rg hw).1,(rg hw).2,dD];rfl
theorem PC(z:Str):iN z " "=[.str (mk (ij (sg z))), .str " ", .str (mk (fA (sg z)))]∨(iN z " "=[.str (mk (ij (sg z))), .str Str.empty, .str Str.empty]∧mk (fA (sg z))=Str.empty):=by
 by_cases h:32∈sg z
 ·refine .inl (N3 ?_ ?_)
  ·rw[e_,e_];exact(yQ _).2 h
  ·rw[e_];exact(yQ _).1
 ·refine .inr ⟨?_, ?_⟩
  ·rw[(rg h).1,dD];exact N4 h
  ·rw[(rg h).2];rfl
def rj:Sp:=fun vs H Q E=> ∃z,vs=[.str z]∧z.length≤10000∧ ∀a H',ay H H'→kh H' a (gs z)→Q (.ref a) H'
abbrev yR:List (Str×Sp):=[("texts_of",oq),("number_of",q_)]
theorem PD{Γ:aL}{σ:St}{H:Hp}{Q:VK}{x:RE}(h:af Γ x σ H fun v H1=>jR Γ.K "str" v H1∧uC v [.str " "] H1 Q):af Γ (.xm x6 x [(.c (.str " "))]) σ H Q:=h
section
variable {K:Frag} {Q:VK} {E:XK} {H:Hp}
theorem PF{z w r:Str}(hz:z.length≤1000000)(hp:iN z " "=[.str w, .str " ", .str r]∨(iN z " "=[.str w, .str Str.empty, .str Str.empty]∧r=Str.empty))(h: ∀(p:Addr) (H':Hp),ay H H'→aw (aU K yR [] (E:=E)) (qP.drop 3) (Dn Q) [some (.str z),some (.ref p),some (.str w),some (.str r)] H'):
  aw (aU K yR [] (E:=E)) qP (Dn Q) (start vf [.str z]) H:=by
 refine a_ (PD (ai rfl ⟨rfl,z," ",rfl,rfl,(by decide+kernel),cw hz,fun p gU=> ?_⟩))
 rcases hp with hp | ⟨hp,rfl⟩
 ·rw[hp]
  exact a_ (aV (ai rfl (ag (cm az rfl (a_ (aV (ai rfl (ag (cm az rfl (h p _ (sameNew gU)))))))))))
 ·rw[hp]
  exact a_ (aV (ai rfl (ag (cm az rfl (a_ (aV (ai rfl (ag (cm az rfl (h p _ (sameNew gU)))))))))))
end
theorem vn{Γ:aL}{σ:St}{H:Hp}{Q:VK}{x:RE}(h:af Γ x σ H fun v H1=>jX Γ.K .tuple [v] H1 Q):af Γ (.blt .tuple [x]) σ H Q:=h
theorem EI: ∀l:List Nat,(fA l).length≤l.length:=fun l=>by
 unfold fA
 rw[List.length_drop]
 have:=(List.dropWhile_sublist (l:=l) fun c=> !(c==32)).length_le
 omega
theorem rm(l:List Nat):(mk l).length=l.length:=by rw[len_list];exact congrArg List.length (e_ l)
theorem EJ: ∀(l:List Nat) (t:Tx) (n:Nat),t.ts.length≤n→t.sg.length≤n→(∀y∈t.ts,y.length≤n)→(l.foldl bW t).ts.length≤n+l.length∧ ∀y∈ (l.foldl bW t).ts,y.length≤n+l.length
 | [],t,n,h1,h2,h3=> ⟨h1,h3⟩
 | c::l,t,n,h1,h2,h3=>by
  have sz:=EA t c
  have h4: ∀y∈ (bW t c).ts,y.length≤n+1:=by
   intro y hy
   unfold bW at hy
   split at hy
   ·exact Nat.le_succ_of_le (h3 y hy)
   split at hy
   ·exact Nat.le_succ_of_le (h3 y hy)
   split at hy
   ·exact Nat.le_succ_of_le (h3 y hy)
   ·dsimp only at hy
    split at hy
    ·rcases List.mem_append.mp hy with hy | hy
     ·exact Nat.le_succ_of_le (h3 y hy)
     ·rw[List.mem_singleton.mp hy];exact Nat.le_succ_of_le h2
    ·exact Nat.le_succ_of_le (h3 y hy)
  have:=EJ l (bW t c) (n+1) (by omega) (by omega) h4
  rw[List.foldl_cons,List.length_cons]
  refine⟨by have:=this.1;omega,fun y hy=>by have:=this.2 y hy;omega⟩
theorem EK(r:Str)(h:r.length≤10000):((gH r).map mk).length≤10000∧ ∀x∈ (gH r).map mk,x.length≤10000:=by
 have:=EJ (sg r) ⟨[],[],false,false⟩ 0 (Nat.le_refl _) (Nat.le_refl _) fun _ h=> (nomatch h)
 have e:(sg r).length=r.length:=(len_list r).symm
 rw[Nat.zero_add,e] at this
 refine⟨by rw[List.length_map];exact Nat.le_trans this.1 h,fun x hx=> ?_⟩
 obtain⟨y,hy,rfl⟩:=List.mem_map.mp hx
 rw[rm]
 exact Nat.le_trans (this.2 y hy) h
theorem PH{z:Str}(h:z.length≤10000):qR (gs z):=by
 have hr:(mk (fA (sg z))).length≤10000:=by
  rw[rm]
  have:=EI (sg z)
  have e:(sg z).length=z.length:=(len_list z).symm
  omega
 have tb:=EK _ hr
 unfold gs ko
 split
 ·exact tb
 split
 ·exact tb
 split
 ·exact trivial
 split
 next h=>
  have:=dH (ws:=["spread","go"]).mp h
  rcases List.mem_cons.mp this with h | h
  ·exact .inl h
  ·exact .inr (List.mem_singleton.mp h)
 split
 ·exact trivial
 split
 next h=>
  have:=dH (ws:=["only","undo","redo"]).mp h
  rcases List.mem_cons.mp this with h | h
  ·exact .inl h
  rcases List.mem_cons.mp h with h | h
  ·exact .inr (.inl h)
  ·exact .inr (.inr (List.mem_singleton.mp h))
 next h1 h2 h3 h4 h5 h6=>
  intro hm
  have f: ∀k∈mz,(k=="enter")=true∨(k=="paste")=true∨bB (.str k) [.str "step", .str "hold"]=true∨bB (.str k) [.str "spread", .str "go"]=true∨(k=="span")=true∨bB (.str k) [.str "only", .str "undo", .str "redo"]=true:=by decide+kernel
  rcases f _ hm with h | h | h | h | h | h
  ·exact h1 h
  ·exact h2 h
  ·exact h3 h
  ·exact h4 h
  ·exact h5 h
  ·exact h6 h
theorem EL(l:List (List Nat)):l.map tx=(l.map mk).map V.str:=by rw[List.map_map];rfl
theorem PJ{K:Frag}(vs:List V)(H:Hp)(Q:VK)(E:XK)(h:rj vs H Q E):aw (aU K yR [] (E:=E)) qP (Dn Q) (start vf vs) H:=by
 obtain⟨z,rfl,hz,q⟩:=h
 have hr:(mk (fA (sg z))).length≤10000:=by
  rw[rm]
  have:=EI (sg z)
  have e:(sg z).length=z.length:=(len_list z).symm
  omega
 have pg:=PC z
 unfold gs at q
 generalize mk (fA (sg z))=r at hr pg q
 generalize mk (ij (sg z))=w at pg q
 have tb:=EK _ hr
 unfold ko at q
 refine PF (by omega) pg fun p H1 s1=> ?_
 cases e1:(w=="enter") with
 | true=>
  rw[if_pos e1] at q
  refine dP rfl e1 (aG (aI (cu (aj (ai rfl (aA ⟨gE,fun a ha=> ?_⟩))))))
  refine vn (bu oq rfl (aj (ai rfl (aA ⟨r,rfl,by omega,fun b H2 s2 hb=> ?_⟩))))
  rw[EL] at hb
  refine⟨_, .inl ⟨aC.of hb,fun c hc=> ?_⟩⟩
  have hS:ay H (upd H2 c (.tup (((gH r).map mk).map V.str))):=s1.trans ((sameNew ha).trans (s2.trans (sameNew hc)))
  have iV:upd H2 c (.tup (((gH r).map mk).map V.str)) a=some (.tup [.str w]):=sameNew (o:= .tup _) hc _ _ (s2 _ _ az)
  rw[eq_of_beq e1] at iV
  refine .inr ⟨a,c,[.str "enter"],_,rfl,rfl,aT.of iV,aT.of az,by simp,cw (by have:=tb.1;simp at this⊢;omega),fun z=> ?_,fun _ g hg=> ?_⟩
  ·refine q a _ hS ?_
   show _=some (HO.tup (.str "enter"::((gH r).map mk).map V.str))
   rw[z] at iV⊢;exact iV
  ·exact q g _ (hS.trans (sameNew hg)) az
 | false=>
 rw[if_neg (by rw[e1];decide)] at q
 refine aX rfl e1 ?_
 cases e2:(w=="paste") with
 | true=>
  rw[if_pos e2] at q
  refine dP rfl e2 (aG (cu (aj (ai rfl (aj (vn (bu oq rfl (aj (ai rfl (aA ⟨_,rfl,by omega,fun b H2 s2 hb=> ?_⟩))))))))))
  rw[EL] at hb
  refine⟨_, .inl ⟨aC.of hb,fun c hc=>aA ⟨cf,fun g hg=> ?_⟩⟩⟩
  refine q g _ (s1.trans (s2.trans ((sameNew hc).trans (sameNew hg)))) ⟨c, ?_,sameNew hg _ _ az⟩
  rw[az,eq_of_beq e2]
 | false=>
 rw[if_neg (by rw[e2];decide)] at q
 refine aX rfl e2 ?_
 cases e3:bB (.str w) [.str "step", .str "hold"] with
 | true=>
  rw[if_pos e3] at q
  exact iP rfl e3 fun H2 s2=>aG (cu (aj (ag (aj (ai rfl (aj (cM (ai rfl (ag (cA (aA ⟨mm,fun a ha=>q a _ (s1.trans (s2.trans (sameNew ha))) az⟩)))))))))))
 | false=>
 rw[if_neg (by rw[e3];decide)] at q
 refine jx rfl e3 fun H2 s2=> ?_
 have s1:=s1.trans s2
 cases e4:bB (.str w) [.str "spread", .str "go"] with
 | true=>
  rw[if_pos e4] at q
  exact iP rfl e4 fun H3 s3=>aG (cu (aj (ai rfl (aj (bu q_ rfl (aj (ai rfl (aA ⟨r,rfl,hr,aA ⟨cf,fun a ha=>q a _ (s1.trans (s3.trans (sameNew ha))) az⟩⟩))))))))
 | false=>
 rw[if_neg (by rw[e4];decide)] at q
 refine jx rfl e4 fun H3 s3=> ?_
 have s1:=s1.trans s3
 cases e5:(w=="span") with
 | true=>
  rw[if_pos e5] at q
  refine dP rfl e5 (aG (cu (aj (ai rfl (aj (cM (ai rfl (ag (cA (aA ⟨cf,fun a ha=>q a _ (s1.trans (sameNew ha)) ?_⟩))))))))))
  show _=some (HO.tup [.str "span", .bl (r=="grows")])
  rw[az,eq_of_beq e5]
 | false=>
 rw[if_neg (by rw[e5];decide)] at q
 refine aX rfl e5 ?_
 cases e6:bB (.str w) [.str "only", .str "undo", .str "redo"] with
 | true=>
  rw[if_pos e6] at q
  exact D3 rfl e6 fun H4 s4=>aG (cu (aj (ai rfl (aA ⟨gE,fun a ha=>q a _ (s1.trans (s4.trans (sameNew ha))) az⟩))))
 | false=>
 rw[if_neg (by rw[e6];decide)] at q
 exact D2 rfl e6 fun H4 s4=>aG (cu (aj (ai rfl (aj (ai rfl (aA ⟨cf,fun a ha=>q a _ (s1.trans (s4.trans (sameNew ha))) az⟩))))))
theorem fY(d:Dd):sg (line d)=sep ((wl d).map sg):=uJ _
theorem EM(xs:List Str)(h:xs≠ []):(gH (mk (sep ((xs.map bo).map sg)))).map mk=xs:=by
 unfold gH
 rw[e_]
 have e:(xs.map bo).map sg=(xs.map sg).map qt:=by rw[List.map_map,List.map_map];exact List.map_congr_left fun x _=>mh x
 rw[e,DN _ _ _ (by simpa using h),List.nil_append,List.map_map]
 conv=>rhs;rw[←List.map_id xs]
 exact List.map_congr_left fun x _=>dD x
theorem yS(n:Nat):NumText.digitsVal (sg (num n))=n:=by
 unfold num sg
 rw[PySem.W.KIN.signs_num]
 exact PySem.W.KIN.val_back n
theorem PK{n:Nat}(h:n≤999999999):ou (num n)=some n:=by
 have h0:=EF n
 have h9:=yN h
 unfold ou
 rw[decide_eq_false (by omega),decide_eq_false (by omega),q9.mpr fun c hc=>vm n c hc,yS];rfl
theorem EN{d:Dd}(hd:dy d):toD (gs (line d))=some d:=by
 cases d with
 | bare w=>
  have hw:32∉sg w:=by rcases hd with rfl | rfl | rfl<;>decide+kernel
  have e:line (.bare w)=w:=fS (fY (.bare w))
  rw[e,PB hw]
  rcases hd with rfl | rfl | rfl<;>rfl
 | word w x=>
  have hw:32∉sg w:=by rcases hd with⟨rfl,_⟩ | ⟨rfl,_⟩ <;>decide+kernel
  rw[kr (fY (.word w x)) hw]
  rcases hd with⟨rfl,h⟩ | ⟨rfl,h⟩
  ·show toD (.two "erase" x)=_
   show(if cn x eW=true then _ else _)=_
   rw[if_pos (dH.mpr h)]
  ·show toD (.two "mark" x)=_
   show(if cn x mW=true then _ else _)=_
   rw[if_pos (dH.mpr h)]
 | num w n=>
  have hw:32∉sg w:=by rcases hd.1 with rfl | rfl<;>decide+kernel
  rw[kr (fY (.num w n)) hw]
  have e:ko w (num n)= .num w (ou (num n)):=by rcases hd.1 with rfl | rfl<;>rfl
  rw[e,PK hd.2]
  show(if decide ((n:Int)≤999999999)=true then _ else _)=_
  rw[if_pos (decide_eq_true (by have:=hd.2;omega))]
 | enter x=>
  rw[kr (w:="enter") (r:=bo x) (fY (.enter x)) (by decide+kernel)]
  have ex:=EM [x] (by simp)
  have:mk (sep (([x].map bo).map sg))=bo x:=dD _
  rw[this] at ex
  have e:ko "enter" (bo x)= .texts ((gH (bo x)).map mk):=rfl
  rw[e,ex]
  show(if bD x=true then _ else _)=_
  rw[if_pos hd.1]
 | bN xs=>
  have dO:xs≠ []:=fun z=>by rw[z] at hd;exact absurd hd.1 (by decide)
  have PL:sg (line (.bN xs))=sg (Str.ofString "paste")++32::sg (mk (sep ((xs.map bo).map sg))):=by
   rw[fY,e_]
   cases xs with
   | nil=>exact absurd rfl dO
   | cons x r=>rfl
  rw[kr PL (by decide+kernel)]
  have e:ko "paste" (mk (sep ((xs.map bo).map sg)))= .bN ((gH (mk (sep ((xs.map bo).map sg)))).map mk):=rfl
  rw[e,EM xs dO]
  show(if (decide (1≤xs.length∧xs.length≤40) && xs.all bD)=true then _ else _)=_
  rw[decide_eq_true ⟨hd.1,hd.2.1⟩,List.all_eq_true.mpr fun x hx=> (hd.2.2 x hx).1];rfl
 | step x b=>
  have e:gs (line (.step x b))= .step x b:=by
   cases b with
   | true=>rw[kr (w:="hold") (r:=x) (fY (.step x true)) (by decide+kernel)];rfl
   | false=>rw[kr (w:="step") (r:=x) (fY (.step x false)) (by decide+kernel)];rfl
  rw[e]
  show(if cn x sW=true then _ else _)=_
  rw[if_pos (dH.mpr hd)]
 | span b=>
  cases b with
  | true=>rw[kr (w:="span") (r:="grows") (fY (.span true)) (by decide+kernel)];rfl
  | false=>rw[kr (w:="span") (r:="stays") (fY (.span false)) (by decide+kernel)];rfl
def rn(N:Addr):Sp:=fun vs H Q E=> ∃v,vs=[v]∧((∃z,v= .str z∧z.length≤10000∧ ∀H',ay H H'→(∀d a,dy d→line d=z→ff H' a d→Q (.ref a) H')∧((∀d,dy d→line d≠z)→E (.ref N) none H'))∨(gA .str v H∧E (.ref N) none H))
theorem PM{K:Frag}{N:Addr}(vs:List V)(H:Hp)(Q:VK)(E:XK)(h:rn N vs H Q E):aw (aU K [("guess",rj),("is_deed",kj),("shown",q8)] [] (et:=[("NoNote",N)]) (E:=E)) yH (Dn Q) (start yG vs) H:=by
 obtain⟨v,rfl,⟨z,rfl,hz,q⟩ | ⟨hn,q⟩⟩:=h
 ·refine bb (fc (iO (ai rfl (kc (iF (bK ?_))))))
  refine a_ (bu rj rfl (aj (ai rfl (aA ⟨z,rfl,hz,fun a H1 s1 ha=> ?_⟩))))
  have hg:=PH hz
  refine bb (eE (fc (uL kj rfl (aj (ai rfl (aA ⟨a,_,rfl,ha,hg,fun H2 s2=>hX ?_⟩))))))
  cases e:toD (gs z) with
  | none=>
   refine iT ⟨(by show 1≤sizeLine;decide),(q _ (s1.trans s2)).2 fun d hd hl=> ?_⟩
   rw[←hl,EN hd] at e;cases e
  | some d=>
   refine iF (gC (bg (bu q8 rfl (aj (ai rfl (aA ⟨a,_,d,rfl,ha.same s2,hg,e,fun H3 s3=>ai rfl (uP ⟨_,rfl, ?_⟩)⟩))))))
   have sS:=s1.trans (s2.trans s3)
   obtain⟨hd,ok⟩:=Ex (ha.same (s2.trans s3)) hg e
   by_cases hl:line d=z
   ·refine iF (bK (aG (ai rfl ((q _ sS).1 d a ok hl hd)))) ?_
    show(!(line d==z))=false
    rw[hl];simp
   ·refine iT ⟨(by show 1≤sizeLine;decide),(q _ sS).2 fun d' kU tL=> ?_⟩ ?_
    ·rw[←tL,EN kU] at e
     cases e
     exact hl tL
    ·show(!(line d==z))=true
     rw[iR hl];rfl
 ·exact bb (fc (iO (ai rfl (hn.go (iT ⟨(by show 1≤sizeLine;decide),q⟩)))))
end L2.eZ
namespace L2
open PySem PySem.Spec PyProof.Rows
section
variable {X:Cx} {scope:Scope} {fv:List (Str×Nat)}
end
section
variable {CX:bw} {S:bI} {Γ:aL} {X:Cx} {p:Pos}
end
theorem PN{P:Program}{w:World}{K:Frag}{tg:Expr}(it:Addr)(lo c:Int)(n:Nat):Turn P w K tg (p6 lo c n) [it] it (fun i h=>IsRangeIter h it (lo+ (i:Nat)*c) ((n:Int) - (i:Nat)) c) where
 mem:=by simp
 obj:=fun i h st b hb=>by
  have e:b=it:=by simpa using hb
  subst e
  exact⟨_,st,fun v z=>by
   have z':Data.fields _=Data.cell v:=z
   cases z'⟩
 keep:=fun i h h' st k=>k it (by simp) _ st
 item:=by
  intro X hP hw hK hc i pins s σ H E I hf st hg
  subst hP hw hK
  obtain⟨f0,f1,f2,f3,f4,f5⟩:=hf it (by simp)
  have W:=Walks.range (prog:=X.prog) (w:=X.w) (I.ok.hd hc) it lo c n
  refine W.item i s _ _ hg st fun v h' tk hv dA kk=> ?_
  obtain⟨t,rfl⟩:=hv
  have I1:Inv X pins σ H {s with heap:=h',toks:=tk}:=I.turned (fun b o hb e=>kk b o (by simpa using hb) e) f0 f1 f3 f4 f5
  exact⟨_,rfl,nv (s:={s with heap:=h',toks:=tk}) (n:="range_iterator") dA rfl rfl (by decide) ⟨.int (lo+i*c),H,I1,⟨t,rfl⟩,⟨rfl,rfl⟩,dA,fun b hb=> (hf b hb).1⟩⟩
 done:=by
  intro X hP hw hK hc i pins s σ H E I hf st hg
  subst hP hw hK
  obtain⟨f0,f1,f2,f3,f4,f5⟩:=hf it (by simp)
  exact wpAny_pyNext_range_end (I.ok.hd hc) st (by have:n≤i:=hg;omega) fun h' eb=> ⟨rfl,I.turned (t':=s.toks) (fun b o hb e=>eb b o hb e) f0 f1 f3 f4 f5⟩
 self:=fun _ _ _ _ _ st h=>wpAny_pyIter_rangeiter st h
section
variable {X:Cx} {tg:Expr}
theorem PQ{a b c:Expr}{ta:TA}{p pos:Pos}(hg:Gl X "range")(hm:X.mg "range"=none)(ha:PA X [a,b,c] ta)(hs:starEach [a,b,c] X.env=[(false,eval a X.env),(false,eval b X.env),(false,eval c X.env)])(jC:starEach [b,c] X.env=[(false,eval b X.env),(false,eval c X.env)]):
  PI X tg (.Call (.Name "range" p) [a,b,c] [] pos) (CU ta):=by
 intro pins s σ H R I h
 refine Call_ (nu I hg hm boot_range (PyProof.Rows.callWith_type1 (aJ (ha pos pins s σ H _ I h) fun us s1 ⟨vs,H1,I1,r1,q1⟩=> ?_) (by rw[hs,jC]) (by rw[jC];rfl)))
 obtain⟨i,j,k,n,e,hk,h1,h2,h3,q⟩:=q1
 subst e
 cases r1 with
 | cons r rr=>
  cases rr with
  | cons r' rr=>
   cases rr with
   | cons r2 rr=>
    cases rr
    obtain⟨t,rfl⟩:=r
    obtain⟨t',rfl⟩:=r'
    obtain⟨t2,rfl⟩:=r2
    refine call_range_3 hk ?_ (.inl h2)
    refine wpAny_pyIter_range (IsRange.new ..) h1 ?_
    have I2:Inv X pins σ H1 {s1 with heap:=s1.heap.push {cls:= .type "range",data:= .fields #[.int i t, .int j t', .int k t2]},toks:=s1.toks}:=I1.kept fun b o e=>Heap.get?_push_of_some _ e
    refine⟨(s1.heap.push {cls:= .type "range",data:= .fields #[.int i t, .int j t', .int k t2]}).objs.size,[(s1.heap.push {cls:= .type "range",data:= .fields #[.int i t, .int j t', .int k t2]}).objs.size],_,_,H1,rfl,
     I2.kept (t':=s1.toks) fun b o e=>Heap.get?_push_of_some _ e,PN _ i k n, ?_,fun b hb=> ?_,q⟩
    ·show IsRangeIter _ _ (i+ ((0:Nat):Int)*k) ((n:Int) - ((0:Nat):Int)) k
     rw[show i+ ((0:Nat):Int)*k=i by simp,show(n:Int) - ((0:Nat):Int)=Builtin.Range.rangeSize i j k by rw[h3];simp]
     exact Heap.get?_push_size _ rfl
    ·have e:b=(s1.heap.push {cls:= .type "range",data:= .fields #[.int i t, .int j t', .int k t2]}).objs.size:=by simpa using hb
     subst e
     exact I2.kZ (Nat.le_refl _) (I2.aE.fresh (Nat.le_refl _))
theorem PR{CX:bw}{S:bI}{Γ:aL}{a b c:Expr}{x:Str}{p pos:Pos}{ra rb rc:RE}(G:Good CX S Γ X)(ha:PE X a (af Γ ra))(hb:PE X b (af Γ rb))(hc:PE X c (af Γ rc))(h:kB S x "range"=true:=by kernel_rfl)(hs:noStar a=true:=by kernel_rfl)(jC:noStar b=true:=by kernel_rfl)(jT:noStar c=true:=by kernel_rfl):PI X tg (.Call (.Name x p) [a,b,c] [] pos) (eo Γ .w9 [ra,rb,rc]):=by
 simp only[kB,Bool.and_eq_true,decide_eq_true_eq] at h
 obtain⟨⟨rfl,h2⟩,h3⟩:=h
 exact PQ (G.gl h2) (G.dC _ h3) (gg ha (gg hb (gg hc lj (bZ jT)) (bZ jC)) (bZ hs)) (by rw[bZ hs,bZ jC,bZ jT];rfl) (by rw[bZ jC,bZ jT];rfl)
end
section
variable {X:Cx} {scope:Scope} {fv:List (Str×Nat)}
theorem PU{x y:Str}{px py pos:Pos}{k:Nat}(hc:X.calm=true)(hx:scope.names.lookup x=some .local)(hy:scope.names.lookup y=some .local)(iC:(x::y::fv.map (·.1)).Nodup):nG X scope [x,y] fv (.Tuple [.Name x px, .Name y py] k pos) (some 102):=by
 intro ex C s H
 generalize eX:dU X scope ([x,y]++fv.map (·.1)) ex C s H=Xc
 have xN:Xc.N=x::y::fv.map (·.1):=by rw[←eX];rfl
 have xc:Xc.calm=true:=by rw[←eX];exact hc
 have lx:Xc.env.scope.names.lookup x=some .local:=by rw[←eX];exact lookup_relabel_local hx
 have ly:Xc.env.scope.names.lookup y=some .local:=by rw[←eX];exact lookup_relabel_local hy
 have p1:PG Xc (.Name x px) (cI 0):=jK (by rw[xN];exact iC) (by rw[xN];rfl) (.inl lx) (.inr lx)
 have p2:PG Xc (.Name y py) (cI 1):=jK (by rw[xN];exact iC) (by rw[xN];rfl) (.inl ly) (.inr ly)
 have xK:Xc.K=X.K:=by rw[←eX];rfl
 refine⟨lW Xc.K 2 (jL (cI 0) (jL (cI 1) pz)),Dv xc (kY p1 (kY p2 sH)) rfl rfl,fun v pre φ H' Q hp h=> ?_⟩
 obtain⟨a,b,rfl⟩: ∃a b,pre=[a,b]:=by
  match pre,hp with
  | [a,b],_=>exact⟨a,b,rfl⟩
 obtain⟨a',xs,rfl,e2,e3,q⟩:=h
 obtain⟨v1,v2,rfl⟩: ∃v1 v2,xs=[v1,v2]:=by
  match xs,e3 with
  | [v1,v2],_=>exact⟨v1,v2,rfl⟩
 exact⟨a',_,rfl,by rw[xK];exact .inr e2,rfl,v1,_,rfl,v2,_,rfl,rfl,q rfl⟩
end
section
variable {CX:bw} {S:bI} {Γ:aL} {X:Cx} {p:Pos}
def PV(S:bI)(n1 n2:Str)(tg iter:Expr)(sc:Scope)(fv:List (Str×Nat)):Bool:=tZ S ⟨.Constant .none 0 ⟨0,0,0,0⟩,tg,iter,[],sc⟩ [n1,n2] fv
theorem PX{fv:List (Str×Nat)}{its:List RE}{elt:RE}{el iter:Expr}{sc:Scope}{n1 n2:Str}{p1 p2 tp:Pos}{kt:Nat}(G:Good CX S Γ X)(h:PV S n1 n2 (.Tuple [.Name n1 p1, .Name n2 p2] kt tp) iter sc fv=true)(hi:PI X (.Tuple [.Name n1 p1, .Name n2 p2] kt tp) iter (eo Γ .list its))
  (he: ∀X,Good CX (cS S sc [n1,n2] fv) Γ.calm X→PE X el (af Γ.calm elt)) (hq:S.md=0:=by rfl):PE X (.ListComp el [⟨.Tuple [.Name n1 p1, .Name n2 p2] kt tp,iter,[],0⟩] sc p) (af Γ (.comp (some 102) fv .list its none elt)):=by
 obtain⟨o1,o2,o3,o4⟩:=ud (c:=⟨.Constant .none 0 ⟨0,0,0,0⟩, .Tuple [.Name n1 p1, .Name n2 p2] kt tp,iter,[],sc⟩) G h
 show PE X _ (jh Γ.K (eo Γ .list its) (some 102) fv (p8 Γ.calm none) (af Γ.calm elt))
 rw[←G.K]
 refine Cy o1 (G.calm hq) hi (PU (G.calm hq) (o2 n1 (by simp)) (o2 n2 (by simp)) o3) ?_ (fun ex C s H=>he _ (G.inner ⟨.Constant .none 0 ⟨0,0,0,0⟩, .Tuple [.Name n1 p1, .Name n2 p2] kt tp,iter,[],sc⟩ [n1,n2] fv ex C s H)) (qi o4)
 exact hJ (CX:=CX) (S:=cS S sc [n1,n2] fv) (Γ:=Γ.calm)
end
section
variable {X:Cx} {CX:bw} {k:Nat} {f:Addr} {fd:FuncData} {ps:List Str} {sp:Sp} {E:XK} {x:Str} {p pos:Pos} {e:Expr} {es:List Expr} {t:TA}
theorem PY{pins:List (Addr×Obj)}{σ:St}{H:Hp}{s:Shared}{Q:VK}{us:List Value}{vs:List V}(F:da X.prog X.w X.K X.mg X.base CX k f fd ps sp)(hr:c_ k X.A)(hb:Binds X.K fd ps [])(hx: ∀e s',CX X.stack H s E e s'→X.xe e s')
  (I:Inv X pins σ H s) (r:Vals vs us) (h:sp vs H Q E):wpAny (model X.prog X.w) X.A (call (.ref f) us) (EP X pins σ Q) X.xe s:=by
 have hl:(us++ []).length=ps.length:=by rw[List.append_nil,←r.length];exact F.len _ _ _ _ h
 refine wpAny_call (codeAny_mono (F.run X.A X.stack s H ⟨us,[]⟩ (us++ []) vs Q E hr I.v_ (hb s us I.cP hl) (by rw[List.append_nil];exact r) h) fun r s' hq=> ?_)
 cases r with
 | error e=>exact hx e s' hq
 | ok fl=>
  cases fl with
  | ret u=>exact I.after hq
  | next=>exact False.elim hq
  | brk=>exact False.elim hq
  | cont=>exact False.elim hq
theorem PZ{σ₀:St}(F:da X.prog X.w X.K X.mg X.base CX k f fd ps sp)(hr:c_ k X.A)(hg:Gl X x)(hm:X.mg x=some (.ref f))(hk:keepIn X.K (.ref f)=true)(hb:Binds X.K fd ps [])
  (hx: ∀pins H s e s',Inv X pins σ₀ H s→CX X.stack H s E e s'→X.xe e s') (ha:PA X (e::es) t) (i9:(x==("__debug__":Str))=false) (he:starEach (e::es) X.env=(false,eval e X.env)::starEach es X.env) (iz:(backTo pos (starEach es X.env)).any (·.1)=false):
  PE X (.Call (.Name x p) (e::es) [] pos) (fun σ H Q=>σ=σ₀∧t σ H fun vs H1=>sp vs H1 Q E):=by
 intro pins s σ H Q I h
 obtain⟨rfl,h⟩:=h
 refine wpAny_Call_Name_kw (pw I hg hm ?_ i9)
 refine callWith_K (h₀:=X.base) I.ok.mod.jJ hk (aJ (ha pos pins s σ H _ I h) fun us s1 ⟨vs,H1,I1,r,q⟩=> ⟨I1.cP, ?_⟩) he iz
 exact PY F hr hb (fun e s' hq=>hx pins H1 s1 e s' I1 hq) I1 r q
end
section
variable {X:Cx}
theorem P0{x n:Str}{C:Addr}{i:Nat}{st:Stmt}{b₀:Stmt}{vo:List Stmt}{sp:Sp}{ta:TA}{ky:Nat}{th:Addr→TS}{np ku pos:Pos}(iy:X.stack=X.env::X.outer)(qg:X.env.frame=some X.env.locals)(hex:X.ex=[])
  (xC:Gl X x) (hd:(x==("__debug__":Str))=false) (jd:X.mg x=some (.ref C)) (nd:X.N.Nodup) (hN:X.N[i]?=some n) (tm:X.env.scope.names.lookup n=some .local)
  (hb: ∀(pn:List (Addr×Obj)) (xe:Value→Shared→Prop) (E:XK) (σ₀:St),PassesOwn (model X.prog X.w) X.A X.env xe→(∀pins H s e s',Inv (X.alt X.A X.calm pn xe) pins σ₀ H s→dF X.prog X.w X.stack H s E e s'→xe e s')→
   dz (X.alt X.A X.calm pn xe) [st] (vT (fJ (fun σ H Q=>σ=σ₀∧ta σ H fun vs H1=>sp vs H1 Q E) (cI ky)) sG))
  (hh: ∀(ea:Addr) (pn:List (Addr×Obj)),dz (X.alt (X.A.mark (some (.ref ea))) false pn fun _ _=>False) (b₀::vo) (th ea)):
  PS X (.Try [st] [.ExceptHandler (some (.Name x np)) (some n) (b₀::vo) ku] [] [] pos) (tO X.K C i ky sp ta th):=by
 intro pins s σ H D I h
 refine wpAny_Try_except ?_
 have P1: ∀fj H1 s1 e' s',Inv (X.alt X.A X.calm (X.pn++pins) fun e s₁=>wpAny (model X.prog X.w) X.A (noteFrame e X.env) (fun _ s₂=>wpAny (model X.prog X.w) X.A (setFlight e none) (fun _ s₃=>wpAny (model X.prog X.w) X.A (handleBy e X.env [.ExceptHandler (some (.Name x np)) (some n) (b₀::vo) ku]) (SP X pins D) X.xe s₃) X.xe s₂) X.xe s₁) fj σ H1 s1→dF X.prog X.w X.stack H1 s1 (w4 X.K C i th D σ) e' s'→
   (fun e s₁=>wpAny (model X.prog X.w) X.A (noteFrame e X.env) (fun _ s₂=>wpAny (model X.prog X.w) X.A (setFlight e none) (fun _ s₃=>wpAny (model X.prog X.w) X.A (handleBy e X.env [.ExceptHandler (some (.Name x np)) (some n) (b₀::vo) ku]) (SP X pins D) X.xe s₃) X.xe s₂) X.xe s₁) e' s':=by
  intro fj H1 s1 e' s' I1 hx
  obtain⟨ea,cls,t,B,H',rfl,os,bare,u,aE,fl,qf,jo,c1,c2,hm,P2⟩:=hx
  have P4:X.A.frames=some (X.env::X.outer):=by rw[I.ok.frames,iy]
  have gm:Heap.FlyingW B (X.env::X.outer) ea cls (.ref t) s'.heap:=by rw[←iy];exact fl
  refine wpAny_mono (qd C4 qf (wpAny_looks_onW (Q:=fun _ eL=> ∃h',eL={s' with heap:=h'}∧Heap.HeldW B (X.env::X.outer) ea cls (.ref t) X.env.locals h'∧s'.heap.UpToSlots h') (E:=fun _ _=>False) P4 qg gm fun h4 yT yU=> ⟨h4,rfl,yT,yU⟩))
   (fun _ s4 hq=> ?_) (fun _ _ z=>z.1.elim)
  obtain⟨⟨h4,rfl,yT,yU⟩,P5⟩:=hq
  refine wpAny_mono (qd xr P5 (wpAny_landsW (s:={s' with heap:=h4}) (Q:=fun _ eL=> ∃h',eL={s' with heap:=h'}∧Heap.FlyingW B (X.env::X.outer) ea cls (.ref t) h'∧h4.UpToSlots h') (E:=fun _ _=>False) yT fun h5 ow yV=> ⟨h5,rfl,ow,yV⟩))
   (fun _ s5 hq=> ?_) (fun _ _ z=>z.1.elim)
  obtain⟨⟨h5,rfl,P6,yV⟩,P7⟩:=hq
  have ow:Heap.FlyingW B X.stack ea cls (.ref t) h5:=by rw[iy];exact P6
  obtain⟨u5,EO,yW,yX⟩:=C6 (l:=X.stack) u aE fl.2.2.1 c1 c2 ow.1 (yU.trans yV)
  obtain⟨oe,ws,P8,P9,adt,adu⟩:=ow.first
  have I5:=I1.vQ (s':={s' with heap:=h5}) (ch:=[]) os u5 EO bare (fun b z=>absurd z List.not_mem_nil)
  refine wpAny_handleBy_cons (codeAny_handlers_test ?_) (by intro q;cases q)
  have pF:Inv (X.alt (X.A.mark (some (.ref ea))) false (X.pn++pins) fun _ _=>False) [] σ H' {s' with heap:=h5}:=I5.alt (A':=X.A.mark (some (.ref ea))) (nJ:=false) (lR:=X.pn++pins) (fj:=[]) rfl (fun z=>nomatch z) (fun p hp=>List.mem_append.mpr (.inl (by rw[List.append_nil] at hp;exact hp)))
  refine pw pF xC jd ?_ hd
  have LT:PySem.W.Looks (model X.prog X.w) h5 (typeOf (.ref ea)) cls:=by
   subst P9
   exact(PySem.W.Looks.ld P8).andThen .now
  refine(PySem.W.exm_one I5.cP LT hm).here ?_
  refine codeAny_handlers_suite_as ?_
  refine wpAny_mono (qd xr P7 (lands_againW (s:={s' with heap:=h5}) (Q:=fun _ eL=> ∃h',eL={s' with heap:=h'}∧Heap.FlyingW B X.stack ea cls (.ref t) h'∧h5.UpToSlots h') (E:=fun _ _=>False) ow fun h6 oy yY=> ⟨h6,rfl,oy,yY⟩))
   (fun _ s6 hq=> ?_) (fun _ _ z=>z.1.elim)
  obtain⟨⟨h6,rfl,oy,yY⟩,P_⟩:=hq
  obtain⟨u6,Qa,ER,yZ⟩:=C6 (l:=X.stack) u5 EO ow.2.2.1 yW yX oy.1 yY
  obtain⟨oz,ES,vp,Qc,y2,_⟩:=oy.first
  have Qd:tN oz cls ES:=by
   obtain⟨o',vs',q1,q2,q3,q4⟩:=P_
   have u_:h6.get? ea=some o':=q1
   rw[vp] at u_
   cases u_
   rw[y2] at q2
   cases q2
   exact⟨Qc,y2,q3,q4⟩
  have ne1:s1.heap.get? ea=none:=by
   cases q:s1.heap.get? ea with
   | none=>rfl
   | some o1=>
    by_cases ET:ea∈bp X.stack
    ·obtain⟨o2,fM,hd2⟩:=(oy.2.2.1.mem ET).2
     rw[vp] at fM
     cases fM
     exact(hd2 _ y2).elim
    ·have:=yZ ea o1 q ET oz vp
     rw[oy.2.1] at this
     cases this
  have u7:Un (bp X.stack) [] H1 (upd H' ea (.bA oz jl)) s1.heap h6:=⟨u6.keep,u6.slot,fun b o q n hx=>by
    rw[bc (fun z=>by rw[z,ne1] at q;cases q)];exact u6.free b o q n hx,u6.there,fun b xs q=>by
    have q':=u6.ef b xs q
    rw[bc (cO q' jo)];exact q',fun b o v q=>by
    have q':=u6.dM b o v q
    rw[bc (cO q' jo)];exact q',fun b ps q=>by
    obtain⟨more,q'⟩:=u6.eg b ps q
    exact⟨more,by rw[bc (cO q' jo)];exact q'⟩⟩
  have Qe:bH X.prog X.w (upd H' ea (.bA oz jl)) h6:=Qa.more jo (Mf vp)
  have I7:=I1.vQ (s':={s' with heap:=h6}) (ch:=[]) os u7 Qe bare (fun b z=>absurd z List.not_mem_nil)
  have I8:Inv (X.alt (X.A.mark (some (.ref ea))) false (X.pn++pins) fun _ _=>False) [] σ (upd H' ea (.bA oz jl)) {s' with heap:=h6}:=I7.alt (A':=X.A.mark (some (.ref ea))) (nJ:=false) (lR:=X.pn++pins) (fj:=[]) rfl (fun z=>nomatch z) (fun p hp=>List.mem_append.mpr (.inl (by rw[List.append_nil] at hp;exact hp)))
  refine vP (X:=X.alt (X.A.mark (some (.ref ea))) false (X.pn++pins) fun _ _=>False) (v:= .ref ea) I8 nd hN (.inl tm) rfl (fun s9 I9=> ?_) (.inr tm)
  refine wpAny_mono (hh ea (X.pn++pins) [] s9 _ _ {nx:=fun _ _=>False,rt:=D.rt} I9 (P2 ea oz ES jo Qd)) (fun f Qg hs=> ?_) fun _ _ z=>z.elim
  cases f with
  | next=>obtain⟨_,_,_,z⟩:=hs;exact z.elim
  | brk=>obtain⟨_,_,_,z⟩:=hs;exact z.elim
  | cont=>obtain⟨_,_,_,z⟩:=hs;exact z.elim
  | ret v=>
   obtain⟨v',Qh,EU,Qi,r,q⟩:=hs
   have EV:Inv X pins Qh EU Qg:=Qi.xE I.ok (fun p hp=>by simpa using hp)
   obtain⟨m,hn,_⟩:=EV.loc
   refine wpAny_nameGoes tm hn (by rw[I.ok.kind];rfl) fun h' m' vN sb=> ?_
   exact⟨v',_,EU,EV.Mg vN sb,r,q⟩
 refine wpAny_mono (hb _ _ _ σ PassesOwn.looking P1 [] s σ H {nx:=D.nx,rt:=D.rt} (I.alt rfl I.ok.hd (fun p hp=>by simpa using hp)) ⟨rfl,h⟩) (fun f s1 hs=> ?_) fun e' s' hx=>hx
 cases f with
 | next=>
  obtain⟨σ',H',I',q⟩:=hs
  exact vU pins s1 σ' H' D (I'.xE I.ok (fun p hp=>by simpa using hp)) q
 | brk=>obtain⟨_,_,_,z⟩:=hs;exact z.elim
 | cont=>obtain⟨_,_,_,z⟩:=hs;exact z.elim
 | ret v=>
  obtain⟨v',σ',H',I',r,q⟩:=hs
  exact⟨v',σ',H',I'.xE I.ok (fun p hp=>by simpa using hp),r,q⟩
end
section
variable {CX:bw} {S:bI} {Γ:aL} {X:Cx} {e:Expr} {es:List Expr} {x:Str} {p q pos:Pos} {r:RE} {rs:List RE} {i j:Nat}
theorem Qj{ky f:Nat}{y fx n:Str}{np ku yp fp cp ap:Pos}{su:List Stmt}{b₀:Stmt}{rp:List RS}(G:de CX S Γ X)(h:kG S j x=true)(hn:(decide (S.N[i]?=some n) && decide (S.sc.names.lookup n=some .local))=true)
  (hk:kL S ky y=true) (hf:kF S f fx=true) (hc:qk (.Call (.Name fx fp) (e::es) [] cp)=true) (lE:dv (e::es)=true)
  (hA: ∀{Γ:aL} {X:Cx},de CX (tS S) Γ X→PA X (e::es) (aY Γ (r::rs))) (hs: ∀{Γ:aL} {X:Cx},de CX (hS S) Γ X→dz X (b₀::su) (aw Γ rp)) (hq:S.md=0:=by rfl):
  PS X (.Try [.Assign [.Name y yp] (.Call (.Name fx fp) (e::es) [] cp) ap] [.ExceptHandler (some (.Name x np)) (some n) (b₀::su) ku] [] [] pos) (aK Γ (.xa ky i j f (r::rs) rp)):=by
 simp only[kG,kL,kF,Bool.and_eq_true,decide_eq_true_eq,Bool.not_eq_true'] at h hn hk hf
 obtain⟨u,hm,hu⟩:=G.iI j x h.1.1
 intro pins s σ H D I q
 obtain⟨C,e',q⟩:=(show ∃C,Γ.gv j= .ref C∧tO Γ.K C i ky (Γ.fs f) (aY {Γ with E:=E0} (r::rs)) (fun ea=>aw {Γ with E:=E0,hv:=some ea} rp) D σ H from q)
 rw[e'] at hu
 have pT:u= .ref C:=hu
 subst pT
 have q':tO X.K C i ky (Γ.fs f) (aY {Γ with E:=E0} (r::rs)) (fun ea=>aw {Γ with E:=E0,hv:=some ea} rp) D σ H:=by rw[G.K];exact q
 obtain⟨kk,fa,fd,ps,F,hr,Qk,Ql,Qm⟩:=G.fns hq f fx hf.1.1
 refine P0 (th:=fun ea=>aw {Γ with E:=E0,hv:=some ea} rp) G.gc G.eA G.lY (G.gl h.1.2) h.2 hm (by rw[G.N];exact G.nd) (by rw[G.N];exact hn.1) (by rw[G.sc];exact hn.2) (fun pn xe E σ₀ ho hp=> ?_) (fun ea pn=>hs (G.held ea pn)) pins s σ H D I q'
 have G0:=G.Nn pn xe E0 ho (fun _ _ _ _ _ _ _ z=> (qe z).elim)
 have gU: ∀pins H s e s',Inv (X.alt X.A X.calm pn xe) pins σ₀ H s→CX (X.alt X.A X.calm pn xe).stack H s E e s'→(X.alt X.A X.calm pn xe).xe e s':=fun pins H s e s' I z=>hp pins H s e s' I (by rw[G.j7] at z;exact z)
 have pe:=PZ (X:=X.alt X.A X.calm pn xe) (E:=E) (σ₀:=σ₀) (p:=fp) (pos:=cp) F hr (G.gl hf.1.2) Qk Ql Qm gU (hA G0) hf.2 (bZ (bR lE).1) (eR _ _ es (bR lE).2)
 exact AR (A0 (by show X.N.Nodup;rw[G.N];exact G.nd) (by show X.N[ky]?=_;rw[G.N];exact hk.1) (by show Loc X.env.scope y;rw[G.sc];exact p9 hk.2) pe (uo hc) (.inl (G.g_ y))) vU
end
end L2
namespace L2.eZ
open PySem PySem.Spec PyProof.Rows L2.B
def cg(i:Nat):Stmt:=(PySem.Challenge.pw_inkloom_k43_notes_refused.main.body).getD i (.Pass ⟨0,0,0,0⟩)
def oA:Stmt:=cg 17
theorem Qn:bL cE cE (aM oA):=cb
abbrev aR(s:Stmt)(k:Nat):Stmt:=(bh s).getD k (.Pass ⟨0,0,0,0⟩)
abbrev aS(b:List RS)(k:Nat):RS:=b.getD k (.ret (.c .aB))
abbrev MX(N:List Str)(s:Stmt)(f g l mn kn en hn:List Str)(b:List RS)(md:Nat):Prop:= ∀{CX:bw} {Γ:aL} {X:Cx},de CX (ur N (aM s) f g l mn kn en hn md) Γ X→dz X (bh s) (aw Γ b)
abbrev MY(N:List Str)(s:Stmt)(f g l mn kn en hn:List Str)(b:List RS)(md k:Nat):Prop:= ∀{CX:bw} {Γ:aL} {X:Cx},de CX (ur N (aM s) f g l mn kn en hn md) Γ X→PS X (aR s k) (aK Γ (aS b k))
theorem Qo:MX cE oA aa aa DD aa aa aa aa xU 0:=by
 intro CX Γ X G
 have g:=G.toGood
 exact(ao (aH (hG (eB g (ae g)) (js (Dw g (eB g (ae g)))))) av)
def oB:Stmt:=cg 18
theorem Qp:bL qu qu (aM oB):=cb
theorem Qq:MX qu oB ND aa aa aa aa aa aa xY 0:=by
 intro CX Γ X G
 have g:=G.toGood
 exact(ao (aH (hG (bq g (ah (ae g) au)) (js (M9 g (ae g) (ae g) (ae g))))) av)
def oC:Stmt:=cg 19
theorem Qr:bL cE cE (aM oC):=cb
theorem Qs:MX cE oC aa aa aa aa aa aa aa yt 0:=by
 intro CX Γ X G
 have g:=G.toGood
 exact(ao (aH (Na (cU g (ae g) eS) (M_ (cU g (ae g) eS)))) av)
def oE:Stmt:=cg 20
theorem Qt:bL nT nT (aM oE):=cb
theorem Qu:MX nT oE aa aa nU aa aa aa aa uv 0:=by
 intro CX Γ X G
 have g:=G.toGood
 exact(ao (aH (hG (eB g (ae g)) (js (cU g (ae g) (ae g))))) av)
def oF:Stmt:=cg 21
theorem Qw:bL cE cE (aM oF):=cb
theorem Qx:MX cE oF aa NC nU aa aa aa aa uw 0:=by
 intro CX Γ X G
 have g:=G.toGood
 exact(ao (aH (hG (eB g (ae g)) (js (cU g (fm g (ae g) (ah (dq g) au)) aq)))) av)
def oG:Stmt:=cg 28
theorem Qy:bL cE cE (aM oG):=cb
theorem Qz:MX cE oG O4 O5 Ep aa aa aa aa yy 0:=by
 intro CX Γ X G
 have g:=G.toGood
 exact(ao (aO (PW.pt (fo (eV (nP g (eB g (ae g)))) (hU (eV (xM g ax (cW g (ah (ae g) au)) (dq g)))))) (ao (aH eS) av) av) (ao (aH (uF g (ah (gp (ln:=["text"]) g (by kernel_rfl) (nQ g (ae g)) hJ (fun _ g=> (bq g (ah (ae g) au)))) au))) av))
def oH:Stmt:=cg 29
theorem QC:bL qM qM (aM oH):=cb
theorem QD:MX qM oH O6 O7 aa aa aa aa aa yz 0:=by
 intro CX Γ X G
 have g:=G.toGood
 exact(ao (aO (aN g (ae g) aq) (ao (aH (bq g (ah (ae g) au))) av) av) (ao (aO (aN g (ae g) aq) (ao (aH (bq g (ah (ae g) au))) av) av) (ao (aO (aN g (ae g) aq) (ao (aH (bq g (ah (ae g) (ah (dq g) au)))) av) av) (ao (aO (aN g (ae g) (br (ah aq (ah aq au)))) (ao (aH (bq g (ah (ae g) (ah ax (ah (dq g) au))))) av) av) (ao (aO (aN g (ae g) aq) (ao (aH (bq g (ah (ae g) (ah (dq g) au)))) av) av) (ao (aH (hG (cU g (ae g) aq) (js (bq g (ah (ae g) au))))) av))))))
def oI:Stmt:=cg 30
theorem QE:bL cE cE (aM oI):=cb
theorem QF:MX cE oI O8 O9 Er aa aa aa aa oh 0:=by
 intro CX Γ X G
 have g:=G.toGood
 exact(ao (aO (PW.pt (fo (eV (nP g (eB g (ae g)))) (fo (aN g (cW g (ah (ae g) au)) ax) (hU (eV (nP g (eB g (aW g (ae g) ax)))))))) (ao (aH eS) av) av) (ao (aO (aN g (aW g (ae g) ax) (br (ah aq (ah aq (ah aq au))))) (ao (aH (cU g (cW g (ah (ae g) au)) ax)) av) av) (ao (aO (aN g (aW g (ae g) ax) aq) (ao (aH (hG (cU g (cW g (ah (ae g) au)) ax) (hG (bq g (ah (aW g (ae g) ax) (ah (dq g) au))) (js (bq g (ah (aW g (ae g) ax) au)))))) av) av) (ao (aH (hG (cU g (cW g (ah (ae g) au)) ax) (js (bq g (ah (aW g (ae g) ax) (ah (aW g (ae g) ax) au)))))) av))))
def oJ:Stmt:=cg 31
theorem QG:bL gF gF (aM oJ):=cb
theorem QH:MX gF oJ O_ aa aa aa aa Pa aa yA 0:=by
 intro CX Γ X G
 have g:=G.toGood
 exact(ao (aO (eV (uk g (bq g (ah (ae g) au)))) (ao (xQ G (ah aq au)) av) av) av)
def oK:Stmt:=cg 35
theorem QI:bL qN qN (aM oK):=cb
theorem QJ:MX qN oK aa aa aa aa aa aa aa yB 0:=by
 intro CX Γ X G
 have g:=G.toGood
 exact(ao (aH (aF g (N1 g (x9 g (by kernel_rfl) (x9 g (by kernel_rfl) (x9 g (by kernel_rfl) (PE.p (ae g)))))) aq)) av)
def oM:Stmt:=cg 36
theorem QK:bL vb gF (aM oM):=cb
theorem QL:MX vb oM Pb aa Es aa aa aa aa vc 0:=by
 intro CX Γ X G
 have g:=G.toGood
 exact(ao (aZ G (aW g (ae g) ax)) (ao (aO (aN g (ae g) aq) (ao (aH (bt (ah (ae g) (ah (bq g (ah (aW g (ae g) ax) au)) au)))) av) av) (ao (aO (aN g (ae g) aq) (ao (aH (aF g (bt (ah (ae g) au)) (gp (ln:=["text"]) g (by kernel_rfl) (nQ g (aW g (ae g) ax)) hJ (fun _ g=> (bq g (ah (ae g) au)))))) av) av) (ao (aO (aN g (ae g) aq) (ao (aH (bt (ah (ug (xO g (aW g (ae g) ax)) aq aq) (ah (aW g (ae g) ax) au)))) av) av) (ao (aO (aN g (ae g) aq) (ao (aH (bt (ah (ae g) (ah (ug (xO g (aW g (ae g) ax)) aq aq) au)))) av) av) (ao (aH (aF g (bt (ah (ae g) au)) (gp (ln:=["part"]) g (by kernel_rfl) (nQ g (dX g (ae g) (dG ax) eU)) hJ (fun _ g=> (DK g (ah (ae g) au)))))) av))))))
def oN:Stmt:=cg 37
theorem QM:bL gF gF (aM oN):=cb
theorem QN:MX gF oN Pc aa aa aa aa aa aa yC 0:=by
 intro CX Γ X G
 have g:=G.toGood
 exact(ao (nR (bq g (ah (ae g) au))) (ao (aH (fm g aq (ah (bq g (ah (ae g) au)) au))) av))
def oO:Stmt:=cg 38
theorem QO:bL yD Et (aM oO):=cb
theorem QP:MX yD oO aa aa aa aa aa aa aa yE 0:=by
 intro CX Γ X G
 have g:=G.toGood
 exact(ao (aZ G (bt au)) (ao (aZ G (bt au)) (ao (aZ G eS) (ao (aZ G eS) (ao (qp G (qz (ae g)) (ao (aO (qm g (ae g)) (ao (nR (fm g (ae g) (ah (ug (aN g (ae g) aq) aq (ae g)) au))) (ao (aZ G eS) av)) (ao (aO (aN g (ae g) aq) (ao (aZ G eS) av) (ao (aO (aN g (ae g) aq) (ao (nR (fm g (ae g) (ah (ae g) au))) av) (ao (aO (qm g (ae g)) (ao (nR (fm g (ae g) (ah (fm g aq (ah (ae g) au)) au))) av) av) (ao (aZ G (bt au)) (ao (aZ G (Dw g (ae g))) av)))) av)) av)) av)) (ao (aH (ae g)) av))))))
def oP:Stmt:=cg 39
theorem QR:bL qO qO (aM oP):=cb
theorem QS:MX qO oP aa Pd vd aa aa aa aa yF 0:=by
 intro CX Γ X G
 have g:=G.toGood
 exact(ao (aO (PW.pt (fo (aN g (cW g (ah (ae g) au)) ax) (fo (aN g (cW g (ah (ae g) au)) (dq g)) (hU (aN g (NZ g (ae g) (ah (dq g) au)) aq))))) (ao (aH dn) av) av) (ao (aH (Eo g (ah (ae g) au))) av))
def oQ:Stmt:=cg 40
theorem QU:bL vf vg (aM oQ):=cb
theorem QV:MX vf oQ Pe aa Eu aa aa aa aa qP 0:=by
 intro CX Γ X G
 have g:=G.toGood
 exact(ao (aZ G (N0 g (ae g) (ah aq au))) (ao (aZ G (aW g (ae g) ax)) (ao (aZ G (aW g (ae g) ax)) (ao (aO (aN g (ae g) aq) (ao (aH (aF g (br (ah (ae g) au)) (cW g (ah (bq g (ah (ae g) au)) au)))) av) av) (ao (aO (aN g (ae g) aq) (ao (aH (br (ah (ae g) (ah (cW g (ah (bq g (ah (ae g) au)) au)) au)))) av) av) (ao (aO (aN g (ae g) (br (ah aq (ah aq au)))) (ao (aH (br (ah aq (ah (ae g) (ah (cU g (ae g) aq) au))))) av) av) (ao (aO (aN g (ae g) (br (ah aq (ah aq au)))) (ao (aH (br (ah (ae g) (ah (bq g (ah (ae g) au)) au)))) av) av) (ao (aO (aN g (ae g) aq) (ao (aH (br (ah (ae g) (ah (cU g (ae g) aq) au)))) av) av) (ao (aO (aN g (ae g) (br (ah aq (ah aq (ah aq au))))) (ao (aH (br (ah (ae g) au))) av) av) (ao (aH (br (ah (ae g) (ah (ae g) au)))) av))))))))))
def oR:Stmt:=cg 41
theorem QW:bL yG vg (aM oR):=cb
theorem QX:MX yG oR Pf aa nU aa aa Pg aa yH 0:=by
 intro CX Γ X G
 have g:=G.toGood
 exact(ao (aO (eV (nP g (eB g (ae g)))) (ao (xQ G (ah aq au)) av) av) (ao (aZ G (bq g (ah (ae g) au))) (ao (aO (PW.pt (fo (eV (uk g (bq g (ah (ae g) au)))) (hU (aN g (bq g (ah (ae g) au)) (ae g))))) (ao (xQ G (ah aq au)) av) av) (ao (aH (ae g)) av))))
def oS:Stmt:=cg 43
theorem QY:bL qr qr (aM oS):=cb
theorem QZ:MX qr oS aa aa eY aa aa aa aa xV 0:=by
 intro CX Γ X G
 have g:=G.toGood
 exact(ao (aO (aN g (ae g) (cW g (ah (ae g) au))) (ao (aH (aW g (ae g) (ae g))) av) av) (ao (aH ax) av))
def oT:Stmt:=cg 45
theorem Q0:bL xW DE (aM oT):=cb
theorem Q1:MX xW oT aa aa aa aa aa aa aa xX 0:=by
 intro CX Γ X G
 have g:=G.toGood
 exact(ao (aZ G (aF g (aF g (aF g (aF g (ae g) ax) (aF g ax (ae g))) ax) ax)) (ao (aH (aF g (aF g (aF g (aF g (ae g) (ae g)) ax) (ae g)) ax)) av))
def gr:List Str:=["_law_e","_law_some","_law_found"]
def df:Stmt:=cg 46
theorem Q3:bL gr DF (aM df):=cb
theorem Q4:MY gr df aa jt iM aa aa aa aa dw 1 0:=by
 intro CX Γ X G
 have g:=G.toGood
 show PS X (.Assign [.Name "_law_some" _] _ _) (aK Γ (.asg 1 _))
 with_reducible exact(aZ G (bt (ah (br (ah aq (ah (eT g (ae g) (dq g)) au))) (ah (br (ah aq (ah (eT g (ae g) (dq g)) au))) (ah (br (ah aq (ah (eT g (ae g) (dq g)) au))) au)))))
theorem Q5:MY gr df aa jt iM aa aa aa aa dw 1 1:=by
 intro CX Γ X G
 have g:=G.toGood
 show PS X (.Assign [.Name "_law_some" _] _ _) (aK Γ (.asg 1 _))
 with_reducible exact(aZ G (aF g (ae g) (bt (ah (br (ah aq (ah (eT g (ae g) (dq g)) au))) (ah (br (ah aq (ah (eT g (ae g) (dq g)) au))) (ah (br (ah aq (ah (eT g (ae g) (dq g)) au))) au))))))
theorem Q6:MY gr df aa jt iM aa aa aa aa dw 1 2:=by
 intro CX Γ X G
 have g:=G.toGood
 show PS X (.Assign [.Name "_law_some" _] _ _) (aK Γ (.asg 1 _))
 with_reducible exact(aZ G (aF g (ae g) (bt (ah (br (ah aq (ah (eT g (ae g) (dq g)) au))) (ah (br (ah aq (ah (eT g (ae g) (dq g)) au))) au)))))
theorem Q7:MY gr df aa jt iM aa aa aa aa dw 1 3:=by
 intro CX Γ X G
 have g:=G.toGood
 show PS X (.Assign [.Name "_law_some" _] _ _) (aK Γ (.asg 1 _))
 with_reducible exact(aZ G (aF g (ae g) (bt (ah (br (ah aq (ah (eT g (ae g) (dq g)) au))) (ah (br (ah aq (ah (eT g (ae g) (dq g)) au))) au)))))
theorem Q8:MY gr df aa jt iM aa aa aa aa dw 1 4:=by
 intro CX Γ X G
 have g:=G.toGood
 show PS X (.Assign [.Name "_law_some" _] _ _) (aK Γ (.asg 1 _))
 with_reducible exact(aZ G (aF g (ae g) (bt (ah (br (ah aq (ah (eT g (ae g) (dq g)) au))) (ah (br (ah aq (ah (eT g (ae g) (dq g)) au))) (ah (br (ah aq (ah (eT g (ae g) (dq g)) au))) au))))))
theorem Q9:MY gr df aa jt iM aa aa aa aa dw 1 5:=by
 intro CX Γ X G
 have g:=G.toGood
 exact(Nk G (by kernel_rfl) (by kernel_rfl) (by kernel_rfl) (ae g) (uh fun _ g=> (qm g (ae g))) (fun _ g=> (ae g)))
theorem Q_:MY gr df aa jt iM aa aa aa aa dw 1 6:=by
 intro CX Γ X G
 have g:=G.toGood
 exact(aO (PW.pt (fo (eV (Dx g (eT g (ae g) (dq g)))) (hU (eV (Dx g (eT g (ae g) (Nc g (by decide+kernel) (by decide) (by decide)))))))) (ao (nR (fm g (ae g) (ah aq au))) av) av)
theorem Ra:MY gr df aa jt iM aa aa aa aa dw 1 7:=by
 intro CX Γ X G
 have g:=G.toGood
 show PS X (.Return (some _) _) (aK Γ (.ret _))
 with_reducible exact(aH (fm g aq (ah (ae g) au)))
theorem Rb:MX gr df aa jt iM aa aa aa aa dw 1:=by
 intro CX Γ X G
 have e:bh df=[aR df 0,aR df 1,aR df 2,aR df 3,aR df 4,aR df 5,aR df 6,aR df 7]:=by kernel_rfl
 have e2:dw=[aS dw 0,aS dw 1,aS dw 2,aS dw 3,aS dw 4,aS dw 5,aS dw 6,aS dw 7]:=by kernel_rfl
 rw[e,e2]
 with_reducible exact ao (Q4 G) (ao (Q5 G) (ao (Q6 G) (ao (Q7 G) (ao (Q8 G) (ao (Q9 G) (ao (Q_ G) (ao (Ra G) (av))))))))
def kx:List Str:=["_law_cell","_law_some","_law_found","_law_k","_law_number","_law_sign_here"]
def kz:List Str:=["_law_cell"]
noncomputable def fB:List RS:=
 [.asg 1 (.c (.str " !\"#$&'()*+,-./0123456789:;<=>?@ABCDEFGHIJKLMNOPQRSTUVWXYZ[\\]^_`")),
 .asg 1 (.bin .Add (.v 1) (.c (.str "abcdefghijklmnopqrstuvwxyz{|}~\n"))),
 .asg 2 (.c (.str "")),
 .iH 3 .fH [(.ix (.lst [(.c (.int 0)),(.c (.int 1)),(.c (.int 2)),(.c (.int 3)),(.c (.int 6))]) (.bin .Mod (.v 0) (.c (.int 5))))] [.asg 4 (.call 0 [(.v 0),(.bin .Add (.c (.int 60)) (.v 3))]),
  .asg 5 (.ix (.v 1) (.bin .Mod (.bin .FloorDiv (.v 4) (.c (.int 8))) (.c (.int 95)))),
  .asg 2 (.bin .Add (.v 2) (.ix (.lst [(.c (.str "\"")),(.c (.str "\\")),(.c (.str "\n")),(.c (.str "n")),(.c (.str " ")),(.v 5),(.v 5),(.c (.str "a"))]) (.bin .Mod (.v 4) (.c (.int 8)))))],
 .ret (.v 2)]
def oU:List Str:=["_law_mixed"]
def gI:List Str:=["range"]
def d0:Stmt:=cg 47
theorem Rc:bL kx kz (aM d0):=cb
theorem Rf:MY kx d0 oU aa gI aa aa aa aa fB 0 0:=by
 intro CX Γ X G
 have g:=G.toGood
 show PS X (.Assign [.Name "_law_some" _] _ _) (aK Γ (.asg 1 _))
 with_reducible exact(aZ G aq)
theorem Rg:MY kx d0 oU aa gI aa aa aa aa fB 0 1:=by
 intro CX Γ X G
 have g:=G.toGood
 show PS X (.Assign [.Name "_law_some" _] _ _) (aK Γ (.asg 1 _))
 with_reducible exact(aZ G (aF g (ae g) aq))
theorem Rh:MY kx d0 oU aa gI aa aa aa aa fB 0 2:=by
 intro CX Γ X G
 have g:=G.toGood
 show PS X (.Assign [.Name "_law_found" _] _ _) (aK Γ (.asg 2 _))
 with_reducible exact(aZ G aq)
theorem Ri:MY kx d0 oU aa gI aa aa aa aa fB 0 3:=by
 intro CX Γ X G
 have g:=G.toGood
 refine(qp G (Dy g (aW g (bt (ah ax (ah ax (ah ax (ah ax (ah ax au)))))) (aF g (ae g) ax))) ?_)
 refine ao ?_ ?_
 ·show PS X (.Assign [.Name "_law_number" _] _ _) (aK Γ (.asg 4 _))
  with_reducible exact(aZ G (bq g (ah (ae g) (ah (aF g ax (ae g)) au))))
 refine ao ?_ ?_
 ·show PS X (.Assign [.Name "_law_sign_here" _] _ _) (aK Γ (.asg 5 _))
  with_reducible exact(aZ G (aW g (ae g) (aF g (aF g (ae g) ax) ax)))
 refine ao ?_ ?_
 ·show PS X (.Assign [.Name "_law_found" _] _ _) (aK Γ (.asg 2 _))
  with_reducible exact(aZ G (aF g (ae g) (aW g (bt (ah aq (ah aq (ah aq (ah aq (ah aq (ah (ae g) (ah (ae g) (ah aq au))))))))) (aF g (ae g) ax))))
 exact av
theorem Rj:MY kx d0 oU aa gI aa aa aa aa fB 0 4:=by
 intro CX Γ X G
 have g:=G.toGood
 show PS X (.Return (some _) _) (aK Γ (.ret _))
 with_reducible exact(aH (ae g))
theorem Rk:MX kx d0 oU aa gI aa aa aa aa fB 0:=by
 intro CX Γ X G
 have e:bh d0=[aR d0 0,aR d0 1,aR d0 2,aR d0 3,aR d0 4]:=by kernel_rfl
 have e2:fB=[aS fB 0,aS fB 1,aS fB 2,aS fB 3,aS fB 4]:=by kernel_rfl
 rw[e,e2]
 with_reducible exact ao (Rf G) (ao (Rg G) (ao (Rh G) (ao (Ri G) (ao (Rj G) (av)))))
def eF:List Str:=["_law_cell","_law_more","_law_steps","_law_number","_law_some","_law_word_here"]
noncomputable def cx:List RS:=
 [.asg 1 (.call 0 [(.v 0),(.c (.int 4))]),
 .asg 2 (.lst [(.c (.str "left")),(.c (.str "right")),(.c (.str "up")),(.c (.str "down")),(.c (.str "home")),(.c (.str "end")),(.c (.str "top")),(.c (.str "bottom")),(.c (.str "back")),(.c (.str "on"))]),
 .asg 3 (.ix (.lst [(.bin .Mod (.v 1) (.c (.int 10))),(.bin .Mod (.v 1) (.c (.int 100000))),(.bin .Sub (.bin .Sub (.bin .Pow (.c (.int 10)) (.c (.int 9))) (.c (.int 1))) (.bin .Mod (.v 1) (.c (.int 3)))),(.c (.int 0))]) (.bin .Mod (.bin .FloorDiv (.v 1) (.c (.int 7))) (.c (.int 4)))),
 .asg 4 (.lst [(.c (.str "enter")),(.c (.str "paste")),(.c (.str "erase")),(.c (.str "step")),(.c (.str "spread")),(.c (.str "only")),(.c (.str "mark")),(.c (.str "span")),(.c (.str "undo")),(.c (.str "redo")),(.c (.str "go")),(.c (.str "enter"))]),
 .asg 5 (.ix (.v 4) (.bin .Mod (.v 0) (.c (.int 12)))),
 .ite (.cmp .Eq (.v 5) (.c (.str "enter"))) [.ret (.tup [(.v 5),(.call 1 [(.v 1)])])] [],
 .ite (.cmp .Eq (.v 5) (.c (.str "paste"))) [.ret (.tup [(.v 5),(.blt .tuple [(.comp none [("_law_more",1)] .fH [(.ix (.lst [(.c (.int 1)),(.c (.int 2)),(.c (.int 3)),(.c (.int 40))]) (.bin .Mod (.bin .FloorDiv (.v 1) (.c (.int 5))) (.c (.int 4))))] none (.call 1 [(.bin .Add (.v 1) (.bin .Mult (.c (.int 11)) (.v 0)))]))])])] [],
 .ite (.cmp .Eq (.v 5) (.c (.str "erase"))) [.ret (.tup [(.v 5),(.ix (.lst [(.c (.str "left")),(.c (.str "right")),(.c (.str "back")),(.c (.str "on")),(.c (.str "home")),(.c (.str "end"))]) (.bin .Mod (.v 1) (.c (.int 6))))])] [],
 .ite (.cmp .Eq (.v 5) (.c (.str "step"))) [.ret (.tup [(.v 5),(.ix (.v 2) (.bin .Mod (.v 1) (.c (.int 10)))),(.cmp .Eq (.bin .Mod (.bin .FloorDiv (.v 1) (.c (.int 10))) (.c (.int 2))) (.c (.int 1)))])] [],
 .ite (.cmp .Eq (.v 5) (.c (.str "mark"))) [.ret (.tup [(.v 5),(.ix (.lst [(.c (.str "left")),(.c (.str "right"))]) (.bin .Mod (.v 1) (.c (.int 2))))])] [],
 .ite (.cmp .Eq (.v 5) (.c (.str "span"))) [.ret (.tup [(.v 5),(.cmp .Eq (.bin .Mod (.v 1) (.c (.int 2))) (.c (.int 1)))])] [],
 .ite (.cmp .In (.v 5) (.tup [(.c (.str "spread")),(.c (.str "go"))])) [.ret (.tup [(.v 5),(.v 3)])] [],
 .ret (.tup [(.v 5)])]
def fD:List Str:=["_law_mixed","_law_note_text"]
def fg:List Str:=["tuple","range"]
def cq:Stmt:=cg 48
theorem Rl:bL eF kz (aM cq):=cb
theorem Rm:MY eF cq fD aa fg aa aa aa aa cx 0 0:=by
 intro CX Γ X G
 have g:=G.toGood
 show PS X (.Assign [.Name "_law_more" _] _ _) (aK Γ (.asg 1 _))
 with_reducible exact(aZ G (bq g (ah (ae g) (ah ax au))))
theorem Rn:MY eF cq fD aa fg aa aa aa aa cx 0 1:=by
 intro CX Γ X G
 have g:=G.toGood
 show PS X (.Assign [.Name "_law_steps" _] _ _) (aK Γ (.asg 2 _))
 with_reducible exact(aZ G (bt (ah aq (ah aq (ah aq (ah aq (ah aq (ah aq (ah aq (ah aq (ah aq (ah aq au))))))))))))
theorem Ro:MY eF cq fD aa fg aa aa aa aa cx 0 2:=by
 intro CX Γ X G
 have g:=G.toGood
 show PS X (.Assign [.Name "_law_number" _] _ _) (aK Γ (.asg 3 _))
 with_reducible exact(aZ G (aW g (bt (ah (aF g (ae g) ax) (ah (aF g (ae g) ax) (ah (aF g (aF g (aF g ax ax) ax) (aF g (ae g) ax)) (ah ax au))))) (aF g (aF g (ae g) ax) ax)))
theorem Rp:MY eF cq fD aa fg aa aa aa aa cx 0 3:=by
 intro CX Γ X G
 have g:=G.toGood
 show PS X (.Assign [.Name "_law_some" _] _ _) (aK Γ (.asg 4 _))
 with_reducible exact(aZ G (bt (ah aq (ah aq (ah aq (ah aq (ah aq (ah aq (ah aq (ah aq (ah aq (ah aq (ah aq (ah aq au))))))))))))))
theorem Rq:MY eF cq fD aa fg aa aa aa aa cx 0 4:=by
 intro CX Γ X G
 have g:=G.toGood
 show PS X (.Assign [.Name "_law_word_here" _] _ _) (aK Γ (.asg 5 _))
 with_reducible exact(aZ G (aW g (ae g) (aF g (ae g) ax)))
theorem Rr:MY eF cq fD aa fg aa aa aa aa cx 0 5:=by
 intro CX Γ X G
 have g:=G.toGood
 show PS X (.If _ _ _ _) (aK Γ (.ite _ _ _))
 refine aO ?_ ?_ ?_
 ·exact(aN g (ae g) aq)
 ·refine ao ?_ ?_
  ·show PS X (.Return (some _) _) (aK Γ (.ret _))
   with_reducible exact(aH (br (ah (ae g) (ah (bq g (ah (ae g) au)) au))))
  exact av
 ·exact av
theorem Rt:MY eF cq fD aa fg aa aa aa aa cx 0 6:=by
 intro CX Γ X G
 have g:=G.toGood
 exact(aO (aN g (ae g) aq) (ao (aH (br (ah (ae g) (ah (cW g (ah (gp (ln:=["_law_k"]) g (by kernel_rfl) (Dy g (aW g (bt (ah ax (ah ax (ah ax (ah ax au))))) (aF g (aF g (ae g) ax) ax))) hJ (fun _ g=> (bq g (ah (aF g (ae g) (aF g ax (ae g))) au)))) au)) au)))) av) av)
theorem Ru:MY eF cq fD aa fg aa aa aa aa cx 0 7:=by
 intro CX Γ X G
 have g:=G.toGood
 show PS X (.If _ _ _ _) (aK Γ (.ite _ _ _))
 refine aO ?_ ?_ ?_
 ·exact(aN g (ae g) aq)
 ·refine ao ?_ ?_
  ·show PS X (.Return (some _) _) (aK Γ (.ret _))
   with_reducible exact(aH (br (ah (ae g) (ah (aW g (bt (ah aq (ah aq (ah aq (ah aq (ah aq (ah aq au))))))) (aF g (ae g) ax)) au))))
  exact av
 ·exact av
theorem Rv:MY eF cq fD aa fg aa aa aa aa cx 0 8:=by
 intro CX Γ X G
 have g:=G.toGood
 show PS X (.If _ _ _ _) (aK Γ (.ite _ _ _))
 refine aO ?_ ?_ ?_
 ·exact(aN g (ae g) aq)
 ·refine ao ?_ ?_
  ·show PS X (.Return (some _) _) (aK Γ (.ret _))
   with_reducible exact(aH (br (ah (ae g) (ah (aW g (ae g) (aF g (ae g) ax)) (ah (cU g (aF g (aF g (ae g) ax) ax) ax) au)))))
  exact av
 ·exact av
theorem Rw:MY eF cq fD aa fg aa aa aa aa cx 0 9:=by
 intro CX Γ X G
 have g:=G.toGood
 show PS X (.If _ _ _ _) (aK Γ (.ite _ _ _))
 refine aO ?_ ?_ ?_
 ·exact(aN g (ae g) aq)
 ·refine ao ?_ ?_
  ·show PS X (.Return (some _) _) (aK Γ (.ret _))
   with_reducible exact(aH (br (ah (ae g) (ah (aW g (bt (ah aq (ah aq au))) (aF g (ae g) ax)) au))))
  exact av
 ·exact av
theorem Rx:MY eF cq fD aa fg aa aa aa aa cx 0 10:=by
 intro CX Γ X G
 have g:=G.toGood
 show PS X (.If _ _ _ _) (aK Γ (.ite _ _ _))
 refine aO ?_ ?_ ?_
 ·exact(aN g (ae g) aq)
 ·refine ao ?_ ?_
  ·show PS X (.Return (some _) _) (aK Γ (.ret _))
   with_reducible exact(aH (br (ah (ae g) (ah (cU g (aF g (ae g) ax) ax) au))))
  exact av
 ·exact av
theorem Ry:MY eF cq fD aa fg aa aa aa aa cx 0 11:=by
 intro CX Γ X G
 have g:=G.toGood
 show PS X (.If _ _ _ _) (aK Γ (.ite _ _ _))
 refine aO ?_ ?_ ?_
 ·exact(aN g (ae g) (br (ah aq (ah aq au))))
 ·refine ao ?_ ?_
  ·show PS X (.Return (some _) _) (aK Γ (.ret _))
   with_reducible exact(aH (br (ah (ae g) (ah (ae g) au))))
  exact av
 ·exact av
theorem Rz:MY eF cq fD aa fg aa aa aa aa cx 0 12:=by
 intro CX Γ X G
 have g:=G.toGood
 show PS X (.Return (some _) _) (aK Γ (.ret _))
 with_reducible exact(aH (br (ah (ae g) au)))
theorem RA:MX eF cq fD aa fg aa aa aa aa cx 0:=by
 intro CX Γ X G
 have e:bh cq=[aR cq 0,aR cq 1,aR cq 2,aR cq 3,aR cq 4,aR cq 5,aR cq 6,aR cq 7,aR cq 8,aR cq 9,aR cq 10,aR cq 11,aR cq 12]:=by kernel_rfl
 have e2:cx=[aS cx 0,aS cx 1,aS cx 2,aS cx 3,aS cx 4,aS cx 5,aS cx 6,aS cx 7,aS cx 8,aS cx 9,aS cx 10,aS cx 11,aS cx 12]:=by kernel_rfl
 rw[e,e2]
 with_reducible exact ao (Rm G) (ao (Rn G) (ao (Ro G) (ao (Rp G) (ao (Rq G) (ao (Rr G) (ao (Rt G) (ao (Ru G) (ao (Rv G) (ao (Rw G) (ao (Rx G) (ao (Ry G) (ao (Rz G) (av)))))))))))))
def y3:List Str:=["_law_text","_law_found","_law_sign_here"]
def vq:List Str:=["_law_text"]
noncomputable def y4:List RS:=
 [.asg 1 (.c (.str "")),
 .iH 2 .txt [(.v 0)] [.ite (.cmp .Eq (.v 2) (.c (.str "\n"))) [.asg 1 (.bin .Add (.v 1) (.c (.str "\\n")))] [.ite (.or [(.cmp .Eq (.v 2) (.c (.str "\\"))),(.cmp .Eq (.v 2) (.c (.str "\"")))]) [.asg 1 (.bin .Add (.bin .Add (.v 1) (.c (.str "\\"))) (.v 2))] [.asg 1 (.bin .Add (.v 1) (.v 2))]]],
 .ret (.bin .Add (.bin .Add (.c (.str "\"")) (.v 1)) (.c (.str "\"")))]
def oV:Stmt:=cg 49
theorem RB:bL y3 vq (aM oV):=cb
theorem RC:MX y3 oV aa aa aa aa aa aa aa y4 0:=by
 intro CX Γ X G
 have g:=G.toGood
 exact(ao (aZ G aq) (ao (qp G (qz (ae g)) (ao (aO (aN g (ae g) aq) (ao (aZ G (aF g (ae g) aq)) av) (ao (aO (PW.pt (fo (aN g (ae g) aq) (hU (aN g (ae g) aq)))) (ao (aZ G (aF g (aF g (ae g) aq) (ae g))) av) (ao (aZ G (aF g (ae g) (ae g))) av)) av)) av)) (ao (aH (aF g (aF g aq (ae g)) aq)) av)))
def oW:List Str:=["_law_deed_here"]
noncomputable def vt:List RS:=
 [.ite (.cmp .Eq (.ix (.v 0) (.c (.int 0))) (.c (.str "enter"))) [.ret (.bin .Add (.c (.str "enter ")) (.call 0 [(.ix (.v 0) (.c (.int 1)))]))] [],
 .ite (.cmp .Eq (.ix (.v 0) (.c (.int 0))) (.c (.str "paste"))) [.ret (.bin .Add (.c (.str "paste ")) (.di .join (.c (.str " ")) [(.comp none [] .tup [(.ix (.v 0) (.c (.int 1)))] none (.call 0 [(.v 0)]))]))] [],
 .ite (.cmp .Eq (.ix (.v 0) (.c (.int 0))) (.c (.str "step"))) [.ret (.bin .Add (.ix (.lst [(.c (.str "step ")),(.c (.str "hold "))]) (.blt .int [(.ix (.v 0) (.c (.int 2)))])) (.ix (.v 0) (.c (.int 1))))] [],
 .ite (.cmp .Eq (.ix (.v 0) (.c (.int 0))) (.c (.str "span"))) [.ret (.ix (.lst [(.c (.str "span stays")),(.c (.str "span grows"))]) (.blt .int [(.ix (.v 0) (.c (.int 1)))]))] [],
 .ret (.di .join (.c (.str " ")) [(.comp none [] .tup [(.v 0)] none (.xt uE [(.v 0)]))])]
def RD:List Str:=["_law_quoted"]
def EW:List Str:=["int","str"]
def oX:Stmt:=cg 50
theorem RF:bL oW oW (aM oX):=cb
theorem RG:MX oW oX RD aa EW aa aa aa aa vt 0:=by
 intro CX Γ X G
 have g:=G.toGood
 exact(ao (aO (aN g (aW g (ae g) ax) aq) (ao (aH (aF g aq (bq g (ah (aW g (ae g) ax) au)))) av) av) (ao (aO (aN g (aW g (ae g) ax) aq) (ao (aH (aF g aq (fm g aq (ah (gp (ln:=["_law_one"]) g (by kernel_rfl) (nQ g (aW g (ae g) ax)) hJ (fun _ g=> (bq g (ah (ae g) au)))) au)))) av) av) (ao (aO (aN g (aW g (ae g) ax) aq) (ao (aH (aF g (aW g (bt (ah aq (ah aq au))) (cW g (ah (aW g (ae g) ax) au))) (aW g (ae g) ax))) av) av) (ao (aO (aN g (aW g (ae g) ax) aq) (ao (aH (aW g (bt (ah aq (ah aq au))) (cW g (ah (aW g (ae g) ax) au)))) av) av) (ao (aH (fm g aq (ah (gp (ln:=["_law_one"]) g (by kernel_rfl) (nQ g (ae g)) hJ (fun _ g=> (DK g (ah (ae g) au)))) au))) av)))))
def kA:List Str:=["_law_line_here","_law_found","_law_is_next","_law_sign_here","_law_kind","_law_text","_law_at"]
def vv:List Str:=["_law_line_here"]
noncomputable def fh:List RS:=
 [.asg 1 (.lst [(.lst [(.c (.str "")),(.c (.str ""))])]),
 .asg 2 (.c (.bl false)),
 .iH 3 .txt [(.v 0)] [.tU [4,5] (.ix (.v 1) (.neg (.c (.int 1)))),
  .ite (.v 2) [.asg 6 (.di .find (.c (.str "\\\"n")) [(.v 3)]),
   .ite (.cmp .Lt (.v 6) (.c (.int 0))) [.ret (.c .aB)] [],
   .set (.ix (.v 1) (.neg (.c (.int 1)))) (.c (.int 1)) (.bin .Add (.v 5) (.ix (.c (.str "\\\"\n")) (.v 6))),
   .asg 2 (.c (.bl false))] [.ite (.cmp .Eq (.v 4) (.c (.str "in"))) [.asg 2 (.cmp .Eq (.v 3) (.c (.str "\\"))),
    .ite (.cmp .Eq (.v 3) (.c (.str "\n"))) [.ret (.c .aB)] [],
    .ite (.cmp .Eq (.v 3) (.c (.str "\""))) [.set (.ix (.v 1) (.neg (.c (.int 1)))) (.c (.int 0)) (.c (.str "out"))] [.ite (.not (.v 2)) [.set (.ix (.v 1) (.neg (.c (.int 1)))) (.c (.int 1)) (.bin .Add (.v 5) (.v 3))] []]] [.ite (.cmp .Eq (.v 3) (.c (.str " "))) [.drop (.di .append (.v 1) [(.lst [(.c (.str "")),(.c (.str ""))])])] [.ite (.cmp .Eq (.v 4) (.c (.str "out"))) [.ret (.c .aB)] [.ite (.and [(.cmp .Eq (.v 3) (.c (.str "\""))),(.cmp .Eq (.v 5) (.c (.str "")))]) [.set (.ix (.v 1) (.neg (.c (.int 1)))) (.c (.int 0)) (.c (.str "in"))] [.set (.ix (.v 1) (.neg (.c (.int 1)))) (.c (.int 1)) (.bin .Add (.v 5) (.v 3))]]]]]],
 .ite (.cmp .Eq (.ix (.ix (.v 1) (.neg (.c (.int 1)))) (.c (.int 0))) (.c (.str "in"))) [.ret (.c .aB)] [],
 .ret (.comp (some 102) [] .list [(.v 1)] none (.tup [(.cmp .Eq (.v 0) (.c (.str "out"))),(.v 1)]))]
def d4:Stmt:=cg 51
theorem RH:bL kA vv (aM d4):=cb
theorem RI:MY kA d4 aa aa aa aa aa aa aa fh 0 0:=by
 intro CX Γ X G
 have g:=G.toGood
 show PS X (.Assign [.Name "_law_found" _] _ _) (aK Γ (.asg 1 _))
 with_reducible exact(aZ G (bt (ah (bt (ah aq (ah aq au))) au)))
theorem RJ:MY kA d4 aa aa aa aa aa aa aa fh 0 1:=by
 intro CX Γ X G
 have g:=G.toGood
 show PS X (.Assign [.Name "_law_is_next" _] _ _) (aK Γ (.asg 2 _))
 with_reducible exact(aZ G eS)
theorem RK:MY kA d4 aa aa aa aa aa aa aa fh 0 2:=by
 intro CX Γ X G
 have g:=G.toGood
 exact(qp G (qz (ae g)) (ao (Nm [(_,_),(_,_)] G (aW g (ae g) (iK ax))) (ao (aO (qm g (ae g)) (ao (aZ G (fm g aq (ah (ae g) au))) (ao (aO (aN g (ae g) ax) (ao (aH dn) av) av) (ao (qo (aF g (ae g) (aW g aq (ae g))) (aW g (ae g) (iK ax)) ax) (ao (aZ G eS) av)))) (ao (aO (aN g (ae g) aq) (ao (aZ G (cU g (ae g) aq)) (ao (aO (aN g (ae g) aq) (ao (aH dn) av) av) (ao (aO (aN g (ae g) aq) (ao (qo aq (aW g (ae g) (iK ax)) ax) av) (ao (aO (eV (qm g (ae g))) (ao (qo (aF g (ae g) (ae g)) (aW g (ae g) (iK ax)) ax) av) av) av)) av))) (ao (aO (aN g (ae g) aq) (ao (nR (fm g (ae g) (ah (bt (ah aq (ah aq au))) au))) av) (ao (aO (aN g (ae g) aq) (ao (aH dn) av) (ao (aO (PW.pt (uj (aN g (ae g) aq) (ui (aN g (ae g) aq)))) (ao (qo aq (aW g (ae g) (iK ax)) ax) av) (ao (qo (aF g (ae g) (ae g)) (aW g (ae g) (iK ax)) ax) av)) av)) av)) av)) av)) av)))
theorem RL:MY kA d4 aa aa aa aa aa aa aa fh 0 3:=by
 intro CX Γ X G
 have g:=G.toGood
 exact(aO (aN g (aW g (aW g (ae g) (iK ax)) ax) aq) (ao (aH dn) av) av)
theorem RM:MY kA d4 aa aa aa aa aa aa aa fh 0 4:=by
 intro CX Γ X G
 have g:=G.toGood
 show PS X (.Return (some _) _) (aK Γ (.ret _))
 with_reducible exact(aH (PX g (by kernel_rfl) (um g (ae g)) (fun _ g=> (br (ah (cU g (ae g) aq) (ah (ae g) au))))))
theorem RN:MX kA d4 aa aa aa aa aa aa aa fh 0:=by
 intro CX Γ X G
 have e:bh d4=[aR d4 0,aR d4 1,aR d4 2,aR d4 3,aR d4 4]:=by kernel_rfl
 have e2:fh=[aS fh 0,aS fh 1,aS fh 2,aS fh 3,aS fh 4]:=by kernel_rfl
 rw[e,e2]
 with_reducible exact ao (RI G) (ao (RJ G) (ao (RK G) (ao (RL G) (ao (RM G) (av)))))
def y6:List Str:=["_law_text","_law_some"]
noncomputable def y7:List RS:=
 [.asg 1 (.c (.str " !\"#$&'()*+,-./0123456789:;<=>?@ABCDEFGHIJKLMNOPQRSTUVWXYZ[\\]^_`")),
 .asg 1 (.bin .Add (.v 1) (.c (.str "abcdefghijklmnopqrstuvwxyz{|}~\n"))),
 .ret (.cmp .Eq (.comp none [("_law_some",1)] .txt [(.v 0)] (some (.cmp .NotIn (.v 0) (.v 1))) (.v 0)) (.lst []))]
def oY:Stmt:=cg 52
theorem RO:bL y6 vq (aM oY):=cb
theorem RP:MX y6 oY aa aa aa aa aa aa aa y7 0:=by
 intro CX Γ X G
 have g:=G.toGood
 exact(ao (aZ G aq) (ao (aZ G (aF g (ae g) aq)) (ao (aH (cU g (gp (ln:=["_law_sign_here"]) g (by kernel_rfl) (qz (ae g)) (uh fun _ g=> (aN g (ae g) (ae g))) (fun _ g=> (ae g))) (bt au))) av)))
def rq:List Str:=["_law_word_here"]
noncomputable def rA:List RS:=
 [.ite (.or [(.not (.iG .LtE .LtE (.c (.int 1)) (.blt .len [(.v 0)]) (.c (.int 9)))),(.and [(.cmp .Eq (.ix (.v 0) (.c (.int 0))) (.c (.str "0"))),(.cmp .NotEq (.v 0) (.c (.str "0")))])]) [.ret (.c .aB)] [],
 .ite (.cmp .NotEq (.comp none [] .txt [(.v 0)] (some (.cmp .NotIn (.v 0) (.c (.str "0123456789")))) (.v 0)) (.lst [])) [.ret (.c .aB)] [],
 .ret (.xt va [(.v 0)])]
def oZ:Stmt:=cg 53
theorem RQ:bL rq rq (aM oZ):=cb
theorem RT:MX rq oZ aa aa vd aa aa aa aa rA 0:=by
 intro CX Γ X G
 have g:=G.toGood
 exact(ao (aO (PW.pt (fo (eV (xM g ax (cW g (ah (ae g) au)) ax)) (hU (PW.pt (uj (aN g (aW g (ae g) ax) aq) (ui (aN g (ae g) aq))))))) (ao (aH dn) av) av) (ao (aO (aN g (gp (ln:=["_law_sign_here"]) g (by kernel_rfl) (qz (ae g)) (uh fun _ g=> (aN g (ae g) aq)) (fun _ g=> (ae g))) (bt au)) (ao (aH dn) av) av) (ao (aH (Eo g (ah (ae g) au))) av)))
def rB:List Str:=["_law_word_here","_law_texts"]
noncomputable def vw:List RS:=
 [.ite (.not (.xt mf [(.comp none [] .list [(.v 1)] none (.call 0 [(.v 0)]))])) [.ret (.c .aB)] [],
 .ite (.and [(.cmp .Eq (.v 0) (.c (.str "enter"))),(.cmp .Eq (.blt .len [(.v 1)]) (.c (.int 1)))]) [.ret (.tup [(.v 0),(.ix (.v 1) (.c (.int 0)))])] [],
 .ite (.and [(.cmp .Eq (.v 0) (.c (.str "paste"))),(.iG .LtE .LtE (.c (.int 1)) (.blt .len [(.v 1)]) (.c (.int 40)))]) [.ret (.tup [(.v 0),(.blt .tuple [(.v 1)])])] [],
 .ret (.c .aB)]
def RU:List Str:=["_law_good"]
def EX:List Str:=["all","len","tuple"]
def o5:Stmt:=cg 54
theorem RV:bL rB rB (aM o5):=cb
theorem RW:MX rB o5 RU aa EX aa aa aa aa vw 0:=by
 intro CX Γ X G
 have g:=G.toGood
 exact(ao (aO (eV (N2 g (uF g (ah (gp (ln:=["_law_text"]) g (by kernel_rfl) (um g (ae g)) hJ (fun _ g=> (bq g (ah (ae g) au)))) au)))) (ao (aH dn) av) av) (ao (aO (PW.pt (uj (aN g (ae g) aq) (ui (aN g (cW g (ah (ae g) au)) ax)))) (ao (aH (br (ah (ae g) (ah (aW g (ae g) ax) au)))) av) av) (ao (aO (PW.pt (uj (aN g (ae g) aq) (ui (xM g ax (cW g (ah (ae g) au)) ax)))) (ao (aH (br (ah (ae g) (ah (cW g (ah (ae g) au)) au)))) av) av) (ao (aH dn) av))))
def dI:List Str:=["_law_line_here","_law_tokens_here","_law_word_here","_law_rest","_law_some","_law_number"]
noncomputable def bO:List RS:=
 [.asg 1 (.call 0 [(.v 0)]),
 .ite (.or [(.cmp .Is (.v 1) (.c .aB)),(.ix (.ix (.v 1) (.c (.int 0))) (.c (.int 0)))]) [.ret (.c .aB)] [],
 .asg 2 (.ix (.ix (.v 1) (.c (.int 0))) (.c (.int 1))),
 .lN 3 (.comp (some 2) [] .list [(.sl (.v 1) (some (.c (.int 1))) none)] none (.v 1)),
 .ite (.cmp .NotEq (.comp none [("_law_word_here",2)] .list [(.sl (.v 1) (some (.c (.int 1))) none)] (some (.cmp .NotEq (.ix (.v 0) (.c (.int 0))) (.cmp .In (.v 1) (.tup [(.c (.str "enter")),(.c (.str "paste"))])))) (.v 0)) (.lst [])) [.ret (.c .aB)] [],
 .ite (.cmp .In (.v 2) (.tup [(.c (.str "enter")),(.c (.str "paste"))])) [.ret (.call 1 [(.v 2),(.v 3)])] [],
 .ite (.cmp .In (.v 2) (.tup [(.c (.str "only")),(.c (.str "undo")),(.c (.str "redo"))])) [.ret (.ix (.lst [(.c .aB),(.tup [(.v 2)])]) (.blt .int [(.cmp .Eq (.v 3) (.lst []))]))] [],
 .ite (.cmp .NotEq (.blt .len [(.v 3)]) (.c (.int 1))) [.ret (.c .aB)] [],
 .ite (.cmp .In (.v 2) (.tup [(.c (.str "step")),(.c (.str "hold"))])) [.asg 4 (.lst [(.c (.str "left")),(.c (.str "right")),(.c (.str "up")),(.c (.str "down")),(.c (.str "home")),(.c (.str "end")),(.c (.str "top")),(.c (.str "bottom")),(.c (.str "back")),(.c (.str "on"))]),
  .ret (.lM (.cmp .In (.ix (.v 3) (.c (.int 0))) (.v 4)) (.tup [(.c (.str "step")),(.ix (.v 3) (.c (.int 0))),(.cmp .Eq (.v 2) (.c (.str "hold")))]) (.c .aB))] [],
 .ite (.cmp .In (.v 2) (.tup [(.c (.str "spread")),(.c (.str "go"))])) [.asg 5 (.call 2 [(.ix (.v 3) (.c (.int 0)))]),
  .ret (.ix (.lst [(.tup [(.v 2),(.v 5)]),(.c .aB)]) (.blt .int [(.cmp .Is (.v 5) (.c .aB))]))] [],
 .asg 4 (.xt oa [(.c (.str "erase")),(.lst [(.c (.str "left")),(.c (.str "right")),(.c (.str "back")),(.c (.str "on")),(.c (.str "home")),(.c (.str "end"))])]),
 .dput (.v 4) (.c (.str "mark")) (.lst [(.c (.str "left")),(.c (.str "right"))]),
 .dput (.v 4) (.c (.str "span")) (.lst [(.c (.str "grows")),(.c (.str "stays"))]),
 .ite (.cmp .NotIn (.ix (.v 3) (.c (.int 0))) (.tR (.v 4) (.v 2) (.lst []))) [.ret (.c .aB)] [],
 .ite (.cmp .Eq (.v 2) (.c (.str "span"))) [.ret (.tup [(.v 2),(.cmp .Eq (.ix (.v 3) (.c (.int 0))) (.c (.str "grows")))])] [],
 .ret (.tup [(.v 2),(.ix (.v 3) (.c (.int 0)))])]
def d5:List Str:=["_law_tokens","_law_texts_deed","_law_number_of"]
def dQ:List Str:=["int","len"]
def bQ:Stmt:=cg 55
theorem RX:bL dI vv (aM bQ):=cb
theorem RY:MY dI bQ d5 aa dQ aa aa aa aa bO 0 0:=by
 intro CX Γ X G
 have g:=G.toGood
 show PS X (.Assign [.Name "_law_tokens_here" _] _ _) (aK Γ (.asg 1 _))
 with_reducible exact(aZ G (bq g (ah (ae g) au)))
theorem RZ:MY dI bQ d5 aa dQ aa aa aa aa bO 0 1:=by
 intro CX Γ X G
 have g:=G.toGood
 show PS X (.If _ _ _ _) (aK Γ (.ite _ _ _))
 refine aO ?_ ?_ ?_
 ·exact(PW.pt (fo (aN g (ae g) dn) (hU (xO g (aW g (aW g (ae g) ax) ax)))))
 ·refine ao ?_ ?_
  ·show PS X (.Return (some _) _) (aK Γ (.ret _))
   with_reducible exact(aH dn)
  exact av
 ·exact av
theorem R0:MY dI bQ d5 aa dQ aa aa aa aa bO 0 2:=by
 intro CX Γ X G
 have g:=G.toGood
 show PS X (.Assign [.Name "_law_word_here" _] _ _) (aK Γ (.asg 2 _))
 with_reducible exact(aZ G (aW g (aW g (ae g) ax) ax))
theorem R1:MY dI bQ d5 aa dQ aa aa aa aa bO 0 3:=by
 intro CX Γ X G
 have g:=G.toGood
 exact(Nj (ln:=["_law_is_quoted","_law_text"]) G (by kernel_rfl) (by kernel_rfl) (by kernel_rfl) (um g (dX g (ae g) (dG ax) eU)) hJ (fun _ g=> (ae g)))
theorem R3:MY dI bQ d5 aa dQ aa aa aa aa bO 0 4:=by
 intro CX Γ X G
 have g:=G.toGood
 exact(aO (aN g (gp (ln:=["_law_one"]) g (by kernel_rfl) (um g (dX g (ae g) (dG ax) eU)) (uh fun _ g=> (aN g (aW g (ae g) ax) (cU g (ae g) (br (ah aq (ah aq au)))))) (fun _ g=> (ae g))) (bt au)) (ao (aH dn) av) av)
theorem R4:MY dI bQ d5 aa dQ aa aa aa aa bO 0 5:=by
 intro CX Γ X G
 have g:=G.toGood
 show PS X (.If _ _ _ _) (aK Γ (.ite _ _ _))
 refine aO ?_ ?_ ?_
 ·exact(aN g (ae g) (br (ah aq (ah aq au))))
 ·refine ao ?_ ?_
  ·show PS X (.Return (some _) _) (aK Γ (.ret _))
   with_reducible exact(aH (bq g (ah (ae g) (ah (ae g) au))))
  exact av
 ·exact av
theorem R5:MY dI bQ d5 aa dQ aa aa aa aa bO 0 6:=by
 intro CX Γ X G
 have g:=G.toGood
 show PS X (.If _ _ _ _) (aK Γ (.ite _ _ _))
 refine aO ?_ ?_ ?_
 ·exact(aN g (ae g) (br (ah aq (ah aq (ah aq au)))))
 ·refine ao ?_ ?_
  ·show PS X (.Return (some _) _) (aK Γ (.ret _))
   with_reducible exact(aH (aW g (bt (ah dn (ah (br (ah (ae g) au)) au))) (cW g (ah (cU g (ae g) (bt au)) au))))
  exact av
 ·exact av
theorem R6:MY dI bQ d5 aa dQ aa aa aa aa bO 0 7:=by
 intro CX Γ X G
 have g:=G.toGood
 show PS X (.If _ _ _ _) (aK Γ (.ite _ _ _))
 refine aO ?_ ?_ ?_
 ·exact(aN g (cW g (ah (ae g) au)) ax)
 ·refine ao ?_ ?_
  ·show PS X (.Return (some _) _) (aK Γ (.ret _))
   with_reducible exact(aH dn)
  exact av
 ·exact av
theorem R7:MY dI bQ d5 aa dQ aa aa aa aa bO 0 8:=by
 intro CX Γ X G
 have g:=G.toGood
 show PS X (.If _ _ _ _) (aK Γ (.ite _ _ _))
 refine aO ?_ ?_ ?_
 ·exact(aN g (ae g) (br (ah aq (ah aq au))))
 ·refine ao ?_ ?_
  ·show PS X (.Assign [.Name "_law_some" _] _ _) (aK Γ (.asg 4 _))
   with_reducible exact(aZ G (bt (ah aq (ah aq (ah aq (ah aq (ah aq (ah aq (ah aq (ah aq (ah aq (ah aq au))))))))))))
  refine ao ?_ ?_
  ·show PS X (.Return (some _) _) (aK Γ (.ret _))
   with_reducible exact(aH (ug (aN g (aW g (ae g) ax) (ae g)) (br (ah aq (ah (aW g (ae g) ax) (ah (cU g (ae g) aq) au)))) dn))
  exact av
 ·exact av
theorem R8:MY dI bQ d5 aa dQ aa aa aa aa bO 0 9:=by
 intro CX Γ X G
 have g:=G.toGood
 show PS X (.If _ _ _ _) (aK Γ (.ite _ _ _))
 refine aO ?_ ?_ ?_
 ·exact(aN g (ae g) (br (ah aq (ah aq au))))
 ·refine ao ?_ ?_
  ·show PS X (.Assign [.Name "_law_number" _] _ _) (aK Γ (.asg 5 _))
   with_reducible exact(aZ G (bq g (ah (aW g (ae g) ax) au)))
  refine ao ?_ ?_
  ·show PS X (.Return (some _) _) (aK Γ (.ret _))
   with_reducible exact(aH (aW g (bt (ah (br (ah (ae g) (ah (ae g) au))) (ah dn au))) (cW g (ah (cU g (ae g) dn) au))))
  exact av
 ·exact av
theorem R9:MY dI bQ d5 aa dQ aa aa aa aa bO 0 10:=by
 intro CX Γ X G
 have g:=G.toGood
 show PS X (.Assign [.Name "_law_some" _] _ _) (aK Γ (.asg 4 _))
 with_reducible exact(aZ G (OQ (OP aq (bt (ah aq (ah aq (ah aq (ah aq (ah aq (ah aq au))))))) OO)))
theorem R_:MY dI bQ d5 aa dQ aa aa aa aa bO 0 11:=by
 intro CX Γ X G
 have g:=G.toGood
 exact(DB G (bt (ah aq (ah aq au))) (ae g) aq)
theorem Sa:MY dI bQ d5 aa dQ aa aa aa aa bO 0 12:=by
 intro CX Γ X G
 have g:=G.toGood
 exact(DB G (bt (ah aq (ah aq au))) (ae g) aq)
theorem Sb:MY dI bQ d5 aa dQ aa aa aa aa bO 0 13:=by
 intro CX Γ X G
 have g:=G.toGood
 show PS X (.If _ _ _ _) (aK Γ (.ite _ _ _))
 refine aO ?_ ?_ ?_
 ·exact(aN g (aW g (ae g) ax) (Ng g (ae g) (ae g) (bt au)))
 ·refine ao ?_ ?_
  ·show PS X (.Return (some _) _) (aK Γ (.ret _))
   with_reducible exact(aH dn)
  exact av
 ·exact av
theorem Sd:MY dI bQ d5 aa dQ aa aa aa aa bO 0 14:=by
 intro CX Γ X G
 have g:=G.toGood
 show PS X (.If _ _ _ _) (aK Γ (.ite _ _ _))
 refine aO ?_ ?_ ?_
 ·exact(aN g (ae g) aq)
 ·refine ao ?_ ?_
  ·show PS X (.Return (some _) _) (aK Γ (.ret _))
   with_reducible exact(aH (br (ah (ae g) (ah (cU g (aW g (ae g) ax) aq) au))))
  exact av
 ·exact av
theorem Se:MY dI bQ d5 aa dQ aa aa aa aa bO 0 15:=by
 intro CX Γ X G
 have g:=G.toGood
 show PS X (.Return (some _) _) (aK Γ (.ret _))
 with_reducible exact(aH (br (ah (ae g) (ah (aW g (ae g) ax) au))))
theorem Sf:MX dI bQ d5 aa dQ aa aa aa aa bO 0:=by
 intro CX Γ X G
 have e:bh bQ=[aR bQ 0,aR bQ 1,aR bQ 2,aR bQ 3,aR bQ 4,aR bQ 5,aR bQ 6,aR bQ 7,aR bQ 8,aR bQ 9,aR bQ 10,aR bQ 11,aR bQ 12,aR bQ 13,aR bQ 14,aR bQ 15]:=by kernel_rfl
 have e2:bO=[aS bO 0,aS bO 1,aS bO 2,aS bO 3,aS bO 4,aS bO 5,aS bO 6,aS bO 7,aS bO 8,aS bO 9,aS bO 10,aS bO 11,aS bO 12,aS bO 13,aS bO 14,aS bO 15]:=by kernel_rfl
 rw[e,e2]
 with_reducible exact ao (RY G) (ao (RZ G) (ao (R0 G) (ao (R1 G) (ao (R3 G) (ao (R4 G) (ao (R5 G) (ao (R6 G) (ao (R7 G) (ao (R8 G) (ao (R9 G) (ao (R_ G) (ao (Sa G) (ao (Sb G) (ao (Sd G) (ao (Se G) (av))))))))))))))))
def mH:List Str:=["_law_cell","_law_some","_law_often"]
noncomputable def gJ:List RS:=
 [.asg 1 (.c (.str " !\"#$&'()*+,-./0123456789:;<=>?@ABCDEFGHIJKLMNOPQRSTUVWXYZ[\\]^_`")),
 .asg 1 (.bin .Add (.v 1) (.c (.str "abcdefghijklmnopqrstuvwxyz{|}~\n\t"))),
 .asg 2 (.lst [(.c (.str "\"")),(.c (.str "\\")),(.c (.str " ")),(.c (.str "n")),(.c (.str "\n")),(.c (.str "\t")),(.c (.str "0")),(.c (.str "1")),(.c (.str "\"")),(.c (.str "\\")),(.c (.str " "))]),
 .ret (.ix (.bin .Add (.v 2) (.bin .Mult (.lst [(.ix (.v 1) (.bin .Mod (.bin .FloorDiv (.v 0) (.c (.int 13))) (.c (.int 96))))]) (.c (.int 2)))) (.bin .Mod (.v 0) (.c (.int 13))))]
def fi:Stmt:=cg 56
theorem Sg:bL mH kz (aM fi):=cb
theorem Sh:MY mH fi aa aa aa aa aa aa aa gJ 0 0:=by
 intro CX Γ X G
 have g:=G.toGood
 show PS X (.Assign [.Name "_law_some" _] _ _) (aK Γ (.asg 1 _))
 with_reducible exact(aZ G aq)
theorem Si:MY mH fi aa aa aa aa aa aa aa gJ 0 1:=by
 intro CX Γ X G
 have g:=G.toGood
 show PS X (.Assign [.Name "_law_some" _] _ _) (aK Γ (.asg 1 _))
 with_reducible exact(aZ G (aF g (ae g) aq))
theorem Sj:MY mH fi aa aa aa aa aa aa aa gJ 0 2:=by
 intro CX Γ X G
 have g:=G.toGood
 show PS X (.Assign [.Name "_law_often" _] _ _) (aK Γ (.asg 2 _))
 with_reducible exact(aZ G (bt (ah aq (ah aq (ah aq (ah aq (ah aq (ah aq (ah aq (ah aq (ah aq (ah aq (ah aq au)))))))))))))
theorem Sk:MY mH fi aa aa aa aa aa aa aa gJ 0 3:=by
 intro CX Γ X G
 have g:=G.toGood
 show PS X (.Return (some _) _) (aK Γ (.ret _))
 with_reducible exact(aH (aW g (aF g (ae g) (aF g (bt (ah (aW g (ae g) (aF g (aF g (ae g) ax) ax)) au)) ax)) (aF g (ae g) ax)))
theorem Sl:MX mH fi aa aa aa aa aa aa aa gJ 0:=by
 intro CX Γ X G
 have e:bh fi=[aR fi 0,aR fi 1,aR fi 2,aR fi 3]:=by kernel_rfl
 have e2:gJ=[aS gJ 0,aS gJ 1,aS gJ 2,aS gJ 3]:=by kernel_rfl
 rw[e,e2]
 with_reducible exact ao (Sh G) (ao (Si G) (ao (Sj G) (ao (Sk G) (av))))
def kD:List Str:=["_law_cell","_law_some"]
noncomputable def fE:List RS:=
 [.asg 1 (.lst [(.c (.str "")),(.c (.str " ")),(.c (.str "enter")),(.c (.str "enter ")),(.c (.str "enter a")),(.c (.str "paste")),(.c (.str "paste ")),(.c (.str "enter \"")),(.c (.str "enter \"\\\"")),(.c (.str "enter \"a\"\"b\""))]),
 .asg 1 (.bin .Add (.v 1) (.lst [(.c (.str "only ")),(.c (.str "Only")),(.c (.str "undo undo")),(.c (.str "step")),(.c (.str "hold up down")),(.c (.str "span")),(.c (.str "span True")),(.c (.str "go -1"))])),
 .asg 1 (.bin .Add (.v 1) (.lst [(.c (.str "go 1.0")),(.c (.str "go +1"))])),
 .asg 1 (.bin .Add (.v 1) (.lst [(.c (.str "\"enter\" \"a\"")),(.c (.str "erase up")),(.c (.str "mark \"left\"")),(.c (.str "spread 1234567890"))])),
 .ret (.ix (.v 1) (.bin .Mod (.v 0) (.c (.int 24))))]
def d6:Stmt:=cg 57
theorem Sm:bL kD kz (aM d6):=cb
theorem Sn:MY kD d6 aa aa aa aa aa aa aa fE 0 0:=by
 intro CX Γ X G
 have g:=G.toGood
 show PS X (.Assign [.Name "_law_some" _] _ _) (aK Γ (.asg 1 _))
 with_reducible exact(aZ G (bt (ah aq (ah aq (ah aq (ah aq (ah aq (ah aq (ah aq (ah aq (ah aq (ah aq au))))))))))))
theorem So:MY kD d6 aa aa aa aa aa aa aa fE 0 1:=by
 intro CX Γ X G
 have g:=G.toGood
 show PS X (.Assign [.Name "_law_some" _] _ _) (aK Γ (.asg 1 _))
 with_reducible exact(aZ G (aF g (ae g) (bt (ah aq (ah aq (ah aq (ah aq (ah aq (ah aq (ah aq (ah aq au)))))))))))
theorem Sq:MY kD d6 aa aa aa aa aa aa aa fE 0 2:=by
 intro CX Γ X G
 have g:=G.toGood
 show PS X (.Assign [.Name "_law_some" _] _ _) (aK Γ (.asg 1 _))
 with_reducible exact(aZ G (aF g (ae g) (bt (ah aq (ah aq au)))))
theorem Sr:MY kD d6 aa aa aa aa aa aa aa fE 0 3:=by
 intro CX Γ X G
 have g:=G.toGood
 show PS X (.Assign [.Name "_law_some" _] _ _) (aK Γ (.asg 1 _))
 with_reducible exact(aZ G (aF g (ae g) (bt (ah aq (ah aq (ah aq (ah aq au)))))))
theorem Ss:MY kD d6 aa aa aa aa aa aa aa fE 0 4:=by
 intro CX Γ X G
 have g:=G.toGood
 show PS X (.Return (some _) _) (aK Γ (.ret _))
 with_reducible exact(aH (aW g (ae g) (aF g (ae g) ax)))
theorem Su:MX kD d6 aa aa aa aa aa aa aa fE 0:=by
 intro CX Γ X G
 have e:bh d6=[aR d6 0,aR d6 1,aR d6 2,aR d6 3,aR d6 4]:=by kernel_rfl
 have e2:fE=[aS fE 0,aS fE 1,aS fE 2,aS fE 3,aS fE 4]:=by kernel_rfl
 rw[e,e2]
 with_reducible exact ao (Sn G) (ao (So G) (ao (Sq G) (ao (Sr G) (ao (Ss G) (av)))))
def fF:List Str:=["_law_line_here","_law_cell","_law_more","_law_at","_law_words","_law_place","_law_head","_law_word_here","_law_last"]
def EY:List Str:=["_law_line_here","_law_cell","_law_more"]
noncomputable def cG:List RS:=
 [.asg 3 (.bin .Mod (.bin .FloorDiv (.v 2) (.c (.int 13))) (.bin .Add (.blt .len [(.v 0)]) (.c (.int 1)))),
 .asg 4 (.xm yr (.v 0) [(.c (.str " "))]),
 .asg 5 (.bin .Mod (.bin .FloorDiv (.v 2) (.c (.int 13))) (.blt .len [(.v 4)])),
 .ite (.cmp .Eq (.bin .Mod (.v 1) (.c (.int 8))) (.c (.int 0))) [.ret (.bin .Add (.bin .Add (.sl (.v 0) none (some (.v 3))) (.call 0 [(.v 2)])) (.sl (.v 0) (some (.v 3)) none))] [],
 .ite (.cmp .Eq (.bin .Mod (.v 1) (.c (.int 8))) (.c (.int 1))) [.ret (.bin .Add (.sl (.v 0) none (some (.v 3))) (.sl (.v 0) (some (.bin .Add (.v 3) (.c (.int 1)))) none))] [],
 .ite (.cmp .Eq (.bin .Mod (.v 1) (.c (.int 8))) (.c (.int 2))) [.ret (.bin .Add (.bin .Add (.sl (.v 0) none (some (.v 3))) (.call 0 [(.v 2)])) (.sl (.v 0) (some (.bin .Add (.v 3) (.c (.int 1)))) none))] [],
 .ite (.cmp .Eq (.bin .Mod (.v 1) (.c (.int 8))) (.c (.int 3))) [.asg 6 (.bin .Add (.sl (.v 0) none (some (.v 3))) (.sl (.v 0) (some (.bin .Add (.v 3) (.c (.int 1)))) (some (.bin .Add (.v 3) (.c (.int 2)))))),
  .ret (.bin .Add (.bin .Add (.v 6) (.sl (.v 0) (some (.v 3)) (some (.bin .Add (.v 3) (.c (.int 1)))))) (.sl (.v 0) (some (.bin .Add (.v 3) (.c (.int 2)))) none))] [],
 .ite (.cmp .Eq (.bin .Mod (.v 1) (.c (.int 8))) (.c (.int 4))) [.asg 7 (.bin .Mult (.lst [(.ix (.v 4) (.v 5))]) (.bin .Mult (.bin .Mod (.v 2) (.c (.int 2))) (.c (.int 2)))),
  .ret (.di .join (.c (.str " ")) [(.bin .Add (.bin .Add (.sl (.v 4) none (some (.v 5))) (.v 7)) (.sl (.v 4) (some (.bin .Add (.v 5) (.c (.int 1)))) none))])] [],
 .ite (.cmp .Eq (.bin .Mod (.v 1) (.c (.int 8))) (.c (.int 5))) [.asg 8 (.bin .Add (.c (.str "0")) (.ix (.v 4) (.neg (.c (.int 1))))),
  .ite (.cmp .Eq (.bin .Mod (.v 2) (.c (.int 2))) (.c (.int 1))) [.asg 8 (.bin .Add (.ix (.v 4) (.neg (.c (.int 1)))) (.sl (.c (.str "1234567890")) none (some (.bin .Add (.c (.int 1)) (.bin .Mod (.bin .FloorDiv (.v 2) (.c (.int 4))) (.c (.int 9)))))))] [],
  .ret (.di .join (.c (.str " ")) [(.bin .Add (.sl (.v 4) none (some (.neg (.c (.int 1))))) (.lst [(.v 8)]))])] [],
 .ite (.cmp .Eq (.bin .Mod (.v 1) (.c (.int 8))) (.c (.int 6))) [.ret (.call 1 [(.v 2)])] [],
 .ret (.v 0)]
def gK:List Str:=["_law_sign","_law_odd"]
def cC:Stmt:=cg 58
theorem Sv:bL fF EY (aM cC):=cb
theorem Sw:MY fF cC gK aa eY aa aa aa aa cG 0 0:=by
 intro CX Γ X G
 have g:=G.toGood
 show PS X (.Assign [.Name "_law_at" _] _ _) (aK Γ (.asg 3 _))
 with_reducible exact(aZ G (aF g (aF g (ae g) ax) (aF g (cW g (ah (ae g) au)) ax)))
theorem Sx:MY fF cC gK aa eY aa aa aa aa cG 0 1:=by
 intro CX Γ X G
 have g:=G.toGood
 show PS X (.Assign [.Name "_law_words" _] _ _) (aK Γ (.asg 4 _))
 with_reducible exact(aZ G (OI g (ae g) (ah aq au)))
theorem Sy:MY fF cC gK aa eY aa aa aa aa cG 0 2:=by
 intro CX Γ X G
 have g:=G.toGood
 show PS X (.Assign [.Name "_law_place" _] _ _) (aK Γ (.asg 5 _))
 with_reducible exact(aZ G (aF g (aF g (ae g) ax) (cW g (ah (ae g) au))))
theorem Sz:MY fF cC gK aa eY aa aa aa aa cG 0 3:=by
 intro CX Γ X G
 have g:=G.toGood
 exact(aO (aN g (aF g (ae g) ax) ax) (ao (aH (aF g (aF g (dX g (ae g) eU (dG (ae g))) (bq g (ah (ae g) au))) (dX g (ae g) (dG (ae g)) eU))) av) av)
theorem SA:MY fF cC gK aa eY aa aa aa aa cG 0 4:=by
 intro CX Γ X G
 have g:=G.toGood
 exact(aO (aN g (aF g (ae g) ax) ax) (ao (aH (aF g (dX g (ae g) eU (dG (ae g))) (dX g (ae g) (dG (aF g (ae g) ax)) eU))) av) av)
theorem SD:MY fF cC gK aa eY aa aa aa aa cG 0 5:=by
 intro CX Γ X G
 have g:=G.toGood
 exact(aO (aN g (aF g (ae g) ax) ax) (ao (aH (aF g (aF g (dX g (ae g) eU (dG (ae g))) (bq g (ah (ae g) au))) (dX g (ae g) (dG (aF g (ae g) ax)) eU))) av) av)
theorem SE:MY fF cC gK aa eY aa aa aa aa cG 0 6:=by
 intro CX Γ X G
 have g:=G.toGood
 exact(aO (aN g (aF g (ae g) ax) ax) (ao (aZ G (aF g (dX g (ae g) eU (dG (ae g))) (dX g (ae g) (dG (aF g (ae g) ax)) (dG (aF g (ae g) ax))))) (ao (aH (aF g (aF g (ae g) (dX g (ae g) (dG (ae g)) (dG (aF g (ae g) ax)))) (dX g (ae g) (dG (aF g (ae g) ax)) eU))) av)) av)
theorem SF:MY fF cC gK aa eY aa aa aa aa cG 0 7:=by
 intro CX Γ X G
 have g:=G.toGood
 exact(aO (aN g (aF g (ae g) ax) ax) (ao (aZ G (aF g (bt (ah (aW g (ae g) (ae g)) au)) (aF g (aF g (ae g) ax) ax))) (ao (aH (fm g aq (ah (aF g (aF g (dX g (ae g) eU (dG (ae g))) (ae g)) (dX g (ae g) (dG (aF g (ae g) ax)) eU)) au))) av)) av)
theorem SH:MY fF cC gK aa eY aa aa aa aa cG 0 8:=by
 intro CX Γ X G
 have g:=G.toGood
 exact(aO (aN g (aF g (ae g) ax) ax) (ao (aZ G (aF g aq (aW g (ae g) (iK ax)))) (ao (aO (aN g (aF g (ae g) ax) ax) (ao (aZ G (aF g (aW g (ae g) (iK ax)) (dX g aq eU (dG (aF g ax (aF g (aF g (ae g) ax) ax)))))) av) av) (ao (aH (fm g aq (ah (aF g (dX g (ae g) eU (dG (iK ax))) (bt (ah (ae g) au))) au))) av))) av)
theorem SI:MY fF cC gK aa eY aa aa aa aa cG 0 9:=by
 intro CX Γ X G
 have g:=G.toGood
 exact(aO (aN g (aF g (ae g) ax) ax) (ao (aH (bq g (ah (ae g) au))) av) av)
theorem SJ:MY fF cC gK aa eY aa aa aa aa cG 0 10:=by
 intro CX Γ X G
 have g:=G.toGood
 show PS X (.Return (some _) _) (aK Γ (.ret _))
 with_reducible exact(aH (ae g))
theorem SK:MX fF cC gK aa eY aa aa aa aa cG 0:=by
 intro CX Γ X G
 have e:bh cC=[aR cC 0,aR cC 1,aR cC 2,aR cC 3,aR cC 4,aR cC 5,aR cC 6,aR cC 7,aR cC 8,aR cC 9,aR cC 10]:=by kernel_rfl
 have e2:cG=[aS cG 0,aS cG 1,aS cG 2,aS cG 3,aS cG 4,aS cG 5,aS cG 6,aS cG 7,aS cG 8,aS cG 9,aS cG 10]:=by kernel_rfl
 rw[e,e2]
 with_reducible exact ao (Sw G) (ao (Sx G) (ao (Sy G) (ao (Sz G) (ao (SA G) (ao (SD G) (ao (SE G) (ao (SF G) (ao (SH G) (ao (SI G) (ao (SJ G) (av)))))))))))
def rC:List Str:=["_law_one","_law_other"]
noncomputable def y8:List RS:=
 [.ite (.cT .tuple (.v 1)) [.ret (.and [(.cT .tuple (.v 0)),(.cmp .Eq (.v 0) (.v 1)),(.xt mf [(.comp none [] .tup [(.v 0)] none (.cT .str (.v 0)))])])] [],
 .ite (.or [(.cmp .NotEq (.cT .bool (.v 0)) (.cT .bool (.v 1))),(.cmp .NotEq (.cT .str (.v 0)) (.cT .str (.v 1)))]) [.ret (.c (.bl false))] [],
 .ret (.cmp .Eq (.v 0) (.v 1))]
def EZ:List Str:=["isinstance","tuple","all","str","bool"]
def o6:Stmt:=cg 59
theorem SM:bL rC rC (aM o6):=cb
theorem SN:MX rC o6 aa aa EZ aa aa aa aa y8 0:=by
 intro CX Γ X G
 have g:=G.toGood
 exact(ao (aO (nP g (eB g (ae g))) (ao (aH (hG (eB g (ae g)) (hG (cU g (ae g) (ae g)) (js (uF g (ah (gp (ln:=["_law_text"]) g (by kernel_rfl) (nQ g (ae g)) hJ (fun _ g=> (eB g (ae g)))) au)))))) av) av) (ao (aO (PW.pt (fo (aN g (eB g (ae g)) (eB g (ae g))) (hU (aN g (eB g (ae g)) (eB g (ae g)))))) (ao (aH eS) av) av) (ao (aH (cU g (ae g) (ae g))) av)))
def y9:List Str:=["_law_line_here","_law_due","_law_found","_law_e"]
def E1:List Str:=["_law_line_here","_law_due"]
noncomputable def y_:List RS:=
 [.xa 2 3 0 0 [(.v 0)] [.ret (.and [(.cmp .Is (.v 1) (.c .aB)),(.cmp .Eq (.tQ 0 (.v 3)) (.c (.str "note")))])],
 .ite (.or [(.cmp .Is (.v 1) (.c .aB)),(.not (.cT .tuple (.v 2))),(.cmp .NotEq (.blt .len [(.v 2)]) (.blt .len [(.v 1)]))]) [.ret (.c (.bl false))] [],
 .ret (.xt mf [(.comp (some 2) [] .tP [(.v 2),(.v 1)] none (.call 1 [(.v 0),(.v 1)]))])]
def SO:List Str:=["read","_law_alike_part"]
def SQ:List Str:=["InkError"]
def E2:List Str:=["isinstance","tuple","len","all","zip"]
def SR:List Str:=["_law_word"]
def o7:Stmt:=cg 60
theorem SS:bL y9 E1 (aM o7):=cb
theorem SU:MX y9 o7 SO SQ E2 aa aa aa SR y_ 0:=by
 intro CX Γ X G
 have g:=G.toGood
 exact(ao (Qj G (by kernel_rfl) (by kernel_rfl) (by kernel_rfl) (by kernel_rfl) (by kernel_rfl) (by kernel_rfl) (fun G=> (fun g=> (ah (ae g) au)) G.toGood) (fun G=> (fun g=> (ao (aH (hG (cU g (ae g) dn) (js (cU g (Nd g (ae g)) aq)))) av)) G.toGood)) (ao (aO (PW.pt (fo (aN g (ae g) dn) (fo (eV (nP g (eB g (ae g)))) (hU (aN g (cW g (ah (ae g) au)) (cW g (ah (ae g) au))))))) (ao (aH eS) av) av) (ao (aH (uF g (ah (gp (ln:=["_law_one","_law_other"]) g (by kernel_rfl) (O2 g (ae g) (ae g)) hJ (fun _ g=> (bq g (ah (ae g) (ah (ae g) au))))) au))) av)))
def o8:List Str:=["_law_script","_law_k","_law_cell","_law_deed_here","_law_line_here","_law_bent_here","_law_odd_here"]
def E3:List Str:=["_law_script"]
noncomputable def il:List RS:=
 [.iH 1 .w9 [(.c (.int 0)),(.c (.int 12)),(.c (.int 3))] [.asg 2 (.call 0 [(.v 0),(.bin .Add (.v 1) (.c (.int 1)))]),
  .asg 3 (.call 1 [(.call 2 [(.call 0 [(.v 0),(.v 1)]),(.c (.int 9))])]),
  .asg 4 (.call 3 [(.v 3)]),
  .ite (.or [(.not (.call 4 [(.v 4),(.v 3)])),(.cmp .NotEq (.call 5 [(.v 4)]) (.v 3))]) [.ret (.c (.bl false))] [],
  .asg 5 (.call 6 [(.v 4),(.v 2),(.call 2 [(.call 0 [(.v 0),(.bin .Add (.v 1) (.c (.int 2)))]),(.c (.int 5))])]),
  .ite (.not (.call 4 [(.v 5),(.call 5 [(.v 5)])])) [.ret (.c (.bl false))] []],
 .asg 6 (.ix (.lst [(.c .aB),(.c (.int 5)),(.c (.bl true)),(.lst [(.c (.str "only"))]),(.tup [(.c (.str "only"))]), .w_,(.lst [(.c (.str "o")),(.c (.str "n")),(.c (.str "l")),(.c (.str "y"))]),(.c (.int 0))]) (.bin .Mod (.call 0 [(.v 0),(.c (.int 12))]) (.c (.int 8)))),
 .ret (.call 4 [(.v 6),(.c .aB)])]
def vx:List Str:=["_law_cell_at","_law_deed","_law_mixed","_law_line","_law_right","_law_read","_law_bent"]
def eG:Stmt:=cg 61
theorem SV:bL o8 E3 (aM eG):=cb
theorem SW:MY o8 eG vx aa gI aa aa aa aa il 0 0:=by
 intro CX Γ X G
 have g:=G.toGood
 refine(qp G (PR g ax ax ax) ?_)
 refine ao ?_ ?_
 ·show PS X (.Assign [.Name "_law_cell" _] _ _) (aK Γ (.asg 2 _))
  with_reducible exact(aZ G (bq g (ah (ae g) (ah (aF g (ae g) ax) au))))
 refine ao ?_ ?_
 ·show PS X (.Assign [.Name "_law_deed_here" _] _ _) (aK Γ (.asg 3 _))
  with_reducible exact(aZ G (bq g (ah (bq g (ah (bq g (ah (ae g) (ah (ae g) au))) (ah ax au))) au)))
 refine ao ?_ ?_
 ·show PS X (.Assign [.Name "_law_line_here" _] _ _) (aK Γ (.asg 4 _))
  with_reducible exact(aZ G (bq g (ah (ae g) au)))
 refine ao ?_ ?_
 ·exact(aO (PW.pt (fo (eV (uk g (bq g (ah (ae g) (ah (ae g) au))))) (hU (aN g (bq g (ah (ae g) au)) (ae g))))) (ao (aH eS) av) av)
 refine ao ?_ ?_
 ·show PS X (.Assign [.Name "_law_bent_here" _] _ _) (aK Γ (.asg 5 _))
  with_reducible exact(aZ G (bq g (ah (ae g) (ah (ae g) (ah (bq g (ah (bq g (ah (ae g) (ah (aF g (ae g) ax) au))) (ah ax au))) au)))))
 refine ao ?_ ?_
 ·exact(aO (eV (uk g (bq g (ah (ae g) (ah (bq g (ah (ae g) au)) au))))) (ao (aH eS) av) av)
 exact av
theorem SX:MY o8 eG vx aa gI aa aa aa aa il 0 1:=by
 intro CX Γ X G
 have g:=G.toGood
 show PS X (.Assign [.Name "_law_odd_here" _] _ _) (aK Γ (.asg 6 _))
 with_reducible exact(aZ G (aW g (bt (ah dn (ah ax (ah eS (ah (bt (ah aq au)) (ah (br (ah aq au)) (ah Nb (ah (bt (ah aq (ah aq (ah aq (ah aq au))))) (ah ax au))))))))) (aF g (bq g (ah (ae g) (ah ax au))) ax)))
theorem SY:MY o8 eG vx aa gI aa aa aa aa il 0 2:=by
 intro CX Γ X G
 have g:=G.toGood
 show PS X (.Return (some _) _) (aK Γ (.ret _))
 with_reducible exact(aH (bq g (ah (ae g) (ah dn au))))
theorem S1:MX o8 eG vx aa gI aa aa aa aa il 0:=by
 intro CX Γ X G
 have e:bh eG=[aR eG 0,aR eG 1,aR eG 2]:=by kernel_rfl
 have e2:il=[aS il 0,aS il 1,aS il 2]:=by kernel_rfl
 rw[e,e2]
 with_reducible exact ao (SW G) (ao (SX G) (ao (SY G) (av)))
end L2.eZ
namespace L2.eZ
open PySem PySem.Spec L2.B
section
variable {Γ:aL} {D:Ends} {σ:St} {H:Hp} {r:List RS} {Q:VK} {K:Frag}
theorem S2{is:List Nat}{e:RE}(h:af Γ e σ H fun x H1=>lW Γ.K is.length (lX is) x σ H1 (aw Γ r D)):aw Γ (.tU is e::r) D σ H:=h
theorem S3{i j:Nat}{t:Addr}{v w:V}{Q:St→Hp→Prop}(ht:H t=some (.lst [v,w]))(q:Q ((σ.set i (some v)).set j (some w)) H):lW K [i,j].length (lX [i,j]) (.ref t) σ H Q:=
 ⟨t,_,rfl, .inr (aC.of ht),rfl,_,_,rfl,_,_,rfl,rfl,q⟩
theorem iW{k:Int}(q:Q (.int (-k)) H):af Γ (.neg (.c (.int k))) σ H Q:=q
theorem rD{o ix e:RE}(h:af Γ e σ H fun v H1=>af Γ o σ H1 fun x H2=>af Γ ix σ H2 fun y H3=>wm x y v H3 fun H4=>aw Γ r D σ H4):aw Γ (.set o ix e::r) D σ H:=h
end
abbrev fZ:=Str×Str
def kE(r:fZ):List V:=[.str r.1, .str r.2]
def iX(H:Hp):List V→List fZ→Prop:=Paired fun v r=> ∃p,v= .ref p∧H p=some (.lst (kE r))
theorem iX.mono{H H':Hp}: ∀{vs:List V} {ps:List fZ},iX H vs ps→(∀v∈vs,∀b,v= .ref b→ ∀o,H b=some o→H' b=some o)→iX H' vs ps
 | _,_, .nil,_=> .nil
 | _,_, .cons ⟨p,e,h⟩ r,k=> .cons ⟨p,e,k _ List.mem_cons_self p e _ h⟩ (iX.mono r fun v hv=>k v (List.mem_cons_of_mem _ hv))
theorem iX.get{H:Hp}: ∀{vs:List V} {ps:List fZ} {i:Nat} {v:V},iX H vs ps→vs[i]?=some v→ ∃r,ps[i]?=some r∧ ∃p,v= .ref p∧H p=some (.lst (kE r))
 | _,_,i,v, .nil,e=>by simp at e
 | _,_,0,v, .cons h r,e=>by simp at e;subst e;exact⟨_,rfl,h⟩
 | _,_,i+1,v, .cons h r,e=>by
  obtain⟨p,a,b⟩:=iX.get (i:=i) r (by simpa using e)
  exact⟨p,by simpa using a,b⟩
structure jD (H H2:Hp) (R:Addr) (rs:List V) (b:Addr) (pre:List fZ) (r:fZ):Prop where
 same:ay H H2
 lst:H2 R=some (.lst (rs++ [.ref b]))
 fr:H R=none
 rows:iX H2 rs pre
 last:H2 b=some (.lst (kE r))
 fb:H b=none
 bp: ∀v∈rs,∀x,v= .ref x→H x=none∧x≠b∧x≠R
 ne:b≠R
theorem jD.set{H H2:Hp}{R b:Addr}{rs:List V}{pre:List fZ}{r r':fZ}(S:jD H H2 R rs b pre r):jD H (upd H2 b (.lst (kE r'))) R rs b pre r' where
 same:=ux S.same S.fb me.upd
 lst:=by rw[bc S.ne.symm];exact S.lst
 fr:=S.fr
 rows:=S.rows.mono fun v hv x e o h=>by rw[bc (S.bp v hv x e).2.1];exact h
 last:=az
 fb:=S.fb
 bp:=S.bp
 ne:=S.ne
theorem jD.grow{H H2:Hp}{R b t:Addr}{rs:List V}{pre:List fZ}{r r':fZ}(S:jD H H2 R rs b pre r)(ht:H2 t=none):
  jD H (upd (upd H2 t (.lst (kE r'))) R (.lst (rs++ [.ref b]++ [.ref t]))) R (rs++ [.ref b]) t (pre++ [r]) r':=by
 have E4:t≠R:=fun z=>by rw[z,S.lst] at ht;cases ht
 have S4:b≠t:=cO S.last ht
 have kk: ∀x o,H2 x=some o→x≠R→upd (upd H2 t (.lst (kE r'))) R (.lst (rs++ [.ref b]++ [.ref t])) x=some o:=fun x o e n=>by rw[bc n,bc (cO e ht)];exact e
 exact {
  same:=fun x o e=>kk x o (S.same x o e) (cO e S.fr)
  lst:=az
  fr:=S.fr
  rows:=Paired.snoc (S.rows.mono fun v hv x e o h=>kk x o h (S.bp v hv x e).2.2) ⟨b,rfl,kk b _ S.last S.ne⟩
  last:=by rw[bc E4,az]
  fb:=S.same.free ht
  bp:=fun v hv x e=>by
   rcases List.mem_append.mp hv with z | z
   ·obtain⟨h1,h2,h3⟩:=S.bp v z x e
    refine⟨h1,fun z2=> ?_,h3⟩
    obtain⟨i,hi,ev⟩:=List.getElem_of_mem z
    obtain⟨row,_,p,e2,hp⟩:=S.rows.get (i:=i) (by rw[List.getElem?_eq_getElem hi,ev])
    rw[e] at e2;cases e2
    rw[z2,ht] at hp;cases hp
   ·rw[List.mem_singleton] at z
    rw[z] at e;cases e
    exact⟨S.fb,S4,S.ne⟩
  ne:=E4}
def kS(k:Nat):Str:=if k=1 then "in" else if k=2 then "out" else ""
def iY(t:Tk):fZ:=(if t.1=true then "out" else "",mk t.2)
def E5(H:Hp)(x:Str)(R:Addr)(i:Nat)(σ:St)(H2:Hp):Prop:= ∃(rs:List V) (b:Addr) (t:Ts) (u3 u4 u5 u6:Option V),bX ((sg x).take i) t0=some t∧σ=[some (.str x),some (.ref R),some (.bl t.e),u3,u4,u5,u6]∧
 jD H H2 R rs b (t.ts.map iY) (kS t.k,mk t.x)∧t.x.length≤i∧rs.length≤i∧i≤x.length
theorem I0:n_ t0:=⟨fun _ h=> (nomatch h),fun _=> ⟨by simp[t0],by simp[t0]⟩,fun h=> (nomatch h),by decide⟩
theorem zf(l:List Nat)(c:Nat):mk l++ (⟨#[c]⟩:Str)=mk (l++ [c]):=fS (by
 show sg (mk l++ ⟨#[c]⟩)=sg (mk (l++ [c]))
 rw[e_]
 rw[show sg (mk l++ ⟨#[c]⟩)=sg (mk l)++ [c] from app_list _ _,e_])
def E6:List RS:=(match fh with | [_,_, .iH _ _ _ b,_,_]=>b | _=> [])
theorem find3(c:Nat):(match Builtin.Str.occurrences "\\\"n" ⟨#[c]⟩ 0 (Str.ofString "\\\"n").length 1 with | i::_=> (i:Int) | []=> -1)=if c=92 then 0 else if c=34 then 1 else if c=110 then 2 else -1:=by
 rw[uA (Str.ofString "\\\"n") c 0 1 (Nat.zero_le _),List.drop_zero,show(Str.ofString "\\\"n").cps.toList=[92,34,110] by decide+kernel]
 by_cases h1:c=92
 ·subst h1;rfl
 by_cases h2:c=34
 ·subst h2;rfl
 by_cases h3:c=110
 ·subst h3;rfl
 have n1: ¬92=c:=fun e=>h1 e.symm
 have n2: ¬34=c:=fun e=>h2 e.symm
 have n3: ¬110=c:=fun e=>h3 e.symm
 simp[pos,h1,h2,h3,n1,n2,n3]
theorem S5{Γ:aL}{σ:St}{H:Hp}{Q:VK}{i c:Nat}(hi:σ[i]?=some (some (one c)))(q:Q (.int (if c=92 then 0 else if c=34 then 1 else if c=110 then 2 else -1)) H):af Γ (.di .find (.c (.str "\\\"n")) [(.v i)]) σ H Q:=by
 rw[←find3 c] at q
 exact jv (ag ⟨rfl,ai hi q⟩)
section
variable {K:Frag} {E:XK}
theorem S6{H H2:Hp}{x:Str}{R b:Addr}{rs:List V}{i c:Nat}{t:Ts}{u3 u4 u5 u6:Option V}{D:Ends}(hx:x.length≤100000)(hc:(sg x)[i]?=some c)(ht:bX ((sg x).take i) t0=some t)(S:jD H H2 R rs b (t.ts.map iY) (kS t.k,mk t.x))(l1:t.x.length≤i)(l2:rs.length≤i)
  (hD: ∀σ H',E5 H x R (i+1) σ H'→D.nx σ H') (hN:bM t c=none→D.rt .aB H2):aw (aU K [] [] (E:=E)) E6 D [some (.str x),some (.ref R),some (.bl t.e),some (one c),u4,u5,u6] H2:=by
 have aQ:i< (sg x).length:=(List.getElem?_eq_some_iff.mp hc).1
 have ot:i<x.length:=by rw[len_list];exact aQ
 have zg: ∀t',bM t c=some t'→bX ((sg x).take (i+1)) t0=some t':=fun t' h=>by
  rw[List.take_succ_eq_append_getElem aQ,(List.getElem?_eq_some_iff.mp hc).2,n5,ht]
  show(bM t c).bind (bX [])=_
  rw[h];rfl
 have TI:=(uT I0 ht).1
 obtain⟨ts,k,y,e⟩:=t
 dsimp only at*
 have lx:(mk y).length=y.length:=rm y
 have b1:(1:Nat)=(⟨#[c]⟩:Str).length:=rfl
 have put: ∀(t':Ts) (v:V) (u4 u5 u6:Option V) (H3:Hp),bM ⟨ts,k,y,e⟩ c=some t'→t'.ts=ts→t'.x.length≤i+1→H3=upd H2 b (.lst (kE (kS t'.k,mk t'.x)))→D.nx [some (.str x),some (.ref R),some (.bl t'.e),some v,u4,u5,u6] H3:=by
  intro t' v u4 u5 u6 H3 h1 h2 h3 h4
  subst h4
  refine hD _ _ ⟨rs,b,t',_,_,_,_,zg _ h1,rfl, ?_,h3,by omega,by omega⟩
  rw[h2];exact S.set
 refine S2 (aV (ai rfl (iW (bP S.lst (jQ _ _) (S3 S.last ?_)))))
 show aw _ (E6.drop 1) D [some (.str x),some (.ref R),some (.bl e),some (one c),some (.str (kS k)),some (.str (mk y)),u6] H2
 cases e with
 | true=>
  have hk:k=1:=TI.e rfl
  subst hk
  refine bb (mE rfl (iT ?_))
  refine a_ (S5 (c:=c) rfl ?_)
  have go: ∀(m:Int) (d:Nat),cQ (Str.ofString "\\\"\n").cps.toList m=some d→ ¬m<0→bM ⟨ts,1,y,true⟩ c=some ⟨ts,1,y++ [d],false⟩→aw (aU K [] [] (E:=E)) [.ite (.cmp .Lt (.v 6) (.c (.int 0))) [.ret (.c .aB)] [],
   .set (.ix (.v 1) (.neg (.c (.int 1)))) (.c (.int 1)) (.bin .Add (.v 5) (.ix (.c (.str "\\\"\n")) (.v 6))),
   .asg 2 (.c (.bl false))] {D with nx:=D.nx} [some (.str x),some (.ref R),some (.bl true),some (one c),some (.str (kS 1)),some (.str (mk y)),some (.int m)] H2:=by
   intro m d h1 h2 h3
   refine bb (bg (ai rfl (ag ⟨trivial,_,rfl,iF (bK ?_) (decide_eq_false h2)⟩)))
   refine rD (aI (ai rfl (aV (ag (ai rfl (.inr (.inr (.inl ⟨_,m,d,rfl,rfl,(by decide+kernel),h1, ?_⟩))))))))
   refine⟨cw (by rw[lx];show y.length+1≤_;omega), ?_⟩
   rw[zf]
   refine aV (ai rfl (iW (bP S.lst (jQ _ _) (ag ⟨b,_,1,1,rfl,rfl,S.last,rfl,a_ (ag ?_)⟩))))
   exact put ⟨ts,1,y++ [d],false⟩ _ _ _ _ _ h3 rfl (by simp;omega) rfl
  by_cases h1:c=92
  ·rw[if_pos h1];exact go 0 92 rfl (by decide) (by simp[bM,h1])
  rw[if_neg h1]
  by_cases h2:c=34
  ·rw[if_pos h2];exact go 1 34 rfl (by decide) (by simp[bM,h2])
  rw[if_neg h2]
  by_cases h3:c=110
  ·rw[if_pos h3];exact go 2 10 rfl (by decide) (by simp[bM,h3])
  rw[if_neg h3]
  exact bb (bg (ai rfl (ag ⟨trivial,_,rfl,iT (aG (ag (hN (by simp[bM,h1,h2,h3]))))⟩)))
 | false=>
  refine bb (mE rfl (iF ?_))
  refine bb (bg (ai rfl (ag (cA ⟨_,rfl, ?_⟩))))
  by_cases hk:k=1
  ·subst hk
   refine iT ?_ (by decide+kernel)
   refine a_ (cM (ai rfl (ag (cA ?_))))
   rw[show((⟨#[c]⟩:Str)==Str.ofString "\\")=decide (c=92) from gG c 92]
   refine bb (bg (ai rfl (ag (cA ⟨_,rfl, ?_⟩))))
   rw[show((⟨#[c]⟩:Str)==Str.ofString "\n")=decide (c=10) from gG c 10]
   by_cases h1:c=10
   ·exact iT (aG (ag (hN (by simp[bM,h1])))) (decide_eq_true h1)
   refine iF (bK ?_) (decide_eq_false h1)
   refine bb (bg (ai rfl (ag (cA ⟨_,rfl, ?_⟩))))
   rw[show((⟨#[c]⟩:Str)==Str.ofString "\"")=decide (c=34) from gG c 34]
   by_cases h2:c=34
   ·refine iT (rD (ag (aV (ai rfl (iW (bP S.lst (jQ _ _) (ag ⟨b,_,0,0,rfl,rfl,S.last,rfl, ?_⟩))))))) (decide_eq_true h2)
    rw[show decide (c=92)=false by simp[h2]]
    exact put ⟨ts,2,y,false⟩ _ _ _ _ _ (by simp[bM,h2]) rfl (by simp;omega) rfl
   refine iF ?_ (decide_eq_false h2)
   by_cases h3:c=92
   ·rw[decide_eq_true h3]
    refine bb (fc (mE rfl (iF ?_)))
    refine hD _ _ ⟨rs,b,⟨ts,1,y,true⟩,_,_,_,_,zg _ (by simp[bM,h3]),rfl,S,by simp;omega,by omega,by omega⟩
   ·rw[decide_eq_false h3]
    refine bb (fc (mE rfl (iT ?_)))
    refine rD (aI (ai rfl (ai rfl ⟨cw (by rw[lx];show y.length+1≤_;omega), ?_⟩)))
    rw[zf]
    refine aV (ai rfl (iW (bP S.lst (jQ _ _) (ag ⟨b,_,1,1,rfl,rfl,S.last,rfl, ?_⟩))))
    exact put ⟨ts,1,y++ [c],false⟩ _ _ _ _ _ (by simp[bM,h1,h2,h3]) rfl (by simp;omega) rfl
  ·have rE:k=0∨k=2:=by have:=TI.k;dsimp only at this;omega
   refine iF ?_ (by rcases rE with rfl | rfl<;>decide+kernel)
   refine bb (bg (ai rfl (ag (cA ⟨_,rfl, ?_⟩))))
   rw[show((⟨#[c]⟩:Str)==Str.ofString " ")=decide (c=32) from gG c 32]
   by_cases h1:c=32
   ·refine iT (qC ?_) (decide_eq_true h1)
    refine jv (ai rfl ⟨EB S.lst,bC (aj (ag (aj (ag (aA ⟨cf,fun p hp=> ?_⟩)))))⟩)
    have e:(upd H2 p (.lst [.str "", .str ""])) R=some (.lst (rs++ [.ref b])):=sameNew hp _ _ S.lst
    refine⟨_,e,hV (by simp;omega), ?_⟩
    refine hD _ _ ⟨rs++ [.ref b],p,⟨ts++ [(decide (k=2),y)],0,[],false⟩,_,_,_,_,zg _ (by simp[bM,hk,h1]),rfl, ?_,by simp,by simp;omega,by omega⟩
    have G:=S.grow (r':=(kS 0,mk [])) hp
    rw[List.map_append]
    have er:(ts.map iY++ [(decide (k=2),y)].map iY)=ts.map iY++ [(kS k,mk y)]:=by
     rcases rE with rfl | rfl<;>rfl
    rw[er]
    exact G
   refine iF ?_ (decide_eq_false h1)
   refine bb (bg (ai rfl (ag (cA ⟨_,rfl, ?_⟩))))
   by_cases h2:k=2
   ·subst h2
    exact iT (aG (ag (hN (by simp[bM,h1])))) (by decide+kernel)
   have h0:k=0:=by omega
   subst h0
   refine iF ?_ (by decide+kernel)
   refine bb (uM (bg (ai rfl (ag (cA ⟨_,rfl, ?_⟩)))))
   rw[show((⟨#[c]⟩:Str)==Str.ofString "\"")=decide (c=34) from gG c 34]
   have last: ¬(c=34∧y=[])→aw (aU K [] [] (E:=E)) [.set (.ix (.v 1) (.neg (.c (.int 1)))) (.c (.int 1)) (.bin .Add (.v 5) (.v 3))] {D with nx:=D.nx} [some (.str x),some (.ref R),some (.bl false),some (one c),some (.str (kS 0)),some (.str (mk y)),u6] H2:=by
    intro h3
    refine rD (aI (ai rfl (ai rfl ⟨cw (by rw[lx];show y.length+1≤_;omega), ?_⟩)))
    rw[zf]
    refine aV (ai rfl (iW (bP S.lst (jQ _ _) (ag ⟨b,_,1,1,rfl,rfl,S.last,rfl, ?_⟩))))
    exact put ⟨ts,0,y++ [c],false⟩ _ _ _ _ _ (by simp only[bM];simp[h1,h3]) rfl (by simp;omega) rfl
   by_cases h3:c=34
   ·refine iT (bg (ai rfl (ag (cA ⟨_,rfl, ?_⟩)))) (decide_eq_true h3)
    by_cases h4:y=[]
    ·refine iT (rD (ag (aV (ai rfl (iW (bP S.lst (jQ _ _) (ag ⟨b,_,0,0,rfl,rfl,S.last,rfl, ?_⟩))))))) (by rw[h4];decide+kernel)
     exact put ⟨ts,1,y,false⟩ _ _ _ _ _ (by simp[bM,h3,h4]) rfl (by simp;omega) rfl
    ·refine iF (last fun h=>h4 h.2) (iR fun e=>h4 ?_)
     have:=congrArg sg e
     rw[e_] at this;exact this
   ·exact iF (last fun h=>h3 h.1) (decide_eq_false h3)
end
def iZ(z:Str):Option Nat:=if (!decide (1≤z.length∧z.length≤9) || (decide ((sg z).head?=some 48) && !(z=="0")))=true then none else if mG (sg z)=true then some (NumText.digitsVal (sg z)) else none
theorem E7: ∀(cs:List Nat) (a:Nat),NumText.AllDigits cs→cs.foldl (fun acc c=>acc*10+ (c - 48)) a+1≤ (a+1)*10 ^ cs.length
 | [],a,_=>by simp
 | c::cs,a,h=>by
  have hc:=h c List.mem_cons_self
  have ih:=E7 cs (a*10+ (c - 48)) fun k hk=>h k (List.mem_cons_of_mem _ hk)
  rw[List.foldl_cons,List.length_cons,Nat.pow_succ]
  refine Nat.le_trans ih ?_
  rw[Nat.mul_comm (10 ^ cs.length) 10,←Nat.mul_assoc]
  exact Nat.mul_le_mul_right _ (by omega)
theorem S7{z:Str}(h:NumText.AllDigits (sg z))(h9:z.length≤9):NumText.digitsVal (sg z)≤999999999:=by
 have:=E7 (sg z) 0 h
 have e:(sg z).length=z.length:=(len_list z).symm
 have p:10 ^ (sg z).length≤10 ^ 9:=Nat.pow_le_pow_right (by decide) (by omega)
 have q:(10:Nat) ^ 9=1000000000:=by decide
 unfold NumText.digitsVal
 omega
theorem E8(n:Nat):sg (num n)=(Nat.toDigits 10 n).map Char.toNat:=by
 unfold num;exact PySem.W.KIN.signs_num n
theorem E9: ∀{l:List Nat},NumText.AllDigits l→(l.map Char.ofNat).map Char.toNat=l
 | [],_=>rfl
 | c::l,h=>by
  have hc:=h c List.mem_cons_self
  have e:(Char.ofNat c).toNat=c:=(show ∀k,k<58→(Char.ofNat k).toNat=k by decide+kernel) c (by omega)
  rw[List.map_cons,List.map_cons,e,E9 fun k hk=>h k (List.mem_cons_of_mem _ hk)]
theorem S8{z:Str}(h:NumText.AllDigits (sg z))(hn:sg z≠ [])(h0:(sg z).head?=some 48→z="0"):num (NumText.digitsVal (sg z))=z:=by
 refine fS ?_
 show sg (num _)=sg z
 rw[E8,NumText.toDigits_all _ h]
 cases e:sg z with
 | nil=>exact absurd e hn
 | cons c r=>
  by_cases hc:c=48
  ·have ez:=h0 (by rw[e,hc];rfl)
   rw[ez] at e
   have e2:sg (Str.ofString "0")=[48]:=by decide+kernel
   rw[e2] at e;cases e;rfl
  ·have:(c==48)=false:=by simpa using hc
   rw[List.dropWhile_cons,this]
   show List.map Char.toNat (List.map Char.ofNat (c::r))=c::r
   rw[e] at h
   exact E9 h
theorem E_{z:Str}{n:Nat}:iZ z=some n↔z=num n∧n≤999999999:=by
 unfold iZ
 constructor
 ·intro h
  split at h
  ·cases h
  next h1=>
   split at h
   next h2=>
    cases h
    simp only[Bool.or_eq_true,Bool.not_eq_true',Bool.and_eq_true,not_or,decide_eq_false_iff_not,decide_eq_true_eq,Decidable.not_not] at h1
    have ad:=q9.mp h2
    have el:(sg z).length=z.length:=(len_list z).symm
    refine⟨(S8 ad (fun e=>by rw[e] at el;have:=h1.1.1;simp at el;omega) fun o9=> ?_).symm,S7 ad h1.1.2⟩
    by_cases hz:z="0"
    ·exact hz
    ·exact absurd ⟨o9,iR hz⟩ h1.2
   ·cases h
 ·rintro⟨rfl,hn⟩
  have h1:=EF n
  have h9:=yN hn
  have ad:NumText.AllDigits (sg (num n)):=fun c hc=>vm n c hc
  have hh: ¬((sg (num n)).head?=some 48∧(num n=="0")=false):=by
   rintro⟨o9,dO⟩
   have tl:=NumText.toDigits_all _ ad
   rw[yS] at tl
   have es:=E8 n
   cases e:sg (num n) with
   | nil=>rw[e] at o9;cases o9
   | cons c r=>
    rw[e] at o9;cases o9
    have hr:r≠ []:=fun er=>by
     rw[er] at e
     have:num n="0":=fS (by show sg (num n)=_;rw[e];decide+kernel)
     rw[this] at dO;exact absurd dO (by decide+kernel)
    rw[e] at tl es
    have l1:(48::r).length=(Nat.toDigits 10 n).length:=by rw[es,List.length_map]
    rw[tl,List.dropWhile_cons] at l1
    simp only[beq_self_eq_true,if_true] at l1
    have l2:=(List.dropWhile_sublist (l:=r) fun x=>x==48).length_le
    cases ed:r.dropWhile fun x=>x==48 with
    | nil=>rw[ed] at l1;simp at l1;exact hr l1
    | cons a q=>
     rw[ed] at l1 l2
     simp only[List.length_map,List.length_cons] at l1 l2
     omega
  rw[if_neg,if_pos (q9.mpr ad),yS]
  simp only[Bool.or_eq_true,Bool.not_eq_true',Bool.and_eq_true,not_or,decide_eq_false_iff_not,decide_eq_true_eq,Decidable.not_not]
  exact⟨⟨h1,h9⟩,hh⟩
def d9(w:Str):Bool:=bB (.str w) [.str "enter", .str "paste"]
def kI(w:Str)(xs:List Str):Option Dd:=
 if xs.all bD=true then (if ((w=="enter") && decide (xs.length=1))=true then some (.enter (xs.headD "")) else if ((w=="paste") && decide (1≤xs.length∧xs.length≤40))=true then some (.bN xs) else none) else none
def sL:List Str:=["left","right","up","down","home","end","top","bottom","back","on"]
def f_(w x:Str):Option Dd:=
 if bB (.str w) [.str "step", .str "hold"]=true then (if cn x sL=true then some (.step x (w=="hold")) else none)
 else if bB (.str w) [.str "spread", .str "go"]=true then (iZ x).map (.num w)
 else if w="erase" then (if cn x eW=true then some (.word w x) else none)
 else if w="mark" then (if cn x mW=true then some (.word w x) else none)
 else if w="span" then (if cn x ["grows","stays"]=true then some (.span (x=="grows")) else none) else none
def jE(w:Str)(r:List Tk):Option Dd:=
 if (r.any fun t=>t.1 !=d9 w)=true then none
 else if d9 w=true then kI w (r.map fun t=>mk t.2)
 else if bB (.str w) [.str "only", .str "undo", .str "redo"]=true then (if r.isEmpty=true then some (.bare w) else none)
 else match r with | [t]=>f_ w (mk t.2) | _=>none
def mI(z:Str):Option Dd:=match tok (sg z) with
 | some (t::r)=>if t.1=true then none else jE (mk t.2) r
 | _=>none
theorem zh{x:Str}:x∈sL↔x∈sW:=⟨fun h=> (by decide+kernel: ∀y∈sL,y∈sW) x h,fun h=> (by decide+kernel: ∀y∈sW,y∈sL) x h⟩
theorem ofT: ∀(r:List Tk) (b:Bool),¬(r.any fun t=>t.1 !=b)=true→r=(r.map fun t=>mk t.2).map fun x=> (b,sg x):=by
 intro r b h
 rw[List.map_map]
 conv=>lhs;rw[←List.map_id r]
 refine List.map_congr_left fun t ht=> ?_
 have:t.1=b:=by
  have hf: ¬(t.1 !=b)=true:=fun h2=>h (List.any_eq_true.mpr ⟨t,ht,h2⟩)
  simpa using hf
 show t=(b,sg (mk t.2))
 rw[e_,←this]
theorem Fb(c:Nat):1≤ (cB c).length:=by
 unfold cB
 by_cases h1:c=92
 ·simp[h1]
 by_cases h2:c=34
 ·simp[h2]
 by_cases h3:c=10<;>simp[h1,h2,h3]
theorem Fc(xs:List Str):(xs.map fun x=> ((true,sg x):Tk)).map wr=(xs.map bo).map sg:=by
 rw[List.map_map,List.map_map]
 exact List.map_congr_left fun x _=>by show qt (sg x)=sg (bo x);rw[mh]
theorem S9(xs:List Str):(xs.map fun x=> ((false,sg x):Tk)).map wr=xs.map sg:=by
 rw[List.map_map];rfl
theorem S_{z:Str}(hz:z.length≤10000){d:Dd}(h:mI z=some d):dy d∧line d=z:=by
 unfold mI at h
 split at h
 case h_2=>cases h
 case h_1 t r ht=>
 obtain⟨_,aE,rF⟩:=uU ht
 have zl:(sg z).length≤10000:=by have:=len_list z;show z.cps.toList.length≤_;omega
 split at h
 ·cases h
 next h1=>
 have t1:t.1=false:=by simpa using h1
 have hw:wr t=sg (mk t.2):=by unfold wr;rw[t1,e_];rfl
 have rF:sep (sg (mk t.2)::r.map wr)=sg z:=by rw[←hw];exact rF
 generalize mk t.2=w at h rF
 have fin: ∀d:Dd,(wl d).map sg=sg w::r.map wr→line d=z:=fun d e=>fS (by show sg (line d)=sg z;rw[fY,e,rF])
 unfold jE at h
 split at h
 ·cases h
 next ha=>
 have hr:=ofT r (d9 w) ha
 split at h
 next rG=>
  rw[rG] at hr
  unfold kI at h
  split at h
  case isFalse=>cases h
  next hg=>
  have ew:r.map wr=((r.map fun t=>mk t.2).map bo).map sg:=by
   have e2:=Fc (r.map fun t=>mk t.2)
   rw[←hr] at e2;exact e2
  have hlen: ∀x∈ (r.map fun t=>mk t.2),x.length≤10000:=by
   intro x hx
   have h1:sg (bo x)∈r.map wr:=by rw[ew];exact List.mem_map.mpr ⟨_,List.mem_map.mpr ⟨x,hx,rfl⟩,rfl⟩
   have h2: ∀(l:List (List Nat)) (a:List Nat),a∈l→a.length≤ (sep l).length:=by
    intro l
    induction l with
    | nil=>intro a ha;cases ha
    | cons b l ih=>
     intro a ha
     cases l with
     | nil=>rw[List.mem_singleton.mp ha];exact Nat.le_refl _
     | cons c l=>
      show a.length≤ (b++32::sep (c::l)).length
      rw[List.length_append,List.length_cons]
      rcases List.mem_cons.mp ha with rfl | ha
      ·omega
      ·have:=ih a ha;omega
   have h3:=h2 (sg w::r.map wr) _ (List.mem_cons_of_mem _ h1)
   rw[rF,mh] at h3
   have h4: ∀l:List Nat,l.length≤ (bz l).length:=by
    intro l
    induction l with
    | nil=>exact Nat.le_refl _
    | cons c l ih=>
     show l.length+1≤ (cB c++bz l).length
     rw[List.length_append]
     have:1≤ (cB c).length:=Fb c
     omega
   have h5:=h4 (sg x)
   have h6:(qt (sg x)).length=(bz (sg x)).length+2:=by simp[qt]
   have h7:x.length=(sg x).length:=len_list x
   omega
  split at h
  next h3=>
   cases h
   simp only[Bool.and_eq_true,decide_eq_true_eq] at h3
   obtain⟨e3,l3⟩:=h3
   have e3:=eq_of_beq e3
   generalize wU:(r.map fun t=>mk t.2)=xs at*
   match xs,l3 with
   | [x],_=>
    refine⟨⟨List.all_eq_true.mp hg x (by simp),hlen x (by simp)⟩,fin _ ?_⟩
    rw[ew,e3];rfl
  next=>
   split at h
   next h3=>
    cases h
    simp only[Bool.and_eq_true,decide_eq_true_eq] at h3
    have e3:=eq_of_beq h3.1
    refine⟨⟨h3.2.1,h3.2.2,fun x hx=> ⟨List.all_eq_true.mp hg x hx,hlen x hx⟩⟩,fin _ ?_⟩
    rw[ew,e3];rfl
   next=>cases h
 next rG=>
  have rG:d9 w=false:=by simpa using rG
  rw[rG] at hr
  have ew:r.map wr=(r.map fun t=>mk t.2).map sg:=by
   have e2:=S9 (r.map fun t=>mk t.2)
   rw[←hr] at e2;exact e2
  split at h
  next ho=>
   split at h
   case isFalse=>cases h
   next he=>
   cases h
   have:r=[]:=by simpa using he
   subst this
   have:=dH (ws:=["only","undo","redo"]).mp ho
   refine⟨?_,fin _ rfl⟩
   rcases List.mem_cons.mp this with h | h
   ·exact .inl h
   rcases List.mem_cons.mp h with h | h
   ·exact .inr (.inl h)
   ·exact .inr (.inr (List.mem_singleton.mp h))
  next=>
   match r,h,ew,fin with
   | [],h,_,_=>cases h
   | _::_::_,h,_,_=>cases h
   | [t2],h,ew,fin=>
   have ew:List.map wr [t2]=[sg (mk t2.2)]:=ew
   have h:f_ w (mk t2.2)=some d:=h
   rw[ew] at fin
   generalize mk t2.2=x at h fin
   unfold f_ at h
   split at h
   next hs=>
    obtain⟨hx,rfl⟩:=iS h
    refine⟨zh.mp (dH.mp hx),fin _ ?_⟩
    have:=dH (ws:=["step","hold"]).mp hs
    rcases List.mem_cons.mp this with rfl | h
    ·rfl
    ·rw[List.mem_singleton.mp h];rfl
   split at h
   next hs=>
    cases e:iZ x with
    | none=>rw[e] at h;cases h
    | some n=>
     rw[e] at h;cases h
     obtain⟨rfl,hn⟩:=E_.mp e
     have:=dH (ws:=["spread","go"]).mp hs
     refine⟨⟨?_,hn⟩,fin _ rfl⟩
     rcases List.mem_cons.mp this with h | h
     ·exact .inl h
     ·exact .inr (List.mem_singleton.mp h)
   split at h
   next hs=>
    obtain⟨hx,rfl⟩:=iS h
    exact⟨.inl ⟨hs,dH.mp hx⟩,fin _ rfl⟩
   split at h
   next hs=>
    obtain⟨hx,rfl⟩:=iS h
    exact⟨.inr ⟨hs,dH.mp hx⟩,fin _ rfl⟩
   split at h
   next hs=>
    obtain⟨hx,rfl⟩:=iS h
    refine⟨trivial,fin _ ?_⟩
    subst hs
    rcases List.mem_cons.mp (dH.mp hx) with rfl | h
    ·rfl
    ·rw[List.mem_singleton.mp h];rfl
   next=>cases h
def Ta:Dd→List Tk
 | .bare w=> [(false,sg w)]
 | .word w x=> [(false,sg w),(false,sg x)]
 | .num w n=> [(false,sg w),(false,sg (num n))]
 | .enter x=> [(false,sg (Str.ofString "enter")),(true,sg x)]
 | .bN xs=> (false,sg (Str.ofString "paste"))::xs.map fun x=> (true,sg x)
 | .step x b=> [(false,sg (if b=true then Str.ofString "hold" else Str.ofString "step")),(false,sg x)]
 | .span b=> [(false,sg (Str.ofString "span")),(false,sg (if b=true then Str.ofString "grows" else Str.ofString "stays"))]
def plain(w:Str):Bool:= !(sg w).contains 32 && !decide ((sg w).head?=some 34)
theorem rH{w:Str}(h:plain w=true):mv (false,sg w):=by
 unfold plain at h
 simp only[Bool.and_eq_true,Bool.not_eq_true',decide_eq_false_iff_not] at h
 intro _
 exact⟨by simpa using h.1,h.2⟩
theorem Fd(l:List Nat):mv (true,l):=fun h=> (nomatch h)
theorem Tb(n:Nat):plain (num n)=true:=by
 have h:=vm n
 unfold plain
 simp only[Bool.and_eq_true,Bool.not_eq_true',decide_eq_false_iff_not]
 refine⟨?_,fun e=> ?_⟩
 ·rw[Bool.eq_false_iff]
  intro hc
  have:=h 32 (by simpa using hc)
  omega
 ·have:=h 34 (List.mem_of_head? e)
  omega
theorem Tc{d:Dd}(hd:dy d):tok (sg (line d))=some (Ta d):=by
 rw[fY]
 have two: ∀(w x:Str),plain w=true→plain x=true→tok (sep [sg w,sg x])=some [(false,sg w),(false,sg x)]:=fun w x h1 h2=>by
  refine uV (t:=(false,sg w)) (r:=[(false,sg x)]) fun y hy=> ?_
  rcases List.mem_cons.mp hy with rfl | hy
  ·exact rH h1
  ·rw[List.mem_singleton.mp hy];exact rH h2
 cases d with
 | bare w=>
  refine uV (t:=(false,sg w)) (r:=[]) fun y hy=> ?_
  rw[List.mem_singleton.mp hy]
  exact rH (by rcases hd with rfl | rfl | rfl<;>decide+kernel)
 | word w x=>
  refine two w x (by rcases hd with⟨rfl,_⟩ | ⟨rfl,_⟩ <;>decide+kernel) ?_
  rcases hd with⟨_,h⟩ | ⟨_,h⟩
  ·exact(by decide+kernel: ∀y∈eW,plain y=true) x h
  ·exact(by decide+kernel: ∀y∈mW,plain y=true) x h
 | num w n=>exact two w (num n) (by rcases hd.1 with rfl | rfl<;>decide+kernel) (Tb n)
 | enter x=>
  have e:((wl (.enter x)).map sg)=[((false,sg (Str.ofString "enter")):Tk),(true,sg x)].map wr:=by
   show[sg (Str.ofString "enter"),sg (bo x)]=_
   rw[mh];rfl
  rw[e]
  refine uV fun y hy=> ?_
  rcases List.mem_cons.mp hy with rfl | hy
  ·exact rH (by decide+kernel)
  ·rw[List.mem_singleton.mp hy];exact Fd _
 | bN xs=>
  have e:((wl (.bN xs)).map sg)=(((false,sg (Str.ofString "paste")):Tk)::xs.map fun x=> (true,sg x)).map wr:=by
   show sg (Str.ofString "paste")::(xs.map bo).map sg=sg (Str.ofString "paste")::(xs.map fun x=> (true,sg x)).map wr
   rw[Fc]
  rw[e]
  refine uV fun y hy=> ?_
  rcases List.mem_cons.mp hy with rfl | hy
  ·exact rH (by decide+kernel)
  ·obtain⟨x,_,rfl⟩:=List.mem_map.mp hy
   exact Fd _
 | step x b=>
  have hx:=(by decide+kernel: ∀y∈sW,plain y=true) x hd
  cases b with
  | true=>exact two "hold" x (by decide+kernel) hx
  | false=>exact two "step" x (by decide+kernel) hx
 | span b=>
  cases b with
  | true=>exact two "span" "grows" (by decide+kernel) (by decide+kernel)
  | false=>exact two "span" "stays" (by decide+kernel) (by decide+kernel)
theorem vy{d:Dd}(hd:dy d):mI (line d)=some d:=by
 unfold mI
 rw[Tc hd]
 cases d with
 | bare w=>
  show jE (mk (sg w)) []=_
  rw[dD]
  rcases hd with rfl | rfl | rfl<;>rfl
 | word w x=>
  show jE (mk (sg w)) [(false,sg x)]=_
  rw[dD]
  rcases hd with⟨rfl,h⟩ | ⟨rfl,h⟩
  ·show f_ "erase" (mk (sg x))=_
   rw[dD]
   show(if cn x eW=true then _ else _)=_
   rw[if_pos (dH.mpr h)]
  ·show f_ "mark" (mk (sg x))=_
   rw[dD]
   show(if cn x mW=true then _ else _)=_
   rw[if_pos (dH.mpr h)]
 | num w n=>
  show jE (mk (sg w)) [(false,sg (num n))]=_
  rw[dD]
  have e:jE w [(false,sg (num n))]=(iZ (mk (sg (num n)))).map (.num w):=by rcases hd.1 with rfl | rfl<;>rfl
  rw[e,dD,E_.mpr ⟨rfl,hd.2⟩];rfl
 | enter x=>
  show kI "enter" [mk (sg x)]=_
  rw[dD]
  unfold kI
  rw[show([x].all bD)=true by simp[hd.1]]
  rfl
 | bN xs=>
  have a0:(((xs.map fun x=> ((true,sg x):Tk)).any fun t=>t.1 !=d9 (mk (sg (Str.ofString "paste"))))=true)=False:=by
   rw[dD,show d9 (Str.ofString "paste")=true by decide+kernel]
   simp
  show jE (mk (sg (Str.ofString "paste"))) (xs.map fun x=> (true,sg x))=_
  unfold jE
  rw[if_neg (by rw[a0];exact id),dD,if_pos (by decide+kernel),List.map_map]
  have e:xs.map ((fun t:Tk=>mk t.2)∘fun x=> (true,sg x))=xs:=by
   conv=>rhs;rw[←List.map_id xs]
   exact List.map_congr_left fun x _=>dD x
  rw[e]
  unfold kI
  rw[if_pos (List.all_eq_true.mpr fun x hx=> (hd.2.2 x hx).1),if_neg (by rw[show((Str.ofString "paste")=="enter")=false by decide+kernel];simp),if_pos]
  rw[decide_eq_true ⟨hd.1,hd.2.1⟩];decide+kernel
 | step x b=>
  have h:=dH.mpr (zh.mpr hd)
  cases b with
  | true=>
   show f_ (mk (sg (Str.ofString "hold"))) (mk (sg x))=_
   rw[dD,dD]
   show(if cn x sL=true then _ else _)=_
   rw[if_pos h];rfl
  | false=>
   show f_ (mk (sg (Str.ofString "step"))) (mk (sg x))=_
   rw[dD,dD]
   show(if cn x sL=true then _ else _)=_
   rw[if_pos h];rfl
 | span b=>cases b<;>rfl
theorem Fe(j:Str)(c:Nat):(!(Builtin.Str.occurrences j ⟨#[c]⟩ 0 j.length 1).isEmpty)=j.cps.contains c:=by
 rw[uA j c 0 1 (Nat.zero_le _),List.drop_zero]
 have hl:=x3 c j.cps.toList 0
 have e:j.cps.contains c=decide (0<j.cps.toList.count c):=by
  rw[Bool.eq_iff_iff]
  simp only[decide_eq_true_eq,List.count_pos_iff]
  simp
 rw[e]
 cases hp:pos c j.cps.toList 0 with
 | nil=>rw[hp] at hl;rw[←hl];rfl
 | cons a r=>rw[hp] at hl;rw[←hl];simp
theorem Ff{Γ:aL}{σ:St}{H:Hp}{Q:VK}{fv:List (Str×Nat)}{x:Str}{i:Nat}{cond:RE}(p:Nat→Bool)(hi:σ[i]?=some (some (.str x)))(hl:x.length≤1000000)(hc: ∀c (QT:Bool→Hp→Prop),QT (p c) H→bf Γ.calm cond (some (one c)::bj σ fv) H QT)
  (q: ∀a,H a=none→Q (.ref a) (upd H a (.lst (((sg x).filter p).map one)))):af Γ (.comp none fv .txt [(.v i)] (some cond) (.v 0)) σ H Q:=by
 have lx:x.length=(sg x).length:=len_list x
 refine⟨_,hi,x,rfl, ?_⟩
 refine⟨fun i m ys H2=>m=x.length - i∧i≤x.length∧ys=(((sg x).take i).filter p).map one∧H2=H,⟨_,rfl,Nat.zero_le _,rfl,rfl⟩, ?_⟩
 rintro i m ys H2 ⟨rfl,hi,rfl,rfl⟩
 by_cases aQ:i<x.length
 ·refine .inr ⟨aQ, ?_⟩
  rintro y H3 ⟨rfl,c,eh,rfl⟩
  have sU:(sg x)[i]?=some c:=by simpa using eh
  have ot:i< (sg x).length:=by omega
  have e:(sg x).take (i+1)=(sg x).take i++ [c]:=by rw[List.take_succ_eq_append_getElem ot,(List.getElem?_eq_some_iff.mp sU).2]
  have ll:=List.length_filter_le p ((sg x).take i)
  rw[List.length_take] at ll
  refine hc c _ ?_
  cases hp:p c with
  | true=>exact iT (ai rfl ⟨hV (by rw[List.length_map];omega),x.length - (i+1),by omega,rfl,aQ,by rw[e,List.filter_append];simp[hp];rfl,rfl⟩)
  | false=>exact iF ⟨x.length - (i+1),by omega,rfl,aQ,by rw[e,List.filter_append];simp[hp],rfl⟩
 ·have dY:i=x.length:=by omega
  subst dY
  refine .inl ⟨rfl,fun p hp=> ?_⟩
  rw[lx,List.take_of_length_le (Nat.le_refl _)]
  exact q p hp
def low(x:Str):Prop:= ∀c∈sg x,c<1114112
theorem zi{x:Str}(h:low x):PyData.strOk x=true:=by
 unfold PyData.strOk
 rw[Array.all_eq_true']
 intro c hc
 exact decide_eq_true (h c (by simpa using hc))
theorem zj{neg:Bool}{H:Hp}{Q:VK}{a b:Addr}{xs:List V}{ds:List PyData}(ha:H a=some (.lst xs))(hb:H b=some (.lst []))(hx:IsL H ds xs)(hs:SeqAt.shaped (.list ds)=true)(q:Q (.bl (neg ^^ xs.isEmpty)) H):jU neg (.ref a) (.ref b) H Q:=by
 refine⟨.list ds, .list [],⟨a,xs,rfl,ha,hx⟩,⟨b,[],rfl,hb,rfl⟩,hs,(by decide), ?_⟩
 have e:PyData.eqv (.list ds) (.list [])=xs.isEmpty:=by
  cases ds with
  | nil=>rw[show xs=[] from hx];rfl
  | cons d r=>obtain⟨v,r',e,_⟩:=hx;rw[e];rfl
 rw[e];exact q
theorem Fg{K:Frag}{H:Hp}{Q:VK}{a b:Addr}{xs:List V}{ds:List PyData}(ha:H a=some (.lst xs))(hb:H b=some (.lst []))(hx:IsL H ds xs)(hs:SeqAt.shaped (.list ds)=true)(q:Q (.bl (!xs.isEmpty)) H):bY K .NotEq (.ref a) (.ref b) H Q:=zj (neg:=true) ha hb hx hs (by rw[Bool.true_xor];exact q)
theorem Td{K:Frag}{H:Hp}{Q:VK}{a b:Addr}{xs:List V}{ds:List PyData}(ha:H a=some (.lst xs))(hb:H b=some (.lst []))(hx:IsL H ds xs)(hs:SeqAt.shaped (.list ds)=true)(q:Q (.bl xs.isEmpty) H):bY K .Eq (.ref a) (.ref b) H Q:=zj (neg:=false) ha hb hx hs (by rw[Bool.false_xor];exact q)
theorem vz: ∀xs:List Str,(∀x∈xs,low x)→PyData.canLayAll0 (xs.map PyData.str)=true∧PyData.depthAll (xs.map PyData.str)=0
 | [],_=> ⟨rfl,rfl⟩
 | x::r,h=>by
  obtain⟨c,d⟩:=vz r fun y hy=>h y (List.mem_cons_of_mem _ hy)
  refine⟨?_, ?_⟩
  ·show(PyData.strOk x && PyData.canLayAll0 (r.map PyData.str))=true
   rw[zi (h x List.mem_cons_self),c];rfl
  ·show max 0 (PyData.depthAll (r.map PyData.str))=0
   rw[d];rfl
theorem mJ(H:Hp): ∀xs:List Str,IsL H (xs.map PyData.str) (xs.map V.str)
 | []=>rfl
 | x::r=> ⟨.str x,r.map V.str,rfl,rfl,mJ H r⟩
theorem zk{xs:List Str}(h: ∀x∈xs,low x):SeqAt.shaped (.list (xs.map PyData.str))=true:=by
 obtain⟨c,d⟩:=vz xs h
 unfold SeqAt.shaped
 rw[show(PyData.list (xs.map PyData.str)).canLay0=true from c,decide_eq_true (show(PyData.list (xs.map PyData.str)).depth≤64 by show PyData.depthAll _+1≤64;rw[d];decide)];rfl
theorem Fh{x:Str}{p:Nat→Bool}(h:low x): ∀y∈ ((sg x).filter p).map (fun c=> (⟨#[c]⟩:Str)),low y:=by
 intro y hy
 obtain⟨c,hc,rfl⟩:=List.mem_map.mp hy
 intro k hk
 rw[List.mem_singleton.mp hk]
 exact h c (List.mem_filter.mp hc).1
theorem Fi(l:List Nat):l.map one=(l.map fun c=> (⟨#[c]⟩:Str)).map V.str:=by rw[List.map_map];rfl
theorem Fj{p:Nat→Bool}(l:List Nat):(l.filter fun c=> !p c).isEmpty=l.all p:=by
 induction l with
 | nil=>rfl
 | cons c l ih=>
  cases h:p c with
  | true=>simp only[List.filter_cons,h,Bool.not_true,Bool.false_eq_true,if_false,List.all_cons,Bool.true_and];exact ih
  | false=>simp[h]
def o_:Sp:=fun vs H Q E=> ∃x,vs=[.str x]∧x.length≤10000∧low x∧ ∀H',ay H H'→Q (.bl (bD x)) H'
theorem Te{K:Frag}(vs:List V)(H:Hp)(Q:VK)(E:XK)(h:o_ vs H Q E):aw (aU K [] [] (E:=E)) y7 (Dn Q) (start y6 vs) H:=by
 obtain⟨x,rfl,hx,lx,q⟩:=h
 refine a_ (ag (a_ (aI (ai rfl (ag ⟨(by decide+kernel), ?_⟩)))))
 rw[show(Str.ofString " !\"#$&'()*+,-./0123456789:;<=>?@ABCDEFGHIJKLMNOPQRSTUVWXYZ[\\]^_`"++Str.ofString "abcdefghijklmnopqrstuvwxyz{|}~\n":Str)=SG by decide+kernel]
 refine aG (cM (Ff (x:=x) (fun c=> !SG.cps.contains c) rfl (by omega) (fun c QT qt=> ?_) fun a ha=> ?_))
 ·refine bg (ai rfl (ai rfl ⟨_,rfl,_,rfl, ?_⟩))
  show QT (!(!(Builtin.Str.occurrences SG ⟨#[c]⟩ 0 SG.length 1).isEmpty)) H
  rw[Fe];exact qt
 ·refine bC (aA ⟨Nat.zero_le _,fun b hb=> ?_⟩)
  have hS:=(sameNew (o:= .lst (((sg x).filter fun c=> !SG.cps.contains c).map one)) ha).trans (sameNew (o:= .lst []) hb)
  refine zj (sameNew hb _ _ az) az (by rw[Fi];exact mJ _ _) (zk (Fh lx)) ?_
  have e:(false ^^ (((sg x).filter fun c=> !SG.cps.contains c).map one).isEmpty)=bD x:=by
   rw[Bool.false_xor,List.isEmpty_map,Fj];rfl
  rw[e];exact q _ hS
def rJ:Sp:=fun vs H Q E=> ∃z:Str,vs=[.str z]∧z.length≤10000∧low z∧ ∀H',ay H H'→Q (qQ (iZ z)) H'
theorem Tf{l:List Nat}{c:Nat}{r:List Nat}(h:l=c::r):cQ l 0=some c:=by rw[h];exact lq (xs:=c::r) (j:=0) rfl
theorem Tg{K:Frag}(vs:List V)(H:Hp)(Q:VK)(E:XK)(h:rJ vs H Q E):aw (aU K [] [] (E:=E)) rA (Dn Q) (start rq vs) H:=by
 obtain⟨z,rfl,hz,lz,q⟩:=h
 have hl:z.length≤sizeLine:=cw (by omega)
 have el:z.length=(sg z).length:=len_list z
 unfold iZ at q
 have rest:(!decide (1≤z.length∧z.length≤9) || (decide ((sg z).head?=some 48) && !(z=="0")))=false→aw (aU K [] [] (E:=E)) (rA.drop 1) (Dn Q) [some (.str z)] H:=by
  intro hb
  rw[if_neg (by rw[hb];decide)] at q
  have h19:1≤z.length∧z.length≤9:=by
   simp only[Bool.or_eq_false_iff,Bool.not_eq_false',decide_eq_true_eq] at hb
   exact hb.1
  refine bb (bg (Ff (x:=z) (fun c=> !FG.cps.contains c) rfl (by omega) (fun c QT qt=> ?_) fun a ha=> ?_))
  ·refine bg (ai rfl (ag ⟨_,rfl,_,rfl, ?_⟩))
   show QT (!(!(Builtin.Str.occurrences FG ⟨#[c]⟩ 0 FG.length 1).isEmpty)) H
   rw[Fe];exact qt
  ·refine bC (aA ⟨Nat.zero_le _,fun b hb=> ?_⟩)
   have hS:=(sameNew (o:= .lst (((sg z).filter fun c=> !FG.cps.contains c).map one)) ha).trans (sameNew (o:= .lst []) hb)
   refine Fg (sameNew hb _ _ az) az (by rw[Fi];exact mJ _ _) (zk (Fh lz)) ?_
   refine⟨_,rfl, ?_⟩
   have e:(!(((sg z).filter fun c=> !FG.cps.contains c).map one).isEmpty)= !mG (sg z):=by
    rw[List.isEmpty_map,Fj];rfl
   rw[e]
   cases hd:mG (sg z) with
   | true=>
    rw[if_pos hd] at q
    refine iF (bK (aG (EH (ai rfl ⟨z,rfl,q9.mp hd,fun hn=> ?_,by omega,q _ hS⟩))))
    have:(sg z).length=0:=by rw[show sg z=[] from hn];rfl
    omega
   | false=>
    rw[if_neg (by rw[hd];decide)] at q
    exact iT (aG (ag (q _ hS)))
 have zm:(!decide (1≤z.length∧z.length≤9) || (decide ((sg z).head?=some 48) && !(z=="0")))=true→aw (aU K [] [] (E:=E)) [.ret (.c .aB)] {(Dn Q) with nx:=aw (aU K [] [] (E:=E)) (rA.drop 1) (Dn Q)} [some (.str z)] H:=by
  intro hb
  rw[if_pos hb] at q
  exact aG (ag (q _ (ay.refl _)))
 refine bb (eE (fc (yI (ag (dZ (ai rfl ⟨hl,trivial,_,rfl, ?_⟩))))))
 by_cases a1:1≤z.length
 ·refine iT (ag ⟨trivial,_,rfl, ?_⟩) (decide_eq_true (by omega))
  by_cases a2:z.length≤9
  ·refine iF ?_ (by rw[decide_eq_true (by omega)];rfl)
   have zo:decide (1≤z.length∧z.length≤9)=true:=decide_eq_true ⟨a1,a2⟩
   cases es:sg z with
   | nil=>rw[es] at el;simp at el;omega
   | cons c r=>
    have hh:decide ((sg z).head?=some 48)=decide (c=48):=by rw[es];simp
    refine gC (uM (bg (aV (ai rfl (ag (.inr (.inr (.inl ⟨z,0,c,rfl,rfl,hl,Tf es,ag (cA ⟨_,rfl, ?_⟩)⟩))))))))
    rw[show((⟨#[c]⟩:Str)==Str.ofString "0")=decide (c=48) from gG c 48]
    by_cases hc:c=48
    ·refine iT (bg (ai rfl (ag (uP ⟨_,rfl, ?_⟩)))) (decide_eq_true hc)
     cases ez:(z=="0") with
     | true=>exact iF (bK (rest (by rw[zo,ez];simp))) (by show(!(z=="0"))=false;rw[ez];rfl)
     | false=>exact iT (zm (by rw[zo,ez,hh,decide_eq_true hc];rfl)) (by show(!(z=="0"))=true;rw[ez];rfl)
    ·exact iF (iF (bK (rest (by rw[zo,hh,decide_eq_false hc];rfl)))) (decide_eq_false hc)
  ·exact iT (zm (by rw[decide_eq_false fun h=>a2 h.2];rfl)) (by rw[decide_eq_false (by omega)];rfl)
 ·exact iF ⟨_,rfl,iT (zm (by rw[decide_eq_false fun h=>a1 h.1];rfl))⟩ (decide_eq_false (by omega))
def eI(H:Hp):List V→List Tk→Prop:=Paired fun v t=> ∃a,v= .ref a∧H a=some (.tup [.bl t.1, .str (mk t.2)])
theorem eI.same{H H':Hp}(s:ay H H'): ∀{vs:List V} {ts:List Tk},eI H vs ts→eI H' vs ts
 | _,_, .nil=> .nil
 | _,_, .cons ⟨a,e,h⟩ r=> .cons ⟨a,e,s _ _ h⟩ (eI.same s r)
theorem eI.get{H:Hp}: ∀{vs:List V} {ts:List Tk} {i:Nat} {v:V},eI H vs ts→vs[i]?=some v→ ∃t,ts[i]?=some t∧ ∃a,v= .ref a∧H a=some (.tup [.bl t.1, .str (mk t.2)])
 | _,_,i,v, .nil,e=>by simp at e
 | _,_,0,v, .cons h r,e=>by simp at e;subst e;exact⟨_,rfl,h⟩
 | _,_,i+1,v, .cons h r,e=>by
  obtain⟨p,a,b⟩:=eI.get (i:=i) r (by simpa using e)
  exact⟨p,by simpa using a,b⟩
def rK:Sp:=fun vs H Q E=> ∃x,vs=[.str x]∧x.length≤10000∧(tok (sg x)=none→ ∀H',ay H H'→Q .aB H')∧ ∀ts,tok (sg x)=some ts→ ∀p vs H',ay H H'→H' p=some (.lst vs)→eI H' vs ts→Q (.ref p) H'
theorem Th(t:Tk):((iY t).1=="out")=t.1:=by
 obtain⟨b,x⟩:=t
 cases b with
 | false=>exact(by decide+kernel:(Str.ofString ""==Str.ofString "out")=false)
 | true=>exact(by decide+kernel:(Str.ofString "out"==Str.ofString "out")=true)
section
variable {K:Frag} {E:XK}
theorem Ti{Γ:aL}{σ:St}{H:Hp}{Q:VK}{fv:List (Str×Nat)}{x elt:RE}(h:af Γ x σ H fun v H1=> ∃a xs,v= .ref a∧aC Γ.K H1 a xs∧ ∃W:Nat→Nat→List V→Hp→Prop,(∃m,W 0 m [] H1)∧ ∀i m ys H2,W i m ys H2→
   ((cJ Γ.K a).stop i H2∧ ∀p,H2 p=none→Q (.ref p) (upd H2 p (.lst ys)))∨
   ((cJ Γ.K a).go i H2∧ ∀x H3,(cJ Γ.K a).cZ i H2 x H3→dB Γ.K (some 102) x H3 fun zs=>dW none (zs.map some++bj σ fv) H3 fun b H5=>
    if b=true then af Γ.calm elt (zs.map some++bj σ fv) H5 fun y H6=>ys.length<sizeLine∧ ∃m',m'<m∧W (i+1) m' (ys++ [y]) H6 else ∃m',m'<m∧W (i+1) m' ys H5)):af Γ (.comp (some 102) fv .list [x] none elt) σ H Q:=by
 refine iU (x:=x) _ _ (fun v H1=> ⟨?_, ?_⟩) h
 ·rintro⟨a,xs,h1,h2,h3⟩;exact⟨a,h1,⟨xs,h2⟩,h3⟩
 ·rintro⟨a,h1,⟨xs,h2⟩,h3⟩;exact⟨a,xs,h1,h2,h3⟩
theorem Tj{σ:St}{H:Hp}{R:Addr}{xs:List V}{rows:List fZ}{QQ:List V→Hp→Addr→Prop}{te:TE}{fv:List (Str×Nat)}(ha:H R=some (.lst xs))(hr:iX H xs rows)(hl:xs.length≤1000000)(P:Nat→List V→Hp→Prop)(p0:P 0 [] H)
  (step: ∀i (r:fZ) ys H2,rows[i]?=some r→ay H H2→P i ys H2→ ∀Q':VK,(∀y H3,ay H2 H3→P (i+1) (ys++ [y]) H3→Q' y H3)→te (some (.str r.1)::some (.str r.2)::bj σ fv) H2 Q')
  (fin: ∀ys H2 p,ay H H2→P xs.length ys H2→H2 p=none→QQ ys H2 p): ∃W:Nat→Nat→List V→Hp→Prop,(∃m,W 0 m [] H)∧ ∀i m ys H2,W i m ys H2→
   ((cJ K R).stop i H2∧ ∀p,H2 p=none→QQ ys H2 p)∨
   ((cJ K R).go i H2∧ ∀x H3,(cJ K R).cZ i H2 x H3→dB K (some 102) x H3 fun zs=>dW none (zs.map some++bj σ fv) H3 fun b H5=>
    if b=true then te (zs.map some++bj σ fv) H5 fun y H6=>ys.length<sizeLine∧ ∃m',m'<m∧W (i+1) m' (ys++ [y]) H6 else ∃m',m'<m∧W (i+1) m' ys H5):=by
 refine⟨fun i m ys H2=>m=xs.length - i∧i≤xs.length∧ys.length=i∧ay H H2∧P i ys H2,⟨_,rfl,Nat.zero_le _,rfl,ay.refl _,p0⟩, ?_⟩
 rintro i m ys H2 ⟨rfl,hi,hy,s,p⟩
 by_cases aQ:i<xs.length
 ·refine .inr ⟨⟨xs,xs[i],aC.of (s _ _ ha),by simp[aQ]⟩, ?_⟩
  rintro x H3 ⟨rfl,hx⟩
  have dN:=hx xs (aC.of (s _ _ ha))
  obtain⟨row,vA,q,rfl,hq⟩:=hr.get dN
  exact⟨q,kE row,rfl,aC.of (s _ _ hq),rfl,step i row ys _ vA s p _ fun y H4 s4 p4=> ⟨hV (by omega),xs.length - (i+1),by omega,rfl,aQ,by simp[hy],s.trans s4,p4⟩⟩
 ·have dY:i=xs.length:=by omega
  subst dY
  exact .inl ⟨⟨xs,aC.of (s _ _ ha),Nat.le_refl _⟩,fun q hq=>fin ys _ q s p hq⟩
theorem Tn{H2:Hp}{R:Addr}{xs:List V}{ts:List Tk}{σ:St}{Q:VK}(hR:H2 R=some (.lst xs))(hr:iX H2 xs (ts.map iY))(hl:ts.length≤100000)(hσ:σ[1]?=some (some (.ref R)))(q: ∀p vs H',ay H2 H'→H' p=some (.lst vs)→eI H' vs ts→Q (.ref p) H'):
  af (aU K [] [] (E:=E)) (.comp (some 102) [] .list [(.v 1)] none (.tup [(.cmp .Eq (.v 0) (.c (.str "out"))),(.v 1)])) σ H2 Q:=by
 have hlen:xs.length=ts.length:=by have:=Paired.length hr;rw[List.length_map] at this;exact this
 refine Ti (ai hσ ⟨R,xs,rfl,aC.of hR,Tj hR hr (by omega) (fun i ys H3=>eI H3 ys (ts.take i)) .nil ?_ ?_⟩)
 ·intro i row ys H3 vA s hv Q' k
  rw[List.getElem?_map] at vA
  obtain⟨t,ht,rfl⟩:=Option.map_eq_some_iff.mp vA
  refine cu (aj (cM (ai rfl (ag (cA (aj (ai rfl (aA ⟨cf,fun a ha=>k _ _ (sameNew ha) ?_⟩))))))))
  rw[Th]
  have e:ts.take (i+1)=ts.take i++ [t]:=by rw[List.take_add_one,ht];rfl
  rw[e]
  exact Paired.snoc (hv.same (sameNew ha)) ⟨a,rfl,az⟩
 ·intro ys H3 p s hv hn
  refine q p ys _ (s.trans (sameNew hn)) az ?_
  rw[List.take_of_length_le (by omega)] at hv
  exact hv.same (sameNew hn)
theorem To(vs:List V)(H:Hp)(Q:VK)(h:rK vs H Q E):aw (aU K [] [] (E:=E)) fh (Dn Q) (start kA vs) H:=by
 obtain⟨x,rfl,hx,q1,q2⟩:=h
 refine a_ (bC (aj (bC (aj (ag (aj (ag (aA ⟨cf,fun b hb=>aA ⟨gE,fun R hR=>a_ (ag ?_)⟩⟩))))))))
 have Fl:b≠R:=fun z=>by rw[←z,az] at hR;cases hR
 have fR:H R=none:=(sameNew hb).free hR
 have S0:jD H (upd (upd H b (.lst [.str "", .str ""])) R (.lst [.ref b])) R [] b (t0.ts.map iY) (kS t0.k,mk t0.x):=
  {same:=(sameNew hb).trans (sameNew hR),lst:=az,fr:=fR,rows:= .nil,last:=(by rw[bc Fl,az];rfl),fb:=hb,bp:=(fun v hv=>by cases hv),ne:=Fl}
 refine⟨_,rfl,x,rfl,x4 (z:=x) (E5 H x R) ?_ ?_ ?_⟩
 ·exact⟨[],b,t0,none,none,none,none,rfl,rfl,S0,Nat.le_refl _,Nat.le_refl _,Nat.zero_le _⟩
 ·rintro i c σ H2 hc ⟨rs,b,t,u3,u4,u5,u6,ht,rfl,S,l1,l2,hi⟩
  refine S6 (u3:=u3) (by omega) hc ht S l1 l2 (fun σ H' h=>h) fun hn=>q1 ?_ _ S.same
  have aQ:i< (sg x).length:=(List.getElem?_eq_some_iff.mp hc).1
  have e:sg x=(sg x).take i++c::(sg x).drop (i+1):=by
   conv=>lhs;rw[←List.take_append_drop i (sg x)]
   rw[List.drop_eq_getElem_cons aQ,(List.getElem?_eq_some_iff.mp hc).2]
  unfold tok
  rw[e,n5,ht]
  show((bM t c).bind (bX _)).bind _=none
  rw[hn];rfl
 ·rintro σ H2 ⟨rs,b,t,u3,u4,u5,u6,ht,rfl,S,l1,l2,hi⟩
  have ht:bX (sg x) t0=some t:=by rw[←ht,len_list,List.take_length]
  have TI:=(uT I0 ht).1
  refine bb (bg (aV (aV (ai rfl (iW (bP S.lst (jQ _ _) (ag (bP S.last rfl (ag (cA ⟨_,rfl, ?_⟩))))))))))
  by_cases hk:t.k=1
  ·refine iT (aG (ag (q1 ?_ _ S.same))) (by rw[hk];exact(by decide+kernel:(kS 1==Str.ofString "in")=true))
   unfold tok
   rw[ht]
   show(if t.k=1 then none else some (ft t))=none
   rw[if_pos hk]
  have rE:t.k=0∨t.k=2:=by have:=TI.k;omega
  have jJ:(kS t.k==Str.ofString "in")=false:=by rcases rE with h | h<;>rw[h] <;>decide+kernel
  refine iF (bK (aG ?_)) jJ
  have Tp:tok (sg x)=some (ft t):=by
   unfold tok
   rw[ht]
   show(if t.k=1 then none else some (ft t))=_
   rw[if_neg hk]
  refine Tn (ts:=ft t) S.lst ?_ ?_ rfl fun p vs H' s hp hv=>q2 _ Tp p vs H' (S.same.trans s) hp hv
  ·have e:(ft t).map iY=t.ts.map iY++ [(kS t.k,mk t.x)]:=by
    unfold ft
    rw[List.map_append]
    congr 1
    obtain⟨ts,k,y,e⟩:=t
    rcases rE with rfl | rfl<;>rfl
   rw[e]
   exact Paired.snoc S.rows ⟨b,rfl,S.last⟩
  ·have:=Paired.length S.rows
   rw[List.length_map] at this
   unfold ft
   rw[List.length_append,List.length_singleton]
   omega
end
def ip(o:Option Dd)(H:Hp)(Q:VK):Prop:=(o=none→ ∀H',ay H H'→Q .aB H')∧ ∀d,o=some d→ ∀a H',ay H H'→ff H' a d→Q (.ref a) H'
theorem ip.go{o:Option Dd}{H H1:Hp}{Q:VK}(h:ip o H Q)(s:ay H H1):ip o H1 Q:=⟨fun e H' s'=>h.1 e _ (s.trans s'),fun d e a H' s'=>h.2 d e a _ (s.trans s')⟩
def rL:Sp:=fun vs H Q E=> ∃(w:Str) (l:Addr) (xs:List Str),vs=[.str w, .ref l]∧H l=some (.lst (xs.map V.str))∧xs.length≤10000∧(∀x∈xs,x.length≤10000∧low x)∧ip (kI w xs) H Q
theorem Tq{Γ:aL}{σ:St}{H:Hp}{Q:VK}{fv:List (Str×Nat)}{x elt:RE}(h:af Γ x σ H fun v H1=> ∃a xs,v= .ref a∧aC Γ.K H1 a xs∧ ∃W:Nat→Nat→List V→Hp→Prop,(∃m,W 0 m [] H1)∧ ∀i m ys H2,W i m ys H2→
   ((cJ Γ.K a).stop i H2∧ ∀p,H2 p=none→Q (.ref p) (upd H2 p (.lst ys)))∨
   ((cJ Γ.K a).go i H2∧ ∀x H3,(cJ Γ.K a).cZ i H2 x H3→dB Γ.K none x H3 fun zs=>dW none (zs.map some++bj σ fv) H3 fun b H5=>
    if b=true then af Γ.calm elt (zs.map some++bj σ fv) H5 fun y H6=>ys.length<sizeLine∧ ∃m',m'<m∧W (i+1) m' (ys++ [y]) H6 else ∃m',m'<m∧W (i+1) m' ys H5)):af Γ (.comp none fv .list [x] none elt) σ H Q:=by
 refine iU (x:=x) _ _ (fun v H1=> ⟨?_, ?_⟩) h
 ·rintro⟨a,xs,h1,h2,h3⟩;exact⟨a,h1,⟨xs,h2⟩,h3⟩
 ·rintro⟨a,h1,⟨xs,h2⟩,h3⟩;exact⟨a,xs,h1,h2,h3⟩
theorem Tr{Γ:aL}{σ:St}{H:Hp}{x:RE}{QT:Bool→Hp→Prop}(h:af Γ x σ H fun v H1=>qv Γ.K [v] H1 fun x H2=>fO Γ.K x H2 fun b=>QT b H2):bf Γ (.xt mf [x]) σ H QT:=h
theorem vB{K:Frag}{H:Hp}{a:Addr}{xs:List V}{P:Nat→Prop}(ha:H a=some (.lst xs))(q:P xs.length):lF K (.ref a) H P:= .inl ⟨xs,aC.of ha,q⟩
theorem Tt{K:Frag}(vs:List V)(H:Hp)(Q:VK)(E:XK)(h:rL vs H Q E):aw (aU K [("_law_good",o_)] [] (E:=E)) vw (Dn Q) (start rB vs) H:=by
 obtain⟨w,l,xs,rfl,hl,h1,hx,q⟩:=h
 refine bb (fc ?_)
 refine Tr (Tq (ai rfl ⟨l,_,rfl,aC.of hl,Ov hl (by simp;omega) (fun i ys _=>ys=((xs.take i).map bD).map V.bl) rfl ?_ ?_⟩))
 ·intro i x ys H2 hi s p Q' k
  obtain⟨y,hy,rfl⟩:=qS hi
  have hm:=hx y (List.mem_of_getElem? hy)
  have ek:ys++ [V.bl (bD y)]=((xs.take (i+1)).map bD).map V.bl:=by rw[List.take_add_one,hy,p];simp
  exact bu o_ rfl (aj (ai rfl (aA ⟨y,rfl,hm.1,hm.2,fun H' s'=>k _ _ s' ek⟩)))
 ·intro ys H2 p s hp hn
  have sS:=s.trans (sameNew (o:= .lst ys) hn)
  refine⟨p,xs.map bD,rfl,aC.of ?_, ?_⟩
  ·rw[az,hp];simp
  rw[show((xs.map bD).all id)=xs.all bD by simp[List.all_map]]
  have q:=q.go sS
  have hl:=sS _ _ hl
  generalize upd H2 p (.lst ys)=H3 at q hl⊢
  unfold kI at q
  cases ea:xs.all bD with
  | false=>
   rw[if_neg (by rw[ea];decide)] at q
   exact hX (iT (aG (ag (q.1 rfl _ (ay.refl _)))))
  | true=>
  rw[if_pos ea] at q
  refine hX (iF (bK ?_))
  refine bb (uM (bg (ai rfl (ag (cA ⟨_,rfl, ?_⟩)))))
  have two:((w=="enter") && decide (xs.length=1))=false→aw (aU K [("_law_good",o_)] [] (E:=E)) (vw.drop 2) (Dn Q) [some (.str w),some (.ref l)] H3:=by
   intro hb
   rw[if_neg (by rw[hb];decide)] at q
   refine bb (uM (bg (ai rfl (ag (cA ⟨_,rfl, ?_⟩)))))
   cases ew:(w=="paste") with
   | false=>
    rw[ew,if_neg (by simp)] at q
    exact iF (iF (bK (aG (ag (q.1 rfl _ (ay.refl _))))))
   | true=>
    refine iT ?_
    rw[ew,Bool.true_and] at q
    refine yI (ag (dZ (ai rfl (vB hl ⟨trivial,_,rfl, ?_⟩))))
    by_cases a1:1≤xs.length
    ·refine iT (ag ⟨trivial,_,rfl, ?_⟩) (decide_eq_true (by simp;omega))
     by_cases a2:xs.length≤40
     ·refine iT ?_ (decide_eq_true (by simp;omega))
      rw[if_pos (decide_eq_true ⟨a1,a2⟩)] at q
      refine aG (cu (aj (ai rfl (aj (vn (ai rfl ⟨_, .inl ⟨aC.of hl,fun c hc=>aA ⟨cf,fun g hg=> ?_⟩⟩⟩))))))
      refine q.2 _ rfl g _ ((sameNew hc).trans (sameNew hg)) ⟨c, ?_,sameNew hg _ _ az⟩
      rw[az,eq_of_beq ew]
     ·rw[if_neg (by simp;omega)] at q
      exact iF (bK (aG (ag (q.1 rfl _ (ay.refl _))))) (decide_eq_false (by simp;omega))
    ·rw[if_neg (by simp;omega)] at q
     exact iF ⟨_,rfl,iF (bK (aG (ag (q.1 rfl _ (ay.refl _)))))⟩ (decide_eq_false (by simp;omega))
  cases ew:(w=="enter") with
  | false=>exact iF (iF (bK (two (by rw[ew];rfl))))
  | true=>
   refine iT (bg (dZ (ai rfl (vB hl (ag (fq ⟨_,rfl, ?_⟩))))))
   by_cases a1:xs.length=1
   ·rw[ew,decide_eq_true a1,if_pos (show(true && true)=true from rfl)] at q
    match xs,a1,hl,q with
    | [x],_,hl,q=>
     refine iT (aG (cu (aj (ai rfl (aj (aV (ai rfl (ag (bP hl rfl (aA ⟨cf,fun g hg=> ?_⟩)))))))))) rfl
     refine q.2 _ rfl g _ (sameNew hg) ?_
     show _=some (HO.tup [.str "enter", .str x])
     rw[az,eq_of_beq ew]
   ·exact iF (bK (two (by rw[decide_eq_false a1];simp))) (decide_eq_false (by simp;omega))
def zp(w:Str)(r:List Tk):Option Dd:=
 if d9 w=true then kI w (r.map fun t=>mk t.2)
 else if bB (.str w) [.str "only", .str "undo", .str "redo"]=true then (if r.isEmpty=true then some (.bare w) else none)
 else match r with | [t]=>f_ w (mk t.2) | _=>none
theorem Fm{Γ:aL}{D:Ends}{σ:St}{H:Hp}{r:List RS}{o i e:RE}(h:af Γ e σ H fun v H1=>af Γ o σ H1 fun x H2=>af Γ i σ H2 fun y H3=> ∃a H4,x= .ref a∧lG H3 a y v H4∧aw Γ r D σ H4):aw Γ (.dput o i e::r) D σ H:=h
theorem Tu{Γ:aL}{σ:St}{H:Hp}{Q:VK}{o a b:RE}(h:af Γ o σ H fun x H1=> ∃p,x= .ref p∧wK H1 p∧af Γ a σ H1 fun y H2=>af Γ b σ H2 fun z H3=> ∃u,jg H3 p y u∧Q (u.getD z) H3):af Γ (.tR o a b) σ H Q:=h
theorem Tv{Γ:aL}{σ:St}{H:Hp}{Q:VK}{as:List RE}(h: ∀p,H p=none→aY Γ as σ (upd H p (.dK [])) fun vs H2=>H2 p=some (.dK [])∧ ∃ar:List (Key×V),vs=mw ar∧ar.length≤15∧Q (.ref p) (upd H2 p (.dK (ig [] ar)))):af Γ (.xt oa as) σ H Q:=h
theorem Tw{K:Frag}{H:Hp}{Q:VK}{p:Addr}{xs:List V}{x:Str}(hp:H p=some (.lst xs))(hf:xs.all dc=true)(q:Q (.bl (bB (.str x) xs)) H):bY K .In (.str x) (.ref p) H Q:=⟨p,xs,rfl, .inl (aC.of hp),rfl,hf,q⟩
theorem vC{K:Frag}{H:Hp}{Q:VK}{p:Addr}{xs:List V}{x:Str}(hp:H p=some (.lst xs))(hf:xs.all dc=true)(q:Q (.bl (!bB (.str x) xs)) H):bY K .NotIn (.str x) (.ref p) H Q:=⟨p,xs,rfl, .inl (aC.of hp),rfl,hf,q⟩
theorem Fn(xs:List V):fN xs (some 1) none=xs.drop 1:=by
 unfold fN
 rw[show HT.aP xs.length 0 (some 1)=min 1 xs.length from HT.IW _ _ 1,HT.IV]
 cases xs with
 | nil=>rfl
 | cons a r=>simp
abbrev rM:List (Str×Sp):=[("_law_tokens",rK),("_law_texts_deed",rL),("_law_number_of",rJ)]
section
variable {K:Frag} {Q:VK} {E:XK}
theorem Tz{H:Hp}{z w x:Str}{T L:Addr}{u4 u5:Option V}(hL:H L=some (.lst [.str x]))(hs:bB (.str w) [.str "step", .str "hold"]=false)(hg:bB (.str w) [.str "spread", .str "go"]=false)(q:ip (f_ w x) H Q):
  aw (aU K rM [] (E:=E)) (bO.drop 10) (Dn Q) [some (.str z),some (.ref T),some (.str w),some (.ref L),u4,u5] H:=by
 unfold f_ at q
 rw[if_neg (by rw[hs];decide),if_neg (by rw[hg];decide)] at q
 refine a_ (Tv fun p hp=> ?_)
 refine aj (ag (aj (bC (aj (ag (aj (ag (aj (ag (aj (ag (aj (ag (aj (ag (aA ⟨(by show 6≤sizeLine;decide),fun e he=>aA ?_⟩))))))))))))))))
 have vD:p≠e:=fun y=>by rw[←y,az] at he;cases he
 refine⟨by rw[bc vD,az],[(.inr "erase", .ref e)],rfl,Nat.le_of_ble_eq_true rfl, ?_⟩
 have fe:H e=none:=(sameNew hp).free he
 generalize ji:upd (upd (upd H p (.dK [])) e _) p _=H3
 have s3:ay H H3:=by
  rw[←ji]
  exact ux ((sameNew hp).trans (sameNew he)) hp me.upd
 have e3:H3 e=some (.lst (eW.map V.str)):=by rw[←ji,bc vD.symm,az];rfl
 have p3:H3 p=some (.dK [(.inr "erase", .ref e)]):=by rw[←ji,az];rfl
 clear ji
 refine Fm (bC (aj (ag (aj (ag (aA ⟨cf,fun m hm=>ai rfl (ag ⟨p,_,rfl,lG.k (k:= .inr "mark") (sameNew hm _ _ p3) (by show 1<sizeLine;decide), ?_⟩)⟩))))))
 have Fo:=cO p3 hm
 have TB:=cO e3 hm
 generalize rN:upd (upd H3 m _) p _=H5
 have s5:ay H H5:=by rw[←rN];exact ux (s3.trans (sameNew hm)) hp me.upd
 have e5:H5 e=some (.lst (eW.map V.str)):=by rw[←rN,bc vD.symm,bc TB];exact e3
 have m5:H5 m=some (.lst (mW.map V.str)):=by rw[←rN,bc Fo.symm,az];rfl
 have p5:H5 p=some (.dK [(.inr "erase", .ref e),(.inr "mark", .ref m)]):=by rw[←rN,az];rfl
 clear rN
 refine Fm (bC (aj (ag (aj (ag (aA ⟨cf,fun s hs=>ai rfl (ag ⟨p,_,rfl,lG.k (k:= .inr "span") (sameNew hs _ _ p5) (by show 2<sizeLine;decide), ?_⟩)⟩))))))
 have TC:=cO p5 hs
 have TF:=cO e5 hs
 have TH:=cO m5 hs
 generalize pb:upd (upd H5 s _) p _=H7
 have s7:ay H H7:=by rw[←pb];exact ux (s5.trans (sameNew hs)) hp me.upd
 have e7:H7 e=some (.lst (eW.map V.str)):=by rw[←pb,bc vD.symm,bc TF];exact e5
 have m7:H7 m=some (.lst (mW.map V.str)):=by rw[←pb,bc Fo.symm,bc TH];exact m5
 have g7:H7 s=some (.lst ((["grows","stays"]:List Str).map V.str)):=by rw[←pb,bc TC.symm,az];rfl
 have p7:H7 p=some (.dK [(.inr "erase", .ref e),(.inr "mark", .ref m),(.inr "span", .ref s)]):=by rw[←pb,az];rfl
 clear pb
 have L7:=s7 _ _ hL
 refine bb (bg (aV (ai rfl (ag (bP L7 rfl (Tu (ai rfl ⟨p,rfl, .inl ⟨_, .inl p7⟩,ai rfl (bC (aA ⟨Nat.zero_le _,fun n hn=> ?_⟩))⟩)))))))
 have sn:=sameNew (o:= .lst []) hn
 refine⟨_,jg.k (k:= .inr w) (sn _ _ p7), ?_⟩
 have s8:ay H (upd H7 n (.lst [])):=s7.trans sn
 have L8:=s8 _ _ hL
 have e8:=sn _ _ e7
 have m8:=sn _ _ m7
 have g8:=sn _ _ g7
 have n8:upd H7 n (.lst []) n=some (.lst []):=az
 have q:=q.go s8
 generalize upd H7 n (.lst [])=H8 at s8 L8 e8 m8 g8 n8 q⊢
 have Fp:(w=="span")=false→ip (some (.word w x)) H8 Q→aw (aU K rM [] (E:=E)) (bO.drop 14) (Dn Q) [some (.str z),some (.ref T),some (.str w),some (.ref L),some (.ref p),u5] H8:=by
  intro h1 q
  exact aX rfl h1 (aG (cu (aj (ai rfl (aj (aV (ai rfl (ag (bP L8 rfl (aA ⟨cf,fun a ha=>q.2 _ rfl a _ (sameNew ha) az⟩))))))))))
 by_cases w1:w="erase"
 ·subst w1
  rw[if_pos rfl] at q
  show bY K .NotIn (.str x) (.ref e) H8 _
  refine vC e8 (mq _) ⟨_,rfl, ?_⟩
  show if (!cn x eW)=true then _ else _
  cases ex:cn x eW with
  | true=>rw[if_pos ex] at q;exact iF (bK (Fp (by decide+kernel) q))
  | false=>rw[if_neg (by rw[ex];decide)] at q;exact iT (aG (ag (q.1 rfl _ (ay.refl _))))
 rw[if_neg w1] at q
 by_cases w2:w="mark"
 ·subst w2
  rw[if_pos rfl] at q
  show bY K .NotIn (.str x) (.ref m) H8 _
  refine vC m8 (mq _) ⟨_,rfl, ?_⟩
  show if (!cn x mW)=true then _ else _
  cases ex:cn x mW with
  | true=>rw[if_pos ex] at q;exact iF (bK (Fp (by decide+kernel) q))
  | false=>rw[if_neg (by rw[ex];decide)] at q;exact iT (aG (ag (q.1 rfl _ (ay.refl _))))
 rw[if_neg w2] at q
 by_cases w3:w="span"
 ·subst w3
  rw[if_pos rfl] at q
  show bY K .NotIn (.str x) (.ref s) H8 _
  refine vC g8 (mq _) ⟨_,rfl, ?_⟩
  show if (!cn x ["grows","stays"])=true then _ else _
  cases ex:cn x ["grows","stays"] with
  | true=>
   rw[if_pos ex] at q
   refine iF (bK (dP rfl (by decide+kernel) ?_))
   exact aG (cu (aj (ai rfl (aj (cM (aV (ai rfl (ag (bP L8 rfl (ag (cA (aA ⟨cf,fun a ha=>q.2 _ rfl a _ (sameNew ha) az⟩))))))))))))
  | false=>rw[if_neg (by rw[ex];decide)] at q;exact iT (aG (ag (q.1 rfl _ (ay.refl _))))
 rw[if_neg w3] at q
 have ev:gk [((.inr "erase":Key),V.ref e),(.inr "mark",V.ref m),(.inr "span",V.ref s)] (.inr w)=none:=by
  rw[nE (by show ¬(Sum.inr (Str.ofString "erase"):Key)= .inr w;simp;exact fun y=>w1 y.symm),nE (by show ¬(Sum.inr (Str.ofString "mark"):Key)= .inr w;simp;exact fun y=>w2 y.symm),nE (by show ¬(Sum.inr (Str.ofString "span"):Key)= .inr w;simp;exact fun y=>w3 y.symm)];rfl
 rw[ev]
 exact vC n8 rfl ⟨_,rfl,iT (aG (ag (q.1 rfl _ (ay.refl _))))⟩
end
section
variable {K:Frag} {Q:VK} {E:XK}
theorem TJ{H:Hp}{z w:Str}{T L:Addr}{r:List Tk}{u4 u5:Option V}(hL:H L=some (.lst ((r.map fun t=>mk t.2).map V.str)))(hr:r.length≤10000)(hx: ∀t∈r,(mk t.2).length≤10000∧low (mk t.2))(q:ip (zp w r) H Q):
  aw (aU K rM [] (E:=E)) (bO.drop 5) (Dn Q) [some (.str z),some (.ref T),some (.str w),some (.ref L),u4,u5] H:=by
 have dN: ∀x∈r.map (fun t=>mk t.2),x.length≤10000∧low x:=fun x h=>by obtain⟨t,ht,rfl⟩:=List.mem_map.mp h;exact hx t ht
 unfold zp at q
 cases e1:d9 w with
 | true=>
  rw[if_pos e1] at q
  exact iP rfl e1 fun H1 s1=>aG (bu rL rfl (aj (ai rfl (aj (ai rfl (aA ⟨w,L,_,rfl,s1 _ _ hL,by rw[List.length_map];exact hr,dN,q.go s1⟩))))))
 | false=>
 rw[if_neg (by rw[e1];decide)] at q
 refine jx rfl e1 fun H1 s1=> ?_
 replace q:=q.go s1
 replace hL:=s1 _ _ hL
 cases e2:bB (.str w) [.str "only", .str "undo", .str "redo"] with
 | true=>
  rw[if_pos e2] at q
  refine D3 rfl e2 fun H2 s2=>aG (aV (bC (aj (ag (aj (cu (aj (ai rfl (aA ⟨gE,fun t ht=>aA ⟨cf,fun m hm=> ?_⟩⟩)))))))))
  have sS:=s2.trans ((sameNew (o:= .tup [.str w]) ht).trans (sameNew (o:= .lst [.aB, .ref t]) hm))
  have L2:=sS _ _ hL
  have t2:upd (upd H2 t (.tup [.str w])) m (.lst [.aB, .ref t]) t=some (.tup [.str w]):=sameNew hm _ _ az
  have m2:upd (upd H2 t (.tup [.str w])) m (.lst [.aB, .ref t]) m=some (.lst [.aB, .ref t]):=az
  generalize upd (upd H2 t (.tup [.str w])) m (.lst [.aB, .ref t])=H3 at sS L2 t2 m2⊢
  refine uK (aj (cM (ai rfl (bC (aA ⟨Nat.zero_le _,fun n hn=>Td (sameNew hn _ _ L2) az (mJ _ _) (zk fun x h=> (dN x h).2) (aA ?_)⟩)))))
  have sn:=sameNew (o:= .lst []) hn
  have q:=q.go (sS.trans sn)
  have m4:=sn _ _ m2
  have t4:=sn _ _ t2
  have ee:((r.map fun t=>mk t.2).map V.str).isEmpty=r.isEmpty:=by rw[List.isEmpty_map,List.isEmpty_map]
  show jm _ _ (.ref m) (.int (if ((r.map fun t=>mk t.2).map V.str).isEmpty=true then 1 else 0)) _ _
  rw[ee]
  cases er:r.isEmpty with
  | true=>rw[if_pos er] at q;exact bP m4 rfl (q.2 _ rfl t _ (ay.refl _) t4)
  | false=>rw[if_neg (by rw[er];decide)] at q;exact bP m4 rfl (q.1 rfl _ (ay.refl _))
 | false=>
 rw[if_neg (by rw[e2];decide)] at q
 refine D2 rfl e2 fun H2 s2=> ?_
 replace q:=q.go s2
 replace hL:=s2 _ _ hL
 refine bb (bg (dZ (ai rfl (vB hL (ag (DY ⟨_,rfl, ?_⟩))))))
 match r,hL,hr,hx,q with
 | [],hL,_,_,q=>exact iT (aG (ag (q.1 rfl _ (ay.refl _)))) (by decide)
 | a::b::r,hL,_,_,q=>
  refine iT (aG (ag (q.1 rfl _ (ay.refl _)))) ?_
  simp
  omega
 | [t],hL,_,hx,q=>
  refine iF (bK ?_) rfl
  have hL:H2 L=some (.lst [.str (mk t.2)]):=hL
  have hx:=hx t (by simp)
  have q:ip (f_ w (mk t.2)) H2 Q:=q
  generalize mk t.2=x at hL hx q
  cases e3:bB (.str w) [.str "step", .str "hold"] with
  | true=>
   unfold f_ at q
   rw[if_pos e3] at q
   refine iP rfl e3 fun H3 s3=> ?_
   refine a_ (bC (aj (ag (aj (ag (aj (ag (aj (ag (aj (ag (aj (ag (aj (ag (aj (ag (aj (ag (aj (ag (aA ⟨(by show 10≤sizeLine;decide),fun l hl=> ?_⟩))))))))))))))))))))))
   have sl:=s3.trans (sameNew (o:= .lst (sL.map V.str)) hl)
   have q:=q.go sl
   have L4:=sl _ _ hL
   have l4:upd H3 l (.lst (sL.map V.str)) l=some (.lst (sL.map V.str)):=az
   show aw _ _ _ _ (upd H3 l (.lst (sL.map V.str)))
   generalize upd H3 l (.lst (sL.map V.str))=H4 at sl q L4 l4⊢
   refine aG (vj (bg (aV (ai rfl (ag (bP L4 rfl (ai rfl (Tw l4 (mq _) ⟨_,rfl, ?_⟩))))))))
   show if cn x sL=true then _ else _
   cases ex:cn x sL with
   | true=>
    rw[if_pos ex] at q
    exact iT (cu (aj (ag (aj (aV (ai rfl (ag (bP L4 rfl (aj (cM (ai rfl (ag (cA (aA ⟨mm,fun a ha=>q.2 _ rfl a _ (sameNew ha) az⟩))))))))))))))
   | false=>rw[if_neg (by rw[ex];decide)] at q;exact iF (ag (q.1 rfl _ (ay.refl _)))
  | false=>
  refine jx rfl e3 fun H3 s3=> ?_
  replace q:=q.go s3
  replace hL:=s3 _ _ hL
  cases e4:bB (.str w) [.str "spread", .str "go"] with
  | true=>
   unfold f_ at q
   rw[if_neg (by rw[e3];decide),if_pos e4] at q
   refine iP rfl e4 fun H4 s4=> ?_
   have L4:=s4 _ _ hL
   refine a_ (bu rJ rfl (aj (aV (ai rfl (ag (bP L4 rfl (aA ⟨x,rfl,hx.1,hx.2,fun H5 s5=> ?_⟩)))))))
   have q:=q.go (s4.trans s5)
   refine aG (aV (bC (aj (cu (aj (ai rfl (aj (ai rfl (aA ⟨cf,fun t ht=>aj (ag (aA ⟨cf,fun m hm=> ?_⟩))⟩)))))))))
   have st:=(sameNew (o:= .tup [.str w,qQ (iZ x)]) ht)
   have sm:=(sameNew (o:= .lst [.ref t, .aB]) hm)
   have q:=q.go (st.trans sm)
   have t6:=sm _ _ (az (H:=H5) (a:=t) (o:= .tup [.str w,qQ (iZ x)]))
   refine uK (aj (cM (ai rfl (ag ⟨rfl,aA ?_⟩))))
   cases en:iZ x with
   | none=>
    rw[en] at q
    exact bP az rfl (q.1 rfl _ (ay.refl _))
   | some n=>
    rw[en] at q t6
    exact bP az rfl (q.2 _ rfl t _ (ay.refl _) t6)
  | false=>exact jx rfl e4 fun H4 s4=>Tz (s4 _ _ hL) e3 e4 (q.go s4)
end
theorem zq: ∀{l:List (List Nat)} {a:List Nat},a∈l→a.length≤ (sep l).length∧ ∀c∈a,c∈sep l
 | [b],a,h=>by rw[List.mem_singleton.mp h];exact⟨Nat.le_refl _,fun c hc=>hc⟩
 | b::c::l,a,h=>by
  have e:sep (b::c::l)=b++32::sep (c::l):=rfl
  rw[e,List.length_append,List.length_cons]
  rcases List.mem_cons.mp h with rfl | h
  ·exact⟨by omega,fun k hk=>List.mem_append_left _ hk⟩
  ·have ih:=zq h
   exact⟨by have:=ih.1;omega,fun k hk=>List.mem_append_right _ (List.mem_cons_of_mem _ (ih.2 k hk))⟩
theorem zr: ∀l:List (List Nat),l.length≤ (sep l).length+1
 | []=>by simp[sep]
 | [b]=>by simp
 | b::c::l=>by
  have ih:=zr (c::l)
  have e:(sep (b::c::l)).length=b.length+ ((sep (c::l)).length+1):=by
   show(b++32::sep (c::l)).length=_
   rw[List.length_append,List.length_cons]
  have e2:(b::c::l).length=(c::l).length+1:=rfl
  omega
theorem Fq{c:Nat}: ∀{l:List Nat},c∈l→c=10∨c∈bz l
 | a::l,h=>by
  have e:bz (a::l)=cB a++bz l:=rfl
  rw[e]
  rcases List.mem_cons.mp h with rfl | h
  ·by_cases h3:c=10
   ·exact .inl h3
   refine .inr (List.mem_append_left _ ?_)
   unfold cB
   by_cases h1:c=92
   ·simp[h1]
   by_cases h2:c=34
   ·simp[h2]
   simp[h1,h2,h3]
  ·rcases Fq h with h | h
   ·exact .inl h
   ·exact .inr (List.mem_append_right _ h)
theorem Fs: ∀l:List Nat,l.length≤ (bz l).length
 | []=>Nat.le_refl _
 | c::l=>by
  have ih:=Fs l
  show l.length+1≤ (cB c++bz l).length
  rw[List.length_append]
  have:=Fb c
  omega
theorem TK{z:Str}{ts:List Tk}(hz:z.length≤10000)(lz:low z)(h:tok (sg z)=some ts):ts.length≤10001∧ ∀t∈ts,(mk t.2).length≤10000∧low (mk t.2):=by
 obtain⟨_,_,e⟩:=uU h
 have el:(sg z).length=z.length:=(len_list z).symm
 refine⟨?_,fun t ht=> ?_⟩
 ·have:=zr (ts.map wr)
  rw[e,List.length_map] at this
  omega
 ·have hm:=zq (List.mem_map.mpr ⟨t,ht,rfl⟩:wr t∈ts.map wr)
  rw[e] at hm
  obtain⟨b,x⟩:=t
  rw[rm]
  unfold low
  rw[e_]
  cases b with
  | false=>exact⟨by have:=hm.1;change x.length≤_ at this;dsimp only;omega,fun c hc=>lz c (hm.2 c hc)⟩
  | true=>
   have h1:=hm.1
   change (qt x).length≤_ at h1
   have h2:(qt x).length=(bz x).length+2:=by simp[qt]
   have h3:=Fs x
   refine⟨by dsimp only;omega,fun c hc=> ?_⟩
   rcases Fq hc with h | h
   ·rw[h];decide
   ·exact lz c (hm.2 c (by show c∈34::bz x++ [34];simp[h]))
def gL(t:Tk):PyData:= .tuple [.bool t.1, .str (mk t.2)]
theorem Ft{H:Hp}: ∀{vs:List V} {ts:List Tk},eI H vs ts→IsL H (ts.map gL) vs
 | _,_, .nil=>rfl
 | _,_, .cons (a:=v) (b:=t) ⟨a,e,h⟩ r=> ⟨v,_,rfl,⟨a,_,e,h, .bl t.1,_,rfl,rfl, .str (mk t.2),[],rfl,rfl,rfl⟩,Ft r⟩
theorem Fu: ∀ts:List Tk,(∀t∈ts,low (mk t.2))→PyData.canLayAll0 (ts.map gL)=true∧PyData.depthAll (ts.map gL)≤1
 | [],_=> ⟨rfl,Nat.zero_le _⟩
 | t::r,h=>by
  obtain⟨c,d⟩:=Fu r fun y hy=>h y (List.mem_cons_of_mem _ hy)
  have e:(gL t).canLay0=true:=by
   show(true && (PyData.strOk (mk t.2) && true))=true
   rw[zi (h t List.mem_cons_self)];rfl
  refine⟨?_, ?_⟩
  ·show((gL t).canLay0 && PyData.canLayAll0 (r.map gL))=true
   rw[e,c];rfl
  ·show max (gL t).depth (PyData.depthAll (r.map gL))≤1
   have:(gL t).depth=1:=rfl
   omega
theorem TL{ts:List Tk}(h: ∀t∈ts,low (mk t.2)):SeqAt.shaped (.list (ts.map gL))=true:=by
 obtain⟨c,d⟩:=Fu ts h
 unfold SeqAt.shaped
 rw[show(PyData.list (ts.map gL)).canLay0=true from c,decide_eq_true (show(PyData.list (ts.map gL)).depth≤64 by show PyData.depthAll _+1≤64;omega)];rfl
section
variable {K:Frag} {Q:VK} {E:XK}
theorem TM{Γ:aL}{σ:St}{H:Hp}{fv:List (Str×Nat)}{x elt:RE}(h:af Γ x σ H fun v H1=> ∃a xs,v= .ref a∧aC Γ.K H1 a xs∧ ∃W:Nat→Nat→List V→Hp→Prop,(∃m,W 0 m [] H1)∧ ∀i m ys H2,W i m ys H2→
   ((cJ Γ.K a).stop i H2∧ ∀p,H2 p=none→Q (.ref p) (upd H2 p (.lst ys)))∨
   ((cJ Γ.K a).go i H2∧ ∀x H3,(cJ Γ.K a).cZ i H2 x H3→dB Γ.K (some 2) x H3 fun zs=>dW none (zs.map some++bj σ fv) H3 fun b H5=>
    if b=true then af Γ.calm elt (zs.map some++bj σ fv) H5 fun y H6=>ys.length<sizeLine∧ ∃m',m'<m∧W (i+1) m' (ys++ [y]) H6 else ∃m',m'<m∧W (i+1) m' ys H5)):af Γ (.comp (some 2) fv .list [x] none elt) σ H Q:=by
 refine iU (x:=x) _ _ (fun v H1=> ⟨?_, ?_⟩) h
 ·rintro⟨a,xs,h1,h2,h3⟩;exact⟨a,h1,⟨xs,h2⟩,h3⟩
 ·rintro⟨a,h1,⟨xs,h2⟩,h3⟩;exact⟨a,xs,h1,h2,h3⟩
theorem TN{Γ:aL}{σ:St}{H:Hp}{fv:List (Str×Nat)}{x elt c:RE}(h:af Γ x σ H fun v H1=> ∃a xs,v= .ref a∧aC Γ.K H1 a xs∧ ∃W:Nat→Nat→List V→Hp→Prop,(∃m,W 0 m [] H1)∧ ∀i m ys H2,W i m ys H2→
   ((cJ Γ.K a).stop i H2∧ ∀p,H2 p=none→Q (.ref p) (upd H2 p (.lst ys)))∨
   ((cJ Γ.K a).go i H2∧ ∀x H3,(cJ Γ.K a).cZ i H2 x H3→dB Γ.K none x H3 fun zs=>dW (some (bf Γ.calm c)) (zs.map some++bj σ fv) H3 fun b H5=>
    if b=true then af Γ.calm elt (zs.map some++bj σ fv) H5 fun y H6=>ys.length<sizeLine∧ ∃m',m'<m∧W (i+1) m' (ys++ [y]) H6 else ∃m',m'<m∧W (i+1) m' ys H5)):af Γ (.comp none fv .list [x] (some c) elt) σ H Q:=by
 refine iU (x:=x) _ _ (fun v H1=> ⟨?_, ?_⟩) h
 ·rintro⟨a,xs,h1,h2,h3⟩;exact⟨a,h1,⟨xs,h2⟩,h3⟩
 ·rintro⟨a,h1,⟨xs,h2⟩,h3⟩;exact⟨a,xs,h1,h2,h3⟩
theorem TQ{σ:St}{H:Hp}{R:Addr}{xs:List V}{ts:List Tk}{QQ:List V→Hp→Addr→Prop}{te:TE}{fv:List (Str×Nat)}(ha:H R=some (.lst xs))(hr:eI H xs ts)(hl:xs.length≤1000000)
  (step: ∀(t:Tk) (H2:Hp) (Q':VK),Q' (.str (mk t.2)) H2→te (some (.bl t.1)::some (.str (mk t.2))::bj σ fv) H2 Q')
  (fin: ∀p,H p=none→QQ ((ts.map fun t=>mk t.2).map V.str) H p): ∃W:Nat→Nat→List V→Hp→Prop,(∃m,W 0 m [] H)∧ ∀i m ys H2,W i m ys H2→
   ((cJ K R).stop i H2∧ ∀p,H2 p=none→QQ ys H2 p)∨
   ((cJ K R).go i H2∧ ∀x H3,(cJ K R).cZ i H2 x H3→dB K (some 2) x H3 fun zs=>dW none (zs.map some++bj σ fv) H3 fun b H5=>
    if b=true then te (zs.map some++bj σ fv) H5 fun y H6=>ys.length<sizeLine∧ ∃m',m'<m∧W (i+1) m' (ys++ [y]) H6 else ∃m',m'<m∧W (i+1) m' ys H5):=by
 have hlen:xs.length=ts.length:=Paired.length hr
 refine⟨fun i m ys H2=>m=xs.length - i∧i≤xs.length∧ys=((ts.take i).map fun t=>mk t.2).map V.str∧H2=H,⟨_,rfl,Nat.zero_le _,rfl,rfl⟩, ?_⟩
 rintro i m ys H2 ⟨rfl,hi,rfl,rfl⟩
 by_cases aQ:i<xs.length
 ·refine .inr ⟨⟨xs,xs[i],aC.of ha,by simp[aQ]⟩, ?_⟩
  rintro x H3 ⟨rfl,hx⟩
  have dN:=hx xs (aC.of ha)
  obtain⟨t,ht,q,rfl,hq⟩:=hr.get dN
  refine⟨q,_,rfl,aT.of hq,rfl,step t _ _ ⟨hV (by rw[List.length_map,List.length_map,List.length_take];omega),xs.length - (i+1),by omega,rfl,aQ, ?_,rfl⟩⟩
  rw[List.take_add_one,ht];simp
 ·have dY:i=xs.length:=by omega
  subst dY
  refine .inl ⟨⟨xs,aC.of ha,Nat.le_refl _⟩,fun q hq=> ?_⟩
  rw[hlen,List.take_length]
  exact fin q hq
theorem TR{σ:St}{H:Hp}{R:Addr}{xs:List V}{ts:List Tk}{QQ:List V→Hp→Addr→Prop}{te:TE}{tc:TT}{fv:List (Str×Nat)}(pr:Tk→Bool)(ha:H R=some (.lst xs))(hr:eI H xs ts)(hl:xs.length≤1000000)
  (test: ∀(t:Tk) (a:Addr) (H2:Hp) (QT:Bool→Hp→Prop),H2 a=some (.tup [.bl t.1, .str (mk t.2)])→(∀H3,ay H2 H3→QT (pr t) H3)→tc (some (.ref a)::bj σ fv) H2 QT)
  (step: ∀(v:V) (H2:Hp) (Q':VK),Q' v H2→te (some v::bj σ fv) H2 Q')
  (fin: ∀ys H2 p,ay H H2→eI H2 ys (ts.filter pr)→H2 p=none→QQ ys H2 p): ∃W:Nat→Nat→List V→Hp→Prop,(∃m,W 0 m [] H)∧ ∀i m ys H2,W i m ys H2→
   ((cJ K R).stop i H2∧ ∀p,H2 p=none→QQ ys H2 p)∨
   ((cJ K R).go i H2∧ ∀x H3,(cJ K R).cZ i H2 x H3→dB K none x H3 fun zs=>dW (some tc) (zs.map some++bj σ fv) H3 fun b H5=>
    if b=true then te (zs.map some++bj σ fv) H5 fun y H6=>ys.length<sizeLine∧ ∃m',m'<m∧W (i+1) m' (ys++ [y]) H6 else ∃m',m'<m∧W (i+1) m' ys H5):=by
 have hlen:xs.length=ts.length:=Paired.length hr
 refine⟨fun i m ys H2=>m=xs.length - i∧i≤xs.length∧ys.length≤i∧ay H H2∧eI H2 ys ((ts.take i).filter pr),⟨_,rfl,Nat.zero_le _,Nat.le_refl _,ay.refl _, .nil⟩, ?_⟩
 rintro i m ys H2 ⟨rfl,hi,hy,s,hv⟩
 by_cases aQ:i<xs.length
 ·refine .inr ⟨⟨xs,xs[i],aC.of (s _ _ ha),by simp[aQ]⟩, ?_⟩
  rintro x H3 ⟨rfl,hx⟩
  have dN:=hx xs (aC.of (s _ _ ha))
  obtain⟨t,ht,q,rfl,hq⟩:=hr.get dN
  have e:ts.take (i+1)=ts.take i++ [t]:=by rw[List.take_add_one,ht];rfl
  refine test t q _ _ (s _ _ hq) fun H4 s4=> ?_
  cases hp:pr t with
  | true=>
   refine iT (step _ _ _ ⟨hV (by omega),xs.length - (i+1),by omega,rfl,aQ,by simp;omega,s.trans s4, ?_⟩)
   rw[e,List.filter_append,show[t].filter pr=[t] by simp[hp]]
   exact Paired.snoc (hv.same s4) ⟨q,rfl,s4 _ _ (s _ _ hq)⟩
  | false=>
   refine iF ⟨xs.length - (i+1),by omega,rfl,aQ,by omega,s.trans s4, ?_⟩
   rw[e,List.filter_append,show[t].filter pr=[] by simp[hp],List.append_nil]
   exact hv.same s4
 ·have dY:i=xs.length:=by omega
  subst dY
  refine .inl ⟨⟨xs,aC.of (s _ _ ha),Nat.le_refl _⟩,fun q hq=>fin ys _ q s ?_ hq⟩
  rw[hlen,List.take_length] at hv
  exact hv
theorem TU{Γ:aL}{D:Ends}{σ:St}{H:Hp}{r:List RS}{i:Nat}{e:RE}(h:af Γ e σ H fun v H1=>aw Γ r D (σ.set i (some v)) H1):aw Γ (.lN i e::r) D σ H:=h
theorem mK{H:Hp}{b c:Bool}(q:Q (.bl (b !=c)) H):bY K .NotEq (.bl b) (.bl c) H Q:=by
 cases b<;>cases c<;>exact q
def pd:Sp:=fun vs H Q E=> ∃z,vs=[.str z]∧z.length≤9999∧low z∧ip (mI z) H Q
theorem TV(vs:List V)(H:Hp)(h:pd vs H Q E):aw (aU K rM [] (E:=E)) bO (Dn Q) (start dI vs) H:=by
 obtain⟨z,rfl,hz,lz,q⟩:=h
 refine a_ (bu rK rfl (aj (ai rfl (aA ⟨z,rfl,by omega,fun hn H1 s1=> ?_,fun ts ht p vs H1 s1 hp hv=> ?_⟩))))
 ·refine bb (eE (bg (ai rfl (ag ⟨rfl,_,rfl,iT (aG (ag (q.1 ?_ _ s1)))⟩))))
  unfold mI;rw[hn]
 ·obtain⟨zt,_,_⟩:=uU ht
  have tb:=TK (by omega) lz ht
  have ec:ts.length≤10000:=by
   obtain⟨_,_,e⟩:=uU ht
   have:=zr (ts.map wr)
   rw[e,List.length_map] at this
   have el:(sg z).length=z.length:=(len_list z).symm
   omega
  unfold mI at q
  rw[ht] at q
  replace q:=q.go s1
  match ts,vs,hv,zt,tb,ec,q with
  | [],_,_,zt,_,_,_=>exact absurd rfl zt
  | t::r,_, .cons (a:=v0) (l₁:=vr) ⟨a0,e0,h0⟩ vE,_,tb,ec,q=>
   subst e0
   have vE:eI H1 vr r:=vE
   have lr:vr.length=r.length:=Paired.length vE
   have q:ip (if t.1=true then none else jE (mk t.2) r) H1 Q:=q
   refine bb (eE (bg (ai rfl (ag ⟨rfl,_,rfl,iF (gC (yJ (aV (ai rfl (ag (bP hp mD (ag (cm h0 rfl (hX ?_))))))))) ?_⟩))))
   rotate_left
   ·simp
   cases et:t.1 with
   | true=>rw[if_pos et] at q;exact iT (aG (ag (q.1 rfl _ (ay.refl _))))
   | false=>
   rw[if_neg (by rw[et];decide)] at q
   refine iF (bK (a_ (aV (aV (ai rfl (ag (bP hp mD (ag (cm h0 rfl ?_)))))))))
   refine TU (TM (yK (ai rfl (.inl ⟨_,aC.of hp,fun p2 q0=> ?_⟩))))
   rw[Fn]
   have s2:=sameNew (o:= .lst ((V.ref a0::vr).drop 1)) q0
   have zu:=vE.same s2
   have q:=q.go s2
   have gU:=s2 _ _ hp
   have h2:upd H1 p2 (.lst ((V.ref a0::vr).drop 1)) p2=some (.lst vr):=az
   generalize upd H1 p2 (.lst ((V.ref a0::vr).drop 1))=H2 at s2 zu q gU h2⊢
   refine⟨p2,vr,rfl,aC.of h2,TQ h2 zu (by have:=ec;simp at this;omega) (fun t H3 Q' k=>ai rfl k) fun L hL=> ?_⟩
   have s3:=sameNew (o:= .lst ((r.map fun t=>mk t.2).map V.str)) hL
   have Fv:=zu.same s3
   have q:=q.go s3
   have jB:=s3 _ _ gU
   have Fw:upd H2 L (.lst ((r.map fun t=>mk t.2).map V.str)) L=some (.lst ((r.map fun t=>mk t.2).map V.str)):=az
   generalize upd H2 L (.lst ((r.map fun t=>mk t.2).map V.str))=H3 at s3 Fv q jB Fw⊢
   show aw (aU K rM [] (E:=E)) (bO.drop 4) (Dn Q) [some (.str z),some (.ref p),some (.str (mk t.2)),some (.ref L),none,none] H3
   have tr: ∀t∈r,(mk t.2).length≤10000∧low (mk t.2):=fun t' h'=>tb.2 t' (List.mem_cons_of_mem _ h')
   generalize mk t.2=w at q⊢
   refine bb (bg (TN (yK (ai rfl (.inl ⟨_,aC.of jB,fun p4 zv=> ?_⟩)))))
   rw[Fn]
   have s4:=sameNew (o:= .lst ((V.ref a0::vr).drop 1)) zv
   have Fx:=Fv.same s4
   have q:=q.go s4
   have Fy:=s4 _ _ Fw
   have h4:upd H3 p4 (.lst ((V.ref a0::vr).drop 1)) p4=some (.lst vr):=az
   generalize upd H3 p4 (.lst ((V.ref a0::vr).drop 1))=H4 at s4 Fx q Fy h4⊢
   refine⟨p4,vr,rfl,aC.of h4,TR (fun t=>t.1 !=d9 w) h4 Fx (by have:=ec;simp at this;omega) (fun t a H5 QT ha k=> ?_) (fun v H5 Q' k=>ai rfl k) fun ys H5 p5 s5 nX TX=> ?_⟩
   ·exact bg (aV (ai rfl (ag (cm ha rfl (cM (ai rfl (cu (aj (ag (aj (ag (aA ⟨cf,fun g hg=>mj az rfl (mK ⟨_,rfl,k _ (sameNew hg)⟩)⟩))))))))))))
   ·refine bC (aA ⟨Nat.zero_le _,fun n hn=> ?_⟩)
    have s6:=(sameNew (o:= .lst ys) TX).trans (sameNew (o:= .lst []) hn)
    have sS:=s5.trans s6
    refine Fg (sameNew hn _ _ az) az (Ft (nX.same s6)) (TL fun t' h'=> (tr t' (List.mem_filter.mp h').1).2) ⟨_,rfl, ?_⟩
    have ey:ys.isEmpty= !(r.any fun t=>t.1 !=d9 w):=by
     have l1:ys.length=(r.filter fun t=>t.1 !=d9 w).length:=Paired.length nX
     cases ea:r.any fun t=>t.1 !=d9 w with
     | true=>
      obtain⟨t',km,e'⟩:=List.any_eq_true.mp ea
      have:t'∈r.filter fun t=>t.1 !=d9 w:=List.mem_filter.mpr ⟨km,e'⟩
      have:=List.length_pos_of_mem this
      cases ys with
      | nil=>rw[←l1] at this;exact absurd this (by decide)
      | cons=>rfl
     | false=>
      have:(r.filter fun t=>t.1 !=d9 w)=[]:=List.filter_eq_nil_iff.mpr fun t' km h'=>by
       have:=List.any_eq_true (p:=fun t:Tk=>t.1 !=d9 w).mpr ⟨t',km,h'⟩
       rw[ea] at this;cases this
      rw[this] at l1
      cases ys with
      | nil=>rfl
      | cons=>simp at l1
    rw[ey,Bool.not_not]
    have q:ip (if (r.any fun t=>t.1 !=d9 w)=true then none else zp w r) _ Q:=q.go sS
    cases ea:r.any fun t=>t.1 !=d9 w with
    | true=>rw[if_pos ea] at q;exact iT (aG (ag (q.1 rfl _ (ay.refl _))))
    | false=>
     rw[if_neg (by rw[ea];decide)] at q
     exact iF (bK (TJ (sS _ _ Fy) (by have:=ec;simp at this;omega) tr q))
end
def Fz(H:Hp)(x:Str)(i:Nat)(σ:St)(H2:Hp):Prop:= ∃(z:Str) (u:Option V),σ=[some (.str x),some (.str z),u]∧H2=H∧sg z=bz ((sg x).take i)∧i≤x.length
theorem TY{K:Frag}(vs:List V)(H:Hp)(Q:VK)(E:XK)(h:fu vs H Q E):aw (aU K [] [] (E:=E)) y4 (Dn Q) (start y3 vs) H:=by
 obtain⟨x,rfl,hx,q⟩:=h
 refine a_ (ag ?_)
 refine⟨_,rfl,x,rfl,x4 (z:=x) (Fz H x) ?_ ?_ ?_⟩
 ·exact⟨_,none,rfl,rfl,rfl,Nat.zero_le _⟩
 ·rintro i c σ H2 hc ⟨z,u,rfl,rfl,hz,hi⟩
  have aQ:i< (sg x).length:=(List.getElem?_eq_some_iff.mp hc).1
  have ot:i<x.length:=by rw[len_list];exact aQ
  have e:bz ((sg x).take (i+1))=sg z++cB c:=by
   rw[List.take_succ_eq_append_getElem aQ,(List.getElem?_eq_some_iff.mp hc).2,hz]
   show(List.flatMap cB (_++ [c]))=_
   rw[List.flatMap_append];simp[bz]
  have lz:z.length≤200000:=by
   rw[len_list];show(sg z).length≤_
   rw[hz]
   have:=uI ((sg x).take i)
   rw[List.length_take] at this
   omega
  show aw _ _ _ [some (.str x),some (.str z),some (one c)] H2
  have e1:((⟨#[c]⟩:Str)==Str.ofString "\n")=decide (c=10):=gG c 10
  have e2:((⟨#[c]⟩:Str)==Str.ofString "\"")=decide (c=34):=gG c 34
  have e3:((⟨#[c]⟩:Str)==Str.ofString "\\")=decide (c=92):=gG c 92
  have fin: ∀w:Str,sg w=cB c→ ∃(z':Str) (u:Option V),[some (V.str x),some (.str (z++w)),some (one c)]=[some (.str x),some (.str z'),u]∧H2=H2∧sg z'=bz ((sg x).take (i+1))∧i+1≤x.length:=fun w hw=>
   ⟨z++w,_,rfl,rfl,by rw[e,←hw];exact app_list _ _,ot⟩
  refine bb (bg (ai rfl (ag (cA ⟨_,rfl, ?_⟩))))
  rw[e1]
  by_cases h1:c=10
  ·refine iT (a_ (aI (ai rfl (ag ⟨cw (by show z.length+2≤_;omega), ?_⟩)))) (decide_eq_true h1)
   exact fin "\\n" (by subst h1;rfl)
  ·refine iF ?_ (decide_eq_false h1)
   have two: ∀D:Ends,(∀σ' H',Fz H2 x (i+1) σ' H'→D.nx σ' H')→(c=34∨c=92)→aw (aU K [] [] (E:=E)) [.asg 1 (.bin .Add (.bin .Add (.v 1) (.c (.str "\\"))) (.v 2))] D [some (.str x),some (.str z),some (one c)] H2:=by
    intro D hD h
    refine a_ (aI (aI (ai rfl (ag ⟨cw (by show z.length+1≤_;omega),ai rfl ⟨cw (by rw[qB];show z.length+1+1≤_;omega), ?_⟩⟩))))
    refine hD _ _ ⟨_,_,rfl,rfl, ?_,ot⟩
    rw[e]
    show((z++Str.ofString "\\")++ (⟨#[c]⟩:Str)).cps.toList=_
    rw[app_list,app_list,List.append_assoc]
    congr 1
    rcases h with h | h<;> (subst h;rfl)
   refine bb (eE (bg (ai rfl (ag (cA ⟨_,rfl, ?_⟩)))))
   rw[e3]
   by_cases h3:c=92
   ·exact iT (iT (two _ (fun _ _ h=>h) (.inr h3))) (decide_eq_true h3)
   ·refine iF (gC (bg (ai rfl (ag (cA ⟨_,rfl, ?_⟩))))) (decide_eq_false h3)
    rw[e2]
    by_cases h2:c=34
    ·exact iT (two _ (fun _ _ h=>h) (.inl h2)) (decide_eq_true h2)
    ·refine iF (a_ (aI (ai rfl (ai rfl ⟨cw (by show z.length+1≤_;omega), ?_⟩)))) (decide_eq_false h2)
     exact fin ⟨#[c]⟩ (by simp[cB,h1,h2,h3,sg])
 ·rintro σ H2 ⟨z,u,rfl,rfl,hz,hi⟩
  rw[len_list,List.take_length] at hz
  have lz:z.length≤200000:=by
   rw[len_list];show(sg z).length≤_
   rw[hz]
   have:=uI x.cps.toList
   rw[len_list] at hx
   omega
  refine aG (aI (aI (ag (ai rfl ⟨cw (by show 1+z.length≤_;omega),ag ⟨cw (by rw[qB];show 1+z.length+1≤_;omega), ?_⟩⟩))))
  have:=q H2 (ay.refl _)
  rw[←Ey hz] at this
  exact this
theorem TZ{d:Dd}(hd:dy d):(line d).length≤1000000:=by
 have h1:=vk hd
 have h2:=yc ((wl d).map sg)
 rw[len_list]
 show(sg (line d)).length≤_
 rw[fY]
 have e:(((wl d).map sg).map List.length).sum=sz (wl d):=by
  unfold B.sz
  rw[List.map_map]
  congr 1
 rw[e,List.length_map] at h2
 omega
def rO:Sp:=fun vs H Q E=> ∃a d,vs=[.ref a]∧ff H a d∧dy d∧ ∀H',ay H H'→Q (.str (line d)) H'
theorem pf{d:Dd}{z:Str}(h:sg z=sep ((wl d).map sg)):z=line d:=fS (by
 show sg z=sg (line d)
 rw[h,fY])
section
variable {K:Frag} {Q:VK} {E:XK}
theorem zw{H:Hp}{a:Addr}{d:Dd}{vs:List V}{w:Str}{r:List V}(hd:dy d)(T_:vs= .str w::r)(ha:H a=some (.tup vs))(n1:(w=="enter")=false)(n2:(w=="paste")=false)(n3:(w=="step")=false)(n4:(w=="span")=false)(hl:vs.length=(wl d).length)(h3:vs.length≤3)
  (hv: ∀(i:Nat) (v:V),vs[i]?=some v→ ∃t,(wl d)[i]?=some t∧ ∀(H2:Hp) (Q2:VK),Q2 (.str t) H2→qx [v] H2 Q2) (q: ∀H',ay H H'→Q (.str (line d)) H'):
  aw (aU K [("_law_quoted",fu)] [] (E:=E)) vt (Dn Q) (start oW [.ref a]) H:=by
 have h0:cQ vs 0=some (.str w):=by rw[T_];exact mD
 refine fV rfl ha h0 n1 (fV rfl ha h0 n2 (fV rfl ha h0 n3 (fV rfl ha h0 n4 ?_)))
 refine aG (jv (ag ⟨rfl,oi (ai rfl ⟨a,_,rfl,aT.of ha,nZ ha (by omega) (fun i ys _=>ys=((wl d).take i).map V.str) rfl ?_ ?_⟩)⟩))
 ·intro i x ys H2 hi s p Q' k
  obtain⟨t,ht,k2⟩:=hv i x hi
  refine D5 (ai rfl (k2 _ _ (k _ _ (ay.refl _) ?_)))
  rw[List.take_add_one,ht,p];simp
 ·intro ys H2 p s hp hn
  refine⟨wl d,aC.of ?_,qA (vk hd),q _ (s.trans (sameNew hn))⟩
  rw[az,hp,hl,List.take_length]
theorem FA(b:Bool):jX K .int [.bl b]=fun H Q=>Q (.int (if b=true then 1 else 0)) H:=by cases b<;>rfl
theorem Ua(vs:List V)(H:Hp)(h:rO vs H Q E):aw (aU K [("_law_quoted",fu)] [] (E:=E)) vt (Dn Q) (start oW vs) H:=by
 obtain⟨a,d,rfl,ha,hd,q⟩:=h
 have BJ:=TZ hd
 cases d with
 | bare w=>
  have n:(w=="enter")=false∧(w=="paste")=false∧(w=="step")=false∧(w=="span")=false:=by
   rcases hd with rfl | rfl | rfl<;>exact⟨(by decide+kernel),(by decide+kernel),(by decide+kernel),(by decide+kernel)⟩
  refine zw (d:= .bare w) hd rfl ha n.1 n.2.1 n.2.2.1 n.2.2.2 rfl (Nat.le_of_ble_eq_true rfl) (fun i v hv=> ?_) q
  match i,hv with
  | 0,rfl=>exact⟨w,rfl,fun H2 Q2 q2=> .inr ⟨w,rfl,q2⟩⟩
 | word w x=>
  have n:(w=="enter")=false∧(w=="paste")=false∧(w=="step")=false∧(w=="span")=false:=by
   rcases hd with⟨rfl,_⟩ | ⟨rfl,_⟩ <;>exact⟨(by decide+kernel),(by decide+kernel),(by decide+kernel),(by decide+kernel)⟩
  refine zw (d:= .word w x) hd rfl ha n.1 n.2.1 n.2.2.1 n.2.2.2 rfl (Nat.le_of_ble_eq_true rfl) (fun i v hv=> ?_) q
  match i,hv with
  | 0,rfl=>exact⟨w,rfl,fun H2 Q2 q2=> .inr ⟨w,rfl,q2⟩⟩
  | 1,rfl=>exact⟨x,rfl,fun H2 Q2 q2=> .inr ⟨x,rfl,q2⟩⟩
 | num w m=>
  have n:(w=="enter")=false∧(w=="paste")=false∧(w=="step")=false∧(w=="span")=false:=by
   rcases hd.1 with rfl | rfl<;>exact⟨(by decide+kernel),(by decide+kernel),(by decide+kernel),(by decide+kernel)⟩
  refine zw (d:= .num w m) hd rfl ha n.1 n.2.1 n.2.2.1 n.2.2.2 rfl (Nat.le_of_ble_eq_true rfl) (fun i v hv=> ?_) q
  match i,hv with
  | 0,rfl=>exact⟨w,rfl,fun H2 Q2 q2=> .inr ⟨w,rfl,q2⟩⟩
  | 1,rfl=>exact⟨num m,rfl,fun H2 Q2 q2=> .inl ⟨_,rfl,lt_num hd.2,q2⟩⟩
 | enter x=>
  have hx:=hd.2
  have hl:=yb x
  refine qF rfl ha rfl (by decide+kernel) (aG (aI (ag (bu fu rfl (aj (aV (ai rfl (ag (cm ha rfl (aA ⟨x,rfl,by omega,fun H' s=> ⟨cw (by show 6+ (bo x).length≤_;omega), ?_⟩⟩))))))))))
  have:=q H' s
  rw[←pf (d:= .enter x) (z:=Str.ofString "enter "++bo x) (by
   show(Str.ofString "enter "++bo x).cps.toList=_
   rw[app_list];rfl)] at this
  exact this
 | bN xs=>
  obtain⟨t,ha,ht⟩:=ha
  have dO:xs≠ []:=fun z=>by rw[z] at hd;exact absurd hd.1 (by decide)
  have ez:Str.ofString "paste "++Txt.join " " (xs.map bo)=line (.bN xs):=by
   refine pf ?_
   show(Str.ofString "paste "++Txt.join " " (xs.map bo)).cps.toList=_
   rw[app_list,show(Txt.join " " (xs.map bo)).cps.toList=sep ((xs.map bo).map sg) from uJ _]
   cases xs with
   | nil=>exact absurd rfl dO
   | cons x r=>rfl
  refine fV rfl ha rfl (by decide+kernel) (qF rfl ha rfl (by decide+kernel) ?_)
  refine aG (aI (ag (jv (ag ⟨rfl,oi (aV (ai rfl (ag (cm ha rfl ⟨t,_,rfl,aT.of ht,nZ ht (by have:=hd.2.1;rw[List.length_map];omega) (fun i ys _=>ys=((xs.take i).map bo).map V.str) rfl ?_ ?_⟩))))⟩))))
  ·intro i x ys H2 hi s p Q' k
   obtain⟨y,hy,rfl⟩:=qS hi
   refine bu fu rfl (aj (ai rfl (aA ⟨y,rfl,by have:=(hd.2.2 y (List.mem_of_getElem? hy)).2;omega,fun H' s'=>k _ _ s' ?_⟩)))
   rw[List.take_add_one,hy,p];simp
  ·intro ys H2 p s hp hn
   have hlen:=vk (d:= .bN xs) hd
   refine⟨xs.map bo,aC.of ?_,qA ?_,cw ?_, ?_⟩
   ·rw[az,hp];simp
   ·have:sz (wl (.bN xs))=(Str.ofString "paste").length+sz (xs.map bo):=rfl
    have e2:(wl (.bN xs)).length=(xs.map bo).length+1:=rfl
    omega
   ·have:=congrArg Str.length ez
    rw[qB] at this
    omega
   ·rw[ez];exact q _ (s.trans (sameNew hn))
 | step x b=>
  have hx:x.length≤10:=(show ∀y∈sW,y.length≤10 by decide+kernel) x hd
  have ha:H a=some (.tup [.str "step", .str x, .bl b]):=ha
  refine fV rfl ha rfl (by decide+kernel) (fV rfl ha rfl (by decide+kernel) (qF rfl ha rfl (by decide+kernel) ?_))
  refine aG (aI (aV (bC (aj (ag (aj (ag (aA ⟨cf,fun l hl=> ?_⟩))))))))
  have sl:=sameNew (o:= .lst [.str "step ", .str "hold "]) hl
  have iV:=sl _ _ ha
  refine uK (aj (aV (ai rfl (ag (cm iV rfl (aA ?_))))))
  rw[FA]
  cases b with
  | true=>
   refine bP az rfl (aV (ai rfl (ag (cm iV rfl ⟨cw (by show 5+x.length≤_;omega), ?_⟩))))
   have:=q _ sl
   rw[←pf (d:= .step x true) (z:=Str.ofString "hold "++x) (by
    show(Str.ofString "hold "++x).cps.toList=_
    rw[app_list];rfl)] at this
   exact this
  | false=>
   refine bP az rfl (aV (ai rfl (ag (cm iV rfl ⟨cw (by show 5+x.length≤_;omega), ?_⟩))))
   have:=q _ sl
   rw[←pf (d:= .step x false) (z:=Str.ofString "step "++x) (by
    show(Str.ofString "step "++x).cps.toList=_
    rw[app_list];rfl)] at this
   exact this
 | span b=>
  have ha:H a=some (.tup [.str "span", .bl b]):=ha
  refine fV rfl ha rfl (by decide+kernel) (fV rfl ha rfl (by decide+kernel) (fV rfl ha rfl (by decide+kernel) (qF rfl ha rfl (by decide+kernel) ?_)))
  refine aG (aV (bC (aj (ag (aj (ag (aA ⟨cf,fun l hl=> ?_⟩)))))))
  have sl:=sameNew (o:= .lst [.str "span stays", .str "span grows"]) hl
  have iV:=sl _ _ ha
  refine uK (aj (aV (ai rfl (ag (cm iV rfl (aA ?_))))))
  rw[FA]
  cases b with
  | true=>
   refine bP az rfl ?_
   have:=q _ sl
   rw[←pf (d:= .span true) (z:=Str.ofString "span grows") (by decide+kernel)] at this
   exact this
  | false=>
   refine bP az rfl ?_
   have:=q _ sl
   rw[←pf (d:= .span false) (z:=Str.ofString "span stays") (by decide+kernel)] at this
   exact this
end
section
variable {Γ:aL} {D:Ends} {σ:St} {H:Hp} {r t:List RS} {Q:VK} {K:Frag} {i:Nat}
theorem Ub{fv:List (Str×Nat)}{x elt:RE}(h:af Γ x σ H fun v H1=> ∃j:Int,[v]=[.int j]∧ -(2 ^ 62)≤j∧j<2 ^ 62∧ ∃W:Nat→Nat→List V→Hp→Prop,(∃m,W 0 m [] H1)∧ ∀i m ys H2,W i m ys H2→
   ((ei 0 j.toNat).stop i H2∧ ∀p,H2 p=none→Q (.ref p) (upd H2 p (.lst ys)))∨
   ((ei 0 j.toNat).go i H2∧ ∀x H3,(ei 0 j.toNat).cZ i H2 x H3→dB Γ.K none x H3 fun zs=>dW none (zs.map some++bj σ fv) H3 fun b H5=>
    if b=true then af Γ.calm elt (zs.map some++bj σ fv) H5 fun y H6=>ys.length<sizeLine∧ ∃m',m'<m∧W (i+1) m' (ys++ [y]) H6 else ∃m',m'<m∧W (i+1) m' ys H5)):af Γ (.comp none fv .fH [x] none elt) σ H Q:=iU (x:=x) _ _ (fun _ _=>Iff.rfl) h
theorem Uc{body:List RS}{i:Nat}{x:RE}(h:af Γ x σ H fun v H1=> ∃n:Int,[v]=[.int n]∧ -(2 ^ 62)≤n∧n<2 ^ 62∧ ∃W:Nat→Nat→St→Hp→Prop,(∃m,W 0 m σ H1)∧ ∀j m σ H,W j m σ H→
  ((ei 0 n.toNat).stop j H∧({D with nx:=aw Γ r D}:Ends).nx σ H)∨((ei 0 n.toNat).go j H∧ ∃N:St→Hp→Prop,(∀σ' H',N σ' H'→ ∃m',m'<m∧W (j+1) m' σ' H')∧ ∀x H',(ei 0 n.toNat).cZ j H x H'→cI i x σ H' fun σ2 H2=>aw Γ body {({D with nx:=aw Γ r D}:Ends) with nx:=N,ct:=N,bk:=({D with nx:=aw Γ r D}:Ends).nx} σ2 H2)):
  aw Γ (.iH i .fH [x] body::r) D σ H:=iU (x:=x) _ _ (fun _ _=>Iff.rfl) h
theorem mL{x y:RE}(h:af Γ x σ H fun v H1=>af Γ y σ H1 fun u H2=> ∃i,u= .int i∧lO Γ.K v none (some i) H2 Q):af Γ (.sl x none (some y)) σ H Q:=iU (x:=x) _ _ (fun _ _=>Iff.rfl) h
theorem rP{x y:RE}(h:af Γ x σ H fun v H1=>af Γ y σ H1 fun u H2=> ∃i,u= .int i∧lO Γ.K v (some i) none H2 Q):af Γ (.sl x (some y) none) σ H Q:=iU (x:=x) _ _ (fun _ _=>Iff.rfl) h
theorem FC{x y z:RE}(h:af Γ x σ H fun v H1=>af Γ y σ H1 fun u H2=> ∃i,u= .int i∧af Γ z σ H2 fun w H3=> ∃j,w= .int j∧lO Γ.K v (some i) (some j) H3 Q):af Γ (.sl x (some y) (some z)) σ H Q:=iU (x:=x) _ _ (fun _ _=>Iff.rfl) h
end
theorem FD{K:Frag}{H:Hp}{Q:VK}{x y:Int}(q:Q (.int (x - y)) H):jj K .Sub (.int x) (.int y) H Q:=⟨trivial,q⟩
theorem cH(m k:Int)(hk:0<k):0≤m % k∧m % k<k:=⟨Int.emod_nonneg _ (by omega),Int.emod_lt_of_pos _ hk⟩
theorem kJ{ws:List Str}{j:Int}(h0:0≤j)(h1:j<ws.length): ∃w∈ws,cQ (ws.map V.str) j=some (.str w):=by
 have hl:j.toNat<ws.length:=by omega
 refine⟨ws[j.toNat],List.getElem_mem _, ?_⟩
 have:=lq (xs:=ws.map V.str) (j:=j.toNat) (v:= .str ws[j.toNat]) (by rw[List.getElem?_map,List.getElem?_eq_getElem hl];rfl)
 rwa [Int.toNat_of_nonneg h0] at this
theorem Ud{j:Int}(h0:0≤j)(h1:j<95): ∃c,cQ SG.cps.toList j=some c∧SG.cps.contains c=true:=by
 have hl:j.toNat<SG.cps.toList.length:=by rw[show SG.cps.toList.length=95 by decide+kernel];omega
 refine⟨SG.cps.toList[j.toNat], ?_, ?_⟩
 ·have:=lq (xs:=SG.cps.toList) (j:=j.toNat) (List.getElem?_eq_getElem hl)
  rwa [Int.toNat_of_nonneg h0] at this
 ·have:=List.getElem_mem hl
  simpa using this
def mM:Sp:=fun vs H Q E=> ∃c,vs=[.int c]∧ ∀x H',bD x=true→x.length≤6→ay H H'→Q (.str x) H'
section
variable {K:Frag} {Q:VK} {E:XK}
theorem Ue{x y:Str}(hx:bD x=true)(hy:bD y=true):bD (x++y)=true:=by
 unfold bD at hx hy⊢
 rw[app_list,List.all_append,hx,hy];rfl
theorem Ug(vs:List V)(H:Hp)(h:mM vs H Q E):aw (aU K [("_law_mixed",fQ)] [] (E:=E)) fB (Dn Q) (start kx vs) H:=by
 obtain⟨c,rfl,q⟩:=h
 refine a_ (ag (a_ (aI (ai rfl (ag ⟨(by decide+kernel), ?_⟩)))))
 rw[show(Str.ofString " !\"#$&'()*+,-./0123456789:;<=>?@ABCDEFGHIJKLMNOPQRSTUVWXYZ[\\]^_`"++Str.ofString "abcdefghijklmnopqrstuvwxyz{|}~\n":Str)=SG by decide+kernel]
 refine a_ (ag (Uc (aV (bC (aj (ag (aj (ag (aj (ag (aj (ag (aj (ag (aA ⟨(by show 5≤sizeLine;decide),fun l hl=> ?_⟩)))))))))))))))
 refine aI (ai rfl (ag ⟨(by show(0:Int) <5;decide), ?_⟩))
 have m5:=cH c 5 (by decide)
 obtain⟨v,hv,ev⟩:=pick (its:=[.int 0, .int 1, .int 2, .int 3, .int 6]) (j:=c % 5) m5.1 m5.2
 have rQ: ∃n:Int,v= .int n∧0≤n∧n≤6:=by
  simp only[List.mem_cons,List.not_mem_nil,or_false] at hv
  rcases hv with rfl | rfl | rfl | rfl | rfl
  ·exact⟨_,rfl,by decide,by decide⟩
  ·exact⟨_,rfl,by decide,by decide⟩
  ·exact⟨_,rfl,by decide,by decide⟩
  ·exact⟨_,rfl,by decide,by decide⟩
  ·exact⟨_,rfl,by decide,by decide⟩
 obtain⟨n,rfl,n0,n6⟩:=rQ
 refine bP az ev ⟨n,rfl,by omega,by omega, ?_⟩
 have sl:=sameNew (o:= .lst [.int 0, .int 1, .int 2, .int 3, .int 6]) hl
 refine HR (lo:=0) (n:=n.toNat) (fun i σ H2=> ∃(x:Str) (u3 u4 u5:Option V),σ=[some (.int c),some (.str SG),some (.str x),u3,u4,u5]∧bD x=true∧x.length=i∧ay H H2) ⟨_,none,none,none,rfl,(by decide+kernel),rfl,sl⟩ ?_ ?_
 ·rintro i σ H2 hi ⟨x,u3,u4,u5,rfl,hx,lx,s⟩
  show aw _ _ _ [some (.int c),some (.str SG),some (.str x),some (.int (0+i)),u4,u5] H2
  refine a_ (bu fQ rfl (aj (ai rfl (aj (aI (ag (ai rfl (fU (aA ⟨_,_,rfl, ?_⟩)))))))))
  generalize mixed c (60+ (0+ (i:Int)))=m
  obtain⟨d,ed,hd⟩:=Ud (j:=m / 8 % 95) (cH _ 95 (by decide)).1 (cH _ 95 (by decide)).2
  refine a_ (aV (ai rfl (aI (aI (ai rfl (ag ⟨⟨by decide,by decide⟩,ag ⟨(by show(0:Int) <95;decide), .inr (.inr (.inl ⟨SG,_,d,rfl,rfl,(by decide+kernel),ed, ?_⟩))⟩⟩))))))
  refine a_ (aI (ai rfl (aV (bC (aj (ag (aj (ag (aj (ag (aj (ag (aj (ag (aj (ai rfl (aj (ai rfl (aj (ag (aA ⟨(by show 8≤sizeLine;decide),fun p hp=> ?_⟩)))))))))))))))))))))
  refine aI (ai rfl (ag ⟨(by show(0:Int) <8;decide), ?_⟩))
  obtain⟨w,hw,ew⟩:=kJ (ws:=["\"","\\","\n","n"," ",⟨#[d]⟩,⟨#[d]⟩,"a"]) (j:=m % 8) (cH m 8 (by decide)).1 (cH m 8 (by decide)).2
  have Uh:bD w=true∧w.length=1:=by
   have h1:bD (⟨#[d]⟩:Str)=true:=by
    show([d].all fun c=>SG.cps.contains c)=true
    simp only[List.all_cons,List.all_nil,Bool.and_true];exact hd
   have hc: ∀w∈ (["\"","\\","\n","n"," ","a"]:List Str),bD w=true∧w.length=1:=by decide+kernel
   simp only[List.mem_cons,List.not_mem_nil,or_false] at hw
   rcases hw with rfl | rfl | rfl | rfl | rfl | rfl | rfl | rfl
   ·exact hc _ (by simp)
   ·exact hc _ (by simp)
   ·exact hc _ (by simp)
   ·exact hc _ (by simp)
   ·exact hc _ (by simp)
   ·exact⟨h1,rfl⟩
   ·exact⟨h1,rfl⟩
   ·exact hc _ (by simp)
  refine bP az ew ⟨cw (by omega), ?_⟩
  exact⟨x++w,_,_,_,rfl,Ue hx Uh.1,by rw[qB];omega,s.trans (sameNew hp)⟩
 ·rintro σ H2 ⟨x,u3,u4,u5,rfl,hx,lx,s⟩
  exact aG (ai rfl (q x H2 hx (by omega) s))
def FE:Dd→Prop
 | .enter x=>x.length≤6
 | .bN xs=> ∀x∈xs,x.length≤6
 | _=>True
def rR:Sp:=fun vs H Q E=> ∃c,vs=[.int c]∧ ∀a d H',ay H H'→ff H' a d→dy d→FE d→Q (.ref a) H'
theorem Ui(vs:List V)(H:Hp)(h:rR vs H Q E):aw (aU K [("_law_mixed",fQ),("_law_note_text",mM)] [] (E:=E)) cx (Dn Q) (start eF vs) H:=by
 obtain⟨c,rfl,q⟩:=h
 refine a_ (bu fQ rfl (aj (ai rfl (aj (ag (aA ⟨_,_,rfl, ?_⟩))))))
 generalize mixed c 4=m
 refine a_ (bC (aj (ag (aj (ag (aj (ag (aj (ag (aj (ag (aj (ag (aj (ag (aj (ag (aj (ag (aj (ag (aA ⟨(by show 10≤sizeLine;decide),fun l hl=> ?_⟩))))))))))))))))))))))
 have s1:=sameNew (o:= .lst (sL.map V.str)) hl
 have my:upd H l (.lst (sL.map V.str)) l=some (.lst (sL.map V.str)):=az
 show aw _ _ _ _ (upd H l (.lst (sL.map V.str)))
 generalize upd H l (.lst (sL.map V.str))=H1 at s1 my⊢
 have p1:=cH m 10 (by decide)
 have p2:=cH m 100000 (by decide)
 have p3:=cH m 3 (by decide)
 refine a_ (aV (bC (aj (aI (ai rfl (ag ⟨(by show(0:Int) <10;decide),aj (aI (ai rfl (ag ⟨(by show(0:Int) <100000;decide),aj (aI (aI (aI (ag (ag ⟨⟨by decide,by decide,by decide⟩,ag (FD (aI (ai rfl (ag ⟨(by show(0:Int) <3;decide),FD (aj (ag (aA ⟨(by show 4≤sizeLine;decide),fun l2 gi=> ?_⟩)))⟩))))⟩)))))⟩)))⟩))))))
 refine aI (aI (ai rfl (ag ⟨⟨by decide,by decide⟩,ag ⟨(by show(0:Int) <4;decide), ?_⟩⟩)))
 obtain⟨v,hv,ev⟩:=pick (its:=[.int (m % 10), .int (m % 100000), .int ((10:Int) ^ (9:Int).toNat - 1 - m % 3), .int 0]) (j:=m / 7 % 4) (cH _ 4 (by decide)).1 (cH _ 4 (by decide)).2
 have e9:(10:Int) ^ (9:Int).toNat=1000000000:=by decide
 have rQ: ∃n:Nat,v= .int n∧n≤999999999:=by
  simp only[List.mem_cons,List.not_mem_nil,or_false] at hv
  rcases hv with rfl | rfl | rfl | rfl
  ·exact⟨(m % 10).toNat,by rw[Int.toNat_of_nonneg p1.1],by omega⟩
  ·exact⟨(m % 100000).toNat,by rw[Int.toNat_of_nonneg p2.1],by omega⟩
  ·exact⟨((10:Int) ^ (9:Int).toNat - 1 - m % 3).toNat,by rw[Int.toNat_of_nonneg (by rw[e9];omega)],by rw[e9];omega⟩
  ·exact⟨0,rfl,by decide⟩
 obtain⟨n,rfl,hn⟩:=rQ
 refine bP az ev ?_
 have s2:=s1.trans (sameNew (o:= .lst [.int (m % 10), .int (m % 100000), .int ((10:Int) ^ (9:Int).toNat - 1 - m % 3), .int 0]) gi)
 have FF:=sameNew (o:= .lst [.int (m % 10), .int (m % 100000), .int ((10:Int) ^ (9:Int).toNat - 1 - m % 3), .int 0]) gi _ _ my
 generalize upd H1 l2 (.lst [.int (m % 10), .int (m % 100000), .int ((10:Int) ^ (9:Int).toNat - 1 - m % 3), .int 0])=H2 at s2 FF⊢
 refine a_ (bC (aj (ag (aj (ag (aj (ag (aj (ag (aj (ag (aj (ag (aj (ag (aj (ag (aj (ag (aj (ag (aj (ag (aj (ag (aA ⟨(by show 12≤sizeLine;decide),fun l3 vF=> ?_⟩))))))))))))))))))))))))))
 obtain⟨w,hw,ew⟩:=kJ (ws:=["enter","paste","erase","step","spread","only","mark","span","undo","redo","go","enter"]) (j:=c % 12) (cH c 12 (by decide)).1 (cH c 12 (by decide)).2
 have s3:=s2.trans (sameNew (o:= .lst ((["enter","paste","erase","step","spread","only","mark","span","undo","redo","go","enter"]:List Str).map V.str)) vF)
 have FH:=sameNew (o:= .lst ((["enter","paste","erase","step","spread","only","mark","span","undo","redo","go","enter"]:List Str).map V.str)) vF _ _ FF
 refine a_ (aV (ai rfl (aI (ai rfl (ag ⟨(by show(0:Int) <12;decide),bP az ew ?_⟩)))))
 show aw _ _ _ _ (upd H2 l3 (.lst ((["enter","paste","erase","step","spread","only","mark","span","undo","redo","go","enter"]:List Str).map V.str)))
 generalize upd H2 l3 (.lst ((["enter","paste","erase","step","spread","only","mark","span","undo","redo","go","enter"]:List Str).map V.str))=H3 at s3 FH⊢
 show aw (aU K [("_law_mixed",fQ),("_law_note_text",mM)] [] (E:=E)) (cx.drop 5) (Dn Q) [some (.int c),some (.int m),some (.ref l),some (.int n),some (.ref l3),some (.str w)] H3
 have Uj:w="enter"∨w="paste"∨w="erase"∨w="step"∨w="mark"∨w="span"∨(w="spread"∨w="go")∨(w="only"∨w="undo"∨w="redo"):=by
  simp only[List.mem_cons,List.not_mem_nil,or_false] at hw
  rcases hw with rfl | rfl | rfl | rfl | rfl | rfl | rfl | rfl | rfl | rfl | rfl | rfl<;>simp
 rcases Uj with rfl | rfl | rfl | rfl | rfl | rfl | rS | rS
 ·exact dP rfl (by decide+kernel) (aG (cu (aj (ai rfl (aj (bu mM rfl (aj (ai rfl (aA ⟨_,rfl,fun x H4 gx lx s4=>aA ⟨cf,fun a ha=>q a (.enter x) _ (s3.trans (s4.trans (sameNew ha))) az ⟨gx,by omega⟩ lx⟩⟩)))))))))
 ·refine aX rfl (by decide+kernel) (dP rfl (by decide+kernel) (aG (cu (aj (ai rfl (aj (vn (Ub (aV (bC (aj (ag (aj (ag (aj (ag (aj (ag (aA ⟨(by show 4≤sizeLine;decide),fun l4 mO=> ?_⟩)))))))))))))))))))
  refine aI (aI (ai rfl (ag ⟨⟨by decide,by decide⟩,ag ⟨(by show(0:Int) <4;decide), ?_⟩⟩)))
  obtain⟨v,hv,ev⟩:=pick (its:=[.int 1, .int 2, .int 3, .int 40]) (j:=m / 5 % 4) (cH _ 4 (by decide)).1 (cH _ 4 (by decide)).2
  have rQ: ∃k:Int,v= .int k∧1≤k∧k≤40:=by
   simp only[List.mem_cons,List.not_mem_nil,or_false] at hv
   rcases hv with rfl | rfl | rfl | rfl
   ·exact⟨_,rfl,by decide,by decide⟩
   ·exact⟨_,rfl,by decide,by decide⟩
   ·exact⟨_,rfl,by decide,by decide⟩
   ·exact⟨_,rfl,by decide,by decide⟩
  obtain⟨k,rfl,k1,k40⟩:=rQ
  refine bP az ev ⟨k,rfl,by omega,by omega, ?_⟩
  have s4:=s3.trans (sameNew (o:= .lst [.int 1, .int 2, .int 3, .int 40]) mO)
  refine Ow (by omega) (fun i ys _=> ∃xs:List Str,ys=xs.map V.str∧xs.length=i∧ ∀x∈xs,bD x=true∧x.length≤6) ⟨[],rfl,rfl,fun x hx=>by cases hx⟩ ?_ ?_
  ·rintro i ys H5 hi s ⟨xs,rfl,hl,hx⟩ Q' kk
   refine bu mM rfl (aj (aI (ai rfl (aI (ag (ai rfl ⟨.inl ⟨by decide,by decide⟩,fU (aA ⟨_,rfl,fun y H6 gy ly s6=>kk _ _ s6 ⟨xs++ [y],by rw[List.map_append];rfl,by simp[hl],fun z hz=> ?_⟩⟩)⟩))))))
   rcases List.mem_append.mp hz with z' | z'
   ·exact hx z z'
   ·rw[List.mem_singleton.mp z'];exact⟨gy,ly⟩
  ·rintro ys H5 p s ⟨xs,rfl,hl,hx⟩ hp
   refine⟨_, .inl ⟨aC.of az,fun t ht=>aA ⟨cf,fun a ha=> ?_⟩⟩⟩
   exact q a (.bN xs) _ (s4.trans (s.trans ((sameNew hp).trans ((sameNew ht).trans (sameNew ha))))) ⟨t,az,sameNew ha _ _ az⟩ ⟨by omega,by omega,fun x h=> ⟨(hx x h).1,by have:=(hx x h).2;omega⟩⟩ fun x h=> (hx x h).2
 ·refine aX rfl (by decide+kernel) (aX rfl (by decide+kernel) (dP rfl (by decide+kernel) (aG (cu (aj (ai rfl (aj (aV (bC (aj (ag (aj (ag (aj (ag (aj (ag (aj (ag (aj (ag (aA ⟨(by show 6≤sizeLine;decide),fun l4 mO=> ?_⟩))))))))))))))))))))))
  obtain⟨x,hx,e⟩:=kJ (ws:=eW) (j:=m % 6) (cH m 6 (by decide)).1 (cH m 6 (by decide)).2
  refine aI (ai rfl (ag ⟨(by show(0:Int) <6;decide),bP az e (aA ⟨cf,fun a ha=> ?_⟩)⟩))
  exact q a (.word "erase" x) _ (s3.trans ((sameNew mO).trans (sameNew ha))) az (.inl ⟨rfl,hx⟩) trivial
 ·obtain⟨x,hx,e⟩:=kJ (ws:=sL) (j:=m % 10) p1.1 p1.2
  refine aX rfl (by decide+kernel) (aX rfl (by decide+kernel) (aX rfl (by decide+kernel) (dP rfl (by decide+kernel) (aG (cu (aj (ai rfl (aj (aV (ai rfl (aI (ai rfl (ag ⟨(by show(0:Int) <10;decide),bP FH e ?_⟩)))))))))))))
  refine aj (cM (aI (aI (ai rfl (ag ⟨⟨by decide,by decide⟩,ag ⟨(by show(0:Int) <2;decide),ag (fq (aA ⟨mm,fun a ha=> ?_⟩))⟩⟩)))))
  exact q a (.step x _) _ (s3.trans (sameNew ha)) az (zh.mp hx) trivial
 ·refine aX rfl (by decide+kernel) (aX rfl (by decide+kernel) (aX rfl (by decide+kernel) (aX rfl (by decide+kernel) (dP rfl (by decide+kernel) (aG (cu (aj (ai rfl (aj (aV (bC (aj (ag (aj (ag (aA ⟨cf,fun l4 mO=> ?_⟩))))))))))))))))
  obtain⟨x,hx,e⟩:=kJ (ws:=mW) (j:=m % 2) (cH m 2 (by decide)).1 (cH m 2 (by decide)).2
  refine aI (ai rfl (ag ⟨(by show(0:Int) <2;decide),bP az e (aA ⟨cf,fun a ha=> ?_⟩)⟩))
  exact q a (.word "mark" x) _ (s3.trans ((sameNew mO).trans (sameNew ha))) az (.inr ⟨rfl,hx⟩) trivial
 ·refine aX rfl (by decide+kernel) (aX rfl (by decide+kernel) (aX rfl (by decide+kernel) (aX rfl (by decide+kernel) (aX rfl (by decide+kernel) (dP rfl (by decide+kernel) (aG (cu (aj (ai rfl (aj (cM (aI (ai rfl (ag ⟨(by show(0:Int) <2;decide),ag (fq (aA ⟨cf,fun a ha=> ?_⟩))⟩))))))))))))))
  exact q a (.span _) _ (s3.trans (sameNew ha)) az trivial trivial
 ·have nn:(w=="enter")=false∧(w=="paste")=false∧(w=="erase")=false∧(w=="step")=false∧(w=="mark")=false∧(w=="span")=false∧bB (.str w) [.str "spread", .str "go"]=true:=by
   rcases rS with rfl | rfl<;>exact⟨(by decide+kernel),(by decide+kernel),(by decide+kernel),(by decide+kernel),(by decide+kernel),(by decide+kernel),(by decide+kernel)⟩
  exact aX rfl nn.1 (aX rfl nn.2.1 (aX rfl nn.2.2.1 (aX rfl nn.2.2.2.1 (aX rfl nn.2.2.2.2.1 (aX rfl nn.2.2.2.2.2.1 (iP rfl nn.2.2.2.2.2.2 fun H4 s4=>aG (cu (aj (ai rfl (aj (ai rfl (aA ⟨cf,fun a ha=>q a (.num w n) _ (s3.trans (s4.trans (sameNew ha))) az ⟨rS,hn⟩ trivial⟩))))))))))))
 ·have nn:(w=="enter")=false∧(w=="paste")=false∧(w=="erase")=false∧(w=="step")=false∧(w=="mark")=false∧(w=="span")=false∧bB (.str w) [.str "spread", .str "go"]=false:=by
   rcases rS with rfl | rfl | rfl<;>exact⟨(by decide+kernel),(by decide+kernel),(by decide+kernel),(by decide+kernel),(by decide+kernel),(by decide+kernel),(by decide+kernel)⟩
  exact aX rfl nn.1 (aX rfl nn.2.1 (aX rfl nn.2.2.1 (aX rfl nn.2.2.2.1 (aX rfl nn.2.2.2.2.1 (aX rfl nn.2.2.2.2.2.1 (jx rfl nn.2.2.2.2.2.2 fun H4 s4=>aG (cu (aj (ai rfl (aA ⟨gE,fun a ha=>q a (.bare w) _ (s3.trans (s4.trans (sameNew ha))) az rS trivial⟩))))))))))
end
structure Gd (n:Nat) (x:Str):Prop where
 len:x.length≤n
 low:low x
theorem Gd.app{n m:Nat}{x y:Str}(hx:Gd n x)(hy:Gd m y):Gd (n+m) (x++y):=by
 refine⟨by rw[qB];have:=hx.len;have:=hy.len;omega,fun c hc=> ?_⟩
 rw[show sg (x++y)=sg x++sg y from app_list _ _] at hc
 rcases List.mem_append.mp hc with h | h
 ·exact hx.low c h
 ·exact hy.low c h
theorem Gd.cut{n:Nat}{z:Str}(h:Gd n z)(lo hi:Option Int):Gd n (lL z lo hi):=by
 have e:sg (lL z lo hi)=jk (sg z) lo hi:=e_ _
 have sub:(jk (sg z) lo hi).Sublist (sg z):=(List.take_sublist _ _).trans (List.drop_sublist _ _)
 refine⟨?_,fun c hc=>h.low c (sub.subset (by rw[e] at hc;exact hc))⟩
 have:=sub.length_le
 rw[len_list]
 show(sg (lL z lo hi)).length≤n
 rw[e]
 have h1:=h.len
 rw[len_list z] at h1
 exact Nat.le_trans this h1
theorem Gd.mono{n m:Nat}{x:Str}(h:Gd n x)(k:n≤m):Gd m x:=⟨Nat.le_trans h.len k,h.low⟩
def FI(x:Str):Bool:=(sg x).all fun c=>decide (c<1114112)
theorem gM{x:Str}(h:FI x=true):low x:=fun c hc=>of_decide_eq_true (List.all_eq_true.mp h c hc)
theorem mP{n:Nat}{ws:List Str}(h:(ws.all fun w=>decide (w.length≤n) && FI w)=true){w:Str}(hw:w∈ws):Gd n w:=by
 have:=List.all_eq_true.mp h w hw
 simp only[Bool.and_eq_true,decide_eq_true_eq] at this
 exact⟨this.1,gM this.2⟩
def ST:Str:=" !\"#$&'()*+,-./0123456789:;<=>?@ABCDEFGHIJKLMNOPQRSTUVWXYZ[\\]^_`abcdefghijklmnopqrstuvwxyz{|}~\n\t"
theorem Uk{j:Int}(h0:0≤j)(h1:j<96): ∃c,cQ ST.cps.toList j=some c∧c<1114112:=by
 have hl:j.toNat<ST.cps.toList.length:=by rw[show ST.cps.toList.length=96 by decide+kernel];omega
 have all:ST.cps.toList.all (fun c=>decide (c<1114112))=true:=by decide+kernel
 refine⟨ST.cps.toList[j.toNat], ?_,of_decide_eq_true (List.all_eq_true.mp all _ (List.getElem_mem hl))⟩
 have:=lq (xs:=ST.cps.toList) (j:=j.toNat) (List.getElem?_eq_getElem hl)
 rwa [Int.toNat_of_nonneg h0] at this
def ph:Sp:=fun vs H Q E=> ∃m,vs=[.int m]∧ ∀y H',Gd 1 y→ay H H'→Q (.str y) H'
def rT:Sp:=fun vs H Q E=> ∃m,vs=[.int m]∧ ∀y H',Gd 100 y→ay H H'→Q (.str y) H'
section
variable {K:Frag} {Q:VK} {E:XK}
def kK:List Str:=["\"","\\"," ","n","\n","\t","0","1","\"","\\"," "]
theorem Ul(vs:List V)(H:Hp)(h:ph vs H Q E):aw (aU K [] [] (E:=E)) gJ (Dn Q) (start mH vs) H:=by
 obtain⟨m,rfl,q⟩:=h
 refine a_ (ag (a_ (aI (ai rfl (ag ⟨(by decide+kernel), ?_⟩)))))
 rw[show(Str.ofString " !\"#$&'()*+,-./0123456789:;<=>?@ABCDEFGHIJKLMNOPQRSTUVWXYZ[\\]^_`"++Str.ofString "abcdefghijklmnopqrstuvwxyz{|}~\n\t":Str)=ST by decide+kernel]
 refine a_ (bC (aj (ag (aj (ag (aj (ag (aj (ag (aj (ag (aj (ag (aj (ag (aj (ag (aj (ag (aj (ag (aj (ag (aA ⟨(by show 11≤sizeLine;decide),fun l hl=> ?_⟩))))))))))))))))))))))))
 have s1:=sameNew (o:= .lst (kK.map V.str)) hl
 have my:upd H l (.lst (kK.map V.str)) l=some (.lst (kK.map V.str)):=az
 show aw _ _ _ _ (upd H l (.lst (kK.map V.str)))
 generalize upd H l (.lst (kK.map V.str))=H1 at s1 my⊢
 obtain⟨c,ec,hc⟩:=Uk (j:=m / 13 % 96) (cH _ 96 (by decide)).1 (cH _ 96 (by decide)).2
 refine aG (aV (aI (ai rfl (aI (bC (aj (aV (ai rfl (aI (aI (ai rfl (ag ⟨⟨by decide,by decide⟩,ag ⟨(by show(0:Int) <96;decide), .inr (.inr (.inl ⟨ST,_,c,rfl,rfl,(by decide+kernel),ec,aA ⟨gE,fun l2 gi=>ag ?_⟩⟩))⟩⟩))))))))))))
 have s2:=sameNew (o:= .lst [.str ⟨#[c]⟩]) gi
 refine⟨l2,2,[.str ⟨#[c]⟩],rfl,rfl,az,by decide,by decide,Nat.le_of_ble_eq_true rfl,fun l3 vF=> ?_⟩
 have s3:=sameNew (o:= .lst (List.replicate (2:Int).toNat [V.str ⟨#[c]⟩]).flatten) vF
 have mO:=s3 _ _ (s2 _ _ my)
 refine .inl ⟨l,l3,kK.map V.str,[V.str ⟨#[c]⟩,V.str ⟨#[c]⟩],rfl,rfl,mO,az,(by show 13≤sizeLine;decide),fun p hp=> ?_⟩
 refine aI (ai rfl (ag ⟨(by show(0:Int) <13;decide), ?_⟩))
 obtain⟨w,hw,ew⟩:=kJ (ws:=kK++ [(⟨#[c]⟩:Str),(⟨#[c]⟩:Str)]) (j:=m % 13) (cH m 13 (by decide)).1 (show m % 13< ((13:Nat):Int) from(cH m 13 (by decide)).2)
 have gw:Gd 1 w:=by
  rcases List.mem_append.mp hw with h | h
  ·exact mP (ws:=kK) (by decide+kernel) h
  ·have:w=⟨#[c]⟩:=by simpa using h
   rw[this]
   exact⟨Nat.le_refl _,fun k hk=>by rw[List.mem_singleton.mp hk];exact hc⟩
 rw[List.map_append] at ew
 exact bP az ew (q w _ gw (s1.trans (s2.trans (s3.trans (sameNew hp)))))
def dg:List Str:=[""," ","enter","enter ","enter a","paste","paste ","enter \"","enter \"\\\"","enter \"a\"\"b\""]
def dr:List Str:=["only ","Only","undo undo","step","hold up down","span","span True","go -1"]
def eJ:List Str:=["go 1.0","go +1"]
def mQ:List Str:=["\"enter\" \"a\"","erase up","mark \"left\"","spread 1234567890"]
theorem Um(vs:List V)(H:Hp)(h:rT vs H Q E):aw (aU K [] [] (E:=E)) fE (Dn Q) (start kD vs) H:=by
 obtain⟨m,rfl,q⟩:=h
 refine a_ (bC (aj (ag (aj (ag (aj (ag (aj (ag (aj (ag (aj (ag (aj (ag (aj (ag (aj (ag (aj (ag (aA ⟨(by show 10≤sizeLine;decide),fun a ha=> ?_⟩))))))))))))))))))))))
 have sa:=sameNew (o:= .lst (dg.map V.str)) ha
 have FJ:upd H a (.lst (dg.map V.str)) a=some (.lst (dg.map V.str)):=az
 show aw _ _ _ _ (upd H a (.lst (dg.map V.str)))
 generalize upd H a (.lst (dg.map V.str))=H1 at sa FJ⊢
 refine a_ (aI (ai rfl (bC (aj (ag (aj (ag (aj (ag (aj (ag (aj (ag (aj (ag (aj (ag (aj (ag (aA ⟨(by show 8≤sizeLine;decide),fun b hb=> ?_⟩))))))))))))))))))))
 have sb:=sameNew (o:= .lst (dr.map V.str)) hb
 refine .inl ⟨a,b,dg.map V.str,dr.map V.str,rfl,rfl,sb _ _ FJ,az,(by show 18≤sizeLine;decide),fun p hp=> ?_⟩
 have sp:=sa.trans (sb.trans (sameNew (o:= .lst (dg.map V.str++dr.map V.str)) hp))
 show aw _ _ _ _ (upd (upd H1 b (.lst (dr.map V.str))) p (.lst (dg.map V.str++dr.map V.str)))
 have FK:(upd (upd H1 b (.lst (dr.map V.str))) p (.lst (dg.map V.str++dr.map V.str))) p=some (.lst (dg.map V.str++dr.map V.str)):=az
 generalize upd (upd H1 b (.lst (dr.map V.str))) p (.lst (dg.map V.str++dr.map V.str))=H2 at sp FK⊢
 refine a_ (aI (ai rfl (bC (aj (ag (aj (ag (aA ⟨cf,fun c hc=> ?_⟩))))))))
 have sc:=sameNew (o:= .lst (eJ.map V.str)) hc
 refine .inl ⟨p,c,dg.map V.str++dr.map V.str,eJ.map V.str,rfl,rfl,sc _ _ FK,az,(by show 20≤sizeLine;decide),fun p2 q0=> ?_⟩
 have FL:=sp.trans (sc.trans (sameNew (o:= .lst (dg.map V.str++dr.map V.str++eJ.map V.str)) q0))
 show aw _ _ _ _ (upd (upd H2 c (.lst (eJ.map V.str))) p2 (.lst (dg.map V.str++dr.map V.str++eJ.map V.str)))
 have jB:(upd (upd H2 c (.lst (eJ.map V.str))) p2 (.lst (dg.map V.str++dr.map V.str++eJ.map V.str))) p2=some (.lst (dg.map V.str++dr.map V.str++eJ.map V.str)):=az
 generalize upd (upd H2 c (.lst (eJ.map V.str))) p2 (.lst (dg.map V.str++dr.map V.str++eJ.map V.str))=H3 at FL jB⊢
 refine a_ (aI (ai rfl (bC (aj (ag (aj (ag (aj (ag (aj (ag (aA ⟨(by show 4≤sizeLine;decide),fun d hd=> ?_⟩))))))))))))
 have sd:=sameNew (o:= .lst (mQ.map V.str)) hd
 refine .inl ⟨p2,d,dg.map V.str++dr.map V.str++eJ.map V.str,mQ.map V.str,rfl,rfl,sd _ _ jB,az,(by show 24≤sizeLine;decide),fun p4 zv=> ?_⟩
 have Uo:=FL.trans (sd.trans (sameNew (o:= .lst (dg.map V.str++dr.map V.str++eJ.map V.str++mQ.map V.str)) zv))
 obtain⟨w,hw,ew⟩:=kJ (ws:=dg++dr++eJ++mQ) (j:=m % 24) (cH m 24 (by decide)).1 (cH m 24 (by decide)).2
 rw[List.map_append,List.map_append,List.map_append] at ew
 exact aG (aV (ai rfl (aI (ai rfl (ag ⟨(by show(0:Int) <24;decide),bP az ew (q w _ (mP (ws:=dg++dr++eJ++mQ) (by decide+kernel) hw) Uo)⟩)))))
end
theorem Up(z:Str):sep ((Txt.split z " ").map sg)=sg z:=by
 have h:=StrLaws.join_split (x:=z) (y:=⟨#[32]⟩)
 have e:(" ":Str)=(⟨#[32]⟩:Str):=by decide+kernel
 have h2:Txt.join " " (Txt.split z " ")=z:=by
  rw[show Txt.join " " (Txt.split z " ")=Str.join " " (Txt.split z " ") from StrLaws.glued_eq_join _ _,e];exact h
 rw[←uJ,h2]
theorem FN: ∀l:List Str,sz l≤ (sep (l.map sg)).length
 | []=>Nat.zero_le _
 | [x]=>by show x.length+0≤ (sg x).length;rw[len_list];exact Nat.le_refl _
 | x::y::r=>by
  have ih:=FN (y::r)
  show x.length+sz (y::r)≤ (sg x++32::sep ((y::r).map sg)).length
  rw[List.length_append,List.length_cons,len_list x]
  show(sg x).length+_≤_
  omega
theorem rV{ts:List Str}{n:Nat}(h: ∀t∈ts,low t)(hn:sz ts+ts.length≤n):Gd n (Txt.join " " ts):=by
 have e:=uJ ts
 have hl:=yc (ts.map sg)
 have e2:((ts.map sg).map List.length).sum=sz ts:=by
  unfold B.sz
  rw[List.map_map]
  congr 1
 refine⟨?_,fun c hc=> ?_⟩
 ·rw[len_list]
  show(sg (Txt.join " " ts)).length≤n
  rw[e]
  rw[e2,List.length_map] at hl
  omega
 ·rw[e] at hc
  have mem: ∀l:List (List Nat),c∈sep l→c=32∨ ∃a∈l,c∈a:=by
   intro l
   induction l with
   | nil=>intro h;cases h
   | cons a l ih=>
    cases l with
    | nil=>intro h;exact .inr ⟨a,by simp,h⟩
    | cons b l=>
     intro h
     rcases List.mem_append.mp (show c∈a++32::sep (b::l) from h) with h | h
     ·exact .inr ⟨a,by simp,h⟩
     ·rcases List.mem_cons.mp h with h | h
      ·exact .inl h
      ·rcases ih h with h | ⟨d,hd,h⟩
       ·exact .inl h
       ·exact .inr ⟨d,List.mem_cons_of_mem _ hd,h⟩
  rcases mem _ hc with h1 | ⟨a,ha,h1⟩
  ·rw[h1];decide
  ·obtain⟨t,ht,rfl⟩:=List.mem_map.mp ha
   exact h t ht c h1
theorem zx(a b:List Str):sz (a++b)=sz a+sz b:=by unfold B.sz;rw[List.map_append,List.sum_append]
theorem rW{a b:List Str}(h:a.Sublist b):sz a≤sz b:=by
 induction h with
 | slnil=>exact Nat.le_refl _
 | @cons l1 l2 x _ ih=>have e:sz (x::l2)=x.length+sz l2:=rfl;omega
 | @cons_cons l1 l2 x _ ih=>have e:sz (x::l2)=x.length+sz l2:=rfl;have e':sz (x::l1)=x.length+sz l1:=rfl;omega
theorem zy(ws:List Str)(lo hi:Option Int): ∃us:List Str,fN (ws.map V.str) lo hi=us.map V.str∧us.Sublist ws:=by
 refine⟨(ws.drop (HT.aP ws.length 0 lo)).take (HT.aP ws.length ws.length hi - HT.aP ws.length 0 lo), ?_,(List.take_sublist _ _).trans (List.drop_sublist _ _)⟩
 unfold fN
 rw[List.length_map,List.map_take,List.map_drop]
theorem rX{x:Str}(h:bD x=true):low x:=by
 have all:SG.cps.toList.all (fun c=>decide (c<1114112))=true:=by decide+kernel
 intro c hc
 have hm:SG.cps.contains c=true:=List.all_eq_true.mp h c hc
 exact of_decide_eq_true (List.all_eq_true.mp all c (by simpa using hm))
def vG:Dd→PyData
 | .bare w=> .tuple [.str w]
 | .word w x=> .tuple [.str w, .str x]
 | .num w n=> .tuple [.str w, .int n]
 | .enter x=> .tuple [.str "enter", .str x]
 | .bN xs=> .tuple [.str "paste", .tuple (xs.map PyData.str)]
 | .step x b=> .tuple [.str "step", .str x, .bool b]
 | .span b=> .tuple [.str "span", .bool b]
theorem FO{H:Hp}{a:Addr}{d:Dd}(h:ff H a d):Is H (vG d) (.ref a):=by
 cases d with
 | bare w=>exact⟨a,_,rfl,h, .str w,[],rfl,rfl,rfl⟩
 | word w x=>exact⟨a,_,rfl,h, .str w,_,rfl,rfl, .str x,[],rfl,rfl,rfl⟩
 | num w n=>exact⟨a,_,rfl,h, .str w,_,rfl,rfl, .int n,[],rfl,rfl,rfl⟩
 | enter x=>exact⟨a,_,rfl,h, .str "enter",_,rfl,rfl, .str x,[],rfl,rfl,rfl⟩
 | bN xs=>obtain⟨t,h1,h2⟩:=h;exact⟨a,_,rfl,h1, .str "paste",_,rfl,rfl, .ref t,[],rfl,⟨t,_,rfl,h2,mJ H xs⟩,rfl⟩
 | step x b=>exact⟨a,_,rfl,h, .str "step",_,rfl,rfl, .str x,_,rfl,rfl, .bl b,[],rfl,rfl,rfl⟩
 | span b=>exact⟨a,_,rfl,h, .str "span",_,rfl,rfl, .bl b,[],rfl,rfl,rfl⟩
theorem Uq{xs:List Str}(h: ∀x∈xs,low x):(PyData.tuple (xs.map PyData.str)).canLay0=true∧(PyData.tuple (xs.map PyData.str)).depth=1:=by
 obtain⟨c,d⟩:=vz xs h
 exact⟨c,by show PyData.depthAll _+1=1;rw[d]⟩
theorem pj{ds:List PyData}(h:PyData.canLayAll0 ds=true)(d:PyData.depthAll ds≤1):SeqAt.shaped (.tuple ds)=true:=by
 unfold SeqAt.shaped
 rw[show(PyData.tuple ds).canLay0=true from h,decide_eq_true (show(PyData.tuple ds).depth≤64 by show PyData.depthAll _+1≤64;omega)];rfl
theorem zA{d:Dd}(hd:dy d):SeqAt.shaped (vG d)=true:=by
 cases d with
 | bare w=>rcases hd with rfl | rfl | rfl<;>decide+kernel
 | word w x=>
  have hw:PyData.strOk w=true:=by rcases hd with⟨rfl,_⟩ | ⟨rfl,_⟩ <;>decide+kernel
  have hx:PyData.strOk x=true:=by
   rcases hd with⟨_,h⟩ | ⟨_,h⟩
   ·exact(show ∀y∈eW,PyData.strOk y=true by decide+kernel) x h
   ·exact(show ∀y∈mW,PyData.strOk y=true by decide+kernel) x h
  refine pj ?_ (Nat.zero_le _)
  show(PyData.strOk w && (PyData.strOk x && true))=true
  rw[hw,hx];rfl
 | num w n=>
  have hw:PyData.strOk w=true:=by rcases hd.1 with rfl | rfl<;>decide+kernel
  refine pj ?_ (Nat.zero_le _)
  show(PyData.strOk w && (true && true))=true
  rw[hw];rfl
 | enter x=>
  refine pj ?_ (Nat.zero_le _)
  show(PyData.strOk (Str.ofString "enter") && (PyData.strOk x && true))=true
  rw[zi (rX hd.1),show PyData.strOk (Str.ofString "enter")=true by decide+kernel];rfl
 | bN xs=>
  obtain⟨c,dd⟩:=Uq fun x hx=>rX (hd.2.2 x hx).1
  refine pj ?_ ?_
  ·show(PyData.strOk (Str.ofString "paste") && ((PyData.tuple (xs.map PyData.str)).canLay0 && true))=true
   rw[c,show PyData.strOk (Str.ofString "paste")=true by decide+kernel];rfl
  ·show max 0 (max (PyData.tuple (xs.map PyData.str)).depth 0)≤1
   rw[dd];decide
 | step x b=>
  have hx:=(show ∀y∈sW,PyData.strOk y=true by decide+kernel) x hd
  refine pj ?_ (Nat.zero_le _)
  show(PyData.strOk (Str.ofString "step") && (PyData.strOk x && (true && true)))=true
  rw[hx,show PyData.strOk (Str.ofString "step")=true by decide+kernel];rfl
 | span b=>cases b<;>decide+kernel
theorem Ur{K:Frag}{H:Hp}{Q:VK}{a b:Addr}{d:Dd}(ha:ff H a d)(hb:ff H b d)(hd:dy d)(q:Q (.bl false) H):bY K .NotEq (.ref a) (.ref b) H Q:=by
 refine⟨vG d,vG d,FO ha,FO hb,zA hd,zA hd, ?_⟩
 rw[SeqAt.eqv_refl _ (SeqAt.canLay_of_shaped (zA hd))];exact q
def jF(H:Hp)(v w:V):Prop:=(∃x,v= .str x∧w= .str x)∨(∃n,v= .int n∧w= .int n)∨(∃b,v= .bl b∧w= .bl b)∨ ∃(a b:Addr) (xs:List Str),v= .ref a∧w= .ref b∧H a=some (.tup (xs.map V.str))∧H b=some (.tup (xs.map V.str))∧xs.length≤10000∧ ∀x∈xs,low x
theorem jF.same{H H':Hp}{v w:V}(h:jF H v w)(s:ay H H'):jF H' v w:=by
 rcases h with h | h | h | ⟨a,b,xs,e1,e2,h1,h2,h3⟩
 ·exact .inl h
 ·exact .inr (.inl h)
 ·exact .inr (.inr (.inl h))
 ·exact .inr (.inr (.inr ⟨a,b,xs,e1,e2,s _ _ h1,s _ _ h2,h3⟩))
def pk:Sp:=fun vs H Q E=> ∃v w,vs=[v,w]∧jF H v w∧ ∀H',ay H H'→Q (.bl true) H'
section
variable {K:Frag} {Q:VK} {E:XK}
theorem fG{Γ:aL}{σ:St}{H:Hp}{T:Ty}{a:RE}(h:af Γ a σ H fun x H1=>bx T x H1 fun b=>Q (.bl b) H1):af Γ (.cT T a) σ H Q:=by
 have e: ∀(q:VK),(fun(x:V) (H1:Hp)=>bx T x H1 fun b=>q (.bl b) H1)=fun x H1=>gY T [x, .ty T.nm] H1 q:=by
  intro q;funext x H1;simp[gY]
 show af Γ a σ H fun x H1=>gY T [x, .ty T.nm] H1 Q
 rw[←e];exact h
theorem Us(vs:List V)(H:Hp)(h:pk vs H Q E):aw (aU K [] [] (E:=E)) y8 (Dn Q) (start rC vs) H:=by
 obtain⟨v,w,rfl,h,q⟩:=h
 rcases h with⟨x,rfl,rfl⟩ | ⟨n,rfl,rfl⟩ | ⟨b,rfl,rfl⟩ | ⟨a,b,xs,rfl,rfl,h1,h2,hl,hx⟩
 ·refine bb (iO (ai rfl (kc (iF (bK ?_)))))
  refine bb (eE (bg (fG (ai rfl (kc (fG (ai rfl (kc (mK ⟨_,rfl,iF ?_⟩)))))))))
  refine gC (bg (fG (ai rfl (kc (fG (ai rfl (kc (mK ⟨_,rfl,iF (bK ?_)⟩))))))))
  refine aG (cM (ai rfl (ai rfl (cA ?_))))
  rw[show(x==x)=true by simp];exact q _ (ay.refl _)
 ·refine bb (iO (ai rfl (qH (iF (bK ?_)))))
  refine bb (eE (bg (fG (ai rfl (qH (fG (ai rfl (qH (mK ⟨_,rfl,iF ?_⟩)))))))))
  refine gC (bg (fG (ai rfl (qH (fG (ai rfl (qH (mK ⟨_,rfl,iF (bK ?_)⟩))))))))
  refine aG (cM (ai rfl (ai rfl (fq ?_))))
  rw[decide_eq_true rfl];exact q _ (ay.refl _)
 ·refine bb (iO (ai rfl (qI (iF (bK ?_)))))
  refine bb (eE (bg (fG (ai rfl (qI (fG (ai rfl (qI (mK ⟨_,rfl,iF ?_⟩)))))))))
  refine gC (bg (fG (ai rfl (qI (fG (ai rfl (qI (mK ⟨_,rfl,iF (bK ?_)⟩))))))))
  refine aG (cM (ai rfl (ai rfl ?_)))
  have:=q _ (ay.refl _)
  cases b<;>exact this
 ·refine bb (iO (ai rfl (qG h2 (iT ?_))))
  have sh:SeqAt.shaped (.tuple (xs.map PyData.str))=true:=by
   obtain⟨c,d⟩:=vz xs hx
   exact pj c (by rw[d];decide)
  refine aG (D4 (fG (ai rfl (qG h1 ⟨_,rfl,iT (kd (cM (ai rfl (ai rfl ⟨.tuple (xs.map PyData.str), .tuple (xs.map PyData.str),⟨a,_,rfl,h1,mJ _ _⟩,⟨b,_,rfl,h2,mJ _ _⟩,sh,sh, ?_⟩))))⟩))))
  rw[SeqAt.eqv_refl _ (SeqAt.canLay_of_shaped sh)]
  refine⟨_,rfl,iT (yo (oi (ai rfl ⟨a,_,rfl,aT.of h1,nZ h1 (by rw[List.length_map];omega) (fun i ys _=>ys=List.replicate i (.bl true)) rfl ?_ ?_⟩)))⟩
  ·intro i x ys H2 hi s p Q' k
   obtain⟨y,hy,rfl⟩:=qS hi
   refine fG (ai rfl (kc (k _ _ (ay.refl _) ?_)))
   rw[p,List.replicate_succ'];rfl
  ·intro ys H2 p s hp hn
   refine⟨p,List.replicate xs.length true,rfl,aC.of ?_, ?_⟩
   ·rw[az,hp];simp
   ·rw[show(List.replicate xs.length true).all id=true by simp]
    exact q _ (s.trans (sameNew hn))
def mR:Sp:=fun vs H Q E=> ∃v u,vs=[v,u]∧((∃z,v= .str z∧z.length≤10000∧((∃d b,u= .ref b∧ff H b d∧dy d∧line d=z)∨(u= .aB∧ ∀d,dy d→line d≠z)))∨(gA .str v H∧u= .aB))∧ ∀H',ay H H'→Q (.bl true) H'
theorem Ut{d d':Dd}(h:dy d)(h':dy d')(e:line d=line d'):d=d':=by
 have:=vy h
 rw[e,vy h'] at this
 exact(Option.some.inj this).symm
theorem Uu{H:Hp}{a b:Addr}{d:Dd}(ha:ff H a d)(hb:ff H b d)(hd:dy d): ∃xs ys,H a=some (.tup xs)∧H b=some (.tup ys)∧ys.length=xs.length∧xs.length≤3∧ ∀(i:Nat) (v w:V),xs[i]?=some v→ys[i]?=some w→jF H v w:=by
 have two: ∀(v1 w1 v2 w2:V),jF H v1 w1→jF H v2 w2→ ∀(i:Nat) (v w:V),[v1,v2][i]?=some v→[w1,w2][i]?=some w→jF H v w:=by
  intro v1 w1 v2 w2 h1 h2 i v w e1 e2
  match i,e1,e2 with
  | 0,e1,e2=>cases e1;cases e2;exact h1
  | 1,e1,e2=>cases e1;cases e2;exact h2
  | i+2,e1,e2=>simp at e1
 have st: ∀x:Str,jF H (.str x) (.str x):=fun x=> .inl ⟨x,rfl,rfl⟩
 cases d with
 | bare w=>
  refine⟨_,_,ha,hb,rfl,Nat.le_of_ble_eq_true rfl,fun i v u e1 e2=> ?_⟩
  match i,e1,e2 with
  | 0,e1,e2=>cases e1;cases e2;exact st w
  | i+1,e1,e2=>simp at e1
 | word w x=>exact⟨_,_,ha,hb,rfl,Nat.le_of_ble_eq_true rfl,two _ _ _ _ (st w) (st x)⟩
 | num w n=>exact⟨_,_,ha,hb,rfl,Nat.le_of_ble_eq_true rfl,two _ _ _ _ (st w) (.inr (.inl ⟨_,rfl,rfl⟩))⟩
 | enter x=>exact⟨_,_,ha,hb,rfl,Nat.le_of_ble_eq_true rfl,two _ _ _ _ (st _) (st x)⟩
 | bN xs=>
  obtain⟨t,ha,ht⟩:=ha
  obtain⟨t',hb,km⟩:=hb
  exact⟨_,_,ha,hb,rfl,Nat.le_of_ble_eq_true rfl,two _ _ _ _ (st _) (.inr (.inr (.inr ⟨t,t',xs,rfl,rfl,ht,km,by have:=hd.2.1;omega,fun x hx=>rX (hd.2.2 x hx).1⟩)))⟩
 | span b=>exact⟨_,_,ha,hb,rfl,Nat.le_of_ble_eq_true rfl,two _ _ _ _ (st _) (.inr (.inr (.inl ⟨_,rfl,rfl⟩)))⟩
 | step x b=>
  refine⟨_,_,ha,hb,rfl,Nat.le_of_ble_eq_true rfl,fun i v u e1 e2=> ?_⟩
  match i,e1,e2 with
  | 0,e1,e2=>cases e1;cases e2;exact st _
  | 1,e1,e2=>cases e1;cases e2;exact st x
  | 2,e1,e2=>cases e1;cases e2;exact .inr (.inr (.inl ⟨_,rfl,rfl⟩))
  | i+3,e1,e2=>simp at e1
theorem Uv{Γ:aL}{σ:St}{H:Hp}{i j:Nat}{a b:Addr}{xs ys:List V}{elt:RE}(hi:σ[i]?=some (some (.ref a)))(hj:σ[j]?=some (some (.ref b)))(ha:H a=some (.tup xs))(hb:H b=some (.tup ys))(h: ∃W:Nat→Nat→List V→Hp→Prop,(∃m,W 0 m [] H)∧ ∀i m ys H2,W i m ys H2→
   ((jY Γ.K a b).stop i H2∧ ∀p,H2 p=none→Q (.ref p) (upd H2 p (.lst ys)))∨
   ((jY Γ.K a b).go i H2∧ ∀x H3,(jY Γ.K a b).cZ i H2 x H3→dB Γ.K (some 2) x H3 fun zs=>dW none (zs.map some++bj σ []) H3 fun b H5=>
    if b=true then af Γ.calm elt (zs.map some++bj σ []) H5 fun y H6=>ys.length<sizeLine∧ ∃m',m'<m∧W (i+1) m' (ys++ [y]) H6 else ∃m',m'<m∧W (i+1) m' ys H5)):af Γ (.comp (some 2) [] .tP [(.v i),(.v j)] none elt) σ H Q:=
 ⟨_,hi,_,hj,a,b,rfl,⟨_,aT.of ha⟩,⟨_,aT.of hb⟩,h⟩
theorem FP{N:Addr}{cs:List Addr}{cv:Addr}{v:V}{H H1:Hp}(kN:kb K cs cv N 12)(xN:exmOne K (.ref N) (.ref cv)=some true)(q: ∀H',ay H H'→Q (.bl true) H')(s1:ay H H1)(D:Ends)(hD:D.rt=Q):
  w4 K cv 3 (fun ea=>aw {aU K [("read",rn N),("_law_alike_part",pk)] [("InkError", .ref cv)] (ht:=[("_law_word",qE K cs cv)]) (E:=E) with E:=E0,hv:=some ea} [.ret (.and [(.cmp .Is (.v 1) (.c .aB)),(.cmp .Eq (.tQ 0 (.v 3)) (.c (.str "note")))])]) D [some v,some .aB,none,none] (.ref N) none H1:=by
 refine⟨xN,fun ea ob vs jo lI=> ?_⟩
 have s2:=sameNew (o:= .bA ob jl) jo
 have he:ExcAt (upd H1 ea (.bA ob jl)) ea N:=⟨ob,vs,az,lI⟩
 refine aG (kd (cM (ai rfl (ag ⟨rfl,_,rfl,iT (cM ?_)⟩))))
 refine⟨_,rfl,⟨ea,N,rfl,he⟩,ea,N,12,rfl,he,kN,by decide,fun H3 s3=>ag (cA ?_)⟩
 rw[show(gB.getD 12 ""==Str.ofString "note")=true by decide+kernel]
 show D.rt _ _
 rw[hD]
 exact q _ (s1.trans (s2.trans s3))
theorem Uw{N:Addr}{cs:List Addr}{cv:Addr}(kN:kb K cs cv N 12)(xN:exmOne K (.ref N) (.ref cv)=some true)(vs:List V)(H:Hp)(h:mR vs H Q E):
  aw (aU K [("read",rn N),("_law_alike_part",pk)] [("InkError", .ref cv)] (ht:=[("_law_word",qE K cs cv)]) (E:=E)) y_ (Dn Q) (start y9 vs) H:=by
 obtain⟨v,u,rfl,hc,q⟩:=h
 refine⟨cv,rfl, ?_⟩
 refine aj (ai rfl (aA ⟨v,rfl, ?_⟩))
 rcases hc with⟨z,rfl,hz,hd⟩ | ⟨hn,rfl⟩
 ·refine .inl ⟨z,rfl,hz,fun H1 s1=> ⟨fun d a kU hl ha=> ?_,fun iA=> ?_⟩⟩
  ·rcases hd with⟨d',b,rfl,hb,hd2,gi⟩ | ⟨rfl,iA⟩
   rotate_left
   ·exact absurd hl (iA d kU)
   have ed:=Ut kU hd2 (hl.trans gi.symm)
   subst ed
   obtain⟨xs,ys,hA,hB,hlen,h3,Ux⟩:=Uu ha (hb.same s1) kU
   refine bb (eE (bg (ai rfl (ag ⟨rfl,_,rfl,iF ?_ (by simp)⟩))))
   refine eE (fc (iO (ai rfl (qG hA (iF ?_)))))
   refine gC (bg (dZ (ai rfl (jy hA (dZ (ai rfl (jy hB (DY ⟨_,rfl,iF (bK ?_) (by rw[hlen];simp)⟩))))))))
   refine aG (yo (Uv rfl rfl hA hB (OE hA hB hlen (by omega) (fun i zs _=>zs=List.replicate i (.bl true)) rfl ?_ (fun _ _ _ _ _ h=>h) ?_)))
   ·intro i x y zs H2 hx hy s p Q' k
    refine bu pk rfl (aj (ai rfl (aj (ai rfl (aA ⟨x,y,rfl,(Ux i x y hx hy).same s,fun H3 s3=>k _ _ s3 ?_⟩)))))
    rw[p,List.replicate_succ']
   ·intro zs H2 p s hp hn
    refine⟨p,List.replicate xs.length true,rfl,aC.of ?_, ?_⟩
    ·rw[az,hp];simp
    ·rw[show(List.replicate xs.length true).all id=true by simp]
     exact q _ (s1.trans (s.trans (sameNew hn)))
  ·rcases hd with⟨d',b,rfl,hb,hd2,gi⟩ | ⟨rfl,_⟩
   ·exact absurd gi (iA d' hd2)
   exact FP kN xN q s1 _ rfl
 ·exact .inr ⟨hn,FP kN xN q (ay.refl _) _ rfl⟩
end
section
variable {Γ:aL} {D:Ends} {σ:St} {H:Hp} {r t:List RS} {Q:VK} {K:Frag} {i:Nat}
theorem mS{c k:Int}(e:σ[1]?=some (some (.int c)))(hn:c % 8≠k)(h:aw Γ r D σ H):aw Γ (.ite (.cmp .Eq (.bin .Mod (.v 1) (.c (.int 8))) (.c (.int k))) t []::r) D σ H:=
 bb (bg (aI (ai e (ag ⟨(by show(0:Int) <8;decide),ag (fq ⟨_,rfl,iF (bK h) (decide_eq_false hn)⟩)⟩))))
theorem mT{c k:Int}(e:σ[1]?=some (some (.int c)))(hn:c % 8=k)(h:aw Γ t {D with nx:=aw Γ r D} σ H):aw Γ (.ite (.cmp .Eq (.bin .Mod (.v 1) (.c (.int 8))) (.c (.int k))) t []::r) D σ H:=
 bb (bg (aI (ai e (ag ⟨(by show(0:Int) <8;decide),ag (fq ⟨_,rfl,iT h (decide_eq_true hn)⟩)⟩))))
end
def rY:Sp:=fun vs H Q E=> ∃z c m,vs=[.str z, .int c, .int m]∧Gd 1000 z∧ ∀y H',Gd 9000 y→ay H H'→Q (.str y) H'
abbrev rZ:List (Str×Sp):=[("_law_sign",ph),("_law_odd",rT)]
section
variable {K:Frag} {Q:VK} {E:XK}
theorem Uy{H:Hp}{z:Str}{c m:Int}{u3 u6 u8:Option V}{W:Addr}{ws:List Str}{p:Int}(hW:H W=some (.lst (ws.map V.str)))(h0:0≤p)(h1:p<ws.length)(hs:sz ws+ws.length≤2100)(iq: ∀w∈ws,low w)(q: ∀y H',Gd 9000 y→ay H H'→Q (.str y) H'):
  aw (aU K rZ [] (E:=E)) [.asg 7 (.bin .Mult (.lst [(.ix (.v 4) (.v 5))]) (.bin .Mult (.bin .Mod (.v 2) (.c (.int 2))) (.c (.int 2)))),
  .ret (.di .join (.c (.str " ")) [(.bin .Add (.bin .Add (.sl (.v 4) none (some (.v 5))) (.v 7)) (.sl (.v 4) (some (.bin .Add (.v 5) (.c (.int 1)))) none))])] (Dn Q) [some (.str z),some (.int c),some (.int m),u3,some (.ref W),some (.int p),u6,none,u8] H:=by
 obtain⟨w,hw,ew⟩:=kJ (ws:=ws) h0 h1
 have m2:=cH m 2 (by decide)
 refine a_ (aI (bC (aj (aV (ai rfl (ai rfl (bP hW ew (aA ⟨gE,fun a ha=> ?_⟩))))))))
 have sa:=sameNew (o:= .lst [.str w]) ha
 have Wa:=sa _ _ hW
 refine aI (aI (ai rfl (ag ⟨(by show(0:Int) <2;decide),ag ⟨.inr ⟨by decide,by decide⟩, ?_⟩⟩)))
 refine⟨a,m % 2*2,[.str w],rfl,rfl,az,by omega,by omega,cw (by simp;omega),fun b hb=> ?_⟩
 obtain⟨dJ,er,lr,mr⟩: ∃dJ:List Str,(List.replicate (m % 2*2).toNat [V.str w]).flatten=dJ.map V.str∧dJ.length≤2∧ ∀x∈dJ,x=w:=by
  refine⟨List.replicate (m % 2*2).toNat w, ?_, ?_,fun x hx=>List.eq_of_mem_replicate hx⟩
  ·have: ∀k:Nat,(List.replicate k [V.str w]).flatten=(List.replicate k w).map V.str:=by
    intro k
    induction k with
    | zero=>rfl
    | succ k ih=>rw[List.replicate_succ,List.flatten_cons,ih,List.replicate_succ];rfl
   exact this _
  ·rw[List.length_replicate];omega
 rw[er]
 have sb:=sameNew (o:= .lst (dJ.map V.str)) hb
 have s2:=sa.trans sb
 have Wb:=sb _ _ Wa
 have FQ:upd (upd H a (.lst [.str w])) b (.lst (dJ.map V.str)) b=some (.lst (dJ.map V.str)):=az
 show aw _ _ _ _ (upd (upd H a (.lst [.str w])) b (.lst (dJ.map V.str)))
 generalize upd (upd H a (.lst [.str w])) b (.lst (dJ.map V.str))=H2 at s2 Wb FQ⊢
 obtain⟨us,eu,su⟩:=zy ws none (some p)
 obtain⟨xs,ex,sx⟩:=zy ws (some (p+1)) none
 have lu:=su.length_le
 have lx:=sx.length_le
 refine aG (jv (ag ⟨rfl,aI (aI (mL (ai rfl (ai rfl ⟨p,rfl, .inl ⟨_,aC.of Wb,fun d hd=> ?_⟩⟩))))⟩))
 rw[eu]
 have sd:=sameNew (o:= .lst (us.map V.str)) hd
 refine ai rfl (qZ az (sd _ _ FQ) (by simp;omega) fun f hf=> ?_)
 have sf:=sameNew (o:= .lst (us.map V.str++dJ.map V.str)) hf
 have Wf:=sf _ _ (sd _ _ Wb)
 have FR:upd (upd H2 d (.lst (us.map V.str))) f (.lst (us.map V.str++dJ.map V.str)) f=some (.lst (us.map V.str++dJ.map V.str)):=az
 have s3:=s2.trans (sd.trans sf)
 generalize upd (upd H2 d (.lst (us.map V.str))) f (.lst (us.map V.str++dJ.map V.str))=H3 at s3 Wf FR⊢
 refine rP (ai rfl (aI (ai rfl (ag (fU ⟨p+1,rfl, .inl ⟨_,aC.of Wf,fun g hg=> ?_⟩⟩)))))
 rw[ex]
 have FT:=sameNew (o:= .lst (xs.map V.str)) hg
 refine qZ (FT _ _ FR) az (by simp;omega) fun j hj=> ?_
 have szw:sz dJ≤2*sz ws:=by
  have hwz:w.length≤sz ws:=by
   have:=rW (List.singleton_sublist.mpr hw)
   exact this
  have: ∀l:List Str,(∀x∈l,x=w)→sz l≤l.length*sz ws:=by
   intro l
   induction l with
   | nil=>intro _;exact Nat.zero_le _
   | cons x l ih=>
    intro h
    have e:sz (x::l)=x.length+sz l:=rfl
    have h1:=ih fun y hy=>h y (List.mem_cons_of_mem _ hy)
    have h2:x=w:=h x (List.mem_cons_self ..)
    rw[e,List.length_cons,Nat.succ_mul,h2]
    omega
  have h1:=this dJ mr
  have h2:dJ.length*sz ws≤2*sz ws:=Nat.mul_le_mul_right _ lr
  omega
 have total:sz (us++dJ++xs)+ (us++dJ++xs).length≤9000:=by
  rw[zx,zx,List.length_append,List.length_append]
  have h1:=rW su
  have h2:=rW sx
  omega
 refine⟨us++dJ++xs,aC.of ?_,qA (by omega),q _ _ (rV (fun t ht=> ?_) total) (s3.trans (FT.trans (sameNew hj)))⟩
 ·rw[az,List.map_append,List.map_append]
 ·rcases List.mem_append.mp ht with ht | ht
  ·rcases List.mem_append.mp ht with ht | ht
   ·exact iq t (su.subset ht)
   ·rw[mr t ht];exact iq w hw
  ·exact iq t (sx.subset ht)
theorem FU{H:Hp}{z:Str}{c m p:Int}{u3 u6 u7:Option V}{W:Addr}{ws:List Str}{x:Str}(hW:H W=some (.lst (ws.map V.str)))(hs:sz ws+ws.length≤2100)(iq: ∀w∈ws,low w)(gx:Gd 1100 x)(q: ∀y H',Gd 9000 y→ay H H'→Q (.str y) H'):
  aw (aU K rZ [] (E:=E)) [.ret (.di .join (.c (.str " ")) [(.bin .Add (.sl (.v 4) none (some (.neg (.c (.int 1))))) (.lst [(.v 8)]))])] (Dn Q) [some (.str z),some (.int c),some (.int m),u3,some (.ref W),some (.int p),u6,u7,some (.str x)] H:=by
 obtain⟨us,eu,su⟩:=zy ws none (some (-1))
 have lu:=su.length_le
 refine aG (jv (ag ⟨rfl,aI (mL (ai rfl (iW ⟨-1,rfl, .inl ⟨_,aC.of hW,fun d hd=> ?_⟩⟩)))⟩))
 rw[eu]
 have sd:=sameNew (o:= .lst (us.map V.str)) hd
 refine bC (aj (ai rfl (aA ⟨gE,fun f hf=> ?_⟩)))
 have sf:=sameNew (o:= .lst [.str x]) hf
 refine qZ (sf _ _ az) az (by simp;omega) fun j hj=> ?_
 have total:sz (us++ [x])+ (us++ [x]).length≤9000:=by
  rw[zx,List.length_append]
  have h1:=rW su
  have h2:sz [x]=x.length+0:=rfl
  have h3:=gx.len
  have h4:[x].length=1:=rfl
  omega
 refine⟨us++ [x],aC.of ?_,qA (by omega),q _ _ (rV (fun t ht=> ?_) total) (sd.trans (sf.trans (sameNew hj)))⟩
 ·rw[az,List.map_append];rfl
 ·rcases List.mem_append.mp ht with ht | ht
  ·exact iq t (su.subset ht)
  ·rw[List.mem_singleton.mp ht];exact gx.low
end
section
variable {K:Frag} {Q:VK} {E:XK}
theorem Uz(vs:List V)(H:Hp)(h:rY vs H Q E):aw (aU K rZ [] (E:=E)) cG (Dn Q) (start fF vs) H:=by
 obtain⟨z,c,m,rfl,gz,q⟩:=h
 have hz:=gz.len
 have hl:z.length≤sizeLine:=cw (by omega)
 have LL: ∀{x y:Str},Gd 3000 x→Gd 3000 y→x.length+y.length≤sizeLine:=fun {x y} hx hy=>cw (by have:=hx.len;have:=hy.len;omega)
 refine a_ (aI (aI (ai rfl (ag ⟨⟨by decide,by decide⟩,aI (dZ (ai rfl ⟨hl,ag (fU ⟨(by show(0:Int) < (z.length:Int)+1;omega), ?_⟩)⟩))⟩))))
 show aw (aU K rZ [] (E:=E)) (cG.drop 1) (Dn Q) [some (.str z),some (.int c),some (.int m),some (.int (m / 13 % ((z.length:Int)+1))),none,none,none,none,none] H
 generalize m / 13 % ((z.length:Int)+1)=k
 refine a_ (D6 (T:=yr) (rr:=uW) rfl (ai rfl ⟨rfl,ag ⟨z," ",rfl,rfl,(by decide+kernel),by omega,fun W hW=> ?_⟩⟩))
 have sW:=sameNew (o:= .lst ((Txt.split z " ").map V.str)) hW
 have kO:upd H W (.lst ((Txt.split z " ").map V.str)) W=some (.lst ((Txt.split z " ").map V.str)):=az
 have fs:=PyProof.Rows.fact_split z " "
 have es:=Up z
 have zs:=FN (Txt.split z " ")
 have lz:(sg z).length=z.length:=(len_list z).symm
 rw[es,lz] at zs
 have iq: ∀w∈Txt.split z " ",low w:=fun w hw c hc=>gz.low c (by
  have:=(zq (List.mem_map.mpr ⟨w,hw,rfl⟩:sg w∈ (Txt.split z " ").map sg)).2 c hc
  rwa [es] at this)
 generalize Txt.split z " "=ws at sW kO fs es zs iq⊢
 have q1: ∀y H',Gd 9000 y→ay (upd H W (.lst (ws.map V.str))) H'→Q (.str y) H':=fun y H' g s=>q y H' g (sW.trans s)
 show aw _ _ _ _ (upd H W (.lst (ws.map V.str)))
 generalize upd H W (.lst (ws.map V.str))=H1 at sW kO q1⊢
 have FV:(ws.map V.str).length=ws.length:=List.length_map ..
 have ku:(0:Int) < ((ws.map V.str).length:Nat):=by rw[FV];have:=fs.1;omega
 have pp:=cH (m / 13) ((ws.map V.str).length:Nat) ku
 refine a_ (aI (aI (ai rfl (ag ⟨⟨by decide,by decide⟩,dZ (ai rfl (vB kO ⟨ku, ?_⟩))⟩))))
 show aw (aU K rZ [] (E:=E)) (cG.drop 3) (Dn Q) [some (.str z),some (.int c),some (.int m),some (.int k),some (.ref W),some (.int (m / 13 % ((ws.map V.str).length:Int))),none,none,none] H1
 generalize m / 13 % ((ws.map V.str).length:Int)=p at pp⊢
 rw[FV] at pp
 have cut: ∀lo hi,Gd 1000 (lL z lo hi):=fun lo hi=>gz.cut lo hi
 by_cases c0:c % 8=0
 ·refine mT rfl c0 (aG (aI (aI (mL (ai rfl (ai rfl ⟨k,rfl,hl,bu ph rfl (aj (ai rfl (aA ⟨m,rfl,fun y H2 gy s2=> ?_⟩)))⟩))))))
  refine⟨LL ((cut _ _).mono (by omega)) (gy.mono (by omega)),rP (ai rfl (ai rfl ⟨k,rfl,hl,LL (((cut _ _).app gy).mono (by omega)) ((cut _ _).mono (by omega)), ?_⟩))⟩
  exact q1 _ _ ((((cut _ _).app gy).app (cut _ _)).mono (by omega)) s2
 refine mS rfl c0 ?_
 by_cases c1:c % 8=1
 ·refine mT rfl c1 (aG (aI (mL (ai rfl (ai rfl ⟨k,rfl,hl,rP (ai rfl (aI (ai rfl (ag (fU ⟨k+1,rfl,hl,LL ((cut _ _).mono (by omega)) ((cut _ _).mono (by omega)), ?_⟩)))))⟩)))))
  exact q1 _ _ (((cut _ _).app (cut _ _)).mono (by omega)) (ay.refl _)
 refine mS rfl c1 ?_
 by_cases c2:c % 8=2
 ·refine mT rfl c2 (aG (aI (aI (mL (ai rfl (ai rfl ⟨k,rfl,hl,bu ph rfl (aj (ai rfl (aA ⟨m,rfl,fun y H2 gy s2=> ?_⟩)))⟩))))))
  refine⟨LL ((cut _ _).mono (by omega)) (gy.mono (by omega)),rP (ai rfl (aI (ai rfl (ag (fU ⟨k+1,rfl,hl,LL (((cut _ _).app gy).mono (by omega)) ((cut _ _).mono (by omega)), ?_⟩)))))⟩
  exact q1 _ _ ((((cut _ _).app gy).app (cut _ _)).mono (by omega)) s2
 refine mS rfl c2 ?_
 by_cases c3:c % 8=3
 ·refine mT rfl c3 (a_ (aI (mL (ai rfl (ai rfl ⟨k,rfl,hl,FC (ai rfl (aI (ai rfl (ag (fU ⟨k+1,rfl,aI (ai rfl (ag (fU ⟨k+2,rfl,hl,LL ((cut _ _).mono (by omega)) ((cut _ _).mono (by omega)), ?_⟩)))⟩)))))⟩)))))
  refine aG (aI (aI (ai rfl (FC (ai rfl (ai rfl ⟨k,rfl,aI (ai rfl (ag (fU ⟨k+1,rfl,hl,LL (((cut _ _).app (cut _ _)).mono (by omega)) ((cut _ _).mono (by omega)), ?_⟩)))⟩))))))
  refine rP (ai rfl (aI (ai rfl (ag (fU ⟨k+2,rfl,hl,LL ((((cut _ _).app (cut _ _)).app (cut _ _)).mono (by omega)) ((cut _ _).mono (by omega)), ?_⟩)))))
  exact q1 _ _ (((((cut _ _).app (cut _ _)).app (cut _ _)).app (cut _ _)).mono (by omega)) (ay.refl _)
 refine mS rfl c3 ?_
 by_cases c4:c % 8=4
 ·exact mT rfl c4 (Uy kO pp.1 pp.2 (by omega) iq q1)
 refine mS rfl c4 ?_
 by_cases c5:c % 8=5
 ·obtain⟨us,w,FW⟩: ∃us w,ws=us++ [w]:=by
   rcases List.eq_nil_or_concat ws with h | ⟨us,w,h⟩
   ·rw[h] at fs;exact absurd fs.1 (by decide)
   ·exact⟨us,w,by rw[h,List.concat_eq_append]⟩
  have FX:cQ (ws.map V.str) (-1)=some (.str w):=by rw[FW,List.map_append];exact jQ _ _
  have hw:w∈ws:=by rw[FW];simp
  have gw:Gd 1000 w:=⟨by have:=rW (List.singleton_sublist.mpr hw);have e:sz [w]=w.length+0:=rfl;omega,iq w hw⟩
  have g0:Gd 1 (Str.ofString "0"):=⟨by decide+kernel,gM (by decide+kernel)⟩
  refine mT rfl c5 (a_ (aI (ag (aV (ai rfl (iW (bP kO FX ⟨LL (g0.mono (by omega)) (gw.mono (by omega)), ?_⟩)))))))
  refine bb (bg (aI (ai rfl (ag ⟨(by show(0:Int) <2;decide),ag (fq ⟨_,rfl, ?_⟩)⟩))))
  by_cases m1:m % 2=1
  ·have gt:Gd 10 (Str.ofString "1234567890"):=⟨by decide+kernel,gM (by decide+kernel)⟩
   refine iT (a_ (aI (aV (ai rfl (iW (bP kO FX (mL (ag (aI (ag (aI (aI (ai rfl (ag ⟨⟨by decide,by decide⟩,ag ⟨(by show(0:Int) <9;decide),fU ⟨_,rfl,(by decide+kernel),LL (gw.mono (by omega)) ((gt.cut _ _).mono (by omega)), ?_⟩⟩⟩)))))))))))))) (decide_eq_true m1)
   exact FU kO (by omega) iq ((gw.app (gt.cut _ _)).mono (by omega)) q1
  ·exact iF (bK (FU kO (by omega) iq ((g0.app gw).mono (by omega)) q1)) (decide_eq_false m1)
 refine mS rfl c5 ?_
 by_cases c6:c % 8=6
 ·exact mT rfl c6 (aG (bu rT rfl (aj (ai rfl (aA ⟨m,rfl,fun y H2 gy s2=>q1 y H2 (gy.mono (by omega)) s2⟩)))))
 exact mS rfl c6 (aG (ai rfl (q1 z _ (gz.mono (by omega)) (ay.refl _))))
end
theorem FY{x:Str}(h:low x):low (bo x):=by
 intro c hc
 rw[mh] at hc
 have he: ∀l:List Nat,(∀c∈l,c<1114112)→ ∀c∈bz l,c<1114112:=by
  intro l hl c hc
  obtain⟨a,ha,h1⟩:=List.mem_flatMap.mp hc
  have:=hl a ha
  unfold cB at h1
  by_cases h2:a=92
  ·rw[if_pos h2] at h1
   simp at h1;omega
  rw[if_neg h2] at h1
  by_cases h3:a=34
  ·rw[if_pos h3] at h1
   simp at h1;omega
  rw[if_neg h3] at h1
  by_cases h4:a=10
  ·rw[if_pos h4] at h1
   simp at h1;omega
  rw[if_neg h4] at h1
  simp at h1;omega
 have hq:c∈34::bz (sg x)++ [34]:=hc
 simp only[List.mem_append,List.mem_cons,List.not_mem_nil,or_false] at hq
 rcases hq with(rfl | h1) | rfl
 ·decide
 ·exact he _ h c h1
 ·decide
theorem UA{d:Dd}(hd:dy d)(hs:FE d):Gd 1000 (line d):=by
 have two: ∀(w x:Str) (d:Dd),wl d=[w,x]→low w→low x→w.length≤10→x.length≤20→Gd 1000 (line d):=by
  intro w x d e lw lx l1 l2
  refine rV ?_ ?_
  ·rw[e];intro t ht
   rcases List.mem_cons.mp ht with rfl | ht
   ·exact lw
   ·rw[List.mem_singleton.mp ht];exact lx
  ·rw[e];show w.length+ (x.length+0)+2≤1000;omega
 have q2: ∀x:Str,x.length≤6→(bo x).length≤14:=fun x h=>by have:=yb x;omega
 cases d with
 | bare w=>
  refine rV ?_ ?_
  ·intro t ht
   rw[List.mem_singleton.mp ht]
   rcases hd with rfl | rfl | rfl<;>exact gM (by decide+kernel)
  ·rcases hd with rfl | rfl | rfl<;>decide+kernel
 | word w x=>
  have gx:Gd 20 x:=by
   rcases hd with⟨_,h⟩ | ⟨_,h⟩
   ·exact mP (ws:=eW) (by decide+kernel) h
   ·exact mP (ws:=mW) (by decide+kernel) h
  have gw:Gd 10 w:=mP (ws:=["erase","mark"]) (by decide+kernel) (by rcases hd with⟨rfl,_⟩ | ⟨rfl,_⟩ <;>simp)
  exact two w x _ rfl gw.low gx.low gw.len gx.len
 | num w n=>
  have gw:Gd 10 w:=mP (ws:=["spread","go"]) (by decide+kernel) (by rcases hd.1 with rfl | rfl<;>simp)
  exact two w (num n) _ rfl gw.low (fun c hc=>by have:=vm n c hc;omega) gw.len (by have:=yN hd.2;omega)
 | enter x=>exact two "enter" (bo x) _ rfl (gM (by decide+kernel)) (FY (rX hd.1)) (by decide+kernel) (by have:=q2 x hs;omega)
 | bN xs=>
  refine rV ?_ ?_
  ·intro t ht
   rcases List.mem_cons.mp ht with rfl | ht
   ·exact gM (by decide+kernel)
   ·obtain⟨x,hx,rfl⟩:=List.mem_map.mp ht
    exact FY (rX (hd.2.2 x hx).1)
  ·have go: ∀l:List Str,(∀x∈l,x.length≤6)→sz (l.map bo)≤14*l.length:=by
    intro l h
    induction l with
    | nil=>exact Nat.le_refl _
    | cons x r ih=>
     have h1:=q2 x (h x List.mem_cons_self)
     have h2:=ih fun y hy=>h y (List.mem_cons_of_mem _ hy)
     show(bo x).length+sz (r.map bo)≤14* (r.length+1)
     omega
   have g:=go xs hs
   have hl:=hd.2.1
   show(Str.ofString "paste").length+sz (xs.map bo)+ ((xs.map bo).length+1)≤_
   have e:(Str.ofString "paste").length=5:=rfl
   rw[List.length_map]
   omega
 | step x b=>
  have gx:Gd 20 x:=mP (ws:=sW) (by decide+kernel) hd
  cases b with
  | true=>exact two "hold" x _ rfl (gM (by decide+kernel)) gx.low (by decide+kernel) gx.len
  | false=>exact two "step" x _ rfl (gM (by decide+kernel)) gx.low (by decide+kernel) gx.len
 | span b=>
  cases b with
  | true=>exact two "span" "grows" _ rfl (gM (by decide+kernel)) (gM (by decide+kernel)) (by decide+kernel) (by decide+kernel)
  | false=>exact two "span" "stays" _ rfl (gM (by decide+kernel)) (gM (by decide+kernel)) (by decide+kernel) (by decide+kernel)
theorem UB{lo c:Int}{n:Nat}{g:TG}{tb:TS}{D:Ends}{σ:St}{H:Hp}(Pv:Nat→St→Hp→Prop)(h0:Pv 0 σ H)
  (hs: ∀i σ H,i<n→Pv i σ H→g (.int (lo+i*c)) σ H fun σ2 H2=>tb {D with nx:=Pv (i+1),ct:=Pv (i+1),bk:=D.nx} σ2 H2) (hd: ∀σ H,Pv n σ H→D.nx σ H):
  ∃W:Nat→Nat→St→Hp→Prop,(∃m,W 0 m σ H)∧ ∀i m σ H,W i m σ H→
   ((p6 lo c n).stop i H∧D.nx σ H)∨((p6 lo c n).go i H∧ ∃N:St→Hp→Prop,(∀σ' H',N σ' H'→ ∃m',m'<m∧W (i+1) m' σ' H')∧ ∀x H',(p6 lo c n).cZ i H x H'→g x σ H' fun σ2 H2=>tb {D with nx:=N,ct:=N,bk:=D.nx} σ2 H2):=by
 refine⟨fun i m σ H=>m=n - i∧i≤n∧Pv i σ H,⟨n,by simp,Nat.zero_le _,h0⟩, ?_⟩
 rintro i m σ H ⟨rfl,hi,p⟩
 by_cases aQ:i<n
 ·refine .inr ⟨aQ,Pv (i+1),fun σ' H' p'=> ⟨n - (i+1),by omega,rfl,aQ,p'⟩,fun x H' y=> ?_⟩
  obtain⟨rfl,rfl⟩:=y
  exact hs i σ _ aQ p
 ·have:i=n:=by omega
  subst this
  exact .inl ⟨Nat.le_refl _,hd σ H p⟩
def vH(K:Frag):Sp:=fun vs H Q E=> ∃(a:Addr) (ns:List Int),vs=[.ref a]∧aC K H a (ns.map V.int)∧ ∀H',Q (.bl true) H'
abbrev FZ(K:Frag):List (Str×Sp):=[("_law_cell_at",j9 K),("_law_deed",rR),("_law_mixed",fQ),("_law_line",rO),("_law_right",mR),("_law_read",pd),("_law_bent",rY)]
section
variable {K:Frag} {Q:VK} {E:XK}
def UC:List RS:=(match il with | .iH _ _ _ b::_=>b | _=> [])
theorem UD{H:Hp}{a:Addr}{ns:List Int}{k:Int}{u2 u3 u4 u5 u6:Option V}{D:Ends}(ha:aC K H a (ns.map V.int))(h0:0≤k)(hD: ∀u2 u3 u4 u5 H',ay H H'→D.nx [some (.ref a),some (.int k),u2,u3,u4,u5,u6] H'):
  aw (aU K (FZ K) [] (E:=E)) UC D [some (.ref a),some (.int k),u2,u3,u4,u5,u6] H:=by
 refine a_ (bu (j9 K) rfl (aj (ai rfl (aj (aI (ai rfl (ag (fU (aA ⟨a,ns,k+1,rfl,ha,by omega, ?_⟩)))))))))
 generalize cell ns (k+1).toNat=c
 refine a_ (bu rR rfl (aj (bu fQ rfl (aj (bu (j9 K) rfl (aj (ai rfl (aj (ai rfl (aA ⟨a,ns,k,rfl,ha,h0, ?_⟩))))))))))
 refine aj (ag (aA ⟨_,_,rfl,aA ⟨_,rfl,fun b d H1 s1 hb hd UE=> ?_⟩⟩))
 have gl:=UA hd UE
 refine a_ (bu rO rfl (aj (ai rfl (aA ⟨b,d,rfl,hb,hd,fun H2 s2=> ?_⟩))))
 have F_:=hb.same s2
 have hll:=gl.len
 refine bb (eE (fc (uL mR rfl (aj (ai rfl (aj (ai rfl (aA ⟨_,_,rfl, .inl ⟨line d,rfl,by omega, .inl ⟨d,b,rfl,F_,hd,rfl⟩⟩,fun H3 s3=>hX (iF ?_)⟩))))))))
 have UG:=F_.same s3
 have UH:ay H H3:=s1.trans (s2.trans s3)
 refine gC (bg (bu pd rfl (aj (ai rfl (aA ⟨line d,rfl,by omega,gl.low, ?_⟩)))))
 rw[vy hd]
 refine⟨fun z=> (by cases z),fun d' e' e H4 s4 he=> ?_⟩
 cases e'
 refine ai rfl (Ur he (UG.same s4) hd ⟨_,rfl,iF (bK ?_)⟩)
 have Ga:ay H H4:=UH.trans s4
 refine a_ (bu rY rfl (aj (ai rfl (aj (ai rfl (aj (bu fQ rfl (aj (bu (j9 K) rfl (aj (ai rfl (aj (aI (ai rfl (ag (fU (aA ⟨a,ns,k+2,rfl,Ga.seq ha,by omega, ?_⟩)))))))))))))))))
 refine aj (ag (aA ⟨_,_,rfl,aA ⟨line d,c,_,rfl,gl,fun y H5 gy s5=> ?_⟩⟩))
 have Gb:ay H H5:=Ga.trans s5
 have hy:=gy.len
 refine bb (fc (uL mR rfl (aj (ai rfl (aj (bu pd rfl (aj (ai rfl (aA ⟨y,rfl,by omega,gy.low, ?_⟩)))))))))
 refine⟨fun hn H6 s6=>aA ⟨_,_,rfl, .inl ⟨y,rfl,by omega, .inr ⟨rfl,fun d2 h2 e2=> ?_⟩⟩,fun H7 s7=>hX (iF (bK (hD _ _ _ _ _ (Gb.trans (s6.trans s7)))))⟩,fun d2 e2 a2 H6 s6 h6=> ?_⟩
 ·rw[←e2,vy h2] at hn;cases hn
 ·obtain⟨UI,l2⟩:=S_ (by omega) e2
  exact aA ⟨_,_,rfl, .inl ⟨y,rfl,by omega, .inl ⟨d2,a2,rfl,h6,UI,l2⟩⟩,fun H7 s7=>hX (iF (bK (hD _ _ _ _ _ (Gb.trans (s6.trans s7)))))⟩
theorem UJ(vs:List V)(H:Hp)(h:vH K vs H Q E):aw (aU K (FZ K) [] (E:=E)) il (Dn Q) (start o8 vs) H:=by
 obtain⟨a,ns,rfl,ha,kq⟩:=h
 refine⟨0,12,3,4,rfl,by decide,by decide+kernel,by decide+kernel,by decide+kernel,UB (lo:=0) (c:=3) (n:=4) (fun i σ H2=> ∃u1 u2 u3 u4 u5,σ=[some (.ref a),u1,u2,u3,u4,u5,none]∧ay H H2) ⟨none,none,none,none,none,rfl,ay.refl _⟩ ?_ ?_⟩
 ·rintro i σ H2 hi ⟨u1,u2,u3,u4,u5,rfl,s⟩
  exact UD (s.seq ha) (by omega) fun v2 v3 v4 v5 H3 s3=> ⟨_,v2,v3,v4,v5,rfl,s.trans s3⟩
 ·rintro σ H1 ⟨u1,u2,u3,u4,u5,rfl,s1⟩
  refine a_ (aV (bC (aj (ag (aj (ag (aj (ag (aj (bC (aj (ag (aA ⟨gE,fun l1 f1=> ?_⟩)))))))))))))
  refine aj (cu (aj (ag (aA ⟨gE,fun l2 f2=> ?_⟩))))
  refine aj (fun l3 f3=> ?_)
  refine aj (bC (aj (ag (aj (ag (aj (ag (aj (ag (aA ⟨(by show 4≤sizeLine;decide),fun l4 f4=> ?_⟩))))))))))
  refine aj (ag (aA ⟨(by show 8≤sizeLine;decide),fun l f5=> ?_⟩))
  have sA:=sameNew (o:= .lst [.str "only"]) f1
  have sB:=sameNew (o:= .tup [.str "only"]) f2
  have sC:=sameNew (o:= .dK []) f3
  have sD:=sameNew (o:= .lst [.str "o", .str "n", .str "l", .str "y"]) f4
  have sE:=sameNew (o:= .lst [.aB, .int 5, .bl true, .ref l1, .ref l2, .ref l3, .ref l4, .int 0]) f5
  have h1:=(sB.trans (sC.trans (sD.trans sE))) _ _ (az (a:=l1))
  have h2:=(sC.trans (sD.trans sE)) _ _ (az (a:=l2))
  have h3:=(sD.trans sE) _ _ (az (a:=l3))
  have h4:=sE _ _ (az (a:=l4))
  have s0:=s1.trans (sA.trans (sB.trans (sC.trans (sD.trans sE))))
  have hl:=az (H:=upd (upd (upd (upd H1 l1 (.lst [.str "only"])) l2 (.tup [.str "only"])) l3 (.dK [])) l4 (.lst [.str "o", .str "n", .str "l", .str "y"])) (a:=l) (o:= .lst [.aB, .int 5, .bl true, .ref l1, .ref l2, .ref l3, .ref l4, .int 0])
  revert h1 h2 h3 h4 s0 hl
  generalize upd (upd (upd (upd (upd H1 l1 (.lst [.str "only"])) l2 (.tup [.str "only"])) l3 (.dK [])) l4 (.lst [.str "o", .str "n", .str "l", .str "y"])) l (.lst [.aB, .int 5, .bl true, .ref l1, .ref l2, .ref l3, .ref l4, .int 0])=H7
  intro h1 h2 h3 h4 s0 hl
  refine aI (bu (j9 K) rfl (aj (ai rfl (aj (ag (aA ⟨a,ns,12,rfl,s0.seq ha,by decide,ag ⟨(by show(0:Int) <8;decide), ?_⟩⟩))))))
  obtain⟨v,hv,ev⟩:=pick (its:=[.aB, .int 5, .bl true, .ref l1, .ref l2, .ref l3, .ref l4, .int 0]) (j:=cell ns (12:Int).toNat % 8) (cH _ 8 (by decide)).1 (cH _ 8 (by decide)).2
  have iA:gA .str v H7:=by
   simp only[List.mem_cons,List.not_mem_nil,or_false] at hv
   rcases hv with rfl | rfl | rfl | rfl | rfl | rfl | rfl | rfl
   ·exact rfl
   ·exact rfl
   ·exact rfl
   ·unfold gA bx;simp only[h1];rfl
   ·unfold gA bx;simp only[h2];rfl
   ·unfold gA bx;simp only[h3];rfl
   ·unfold gA bx;simp only[h4];rfl
   ·exact rfl
  refine bP hl ev (aG (bu mR rfl (aj (ai rfl (aj (ag (aA ⟨v, .aB,rfl, .inr ⟨iA,rfl⟩,fun H8 s8=>kq _⟩)))))))
end
end L2.eZ
namespace L2.eZ
open PySem PySem.Spec PyProof.Rows L2.B
theorem cN{K:Frag}{x qual:Str}{st:Stmt}{f:Addr}{fd:FuncData}{ps:List Str}(F:jS K x qual st f fd)(hp:ps.length=1)(h: ∀(kV doc pm:Value) (an:Option Addr) (bE ct:Value) (a0:Value),bindArgs (fnOf x qual (bF st) (bh st) (aM st) .none kV doc pm an bE ct) ⟨[a0],[]⟩=pure (ps.zip [a0])):Binds K fd ps []:=
 F.binds fun kV doc pm an bE ct us hl=>by
  have e:=hl.trans hp
  rcases us with _ | ⟨a0,_ | ⟨_,_⟩⟩ <;>first | exact h kV doc pm an bE ct _ | exact absurd e (by simp)
theorem mU{K:Frag}{x qual:Str}{st:Stmt}{f:Addr}{fd:FuncData}{ps:List Str}(F:jS K x qual st f fd)(hp:ps.length=2)(h: ∀(kV doc pm:Value) (an:Option Addr) (bE ct:Value) (a0 a1:Value),bindArgs (fnOf x qual (bF st) (bh st) (aM st) .none kV doc pm an bE ct) ⟨[a0,a1],[]⟩=pure (ps.zip [a0,a1])):Binds K fd ps []:=
 F.binds fun kV doc pm an bE ct us hl=>by
  have e:=hl.trans hp
  rcases us with _ | ⟨a0,_ | ⟨a1,_ | ⟨_,_⟩⟩⟩ <;>first | exact h kV doc pm an bE ct _ _ | exact absurd e (by simp)
theorem Gf{K:Frag}{x qual:Str}{st:Stmt}{f:Addr}{fd:FuncData}{ps:List Str}(F:jS K x qual st f fd)(hp:ps.length=3)(h: ∀(kV doc pm:Value) (an:Option Addr) (bE ct:Value) (a0 a1 a2:Value),bindArgs (fnOf x qual (bF st) (bh st) (aM st) .none kV doc pm an bE ct) ⟨[a0,a1,a2],[]⟩=pure (ps.zip [a0,a1,a2])):Binds K fd ps []:=
 F.binds fun kV doc pm an bE ct us hl=>by
  have e:=hl.trans hp
  rcases us with _ | ⟨a0,_ | ⟨a1,_ | ⟨a2,_ | ⟨_,_⟩⟩⟩⟩ <;>first | exact h kV doc pm an bE ct _ _ _ | exact absurd e (by simp)
theorem all_mk{l:PySem.W.OpenLaw}{w:World}{K:Frag}{h:Heap}{mg:Str→Option Value}{fa f0 f1 f2 f3 f4 f5 f6 f7 f8 f9 zB zC zD zE zF zG zH zI zJ zK zL zM zN zO zP zQ zR zS zT zU zV zW zX zY:Addr}{jG:Addr}{mV:Addr}{mX:Addr}{mY:Addr}{mZ:Addr}{m3:Addr}{m6:Addr}{m9:Addr}{m_:Addr}{i0:Addr}{nc:Addr}{ng:Addr}{nh:Addr}{b_:Addr}(X:K.In h)(G:h.Ns mainGlobals mg)(UK:mg "law"=some (.ref fa))
 {UL UM dg UN dr UO eJ UP mQ UQ UR US UT UU UW UX UY UZ U0 U1 U2 U3 U4 U5 U6 U7 U8 U9 U_ Va Vb Vc Vd Ve Vf Vg Vh Vi Vj Vk Vl Vm Vn Vo Vp Vq Vr Vs Vt Vu Vv Vw Vx Vy Vz VA VB VC VD VE VF VG VH VI VJ VL VM Gg:Option Addr} {VN VO lp qh VP VQ VR VS VT VU VW VX VY VZ V0 V1 V2 V3 V4 V5 V6 V7 V8 V9 V_ Wc Wd We Wg Wh Wi Wj Wk Wl:Array (Option Value)} {Wm Wn Wo Wq Gh Wr Ws Wt Wu Wv Gi Ww Wx Wy Wz WA Gj WB WC WD WE WG Gk WH WI WJ WK WL Gm WM WN WO WQ WR Gn WS WT WU WV WW Gp WX WY WZ W0 W2 Gq W3 W4 W5 W6 W7 Gr W8 W9 W_ Xa Xb Gs Xd Xe Xf Xg Xh Gu Xi Xj Xk Xl Xm Gv Xn Xo Xp Xq Xr Gw Xs Xt Xu Xv Xw Gx Xx Xy Xz XA XB Gy XC XD XE XF XG Gz XH XI XJ XM XN GA XO XQ XR XS XT GB XU XW XX XY XZ GC X0 X1 X3 X4 X5 GD X6 X7 X8 X9 X_ GF Ya Yb Yc Yd Ye GG Yf Yg Yh Yi Yj GH Yk Yl Ym Yn Yo GI Yp Yq Yr Ys Yt GJ Yu Yv Yw Yx Yy GK Yz YA YB YC YD GL YE YF YG YH YI GN YJ YK YL YM YN GO YO YQ YR YS YT GP YU YV YW YX YY GQ YZ Y0 Y1 Y2 Y3 GR Y4 Y5 Y6 Y7 Y8 GS Y9 Y_ GU GV GW zZ GX:Value}
  {Za:Tok}
  {Zb:Tok}
  {Zc:Tok}
  {Zd:Tok}
  {Ze:Tok}
  {r6:Addr} {Zf:Nat} {Zg Zh:Tok}
  {r9:Addr} {Zi:Nat} {Zj Zk Zl Zm Zn Zo Zp Zq Zr Zs:Tok}
  {r_:Addr} {Zt:Nat} {Zu Zv Zw Zx Zy Zz:Tok}
  (ZA:nsIn K mainGlobals "InkError"=some (some (.ref jG)))
  (ZC:nsIn K mainGlobals "BadText"=some (some (.ref mV)))
  (ZD:nsIn K mainGlobals "BadChange"=some (some (.ref mX)))
  (ZE:nsIn K mainGlobals "BadFit"=some (some (.ref mY)))
  (ZF:nsIn K mainGlobals "NoPlace"=some (some (.ref mZ)))
  (ZG:nsIn K mainGlobals "BadSide"=some (some (.ref m3)))
  (ZH:nsIn K mainGlobals "NoMark"=some (some (.ref m6)))
  (ZI:nsIn K mainGlobals "NoNode"=some (some (.ref m9)))
  (ZJ:nsIn K mainGlobals "NoCursor"=some (some (.ref m_)))
  (GY:nsIn K mainGlobals "BadDeed"=some (some (.ref i0)))
  (ZK:nsIn K mainGlobals "BadLetter"=some (some (.ref nc)))
  (ZL:nsIn K mainGlobals "NoLetter"=some (some (.ref ng)))
  (ZM:nsIn K mainGlobals "NoHand"=some (some (.ref nh)))
  (GZ:nsIn K mainGlobals "NoNote"=some (some (.ref b_)))
  (ZN:PySem.W.excIn K i0 [.type "ValueError", .type "Exception", .type "BaseException", .type "object"] "ValueError.__new__"=true)
  (ZO:PySem.W.excIn K b_ [.type "ValueError", .type "Exception", .type "BaseException", .type "object"] "ValueError.__new__"=true)
  (ZP:PySem.W.findIn K (.ref b_) "__getattribute__"=some (some (.builtin "BaseException.__getattribute__")))
  (ZQ:PySem.W.findIn K (.ref b_) "__getattr__"=some none)
  (ZR:(PySem.W.clsIn K b_).isSome=true)
  (ZS:PySem.W.findIn K (.ref b_) "__class__"=some (some (.builtin "object.__class__")))
  (ZT:PySem.W.mroIn K b_ (.type "object")=some true)
  (ZU:PySem.W.mroIn K b_ (.type "BaseException")=some true)
  (ZV:kitOne K (.ref b_) (.ref mV)=some false)
  (ZW:kitOne K (.ref b_) (.ref mX)=some false)
  (ZX:kitOne K (.ref b_) (.ref mY)=some false)
  (ZY:kitOne K (.ref b_) (.ref mZ)=some false)
  (ZZ:kitOne K (.ref b_) (.ref m3)=some false)
  (Z0:kitOne K (.ref b_) (.ref m6)=some false)
  (Z1:kitOne K (.ref b_) (.ref m9)=some false)
  (Z2:kitOne K (.ref b_) (.ref m_)=some false)
  (Z3:kitOne K (.ref b_) (.ref i0)=some false)
  (Z4:kitOne K (.ref b_) (.ref nc)=some false)
  (Z5:kitOne K (.ref b_) (.ref ng)=some false)
  (Z6:kitOne K (.ref b_) (.ref nh)=some false)
  (Z7:kitOne K (.ref b_) (.ref b_)=some true)
  (Z8:kitOne K (.ref b_) (.ref jG)=some true)
  (Z9:kitOne K (.ref b_) (.type "ValueError")=some true)
  (Z_:exmOne K (.ref b_) (.ref jG)=some true)
  (e5:PySem.W.specialIn K (.builtin "object.__class__") "__get__"=some (some (.builtin "getset_descriptor.__get__")))
  (e6:PySem.W.takesIn K (.builtin "object.__class__")=some true)
  (a0:nsIn K mainGlobals "is_whole"=some (some (.ref f0)))
  (l0:K.lookup f0=some ⟨Wm,UL, .func (fnOf "is_whole" "is_whole" (bF oA) (bh oA) (aM oA) .none Wn Wo Wq UM Gh Wr),VN⟩)
  (c0:codeIn K Gh "is_whole"=true)
  (k0:keepIn K (.ref f0)=true)
  (a1:nsIn K mainGlobals "is_between"=some (some (.ref f1)))
  (l1:K.lookup f1=some ⟨Ws,dg, .func (fnOf "is_between" "is_between" (bF oB) (bh oB) (aM oB) .none Wt Wu Wv UN Gi Ww),VO⟩)
  (c1:codeIn K Gi "is_between"=true)
  (k1:keepIn K (.ref f1)=true)
  (a2:nsIn K mainGlobals "is_truth"=some (some (.ref f2)))
  (l2:K.lookup f2=some ⟨Wx,dr, .func (fnOf "is_truth" "is_truth" (bF oC) (bh oC) (aM oC) .none Wy Wz WA UO Gj WB),lp⟩)
  (c2:codeIn K Gj "is_truth"=true)
  (k2:keepIn K (.ref f2)=true)
  (a3:nsIn K mainGlobals "is_word"=some (some (.ref f3)))
  (l3:K.lookup f3=some ⟨WC,eJ, .func (fnOf "is_word" "is_word" (bF oE) (bh oE) (aM oE) .none WD WE WG UP Gk WH),qh⟩)
  (c3:codeIn K Gk "is_word"=true)
  (k3:keepIn K (.ref f3)=true)
  (a4:nsIn K mainGlobals "is_text"=some (some (.ref f4)))
  (l4:K.lookup f4=some ⟨WI,mQ, .func (fnOf "is_text" "is_text" (bF oF) (bh oF) (aM oF) .none WJ WK WL UQ Gm WM),VP⟩)
  (c4:codeIn K Gm "is_text"=true)
  (k4:keepIn K (.ref f4)=true)
  (a5:nsIn K mainGlobals "are_texts"=some (some (.ref f5)))
  (l5:K.lookup f5=some ⟨WN,UR, .func (fnOf "are_texts" "are_texts" (bF oG) (bh oG) (aM oG) .none WO WQ WR US Gn WS),VQ⟩)
  (c5:codeIn K Gn "are_texts"=true)
  (k5:keepIn K (.ref f5)=true)
  (a6:nsIn K mainGlobals "is_object"=some (some (.ref f6)))
  (l6:K.lookup f6=some ⟨WT,UT, .func (fnOf "is_object" "is_object" (bF oH) (bh oH) (aM oH) .none WU WV WW UU Gp WX),VR⟩)
  (c6:codeIn K Gp "is_object"=true)
  (k6:keepIn K (.ref f6)=true)
  (a7:nsIn K mainGlobals "is_deed"=some (some (.ref f7)))
  (l7:K.lookup f7=some ⟨WY,UW, .func (fnOf "is_deed" "is_deed" (bF oI) (bh oI) (aM oI) .none WZ W0 W2 UX Gq W3),VS⟩)
  (c7:codeIn K Gq "is_deed"=true)
  (k7:keepIn K (.ref f7)=true)
  (a8:nsIn K mainGlobals "need_deed"=some (some (.ref f8)))
  (l8:K.lookup f8=some ⟨W4,UY, .func (fnOf "need_deed" "need_deed" (bF oJ) (bh oJ) (aM oJ) .none W5 W6 W7 UZ Gr W8),VT⟩)
  (c8:codeIn K Gr "need_deed"=true)
  (k8:keepIn K (.ref f8)=true)
  (a9:nsIn K mainGlobals "quoted"=some (some (.ref f9)))
  (l9:K.lookup f9=some ⟨W9,U0, .func (fnOf "quoted" "quoted" (bF oK) (bh oK) (aM oK) .none W_ Xa Xb U1 Gs Xd),VU⟩)
  (c9:codeIn K Gs "quoted"=true)
  (k9:keepIn K (.ref f9)=true)
  (a10:nsIn K mainGlobals "words_of"=some (some (.ref zB)))
  (l10:K.lookup zB=some ⟨Xe,U2, .func (fnOf "words_of" "words_of" (bF oM) (bh oM) (aM oM) .none Xf Xg Xh U3 Gu Xi),VW⟩)
  (hZ:codeIn K Gu "words_of"=true)
  (yl:keepIn K (.ref zB)=true)
  (a11:nsIn K mainGlobals "shown"=some (some (.ref zC)))
  (l11:K.lookup zC=some ⟨Xj,U4, .func (fnOf "shown" "shown" (bF oN) (bh oN) (aM oN) .none Xk Xl Xm U5 Gv Xn),VX⟩)
  (h_:codeIn K Gv "shown"=true)
  (ym:keepIn K (.ref zC)=true)
  (a12:nsIn K mainGlobals "texts_of"=some (some (.ref zD)))
  (l12:K.lookup zD=some ⟨Xo,U6, .func (fnOf "texts_of" "texts_of" (bF oO) (bh oO) (aM oO) .none Xp Xq Xr U7 Gw Xs),VY⟩)
  (ia:codeIn K Gw "texts_of"=true)
  (yn:keepIn K (.ref zD)=true)
  (a13:nsIn K mainGlobals "number_of"=some (some (.ref zE)))
  (l13:K.lookup zE=some ⟨Xt,U8, .func (fnOf "number_of" "number_of" (bF oP) (bh oP) (aM oP) .none Xu Xv Xw U9 Gx Xx),VZ⟩)
  (c13:codeIn K Gx "number_of"=true)
  (k13:keepIn K (.ref zE)=true)
  (a14:nsIn K mainGlobals "guess"=some (some (.ref zF)))
  (l14:K.lookup zF=some ⟨Xy,U_, .func (fnOf "guess" "guess" (bF oQ) (bh oQ) (aM oQ) .none Xz XA XB Va Gy XC),V0⟩)
  (c14:codeIn K Gy "guess"=true)
  (k14:keepIn K (.ref zF)=true)
  (a15:nsIn K mainGlobals "read"=some (some (.ref zG)))
  (l15:K.lookup zG=some ⟨XD,Vb, .func (fnOf "read" "read" (bF oR) (bh oR) (aM oR) .none XE XF XG Vc Gz XH),V1⟩)
  (yW:codeIn K Gz "read"=true)
  (k15:keepIn K (.ref zG)=true)
  (a16:nsIn K mainGlobals "_law_cell_at"=some (some (.ref zH)))
  (l16:K.lookup zH=some ⟨XI,Vd, .func (fnOf "_law_cell_at" "_law_cell_at" (bF oS) (bh oS) (aM oS) .none XJ XM XN Ve GA XO),V2⟩)
  (ER:codeIn K GA "_law_cell_at"=true)
  (k16:keepIn K (.ref zH)=true)
  (a17:nsIn K mainGlobals "_law_mixed"=some (some (.ref zI)))
  (l17:K.lookup zI=some ⟨XQ,Vf, .func (fnOf "_law_mixed" "_law_mixed" (bF oT) (bh oT) (aM oT) .none XR XS XT Vg GB XU),V3⟩)
  (c17:codeIn K GB "_law_mixed"=true)
  (k17:keepIn K (.ref zI)=true)
  (a18:nsIn K mainGlobals "_law_word"=some (some (.ref zJ)))
  (l18:K.lookup zJ=some ⟨XW,Vh, .func (fnOf "_law_word" "_law_word" (bF df) (bh df) (aM df) .none XX XY XZ Vi GC X0),V4⟩)
  (c18:codeIn K GC "_law_word"=true)
  (k18:keepIn K (.ref zJ)=true)
  (a19:nsIn K mainGlobals "_law_note_text"=some (some (.ref zK)))
  (l19:K.lookup zK=some ⟨X1,Vj, .func (fnOf "_law_note_text" "_law_note_text" (bF d0) (bh d0) (aM d0) .none X3 X4 X5 Vk GD X6),V5⟩)
  (c19:codeIn K GD "_law_note_text"=true)
  (k19:keepIn K (.ref zK)=true)
  (a20:nsIn K mainGlobals "_law_deed"=some (some (.ref zL)))
  (l20:K.lookup zL=some ⟨X7,Vl, .func (fnOf "_law_deed" "_law_deed" (bF cq) (bh cq) (aM cq) .none X8 X9 X_ Vm GF Ya),V6⟩)
  (c20:codeIn K GF "_law_deed"=true)
  (k20:keepIn K (.ref zL)=true)
  (a21:nsIn K mainGlobals "_law_quoted"=some (some (.ref zM)))
  (l21:K.lookup zM=some ⟨Yb,Vn, .func (fnOf "_law_quoted" "_law_quoted" (bF oV) (bh oV) (aM oV) .none Yc Yd Ye Vo GG Yf),V7⟩)
  (c21:codeIn K GG "_law_quoted"=true)
  (k21:keepIn K (.ref zM)=true)
  (a22:nsIn K mainGlobals "_law_line"=some (some (.ref zN)))
  (l22:K.lookup zN=some ⟨Yg,Vp, .func (fnOf "_law_line" "_law_line" (bF oX) (bh oX) (aM oX) .none Yh Yi Yj Vq GH Yk),V8⟩)
  (c22:codeIn K GH "_law_line"=true)
  (k22:keepIn K (.ref zN)=true)
  (a23:nsIn K mainGlobals "_law_tokens"=some (some (.ref zO)))
  (l23:K.lookup zO=some ⟨Yl,Vr, .func (fnOf "_law_tokens" "_law_tokens" (bF d4) (bh d4) (aM d4) .none Ym Yn Yo Vs GI Yp),V9⟩)
  (c23:codeIn K GI "_law_tokens"=true)
  (k23:keepIn K (.ref zO)=true)
  (a24:nsIn K mainGlobals "_law_good"=some (some (.ref zP)))
  (l24:K.lookup zP=some ⟨Yq,Vt, .func (fnOf "_law_good" "_law_good" (bF oY) (bh oY) (aM oY) .none Yr Ys Yt Vu GJ Yu),V_⟩)
  (c24:codeIn K GJ "_law_good"=true)
  (k24:keepIn K (.ref zP)=true)
  (a25:nsIn K mainGlobals "_law_number_of"=some (some (.ref zQ)))
  (l25:K.lookup zQ=some ⟨Yv,Vv, .func (fnOf "_law_number_of" "_law_number_of" (bF oZ) (bh oZ) (aM oZ) .none Yw Yx Yy Vw GK Yz),Wc⟩)
  (yX:codeIn K GK "_law_number_of"=true)
  (k25:keepIn K (.ref zQ)=true)
  (a26:nsIn K mainGlobals "_law_texts_deed"=some (some (.ref zR)))
  (l26:K.lookup zR=some ⟨YA,Vx, .func (fnOf "_law_texts_deed" "_law_texts_deed" (bF o5) (bh o5) (aM o5) .none YB YC YD Vy GL YE),Wd⟩)
  (yZ:codeIn K GL "_law_texts_deed"=true)
  (k26:keepIn K (.ref zR)=true)
  (a27:nsIn K mainGlobals "_law_read"=some (some (.ref zS)))
  (l27:K.lookup zS=some ⟨YF,Vz, .func (fnOf "_law_read" "_law_read" (bF bQ) (bh bQ) (aM bQ) .none YG YH YI VA GN YJ),We⟩)
  (c27:codeIn K GN "_law_read"=true)
  (k27:keepIn K (.ref zS)=true)
  (a28:nsIn K mainGlobals "_law_sign"=some (some (.ref zT)))
  (l28:K.lookup zT=some ⟨YK,VB, .func (fnOf "_law_sign" "_law_sign" (bF fi) (bh fi) (aM fi) .none YL YM YN VC GO YO),Wg⟩)
  (c28:codeIn K GO "_law_sign"=true)
  (k28:keepIn K (.ref zT)=true)
  (a29:nsIn K mainGlobals "_law_odd"=some (some (.ref zU)))
  (l29:K.lookup zU=some ⟨YQ,VD, .func (fnOf "_law_odd" "_law_odd" (bF d6) (bh d6) (aM d6) .none YR YS YT VE GP YU),Wh⟩)
  (c29:codeIn K GP "_law_odd"=true)
  (k29:keepIn K (.ref zU)=true)
  (a30:nsIn K mainGlobals "_law_bent"=some (some (.ref zV)))
  (l30:K.lookup zV=some ⟨YV,VF, .func (fnOf "_law_bent" "_law_bent" (bF cC) (bh cC) (aM cC) .none YW YX YY VG GQ YZ),Wi⟩)
  (c30:codeIn K GQ "_law_bent"=true)
  (k30:keepIn K (.ref zV)=true)
  (a31:nsIn K mainGlobals "_law_alike_part"=some (some (.ref zW)))
  (l31:K.lookup zW=some ⟨Y0,VH, .func (fnOf "_law_alike_part" "_law_alike_part" (bF o6) (bh o6) (aM o6) .none Y1 Y2 Y3 VI GR Y4),Wj⟩)
  (c31:codeIn K GR "_law_alike_part"=true)
  (k31:keepIn K (.ref zW)=true)
  (a32:nsIn K mainGlobals "_law_right"=some (some (.ref zX)))
  (l32:K.lookup zX=some ⟨Y5,VJ, .func (fnOf "_law_right" "_law_right" (bF o7) (bh o7) (aM o7) .none Y6 Y7 Y8 VL GS Y9),Wk⟩)
  (c32:codeIn K GS "_law_right"=true)
  (k32:keepIn K (.ref zX)=true)
  (a33:nsIn K mainGlobals "law"=some (some (.ref zY)))
  (l33:K.lookup zY=some ⟨Y_,VM, .func (fnOf "law" "law" (bF eG) (bh eG) (aM eG) .none GU GV GW Gg zZ GX),Wl⟩)
  (c33:codeIn K zZ "law"=true)
  (k33:keepIn K (.ref zY)=true)
  (aby:nsIn K mainGlobals "SIGNS"=some (some (Value.str SG Za)))
  (abz:nsIn K mainGlobals "MOST_CURSORS"=some (some (Value.int 40 Zb)))
  (abA:nsIn K mainGlobals "MOST_NUMBER"=some (some (Value.int 999999999 Zc)))
  (abB:nsIn K mainGlobals "FIGURES"=some (some (Value.str FG Zd)))
  (abC:nsIn K mainGlobals "MOST_FIGURES"=some (some (Value.int 9 Ze)))
  (abD:nsIn K mainGlobals "SIDES"=some (some (.ref r6)))
  (abE:K.lookup r6=some ⟨.type "tuple",none, .seq #[.str "left" Zg, .str "right" Zh] Zf,#[]⟩)
  (abF:nsIn K mainGlobals "STEP_WORDS"=some (some (.ref r9)))
  (abG:K.lookup r9=some ⟨.type "tuple",none, .seq #[.str "left" Zj, .str "right" Zk, .str "home" Zl, .str "end" Zm, .str "top" Zn, .str "bottom" Zo, .str "back" Zp, .str "on" Zq, .str "up" Zr, .str "down" Zs] Zi,#[]⟩)
  (abH:nsIn K mainGlobals "ERASE_WORDS"=some (some (.ref r_)))
  (abI:K.lookup r_=some ⟨.type "tuple",none, .seq #[.str "left" Zu, .str "right" Zv, .str "back" Zw, .str "on" Zx, .str "home" Zy, .str "end" Zz] Zt,#[]⟩)
  (abJ:nsIn K mainGlobals "ValueError"=some none)
  (abK:nsIn K mainGlobals "all"=some none)
  (abL:nsIn K mainGlobals "bool"=some none)
  (abM:nsIn K mainGlobals "int"=some none)
  (abN:nsIn K mainGlobals "isinstance"=some none)
  (abO:nsIn K mainGlobals "len"=some none)
  (abP:nsIn K mainGlobals "range"=some none)
  (abQ:nsIn K mainGlobals "str"=some none)
  (abR:nsIn K mainGlobals "tuple"=some none)
  (abS:nsIn K mainGlobals "zip"=some none)
  : ∃fd:FuncData,(∀(s:Shared) (v:Value),BindsTo s fd ⟨[v],[]⟩ [("_law_script",v)])∧ ∀base:Heap,K.In base→base.Ns mainGlobals mg→da l.prog w K mg base tu 9 fa fd ["_law_script"] (fun vs H Q _=> (vH K) vs H Q E0):=by
 have e:=UK.symm.trans (mg_of X G a33)
 cases e
 have abT:mg "ValueError"=none:=mg_none_of X G abJ
 have vI:mg "all"=none:=mg_none_of X G abK
 have y_bool:mg "bool"=none:=mg_none_of X G abL
 have se:mg "int"=none:=mg_none_of X G abM
 have jH:mg "isinstance"=none:=mg_none_of X G abN
 have jI:mg "len"=none:=mg_none_of X G abO
 have z0:mg "range"=none:=mg_none_of X G abP
 have ni:mg "str"=none:=mg_none_of X G abQ
 have nj:mg "tuple"=none:=mg_none_of X G abR
 have abU:mg "zip"=none:=mg_none_of X G abS
 have abV:cX mg ("SIGNS", .str SG):=⟨_,mg_of X G aby,⟨_,rfl⟩⟩
 have abW:cX mg ("MOST_CURSORS", .int 40):=⟨_,mg_of X G abz,⟨_,rfl⟩⟩
 have abX:cX mg ("MOST_NUMBER", .int 999999999):=⟨_,mg_of X G abA,⟨_,rfl⟩⟩
 have abY:cX mg ("FIGURES", .str FG):=⟨_,mg_of X G abB,⟨_,rfl⟩⟩
 have abZ:cX mg ("MOST_FIGURES", .int 9):=⟨_,mg_of X G abC,⟨_,rfl⟩⟩
 have G1:cX mg ("InkError", .ref jG):=⟨_,mg_of X G ZA,rfl⟩
 have ab0:cX mg ("BadText", .ref mV):=⟨_,mg_of X G ZC,rfl⟩
 have ab1:cX mg ("BadChange", .ref mX):=⟨_,mg_of X G ZD,rfl⟩
 have ab2:cX mg ("BadFit", .ref mY):=⟨_,mg_of X G ZE,rfl⟩
 have ab3:cX mg ("NoPlace", .ref mZ):=⟨_,mg_of X G ZF,rfl⟩
 have ab4:cX mg ("BadSide", .ref m3):=⟨_,mg_of X G ZG,rfl⟩
 have ab5:cX mg ("NoMark", .ref m6):=⟨_,mg_of X G ZH,rfl⟩
 have ab6:cX mg ("NoNode", .ref m9):=⟨_,mg_of X G ZI,rfl⟩
 have ab7:cX mg ("NoCursor", .ref m_):=⟨_,mg_of X G ZJ,rfl⟩
 have ab8:cX mg ("BadDeed", .ref i0):=⟨_,mg_of X G GY,rfl⟩
 have ab9:cX mg ("BadLetter", .ref nc):=⟨_,mg_of X G ZK,rfl⟩
 have ab_:cX mg ("NoLetter", .ref ng):=⟨_,mg_of X G ZL,rfl⟩
 have aca:cX mg ("NoHand", .ref nh):=⟨_,mg_of X G ZM,rfl⟩
 have acb:cX mg ("NoNote", .ref b_):=⟨_,mg_of X G GZ,rfl⟩
 have acd:kb K [mV,mX,mY,mZ,m3,m6,m9,m_,i0,nc,ng,nh,b_] jG b_ 12:=Oy ⟨ZP,ZQ,ZR,ZS,e5,e6,ZT,ZU⟩ Z8 Z9 ZV ZW ZX ZY ZZ Z0 Z1 Z2 Z3 Z4 Z5 Z6 Z7
 have ace:cX mg ("SIDES", .ref r6):=⟨_,mg_of X G abD,rfl⟩
 have acf:nY K r6 [.str "left", .str "right"]:=fun _=> .inr ⟨_,_,_,abE,rfl,rfl,(by show 2≤sizeLine;decide),(.cons ⟨_,rfl⟩ (.cons ⟨_,rfl⟩ .nil))⟩
 have acg:cX mg ("STEP_WORDS", .ref r9):=⟨_,mg_of X G abF,rfl⟩
 have ach:nY K r9 [.str "left", .str "right", .str "home", .str "end", .str "top", .str "bottom", .str "back", .str "on", .str "up", .str "down"]:=fun _=> .inr ⟨_,_,_,abG,rfl,rfl,(by show 10≤sizeLine;decide),(.cons ⟨_,rfl⟩ (.cons ⟨_,rfl⟩ (.cons ⟨_,rfl⟩ (.cons ⟨_,rfl⟩ (.cons ⟨_,rfl⟩ (.cons ⟨_,rfl⟩ (.cons ⟨_,rfl⟩ (.cons ⟨_,rfl⟩ (.cons ⟨_,rfl⟩ (.cons ⟨_,rfl⟩ .nil))))))))))⟩
 have aci:cX mg ("ERASE_WORDS", .ref r_):=⟨_,mg_of X G abH,rfl⟩
 have acj:nY K r_ [.str "left", .str "right", .str "back", .str "on", .str "home", .str "end"]:=fun _=> .inr ⟨_,_,_,abI,rfl,rfl,(by show 6≤sizeLine;decide),(.cons ⟨_,rfl⟩ (.cons ⟨_,rfl⟩ (.cons ⟨_,rfl⟩ (.cons ⟨_,rfl⟩ (.cons ⟨_,rfl⟩ (.cons ⟨_,rfl⟩ .nil))))))⟩
 refine⟨fnOf "law" "law" (bF eG) (bh eG) (aM eG) .none GU GV GW Gg zZ GX,fun s v=> .of_eq rfl,fun base X2 G2=> ?_⟩
 have ack:uu mg base ("BadDeed",i0):=D0 X2 G2 GY ZN
 have acm:uu mg base ("NoNote",b_):=D0 X2 G2 GZ ZO
 have F0:=cc (st:=oA) l0 c0 k0
 have B0:=cN (ps:=cE) F0 rfl fun _ _ _ _ _ _ _=>rfl
 have T0:bV l.prog w K mg base 1 "is_whole" (qD):=⟨_,_,_,(ck (k:=0) F0 Qn [] [] DD [] [] [] [] xU @Qo ak ak (aD jH (aD se (aD y_bool ak))) [] ak ak ak ak ak (by rintro vs H Q E ⟨_,rfl,_⟩;rfl) N_),mg_of X G a0,F0.kp,B0⟩
 have F1:=cc (st:=oB) l1 c1 k1
 have B1:=Gf (ps:=qu) F1 rfl fun _ _ _ _ _ _ _ _ _=>rfl
 have T1:bV l.prog w K mg base 2 "is_between" (jw):=⟨_,_,_,(ck (k:=1) F1 Qp [("is_whole",qD)] [] aa [] [] [] [] xY @Qq (aD (T0.mono (by omega)) ak) ak ak [] ak ak ak ak ak (by rintro vs H Q E ⟨_,_,_,rfl,_⟩;rfl) OA),mg_of X G a1,F1.kp,B1⟩
 have F2:=cc (st:=oC) l2 c2 k2
 have B2:=cN (ps:=cE) F2 rfl fun _ _ _ _ _ _ _=>rfl
 have T2:bV l.prog w K mg base 1 "is_truth" (ki):=⟨_,_,_,(ck (k:=0) F2 Qr [] [] aa [] [] [] [] yt @Qs ak ak ak [] ak ak ak ak ak (by rintro vs H Q E ⟨_,rfl,_⟩;rfl) Ph),mg_of X G a2,F2.kp,B2⟩
 have F3:=cc (st:=oE) l3 c3 k3
 have B3:=mU (ps:=nT) F3 rfl fun _ _ _ _ _ _ _ _=>rfl
 have T3:bV l.prog w K mg base 1 "is_word" (ju K):=⟨_,_,_,(ck (k:=0) F3 Qt [] [] nU [] [] [] [] uv @Qu ak ak (aD jH (aD ni ak)) [] ak ak ak ak ak (by rintro vs H Q E ⟨_,_,_,rfl,_⟩;rfl) Ob),mg_of X G a3,F3.kp,B3⟩
 have F4:=cc (st:=oF) l4 c4 k4
 have B4:=cN (ps:=cE) F4 rfl fun _ _ _ _ _ _ _=>rfl
 have T4:bV l.prog w K mg base 1 "is_text" (ka):=⟨_,_,_,(ck (k:=0) F4 Qw [] [("SIGNS", .str SG)] nU [] [] [] [] uw @Qx ak (aD abV ak) (aD jH (aD ni ak)) [] ak ak ak ak ak (by rintro vs H Q E ⟨_,rfl,_⟩;rfl) Oa),mg_of X G a4,F4.kp,B4⟩
 have F5:=cc (st:=oG) l5 c5 k5
 have B5:=cN (ps:=cE) F5 rfl fun _ _ _ _ _ _ _=>rfl
 have T5:bV l.prog w K mg base 2 "are_texts" (qT):=⟨_,_,_,(ck (k:=1) F5 Qy [("is_text",ka)] [("MOST_CURSORS", .int 40)] Ep [] [] [] [] yy @Qz (aD (T4.mono (by omega)) ak) (aD abW ak) (aD jH (aD nj (aD jI (aD vI ak)))) [] ak ak ak ak ak (by rintro vs H Q E ⟨_,_,rfl,_⟩;rfl) Pj),mg_of X G a5,F5.kp,B5⟩
 have F6:=cc (st:=oH) l6 c6 k6
 have B6:=mU (ps:=qM) F6 rfl fun _ _ _ _ _ _ _ _=>rfl
 have T6:bV l.prog w K mg base 3 "is_object" (qU):=⟨_,_,_,(ck (k:=2) F6 QC [("is_text",ka),("are_texts",qT),("is_word",ju K),("is_between",jw),("is_truth",ki)] [("ERASE_WORDS", .ref r_),("MOST_NUMBER", .int 999999999),("SIDES", .ref r6)] aa [] [] [] [] yz @QD (aD (T4.mono (by omega)) (aD (T5.mono (by omega)) (aD (T3.mono (by omega)) (aD (T1.mono (by omega)) (aD (T2.mono (by omega)) ak))))) (aD aci (aD abX (aD ace ak))) ak [] ak ak ak ak ak (by rintro vs H Q E ⟨_,_,_,rfl,_⟩;rfl) (Pl acj acf)),mg_of X G a6,F6.kp,B6⟩
 have F7:=cc (st:=oI) l7 c7 k7
 have B7:=cN (ps:=cE) F7 rfl fun _ _ _ _ _ _ _=>rfl
 have T7:bV l.prog w K mg base 4 "is_deed" (kj):=⟨_,_,_,(ck (k:=3) F7 QE [("is_word",ju K),("is_truth",ki),("is_object",qU)] [("STEP_WORDS", .ref r9)] Er [] [] [] [] oh @QF (aD (T3.mono (by omega)) (aD (T2.mono (by omega)) (aD (T6.mono (by omega)) ak))) (aD acg ak) (aD jH (aD nj (aD jI (aD ni ak)))) [] ak ak ak ak ak (by rintro vs H Q E ⟨_,_,rfl,_⟩;rfl) (Pm ach)),mg_of X G a7,F7.kp,B7⟩
 have F8:=cc (st:=oJ) l8 c8 k8
 have B8:=cN (ps:=gF) F8 rfl fun _ _ _ _ _ _ _=>rfl
 have T8:bV l.prog w K mg base 5 "need_deed" (qX):=⟨_,_,_,(ck (k:=4) F8 QG [("is_deed",kj)] [] aa [] [] [("BadDeed",i0)] [] yA @QH (aD (T7.mono (by omega)) ak) ak ak [] ak ak ak (aD ack ak) ak (by rintro vs H Q E ⟨_,_,_,rfl,_⟩;rfl) Pn),mg_of X G a8,F8.kp,B8⟩
 have F9:=cc (st:=oK) l9 c9 k9
 have B9:=cN (ps:=qN) F9 rfl fun _ _ _ _ _ _ _=>rfl
 have T9:bV l.prog w K mg base 1 "quoted" (fu):=⟨_,_,_,(ck (k:=0) F9 QI [] [] aa [] [] [] [] yB @QJ ak ak ak [] ak ak ak ak ak (by rintro vs H Q E ⟨_,rfl,_⟩;rfl) Po),mg_of X G a9,F9.kp,B9⟩
 have z5:=cc (st:=oM) l10 hZ yl
 have B10:=cN (ps:=gF) z5 rfl fun _ _ _ _ _ _ _=>rfl
 have T10:bV l.prog w K mg base 2 "words_of" (qY):=⟨_,_,_,(ck (k:=1) z5 QK [("quoted",fu)] [] Es [] [] [] [] vc @QL (aD (T9.mono (by omega)) ak) ak (aD ni ak) [] ak ak ak ak ak (by rintro vs H Q E ⟨_,_,rfl,_⟩;rfl) Pp),mg_of X G a10,z5.kp,B10⟩
 have z6:=cc (st:=oN) l11 h_ ym
 have B11:=cN (ps:=gF) z6 rfl fun _ _ _ _ _ _ _=>rfl
 have T11:bV l.prog w K mg base 6 "shown" (q8):=⟨_,_,_,(ck (k:=5) z6 QM [("need_deed",qX),("words_of",qY)] [] aa [] [] [] [] yC @QN (aD (T8.mono (by omega)) (aD (T10.mono (by omega)) ak)) ak ak [] ak ak ak ak ak (by rintro vs H Q E ⟨_,_,_,rfl,_⟩;rfl) Pr),mg_of X G a11,z6.kp,B11⟩
 have z7:=cc (st:=oO) l12 ia yn
 have B12:=cN (ps:=Et) z7 rfl fun _ _ _ _ _ _ _=>rfl
 have T12:bV l.prog w K mg base 1 "texts_of" (oq):=⟨_,_,_,(ck (k:=0) z7 QO [] [] aa [] [] [] [] yE @QP ak ak ak [] ak ak ak ak ak (by rintro vs H Q E ⟨_,rfl,_⟩;rfl) Pw),mg_of X G a12,z7.kp,B12⟩
 have z8:=cc (st:=oP) l13 c13 k13
 have B13:=cN (ps:=qO) z8 rfl fun _ _ _ _ _ _ _=>rfl
 have T13:bV l.prog w K mg base 1 "number_of" (q_):=⟨_,_,_,(ck (k:=0) z8 QR [] [("MOST_FIGURES", .int 9),("FIGURES", .str FG)] vd [] [] [] [] yF @QS ak (aD abZ (aD abY ak)) (aD jI (aD se ak)) [] ak ak ak ak ak (by rintro vs H Q E ⟨_,rfl,_⟩;rfl) Pz),mg_of X G a13,z8.kp,B13⟩
 have z9:=cc (st:=oQ) l14 c14 k14
 have B14:=cN (ps:=vg) z9 rfl fun _ _ _ _ _ _ _=>rfl
 have T14:bV l.prog w K mg base 2 "guess" (rj):=⟨_,_,_,(ck (k:=1) z9 QU [("texts_of",oq),("number_of",q_)] [] Eu [] [] [] [] qP @QV (aD (T12.mono (by omega)) (aD (T13.mono (by omega)) ak)) ak (aD nj ak) [] ak ak ak ak ak (by rintro vs H Q E ⟨_,rfl,_⟩;rfl) PJ),mg_of X G a14,z9.kp,B14⟩
 have z_:=cc (st:=oR) l15 yW k15
 have B15:=cN (ps:=vg) z_ rfl fun _ _ _ _ _ _ _=>rfl
 have T15:bV l.prog w K mg base 7 "read" (rn b_):=⟨_,_,_,(ck (k:=6) z_ QW [("guess",rj),("is_deed",kj),("shown",q8)] [] nU [] [] [("NoNote",b_)] [] yH @QX (aD (T14.mono (by omega)) (aD (T7.mono (by omega)) (aD (T11.mono (by omega)) ak))) ak (aD jH (aD ni ak)) [] ak ak ak (aD acm ak) ak (by rintro vs H Q E ⟨_,rfl,_⟩;rfl) PM),mg_of X G a15,z_.kp,B15⟩
 have Aa:=cc (st:=oS) l16 ER k16
 have B16:=mU (ps:=qr) Aa rfl fun _ _ _ _ _ _ _ _=>rfl
 have T16:bV l.prog w K mg base 1 "_law_cell_at" (j9 K):=⟨_,_,_,(ck (k:=0) Aa QY [] [] eY [] [] [] [] xV @QZ ak ak (aD jI ak) [] ak ak ak ak ak (by rintro vs H Q E ⟨_,_,_,rfl,_⟩;rfl) NF),mg_of X G a16,Aa.kp,B16⟩
 have Ab:=cc (st:=oT) l17 c17 k17
 have B17:=mU (ps:=DE) Ab rfl fun _ _ _ _ _ _ _ _=>rfl
 have Ac:bV l.prog w K mg base 1 "_law_mixed" (fQ):=⟨_,_,_,(ck (k:=0) Ab Q0 [] [] aa [] [] [] [] xX @Q1 ak ak ak [] ak ak ak ak ak (by rintro vs H Q E ⟨_,_,rfl,_⟩;rfl) NG),mg_of X G a17,Ab.kp,B17⟩
 have G3:=cc (st:=df) l18 c18 k18
 have B18:=cN (ps:=DF) G3 rfl fun _ _ _ _ _ _ _=>rfl
 have T18:nS l.prog w K mg base 1 "_law_word" (qE K [mV,mX,mY,mZ,m3,m6,m9,m_,i0,nc,ng,nh,b_] jG):=Ny (k:=0) G3 Q3 (mg_of X G a18) B18 [("BadText", .ref mV),("BadChange", .ref mX),("BadFit", .ref mY),("NoPlace", .ref mZ),("BadSide", .ref m3),("NoMark", .ref m6),("NoNode", .ref m9),("NoCursor", .ref m_),("BadDeed", .ref i0),("BadLetter", .ref nc),("NoLetter", .ref ng),("NoHand", .ref nh),("NoNote", .ref b_),("InkError", .ref jG)] iM dw @Rb (aD ab0 (aD ab1 (aD ab2 (aD ab3 (aD ab4 (aD ab5 (aD ab6 (aD ab7 (aD ab8 (aD ab9 (aD ab_ (aD aca (aD acb (aD G1 ak)))))))))))))) (aD jH (aD abT ak)) (by rintro vs H Q E ⟨_,_,_,rfl,_⟩;rfl) Ot
 have Ad:=cc (st:=d0) l19 c19 k19
 have B19:=cN (ps:=kz) Ad rfl fun _ _ _ _ _ _ _=>rfl
 have T19:bV l.prog w K mg base 2 "_law_note_text" (mM):=⟨_,_,_,(ck (k:=1) Ad Rc [("_law_mixed",fQ)] [] gI [] [] [] [] fB @Rk (aD (Ac.mono (by omega)) ak) ak (aD z0 ak) [] ak ak ak ak ak (by rintro vs H Q E ⟨_,rfl,_⟩;rfl) (fun vs H Q E h=>Ug vs H h)),mg_of X G a19,Ad.kp,B19⟩
 have Ae:=cc (st:=cq) l20 c20 k20
 have B20:=cN (ps:=kz) Ae rfl fun _ _ _ _ _ _ _=>rfl
 have T20:bV l.prog w K mg base 3 "_law_deed" (rR):=⟨_,_,_,(ck (k:=2) Ae Rl [("_law_mixed",fQ),("_law_note_text",mM)] [] fg [] [] [] [] cx @RA (aD (Ac.mono (by omega)) (aD (T19.mono (by omega)) ak)) ak (aD nj (aD z0 ak)) [] ak ak ak ak ak (by rintro vs H Q E ⟨_,rfl,_⟩;rfl) (fun vs H Q E h=>Ui vs H h)),mg_of X G a20,Ae.kp,B20⟩
 have Af:=cc (st:=oV) l21 c21 k21
 have B21:=cN (ps:=vq) Af rfl fun _ _ _ _ _ _ _=>rfl
 have T21:bV l.prog w K mg base 1 "_law_quoted" (fu):=⟨_,_,_,(ck (k:=0) Af RB [] [] aa [] [] [] [] y4 @RC ak ak ak [] ak ak ak ak ak (by rintro vs H Q E ⟨_,rfl,_⟩;rfl) TY),mg_of X G a21,Af.kp,B21⟩
 have Ag:=cc (st:=oX) l22 c22 k22
 have B22:=cN (ps:=oW) Ag rfl fun _ _ _ _ _ _ _=>rfl
 have T22:bV l.prog w K mg base 2 "_law_line" (rO):=⟨_,_,_,(ck (k:=1) Ag RF [("_law_quoted",fu)] [] EW [] [] [] [] vt @RG (aD (T21.mono (by omega)) ak) ak (aD se (aD ni ak)) [] ak ak ak ak ak (by rintro vs H Q E ⟨_,_,rfl,_⟩;rfl) (fun vs H Q E h=>Ua vs H h)),mg_of X G a22,Ag.kp,B22⟩
 have Ah:=cc (st:=d4) l23 c23 k23
 have B23:=cN (ps:=vv) Ah rfl fun _ _ _ _ _ _ _=>rfl
 have T23:bV l.prog w K mg base 1 "_law_tokens" (rK):=⟨_,_,_,(ck (k:=0) Ah RH [] [] aa [] [] [] [] fh @RN ak ak ak [] ak ak ak ak ak (by rintro vs H Q E ⟨_,rfl,_⟩;rfl) (fun vs H Q E h=>To vs H Q h)),mg_of X G a23,Ah.kp,B23⟩
 have Ai:=cc (st:=oY) l24 c24 k24
 have B24:=cN (ps:=vq) Ai rfl fun _ _ _ _ _ _ _=>rfl
 have T24:bV l.prog w K mg base 1 "_law_good" (o_):=⟨_,_,_,(ck (k:=0) Ai RO [] [] aa [] [] [] [] y7 @RP ak ak ak [] ak ak ak ak ak (by rintro vs H Q E ⟨_,rfl,_⟩;rfl) Te),mg_of X G a24,Ai.kp,B24⟩
 have Aj:=cc (st:=oZ) l25 yX k25
 have B25:=cN (ps:=rq) Aj rfl fun _ _ _ _ _ _ _=>rfl
 have T25:bV l.prog w K mg base 1 "_law_number_of" (rJ):=⟨_,_,_,(ck (k:=0) Aj RQ [] [] vd [] [] [] [] rA @RT ak ak (aD jI (aD se ak)) [] ak ak ak ak ak (by rintro vs H Q E ⟨_,rfl,_⟩;rfl) Tg),mg_of X G a25,Aj.kp,B25⟩
 have Ak:=cc (st:=o5) l26 yZ k26
 have B26:=mU (ps:=rB) Ak rfl fun _ _ _ _ _ _ _ _=>rfl
 have T26:bV l.prog w K mg base 2 "_law_texts_deed" (rL):=⟨_,_,_,(ck (k:=1) Ak RV [("_law_good",o_)] [] EX [] [] [] [] vw @RW (aD (T24.mono (by omega)) ak) ak (aD vI (aD jI (aD nj ak))) [] ak ak ak ak ak (by rintro vs H Q E ⟨_,_,_,rfl,_⟩;rfl) Tt),mg_of X G a26,Ak.kp,B26⟩
 have Al:=cc (st:=bQ) l27 c27 k27
 have B27:=cN (ps:=vv) Al rfl fun _ _ _ _ _ _ _=>rfl
 have T27:bV l.prog w K mg base 3 "_law_read" (pd):=⟨_,_,_,(ck (k:=2) Al RX [("_law_tokens",rK),("_law_texts_deed",rL),("_law_number_of",rJ)] [] dQ [] [] [] [] bO @Sf (aD (T23.mono (by omega)) (aD (T26.mono (by omega)) (aD (T25.mono (by omega)) ak))) ak (aD se (aD jI ak)) [] ak ak ak ak ak (by rintro vs H Q E ⟨_,rfl,_⟩;rfl) (fun vs H Q E h=>TV vs H h)),mg_of X G a27,Al.kp,B27⟩
 have Am:=cc (st:=fi) l28 c28 k28
 have B28:=cN (ps:=kz) Am rfl fun _ _ _ _ _ _ _=>rfl
 have T28:bV l.prog w K mg base 1 "_law_sign" (ph):=⟨_,_,_,(ck (k:=0) Am Sg [] [] aa [] [] [] [] gJ @Sl ak ak ak [] ak ak ak ak ak (by rintro vs H Q E ⟨_,rfl,_⟩;rfl) (fun vs H Q E h=>Ul vs H h)),mg_of X G a28,Am.kp,B28⟩
 have An:=cc (st:=d6) l29 c29 k29
 have B29:=cN (ps:=kz) An rfl fun _ _ _ _ _ _ _=>rfl
 have T29:bV l.prog w K mg base 1 "_law_odd" (rT):=⟨_,_,_,(ck (k:=0) An Sm [] [] aa [] [] [] [] fE @Su ak ak ak [] ak ak ak ak ak (by rintro vs H Q E ⟨_,rfl,_⟩;rfl) (fun vs H Q E h=>Um vs H h)),mg_of X G a29,An.kp,B29⟩
 have Ao:=cc (st:=cC) l30 c30 k30
 have B30:=Gf (ps:=EY) Ao rfl fun _ _ _ _ _ _ _ _ _=>rfl
 have T30:bV l.prog w K mg base 2 "_law_bent" (rY):=⟨_,_,_,(ck (k:=1) Ao Sv [("_law_sign",ph),("_law_odd",rT)] [] eY [] [] [] [] cG @SK (aD (T28.mono (by omega)) (aD (T29.mono (by omega)) ak)) ak (aD jI ak) [] ak ak ak ak ak (by rintro vs H Q E ⟨_,_,_,rfl,_⟩;rfl) (fun vs H Q E h=>Uz vs H h)),mg_of X G a30,Ao.kp,B30⟩
 have Ap:=cc (st:=o6) l31 c31 k31
 have B31:=mU (ps:=rC) Ap rfl fun _ _ _ _ _ _ _ _=>rfl
 have T31:bV l.prog w K mg base 1 "_law_alike_part" (pk):=⟨_,_,_,(ck (k:=0) Ap SM [] [] EZ [] [] [] [] y8 @SN ak ak (aD jH (aD nj (aD vI (aD ni (aD y_bool ak))))) [] ak ak ak ak ak (by rintro vs H Q E ⟨_,_,rfl,_⟩;rfl) (fun vs H Q E h=>Us vs H h)),mg_of X G a31,Ap.kp,B31⟩
 have Aq:=cc (st:=o7) l32 c32 k32
 have B32:=mU (ps:=E1) Aq rfl fun _ _ _ _ _ _ _ _=>rfl
 have T32:bV l.prog w K mg base 8 "_law_right" (mR):=⟨_,_,_,(ck (k:=7) Aq SS [("read",rn b_),("_law_alike_part",pk)] [("InkError", .ref jG)] E2 [] [] [] [("_law_word",qE K [mV,mX,mY,mZ,m3,m6,m9,m_,i0,nc,ng,nh,b_] jG)] y_ @SU (aD (T15.mono (by omega)) (aD (T31.mono (by omega)) ak)) (aD G1 ak) (aD jH (aD nj (aD jI (aD vI (aD abU ak))))) [] ak ak ak ak (aD (T18.mono (by omega)) ak) (by rintro vs H Q E ⟨_,_,rfl,_⟩;rfl) (fun vs H Q E h=>Uw acd Z_ vs H h)),mg_of X G a32,Aq.kp,B32⟩
 have G4:=cc (st:=eG) l33 c33 k33
 have B33:=cN (ps:=E3) G4 rfl fun _ _ _ _ _ _ _=>rfl
 exact da.top (ck (k:=8) G4 SV [("_law_cell_at",j9 K),("_law_deed",rR),("_law_mixed",fQ),("_law_line",rO),("_law_right",mR),("_law_read",pd),("_law_bent",rY)] [] gI [] [] [] [] il @S1 (aD (T16.mono (by omega)) (aD (T20.mono (by omega)) (aD (Ac.mono (by omega)) (aD (T22.mono (by omega)) (aD (T32.mono (by omega)) (aD (T27.mono (by omega)) (aD (T30.mono (by omega)) ak))))))) ak (aD z0 ak) [] ak ak ak ak ak (by rintro vs H Q E ⟨_,_,rfl,_⟩;rfl) (fun vs H Q E h=>UJ vs H h))
theorem walk{l:PySem.W.OpenLaw}{q:Program}{loose:List Str}{XP:(Str→Option Value)→Heap→Prop}{YP:World→Heap→Prop}{d:DefRec}{K:Params→Frag}(hn:l.most=some 63)(pM:d.params.defaults=[])
  (hY: ∀(w:World) (h:Heap),YP w h→(K w.params).In h)
  (F: ∀(w:World) (mg:Str→Option Value) (fa:Addr) (h:Heap),(K w.params).In h→h.Ns mainGlobals mg→mg d.name=some (.ref fa)→
   ∃fd:FuncData,(∀(s:Shared) (u:Value),BindsTo s fd ⟨[u],[]⟩ [("_law_script",u)])∧ ∀base:Heap,(K w.params).In base→base.Ns mainGlobals mg→da l.prog w (K w.params) mg base tu 9 fa fd ["_law_script"] ((fun K=> (fun vs H Q _=> (vH K) vs H Q E0)) (K w.params))):
  PySem.W.WalkO q loose XP YP l.row.toRowW d [] (fun f vs=>PySem.call f vs):=
 L2.J0 (n:=63) (k:=9) (x:="_law_script") (CX:=fun _=>tu) (sp:=fun w=> (fun K=> (fun vs H Q _=> (vH K) vs H Q E0)) (K w.params)) hn (by decide) pM ⟨rfl,by decide,by decide⟩ hY F (fun _ _ a ns hl _ hS=> ⟨a,ns,rfl,hS,fun _=>rfl⟩) fun _ _ _ _ _ z=>z
end L2.eZ
namespace PySem.W.Fast
def tw3858434990695248851:=()
def tw16490458033782980554:=()
def tw12032750893456428675:=()
def tw4231592760836781799:=()
def tw12848564366667535316:=()
def tw7961442091757285135:=()
def tw4984276152227880029:=()
def tw8345437522435164517:=()
def tw15996065724431354310:=()
def tw1051509697655708501:=()
def tw14593111224877376280:=()
def tw522334413925288456:=()
def tw15444031917081032663:=()
def tw1426925462004048858:=()
def tw7386469068403524848:=()
def tw15315243826215814673:=()
def tw5334732919687051808:=()
def tw12988458868582402508:=()
def tw18181249094564476820:=()
def tw9747398637220525324:=()
def tw140561955093667300:=()
def tw4509344167061797236:=()
def tw12028733674884873583:=()
def tw8213324148210684136:=()
def tw13024821993787567541:=()
def tw3025237279753845390:=()
def tw18311852036085974745:=()
def tw15971873374733977334:=()
def tw540564754593780255:=()
def tw8494421700012504642:=()
def tw6363517188429940222:=()
def tw8175855136280062802:=()
def tw18428920851282923002:=()
def tw17044658192964875276:=()
def tw1705504834453809306:=()
def tw11125754987988575702:=()
def tw11093717284148480441:=()
def tw16370940879563320340:=()
def tw17300995174866706513:=()
def tw2291185692946810514:=()
def tw1817610095788534338:=()
def tw6171548893836099521:=()
def tw16095434206309253152:=()
def tw4036866113610057233:=()
def tw17200578246469136231:=()
def tw6751219822401480275:=()
def tw15376472727052090660:=()
def tw11210074602420494815:=()
def tw5500647750641317964:=()
def tw5205630301177989417:=()
def tw5094938205039385439:=()
def tw17607144304619171930:=()
def tw18021794327571480135:=()
def tw14728779576743603709:=()
def tw7595934152504109527:=()
def tw16067138811572421614:=()
def tw11691217417094588148:=()
def tw7328539553672052589:=()
def tw8828681648761974666:=()
def tw9141530919320045074:=()
def tw5248176387972249331:=()
def tw7761480674850165163:=()
def tw6145405576723449907:=()
def tw10123141078564349749:=()
def tw743595807573102765:=()
def tw8551279710561346063:=()
def tw12877349269777111400:=()
def tw692835720713317768:=()
def tw12195689470164756621:=()
def tw3727098422565907432:=()
def tw2278666568881535475:=()
def tw14965249075327636723:=()
def tw4976949367117506135:=()
def tw2274001032572959143:=()
def tw8718372119752879158:=()
def tw6251201515206023981:=()
def tw8006622266270858789:=()
def tw9434234537649213831:=()
def tw4695889474066143850:=()
def tw5201254404477543411:=()
def tw2877551214212754587:=()
def tw16574790719647374879:=()
def tw1220668864218331417:=()
def tw16370551607728060678:=()
def tw7126907677972193388:=()
def tw6721919848050119519:=()
def tw6598403578320040601:=()
def tw581717109656958856:=()
def tw2836997310476014343:=()
def tw7270715500967322350:=()
def tw584264895019124213:=()
def tw17444282701454027138:=()
def tw10322937082471965894:=()
def tw8495939587388582251:=()
def tw15372461809439729566:=()
def tw10674592110521640068:=()
def tw6589573887486664416:=()
def tw7640610585491434936:=()
def tw1048825520522390495:=()
def tw1305470253797098461:=()
def tw7961952634851510411:=()
def tw10194561098863793753:=()
def tw1851226285803198582:=()
def tw2566890853147339766:=()
def tw16300996620230731182:=()
def tw17515143847489985534:=()
def tw3866958892395495185:=()
def tw11897756546809987456:=()
def tw6917631603513746238:=()
def tw18176043620483068431:=()
def tw11057816370249130635:=()
def tw3098288685905165200:=()
def tw15239684903154682137:=()
def tw7364509448087760026:=()
def tw8347285997364535401:=()
def tw9701452498719288528:=()
def tw16860246965006591547:=()
def tw4681062592133144710:=()
def tw45787447014946767:=()
def tw3508828413467877119:=()
def tw2374864123350830271:=()
def tw15765211843136953053:=()
def tw17680337150331743431:=()
def tw5375891480412523304:=()
def tw7422133562956616032:=()
def tw4494016662202552618:=()
def tw17579291193637597660:=()
def tw8381015440532700147:=()
def tw12878247950097954819:=()
def tw5370196244614540265:=()
def tw14966180614480012537:=()
def tw14116842359004171023:=()
def tw17311417660087325112:=()
def tw15031487222661146810:=()
def tw11966645998684173280:=()
def tw14667807438630794000:=()
def tw17950092632673840503:=()
def tw7754739065689282866:=()
def tw2519025753748240905:=()
def tw15491415292314644549:=()
def tw8049300595157653292:=()
def tw14839110429924089037:=()
def tw6874499820038822580:=()
def tw11027976655667691694:=()
def tw1145221974281342670:=()
def tw17334856184925434172:=()
def tw10153995058341215063:=()
def tw10628493034496861977:=()
def tw12229095920367568363:=()
end PySem.W.Fast
open PySem PySem.W PyProof.Rows
set_option maxRecDepth 100000 in
set_option maxHeartbeats 0 in
theorem PySem.Challenge.cw_inkloom_k43_notes_refused_holds : PySem.Challenge.rw_inkloom_k43_notes_refused.Holds := by
 w_on;o_law;k_head;(case hw=>w_witness2)
 k_fill
 refine L2.eZ.walk (l:=PySem.Challenge.rw_inkloom_k43_notes_refused) rfl rfl (fun w h Y=>PySem.W.kIn_of Y) ?F
 case F=>
  intro w mg fa h KX G jd
  refine' L2.eZ.all_mk KX G jd ..
  all_goals try first | k_is | k_exc | kernel_rfl
