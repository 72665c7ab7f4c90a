import PyProof.Rows.All
import Wide.All
import OpenK.AllK
import Wide.FinOn
import Lean
import PyProof.EqAt
import PyProof.EqKinds
import PyProof.TupleCall
import PyProof.Rows.EqDataRows
import PyProof.DictList
import PyProof.FactsAll.dict_1
import PyProof.FactsAll.subtypes_4
import KE.KTryMore
import PyProof.WalksEnum
import PyProof.EnumMake
import PyProof.ListStr
import PyProof.TupleOfStr
import PyProof.Dict
import PyProof.ToksMono
import PyProof.StrCalls6
import PyProof.StrWalks
import PyProof.ConsumeWalk
import PyProof.CallStr
import PyProof.MeetsStr
import KE.KIntText
import PyProof.StrCalls2
import PyProof.StrOps2
import KE.KSortTup
import PyProof.WalksMore
import PyProof.TupleIter
import PyProof.ListRange
import KE.KRevIter
import PyProof.StrLawsIn
import PyProof.Rows.StrCut
import PySem.Challenge.RW_inkloom_k28_cursors_settled
set_option Elab.async false
set_option linter.all false
set_option maxRecDepth 100000
set_option compiler.extract_closed false
noncomputable section
open PySem.W (Frag InstAt callWith_K cellsFrom_some codeIn codeRec_of exmOne fnOf hideAll hideAll_get instObj isFn keepIn kia_one kitOne kitx_dict kitx_list lookIn methodObj mg_none_of mg_of nsIn of_hideAll plainGet)
namespace L2
open PySem PySem.Spec PyProof.Rows
abbrev Key:=Sum Int Str
def mv:Key→Value→Bool
 | .inl k,v=>Value.isInt k v
 | .inr x,v=>Value.isStrOf x v
def Hn(w:World):Key→Int
 | .inl k=>hashInt k
 | .inr x=>hashStr w x
theorem iy: ∀{k:Key} {v:Value},mv k v=true→(∃i t,k=Sum.inl i∧v=Value.int i t)∨(∃x t,k=Sum.inr x∧v=Value.str x t)
 | .inl i,v,h=>by
  obtain⟨t,e⟩:=Value.isInt_shape (k:=i) (v:=v) h
  exact .inl ⟨i,t,rfl,e⟩
 | .inr x,v,h=>by
  obtain⟨t,e⟩:=Value.isStrOf_shape (x:=x) (v:=v) h
  exact .inr ⟨x,t,rfl,e⟩
theorem Ho(i:Int)(t:Tok):mv (.inl i) (.int i t)=true:=by simp[mv,Value.isInt]
theorem Hq(x:Str)(t:Tok):mv (.inr x) (.str x t)=true:=by simp[mv,Value.isStrOf]
theorem Hr(a b:Int):decide ((Sum.inl a:Key)=Sum.inl b)=(a==b):=by
 by_cases e:a=b
 ·subst e;simp
 ·have h: ¬(Sum.inl a:Key)=Sum.inl b:=fun q=>e (Sum.inl.inj q)
  rw[decide_eq_false h]
  exact(beq_eq_false_iff_ne.mpr e).symm
theorem Hs(a b:Str):decide ((Sum.inr a:Key)=Sum.inr b)=decide (a=b):=by
 by_cases e:a=b
 ·subst e;simp
 ·have h: ¬(Sum.inr a:Key)=Sum.inr b:=fun q=>e (Sum.inr.inj q)
  rw[decide_eq_false h,decide_eq_false e]
theorem Ht(a:Int)(b:Str):decide ((Sum.inl a:Key)=Sum.inr b)=false:=decide_eq_false (fun q=>nomatch q)
theorem Hu(a:Str)(b:Int):decide ((Sum.inr a:Key)=Sum.inl b)=false:=decide_eq_false (fun q=>nomatch q)
def gR(prog:Program)(w:World):PySem.KeyKind prog w Key where
 is:=mv
 hash:=Hn w
 inj:=fun v a b ha hb=>by
  rcases iy ha with⟨i,t,rfl,rfl⟩ | ⟨x,t,rfl,rfl⟩
  ·rcases iy hb with⟨j,u,rfl,e⟩ | ⟨y,u,rfl,e⟩
   ·injection e with e1 _;rw[e1]
   ·exact nomatch e
  ·rcases iy hb with⟨j,u,rfl,e⟩ | ⟨y,u,rfl,e⟩
   ·exact nomatch e
   ·injection e with e1 _;rw[e1]
 byValue:=fun k v h=>by
  rcases iy h with⟨i,t,rfl,rfl⟩ | ⟨x,t,rfl,rfl⟩ <;>rfl
 pyHash:=fun hv h=>by
  rcases iy hv with⟨i,t,rfl,rfl⟩ | ⟨x,t,rfl,rfl⟩
  ·exact wpAny_pyHash_int h
  ·exact wpAny_pyHash_str h
 eqBool:=fun hu hv h=>by
  rcases iy hu with⟨i,t,rfl,rfl⟩ | ⟨x,t,rfl,rfl⟩
  ·rcases iy hv with⟨j,u,rfl,rfl⟩ | ⟨y,u,rfl,rfl⟩
   ·rw[Hr] at h;exact wpAny_eqBool_int h
   ·rw[Ht] at h;exact SeqAt.EqAt.int_str i t y u _ _ _ _ h
  ·rcases iy hv with⟨j,u,rfl,rfl⟩ | ⟨y,u,rfl,rfl⟩
   ·rw[Hu] at h;exact SeqAt.EqAt.str_int x t j u _ _ _ _ h
   ·rw[Hs] at h;exact wpAny_eqBool_str h
 «strs»:=fun k x t v h=>by
  rcases iy h with⟨i,u,rfl,e⟩ | ⟨y,u,rfl,e⟩
  ·exact nomatch e
  ·injection e with e1 _
   subst e1
   cases v<;>rfl
theorem Hv(prog:Program)(w:World)(i:Int)(t:Tok):(gR prog w).is (.inl i) (.int i t)=true:=Ho i t
theorem Hw(prog:Program)(w:World)(x:Str)(t:Tok):(gR prog w).is (.inr x) (.str x t)=true:=Hq x t
inductive V where
 | ai | bl (b:Bool) | int (i:Int) | str (x:Str) | dJ (b:Array UInt8) | jQ (b:UInt64) | ref (a:Addr) | ty (n:String)
 deriving DecidableEq
def RelV:V→Value→Prop
 | .ai,u=>u=Value.none
 | .bl b,u=>u=Value.bool b
 | .int i,u=> ∃t,u=Value.int i t
 | .str x,u=> ∃t,u=Value.str x t
 | .dJ b,u=> ∃t,u=Value.bytes b t
 | .jQ b,u=> ∃t,u=Value.float b t
 | .ref a,u=>u=Value.ref a
 | .ty n,u=>u=Value.type n
abbrev Vals:List V→List Value→Prop:=Paired RelV
theorem Vals.length{xs:List V}{us:List Value}(r:Vals xs us):xs.length=us.length:=Paired.length r
theorem Vals.get: ∀{xs:List V} {us:List Value} {i:Nat} {x:V},Vals xs us→xs[i]?=some x→ ∃u,us[i]?=some u∧RelV x u
 | _,_,_,_, .nil,e=>by simp at e
 | _,_,0,_, .cons r _,e=>by simp at e;subst e;exact⟨_,rfl,r⟩
 | _,_,i+1,x, .cons _ t,e=>by
  obtain⟨u,h1,h2⟩:=Vals.get (i:=i) (x:=x) t (by simpa using e)
  exact⟨u,by simpa using h1,h2⟩
theorem Vals.set{x:V}{u:Value}(r:RelV x u): ∀{xs:List V} {us:List Value} (i:Nat),Vals xs us→Vals (xs.set i x) (us.set i u)
 | _,_,_, .nil=> .nil
 | _,_,0, .cons _ t=> .cons r t
 | _,_,i+1, .cons q t=> .cons q (Vals.set r i t)
theorem Vals.append: ∀{xs ys:List V} {us ws:List Value},Vals xs us→Vals ys ws→Vals (xs++ys) (us++ws)
 | _,_,_,_, .nil,s=>s
 | _,_,_,_, .cons r t,s=> .cons r (Vals.append t s)
theorem Vals.take: ∀{xs:List V} {us:List Value} (n:Nat),Vals xs us→Vals (xs.take n) (us.take n)
 | _,_,0,_=> .nil
 | _,_,_+1, .nil=> .nil
 | _,_,n+1, .cons r t=> .cons r (Vals.take n t)
theorem Vals.drop: ∀{xs:List V} {us:List Value} (n:Nat),Vals xs us→Vals (xs.drop n) (us.drop n)
 | _,_,0,r=>r
 | _,_,_+1, .nil=> .nil
 | _,_,n+1, .cons _ t=>Vals.drop n t
def tN:Option V→Option Value→Prop
 | some v,some u=>RelV v u
 | none,none=>True
 | _,_=>False
def KV{κ:Type}:List (κ×V)→List (κ×Value)→Prop:=Paired fun(p:κ×V) (q:κ×Value)=>p.1=q.1∧RelV p.2 q.2
def kV:Key→V
 | .inl i=> .int i
 | .inr x=> .str x
inductive HO where
 | lst (xs:List V)
 | tup (xs:List V)
 | dK (aH:List (Key×V)) | dT (aH:List (List Key×V))
 | set (S:Int→Bool) (n:Nat)
 | ins (C dx:Addr) (fs:List (Str×V))
 | own (x:Addr)
 | xd (fs:List (Str×V))
 | met (f x:Addr)
 | gh (lo hi:Int)
 | bc (o:Obj) (u:HO)
 | gS (ps:Array Value)
 | ext (φ:Heap→Prop)
abbrev Hp:=Addr→Option HO
def upd(H:Hp)(a:Addr)(o:HO):Hp:=fun b=>if b=a then some o else H b
theorem aG{H:Hp}{a:Addr}{o:HO}:upd H a o a=some o:=by unfold upd;rw[if_pos rfl]
theorem bC{H:Hp}{a b:Addr}{o:HO}(h:b≠a):upd H a o b=H b:=by unfold upd;rw[if_neg h]
theorem c_{H:Hp}{a b:Addr}{o:HO}(h:H a=some o)(h':H b=none):a≠b:=by
 intro e;subst e;rw[h] at h';cases h'
section
variable (P:Program) (w:World)
def bV(H:Hp)(h:Heap)(a:Addr):HO→Prop
 | .lst xs=>xs.length≤sizeLine∧ ∃(its:List Value) (n:Nat),Vals xs its∧h.get? a=some {cls:= .type "list",data:= .seq its.toArray n}
 | .tup xs=>xs.length≤sizeLine∧ ∃its:List Value,Vals xs its∧IsTup h a its.toArray
 | .dK aH=>aH.length≤sizeLine∧(a==sysModules)=false∧ ∃vs,KV aH vs∧h.DictOf (gR P w) a vs
 | .dT aH=>aH.length≤sizeLine∧(a==sysModules)=false∧ ∃xs:List (List Key×Addr×Value),
   Paired (fun(p:List Key×V) (q:List Key×Addr×Value)=>p.1=q.1∧H q.2.1=some (.tup (p.1.map kV))∧RelV p.2 q.2.2) aH xs∧
   ∃o es ep,h.get? a=some o∧o.ExactDict∧o.data= .dict es ep∧es.toList=xs.map (entryOfKey (tupleKind (gR P w)))∧(xs.map (·.1)).Nodup
 | .set S n=>h.SetOf (intKind P w) a S n
 | .ins C dx fs=>H dx=some (.own a)∧fs.length≤1000∧dx≠a∧h.get? a=some (instObj C dx)∧
   ∃mA,h.Ns1 dx mA∧(∀f,tN (fs.lookup f) (mA f))∧PySem.Within mA (fs.map (·.1))
 | .own _=> ∃o,h.get? a=some o
 | .xd fs=> ∃mA,h.Ns1 a mA∧ ∀f,tN (fs.lookup f) (mA f)
 | .gh lo hi=> ∃t u v,h.get? a=some {cls:= .type "range",data:= .fields #[.int lo t, .int hi u, .int 1 v]}
 | .bc o u=>h.get? a=some o∧bV H h a u
 | .gS ps=>h.get? a=some {cls:= .none,data:= .fields ps}
 | .met f x=>h.get? a=some (methodObj (.ref f) (.ref x))
 | .ext φ=>φ h∧(∃o,h.get? a=some o)∧ ∀h1 h2:Heap,φ h1→(∀o,h1.get? a=some o→h2.get? a=some o)→φ h2
def bG(H:Hp)(h:Heap):Prop:= ∀a o,H a=some o→bV P w H h a o
end
section
variable {P:Program} {w:World} {H H':Hp} {h h':Heap} {a:Addr} {o:HO}
theorem bV.lt(x:bV P w H h a o):a<h.objs.size:=by
 cases o with
 | lst xs=>obtain⟨_,_,_,_,e⟩:=x;exact Heap.lt_size e
 | tup xs=>obtain⟨_,_,_,p⟩:=x;exact p.lt
 | dK aH=>obtain⟨_,_,_,_,o,_,_,e,_⟩:=x;exact Heap.lt_size e
 | dT aH=>obtain⟨_,_,_,_,o,_,_,e,_⟩:=x;exact Heap.lt_size e
 | set S n=>obtain⟨o,_,_,_,e,_⟩:=x;exact Heap.lt_size e
 | ins C dx fs=>obtain⟨_,_,_,e,_⟩:=x;exact Heap.lt_size e
 | own y=>obtain⟨_,e⟩:=x;exact Heap.lt_size e
 | xd fs=>obtain⟨_,⟨_,_,_,e,_⟩,_⟩:=x;exact Heap.lt_size e
 | gh lo hi=>obtain⟨_,_,_,e⟩:=x;exact Heap.lt_size e
 | bc ob u=>obtain⟨e,_⟩:=x;exact Heap.lt_size e
 | gS ps=>exact Heap.lt_size (show h.get? a=some _ from x)
 | met f y=>exact Heap.lt_size (show h.get? a=some _ from x)
 | ext φ=>obtain⟨_,⟨_,e⟩,_⟩:=x;exact Heap.lt_size e
theorem Paired.dB{α β:Type}{F G:α→β→Prop}: ∀{l₁:List α} {l₂:List β},Paired F l₁ l₂→(∀a b,F a b→G a b)→Paired G l₁ l₂
 | _,_, .nil,_=> .nil
 | _,_, .cons r t,f=> .cons (f _ _ r) (Paired.dB t f)
theorem bV.fH(x:bV P w H h a o)(k: ∀b u,(b=a∨H b=some (.own a))→h.get? b=some u→h'.get? b=some u)
  (ho: ∀b,H b=some (.own a)→H' b=some (.own a)) (ht: ∀b xs,H b=some (.tup xs)→H' b=some (.tup xs)):bV P w H' h' a o:=by
 induction o with
 | lst xs=>obtain⟨z,its,n,r,e⟩:=x;exact⟨z,its,n,r,k _ _ (.inl rfl) e⟩
 | tup xs=>obtain⟨z,its,r,ob,e,c⟩:=x;exact⟨z,its,r,ob,k _ _ (.inl rfl) e,c⟩
 | dK aH=>obtain⟨z,y,vs,r,ob,es,ep,e,c⟩:=x;exact⟨z,y,vs,r,ob,es,ep,k _ _ (.inl rfl) e,c⟩
 | dT aH=>
  obtain⟨z,y,xs,r,ob,es,ep,e,c⟩:=x
  exact⟨z,y,xs,Paired.dB r fun p q z=> ⟨z.1,ht _ _ z.2.1,z.2.2⟩,ob,es,ep,k _ _ (.inl rfl) e,c⟩
 | set S n=>obtain⟨ob,es,ep,t,e,c⟩:=x;exact⟨ob,es,ep,t,k _ _ (.inl rfl) e,c⟩
 | ins C dx fs=>
  obtain⟨d,z,ne,e,mA,⟨od,es,ep,e2,c⟩,r⟩:=x
  exact⟨ho _ d,z,ne,k _ _ (.inl rfl) e,mA,⟨od,es,ep,k _ _ (.inr d) e2,c⟩,r⟩
 | own y=>obtain⟨ob,e⟩:=x;exact⟨ob,k _ _ (.inl rfl) e⟩
 | xd fs=>obtain⟨mA,⟨od,es,ep,e,c⟩,r⟩:=x;exact⟨mA,⟨od,es,ep,k _ _ (.inl rfl) e,c⟩,r⟩
 | gh lo hi=>obtain⟨t,u,v,e⟩:=x;exact⟨t,u,v,k _ _ (.inl rfl) e⟩
 | bc ob u ih=>obtain⟨e,q⟩:=x;exact⟨k _ _ (.inl rfl) e,ih q⟩
 | gS ps=>
  have e:h.get? a=some {cls:= .none,data:= .fields ps}:=x
  show h'.get? a=some {cls:= .none,data:= .fields ps}
  exact k a _ (.inl rfl) e
 | met f y=>
  have e:h.get? a=some (methodObj (.ref f) (.ref y)):=x
  show h'.get? a=some (methodObj (.ref f) (.ref y))
  exact k a _ (.inl rfl) e
 | ext φ=>obtain⟨p,⟨o,e⟩,st⟩:=x;exact⟨st _ _ p fun o q=>k _ _ (.inl rfl) q,⟨o,k _ _ (.inl rfl) e⟩,st⟩
theorem bG.lt(x:bG P w H h)(e:H a=some o):a<h.objs.size:=(x a o e).lt
theorem bG.fresh(x:bG P w H h)(e:h.objs.size≤a):H a=none:=by
 cases q:H a with
 | none=>rfl
 | some u=>exact absurd (Nat.lt_of_lt_of_le (x.lt q) e) (Nat.lt_irrefl _)
theorem bG.kept(x:bG P w H h)(k: ∀b u,h.get? b=some u→h'.get? b=some u):bG P w H h':=fun a o e=>
 (x a o e).fH (fun b u _ q=>k b u q) (fun _ q=>q) fun _ _ q=>q
theorem bG.laid(x:bG P w H h)(k: ∀b u,h.get? b=some u→h'.get? b=some u)(hp:h.objs.size≤a)(new:bV P w (upd H a o) h' a o):bG P w (upd H a o) h':=fun b u e=>by
 have hn:=x.fresh hp
 by_cases hb:b=a
 ·subst hb;rw[aG] at e;cases e;exact new
 ·rw[bC hb] at e
  exact(x b u e).fH (fun c v _ q=>k c v q) (fun c q=>by rw[bC (c_ q hn)];exact q) fun c xs q=>by rw[bC (c_ q hn)];exact q
end
def Rd(H:Hp)(a:Addr)(u:HO):Prop:=H a=some u∨ ∃o,H a=some (.bc o u)
theorem Rd.ok{P:Program}{w:World}{H:Hp}{h:Heap}{a:Addr}{u:HO}(r:Rd H a u)(x:bG P w H h):bV P w H h a u:=by
 rcases r with r | ⟨o,r⟩
 ·exact x a u r
 ·obtain⟨_,q⟩:=x a _ r
  exact q
def qr:Option HO→Prop
 | some (.lst _)=>True
 | some (.dK _)=>True
 | some (.dT _)=>True
 | some (.set _ _)=>True
 | some (.ins _ _ _)=>True
 | some (.ext _)=>True
 | _=>False
section
variable {P:Program} {w:World} {H:Hp} {h h':Heap} {x e:Addr} {o':HO}
theorem bG.write(ok:bG P w H h)(mu:qr (H x))(he:e=x∨H e=some (.own x))(k: ∀b u,b≠e→h.get? b=some u→h'.get? b=some u)(mw: ∃u,h'.get? e=some u)
  (new:bV P w (upd H x o') h' x o'):bG P w (upd H x o') h':=fun b u q=>by
 have AF: ∀c y,H c=some (.own y)→c≠x:=fun c y r z=>by subst z;rw[r] at mu;exact mu
 have Hx: ∀c xs,H c=some (.tup xs)→c≠x:=fun c xs r z=>by subst z;rw[r] at mu;exact mu
 by_cases hb:b=x
 ·subst hb;rw[aG] at q;cases q;exact new
 ·rw[bC hb] at q
  by_cases jR:b=e
  ·have q':H b=some (.own x):=by
    rcases he with z | z
    ·exact absurd (jR.trans z) hb
    ·rw[jR];exact z
   rw[q] at q';cases q'
   obtain⟨v,hv⟩:=mw
   exact⟨v,by rw[jR];exact hv⟩
  ·refine(ok b u q).fH (fun c v hc r=>k c v ?_ r) (fun c r=>by rw[bC (AF c b r)];exact r) fun c xs r=>by rw[bC (Hx c xs r)];exact r
   rcases hc with rfl | hc
   ·exact jR
   ·rintro rfl
    rcases he with z | z
    ·exact AF c b hc z
    ·rw[hc] at z;cases z;exact hb rfl
end
structure Un (fs ex:List Addr) (H H':Hp) (h h':Heap):Prop where
 keep: ∀b o,h.get? b=some o→H b=none→b∉fs→b∉ex→h'.get? b=some o
 slot: ∀b o,h.get? b=some o→H b=none→b∈fs→b∉ex→ ∃sl,h'.get? b=some {o with slots:=sl}
 free: ∀b o,h.get? b=some o→H b=none→b∉ex→H' b=none
 there: ∀b o,h.get? b=some o→b∉ex→ ∃o',h'.get? b=some o'
 dM: ∀b xs,H b=some (.tup xs)→H' b=some (.tup xs)
 dr: ∀b o u,H b=some (.bc o u)→H' b=some (.bc o u)
 dN: ∀b ps,H b=some (.gS ps)→ ∃more,H' b=some (.gS (ps++more))
section
variable {fs Hy ex ZC:List Addr} {H H1 H2:Hp} {h h1 h2 h':Heap} {a x e:Addr} {o:HO}
theorem Un.any(u:Un fs ex H H1 h h1){b:Addr}{ob:Obj}(q:h.get? b=some ob)(n:H b=none)(hx:b∉ex): ∃sl,h1.get? b=some {ob with slots:=sl}:=by
 by_cases hb:b∈fs
 ·exact u.slot b ob q n hb hx
 ·exact⟨ob.slots,u.keep b ob q n hb hx⟩
theorem Un.kept(k: ∀b u,h.get? b=some u→h'.get? b=some u):Un fs ex H H h h':=
 ⟨fun b ob q _ _ _=>k b ob q,fun b ob q _ _ _=> ⟨ob.slots,k b ob q⟩,fun _ _ _ n _=>n,fun b ob q _=> ⟨ob,k b ob q⟩,fun _ _ q=>q,fun _ _ _ q=>q,fun _ ps q=> ⟨#[],by rw[q];simp⟩⟩
theorem Un.refl:Un fs ex H H h h:=Un.kept fun _ _ q=>q
theorem Un.laid(k: ∀b u,h.get? b=some u→h'.get? b=some u)(hp:h.objs.size≤a)(hn:H a=none):Un fs ex H (upd H a o) h h' where
 keep:=fun b u q _ _ _=>k b u q
 slot:=fun b u q _ _ _=> ⟨u.slots,k b u q⟩
 free:=fun b u q n _=>by rw[bC (Nat.ne_of_lt (Nat.lt_of_lt_of_le (Heap.lt_size q) hp))];exact n
 there:=fun b u q _=> ⟨u,k b u q⟩
 dM:=fun b xs q=>by rw[bC (c_ q hn)];exact q
 dr:=fun b u xs q=>by rw[bC (c_ q hn)];exact q
 dN:=fun b ps q=> ⟨#[],by rw[bC (c_ q hn),q];simp⟩
theorem Un.write(mu:qr (H x))(he:e=x∨H e=some (.own x))(k: ∀b u,b≠e→h.get? b=some u→h'.get? b=some u)(mw: ∃u,h'.get? e=some u):Un fs ex H (upd H x o) h h':=by
 have hx: ∀b,H b=none→b≠x:=fun b n z=>by subst z;rw[n] at mu;exact mu
 have hb: ∀b,H b=none→b≠e:=fun b n z=>by
  subst z
  rcases he with r | r
  ·exact hx b n r
  ·rw[n] at r;cases r
 have hm: ∀b u,H b=some u→ ¬qr (some u)→b≠x:=fun b u q nm z=>by subst z;rw[q] at mu;exact nm mu
 refine⟨fun b u q n _ _=>k b u (hb b n) q,fun b u q n _ _=> ⟨u.slots,k b u (hb b n) q⟩,fun b u q n _=>by rw[bC (hx b n)];exact n,fun b u q _=> ?_,
  fun b xs q=>by rw[bC (hm b _ q fun z=>z)];exact q,fun b u xs q=>by rw[bC (hm b _ q fun z=>z)];exact q,fun b ps q=> ⟨#[],by rw[bC (hm b _ q fun z=>z),q];simp⟩⟩
 by_cases jR:b=e
 ·subst jR;exact mw
 ·exact⟨u,k b u jR q⟩
end
def gT(h:Heap)(H:Hp):List Addr:=(List.range h.objs.size).filter fun a=> (H a).isSome
def iz(h:Heap)(H:Hp):Heap:=hideAll h (gT h H)
theorem Hz(h:Heap)(H:Hp):(iz h H).objs.size=h.objs.size:=PySem.W.hideAll_size _ _
theorem HA{h:Heap}{H:Hp}{b:Addr}{o:Obj}(e:h.get? b=some o)(n:H b=none):(iz h H).get? b=some o:=
 hideAll_get _ e fun hm=>by
  have q:(H b).isSome=true:=(List.mem_filter.mp hm).2
  rw[n] at q;simp at q
theorem HB{h:Heap}{H:Hp}{b:Addr}{o:Obj}(e:(iz h H).get? b=some o):h.get? b=some o∧H b=none:=by
 have e':h.get? b=some o:=of_hideAll (gT h H) e
 refine⟨e', ?_⟩
 cases q:H b with
 | none=>rfl
 | some x=>
  have hm:b∈gT h H:=List.mem_filter.mpr ⟨List.mem_range.mpr (Heap.lt_size e'),by simp[q]⟩
  have z:(iz h H).get? b=none:=PySem.W.hideAll_none (gT h H) hm
  rw[z] at e;cases e
structure Mod (K:Frag) (mg:Str→Option Value) (base:Heap):Prop where
 nG:K.In base
 glob:base.Ns mainGlobals mg
 blt: ∃mb,base.Ns builtinsNs mb∧ ∀x:Str,x≠"__name__"→mb x=bootBuiltins x
 nolimit:base.NoLimit
structure Cx where
 prog:Program
 w:World
 K:Frag
 mg:Str→Option Value
 base:Heap
 A:Around
 N:List Str
 s₀:Shared
 H₀:Hp
 env:Env
 outer:List Env
 stack:List Env
 ex:List Addr
 fn:Str→Bool
 calm:Bool
 pn:List (Addr×Obj)
 xe:Value→Shared→Prop
def bh(l:List Env):List Addr:=l.filterMap (·.frame)
abbrev Cx.fs(X:Cx):List Addr:=bh X.outer
def qt(sc:Scope)(x:Str):Prop:=sc.names.lookup x=some .local∨sc.names.lookup x=some .cell∨sc.names.lookup x=some .free
def Loc(sc:Scope)(x:Str):Prop:=sc.names.lookup x=some .local∨sc.names.lookup x=some .cell
def Look(env:Env)(h:Heap)(m:Str→Option Value)(x:Str)(u:Value):Prop:=
 (env.kindOf x=some .local∧m x=some u)∨((env.kindOf x=some .cell∨env.kindOf x=some .free)∧ ∃c,env.cells.lookup x=some c∧h.IsCell c (some u))
structure Cx.Ok (X:Cx):Prop where
 mod:Mod X.K X.mg X.base
 kind:X.env.scope.kind= .function
 glob:X.env.globals=mainGlobals
 blt:X.env.builtins=builtinsNs
 above:X.s₀.heap.objs.size≤X.env.locals
 inj: ∀x y c,X.env.cells.lookup x=some c→X.env.cells.lookup y=some c→x=y
 has: ∀x,(X.env.kindOf x=some .cell∨X.env.kindOf x=some .free)→ ∃c,X.env.cells.lookup x=some c
 qu: ∀x c,X.fn x=true→X.env.cells.lookup x=some c→X.s₀.heap.objs.size≤c
 hd:X.calm=true→X.A.handled=none
 frames:X.A.frames=some X.stack
 fI:X.stack=X.outer∨(X.stack=X.env::X.outer∧X.env.frame=some X.env.locals)
 HC: ∀b∈X.ex,b≠X.env.locals∧ ∀x c,X.env.cells.lookup x=some c→c≠b
 bs: ∀b o,X.base.get? b=some o→X.s₀.heap.get? b=some o∧X.H₀ b=none
 jS:X.base.objs.size≤X.s₀.heap.objs.size
 qv: ∀b o,X.base.get? b=some o→b∉X.ex
 qw: ∀b∈X.ex,b∉X.fs
 gi:X.s₀.heap.FunFrames X.base X.outer
 my: ∀b∈X.fs,X.H₀ b=none
structure Inv (X:Cx) (pins:List (Addr×Obj)) (σ:List (Option V)) (H:Hp) (s:Shared):Prop where
 ok:X.Ok
 os:s.os=X.s₀.os
 bare:AllBare s.gens
 base:Un X.fs X.ex X.H₀ H X.s₀.heap s.heap
 loc: ∃m,s.heap.Ns X.env.locals m∧ ∀(i:Nat) (x:Str) (v:V),X.N[i]?=some x→σ[i]?=some (some v)→qt X.env.scope x→ ∃u,RelV v u∧Look X.env s.heap m x u
 cell: ∀x c,X.env.cells.lookup x=some c→ ∃v,s.heap.IsCell c v
 free:H X.env.locals=none
 d9: ∀x c,X.env.cells.lookup x=some c→H c=none
 pin: ∀p∈X.pn++pins,s.heap.get? p.1=some p.2∧H p.1=none∧p.1≠X.env.locals∧p.1∉X.fs∧ ∀v,p.2.data≠ .cell v
 aF:bG X.prog X.w H s.heap
 len:σ.length=X.N.length
section
variable {X:Cx} {pins:List (Addr×Obj)} {σ:List (Option V)} {H H':Hp} {s:Shared} {h':Heap}
theorem Cx.Ok.HD(ok:X.Ok){b:Addr}{o:Obj}(e:X.base.get? b=some o):b∉X.fs:=fun hb=>by
 have:=(ok.gi.mem hb).1
 rw[e] at this;cases this
theorem Inv.bs(I:Inv X pins σ H s): ∀b o,X.base.get? b=some o→s.heap.get? b=some o∧H b=none:=fun b o e=>
 ⟨I.base.keep b o (I.ok.bs b o e).1 (I.ok.bs b o e).2 (I.ok.HD e) (I.ok.qv b o e),I.base.free b o (I.ok.bs b o e).1 (I.ok.bs b o e).2 (I.ok.qv b o e)⟩
theorem Inv.bk(I:Inv X pins σ H s): ∀b o,X.base.get? b=some o→s.heap.get? b=some o:=fun b o e=> (I.bs b o e).1
theorem Inv.mod(I:Inv X pins σ H s):Mod X.K X.mg X.base:=I.ok.mod
theorem Inv.cQ(I:Inv X pins σ H s):X.K.In s.heap:=I.ok.mod.nG.keeps I.bk
theorem Inv.lt(I:Inv X pins σ H s):X.env.locals<s.heap.objs.size:=let ⟨_,hn,_⟩:=I.loc;hn.lt
theorem Inv.sz(I:Inv X pins σ H s):X.s₀.heap.objs.size≤s.heap.objs.size:=Nat.le_trans I.ok.above (Nat.le_of_lt I.lt)
theorem Inv.AG(I:Inv X pins σ H s){a:Addr}(h:s.heap.objs.size≤a):a∉X.fs:=fun hb=>by
 obtain⟨_,o,ho,_⟩:=I.ok.gi.mem hb
 exact absurd (Nat.lt_of_lt_of_le (Heap.lt_size ho) (Nat.le_trans I.sz h)) (Nat.lt_irrefl _)
theorem Inv.jT(I:Inv X pins σ H s): ∀x c,X.env.cells.lookup x=some c→c≠X.env.locals:=fun x c e z=>by
 obtain⟨v,o,ho,hd⟩:=I.cell x c e
 obtain⟨m,⟨o',es,ep,cR,qx,_⟩,_⟩:=I.loc
 rw[z,cR] at ho;cases ho;rw[qx] at hd;cases hd
theorem Inv.gi(I:Inv X pins σ H s):s.heap.FunFrames X.base X.outer:=by
 have all: ∀(l:List Env),(∀b∈bh l,b∈X.fs)→X.s₀.heap.FunFrames X.base l→s.heap.FunFrames X.base l:=by
  intro l
  induction l with
  | nil=>intro _ _;trivial
  | cons env r ih=>
   intro hs hl
   obtain⟨hk,⟨L,o,hf,hn,ho,hd⟩,hr⟩:=hl
   have hL:L∈X.fs:=hs L (by unfold bh;rw[List.filterMap_cons,hf];exact List.mem_cons_self)
   obtain⟨sl,e⟩:=I.base.slot L o ho (I.ok.my L hL) hL fun z=>I.ok.qw L z hL
   exact⟨hk,⟨L,_,hf,hn,e,hd⟩,ih (fun b hb=>hs b (by unfold bh;rw[List.filterMap_cons,hf];exact List.mem_cons_of_mem _ hb)) hr⟩
 exact all X.outer (fun _ hb=>hb) I.ok.gi
theorem Inv.stack(I:Inv X pins σ H s):s.heap.FunFrames X.base X.stack:=by
 rcases I.ok.fI with e | ⟨e,hf⟩
 ·rw[e];exact I.gi
 ·rw[e]
  obtain⟨m,hn,_⟩:=I.loc
  refine .cons (by rw[I.ok.kind];decide) hf hn ?_ I.gi
  exact Heap.get?_none_of_le (Nat.le_trans I.ok.jS I.ok.above)
theorem Inv.qy(I:Inv X pins σ H s): ∀b∈bh X.stack,b∈X.env.locals::X.fs:=fun b hb=>by
 rcases I.ok.fI with e | ⟨e,hf⟩
 ·rw[e] at hb;exact List.mem_cons_of_mem _ hb
 ·rw[e] at hb
  unfold bh at hb
  rw[List.filterMap_cons,hf] at hb
  exact hb
theorem Inv.qz(I:Inv X pins σ H s): ∀b∈bh X.stack,H b=none:=fun b hb=>by
 rcases List.mem_cons.mp (I.qy b hb) with e | hb
 ·rw[e];exact I.free
 ·obtain⟨_,o,ho,_⟩:=I.ok.gi.mem hb
  exact I.base.free b o ho (I.ok.my b hb) fun z=>I.ok.qw b z hb
theorem Inv.step{g':Array GenState}{t':Nat}{d':Drawn}{ch:List Addr}(I:Inv X pins σ H s)
  (gU: ∀b∈ch,(b∈X.ex∨X.s₀.heap.objs.size≤b)∧b≠X.env.locals∧(∀x c,X.env.cells.lookup x=some c→c≠b)∧ ∀p∈X.pn++pins,p.1≠b)
  (keep: ∀b o,b≠X.env.locals→b∉X.fs→b∉ch→s.heap.get? b=some o→H b=none→h'.get? b=some o)
  (slot: ∀b o,b≠X.env.locals→b∈X.fs→b∉ch→s.heap.get? b=some o→H b=none→ ∃sl,h'.get? b=some {o with slots:=sl}) (free: ∀b o,b∉ch→s.heap.get? b=some o→H b=none→H' b=none)
  (there: ∀b o,b∉ch→s.heap.get? b=some o→ ∃o',h'.get? b=some o')
  (dM: ∀b xs,H b=some (.tup xs)→H' b=some (.tup xs)) (dr: ∀b o u,H b=some (.bc o u)→H' b=some (.bc o u)) (dN: ∀b ps,H b=some (.gS ps)→ ∃more,H' b=some (.gS (ps++more)))
  (ns: ∀m,s.heap.Ns X.env.locals m→h'.Ns X.env.locals m) (aF:bG X.prog X.w H' h') (hg:AllBare g'):
  Inv X pins σ H' {s with heap:=h',gens:=g',drawn:=d',toks:=t'}:=by
 have AH: ∀b o,X.s₀.heap.get? b=some o→b≠X.env.locals:=fun b o e=>Nat.ne_of_lt (Nat.lt_of_lt_of_le (Heap.lt_size e) I.ok.above)
 have qA: ∀b o,X.s₀.heap.get? b=some o→b∉X.ex→b∉ch:=fun b o e hx hb=>by
  rcases (gU b hb).1 with z | z
  ·exact hx z
  ·exact absurd (Nat.lt_of_lt_of_le (Heap.lt_size e) z) (Nat.lt_irrefl _)
 have cellK: ∀x c,X.env.cells.lookup x=some c→ ∀v,s.heap.IsCell c v→h'.IsCell c v:=fun x c e v ⟨o,ho,hd⟩=>by
  have nH:c∉ch:=fun z=> (gU c z).2.2.1 x c e rfl
  by_cases hc:c∈X.fs
  ·obtain⟨sl,q⟩:=slot c o (I.jT x c e) hc nH ho (I.d9 x c e)
   exact⟨_,q,hd⟩
  ·exact⟨o,keep c o (I.jT x c e) hc nH ho (I.d9 x c e),hd⟩
 refine⟨I.ok,I.os,hg,⟨fun b o e n hb hx=> ?_,fun b o e n hb hx=> ?_,fun b o e n hx=> ?_,fun b o e hx=> ?_,fun b xs e=>dM b xs (I.base.dM b xs e),fun b o xs e=>dr b o xs (I.base.dr b o xs e),fun b ps e=> ?_⟩, ?_,fun x c e=> ?_, ?_,fun x c e=> ?_,fun p hp=> ?_,aF,I.len⟩
 ·exact keep b o (AH b o e) hb (qA b o e hx) (I.base.keep b o e n hb hx) (I.base.free b o e n hx)
 ·obtain⟨sl,e1⟩:=I.base.slot b o e n hb hx
  obtain⟨tO,e2⟩:=slot b _ (AH b o e) hb (qA b o e hx) e1 (I.base.free b o e n hx)
  exact⟨tO,e2⟩
 ·obtain⟨o',e1⟩:=I.base.there b o e hx
  exact free b o' (qA b o e hx) e1 (I.base.free b o e n hx)
 ·obtain⟨o',e1⟩:=I.base.there b o e hx
  exact there b o' (qA b o e hx) e1
 ·obtain⟨m1,e1⟩:=I.base.dN b ps e
  obtain⟨m2,e2⟩:=dN b _ e1
  exact⟨m1++m2,by rw[e2,Array.append_assoc]⟩
 ·obtain⟨m,hn,hl⟩:=I.loc
  refine⟨m,ns m hn,fun i x v e1 e2 e3=> ?_⟩
  obtain⟨u,r,l⟩:=hl i x v e1 e2 e3
  refine⟨u,r, ?_⟩
  rcases l with l | ⟨k,c,e,z⟩
  ·exact .inl l
  ·exact .inr ⟨k,c,e,cellK x c e _ z⟩
 ·obtain⟨v,z⟩:=I.cell x c e
  exact⟨v,cellK x c e v z⟩
 ·obtain⟨m,⟨o,_,_,ho,_⟩,_⟩:=I.loc
  exact free _ o (fun z=> (gU _ z).2.1 rfl) ho I.free
 ·obtain⟨v,o,ho,hd⟩:=I.cell x c e
  exact free c o (fun z=> (gU c z).2.2.1 x c e rfl) ho (I.d9 x c e)
 ·obtain⟨e,n,ne,nf,d⟩:=I.pin p hp
  have nH:p.1∉ch:=fun z=> (gU p.1 z).2.2.2 p hp rfl
  exact⟨keep p.1 p.2 ne nf nH e n,free p.1 p.2 nH e n,ne,nf,d⟩
theorem Inv.un{t':Nat}(I:Inv X pins σ H s)(u:Un X.fs [] H H' s.heap h')(aF:bG X.prog X.w H' h'):Inv X pins σ H' {s with heap:=h',toks:=t'}:=by
 obtain⟨m,⟨o,es,ep,ho,r⟩,_⟩:=id I.loc
 obtain⟨sl,hL⟩:=u.any ho I.free (by simp)
 exact I.step (g':=s.gens) (d':=s.drawn) (ch:=[]) (fun _ z=>nomatch z) (fun b o _ hb _ e n=>u.keep b o e n hb (by simp)) (fun b o _ hb _ e n=>u.slot b o e n hb (by simp)) (fun b o _ e n=>u.free b o e n (by simp)) (fun b o _ e=>u.there b o e (by simp)) u.dM u.dr u.dN (fun m' hm=>by
  obtain⟨o',tP,tQ,cR,r'⟩:=hm
  rw[ho] at cR;cases cR
  exact⟨_,tP,tQ,hL,r'⟩) aF I.bare
theorem Inv.call{g':Array GenState}{t':Nat}{d':Drawn}{ch:List Addr}(I:Inv X pins σ H s)(u:Un (bh X.stack) ch H H' s.heap h')(aF:bG X.prog X.w H' h')(hg:AllBare g')
  (gU: ∀b∈ch,(b∈X.ex∨X.s₀.heap.objs.size≤b)∧b≠X.env.locals∧(∀x c,X.env.cells.lookup x=some c→c≠b)∧ ∀p∈X.pn++pins,p.1≠b):
  Inv X pins σ H' {s with heap:=h',gens:=g',drawn:=d',toks:=t'}:=by
 obtain⟨m,⟨o,es,ep,ho,r⟩,_⟩:=id I.loc
 obtain⟨sl,hL⟩:=u.any ho I.free fun z=> (gU _ z).2.1 rfl
 exact I.step (ch:=ch) gU (fun b o hL hb hc e n=>u.keep b o e n (fun z=> (List.mem_cons.mp (I.qy b z)).elim hL hb) hc) (fun b o _ _ hc e n=>u.any e n hc) (fun b o hc e n=>u.free b o e n hc) (fun b o hc e=>u.there b o e hc) u.dM u.dr u.dN (fun m' hm=>by
  obtain⟨o',tP,tQ,cR,r'⟩:=hm
  rw[ho] at cR;cases cR
  exact⟨_,tP,tQ,hL,r'⟩) aF hg
theorem Inv.turned{t':Nat}{it:Addr}(I:Inv X pins σ H s)(k: ∀b o,b≠it→s.heap.get? b=some o→h'.get? b=some o)(hn:H it=none)(hL:it≠X.env.locals)
  (h1:it∈X.ex∨X.s₀.heap.objs.size≤it) (h2: ∀x c,X.env.cells.lookup x=some c→c≠it) (h3: ∀p∈X.pn++pins,p.1≠it):Inv X pins σ H {s with heap:=h',toks:=t'}:=by
 have AI: ∀b u,H b=some u→b≠it:=fun b u e z=>by rw[z,hn] at e;cases e
 refine I.step (g':=s.gens) (d':=s.drawn) (ch:=[it]) (fun b hb=> ?_) (fun b o _ _ hc e _=>k b o (fun z=>hc (by simp[z])) e) (fun b o _ _ hc e _=> ⟨o.slots,k b o (fun z=>hc (by simp[z])) e⟩) (fun _ _ _ _ n=>n)
  (fun b o hc e=> ⟨o,k b o (fun z=>hc (by simp[z])) e⟩) (fun _ _ e=>e) (fun _ _ _ e=>e) (fun b ps e=> ⟨#[],by rw[e];simp⟩) (fun m hm=> ?_) (fun b u e=> ?_) I.bare
 ·have e:b=it:=by simpa using hb
  subst e
  exact⟨h1,hL,h2,h3⟩
 ·obtain⟨o,es,ep,ho,r⟩:=hm
  exact⟨o,es,ep,k _ o (Ne.symm hL) ho,r⟩
 ·refine(I.aF b u e).fH (fun c v hc q=>k c v ?_ q) (fun _ q=>q) fun _ _ q=>q
  rcases hc with z | z
  ·rw[z];exact AI b u e
  ·exact AI c _ z
theorem Inv.tok(I:Inv X pins σ H s)(t:Nat):Inv X pins σ H {s with toks:=t}:=I.un (h':=s.heap) (t':=t) Un.refl I.aF
theorem Inv.kept{t':Nat}(I:Inv X pins σ H s)(k: ∀b u,s.heap.get? b=some u→h'.get? b=some u):Inv X pins σ H {s with heap:=h',toks:=t'}:=I.un (Un.kept k) (I.aF.kept k)
theorem Inv.laid{a:Addr}{o:HO}{t':Nat}(I:Inv X pins σ H s)(k: ∀b u,s.heap.get? b=some u→h'.get? b=some u)(hp:s.heap.objs.size≤a)(new:bV X.prog X.w (upd H a o) h' a o):
  Inv X pins σ (upd H a o) {s with heap:=h',toks:=t'}:=I.un (Un.laid k hp (I.aF.fresh hp)) (I.aF.laid k hp new)
theorem Inv.write{x e:Addr}{o:HO}{t':Nat}(I:Inv X pins σ H s)(mu:qr (H x))(he:e=x∨H e=some (.own x))(k: ∀b u,b≠e→s.heap.get? b=some u→h'.get? b=some u)(mw: ∃u,h'.get? e=some u)
  (new:bV X.prog X.w (upd H x o) h' x o):Inv X pins σ (upd H x o) {s with heap:=h',toks:=t'}:=I.un (Un.write mu he k mw) (I.aF.write mu he k mw new)
theorem Inv.mz{fJ:List (Addr×Obj)}(I:Inv X pins σ H s)(h: ∀p∈fJ,s.heap.get? p.1=some p.2∧H p.1=none∧p.1≠X.env.locals∧p.1∉X.fs∧ ∀v,p.2.data≠ .cell v):Inv X fJ σ H s:=
 ⟨I.ok,I.os,I.bare,I.base,I.loc,I.cell,I.free,I.d9,fun p hp=> (List.mem_append.mp hp).elim (fun z=>I.pin p (List.mem_append_left _ z)) (h p),I.aF,I.len⟩
theorem AJ{N:List Str}(hN:N.Nodup){i j:Nat}{x:Str}(a:N[i]?=some x)(b:N[j]?=some x):i=j:=by
 obtain⟨h1,e1⟩:=List.getElem?_eq_some_iff.mp a
 obtain⟨h2,e2⟩:=List.getElem?_eq_some_iff.mp b
 exact(List.getElem_inj hN).mp (e1.trans e2.symm)
theorem AK{M:Model}{A:Around}{E:Value→Shared→Prop}{i:Nat}{x:Str}{v:V}{u:Value}{Q:Unit→Shared→Prop}(I:Inv X pins σ H s)(hN:X.N.Nodup)(hi:X.N[i]?=some x)(hx:Loc X.env.scope x)(r:RelV v u)
  (h: ∀s',Inv X pins (σ.set i (some v)) H s'→(∃a,Heap.SameBut a s.heap s'.heap∧(a=X.env.locals∨X.env.cells.lookup x=some a))→Q () s') (hf:X.fn x=true∨X.env.scope.names.lookup x=some .local:=by first | exact .inl rfl | exact .inr rfl | assumption):wpAny M A (storeName X.env x u) Q E s:=by
 obtain⟨m,hn,hl⟩:=id I.loc
 have HE:(X.env.scope.kind== .class || (X.env.scope.kind== .module && X.env.locals !=X.env.globals))=false:=by rw[I.ok.kind];rfl
 have AL:i<σ.length:=by rw[I.len];exact(List.getElem?_eq_some_iff.mp hi).1
 have jT:=I.jT
 have tracked: ∀{a:Addr} {h':Heap},(∃o,s.heap.get? a=some o∧H a=none)→Heap.SameBut a s.heap h'→bG X.prog X.w H h':=fun {a h'} ha hs b ob e=>by
  obtain⟨_,_,AM⟩:=ha
  refine(I.aF b ob e).fH (fun c w' hc q=> (hs.2 c ?_).trans q) (fun _ q=>q) fun _ _ q=>q
  rintro rfl
  rcases hc with rfl | hc
  ·rw[AM] at e;cases e
  ·rw[AM] at hc;cases hc
 rcases hx with hk | hk
 ·refine wpAny_storeName_local hk hn (fun h' tR hs=> ?_) HE
  obtain⟨oL,_,_,qB,_⟩:=id hn
  refine h _ ⟨I.ok,I.os,I.bare,⟨fun b o e n hb hx=> ?_,fun b o e n hb hx=> ?_,I.base.free,fun b o e hx=> ?_,I.base.dM,I.base.dr,I.base.dN⟩,⟨_,tR,fun j y v' e1 e2 e3=> ?_⟩,fun y c e=> ?_,I.free,I.d9,fun p hp=> ?_,tracked ⟨oL,qB,I.free⟩ hs,by simpa using I.len⟩ ⟨_,hs, .inl rfl⟩
  ·exact(hs.2 b (Nat.ne_of_lt (Nat.lt_of_lt_of_le (Heap.lt_size e) I.ok.above))).trans (I.base.keep b o e n hb hx)
  ·obtain⟨sl,e1⟩:=I.base.slot b o e n hb hx
   exact⟨sl,(hs.2 b (Nat.ne_of_lt (Nat.lt_of_lt_of_le (Heap.lt_size e) I.ok.above))).trans e1⟩
  ·obtain⟨o',e1⟩:=I.base.there b o e hx
   exact⟨o',(hs.2 b (Nat.ne_of_lt (Nat.lt_of_lt_of_le (Heap.lt_size e) I.ok.above))).trans e1⟩
  ·by_cases hj:j=i
   ·subst hj
    rw[hi] at e1;cases e1
    rw[List.getElem?_set_self AL] at e2
    cases e2
    exact⟨u,r, .inl ⟨hk,by simp⟩⟩
   ·rw[List.getElem?_set_ne (Ne.symm hj)] at e2
    obtain⟨u',r',q⟩:=hl j y v' e1 e2 e3
    refine⟨u',r', ?_⟩
    rcases q with⟨k,e⟩ | ⟨k,c,e,z⟩
    ·refine .inl ⟨k, ?_⟩
     have:y≠x:=fun e=>hj (AJ hN e1 (e ▸ hi))
     simp[this,e]
    ·exact .inr ⟨k,c,e,z.sameBut hs (jT y c e)⟩
  ·obtain⟨w',z⟩:=I.cell y c e
   exact⟨w',z.sameBut hs (jT y c e)⟩
  ·obtain⟨e,n,ne,nf,d⟩:=I.pin p hp
   exact⟨(hs.2 p.1 ne).trans e,n,ne,nf,d⟩
 ·have tU:X.fn x=true:=by
   rcases hf with z | z
   ·exact z
   ·rw[z] at hk;cases hk
  obtain⟨c,hc⟩:=I.ok.has x (.inl hk)
  obtain⟨w',z⟩:=I.cell x c hc
  refine wpAny_storeName_cell I.ok.kind hk hc z (fun h' bI hs=> ?_)
  obtain⟨oc,AN,HF⟩:=id z
  refine h {s with heap:=h'} ⟨I.ok,I.os,I.bare,⟨fun b o e n hb hx=> ?_,fun b o e n hb hx=> ?_,I.base.free,fun b o e hx=> ?_,I.base.dM,I.base.dr,I.base.dN⟩,⟨m,hn.sameBut hs (Ne.symm (jT x c hc)),fun j y v' e1 e2 e3=> ?_⟩,fun y c' e=> ?_,I.free,I.d9,fun p hp=> ?_,tracked ⟨oc,AN,I.d9 x c hc⟩ hs,by simpa using I.len⟩ ⟨c,hs, .inr hc⟩
  ·exact(hs.2 b (Nat.ne_of_lt (Nat.lt_of_lt_of_le (Heap.lt_size e) (I.ok.qu x c tU hc)))).trans (I.base.keep b o e n hb hx)
  ·obtain⟨sl,e1⟩:=I.base.slot b o e n hb hx
   exact⟨sl,(hs.2 b (Nat.ne_of_lt (Nat.lt_of_lt_of_le (Heap.lt_size e) (I.ok.qu x c tU hc)))).trans e1⟩
  ·obtain⟨o',e1⟩:=I.base.there b o e hx
   exact⟨o',(hs.2 b (Nat.ne_of_lt (Nat.lt_of_lt_of_le (Heap.lt_size e) (I.ok.qu x c tU hc)))).trans e1⟩
  ·by_cases hj:j=i
   ·subst hj
    rw[hi] at e1;cases e1
    rw[List.getElem?_set_self AL] at e2
    cases e2
    exact⟨u,r, .inr ⟨.inl hk,c,hc,bI⟩⟩
   ·rw[List.getElem?_set_ne (Ne.symm hj)] at e2
    obtain⟨u',r',q⟩:=hl j y v' e1 e2 e3
    refine⟨u',r', ?_⟩
    rcases q with q | ⟨k,c',e,z'⟩
    ·exact .inl q
    ·refine .inr ⟨k,c',e,z'.sameBut hs ?_⟩
     rintro rfl
     exact hj (AJ hN e1 (I.ok.inj _ _ _ e hc ▸ hi))
  ·by_cases AO:c'=c
   ·subst AO;exact⟨_,bI⟩
   ·obtain⟨w2,z2⟩:=I.cell y c' e
    exact⟨w2,z2.sameBut hs AO⟩
  ·obtain⟨e,n,ne,nf,d⟩:=I.pin p hp
   refine⟨(hs.2 p.1 ?_).trans e,n,ne,nf,d⟩
   intro q
   rw[q,AN] at e
   have q':oc=p.2:=Option.some.inj e
   exact d w' (by rw[←q'];exact HF)
theorem tV{M:Model}{A:Around}{E:Value→Shared→Prop}{i:Nat}{x:Str}{v:V}{u:Value}{Q:Unit→Shared→Prop}(I:Inv X pins σ H s)(hN:X.N.Nodup)(hi:X.N[i]?=some x)(hx:Loc X.env.scope x)(r:RelV v u)
  (h: ∀s',Inv X pins (σ.set i (some v)) H s'→Q () s') (hf:X.fn x=true∨X.env.scope.names.lookup x=some .local:=by first | exact .inl rfl | exact .inr rfl | assumption):wpAny M A (storeName X.env x u) Q E s:=
 AK I hN hi hx r (fun s' I' _=>h s' I') hf
theorem Inv.tW{s':Shared}{ch:List Addr}(I:Inv X pins σ H s)(ho:s'.os=s.os)(u:Un (bh X.stack) ch H H' s.heap s'.heap)(aF:bG X.prog X.w H' s'.heap)(hg:AllBare s'.gens)
  (gU: ∀b∈ch,(b∈X.ex∨X.s₀.heap.objs.size≤b)∧b≠X.env.locals∧(∀x c,X.env.cells.lookup x=some c→c≠b)∧ ∀p∈X.pn++pins,p.1≠b):Inv X pins σ H' s':=by
 obtain⟨h',g',d',t',o'⟩:=s'
 have e:o'=s.os:=ho
 subst e
 exact I.call (g':=g') (t':=t') (d':=d') u aF hg gU
end
abbrev XK:=Value→Option Addr→Hp→Prop
abbrev St:=List (Option V)
abbrev VK:=V→Hp→Prop
abbrev TE:=St→Hp→VK→Prop
abbrev TT:=St→Hp→(Bool→Hp→Prop)→Prop
abbrev TA:=St→Hp→(List V→Hp→Prop)→Prop
structure Ends where
 nx:St→Hp→Prop
 rt:VK
 bk:St→Hp→Prop:=fun _ _=>False
 ct:St→Hp→Prop:=fun _ _=>False
abbrev TS:=Ends→St→Hp→Prop
def EP(X:Cx)(pins:List (Addr×Obj))(σ:St)(Q:VK)(u:Value)(s':Shared):Prop:= ∃v H',Inv X pins σ H' s'∧RelV v u∧Q v H'
def TP(X:Cx)(pins:List (Addr×Obj))(σ:St)(Q:Bool→Hp→Prop)(b:Bool)(s':Shared):Prop:= ∃H',Inv X pins σ H' s'∧Q b H'
def AP(X:Cx)(pins:List (Addr×Obj))(σ:St)(Q:List V→Hp→Prop)(us:List Value)(s':Shared):Prop:= ∃vs H',Inv X pins σ H' s'∧Vals vs us∧Q vs H'
def SP(X:Cx)(pins:List (Addr×Obj))(D:Ends)(f:Flow)(s':Shared):Prop:=
 match f with
 | .next=> ∃σ' H',Inv X pins σ' H' s'∧D.nx σ' H'
 | .brk=> ∃σ' H',Inv X pins σ' H' s'∧D.bk σ' H'
 | .cont=> ∃σ' H',Inv X pins σ' H' s'∧D.ct σ' H'
 | .ret u=> ∃v σ' H',Inv X pins σ' H' s'∧RelV v u∧D.rt v H'
def PE(X:Cx)(e:Expr)(t:TE):Prop:=
 ∀(pins:List (Addr×Obj)) (s:Shared) (σ:St) (H:Hp) (Q:VK),Inv X pins σ H s→t σ H Q→wpAny (model X.prog X.w) X.A (eval e X.env) (EP X pins σ Q) X.xe s
def PT(X:Cx)(e:Expr)(t:TT):Prop:=
 ∀(pins:List (Addr×Obj)) (s:Shared) (σ:St) (H:Hp) (Q:Bool→Hp→Prop),Inv X pins σ H s→t σ H Q→wpAny (model X.prog X.w) X.A (isTrue e X.env (eval e X.env)) (TP X pins σ Q) X.xe s
def PW(X:Cx)(e:Expr)(t:TT):Prop:=
 ∀(whole:Sem Value) (pins:List (Addr×Obj)) (s:Shared) (σ:St) (H:Hp) (Q:Bool→Hp→Prop),Inv X pins σ H s→t σ H Q→wpAny (model X.prog X.w) X.A (isTrue e X.env whole) (TP X pins σ Q) X.xe s
theorem PW.pt{X:Cx}{e:Expr}{t:TT}(h:PW X e t):PT X e t:=h _
def PA(X:Cx)(es:List Expr)(t:TA):Prop:=
 ∀(pos:Pos) (pins:List (Addr×Obj)) (s:Shared) (σ:St) (H:Hp) (Q:List V→Hp→Prop),Inv X pins σ H s→t σ H Q→wpAny (model X.prog X.w) X.A (spliced (backTo pos (starEach es X.env))) (AP X pins σ Q) X.xe s
def PS(X:Cx)(st:Stmt)(t:TS):Prop:=
 ∀(pins:List (Addr×Obj)) (s:Shared) (σ:St) (H:Hp) (D:Ends),Inv X pins σ H s→t D σ H→wpAny (model X.prog X.w) X.A (exec st X.env) (SP X pins D) X.xe s
def a_(X:Cx)(st:List Stmt)(t:TS):Prop:=
 ∀(pins:List (Addr×Obj)) (s:Shared) (σ:St) (H:Hp) (D:Ends),Inv X pins σ H s→t D σ H→wpAny (model X.prog X.w) X.A (execs st X.env) (SP X pins D) X.xe s
theorem aL{α:Type}{t:Sem α}{Q Q':α→Shared→Prop}{M:Model}{A:Around}{E:Value→Shared→Prop}{s:Shared}(h:wpAny M A t Q E s)(hQ: ∀a s,Q a s→Q' a s):wpAny M A t Q' E s:=wpAny_mono h hQ fun _ _ x=>x
section
variable {X:Cx}
def tX(i:Nat):TE:=fun σ H Q=> ∃v,σ[i]?=some (some v)∧Q v H
def tC(v:V):TE:=fun _ H Q=>Q v H
theorem HG{i:Nat}{x:Str}{pos:Pos}(hN:X.N[i]?=some x)(hv:qt X.env.scope x)(hd:(x==("__debug__":Str))=false:=by decide)(e8:(x==("__classdict__":Str))=false:=by decide):PE X (.Name x pos) (tX i):=by
 intro pins s σ H Q I h
 obtain⟨v,e,h⟩:=h
 obtain⟨m,hn,hl⟩:=I.loc
 obtain⟨u,r,l⟩:=hl i x v hN e hv
 have fin:EP X pins σ Q u s:=⟨v,H,I,r,h⟩
 rcases l with⟨hk,hm⟩ | ⟨hk,c,hc,AQ⟩
 ·exact wpAny_Name (wpAny_loadName_local I.ok.kind hk hn hm fin) hd
 ·rcases hk with hk | hk
  ·exact wpAny_Name (wpAny_loadName_cell I.ok.kind hk hc AQ fin) hd
  ·exact wpAny_Name (wpAny_loadName_free I.ok.kind hk hc AQ fin e8) hd
theorem HH{i j pos}:PE X (.Constant (.int i) j pos) (tC (.int i)):=fun _ _ _ H _ I h=>wpAny_Constant_int ⟨.int i,H,I.tok _,⟨_,rfl⟩,h⟩
theorem HI{b j pos}:PE X (.Constant (.bool b) j pos) (tC (.bl b)):=fun _ _ _ H _ I h=>Constant_bool ⟨.bl b,H,I,rfl,h⟩
theorem HJ{j pos}:PE X (.Constant .none j pos) (tC .ai):=fun _ _ _ H _ I h=>Constant_none ⟨.ai,H,I,rfl,h⟩
theorem HK{x j pos}:PE X (.Constant (.str x) j pos) (tC (.str x)):=fun _ _ _ H _ I h=>Calls.Constant_str ⟨.str x,H,I.tok _,⟨_,rfl⟩,h⟩
def Gl(X:Cx)(x:Str):Prop:=X.env.kindOf x=some .globalImplicit
theorem qC{E:Value→Shared→Prop}{pins:List (Addr×Obj)}{s:Shared}{σ:St}{H:Hp}{x:Str}{u:Value}{pos:Pos}{Q:Value→Shared→Prop}(I:Inv X pins σ H s)(hg:Gl X x)(hm:X.mg x=some u)(h:Q u s)
  (hd:(x==("__debug__":Str))=false:=by decide):wpAny (model X.prog X.w) X.A (eval (.Name x pos) X.env) Q E s:=
 Calls.Name_function_global I.ok.kind hg (Calls.loadGlobal_global (by rw[I.ok.glob];exact I.mod.glob.keeps I.bk) hm h) hd
theorem ja{E:Value→Shared→Prop}{pins:List (Addr×Obj)}{s:Shared}{σ:St}{H:Hp}{x:Str}{u:Value}{pos:Pos}{Q:Value→Shared→Prop}(I:Inv X pins σ H s)(hg:Gl X x)(hm:X.mg x=none)(hv:bootBuiltins x=some u)(h:Q u s)
  (hn:x≠"__name__":=by decide) (hd:(x==("__debug__":Str))=false:=by decide):wpAny (model X.prog X.w) X.A (eval (.Name x pos) X.env) Q E s:=by
 obtain⟨mb,h1,h2⟩:=I.mod.blt
 exact Calls.Name_function_global I.ok.kind hg (Calls.loadGlobal_builtin (by rw[I.ok.glob];exact I.mod.glob.keeps I.bk) hm (by rw[I.ok.blt];exact h1.keeps I.bk) ((h2 x hn).trans hv) h) hd
theorem AR{x:Str}{v:V}{u:Value}{pos:Pos}(hg:Gl X x)(hm:X.mg x=some u)(r:RelV v u)(hd:(x==("__debug__":Str))=false:=by decide):PE X (.Name x pos) (tC v):=
 fun _ _ _ H _ I h=>qC I hg hm ⟨v,H,I,r,h⟩ hd
theorem AS{x:Str}{v:V}{u:Value}{pos:Pos}(hg:Gl X x)(hm:X.mg x=none)(hv:bootBuiltins x=some u)(r:RelV v u)(hn:x≠"__name__":=by decide)(hd:(x==("__debug__":Str))=false:=by decide):PE X (.Name x pos) (tC v):=
 fun _ _ _ H _ I h=>ja I hg hm hv ⟨v,H,I,r,h⟩ hn hd
variable {a b:Expr} {ta tb:TE} {pos:Pos}
def tB(t:TE):TT:=fun σ H Q=>t σ H fun x H1=> ∃c,x= .bl c∧Q c H1
variable {tA qD:TT} {rest:List Expr}
def AU(t u:TT):TT:=fun σ H Q=>t σ H fun c H1=>if c=true then u σ H1 Q else Q false H1
def AV(t u:TT):TT:=fun σ H Q=>t σ H fun c H1=>if c=true then Q true H1 else u σ H1 Q
def AW(t:TT):TT:=fun σ H Q=>t σ H fun c H1=>Q (!c) H1
theorem pw_and1(ha:PT X a tA):PW X (.BoolOp .And [a] pos) tA:=by
 intro wh pins s σ H Q I h
 refine isTrue_and (aL (ha pins s σ H Q I h) fun c s1 e=> ?_)
 cases c with
 | true=>exact isTrue_and_nil e
 | false=>exact e
theorem pw_or1(ha:PT X a tA):PW X (.BoolOp .Or [a] pos) tA:=by
 intro wh pins s σ H Q I h
 refine isTrue_or (aL (ha pins s σ H Q I h) fun c s1 e=> ?_)
 cases c with
 | false=>exact isTrue_or_nil e
 | true=>exact e
theorem pw_and(ha:PT X a tA)(hb:PW X (.BoolOp .And (b::rest) pos) qD):PW X (.BoolOp .And (a::b::rest) pos) (AU tA qD):=by
 intro wh pins s σ H Q I h
 refine isTrue_and (aL (ha pins s σ H _ I h) fun c s1 ⟨H1,I1,q1⟩=> ?_)
 cases c with
 | true=>exact hb wh pins s1 σ H1 Q I1 q1
 | false=>exact⟨H1,I1,q1⟩
theorem pw_or(ha:PT X a tA)(hb:PW X (.BoolOp .Or (b::rest) pos) qD):PW X (.BoolOp .Or (a::b::rest) pos) (AV tA qD):=by
 intro wh pins s σ H Q I h
 refine isTrue_or (aL (ha pins s σ H _ I h) fun c s1 ⟨H1,I1,q1⟩=> ?_)
 cases c with
 | true=>exact⟨H1,I1,q1⟩
 | false=>exact hb wh pins s1 σ H1 Q I1 q1
theorem HL(ha:PT X a tA):PT X (.UnaryOp .Not a pos) (AW tA):=by
 intro pins s σ H Q I h
 exact isTrue_not (ha pins s σ H (fun c H1=>Q (!c) H1) I h)
def AX(ta tb:TE):TE:=fun σ H Q=>ta σ H fun x H1=> ∃c,x= .bl c∧if c=true then tb σ H1 Q else Q (.bl false) H1
def AY(ta tb:TE):TE:=fun σ H Q=>ta σ H fun x H1=> ∃c,x= .bl c∧if c=true then Q (.bl true) H1 else tb σ H1 Q
theorem AZ{op}{t:TE}(h:PE X a t):PE X (.BoolOp op [a] pos) t:=fun pins s σ H Q I hw=>BoolOp_one (h pins s σ H Q I hw)
theorem HM(ha:PE X a ta)(hb:PE X (.BoolOp .And (b::rest) pos) tb):PE X (.BoolOp .And (a::b::rest) pos) (AX ta tb):=by
 intro pins s σ H Q I h
 refine BoolOp_and (aL (ha pins s σ H _ I h) fun v s1 ⟨x,H1,I1,r1,q1⟩=> ?_)
 obtain⟨c,rfl,q1⟩:=q1
 cases r1
 refine wpAny_truthy_bool ?_
 cases c with
 | true=>exact hb pins s1 σ H1 Q I1 q1
 | false=>exact⟨.bl false,H1,I1,rfl,q1⟩
theorem HN(ha:PE X a ta)(hb:PE X (.BoolOp .Or (b::rest) pos) tb):PE X (.BoolOp .Or (a::b::rest) pos) (AY ta tb):=by
 intro pins s σ H Q I h
 refine BoolOp_or (aL (ha pins s σ H _ I h) fun v s1 ⟨x,H1,I1,r1,q1⟩=> ?_)
 obtain⟨c,rfl,q1⟩:=q1
 cases r1
 refine wpAny_truthy_bool ?_
 cases c with
 | false=>exact hb pins s1 σ H1 Q I1 q1
 | true=>exact⟨.bl true,H1,I1,rfl,q1⟩
def A0(t:TT)(ta tb:TE):TE:=fun σ H Q=>t σ H fun c H1=>if c=true then ta σ H1 Q else tb σ H1 Q
theorem HP{c:Expr}(hc:PT X c tA)(ha:PE X a ta)(hb:PE X b tb):PE X (.IfExp c a b pos) (A0 tA ta tb):=by
 intro pins s σ H Q I h
 refine wpAny_IfExp (aL (hc pins s σ H _ I h) fun d s1 ⟨H1,I1,q1⟩=> ?_)
 cases d with
 | true=>exact ha pins s1 σ H1 Q I1 q1
 | false=>exact hb pins s1 σ H1 Q I1 q1
end
def ao(K:Frag)(H:Hp)(a:Addr)(xs:List V):Prop:=
 Rd H a (.lst xs)∨
  ∃(o:Obj) (its:Array Value) (n:Nat),K.lookup a=some o∧o.cls= .type "list"∧o.dict=none∧o.data= .seq its n∧its.size≤sizeLine∧Vals xs its.toList
def aU(K:Frag)(H:Hp)(a:Addr)(xs:List V):Prop:=
 Rd H a (.tup xs)∨
  ∃(o:Obj) (its:Array Value) (n:Nat),K.lookup a=some o∧o.cls= .type "tuple"∧o.data= .seq its n∧its.size≤sizeLine∧Vals xs its.toList
def HQ:Value→Option V
 | .none=>some .ai
 | .bool b=>some (.bl b)
 | .int i _=>some (.int i)
 | .str x _=>some (.str x)
 | .bytes b _=>some (.dJ b)
 | .float b _=>some (.jQ b)
 | .ref a=>some (.ref a)
 | .type n=>some (.ty n)
 | _=>none
theorem RelV.abs{x:V}{u:Value}(r:RelV x u):HQ u=some x:=by
 cases x with
 | ai=>cases r;rfl
 | bl _=>cases r;rfl
 | int _=>obtain⟨t,rfl⟩:=r;rfl
 | str _=>obtain⟨t,rfl⟩:=r;rfl
 | dJ _=>obtain⟨t,rfl⟩:=r;rfl
 | jQ _=>obtain⟨t,rfl⟩:=r;rfl
 | ref _=>cases r;rfl
 | ty _=>cases r;rfl
theorem RelV.inj{x y:V}{u:Value}(r:RelV x u)(q:RelV y u):x=y:=Option.some.inj (r.abs.symm.trans q.abs)
theorem Vals.inj: ∀{xs ys:List V} {us:List Value},Vals xs us→Vals ys us→xs=ys
 | _,_,_, .nil, .nil=>rfl
 | _,_,_, .cons r t, .cons r' t'=>by rw[r.inj r',Vals.inj t t']
section
variable {X:Cx} {pins:List (Addr×Obj)} {σ:St} {H:Hp} {s:Shared} {a:Addr} {xs ys:List V}
theorem ao.of{K:Frag}(h:H a=some (.lst xs)):ao K H a xs:= .inl (.inl h)
theorem aU.of{K:Frag}(h:H a=some (.tup xs)):aU K H a xs:= .inl (.inl h)
theorem Inv.list(I:Inv X pins σ H s)(h:ao X.K H a xs): ∃its:List Value,Vals xs its∧PlainL s.heap a its.toArray∧xs.length≤sizeLine:=by
 rcases h with h | ⟨o,its,n,hk,hc,hd,hs,hz,r⟩
 ·obtain⟨z,its,n,r,e⟩:=h.ok I.aF
  exact⟨its,r,⟨_,n,e,rfl,rfl,rfl⟩,z⟩
 ·refine⟨its.toList,r,⟨o,n,I.cQ a o hk,hc,hd,by simpa using hs⟩, ?_⟩
  have e:=r.length
  simp only[Array.length_toList] at e
  omega
theorem Inv.tuple(I:Inv X pins σ H s)(h:aU X.K H a xs): ∃its:List Value,Vals xs its∧IsTup s.heap a its.toArray∧xs.length≤sizeLine:=by
 rcases h with h | ⟨o,its,n,hk,hc,hs,hz,r⟩
 ·obtain⟨z,its,r,p⟩:=h.ok I.aF
  exact⟨its,r,p,z⟩
 ·refine⟨its.toList,r,⟨o,I.cQ a o hk,hc,n,by simpa using hs⟩, ?_⟩
  have e:=r.length
  simp only[Array.length_toList] at e
  omega
theorem Inv.nI(I:Inv X pins σ H s)(h:ao X.K H a xs)(h':ao X.K H a ys):xs=ys:=by
 obtain⟨its,r,⟨o,n,e,_,_,d⟩,_⟩:=I.list h
 obtain⟨d_,r',⟨o',n',e',_,_,d'⟩,_⟩:=I.list h'
 rw[e] at e';cases e'
 rw[d] at d'
 injection d' with d1 _
 have:its=d_:=by simpa using congrArg Array.toList d1
 subst this
 exact r.inj r'
end
section
variable {X:Cx} {pins:List (Addr×Obj)} {σ:St} {H:Hp} {s:Shared} {E:Value→Shared→Prop}
end
section
variable {X:Cx} {st:Stmt} {rest:List Stmt} {t u:TS} {e:Expr} {te:TE} {pos:Pos}
def tY:TS:=fun D σ H=>D.nx σ H
def A3(t u:TS):TS:=fun D σ H=>t {D with nx:=u D} σ H
theorem A4:a_ X [] tY:=fun _ _ σ H _ I h=>wpAny_execs_nil ⟨σ,H,I,h⟩
theorem HR(h1:PS X st t)(h2:a_ X rest u):a_ X (st::rest) (A3 t u):=by
 intro pins s σ H D I h
 refine wpAny_execs_cons (aL (h1 pins s σ H {D with nx:=u D} I h) fun f s1 q=> ?_)
 cases f with
 | next=>
  obtain⟨σ',H',I',q⟩:=q
  exact h2 pins s1 σ' H' D I' q
 | ret v=>exact q
 | brk=>exact q
 | cont=>exact q
def HS:TS:=fun D σ H=>D.bk σ H
def HU:TS:=fun D σ H=>D.ct σ H
theorem Inv.quiet{pins:List (Addr×Obj)}{σ:St}{H:Hp}{s:Shared}(I:Inv X pins σ H s):interactive X.env=false:=by simp[interactive,I.ok.kind]
def A5(te:TE):TS:=fun D σ H=>te σ H fun _ H1=>D.nx σ H1
theorem HV(he:PE X e te)(hs:swapsWith e none pos.line X.env=pure false:=by rfl):PS X (.Expr e pos) (A5 te):=by
 intro pins s σ H D I h
 exact wpAny_Expr_any (aL (he pins s σ H _ I h) fun v s1 ⟨x,H1,I1,r1,q1⟩=> ⟨σ,H1,I1,q1⟩) I.quiet hs
def A9(te:TE):TS:=fun D σ H=>te σ H D.rt
theorem HW(he:PE X e te):PS X (.Return (some e) pos) (A9 te):=by
 intro pins s σ H D I h
 exact wpAny_Return_some (aL (he pins s σ H _ I h) fun v s1 ⟨x,H1,I1,r1,q1⟩=> ⟨x,σ,H1,I1,r1,q1⟩)
def HX:TS:=fun D _ H=>D.rt .ai H
def A_(c:TT)(t u:TS):TS:=fun D σ H=>c σ H fun b H1=>if b=true then t D σ H1 else u D σ H1
theorem HY{c:Expr}{a b:List Stmt}{tc:TT}(hc:PT X c tc)(ha:a_ X a t)(hb:a_ X b u):PS X (.If c a b pos) (A_ tc t u):=by
 intro pins s σ H D I h
 refine wpAny_If (aL (hc pins s σ H _ I h) fun d s1 ⟨H1,I1,q1⟩=> ?_)
 cases d with
 | true=>exact ha pins s1 σ H1 D I1 q1
 | false=>exact hb pins s1 σ H1 D I1 q1
def HZ:TS:=fun _ _ _=>False
end
abbrev TG:=V→St→Hp→(St→Hp→Prop)→Prop
abbrev gj:=List V→St→Hp→(St→Hp→Prop)→Prop
def PG(X:Cx)(target:Expr)(t:TG):Prop:=
 ∀(pins:List (Addr×Obj)) (s:Shared) (σ:St) (H:Hp) (v:V) (u:Value) (Q:St→Hp→Prop),Inv X pins σ H s→RelV v u→t v σ H Q→
  wpAny (model X.prog X.w) X.A (assign target X.env u) (fun _ s'=> ∃σ' H',Inv X pins σ' H' s'∧Q σ' H') X.xe s
def jU(X:Cx)(ts:List Expr)(t:gj):Prop:=
 ∀(pins:List (Addr×Obj)) (s:Shared) (σ:St) (H:Hp) (vs:List V) (us:List Value) (Q:St→Hp→Prop),Inv X pins σ H s→Vals vs us→t vs σ H Q→
  wpAny (model X.prog X.w) X.A (assignInOrder ((assignEach ts X.env).map (·.2)) us) (fun _ s'=> ∃σ' H',Inv X pins σ' H' s'∧Q σ' H') X.xe s
abbrev tZ:=V→V→V→Hp→(Hp→Prop)→Prop
def Ba(X:Cx)(t:tZ):Prop:=
 ∀(pins:List (Addr×Obj)) (s:Shared) (σ:St) (H:Hp) (o i v:V) (ov iv u:Value) (Q:Hp→Prop),Inv X pins σ H s→RelV o ov→RelV i iv→RelV v u→t o i v H Q→
  wpAny (model X.prog X.w) X.A (setItem ov iv u) (fun _ s'=> ∃H',Inv X pins σ H' s'∧Q H') X.xe s
section
variable {X:Cx} {pos:Pos}
def cW(i:Nat):TG:=fun v σ H Q=>Q (σ.set i (some v)) H
theorem mB{i:Nat}{x:Str}(hN:X.N.Nodup)(hi:X.N[i]?=some x)(hx:Loc X.env.scope x)(hf:X.fn x=true∨X.env.scope.names.lookup x=some .local:=by first | exact .inl rfl | exact .inr rfl | assumption):PG X (.Name x pos) (cW i):=by
 intro pins s σ H v u Q I r h
 exact wpAny_assign_Name (tV I hN hi hx r (fun s' I'=> ⟨_,H,I',h⟩) hf)
def qE:gj:=fun vs σ H Q=>vs=[]∧Q σ H
def mD(t:TG)(u:gj):gj:=fun vs σ H Q=> ∃v r,vs=v::r∧t v σ H fun σ' H'=>u r σ' H' Q
theorem t4:jU X [] qE:=by
 intro pins s σ H vs us Q I r h
 obtain⟨e,h⟩:=h
 subst e
 cases r
 exact assignInOrder_nil ⟨σ,H,I,h⟩
theorem nJ{e:Expr}{es:List Expr}{t:TG}{u:gj}(h1:PG X e t)(h2:jU X es u)
  (hs:(assignEach (e::es) X.env).map (·.2)=assign e X.env::(assignEach es X.env).map (·.2):=by rfl):jU X (e::es) (mD t u):=by
 intro pins s σ H vs us Q I r h
 obtain⟨v,vr,e1,h⟩:=h
 subst e1
 cases r with
 | cons r rr=>
  rw[hs]
  refine assignInOrder_cons (aL (h1 pins s σ H _ _ _ I r h) fun _ s1 ⟨σ1,H1,I1,q1⟩=> ?_)
  exact h2 pins s1 σ1 H1 _ _ Q I1 rr q1
def qF(K:Frag)(n:Nat)(t:gj):TG:=fun v σ H Q=> ∃a xs,v= .ref a∧aU K H a xs∧xs.length=n∧t xs σ H Q
theorem Bb{es:List Expr}{k:Nat}{t:gj}{n:Nat}(hc:X.calm=true)(h:jU X es t)
  (hn:(assignEach es X.env).length=n:=by rfl) (gX:(assignEach es X.env).findIdx? (·.1)=none:=by rfl):PG X (.Tuple es k pos) (qF X.K n t):=by
 intro pins s σ H v u Q I r hw
 obtain⟨a,xs,e1,hq,hl,hw⟩:=hw
 subst e1
 cases r
 obtain⟨its,rv,ht,hz⟩:=I.tuple hq
 refine assign_Tuple_tuple (I.ok.hd hc) ht (by simp[hn,←hl,rv.length]) gX fun h' hx=> ?_
 have I1:Inv X pins σ H {s with heap:=h'}:=I.kept (t':=s.toks) fun b o e=>hx b o (Nat.ne_of_lt (Heap.lt_size e)) e
 exact h pins _ σ H xs _ Q I1 (by simpa using rv) hw
def Bc(to ti:TE)(t:tZ):TG:=fun v σ H Q=>to σ H fun o H1=>ti σ H1 fun i H2=>t o i v H2 fun H3=>Q σ H3
theorem H_{o i:Expr}{to ti:TE}{t:tZ}(ho:PE X o to)(hi:PE X i ti)(hs:Ba X t)
  (ha: ∀v,assign (.Subscript o i pos) X.env v=(do
   let ov ←holding [v] (eval o X.env)
   let iv ←holding [v,ov] (eval i X.env)
   standAt pos
   holding [v,ov,iv] (setItem ov iv v)
   release [v,ov,iv] []):=by intro _;rfl):PG X (.Subscript o i pos) (Bc to ti t):=by
 intro pins s σ H v u Q I r h
 rw[ha]
 refine wpAny_bind (wpAny_holding (aL (ho pins s σ H _ I h) fun ov s1 ⟨x,H1,I1,r1,q1⟩=> ?_))
 refine wpAny_bind (wpAny_holding (aL (hi pins s1 σ H1 _ I1 q1) fun iv s2 ⟨y,H2,I2,r2,q2⟩=> ?_))
 refine wpAny_bind (wpAny_standAt (wpAny_bind (wpAny_holding (aL (hs pins s2 σ H2 x y v ov iv u _ I2 r1 r2 r q2) fun _ s3 ⟨H3,I3,q3⟩=> ?_))))
 exact wpAny_release ⟨σ,H3,I3,q3⟩
def gY(te:TE)(g:TG):TS:=fun D σ H=>te σ H fun x H1=>g x σ H1 D.nx
theorem Bd{tg e:Expr}{te:TE}{g:TG}(he:PE X e te)(hg:PG X tg g)(hs:swapsWithSole [tg] e pos.line X.env=pure false:=by rfl)(hw:swappedStores [tg] e X.env=pure none:=by rfl)
  (h1:(assignEach [tg] X.env).map (·.2)=[assign tg X.env]:=by rfl):PS X (.Assign [tg] e pos) (gY te g):=by
 intro pins s σ H D I h
 refine wpAny_Assign_stores (aL (he pins s σ H _ I h) fun v s1 ⟨x,H1,I1,r1,q1⟩=> ?_) hs hw
 rw[h1]
 exact aL (hg pins s1 σ H1 x v _ I1 r1 q1) fun _ s2 q=>q
theorem Ia{i:Nat}{x:Str}{e:Expr}{te:TE}{pos':Pos}(hN:X.N.Nodup)(hi:X.N[i]?=some x)(hx:Loc X.env.scope x)(he:PE X e te)(hs:swapsWith e (some (.Name x pos')) pos.line X.env=pure false:=by rfl)(hf:X.fn x=true∨X.env.scope.names.lookup x=some .local:=by first | exact .inl rfl | exact .inr rfl | assumption):
  PS X (.Assign [.Name x pos'] e pos) (gY te (cW i)):=by
 intro pins s σ H D I h
 refine wpAny_Assign_Name (aL (he pins s σ H _ I h) fun v s1 ⟨y,H1,I1,r1,q1⟩=> ?_) hs
 exact tV I1 hN hi hx r1 (fun s2 I2=> ⟨_,H1,I2,q1⟩) hf
end
section
variable {X:Cx} {pos:Pos}
def Ib(c:TT)(tb:TS):TS:=fun D σ H=> ∃W:Nat→St→Hp→Prop,(∃m,W m σ H)∧ ∀m σ H,W m σ H→
 c σ H fun b H1=>if b=true then ∃N:St→Hp→Prop,(∀σ' H',N σ' H'→ ∃m',m'<m∧W m' σ' H')∧tb {D with nx:=N,ct:=N,bk:=D.nx} σ H1 else D.nx σ H1
end
structure It where
 go:Nat→Hp→Prop
 ed:Nat→Hp→V→Hp→Prop
 stop:Nat→Hp→Prop
def fK(X:Cx)(pins:List (Addr×Obj))(H:Hp)(b:Addr):Prop:=
 H b=none∧b≠X.env.locals∧b∉X.fs∧(b∈X.ex∨X.s₀.heap.objs.size≤b)∧(∀x c,X.env.cells.lookup x=some c→c≠b)∧ ∀p∈X.pn++pins,p.1≠b
theorem Inv.nK{X:Cx}{pins:List (Addr×Obj)}{σ:St}{H H':Hp}{s:Shared}{b:Addr}(I:Inv X pins σ H s)(hb:s.heap.objs.size≤b)(hn:H' b=none):fK X pins H' b:=by
 refine⟨hn,Nat.ne_of_gt (Nat.lt_of_lt_of_le I.lt hb),I.AG hb, .inr (Nat.le_trans I.sz hb),fun x c e z=> ?_,fun p hp z=> ?_⟩
 ·obtain⟨v,q⟩:=I.cell x c e
  exact absurd (Nat.lt_of_lt_of_le q.lt (by rw[z];exact hb)) (Nat.lt_irrefl _)
 ·exact absurd (Nat.lt_of_lt_of_le (Heap.lt_size (I.pin p hp).1) (by rw[z];exact hb)) (Nat.lt_irrefl _)
structure Turn (P:Program) (w:World) (K:Frag) (tg:Expr) (J:It) (fp:List Addr) (it:Addr) (tn:Nat→Heap→Prop):Prop where
 mem:it∈fp
 obj: ∀i h,tn i h→ ∀b∈fp,∃o,h.get? b=some o∧ ∀v,o.data≠ .cell v
 keep: ∀i h h',tn i h→(∀b∈fp,∀o,h.get? b=some o→h'.get? b=some o)→tn i h'
 item: ∀(X:Cx),X.prog=P→X.w=w→X.K=K→X.calm=true→ ∀(i:Nat) (pins:List (Addr×Obj)) (s:Shared) (σ:St) (H:Hp) (E:Value→Shared→Prop),Inv X pins σ H s→(∀b∈fp,fK X pins H b)→tn i s.heap→J.go i H→
  wpAny (model P w) X.A (pyNext (.ref it)) (fun r s1=> ∃u,r=some u∧
   wpAny (model P w) X.A (letOwnedTupleGo tg (.ref it) u) (fun _ s2=> ∃x H',Inv X pins σ H' s2∧RelV x u∧J.ed i H x H'∧tn (i+1) s2.heap∧ ∀b∈fp,H' b=none) E s1) E s
 done: ∀(X:Cx),X.prog=P→X.w=w→X.K=K→X.calm=true→ ∀(i:Nat) (pins:List (Addr×Obj)) (s:Shared) (σ:St) (H:Hp) (E:Value→Shared→Prop),Inv X pins σ H s→(∀b∈fp,fK X pins H b)→tn i s.heap→J.stop i H→
  wpAny (model P w) X.A (pyNext (.ref it)) (fun r s1=>r=none∧Inv X pins σ H s1) E s
 self: ∀(A:Around) (i:Nat) (s:Shared) (Q:Value→Shared→Prop) (E:Value→Shared→Prop),tn i s.heap→Q (.ref it) s→wpAny (model P w) A (pyIter (.ref it)) Q E s
abbrev TI:=St→Hp→(It→Hp→Prop)→Prop
def Be(X:Cx)(pins:List (Addr×Obj))(σ:St)(tg:Expr)(R:It→Hp→Prop)(jV:Value)(s2:Shared):Prop:=
 ∃(it:Addr) (fp:List Addr) (tn:Nat→Heap→Prop) (J:It) (H':Hp),jV= .ref it∧Inv X pins σ H' s2∧Turn X.prog X.w X.K tg J fp it tn∧tn 0 s2.heap∧(∀b∈fp,fK X pins H' b)∧R J H'
def PI(X:Cx)(tg iter:Expr)(wi:TI):Prop:=
 ∀(pins:List (Addr×Obj)) (s:Shared) (σ:St) (H:Hp) (R:It→Hp→Prop),Inv X pins σ H s→wi σ H R→
  wpAny (model X.prog X.w) X.A (eval iter X.env) (fun v s1=>wpAny (model X.prog X.w) X.A (pyIter v) (Be X pins σ tg R) X.xe s1) X.xe s
theorem t5{M:Model}{A:Around}{E:Value→Shared→Prop}{s:Shared}{tg:Expr}{it:Addr}{u:Value}{o:Obj}{n:String}{vs:Array Value}{Q:Unit→Shared→Prop}(ho:s.heap.get? it=some o)(hc:o.cls= .type n)(hd:o.data= .fields vs)
    (hn:["enumerate","zip","dict_itemiterator","dict_reverseitemiterator","odict_iterator","itertools.zip_longest","itertools.pairwise"].contains n=false) (hQ:Q () s):wpAny M A (letOwnedTupleGo tg (.ref it) u) Q E s:=by
  unfold letOwnedTupleGo
  cases tg<;>first
    | exact wpAny_pure hQ
    | (cases u<;>first
        | exact wpAny_pure hQ
        | (refine wpAny_bind (wpAny_load ho ?_)
           rw[hc,hd]
           show wpAny M A (if (["enumerate","zip","dict_itemiterator","dict_reverseitemiterator","odict_iterator","itertools.zip_longest","itertools.pairwise"].contains n && vs[0]?==some (rawInt _))=true then _ else _) Q E s
           rw[if_neg (by intro h;rw[hn,Bool.false_and] at h;cases h)]
           exact wpAny_pure hQ))
def dt(K:Frag)(a:Addr):It:=
 ⟨fun i H=> ∃xs x,ao K H a xs∧xs[i]?=some x,fun i H x H'=>H'=H∧ ∀xs,ao K H a xs→xs[i]?=some x,fun i H=> ∃xs,ao K H a xs∧xs.length≤i⟩
def Ic(K:Frag)(a:Addr):It:=
 ⟨fun i H=> ∃xs x,aU K H a xs∧xs[i]?=some x,fun i H x H'=>H'=H∧ ∀xs,aU K H a xs→xs[i]?=some x,fun i H=> ∃xs,aU K H a xs∧xs.length≤i⟩
def gZ(lo:Int)(n:Nat):It:=⟨fun i _=>i<n,fun i H x H'=>H'=H∧x= .int (lo+i),fun i _=>n≤i⟩
theorem qG{P:Program}{w:World}{K:Frag}{tg:Expr}(a it:Addr):Turn P w K tg (dt K a) [it] it (fun i h=>h.IsListIter it a i) where
 mem:=by simp
 obj:=fun i h st b hb=>by
  have e:b=it:=by simpa using hb
  subst e
  obtain⟨o,e,c,d⟩:=st
  exact⟨o,e,fun v z=>by rw[d] at z;cases z⟩
 keep:=fun i h h' st k=>st.at fun o e=>k it (by simp) o e
 item:=by
  intro X hP hw hK hc i pins s σ H E I hf st hg
  subst hP hw hK
  obtain⟨xs,x,hq,hx⟩:=hg
  obtain⟨its,rv,p,hz⟩:=I.list hq
  obtain⟨u,hu,ru⟩:=rv.get hx
  obtain⟨f0,f1,f2,f3,f4,f5⟩:=hf it (by simp)
  refine wpAny_pyNext_list_item st p.isList (x:=u) (by simpa using hu) fun h' du sb=> ?_
  have I1:Inv X pins σ H {s with heap:=h'}:=I.turned (t':=s.toks) (fun b o hb e=> (sb.2 b hb).trans e) f0 f1 f3 f4 f5
  obtain⟨o,e,c,d⟩:=id du
  exact⟨u,rfl,t5 (s:={s with heap:=h'}) e c d (by decide) ⟨x,H,I1,ru,⟨rfl,fun ys hy=>by rw[I.nI hy hq];exact hx⟩,du,fun b hb=> (hf b hb).1⟩⟩
 done:=by
  intro X hP hw hK hc i pins s σ H E I hf st hg
  subst hP hw hK
  obtain⟨xs,hq,hx⟩:=hg
  obtain⟨its,rv,p,hz⟩:=I.list hq
  obtain⟨f0,f1,f2,f3,f4,f5⟩:=hf it (by simp)
  have hl:=rv.length
  exact wpAny_pyNext_list_end (I.ok.hd hc) st p.isList (by simp;omega) fun h' eb=> ⟨rfl,I.turned (t':=s.toks) (fun b o hb e=>eb b o hb e) f0 f1 f3 f4 f5⟩
 self:=fun _ _ _ _ _ st h=>wpAny_pyIter_listiter st h
theorem Ie{P:Program}{w:World}{K:Frag}{tg:Expr}(it:Addr)(lo:Int)(n:Nat):Turn P w K tg (gZ lo n) [it] it (fun i h=>IsRangeIter h it (lo+ (i:Nat)*1) ((n:Int) - (i:Nat)) 1) where
 mem:=by simp
 obj:=fun i h st b hb=>by
  have e:b=it:=by simpa using hb
  subst e
  exact⟨_,st,fun v z=>by
   have z':Data.fields _=Data.cell v:=z
   cases z'⟩
 keep:=fun i h h' st k=>k it (by simp) _ st
 item:=by
  intro X hP hw hK hc i pins s σ H E I hf st hg
  subst hP hw hK
  obtain⟨f0,f1,f2,f3,f4,f5⟩:=hf it (by simp)
  have W:=Walks.range (prog:=X.prog) (w:=X.w) (I.ok.hd hc) it lo 1 n
  refine W.item i s _ _ hg st fun v h' tk hv du kk=> ?_
  obtain⟨t,rfl⟩:=hv
  have I1:Inv X pins σ H {s with heap:=h',toks:=tk}:=I.turned (fun b o hb e=>kk b o (by simpa using hb) e) f0 f1 f3 f4 f5
  refine⟨_,rfl,t5 (s:={s with heap:=h',toks:=tk}) (n:="range_iterator") du rfl rfl (by decide) ⟨.int (lo+i),H,I1,⟨t, ?_⟩,⟨rfl,rfl⟩,du,fun b hb=> (hf b hb).1⟩⟩
  rw[Int.mul_one]
 done:=by
  intro X hP hw hK hc i pins s σ H E I hf st hg
  subst hP hw hK
  obtain⟨f0,f1,f2,f3,f4,f5⟩:=hf it (by simp)
  exact wpAny_pyNext_range_end (I.ok.hd hc) st (by have:n≤i:=hg;omega) fun h' eb=> ⟨rfl,I.turned (t':=s.toks) (fun b o hb e=>eb b o hb e) f0 f1 f3 f4 f5⟩
 self:=fun _ _ _ _ _ st h=>wpAny_pyIter_rangeiter st h
section
variable {X:Cx} {tg:Expr}
def nM(K:Frag)(tl:TE):TI:=fun σ H R=>tl σ H fun x H1=> ∃a,x= .ref a∧(∃xs,ao K H1 a xs)∧R (dt K a) H1
def Ig(K:Frag)(tl:TE):TI:=fun σ H R=>tl σ H fun x H1=> ∃a,x= .ref a∧(∃xs,aU K H1 a xs)∧R (Ic K a) H1
theorem Ih{l:Expr}{tl:TE}(hl:PE X l tl):PI X tg l (nM X.K tl):=by
 intro pins s σ H R I h
 refine aL (hl pins s σ H _ I h) fun v s1 ⟨x,H1,I1,r1,q1⟩=> ?_
 obtain⟨a,e,⟨xs,hq⟩,q⟩:=q1
 subst e
 cases r1
 obtain⟨its,rv,p,hz⟩:=I1.list hq
 refine wpAny_pyIter_list p.isList ?_
 refine⟨s1.heap.objs.size,[s1.heap.objs.size],_,_,H1,rfl,I1.kept (t':=s1.toks) fun b o e=>Heap.get?_push_of_some _ e,qG a _,⟨_,Heap.get?_push_size _ rfl,rfl,rfl⟩,fun b hb=> ?_,q⟩
 have e:b=s1.heap.objs.size:=by simpa using hb
 subst e
 exact I1.nK (Nat.le_refl _) (I1.aF.fresh (Nat.le_refl _))
theorem Ii{pins:List (Addr×Obj)}{σ:St}{H:Hp}{s:Shared}{R:It→Hp→Prop}{E:Value→Shared→Prop}{lo hi:Int}{t u v:Tok}{tk:Nat}(I:Inv X pins σ H s)(h1: -(2 ^ 62)≤lo)(h2:lo<2 ^ 62)(h3: -(2 ^ 62)≤hi)(h4:hi<2 ^ 62)
  (q:R (gZ lo (hi - lo).toNat) H):wpAny (model X.prog X.w) X.A (pyIter (.ref s.heap.objs.size)) (Be X pins σ tg R) E {s with heap:=s.heap.push {cls:= .type "range",data:= .fields #[.int lo t, .int hi u, .int 1 v]},toks:=tk}:=by
 refine wpAny_pyIter_range (IsRange.new ..) (small_one h1 h2 h3 h4) ?_
 have I1:Inv X pins σ H {s with heap:=s.heap.push {cls:= .type "range",data:= .fields #[.int lo t, .int hi u, .int 1 v]},toks:=tk}:=I.kept fun b o e=>Heap.get?_push_of_some _ e
 refine⟨(s.heap.push {cls:= .type "range",data:= .fields #[.int lo t, .int hi u, .int 1 v]}).objs.size,[(s.heap.push {cls:= .type "range",data:= .fields #[.int lo t, .int hi u, .int 1 v]}).objs.size],_,_,H,rfl,
  I1.kept (t':=tk) fun b o e=>Heap.get?_push_of_some _ e,Ie _ lo (hi - lo).toNat, ?_,fun b hb=> ?_,q⟩
 ·have e1:lo+ ((0:Nat):Int)*1=lo:=by simp
  have e2:(((hi - lo).toNat:Nat):Int) - ((0:Nat):Int)=Builtin.Range.rangeSize lo hi 1:=by rw[rangeSize_one];split<;>omega
  show IsRangeIter _ _ (lo+ ((0:Nat):Int)*1) ((((hi - lo).toNat:Nat):Int) - ((0:Nat):Int)) 1
  rw[e1,e2]
  exact Heap.get?_push_size _ rfl
 ·have e:b=(s.heap.push {cls:= .type "range",data:= .fields #[.int lo t, .int hi u, .int 1 v]}).objs.size:=by simpa using hb
  subst e
  exact I1.nK (Nat.le_refl _) (I1.aF.fresh (Nat.le_refl _))
def Bf(ta:TA):TI:=fun σ H R=>ta σ H fun vs H1=> ∃j:Int,vs=[.int j]∧ -(2 ^ 62)≤j∧j<2 ^ 62∧R (gZ 0 j.toNat) H1
def Ij(ta:TA):TI:=fun σ H R=>ta σ H fun vs H1=> ∃i j:Int,vs=[.int i, .int j]∧(-(2 ^ 62)≤i∧i<2 ^ 62∧ -(2 ^ 62)≤j∧j<2 ^ 62)∧R (gZ i (j - i).toNat) H1
theorem Ik{a:Expr}{ta:TA}{p pos:Pos}(hg:Gl X "range")(hm:X.mg "range"=none)(ha:PA X [a] ta)(hs:starEach [a] X.env=[(false,eval a X.env)]:=by rfl):PI X tg (.Call (.Name "range" p) [a] [] pos) (Bf ta):=by
 intro pins s σ H R I h
 refine Call_ (ja I hg hm boot_range (PyProof.Rows.callWith_type1 (aL (ha pos pins s σ H _ I h) fun us s1 ⟨vs,H1,I1,r1,q1⟩=> ?_) hs rfl))
 obtain⟨j,e,q1,q2,q⟩:=q1
 subst e
 cases r1 with
 | cons r rr=>
  cases rr
  obtain⟨t,rfl⟩:=r
  exact call_range_1 (Ii I1 (by omega) (by omega) q1 q2 (by simpa using q))
def qH(wi:TI)(g:TG)(tb:TS):TS:=fun D σ H=>wi σ H fun J H1=> ∃W:Nat→Nat→St→Hp→Prop,(∃m,W 0 m σ H1)∧ ∀i m σ H,W i m σ H→
 (J.stop i H∧D.nx σ H)∨(J.go i H∧ ∃N:St→Hp→Prop,(∀σ' H',N σ' H'→ ∃m',m'<m∧W (i+1) m' σ' H')∧ ∀x H',J.ed i H x H'→g x σ H' fun σ2 H2=>tb {D with nx:=N,ct:=N,bk:=D.nx} σ2 H2)
def mE(fp:List Addr)(h:Heap):List (Addr×Obj):=fp.filterMap fun b=> (h.get? b).map fun o=> (b,o)
theorem qI{fp:List Addr}{h:Heap}{b:Addr}{o:Obj}(hb:b∈fp)(e:h.get? b=some o):(b,o)∈mE fp h:=List.mem_filterMap.mpr ⟨b,hb,by rw[e];rfl⟩
theorem Il{fp:List Addr}{h:Heap}{p:Addr×Obj}(hp:p∈mE fp h):p.1∈fp∧h.get? p.1=some p.2:=by
 obtain⟨b,hb,e⟩:=List.mem_filterMap.mp hp
 cases q:h.get? b with
 | none=>rw[q] at e;cases e
 | some o=>
  rw[q] at e
  have e':(b,o)=p:=Option.some.inj e
  subst e'
  exact⟨hb,q⟩
theorem Inv.pinned{pins:List (Addr×Obj)}{σ:St}{H:Hp}{s:Shared}{fp:List Addr}(I:Inv X pins σ H s)(hf: ∀b∈fp,fK X pins H b)(ho: ∀b∈fp,∃o,s.heap.get? b=some o∧ ∀v,o.data≠ .cell v):Inv X (pins++mE fp s.heap) σ H s:=
 I.mz fun p hp=> (List.mem_append.mp hp).elim (fun z=>I.pin p (List.mem_append_right _ z)) fun z=>by
  obtain⟨hb,e⟩:=Il z
  obtain⟨f0,f1,f2,_⟩:=hf p.1 hb
  obtain⟨o,e',d⟩:=ho p.1 hb
  rw[e] at e';cases e'
  exact⟨e,f0,f1,f2,d⟩
theorem Inv.t6{pins pl:List (Addr×Obj)}{σ:St}{H:Hp}{s:Shared}(I:Inv X (pins++pl) σ H s):Inv X pins σ H s:=I.mz fun p hp=>I.pin p (List.mem_append_right _ (List.mem_append_left _ hp))
theorem Bg{iter:Expr}{body:List Stmt}{wi:TI}{g:TG}{tb:TS}{pos:Pos}(hp:PassesOwn (model X.prog X.w) X.A X.env X.xe)(hc:X.calm=true)(hi:PI X tg iter wi)(hg:PG X tg g)(hb:a_ X body tb)
  (hs: ∀x,foldedSetIterable iter X.env x=pure x:=by intro _;rfl):PS X (.For tg iter body [] pos) (qH wi g tb):=by
 intro pins s σ H D I h
 refine wpAny_For (aL (hi pins s σ H _ I h) fun v s1 h1=>aL h1 fun jV s2 h2=> ?_) hs
 obtain⟨it,fp,tn,J,H2,e,I2,T,nN,f2,W,⟨m0,w0⟩,turn⟩:=h2
 subst e
 have jW: ∀{H':Hp},(∀b∈fp,H' b=none)→ ∀b∈fp,fK X pins H' b:=fun hn b hb=> ⟨hn b hb,(f2 b hb).2⟩
 refine codeAny_forLoop_any (fun n s'=> ∃i σ' H',Inv X pins σ' H' s'∧tn i s'.heap∧(∀b∈fp,H' b=none)∧W i n σ' H') ?_ m0 ⟨0,σ,H2,I2,nN,fun b hb=> (f2 b hb).1,w0⟩
 rintro n s3 ⟨i,σ3,H3,I3,Bh,Bi,w3⟩
 rcases turn i n σ3 H3 w3 with⟨stop,qn⟩ | ⟨go,N,hN,step⟩
 ·refine wpAny_passesOwn hp (aL (T.done X rfl rfl rfl hc i pins s3 σ3 H3 X.xe I3 (jW Bi) Bh stop) fun r s4 ⟨hr,I4⟩=> ?_)
  subst hr
  exact wpAny_execs_nil ⟨σ3,H3,I4,qn⟩
 ·refine wpAny_passesOwn hp (aL (T.item X rfl rfl rfl hc i pins s3 σ3 H3 X.xe I3 (jW Bi) Bh go) fun r s4 ⟨u,hr,h4⟩=> ?_)
  subst hr
  refine wpAny_passesOwn hp (aL h4 fun _ s5 ⟨x,H5,I5,r5,y5,jX,t9⟩=> ?_)
  have nP:=I5.pinned (jW t9) (T.obj _ _ jX)
  refine wpAny_passesOwn hp (aL (hg _ s5 σ3 H5 x u _ nP r5 (step x H5 y5)) fun _ s6 ⟨σ6,H6,I6,q6⟩=> ?_)
  refine wpAny_passesOwn hp (aL (hb _ s6 σ6 H6 _ I6 q6) fun f s7 q7=> ?_)
  have again: ∀{σ7:St} {H7:Hp},Inv X (pins++mE fp s5.heap) σ7 H7 s7→N σ7 H7→ ∃m,m<n∧ ∃i σ' H',Inv X pins σ' H' s7∧tn i s7.heap∧(∀b∈fp,H' b=none)∧W i m σ' H':=fun {σ7 H7} I7 n7=>by
   obtain⟨m',hm,w7⟩:=hN σ7 H7 n7
   refine⟨m',hm,i+1,σ7,H7,I7.t6,T.keep _ _ _ jX fun b hb o e=> (I7.pin (b,o) (List.mem_append_right _ (List.mem_append_right _ (qI hb e)))).1,fun b hb=> ?_,w7⟩
   obtain⟨o,e,d⟩:=T.obj _ _ jX b hb
   exact(I7.pin (b,o) (List.mem_append_right _ (List.mem_append_right _ (qI hb e)))).2.1
  cases f with
  | next=>obtain⟨σ7,H7,I7,n7⟩:=q7;exact again I7 n7
  | cont=>obtain⟨σ7,H7,I7,n7⟩:=q7;exact again I7 n7
  | brk=>obtain⟨σ7,H7,I7,q7⟩:=q7;exact⟨σ7,H7,I7.t6,q7⟩
  | ret v=>obtain⟨x7,σ7,H7,I7,r7,q7⟩:=q7;exact⟨x7,σ7,H7,I7.t6,r7,q7⟩
end
theorem qJ{K:Frag}{a:Addr}{xs:List V}{g:TG}{tb:TS}{D:Ends}{σ:St}{H:Hp}(Pv:Nat→St→Hp→Prop)(h0:Pv 0 σ H)(hl: ∀i σ H,i≤xs.length→Pv i σ H→ao K H a xs)
  (hs: ∀i x σ H,xs[i]?=some x→Pv i σ H→g x σ H fun σ2 H2=>tb {D with nx:=Pv (i+1),ct:=Pv (i+1),bk:=D.nx} σ2 H2) (hd: ∀σ H,Pv xs.length σ H→D.nx σ H):
  ∃W:Nat→Nat→St→Hp→Prop,(∃m,W 0 m σ H)∧ ∀i m σ H,W i m σ H→
   ((dt K a).stop i H∧D.nx σ H)∨((dt K a).go i H∧ ∃N:St→Hp→Prop,(∀σ' H',N σ' H'→ ∃m',m'<m∧W (i+1) m' σ' H')∧ ∀x H',(dt K a).ed i H x H'→g x σ H' fun σ2 H2=>tb {D with nx:=N,ct:=N,bk:=D.nx} σ2 H2):=by
 refine⟨fun i m σ H=>m=xs.length - i∧i≤xs.length∧Pv i σ H,⟨xs.length,by simp,Nat.zero_le _,h0⟩, ?_⟩
 rintro i m σ H ⟨rfl,hi,p⟩
 have q:=hl i σ H hi p
 by_cases aQ:i<xs.length
 ·refine .inr ⟨⟨xs,xs[i],q,by simp[aQ]⟩,Pv (i+1),fun σ' H' p'=> ⟨xs.length - (i+1),by omega,rfl,aQ,p'⟩,fun x H' y=> ?_⟩
  obtain⟨e,y⟩:=y
  subst e
  exact hs i x σ _ (y xs q) p
 ·have e:i=xs.length:=by omega
  subst e
  exact .inl ⟨⟨xs,q,Nat.le_refl _⟩,hd σ H p⟩
theorem Im{lo:Int}{n:Nat}{g:TG}{tb:TS}{D:Ends}{σ:St}{H:Hp}(Pv:Nat→St→Hp→Prop)(h0:Pv 0 σ H)
  (hs: ∀i σ H,i<n→Pv i σ H→g (.int (lo+i)) σ H fun σ2 H2=>tb {D with nx:=Pv (i+1),ct:=Pv (i+1),bk:=D.nx} σ2 H2) (hd: ∀σ H,Pv n σ H→D.nx σ H):
  ∃W:Nat→Nat→St→Hp→Prop,(∃m,W 0 m σ H)∧ ∀i m σ H,W i m σ H→
   ((gZ lo n).stop i H∧D.nx σ H)∨((gZ lo n).go i H∧ ∃N:St→Hp→Prop,(∀σ' H',N σ' H'→ ∃m',m'<m∧W (i+1) m' σ' H')∧ ∀x H',(gZ lo n).ed i H x H'→g x σ H' fun σ2 H2=>tb {D with nx:=N,ct:=N,bk:=D.nx} σ2 H2):=by
 refine⟨fun i m σ H=>m=n - i∧i≤n∧Pv i σ H,⟨n,by simp,Nat.zero_le _,h0⟩, ?_⟩
 rintro i m σ H ⟨rfl,hi,p⟩
 by_cases aQ:i<n
 ·refine .inr ⟨aQ,Pv (i+1),fun σ' H' p'=> ⟨n - (i+1),by omega,rfl,aQ,p'⟩,fun x H' y=> ?_⟩
  obtain⟨e,y⟩:=y
  subst e y
  exact hs i σ _ aQ p
 ·have e:i=n:=by omega
  subst e
  exact .inl ⟨Nat.le_refl _,hd σ H p⟩
abbrev R2:=V→V→Hp→VK→Prop
def aR(X:Cx)(f:Value→Value→Sem Value)(r:R2):Prop:=
 ∀(pins:List (Addr×Obj)) (s:Shared) (σ:St) (H:Hp) (x y:V) (v u:Value) (Q:VK),Inv X pins σ H s→RelV x v→RelV y u→r x y H Q→
  wpAny (model X.prog X.w) X.A (f v u) (EP X pins σ Q) X.xe s
def qK(X:Cx)(f:Value→Sem Value)(r:V→Hp→VK→Prop):Prop:=
 ∀(pins:List (Addr×Obj)) (s:Shared) (σ:St) (H:Hp) (x:V) (v:Value) (Q:VK),Inv X pins σ H s→RelV x v→r x H Q→
  wpAny (model X.prog X.w) X.A (f v) (EP X pins σ Q) X.xe s
def bA(X:Cx)(f:Value)(r:List V→Hp→VK→Prop):Prop:=
 ∀(pins:List (Addr×Obj)) (s:Shared) (σ:St) (H:Hp) (xs:List V) (us:List Value) (Q:VK),Inv X pins σ H s→Vals xs us→r xs H Q→
  wpAny (model X.prog X.w) X.A (call f us) (EP X pins σ Q) X.xe s
def Io(X:Cx)(r:V→Hp→(Bool→Hp→Prop)→Prop):Prop:=
 ∀(pins:List (Addr×Obj)) (s:Shared) (σ:St) (H:Hp) (x:V) (v:Value) (Q:Bool→Hp→Prop),Inv X pins σ H s→RelV x v→r x H Q→
  wpAny (model X.prog X.w) X.A (truthy v) (TP X pins σ Q) X.xe s
def di(r:R2)(ta tb:TE):TE:=fun σ H Q=>ta σ H fun x H1=>tb σ H1 fun y H2=>r x y H2 Q
def Bj(r:V→Hp→VK→Prop)(ta:TE):TE:=fun σ H Q=>ta σ H fun x H1=>r x H1 Q
def rI(C:Int→Int→Prop)(g:Int→Int→V):R2:=fun x y H Q=> ∃i j,x= .int i∧y= .int j∧C i j∧Q (g i j) H
def iA(g:Int→Int→V):R2:=fun x y H Q=> ∃i j,x= .int i∧y= .int j∧Q (g i j) H
def rU(g:Int→V):V→Hp→VK→Prop:=fun x H Q=> ∃i,x= .int i∧Q (g i) H
section
variable {X:Cx} {a b c:Expr} {ta tb tc:TE} {pos:Pos}
theorem t_(ha:PE X a ta)(hb:PE X b tb){pins:List (Addr×Obj)}{s:Shared}{σ:St}{H:Hp}{R:V→V→Hp→Prop}(I:Inv X pins σ H s)
  (h:ta σ H fun x H1=>tb σ H1 fun y H2=>R x y H2) {Q:Value→Shared→Prop} {f:Value→Value→Sem Value}
  (hf: ∀v u s2 x y H2,Inv X pins σ H2 s2→RelV x v→RelV y u→R x y H2→wpAny (model X.prog X.w) X.A (f v u) Q X.xe s2):
  wpAny (model X.prog X.w) X.A (eval a X.env) (fun v s₁=>wpAny (model X.prog X.w) X.A (eval b X.env) (fun u s₂=>wpAny (model X.prog X.w) X.A (f v u) Q X.xe s₂) X.xe s₁) X.xe s:=by
 refine aL (ha pins s σ H _ I h) fun v s1 ⟨x,H1,I1,r1,q1⟩=> ?_
 refine aL (hb pins s1 σ H1 _ I1 q1) fun u s2 ⟨y,H2,I2,r2,q2⟩=> ?_
 exact hf v u s2 x y H2 I2 r1 r2 q2
theorem Ip{op:Operator}{r:R2}(ho:aR X (binaryOp op) r)(ha:PE X a ta)(hb:PE X b tb):PE X (.BinOp a op b pos) (di r ta tb):=by
 intro pins s σ H Q I h
 exact wpAny_BinOp (t_ ha hb I h fun v u s2 x y H2 I2 rx ry q=>ho pins s2 σ H2 x y v u Q I2 rx ry q)
theorem Iq{op:UnaryOp}{r:V→Hp→VK→Prop}(ho:qK X (unaryOp op) r)(ha:PE X a ta):PE X (.UnaryOp op a pos) (Bj r ta):=by
 intro pins s σ H Q I h
 exact UnaryOp_ (aL (ha pins s σ H _ I h) fun v s1 ⟨x,H1,I1,r1,q1⟩=>ho pins s1 σ H1 x v Q I1 r1 q1)
theorem qL{f:Value→Value→Sem Value}{C:Int→Int→Prop}{g:Int→Int→Int}
  (rule: ∀(i j:Int) (t u:Tok) (s:Shared) (Q:Value→Shared→Prop) (E:Value→Shared→Prop),C i j→Q (.int (g i j) s.toks) {s with toks:=s.toks+1}→wpAny (model X.prog X.w) X.A (f (.int i t) (.int j u)) Q E s):
  aR X f (rI C fun i j=> .int (g i j)):=by
 intro pins s σ H x y v u Q I rx ry h
 obtain⟨i,j,rfl,rfl,hc,q⟩:=h
 obtain⟨t,rfl⟩:=rx
 obtain⟨t',rfl⟩:=ry
 exact rule i j t t' s _ _ hc ⟨.int (g i j),H,I.tok _,⟨_,rfl⟩,q⟩
theorem Bk{f:Value→Value→Sem Value}{g:Int→Int→Int}
  (rule: ∀(i j:Int) (t u:Tok) (s:Shared) (Q:Value→Shared→Prop) (E:Value→Shared→Prop),Q (.int (g i j) s.toks) {s with toks:=s.toks+1}→wpAny (model X.prog X.w) X.A (f (.int i t) (.int j u)) Q E s):
  aR X f (iA fun i j=> .int (g i j)):=by
 intro pins s σ H x y v u Q I rx ry h
 obtain⟨i,j,rfl,rfl,q⟩:=h
 obtain⟨t,rfl⟩:=rx
 obtain⟨t',rfl⟩:=ry
 exact rule i j t t' s _ _ ⟨.int (g i j),H,I.tok _,⟨_,rfl⟩,q⟩
theorem qM{f:Value→Value→Sem Value}{g:Int→Int→Bool}
  (rule: ∀(i j:Int) (t u:Tok) (s:Shared) (Q:Value→Shared→Prop) (E:Value→Shared→Prop),Q (.bool (g i j)) s→wpAny (model X.prog X.w) X.A (f (.int i t) (.int j u)) Q E s):
  aR X f (iA fun i j=> .bl (g i j)):=by
 intro pins s σ H x y v u Q I rx ry h
 obtain⟨i,j,rfl,rfl,q⟩:=h
 obtain⟨t,rfl⟩:=rx
 obtain⟨t',rfl⟩:=ry
 exact rule i j t t' s _ _ ⟨.bl (g i j),H,I,rfl,q⟩
def Bl(i j:Int):Prop:=0<j∧j<1073741824
def Bm(i j:Int):Prop:=0≤j∧j≤1000000∧i.natAbs<2 ^ 64
def qN(i j:Int):Prop:=(-(2 ^ 64) <i∧i<2 ^ 64)∨(-(2 ^ 64) <j∧j<2 ^ 64)
theorem qN.ok{i j:Int}(h:qN i j):IntMulOk i j:=by
 rcases h with⟨h1,h2⟩ | ⟨h1,h2⟩
 ·exact .of_left (intBits_le_64 h1 h2)
 ·exact .of_right (intBits_le_64 h1 h2)
theorem Ir:aR X (binaryOp .Add) (iA fun i j=> .int (i+j)):=Bk fun _ _ _ _ _ _ _ q=>add_int q
theorem Iu:aR X (binaryOp .Sub) (iA fun i j=> .int (i - j)):=Bk fun _ _ _ _ _ _ _ q=>sub_int q
theorem Iv:aR X (binaryOp .Mult) (rI qN fun i j=> .int (i*j)):=qL fun _ _ _ _ _ _ _ hc q=>mul_int q hc.ok
theorem Iw:aR X (binaryOp .FloorDiv) (rI Bl fun i j=> .int (i / j)):=qL fun i j _ _ _ _ _ hc q=>by
 have h1:(0:Int) <j:=hc.1
 have h2:j<1073741824:=hc.2
 exact floordiv_int (by omega) (by rw[Int.fdiv_eq_ediv_of_nonneg i (by omega)];exact q) (.inl (PyProof.noPylong_small (by omega)))
theorem Iy:aR X (binaryOp .Mod) (rI (fun _ j=>0<j) fun i j=> .int (i % j)):=qL fun i j _ _ _ _ _ hc q=>by
 have h1:(0:Int) <j:=hc
 exact mod_int' (by omega) (by rw[Int.fmod_eq_emod_of_nonneg i (by omega)];exact q)
theorem Iz:aR X (binaryOp .Pow) (rI Bm fun i j=> .int (i ^ j.toNat)):=qL fun _ _ _ _ _ _ _ hc q=>pow_int_small hc.1 hc.2.1 hc.2.2 q
theorem IA{f:Value→Sem Value}{g:Int→Int}
  (rule: ∀(i:Int) (t:Tok) (s:Shared) (Q:Value→Shared→Prop) (E:Value→Shared→Prop),Q (.int (g i) s.toks) {s with toks:=s.toks+1}→wpAny (model X.prog X.w) X.A (f (.int i t)) Q E s):
  qK X f (rU fun i=> .int (g i)):=by
 intro pins s σ H x v Q I rx h
 obtain⟨i,rfl,q⟩:=h
 obtain⟨t,rfl⟩:=rx
 exact rule i t s _ _ ⟨.int (g i),H,I.tok _,⟨_,rfl⟩,q⟩
theorem IB:qK X (unaryOp .USub) (rU fun i=> .int (-i)):=IA fun _ _ _ _ _ q=>neg_int q
end
def jY:V→V→Bool
 | .ai, .ai=>true | .ai, .int _=>true | .int _, .ai=>true | .ai, .bl _=>true | .bl _, .ai=>true | .ai, .str _=>true | .str _, .ai=>true
 | .int _, .int _=>true | .bl _, .bl _=>true | .str _, .str _=>true | .dJ _, .dJ _=>true
 | .int _, .str _=>true | .str _, .int _=>true | .bl _, .str _=>true | .str _, .bl _=>true
 | _,_=>false
def IC:R2:=fun x y H Q=>jY x y=true∧Q (.bl (decide (x=y))) H
def ID:R2:=fun x y H Q=>jY x y=true∧Q (.bl (!decide (x=y))) H
theorem Bn{i j:Int}:decide (V.int i=V.int j)=(i==j):=by
 rw[Bool.eq_iff_iff]
 simp
theorem Bo{i j:Bool}:decide (V.bl i=V.bl j)=(i==j):=by
 rw[Bool.eq_iff_iff]
 simp
theorem qO{i j:Str}:decide (V.str i=V.str j)=(i==j):=by
 rw[Bool.eq_iff_iff]
 simp
theorem Bp{i j:Array UInt8}:decide (V.dJ i=V.dJ j)=(i.toList==j.toList):=by
 rw[Bool.eq_iff_iff]
 cases i
 cases j
 simp
section
variable {X:Cx} {a b c:Expr} {ta tb tc:TE} {pos:Pos}
theorem bE{pins:List (Addr×Obj)}{σ:St}{H:Hp}{s:Shared}{Q:VK}{k k':Bool}(I:Inv X pins σ H s)(q:Q (.bl k) H)(e:k=k'):EP X pins σ Q (.bool k') s:=by
 subst e
 exact⟨.bl k,H,I,rfl,q⟩
theorem IE:aR X (compareOp .Eq) IC:=by
 intro pins s σ H x y v u Q I rx ry h
 obtain⟨hs,q⟩:=h
 cases x with
 | ai=>
  cases rx
  cases y with
  | ai=>cases ry;exact PySem.EqNone.eq_none_none (bE I q (by simp))
  | bl j=>cases ry;exact PySem.EqNone.eq_none_bool (bE I q (by simp))
  | int j=>obtain⟨t',rfl⟩:=ry;exact PySem.EqNone.eq_none_int (bE I q (by simp))
  | str j=>obtain⟨t',rfl⟩:=ry;exact PySem.EqNone.eq_none_str (bE I q (by simp))
  | _=>exact absurd (show false=true from hs) Bool.false_ne_true
 | bl i=>
  cases rx
  cases y with
  | ai=>cases ry;exact PySem.EqNone.eq_bool_none (bE I q (by simp))
  | bl j=>cases ry;exact eq_bool (bE I q Bo)
  | str j=>obtain⟨t',rfl⟩:=ry;exact PySem.EqMixed.eq_bool_str (bE I q (by simp))
  | _=>exact absurd (show false=true from hs) Bool.false_ne_true
 | int i=>
  obtain⟨t,rfl⟩:=rx
  cases y with
  | ai=>cases ry;exact PySem.EqNone.eq_int_none (bE I q (by simp))
  | int j=>obtain⟨t',rfl⟩:=ry;exact eq_int (bE I q Bn)
  | str j=>obtain⟨t',rfl⟩:=ry;exact PySem.EqMixed.eq_int_str (bE I q (by simp))
  | _=>exact absurd (show false=true from hs) Bool.false_ne_true
 | str i=>
  obtain⟨t,rfl⟩:=rx
  cases y with
  | ai=>cases ry;exact PySem.EqNone.eq_str_none (bE I q (by simp))
  | bl j=>cases ry;exact PySem.EqMixed.eq_str_bool (bE I q (by simp))
  | int j=>obtain⟨t',rfl⟩:=ry;exact PySem.EqMixed.eq_str_int (bE I q (by simp))
  | str j=>obtain⟨t',rfl⟩:=ry;exact eq_str (bE I q qO)
  | _=>exact absurd (show false=true from hs) Bool.false_ne_true
 | dJ i=>
  obtain⟨t,rfl⟩:=rx
  cases y with
  | dJ j=>obtain⟨t',rfl⟩:=ry;exact PySem.W.eq_bytes (bE I q Bp)
  | _=>exact absurd (show false=true from hs) Bool.false_ne_true
 | _=>cases y<;>exact absurd (show false=true from hs) Bool.false_ne_true
theorem IF:aR X (compareOp .NotEq) ID:=by
 intro pins s σ H x y v u Q I rx ry h
 obtain⟨hs,q⟩:=h
 cases x with
 | ai=>
  cases rx
  cases y with
  | ai=>cases ry;exact PySem.EqNone.ne_none_none (bE I q (by simp))
  | bl j=>cases ry;exact PySem.EqNone.ne_none_bool (bE I q (by simp))
  | int j=>obtain⟨t',rfl⟩:=ry;exact PySem.EqNone.ne_none_int (bE I q (by simp))
  | str j=>obtain⟨t',rfl⟩:=ry;exact PySem.EqNone.ne_none_str (bE I q (by simp))
  | _=>exact absurd (show false=true from hs) Bool.false_ne_true
 | bl i=>
  cases rx
  cases y with
  | ai=>cases ry;exact PySem.EqNone.ne_bool_none (bE I q (by simp))
  | bl j=>cases ry;exact ne_bool (bE I q (congrArg not Bo))
  | str j=>obtain⟨t',rfl⟩:=ry;exact PySem.EqMixed.ne_bool_str (bE I q (by simp))
  | _=>exact absurd (show false=true from hs) Bool.false_ne_true
 | int i=>
  obtain⟨t,rfl⟩:=rx
  cases y with
  | ai=>cases ry;exact PySem.EqNone.ne_int_none (bE I q (by simp))
  | int j=>obtain⟨t',rfl⟩:=ry;exact ne_int (bE I q (congrArg not Bn))
  | str j=>obtain⟨t',rfl⟩:=ry;exact PySem.EqMixed.ne_int_str (bE I q (by simp))
  | _=>exact absurd (show false=true from hs) Bool.false_ne_true
 | str i=>
  obtain⟨t,rfl⟩:=rx
  cases y with
  | ai=>cases ry;exact PySem.EqNone.ne_str_none (bE I q (by simp))
  | bl j=>cases ry;exact PySem.EqMixed.ne_str_bool (bE I q (by simp))
  | int j=>obtain⟨t',rfl⟩:=ry;exact PySem.EqMixed.ne_str_int (bE I q (by simp))
  | str j=>obtain⟨t',rfl⟩:=ry;exact ne_str (bE I q (congrArg not qO))
  | _=>exact absurd (show false=true from hs) Bool.false_ne_true
 | dJ i=>
  obtain⟨t,rfl⟩:=rx
  cases y with
  | dJ j=>obtain⟨t',rfl⟩:=ry;exact PySem.W.ne_bytes (bE I q (congrArg not Bp))
  | _=>exact absurd (show false=true from hs) Bool.false_ne_true
 | _=>cases y<;>exact absurd (show false=true from hs) Bool.false_ne_true
theorem IG:aR X (compareOp .Lt) (iA fun i j=> .bl (decide (i<j))):=qM fun _ _ _ _ _ _ _ q=>lt_int q
theorem IH:aR X (compareOp .LtE) (iA fun i j=> .bl (decide (i≤j))):=qM fun _ _ _ _ _ _ _ q=>le_int q
theorem II:aR X (compareOp .Gt) (iA fun i j=> .bl (decide (j<i))):=qM fun _ _ _ _ _ _ _ q=>gt_int q
theorem IJ:aR X (compareOp .GtE) (iA fun i j=> .bl (decide (j≤i))):=qM fun _ _ _ _ _ _ _ q=>ge_int q
theorem IL:aR X (compareOp .In) (fun x y H Q=> ∃i j,x= .str i∧y= .str j∧Q (.bl (!(Builtin.Str.occurrences j i 0 j.length 1).isEmpty)) H):=by
 intro pins s σ H x y v u Q I rx ry h
 obtain⟨i,j,rfl,rfl,q⟩:=h
 obtain⟨t,rfl⟩:=rx
 obtain⟨t',rfl⟩:=ry
 exact in_str (bE I q rfl)
theorem IM:aR X (compareOp .Is) (fun x y H Q=>y= .ai∧Q (.bl (decide (x= .ai))) H):=by
 intro pins s σ H x y v u Q I rx ry h
 obtain⟨rfl,q⟩:=h
 cases ry
 refine is_none_gen (bE I q ?_)
 cases x<;>first
  | (cases rx;rfl)
  | (obtain⟨t,rfl⟩:=rx;rfl)
theorem IP:aR X (compareOp .IsNot) (fun x y H Q=>y= .ai∧Q (.bl (!decide (x= .ai))) H):=by
 intro pins s σ H x y v u Q I rx ry h
 obtain⟨rfl,q⟩:=h
 cases ry
 refine isnot_none_gen (bE I q ?_)
 cases x<;>first
  | (cases rx;rfl)
  | (obtain⟨t,rfl⟩:=rx;rfl)
theorem IQ:aR X (compareOp .NotIn) (fun x y H Q=> ∃i j,x= .str i∧y= .str j∧Q (.bl (!(!(Builtin.Str.occurrences j i 0 j.length 1).isEmpty))) H):=by
 intro pins s σ H x y v u Q I rx ry h
 obtain⟨i,j,rfl,rfl,q⟩:=h
 obtain⟨t,rfl⟩:=rx
 obtain⟨t',rfl⟩:=ry
 exact notIn_str (bE I q rfl)
theorem aR.or{f:Value→Value→Sem Value}{r r':R2}(h:aR X f r)(h':aR X f r'):aR X f (fun x y H Q=>r x y H Q∨r' x y H Q):=by
 intro pins s σ H x y v u Q I rx ry q
 rcases q with q | q
 ·exact h pins s σ H x y v u Q I rx ry q
 ·exact h' pins s σ H x y v u Q I rx ry q
theorem IS{op:CmpOp}{r:R2}(ho:aR X (compareOp op) r)(ha:PE X a ta)(hb:PE X b tb)(hm:behindInMarks op b=false):PE X (.Compare a [op] [b] pos) (di r ta tb):=by
 intro pins s σ H Q I h
 exact wpAny_Compare1 (t_ ha hb I h fun v u s2 x y H2 I2 rx ry q=>ho pins s2 σ H2 x y v u Q I2 rx ry q) hm
def jb(t:TE):TT:=fun σ H Q=>t σ H fun x H'=> ∃k,x= .bl k∧Q k H'
theorem IT{op:CmpOp}{r:R2}(ho:aR X (compareOp op) r)(ha:PE X a ta)(hb:PE X b tb)(hm:behindInMarks op b=false):PT X (.Compare a [op] [b] pos) (jb (di r ta tb)):=by
 intro pins s σ H Q I h
 refine wpAny_isTrue_Compare1 (aL (ha pins s σ H _ I h) fun v s1 ⟨x,H1,I1,r1,q1⟩=>aL (hb pins s1 σ H1 _ I1 q1) fun u s2 ⟨y,H2,I2,r2,q2⟩=>
  aL (ho pins s2 σ H2 x y v u _ I2 r1 r2 q2) fun c s3 ⟨z,H3,I3,r3,k,e,q3⟩=> ?_) hm
 subst e
 cases r3
 exact wpAny_truthy_bool ⟨H3,I3,q3⟩
def mF(r r':R2)(ta tb tc:TE):TE:=fun σ H Q=>ta σ H fun x H1=>tb σ H1 fun y H2=>r x y H2 fun z H3=> ∃k,z= .bl k∧
 (if k=true then tc σ H3 fun w' H4=>r' y w' H4 Q else Q (.bl false) H3)
theorem IU{op bM:CmpOp}{r r':R2}(ho:aR X (compareOp op) r)(cR:aR X (compareOp bM) r')(ha:PE X a ta)(hb:PE X b tb)(hc:PE X c tc)
  (hm:lastMarks [op,bM] [b,c]=false:=by with_unfolding_all rfl):PE X (.Compare a [op,bM] [b,c] pos) (mF r r' ta tb tc):=by
 intro pins s σ H Q I h
 refine Compare_chain (aL (ha pins s σ H _ I h) fun v s1 ⟨x,H1,I1,r1,q1⟩=>chain_link (aL (hb pins s1 σ H1 _ I1 q1) fun u s2 ⟨y,H2,I2,r2,q2⟩=>
  aL (ho pins s2 σ H2 x y v u _ I2 r1 r2 q2) fun d s3 ⟨z,H3,I3,r3,k,e,q3⟩=> ?_)) hm
 subst e
 cases r3
 refine wpAny_truthy_bool ?_
 cases k with
 | false=>exact ite_ff ⟨.bl false,H3,I3,rfl,q3⟩
 | true=>exact ite_tt (chain_last (aL (hc pins s3 σ H3 _ I3 q3) fun w' s4 ⟨z',H4,I4,r4,q4⟩=>cR pins s4 σ H4 y z' u w' Q I4 r2 r4 q4))
theorem IV{op bM:CmpOp}{r r':R2}(ho:aR X (compareOp op) r)(cR:aR X (compareOp bM) r')(ha:PE X a ta)(hb:PE X b tb)(hc:PE X c tc)
  (hm:lastMarks [op,bM] [b,c]=false:=by with_unfolding_all rfl):PT X (.Compare a [op,bM] [b,c] pos) (jb (mF r r' ta tb tc)):=by
 intro pins s σ H Q I h
 refine isTrue_chain (aL (ha pins s σ H _ I h) fun v s1 ⟨x,H1,I1,r1,q1⟩=>test_link (aL (hb pins s1 σ H1 _ I1 q1) fun u s2 ⟨y,H2,I2,r2,q2⟩=>
  aL (ho pins s2 σ H2 x y v u _ I2 r1 r2 q2) fun d s3 ⟨z,H3,I3,r3,k,e,q3⟩=> ?_)) hm
 subst e
 cases r3
 refine wpAny_truthy_bool ?_
 cases k with
 | false=>
  obtain⟨k',e',q'⟩:=q3
  cases e'
  exact ite_ff ⟨H3,I3,q'⟩
 | true=>
  refine ite_tt (test_last (aL (hc pins s3 σ H3 _ I3 q3) fun w' s4 ⟨z',H4,I4,r4,q4⟩=>aL (cR pins s4 σ H4 y z' u w' _ I4 r2 r4 q4) fun d' s5 ⟨z2,H5,I5,r5,k2,e2,q5⟩=> ?_))
  subst e2
  cases r5
  exact wpAny_truthy_bool ⟨H5,I5,q5⟩
def Bq(K:Frag)(x:V)(H:Hp)(k:Bool):Prop:=
 match x with
 | .ai=>k=false
 | .bl b=>k=b
 | .int i=>k=(i !=0)
 | .str y=>y.length≤sizeLine∧k=((y.length:Int) !=0)
 | .dJ y=>y.size≤sizeLine∧k=((y.size:Int) !=0)
 | .ref p=> (∃xs,ao K H p xs∧k= !xs.isEmpty)∨(∃xs,aU K H p xs∧k= !xs.isEmpty)∨ ∃aH,H p=some (.dK aH)∧k= !aH.isEmpty
 | _=>False
theorem IW{κ:Type}{aH:List (κ×V)}{vs:List (κ×Value)}(r:KV aH vs):(!vs.isEmpty)= !aH.isEmpty:=by
 cases r<;>rfl
theorem Br{xs:List V}{its:List Value}(r:Vals xs its):(!its.toArray.isEmpty)= !xs.isEmpty:=by
 cases r<;>simp
theorem jc:(sizeLine:Nat) <2 ^ 63:=by rw[sizeLine_eq];decide
theorem Bs:Io X (fun x H Q=> ∃k,Bq X.K x H k∧Q k H):=by
 intro pins s σ H x v Q I rx h
 obtain⟨k,e,q⟩:=h
 have hl:=jc
 have hs:sizeLine=16777216:=sizeLine_eq
 cases x with
 | ai=>
  cases rx
  have e':k=false:=e
  subst e'
  exact truthy_none ⟨H,I,q⟩
 | bl b=>
  cases rx
  have e':k=b:=e
  subst e'
  exact wpAny_truthy_bool ⟨H,I,q⟩
 | int i=>
  obtain⟨t,rfl⟩:=rx
  have e':k=(i !=0):=e
  subst e'
  exact PySem.P.truthy_int ⟨H,I,q⟩
 | str y=>
  obtain⟨t,rfl⟩:=rx
  obtain⟨hy,e'⟩:y.length≤sizeLine∧k=((y.length:Int) !=0):=e
  subst e'
  exact PySem.P.truthy_str (by omega) ⟨H,I.tok _,q⟩
 | dJ y=>
  obtain⟨t,rfl⟩:=rx
  obtain⟨hy,e'⟩:y.size≤sizeLine∧k=((y.size:Int) !=0):=e
  subst e'
  exact PySem.W.truthy_bytes (by omega) ⟨H,I.tok _,q⟩
 | ref p=>
  cases rx
  have e':(∃xs,ao X.K H p xs∧k= !xs.isEmpty)∨(∃xs,aU X.K H p xs∧k= !xs.isEmpty)∨ ∃aH,H p=some (.dK aH)∧k= !aH.isEmpty:=e
  rcases e' with⟨xs,hx,e'⟩ | ⟨xs,hx,e'⟩ | ⟨aH,hx,e'⟩
  ·subst e'
   obtain⟨its,r,pl,hz⟩:=I.list hx
   have hlen:=r.length
   exact wpAny_truthy_list pl.isList (by simp only[List.size_toArray];omega) ⟨H,I.tok _,by rw[Br r];exact q⟩
  ·subst e'
   obtain⟨its,r,pl,hz⟩:=I.tuple hx
   have hlen:=r.length
   exact truthy_tuple pl (by simp only[List.size_toArray];omega) ⟨H,I.tok _,by rw[Br r];exact q⟩
  ·subst e'
   obtain⟨hz,hS,vs,r,m⟩:aH.length≤sizeLine∧(p==sysModules)=false∧ ∃vs,KV aH vs∧s.heap.DictOf (gR X.prog X.w) p vs:=I.aF p _ hx
   have hlen:aH.length=vs.length:=Paired.length r
   exact wpAny_truthy_dict hS m (by omega) ⟨H,I.tok _,by rw[IW r];exact q⟩
 | _=>exact(show False from e).elim
theorem IX:aR X (binaryOp .Add) (fun x y H Q=> ∃i j,x= .str i∧y= .str j∧i.length+j.length≤sizeLine∧Q (.str (i++j)) H):=by
 intro pins s σ H x y v u Q I rx ry h
 obtain⟨i,j,rfl,rfl,hz,q⟩:=h
 obtain⟨t,rfl⟩:=rx
 obtain⟨t',rfl⟩:=ry
 exact add_str (fun t' tk=> ⟨.str (i++j),H,I.tok _,⟨_,rfl⟩,q⟩) hz
theorem vals1{x:V}{us:List Value}(r:Vals [x] us): ∃u,us=[u]∧RelV x u:=by
 cases r with
 | cons r1 r2=>cases r2;exact⟨_,rfl,r1⟩
theorem vals2{x y:V}{us:List Value}(r:Vals [x,y] us): ∃u w',us=[u,w']∧RelV x u∧RelV y w':=by
 cases r with
 | cons r1 r2=>
  cases r2 with
  | cons r3 r4=>cases r4;exact⟨_,_,rfl,r1,r3⟩
theorem IY:bA X (.builtin "abs") (fun xs H Q=> ∃i,xs=[.int i]∧Q (.int (if i<0 then -i else i)) H):=by
 intro pins s σ H xs us Q I r h
 obtain⟨i,rfl,q⟩:=h
 obtain⟨u,rfl,t,rfl⟩:=vals1 r
 exact call_abs_int fun u tk=> ⟨.int (if i<0 then -i else i),H,I.tok _,⟨_,rfl⟩,q⟩
theorem IZ(hc:X.calm=true):bA X (.builtin "max") (fun xs H Q=> ∃i j,xs=[.int i, .int j]∧Q (.int (if j>i then j else i)) H):=by
 intro pins s σ H xs us Q I r h
 obtain⟨i,j,rfl,q⟩:=h
 obtain⟨u,w',rfl,⟨t,rfl⟩,⟨t',rfl⟩⟩:=vals2 r
 refine max_two_ints (I.ok.hd hc) fun h' tk k=> ⟨_,H,I.kept k, ?_,q⟩
 by_cases hj:j>i
 ·rw[if_pos hj,if_pos hj];exact⟨_,rfl⟩
 ·rw[if_neg hj,if_neg hj];exact⟨_,rfl⟩
theorem I_(hc:X.calm=true):bA X (.builtin "min") (fun xs H Q=> ∃i j,xs=[.int i, .int j]∧Q (.int (if j<i then j else i)) H):=by
 intro pins s σ H xs us Q I r h
 obtain⟨i,j,rfl,q⟩:=h
 obtain⟨u,w',rfl,⟨t,rfl⟩,⟨t',rfl⟩⟩:=vals2 r
 refine min_two_ints (I.ok.hd hc) fun h' tk k=> ⟨_,H,I.kept k, ?_,q⟩
 by_cases hj:j<i
 ·rw[if_pos hj,if_pos hj];exact⟨_,rfl⟩
 ·rw[if_neg hj,if_neg hj];exact⟨_,rfl⟩
theorem Ja:bA X (.type "int") (fun xs H Q=> (∃i,xs=[.int i]∧Q (.int i) H)∨ ∃k,xs=[.bl k]∧Q (.int (if k then 1 else 0)) H):=by
 intro pins s σ H xs us Q I r h
 rcases h with⟨i,rfl,q⟩ | ⟨k,rfl,q⟩
 ·obtain⟨u,rfl,t,rfl⟩:=vals1 r
  exact call_int_int ⟨.int i,H,I,⟨_,rfl⟩,q⟩
 ·obtain⟨u,rfl,r1⟩:=vals1 r
  cases r1
  exact call_int_bool ⟨.int (if k then 1 else 0),H,I.tok _,⟨_,rfl⟩,q⟩
def Bt(K:Frag)(x:V)(H:Hp)(n:Nat):Prop:=
 match x with
 | .str y=>y.length≤sizeLine∧n=y.length
 | .dJ y=>y.size≤sizeLine∧n=y.size
 | .ref p=> (∃xs,ao K H p xs∧n=xs.length)∨ ∃xs,aU K H p xs∧n=xs.length
 | _=>False
theorem Jb:bA X (.builtin "len") (fun xs H Q=> ∃x n,xs=[x]∧Bt X.K x H n∧Q (.int n) H):=by
 intro pins s σ H xs us Q I r h
 obtain⟨x,n,rfl,e,q⟩:=h
 obtain⟨u,rfl,rx⟩:=vals1 r
 have hl:=jc
 have hs:sizeLine=16777216:=sizeLine_eq
 cases x with
 | str y=>
  obtain⟨t,rfl⟩:=rx
  obtain⟨hy,e'⟩:y.length≤sizeLine∧n=y.length:=e
  subst e'
  exact len_str (by omega) ⟨.int _,H,I.tok _,⟨_,rfl⟩,q⟩
 | dJ y=>
  obtain⟨t,rfl⟩:=rx
  obtain⟨hy,e'⟩:y.size≤sizeLine∧n=y.size:=e
  subst e'
  exact PySem.W.len_bytes (by omega) ⟨.int _,H,I.tok _,⟨_,rfl⟩,q⟩
 | ref p=>
  cases rx
  have e':(∃xs,ao X.K H p xs∧n=xs.length)∨ ∃xs,aU X.K H p xs∧n=xs.length:=e
  rcases e' with⟨xs,hx,e'⟩ | ⟨xs,hx,e'⟩
  ·subst e'
   obtain⟨its,r',pl,hz⟩:=I.list hx
   have hlen:=r'.length
   exact Calls.call_len_list pl.isList (by simp only[List.size_toArray];omega) ⟨.int xs.length,H,I.tok _,⟨_,by simp only[List.size_toArray];rw[hlen]⟩,q⟩
  ·subst e'
   obtain⟨its,r',pl,hz⟩:=I.tuple hx
   have hlen:=r'.length
   exact len_tuple pl (by simp only[List.size_toArray];omega) ⟨.int xs.length,H,I.tok _,⟨_,by simp only[List.size_toArray];rw[hlen]⟩,q⟩
 | _=>exact(show False from e).elim
end
structure ua (h:Heap) (x dx C:Addr) (mA:Str→Option Value):Prop where
 obj:h.get? x=some (instObj C dx)
 ns:h.Ns1 dx mA
 ne:dx≠x
theorem Jc{h:Heap}{dx:Addr}{mA:Str→Option Value}(n:h.Ns1 dx mA): ∃od,h.get? dx=some od∧ ∀name,lookIn name od=some (mA name):=by
 obtain⟨o,es,ep,ho,hd,hk,_,hm⟩:=n
 refine⟨o,ho,fun name=> ?_⟩
 have e:=hm name
 unfold nsFind findBy at e
 rw[←Array.find?_toList] at e
 unfold lookIn
 rw[hd]
 dsimp only
 split
 ·rename_i y q
  rw[q] at e
  exact congrArg some e
 ·rename_i q
  rw[q] at e
  have a:es.toList.any (·.refKey)=false:=by
   rw[List.any_eq_false]
   intro y hy
   obtain⟨z,t,Jd⟩:=hk y (Array.mem_toList_iff.mp hy)
   simp[DictEntry.refKey,Jd]
  have a': ¬es.toList.any (·.refKey)=true:=by rw[a];exact Bool.false_ne_true
  rw[if_neg a']
  exact congrArg some e
theorem ua.look{h:Heap}{x dx C:Addr}{mA:Str→Option Value}(I:ua h x dx C mA): ∃od,InstAt h x (instObj C dx) C (some od)∧ ∀name,lookIn name od=some (mA name):=
 let ⟨od,ho,hl⟩:=Jc I.ns
 ⟨od,⟨I.obj,rfl,rfl,ho⟩,hl⟩
section
variable {prog:Program} {w:World} {A:Around} {E:Value→Shared→Prop} {s:Shared} {K:Frag} {x dx C f:Addr} {mA:Str→Option Value} {name:Str} {v:Value}
end
def Bu(f:Str)(v:V):List (Str×V)→List (Str×V)
 | []=> [(f,v)]
 | (g,x)::r=>if g=f then (g,v)::r else (g,x)::Bu f v r
section
variable {P:Program} {w:World} {H H':Hp} {h h':Heap} {a C dx:Addr} {fs Hy:List (Str×V)}
theorem Je(aF:bG P w H h)(e:H a=some (.ins C dx fs)): ∃mA,ua h a dx C mA∧(∀f,tN (fs.lookup f) (mA f))∧PySem.Within mA (fs.map (·.1))∧fs.length≤1000∧H dx=some (.own a):=by
 obtain⟨d,z,ne,ob,mA,n,r,q⟩:=(show bV P w H h a (.ins C dx fs) from aF a _ e)
 exact⟨mA,⟨ob,n,ne⟩,r,q,z,d⟩
end
structure jZ (K:Frag) (C:Addr):Prop where
 pg:plainGet K C Str.empty=true
 hd:PySem.W.hasDictIn K C=true
 po:PySem.W.plainOver K C=true
 sa:PySem.W.findIn K (.ref C) "__setattr__"=some (some (.builtin "object.__setattr__"))
theorem jZ.get{K:Frag}{C:Addr}(c:jZ K C)(f:Str):plainGet K C f=true:=c.pg
def Bv(K:Frag)(C:Addr)(f:Str):Prop:=PySem.W.findIn K (.ref C) f=some none
structure Meth (K:Frag) (C:Addr) (m:Str) (f:Addr):Prop where
 at_:PySem.W.findIn K (.ref C) m=some (some (.ref f))
 fn:isFn K (.ref f)=true
 kp:keepIn K (.ref f)=true
section
variable {X:Cx} {pins:List (Addr×Obj)} {σ:St} {H:Hp} {s:Shared} {a C dx:Addr} {fs:List (Str×V)} {f:Str} {v:V} {A:Around} {E:Value→Shared→Prop}
end
def Bw(K:Frag)(ta:TE)(f:Str):TE:=fun σ H Q=>ta σ H fun x H1=> ∃a C dx fs v,x= .ref a∧H1 a=some (.ins C dx fs)∧jZ K C∧Bv K C f∧fs.lookup f=some v∧Q v H1
def Jf(K:Frag)(ta tv:TE)(f:Str):TS:=fun D σ H=>tv σ H fun y H1=>ta σ H1 fun x H2=> ∃a C dx fs,x= .ref a∧H2 a=some (.ins C dx fs)∧jZ K C∧Bv K C f∧fs.length<1000∧
 D.nx σ (upd H2 a (.ins C dx (Bu f y fs)))
section
variable {X:Cx} {o e value:Expr} {f:Str} {pos pos' nQ:Pos} {ta tv:TE}
end
section
variable {X:Cx} {pins:List (Addr×Obj)} {σ:St} {H:Hp} {s:Shared} {A:Around} {E:Value→Shared→Prop} {Q:Value→Shared→Prop} {c:Value} {b:Bool}
inductive fM (K:Frag) (H:Hp):V→Value→Prop where
 | ai:fM K H .ai (.type "NoneType")
 | bl (x:Bool):fM K H (.bl x) (.type "bool")
 | int (i:Int):fM K H (.int i) (.type "int")
 | str (x:Str):fM K H (.str x) (.type "str")
 | jQ (x:UInt64):fM K H (.jQ x) (.type "float")
 | lst {a:Addr} {xs:List V} (e:H a=some (.lst xs)):fM K H (.ref a) (.type "list")
 | bc {a:Addr} {o:Obj} {xs:List V} (e:H a=some (.bc o (.lst xs))):fM K H (.ref a) (.type "list")
 | tup {a:Addr} {xs:List V} (e:H a=some (.tup xs)):fM K H (.ref a) (.type "tuple")
 | dK {a:Addr} {aH:List (Key×V)} (e:H a=some (.dK aH)):fM K H (.ref a) (.type "dict")
 | dT {a:Addr} {aH:List (List Key×V)} (e:H a=some (.dT aH)):fM K H (.ref a) (.type "dict")
 | ins {a C dx:Addr} {fs:List (Str×V)} (e:H a=some (.ins C dx fs)) (cl:jZ K C) (ha:PySem.W.findIn K (.ref C) "__class__"=some (some (.builtin "object.__class__")))
   (hn:PySem.W.specialIn K (.builtin "object.__class__") "__get__"=some (some (.builtin "getset_descriptor.__get__"))) (jd:PySem.W.takesIn K (.builtin "object.__class__")=some true)
   (hm:PySem.W.mroIn K C (.type "object")=some true):fM K H (.ref a) (.ref C)
theorem iB{x:V}{u t:Value}(I:Inv X pins σ H s)(rx:RelV x u)(ty:fM X.K H x t)(e:kitOne X.K t c=some b)(h: ∀tk,Q (.bool b) {s with toks:=tk}):
  wpAny (model X.prog X.w) A (call (.builtin "isinstance") [u,c]) Q E s:=by
 cases ty with
 | ai=>cases (show u=Value.none from rx);exact kia_one PySem.W.kitx_none I.cQ True.intro e (fun z=>nomatch z) h
 | bl y=>cases (show u=Value.bool y from rx);exact kia_one PySem.W.kitx_bool I.cQ True.intro e (fun z=>nomatch z) h
 | int i=>obtain⟨t,q⟩:=(show ∃t,u=Value.int i t from rx);cases q;exact kia_one PySem.W.kitx_int I.cQ True.intro e (fun z=>nomatch z) h
 | str y=>obtain⟨t,q⟩:=(show ∃t,u=Value.str y t from rx);cases q;exact kia_one PySem.W.kitx_str I.cQ True.intro e (fun z=>nomatch z) h
 | jQ y=>obtain⟨t,q⟩:=(show ∃t,u=Value.float y t from rx);cases q;exact kia_one PySem.W.kitx_float I.cQ True.intro e (fun z=>nomatch z) h
 | @lst a xs ea=>
  cases (show u=Value.ref a from rx)
  obtain⟨_,_,n,_,h1⟩:=(show bV X.prog X.w H s.heap a (.lst xs) from I.aF a _ ea)
  exact kia_one kitx_list I.cQ ⟨_,h1,rfl⟩ e (fun z=>nomatch z) h
 | @bc a ob xs ea=>
  cases (show u=Value.ref a from rx)
  obtain⟨_,_,_,n,_,h1⟩:=(show bV X.prog X.w H s.heap a (.bc ob (.lst xs)) from I.aF a _ ea)
  exact kia_one kitx_list I.cQ ⟨_,h1,rfl⟩ e (fun z=>nomatch z) h
 | @tup a xs ea=>
  cases (show u=Value.ref a from rx)
  obtain⟨_,_,_,p⟩:=(show bV X.prog X.w H s.heap a (.tup xs) from I.aF a _ ea)
  obtain⟨o,h1,h2,_⟩:=p
  exact kia_one PySem.W.kitx_tuple I.cQ ⟨o,h1,h2⟩ e (fun z=>nomatch z) h
 | @dK a aH ea=>
  cases (show u=Value.ref a from rx)
  obtain⟨_,_,vs,_,p⟩:=(show bV X.prog X.w H s.heap a (.dK aH) from I.aF a _ ea)
  obtain⟨o,es,ep,h1,h2,_⟩:=p
  exact kia_one kitx_dict I.cQ ⟨o,h1,h2.1⟩ e (fun z=>nomatch z) h
 | @dT a aH ea=>
  cases (show u=Value.ref a from rx)
  obtain⟨_,_,xs,_,o,es,ep,h1,h2,_⟩:=(show bV X.prog X.w H s.heap a (.dT aH) from I.aF a _ ea)
  exact kia_one kitx_dict I.cQ ⟨o,h1,h2.1⟩ e (fun z=>nomatch z) h
 | @ins a C dx fs ea cl ha hn jd hm=>
  cases (show u=Value.ref a from rx)
  obtain⟨mA,O,_⟩:=Je I.aF ea
  obtain⟨od,J,_⟩:=O.look
  exact kia_one (PySem.W.kitx_own (cl.get _) cl.hd ha hn jd hm) I.cQ J e (fun z=>nomatch z) h
end
structure cX (k:Nat) (A:Around):Prop where
 hd:A.handled=none
 dp:A.depth+3*k+5<recursionLimit
 un:A.units+16*k+200<cLine
theorem cX.mono{j k:Nat}{A:Around}(r:cX k A)(h:j≤k):cX j A:=⟨r.hd,by have:=r.dp;omega,by have:=r.un;omega⟩
theorem cX.deeper{k:Nat}{A:Around}(r:cX (k+1) A)(env:Env):cX k (A.deeper env):=
 ⟨r.hd,by have:=r.dp;show A.depth+1+3*k+5<_;omega,by have:=r.un;show A.units+3+16*k+200<_;omega⟩
theorem cX.depth{k:Nat}{A:Around}(r:cX k A):A.depth<recursionLimit:=by have:=r.dp;omega
theorem cX.units{k:Nat}{A:Around}(r:cX k A):A.units+64<cLine:=by have:=r.un;omega
def eO:TA:=fun _ H Q=>Q [] H
def cj(ta:TE)(tr:TA):TA:=fun σ H Q=>ta σ H fun x H1=>tr σ H1 fun xs H2=>Q (x::xs) H2
section
variable {X:Cx} {e:Expr} {es:List Expr} {te:TE} {t:TA} {pos:Pos}
theorem j0:PA X [] eO:=fun _ _ _ _ H Q I h=>Calls.spliced_nil ⟨[],H,I, .nil,h⟩
theorem g4(ha:PE X e te)(hr:PA X es t)(hs:starEach (e::es) X.env=(false,eval e X.env)::starEach es X.env:=by rfl):PA X (e::es) (cj te t):=by
 intro pos pins s σ H Q I h
 rw[hs]
 show wpAny _ _ (spliced ((false,eval e X.env)::backTo pos (starEach es X.env))) _ _ s
 refine Calls.spliced_cons (aL (ha pins s σ H _ I h) fun u s1 ⟨x,H1,I1,r1,q1⟩=> ?_)
 exact aL (hr pos pins s1 σ H1 _ I1 q1) fun us s2 ⟨xs,H2,I2,r2,q2⟩=> ⟨x::xs,H2,I2, .cons r1 r2,q2⟩
def Bx(t:TA):TE:=fun σ H Q=>t σ H fun xs H1=>xs.length≤sizeLine∧ ∀p,H1 p=none→Q (.ref p) (upd H1 p (.tup xs))
def By(t:TA):TE:=fun σ H Q=>t σ H fun xs H1=>xs.length≤sizeLine∧ ∀p,H1 p=none→Q (.ref p) (upd H1 p (.lst xs))
theorem Jg{x1}(h:PA X es t):PE X (.Tuple es x1 pos) (Bx t):=by
 intro pins s σ H Q I hq
 refine wpAny_Tuple_spliced (aL (h pos pins s σ H _ I hq) fun us s1 ⟨xs,H1,I1,r,z,q⟩=> ⟨by rw[←r.length];exact z, ?_⟩)
 have hf:H1 s1.heap.objs.size=none:=I1.aF.fresh (Nat.le_refl _)
 refine⟨.ref s1.heap.objs.size,upd H1 s1.heap.objs.size (.tup xs),I1.laid (t':=s1.toks) (fun b u e=>Heap.get?_push_of_some _ e) (Nat.le_refl _) ?_,rfl,q _ hf⟩
 exact⟨z,us,r,⟨_,Heap.get?_push_size _ rfl,rfl,_,rfl⟩⟩
theorem Jh(h:PA X es t):PE X (.List es pos) (By t):=by
 intro pins s σ H Q I hq
 refine wpAny_List_spliced (aL (h pos pins s σ H _ I hq) fun us s1 ⟨xs,H1,I1,r,z,q⟩=> ⟨by rw[←r.length];exact z, ?_⟩)
 have hf:H1 s1.heap.objs.size=none:=I1.aF.fresh (Nat.le_refl _)
 refine⟨.ref s1.heap.objs.size,upd H1 s1.heap.objs.size (.lst xs),I1.laid (t':=s1.toks) (fun b u e=>Heap.get?_push_of_some _ e) (Nat.le_refl _) ?_,rfl,q _ hf⟩
 exact⟨z,us,0,r,Heap.get?_push_size _ rfl⟩
end
abbrev Sp:=List V→Hp→VK→XK→Prop
abbrev aE:=List Env→Hp→Shared→XK→Value→Shared→Prop
structure mG (P:Program) (w:World) (K:Frag) (mg:Str→Option Value) (base:Heap) (A:Around) (outer:List Env) (s:Shared) (H:Hp):Prop where
 frames:A.frames=some outer
 mod:Mod K mg base
 bs: ∀b o,base.get? b=some o→s.heap.get? b=some o∧H b=none
 jS:base.objs.size≤s.heap.objs.size
 gi:s.heap.FunFrames base outer
 my: ∀b∈bh outer,H b=none
 aF:bG P w H s.heap
 bare:AllBare s.gens
def CE(outer:List Env)(P:Program)(w:World)(H:Hp)(s:Shared)(Q:VK)(u:Value)(s':Shared):Prop:=
 ∃v H',s'.os=s.os∧AllBare s'.gens∧Un (bh outer) [] H H' s.heap s'.heap∧bG P w H' s'.heap∧RelV v u∧Q v H'
def CR(CX:aE)(outer:List Env)(P:Program)(w:World)(H:Hp)(s:Shared)(Q:VK)(E:XK)(r:Result)(s':Shared):Prop:=
 match r with
 | .ok (.ret u)=>CE outer P w H s Q u s'
 | .ok _=>False
 | .error e=>CX outer H s E e s'
structure bS (P:Program) (w:World) (K:Frag) (mg:Str→Option Value) (base:Heap) (CX:aE) (k:Nat) (f:Addr) (fd:FuncData) (ps:List Str) (sp:Sp):Prop where
 len: ∀vs H Q E,sp vs H Q E→vs.length=ps.length
 run: ∀(A:Around) (outer:List Env) (s:Shared) (H:Hp) (args:Args) (us:List Value) (vs:List V) (Q:VK) (E:XK),cX k A→mG P w K mg base A outer s H→BindsTo s fd args (ps.zip us)→Vals vs us→sp vs H Q E→
  codeAny (model P w) A (.call (.ref f) args) (CR CX outer P w H s Q E) s
theorem bS.mono{P:Program}{w:World}{K:Frag}{mg:Str→Option Value}{base:Heap}{CX:aE}{j k:Nat}{f:Addr}{fd:FuncData}{ps:List Str}{sp:Sp}(F:bS P w K mg base CX j f fd ps sp)(h:j≤k):
  bS P w K mg base CX k f fd ps sp:=⟨F.len,fun A outer s H args us vs Q E hr=>F.run A outer s H args us vs Q E (hr.mono h)⟩
section
variable {X:Cx} {pins:List (Addr×Obj)} {σ:St} {H:Hp} {s s':Shared}
theorem Inv.Bz(I:Inv X pins σ H s):mG X.prog X.w X.K X.mg X.base X.A X.stack s H:=
 ⟨I.ok.frames,I.ok.mod,I.bs,Nat.le_trans I.ok.jS I.sz,I.stack,I.qz,I.aF,I.bare⟩
theorem Inv.after{Q:VK}{u:Value}(I:Inv X pins σ H s)(h:CE X.stack X.prog X.w H s Q u s'):EP X pins σ Q u s':=by
 obtain⟨v,H',os,bare,un,aF,r,q⟩:=h
 obtain⟨hh,g,d,t,Ji⟩:=s'
 obtain rfl:Ji=s.os:=os
 exact⟨v,H',I.call (h':=hh) (g':=g) (d':=d) (t':=t) (ch:=[]) un aF bare (fun b z=>absurd z (by simp)),r,q⟩
end
def ub(sp:Sp)(fN:List V)(E:XK)(t:TA):TE:=fun σ H Q=>t σ H fun vs H1=>sp (vs++fN) H1 Q E
def BA(C:Addr)(m:Str)(sp:Sp)(fN:List V)(E:XK)(ta:TE)(t:TA):TE:=fun σ H Q=>ta σ H fun x H1=> ∃a dx fs,x= .ref a∧H1 a=some (.ins C dx fs)∧fs.lookup m=none∧
 t σ H1 fun vs H2=>sp (x::(vs++fN)) H2 Q E
def Jj(C:Addr)(sp:Sp)(fN:List V)(E:XK)(t:TA):TE:=fun σ H Q=>t σ H fun vs H1=> ∀x dx,H1 x=none→H1 dx=none→dx≠x→
 sp (.ref x::(vs++fN)) (upd (upd H1 dx (.own x)) x (.ins C dx [])) (fun v H2=>v= .ai∧Q (.ref x) H2) E
def Binds(K:Frag)(fd:FuncData)(ps:List Str)(ds:List Value):Prop:=
 ∀(s:Shared) (us:List Value),K.In s.heap→(us++ds).length=ps.length→BindsTo s fd ⟨us,[]⟩ (ps.zip (us++ds))
theorem Binds.all{K:Frag}{fd:FuncData}{ps:List Str}(h: ∀us:List Value,us.length=ps.length→bindArgs fd ⟨us,[]⟩=pure (ps.zip us)):Binds K fd ps []:=fun s us _ hl=>by
 rw[List.append_nil] at hl⊢
 exact .of_eq (h us hl)
def Passes(CX:aE)(X:Cx)(E:XK):Prop:= ∀(pins:List (Addr×Obj)) (σ:St) (H:Hp) (s:Shared) (e:Value) (s':Shared),Inv X pins σ H s→CX X.stack H s E e s'→X.xe e s'
section
variable {X:Cx} {CX:aE} {k:Nat} {f C:Addr} {fd:FuncData} {ps:List Str} {sp:Sp} {fN:List V} {ds:List Value} {E:XK} {x m:Str} {p pos apos:Pos} {e o:Expr} {es:List Expr} {ta:TE} {t:TA}
theorem Jk{pins:List (Addr×Obj)}{σ:St}{H:Hp}{s:Shared}{Q:VK}{us:List Value}{vs:List V}(F:bS X.prog X.w X.K X.mg X.base CX k f fd ps sp)(hr:cX k X.A)(hb:Binds X.K fd ps ds)(hd:Vals fN ds)(hx:Passes CX X E)
  (I:Inv X pins σ H s) (r:Vals vs us) (h:sp (vs++fN) H Q E):wpAny (model X.prog X.w) X.A (call (.ref f) us) (EP X pins σ Q) X.xe s:=by
 have r2:Vals (vs++fN) (us++ds):=r.append hd
 have hl:(us++ds).length=ps.length:=by rw[←r2.length];exact F.len _ _ _ _ h
 refine wpAny_call (codeAny_mono (F.run X.A X.stack s H ⟨us,[]⟩ (us++ds) (vs++fN) Q E hr I.Bz (hb s us I.cQ hl) r2 h) fun r s' hq=> ?_)
 cases r with
 | error e=>exact hx pins σ H s e s' I hq
 | ok fl=>
  cases fl with
  | ret u=>exact I.after hq
  | next=>exact False.elim hq
  | brk=>exact False.elim hq
  | cont=>exact False.elim hq
theorem Jl(F:bS X.prog X.w X.K X.mg X.base CX k f fd ps sp)(hr:cX k X.A)(hg:Gl X x)(hm:X.mg x=some (.ref f))(hk:keepIn X.K (.ref f)=true)(hb:Binds X.K fd ps ds)(hd:Vals fN ds)(hx:Passes CX X E)
  (ha:PA X (e::es) t) (j1:(x==("__debug__":Str))=false:=by decide) (he:starEach (e::es) X.env=(false,eval e X.env)::starEach es X.env:=by rfl) (je:(backTo pos (starEach es X.env)).any (·.1)=false:=by rfl):
  PE X (.Call (.Name x p) (e::es) [] pos) (ub sp fN E t):=by
 intro pins s σ H Q I h
 refine wpAny_Call_Name_kw (qC I hg hm ?_ j1)
 refine callWith_K (h₀:=X.base) I.ok.mod.nG hk (aL (ha pos pins s σ H _ I h) fun us s1 ⟨vs,H1,I1,r,q⟩=> ⟨I1.cQ, ?_⟩) he je
 exact Jk F hr hb hd hx I1 r q
structure Mk (K:Frag) (C f:Addr):Prop where
 makes:PySem.W.makesIn K C=true
 init:PySem.W.findIn K (.ref C) "__init__"=some (some (.ref f))
 fn:isFn K (.ref f)=true
 kp:keepIn K (.ref C)=true
end
section
variable {X:Cx} {CX:aE} {k:Nat} {f C:Addr} {fd:FuncData} {ps ks:List Str} {sp:Sp} {E:XK} {x m:Str} {p pos apos ZD:Pos} {e o:Expr} {es:List Expr} {ZE:List Keyword} {te ta:TE} {t tk:TA} {nm:Option Str}
variable {g:List Value→List Value→List Value} {gV:List V→List V→List V}
end
structure bO (N P:List Str) (sc:Scope):Prop where
 kind:sc.kind= .function
 co:sc.isCoroutine=false
 gen:sc.isGenerator=false
 nd:N.Nodup
 pre:N.take P.length=P
 par: ∀x∈P,sc.names.lookup x=some .local∨sc.names.lookup x=some .cell
 Jm: ∀y∈sc.names,y.2≠ .free
theorem ck{N P:List Str}{sc:Scope}(a:sc.kind= .function:=by kernel_rfl)(b:sc.isCoroutine=false:=by kernel_rfl)(c:sc.isGenerator=false:=by kernel_rfl)(d:N.Nodup:=by decide+kernel)(e:N.take P.length=P:=by kernel_rfl)(f: ∀x∈P,sc.names.lookup x=some .local∨sc.names.lookup x=some .cell:=by decide+kernel)(g: ∀y∈sc.names,y.2≠ .free:=by decide+kernel):bO N P sc:=⟨a,b,c,d,e,f,g⟩
theorem BB{kindOf:Str→Option NameKind}{x:Str}: ∀{binds:List (Str×Value)} {m:Str→Option Value},(∀v,(x,v)∉binds)→bindL kindOf binds m x=m x
 | [],_,_=>rfl
 | (n,v)::r,m,h=>by
  unfold bindL
  rw[BB fun w hw=>h w (List.mem_cons_of_mem _ hw)]
  split
  ·have:x≠n:=by rintro rfl;exact h v List.mem_cons_self
   simp[this]
  ·rfl
theorem BC{kindOf:Str→Option NameKind}{x:Str}: ∀{binds:List (Str×Value)} {m:Str→Option Value},(∀v,(x,v)∉binds)→bindC kindOf binds m x=m x
 | [],_,_=>rfl
 | (n,v)::r,m,h=>by
  unfold bindC
  rw[BC fun w hw=>h w (List.mem_cons_of_mem _ hw)]
  split
  ·rfl
  ·have:x≠n:=by rintro rfl;exact h v List.mem_cons_self
   simp[this]
theorem BD{kindOf:Str→Option NameKind}{x:Str}{v:Value}: ∀{P:List Str} {vs:List Value} {i:Nat} {m:Str→Option Value},P.Nodup→P[i]?=some x→vs[i]?=some v→kindOf x=some .local→
  bindL kindOf (P.zip vs) m x=some v
 | [],_,_,_,_,h,_,_=>by simp at h
 | _::_,[],_,_,_,_,h,_=>by simp at h
 | p::P,w::vs,0,m,nd,h1,h2,hk=>by
  simp at h1 h2;subst h1;subst h2
  show bindL kindOf ((p,w)::P.zip vs) m p=_
  unfold bindL
  rw[BB fun v hv=> (List.nodup_cons.mp nd).1 (List.of_mem_zip hv).1,if_pos hk]
  simp
 | p::P,w::vs,i+1,m,nd,h1,h2,hk=>by
  show bindL kindOf ((p,w)::P.zip vs) m x=_
  unfold bindL
  exact BD (i:=i) (List.nodup_cons.mp nd).2 (by simpa using h1) (by simpa using h2) hk
theorem BE{kindOf:Str→Option NameKind}{x:Str}{v:Value}: ∀{P:List Str} {vs:List Value} {i:Nat} {m:Str→Option Value},P.Nodup→P[i]?=some x→vs[i]?=some v→kindOf x≠some .local→
  bindC kindOf (P.zip vs) m x=some v
 | [],_,_,_,_,h,_,_=>by simp at h
 | _::_,[],_,_,_,_,h,_=>by simp at h
 | p::P,w::vs,0,m,nd,h1,h2,hk=>by
  simp at h1 h2;subst h1;subst h2
  show bindC kindOf ((p,w)::P.zip vs) m p=_
  unfold bindC
  rw[BC fun v hv=> (List.nodup_cons.mp nd).1 (List.of_mem_zip hv).1,if_neg hk]
  simp
 | p::P,w::vs,i+1,m,nd,h1,h2,hk=>by
  show bindC kindOf ((p,w)::P.zip vs) m x=_
  unfold bindC
  exact BE (i:=i) (List.nodup_cons.mp nd).2 (by simpa using h1) (by simpa using h2) hk
def start(N:List Str)(vs:List V):St:=vs.map some++List.replicate (N.length - vs.length) none
def iC(CX:aE)(P:Program)(w:World)(K:Frag)(mg:Str→Option Value)(base:Heap)(N:List Str)(qual:Str)(scope:Scope)(f:Addr)(cd:Value)(A:Around)(outer:List Env)(s:Shared)(H:Hp)(E:XK):Cx where
 prog:=P
 w:=w
 K:=K
 mg:=mg
 base:=base
 A:=A.deeper (envOfC qual scope s.heap.objs.size f cd)
 N:=N
 s₀:=s
 H₀:=H
 env:=envOfC qual scope s.heap.objs.size f cd
 outer:=outer
 stack:=envOfC qual scope s.heap.objs.size f cd::outer
 ex:=[]
 calm:=true
 fn:=fun _=>true
 pn:=[]
 xe:=fun e s'=>wpAny (model P w) (A.deeper (envOfC qual scope s.heap.objs.size f cd)) (leaving (envOfC qual scope s.heap.objs.size f cd) e) (fun _ ee=>CX outer H s E e ee) (fun e' ee=>CX outer H s E e' ee) s'
theorem BF{sc:Scope}{n:Nat}{x:Str}(h:sc.names.lookup x=some .cell): ∃c,(cellsFrom n sc.names []).lookup x=some c:=by
 have q:=cellsFrom_some sc.names n [] (.inl h)
 exact Option.isSome_iff_exists.mp q
theorem BG{CX:aE}{P:Program}{w:World}{K:Frag}{mg:Str→Option Value}{base:Heap}{N ps:List Str}{qual:Str}{scope:Scope}{f:Addr}{cd:Value}{A:Around}{outer:List Env}{s s1:Shared}{H:Hp}{E:XK}{us:List Value}{vs:List V}
  (S:bO N ps scope) (hd:A.handled=none) (e0:mG P w K mg base A outer s H) (hl:vs.length=ps.length) (r:Vals vs us)
  (x:InCallC s s.heap.objs.size (bindL (envOfC qual scope s.heap.objs.size f cd).kindOf (ps.zip us) fun _=>none) (cellsFrom (s.heap.objs.size+1) scope.names []) (bindC (envOfC qual scope s.heap.objs.size f cd).kindOf (ps.zip us) fun _=>none) s1):
  Inv (iC CX P w K mg base N qual scope f cd A outer s H E) [] (start N vs) H s1:=by
 have je:ps.length≤N.length:=by have:=congrArg List.length S.pre;rw[List.length_take] at this;omega
 obtain⟨h1,tk,rfl,hk⟩:=x.done
 have nR: ∀b:Addr,b∉ (iC CX P w K mg base N qual scope f cd A outer s H E).ex:=fun b z=>absurd (show b∈ ([]:List Addr) from z) (by simp)
 refine⟨⟨e0.mod,S.kind,rfl,rfl,Nat.le_refl _,fun y z c h1 h2=> ?_,fun y hy=> ?_,fun y c _ h=> ?_,fun _=>hd,Around.frames_deeper e0.frames, .inr ⟨rfl,rfl⟩,fun b z=>absurd z (nR b),e0.bs,e0.jS,fun b _ _=>nR b,fun b z=>absurd z (nR b),e0.gi,e0.my⟩,
  rfl,e0.bare,Un.kept hk,⟨_,x.toInCall.ns,fun i y v h1 h2 h3=> ?_⟩,fun y c h=> ⟨_,x.cell y c h⟩,e0.aF.fresh (Nat.le_refl _),fun y c h=> ?_,fun p hp=>absurd (show p∈ ([]:List (Addr×Obj)) from hp) (by simp),e0.aF.kept hk, ?_⟩
 ·exact name_of_addr x.apart (PySem.mem_of_lookup h1) (PySem.mem_of_lookup h2)
 ·have hy:scope.names.lookup y=some .cell∨scope.names.lookup y=some .free:=hy
  rcases hy with hy | hy
  ·exact BF hy
  ·exact absurd rfl (S.Jm _ (PySem.mem_of_lookup hy))
 ·exact Nat.le_of_lt (x.above y c (PySem.mem_of_lookup h))
 ·have hi:i<vs.length:=by
   unfold start at h2
   by_cases hi:i<vs.length
   ·exact hi
   ·rw[List.getElem?_append_right (by simpa using hi)] at h2
    rw[List.getElem?_replicate] at h2
    split at h2<;>cases h2
  have ha:vs[i]?=some v:=by
   unfold start at h2
   rw[List.getElem?_append_left (by simpa using hi),List.getElem?_map] at h2
   cases e:vs[i]? with
   | none=>rw[e] at h2;cases h2
   | some a=>rw[e] at h2;cases h2;rfl
  obtain⟨u,hu,rv⟩:=r.get ha
  have hp:ps[i]?=some y:=by
   rw[←S.pre,List.getElem?_take_of_lt (by omega)];exact h1
  have BH:ps.Nodup:=by rw[←S.pre];exact S.nd.sublist (List.take_sublist _ _)
  refine⟨u,rv, ?_⟩
  rcases S.par y (List.mem_of_getElem? hp) with k | k
  ·exact .inl ⟨k,BD BH hp hu k⟩
  ·obtain⟨c,e⟩:=BF (n:=s.heap.objs.size+1) k
   refine .inr ⟨.inl k,c,e, ?_⟩
   have q:=x.cell y c e
   rw[BE BH hp hu (by show scope.names.lookup y≠_;rw[k];decide)] at q
   exact q
 ·exact e0.aF.fresh (Nat.le_of_lt (x.above y c (PySem.mem_of_lookup h)))
 ·unfold start
  show _=N.length
  rw[List.length_append,List.length_map,List.length_replicate]
  omega
theorem Jn{CX:aE}{P:Program}{w:World}{K:Frag}{mg:Str→Option Value}{base:Heap}{k:Nat}{f:Addr}{name qual:Str}{params:Arguments}{body:List Stmt}{scope:Scope}{dV kV doc pm bj ct oc:Value}{an od:Option Addr}
  {gk:Array (Option Value)} {N ps:List Str} {sp:Sp} (lk:K.lookup f=some ⟨oc,od, .func (fnOf name qual params body scope dV kV doc pm an bj ct),gk⟩) (e8:codeIn K bj qual=true) (S:bO N ps scope)
  (len: ∀vs H Q E,sp vs H Q E→vs.length=ps.length)
  (uc: ∀(A:Around) (outer:List Env) (s:Shared) (H:Hp) (vs:List V) (Q:VK) (E:XK),cX k (A.deeper (envOfC qual scope s.heap.objs.size f bj))→sp vs H Q E→
   ∃t,a_ (iC CX P w K mg base N qual scope f bj A outer s H E) body t∧t {nx:=fun _ H'=>Q .ai H',rt:=Q} (start N vs) H):
  bS P w K mg base CX (k+1) f (fnOf name qual params body scope dV kV doc pm an bj ct) ps sp:=by
 refine⟨len,fun A outer s H args us vs Q E hr e0 hb r e9=> ?_⟩
 have hl:=len _ _ _ _ e9
 have KX:K.In s.heap:=e0.mod.nG.keeps fun b o e=> (e0.bs b o e).1
 have lim:s.heap.NoLimit:=e0.mod.nolimit.keeps fun b o e=> (e0.bs b o e).1
 have ud: ∀y∈ps.zip us,scope.names.lookup y.1=some .local∨(scope.names.lookup y.1=some .cell∧((cellsFrom (s.heap.objs.size+1) scope.names []).lookup y.1).isSome=true):=fun⟨n,v⟩ hy=>by
  rcases S.par n (List.of_mem_zip hy).1 with q | q
  ·exact .inl q
  ·exact .inr ⟨q,cellsFrom_some _ _ _ (.inl q)⟩
 refine codeAny_call_function hr.depth (KX _ _ lk) rfl S.co S.gen rfl (codeRec_of KX e8) (hb _ _ _ _ ?_)
 refine wpAny_newFunctionEnv_cells S.kind ud fun env he s1 x=> ?_
 subst he
 refine⟨lim.keeps x.toInCall.keep,codeAny_func ?_⟩
 obtain⟨t,ht,hq⟩:=uc A outer s H vs Q E (hr.deeper _) e9
 have I:Inv (iC CX P w K mg base N qual scope f bj A outer s H E) [] (start N vs) H s1:=BG S hr.hd e0 hl r x
 refine wpAny_mono (ht [] s1 (start N vs) H _ I hq) (fun fl s' hs=> ?_) fun e s' hs=>hs
 have fin: ∀{σ':St} {H':Hp} {v:V} {u:Value},Inv (iC CX P w K mg base N qual scope f bj A outer s H E) [] σ' H' s'→RelV v u→Q v H'→CE outer P w H s Q u s':=
  fun {σ' H' v u} J rv q=> ⟨v,H',J.os,J.bare,J.base,J.aF,rv,q⟩
 cases fl with
 | ret u=>
  obtain⟨v,σ',H',J,rv,q⟩:=hs
  exact fin J rv q
 | next=>
  obtain⟨σ',H',J,q⟩:=hs
  exact fin (v:=V.ai) (u:=Value.none) J rfl q
 | brk=>
  obtain⟨_,_,_,q⟩:=hs
  exact False.elim q
 | cont=>
  obtain⟨_,_,_,q⟩:=hs
  exact False.elim q
section
variable {X:Cx} {x:Str} {p pos:Pos} {e:Expr} {es:List Expr} {t:TA} {id T:String} {r:List V→Hp→VK→Prop}
def cG(r:List V→Hp→VK→Prop)(t:TA):TE:=fun σ H Q=>t σ H fun vs H1=>r vs H1 Q
theorem jf(hc:bA X (.builtin id) r)(hg:Gl X x)(hm:X.mg x=none)(hv:bootBuiltins x=some (.builtin id))(ha:PA X (e::es) t)(hn:x≠"__name__":=by decide)(j1:(x==("__debug__":Str))=false:=by decide)
  (he:starEach (e::es) X.env=(false,eval e X.env)::starEach es X.env:=by rfl) (je:(backTo pos (starEach es X.env)).any (·.1)=false:=by rfl):PE X (.Call (.Name x p) (e::es) [] pos) (cG r t):=by
 intro pins s σ H Q I h
 refine wpAny_Call_Name_kw (ja I hg hm hv ?_ hn j1)
 exact PyProof.Rows.callWith_builtin1 (aL (ha pos pins s σ H _ I h) fun us s1 ⟨vs,H1,I1,r1,q1⟩=>hc pins s1 σ H1 vs us Q I1 r1 q1) he je
theorem Jo(hc:bA X (.type T) r)(hg:Gl X x)(hm:X.mg x=none)(hv:bootBuiltins x=some (.type T))(ha:PA X (e::es) t)(hn:x≠"__name__":=by decide)(j1:(x==("__debug__":Str))=false:=by decide)
  (he:starEach (e::es) X.env=(false,eval e X.env)::starEach es X.env:=by rfl) (je:(backTo pos (starEach es X.env)).any (·.1)=false:=by rfl):PE X (.Call (.Name x p) (e::es) [] pos) (cG r t):=by
 intro pins s σ H Q I h
 refine wpAny_Call_Name_kw (ja I hg hm hv ?_ hn j1)
 exact PyProof.Rows.callWith_type1 (aL (ha pos pins s σ H _ I h) fun us s1 ⟨vs,H1,I1,r1,q1⟩=>hc pins s1 σ H1 vs us Q I1 r1 q1) he je
end
end L2
namespace HT
open PySem PyProof.Rows
section
open PySem.SeqAt
open PySem.AutoSeq1 (wpAny_loadPart')
open PySem.MeetsSeq PySem.MeetsSeq2 PySem.MeetsSeq3
end
section
variable {prog:Program} {w:World} {A:Around} {E:Value→Shared→Prop} {s:Shared}
theorem Jp{t b:Addr}{vs ws:List Value}{Q:Value→Shared→Prop}(ht:IsTup s.heap t vs.toArray)(hb:IsTup s.heap b ws.toArray)(hv:vs≠ [])
  (h1:ws=[]→Q (.ref t) s) (h2:ws≠ []→Q (.ref s.heap.objs.size) {s with heap:=s.heap.push {cls:= .type "tuple",data:= .seq (vs++ws).toArray}})
  (iD:vs.length+ws.length≤sizeLine):wpAny (model prog w) A (binaryOp .Add (.ref t) (.ref b)) Q E s:=by
 obtain⟨⟨cls,dd,data,sl⟩,ho,hc,n,hd⟩:=id ht
 obtain⟨⟨ZF,BI,data2,j2⟩,e_,nS,n2,hd2⟩:=id hb
 simp only at hc hd nS hd2
 subst hc hd nS hd2
 have e:vs.toArray++ws.toArray=(vs++ws).toArray:=by simp
 by_cases hw:ws=[]
 ·exact concat_meets ⟨_,ho,rfl⟩ ⟨_,e_,rfl⟩ noFill_tuple_add seq_tuple_add PySem.F.slot_tuple_add PySem.F.entry_tuple_add (PySem.F.args_tuple_add_2 _ _)
   (tuple_addW1 t b vs.toArray ws.toArray n n2 dd BI sl j2 (by simpa using hv) (by simp[hw])) ⟨ho,e_,h1 hw⟩
 ·refine concat_meets ⟨_,ho,rfl⟩ ⟨_,e_,rfl⟩ noFill_tuple_add seq_tuple_add PySem.F.slot_tuple_add PySem.F.entry_tuple_add (PySem.F.args_tuple_add_2 _ _)
   (tuple_addW2 t b vs.toArray ws.toArray n n2 dd BI sl j2 (by simpa using hv) (by simpa using hw) (by rw[List.size_toArray,List.size_toArray];exact iD)) ⟨ho,e_, ?_⟩
  rw[e]
  exact h2 hw
def aP(n d:Nat):Option Int→Nat
 | none=>d
 | some v=>if v<0 then (v+ (n:Int)).toNat else min v.toNat n
theorem ue(n d:Nat):aP n d none=d:=rfl
theorem uf(n d k:Nat):aP n d (some (k:Int))=min k n:=by
 show(if (k:Int) <0 then ((k:Int)+ (n:Int)).toNat else min (k:Int).toNat n)=min k n
 rw[if_neg (by omega),Int.toNat_natCast]
theorem ug(n d:Nat)(hd:d≤n)(o:Option Int):aP n d o≤n:=by
 cases o with
 | none=>exact hd
 | some v=>
  show(if v<0 then (v+ (n:Int)).toNat else min v.toNat n)≤n
  by_cases hv:v<0
  ·rw[if_pos hv];omega
  ·rw[if_neg hv];exact Nat.min_le_right _ _
theorem BJ(v:Int)(n d:Nat):(if v<0 then max (v+ (n:Int)) 0 else min v (n:Int))=((aP n d (some v):Nat):Int):=by
 show(if v<0 then max (v+ (n:Int)) 0 else min v (n:Int))=(((if v<0 then (v+ (n:Int)).toNat else min v.toNat n):Nat):Int)
 by_cases hv:v<0
 ·simp only[if_pos hv];omega
 ·simp only[if_neg hv];omega
theorem Jq(lo hi:Option Int)(n:Nat):Builtin.Slice.sliceAdjust lo hi 1 (n:Int)=(((aP n 0 lo:Nat):Int),((aP n n hi:Nat):Int)):=by
 have h1: ¬((1:Int) <0):=by omega
 unfold Builtin.Slice.sliceAdjust
 simp only[h1,if_false]
 refine Prod.ext ?_ ?_
 ·cases lo with
  | none=>rfl
  | some v=>exact BJ v n 0
 ·cases hi with
  | none=>rfl
  | some v=>exact BJ v n n
theorem Jr(i j:Nat):Builtin.Slice.slicePlaces (i:Int) (j:Int) 1=j - i:=by
 unfold Builtin.Slice.slicePlaces
 have h1:(1:Int) >0:=by omega
 simp only[h1,if_true,Int.ediv_one]
 split<;>omega
theorem BK{v:Value}{o:Option Int}{Q:Option Int→Shared→Prop}(p:IsPart v o)(h:Q o s):wpAny (model prog w) A (Builtin.Slice.slicePartIndex v) Q E s:=by
 cases p with
 | none=>exact slicePart_none h
 | int i t=>exact slicePart_int h
theorem Js{sl:Addr}{vl vu:Value}{lo hi:Option Int}{n:Nat}{Q:Int×Int×Nat→Shared→Prop}(hs:s.heap.IsSliceOf sl vl vu .none)(pl:IsPart vl lo)(pu:IsPart vu hi)
  (h:Q (((aP n 0 lo:Nat):Int),1,aP n n hi - aP n 0 lo) s):wpAny (model prog w) A (Builtin.Slice.sliceApplied (.ref sl) (pure (n:Int))) Q E s:=by
 obtain⟨os,nU,bB,jg⟩:=id hs
 unfold Builtin.Slice.sliceApplied Builtin.Slice.sliceFields
 refine wpAny_bind (wpAny_bind (wpAny_field nU jg (x:=vl) rfl (wpAny_bind (wpAny_field nU jg (x:=vu) rfl (wpAny_bind (wpAny_field nU jg (x:= .none) rfl (wpAny_pure ?_)))))))
 refine wpAny_bind (slicePart_none ?_)
 show wpAny _ _ (if ((1:Int)==0)=true then _ else _) _ _ s
 rw[if_neg (by decide)]
 refine wpAny_bind (BK pl (wpAny_bind (BK pu (wpAny_bind (wpAny_pure ?_)))))
 show wpAny _ _ (match Builtin.Slice.sliceAdjust lo hi 1 (n:Int) with | (lo,hi)=>pure (lo,(1:Int),Builtin.Slice.slicePlaces lo hi 1)) _ _ s
 rw[Jq lo hi n]
 show wpAny _ _ (pure (((aP n 0 lo:Nat):Int),(1:Int),Builtin.Slice.slicePlaces ((aP n 0 lo:Nat):Int) ((aP n n hi:Nat):Int) 1)) _ _ s
 rw[Jr]
 exact wpAny_pure h
theorem Jt(xs:Array Value)(i k:Nat):((List.range k).filterMap fun(m:Nat)=>xs[((i:Int)+ (m:Int)*1).toNat]?).toArray=((xs.toList.drop i).take k).toArray:=by
 have e:(fun(m:Nat)=>xs[((i:Int)+ (m:Int)*1).toNat]?)=fun m=>xs[i+m]?:=by
  funext m
  have:((i:Int)+ (m:Int)*1).toNat=i+m:=by omega
  rw[this]
 rw[e]
 have:=pick_run xs i k
 rw[List.filterMap_map] at this
 have e2:((fun x=>xs[x]?)∘fun x=>i+x)=fun m=>xs[i+m]?:=rfl
 rw[e2] at this
 rw[this]
theorem Ju{t sl:Addr}{items:Array Value}{vl vu:Value}{lo hi:Option Int}{Q:Value→Shared→Prop}(ht:IsTup s.heap t items)(hs:s.heap.IsSliceOf sl vl vu .none)(pl:IsPart vl lo)(pu:IsPart vu hi)
  (hw: ¬(aP items.size 0 lo=0∧aP items.size items.size hi=items.size))
  (h:Q (.ref s.heap.objs.size) {s with heap:=s.heap.push {cls:= .type "tuple",data:= .seq ((items.toList.drop (aP items.size 0 lo)).take (aP items.size items.size hi - aP items.size 0 lo)).toArray}})
  (iD:items.size≤sizeLine):wpAny (model prog w) A (getItem (.ref t) (.ref sl)) Q E s:=by
 have qP:sizeOk (.seq ((items.toList.drop (aP items.size 0 lo)).take (aP items.size items.size hi - aP items.size 0 lo)).toArray):=by
  show((items.toList.drop (aP items.size 0 lo)).take (aP items.size items.size hi - aP items.size 0 lo)).toArray.size≤sizeLine
  rw[List.size_toArray,List.length_take,List.length_drop,Array.length_toList]
  omega
 have hj:aP items.size items.size hi≤items.size:=ug _ _ (Nat.le_refl _) hi
 obtain⟨os,nU,bB,jg⟩:=id hs
 have Jv:s.TypeIs (.ref sl) "slice":=⟨os,nU,bB⟩
 unfold getItem
 try with_reducible refine wpAny_holding ?_
 first | refine wpAny_bind (wpAny_pure ?_) | skip
 refine wpAny_bind (wpAny_sequenceKey ht.typeIs (by decide) ?_)
 refine wpAny_bind (wpAny_callSpecial?_slot (name:=Str.ofString "__getitem__") ht.typeIs PyProof.Rows.slot_tuple_getitem
  (wpAny_call_entry PyProof.Rows.slot_tuple_getitem ht.typeIs entry_tuple_getitem ?_ (args_tuple_getitem _ _)))
 show wpAny _ _ (Builtin.Tuple.tupleItemsOf (.ref t) >>=_) _ _ s
 refine wpAny_bind (tupleItemsOf_ ht ?_)
 refine wpAny_bind (wpAny_typeOf Jv ?_)
 rw[if_pos (by decide)]
 refine wpAny_bind (Js hs pl pu ?_)
 have Jw: ¬((((aP items.size 0 lo:Nat):Int)==0 && (1:Int)==1 && (aP items.size items.size hi - aP items.size 0 lo)==items.size)=true):=by
  intro q
  rw[Bool.and_eq_true,Bool.and_eq_true] at q
  have q1:((aP items.size 0 lo:Nat):Int)=0:=eq_of_beq q.1.1
  have q2:aP items.size items.size hi - aP items.size 0 lo=items.size:=eq_of_beq q.2
  exact hw ⟨by omega,by omega⟩
 show wpAny _ _ (if (((aP items.size 0 lo:Nat):Int)==0 && (1:Int)==1 && (aP items.size items.size hi - aP items.size 0 lo)==items.size)=true then _ else _) _ _ s
 rw[if_neg Jw,Jt]
 first
  | exact wpAny_bind (m:=Builtin.Tuple.tupleExact _) (wpAny_newObj_type (wpAny_pure ⟨_,rfl,wpAny_pure h⟩) qP)
  | exact wpAny_bind (m:=Builtin.Tuple.tupleExact _) (wpAny_newObj_type (wpAny_bind (wpAny_pure (wpAny_pure ⟨_,rfl,wpAny_pure h⟩))) qP)
  | exact wpAny_bind (wpAny_bind (m:=Builtin.Tuple.tupleExact _) (wpAny_newObj_type (wpAny_pure (wpAny_pure ⟨_,rfl,wpAny_pure h⟩)) qP))
  | exact wpAny_bind (wpAny_bind (m:=Builtin.Tuple.tupleExact _) (wpAny_newObj_type (wpAny_pure ⟨_,rfl,wpAny_pure h⟩) qP))
end
end HT
namespace L2
open PySem PySem.Spec PyProof.Rows
abbrev TO:=St→Hp→(Option Int→Hp→Prop)→Prop
def PO(X:Cx)(e:Option Expr)(t:TO):Prop:=
 ∀(pins:List (Addr×Obj)) (s:Shared) (σ:St) (H:Hp) (Q:Option Int→Hp→Prop),Inv X pins σ H s→t σ H Q→
  wpAny (model X.prog X.w) X.A (evalPart e X.env) (fun u s'=> ∃o H',Inv X pins σ H' s'∧IsPart u o∧Q o H') X.xe s
def BL:TO:=fun _ H Q=>Q none H
def qQ(t:TE):TO:=fun σ H Q=>t σ H fun x H1=> ∃i,x= .int i∧Q (some i) H1
theorem intsAre_of{ns:List Int}: ∀{us:List Value},Vals (ns.map V.int) us→IntsAre us ns:=by
 induction ns with
 | nil=>intro us r;rw[List.map_nil] at r;cases r;exact .nil
 | cons n ns ih=>
  intro us r
  rw[List.map_cons] at r
  cases r with
  | cons r1 r2=>
   obtain⟨t,e⟩:=r1
   subst e
   exact .cons n t (ih r2)
section
variable {X:Cx} {e:Expr} {te:TE} {lo hi:Option Expr} {tl th:TO} {pos p2:Pos}
theorem Jx:PO X none BL:=by
 intro pins s σ H Q I h
 rw[evalPart_none]
 exact wpAny_pure ⟨none,H,I, .none,h⟩
theorem Jy(h:PE X e te):PO X (some e) (qQ te):=by
 intro pins s σ H Q I hw
 rw[evalPart_some]
 refine aL (h pins s σ H _ I hw) fun u s1 ⟨x,H1,I1,r1,q1⟩=> ?_
 obtain⟨i,rfl,q⟩:=q1
 obtain⟨t,rfl⟩:=r1
 exact⟨some i,H1,I1, .int i t,q⟩
def qR(X:Cx)(r:V→Option Int→Option Int→Hp→VK→Prop):Prop:=
 ∀(pins:List (Addr×Obj)) (s:Shared) (σ:St) (H:Hp) (x:V) (v vl vu:Value) (lo hi:Option Int) (sl:Addr) (Q:VK),Inv X pins σ H s→RelV x v→s.heap.IsSliceOf sl vl vu .none→IsPart vl lo→IsPart vu hi→r x lo hi H Q→
  ∃T id,typeLookup (.type T) "__getitem__"=pure (some (.builtin id))∧s.TypeIs v T∧wpAny (model X.prog X.w) X.A (getItem v (.ref sl)) (EP X pins σ Q) X.xe s
def uh(r:V→Option Int→Option Int→Hp→VK→Prop)(te:TE)(tl th:TO):TE:=fun σ H Q=>te σ H fun x H1=>tl σ H1 fun l H2=>th σ H2 fun u H3=>r x l u H3 Q
theorem Jz{r:V→Option Int→Option Int→Hp→VK→Prop}(hr:qR X r)(he:PE X e te)(hl:PO X lo tl)(hu:PO X hi th):PE X (.Subscript e (.Slice lo hi none p2) pos) (uh r te tl th):=by
 intro pins s σ H Q I h
 refine Subscript_ (aL (he pins s σ H _ I h) fun v s1 ⟨x,H1,I1,r1,q1⟩=> ?_)
 refine wpAny_Slice (aL (hl pins s1 σ H1 _ I1 q1) fun vl s2 ⟨l,H2,I2,pl,q2⟩=>aL (hu pins s2 σ H2 _ I2 q2) fun vu s3 ⟨u,H3,I3,pu,q3⟩=> ?_)
 rw[evalPart_none]
 refine wpAny_pure ?_
 have I4:Inv X pins σ H3 {s3 with heap:=s3.heap.push {cls:= .type "slice",data:= .fields #[vl,vu, .none]}}:=I3.kept (t':=s3.toks) fun b ob q=>Heap.get?_push_of_some _ q
 obtain⟨T,id,hT,ht,hg⟩:=hr pins {s3 with heap:=s3.heap.push {cls:= .type "slice",data:= .fields #[vl,vu, .none]}} σ H3 x v vl vu l u s3.heap.objs.size Q I4 r1 (Heap.IsSliceOf.new ..) pl pu q3
 show wpAny (model X.prog X.w) X.A (subscriptTail e (.Slice lo hi none p2) v (.ref s3.heap.objs.size)) (EP X pins σ Q) X.xe {s3 with heap:=s3.heap.push {cls:= .type "slice",data:= .fields #[vl,vu, .none]}}
 exact tail_any (ops:=[.ref s3.heap.objs.size,v]) ht hT hg (by with_unfolding_all rfl)
def cz(xs:List V)(lo hi:Option Int):List V:=(xs.drop (HT.aP xs.length 0 lo)).take (HT.aP xs.length xs.length hi - HT.aP xs.length 0 lo)
theorem BM(xs:List V)(lo hi:Option Int):(cz xs lo hi).length≤xs.length:=by
 unfold cz
 rw[List.length_take,List.length_drop]
 omega
def JA(K:Frag):V→Option Int→Option Int→Hp→VK→Prop:=fun x lo hi H Q=> ∃a xs,x= .ref a∧aU K H a xs∧
 ¬(HT.aP xs.length 0 lo=0∧HT.aP xs.length xs.length hi=xs.length)∧ ∀p,H p=none→Q (.ref p) (upd H p (.tup (cz xs lo hi)))
theorem JB:qR X (JA X.K):=by
 intro pins s σ H x v vl vu lo hi sl Q I rx hs pl pu h
 obtain⟨a,xs,rfl,hx,hw,q⟩:=h
 cases rx
 obtain⟨its,r,ht,hz⟩:=I.tuple hx
 have hlen:its.toArray.size=xs.length:=by rw[List.size_toArray];exact r.length.symm
 refine⟨"tuple",_,PyProof.Rows.slot_tuple_getitem.lookup,ht.typeIs, ?_⟩
 refine HT.Ju ht hs pl pu (by rw[hlen];exact hw) ?_ (by rw[hlen];exact hz)
 rw[hlen]
 refine⟨.ref s.heap.objs.size,_,I.laid (t':=s.toks) (o:= .tup (cz xs lo hi)) (fun b ob q=>Heap.get?_push_of_some _ q) (Nat.le_refl _) ?_,rfl,q _ (I.aF.fresh (Nat.le_refl _))⟩
 exact⟨Nat.le_trans (BM xs lo hi) hz,_,(r.drop (HT.aP xs.length 0 lo)).take (HT.aP xs.length xs.length hi - HT.aP xs.length 0 lo),IsTup.new _ _⟩
def BN(K:Frag):R2:=fun x y H Q=> ∃a b xs ys,x= .ref a∧y= .ref b∧aU K H a xs∧aU K H b ys∧xs≠ []∧xs.length+ys.length≤sizeLine∧
 (ys=[]→Q (.ref a) H)∧(ys≠ []→ ∀p,H p=none→Q (.ref p) (upd H p (.tup (xs++ys))))
theorem Vals.ui{xs:List V}{us:List Value}(r:Vals xs us):us=[]↔xs=[]:=by
 cases r with
 | nil=>simp
 | cons _ _=>simp
theorem JC:aR X (binaryOp .Add) (BN X.K):=by
 intro pins s σ H x y v u Q I rx ry h
 obtain⟨a,b,xs,ys,rfl,rfl,ha,hb,hx,hz,q1,q2⟩:=h
 cases rx
 cases ry
 obtain⟨its,r1,p1,_⟩:=I.tuple ha
 obtain⟨dO,r2,p2,_⟩:=I.tuple hb
 refine HT.Jp p1 p2 (fun z=>hx (r1.ui.mp z)) (fun z=> ⟨.ref a,H,I,rfl,q1 (r2.ui.mp z)⟩) (fun z=> ?_) (by rw[←r1.length,←r2.length];exact hz)
 refine⟨.ref s.heap.objs.size,_,I.laid (t':=s.toks) (o:= .tup (xs++ys)) (fun b ob q=>Heap.get?_push_of_some _ q) (Nat.le_refl _) ?_,rfl,q2 (fun w=>z (r2.ui.mpr w)) _ (I.aF.fresh (Nat.le_refl _))⟩
 exact⟨by rw[List.length_append];exact hz,_,r1.append r2,IsTup.new _ _⟩
end
def gm(n:Nat)(i:Int):Option Nat:=if 0≤i then (if i<n then some i.toNat else none) else if -(n:Int)≤i then some (i+n).toNat else none
def ef{α:Type}(xs:List α)(i:Int):Option α:=(gm xs.length i).bind fun j=>xs[j]?
theorem BO{n:Nat}{i:Int}{j:Nat}(h:gm n i=some j):seqIndex? i n=some j∧j<n∧ -(n:Int)≤i∧i<n:=by
 unfold gm at h
 by_cases h0:0≤i
 ·rw[if_pos h0] at h
  by_cases h1:i<n
  ·rw[if_pos h1] at h
   have e:i.toNat=j:=Option.some.inj h
   exact⟨by rw[seqIndex_of h0 h1,e],by omega,by omega,h1⟩
  ·rw[if_neg h1] at h;cases h
 ·rw[if_neg h0] at h
  by_cases h1: -(n:Int)≤i
  ·rw[if_pos h1] at h
   have e:(i+n).toNat=j:=Option.some.inj h
   exact⟨by rw[seqIndex_neg (by omega) h1,e],by omega,h1,by omega⟩
  ·rw[if_neg h1] at h;cases h
theorem uj{α:Type}{xs:List α}{i:Int}{v:α}(h:ef xs i=some v): ∃j,seqIndex? i xs.length=some j∧xs[j]?=some v∧j<xs.length∧ -(xs.length:Int)≤i∧i<xs.length:=by
 unfold ef at h
 cases e:gm xs.length i with
 | none=>rw[e] at h;cases h
 | some j=>
  rw[e] at h
  obtain⟨h1,h2,h3,h4⟩:=BO e
  exact⟨j,h1,h,h2,h3,h4⟩
theorem mH{α:Type}{xs:List α}{j:Nat}{v:α}(h:xs[j]?=some v):ef xs (j:Int)=some v:=by
 have hj:j<xs.length:=(List.getElem?_eq_some_iff.mp h).1
 have e:gm xs.length (j:Int)=some j:=by
  unfold gm
  rw[if_pos (by omega),if_pos (by omega)];simp
 unfold ef;rw[e];exact h
def BP(b:Expr):Prop:= ∀o i,subscripted b false o i=operate [o,i] (getItem o i)
def g5(X:Cx)(r:R2):Prop:=
 ∀(value slice:Expr) (pins:List (Addr×Obj)) (s:Shared) (σ:St) (H:Hp) (x y:V) (v u:Value) (Q:VK),Inv X pins σ H s→RelV x v→RelV y u→r x y H Q→
  subscripted slice false v u=operate [v,u] (getItem v u)→wpAny (model X.prog X.w) X.A (subscriptTail value slice v u) (EP X pins σ Q) X.xe s
def iE(X:Cx)(id:String)(r:V→List V→Hp→VK→Prop):Prop:=
 ∀(pins:List (Addr×Obj)) (s:Shared) (σ:St) (H:Hp) (x:V) (xs:List V) (v:Value) (us:List Value) (Q:VK),Inv X pins σ H s→RelV x v→Vals xs us→r x xs H Q→
  wpAny (model X.prog X.w) X.A (call (.builtin id) (v::us)) (EP X pins σ Q) X.xe s
section
variable {X:Cx} {a b:Expr} {ta tb:TE} {pos:Pos}
theorem g5.or{r r':R2}(h:g5 X r)(h':g5 X r'):g5 X (fun x y H Q=>r x y H Q∨r' x y H Q):=by
 intro value slice pins s σ H x y v u Q I rx ry q hs
 rcases q with q | q
 ·exact h value slice pins s σ H x y v u Q I rx ry q hs
 ·exact h' value slice pins s σ H x y v u Q I rx ry q hs
theorem JD{r:R2}(hr:g5 X r)(ha:PE X a ta)(hb:PE X b tb)(hs:BP b):PE X (.Subscript a b pos) (di r ta tb):=by
 intro pins s σ H Q I h
 exact Subscript_ (t_ ha hb I h fun v u s2 x y H2 I2 rx ry q=>hr a b pins s2 σ H2 x y v u Q I2 rx ry q (hs _ _))
def BQ(K:Frag):R2:=fun x y H Q=> ∃p xs i v,x= .ref p∧y= .int i∧ao K H p xs∧ef xs i=some v∧Q v H
def BR(K:Frag):R2:=fun x y H Q=> ∃p xs i v,x= .ref p∧y= .int i∧aU K H p xs∧ef xs i=some v∧Q v H
def BS:R2:=fun x y H Q=> ∃z i c,x= .str z∧y= .int i∧z.length≤sizeLine∧ef z.cps.toList i=some c∧Q (.str ⟨#[c]⟩) H
theorem JE:g5 X (BQ X.K):=by
 intro value slice pins s σ H x y v u Q I rx ry h hs
 obtain⟨p,xs,i,z,rfl,rfl,hq,he,q⟩:=h
 cases rx
 obtain⟨t,rfl⟩:=ry
 obtain⟨its,r,pl,hz⟩:=I.list hq
 obtain⟨j,h1,h2,h3,h4,h5⟩:=uj he
 obtain⟨w,ew,j3⟩:=r.get h2
 have hl:=r.length
 have hn:=jc
 have fin:EP X pins σ Q w s:=⟨z,H,I,j3,q⟩
 by_cases h0:0≤i
 ·have hj:i.toNat=j:=by
   rw[seqIndex_of h0 h5] at h1
   exact Option.some.inj h1
  exact item_listR pl.isList h0 (by omega) (by rw[hj];simpa using ew) fin hs
 ·have hj:(i+ (its.toArray.size:Int)).toNat=j:=by
   rw[seqIndex_neg (by omega) h4] at h1
   rw[List.size_toArray,←hl]
   exact Option.some.inj h1
  exact subscriptTail_builtinR (x:=w) pl.isList.typeIs slot_list_getitem.lookup
   (wpAny_getItem_list_neg (Q:=fun r s'=>r=w∧EP X pins σ Q r s') pl.isList (by omega) (by rw[List.size_toArray] <;>omega) (by omega) (by rw[hj];simpa using ew) ⟨rfl,fin⟩) hs
theorem JF:g5 X (BR X.K):=by
 intro value slice pins s σ H x y v u Q I rx ry h hs
 obtain⟨p,xs,i,z,rfl,rfl,hq,he,q⟩:=h
 cases rx
 obtain⟨t,rfl⟩:=ry
 obtain⟨its,r,pl,hz⟩:=I.tuple hq
 obtain⟨j,h1,h2,h3,h4,h5⟩:=uj he
 obtain⟨w,ew,j3⟩:=r.get h2
 have hl:=r.length
 have hn:=jc
 have fin:EP X pins σ Q w s:=⟨z,H,I,j3,q⟩
 exact subscriptTail_builtinR (x:=w) pl.typeIs slot_tuple_getitem.lookup
  (getItem_tuple (j:=j) (Q:=fun r s'=>r=w∧EP X pins σ Q r s') pl (by omega) (by omega) (by rw[List.size_toArray,←hl];exact h1) (by simpa using ew) ⟨rfl,fin⟩) hs
theorem JG:g5 X BS:=by
 intro value slice pins s σ H x y v u Q I rx ry h hs
 obtain⟨z,i,c,rfl,rfl,hz,he,q⟩:=h
 obtain⟨t,rfl⟩:=rx
 obtain⟨t',rfl⟩:=ry
 obtain⟨j,h1,h2,h3,h4,h5⟩:=uj he
 have hl:z.cps.toList.length=z.length:=by simp[Str.length]
 rw[hl] at h1 h4 h5
 have hn:=jc
 exact tail_any (typeIs_str s z t) slot_str_getitem.lookup (getItem_str (c:=c) (by
  have e1:decide (i< -(2 ^ 63:Int))=false:=decide_eq_false (by omega)
  have e2:decide (i≥2 ^ 63)=false:=decide_eq_false (by omega)
  rw[e1,e2,Bool.or_false]) (by rw[h1];simpa using h2) ⟨.str ⟨#[c]⟩,H,I.tok _,⟨_,rfl⟩,q⟩) hs
theorem JH(its:List Value)(n j:Nat)(u:Value):Obj.mapSeq (·.setIfInBounds j u) {cls:= .type "list",data:= .seq its.toArray n}={cls:= .type "list",data:= .seq (its.set j u).toArray n}:=by
 simp[Obj.mapSeq]
theorem Inv.lst{pins:List (Addr×Obj)}{σ:St}{H:Hp}{s:Shared}{p:Addr}{xs:List V}(I:Inv X pins σ H s)(h:H p=some (.lst xs)):
  ∃(its:List Value) (n:Nat),Vals xs its∧s.heap.get? p=some {cls:= .type "list",data:= .seq its.toArray n}∧xs.length≤sizeLine:=by
 obtain⟨z,its,n,r,e⟩:=I.aF p _ h
 exact⟨its,n,r,e,z⟩
theorem Inv.JI{pins:List (Addr×Obj)}{σ:St}{H:Hp}{s:Shared}{p:Addr}{xs ys:List V}{its d_:List Value}{n n':Nat}{f:Obj→Obj}(I:Inv X pins σ H s)(h:H p=some (.lst xs))
  (ho:s.heap.get? p=some {cls:= .type "list",data:= .seq its.toArray n}) (hf:f {cls:= .type "list",data:= .seq its.toArray n}={cls:= .type "list",data:= .seq d_.toArray n'}) (r:Vals ys d_) (hz:ys.length≤sizeLine) (t:Nat):
  Inv X pins σ (upd H p (.lst ys)) {s with heap:=s.heap.update p f,toks:=t}:=by
 have e:(s.heap.update p f).get? p=some {cls:= .type "list",data:= .seq d_.toArray n'}:=by
  rw[Heap.get?_update_self f ho (by rw[hf] <;>rfl),hf]
 refine I.write (x:=p) (e:=p) (by rw[h];trivial) (.inl rfl) (fun b u hb q=> (Heap.get?_update_other _ _ (Ne.symm hb)).trans q) ⟨_,e⟩ ?_
 exact⟨hz,d_,n',r,e⟩
def uk:V→V→V→Hp→(Hp→Prop)→Prop:=fun o i v H Q=> ∃p xs k j,o= .ref p∧i= .int k∧H p=some (.lst xs)∧gm xs.length k=some j∧Q (upd H p (.lst (xs.set j v)))
theorem set_list:Ba X uk:=by
 intro pins s σ H o i v ov iv u Q I ro ri rv h
 obtain⟨p,xs,k,j,rfl,rfl,hp,hj,q⟩:=h
 cases ro
 obtain⟨t,rfl⟩:=ri
 obtain⟨its,n,r,ho,hz⟩:=I.lst hp
 obtain⟨h1,h2,h3,h4⟩:=BO hj
 have hl:=r.length
 have hn:=jc
 have I':Inv X pins σ (upd H p (.lst (xs.set j v))) {s with heap:=s.heap.update p (Obj.mapSeq (·.setIfInBounds j u))}:=
  I.JI hp ho (JH its n j u) (r.set rv j) (by rw[List.length_set];exact hz) s.toks
 by_cases h0:0≤k
 ·have hk:k.toNat=j:=by
   rw[seqIndex_of h0 h4] at h1
   exact Option.some.inj h1
  exact PySem.W.ki_setAt ho h0 (by omega) (by rw[List.size_toArray,←hl];exact h4) (by rw[hk];exact⟨_,I',q⟩)
 ·have hk:(k+ (its.toArray.size:Int)).toNat=j:=by
   rw[seqIndex_neg (by omega) h3] at h1
   rw[List.size_toArray,←hl]
   exact Option.some.inj h1
  exact PySem.W.ki_setBack ho (by omega) (by rw[List.size_toArray,←hl];exact h3) (by omega) (by rw[hk];exact⟨_,I',q⟩)
theorem um(lo hi:Option Int)(n:Nat):(sliceBounds lo hi none n).1=((HT.aP n 0 lo:Nat):Int)∧(sliceBounds lo hi none n).2.1=((HT.aP n n hi:Nat):Int)∧(sliceBounds lo hi none n).2.2=1:=by
 refine⟨?_, ?_,rfl⟩
 ·cases lo with
  | none=>simp[sliceBounds,HT.aP]
  | some i=>
   simp only[sliceBounds,HT.aP,Option.getD_none,show(1:Int) >0 by decide,if_true]
   by_cases h:i<0
   ·simp only[h,if_true] <;>omega
   ·simp only[h,if_false] <;>omega
 ·cases hi with
  | none=>simp[sliceBounds,HT.aP]
  | some i=>
   simp only[sliceBounds,HT.aP,Option.getD_none,show(1:Int) >0 by decide,if_true]
   by_cases h:i<0
   ·simp only[h,if_true] <;>omega
   ·simp only[h,if_false] <;>omega
theorem JJ(its:List Value)(lo hi:Option Int):slicePick its.toArray lo hi none=((its.drop (HT.aP its.length 0 lo)).take (HT.aP its.length its.length hi - HT.aP its.length 0 lo)).toArray:=by
 obtain⟨h1,h2,h3⟩:=um lo hi its.toArray.size
 unfold slicePick
 rw[h1,h2,h3]
 simp only[sliceRange_one,pick_run,List.size_toArray] <;>rfl
def JK(K:Frag):V→Option Int→Option Int→Hp→VK→Prop:=fun x lo hi H Q=> ∃a xs,x= .ref a∧ao K H a xs∧ ∀p,H p=none→Q (.ref p) (upd H p (.lst (cz xs lo hi)))
theorem JL:qR X (JK X.K):=by
 intro pins s σ H x v vl vu lo hi sl Q I rx hs pl pu h
 obtain⟨a,xs,rfl,hx,q⟩:=h
 cases rx
 obtain⟨its,r,ht,hz⟩:=I.list hx
 have hlen:=r.length
 refine⟨"list",_,slot_list_getitem.lookup,ht.isList.typeIs, ?_⟩
 refine wpAny_getItem_list_slice ht.isList hs pl pu .none (by simp) ?_ (by rw[List.size_toArray] <;>omega)
 rw[JJ,←hlen]
 refine⟨.ref s.heap.objs.size,_,I.laid (t':=s.toks) (o:= .lst (cz xs lo hi)) (fun b ob q=>Heap.get?_push_of_some _ q) (Nat.le_refl _) ?_,rfl,q _ (I.aF.fresh (Nat.le_refl _))⟩
 exact⟨Nat.le_trans (BM xs lo hi) hz,_,0,(r.drop (HT.aP xs.length 0 lo)).take (HT.aP xs.length xs.length hi - HT.aP xs.length 0 lo),Heap.get?_push_size _ rfl⟩
def dC:V→Bool
 | .ai=>true
 | .bl _=>true
 | .int _=>true
 | .str _=>true
 | _=>false
def dD:V→V→Bool
 | .ai, .ai=>true
 | .bl a, .bl b=>a==b
 | .bl a, .int b=> (if a then 1 else 0)==b
 | .int a, .bl b=>a==(if b then 1 else 0)
 | .int a, .int b=>a==b
 | .str a, .str b=>a==b
 | _,_=>false
theorem JM{A:Around}{s:Shared}{y x:V}{u v:Value}(ry:RelV y u)(rx:RelV x v)(fy:dC y=true)(fx:dC x=true):SeqAt.EqAt A s u v (dD y x):=by
 cases y with
 | ai=>
  cases ry
  cases x with
  | ai=>cases rx;exact SeqAt.EqAt.same _
  | bl b=>cases rx;exact SeqAt.EqAt.none_bool b
  | int b=>obtain⟨t,rfl⟩:=rx;exact SeqAt.EqAt.none_int b t
  | str b=>obtain⟨t,rfl⟩:=rx;exact SeqAt.EqAt.none_str b t
  | _=>exact absurd (show false=true from fx) Bool.false_ne_true
 | bl a=>
  cases ry
  cases x with
  | ai=>cases rx;exact SeqAt.EqAt.bool_none a
  | bl b=>cases rx;exact SeqAt.EqAt.bool_bool a b
  | int b=>obtain⟨t,rfl⟩:=rx;exact SeqAt.EqAt.bool_int a b t
  | str b=>obtain⟨t,rfl⟩:=rx;exact SeqAt.EqAt.bool_str a b t
  | _=>exact absurd (show false=true from fx) Bool.false_ne_true
 | int a=>
  obtain⟨t',rfl⟩:=ry
  cases x with
  | ai=>cases rx;exact SeqAt.EqAt.int_none a t'
  | bl b=>cases rx;exact SeqAt.EqAt.int_bool a t' b
  | int b=>obtain⟨t,rfl⟩:=rx;exact SeqAt.EqAt.int_int a t' b t
  | str b=>obtain⟨t,rfl⟩:=rx;exact SeqAt.EqAt.int_str a t' b t
  | _=>exact absurd (show false=true from fx) Bool.false_ne_true
 | str a=>
  obtain⟨t',rfl⟩:=ry
  cases x with
  | ai=>cases rx;exact SeqAt.EqAt.str_none a t'
  | bl b=>cases rx;exact SeqAt.EqAt.str_bool a t' b
  | int b=>obtain⟨t,rfl⟩:=rx;exact SeqAt.EqAt.str_int a t' b t
  | str b=>obtain⟨t,rfl⟩:=rx;exact SeqAt.EqAt.str_str a t' b t
  | _=>exact absurd (show false=true from fx) Bool.false_ne_true
 | _=>exact absurd (show false=true from fy) Bool.false_ne_true
def cY(x:V)(u:Value):Bool:=match u with
 | .none=>dD .ai x
 | .bool b=>dD (.bl b) x
 | .int i _=>dD (.int i) x
 | .str z _=>dD (.str z) x
 | _=>false
theorem qS{x y:V}{u:Value}(r:RelV y u)(f:dC y=true):cY x u=dD y x:=by
 cases y with
 | ai=>cases r;rfl
 | bl b=>cases r;rfl
 | int i=>obtain⟨t,rfl⟩:=r;rfl
 | str z=>obtain⟨t,rfl⟩:=r;rfl
 | _=>exact absurd (show false=true from f) Bool.false_ne_true
theorem nV{x:V}: ∀{xs:List V} {us:List Value},Vals xs us→xs.all dC=true→us.any (cY x)=xs.any fun y=>dD y x
 | _,_, .nil,_=>rfl
 | y::xs,u::us, .cons r t,f=>by
  rw[List.all_cons,Bool.and_eq_true] at f
  rw[List.any_cons,List.any_cons,qS r f.1,nV t f.2]
theorem j4{A:Around}{s:Shared}{x:V}{v:Value}(rx:RelV x v)(fx:dC x=true): ∀{xs:List V} {us:List Value},Vals xs us→xs.all dC=true→ ∀u∈us,SeqAt.EqAt A s u v (cY x u)
 | _,_, .nil,_=>fun u hu=>by cases hu
 | y::xs,u::us, .cons r t,f=>fun u' hu=>by
  rw[List.all_cons,Bool.and_eq_true] at f
  rcases List.mem_cons.mp hu with rfl | hu
  ·rw[qS r f.1];exact JM r rx f.1 fx
  ·exact j4 rx fx t f.2 u' hu
def qT(x:V)(xs:List V):Bool:=xs.any fun y=>dD y x
def uo(K:Frag)(neg:Bool):R2:=fun x y H Q=> ∃p xs,y= .ref p∧(ao K H p xs∨aU K H p xs)∧dC x=true∧xs.all dC=true∧Q (.bl (if neg then !qT x xs else qT x xs)) H
theorem JN:aR X (compareOp .In) (uo X.K false):=by
 intro pins s σ H x y v u Q I rx ry h
 obtain⟨p,xs,rfl,hq,fx,fs,q⟩:=h
 cases ry
 rcases hq with hq | hq
 ·obtain⟨its,r,pl,hz⟩:=I.list hq
  refine SeqAt.in_listAt (cY x) pl.isList (fun w hw=>j4 rx fx r fs w (by simpa using hw)) ⟨.bl _,H,I,rfl, ?_⟩
  rw[show its.toArray.any (cY x)=its.any (cY x) by simp,nV r fs]
  exact q
 ·obtain⟨its,r,pl,hz⟩:=I.tuple hq
  refine SeqAt.in_tupleAt (cY x) pl (fun w hw=>j4 rx fx r fs w (by simpa using hw)) ⟨.bl _,H,I,rfl, ?_⟩
  rw[show its.toArray.any (cY x)=its.any (cY x) by simp,nV r fs]
  exact q
theorem JO:aR X (compareOp .NotIn) (uo X.K true):=by
 intro pins s σ H x y v u Q I rx ry h
 obtain⟨p,xs,rfl,hq,fx,fs,q⟩:=h
 cases ry
 rcases hq with hq | hq
 ·obtain⟨its,r,pl,hz⟩:=I.list hq
  refine SeqAt.notIn_listAt (cY x) pl.isList (fun w hw=>j4 rx fx r fs w (by simpa using hw)) ⟨.bl _,H,I,rfl, ?_⟩
  rw[show its.toArray.any (cY x)=its.any (cY x) by simp,nV r fs]
  exact q
 ·obtain⟨its,r,pl,hz⟩:=I.tuple hq
  refine SeqAt.notIn_tupleAt (cY x) pl (fun w hw=>j4 rx fx r fs w (by simpa using hw)) ⟨.bl _,H,I,rfl, ?_⟩
  rw[show its.toArray.any (cY x)=its.any (cY x) by simp,nV r fs]
  exact q
theorem bA.or{f:Value}{r r':List V→Hp→VK→Prop}(h:bA X f r)(h':bA X f r'):bA X f (fun xs H Q=>r xs H Q∨r' xs H Q):=by
 intro pins s σ H xs us Q I rs q
 rcases q with q | q
 ·exact h pins s σ H xs us Q I rs q
 ·exact h' pins s σ H xs us Q I rs q
theorem JP:bA X (.type "list") (fun xs H Q=> ∃p ys,xs=[.ref p]∧(ao X.K H p ys∨aU X.K H p ys)∧ ∀l,H l=none→Q (.ref l) (upd H l (.lst ys))):=by
 intro pins s σ H xs us Q I r h
 obtain⟨p,ys,rfl,hq,q⟩:=h
 obtain⟨u,rfl,rx⟩:=vals1 r
 cases rx
 have fin: ∀(its:List Value),Vals ys its→ys.length≤sizeLine→ ∀(h':Heap) (c':Nat),(∀b o',s.heap.get? b=some o'→h'.get? b=some o')→
   h'.get? s.heap.objs.size=some {cls:= .type "list",dict:=none,data:= .seq its.toArray c',slots:= #[]}→EP X pins σ Q (.ref s.heap.objs.size) {s with heap:=h'}:=fun its r' hz h' c' kp e=>
  ⟨.ref s.heap.objs.size,_,I.laid (t':=s.toks) kp (Nat.le_refl _) (show bV X.prog X.w _ h' _ (.lst ys) from⟨hz,its,c',r',e⟩),rfl,q _ (I.aF.fresh (Nat.le_refl _))⟩
 rcases hq with hq | hq
 ·obtain⟨its,r',pl,hz⟩:=I.list hq
  have hlen:=r'.length
  obtain⟨o,ho,hc,n,hd⟩:=pl.isList
  exact call_list_seq p (.inl rfl) ho hc hd (fun h' c' kp e=>fin its r' hz h' c' kp e) (by simp only[List.size_toArray] <;>omega)
 ·obtain⟨its,r',pl,hz⟩:=I.tuple hq
  have hlen:=r'.length
  obtain⟨o,ho,hc,n,hd⟩:=pl
  exact call_list_seq p (.inr rfl) ho hc hd (fun h' c' kp e=>fin its r' hz h' c' kp e) (by simp only[List.size_toArray] <;>omega)
theorem JQ:bA X (.type "tuple") (fun xs H Q=> ∃p ys,xs=[.ref p]∧((ao X.K H p ys∧ ∀l,H l=none→Q (.ref l) (upd H l (.tup ys)))∨(aU X.K H p ys∧Q (.ref p) H))):=by
 intro pins s σ H xs us Q I r h
 obtain⟨p,ys,rfl,h⟩:=h
 obtain⟨u,rfl,rx⟩:=vals1 r
 cases rx
 rcases h with⟨hq,q⟩ | ⟨hq,q⟩
 ·obtain⟨its,r',pl,hz⟩:=I.list hq
  have hlen:=r'.length
  refine call_tuple_list pl.isList (fun h' kp=> ?_) (by simp only[List.size_toArray] <;>omega)
  have I1:Inv X pins σ H {s with heap:=h'}:=I.kept (t':=s.toks) kp
  have I2:Inv X pins σ (upd H h'.objs.size (.tup ys)) {s with heap:=h'.push {cls:= .type "tuple",data:= .seq its.toArray}}:=
   I1.laid (t':=s.toks) (fun b o e=>Heap.get?_push_of_some _ e) (Nat.le_refl _) (show bV X.prog X.w _ _ _ (.tup ys) from⟨hz,its,r',IsTup.new _ _⟩)
  exact⟨.ref h'.objs.size,_,I2,rfl,q _ (I1.aF.fresh (Nat.le_refl _))⟩
 ·obtain⟨its,r',pl,hz⟩:=I.tuple hq
  exact call_tuple_same pl ⟨.ref p,H,I,rfl,q⟩
def nW(K:Frag)(T:String)(x:V)(H:Hp):Prop:=match x with
 | .str _=>T="str"
 | .int _=>T="int"
 | .ref p=> (T="list"∧ ∃xs,ao K H p xs)∨(T="tuple"∧ ∃o,K.lookup p=some o∧o.cls= .type "tuple"∧o.dict=none)∨
   (T="dict"∧((∃aH,H p=some (.dK aH))∨ ∃aH,H p=some (.dT aH)))∨(T="set"∧ ∃S n,H p=some (.set S n))
 | _=>False
theorem BU{pins:List (Addr×Obj)}{σ:St}{H:Hp}{s:Shared}{T:String}{x:V}{v:Value}(I:Inv X pins σ H s)(r:RelV x v)(ty:nW X.K T x H):
  s.TypeIs v T∧ ∀a,v= .ref a→ ∃ob,s.heap.get? a=some ob∧ob.dict=none:=by
 cases x with
 | str z=>
  obtain⟨t,rfl⟩:=r
  cases (show T="str" from ty)
  exact⟨typeIs_str s z t,fun _ e=>nomatch e⟩
 | int i=>
  obtain⟨t,rfl⟩:=r
  cases (show T="int" from ty)
  exact⟨typeIs_int s i t,fun _ e=>nomatch e⟩
 | ref p=>
  cases r
  rcases ty with⟨rfl,xs,hq⟩ | ⟨rfl,o,hk,hc,hd⟩ | ⟨rfl,hk⟩ | ⟨rfl,S,n,hk⟩
  ·obtain⟨its,_,pl,_⟩:=I.list hq
   refine⟨pl.isList.typeIs,fun a e=> ?_⟩
   cases e
   obtain⟨o,n,e,c,hd,_⟩:=pl
   exact⟨o,e,hd⟩
  ·refine⟨⟨o,I.cQ p o hk,hc⟩,fun a e=> ?_⟩
   cases e
   exact⟨o,I.cQ _ o hk,hd⟩
  ·have z: ∃o,s.heap.get? p=some o∧o.ExactDict:=by
    rcases hk with⟨aH,hk⟩ | ⟨aH,hk⟩
    ·obtain⟨_,_,_,_,o,_,_,e,ex,_⟩:=I.aF p _ hk
     exact⟨o,e,ex⟩
    ·obtain⟨_,_,_,_,o,_,_,e,ex,_⟩:=I.aF p _ hk
     exact⟨o,e,ex⟩
   obtain⟨o,e,ex⟩:=z
   refine⟨⟨o,e,ex.1⟩,fun a e2=> ?_⟩
   cases e2
   exact⟨o,e,ex.2.1⟩
  ·obtain⟨o,_,_,_,e,ex,_⟩:=I.aF p _ hk
   refine⟨⟨o,e,ex.1⟩,fun a e2=> ?_⟩
   cases e2
   exact⟨o,e,ex.2.1⟩
 | _=>exact False.elim ty
def JR(K:Frag)(T:String)(r:V→List V→Hp→VK→Prop)(to:TE):TE:=fun σ H Q=>to σ H fun x H1=>nW K T x H1∧r x [] H1 Q
def JS(K:Frag)(T:String)(r:V→List V→Hp→VK→Prop)(to:TE)(t:TA):TE:=fun σ H Q=>to σ H fun x H1=>nW K T x H1∧t σ H1 fun xs H2=>r x xs H2 Q
variable {o e:Expr} {es:List Expr} {to:TE} {t:TA} {name:Str} {apos cA:Pos} {T id:String} {r:V→List V→Hp→VK→Prop}
theorem JT(pa:PlainAttrs T)(slot:Slot T name id)(uq:typeOf (.builtin id)=pure (.type "method_descriptor"))(hm:iE X id r)(ho:PE X o to)
  (ur:attributeBase o name X.env (eval o X.env)=eval o X.env:=by rfl) (uu:(apos.endLine==cA.line)=true:=by rfl):PE X (.Call (.Attribute o name apos) [] [] cA) (JR X.K T r to):=by
 intro pins s σ H Q I h
 refine wpAny_Call_method0_late ur uu (aL (ho pins s σ H _ I h) fun v s1 ⟨x,H1,I1,r1,ty,q1⟩=> ?_)
 obtain⟨h1,h2⟩:=BU I1 r1 ty
 exact⟨T,id,pa,slot,uq,h1,h2,Calls.callWith_builtin rfl (PySem.evalArgs_none (hm pins s1 σ H1 x [] v [] Q I1 r1 .nil q1))⟩
theorem JU(pa:PlainAttrs T)(slot:Slot T name id)(uq:typeOf (.builtin id)=pure (.type "method_descriptor"))(hm:iE X id r)(ho:PE X o to)(ha:PA X (e::es) t)
  (ur:attributeBase o name X.env (eval o X.env)=eval o X.env:=by rfl)
  (JV:((backTo cA (starEach (e::es) X.env)).all (fun x=> !x.1) && (backToKw cA (keywordEach [] X.env)).all (fun x=>x.1.isSome)
   && decide ((e::es).length+ ([]:List Keyword).length+ (if ([]:List Keyword).isEmpty then 0 else 1) <30))=true:=by rfl)
  (uu:(apos.endLine==cA.line)=true:=by rfl) (hs:starEach (e::es) X.env=(false,eval e X.env)::starEach es X.env:=by rfl) (JW:(backTo cA (starEach es X.env)).any (·.1)=false:=by rfl):
  PE X (.Call (.Attribute o name apos) (e::es) [] cA) (JS X.K T r to t):=by
 intro pins s σ H Q I h
 refine wpAny_Call_method_late ur JV uu rfl (aL (ho pins s σ H _ I h) fun v s1 ⟨x,H1,I1,r1,ty,q1⟩=> ?_)
 obtain⟨h1,h2⟩:=BU I1 r1 ty
 refine⟨T,id,pa,slot,uq,h1,h2, ?_⟩
 have hA:=ha cA pins s1 σ H1 _ I1 q1
 rw[hs] at hA⊢
 refine Calls.callWith_builtin (by show(false || (backTo cA (starEach es X.env)).any (·.1))=false;rw[JW] <;>rfl) (Calls.evalArgs_plain ?_)
 exact aL hA fun us s2 ⟨vs,H2,I2,r2,q2⟩=>hm pins s2 σ H2 x vs v us Q I2 r1 r2 q2
end
def nX(X:Cx)(id:String)(r:V→List V→Hp→VK→Prop):Prop:=
 ∀(pins:List (Addr×Obj)) (s:Shared) (σ:St) (H:Hp) (x:V) (xs:List V) (v:Value) (us:List Value) (Q:VK),Inv X pins σ H s→RelV x v→Vals xs us→r x xs H Q→
  wpAny (model X.prog X.w) X.A (call (.builtin id) (v::us)) (EP X pins σ Q) X.xe s
theorem Vals.one: ∀{x:V} {us:List Value},Vals [x] us→ ∃u,us=[u]∧RelV x u
 | _,_, .cons r .nil=> ⟨_,rfl,r⟩
theorem Vals.zero: ∀{us:List Value},Vals [] us→us=[]
 | _, .nil=>rfl
theorem Vals.dropLast{xs:List V}{us:List Value}(h:Vals xs us):Vals xs.dropLast us.dropLast:=by
 induction h with
 | nil=>exact .nil
 | cons r t ih=>
  cases t with
  | nil=>exact .nil
  | cons q t'=>exact .cons r ih
theorem Vals.reverse{xs:List V}{us:List Value}(h:Vals xs us):Vals xs.reverse us.reverse:=by
 induction h with
 | nil=>exact .nil
 | cons r t ih=>rw[List.reverse_cons,List.reverse_cons];exact Vals.append ih (.cons r .nil)
theorem Vals.rep{xs:List V}{us:List Value}(h:Vals xs us): ∀k:Nat,Vals (List.replicate k xs).flatten (List.replicate k us).flatten
 | 0=> .nil
 | k+1=>by
  rw[List.replicate_succ,List.replicate_succ,List.flatten_cons,List.flatten_cons]
  exact Vals.append h (Vals.rep h k)
theorem JX{α:Type}(l:List α):l.eraseIdx (l.length - 1)=l.dropLast:=by
 induction l with
 | nil=>rfl
 | cons a r ih=>
  cases r with
  | nil=>rfl
  | cons b r=>
   have e:(a::b::r).length - 1=((b::r).length - 1)+1:=by
    have h1:(a::b::r).length=r.length+2:=rfl
    have h2:(b::r).length=r.length+1:=rfl
    omega
   rw[e,List.eraseIdx_cons_succ,ih]
   all_goals rfl
theorem foldl_rep(its:List Value): ∀(k:Nat) (acc:List Value),
  List.foldl (fun x1 x2=>x1++x2) acc.toArray (List.replicate k its.toArray)=(acc++ (List.replicate k its).flatten).toArray
 | 0,acc=>by simp
 | k+1,acc=>by
  have e:acc.toArray++its.toArray=(acc++its).toArray:=by simp
  have e2:(acc++its)++ (List.replicate k its).flatten=acc++ (List.replicate (k+1) its).flatten:=by
   rw[List.replicate_succ,List.flatten_cons,List.append_assoc]
  rw[←e2,←foldl_rep its k (acc++its),←e,List.replicate_succ,List.foldl_cons]
section
variable {X:Cx} {pins:List (Addr×Obj)} {σ:St} {H:Hp} {s:Shared} {l b:Addr} {xs ys zs:List V}
theorem Inv.nY{its d_:List Value}{n:Nat}{f:Array Value→Array Value}{t':Nat}(I:Inv X pins σ H s)(hH:H l=some (.lst xs))
  (e:s.heap.get? l=some {cls:= .type "list",data:= .seq its.toArray n}) (hf:f its.toArray=d_.toArray) (hv:Vals ys d_) (hz:ys.length≤sizeLine):
  Inv X pins σ (upd H l (.lst ys)) {s with heap:=s.heap.update l (Obj.mapSeq f),toks:=t'}:=by
 have q:=PySem.IsL.update e f
 rw[hf] at q
 refine I.write (x:=l) (e:=l) (by rw[hH];exact trivial) (.inl rfl) (fun b' u hb hu=> (Heap.get?_update_other s.heap (Obj.mapSeq f) (Ne.symm hb)).trans hu) ⟨_,q⟩ ?_
 exact⟨hz,d_,_,hv,q⟩
theorem Inv.BV{its:List Value}{t':Nat}(I:Inv X pins σ H s)(hv:Vals ys its)(hz:ys.length≤sizeLine):
  Inv X pins σ (upd H s.heap.objs.size (.lst ys)) {s with heap:=s.heap.push {cls:= .type "list",data:= .seq its.toArray},toks:=t'}:=
 I.laid (fun _ _ q=>Heap.get?_push_of_some _ q) (Nat.le_refl _) ⟨hz,its,0,hv,Heap.get?_push_size _ rfl⟩
theorem Inv.fresh(I:Inv X pins σ H s):H s.heap.objs.size=none:=I.aF.fresh (Nat.le_refl _)
theorem Inv.iG(I:Inv X pins σ H s)(hH:H l=some (.lst xs)):xs.length≤sizeLine∧ ∃(its:List Value) (n:Nat),Vals xs its∧xs.length=its.length∧s.heap.get? l=some {cls:= .type "list",data:= .seq its.toArray n}:=by
 obtain⟨z,its,n,r,e⟩:=I.aF l _ hH
 exact⟨z,its,n,r,r.length,e⟩
theorem BW{n:Nat}(h:n≤sizeLine):Builtin.List.listTooLong n=false:=by
 unfold Builtin.List.listTooLong
 exact decide_eq_false (by omega)
end
section
variable {X:Cx}
def JY:V→List V→Hp→VK→Prop:=fun x vs H Q=> ∃l xs y,x= .ref l∧vs=[y]∧H l=some (.lst xs)∧xs.length<sizeLine∧Q .ai (upd H l (.lst (xs++ [y])))
theorem JZ:nX X "list.append" JY:=by
 intro pins s σ H x vs v us Q I rx rv h
 obtain⟨l,xs,y,rfl,rfl,hH,hz,q⟩:=h
 cases rx
 obtain⟨u,rfl,ru⟩:=rv.one
 obtain⟨z,its,n,r,hl,e⟩:=I.iG hH
 refine call_meets F.slot_list_append ⟨_,e,rfl⟩ F.entry_list_append (F.args_list_append_2 _ _) (PySem.list_append l its.toArray n u (by rw[List.size_toArray];omega)) ⟨e, ?_⟩
 refine⟨.ai,_,I.nY (d_:=its++ [u]) hH e (by simp) (r.append (.cons ru .nil)) ?_,rfl,q⟩
 rw[List.length_append,List.length_singleton]
 omega
def J0:V→List V→Hp→VK→Prop:=fun x vs H Q=> ∃l b xs zs,x= .ref l∧vs=[.ref b]∧H l=some (.lst xs)∧H b=some (.lst zs)∧xs.length+zs.length≤sizeLine∧Q .ai (upd H l (.lst (xs++zs)))
theorem J3:nX X "list.extend" J0:=by
 intro pins s σ H x vs v us Q I rx rv h
 obtain⟨l,b,xs,zs,rfl,rfl,hH,hB,hz,q⟩:=h
 cases rx
 obtain⟨u,rfl,ru⟩:=rv.one
 cases ru
 obtain⟨z,its,n,r,hl,e⟩:=I.iG hH
 obtain⟨z2,dO,n2,r2,jh,e2⟩:=I.iG hB
 have iD:its.toArray.size+dO.toArray.size≤sizeLine:=by rw[List.size_toArray,List.size_toArray];omega
 have uv: ¬(!its.toArray.isEmpty && Builtin.List.listTooLong (its.toArray.size+dO.toArray.size))=true:=by
  rw[BW iD,Bool.and_false]
  exact Bool.false_ne_true
 refine call_meets F.slot_list_extend ⟨_,e,rfl⟩ F.entry_list_extend (F.args_list_extend_2 _ _)
  (AutoSeq1.list_extend_list_list_0 l its.toArray n b dO.toArray n2 uv (by rw[List.size_toArray];omega) (by omega)) ⟨e,e2, ?_⟩
 refine⟨.ai,_,I.nY (d_:=its++dO) hH e (by simp) (r.append r2) ?_,rfl,q⟩
 rw[List.length_append]
 omega
def J4:V→List V→Hp→VK→Prop:=fun x vs H Q=> ∃l xs y,x= .ref l∧vs=[]∧H l=some (.lst xs)∧xs[xs.length - 1]?=some y∧Q y (upd H l (.lst xs.dropLast))
theorem J5:nX X "list.pop" J4:=by
 intro pins s σ H x vs v us Q I rx rv h
 obtain⟨l,xs,y,rfl,rfl,hH,hy,q⟩:=h
 cases rx
 have nZ:=rv.zero
 subst nZ
 obtain⟨z,its,n,r,hl,e⟩:=I.iG hH
 obtain⟨u,hu,ru⟩:=r.get hy
 have uw:its.toArray[its.toArray.size - 1]?=some u:=by
  show its.toArray[its.length - 1]?=some u
  rw[←Array.getElem?_toList,←hl]
  exact hu
 refine call_meets F.slot_list_pop ⟨_,e,rfl⟩ F.entry_list_pop (F.args_list_pop_1 _) (MeetsSeq.list_pop_last l its.toArray n u uw (by rw[List.size_toArray];omega)) ⟨e, ?_⟩
 refine⟨y,_,I.nY (d_:=its.dropLast) hH e ?_ r.dropLast ?_,ru,q⟩
 ·show its.toArray.eraseIdxIfInBounds (its.toArray.size - 1)=its.dropLast.toArray
  rw[List.size_toArray,List.eraseIdxIfInBounds_toArray,JX]
 ·rw[List.length_dropLast]
  omega
def J6:V→List V→Hp→VK→Prop:=fun x vs H Q=> ∃l xs,x= .ref l∧vs=[]∧H l=some (.lst xs)∧Q .ai (upd H l (.lst xs.reverse))
theorem J7:nX X "list.reverse" J6:=by
 intro pins s σ H x vs v us Q I rx rv h
 obtain⟨l,xs,rfl,rfl,hH,q⟩:=h
 cases rx
 have nZ:=rv.zero
 subst nZ
 obtain⟨z,its,n,r,hl,e⟩:=I.iG hH
 refine call_meets F.slot_list_reverse ⟨_,e,rfl⟩ F.entry_list_reverse (F.args_list_reverse_1 _) (AutoSeq1.list_reverse_list_0 l its.toArray n (by rw[List.size_toArray];omega)) ⟨e, ?_⟩
 refine⟨.ai,_,I.nY (d_:=its.reverse) hH e (by simp) r.reverse ?_,rfl,q⟩
 rw[List.length_reverse]
 omega
def J8:V→List V→Hp→VK→Prop:=fun x vs H Q=> ∃l xs,x= .ref l∧vs=[]∧H l=some (.lst xs)∧Q .ai (upd H l (.lst []))
theorem J9:nX X "list.clear" J8:=by
 intro pins s σ H x vs v us Q I rx rv h
 obtain⟨l,xs,rfl,rfl,hH,q⟩:=h
 cases rx
 have nZ:=rv.zero
 subst nZ
 obtain⟨z,its,n,r,hl,e⟩:=I.iG hH
 refine call_meets F.slot_list_clear ⟨_,e,rfl⟩ F.entry_list_clear (F.args_list_clear_1 _) (AutoSeq1.list_clear_list_0 l its.toArray n (by rw[List.size_toArray];omega)) ⟨e, ?_⟩
 exact⟨.ai,_,I.nY (d_:=[]) (ys:=[]) hH e rfl .nil (Nat.zero_le _),rfl,q⟩
def BX:R2:=fun x y H Q=> ∃l b xs zs,x= .ref l∧y= .ref b∧H l=some (.lst xs)∧H b=some (.lst zs)∧xs.length+zs.length≤sizeLine∧ ∀p,H p=none→Q (.ref p) (upd H p (.lst (xs++zs)))
theorem J_:aR X (binaryOp .Add) BX:=by
 intro pins s σ H x y v u Q I rx ry h
 obtain⟨l,b,xs,zs,rfl,rfl,hH,hB,hz,q⟩:=h
 cases rx
 cases ry
 obtain⟨z,its,n,r,hl,e⟩:=I.iG hH
 obtain⟨z2,dO,n2,r2,jh,e2⟩:=I.iG hB
 refine PySem.P.add_list e e2 ?_ (by rw[List.size_toArray,List.size_toArray];omega)
 have ea:its.toArray++dO.toArray=(its++dO).toArray:=by simp
 rw[ea]
 exact⟨.ref _,_,I.BV (t':=s.toks) (r.append r2) (by rw[List.length_append];omega),rfl,q _ I.fresh⟩
def BY:R2:=fun x y H Q=> ∃l k xs,x= .ref l∧y= .int k∧H l=some (.lst xs)∧ -(2 ^ 63)≤k∧k<2 ^ 63∧xs.length*k.toNat≤sizeLine∧
 ∀p,H p=none→Q (.ref p) (upd H p (.lst (List.replicate k.toNat xs).flatten))
theorem len_rep{α:Type}(xs:List α)(k:Nat):(List.replicate k xs).flatten.length=k*xs.length:=by
 induction k with
 | zero=>simp
 | succ k ih=>rw[List.replicate_succ,List.flatten_cons,List.length_append,ih,Nat.succ_mul,Nat.add_comm]
theorem Ka:aR X (binaryOp .Mult) BY:=by
 intro pins s σ H x y v u Q I rx ry h
 obtain⟨l,k,xs,rfl,rfl,hH,h1,h2,hz,q⟩:=h
 cases rx
 obtain⟨t,rfl⟩:=ry
 obtain⟨z,its,n,r,hl,e⟩:=I.iG hH
 have hlen:its.toArray.size*k.toNat≤sizeLine:=by rw[List.size_toArray,←hl];exact hz
 have Kb: ¬its.toArray.size*k.toNat> (2 ^ 63 - 1) / 8:=by
  have:(sizeLine:Nat)≤ (2 ^ 63 - 1) / 8:=by decide
  omega
 have Kc: ¬(!Builtin.List.listFitsIndex k)=true:=by
  rw[fitsIndex_both h1 h2]
  exact Bool.false_ne_true
 have uv: ¬Builtin.List.listTooLong (its.toArray.size*k.toNat)=true:=by
  rw[BW hlen]
  exact Bool.false_ne_true
 have Kd:List.foldl (fun x1 x2=>x1++x2) #[] (List.replicate (if its.toArray.isEmpty=true then 0 else k.toNat) its.toArray)=(List.replicate k.toNat its).flatten.toArray:=by
  have f0: ∀m:Nat,List.foldl (fun x1 x2=>x1++x2) #[] (List.replicate m its.toArray)=(List.replicate m its).flatten.toArray:=fun m=>by
   have:=foldl_rep its m []
   rw[List.nil_append] at this
   exact this
  rw[f0]
  cases its with
  | nil=>simp
  | cons a r'=>rw[if_neg (by simp)]
 refine wpAny_binaryOp_repeat_ref (T:="list") (U:="int") (by decide) ⟨_,e,rfl⟩ (fun s'=>typeIs_int s' k t) noFill_list_mul F.fills_int_mul F.slot_int_rmul repeat_list F.slot_int_index.lookup
  (call_meets F.slot_int_rmul (typeIs_int s k t) F.entry_int_rmul (F.args_int_rmul_2 _ _) (int___rmul___int_list k t l its.toArray n)
   ⟨e,rfl,⟨_,e,rfl⟩,call_meets F.slot_list_mul ⟨_,e,rfl⟩ F.entry_list_mul (F.args_list_mul_2 _ _) (AutoListH.list___mul___list_int_3 l its.toArray n k t Kc Kb uv) ⟨e, ?_⟩⟩)
 rw[Kd]
 exact⟨.ref _,_,I.BV (t':=s.toks) (r.rep k.toNat) (by rw[len_rep,Nat.mul_comm];exact hz),rfl,q _ I.fresh⟩
end
section
variable {prog:Program} {w:World} {A:Around} {E:Value→Shared→Prop} {s:Shared}
end
section
variable {X:Cx}
end
end L2
namespace BZ
open PySem PySem.W PySem.Calls PyProof.Rows
theorem Ke{P:Params}{h:Heap}: ∀(ns:List Int) (vs:List Value),WellAll P h vs (ns.map WData.int)→IntsAre vs ns:=by
 intro ns
 induction ns with
 | nil=>
  intro vs w
  rw[List.map_nil] at w
  cases w
  exact .nil
 | cons n ns ih=>
  intro vs w
  rw[List.map_cons] at w
  cases w with
  | cons a b=>
   cases a
   exact .cons _ _ (ih _ b)
theorem Kf{l:OpenLaw}{n:Nat}(hn:l.most=some n){P:Params}{h:Heap}{args:List WData}{vals:List Value}
  (mI:l.row.toRowW.claim.pre args=true) (ux:WellAll P h vals args):
  ∃a vs ns,vals=[Value.ref a]∧args=[WData.list (ns.map WData.int)]∧h.get? a=some {cls:= .type "list",data:= .seq vs.toArray}∧IntsAre vs ns∧ns.length≤n:=by
 have Kg:WShape.hasAll [] args [.list .int]=true:=(pre_splitW mI).1
 have hc:l.pre.holds [] {args:=args}=true:=(pre_splitW mI).2
 obtain⟨d,r,rfl,h1,h2⟩:=hasAllW_cons Kg
 obtain rfl:=hasAllW_nil h2
 obtain⟨xs,rfl,h3⟩:=hasW_list h1
 obtain⟨ns,rfl⟩:=items_int h3
 have hlen:ns.length≤n:=by
  unfold OpenLaw.pre at hc
  have h4:(WTm.not (.lt (.lit (.int (n:Int))) (.len (.arg 0)))).holds [] {args:=[.list (ns.map .int)]}=true:=by
   have h4:=(holds_andW hc).1
   rw[hn] at h4
   exact h4
  have h5:=condW_of h4 (w_not (w_lt w_lit (w_len_list (w_arg rfl))))
  rw[List.length_map] at h5
  refine Nat.le_of_not_lt fun q=> ?_
  have q':(n:Int) < ((ns.length:Nat):Int):=by omega
  first
   | (rw[decide_eq_true q'] at h5;exact absurd h5 (by decide))
   | (simp at h5;omega)
 cases ux with
 | cons w1 w2=>
  cases w2
  cases w1 with
  | list ho n3=>exact⟨_,_,ns,rfl,rfl,ho,Ke ns _ n3,hlen⟩
theorem Kh(l:OpenLaw)(args:List WData):l.row.toRowW.claim.post args (.bool true) args=true:=
 postW_of (r:=l.row.toRowW) (X:=(true==true))
  (show WShape.has [] (.bool true) .bool=true by first | rfl | decide | simp[WShape.has,WShape.arms,WShape.armsAll])
  (show(WTm.eq .res (.lit (.bool true))).value [] {args:=args,res:=some (.bool true),after:=args}=some (.bool (true==true)) from w_eq_bool (w_res rfl) w_lit) rfl
theorem Ki{l:OpenLaw}{n:Nat}{q:Program}{loose:List Str}{XP:(Str→Option Value)→Heap→Prop}{YP:World→Heap→Prop}{d:DefRec}
  (hn:l.most=some n) (n5:d.params.defaults=[])
  (call: ∀(w:World) (s₀ s₁:Shared) (mg mb:Str→Option Value) (fa:Addr) (o:Obj) (pm cd doc:Value) (a:Addr) (vs:List Value) (ns:List Int),
   Ground q loose [] XP w s₀ mg mb s₁.heap→YP w s₁.heap→
   s₁.heap.get? fa=some o→o.data= .func (docDef d.name d.params d.body d.scope pm cd doc)→s₁.heap.CodeRec cd d.name→mg d.name=some (.ref fa)→
   s₁.heap.get? a=some {cls:= .type "list",data:= .seq vs.toArray}→IntsAre vs ns→ns.length≤n→s₁.gens= #[]→
   codeAny (model l.prog w) callerA (.call (.ref fa) ⟨[.ref a],[]⟩) (fun r s'=>r= .ok (.ret (.bool true))∧OldK s₁.heap s'.heap∧s'.os=s₁.os∧AllBare s'.gens) s₁):
  WalkO q loose XP YP l.row.toRowW d [] (fun f vs=>PySem.call f vs):=by
 intro w s₀ s₁ mg mb G Y fa o pm cd doc dV kV ho hd e8 hD iH hg args vals as mI ZG ZH ux qU
 obtain rfl:dV= .none:=Dflts.none hD n5
 obtain rfl:kV= .none:=Dflts.noKw hD
 obtain⟨a,vs,ns,rfl,rfl,uz,hints,hlen⟩:=Kf hn mI ux
 refine enter_call (codeAny_mono (call w s₀ s₁ mg mb fa o pm cd doc a vs ns G Y ho (fd_plain hd) e8 iH uz hints hlen hg) fun r s' hq=> ?_)
 obtain⟨rfl,h2,h3,h4⟩:=hq
 exact⟨.inl ⟨.bool true, .bool true,[],rfl,fun _=>rfl, .bool true,Kh l _,fun _=> ⟨List.Pairwise.nil,fun _ hm=> (nomatch hm)⟩⟩,h2,h3,h4⟩
section
variable {prog:Program} {w:World} {A:Around} {E:Value→Shared→Prop} {s:Shared} {K:Frag}
end
end BZ
namespace L2
open PySem PySem.Spec PyProof.Rows
theorem B_: ∀{vs:List Value} {ns:List Int},IntsAre vs ns→Vals (ns.map V.int) vs
 | _,_, .nil=> .nil
 | _,_, .cons n t h=> .cons ⟨t,rfl⟩ (B_ h)
def uA(H:Hp):Prop:= ∀b,H b=none∨ ∃o xs,H b=some (.bc o (.lst xs))
theorem Kj{P:Program}{w:World}{K:Frag}{mg mb:Str→Option Value}{CX:aE}{k:Nat}{fa a:Addr}{fd:FuncData}{x:Str}{sp:Sp}{s₁:Shared}{vs:List Value}{ns:List Int}
  (KX:K.In s₁.heap) (qW:s₁.heap.Ns mainGlobals mg) (hb:s₁.heap.Ns builtinsNs mb) (Kk: ∀x:Str,x≠"__name__"→mb x=bootBuiltins x) (Kl:s₁.heap.NoLimit) (hg:s₁.gens= #[])
  (ha:s₁.heap.get? a=some {cls:= .type "list",data:= .seq vs.toArray}) (hi:IntsAre vs ns) (hl:ns.length≤sizeLine) (hr:cX k callerA)
  (F: ∀base:Heap,K.In base→base.Ns mainGlobals mg→bS P w K mg base CX k fa fd [x] sp) (Km: ∀(s:Shared) (u:Value),BindsTo s fd ⟨[u],[]⟩ [(x,u)])
  (e9: ∀H:Hp,uA H→ao K H a (ns.map V.int)→sp [.ref a] H (fun v _=>v= .bl true) fun _ _ _=>False)
  (uB: ∀H e s',CX [] H s₁ (fun _ _ _=>False) e s'→False):
  codeAny (model P w) callerA (.call (.ref fa) ⟨[.ref a],[]⟩) (fun r s'=>r= .ok (.ret (.bool true))∧OldK s₁.heap s'.heap∧s'.os=s₁.os∧AllBare s'.gens) s₁:=by
 have rv:=B_ hi
 have n6:=hi.length
 have core: ∀H:Hp,uA H→ao K H a (ns.map V.int)→bG P w H s₁.heap→(∀b,H b≠none→b=a)→(H a≠none→K.lookup a=none)→
   codeAny (model P w) callerA (.call (.ref fa) ⟨[.ref a],[]⟩) (fun r s'=>r= .ok (.ret (.bool true))∧OldK s₁.heap s'.heap∧s'.os=s₁.os∧AllBare s'.gens) s₁:=by
  intro H hO hS aF hA hK
  have n_: ∀{b:Addr} {o:Obj},s₁.heap.get? b=some o→H b=none→(iz s₁.heap H).get? b=some o:=fun e n=>HA e n
  have nR: ∀{b:Addr} {o:Obj} {es:Array DictEntry} {ep:Nat},s₁.heap.get? b=some o→o.data= .dict es ep→H b=none:=fun {b o es ep} e d=>by
   cases q:H b with
   | none=>rfl
   | some u=>
    have e':b=a:=hA b (by rw[q];simp)
    subst e'
    rw[ha] at e;cases e
    have d':Data.seq vs.toArray _=Data.dict es ep:=d
    cases d'
  have qX: ∀{b:Addr} {m:Str→Option Value},s₁.heap.Ns b m→(iz s₁.heap H).Ns b m:=fun {b m} ⟨o,es,ep,e,d,r⟩=> ⟨o,es,ep,n_ e (nR e d),d,r⟩
  have Ca:K.In (iz s₁.heap H):=fun b o e=>n_ (KX b o e) (by
   cases q:H b with
   | none=>rfl
   | some u=>
    have e':b=a:=hA b (by rw[q];simp)
    subst e'
    rw[hK (by rw[q];simp)] at e;cases e)
  have hM:Mod K mg (iz s₁.heap H):=⟨Ca,qX qW,⟨mb,qX hb,Kk⟩,let ⟨mc,h1,h2⟩:=Kl;⟨mc,qX h1,h2⟩⟩
  have e0:mG P w K mg (iz s₁.heap H) callerA [] s₁ H:=⟨rfl,hM,fun b o e=>HB e,Nat.le_of_eq (Hz _ _),trivial,fun b hb=>absurd (show b∈ ([]:List Addr) from hb) (by simp),aF, .of_eq hg⟩
  refine codeAny_mono ((F _ Ca (qX qW)).run callerA [] s₁ H ⟨[.ref a],[]⟩ [.ref a] [.ref a] _ _ hr e0 (Km s₁ (.ref a)) (.cons rfl .nil) (e9 H hO hS)) fun r s' h=> ?_
  cases r with
  | error e=>exact(uB H e s' h).elim
  | ok fl=>
   cases fl with
   | next=>exact False.elim h
   | brk=>exact False.elim h
   | cont=>exact False.elim h
   | ret u=>
    obtain⟨v,H',os,bare,un,Kn,r',q⟩:=h
    have q':v= .bl true:=q
    subst q'
    obtain rfl:u=Value.bool true:=r'
    refine⟨rfl,OldK.of_keep fun b o e=> ?_,os,bare⟩
    cases q:H b with
    | none=>exact un.keep b o e q (by intro z;exact absurd (show b∈ ([]:List Addr) from z) (by simp)) (by simp)
    | some u=>
     rcases hO b with z | ⟨ob,xs,z⟩
     ·rw[q] at z;cases z
     ·have z2:=un.dr b ob _ z
      obtain⟨e1,_⟩:=aF b _ z
      obtain⟨e2,_⟩:=Kn b _ z2
      rw[e] at e1;cases e1
      exact e2
 cases hk:K.lookup a with
 | some o=>
  have e:=KX a o hk
  rw[ha] at e
  cases e
  refine core (fun _=>none) (fun _=> .inl rfl) (.inr ⟨_,vs.toArray,_,hk,rfl,rfl,rfl,by rw[List.size_toArray,n6];exact hl,by simpa using rv⟩) (fun b u z=>by have z':(none:Option HO)=some u:=z;cases z') (fun b z=>absurd rfl z) fun z=>absurd rfl z
 | none=>
  refine core (fun b=>if b=a then some (.bc {cls:= .type "list",data:= .seq vs.toArray} (.lst (ns.map V.int))) else none) (fun b=> ?_) (.inl (.inr ⟨{cls:= .type "list",data:= .seq vs.toArray},if_pos rfl⟩)) (fun b u z=> ?_) (fun b z=> ?_) fun _=>hk
  ·by_cases hb:b=a
   ·exact .inr ⟨_,_,if_pos hb⟩
   ·exact .inl (if_neg hb)
  ·by_cases hb:b=a
   ·have z':=(if_pos hb).symm.trans z
    cases z'
    subst hb
    exact⟨ha,by rw[List.length_map];exact hl,vs,_,rv,ha⟩
   ·have z':=(if_neg hb).symm.trans z
    cases z'
  ·by_cases hb:b=a
   ·exact hb
   ·exact absurd (if_neg hb) z
theorem Ko{l:PySem.W.OpenLaw}{n k:Nat}{q:Program}{loose:List Str}{XP:(Str→Option Value)→Heap→Prop}{YP:World→Heap→Prop}{d:DefRec}{K:Params→Frag}{CX:World→aE}{sp:World→Sp}{x:Str}
  (hn:l.most=some n) (Cb:n≤sizeLine) (n5:d.params.defaults=[]) (hr:cX k callerA)
  (hY: ∀(w:World) (h:Heap),YP w h→(K w.params).In h)
  (F: ∀(w:World) (mg:Str→Option Value) (fa:Addr) (h:Heap),(K w.params).In h→h.Ns mainGlobals mg→mg d.name=some (.ref fa)→
   ∃fd:FuncData,(∀(s:Shared) (u:Value),BindsTo s fd ⟨[u],[]⟩ [(x,u)])∧
    ∀base:Heap,(K w.params).In base→base.Ns mainGlobals mg→bS l.prog w (K w.params) mg base (CX w) k fa fd [x] (sp w))
  (e9: ∀(w:World) (H:Hp) (a:Addr) (ns:List Int),ns.length≤n→uA H→ao (K w.params) H a (ns.map V.int)→sp w [.ref a] H (fun v _=>v= .bl true) fun _ _ _=>False)
  (uB: ∀(w:World) (H:Hp) (s:Shared) (e:Value) (s':Shared),CX w [] H s (fun _ _ _=>False) e s'→False):
  PySem.W.WalkO q loose XP YP l.row.toRowW d [] (fun f vs=>PySem.call f vs):=by
 refine BZ.Ki hn n5 fun w s₀ s₁ mg mb fa o pm cd doc a vs ns G Y ho hd e8 iH uz hints hlen hg=> ?_
 have KX:=hY w _ Y
 obtain⟨fd,hb,hF⟩:=F w mg fa _ KX G.T.g iH
 exact Kj KX G.T.g G.T.b G.T.builtins G.T.nolimit hg uz hints (Nat.le_trans hlen Cb) hr hF hb (fun H hO hS=>e9 w H a ns hlen hO hS) fun H e s'=>uB w H s₁ e s'
end L2
namespace L2
open PySem PySem.Spec PyProof.Rows
def bJ(s:Stmt):Arguments:=match s with
 | .FunctionDef _ a _ _ _ _ _ _ _ _=>a
 | _=> {posonlyargs:=[],args:=[],vararg:=none,kwonlyargs:=[],kw_defaults:=[],kwarg:=none,defaults:=[]}
def aq(s:Stmt):List Stmt:=match s with
 | .FunctionDef _ _ b _ _ _ _ _ _ _=>b
 | _=> []
def az(s:Stmt):Scope:=match s with
 | .FunctionDef _ _ _ _ _ _ sc _ _ _=>sc
 | _=> {kind:= .function,names:=[],isGenerator:=false,isCoroutine:=false}
abbrev qY:aE:=fun _ _ _ _ _ _=>False
abbrev E0:XK:=fun _ _ _=>False
structure ji (K:Frag) (x qual:Str) (st:Stmt) (f:Addr) (fd:FuncData):Prop where
 ex: ∃(oc:Value) (od:Option Addr) (kV doc pm:Value) (an:Option Addr) (bj ct:Value) (gk:Array (Option Value)),
  fd=fnOf x qual (bJ st) (aq st) (az st) .none kV doc pm an bj ct∧K.lookup f=some ⟨oc,od, .func fd,gk⟩∧codeIn K bj qual=true
 kp:keepIn K (.ref f)=true
section
variable {P:Program} {w:World} {K:Frag} {mg:Str→Option Value} {base:Heap}
theorem ji.binds{x qual:Str}{st:Stmt}{f:Addr}{fd:FuncData}{ps:List Str}(F:ji K x qual st f fd)
  (h: ∀(kV doc pm:Value) (an:Option Addr) (bj ct:Value) (us:List Value),us.length=ps.length→bindArgs (fnOf x qual (bJ st) (aq st) (az st) .none kV doc pm an bj ct) ⟨us,[]⟩=pure (ps.zip us)):Binds K fd ps []:=by
 obtain⟨oc,od,kV,doc,pm,an,bj,ct,gk,rfl,lk,e8⟩:=F.ex
 exact .all (h kV doc pm an bj ct)
theorem cm{x qual:Str}{st:Stmt}{f:Addr}{oc:Value}{od an:Option Addr}{gk:Array (Option Value)}{kV doc pm bj ct:Value}(l:K.lookup f=some ⟨oc,od, .func (fnOf x qual (bJ st) (aq st) (az st) .none kV doc pm an bj ct),gk⟩)
  (c:codeIn K bj qual=true) (k:keepIn K (.ref f)=true):ji K x qual st f (fnOf x qual (bJ st) (aq st) (az st) .none kV doc pm an bj ct):=⟨⟨oc,od,kV,doc,pm,an,bj,ct,gk,rfl,l,c⟩,k⟩
end
section
variable {X:Cx}
end
theorem qZ{A B:Prop}(h:B):if false=true then A else B:=by
 rw[if_neg Bool.false_ne_true]
 exact h
theorem j5{A B:Prop}(h:A):if true=true then A else B:=by
 rw[if_pos rfl]
 exact h
theorem oa{c A B:Prop}[Decidable c](h1:c→A)(h2: ¬c→B):if c then A else B:=by
 by_cases h:c
 ·rw[if_pos h]
  exact h1 h
 ·rw[if_neg h]
  exact h2 h
def aD(H H':Hp):Prop:= ∀b o,H b=some o→H' b=some o
theorem aD.refl(H:Hp):aD H H:=fun _ _ h=>h
theorem aD.trans{H H1 H2:Hp}(a:aD H H1)(b:aD H1 H2):aD H H2:=fun c o h=>b c o (a c o h)
theorem aD.free{H H':Hp}(e:aD H H'){l:Addr}(h:H' l=Option.none):H l=Option.none:=by
 cases q:H l with
 | none=>rfl
 | some o=>
  rw[e l o q] at h
  cases h
theorem aD.seq{K:Frag}{H H':Hp}{a:Addr}{xs:List V}(e:aD H H')(h:ao K H a xs):ao K H' a xs:=by
 rcases h with(h | ⟨o,h⟩) | h
 ·exact .inl (.inl (e _ _ h))
 ·exact .inl (.inr ⟨o,e _ _ h⟩)
 ·exact .inr h
section
variable {κ:Type} [DecidableEq κ]
def Cc(aH:List (κ×V))(k:κ):Option V:=(aH.find? fun kv=>decide (kv.1=k)).map (·.2)
def putK(aH:List (κ×V))(k:κ)(v:V):List (κ×V):=
 if (aH.any fun kv=>decide (kv.1=k))=true then aH.map (fun kv=>if kv.1=k then (kv.1,v) else kv) else aH++ [(k,v)]
end
section
variable {P:Program} {w:World} {H:Hp} {h:Heap} {a:Addr}
end
def q8(H:Hp)(a:Addr)(y:V)(r:Option V):Prop:=
 (∃aH k,Rd H a (.dK aH)∧y=kV k∧r=Cc aH k)∨ ∃aH k b,Rd H a (.dT aH)∧y= .ref b∧H b=some (.tup (k.map kV))∧r=Cc aH k
def Kp(H:Hp)(a:Addr)(y v:V)(H':Hp):Prop:=
 (∃aH k,H a=some (.dK aH)∧y=kV k∧aH.length<sizeLine∧H'=upd H a (.dK (putK aH k v)))∨
 ∃aH k b,H a=some (.dT aH)∧y= .ref b∧H b=some (.tup (k.map kV))∧aH.length<sizeLine∧H'=upd H a (.dT (putK aH k v))
section
variable {X:Cx} {pins:List (Addr×Obj)} {σ:St} {H:Hp} {s:Shared} {a:Addr} {y v:V} {u r:Value} {o:Option V} {A:Around} {E:Value→Shared→Prop}
end
section
variable {X:Cx} {pins:List (Addr×Obj)} {σ:St} {H:Hp} {s:Shared} {a:Addr} {aH:List (Key×V)} {k:Key} {u:Value} {A:Around} {E:Value→Shared→Prop}
end
def Kq(td ty:TE):TE:=fun σ H Q=>td σ H fun x H1=>ty σ H1 fun y H2=> ∃a v,x= .ref a∧q8 H2 a y (some v)∧Q v H2
def Cd(ty td:TE):TE:=fun σ H Q=>ty σ H fun y H1=>td σ H1 fun x H2=> ∃a o,x= .ref a∧q8 H2 a y o∧Q (.bl o.isSome) H2
def Ce(ty td:TE):TE:=fun σ H Q=>ty σ H fun y H1=>td σ H1 fun x H2=> ∃a o,x= .ref a∧q8 H2 a y o∧Q (.bl (!o.isSome)) H2
def Kr(td ty tv:TE):TS:=fun D σ H=>tv σ H fun v H1=>td σ H1 fun x H2=>ty σ H2 fun y H3=> ∃a H4,x= .ref a∧Kp H3 a y v H4∧D.nx σ H4
section
variable {X:Cx} {o i e value:Expr} {pos pos' nQ:Pos} {td ty tv:TE}
end
def Ks:TE:=fun _ H Q=> ∀p,H p=none→Q (.ref p) (upd H p (.dT []))
section
variable {X:Cx} {pos:Pos}
end
def Kt(H:Hp)(a:Addr):Prop:=(∃aH,Rd H a (.dK aH))∨ ∃aH,Rd H a (.dT aH)
section
variable {X:Cx} {pins:List (Addr×Obj)} {σ:St} {H:Hp} {s:Shared} {a:Addr} {y d:V} {u r:Value} {o:Option V} {A:Around} {E:Value→Shared→Prop}
end
def Ku(td ty tx:TE):TE:=fun σ H Q=>td σ H fun x H1=> ∃a,x= .ref a∧Kt H1 a∧ty σ H1 fun y H2=>tx σ H2 fun z H3=> ∃o,q8 H3 a y o∧Q (o.getD z) H3
section
variable {X:Cx} {o e f:Expr} {apos cA:Pos} {td ty tx:TE}
end
end L2
set_option maxHeartbeats 4000000
namespace L2
open PySem PySem.Spec PyProof.Rows
section
variable {X:Cx} {pins:List (Addr×Obj)} {σ:St} {H:Hp} {s:Shared} {a:Addr} {o:HO}
theorem Inv.uC(I:Inv X pins σ H s)(hn:H a=none)(h0:X.s₀.heap.objs.size≤a)(hL:a≠X.env.locals)(hC: ∀x c,X.env.cells.lookup x=some c→c≠a)
  (hp: ∀p∈X.pn++pins,p.1≠a) (new:bV X.prog X.w (upd H a o) s.heap a o):Inv X pins σ (upd H a o) s:=by
 have Kv: ∀b u,X.s₀.heap.get? b=some u→b≠a:=fun b u e=>Nat.ne_of_lt (Nat.lt_of_lt_of_le (Heap.lt_size e) h0)
 have og: ∀b u,H b=some u→b≠a:=fun b u e=>c_ e hn
 refine⟨I.ok,I.os,I.bare,⟨I.base.keep,I.base.slot,fun b u e n hx=> ?_,I.base.there,fun b xs e=> ?_,fun b u xs e=> ?_,fun b ps e=> ?_⟩,I.loc,I.cell, ?_,fun x c e=> ?_,fun p q=> ?_,fun b u e=> ?_,I.len⟩
 ·rw[bC (Kv b u e)];exact I.base.free b u e n hx
 ·have z:=I.base.dM b xs e
  rw[bC (og b _ z)];exact z
 ·have z:=I.base.dr b u xs e
  rw[bC (og b _ z)];exact z
 ·obtain⟨m,z⟩:=I.base.dN b ps e
  exact⟨m,by rw[bC (og b _ z)];exact z⟩
 ·rw[bC (Ne.symm hL)];exact I.free
 ·rw[bC (hC x c e)];exact I.d9 x c e
 ·obtain⟨z1,z2,z3⟩:=I.pin p q
  exact⟨z1,by rw[bC (hp p q)];exact z2,z3⟩
 ·by_cases hb:b=a
  ·subst hb;rw[aG] at e;cases e;exact new
  ·rw[bC hb] at e
   exact(I.aF b u e).fH (fun _ _ _ q=>q) (fun c q=>by rw[bC (og c _ q)];exact q) fun c xs q=>by rw[bC (og c _ q)];exact q
end
def cH(cells:List (Str×Addr)):List (Str×NameKind)→List (Str×Addr)→List (Str×Addr)
 | [],acc=>acc
 | (n,k)::r,acc=>cH cells r (if k= .free then (n,(cells.lookup n).getD 0)::acc else acc)
theorem Cf(env:Env): ∀(names:List (Str×NameKind)) (acc:List (Str×Addr)),(∀y∈names,y.2= .free→ ∃c,env.cells.lookup y.1=some c)→
  (forIn names acc (fun(x:Str×NameKind) (cs:List (Str×Addr))=>match x with
   | (name,kind)=>if (kind==NameKind.free)=true then do let a ←cellOf env name;pure (ForInStep.yield ((name,a)::cs)) else pure (ForInStep.yield cs)):Sem (List (Str×Addr)))=pure (cH env.cells names acc)
 | [],acc,_=>rfl
 | (n,k)::r,acc,h=>by
  have hr:=fun g6=>Cf env r g6 fun y hy=>h y (List.mem_cons_of_mem _ hy)
  rw[List.forIn_cons]
  by_cases hk:k= .free
  ·subst hk
   obtain⟨c,e⟩:=h (n, .free) List.mem_cons_self rfl
   have e':cellOf env n=pure c:=by unfold cellOf;rw[e]
   have ec:cH env.cells ((n, .free)::r) acc=cH env.cells r ((n,c)::acc):=by simp[cH,e]
   rw[ec,←hr]
   simp[e']
  ·have hb:(k==NameKind.free)=false:=by simpa using hk
   have ec:cH env.cells ((n,k)::r) acc=cH env.cells r acc:=by simp[cH,hk]
   rw[ec,←hr]
   simp[hb]
theorem Kw{scope:Scope}{env:Env}(h: ∀y∈scope.names,y.2= .free→ ∃c,env.cells.lookup y.1=some c):closureFor scope env=pure (cH env.cells scope.names []):=by
 have:=Cf env scope.names [] h
 simp only[closureFor]
 rw[←this]
 simp
theorem Cg{cells:List (Str×Addr)}: ∀(names:List (Str×NameKind)) (acc:List (Str×Addr)) (x:Str) (c:Addr),(cH cells names acc).lookup x=some c→(acc.lookup x=some c)∨((x, .free)∈names∧(cells.lookup x).getD 0=c)
 | [],acc,x,c,h=> .inl h
 | (n,k)::r,acc,x,c,h=>by
  simp only[cH] at h
  rcases Cg r _ x c h with z | ⟨z1,z2⟩
  ·by_cases hk:k= .free
   ·subst hk
    simp only[if_true] at z
    rw[List.lookup_cons] at z
    by_cases hx:x==n
    ·simp only[hx] at z
     have Kx:x=n:=eq_of_beq hx
     subst Kx
     exact .inr ⟨List.mem_cons_self,Option.some.inj z⟩
    ·have dE:(x==n)=false:=by simpa using hx
     simp only[dE] at z
     exact .inl z
   ·simp only[if_neg hk] at z
    exact .inl z
  ·exact .inr ⟨List.mem_cons_of_mem _ z1,z2⟩
theorem uD{cells:List (Str×Addr)}: ∀(names:List (Str×NameKind)) (acc:List (Str×Addr)) (x:Str),((x,NameKind.free)∈names∨ ∃c,acc.lookup x=some c)→ ∃c,(cH cells names acc).lookup x=some c
 | [],acc,x,h=>by
  rcases h with h | h
  ·cases h
  ·exact h
 | (n,k)::r,acc,x,h=>by
  simp only[cH]
  refine uD r _ x ?_
  rcases h with h | ⟨c,h⟩
  ·rcases List.mem_cons.mp h with e | h
   ·cases e
    refine .inr ?_
    simp[List.lookup_cons]
   ·exact .inl h
  ·refine .inr ?_
   by_cases hk:k= .free
   ·simp only[if_pos hk,List.lookup_cons]
    cases hx:x==n
    ·exact⟨c,h⟩
    ·exact⟨_,rfl⟩
   ·simp only[if_neg hk];exact⟨c,h⟩
theorem Ci{env:Env}: ∀(names:List (Str×NameKind)) (x:Str),
  (names.map fun(n,k)=>if (k==NameKind.free && env.scope.kind== .function && env.kindOf n==some .cell) then (n,NameKind.cell) else (n,k)).lookup x=
   (names.lookup x).map fun k=>if (k==NameKind.free && env.scope.kind== .function && env.kindOf x==some .cell) then NameKind.cell else k
 | [],_=>rfl
 | (n,k)::r,x=>by
  have ih:=Ci (env:=env) r x
  show List.lookup x ((if (k==NameKind.free && env.scope.kind== .function && env.kindOf n==some .cell)=true then (n,NameKind.cell) else (n,k))::_)=_
  cases hx:x==n with
  | true=>
   have e:x=n:=eq_of_beq hx
   subst e
   by_cases hc:(k==NameKind.free && env.scope.kind== .function && env.kindOf x==some .cell)=true
   ·rw[if_pos hc];simp only[List.lookup_cons,beq_self_eq_true,Option.map_some];rw[if_pos hc]
   ·rw[if_neg hc];simp only[List.lookup_cons,beq_self_eq_true,Option.map_some];rw[if_neg hc]
  | false=>
   by_cases hc:(k==NameKind.free && env.scope.kind== .function && env.kindOf n==some .cell)=true
   ·rw[if_pos hc];simp only[List.lookup_cons,hx];exact ih
   ·rw[if_neg hc];simp only[List.lookup_cons,hx];exact ih
section
variable {prog:Program} {w:World} {A:Around} {R:Result→Shared→Prop} {s:Shared}
theorem Ky{elt target iter:Expr}{ifs:List Expr}{scope:Scope}{pos:Pos}{it acc:Value}{env:Env}(I:Nat→Shared→Prop)
  (turn: ∀n s,I n s→wpAny (model prog w) A (pyNext it) (fun r s₁=>match r with
   | none=>R (.ok .next) s₁
   | some v=>wpAny (model prog w) A (letOwnedTupleGo target it v) (fun _ Cj=>wpAny (model prog w) A (assign target env v) (fun _ s₂=>
     wpAny (model prog w) A (forIn ifs true fun c r=>if r=true then do let ok ←isTrue c env (eval c env);pure (ForInStep.yield ok) else pure (ForInStep.yield r)) (fun ok s₃=>
      if ok=true then wpAny (model prog w) A (eval elt env) (fun x s₄=>
       wpAny (model prog w) A (call (.builtin "list.append") [acc,x]) (fun _ s₅=> ∃m,m<n∧I m s₅) (fun _ _=>False) s₄) (fun _ _=>False) s₃
      else ∃m,m<n∧I m s₃) (fun _ _=>False) s₂) (fun _ _=>False) Cj) (fun _ _=>False) s₁) (fun _ _=>False) s)
  (n:Nat) (h:I n s):codeAny (model prog w) A (.compLoop (.ListComp elt [⟨target,iter,ifs,0⟩] scope pos) 0 it acc env) R s:=by
 refine codeAny_loop rfl I (fun n s hI=> ?_) n h
 show wpAny _ A ((compTurn (.ListComp elt [⟨target,iter,ifs,0⟩] scope pos) 0 it acc env).onRaise (fun x=>do noteFrame x env;theTreesLotGoes x)) _ _ s
 refine wpAny_noted ?_
 rw[compTurn_list]
 refine wpAny_bind (wpAny_standAt (wpAny_bind (wpAny_mono (turn n s hI) (fun r s₁ h₁=> ?_) fun _ _ h'=>h'.elim)))
 cases r with
 | none=>exact wpAny_pure h₁
 | some v=>
  refine wpAny_bind (wpAny_mono h₁ (fun _ Cj Kz=> ?_) fun _ _ h'=>h'.elim)
  refine wpAny_bind (wpAny_mono Kz (fun _ s₂ h₂=>wpAny_bind (wpAny_mono h₂ (fun ok s₃ h₃=> ?_) fun _ _ h'=>h'.elim)) fun _ _ h'=>h'.elim)
  cases ok with
  | false=>exact wpAny_pure ⟨rfl,h₃⟩
  | true=>
   exact wpAny_bind (wpAny_bind (wpAny_mono h₃ (fun x s₄ h₄=>wpAny_bind (wpAny_mono h₄ (fun _ s₅ h₅=>wpAny_pure (wpAny_pure ⟨rfl,h₅⟩)) fun _ _ h'=>h'.elim)) fun _ _ h'=>h'.elim))
end
def ei(X:Cx)(scope:Scope)(N:List Str)(ex:List Addr)(C:Addr)(s:Shared)(H:Hp):Cx where
 prog:=X.prog
 w:=X.w
 K:=X.K
 mg:=X.mg
 base:=X.base
 A:=X.A
 N:=N
 s₀:=s
 H₀:=H
 env:=compEnvC scope (cH X.env.cells scope.names []) C X.env
 outer:=X.stack
 stack:=X.stack
 ex:=ex
 fn:=fun _=>false
 calm:=X.calm
 pn:=[]
 xe:=fun _ _=>False
structure g7 (X:Cx) (scope:Scope) (ln:List Str) (fv:List (Str×Nat)):Prop where
 kind:scope.kind= .function
 Ck: ∀y∈scope.names,y.2≠ .cell
 locals: ∀y∈scope.names,y.2= .local→scope.names.lookup y.1=some .local
 free: ∀y∈scope.names,y.2= .free→(X.env.kindOf y.1=some .cell∨X.env.kindOf y.1=some .free)
 KA: ∀p∈fv,X.N[p.2]?=some p.1∧scope.names.lookup p.1=some .free
def bX(σ:St)(fv:List (Str×Nat)):St:=fv.map fun p=> (σ[p.2]?).join
def jj(K:Frag):Option Nat→V→Hp→(List V→Prop)→Prop
 | none,x,_,Q=>Q [x]
 | some n,x,H,Q=> ∃a xs,x= .ref a∧aU K H a xs∧xs.length=n∧Q xs
def j6:Option TT→TT
 | none=>fun _ H k=>k true H
 | some t=>t
def mJ(K:Frag)(wi:TI)(tk:Option Nat)(fv:List (Str×Nat))(tc:Option TT)(te:TE):TE:=fun σ H Q=>
 wi σ H fun J H1=> ∃W:Nat→Nat→List V→Hp→Prop,(∃m,W 0 m [] H1)∧ ∀i m ys H2,W i m ys H2→
  (J.stop i H2∧ ∀p,H2 p=none→Q (.ref p) (upd H2 p (.lst ys)))∨
  (J.go i H2∧ ∀x H3,J.ed i H2 x H3→jj K tk x H3 fun xs=>
   j6 tc (xs.map some++bX σ fv) H3 fun b H5=>
    if b=true then te (xs.map some++bX σ fv) H5 fun y H6=>ys.length<sizeLine∧ ∃m',m'<m∧W (i+1) m' (ys++ [y]) H6
    else ∃m',m'<m∧W (i+1) m' ys H5)
section
variable {X:Cx} {pins:List (Addr×Obj)} {σ:St} {H:Hp} {s₂ s₃:Shared} {scope:Scope} {ln:List Str} {fv:List (Str×Nat)} {fp:List Addr} {h₁:Heap} {D C:Addr} {m:Str→Option Value} {t:Nat}
theorem g7.cells(S:g7 X scope ln fv)(I:Inv X pins σ H s₂){x:Str}{c:Addr}(h:(cH X.env.cells scope.names []).lookup x=some c):X.env.cells.lookup x=some c∧(x,NameKind.free)∈scope.names:=by
 rcases Cg _ _ _ _ h with z | ⟨z1,z2⟩
 ·cases z
 ·obtain⟨c',e⟩:=I.ok.has x (S.free _ z1 rfl)
  rw[e] at z2
  have z3:c'=c:=z2
  subst z3
  exact⟨e,z1⟩
theorem g7.Cm(S:g7 X scope ln fv)(I:Inv X pins σ H s₂):closureFor scope X.env=pure (cH X.env.cells scope.names []):=
 Kw fun y hy hk=>I.ok.has y.1 (S.free y hy hk)
theorem KC(S:g7 X scope ln fv)(I:Inv X pins σ H s₂)(f2: ∀b∈fp,fK X pins H b)(j7: ∀b∈fp,∃o,s₂.heap.get? b=some o)
  (os:s₃.os=s₂.os) (gens:s₃.gens=s₂.gens) (k3: ∀b o,s₂.heap.get? b=some o→s₃.heap.get? b=some o) (hD:D=s₂.heap.objs.size) (h3:s₃.heap.objs.size=s₂.heap.objs.size+1) (hC:C=s₃.heap.objs.size)
  (k4: ∀b o,s₃.heap.get? b=some o→h₁.get? b=some o) (qW:h₁.Ns C m):
  Inv (ei X scope (ln++fv.map (·.1)) (D::fp) C s₃ H) [] (ln.map (fun _=>none)++bX σ fv) H {s₃ with heap:=h₁,toks:=t}:=by
 have cl: ∀{x c},(cH X.env.cells scope.names []).lookup x=some c→X.env.cells.lookup x=some c:=fun h=> (S.cells I h).1
 have KD: ∀{x c},(cH X.env.cells scope.names []).lookup x=some c→c<s₂.heap.objs.size:=fun h=>by
  obtain⟨v,q⟩:=I.cell _ _ (cl h)
  exact q.lt
 have KG: ∀b∈fp,b<s₂.heap.objs.size:=fun b hb=>by obtain⟨o,e⟩:=j7 b hb;exact Heap.lt_size e
 have KH: ∀b∈D::fp,b≤s₂.heap.objs.size:=fun b hb=>by
  rcases List.mem_cons.mp hb with e | hb
  ·rw[e,hD];exact Nat.le_refl _
  ·exact Nat.le_of_lt (KG b hb)
 have Cn: ∀x,(relabel scope X.env).names.lookup x=(scope.names.lookup x).map fun k=>if (k==NameKind.free && X.env.scope.kind== .function && X.env.kindOf x==some .cell) then NameKind.cell else k:=fun x=>Ci scope.names x
 have KI: ∀x,scope.names.lookup x=some .free→((relabel scope X.env).names.lookup x=some .cell∨(relabel scope X.env).names.lookup x=some .free):=fun x e=>by
  rw[Cn,e]
  simp only[Option.map_some]
  split
  ·exact .inl rfl
  ·exact .inr rfl
 have KJ: ∀x,((relabel scope X.env).names.lookup x=some .cell∨(relabel scope X.env).names.lookup x=some .free)→(x,NameKind.free)∈scope.names:=fun x e=>by
  rw[Cn] at e
  cases q:scope.names.lookup x with
  | none=>rw[q] at e;rcases e with e | e<;>cases e
  | some k=>
   rw[q] at e
   have hm:(x,k)∈scope.names:=PySem.mem_of_lookup q
   simp only[Option.map_some] at e
   by_cases hk:k= .free
   ·rw[hk] at hm;exact hm
   ·have hb:(k==NameKind.free)=false:=by simpa using hk
    simp only[hb,Bool.false_and,Bool.false_eq_true,if_false] at e
    rcases e with e | e
    ·exact absurd (Option.some.inj e) (S.Ck _ hm)
    ·exact absurd (Option.some.inj e) hk
 refine⟨⟨I.ok.mod,S.kind,I.ok.glob,I.ok.blt,Nat.le_of_eq hC.symm,fun x y c h1 h2=>I.ok.inj x y c (cl h1) (cl h2),fun x hx=>uD _ _ x (.inl (KJ x hx)),fun x c h _=> (by cases h),I.ok.hd,I.ok.frames, .inl rfl,fun b hb=> ⟨?_,fun x c e=> ?_⟩,fun b o e=> ⟨k3 b o (I.bs b o e).1,(I.bs b o e).2⟩, ?_,fun b o e hb=> ?_,fun b hb hf=> ?_, ?_,I.qz⟩,
  rfl, ?_,Un.kept fun b u e=>k4 b u e,⟨m,qW,fun i x v e1 e2 e3=> ?_⟩,fun x c e=> ?_,I.aF.fresh ?_,fun x c e=>I.d9 x c (cl e),fun p hp=>absurd (show p∈ ([]:List (Addr×Obj)) from hp) (by simp),I.aF.kept fun b u e=>k4 b u (k3 b u e), ?_⟩
 ·show b≠C
  have:=KH b hb
  rw[hC,h3];exact Nat.ne_of_lt (Nat.lt_succ_of_le this)
 ·have q1:=KD e
  rcases List.mem_cons.mp hb with z | z
  ·rw[z,hD];exact Nat.ne_of_lt q1
  ·exact(f2 b z).2.2.2.2.1 x c (cl e)
 ·show X.base.objs.size≤s₃.heap.objs.size
  have:=Nat.le_trans I.ok.jS I.sz
  omega
 ·have e2:=(I.bs b o e).1
  have mK:b∈D::fp:=hb
  rcases List.mem_cons.mp mK with z | z
  ·have:=Heap.lt_size e2
   rw[z,hD] at this;exact Nat.lt_irrefl _ this
  ·rcases (f2 b z).2.2.2.1 with q | q
   ·exact I.ok.qv b o e q
   ·exact absurd (Nat.lt_of_lt_of_le (Heap.lt_size (I.ok.bs b o e).1) q) (Nat.lt_irrefl _)
 ·have Co:b∈bh X.stack:=hf
  have mK:b∈D::fp:=hb
  rcases List.mem_cons.mp mK with z | z
  ·rcases List.mem_cons.mp (I.qy b Co) with q | q
   ·have:=I.lt
    rw[←q,z,hD] at this;exact Nat.lt_irrefl _ this
   ·exact I.AG (by rw[z,hD];exact Nat.le_refl _) q
  ·rcases List.mem_cons.mp (I.qy b Co) with q | q
   ·exact(f2 b z).2.1 q
   ·exact(f2 b z).2.2.1 q
 ·exact PySem.Heap.FunFrames.of_keeps (fun b o e _=> ⟨o,k3 b o e,rfl⟩) I.stack
 ·show AllBare s₃.gens
  rw[gens];exact I.bare
 ·have hi:ln.length≤i:=by
   by_cases hi:i<ln.length
   ·exfalso
    rw[List.getElem?_append_left (by simpa using hi),List.getElem?_map] at e2
    cases q:ln[i]? with
    | none=>rw[q] at e2;cases e2
    | some y=>rw[q] at e2;cases e2
   ·omega
  have j8:(ln++fv.map (·.1))[i]?=some x:=e1
  rw[List.getElem?_append_right hi,List.getElem?_map] at j8
  rw[List.getElem?_append_right (by simpa using hi),List.length_map] at e2
  unfold bX at e2
  rw[List.getElem?_map] at e2
  cases q:fv[i - ln.length]? with
  | none=>rw[q] at j8;cases j8
  | some p=>
   rw[q] at j8 e2
   have ex:p.1=x:=Option.some.inj j8
   have ev:(σ[p.2]?).join=some v:=Option.some.inj e2
   obtain⟨g1,g2⟩:=S.KA p (List.mem_of_getElem? q)
   rw[ex] at g1 g2
   have KL:σ[p.2]?=some (some v):=by
    cases z:σ[p.2]? with
    | none=>rw[z] at ev;cases ev
    | some o=>rw[z] at ev;rw[show o=some v from ev]
   have hk:=S.free _ (PySem.mem_of_lookup g2) rfl
   obtain⟨m2,Cb,hl⟩:=I.loc
   obtain⟨u,r,l⟩:=hl p.2 x v g1 KL (by rcases hk with k | k;exact .inr (.inl k);exact .inr (.inr k))
   refine⟨u,r, .inr ?_⟩
   rcases l with⟨k,_⟩ | ⟨_,c,ec,z⟩
   ·rcases hk with k' | k'<;> (rw[k] at k';cases k')
   ·refine⟨KI x g2,c, ?_, ?_⟩
    ·obtain⟨c',e'⟩:=uD (cells:=X.env.cells) scope.names [] x (.inl (PySem.mem_of_lookup g2))
     have:=cl e'
     rw[ec] at this;cases this
     exact e'
    ·obtain⟨o,ho,hd⟩:=z
     exact⟨o,k4 c o (k3 c o ho),hd⟩
 ·obtain⟨v,o,ho,hd⟩:=I.cell x c (cl e)
  exact⟨v,o,k4 c o (k3 c o ho),hd⟩
 ·show s₂.heap.objs.size≤C
  rw[hC,h3];exact Nat.le_succ _
 ·show(ln.map (fun _=>none)++bX σ fv).length=(ln++fv.map (·.1)).length
  simp[bX]
end
structure uE (Φ:Cx→Prop) (P:Program) (w:World) (K:Frag) (tg:Expr) (J:It) (fp:List Addr) (it:Addr) (tn:Nat→Heap→Prop):Prop where
 mem:it∈fp
 obj: ∀i h,tn i h→ ∀b∈fp,∃o,h.get? b=some o∧ ∀v,o.data≠ .cell v
 keep: ∀i h h',tn i h→(∀b∈fp,∀o,h.get? b=some o→h'.get? b=some o)→tn i h'
 item: ∀(X:Cx),X.prog=P→X.w=w→X.K=K→Φ X→ ∀(i:Nat) (pins:List (Addr×Obj)) (s:Shared) (σ:St) (H:Hp) (E:Value→Shared→Prop),Inv X pins σ H s→(∀b∈fp,fK X pins H b)→tn i s.heap→J.go i H→
  wpAny (model P w) X.A (pyNext (.ref it)) (fun r s1=> ∃u,r=some u∧
   wpAny (model P w) X.A (letOwnedTupleGo tg (.ref it) u) (fun _ s2=> ∃x H',Inv X pins σ H' s2∧RelV x u∧J.ed i H x H'∧tn (i+1) s2.heap∧ ∀b∈fp,H' b=none) E s1) E s
 done: ∀(X:Cx),X.prog=P→X.w=w→X.K=K→Φ X→ ∀(i:Nat) (pins:List (Addr×Obj)) (s:Shared) (σ:St) (H:Hp) (E:Value→Shared→Prop),Inv X pins σ H s→(∀b∈fp,fK X pins H b)→tn i s.heap→J.stop i H→
  wpAny (model P w) X.A (pyNext (.ref it)) (fun r s1=>r=none∧Inv X pins σ H s1) E s
 self: ∀(A:Around) (i:Nat) (s:Shared) (Q:Value→Shared→Prop) (E:Value→Shared→Prop),tn i s.heap→Q (.ref it) s→wpAny (model P w) A (pyIter (.ref it)) Q E s
def q9(Φ:Cx→Prop)(X:Cx)(tg iter:Expr)(wi:TI):Prop:=
 ∀(pins:List (Addr×Obj)) (s:Shared) (σ:St) (H:Hp) (R:It→Hp→Prop),Inv X pins σ H s→wi σ H R→
  wpAny (model X.prog X.w) X.A (eval iter X.env) (fun v s1=>wpAny (model X.prog X.w) X.A (pyIter v) (fun jV s2=>
   ∃(it:Addr) (fp:List Addr) (tn:Nat→Heap→Prop) (J:It) (H':Hp),jV= .ref it∧Inv X pins σ H' s2∧uE Φ X.prog X.w X.K tg J fp it tn∧tn 0 s2.heap∧(∀b∈fp,fK X pins H' b)∧R J H') X.xe s1) X.xe s
abbrev Calm(X:Cx):Prop:=X.calm=true
theorem PI.p{X:Cx}{tg iter:Expr}{wi:TI}(h:PI X tg iter wi):q9 Calm X tg iter wi:=fun pins s σ H R I q=>
 aL (h pins s σ H R I q) fun v s1 h1=>aL h1 fun jV s2 ⟨it,fp,tn,J,H',e,I',T,st,f,r⟩=> ⟨it,fp,tn,J,H',e,I',⟨T.mem,T.obj,T.keep,T.item,T.done,T.self⟩,st,f,r⟩
section
variable {X:Cx} {pins:List (Addr×Obj)} {σ:St} {H:Hp} {s₂:Shared} {scope:Scope} {ln:List Str} {fv:List (Str×Nat)} {elt tg iter:Expr} {ifs:List Expr} {pos:Pos}
 {J:It} {fp:List Addr} {it:Addr} {tn:Nat→Heap→Prop} {tk:Option Nat} {tc:Option TT} {te:TE} {Qv:VK} {RR:Value→Addr→Result→Shared→Prop} {E:Value→Shared→Prop}
def q_(Ψ:Hp→Prop)(X:Cx)(scope:Scope)(ln:List Str)(fv:List (Str×Nat))(tg:Expr)(tk:Option Nat):Prop:=
 ∀(ex:List Addr) (C:Addr) (s:Shared) (H:Hp),Ψ H→ ∃g,PG (ei X scope (ln++fv.map (·.1)) ex C s H) tg g∧
  ∀(x:V) (pre φ:St) (H':Hp) (Q:St→Hp→Prop),pre.length=ln.length→jj X.K tk x H' (fun xs=>xs.length=ln.length→Q (xs.map some++φ) H')→g x (pre++φ) H' Q
def rf(X:Cx)(scope:Scope)(ln:List Str)(fv:List (Str×Nat))(tg:Expr)(tk:Option Nat):Prop:=
 ∀(ex:List Addr) (C:Addr) (s:Shared) (H:Hp),∃g,PG (ei X scope (ln++fv.map (·.1)) ex C s H) tg g∧
  ∀(x:V) (pre φ:St) (H':Hp) (Q:St→Hp→Prop),pre.length=ln.length→jj X.K tk x H' (fun xs=>xs.length=ln.length→Q (xs.map some++φ) H')→g x (pre++φ) H' Q
def rg(X:Cx)(scope:Scope)(N:List Str)(ifs:List Expr)(tc:Option TT):Prop:=
 match tc with
 | none=>ifs=[]
 | some t=> ∃c,ifs=[c]∧ ∀(ex:List Addr) (C:Addr) (s:Shared) (H:Hp),PT (ei X scope N ex C s H) c t
theorem Cp{Φ:Cx→Prop}{Ψ:Hp→Prop}(S:g7 X scope ln fv)(hc: ∀Xc:Cx,Xc.A=X.A→Xc.calm=X.calm→Xc.H₀=H→Φ Xc)(hΨ:Ψ H)(hg:q_ Ψ X scope ln fv tg tk)(ht:rg X scope (ln++fv.map (·.1)) ifs tc)
  (he: ∀(ex:List Addr) (C:Addr) (s:Shared) (H:Hp),PE (ei X scope (ln++fv.map (·.1)) ex C s H) elt te)
  (I:Inv X pins σ H s₂) (T:uE Φ X.prog X.w X.K tg J fp it tn) (st:tn 0 s₂.heap) (f2: ∀b∈fp,fK X pins H b)
  (h: ∃W:Nat→Nat→List V→Hp→Prop,(∃m,W 0 m [] H)∧ ∀i m ys H2,W i m ys H2→
   (J.stop i H2∧ ∀p,H2 p=none→Qv (.ref p) (upd H2 p (.lst ys)))∨
   (J.go i H2∧ ∀x H3,J.ed i H2 x H3→jj X.K tk x H3 fun xs=>
    j6 tc (xs.map some++bX σ fv) H3 fun b H5=>
     if b=true then te (xs.map some++bX σ fv) H5 fun y H6=>ys.length<sizeLine∧ ∃m',m'<m∧W (i+1) m' (ys++ [y]) H6
     else ∃m',m'<m∧W (i+1) m' ys H5))
  (KN: ∀D C H' s' m,Inv X pins σ H' s'→s'.heap.Ns C m→H' C=none→C≠X.env.locals→X.s₀.heap.objs.size≤C→(∀x c,X.env.cells.lookup x=some c→c≠C)→(∀p∈X.pn++pins,p.1≠C)→Qv (.ref D) H'→RR (.ref D) C (.ok .next) s'):
  wpAny (model X.prog X.w) X.A (newList []) (fun acc s₃=>wpAny (model X.prog X.w) X.A (newFunctionEnv scope X.env.globals (cH X.env.cells scope.names []) [] X.env.qual none .none (some X.env)) (fun Cq s₄=>
   codeAny (model X.prog X.w) X.A (.compStart (.ListComp elt [⟨tg,iter,ifs,0⟩] scope pos) 0 (.ref it) acc {Cq with scope:=relabel scope X.env}) (RR acc Cq.locals) s₄) E s₃) E s₂:=by
 obtain⟨W,⟨m0,w0⟩,turn⟩:=h
 refine wpAny_newObj_type (wpAny_newFunctionEnv S.Ck (by intro y hy;simp at hy) (fun h₁ rj rk=> ?_) S.kind)
 dsimp only at rj rk⊢
 generalize rm:({s₂ with heap:=s₂.heap.push {cls:= .type "list",dict:=none,data:= .seq ([]:List Value).toArray}}:Shared)=s₃
 have rn:s₂.heap.push {cls:= .type "list",dict:=none,data:= .seq ([]:List Value).toArray}=s₃.heap:=by rw[←rm]
 rw[rn] at rj rk⊢
 have Cr:s₃.os=s₂.os:=by rw[←rm]
 have KO:s₃.gens=s₂.gens:=by rw[←rm]
 have j9:s₃.heap.objs.size=s₂.heap.objs.size+1:=by rw[←rn,Heap.size_push]
 have k3: ∀b o,s₂.heap.get? b=some o→s₃.heap.get? b=some o:=fun b o e=>by rw[←rn];exact Heap.get?_push_of_some _ e
 have k4: ∀b o,s₃.heap.get? b=some o→h₁.get? b=some o:=fun b o e=>rk.extBut b o (Nat.ne_of_lt (Heap.lt_size e)) (Heap.get?_push_of_some _ e)
 have gD:s₃.heap.get? s₂.heap.objs.size=some {cls:= .type "list",dict:=none,data:= .seq ([]:List Value).toArray}:=by rw[←rn];exact Heap.get?_push_size _ rfl
 generalize eD:s₂.heap.objs.size=D at gD
 generalize eC:s₃.heap.objs.size=C at rj rk⊢
 have rp:D≠C:=by rw[←eD,←eC,j9];exact Nat.ne_of_lt (Nat.lt_succ_self _)
 have j7: ∀b∈fp,∃o,s₂.heap.get? b=some o:=fun b hb=>by obtain⟨o,e,_⟩:=T.obj 0 _ st b hb;exact⟨o,e⟩
 have Cs: ∀b∈fp,b≠D:=fun b hb=>by obtain⟨o,e⟩:=j7 b hb;rw[←eD];exact Nat.ne_of_lt (Heap.lt_size e)
 have KP: ∀b∈fp,b≠C:=fun b hb=>by
  obtain⟨o,e⟩:=j7 b hb
  have:=Heap.lt_size e
  rw[←eC,j9];exact Nat.ne_of_lt (Nat.lt_succ_of_lt this)
 generalize eX:ei X scope (ln++fv.map (·.1)) (D::fp) C s₃ H=Xc
 have I4: ∀t,Inv Xc [] (ln.map (fun _=>none)++bX σ fv) H {s₃ with heap:=h₁,toks:=t}:=fun t=>by
  rw[←eX]
  exact KC S I f2 j7 Cr KO k3 eD.symm j9 eC.symm k4 rj
 have xL:Xc.env.locals=C:=by rw[←eX];rfl
 have rq:Xc.ex=D::fp:=by rw[←eX];rfl
 have KQ:Xc.fs=bh X.stack:=by rw[←eX];rfl
 have xP:Xc.prog=X.prog:=by rw[←eX];rfl
 have xw:Xc.w=X.w:=by rw[←eX];rfl
 have xK:Xc.K=X.K:=by rw[←eX];rfl
 have xA:Xc.A=X.A:=by rw[←eX];rfl
 have xc:Φ Xc:=hc Xc xA (by rw[←eX];rfl) (by rw[←eX];rfl)
 have Ct:Xc.pn=[]:=by rw[←eX];rfl
 have uF:Xc.xe=fun _ _=>False:=by rw[←eX];rfl
 have Cv:Xc.env.cells=cH X.env.cells scope.names []:=by rw[←eX];rfl
 have uG:Xc.env=compEnvC scope (cH X.env.cells scope.names []) C X.env:=by rw[←eX];rfl
 have cD: ∀x c,Xc.env.cells.lookup x=some c→c≠D:=fun x c e=>by
  rw[Cv] at e
  obtain⟨v,q⟩:=I.cell x c (S.cells I e).1
  rw[←eD];exact Nat.ne_of_lt q.lt
 have cF: ∀x c,Xc.env.cells.lookup x=some c→ ∀b∈fp,c≠b:=fun x c e b hb=>by
  rw[Cv] at e
  exact(f2 b hb).2.2.2.2.1 x c (S.cells I e).1
 have sF: ∀b∈D::fp,b∉Xc.fs:=fun b hb hf=>by
  have:=(I4 0).ok.qw b (by rw[rq];exact hb)
  exact this hf
 have jW: ∀{H':Hp} {oD:Obj},(∀b∈fp,H' b=none)→ ∀b∈fp,fK Xc [(D,oD)] H' b:=fun hn b hb=>
  ⟨hn b hb,by rw[xL];exact KP b hb,sF b (List.mem_cons_of_mem _ hb), .inl (by rw[rq];exact List.mem_cons_of_mem _ hb),fun x c e=>cF x c e b hb,fun p hp=>by
   rw[Ct] at hp
   rcases List.mem_singleton.mp (show p∈ [(D,_)] from hp) with rfl
   exact(Cs b hb).symm⟩
 have loop: ∀s₄:Shared,s₄={s₃ with heap:=h₁,toks:=s₃.toks+ ([]:List (Str×Value)).length}→
   codeAny (model X.prog X.w) X.A (.compLoop (.ListComp elt [⟨tg,iter,ifs,0⟩] scope pos) 0 (.ref it) (.ref D) (compEnvC scope (cH X.env.cells scope.names []) C X.env)) (RR (.ref D) C) s₄:=by
  rintro s₄ rfl
  refine Ky (fun n s'=> ∃i pre ys its nn H',Inv Xc [(D,{cls:= .type "list",data:= .seq (List.toArray its) nn})] (pre++bX σ fv) H' s'∧pre.length=ln.length∧tn i s'.heap∧(∀b∈fp,H' b=none)∧Vals ys its∧ys.length≤sizeLine∧W i n ys H') ?_ m0
   ⟨0,ln.map (fun _=>none),[],[],0,H,(I4 _).mz (fun p hp=> ?_),by simp,T.keep 0 _ _ st (fun b _ o e=>k4 b o (k3 b o e)),fun b hb=> (f2 b hb).1, .nil,Nat.zero_le _,w0⟩
  rotate_left
  ·have uH:=List.mem_singleton.mp hp
   subst uH
   refine⟨k4 _ _ gD,I.aF.fresh (Nat.le_of_eq eD),by rw[xL];exact rp,sF D List.mem_cons_self,fun v z=>by cases z⟩
  rintro n s' ⟨i,pre,ys,its,nn,H',I',mI,du,Cw,hv,hz,w'⟩
  have ZI:=I'.pin (D,_) (List.mem_append_right _ List.mem_cons_self)
  rcases turn i n ys H' w' with⟨stop,qn⟩ | ⟨go,step⟩
  ·have td:=T.done Xc xP xw xK xc i _ s' _ H' (fun _ _=>False) I' (jW Cw) du stop
   rw[xA] at td
   refine aL td fun r s1 ⟨hr,I1⟩=> ?_
   subst hr
   have uI:=I1.pin (D,_) (List.mem_append_right _ List.mem_cons_self)
   have b1:=I1.base
   rw[KQ,rq] at b1
   have Cy:Xc.s₀=s₃:=by rw[←eX];rfl
   have KR:Xc.H₀=H:=by rw[←eX];rfl
   rw[Cy,KR] at b1
   have nD: ∀b o,s₂.heap.get? b=some o→b∉fp→b∉D::fp:=fun b o e hb hm=>by
    rcases List.mem_cons.mp hm with z | z
    ·have:=Heap.lt_size e
     rw[z,eD] at this;exact Nat.lt_irrefl _ this
    ·exact hb z
   have un:Un (bh X.stack) fp H H' s₂.heap s1.heap:=⟨fun b o e nb hb hx=>b1.keep b o (k3 b o e) nb hb (nD b o e hx),fun b o e nb hb hx=>b1.slot b o (k3 b o e) nb hb (nD b o e hx),fun b o e nb hx=>b1.free b o (k3 b o e) nb (nD b o e hx),
    fun b o e hx=>b1.there b o (k3 b o e) (nD b o e hx),b1.dM,b1.dr,b1.dN⟩
   have KS:s1.os=s₂.os:=by rw[I1.os,Cy,Cr]
   have Cz:=I1.aF
   rw[xP,xw] at Cz
   have J1:Inv X pins σ H' s1:=I.tW KS un Cz I1.bare fun b hb=> ⟨(f2 b hb).2.2.2.1,(f2 b hb).2.1,(f2 b hb).2.2.2.2.1,(f2 b hb).2.2.2.2.2⟩
   have KU: ∀x c,X.env.cells.lookup x=some c→c≠D:=fun x c e=>by
    obtain⟨v,q⟩:=I.cell x c e
    rw[←eD];exact Nat.ne_of_lt q.lt
   have KW: ∀x c,X.env.cells.lookup x=some c→c≠C:=fun x c e=>by
    obtain⟨v,q⟩:=I.cell x c e
    rw[←eC,j9];exact Nat.ne_of_lt (Nat.lt_succ_of_lt q.lt)
   have pD: ∀p∈X.pn++pins,p.1≠D:=fun p hp=>by rw[←eD];exact Nat.ne_of_lt (Heap.lt_size (I.pin p hp).1)
   have pC: ∀p∈X.pn++pins,p.1≠C:=fun p hp=>by
    rw[←eC,j9];exact Nat.ne_of_lt (Nat.lt_succ_of_lt (Heap.lt_size (I.pin p hp).1))
   have lD:D≠X.env.locals:=by rw[←eD];exact Nat.ne_of_gt I.lt
   have lC:C≠X.env.locals:=by
    rw[←eC,j9];exact Nat.ne_of_gt (Nat.lt_succ_of_lt I.lt)
   have J2:Inv X pins σ (upd H' D (.lst ys)) s1:=Inv.uC J1 uI.2.1 (by rw[←eD];exact I.sz) lD KU pD ⟨hz,its,nn,hv,uI.1⟩
   obtain⟨mC,CA,_⟩:=I1.loc
   rw[xL] at CA
   have fC:H' C=none:=by have:=I1.free;rw[xL] at this;exact this
   exact KN D C _ s1 mC J2 CA (by rw[bC (Ne.symm rp)];exact fC) lC (by rw[←eC,j9];exact Nat.le_succ_of_le I.sz) KW pC (qn D uI.2.1)
  ·have ti:=T.item Xc xP xw xK xc i _ s' _ H' (fun _ _=>False) I' (jW Cw) du go
   rw[xA] at ti
   refine aL ti fun r s4 ⟨u,hr,h4⟩=> ?_
   subst hr
   refine aL h4 fun _ s5 ⟨x,H5,I5,r5,y5,jX,t9⟩=> ?_
   have nP:=I5.pinned (jW t9) (T.obj _ _ jX)
   obtain⟨g,pg,gq⟩:=hg (D::fp) C s₃ H hΨ
   rw[eX] at pg
   have rd:=step x H5 y5
   have CB:=pg _ s5 _ H5 x u (fun σ6 H6=> ∃xs:List V,σ6=xs.map some++bX σ fv∧xs.length=ln.length∧H6=H5∧
     j6 tc (xs.map some++bX σ fv) H5 fun b H5=>
     if b=true then te (xs.map some++bX σ fv) H5 fun y H6=>ys.length<sizeLine∧ ∃m',m'<n∧W (i+1) m' (ys++ [y]) H6
     else ∃m',m'<n∧W (i+1) m' ys H5) nP r5 (gq x pre (bX σ fv) H5 _ mI (by
      cases tk with
      | none=>exact fun hl=> ⟨_,rfl,hl,rfl,rd⟩
      | some k=>
       obtain⟨a,xs,e1,e2,e3,rd⟩:=rd
       exact⟨a,xs,e1,e2,e3,fun hl=> ⟨xs,rfl,hl,rfl,rd⟩⟩))
   rw[xA,xP,xw,uF,uG] at CB
   refine aL CB fun _ s6 ⟨σ6,H6,I6,xs,e6,oh,eH,CC⟩=> ?_
   subst e6 eH
   have CD: ∀{H7:Hp} {σ7:St} {s7:Shared},Inv Xc ([(D,{cls:= .type "list",data:= .seq (List.toArray its) nn})]++mE fp s5.heap) σ7 H7 s7→tn (i+1) s7.heap∧(∀b∈fp,H7 b=none)∧s7.heap.get? D=some {cls:= .type "list",data:= .seq (List.toArray its) nn}∧H7 D=none:=fun {H7 σ7 s7} I7=>by
    refine⟨T.keep _ _ _ jX fun b hb o e=> (I7.pin (b,o) (List.mem_append_right _ (List.mem_append_right _ (qI hb e)))).1,fun b hb=> ?_, ?_, ?_⟩
    ·obtain⟨o,e,d⟩:=T.obj _ _ jX b hb
     exact(I7.pin (b,o) (List.mem_append_right _ (List.mem_append_right _ (qI hb e)))).2.1
    ·exact(I7.pin (D,_) (List.mem_append_right _ (List.mem_append_left _ List.mem_cons_self))).1
    ·exact(I7.pin (D,_) (List.mem_append_right _ (List.mem_append_left _ List.mem_cons_self))).2.1
   have tests:wpAny (model X.prog X.w) X.A (forIn ifs true fun c r=>if r=true then do let ok ←isTrue c (compEnvC scope (cH X.env.cells scope.names []) C X.env) (eval c (compEnvC scope (cH X.env.cells scope.names []) C X.env));pure (ForInStep.yield ok) else pure (ForInStep.yield r))
     (fun ok s7=> ∃H7,Inv Xc ([(D,{cls:= .type "list",data:= .seq (List.toArray its) nn})]++mE fp s5.heap) (xs.map some++bX σ fv) H7 s7∧
      if ok=true then te (xs.map some++bX σ fv) H7 fun y H6=>ys.length<sizeLine∧ ∃m',m'<n∧W (i+1) m' (ys++ [y]) H6
      else ∃m',m'<n∧W (i+1) m' ys H7) (fun _ _=>False) s6:=by
    cases tc with
    | none=>
     have uJ:ifs=[]:=ht
     subst uJ
     exact wpAny_tests_nil ⟨_,I6,CC⟩
    | some t=>
     obtain⟨c,uJ,pt⟩:=(show ∃c,ifs=[c]∧ ∀(ex:List Addr) (C:Addr) (s:Shared) (H:Hp),PT (ei X scope (ln++fv.map (·.1)) ex C s H) c t from ht)
     subst uJ
     have CF:=pt (D::fp) C s₃ H
     rw[eX] at CF
     have q:=CF _ s6 _ _ _ I6 CC
     rw[xA,xP,xw,uF,uG] at q
     exact wpAny_tests_one (aL q fun b s7 ⟨H7,I7,q7⟩=> ⟨H7,I7,q7⟩)
   refine aL tests fun ok s7 ⟨H7,I7,q7⟩=> ?_
   cases ok with
   | false=>
    simp only[Bool.false_eq_true,if_false] at q7⊢
    obtain⟨m',hm,w7⟩:=q7
    obtain⟨t7,f7,d7,n7⟩:=CD I7
    refine⟨m',hm,i+1,xs.map some,ys,its,nn,H7,I7.mz (fun p hp=> ?_),by simpa using oh,t7,f7,hv,hz,w7⟩
    exact I7.pin p (List.mem_append_right _ (List.mem_append_left _ hp))
   | true=>
    simp only[if_true] at q7⊢
    have q:=he (D::fp) C s₃ H
    rw[eX] at q
    have q:=q _ s7 _ H7 _ I7 q7
    rw[xA,xP,xw,uF,uG] at q
    refine aL q fun uy s8 ⟨y,H8,I8,r8,aQ,m',hm,w8⟩=> ?_
    obtain⟨t8,f8,d8,n8⟩:=CD I8
    have hl:=hv.length
    refine call_meets F.slot_list_append ⟨_,d8,rfl⟩ F.entry_list_append (F.args_list_append_2 _ _) (PySem.list_append D its.toArray nn uy (by rw[List.size_toArray];omega)) ⟨d8, ?_⟩
    have I9: ∀t,Inv Xc [] (xs.map some++bX σ fv) H8 {s8 with heap:=s8.heap.update D (Obj.mapSeq (·.push uy)),toks:=t}:=fun t=>
     (I8.mz (fJ:=[]) (fun p hp=>absurd hp (by simp))).turned (it:=D) (t':=t) (fun b o hb e=> (Heap.get?_update_other s8.heap (Obj.mapSeq (·.push uy)) (Ne.symm hb)).trans e) n8 (by rw[xL];exact rp) (.inl (by rw[rq];exact List.mem_cons_self)) cD
      (fun p hp=>by rw[Ct] at hp;exact absurd hp (by simp))
    have g9:=PySem.IsL.update d8 (·.push uy)
    obtain⟨n9,KY⟩: ∃n9,(s8.heap.update D (Obj.mapSeq (·.push uy))).get? D=some {cls:= .type "list",data:= .seq (its++ [uy]).toArray n9}:=
     ⟨_,by rw[show(its++ [uy]).toArray=its.toArray.push uy by simp];exact g9⟩
    refine⟨m',hm,i+1,xs.map some,ys++ [y],its++ [uy],n9,H8,(I9 _).mz (fun p hp=> ?_),by simpa using oh, ?_,f8,hv.append (.cons r8 .nil), ?_,w8⟩
    ·have uH:=List.mem_singleton.mp hp
     subst uH
     exact⟨KY,n8,by rw[xL];exact rp,sF D List.mem_cons_self,fun v z=>by cases z⟩
    ·exact T.keep _ _ _ t8 fun b hb o e=> (Heap.get?_update_other s8.heap (Obj.mapSeq (·.push uy)) (Ne.symm (Cs b hb))).trans e
    ·rw[List.length_append,List.length_singleton];omega
 have KZ:tn 0 h₁:=T.keep 0 _ _ st fun b _ o e=>k4 b o (k3 b o e)
 have e4:({s₂ with heap:=h₁,toks:=s₂.toks+ ([]:List (Str×Value)).length}:Shared)={s₃ with heap:=h₁,toks:=s₃.toks+ ([]:List (Str×Value)).length}:=by rw[←rm]
 exact codeAny_compStart_list (loop _ e4) (T.self X.A 0 _ _ _ KZ (loop _ e4))
end
section
variable {X:Cx} {scope:Scope} {ln:List Str} {fv:List (Str×Nat)} {elt tg iter:Expr} {ifs:List Expr} {pos:Pos} {wi:TI} {tk:Option Nat} {tc:Option TT} {te:TE}
theorem K0{Φ:Cx→Prop}{Ψ:Hp→Prop}(S:g7 X scope ln fv)(hc: ∀H,Ψ H→ ∀Xc:Cx,Xc.A=X.A→Xc.calm=X.calm→Xc.H₀=H→Φ Xc)(hΨ: ∀pins σ H s,Inv X pins σ H s→Ψ H)(hi:q9 Φ X tg iter wi)(hg:q_ Ψ X scope ln fv tg tk)(ht:rg X scope (ln++fv.map (·.1)) ifs tc)
  (he: ∀(ex:List Addr) (C:Addr) (s:Shared) (H:Hp),PE (ei X scope (ln++fv.map (·.1)) ex C s H) elt te) (hs: ∀x,foldedSetIterable iter X.env x=pure x:=by intro _;rfl):
  PE X (.ListComp elt [⟨tg,iter,ifs,0⟩] scope pos) (mJ X.K wi tk fv tc te):=by
 intro pins s σ H Q I h
 rw[eval_ListComp]
 refine wpAny_comprehension_free (use:=none) rfl hs (S.Cm I) S.kind S.locals (aL (hi pins s σ H _ I h) fun v s1 h1=>aL h1 fun jV s2 h2=> ?_)
 obtain⟨it,fp,tn,J,H2,e,I2,T,nN,f2,hW⟩:=h2
 subst e
 refine Cp (RR:=fun acc C=>compPost (model X.prog X.w) X.A X.xe none (EP X pins σ Q) acc C) S (hc H2 (hΨ _ _ _ _ I2)) (hΨ _ _ _ _ I2) hg ht he I2 T nN f2 hW ?_
 intro D C H' s' m I' ns hn hL h0 rz hp q
 refine⟨m,ns,fun h' sb=> ⟨.ref D,H', ?_,rfl,q⟩⟩
 exact I'.turned (it:=C) (t':=s'.toks) (fun b o hb e=>sb.extBut b o hb e) hn hL (.inr h0) rz hp
theorem K1{Φ:Cx→Prop}{Ψ:Hp→Prop}{i:Nat}{y:Str}{py CG:Pos}(hN:X.N.Nodup)(bY:X.N[i]?=some y)(hy:Loc X.env.scope y)(K2:swapsWith (.ListComp elt [⟨tg,iter,ifs,0⟩] scope pos) (some (.Name y py)) CG.line X.env=pure true)
  (S:g7 X scope ln fv) (hc: ∀H,Ψ H→ ∀Xc:Cx,Xc.A=X.A→Xc.calm=X.calm→Xc.H₀=H→Φ Xc) (hΨ: ∀pins σ H s,Inv X pins σ H s→Ψ H) (hi:q9 Φ X tg iter wi) (hg:q_ Ψ X scope ln fv tg tk) (ht:rg X scope (ln++fv.map (·.1)) ifs tc)
  (he: ∀(ex:List Addr) (C:Addr) (s:Shared) (H:Hp),PE (ei X scope (ln++fv.map (·.1)) ex C s H) elt te) (hs: ∀x,foldedSetIterable iter X.env x=pure x:=by intro _;rfl)
  (hf:X.fn y=true∨X.env.scope.names.lookup y=some .local:=by first | exact .inl rfl | exact .inr rfl | assumption):
  PS X (.Assign [.Name y py] (.ListComp elt [⟨tg,iter,ifs,0⟩] scope pos) CG) (gY (mJ X.K wi tk fv tc te) (cW i)):=by
 intro pins s σ H D I h
 rw[exec_Assign_Name_used _ _ _ _ K2]
 refine wpAny_bind (wpAny_standAt (wpAny_bind ?_))
 show wpAny _ X.A (do let _ ←comprehension (.ListComp elt [⟨tg,iter,ifs,0⟩] scope pos) scope X.env _ (newList []) false (eval iter X.env) (some (assign (.Name y py) X.env))) _ _ s
 refine wpAny_bind (wpAny_mono (wpAny_comprehension_free (use:=some (assign (.Name y py) X.env)) (Q:=fun _ s'=>SP X pins D .next s') rfl hs (S.Cm I) S.kind S.locals
  (aL (hi pins s σ H _ I h) fun v s1 h1=>aL h1 fun jV s2 h2=> ?_)) (fun _ s' hq=>wpAny_pure (wpAny_pure hq)) fun _ _ e=>e)
 obtain⟨it,fp,tn,J,H2,e,I2,T,nN,f2,hW⟩:=h2
 subst e
 refine Cp (Qv:=fun x H1=>cW i x σ H1 D.nx) (RR:=fun acc C=>compPost (model X.prog X.w) X.A X.xe (some (assign (.Name y py) X.env)) (fun _ s'=>SP X pins D .next s') acc C) S (hc H2 (hΨ _ _ _ _ I2)) (hΨ _ _ _ _ I2) hg ht he I2 T nN f2 hW ?_
 intro Da C H' s' m I' ns hn hL h0 rz hp q
 show wpAny _ X.A (assign (.Name y py) X.env (.ref Da)) _ _ _
 refine wpAny_assign_Name (AK I' hN bY hy (v:= .ref Da) rfl (fun s4 I4 ⟨a,sb,ha⟩=> ?_) hf)
 have K3:C≠a:=by
  rcases ha with z | z
  ·rw[z];exact hL
  ·exact Ne.symm (rz _ _ z)
 refine⟨m,ns.sameBut sb K3,fun h' K4=> ⟨_,H', ?_,q⟩⟩
 exact I4.turned (it:=C) (t':=s4.toks) (fun b o hb e=>K4.extBut b o hb e) hn hL (.inr h0) rz hp
theorem K5(S:g7 X scope ln fv)(hc:X.calm=true)(hi:PI X tg iter wi)(hg:rf X scope ln fv tg tk)(ht:rg X scope (ln++fv.map (·.1)) ifs tc)
  (he: ∀(ex:List Addr) (C:Addr) (s:Shared) (H:Hp),PE (ei X scope (ln++fv.map (·.1)) ex C s H) elt te) (hs: ∀x,foldedSetIterable iter X.env x=pure x:=by intro _;rfl):
  PE X (.ListComp elt [⟨tg,iter,ifs,0⟩] scope pos) (mJ X.K wi tk fv tc te):=
 K0 (Φ:=Calm) (Ψ:=fun _=>True) S (fun _ _ Xc _ e _=>e.trans hc) (fun _ _ _ _ _=>trivial) hi.p (fun ex C s H _=>hg ex C s H) ht he hs
end
section
variable {X:Cx} {scope:Scope} {fv:List (Str×Nat)}
theorem K6{x:Str}{px:Pos}(hl:scope.names.lookup x=some .local)(j_:(x::fv.map (·.1)).Nodup):rf X scope [x] fv (.Name x px) none:=by
 intro ex C s H
 have K7:Loc (ei X scope ([x]++fv.map (·.1)) ex C s H).env.scope x:= .inl (lookup_relabel_local hl)
 refine⟨cW 0,mB (X:=ei X scope ([x]++fv.map (·.1)) ex C s H) j_ rfl K7 (.inr (lookup_relabel_local hl)),fun v pre φ H' Q hp h=> ?_⟩
 obtain⟨a,rfl⟩: ∃a,pre=[a]:=by
  match pre,hp with
  | [a],_=>exact⟨a,rfl⟩
 exact h rfl
theorem K8{x y:Str}{px py pos:Pos}{k:Nat}(hc:X.calm=true)(hx:scope.names.lookup x=some .local)(hy:scope.names.lookup y=some .local)(j_:(x::y::fv.map (·.1)).Nodup):rf X scope [x,y] fv (.Tuple [.Name x px, .Name y py] k pos) (some 2):=by
 intro ex C s H
 generalize eX:ei X scope ([x,y]++fv.map (·.1)) ex C s H=Xc
 have xN:Xc.N=x::y::fv.map (·.1):=by rw[←eX];rfl
 have xc:Xc.calm=true:=by rw[←eX];exact hc
 have lx:Xc.env.scope.names.lookup x=some .local:=by rw[←eX];exact lookup_relabel_local hx
 have ly:Xc.env.scope.names.lookup y=some .local:=by rw[←eX];exact lookup_relabel_local hy
 have p1:PG Xc (.Name x px) (cW 0):=mB (by rw[xN];exact j_) (by rw[xN];rfl) (.inl lx) (.inr lx)
 have p2:PG Xc (.Name y py) (cW 1):=mB (by rw[xN];exact j_) (by rw[xN];rfl) (.inl ly) (.inr ly)
 have xK:Xc.K=X.K:=by rw[←eX];rfl
 refine⟨qF Xc.K 2 (mD (cW 0) (mD (cW 1) qE)),Bb xc (nJ p1 (nJ p2 t4)),fun v pre φ H' Q hp h=> ?_⟩
 obtain⟨a,b,rfl⟩: ∃a b,pre=[a,b]:=by
  match pre,hp with
  | [a,b],_=>exact⟨a,b,rfl⟩
 obtain⟨a',xs,rfl,e2,e3,q⟩:=h
 obtain⟨v1,v2,rfl⟩: ∃v1 v2,xs=[v1,v2]:=by
  match xs,e3 with
  | [v1,v2],_=>exact⟨v1,v2,rfl⟩
 exact⟨a',_,rfl,by rw[xK];exact e2,rfl,v1,_,rfl,v2,_,rfl,rfl,q rfl⟩
end
section
variable {X:Cx}
theorem aR.imp{f:Value→Value→Sem Value}{r r':R2}(h:aR X f r)(i: ∀x y H Q,r' x y H Q→r x y H Q):aR X f r':=fun pins s σ H x y v u Q I rx ry q=>h pins s σ H x y v u Q I rx ry (i _ _ _ _ q)
theorem bA.imp{f:Value}{r r':List V→Hp→VK→Prop}(h:bA X f r)(i: ∀xs H Q,r' xs H Q→r xs H Q):bA X f r':=fun pins s σ H xs us Q I rv q=>h pins s σ H xs us Q I rv (i _ _ _ q)
def CH(K:Frag):R2:=fun x y H Q=>match x,y with
 | .int i, .int j=>Q (.int (i+j)) H
 | .str i, .str j=>i.length+j.length≤sizeLine∧Q (.str (i++j)) H
 | .ref l, .ref b=>BX (.ref l) (.ref b) H Q∨BN K (.ref l) (.ref b) H Q
 | _,_=>False
theorem K9:aR X (binaryOp .Add) (CH X.K):=by
 refine aR.imp ((Ir.or IX).or (J_.or JC)) fun x y H Q h=> ?_
 cases x<;>cases y<;>first
  | exact False.elim h
  | exact .inl (.inl ⟨_,_,rfl,rfl,h⟩)
  | exact .inl (.inr ⟨_,_,rfl,rfl,h⟩)
  | exact .inr h
def g8(C:Int→Int→Prop)(g:Int→Int→V):R2:=fun x y H Q=>match x,y with
 | .int i, .int j=>C i j∧Q (g i j) H
 | _,_=>False
theorem uK{C:Int→Int→Prop}{g:Int→Int→V}(x y:V)(H:Hp)(Q:VK)(h:g8 C g x y H Q):rI C g x y H Q:=by
 cases x<;>cases y<;>first
  | exact False.elim h
  | exact⟨_,_,rfl,rfl,h⟩
theorem oi{g:Int→Int→V}(x y:V)(H:Hp)(Q:VK)(h:g8 (fun _ _=>True) g x y H Q):iA g x y H Q:=by
 cases x<;>cases y<;>first
  | exact False.elim h
  | exact⟨_,_,rfl,rfl,h.2⟩
def CI:R2:=fun x y H Q=>match x,y with
 | .int i, .int j=>qN i j∧Q (.int (i*j)) H
 | .ref l, .int k=>BY (.ref l) (.int k) H Q
 | _,_=>False
theorem K_:aR X (binaryOp .Mult) CI:=by
 refine aR.imp (Iv.or Ka) fun x y H Q h=> ?_
 cases x<;>cases y<;>first
  | exact False.elim h
  | exact .inl ⟨_,_,rfl,rfl,h⟩
  | exact .inr h
def kc(K:Frag):Operator→R2
 | .Add=>CH K
 | .Sub=>g8 (fun _ _=>True) fun i j=> .int (i - j)
 | .Mult=>CI
 | .FloorDiv=>g8 Bl fun i j=> .int (i / j)
 | .Mod=>g8 (fun _ j=>0<j) fun i j=> .int (i % j)
 | .Pow=>g8 Bm fun i j=> .int (i ^ j.toNat)
 | _=>fun _ _ _ _=>False
theorem La(op:Operator):aR X (binaryOp op) (kc X.K op):=by
 cases op<;>first
  | exact K9
  | exact aR.imp Iu oi
  | exact K_
  | exact aR.imp Iw uK
  | exact aR.imp Iy uK
  | exact aR.imp Iz uK
  | exact fun _ _ _ _ _ _ _ _ _ _ _ _ h=>False.elim h
mutual
def Is(H:Hp):PyData→V→Prop
 | .none,v=>v= .ai
 | .bool b,v=>v= .bl b
 | .int i,v=>v= .int i
 | .str x,v=>v= .str x
 | .list xs,v=> ∃a vs,v= .ref a∧H a=some (.lst vs)∧IsL H xs vs
 | .tuple xs,v=> ∃a vs,v= .ref a∧H a=some (.tup vs)∧IsL H xs vs
 | .dict _,_=>False
def IsL(H:Hp):List PyData→List V→Prop
 | [],vs=>vs=[]
 | d::ds,vs=> ∃v r,vs=v::r∧Is H d v∧IsL H ds r
end
mutual
theorem Is.reads{pins:List (Addr×Obj)}{σ:St}{H:Hp}{s:Shared}(I:Inv X pins σ H s): ∀(d:PyData) (v:V) (u:Value),Is H d v→RelV v u→ ∃as,Reads s.heap u d as
 | .none,v,u,h,r=>by rw[show v= .ai from h] at r;rw[show u= .none from r];exact⟨_, .none⟩
 | .bool b,v,u,h,r=>by rw[show v= .bl b from h] at r;rw[show u= .bool b from r];exact⟨_, .bool b⟩
 | .int i,v,u,h,r=>by rw[show v= .int i from h] at r;obtain⟨t,e⟩:=r;rw[e];exact⟨_, .int i t⟩
 | .str x,v,u,h,r=>by rw[show v= .str x from h] at r;obtain⟨t,e⟩:=r;rw[e];exact⟨_, .str x t⟩
 | .list xs,v,u,h,r=>by
  obtain⟨a,vs,e,hH,hl⟩:=(show ∃a vs,v= .ref a∧H a=some (.lst vs)∧IsL H xs vs by simpa only[Is] using h)
  rw[e] at r
  rw[show u= .ref a from r]
  obtain⟨_,its,n,hv,hg⟩:=I.aF a _ hH
  obtain⟨as,q⟩:=IsL.reads I xs vs its hl hv
  exact⟨_, .list hg rfl rfl (by simpa using q)⟩
 | .tuple xs,v,u,h,r=>by
  obtain⟨a,vs,e,hH,hl⟩:=(show ∃a vs,v= .ref a∧H a=some (.tup vs)∧IsL H xs vs by simpa only[Is] using h)
  rw[e] at r
  rw[show u= .ref a from r]
  obtain⟨_,its,hv,o,hg,hc,n,hd⟩:=I.aF a _ hH
  obtain⟨as,q⟩:=IsL.reads I xs vs its hl hv
  exact⟨_, .tuple hg hc hd (by simpa using q)⟩
 | .dict _,v,u,h,r=>by simp only[Is] at h
theorem IsL.reads{pins:List (Addr×Obj)}{σ:St}{H:Hp}{s:Shared}(I:Inv X pins σ H s): ∀(ds:List PyData) (vs:List V) (us:List Value),IsL H ds vs→Vals vs us→ ∃as,ReadsAll s.heap us ds as
 | [],vs,us,h,r=>by
  rw[show vs=[] from h] at r
  cases r
  exact⟨_, .nil⟩
 | d::ds,vs,us,h,r=>by
  obtain⟨v,q,e,h1,h2⟩:=(show ∃v r,vs=v::r∧Is H d v∧IsL H ds r by simpa only[IsL] using h)
  rw[e] at r
  cases r with
  | cons r1 r2=>
   obtain⟨as,q1⟩:=Is.reads I d v _ h1 r1
   obtain⟨bs,q2⟩:=IsL.reads I ds q _ h2 r2
   exact⟨_, .cons q1 q2⟩
end
def Lb:V→Bool
 | .jQ _=>false
 | .dJ _=>false
 | _=>true
def Lc:R2:=fun x y H Q=> ∃a b xs,x= .ref a∧y= .ref b∧H a=some (.lst xs)∧H b=some (.lst xs)∧xs.all Lb=true∧Q (.bl true) H
def kd(neg:Bool):R2:=fun x y H Q=>match jY x y with
 | true=>Q (.bl (neg ^^ decide (x=y))) H
 | false=> ∃d e,Is H d x∧Is H e y∧SeqAt.shaped d=true∧SeqAt.shaped e=true∧Q (.bl (neg ^^ PyData.eqv d e)) H
def Ld:R2:=fun x y H Q=>kd false x y H Q∨Lc x y H Q
theorem Le(hu:X.A.units+64<cLine):aR X (compareOp .Eq) (kd false):=by
 intro pins s σ H x y v u Q I rx ry h
 unfold kd at h
 by_cases hs:jY x y=true
 ·rw[hs] at h
  simp only[Bool.false_xor] at h
  exact IE pins s σ H x y v u Q I rx ry ⟨hs,h⟩
 ·rw[show jY x y=false by simpa using hs] at h
  obtain⟨d,e,h1,h2,h3,h4,q⟩:=h
  rw[Bool.false_xor] at q
  obtain⟨as,r1⟩:=Is.reads I d x v h1 rx
  obtain⟨bs,r2⟩:=Is.reads I e y u h2 ry
  exact eq_dataH r1 r2 h3 h4 hu ⟨.bl _,H,I,rfl,q⟩
theorem Lf(hu:X.A.units+64<cLine):aR X (compareOp .NotEq) (kd true):=by
 intro pins s σ H x y v u Q I rx ry h
 unfold kd at h
 by_cases hs:jY x y=true
 ·rw[hs] at h
  simp only[Bool.true_xor] at h
  exact IF pins s σ H x y v u Q I rx ry ⟨hs,h⟩
 ·rw[show jY x y=false by simpa using hs] at h
  obtain⟨d,e,h1,h2,h3,h4,q⟩:=h
  rw[Bool.true_xor] at q
  obtain⟨as,r1⟩:=Is.reads I d x v h1 rx
  obtain⟨bs,r2⟩:=Is.reads I e y u h2 ry
  exact ne_dataH r1 r2 h3 h4 hu ⟨.bl _,H,I,rfl,q⟩
theorem Lg(l:Addr)(o:Obj)(es:Array DictEntry)(ep:Nat)(hc:o.cls= .type "dict")(hd:o.data= .dict es ep)(b:Str)(u:Tok):
  Meets (Builtin.«dict.__eq__» ⟨[.ref l, .str b u],[]⟩) (fun _ R s=>s.heap.get? l=some o∧R (.ok (.ret .notImplemented)) s):=
 .of_wp fun prog w A R s h=>by obtain⟨hp,g,d,tk,os⟩:=s;obtain⟨hl,h⟩:=h;obtain⟨cls,dd,data,sl⟩:=o;simp only at hc hd;subst hc hd;have f1:=F.sub_str_dict;wp_walk using AutoSeq1.wpAny_loadPart' hl;exact⟨_,rfl,h⟩
theorem Lh(b:Str)(u:Tok)(l:Addr)(o:Obj)(es:Array DictEntry)(ep:Nat)(hc:o.cls= .type "dict")(hd:o.data= .dict es ep):
  Meets (Builtin.«str.__eq__» ⟨[.str b u, .ref l],[]⟩) (fun _ R s=>s.heap.get? l=some o∧R (.ok (.ret .notImplemented)) s):=
 .of_wp fun prog w A R s h=>by obtain⟨hp,g,d,tk,os⟩:=s;obtain⟨hl,h⟩:=h;obtain⟨cls,dd,data,sl⟩:=o;simp only at hc hd;subst hc hd;wp_walk using AutoSeq1.wpAny_loadPart' hl,wpAny_load hl;exact⟨_,rfl,h⟩
theorem Li{A:Around}{s:Shared}{l:Addr}{o:Obj}{es:Array DictEntry}{ep:Nat}(b:Str)(u:Tok)(ho:s.heap.get? l=some o)(hc:o.cls= .type "dict")(hd:o.data= .dict es ep)(hu:A.units<cLine):SeqAt.EqAt A s (.str b u) (.ref l) false:=fun prog w E Q h=>by
 have rc:SeqAt.RcAt A s (.str b u) (.ref l) false:=fun prog w E Q h=>
  SeqAt.rc_eq_decline_or (k:=false) (typeIs_str s b u) ⟨_,ho,hc⟩ (by decide) F.sub_dict_str F.slot_str_eq F.slot_dict_eq_refl
   (fun _ hq=>call_meets F.slot_str_eq (typeIs_str s b u) F.entry_str_eq (F.args_str_eq_2 _ _) (Lh b u l o es ep hc hd) ⟨ho,hq⟩)
   (fun _ hq=>call_meets F.slot_dict_eq_refl ⟨_,ho,hc⟩ F.entry_dict_eq (F.args_dict_eq_2 _ _) (Lg l o es ep hc hd b u) ⟨ho,hq⟩)
   (fun _ hq=>wpAny_of_eq (rfl:isSame (.str b u) (.ref l)=pure false) hq) (.inr hu) h
 unfold eqBool
 refine wpAny_holding ?_
 refine wpAny_ite_split (fun gp=>absurd (eq_of_beq gp) nofun) (fun _=> ?_)
 exact wpAny_bind (rc prog w E _ (wpAny_truthy_bool h))
def CJ(K:Frag)(H:Hp)(a:Addr):Prop:=(∃xs,ao K H a xs)∨(∃xs,aU K H a xs)∨ ∃aH,H a=some (.dK aH)
theorem oj{pins:List (Addr×Obj)}{σ:St}{H:Hp}{s:Shared}{a:Addr}(I:Inv X pins σ H s)(hc:CJ X.K H a)(hu:X.A.units+64<cLine): ∀{ts:List Str} {us:List Value},Vals (ts.map V.str) us→ ∀u∈us,SeqAt.EqAt X.A.in1 s u (.ref a) false
 | [],_, .nil=>fun u hu=>by cases hu
 | t::ts,u::us, .cons r rs=>fun u' om=>by
  rcases List.mem_cons.mp om with rfl | om
  ·obtain⟨k,rfl⟩:=(show ∃k,_=Value.str t k from r)
   have uL:X.A.in1.units<cLine:=by show X.A.units+1<cLine;omega
   rcases hc with⟨xs,hc⟩ | ⟨xs,hc⟩ | ⟨aH,hc⟩
   ·obtain⟨its,_,pl,_⟩:=I.list hc
    exact SeqAt.EqAt.str_list t k pl.isList uL
   ·obtain⟨its,_,pl,_⟩:=I.tuple hc
    exact SeqAt.EqAt.str_tuple t k pl uL
   ·obtain⟨_,_,vs,_,o,es,ep,ho,hx,hd,_⟩:=(show bV X.prog X.w H s.heap a (.dK aH) from I.aF a _ hc)
    exact Li t k ho hx.1 hd uL
  ·exact oj I hc hu rs u' om
def rA(K:Frag)(neg:Bool):R2:=fun x y H Q=>match y with
 | .str j=> ∃i,x= .str i∧Q (.bl (if neg then !(!(Builtin.Str.occurrences j i 0 j.length 1).isEmpty) else !(Builtin.Str.occurrences j i 0 j.length 1).isEmpty)) H
 | .ref p=>match x with
  | .ref a=> ∃ts:List Str,(ao K H p (ts.map V.str)∨aU K H p (ts.map V.str))∧CJ K H a∧Q (.bl neg) H
  | x=>uo K neg x (.ref p) H Q
 | _=>False
theorem Lj(hu:X.A.units+64<cLine):aR X (compareOp .In) (rA X.K false):=by
 intro pins s σ H x y v u Q I rx ry h
 cases y with
 | str j=>
  obtain⟨i,e,q⟩:=h
  exact IL pins s σ H x _ v u Q I rx ry ⟨i,j,e,rfl,q⟩
 | ref p=>
  cases x with
  | ref a=>
   obtain⟨ts,hq,hc,q⟩:=h
   cases rx
   cases ry
   rcases hq with hq | hq
   ·obtain⟨its,r,pl,hz⟩:=I.list hq
    refine SeqAt.in_listAt (fun _=>false) pl.isList (fun w hw=>oj I hc hu r w (by simpa using hw)) ⟨.bl _,H,I,rfl, ?_⟩
    rw[show(its.toArray.any fun _=>false)=false by simp];exact q
   ·obtain⟨its,r,pl,hz⟩:=I.tuple hq
    refine SeqAt.in_tupleAt (fun _=>false) pl (fun w hw=>oj I hc hu r w (by simpa using hw)) ⟨.bl _,H,I,rfl, ?_⟩
    rw[show(its.toArray.any fun _=>false)=false by simp];exact q
  | _=>exact JN pins s σ H _ _ v u Q I rx ry h
 | _=>exact False.elim h
theorem Lk(hu:X.A.units+64<cLine):aR X (compareOp .NotIn) (rA X.K true):=by
 intro pins s σ H x y v u Q I rx ry h
 cases y with
 | str j=>
  obtain⟨i,e,q⟩:=h
  exact IQ pins s σ H x _ v u Q I rx ry ⟨i,j,e,rfl,q⟩
 | ref p=>
  cases x with
  | ref a=>
   obtain⟨ts,hq,hc,q⟩:=h
   cases rx
   cases ry
   rcases hq with hq | hq
   ·obtain⟨its,r,pl,hz⟩:=I.list hq
    refine SeqAt.notIn_listAt (fun _=>false) pl.isList (fun w hw=>oj I hc hu r w (by simpa using hw)) ⟨.bl _,H,I,rfl, ?_⟩
    rw[show(its.toArray.any fun _=>false)=false by simp];exact q
   ·obtain⟨its,r,pl,hz⟩:=I.tuple hq
    refine SeqAt.notIn_tupleAt (fun _=>false) pl (fun w hw=>oj I hc hu r w (by simpa using hw)) ⟨.bl _,H,I,rfl, ?_⟩
    rw[show(its.toArray.any fun _=>false)=false by simp];exact q
  | _=>exact JO pins s σ H _ _ v u Q I rx ry h
 | _=>exact False.elim h
theorem Ll{M:Model}{A:Around}{E:Value→Shared→Prop}{s:Shared}{Q:Value→Shared→Prop}{v:Value}{d:Bool}(hv: ∀id,v≠ .builtin id)(h:Q (.bool (v== .bool d)) s):wpAny M A (compareOp .Is v (.bool d)) Q E s:=by
 cases v<;>first | exact wpAny_pure h | exact absurd rfl (hv _)
theorem Lm{M:Model}{A:Around}{E:Value→Shared→Prop}{s:Shared}{Q:Value→Shared→Prop}{v:Value}{d:Bool}(hv: ∀id,v≠ .builtin id)(h:Q (.bool (!(v== .bool d))) s):wpAny M A (compareOp .IsNot v (.bool d)) Q E s:=by
 cases v<;>first | exact wpAny_pure h | exact absurd rfl (hv _)
def CK:R2:=fun x y H Q=>match y with
 | .bl b=>Q (.bl (decide (x= .bl b))) H
 | _=>y= .ai∧Q (.bl (decide (x= .ai))) H
def CL:R2:=fun x y H Q=>match y with
 | .bl b=>Q (.bl (!decide (x= .bl b))) H
 | _=>y= .ai∧Q (.bl (!decide (x= .ai))) H
theorem Ln:aR X (compareOp .Is) CK:=by
 intro pins s σ H x y v u Q I rx ry h
 cases y with
 | bl b=>
  cases ry
  have nb: ∀id,v≠ .builtin id:=fun id z=>by
   subst z
   cases x<;>first
    | (obtain⟨t,e⟩:=rx;cases e;done)
    | (cases rx;done)
  refine Ll nb (bE I (show Q (.bl (decide (x= .bl b))) H from h) ?_)
  cases x<;>first
   | (cases rx;rfl)
   | (obtain⟨t,rfl⟩:=rx;rfl)
   | (cases rx;rename_i a;cases a<;>cases b<;>rfl)
 | _=>exact IM pins s σ H x _ v u Q I rx ry h
theorem Lo:aR X (compareOp .IsNot) CL:=by
 intro pins s σ H x y v u Q I rx ry h
 cases y with
 | bl b=>
  cases ry
  have nb: ∀id,v≠ .builtin id:=fun id z=>by
   subst z
   cases x<;>first
    | (obtain⟨t,e⟩:=rx;cases e;done)
    | (cases rx;done)
  refine Lm nb (bE I (show Q (.bl (!decide (x= .bl b))) H from h) ?_)
  cases x<;>first
   | (cases rx;rfl)
   | (obtain⟨t,rfl⟩:=rx;rfl)
   | (cases rx;rename_i a;cases a<;>cases b<;>rfl)
 | _=>exact IP pins s σ H x _ v u Q I rx ry h
def bK(K:Frag):CmpOp→R2
 | .Eq=>kd false
 | .NotEq=>kd true
 | .Lt=>g8 (fun _ _=>True) fun i j=> .bl (decide (i<j))
 | .LtE=>g8 (fun _ _=>True) fun i j=> .bl (decide (i≤j))
 | .Gt=>g8 (fun _ _=>True) fun i j=> .bl (decide (j<i))
 | .GtE=>g8 (fun _ _=>True) fun i j=> .bl (decide (j≤i))
 | .In=>rA K false
 | .NotIn=>rA K true
 | .Is=>CK
 | .IsNot=>CL
theorem mL(hu:X.A.units+64<cLine)(op:CmpOp):aR X (compareOp op) (bK X.K op):=by
 cases op with
 | Eq=>exact Le hu
 | NotEq=>exact Lf hu
 | Lt=>exact aR.imp IG oi
 | LtE=>exact aR.imp IH oi
 | Gt=>exact aR.imp II oi
 | GtE=>exact aR.imp IJ oi
 | In=>exact Lj hu
 | NotIn=>exact Lk hu
 | Is=>exact Ln
 | IsNot=>exact Lo
inductive Ty where | int | str | bool | list | tuple | dict
 deriving DecidableEq
def Ty.nm:Ty→String
 | .int=> "int" | .str=> "str" | .bool=> "bool" | .list=> "list" | .tuple=> "tuple" | .dict=> "dict"
def bw(T:Ty)(x:V)(H:Hp)(Q:Bool→Prop):Prop:=match x with
 | .ai=>Q false
 | .bl _=>Q (T== .bool || T== .int)
 | .int _=>Q (T== .int)
 | .str _=>Q (T== .str)
 | .ref a=>match H a with
  | some (.lst _)=>Q (T== .list)
  | some (.bc _ (.lst _))=>Q (T== .list)
  | some (.tup _)=>Q (T== .tuple)
  | some (.dK _)=>Q (T== .dict)
  | some (.dT _)=>Q (T== .dict)
  | _=>False
 | _=>False
theorem jk(K:Frag)(S T:Ty):kitOne K (.type S.nm) (.type T.nm)=some (S==T || (S== .bool && T== .int)):=by
 cases S<;>cases T<;>rfl
theorem Lp(K:Frag)(T:Ty):kitOne K (.type "NoneType") (.type T.nm)=some false:=by
 cases T<;>rfl
theorem Lq(hc:X.calm=true):bA X (.builtin "sum") (fun xs H Q=> ∃(p:Addr) (ns:List Int),xs=[.ref p]∧ao X.K H p (ns.map V.int)∧Q (.int ns.sum) H):=by
 intro pins s σ H xs us Q I r h
 obtain⟨p,ns,rfl,hq,q⟩:=h
 obtain⟨u,rfl,ru⟩:=vals1 r
 cases ru
 obtain⟨its,rv,pl,hz⟩:=I.list hq
 have hi:=intsAre_of rv
 obtain⟨xs,hx⟩:=hi.allInts.items
 have Lr:s.heap.IsList p (intItems xs):=hx ▸ pl.isList
 refine sum_intListG (I.ok.hd hc) Lr fun h' tk t' hk=> ?_
 have e1:ns=xs.toList.map (·.1):=by
  rw[←nums_intItems,←hx]
  exact(show numsOf its.toArray.toList=ns from hi.numsOf).symm
 have e2:preSum (numAt xs) xs.size=ns.sum:=by
  rw[preSum_eq,List.take_of_length_le (by simp),e1]
 rw[e2]
 exact⟨.int ns.sum,H,I.kept (t':=tk) hk,⟨t',rfl⟩,q⟩
theorem CM: ∀{ts:List Str} {us:List Value},Vals (ts.map V.str) us→ ∃l:List (Str×Tok),us=strValues l∧l.map (·.1)=ts
 | [],_, .nil=> ⟨[],rfl,rfl⟩
 | x::ts,_, .cons ⟨t,e⟩ r=>by
  obtain⟨l,e1,e2⟩:=CM r
  subst e e1
  exact⟨(x,t)::l,rfl,by simp[e2]⟩
def rJoin(K:Frag):V→List V→Hp→VK→Prop:=fun x vs H Q=> ∃(sep:Str) (p:Addr) (ts:List Str),x= .str sep∧vs=[.ref p]∧ao K H p (ts.map V.str)∧JoinOk sep ts=true∧Q (.str (Txt.join sep ts)) H
theorem Ls:iE X "str.join" (rJoin X.K):=by
 intro pins s σ H x vs v us Q I rx rv h
 obtain⟨sep,p,ts,rfl,rfl,hq,hj,q⟩:=h
 obtain⟨t,rfl⟩:=rx
 obtain⟨u,rfl,ru⟩:=vals1 rv
 cases ru
 obtain⟨its,rv,pl,hz⟩:=I.list hq
 obtain⟨l,rfl,e2⟩:=CM rv
 exact SC.join pl.isList e2 hj fun t' k=> ⟨.str _,H,I.tok k,⟨t',rfl⟩,q⟩
def Lu:V→List V→Hp→VK→Prop:=fun x vs H Q=> ∃z y,x= .str z∧vs=[.str y]∧z.length≤sizeLine∧Q (.str (Txt.lstripChars z y)) H
theorem Lv:iE X "str.lstrip" Lu:=by
 intro pins s σ H x vs v us Q I rx rv h
 obtain⟨z,y,rfl,rfl,hz,q⟩:=h
 obtain⟨t,rfl⟩:=rx
 obtain⟨u,rfl,⟨t2,rfl⟩⟩:=vals1 rv
 refine call_gives F.slot_str_lstrip (typeIs_str _ _ _) F.entry_str_lstrip (F.args_str_lstrip_2 _ _) (gives_str_lstrip_chars z y t t2) (post_val_or_made (fun _=>fits_stripped _ _ _ hz) fun t' k=> ?_)
 exact⟨.str _,H,I.tok k,⟨t',rfl⟩,q⟩
def Lw:V→List V→Hp→VK→Prop:=fun x vs H Q=> ∃z y i,x= .str z∧vs=[.str y, .int i]∧Q (.bl (decide (fromIndex z.length i+y.length≤z.length) && Builtin.Str.subAt z y (fromIndex z.length i))) H
theorem Lx:iE X "str.startswith" Lw:=by
 intro pins s σ H x vs v us Q I rx rv h
 obtain⟨z,y,i,rfl,rfl,q⟩:=h
 obtain⟨t,rfl⟩:=rx
 obtain⟨u,w,rfl,⟨t2,rfl⟩,⟨t3,rfl⟩⟩:=vals2 rv
 exact call_gives F.slot_str_startswith (typeIs_str _ _ _) F.entry_str_startswith (F.args_str_startswith_3 _ _ _) (gives_str_startswith_from z y i t t2 t3) ⟨.bl _,H,I,rfl,q⟩
def ke{α:Type}(xs:List α)(lo hi:Option Int):List α:=(xs.drop (HT.aP xs.length 0 lo)).take (HT.aP xs.length xs.length hi - HT.aP xs.length 0 lo)
def uM(z:Str)(lo hi:Option Int):Str:=⟨(ke z.cps.toList lo hi).toArray⟩
theorem Ly(z:Str)(lo hi:Option Int):((Builtin.Str.strSliceIndices lo hi 1 z.length).filterMap (z.cps[·]?))=ke z.cps.toList lo hi:=by
 obtain⟨h1,h2,h3⟩:=um lo hi z.length
 have e0:Builtin.Str.strSliceIndices lo hi 1 z.length=sliceRange (sliceBounds lo hi none z.length).1 (sliceBounds lo hi none z.length).2.1 (sliceBounds lo hi none z.length).2.2:=rfl
 have hz:z.cps.toList.length=z.length:=by simp[Str.length]
 rw[e0,h1,h2,h3,sliceRange_one,pick_run]
 unfold ke
 rw[hz]
end
section
variable {X:Cx}
def rB(K:Frag)(neg:Bool):R2:=fun x y H Q=> ∃p xs d es,y= .ref p∧ao K H p xs∧Is H d x∧IsL H es xs∧SeqAt.shaped d=true∧d.depth≤60∧(∀e∈es,SeqAt.shaped e=true)∧Q (.bl (neg ^^ es.any fun e=>PyData.eqv e d)) H
open Classical in
end
def jl:HO:= .ext fun _=>True
structure uN (ob:Obj) (cls:Value) (vs:Array Value):Prop where
 cls:ob.cls=cls
 data:ob.data= .fields vs
 Lz:vs[2]?=some .none
 dict:ob.dict=none
def ExcAt(H:Hp)(ea D:Addr):Prop:= ∃ob vs,H ea=some (.bc ob jl)∧uN ob (.ref D) vs
structure oo (K:Frag) (D:Addr):Prop where
 oq:PySem.W.findIn K (.ref D) "__getattribute__"=some (some (.builtin "BaseException.__getattribute__"))
 ot:PySem.W.findIn K (.ref D) "__getattr__"=some none
 hk:(PySem.W.clsIn K D).isSome=true
 ha:PySem.W.findIn K (.ref D) "__class__"=some (some (.builtin "object.__class__"))
 hn:PySem.W.specialIn K (.builtin "object.__class__") "__get__"=some (some (.builtin "getset_descriptor.__get__"))
 jd:PySem.W.takesIn K (.builtin "object.__class__")=some true
 hm:PySem.W.mroIn K D (.type "object")=some true
 hb:PySem.W.mroIn K D (.type "BaseException")=some true
def cV:V→Value
 | .ref a=> .ref a
 | .ty n=> .type n
 | _=> .none
def g_(K:Frag):List V→Hp→VK→Prop
 | [.ref ea,c],H,Q=> ∃D b,ExcAt H ea D∧oo K D∧((∃C,c= .ref C)∨ ∃n,c= .ty n)∧kitOne K (.ref D) (cV c)=some b∧Q (.bl b) H
 | _,_,_=>False
def CN(sp:Sp)(hv:Option Addr)(t:TA):TE:=fun σ H Q=>t σ H fun vs H1=> (∃ea D,hv=some ea∧ExcAt H1 ea D)∧sp vs H1 Q E0
def uO(C:Addr)(E:XK)(t:TA):TS:=fun _ σ H=>t σ H fun vs H1=>vs.length≤sizeLine∧E (.ref C) none H1
def CO(K:Frag)(C:Addr)(i n:Nat)(th:Addr→TS)(D:Ends):XK:=fun cls _ H'=>exmOne K cls (.ref C)=some true∧
 ∀(ea:Addr) (ob:Obj) (vs:Array Value) (σ':St),H' ea=none→σ'.length=n→uN ob cls vs→th ea {nx:=fun _ _=>False,rt:=D.rt} (σ'.set i (some (.ref ea))) (upd H' ea (.bc ob jl))
def rC(K:Frag)(C:Addr)(i n:Nat)(tb:XK→TS)(th:Addr→TS):TS:=fun D σ H=>tb (CO K C i n th D) {nx:=D.nx,rt:=D.rt} σ H
inductive jm where | len | min | max | sum | int | list | tuple | abs
 deriving DecidableEq
inductive fb where | append | pop | extend | join | lstrip | starts | reverse | clear | index | find | count | uP | uQ
 deriving DecidableEq
inductive IK where | list | tup | gh | LA | zip | rD | txt | LB
 deriving DecidableEq
inductive RE where
 | v (i:Nat) | c (x:V) | g (j:Nat)
 | bin (op:Operator) (a b:RE) | neg (a:RE)
 | cmp (op:CmpOp) (a b:RE) | hJ (op bM:CmpOp) (a b d:RE) | CQ (op bM CS:CmpOp) (a b d f:RE)
 | and (as:List RE) | or (as:List RE) | not (a:RE) | mM (t a b:RE)
 | call (j:Nat) (as:List RE) | blt (b:jm) (as:List RE) | ej (T:Ty) (a:RE)
 | cc (m:fb) (o:RE) (as:List RE)
 | ix (a b:RE) | sl (a:RE) (lo hi:Option RE)
 | tup (as:List RE) | lst (as:List RE)
 | comp (tk:Option Nat) (fv:List (Str×Nat)) (k:IK) (its:List RE) (cond:Option RE) (elt:RE)
 | cf (a c:RE) | uR (j:Nat) (a:RE) | LC | same (a b:RE)
 | LD | LF (a b:RE) | CT (a b:RE) | CU (a b:RE) | LG (o a b:RE) | inD (a b:RE) | CV (a b:RE)
 | xt (T:Frag→TA→TE) (as:List RE) | xm (T:Frag→TE→TA→TE) (o:RE) (as:List RE)
 | fld (o:RE) (f:Str) | CW (j:Nat) (m:Str) (o:RE) (as:List RE) | make (j:Nat) (as:List RE)
inductive RS where
 | asg (i:Nat) (e:RE) | rE (i:Nat) (e:RE) | set (o ix e:RE)
 | drop (e:RE) | ret (e:RE) | LH
 | ite (c:RE) (t e:List RS)
 | mO (i:Nat) (k:IK) (its:List RE) (body:List RS)
 | kg (is:List Nat) (k:IK) (its:List RE) (body:List RS)
 | LI (c:RE) (body:List RS)
 | pass | brk | cont | never
 | LJ (o lo hi e:RE) | LK (o:RE) (f:Str) (e:RE)
 | ou (is:List Nat) (e:RE) | dput (o i e:RE) | ow (j:Nat) (as:List RE) | uS (n i j:Nat) (body su:List RS)
structure av where
 K:Frag
 fs:Nat→Sp
 gv:Nat→V
 E:XK
 sd:Addr→List (Key×V)→Prop
 ms:Nat→Addr×Sp
 kt:Nat→Addr×Sp
 ex:Nat→Addr
 hs:Nat→Sp
 hv:Option Addr
abbrev av.calm(Γ:av):av:={Γ with E:=E0}
def fP(K:Frag)(x:V)(H:Hp)(Q:Bool→Prop):Prop:=match x with
 | .ai=>Q false
 | .bl b=>Q b
 | .int i=>Q (i !=0)
 | .str y=>y.length≤sizeLine∧Q ((y.length:Int) !=0)
 | .ref p=> (∃xs,ao K H p xs∧Q (!xs.isEmpty))∨(∃xs,aU K H p xs∧Q (!xs.isEmpty))∨ ∃aH,H p=some (.dK aH)∧Q (!aH.isEmpty)
 | _=>False
theorem CY{K:Frag}{x:V}{H:Hp}{Q:Bool→Prop}(h:fP K x H Q): ∃k,Bq K x H k∧Q k:=by
 cases x with
 | ai=>exact⟨_,rfl,h⟩
 | bl b=>exact⟨_,rfl,h⟩
 | int i=>exact⟨_,rfl,h⟩
 | str y=>exact⟨_,⟨h.1,rfl⟩,h.2⟩
 | ref p=>
  rcases h with⟨xs,h1,h2⟩ | ⟨xs,h1,h2⟩ | ⟨xs,h1,h2⟩
  ·exact⟨_, .inl ⟨xs,h1,rfl⟩,h2⟩
  ·exact⟨_, .inr (.inl ⟨xs,h1,rfl⟩),h2⟩
  ·exact⟨_, .inr (.inr ⟨xs,h1,rfl⟩),h2⟩
 | _=>exact False.elim h
def dv(K:Frag)(t:TE):TT:=fun σ H Q=>t σ H fun x H1=>fP K x H1 fun b=>Q b H1
def uT(K:Frag)(t:TE):TE:=fun σ H Q=>t σ H fun x H1=>fP K x H1 fun b=>Q (.bl (!b)) H1
def CZ:V→Hp→VK→Prop:=fun x H Q=>match x with | .int i=>Q (.int (-i)) H | _=>False
def n6(K:Frag)(x:V)(H:Hp)(Q:Nat→Prop):Prop:=match x with
 | .str y=>y.length≤sizeLine∧Q y.length
 | .ref p=> (∃xs,ao K H p xs∧Q xs.length)∨ ∃xs,aU K H p xs∧Q xs.length
 | _=>False
def signs(x:Str):List V:=x.cps.toList.map fun c=>V.str ⟨#[c]⟩
def LL:TE:=fun _ H Q=> ∀p,H p=none→Q (.ref p) (upd H p (.dK []))
def kh(K:Frag):jm→List V→Hp→VK→Prop
 | .len,[x],H,Q=>n6 K x H fun n=>Q (.int n) H
 | .min,[.int i, .int j],H,Q=>Q (.int (if j<i then j else i)) H
 | .max,[.int i, .int j],H,Q=>Q (.int (if j>i then j else i)) H
 | .min,[.ref p],H,Q=> ∃ns:List Int,ao K H p (ns.map V.int)∧ns≠ []∧ ∀m:Int,m∈ns→(∀n∈ns,m≤n)→Q (.int m) H
 | .max,[.ref p],H,Q=> ∃ns:List Int,ao K H p (ns.map V.int)∧ns≠ []∧ ∀m:Int,m∈ns→(∀n∈ns,n≤m)→Q (.int m) H
 | .sum,[.ref p],H,Q=> ∃ns:List Int,ao K H p (ns.map V.int)∧Q (.int ns.sum) H
 | .int,[.int i],H,Q=>Q (.int i) H
 | .int,[.bl k],H,Q=>Q (.int (if k then 1 else 0)) H
 | .list,[.ref p],H,Q=> ∃ys,(ao K H p ys∨aU K H p ys)∧ ∀l,H l=none→Q (.ref l) (upd H l (.lst ys))
 | .list,[.str x],H,Q=>x.length≤sizeLine∧ ∀l,H l=none→Q (.ref l) (upd H l (.lst (signs x)))
 | .tuple,[.str x],H,Q=>x.length≤sizeLine∧ ∀l,H l=none→Q (.ref l) (upd H l (.tup (signs x)))
 | .abs,[.int i],H,Q=>Q (.int (if i<0 then -i else i)) H
 | .tuple,[.ref p],H,Q=> ∃ys,(ao K H p ys∧ ∀l,H l=none→Q (.ref l) (upd H l (.tup ys)))∨(aU K H p ys∧Q (.ref p) H)
 | _,_,_,_=>False
def jn(T:Ty):List V→Hp→VK→Prop
 | [x, .ty n],H,Q=>n=T.nm∧bw T x H fun b=>Q (.bl b) H
 | _,_,_=>False
def rF(K:Frag):fb→V→List V→Hp→VK→Prop
 | .append, .ref l,[y],H,Q=> ∃xs,H l=some (.lst xs)∧xs.length<sizeLine∧Q .ai (upd H l (.lst (xs++ [y])))
 | .pop, .ref l,[],H,Q=> ∃xs y,H l=some (.lst xs)∧xs[xs.length - 1]?=some y∧Q y (upd H l (.lst xs.dropLast))
 | .extend, .ref l,[.ref b],H,Q=> ∃xs zs,H l=some (.lst xs)∧H b=some (.lst zs)∧xs.length+zs.length≤sizeLine∧Q .ai (upd H l (.lst (xs++zs)))
 | .join, .str sep,[.ref p],H,Q=> ∃ts:List Str,ao K H p (ts.map V.str)∧JoinOk sep ts=true∧Q (.str (Txt.join sep ts)) H
 | .lstrip, .str z,[.str y],H,Q=>z.length≤sizeLine∧Q (.str (Txt.lstripChars z y)) H
 | .starts, .str z,[.str y, .int i],H,Q=>Q (.bl (decide (fromIndex z.length i+y.length≤z.length) && Builtin.Str.subAt z y (fromIndex z.length i))) H
 | .find, .str z,[.str y],H,Q=>Q (.int (match Builtin.Str.occurrences z y 0 z.length 1 with | i::_=> (i:Int) | []=> -1)) H
 | .find, .str z,[.str y, .int i],H,Q=>Q (.int (match Builtin.Str.occurrences z y (fromIndex z.length i) z.length 1 with | k::_=> (k:Int) | []=> -1)) H
 | .count, .str z,[.str y],H,Q=>Q (.int (Builtin.Str.occurrences z y 0 z.length (z.length+1)).length) H
 | .reverse, .ref l,[],H,Q=> ∃xs,H l=some (.lst xs)∧Q .ai (upd H l (.lst xs.reverse))
 | .index, .ref l,[.str y],H,Q=> ∃ts:List Str,ao K H l (ts.map V.str)∧y∈ts∧Q (.int (ts.idxOf y:Nat)) H
 | .clear, .ref l,[],H,Q=> ∃xs,H l=some (.lst xs)∧Q .ai (upd H l (.lst []))
 | .uP, .ref l,[y],H,Q=> ∃xs,ao K H l xs∧dC y=true∧xs.all dC=true∧Q (.int (xs.countP (fun z=>dD z y):Nat)) H
 | .uQ, .ref l,[y],H,Q=> ∃xs,ao K H l xs∧dC y=true∧xs.all dC=true∧qT y xs=true∧Q (.int (xs.findIdx (fun z=>dD z y):Nat)) H
 | _,_,_,_,_=>False
def rG:fb→String
 | .join | .lstrip | .starts | .find | .count=> "str"
 | _=> "list"
def mP(K:Frag)(m:fb)(to:TE)(t:TA):TE:=fun σ H Q=>to σ H fun x H1=>nW K (rG m) x H1∧t σ H1 fun xs H2=>rF K m x xs H2 Q
def mQ(K:Frag):V→Option Int→Option Int→Hp→VK→Prop:=fun x lo hi H Q=>match x with
 | .str z=>z.length≤sizeLine∧Q (.str (uM z lo hi)) H
 | .ref a=> (∃xs,ao K H a xs∧ ∀p,H p=none→Q (.ref p) (upd H p (.lst (cz xs lo hi))))∨
  (∃xs,aU K H a xs∧ ¬(HT.aP xs.length 0 lo=0∧HT.aP xs.length xs.length hi=xs.length)∧ ∀p,H p=none→Q (.ref p) (upd H p (.tup (cz xs lo hi))))
 | _=>False
def ki(aH:List (Key×V))(k:Key):Option V:=(aH.find? fun kv=>decide (kv.1=k)).map (·.2)
def C0(sd:Addr→List (Key×V)→Prop):R2:=fun x y H Q=> ∃p aH k v,x= .ref p∧y=kV k∧sd p aH∧ki aH k=some v∧Q v H
def jo(K:Frag)(sd:Addr→List (Key×V)→Prop):R2:=fun x y H Q=>BQ K x y H Q∨BR K x y H Q∨BS x y H Q∨C0 sd x y H Q
def LM(r r' r2:R2)(ta tb tc td:TE):TT:=fun σ H Q=>ta σ H fun x H1=>tb σ H1 fun y H2=>r x y H2 fun z H3=> ∃k,z= .bl k∧
 (if k=true then tc σ H3 fun w H4=>r' y w H4 fun z2 H5=> ∃k2,z2= .bl k2∧(if k2=true then td σ H5 fun u H6=>r2 w u H6 fun z3 H7=> ∃k3,z3= .bl k3∧Q k3 H7 else Q false H5) else Q false H3)
def jq(K:Frag)(a b:Addr):It:=
  ⟨fun i H=> ∃xs ys,ao K H a xs∧ao K H b ys∧i<xs.length∧i<ys.length,
   fun i H x H'=> ∃T,H T=none∧x= .ref T∧ ∀xs ys u v,ao K H a xs→ao K H b ys→xs[i]?=some u→ys[i]?=some v→H'=upd H T (.tup [u,v]),
   fun i H=> ∃xs ys,ao K H a xs∧ao K H b ys∧i=min xs.length ys.length⟩
def oz(K:Frag)(a:Addr):It:=
  ⟨fun i H=> ∃xs,ao K H a xs∧i<xs.length,
   fun i H x H'=> ∃T,H T=none∧x= .ref T∧ ∀xs u,ao K H a xs→xs[i]?=some u→H'=upd H T (.tup [.int (i:Nat),u]),
   fun i H=> ∃xs,ao K H a xs∧i=xs.length⟩
def uU(K:Frag)(ta:TA):TI:=fun σ H R=>ta σ H fun vs H1=> ∃a,vs=[.ref a]∧(∃xs,ao K H1 a xs)∧R (oz K a) H1
def uV(K:Frag)(ta:TA):TI:=fun σ H R=>ta σ H fun vs H1=> ∃a b,vs=[.ref a, .ref b]∧(∃xs,ao K H1 a xs)∧(∃ys,ao K H1 b ys)∧R (jq K a b) H1
def LN(K:Frag)(a b:Addr):It:=
  ⟨fun i H=> ∃xs ys,aU K H a xs∧aU K H b ys∧i<xs.length∧i<ys.length,
   fun i H x H'=> ∃T,H T=none∧x= .ref T∧ ∀xs ys u v,aU K H a xs→aU K H b ys→xs[i]?=some u→ys[i]?=some v→H'=upd H T (.tup [u,v]),
   fun i H=> ∃xs ys,aU K H a xs∧aU K H b ys∧i=min xs.length ys.length⟩
def LO(K:Frag)(ta:TA):TI:=fun σ H R=>ta σ H fun vs H1=> ∃a b,vs=[.ref a, .ref b]∧(∃xs,aU K H1 a xs)∧(∃ys,aU K H1 b ys)∧R (LN K a b) H1
def LP(z:Str):It:=⟨fun i _=>i<z.length,fun i H x H'=>H'=H∧ ∃c,z.cps[i]?=some c∧x= .str ⟨#[c]⟩,fun i _=>i=z.length⟩
def LQ(ta:TE):TI:=fun σ H R=>ta σ H fun x H1=> ∃z,x= .str z∧R (LP z) H1
mutual
def aa(Γ:av):RE→TE
 | .v i=>tX i
 | .c x=>tC x
 | .g j=>tC (Γ.gv j)
 | .bin op a b=>di (kc Γ.K op) (aa Γ a) (aa Γ b)
 | .neg a=>Bj CZ (aa Γ a)
 | .cmp op a b=>di (bK Γ.K op) (aa Γ a) (aa Γ b)
 | .hJ op bM a b d=>mF (bK Γ.K op) (bK Γ.K bM) (aa Γ a) (aa Γ b) (aa Γ d)
 | .CQ _ _ _ _ _ _ _=>fun _ _ _=>False
 | .and as=>C1 Γ as
 | .or as=>C2 Γ as
 | .not a=>uT Γ.K (aa Γ a)
 | .mM t a b=>A0 (aS Γ t) (aa Γ a) (aa Γ b)
 | .call j as=>ub (Γ.fs j) [] Γ.E (aO Γ as)
 | .blt b as=>cG (kh Γ.K b) (aO Γ as)
 | .ej T a=>cG (jn T) (cj (aa Γ a) (cj (tC (.ty T.nm)) eO))
 | .cc m o as=>mP Γ.K m (aa Γ o) (aO Γ as)
 | .ix a b=>di (jo Γ.K Γ.sd) (aa Γ a) (aa Γ b)
 | .sl a lo hi=>uh (mQ Γ.K) (aa Γ a) (jr Γ lo) (jr Γ hi)
 | .tup as=>Bx (aO Γ as)
 | .lst as=>By (aO Γ as)
 | .comp tk fv k its cond elt=>mJ Γ.K (fQ Γ k its) tk fv (uW Γ.calm cond) (aa Γ.calm elt)
 | .cf a c=>cG (g_ Γ.K) (cj (aa Γ a) (cj (aa Γ c) eO))
 | .LC=>LL
 | .same a b=>di Ld (aa Γ a) (aa Γ b)
 | .inD a b=>di (rB Γ.K false) (aa Γ a) (aa Γ b)
 | .CV a b=>di (rB Γ.K true) (aa Γ a) (aa Γ b)
 | .LD=>Ks
 | .LF a b=>Kq (aa Γ a) (aa Γ b)
 | .CT a b=>Cd (aa Γ a) (aa Γ b)
 | .CU a b=>Ce (aa Γ a) (aa Γ b)
 | .LG o a b=>Ku (aa Γ o) (aa Γ a) (aa Γ b)
 | .xt T as=>T Γ.K (aO Γ as)
 | .xm T o as=>T Γ.K (aa Γ o) (aO Γ as)
 | .uR j a=>CN (Γ.hs j) Γ.hv (cj (aa Γ a) eO)
 | .fld o f=>Bw Γ.K (aa Γ o) f
 | .CW j m o as=>BA (Γ.ms j).1 m (Γ.ms j).2 [] Γ.E (aa Γ o) (aO Γ as)
 | .make j as=>Jj (Γ.kt j).1 (Γ.kt j).2 [] Γ.E (aO Γ as)
def aS(Γ:av):RE→TT
 | .not a=>AW (aS Γ a)
 | .inD a b=>jb (di (rB Γ.K false) (aa Γ a) (aa Γ b))
 | .CV a b=>jb (di (rB Γ.K true) (aa Γ a) (aa Γ b))
 | .CT a b=>tB (Cd (aa Γ a) (aa Γ b))
 | .CU a b=>tB (Ce (aa Γ a) (aa Γ b))
 | .and as=>C3 Γ as
 | .or as=>C4 Γ as
 | .cmp op a b=>jb (di (bK Γ.K op) (aa Γ a) (aa Γ b))
 | .hJ op bM a b d=>jb (mF (bK Γ.K op) (bK Γ.K bM) (aa Γ a) (aa Γ b) (aa Γ d))
 | .CQ op bM CS a b d f=>LM (bK Γ.K op) (bK Γ.K bM) (bK Γ.K CS) (aa Γ a) (aa Γ b) (aa Γ d) (aa Γ f)
 | .v i=>dv Γ.K (tX i)
 | .call j as=>dv Γ.K (ub (Γ.fs j) [] Γ.E (aO Γ as))
 | .ej T a=>dv Γ.K (cG (jn T) (cj (aa Γ a) (cj (tC (.ty T.nm)) eO)))
 | .cf a c=>dv Γ.K (cG (g_ Γ.K) (cj (aa Γ a) (cj (aa Γ c) eO)))
 | .cc m o as=>dv Γ.K (mP Γ.K m (aa Γ o) (aO Γ as))
 | .ix a b=>dv Γ.K (di (jo Γ.K Γ.sd) (aa Γ a) (aa Γ b))
 | .bin op a b=>dv Γ.K (di (kc Γ.K op) (aa Γ a) (aa Γ b))
 | .fld o f=>dv Γ.K (Bw Γ.K (aa Γ o) f)
 | .xt T as=>dv Γ.K (T Γ.K (aO Γ as))
 | .xm T o as=>dv Γ.K (T Γ.K (aa Γ o) (aO Γ as))
 | .CW j m o as=>dv Γ.K (BA (Γ.ms j).1 m (Γ.ms j).2 [] Γ.E (aa Γ o) (aO Γ as))
 | _=>fun _ _ _=>False
def aO(Γ:av):List RE→TA
 | []=>eO
 | a::r=>cj (aa Γ a) (aO Γ r)
def C1(Γ:av):List RE→TE
 | []=>fun _ _ _=>False
 | [a]=>aa Γ a
 | a::r=>AX (aa Γ a) (C1 Γ r)
def C2(Γ:av):List RE→TE
 | []=>fun _ _ _=>False
 | [a]=>aa Γ a
 | a::r=>AY (aa Γ a) (C2 Γ r)
def C3(Γ:av):List RE→TT
 | []=>fun _ _ _=>False
 | [a]=>aS Γ a
 | a::r=>AU (aS Γ a) (C3 Γ r)
def C4(Γ:av):List RE→TT
 | []=>fun _ _ _=>False
 | [a]=>aS Γ a
 | a::r=>AV (aS Γ a) (C4 Γ r)
def jr(Γ:av):Option RE→TO
 | none=>BL
 | some a=>qQ (aa Γ a)
def uW(Γ:av):Option RE→Option TT
 | none=>none
 | some a=>some (aS Γ a)
def fQ(Γ:av)(k:IK):List RE→TI
 | []=>fun _ _ _=>False
 | a::r=>match k with
  | .list=>nM Γ.K (aa Γ a)
  | .tup=>Ig Γ.K (aa Γ a)
  | .gh=>Bf (cj (aa Γ a) (aO Γ r))
  | .LA=>Ij (cj (aa Γ a) (aO Γ r))
  | .zip=>uV Γ.K (cj (aa Γ a) (aO Γ r))
  | .rD=>uU Γ.K (cj (aa Γ a) (aO Γ r))
  | .txt=>LQ (aa Γ a)
  | .LB=>LO Γ.K (cj (aa Γ a) (aO Γ r))
end
structure bP where
 N:List Str
 sc:Scope
 fn:List Str
 gn:List Str
 bl:List Str
 mn:List Str
 kn:List Str
 en:List Str
 hn:List Str
 md:Nat
def uX(sc:Scope)(x:Str):Bool:=match sc.names.lookup x with
 | some .local=>true | some .cell=>true | some .free=>true | _=>false
def loc(sc:Scope)(x:Str):Bool:=match sc.names.lookup x with
 | some .local=>true | some .cell=>true | _=>false
def js(sc:Scope)(x:Str):Bool:=match sc.names.lookup x with
 | some .globalImplicit=>true | _=>false
theorem LR{sc:Scope}{x:Str}(h:uX sc x=true):qt sc x:=by
 unfold uX at h
 unfold qt
 cases e:sc.names.lookup x with
 | none=>rw[e] at h;cases h
 | some k=>rw[e] at h;cases k<;>first | exact .inl rfl | exact .inr (.inl rfl) | exact .inr (.inr rfl) | cases h
theorem uY{sc:Scope}{x:Str}(h:loc sc x=true):Loc sc x:=by
 unfold loc at h
 unfold Loc
 cases e:sc.names.lookup x with
 | none=>rw[e] at h;cases h
 | some k=>rw[e] at h;cases k<;>first | exact .inl rfl | exact .inr rfl | cases h
theorem LS{sc:Scope}{x:Str}(h:js sc x=true):sc.names.lookup x=some .globalImplicit:=by
 unfold js at h
 cases e:sc.names.lookup x with
 | none=>rw[e] at h;cases h
 | some k=>rw[e] at h;cases k<;>first | rfl | cases h
structure oA where
 elt:Expr
 tg:Expr
 iter:Expr
 ifs:List Expr
 sc:Scope
def jm.nm:jm→Str
 | .len=> "len" | .min=> "min" | .max=> "max" | .sum=> "sum" | .int=> "int" | .list=> "list" | .tuple=> "tuple" | .abs=> "abs"
def fb.nm:fb→Str
 | .append=> "append" | .pop=> "pop" | .extend=> "extend" | .join=> "join" | .lstrip=> "lstrip" | .starts=> "startswith" | .reverse=> "reverse" | .clear=> "clear" | .index=> "index" | .find=> "find" | .count=> "count" | .uP=> "count" | .uQ=> "index"
def rH:Expr→Bool
 | .Call (.Name _ _) [] [] _=>false
 | _=>true
def noStar:Expr→Bool
 | .Starred ..=>false
 | _=>true
def oB:Expr→Bool
 | .Set ..=>false
 | _=>true
def uZ(C5 sc:Scope):Scope:=
 {C5 with names:=C5.names.map fun(n,k)=>if (k== .free && sc.kind== .function && sc.names.lookup n==some .cell) then (n, .cell) else (n,k)}
def u_(tk:Option Nat)(tg:Expr):Option (List Str):=match tk,tg with
 | none, .Name x _=>some [x]
 | some 2, .Tuple [.Name x _, .Name y _] _ _=>some [x,y]
 | _,_=>none
def C6(S:bP)(c:oA)(ln:List Str)(fv:List (Str×Nat)):bP:={S with N:=ln++fv.map (·.1),sc:=uZ c.sc S.sc,en:=[],md:=if S.md=0 then 0 else 2}
def va(S:bP)(c:oA)(ln:List Str)(fv:List (Str×Nat)):Bool:=
 decide (c.sc.kind= .function) && c.sc.names.all (fun y=>decide (y.2≠ .cell)) && c.sc.names.all (fun y=>decide (y.2≠ .local) || decide (c.sc.names.lookup y.1=some .local))
 && c.sc.names.all (fun y=>decide (y.2≠ .free) || decide (S.sc.names.lookup y.1=some .cell) || decide (S.sc.names.lookup y.1=some .free))
 && fv.all (fun p=>decide (S.N[p.2]?=some p.1) && decide (c.sc.names.lookup p.1=some .free))
 && ln.all (fun x=>decide (c.sc.names.lookup x=some .local)) && decide ((ln++fv.map (·.1)).Nodup) && oB c.iter
theorem LU{P:Program}{w:World}{K:Frag}{elts:List Expr}{k:Nat}{pos:Pos}{z TI TO i1 i2 l1 l2:Addr}(D:ZipApart z TI TO i1 i2 l1 l2)(dl:l1≠TI∧l2≠TI):
  Turn P w K (.Tuple elts k pos) (jq K l1 l2) [z,TI,TO,i1,i2] z
   (fun i h=>IsZip h z TI TO .none∧IsPair h TI (.ref i1) (.ref i2)∧(∃a b,IsPair h TO a b)∧h.IsListIter i1 l1 i∧h.IsListIter i2 l2 i) where
 mem:=by simp
 obj:=fun i h st b hb=>by
  obtain⟨hz,iI,⟨a,b',iJ⟩,⟨o1,e1,c1,d1⟩,⟨o2,e2,c2,d2⟩⟩:=st
  simp only[List.mem_cons,List.not_mem_nil,or_false] at hb
  rcases hb with rfl | rfl | rfl | rfl | rfl
  ·exact⟨_,hz,fun v q=>by cases q⟩
  ·exact⟨_,iI,fun v q=>by cases q⟩
  ·exact⟨_,iJ,fun v q=>by cases q⟩
  ·exact⟨_,e1,fun v q=>by rw[d1] at q;cases q⟩
  ·exact⟨_,e2,fun v q=>by rw[d2] at q;cases q⟩
 keep:=fun i h h' st hk=>by
  obtain⟨hz,iI,⟨a,b',iJ⟩,h1,h2⟩:=st
  exact⟨hk z (by simp) _ hz,hk TI (by simp) _ iI,⟨a,b',hk TO (by simp) _ iJ⟩,h1.at fun o e=>hk i1 (by simp) o e,h2.at fun o e=>hk i2 (by simp) o e⟩
 item:=by
  intro X hP hw hK hc i pins s σ H E I hf st hg
  subst hP hw hK
  obtain⟨xs,ys,hx,hy,LV,C7⟩:=hg
  obtain⟨er,r1,p1,z1⟩:=I.list hx
  obtain⟨dO,r2,p2,z2⟩:=I.list hy
  have fc:=r1.length
  have jh:=r2.length
  have W:=WalksT.zip2 (prog:=X.prog) (w:=X.w) (A:=X.A) (I.ok.hd hc) z TI TO i1 i2 l1 l2 D er.toArray dO.toArray
  obtain⟨hz,iI,iJ,h1,h2⟩:=id st
  have hn:i<min er.toArray.size dO.toArray.size:=by simp only[List.size_toArray];omega
  refine W.item i s _ _ hn ⟨hz,iI,iJ,h1,h2,p1.isList,p2.isList⟩ fun T vals h' tk hv hT vb mid hk=> ?_
  refine⟨.ref T,rfl, ?_⟩
  refine W.go elts k pos i T _ _ _ mid fun iK vc oC=> ?_
  obtain⟨u,v,eu,ev,rfl⟩:=hv
  have fz: ∀b∈ [z,TO,i1,i2],b∈ [z,TI,TO,i1,i2]:=fun b hb=>by
   simp only[List.mem_cons,List.not_mem_nil,or_false] at hb⊢
   rcases hb with rfl | rfl | rfl | rfl<;>simp
  have kk: ∀b o,b∉ [z,TO,i1,i2]→s.heap.get? b=some o→iK.get? b=some o:=fun b o hb e=>oC b o hb (hk b o hb e)
  have I1:Inv X pins σ H {s with heap:=iK,toks:=tk}:=by
   refine I.step (g':=s.gens) (d':=s.drawn) (ch:=[z,TO,i1,i2]) (fun b hb=> ?_) (fun b o _ _ hc e _=>kk b o hc e) (fun b o _ _ hc e _=> ⟨o.slots,kk b o hc e⟩) (fun _ _ _ _ n=>n)
    (fun b o hc e=> ⟨o,kk b o hc e⟩) (fun _ _ e=>e) (fun _ _ _ e=>e) (fun b ps e=> ⟨#[],by rw[e];simp⟩) (fun m hm=> ?_) (fun b o e=> ?_) I.bare
   ·obtain⟨f0,f1,f2,f3,f4,f5⟩:=hf b (fz b hb)
    exact⟨f3,f1,f4,f5⟩
   ·obtain⟨o,es,ep,ho,r⟩:=hm
    exact⟨o,es,ep,kk _ o (fun hb=> (hf _ (fz _ hb)).2.1 rfl) ho,r⟩
   ·have nb: ∀c o',H c=some o'→c∉ [z,TO,i1,i2]:=fun c o' e hb=>by
     rw[(hf c (fz c hb)).1] at e;cases e
    refine(I.aF b o e).fH (fun c q bI e'=>kk c q ?_ e') (fun _ q=>q) fun _ _ q=>q
    rcases bI with rfl | bI
    ·exact nb _ _ e
    ·exact nb _ _ bI
  have ff:s.heap.objs.size≤T:=hT
  have fT:H T=none:=I.aF.fresh ff
  have aT:T∉ [z,TO,i1,i2]:=W.apart i T h' mid
  have tT:iK.IsTuple T #[u,v]:=by
   obtain⟨o,ho,q⟩:=vb
   exact⟨o,oC T o aT ho,q⟩
  obtain⟨a,vd,ra⟩: ∃a,xs[i]?=some a∧RelV a u:=by
   have e:er[i]?=some u:=by simpa using eu
   have:i<xs.length:=by omega
   obtain⟨u',e',r'⟩:=r1.get (i:=i) (x:=xs[i]) (by simp[this])
   rw[e] at e';cases e'
   exact⟨xs[i],by simp[this],r'⟩
  obtain⟨b,LW,rb⟩: ∃b,ys[i]?=some b∧RelV b v:=by
   have e:dO[i]?=some v:=by simpa using ev
   have:i<ys.length:=by omega
   obtain⟨u',e',r'⟩:=r2.get (i:=i) (x:=ys[i]) (by simp[this])
   rw[e] at e';cases e'
   exact⟨ys[i],by simp[this],r'⟩
  have LX:=I.sz
  have I2:Inv X pins σ (upd H T (.tup [a,b])) {s with heap:=iK,toks:=tk}:=by
   refine Inv.uC I1 fT (Nat.le_trans I.sz ff) (Nat.ne_of_gt (Nat.lt_of_lt_of_le I.lt ff)) (fun x c e q=> ?_) (fun p hp q=> ?_) ⟨by show 2≤sizeLine;decide,[u,v], .cons ra (.cons rb .nil),tT⟩
   ·obtain⟨v',q'⟩:=I.cell x c e
    have:=q'.lt
    rw[q] at this
    exact absurd (Nat.lt_of_lt_of_le this ff) (Nat.lt_irrefl _)
   ·have:=Heap.lt_size (I.pin p hp).1
    rw[q] at this
    exact absurd (Nat.lt_of_lt_of_le this ff) (Nat.lt_irrefl _)
  refine⟨.ref T,_,I2,rfl,⟨T,fT,rfl,fun ez gr a' b' dE uw ea eb=> ?_⟩, ?_,fun c bI=> ?_⟩
  ·rw[I.nI dE hx,vd] at ea
   rw[I.nI uw hy,LW] at eb
   cases ea;cases eb;rfl
  ·obtain⟨q1,q2,q3,q4,q5,_⟩:=vc
   exact⟨q1,q2,q3,q4,q5⟩
  ·have n0:=(hf c bI).1
   have:c≠T:=fun q=>by
    obtain⟨o,e,_⟩: ∃o,s.heap.get? c=some o∧True:=by
     obtain⟨hz,iI,⟨a',b',iJ⟩,⟨o1,e1,_⟩,⟨o2,e2,_⟩⟩:=st
     simp only[List.mem_cons,List.not_mem_nil,or_false] at bI
     rcases bI with rfl | rfl | rfl | rfl | rfl
     ·exact⟨_,hz,trivial⟩
     ·exact⟨_,iI,trivial⟩
     ·exact⟨_,iJ,trivial⟩
     ·exact⟨_,e1,trivial⟩
     ·exact⟨_,e2,trivial⟩
    have:=Heap.lt_size e
    rw[q] at this
    exact absurd (Nat.lt_of_lt_of_le this ff) (Nat.lt_irrefl _)
   rw[bC this];exact n0
 done:=by
  intro X hP hw hK hc i pins s σ H E I hf st hg
  subst hP hw hK
  obtain⟨xs,ys,hx,hy,hi⟩:=hg
  obtain⟨er,r1,p1,z1⟩:=I.list hx
  obtain⟨dO,r2,p2,z2⟩:=I.list hy
  have fc:=r1.length
  have jh:=r2.length
  have W:=WalksT.zip2 (prog:=X.prog) (w:=X.w) (A:=X.A) (I.ok.hd hc) z TI TO i1 i2 l1 l2 D er.toArray dO.toArray
  obtain⟨hz,iI,iJ,h1,h2⟩:=id st
  have hn:i=min er.toArray.size dO.toArray.size:=by simp only[List.size_toArray];omega
  subst hn
  refine W.done s _ _ ⟨hz,iI,iJ,h1,h2,p1.isList,p2.isList⟩ fun h' tk hk=> ⟨rfl, ?_⟩
  have fz: ∀b∈ [z,TO,i1,i2],b∈ [z,TI,TO,i1,i2]:=fun b hb=>by
   simp only[List.mem_cons,List.not_mem_nil,or_false] at hb⊢
   rcases hb with rfl | rfl | rfl | rfl<;>simp
  refine I.step (g':=s.gens) (d':=s.drawn) (ch:=[z,TO,i1,i2]) (fun b hb=> ?_) (fun b o _ _ hc e _=>hk b o hc e) (fun b o _ _ hc e _=> ⟨o.slots,hk b o hc e⟩) (fun _ _ _ _ n=>n)
   (fun b o hc e=> ⟨o,hk b o hc e⟩) (fun _ _ e=>e) (fun _ _ _ e=>e) (fun b ps e=> ⟨#[],by rw[e];simp⟩) (fun m hm=> ?_) (fun b o e=> ?_) I.bare
  ·obtain⟨f0,f1,f2,f3,f4,f5⟩:=hf b (fz b hb)
   exact⟨f3,f1,f4,f5⟩
  ·obtain⟨o,es,ep,ho,r⟩:=hm
   exact⟨o,es,ep,hk _ o (fun hb=> (hf _ (fz _ hb)).2.1 rfl) ho,r⟩
  ·have nb: ∀c o',H c=some o'→c∉ [z,TO,i1,i2]:=fun c o' e hb=>by
    rw[(hf c (fz c hb)).1] at e;cases e
   refine(I.aF b o e).fH (fun c q bI e'=>hk c q ?_ e') (fun _ q=>q) fun _ _ q=>q
   rcases bI with rfl | bI
   ·exact nb _ _ e
   ·exact nb _ _ bI
 self:=fun A i s Q E st hQ=>wpAny_pyIter_zip st.1 hQ
theorem boot_zip:bootBuiltins "zip"=some (.type "zip"):=by decide+kernel
theorem LY{X:Cx}{elts:List Expr}{k:Nat}{nQ:Pos}{a b:Expr}{ta:TA}{p pos:Pos}(hg:Gl X "zip")(hm:X.mg "zip"=none)(ha:PA X [a,b] ta)
  (hs:starEach [a,b] X.env=(false,eval a X.env)::starEach [b] X.env) (je:(backTo pos (starEach [b] X.env)).any (·.1)=false):
  PI X (.Tuple elts k nQ) (.Call (.Name "zip" p) [a,b] [] pos) (uV X.K ta):=by
 intro pins s σ H R I h
 refine Call_ (ja I hg hm boot_zip (PyProof.Rows.callWith_type1 (aL (ha pos pins s σ H _ I h) fun us s1 ⟨vs,H1,I1,r1,q1⟩=> ?_) hs je))
 obtain⟨l1,l2,e,⟨xs,hx⟩,⟨ys,hy⟩,q⟩:=q1
 subst e
 obtain⟨u,v,rfl,ru,rv⟩:=vals2 r1
 cases ru
 cases rv
 obtain⟨er,LZ,p1,z1⟩:=I1.list hx
 obtain⟨dO,ZJ,p2,z2⟩:=I1.list hy
 refine call_zip_2 p1.isList p2.isList fun h' a1 a2 a3 a4 a5 a6 hk=> ?_
 refine wpAny_pyIter_zip a1 ?_
 have L6: @LT.lt Nat _ l1 s1.heap.objs.size:=by obtain⟨_,e,_⟩:=p1.isList;exact Heap.lt_size e
 have ZK: @LT.lt Nat _ l2 s1.heap.objs.size:=by obtain⟨_,e,_⟩:=p2.isList;exact Heap.lt_size e
 have D:ZipApart (s1.heap.objs.size+4) (s1.heap.objs.size+2) (s1.heap.objs.size+3) s1.heap.objs.size (s1.heap.objs.size+1) l1 l2:=by
  constructor<;> (show @Ne Nat _ _;omega)
 have I2:Inv X pins σ H1 {s1 with heap:=h'}:=I1.kept (t':=s1.toks) hk
 refine⟨_,_,_,_,H1,rfl,I2,LU D ⟨by show @Ne Nat _ _;omega,by show @Ne Nat _ _;omega⟩,⟨a1,a2,⟨_,_,a3⟩,a4,a5⟩,fun b' hb=> ?_,q⟩
 have hle:s1.heap.objs.size≤b':=by
  simp only[List.mem_cons,List.not_mem_nil,or_false] at hb
  rcases hb with rfl | rfl | rfl | rfl | rfl
  ·exact Nat.le_add_right _ _
  ·exact Nat.le_add_right _ _
  ·exact Nat.le_add_right _ _
  ·exact Nat.le_refl _
  ·exact Nat.le_add_right _ _
 have:=I1.nK (b:=b') (H':=H1) hle (I1.aF.fresh hle)
 exact this
theorem L7{P:Program}{w:World}{K:Frag}{elts:List Expr}{k:Nat}{pos:Pos}{z it l:Addr}(d1:z≠it)(d2:l≠z)(d3:l≠it):
  Turn P w K (.Tuple elts k pos) (oz K l) [z,it] z
   (fun i h=> (∃old,IsEnum h z it i old)∧h.IsListIter it l i) where
 mem:=by simp
 obj:=fun i h st b hb=>by
  obtain⟨⟨old,hz⟩,⟨o2,e2,c2,d2⟩⟩:=st
  simp only[List.mem_cons,List.not_mem_nil,or_false] at hb
  rcases hb with rfl | rfl
  ·exact⟨_,hz,fun v q=>by cases q⟩
  ·exact⟨_,e2,fun v q=>by rw[d2] at q;cases q⟩
 keep:=fun i h h' st hk=>by
  obtain⟨⟨old,hz⟩,h1⟩:=st
  exact⟨⟨old,hk z (by simp) _ hz⟩,h1.at fun o e=>hk it (by simp) o e⟩
 item:=by
  intro X hP hw hK hc i pins s σ H E I hf st hg
  subst hP hw hK
  obtain⟨xs,hx,LV⟩:=hg
  obtain⟨er,r1,p1,z1⟩:=I.list hx
  have fc:=r1.length
  have W:=WalksT.enumerate (prog:=X.prog) (w:=X.w) (A:=X.A) (I.ok.hd hc) z it l d1 d2 d3 er.toArray
  obtain⟨hz,h1⟩:=id st
  have hn:i<er.toArray.size:=by simp only[List.size_toArray];omega
  refine W.item i s _ _ hn ⟨hz,h1,p1.isList⟩ fun T vals h' tk hv hT vb mid hk=> ?_
  refine⟨.ref T,rfl, ?_⟩
  refine W.go elts k pos i T _ _ _ mid fun iK vc oC=> ?_
  obtain⟨t0,u,eu,rfl⟩:=hv
  have kk: ∀b o,b∉ [z,it]→s.heap.get? b=some o→iK.get? b=some o:=fun b o hb e=>oC b o hb (hk b o hb e)
  have I1:Inv X pins σ H {s with heap:=iK,toks:=tk}:=by
   refine I.step (g':=s.gens) (d':=s.drawn) (ch:=[z,it]) (fun b hb=> ?_) (fun b o _ _ hc e _=>kk b o hc e) (fun b o _ _ hc e _=> ⟨o.slots,kk b o hc e⟩) (fun _ _ _ _ n=>n)
    (fun b o hc e=> ⟨o,kk b o hc e⟩) (fun _ _ e=>e) (fun _ _ _ e=>e) (fun b ps e=> ⟨#[],by rw[e];simp⟩) (fun m hm=> ?_) (fun b o e=> ?_) I.bare
   ·obtain⟨f0,f1,f2,f3,f4,f5⟩:=hf b hb
    exact⟨f3,f1,f4,f5⟩
   ·obtain⟨o,es,ep,ho,r⟩:=hm
    exact⟨o,es,ep,kk _ o (fun hb=> (hf _ hb).2.1 rfl) ho,r⟩
   ·have nb: ∀c o',H c=some o'→c∉ [z,it]:=fun c o' e hb=>by
     rw[(hf c hb).1] at e;cases e
    refine(I.aF b o e).fH (fun c q bI e'=>kk c q ?_ e') (fun _ q=>q) fun _ _ q=>q
    rcases bI with rfl | bI
    ·exact nb _ _ e
    ·exact nb _ _ bI
  have ff:s.heap.objs.size≤T:=hT
  have fT:H T=none:=I.aF.fresh ff
  have aT:T∉ [z,it]:=W.apart i T h' mid
  have tT:iK.IsTuple T #[.int (i:Nat) t0,u]:=by
   obtain⟨o,ho,q⟩:=vb
   exact⟨o,oC T o aT ho,q⟩
  obtain⟨a,vd,ra⟩: ∃a,xs[i]?=some a∧RelV a u:=by
   have e:er[i]?=some u:=by simpa using eu
   have:i<xs.length:=by omega
   obtain⟨u',e',r'⟩:=r1.get (i:=i) (x:=xs[i]) (by simp[this])
   rw[e] at e';cases e'
   exact⟨xs[i],by simp[this],r'⟩
  have LX:=I.sz
  have I2:Inv X pins σ (upd H T (.tup [.int (i:Nat),a])) {s with heap:=iK,toks:=tk}:=by
   refine Inv.uC I1 fT (Nat.le_trans I.sz ff) (Nat.ne_of_gt (Nat.lt_of_lt_of_le I.lt ff)) (fun x c e q=> ?_) (fun p hp q=> ?_) ⟨by show 2≤sizeLine;decide,[.int (i:Nat) t0,u], .cons ⟨t0,rfl⟩ (.cons ra .nil),tT⟩
   ·obtain⟨v',q'⟩:=I.cell x c e
    have:=q'.lt
    rw[q] at this
    exact absurd (Nat.lt_of_lt_of_le this ff) (Nat.lt_irrefl _)
   ·have:=Heap.lt_size (I.pin p hp).1
    rw[q] at this
    exact absurd (Nat.lt_of_lt_of_le this ff) (Nat.lt_irrefl _)
  refine⟨.ref T,_,I2,rfl,⟨T,fT,rfl,fun ez a' dE ea=> ?_⟩, ?_,fun c bI=> ?_⟩
  ·rw[I.nI dE hx,vd] at ea
   cases ea;rfl
  ·obtain⟨⟨q0,q1⟩,q2,_⟩:=vc
   exact⟨⟨q0,q1⟩,q2⟩
  ·have n0:=(hf c bI).1
   have:c≠T:=fun q=>by
    obtain⟨o,e,_⟩: ∃o,s.heap.get? c=some o∧True:=by
     obtain⟨⟨old,hz⟩,⟨o2,e2,_⟩⟩:=st
     simp only[List.mem_cons,List.not_mem_nil,or_false] at bI
     rcases bI with rfl | rfl
     ·exact⟨_,hz,trivial⟩
     ·exact⟨_,e2,trivial⟩
    have:=Heap.lt_size e
    rw[q] at this
    exact absurd (Nat.lt_of_lt_of_le this ff) (Nat.lt_irrefl _)
   rw[bC this];exact n0
 done:=by
  intro X hP hw hK hc i pins s σ H E I hf st hg
  subst hP hw hK
  obtain⟨xs,hx,hi⟩:=hg
  obtain⟨er,r1,p1,z1⟩:=I.list hx
  have fc:=r1.length
  have W:=WalksT.enumerate (prog:=X.prog) (w:=X.w) (A:=X.A) (I.ok.hd hc) z it l d1 d2 d3 er.toArray
  obtain⟨hz,h1⟩:=id st
  have hn:i=er.toArray.size:=by simp only[List.size_toArray];omega
  subst hn
  refine W.done s _ _ ⟨hz,h1,p1.isList⟩ fun h' tk hk=> ⟨rfl, ?_⟩
  refine I.step (g':=s.gens) (d':=s.drawn) (ch:=[z,it]) (fun b hb=> ?_) (fun b o _ _ hc e _=>hk b o hc e) (fun b o _ _ hc e _=> ⟨o.slots,hk b o hc e⟩) (fun _ _ _ _ n=>n)
   (fun b o hc e=> ⟨o,hk b o hc e⟩) (fun _ _ e=>e) (fun _ _ _ e=>e) (fun b ps e=> ⟨#[],by rw[e];simp⟩) (fun m hm=> ?_) (fun b o e=> ?_) I.bare
  ·obtain⟨f0,f1,f2,f3,f4,f5⟩:=hf b hb
   exact⟨f3,f1,f4,f5⟩
  ·obtain⟨o,es,ep,ho,r⟩:=hm
   exact⟨o,es,ep,hk _ o (fun hb=> (hf _ hb).2.1 rfl) ho,r⟩
  ·have nb: ∀c o',H c=some o'→c∉ [z,it]:=fun c o' e hb=>by
    rw[(hf c hb).1] at e;cases e
   refine(I.aF b o e).fH (fun c q bI e'=>hk c q ?_ e') (fun _ q=>q) fun _ _ q=>q
   rcases bI with rfl | bI
   ·exact nb _ _ e
   ·exact nb _ _ bI
 self:=fun A i s Q E st hQ=>by
  obtain⟨⟨old,hz⟩,_⟩:=st
  exact wpAny_pyIter_enum hz hQ
theorem L8:bootBuiltins "enumerate"=some (.type "enumerate"):=by decide+kernel
theorem L9{X:Cx}{elts:List Expr}{k:Nat}{nQ:Pos}{a:Expr}{ta:TA}{p pos:Pos}(hg:Gl X "enumerate")(hm:X.mg "enumerate"=none)(ha:PA X [a] ta)
  (hs:starEach [a] X.env=[(false,eval a X.env)]):PI X (.Tuple elts k nQ) (.Call (.Name "enumerate" p) [a] [] pos) (uU X.K ta):=by
 intro pins s σ H R I h
 refine Call_ (ja I hg hm L8 (PyProof.Rows.callWith_type1 (aL (ha pos pins s σ H _ I h) fun us s1 ⟨vs,H1,I1,r1,q1⟩=> ?_) hs rfl))
 obtain⟨l1,e,⟨xs,hx⟩,q⟩:=q1
 subst e
 obtain⟨u,rfl,ru⟩:=vals1 r1
 cases ru
 obtain⟨er,LZ,p1,z1⟩:=I1.list hx
 refine call_enumerate_list p1.isList fun h' a1 a2 a3 hk=> ?_
 refine wpAny_pyIter_enum a1 ?_
 have L6: @LT.lt Nat _ l1 s1.heap.objs.size:=by obtain⟨_,e,_⟩:=p1.isList;exact Heap.lt_size e
 have I2:Inv X pins σ H1 {s1 with heap:=h'}:=I1.kept (t':=s1.toks) hk
 refine⟨_,_,_,_,H1,rfl,I2,L7 (z:=s1.heap.objs.size+1) (it:=s1.heap.objs.size) (l:=l1) (by show @Ne Nat _ _;omega) (by show @Ne Nat _ _;omega) (by show @Ne Nat _ _;omega),⟨⟨_,a1⟩,a2⟩,fun b' hb=> ?_,q⟩
 have hle:s1.heap.objs.size≤b':=by
  simp only[List.mem_cons,List.not_mem_nil,or_false] at hb
  rcases hb with rfl | rfl
  ·exact Nat.le_add_right _ _
  ·exact Nat.le_refl _
 have:=I1.nK (b:=b') (H':=H1) hle (I1.aF.fresh hle)
 exact this
end L2
set_option maxHeartbeats 400000
namespace L2
open PySem PySem.Spec PyProof.Rows
def fg(A:Around)(h:Heap):Prop:=A.handled=none∨ ∃e o vs,A.handled=some (.ref e)∧h.get? e=some o∧o.data= .fields vs∧vs[2]?=some .none
theorem fg.keeps{A:Around}{h h':Heap}(x:fg A h)(k: ∀b o vs,h.get? b=some o→o.data= .fields vs→vs[2]?=some .none→h'.get? b=some o):fg A h':=by
 rcases x with x | ⟨e,o,vs,a,b,c,d⟩
 ·exact .inl x
 ·exact .inr ⟨e,o,vs,a,k e o vs b c d,c,d⟩
theorem L_:entryFor table "proto.unchain"=some Builtin.«proto.unchain»:=entryFor_of_fast (by kernel_rfl)
section
variable {prog:Program} {w:World} {A:Around} {E:Value→Shared→Prop} {s:Shared}
theorem Mc{a:Addr}{o:Obj}{vs:Array Value}{i:Nat}{v:Value}{Q:Unit→Shared→Prop}(ho:s.heap.get? a=some o)(hd:o.data= .fields vs)(hi:i<vs.size)(h:Q () {s with heap:=s.heap.update a (Obj.mapFields (·.setIfInBounds i v))}):
  wpAny (model prog w) A (updateField a i v) Q E s:=by
 unfold updateField
 refine wpAny_bind (wpAny_load ho ?_)
 rw[hd]
 show wpAny _ _ (if i<vs.size then _ else _) _ _ s
 rw[if_pos hi]
 exact wpAny_update ho h
theorem Md{α:Type}{a:Addr}{o:Obj}{vs:Array Value}{Q:α→Shared→Prop}(hh:fg A s.heap)(ho:s.heap.get? a=some o)(hd:o.data= .fields vs)(h2:2<vs.size)(bW: ∀e,A.handled=some (.ref e)→e≠a)
  (hE: ∀h',Heap.SameBut a s.heap h'→(∃o',h'.get? a=some o'∧o'.cls=o.cls)→E (.ref a) {s with heap:=h'}):wpAny (model prog w) A (raiseNew (.ref a):Sem α) Q E s:=by
 unfold raiseNew
 refine wpAny_bind (wpAny_handled ?_)
 rcases hh with hh | ⟨e,oe,ve,hh,he,Me,Mf⟩
 ·rw[hh]
  exact wpAny_bind (wpAny_pure (wpAny_throw (hE s.heap (Heap.SameBut.refl ..) ⟨o,ho,rfl⟩)))
 ·rw[hh]
  have ne:e≠a:=bW e hh
  have hb:((Value.ref e) !=(Value.ref a))=true:=by
   simp only[bne_iff_ne,ne_eq,Value.ref.injEq]
   exact ne
  dsimp only
  rw[if_pos hb]
  refine wpAny_bind (wpAny_holding (wpAny_runValue (codeAny_builtin L_ ?_)))
  unfold Builtin.«proto.unchain»
  dsimp only
  refine wpAny_bind (wpAny_field he Me Mf ?_)
  rw[if_pos (by rfl)]
  refine wpAny_bind (wpAny_pure (wpAny_pure ?_))
  dsimp only
  refine wpAny_bind (Mc ho hd h2 ?_)
  refine wpAny_throw (hE _ (Heap.SameBut.update ..) ⟨_,Heap.get?_update_self _ ho (Obj.isFreed_of_fields (Obj.data_mapFields hd _)),Obj.cls_mapFields ..⟩)
theorem C8{it:Addr}{f:Obj→Obj}{Qf:Fin→Shared→Prop}{Q:Option Value→Shared→Prop}(hh:fg A s.heap)(hn: ∀vs:Array Value,¬ ∃o,s.heap.get? it=some o∧o.data= .fields vs∧vs[2]?=some .none)
  (hQ: ∀h',Heap.ExtBut it s.heap h'→Q none {s with heap:=h'}):
  wpAny (model prog w) A.in1 Builtin.SmallTypes.stopIteration Qf (fun e s'=>wpAny (model prog w) A (do let b ←isInstance e (.type "StopIteration");if b=true then pure none else throw e) Q E s') {s with heap:=s.heap.update it f}:=by
 show wpAny _ _ (newExc (.type "StopIteration") [] >>=_) _ _ _
 refine wpAny_bind ?_
 simp only[newExc,newTuple]
 refine wpAny_bind (wpAny_newObj_type ?_ (by size_fits))
 refine wpAny_bind (m:=firstArgMember _ _) (wpAny_of_eq (a:=Value.none) (by first | rfl | (simp only[firstArgMember];rfl)) ?_)
 refine wpAny_newObj_type ?_ (by size_fits)
 dsimp only
 have lt: ∀b o,s.heap.get? b=some o→b≠it→(s.heap.update it f).get? b=some o:=fun b o e hb=> (Heap.get?_update_other _ _ (Ne.symm hb)).trans e
 have Mg:fg A.in1 (((s.heap.update it f).push {cls:= .type "tuple",data:= .seq ([]:List Value).toArray}).push
   {cls:= .type "StopIteration",data:= .fields (#[.ref (s.heap.update it f).objs.size, .none, .none, .none, .bool false, .none]++ownMembersOf (.type "StopIteration") [])}):=by
  rcases hh with hh | ⟨e,oe,ve,h1,h2,h3,h4⟩
  ·exact .inl hh
  ·refine .inr ⟨e,oe,ve,h1,Heap.get?_push_of_some _ (Heap.get?_push_of_some _ (lt e oe h2 fun z=> ?_)),h3,h4⟩
   subst z
   exact hn ve ⟨oe,h2,h3,h4⟩
 refine Md Mg (Heap.get?_push_size _ rfl) rfl (Nat.lt_of_lt_of_le (show 2<6 by decide) (by rw[Array.size_append];exact Nat.le_add_right 6 _)) (fun e he=> ?_) (fun h' sb ⟨o',q1,q2⟩=> ?_)
 ·rcases hh with hh | ⟨e',oe,ve,h1,h2,h3,h4⟩
  ·rw[show A.in1.handled=none from hh] at he;cases he
  ·rw[show A.in1.handled=_ from h1] at he
   cases he
   have:=Heap.lt_size h2
   refine Nat.ne_of_lt (Nat.lt_of_lt_of_le this ?_)
   rw[Heap.size_push,Heap.size_update]
   exact Nat.le_succ _
 ·refine wpAny_bind (wpAny_isInstance (T:="StopIteration") (b:=true) ⟨_,q1,q2⟩ isSubtype_stop ?_)
  refine wpAny_pure (hQ _ fun b o hb e=> ?_)
  have e3:=lt b o e hb
  have e4:=Heap.get?_push_of_some {cls:= .type "StopIteration",data:= .fields (#[.ref (s.heap.update it f).objs.size, .none, .none, .none, .bool false, .none]++ownMembersOf (.type "StopIteration") [])} (Heap.get?_push_of_some {cls:= .type "tuple",data:= .seq ([]:List Value).toArray} e3)
  refine(sb.2 b (Nat.ne_of_lt (Nat.lt_of_lt_of_le (Heap.lt_size e3) ?_))).trans e4
  rw[Heap.size_push]
  exact Nat.le_succ _
theorem Mh{it l:Addr}{i:Nat}{items}{Q:Option Value→Shared→Prop}(hh:fg A s.heap)
  (hit:s.heap.IsListIter it l i) (hl:s.heap.IsList l items) (hx:items[i]?=none)
  (hQ: ∀h',Heap.ExtBut it s.heap h'→Q none {s with heap:=h'}):wpAny (model prog w) A (pyNext (.ref it)) Q E s:=by
 obtain⟨o,ho,hc,hd⟩:=id hit
 obtain⟨ol,vf,_,nl,jt⟩:=hl
 unfold pyNext
 refine wpAny_bind (wpAny_attempt (wpAny_callSpecial?_slot (name:=Str.ofString "__next__") hit.typeIs slot_listiter_next
  (wpAny_call_entry slot_listiter_next hit.typeIs entry_listiter_next ?_ (args_listiter_next _))))
 show wpAny _ _ (field (.ref it) 0>>=_) _ _ s
 refine wpAny_bind (wpAny_field ho hd (x:= .ref l) rfl ?_)
 show wpAny _ _ (if (Value.ref l==Value.none)=true then _ else _) _ _ s
 rw[if_neg (show ¬((Value.ref l==Value.none)=true) from Bool.false_ne_true)]
 show wpAny _ _ (field (.ref it) 1>>=_) _ _ s
 refine wpAny_bind (wpAny_field ho hd (x:= .int i 0) rfl ?_)
 show wpAny _ _ (seqItems? (.ref l) >>=_) _ _ s
 refine wpAny_bind (wpAny_seqItems vf jt ?_)
 simp only[Int.toNat_natCast,hx]
 refine wpAny_bind (wpAny_rule (wpAny_bind (wpAny_setField ho hd (by simp) ?_)))
 exact C8 hh (fun vs z=>by obtain⟨o',h1,h2,h3⟩:=z;rw[ho] at h1;cases h1;rw[hd] at h2;cases h2;cases h3) hQ
theorem Mi{it t:Addr}{i:Nat}{items}{Q:Option Value→Shared→Prop}(hh:fg A s.heap)
  (hit:IsTupIter s.heap it t i) (ht:IsTup s.heap t items) (hx:items[i]?=none)
  (hQ: ∀h',Heap.ExtBut it s.heap h'→Q none {s with heap:=h'}):wpAny (model prog w) A (pyNext (.ref it)) Q E s:=by
 obtain⟨o,ho,hc,hd⟩:=id hit
 obtain⟨ol,vf,_,nl,jt⟩:=ht
 unfold pyNext
 refine wpAny_bind (wpAny_attempt (wpAny_callSpecial?_slot (name:=Str.ofString "__next__") hit.typeIs slot_tupleiter_next
  (wpAny_call_entry slot_tupleiter_next hit.typeIs entry_tupleiter_next ?_ (args_tupleiter_next _))))
 show wpAny _ _ (field (.ref it) 0>>=_) _ _ s
 refine wpAny_bind (wpAny_field ho hd (x:= .ref t) rfl ?_)
 show wpAny _ _ (if (Value.ref t==Value.none)=true then _ else _) _ _ s
 rw[if_neg (show ¬((Value.ref t==Value.none)=true) from Bool.false_ne_true)]
 show wpAny _ _ (field (.ref it) 1>>=_) _ _ s
 refine wpAny_bind (wpAny_field ho hd (x:= .int i 0) rfl ?_)
 show wpAny _ _ (seqItems? (.ref t) >>=_) _ _ s
 refine wpAny_bind (wpAny_seqItems vf jt ?_)
 simp only[Int.toNat_natCast,hx]
 refine wpAny_bind (wpAny_rule (wpAny_bind (wpAny_setField ho hd (by simp) ?_)))
 exact C8 hh (fun vs z=>by obtain⟨o',h1,h2,h3⟩:=z;rw[ho] at h1;cases h1;rw[hd] at h2;cases h2;cases h3) hQ
theorem Mj{t:Addr}{items:Array Value}{Q:List Value→Shared→Prop}(hh:fg A s.heap)(ht:IsTup s.heap t items)
  (hQ: ∀h',Heap.ExtBut s.heap.objs.size s.heap h'→Q items.toList {s with heap:=h'}):wpAny (model prog w) A (unpackItems (.ref t) items.size none) Q E s:=by
 have aQ:t≠s.heap.objs.size:=by obtain⟨o,ho,_⟩:=ht;exact Nat.ne_of_lt (Heap.lt_size ho)
 unfold unpackItems
 refine wpAny_bind ?_
 ·unfold notIterableAtAll
  refine wpAny_bind (wpAny_specialOf ht.typeIs slot_tuple_iter.lookup ?_)
  refine wpAny_pure ?_
  simp only[Bool.false_eq_true,if_false]
  refine wpAny_bind (wpAny_holding (iter_tuple ht ?_))
  refine wpAny_bind (wpAny_holding (draw_tuple aQ items.size 0 _ _ ⟨_,Heap.get?_push_size _ rfl,rfl,rfl⟩ (ht.push _) (by omega) fun h₁ oE iL=> ?_))
  have n3:List.take items.size (List.drop 0 items.toList)=items.toList:=by
   rw[List.drop_zero];exact List.take_of_length_le (by simp)
  rw[n3]
  rw[if_neg (by simp)]
  have vg:IsTup h₁ t items:=(ht.push _).extBut iL.extBut aQ
  have Ml:fg A h₁:=hh.keeps fun b o vs e _ _=>iL.extBut b o (Nat.ne_of_lt (Heap.lt_size e)) (Heap.get?_push_of_some _ e)
  refine wpAny_bind (wpAny_holding (Mi Ml oE vg (by simp) fun h₂ vh=> ?_))
  simp only[Option.isSome_none,Bool.false_eq_true,if_false]
  refine wpAny_pure (hQ h₂ fun b o hb e=>vh b o hb (iL.extBut b o hb (Heap.get?_push_of_some _ e)))
theorem Mm{env:Env}{elts:List Expr}{x1}{pos:Pos}{t:Addr}{items:Array Value}{Q:Unit→Shared→Prop}(hh:fg A s.heap)(ht:IsTup s.heap t items)
  (hn:(assignEach elts env).length=items.size) (vi:(assignEach elts env).findIdx? (·.1)=none)
  (h: ∀h',Heap.ExtBut s.heap.objs.size s.heap h'→wpAny (model prog w) A (assignInOrder ((assignEach elts env).map (·.2)) items.toList) Q E {s with heap:=h'}):
  wpAny (model prog w) A (assign (.Tuple elts x1 pos) env (.ref t)) Q E s:=by
 rw[assign_Tuple]
 refine wpAny_bind (wpAny_standAt ?_)
 unfold unpack
 rw[hn,vi]
 exact wpAny_bind (wpAny_holding (Mj hh ht h))
end
end L2
set_option maxHeartbeats 1000000
namespace L2
open PySem PySem.Spec PyProof.Rows PySem.W
section
variable {prog:Program} {w:World} {A:Around} {E:Value→Shared→Prop} {s:Shared} {K:Frag} {x D:Addr} {ox:Obj}
theorem Mn{Q:Option Value→Shared→Prop}(X:K.In s.heap)(I:InstAt s.heap x ox D none)(oq:findIn K (.ref D) "__getattribute__"=some (some (.builtin "BaseException.__getattribute__")))(ot:findIn K (.ref D) "__getattr__"=some none)
  (hk:(clsIn K D).isSome=true) (ha:findIn K (.ref D) "__class__"=some (some (.builtin "object.__class__"))) (hn:specialIn K (.builtin "object.__class__") "__get__"=some (some (.builtin "getset_descriptor.__get__"))) (jd:takesIn K (.builtin "object.__class__")=some true)
  (hm:mroIn K D (.type "object")=some true) (hb:mroIn K D (.type "BaseException")=some true)
  (h:Q (some (.ref D)) {s with toks:=s.toks+1}):wpAny (model prog w) A (getAttr? (.ref x) "__class__") Q E s:=by
 have hf:findObj K D none "__class__"=some (.bind (.builtin "getset_descriptor.__get__") (.builtin "object.__class__")):=by
  obtain⟨cd,hc⟩:=Option.isSome_iff_exists.mp hk
  unfold findObj
  rw[hc,Option.bind_some,ha,Option.bind_some]
  simp only[hn,jd,Option.bind_some]
 obtain⟨hh,g,d,t,os⟩:=s
 have L0:=I.type (M:=model prog w)
 have L1:=looks_findIn (M:=model prog w) X oq
 have L2:=looks_findIn (M:=model prog w) X ot
 have L3:=looks_find (M:=model prog w) X I hf
 unfold getAttr? getAttrBy? getAttrBy
 refine wpAny_bind (wpAny_mkText (wpAny_bind (wpAny_attempt (wpAny_holding (wpAny_bind (L0.at (wpAny_bind (L1.at ?_))))))))
 have oF:(Value.builtin "BaseException.__getattribute__"==Value.builtin "object.__getattribute__")=false:=by decide+kernel
 show wpAny _ _ (if (onTheHeap (Value.ref D) && Value.builtin "BaseException.__getattribute__"==Value.builtin "object.__getattribute__")=true then _ else _) _ _ _
 rw[oF,Bool.and_false,if_neg (by decide)]
 unfold getAttrByItsOwn hookBefore
 refine wpAny_bind (L2.at ?_)
 refine wpAny_bind (wpAny_attempt (wpAny_holding ?_))
 show wpAny _ _ (boundAndCalled _ _ _) _ _ _
 unfold boundAndCalled
 rw[F.excAttr_ValueError.ga.bind (.ref x)]
 refine wpAny_bind (wpAny_pure ?_)
 refine wpAny_call (codeAny_call_builtin F.excAttr_ValueError.ga.plain F.entry_bexc_ga ?_)
 have L4:=looks_mroIn (M:=model prog w) X hb
 have Mo:builtinKind "BaseException.__getattribute__"=some .slot:=by decide+kernel
 have Mp:splitId "BaseException.__getattribute__"=some ("BaseException","__getattribute__"):=by decide+kernel
 have ZL:=F.args_bexc_ga (.ref x) (.str "__class__" t)
 simp only[checkBuiltinCall,Mo,Mp]
 have L5:Looks (model prog w) hh (isInstance (.ref x) (.type "BaseException")) true:=L0.andThen L4
 refine wpAny_bind (L5.at ?_)
 repeat (any_goals (first | assumption | (with_reducible refine wpAny_loadPart_at I.at_ ?_;rw[I.cls];refine wpAny_pure (wpAny_bind (L3.at ?_))) | wp_step))
 refine class_get (s:=⟨hh,g,d,t+1,os⟩) (ox:=ox) (od:=none) X I hm ?_
 exact wpAny_pure (wpAny_pure (wpAny_pure h))
theorem Mq(oq:findIn K (.ref D) "__getattribute__"=some (some (.builtin "BaseException.__getattribute__")))(ot:findIn K (.ref D) "__getattr__"=some none)
  (hk:(clsIn K D).isSome=true) (ha:findIn K (.ref D) "__class__"=some (some (.builtin "object.__class__"))) (hn:specialIn K (.builtin "object.__class__") "__get__"=some (some (.builtin "getset_descriptor.__get__"))) (jd:takesIn K (.builtin "object.__class__")=some true)
  (hm:mroIn K D (.type "object")=some true) (hb:mroIn K D (.type "BaseException")=some true):KitX K (.ref x) (.ref D) (fun h=>InstAt h x ox D none) where
 ty:=fun _ _ _ I=>I.type
 it:=fun _ _ X _=>by
  obtain⟨Mr,kj⟩:=Option.isSome_iff_exists.mp hk
  unfold clsIn at kj
  split at kj
  ·rename_i c' d' Ms tO ho
   intro A' Q' E' s' k q
   unfold isType loadHead
   exact wpAny_bind (wpAny_loadPart (k _ _ (X _ _ ho)) (wpAny_pure q))
  ·cases kj
 ne:=fun h tp dd its n sl X Mt=>by
  obtain⟨Mr,kj⟩:=Option.isSome_iff_exists.mp hk
  refine Bool.eq_false_iff.mpr fun q=> ?_
  have e:D=tp:=Value.ref.inj (beq_iff_eq.mp q)
  subst e
  unfold clsIn at kj
  split at kj
  ·rename_i c' d' Ms tO ho
   have z:=(X _ _ ho).symm.trans Mt
   cases z
  ·cases kj
 ca:=fun X I k=>Mn X I oq ot hk ha hn jd hm hb k
end
end L2
set_option maxHeartbeats 400000
namespace L2
open PySem PySem.Spec PyProof.Rows
inductive bo (J:Shared→Prop) {α:Type}:Sem α→Prop
 | pure (a:α):bo J (.pure a)
 | raise (e:Value):bo J (.raise e)
 | unsupported (w:String):bo J (.unsupported w)
 | rule {t:String} {k:Unit→Sem α}:bo J (k ())→bo J (.rule t k)
 | load {a:Addr} {p:Option Value} {k:Obj→Sem α}:(∀o,bo J (k o))→bo J (.load a p k)
 | update {a:Addr} {p:Option Value} {f:Obj→Obj} {k:Unit→Sem α}:(∀s,J s→J {s with heap:=s.heap.update a f})→bo J (k ())→bo J (.update a p f k)
 | alloc {o:Obj} {k:Addr→Sem α}:(∀s,J s→J {s with heap:=s.heap.push o})→(∀a,bo J (k a))→bo J (.alloc o k)
 | stack {k:List (Code×Pos)→Sem α}:(∀t,bo J (k t))→bo J (.stack k)
theorem Mu{M:Model}{Γ:PySem.Ctx}{J:Shared→Prop}{α:Type}{t:Sem α}(kt:bo J t): ∀{Q:α→Pos→Shared→Prop} {E:Value→Pos→Shared→Prop} {p:Pos} {s:Shared},J s→Sem.wp M Γ t Q E p s→
  Sem.wp M Γ t (fun a p s=>Q a p s∧J s) (fun e p s=>E e p s∧J s) p s:=by
 induction kt with
 | pure a=>intro Q E p s j h;rw[Sem.wp] at h⊢;exact⟨h,j⟩
 | raise e=>intro Q E p s j h;rw[Sem.wp] at h⊢;exact⟨h,j⟩
 | unsupported w=>intro Q E p s j h;rw[Sem.wp] at h;exact h.elim
 | rule _ ih=>intro Q E p s j h;rw[Sem.wp] at h⊢;exact ih j h
 | load _ ih=>intro Q E p s j h;rw[Sem.wp] at h⊢;obtain⟨o,e,h⟩:=h;exact⟨o,e,ih o j h⟩
 | update f _ ih=>intro Q E p s j h;rw[Sem.wp] at h⊢;exact⟨h.1,ih (f _ j) h.2⟩
 | alloc f _ ih=>intro Q E p s j h;rw[Sem.wp] at h⊢;exact ih _ (f _ j) h
 | stack _ ih=>intro Q E p s j h;rw[Sem.wp] at h⊢;exact ih _ j h
theorem oG{M:Model}{A:Around}{J:Shared→Prop}{α:Type}{t:Sem α}{Q:α→Shared→Prop}{E:Value→Shared→Prop}{s:Shared}(k:bo J t)(j:J s)(h:wpAny M A t Q E s):
  wpAny M A t (fun a s=>Q a s∧J s) (fun e s=>E e s∧J s) s:=fun Γ p hΓ=>Mu k j (h Γ p hΓ)
def cT(e:Addr)(s:Shared):Prop:= ∃o vs,s.heap.get? e=some o∧o.data= .fields vs∧vs[2]?=some .none∧o.dict=none
theorem Mv(f:Array Value→Array Value)(o:Obj):(Obj.mapFields f o).dict=o.dict:=by
 unfold Obj.mapFields
 split<;>rfl
theorem Mw{e a:Addr}{i:Nat}{v:Value}(hi:i≠2)(s:Shared)(j:cT e s):cT e {s with heap:=s.heap.update a (Obj.mapFields (·.setIfInBounds i v))}:=by
 obtain⟨o,vs,h1,h2,h3,h4⟩:=j
 by_cases z:a=e
 ·subst z
  have d:=Obj.data_mapFields h2 (·.setIfInBounds i v)
  exact⟨_,_,Heap.get?_update_self _ h1 (Obj.isFreed_of_fields d),d,by rw[Array.getElem?_setIfInBounds_ne hi];exact h3,(Mv _ _).trans h4⟩
 ·exact⟨o,vs,(Heap.get?_update_other _ _ z).trans h1,h2,h3,h4⟩
theorem Mx{e a:Addr}{f:Obj→Obj}(hf: ∀o,(f o).data=o.data∧(f o).dict=o.dict)(s:Shared)(j:cT e s):cT e {s with heap:=s.heap.update a f}:=by
 obtain⟨o,vs,h1,h2,h3,h4⟩:=j
 by_cases z:a=e
 ·subst z
  exact⟨_,vs,Heap.get?_update_self _ h1 (Obj.isFreed_of_fields ((hf o).1.trans h2)),(hf o).1.trans h2,h3,(hf o).2.trans h4⟩
 ·exact⟨o,vs,(Heap.get?_update_other _ _ z).trans h1,h2,h3,h4⟩
theorem My{e:Addr}{ob:Obj}(s:Shared)(j:cT e s):cT e {s with heap:=s.heap.push ob}:=by
 obtain⟨o,vs,h1,h2,h3,h4⟩:=j
 exact⟨o,vs,Heap.get?_push_of_some _ h1,h2,h3,h4⟩
theorem bo.bind{J:Shared→Prop}{α β:Type}{t:Sem α}{f:α→Sem β}(kt:bo J t)(h: ∀a,bo J (f a)):bo J (t>>=f):=by
 show bo J (t.bind f)
 induction kt with
 | pure a=>exact h a
 | raise e=>exact .raise e
 | unsupported w=>exact .unsupported w
 | rule _ ih=>exact .rule ih
 | load _ ih=>exact .load ih
 | update g _ ih=>exact .update g ih
 | alloc g _ ih=>exact .alloc g ih
 | stack _ ih=>exact .stack ih
section
variable {e:Addr}
theorem vj{a:Addr}:bo (cT e) (load a):= .load fun o=> .pure o
theorem vk{v x:Value}{i:Nat}(hi:i≠2):bo (cT e) (setField v i x):=by
 unfold setField
 split
 ·rename_i a
  unfold updateField
  refine vj.bind fun o=> ?_
  split
  ·split
   ·exact .update (fun s j=>Mw hi s j) (.pure ())
   ·exact .unsupported _
  ·exact .unsupported _
 ·exact .unsupported _
theorem Mz{v:Value}:bo (cT e) (fieldsOf v):=by
 unfold fieldsOf
 split
 ·refine vj.bind fun o=> ?_
  split
  ·exact .pure _
  ·exact .unsupported _
 ·exact .unsupported _
theorem rJ{v:Value}{i:Nat}:bo (cT e) (field v i):=by
 unfold field
 refine Mz.bind fun vs=> ?_
 split
 ·exact .pure _
 ·exact .unsupported _
theorem vm{v:Value}{f:Option Addr}:bo (cT e) (setFlight v f):=by
 unfold setFlight
 refine rJ.bind fun tb=> ?_
 split
 ·exact vk (by decide)
 ·exact .pure _
theorem vn:bo (cT e) stack:= .stack fun t=> .pure t
theorem MA{ty:String}{vs:List Value}:bo (cT e) (newFields ty vs):=by
 unfold newFields newObj newObjAsIs
 show bo (cT e) (if vs.toArray.size>sizeLine+2 then (unsupported "record:memory" >>=_) else _)
 split
 ·exact .unsupported _
 ·exact bo.bind (.alloc (fun s j=>My s j) fun a=> .pure a) fun a=> .pure _
theorem MB{f:Addr}{b:Bool}:bo (cT e) (entryPlaceOf f b):=by
 unfold entryPlaceOf
 refine vn.bind fun ZM=> ?_
 split
 ·exact .pure _
 ·exact .pure _
theorem C9: ∀l:List Env,bo (cT e) (readyFrames l)
 | []=> .pure _
 | env::outer=>by
  unfold readyFrames
  split
  ·refine vj.bind fun o=> ?_
   split
   ·exact .pure _
   ·refine bo.bind ?_ fun im=>bo.bind ?_ fun bk=>bo.bind (.update (fun s j=>Mx (by intro o;exact⟨rfl,rfl⟩) s j) (.pure ())) fun _=>C9 outer
    ·unfold behindIsImport
     split
     ·exact .pure _
     ·split
      ·exact .pure _
      ·exact rJ.bind fun _=> .pure _
    ·unfold keptBack
     split
     ·split
      ·exact .pure _
      ·unfold underTheClaimsCaller
       exact bo.bind (vn.bind fun _=> .pure _) fun _=> .pure _
     ·exact .pure _
  ·exact .unsupported _
theorem MC{env:Env}:bo (cT e) (PySem.frameOf env):=by
 unfold PySem.frameOf frameEnvs
 refine bo.bind (vn.bind fun _=> .pure _) fun l=> ?_
 refine bo.bind ?_ fun r=> ?_
 ·unfold frameObject
  split
  ·exact .pure _
  ·exact(C9 _).bind fun _=> .pure _
 ·split
  ·exact .pure _
  ·exact .unsupported _
theorem C_{v:Value}{env:Env}:bo (cT e) (noteFrame v env):=by
 unfold noteFrame
 split
 ·rename_i x d hq
  refine rJ.bind fun hd=> ?_
  have tail:bo (cT e) (do let a ←PySem.frameOf env;let pl ←entryPlaceOf d (hd != .none);let b ←EntryCells.newEntry hd a .none (rawInt d) .none pl;setField v 1 b):=
   MC.bind fun a=>MB.bind fun pl=>bo.bind MA fun b=>vk (by decide)
  dsimp only
  split
  ·refine rJ.bind fun x=> ?_
   split
   ·exact .pure _
   ·exact(vk (by decide)).bind fun _=>tail
  ·exact tail
 ·exact .unsupported _
theorem Dc{v:Value}{env:Env}:bo (cT e) (leaving env v):=by
 unfold leaving
 exact C_.bind fun _=>vm
end
end L2
set_option maxHeartbeats 4000000
namespace L2
open PySem PySem.Spec PyProof.Rows
theorem bV.rK{P:Program}{w:World}{H:Hp}{h:Heap}{a:Addr}{o:HO}(x:bV P w H h a o): ∃ob,h.get? a=some ob:=by
 cases o with
 | lst xs=>obtain⟨_,_,_,_,e⟩:=x;exact⟨_,e⟩
 | tup xs=>obtain⟨_,_,_,ob,e,_⟩:=x;exact⟨_,e⟩
 | dK aH=>obtain⟨_,_,_,_,o,_,_,e,_⟩:=x;exact⟨_,e⟩
 | dT aH=>obtain⟨_,_,_,_,o,_,_,e,_⟩:=x;exact⟨_,e⟩
 | set S n=>obtain⟨o,_,_,_,e,_⟩:=x;exact⟨_,e⟩
 | ins C dx fs=>obtain⟨_,_,_,e,_⟩:=x;exact⟨_,e⟩
 | own y=>obtain⟨_,e⟩:=x;exact⟨_,e⟩
 | xd fs=>obtain⟨_,⟨_,_,_,e,_⟩,_⟩:=x;exact⟨_,e⟩
 | gh lo hi=>obtain⟨_,_,_,e⟩:=x;exact⟨_,e⟩
 | bc ob u=>obtain⟨e,_⟩:=x;exact⟨_,e⟩
 | gS ps=>exact⟨_,(show h.get? a=some _ from x)⟩
 | met f y=>exact⟨_,(show h.get? a=some _ from x)⟩
 | ext φ=>obtain⟨_,⟨_,e⟩,_⟩:=x;exact⟨_,e⟩
theorem bG.rL{P:Program}{w:World}{H:Hp}{h h':Heap}(ok:bG P w H h)(k: ∀b u,H b≠none→h.get? b=some u→h'.get? b=some u):bG P w H h':=fun a o e=>
 (ok a o e).fH (fun b u hb hu=>k b u (by
  rcases hb with rfl | hb
  ·rw[e];exact Option.some_ne_none _
  ·rw[hb];exact Option.some_ne_none _) hu) (fun _ z=>z) (fun _ _ z=>z)
def dj(P:Program)(w:World):aE:=fun outer H s E e s'=> ∃(ea:Addr) (cls:Value) (t:Addr) (B:Heap) (H':Hp),
 e= .ref ea∧s'.os=s.os∧AllBare s'.gens∧Un (bh outer) [] H H' s.heap s'.heap∧bG P w H' s'.heap∧Heap.FlyingW B outer ea cls (.ref t) s'.heap∧cT ea s'∧H' ea=none∧
 (∀b,H' b≠none→ ∀o,s'.heap.get? b=some o→B.get? b=some o)∧(∀b o,s.heap.get? b=some o→b∉bh outer→ ∀o',s'.heap.get? b=some o'→B.get? b=some o')∧E cls none H'
theorem rM{P:Program}{w:World}{outer:List Env}{H:Hp}{s:Shared}{e:Value}{s':Shared}(h:dj P w outer H s E0 e s'):False:=by
 obtain⟨_,_,_,_,_,_,_,_,_,_,_,_,_,_,_,h⟩:=h
 exact h
section
variable {P:Program} {w:World} {K:Frag} {mg:Str→Option Value} {base:Heap} {N:List Str} {qual:Str} {scope:Scope} {f:Addr} {cd:Value} {A:Around} {outer:List Env} {s₀:Shared} {H₀:Hp} {E:XK}
theorem MD:Passes (dj P w) (iC (dj P w) P w K mg base N qual scope f cd A outer s₀ H₀ E) E:=by
 intro pins σ H s e s' I hx
 obtain⟨ea,cls,t,B,H',rfl,os,bare,u,aF,fl,oH,iM,c1,c2,hE⟩:=hx
 have oI:=I.ok.frames
 have hL:s₀.heap.objs.size≤ (envOfC qual scope s₀.heap.objs.size f cd).locals:=I.ok.above
 have nL: ∀b o,s₀.heap.get? b=some o→b∉bh outer→b∉bh (envOfC qual scope s₀.heap.objs.size f cd::outer):=fun b o hb hn hm=>by
  have fR:b∈ (envOfC qual scope s₀.heap.objs.size f cd).locals::bh outer:=hm
  rcases List.mem_cons.mp fR with rfl | z
  ·exact absurd (Heap.lt_size hb) (Nat.not_lt.mpr hL)
  ·exact hn z
 have fI: ∀b∈bh (envOfC qual scope s₀.heap.objs.size f cd::outer),H' b=none:=fun b hb=>by
  obtain⟨o,ho,_⟩:=(I.stack.mem hb).2
  exact u.free b o ho (I.qz b hb) List.not_mem_nil
 refine wpAny_mono (oG Dc oH (wpAny_leaves_onW (Q:=fun _ ee=> ∃h',ee={s' with heap:=h'}∧Heap.FlyingW B outer ea cls (.ref t) h'∧s'.heap.UpToSlots h') (E:=fun _ _=>False) oI rfl fl fun h' fS up=> ⟨h',rfl,fS,up⟩))
  (fun _ ee hq=> ?_) (fun _ _ z=>z.1.elim)
 obtain⟨⟨h',rfl,fS,up⟩,vo⟩:=hq
 have into: ∀b o,s.heap.get? b=some o→b∉bh (envOfC qual scope s₀.heap.objs.size f cd::outer)→ ∀o',s'.heap.get? b=some o'→h'.get? b=some o':=fun b o hb hn o' cR=>fS.1 b o' (c2 b o hb hn o' cR)
 have gT: ∀b o,H' b≠none→s'.heap.get? b=some o→h'.get? b=some o:=fun b o hb ho=>fS.1 b o (c1 b hb o ho)
 have dP: ∀b∈bh (envOfC qual scope s₀.heap.objs.size f cd::outer),∀o,s'.heap.get? b=some o→ ∃sl,h'.get? b=some {o with slots:=sl}:=fun b hb o ho=>by
  obtain⟨o1,gu,hd⟩:=(fl.2.2.1.mem hb).2
  rw[ho] at gu
  cases gu
  exact up b o ho hd
 refine⟨ea,cls,t,B,H',rfl,os.trans I.os,bare,⟨fun b o q n hn _=> ?_,fun b o q n hn _=> ?_,fun b o q n _=> ?_,fun b o q _=> ?_,fun b xs q=>u.dM b xs (I.base.dM b xs q),fun b o v q=>u.dr b o v (I.base.dr b o v q),fun b ps q=> ?_⟩,
  aF.rL (fun b o hb ho=>gT b o hb ho),fS,vo,iM,fun b hb o ho=> ?_,fun b o q hn o' cR=> ?_,hE⟩
 ·have q1:=I.base.keep b o q n hn List.not_mem_nil
  have n1:=I.base.free b o q n List.not_mem_nil
  have gw:=nL b o q hn
  exact into b o q1 gw o (u.keep b o q1 n1 gw List.not_mem_nil)
 ·obtain⟨sl,q1⟩:=I.base.slot b o q n hn List.not_mem_nil
  have n1:=I.base.free b o q n List.not_mem_nil
  have gw:b∈bh (envOfC qual scope s₀.heap.objs.size f cd::outer):=List.mem_cons_of_mem _ hn
  obtain⟨j2,q2⟩:=u.slot b _ q1 n1 gw List.not_mem_nil
  obtain⟨oJ,q3⟩:=dP b gw _ q2
  exact⟨oJ,q3⟩
 ·obtain⟨o1,q1⟩:=I.base.there b o q List.not_mem_nil
  exact u.free b o1 q1 (I.base.free b o q n List.not_mem_nil) List.not_mem_nil
 ·obtain⟨o1,q1⟩:=I.base.there b o q List.not_mem_nil
  obtain⟨o2,q2⟩:=u.there b o1 q1 List.not_mem_nil
  by_cases hm:b∈bh (envOfC qual scope s₀.heap.objs.size f cd::outer)
  ·obtain⟨sl,q3⟩:=dP b hm o2 q2
   exact⟨_,q3⟩
  ·exact⟨o2,into b o1 q1 hm o2 q2⟩
 ·obtain⟨m1,e1⟩:=I.base.dN b ps q
  obtain⟨m2,e2⟩:=u.dN b _ e1
  exact⟨m1++m2,by rw[e2,Array.append_assoc]⟩
 ·obtain⟨e_,hH⟩:=Option.ne_none_iff_exists'.mp hb
  obtain⟨o2,q2⟩:=(aF b e_ hH).rK
  have q3:=gT b o2 hb q2
  have gx:h'.get? b=some o:=ho
  rw[q3] at gx
  cases gx
  exact c1 b hb _ q2
 ·obtain⟨o1,q1⟩:=I.base.there b o q List.not_mem_nil
  obtain⟨o2,q2⟩:=u.there b o1 q1 List.not_mem_nil
  have gw:=nL b o q hn
  have q3:=into b o1 q1 gw o2 q2
  have gx:h'.get? b=some o':=cR
  rw[q3] at gx
  cases gx
  exact c2 b o1 q1 gw _ q2
def Raises(X:Cx)(E:XK):Prop:= ∀(pins:List (Addr×Obj)) (σ:St) (H:Hp) (s:Shared) (h':Heap) (e:Addr) (cls:Value) (vs:List Value),Inv X pins σ H s→Heap.MadeExcOf s.heap h' e cls vs→E cls none H→X.xe (.ref e) {s with heap:=h'}
theorem ME:Raises (iC (dj P w) P w K mg base N qual scope f cd A outer s₀ H₀ E) E:=by
 intro pins σ H s h1 e cls vs I hx hE
 have oI:=I.ok.frames
 have hL:s₀.heap.objs.size≤ (envOfC qual scope s₀.heap.objs.size f cd).locals:=I.ok.above
 have nL: ∀b o,s₀.heap.get? b=some o→b∉bh outer→b∉bh (envOfC qual scope s₀.heap.objs.size f cd::outer):=fun b o hb hn hm=>by
  have fR:b∈ (envOfC qual scope s₀.heap.objs.size f cd).locals::bh outer:=hm
  rcases List.mem_cons.mp fR with rfl | z
  ·exact absurd (Heap.lt_size hb) (Nat.not_lt.mpr hL)
  ·exact hn z
 have cg: ∀env∈ (envOfC qual scope s₀.heap.objs.size f cd::outer),∀b,env.frame=some b→b∈bh (envOfC qual scope s₀.heap.objs.size f cd::outer):=fun env he b hb=>List.mem_filterMap.mpr ⟨env,he,hb⟩
 have oH:cT e {s with heap:=h1}:=by
  obtain⟨t,ht,_,_⟩:=hx.there
  exact⟨_,_,ht,rfl,rfl,rfl⟩
 refine wpAny_mono (oG Dc oH (wpAny_leaves_madeW (Q:=fun _ ee=> ∃h' t,ee={s with heap:=h'}∧Heap.FlyingW (hideAll s.heap (bh (envOfC qual scope s₀.heap.objs.size f cd::outer))) outer e cls (.ref t) h'∧h1.UpToSlots h') (E:=fun _ _=>False)
  oI rfl (fun b o q=>of_hideAll _ q) (PySem.W.funFrames_hide I.stack cg) hx fun h' t fS _ _ up=> ⟨h',t,rfl,fS,up⟩)) (fun _ ee hq=> ?_) (fun _ _ z=>z.1.elim)
 obtain⟨⟨h',t,rfl,fS,up⟩,vo⟩:=hq
 have into: ∀b o,s.heap.get? b=some o→b∉bh (envOfC qual scope s₀.heap.objs.size f cd::outer)→h'.get? b=some o:=fun b o hb hn=>fS.1 b o (hideAll_get _ hb hn)
 have vp: ∀b,H b≠none→b∉bh (envOfC qual scope s₀.heap.objs.size f cd::outer):=fun b hb hm=>hb (I.qz b hm)
 have dP: ∀b∈bh (envOfC qual scope s₀.heap.objs.size f cd::outer),∀o,s.heap.get? b=some o→ ∃sl,h'.get? b=some {o with slots:=sl}:=fun b hb o ho=>by
  obtain⟨o1,gu,hd⟩:=(I.stack.mem hb).2
  rw[ho] at gu
  cases gu
  exact up b o (hx.keeps b o ho) hd
 refine⟨e,cls,t,_,H,rfl,I.os,I.bare,⟨fun b o q n hn _=> ?_,fun b o q n hn _=> ?_,fun b o q n _=>I.base.free b o q n List.not_mem_nil,fun b o q _=> ?_,I.base.dM,I.base.dr,I.base.dN⟩,
  I.aF.rL (fun b o hb ho=>into b o ho (vp b hb)),fS,vo, ?_,fun b hb o ho=> ?_,fun b o q hn o' cR=> ?_,hE⟩
 ·exact into b o (I.base.keep b o q n hn List.not_mem_nil) (nL b o q hn)
 ·obtain⟨sl,q1⟩:=I.base.slot b o q n hn List.not_mem_nil
  obtain⟨oJ,q3⟩:=dP b (List.mem_cons_of_mem _ hn) _ q1
  exact⟨oJ,q3⟩
 ·obtain⟨o1,q1⟩:=I.base.there b o q List.not_mem_nil
  by_cases hm:b∈bh (envOfC qual scope s₀.heap.objs.size f cd::outer)
  ·obtain⟨sl,q3⟩:=dP b hm o1 q1
   exact⟨_,q3⟩
  ·exact⟨o1,into b o1 q1 hm⟩
 ·cases q:H e with
  | none=>rfl
  | some ho=>
   obtain⟨o2,q2⟩:=(I.aF e ho q).rK
   rw[hx.new] at q2
   cases q2
 ·obtain⟨e_,hH⟩:=Option.ne_none_iff_exists'.mp hb
  obtain⟨o2,q2⟩:=(I.aF b e_ hH).rK
  have q3:=into b o2 q2 (vp b hb)
  have gx:h'.get? b=some o:=ho
  rw[q3] at gx
  cases gx
  exact hideAll_get _ q2 (vp b hb)
 ·obtain⟨o1,q1⟩:=I.base.there b o q List.not_mem_nil
  have gw:=nL b o q hn
  have q3:=into b o1 q1 gw
  have gx:h'.get? b=some o':=cR
  rw[q3] at gx
  cases gx
  exact hideAll_get _ q1 gw
end
section
variable {X:Cx}
theorem MF{x:Str}{C:Addr}{bm:List Value}{B newId mR:String}{e:Expr}{es:List Expr}{t:TA}{np cA pos:Pos}{E:XK}(hc:X.calm=true)(O:OwnCls x C bm newId X.mg X.base)(FB:ExcBaseFacts B newId mR bm)(vq:Gl X x)
  (hd:(x==("__debug__":Str))=false) (ha:PA X (e::es) t) (hs:starEach (e::es) X.env=(false,eval e X.env)::starEach es X.env) (h1:(backTo cA (starEach es X.env)).any (·.1)=false) (hR:Raises X E):
  PS X (.Raise (some (.Call (.Name x np) (e::es) [] cA)) none pos) (uO C E t):=by
 intro pins s σ H D I h
 obtain⟨tl,N,nm,q,bs,hdct,sn,sub,ab,col,dd,k0,k1,k2,k3,k5,mN,hC,hN,rN,T⟩:=O.obj
 have hg:PE X (.Name x np) (tC (.ref C)):=AR vq O.bound rfl hd
 refine wpAny_Raise_call_subT (C:=C) (nm:=nm) (q:=q) (N:=N) (bs:=bs) (bm:=tl) (hdct:=hdct) (sn:=sn) (sub:=sub) (ab:=ab) (col:=col) (dd:=dd) (k0:=k0) (k1:=k1) (k2:=k2) (k3:=k3) (k5:=k5)
  FB (mN:=mN) (T.hasType FB.hasBase) (I.ok.hd hc) (by rw[hs];show(false || (backTo cA (starEach es X.env)).any (·.1))=false;rw[h1];rfl) rN
  (aL (hg pins s σ H (fun v H1=>v= .ref C∧uO C E t D σ H1) I ⟨rfl,h⟩) fun f s1 ⟨v,H1,I1,r1,ev,q1⟩=> ?_)
 subst ev
 obtain rfl:f=Value.ref C:=r1
 refine⟨rfl, ?_⟩
 have hA:=ha cA pins s1 σ H1 _ I1 q1
 rw[hs] at hA⊢
 refine Calls.evalArgs_plain (aL hA fun us s2 ⟨vs,H2,I2,r2,hl,q2⟩=> ⟨rfl, ?_,I2.bk _ _ hC,hN.keeps I2.bk,T.keeps I2.bk,fun h' e' hm=>hR pins σ H2 s2 h' e' _ _ I2 hm q2⟩)
 have:=r2.length
 show us.length≤sizeLine
 omega
end
theorem Dd{P:Program}{w:World}{l:List Env}{H H':Hp}{h h1 h' B:Heap}(u:Un (bh l) [] H H' h h1)(aF:bG P w H' h1)(fr:h1.FunFrames B l)
  (c1: ∀b,H' b≠none→ ∀o,h1.get? b=some o→B.get? b=some o) (c2: ∀b o,h.get? b=some o→b∉bh l→ ∀o',h1.get? b=some o'→B.get? b=some o') (st:B.StaysIn h') (up:h1.UpToSlots h'):
  Un (bh l) [] H H' h h'∧bG P w H' h'∧(∀b,H' b≠none→ ∀o,h'.get? b=some o→B.get? b=some o)∧(∀b o,h.get? b=some o→b∉bh l→ ∀o',h'.get? b=some o'→B.get? b=some o'):=by
 have gT: ∀b o,H' b≠none→h1.get? b=some o→h'.get? b=some o:=fun b o hb ho=>st b o (c1 b hb o ho)
 have into: ∀b o,h.get? b=some o→b∉bh l→ ∀o',h1.get? b=some o'→h'.get? b=some o':=fun b o hb hn o' cR=>st b o' (c2 b o hb hn o' cR)
 have dP: ∀b∈bh l,∀o,h1.get? b=some o→ ∃sl,h'.get? b=some {o with slots:=sl}:=fun b hb o ho=>by
  obtain⟨o1,gu,hd⟩:=(fr.mem hb).2
  rw[ho] at gu
  cases gu
  exact up b o ho hd
 refine⟨⟨fun b o q n hn _=>into b o q hn o (u.keep b o q n hn List.not_mem_nil),fun b o q n hn _=> ?_,u.free,fun b o q _=> ?_,u.dM,u.dr,u.dN⟩,aF.rL (fun b o hb ho=>gT b o hb ho),fun b hb o ho=> ?_,fun b o q hn o' cR=> ?_⟩
 ·obtain⟨sl,q1⟩:=u.slot b o q n hn List.not_mem_nil
  obtain⟨j2,q2⟩:=dP b hn _ q1
  exact⟨j2,q2⟩
 ·obtain⟨o1,q1⟩:=u.there b o q List.not_mem_nil
  by_cases hm:b∈bh l
  ·obtain⟨sl,q3⟩:=dP b hm o1 q1
   exact⟨_,q3⟩
  ·exact⟨o1,into b o q hm o1 q1⟩
 ·obtain⟨e_,hH⟩:=Option.ne_none_iff_exists'.mp hb
  obtain⟨o2,q2⟩:=(aF b e_ hH).rK
  have q3:=gT b o2 hb q2
  rw[q3] at ho
  cases ho
  exact c1 b hb _ q2
 ·obtain⟨o2,q2⟩:=u.there b o q List.not_mem_nil
  have q3:=into b o q hn o2 q2
  rw[q3] at cR
  cases cR
  exact c2 b o q hn _ q2
def Cx.alt(X:Cx)(A:Around)(calm:Bool)(pn:List (Addr×Obj))(xe:Value→Shared→Prop):Cx:={X with A:=A,calm:=calm,pn:=pn,xe:=xe}
theorem Inv.alt{X:Cx}{pins fJ km:List (Addr×Obj)}{σ:St}{H:Hp}{s:Shared}{A':Around}{mS:Bool}{vt:Value→Shared→Prop}(I:Inv X pins σ H s)(hf:A'.frames=X.A.frames)(hc:mS=true→A'.handled=none)(hp: ∀p∈km++fJ,p∈X.pn++pins):
  Inv (X.alt A' mS km vt) fJ σ H s where
 ok:=⟨I.ok.mod,I.ok.kind,I.ok.glob,I.ok.blt,I.ok.above,I.ok.inj,I.ok.has,I.ok.qu,hc,hf.trans I.ok.frames,I.ok.fI,I.ok.HC,I.ok.bs,I.ok.jS,I.ok.qv,I.ok.qw,I.ok.gi,I.ok.my⟩
 os:=I.os
 bare:=I.bare
 base:=I.base
 loc:=I.loc
 cell:=I.cell
 free:=I.free
 d9:=I.d9
 pin:=fun p h=>I.pin p (hp p h)
 aF:=I.aF
 len:=I.len
theorem Inv.vv{X:Cx}{pins fJ km:List (Addr×Obj)}{σ:St}{H:Hp}{s:Shared}{A':Around}{mS:Bool}{vt:Value→Shared→Prop}(ok:X.Ok)(I:Inv (X.alt A' mS km vt) fJ σ H s)(hp: ∀p∈X.pn++pins,p∈km++fJ):
  Inv X pins σ H s where
 ok:=ok
 os:=I.os
 bare:=I.bare
 base:=I.base
 loc:=I.loc
 cell:=I.cell
 free:=I.free
 d9:=I.d9
 pin:=fun p h=>I.pin p (hp p h)
 aF:=I.aF
 len:=I.len
theorem MG{P:Program}{w:World}{H:Hp}{h:Heap}{ea:Addr}{ob:Obj}(h1:h.get? ea=some ob):bV P w H h ea (.bc ob jl):=
 ⟨h1,trivial,⟨ob,h1⟩,fun _ _ _ _=>trivial⟩
theorem bG.more{P:Program}{w:World}{H:Hp}{h:Heap}{a:Addr}{o:HO}(ok:bG P w H h)(ha:H a=none)(x:bV P w (upd H a o) h a o):bG P w (upd H a o) h:=fun b u e=>by
 by_cases z:b=a
 ·subst z
  rw[aG] at e
  cases e
  exact x
 ·rw[bC z] at e
  exact(ok b u e).fH (fun _ _ _ q=>q) (fun c q=>by rw[bC (c_ q ha)];exact q) (fun c xs q=>by rw[bC (c_ q ha)];exact q)
section
variable {X:Cx}
theorem Inv.MH{pins:List (Addr×Obj)}{σ:St}{H:Hp}{s:Shared}{h':Heap}{m':Str→Option Value}{tk:Nat}(I:Inv X pins σ H s)(hn:h'.Ns X.env.locals m')(sb:Heap.SameBut X.env.locals s.heap h'):
  Inv X pins (List.replicate X.N.length none) H {s with heap:=h',toks:=tk} where
 ok:=I.ok
 os:=I.os
 bare:=I.bare
 base:=by
  have ne: ∀b o,X.s₀.heap.get? b=some o→b≠X.env.locals:=fun b o q z=>by
   rw[z] at q
   exact absurd (Heap.lt_size q) (Nat.not_lt.mpr I.ok.above)
  refine⟨fun b o q n hn hx=> (sb.2 b (ne b o q)).trans (I.base.keep b o q n hn hx),fun b o q n hn hx=> ?_,I.base.free,fun b o q hx=> ?_,I.base.dM,I.base.dr,I.base.dN⟩
  ·obtain⟨sl,e⟩:=I.base.slot b o q n hn hx
   exact⟨sl,(sb.2 b (ne b o q)).trans e⟩
  ·obtain⟨o',e⟩:=I.base.there b o q hx
   exact⟨o',(sb.2 b (ne b o q)).trans e⟩
 loc:=⟨m',hn,fun i x v h1 h2=>by
  rw[List.getElem?_replicate] at h2
  split at h2<;>cases h2⟩
 cell:=fun x c h=>by
  obtain⟨v,o,e,d⟩:=I.cell x c h
  refine⟨v,o,(sb.2 c (fun z=> ?_)).trans e,d⟩
  obtain⟨m,⟨o2,es,ep,e2,d2,_⟩,_⟩:=I.loc
  rw[z,e2] at e
  cases e
  rw[d] at d2
  cases d2
 free:=I.free
 d9:=I.d9
 pin:=fun p hp=>by
  obtain⟨a,b,c,d,e⟩:=I.pin p hp
  exact⟨(sb.2 _ c).trans a,b,c,d,e⟩
 aF:=I.aF.rL fun b u hb hu=> (sb.2 b (fun z=>hb (by rw[z];exact I.free))).trans hu
 len:=List.length_replicate
theorem MI{x n:Str}{C:Addr}{i:Nat}{body:List Stmt}{b₀:Stmt}{vw:List Stmt}{tb:XK→TS}{th:Addr→TS}{np rO pos:Pos}(gX:X.stack=X.env::X.outer)(oI:X.env.frame=some X.env.locals)(hex:X.ex=[])
  (vq:Gl X x) (hd:(x==("__debug__":Str))=false) (iH:X.mg x=some (.ref C)) (nd:X.N.Nodup) (hN:X.N[i]?=some n) (qU:X.env.scope.names.lookup n=some .local)
  (hb: ∀(pn:List (Addr×Obj)) (xe:Value→Shared→Prop) (E:XK),PassesOwn (model X.prog X.w) X.A X.env xe→Passes (dj X.prog X.w) (X.alt X.A X.calm pn xe) E→a_ (X.alt X.A X.calm pn xe) body (tb E))
  (hh: ∀(ea:Addr) (pn:List (Addr×Obj)),a_ (X.alt (X.A.mark (some (.ref ea))) false pn fun _ _=>False) (b₀::vw) (th ea)):
  PS X (.Try body [.ExceptHandler (some (.Name x np)) (some n) (b₀::vw) rO] [] [] pos) (rC X.K C i X.N.length tb th):=by
 intro pins s σ H D I h
 refine wpAny_Try_except ?_
 have P1:Passes (dj X.prog X.w) (X.alt X.A X.calm (X.pn++pins) fun e s₁=>wpAny (model X.prog X.w) X.A (noteFrame e X.env) (fun _ s₂=>wpAny (model X.prog X.w) X.A (setFlight e none) (fun _ s₃=>wpAny (model X.prog X.w) X.A (handleBy e X.env [.ExceptHandler (some (.Name x np)) (some n) (b₀::vw) rO]) (SP X pins D) X.xe s₃) X.xe s₂) X.xe s₁) (CO X.K C i X.N.length th D):=by
  intro fJ σ' H1 s1 e' s' I1 hx
  obtain⟨ea,cls,t,B,H',rfl,os,bare,u,aF,fl,oH,iM,c1,c2,hm,MJ⟩:=hx
  have MK:X.A.frames=some (X.env::X.outer):=by rw[I.ok.frames,gX]
  have fS:Heap.FlyingW B (X.env::X.outer) ea cls (.ref t) s'.heap:=by rw[←gX];exact fl
  refine wpAny_mono (oG C_ oH (wpAny_looks_onW (Q:=fun _ ee=> ∃h',ee={s' with heap:=h'}∧Heap.HeldW B (X.env::X.outer) ea cls (.ref t) X.env.locals h'∧s'.heap.UpToSlots h') (E:=fun _ _=>False) MK oI fS fun h4 vx vy=> ⟨h4,rfl,vx,vy⟩))
   (fun _ s4 hq=> ?_) (fun _ _ z=>z.1.elim)
  obtain⟨⟨h4,rfl,vx,vy⟩,ML⟩:=hq
  refine wpAny_mono (oG vm ML (wpAny_landsW (s:={s' with heap:=h4}) (Q:=fun _ ee=> ∃h',ee={s' with heap:=h'}∧Heap.FlyingW B (X.env::X.outer) ea cls (.ref t) h'∧h4.UpToSlots h') (E:=fun _ _=>False) vx fun h5 mT vz=> ⟨h5,rfl,mT,vz⟩))
   (fun _ s5 hq=> ?_) (fun _ _ z=>z.1.elim)
  obtain⟨⟨h5,rfl,MM,vz⟩,MN⟩:=hq
  have mT:Heap.FlyingW B X.stack ea cls (.ref t) h5:=by rw[gX];exact MM
  obtain⟨u5,De,oK,oM⟩:=Dd (l:=X.stack) u aF fl.2.2.1 c1 c2 mT.1 (vy.trans vz)
  obtain⟨oe,ws,MO,MP,ZN,ZO⟩:=mT.first
  have I5:=I1.tW (s':={s' with heap:=h5}) (ch:=[]) os u5 De bare (fun b z=>absurd z List.not_mem_nil)
  refine wpAny_handleBy_cons (codeAny_handlers_test ?_) (by intro q;cases q)
  have nP:Inv (X.alt (X.A.mark (some (.ref ea))) false (X.pn++pins) fun _ _=>False) [] σ' H' {s' with heap:=h5}:=I5.alt (A':=X.A.mark (some (.ref ea))) (mS:=false) (km:=X.pn++pins) (fJ:=[]) rfl (fun z=>nomatch z) (fun p hp=>List.mem_append.mpr (.inl (by rw[List.append_nil] at hp;exact hp)))
  refine qC nP vq iH ?_ hd
  have LT:PySem.W.Looks (model X.prog X.w) h5 (typeOf (.ref ea)) cls:=by
   subst MP
   exact(PySem.W.Looks.ld MO).andThen .now
  refine(PySem.W.exm_one I5.cQ LT hm).here ?_
  refine codeAny_handlers_suite_as ?_
  refine wpAny_mono (oG vm MN (lands_againW (s:={s' with heap:=h5}) (Q:=fun _ ee=> ∃h',ee={s' with heap:=h'}∧Heap.FlyingW B X.stack ea cls (.ref t) h'∧h5.UpToSlots h') (E:=fun _ _=>False) mT fun h6 mU vA=> ⟨h6,rfl,mU,vA⟩))
   (fun _ s6 hq=> ?_) (fun _ _ z=>z.1.elim)
  obtain⟨⟨h6,rfl,mU,vA⟩,MQ⟩:=hq
  obtain⟨u6,MR,rP,MS⟩:=Dd (l:=X.stack) u5 De mT.2.2.1 oK oM mU.1 vA
  obtain⟨mV,Df,rQ,MT,vB,_⟩:=mU.first
  have MU:uN mV cls Df:=by
   obtain⟨o',ZP,q1,q2,q3,q4⟩:=MQ
   have Dg:h6.get? ea=some o':=q1
   rw[rQ] at Dg
   cases Dg
   rw[vB] at q2
   cases q2
   exact⟨MT,vB,q3,q4⟩
  have ne1:s1.heap.get? ea=none:=by
   cases q:s1.heap.get? ea with
   | none=>rfl
   | some o1=>
    by_cases Dh:ea∈bh X.stack
    ·obtain⟨o2,e_,hd2⟩:=(mU.2.2.1.mem Dh).2
     rw[rQ] at e_
     cases e_
     exact(hd2 _ vB).elim
    ·have:=MS ea o1 q Dh mV rQ
     rw[mU.2.1] at this
     cases this
  have u7:Un (bh X.stack) [] H1 (upd H' ea (.bc mV jl)) s1.heap h6:=⟨u6.keep,u6.slot,fun b o q n hx=>by
    rw[bC (fun z=>by rw[z,ne1] at q;cases q)];exact u6.free b o q n hx,u6.there,fun b xs q=>by
    have q':=u6.dM b xs q
    rw[bC (c_ q' iM)];exact q',fun b o v q=>by
    have q':=u6.dr b o v q
    rw[bC (c_ q' iM)];exact q',fun b ps q=>by
    obtain⟨more,q'⟩:=u6.dN b ps q
    exact⟨more,by rw[bC (c_ q' iM)];exact q'⟩⟩
  have MV:bG X.prog X.w (upd H' ea (.bc mV jl)) h6:=MR.more iM (MG rQ)
  have I7:=I1.tW (s':={s' with heap:=h6}) (ch:=[]) os u7 MV bare (fun b z=>absurd z List.not_mem_nil)
  have I8:Inv (X.alt (X.A.mark (some (.ref ea))) false (X.pn++pins) fun _ _=>False) [] σ' (upd H' ea (.bc mV jl)) {s' with heap:=h6}:=I7.alt (A':=X.A.mark (some (.ref ea))) (mS:=false) (km:=X.pn++pins) (fJ:=[]) rfl (fun z=>nomatch z) (fun p hp=>List.mem_append.mpr (.inl (by rw[List.append_nil] at hp;exact hp)))
  refine tV (X:=X.alt (X.A.mark (some (.ref ea))) false (X.pn++pins) fun _ _=>False) (v:= .ref ea) I8 nd hN (.inl qU) rfl (fun s9 I9=> ?_) (.inr qU)
  refine wpAny_mono (hh ea (X.pn++pins) [] s9 _ _ {nx:=fun _ _=>False,rt:=D.rt} I9 (MJ ea mV Df σ' iM I1.len MU)) (fun f vC hs=> ?_) fun _ _ z=>z.elim
  cases f with
  | next=>obtain⟨_,_,_,z⟩:=hs;exact z.elim
  | brk=>obtain⟨_,_,_,z⟩:=hs;exact z.elim
  | cont=>obtain⟨_,_,_,z⟩:=hs;exact z.elim
  | ret v=>
   obtain⟨v',MW,Di,MX,r,q⟩:=hs
   have Dj:Inv X pins MW Di vC:=MX.vv I.ok (fun p hp=>by simpa using hp)
   obtain⟨m,hn,_⟩:=Dj.loc
   refine wpAny_nameGoes qU hn (by rw[I.ok.kind];rfl) fun h' m' tR sb=> ?_
   exact⟨v',_,Di,Dj.MH tR sb,r,q⟩
 refine wpAny_mono (hb _ _ _ PassesOwn.looking P1 [] s σ H {nx:=D.nx,rt:=D.rt} (I.alt rfl I.ok.hd (fun p hp=>by simpa using hp)) h) (fun f s1 hs=> ?_) fun e' s' hx=>hx
 cases f with
 | next=>
  obtain⟨σ',H',I',q⟩:=hs
  exact A4 pins s1 σ' H' D (I'.vv I.ok (fun p hp=>by simpa using hp)) q
 | brk=>obtain⟨_,_,_,z⟩:=hs;exact z.elim
 | cont=>obtain⟨_,_,_,z⟩:=hs;exact z.elim
 | ret v=>
  obtain⟨v',σ',H',I',r,q⟩:=hs
  exact⟨v',σ',H',I'.vv I.ok (fun p hp=>by simpa using hp),r,q⟩
end
def eA(A:Around)(H:Hp):Prop:= ∃e D,A.handled=some (.ref e)∧ExcAt H e D
def Hd(X:Cx):Prop:=eA X.A X.H₀
theorem ExcAt.keeps{H H':Hp}{e D:Addr}(h:ExcAt H e D)(k: ∀b o u,H b=some (.bc o u)→H' b=some (.bc o u)):ExcAt H' e D:=by
 obtain⟨ob,vs,h1,h2⟩:=h
 exact⟨ob,vs,k _ _ _ h1,h2⟩
theorem eA.keeps{A:Around}{H H':Hp}(h:eA A H)(k: ∀b o u,H b=some (.bc o u)→H' b=some (.bc o u)):eA A H':=by
 obtain⟨e,D,h1,h2⟩:=h
 exact⟨e,D,h1,h2.keeps k⟩
theorem eA.jt{P:Program}{w:World}{A:Around}{H:Hp}{h:Heap}(x:eA A H)(ok:bG P w H h):fg A h:=by
 obtain⟨e,D,h1,ob,vs,h2,h3⟩:=x
 exact .inr ⟨e,ob,vs,h1,(ok e _ h2).1,h3.data,h3.Lz⟩
section
variable {X:Cx} {pins:List (Addr×Obj)} {σ:St} {H:Hp} {s:Shared}
theorem Hd.at(h:Hd X)(I:Inv X pins σ H s):eA X.A H:=eA.keeps h I.base.dr
theorem Hd.jt(h:Hd X)(I:Inv X pins σ H s):fg X.A s.heap:=(h.at I).jt I.aF
end
theorem MY{P:Program}{w:World}{K:Frag}{tg:Expr}(a it:Addr):uE Hd P w K tg (dt K a) [it] it (fun i h=>h.IsListIter it a i) where
 mem:=by simp
 obj:=(qG (P:=P) (w:=w) (K:=K) (tg:=tg) a it).obj
 keep:=(qG (P:=P) (w:=w) (K:=K) (tg:=tg) a it).keep
 item:=by
  intro X hP hw hK hc i pins s σ H E I hf st hg
  subst hP hw hK
  obtain⟨xs,x,hq,hx⟩:=hg
  obtain⟨its,rv,p,hz⟩:=I.list hq
  obtain⟨u,hu,ru⟩:=rv.get hx
  obtain⟨f0,f1,f2,f3,f4,f5⟩:=hf it (by simp)
  refine wpAny_pyNext_list_item st p.isList (x:=u) (by simpa using hu) fun h' du sb=> ?_
  have I1:Inv X pins σ H {s with heap:=h'}:=I.turned (t':=s.toks) (fun b o hb e=> (sb.2 b hb).trans e) f0 f1 f3 f4 f5
  obtain⟨o,e,c,d⟩:=id du
  exact⟨u,rfl,t5 (s:={s with heap:=h'}) e c d (by decide) ⟨x,H,I1,ru,⟨rfl,fun ys hy=>by rw[I.nI hy hq];exact hx⟩,du,fun b hb=> (hf b hb).1⟩⟩
 done:=by
  intro X hP hw hK hc i pins s σ H E I hf st hg
  subst hP hw hK
  obtain⟨xs,hq,hx⟩:=hg
  obtain⟨its,rv,p,hz⟩:=I.list hq
  obtain⟨f0,f1,f2,f3,f4,f5⟩:=hf it (by simp)
  have hl:=rv.length
  exact Mh (hc.jt I) st p.isList (by simp;omega) fun h' eb=> ⟨rfl,I.turned (t':=s.toks) (fun b o hb e=>eb b o hb e) f0 f1 f3 f4 f5⟩
 self:=(qG (P:=P) (w:=w) (K:=K) (tg:=tg) a it).self
section
variable {X:Cx} {tg:Expr}
theorem MZ{l:Expr}{tl:TE}(hl:PE X l tl):q9 Hd X tg l (nM X.K tl):=by
 intro pins s σ H R I h
 refine aL (hl pins s σ H _ I h) fun v s1 ⟨x,H1,I1,r1,q1⟩=> ?_
 obtain⟨a,e,⟨xs,hq⟩,q⟩:=q1
 subst e
 cases r1
 obtain⟨its,rv,p,hz⟩:=I1.list hq
 refine wpAny_pyIter_list p.isList ?_
 refine⟨s1.heap.objs.size,[s1.heap.objs.size],_,_,H1,rfl,I1.kept (t':=s1.toks) fun b o e=>Heap.get?_push_of_some _ e,MY a _,⟨_,Heap.get?_push_size _ rfl,rfl,rfl⟩,fun b hb=> ?_,q⟩
 have e:b=s1.heap.objs.size:=by simpa using hb
 subst e
 exact I1.nK (Nat.le_refl _) (I1.aF.fresh (Nat.le_refl _))
theorem M0{pos:Pos}{es:List Expr}{k:Nat}{t:gj}{n:Nat}(hd:Hd X)(h:jU X es t)
  (hn:(assignEach es X.env).length=n:=by rfl) (gX:(assignEach es X.env).findIdx? (·.1)=none:=by rfl):PG X (.Tuple es k pos) (qF X.K n t):=by
 intro pins s σ H v u Q I r hw
 obtain⟨a,xs,e1,hq,hl,hw⟩:=hw
 subst e1
 cases r
 obtain⟨its,rv,ht,hz⟩:=I.tuple hq
 refine Mm (hd.jt I) ht (by simp[hn,←hl,rv.length]) gX fun h' hx=> ?_
 have I1:Inv X pins σ H {s with heap:=h'}:=I.kept (t':=s.toks) fun b o e=>hx b o (Nat.ne_of_lt (Heap.lt_size e)) e
 exact h pins _ σ H xs _ Q I1 (by simpa using rv) hw
theorem M1{scope:Scope}{fv:List (Str×Nat)}{x y:Str}{px py pos:Pos}{k:Nat}(hx:scope.names.lookup x=some .local)(hy:scope.names.lookup y=some .local)(j_:(x::y::fv.map (·.1)).Nodup):q_ (eA X.A) X scope [x,y] fv (.Tuple [.Name x px, .Name y py] k pos) (some 2):=by
 intro ex C s H hH
 generalize eX:ei X scope ([x,y]++fv.map (·.1)) ex C s H=Xc
 have xN:Xc.N=x::y::fv.map (·.1):=by rw[←eX];rfl
 have xd:Hd Xc:=by rw[←eX];exact hH
 have lx:Xc.env.scope.names.lookup x=some .local:=by rw[←eX];exact lookup_relabel_local hx
 have ly:Xc.env.scope.names.lookup y=some .local:=by rw[←eX];exact lookup_relabel_local hy
 have p1:PG Xc (.Name x px) (cW 0):=mB (by rw[xN];exact j_) (by rw[xN];rfl) (.inl lx) (.inr lx)
 have p2:PG Xc (.Name y py) (cW 1):=mB (by rw[xN];exact j_) (by rw[xN];rfl) (.inl ly) (.inr ly)
 have xK:Xc.K=X.K:=by rw[←eX];rfl
 refine⟨qF Xc.K 2 (mD (cW 0) (mD (cW 1) qE)),M0 xd (nJ p1 (nJ p2 t4)),fun v pre φ H' Q hp h=> ?_⟩
 obtain⟨a,b,rfl⟩: ∃a b,pre=[a,b]:=by
  match pre,hp with
  | [a,b],_=>exact⟨a,b,rfl⟩
 obtain⟨a',xs,rfl,e2,e3,q⟩:=h
 obtain⟨v1,v2,rfl⟩: ∃v1 v2,xs=[v1,v2]:=by
  match xs,e3 with
  | [v1,v2],_=>exact⟨v1,v2,rfl⟩
 exact⟨a',_,rfl,by rw[xK];exact e2,rfl,v1,_,rfl,v2,_,rfl,rfl,q rfl⟩
theorem M3{X:Cx}: ∀H,eA X.A H→ ∀Xc:Cx,Xc.A=X.A→Xc.calm=X.calm→Xc.H₀=H→Hd Xc:=fun H h Xc a _ b=>by
 show eA Xc.A Xc.H₀
 rw[a,b];exact h
theorem M4:bA X (.builtin "isinstance") (g_ X.K):=by
 intro pins s σ H xs us Q I r h
 match xs,h with
 | [.ref ea,c],h=>
  obtain⟨D,b,⟨ob,vs,h1,h2⟩,hC,hc,hk,hq⟩:=h
  cases r with
  | cons r1 r=>
   cases r with
   | cons r2 r=>
    cases r
    rename_i u1 u2
    cases (show u1=Value.ref ea from r1)
    have e2:u2=cV c:=by
     rcases hc with⟨C,rfl⟩ | ⟨n,rfl⟩
     ·exact r2
     ·exact r2
    subst e2
    have at_:=(I.aF ea _ h1).1
    have inst:InstAt s.heap ea ob D none:=⟨at_,h2.cls,by unfold PySem.W.notCls;rw[h2.data],by rw[h2.dict];trivial⟩
    exact kia_one (Mq hC.oq hC.ot hC.hk hC.ha hC.hn hC.jd hC.hm hC.hb) I.cQ inst hk (fun z=>nomatch z) fun tk=> ⟨.bl b,H,I.tok tk,rfl,hq⟩
end
structure eB (k:Nat) (A:Around):Prop where
 dp:A.depth+3*k+5<recursionLimit
 un:A.units+16*k+200<cLine
theorem cX.h{k:Nat}{A:Around}(r:cX k A):eB k A:=⟨r.dp,r.un⟩
theorem eB.mark{k:Nat}{A:Around}(r:eB k A)(v:Option Value):eB k (A.mark v):=⟨r.dp,r.un⟩
theorem eB.deeper{k:Nat}{A:Around}(r:eB (k+1) A)(env:Env):eB k (A.deeper env):=
 ⟨by have:=r.dp;show A.depth+1+3*k+5<_;omega,by have:=r.un;show A.units+3+16*k+200<_;omega⟩
theorem eB.depth{k:Nat}{A:Around}(r:eB k A):A.depth<recursionLimit:=by have:=r.dp;omega
theorem eB.units{k:Nat}{A:Around}(r:eB k A):A.units+64<cLine:=by have:=r.un;omega
def M5(outer:List Env)(P:Program)(w:World)(H:Hp)(s:Shared)(Q:VK)(r:Result)(s':Shared):Prop:=
 match r with
 | .ok (.ret u)=>CE outer P w H s Q u s'
 | _=>False
structure ko (P:Program) (w:World) (K:Frag) (mg:Str→Option Value) (base:Heap) (k:Nat) (f:Addr) (fd:FuncData) (ps:List Str) (sp:Sp):Prop where
 len: ∀vs H Q E,sp vs H Q E→vs.length=ps.length
 run: ∀(A:Around) (outer:List Env) (s:Shared) (H:Hp) (args:Args) (us:List Value) (vs:List V) (Q:VK),eB k A→eA A H→mG P w K mg base A outer s H→BindsTo s fd args (ps.zip us)→Vals vs us→sp vs H Q E0→
  codeAny (model P w) A (.call (.ref f) args) (M5 outer P w H s Q) s
theorem ko.mono{P:Program}{w:World}{K:Frag}{mg:Str→Option Value}{base:Heap}{j k:Nat}{f:Addr}{fd:FuncData}{ps:List Str}{sp:Sp}(F:ko P w K mg base j f fd ps sp)(h:j≤k):ko P w K mg base k f fd ps sp:=
 ⟨F.len,fun A outer s H args us vs Q hr=>F.run A outer s H args us vs Q ⟨by have:=hr.dp;omega,by have:=hr.un;omega⟩⟩
def rR(CX:aE)(P:Program)(w:World)(K:Frag)(mg:Str→Option Value)(base:Heap)(N:List Str)(qual:Str)(scope:Scope)(f:Addr)(cd:Value)(A:Around)(outer:List Env)(s:Shared)(H:Hp):Cx:=
 (iC CX P w K mg base N qual scope f cd {A with handled:=none} outer s H E0).alt (A.deeper (envOfC qual scope s.heap.objs.size f cd)) false [] fun _ _=>False
theorem M6{CX:aE}{P:Program}{w:World}{K:Frag}{mg:Str→Option Value}{base:Heap}{k:Nat}{f:Addr}{name qual:Str}{params:Arguments}{body:List Stmt}{scope:Scope}{dV kV doc pm bj ct oc:Value}{an od:Option Addr}
  {gk:Array (Option Value)} {N ps:List Str} {sp:Sp} (lk:K.lookup f=some ⟨oc,od, .func (fnOf name qual params body scope dV kV doc pm an bj ct),gk⟩) (e8:codeIn K bj qual=true) (S:bO N ps scope)
  (len: ∀vs H Q E,sp vs H Q E→vs.length=ps.length)
  (uc: ∀(A:Around) (outer:List Env) (s:Shared) (H:Hp) (vs:List V) (Q:VK),eB k (A.deeper (envOfC qual scope s.heap.objs.size f bj))→eA A H→sp vs H Q E0→
   ∃t,a_ (rR CX P w K mg base N qual scope f bj A outer s H) body t∧t {nx:=fun _ H'=>Q .ai H',rt:=Q} (start N vs) H):
  ko P w K mg base (k+1) f (fnOf name qual params body scope dV kV doc pm an bj ct) ps sp:=by
 refine⟨len,fun A outer s H args us vs Q hr hh e0 hb r e9=> ?_⟩
 have hl:=len _ _ _ _ e9
 have KX:K.In s.heap:=e0.mod.nG.keeps fun b o e=> (e0.bs b o e).1
 have lim:s.heap.NoLimit:=e0.mod.nolimit.keeps fun b o e=> (e0.bs b o e).1
 have ud: ∀y∈ps.zip us,scope.names.lookup y.1=some .local∨(scope.names.lookup y.1=some .cell∧((cellsFrom (s.heap.objs.size+1) scope.names []).lookup y.1).isSome=true):=fun⟨n,v⟩ hy=>by
  rcases S.par n (List.of_mem_zip hy).1 with q | q
  ·exact .inl q
  ·exact .inr ⟨q,cellsFrom_some _ _ _ (.inl q)⟩
 refine codeAny_call_function hr.depth (KX _ _ lk) rfl S.co S.gen rfl (codeRec_of KX e8) (hb _ _ _ _ ?_)
 refine wpAny_newFunctionEnv_cells S.kind ud fun env he s1 x=> ?_
 subst he
 refine⟨lim.keeps x.toInCall.keep,codeAny_func ?_⟩
 obtain⟨t,ht,hq⟩:=uc A outer s H vs Q (hr.deeper _) hh e9
 have M7:mG P w K mg base {A with handled:=none} outer s H:=⟨e0.frames,e0.mod,e0.bs,e0.jS,e0.gi,e0.my,e0.aF,e0.bare⟩
 have I0:Inv (iC CX P w K mg base N qual scope f bj {A with handled:=none} outer s H E0) [] (start N vs) H s1:=BG S rfl M7 hl r x
 have I:Inv (rR CX P w K mg base N qual scope f bj A outer s H) [] (start N vs) H s1:=I0.alt rfl (fun z=>nomatch z) (fun p hp=>hp)
 refine wpAny_mono (ht [] s1 (start N vs) H _ I hq) (fun fl s' hs=> ?_) fun e s' hs=>hs.elim
 have fin: ∀{σ':St} {H':Hp} {v:V} {u:Value},Inv (rR CX P w K mg base N qual scope f bj A outer s H) [] σ' H' s'→RelV v u→Q v H'→CE outer P w H s Q u s':=
  fun {σ' H' v u} J rv q=> ⟨v,H',J.os,J.bare,J.base,J.aF,rv,q⟩
 cases fl with
 | ret u=>
  obtain⟨v,σ',H',J,rv,q⟩:=hs
  exact fin J rv q
 | next=>
  obtain⟨σ',H',J,q⟩:=hs
  exact fin (v:=V.ai) (u:=Value.none) J rfl q
 | brk=>
  obtain⟨_,_,_,q⟩:=hs
  exact False.elim q
 | cont=>
  obtain⟨_,_,_,q⟩:=hs
  exact False.elim q
theorem M8{CX:aE}{P:Program}{w:World}{K:Frag}{mg:Str→Option Value}{base:Heap}{N:List Str}{qual:Str}{scope:Scope}{f:Addr}{cd:Value}{A:Around}{outer:List Env}{s:Shared}{H:Hp}(h:eA A H):Hd (rR CX P w K mg base N qual scope f cd A outer s H):=h
section
variable {X:Cx} {k:Nat} {f:Addr} {fd:FuncData} {ps:List Str} {sp:Sp} {x:Str} {p pos:Pos} {e:Expr} {ta:TE} {hv:Option Addr}
theorem M9(F:ko X.prog X.w X.K X.mg X.base k f fd ps sp)(hr:eB k X.A)(hg:Gl X x)(hm:X.mg x=some (.ref f))(hk:keepIn X.K (.ref f)=true)(hb:Binds X.K fd ps [])(hh: ∀e,hv=some e→X.A.handled=some (.ref e))
  (ha:PE X e ta) (hs:noStar e=true) (j1:(x==("__debug__":Str))=false):PE X (.Call (.Name x p) [e] [] pos) (CN sp hv (cj ta eO)):=by
 intro pins s σ H Q I h
 have he:starEach [e] X.env=(false,eval e X.env)::starEach [] X.env:=by cases e<;>first | rfl | cases hs
 refine wpAny_Call_Name_kw (qC I hg hm ?_ j1)
 have hA:PA X [e] (cj ta eO):=g4 ha j0 he
 refine callWith_K (h₀:=X.base) I.ok.mod.nG hk (aL (hA pos pins s σ H _ I h) fun us s1 ⟨vs,H1,I1,r,⟨ea,D,h1,h2⟩,q⟩=> ⟨I1.cQ, ?_⟩) he rfl
 have r2:Vals vs us:=r
 have hl:us.length=ps.length:=by rw[←r2.length];exact F.len _ _ _ _ q
 have mK:=hb s1 us I1.cQ (by rw[List.append_nil];exact hl)
 rw[List.append_nil] at mK
 refine wpAny_call (codeAny_mono (F.run X.A X.stack s1 H1 ⟨us,[]⟩ us vs Q hr ⟨ea,D,hh ea h1,h2⟩ I1.Bz mK r2 q) fun r s' hq=> ?_)
 cases r with
 | error e=>exact False.elim hq
 | ok fl=>
  cases fl with
  | ret u=>exact I1.after hq
  | next=>exact False.elim hq
  | brk=>exact False.elim hq
  | cont=>exact False.elim hq
end
def Dk(CX:aE)(X:Cx)(x:Str)(sp:Sp):Prop:=
 ∃k f fd ps,bS X.prog X.w X.K X.mg X.base CX k f fd ps sp∧cX k X.A∧X.mg x=some (.ref f)∧keepIn X.K (.ref f)=true∧Binds X.K fd ps []
def Dl(CX:aE)(X:Cx)(C:Addr)(m:Str)(sp:Sp):Prop:=
 jZ X.K C∧ ∃k f fd ps,Meth X.K C m f∧bS X.prog X.w X.K X.mg X.base CX k f fd ps sp∧cX k X.A∧Binds X.K fd ps []
def Dm(CX:aE)(X:Cx)(x:Str)(C:Addr)(sp:Sp):Prop:=
 ∃k f fd ps,Mk X.K C f∧bS X.prog X.w X.K X.mg X.base CX k f fd ps sp∧cX (k+1) X.A∧X.mg x=some (.ref C)∧Binds X.K fd ps []
def Dp(X:Cx)(x:Str)(sp:Sp):Prop:=
 ∃k f fd ps,ko X.prog X.w X.K X.mg X.base k f fd ps sp∧eB k X.A∧X.mg x=some (.ref f)∧keepIn X.K (.ref f)=true∧Binds X.K fd ps []
def Dq(X:Cx)(x:Str)(C:Addr):Prop:= ∃bm B newId mR,OwnCls x C bm newId X.mg X.base∧ExcBaseFacts B newId mR bm
structure Good (CX:aE) (S:bP) (Γ:av) (X:Cx):Prop where
 N:X.N=S.N
 sc:X.env.scope=S.sc
 K:X.K=Γ.K
 calm:S.md=0→X.calm=true
 units:X.A.units+64<cLine
 fns:S.md=0→ ∀j x,S.fn[j]?=some x→Dk CX X x (Γ.fs j)
 hU: ∀j x,S.gn[j]?=some x→ ∃u,X.mg x=some u∧RelV (Γ.gv j) u
 cI: ∀x,S.bl.contains x=true→X.mg x=none
 pass:Passes CX X Γ.E
 hV: ∀outer H s e s',CX outer H s E0 e s'→False
 iN: ∀p aH,Γ.sd p aH→ ∀h:Heap,X.K.In h→ ∃vs,KV aH vs∧h.DictOf (gR X.prog X.w) p vs
 kq:S.md=0→ ∀j m,S.mn[j]?=some m→Dl CX X (Γ.ms j).1 m (Γ.ms j).2
 kr:S.md=0→ ∀j x,S.kn[j]?=some x→Dm CX X x (Γ.kt j).1 (Γ.kt j).2
 mW: ∀j x,S.en[j]?=some x→Dq X x (Γ.ex j)
 iO: ∀j x,S.hn[j]?=some x→Dp X x (Γ.hs j)
 ju: ∀e,Γ.hv=some e→X.A.handled=some (.ref e)
 ku:S.md=1→Hd X
theorem rS{S:bP}(h:(if S.md=0 then 0 else 2)=0):S.md=0:=by
 split at h
 ·assumption
 ·cases h
section
variable {CX:aE} {S:bP} {Γ:av} {X:Cx}
theorem Good.inner(G:Good CX S Γ X)(c:oA)(ln:List Str)(fv:List (Str×Nat))(ex:List Addr)(C:Addr)(s:Shared)(H:Hp):
  Good CX (C6 S c ln fv) Γ.calm (ei X c.sc (ln++fv.map (·.1)) ex C s H) where
 N:=rfl
 sc:=by
  show relabel c.sc X.env=uZ c.sc S.sc
  rw[←G.sc];rfl
 K:=G.K
 calm:=fun h=>G.calm (rS h)
 units:=G.units
 fns:=fun m j x h=>G.fns (rS m) j x h
 hU:=G.hU
 cI:=G.cI
 pass:=fun _ _ _ _ _ _ _ h=> (G.hV _ _ _ _ _ h).elim
 hV:=G.hV
 iN:=G.iN
 kq:=fun z j m h=>G.kq (rS z) j m h
 kr:=fun z j x h=>G.kr (rS z) j x h
 mW:=fun j x h=>by simp[C6] at h
 iO:=fun j x h=>G.iO j x h
 ju:=fun e h=>G.ju e h
 ku:=fun h=>by
  have h':(if S.md=0 then 0 else 2)=1:=h
  split at h'<;>cases h'
theorem Good.gl(G:Good CX S Γ X){x:Str}(h:js S.sc x=true):Gl X x:=by
 show X.env.scope.names.lookup x=_
 rw[G.sc];exact LS h
theorem cn{e:Expr}{es:List Expr}{env:Env}(h:noStar e=true):starEach (e::es) env=(false,eval e env)::starEach es env:=by
 cases e<;>first | rfl | cases h
theorem n_{o:Expr}{x:Str}{env:Env}(h:rH o=true):attributeBase o x env (eval o env)=eval o env:=by
 unfold attributeBase
 split
 ·cases h
 ·rfl
theorem rT{e:Expr}{env:Env}(h:oB e=true): ∀x,foldedSetIterable e env x=pure x:=by
 intro x
 cases e<;>first | rfl | cases h
def dn(es:List Expr):Bool:=es.all noStar
theorem fh(env:Env)(pos:Pos): ∀(es:List Expr),dn es=true→(backTo pos (starEach es env)).any (·.1)=false
 | [],h=>rfl
 | e::es,h=>by
  simp only[dn,List.all_cons,Bool.and_eq_true] at h
  rw[cn h.1]
  have ih:=fh env pos es h.2
  show(false || (backTo pos (starEach es env)).any (·.1))=false
  rw[ih];rfl
theorem Dr(env:Env)(pos:Pos): ∀(es:List Expr),dn es=true→(backTo pos (starEach es env)).all (fun x=> !x.1)=true
 | [],h=>rfl
 | e::es,h=>by
  simp only[dn,List.all_cons,Bool.and_eq_true] at h
  rw[cn h.1]
  have ih:=Dr env pos es h.2
  show(!false && (backTo pos (starEach es env)).all (fun x=> !x.1))=true
  rw[ih];rfl
theorem bT{e:Expr}{es:List Expr}(h:dn (e::es)=true):noStar e=true∧dn es=true:=by
 simp only[dn,List.all_cons,Bool.and_eq_true] at h
 exact h
theorem Ds(G:Good CX S Γ X){c:oA}{ln:List Str}{fv:List (Str×Nat)}(h:va S c ln fv=true):
  g7 X c.sc ln fv∧(∀x∈ln,c.sc.names.lookup x=some .local)∧(ln++fv.map (·.1)).Nodup∧oB c.iter=true:=by
 simp only[va,Bool.and_eq_true,decide_eq_true_eq,List.all_eq_true,Bool.or_eq_true] at h
 obtain⟨⟨⟨⟨⟨⟨⟨h1,h2⟩,h3⟩,h4⟩,h5⟩,h6⟩,h7⟩,h8⟩:=h
 refine⟨⟨h1,fun y hy=>h2 y hy,fun y hy hl=> ?_,fun y hy hf=> ?_,fun p hp=> ?_⟩,h6,h7,h8⟩
 ·rcases h3 y hy with z | z
  ·exact absurd hl z
  ·exact z
 ·show X.env.scope.names.lookup y.1=_∨X.env.scope.names.lookup y.1=_
  rw[G.sc]
  rcases h4 y hy with(z | z) | z
  ·exact absurd hf z
  ·exact .inl z
  ·exact .inr z
 ·rw[G.N];exact h5 p hp
theorem M_(hc:X.calm=true){c:oA}{tk:Option Nat}{ln:List Str}{fv:List (Str×Nat)}(h:u_ tk c.tg=some ln)(hl: ∀x∈ln,c.sc.names.lookup x=some .local)(hn:(ln++fv.map (·.1)).Nodup):
  rf X c.sc ln fv c.tg tk:=by
 unfold u_ at h
 split at h
 ·rename_i x p he
  cases h
  rw[he]
  exact K6 (hl x (by simp)) hn
 ·rename_i x p y q k pos he
  cases h
  rw[he]
  exact K8 hc (hl x (by simp)) (hl y (by simp)) hn
 ·cases h
theorem Na{xs:List V}{H:Hp}{Q:VK}{K:Frag}(h:kh K .int xs H Q):(∃i,xs=[.int i]∧Q (.int i) H)∨ ∃k,xs=[.bl k]∧Q (.int (if k then 1 else 0)) H:=by
 match xs,h with
 | [.int i],h=>exact .inl ⟨i,rfl,h⟩
 | [.bl k],h=>exact .inr ⟨k,rfl,h⟩
theorem Nb{K:Frag}{x:V}{H:Hp}{Q:Nat→Prop}(h:n6 K x H Q): ∃n,Bt K x H n∧Q n:=by
 match x,h with
 | .str y,h=>exact⟨_,⟨h.1,rfl⟩,h.2⟩
 | .ref p, .inl ⟨xs,a,b⟩=>exact⟨_, .inl ⟨xs,a,rfl⟩,b⟩
 | .ref p, .inr ⟨xs,a,b⟩=>exact⟨_, .inr ⟨xs,a,rfl⟩,b⟩
inductive Nc (X:Cx) (b:jm):Prop where
 | fn (id:String) (hv:bootBuiltins b.nm=some (.builtin id)) (hc:bA X (.builtin id) (kh X.K b))
 | ty (T:String) (hv:bootBuiltins b.nm=some (.type T)) (hc:bA X (.type T) (kh X.K b))
theorem boot_min:bootBuiltins "min"=some (.builtin "min"):=by decide+kernel
theorem boot_max:bootBuiltins "max"=some (.builtin "max"):=by decide+kernel
theorem boot_abs:bootBuiltins "abs"=some (.builtin "abs"):=by decide+kernel
theorem boot_sum:bootBuiltins "sum"=some (.builtin "sum"):=by decide+kernel
theorem Dt:bootBuiltins "isinstance"=some (.builtin "isinstance"):=by decide+kernel
theorem Nd:bootBuiltins "int"=some (.type "int"):=by decide+kernel
theorem Du:bootBuiltins "list"=some (.type "list"):=by decide+kernel
theorem Nf:bootBuiltins "tuple"=some (.type "tuple"):=by decide+kernel
theorem oN(f:Nat→Int)(lt:Nat→Nat→Bool)(h: ∀i j,lt i j=decide (f i<f j)): ∀n,argBest lt n≤n∧ ∀i,i≤n→f (argBest lt n)≤f i
 | 0=> ⟨Nat.le_refl _,fun i hi=>by
   obtain rfl:i=0:=by omega
   exact Int.le_refl _⟩
 | n+1=>by
  obtain⟨a,b⟩:=oN f lt h n
  have e:argBest lt (n+1)=if lt (n+1) (argBest lt n)=true then n+1 else argBest lt n:=rfl
  rw[e,h]
  split
  ·rename_i q
   have q:=of_decide_eq_true q
   refine⟨Nat.le_refl _,fun i hi=> ?_⟩
   by_cases z:i=n+1
   ·rw[z];exact Int.le_refl _
   ·have:=b i (by omega);omega
  ·rename_i q
   have q: ¬f (n+1) <f (argBest lt n):=fun z=>q (decide_eq_true z)
   refine⟨by omega,fun i hi=> ?_⟩
   by_cases z:i=n+1
   ·rw[z];omega
   ·exact b i (by omega)
theorem Dv{xs:Array (Int×Tok)}{i:Nat}(h:i<xs.size):numAt xs i=xs[i].1:=by
 unfold numAt
 rw[Array.getElem?_eq_getElem h];rfl
theorem rV{xs:Array (Int×Tok)}{i:Nat}(h:i<xs.size):numAt xs i∈xs.toList.map (·.1):=by
 rw[Dv h]
 exact List.mem_map.mpr ⟨xs[i],by simp,rfl⟩
theorem rW{xs:Array (Int×Tok)}{n:Int}(h:n∈xs.toList.map (·.1)): ∃i,i<xs.size∧n=numAt xs i:=by
 obtain⟨y,hy,rfl⟩:=List.mem_map.mp h
 obtain⟨i,hi,rfl⟩:=List.getElem_of_mem hy
 have bY:i<xs.size:=by simpa using hi
 exact⟨i,bY,by rw[Dv bY];simp⟩
theorem Dw{pins:List (Addr×Obj)}{σ:St}{H:Hp}{s:Shared}{p:Addr}{ns:List Int}(I:Inv X pins σ H s)(hq:ao X.K H p (ns.map V.int)): ∃xs:Array (Int×Tok),s.heap.IsList p (intItems xs)∧ns=xs.toList.map (·.1):=by
 obtain⟨its,rv,pl,hz⟩:=I.list hq
 have hi:=intsAre_of rv
 obtain⟨xs,hx⟩:=hi.allInts.items
 refine⟨xs,hx ▸ pl.isList, ?_⟩
 rw[←nums_intItems,←hx]
 exact(show numsOf its.toArray.toList=ns from hi.numsOf).symm
theorem Ng(hc:X.calm=true):bA X (.builtin "min") (fun xs H Q=> ∃(p:Addr) (ns:List Int),xs=[.ref p]∧ao X.K H p (ns.map V.int)∧ns≠ []∧ ∀m:Int,m∈ns→(∀n∈ns,m≤n)→Q (.int m) H):=by
 intro pins s σ H xs us Q I r h
 obtain⟨p,ns,rfl,hq,bW,q⟩:=h
 obtain⟨u,rfl,ru⟩:=vals1 r
 cases ru
 obtain⟨xs,hl,rfl⟩:=Dw I hq
 have sz:0<xs.size:=Nat.pos_of_ne_zero fun z=>bW (by rw[Array.eq_empty_of_size_eq_zero z];rfl)
 refine min_intList (I.ok.hd hc) hl sz fun v h' tk hv hk=> ?_
 obtain⟨t,rfl⟩:=intItems_at hv
 obtain⟨b1,b2⟩:=oN (numAt xs) (fun i j=>decide (numAt xs i<numAt xs j)) (fun _ _=>rfl) (xs.size - 1)
 refine⟨.int _,H,I.kept (t':=tk) hk,⟨t,rfl⟩,q _ (rV (by omega)) fun n hn=> ?_⟩
 obtain⟨i,hi,rfl⟩:=rW hn
 exact b2 i (by omega)
theorem Nh(hc:X.calm=true):bA X (.builtin "max") (fun xs H Q=> ∃(p:Addr) (ns:List Int),xs=[.ref p]∧ao X.K H p (ns.map V.int)∧ns≠ []∧ ∀m:Int,m∈ns→(∀n∈ns,n≤m)→Q (.int m) H):=by
 intro pins s σ H xs us Q I r h
 obtain⟨p,ns,rfl,hq,bW,q⟩:=h
 obtain⟨u,rfl,ru⟩:=vals1 r
 cases ru
 obtain⟨xs,hl,rfl⟩:=Dw I hq
 have sz:0<xs.size:=Nat.pos_of_ne_zero fun z=>bW (by rw[Array.eq_empty_of_size_eq_zero z];rfl)
 refine max_intList (I.ok.hd hc) hl sz fun v h' tk hv hk=> ?_
 obtain⟨t,rfl⟩:=intItems_at hv
 obtain⟨b1,b2⟩:=oN (fun i=> - numAt xs i) (fun i j=>decide (numAt xs i>numAt xs j)) (fun i j=>decide_eq_decide.mpr (by omega)) (xs.size - 1)
 refine⟨.int _,H,I.kept (t':=tk) hk,⟨t,rfl⟩,q _ (rV (by omega)) fun n hn=> ?_⟩
 obtain⟨i,hi,rfl⟩:=rW hn
 have:=b2 i (by omega)
 omega
theorem Dx{x:Str}{acc:Array Value}(h:ItemsOf (SignAt x) acc x.cps.size):Vals (signs x) acc.toList:=by
 have go: ∀(l:List Nat) (us:List Value),us.length=l.length→(∀(j:Nat) (v:Value),us[j]?=some v→ ∃(c:Nat) (t:Tok),l[j]?=some c∧v=Value.str ⟨#[c]⟩ t)→Vals (l.map fun c=>V.str ⟨#[c]⟩) us:=by
  intro l
  induction l with
  | nil=>
   intro us hl _
   rw[List.length_eq_zero_iff.mp hl]
   exact .nil
  | cons c l ih=>
   intro us hl hv
   cases us with
   | nil=>cases hl
   | cons u us=>
    obtain⟨c',t,e1,e2⟩:=hv 0 u rfl
    have j8:c=c':=by simpa using e1
    subst j8
    exact .cons ⟨t,e2⟩ (ih us (by simpa using hl) fun j v hj=>by
     obtain⟨c2,t2,g1,g2⟩:=hv (j+1) v (by simpa using hj)
     exact⟨c2,t2,by simpa using g1,g2⟩)
 refine go x.cps.toList acc.toList ?_ fun j v hj=> ?_
 ·have:=h.1;simpa using this
 ·obtain⟨c,t,e1,e2⟩:=h.2 j v (by simpa using hj)
  exact⟨c,t,by simpa using e1,e2⟩
theorem Dy(x:Str):(signs x).length=x.length:=by simp[signs,Str.length]
theorem Ni(hc:X.calm=true):bA X (.type "list") (fun xs H Q=> ∃x,xs=[.str x]∧x.length≤sizeLine∧ ∀l,H l=none→Q (.ref l) (upd H l (.lst (signs x)))):=by
 intro pins s σ H xs us Q I r h
 obtain⟨x,rfl,hx,q⟩:=h
 obtain⟨u,rfl,t,rfl⟩:=vals1 r
 refine call_list_str (I.ok.hd hc) x t (fun h' tk g6 c' hk e kx=> ?_) hx
 have rv:=Dx kx
 exact⟨.ref s.heap.objs.size,_,I.laid (t':=tk) hk (Nat.le_refl _) (show bV X.prog X.w _ h' _ (.lst (signs x)) from⟨by rw[Dy];exact hx,g6.toList,c',rv,by simpa using e⟩),rfl,q _ (I.aF.fresh (Nat.le_refl _))⟩
theorem Nj(hc:X.calm=true):bA X (.type "tuple") (fun xs H Q=> ∃x,xs=[.str x]∧x.length≤sizeLine∧ ∀l,H l=none→Q (.ref l) (upd H l (.tup (signs x)))):=by
 intro pins s σ H xs us Q I r h
 obtain⟨x,rfl,hx,q⟩:=h
 obtain⟨u,rfl,t,rfl⟩:=vals1 r
 refine call_tuple_str (I.ok.hd hc) x t (fun h' tk acc hk kx=> ?_) hx
 have rv:=Dx kx
 have I1:Inv X pins σ H {s with heap:=h',toks:=tk}:=I.kept (t':=tk) hk
 have I2:Inv X pins σ (upd H h'.objs.size (.tup (signs x))) {s with heap:=h'.push {cls:= .type "tuple",data:= .seq acc},toks:=tk}:=
  I1.laid (t':=tk) (fun b o e=>Heap.get?_push_of_some _ e) (Nat.le_refl _) (show bV X.prog X.w _ _ _ (.tup (signs x)) from⟨by rw[Dy];exact hx,acc.toList,rv,by simpa using IsTup.new _ _⟩)
 exact⟨.ref h'.objs.size,_,I2,rfl,q _ (I1.aF.fresh (Nat.le_refl _))⟩
theorem Nk(hc:X.calm=true)(b:jm):Nc X b:=by
 cases b with
 | len=>exact .fn "len" boot_len (bA.imp Jb fun xs H Q h=>by
   rcases xs with _ | ⟨x,_ | ⟨_,_⟩⟩ <;> (try exact False.elim h)
   obtain⟨n,h1,h2⟩:=Nb (Q:=fun n=>Q (.int n) H) h;exact⟨x,n,rfl,h1,h2⟩)
 | min=>exact .fn "min" boot_min (bA.imp ((I_ hc).or (Ng hc)) fun xs H Q h=>by
   match xs,h with
   | [.int i, .int j],h=>exact .inl ⟨i,j,rfl,h⟩
   | [.ref p],⟨ns,h1,h2,h3⟩=>exact .inr ⟨p,ns,rfl,h1,h2,h3⟩)
 | max=>exact .fn "max" boot_max (bA.imp ((IZ hc).or (Nh hc)) fun xs H Q h=>by
   match xs,h with
   | [.int i, .int j],h=>exact .inl ⟨i,j,rfl,h⟩
   | [.ref p],⟨ns,h1,h2,h3⟩=>exact .inr ⟨p,ns,rfl,h1,h2,h3⟩)
 | sum=>exact .fn "sum" boot_sum (bA.imp (Lq hc) fun xs H Q h=>by
   rcases xs with _ | ⟨x,_ | ⟨_,_⟩⟩ <;> (try exact False.elim h) <;>cases x<;> (try exact False.elim h)
   obtain⟨ns,h1,h2⟩:=h;exact⟨_,ns,rfl,h1,h2⟩)
 | abs=>exact .fn "abs" boot_abs (bA.imp IY fun xs H Q h=>by
   rcases xs with _ | ⟨x,_ | ⟨_,_⟩⟩ <;> (try exact False.elim h) <;>cases x<;> (try exact False.elim h)
   exact⟨_,rfl,h⟩)
 | int=>exact .ty "int" Nd (bA.imp Ja fun xs H Q h=>Na h)
 | list=>exact .ty "list" Du (bA.imp (JP.or (Ni hc)) fun xs H Q h=>by
   rcases xs with _ | ⟨x,_ | ⟨_,_⟩⟩ <;> (try exact False.elim h) <;>cases x<;> (try exact False.elim h)
   ·exact .inr ⟨_,rfl,h.1,h.2⟩
   ·obtain⟨ys,h1,h2⟩:=h;exact .inl ⟨_,ys,rfl,h1,h2⟩)
 | tuple=>exact .ty "tuple" Nf (bA.imp (JQ.or (Nj hc)) fun xs H Q h=>by
   rcases xs with _ | ⟨x,_ | ⟨_,_⟩⟩ <;> (try exact False.elim h) <;>cases x<;> (try exact False.elim h)
   ·exact .inr ⟨_,rfl,h.1,h.2⟩
   ·obtain⟨ys,h1⟩:=h;exact .inl ⟨_,ys,rfl,h1⟩)
structure Nl (X:Cx) (m:fb) (id:String):Prop where
 pa:PlainAttrs (rG m)
 slot:Slot (rG m) m.nm id
 ty:typeOf (.builtin id)=pure (.type "method_descriptor")
 mt:iE X id (rF X.K m)
theorem Nm{P:Program}{w:World}{k:Key}{u:Value}(r:RelV (kV k) u):(gR P w).is k u=true:=by
 cases k with
 | inl i=>obtain⟨t,e⟩:=(show ∃t,u=Value.int i t from r);subst e;exact Hv P w i t
 | inr x=>obtain⟨t,e⟩:=(show ∃t,u=Value.str x t from r);subst e;exact Hw P w x t
theorem Nn{aH:List (Key×V)}{vs:List (Key×Value)}(r:KV aH vs)(k:Key){v:V}(h:ki aH k=some v): ∃u,valueAt vs k=some u∧RelV v u:=by
 unfold KV at r
 induction r with
 | nil=>cases h
 | @cons p q ps qs hh t ih=>
  obtain⟨h1,h2⟩:=hh
  by_cases e:p.1=k
  ·have e':q.1=k:=h1.symm.trans e
   have b:valueAt (q::qs) k=some q.2:=by simp[valueAt,List.find?_cons,e']
   have a:ki (p::ps) k=some p.2:=by simp[ki,List.find?_cons,e]
   rw[a] at h
   cases h
   exact⟨_,b,h2⟩
  ·have e': ¬q.1=k:=fun z=>e (h1.trans z)
   have b:valueAt (q::qs) k=valueAt qs k:=by simp[valueAt,List.find?_cons,e']
   have a:ki (p::ps) k=ki ps k:=by simp[ki,List.find?_cons,e]
   rw[a] at h
   rw[b]
   exact ih h
theorem Np{sd:Addr→List (Key×V)→Prop}(vD: ∀p aH,sd p aH→ ∀h:Heap,X.K.In h→ ∃vs,KV aH vs∧h.DictOf (gR X.prog X.w) p vs):g5 X (C0 sd):=by
 intro value slice pins s σ H x y v u Q I rx ry h hs
 obtain⟨p,aH,k,z,rfl,rfl,hq,he,q⟩:=h
 cases rx
 obtain⟨vs,r,dd⟩:=vD p aH hq s.heap I.cQ
 obtain⟨w,ew,j3⟩:=Nn r k he
 exact subscriptTail_builtinR (x:=w) dd.mapOf.typeIs PySem.F.slot_dict_getitem.lookup
  (wpAny_getItem_of (Q:=fun r s'=>r=w∧EP X pins σ Q r s') (Nm ry) dd.mapOf ew ⟨rfl,z,H,I.tok _,j3,q⟩) hs
theorem Nq{sd:Addr→List (Key×V)→Prop}(vD: ∀p aH,sd p aH→ ∀h:Heap,X.K.In h→ ∃vs,KV aH vs∧h.DictOf (gR X.prog X.w) p vs):g5 X (jo X.K sd):=JE.or (JF.or (JG.or (Np vD)))
theorem rX(y:Str): ∀{ts:List Str} {us:List Value},Vals (ts.map V.str) us→ ∀(j:Nat) (h1:j<us.length) (h2:j<ts.length),(Value.isStrOf y us[j]=(ts[j]==y))
 | [],_, .nil,j,h1,_=>absurd h1 (Nat.not_lt_zero _)
 | t::ts,_, .cons r rs,0,_,_=>by
  obtain⟨k,rfl⟩:=(show ∃k,_=Value.str t k from r)
  rfl
 | t::ts,_, .cons r rs,j+1,h1,h2=>rX y rs j (Nat.lt_of_succ_lt_succ h1) (Nat.lt_of_succ_lt_succ h2)
theorem Dz{y:Str}: ∀{ts:List Str} {j:Nat},j<ts.idxOf y→ ∀(h2:j<ts.length),(ts[j]==y)=false
 | n::r,0,h,_=>by
  by_cases e:n=y
  ·subst e;simp at h
  ·simpa using e
 | n::r,j+1,h,h2=>by
  by_cases e:n=y
  ·subst e;simp at h
  ·have hb:(n==y)=false:=by simpa using e
   have h':j<r.idxOf y:=by
    rw[List.idxOf_cons,hb] at h
    exact Nat.lt_of_succ_lt_succ h
   exact Dz h' (Nat.lt_of_succ_lt_succ h2)
theorem Nr:iE X "list.index" (fun x vs H Q=> ∃(l:Addr) (y:Str) (ts:List Str),x= .ref l∧vs=[.str y]∧ao X.K H l (ts.map V.str)∧y∈ts∧Q (.int (ts.idxOf y:Nat)) H):=by
 intro pins s σ H x vs v us Q I rx rv h
 obtain⟨l,y,ts,rfl,rfl,hq,hy,q⟩:=h
 cases rx
 obtain⟨u,rfl,⟨t,rfl⟩⟩:=vals1 rv
 obtain⟨its,r,⟨⟨cls,dd,data,sl⟩,n,ho,hc,DA,hd⟩,hz⟩:=I.list hq
 simp only at hc hd
 subst hc hd
 have hlen:=r.length
 rw[List.length_map] at hlen hz
 have hj:ts.idxOf y<ts.length:=List.idxOf_lt_length_iff.mpr hy
 have hn:=jc
 refine call_meets PySem.F.slot_list_index ⟨_,ho,rfl⟩ PySem.F.entry_list_index (PySem.F.args_list_index_2 _ _)
  (PySem.SeqAt.list_indexAt l its.toArray n dd sl (.str y t) (Value.isStrOf y) (ts.idxOf y) (by simp;omega) (by omega) ?_ ?_) ⟨ho,fun z oO=> ?_,⟨.int _,H,I.tok _,⟨_,rfl⟩,q⟩⟩
 ·show Value.isStrOf y its[ts.idxOf y]=true
  rw[rX y r _ (by omega) hj]
  simpa using List.getElem_idxOf hj
 ·intro j vE aQ
  show Value.isStrOf y its[j]=false
  rw[rX y r j (by simpa using vE) (by omega)]
  exact Dz aQ _
 ·have hm:z∈its:=by simpa using oO
  obtain⟨j,DB,rfl⟩:=List.getElem_of_mem hm
  have DC:j<ts.length:=by omega
  have e:=rX y r j DB DC
  obtain⟨k,ek⟩:=(r.get (i:=j) (x:= .str ts[j]) (by simp[DC]))
  obtain⟨Nt,k2,Nu⟩:=ek
  have Nv:its[j]= .str ts[j] k2:=by
   have:=List.getElem?_eq_getElem DB
   rw[Nt] at this
   exact(Option.some.inj this).symm.trans Nu
  rw[e,Nv]
  exact PySem.SeqAt.EqAt.str_str _ _ _ _
theorem DD{x:V}: ∀{xs:List V} {us:List Value},Vals xs us→xs.all dC=true→us.countP (cY x)=xs.countP fun y=>dD y x
 | _,_, .nil,_=>rfl
 | y::xs,u::us, .cons r t,f=>by
  rw[List.all_cons,Bool.and_eq_true] at f
  rw[List.countP_cons,List.countP_cons,qS r f.1,DD t f.2]
theorem Nw:iE X "list.count" (fun x vs H Q=> ∃(l:Addr) (y:V) (xs:List V),x= .ref l∧vs=[y]∧ao X.K H l xs∧dC y=true∧xs.all dC=true∧Q (.int (xs.countP (fun z=>dD z y):Nat)) H):=by
 intro pins s σ H x vs v us Q I rx rv h
 obtain⟨l,y,xs,rfl,rfl,hq,fy,fs,q⟩:=h
 cases rx
 obtain⟨u,rfl,ru⟩:=vals1 rv
 obtain⟨its,r,⟨⟨cls,dd,data,sl⟩,n,ho,hc,DA,hd⟩,hz⟩:=I.list hq
 simp only at hc hd
 subst hc hd
 rw[←DD r fs] at q
 exact call_meets PySem.F.slot_list_count ⟨_,ho,rfl⟩ PySem.F.entry_list_count (PySem.F.args_list_count_2 _ _)
  (PySem.SeqAt.list_countAt l its.toArray n dd sl u (cY y)) ⟨ho,fun z oO=>j4 ru fy r fs z (by simpa using oO),⟨.int _,H,I.tok _,⟨_,rfl⟩,q⟩⟩
theorem Nx:iE X "list.index" (fun x vs H Q=> ∃(l:Addr) (y:V) (xs:List V),x= .ref l∧vs=[y]∧ao X.K H l xs∧dC y=true∧xs.all dC=true∧qT y xs=true∧Q (.int (xs.findIdx (fun z=>dD z y):Nat)) H):=by
 intro pins s σ H x vs v us Q I rx rv h
 obtain⟨l,y,xs,rfl,rfl,hq,fy,fs,cg,q⟩:=h
 cases rx
 obtain⟨u,rfl,ru⟩:=vals1 rv
 obtain⟨its,r,⟨⟨cls,dd,data,sl⟩,n,ho,hc,DA,hd⟩,hz⟩:=I.list hq
 simp only at hc hd
 subst hc hd
 have hlen:=r.length
 have e: ∀j (h1:j<its.length) (h2:j<xs.length),cY y its[j]=dD xs[j] y:=fun j h1 h2=>by
  obtain⟨w,e1,r1⟩:=r.get (i:=j) (x:=xs[j]) (by simp[h2])
  have e2:=List.getElem?_eq_getElem h1
  rw[e1] at e2
  rw[←Option.some.inj e2]
  exact qS r1 (List.all_eq_true.mp fs _ (List.getElem_mem h2))
 have hj:xs.findIdx (fun z=>dD z y) <xs.length:=List.findIdx_lt_length.mpr (List.any_eq_true.mp cg)
 have hn:=jc
 refine call_meets PySem.F.slot_list_index ⟨_,ho,rfl⟩ PySem.F.entry_list_index (PySem.F.args_list_index_2 _ _)
  (PySem.SeqAt.list_indexAt l its.toArray n dd sl u (cY y) (xs.findIdx fun z=>dD z y) (by simp;omega) (by omega) ?_ ?_) ⟨ho,fun z oO=>j4 ru fy r fs z (by simpa using oO),⟨.int _,H,I.tok _,⟨_,rfl⟩,q⟩⟩
 ·show cY y its[xs.findIdx fun z=>dD z y]=true
  rw[e _ (by omega) hj]
  exact List.findIdx_getElem (w:=hj)
 ·intro j vE aQ
  show cY y its[j]=false
  rw[e j (by simpa using vE) (by omega)]
  simpa using List.not_of_lt_findIdx aQ
theorem DE(m:fb): ∃id,Nl X m id:=by
 cases m with
 | append=>exact⟨_,F.plainAttrs_list,F.slot_list_append,F.type_list_append,fun pins s σ H x xs v us Q I rx rv h=>by
   cases x<;> (try exact False.elim h) <;>rcases xs with _ | ⟨y0,_ | ⟨_,_⟩⟩ <;> (try exact False.elim h)
   obtain⟨zs,h1,h2,h3⟩:=h
   exact JZ pins s σ H _ _ v us Q I rx rv ⟨_,zs,_,rfl,rfl,h1,h2,h3⟩⟩
 | pop=>exact⟨_,F.plainAttrs_list,F.slot_list_pop,F.type_list_pop,fun pins s σ H x xs v us Q I rx rv h=>by
   cases x<;> (try exact False.elim h) <;>rcases xs with _ | ⟨_,_⟩ <;> (try exact False.elim h)
   obtain⟨zs,y,h1,h2,h3⟩:=h
   exact J5 pins s σ H _ _ v us Q I rx rv ⟨_,zs,y,rfl,rfl,h1,h2,h3⟩⟩
 | extend=>exact⟨_,F.plainAttrs_list,F.slot_list_extend,F.type_list_extend,fun pins s σ H x xs v us Q I rx rv h=>by
   cases x<;> (try exact False.elim h) <;>rcases xs with _ | ⟨y0,_ | ⟨_,_⟩⟩ <;> (try exact False.elim h) <;>cases y0<;> (try exact False.elim h)
   obtain⟨ys,zs,h1,h2,h3,h4⟩:=h
   exact J3 pins s σ H _ _ v us Q I rx rv ⟨_,_,ys,zs,rfl,rfl,h1,h2,h3,h4⟩⟩
 | join=>exact⟨_,F.plainAttrs_str,F.slot_str_join,F.type_str_join,fun pins s σ H x xs v us Q I rx rv h=>by
   cases x<;> (try exact False.elim h) <;>rcases xs with _ | ⟨y0,_ | ⟨_,_⟩⟩ <;> (try exact False.elim h) <;>cases y0<;> (try exact False.elim h)
   obtain⟨ts,h1,h2,h3⟩:=h
   exact Ls pins s σ H _ _ v us Q I rx rv ⟨_,_,ts,rfl,rfl,h1,h2,h3⟩⟩
 | lstrip=>exact⟨_,F.plainAttrs_str,F.slot_str_lstrip,F.type_str_lstrip,fun pins s σ H x xs v us Q I rx rv h=>by
   cases x<;> (try exact False.elim h) <;>rcases xs with _ | ⟨y0,_ | ⟨_,_⟩⟩ <;> (try exact False.elim h) <;>cases y0<;> (try exact False.elim h)
   obtain⟨h1,h2⟩:=h
   exact Lv pins s σ H _ _ v us Q I rx rv ⟨_,_,rfl,rfl,h1,h2⟩⟩
 | starts=>exact⟨_,F.plainAttrs_str,F.slot_str_startswith,F.type_str_startswith,fun pins s σ H x xs v us Q I rx rv h=>by
   cases x<;> (try exact False.elim h) <;>rcases xs with _ | ⟨y0,_ | ⟨y1,_ | ⟨_,_⟩⟩⟩ <;> (try exact False.elim h) <;>cases y0<;> (try exact False.elim h) <;>cases y1<;> (try exact False.elim h)
   exact Lx pins s σ H _ _ v us Q I rx rv ⟨_,_,_,rfl,rfl,h⟩⟩
 | find=>exact⟨_,F.plainAttrs_str,F.slot_str_find,F.type_str_find,fun pins s σ H x xs v us Q I rx rv h=>by
   match x,xs,h with
   | .str z,[.str y],h1=>
    obtain⟨t,rfl⟩:=rx
    obtain⟨u,rfl,⟨t2,rfl⟩⟩:=vals1 rv
    exact call_gives F.slot_str_find (typeIs_str _ _ _) F.entry_str_find (F.args_str_find_2 _ _) (gives_str_find z y t t2) ⟨.int _,H,I.tok _,⟨_,rfl⟩,h1⟩
   | .str z,[.str y, .int i],h1=>
    obtain⟨t,rfl⟩:=rx
    obtain⟨u,w',rfl,⟨t2,rfl⟩,⟨t3,rfl⟩⟩:=vals2 rv
    exact call_gives F.slot_str_find (typeIs_str _ _ _) F.entry_str_find (F.args_str_find_3 _ _ _) (gives_str_find_from z y i t t2 t3) ⟨.int _,H,I.tok _,⟨_,rfl⟩,h1⟩⟩
 | count=>exact⟨_,F.plainAttrs_str,F.slot_str_count,F.type_str_count,fun pins s σ H x xs v us Q I rx rv h=>by
   match x,xs,h with
   | .str z,[.str y],h1=>
    obtain⟨t,rfl⟩:=rx
    obtain⟨u,rfl,⟨t2,rfl⟩⟩:=vals1 rv
    exact call_gives F.slot_str_count (typeIs_str _ _ _) F.entry_str_count (F.args_str_count_2 _ _) (gives_str_count z y t t2) ⟨.int _,H,I.tok _,⟨_,rfl⟩,h1⟩⟩
 | reverse=>exact⟨_,F.plainAttrs_list,F.slot_list_reverse,F.type_list_reverse,fun pins s σ H x xs v us Q I rx rv h=>by
   cases x<;> (try exact False.elim h) <;>rcases xs with _ | ⟨_,_⟩ <;> (try exact False.elim h)
   obtain⟨zs,h1,h2⟩:=h
   exact J7 pins s σ H _ _ v us Q I rx rv ⟨_,zs,rfl,rfl,h1,h2⟩⟩
 | index=>exact⟨_,F.plainAttrs_list,F.slot_list_index,F.type_list_index,fun pins s σ H x xs v us Q I rx rv h=>by
   cases x<;> (try exact False.elim h) <;>rcases xs with _ | ⟨y0,_ | ⟨_,_⟩⟩ <;> (try exact False.elim h) <;>cases y0<;> (try exact False.elim h)
   obtain⟨ts,h1,h2,h3⟩:=h
   exact Nr pins s σ H _ _ v us Q I rx rv ⟨_,_,ts,rfl,rfl,h1,h2,h3⟩⟩
 | uP=>exact⟨_,F.plainAttrs_list,F.slot_list_count,F.type_list_count,fun pins s σ H x xs v us Q I rx rv h=>by
   cases x<;> (try exact False.elim h) <;>rcases xs with _ | ⟨y0,_ | ⟨_,_⟩⟩ <;> (try exact False.elim h)
   obtain⟨zs,h1,h2,h3,h4⟩:=h
   exact Nw pins s σ H _ _ v us Q I rx rv ⟨_,_,zs,rfl,rfl,h1,h2,h3,h4⟩⟩
 | uQ=>exact⟨_,F.plainAttrs_list,F.slot_list_index,F.type_list_index,fun pins s σ H x xs v us Q I rx rv h=>by
   cases x<;> (try exact False.elim h) <;>rcases xs with _ | ⟨y0,_ | ⟨_,_⟩⟩ <;> (try exact False.elim h)
   obtain⟨zs,h1,h2,h3,h4,h5⟩:=h
   exact Nx pins s σ H _ _ v us Q I rx rv ⟨_,_,zs,rfl,rfl,h1,h2,h3,h4,h5⟩⟩
 | clear=>exact⟨_,F.plainAttrs_list,F.slot_list_clear,F.type_list_clear,fun pins s σ H x xs v us Q I rx rv h=>by
   cases x<;> (try exact False.elim h) <;>rcases xs with _ | ⟨_,_⟩ <;> (try exact False.elim h)
   obtain⟨zs,h1,h2⟩:=h
   exact J9 pins s σ H _ _ v us Q I rx rv ⟨_,zs,rfl,rfl,h1,h2⟩⟩
theorem Ny{pins:List (Addr×Obj)}{σ:St}{H:Hp}{s:Shared}{T:Ty}{x:V}{u:Value}{Qb:Bool→Prop}{Q:Value→Shared→Prop}{E:Value→Shared→Prop}(I:Inv X pins σ H s)(rx:RelV x u)(h:bw T x H Qb)
  (hq: ∀b tk,Qb b→Q (.bool b) {s with toks:=tk}):wpAny (model X.prog X.w) X.A (call (.builtin "isinstance") [u, .type T.nm]) Q E s:=by
 match x,rx,h with
 | .ai,rx,h=>exact iB I rx (.ai) (Lp _ T) fun tk=>hq _ _ h
 | .bl b,rx,h=>exact iB I rx (.bl b) (jk X.K .bool T) fun tk=>hq _ _ (by cases T<;>exact h)
 | .int i,rx,h=>exact iB I rx (.int i) (jk X.K .int T) fun tk=>hq _ _ (by cases T<;>exact h)
 | .str i,rx,h=>exact iB I rx (.str i) (jk X.K .str T) fun tk=>hq _ _ (by cases T<;>exact h)
 | .ref a,rx,h=>
  cases e:H a with
  | none=>simp only[bw,e] at h
  | some o=>
   match o,e with
   | .lst xs,e=>simp only[bw,e] at h;exact iB I rx (.lst e) (jk X.K .list T) fun tk=>hq _ _ (by cases T<;>exact h)
   | .bc ob (.lst xs),e=>simp only[bw,e] at h;exact iB I rx (.bc e) (jk X.K .list T) fun tk=>hq _ _ (by cases T<;>exact h)
   | .tup xs,e=>simp only[bw,e] at h;exact iB I rx (.tup e) (jk X.K .tuple T) fun tk=>hq _ _ (by cases T<;>exact h)
   | .dK xs,e=>simp only[bw,e] at h;exact iB I rx (.dK e) (jk X.K .dict T) fun tk=>hq _ _ (by cases T<;>exact h)
   | .dT xs,e=>simp only[bw,e] at h;exact iB I rx (.dT e) (jk X.K .dict T) fun tk=>hq _ _ (by cases T<;>exact h)
   | .set _ _,e=>simp only[bw,e] at h
   | .ins _ _ _,e=>simp only[bw,e] at h
   | .own _,e=>simp only[bw,e] at h
   | .xd _,e=>simp only[bw,e] at h
   | .met _ _,e=>simp only[bw,e] at h
   | .gh _ _,e=>simp only[bw,e] at h
   | .gS _,e=>simp only[bw,e] at h
   | .ext _,e=>simp only[bw,e] at h
   | .bc ob (.tup xs),e=>simp only[bw,e] at h
   | .bc ob (.dK xs),e=>simp only[bw,e] at h
   | .bc ob (.dT xs),e=>simp only[bw,e] at h
   | .bc ob (.set _ _),e=>simp only[bw,e] at h
   | .bc ob (.ins _ _ _),e=>simp only[bw,e] at h
   | .bc ob (.own _),e=>simp only[bw,e] at h
   | .bc ob (.xd _),e=>simp only[bw,e] at h
   | .bc ob (.met _ _),e=>simp only[bw,e] at h
   | .bc ob (.gh _ _),e=>simp only[bw,e] at h
   | .bc ob (.gS _),e=>simp only[bw,e] at h
   | .bc ob (.ext _),e=>simp only[bw,e] at h
   | .bc ob (.bc _ _),e=>simp only[bw,e] at h
theorem Nz(T:Ty):bootBuiltins (Str.ofString T.nm)=some (.type T.nm):=by cases T<;>decide+kernel
theorem NA(T:Ty):bA X (.builtin "isinstance") (jn T):=by
 intro pins s σ H xs us Q I r h
 match xs,r,h with
 | [x, .ty n],r,⟨e,h⟩=>
  subst e
  obtain⟨u,w',rfl,ru,j3⟩:=vals2 r
  cases j3
  exact Ny I ru h fun b tk hb=> ⟨.bl b,H,I.tok tk,rfl,hb⟩
theorem NB{T:Ty}{a:Expr}{ta:TE}{p q pos:Pos}(ha:PE X a ta)(hs:noStar a=true)(hg:Gl X "isinstance")(hm:X.mg "isinstance"=none)(NC:Gl X (Str.ofString T.nm))(ND:X.mg (Str.ofString T.nm)=none):
  PE X (.Call (.Name "isinstance" p) [a, .Name (Str.ofString T.nm) q] [] pos) (cG (jn T) (cj ta (cj (tC (.ty T.nm)) eO))):=by
 have hT:PE X (.Name (Str.ofString T.nm) q) (tC (.ty T.nm)):=AS NC ND (Nz T) rfl (by cases T<;>decide) (by cases T<;>decide)
 exact jf (NA T) hg hm Dt (g4 ha (g4 hT j0 rfl) (cn hs)) (by decide) (by decide) (cn hs) rfl
end
section
variable {X:Cx}
theorem NF:qR X (mQ X.K):=by
 intro pins s σ H x v vl vu lo hi sl Q I rx hs pl pu h
 match x,rx,h with
 | .ref a,rx, .inl ⟨xs,h1,h2⟩=>exact JL pins s σ H _ v vl vu lo hi sl Q I rx hs pl pu ⟨a,xs,rfl,h1,h2⟩
 | .ref a,rx, .inr ⟨xs,h1,h2,h3⟩=>exact JB pins s σ H _ v vl vu lo hi sl Q I rx hs pl pu ⟨a,xs,rfl,h1,h2,h3⟩
 | .str z,rx,⟨h1,h2⟩=>
  obtain⟨t,rfl⟩:=rx
  obtain⟨l,el,ml⟩: ∃l:Option (Int×Tok),vl=partValue l∧l.map (·.1)=lo:=by
   cases pl with
   | none=>exact⟨none,rfl,rfl⟩
   | int i t=>exact⟨some (i,t),rfl,rfl⟩
  obtain⟨u,eu,mu⟩: ∃u:Option (Int×Tok),vu=partValue u∧u.map (·.1)=hi:=by
   cases pu with
   | none=>exact⟨none,rfl,rfl⟩
   | int i t=>exact⟨some (i,t),rfl,rfl⟩
  subst el eu
  refine⟨"str",_,F.slot_str_getitem.lookup,typeIs_str _ _ _, ?_⟩
  refine wpAny_getItem_str_slice (l:=l) (u:=u) (st:=none) hs rfl ?_
  obtain⟨b1,b2,b3⟩:=um lo hi z.length
  have hp:slicePicked z l u none=(List.range (HT.aP z.length z.length hi - HT.aP z.length 0 lo)).map (HT.aP z.length 0 lo+ ·):=by
   show Builtin.Str.strSliceIndices (l.map (·.1)) (u.map (·.1)) 1 z.length=_
   rw[ml,mu]
   have e0:Builtin.Str.strSliceIndices lo hi 1 z.length=sliceRange (sliceBounds lo hi none z.length).1 (sliceBounds lo hi none z.length).2.1 (sliceBounds lo hi none z.length).2.2:=rfl
   rw[e0,b1,b2,b3,sliceRange_one]
  have hc:((slicePicked z l u none).filterMap (z.cps[·]?))=ke z.cps.toList lo hi:=by
   show(Builtin.Str.strSliceIndices (l.map (·.1)) (u.map (·.1)) 1 z.length).filterMap (z.cps[·]?)=_
   rw[ml,mu,Ly]
  have hz:z.cps.toList.length=z.length:=by simp[Str.length]
  have hA:=HT.ug z.length 0 (Nat.zero_le _) lo
  have hB:=HT.ug z.length z.length (Nat.le_refl _) hi
  unfold sliceMade
  refine post_val_or_made (fun _=> ?_) fun t' k=> ?_
  ·show(List.toArray ((slicePicked z l u none).filterMap (z.cps[·]?))).size≤sizeLine
   rw[hc,List.size_toArray]
   have:(ke z.cps.toList lo hi).length≤z.cps.toList.length:=by unfold ke;simp only[List.length_take,List.length_drop];omega
   omega
  ·have e:(if (((none:Option (Int×Tok)).map (·.1)).getD 1==1 && (slicePicked z l u none).length==z.length)=true then z else ⟨((slicePicked z l u none).filterMap (z.cps[·]?)).toArray⟩)=uM z lo hi:=by
    split
    ·rename_i hq
     simp only[Bool.and_eq_true,beq_iff_eq] at hq
     have NG:=hq.2
     rw[hp,List.length_map,List.length_range] at NG
     have a0:HT.aP z.length 0 lo=0:=by omega
     have b0:HT.aP z.length z.length hi=z.length:=by omega
     unfold uM ke
     rw[hz,a0,b0,←hz,Nat.sub_zero,List.drop_zero,List.take_length]
    ·rw[hc];rfl
   rw[e]
   exact⟨.str _,H,I.tok k,⟨t',rfl⟩,h2⟩
theorem NH:qK X (unaryOp .USub) CZ:=by
 intro pins s σ H x v Q I rx h
 match x,rx,h with
 | .int i,rx,h=>exact IB pins s σ H _ v Q I rx ⟨i,rfl,h⟩
theorem NI{a:Expr}{ta:TE}{pos:Pos}(ha:PE X a ta):PE X (.UnaryOp .Not a pos) (uT X.K ta):=by
 intro pins s σ H Q I h
 refine UnaryOp_ (aL (ha pins s σ H _ I h) fun v s1 ⟨x,H1,I1,r1,q1⟩=>not_of ?_)
 exact aL (Bs pins s1 σ H1 x v (fun b H2=>Q (.bl (!b)) H2) I1 r1 (CY q1)) fun b s2 ⟨H2,I2,q2⟩=> ⟨.bl (!b),H2,I2,rfl,q2⟩
theorem oP{a:Expr}{ta:TE}(ha:PE X a ta)(he: ∀whole,isTrue a X.env whole=(do let v ←whole;standAt a.pos;holding [v] (truthy v))):PT X a (dv X.K ta):=by
 intro pins s σ H Q I h
 exact isTrue_plain (aL (ha pins s σ H _ I h) fun v s1 ⟨x,H1,I1,r1,q1⟩=>Bs pins s1 σ H1 x v Q I1 r1 (CY q1)) (he _)
theorem NJ{m:fb}{o e:Expr}{es:List Expr}{to:TE}{t:TA}{apos cA:Pos}(ho:PE X o to)(ha:PA X (e::es) t)(hb:rH o=true)(hl:(apos.endLine==cA.line)=true)(hn:(e::es).length<29)
  (hs:starEach (e::es) X.env=(false,eval e X.env)::starEach es X.env) (h1:(backTo cA (starEach es X.env)).any (·.1)=false) (h2:(backTo cA (starEach (e::es) X.env)).all (fun x=> !x.1)=true):
  PE X (.Call (.Attribute o m.nm apos) (e::es) [] cA) (mP X.K m to t):=by
 obtain⟨id,M⟩:=DE (X:=X) m
 exact JU M.pa M.slot M.ty M.mt ho ha (n_ hb) (by
  rw[h2]
  show(true && true && decide ((e::es).length+0+0<30))=true
  rw[decide_eq_true (by omega)];rfl) hl hs h1
theorem NK{m:fb}{o:Expr}{to:TE}{apos cA:Pos}(ho:PE X o to)(hb:rH o=true)(hl:(apos.endLine==cA.line)=true):
  PE X (.Call (.Attribute o m.nm apos) [] [] cA) (mP X.K m to eO):=by
 obtain⟨id,M⟩:=DE (X:=X) m
 exact JT M.pa M.slot M.ty M.mt ho (n_ hb) hl
end
section
variable {X:Cx} {CX:aE}
end
section
variable {prog:Program} {w:World} {A:Around} {E:Value→Shared→Prop} {s:Shared}
theorem DF{it l:Addr}{items:Array Value}(bW:l≠it): ∀(n i:Nat) (s:Shared) (Q:List Value→Shared→Prop),s.heap.IsListIter it l i→s.heap.IsList l items→i+n≤items.size→
  (∀h',h'.IsListIter it l (i+n)→Heap.SameBut it s.heap h'→Q ((items.toList.drop i).take n) {s with heap:=h'})→wpAny (model prog w) A (draw (.ref it) n) Q E s
 | 0,i,s,Q,hit,_,_,hQ=>by
  show wpAny _ _ (pure []) Q E s
  exact wpAny_pure (by simpa using hQ s.heap hit (Heap.SameBut.refl ..))
 | n+1,i,s,Q,hit,ht,hle,hQ=>by
  have aQ:i<items.size:=by omega
  show wpAny _ _ (pyNext (.ref it) >>=_) Q E s
  refine wpAny_bind (wpAny_pyNext_list_item hit ht (x:=items[i]) (by simp[aQ]) fun h₁ oE iL=> ?_)
  refine wpAny_bind (wpAny_holding (DF bW n (i+1) _ _ oE (ht.extBut iL.extBut bW) (by omega) fun h₂ NL NM=>wpAny_pure ?_))
  have hd:items.toList.drop i=items[i]::items.toList.drop (i+1):=by simp[List.drop_eq_getElem_cons,aQ]
  have:=hQ h₂ (by rw[show i+ (n+1)=i+1+n by omega];exact NL) (iL.trans NM)
  rw[hd,List.take_succ_cons] at this
  exact this
theorem NN{t:Addr}{items:Array Value}{Q:List Value→Shared→Prop}(hh:A.handled=none)(ht:s.heap.IsList t items)
  (hQ: ∀h',Heap.ExtBut s.heap.objs.size s.heap h'→Q items.toList {s with heap:=h'}):wpAny (model prog w) A (unpackItems (.ref t) items.size none) Q E s:=by
 have aQ:t≠s.heap.objs.size:=by obtain⟨o,ho,_⟩:=ht;exact Nat.ne_of_lt (Heap.lt_size ho)
 unfold unpackItems
 refine wpAny_bind ?_
 ·unfold notIterableAtAll
  refine wpAny_bind (wpAny_specialOf ht.typeIs slot_list_iter.lookup ?_)
  refine wpAny_pure ?_
  simp only[Bool.false_eq_true,if_false]
  refine wpAny_bind (wpAny_holding (wpAny_pyIter_list ht ?_))
  refine wpAny_bind (wpAny_holding (DF aQ items.size 0 _ _ ⟨_,Heap.get?_push_size _ rfl,rfl,rfl⟩ (ht.push _) (by omega) fun h₁ oE iL=> ?_))
  have n3:List.take items.size (List.drop 0 items.toList)=items.toList:=by
   rw[List.drop_zero];exact List.take_of_length_le (by simp)
  rw[n3]
  rw[if_neg (by simp)]
  have vg:h₁.IsList t items:=(ht.push _).extBut iL.extBut aQ
  refine wpAny_bind (wpAny_holding (wpAny_pyNext_list_end hh oE vg (by simp) fun h₂ vh=> ?_))
  simp only[Option.isSome_none,Bool.false_eq_true,if_false]
  refine wpAny_pure (hQ h₂ fun b o hb e=>vh b o hb (iL.extBut b o hb (Heap.get?_push_of_some _ e)))
theorem NO{env:Env}{elts:List Expr}{x1}{pos:Pos}{t:Addr}{items:Array Value}{Q:Unit→Shared→Prop}(hh:A.handled=none)(ht:s.heap.IsList t items)
  (hn:(assignEach elts env).length=items.size) (vi:(assignEach elts env).findIdx? (·.1)=none)
  (h: ∀h',Heap.ExtBut s.heap.objs.size s.heap h'→wpAny (model prog w) A (assignInOrder ((assignEach elts env).map (·.2)) items.toList) Q E {s with heap:=h'}):
  wpAny (model prog w) A (assign (.Tuple elts x1 pos) env (.ref t)) Q E s:=by
 rw[assign_Tuple]
 refine wpAny_bind (wpAny_standAt ?_)
 unfold unpack
 rw[hn,vi]
 exact wpAny_bind (wpAny_holding (NN hh ht h))
end
def hX(K:Frag)(n:Nat)(t:gj):TG:=fun v σ H Q=> ∃a xs,v= .ref a∧(aU K H a xs∨ao K H a xs)∧xs.length=n∧t xs σ H Q
theorem DG{X:Cx}{es:List Expr}{k:Nat}{t:gj}{n:Nat}{pos:Pos}(hc:X.calm=true)(h:jU X es t)
  (hn:(assignEach es X.env).length=n) (gX:(assignEach es X.env).findIdx? (·.1)=none):PG X (.Tuple es k pos) (hX X.K n t):=by
 intro pins s σ H v u Q I r hw
 obtain⟨a,xs,e1,hq,hl,hw⟩:=hw
 rcases hq with hq | hq
 ·exact Bb hc h hn gX pins s σ H v u Q I r ⟨a,xs,e1,hq,hl,hw⟩
 ·subst e1
  cases r
  obtain⟨its,rv,ht,hz⟩:=I.list hq
  refine NO (I.ok.hd hc) ht.isList (by simp[hn,←hl,rv.length]) gX fun h' hx=> ?_
  have I1:Inv X pins σ H {s with heap:=h'}:=I.kept (t':=s.toks) fun b o e=>hx b o (Nat.ne_of_lt (Heap.lt_size e)) e
  exact h pins _ σ H xs _ Q I1 (by simpa using rv) hw
def gy:List Nat→gj
 | []=>qE
 | i::r=>mD (cW i) (gy r)
def NP(to:TE)(tl th:TO):TG:=fun v σ H Q=>to σ H fun o H1=>tl σ H1 fun i H2=>th σ H2 fun j H3=> ∃l b xs ys a c,o= .ref l∧v= .ref b∧i=some a∧j=some c∧H3 l=some (.lst xs)∧H3 b=some (.lst ys)∧l≠b∧
 0≤a∧a≤c∧c≤xs.length∧xs.length+ys.length≤sizeLine∧Q σ (upd H3 l (.lst (xs.take a.toNat++ys++xs.drop c.toNat)))
mutual
def aI(Γ:av):RS→TS
 | .asg i e=>gY (aa Γ e) (cW i)
 | .rE i e=>gY (aa Γ e) (cW i)
 | .set o ix e=>gY (aa Γ e) (Bc (aa Γ o) (aa Γ ix) uk)
 | .dput o i e=>Kr (aa Γ o) (aa Γ i) (aa Γ e)
 | .drop e=>A5 (aa Γ e)
 | .ret e=>A9 (aa Γ e)
 | .LH=>HX
 | .ite c t e=>A_ (aS Γ c) (ar Γ t) (ar Γ e)
 | .mO i k its body=>qH (fQ Γ k its) (cW i) (ar Γ body)
 | .kg is k its body=>qH (fQ Γ k its) (hX Γ.K is.length (gy is)) (ar Γ body)
 | .LI c body=>Ib (aS Γ c) (ar Γ body)
 | .pass=>tY
 | .brk=>HS
 | .cont=>HU
 | .never=>HZ
 | .LJ o lo hi e=>gY (aa Γ e) (NP (aa Γ o) (qQ (aa Γ lo)) (qQ (aa Γ hi)))
 | .LK o f e=>Jf Γ.K (aa Γ o) (aa Γ e) f
 | .ou is e=>gY (aa Γ e) (hX Γ.K is.length (gy is))
 | .ow j as=>uO (Γ.ex j) Γ.E (aO Γ as)
 | .uS n i j body su=>fun D σ H=> ∃C,Γ.gv j= .ref C∧rC Γ.K C i n (fun E=>ar {Γ with E:=E} body) (fun ea=>ar {Γ with E:=E0,hv:=some ea} su) D σ H
def ar(Γ:av):List RS→TS
 | []=>tY
 | s::r=>A3 (aI Γ s) (ar Γ r)
end
def vF:Expr→Bool
 | .Slice ..=>false | _=>true
def rY:Expr→Bool
 | .ListComp ..=>false | .SetComp ..=>false | .DictComp ..=>false | _=>true
def DH(sc:Scope)(x:Str)(line:Nat)(s:Scope)(p:Pos):Bool:=
 decide (sc.kind= .function) && decide (sc.names.lookup x=some .local) && (line==p.line) && !(s.names.any fun(n,k)=>n==x && (k== .local || k== .cell))
def ky(N:List Str)(sc:Scope):List Nat→List Str→Bool
 | [],xs=>xs.isEmpty
 | i::r,xs=>match xs with
  | []=>false
  | x::t=>decide (N[i]?=some x) && loc sc x && ky N sc r t
structure aJ (CX:aE) (S:bP) (Γ:av) (X:Cx):Prop extends Good CX S Γ X where
 nd:S.N.Nodup
 gA: ∀x,X.fn x=true
 own:PassesOwn (model X.prog X.w) X.A X.env X.xe
 kz:X.env.scope.kind= .function
 rs: ∀(j:Nat) (x:Str),S.en[j]?=some x→Raises X Γ.E
 fI:X.stack=X.env::X.outer
 dP:X.env.frame=some X.env.locals
 kA:X.ex=[]
 kD:CX=dj X.prog X.w
def qV(S:bP)(i:Nat)(x:Str):Bool:=decide (S.N[i]?=some x) && uX S.sc x && !(x==("__debug__":Str)) && !(x==("__classdict__":Str))
def kG(S:bP)(j:Nat)(x:Str):Bool:=decide (S.gn[j]?=some x) && js S.sc x && !(x==("__debug__":Str))
def kF(S:bP)(j:Nat)(x:Str):Bool:=decide (S.fn[j]?=some x) && js S.sc x && !(x==("__debug__":Str))
def kB(S:bP)(x y:Str):Bool:=decide (x=y) && js S.sc x && S.bl.contains x
def kM(o:Expr)(m:Str)(x:Str)(n:Nat)(a c:Pos):Bool:=decide (x=m) && rH o && (a.endLine==c.line) && decide (n<29)
def kL(S:bP)(i:Nat)(x:Str):Bool:=decide (S.N[i]?=some x) && loc S.sc x
section
variable {CX:aE} {S:bP} {Γ:av} {X:Cx} {e e2 a b c d:Expr} {es:List Expr} {x:Str} {p q pos:Pos} {r ra rb rc:RE} {rs:List RE} {i j:Nat}
theorem af(G:Good CX S Γ X)(h:qV S i x=true:=by kernel_rfl):PE X (.Name x p) (aa Γ (.v i)):=by
 simp only[qV,Bool.and_eq_true,decide_eq_true_eq,Bool.not_eq_true'] at h
 exact HG (by rw[G.N];exact h.1.1.1) (by rw[G.sc];exact LR h.1.1.2) h.1.2 h.2
theorem aw{v:Int}{k:Nat}:PE X (.Constant (.int v) k p) (aa Γ (.c (.int v))):=HH
theorem cp{v:Str}{k:Nat}:PE X (.Constant (.str v) k p) (aa Γ (.c (.str v))):=HK
theorem eP{v:Bool}{k:Nat}:PE X (.Constant (.bool v) k p) (aa Γ (.c (.bl v))):=HI
theorem cM{k:Nat}:PE X (.Constant .none k p) (aa Γ (.c .ai)):=HJ
theorem eE(G:Good CX S Γ X)(h:kG S j x=true:=by kernel_rfl):PE X (.Name x p) (aa Γ (.g j)):=by
 simp only[kG,Bool.and_eq_true,decide_eq_true_eq,Bool.not_eq_true'] at h
 obtain⟨u,hm,r⟩:=G.hU j x h.1.1
 exact AR (G.gl h.1.2) hm r h.2
theorem aM{op:Operator}(G:Good CX S Γ X)(ha:PE X a (aa Γ ra))(hb:PE X b (aa Γ rb)):PE X (.BinOp a op b p) (aa Γ (.bin op ra rb)):=by
 show PE X _ (di (kc Γ.K op) (aa Γ ra) (aa Γ rb))
 rw[←G.K]
 exact Ip (La op) ha hb
theorem jv(ha:PE X a (aa Γ ra)):PE X (.UnaryOp .USub a p) (aa Γ (.neg ra)):=Iq NH ha
theorem dQ{op:CmpOp}(G:Good CX S Γ X)(ha:PE X a (aa Γ ra))(hb:PE X b (aa Γ rb))(hm:behindInMarks op b=false:=by kernel_rfl):PE X (.Compare a [op] [b] p) (aa Γ (.cmp op ra rb)):=by
 show PE X _ (di (bK Γ.K op) (aa Γ ra) (aa Γ rb))
 rw[←G.K]
 exact IS (mL G.units op) ha hb hm
theorem NQ{op bM:CmpOp}(G:Good CX S Γ X)(ha:PE X a (aa Γ ra))(hb:PE X b (aa Γ rb))(hc:PE X c (aa Γ rc))(hm:lastMarks [op,bM] [b,c]=false:=by kernel_rfl):PE X (.Compare a [op,bM] [b,c] p) (aa Γ (.hJ op bM ra rb rc)):=by
 show PE X _ (mF (bK Γ.K op) (bK Γ.K bM) (aa Γ ra) (aa Γ rb) (aa Γ rc))
 rw[←G.K]
 exact IU (mL G.units op) (mL G.units bM) ha hb hc hm
theorem kI(h:PE X e (aa Γ r)):PE X (.BoolOp .And [e] p) (aa Γ (.and [r])):=AZ h
theorem jw{r2:RE}(h:PE X e (aa Γ r))(t:PE X (.BoolOp .And (e2::es) p) (aa Γ (.and (r2::rs)))):PE X (.BoolOp .And (e::e2::es) p) (aa Γ (.and (r::r2::rs))):=HM h t
theorem oQ(h:PE X e (aa Γ r)):PE X (.BoolOp .Or [e] p) (aa Γ (.or [r])):=AZ h
theorem oR{r2:RE}(h:PE X e (aa Γ r))(t:PE X (.BoolOp .Or (e2::es) p) (aa Γ (.or (r2::rs)))):PE X (.BoolOp .Or (e::e2::es) p) (aa Γ (.or (r::r2::rs))):=HN h t
theorem DI(G:Good CX S Γ X)(ha:PE X a (aa Γ ra)):PE X (.UnaryOp .Not a p) (aa Γ (.not ra)):=by
 show PE X _ (uT Γ.K (aa Γ ra))
 rw[←G.K]
 exact NI ha
theorem DJ(hc:PT X c (aS Γ rc))(ha:PE X a (aa Γ ra))(hb:PE X b (aa Γ rb)):PE X (.IfExp c a b p) (aa Γ (.mM rc ra rb)):=HP hc ha hb
theorem ak:PA X [] (aO Γ []):=j0
theorem ae(h:PE X e (aa Γ r))(t:PA X es (aO Γ rs))(hs:noStar e=true:=by kernel_rfl):PA X (e::es) (aO Γ (r::rs)):=g4 h t (cn hs)
theorem aY(G:Good CX S Γ X)(hA:PA X (e::es) (aO Γ (r::rs)))(h:kF S j x=true:=by kernel_rfl)(hn:dn (e::es)=true:=by kernel_rfl)(hq:S.md=0:=by rfl):PE X (.Call (.Name x p) (e::es) [] pos) (aa Γ (.call j (r::rs))):=by
 simp only[kF,Bool.and_eq_true,decide_eq_true_eq,Bool.not_eq_true'] at h
 obtain⟨k,f,fd,ps,F,hr,hm,hk,hb⟩:=G.fns hq j x h.1.1
 exact Jl F hr (G.gl h.1.2) hm hk hb .nil G.pass hA h.2 (cn (bT hn).1) (fh _ _ es (bT hn).2)
theorem cB{t:jm}(G:Good CX S Γ X)(hA:PA X (e::es) (aO Γ (r::rs)))(h:kB S x t.nm=true:=by kernel_rfl)(hn:dn (e::es)=true:=by kernel_rfl)(hq:S.md=0:=by rfl):PE X (.Call (.Name x p) (e::es) [] pos) (aa Γ (.blt t (r::rs))):=by
 simp only[kB,Bool.and_eq_true,decide_eq_true_eq] at h
 obtain⟨⟨rfl,h2⟩,h3⟩:=h
 have n1:t.nm≠"__name__":=by cases t<;>decide
 have n2:(t.nm==("__debug__":Str))=false:=by cases t<;>decide
 show PE X _ (cG (kh Γ.K t) (aO Γ (r::rs)))
 rw[←G.K]
 cases Nk (X:=X) (G.calm hq) t with
 | fn id hv hc=>exact jf hc (G.gl h2) (G.cI _ h3) hv hA n1 n2 (cn (bT hn).1) (fh _ _ es (bT hn).2)
 | ty T hv hc=>exact Jo hc (G.gl h2) (G.cI _ h3) hv hA n1 n2 (cn (bT hn).1) (fh _ _ es (bT hn).2)
theorem jx{T:Ty}{y:Str}(G:Good CX S Γ X)(ha:PE X a (aa Γ ra))(h:kB S x "isinstance"=true:=by kernel_rfl)(h2:kB S y (Str.ofString T.nm)=true:=by kernel_rfl)(hs:noStar a=true:=by kernel_rfl):PE X (.Call (.Name x p) [a, .Name y q] [] pos) (aa Γ (.ej T ra)):=by
 simp only[kB,Bool.and_eq_true,decide_eq_true_eq] at h h2
 obtain⟨⟨rfl,g2⟩,g3⟩:=h
 obtain⟨⟨rfl,k2⟩,k3⟩:=h2
 exact NB ha hs (G.gl g2) (G.cI _ g3) (G.gl k2) (G.cI _ k3)
theorem eF(G:Good CX S Γ X)(ha:PE X a (aa Γ ra))(hb:PE X b (aa Γ rb))(h:kB S x "isinstance"=true:=by kernel_rfl)(hn:dn [a,b]=true:=by kernel_rfl):PE X (.Call (.Name x p) [a,b] [] pos) (aa Γ (.cf ra rb)):=by
 simp only[kB,Bool.and_eq_true,decide_eq_true_eq] at h
 obtain⟨⟨rfl,g2⟩,g3⟩:=h
 show PE X _ (cG (g_ Γ.K) (cj (aa Γ ra) (cj (aa Γ rb) eO)))
 rw[←G.K]
 exact jf M4 (G.gl g2) (G.cI _ g3) Dt (g4 ha (g4 hb j0 (cn (bT (bT hn).2).1)) (cn (bT hn).1)) (by decide) (by decide) (cn (bT hn).1) (fh _ _ _ (bT hn).2)
theorem NR{n:String}(G:Good CX S Γ X)(hv:bootBuiltins (Str.ofString n)=some (.type n))(h1:Str.ofString n≠"__name__")(h2:(Str.ofString n==("__debug__":Str))=false)(h:kB S x (Str.ofString n)=true:=by kernel_rfl):PE X (.Name x p) (aa Γ (.c (.ty n))):=by
 simp only[kB,Bool.and_eq_true,decide_eq_true_eq] at h
 obtain⟨⟨rfl,g2⟩,g3⟩:=h
 exact AS (G.gl g2) (G.cI _ g3) hv rfl h1 h2
def kH(S:bP)(j:Nat)(x:Str):Bool:=decide (S.hn[j]?=some x) && js S.sc x && !(x==("__debug__":Str))
theorem NS(G:Good CX S Γ X)(ha:PE X a (aa Γ ra))(h:kH S j x=true:=by kernel_rfl)(hs:noStar a=true:=by kernel_rfl):PE X (.Call (.Name x p) [a] [] pos) (aa Γ (.uR j ra)):=by
 simp only[kH,Bool.and_eq_true,decide_eq_true_eq,Bool.not_eq_true'] at h
 obtain⟨k,f,fd,ps,F,hr,hm,hk,hb⟩:=G.iO j x h.1.1
 exact M9 F hr (G.gl h.1.2) hm hk hb G.ju ha hs h.2
theorem NT{m:fb}{o:Expr}{ro:RE}{ap:Pos}(G:Good CX S Γ X)(ho:PE X o (aa Γ ro))(h:kM o m.nm x 0 ap pos=true:=by kernel_rfl):PE X (.Call (.Attribute o x ap) [] [] pos) (aa Γ (.cc m ro [])):=by
 simp only[kM,Bool.and_eq_true,decide_eq_true_eq] at h
 obtain⟨⟨⟨rfl,h2⟩,h3⟩, -⟩:=h
 show PE X _ (mP Γ.K m (aa Γ ro) eO)
 rw[←G.K]
 exact NK ho h2 h3
theorem hZ{m:fb}{o:Expr}{ro:RE}{ap:Pos}(G:Good CX S Γ X)(ho:PE X o (aa Γ ro))(hA:PA X (e::es) (aO Γ (r::rs)))(h:kM o m.nm x (es.length+1) ap pos=true:=by kernel_rfl)(hn:dn (e::es)=true:=by kernel_rfl):PE X (.Call (.Attribute o x ap) (e::es) [] pos) (aa Γ (.cc m ro (r::rs))):=by
 simp only[kM,Bool.and_eq_true,decide_eq_true_eq] at h
 obtain⟨⟨⟨rfl,h2⟩,h3⟩,h4⟩:=h
 show PE X _ (mP Γ.K m (aa Γ ro) (aO Γ (r::rs)))
 rw[←G.K]
 exact NJ ho hA h2 h3 h4 (cn (bT hn).1) (fh _ _ es (bT hn).2) (Dr _ _ (e::es) hn)
theorem NU(h:vF b=true):BP b:=fun o i=>by cases b<;>first | rfl | cases h
theorem bp(G:Good CX S Γ X)(ha:PE X a (aa Γ ra))(hb:PE X b (aa Γ rb))(h:vF b=true:=by kernel_rfl):PE X (.Subscript a b p) (aa Γ (.ix ra rb)):=by
 show PE X _ (di (jo Γ.K Γ.sd) (aa Γ ra) (aa Γ rb))
 rw[←G.K]
 exact JD (Nq G.iN) ha hb (NU h)
theorem dR{lo hi:Option Expr}{rl rh:Option RE}(G:Good CX S Γ X)(ha:PE X a (aa Γ ra))(hl:PO X lo (jr Γ rl))(hh:PO X hi (jr Γ rh)):PE X (.Subscript a (.Slice lo hi none q) p) (aa Γ (.sl ra rl rh)):=by
 show PE X _ (uh (mQ Γ.K) (aa Γ ra) (jr Γ rl) (jr Γ rh))
 rw[←G.K]
 exact Jz NF ha hl hh
theorem eG:PO X none (jr Γ none):=Jx
theorem dF(ha:PE X a (aa Γ ra)):PO X (some a) (jr Γ (some ra)):=Jy ha
theorem bD{k}(hA:PA X es (aO Γ rs)):PE X (.Tuple es k p) (aa Γ (.tup rs)):=Jg hA
theorem bQ(hA:PA X es (aO Γ rs)):PE X (.List es p) (aa Γ (.lst rs)):=Jh hA
def rZ(CX:aE)(S:bP)(Γ:av)(cond:Option RE)(ifs:List Expr):Prop:=match cond with
 | none=>ifs=[]
 | some r=> ∃e0,ifs=[e0]∧ ∀X,Good CX S Γ X→PT X e0 (aS Γ r)
theorem mX:rZ CX S Γ none []:=rfl
theorem NV(h: ∀X,Good CX S Γ X→PT X e (aS Γ r)):rZ CX S Γ (some r) [e]:=⟨e,rfl,h⟩
def kC(S:bP)(tk:Option Nat)(tg iter:Expr)(sc:Scope)(k:IK)(ln:List Str)(fv:List (Str×Nat)):Bool:=decide (u_ tk tg=some ln) && (decide (k≠ .zip) || tk.isSome) && va S ⟨.Constant .none 0 ⟨0,0,0,0⟩,tg,iter,[],sc⟩ ln fv
abbrev cS(S:bP)(sc:Scope)(ln:List Str)(fv:List (Str×Nat)):bP:={S with N:=ln++fv.map (·.1),sc:=uZ sc S.sc,en:=[],md:=if S.md=0 then 0 else 2}
theorem mY{tk:Option Nat}{fv:List (Str×Nat)}{k:IK}{its:List RE}{cond:Option RE}{elt:RE}{el tg iter:Expr}{ifs:List Expr}{sc:Scope}{ln:List Str}(G:Good CX S Γ X)(h:kC S tk tg iter sc k ln fv=true)(hi:PI X tg iter (fQ Γ k its))
  (hc:rZ CX (cS S sc ln fv) Γ.calm cond ifs) (he: ∀X,Good CX (cS S sc ln fv) Γ.calm X→PE X el (aa Γ.calm elt)) (hq:S.md=0:=by rfl):PE X (.ListComp el [⟨tg,iter,ifs,0⟩] sc p) (aa Γ (.comp tk fv k its cond elt)):=by
 simp only[kC,Bool.and_eq_true,decide_eq_true_eq] at h
 obtain⟨⟨h1,h2⟩,h3⟩:=h
 obtain⟨o1,o2,o3,o4⟩:=Ds (c:=⟨.Constant .none 0 ⟨0,0,0,0⟩,tg,iter,[],sc⟩) G h3
 show PE X _ (mJ Γ.K (fQ Γ k its) tk fv (uW Γ.calm cond) (aa Γ.calm elt))
 rw[←G.K]
 refine K5 o1 (G.calm hq) hi (M_ (c:=⟨.Constant .none 0 ⟨0,0,0,0⟩,tg,iter,[],sc⟩) (G.calm hq) h1 o2 o3) ?_ (fun ex C s H=>he _ (G.inner ⟨.Constant .none 0 ⟨0,0,0,0⟩,tg,iter,[],sc⟩ ln fv ex C s H)) (rT o4)
 cases cond with
 | none=>exact hc
 | some r=>
  obtain⟨e0,q,hq⟩:=hc
  exact⟨e0,q,fun ex C s H=>hq _ (G.inner ⟨.Constant .none 0 ⟨0,0,0,0⟩,tg,iter,[],sc⟩ ln fv ex C s H)⟩
theorem fi(h:PT X a (aS Γ ra)):PT X (.UnaryOp .Not a p) (aS Γ (.not ra)):=HL h
theorem vG(h:PT X e (aS Γ r)):PW X (.BoolOp .And [e] p) (aS Γ (.and [r])):=pw_and1 h
theorem vH{r2:RE}(h:PT X e (aS Γ r))(t:PW X (.BoolOp .And (e2::es) p) (aS Γ (.and (r2::rs)))):PW X (.BoolOp .And (e::e2::es) p) (aS Γ (.and (r::r2::rs))):=pw_and h t
theorem iP(h:PT X e (aS Γ r)):PW X (.BoolOp .Or [e] p) (aS Γ (.or [r])):=pw_or1 h
theorem gB{r2:RE}(h:PT X e (aS Γ r))(t:PW X (.BoolOp .Or (e2::es) p) (aS Γ (.or (r2::rs)))):PW X (.BoolOp .Or (e::e2::es) p) (aS Γ (.or (r::r2::rs))):=pw_or h t
theorem cN{op:CmpOp}(G:Good CX S Γ X)(ha:PE X a (aa Γ ra))(hb:PE X b (aa Γ rb))(hm:behindInMarks op b=false:=by kernel_rfl):PT X (.Compare a [op] [b] p) (aS Γ (.cmp op ra rb)):=by
 show PT X _ (jb (di (bK Γ.K op) (aa Γ ra) (aa Γ rb)))
 rw[←G.K]
 exact IT (mL G.units op) ha hb hm
theorem NW{op bM:CmpOp}(G:Good CX S Γ X)(ha:PE X a (aa Γ ra))(hb:PE X b (aa Γ rb))(hc:PE X c (aa Γ rc))(hm:lastMarks [op,bM] [b,c]=false:=by kernel_rfl):PT X (.Compare a [op,bM] [b,c] p) (aS Γ (.hJ op bM ra rb rc)):=by
 show PT X _ (jb (mF (bK Γ.K op) (bK Γ.K bM) (aa Γ ra) (aa Γ rb) (aa Γ rc)))
 rw[←G.K]
 exact IV (mL G.units op) (mL G.units bM) ha hb hc hm
theorem DK(G:Good CX S Γ X)(h:PE X (.Name x p) (aa Γ (.v i))):PT X (.Name x p) (aS Γ (.v i)):=by
 show PT X _ (dv Γ.K (aa Γ (.v i)))
 rw[←G.K]
 exact oP h fun _=>rfl
theorem kJ(G:Good CX S Γ X)(h:PE X (.Call a es [] p) (aa Γ (.call j rs))):PT X (.Call a es [] p) (aS Γ (.call j rs)):=by
 show PT X _ (dv Γ.K (aa Γ (.call j rs)))
 rw[←G.K]
 exact oP h fun _=>rfl
theorem DL(G:Good CX S Γ X)(h:PE X (.Call a es [] p) (aa Γ (.cf ra rb))):PT X (.Call a es [] p) (aS Γ (.cf ra rb)):=by
 show PT X _ (dv Γ.K (aa Γ (.cf ra rb)))
 rw[←G.K]
 exact oP h fun _=>rfl
theorem r0{T:Ty}(G:Good CX S Γ X)(h:PE X (.Call a es [] p) (aa Γ (.ej T ra))):PT X (.Call a es [] p) (aS Γ (.ej T ra)):=by
 show PT X _ (dv Γ.K (aa Γ (.ej T ra)))
 rw[←G.K]
 exact oP h fun _=>rfl
theorem kK{tg:Expr}(G:Good CX S Γ X)(ha:PE X a (aa Γ ra)):PI X tg a (fQ Γ .list [ra]):=by
 show PI X tg a (nM Γ.K (aa Γ ra))
 rw[←G.K]
 exact Ih ha
theorem NX{tg:Expr}(G:Good CX S Γ X)(ha:PE X a (aa Γ ra))(h:kB S x "range"=true:=by kernel_rfl)(hs:noStar a=true:=by kernel_rfl):PI X tg (.Call (.Name x p) [a] [] pos) (fQ Γ .gh [ra]):=by
 simp only[kB,Bool.and_eq_true,decide_eq_true_eq] at h
 obtain⟨⟨rfl,h2⟩,h3⟩:=h
 exact Ik (G.gl h2) (G.cI _ h3) (g4 ha j0 (cn hs)) (cn hs)
theorem DM{ts:List Expr}{k}{tp:Pos}(G:Good CX S Γ X)(ha:PE X a (aa Γ ra))(h:kB S x "enumerate"=true:=by kernel_rfl)(hs:noStar a=true:=by kernel_rfl):PI X (.Tuple ts k tp) (.Call (.Name x p) [a] [] pos) (fQ Γ .rD [ra]):=by
 simp only[kB,Bool.and_eq_true,decide_eq_true_eq] at h
 obtain⟨⟨rfl,h2⟩,h3⟩:=h
 show PI X _ _ (uU Γ.K (cj (aa Γ ra) (aO Γ [])))
 rw[←G.K]
 exact L9 (G.gl h2) (G.cI _ h3) (g4 ha j0 (cn hs)) (cn hs)
theorem DN{ts:List Expr}{k}{tp:Pos}(G:Good CX S Γ X)(ha:PE X a (aa Γ ra))(hb:PE X b (aa Γ rb))(h:kB S x "zip"=true:=by kernel_rfl)(hn:dn [a,b]=true:=by kernel_rfl):PI X (.Tuple ts k tp) (.Call (.Name x p) [a,b] [] pos) (fQ Γ .zip [ra,rb]):=by
 simp only[kB,Bool.and_eq_true,decide_eq_true_eq] at h
 obtain⟨⟨rfl,h2⟩,h3⟩:=h
 show PI X _ _ (uV Γ.K (cj (aa Γ ra) (aO Γ [rb])))
 rw[←G.K]
 exact LY (G.gl h2) (G.cI _ h3) (g4 ha (g4 hb j0 (cn (bT (bT hn).2).1)) (cn (bT hn).1)) (cn (bT hn).1) (fh _ _ _ (bT hn).2)
end
section
variable {CX:aE} {S:bP} {Γ:av} {X:Cx} {e a b c v:Expr} {es:List Expr} {x:Str} {p q pos:Pos} {r ra rb rc:RE} {i j:Nat} {st:Stmt} {DO:List Stmt} {s:RS} {ss t u:List RS}
theorem vI{v:Expr}{t:Option Expr}{l:Nat}{env:Env}(h:rY v=true):swapsWith v t l env=pure false:=by
 cases v<;>first | rfl | cases h
theorem NY{v:Expr}{x:Str}{p:Pos}{l:Nat}{env:Env}(h:env.kindOf x=some .cell):swapsWith v (some (.Name x p)) l env=pure false:=by
 cases v<;>first
  | rfl
  | (unfold swapsWith;simp only[h];have q:(some NameKind.cell==some NameKind.local)=false:=rfl;simp only[q,Bool.and_false,Bool.false_and])
theorem NZ{v o i:Expr}{p:Pos}{l:Nat}{env:Env}:swapsWith v (some (.Subscript o i p)) l env=pure false:=by
 cases v<;>rfl
theorem N0{v o i:Expr}{p:Pos}{env:Env}:swappedStores [.Subscript o i p] v env=pure none:=by
 cases v<;>rfl
theorem aJ.name(G:aJ CX S Γ X)(h:kL S i x=true):PG X (.Name x p) (cW i):=by
 simp only[kL,Bool.and_eq_true,decide_eq_true_eq] at h
 exact mB (by rw[G.N];exact G.nd) (by rw[G.N];exact h.1) (by rw[G.sc];exact uY h.2) (.inl (G.gA x))
theorem aK:a_ X [] (ar Γ []):=A4
theorem aA(h:PS X st (aI Γ s))(t:a_ X DO (ar Γ ss)):a_ X (st::DO) (ar Γ (s::ss)):=HR h t
theorem bt(G:aJ CX S Γ X)(he:PE X v (aa Γ r))(h:kL S i x=true:=by kernel_rfl)(hc:(rY v || decide (S.sc.names.lookup x=some .cell))=true:=by kernel_rfl):PS X (.Assign [.Name x p] v q) (aI Γ (.asg i r)):=by
 simp only[kL,Bool.and_eq_true,decide_eq_true_eq,Bool.or_eq_true] at h hc
 refine Ia (by rw[G.N];exact G.nd) (by rw[G.N];exact h.1) (by rw[G.sc];exact uY h.2) he ?_ (.inl (G.gA x))
 rcases hc with h4 | h4
 ·exact vI h4
 ·exact NY (by show X.env.scope.names.lookup x=_;rw[G.sc];exact h4)
theorem N1{fv:List (Str×Nat)}{cond:Option RE}{elt:RE}{el iter:Expr}{ifs:List Expr}{sc:Scope}{n1 n2:Str}{p1 p2 tp:Pos}{kt}{pc:Pos}(G:aJ CX S Γ X)(h0:kL S i x=true)(hs:DH S.sc x p.line sc pc=true)(h:kC S (some 2) (.Tuple [.Name n1 p1, .Name n2 p2] kt tp) iter sc .list [n1,n2] fv=true)(hi:PE X iter (aa Γ ra))
  (hc:rZ CX (cS S sc [n1,n2] fv) Γ.calm cond ifs) (he: ∀X,Good CX (cS S sc [n1,n2] fv) Γ.calm X→PE X el (aa Γ.calm elt)) (hq:S.md=1:=by rfl):PS X (.Assign [.Name x p] (.ListComp el [⟨.Tuple [.Name n1 p1, .Name n2 p2] kt tp,iter,ifs,0⟩] sc pc) q) (aI Γ (.rE i (.comp (some 2) fv .list [ra] cond elt))):=by
 simp only[kC,kL,DH,Bool.and_eq_true,decide_eq_true_eq,beq_iff_eq,Bool.not_eq_true'] at h h0 hs
 obtain⟨⟨h1,h2⟩,h3⟩:=h
 obtain⟨o1,o2,o3,o4⟩:=Ds (c:=⟨.Constant .none 0 ⟨0,0,0,0⟩, .Tuple [.Name n1 p1, .Name n2 p2] kt tp,iter,[],sc⟩) G.toGood h3
 show PS X _ (gY (mJ Γ.K (nM Γ.K (aa Γ ra)) (some 2) fv (uW Γ.calm cond) (aa Γ.calm elt)) (cW i))
 rw[←G.K]
 have hH:Hd X:=G.ku hq
 refine K1 (Φ:=Hd) (Ψ:=eA X.A) (by rw[G.N];exact G.nd) (by rw[G.N];exact h0.1) (by rw[G.sc];exact uY h0.2) ?_ o1 M3 (fun _ _ _ _ I=>hH.at I) (MZ hi) (M1 (o2 n1 (by simp)) (o2 n2 (by simp)) o3) ?_ (fun ex C s H=>he _ (G.toGood.inner ⟨.Constant .none 0 ⟨0,0,0,0⟩, .Tuple [.Name n1 p1, .Name n2 p2] kt tp,iter,[],sc⟩ [n1,n2] fv ex C s H)) (rT o4) (.inl (G.gA x))
 ·have e1:X.env.kindOf x=some .local:=by show X.env.scope.names.lookup x=_;rw[G.sc];exact hs.1.1.2
  have e2:X.env.blockKind= .function:=by unfold Env.blockKind;rw[G.kz];rfl
  unfold swapsWith
  simp only[e1,e2,hs.1.2,hs.2]
  show pure (true && true && (pc.line==pc.line) && !false)=pure true
  rw[beq_self_eq_true];rfl
 ·cases cond with
  | none=>exact hc
  | some r=>
   obtain⟨e0,q,hq⟩:=hc
   exact⟨e0,q,fun ex C s H=>hq _ (G.toGood.inner ⟨.Constant .none 0 ⟨0,0,0,0⟩, .Tuple [.Name n1 p1, .Name n2 p2] kt tp,iter,[],sc⟩ [n1,n2] fv ex C s H)⟩
theorem N2(he:PE X v (aa Γ r))(ha:PE X a (aa Γ ra))(hb:PE X b (aa Γ rb))(h:vF b=true:=by kernel_rfl):PS X (.Assign [.Subscript a b p] v q) (aI Γ (.set ra rb r)):=
 Bd he (H_ ha hb set_list (by intro w;cases b<;>first | rfl | cases h)) (by exact NZ (o:=a) (i:=b) (p:=p) (l:=q.line) (env:=X.env)) N0 rfl
theorem h9(he:PE X v (aa Γ r))(h:rY v=true:=by kernel_rfl):PS X (.Expr v p) (aI Γ (.drop r)):=HV he (vI h)
theorem bx(he:PE X v (aa Γ r)):PS X (.Return (some v) p) (aI Γ (.ret r)):=HW he
theorem cJ{as bs:List Stmt}(hc:PT X c (aS Γ rc))(ha:a_ X as (ar Γ t))(hb:a_ X bs (ar Γ u)):PS X (.If c as bs p) (aI Γ (.ite rc t u)):=HY hc ha hb
theorem DP{k:IK}{its:List RE}{iter:Expr}{as:List Stmt}(G:aJ CX S Γ X)(hi:PI X (.Name x p) iter (fQ Γ k its))(ha:a_ X as (ar Γ t))(h:kL S i x=true:=by kernel_rfl)(hs:oB iter=true:=by kernel_rfl)(hq:S.md=0:=by rfl):PS X (.For (.Name x p) iter as [] q) (aI Γ (.mO i k its t)):=
 Bg G.own (G.calm hq) hi (G.name h) ha (rT hs)
theorem vJ(G:aJ CX S Γ X): ∀(is:List Nat) (xs:List (Str×Pos)),ky S.N S.sc is (xs.map (·.1))=true→
  jU X (xs.map fun y=> .Name y.1 y.2) (gy is)∧(assignEach (xs.map fun y=>Expr.Name y.1 y.2) X.env).length=is.length∧(assignEach (xs.map fun y=>Expr.Name y.1 y.2) X.env).findIdx? (·.1)=none
 | [],xs,h=>by
  simp only[ky,List.isEmpty_iff,List.map_eq_nil_iff] at h
  subst h;exact⟨t4,rfl,rfl⟩
 | i::r,[],h=>by simp only[List.map_nil,ky] at h;cases h
 | i::r,y::t,h=>by
  simp only[List.map_cons,ky,Bool.and_eq_true] at h
  obtain⟨i1,i2,i3⟩:=vJ G r t h.2
  refine⟨nJ (G.name (by simp only[kL,Bool.and_eq_true];exact h.1)) i1 rfl, ?_, ?_⟩
  ·show(assignEach _ X.env).length+1=r.length+1
   rw[i2]
  ·show List.findIdx? (·.1) ((false,assign (.Name y.1 y.2) X.env)::assignEach _ X.env)=none
   rw[List.findIdx?_cons,i3];rfl
theorem r6{is:List Nat}{k:IK}{its:List RE}{iter:Expr}{as:List Stmt}{kt}{tp:Pos}(xs:List (Str×Pos))(G:aJ CX S Γ X)(hi:PI X (.Tuple (xs.map fun y=> .Name y.1 y.2) kt tp) iter (fQ Γ k its))(ha:a_ X as (ar Γ t))(h:ky S.N S.sc is (xs.map (·.1))=true:=by kernel_rfl)(hs:oB iter=true:=by kernel_rfl)(hq:S.md=0:=by rfl):
  PS X (.For (.Tuple (xs.map fun y=> .Name y.1 y.2) kt tp) iter as [] q) (aI Γ (.kg is k its t)):=by
 obtain⟨i1,i2,i3⟩:=vJ G is xs h
 show PS X _ (qH (fQ Γ k its) (hX Γ.K is.length (gy is)) (ar Γ t))
 rw[←G.K]
 exact Bg G.own (G.calm hq) hi (DG (G.calm hq) i1 i2 i3) ha (rT hs)
def N3:Expr→Bool
 | .Tuple ..=>false | _=>true
theorem N4{is:List Nat}{kt}{tp:Pos}(xs:List (Str×Pos))(G:aJ CX S Γ X)(he:PE X v (aa Γ r))(h:ky S.N S.sc is (xs.map (·.1))=true:=by kernel_rfl)(hc:(rY v && N3 v)=true:=by kernel_rfl)(hq:S.md=0:=by rfl):
  PS X (.Assign [.Tuple (xs.map fun y=> .Name y.1 y.2) kt tp] v q) (aI Γ (.ou is r)):=by
 simp only[Bool.and_eq_true] at hc
 obtain⟨i1,i2,i3⟩:=vJ G is xs h
 show PS X _ (gY (aa Γ r) (hX Γ.K is.length (gy is)))
 rw[←G.K]
 refine Bd he (DG (G.calm hq) i1 i2 i3) (by show swapsWith v (some (.Tuple (xs.map fun y=>Expr.Name y.1 y.2) kt tp)) q.line X.env=pure false;exact vI hc.1) ?_ rfl
 have h2:=hc.2
 cases v<;>first | rfl | cases h2
def kX(S:bP)(j:Nat)(x:Str):Bool:=decide (S.en[j]?=some x) && js S.sc x && !(x==("__debug__":Str))
theorem vK{rs:List RE}{np cA:Pos}(G:aJ CX S Γ X)(hA:PA X (e::es) (aO Γ (r::rs)))(h:kX S j x=true:=by kernel_rfl)(hn:dn (e::es)=true:=by kernel_rfl)(hq:S.md=0:=by rfl):PS X (.Raise (some (.Call (.Name x np) (e::es) [] cA)) none pos) (aI Γ (.ow j (r::rs))):=by
 simp only[kX,Bool.and_eq_true,decide_eq_true_eq,Bool.not_eq_true'] at h
 obtain⟨bm,B,newId,mR,O,FB⟩:=G.mW j x h.1.1
 exact MF (G.calm hq) O FB (G.gl h.1.2) h.2 hA (cn (bT hn).1) (fh _ _ es (bT hn).2) (G.rs j x h.1.1)
abbrev tS(S:bP):bP:={S with en:=[]}
abbrev hS(S:bP):bP:={S with en:=[],md:=2}
theorem aJ.N5(G:aJ CX S Γ X)(pn:List (Addr×Obj))(xe:Value→Shared→Prop)(E:XK)(ho:PassesOwn (model X.prog X.w) X.A X.env xe)(hp:Passes (dj X.prog X.w) (X.alt X.A X.calm pn xe) E):
  aJ CX (tS S) {Γ with E:=E} (X.alt X.A X.calm pn xe):=
 {N:=G.N,sc:=G.sc,K:=G.K,calm:=G.calm,units:=G.units,fns:=G.fns,hU:=G.hU,cI:=G.cI,pass:=by rw[G.kD];exact hp,hV:=G.hV,iN:=G.iN,kq:=G.kq,kr:=G.kr,
  mW:=fun _ _ h=> (by simp at h),iO:=G.iO,ju:=G.ju,ku:=G.ku,nd:=G.nd,gA:=G.gA,own:=ho,kz:=G.kz,rs:=fun _ _ h=> (by simp at h),fI:=G.fI,dP:=G.dP,kA:=G.kA,kD:=G.kD}
theorem aJ.held(G:aJ CX S Γ X)(ea:Addr)(pn:List (Addr×Obj)):
  aJ CX (hS S) {Γ with E:=E0,hv:=some ea} (X.alt (X.A.mark (some (.ref ea))) false pn fun _ _=>False):=
 {N:=G.N,sc:=G.sc,K:=G.K,calm:=fun h=> (nomatch h),units:=G.units,fns:=fun h=> (nomatch h),hU:=G.hU,cI:=G.cI,pass:=fun _ _ _ _ _ _ _ h=> (G.hV _ _ _ _ _ h).elim,hV:=G.hV,iN:=G.iN,kq:=fun h=> (nomatch h),kr:=fun h=> (nomatch h),
  mW:=fun _ _ h=> (by simp at h),iO:=fun j x h=> (by
   obtain⟨k,f,fd,ps,F,r,m⟩:=G.iO j x h
   exact⟨k,f,fd,ps,F,r.mark _,m⟩),
  ju:=fun e h=> (by cases h;rfl),ku:=fun h=> (nomatch h),nd:=G.nd,gA:=G.gA,own:=PassesOwn.never,kz:=G.kz,rs:=fun _ _ h=> (by simp at h),fI:=G.fI,dP:=G.dP,kA:=G.kA,kD:=G.kD}
theorem N6{n:Nat}{y:Str}{np rO:Pos}{body su:List Stmt}{b₀:Stmt}{rb oS:List RS}(G:aJ CX S Γ X)(h:kG S j x=true)(hn:(decide (S.N.length=n) && decide (S.N[i]?=some y) && decide (S.sc.names.lookup y=some .local))=true)
  (hb: ∀{Γ:av} {X:Cx},aJ CX (tS S) Γ X→a_ X body (ar Γ rb)) (hs: ∀{Γ:av} {X:Cx},aJ CX (hS S) Γ X→a_ X (b₀::su) (ar Γ oS)):
  PS X (.Try body [.ExceptHandler (some (.Name x np)) (some y) (b₀::su) rO] [] [] pos) (aI Γ (.uS n i j rb oS)):=by
 simp only[kG,Bool.and_eq_true,decide_eq_true_eq,Bool.not_eq_true'] at h hn
 obtain⟨u,hm,hu⟩:=G.hU j x h.1.1
 intro pins s σ H D I q
 obtain⟨C,e,q⟩:=(show ∃C,Γ.gv j= .ref C∧rC Γ.K C i n (fun E=>ar {Γ with E:=E} rb) (fun ea=>ar {Γ with E:=E0,hv:=some ea} oS) D σ H from q)
 rw[e] at hu
 have om:u= .ref C:=hu
 subst om
 have hl:X.N.length=n:=by rw[G.N];exact hn.1.1
 have q':rC X.K C i X.N.length (fun E=>ar {Γ with E:=E} rb) (fun ea=>ar {Γ with E:=E0,hv:=some ea} oS) D σ H:=by rw[G.K,hl];exact q
 exact MI (tb:=fun E=>ar {Γ with E:=E} rb) (th:=fun ea=>ar {Γ with E:=E0,hv:=some ea} oS) G.fI G.dP G.kA (G.gl h.1.2) h.2 hm (by rw[G.N];exact G.nd) (by rw[G.N];exact hn.1.2) (by rw[G.sc];exact hn.2)
  (fun pn xe E ho hp=>hb (G.N5 pn xe E ho hp)) (fun ea pn=>hs (G.held ea pn)) pins s σ H D I q'
end
section
variable {P:Program} {w:World} {K:Frag} {mg:Str→Option Value} {base:Heap}
def bU(P:Program)(w:World)(K:Frag)(mg:Str→Option Value)(base:Heap)(k:Nat)(x:Str)(sp:Sp):Prop:=
 ∃f fd ps,bS P w K mg base (dj P w) k f fd ps sp∧mg x=some (.ref f)∧keepIn K (.ref f)=true∧Binds K fd ps []
theorem bU.mono{j k:Nat}{x:Str}{sp:Sp}(h:bU P w K mg base j x sp)(hk:j≤k):bU P w K mg base k x sp:=by
 obtain⟨f,fd,ps,F,r⟩:=h
 exact⟨f,fd,ps,F.mono hk,r⟩
def jy(tab:List (Str×Sp))(j:Nat):Sp:=match tab[j]? with
 | some p=>p.2
 | none=>fun _ _ _ _=>False
def kN(tab:List (Str×V))(j:Nat):V:=match tab[j]? with
 | some p=>p.2
 | none=> .ai
structure dG (mg:Str→Option Value) (p:Str×V):Prop where
 ex: ∃u,mg p.1=some u∧RelV p.2 u
def h_(tab:List (Str×Addr×Sp))(j:Nat):Addr×Sp:=match tab[j]? with
 | some p=>p.2
 | none=> (0,fun _ _ _ _=>False)
def r9(tab:List (Str×Addr))(j:Nat):Addr:=match tab[j]? with
 | some p=>p.2
 | none=>0
abbrev aW(K:Frag)(tab:List (Str×Sp))(gt:List (Str×V))(dk:List (Addr×List (Key×V)):=[])(mt kt:List (Str×Addr×Sp):=[])(et:List (Str×Addr):=[])(ht:List (Str×Sp):=[])(E:XK:=E0):av:=
 {K:=K,fs:=jy tab,gv:=kN gt,E:=E,sd:=fun p aH=> (p,aH)∈dk,ms:=h_ mt,kt:=h_ kt,ex:=r9 et,hs:=jy ht,hv:=none}
def N7(P:Program)(w:World)(K:Frag)(mg:Str→Option Value)(base:Heap)(k:Nat)(p:Str×Addr×Sp):Prop:=
 jZ K p.2.1∧ ∃f fd ps,Meth K p.2.1 p.1 f∧bS P w K mg base (dj P w) k f fd ps p.2.2∧Binds K fd ps []
def N8(P:Program)(w:World)(K:Frag)(mg:Str→Option Value)(base:Heap)(k:Nat)(p:Str×Addr×Sp):Prop:=
 ∃j f fd ps,j+1≤k∧Mk K p.2.1 f∧bS P w K mg base (dj P w) j f fd ps p.2.2∧mg p.1=some (.ref p.2.1)∧Binds K fd ps []
def N9(P:Program)(w:World)(K:Frag)(q:Addr×List (Key×V)):Prop:= ∀h:Heap,K.In h→ ∃vs,KV q.2 vs∧h.DictOf (gR P w) q.1 vs
abbrev aN(N:List Str)(sc:Scope)(tab:List Str)(gt:List Str)(bl:List Str)(mn kn:List Str:=[])(en hn:List Str:=[])(md:Nat:=0):bP:={N:=N,sc:=sc,fn:=tab,gn:=gt,bl:=bl,mn:=mn,kn:=kn,en:=en,hn:=hn,md:=md}
def vL(mg:Str→Option Value)(base:Heap)(p:Str×Addr):Prop:= ∃bm B newId mR,OwnCls p.1 p.2 bm newId mg base∧ExcBaseFacts B newId mR bm
def mZ(P:Program)(w:World)(K:Frag)(mg:Str→Option Value)(base:Heap)(k:Nat)(x:Str)(sp:Sp):Prop:=
 ∃f fd ps,ko P w K mg base k f fd ps sp∧mg x=some (.ref f)∧keepIn K (.ref f)=true∧Binds K fd ps []
theorem mZ.mono{P:Program}{w:World}{K:Frag}{mg:Str→Option Value}{base:Heap}{j k:Nat}{x:Str}{sp:Sp}(h:mZ P w K mg base j x sp)(hk:j≤k):mZ P w K mg base k x sp:=by
 obtain⟨f,fd,ps,F,r⟩:=h
 exact⟨f,fd,ps,F.mono hk,r⟩
theorem b_{x qual:Str}{st:Stmt}{f:Addr}{fd:FuncData}{N ps:List Str}{k:Nat}{sp:Sp}(F:ji K x qual st f fd)(S:bO N ps (az st))
  (tab:List (Str×Sp)) (gt:List (Str×V)) (bl:List Str) (mt kt:List (Str×Addr×Sp)) (et:List (Str×Addr)) (ht:List (Str×Sp)) (body:List RS)
  (hm: ∀{CX:aE} {Γ:av} {X:Cx},aJ CX (aN N (az st) (tab.map (·.1)) (gt.map (·.1)) bl (mt.map (·.1)) (kt.map (·.1)) (et.map (·.1)) (ht.map (·.1))) Γ X→a_ X (aq st) (ar Γ body))
  (N_: ∀p∈tab,bU P w K mg base k p.1 p.2) (vM: ∀p∈gt,dG mg p) (vN: ∀y∈bl,mg y=none) (dk:List (Addr×List (Key×V))) (Oa: ∀q∈dk,N9 P w K q)
  (Ob: ∀p∈mt,N7 P w K mg base k p) (Oc: ∀p∈kt,N8 P w K mg base k p) (het: ∀p∈et,vL mg base p) (Od: ∀p∈ht,mZ P w K mg base k p.1 p.2)
  (len: ∀vs H Q E,sp vs H Q E→vs.length=ps.length)
  (vO: ∀vs H Q E,sp vs H Q E→ar (aW K tab gt dk mt kt et ht E) body {nx:=fun _ H'=>Q .ai H',rt:=Q} (start N vs) H):bS P w K mg base (dj P w) (k+1) f fd ps sp:=by
 obtain⟨oc,od,kV,doc,pm,an,bj,ct,gk,rfl,lk,e8⟩:=F.ex
 refine Jn lk e8 S len fun A outer s H vs Q E hr e9=> ⟨_,hm (CX:=dj P w) (Γ:=aW K tab gt dk mt kt et ht E) ?_,vO vs H Q E e9⟩
 refine {N:=rfl,sc:=rfl,K:=rfl,calm:=fun _=>rfl,units:=hr.units,fns:=fun _ j y hj=> ?_,hU:=fun j y hj=> ?_,cI:=fun y hy=> ?_,pass:=MD,hV:=fun _ _ _ _ _ h=>rM h,iN:=fun p aH h=>Oa _ h,kq:=fun _ j y hj=> ?_,kr:=fun _ j y hj=> ?_,mW:=fun j y hj=> ?_,iO:=fun j y hj=> ?_,ju:=fun _ h=> (nomatch h),ku:=fun h=> (nomatch h),nd:=S.nd,gA:=fun _=>rfl,own:=PassesOwn.leaving,kz:=S.kind,rs:=fun _ _ _=>ME,fI:=rfl,dP:=rfl,kA:=rfl,kD:=rfl}
 ·have bf:(tab.map (·.1))[j]?=some y:=hj
  rw[List.getElem?_map] at bf
  cases q:tab[j]? with
  | none=>rw[q] at bf;cases bf
  | some p=>
   rw[q] at bf
   have e:p.1=y:=Option.some.inj bf
   obtain⟨f',kO,kP,F',m',k',b'⟩:=N_ p (List.mem_of_getElem? q)
   have es:jy tab j=p.2:=by unfold jy;rw[q]
   show Dk (dj P w) _ y (jy tab j)
   rw[es,←e]
   exact⟨k,f',kO,kP,F',hr,m',k',b'⟩
 ·have bf:(gt.map (·.1))[j]?=some y:=hj
  rw[List.getElem?_map] at bf
  cases q:gt[j]? with
  | none=>rw[q] at bf;cases bf
  | some p=>
   rw[q] at bf
   have e:p.1=y:=Option.some.inj bf
   obtain⟨u,h1,h2⟩:=(vM p (List.mem_of_getElem? q)).ex
   have es:kN gt j=p.2:=by unfold kN;rw[q]
   show ∃u,mg y=some u∧RelV (kN gt j) u
   rw[es,←e]
   exact⟨u,h1,h2⟩
 ·exact vN y (by simpa using hy)
 ·have bf:(mt.map (·.1))[j]?=some y:=hj
  rw[List.getElem?_map] at bf
  cases q:mt[j]? with
  | none=>rw[q] at bf;cases bf
  | some p=>
   rw[q] at bf
   have e:p.1=y:=Option.some.inj bf
   obtain⟨c,f',kO,kP,m',F',b'⟩:=Ob p (List.mem_of_getElem? q)
   have es:h_ mt j=p.2:=by unfold h_;rw[q]
   show Dl (dj P w) _ (h_ mt j).1 y (h_ mt j).2
   rw[es,←e]
   exact⟨c,k,f',kO,kP,m',F',hr,b'⟩
 ·have bf:(kt.map (·.1))[j]?=some y:=hj
  rw[List.getElem?_map] at bf
  cases q:kt[j]? with
  | none=>rw[q] at bf;cases bf
  | some p=>
   rw[q] at bf
   have e:p.1=y:=Option.some.inj bf
   obtain⟨i,f',kO,kP,hi,m',F',g',b'⟩:=Oc p (List.mem_of_getElem? q)
   have es:h_ kt j=p.2:=by unfold h_;rw[q]
   show Dm (dj P w) _ y (h_ kt j).1 (h_ kt j).2
   rw[es,←e]
   exact⟨i,f',kO,kP,m',F',hr.mono hi,g',b'⟩
 ·have bf:(et.map (·.1))[j]?=some y:=hj
  rw[List.getElem?_map] at bf
  cases q:et[j]? with
  | none=>rw[q] at bf;cases bf
  | some p=>
   rw[q] at bf
   have e:p.1=y:=Option.some.inj bf
   have es:r9 et j=p.2:=by unfold r9;rw[q]
   show Dq _ y (r9 et j)
   rw[es,←e]
   exact het p (List.mem_of_getElem? q)
 ·have bf:(ht.map (·.1))[j]?=some y:=hj
  rw[List.getElem?_map] at bf
  cases q:ht[j]? with
  | none=>rw[q] at bf;cases bf
  | some p=>
   rw[q] at bf
   have e:p.1=y:=Option.some.inj bf
   obtain⟨f',kO,kP,F',m',k',b'⟩:=Od p (List.mem_of_getElem? q)
   have es:jy ht j=p.2:=by unfold jy;rw[q]
   show Dp _ y (jy ht j)
   rw[es,←e]
   exact⟨k,f',kO,kP,F',hr.h,m',k',b'⟩
section
variable {x qual:Str} {st:Stmt} {f C:Addr} {fd:FuncData} {N ps:List Str} {k:Nat} {sp:Sp}
end
end
section
variable {P:Program} {w:World} {K:Frag} {mg:Str→Option Value} {base:Heap} {x qual:Str} {st:Stmt} {f:Addr} {fd:FuncData} {N ps:List Str} {k:Nat} {sp:Sp}
theorem Oe(F:ji K x qual st f fd)(S:bO N ps (az st))(iH:mg x=some (.ref f))(hb:Binds K fd ps [])
  (gt:List (Str×V)) (bl:List Str) (body:List RS)
  (hm: ∀{CX:aE} {Γ:av} {X:Cx},aJ CX (aN N (az st) [] (gt.map (·.1)) bl (md:=1)) Γ X→a_ X (aq st) (ar Γ body))
  (vM: ∀p∈gt,dG mg p) (vN: ∀y∈bl,mg y=none) (len: ∀vs H Q E,sp vs H Q E→vs.length=ps.length)
  (vO: ∀vs H Q,sp vs H Q E0→ar (aW K [] gt) body {nx:=fun _ H'=>Q .ai H',rt:=Q} (start N vs) H):mZ P w K mg base (k+1) x sp:=by
 obtain⟨oc,od,kV,doc,pm,an,bj,ct,gk,rfl,lk,e8⟩:=F.ex
 refine⟨f,_,ps,M6 (CX:=dj P w) lk e8 S len fun A outer s H vs Q hr hh e9=> ⟨_,hm (CX:=dj P w) (Γ:=aW K [] gt) ?_,vO vs H Q e9⟩,iH,F.kp,hb⟩
 refine {N:=rfl,sc:=rfl,K:=rfl,calm:=fun h=> (nomatch h),units:=hr.units,fns:=fun h=> (nomatch h),hU:=fun j y hj=> ?_,cI:=fun y hy=> ?_,pass:=fun _ _ _ _ _ _ _ h=> (rM h).elim,hV:=fun _ _ _ _ _ h=>rM h,iN:=fun p aH h=> (nomatch h),kq:=fun h=> (nomatch h),kr:=fun h=> (nomatch h),mW:=fun j y hj=> (nomatch hj),iO:=fun j y hj=> (nomatch hj),ju:=fun _ h=> (nomatch h),ku:=fun _=>M8 hh,nd:=S.nd,gA:=fun _=>rfl,own:=PassesOwn.never,kz:=S.kind,rs:=fun _ _ hj=> (nomatch hj),fI:=rfl,dP:=rfl,kA:=rfl,kD:=rfl}
 ·have bf:(gt.map (·.1))[j]?=some y:=hj
  rw[List.getElem?_map] at bf
  cases q:gt[j]? with
  | none=>rw[q] at bf;cases bf
  | some p=>
   rw[q] at bf
   have e:p.1=y:=Option.some.inj bf
   obtain⟨u,h1,h2⟩:=(vM p (List.mem_of_getElem? q)).ex
   have es:kN gt j=p.2:=by unfold kN;rw[q]
   show ∃u,mg y=some u∧RelV (kN gt j) u
   rw[es,←e]
   exact⟨u,h1,h2⟩
 ·exact vN y (by simpa using hy)
theorem bS.top{k:Nat}(F:bS P w K mg base (dj P w) k f fd ps sp):bS P w K mg base qY k f fd ps (fun vs H Q _=>sp vs H Q E0):=
 ⟨fun vs H Q E h=>F.len vs H Q E0 h,fun A outer s H args us vs Q E hr e0 hb hv hs=>codeAny_mono (F.run A outer s H args us vs Q E0 hr e0 hb hv hs) fun r s' h=>by
  cases r with
  | error e=>exact(rM h).elim
  | ok fl=>cases fl<;>exact h⟩
end
section
variable {Γ:av} {D:Ends} {σ:St} {H:Hp} {r:List RS} {Q:VK}
theorem Of{i:Nat}{e:RE}(h:aa Γ e σ H fun x H1=>ar Γ r D (σ.set i (some x)) H1):ar Γ (.asg i e::r) D σ H:=h
theorem Og{i:Nat}{e:RE}(h:aa Γ e σ H fun x H1=>ar Γ r D (σ.set i (some x)) H1):ar Γ (.rE i e::r) D σ H:=h
theorem Oh{c:RE}{t e:List RS}(h:aS Γ c σ H fun b H1=>if b=true then ar Γ t {D with nx:=ar Γ r D} σ H1 else ar Γ e {D with nx:=ar Γ r D} σ H1):ar Γ (.ite c t e::r) D σ H:=h
end
end L2
namespace L2.B
open PySem PySem.Spec PyProof.Rows
def vP:List Str:=["thing"]
def DQ:List Str:=["thing"]
noncomputable def vQ:List RS:=
 [.ret (.and [(.ej .int (.v 0)),(.not (.ej .bool (.v 0)))])]
def Oi:List Str:=[]
def Oj:List Str:=[]
def DR:List Str:=["isinstance","int","bool"]
def Ol:List Str:=[]
def Om:List Str:=[]
def Oo:List Str:=[]
def Oq:List Str:=[]
def vR:List Str:=["_law_script","_law_k"]
def DS:List Str:=["_law_script","_law_k"]
noncomputable def vS:List RS:=
 [.ite (.cmp .Lt (.v 1) (.blt .len [(.v 0)])) [.ret (.ix (.v 0) (.v 1))] [],
 .ret (.c (.int 0))]
def Ot:List Str:=[]
def Ou:List Str:=[]
def DT:List Str:=["len"]
def Ov:List Str:=[]
def Ow:List Str:=[]
def Ox:List Str:=[]
def Oy:List Str:=[]
def vT:List Str:=["_law_cell","_law_k","_law_number"]
def DU:List Str:=["_law_cell","_law_k"]
noncomputable def vU:List RS:=
 [.asg 2 (.bin .Mod (.bin .Add (.bin .Add (.bin .Mult (.v 0) (.c (.int 48271))) (.bin .Mult (.c (.int 7919)) (.v 1))) (.c (.int 11))) (.c (.int 1000003))),
 .ret (.bin .Mod (.bin .Mult (.bin .Mod (.bin .Mult (.v 2) (.v 2)) (.c (.int 1000003))) (.v 2)) (.c (.int 1000003)))]
def Oz:List Str:=[]
def OA:List Str:=[]
def DV:List Str:=[]
def OB:List Str:=[]
def OC:List Str:=[]
def OD:List Str:=[]
def OE:List Str:=[]
def vV:List Str:=["_law_cell"]
def DW:List Str:=["_law_cell"]
noncomputable def vW:List RS:=
 [.ite (.cmp .Eq (.bin .Mod (.v 0) (.c (.int 8))) (.c (.int 1))) [.ret (.bin .Mod (.bin .FloorDiv (.v 0) (.c (.int 8))) (.c (.int 401)))] [],
 .ret (.bin .Mod (.bin .FloorDiv (.v 0) (.c (.int 8))) (.c (.int 25)))]
def OF:List Str:=[]
def OG:List Str:=[]
def DX:List Str:=[]
def OH:List Str:=[]
def OI:List Str:=[]
def OJ:List Str:=[]
def OK:List Str:=[]
def fU:List Str:=["_law_e","_law_some","_law_found_here"]
def DY:List Str:=["_law_e"]
noncomputable def cZ:List RS:=
 [.asg 1 (.lst [(.tup [(.c (.str "text")),(.cf (.v 0) (.g 0))]),(.tup [(.c (.str "change")),(.cf (.v 0) (.g 1))]),(.tup [(.c (.str "fit")),(.cf (.v 0) (.g 2))])]),
 .asg 1 (.bin .Add (.v 1) (.lst [(.tup [(.c (.str "place")),(.cf (.v 0) (.g 3))]),(.tup [(.c (.str "side")),(.cf (.v 0) (.g 4))]),(.tup [(.c (.str "mark")),(.cf (.v 0) (.g 5))])])),
 .asg 1 (.bin .Add (.v 1) (.lst [(.tup [(.c (.str "node")),(.cf (.v 0) (.g 6))]),(.tup [(.c (.str "cursor")),(.cf (.v 0) (.g 7))])])),
 .asg 1 (.bin .Add (.v 1) (.lst [(.tup [(.c (.str "deed")),(.cf (.v 0) (.g 8))]),(.tup [(.c (.str "letter")),(.cf (.v 0) (.g 9))])])),
 .asg 1 (.bin .Add (.v 1) (.lst [(.tup [(.c (.str "gone")),(.cf (.v 0) (.g 10))]),(.tup [(.c (.str "hand")),(.cf (.v 0) (.g 11))]),(.tup [(.c (.str "note")),(.cf (.v 0) (.g 12))])])),
 .rE 2 (.comp (some 2) [] .list [(.v 1)] (some (.v 1)) (.v 0)),
 .ite (.or [(.not (.cf (.v 0) (.g 13))),(.not (.cf (.v 0) (.c (.ty "ValueError"))))]) [.drop (.cc .append (.v 2) [(.c (.str "bare"))])] [],
 .ret (.cc .join (.c (.str "/")) [(.v 2)])]
def iQ:List Str:=[]
def iR:List Str:=["BadText","BadChange","BadFit","NoPlace","BadSide","NoMark","NoNode","NoCursor","BadDeed","BadLetter","NoLetter","NoHand","NoNote","InkError"]
def ia:List Str:=["isinstance","ValueError"]
def iS:List Str:=[]
def iU:List Str:=[]
def iV:List Str:=[]
def iW:List Str:=[]
def vX:List Str:=["thing","least","most"]
def DZ:List Str:=["thing","least","most"]
noncomputable def vY:List RS:=
 [.ret (.and [(.call 0 [(.v 0)]),(.hJ .LtE .LtE (.v 1) (.v 0) (.v 2))])]
def OL:List Str:=["is_whole"]
def OM:List Str:=[]
def D0:List Str:=[]
def ON:List Str:=[]
def OO:List Str:=[]
def OP:List Str:=[]
def OQ:List Str:=[]
def r_:List Str:=["_law_found_here"]
noncomputable def vZ:List RS:=
 [.ret (.and [(.ej .int (.v 0)),(.not (.ej .bool (.v 0)))])]
def OR:List Str:=[]
def OS:List Str:=[]
def D1:List Str:=["isinstance","int","bool"]
def OT:List Str:=[]
def OU:List Str:=[]
def OV:List Str:=[]
def OW:List Str:=[]
end L2.B
namespace L2
open PySem PySem.Spec PyProof.Rows
section
variable {X:Cx}
def se(K:Frag):List V→Hp→VK→Prop:=fun xs H Q=> ∃(p:Addr) (bs:List Bool),xs=[.ref p]∧ao K H p (bs.map V.bl)∧Q (.bl (bs.all id)) H
theorem v5: ∀{bs:List Bool} {us:List Value},Vals (bs.map V.bl) us→us=bs.map Value.bool
 | [],_, .nil=>rfl
 | b::r,_, .cons e t=>by
  have e':_=Value.bool b:=e
  rw[List.map_cons,←v5 t,e']
theorem all_range(bs:List Bool):((List.range bs.length).all fun i=> (bs[i]?).getD true)=bs.all id:=by
 rw[Bool.eq_iff_iff,List.all_eq_true,List.all_eq_true]
 constructor
 ·intro h b hb
  obtain⟨i,hi,rfl⟩:=List.getElem_of_mem hb
  have:=h i (List.mem_range.mpr hi)
  simpa[hi] using this
 ·intro h i hi
  have hi:=List.mem_range.mp hi
  have:=h _ (List.getElem_mem hi)
  simpa[hi] using this
theorem OX(hc:X.calm=true):bA X (.builtin "all") (se X.K):=by
 intro pins s σ H xs us Q I r h
 obtain⟨p,bs,rfl,hq,q⟩:=h
 obtain⟨u,rfl,ru⟩:=vals1 r
 cases ru
 obtain⟨its,rv,pl,hz⟩:=I.list hq
 have e:=v5 rv
 subst e
 have aQ: @LT.lt Nat _ p s.heap.objs.size:=by obtain⟨_,e,_⟩:=pl.isList;exact Heap.lt_size e
 refine call_all_walk (wpAny_pyIter_list pl.isList ?_)
 refine⟨s.heap.objs.size,[s.heap.objs.size,p],[s.heap.objs.size],(bs.map Value.bool).toArray.size,_,_,fun i=> (bs[i]?).getD true,rfl,
  Walks.list (A:=X.A.in1) (I.ok.hd hc) _ p (Nat.ne_of_lt aQ) _,⟨⟨_,Heap.get?_push_size _ rfl,rfl,rfl⟩,pl.isList.push _⟩,fun i v s' Q' E' hP hQ=> ?_,fun h' tk hk=> ?_⟩
 ·have gC:(bs.map Value.bool)[i]?=some v:=by simpa using hP
  rw[List.getElem?_map] at gC
  cases eb:bs[i]? with
  | none=>rw[eb] at gC;cases gC
  | some b=>
   rw[eb] at gC
   cases gC
   have oT:Q' ((bs[i]?).getD true) s':=hQ
   rw[eb] at oT
   exact wpAny_truthy_bool oT
 ·have e:((List.range (bs.map Value.bool).toArray.size).all fun i=> (bs[i]?).getD true)=bs.all id:=by
   have e0:(bs.map Value.bool).toArray.size=bs.length:=by simp
   rw[e0];exact all_range bs
  rw[e]
  refine⟨.bl _,H,I.kept (t':=tk) fun b o e=> ?_,rfl,q⟩
  exact hk b o (fun hm=>by rw[List.mem_singleton.mp hm] at e;exact Nat.lt_irrefl _ (Heap.lt_size e)) (Heap.get?_push_of_some _ e)
theorem boot_all:bootBuiltins "all"=some (.builtin "all"):=by decide+kernel
end
def v7:Frag→TA→TE:=fun K t=>cG (se K) t
section
variable {CX:aE} {S:bP} {Γ:av} {X:Cx} {e e2 a b c d:Expr} {es:List Expr} {x:Str} {p q pos:Pos} {r ra rb rc:RE} {rs:List RE} {i j:Nat}
theorem OY(G:Good CX S Γ X)(hA:PA X (e::es) (aO Γ (r::rs)))(h:kB S x "all"=true:=by kernel_rfl)(hn:dn (e::es)=true:=by kernel_rfl)(hq:S.md=0:=by rfl):PE X (.Call (.Name x p) (e::es) [] pos) (aa Γ (.xt v7 (r::rs))):=by
 simp only[kB,Bool.and_eq_true,decide_eq_true_eq] at h
 obtain⟨⟨rfl,h2⟩,h3⟩:=h
 show PE X _ (cG (se Γ.K) (aO Γ (r::rs)))
 rw[←G.K]
 exact jf (OX (G.calm hq)) (G.gl h2) (G.cI _ h3) boot_all hA (by decide) (by decide) (cn (bT hn).1) (fh _ _ es (bT hn).2)
theorem D3{T:Frag→TA→TE}(G:Good CX S Γ X)(h:PE X (.Call a es [] p) (aa Γ (.xt T rs))):PT X (.Call a es [] p) (aS Γ (.xt T rs)):=by
 show PT X _ (dv Γ.K (aa Γ (.xt T rs)))
 rw[←G.K]
 exact oP h fun _=>rfl
end
section
variable {CX:aE} {S:bP} {Γ:av} {X:Cx} {a b:Expr} {x:Str} {p q pos:Pos} {ra rb:RE}
end
end L2
namespace L2.B
open PySem PySem.Spec PyProof.Rows
end L2.B
namespace L2
open PySem PySem.Spec PyProof.Rows
section
variable {X:Cx}
end
section
variable {CX:aE} {S:bP} {Γ:av} {X:Cx} {e e2 a b c d:Expr} {es:List Expr} {x:Str} {p q pos:Pos} {r ra rb rc:RE} {rs:List RE} {i j:Nat}
end
section
variable {X:Cx}
def sf(K:Frag):List V→Hp→VK→Prop:=fun xs H Q=> ∃(p:Addr) (bs:List Bool),xs=[.ref p]∧ao K H p (bs.map V.bl)∧Q (.bl (bs.any id)) H
theorem any_range(bs:List Bool):((List.range bs.length).any fun i=> (bs[i]?).getD false)=bs.any id:=by
 rw[Bool.eq_iff_iff,List.any_eq_true,List.any_eq_true]
 constructor
 ·rintro⟨i,hi,h⟩
  have hi:=List.mem_range.mp hi
  exact⟨_,List.getElem_mem hi,by simpa[hi] using h⟩
 ·rintro⟨b,hb,h⟩
  obtain⟨i,hi,rfl⟩:=List.getElem_of_mem hb
  exact⟨i,List.mem_range.mpr hi,by simpa[hi] using h⟩
theorem OZ(hc:X.calm=true):bA X (.builtin "any") (sf X.K):=by
 intro pins s σ H xs us Q I r h
 obtain⟨p,bs,rfl,hq,q⟩:=h
 obtain⟨u,rfl,ru⟩:=vals1 r
 cases ru
 obtain⟨its,rv,pl,hz⟩:=I.list hq
 have e:=v5 rv
 subst e
 have aQ: @LT.lt Nat _ p s.heap.objs.size:=by obtain⟨_,e,_⟩:=pl.isList;exact Heap.lt_size e
 refine call_any_walk (wpAny_pyIter_list pl.isList ?_)
 refine⟨s.heap.objs.size,[s.heap.objs.size,p],[s.heap.objs.size],(bs.map Value.bool).toArray.size,_,_,fun i=> (bs[i]?).getD false,rfl,
  Walks.list (A:=X.A.in1) (I.ok.hd hc) _ p (Nat.ne_of_lt aQ) _,⟨⟨_,Heap.get?_push_size _ rfl,rfl,rfl⟩,pl.isList.push _⟩,fun i v s' Q' E' hP hQ=> ?_,fun h' tk hk=> ?_⟩
 ·have gC:(bs.map Value.bool)[i]?=some v:=by simpa using hP
  rw[List.getElem?_map] at gC
  cases eb:bs[i]? with
  | none=>rw[eb] at gC;cases gC
  | some b=>
   rw[eb] at gC
   cases gC
   have oT:Q' ((bs[i]?).getD false) s':=hQ
   rw[eb] at oT
   exact wpAny_truthy_bool oT
 ·have e:((List.range (bs.map Value.bool).toArray.size).any fun i=> (bs[i]?).getD false)=bs.any id:=by
   have e0:(bs.map Value.bool).toArray.size=bs.length:=by simp
   rw[e0];exact any_range bs
  rw[e]
  refine⟨.bl _,H,I.kept (t':=tk) fun b o e=> ?_,rfl,q⟩
  exact hk b o (fun hm=>by rw[List.mem_singleton.mp hm] at e;exact Nat.lt_irrefl _ (Heap.lt_size e)) (Heap.get?_push_of_some _ e)
theorem O0:bootBuiltins "any"=some (.builtin "any"):=by decide+kernel
end
def v8:Frag→TA→TE:=fun K t=>cG (sf K) t
section
variable {CX:aE} {S:bP} {Γ:av} {X:Cx} {e:Expr} {es:List Expr} {x:Str} {p pos:Pos} {r:RE} {rs:List RE}
theorem O1(G:Good CX S Γ X)(hA:PA X (e::es) (aO Γ (r::rs)))(h:kB S x "any"=true:=by kernel_rfl)(hn:dn (e::es)=true:=by kernel_rfl)(hq:S.md=0:=by rfl):PE X (.Call (.Name x p) (e::es) [] pos) (aa Γ (.xt v8 (r::rs))):=by
 simp only[kB,Bool.and_eq_true,decide_eq_true_eq] at h
 obtain⟨⟨rfl,h2⟩,h3⟩:=h
 show PE X _ (cG (sf Γ.K) (aO Γ (r::rs)))
 rw[←G.K]
 exact jf (OZ (G.calm hq)) (G.gl h2) (G.cI _ h3) O0 hA (by decide) (by decide) (cn (bT hn).1) (fh _ _ es (bT hn).2)
end
end L2
namespace L2.B
open PySem PySem.Spec PyProof.Rows
def v9:List Str:=["cursor"]
def D4:List Str:=["cursor"]
noncomputable def v_:List RS:=
 [.ret (.blt .min [(.ix (.v 0) (.c (.int 0))),(.ix (.v 0) (.c (.int 1)))])]
def O2:List Str:=[]
def O3:List Str:=[]
def D5:List Str:=["min"]
def O4:List Str:=[]
def O5:List Str:=[]
def O6:List Str:=[]
def O7:List Str:=[]
def wa:List Str:=["cursor"]
def D6:List Str:=["cursor"]
noncomputable def wb:List RS:=
 [.ret (.blt .max [(.ix (.v 0) (.c (.int 0))),(.ix (.v 0) (.c (.int 1)))])]
def O8:List Str:=[]
def O9:List Str:=[]
def D7:List Str:=["max"]
def O_:List Str:=[]
def Pa:List Str:=[]
def Pb:List Str:=[]
def Pc:List Str:=[]
def wc:List Str:=["cursor"]
def D8:List Str:=["cursor"]
noncomputable def wd:List RS:=
 [.ret (.cmp .Eq (.ix (.v 0) (.c (.int 0))) (.ix (.v 0) (.c (.int 1))))]
def Pd:List Str:=[]
def Pe:List Str:=[]
def D9:List Str:=[]
def Pf:List Str:=[]
def Pg:List Str:=[]
def Ph:List Str:=[]
def Pj:List Str:=[]
def sg:List Str:=["thing"]
def D_:List Str:=["thing"]
noncomputable def oU:List RS:=
 [.ret (.or [(.cmp .Is (.v 0) (.c .ai)),(.and [(.call 0 [(.v 0)]),(.cmp .GtE (.v 0) (.c (.int 0)))])])]
def Pk:List Str:=["is_whole"]
def Pl:List Str:=[]
def we:List Str:=[]
def Pn:List Str:=[]
def Po:List Str:=[]
def Pp:List Str:=[]
def Pq:List Str:=[]
def sh:List Str:=["thing","size"]
def Ea:List Str:=["thing","size"]
noncomputable def oV:List RS:=
 [.ite (.or [(.not (.ej .tuple (.v 0))),(.cmp .NotEq (.blt .len [(.v 0)]) (.c (.int 3)))]) [.ret (.c (.bl false))] [],
 .ret (.and [(.call 0 [(.ix (.v 0) (.c (.int 0))),(.c (.int 0)),(.v 1)]),(.call 0 [(.ix (.v 0) (.c (.int 1))),(.c (.int 0)),(.v 1)]),(.call 1 [(.ix (.v 0) (.c (.int 2)))])])]
def Pr:List Str:=["is_between","is_goal"]
def Pu:List Str:=[]
def wg:List Str:=["isinstance","tuple","len"]
def Pw:List Str:=[]
def Px:List Str:=[]
def Py:List Str:=[]
def Pz:List Str:=[]
def wj:List Str:=["begin","end","cursor"]
def Eb:List Str:=["begin","end","cursor"]
noncomputable def wk:List RS:=
 [.ite (.cmp .Eq (.call 0 [(.v 2)]) (.v 1)) [.ret (.or [(.cmp .Eq (.v 0) (.v 1)),(.call 1 [(.v 2)])])] [],
 .ret (.cmp .Lt (.call 0 [(.v 2)]) (.v 1))]
def PB:List Str:=["begin_of","is_empty"]
def PC:List Str:=[]
def Ec:List Str:=[]
def PD:List Str:=[]
def PF:List Str:=[]
def PH:List Str:=[]
def PJ:List Str:=[]
def si:List Str:=["size","cursors"]
def Ed:List Str:=["size","cursors"]
noncomputable def oW:List RS:=
 [.ite (.or [(.not (.ej .list (.v 1))),(.not (.hJ .LtE .LtE (.c (.int 1)) (.blt .len [(.v 1)]) (.g 0)))]) [.ow 0 [(.c (.str "cursors are a list of 1 to 40"))]] [],
 .ite (.not (.xt v7 [(.comp none [("size",0)] .list [(.v 1)] none (.call 0 [(.v 0),(.v 1)]))])) [.ow 0 [(.c (.str "a cursor is a tuple of two places of the text and a goal"))]] [],
 .ite (.xt v8 [(.comp (some 2) [] .zip [(.v 1),(.sl (.v 1) (some (.c (.int 1))) none)] none (.call 1 [(.call 2 [(.v 0)]),(.call 3 [(.v 0)]),(.v 1)]))]) [.ow 0 [(.c (.str "cursors rise by their begins, and no two neighbours meet"))]] []]
def PK:List Str:=["is_cursor","meet","begin_of","end_of"]
def PL:List Str:=["MOST_CURSORS"]
def wm:List Str:=["isinstance","list","len","all","any","zip"]
def PM:List Str:=[]
def PN:List Str:=[]
def PQ:List Str:=["NoCursor"]
def PR:List Str:=[]
end L2.B
namespace L2.eQ
open PySem PySem.W PyProof.Rows
structure Ord (n:Nat) (lt:Nat→Nat→Bool):Prop where
 sj: ∀i j,i<n→j<n→i≠j→lt i j=true∨lt j i=true
 PU: ∀i j,i<n→j<n→lt i j=true→lt j i=false
 tr: ∀i j k,i<n→j<n→k<n→lt i j=true→lt j k=true→lt i k=true
def at'(p:Array Nat)(i:Nat):Nat:=p.getD i 0
structure Pm (n:Nat) (p:Array Nat):Prop where
 sz:p.size=n
 pm:p.toList.Perm (List.range n)
theorem oX{p:Array Nat}{i:Nat}(h:i<p.size):at' p i=p[i]:=by simp[at',Array.getD,h]
theorem oY{p q:Array Nat}{i j:Nat}(h:p[i]?=q[j]?):at' p i=at' q j:=by
 unfold at'
 rw[Array.getD_eq_getD_getElem?,Array.getD_eq_getD_getElem?,h]
section
variable {n:Nat} {lt:Nat→Nat→Bool} {p:Array Nat}
theorem Pm.inR(P:Pm n p){i:Nat}(h:i<n):at' p i<n:=by
 have hs:i<p.size:=by rw[P.sz];exact h
 rw[oX hs]
 have hm:p[i]∈p.toList:=by simp
 exact List.mem_range.mp (P.pm.subset hm)
theorem Pm.ne(P:Pm n p){i j:Nat}(hi:i<n)(hj:j<n)(h:i≠j):at' p i≠at' p j:=by
 have hs:i<p.size:=by rw[P.sz];exact hi
 have sk:j<p.size:=by rw[P.sz];exact hj
 rw[oX hs,oX sk]
 have nd:p.toList.Nodup:=P.pm.nodup_iff.mpr List.nodup_range
 intro e
 have e2:p.toList[i]'(by simpa using hs)=p.toList[j]'(by simpa using sk):=by simpa using e
 exact h ((List.getElem_inj nd).mp e2)
theorem Pm.perm(P:Pm n p){q:Array Nat}(h:q.Perm p):Pm n q:=⟨by rw[h.size_eq,P.sz],h.toList.trans P.pm⟩
def Up(lt:Nat→Nat→Bool)(p:Array Nat)(k:Nat):Prop:= ∀i j,i<j→j<k→lt (at' p i) (at' p j)=true
def Dn(lt:Nat→Nat→Bool)(p:Array Nat)(k:Nat):Prop:= ∀i j,i<j→j<k→lt (at' p j) (at' p i)=true
theorem Up.snoc(O:Ord n lt)(P:Pm n p){k:Nat}(U:Up lt p k)(hk:k<n)(h1:1≤k)(h:lt (at' p k) (at' p (k - 1))=false):Up lt p (k+1):=by
 intro i j gE hj
 by_cases e:j=k
 ·subst e
  have l1:lt (at' p (j - 1)) (at' p j)=true:=by
   rcases O.sj _ _ (P.inR (i:=j - 1) (by omega)) (P.inR hk) (P.ne (by omega) hk (by omega)) with z | z
   ·exact z
   ·rw[z] at h;cases h
  by_cases e2:i=j - 1
  ·rw[e2];exact l1
  ·exact O.tr _ _ _ (P.inR (by omega)) (P.inR (by omega)) (P.inR hk) (U i (j - 1) (by omega) (by omega)) l1
 ·exact U i j gE (by omega)
theorem Dn.snoc(O:Ord n lt)(P:Pm n p){k:Nat}(U:Dn lt p k)(hk:k<n)(h1:1≤k)(h:lt (at' p k) (at' p (k - 1))=true):Dn lt p (k+1):=by
 intro i j gE hj
 by_cases e:j=k
 ·subst e
  by_cases e2:i=j - 1
  ·rw[e2];exact h
  ·exact O.tr _ _ _ (P.inR hk) (P.inR (by omega)) (P.inR (by omega)) h (U i (j - 1) (by omega) (by omega))
 ·exact U i j gE (by omega)
theorem Up.one:Up lt p 1:=fun i j gE hj=>by omega
variable {cmp:Nat→Nat→(Bool→Shared→Prop)→Shared→Prop} {R:Shared→Prop}
def jz(n:Nat)(lt:Nat→Nat→Bool)(cmp:Nat→Nat→(Bool→Shared→Prop)→Shared→Prop)(R:Shared→Prop):Prop:=
 ∀i j (C:Bool→Shared→Prop),i<n→j<n→i≠j→(∀s,R s→C (lt i j) s)→ ∀s,R s→cmp i j C s
def TR(cmp:Nat→Nat→(Bool→Shared→Prop)→Shared→Prop)(R:Shared→Prop){α:Type}(t:KasT α)(P:α→Prop):Prop:= ∀Q:α→Shared→Prop,(∀a s,P a→R s→Q a s)→ ∀s,R s→t.kasWp cmp Q s
theorem TR.ret{α:Type}{a:α}{P:α→Prop}(h:P a):TR cmp R (.ret a) P:=fun Q q s r=>q a s h r
theorem TR.ask{α:Type}{i j:Nat}{k:Bool→KasT α}{P:α→Prop}(A:jz n lt cmp R)(hi:i<n)(hj:j<n)(ne:i≠j)(h:TR cmp R (k (lt i j)) P):TR cmp R (.ask i j k) P:=fun Q q s r=>A i j _ hi hj ne (fun s' r'=>h Q q s' r') s r
theorem TR.bind{α β:Type}{t:KasT α}{f:α→KasT β}{P1:α→Prop}{P:β→Prop}(h:TR cmp R t P1)(h2: ∀a,P1 a→TR cmp R (f a) P):TR cmp R (t.bind f) P:=fun Q q s r=>by
 rw[KasT.kasWp_bind]
 exact h _ (fun a s' p1 r'=>h2 a p1 Q q s' r') s r
theorem TR.mono{α:Type}{t:KasT α}{P P':α→Prop}(h:TR cmp R t P)(hp: ∀a,P a→P' a):TR cmp R t P':=fun Q q s r=>h Q (fun a s' pa r'=>q a s' (hp a pa) r') s r
theorem wo(O:Ord n lt)(A:jz n lt cmp R)(P:Pm n p): ∀(f k:Nat),1≤k→k+f=n→Up lt p k→TR cmp R (kas_asc p f k) fun m=>k≤m∧m≤n∧Up lt p m∧(m=n∨lt (at' p m) (at' p (m - 1))=true)
 | 0,k,h1,h2,U=>TR.ret ⟨Nat.le_refl _,by omega,U, .inl (by omega)⟩
 | f+1,k,h1,h2,U=>by
  refine TR.ask A (P.inR (by omega)) (P.inR (by omega)) (P.ne (by omega) (by omega) (by omega)) ?_
  cases hc:lt (p.getD k 0) (p.getD (k - 1) 0) with
  | true=>exact TR.ret ⟨Nat.le_refl _,by omega,U, .inr hc⟩
  | false=>exact(wo O A P f (k+1) (by omega) (by omega) (U.snoc O P (by omega) h1 hc)).mono fun m ⟨a,b,c,d⟩=> ⟨by omega,b,c,d⟩
theorem Ee(O:Ord n lt)(A:jz n lt cmp R)(P:Pm n p): ∀(f k:Nat),1≤k→k+f=n→Dn lt p k→TR cmp R (kas_desc f p k 0) fun r=>r.1=p∧r.2.2=0∧k≤r.2.1∧r.2.1≤n∧Dn lt p r.2.1
 | 0,k,h1,h2,U=>TR.ret ⟨rfl,rfl,Nat.le_refl _,by show k≤n;omega,U⟩
 | f+1,k,h1,h2,U=>by
  refine TR.ask A (P.inR (by omega)) (P.inR (by omega)) (P.ne (by omega) (by omega) (by omega)) ?_
  cases hc:lt (p.getD k 0) (p.getD (k - 1) 0) with
  | true=>
   exact(Ee O A P f (k+1) (by omega) (by omega) (U.snoc O P (by omega) h1 hc)).mono fun r ⟨a,b,c,d,e⟩=> ⟨a,b,by omega,d,e⟩
  | false=>
   have l1:lt (p.getD (k - 1) 0) (p.getD k 0)=true:=by
    rcases O.sj _ _ (P.inR (i:=k - 1) (by omega)) (P.inR (i:=k) (by omega)) (P.ne (by omega) (by omega) (by omega)) with z | z
    ·exact z
    ·have z':lt (p.getD k 0) (p.getD (k - 1) 0)=true:=z
     rw[z'] at hc;cases hc
   show TR cmp R (.ask (p.getD (k - 1) 0) (p.getD k 0) fun d=>if d=true then .ret (p,k,0) else kas_desc f p (k+1) (0+1)) _
   refine TR.ask A (P.inR (by omega)) (P.inR (by omega)) (P.ne (by omega) (by omega) (by omega)) ?_
   rw[l1]
   exact TR.ret ⟨rfl,rfl,Nat.le_refl _,by show k≤n;omega,U⟩
theorem Ef{p:Array Nat}{m i:Nat}(hm:m≤p.size):at' (kas_rev p 0 m) i=if i<m then at' p (m - 1 - i) else at' p i:=by
 have e:=getElem?_mirror_all (xs:=p) (i:=0) hm i
 by_cases h:i<m
 ·rw[if_pos ⟨Nat.zero_le _,h⟩,show 0+m - 1 - i=m - 1 - i by omega] at e
  rw[if_pos h];exact oY e
 ·rw[if_neg fun z=>h z.2] at e
  rw[if_neg h];exact oY e
theorem Dn.rev{m:Nat}(hm:m≤p.size)(U:Dn lt p m):Up lt (kas_rev p 0 m) m:=by
 intro i j gE hj
 rw[Ef hm,Ef hm,if_pos (by omega),if_pos hj]
 exact U (m - 1 - j) (m - 1 - i) (by omega) (by omega)
theorem Pm.rev(P:Pm n p)(m:Nat):Pm n (kas_rev p 0 m):=P.perm (mirror_perm _ _ _ _)
def Good(n:Nat)(lt:Nat→Nat→Bool)(r:Nat×Array Nat):Prop:=1≤r.1∧r.1≤n∧Pm n r.2∧Up lt r.2 r.1
theorem PV(O:Ord n lt)(A:jz n lt cmp R)(P:Pm n p)(hn:1≤n):TR cmp R (kas_count n p) (Good n lt):=by
 refine TR.bind (wo O A P (n - 1) 1 (Nat.le_refl _) (by omega) Up.one) fun m ⟨h1,h2,U,h3⟩=> ?_
 by_cases e:m=n
 ·rw[if_pos (by simp[e])]
  exact TR.ret ⟨h1,h2,P,U⟩
 ·rw[if_neg (by simp[e])]
  have hd:lt (at' p m) (at' p (m - 1))=true:=by rcases h3 with h | h;exact absurd h e;exact h
  by_cases g:m>1
  ·rw[if_pos g]
   refine TR.ask A (P.inR (by omega)) (P.inR (by omega)) (P.ne (by omega) (by omega) (by omega)) ?_
   have c:=U 0 (m - 1) (by omega) (by omega)
   have c':lt (p.getD 0 0) (p.getD (m - 1) 0)=true:=c
   rw[c']
   exact TR.ret ⟨h1,h2,P,U⟩
  ·rw[if_neg g]
   have em:m=1:=by omega
   subst em
   have D2:Dn lt p 2:=by
    intro i j gE hj
    have e1:i=0:=by omega
    have e2:j=1:=by omega
    subst e1 e2;exact hd
   refine TR.bind (Ee O A P (n - (1+1)) (1+1) (by omega) (by omega) D2) fun r ⟨a,b,c,d,f⟩=> ?_
   rw[if_neg (by omega),a]
   have U2:=f.rev (by rw[P.sz];exact d)
   refine TR.bind (wo O A (P.rev r.2.1) (n - r.2.1) r.2.1 (by omega) (by omega) U2) fun m2 ⟨a1,a2,a3,a4⟩=> ?_
   exact TR.ret ⟨by show 1≤m2;omega,a2,P.rev _,a3⟩
theorem wq(O:Ord n lt)(A:jz n lt cmp R)(P:Pm n p){k:Nat}(hk:k<n)(U:Up lt p k): ∀(f l r:Nat),r≤k→l≤r→r - l≤f→(∀i,i<l→lt (at' p i) (at' p k)=true)→(∀i,r≤i→i<k→lt (at' p k) (at' p i)=true)→
  TR cmp R (kas_place p k f l r) fun m=>m≤k∧(∀i,i<m→lt (at' p i) (at' p k)=true)∧ ∀i,m≤i→i<k→lt (at' p k) (at' p i)=true
 | 0,l,r,h1,h2,h3,ha,hb=>TR.ret ⟨by omega,ha,fun i hi=>hb i (by omega)⟩
 | f+1,l,r,h1,h2,h3,ha,hb=>by
  unfold kas_place
  by_cases e:l≥r
  ·rw[if_pos e]
   exact TR.ret ⟨by omega,ha,fun i hi=>hb i (by omega)⟩
  ·rw[if_neg e]
   have hm:(l+r) / 2<k:=by omega
   refine TR.ask A (P.inR hk) (P.inR (by omega)) (P.ne hk (by omega) (by omega)) ?_
   cases hc:lt (p.getD k 0) (p.getD ((l+r) / 2) 0) with
   | true=>
    refine wq O A P hk U f l ((l+r) / 2) (by omega) (by omega) (by omega) ha fun i hi Eg=> ?_
    by_cases e2:i=(l+r) / 2
    ·rw[e2];exact hc
    ·exact O.tr _ _ _ (P.inR hk) (P.inR (by omega)) (P.inR (by omega)) hc (U _ i (by omega) Eg)
   | false=>
    have l1:lt (at' p ((l+r) / 2)) (at' p k)=true:=by
     rcases O.sj _ _ (P.inR (i:=(l+r) / 2) (by omega)) (P.inR hk) (P.ne (by omega) hk (by omega)) with z | z
     ·exact z
     ·have z':lt (p.getD k 0) (p.getD ((l+r) / 2) 0)=true:=z
      rw[z'] at hc;cases hc
    refine wq O A P hk U f ((l+r) / 2+1) r h1 (by omega) (by omega) (fun i hi=> ?_) hb
    by_cases e2:i=(l+r) / 2
    ·rw[e2];exact l1
    ·exact O.tr _ _ _ (P.inR (by omega)) (P.inR (by omega)) (P.inR hk) (U i _ (by omega) (by omega)) l1
theorem Eh{p:Array Nat}{k m i:Nat}(hk:k<p.size)(hm:m≤k):at' (bubble p k (k - m)) i=if i=m then at' p k else if m<i∧i≤k then at' p (i - 1) else at' p i:=by
 have e:=getElem?_bubble hk (k - m) (by omega) i
 rw[show k - (k - m)=m by omega] at e
 by_cases h:i=m
 ·rw[if_pos h] at e⊢;exact oY e
 ·rw[if_neg h] at e⊢
  by_cases g:m<i∧i≤k
  ·rw[if_pos g] at e⊢;exact oY e
  ·rw[if_neg g] at e⊢;exact oY e
theorem Ei(O:Ord n lt)(A:jz n lt cmp R): ∀(f k:Nat) (p:Array Nat),Pm n p→k+f=n→Up lt p k→TR cmp R (kas_bin f p k) fun q=>Pm n q∧Up lt q n
 | 0,k,p,P,h,U=>TR.ret ⟨P,by rw[show n=k by omega];exact U⟩
 | f+1,k,p,P,h,U=>by
  have hk:k<n:=by omega
  refine TR.bind (wq O A P hk U k 0 k (Nat.le_refl _) (Nat.zero_le _) (by omega) (fun i hi=>by omega) (fun i hi Eg=>by omega)) fun m ⟨hm,ha,hb⟩=> ?_
  refine Ei O A f (k+1) _ (P.perm (bubble_perm _ _ _)) (by omega) ?_
  intro i j gE hj
  have hs:k<p.size:=by rw[P.sz];exact hk
  rw[Eh hs hm,Eh hs hm]
  by_cases e1:i=m
  ·rw[if_pos e1,if_neg (by omega),if_pos (by omega)]
   exact hb (j - 1) (by omega) (by omega)
  ·rw[if_neg e1]
   by_cases e2:j=m
   ·rw[if_pos e2,if_neg (by omega)]
    exact ha i (by omega)
   ·rw[if_neg e2]
    by_cases e3:m<i∧i≤k
    ·rw[if_pos e3,if_pos (by omega)]
     exact U (i - 1) (j - 1) (by omega) (by omega)
    ·rw[if_neg e3]
     by_cases e4:m<j∧j≤k
     ·rw[if_pos e4]
      exact U i (j - 1) (by omega) (by omega)
     ·rw[if_neg e4]
      exact U i j gE (by omega)
theorem PX(O:Ord n lt)(A:jz n lt cmp R)(hn:1≤n):TR cmp R (kas_sort n) fun q=>Pm n q∧Up lt q n:=by
 have P0:Pm n (List.toArray (List.range n)):=⟨by simp,List.Perm.refl _⟩
 refine TR.bind (PV O A P0 hn) fun r ⟨h1,h2,P,U⟩=> ?_
 by_cases e:r.1<n
 ·rw[if_pos e,show max r.1 1=r.1 by omega]
  exact Ei O A _ _ _ P (by omega) U
 ·rw[if_neg e]
  exact TR.ret ⟨P,by rw[show n=r.1 by omega];exact U⟩
end
end L2.eQ
namespace L2
open PySem PySem.Spec PyProof.Rows PySem.W L2.eQ
abbrev T3:=Int×Int×Int
def cK(a b:T3):Bool:=decide (a.1<b.1) || (a.1==b.1 && (decide (a.2.1<b.2.1) || (a.2.1==b.2.1 && decide (a.2.2<b.2.2))))
def jA(ts:List T3)(i j:Nat):Bool:=cK (ts.getD i (0,0,0)) (ts.getD j (0,0,0))
theorem oZ{a b:T3}:cK a b=true↔a.1<b.1∨(a.1=b.1∧(a.2.1<b.2.1∨(a.2.1=b.2.1∧a.2.2<b.2.2))):=by
 unfold cK;simp
theorem PY{a b c:T3}(h1:cK a b=true)(h2:cK b c=true):cK a c=true:=by
 rw[oZ] at*;omega
theorem Ej{a b:T3}(h:cK a b=true):cK b a=false:=by
 cases e:cK b a with
 | false=>rfl
 | true=>rw[oZ] at*;omega
theorem PZ{a b:T3}(h:a≠b):cK a b=true∨cK b a=true:=by
 rw[oZ,oZ]
 obtain⟨a1,a2,a3⟩:=a
 obtain⟨b1,b2,b3⟩:=b
 have: ¬(a1=b1∧a2=b2∧a3=b3):=fun⟨x,y,z⟩=>h (by rw[x,y,z])
 simp only
 omega
theorem P4{ts:List T3}(nd:ts.Nodup):Ord ts.length (jA ts) where
 sj i j hi hj ne:=by
  unfold jA
  refine PZ ?_
  have e1:ts.getD i (0,0,0)=ts[i]:=by simp[hi]
  have e2:ts.getD j (0,0,0)=ts[j]:=by simp[hj]
  rw[e1,e2]
  exact fun e=>ne ((List.getElem_inj nd).mp e)
 PU i j _ _ h:=Ej h
 tr i j k _ _ _ h1 h2:=PY h1 h2
def TupAt(h:Heap)(v:Value)(t:T3):Prop:= ∃a o n t1 t2 t3,v= .ref a∧h.get? a=some o∧o.cls= .type "tuple"∧o.data= .seq #[.int t.1 t1, .int t.2.1 t2, .int t.2.2 t3] n
theorem TupAt.kept{h h':Heap}{v:Value}{t:T3}(x:TupAt h v t)(k: ∀b o,h.get? b=some o→o.cls= .type "tuple"→h'.get? b=some o):TupAt h' v t:=by
 obtain⟨a,o,n,t1,t2,t3,rfl,e,c,d⟩:=x
 exact⟨a,o,n,t1,t2,t3,rfl,k _ _ e c,c,d⟩
section
variable {prog:Program} {w:World} {A:Around} {E:Value→Shared→Prop} {s:Shared} {vs:List Value} {ts:List T3}
theorem Ek: ∀{vs:List Value} {ts:List T3},Paired (TupAt s.heap) vs ts→ ∃fs,KatTups s.heap vs fs∧fs.length=ts.length∧ ∀v∈fs,∃n t,v= .int n t
 | [],[], .nil=> ⟨[],KatTups.nil,rfl,fun v h=>by cases h⟩
 | v::vs,t::ts, .cons x r=>by
  obtain⟨a,o,n,t1,t2,t3,rfl,e,c,d⟩:=x
  obtain⟨fs,k,l,f⟩:=Ek r
  refine⟨.int t.1 t1::fs,KatTups.cons e c d (by simp) k,by rw[List.length_cons,List.length_cons,l],fun v hv=> ?_⟩
  rcases List.mem_cons.mp hv with rfl | hv
  ·exact⟨_,_,rfl⟩
  ·exact f v hv
theorem wt{h:Heap}: ∀{vs:List Value} {ts:List T3},Paired (TupAt h) vs ts→ ∀i,i<ts.length→TupAt h (vs.getD i Value.none) (ts.getD i (0,0,0))
 | [],[],_,i,hi=>absurd hi (Nat.not_lt_zero _)
 | v::vs,t::ts, .cons x r,0,_=>x
 | v::vs,t::ts, .cons x r,i+1,hi=>wt r i (by simpa using hi)
theorem P5{x y:Value}{a b:T3}{Q:Bool→Shared→Prop}(hx:TupAt s.heap x a)(hy:TupAt s.heap y b)(q:Q (cK a b) s):wpAny (model prog w) A (keyLt' (tuples' true) x y) Q E s:=by
 obtain⟨ax,ox,n,u1,u2,u3,rfl,ex,cx,dx⟩:=hx
 obtain⟨ay,oy,m,v1,v2,v3,rfl,ey,cy,dy⟩:=hy
 refine kat_lt ex dx ey dy ?_
 have lt: ∀{p r:Int} {t u:Tok} {Q:Bool→Shared→Prop},Q (decide (p<r)) s→wpAny (model prog w) A (oneLt' false (.int p t) (.int r u)) Q (fun _ _=>False) s:=fun h=>kat_one _ _ (PyProof.Rows.lt_int h)
 refine kat_cons (wpAny_eqBool_int (kat_go (fun e=>kat_yes ?_) fun e=>kat_no (oneLt_int ?_)))
 ·have e1:a.1=b.1:=by simpa using e
  refine kat_cons (wpAny_eqBool_int (kat_go (fun e=>kat_yes ?_) fun e=>kat_no (lt ?_)))
  ·have e2:a.2.1=b.2.1:=by simpa using e
   refine kat_cons (wpAny_eqBool_int (kat_go (fun e=>kat_yes (kat_nil ?_)) fun e=>kat_no (lt ?_)))
   ·have e3:a.2.2=b.2.2:=by simpa using e
    have:cK a b=false:=by unfold cK;simp[e1,e2,e3]
    rw[this] at q;exact q
   ·have:cK a b=decide (a.2.2<b.2.2):=by unfold cK;simp[e1,e2]
    rw[this] at q;exact q
  ·have e2: ¬a.2.1=b.2.1:=by simpa using e
   have:cK a b=decide (a.2.1<b.2.1):=by unfold cK;simp[e1,e2]
   rw[this] at q;exact q
 ·have e1: ¬a.1=b.1:=by simpa using e
  have:cK a b=decide (a.1<b.1):=by unfold cK;simp[e1]
  rw[this] at q;exact q
def o5(vs:List Value)(p:Array Nat):List Value:=p.toList.map fun i=>vs.getD i Value.none
theorem P6{a:Addr}{n:Nat}{P:PySem.Fin→Shared→Prop}(ho:s.heap.get? a=some (seqObj "list" vs.toArray n))(ht:Paired (TupAt s.heap) vs ts)(nd:ts.Nodup)(so:vs.length<64)
  (h: ∀p,Pm ts.length p→Up (jA ts) p ts.length→P (.done (.ret .none)) {s with heap:=sortedHeap s.heap a vs (o5 vs p).toArray}):
  wpAny (model prog w) A (Builtin.«list.sort» ⟨[.ref a],[]⟩) P E s:=by
 have hlen:vs.length=ts.length:=Paired.length ht
 rw[list_sort_plain]
 have ha:a<s.heap.objs.size:=Heap.lt_size ho
 refine wpAny_bind (listItems_at ho rfl ?_)
 refine wpAny_bind (listUpdate_at ho rfl ?_ (by rw[List.size_toArray,sizeLine_eq];omega) (Nat.zero_le _))
 obtain⟨e1,gu⟩: ∃e1,(s.heap.update a (Obj.mapSeq fun _=> #[])).get? a=some (seqObj "list" #[] e1):=⟨_,get?_update_seq ho (fun _=> #[])⟩
 refine wpAny_bind (seqEpoch_at gu rfl ?_)
 refine wpAny_bind (wpAny_newTuple ?_ (by show vs.length≤_;rw[sizeLine_eq];omega))
 refine wpAny_bind (wpAny_newList ?_ (Nat.zero_le _))
 refine wpAny_holding ?_
 have sq:(((s.heap.update a (Obj.mapSeq fun _=> #[])).push (seqObj "tuple" vs.toArray 0)).push (seqObj "list" #[] 0)).get? a=some (seqObj "list" #[] e1):=by
  rw[Heap.get?_push_ne _ _ _ (by rw[size_push',Heap.size_update];exact Nat.ne_of_lt (Nat.lt_succ_of_lt ha)),Heap.get?_push_ne _ _ _ (by rw[Heap.size_update];exact Nat.ne_of_lt ha)]
  exact gu
 have keep: ∀b o,s.heap.get? b=some o→o.cls= .type "tuple"→(((s.heap.update a (Obj.mapSeq fun _=> #[])).push (seqObj "tuple" vs.toArray 0)).push (seqObj "list" #[] 0)).get? b=some o:=fun b o e c=>by
  have hb:b≠a:=fun z=>by
   subst z
   rw[ho] at e
   cases e
   exact absurd c (by show Value.type "list"≠Value.type "tuple";decide+kernel)
  have aQ:b<s.heap.objs.size:=Heap.lt_size e
  rw[Heap.get?_push_ne _ _ _ (by rw[size_push',Heap.size_update];exact Nat.ne_of_lt (Nat.lt_succ_of_lt aQ)),Heap.get?_push_ne _ _ _ (by rw[Heap.size_update];exact Nat.ne_of_lt aQ),Heap.get?_update_ne _ _ _ _ hb]
  exact e
 show wpAny (model prog w) A _ P E {s with heap:=((s.heap.update a (Obj.mapSeq fun _=> #[])).push (seqObj "tuple" vs.toArray 0)).push (seqObj "list" #[] 0)}
 dsimp only
 have iD:vs.toArray.size=vs.length:=by simp
 by_cases h2:vs.toArray.size<2
 ·rw[if_pos h2,if_pos h2]
  refine wpAny_bind (wpAny_pure ?_)
  rw[StateT.run_pure]
  refine wpAny_bind (wpAny_pure ?_)
  dsimp only
  refine wpAny_bind (seqEpoch_at sq rfl ?_)
  refine wpAny_bind (listUpdate_at sq rfl ?_ (hsz2:=by rw[Array.size_map];show(pairsOf vs).size≤_;rw[pairsOf_size,sizeLine_eq];omega))
  simp only[bne_self_eq_false,Bool.false_eq_true,if_false]
  refine wpAny_pure ?_
  have h':=h (List.toArray (List.range ts.length)) ⟨by simp,List.Perm.refl _⟩ (fun i j gE hj=>by omega)
  have e:(arrOf (SortSt.mk' general' (vs.toArray.zip vs.toArray) #[] 7 none)).map (·.2)=(o5 vs (List.toArray (List.range ts.length))).toArray:=by
   have hz:(vs.toArray.zip vs.toArray).size=ts.length:=by rw[←hlen];simp
   have hr:=kas_range (vs.toArray.zip vs.toArray)
   rw[hz] at hr
   exact kat_snds (ks:=vs) (vs:=vs) (st:=SortSt.mk' general' (vs.toArray.zip vs.toArray) #[] 7 none) rfl hr.symm
  rw[e]
  exact h'
 ·rw[if_neg h2,if_neg h2]
  have eR:Paired (TupAt (((s.heap.update a (Obj.mapSeq fun _=> #[])).push (seqObj "tuple" vs.toArray 0)).push (seqObj "list" #[] 0))) vs ts:=L2.Paired.dB ht fun v t x=>x.kept keep
  obtain⟨fs,kt,kl,kf⟩:=Ek (s:={s with heap:=((s.heap.update a (Obj.mapSeq fun _=> #[])).push (seqObj "tuple" vs.toArray 0)).push (seqObj "list" #[] 0)}) eR
  refine wpAny_bind (kat_kind kt (by omega) (T:= .type "int") (fun v hv=> ?_) (by rfl) ?_)
  ·obtain⟨k,t,rfl⟩:=kf v hv
   exact Looks.now
  have as:jz ts.length (jA ts) (kas_ask prog w A (tuples' true) vs) (fun z=>z={s with heap:=((s.heap.update a (Obj.mapSeq fun _=> #[])).push (seqObj "tuple" vs.toArray 0)).push (seqObj "list" #[] 0)}):=by
   rintro i j C hi hj ne hC z rfl
   exact P5 (wt eR i hi) (wt eR j hj) (hC _ rfl)
  have P7:=PX (P4 nd) as (by omega)
  refine wpAny_bind (wpAny_mono (kat_run (κ:=tuples' true) (ks:=vs) (Q:=fun du s'=> ∃p,Pm ts.length p∧Up (jA ts) p ts.length∧arrOf du=p.map (kas_item (vs.toArray.zip vs.toArray))∧failedOf du=none∧s'={s with heap:=((s.heap.update a (Obj.mapSeq fun _=> #[])).push (seqObj "tuple" vs.toArray 0)).push (seqObj "list" #[] 0)})
   (G:=fun p s'=> (Pm ts.length p∧Up (jA ts) p ts.length)∧s'={s with heap:=((s.heap.update a (Obj.mapSeq fun _=> #[])).push (seqObj "tuple" vs.toArray 0)).push (seqObj "list" #[] 0)})
   rfl (by omega) so (fun p du s' a1 a2 a3 a4=> ⟨p,a4.1.1,a4.1.2,a2,a3,a4.2⟩) (by rw[hlen];exact P7 _ (fun p s' hp hs=> ⟨hp,hs⟩) _ rfl)) ?_ fun _ _ e=>e)
  rintro⟨⟨⟩,du⟩ s' ⟨p,pm,up,P8,hf,rfl⟩
  dsimp only
  have P9:=kat_snds (ks:=vs) (vs:=vs) rfl P8
  rw[P9]
  refine wpAny_bind (seqEpoch_at sq rfl ?_)
  refine wpAny_bind (listUpdate_at sq rfl ?_ (hsz2:=by rw[List.size_toArray,List.length_map,Array.length_toList,pm.sz,sizeLine_eq];omega))
  rw[hf]
  simp only[bne_self_eq_false,Bool.false_eq_true,if_false]
  exact wpAny_pure (h p pm up)
theorem P_{l:Addr}{Q:Value→Shared→Prop}(hl:s.heap.IsList l vs.toArray)(ht:Paired (TupAt s.heap) vs ts)(nd:ts.Nodup)(so:vs.length<64)
  (h: ∀p,Pm ts.length p→Up (jA ts) p ts.length→Q (.ref (s.heap.objs.size+1)) {s with heap:=sortedAll s.heap vs (o5 vs p).toArray}):
  wpAny (model prog w) A (call (.builtin "sorted") [.ref l]) Q E s:=by
 refine Calls.call_function_entry kind_sorted plain_sorted entry_sorted (args_sorted1 _) ?_
 unfold Builtin.«sorted»
 refine wpAny_bind (m:=checkCount "sorted" 1 1 _) (wpAny_pure ?_)
 refine wpAny_bind (collect_list hl ?_ (by rw[sizeLine_eq];omega))
 refine wpAny_bind (wpAny_newList ?_ (by rw[sizeLine_eq];omega))
 have iD:((s.heap.push (seqObj "list" #[] 0)).update s.heap.objs.size (Obj.mapSeq (· ++vs.toArray))).objs.size=s.heap.objs.size+1:=by
  rw[Heap.size_update,size_push']
 have qB:(((s.heap.push (seqObj "list" #[] 0)).update s.heap.objs.size (Obj.mapSeq (· ++vs.toArray))).push (seqObj "list" vs.toArray 0)).get? (s.heap.objs.size+1)=some (seqObj "list" vs.toArray 0):=by
  rw[←iD];exact Heap.get?_push_size _ rfl
 have keep: ∀b o,s.heap.get? b=some o→o.cls= .type "tuple"→(((s.heap.push (seqObj "list" #[] 0)).update s.heap.objs.size (Obj.mapSeq (· ++vs.toArray))).push (seqObj "list" vs.toArray 0)).get? b=some o:=fun b o q _=>by
  have aQ:b<s.heap.objs.size:=Heap.lt_size q
  rw[Heap.get?_push_ne _ _ _ (by rw[iD];exact Nat.ne_of_lt (Nat.lt_succ_of_lt aQ)),Heap.get?_update_ne _ _ _ _ (Nat.ne_of_lt aQ),Heap.get?_push_ne _ _ _ (Nat.ne_of_lt aQ)]
  exact q
 show wpAny _ _ _ _ _ {s with heap:=((s.heap.push (seqObj "list" #[] 0)).update s.heap.objs.size (Obj.mapSeq (· ++vs.toArray))).push (seqObj "list" vs.toArray 0)}
 rw[iD]
 refine wpAny_bind (wpAny_holding (wpAny_call_entry slot_list_sort ⟨_,qB,rfl⟩ entry_list_sort (P6 qB (L2.Paired.dB ht fun v t x=>x.kept keep) nd so fun p a1 a2=> ⟨_,rfl, ?_⟩) (args_list_sort _)))
 exact wpAny_pure ⟨_,rfl,h p a1 a2⟩
end
def V3(H:Hp)(v:V)(t:T3):Prop:= ∃a,v= .ref a∧H a=some (.tup [.int t.1, .int t.2.1, .int t.2.2])
def sr(K:Frag):List V→Hp→VK→Prop:=fun xs H Q=> ∃(p:Addr) (vs:List V) (ts:List T3),xs=[.ref p]∧ao K H p vs∧Paired (V3 H) vs ts∧ts.Nodup∧ts.length<64∧
 ∀(q:Addr) (zs:List V) (us:List T3),H q=none→Paired (V3 H) zs us→us.Perm ts→us.Pairwise (fun a b=>cK a b=true)→Q (.ref q) (upd H q (.lst zs))
section
variable {X:Cx}
theorem El: ∀{vs:List V} {its:List Value},Vals vs its→ ∀i,RelV (vs.getD i .ai) (its.getD i Value.none)
 | [],[], .nil,i=>rfl
 | v::vs,u::us, .cons x r,0=>x
 | v::vs,u::us, .cons x r,i+1=>El r i
theorem Em{vs:List V}{its:List Value}(h:Vals vs its): ∀l:List Nat,Vals (l.map fun i=>vs.getD i .ai) (l.map fun i=>its.getD i Value.none)
 | []=> .nil
 | i::l=> .cons (El h i) (Em h l)
theorem En{H:Hp}: ∀{vs:List V} {ts:List T3},Paired (V3 H) vs ts→ ∀i,i<ts.length→V3 H (vs.getD i .ai) (ts.getD i (0,0,0))
 | [],[],_,i,hi=>absurd hi (Nat.not_lt_zero _)
 | v::vs,t::ts, .cons x r,0,_=>x
 | v::vs,t::ts, .cons x r,i+1,hi=>En r i (by simpa using hi)
theorem Eo{H:Hp}{vs:List V}{ts:List T3}(h:Paired (V3 H) vs ts): ∀l:List Nat,(∀i∈l,i<ts.length)→Paired (V3 H) (l.map fun i=>vs.getD i .ai) (l.map fun i=>ts.getD i (0,0,0))
 | [],_=> .nil
 | i::l,hl=> .cons (En h i (hl i (.head _))) (Eo h l fun j hj=>hl j (.tail _ hj))
theorem Qa(ts:List T3):((List.range ts.length).map fun i=>ts.getD i (0,0,0))=ts:=by
 refine List.ext_getElem (by simp) fun i h1 h2=> ?_
 have o6:i<ts.length:=h2
 simp[o6]
theorem Ep{pins:List (Addr×Obj)}{σ:St}{H:Hp}{s:Shared}(I:Inv X pins σ H s): ∀{vs:List V} {its:List Value} {ts:List T3},Vals vs its→Paired (V3 H) vs ts→Paired (TupAt s.heap) its ts
 | [],[],[],_,_=> .nil
 | v::vs,u::us,t::ts, .cons x r, .cons y r'=>by
  refine .cons ?_ (Ep I r r')
  obtain⟨a,rfl,ha⟩:=y
  cases x
  obtain⟨_,its,rv,o,e,c,n,d⟩:=I.aF a _ ha
  obtain⟨u1,r1,rfl,x1,rv⟩: ∃u r,its=u::r∧RelV (.int t.1) u∧Vals [.int t.2.1, .int t.2.2] r:=by cases rv with | cons x r=>exact⟨_,_,rfl,x,r⟩
  obtain⟨u2,r2,rfl,x2,rv⟩: ∃u r,r1=u::r∧RelV (.int t.2.1) u∧Vals [.int t.2.2] r:=by cases rv with | cons x r=>exact⟨_,_,rfl,x,r⟩
  obtain⟨u3,r3,rfl,x3,rv⟩: ∃u r,r2=u::r∧RelV (.int t.2.2) u∧Vals [] r:=by cases rv with | cons x r=>exact⟨_,_,rfl,x,r⟩
  cases rv
  obtain⟨t1,rfl⟩:=x1
  obtain⟨t2,rfl⟩:=x2
  obtain⟨t3,rfl⟩:=x3
  exact⟨a,o,n,t1,t2,t3,rfl,e,c,d⟩
theorem Qc:bA X (.builtin "sorted") (sr X.K):=by
 intro pins s σ H xs us Q I r h
 obtain⟨p,vs,ts,rfl,hq,h3,nd,so,q⟩:=h
 obtain⟨u,rfl,ru⟩:=vals1 r
 cases ru
 obtain⟨its,rv,pl,hz⟩:=I.list hq
 have l1:=rv.length
 have l2:=Paired.length h3
 refine P_ pl.isList (Ep I rv h3) nd (by omega) fun pr pm up=> ?_
 obtain⟨e,he⟩:=sortedAll_at s.heap its (o5 its pr).toArray
 have ZQ:pr.toList.length=ts.length:=by rw[Array.length_toList,pm.sz]
 have cg: ∀i∈pr.toList,i<ts.length:=fun i hi=>List.mem_range.mp (pm.pm.subset hi)
 refine⟨.ref (s.heap.objs.size+1),_,I.laid (t':=s.toks) (fun b o e=>sortedAll_old e) (Nat.le_succ _) (show bV X.prog X.w _ _ _ (.lst (pr.toList.map fun i=>vs.getD i .ai)) from⟨by rw[List.length_map];omega,o5 its pr,e,Em rv _,he⟩),rfl, ?_⟩
 refine q _ _ (pr.toList.map fun i=>ts.getD i (0,0,0)) (I.aF.fresh (Nat.le_succ _)) (Eo h3 _ cg) ?_ ?_
 ·have:=pm.pm.map fun i=>ts.getD i ((0,0,0):T3)
  rwa [Qa] at this
 ·rw[List.pairwise_map]
  rw[List.pairwise_iff_getElem]
  intro i j hi hj gE
  have bY:i<pr.size:=by simpa using hi
  have bf:j<pr.size:=by simpa using hj
  have:=up i j gE (by rw[←pm.sz];exact bf)
  rw[oX bY,oX bf] at this
  simpa[jA] using this
theorem Qd:bootBuiltins "sorted"=some (.builtin "sorted"):=by decide+kernel
end
def sv:Frag→TA→TE:=fun K t=>cG (sr K) t
section
variable {CX:aE} {S:bP} {Γ:av} {X:Cx} {e:Expr} {es:List Expr} {x:Str} {p pos:Pos} {r:RE} {rs:List RE}
theorem Er(G:Good CX S Γ X)(hA:PA X (e::es) (aO Γ (r::rs)))(h:kB S x "sorted"=true:=by kernel_rfl)(hn:dn (e::es)=true:=by kernel_rfl):PE X (.Call (.Name x p) (e::es) [] pos) (aa Γ (.xt sv (r::rs))):=by
 simp only[kB,Bool.and_eq_true,decide_eq_true_eq] at h
 obtain⟨⟨rfl,h2⟩,h3⟩:=h
 show PE X _ (cG (sr Γ.K) (aO Γ (r::rs)))
 rw[←G.K]
 exact jf Qc (G.gl h2) (G.cI _ h3) Qd hA (by decide) (by decide) (cn (bT hn).1) (fh _ _ es (bT hn).2)
end
end L2
namespace L2
open PySem PySem.Spec PyProof.Rows
section
variable {prog:Program} {w:World} {A:Around} {E:Value→Shared→Prop} {s:Shared} {l:Addr} {xs:Array (Int×Tok)}
theorem Es{Q:Value→Shared→Prop}(hl:s.heap.IsTuple l (intItems xs))
  (h: ∀s₂:Shared,s₂={s with heap:=s.heap.push {cls:= .type "tuple_iterator",data:= .fields #[.ref l, .int 0 0]}}→
   (s₂.heap.IsTupleIter s.heap.objs.size l 0∧s₂.heap.IsTuple l (intItems xs))→(∀b∈ [s.heap.objs.size,l],b<s₂.heap.objs.size)→l≠s.heap.objs.size→Q (.ref s.heap.objs.size) s₂):
  wpAny (model prog w) A (pyIter (.ref l)) Q E s:=by
 have aQ:l<s.heap.objs.size:=by obtain⟨_,e,_⟩:=hl;exact Heap.lt_size e
 refine wpAny_pyIter_tuple hl (h _ rfl ⟨⟨_,Heap.get?_push_size _ rfl,rfl,rfl⟩,hl.push _⟩ (fun b hb=> ?_) (Nat.ne_of_lt aQ))
 show b< (s.heap.push _).objs.size
 rw[Heap.size_push]
 rcases List.mem_cons.mp hb with rfl | hb
 ·exact Nat.lt_succ_self _
 ·rcases List.mem_cons.mp hb with rfl | hb
  ·exact Nat.lt_succ_of_lt aQ
  ·cases hb
theorem Et{h':Heap}(hk: ∀b o,b∉ [s.heap.objs.size]→(s.heap.push {cls:= .type "tuple_iterator",data:= .fields #[.ref l, .int 0 0]}).get? b=some o→h'.get? b=some o):
  ∀b o,s.heap.get? b=some o→h'.get? b=some o:=fun b o e=>by
 refine hk b o (fun hm=> ?_) (Heap.get?_push_of_some _ e)
 rcases List.mem_cons.mp hm with e1 | hm
 ·exact absurd (e1 ▸ Heap.lt_size e) (Nat.lt_irrefl _)
 ·cases hm
theorem Qe{Q:Value→Shared→Prop}(hh:A.handled=none)(hl:s.heap.IsTuple l (intItems xs))(bW:0<xs.size)
  (h: ∀v h' tk,(intItems xs)[argBest (fun i j=>decide (numAt xs i>numAt xs j)) (xs.size - 1)]?=some v→(∀b o,s.heap.get? b=some o→h'.get? b=some o)→Q v {s with heap:=h',toks:=tk}):
  wpAny (model prog w) A (call (.builtin "max") [.ref l]) Q E s:=by
 refine call_max_walk (Es hl fun s₂ e st wu wx=> ?_)
 subst e
 refine⟨_,_,_,_,_,_,_,rfl,Walks.tuple (A:=A.in1) hh _ l wx (intItems xs),st,wu,by simpa[intItems] using bW,CmpOf.ints_gt (numAt xs) (fun _ _=>intItems_at),fun v h' tk hP hk=> ?_⟩
 exact h v h' tk (by simpa[intItems] using hP) (Et hk)
theorem Qg{Q:Value→Shared→Prop}(hh:A.handled=none)(hl:s.heap.IsTuple l (intItems xs))(bW:0<xs.size)
  (h: ∀v h' tk,(intItems xs)[argBest (fun i j=>decide (numAt xs i<numAt xs j)) (xs.size - 1)]?=some v→(∀b o,s.heap.get? b=some o→h'.get? b=some o)→Q v {s with heap:=h',toks:=tk}):
  wpAny (model prog w) A (call (.builtin "min") [.ref l]) Q E s:=by
 refine call_min_walk (Es hl fun s₂ e st wu wx=> ?_)
 subst e
 refine⟨_,_,_,_,_,_,_,rfl,Walks.tuple (A:=A.in1) hh _ l wx (intItems xs),st,wu,by simpa[intItems] using bW,CmpOf.ints_lt (numAt xs) (fun _ _=>intItems_at),fun v h' tk hP hk=> ?_⟩
 exact h v h' tk (by simpa[intItems] using hP) (Et hk)
end
section
variable {X:Cx}
theorem Eu{pins:List (Addr×Obj)}{σ:St}{H:Hp}{s:Shared}{p:Addr}{ns:List Int}(I:Inv X pins σ H s)(hq:aU X.K H p (ns.map V.int)): ∃xs:Array (Int×Tok),s.heap.IsTuple p (intItems xs)∧ns=xs.toList.map (·.1):=by
 obtain⟨its,rv,pl,hz⟩:=I.tuple hq
 have hi:=intsAre_of rv
 obtain⟨xs,hx⟩:=hi.allInts.items
 refine⟨xs,hx ▸ pl, ?_⟩
 rw[←nums_intItems,←hx]
 exact(show numsOf its.toArray.toList=ns from hi.numsOf).symm
def sx(K:Frag):List V→Hp→VK→Prop:=fun xs H Q=> ∃(p:Addr) (ns:List Int),xs=[.ref p]∧aU K H p (ns.map V.int)∧ns≠ []∧ ∀m:Int,m∈ns→(∀n∈ns,m≤n)→Q (.int m) H
def sy(K:Frag):List V→Hp→VK→Prop:=fun xs H Q=> ∃(p:Addr) (ns:List Int),xs=[.ref p]∧aU K H p (ns.map V.int)∧ns≠ []∧ ∀m:Int,m∈ns→(∀n∈ns,n≤m)→Q (.int m) H
theorem Qh(hc:X.calm=true):bA X (.builtin "min") (sx X.K):=by
 intro pins s σ H xs us Q I r h
 obtain⟨p,ns,rfl,hq,bW,q⟩:=h
 obtain⟨u,rfl,ru⟩:=vals1 r
 cases ru
 obtain⟨xs,hl,rfl⟩:=Eu I hq
 have sz:0<xs.size:=Nat.pos_of_ne_zero fun z=>bW (by rw[Array.eq_empty_of_size_eq_zero z];rfl)
 refine Qg (I.ok.hd hc) hl sz fun v h' tk hv hk=> ?_
 obtain⟨t,rfl⟩:=intItems_at hv
 obtain⟨b1,b2⟩:=oN (numAt xs) (fun i j=>decide (numAt xs i<numAt xs j)) (fun _ _=>rfl) (xs.size - 1)
 refine⟨.int _,H,I.kept (t':=tk) hk,⟨t,rfl⟩,q _ (rV (by omega)) fun n hn=> ?_⟩
 obtain⟨i,hi,rfl⟩:=rW hn
 exact b2 i (by omega)
theorem Qi(hc:X.calm=true):bA X (.builtin "max") (sy X.K):=by
 intro pins s σ H xs us Q I r h
 obtain⟨p,ns,rfl,hq,bW,q⟩:=h
 obtain⟨u,rfl,ru⟩:=vals1 r
 cases ru
 obtain⟨xs,hl,rfl⟩:=Eu I hq
 have sz:0<xs.size:=Nat.pos_of_ne_zero fun z=>bW (by rw[Array.eq_empty_of_size_eq_zero z];rfl)
 refine Qe (I.ok.hd hc) hl sz fun v h' tk hv hk=> ?_
 obtain⟨t,rfl⟩:=intItems_at hv
 obtain⟨b1,b2⟩:=oN (fun i=> - numAt xs i) (fun i j=>decide (numAt xs i>numAt xs j)) (fun i j=>decide_eq_decide.mpr (by omega)) (xs.size - 1)
 refine⟨.int _,H,I.kept (t':=tk) hk,⟨t,rfl⟩,q _ (rV (by omega)) fun n hn=> ?_⟩
 obtain⟨i,hi,rfl⟩:=rW hn
 have:=b2 i (by omega)
 omega
end
def sA:Frag→TA→TE:=fun K t=>cG (sx K) t
def sC:Frag→TA→TE:=fun K t=>cG (sy K) t
section
variable {CX:aE} {S:bP} {Γ:av} {X:Cx} {e:Expr} {es:List Expr} {x:Str} {p pos:Pos} {r:RE} {rs:List RE}
theorem Ew(G:Good CX S Γ X)(hA:PA X (e::es) (aO Γ (r::rs)))(h:kB S x "min"=true:=by kernel_rfl)(hn:dn (e::es)=true:=by kernel_rfl)(hq:S.md=0:=by rfl):PE X (.Call (.Name x p) (e::es) [] pos) (aa Γ (.xt sA (r::rs))):=by
 simp only[kB,Bool.and_eq_true,decide_eq_true_eq] at h
 obtain⟨⟨rfl,h2⟩,h3⟩:=h
 show PE X _ (cG (sx Γ.K) (aO Γ (r::rs)))
 rw[←G.K]
 exact jf (Qh (G.calm hq)) (G.gl h2) (G.cI _ h3) boot_min hA (by decide) (by decide) (cn (bT hn).1) (fh _ _ es (bT hn).2)
theorem Ex(G:Good CX S Γ X)(hA:PA X (e::es) (aO Γ (r::rs)))(h:kB S x "max"=true:=by kernel_rfl)(hn:dn (e::es)=true:=by kernel_rfl)(hq:S.md=0:=by rfl):PE X (.Call (.Name x p) (e::es) [] pos) (aa Γ (.xt sC (r::rs))):=by
 simp only[kB,Bool.and_eq_true,decide_eq_true_eq] at h
 obtain⟨⟨rfl,h2⟩,h3⟩:=h
 show PE X _ (cG (sy Γ.K) (aO Γ (r::rs)))
 rw[←G.K]
 exact jf (Qi (G.calm hq)) (G.gl h2) (G.cI _ h3) boot_max hA (by decide) (by decide) (cn (bT hn).1) (fh _ _ es (bT hn).2)
end
end L2
namespace L2.B
open PySem PySem.Spec PyProof.Rows
def wy:List Str:=["cursor"]
def Ey:List Str:=["cursor"]
noncomputable def wz:List RS:=
 [.ret (.cmp .Lt (.ix (.v 0) (.c (.int 1))) (.ix (.v 0) (.c (.int 0))))]
def Qj:List Str:=[]
def Qk:List Str:=[]
def Ez:List Str:=[]
def Ql:List Str:=[]
def Qm:List Str:=[]
def Qn:List Str:=[]
def Qo:List Str:=[]
def wA:List Str:=["cursors","order","groups","begin","end","number","group"]
def EA:List Str:=["cursors"]
noncomputable def wB:List RS:=
 [.asg 1 (.xt sv [(.comp (some 2) [] .rD [(.v 0)] none (.tup [(.call 0 [(.v 1)]),(.call 1 [(.v 1)]),(.v 0)]))]),
 .asg 2 (.lst []),
 .kg [3,4,5] .list [(.v 1)] [.ite (.and [(.cmp .Gt (.blt .len [(.v 2)]) (.c (.int 0))),(.call 2 [(.ix (.ix (.v 2) (.neg (.c (.int 1)))) (.c (.int 0))),(.ix (.ix (.v 2) (.neg (.c (.int 1)))) (.c (.int 1))),(.ix (.v 0) (.v 5))])]) [.asg 6 (.cc .pop (.v 2) []),
   .drop (.cc .append (.v 2) [(.tup [(.ix (.v 6) (.c (.int 0))),(.blt .max [(.ix (.v 6) (.c (.int 1))),(.v 4)]),(.bin .Add (.ix (.v 6) (.c (.int 2))) (.lst [(.v 5)]))])])] [.drop (.cc .append (.v 2) [(.tup [(.v 3),(.v 4),(.lst [(.v 5)])])])]],
 .ret (.v 2)]
def Qp:List Str:=["begin_of","end_of","meet"]
def Qq:List Str:=[]
def EB:List Str:=["sorted","enumerate","len","max"]
def Qr:List Str:=[]
def Qs:List Str:=[]
def Qt:List Str:=[]
def Qu:List Str:=[]
def wC:List Str:=["cursors","group","first"]
def EC:List Str:=["cursors","group"]
noncomputable def wD:List RS:=
 [.asg 2 (.ix (.v 0) (.blt .min [(.ix (.v 1) (.c (.int 2)))])),
 .ite (.cmp .Eq (.blt .len [(.ix (.v 1) (.c (.int 2)))]) (.c (.int 1))) [.ret (.v 2)] [],
 .ret (.mM (.call 0 [(.v 2)]) (.tup [(.ix (.v 1) (.c (.int 1))),(.ix (.v 1) (.c (.int 0))),(.c .ai)]) (.tup [(.ix (.v 1) (.c (.int 0))),(.ix (.v 1) (.c (.int 1))),(.c .ai)]))]
def Qw:List Str:=["is_backward"]
def Qx:List Str:=[]
def ED:List Str:=["min","len"]
def Qy:List Str:=[]
def Qz:List Str:=[]
def QC:List Str:=[]
def QD:List Str:=[]
def wF:List Str:=["cursors"]
def EE:List Str:=["cursors"]
noncomputable def wG:List RS:=
 [.ret (.comp none [("cursors",0)] .list [(.call 0 [(.v 0)])] none (.call 1 [(.v 1),(.v 0)]))]
def QE:List Str:=["gathered","as_one"]
def QF:List Str:=[]
def EF:List Str:=[]
def QG:List Str:=[]
def QH:List Str:=[]
def QI:List Str:=[]
def QJ:List Str:=[]
def iX:List Str:=["_law_cursors_here","_law_rows_now","_law_begin","_law_end","_law_k","_law_touch","_law_low","_law_high","_law_some","_law_found","_law_first"]
noncomputable def eS:List RS:=
 [.asg 1 (.lst []),
 .kg [2,3,4] .list [(.xt sv [(.comp (some 2) [] .rD [(.v 0)] none (.tup [(.xt sA [(.sl (.v 1) none (some (.c (.int 2))))]),(.xt sC [(.sl (.v 1) none (some (.c (.int 2))))]),(.v 0)]))])] [.asg 5 (.c (.bl false)),
  .ite (.cmp .NotEq (.v 1) (.lst [])) [.ou [6,7,8] (.ix (.v 1) (.neg (.c (.int 1)))),
   .asg 5 (.or [(.cmp .Lt (.v 2) (.v 7)),(.and [(.cmp .Eq (.v 2) (.v 7)),(.or [(.cmp .Eq (.v 6) (.v 7)),(.cmp .Eq (.v 2) (.v 3))])])])] [],
  .ite (.v 5) [.set (.v 1) (.neg (.c (.int 1))) (.lst [(.v 6),(.blt .max [(.v 7),(.v 3)]),(.bin .Add (.v 8) (.lst [(.v 4)]))])] [.drop (.cc .append (.v 1) [(.lst [(.v 2),(.v 3),(.lst [(.v 4)])])])]],
 .asg 9 (.lst []),
 .kg [2,3,8] .list [(.v 1)] [.asg 10 (.ix (.v 0) (.blt .min [(.v 8)])),
  .ite (.cmp .Eq (.blt .len [(.v 8)]) (.c (.int 1))) [.drop (.cc .append (.v 9) [(.v 10)])] [.ite (.cmp .Lt (.ix (.v 10) (.c (.int 1))) (.ix (.v 10) (.c (.int 0)))) [.drop (.cc .append (.v 9) [(.tup [(.v 3),(.v 2),(.c .ai)])])] [.drop (.cc .append (.v 9) [(.tup [(.v 2),(.v 3),(.c .ai)])])]]],
 .ret (.v 9)]
def m4:List Str:=[]
def m5:List Str:=[]
def kQ:List Str:=["sorted","enumerate","min","max","len"]
def m7:List Str:=[]
def m8:List Str:=[]
def m_:List Str:=[]
def nc:List Str:=[]
def kR:List Str:=["_law_cell","_law_size_here","_law_number","_law_anchor","_law_head"]
def EG:List Str:=["_law_cell","_law_size_here"]
noncomputable def fj:List RS:=
 [.asg 2 (.call 0 [(.v 0),(.c (.int 3))]),
 .asg 3 (.ix (.lst [(.bin .Mod (.v 2) (.bin .Add (.v 1) (.c (.int 1)))),(.c (.int 0)),(.v 1),(.bin .Mod (.bin .FloorDiv (.v 2) (.c (.int 7))) (.bin .Add (.v 1) (.c (.int 1))))]) (.bin .Mod (.bin .FloorDiv (.v 2) (.c (.int 5))) (.c (.int 4)))),
 .asg 4 (.blt .max [(.c (.int 0)),(.blt .min [(.v 1),(.bin .Add (.v 3) (.ix (.lst [(.c (.int 0)),(.c (.int 0)),(.c (.int 1)),(.neg (.c (.int 1))),(.c (.int 3)),(.neg (.c (.int 4))),(.c (.int 9)),(.v 1)]) (.bin .Mod (.bin .FloorDiv (.v 2) (.c (.int 23))) (.c (.int 8)))))])]),
 .ret (.tup [(.v 3),(.v 4),(.ix (.lst [(.c .ai),(.c .ai),(.bin .Mod (.bin .FloorDiv (.v 2) (.c (.int 3))) (.c (.int 9))),(.v 2)]) (.bin .Mod (.bin .FloorDiv (.v 2) (.c (.int 11))) (.c (.int 4))))])]
def o7:List Str:=["_law_mixed"]
def o8:List Str:=[]
def ng:List Str:=["max","min"]
def o9:List Str:=[]
def o_:List Str:=[]
def pb:List Str:=[]
def pd:List Str:=[]
def wH:List Str:=["_law_found","_law_due","_law_one","_law_other"]
def EH:List Str:=["_law_found","_law_due"]
noncomputable def wI:List RS:=
 [.ite (.or [(.not (.ej .list (.v 0))),(.cmp .NotEq (.blt .len [(.v 0)]) (.blt .len [(.v 1)]))]) [.ret (.c (.bl false))] [],
 .kg [2,3] .zip [(.v 0),(.v 1)] [.ite (.or [(.not (.ej .tuple (.v 2))),(.cmp .NotEq (.v 2) (.v 3)),(.not (.call 0 [(.ix (.v 2) (.c (.int 0)))])),(.not (.call 0 [(.ix (.v 2) (.c (.int 1)))]))]) [.ret (.c (.bl false))] [],
  .ite (.and [(.cmp .IsNot (.ix (.v 2) (.c (.int 2))) (.c .ai)),(.not (.call 0 [(.ix (.v 2) (.c (.int 2)))]))]) [.ret (.c (.bl false))] []],
 .ret (.c (.bl true))]
def QK:List Str:=["_law_whole"]
def QL:List Str:=[]
def EI:List Str:=["isinstance","list","len","zip","tuple"]
def QM:List Str:=[]
def QN:List Str:=[]
def QO:List Str:=[]
def QP:List Str:=[]
end L2.B
namespace L2
open PySem PySem.Spec PyProof.Rows
theorem QR:typeLookup (.type "list_reverseiterator") "__len__"=pure none:=by rw[typeLookup_type,builtinLookup_eq_fast];kernel_rfl
theorem QS:typeLookup (.type "list_reverseiterator") "__length_hint__"=pure (some (.builtin "list_reverseiterator.__length_hint__")):=by rw[typeLookup_type,builtinLookup_eq_fast];kernel_rfl
section
variable {prog:Program} {w:World} {A:Around} {E:Value→Shared→Prop} {s:Shared}
theorem QU{I:Addr}{Q:Bool→Shared→Prop}(hT:s.TypeIs (.ref I) "list_reverseiterator")(h:Q false s):wpAny (model prog w) A (Builtin.List.listLengthHint (.ref I)) Q E s:=by
 unfold Builtin.List.listLengthHint
 refine wpAny_bind (wpAny_specialOf hT QR ?_)
 show wpAny _ A (specialOf (Value.ref I) (Str.ofString "__length_hint__") >>=_) _ _ _
 refine wpAny_bind (wpAny_specialOf hT QS ?_)
 generalize EJ:("list_reverseiterator.__length_hint__":String)=QV
 wp_delta
 rw[show splitId QV=some ("list_reverseiterator","__length_hint__") from by subst EJ;decide+kernel]
 subst EJ
 refine wpAny_bind (wpAny_isInstance (T:="list_reverseiterator") (b:=true) hT (by rw[isSubtype_type];kernel_rfl) ?_)
 refine wpAny_ite_split (fun gp=>absurd gp (by decide)) (fun _=> ?_)
 refine wpAny_ite_split (fun _=> ?_) (fun gp=>absurd (by decide+kernel) gp)
 refine wpAny_ite_split (fun gp=>absurd gp (by decide)) (fun _=> ?_)
 exact wpAny_pure h
theorem QW{Q:Value→Shared→Prop}{I l:Addr}{items:Array Value}(hh:A.handled=none)(hit:s.heap.IsRevIter I l ((items.size:Int) - 1))(hl:s.heap.IsList l items)(bW:l≠I)(hn:items.size≤sizeLine)
  (hQ: ∀h' tk g6 c',(∀b o,b≠I→s.heap.get? b=some o→h'.get? b=some o)→
   h'.get? s.heap.objs.size=some {cls:= .type "list",dict:=none,data:= .seq g6 c',slots:= #[]}→ItemsOf (fun i v=>items[items.size - 1 - i]?=some v) g6 items.size→Q (.ref s.heap.objs.size) {s with heap:=h',toks:=tk}):
  wpAny (model prog w) A (call (.type "list") [.ref I]) Q E s:=by
 have hI:I<s.heap.objs.size:=by obtain⟨o,ho,_⟩:=hit;exact Heap.lt_size ho
 have aQ:l<s.heap.objs.size:=by obtain⟨o,ho,_⟩:=hl;exact Heap.lt_size ho
 refine callType_codes (Q₁:=fun obj s₁=>obj= .ref s.heap.objs.size∧s₁={s with heap:=s.heap.push {cls:= .type "list",data:= .seq #[]}}) F.called_list (F.typeCall_list_1 _) F.entry_list_init
  (code_list_new _ ⟨rfl,rfl⟩) fun obj s₁ h₁=> ?_
 obtain⟨rfl,rfl⟩:=h₁
 have hS:(s.heap.push {cls:= .type "list",data:= .seq #[]}).get? s.heap.objs.size=some {cls:= .type "list",data:= .seq #[]}:=Heap.get?_push_size _ rfl
 refine⟨⟨_,hS,rfl⟩,F.args_list_init_2 _ _, ?_⟩
 have QX:(s.heap.push {cls:= .type "list",data:= .seq #[]}).IsRevIter I l ((items.size:Int) - 1):=hit.at fun o e=>Heap.get?_push_of_some _ e
 have fc:(s.heap.push {cls:= .type "list",data:= .seq #[]}).IsList l items:=hl.at fun o e=>Heap.get?_push_of_some _ e
 have QY: ∀b o,s.heap.get? b=some o→(s.heap.push {cls:= .type "list",data:= .seq #[]}).get? b=some o:=fun b o e=>Heap.get?_push_of_some _ e
 have EK: ∀b o,s.heap.get? b=some o→b≠s.heap.objs.size:=fun b o e=>Nat.ne_of_lt (Heap.lt_size e)
 generalize ZR:s.heap.objs.size=S at*
 generalize s.heap.push {cls:= .type "list",data:= .seq #[]}=h1 at*
 show wpAny _ _ (do let old ←Builtin.List.listItems (.ref S);Builtin.List.listUpdate (.ref S) (fun _=> #[]);letGo old.toList.reverse;Builtin.List.listExtendWith (.ref S) (.ref I) .none) _ _ {s with heap:=h1}
 refine wpAny_bind ?_
 unfold Builtin.List.listItems
 refine wpAny_bind (wpAny_seqItems hS rfl (wpAny_pure ?_))
 show wpAny _ _ (updateSeq S (fun _=> #[]) >>=fun _=>letGo (#[]:Array Value).toList.reverse>>=fun _=>Builtin.List.listExtendWith (.ref S) (.ref I) .none) _ _ {s with heap:=h1}
 refine wpAny_bind (wpAny_updateSeq hS rfl ?_)
 have QZ:=Heap.get?_update_self (Obj.mapSeq (fun _=> (#[]:Array Value))) hS rfl
 have wJ: ∀b o,b≠S→h1.get? b=some o→(h1.update S (Obj.mapSeq (fun _=> (#[]:Array Value)))).get? b=some o:=
  fun b o hb e=> (Heap.get?_update_other _ _ (Ne.symm hb)).trans e
 have wK:I≠S:=Nat.ne_of_lt hI
 have EL:l≠S:=Nat.ne_of_lt aQ
 have wL:=QX.at (h':=h1.update S (Obj.mapSeq (fun _=> (#[]:Array Value)))) fun o e=>wJ I o wK e
 have jh:=fc.at (h':=h1.update S (Obj.mapSeq (fun _=> (#[]:Array Value)))) fun o e=>wJ l o EL e
 refine wpAny_bind (wpAny_letGo ?_)
 generalize h1.update S (Obj.mapSeq (fun _=> (#[]:Array Value)))=h2 at*
 have hT:({s with heap:=h2}:Shared).TypeIs (.ref I) "list_reverseiterator":=wL.typeIs (s:={s with heap:=h2})
 unfold Builtin.List.listExtendWith
 refine wpAny_bind (wpAny_typeOf hT ?_)
 have jB:Builtin.List.listSameRef (.ref S) (.ref I)=false:=by simp[Builtin.List.listSameRef,Ne.symm wK]
 have o6:(Value.type "list_reverseiterator"==Value.type "list")=false:=by decide
 have Q0:(Value.type "list_reverseiterator"==Value.type "tuple")=false:=by decide
 simp only[jB,o6,Q0,Bool.or_false,Bool.false_eq_true,if_false]
 refine wpAny_bind (wpAny_pyIter_revIter wL ?_)
 refine wpAny_bind (wpAny_holding (QU hT ?_))
 have W:=(Walks.listRev (prog:=prog) (w:=w) (A:=A.in1.in1) hh I l bW items).toS
 have Q1:S∉ [I,l]:=fun hm=>by
  rcases List.mem_cons.mp hm with e | hm
  ·exact wK e.symm
  ·exact EL (List.mem_singleton.mp hm).symm
 refine wpAny_ite_split (fun gp=>absurd gp (by decide)) (fun _=>wpAny_pure ⟨plainId_quiet F.plain_extend_loop _, ?_⟩)
 refine codeAny_extend_loopS W hn S Q1 _ items.size 0 _ #[] _ rfl (Nat.zero_le _) ⟨Nat.zero_le _, ?_,jh⟩ QZ (ItemsOf.nil _) fun s' g6 c' hm Q2 kx=> ?_
 ·have e:(items.size:Int) - 1 - ((0:Nat):Int)=(items.size:Int) - 1:=by omega
  rw[e];exact wL
 ·rw[Moved.eq_with hm]
  refine⟨rfl,hQ s'.heap s'.toks g6 c' (fun b o hb e=>hm.heap b o (fun wM=> ?_) (wJ b o (EK b o e) (QY b o e))) Q2 kx⟩
  rcases List.mem_cons.mp wM with e' | wM
  ·exact EK b o e e'
  ·exact hb (List.mem_singleton.mp wM)
end
theorem Q3{x:V}{u:Value}(r:RelV x u): ∀{xs:List V} {us:List Value},Vals xs us→Vals (xs++ [x]) (us++ [u]):=fun h=>Vals.append h (.cons r .nil)
theorem EM: ∀{xs:List V} {us:List Value},Vals xs us→Vals xs.reverse us.reverse
 | [],[], .nil=> .nil
 | x::xs,u::us, .cons r h=>by
  rw[List.reverse_cons,List.reverse_cons]
  exact Q3 r (EM h)
theorem Q4{its:List Value}{acc:Array Value}(h:ItemsOf (fun i v=>its.toArray[its.toArray.size - 1 - i]?=some v) acc its.toArray.size):acc.toList=its.reverse:=by
 obtain⟨h1,h2⟩:=h
 refine List.ext_getElem? fun i=> ?_
 by_cases hi:i<its.length
 ·have hs:i<acc.size:=by rw[h1];simpa using hi
  have e:=h2 i acc[i] (Array.getElem?_eq_getElem hs)
  rw[List.getElem?_reverse hi]
  have e2:acc.toList[i]?=some acc[i]:=by simp[hs]
  rw[e2]
  simpa using e.symm
 ·have hs:acc.toList.length=its.length:=by simpa using h1
  rw[List.getElem?_eq_none (by omega),List.getElem?_eq_none (by rw[List.length_reverse];omega)]
def sD(K:Frag):List V→Hp→VK→Prop:=fun xs H Q=> ∃p ys,xs=[.ref p]∧ao K H p ys∧ ∀l,H l=none→Q (.ref l) (upd H l (.lst ys.reverse))
def pe:Frag→TA→TE:=fun K t=>cG (sD K) t
theorem boot_reversed:bootBuiltins "reversed"=some (.type "reversed"):=by decide+kernel
section
variable {CX:aE} {S:bP} {Γ:av} {X:Cx} {e:Expr} {es:List Expr} {x y:Str} {p p2 pos sE:Pos} {r:RE} {rs:List RE}
theorem Q5{t:TA}(hc:X.calm=true)(g1:Gl X "list")(m1:X.mg "list"=none)(g2:Gl X "reversed")(m2:X.mg "reversed"=none)(ha:PA X [e] t)(hs:starEach [e] X.env=[(false,eval e X.env)]):
  PE X (.Call (.Name "list" p) [.Call (.Name "reversed" p2) [e] [] sE] [] pos) (cG (sD X.K) t):=by
 intro pins s σ H Q I h
 refine wpAny_Call_Name_kw (ja I g1 m1 Du ?_ (by decide) (by decide))
 refine PyProof.Rows.callWith_type1 ?_ rfl rfl
 show wpAny _ _ (spliced ((false,eval (.Call (.Name "reversed" p2) [e] [] sE) X.env)::backTo pos (starEach [] X.env))) _ _ s
 refine Calls.spliced_cons ?_
 refine wpAny_Call_Name_kw (ja I g2 m2 boot_reversed ?_ (by decide) (by decide))
 refine PyProof.Rows.callWith_type1 ?_ hs rfl
 refine aL (ha sE pins s σ H _ I h) fun us s1 ⟨vs,H1,I1,r1,q1⟩=> ?_
 obtain⟨l,ys,rfl,hq,q⟩:=q1
 obtain⟨u,rfl,ru⟩:=vals1 r1
 cases ru
 obtain⟨its,rv,pl,hz⟩:=I1.list hq
 have hl:=pl.isList
 have aQ:l<s1.heap.objs.size:=by obtain⟨o,ho,_⟩:=hl;exact Heap.lt_size ho
 refine call_reversed_list hl ?_
 refine Calls.spliced_nil ?_
 have ZS:=rv.length
 refine QW (I.ok.hd hc) (items:=its.toArray) ⟨_,Heap.get?_push_size _ rfl,rfl,rfl⟩ (hl.push _) (Nat.ne_of_lt aQ) (by simp only[List.size_toArray];omega) fun h' tk g6 c' kp e kx=> ?_
 have ea:=Q4 kx
 refine⟨.ref _,_,I1.laid (a:=(s1.heap.push (revObj l ((its.toArray.size:Int) - 1))).objs.size) (t':=tk) (fun b o eb=>kp b o (Nat.ne_of_lt (Heap.lt_size eb)) (Heap.get?_push_of_some _ eb)) (by rw[Heap.size_push];exact Nat.le_succ _)
  (show bV X.prog X.w _ h' _ (.lst ys.reverse) from⟨by rw[List.length_reverse];exact hz,g6.toList,c',by rw[ea];exact EM rv,by simpa using e⟩),rfl,q _ (I1.aF.fresh (by rw[Heap.size_push];exact Nat.le_succ _))⟩
theorem EN(G:Good CX S Γ X)(hA:PA X [e] (aO Γ [r]))(h:kB S x "list"=true:=by kernel_rfl)(h':kB S y "reversed"=true:=by kernel_rfl)(hn:dn [e]=true:=by kernel_rfl)(hq:S.md=0:=by rfl):PE X (.Call (.Name x p) [.Call (.Name y p2) [e] [] sE] [] pos) (aa Γ (.xt pe [r])):=by
 simp only[kB,Bool.and_eq_true,decide_eq_true_eq] at h h'
 obtain⟨⟨rfl,h2⟩,h3⟩:=h
 obtain⟨⟨rfl,h5⟩,h6⟩:=h'
 show PE X _ (cG (sD Γ.K) (aO Γ [r]))
 rw[←G.K]
 exact Q5 (G.calm hq) (G.gl h2) (G.cI _ h3) (G.gl h5) (G.cI _ h6) hA (cn (bT hn).1)
end
end L2
namespace L2.kS
open PySem PySem.Spec PyProof.Rows L2.B
def cq(i:Nat):Stmt:=(PySem.Challenge.pw_inkloom_k28_cursors_settled.main.body).getD i (.Pass ⟨0,0,0,0⟩)
def kT:Stmt:=cq 16
theorem Q6:bO vP DQ (az kT):=ck
theorem Q7{CX:aE}{Γ:av}{X:Cx}(G:aJ CX (aN vP (az kT) Oi Oj DR Ol Om Oo Oq 0) Γ X):a_ X (aq kT) (ar Γ vQ):=by
 have g:=G.toGood
 exact(aA (bx (jw (jx g (af g)) (kI (DI g (jx g (af g)))))) aK)
def kU:Stmt:=cq 17
theorem Q8:bO vX DZ (az kU):=ck
theorem Q9{CX:aE}{Γ:av}{X:Cx}(G:aJ CX (aN vX (az kU) OL OM D0 ON OO OP OQ 0) Γ X):a_ X (aq kU) (ar Γ vY):=by
 have g:=G.toGood
 exact(aA (bx (jw (aY g (ae (af g) ak)) (kI (NQ g (af g) (af g) (af g))))) aK)
def kW:Stmt:=cq 20
theorem Q_:bO v9 D4 (az kW):=ck
theorem Ra{CX:aE}{Γ:av}{X:Cx}(G:aJ CX (aN v9 (az kW) O2 O3 D5 O4 O5 O6 O7 0) Γ X):a_ X (aq kW) (ar Γ v_):=by
 have g:=G.toGood
 exact(aA (bx (cB g (ae (bp g (af g) aw) (ae (bp g (af g) aw) ak)))) aK)
def kY:Stmt:=cq 21
theorem Rb:bO wa D6 (az kY):=ck
theorem Rc{CX:aE}{Γ:av}{X:Cx}(G:aJ CX (aN wa (az kY) O8 O9 D7 O_ Pa Pb Pc 0) Γ X):a_ X (aq kY) (ar Γ wb):=by
 have g:=G.toGood
 exact(aA (bx (cB g (ae (bp g (af g) aw) (ae (bp g (af g) aw) ak)))) aK)
def kZ:Stmt:=cq 22
theorem Rf:bO wc D8 (az kZ):=ck
theorem Rg{CX:aE}{Γ:av}{X:Cx}(G:aJ CX (aN wc (az kZ) Pd Pe D9 Pf Pg Ph Pj 0) Γ X):a_ X (aq kZ) (ar Γ wd):=by
 have g:=G.toGood
 exact(aA (bx (dQ g (bp g (af g) aw) (bp g (af g) aw))) aK)
def k_:Stmt:=cq 23
theorem Rh:bO wy Ey (az k_):=ck
theorem Ri{CX:aE}{Γ:av}{X:Cx}(G:aJ CX (aN wy (az k_) Qj Qk Ez Ql Qm Qn Qo 0) Γ X):a_ X (aq k_) (ar Γ wz):=by
 have g:=G.toGood
 exact(aA (bx (dQ g (bp g (af g) aw) (bp g (af g) aw))) aK)
def lj:Stmt:=cq 24
theorem EO:bO sg D_ (az lj):=ck
theorem ER{CX:aE}{Γ:av}{X:Cx}(G:aJ CX (aN sg (az lj) Pk Pl we Pn Po Pp Pq 0) Γ X):a_ X (aq lj) (ar Γ oU):=by
 have g:=G.toGood
 exact(aA (bx (oR (dQ g (af g) cM) (oQ (jw (aY g (ae (af g) ak)) (kI (dQ g (af g) aw)))))) aK)
def ll:Stmt:=cq 25
theorem ES:bO sh Ea (az ll):=ck
theorem ET{CX:aE}{Γ:av}{X:Cx}(G:aJ CX (aN sh (az ll) Pr Pu wg Pw Px Py Pz 0) Γ X):a_ X (aq ll) (ar Γ oV):=by
 have g:=G.toGood
 exact(aA (cJ (PW.pt (gB (fi (r0 g (jx g (af g)))) (iP (cN g (cB g (ae (af g) ak)) aw)))) (aA (bx eP) aK) aK) (aA (bx (jw (aY g (ae (bp g (af g) aw) (ae aw (ae (af g) ak)))) (jw (aY g (ae (bp g (af g) aw) (ae aw (ae (af g) ak)))) (kI (aY g (ae (bp g (af g) aw) ak)))))) aK))
def lq:Stmt:=cq 26
theorem Rj:bO wj Eb (az lq):=ck
theorem Rk{CX:aE}{Γ:av}{X:Cx}(G:aJ CX (aN wj (az lq) PB PC Ec PD PF PH PJ 0) Γ X):a_ X (aq lq) (ar Γ wk):=by
 have g:=G.toGood
 exact(aA (cJ (cN g (aY g (ae (af g) ak)) (af g)) (aA (bx (oR (dQ g (af g) (af g)) (oQ (aY g (ae (af g) ak))))) aK) aK) (aA (bx (dQ g (aY g (ae (af g) ak)) (af g))) aK))
def lr:Stmt:=cq 27
theorem EU:bO si Ed (az lr):=ck
theorem EV{CX:aE}{Γ:av}{X:Cx}(G:aJ CX (aN si (az lr) PK PL wm PM PN PQ PR 0) Γ X):a_ X (aq lr) (ar Γ oW):=by
 have g:=G.toGood
 exact(aA (cJ (PW.pt (gB (fi (r0 g (jx g (af g)))) (iP (fi (NW g aw (cB g (ae (af g) ak)) (eE g)))))) (aA (vK G (ae cp ak)) aK) aK) (aA (cJ (fi (D3 g (OY g (ae (mY (ln:=["cursor"]) g (by kernel_rfl) (kK g (af g)) mX (fun _ g=> (aY g (ae (af g) (ae (af g) ak))))) ak)))) (aA (vK G (ae cp ak)) aK) aK) (aA (cJ (D3 g (O1 g (ae (mY (ln:=["one","other"]) g (by kernel_rfl) (DN g (af g) (dR g (af g) (dF aw) eG)) mX (fun _ g=> (aY g (ae (aY g (ae (af g) ak)) (ae (aY g (ae (af g) ak)) (ae (af g) ak)))))) ak))) (aA (vK G (ae cp ak)) aK) aK) aK)))
def lA:Stmt:=cq 28
theorem Rl:bO wA EA (az lA):=ck
theorem Rm{CX:aE}{Γ:av}{X:Cx}(G:aJ CX (aN wA (az lA) Qp Qq EB Qr Qs Qt Qu 0) Γ X):a_ X (aq lA) (ar Γ wB):=by
 have g:=G.toGood
 exact(aA (bt G (Er g (ae (mY (ln:=["number","cursor"]) g (by kernel_rfl) (DM g (af g)) mX (fun _ g=> (bD (ae (aY g (ae (af g) ak)) (ae (aY g (ae (af g) ak)) (ae (af g) ak)))))) ak))) (aA (bt G (bQ ak)) (aA (r6 [(_,_),(_,_),(_,_)] G (kK g (af g)) (aA (cJ (PW.pt (vH (cN g (cB g (ae (af g) ak)) aw) (vG (kJ g (aY g (ae (bp g (bp g (af g) (jv aw)) aw) (ae (bp g (bp g (af g) (jv aw)) aw) (ae (bp g (af g) (af g)) ak)))))))) (aA (bt G (NT g (af g))) (aA (h9 (hZ g (af g) (ae (bD (ae (bp g (af g) aw) (ae (cB g (ae (bp g (af g) aw) (ae (af g) ak))) (ae (aM g (bp g (af g) aw) (bQ (ae (af g) ak))) ak)))) ak))) aK)) (aA (h9 (hZ g (af g) (ae (bD (ae (af g) (ae (af g) (ae (bQ (ae (af g) ak)) ak)))) ak))) aK)) aK)) (aA (bx (af g)) aK))))
def lB:Stmt:=cq 29
theorem Rn:bO wC EC (az lB):=ck
theorem Ro{CX:aE}{Γ:av}{X:Cx}(G:aJ CX (aN wC (az lB) Qw Qx ED Qy Qz QC QD 0) Γ X):a_ X (aq lB) (ar Γ wD):=by
 have g:=G.toGood
 exact(aA (bt G (bp g (af g) (cB g (ae (bp g (af g) aw) ak)))) (aA (cJ (cN g (cB g (ae (bp g (af g) aw) ak)) aw) (aA (bx (af g)) aK) aK) (aA (bx (DJ (kJ g (aY g (ae (af g) ak))) (bD (ae (bp g (af g) aw) (ae (bp g (af g) aw) (ae cM ak)))) (bD (ae (bp g (af g) aw) (ae (bp g (af g) aw) (ae cM ak)))))) aK)))
def lE:Stmt:=cq 30
theorem Rp:bO wF EE (az lE):=ck
theorem Rq{CX:aE}{Γ:av}{X:Cx}(G:aJ CX (aN wF (az lE) QE QF EF QG QH QI QJ 0) Γ X):a_ X (aq lE) (ar Γ wG):=by
 have g:=G.toGood
 exact(aA (bx (mY (ln:=["group"]) g (by kernel_rfl) (kK g (aY g (ae (af g) ak))) mX (fun _ g=> (aY g (ae (af g) (ae (af g) ak)))))) aK)
def lF:Stmt:=cq 32
theorem Rr:bO vR DS (az lF):=ck
theorem Rt{CX:aE}{Γ:av}{X:Cx}(G:aJ CX (aN vR (az lF) Ot Ou DT Ov Ow Ox Oy 0) Γ X):a_ X (aq lF) (ar Γ vS):=by
 have g:=G.toGood
 exact(aA (cJ (cN g (af g) (cB g (ae (af g) ak))) (aA (bx (bp g (af g) (af g))) aK) aK) (aA (bx aw) aK))
def r_:List Str:=["_law_found"]
def EW:List Str:=["_law_found"]
def lG:Stmt:=cq 33
theorem Ru:bO r_ EW (az lG):=ck
theorem Rv{CX:aE}{Γ:av}{X:Cx}(G:aJ CX (aN r_ (az lG) OR OS D1 OT OU OV OW 0) Γ X):a_ X (aq lG) (ar Γ vZ):=by
 have g:=G.toGood
 exact(aA (bx (jw (jx g (af g)) (kI (DI g (jx g (af g)))))) aK)
def lH:Stmt:=cq 34
theorem Rw:bO vT DU (az lH):=ck
theorem Rx{CX:aE}{Γ:av}{X:Cx}(G:aJ CX (aN vT (az lH) Oz OA DV OB OC OD OE 0) Γ X):a_ X (aq lH) (ar Γ vU):=by
 have g:=G.toGood
 exact(aA (bt G (aM g (aM g (aM g (aM g (af g) aw) (aM g aw (af g))) aw) aw)) (aA (bx (aM g (aM g (aM g (aM g (af g) (af g)) aw) (af g)) aw)) aK))
def lI:Stmt:=cq 35
theorem Ry:bO vV DW (az lI):=ck
theorem Rz{CX:aE}{Γ:av}{X:Cx}(G:aJ CX (aN vV (az lI) OF OG DX OH OI OJ OK 0) Γ X):a_ X (aq lI) (ar Γ vW):=by
 have g:=G.toGood
 exact(aA (cJ (cN g (aM g (af g) aw) aw) (aA (bx (aM g (aM g (af g) aw) aw)) aK) aK) (aA (bx (aM g (aM g (af g) aw) aw)) aK))
def fU:List Str:=["_law_e","_law_some","_law_found"]
def bR:Stmt:=cq 36
theorem RA:bO fU DY (az bR):=ck
theorem RB{CX:aE}{Γ:av}{X:Cx}(G:aJ CX (aN fU (az bR) iQ iR ia iS iU iV iW 1) Γ X):PS X ((aq bR).getD 0 (.Pass ⟨0,0,0,0⟩)) (aI Γ (cZ.getD 0 (.ret (.c .ai)))):=by
 have g:=G.toGood
 show PS X (.Assign [.Name "_law_some" _] _ _) (aI Γ (.asg 1 _))
 with_reducible exact(bt G (bQ (ae (bD (ae cp (ae (eF g (af g) (eE g)) ak))) (ae (bD (ae cp (ae (eF g (af g) (eE g)) ak))) (ae (bD (ae cp (ae (eF g (af g) (eE g)) ak))) ak)))))
theorem RC{CX:aE}{Γ:av}{X:Cx}(G:aJ CX (aN fU (az bR) iQ iR ia iS iU iV iW 1) Γ X):PS X ((aq bR).getD 1 (.Pass ⟨0,0,0,0⟩)) (aI Γ (cZ.getD 1 (.ret (.c .ai)))):=by
 have g:=G.toGood
 show PS X (.Assign [.Name "_law_some" _] _ _) (aI Γ (.asg 1 _))
 with_reducible exact(bt G (aM g (af g) (bQ (ae (bD (ae cp (ae (eF g (af g) (eE g)) ak))) (ae (bD (ae cp (ae (eF g (af g) (eE g)) ak))) (ae (bD (ae cp (ae (eF g (af g) (eE g)) ak))) ak))))))
theorem RD{CX:aE}{Γ:av}{X:Cx}(G:aJ CX (aN fU (az bR) iQ iR ia iS iU iV iW 1) Γ X):PS X ((aq bR).getD 2 (.Pass ⟨0,0,0,0⟩)) (aI Γ (cZ.getD 2 (.ret (.c .ai)))):=by
 have g:=G.toGood
 show PS X (.Assign [.Name "_law_some" _] _ _) (aI Γ (.asg 1 _))
 with_reducible exact(bt G (aM g (af g) (bQ (ae (bD (ae cp (ae (eF g (af g) (eE g)) ak))) (ae (bD (ae cp (ae (eF g (af g) (eE g)) ak))) ak)))))
theorem RF{CX:aE}{Γ:av}{X:Cx}(G:aJ CX (aN fU (az bR) iQ iR ia iS iU iV iW 1) Γ X):PS X ((aq bR).getD 3 (.Pass ⟨0,0,0,0⟩)) (aI Γ (cZ.getD 3 (.ret (.c .ai)))):=by
 have g:=G.toGood
 show PS X (.Assign [.Name "_law_some" _] _ _) (aI Γ (.asg 1 _))
 with_reducible exact(bt G (aM g (af g) (bQ (ae (bD (ae cp (ae (eF g (af g) (eE g)) ak))) (ae (bD (ae cp (ae (eF g (af g) (eE g)) ak))) ak)))))
theorem RG{CX:aE}{Γ:av}{X:Cx}(G:aJ CX (aN fU (az bR) iQ iR ia iS iU iV iW 1) Γ X):PS X ((aq bR).getD 4 (.Pass ⟨0,0,0,0⟩)) (aI Γ (cZ.getD 4 (.ret (.c .ai)))):=by
 have g:=G.toGood
 show PS X (.Assign [.Name "_law_some" _] _ _) (aI Γ (.asg 1 _))
 with_reducible exact(bt G (aM g (af g) (bQ (ae (bD (ae cp (ae (eF g (af g) (eE g)) ak))) (ae (bD (ae cp (ae (eF g (af g) (eE g)) ak))) (ae (bD (ae cp (ae (eF g (af g) (eE g)) ak))) ak))))))
theorem RH{CX:aE}{Γ:av}{X:Cx}(G:aJ CX (aN fU (az bR) iQ iR ia iS iU iV iW 1) Γ X):PS X ((aq bR).getD 5 (.Pass ⟨0,0,0,0⟩)) (aI Γ (cZ.getD 5 (.ret (.c .ai)))):=by
 have g:=G.toGood
 exact(N1 G (by kernel_rfl) (by kernel_rfl) (by kernel_rfl) (af g) (NV fun _ g=> (DK g (af g))) (fun _ g=> (af g)))
theorem RI{CX:aE}{Γ:av}{X:Cx}(G:aJ CX (aN fU (az bR) iQ iR ia iS iU iV iW 1) Γ X):PS X ((aq bR).getD 6 (.Pass ⟨0,0,0,0⟩)) (aI Γ (cZ.getD 6 (.ret (.c .ai)))):=by
 have g:=G.toGood
 exact(cJ (PW.pt (gB (fi (DL g (eF g (af g) (eE g)))) (iP (fi (DL g (eF g (af g) (NR g (by decide+kernel) (by decide) (by decide)))))))) (aA (h9 (hZ g (af g) (ae cp ak))) aK) aK)
theorem RJ{CX:aE}{Γ:av}{X:Cx}(G:aJ CX (aN fU (az bR) iQ iR ia iS iU iV iW 1) Γ X):PS X ((aq bR).getD 7 (.Pass ⟨0,0,0,0⟩)) (aI Γ (cZ.getD 7 (.ret (.c .ai)))):=by
 have g:=G.toGood
 show PS X (.Return (some _) _) (aI Γ (.ret _))
 with_reducible exact(bx (hZ g cp (ae (af g) ak)))
theorem RK{CX:aE}{Γ:av}{X:Cx}(G:aJ CX (aN fU (az bR) iQ iR ia iS iU iV iW 1) Γ X):a_ X (aq bR) (ar Γ cZ):=by
 have e:aq bR=[((aq bR).getD 0 (.Pass ⟨0,0,0,0⟩)),((aq bR).getD 1 (.Pass ⟨0,0,0,0⟩)),((aq bR).getD 2 (.Pass ⟨0,0,0,0⟩)),((aq bR).getD 3 (.Pass ⟨0,0,0,0⟩)),((aq bR).getD 4 (.Pass ⟨0,0,0,0⟩)),((aq bR).getD 5 (.Pass ⟨0,0,0,0⟩)),((aq bR).getD 6 (.Pass ⟨0,0,0,0⟩)),((aq bR).getD 7 (.Pass ⟨0,0,0,0⟩))]:=by kernel_rfl
 have e2:cZ=[(cZ.getD 0 (.ret (.c .ai))),(cZ.getD 1 (.ret (.c .ai))),(cZ.getD 2 (.ret (.c .ai))),(cZ.getD 3 (.ret (.c .ai))),(cZ.getD 4 (.ret (.c .ai))),(cZ.getD 5 (.ret (.c .ai))),(cZ.getD 6 (.ret (.c .ai))),(cZ.getD 7 (.ret (.c .ai)))]:=by kernel_rfl
 rw[e,e2]
 with_reducible exact aA (RB G) (aA (RC G) (aA (RD G) (aA (RF G) (aA (RG G) (aA (RH G) (aA (RI G) (aA (RJ G) (aK))))))))
def da:Stmt:=cq 37
theorem RL:bO kR EG (az da):=ck
theorem RM{CX:aE}{Γ:av}{X:Cx}(G:aJ CX (aN kR (az da) o7 o8 ng o9 o_ pb pd 0) Γ X):PS X ((aq da).getD 0 (.Pass ⟨0,0,0,0⟩)) (aI Γ (fj.getD 0 (.ret (.c .ai)))):=by
 have g:=G.toGood
 show PS X (.Assign [.Name "_law_number" _] _ _) (aI Γ (.asg 2 _))
 with_reducible exact(bt G (aY g (ae (af g) (ae aw ak))))
theorem RN{CX:aE}{Γ:av}{X:Cx}(G:aJ CX (aN kR (az da) o7 o8 ng o9 o_ pb pd 0) Γ X):PS X ((aq da).getD 1 (.Pass ⟨0,0,0,0⟩)) (aI Γ (fj.getD 1 (.ret (.c .ai)))):=by
 have g:=G.toGood
 show PS X (.Assign [.Name "_law_anchor" _] _ _) (aI Γ (.asg 3 _))
 with_reducible exact(bt G (bp g (bQ (ae (aM g (af g) (aM g (af g) aw)) (ae aw (ae (af g) (ae (aM g (aM g (af g) aw) (aM g (af g) aw)) ak))))) (aM g (aM g (af g) aw) aw)))
theorem RO{CX:aE}{Γ:av}{X:Cx}(G:aJ CX (aN kR (az da) o7 o8 ng o9 o_ pb pd 0) Γ X):PS X ((aq da).getD 2 (.Pass ⟨0,0,0,0⟩)) (aI Γ (fj.getD 2 (.ret (.c .ai)))):=by
 have g:=G.toGood
 show PS X (.Assign [.Name "_law_head" _] _ _) (aI Γ (.asg 4 _))
 with_reducible exact(bt G (cB g (ae aw (ae (cB g (ae (af g) (ae (aM g (af g) (bp g (bQ (ae aw (ae aw (ae aw (ae (jv aw) (ae aw (ae (jv aw) (ae aw (ae (af g) ak))))))))) (aM g (aM g (af g) aw) aw))) ak))) ak))))
theorem RP{CX:aE}{Γ:av}{X:Cx}(G:aJ CX (aN kR (az da) o7 o8 ng o9 o_ pb pd 0) Γ X):PS X ((aq da).getD 3 (.Pass ⟨0,0,0,0⟩)) (aI Γ (fj.getD 3 (.ret (.c .ai)))):=by
 have g:=G.toGood
 show PS X (.Return (some _) _) (aI Γ (.ret _))
 with_reducible exact(bx (bD (ae (af g) (ae (af g) (ae (bp g (bQ (ae cM (ae cM (ae (aM g (aM g (af g) aw) aw) (ae (af g) ak))))) (aM g (aM g (af g) aw) aw)) ak)))))
theorem RQ{CX:aE}{Γ:av}{X:Cx}(G:aJ CX (aN kR (az da) o7 o8 ng o9 o_ pb pd 0) Γ X):a_ X (aq da) (ar Γ fj):=by
 have e:aq da=[((aq da).getD 0 (.Pass ⟨0,0,0,0⟩)),((aq da).getD 1 (.Pass ⟨0,0,0,0⟩)),((aq da).getD 2 (.Pass ⟨0,0,0,0⟩)),((aq da).getD 3 (.Pass ⟨0,0,0,0⟩))]:=by kernel_rfl
 have e2:fj=[(fj.getD 0 (.ret (.c .ai))),(fj.getD 1 (.ret (.c .ai))),(fj.getD 2 (.ret (.c .ai))),(fj.getD 3 (.ret (.c .ai)))]:=by kernel_rfl
 rw[e,e2]
 with_reducible exact aA (RM G) (aA (RN G) (aA (RO G) (aA (RP G) (aK))))
def wN:List Str:=["_law_script","_law_start","_law_size_here","_law_many","_law_found","_law_k","_law_cell"]
def EX:List Str:=["_law_script","_law_start","_law_size_here"]
noncomputable def sG:List RS:=
 [.asg 3 (.bin .Add (.c (.int 1)) (.bin .Mod (.call 0 [(.v 0),(.v 1)]) (.c (.int 6)))),
 .ite (.cmp .Eq (.bin .Mod (.bin .FloorDiv (.call 0 [(.v 0),(.v 1)]) (.c (.int 6))) (.c (.int 9))) (.c (.int 1))) [.asg 3 (.bin .Add (.c (.int 40)) (.bin .Mod (.bin .FloorDiv (.call 0 [(.v 0),(.v 1)]) (.c (.int 54))) (.c (.int 9))))] [],
 .asg 4 (.lst []),
 .mO 5 .gh [(.v 3)] [.asg 6 (.call 0 [(.v 0),(.bin .Add (.bin .Add (.v 1) (.c (.int 1))) (.bin .Mod (.v 5) (.c (.int 6))))]),
  .drop (.cc .append (.v 4) [(.call 1 [(.bin .Add (.call 2 [(.v 6),(.bin .FloorDiv (.v 5) (.c (.int 6)))]) (.v 5)),(.v 2)])])],
 .ret (.v 4)]
def RT:List Str:=["_law_cell_at","_law_cursor","_law_mixed"]
def RU:List Str:=[]
def EY:List Str:=["range"]
def RV:List Str:=[]
def RW:List Str:=[]
def RX:List Str:=[]
def RY:List Str:=[]
def lJ:Stmt:=cq 38
theorem RZ:bO wN EX (az lJ):=ck
theorem R0{CX:aE}{Γ:av}{X:Cx}(G:aJ CX (aN wN (az lJ) RT RU EY RV RW RX RY 0) Γ X):a_ X (aq lJ) (ar Γ sG):=by
 have g:=G.toGood
 exact(aA (bt G (aM g aw (aM g (aY g (ae (af g) (ae (af g) ak))) aw))) (aA (cJ (cN g (aM g (aM g (aY g (ae (af g) (ae (af g) ak))) aw) aw) aw) (aA (bt G (aM g aw (aM g (aM g (aY g (ae (af g) (ae (af g) ak))) aw) aw))) aK) aK) (aA (bt G (bQ ak)) (aA (DP G (NX g (af g)) (aA (bt G (aY g (ae (af g) (ae (aM g (aM g (af g) aw) (aM g (af g) aw)) ak)))) (aA (h9 (hZ g (af g) (ae (aY g (ae (aM g (aY g (ae (af g) (ae (aM g (af g) aw) ak))) (af g)) (ae (af g) ak))) ak))) aK))) (aA (bx (af g)) aK)))))
def iX:List Str:=["_law_cursors","_law_groups","_law_begin","_law_end","_law_k","_law_is_near","_law_low","_law_high","_law_some","_law_found","_law_first"]
def EZ:List Str:=["_law_cursors"]
def cO:Stmt:=cq 39
theorem R1:bO iX EZ (az cO):=ck
theorem R3{CX:aE}{Γ:av}{X:Cx}(G:aJ CX (aN iX (az cO) m4 m5 kQ m7 m8 m_ nc 0) Γ X):PS X ((aq cO).getD 0 (.Pass ⟨0,0,0,0⟩)) (aI Γ (eS.getD 0 (.ret (.c .ai)))):=by
 have g:=G.toGood
 show PS X (.Assign [.Name "_law_groups" _] _ _) (aI Γ (.asg 1 _))
 with_reducible exact(bt G (bQ ak))
theorem R4{CX:aE}{Γ:av}{X:Cx}(G:aJ CX (aN iX (az cO) m4 m5 kQ m7 m8 m_ nc 0) Γ X):PS X ((aq cO).getD 1 (.Pass ⟨0,0,0,0⟩)) (aI Γ (eS.getD 1 (.ret (.c .ai)))):=by
 have g:=G.toGood
 exact(r6 [(_,_),(_,_),(_,_)] G (kK g (Er g (ae (mY (ln:=["_law_k","_law_one"]) g (by kernel_rfl) (DM g (af g)) mX (fun _ g=> (bD (ae (Ew g (ae (dR g (af g) eG (dF aw)) ak)) (ae (Ex g (ae (dR g (af g) eG (dF aw)) ak)) (ae (af g) ak)))))) ak))) (aA (bt G eP) (aA (cJ (cN g (af g) (bQ ak)) (aA (N4 [(_,_),(_,_),(_,_)] G (bp g (af g) (jv aw))) (aA (bt G (oR (dQ g (af g) (af g)) (oQ (jw (dQ g (af g) (af g)) (kI (oR (dQ g (af g) (af g)) (oQ (dQ g (af g) (af g))))))))) aK)) aK) (aA (cJ (DK g (af g)) (aA (N2 (bQ (ae (af g) (ae (cB g (ae (af g) (ae (af g) ak))) (ae (aM g (af g) (bQ (ae (af g) ak))) ak)))) (af g) (jv aw)) aK) (aA (h9 (hZ g (af g) (ae (bQ (ae (af g) (ae (af g) (ae (bQ (ae (af g) ak)) ak)))) ak))) aK)) aK))))
theorem R5{CX:aE}{Γ:av}{X:Cx}(G:aJ CX (aN iX (az cO) m4 m5 kQ m7 m8 m_ nc 0) Γ X):PS X ((aq cO).getD 2 (.Pass ⟨0,0,0,0⟩)) (aI Γ (eS.getD 2 (.ret (.c .ai)))):=by
 have g:=G.toGood
 show PS X (.Assign [.Name "_law_found" _] _ _) (aI Γ (.asg 9 _))
 with_reducible exact(bt G (bQ ak))
theorem R6{CX:aE}{Γ:av}{X:Cx}(G:aJ CX (aN iX (az cO) m4 m5 kQ m7 m8 m_ nc 0) Γ X):PS X ((aq cO).getD 3 (.Pass ⟨0,0,0,0⟩)) (aI Γ (eS.getD 3 (.ret (.c .ai)))):=by
 have g:=G.toGood
 exact(r6 [(_,_),(_,_),(_,_)] G (kK g (af g)) (aA (bt G (bp g (af g) (cB g (ae (af g) ak)))) (aA (cJ (cN g (cB g (ae (af g) ak)) aw) (aA (h9 (hZ g (af g) (ae (af g) ak))) aK) (aA (cJ (cN g (bp g (af g) aw) (bp g (af g) aw)) (aA (h9 (hZ g (af g) (ae (bD (ae (af g) (ae (af g) (ae cM ak)))) ak))) aK) (aA (h9 (hZ g (af g) (ae (bD (ae (af g) (ae (af g) (ae cM ak)))) ak))) aK)) aK)) aK)))
theorem R7{CX:aE}{Γ:av}{X:Cx}(G:aJ CX (aN iX (az cO) m4 m5 kQ m7 m8 m_ nc 0) Γ X):PS X ((aq cO).getD 4 (.Pass ⟨0,0,0,0⟩)) (aI Γ (eS.getD 4 (.ret (.c .ai)))):=by
 have g:=G.toGood
 show PS X (.Return (some _) _) (aI Γ (.ret _))
 with_reducible exact(bx (af g))
theorem R8{CX:aE}{Γ:av}{X:Cx}(G:aJ CX (aN iX (az cO) m4 m5 kQ m7 m8 m_ nc 0) Γ X):a_ X (aq cO) (ar Γ eS):=by
 have e:aq cO=[((aq cO).getD 0 (.Pass ⟨0,0,0,0⟩)),((aq cO).getD 1 (.Pass ⟨0,0,0,0⟩)),((aq cO).getD 2 (.Pass ⟨0,0,0,0⟩)),((aq cO).getD 3 (.Pass ⟨0,0,0,0⟩)),((aq cO).getD 4 (.Pass ⟨0,0,0,0⟩))]:=by kernel_rfl
 have e2:eS=[(eS.getD 0 (.ret (.c .ai))),(eS.getD 1 (.ret (.c .ai))),(eS.getD 2 (.ret (.c .ai))),(eS.getD 3 (.ret (.c .ai))),(eS.getD 4 (.ret (.c .ai)))]:=by kernel_rfl
 rw[e,e2]
 with_reducible exact aA (R3 G) (aA (R4 G) (aA (R5 G) (aA (R6 G) (aA (R7 G) (aK)))))
def lK:Stmt:=cq 40
theorem R9:bO wH EH (az lK):=ck
theorem R_{CX:aE}{Γ:av}{X:Cx}(G:aJ CX (aN wH (az lK) QK QL EI QM QN QO QP 0) Γ X):a_ X (aq lK) (ar Γ wI):=by
 have g:=G.toGood
 exact(aA (cJ (PW.pt (gB (fi (r0 g (jx g (af g)))) (iP (cN g (cB g (ae (af g) ak)) (cB g (ae (af g) ak)))))) (aA (bx eP) aK) aK) (aA (r6 [(_,_),(_,_)] G (DN g (af g) (af g)) (aA (cJ (PW.pt (gB (fi (r0 g (jx g (af g)))) (gB (cN g (af g) (af g)) (gB (fi (kJ g (aY g (ae (bp g (af g) aw) ak)))) (iP (fi (kJ g (aY g (ae (bp g (af g) aw) ak))))))))) (aA (bx eP) aK) aK) (aA (cJ (PW.pt (vH (cN g (bp g (af g) aw) cM) (vG (fi (kJ g (aY g (ae (bp g (af g) aw) ak))))))) (aA (bx eP) aK) aK) aK))) (aA (bx eP) aK)))
def wO:List Str:=["_law_size_here","_law_cursors","_law_e"]
def E1:List Str:=["_law_size_here","_law_cursors"]
noncomputable def wQ:List RS:=
 [.uS 3 2 0 [.drop (.call 0 [(.v 0),(.v 1)])] [.ret (.uR 0 (.v 2))],
 .ret (.c (.str ""))]
def Sa:List Str:=["need_cursors"]
def Sb:List Str:=["InkError"]
def E2:List Str:=[]
def Sd:List Str:=[]
def Se:List Str:=[]
def Sf:List Str:=[]
def Sg:List Str:=["_law_word"]
def lL:Stmt:=cq 41
theorem Sh:bO wO E1 (az lL):=ck
theorem Si{CX:aE}{Γ:av}{X:Cx}(G:aJ CX (aN wO (az lL) Sa Sb E2 Sd Se Sf Sg 0) Γ X):a_ X (aq lL) (ar Γ wQ):=by
 have g:=G.toGood
 exact(aA (N6 G (by kernel_rfl) (by kernel_rfl) (fun G=> (fun g=> (aA (h9 (aY g (ae (af g) (ae (af g) ak)))) aK)) G.toGood) (fun G=> (fun g=> (aA (bx (NS g (af g))) aK)) G.toGood)) (aA (bx cp) aK))
def lM:List Str:=["_law_cell","_law_size_here","_law_more","_law_some"]
def E3:List Str:=["_law_cell","_law_size_here"]
noncomputable def fV:List RS:=
 [.asg 2 (.call 0 [(.v 0),(.c (.int 4))]),
 .asg 3 (.lst [(.tup [(.c (.int 0)),(.bin .Add (.v 1) (.c (.int 1))),(.c .ai)]),(.tup [(.bin .Add (.bin .Add (.v 1) (.c (.int 1))) (.v 2)),(.c (.int 0)),(.c .ai)]),(.tup [(.neg (.c (.int 1))),(.c (.int 0)),(.c .ai)]),(.tup [(.c (.int 0)),(.c (.int 0))]),(.tup [(.c (.int 0)),(.c (.int 0)),(.neg (.c (.int 1)))]),(.tup [(.c (.int 0)),(.c (.bl true)),(.c .ai)])]),
 .asg 3 (.bin .Add (.v 3) (.lst [(.lst [(.c (.int 0)),(.c (.int 0)),(.c .ai)]),(.c .ai),(.tup [(.c (.int 0)),(.c (.int 0)),(.c (.str "1"))]),(.tup [(.c (.int 0)),(.c (.int 0)),(.c (.bl false))]),(.tup [(.c (.bl false)),(.c (.int 0)),(.c .ai)]),(.tup [(.c (.int 0)),(.c (.int 0)),(.c .ai),(.c .ai)]),(.c (.int 0)),(.tup [(.c (.int 0)),(.c (.str "0")),(.c (.int 0))])])),
 .ret (.ix (.v 3) (.bin .Mod (.v 0) (.c (.int 14))))]
def ph:List Str:=["_law_mixed"]
def pj:List Str:=[]
def nh:List Str:=[]
def pk:List Str:=[]
def pq:List Str:=[]
def pv:List Str:=[]
def pz:List Str:=[]
def dc:Stmt:=cq 42
theorem Sj:bO lM E3 (az dc):=ck
theorem Sk{CX:aE}{Γ:av}{X:Cx}(G:aJ CX (aN lM (az dc) ph pj nh pk pq pv pz 0) Γ X):PS X ((aq dc).getD 0 (.Pass ⟨0,0,0,0⟩)) (aI Γ (fV.getD 0 (.ret (.c .ai)))):=by
 have g:=G.toGood
 show PS X (.Assign [.Name "_law_more" _] _ _) (aI Γ (.asg 2 _))
 with_reducible exact(bt G (aY g (ae (af g) (ae aw ak))))
theorem Sl{CX:aE}{Γ:av}{X:Cx}(G:aJ CX (aN lM (az dc) ph pj nh pk pq pv pz 0) Γ X):PS X ((aq dc).getD 1 (.Pass ⟨0,0,0,0⟩)) (aI Γ (fV.getD 1 (.ret (.c .ai)))):=by
 have g:=G.toGood
 show PS X (.Assign [.Name "_law_some" _] _ _) (aI Γ (.asg 3 _))
 with_reducible exact(bt G (bQ (ae (bD (ae aw (ae (aM g (af g) aw) (ae cM ak)))) (ae (bD (ae (aM g (aM g (af g) aw) (af g)) (ae aw (ae cM ak)))) (ae (bD (ae (jv aw) (ae aw (ae cM ak)))) (ae (bD (ae aw (ae aw ak))) (ae (bD (ae aw (ae aw (ae (jv aw) ak)))) (ae (bD (ae aw (ae eP (ae cM ak)))) ak))))))))
theorem Sm{CX:aE}{Γ:av}{X:Cx}(G:aJ CX (aN lM (az dc) ph pj nh pk pq pv pz 0) Γ X):PS X ((aq dc).getD 2 (.Pass ⟨0,0,0,0⟩)) (aI Γ (fV.getD 2 (.ret (.c .ai)))):=by
 have g:=G.toGood
 show PS X (.Assign [.Name "_law_some" _] _ _) (aI Γ (.asg 3 _))
 with_reducible exact(bt G (aM g (af g) (bQ (ae (bQ (ae aw (ae aw (ae cM ak)))) (ae cM (ae (bD (ae aw (ae aw (ae cp ak)))) (ae (bD (ae aw (ae aw (ae eP ak)))) (ae (bD (ae eP (ae aw (ae cM ak)))) (ae (bD (ae aw (ae aw (ae cM (ae cM ak))))) (ae aw (ae (bD (ae aw (ae cp (ae aw ak)))) ak)))))))))))
theorem Sn{CX:aE}{Γ:av}{X:Cx}(G:aJ CX (aN lM (az dc) ph pj nh pk pq pv pz 0) Γ X):PS X ((aq dc).getD 3 (.Pass ⟨0,0,0,0⟩)) (aI Γ (fV.getD 3 (.ret (.c .ai)))):=by
 have g:=G.toGood
 show PS X (.Return (some _) _) (aI Γ (.ret _))
 with_reducible exact(bx (bp g (af g) (aM g (af g) aw)))
theorem So{CX:aE}{Γ:av}{X:Cx}(G:aJ CX (aN lM (az dc) ph pj nh pk pq pv pz 0) Γ X):a_ X (aq dc) (ar Γ fV):=by
 have e:aq dc=[((aq dc).getD 0 (.Pass ⟨0,0,0,0⟩)),((aq dc).getD 1 (.Pass ⟨0,0,0,0⟩)),((aq dc).getD 2 (.Pass ⟨0,0,0,0⟩)),((aq dc).getD 3 (.Pass ⟨0,0,0,0⟩))]:=by kernel_rfl
 have e2:fV=[(fV.getD 0 (.ret (.c .ai))),(fV.getD 1 (.ret (.c .ai))),(fV.getD 2 (.ret (.c .ai))),(fV.getD 3 (.ret (.c .ai)))]:=by kernel_rfl
 rw[e,e2]
 with_reducible exact aA (Sk G) (aA (Sl G) (aA (Sm G) (aA (Sn G) (aK))))
def fW:List Str:=["_law_size_here","_law_good","_law_cell","_law_at","_law_begin","_law_last","_law_near","_law_some"]
def E4:List Str:=["_law_size_here","_law_good","_law_cell"]
noncomputable def cL:List RS:=
 [.asg 3 (.bin .Mod (.bin .FloorDiv (.v 2) (.c (.int 9))) (.blt .len [(.v 1)])),
 .asg 4 (.xt sA [(.sl (.ix (.v 1) (.v 3)) none (some (.c (.int 2))))]),
 .asg 5 (.blt .max [(.comp none [] .list [(.v 1)] none (.xt sC [(.sl (.v 0) none (some (.c (.int 2))))]))]),
 .asg 6 (.lst [(.tup [(.v 4),(.v 4),(.c .ai)])]),
 .asg 7 (.lst [(.bin .Add (.bin .Add (.sl (.v 1) none (some (.v 3))) (.lst [(.call 0 [(.bin .FloorDiv (.v 2) (.c (.int 9))),(.v 0)])])) (.sl (.v 1) (some (.bin .Add (.v 3) (.c (.int 1)))) none)),(.lst []),(.blt .tuple [(.v 1)]),(.bin .Mult (.lst [(.tup [(.c (.int 0)),(.c (.int 0)),(.c .ai)])]) (.c (.int 41)))]),
 .asg 7 (.bin .Add (.v 7) (.lst [(.mM (.cmp .Gt (.blt .len [(.v 1)]) (.c (.int 1))) (.xt pe [(.v 1)]) (.c .ai)),(.bin .Add (.sl (.v 1) none (some (.bin .Add (.v 3) (.c (.int 1))))) (.sl (.v 1) (some (.v 3)) none))])),
 .asg 7 (.bin .Add (.v 7) (.lst [(.bin .Add (.bin .Add (.sl (.v 1) none (some (.v 3))) (.v 6)) (.sl (.v 1) (some (.v 3)) none)),(.bin .Add (.bin .Add (.sl (.v 1) none (some (.v 3))) (.lst [(.call 0 [(.bin .FloorDiv (.v 2) (.c (.int 9))),(.v 0)])])) (.sl (.v 1) (some (.v 3)) none))])),
 .ite (.cmp .Eq (.bin .Mod (.v 2) (.c (.int 9))) (.c (.int 8))) [.ret (.or [(.cmp .Eq (.v 5) (.c (.int 0))),(.cmp .Eq (.call 1 [(.bin .Sub (.v 5) (.c (.int 1))),(.v 1)]) (.c (.str "cursor")))])] [],
 .ret (.cmp .Eq (.call 1 [(.v 0),(.ix (.v 7) (.bin .Mod (.v 2) (.c (.int 9))))]) (.c (.str "cursor")))]
def ib:List Str:=["_law_odd","_law_told"]
def ic:List Str:=[]
def gF:List Str:=["len","min","max","tuple","list","reversed"]
def ie:List Str:=[]
def ig:List Str:=[]
def ij:List Str:=[]
def ik:List Str:=[]
def bH:Stmt:=cq 43
theorem Sq:bO fW E4 (az bH):=ck
theorem Sr{CX:aE}{Γ:av}{X:Cx}(G:aJ CX (aN fW (az bH) ib ic gF ie ig ij ik 0) Γ X):PS X ((aq bH).getD 0 (.Pass ⟨0,0,0,0⟩)) (aI Γ (cL.getD 0 (.ret (.c .ai)))):=by
 have g:=G.toGood
 show PS X (.Assign [.Name "_law_at" _] _ _) (aI Γ (.asg 3 _))
 with_reducible exact(bt G (aM g (aM g (af g) aw) (cB g (ae (af g) ak))))
theorem Ss{CX:aE}{Γ:av}{X:Cx}(G:aJ CX (aN fW (az bH) ib ic gF ie ig ij ik 0) Γ X):PS X ((aq bH).getD 1 (.Pass ⟨0,0,0,0⟩)) (aI Γ (cL.getD 1 (.ret (.c .ai)))):=by
 have g:=G.toGood
 show PS X (.Assign [.Name "_law_begin" _] _ _) (aI Γ (.asg 4 _))
 with_reducible exact(bt G (Ew g (ae (dR g (bp g (af g) (af g)) eG (dF aw)) ak)))
theorem Su{CX:aE}{Γ:av}{X:Cx}(G:aJ CX (aN fW (az bH) ib ic gF ie ig ij ik 0) Γ X):PS X ((aq bH).getD 2 (.Pass ⟨0,0,0,0⟩)) (aI Γ (cL.getD 2 (.ret (.c .ai)))):=by
 have g:=G.toGood
 show PS X (.Assign [.Name "_law_last" _] _ _) (aI Γ (.asg 5 _))
 exact(bt G (cB g (ae (mY (ln:=["_law_one"]) g (by kernel_rfl) (kK g (af g)) mX (fun _ g=> (Ex g (ae (dR g (af g) eG (dF aw)) ak)))) ak)))
theorem Sv{CX:aE}{Γ:av}{X:Cx}(G:aJ CX (aN fW (az bH) ib ic gF ie ig ij ik 0) Γ X):PS X ((aq bH).getD 3 (.Pass ⟨0,0,0,0⟩)) (aI Γ (cL.getD 3 (.ret (.c .ai)))):=by
 have g:=G.toGood
 show PS X (.Assign [.Name "_law_near" _] _ _) (aI Γ (.asg 6 _))
 with_reducible exact(bt G (bQ (ae (bD (ae (af g) (ae (af g) (ae cM ak)))) ak)))
theorem Sw{CX:aE}{Γ:av}{X:Cx}(G:aJ CX (aN fW (az bH) ib ic gF ie ig ij ik 0) Γ X):PS X ((aq bH).getD 4 (.Pass ⟨0,0,0,0⟩)) (aI Γ (cL.getD 4 (.ret (.c .ai)))):=by
 have g:=G.toGood
 show PS X (.Assign [.Name "_law_some" _] _ _) (aI Γ (.asg 7 _))
 with_reducible exact(bt G (bQ (ae (aM g (aM g (dR g (af g) eG (dF (af g))) (bQ (ae (aY g (ae (aM g (af g) aw) (ae (af g) ak))) ak))) (dR g (af g) (dF (aM g (af g) aw)) eG)) (ae (bQ ak) (ae (cB g (ae (af g) ak)) (ae (aM g (bQ (ae (bD (ae aw (ae aw (ae cM ak)))) ak)) aw) ak))))))
theorem Sx{CX:aE}{Γ:av}{X:Cx}(G:aJ CX (aN fW (az bH) ib ic gF ie ig ij ik 0) Γ X):PS X ((aq bH).getD 5 (.Pass ⟨0,0,0,0⟩)) (aI Γ (cL.getD 5 (.ret (.c .ai)))):=by
 have g:=G.toGood
 show PS X (.Assign [.Name "_law_some" _] _ _) (aI Γ (.asg 7 _))
 with_reducible exact(bt G (aM g (af g) (bQ (ae (DJ (cN g (cB g (ae (af g) ak)) aw) (EN g (ae (af g) ak)) cM) (ae (aM g (dR g (af g) eG (dF (aM g (af g) aw))) (dR g (af g) (dF (af g)) eG)) ak)))))
theorem Sy{CX:aE}{Γ:av}{X:Cx}(G:aJ CX (aN fW (az bH) ib ic gF ie ig ij ik 0) Γ X):PS X ((aq bH).getD 6 (.Pass ⟨0,0,0,0⟩)) (aI Γ (cL.getD 6 (.ret (.c .ai)))):=by
 have g:=G.toGood
 show PS X (.Assign [.Name "_law_some" _] _ _) (aI Γ (.asg 7 _))
 with_reducible exact(bt G (aM g (af g) (bQ (ae (aM g (aM g (dR g (af g) eG (dF (af g))) (af g)) (dR g (af g) (dF (af g)) eG)) (ae (aM g (aM g (dR g (af g) eG (dF (af g))) (bQ (ae (aY g (ae (aM g (af g) aw) (ae (af g) ak))) ak))) (dR g (af g) (dF (af g)) eG)) ak)))))
theorem Sz{CX:aE}{Γ:av}{X:Cx}(G:aJ CX (aN fW (az bH) ib ic gF ie ig ij ik 0) Γ X):PS X ((aq bH).getD 7 (.Pass ⟨0,0,0,0⟩)) (aI Γ (cL.getD 7 (.ret (.c .ai)))):=by
 have g:=G.toGood
 exact(cJ (cN g (aM g (af g) aw) aw) (aA (bx (oR (dQ g (af g) aw) (oQ (dQ g (aY g (ae (aM g (af g) aw) (ae (af g) ak))) cp)))) aK) aK)
theorem SA{CX:aE}{Γ:av}{X:Cx}(G:aJ CX (aN fW (az bH) ib ic gF ie ig ij ik 0) Γ X):PS X ((aq bH).getD 8 (.Pass ⟨0,0,0,0⟩)) (aI Γ (cL.getD 8 (.ret (.c .ai)))):=by
 have g:=G.toGood
 show PS X (.Return (some _) _) (aI Γ (.ret _))
 with_reducible exact(bx (dQ g (aY g (ae (af g) (ae (bp g (af g) (aM g (af g) aw)) ak))) cp))
theorem SD{CX:aE}{Γ:av}{X:Cx}(G:aJ CX (aN fW (az bH) ib ic gF ie ig ij ik 0) Γ X):a_ X (aq bH) (ar Γ cL):=by
 have e:aq bH=[((aq bH).getD 0 (.Pass ⟨0,0,0,0⟩)),((aq bH).getD 1 (.Pass ⟨0,0,0,0⟩)),((aq bH).getD 2 (.Pass ⟨0,0,0,0⟩)),((aq bH).getD 3 (.Pass ⟨0,0,0,0⟩)),((aq bH).getD 4 (.Pass ⟨0,0,0,0⟩)),((aq bH).getD 5 (.Pass ⟨0,0,0,0⟩)),((aq bH).getD 6 (.Pass ⟨0,0,0,0⟩)),((aq bH).getD 7 (.Pass ⟨0,0,0,0⟩)),((aq bH).getD 8 (.Pass ⟨0,0,0,0⟩))]:=by kernel_rfl
 have e2:cL=[(cL.getD 0 (.ret (.c .ai))),(cL.getD 1 (.ret (.c .ai))),(cL.getD 2 (.ret (.c .ai))),(cL.getD 3 (.ret (.c .ai))),(cL.getD 4 (.ret (.c .ai))),(cL.getD 5 (.ret (.c .ai))),(cL.getD 6 (.ret (.c .ai))),(cL.getD 7 (.ret (.c .ai))),(cL.getD 8 (.ret (.c .ai)))]:=by kernel_rfl
 rw[e,e2]
 with_reducible exact aA (Sr G) (aA (Ss G) (aA (Su G) (aA (Sv G) (aA (Sw G) (aA (Sx G) (aA (Sy G) (aA (Sz G) (aA (SA G) (aK)))))))))
def dw:List Str:=["_law_script","_law_size_here","_law_cursors","_law_due","_law_handed","_law_found","_law_again","_law_word_here","_law_turn","_law_cell","_law_kept"]
def E5:List Str:=["_law_script"]
noncomputable def bq:List RS:=
 [.asg 1 (.call 0 [(.call 1 [(.v 0),(.c (.int 0))])]),
 .asg 2 (.call 2 [(.v 0),(.c (.int 1)),(.v 1)]),
 .asg 3 (.call 3 [(.v 2)]),
 .asg 4 (.blt .list [(.v 2)]),
 .asg 5 (.call 4 [(.v 4)]),
 .ite (.or [(.not (.call 5 [(.v 5),(.v 3)])),(.cmp .NotEq (.v 4) (.v 2))]) [.ret (.c (.bl false))] [],
 .drop (.cc .append (.v 5) [(.tup [(.c (.int 0)),(.c (.int 0)),(.c .ai)])]),
 .asg 6 (.call 4 [(.v 4)]),
 .asg 7 (.ix (.lst [(.c (.str "")),(.c (.str "cursor"))]) (.blt .int [(.cmp .Gt (.blt .len [(.v 3)]) (.c (.int 40)))])),
 .ite (.or [(.cmp .NotEq (.v 6) (.v 3)),(.cmp .NotEq (.call 6 [(.v 1),(.v 3)]) (.v 7))]) [.ret (.c (.bl false))] [],
 .asg 8 (.bin .Mod (.call 1 [(.v 0),(.c (.int 8))]) (.blt .len [(.v 3)])),
 .ite (.or [(.cmp .NotEq (.call 4 [(.bin .Add (.sl (.v 3) (some (.v 8)) none) (.sl (.v 3) none (some (.v 8))))]) (.v 3)),(.cmp .NotEq (.call 4 [(.xt pe [(.v 3)])]) (.v 3))]) [.ret (.c (.bl false))] [],
 .mO 9 .list [(.sl (.v 0) (some (.c (.int 9))) (some (.c (.int 14))))] [.asg 10 (.blt .list [(.v 3)]),
  .ite (.or [(.not (.call 7 [(.v 1),(.v 10),(.call 8 [(.v 9),(.c (.int 6))])])),(.cmp .NotEq (.v 10) (.v 3))]) [.ret (.c (.bl false))] []],
 .ite (.and [(.cmp .Eq (.v 7) (.c (.str ""))),(.cmp .IsNot (.call 9 [(.v 1),(.v 3)]) (.c .ai))]) [.ret (.c (.bl false))] [],
 .ret (.and [(.cmp .Eq (.v 6) (.v 3)),(.cmp .Eq (.v 5) (.bin .Add (.v 3) (.lst [(.tup [(.c (.int 0)),(.c (.int 0)),(.c .ai)])])))])]
def dS:List Str:=["_law_size","_law_cell_at","_law_drawn","_law_settled","settled","_law_alike","_law_told","_law_refused","_law_mixed","need_cursors"]
def dU:List Str:=[]
def dH:List Str:=["list","int","len","reversed"]
def dW:List Str:=[]
def dX:List Str:=[]
def dY:List Str:=[]
def dZ:List Str:=[]
def aV:Stmt:=cq 44
theorem SE:bO dw E5 (az aV):=ck
theorem SF{CX:aE}{Γ:av}{X:Cx}(G:aJ CX (aN dw (az aV) dS dU dH dW dX dY dZ 0) Γ X):PS X ((aq aV).getD 0 (.Pass ⟨0,0,0,0⟩)) (aI Γ (bq.getD 0 (.ret (.c .ai)))):=by
 have g:=G.toGood
 show PS X (.Assign [.Name "_law_size_here" _] _ _) (aI Γ (.asg 1 _))
 with_reducible exact(bt G (aY g (ae (aY g (ae (af g) (ae aw ak))) ak)))
theorem SG{CX:aE}{Γ:av}{X:Cx}(G:aJ CX (aN dw (az aV) dS dU dH dW dX dY dZ 0) Γ X):PS X ((aq aV).getD 1 (.Pass ⟨0,0,0,0⟩)) (aI Γ (bq.getD 1 (.ret (.c .ai)))):=by
 have g:=G.toGood
 show PS X (.Assign [.Name "_law_cursors" _] _ _) (aI Γ (.asg 2 _))
 with_reducible exact(bt G (aY g (ae (af g) (ae aw (ae (af g) ak)))))
theorem SH{CX:aE}{Γ:av}{X:Cx}(G:aJ CX (aN dw (az aV) dS dU dH dW dX dY dZ 0) Γ X):PS X ((aq aV).getD 2 (.Pass ⟨0,0,0,0⟩)) (aI Γ (bq.getD 2 (.ret (.c .ai)))):=by
 have g:=G.toGood
 show PS X (.Assign [.Name "_law_due" _] _ _) (aI Γ (.asg 3 _))
 with_reducible exact(bt G (aY g (ae (af g) ak)))
theorem SI{CX:aE}{Γ:av}{X:Cx}(G:aJ CX (aN dw (az aV) dS dU dH dW dX dY dZ 0) Γ X):PS X ((aq aV).getD 3 (.Pass ⟨0,0,0,0⟩)) (aI Γ (bq.getD 3 (.ret (.c .ai)))):=by
 have g:=G.toGood
 show PS X (.Assign [.Name "_law_handed" _] _ _) (aI Γ (.asg 4 _))
 with_reducible exact(bt G (cB g (ae (af g) ak)))
theorem SJ{CX:aE}{Γ:av}{X:Cx}(G:aJ CX (aN dw (az aV) dS dU dH dW dX dY dZ 0) Γ X):PS X ((aq aV).getD 4 (.Pass ⟨0,0,0,0⟩)) (aI Γ (bq.getD 4 (.ret (.c .ai)))):=by
 have g:=G.toGood
 show PS X (.Assign [.Name "_law_found" _] _ _) (aI Γ (.asg 5 _))
 with_reducible exact(bt G (aY g (ae (af g) ak)))
theorem SK{CX:aE}{Γ:av}{X:Cx}(G:aJ CX (aN dw (az aV) dS dU dH dW dX dY dZ 0) Γ X):PS X ((aq aV).getD 5 (.Pass ⟨0,0,0,0⟩)) (aI Γ (bq.getD 5 (.ret (.c .ai)))):=by
 have g:=G.toGood
 exact(cJ (PW.pt (gB (fi (kJ g (aY g (ae (af g) (ae (af g) ak))))) (iP (cN g (af g) (af g))))) (aA (bx eP) aK) aK)
theorem SM{CX:aE}{Γ:av}{X:Cx}(G:aJ CX (aN dw (az aV) dS dU dH dW dX dY dZ 0) Γ X):PS X ((aq aV).getD 6 (.Pass ⟨0,0,0,0⟩)) (aI Γ (bq.getD 6 (.ret (.c .ai)))):=by
 have g:=G.toGood
 exact(h9 (hZ g (af g) (ae (bD (ae aw (ae aw (ae cM ak)))) ak)))
theorem SN{CX:aE}{Γ:av}{X:Cx}(G:aJ CX (aN dw (az aV) dS dU dH dW dX dY dZ 0) Γ X):PS X ((aq aV).getD 7 (.Pass ⟨0,0,0,0⟩)) (aI Γ (bq.getD 7 (.ret (.c .ai)))):=by
 have g:=G.toGood
 show PS X (.Assign [.Name "_law_again" _] _ _) (aI Γ (.asg 6 _))
 with_reducible exact(bt G (aY g (ae (af g) ak)))
theorem SO{CX:aE}{Γ:av}{X:Cx}(G:aJ CX (aN dw (az aV) dS dU dH dW dX dY dZ 0) Γ X):PS X ((aq aV).getD 8 (.Pass ⟨0,0,0,0⟩)) (aI Γ (bq.getD 8 (.ret (.c .ai)))):=by
 have g:=G.toGood
 show PS X (.Assign [.Name "_law_word_here" _] _ _) (aI Γ (.asg 7 _))
 with_reducible exact(bt G (bp g (bQ (ae cp (ae cp ak))) (cB g (ae (dQ g (cB g (ae (af g) ak)) aw) ak))))
theorem SQ{CX:aE}{Γ:av}{X:Cx}(G:aJ CX (aN dw (az aV) dS dU dH dW dX dY dZ 0) Γ X):PS X ((aq aV).getD 9 (.Pass ⟨0,0,0,0⟩)) (aI Γ (bq.getD 9 (.ret (.c .ai)))):=by
 have g:=G.toGood
 exact(cJ (PW.pt (gB (cN g (af g) (af g)) (iP (cN g (aY g (ae (af g) (ae (af g) ak))) (af g))))) (aA (bx eP) aK) aK)
theorem SR{CX:aE}{Γ:av}{X:Cx}(G:aJ CX (aN dw (az aV) dS dU dH dW dX dY dZ 0) Γ X):PS X ((aq aV).getD 10 (.Pass ⟨0,0,0,0⟩)) (aI Γ (bq.getD 10 (.ret (.c .ai)))):=by
 have g:=G.toGood
 show PS X (.Assign [.Name "_law_turn" _] _ _) (aI Γ (.asg 8 _))
 with_reducible exact(bt G (aM g (aY g (ae (af g) (ae aw ak))) (cB g (ae (af g) ak))))
theorem SS{CX:aE}{Γ:av}{X:Cx}(G:aJ CX (aN dw (az aV) dS dU dH dW dX dY dZ 0) Γ X):PS X ((aq aV).getD 11 (.Pass ⟨0,0,0,0⟩)) (aI Γ (bq.getD 11 (.ret (.c .ai)))):=by
 have g:=G.toGood
 exact(cJ (PW.pt (gB (cN g (aY g (ae (aM g (dR g (af g) (dF (af g)) eG) (dR g (af g) eG (dF (af g)))) ak)) (af g)) (iP (cN g (aY g (ae (EN g (ae (af g) ak)) ak)) (af g))))) (aA (bx eP) aK) aK)
theorem SU{CX:aE}{Γ:av}{X:Cx}(G:aJ CX (aN dw (az aV) dS dU dH dW dX dY dZ 0) Γ X):PS X ((aq aV).getD 12 (.Pass ⟨0,0,0,0⟩)) (aI Γ (bq.getD 12 (.ret (.c .ai)))):=by
 have g:=G.toGood
 exact(DP G (kK g (dR g (af g) (dF aw) (dF aw))) (aA (bt G (cB g (ae (af g) ak))) (aA (cJ (PW.pt (gB (fi (kJ g (aY g (ae (af g) (ae (af g) (ae (aY g (ae (af g) (ae aw ak))) ak)))))) (iP (cN g (af g) (af g))))) (aA (bx eP) aK) aK) aK)))
theorem SV{CX:aE}{Γ:av}{X:Cx}(G:aJ CX (aN dw (az aV) dS dU dH dW dX dY dZ 0) Γ X):PS X ((aq aV).getD 13 (.Pass ⟨0,0,0,0⟩)) (aI Γ (bq.getD 13 (.ret (.c .ai)))):=by
 have g:=G.toGood
 exact(cJ (PW.pt (vH (cN g (af g) cp) (vG (cN g (aY g (ae (af g) (ae (af g) ak))) cM)))) (aA (bx eP) aK) aK)
theorem SW{CX:aE}{Γ:av}{X:Cx}(G:aJ CX (aN dw (az aV) dS dU dH dW dX dY dZ 0) Γ X):PS X ((aq aV).getD 14 (.Pass ⟨0,0,0,0⟩)) (aI Γ (bq.getD 14 (.ret (.c .ai)))):=by
 have g:=G.toGood
 show PS X (.Return (some _) _) (aI Γ (.ret _))
 with_reducible exact(bx (jw (dQ g (af g) (af g)) (kI (dQ g (af g) (aM g (af g) (bQ (ae (bD (ae aw (ae aw (ae cM ak)))) ak)))))))
theorem SX{CX:aE}{Γ:av}{X:Cx}(G:aJ CX (aN dw (az aV) dS dU dH dW dX dY dZ 0) Γ X):a_ X (aq aV) (ar Γ bq):=by
 have e:aq aV=[((aq aV).getD 0 (.Pass ⟨0,0,0,0⟩)),((aq aV).getD 1 (.Pass ⟨0,0,0,0⟩)),((aq aV).getD 2 (.Pass ⟨0,0,0,0⟩)),((aq aV).getD 3 (.Pass ⟨0,0,0,0⟩)),((aq aV).getD 4 (.Pass ⟨0,0,0,0⟩)),((aq aV).getD 5 (.Pass ⟨0,0,0,0⟩)),((aq aV).getD 6 (.Pass ⟨0,0,0,0⟩)),((aq aV).getD 7 (.Pass ⟨0,0,0,0⟩)),((aq aV).getD 8 (.Pass ⟨0,0,0,0⟩)),((aq aV).getD 9 (.Pass ⟨0,0,0,0⟩)),((aq aV).getD 10 (.Pass ⟨0,0,0,0⟩)),((aq aV).getD 11 (.Pass ⟨0,0,0,0⟩)),((aq aV).getD 12 (.Pass ⟨0,0,0,0⟩)),((aq aV).getD 13 (.Pass ⟨0,0,0,0⟩)),((aq aV).getD 14 (.Pass ⟨0,0,0,0⟩))]:=by kernel_rfl
 have e2:bq=[(bq.getD 0 (.ret (.c .ai))),(bq.getD 1 (.ret (.c .ai))),(bq.getD 2 (.ret (.c .ai))),(bq.getD 3 (.ret (.c .ai))),(bq.getD 4 (.ret (.c .ai))),(bq.getD 5 (.ret (.c .ai))),(bq.getD 6 (.ret (.c .ai))),(bq.getD 7 (.ret (.c .ai))),(bq.getD 8 (.ret (.c .ai))),(bq.getD 9 (.ret (.c .ai))),(bq.getD 10 (.ret (.c .ai))),(bq.getD 11 (.ret (.c .ai))),(bq.getD 12 (.ret (.c .ai))),(bq.getD 13 (.ret (.c .ai))),(bq.getD 14 (.ret (.c .ai)))]:=by kernel_rfl
 rw[e,e2]
 with_reducible exact aA (SF G) (aA (SG G) (aA (SH G) (aA (SI G) (aA (SJ G) (aA (SK G) (aA (SM G) (aA (SN G) (aA (SO G) (aA (SQ G) (aA (SR G) (aA (SS G) (aA (SU G) (aA (SV G) (aA (SW G) (aK)))))))))))))))
end L2.kS
namespace L2.N
namespace Tr
end Tr
end L2.N
namespace L2.B
end L2.B
namespace L2.B
open PySem PySem.StrLaws
end L2.B
namespace L2.B
open PySem PySem.Spec PyProof.Rows
theorem sameNew{H:Hp}{p:Addr}{o:HO}(h:H p=none):aD H (upd H p o):=fun b u e=>by rw[bC (c_ e h)];exact e
def bz(c:Addr)(H H':Hp):Prop:= ∀b o,H b=some o→b≠c→H' b=some o
theorem bz.upd{H:Hp}{c:Addr}{o:HO}:bz c H (upd H c o):=fun b u e n=>by rw[bC n];exact e
theorem bz.trans{c:Addr}{H H1 H2:Hp}(a:bz c H H1)(b:bz c H1 H2):bz c H H2:=fun d o e n=>b d o (a d o e n) n
theorem iF{c:Bool}{A B:Prop}(q:B)(h:c=false:=by first | rfl | decide):if c=true then A else B:=by
 rw[h];exact qZ q
theorem iT{c:Bool}{A B:Prop}(q:A)(h:c=true:=by first | rfl | decide):if c=true then A else B:=by
 rw[h];exact j5 q
def jC:Sp:=fun vs H Q E=> ∃i,vs=[.int i]∧Q (.bl true) H
theorem eT{n:Nat}(h:n≤1000000):n≤sizeLine:=Nat.le_trans h (by decide)
theorem fX{n:Nat}(h:n≤1000000):n<sizeLine:=Nat.lt_of_le_of_lt h (by decide)
def cell(ns:List Int)(k:Nat):Int:=ns.getD k 0
def il(K:Frag):Sp:=fun vs H Q E=> ∃(a:Addr) (ns:List Int) (k:Int),vs=[.ref a, .int k]∧ao K H a (ns.map V.int)∧0≤k∧Q (.int (cell ns k.toNat)) H
theorem SY{K:Frag}(vs:List V)(H:Hp)(Q:VK)(E:XK)(h:il K vs H Q E):ar (aW K [] [] (E:=E)) vS {nx:=fun _ H'=>Q .ai H',rt:=Q} (start vR vs) H:=by
 obtain⟨a,ns,k,rfl,ha,hk,q⟩:=h
 refine⟨_,rfl,_,rfl, .inl ⟨_,ha,trivial,_,rfl, ?_⟩⟩
 rw[List.length_map]
 refine oa (fun h=> ?_) (fun h=> ?_)
 ·have aQ:k< (ns.length:Int):=of_decide_eq_true h
  refine⟨_,rfl,_,rfl, .inl ⟨_,_,_,_,rfl,rfl,ha, ?_,q⟩⟩
  have e:=mH (xs:=ns.map V.int) (j:=k.toNat) (v:= .int (cell ns k.toNat)) (by
   have:k.toNat<ns.length:=by omega
   simp[cell,this])
  rw[show((k.toNat:Nat):Int)=k by omega] at e
  exact e
 ·have ZT: ¬k< (ns.length:Int):=fun z=>h (decide_eq_true z)
  have e:cell ns k.toNat=0:=by
   have z:ns[k.toNat]?=none:=List.getElem?_eq_none_iff.mpr (by omega)
   unfold cell
   rw[List.getD_eq_getElem?_getD,z];rfl
  rw[e] at q
  exact q
theorem wR:(0:Int) <1000003:=by decide
def mixed(c k:Int):Int:=let n:=(c*48271+7919*k+11) % 1000003;n*n % 1000003*n % 1000003
def eU:Sp:=fun vs H Q E=> ∃c k,vs=[.int c, .int k]∧Q (.int (mixed c k)) H
theorem S0{K:Frag}(vs:List V)(H:Hp)(Q:VK)(E:XK)(h:eU vs H Q E):ar (aW K [] [] (E:=E)) vU {nx:=fun _ H'=>Q .ai H',rt:=Q} (start vT vs) H:=by
 obtain⟨c,k,rfl,q⟩:=h
 have h0: ∀z:Int,0≤z % 1000003∧z % 1000003<1000003:=fun z=> ⟨Int.emod_nonneg _ (by decide),Int.emod_lt_of_pos _ (by decide)⟩
 have h1:=h0 (c*48271+7919*k+11)
 have h2:=h0 ((c*48271+7919*k+11) % 1000003* ((c*48271+7919*k+11) % 1000003))
 refine⟨_,rfl, .inr ⟨by decide,by decide⟩,_,rfl, .inl ⟨by decide,by decide⟩,wR, ?_⟩
 refine⟨_,rfl,_,rfl, .inl ⟨by omega,by omega⟩,wR,_,rfl, .inl ⟨by omega,by omega⟩,wR, ?_⟩
 exact q
theorem wU(c k:Int):0≤mixed c k∧mixed c k<1000003:=⟨Int.emod_nonneg _ (by decide),Int.emod_lt_of_pos _ (by decide)⟩
theorem sI{H:Hp}{a:Addr}{xs:List V}{T:Ty}{k:Bool→Prop}(h:H a=some (.tup xs))(q:k (T== .tuple)):bw T (.ref a) H k:=by
 show(match H a with | some (.lst _)=>k (T== .list) | some (.bc _ (.lst _))=>k (T== .list) | some (.tup _)=>k (T== .tuple) | some (.dK _)=>k (T== .dict) | some (.dT _)=>k (T== .dict) | _=>False)
 rw[h];exact q
theorem sJ{H:Hp}{a:Addr}{xs:List V}{T:Ty}{k:Bool→Prop}(h:H a=some (.lst xs))(q:k (T== .list)):bw T (.ref a) H k:=by
 show(match H a with | some (.lst _)=>k (T== .list) | some (.bc _ (.lst _))=>k (T== .list) | some (.tup _)=>k (T== .tuple) | some (.dK _)=>k (T== .dict) | some (.dT _)=>k (T== .dict) | _=>False)
 rw[h];exact q
theorem S1{α:Type}(p:α→Bool)(l:List α)(i:Nat)(v:α)(h:l[i]?=some v):(l.take (i+1)).filter p=(l.take i).filter p++ (if p v then [v] else []):=by
 rw[List.take_add_one,h,List.filter_append]
 cases hp:p v<;>simp[hp]
theorem S2{x y:Str}(h:x.cps.toList=y.cps.toList):x=y:=by
 obtain⟨x⟩:=x
 obtain⟨y⟩:=y
 exact congrArg Str.mk (Array.toList_inj.mp h)
abbrev Dn(Q:VK):Ends:={nx:=fun _ H'=>Q .ai H',rt:=Q}
def pA:Sp:=fun vs H Q E=> ∃c,vs=[.int c]∧ ∀n,0≤n→n≤400→Q (.int n) H
theorem S3{K:Frag}(vs:List V)(H:Hp)(Q:VK)(E:XK)(h:pA vs H Q E):ar (aW K [] [] (E:=E)) vW {nx:=fun _ H'=>Q .ai H',rt:=Q} (start vV vs) H:=by
 obtain⟨c,rfl,q⟩:=h
 refine⟨_,rfl,by show(0:Int) <8;decide,_,rfl, ?_⟩
 refine oa (fun _=> ?_) (fun _=> ?_)
 ·exact⟨_,rfl,⟨by decide,by decide⟩,by show(0:Int) <401;decide,q _ (Int.emod_nonneg _ (by decide)) (by have:=Int.emod_lt_of_pos (c / 8) (show(0:Int) <401 by decide);omega)⟩
 ·exact⟨_,rfl,⟨by decide,by decide⟩,by show(0:Int) <25;decide,q _ (Int.emod_nonneg _ (by decide)) (by have:=Int.emod_lt_of_pos (c / 8) (show(0:Int) <25 by decide);omega)⟩
end L2.B
namespace L2.B
end L2.B
namespace L2.B
end L2.B
namespace L2.B
open PySem PySem.Spec PyProof.Rows
theorem eV{K:Frag}{sd:Addr→List (Key×V)→Prop}{H:Hp}{a:Addr}{xs:List V}{i:Int}{v:V}{Q:VK}(h:H a=some (.lst xs))(e:ef xs i=some v)(q:Q v H):jo K sd (.ref a) (.int i) H Q:=
 .inl ⟨_,_,_,_,rfl,rfl,ao.of h,e,q⟩
theorem S4{T:Ty}{v:V}{H:Hp}{P Q:Bool→Prop}(h:bw T v H P)(i: ∀b,P b→Q b):bw T v H Q:=by
 cases v with
 | ref a=>
  unfold bw at h⊢
  simp only at h⊢
  split at h
  all_goals first | exact i _ h | exact h.elim
 | ai=>exact i _ h
 | bl b=>exact i _ h
 | int _=>exact i _ h
 | str _=>exact i _ h
 | _=>exact False.elim h
theorem S5{T:Ty}{v:V}{H H':Hp}{P:Bool→Prop}(h:bw T v H P)(s:aD H H'):bw T v H' P:=by
 cases v with
 | ref a=>
  unfold bw at h⊢
  simp only at h⊢
  cases e:H a with
  | none=>rw[e] at h;exact h.elim
  | some o=>rw[e] at h;rw[s _ _ e];exact h
 | ai=>exact h
 | bl b=>exact h
 | int _=>exact h
 | str _=>exact h
 | _=>exact False.elim h
def iY(T:Ty)(v:V)(H:Hp):Prop:=bw T v H fun b=>b=false
theorem iY.same{T:Ty}{v:V}{H H':Hp}(h:iY T v H)(s:aD H H'):iY T v H':=S5 h s
theorem iY.go{T:Ty}{v:V}{H:Hp}{Q:Bool→Prop}(h:iY T v H)(q:Q false):bw T v H Q:=S4 h fun b e=>by rw[e];exact q
def pB(v:V)(H:Hp):Prop:=(∃b,v= .bl b)∨iY .int v H
theorem pB.same{v:V}{H H':Hp}(h:pB v H)(s:aD H H'):pB v H':=by
 rcases h with h | h
 ·exact .inl h
 ·exact .inr (h.same s)
def fk:Sp:=fun vs H Q E=> ∃v,vs=[v]∧((∃i,v= .int i∧Q (.bl true) H)∨(pB v H∧Q (.bl false) H))
theorem S6{K:Frag}(vs:List V)(H:Hp)(Q:VK)(E:XK)(h:fk vs H Q E):ar (aW K [] [] (E:=E)) vQ (Dn Q) (start vP vs) H:=by
 obtain⟨v,rfl,⟨i,rfl,q⟩ | ⟨⟨b,rfl⟩ | hn,q⟩⟩:=h
 ·exact⟨_,rfl,rfl,_,rfl,j5 ⟨_,rfl,rfl,q⟩⟩
 ·exact⟨_,rfl,rfl,_,rfl,j5 ⟨_,rfl,rfl,q⟩⟩
 ·exact⟨_,rfl,rfl,hn.go ⟨_,rfl,qZ q⟩⟩
def d0(a b:Sp):Sp:=fun vs H Q E=>a vs H Q E∨b vs H Q E
end L2.B
namespace L2
open PySem PySem.Spec PyProof.Rows
section
variable {Γ:av} {D:Ends} {σ:St} {H:Hp} {r:List RS} {Q:VK} {QA:List V→Hp→Prop} {QT:Bool→Hp→Prop}
theorem ag{i:Nat}{v:V}(h:σ[i]?=some (some v))(q:Q v H):aa Γ (.v i) σ H Q:=⟨_,h,q⟩
theorem au{v:V}(q:Q v H):aa Γ (.c v) σ H Q:=q
theorem pE{j:Nat}(q:Q (Γ.gv j) H):aa Γ (.g j) σ H Q:=q
theorem br{op:Operator}{a b:RE}(h:aa Γ a σ H fun x H1=>aa Γ b σ H1 fun y H2=>kc Γ.K op x y H2 Q):aa Γ (.bin op a b) σ H Q:=h
theorem de{op:CmpOp}{a b:RE}(h:aa Γ a σ H fun x H1=>aa Γ b σ H1 fun y H2=>bK Γ.K op x y H2 Q):aa Γ (.cmp op a b) σ H Q:=h
theorem ba{a b:RE}(h:aa Γ a σ H fun x H1=>aa Γ b σ H1 fun y H2=>jo Γ.K Γ.sd x y H2 Q):aa Γ (.ix a b) σ H Q:=h
theorem S7{j:Nat}{as:List RE}(h:aO Γ as σ H fun vs H1=>Γ.fs j (vs++ []) H1 Q Γ.E):aa Γ (.call j as) σ H Q:=h
theorem aX{j:Nat}{as:List RE}(sp:Sp)(hs:Γ.fs j=sp)(h:aO Γ as σ H fun vs H1=>sp vs H1 Q Γ.E):aa Γ (.call j as) σ H Q:=by
 subst hs
 refine S7 ?_
 have e:(fun(vs:List V) (H1:Hp)=>Γ.fs j (vs++ []) H1 Q Γ.E)=fun vs H1=>Γ.fs j vs H1 Q Γ.E:=by
  funext vs H1;rw[List.append_nil]
 rw[e];exact h
theorem fo{b:jm}{as:List RE}(h:aO Γ as σ H fun vs H1=>kh Γ.K b vs H1 Q):aa Γ (.blt b as) σ H Q:=h
theorem dI{as:List RE}(h:aO Γ as σ H fun xs H1=>xs.length≤sizeLine∧ ∀p,H1 p=none→Q (.ref p) (upd H1 p (.tup xs))):aa Γ (.tup as) σ H Q:=h
theorem cC{as:List RE}(h:aO Γ as σ H fun xs H1=>xs.length≤sizeLine∧ ∀p,H1 p=none→Q (.ref p) (upd H1 p (.lst xs))):aa Γ (.lst as) σ H Q:=h
theorem S8{a c:RE}(h:aa Γ a σ H fun x H1=>aa Γ c σ H1 fun y H2=>g_ Γ.K [x,y] H2 Q):aa Γ (.cf a c) σ H Q:=h
theorem E6{a c:RE}(h:aa Γ a σ H fun x H1=>aa Γ c σ H1 fun y H2=>g_ Γ.K [x,y] H2 fun z H3=>fP Γ.K z H3 fun b=>QT b H3):aS Γ (.cf a c) σ H QT:=h
theorem aB(q:QA [] H):aO Γ [] σ H QA:=q
theorem aj{a:RE}{as:List RE}(h:aa Γ a σ H fun x H1=>aO Γ as σ H1 fun xs H2=>QA (x::xs) H2):aO Γ (a::as) σ H QA:=h
theorem bL{i:Nat}{e:RE}(h:aa Γ e σ H fun x H1=>ar Γ r D (σ.set i (some x)) H1):ar Γ (.asg i e::r) D σ H:=h
theorem ip{e:RE}(h:aa Γ e σ H fun _ H1=>ar Γ r D σ H1):ar Γ (.drop e::r) D σ H:=h
theorem cb{e:RE}(h:aa Γ e σ H D.rt):ar Γ (.ret e::r) D σ H:=h
end
end L2
namespace L2.B
open PySem PySem.Spec PyProof.Rows
structure lN (K:Frag) (cs:List Addr) (cu:Addr) (D:Addr) (j:Nat):Prop where
 cls:oo K D
 S9: ∀i c,cs[i]?=some c→kitOne K (.ref D) (.ref c)=some (decide (i=j))
 cu:kitOne K (.ref D) (.ref cu)=some true
 val:kitOne K (.ref D) (.type "ValueError")=some true
def gG:List Str:=["text","change","fit","place","side","mark","node","cursor","deed","letter","gone","hand","note"]
abbrev gW(c0 c1 c2 c3 c4 c5 c6 c7 c8 c9 fq fu fA cu:Addr):List (Str×V):=
 [("BadText", .ref c0),("BadChange", .ref c1),("BadFit", .ref c2),("NoPlace", .ref c3),("BadSide", .ref c4),("NoMark", .ref c5),("NoNode", .ref c6),("NoCursor", .ref c7),("BadDeed", .ref c8),("BadLetter", .ref c9),("NoLetter", .ref fq),("NoHand", .ref fu),("NoNote", .ref fA),("InkError", .ref cu)]
def sL(K:Frag)(cs:List Addr)(cu:Addr):Sp:=fun vs H Q E=> ∃ea D j,vs=[.ref ea]∧ExcAt H ea D∧lN K cs cu D j∧j<13∧ ∀H',aD H H'→Q (.str (gG.getD j "")) H'
theorem _root_.L2.ExcAt.same{H H':Hp}{ea D:Addr}(h:ExcAt H ea D)(s:aD H H'):ExcAt H' ea D:=ExcAt.keeps h fun b o u e=>s b _ e
def gH(H:Hp)(v:V)(p:Str×Bool):Prop:= ∃t,v= .ref t∧H t=some (.tup [.str p.1, .bl p.2])
theorem gH.mono{H H':Hp}{v:V}{p:Str×Bool}(h:gH H v p)(s:aD H H'):gH H' v p:=by
 obtain⟨t,e,h⟩:=h
 exact⟨t,e,s _ _ h⟩
theorem lO.mono{H H':Hp}(s:aD H H'): ∀{vs:List V} {ps:List (Str×Bool)},Paired (gH H) vs ps→Paired (gH H') vs ps
 | _,_, .nil=> .nil
 | _,_, .cons h r=> .cons (h.mono s) (lO.mono s r)
theorem lO.get{H:Hp}: ∀{vs:List V} {ps:List (Str×Bool)} {i:Nat} {v:V},Paired (gH H) vs ps→vs[i]?=some v→ ∃p,ps[i]?=some p∧gH H v p
 | _,_,i,v, .nil,e=>by simp at e
 | _,_,0,v, .cons h r,e=>by simp at e;subst e;exact⟨_,rfl,h⟩
 | _,_,i+1,v, .cons h r,e=>by
  obtain⟨p,a,b⟩:=lO.get (i:=i) r (by simpa using e)
  exact⟨p,by simpa using a,b⟩
theorem Paired.app{α β:Type}{R:α→β→Prop}: ∀{xs ez:List α} {ys gr:List β},Paired R xs ys→Paired R ez gr→Paired R (xs++ez) (ys++gr)
 | _,_,_,_, .nil,s=>s
 | _,_,_,_, .cons r t,s=> .cons r (Paired.app t s)
section
variable {Γ:av} {cs:List Addr} {cu ea D:Addr} {j:Nat}
theorem wV(hk:lN Γ.K cs cu D j)(hg: ∀i c,cs[i]?=some c→Γ.gv i= .ref c): ∀(ws:List (Str×Nat)) (σ:St) (H:Hp) (Q:List V→Hp→Prop),(∀p∈ws,p.2<cs.length)→σ[0]?=some (some (.ref ea))→ExcAt H ea D→
  (∀vs H',aD H H'→Paired (gH H') vs (ws.map fun p=> (p.1,decide (p.2=j)))→Q vs H')→aO Γ (ws.map fun p=> .tup [(.c (.str p.1)),(.cf (.v 0) (.g p.2))]) σ H Q
 | [],σ,H,Q,_,_,_,q=>q [] H (aD.refl _) .nil
 | (w,i)::ws,σ,H,Q,hl,h0,he,q=>by
  have hi:i<cs.length:=hl (w,i) (.head _)
  have hc:cs[i]?=some cs[i]:=by simp[hi]
  have key: ∀k:VK,g_ Γ.K [.ref ea, .ref cs[i]] H k→g_ Γ.K [.ref ea,Γ.gv i] H k:=by
   intro k;rw[hg i _ hc];exact id
  refine aj (dI (aj (au (aj (S8 (ag h0 (pE (key _ ⟨D,_,he,hk.cls, .inl ⟨_,rfl⟩,hk.S9 i _ hc,aB ⟨(by show 2≤sizeLine;decide),fun t ht=> ?_⟩⟩))))))))
  have s1:=sameNew (o:= .tup [.str w, .bl (decide (i=j))]) ht
  refine wV hk hg ws σ _ _ (fun p hp=>hl p (.tail _ hp)) h0 (he.same s1) fun vs H' s2 hp=> ?_
  exact q (.ref t::vs) H' (s1.trans s2) (.cons ⟨t,rfl,s2 _ _ aG⟩ hp)
theorem sM(hk:lN Γ.K cs cu D j)(hg: ∀i c,cs[i]?=some c→Γ.gv i= .ref c)(ws:List (Str×Nat)){l:Addr}{xs:List V}{ps:List (Str×Bool)}{H:Hp}{r:List RS}{E:Ends}(hl: ∀p∈ws,p.2<cs.length)(he:ExcAt H ea D)(h1:H l=some (.lst xs))
  (hp:Paired (gH H) xs ps) (hn:xs.length+ws.length≤1000) (q: ∀l' ez H',aD H H'→H' l'=some (.lst ez)→Paired (gH H') ez (ps++ws.map fun p=> (p.1,decide (p.2=j)))→ar Γ r E [some (.ref ea),some (.ref l'),none] H'):
  ar Γ (.asg 1 (.bin .Add (.v 1) (.lst (ws.map fun p=> .tup [(.c (.str p.1)),(.cf (.v 0) (.g p.2))])))::r) E [some (.ref ea),some (.ref l),none] H:=by
 refine⟨_,rfl,wV hk hg ws _ H _ hl rfl he fun vs H1 s1 hv=> ⟨?_,fun d hd=> ?_⟩⟩
 ·have:=Paired.length hv
  rw[List.length_map] at this
  exact eT (by omega)
 ·have e1:upd H1 d (.lst vs) l=some (.lst xs):=by rw[bC (c_ (s1 _ _ h1) hd)];exact s1 _ _ h1
  have sN:=Paired.length hv
  rw[List.length_map] at sN
  refine .inl ⟨l,d,xs,vs,rfl,rfl,e1,aG,eT (by omega),fun e pF=> ?_⟩
  have s2:=(sameNew (o:= .lst vs) hd).trans (sameNew (o:= .lst (xs++vs)) pF)
  exact q e (xs++vs) _ (s1.trans s2) aG (Paired.app (lO.mono (s1.trans s2) hp) (lO.mono s2 hv))
end
theorem S_(j:Nat)(hj:j<13):(((gG.zipIdx).map fun p=> (p.1,decide (p.2=j))).filter (·.2)).map (·.1)=[gG.getD j ""]∧(gG.getD j "").length≤10:=by
 match j,hj with
 | 0,_ | 1,_ | 2,_ | 3,_ | 4,_ | 5,_ | 6,_ | 7,_ | 8,_ | 9,_ | 10,_ | 11,_ | 12,_=>exact⟨rfl,by decide+kernel⟩
theorem Ta{Γ:av}{as:List RE}{σ:St}{H:Hp}{Q:VK}(h:aO Γ as σ H fun xs H1=>xs.length≤sizeLine∧ ∀p,H1 p=none→Q (.ref p) (upd H1 p (.lst xs))):aa Γ (.lst as) σ H Q:=h
theorem join_one(sep x:Str):Txt.join sep [x]=x:=S2 rfl
theorem Tb{α β:Type}(p:α→Bool)(f:α→β)(l:List α)(i:Nat)(v:α)(h:l[i]?=some v):((l.take (i+1)).filter p).map f=((l.take i).filter p).map f++ (if p v then [f v] else []):=by
 rw[S1 p l i v h,List.map_append]
 cases p v<;>rfl
theorem Tc{Γ:av}{i g:Nat}{ea D C:Addr}{b:Bool}{σ:St}{H:Hp}{Q:Bool→Hp→Prop}(h0:σ[i]?=some (some (.ref ea)))(he:ExcAt H ea D)(hc:oo Γ.K D)(hg:Γ.gv g= .ref C)(hk:kitOne Γ.K (.ref D) (.ref C)=some b)(q:Q b H):aS Γ (.cf (.v i) (.g g)) σ H Q:=by
 have key: ∀k:VK,g_ Γ.K [.ref ea, .ref C] H k→g_ Γ.K [.ref ea,Γ.gv g] H k:=by
  intro k;rw[hg];exact id
 exact E6 (ag h0 (pE (key _ ⟨D,b,he,hc, .inl ⟨_,rfl⟩,hk,q⟩)))
theorem Td{Γ:av}{i:Nat}{ea D:Addr}{n:String}{b:Bool}{σ:St}{H:Hp}{Q:Bool→Hp→Prop}(h0:σ[i]?=some (some (.ref ea)))(he:ExcAt H ea D)(hc:oo Γ.K D)(hk:kitOne Γ.K (.ref D) (.type n)=some b)(q:Q b H):aS Γ (.cf (.v i) (.c (.ty n))) σ H Q:=
 E6 (ag h0 (au ⟨D,b,he,hc, .inr ⟨_,rfl⟩,hk,q⟩))
theorem Te{Γ:av}{cs:List Addr}{cu ea D:Addr}{j:Nat}{H:Hp}{Q:VK}(hl:cs.length=13)(hg: ∀i c,cs[i]?=some c→Γ.gv i= .ref c)(hi:Γ.gv 13= .ref cu)(he:ExcAt H ea D)(hk:lN Γ.K cs cu D j)(hj:j<13)(q: ∀H',aD H H'→Q (.str (gG.getD j "")) H'):
  ar Γ cZ (Dn Q) [some (.ref ea),none,none] H:=by
 refine Of (Ta (wV hk hg [("text",0),("change",1),("fit",2)] _ H _ (by rw[hl];decide) rfl he fun vs H1 s1 hv=> ⟨?_,fun d hd=> ?_⟩))
 ·have:=Paired.length hv
  exact eT (by rw[this];simp)
 have s2:=s1.trans (sameNew (o:= .lst vs) hd)
 have E7:=lO.mono (sameNew (o:= .lst vs) hd) hv
 have sN:=Paired.length hv
 refine sM hk hg [("place",3),("side",4),("mark",5)] (by rw[hl];decide) (he.same s2) aG E7 (by rw[sN];simp) fun l3 ZU H3 s3 h3 wW=> ?_
 have E8:=Paired.length wW
 refine sM hk hg [("node",6),("cursor",7)] (by rw[hl];decide) ((he.same s2).same s3) h3 wW (by rw[E8];simp) fun l4 ZV H4 s4 h4 wX=> ?_
 have E9:=Paired.length wX
 refine sM hk hg [("deed",8),("letter",9)] (by rw[hl];decide) (((he.same s2).same s3).same s4) h4 wX (by rw[E9];simp) fun l5 ZW H5 s5 h5 wY=> ?_
 have E_:=Paired.length wY
 refine sM hk hg [("gone",10),("hand",11),("note",12)] (by rw[hl];decide) ((((he.same s2).same s3).same s4).same s5) h5 wY (by rw[E_];simp) fun l6 gI H6 s6 h6 Fb=> ?_
 have wZ:Paired (gH H6) gI ((gG.zipIdx).map fun p=> (p.1,decide (p.2=j))):=Fb
 obtain⟨pick,ZX⟩:=S_ j hj
 have Tf:((gG.zipIdx).map fun p=> (p.1,decide (p.2=j))).length=13:=by rw[List.length_map];rfl
 generalize ((gG.zipIdx).map fun p=> (p.1,decide (p.2=j)))=its at wZ pick Tf
 have Tg:=Paired.length wZ
 have Th:=((((he.same s2).same s3).same s4).same s5).same s6
 have Ti:=(((s2.trans s3).trans s4).trans s5).trans s6
 clear Fb wY wX wW E7 hv sN E8 E9 E_
 refine Og ⟨_,rfl,l6,rfl,⟨_,ao.of h6⟩,fun i m ys H7=>m=gI.length - i∧i≤gI.length∧H7=H6∧ys=(((its.take i).filter (·.2)).map (·.1)).map V.str,⟨_,rfl,Nat.zero_le _,rfl,rfl⟩, ?_⟩
 rintro i m ys H7 ⟨rfl,bY,rfl,rfl⟩
 by_cases aQ:i<gI.length
 ·refine .inr ⟨⟨gI,gI[i],ao.of h6,by simp[aQ]⟩, ?_⟩
  rintro x H8 ⟨rfl,hx⟩
  obtain⟨⟨w,b⟩,hp,t,rfl,ht⟩:=lO.get wZ (hx gI (ao.of h6))
  have tf:=Tb (·.2) (·.1) its i _ hp
  refine⟨t,_,rfl,aU.of ht,rfl,_,rfl, ?_⟩
  show if b=true then _ else _
  cases b with
  | true=>
   refine j5 ⟨_,rfl, ?_,gI.length - (i+1),by omega,rfl,aQ,rfl, ?_⟩
   ·rw[List.length_map,List.length_map]
    have:=List.length_filter_le (·.2) (its.take i)
    have:=List.length_take_le i its
    exact fX (by omega)
   ·rw[tf];simp
  | false=>
   refine qZ ⟨gI.length - (i+1),by omega,rfl,aQ,rfl, ?_⟩
   rw[tf];simp
 ·have lP:i=gI.length:=by omega
  subst lP
  refine .inl ⟨⟨gI,ao.of h6,Nat.le_refl _⟩,fun p hp=> ?_⟩
  rw[Tg,show its.take its.length=its from List.take_length ..,pick]
  have s7:=sameNew (o:= .lst (List.map V.str [gG.getD j ""])) hp
  have Fc:=Th.same s7
  refine Oh (Tc rfl Fc hk.cls hi hk.cu (Td rfl Fc hk.cls hk.val ?_))
  refine⟨rfl,_,rfl,[gG.getD j ""],ao.of aG, ?_, ?_⟩
  ·unfold JoinOk
   show(!decide (0+ (gG.getD j "").length+ (Str.ofString "/").length>sizeLine))=true
   rw[decide_eq_false];rfl
   have:(Str.ofString "/").length=1:=rfl
   have:(1000:Nat)≤sizeLine:=by decide
   omega
  ·rw[join_one]
   exact q _ (Ti.trans s7)
theorem Tj{K:Frag}{c0 c1 c2 c3 c4 c5 c6 c7 c8 c9 fq fu fA cu:Addr}(vs:List V)(H:Hp)(Q:VK)(h:sL K [c0,c1,c2,c3,c4,c5,c6,c7,c8,c9,fq,fu,fA] cu vs H Q E0):
  ar (aW K [] (gW c0 c1 c2 c3 c4 c5 c6 c7 c8 c9 fq fu fA cu)) cZ (Dn Q) (start fU vs) H:=by
 obtain⟨ea,D,j,rfl,he,hk,hj,q⟩:=h
 refine Te (Γ:=aW K [] (gW c0 c1 c2 c3 c4 c5 c6 c7 c8 c9 fq fu fA cu)) (cs:=[c0,c1,c2,c3,c4,c5,c6,c7,c8,c9,fq,fu,fA]) rfl (fun i c hi=> ?_) rfl he hk hj q
 have bY:i<13:=(List.getElem?_eq_some_iff.mp hi).1
 match i,bY with
 | 0,_ | 1,_ | 2,_ | 3,_ | 4,_ | 5,_ | 6,_ | 7,_ | 8,_ | 9,_ | 10,_ | 11,_ | 12,_=>exact congrArg V.ref (Option.some.inj hi)
end L2.B
namespace L2
open PySem PySem.Spec PyProof.Rows
theorem ah{α:Type _}{p:α→Prop}: ∀x∈ ([]:List α),p x:=fun _ h=>nomatch h
theorem aC{α:Type _}{p:α→Prop}{a:α}{l:List α}(h:p a)(t: ∀x∈l,p x): ∀x∈a::l,p x:=List.forall_mem_cons.2 ⟨h,t⟩
section
variable {P:Program} {w:World} {K:Frag}
end
section
variable {P:Program} {w:World} {K:Frag} {mg:Str→Option Value} {base:Heap} {k:Nat}
theorem bS.or{CX:aE}{f:Addr}{fd:FuncData}{ps:List Str}{a b:Sp}(A:bS P w K mg base CX k f fd ps a)(C:bS P w K mg base CX k f fd ps b):bS P w K mg base CX k f fd ps (B.d0 a b):=
 ⟨fun vs H Q E h=>h.elim (A.len vs H Q E) (C.len vs H Q E),fun A' outer s H args us vs Q E hr e0 hb hv hs=>hs.elim (A.run A' outer s H args us vs Q E hr e0 hb hv) (C.run A' outer s H args us vs Q E hr e0 hb hv)⟩
theorem bS.weak{CX:aE}{f:Addr}{fd:FuncData}{ps:List Str}{a b:Sp}(A:bS P w K mg base CX k f fd ps b)(h: ∀vs H Q E,a vs H Q E→b vs H Q E):bS P w K mg base CX k f fd ps a:=
 ⟨fun vs H Q E q=>A.len vs H Q E (h _ _ _ _ q),fun A' outer s H args us vs Q E hr e0 hb hv hs=>A.run A' outer s H args us vs Q E hr e0 hb hv (h _ _ _ _ hs)⟩
theorem bU.weak{x:Str}{a b:Sp}(T:bU P w K mg base k x b)(h: ∀vs H Q E,a vs H Q E→b vs H Q E):bU P w K mg base k x a:=by
 obtain⟨f,fd,ps,F,r⟩:=T
 exact⟨f,fd,ps,F.weak h,r⟩
open PySem.W in
theorem Tn{x:Str}{C:Addr}(X:K.In base)(G:base.Ns mainGlobals mg)(e:nsIn K mainGlobals x=some (some (.ref C)))(q:excIn K C [.type "ValueError", .type "Exception", .type "BaseException", .type "object"] "ValueError.__new__"=true):vL mg base (x,C):=by
 refine⟨_,_,_,_,⟨mg_of X G e, ?_⟩,PySem.F.excBase_ValueError⟩
 unfold excIn at q
 split at q
 ·rename_i dd cd sl ho
  split at q
  ·rename_i C' bm k0 k1 k2 k3 n k5 hm hs
   simp only[Bool.and_eq_true,beq_iff_eq,Bool.not_eq_true'] at q
   obtain⟨⟨⟨⟨⟨rfl,rfl⟩,Fd⟩,ht⟩,aF⟩,rN⟩:=q
   obtain⟨nm,bs,mro,ns,qn,hd,sn,sub,ab,col,del⟩:=cd
   dsimp only at hm Fd aF rN
   subst hm Fd
   obtain⟨sl⟩:=sl
   have sk:sl=_:=hs
   subst sk
   exact⟨bm,ns,nm,qn,bs,hd,sn,sub,ab,col,dd,k0,k1,k2,k3,k5,_,X _ _ ho, .of_isNs (isNs_of_in X aF),nsMap_none_of_in X aF rN,tail_of_in X ht⟩
  ·cases q
 ·cases q
end
namespace B
theorem To{K:Frag}{D cu c0 c1 c2 c3 c4 c5 c6 c7 c8 c9 fq fu fA:Addr}{b0 b1 b2 b3 b4 b5 b6 b7 b8 b9 w4 w5 w6:Bool}{j:Nat}(h:oo K D)(hi:kitOne K (.ref D) (.ref cu)=some true)(hv:kitOne K (.ref D) (.type "ValueError")=some true)
  (k0:kitOne K (.ref D) (.ref c0)=some b0) (k1:kitOne K (.ref D) (.ref c1)=some b1) (k2:kitOne K (.ref D) (.ref c2)=some b2) (k3:kitOne K (.ref D) (.ref c3)=some b3) (k4:kitOne K (.ref D) (.ref c4)=some b4)
  (k5:kitOne K (.ref D) (.ref c5)=some b5) (k6:kitOne K (.ref D) (.ref c6)=some b6) (k7:kitOne K (.ref D) (.ref c7)=some b7) (k8:kitOne K (.ref D) (.ref c8)=some b8) (k9:kitOne K (.ref D) (.ref c9)=some b9)
  (pG:kitOne K (.ref D) (.ref fq)=some w4) (pH:kitOne K (.ref D) (.ref fu)=some w5) (pI:kitOne K (.ref D) (.ref fA)=some w6)
  (e:[b0,b1,b2,b3,b4,b5,b6,b7,b8,b9,w4,w5,w6]=(List.range 13).map fun i=>decide (i=j):=by decide):lN K [c0,c1,c2,c3,c4,c5,c6,c7,c8,c9,fq,fu,fA] cu D j:=by
 refine⟨h,fun i c hc=> ?_,hi,hv⟩
 have bY:i<13:=(List.getElem?_eq_some_iff.mp hc).1
 have eb:=congrArg (fun l=>l[i]?) e
 match i,bY with
 | 0,_=>cases hc;have eb:some b0=some (decide (0=j)):=eb;rw[k0,eb]
 | 1,_=>cases hc;have eb:some b1=some (decide (1=j)):=eb;rw[k1,eb]
 | 2,_=>cases hc;have eb:some b2=some (decide (2=j)):=eb;rw[k2,eb]
 | 3,_=>cases hc;have eb:some b3=some (decide (3=j)):=eb;rw[k3,eb]
 | 4,_=>cases hc;have eb:some b4=some (decide (4=j)):=eb;rw[k4,eb]
 | 5,_=>cases hc;have eb:some b5=some (decide (5=j)):=eb;rw[k5,eb]
 | 6,_=>cases hc;have eb:some b6=some (decide (6=j)):=eb;rw[k6,eb]
 | 7,_=>cases hc;have eb:some b7=some (decide (7=j)):=eb;rw[k7,eb]
 | 8,_=>cases hc;have eb:some b8=some (decide (8=j)):=eb;rw[k8,eb]
 | 9,_=>cases hc;have eb:some b9=some (decide (9=j)):=eb;rw[k9,eb]
 | 10,_=>cases hc;have eb:some w4=some (decide (10=j)):=eb;rw[pG,eb]
 | 11,_=>cases hc;have eb:some w5=some (decide (11=j)):=eb;rw[pH,eb]
 | 12,_=>cases hc;have eb:some w6=some (decide (12=j)):=eb;rw[pI,eb]
end B
end L2
namespace L2.B
end L2.B
namespace L2.B
open PySem PySem.Spec PyProof.Rows
end L2.B
namespace L2.B
end L2.B
namespace L2
open PySem PySem.Spec PyProof.Rows
section
variable {Γ:av} {D:Ends} {σ:St} {H:Hp} {r:List RS} {Q:VK} {QA:List V→Hp→Prop} {QT:Bool→Hp→Prop}
theorem bZ{c:RE}{t e:List RS}(h:aS Γ c σ H fun b H1=>if b=true then ar Γ t {D with nx:=ar Γ r D} σ H1 else ar Γ e {D with nx:=ar Γ r D} σ H1):ar Γ (.ite c t e::r) D σ H:=h
theorem cP{op:CmpOp}{a b:RE}(h:aa Γ a σ H fun x H1=>aa Γ b σ H1 fun y H2=>bK Γ.K op x y H2 fun z H3=> ∃k,z= .bl k∧QT k H3):aS Γ (.cmp op a b) σ H QT:=h
theorem jD{m:fb}{o a:RE}(h:aa Γ o σ H fun x H1=>nW Γ.K (rG m) x H1∧aa Γ a σ H1 fun y H2=>rF Γ.K m x [y] H2 Q):aa Γ (.cc m o [a]) σ H Q:=h
theorem w9{K:Frag}{x y:Str}{Q:VK}(q:Q (.bl (x==y)) H):bK K .Eq (.str x) (.str y) H Q:=by
 show Q (.bl (false ^^ decide (V.str x=V.str y))) H
 rw[Bool.false_xor,qO];exact q
theorem Tp{K:Frag}{x y:Str}{Q:VK}(q:Q (.bl (x !=y)) H):bK K .NotEq (.str x) (.str y) H Q:=by
 show Q (.bl (true ^^ decide (V.str x=V.str y))) H
 rw[Bool.true_xor,qO];exact q
end
end L2
namespace L2.B
open PySem PySem.Spec PyProof.Rows
def jE(v:V)(lo hi:Int)(H:Hp):Prop:=pB v H∨ ∃i,v= .int i∧(i<lo∨hi<i)
theorem jE.same{v:V}{lo hi:Int}{H H':Hp}(h:jE v lo hi H)(s:aD H H'):jE v lo hi H':=by
 rcases h with h | h
 ·exact .inl (h.same s)
 ·exact .inr h
def fY:Sp:=fun vs H Q E=> ∃(v:V) (lo hi:Int),vs=[v, .int lo, .int hi]∧((∃i,v= .int i∧lo≤i∧i≤hi∧Q (.bl true) H)∨(jE v lo hi H∧Q (.bl false) H))
theorem Tq{K:Frag}(vs:List V)(H:Hp)(Q:VK)(E:XK)(h:fY vs H Q E):ar (aW K [("is_whole",fk)] [] (E:=E)) vY (Dn Q) (start vX vs) H:=by
 have chain: ∀(i lo hi:Int) (b:Bool) (H:Hp),decide (lo≤i∧i≤hi)=b→Q (.bl b) H→aa (aW K [("is_whole",fk)] [] (E:=E)) (.hJ .LtE .LtE (.v 1) (.v 0) (.v 2)) [some (.int i),some (.int lo),some (.int hi)] H Q:=by
  intro i lo hi b H hb q
  refine⟨_,rfl,_,rfl,trivial,_,rfl, ?_⟩
  refine oa (fun h1=> ?_) (fun h1=> ?_)
  ·refine⟨_,rfl,trivial, ?_⟩
   have jB:lo≤i:=of_decide_eq_true h1
   have e:decide (i≤hi)=b:=by rw[←hb];simp[jB]
   show Q (.bl (decide (i≤hi))) H
   rw[e];exact q
  ·have jB: ¬lo≤i:=fun z=>h1 (decide_eq_true z)
   have e:b=false:=by rw[←hb];simp[jB]
   have e2:decide (lo≤i)=false:=decide_eq_false jB
   rw[e] at q
   first
    | exact q
    | (show Q (.bl (decide (lo≤i))) H;rw[e2];exact q)
 obtain⟨v,lo,hi,rfl,⟨i,rfl,h1,h2,q⟩ | ⟨hn | ⟨i,rfl,hb⟩,q⟩⟩:=h
 ·exact⟨_,rfl,_,rfl, .inl ⟨i,rfl,_,rfl,j5 (chain i lo hi true H (by simp[h1,h2]) q)⟩⟩
 ·exact⟨_,rfl,_,rfl, .inr ⟨hn,_,rfl,qZ q⟩⟩
 ·exact⟨_,rfl,_,rfl, .inl ⟨i,rfl,_,rfl,j5 (chain i lo hi false H (by rw[decide_eq_false];rintro⟨a,b⟩;omega) q)⟩⟩
end L2.B
namespace L2
open PySem PySem.Spec PyProof.Rows
section
variable {Γ:av} {D:Ends} {σ:St} {H:Hp} {r:List RS} {Q:VK} {QA:List V→Hp→Prop} {QT:Bool→Hp→Prop}
theorem fZ{K:Frag}{b:Bool}{QB:Bool→Prop}(h:QB b):fP K (.bl b) H QB:=h
theorem df{a:RE}(h:aS Γ a σ H fun b H1=>QT (!b) H1):aS Γ (.not a) σ H QT:=h
theorem lQ{j:Nat}{as:List RE}(sp:Sp)(hs:Γ.fs j=sp)(h:aO Γ as σ H fun vs H1=>sp vs H1 (fun x H2=>fP Γ.K x H2 fun b=>QT b H2) Γ.E):aS Γ (.call j as) σ H QT:=by
 subst hs
 show aO Γ as σ H fun vs H1=>Γ.fs j (vs++ []) H1 (fun x H2=>fP Γ.K x H2 fun b=>QT b H2) Γ.E
 have e:(fun(vs:List V) (H1:Hp)=>Γ.fs j (vs++ []) H1 (fun x H2=>fP Γ.K x H2 fun b=>QT b H2) Γ.E)=fun vs H1=>Γ.fs j vs H1 (fun x H2=>fP Γ.K x H2 fun b=>QT b H2) Γ.E:=by
  funext vs H1;rw[List.append_nil]
 rw[e];exact h
theorem gJ{a b:RE}(h:aS Γ a σ H fun c H1=>if c=true then QT true H1 else aS Γ b σ H1 QT):aS Γ (.or [a,b]) σ H QT:=h
theorem w_{a b:RE}(h:aS Γ a σ H fun c H1=>if c=true then aS Γ b σ H1 QT else QT false H1):aS Γ (.and [a,b]) σ H QT:=h
end
end L2
namespace L2.B
open PySem PySem.Spec PyProof.Rows
section
variable {Γ:av} {σ:St} {H:Hp} {Q:VK} {QT:Bool→Hp→Prop} {K:Frag}
theorem xa{a b:RE}{r:List RE}(h:aS Γ a σ H fun c H1=>if c=true then QT true H1 else aS Γ (.or (b::r)) σ H1 QT):aS Γ (.or (a::b::r)) σ H QT:=h
theorem Ts{a:RE}(h:aS Γ a σ H QT):aS Γ (.or [a]) σ H QT:=h
theorem jF{T:Ty}{a:RE}(h:aa Γ a σ H fun x H1=>bw T x H1 fun b=>QT b H1):aS Γ (.ej T a) σ H QT:=by
 show dv Γ.K (cG (jn T) (cj (aa Γ a) (cj (tC (.ty T.nm)) eO))) σ H QT
 have e: ∀(q:VK),(fun(x:V) (H1:Hp)=>bw T x H1 fun b=>q (.bl b) H1)=fun x H1=>jn T [x, .ty T.nm] H1 q:=by
  intro q;funext x H1;simp[jn]
 show aa Γ a σ H fun x H1=>jn T [x, .ty T.nm] H1 fun v H2=>fP Γ.K v H2 fun b=>QT b H2
 rw[←e];exact h
theorem bN{sd:Addr→List (Key×V)→Prop}{a:Addr}{xs:List V}{i:Int}{v:V}(h:H a=some (.tup xs))(e:ef xs i=some v)(q:Q v H):jo K sd (.ref a) (.int i) H Q:=
 .inr (.inl ⟨_,_,_,_,rfl,rfl,aU.of h,e,q⟩)
theorem gK{x y:Int}(q:Q (.bl (decide (x=y))) H):bK K .Eq (.int x) (.int y) H Q:=by
 show Q (.bl (false ^^ decide (V.int x=V.int y))) H
 rw[Bool.false_xor,show decide (V.int x=V.int y)=decide (x=y) from decide_eq_decide.mpr ⟨fun z=>by injection z,fun z=>by rw[z]⟩];exact q
theorem sO{x y:Int}(q:Q (.bl (!decide (x=y))) H):bK K .NotEq (.int x) (.int y) H Q:=by
 show Q (.bl (true ^^ decide (V.int x=V.int y))) H
 rw[Bool.true_xor,show decide (V.int x=V.int y)=decide (x=y) from decide_eq_decide.mpr ⟨fun z=>by injection z,fun z=>by rw[z]⟩];exact q
theorem iZ{i j:Int}(h:Q (.int (i+j)) H):kc K .Add (.int i) (.int j) H Q:=h
end
end L2.B
namespace L2.N
open PySem PySem.Spec PyProof.Rows L2.B
end L2.N
namespace L2.N
open PySem PySem.Spec L2.B
theorem cU{Γ:av}{D:Ends}{σ:St}{H:Hp}{r:List RS}(h:ar Γ r D σ H):ar Γ [] {D with nx:=ar Γ r D} σ H:=h
end L2.N
namespace L2.B
open PySem PySem.Spec PyProof.Rows
theorem pJ{K:Frag}{σ:St}{H:Hp}{QQ:List V→Hp→Addr→Prop}{te:TE}{fv:List (Str×Nat)}{a:Addr}{xs:List V}(ha:H a=some (.lst xs))(hl:xs.length≤1000000)(P:Nat→List V→Hp→Prop)(p0:P 0 [] H)
  (step: ∀i x ys H2,xs[i]?=some x→aD H H2→P i ys H2→ ∀Q':VK,(∀y H3,aD H2 H3→P (i+1) (ys++ [y]) H3→Q' y H3)→te (some x::bX σ fv) H2 Q')
  (fin: ∀ys H2 p,aD H H2→P xs.length ys H2→H2 p=none→QQ ys H2 p): ∃W:Nat→Nat→List V→Hp→Prop,(∃m,W 0 m [] H)∧ ∀i m ys H2,W i m ys H2→
   ((dt K a).stop i H2∧ ∀p,H2 p=none→QQ ys H2 p)∨
   ((dt K a).go i H2∧ ∀x H3,(dt K a).ed i H2 x H3→jj K none x H3 fun zs=>j6 none (zs.map some++bX σ fv) H3 fun b H5=>
    if b=true then te (zs.map some++bX σ fv) H5 fun y H6=>ys.length<sizeLine∧ ∃m',m'<m∧W (i+1) m' (ys++ [y]) H6 else ∃m',m'<m∧W (i+1) m' ys H5):=by
 refine⟨fun i m ys H2=>m=xs.length - i∧i≤xs.length∧ys.length=i∧aD H H2∧P i ys H2,⟨_,rfl,Nat.zero_le _,rfl,aD.refl _,p0⟩, ?_⟩
 rintro i m ys H2 ⟨rfl,hi,hy,s,p⟩
 by_cases aQ:i<xs.length
 ·refine .inr ⟨⟨xs,xs[i],ao.of (s _ _ ha),by simp[aQ]⟩, ?_⟩
  rintro x H3 ⟨rfl,hx⟩
  have dE:=hx xs (ao.of (s _ _ ha))
  exact step i x ys _ dE s p _ fun y H4 s4 p4=> ⟨fX (by omega),xs.length - (i+1),by omega,rfl,aQ,by simp[hy],s.trans s4,p4⟩
 ·have lP:i=xs.length:=by omega
  subst lP
  exact .inl ⟨⟨xs,ao.of (s _ _ ha),Nat.le_refl _⟩,fun q hq=>fin ys _ q s p hq⟩
end L2.B
namespace L2.N
open PySem PySem.Spec L2.B
section
variable {Γ:av} {D:Ends} {σ:St} {H:Hp} {r:List RS} {Q:VK}
theorem sP{x:RE}(A B:VK)(gp: ∀v H1,A v H1↔B v H1)(ha:aa Γ x σ H A):aa Γ x σ H B:=by
 have:A=B:=funext fun x=>funext fun H1=>propext (gp x H1)
 rw[←this];exact ha
theorem pK{fv:List (Str×Nat)}{x elt:RE}(h:aa Γ x σ H fun v H1=> ∃a,v= .ref a∧(∃xs,ao Γ.K H1 a xs)∧ ∃W:Nat→Nat→List V→Hp→Prop,(∃m,W 0 m [] H1)∧ ∀i m ys H2,W i m ys H2→
   ((dt Γ.K a).stop i H2∧ ∀p,H2 p=none→Q (.ref p) (upd H2 p (.lst ys)))∨
   ((dt Γ.K a).go i H2∧ ∀x H3,(dt Γ.K a).ed i H2 x H3→jj Γ.K none x H3 fun zs=>j6 none (zs.map some++bX σ fv) H3 fun b H5=>
    if b=true then aa Γ.calm elt (zs.map some++bX σ fv) H5 fun y H6=>ys.length<sizeLine∧ ∃m',m'<m∧W (i+1) m' (ys++ [y]) H6 else ∃m',m'<m∧W (i+1) m' ys H5)):aa Γ (.comp none fv .list [x] none elt) σ H Q:=sP (x:=x) _ _ (fun _ _=>Iff.rfl) h
theorem d4{x:RE}(h:aa Γ x σ H fun v H1=>n6 Γ.K v H1 fun n=>Q (.int n) H1):aa Γ (.blt .len [x]) σ H Q:=h
end
section
variable {Γ:av} {D:Ends} {σ:St} {H:Hp} {r:List RS} {Q:VK} {QT:Bool→Hp→Prop}
end
theorem Tt{Γ:av}{D:Ends}{σ:St}{H:Hp}{r body:List RS}{i:Nat}{x:RE}(h:aa Γ x σ H fun v H1=> ∃a,v= .ref a∧(∃xs,ao Γ.K H1 a xs)∧ ∃W:Nat→Nat→St→Hp→Prop,(∃m,W 0 m σ H1)∧ ∀j m σ H,W j m σ H→
  ((dt Γ.K a).stop j H∧({D with nx:=ar Γ r D}:Ends).nx σ H)∨((dt Γ.K a).go j H∧ ∃N:St→Hp→Prop,(∀σ' H',N σ' H'→ ∃m',m'<m∧W (j+1) m' σ' H')∧ ∀x H',(dt Γ.K a).ed j H x H'→cW i x σ H' fun σ2 H2=>ar Γ body {({D with nx:=ar Γ r D}:Ends) with nx:=N,ct:=N,bk:=({D with nx:=ar Γ r D}:Ends).nx} σ2 H2)):
  ar Γ (.mO i .list [x] body::r) D σ H:=sP (x:=x) _ _ (fun _ _=>Iff.rfl) h
theorem pick{its:List V}{j:Int}(h0:0≤j)(h1:j<its.length): ∃v∈its,ef its j=some v:=by
 have Fe:j.toNat<its.length:=by omega
 refine⟨its[j.toNat],List.getElem_mem Fe, ?_⟩
 have e:=mH (xs:=its) (j:=j.toNat) (v:=its[j.toNat]) (by simp[Fe])
 rw[show((j.toNat:Nat):Int)=j by omega] at e
 exact e
theorem xb{α β:Type}{R:α→β→Prop}: ∀{ps:List β} {p:β} {xs:List α},Paired R xs (ps++ [p])→ ∃sQ x,xs=sQ++ [x]∧Paired R sQ ps∧R x p
 | [],p,_, .cons h .nil=> ⟨[],_,rfl, .nil,h⟩
 | q::ps,p,_, .cons h r=>by
  obtain⟨sQ,x,e,a,b⟩:=xb (ps:=ps) r
  exact⟨_::sQ,x,by rw[e];rfl, .cons h a,b⟩
section
variable {Γ:av} {D:Ends} {σ:St} {H:Hp} {r:List RS} {Q:VK}
theorem lR{i:Int}(h:Q (.int (-i)) H):aa Γ (.neg (.c (.int i))) σ H Q:=h
theorem Tu{o ix e:RE}(h:aa Γ e σ H fun v H1=>aa Γ o σ H1 fun x H2=>aa Γ ix σ H2 fun y H3=>uk x y v H3 fun H4=>ar Γ r D σ H4):ar Γ (.set o ix e::r) D σ H:=h
theorem xf{body:List RS}{is:List Nat}{x:RE}(h:aa Γ x σ H fun v H1=> ∃a,v= .ref a∧(∃xs,ao Γ.K H1 a xs)∧ ∃W:Nat→Nat→St→Hp→Prop,(∃m,W 0 m σ H1)∧ ∀j m σ H,W j m σ H→
  ((dt Γ.K a).stop j H∧({D with nx:=ar Γ r D}:Ends).nx σ H)∨((dt Γ.K a).go j H∧ ∃N:St→Hp→Prop,(∀σ' H',N σ' H'→ ∃m',m'<m∧W (j+1) m' σ' H')∧ ∀x H',(dt Γ.K a).ed j H x H'→hX Γ.K is.length (gy is) x σ H' fun σ2 H2=>ar Γ body {({D with nx:=ar Γ r D}:Ends) with nx:=N,ct:=N,bk:=({D with nx:=ar Γ r D}:Ends).nx} σ2 H2)):
  ar Γ (.kg is .list [x] body::r) D σ H:=sP (x:=x) _ _ (fun _ _=>Iff.rfl) h
end
theorem xg(n:Nat):gm (n+1) (-1)=some n:=by
 unfold gm
 have: ¬(0:Int)≤ -1:=by decide
 rw[if_neg this,if_pos (by omega)]
 congr 1
 omega
theorem xh{K:Frag}{H:Hp}{Q:VK}{x y:Int}(q:Q (.bl (decide (y<x))) H):bK K .Gt (.int x) (.int y) H Q:=⟨trivial,q⟩
section
variable {Γ:av} {D:Ends} {H H2:Hp} {a w2 e:Addr} {xs:List V} {l r:List Nat} {ps:List Pt} {i:Nat} {σ:St}
end
section
variable {Γ:av} {D:Ends} {σ:St} {H:Hp} {r:List RS} {Q:VK}
theorem Tv{a lo hi:RE}(h:aa Γ a σ H fun x H1=>aa Γ lo σ H1 fun i H2=> ∃i':Int,i= .int i'∧aa Γ hi σ H2 fun j H3=> ∃j':Int,j= .int j'∧mQ Γ.K x (some i') (some j') H3 Q):aa Γ (.sl a (some lo) (some hi)) σ H Q:=h
theorem Tw{body:List RS}{i:Nat}{x:RE}(h:aa Γ x σ H fun v H1=> ∃n:Int,[v]=[.int n]∧ -(2 ^ 62)≤n∧n<2 ^ 62∧ ∃W:Nat→Nat→St→Hp→Prop,(∃m,W 0 m σ H1)∧ ∀j m σ H,W j m σ H→
  ((gZ 0 n.toNat).stop j H∧({D with nx:=ar Γ r D}:Ends).nx σ H)∨((gZ 0 n.toNat).go j H∧ ∃N:St→Hp→Prop,(∀σ' H',N σ' H'→ ∃m',m'<m∧W (j+1) m' σ' H')∧ ∀x H',(gZ 0 n.toNat).ed j H x H'→cW i x σ H' fun σ2 H2=>ar Γ body {({D with nx:=ar Γ r D}:Ends) with nx:=N,ct:=N,bk:=({D with nx:=ar Γ r D}:Ends).nx} σ2 H2)):
  ar Γ (.mO i .gh [x] body::r) D σ H:=sP (x:=x) _ _ (fun _ _=>Iff.rfl) h
end
theorem Tx{K:Frag}{H:Hp}{Q:VK}{i j:Int}(h:Q (.int (i - j)) H):kc K .Sub (.int i) (.int j) H Q:=⟨trivial,h⟩
theorem lS{K:Frag}{H:Hp}{Q:VK}{x y:Int}(q:Q (.bl (decide (x≤y))) H):bK K .LtE (.int x) (.int y) H Q:=⟨trivial,q⟩
theorem ltI{K:Frag}{H:Hp}{Q:VK}{x y:Int}(q:Q (.bl (decide (x<y))) H):bK K .Lt (.int x) (.int y) H Q:=⟨trivial,q⟩
theorem Ff{K:Frag}{H:Hp}{Q:VK}{x y:Int}(q:Q (.bl (decide (y≤x))) H):bK K .GtE (.int x) (.int y) H Q:=⟨trivial,q⟩
theorem Fg{Γ:av}{σ:St}{H:Hp}{Q:VK}{t a b:RE}(h:aS Γ t σ H fun c H1=>if c=true then aa Γ a σ H1 Q else aa Γ b σ H1 Q):aa Γ (.mM t a b) σ H Q:=h
section
variable {K:Frag} {CP C:Addr}
end
section
variable {K:Frag} {CP C:Addr}
end
end L2.N
namespace L2.B
open PySem PySem.Spec PyProof.Rows
end L2.B
namespace L2
open PySem PySem.Spec PyProof.Rows
end L2
namespace L2.B
open PySem PySem.Spec PyProof.Rows
end L2.B
namespace L2.B
end L2.B
namespace L2.B
open PySem PySem.Spec PyProof.Rows
theorem Tz{K:Frag}{a b:Addr}{xs ys:List V}{g:TG}{tb:TS}{D:Ends}{σ:St}{H:Hp}(hl:xs.length=ys.length)(Pv:Nat→St→Hp→Prop)(h0:Pv 0 σ H)(ha: ∀i σ H,Pv i σ H→ao K H a xs∧ao K H b ys)
  (hs: ∀i x y σ H T,xs[i]?=some x→ys[i]?=some y→Pv i σ H→H T=none→g (.ref T) σ (upd H T (.tup [x,y])) fun σ2 H2=>tb {D with nx:=Pv (i+1),ct:=Pv (i+1),bk:=D.nx} σ2 H2) (hd: ∀σ H,Pv xs.length σ H→D.nx σ H):
  ∃W:Nat→Nat→St→Hp→Prop,(∃m,W 0 m σ H)∧ ∀i m σ H,W i m σ H→
   ((jq K a b).stop i H∧D.nx σ H)∨((jq K a b).go i H∧ ∃N:St→Hp→Prop,(∀σ' H',N σ' H'→ ∃m',m'<m∧W (i+1) m' σ' H')∧ ∀x H',(jq K a b).ed i H x H'→g x σ H' fun σ2 H2=>tb {D with nx:=N,ct:=N,bk:=D.nx} σ2 H2):=by
 refine⟨fun i m σ H=>m=xs.length - i∧i≤xs.length∧Pv i σ H,⟨xs.length,by simp,Nat.zero_le _,h0⟩, ?_⟩
 rintro i m σ H ⟨rfl,hi,p⟩
 obtain⟨q1,q2⟩:=ha i σ H p
 by_cases aQ:i<xs.length
 ·have xi:i<ys.length:=by omega
  refine .inr ⟨⟨xs,ys,q1,q2,aQ,xi⟩,Pv (i+1),fun σ' H' p'=> ⟨xs.length - (i+1),by omega,rfl,aQ,p'⟩,fun x H' y=> ?_⟩
  obtain⟨T,hT,rfl,y⟩:=y
  have e:=y xs ys xs[i] ys[i] q1 q2 (by simp[aQ]) (by simp[xi])
  subst e
  exact hs i xs[i] ys[i] σ H T (by simp[aQ]) (by simp[xi]) p hT
 ·have e:i=xs.length:=by omega
  subst e
  exact .inl ⟨⟨xs,ys,q1,q2,by omega⟩,hd σ H p⟩
section
variable {H:Hp} {Q:VK} {E:XK}
end
theorem TB{K:Frag}(vs:List V)(H:Hp)(Q:VK)(E:XK)(h:jC vs H Q E):ar (aW K [] [] (E:=E)) vZ (Dn Q) (start r_ vs) H:=by
 obtain⟨i,rfl,q⟩:=h
 exact⟨_,rfl,rfl,_,rfl,j5 ⟨_,rfl,rfl,q⟩⟩
end L2.B
namespace L2
open PySem PySem.Spec PyProof.Rows
theorem TC{Γ:av}{D:Ends}{σ:St}{H:Hp}{r:List RS}{is:List Nat}{e:RE}(h:aa Γ e σ H fun x H1=>hX Γ.K is.length (gy is) x σ H1 (ar Γ r D)):ar Γ (.ou is e::r) D σ H:=h
theorem TF{K:Frag}{i j:Nat}{t:Addr}{v w:V}{σ:St}{H:Hp}{Q:St→Hp→Prop}(ht:H t=some (.tup [v,w]))(q:Q ((σ.set i (some v)).set j (some w)) H):hX K [i,j].length (gy [i,j]) (.ref t) σ H Q:=
 ⟨t,_,rfl, .inl (aU.of ht),rfl,_,_,rfl,_,_,rfl,rfl,q⟩
end L2
namespace L2.B
open PySem PySem.Spec PyProof.Rows
section
variable {H:Hp} {Q:VK} {E:XK}
end
end L2.B
namespace L2.N
open PySem PySem.Spec L2.B
section
variable {K:Frag} {CP C:Addr} {H H':Hp} {p dp s dx lt lb lf:Addr} {v:V} {t:Tr} {ts:List Str} {x:Str}
end
section
variable {K:Frag} {H:Hp} {Q:VK}
end
section
variable {K:Frag} {H:Hp} {Q:VK} {Γ:av} {σ:St} {D:Ends}
theorem f_{a b:RE}{r:List RE}(h:aa Γ a σ H fun x H1=> ∃c,x= .bl c∧if c=true then aa Γ (.and (b::r)) σ H1 Q else Q (.bl false) H1):aa Γ (.and (a::b::r)) σ H Q:=h
theorem ni{a:RE}(h:aa Γ a σ H Q):aa Γ (.and [a]) σ H Q:=h
theorem jG{a b:RE}(h:aa Γ a σ H fun x H1=> ∃c,x= .bl c∧if c=true then Q (.bl true) H1 else aa Γ b σ H1 Q):aa Γ (.or [a,b]) σ H Q:=h
theorem sS{op bM:CmpOp}{a b d:RE}(h:aa Γ a σ H fun x H1=>aa Γ b σ H1 fun y H2=>bK Γ.K op x y H2 fun z H3=> ∃k,z= .bl k∧(if k=true then aa Γ d σ H3 fun w H4=>bK Γ.K bM y w H4 Q else Q (.bl false) H3)):aa Γ (.hJ op bM a b d) σ H Q:=h
theorem sT{op bM:CmpOp}{a b d:RE}{QT:Bool→Hp→Prop}(h:aa Γ (.hJ op bM a b d) σ H fun z H3=> ∃k,z= .bl k∧QT k H3):aS Γ (.hJ op bM a b d) σ H QT:=h
theorem xj{as:List RE}{QT:Bool→Hp→Prop}(h:aO Γ as σ H fun vs H1=>se Γ.K vs H1 fun x H2=>fP Γ.K x H2 fun b=>QT b H2):aS Γ (.xt v7 as) σ H QT:=h
theorem Fh{as:List RE}{QT:Bool→Hp→Prop}(h:aO Γ as σ H fun vs H1=>sf Γ.K vs H1 fun x H2=>fP Γ.K x H2 fun b=>QT b H2):aS Γ (.xt v8 as) σ H QT:=h
end
def gV:Option Nat→V
 | none=> .ai
 | some n=> .int n
def eW(H:Hp)(t:Addr)(a h:Nat)(g:Option Nat):Prop:=H t=some (.tup [.int a, .int h,gV g])
theorem TH(g:Option Nat):decide (gV g= .ai)=g.isNone:=by cases g<;>simp[gV]
section
variable {K:Frag}
def eI:Sp:=fun vs H Q E=> ∃(t:Addr) (a h:Nat) (g:Option Nat),vs=[.ref t]∧eW H t a h g∧Q (.int (min a h:Nat)) H
theorem TJ(vs:List V)(H:Hp)(Q:VK)(E:XK)(h:eI vs H Q E):ar (aW K [] [] (E:=E)) v_ (Dn Q) (start v9 vs) H:=by
 obtain⟨t,a,h,g,rfl,ha,q⟩:=h
 refine cb (fo (aj (ba (ag rfl (au (bN ha rfl (aj (ba (ag rfl (au (bN ha rfl (aB ?_))))))))))))
 show Q (.int (if (h:Int) < (a:Int) then (h:Int) else (a:Int))) H
 rw[show(if (h:Int) < (a:Int) then (h:Int) else (a:Int))=((min a h:Nat):Int) by split<;>omega]
 exact q
def gL:Sp:=fun vs H Q E=> ∃(t:Addr) (a h:Nat) (g:Option Nat),vs=[.ref t]∧eW H t a h g∧Q (.int (max a h:Nat)) H
theorem TK(vs:List V)(H:Hp)(Q:VK)(E:XK)(h:gL vs H Q E):ar (aW K [] [] (E:=E)) wb (Dn Q) (start wa vs) H:=by
 obtain⟨t,a,h,g,rfl,ha,q⟩:=h
 refine cb (fo (aj (ba (ag rfl (au (bN ha rfl (aj (ba (ag rfl (au (bN ha rfl (aB ?_))))))))))))
 show Q (.int (if (h:Int) > (a:Int) then (h:Int) else (a:Int))) H
 rw[show(if (h:Int) > (a:Int) then (h:Int) else (a:Int))=((max a h:Nat):Int) by split<;>omega]
 exact q
def pL:Sp:=fun vs H Q E=> ∃(t:Addr) (a h:Nat) (g:Option Nat),vs=[.ref t]∧eW H t a h g∧Q (.bl (decide (a=h))) H
theorem TL(vs:List V)(H:Hp)(Q:VK)(E:XK)(h:pL vs H Q E):ar (aW K [] [] (E:=E)) wd (Dn Q) (start wc vs) H:=by
 obtain⟨t,a,h,g,rfl,ha,q⟩:=h
 refine cb (de (ba (ag rfl (au (bN ha rfl (ba (ag rfl (au (bN ha rfl (gK ?_))))))))))
 rw[show decide ((a:Int)=(h:Int))=decide (a=h) by rw[Bool.eq_iff_iff];simp only[decide_eq_true_eq];omega]
 exact q
def jH:Sp:=fun vs H Q E=> ∃g:Option Nat,vs=[gV g]∧Q (.bl true) H
theorem TM(vs:List V)(H:Hp)(Q:VK)(E:XK)(h:jH vs H Q E):ar (aW K [("is_whole",fk)] [] (E:=E)) oU (Dn Q) (start sg vs) H:=by
 obtain⟨g,rfl,q⟩:=h
 refine cb (jG (de (ag rfl (au ⟨rfl,_,rfl, ?_⟩))))
 rw[TH]
 cases g with
 | none=>exact iT q rfl
 | some n=>
  refine iF ?_ rfl
  refine f_ (aX fk rfl (aj (ag rfl (aB ⟨_,rfl, .inl ⟨_,rfl,_,rfl,iT ?_ rfl⟩⟩))))
  refine ni (de (ag rfl (au (N.Ff ?_))))
  rw[decide_eq_true (show(0:Int)≤ (n:Nat) by omega)]
  exact q
def iq:Sp:=fun vs H Q E=> ∃(t:Addr) (a h:Nat) (g:Option Nat) (n:Nat),vs=[.ref t, .int n]∧eW H t a h g∧a≤n∧h≤n∧Q (.bl true) H
theorem TN(vs:List V)(H:Hp)(Q:VK)(E:XK)(h:iq vs H Q E):ar (aW K [("is_between",fY),("is_goal",jH)] [] (E:=E)) oV (Dn Q) (start sh vs) H:=by
 obtain⟨t,a,h,g,n,rfl,ha,h1,h2,q⟩:=h
 refine bZ (gJ (df (jF (ag rfl (sI ha (iF ?_ rfl))))))
 refine cP (d4 (ag rfl (.inr ⟨_,aU.of ha,au (sO ⟨_,rfl,iF (cU ?_) (by simp)⟩)⟩)))
 refine cb (f_ (aX fY rfl (aj (ba (ag rfl (au (bN ha rfl (aj (au (aj (ag rfl (aB ⟨_,_,_,rfl, .inl ⟨_,rfl,by omega,by omega,_,rfl,iT ?_ rfl⟩⟩))))))))))))
 refine f_ (aX fY rfl (aj (ba (ag rfl (au (bN ha rfl (aj (au (aj (ag rfl (aB ⟨_,_,_,rfl, .inl ⟨_,rfl,by omega,by omega,_,rfl,iT ?_ rfl⟩⟩)))))))))))
 exact ni (aX jH rfl (aj (ba (ag rfl (au (bN ha rfl (aB ⟨g,rfl,q⟩)))))))
end
section
variable {K:Frag} {CP C:Addr} {H:Hp} {Q:VK} {Γ:av} {σ:St}
end
section
variable {K:Frag} {CP C:Addr}
theorem Fi{Γ:av}{σ:St}{H:Hp}{i:Nat}{b:Bool}{QT:Bool→Hp→Prop}(h:σ[i]?=some (some (.bl b)))(q:QT b H):aS Γ (.v i) σ H QT:=⟨_,h,q⟩
end
theorem Fj{K:Frag}{i j k:Nat}{t:Addr}{u v w:V}{σ:St}{H:Hp}{Q:St→Hp→Prop}(ht:H t=some (.tup [u,v,w]))(q:Q (((σ.set i (some u)).set j (some v)).set k (some w)) H):hX K [i,j,k].length (gy [i,j,k]) (.ref t) σ H Q:=
 ⟨t,_,rfl, .inl (aU.of ht),rfl,_,_,rfl,_,_,rfl,_,_,rfl,rfl,q⟩
theorem pM{Γ:av}{σ:St}{Q:VK}{H:Hp}{a hi:RE}(h:aa Γ a σ H fun x H1=>aa Γ hi σ H1 fun j H3=> ∃j':Int,j= .int j'∧mQ Γ.K x none (some j') H3 Q):aa Γ (.sl a none (some hi)) σ H Q:=h
theorem TQ(xs:List V)(n:Nat):cz xs none (some (n:Int))=xs.take n:=by
 unfold cz
 rw[HT.ue,HT.uf]
 show(xs.drop 0).take (min n xs.length - 0)=_
 rw[List.drop_zero,Nat.sub_zero]
 by_cases h:n≤xs.length
 ·rw[Nat.min_eq_left h]
 ·rw[Nat.min_eq_right (by omega),List.take_of_length_le (Nat.le_refl _),List.take_of_length_le (by omega)]
section
variable {K:Frag}
section
variable {Γ:av} {D:Ends} {H:Hp} {r:List RS} {x:Str} {u2 u3 u4:Option V}
end
end
section
variable {K:Frag}
def gD:Option Nat→PyData
 | none=> .none
 | some n=> .int n
theorem TU(H:Hp)(g:Option Nat):Is H (gD g) (gV g):=by cases g<;>rfl
theorem xk(a h:Nat)(g:Option Nat):SeqAt.shaped (.tuple [.int a, .int h,gD g])=true:=by cases g<;>rfl
theorem xl{H:Hp}{t:Addr}{a h:Nat}{g:Option Nat}(ht:eW H t a h g):Is H (.tuple [.int a, .int h,gD g]) (.ref t):=⟨t,_,rfl,ht, .int a,[.int h,gV g],rfl,rfl, .int h,[gV g],rfl,rfl,gV g,[],rfl,TU H g,rfl⟩
theorem TV{H:Hp}{Q:VK}{t t':Addr}{a h:Nat}{g:Option Nat}(ht:eW H t a h g)(i4:eW H t' a h g)(q:Q (.bl false) H):bK K .NotEq (.ref t) (.ref t') H Q:=by
 refine⟨_,_,xl ht,xl i4,xk a h g,xk a h g, ?_⟩
 rw[SeqAt.eqv_refl _ (SeqAt.canLay_of_shaped (xk a h g))];exact q
end
abbrev Cu:=Nat×Nat×Option Nat
def fB(H:Hp)(v:V)(c:Cu):Prop:= ∃t,v= .ref t∧eW H t c.1 c.2.1 c.2.2
theorem fB.same{H H':Hp}{v:V}{c:Cu}(h:fB H v c)(s:aD H H'):fB H' v c:=by
 obtain⟨t,e,h⟩:=h
 exact⟨t,e,s _ _ h⟩
abbrev aZ(H:Hp):List V→List Cu→Prop:=Paired (fB H)
theorem aZ.same{H H':Hp}{vs:List V}{cs:List Cu}(h:aZ H vs cs)(s:aD H H'):aZ H' vs cs:=L2.Paired.dB h fun _ _ x=>x.same s
theorem eY{H:Hp}: ∀{vs:List V} {cs:List Cu} {i:Nat} {v:V},aZ H vs cs→vs[i]?=some v→ ∃c,cs[i]?=some c∧fB H v c
 | [],[],i,v, .nil,h=>by simp at h
 | v::vs,c::cs,0,w, .cons x r,h=>by cases h;exact⟨c,rfl,x⟩
 | v::vs,c::cs,i+1,w, .cons x r,h=>eY (vs:=vs) (cs:=cs) (i:=i) r (by simpa using h)
theorem nj{H:Hp}: ∀{vs:List V} {cs:List Cu} {i:Nat} {c:Cu},aZ H vs cs→cs[i]?=some c→ ∃v,vs[i]?=some v∧fB H v c
 | [],[],i,c, .nil,h=>by simp at h
 | v::vs,c::cs,0,w, .cons x r,h=>by cases h;exact⟨v,rfl,x⟩
 | v::vs,c::cs,i+1,w, .cons x r,h=>nj (vs:=vs) (cs:=cs) (i:=i) r (by simpa using h)
def keyOf(c:Cu)(k:Nat):T3:=((min c.1 c.2.1:Nat),(max c.1 c.2.1:Nat),(k:Nat))
def dz:Nat→List Cu→List T3
 | _,[]=> []
 | k,c::cs=>keyOf c k::dz (k+1) cs
theorem jI: ∀(k:Nat) (cs:List Cu),(dz k cs).length=cs.length
 | _,[]=>rfl
 | k,c::cs=>by simp[dz,jI (k+1) cs]
theorem xn: ∀{k:Nat} {cs:List Cu} {t:T3},t∈dz k cs→ ∃i c,cs[i]?=some c∧t=keyOf c (k+i)
 | k,c::cs,t,h=>by
  rcases List.mem_cons.mp h with rfl | h
  ·exact⟨0,c,rfl,rfl⟩
  ·obtain⟨i,c',e,rfl⟩:=xn h
   exact⟨i+1,c',by simpa using e,by rw[show k+1+i=k+ (i+1) by omega]⟩
theorem keys_nodup: ∀(k:Nat) (cs:List Cu),(dz k cs).Nodup
 | _,[]=>List.nodup_nil
 | k,c::cs=>by
  refine List.nodup_cons.mpr ⟨fun h=> ?_,keys_nodup (k+1) cs⟩
  obtain⟨i,c',_,e⟩:=xn h
  have:((k:Nat):Int)=((k+1+i:Nat):Int):=congrArg (fun t:T3=>t.2.2) e
  omega
theorem xo: ∀(k:Nat) (cs:List Cu) (c:Cu),dz k (cs++ [c])=dz k cs++ [keyOf c (k+cs.length)]
 | k,[],c=>rfl
 | k,d::cs,c=>by
  show keyOf d k::dz (k+1) (cs++ [c])=_
  rw[xo (k+1) cs c]
  show _=keyOf d k::(dz (k+1) cs++ [keyOf c (k+ (cs.length+1))])
  rw[show k+1+cs.length=k+ (cs.length+1) by omega]
def eQ(cs:List Cu)(us:List T3):Prop:=us.Perm (dz 0 cs)∧us.Pairwise fun a b=>cK a b=true
theorem Fl: ∀{us ws:List T3},us.Perm ws→(us.Pairwise fun a b=>cK a b=true)→(ws.Pairwise fun a b=>cK a b=true)→us=ws
 | [],ws,h,_,_=> (List.nil_perm.mp h).symm
 | u::us,[],h,_,_=>absurd h.length_eq (by simp)
 | u::us,w::ws,h,hu,hw=>by
  have e:u=w:=by
   by_cases z:u=w
   ·exact z
   ·have h1:u∈ws:=by
     rcases List.mem_cons.mp (h.subset (.head _)) with x | x
     ·exact absurd x z
     ·exact x
    have h2:w∈us:=by
     rcases List.mem_cons.mp (h.symm.subset (.head _)) with x | x
     ·exact absurd x.symm z
     ·exact x
    have a:=(List.pairwise_cons.mp hw).1 u h1
    have b:=(List.pairwise_cons.mp hu).1 w h2
    rw[Ej a] at b;cases b
  subst e
  rw[Fl (List.Perm.cons_inv h) (List.pairwise_cons.mp hu).2 (List.pairwise_cons.mp hw).2]
theorem eQ.eq{cs:List Cu}{us ws:List T3}(h:eQ cs us)(h':eQ cs ws):us=ws:=Fl (h.1.trans h'.1.symm) h.2 h'.2
def near(lo hi b e:Nat):Bool:=if b=hi then (decide (lo=hi) || decide (b=e)) else decide (b<hi)
abbrev Gr:=Nat×Nat×List Nat
def bu(gs:List Gr)(t:T3):List Gr:=match gs.getLast? with
 | none=>gs++ [(t.1.toNat,t.2.1.toNat,[t.2.2.toNat])]
 | some g=>if near g.1 g.2.1 t.1.toNat t.2.1.toNat=true then gs.dropLast++ [(g.1,max g.2.1 t.2.1.toNat,g.2.2++ [t.2.2.toNat])] else gs++ [(t.1.toNat,t.2.1.toNat,[t.2.2.toNat])]
def groups(us:List T3):List Gr:=us.foldl bu []
theorem Fm(us:List T3)(t:T3):groups (us++ [t])=bu (groups us) t:=by unfold groups;rw[List.foldl_append];rfl
theorem Fn(n:Nat): ∀(us:List T3) (gs:List Gr),(∀t∈us,t.2.2.toNat<n)→(∀g∈gs,g.2.2≠ []∧ ∀k∈g.2.2,k<n)→ ∀g∈us.foldl bu gs,g.2.2≠ []∧ ∀k∈g.2.2,k<n
 | [],gs,_,h=>h
 | t::us,gs,hu,h=>by
  refine Fn n us _ (fun x hx=>hu x (.tail _ hx)) ?_
  have ht:=hu t (.head _)
  have one: ∀g∈gs++ [((t.1.toNat,t.2.1.toNat,[t.2.2.toNat]):Gr)],g.2.2≠ []∧ ∀k∈g.2.2,k<n:=by
   intro g hg
   rcases List.mem_append.mp hg with hg | hg
   ·exact h g hg
   ·rw[List.mem_singleton.mp hg]
    exact⟨by simp,fun k hk=>by rw[List.mem_singleton.mp hk];exact ht⟩
  unfold bu
  split
  ·exact one
  ·rename_i g0 e0
   split
   ·intro g hg
    rcases List.mem_append.mp hg with hg | hg
    ·exact h g (List.dropLast_subset _ hg)
    ·rw[List.mem_singleton.mp hg]
     have pN:=h g0 (List.mem_of_getLast? e0)
     refine⟨by simp,fun k hk=> ?_⟩
     rcases List.mem_append.mp hk with hk | hk
     ·exact pN.2 k hk
     ·rw[List.mem_singleton.mp hk];exact ht
   ·exact one
def least:List Nat→Nat
 | []=>0
 | k::r=>r.foldl min k
theorem Fo: ∀(r:List Nat) (k:Nat),r.foldl min k≤k∧(∀x∈r,r.foldl min k≤x)∧(r.foldl min k=k∨r.foldl min k∈r)
 | [],k=> ⟨Nat.le_refl _,(fun x h=>by cases h), .inl rfl⟩
 | x::r,k=>by
  obtain⟨a,b,c⟩:=Fo r (min k x)
  refine⟨Nat.le_trans a (Nat.min_le_left _ _),fun y hy=> ?_, ?_⟩
  ·rcases List.mem_cons.mp hy with rfl | hy
   ·exact Nat.le_trans a (Nat.min_le_right _ _)
   ·exact b y hy
  ·rcases c with c | c
   ·have e:(x::r).foldl min k=min k x:=c
    by_cases z:k≤x
    ·exact .inl (by rw[e];exact Nat.min_eq_left z)
    ·exact .inr (by rw[e,Nat.min_eq_right (by omega)];exact .head _)
   ·exact .inr (.tail _ c)
theorem xp{ms:List Nat}(h:ms≠ []):least ms∈ms∧ ∀x∈ms,least ms≤x:=by
 cases ms with
 | nil=>exact absurd rfl h
 | cons k r=>
  obtain⟨a,b,c⟩:=Fo r k
  refine⟨?_,fun x hx=> ?_⟩
  ·rcases c with c | c
   ·show r.foldl min k∈k::r
    rw[c];exact .head _
   ·exact .tail _ c
  ·rcases List.mem_cons.mp hx with rfl | hx
   ·exact a
   ·exact b x hx
def oneOf(cs:List Cu)(g:Gr):Cu:=
 let f:=(cs[least g.2.2]?).getD (0,0,none)
 if g.2.2.length=1 then f else if f.2.1<f.1 then (g.2.1,g.1,none) else (g.1,g.2.1,none)
def settle(cs:List Cu)(us:List T3):List Cu:=(groups us).map (oneOf cs)
theorem Fp{K:Frag}{σ:St}{H:Hp}{QQ:List V→Hp→Addr→Prop}{te:TE}{fv:List (Str×Nat)}{a:Addr}{xs:List V}(ha:H a=some (.lst xs))(hl:xs.length≤1000000)(P:Nat→List V→Hp→Prop)(p0:P 0 [] H)(pm: ∀i ys H2 H3,P i ys H2→aD H2 H3→P i ys H3)
  (step: ∀i x ys H2,xs[i]?=some x→aD H H2→P i ys H2→ ∀Q':VK,(∀y H3,aD H2 H3→P (i+1) (ys++ [y]) H3→Q' y H3)→te (some (.int (i:Nat))::some x::bX σ fv) H2 Q')
  (fin: ∀ys H2 p,aD H H2→P xs.length ys H2→H2 p=none→QQ ys H2 p): ∃W:Nat→Nat→List V→Hp→Prop,(∃m,W 0 m [] H)∧ ∀i m ys H2,W i m ys H2→
   ((oz K a).stop i H2∧ ∀p,H2 p=none→QQ ys H2 p)∨
   ((oz K a).go i H2∧ ∀x H3,(oz K a).ed i H2 x H3→jj K (some 2) x H3 fun zs=>j6 none (zs.map some++bX σ fv) H3 fun b H5=>
    if b=true then te (zs.map some++bX σ fv) H5 fun y H6=>ys.length<sizeLine∧ ∃m',m'<m∧W (i+1) m' (ys++ [y]) H6 else ∃m',m'<m∧W (i+1) m' ys H5):=by
 refine⟨fun i m ys H2=>m=xs.length - i∧i≤xs.length∧ys.length=i∧aD H H2∧P i ys H2,⟨_,rfl,Nat.zero_le _,rfl,aD.refl _,p0⟩, ?_⟩
 rintro i m ys H2 ⟨rfl,hi,hy,s,p⟩
 by_cases aQ:i<xs.length
 ·refine .inr ⟨⟨xs,ao.of (s _ _ ha),aQ⟩, ?_⟩
  rintro x H3 ⟨T,hT,rfl,hx⟩
  have dE:=hx xs xs[i] (ao.of (s _ _ ha)) (List.getElem?_eq_getElem aQ)
  subst dE
  have s3:=sameNew (o:= .tup [V.int (i:Nat),xs[i]]) hT
  refine⟨T,_,rfl,aU.of aG,rfl, ?_⟩
  exact step i xs[i] ys _ (List.getElem?_eq_getElem aQ) (s.trans s3) (pm _ _ _ _ p s3) _ fun y H4 s4 p4=> ⟨fX (by omega),xs.length - (i+1),by omega,rfl,aQ,by simp[hy],(s.trans s3).trans s4,p4⟩
 ·have lP:i=xs.length:=by omega
  subst lP
  exact .inl ⟨⟨xs,ao.of (s _ _ ha),rfl⟩,fun q hq=>fin ys _ q s p hq⟩
section
variable {K:Frag}
def gM:Sp:=fun vs H Q E=> ∃(lo hi:Nat) (t:Addr) (a h:Nat) (g:Option Nat),vs=[.int lo, .int hi, .ref t]∧eW H t a h g∧Q (.bl (near lo hi (min a h) (max a h))) H
theorem TX(vs:List V)(H:Hp)(Q:VK)(E:XK)(hh:gM vs H Q E):ar (aW K [("begin_of",eI),("is_empty",pL)] [] (E:=E)) wk (Dn Q) (start wj vs) H:=by
 obtain⟨lo,hi,t,a,h,g,rfl,ha,q⟩:=hh
 refine bZ (cP (aX eI rfl (aj (ag rfl (aB ⟨t,a,h,g,rfl,ha,ag rfl (gK ⟨_,rfl, ?_⟩)⟩)))))
 unfold near at q
 by_cases e:min a h=hi
 ·rw[if_pos e] at q
  refine iT ?_ (decide_eq_true (by omega))
  refine cb (jG (de (ag rfl (ag rfl (gK ⟨_,rfl, ?_⟩)))))
  by_cases e2:lo=hi
  ·rw[decide_eq_true e2] at q
   exact iT q (decide_eq_true (by omega))
  ·rw[decide_eq_false e2] at q
   refine iF (aX pL rfl (aj (ag rfl (aB ⟨t,a,h,g,rfl,ha, ?_⟩)))) (decide_eq_false (by omega))
   rw[show decide (a=h)=(false || decide (min a h=max a h)) by rw[Bool.false_or,Bool.eq_iff_iff];simp only[decide_eq_true_eq];omega]
   exact q
 ·rw[if_neg e] at q
  refine iF (cU ?_) (decide_eq_false (by omega))
  refine cb (de (aX eI rfl (aj (ag rfl (aB ⟨t,a,h,g,rfl,ha,ag rfl (N.ltI ?_)⟩)))))
  rw[show decide (((min a h:Nat):Int) < (hi:Nat))=decide (min a h<hi) by rw[Bool.eq_iff_iff];simp only[decide_eq_true_eq];omega]
  exact q
def pO:Sp:=fun vs H Q E=> ∃(t:Addr) (a h:Nat) (g:Option Nat),vs=[.ref t]∧eW H t a h g∧Q (.bl (decide (h<a))) H
theorem TY(vs:List V)(H:Hp)(Q:VK)(E:XK)(hh:pO vs H Q E):ar (aW K [] [] (E:=E)) wz (Dn Q) (start wy vs) H:=by
 obtain⟨t,a,h,g,rfl,ha,q⟩:=hh
 refine cb (de (ba (ag rfl (au (bN ha rfl (ba (ag rfl (au (bN ha rfl (N.ltI ?_))))))))))
 rw[show decide (((h:Nat):Int) < (a:Nat))=decide (h<a) by rw[Bool.eq_iff_iff];simp only[decide_eq_true_eq];omega]
 exact q
def nums(ms:List Nat):List V:=ms.map fun k=>V.int (k:Nat)
def sU(mk:List V→HO)(G:Addr)(H:Hp)(v:V)(g:Gr):Prop:= ∃t m,v= .ref t∧H t=some (mk [.int (g.1:Nat), .int (g.2.1:Nat), .ref m])∧H m=some (.lst (nums g.2.2))∧t≠G∧m≠G
theorem sU.but{mk:List V→HO}{G:Addr}{H H':Hp}{v:V}{g:Gr}(x:sU mk G H v g)(b:bz G H H'):sU mk G H' v g:=by
 obtain⟨t,m,e,h1,h2,n1,n2⟩:=x
 exact⟨t,m,e,b _ _ h1 n1,b _ _ h2 n2,n1,n2⟩
abbrev dg(mk:List V→HO)(G:Addr)(H:Hp):List V→List Gr→Prop:=Paired (sU mk G H)
theorem dg.but{mk:List V→HO}{G:Addr}{H H':Hp}{vs:List V}{gs:List Gr}(x:dg mk G H vs gs)(b:bz G H H'):dg mk G H' vs gs:=L2.Paired.dB x fun _ _ y=>y.but b
theorem eJ{α β:Type}{R:α→β→Prop}: ∀{xs:List α} {ys:List β} {x:α} {y:β},Paired R xs ys→R x y→Paired R (xs++ [x]) (ys++ [y])
 | [],[],x,y, .nil,h=> .cons h .nil
 | _::_,_::_,x,y, .cons a r,h=> .cons a (eJ r h)
theorem jJ{c:Addr}{H H':Hp}(s:aD H H'):bz c H H':=fun b o e _=>s b o e
theorem Fq{Γ:av}{σ:St}{H:Hp}{Q:VK}{as:List RE}(h:aO Γ as σ H fun vs H1=>sr Γ.K vs H1 Q):aa Γ (.xt sv as) σ H Q:=h
structure jK (cs:List Cu) (t:T3) (c:Cu):Prop where
 at':cs[t.2.2.toNat]?=some c
 e1:t.1=((min c.1 c.2.1:Nat):Int)
 e2:t.2.1=((max c.1 c.2.1:Nat):Int)
 e3:t.2.2=((t.2.2.toNat:Nat):Int)
theorem pP{cs:List Cu}{us:List T3}(S:eQ cs us){t:T3}(h:t∈us): ∃c,jK cs t c:=by
 obtain⟨i,c,e,rfl⟩:=xn (S.1.subset h)
 rw[Nat.zero_add]
 exact⟨c,by show cs[(((i:Nat):Int)).toNat]?=some c;rw[Int.toNat_natCast];exact e,rfl,rfl,by show((i:Nat):Int)=(((i:Nat):Int).toNat:Nat);rw[Int.toNat_natCast]⟩
abbrev sV:List (Str×Sp):=[("begin_of",eI),("end_of",gL),("meet",gM)]
def Fs:List RS:=[.ite (.and [(.cmp .Gt (.blt .len [(.v 2)]) (.c (.int 0))),(.call 2 [(.ix (.ix (.v 2) (.neg (.c (.int 1)))) (.c (.int 0))),(.ix (.ix (.v 2) (.neg (.c (.int 1)))) (.c (.int 1))),(.ix (.v 0) (.v 5))])]) [.asg 6 (.cc .pop (.v 2) []),
   .drop (.cc .append (.v 2) [(.tup [(.ix (.v 6) (.c (.int 0))),(.blt .max [(.ix (.v 6) (.c (.int 1))),(.v 4)]),(.bin .Add (.ix (.v 6) (.c (.int 2))) (.lst [(.v 5)]))])])] [.drop (.cc .append (.v 2) [(.tup [(.v 3),(.v 4),(.lst [(.v 5)])])])]]
theorem TZ{gs:List Gr}{t:T3}:(bu gs t).length≤gs.length+1:=by
 unfold bu
 split
 ·simp
 ·split
  ·simp[List.length_dropLast]
  ·simp
theorem T_{Γ:av}{σ:St}{H:Hp}{Q:VK}{i:Nat}{l:Addr}{xs:List V}{y:V}(hσ:σ[i]?=some (some (.ref l)))(hl:H l=some (.lst (xs++ [y])))(q:Q y (upd H l (.lst xs))):aa Γ (.cc .pop (.v i) []) σ H Q:=by
 refine⟨_,hσ, .inl ⟨rfl,_,ao.of hl⟩,_,y,hl,by simp, ?_⟩
 rw[List.dropLast_concat];exact q
theorem Ua{E:XK}{D:Ends}{H:Hp}{l O G:Addr}{vs:List V}{cs:List Cu}{t:T3}{c:Cu}{zs:List V}{gs:List Gr}{u6:Option V}(hl:H l=some (.lst vs))(bB:aZ H vs cs)(nl:l≠G)(k:jK cs t c)(hG:H G=some (.lst zs))(gv:dg .tup G H zs gs)(hn:gs.length≤1000)
  (aF: ∀g∈gs,g.2.2.length≤1000)
  (hD: ∀(y6:Option V) (cv:List V) H',bz G H H'→H' G=some (.lst cv)→dg .tup G H' cv (bu gs t)→D.nx [some (.ref l),some (.ref O),some (.ref G),some (.int t.1),some (.int t.2.1),some (.int t.2.2),y6] H'):
  ar (aW K sV [] (E:=E)) Fs D [some (.ref l),some (.ref O),some (.ref G),some (.int t.1),some (.int t.2.1),some (.int t.2.2),u6] H:=by
 have lz:=Paired.length gv
 have fresh:bu gs t=gs++ [(t.1.toNat,t.2.1.toNat,[t.2.2.toNat])]→ar (aW K sV [] (E:=E)) [.drop (.cc .append (.v 2) [(.tup [(.v 3),(.v 4),(.lst [(.v 5)])])])] {D with nx:=ar (aW K sV [] (E:=E)) [] D} [some (.ref l),some (.ref O),some (.ref G),some (.int t.1),some (.int t.2.1),some (.int t.2.2),u6] H:=by
  intro e
  refine ip (jD (ag rfl ⟨.inl ⟨rfl,_,ao.of hG⟩,dI (aj (ag rfl (aj (ag rfl (aj (cC (aj (ag rfl (aB ⟨(by show 1≤sizeLine;decide),fun m fm=>aB ⟨(by show 3≤sizeLine;decide),fun T fT=> ?_⟩⟩)))))))))⟩))
  have s1:=sameNew (o:= .lst [V.int t.2.2]) fm
  have s2:=sameNew (o:= .tup [V.int t.1,V.int t.2.1,V.ref m]) fT
  have gN:=s1.trans s2
  have nm:m≠G:=fun z=>by rw[z,hG] at fm;cases fm
  have nT:T≠G:=fun z=>by rw[z,s1 _ _ hG] at fT;cases fT
  refine⟨zs,gN _ _ hG,fX (by omega), ?_⟩
  have b3:bz G (upd (upd H m (.lst [V.int t.2.2])) T (.tup [V.int t.1,V.int t.2.1,V.ref m])) (upd (upd (upd H m (.lst [V.int t.2.2])) T (.tup [V.int t.1,V.int t.2.1,V.ref m])) G (.lst (zs++ [.ref T]))):=bz.upd
  have bb:bz G H (upd (upd (upd H m (.lst [V.int t.2.2])) T (.tup [V.int t.1,V.int t.2.1,V.ref m])) G (.lst (zs++ [.ref T]))):=(jJ gN).trans b3
  refine hD u6 (zs++ [.ref T]) _ bb aG ?_
  rw[e]
  refine eJ (gv.but bb) ⟨T,m,rfl, ?_, ?_,nT,nm⟩
  ·rw[b3 _ _ aG nT,show t.1=((t.1.toNat:Nat):Int) by rw[k.e1,Int.toNat_natCast],show t.2.1=((t.2.1.toNat:Nat):Int) by rw[k.e2,Int.toNat_natCast]]
   simp only[Int.toNat_natCast]
  ·rw[b3 _ _ (s2 _ _ aG) nm]
   show some (HO.lst [V.int t.2.2])=some (HO.lst [V.int ((t.2.2.toNat:Nat):Int)])
   rw[←k.e3]
 refine bZ (w_ (cP (d4 (ag rfl (.inl ⟨_,ao.of hG,au (N.xh ⟨_,rfl, ?_⟩)⟩)))))
 rcases List.eq_nil_or_concat gs with eg | ⟨gb,g,eg⟩
 ·subst eg
  cases gv
  refine iF (iF (fresh ?_) rfl) rfl
  unfold bu;rfl
 ·rw[List.concat_eq_append] at eg
  subst eg
  obtain⟨cE,z,rfl,nk,gz⟩:=xb gv
  obtain⟨T,m,rfl,hT,hm,nT,nm⟩:=gz
  have nq:(gb++ [g]).getLast?=some g:=by simp
  refine iT ?_ (decide_eq_true (by rw[List.length_append];simp))
  have gc:ef (cE++ [V.ref T]) (-1)=some (V.ref T):=by
   unfold ef
   rw[List.length_append]
   show(gm (cE.length+1) (-1)).bind _=_
   rw[xg];simp
  obtain⟨v,hv,tc,rfl,hc⟩:=nj bB k.at'
  have Ub:ef vs t.2.2=some (.ref tc):=by rw[k.e3];exact mH hv
  refine lQ gM rfl (aj (ba (ba (ag rfl (lR (eV hG gc (au (bN hT rfl (aj (ba (ba (ag rfl (lR (eV hG gc (au (bN hT rfl (aj (ba (ag rfl (ag rfl (eV hl Ub (aB ?_))))))))))))))))))))))
  refine⟨g.1,g.2.1,tc,_,_,_,rfl,hc,fZ ?_⟩
  have en:near g.1 g.2.1 (min c.1 c.2.1) (max c.1 c.2.1)=near g.1 g.2.1 t.1.toNat t.2.1.toNat:=by rw[k.e1,k.e2,Int.toNat_natCast,Int.toNat_natCast]
  rw[en]
  cases Ft:near g.1 g.2.1 t.1.toNat t.2.1.toNat with
  | false=>
   refine iF (fresh ?_) rfl
   unfold bu;rw[nq];simp only[Ft];rfl
  | true=>
   refine iT ?_ rfl
   have Uc:bu (gb++ [g]) t=gb++ [(g.1,max g.2.1 t.2.1.toNat,g.2.2++ [t.2.2.toNat])]:=by
    unfold bu;rw[nq];simp only[Ft,if_true,List.dropLast_concat]
   refine bL (T_ rfl hG ?_)
   have b1:bz G H (upd H G (.lst cE)):=bz.upd
   have gd:upd H G (.lst cE) G=some (.lst cE):=aG
   have sW:=b1 _ _ hT nT
   have Fu:=b1 _ _ hm nm
   generalize upd H G (.lst cE)=H1 at b1 gd sW Fu⊢
   refine ip (jD (ag rfl ⟨.inl ⟨rfl,_,ao.of gd⟩,dI (aj (ba (ag rfl (au (bN sW rfl (aj (fo (aj (ba (ag rfl (au (bN sW rfl (aj (ag rfl (aB ?_)))))))))))))))⟩))
   have lg:=aF g (by simp)
   refine aj (br (ba (ag rfl (au (bN sW rfl (cC (aj (ag rfl (aB ⟨(by show 1≤sizeLine;decide),fun n1 f1=> ?_⟩)))))))))
   have s2:=sameNew (o:= .lst [V.int t.2.2]) f1
   refine .inl ⟨m,n1,nums g.2.2,[V.int t.2.2],rfl,rfl,s2 _ _ Fu,aG,eT (by show(nums g.2.2).length+1≤_;unfold nums;rw[List.length_map];omega),fun m2 f2=>aB ⟨(by show 3≤sizeLine;decide),fun T2 f3=> ?_⟩⟩
   have s3:=sameNew (o:= .lst (nums g.2.2++ [V.int t.2.2])) f2
   have dA:=s2.trans s3
   obtain⟨bY,pQ⟩: ∃bY:Int,bY=(if t.2.1> ((g.2.1:Nat):Int) then t.2.1 else ((g.2.1:Nat):Int)):=⟨_,rfl⟩
   have xq:bY=((max g.2.1 t.2.1.toNat:Nat):Int):=by
    rw[pQ,k.e2,Int.toNat_natCast]
    split<;>omega
   have xr:(upd (upd H1 n1 (.lst [V.int t.2.2])) m2 (.lst (nums g.2.2++ [V.int t.2.2]))) T2=none:=f3
   have s4:=sameNew (o:= .tup [V.int (g.1:Nat),V.int bY,V.ref m2]) xr
   have eK:=dA.trans s4
   have pR:m2≠G:=fun z=>by rw[z,s2 _ _ gd] at f2;cases f2
   have pS:T2≠G:=fun z=>by rw[z,dA _ _ gd] at xr;cases xr
   show rF K .append (.ref G) [.ref T2] (upd (upd (upd H1 n1 (.lst [V.int t.2.2])) m2 (.lst (nums g.2.2++ [V.int t.2.2]))) T2 (.tup [V.int (g.1:Nat),V.int (if t.2.1> ((g.2.1:Nat):Int) then t.2.1 else ((g.2.1:Nat):Int)),V.ref m2])) _
   rw[←pQ]
   refine⟨cE,eK _ _ gd,fX (by rw[List.length_append] at hn;have:=Paired.length nk;omega), ?_⟩
   have pT:=s4 _ _ (aG (H:=upd H1 n1 (.lst [V.int t.2.2])) (a:=m2) (o:= .lst (nums g.2.2++ [V.int t.2.2])))
   have pU:(upd (upd (upd H1 n1 (.lst [V.int t.2.2])) m2 (.lst (nums g.2.2++ [V.int t.2.2]))) T2 (.tup [V.int (g.1:Nat),V.int bY,V.ref m2])) T2=some (.tup [V.int (g.1:Nat),V.int bY,V.ref m2]):=aG
   generalize (upd (upd (upd H1 n1 (.lst [V.int t.2.2])) m2 (.lst (nums g.2.2++ [V.int t.2.2]))) T2 (.tup [V.int (g.1:Nat),V.int bY,V.ref m2]))=H4 at eK pT pU⊢
   have b5:bz G H4 (upd H4 G (.lst (cE++ [.ref T2]))):=bz.upd
   have bb:bz G H (upd H4 G (.lst (cE++ [.ref T2]))):=(b1.trans (jJ eK)).trans b5
   refine hD _ (cE++ [.ref T2]) _ bb aG ?_
   rw[Uc]
   refine eJ (dg.but nk bb) ⟨T2,m2,rfl, ?_, ?_,pS,pR⟩
   ·rw[b5 _ _ pU pS,xq]
   ·rw[b5 _ _ pT pR]
    show some (HO.lst (nums g.2.2++ [V.int t.2.2]))=some (HO.lst (nums (g.2.2++ [t.2.2.toNat])))
    unfold nums
    rw[List.map_append]
    show some (HO.lst (_++ [V.int t.2.2]))=some (HO.lst (_++ [V.int ((t.2.2.toNat:Nat):Int)]))
    rw[←k.e3]
end
theorem pV{α β:Type}{R:α→β→Prop}: ∀{xs:List α} {ys:List β} {i:Nat} {x:α},Paired R xs ys→xs[i]?=some x→ ∃y,ys[i]?=some y∧R x y
 | [],[],i,x, .nil,h=>by simp at h
 | x::xs,y::ys,0,w, .cons a r,h=>by cases h;exact⟨y,rfl,a⟩
 | x::xs,y::ys,i+1,w, .cons a r,h=>pV (xs:=xs) (ys:=ys) (i:=i) r (by simpa using h)
theorem xu: ∀(us:List T3) (gs:List Gr) (n:Nat),(∀g∈gs,g.2.2.length≤n)→gs.length≤n→(∀g∈us.foldl bu gs,g.2.2.length≤n+us.length)∧(us.foldl bu gs).length≤n+us.length
 | [],gs,n,h1,h2=> ⟨h1,h2⟩
 | t::us,gs,n,h1,h2=>by
  have o6:(bu gs t).length≤n+1:=Nat.le_trans TZ (by omega)
  have jB: ∀g∈bu gs t,g.2.2.length≤n+1:=by
   have one: ∀g∈gs++ [((t.1.toNat,t.2.1.toNat,[t.2.2.toNat]):Gr)],g.2.2.length≤n+1:=by
    intro g hg
    rcases List.mem_append.mp hg with hg | hg
    ·have:=h1 g hg;omega
    ·rw[List.mem_singleton.mp hg];show 1≤n+1;omega
   unfold bu
   split
   ·exact one
   ·rename_i g0 e0
    split
    ·intro g hg
     rcases List.mem_append.mp hg with hg | hg
     ·have:=h1 g (List.dropLast_subset _ hg);omega
     ·rw[List.mem_singleton.mp hg]
      have:=h1 g0 (List.mem_of_getLast? e0)
      show(g0.2.2++ [t.2.2.toNat]).length≤n+1
      rw[List.length_append];show g0.2.2.length+1≤n+1;omega
    ·exact one
  obtain⟨a,b⟩:=xu us (bu gs t) (n+1) jB o6
  rw[List.length_cons]
  exact⟨fun g hg=>by have:=a g hg;omega,by show(us.foldl bu (bu gs t)).length≤_;omega⟩
theorem sX(us:List T3):(∀g∈groups us,g.2.2.length≤us.length)∧(groups us).length≤us.length:=by
 have:=xu us [] 0 (fun g hg=>by cases hg) (Nat.le_refl _)
 rwa [Nat.zero_add] at this
theorem lT{α:Type}{l:List α}{i:Nat}{x:α}(h:l[i]?=some x):l.take (i+1)=l.take i++ [x]:=by
 have aQ:i<l.length:=(List.getElem?_eq_some_iff.mp h).1
 rw[List.take_succ_eq_append_getElem aQ,(List.getElem?_eq_some_iff.mp h).2]
section
variable {K:Frag}
def pW:Sp:=fun vs H Q E=> ∃(l:Addr) (xs:List V) (cs:List Cu),vs=[.ref l]∧H l=some (.lst xs)∧aZ H xs cs∧cs.length<64∧
 ∀us G zs H',eQ cs us→aD H H'→H G=none→H' G=some (.lst zs)→dg .tup G H' zs (groups us)→Q (.ref G) H'
theorem Ud(vs:List V)(H:Hp)(Q:VK)(E:XK)(hh:pW vs H Q E):ar (aW K sV [] (E:=E)) wB (Dn Q) (start wA vs) H:=by
 obtain⟨l,xs,cs,rfl,hl,bB,hn,q⟩:=hh
 have lx:xs.length=cs.length:=Paired.length bB
 refine bL (Fq (aj ?_))
 refine⟨_,rfl,l,rfl,⟨_,ao.of hl⟩, ?_⟩
 refine Fp hl (by omega) (fun i ys H2=>Paired (V3 H2) ys (dz 0 (cs.take i))) .nil (fun i ys H2 H3 p s=>L2.Paired.dB p fun v t ⟨a,e,h⟩=> ⟨a,e,s _ _ h⟩) ?_ ?_
 ·intro i x ys H2 hx s2 p Q' kk
  obtain⟨c,hc,t,rfl,ht⟩:=eY bB hx
  have eR:=s2 _ _ ht
  have hi:i<cs.length:=(List.getElem?_eq_some_iff.mp hc).1
  refine dI (aj (aX eI rfl (aj (ag rfl (aB ⟨t,_,_,_,rfl,eR,aj (aX gL rfl (aj (ag rfl (aB ⟨t,_,_,_,rfl,eR,aj (ag rfl (aB ⟨(by show 3≤sizeLine;decide),fun T fT=> ?_⟩))⟩))))⟩)))))
  have s3:=sameNew (o:= .tup [V.int (min c.1 c.2.1:Nat),V.int (max c.1 c.2.1:Nat),V.int (i:Nat)]) fT
  refine kk _ _ s3 ?_
  rw[lT hc,xo,Nat.zero_add,List.length_take,Nat.min_eq_left (show i≤cs.length by omega)]
  exact eJ (L2.Paired.dB p fun v t ⟨a,e,h⟩=> ⟨a,e,s3 _ _ h⟩) ⟨T,rfl,aG⟩
 ·intro ys H2 p2 s2 p f2
  rw[lx,List.take_of_length_le (Nat.le_refl _)] at p
  have s3:=sameNew (o:= .lst ys) f2
  refine aB ⟨p2,ys,dz 0 cs,rfl,ao.of aG,L2.Paired.dB p fun v t ⟨a,e,h⟩=> ⟨a,e,s3 _ _ h⟩,keys_nodup 0 cs,by rw[jI];exact hn,fun O zs us fO p3 pm pw=> ?_⟩
  have S:eQ cs us:=⟨pm,pw⟩
  have s4:=sameNew (o:= .lst zs) fO
  have gO:=(s2.trans s3).trans s4
  have hO:(upd (upd H2 p2 (.lst ys)) O (.lst zs)) O=some (.lst zs):=aG
  have p4:Paired (V3 (upd (upd H2 p2 (.lst ys)) O (.lst zs))) zs us:=L2.Paired.dB p3 fun v t ⟨a,e,h⟩=> ⟨a,e,s4 _ _ h⟩
  generalize (upd (upd H2 p2 (.lst ys)) O (.lst zs))=H3 at gO hO p4⊢
  have dq:=gO _ _ hl
  have Fv:=bB.same gO
  have lu:us.length=cs.length:=by rw[pm.length_eq,jI]
  have lz:zs.length=us.length:=Paired.length p4
  refine bL (cC (aB ⟨Nat.zero_le _,fun G fG=> ?_⟩))
  have s5:=sameNew (o:= .lst []) fG
  refine xf (body:=Fs) (ag rfl ⟨O,rfl,⟨_,ao.of (s5 _ _ hO)⟩,qJ (K:=K) (a:=O) (xs:=zs) (fun i σ H5=> ∃(ws:List V) (y3 y4 y5 y6:Option V),σ=[some (.ref l),some (.ref O),some (.ref G),y3,y4,y5,y6]∧aD H3 H5∧H5 G=some (.lst ws)∧dg .tup G H5 ws (groups (us.take i))) ?_ ?_ ?_ ?_⟩)
  ·exact⟨[],none,none,none,none,rfl,s5,aG, .nil⟩
  ·rintro i σ H5 _ ⟨ws,y3,y4,y5,y6,rfl,s6,_⟩
   exact ao.of (s6 _ _ hO)
  ·rintro i x σ H5 hi ⟨ws,y3,y4,y5,y6,rfl,s6,hG,gv⟩
   obtain⟨t,ht,T,rfl,hT⟩:=pV p4 hi
   refine Fj (s6 _ _ hT) ?_
   obtain⟨c,k⟩:=pP S (List.mem_of_getElem? ht)
   have bd:=sX (us.take i)
   have li:(us.take i).length≤64:=by rw[List.length_take];omega
   refine Ua (s6 _ _ dq) (Fv.same s6) (c_ dq fG) k hG gv (by omega) (fun g hg=>by have:=bd.1 g hg;omega) fun z6 cv H6 b6 xv xx=> ⟨cv,_,_,_,z6,rfl,fun b o e=>b6 _ _ (s6 _ _ e) (c_ e fG),xv, ?_⟩
   rw[lT ht,Fm];exact xx
  ·rintro σ H5 ⟨ws,y3,y4,y5,y6,rfl,s6,hG,gv⟩
   rw[lz,List.take_of_length_le (Nat.le_refl _)] at gv
   exact cb (ag rfl (q us G ws H5 S (gO.trans s6) (gO.free fG) hG gv))
def pX:Sp:=fun vs H Q E=> ∃(l:Addr) (xs:List V) (cs:List Cu) (T m:Addr) (g:Gr),vs=[.ref l, .ref T]∧H l=some (.lst xs)∧aZ H xs cs∧H T=some (.tup [.int (g.1:Nat), .int (g.2.1:Nat), .ref m])∧H m=some (.lst (nums g.2.2))∧g.2.2≠ []∧(∀k∈g.2.2,k<cs.length)∧
 ∀r H',aD H H'→fB H' r (oneOf cs g)→Q r H'
theorem Fw(ms:List Nat):nums ms=(ms.map fun k=> ((k:Nat):Int)).map V.int:=by unfold nums;rw[List.map_map];rfl
theorem Fx{ms:List Nat}(h:ms≠ []){x:Int}(hx:x∈ms.map fun k=> ((k:Nat):Int))(hm: ∀n∈ms.map fun k=> ((k:Nat):Int),x≤n):x=((least ms:Nat):Int):=by
 obtain⟨k,hk,rfl⟩:=List.mem_map.mp hx
 obtain⟨a,b⟩:=xp h
 have h1:=b k hk
 have h2:=hm _ (List.mem_map.mpr ⟨least ms,a,rfl⟩)
 omega
theorem Ue(vs:List V)(H:Hp)(Q:VK)(E:XK)(hh:pX vs H Q E):ar (aW K [("is_backward",pO)] [] (E:=E)) wD (Dn Q) (start wC vs) H:=by
 obtain⟨l,xs,cs,T,m,g,rfl,hl,bB,hT,hm,bW,cg,q⟩:=hh
 have fR:=hm
 rw[Fw] at fR
 refine bL (ba (ag rfl (fo (aj (ba (ag rfl (au (bN hT rfl (aB ⟨_,ao.of fR,by simpa using bW,fun x hx oF=> ?_⟩)))))))))
 rw[Fx bW hx oF]
 have hk:=cg _ (xp bW).1
 have hc:cs[least g.2.2]?=some cs[least g.2.2]:=List.getElem?_eq_getElem hk
 obtain⟨v,hv,tc,rfl,nu⟩:=nj bB hc
 refine eV hl (mH hv) ?_
 unfold oneOf at q
 rw[hc,Option.getD_some] at q
 refine bZ (cP (d4 (ba (ag rfl (au (bN hT rfl (.inl ⟨_,ao.of hm,au (gK ⟨_,rfl, ?_⟩)⟩)))))))
 have ln:(nums g.2.2).length=g.2.2.length:=by unfold nums;rw[List.length_map]
 rw[ln]
 by_cases e:g.2.2.length=1
 ·simp only[e,if_true] at q
  refine iT ?_ (decide_eq_true (by omega))
  exact cb (ag rfl (q _ _ (aD.refl _) ⟨tc,rfl,nu⟩))
 ·simp only[e,if_false] at q
  refine iF (cU ?_) (decide_eq_false (by omega))
  refine cb (Fg (lQ pO rfl (aj (ag rfl (aB ⟨tc,_,_,_,rfl,nu,fZ ?_⟩)))))
  by_cases b:(cs[least g.2.2]).2.1< (cs[least g.2.2]).1
  ·simp only[b,if_true] at q
   refine iT ?_ (decide_eq_true b)
   refine dI (aj (ba (ag rfl (au (bN hT rfl (aj (ba (ag rfl (au (bN hT rfl (aj (au (aB ⟨(by show 3≤sizeLine;decide),fun t' f'=> ?_⟩)))))))))))))
   exact q _ _ (sameNew f') ⟨t',rfl,aG⟩
  ·simp only[b,if_false] at q
   refine iF ?_ (decide_eq_false b)
   refine dI (aj (ba (ag rfl (au (bN hT rfl (aj (ba (ag rfl (au (bN hT rfl (aj (au (aB ⟨(by show 3≤sizeLine;decide),fun t' f'=> ?_⟩)))))))))))))
   exact q _ _ (sameNew f') ⟨t',rfl,aG⟩
def eL:Sp:=fun vs H Q E=> ∃(l:Addr) (xs:List V) (cs:List Cu),vs=[.ref l]∧H l=some (.lst xs)∧aZ H xs cs∧cs.length<64∧
 ∀us r zs H',eQ cs us→aD H H'→H r=none→H' r=some (.lst zs)→aZ H' zs (settle cs us)→Q (.ref r) H'
theorem Fy{cs:List Cu}{us:List T3}(S:eQ cs us): ∀g∈groups us,g.2.2≠ []∧ ∀k∈g.2.2,k<cs.length:=
 Fn cs.length us [] (fun t ht=>by
  obtain⟨c,k⟩:=pP S ht
  exact(List.getElem?_eq_some_iff.mp k.at').1) fun g hg=>by cases hg
theorem Ug(vs:List V)(H:Hp)(Q:VK)(E:XK)(hh:eL vs H Q E):ar (aW K [("gathered",pW),("as_one",pX)] [] (E:=E)) wG (Dn Q) (start wF vs) H:=by
 obtain⟨l,xs,cs,rfl,hl,bB,hn,q⟩:=hh
 refine cb (pK (aX pW rfl (aj (ag rfl (aB ⟨l,xs,cs,rfl,hl,bB,hn,fun us G zs H1 S s1 fG hG gv=> ⟨G,rfl,⟨_,ao.of hG⟩, ?_⟩⟩)))))
 have lu:us.length=cs.length:=by rw[S.1.length_eq,jI]
 have bd:=sX us
 have lz:zs.length=(groups us).length:=Paired.length gv
 refine pJ hG (by omega) (fun i ys H2=>aZ H2 ys (((groups us).take i).map (oneOf cs))) .nil ?_ ?_
 ·intro i x ys H2 hx s2 p Q' kk
  obtain⟨g,hg,T,m,rfl,hT,hm,_,_⟩:=pV gv hx
  have ok:=Fy S g (List.mem_of_getElem? hg)
  have gN:=s1.trans s2
  refine aX pX rfl (aj (ag rfl (aj (ag rfl (aB ⟨l,xs,cs,T,m,g,rfl,gN _ _ hl,bB.same gN,s2 _ _ hT,s2 _ _ hm,ok.1,ok.2,fun r H3 s3 hr=>kk _ _ s3 ?_⟩)))))
  rw[lT hg,List.map_append]
  exact eJ (aZ.same p s3) hr
 ·intro ys H2 p2 s2 p f2
  rw[lz,List.take_of_length_le (Nat.le_refl _)] at p
  have s3:=sameNew (o:= .lst ys) f2
  exact q us p2 ys _ S ((s1.trans s2).trans s3) ((s1.trans s2).free f2) aG (aZ.same p s3)
end
def eM(g:Gr):PyData:= .list [.int (g.1:Nat), .int (g.2.1:Nat), .list ((g.2.2.map fun k=> ((k:Nat):Int)).map .int)]
theorem Uh(g:Gr):(eM g).canLay0=true∧(eM g).depth≤2:=by
 constructor
 ·show(true && (true && (PyData.canLayAll0 ((g.2.2.map fun k=> ((k:Nat):Int)).map .int) && true)))=true
  rw[PyProof.Rows.canLayAll_ints];rfl
 ·show max 0 (max 0 (max (PyData.depthAll ((g.2.2.map fun k=> ((k:Nat):Int)).map .int)+1) 0))+1≤2
  rw[PyProof.Rows.depthAll_ints];decide
theorem Fz: ∀(gs:List Gr),PyData.canLayAll0 (gs.map eM)=true∧PyData.depthAll (gs.map eM)≤2
 | []=> ⟨rfl,Nat.zero_le _⟩
 | g::r=>by
  obtain⟨a,b⟩:=Uh g
  obtain⟨c,d⟩:=Fz r
  refine⟨?_, ?_⟩
  ·show((eM g).canLay0 && PyData.canLayAll0 (r.map eM))=true
   rw[a,c];rfl
  ·show max (eM g).depth (PyData.depthAll (r.map eM))≤2
   omega
theorem Ui(gs:List Gr):SeqAt.shaped (.list (gs.map eM))=true:=by
 obtain⟨c,d⟩:=Fz gs
 unfold SeqAt.shaped
 have e:(PyData.list (gs.map eM)).canLay0=true:=c
 have e2:(PyData.list (gs.map eM)).depth≤64:=by show PyData.depthAll (gs.map eM)+1≤64;omega
 rw[e,decide_eq_true e2];rfl
theorem FA(H:Hp): ∀ms:List Nat,IsL H ((ms.map fun k=> ((k:Nat):Int)).map PyData.int) (nums ms)
 | []=>rfl
 | k::r=> ⟨_,_,rfl,rfl,FA H r⟩
theorem FC{G:Addr}{H:Hp}: ∀{zs:List V} {gs:List Gr},dg .lst G H zs gs→IsL H (gs.map eM) zs
 | [],[], .nil=>rfl
 | z::zs,g::gs, .cons x r=>by
  obtain⟨t,m,rfl,h1,h2,_,_⟩:=x
  exact⟨_,_,rfl,⟨t,_,rfl,h1,_,_,rfl,rfl,_,_,rfl,rfl,_,_,rfl,⟨m,_,rfl,h2,FA H _⟩,rfl⟩,FC r⟩
section
variable {K:Frag}
theorem Uj{H:Hp}{a b G:Addr}{xs:List V}{gs:List Gr}{Q:VK}(ha:H a=some (.lst xs))(hb:H b=some (.lst []))(hx:dg .lst G H xs gs)(q:Q (.bl (decide (gs≠ []))) H):bK K .NotEq (.ref a) (.ref b) H Q:=by
 refine⟨.list (gs.map eM), .list [],⟨a,xs,rfl,ha,FC hx⟩,⟨b,[],rfl,hb,rfl⟩,Ui gs,(by decide), ?_⟩
 have e:(true ^^ PyData.eqv (.list (gs.map eM)) (.list []))=decide (gs≠ []):=by
  cases gs with
  | nil=>rfl
  | cons p r=>rfl
 rw[e];exact q
theorem FD{i j k:Nat}{t:Addr}{u v w:V}{σ:St}{H:Hp}{Q:St→Hp→Prop}(ht:H t=some (.lst [u,v,w]))(q:Q (((σ.set i (some u)).set j (some v)).set k (some w)) H):hX K [i,j,k].length (gy [i,j,k]) (.ref t) σ H Q:=
 ⟨t,_,rfl, .inr (ao.of ht),rfl,_,_,rfl,_,_,rfl,_,_,rfl,rfl,q⟩
def lsBody:List RS:=[.asg 5 (.c (.bl false)),
  .ite (.cmp .NotEq (.v 1) (.lst [])) [.ou [6,7,8] (.ix (.v 1) (.neg (.c (.int 1)))),
   .asg 5 (.or [(.cmp .Lt (.v 2) (.v 7)),(.and [(.cmp .Eq (.v 2) (.v 7)),(.or [(.cmp .Eq (.v 6) (.v 7)),(.cmp .Eq (.v 2) (.v 3))])])])] [],
  .ite (.v 5) [.set (.v 1) (.neg (.c (.int 1))) (.lst [(.v 6),(.blt .max [(.v 7),(.v 3)]),(.bin .Add (.v 8) (.lst [(.v 4)]))])] [.drop (.cc .append (.v 1) [(.lst [(.v 2),(.v 3),(.lst [(.v 4)])])])]]
def xy:List RS:=[.ite (.v 5) [.set (.v 1) (.neg (.c (.int 1))) (.lst [(.v 6),(.blt .max [(.v 7),(.v 3)]),(.bin .Add (.v 8) (.lst [(.v 4)]))])] [.drop (.cc .append (.v 1) [(.lst [(.v 2),(.v 3),(.lst [(.v 4)])])])]]
theorem FE{E:XK}{D:Ends}{H:Hp}{G:Addr}{cs:List Cu}{t:T3}{c:Cu}{zs:List V}{gs:List Gr}{u0 u6 u7 u8 u9 dh:Option V}(k:jK cs t c)(hG:H G=some (.lst zs))(gv:dg .lst G H zs gs)(hn:gs.length≤1000)
  (e:bu gs t=gs++ [(t.1.toNat,t.2.1.toNat,[t.2.2.toNat])])
  (hD: ∀(cv:List V) H',bz G H H'→H' G=some (.lst cv)→dg .lst G H' cv (bu gs t)→D.nx [u0,some (.ref G),some (.int t.1),some (.int t.2.1),some (.int t.2.2),some (.bl false),u6,u7,u8,u9,dh] H'):
  ar (aW K [] [] (E:=E)) xy D [u0,some (.ref G),some (.int t.1),some (.int t.2.1),some (.int t.2.2),some (.bl false),u6,u7,u8,u9,dh] H:=by
 have lz:=Paired.length gv
 refine bZ (Fi rfl (iF ?_ rfl))
 refine ip (jD (ag rfl ⟨.inl ⟨rfl,_,ao.of hG⟩,cC (aj (ag rfl (aj (ag rfl (aj (cC (aj (ag rfl (aB ⟨(by show 1≤sizeLine;decide),fun m fm=>aB ⟨(by show 3≤sizeLine;decide),fun T fT=> ?_⟩⟩)))))))))⟩))
 have s1:=sameNew (o:= .lst [V.int t.2.2]) fm
 have s2:=sameNew (o:= .lst [V.int t.1,V.int t.2.1,V.ref m]) fT
 have gN:=s1.trans s2
 have nm:m≠G:=fun z=>by rw[z,hG] at fm;cases fm
 have nT:T≠G:=fun z=>by rw[z,s1 _ _ hG] at fT;cases fT
 refine⟨zs,gN _ _ hG,fX (by omega), ?_⟩
 have b3:bz G (upd (upd H m (.lst [V.int t.2.2])) T (.lst [V.int t.1,V.int t.2.1,V.ref m])) (upd (upd (upd H m (.lst [V.int t.2.2])) T (.lst [V.int t.1,V.int t.2.1,V.ref m])) G (.lst (zs++ [.ref T]))):=bz.upd
 have bb:bz G H (upd (upd (upd H m (.lst [V.int t.2.2])) T (.lst [V.int t.1,V.int t.2.1,V.ref m])) G (.lst (zs++ [.ref T]))):=(jJ gN).trans b3
 refine hD (zs++ [.ref T]) _ bb aG ?_
 rw[e]
 refine eJ (gv.but bb) ⟨T,m,rfl, ?_, ?_,nT,nm⟩
 ·rw[b3 _ _ aG nT,show t.1=((t.1.toNat:Nat):Int) by rw[k.e1,Int.toNat_natCast],show t.2.1=((t.2.1.toNat:Nat):Int) by rw[k.e2,Int.toNat_natCast]]
  simp only[Int.toNat_natCast]
 ·rw[b3 _ _ (s2 _ _ aG) nm]
  show some (HO.lst [V.int t.2.2])=some (HO.lst [V.int ((t.2.2.toNat:Nat):Int)])
  rw[←k.e3]
theorem Uk{E:XK}{D:Ends}{H:Hp}{G T m:Addr}{cs:List Cu}{t:T3}{c:Cu}{cE:List V}{gb:List Gr}{g:Gr}{u0 u9 dh:Option V}(k:jK cs t c)(hG:H G=some (.lst (cE++ [.ref T])))(nk:dg .lst G H cE gb)(hm:H m=some (.lst (nums g.2.2)))(nm:m≠G)(hn:g.2.2.length≤1000)
  (e:bu (gb++ [g]) t=gb++ [(g.1,max g.2.1 t.2.1.toNat,g.2.2++ [t.2.2.toNat])])
  (hD: ∀(cv:List V) H',bz G H H'→H' G=some (.lst cv)→dg .lst G H' cv (bu (gb++ [g]) t)→D.nx [u0,some (.ref G),some (.int t.1),some (.int t.2.1),some (.int t.2.2),some (.bl true),some (.int (g.1:Nat)),some (.int (g.2.1:Nat)),some (.ref m),u9,dh] H'):
  ar (aW K [] [] (E:=E)) xy D [u0,some (.ref G),some (.int t.1),some (.int t.2.1),some (.int t.2.2),some (.bl true),some (.int (g.1:Nat)),some (.int (g.2.1:Nat)),some (.ref m),u9,dh] H:=by
 refine bZ (Fi rfl (iT ?_ rfl))
 obtain⟨bY,pQ⟩: ∃bY:Int,bY=(if t.2.1> ((g.2.1:Nat):Int) then t.2.1 else ((g.2.1:Nat):Int)):=⟨_,rfl⟩
 have xq:bY=((max g.2.1 t.2.1.toNat:Nat):Int):=by
  rw[pQ,k.e2,Int.toNat_natCast]
  split<;>omega
 refine Tu (cC (aj (ag rfl (aj (fo (aj (ag rfl (aj (ag rfl (aB ?_))))))))))
 show aO (aW K [] [] (E:=E)) [.bin .Add (.v 8) (.lst [.v 4])] _ H _
 refine aj (br (ag rfl (cC (aj (ag rfl (aB ⟨(by show 1≤sizeLine;decide),fun n1 f1=> ?_⟩))))))
 have s2:=sameNew (o:= .lst [V.int t.2.2]) f1
 refine .inl ⟨m,n1,nums g.2.2,[V.int t.2.2],rfl,rfl,s2 _ _ hm,aG,eT (by show(nums g.2.2).length+1≤_;unfold nums;rw[List.length_map];omega),fun m2 f2=>aB ⟨(by show 3≤sizeLine;decide),fun T2 f3=> ?_⟩⟩
 have s3:=sameNew (o:= .lst (nums g.2.2++ [V.int t.2.2])) f2
 have dA:=s2.trans s3
 have s4:=sameNew (o:= .lst [V.int (g.1:Nat),V.int bY,V.ref m2]) f3
 have eK:=dA.trans s4
 have pR:m2≠G:=fun z=>by rw[z,s2 _ _ hG] at f2;cases f2
 have pS:T2≠G:=fun z=>by rw[z,dA _ _ hG] at f3;cases f3
 have pT:=s4 _ _ (aG (H:=upd H n1 (.lst [V.int t.2.2])) (a:=m2) (o:= .lst (nums g.2.2++ [V.int t.2.2])))
 have pU:(upd (upd (upd H n1 (.lst [V.int t.2.2])) m2 (.lst (nums g.2.2++ [V.int t.2.2]))) T2 (.lst [V.int (g.1:Nat),V.int bY,V.ref m2])) T2=some (.lst [V.int (g.1:Nat),V.int bY,V.ref m2]):=aG
 have eo:(HO.lst [V.int (g.1:Nat),V.int (if t.2.1> ((g.2.1:Nat):Int) then t.2.1 else ((g.2.1:Nat):Int)),V.ref m2])=HO.lst [V.int (g.1:Nat),V.int bY,V.ref m2]:=by rw[pQ]
 refine ag rfl (lR ⟨G,_, -1,cE.length,rfl,rfl,(show(upd (upd (upd H n1 (.lst [V.int t.2.2])) m2 (.lst (nums g.2.2++ [V.int t.2.2]))) T2 (.lst [V.int (g.1:Nat),V.int (if t.2.1> ((g.2.1:Nat):Int) then t.2.1 else ((g.2.1:Nat):Int)),V.ref m2])) G=some (.lst (cE++ [.ref T])) by rw[eo];exact eK _ _ hG),by rw[List.length_append];exact xg _, ?_⟩)
 have es:(cE++ [V.ref T]).set cE.length (.ref T2)=cE++ [.ref T2]:=by rw[List.set_append_right _ _ (Nat.le_refl _),Nat.sub_self];rfl
 rw[es]
 show D.nx [u0,some (.ref G),some (.int t.1),some (.int t.2.1),some (.int t.2.2),some (.bl true),some (.int (g.1:Nat)),some (.int (g.2.1:Nat)),some (.ref m),u9,dh] (upd (upd (upd (upd H n1 (.lst [V.int t.2.2])) m2 (.lst (nums g.2.2++ [V.int t.2.2]))) T2 (.lst [V.int (g.1:Nat),V.int (if t.2.1> ((g.2.1:Nat):Int) then t.2.1 else ((g.2.1:Nat):Int)),V.ref m2])) G (.lst (cE++ [.ref T2])))
 rw[eo]
 generalize (upd (upd (upd H n1 (.lst [V.int t.2.2])) m2 (.lst (nums g.2.2++ [V.int t.2.2]))) T2 (.lst [V.int (g.1:Nat),V.int bY,V.ref m2]))=H4 at eK pT pU⊢
 have b5:bz G H4 (upd H4 G (.lst (cE++ [.ref T2]))):=bz.upd
 have bb:bz G H (upd H4 G (.lst (cE++ [.ref T2]))):=(jJ eK).trans b5
 refine hD (cE++ [.ref T2]) _ bb aG ?_
 rw[e]
 refine eJ (dg.but nk bb) ⟨T2,m2,rfl, ?_, ?_,pS,pR⟩
 ·rw[b5 _ _ pU pS,xq]
 ·rw[b5 _ _ pT pR]
  show some (HO.lst (nums g.2.2++ [V.int t.2.2]))=some (HO.lst (nums (g.2.2++ [t.2.2.toNat])))
  unfold nums
  rw[List.map_append]
  show some (HO.lst (_++ [V.int t.2.2]))=some (HO.lst (_++ [V.int ((t.2.2.toNat:Nat):Int)]))
  rw[←k.e3]
theorem Ul{E:XK}{D:Ends}{H:Hp}{G:Addr}{cs:List Cu}{t:T3}{c:Cu}{zs:List V}{gs:List Gr}{u0 u5 u6 u7 u8 u9 dh:Option V}(k:jK cs t c)(hG:H G=some (.lst zs))(gv:dg .lst G H zs gs)(hn:gs.length≤1000)(aF: ∀g∈gs,g.2.2.length≤1000)
  (hD: ∀(y5 y6 y7 y8:Option V) (cv:List V) H',bz G H H'→H' G=some (.lst cv)→dg .lst G H' cv (bu gs t)→D.nx [u0,some (.ref G),some (.int t.1),some (.int t.2.1),some (.int t.2.2),y5,y6,y7,y8,u9,dh] H'):
  ar (aW K [] [] (E:=E)) lsBody D [u0,some (.ref G),some (.int t.1),some (.int t.2.1),some (.int t.2.2),u5,u6,u7,u8,u9,dh] H:=by
 refine bL (au ?_)
 refine bZ (cP (ag rfl (cC (aB ⟨Nat.zero_le _,fun e0 fe=> ?_⟩))))
 have s1:=sameNew (o:= .lst []) fe
 have pY:=dg.but gv (jJ s1)
 have gd:=s1 _ _ hG
 refine Uj gd aG pY ⟨_,rfl, ?_⟩
 generalize upd H e0 (.lst [])=H1 at s1 pY gd⊢
 have xB: ∀(y5 y6 y7 y8:Option V) (cv:List V) H',bz G H1 H'→H' G=some (.lst cv)→dg .lst G H' cv (bu gs t)→D.nx [u0,some (.ref G),some (.int t.1),some (.int t.2.1),some (.int t.2.2),y5,y6,y7,y8,u9,dh] H':=fun y5 y6 y7 y8 cv H' b=>hD y5 y6 y7 y8 cv H' ((jJ s1).trans b)
 rcases List.eq_nil_or_concat gs with eg | ⟨gb,g,eg⟩
 ·subst eg
  refine iF (cU ?_) rfl
  exact FE k gd pY hn (by unfold bu;rfl) fun cv H' b h1 h2=>xB _ _ _ _ cv H' b h1 h2
 ·rw[List.concat_eq_append] at eg
  subst eg
  refine iT ?_ (by simp)
  obtain⟨cE,z,rfl,nk,gz⟩:=xb pY
  obtain⟨T,m,rfl,hT,hm,nT,nm⟩:=gz
  have nq:(gb++ [g]).getLast?=some g:=by simp
  have gc:ef (cE++ [V.ref T]) (-1)=some (V.ref T):=by
   unfold ef
   rw[List.length_append]
   show(gm (cE.length+1) (-1)).bind _=_
   rw[xg];simp
  refine TC (ba (ag rfl (lR (eV gd gc (FD hT ?_)))))
  have cont: ∀nb:Bool,nb=near g.1 g.2.1 t.1.toNat t.2.1.toNat→ar (aW K [] [] (E:=E)) xy D [u0,some (.ref G),some (.int t.1),some (.int t.2.1),some (.int t.2.2),some (.bl nb),some (.int (g.1:Nat)),some (.int (g.2.1:Nat)),some (.ref m),u9,dh] H1:=by
   intro nb FF
   cases nb with
   | true=>exact Uk k gd nk hm nm (aF g (by simp)) (by unfold bu;rw[nq];simp only[←FF,if_true,List.dropLast_concat]) fun cv H' b h1 h2=>xB _ _ _ _ cv H' b h1 h2
   | false=>exact FE k gd pY hn (by unfold bu;rw[nq];simp only[←FF];rfl) fun cv H' b h1 h2=>xB _ _ _ _ cv H' b h1 h2
  have q1:t.1=((t.1.toNat:Nat):Int):=by rw[k.e1,Int.toNat_natCast]
  have q2:t.2.1=((t.2.1.toNat:Nat):Int):=by rw[k.e2,Int.toNat_natCast]
  refine bL (jG (de (ag rfl (ag rfl (N.ltI ⟨_,rfl, ?_⟩)))))
  by_cases c1:t.1< ((g.2.1:Nat):Int)
  ·refine iT (cont true ?_) (decide_eq_true c1)
   unfold near;rw[if_neg (by omega),decide_eq_true (by omega)]
  ·refine iF ?_ (decide_eq_false c1)
   refine f_ (de (ag rfl (ag rfl (gK ⟨_,rfl, ?_⟩))))
   by_cases c2:t.1=((g.2.1:Nat):Int)
   ·refine iT (ni (jG (de (ag rfl (ag rfl (gK ⟨_,rfl, ?_⟩)))))) (decide_eq_true c2)
    by_cases c3:((g.1:Nat):Int)=((g.2.1:Nat):Int)
    ·refine iT (cont true ?_) (decide_eq_true c3)
     unfold near;rw[if_pos (by omega),decide_eq_true (show g.1=g.2.1 by omega)];rfl
    ·refine iF (de (ag rfl (ag rfl (gK (cont _ ?_))))) (decide_eq_false c3)
     unfold near;rw[if_pos (by omega),decide_eq_false (show ¬g.1=g.2.1 by omega),Bool.false_or,Bool.eq_iff_iff]
     simp only[decide_eq_true_eq];omega
   ·refine iF (cont false ?_) (decide_eq_false c2)
    unfold near;rw[if_neg (by omega),decide_eq_false (by omega)]
end
section
variable {K:Frag}
theorem FG{Γ:av}{σ:St}{H:Hp}{Q:VK}{as:List RE}(h:aO Γ as σ H fun vs H1=>sx Γ.K vs H1 Q):aa Γ (.xt sA as) σ H Q:=h
theorem FH{Γ:av}{σ:St}{H:Hp}{Q:VK}{as:List RE}(h:aO Γ as σ H fun vs H1=>sy Γ.K vs H1 Q):aa Γ (.xt sC as) σ H Q:=h
theorem sY: ¬(HT.aP 3 0 none=0∧HT.aP 3 3 (some 2)=3):=by decide
theorem fB.but{F:Addr}{H H':Hp}{ws:List V}{v:V}{c:Cu}(x:fB H v c)(hF:H F=some (.lst ws))(b:bz F H H'):fB H' v c:=by
 obtain⟨t,e,h⟩:=x
 refine⟨t,e,b _ _ h fun z=> ?_⟩
 have h':H t=some (.tup _):=h
 rw[z,hF] at h';cases h'
def FI:List RS:=[.asg 10 (.ix (.v 0) (.blt .min [(.v 8)])),
  .ite (.cmp .Eq (.blt .len [(.v 8)]) (.c (.int 1))) [.drop (.cc .append (.v 9) [(.v 10)])] [.ite (.cmp .Lt (.ix (.v 10) (.c (.int 1))) (.ix (.v 10) (.c (.int 0)))) [.drop (.cc .append (.v 9) [(.tup [(.v 3),(.v 2),(.c .ai)])])] [.drop (.cc .append (.v 9) [(.tup [(.v 2),(.v 3),(.c .ai)])])]]]
theorem Um{E:XK}{D:Ends}{H:Hp}{l F m:Addr}{xs ws:List V}{cs ds:List Cu}{g:Gr}{u1 u4 u5 u6 u7 dh:Option V}(hl:H l=some (.lst xs))(bB:aZ H xs cs)(hm:H m=some (.lst (nums g.2.2)))(bW:g.2.2≠ [])(cg: ∀k∈g.2.2,k<cs.length)
  (hF:H F=some (.lst ws)) (jg:aZ H ws ds) (hn:ds.length≤1000)
  (hD: ∀(lU:Option V) (nv:List V) H',bz F H H'→H' F=some (.lst nv)→aZ H' nv (ds++ [oneOf cs g])→D.nx [some (.ref l),u1,some (.int (g.1:Nat)),some (.int (g.2.1:Nat)),u4,u5,u6,u7,some (.ref m),some (.ref F),lU] H'):
  ar (aW K [] [] (E:=E)) FI D [some (.ref l),u1,some (.int (g.1:Nat)),some (.int (g.2.1:Nat)),u4,u5,u6,u7,some (.ref m),some (.ref F),dh] H:=by
 have lw:=Paired.length jg
 have fR:=hm
 rw[Fw] at fR
 refine bL (ba (ag rfl (fo (aj (ag rfl (aB ⟨_,ao.of fR,by simpa using bW,fun x hx oF=> ?_⟩))))))
 rw[Fx bW hx oF]
 have hk:=cg _ (xp bW).1
 have hc:cs[least g.2.2]?=some cs[least g.2.2]:=List.getElem?_eq_getElem hk
 obtain⟨v,hv,tc,rfl,nu⟩:=nj bB hc
 refine eV hl (mH hv) ?_
 have eo:oneOf cs g=(if g.2.2.length=1 then cs[least g.2.2] else if (cs[least g.2.2]).2.1< (cs[least g.2.2]).1 then (g.2.1,g.1,none) else (g.1,g.2.1,none)):=by
  unfold oneOf;rw[hc,Option.getD_some]
 have ln:(nums g.2.2).length=g.2.2.length:=by unfold nums;rw[List.length_map]
 refine bZ (cP (d4 (ag rfl (.inl ⟨_,ao.of hm,au (gK ⟨_,rfl, ?_⟩)⟩))))
 rw[ln]
 have new: ∀a b:Nat,oneOf cs g=(a,b,none)→ ∀(t':Addr),H t'=none→D.nx [some (.ref l),u1,some (.int (g.1:Nat)),some (.int (g.2.1:Nat)),u4,u5,u6,u7,some (.ref m),some (.ref F),some (.ref tc)] (upd (upd H t' (.tup [.int (a:Nat), .int (b:Nat), .ai])) F (.lst (ws++ [.ref t']))):=by
  intro a b e t' ft
  have s1:=sameNew (o:= .tup [V.int (a:Nat),V.int (b:Nat),V.ai]) ft
  have nt:t'≠F:=fun z=>by rw[z,hF] at ft;cases ft
  have b2:bz F (upd H t' (.tup [.int (a:Nat), .int (b:Nat), .ai])) (upd (upd H t' (.tup [.int (a:Nat), .int (b:Nat), .ai])) F (.lst (ws++ [.ref t']))):=bz.upd
  have bb:=(jJ s1 (c:=F)).trans b2
  refine hD _ (ws++ [.ref t']) _ bb aG ?_
  rw[e]
  exact eJ (L2.Paired.dB jg fun _ _ x=>x.but hF bb) ⟨t',rfl,b2 _ _ aG nt⟩
 by_cases e:g.2.2.length=1
 ·rw[if_pos e] at eo
  refine iT ?_ (decide_eq_true (by omega))
  refine ip (jD (ag rfl ⟨.inl ⟨rfl,_,ao.of hF⟩,ag rfl ⟨ws,hF,fX (by omega), ?_⟩⟩))
  have bb:bz F H (upd H F (.lst (ws++ [.ref tc]))):=bz.upd
  refine hD _ (ws++ [.ref tc]) _ bb aG ?_
  rw[eo]
  exact eJ (L2.Paired.dB jg fun _ _ x=>x.but hF bb) (fB.but ⟨tc,rfl,nu⟩ hF bb)
 ·rw[if_neg e] at eo
  refine iF ?_ (decide_eq_false (by omega))
  refine bZ (cP (ba (ag rfl (au (bN nu rfl (ba (ag rfl (au (bN nu rfl (N.ltI ⟨_,rfl, ?_⟩))))))))))
  by_cases b:(cs[least g.2.2]).2.1< (cs[least g.2.2]).1
  ·rw[if_pos b] at eo
   refine iT ?_ (decide_eq_true (by omega))
   refine ip (jD (ag rfl ⟨.inl ⟨rfl,_,ao.of hF⟩,dI (aj (ag rfl (aj (ag rfl (aj (au (aB ⟨(by show 3≤sizeLine;decide),fun t' f'=> ?_⟩)))))))⟩))
   exact⟨ws,sameNew f' _ _ hF,fX (by omega),new _ _ eo t' f'⟩
  ·rw[if_neg b] at eo
   refine iF ?_ (decide_eq_false (by omega))
   refine ip (jD (ag rfl ⟨.inl ⟨rfl,_,ao.of hF⟩,dI (aj (ag rfl (aj (ag rfl (aj (au (aB ⟨(by show 3≤sizeLine;decide),fun t' f'=> ?_⟩)))))))⟩))
   exact⟨ws,sameNew f' _ _ hF,fX (by omega),new _ _ eo t' f'⟩
theorem Uo(vs:List V)(H:Hp)(Q:VK)(E:XK)(hh:eL vs H Q E):ar (aW K [] [] (E:=E)) eS (Dn Q) (start iX vs) H:=by
 obtain⟨l,xs,cs,rfl,hl,bB,hn,q⟩:=hh
 have lx:xs.length=cs.length:=Paired.length bB
 refine bL (cC (aB ⟨Nat.zero_le _,fun G fG=> ?_⟩))
 have s0:=sameNew (o:= .lst []) fG
 have xC:upd H G (.lst []) G=some (.lst []):=aG
 have sZ:=s0 _ _ hl
 have xD:=bB.same s0
 generalize upd H G (.lst [])=H0 at s0 xC sZ xD⊢
 refine xf (body:=lsBody) (Fq (aj ?_))
 refine⟨_,rfl,l,rfl,⟨_,ao.of sZ⟩, ?_⟩
 refine Fp sZ (by omega) (fun i ys H2=>Paired (V3 H2) ys (dz 0 (cs.take i))) .nil (fun i ys H2 H3 p s=>L2.Paired.dB p fun v t ⟨a,e,h⟩=> ⟨a,e,s _ _ h⟩) ?_ ?_
 ·intro i x ys H2 hx s2 p Q' kk
  obtain⟨c,hc,t,rfl,ht⟩:=eY xD hx
  have eR:H2 t=some (.tup [.int (c.1:Nat), .int (c.2.1:Nat),gV c.2.2]):=s2 _ _ ht
  have hi:i<cs.length:=(List.getElem?_eq_some_iff.mp hc).1
  refine dI (aj (FG (aj (pM (ag rfl (au ⟨2,rfl, .inr ⟨_,aU.of eR,sY,fun c1 f1=>aB ⟨c1,[(c.1:Int),(c.2.1:Int)],rfl,aU.of aG,by simp,fun mn xF pZ=> ?_⟩⟩⟩))))))
  have s3:=sameNew (o:= .tup (cz [V.int (c.1:Nat),V.int (c.2.1:Nat),gV c.2.2] none (some 2))) f1
  have jL:=s3 _ _ eR
  refine aj (FH (aj (pM (ag rfl (au ⟨2,rfl, .inr ⟨_,aU.of jL,sY,fun c2 f2=>aB ⟨c2,[(c.1:Int),(c.2.1:Int)],rfl,aU.of aG,by simp,fun mx p7 lV=> ?_⟩⟩⟩)))))
  have s4:=sameNew (o:= .tup (cz [V.int (c.1:Nat),V.int (c.2.1:Nat),gV c.2.2] none (some 2))) f2
  have e1:mn=((min c.1 c.2.1:Nat):Int):=by
   have a1:=pZ (c.1:Int) (by simp)
   have a2:=pZ (c.2.1:Int) (by simp)
   simp only[List.mem_cons,List.not_mem_nil,or_false] at xF
   omega
  have e2:mx=((max c.1 c.2.1:Nat):Int):=by
   have a1:=lV (c.1:Int) (by simp)
   have a2:=lV (c.2.1:Int) (by simp)
   simp only[List.mem_cons,List.not_mem_nil,or_false] at p7
   omega
  rw[e1,e2]
  refine aj (ag rfl (aB ⟨(by show 3≤sizeLine;decide),fun T fT=> ?_⟩))
  have s5:=sameNew (o:= .tup [V.int (min c.1 c.2.1:Nat),V.int (max c.1 c.2.1:Nat),V.int (i:Nat)]) fT
  have s_:=(s3.trans s4).trans s5
  refine kk _ _ s_ ?_
  rw[lT hc,xo,Nat.zero_add,List.length_take,Nat.min_eq_left (show i≤cs.length by omega)]
  exact eJ (L2.Paired.dB p fun v t ⟨a,e,h⟩=> ⟨a,e,s_ _ _ h⟩) ⟨T,rfl,aG⟩
 ·intro ys H2 p2 s2 p f2
  rw[lx,List.take_of_length_le (Nat.le_refl _)] at p
  have s3:=sameNew (o:= .lst ys) f2
  refine aB ⟨p2,ys,dz 0 cs,rfl,ao.of aG,L2.Paired.dB p fun v t ⟨a,e,h⟩=> ⟨a,e,s3 _ _ h⟩,keys_nodup 0 cs,by rw[jI];exact hn,fun O zs us fO p3 pm pw=> ?_⟩
  have S:eQ cs us:=⟨pm,pw⟩
  have s4:=sameNew (o:= .lst zs) fO
  have gO:=(s2.trans s3).trans s4
  have nO:O≠G:=fun z=>by rw[z,(s2.trans s3) _ _ xC] at fO;cases fO
  have hO:(upd (upd H2 p2 (.lst ys)) O (.lst zs)) O=some (.lst zs):=aG
  have p4:Paired (V3 (upd (upd H2 p2 (.lst ys)) O (.lst zs))) zs us:=L2.Paired.dB p3 fun v t ⟨a,e,h⟩=> ⟨a,e,s4 _ _ h⟩
  generalize (upd (upd H2 p2 (.lst ys)) O (.lst zs))=H3 at gO hO p4⊢
  have FJ:=gO _ _ xC
  have dq:=gO _ _ sZ
  have Fv:=xD.same gO
  have lu:us.length=cs.length:=by rw[pm.length_eq,jI]
  have lz:zs.length=us.length:=Paired.length p4
  have nl:l≠G:=c_ hl fG
  refine⟨O,rfl,⟨_,ao.of hO⟩,qJ (K:=K) (a:=O) (xs:=zs) (fun i σ H5=> ∃(ws:List V) (y2 y3 y4 y5 y6 y7 y8:Option V),σ=[some (.ref l),some (.ref G),y2,y3,y4,y5,y6,y7,y8,none,none]∧bz G H3 H5∧H5 G=some (.lst ws)∧dg .lst G H5 ws (groups (us.take i))) ?_ ?_ ?_ ?_⟩
  ·exact⟨[],none,none,none,none,none,none,none,rfl,jJ (aD.refl _),FJ, .nil⟩
  ·rintro i σ H5 _ ⟨ws,y2,y3,y4,y5,y6,y7,y8,rfl,b5,_⟩
   exact ao.of (b5 _ _ hO nO)
  ·rintro i x σ H5 hi ⟨ws,y2,y3,y4,y5,y6,y7,y8,rfl,b5,hG,gv⟩
   obtain⟨t,ht,T,rfl,hT⟩:=pV p4 hi
   have nT:T≠G:=fun z=>by rw[z,FJ] at hT;cases hT
   refine Fj (b5 _ _ hT nT) ?_
   obtain⟨c,k⟩:=pP S (List.mem_of_getElem? ht)
   have bd:=sX (us.take i)
   have li:(us.take i).length≤64:=by rw[List.length_take];omega
   refine Ul k hG gv (by omega) (fun g hg=>by have:=bd.1 g hg;omega) fun z5 z6 z7 z8 cv H6 b6 xv xx=> ⟨cv,_,_,_,z5,z6,z7,z8,rfl,b5.trans b6,xv, ?_⟩
   rw[lT ht,Fm];exact xx
  ·rintro σ H5 ⟨ws,y2,y3,y4,y5,y6,y7,y8,rfl,b5,hG,gv⟩
   rw[lz,List.take_of_length_le (Nat.le_refl _)] at gv
   have bd:=sX us
   have lg:ws.length=(groups us).length:=Paired.length gv
   have sH:aD H H5:=fun b o e=>b5 _ _ (gO _ _ (s0 _ _ e)) (c_ e fG)
   have Uq:=sH _ _ hl
   have Ur:=bB.same sH
   refine bL (cC (aB ⟨Nat.zero_le _,fun F fF=> ?_⟩))
   have s6:=sameNew (o:= .lst []) fF
   refine xf (body:=FI) (ag rfl ⟨G,rfl,⟨_,ao.of (s6 _ _ hG)⟩,qJ (K:=K) (a:=G) (xs:=ws) (fun i σ H7=> ∃(rs:List V) (y2 y3 y8 lU:Option V),σ=[some (.ref l),some (.ref G),y2,y3,y4,y5,y6,y7,y8,some (.ref F),lU]∧aD H5 H7∧H7 F=some (.lst rs)∧aZ H7 rs (((groups us).take i).map (oneOf cs))) ?_ ?_ ?_ ?_⟩)
   ·exact⟨[],y2,y3,y8,none,rfl,s6,aG, .nil⟩
   ·rintro i σ H7 _ ⟨rs,z2,z3,z8,FK,rfl,s7,_⟩
    exact ao.of (s7 _ _ hG)
   ·rintro i x σ H7 hi ⟨rs,z2,z3,z8,FK,rfl,s7,hF,ds⟩
    obtain⟨g,hg,T,m,rfl,hT,hm,_,_⟩:=pV gv hi
    have ok:=Fy S g (List.mem_of_getElem? hg)
    refine FD (s7 _ _ hT) ?_
    refine Um (s7 _ _ Uq) (Ur.same s7) (s7 _ _ hm) ok.1 ok.2 hF ds (by rw[List.length_map,List.length_take];omega) fun y Us H8 b8 Ut Uu=> ⟨Us,_,_,_,y,rfl,fun b o e=>b8 _ _ (s7 _ _ e) (c_ e fF),Ut, ?_⟩
    rw[lT hg,List.map_append];exact Uu
   ·rintro σ H7 ⟨rs,z2,z3,z8,FK,rfl,s7,hF,ds⟩
    rw[lg,List.take_of_length_le (Nat.le_refl _)] at ds
    exact cb (ag rfl (q us F rs H7 S (sH.trans s7) (sH.free fF) hF ds))
end
theorem FL{K:Frag}{σ:St}{H:Hp}{QQ:List V→Hp→Addr→Prop}{te:TE}{fv:List (Str×Nat)}{a b:Addr}{xs ys:List V}(ha:H a=some (.lst xs))(hb:H b=some (.lst ys))(hl:xs.length≤1000000)(P:Nat→List V→Hp→Prop)(p0:P 0 [] H)(pm: ∀i zs H2 H3,P i zs H2→aD H2 H3→P i zs H3)
  (step: ∀i x y zs H2,xs[i]?=some x→ys[i]?=some y→aD H H2→P i zs H2→ ∀Q':VK,(∀z H3,aD H2 H3→P (i+1) (zs++ [z]) H3→Q' z H3)→te (some x::some y::bX σ fv) H2 Q')
  (fin: ∀zs H2 p,aD H H2→P (min xs.length ys.length) zs H2→H2 p=none→QQ zs H2 p): ∃W:Nat→Nat→List V→Hp→Prop,(∃m,W 0 m [] H)∧ ∀i m zs H2,W i m zs H2→
   ((jq K a b).stop i H2∧ ∀p,H2 p=none→QQ zs H2 p)∨
   ((jq K a b).go i H2∧ ∀x H3,(jq K a b).ed i H2 x H3→jj K (some 2) x H3 fun ws=>j6 none (ws.map some++bX σ fv) H3 fun b H5=>
    if b=true then te (ws.map some++bX σ fv) H5 fun y H6=>zs.length<sizeLine∧ ∃m',m'<m∧W (i+1) m' (zs++ [y]) H6 else ∃m',m'<m∧W (i+1) m' zs H5):=by
 refine⟨fun i m zs H2=>m=min xs.length ys.length - i∧i≤min xs.length ys.length∧zs.length=i∧aD H H2∧P i zs H2,⟨_,rfl,Nat.zero_le _,rfl,aD.refl _,p0⟩, ?_⟩
 rintro i m zs H2 ⟨rfl,hi,hy,s,p⟩
 by_cases aQ:i<min xs.length ys.length
 ·have h1:i<xs.length:=by omega
  have h2:i<ys.length:=by omega
  refine .inr ⟨⟨xs,ys,ao.of (s _ _ ha),ao.of (s _ _ hb),h1,h2⟩, ?_⟩
  rintro x H3 ⟨T,hT,rfl,hx⟩
  have dE:=hx xs ys xs[i] ys[i] (ao.of (s _ _ ha)) (ao.of (s _ _ hb)) (List.getElem?_eq_getElem h1) (List.getElem?_eq_getElem h2)
  subst dE
  have s3:=sameNew (o:= .tup [xs[i],ys[i]]) hT
  refine⟨T,_,rfl,aU.of aG,rfl, ?_⟩
  exact step i xs[i] ys[i] zs _ (List.getElem?_eq_getElem h1) (List.getElem?_eq_getElem h2) (s.trans s3) (pm _ _ _ _ p s3) _ fun y H4 s4 p4=> ⟨fX (by omega),min xs.length ys.length - (i+1),by omega,rfl,aQ,by simp[hy],(s.trans s3).trans s4,p4⟩
 ·have lP:i=min xs.length ys.length:=by omega
  subst lP
  exact .inl ⟨⟨xs,ys,ao.of (s _ _ ha),ao.of (s _ _ hb),rfl⟩,fun q hq=>fin zs _ q s p hq⟩
def Apart(cs:List Cu):Prop:= ∀i c d,cs[i]?=some c→cs[i+1]?=some d→near (min c.1 c.2.1) (max c.1 c.2.1) (min d.1 d.2.1) (max d.1 d.2.1)=false
theorem FN(xs:List V):cz xs (some 1) none=xs.drop 1:=by
 unfold cz
 have h:=HT.uf xs.length 0 1
 rw[show((1:Nat):Int)=1 from rfl] at h
 rw[h,HT.ue]
 by_cases z:1≤xs.length
 ·rw[Nat.min_eq_left z,List.take_of_length_le (by rw[List.length_drop];omega)]
 ·have:xs=[]:=List.eq_nil_of_length_eq_zero (by omega)
  subst this;rfl
section
variable {K:Frag}
def i5:Sp:=fun vs H Q E=> ∃(n:Nat) (l:Addr) (xs:List V) (cs:List Cu),vs=[.int n, .ref l]∧H l=some (.lst xs)∧aZ H xs cs∧1≤cs.length∧cs.length≤40∧(∀c∈cs,c.1≤n∧c.2.1≤n)∧Apart cs∧ ∀H',aD H H'→Q .ai H'
theorem Uv{CE:Addr}(vs:List V)(H:Hp)(Q:VK)(E:XK)(hh:i5 vs H Q E):ar (aW K [("is_cursor",iq),("meet",gM),("begin_of",eI),("end_of",gL)] [("MOST_CURSORS", .int 40)] (et:=[("NoCursor",CE)]) (E:=E)) oW (Dn Q) (start si vs) H:=by
 obtain⟨n,l,xs,cs,rfl,hl,bB,h1,h2,cg,xG,q⟩:=hh
 have lx:xs.length=cs.length:=Paired.length bB
 refine bZ (gJ (df (jF (ag rfl (sJ hl (iF ?_ rfl))))))
 refine df (sT (sS (au (d4 (ag rfl (.inl ⟨_,ao.of hl,N.lS ⟨_,rfl,iT (pE (N.lS ⟨_,rfl, ?_⟩)) (decide_eq_true (by omega))⟩⟩))))))
 rw[show decide (((xs.length:Nat):Int)≤40)=true from decide_eq_true (by omega)]
 refine iF (cU ?_) rfl
 refine bZ (df (xj (aj (pK (ag rfl ⟨l,rfl,⟨_,ao.of hl⟩, ?_⟩)))))
 refine pJ hl (by omega) (fun i ys _=>ys=(List.replicate i true).map V.bl) rfl ?_ ?_
 ·intro i x ys H2 hx s2 e Q' kk
  obtain⟨c,hc,t,rfl,ht⟩:=eY bB hx
  have b:=cg c (List.mem_of_getElem? hc)
  refine aX iq rfl (aj (ag rfl (aj (ag rfl (aB ⟨t,_,_,_,n,rfl,s2 _ _ ht,b.1,b.2,kk _ _ (aD.refl _) ?_⟩)))))
  rw[e,List.replicate_succ',List.map_append];rfl
 ·intro ys H2 p2 s2 e f2
  subst e
  have s3:=sameNew (o:= .lst ((List.replicate xs.length true).map V.bl)) f2
  refine aB ⟨p2,List.replicate xs.length true,rfl,ao.of aG,fZ (iF (cU ?_) (by simp))⟩
  have dA:=s2.trans s3
  have dq:=dA _ _ hl
  generalize upd H2 p2 (.lst ((List.replicate xs.length true).map V.bl))=H3 at dA dq⊢
  refine bZ (Fh (aj ?_))
  refine⟨_,rfl,_,rfl,_,rfl, .inl ⟨_,ao.of dq,fun w fw=> ⟨l,w,rfl,⟨_,ao.of (sameNew fw _ _ dq)⟩,⟨_,ao.of aG⟩, ?_⟩⟩⟩
  rw[FN]
  have s4:=sameNew (o:= .lst (xs.drop 1)) fw
  have hw:upd H3 w (.lst (xs.drop 1)) w=some (.lst (xs.drop 1)):=aG
  have jM:=s4 _ _ dq
  generalize upd H3 w (.lst (xs.drop 1))=H4 at s4 hw jM⊢
  have eK:=dA.trans s4
  refine FL jM hw (by omega) (fun i zs _=>zs=(List.replicate i false).map V.bl) rfl (fun _ _ _ _ p _=>p) ?_ ?_
  ·intro i x y zs H5 hx hy s5 e Q' kk
   rw[List.getElem?_drop,Nat.add_comm] at hy
   obtain⟨c,hc,t,rfl,ht⟩:=eY bB hx
   obtain⟨d,hd,t',rfl,i4⟩:=eY bB hy
   have p8:=s5 _ _ (eK _ _ ht)
   have xH:=s5 _ _ (eK _ _ i4)
   refine aX gM rfl (aj (aX eI rfl (aj (ag rfl (aB ⟨t,_,_,_,rfl,p8,aj (aX gL rfl (aj (ag rfl (aB ⟨t,_,_,_,rfl,p8,aj (ag rfl (aB ⟨_,_,t',_,_,_,rfl,xH, ?_⟩))⟩))))⟩)))))
   rw[xG i c d hc hd]
   refine kk _ _ (aD.refl _) ?_
   rw[e,List.replicate_succ',List.map_append];rfl
  ·intro zs H5 p5 s5 e f5
   subst e
   have s6:=sameNew (o:= .lst ((List.replicate (min xs.length (xs.drop 1).length) false).map V.bl)) f5
   refine aB ⟨p5,List.replicate (min xs.length (xs.drop 1).length) false,rfl,ao.of aG,fZ (iF ?_ (by simp))⟩
   exact q _ ((eK.trans s5).trans s6)
end
def bg(c:Cu):Nat:=min c.1 c.2.1
def en(c:Cu):Nat:=max c.1 c.2.1
theorem p_(c:Cu):bg c≤en c:=by unfold bg en;omega
theorem xI{lo hi b e:Nat}(h1:lo≤hi)(h2:b≤e)(h:near lo hi b e=false):hi≤b∧lo<b:=by
 unfold near at h
 split at h
 ·rw[Bool.or_eq_false_iff] at h
  have:=of_decide_eq_false h.1
  omega
 ·have:=of_decide_eq_false h
  omega
theorem Uw{lo hi b e:Nat}(h:hi<b):near lo hi b e=false:=by
 unfold near
 rw[if_neg (by omega)]
 exact decide_eq_false (by omega)
theorem Ux{lo hi b e e':Nat}(h2:b≤e)(h3:e≤e')(h:near lo hi b e=false):near lo hi b e'=false:=by
 unfold near at h⊢
 split
 ·rename_i z
  rw[if_pos z,Bool.or_eq_false_iff] at h
  have:=of_decide_eq_false h.2
  rw[Bool.or_eq_false_iff]
  exact⟨h.1,decide_eq_false (by omega)⟩
 ·rename_i z
  rw[if_neg z] at h
  exact h
def gf(cs:List Cu):Prop:=cs.Pairwise fun c d=>near (bg c) (en c) (bg d) (en d)=false
theorem gf.apart{cs:List Cu}(h:gf cs):Apart cs:=by
 intro i c d hc hd
 obtain⟨h1,e1⟩:=List.getElem?_eq_some_iff.mp hc
 obtain⟨h2,e2⟩:=List.getElem?_eq_some_iff.mp hd
 have:=List.pairwise_iff_getElem.mp h i (i+1) h1 h2 (by omega)
 rw[e1,e2] at this
 exact this
theorem gf.rise{cs:List Cu}(h:gf cs):cs.Pairwise fun c d=>bg c<bg d:=List.Pairwise.imp (fun {c d} x=> (xI (p_ c) (p_ d) x).2) h
def GI(cs:List Cu)(n:Nat)(g:Gr):Prop:=g.1≤g.2.1∧g.2.1≤n∧g.2.2≠ []∧ ∀k,g.2.2=[k]→ ∃c,cs[k]?=some c∧g.1=bg c∧g.2.1=en c
def xJ(a b:Gr):Prop:=near a.1 a.2.1 b.1 b.2.1=false
theorem Uy{cs:List Cu}{n:Nat}{t:T3}{c:Cu}(k:jK cs t c)(h:en c≤n):GI cs n (t.1.toNat,t.2.1.toNat,[t.2.2.toNat]):=by
 have e1:t.1.toNat=bg c:=by rw[k.e1];exact Int.toNat_natCast _
 have e2:t.2.1.toNat=en c:=by rw[k.e2];exact Int.toNat_natCast _
 refine⟨?_, ?_,by simp,fun m hm=> ?_⟩
 ·show t.1.toNat≤t.2.1.toNat
  rw[e1,e2];exact p_ c
 ·show t.2.1.toNat≤n
  rw[e2];exact h
 ·cases hm
  exact⟨c,k.at',e1,e2⟩
theorem FO(cs:List Cu)(n:Nat): ∀(us:List T3) (gs:List Gr),(∀t∈us,∃c,jK cs t c∧en c≤n)→(∀g∈gs,GI cs n g)→gs.Pairwise xJ→(∀g∈us.foldl bu gs,GI cs n g)∧(us.foldl bu gs).Pairwise xJ
 | [],gs,_,h1,h2=> ⟨h1,h2⟩
 | t::us,gs,hu,h1,h2=>by
  obtain⟨c,k,hc⟩:=hu t (.head _)
  have gn:=Uy k hc
  refine FO cs n us _ (fun x hx=>hu x (.tail _ hx)) ?_ ?_
  ·unfold bu
   split
   ·intro g hg
    rcases List.mem_append.mp hg with hg | hg
    ·exact h1 g hg
    ·rw[List.mem_singleton.mp hg];exact gn
   ·rename_i g0 e0
    split
    ·intro g hg
     rcases List.mem_append.mp hg with hg | hg
     ·exact h1 g (List.dropLast_subset _ hg)
     ·rw[List.mem_singleton.mp hg]
      have pN:=h1 g0 (List.mem_of_getLast? e0)
      refine⟨?_, ?_,by simp,fun m hm=> ?_⟩
      ·show g0.1≤max g0.2.1 t.2.1.toNat
       have:=pN.1;omega
      ·show max g0.2.1 t.2.1.toNat≤n
       have:=pN.2.1
       have:=gn.2.1
       have h':t.2.1.toNat≤n:=this
       omega
      ·have hl:=congrArg List.length hm
       have bW:=pN.2.2.1
       cases hq:g0.2.2 with
       | nil=>exact absurd hq bW
       | cons a b=>
        have fR:g0.2.2++ [t.2.2.toNat]=[m]:=hm
        rw[hq] at fR
        simp at fR
    ·intro g hg
     rcases List.mem_append.mp hg with hg | hg
     ·exact h1 g hg
     ·rw[List.mem_singleton.mp hg];exact gn
  ·rcases List.eq_nil_or_concat gs with eg | ⟨gb,g,eg⟩
   ·subst eg
    exact List.pairwise_singleton _ _
   ·rw[List.concat_eq_append] at eg
    subst eg
    have hg:=h1 g (by simp)
    have pw:=List.pairwise_append.mp h2
    unfold bu
    rw[show(gb++ [g]).getLast?=some g by simp]
    show List.Pairwise xJ (if near g.1 g.2.1 t.1.toNat t.2.1.toNat=true then _ else _)
    split
    ·rw[List.dropLast_concat]
     refine List.pairwise_append.mpr ⟨pw.1,List.pairwise_singleton _ _,fun a ha b hb=> ?_⟩
     rw[List.mem_singleton.mp hb]
     exact Ux hg.1 (Nat.le_max_left _ _) (pw.2.2 a ha g (.head _))
    ·rename_i nn
     have FP:near g.1 g.2.1 t.1.toNat t.2.1.toNat=false:=by simpa using nn
     refine List.pairwise_append.mpr ⟨h2,List.pairwise_singleton _ _,fun a ha b hb=> ?_⟩
     rw[List.mem_singleton.mp hb]
     rcases List.mem_append.mp ha with ha | ha
     ·have x:=xI (h1 a (List.mem_append_left _ ha)).1 hg.1 (pw.2.2 a ha g (.head _))
      have y:=xI hg.1 (show t.1.toNat≤t.2.1.toNat from gn.1) FP
      exact Uw (show a.2.1<t.1.toNat by omega)
     ·rw[List.mem_singleton.mp ha];exact FP
theorem qa{cs:List Cu}{n:Nat}{g:Gr}(h:GI cs n g):bg (oneOf cs g)=g.1∧en (oneOf cs g)=g.2.1:=by
 obtain⟨a,b,c,d⟩:=h
 unfold oneOf
 by_cases e:g.2.2.length=1
 ·obtain⟨k,hk⟩:=List.length_eq_one_iff.mp e
  obtain⟨x,hx,e1,e2⟩:=d k hk
  simp only[hk,List.length_singleton,if_true]
  show bg ((cs[k]?).getD _)=g.1∧en ((cs[k]?).getD _)=g.2.1
  rw[hx]
  exact⟨e1.symm,e2.symm⟩
 ·simp only[e,if_false]
  split
  ·exact⟨by show min g.2.1 g.1=g.1;omega,by show max g.2.1 g.1=g.2.1;omega⟩
  ·exact⟨by show min g.1 g.2.1=g.1;omega,by show max g.1 g.2.1=g.2.1;omega⟩
theorem Uz(gs:List Gr)(t:T3):bu gs t≠ []:=by
 unfold bu
 split
 ·simp
 ·split<;>simp
theorem FQ: ∀(us:List T3) (gs:List Gr),(us≠ []∨gs≠ [])→us.foldl bu gs≠ []
 | [],gs,h=>by rcases h with h | h;exact absurd rfl h;exact h
 | t::us,gs,_=>FQ us _ (.inr (Uz gs t))
structure UA (cs ds:List Cu) (n:Nat):Prop where
 i6:gf ds
 fD: ∀c∈ds,c.1≤n∧c.2.1≤n
 len:ds.length≤cs.length
 ne:cs≠ []→ds≠ []
theorem UB{cs:List Cu}{us:List T3}{n:Nat}(S:eQ cs us)(hn: ∀c∈cs,c.1≤n∧c.2.1≤n):UA cs (settle cs us) n:=by
 obtain⟨g1,g2⟩:=FO cs n us [] (fun t ht=>by
  obtain⟨c,k⟩:=pP S ht
  have:=hn c (List.mem_of_getElem? k.at')
  exact⟨c,k,by unfold en;omega⟩) (fun g hg=>by cases hg) List.Pairwise.nil
 refine⟨?_, ?_, ?_, ?_⟩
 ·unfold gf settle
  rw[List.pairwise_map]
  refine List.Pairwise.imp_of_mem (fun {a b} ha hb x=> ?_) g2
  rw[(qa (g1 a ha)).1,(qa (g1 a ha)).2,(qa (g1 b hb)).1,(qa (g1 b hb)).2]
  exact x
 ·intro c hc
  obtain⟨g,hg,rfl⟩:=List.mem_map.mp hc
  have o:=qa (g1 g hg)
  have:=(g1 g hg).2.1
  unfold en at o
  omega
 ·unfold settle
  rw[List.length_map]
  have:=(xu us [] 0 (fun g hg=>by cases hg) (Nat.le_refl _)).2
  rw[S.1.length_eq,jI] at this
  unfold groups;omega
 ·intro h
  have:us≠ []:=fun z=>by
   have:=S.1.length_eq
   rw[z,jI] at this
   exact h (List.eq_nil_of_length_eq_zero this.symm)
  unfold settle
  intro z
  exact FQ us [] (.inl this) (List.map_eq_nil_iff.mp z)
theorem FR: ∀{us ws:List Cu},us.Perm ws→(us.Pairwise fun a b=>bg a<bg b)→(ws.Pairwise fun a b=>bg a<bg b)→us=ws
 | [],ws,h,_,_=> (List.nil_perm.mp h).symm
 | u::us,[],h,_,_=>absurd h.length_eq (by simp)
 | u::us,w::ws,h,hu,hw=>by
  have e:u=w:=by
   by_cases z:u=w
   ·exact z
   ·have h1:u∈ws:=by
     rcases List.mem_cons.mp (h.subset (.head _)) with x | x
     ·exact absurd x z
     ·exact x
    have h2:w∈us:=by
     rcases List.mem_cons.mp (h.symm.subset (.head _)) with x | x
     ·exact absurd x.symm z
     ·exact x
    have a:=(List.pairwise_cons.mp hw).1 u h1
    have b:=(List.pairwise_cons.mp hu).1 w h2
    omega
  subst e
  rw[FR (List.Perm.cons_inv h) (List.pairwise_cons.mp hu).2 (List.pairwise_cons.mp hw).2]
def valAt(cs:List Cu)(t:T3):Cu:=(cs[t.2.2.toNat]?).getD (0,0,none)
theorem FT: ∀(cs pre:List Cu),(dz pre.length cs).map (valAt (pre++cs))=cs
 | [],pre=>rfl
 | c::cs,pre=>by
  show valAt (pre++c::cs) (keyOf c pre.length)::(dz (pre.length+1) cs).map _=_
  have h:=FT cs (pre++ [c])
  rw[List.length_append,List.append_assoc] at h
  rw[show(dz (pre.length+1) cs).map (valAt (pre++c::cs))=cs from h]
  congr 1
  show((pre++c::cs)[((pre.length:Nat):Int).toNat]?).getD _=c
  rw[Int.toNat_natCast];simp
def single(t:T3):Gr:=(t.1.toNat,t.2.1.toNat,[t.2.2.toNat])
theorem FU: ∀(us pre:List T3),((pre++us).Pairwise fun t t'=>near t.1.toNat t.2.1.toNat t'.1.toNat t'.2.1.toNat=false)→us.foldl bu (pre.map single)=(pre++us).map single
 | [],pre,_=>by simp
 | t::us,pre,h=>by
  have e:bu (pre.map single) t=(pre++ [t]).map single:=by
   rw[List.map_append]
   unfold bu
   split
   ·rfl
   ·rename_i g0 e0
    obtain⟨p,hp,rfl⟩:=List.mem_map.mp (List.mem_of_getLast? e0)
    have:=(List.pairwise_append.mp h).2.2 p hp t (.head _)
    rw[if_neg]
    ·rfl
    ·show ¬near p.1.toNat p.2.1.toNat t.1.toNat t.2.1.toNat=true
     rw[this];simp
  show us.foldl bu (bu (pre.map single) t)=_
  rw[e,FU us (pre++ [t]) (by rw[List.append_assoc];exact h),List.append_assoc];rfl
theorem UC{ds d5:List Cu}{us:List T3}(F:gf ds)(P:d5.Perm ds)(S:eQ d5 us):settle d5 us=ds:=by
 have hv: ∀t∈us,jK d5 t (valAt d5 t):=fun t ht=>by
  obtain⟨c,k⟩:=pP S ht
  have e:valAt d5 t=c:=by unfold valAt;rw[k.at'];rfl
  rw[e];exact k
 have P1:(us.map (valAt d5)).Perm d5:=by
  have:=FT d5 []
  have h2:=S.1.map (valAt d5)
  rw[show(dz 0 d5).map (valAt d5)=d5 from this] at h2
  exact h2
 have P2:=P1.trans P
 have r1:(us.map (valAt d5)).Pairwise fun a b=>bg a≤bg b:=by
  rw[List.pairwise_map]
  refine List.Pairwise.imp_of_mem (fun {a b} ha hb x=> ?_) S.2
  have ka:=(hv a ha).e1
  have kb:=(hv b hb).e1
  have l:=oZ.mp x
  unfold bg
  omega
 have r2:(us.map (valAt d5)).Pairwise fun a b=>bg a≠bg b:=by
  have n1:(ds.map bg).Nodup:=by
   rw[List.nodup_iff_pairwise_ne,List.pairwise_map]
   exact List.Pairwise.imp (fun x=>Nat.ne_of_lt x) F.rise
  have n2:=(P2.map bg).nodup_iff.mpr n1
  rw[List.nodup_iff_pairwise_ne,List.pairwise_map] at n2
  exact n2
 have r3:(us.map (valAt d5)).Pairwise fun a b=>bg a<bg b:=List.Pairwise.imp₂ (fun _ _ x y=>Nat.lt_of_le_of_ne x y) r1 r2
 have e:=FR P2 r3 F.rise
 have pf:us.Pairwise fun t t'=>near t.1.toNat t.2.1.toNat t'.1.toNat t'.2.1.toNat=false:=by
  have F':=F
  unfold gf at F'
  rw[←e,List.pairwise_map] at F'
  refine List.Pairwise.imp_of_mem (fun {a b} ha hb x=> ?_) F'
  have ka:=hv a ha
  have kb:=hv b hb
  rw[ka.e1,ka.e2,kb.e1,kb.e2,Int.toNat_natCast,Int.toNat_natCast,Int.toNat_natCast,Int.toNat_natCast]
  exact x
 have eg:groups us=us.map single:=FU us [] pf
 unfold settle
 rw[eg,List.map_map]
 exact e
def xM(v:V):Prop:=(∃i:Int,v= .int i∧i<0)∨(∃b,v= .bl b)∨ ∃s,v= .str s
def eZ(v:V)(n:Nat)(H:Hp):Prop:=iY .tuple v H∨ ∃a xs,v= .ref a∧H a=some (.tup xs)∧(xs.length≠3∨ ∃x y z,xs=[x,y,z]∧
 (jE x 0 (n:Nat) H∨ ∃i:Int,x= .int i∧0≤i∧i≤ (n:Nat)∧(jE y 0 (n:Nat) H∨ ∃j:Int,y= .int j∧0≤j∧j≤ (n:Nat)∧xM z)))
theorem eZ.same{v:V}{n:Nat}{H H':Hp}(h:eZ v n H)(s:aD H H'):eZ v n H':=by
 rcases h with h | ⟨a,xs,rfl,ha,h⟩
 ·exact .inl (h.same s)
 ·refine .inr ⟨a,xs,rfl,s _ _ ha, ?_⟩
  rcases h with h | ⟨x,y,z,rfl,h⟩
  ·exact .inl h
  ·refine .inr ⟨x,y,z,rfl, ?_⟩
   rcases h with h | ⟨i,rfl,h1,h2,h⟩
   ·exact .inl (h.same s)
   ·refine .inr ⟨i,rfl,h1,h2, ?_⟩
    rcases h with h | h
    ·exact .inl (h.same s)
    ·exact .inr h
section
variable {K:Frag}
def qb:Sp:=fun vs H Q E=> ∃v:V,vs=[v]∧xM v∧Q (.bl false) H
theorem UD(vs:List V)(H:Hp)(Q:VK)(E:XK)(h:qb vs H Q E):ar (aW K [("is_whole",fk)] [] (E:=E)) oU (Dn Q) (start sg vs) H:=by
 obtain⟨v,rfl,h,q⟩:=h
 have no: ∀(w:V),w≠ .ai→V.bl (decide (w= .ai))= .bl false:=fun w hw=>by rw[decide_eq_false hw]
 rcases h with⟨i,rfl,hi⟩ | ⟨b,rfl⟩ | ⟨s,rfl⟩
 ·refine cb (jG (de (ag rfl (au ⟨rfl,_,rfl,iF ?_ (decide_eq_false (by simp))⟩))))
  refine f_ (aX fk rfl (aj (ag rfl (aB ⟨_,rfl, .inl ⟨_,rfl,_,rfl,iT ?_ rfl⟩⟩))))
  refine ni (de (ag rfl (au (N.Ff ?_))))
  rw[decide_eq_false (show ¬(0:Int)≤i by omega)]
  exact q
 ·refine cb (jG (de (ag rfl (au ⟨rfl,_,rfl,iF ?_ (decide_eq_false (by simp))⟩))))
  exact f_ (aX fk rfl (aj (ag rfl (aB ⟨_,rfl, .inr ⟨.inl ⟨_,rfl⟩,_,rfl,iF q rfl⟩⟩))))
 ·refine cb (jG (de (ag rfl (au ⟨rfl,_,rfl,iF ?_ (decide_eq_false (by simp))⟩))))
  exact f_ (aX fk rfl (aj (ag rfl (aB ⟨_,rfl, .inr ⟨.inr rfl,_,rfl,iF q rfl⟩⟩))))
def lW:Sp:=fun vs H Q E=> ∃(v:V) (n:Nat),vs=[v, .int n]∧eZ v n H∧Q (.bl false) H
theorem UE(vs:List V)(H:Hp)(Q:VK)(E:XK)(h:lW vs H Q E):ar (aW K [("is_between",fY),("is_goal",d0 jH qb)] [] (E:=E)) oV (Dn Q) (start sh vs) H:=by
 obtain⟨v,n,rfl,h,q⟩:=h
 rcases h with h | ⟨a,xs,rfl,ha,h⟩
 ·exact bZ (gJ (df (jF (ag rfl (h.go (iT (iT (cb (au q)) rfl) rfl))))))
 ·refine bZ (gJ (df (jF (ag rfl (sI ha (iF ?_ rfl))))))
  rcases h with h | ⟨x,y,z,rfl,h⟩
  ·exact cP (d4 (ag rfl (.inr ⟨_,aU.of ha,au (sO ⟨_,rfl,iT (cb (au q)) (by simp;omega)⟩)⟩)))
  ·refine cP (d4 (ag rfl (.inr ⟨_,aU.of ha,au (sO ⟨_,rfl,iF (cU ?_) (by simp)⟩)⟩)))
   rcases h with h | ⟨i,rfl,h1,h2,h⟩
   ·exact cb (f_ (aX fY rfl (aj (ba (ag rfl (au (bN ha rfl (aj (au (aj (ag rfl (aB ⟨_,_,_,rfl, .inr ⟨h,_,rfl,iF q rfl⟩⟩))))))))))))
   ·refine cb (f_ (aX fY rfl (aj (ba (ag rfl (au (bN ha rfl (aj (au (aj (ag rfl (aB ⟨_,_,_,rfl, .inl ⟨_,rfl,h1,h2,_,rfl,iT ?_ rfl⟩⟩))))))))))))
    rcases h with h | ⟨j,rfl,h3,h4,h⟩
    ·exact f_ (aX fY rfl (aj (ba (ag rfl (au (bN ha rfl (aj (au (aj (ag rfl (aB ⟨_,_,_,rfl, .inr ⟨h,_,rfl,iF q rfl⟩⟩)))))))))))
    ·refine f_ (aX fY rfl (aj (ba (ag rfl (au (bN ha rfl (aj (au (aj (ag rfl (aB ⟨_,_,_,rfl, .inl ⟨_,rfl,h3,h4,_,rfl,iT ?_ rfl⟩⟩)))))))))))
     exact ni (aX (d0 jH qb) rfl (aj (ba (ag rfl (au (bN ha rfl (aB (.inr ⟨_,rfl,h,q⟩))))))))
def lX(v:V)(n:Nat)(H:Hp):Prop:=(∃c,fB H v c∧c.1≤n∧c.2.1≤n)∨eZ v n H
def d6(v:V)(n:Nat)(H:Hp):Prop:=iY .list v H∨ ∃l xs,v= .ref l∧H l=some (.lst xs)∧(xs.length=0∨40<xs.length∨
 (xs.length≤40∧((∃eN o ir,xs=eN++o::ir∧(∀x∈eN++ir,lX x n H)∧eZ o n H)∨
  ∃cs i c d,aZ H xs cs∧(∀c∈cs,c.1≤n∧c.2.1≤n)∧cs[i]?=some c∧cs[i+1]?=some d∧near (bg c) (en c) (bg d) (en d)=true)))
def ny(CE:Addr):Sp:=fun vs H Q E=> ∃(n:Nat) (v:V),vs=[.int n,v]∧d6 v n H∧ ∀H',aD H H'→E (.ref CE) none H'
abbrev FV:List (Str×Sp):=[("is_cursor",d0 iq lW),("meet",gM),("begin_of",eI),("end_of",gL)]
theorem UG{CE:Addr}(vs:List V)(H:Hp)(Q:VK)(E:XK)(hh:ny CE vs H Q E):ar (aW K FV [("MOST_CURSORS", .int 40)] (et:=[("NoCursor",CE)]) (E:=E)) oW (Dn Q) (start si vs) H:=by
 obtain⟨n,v,rfl,h,q⟩:=hh
 rcases h with h | ⟨l,xs,rfl,hl,h⟩
 ·refine bZ (gJ (df (jF (ag rfl (h.go (iT (iT ?_ rfl) rfl))))))
  exact⟨(by show 1≤sizeLine;decide),q _ (aD.refl _)⟩
 refine bZ (gJ (df (jF (ag rfl (sJ hl (iF ?_ rfl))))))
 rcases h with h | h | ⟨hle,h⟩
 ·refine df (sT (sS (au (d4 (ag rfl (.inl ⟨_,ao.of hl,N.lS ⟨_,rfl,iF ⟨_,rfl,iT ?_ rfl⟩ (decide_eq_false (by omega))⟩⟩))))))
  exact⟨(by show 1≤sizeLine;decide),q _ (aD.refl _)⟩
 ·refine df (sT (sS (au (d4 (ag rfl (.inl ⟨_,ao.of hl,N.lS ⟨_,rfl,iT (pE (N.lS ⟨_,rfl, ?_⟩)) (decide_eq_true (by omega))⟩⟩))))))
  rw[show decide (((xs.length:Nat):Int)≤40)=false from decide_eq_false (by omega)]
  exact iT ⟨(by show 1≤sizeLine;decide),q _ (aD.refl _)⟩ rfl
 have h0:1≤xs.length:=by
  rcases h with⟨eN,o,ir,rfl,_⟩ | ⟨cs,i,c,d,bB,_,hc,_⟩
  ·rw[List.length_append,List.length_cons];omega
  ·have:=(List.getElem?_eq_some_iff.mp hc).1
   have:=Paired.length bB
   omega
 refine df (sT (sS (au (d4 (ag rfl (.inl ⟨_,ao.of hl,N.lS ⟨_,rfl,iT (pE (N.lS ⟨_,rfl, ?_⟩)) (decide_eq_true (by omega))⟩⟩))))))
 rw[show decide (((xs.length:Nat):Int)≤40)=true from decide_eq_true (by omega)]
 refine iF (cU ?_) rfl
 rcases h with⟨eN,o,ir,rfl,UH,ho⟩ | ⟨cs,j,c,d,bB,cg,hc,hd,bW⟩
 ·refine bZ (df (xj (aj (pK (ag rfl ⟨l,rfl,⟨_,ao.of hl⟩, ?_⟩)))))
  refine pJ hl (by omega) (fun i ys _=> ∃bs:List Bool,ys=bs.map V.bl∧(eN.length<i→false∈bs)) ⟨[],rfl,fun z=>absurd z (Nat.not_lt_zero _)⟩ ?_ ?_
  ·rintro i x ys H2 hx s2 ⟨bs,rfl,hb⟩ Q' kk
   have odd:eZ x n H→aa (aW K FV [("MOST_CURSORS", .int 40)] (et:=[("NoCursor",CE)]) (E:=E)).calm (.call 0 [(.v 0),(.v 1)]) (some x::bX [some (V.int (n:Nat)),some (V.ref l)] [("size",0)]) H2 Q':=by
    intro dE
    refine aX (d0 iq lW) rfl (aj (ag rfl (aj (ag rfl (aB (.inr ⟨x,n,rfl,dE.same s2,kk _ _ (aD.refl _) ⟨bs++ [false],by rw[List.map_append];rfl,fun _=>by simp⟩⟩))))))
   by_cases hi:i=eN.length
   ·have e:x=o:=by rw[hi] at hx;simpa using hx.symm
    rw[e] at odd
    rw[e]
    exact odd ho
   ·have hm:x∈eN++ir:=by
     by_cases C7:i<eN.length
     ·rw[List.getElem?_append_left C7] at hx
      exact List.mem_append_left _ (List.mem_of_getElem? hx)
     ·rw[List.getElem?_append_right (by omega)] at hx
      obtain⟨m,hm⟩: ∃m,i - eN.length=m+1:=⟨i - eN.length - 1,by omega⟩
      rw[hm,List.getElem?_cons_succ] at hx
      exact List.mem_append_right _ (List.mem_of_getElem? hx)
    rcases UH x hm with⟨c,⟨t,rfl,ht⟩,b1,b2⟩ | dE
    ·refine aX (d0 iq lW) rfl (aj (ag rfl (aj (ag rfl (aB (.inl ⟨t,_,_,_,n,rfl,s2 _ _ ht,b1,b2,kk _ _ (aD.refl _) ⟨bs++ [true],by rw[List.map_append];rfl,fun z=> ?_⟩⟩))))))
     exact List.mem_append_left _ (hb (by omega))
    ·exact odd dE
  ·rintro ys H2 p2 s2 ⟨bs,rfl,hb⟩ f2
   have hf:=hb (by rw[List.length_append,List.length_cons];omega)
   have s3:=sameNew (o:= .lst (bs.map V.bl)) f2
   refine aB ⟨p2,bs,rfl,ao.of aG,fZ (iT ?_ ?_)⟩
   ·exact⟨(by show 1≤sizeLine;decide),q _ (s2.trans s3)⟩
   ·have:bs.all id=false:=by
     cases e:bs.all id with
     | false=>rfl
     | true=>exact absurd (List.all_eq_true.mp e false hf) (by simp)
    simpa using this
 ·have lx:xs.length=cs.length:=Paired.length bB
  refine bZ (df (xj (aj (pK (ag rfl ⟨l,rfl,⟨_,ao.of hl⟩, ?_⟩)))))
  refine pJ hl (by omega) (fun i ys _=>ys=(List.replicate i true).map V.bl) rfl ?_ ?_
  ·intro i x ys H2 hx s2 e Q' kk
   obtain⟨c,hc,t,rfl,ht⟩:=eY bB hx
   have b:=cg c (List.mem_of_getElem? hc)
   refine aX (d0 iq lW) rfl (aj (ag rfl (aj (ag rfl (aB (.inl ⟨t,_,_,_,n,rfl,s2 _ _ ht,b.1,b.2,kk _ _ (aD.refl _) ?_⟩))))))
   rw[e,List.replicate_succ',List.map_append];rfl
  ·intro ys H2 p2 s2 e f2
   subst e
   have s3:=sameNew (o:= .lst ((List.replicate xs.length true).map V.bl)) f2
   refine aB ⟨p2,List.replicate xs.length true,rfl,ao.of aG,fZ (iF (cU ?_) (by simp))⟩
   have dA:=s2.trans s3
   have dq:=dA _ _ hl
   generalize upd H2 p2 (.lst ((List.replicate xs.length true).map V.bl))=H3 at dA dq⊢
   refine bZ (Fh (aj ?_))
   refine⟨_,rfl,_,rfl,_,rfl, .inl ⟨_,ao.of dq,fun w fw=> ⟨l,w,rfl,⟨_,ao.of (sameNew fw _ _ dq)⟩,⟨_,ao.of aG⟩, ?_⟩⟩⟩
   rw[FN]
   have s4:=sameNew (o:= .lst (xs.drop 1)) fw
   have hw:upd H3 w (.lst (xs.drop 1)) w=some (.lst (xs.drop 1)):=aG
   have jM:=s4 _ _ dq
   generalize upd H3 w (.lst (xs.drop 1))=H4 at s4 hw jM⊢
   have eK:=dA.trans s4
   refine FL jM hw (by omega) (fun i zs _=> ∃bs:List Bool,zs=bs.map V.bl∧(j<i→true∈bs)) ⟨[],rfl,fun z=>absurd z (Nat.not_lt_zero _)⟩ (fun _ _ _ _ p _=>p) ?_ ?_
   ·rintro i x y zs H5 hx hy s5 ⟨bs,rfl,hb⟩ Q' kk
    rw[List.getElem?_drop,Nat.add_comm] at hy
    obtain⟨c',bI,t,rfl,ht⟩:=eY bB hx
    obtain⟨d',qx,t',rfl,i4⟩:=eY bB hy
    have p8:=s5 _ _ (eK _ _ ht)
    have xH:=s5 _ _ (eK _ _ i4)
    refine aX gM rfl (aj (aX eI rfl (aj (ag rfl (aB ⟨t,_,_,_,rfl,p8,aj (aX gL rfl (aj (ag rfl (aB ⟨t,_,_,_,rfl,p8,aj (ag rfl (aB ⟨_,_,t',_,_,_,rfl,xH, ?_⟩))⟩))))⟩)))))
    refine kk _ _ (aD.refl _) ⟨bs++ [near (bg c') (en c') (bg d') (en d')],by rw[List.map_append];rfl,fun z=> ?_⟩
    by_cases hi:i=j
    ·subst hi
     rw[hc] at bI;rw[hd] at qx
     cases bI;cases qx
     rw[bW];simp
    ·exact List.mem_append_left _ (hb (by omega))
   ·rintro zs H5 p5 s5 ⟨bs,rfl,hb⟩ f5
    have hj:=(List.getElem?_eq_some_iff.mp hd).1
    have hf:=hb (by rw[List.length_drop];omega)
    have s6:=sameNew (o:= .lst (bs.map V.bl)) f5
    refine aB ⟨p5,bs,rfl,ao.of aG,fZ (iT ?_ ?_)⟩
    ·exact⟨(by show 1≤sizeLine;decide),q _ ((eK.trans s5).trans s6)⟩
    ·exact List.any_eq_true.mpr ⟨true,hf,rfl⟩
end
section
variable {K:Frag}
def qc:Sp:=fun vs H Q E=> ∃(c:Int) (n:Nat),vs=[.int c, .int n]∧ ∀t a h g H',aD H H'→eW H' t a h g→a≤n→h≤n→Q (.ref t) H'
theorem FW{c:Int}{n:Nat}: ∃a:Nat,c % ((n:Nat)+1:Int)=(a:Nat)∧a≤n:=by
 have h1:=Int.emod_nonneg c (show((n:Nat)+1:Int)≠0 by omega)
 have h2:=Int.emod_lt_of_pos c (show(0:Int) < (n:Nat)+1 by omega)
 exact⟨(c % ((n:Nat)+1:Int)).toNat,by omega,by omega⟩
theorem UI(vs:List V)(H:Hp)(Q:VK)(E:XK)(hh:qc vs H Q E):ar (aW K [("_law_mixed",eU)] [] (E:=E)) fj (Dn Q) (start kR vs) H:=by
 obtain⟨c,n,rfl,q⟩:=hh
 refine bL (aX eU rfl (aj (ag rfl (aj (au (aB ⟨_,_,rfl, ?_⟩))))))
 have hm:=(wU c 3).1
 generalize mixed c 3=m at hm⊢
 have n1:(0:Int) < (n:Nat)+1:=by omega
 refine bL (ba (cC (aj (br (ag rfl (br (ag rfl (au (iZ ⟨n1, ?_⟩)))))))))
 refine aj (au (aj (ag rfl (aj (br (br (ag rfl (au ⟨⟨by decide,by decide⟩,br (ag rfl (au (iZ ⟨n1,aB ⟨(by show 4≤sizeLine;decide),fun l fl=> ?_⟩⟩)))⟩))))))))
 have s1:=sameNew (o:= .lst [V.int (m % ((n:Nat)+1:Int)),V.int 0,V.int (n:Nat),V.int (m / 7 % ((n:Nat)+1:Int))]) fl
 obtain⟨v,hv,gc⟩:=L2.N.pick (its:=[V.int (m % ((n:Nat)+1:Int)),V.int 0,V.int (n:Nat),V.int (m / 7 % ((n:Nat)+1:Int))]) (j:=m / 5 % 4) (Int.emod_nonneg _ (by decide)) (Int.emod_lt_of_pos _ (by decide))
 obtain⟨a,rfl,la⟩: ∃a:Nat,v= .int a∧a≤n:=by
  simp only[List.mem_cons,List.not_mem_nil,or_false] at hv
  rcases hv with rfl | rfl | rfl | rfl
  ·obtain⟨x,e,l⟩:=FW (c:=m) (n:=n)
   exact⟨x,by rw[e],l⟩
  ·exact⟨0,rfl,Nat.zero_le _⟩
  ·exact⟨n,rfl,Nat.le_refl _⟩
  ·obtain⟨x,e,l⟩:=FW (c:=m / 7) (n:=n)
   exact⟨x,by rw[e],l⟩
 refine br (br (ag rfl (au ⟨⟨by decide,by decide⟩,au ⟨(by show(0:Int) <4;decide),eV aG gc ?_⟩⟩)))
 generalize upd H l (.lst [V.int (m % ((n:Nat)+1:Int)),V.int 0,V.int (n:Nat),V.int (m / 7 % ((n:Nat)+1:Int))])=H1 at s1⊢
 refine bL (fo (aj (au (aj (fo (aj (ag rfl (aj (br (ag rfl (ba (cC (aj (au (aj (au (aj (au (aj (lR (aj (au (aj (lR (aj (au (aj (ag rfl (aB ⟨(by show 8≤sizeLine;decide),fun l2 UJ=> ?_⟩)))))))))))))))))))))))))))))
 have s2:=sameNew (o:= .lst [V.int 0,V.int 0,V.int 1,V.int (-1),V.int 3,V.int (-4),V.int 9,V.int (n:Nat)]) UJ
 obtain⟨w,hw,UK⟩:=L2.N.pick (its:=[V.int 0,V.int 0,V.int 1,V.int (-1),V.int 3,V.int (-4),V.int 9,V.int (n:Nat)]) (j:=m / 23 % 8) (Int.emod_nonneg _ (by decide)) (Int.emod_lt_of_pos _ (by decide))
 obtain⟨d,rfl⟩: ∃d:Int,w= .int d:=by
  simp only[List.mem_cons,List.not_mem_nil,or_false] at hw
  rcases hw with rfl | rfl | rfl | rfl | rfl | rfl | rfl | rfl<;>exact⟨_,rfl⟩
 refine br (br (ag rfl (au ⟨⟨by decide,by decide⟩,au ⟨(by show(0:Int) <8;decide),eV aG UK (iZ (aB ?_))⟩⟩)))
 obtain⟨h,lh,eh⟩: ∃h:Nat,h≤n∧(if (if ((a:Nat):Int)+d< ((n:Nat):Int) then ((a:Nat):Int)+d else ((n:Nat):Int)) >0 then (if ((a:Nat):Int)+d< ((n:Nat):Int) then ((a:Nat):Int)+d else ((n:Nat):Int)) else (0:Int))=((h:Nat):Int):=by
  refine⟨(if (if ((a:Nat):Int)+d< ((n:Nat):Int) then ((a:Nat):Int)+d else ((n:Nat):Int)) >0 then (if ((a:Nat):Int)+d< ((n:Nat):Int) then ((a:Nat):Int)+d else ((n:Nat):Int)) else (0:Int)).toNat, ?_, ?_⟩
  ·split<;>split<;>omega
  ·split<;>split<;>omega
 show ar _ (fj.drop 3) _ [some (.int c),some (.int n),some (.int m),some (.int a),some (.int (if (if ((a:Nat):Int)+d< ((n:Nat):Int) then ((a:Nat):Int)+d else ((n:Nat):Int)) >0 then (if ((a:Nat):Int)+d< ((n:Nat):Int) then ((a:Nat):Int)+d else ((n:Nat):Int)) else (0:Int)))] _
 rw[eh]
 generalize upd H1 l2 (.lst [V.int 0,V.int 0,V.int 1,V.int (-1),V.int 3,V.int (-4),V.int 9,V.int (n:Nat)])=H2 at s2⊢
 have m9:0≤m / 3 % 9:=Int.emod_nonneg _ (by decide)
 refine cb (dI (aj (ag rfl (aj (ag rfl (aj (ba (cC (aj (au (aj (au (aj (br (br (ag rfl (au ⟨⟨by decide,by decide⟩,au ⟨(by show(0:Int) <9;decide),aj (ag rfl (aB ⟨(by show 4≤sizeLine;decide),fun l fl=> ?_⟩))⟩⟩)))))))))))))))))
 have s3:=sameNew (o:= .lst [V.ai,V.ai,V.int (m / 3 % 9),V.int m]) fl
 obtain⟨v,hv,gc⟩:=L2.N.pick (its:=[V.ai,V.ai,V.int (m / 3 % 9),V.int m]) (j:=m / 11 % 4) (Int.emod_nonneg _ (by decide)) (Int.emod_lt_of_pos _ (by decide))
 obtain⟨g,rfl⟩: ∃g:Option Nat,v=gV g:=by
  simp only[List.mem_cons,List.not_mem_nil,or_false] at hv
  rcases hv with rfl | rfl | rfl | rfl
  ·exact⟨none,rfl⟩
  ·exact⟨none,rfl⟩
  ·exact⟨some (m / 3 % 9).toNat,by show V.int _=V.int _;rw[show(((m / 3 % 9).toNat:Nat):Int)=m / 3 % 9 by omega]⟩
  ·exact⟨some m.toNat,by show V.int _=V.int _;rw[show((m.toNat:Nat):Int)=m by omega]⟩
 refine br (br (ag rfl (au ⟨⟨by decide,by decide⟩,au ⟨(by show(0:Int) <4;decide),eV aG gc (aB ⟨(by show 3≤sizeLine;decide),fun t ft=> ?_⟩)⟩⟩)))
 exact q t a h g _ ((((s1.trans s2).trans s3)).trans (sameNew ft)) aG la lh
def qd:Sp:=fun vs H Q E=> ∃(f d:Addr) (xs ys:List V) (cs:List Cu),vs=[.ref f, .ref d]∧H f=some (.lst xs)∧H d=some (.lst ys)∧aZ H xs cs∧aZ H ys cs∧ ∀H',aD H H'→Q (.bl true) H'
theorem UL(vs:List V)(H:Hp)(Q:VK)(E:XK)(hh:qd vs H Q E):ar (aW K [("_law_whole",jC)] [] (E:=E)) wI (Dn Q) (start wH vs) H:=by
 obtain⟨f,d,xs,ys,cs,rfl,hf,hd,oh,FX,q⟩:=hh
 have l1:xs.length=cs.length:=Paired.length oh
 have l2:ys.length=cs.length:=Paired.length FX
 refine bZ (gJ (df (jF (ag rfl (sJ hf (iF ?_ rfl))))))
 refine cP (d4 (ag rfl (.inl ⟨_,ao.of hf,d4 (ag rfl (.inl ⟨_,ao.of hd,sO ⟨_,rfl,iF (cU ?_) ?_⟩⟩))⟩)))
 ·refine⟨_,rfl,_,rfl,f,d,rfl,⟨_,ao.of hf⟩,⟨_,ao.of hd⟩,Tz (K:=K) (a:=f) (b:=d) (xs:=xs) (ys:=ys) (by omega) (fun i σ H2=> ∃v w,σ=[some (.ref f),some (.ref d),v,w]∧aD H H2) ⟨none,none,rfl,aD.refl _⟩
   (fun i σ H2 ⟨_,_,_,s2⟩=> ⟨ao.of (s2 _ _ hf),ao.of (s2 _ _ hd)⟩) ?_ ?_⟩
  ·rintro i x y σ H2 T hx hy ⟨v,w,rfl,s2⟩ hT
   have s3:aD H (upd H2 T (.tup [x,y])):=s2.trans (sameNew hT)
   obtain⟨c,hc,t,rfl,ht⟩:=eY oh hx
   obtain⟨c',bI,t',rfl,i4⟩:=eY FX hy
   rw[hc] at bI
   cases bI
   refine TF aG ?_
   generalize upd H2 T (.tup [V.ref t,V.ref t'])=H3 at s3⊢
   have jL:=s3 _ _ ht
   have UM:=s3 _ _ i4
   refine bZ (xa (df (jF (ag rfl (sI jL (iF ?_ rfl))))))
   refine xa (cP (ag rfl (ag rfl (TV jL UM ⟨_,rfl,iF ?_ rfl⟩))))
   refine xa (df (lQ jC rfl (aj (ba (ag rfl (au (bN jL rfl (aB ⟨_,rfl,fZ (iF ?_ rfl)⟩))))))))
   refine Ts (df (lQ jC rfl (aj (ba (ag rfl (au (bN jL rfl (aB ⟨_,rfl,fZ (iF (cU ?_) rfl)⟩))))))))
   refine bZ (w_ (cP (ba (ag rfl (au (bN jL rfl (au ⟨rfl,_,rfl, ?_⟩)))))))
   have fin:ar (aW K [("_law_whole",jC)] [] (E:=E)) [] {Dn Q with nx:=fun σ H2=> ∃v w,σ=[some (.ref f),some (.ref d),v,w]∧aD H H2} [some (.ref f),some (.ref d),some (.ref t),some (.ref t')] H3:=⟨_,_,rfl,s3⟩
   cases hg:c.2.2 with
   | none=>exact iF (iF (cU ⟨_,_,rfl,s3⟩) rfl) (by simp[gV])
   | some k=>
    refine iT (df (lQ jC rfl (aj (ba (ag rfl (au (bN jL rfl (aB ⟨(k:Nat), ?_,fZ (iF (cU ⟨_,_,rfl,s3⟩) rfl)⟩)))))))) (by simp[gV])
    rw[hg];rfl
  ·rintro σ H2 ⟨v,w,rfl,s2⟩
   exact cb (au (q _ s2))
 ·simp;omega
def cD(c:Cu):PyData:= .tuple [.int (c.1:Nat), .int (c.2.1:Nat),gD c.2.2]
theorem UN(c:Cu):(cD c).canLay0=true∧(cD c).depth≤1:=by
 obtain⟨a,h,g⟩:=c
 cases g<;>exact⟨rfl,Nat.le_refl _⟩
theorem FY: ∀(cs:List Cu),PyData.canLayAll0 (cs.map cD)=true∧PyData.depthAll (cs.map cD)≤1
 | []=> ⟨rfl,Nat.zero_le _⟩
 | g::r=>by
  obtain⟨a,b⟩:=UN g
  obtain⟨c,d⟩:=FY r
  refine⟨?_, ?_⟩
  ·show((cD g).canLay0 && PyData.canLayAll0 (r.map cD))=true
   rw[a,c];rfl
  ·show max (cD g).depth (PyData.depthAll (r.map cD))≤1
   omega
theorem nz(cs:List Cu):SeqAt.shaped (.list (cs.map cD))=true:=by
 obtain⟨c,d⟩:=FY cs
 unfold SeqAt.shaped
 have e:(PyData.list (cs.map cD)).canLay0=true:=c
 have e2:(PyData.list (cs.map cD)).depth≤64:=by show PyData.depthAll (cs.map cD)+1≤64;omega
 rw[e,decide_eq_true e2];rfl
theorem qe{H:Hp}: ∀{zs:List V} {cs:List Cu},aZ H zs cs→IsL H (cs.map cD) zs
 | [],[], .nil=>rfl
 | z::zs,c::cs, .cons x r=>by
  obtain⟨t,rfl,h1⟩:=x
  exact⟨_,_,rfl,xl h1,qe r⟩
theorem qf{H:Hp}{Q:VK}{a b:Addr}{xs ys:List V}{cs:List Cu}(ha:H a=some (.lst xs))(hb:H b=some (.lst ys))(hx:aZ H xs cs)(hy:aZ H ys cs)(q:Q (.bl false) H):bK K .NotEq (.ref a) (.ref b) H Q:=by
 refine⟨.list (cs.map cD), .list (cs.map cD),⟨a,xs,rfl,ha,qe hx⟩,⟨b,ys,rfl,hb,qe hy⟩,nz cs,nz cs, ?_⟩
 rw[SeqAt.eqv_refl _ (SeqAt.canLay_of_shaped (nz cs))];exact q
theorem FZ{H:Hp}{Q:VK}{a b:Addr}{xs ys:List V}{cs:List Cu}(ha:H a=some (.lst xs))(hb:H b=some (.lst ys))(hx:aZ H xs cs)(hy:aZ H ys cs)(q:Q (.bl true) H):bK K .Eq (.ref a) (.ref b) H Q:=by
 refine⟨.list (cs.map cD), .list (cs.map cD),⟨a,xs,rfl,ha,qe hx⟩,⟨b,ys,rfl,hb,qe hy⟩,nz cs,nz cs, ?_⟩
 rw[SeqAt.eqv_refl _ (SeqAt.canLay_of_shaped (nz cs))];exact q
abbrev qg(K:Frag):List (Str×Sp):=[("_law_cell_at",il K),("_law_cursor",qc),("_law_mixed",eU)]
def xO:List RS:=[.asg 6 (.call 0 [(.v 0),(.bin .Add (.bin .Add (.v 1) (.c (.int 1))) (.bin .Mod (.v 5) (.c (.int 6))))]),
  .drop (.cc .append (.v 4) [(.call 1 [(.bin .Add (.call 2 [(.v 6),(.bin .FloorDiv (.v 5) (.c (.int 6)))]) (.v 5)),(.v 2)])])]
theorem F_{F:Addr}{H H':Hp}{ws:List V}{vs:List V}{cs:List Cu}(x:aZ H vs cs)(hF:H F=some (.lst ws))(b:bz F H H'):aZ H' vs cs:=L2.Paired.dB x fun _ _ y=>fB.but y hF b
theorem UO{E:XK}{D:Ends}{i st n:Nat}{a L:Addr}{ns:List Int}{ys:List V}{cs:List Cu}{u3 u6:Option V}{H0 H:Hp}(ha:ao K H0 a (ns.map V.int))(sm:aD H0 H)(fL:H0 L=none)(hL:H L=some (.lst ys))(hc:aZ H ys cs)(hn:cs.length≤1000)
  (k: ∀(y6:Option V) (gr:List V) (c:Cu) (H':Hp),aD H0 H'→H' L=some (.lst gr)→aZ H' gr (cs++ [c])→c.1≤n→c.2.1≤n→D.nx [some (.ref a),some (.int st),some (.int n),u3,some (.ref L),some (.int (i:Nat)),y6] H'):
  ar (aW K (qg K) [] (E:=E)) xO D [some (.ref a),some (.int st),some (.int n),u3,some (.ref L),some (.int (i:Nat)),u6] H:=by
 have m6:0≤ ((i:Nat):Int) % 6:=Int.emod_nonneg _ (by decide)
 refine bL (aX (il K) rfl (aj (ag rfl (aj (br (br (ag rfl (au (iZ (br (ag rfl (au ⟨(by show(0:Int) <6;decide),iZ (aB ⟨a,ns,_,rfl,sm.seq ha,(by omega), ?_⟩)⟩))))))))))))
 refine ip (jD (ag rfl ⟨.inl ⟨rfl,_,ao.of hL⟩,aX qc rfl (aj (br (aX eU rfl (aj (ag rfl (aj (br (ag rfl (au ⟨⟨by decide,by decide⟩,aB ⟨_,_,rfl,ag rfl (iZ (aj (ag rfl (aB ⟨_,n,rfl,fun t a' h g H1 s1 ht la lh=> ?_⟩))))⟩⟩)))))))))⟩))
 have xQ:=s1 _ _ hL
 have ly:=Paired.length hc
 refine⟨ys,xQ,fX (by omega), ?_⟩
 have b1:bz L H1 (upd H1 L (.lst (ys++ [.ref t]))):=bz.upd
 have nt:t≠L:=fun z=>by rw[z] at ht;unfold eW at ht;rw[xQ] at ht;cases ht
 have UP:aD H0 (upd H1 L (.lst (ys++ [.ref t]))):=fun c o e=>b1 c o (s1 _ _ (sm _ _ e)) (c_ e fL)
 refine k _ (ys++ [.ref t]) (a',h,g) _ UP aG ?_ la lh
 exact eJ (F_ (hc.same s1) xQ b1) ⟨t,rfl,b1 _ _ ht nt⟩
def nA(Γ:av)(σ:St)(n:Nat)(e:RE):Prop:= ∀(H:Hp) (Q:VK),(∀v H',aD H H'→eZ v n H'→Q v H')→aa Γ e σ H Q
def Ev(Γ:av)(σ:St)(e:RE)(v:V):Prop:= ∀(H:Hp) (Q:VK),Q v H→aa Γ e σ H Q
section
variable {Γ:av} {σ:St} {n:Nat}
theorem xR: ∀(es:List RE),(∀e∈es,nA Γ σ n e)→ ∀(H:Hp) (Q:List V→Hp→Prop),(∀vs H',aD H H'→vs.length=es.length→(∀v∈vs,eZ v n H')→Q vs H')→aO Γ es σ H Q
 | [],_,H,Q,q=>aB (q [] H (aD.refl _) rfl (fun v hv=>by cases hv))
 | e::es,h,H,Q,q=>aj (h e (.head _) H _ fun v H1 s1 o=>xR es (fun e' pF=>h e' (.tail _ pF)) H1 _ fun vs H2 s2 ln os=>q (v::vs) H2 (s1.trans s2) (by rw[List.length_cons,ln,List.length_cons]) (fun w hw=>by
   rcases List.mem_cons.mp hw with rfl | hw
   ·exact o.same s2
   ·exact os w hw))
theorem cw{v:V}:Ev Γ σ (.c v) v:=fun H Q q=>au q
theorem gP{i:Nat}{v:V}(h:σ[i]?=some (some v)):Ev Γ σ (.v i) v:=fun H Q q=>ag h q
theorem Ga{i:Int}:Ev Γ σ (.neg (.c (.int i))) (.int (-i)):=fun H Q q=>lR q
theorem tj{a b:RE}{i j:Int}(h:Ev Γ σ a (.int i))(h':Ev Γ σ b (.int j)):Ev Γ σ (.bin .Add a b) (.int (i+j)):=fun H Q q=>br (h H _ (h' H _ (iZ q)))
theorem Gb{v:V}(h: ∀H,iY .tuple v H):nA Γ σ n (.c v):=fun H Q q=>au (q v H (aD.refl _) (.inl (h H)))
theorem i7{a b c:RE}{x y z:V}(h1:Ev Γ σ a x)(h2:Ev Γ σ b y)(h3:Ev Γ σ c z)(h: ∀H,jE x 0 (n:Nat) H∨ ∃i:Int,x= .int i∧0≤i∧i≤ (n:Nat)∧(jE y 0 (n:Nat) H∨ ∃j:Int,y= .int j∧0≤j∧j≤ (n:Nat)∧xM z)):nA Γ σ n (.tup [a,b,c]):=fun H Q q=>
 dI (aj (h1 H _ (aj (h2 H _ (aj (h3 H _ (aB ⟨(by show 3≤sizeLine;decide),fun t ft=>q _ _ (sameNew ft) (.inr ⟨t,_,rfl,aG, .inr ⟨x,y,z,rfl,h _⟩⟩)⟩)))))))
theorem UQ{x y:V}:nA Γ σ n (.tup [.c x, .c y]):=fun H Q q=>dI (aj (au (aj (au (aB ⟨(by show 2≤sizeLine;decide),fun t ft=>q _ _ (sameNew ft) (.inr ⟨t,_,rfl,aG, .inl (by show(2:Nat)≠3;decide)⟩)⟩)))))
theorem UR{x y z u:V}:nA Γ σ n (.tup [.c x, .c y, .c z, .c u]):=fun H Q q=>dI (aj (au (aj (au (aj (au (aj (au (aB ⟨(by show 4≤sizeLine;decide),fun t ft=>q _ _ (sameNew ft) (.inr ⟨t,_,rfl,aG, .inl (by show(4:Nat)≠3;decide)⟩)⟩)))))))))
theorem US{x y z:V}:nA Γ σ n (.lst [.c x, .c y, .c z]):=fun H Q q=>cC (aj (au (aj (au (aj (au (aB ⟨(by show 3≤sizeLine;decide),fun t ft=>q _ _ (sameNew ft) (.inl (sJ aG rfl))⟩)))))))
end
end
end L2.N
namespace L2.kS
open PySem PySem.Spec L2.B L2.N
section
variable {K:Frag}
def qh(K:Frag):Sp:=fun vs H Q E=> ∃(a:Addr) (ns:List Int) (st n:Nat),vs=[.ref a, .int st, .int n]∧ao K H a (ns.map V.int)∧
 ∀l xs cs H',aD H H'→H l=none→H' l=some (.lst xs)→aZ H' xs cs→(∀c∈cs,c.1≤n∧c.2.1≤n)→1≤cs.length→cs.length≤48→Q (.ref l) H'
theorem UT(vs:List V)(H:Hp)(Q:VK)(E:XK)(hh:qh K vs H Q E):ar (aW K (qg K) [] (E:=E)) sG (Dn Q) (start wN vs) H:=by
 obtain⟨a,ns,st,n,rfl,ha,q⟩:=hh
 have cl: ∀{σ:St} {H1:Hp} {Q':VK},aD H H1→σ[0]?=some (some (.ref a))→σ[1]?=some (some (.int (st:Nat)))→Q' (.int (cell ns st)) H1→aa (aW K (qg K) [] (E:=E)) (.call 0 [(.v 0),(.v 1)]) σ H1 Q':=fun s1 e0 e1 q'=>
  aX (il K) rfl (aj (ag e0 (aj (ag e1 (aB ⟨a,ns,_,rfl,s1.seq ha,by omega,by rw[Int.toNat_natCast];exact q'⟩)))))
 have p6:=Int.emod_nonneg (cell ns st) (show(6:Int)≠0 by decide)
 have l6:=Int.emod_lt_of_pos (cell ns st) (show(0:Int) <6 by decide)
 have p9:=Int.emod_nonneg (cell ns st / 54) (show(9:Int)≠0 by decide)
 have l9:=Int.emod_lt_of_pos (cell ns st / 54) (show(0:Int) <9 by decide)
 refine bL (br (au (br (cl (aD.refl _) rfl rfl (au ⟨(by show(0:Int) <6;decide),iZ ?_⟩)))))
 have fin: ∀m:Int,1≤m→m≤48→ar (aW K (qg K) [] (E:=E)) (sG.drop 2) (Dn Q) [some (.ref a),some (.int st),some (.int n),some (.int m),none,none,none] H:=by
  intro m h1 h2
  refine bL (cC (aB ⟨Nat.zero_le _,fun L fL=> ?_⟩))
  have s0:=sameNew (o:= .lst []) fL
  refine Tw (body:=xO) (ag rfl ⟨m,rfl,by omega,by omega,Im (lo:=0) (n:=m.toNat) (fun i σ H2=>i≤m.toNat∧ ∃(ys:List V) (cs:List Cu) (u5 u6:Option V),σ=[some (.ref a),some (.int st),some (.int n),some (.int m),some (.ref L),u5,u6]∧aD H H2∧H2 L=some (.lst ys)∧aZ H2 ys cs∧cs.length=i∧ ∀c∈cs,c.1≤n∧c.2.1≤n)
   ⟨Nat.zero_le _,[],[],none,none,rfl,s0,aG, .nil,rfl,fun c hc=>by cases hc⟩ ?_ ?_⟩)
  ·rintro i σ H2 hi ⟨_,ys,cs,u5,u6,rfl,sm,hL,hc,lc,cg⟩
   show ar (aW K (qg K) [] (E:=E)) xO _ [some (.ref a),some (.int st),some (.int n),some (.int m),some (.ref L),some (.int (0+ (i:Int))),u6] H2
   rw[Int.zero_add]
   refine UO ha sm fL hL hc (by omega) fun y6 gr c H' s' UU bI l1 l2=> ⟨hi,gr,cs++ [c],_,y6,rfl,s',UU,bI,by rw[List.length_append,lc];rfl,fun d hd=> ?_⟩
   rcases List.mem_append.mp hd with hd | hd
   ·exact cg d hd
   ·rw[List.mem_singleton.mp hd];exact⟨l1,l2⟩
  ·rintro σ H2 ⟨_,ys,cs,u5,u6,rfl,sm,hL,hc,lc,cg⟩
   exact cb (ag rfl (q L ys cs H2 sm fL hL hc cg (by omega) (by omega)))
 refine bZ (cP (br (br (cl (aD.refl _) rfl rfl (au ⟨⟨by decide,by decide⟩,au ⟨(by show(0:Int) <9;decide),au (gK ⟨_,rfl,oa (fun _=> ?_) (fun _=>cU (fin _ (by omega) (by omega)))⟩)⟩⟩)))))
 exact bL (br (au (br (br (cl (aD.refl _) rfl rfl (au ⟨⟨by decide,by decide⟩,au ⟨(by show(0:Int) <9;decide),iZ (cU (fin _ (by omega) (by omega)))⟩⟩))))))
def qi:Sp:=fun vs H Q E=> ∃(c:Int) (n:Nat),vs=[.int c, .int n]∧ ∀v H',aD H H'→eZ v n H'→Q v H'
theorem UW(vs:List V)(H:Hp)(Q:VK)(E:XK)(hh:qi vs H Q E):ar (aW K [("_law_mixed",eU)] [] (E:=E)) fV (Dn Q) (start lM vs) H:=by
 obtain⟨c,n,rfl,q⟩:=hh
 refine bL (aX eU rfl (aj (ag rfl (aj (au (aB ⟨_,_,rfl, ?_⟩))))))
 have hm:=(wU c 4).1
 generalize mixed c 4=m at hm⊢
 refine bL (cC (xR (n:=n) _ ?_ H _ fun gg H1 s1 l1 o1=> ⟨eT (by rw[l1];show 6≤1000000;decide),fun a1 f1=> ?_⟩))
 ·intro e he
  simp only[List.mem_cons,List.not_mem_nil,or_false] at he
  rcases he with rfl | rfl | rfl | rfl | rfl | rfl
  ·exact i7 cw (tj (gP rfl) cw) cw fun H=> .inr ⟨0,rfl,by omega,by omega, .inl (.inr ⟨_,rfl, .inr (by omega)⟩)⟩
  ·exact i7 (tj (tj (gP rfl) cw) (gP rfl)) cw cw fun H=> .inl (.inr ⟨_,rfl, .inr (by omega)⟩)
  ·exact i7 Ga cw cw fun H=> .inl (.inr ⟨_,rfl, .inl (by decide)⟩)
  ·exact UQ
  ·exact i7 cw cw Ga fun H=> .inr ⟨0,rfl,by omega,by omega, .inr ⟨0,rfl,by omega,by omega, .inl ⟨_,rfl,by decide⟩⟩⟩
  ·exact i7 cw cw cw fun H=> .inr ⟨0,rfl,by omega,by omega, .inl (.inl (.inl ⟨_,rfl⟩))⟩
 have xS:=sameNew (o:= .lst gg) f1
 have h1:upd H1 a1 (.lst gg) a1=some (.lst gg):=aG
 have Gd: ∀v∈gg,eZ v n (upd H1 a1 (.lst gg)):=fun v hv=> (o1 v hv).same xS
 generalize upd H1 a1 (.lst gg)=H2 at xS h1 Gd⊢
 refine bL (br (ag rfl (cC (xR (n:=n) _ ?_ H2 _ fun qj H3 s3 l3 o3=> ⟨eT (by rw[l3];show 8≤1000000;decide),fun a2 f2=> ?_⟩))))
 ·intro e he
  simp only[List.mem_cons,List.not_mem_nil,or_false] at he
  rcases he with rfl | rfl | rfl | rfl | rfl | rfl | rfl | rfl
  ·exact US
  ·exact Gb fun H=>rfl
  ·exact i7 cw cw cw fun H=> .inr ⟨0,rfl,by omega,by omega, .inr ⟨0,rfl,by omega,by omega, .inr (.inr ⟨_,rfl⟩)⟩⟩
  ·exact i7 cw cw cw fun H=> .inr ⟨0,rfl,by omega,by omega, .inr ⟨0,rfl,by omega,by omega, .inr (.inl ⟨_,rfl⟩)⟩⟩
  ·exact i7 cw cw cw fun H=> .inl (.inl (.inl ⟨_,rfl⟩))
  ·exact UR
  ·exact Gb fun H=>rfl
  ·exact i7 cw cw cw fun H=> .inr ⟨0,rfl,by omega,by omega, .inl (.inl (.inr rfl))⟩
 have tm:=sameNew (o:= .lst qj) f2
 refine .inl ⟨a1,a2,gg,qj,rfl,rfl,tm _ _ (s3 _ _ h1),aG,eT (by rw[l1,l3];show 6+8≤1000000;decide),fun a3 f3=> ?_⟩
 have s4:=sameNew (o:= .lst (gg++qj)) f3
 have sa:=((s1.trans xS).trans (s3.trans tm)).trans s4
 have hlen:(gg++qj).length=14:=by rw[List.length_append,l1,l3];rfl
 obtain⟨v,hv,gc⟩:=L2.N.pick (its:=gg++qj) (j:=c % 14) (Int.emod_nonneg _ (by decide)) (by rw[hlen];exact Int.emod_lt_of_pos _ (by decide))
 refine cb (ba (ag rfl (br (ag rfl (au ⟨(by show(0:Int) <14;decide),eV aG gc (q v _ sa ?_)⟩)))))
 rcases List.mem_append.mp hv with hv | hv
 ·exact(Gd v hv).same ((s3.trans tm).trans s4)
 ·exact(o3 v hv).same (tm.trans s4)
def UX(v:V)(n:Nat)(H:Hp):Prop:= ∃(l:Addr) (xs:List V) (cs:List Cu),v= .ref l∧H l=some (.lst xs)∧aZ H xs cs∧1≤cs.length∧cs.length≤40∧(∀c∈cs,c.1≤n∧c.2.1≤n)∧Apart cs
def iu:Sp:=fun vs H Q E=> ∃(n:Nat) (v:V),vs=[.int n,v]∧((UX v n H∧ ∀H',aD H H'→Q (.str "") H')∨(d6 v n H∧ ∀H',aD H H'→Q (.str "cursor") H'))
theorem UY{cs:List Addr}{cu CE:Addr}(kE:lN K cs cu CE 7)(xE:exmOne K (.ref CE) (.ref cu)=some true)(vs:List V)(H:Hp)(Q:VK)(E:XK)(h:iu vs H Q E):
  ar (aW K [("need_cursors",d0 i5 (ny CE))] [("InkError", .ref cu)] (ht:=[("_law_word",sL K cs cu)]) (E:=E)) wQ (Dn Q) (start wO vs) H:=by
 obtain⟨n,v,rfl,h⟩:=h
 refine⟨cu,rfl, ?_⟩
 rcases h with⟨⟨l,xs,ds,rfl,hl,hc,h1,h2,cg,xG⟩,q⟩ | ⟨hb,q⟩
 ·exact ip (aX (d0 i5 (ny CE)) rfl (aj (ag rfl (aj (ag rfl (aB (.inl ⟨n,l,xs,ds,rfl,hl,hc,h1,h2,cg,xG,fun H' s=>cb (au (q H' s))⟩)))))))
 ·refine ip (aX (d0 i5 (ny CE)) rfl (aj (ag rfl (aj (ag rfl (aB (.inr ⟨n,v,rfl,hb,fun H1 s1=> ?_⟩)))))))
  refine⟨xE,fun ea ob vs σ' iM hl j7=> ?_⟩
  have s2:=sameNew (o:= .bc ob jl) iM
  have he:ExcAt (upd H1 ea (.bc ob jl)) ea CE:=⟨ob,vs,aG,j7⟩
  exact⟨_,(by rw[List.getElem?_set_self (by omega)]),⟨ea,CE,rfl,he⟩,ea,CE,7,rfl,he,kE,(by decide),fun H2 s3=>q _ ((s1.trans s2).trans s3)⟩
end
theorem lX.same{v:V}{n:Nat}{H H':Hp}(h:lX v n H)(s:aD H H'):lX v n H':=by
 rcases h with⟨c,h,l⟩ | h
 ·exact .inl ⟨c,h.same s,l⟩
 ·exact .inr (h.same s)
theorem d6.same{v:V}{n:Nat}{H H':Hp}(h:d6 v n H)(s:aD H H'):d6 v n H':=by
 rcases h with h | ⟨l,xs,rfl,hl,h⟩
 ·exact .inl (h.same s)
 ·refine .inr ⟨l,xs,rfl,s _ _ hl, ?_⟩
  rcases h with h | h | ⟨h1,h⟩
  ·exact .inl h
  ·exact .inr (.inl h)
  ·refine .inr (.inr ⟨h1, ?_⟩)
   rcases h with⟨a,o,b,e,h2,h3⟩ | ⟨cs,i,c,d,h2,h3⟩
   ·exact .inl ⟨a,o,b,e,fun x hx=>lX.same (h2 x hx) s,h3.same s⟩
   ·exact .inr ⟨cs,i,c,d,aZ.same h2 s,h3⟩
theorem Ge{l:Addr}{n:Nat}{H:Hp}{eN ir:List V}{o:V}(hl:H l=some (.lst (eN++o::ir)))(h: ∀x∈eN++ir,lX x n H)(ho:eZ o n H):d6 (.ref l) n H:=by
 refine .inr ⟨l,_,rfl,hl, ?_⟩
 by_cases z:(eN++o::ir).length≤40
 ·exact .inr (.inr ⟨z, .inl ⟨eN,o,ir,rfl,h,ho⟩⟩)
 ·exact .inr (.inl (by omega))
theorem xT{l:Addr}{n:Nat}{H:Hp}{xs:List V}{cs:List Cu}{i:Nat}{c d:Cu}(hl:H l=some (.lst xs))(hc:aZ H xs cs)(cg: ∀c∈cs,c.1≤n∧c.2.1≤n)(h1:cs[i]?=some c)(h2:cs[i+1]?=some d)(h3:near (bg c) (en c) (bg d) (en d)=true):d6 (.ref l) n H:=by
 refine .inr ⟨l,_,rfl,hl, ?_⟩
 by_cases z:xs.length≤40
 ·exact .inr (.inr ⟨z, .inr ⟨cs,i,c,d,hc,cg,h1,h2,h3⟩⟩)
 ·exact .inr (.inl (by omega))
theorem UZ(c:Cu):near (bg c) (en c) (bg c) (en c)=true:=by
 unfold near
 by_cases z:bg c=en c
 ·rw[if_pos z,decide_eq_true z];rfl
 ·rw[if_neg z]
  have:=p_ c
  exact decide_eq_true (by omega)
theorem U0(b e:Nat):near b b b e=true:=by unfold near;rw[if_pos rfl,decide_eq_true rfl];rfl
theorem U1{c d:Cu}(h:bg d<bg c):near (bg c) (en c) (bg d) (en d)=true:=by
 have:=p_ c
 unfold near
 rw[if_neg (by omega)]
 exact decide_eq_true (by omega)
section
variable {Γ:av} {σ:St} {n:Nat} {H0:Hp}
def jN(Γ:av)(σ:St)(H0:Hp)(e:RE)(P:List V→Hp→Prop):Prop:= ∀(H1:Hp) (Q:VK),aD H0 H1→(∀w zs H',aD H1 H'→H' w=some (.lst zs)→P zs H'→Q (.ref w) H')→aa Γ e σ H1 Q
theorem U3{Q:VK}{H:Hp}{a lo:RE}(h:aa Γ a σ H fun x H1=>aa Γ lo σ H1 fun j H3=> ∃j':Int,j= .int j'∧mQ Γ.K x (some j') none H3 Q):aa Γ (.sl a (some lo) none) σ H Q:=h
theorem Gf{Q:VK}{H:Hp}{as:List RE}(h:aO Γ as σ H fun vs H1=>sD Γ.K vs H1 Q):aa Γ (.xt pe as) σ H Q:=h
theorem U4(xs:List V)(i:Nat):cz xs (some (i:Int)) none=xs.drop i:=by
 unfold cz
 rw[HT.uf,HT.ue]
 by_cases z:i≤xs.length
 ·rw[Nat.min_eq_left z,List.take_of_length_le (by rw[List.length_drop];omega)]
 ·rw[Nat.min_eq_right (by omega),List.drop_eq_nil_of_le (Nat.le_refl _),List.drop_eq_nil_of_le (by omega),List.take_nil]
theorem tq{i:Nat}{l:Addr}{xs:List V}{hi:RE}{j:Nat}(e:σ[i]?=some (some (.ref l)))(hl:H0 l=some (.lst xs))(h:Ev Γ σ hi (.int (j:Nat))):jN Γ σ H0 (.sl (.v i) none (some hi)) fun zs _=>zs=xs.take j:=fun H1 Q s q=>
 pM (ag e (h H1 _ ⟨_,rfl, .inl ⟨xs,ao.of (s _ _ hl),fun w fw=>q w _ _ (sameNew fw) aG (TQ xs j)⟩⟩))
theorem tu{i:Nat}{l:Addr}{xs:List V}{lo:RE}{j:Nat}(e:σ[i]?=some (some (.ref l)))(hl:H0 l=some (.lst xs))(h:Ev Γ σ lo (.int (j:Nat))):jN Γ σ H0 (.sl (.v i) (some lo) none) fun zs _=>zs=xs.drop j:=fun H1 Q s q=>
 U3 (ag e (h H1 _ ⟨_,rfl, .inl ⟨xs,ao.of (s _ _ hl),fun w fw=>q w _ _ (sameNew fw) aG (U4 xs j)⟩⟩))
theorem U5{i:Nat}{l:Addr}{xs:List V}(e:σ[i]?=some (some (.ref l)))(hl:H0 l=some (.lst xs)):jN Γ σ H0 (.v i) fun zs _=>zs=xs:=fun H1 Q s q=>ag e (q l xs H1 (aD.refl _) (s _ _ hl) rfl)
theorem nB{a b:RE}{P P':List V→Hp→Prop}(h1:jN Γ σ H0 a P)(h2:jN Γ σ H0 b P')(st: ∀zs H H',P zs H→aD H H'→P zs H')(du: ∀zs H H',P' zs H→aD H H'→P' zs H')(l1: ∀zs H,P zs H→zs.length≤1000)(l2: ∀zs H,P' zs H→zs.length≤1000):
  jN Γ σ H0 (.bin .Add a b) fun zs H=> ∃xs ys,zs=xs++ys∧P xs H∧P' ys H:=fun H1 Q s q=>by
 refine br (h1 H1 _ s fun w xs H2 s2 hw p=>h2 H2 _ (s.trans s2) fun w' ys H3 s3 U6 p'=> ?_)
 have a1:=l1 _ _ p
 have a2:=l2 _ _ p'
 refine .inl ⟨w,w',xs,ys,rfl,rfl,s3 _ _ hw,U6,eT (by omega),fun z fz=> ?_⟩
 exact q z _ _ ((s2.trans s3).trans (sameNew fz)) aG ⟨xs,ys,rfl,st _ _ _ p (s3.trans (sameNew fz)),du _ _ _ p' (sameNew fz)⟩
def iw(Γ:av)(σ:St)(n:Nat)(H0:Hp)(e:RE):Prop:= ∀(H1:Hp) (Q:VK),aD H0 H1→(∀v H',aD H1 H'→d6 v n H'→Q v H')→aa Γ e σ H1 Q
theorem xU: ∀(es:List RE),(∀e∈es,iw Γ σ n H0 e)→ ∀(H:Hp) (Q:List V→Hp→Prop),aD H0 H→(∀vs H',aD H H'→vs.length=es.length→(∀v∈vs,d6 v n H')→Q vs H')→aO Γ es σ H Q
 | [],_,H,Q,_,q=>aB (q [] H (aD.refl _) rfl (fun v hv=>by cases hv))
 | e::es,h,H,Q,s0,q=>aj (h e (.head _) H _ s0 fun v H1 s1 o=>xU es (fun e' pF=>h e' (.tail _ pF)) H1 _ (s0.trans s1) fun vs H2 s2 ln os=>q (v::vs) H2 (s1.trans s2) (by rw[List.length_cons,ln,List.length_cons]) (fun w hw=>by
   rcases List.mem_cons.mp hw with rfl | hw
   ·exact d6.same o s2
   ·exact os w hw))
end
theorem tw{α β:Type}{R:α→β→Prop}: ∀{xs:List α} {ys:List β} (k:Nat),Paired R xs ys→Paired R (xs.take k) (ys.take k)
 | [],[],k, .nil=>by rw[List.take_nil,List.take_nil];exact .nil
 | _::_,_::_,0, .cons _ _=> .nil
 | _::_,_::_,k+1, .cons a r=> .cons a (tw k r)
theorem tD{α β:Type}{R:α→β→Prop}: ∀{xs:List α} {ys:List β} (k:Nat),Paired R xs ys→Paired R (xs.drop k) (ys.drop k)
 | [],[],k, .nil=>by rw[List.drop_nil,List.drop_nil];exact .nil
 | _::_,_::_,0, .cons a r=> .cons a r
 | _::_,_::_,k+1, .cons _ r=>tD k r
theorem tE{α β:Type}{R:α→β→Prop}: ∀{xs ez:List α} {ys gr:List β},Paired R xs ys→Paired R ez gr→Paired R (xs++ez) (ys++gr)
 | [],_,[],_, .nil,h=>h
 | _::_,_,_::_,_, .cons a r,h=> .cons a (tE r h)
theorem xV{α β:Type}{R:α→β→Prop}: ∀{xs:List α} {ys:List β},Paired R xs ys→Paired R xs.reverse ys.reverse
 | [],[], .nil=> .nil
 | x::xs,y::ys, .cons a r=>by
  rw[List.reverse_cons,List.reverse_cons]
  exact eJ (xV r) a
theorem U7{H:Hp}{n:Nat}{xs:List V}{cs:List Cu}(hc:aZ H xs cs)(cg: ∀c∈cs,c.1≤n∧c.2.1≤n){x:V}(hx:x∈xs):lX x n H:=by
 obtain⟨i,hi⟩:=List.getElem?_of_mem hx
 obtain⟨c,h1,h2⟩:=eY hc hi
 have:=cg c (List.mem_of_getElem? h1)
 exact .inl ⟨c,h2,this.1,this.2⟩
structure nC (H0:Hp) (l nr nt:Addr) (n k b:Nat) (xs:List V) (cs:List Cu):Prop where
 hl:H0 l=some (.lst xs)
 hc:aZ H0 xs cs
 i6:gf cs
 fD: ∀c∈cs,c.1≤n∧c.2.1≤n
 hk:k<cs.length
 e7:cs.length≤48
 U8:H0 nr=some (.lst [.ref nt])
 U9:eW H0 nt b b none
 hb:b=bg cs[k]
section
variable {K:Frag} {E:XK} {H0:Hp} {l nr nt:Addr} {n k b:Nat} {c last:Int} {xs:List V} {cs:List Cu} {u7:Option V}
abbrev Gg:List (Str×Sp):=[("_law_odd",qi),("_law_told",iu)]
abbrev sR(n:Nat)(l:Addr)(c:Int)(k b:Nat)(last:Int)(nr:Addr)(u7:Option V):St:=[some (.int (n:Nat)),some (.ref l),some (.int c),some (.int (k:Nat)),some (.int (b:Nat)),some (.int last),some (.ref nr),u7]
abbrev GR(K:Frag)(E:XK):av:=aW K Gg [] (E:=E)
theorem xW{e:RE}{Γ:av}{σ:St}{P:List V→Hp→Prop}(h:jN Γ σ H0 e P)(hb: ∀w zs H',aD H0 H'→H' w=some (.lst zs)→P zs H'→d6 (.ref w) n H'):iw Γ σ n H0 e:=fun H1 Q s q=>h H1 Q s fun w zs H' s' hw p=>q (.ref w) H' s' (hb w zs H' (s.trans s') hw p)
theorem Gh:Ev (GR K E) (sR n l c k b last nr u7) (.bin .Add (.v 3) (.c (.int 1))) (.int ((k+1:Nat):Int)):=tj (i:=(k:Nat)) (j:=1) (gP rfl) cw
theorem U_:jN (GR K E) (sR n l c k b last nr u7) H0 (.lst [(.call 0 [(.bin .FloorDiv (.v 2) (.c (.int 9))),(.v 0)])]) fun zs H=> ∃o,zs=[o]∧eZ o n H:=fun H1 Q s q=>
 cC (aj (aX qi rfl (aj (br (ag rfl (au ⟨⟨by decide,by decide⟩,aj (ag rfl (aB ⟨_,n,rfl,fun v H' s' o=>aB ⟨(by show 1≤sizeLine;decide),fun w fw=>q w [v] _ (s'.trans (sameNew fw)) aG ⟨v,rfl,o.same (sameNew fw)⟩⟩⟩))⟩))))))
theorem i8{ys:List V}: ∀(zs:List V) (H H':Hp),(fun zs _=>zs=ys:List V→Hp→Prop) zs H→aD H H'→(fun zs _=>zs=ys:List V→Hp→Prop) zs H':=fun _ _ _ h _=>h
theorem Gi(A:nC H0 l nr nt n k b xs cs){lo:RE}{j:Nat}(h:Ev (GR K E) (sR n l c k b last nr u7) lo (.int (j:Nat))):
  iw (GR K E) (sR n l c k b last nr u7) n H0 (.bin .Add (.bin .Add (.sl (.v 1) none (some (.v 3))) (.lst [(.call 0 [(.bin .FloorDiv (.v 2) (.c (.int 9))),(.v 0)])])) (.sl (.v 1) (some lo) none)):=by
 have lx:xs.length=cs.length:=Paired.length A.hc
 have e7:=A.e7
 refine xW (nB (nB (tq (j:=k) rfl A.hl (gP rfl)) U_ i8 (fun zs H H' ⟨o,e,h⟩ s=> ⟨o,e,h.same s⟩) (fun zs H e=> ?_) (fun zs H ⟨o,e,h⟩=> ?_)) (tu rfl A.hl h) ?_ i8 ?_ (fun zs H e=> ?_)) ?_
 ·rw[e,List.length_take];omega
 ·rw[e];show 1≤1000;decide
 ·rintro zs H H' ⟨x,y,e,h1,o,h2,h3⟩ s
  exact⟨x,y,e,h1,o,h2,h3.same s⟩
 ·rintro zs H ⟨x,y,rfl,rfl,o,rfl,h3⟩
  rw[List.length_append,List.length_take]
  show _+1≤1000
  omega
 ·rw[e,List.length_drop];omega
 ·rintro w zs H' s hw ⟨x,y,rfl,⟨x1,y1,rfl,rfl,o,rfl,ho⟩,rfl⟩
  rw[List.append_assoc] at hw
  refine Ge hw (fun z hz=> ?_) ho
  refine U7 (A.hc.same s) A.fD ?_
  rcases List.mem_append.mp hz with hz | hz
  ·exact List.mem_of_mem_take hz
  ·exact List.mem_of_mem_drop hz
theorem Va:iw (GR K E) (sR n l c k b last nr u7) n H0 (.lst []):=fun H1 Q s q=>cC (aB ⟨Nat.zero_le _,fun w fw=>q _ _ (sameNew fw) (.inr ⟨w,[],rfl,aG, .inl rfl⟩)⟩)
theorem Vb(A:nC H0 l nr nt n k b xs cs):iw (GR K E) (sR n l c k b last nr u7) n H0 (.blt .tuple [(.v 1)]):=fun H1 Q s q=>
 fo (aj (ag rfl (aB ⟨xs, .inl ⟨ao.of (s _ _ A.hl),fun w fw=>q _ _ (sameNew fw) (.inl (sI aG rfl))⟩⟩)))
theorem Vc:iw (GR K E) (sR n l c k b last nr u7) n H0 (.bin .Mult (.lst [(.tup [(.c (.int 0)),(.c (.int 0)),(.c .ai)])]) (.c (.int 41))):=fun H1 Q s q=>by
 refine br (cC (aj (dI (aj (au (aj (au (aj (au (aB ⟨(by show 3≤sizeLine;decide),fun t ft=>aB ⟨(by show 1≤sizeLine;decide),fun w fw=> ?_⟩⟩))))))))))
 have s1:=(sameNew (o:= .tup [V.int 0,V.int 0,V.ai]) ft).trans (sameNew (o:= .lst [V.ref t]) fw)
 refine au ⟨w,41,[.ref t],rfl,rfl,aG,by decide,by decide,eT (by show 1*41≤1000000;decide),fun p fp=> ?_⟩
 exact q _ _ (s1.trans (sameNew fp)) (.inr ⟨p,_,rfl,aG, .inr (.inl (Nat.le_of_ble_eq_true rfl))⟩)
theorem Vd(A:nC H0 l nr nt n k b xs cs):iw (GR K E) (sR n l c k b last nr u7) n H0 (.mM (.cmp .Gt (.blt .len [(.v 1)]) (.c (.int 1))) (.xt pe [(.v 1)]) (.c .ai)):=fun H1 Q s q=>by
 have lx:xs.length=cs.length:=Paired.length A.hc
 refine Fg (cP (d4 (ag rfl (.inl ⟨_,ao.of (s _ _ A.hl),au (N.xh ⟨_,rfl, ?_⟩)⟩))))
 by_cases z:1<cs.length
 ·refine iT ?_ (decide_eq_true (by omega))
  refine Gf (aj (ag rfl (aB ⟨l,xs,rfl,ao.of (s _ _ A.hl),fun w fw=>q _ _ (sameNew fw) ?_⟩)))
  have i0:cs.length - 1<cs.length:=by omega
  have i1:cs.length - 1 - 1<cs.length:=by omega
  have s2:=s.trans (sameNew (o:= .lst xs.reverse) fw)
  refine xT (i:=0) (c:=cs[cs.length - 1]) (d:=cs[cs.length - 1 - 1]) aG (xV (A.hc.same s2)) (fun c hc=>A.fD c (List.mem_reverse.mp hc)) ?_ ?_ ?_
  ·rw[List.getElem?_reverse (by omega),Nat.sub_zero,List.getElem?_eq_getElem i0]
  ·rw[List.getElem?_reverse (by omega),List.getElem?_eq_getElem i1]
  ·exact U1 (List.pairwise_iff_getElem.mp A.i6.rise _ _ i1 i0 (by omega))
 ·refine iF (au (q _ _ (aD.refl _) (.inl rfl))) (decide_eq_false (by omega))
theorem Ve(A:nC H0 l nr nt n k b xs cs):iw (GR K E) (sR n l c k b last nr u7) n H0 (.bin .Add (.sl (.v 1) none (some (.bin .Add (.v 3) (.c (.int 1))))) (.sl (.v 1) (some (.v 3)) none)):=by
 have lx:xs.length=cs.length:=Paired.length A.hc
 have e7:=A.e7
 have hk:=A.hk
 refine xW (nB (tq rfl A.hl Gh) (tu (j:=k) rfl A.hl (gP rfl)) i8 i8 (fun zs H e=> ?_) (fun zs H e=> ?_)) ?_
 ·rw[e,List.length_take];omega
 ·rw[e,List.length_drop];omega
 ·rintro w zs H' s hw ⟨x,y,rfl,rfl,rfl⟩
  have hc:=A.hc.same s
  refine xT (i:=k) (c:=cs[k]) (d:=cs[k]) hw (tE (tw (k+1) hc) (tD k hc)) (fun c hc=> ?_) ?_ ?_ (UZ _)
  ·rcases List.mem_append.mp hc with hc | hc
   ·exact A.fD c (List.mem_of_mem_take hc)
   ·exact A.fD c (List.mem_of_mem_drop hc)
  ·rw[List.getElem?_append_left (by rw[List.length_take];omega),List.getElem?_take_of_lt (by omega),List.getElem?_eq_getElem hk]
  ·rw[List.getElem?_append_right (by rw[List.length_take];omega),List.length_take,List.getElem?_drop,show k+ (k+1 - min (k+1) cs.length)=k by omega,List.getElem?_eq_getElem hk]
theorem Vf(A:nC H0 l nr nt n k b xs cs):iw (GR K E) (sR n l c k b last nr u7) n H0 (.bin .Add (.bin .Add (.sl (.v 1) none (some (.v 3))) (.v 6)) (.sl (.v 1) (some (.v 3)) none)):=by
 have lx:xs.length=cs.length:=Paired.length A.hc
 have e7:=A.e7
 have hk:=A.hk
 refine xW (nB (nB (tq (j:=k) rfl A.hl (gP rfl)) (U5 rfl A.U8) i8 i8 (fun zs H e=> ?_) (fun zs H e=> ?_)) (tu (j:=k) rfl A.hl (gP rfl)) (fun zs H H' h s=>h) i8 ?_ (fun zs H e=> ?_)) ?_
 ·rw[e,List.length_take];omega
 ·rw[e];show 1≤1000;decide
 ·rintro zs H ⟨x,y,rfl,rfl,rfl⟩
  rw[List.length_append,List.length_take]
  show _+1≤1000
  omega
 ·rw[e,List.length_drop];omega
 ·rintro w zs H' s hw ⟨x,y,rfl,⟨x1,y1,rfl,rfl,rfl⟩,rfl⟩
  have hc:=A.hc.same s
  have Gj:b≤n:=by
   have:=A.fD _ (List.getElem_mem hk)
   rw[A.hb];unfold bg;omega
  refine xT (i:=k) (c:=(b,b,none)) (d:=cs[k]) (cs:=(cs.take k++ [(b,b,none)])++cs.drop k) hw (tE (eJ (tw k hc) ⟨nt,rfl,s _ _ A.U9⟩) (tD k hc)) (fun c hc=> ?_) ?_ ?_ ?_
  ·rcases List.mem_append.mp hc with hc | hc
   ·rcases List.mem_append.mp hc with hc | hc
    ·exact A.fD c (List.mem_of_mem_take hc)
    ·rw[List.mem_singleton.mp hc];exact⟨Gj,Gj⟩
   ·exact A.fD c (List.mem_of_mem_drop hc)
  ·rw[List.getElem?_append_left (by rw[List.length_append,List.length_take];show k<_+1;omega),List.getElem?_append_right (by rw[List.length_take];omega),List.length_take,show k - min k cs.length=0 by omega];rfl
  ·rw[List.getElem?_append_right (by rw[List.length_append,List.length_take];show _+1≤_;omega),List.length_append,List.length_take,List.getElem?_drop,show k+ (k+1 - (min k cs.length+ [((b,b,none):Cu)].length))=k by show k+ (k+1 - (min k cs.length+1))=k;omega,List.getElem?_eq_getElem hk]
  ·show near (min b b) (max b b) _ _=true
   rw[Nat.min_self,Nat.max_self,←A.hb]
   exact U0 _ _
def qk:Sp:=fun vs H Q E=> ∃(n:Nat) (l:Addr) (c:Int) (xs:List V) (cs:List Cu),vs=[.int n, .ref l, .int c]∧0≤c∧H l=some (.lst xs)∧aZ H xs cs∧gf cs∧(∀c∈cs,c.1≤n∧c.2.1≤n)∧1≤cs.length∧cs.length≤48∧ ∀H',aD H H'→Q (.bl true) H'
theorem Gk{es:List RE}{r:List RS}{D:Ends}{m:Addr}{ws:List V}{H:Hp}(hm: ∀e∈es,iw (GR K E) (sR n l c k b last nr (some (.ref m))) n H0 e)(s0:aD H0 H)(hl:H m=some (.lst ws))(ho: ∀v∈ws,d6 v n H)(hn:ws.length+es.length≤1000)
  (k': ∀m' nv H',aD H0 H'→H' m'=some (.lst nv)→nv.length=ws.length+es.length→(∀v∈nv,d6 v n H')→ar (GR K E) r D (sR n l c k b last nr (some (.ref m'))) H'):
  ar (GR K E) (.asg 7 (.bin .Add (.v 7) (.lst es))::r) D (sR n l c k b last nr (some (.ref m))) H:=by
 refine bL (br (ag rfl (cC (xU es hm H _ s0 fun vs H1 s1 ln os=> ⟨eT (by omega),fun a fa=> ?_⟩))))
 have s2:=sameNew (o:= .lst vs) fa
 refine .inl ⟨m,a,ws,vs,rfl,rfl,s2 _ _ (s1 _ _ hl),aG,eT (by omega),fun z fz=> ?_⟩
 have s3:=sameNew (o:= .lst (ws++vs)) fz
 refine k' z (ws++vs) _ (s0.trans ((s1.trans s2).trans s3)) aG (by rw[List.length_append,ln]) fun v hv=> ?_
 rcases List.mem_append.mp hv with hv | hv
 ·exact d6.same (ho v hv) ((s1.trans s2).trans s3)
 ·exact d6.same (os v hv) (s2.trans s3)
theorem le_max{ms:List Int}{cs:List Cu}(e:ms=cs.map fun c=> ((en c:Nat):Int)){x:Int}(h1:x∈ms)(h2: ∀y∈ms,y≤x): ∃m:Nat,x=m∧(∃c∈cs,en c=m)∧ ∀c∈cs,en c≤m:=by
 subst e
 obtain⟨c,hc,rfl⟩:=List.mem_map.mp h1
 refine⟨en c,rfl,⟨c,hc,rfl⟩,fun d hd=> ?_⟩
 have:=h2 _ (List.mem_map.mpr ⟨d,hd,rfl⟩)
 omega
theorem Vg(vs:List V)(H:Hp)(Q:VK)(E:XK)(hh:qk vs H Q E):ar (aW K Gg [] (E:=E)) cL (Dn Q) (start fW vs) H:=by
 obtain⟨n,l,c,xs,cs,rfl,ZY,hl,bB,hF,cg,h1,Vh,q⟩:=hh
 have lx:xs.length=cs.length:=Paired.length bB
 have Gm:(0:Int) < (xs.length:Nat):=by omega
 refine bL (br (br (ag rfl (au ⟨⟨by decide,by decide⟩,d4 (ag rfl (.inl ⟨_,ao.of hl,⟨Gm, ?_⟩⟩))⟩))))
 have p0:=Int.emod_nonneg (c / 9) (show((xs.length:Nat):Int)≠0 by omega)
 have p1:=Int.emod_lt_of_pos (c / 9) Gm
 obtain⟨k,ek⟩: ∃k:Nat,c / 9 % ((xs.length:Nat):Int)=k:=⟨(c / 9 % ((xs.length:Nat):Int)).toNat,by omega⟩
 have hk:k<cs.length:=by omega
 show ar _ (cL.drop 1) _ [some (.int n),some (.ref l),some (.int c),some (.int (c / 9 % ((xs.length:Nat):Int))),none,none,none,none] H
 rw[ek]
 obtain⟨v,hv,t,rfl,ht⟩:=nj bB (List.getElem?_eq_getElem hk)
 have i4:H t=some (.tup [.int (cs[k].1:Nat), .int (cs[k].2.1:Nat),gV cs[k].2.2]):=ht
 refine bL (FG (aj (pM (ba (ag rfl (ag rfl (eV hl (mH hv) (au ⟨2,rfl, .inr ⟨_,aU.of i4,sY,fun c1 f1=>aB ⟨c1,[(cs[k].1:Int),(cs[k].2.1:Int)],rfl,aU.of aG,by simp,fun mn xF pZ=> ?_⟩⟩⟩))))))))
 have s1:=sameNew (o:= .tup (cz [V.int (cs[k].1:Nat),V.int (cs[k].2.1:Nat),gV cs[k].2.2] none (some 2))) f1
 have e1:mn=((bg cs[k]:Nat):Int):=by
  have a1:=pZ (cs[k].1:Int) (by simp)
  have a2:=pZ (cs[k].2.1:Int) (by simp)
  simp only[List.mem_cons,List.not_mem_nil,or_false] at xF
  unfold bg
  omega
 rw[e1]
 have fc:=s1 _ _ hl
 have Gn:=bB.same s1
 generalize upd H c1 (.tup (cz [V.int (cs[k].1:Nat),V.int (cs[k].2.1:Nat),gV cs[k].2.2] none (some 2)))=H1 at s1 fc Gn⊢
 refine bL (fo (aj (pK (ag rfl ⟨l,rfl,⟨_,ao.of fc⟩, ?_⟩))))
 refine pJ fc (by omega) (fun i ys _=>ys=((cs.take i).map fun c=> ((en c:Nat):Int)).map V.int) rfl ?_ ?_
 ·intro i x ys H2 hx s2 e Q' kk
  obtain⟨d,hd,t,rfl,ht⟩:=eY Gn hx
  have eR:H2 t=some (.tup [.int (d.1:Nat), .int (d.2.1:Nat),gV d.2.2]):=s2 _ _ ht
  refine FH (aj (pM (ag rfl (au ⟨2,rfl, .inr ⟨_,aU.of eR,sY,fun c2 f2=>aB ⟨c2,[(d.1:Int),(d.2.1:Int)],rfl,aU.of aG,by simp,fun mx p7 lV=>kk _ _ (sameNew f2) ?_⟩⟩⟩))))
  have e2:mx=((en d:Nat):Int):=by
   have a1:=lV (d.1:Int) (by simp)
   have a2:=lV (d.2.1:Int) (by simp)
   simp only[List.mem_cons,List.not_mem_nil,or_false] at p7
   unfold en
   omega
  rw[e2,e,lT hd,List.map_append,List.map_append];rfl
 ·intro ys H2 p2 s2 e f2
  rw[lx,List.take_of_length_le (Nat.le_refl _)] at e
  subst e
  have s3:=sameNew (o:= .lst ((cs.map fun c=> ((en c:Nat):Int)).map V.int)) f2
  refine aB ⟨_,ao.of aG, ?_,fun mx p7 lV=> ?_⟩
  ·intro z
   have:=congrArg List.length z
   rw[List.length_map] at this
   have:cs.length=0:=this
   omega
  obtain⟨last,rfl,⟨dm,Vi,ZZ⟩,nq⟩:=le_max rfl p7 lV
  have nE:=(s1.trans s2).trans s3
  generalize upd H2 p2 (.lst ((cs.map fun c=> ((en c:Nat):Int)).map V.int))=H3 at nE s3⊢
  refine bL (cC (aj (dI (aj (ag rfl (aj (ag rfl (aj (au (aB ⟨(by show 3≤sizeLine;decide),fun nt gA=>aB ⟨(by show 1≤sizeLine;decide),fun nr Vj=> ?_⟩⟩))))))))))
  have s4:=sameNew (o:= .tup [V.int (bg cs[k]:Nat),V.int (bg cs[k]:Nat),V.ai]) gA
  have s5:=sameNew (o:= .lst [V.ref nt]) Vj
  have tF:=(nE.trans s4).trans s5
  have A:nC (upd (upd H3 nt (.tup [V.int (bg cs[k]:Nat),V.int (bg cs[k]:Nat),V.ai])) nr (.lst [V.ref nt])) l nr nt n k (bg cs[k]) xs cs:=⟨tF _ _ hl,bB.same tF,hF,cg,hk,Vh,aG,s5 _ _ aG,rfl⟩
  generalize upd (upd H3 nt (.tup [V.int (bg cs[k]:Nat),V.int (bg cs[k]:Nat),V.ai])) nr (.lst [V.ref nt])=H5 at tF A⊢
  show ar (GR K E) (cL.drop 4) (Dn Q) (sR n l c k (bg cs[k]) ((last:Nat):Int) nr none) H5
  refine bL (cC (xU _ (n:=n) (H0:=H5) ?_ H5 _ (aD.refl _) fun gg H6 s6 l1 o1=> ⟨eT (by rw[l1];show 4≤1000000;decide),fun a1 f1=> ?_⟩))
  ·intro e he
   simp only[List.mem_cons,List.not_mem_nil,or_false] at he
   rcases he with rfl | rfl | rfl | rfl
   ·exact Gi A Gh
   ·exact Va
   ·exact Vb A
   ·exact Vc
  have s7:=sameNew (o:= .lst gg) f1
  refine Gk (H0:=H5) ?_ (s6.trans s7) aG (fun v hv=>d6.same (o1 v hv) s7) (by rw[l1];show 4+2≤1000;decide) fun m2 Z0 H8 s8 Vk Gp Vl=> ?_
  ·intro e he
   simp only[List.mem_cons,List.not_mem_nil,or_false] at he
   rcases he with rfl | rfl
   ·exact Vd A
   ·exact Ve A
  refine Gk (H0:=H5) ?_ s8 Vk Vl (by rw[Gp,l1];show 4+2+2≤1000;decide) fun m3 Gq H9 s9 Vm Vn Vo=> ?_
  ·intro e he
   simp only[List.mem_cons,List.not_mem_nil,or_false] at he
   rcases he with rfl | rfl
   ·exact Vf A
   ·exact Gi A (gP rfl)
  have sF:=tF.trans s9
  have m9:=Int.emod_nonneg c (show(9:Int)≠0 by decide)
  have Z1:=Int.emod_lt_of_pos c (show(0:Int) <9 by decide)
  refine bZ (cP (br (ag rfl (au ⟨(by show(0:Int) <9;decide),au (gK ⟨_,rfl,oa (fun _=> ?_) (fun ne=>cU ?_)⟩)⟩))))
  ·refine cb (jG (de (ag rfl (au (gK ⟨_,rfl, ?_⟩)))))
   by_cases z:last=0
   ·exact iT (q _ sF) (decide_eq_true (by omega))
   ·refine iF ?_ (decide_eq_false (by omega))
    refine de (aX iu rfl (aj (br (ag rfl (au (Tx (aj (ag rfl (aB ⟨last - 1, .ref l, ?_, .inr ⟨?_,fun H' s'=>au (w9 ?_)⟩⟩)))))))))
    ·rw[show(((last:Nat):Int) - 1)=((last - 1:Nat):Int) by omega]
    ·obtain⟨i,hi⟩:=List.getElem?_of_mem Vi
     have bY:i<cs.length:=(List.getElem?_eq_some_iff.mp hi).1
     obtain⟨v,hv,t,rfl,ht⟩:=nj (bB.same sF) hi
     have Gs:i<xs.length:=by omega
     have ex:xs=xs.take i++V.ref t::xs.drop (i+1):=by
      have e:xs[i]=V.ref t:=by rw[List.getElem?_eq_getElem Gs] at hv;exact Option.some.inj hv
      rw[←e,←List.drop_eq_getElem_cons Gs,List.take_append_drop]
     have odd: ∀(t:Addr) (d:Cu),eW H9 t d.1 d.2.1 d.2.2→last - 1<en d→eZ (.ref t) (last - 1) H9:=by
      intro t d ht hd
      refine .inr ⟨t,_,rfl,ht, .inr ⟨_,_,_,rfl, ?_⟩⟩
      unfold en at hd
      by_cases z1:d.1≤last - 1
      ·exact .inr ⟨_,rfl,by omega,by omega, .inl (.inr ⟨_,rfl, .inr (by omega)⟩)⟩
      ·exact .inl (.inr ⟨_,rfl, .inr (by omega)⟩)
     have Gu:=sF _ _ hl
     rw[ex] at Gu
     refine Ge Gu (fun x hx=> ?_) (odd t dm ht (by omega))
     have dE:x∈xs:=by
      rcases List.mem_append.mp hx with hx | hx
      ·exact List.mem_of_mem_take hx
      ·exact List.mem_of_mem_drop hx
     obtain⟨j,hj⟩:=List.getElem?_of_mem dE
     obtain⟨d,hd,t2,rfl,eR⟩:=eY (bB.same sF) hj
     by_cases z2:en d≤last - 1
     ·exact .inl ⟨d,⟨t2,rfl,eR⟩,by unfold en at z2;omega,by unfold en at z2;omega⟩
     ·exact .inr (odd t2 d eR (by omega))
    ·exact q _ (sF.trans s')
  ·have lw:Gq.length=8:=by rw[Vn,Gp,l1];rfl
   have ne':c % 9≠8:=fun z=>ne (decide_eq_true z)
   obtain⟨v,hv,gc⟩:=L2.N.pick (its:=Gq) (j:=c % 9) m9 (by rw[lw];show c % 9<8;omega)
   refine cb (de (aX iu rfl (aj (ag rfl (aj (ba (ag rfl (br (ag rfl (au ⟨(by show(0:Int) <9;decide),eV Vm gc (aB ⟨n,v,rfl, .inr ⟨Vo v hv,fun H' s'=>au (w9 ?_)⟩⟩)⟩))))))))))
   exact q _ (sF.trans s')
end
section
variable {K:Frag} {E:XK} {Q:VK}
abbrev Gv(K:Frag):List (Str×Sp):=[("_law_size",pA),("_law_cell_at",il K),("_law_drawn",qh K),("_law_settled",eL),("settled",eL),("_law_alike",qd),("_law_told",iu),("_law_refused",qk),("_law_mixed",eU),("need_cursors",i5)]
abbrev GW(K:Frag)(E:XK):av:=aW K (Gv K) [] (E:=E)
def tG(K:Frag):Sp:=fun vs H Q E=> ∃(a:Addr) (ns:List Int),vs=[.ref a]∧ao K H a (ns.map V.int)∧ ∀H',Q (.bl true) H'
structure ql (K:Frag) (H:Hp) (a l2 l3 l4 l5:Addr) (ns:List Int) (n:Nat) (cs ds:List Cu):Prop where
 ha:ao K H a (ns.map V.int)
 h2: ∃zs,H l2=some (.lst zs)∧aZ H zs ds
 h3: ∃zs,H l3=some (.lst zs)∧aZ H zs cs
 h4: ∃zs,H l4=some (.lst zs)∧aZ H zs (ds++ [(0,0,none)])
 h5: ∃zs,H l5=some (.lst zs)∧aZ H zs ds
 i6:gf ds
 fD: ∀c∈ds,c.1≤n∧c.2.1≤n
 one:1≤ds.length
 e7:ds.length≤48
theorem ql.same{H H':Hp}{a l2 l3 l4 l5:Addr}{ns:List Int}{n:Nat}{cs ds:List Cu}(A:ql K H a l2 l3 l4 l5 ns n cs ds)(s:aD H H'):ql K H' a l2 l3 l4 l5 ns n cs ds:=by
 obtain⟨ha,⟨z2,a2,b2⟩,⟨z3,a3,b3⟩,⟨z4,a4,b4⟩,⟨z5,a5,b5⟩,f,i,o,l⟩:=A
 exact⟨s.seq ha,⟨z2,s _ _ a2,b2.same s⟩,⟨z3,s _ _ a3,b3.same s⟩,⟨z4,s _ _ a4,b4.same s⟩,⟨z5,s _ _ a5,b5.same s⟩,f,i,o,l⟩
def wordOf(ds:List Cu):Str:=if 40<ds.length then "cursor" else ""
theorem Gw{H:Hp}{l:Addr}{xs:List V}{es ds:List Cu}{Q':VK}(hl:H l=some (.lst xs))(hc:aZ H xs es)(P:es.Perm ds)(F:gf ds)(hn:ds.length≤48)(k: ∀r zs H',aD H H'→H r=none→H' r=some (.lst zs)→aZ H' zs ds→Q' (.ref r) H'):eL [.ref l] H Q' E:=by
 refine⟨l,xs,es,rfl,hl,hc,by rw[P.length_eq];omega,fun us r zs H' S s f h c=>k r zs H' s f h ?_⟩
 rw[UC F P S] at c
 exact c
def Gx:List RS:=[.asg 10 (.blt .list [(.v 3)]),
  .ite (.or [(.not (.call 7 [(.v 1),(.v 10),(.call 8 [(.v 9),(.c (.int 6))])])),(.cmp .NotEq (.v 10) (.v 3))]) [.ret (.c (.bl false))] []]
theorem Vp{D:Ends}{H:Hp}{a l1 l2 l3 l4 l5:Addr}{ns:List Int}{n:Nat}{cs ds:List Cu}{x:Int}{u7 u8 dh:Option V}(A:ql K H a l2 l3 l4 l5 ns n cs ds)
  (k: ∀lU H',aD H H'→D.nx [some (.ref a),some (.int (n:Nat)),some (.ref l1),some (.ref l2),some (.ref l3),some (.ref l4),some (.ref l5),u7,u8,some (.int x),lU] H'):
  ar (GW K E) Gx D [some (.ref a),some (.int (n:Nat)),some (.ref l1),some (.ref l2),some (.ref l3),some (.ref l4),some (.ref l5),u7,u8,some (.int x),dh] H:=by
 obtain⟨zs,hz,hc⟩:=A.h2
 refine bL (fo (aj (ag rfl (aB ⟨zs, .inl (ao.of hz),fun w fw=> ?_⟩))))
 have s1:=sameNew (o:= .lst zs) fw
 have hw:upd H w (.lst zs) w=some (.lst zs):=aG
 generalize upd H w (.lst zs)=H1 at s1 hw⊢
 refine bZ (gJ (df (lQ qk rfl (aj (ag rfl (aj (ag rfl (aj (aX eU rfl (aj (ag rfl (aj (au (aB ⟨_,_,rfl,aB ⟨n,w,_,zs,ds,rfl,(wU _ _).1,hw,hc.same s1,A.i6,A.fD,A.one,A.e7,fun H2 s2=>fZ (iF ?_ rfl)⟩⟩))))))))))))))
 exact cP (ag rfl (ag rfl (qf (s2 _ _ hw) ((s1.trans s2) _ _ hz) (hc.same (s1.trans s2)) (hc.same (s1.trans s2)) ⟨_,rfl,iF (cU (k _ _ (s1.trans s2))) rfl⟩)))
theorem Vq{H:Hp}{a l1 l2 l3 l4 l5:Addr}{ns:List Int}{n:Nat}{cs ds:List Cu}(A:ql K H a l2 l3 l4 l5 ns n cs ds)(q: ∀H',Q (.bl true) H'):
  ar (GW K E) (bq.drop 8) (Dn Q) [some (.ref a),some (.int (n:Nat)),some (.ref l1),some (.ref l2),some (.ref l3),some (.ref l4),some (.ref l5),none,none,none,none] H:=by
 obtain⟨zs,hz,hc⟩:=A.h2
 have lz:zs.length=ds.length:=Paired.length hc
 have one:=A.one
 have e7:=A.e7
 refine bL (ba (cC (aj (au (aj (au (aB ⟨(by show 2≤sizeLine;decide),fun w fw=>fo (aj (de (d4 (ag rfl (.inl ⟨_,ao.of (sameNew fw _ _ hz),au (N.xh (aB ?_))⟩)))))⟩)))))))
 have s1:=sameNew (o:= .lst [V.str "",V.str "cursor"]) fw
 have A1:=A.same s1
 have word: ∀Q':VK,Q' (.str (wordOf ds)) (upd H w (.lst [V.str "",V.str "cursor"]))→kh K .int [.bl (decide (((zs.length:Nat):Int) >40))] (upd H w (.lst [V.str "",V.str "cursor"])) (fun y H2=>jo K (GW K E).sd (.ref w) y H2 Q'):=by
  intro Q' q'
  unfold wordOf at q'
  by_cases z:40<ds.length
  ·rw[if_pos z] at q'
   rw[decide_eq_true (show((zs.length:Nat):Int) >40 by omega)]
   exact eV (i:=1) aG rfl q'
  ·rw[if_neg z] at q'
   rw[decide_eq_false (show ¬((zs.length:Nat):Int) >40 by omega)]
   exact eV (i:=0) aG rfl q'
 refine word _ ?_
 generalize upd H w (.lst [V.str "",V.str "cursor"])=H1 at s1 A1⊢
 clear word
 obtain⟨z5,h5,c5⟩:=A1.h5
 obtain⟨z2,h2,c2⟩:=A1.h2
 refine bZ (gJ (cP (ag rfl (ag rfl (qf h5 h2 c5 c2 ⟨_,rfl,iF ?_ rfl⟩)))))
 have told:iu [.int (n:Nat), .ref l2] H1 (fun v H2=>aa (GW K E) (.v 7) [some (.ref a),some (.int (n:Nat)),some (.ref l1),some (.ref l2),some (.ref l3),some (.ref l4),some (.ref l5),some (.str (wordOf ds)),none,none,none] H2 fun y H3=>bK K .NotEq v y H3 fun z H4=> ∃b,z= .bl b∧(if b=true then ar (GW K E) [.ret (.c (.bl false))] {Dn Q with nx:=ar (GW K E) (bq.drop 10) (Dn Q)} [some (.ref a),some (.int (n:Nat)),some (.ref l1),some (.ref l2),some (.ref l3),some (.ref l4),some (.ref l5),some (.str (wordOf ds)),none,none,none] H4 else ar (GW K E) [] {Dn Q with nx:=ar (GW K E) (bq.drop 10) (Dn Q)} [some (.ref a),some (.int (n:Nat)),some (.ref l1),some (.ref l2),some (.ref l3),some (.ref l4),some (.ref l5),some (.str (wordOf ds)),none,none,none] H4)) E:=by
  have go: ∀H2,aD H1 H2→ar (GW K E) (bq.drop 10) (Dn Q) [some (.ref a),some (.int (n:Nat)),some (.ref l1),some (.ref l2),some (.ref l3),some (.ref l4),some (.ref l5),some (.str (wordOf ds)),none,none,none] H2:=by
   intro H2 s2
   have A2:=A1.same s2
   clear A1 A h5 h2 c5 c2 hz
   obtain⟨z2,h2,c2⟩:=A2.h2
   have Vr:z2.length=ds.length:=Paired.length c2
   have lp:(0:Int) < (z2.length:Nat):=by omega
   refine bL (br (aX (il K) rfl (aj (ag rfl (aj (au (aB ⟨a,ns,_,rfl,A2.ha,by decide,d4 (ag rfl (.inl ⟨_,ao.of h2,⟨lp, ?_⟩⟩))⟩)))))))
   have p0:=Int.emod_nonneg (cell ns (Int.toNat 8)) (show((z2.length:Nat):Int)≠0 by omega)
   have p1:=Int.emod_lt_of_pos (cell ns (Int.toNat 8)) lp
   obtain⟨k,ek⟩: ∃k:Nat,cell ns (Int.toNat 8) % ((z2.length:Nat):Int)=k:=⟨(cell ns (Int.toNat 8) % ((z2.length:Nat):Int)).toNat,by omega⟩
   show ar (GW K E) (bq.drop 11) (Dn Q) [some (.ref a),some (.int (n:Nat)),some (.ref l1),some (.ref l2),some (.ref l3),some (.ref l4),some (.ref l5),some (.str (wordOf ds)),some (.int (cell ns (Int.toNat 8) % ((z2.length:Nat):Int))),none,none] H2
   rw[ek]
   have tl:=nB (Γ:=GW K E) (σ:=[some (.ref a),some (.int (n:Nat)),some (.ref l1),some (.ref l2),some (.ref l3),some (.ref l4),some (.ref l5),some (.str (wordOf ds)),some (.int (k:Nat)),none,none]) (tu (i:=3) (lo:= .v 8) (j:=k) rfl h2 (gP rfl)) (tq (i:=3) (hi:= .v 8) (j:=k) rfl h2 (gP rfl)) i8 i8 (fun zs H e=>by rw[e,List.length_drop];omega) (fun zs H e=>by rw[e,List.length_take];omega)
   refine bZ (gJ (cP (aX eL rfl (aj (tl H2 _ (aD.refl _) fun w zs H3 s3 hw e=> ?_)))))
   obtain⟨x,y,rfl,rfl,rfl⟩:=e
   have c3:=c2.same s3
   refine aB (Gw hw (tE (tD k c3) (tw k c3)) (List.perm_append_comm.trans (by rw[List.take_append_drop])) A2.i6 e7 fun r zs H4 s4 _ hr cr=>ag rfl ?_)
   have jO:=s3.trans s4
   refine qf hr (jO _ _ h2) cr (c2.same jO) ⟨_,rfl,iF ?_ rfl⟩
   refine cP (aX eL rfl (aj (Gf (aj (ag rfl (aB ⟨l2,z2,rfl,ao.of (jO _ _ h2),fun w fw=> ?_⟩))))))
   have s5:=jO.trans (sameNew (o:= .lst z2.reverse) fw)
   refine aB (Gw aG (xV (c2.same s5)) (List.reverse_perm _) A2.i6 e7 fun r zs H6 s6 _ hr cr=>ag rfl ?_)
   have xX:=s5.trans s6
   refine qf hr (xX _ _ h2) cr (c2.same xX) ⟨_,rfl,iF (cU ?_) rfl⟩
   have A6:=A2.same xX
   refine Tt (body:=Gx) (Tv (ag rfl (au ⟨9,rfl,au ⟨14,rfl, .inl ⟨_,A6.ha,fun m fm=> ?_⟩⟩⟩)))
   have s7:=sameNew (o:= .lst (cz (ns.map V.int) (some 9) (some 14))) fm
   have hm:upd H6 m (.lst (cz (ns.map V.int) (some 9) (some 14))) m=some (.lst (cz (ns.map V.int) (some 9) (some 14))):=aG
   have A7:=A6.same s7
   generalize upd H6 m (.lst (cz (ns.map V.int) (some 9) (some 14)))=H7 at s7 hm A7⊢
   have Vs: ∀v∈cz (ns.map V.int) (some 9) (some 14),∃i:Int,v= .int i:=by
    intro v hv
    have:v∈ns.map V.int:=by
     unfold cz at hv
     exact List.mem_of_mem_drop (List.mem_of_mem_take hv)
    obtain⟨i,_,rfl⟩:=List.mem_map.mp this
    exact⟨i,rfl⟩
   refine⟨m,rfl,⟨_,ao.of hm⟩,qJ (K:=K) (a:=m) (xs:=cz (ns.map V.int) (some 9) (some 14)) (fun i σ H8=> ∃u9 dh,σ=[some (.ref a),some (.int (n:Nat)),some (.ref l1),some (.ref l2),some (.ref l3),some (.ref l4),some (.ref l5),some (.str (wordOf ds)),some (.int (k:Nat)),u9,dh]∧aD H7 H8)
    ⟨none,none,rfl,aD.refl _⟩ (fun i σ H8 _ ⟨_,_,_,s8⟩=>ao.of (s8 _ _ hm)) ?_ ?_⟩
   ·rintro i x σ H8 hx ⟨u9,dh,rfl,s8⟩
    obtain⟨j,rfl⟩:=Vs x (List.mem_of_getElem? hx)
    exact Vp (A7.same s8) fun lU H9 s9=> ⟨_,lU,rfl,s8.trans s9⟩
   ·rintro σ H8 ⟨u9,dh,rfl,s8⟩
    have A8:=A7.same s8
    obtain⟨z2,h2,c2⟩:=A8.h2
    obtain⟨z4,h4,c4⟩:=A8.h4
    obtain⟨z5,h5,c5⟩:=A8.h5
    have last: ∀H9,aD H8 H9→ar (GW K E) (bq.drop 14) (Dn Q) [some (.ref a),some (.int (n:Nat)),some (.ref l1),some (.ref l2),some (.ref l3),some (.ref l4),some (.ref l5),some (.str (wordOf ds)),some (.int (k:Nat)),u9,dh] H9:=by
     intro H9 s9
     have Z2:z2.length=ds.length:=Paired.length c2
     refine cb (f_ (de (ag rfl (ag rfl (FZ (s9 _ _ h5) (s9 _ _ h2) (c5.same s9) (c2.same s9) ⟨_,rfl,iT ?_ rfl⟩)))))
     refine ni (de (ag rfl (br (ag rfl (cC (aj (dI (aj (au (aj (au (aj (au (aB ⟨(by show 3≤sizeLine;decide),fun t ft=>aB ⟨(by show 1≤sizeLine;decide),fun w fw=> ?_⟩⟩))))))))))))))
     have vC:=sameNew (o:= .tup [V.int 0,V.int 0,V.ai]) ft
     have Gy:=sameNew (o:= .lst [V.ref t]) fw
     have gN:=s9.trans (vC.trans Gy)
     refine .inl ⟨l2,w,z2,[.ref t],rfl,rfl,gN _ _ h2,aG,eT (by show z2.length+1≤1000000;omega),fun p fp=> ?_⟩
     have nE:=gN.trans (sameNew (o:= .lst (z2++ [V.ref t])) fp)
     refine FZ (nE _ _ h4) aG (c4.same nE) (eJ (c2.same nE) ⟨t,rfl,(Gy.trans (sameNew (o:= .lst (z2++ [V.ref t])) fp)) _ _ aG⟩) (q _)
    refine bZ (w_ (cP (ag rfl (au (w9 ⟨_,rfl, ?_⟩)))))
    unfold wordOf at last⊢
    by_cases z:40<ds.length
    ·simp only[if_pos z] at last⊢
     exact iF (cU (last _ (aD.refl _))) (by decide+kernel)
    ·simp only[if_neg z] at last⊢
     refine iT ?_ (by decide+kernel)
     refine cP (aX i5 rfl (aj (ag rfl (aj (ag rfl (aB ⟨n,l2,z2,ds,rfl,h2,c2,A8.one,by omega,A8.fD,A8.i6.apart,fun H9 s9=>au ⟨rfl,_,rfl, ?_⟩⟩))))))
     exact iF (cU (last _ s9)) (by decide)
  have fin: ∀(w:Str) (H2:Hp),aD H1 H2→w=wordOf ds→aa (GW K E) (.v 7) [some (.ref a),some (.int (n:Nat)),some (.ref l1),some (.ref l2),some (.ref l3),some (.ref l4),some (.ref l5),some (.str (wordOf ds)),none,none,none] H2 fun y H3=>bK K .NotEq (.str w) y H3 fun z H4=> ∃b,z= .bl b∧(if b=true then ar (GW K E) [.ret (.c (.bl false))] {Dn Q with nx:=ar (GW K E) (bq.drop 10) (Dn Q)} [some (.ref a),some (.int (n:Nat)),some (.ref l1),some (.ref l2),some (.ref l3),some (.ref l4),some (.ref l5),some (.str (wordOf ds)),none,none,none] H4 else ar (GW K E) [] {Dn Q with nx:=ar (GW K E) (bq.drop 10) (Dn Q)} [some (.ref a),some (.int (n:Nat)),some (.ref l1),some (.ref l2),some (.ref l3),some (.ref l4),some (.ref l5),some (.str (wordOf ds)),none,none,none] H4):=by
   intro w H2 s2 e
   subst e
   refine ag rfl (Tp ⟨_,rfl,iF (cU (go H2 s2)) (by simp)⟩)
  by_cases z:40<ds.length
  ·have Vr:z2.length=ds.length:=Paired.length c2
   exact⟨n,_,rfl, .inr ⟨.inr ⟨l2,z2,rfl,h2, .inr (.inl (by omega))⟩,fun H2 s2=>fin "cursor" H2 s2 (by unfold wordOf;rw[if_pos z])⟩⟩
  ·exact⟨n,_,rfl, .inl ⟨⟨l2,z2,ds,rfl,h2,c2,one,by omega,A1.fD,A1.i6.apart⟩,fun H2 s2=>fin "" H2 s2 (by unfold wordOf;rw[if_neg z])⟩⟩
 exact cP (aX iu rfl (aj (ag rfl (aj (ag rfl (aB told))))))
theorem Vt(vs:List V)(H:Hp)(Q:VK)(E:XK)(hh:tG K vs H Q E):ar (aW K (Gv K) [] (E:=E)) bq (Dn Q) (start dw vs) H:=by
 obtain⟨a,ns,rfl,ha,q⟩:=hh
 refine bL (aX pA rfl (aj (aX (il K) rfl (aj (ag rfl (aj (au (aB ⟨a,ns,_,rfl,ha,by decide,aB ⟨_,rfl,fun n0 n1 n2=> ?_⟩⟩))))))))
 obtain⟨n,rfl⟩: ∃n:Nat,n0=n:=⟨n0.toNat,by omega⟩
 refine bL (aX (qh K) rfl (aj (ag rfl (aj (au (aj (ag rfl (aB ⟨a,ns,1,n,rfl,ha,fun l1 xs cs H1 s1 f1 fc nF cg ho hl=> ?_⟩))))))))
 refine bL (aX eL rfl (aj (ag rfl (aB ⟨l1,xs,cs,rfl,fc,nF,by omega,fun us l2 zs H2 S s2 f2 jh nS=> ?_⟩))))
 have T:=UB S cg
 have one:1≤ (settle cs us).length:=by
  have:settle cs us≠ []:=T.ne (fun z=>by rw[z] at ho;exact absurd ho (by decide))
  exact List.length_pos_iff.mpr this
 have e7:(settle cs us).length≤48:=Nat.le_trans T.len hl
 refine bL (fo (aj (ag rfl (aB ⟨xs, .inl (ao.of (s2 _ _ fc)),fun l3 f3=> ?_⟩))))
 have s3:=sameNew (o:= .lst xs) f3
 have dq:upd H2 l3 (.lst xs) l3=some (.lst xs):=aG
 generalize upd H2 l3 (.lst xs)=H3 at s3 dq⊢
 have dA:=s2.trans s3
 have again: ∀{H4:Hp} {Q':VK} {ez:List V},H4 l3=some (.lst ez)→aZ H4 ez cs→(∀r zs H',aD H4 H'→H4 r=none→H' r=some (.lst zs)→aZ H' zs (settle cs us)→Q' (.ref r) H')→eL [.ref l3] H4 Q' E:=fun {H4 Q' ez} h c k=>
  ⟨l3,ez,cs,rfl,h,c,by omega,fun Z3 r zs H' S' s f h' c'=>k r zs H' s f h' (by rw[S.eq S'];exact c')⟩
 refine bL (aX eL rfl (aj (ag rfl (aB (again dq (nF.same dA) fun l4 z4 H4 s4 f4 h4 c4=> ?_)))))
 have jO:=s3.trans s4
 refine bZ (gJ (df (lQ qd rfl (aj (ag rfl (aj (ag rfl (aB ⟨l4,l2,z4,zs,_,rfl,h4,jO _ _ jh,c4,nS.same jO,fun H5 s5=>fZ (iF ?_ rfl)⟩))))))))
 have s_:=jO.trans s5
 have xY:=s2.trans s_
 refine cP (ag rfl (ag rfl (qf ((s4.trans s5) _ _ dq) (xY _ _ fc) (nF.same xY) (nF.same xY) ⟨_,rfl,iF (cU ?_) rfl⟩)))
 refine ip (jD (ag rfl ⟨.inl ⟨rfl,_,ao.of (s5 _ _ h4)⟩,dI (aj (au (aj (au (aj (au (aB ⟨(by show 3≤sizeLine;decide),fun t ft=> ?_⟩)))))))⟩))
 have s6:=sameNew (o:= .tup [V.int 0,V.int 0,V.ai]) ft
 have tH:=(s5.trans s6) _ _ h4
 have Z4:z4.length=(settle cs us).length:=Paired.length c4
 refine⟨z4,tH,fX (by omega), ?_⟩
 have tI:upd H5 t (.tup [V.int 0,V.int 0,V.ai]) t=some (.tup [V.int 0,V.int 0,V.ai]):=aG
 have Gz:=(s4.trans s5).trans s6
 generalize upd H5 t (.tup [V.int 0,V.int 0,V.ai])=H6 at s6 tH tI Gz⊢
 have b7:bz l4 H6 (upd H6 l4 (.lst (z4++ [.ref t]))):=bz.upd
 have jM:upd H6 l4 (.lst (z4++ [.ref t])) l4=some (.lst (z4++ [.ref t])):=aG
 have n4: ∀{x:Addr} {o:HO},H3 x=some o→x≠l4:=fun e=>c_ e f4
 have nt:t≠l4:=fun z=>by rw[z,tH] at tI;cases tI
 have c6:aZ H6 z4 (settle cs us):=c4.same (s5.trans s6)
 generalize upd H6 l4 (.lst (z4++ [.ref t]))=H7 at b7 jM⊢
 have xZ:aD H3 H7:=fun x o e=>b7 x o (Gz _ _ e) (n4 e)
 refine bL (aX eL rfl (aj (ag rfl (aB (again (xZ _ _ dq) (nF.same (dA.trans xZ)) fun l5 z5 H8 s8 f8 h5 c5=> ?_)))))
 have qm:=xZ.trans s8
 refine Vq (l1:=l1) (cs:=cs) (ds:=settle cs us) ⟨((s1.trans dA).trans qm).seq ha,⟨zs,(s3.trans qm) _ _ jh,nS.same (s3.trans qm)⟩,⟨xs,qm _ _ dq,nF.same (dA.trans qm)⟩,⟨z4++ [.ref t],s8 _ _ jM, ?_⟩,⟨z5,h5,c5⟩,T.i6,T.fD,one,e7⟩ q
 exact aZ.same (eJ (F_ c6 tH b7) ⟨t,rfl,b7 _ _ tI nt⟩) s8
end
end L2.kS
namespace L2.kS
open PySem PySem.Spec PyProof.Rows L2.B
theorem fE{K:Frag}{x qual:Str}{st:Stmt}{f:Addr}{fd:FuncData}{ps:List Str}(F:ji K x qual st f fd)(hp:ps.length=1)(h: ∀(kV doc pm:Value) (an:Option Addr) (bj ct:Value) (a0:Value),bindArgs (fnOf x qual (bJ st) (aq st) (az st) .none kV doc pm an bj ct) ⟨[a0],[]⟩=pure (ps.zip [a0])):Binds K fd ps []:=
 F.binds fun kV doc pm an bj ct us hl=>by
  have e:=hl.trans hp
  rcases us with _ | ⟨a0,_ | ⟨_,_⟩⟩ <;>first | exact h kV doc pm an bj ct _ | exact absurd e (by simp)
theorem i9{K:Frag}{x qual:Str}{st:Stmt}{f:Addr}{fd:FuncData}{ps:List Str}(F:ji K x qual st f fd)(hp:ps.length=2)(h: ∀(kV doc pm:Value) (an:Option Addr) (bj ct:Value) (a0 a1:Value),bindArgs (fnOf x qual (bJ st) (aq st) (az st) .none kV doc pm an bj ct) ⟨[a0,a1],[]⟩=pure (ps.zip [a0,a1])):Binds K fd ps []:=
 F.binds fun kV doc pm an bj ct us hl=>by
  have e:=hl.trans hp
  rcases us with _ | ⟨a0,_ | ⟨a1,_ | ⟨_,_⟩⟩⟩ <;>first | exact h kV doc pm an bj ct _ _ | exact absurd e (by simp)
theorem tJ{K:Frag}{x qual:Str}{st:Stmt}{f:Addr}{fd:FuncData}{ps:List Str}(F:ji K x qual st f fd)(hp:ps.length=3)(h: ∀(kV doc pm:Value) (an:Option Addr) (bj ct:Value) (a0 a1 a2:Value),bindArgs (fnOf x qual (bJ st) (aq st) (az st) .none kV doc pm an bj ct) ⟨[a0,a1,a2],[]⟩=pure (ps.zip [a0,a1,a2])):Binds K fd ps []:=
 F.binds fun kV doc pm an bj ct us hl=>by
  have e:=hl.trans hp
  rcases us with _ | ⟨a0,_ | ⟨a1,_ | ⟨a2,_ | ⟨_,_⟩⟩⟩⟩ <;>first | exact h kV doc pm an bj ct _ _ _ | exact absurd e (by simp)
theorem all_mk{l:PySem.W.OpenLaw}{w:World}{K:Frag}{h:Heap}{mg:Str→Option Value}{fa f0 f1 f2 f3 f4 f5 f6 f7 f8 f9 x4 x5 x6 x8 x9 x_ ya yb yc yd ye yf yg yh yi yj:Addr}{i_:Addr}{lY:Addr}{lZ:Addr}{l_:Addr}{ma:Addr}{me:Addr}{mf:Addr}{mh:Addr}{bF:Addr}{mi:Addr}{mj:Addr}{mm:Addr}{mq:Addr}{mr:Addr}(X:K.In h)(G:h.Ns mainGlobals mg)(Vu:mg "law"=some (.ref fa))
  {Vv Vw:Option Addr} {Vx:Array (Option Value)} {Vy Vz VA VB GA VC:Value}
  {VD VE:Option Addr} {VF:Array (Option Value)} {VG VH VI VJ GB VL:Value}
  {VM VN:Option Addr} {j2:Array (Option Value)} {VO VP VQ VR GC VS:Value}
  {VT VU:Option Addr} {oJ:Array (Option Value)} {VV VW VX VY GD VZ:Value}
  {V0 V1:Option Addr} {V2:Array (Option Value)} {V4 V5 V6 V7 GF V8:Value}
  {V9 V_:Option Addr} {Wa:Array (Option Value)} {Wb Wc Wd We GG Wf:Value}
  {Wg Wh:Option Addr} {Wi:Array (Option Value)} {Wj Wk Wl Wm GH Wn:Value}
  {Wo Wq:Option Addr} {Wr:Array (Option Value)} {Ws Wt Wu Wv GJ Ww:Value}
  {Wx Wy:Option Addr} {Wz:Array (Option Value)} {WA WB WC WD GK WE:Value}
  {WG WH:Option Addr} {WI:Array (Option Value)} {WJ WK WL WM GL WN:Value}
  {WO WQ:Option Addr} {WR:Array (Option Value)} {WS WT WU WV GN WW:Value}
  {WX WY:Option Addr} {WZ:Array (Option Value)} {W0 W2 W3 W4 GO W5:Value}
  {W6 W7:Option Addr} {W8:Array (Option Value)} {W9 W_ Xa Xb GP Xd:Value}
  {Xe Xf:Option Addr} {Xg:Array (Option Value)} {Xh Xi Xj Xk GQ Xl:Value}
  {Xm Xn:Option Addr} {Xo:Array (Option Value)} {Xp Xq Xr Xs GS Xt:Value}
  {Xu Xv:Option Addr} {Xw:Array (Option Value)} {Xx Xy Xz XA GU XB:Value}
  {XC XD:Option Addr} {XE:Array (Option Value)} {XF XG XH XI GV XJ:Value}
  {XM XN:Option Addr} {XO:Array (Option Value)} {XQ XR XS XT GX XU:Value}
  {XW XX:Option Addr} {XY:Array (Option Value)} {XZ X0 X1 X3 GY X4:Value}
  {X5 X6:Option Addr} {X7:Array (Option Value)} {X8 X9 X_ Ya GZ Yb:Value}
  {Yc Yd:Option Addr} {Ye:Array (Option Value)} {Yf Yg Yh Yi G0 Yj:Value}
  {Yk Yl:Option Addr} {Ym:Array (Option Value)} {Yn Yo Yp Yq G1 Yr:Value}
  {Ys Yt:Option Addr} {Yu:Array (Option Value)} {Yv Yw Yx Yy G3 Yz:Value}
  {YA YB:Option Addr} {YC:Array (Option Value)} {YD YE YF YG G4 YH:Value}
  {YI YJ:Option Addr} {YK:Array (Option Value)} {YL YM YN YO G5 YQ:Value}
  {YR G6:Option Addr} {YS:Array (Option Value)} {YT G7 G8 G9 yk G_:Value}
  {YU:Tok}
  (yl:nsIn K mainGlobals "InkError"=some (some (.ref i_)))
  (ym:nsIn K mainGlobals "BadText"=some (some (.ref lY)))
  (yn:nsIn K mainGlobals "BadChange"=some (some (.ref lZ)))
  (yo:nsIn K mainGlobals "BadFit"=some (some (.ref l_)))
  (yp:nsIn K mainGlobals "NoPlace"=some (some (.ref ma)))
  (yq:nsIn K mainGlobals "BadSide"=some (some (.ref me)))
  (yr:nsIn K mainGlobals "NoMark"=some (some (.ref mf)))
  (yt:nsIn K mainGlobals "NoNode"=some (some (.ref mh)))
  (tK:nsIn K mainGlobals "NoCursor"=some (some (.ref bF)))
  (yu:nsIn K mainGlobals "BadDeed"=some (some (.ref mi)))
  (yv:nsIn K mainGlobals "BadLetter"=some (some (.ref mj)))
  (yw:nsIn K mainGlobals "NoLetter"=some (some (.ref mm)))
  (yx:nsIn K mainGlobals "NoHand"=some (some (.ref mq)))
  (yy:nsIn K mainGlobals "NoNote"=some (some (.ref mr)))
  (yz:PySem.W.excIn K bF [.type "ValueError", .type "Exception", .type "BaseException", .type "object"] "ValueError.__new__"=true)
  (yA:PySem.W.findIn K (.ref bF) "__getattribute__"=some (some (.builtin "BaseException.__getattribute__")))
  (yB:PySem.W.findIn K (.ref bF) "__getattr__"=some none)
  (yC:(PySem.W.clsIn K bF).isSome=true)
  (yD:PySem.W.findIn K (.ref bF) "__class__"=some (some (.builtin "object.__class__")))
  (yE:PySem.W.mroIn K bF (.type "object")=some true)
  (yF:PySem.W.mroIn K bF (.type "BaseException")=some true)
  (yG:kitOne K (.ref bF) (.ref lY)=some false)
  (yH:kitOne K (.ref bF) (.ref lZ)=some false)
  (yI:kitOne K (.ref bF) (.ref l_)=some false)
  (yJ:kitOne K (.ref bF) (.ref ma)=some false)
  (yK:kitOne K (.ref bF) (.ref me)=some false)
  (yL:kitOne K (.ref bF) (.ref mf)=some false)
  (yM:kitOne K (.ref bF) (.ref mh)=some false)
  (yN:kitOne K (.ref bF) (.ref bF)=some true)
  (yO:kitOne K (.ref bF) (.ref mi)=some false)
  (yP:kitOne K (.ref bF) (.ref mj)=some false)
  (yQ:kitOne K (.ref bF) (.ref mm)=some false)
  (yR:kitOne K (.ref bF) (.ref mq)=some false)
  (yS:kitOne K (.ref bF) (.ref mr)=some false)
  (yT:kitOne K (.ref bF) (.ref i_)=some true)
  (yU:kitOne K (.ref bF) (.type "ValueError")=some true)
  (yV:exmOne K (.ref bF) (.ref i_)=some true)
  (e5:PySem.W.specialIn K (.builtin "object.__class__") "__get__"=some (some (.builtin "getset_descriptor.__get__")))
  (e6:PySem.W.takesIn K (.builtin "object.__class__")=some true)
  (a0:nsIn K mainGlobals "is_whole"=some (some (.ref f0)))
  (l0:K.lookup f0=some ⟨Vy,Vv, .func (fnOf "is_whole" "is_whole" (bJ kT) (aq kT) (az kT) .none Vz VA VB Vw GA VC),Vx⟩)
  (c0:codeIn K GA "is_whole"=true)
  (k0:keepIn K (.ref f0)=true)
  (a1:nsIn K mainGlobals "is_between"=some (some (.ref f1)))
  (l1:K.lookup f1=some ⟨VG,VD, .func (fnOf "is_between" "is_between" (bJ kU) (aq kU) (az kU) .none VH VI VJ VE GB VL),VF⟩)
  (c1:codeIn K GB "is_between"=true)
  (k1:keepIn K (.ref f1)=true)
  (a2:nsIn K mainGlobals "begin_of"=some (some (.ref f2)))
  (l2:K.lookup f2=some ⟨VO,VM, .func (fnOf "begin_of" "begin_of" (bJ kW) (aq kW) (az kW) .none VP VQ VR VN GC VS),j2⟩)
  (c2:codeIn K GC "begin_of"=true)
  (k2:keepIn K (.ref f2)=true)
  (a3:nsIn K mainGlobals "end_of"=some (some (.ref f3)))
  (l3:K.lookup f3=some ⟨VV,VT, .func (fnOf "end_of" "end_of" (bJ kY) (aq kY) (az kY) .none VW VX VY VU GD VZ),oJ⟩)
  (c3:codeIn K GD "end_of"=true)
  (k3:keepIn K (.ref f3)=true)
  (a4:nsIn K mainGlobals "is_empty"=some (some (.ref f4)))
  (l4:K.lookup f4=some ⟨V4,V0, .func (fnOf "is_empty" "is_empty" (bJ kZ) (aq kZ) (az kZ) .none V5 V6 V7 V1 GF V8),V2⟩)
  (c4:codeIn K GF "is_empty"=true)
  (k4:keepIn K (.ref f4)=true)
  (a5:nsIn K mainGlobals "is_backward"=some (some (.ref f5)))
  (l5:K.lookup f5=some ⟨Wb,V9, .func (fnOf "is_backward" "is_backward" (bJ k_) (aq k_) (az k_) .none Wc Wd We V_ GG Wf),Wa⟩)
  (c5:codeIn K GG "is_backward"=true)
  (k5:keepIn K (.ref f5)=true)
  (a6:nsIn K mainGlobals "is_goal"=some (some (.ref f6)))
  (l6:K.lookup f6=some ⟨Wj,Wg, .func (fnOf "is_goal" "is_goal" (bJ lj) (aq lj) (az lj) .none Wk Wl Wm Wh GH Wn),Wi⟩)
  (c6:codeIn K GH "is_goal"=true)
  (k6:keepIn K (.ref f6)=true)
  (a7:nsIn K mainGlobals "is_cursor"=some (some (.ref f7)))
  (l7:K.lookup f7=some ⟨Ws,Wo, .func (fnOf "is_cursor" "is_cursor" (bJ ll) (aq ll) (az ll) .none Wt Wu Wv Wq GJ Ww),Wr⟩)
  (c7:codeIn K GJ "is_cursor"=true)
  (k7:keepIn K (.ref f7)=true)
  (a8:nsIn K mainGlobals "meet"=some (some (.ref f8)))
  (l8:K.lookup f8=some ⟨WA,Wx, .func (fnOf "meet" "meet" (bJ lq) (aq lq) (az lq) .none WB WC WD Wy GK WE),Wz⟩)
  (c8:codeIn K GK "meet"=true)
  (k8:keepIn K (.ref f8)=true)
  (a9:nsIn K mainGlobals "need_cursors"=some (some (.ref f9)))
  (l9:K.lookup f9=some ⟨WJ,WG, .func (fnOf "need_cursors" "need_cursors" (bJ lr) (aq lr) (az lr) .none WK WL WM WH GL WN),WI⟩)
  (c9:codeIn K GL "need_cursors"=true)
  (k9:keepIn K (.ref f9)=true)
  (yW:nsIn K mainGlobals "gathered"=some (some (.ref x4)))
  (yX:K.lookup x4=some ⟨WS,WO, .func (fnOf "gathered" "gathered" (bJ lA) (aq lA) (az lA) .none WT WU WV WQ GN WW),WR⟩)
  (fq:codeIn K GN "gathered"=true)
  (pG:keepIn K (.ref x4)=true)
  (yY:nsIn K mainGlobals "as_one"=some (some (.ref x5)))
  (yZ:K.lookup x5=some ⟨W0,WX, .func (fnOf "as_one" "as_one" (bJ lB) (aq lB) (az lB) .none W2 W3 W4 WY GO W5),WZ⟩)
  (fu:codeIn K GO "as_one"=true)
  (pH:keepIn K (.ref x5)=true)
  (y9:nsIn K mainGlobals "settled"=some (some (.ref x6)))
  (y_:K.lookup x6=some ⟨W9,W6, .func (fnOf "settled" "settled" (bJ lE) (aq lE) (az lE) .none W_ Xa Xb W7 GP Xd),W8⟩)
  (fA:codeIn K GP "settled"=true)
  (pI:keepIn K (.ref x6)=true)
  (za:nsIn K mainGlobals "_law_cell_at"=some (some (.ref x8)))
  (zb:K.lookup x8=some ⟨Xh,Xe, .func (fnOf "_law_cell_at" "_law_cell_at" (bJ lF) (aq lF) (az lF) .none Xi Xj Xk Xf GQ Xl),Xg⟩)
  (zc:codeIn K GQ "_law_cell_at"=true)
  (zd:keepIn K (.ref x8)=true)
  (ze:nsIn K mainGlobals "_law_whole"=some (some (.ref x9)))
  (zf:K.lookup x9=some ⟨Xp,Xm, .func (fnOf "_law_whole" "_law_whole" (bJ lG) (aq lG) (az lG) .none Xq Xr Xs Xn GS Xt),Xo⟩)
  (zg:codeIn K GS "_law_whole"=true)
  (zh:keepIn K (.ref x9)=true)
  (zi:nsIn K mainGlobals "_law_mixed"=some (some (.ref x_)))
  (zj:K.lookup x_=some ⟨Xx,Xu, .func (fnOf "_law_mixed" "_law_mixed" (bJ lH) (aq lH) (az lH) .none Xy Xz XA Xv GU XB),Xw⟩)
  (oK:codeIn K GU "_law_mixed"=true)
  (zk:keepIn K (.ref x_)=true)
  (zl:nsIn K mainGlobals "_law_size"=some (some (.ref ya)))
  (zm:K.lookup ya=some ⟨XF,XC, .func (fnOf "_law_size" "_law_size" (bJ lI) (aq lI) (az lI) .none XG XH XI XD GV XJ),XE⟩)
  (rP:codeIn K GV "_law_size"=true)
  (zo:keepIn K (.ref ya)=true)
  (zp:nsIn K mainGlobals "_law_word"=some (some (.ref yb)))
  (zq:K.lookup yb=some ⟨XQ,XM, .func (fnOf "_law_word" "_law_word" (bJ bR) (aq bR) (az bR) .none XR XS XT XN GX XU),XO⟩)
  (zr:codeIn K GX "_law_word"=true)
  (zt:keepIn K (.ref yb)=true)
  (zu:nsIn K mainGlobals "_law_cursor"=some (some (.ref yc)))
  (zv:K.lookup yc=some ⟨XZ,XW, .func (fnOf "_law_cursor" "_law_cursor" (bJ da) (aq da) (az da) .none X0 X1 X3 XX GY X4),XY⟩)
  (zw:codeIn K GY "_law_cursor"=true)
  (zx:keepIn K (.ref yc)=true)
  (zy:nsIn K mainGlobals "_law_drawn"=some (some (.ref yd)))
  (zz:K.lookup yd=some ⟨X8,X5, .func (fnOf "_law_drawn" "_law_drawn" (bJ lJ) (aq lJ) (az lJ) .none X9 X_ Ya X6 GZ Yb),X7⟩)
  (zA:codeIn K GZ "_law_drawn"=true)
  (zB:keepIn K (.ref yd)=true)
  (zC:nsIn K mainGlobals "_law_settled"=some (some (.ref ye)))
  (zD:K.lookup ye=some ⟨Yf,Yc, .func (fnOf "_law_settled" "_law_settled" (bJ cO) (aq cO) (az cO) .none Yg Yh Yi Yd G0 Yj),Ye⟩)
  (zE:codeIn K G0 "_law_settled"=true)
  (zF:keepIn K (.ref ye)=true)
  (zG:nsIn K mainGlobals "_law_alike"=some (some (.ref yf)))
  (zH:K.lookup yf=some ⟨Yn,Yk, .func (fnOf "_law_alike" "_law_alike" (bJ lK) (aq lK) (az lK) .none Yo Yp Yq Yl G1 Yr),Ym⟩)
  (zI:codeIn K G1 "_law_alike"=true)
  (zJ:keepIn K (.ref yf)=true)
  (zK:nsIn K mainGlobals "_law_told"=some (some (.ref yg)))
  (zL:K.lookup yg=some ⟨Yv,Ys, .func (fnOf "_law_told" "_law_told" (bJ lL) (aq lL) (az lL) .none Yw Yx Yy Yt G3 Yz),Yu⟩)
  (zM:codeIn K G3 "_law_told"=true)
  (zN:keepIn K (.ref yg)=true)
  (zO:nsIn K mainGlobals "_law_odd"=some (some (.ref yh)))
  (zP:K.lookup yh=some ⟨YD,YA, .func (fnOf "_law_odd" "_law_odd" (bJ dc) (aq dc) (az dc) .none YE YF YG YB G4 YH),YC⟩)
  (zQ:codeIn K G4 "_law_odd"=true)
  (zR:keepIn K (.ref yh)=true)
  (zS:nsIn K mainGlobals "_law_refused"=some (some (.ref yi)))
  (zT:K.lookup yi=some ⟨YL,YI, .func (fnOf "_law_refused" "_law_refused" (bJ bH) (aq bH) (az bH) .none YM YN YO YJ G5 YQ),YK⟩)
  (zU:codeIn K G5 "_law_refused"=true)
  (zV:keepIn K (.ref yi)=true)
  (zW:nsIn K mainGlobals "law"=some (some (.ref yj)))
  (zX:K.lookup yj=some ⟨YT,YR, .func (fnOf "law" "law" (bJ aV) (aq aV) (az aV) .none G7 G8 G9 G6 yk G_),YS⟩)
  (oM:codeIn K yk "law"=true)
  (zY:keepIn K (.ref yj)=true)
  (zZ:nsIn K mainGlobals "MOST_CURSORS"=some (some (Value.int 40 YU)))
  (z0:nsIn K mainGlobals "ValueError"=some none)
  (z9:nsIn K mainGlobals "all"=some none)
  (z_:nsIn K mainGlobals "any"=some none)
  (Aa:nsIn K mainGlobals "bool"=some none)
  (Ab:nsIn K mainGlobals "enumerate"=some none)
  (Ac:nsIn K mainGlobals "int"=some none)
  (Ad:nsIn K mainGlobals "isinstance"=some none)
  (Ae:nsIn K mainGlobals "len"=some none)
  (Af:nsIn K mainGlobals "list"=some none)
  (Ag:nsIn K mainGlobals "max"=some none)
  (Ah:nsIn K mainGlobals "min"=some none)
  (Ai:nsIn K mainGlobals "range"=some none)
  (Aj:nsIn K mainGlobals "reversed"=some none)
  (Ak:nsIn K mainGlobals "sorted"=some none)
  (Al:nsIn K mainGlobals "tuple"=some none)
  (Am:nsIn K mainGlobals "zip"=some none)
  : ∃fd:FuncData,(∀(s:Shared) (v:Value),BindsTo s fd ⟨[v],[]⟩ [("_law_script",v)])∧ ∀base:Heap,K.In base→base.Ns mainGlobals mg→bS l.prog w K mg base qY 7 fa fd ["_law_script"] (fun vs H Q _=> (tG K) vs H Q E0):=by
 have e:=Vu.symm.trans (mg_of X G zW)
 cases e
 have YV:mg "ValueError"=none:=mg_none_of X G z0
 have Ha:mg "all"=none:=mg_none_of X G z9
 have Hb:mg "any"=none:=mg_none_of X G z_
 have y_bool:mg "bool"=none:=mg_none_of X G Aa
 have Hc:mg "enumerate"=none:=mg_none_of X G Ab
 have An:mg "int"=none:=mg_none_of X G Ac
 have jP:mg "isinstance"=none:=mg_none_of X G Ad
 have gQ:mg "len"=none:=mg_none_of X G Ae
 have qo:mg "list"=none:=mg_none_of X G Af
 have qp:mg "max"=none:=mg_none_of X G Ag
 have qq:mg "min"=none:=mg_none_of X G Ah
 have YW:mg "range"=none:=mg_none_of X G Ai
 have He:mg "reversed"=none:=mg_none_of X G Aj
 have Hf:mg "sorted"=none:=mg_none_of X G Ak
 have tL:mg "tuple"=none:=mg_none_of X G Al
 have Ao:mg "zip"=none:=mg_none_of X G Am
 have Hg:dG mg ("MOST_CURSORS", .int 40):=⟨_,mg_of X G zZ,⟨_,rfl⟩⟩
 have Hh:dG mg ("InkError", .ref i_):=⟨_,mg_of X G yl,rfl⟩
 have YX:dG mg ("BadText", .ref lY):=⟨_,mg_of X G ym,rfl⟩
 have YY:dG mg ("BadChange", .ref lZ):=⟨_,mg_of X G yn,rfl⟩
 have YZ:dG mg ("BadFit", .ref l_):=⟨_,mg_of X G yo,rfl⟩
 have Y0:dG mg ("NoPlace", .ref ma):=⟨_,mg_of X G yp,rfl⟩
 have Y1:dG mg ("BadSide", .ref me):=⟨_,mg_of X G yq,rfl⟩
 have Y2:dG mg ("NoMark", .ref mf):=⟨_,mg_of X G yr,rfl⟩
 have Y3:dG mg ("NoNode", .ref mh):=⟨_,mg_of X G yt,rfl⟩
 have Y4:dG mg ("NoCursor", .ref bF):=⟨_,mg_of X G tK,rfl⟩
 have Y5:dG mg ("BadDeed", .ref mi):=⟨_,mg_of X G yu,rfl⟩
 have Y6:dG mg ("BadLetter", .ref mj):=⟨_,mg_of X G yv,rfl⟩
 have Y7:dG mg ("NoLetter", .ref mm):=⟨_,mg_of X G yw,rfl⟩
 have Y8:dG mg ("NoHand", .ref mq):=⟨_,mg_of X G yx,rfl⟩
 have Y9:dG mg ("NoNote", .ref mr):=⟨_,mg_of X G yy,rfl⟩
 have Y_:lN K [lY,lZ,l_,ma,me,mf,mh,bF,mi,mj,mm,mq,mr] i_ bF 7:=To ⟨yA,yB,yC,yD,e5,e6,yE,yF⟩ yT yU yG yH yI yJ yK yL yM yN yO yP yQ yR yS
 refine⟨fnOf "law" "law" (bJ aV) (aq aV) (az aV) .none G7 G8 G9 G6 yk G_,fun s v=> .of_eq rfl,fun base X2 G2=> ?_⟩
 have Hi:vL mg base ("NoCursor",bF):=Tn X2 G2 tK yz
 have F0:=cm (st:=kT) l0 c0 k0
 have B0:=fE (ps:=DQ) F0 rfl fun _ _ _ _ _ _ _=>rfl
 have T0:bU l.prog w K mg base 1 "is_whole" (fk):=⟨_,_,_,(b_ (k:=0) F0 Q6 [] [] DR [] [] [] [] vQ @Q7 ah ah (aC jP (aC An (aC y_bool ah))) [] ah ah ah ah ah (by rintro vs H Q E ⟨_,rfl,_⟩;rfl) S6),mg_of X G a0,F0.kp,B0⟩
 have F1:=cm (st:=kU) l1 c1 k1
 have B1:=tJ (ps:=DZ) F1 rfl fun _ _ _ _ _ _ _ _ _=>rfl
 have T1:bU l.prog w K mg base 2 "is_between" (fY):=⟨_,_,_,(b_ (k:=1) F1 Q8 [("is_whole",fk)] [] D0 [] [] [] [] vY @Q9 (aC (T0.mono (by omega)) ah) ah ah [] ah ah ah ah ah (by rintro vs H Q E ⟨_,_,_,rfl,_⟩;rfl) Tq),mg_of X G a1,F1.kp,B1⟩
 have F2:=cm (st:=kW) l2 c2 k2
 have B2:=fE (ps:=D4) F2 rfl fun _ _ _ _ _ _ _=>rfl
 have T2:bU l.prog w K mg base 1 "begin_of" (N.eI):=⟨_,_,_,(b_ (k:=0) F2 Q_ [] [] D5 [] [] [] [] v_ @Ra ah ah (aC qq ah) [] ah ah ah ah ah (by rintro vs H Q E ⟨_,_,_,_,rfl,_⟩;rfl) N.TJ),mg_of X G a2,F2.kp,B2⟩
 have F3:=cm (st:=kY) l3 c3 k3
 have B3:=fE (ps:=D6) F3 rfl fun _ _ _ _ _ _ _=>rfl
 have T3:bU l.prog w K mg base 1 "end_of" (N.gL):=⟨_,_,_,(b_ (k:=0) F3 Rb [] [] D7 [] [] [] [] wb @Rc ah ah (aC qp ah) [] ah ah ah ah ah (by rintro vs H Q E ⟨_,_,_,_,rfl,_⟩;rfl) N.TK),mg_of X G a3,F3.kp,B3⟩
 have F4:=cm (st:=kZ) l4 c4 k4
 have B4:=fE (ps:=D8) F4 rfl fun _ _ _ _ _ _ _=>rfl
 have T4:bU l.prog w K mg base 1 "is_empty" (N.pL):=⟨_,_,_,(b_ (k:=0) F4 Rf [] [] D9 [] [] [] [] wd @Rg ah ah ah [] ah ah ah ah ah (by rintro vs H Q E ⟨_,_,_,_,rfl,_⟩;rfl) N.TL),mg_of X G a4,F4.kp,B4⟩
 have F5:=cm (st:=k_) l5 c5 k5
 have B5:=fE (ps:=Ey) F5 rfl fun _ _ _ _ _ _ _=>rfl
 have T5:bU l.prog w K mg base 1 "is_backward" (N.pO):=⟨_,_,_,(b_ (k:=0) F5 Rh [] [] Ez [] [] [] [] wz @Ri ah ah ah [] ah ah ah ah ah (by rintro vs H Q E ⟨_,_,_,_,rfl,_⟩;rfl) N.TY),mg_of X G a5,F5.kp,B5⟩
 have F6:=cm (st:=lj) l6 c6 k6
 have B6:=fE (ps:=D_) F6 rfl fun _ _ _ _ _ _ _=>rfl
 have T6:bU l.prog w K mg base 2 "is_goal" (d0 (N.jH) (N.qb)):=⟨_,_,_,(bS.or (b_ (k:=1) F6 EO [("is_whole",fk)] [] we [] [] [] [] oU @ER (aC (T0.mono (by omega)) ah) ah ah [] ah ah ah ah ah (by rintro vs H Q E ⟨_,rfl,_⟩;rfl) N.TM) (b_ (k:=1) F6 EO [("is_whole",fk)] [] we [] [] [] [] oU @ER (aC (T0.mono (by omega)) ah) ah ah [] ah ah ah ah ah (by rintro vs H Q E ⟨_,rfl,_⟩;rfl) N.UD)),mg_of X G a6,F6.kp,B6⟩
 have F7:=cm (st:=ll) l7 c7 k7
 have B7:=i9 (ps:=Ea) F7 rfl fun _ _ _ _ _ _ _ _=>rfl
 have T7:bU l.prog w K mg base 3 "is_cursor" (d0 (N.iq) (N.lW)):=⟨_,_,_,(bS.or (b_ (k:=2) F7 ES [("is_between",fY),("is_goal",N.jH)] [] wg [] [] [] [] oV @ET (aC (T1.mono (by omega)) (aC ((T6.weak fun _ _ _ _ h=> (.inl h)).mono (by omega)) ah)) ah (aC jP (aC tL (aC gQ ah))) [] ah ah ah ah ah (by rintro vs H Q E ⟨_,_,_,_,_,rfl,_⟩;rfl) N.TN) (b_ (k:=2) F7 ES [("is_between",fY),("is_goal",d0 (N.jH) (N.qb))] [] wg [] [] [] [] oV @ET (aC (T1.mono (by omega)) (aC (T6.mono (by omega)) ah)) ah (aC jP (aC tL (aC gQ ah))) [] ah ah ah ah ah (by rintro vs H Q E ⟨_,_,rfl,_⟩;rfl) N.UE)),mg_of X G a7,F7.kp,B7⟩
 have F8:=cm (st:=lq) l8 c8 k8
 have B8:=tJ (ps:=Eb) F8 rfl fun _ _ _ _ _ _ _ _ _=>rfl
 have T8:bU l.prog w K mg base 2 "meet" (N.gM):=⟨_,_,_,(b_ (k:=1) F8 Rj [("begin_of",N.eI),("is_empty",N.pL)] [] Ec [] [] [] [] wk @Rk (aC (T2.mono (by omega)) (aC (T4.mono (by omega)) ah)) ah ah [] ah ah ah ah ah (by rintro vs H Q E ⟨_,_,_,_,_,_,rfl,_⟩;rfl) N.TX),mg_of X G a8,F8.kp,B8⟩
 have F9:=cm (st:=lr) l9 c9 k9
 have B9:=i9 (ps:=Ed) F9 rfl fun _ _ _ _ _ _ _ _=>rfl
 have T9:bU l.prog w K mg base 4 "need_cursors" (d0 (N.i5) (N.ny bF)):=⟨_,_,_,(bS.or (b_ (k:=3) F9 EU [("is_cursor",N.iq),("meet",N.gM),("begin_of",N.eI),("end_of",N.gL)] [("MOST_CURSORS", .int 40)] wm [] [] [("NoCursor",bF)] [] oW @EV (aC ((T7.weak fun _ _ _ _ h=> (.inl h)).mono (by omega)) (aC (T8.mono (by omega)) (aC (T2.mono (by omega)) (aC (T3.mono (by omega)) ah)))) (aC Hg ah) (aC jP (aC qo (aC gQ (aC Ha (aC Hb (aC Ao ah)))))) [] ah ah ah (aC Hi ah) ah (by rintro vs H Q E ⟨_,_,_,_,rfl,_⟩;rfl) N.Uv) (b_ (k:=3) F9 EU [("is_cursor",d0 (N.iq) (N.lW)),("meet",N.gM),("begin_of",N.eI),("end_of",N.gL)] [("MOST_CURSORS", .int 40)] wm [] [] [("NoCursor",bF)] [] oW @EV (aC (T7.mono (by omega)) (aC (T8.mono (by omega)) (aC (T2.mono (by omega)) (aC (T3.mono (by omega)) ah)))) (aC Hg ah) (aC jP (aC qo (aC gQ (aC Ha (aC Hb (aC Ao ah)))))) [] ah ah ah (aC Hi ah) ah (by rintro vs H Q E ⟨_,_,rfl,_⟩;rfl) N.UG)),mg_of X G a9,F9.kp,B9⟩
 have Ap:=cm (st:=lA) yX fq pG
 have Za:=fE (ps:=EA) Ap rfl fun _ _ _ _ _ _ _=>rfl
 have Zb:bU l.prog w K mg base 3 "gathered" (N.pW):=⟨_,_,_,(b_ (k:=2) Ap Rl [("begin_of",N.eI),("end_of",N.gL),("meet",N.gM)] [] EB [] [] [] [] wB @Rm (aC (T2.mono (by omega)) (aC (T3.mono (by omega)) (aC (T8.mono (by omega)) ah))) ah (aC Hf (aC Hc (aC gQ (aC qp ah)))) [] ah ah ah ah ah (by rintro vs H Q E ⟨_,_,_,rfl,_⟩;rfl) N.Ud),mg_of X G yW,Ap.kp,Za⟩
 have Aq:=cm (st:=lB) yZ fu pH
 have Zc:=i9 (ps:=EC) Aq rfl fun _ _ _ _ _ _ _ _=>rfl
 have Zd:bU l.prog w K mg base 2 "as_one" (N.pX):=⟨_,_,_,(b_ (k:=1) Aq Rn [("is_backward",N.pO)] [] ED [] [] [] [] wD @Ro (aC (T5.mono (by omega)) ah) ah (aC qq (aC gQ ah)) [] ah ah ah ah ah (by rintro vs H Q E ⟨_,_,_,_,_,_,rfl,_⟩;rfl) N.Ue),mg_of X G yY,Aq.kp,Zc⟩
 have Ar:=cm (st:=lE) y_ fA pI
 have Ze:=fE (ps:=EE) Ar rfl fun _ _ _ _ _ _ _=>rfl
 have Zf:bU l.prog w K mg base 4 "settled" (N.eL):=⟨_,_,_,(b_ (k:=3) Ar Rp [("gathered",N.pW),("as_one",N.pX)] [] EF [] [] [] [] wG @Rq (aC (Zb.mono (by omega)) (aC (Zd.mono (by omega)) ah)) ah ah [] ah ah ah ah ah (by rintro vs H Q E ⟨_,_,_,rfl,_⟩;rfl) N.Ug),mg_of X G y9,Ar.kp,Ze⟩
 have As:=cm (st:=lF) zb zc zd
 have Zg:=i9 (ps:=DS) As rfl fun _ _ _ _ _ _ _ _=>rfl
 have Hj:bU l.prog w K mg base 1 "_law_cell_at" (il K):=⟨_,_,_,(b_ (k:=0) As Rr [] [] DT [] [] [] [] vS @Rt ah ah (aC gQ ah) [] ah ah ah ah ah (by rintro vs H Q E ⟨_,_,_,rfl,_⟩;rfl) SY),mg_of X G za,As.kp,Zg⟩
 have Au:=cm (st:=lG) zf zg zh
 have Zh:=fE (ps:=EW) Au rfl fun _ _ _ _ _ _ _=>rfl
 have Zi:bU l.prog w K mg base 1 "_law_whole" (jC):=⟨_,_,_,(b_ (k:=0) Au Ru [] [] D1 [] [] [] [] vZ @Rv ah ah (aC jP (aC An (aC y_bool ah))) [] ah ah ah ah ah (by rintro vs H Q E ⟨_,rfl,_⟩;rfl) TB),mg_of X G ze,Au.kp,Zh⟩
 have Av:=cm (st:=lH) zj oK zk
 have Zj:=i9 (ps:=DU) Av rfl fun _ _ _ _ _ _ _ _=>rfl
 have tM:bU l.prog w K mg base 1 "_law_mixed" (eU):=⟨_,_,_,(b_ (k:=0) Av Rw [] [] DV [] [] [] [] vU @Rx ah ah ah [] ah ah ah ah ah (by rintro vs H Q E ⟨_,_,rfl,_⟩;rfl) S0),mg_of X G zi,Av.kp,Zj⟩
 have Aw:=cm (st:=lI) zm rP zo
 have Zk:=fE (ps:=DW) Aw rfl fun _ _ _ _ _ _ _=>rfl
 have Zl:bU l.prog w K mg base 1 "_law_size" (pA):=⟨_,_,_,(b_ (k:=0) Aw Ry [] [] DX [] [] [] [] vW @Rz ah ah ah [] ah ah ah ah ah (by rintro vs H Q E ⟨_,rfl,_⟩;rfl) S3),mg_of X G zl,Aw.kp,Zk⟩
 have Hk:=cm (st:=bR) zq zr zt
 have Zm:=fE (ps:=DY) Hk rfl fun _ _ _ _ _ _ _=>rfl
 have Zn:mZ l.prog w K mg base 1 "_law_word" (sL K [lY,lZ,l_,ma,me,mf,mh,bF,mi,mj,mm,mq,mr] i_):=Oe (k:=0) Hk RA (mg_of X G zp) Zm [("BadText", .ref lY),("BadChange", .ref lZ),("BadFit", .ref l_),("NoPlace", .ref ma),("BadSide", .ref me),("NoMark", .ref mf),("NoNode", .ref mh),("NoCursor", .ref bF),("BadDeed", .ref mi),("BadLetter", .ref mj),("NoLetter", .ref mm),("NoHand", .ref mq),("NoNote", .ref mr),("InkError", .ref i_)] ia cZ @RK (aC YX (aC YY (aC YZ (aC Y0 (aC Y1 (aC Y2 (aC Y3 (aC Y4 (aC Y5 (aC Y6 (aC Y7 (aC Y8 (aC Y9 (aC Hh ah)))))))))))))) (aC jP (aC YV ah)) (by rintro vs H Q E ⟨_,_,_,rfl,_⟩;rfl) Tj
 have Ax:=cm (st:=da) zv zw zx
 have Zo:=i9 (ps:=EG) Ax rfl fun _ _ _ _ _ _ _ _=>rfl
 have Zp:bU l.prog w K mg base 2 "_law_cursor" (N.qc):=⟨_,_,_,(b_ (k:=1) Ax RL [("_law_mixed",eU)] [] ng [] [] [] [] fj @RQ (aC (tM.mono (by omega)) ah) ah (aC qp (aC qq ah)) [] ah ah ah ah ah (by rintro vs H Q E ⟨_,_,rfl,_⟩;rfl) N.UI),mg_of X G zu,Ax.kp,Zo⟩
 have Ay:=cm (st:=lJ) zz zA zB
 have Zq:=tJ (ps:=EX) Ay rfl fun _ _ _ _ _ _ _ _ _=>rfl
 have Zr:bU l.prog w K mg base 3 "_law_drawn" (qh K):=⟨_,_,_,(b_ (k:=2) Ay RZ [("_law_cell_at",il K),("_law_cursor",N.qc),("_law_mixed",eU)] [] EY [] [] [] [] sG @R0 (aC (Hj.mono (by omega)) (aC (Zp.mono (by omega)) (aC (tM.mono (by omega)) ah))) ah (aC YW ah) [] ah ah ah ah ah (by rintro vs H Q E ⟨_,_,_,_,rfl,_⟩;rfl) UT),mg_of X G zy,Ay.kp,Zq⟩
 have Az:=cm (st:=cO) zD zE zF
 have Zs:=fE (ps:=EZ) Az rfl fun _ _ _ _ _ _ _=>rfl
 have Zt:bU l.prog w K mg base 1 "_law_settled" (N.eL):=⟨_,_,_,(b_ (k:=0) Az R1 [] [] kQ [] [] [] [] eS @R8 ah ah (aC Hf (aC Hc (aC qq (aC qp (aC gQ ah))))) [] ah ah ah ah ah (by rintro vs H Q E ⟨_,_,_,rfl,_⟩;rfl) N.Uo),mg_of X G zC,Az.kp,Zs⟩
 have AA:=cm (st:=lK) zH zI zJ
 have Zu:=i9 (ps:=EH) AA rfl fun _ _ _ _ _ _ _ _=>rfl
 have Zv:bU l.prog w K mg base 2 "_law_alike" (N.qd):=⟨_,_,_,(b_ (k:=1) AA R9 [("_law_whole",jC)] [] EI [] [] [] [] wI @R_ (aC (Zi.mono (by omega)) ah) ah (aC jP (aC qo (aC gQ (aC Ao (aC tL ah))))) [] ah ah ah ah ah (by rintro vs H Q E ⟨_,_,_,_,_,rfl,_⟩;rfl) N.UL),mg_of X G zG,AA.kp,Zu⟩
 have AB:=cm (st:=lL) zL zM zN
 have Zw:=i9 (ps:=E1) AB rfl fun _ _ _ _ _ _ _ _=>rfl
 have Hl:bU l.prog w K mg base 5 "_law_told" (iu):=⟨_,_,_,(b_ (k:=4) AB Sh [("need_cursors",d0 (N.i5) (N.ny bF))] [("InkError", .ref i_)] E2 [] [] [] [("_law_word",sL K [lY,lZ,l_,ma,me,mf,mh,bF,mi,mj,mm,mq,mr] i_)] wQ @Si (aC (T9.mono (by omega)) ah) (aC Hh ah) ah [] ah ah ah ah (aC (Zn.mono (by omega)) ah) (by rintro vs H Q E ⟨_,_,rfl,_⟩;rfl) (UY Y_ yV)),mg_of X G zK,AB.kp,Zw⟩
 have AD:=cm (st:=dc) zP zQ zR
 have Zx:=i9 (ps:=E3) AD rfl fun _ _ _ _ _ _ _ _=>rfl
 have Zy:bU l.prog w K mg base 2 "_law_odd" (qi):=⟨_,_,_,(b_ (k:=1) AD Sj [("_law_mixed",eU)] [] nh [] [] [] [] fV @So (aC (tM.mono (by omega)) ah) ah ah [] ah ah ah ah ah (by rintro vs H Q E ⟨_,_,rfl,_⟩;rfl) UW),mg_of X G zO,AD.kp,Zx⟩
 have AE:=cm (st:=bH) zT zU zV
 have Zz:=tJ (ps:=E4) AE rfl fun _ _ _ _ _ _ _ _ _=>rfl
 have ZA:bU l.prog w K mg base 6 "_law_refused" (qk):=⟨_,_,_,(b_ (k:=5) AE Sq [("_law_odd",qi),("_law_told",iu)] [] gF [] [] [] [] cL @SD (aC (Zy.mono (by omega)) (aC (Hl.mono (by omega)) ah)) ah (aC gQ (aC qq (aC qp (aC tL (aC qo (aC He ah)))))) [] ah ah ah ah ah (by rintro vs H Q E ⟨_,_,_,_,_,rfl,_⟩;rfl) Vg),mg_of X G zS,AE.kp,Zz⟩
 have Hm:=cm (st:=aV) zX oM zY
 have Z5:=fE (ps:=E5) Hm rfl fun _ _ _ _ _ _ _=>rfl
 exact bS.top (b_ (k:=6) Hm SE [("_law_size",pA),("_law_cell_at",il K),("_law_drawn",qh K),("_law_settled",N.eL),("settled",N.eL),("_law_alike",N.qd),("_law_told",iu),("_law_refused",qk),("_law_mixed",eU),("need_cursors",N.i5)] [] dH [] [] [] [] bq @SX (aC (Zl.mono (by omega)) (aC (Hj.mono (by omega)) (aC (Zr.mono (by omega)) (aC (Zt.mono (by omega)) (aC (Zf.mono (by omega)) (aC (Zv.mono (by omega)) (aC (Hl.mono (by omega)) (aC (ZA.mono (by omega)) (aC (tM.mono (by omega)) (aC ((T9.weak fun _ _ _ _ h=> (.inl h)).mono (by omega)) ah)))))))))) ah (aC qo (aC An (aC gQ (aC He ah)))) [] ah ah ah ah ah (by rintro vs H Q E ⟨_,_,rfl,_⟩;rfl) Vt)
theorem walk{l:PySem.W.OpenLaw}{q:Program}{loose:List Str}{XP:(Str→Option Value)→Heap→Prop}{YP:World→Heap→Prop}{d:DefRec}{K:Params→Frag}(hn:l.most=some 63)(n5:d.params.defaults=[])
  (hY: ∀(w:World) (h:Heap),YP w h→(K w.params).In h)
  (F: ∀(w:World) (mg:Str→Option Value) (fa:Addr) (h:Heap),(K w.params).In h→h.Ns mainGlobals mg→mg d.name=some (.ref fa)→
   ∃fd:FuncData,(∀(s:Shared) (u:Value),BindsTo s fd ⟨[u],[]⟩ [("_law_script",u)])∧ ∀base:Heap,(K w.params).In base→base.Ns mainGlobals mg→bS l.prog w (K w.params) mg base qY 7 fa fd ["_law_script"] ((fun K=> (fun vs H Q _=> (tG K) vs H Q E0)) (K w.params))):
  PySem.W.WalkO q loose XP YP l.row.toRowW d [] (fun f vs=>PySem.call f vs):=
 L2.Ko (n:=63) (k:=7) (x:="_law_script") (CX:=fun _=>qY) (sp:=fun w=> (fun K=> (fun vs H Q _=> (tG K) vs H Q E0)) (K w.params)) hn (by decide) n5 ⟨rfl,by decide,by decide⟩ hY F (fun _ _ a ns hl _ hS=> ⟨a,ns,rfl,hS,fun _=>rfl⟩) fun _ _ _ _ _ z=>z
end L2.kS
namespace PySem.W.Fast
def tw17090443884572391532:=()
def tw6389627199796096196:=()
def tw4879518059517237470:=()
def tw18330313539966424130:=()
def tw14722250557438848652:=()
def tw14644265725685281315:=()
def tw6830234833940724108:=()
def tw13522214857336505577:=()
def tw4937834295796413960:=()
def tw16593983874969905564:=()
def tw4021827043940165486:=()
def tw18446023442266238070:=()
def tw11546467504953280516:=()
def tw4130838318840476541:=()
def tw2795165915609675828:=()
def tw6504785598437604736:=()
def tw5337224892245916388:=()
def tw5130377454956038608:=()
def tw584329097666399234:=()
def tw14631501264990272127:=()
def tw11279624508022765666:=()
def tw332949482873667731:=()
def tw10319665590468307708:=()
def tw3831787156534137694:=()
def tw5842571946626395734:=()
def tw13201533121598614394:=()
def tw14495606252142401861:=()
def tw6237049373201253772:=()
def tw11622786440108562555:=()
def tw14315782121655141323:=()
def tw595601274296413546:=()
def tw15638961983224658218:=()
def tw5054666692156392698:=()
def tw80157782826791205:=()
def tw4061145017215184863:=()
def tw7057333668204626670:=()
def tw16298504822523269162:=()
def tw1879741750107438869:=()
def tw3224762059112669607:=()
def tw3580754898640088742:=()
def tw7116469628806175284:=()
def tw4304449809417805023:=()
def tw9802325762679530399:=()
def tw14913729712860260545:=()
def tw5123503690218555455:=()
def tw3927111976976778780:=()
def tw8637454930775875137:=()
def tw5315245807513292267:=()
def tw4686155530502322812:=()
def tw6098986875778149523:=()
def tw12573512095134595435:=()
def tw17593015829954693623:=()
def tw920067809640148771:=()
def tw17819036673162435483:=()
def tw2420228254908502026:=()
def tw622159507030455485:=()
def tw2898517361421707388:=()
def tw5839944659316326149:=()
def tw13984818304139036037:=()
def tw16839429778003558342:=()
def tw12244555456270925705:=()
def tw1839253220788262083:=()
def tw9649431782500290650:=()
def tw3883032637716109566:=()
def tw4494776605027696314:=()
def tw18198287557830271200:=()
def tw12400505764055621790:=()
def tw18055510041084556338:=()
def tw5947982385972838387:=()
def tw14350877083262404966:=()
def tw12733972569863749744:=()
def tw3228074266396445588:=()
def tw15651696418441064409:=()
def tw6063777909607781236:=()
def tw11022867240402814232:=()
def tw8672197987212141675:=()
def tw14297377533369800554:=()
def tw105567709905330418:=()
def tw15280303977878777077:=()
def tw17194648362517462760:=()
def tw7787780697097282724:=()
def tw241658609286683733:=()
def tw12347085806393132718:=()
def tw9071987796995463624:=()
def tw2808538056650890536:=()
def tw602360373634516518:=()
def tw17249351063635783514:=()
def tw3541831770117403954:=()
def tw9600481242931390085:=()
def tw17217246353950829427:=()
def tw6884295490976143626:=()
def tw3628653870913704306:=()
def tw14859486824014884387:=()
def tw17240757101579228645:=()
def tw5124156139769141215:=()
def tw1862799303756190562:=()
def tw14513586643888962003:=()
def tw10022086351237614142:=()
def tw3966209831673925231:=()
def tw16000135427543426963:=()
def tw16571694984295367011:=()
def tw7166320360123124597:=()
def tw5153050973274083096:=()
def tw4678413659803297749:=()
def tw10932882008263199589:=()
def tw12746288208556883278:=()
def tw4328111354720131270:=()
def tw5031612828932328612:=()
def tw8573381438546677003:=()
def tw2895012218039074618:=()
def tw16064477750027720608:=()
def tw13674440785709646833:=()
def tw16498171827632738145:=()
def tw2062198956382732379:=()
def tw16113399450043335538:=()
def tw7781835914791240433:=()
def tw862625079310117876:=()
def tw7475594613016160885:=()
def tw10459903504020114786:=()
def tw10419482453949284761:=()
def tw14497342292977152471:=()
def tw5764553653364873683:=()
end PySem.W.Fast
open PySem PySem.W PyProof.Rows
set_option maxRecDepth 100000 in
set_option maxHeartbeats 0 in
theorem PySem.Challenge.cw_inkloom_k28_cursors_settled_holds : PySem.Challenge.rw_inkloom_k28_cursors_settled.Holds := by
 w_on;o_law;k_head;(case hw=>w_witness2)
 k_fill
 refine L2.kS.walk (l:=PySem.Challenge.rw_inkloom_k28_cursors_settled) rfl rfl (fun w h Y=>PySem.W.kIn_of Y) ?F
 case F=>
  intro w mg fa h KX G iH
  refine' L2.kS.all_mk KX G iH ?yl ?ym ?yn ?yo ?yp ?yq ?yr ?yt ?tK ?yu ?yv ?yw ?yx ?yy ?yz ?yA ?yB ?yC ?yD ?yE ?yF ?yG ?yH ?yI ?yJ ?yK ?yL ?yM ?yN ?yO ?yP ?yQ ?yR ?yS ?yT ?yU ?yV ?e5 ?e6 ?a0 ?l0 ?c0 ?k0 ?a1 ?l1 ?c1 ?k1 ?a2 ?l2 ?c2 ?k2 ?a3 ?l3 ?c3 ?k3 ?a4 ?l4 ?c4 ?k4 ?a5 ?l5 ?c5 ?k5 ?a6 ?l6 ?c6 ?k6 ?a7 ?l7 ?c7 ?k7 ?a8 ?l8 ?c8 ?k8 ?a9 ?l9 ?c9 ?k9 ?yW ?yX ?fq ?pG ?yY ?yZ ?fu ?pH ?y9 ?y_ ?fA ?pI ?za ?zb ?zc ?zd ?ze ?zf ?zg ?zh ?zi ?zj ?oK ?zk ?zl ?zm ?rP ?zo ?zp ?zq ?zr ?zt ?zu ?zv ?zw ?zx ?zy ?zz ?zA ?zB ?zC ?zD ?zE ?zF ?zG ?zH ?zI ?zJ ?zK ?zL ?zM ?zN ?zO ?zP ?zQ ?zR ?zS ?zT ?zU ?zV ?zW ?zX ?oM ?zY ?zZ ?z0 ?z9 ?z_ ?Aa ?Ab ?Ac ?Ad ?Ae ?Af ?Ag ?Ah ?Ai ?Aj ?Ak ?Al ?Am
  (case yl=>k_is)
  (case ym=>k_is)
  (case yn=>k_is)
  (case yo=>k_is)
  (case yp=>k_is)
  (case yq=>k_is)
  (case yr=>k_is)
  (case yt=>k_is)
  (case tK=>k_is)
  (case yu=>k_is)
  (case yv=>k_is)
  (case yw=>k_is)
  (case yx=>k_is)
  (case yy=>k_is)
  (case yz=>k_exc)
  (case yA=>k_is)
  (case yB=>k_is)
  (case yC=>kernel_rfl)
  (case yD=>k_is)
  (case yE=>k_is)
  (case yF=>k_is)
  (case yG=>kernel_rfl)
  (case yH=>kernel_rfl)
  (case yI=>kernel_rfl)
  (case yJ=>kernel_rfl)
  (case yK=>kernel_rfl)
  (case yL=>kernel_rfl)
  (case yM=>kernel_rfl)
  (case yN=>kernel_rfl)
  (case yO=>kernel_rfl)
  (case yP=>kernel_rfl)
  (case yQ=>kernel_rfl)
  (case yR=>kernel_rfl)
  (case yS=>kernel_rfl)
  (case yT=>kernel_rfl)
  (case yU=>kernel_rfl)
  (case yV=>kernel_rfl)
  (case e5=>k_is)
  (case e6=>k_is)
  (case a0=>k_is)
  (case l0=>k_is)
  (case c0=>k_is)
  (case k0=>k_is)
  (case a1=>k_is)
  (case l1=>k_is)
  (case c1=>k_is)
  (case k1=>k_is)
  (case a2=>k_is)
  (case l2=>k_is)
  (case c2=>k_is)
  (case k2=>k_is)
  (case a3=>k_is)
  (case l3=>k_is)
  (case c3=>k_is)
  (case k3=>k_is)
  (case a4=>k_is)
  (case l4=>k_is)
  (case c4=>k_is)
  (case k4=>k_is)
  (case a5=>k_is)
  (case l5=>k_is)
  (case c5=>k_is)
  (case k5=>k_is)
  (case a6=>k_is)
  (case l6=>k_is)
  (case c6=>k_is)
  (case k6=>k_is)
  (case a7=>k_is)
  (case l7=>k_is)
  (case c7=>k_is)
  (case k7=>k_is)
  (case a8=>k_is)
  (case l8=>k_is)
  (case c8=>k_is)
  (case k8=>k_is)
  (case a9=>k_is)
  (case l9=>k_is)
  (case c9=>k_is)
  (case k9=>k_is)
  (case yW=>k_is)
  (case yX=>k_is)
  (case fq=>k_is)
  (case pG=>k_is)
  (case yY=>k_is)
  (case yZ=>k_is)
  (case fu=>k_is)
  (case pH=>k_is)
  (case y9=>k_is)
  (case y_=>k_is)
  (case fA=>k_is)
  (case pI=>k_is)
  (case za=>k_is)
  (case zb=>k_is)
  (case zc=>k_is)
  (case zd=>k_is)
  (case ze=>k_is)
  (case zf=>k_is)
  (case zg=>k_is)
  (case zh=>k_is)
  (case zi=>k_is)
  (case zj=>k_is)
  (case oK=>k_is)
  (case zk=>k_is)
  (case zl=>k_is)
  (case zm=>k_is)
  (case rP=>k_is)
  (case zo=>k_is)
  (case zp=>k_is)
  (case zq=>k_is)
  (case zr=>k_is)
  (case zt=>k_is)
  (case zu=>k_is)
  (case zv=>k_is)
  (case zw=>k_is)
  (case zx=>k_is)
  (case zy=>k_is)
  (case zz=>k_is)
  (case zA=>k_is)
  (case zB=>k_is)
  (case zC=>k_is)
  (case zD=>k_is)
  (case zE=>k_is)
  (case zF=>k_is)
  (case zG=>k_is)
  (case zH=>k_is)
  (case zI=>k_is)
  (case zJ=>k_is)
  (case zK=>k_is)
  (case zL=>k_is)
  (case zM=>k_is)
  (case zN=>k_is)
  (case zO=>k_is)
  (case zP=>k_is)
  (case zQ=>k_is)
  (case zR=>k_is)
  (case zS=>k_is)
  (case zT=>k_is)
  (case zU=>k_is)
  (case zV=>k_is)
  (case zW=>k_is)
  (case zX=>k_is)
  (case oM=>k_is)
  (case zY=>k_is)
  (case zZ=>k_is)
  (case z0=>k_is)
  (case z9=>k_is)
  (case z_=>k_is)
  (case Aa=>k_is)
  (case Ab=>k_is)
  (case Ac=>k_is)
  (case Ad=>k_is)
  (case Ae=>k_is)
  (case Af=>k_is)
  (case Ag=>k_is)
  (case Ah=>k_is)
  (case Ai=>k_is)
  (case Aj=>k_is)
  (case Ak=>k_is)
  (case Al=>k_is)
  (case Am=>k_is)
