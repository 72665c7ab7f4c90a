import PyProof.Rows.All
import Wide.All
import OpenK.AllK
import Wide.FinOn
import Lean
import PyProof.EqAt
import PyProof.EqKinds
import PyProof.TupleCall
import PyProof.Rows.EqDataRows
import PyProof.DictList
import PyProof.FactsAll.dict_1
import PyProof.FactsAll.subtypes_4
import KE.KTryMore
import PyProof.WalksEnum
import PyProof.EnumMake
import PyProof.ListStr
import PyProof.TupleOfStr
import PyProof.Dict
import PyProof.ToksMono
import PyProof.StrCalls6
import PyProof.StrWalks
import PyProof.ConsumeWalk
import PyProof.CallStr
import PyProof.MeetsStr
import KE.KIntText
import PyProof.StrCalls2
import PyProof.StrOps2
import PyProof.StrLawsIn
import PySem.Challenge.RW_inkloom_k16_lines_and_places
set_option Elab.async false
set_option linter.all false
set_option maxRecDepth 100000
set_option compiler.extract_closed false
noncomputable section
open PySem.W (callWith_K callWith_K0 cellsFrom_some codeIn emptyDict findIn fnOf handedIn hasDictIn hideAll hideAll_get instObj isFn keepIn kia_one kitOne kitx_dict kitx_list lookIn makesIn methodObj mg_none_of mroIn of_hideAll plainGet plainGet_of plainOver specialIn takerIn takesIn)
namespace L2
open PySem PySem.Spec PyProof.Rows
abbrev Key:=Sum Int Str
def mm:Key→Value→Bool
 | .inl k,v=>Value.isInt k v
 | .inr x,v=>Value.isStrOf x v
def NA(w:World):Key→Int
 | .inl k=>hashInt k
 | .inr x=>hashStr w x
theorem gU: ∀{k:Key} {v:Value},mm k v=true→(∃i t,k=Sum.inl i∧v=Value.int i t)∨(∃x t,k=Sum.inr x∧v=Value.str x t)
 | .inl i,v,h=>by
  obtain⟨t,e⟩:=Value.isInt_shape (k:=i) (v:=v) h
  exact .inl ⟨i,t,rfl,e⟩
 | .inr x,v,h=>by
  obtain⟨t,e⟩:=Value.isStrOf_shape (x:=x) (v:=v) h
  exact .inr ⟨x,t,rfl,e⟩
theorem NB(i:Int)(t:Tok):mm (.inl i) (.int i t)=true:=by simp[mm,Value.isInt]
theorem NC(x:Str)(t:Tok):mm (.inr x) (.str x t)=true:=by simp[mm,Value.isStrOf]
theorem ND(a b:Int):decide ((Sum.inl a:Key)=Sum.inl b)=(a==b):=by
 by_cases e:a=b
 ·subst e;simp
 ·have h: ¬(Sum.inl a:Key)=Sum.inl b:=fun q=>e (Sum.inl.inj q)
  rw[decide_eq_false h]
  exact(beq_eq_false_iff_ne.mpr e).symm
theorem NG(a b:Str):decide ((Sum.inr a:Key)=Sum.inr b)=decide (a=b):=by
 by_cases e:a=b
 ·subst e;simp
 ·have h: ¬(Sum.inr a:Key)=Sum.inr b:=fun q=>e (Sum.inr.inj q)
  rw[decide_eq_false h,decide_eq_false e]
theorem NH(a:Int)(b:Str):decide ((Sum.inl a:Key)=Sum.inr b)=false:=decide_eq_false (fun q=>nomatch q)
theorem NJ(a:Str)(b:Int):decide ((Sum.inr a:Key)=Sum.inl b)=false:=decide_eq_false (fun q=>nomatch q)
def f_(prog:Program)(w:World):PySem.KeyKind prog w Key where
 is:=mm
 hash:=NA w
 inj:=fun v a b ha hb=>by
  rcases gU ha with⟨i,t,rfl,rfl⟩ | ⟨x,t,rfl,rfl⟩
  ·rcases gU hb with⟨j,u,rfl,e⟩ | ⟨y,u,rfl,e⟩
   ·injection e with e1 _;rw[e1]
   ·exact nomatch e
  ·rcases gU hb with⟨j,u,rfl,e⟩ | ⟨y,u,rfl,e⟩
   ·exact nomatch e
   ·injection e with e1 _;rw[e1]
 byValue:=fun k v h=>by
  rcases gU h with⟨i,t,rfl,rfl⟩ | ⟨x,t,rfl,rfl⟩ <;>rfl
 pyHash:=fun hv h=>by
  rcases gU hv with⟨i,t,rfl,rfl⟩ | ⟨x,t,rfl,rfl⟩
  ·exact wpAny_pyHash_int h
  ·exact wpAny_pyHash_str h
 eqBool:=fun hu hv h=>by
  rcases gU hu with⟨i,t,rfl,rfl⟩ | ⟨x,t,rfl,rfl⟩
  ·rcases gU hv with⟨j,u,rfl,rfl⟩ | ⟨y,u,rfl,rfl⟩
   ·rw[ND] at h;exact wpAny_eqBool_int h
   ·rw[NH] at h;exact SeqAt.EqAt.int_str i t y u _ _ _ _ h
  ·rcases gU hv with⟨j,u,rfl,rfl⟩ | ⟨y,u,rfl,rfl⟩
   ·rw[NJ] at h;exact SeqAt.EqAt.str_int x t j u _ _ _ _ h
   ·rw[NG] at h;exact wpAny_eqBool_str h
 «strs»:=fun k x t v h=>by
  rcases gU h with⟨i,u,rfl,e⟩ | ⟨y,u,rfl,e⟩
  ·exact nomatch e
  ·injection e with e1 _
   subst e1
   cases v<;>rfl
theorem NK(prog:Program)(w:World)(i:Int)(t:Tok):(f_ prog w).is (.inl i) (.int i t)=true:=NB i t
theorem NL(prog:Program)(w:World)(x:Str)(t:Tok):(f_ prog w).is (.inr x) (.str x t)=true:=NC x t
inductive V where
 | ax | bl (b:Bool) | int (i:Int) | str (x:Str) | dv (b:Array UInt8) | iI (b:UInt64) | ref (a:Addr) | ty (n:String)
 deriving DecidableEq
def RelV:V→Value→Prop
 | .ax,u=>u=Value.none
 | .bl b,u=>u=Value.bool b
 | .int i,u=> ∃t,u=Value.int i t
 | .str x,u=> ∃t,u=Value.str x t
 | .dv b,u=> ∃t,u=Value.bytes b t
 | .iI b,u=> ∃t,u=Value.float b t
 | .ref a,u=>u=Value.ref a
 | .ty n,u=>u=Value.type n
abbrev Vals:List V→List Value→Prop:=Paired RelV
theorem Vals.length{xs:List V}{us:List Value}(r:Vals xs us):xs.length=us.length:=Paired.length r
theorem Vals.get: ∀{xs:List V} {us:List Value} {i:Nat} {x:V},Vals xs us→xs[i]?=some x→ ∃u,us[i]?=some u∧RelV x u
 | _,_,_,_, .nil,e=>by simp at e
 | _,_,0,_, .cons r _,e=>by simp at e;subst e;exact⟨_,rfl,r⟩
 | _,_,i+1,x, .cons _ t,e=>by
  obtain⟨u,h1,h2⟩:=Vals.get (i:=i) (x:=x) t (by simpa using e)
  exact⟨u,by simpa using h1,h2⟩
theorem Vals.set{x:V}{u:Value}(r:RelV x u): ∀{xs:List V} {us:List Value} (i:Nat),Vals xs us→Vals (xs.set i x) (us.set i u)
 | _,_,_, .nil=> .nil
 | _,_,0, .cons _ t=> .cons r t
 | _,_,i+1, .cons q t=> .cons q (Vals.set r i t)
theorem Vals.append: ∀{xs ys:List V} {us ws:List Value},Vals xs us→Vals ys ws→Vals (xs++ys) (us++ws)
 | _,_,_,_, .nil,s=>s
 | _,_,_,_, .cons r t,s=> .cons r (Vals.append t s)
theorem Vals.take: ∀{xs:List V} {us:List Value} (n:Nat),Vals xs us→Vals (xs.take n) (us.take n)
 | _,_,0,_=> .nil
 | _,_,_+1, .nil=> .nil
 | _,_,n+1, .cons r t=> .cons r (Vals.take n t)
theorem Vals.drop: ∀{xs:List V} {us:List Value} (n:Nat),Vals xs us→Vals (xs.drop n) (us.drop n)
 | _,_,0,r=>r
 | _,_,_+1, .nil=> .nil
 | _,_,n+1, .cons _ t=>Vals.drop n t
def gb:Option V→Option Value→Prop
 | some v,some u=>RelV v u
 | none,none=>True
 | _,_=>False
def KV{κ:Type}:List (κ×V)→List (κ×Value)→Prop:=Paired fun(p:κ×V) (q:κ×Value)=>p.1=q.1∧RelV p.2 q.2
def kV:Key→V
 | .inl i=> .int i
 | .inr x=> .str x
inductive HO where
 | lst (xs:List V)
 | tup (xs:List V)
 | dK (aM:List (Key×V)) | dT (aM:List (List Key×V))
 | set (S:Int→Bool) (n:Nat)
 | ins (C dx:Addr) (fs:List (Str×V))
 | own (x:Addr)
 | xd (fs:List (Str×V))
 | met (f x:Addr)
 | dY (lo hi:Int)
 | bT (o:Obj) (u:HO)
 | gc (ps:Array Value)
 | ext (φ:Heap→Prop)
abbrev Hp:=Addr→Option HO
def upd(H:Hp)(a:Addr)(o:HO):Hp:=fun b=>if b=a then some o else H b
theorem aS{H:Hp}{a:Addr}{o:HO}:upd H a o a=some o:=by unfold upd;rw[if_pos rfl]
theorem aN{H:Hp}{a b:Addr}{o:HO}(h:b≠a):upd H a o b=H b:=by unfold upd;rw[if_neg h]
theorem ub{H:Hp}{a b:Addr}{o u:HO}(h:H a=some o)(h':H b=some u)(d:o≠u):a≠b:=by
 intro e;subst e;rw[h] at h';exact d (Option.some.inj h')
theorem bW{H:Hp}{a b:Addr}{o:HO}(h:H a=some o)(h':H b=none):a≠b:=by
 intro e;subst e;rw[h] at h';cases h'
section
variable (P:Program) (w:World)
def cu(H:Hp)(h:Heap)(a:Addr):HO→Prop
 | .lst xs=>xs.length≤sizeLine∧ ∃(its:List Value) (n:Nat),Vals xs its∧h.get? a=some {cls:= .type "list",data:= .seq its.toArray n}
 | .tup xs=>xs.length≤sizeLine∧ ∃its:List Value,Vals xs its∧IsTup h a its.toArray
 | .dK aM=>aM.length≤sizeLine∧(a==sysModules)=false∧ ∃vs,KV aM vs∧h.DictOf (f_ P w) a vs
 | .dT aM=>aM.length≤sizeLine∧(a==sysModules)=false∧ ∃xs:List (List Key×Addr×Value),
   Paired (fun(p:List Key×V) (q:List Key×Addr×Value)=>p.1=q.1∧H q.2.1=some (.tup (p.1.map kV))∧RelV p.2 q.2.2) aM xs∧
   ∃o es ep,h.get? a=some o∧o.ExactDict∧o.data= .dict es ep∧es.toList=xs.map (entryOfKey (tupleKind (f_ P w)))∧(xs.map (·.1)).Nodup
 | .set S n=>h.SetOf (intKind P w) a S n
 | .ins C dx fs=>H dx=some (.own a)∧fs.length≤1000∧dx≠a∧h.get? a=some (instObj C dx)∧
   ∃mA,h.Ns1 dx mA∧(∀f,gb (fs.lookup f) (mA f))∧PySem.Within mA (fs.map (·.1))
 | .own _=> ∃o,h.get? a=some o
 | .xd fs=> ∃mA,h.Ns1 a mA∧ ∀f,gb (fs.lookup f) (mA f)
 | .dY lo hi=> ∃t u v,h.get? a=some {cls:= .type "range",data:= .fields #[.int lo t, .int hi u, .int 1 v]}
 | .bT o u=>h.get? a=some o∧cu H h a u
 | .gc ps=>h.get? a=some {cls:= .none,data:= .fields ps}
 | .met f x=>h.get? a=some (methodObj (.ref f) (.ref x))
 | .ext φ=>φ h∧(∃o,h.get? a=some o)∧ ∀h1 h2:Heap,φ h1→(∀o,h1.get? a=some o→h2.get? a=some o)→φ h2
def b_(H:Hp)(h:Heap):Prop:= ∀a o,H a=some o→cu P w H h a o
end
section
variable {P:Program} {w:World} {H H':Hp} {h h':Heap} {a:Addr} {o:HO}
theorem cu.lt(x:cu P w H h a o):a<h.objs.size:=by
 cases o with
 | lst xs=>obtain⟨_,_,_,_,e⟩:=x;exact Heap.lt_size e
 | tup xs=>obtain⟨_,_,_,p⟩:=x;exact p.lt
 | dK aM=>obtain⟨_,_,_,_,o,_,_,e,_⟩:=x;exact Heap.lt_size e
 | dT aM=>obtain⟨_,_,_,_,o,_,_,e,_⟩:=x;exact Heap.lt_size e
 | set S n=>obtain⟨o,_,_,_,e,_⟩:=x;exact Heap.lt_size e
 | ins C dx fs=>obtain⟨_,_,_,e,_⟩:=x;exact Heap.lt_size e
 | own y=>obtain⟨_,e⟩:=x;exact Heap.lt_size e
 | xd fs=>obtain⟨_,⟨_,_,_,e,_⟩,_⟩:=x;exact Heap.lt_size e
 | dY lo hi=>obtain⟨_,_,_,e⟩:=x;exact Heap.lt_size e
 | bT ob u=>obtain⟨e,_⟩:=x;exact Heap.lt_size e
 | gc ps=>exact Heap.lt_size (show h.get? a=some _ from x)
 | met f y=>exact Heap.lt_size (show h.get? a=some _ from x)
 | ext φ=>obtain⟨_,⟨_,e⟩,_⟩:=x;exact Heap.lt_size e
theorem Paired.EH{α β:Type}{F G:α→β→Prop}: ∀{l₁:List α} {l₂:List β},Paired F l₁ l₂→(∀a b,F a b→G a b)→Paired G l₁ l₂
 | _,_, .nil,_=> .nil
 | _,_, .cons r t,f=> .cons (f _ _ r) (Paired.EH t f)
theorem cu.gW(x:cu P w H h a o)(k: ∀b u,(b=a∨H b=some (.own a))→h.get? b=some u→h'.get? b=some u)
  (ho: ∀b,H b=some (.own a)→H' b=some (.own a)) (ht: ∀b xs,H b=some (.tup xs)→H' b=some (.tup xs)):cu P w H' h' a o:=by
 induction o with
 | lst xs=>obtain⟨z,its,n,r,e⟩:=x;exact⟨z,its,n,r,k _ _ (.inl rfl) e⟩
 | tup xs=>obtain⟨z,its,r,ob,e,c⟩:=x;exact⟨z,its,r,ob,k _ _ (.inl rfl) e,c⟩
 | dK aM=>obtain⟨z,y,vs,r,ob,es,ep,e,c⟩:=x;exact⟨z,y,vs,r,ob,es,ep,k _ _ (.inl rfl) e,c⟩
 | dT aM=>
  obtain⟨z,y,xs,r,ob,es,ep,e,c⟩:=x
  exact⟨z,y,xs,Paired.EH r fun p q z=> ⟨z.1,ht _ _ z.2.1,z.2.2⟩,ob,es,ep,k _ _ (.inl rfl) e,c⟩
 | set S n=>obtain⟨ob,es,ep,t,e,c⟩:=x;exact⟨ob,es,ep,t,k _ _ (.inl rfl) e,c⟩
 | ins C dx fs=>
  obtain⟨d,z,ne,e,mA,⟨od,es,ep,e2,c⟩,r⟩:=x
  exact⟨ho _ d,z,ne,k _ _ (.inl rfl) e,mA,⟨od,es,ep,k _ _ (.inr d) e2,c⟩,r⟩
 | own y=>obtain⟨ob,e⟩:=x;exact⟨ob,k _ _ (.inl rfl) e⟩
 | xd fs=>obtain⟨mA,⟨od,es,ep,e,c⟩,r⟩:=x;exact⟨mA,⟨od,es,ep,k _ _ (.inl rfl) e,c⟩,r⟩
 | dY lo hi=>obtain⟨t,u,v,e⟩:=x;exact⟨t,u,v,k _ _ (.inl rfl) e⟩
 | bT ob u ih=>obtain⟨e,q⟩:=x;exact⟨k _ _ (.inl rfl) e,ih q⟩
 | gc ps=>
  have e:h.get? a=some {cls:= .none,data:= .fields ps}:=x
  show h'.get? a=some {cls:= .none,data:= .fields ps}
  exact k a _ (.inl rfl) e
 | met f y=>
  have e:h.get? a=some (methodObj (.ref f) (.ref y)):=x
  show h'.get? a=some (methodObj (.ref f) (.ref y))
  exact k a _ (.inl rfl) e
 | ext φ=>obtain⟨p,⟨o,e⟩,st⟩:=x;exact⟨st _ _ p fun o q=>k _ _ (.inl rfl) q,⟨o,k _ _ (.inl rfl) e⟩,st⟩
theorem b_.lt(x:b_ P w H h)(e:H a=some o):a<h.objs.size:=(x a o e).lt
theorem b_.fresh(x:b_ P w H h)(e:h.objs.size≤a):H a=none:=by
 cases q:H a with
 | none=>rfl
 | some u=>exact absurd (Nat.lt_of_lt_of_le (x.lt q) e) (Nat.lt_irrefl _)
theorem b_.kept(x:b_ P w H h)(k: ∀b u,h.get? b=some u→h'.get? b=some u):b_ P w H h':=fun a o e=>
 (x a o e).gW (fun b u _ q=>k b u q) (fun _ q=>q) fun _ _ q=>q
theorem b_.laid(x:b_ P w H h)(k: ∀b u,h.get? b=some u→h'.get? b=some u)(hp:h.objs.size≤a)(new:cu P w (upd H a o) h' a o):b_ P w (upd H a o) h':=fun b u e=>by
 have hn:=x.fresh hp
 by_cases hb:b=a
 ·subst hb;rw[aS] at e;cases e;exact new
 ·rw[aN hb] at e
  exact(x b u e).gW (fun c v _ q=>k c v q) (fun c q=>by rw[aN (bW q hn)];exact q) fun c xs q=>by rw[aN (bW q hn)];exact q
end
def Rd(H:Hp)(a:Addr)(u:HO):Prop:=H a=some u∨ ∃o,H a=some (.bT o u)
theorem Rd.ok{P:Program}{w:World}{H:Hp}{h:Heap}{a:Addr}{u:HO}(r:Rd H a u)(x:b_ P w H h):cu P w H h a u:=by
 rcases r with r | ⟨o,r⟩
 ·exact x a u r
 ·obtain⟨_,q⟩:=x a _ r
  exact q
def pL:Option HO→Prop
 | some (.lst _)=>True
 | some (.dK _)=>True
 | some (.dT _)=>True
 | some (.set _ _)=>True
 | some (.ins _ _ _)=>True
 | some (.ext _)=>True
 | _=>False
section
variable {P:Program} {w:World} {H:Hp} {h h':Heap} {x e:Addr} {o':HO}
theorem b_.write(ok:b_ P w H h)(mu:pL (H x))(he:e=x∨H e=some (.own x))(k: ∀b u,b≠e→h.get? b=some u→h'.get? b=some u)(mq: ∃u,h'.get? e=some u)
  (new:cu P w (upd H x o') h' x o'):b_ P w (upd H x o') h':=fun b u q=>by
 have EI: ∀c y,H c=some (.own y)→c≠x:=fun c y r z=>by subst z;rw[r] at mu;exact mu
 have NM: ∀c xs,H c=some (.tup xs)→c≠x:=fun c xs r z=>by subst z;rw[r] at mu;exact mu
 by_cases hb:b=x
 ·subst hb;rw[aS] at q;cases q;exact new
 ·rw[aN hb] at q
  by_cases jt:b=e
  ·have q':H b=some (.own x):=by
    rcases he with z | z
    ·exact absurd (jt.trans z) hb
    ·rw[jt];exact z
   rw[q] at q';cases q'
   obtain⟨v,hv⟩:=mq
   exact⟨v,by rw[jt];exact hv⟩
  ·refine(ok b u q).gW (fun c v hc r=>k c v ?_ r) (fun c r=>by rw[aN (EI c b r)];exact r) fun c xs r=>by rw[aN (NM c xs r)];exact r
   rcases hc with rfl | hc
   ·exact jt
   ·rintro rfl
    rcases he with z | z
    ·exact EI c b hc z
    ·rw[hc] at z;cases z;exact hb rfl
end
structure Un (fs ex:List Addr) (H H':Hp) (h h':Heap):Prop where
 keep: ∀b o,h.get? b=some o→H b=none→b∉fs→b∉ex→h'.get? b=some o
 slot: ∀b o,h.get? b=some o→H b=none→b∈fs→b∉ex→ ∃sl,h'.get? b=some {o with slots:=sl}
 free: ∀b o,h.get? b=some o→H b=none→b∉ex→H' b=none
 there: ∀b o,h.get? b=some o→b∉ex→ ∃o',h'.get? b=some o'
 cC: ∀b xs,H b=some (.tup xs)→H' b=some (.tup xs)
 ej: ∀b o u,H b=some (.bT o u)→H' b=some (.bT o u)
 eJ: ∀b ps,H b=some (.gc ps)→ ∃more,H' b=some (.gc (ps++more))
section
variable {fs NN ex ex':List Addr} {H H1 H2:Hp} {h h1 h2 h':Heap} {a x e:Addr} {o:HO}
theorem Un.any(u:Un fs ex H H1 h h1){b:Addr}{ob:Obj}(q:h.get? b=some ob)(n:H b=none)(hx:b∉ex): ∃sl,h1.get? b=some {ob with slots:=sl}:=by
 by_cases hb:b∈fs
 ·exact u.slot b ob q n hb hx
 ·exact⟨ob.slots,u.keep b ob q n hb hx⟩
theorem Un.kept(k: ∀b u,h.get? b=some u→h'.get? b=some u):Un fs ex H H h h':=
 ⟨fun b ob q _ _ _=>k b ob q,fun b ob q _ _ _=> ⟨ob.slots,k b ob q⟩,fun _ _ _ n _=>n,fun b ob q _=> ⟨ob,k b ob q⟩,fun _ _ q=>q,fun _ _ _ q=>q,fun _ ps q=> ⟨#[],by rw[q];simp⟩⟩
theorem Un.refl:Un fs ex H H h h:=Un.kept fun _ _ q=>q
theorem Un.laid(k: ∀b u,h.get? b=some u→h'.get? b=some u)(hp:h.objs.size≤a)(hn:H a=none):Un fs ex H (upd H a o) h h' where
 keep:=fun b u q _ _ _=>k b u q
 slot:=fun b u q _ _ _=> ⟨u.slots,k b u q⟩
 free:=fun b u q n _=>by rw[aN (Nat.ne_of_lt (Nat.lt_of_lt_of_le (Heap.lt_size q) hp))];exact n
 there:=fun b u q _=> ⟨u,k b u q⟩
 cC:=fun b xs q=>by rw[aN (bW q hn)];exact q
 ej:=fun b u xs q=>by rw[aN (bW q hn)];exact q
 eJ:=fun b ps q=> ⟨#[],by rw[aN (bW q hn),q];simp⟩
theorem Un.write(mu:pL (H x))(he:e=x∨H e=some (.own x))(k: ∀b u,b≠e→h.get? b=some u→h'.get? b=some u)(mq: ∃u,h'.get? e=some u):Un fs ex H (upd H x o) h h':=by
 have hx: ∀b,H b=none→b≠x:=fun b n z=>by subst z;rw[n] at mu;exact mu
 have hb: ∀b,H b=none→b≠e:=fun b n z=>by
  subst z
  rcases he with r | r
  ·exact hx b n r
  ·rw[n] at r;cases r
 have hm: ∀b u,H b=some u→ ¬pL (some u)→b≠x:=fun b u q nm z=>by subst z;rw[q] at mu;exact nm mu
 refine⟨fun b u q n _ _=>k b u (hb b n) q,fun b u q n _ _=> ⟨u.slots,k b u (hb b n) q⟩,fun b u q n _=>by rw[aN (hx b n)];exact n,fun b u q _=> ?_,
  fun b xs q=>by rw[aN (hm b _ q fun z=>z)];exact q,fun b u xs q=>by rw[aN (hm b _ q fun z=>z)];exact q,fun b ps q=> ⟨#[],by rw[aN (hm b _ q fun z=>z),q];simp⟩⟩
 by_cases jt:b=e
 ·subst jt;exact mq
 ·exact⟨u,k b u jt q⟩
end
def ju(h:Heap)(H:Hp):List Addr:=(List.range h.objs.size).filter fun a=> (H a).isSome
def gX(h:Heap)(H:Hp):Heap:=hideAll h (ju h H)
theorem NO(h:Heap)(H:Hp):(gX h H).objs.size=h.objs.size:=PySem.W.hideAll_size _ _
theorem NP{h:Heap}{H:Hp}{b:Addr}{o:Obj}(e:h.get? b=some o)(n:H b=none):(gX h H).get? b=some o:=
 hideAll_get _ e fun hm=>by
  have q:(H b).isSome=true:=(List.mem_filter.mp hm).2
  rw[n] at q;simp at q
theorem NQ{h:Heap}{H:Hp}{b:Addr}{o:Obj}(e:(gX h H).get? b=some o):h.get? b=some o∧H b=none:=by
 have e':h.get? b=some o:=of_hideAll (ju h H) e
 refine⟨e', ?_⟩
 cases q:H b with
 | none=>rfl
 | some x=>
  have hm:b∈ju h H:=List.mem_filter.mpr ⟨List.mem_range.mpr (Heap.lt_size e'),by simp[q]⟩
  have z:(gX h H).get? b=none:=PySem.W.hideAll_none (ju h H) hm
  rw[z] at e;cases e
structure Mod (K:PySem.W.Frag) (mg:Str→Option Value) (base:Heap):Prop where
 nk:K.In base
 glob:base.Ns mainGlobals mg
 blt: ∃mb,base.Ns builtinsNs mb∧ ∀x:Str,x≠"__name__"→mb x=bootBuiltins x
 nolimit:base.NoLimit
structure Cx where
 prog:Program
 w:World
 K:PySem.W.Frag
 mg:Str→Option Value
 base:Heap
 A:Around
 N:List Str
 s₀:Shared
 H₀:Hp
 env:Env
 outer:List Env
 stack:List Env
 ex:List Addr
 fn:Str→Bool
 calm:Bool
 pn:List (Addr×Obj)
 xe:Value→Shared→Prop
def bX(l:List Env):List Addr:=l.filterMap (·.frame)
abbrev Cx.fs(X:Cx):List Addr:=bX X.outer
def pM(sc:Scope)(x:Str):Prop:=sc.names.lookup x=some .local∨sc.names.lookup x=some .cell∨sc.names.lookup x=some .free
def Loc(sc:Scope)(x:Str):Prop:=sc.names.lookup x=some .local∨sc.names.lookup x=some .cell
def Look(env:Env)(h:Heap)(m:Str→Option Value)(x:Str)(u:Value):Prop:=
 (env.kindOf x=some .local∧m x=some u)∨((env.kindOf x=some .cell∨env.kindOf x=some .free)∧ ∃c,env.cells.lookup x=some c∧h.IsCell c (some u))
structure Cx.Ok (X:Cx):Prop where
 mod:Mod X.K X.mg X.base
 kind:X.env.scope.kind= .function
 glob:X.env.globals=mainGlobals
 blt:X.env.builtins=builtinsNs
 above:X.s₀.heap.objs.size≤X.env.locals
 inj: ∀x y c,X.env.cells.lookup x=some c→X.env.cells.lookup y=some c→x=y
 has: ∀x,(X.env.kindOf x=some .cell∨X.env.kindOf x=some .free)→ ∃c,X.env.cells.lookup x=some c
 uc: ∀x c,X.fn x=true→X.env.cells.lookup x=some c→X.s₀.heap.objs.size≤c
 hd:X.calm=true→X.A.handled=none
 frames:X.A.frames=some X.stack
 nq:X.stack=X.outer∨(X.stack=X.env::X.outer∧X.env.frame=some X.env.locals)
 exf: ∀b∈X.ex,b≠X.env.locals∧ ∀x c,X.env.cells.lookup x=some c→c≠b
 bs: ∀b o,X.base.get? b=some o→X.s₀.heap.get? b=some o∧X.H₀ b=none
 mr:X.base.objs.size≤X.s₀.heap.objs.size
 ud: ∀b o,X.base.get? b=some o→b∉X.ex
 ue: ∀b∈X.ex,b∉X.fs
 gd:X.s₀.heap.FunFrames X.base X.outer
 nu: ∀b∈X.fs,X.H₀ b=none
structure Inv (X:Cx) (pins:List (Addr×Obj)) (σ:List (Option V)) (H:Hp) (s:Shared):Prop where
 ok:X.Ok
 os:s.os=X.s₀.os
 bare:AllBare s.gens
 base:Un X.fs X.ex X.H₀ H X.s₀.heap s.heap
 loc: ∃m,s.heap.Ns X.env.locals m∧ ∀(i:Nat) (x:Str) (v:V),X.N[i]?=some x→σ[i]?=some (some v)→pM X.env.scope x→ ∃u,RelV v u∧Look X.env s.heap m x u
 cell: ∀x c,X.env.cells.lookup x=some c→ ∃v,s.heap.IsCell c v
 free:H X.env.locals=none
 gY: ∀x c,X.env.cells.lookup x=some c→H c=none
 pin: ∀p∈X.pn++pins,s.heap.get? p.1=some p.2∧H p.1=none∧p.1≠X.env.locals∧p.1∉X.fs∧ ∀v,p.2.data≠ .cell v
 aI:b_ X.prog X.w H s.heap
 len:σ.length=X.N.length
section
variable {X:Cx} {pins:List (Addr×Obj)} {σ:List (Option V)} {H H':Hp} {s:Shared} {h':Heap}
theorem Cx.Ok.NR(ok:X.Ok){b:Addr}{o:Obj}(e:X.base.get? b=some o):b∉X.fs:=fun hb=>by
 have:=(ok.gd.mem hb).1
 rw[e] at this;cases this
theorem Inv.bs(I:Inv X pins σ H s): ∀b o,X.base.get? b=some o→s.heap.get? b=some o∧H b=none:=fun b o e=>
 ⟨I.base.keep b o (I.ok.bs b o e).1 (I.ok.bs b o e).2 (I.ok.NR e) (I.ok.ud b o e),I.base.free b o (I.ok.bs b o e).1 (I.ok.bs b o e).2 (I.ok.ud b o e)⟩
theorem Inv.bk(I:Inv X pins σ H s): ∀b o,X.base.get? b=some o→s.heap.get? b=some o:=fun b o e=> (I.bs b o e).1
theorem Inv.mod(I:Inv X pins σ H s):Mod X.K X.mg X.base:=I.ok.mod
theorem Inv.cj(I:Inv X pins σ H s):X.K.In s.heap:=I.ok.mod.nk.keeps I.bk
theorem Inv.lt(I:Inv X pins σ H s):X.env.locals<s.heap.objs.size:=let ⟨_,hn,_⟩:=I.loc;hn.lt
theorem Inv.sz(I:Inv X pins σ H s):X.s₀.heap.objs.size≤s.heap.objs.size:=Nat.le_trans I.ok.above (Nat.le_of_lt I.lt)
theorem Inv.EJ(I:Inv X pins σ H s){a:Addr}(h:s.heap.objs.size≤a):a∉X.fs:=fun hb=>by
 obtain⟨_,o,ho,_⟩:=I.ok.gd.mem hb
 exact absurd (Nat.lt_of_lt_of_le (Heap.lt_size ho) (Nat.le_trans I.sz h)) (Nat.lt_irrefl _)
theorem Inv.jv(I:Inv X pins σ H s): ∀x c,X.env.cells.lookup x=some c→c≠X.env.locals:=fun x c e z=>by
 obtain⟨v,o,ho,hd⟩:=I.cell x c e
 obtain⟨m,⟨o',es,ep,dZ,uf,_⟩,_⟩:=I.loc
 rw[z,dZ] at ho;cases ho;rw[uf] at hd;cases hd
theorem Inv.gd(I:Inv X pins σ H s):s.heap.FunFrames X.base X.outer:=by
 have all: ∀(l:List Env),(∀b∈bX l,b∈X.fs)→X.s₀.heap.FunFrames X.base l→s.heap.FunFrames X.base l:=by
  intro l
  induction l with
  | nil=>intro _ _;trivial
  | cons env r ih=>
   intro hs hl
   obtain⟨hk,⟨L,o,hf,hn,ho,hd⟩,hr⟩:=hl
   have hL:L∈X.fs:=hs L (by unfold bX;rw[List.filterMap_cons,hf];exact List.mem_cons_self)
   obtain⟨sl,e⟩:=I.base.slot L o ho (I.ok.nu L hL) hL fun z=>I.ok.ue L z hL
   exact⟨hk,⟨L,_,hf,hn,e,hd⟩,ih (fun b hb=>hs b (by unfold bX;rw[List.filterMap_cons,hf];exact List.mem_cons_of_mem _ hb)) hr⟩
 exact all X.outer (fun _ hb=>hb) I.ok.gd
theorem Inv.stack(I:Inv X pins σ H s):s.heap.FunFrames X.base X.stack:=by
 rcases I.ok.nq with e | ⟨e,hf⟩
 ·rw[e];exact I.gd
 ·rw[e]
  obtain⟨m,hn,_⟩:=I.loc
  refine .cons (by rw[I.ok.kind];decide) hf hn ?_ I.gd
  exact Heap.get?_none_of_le (Nat.le_trans I.ok.mr I.ok.above)
theorem Inv.pN(I:Inv X pins σ H s): ∀b∈bX X.stack,b∈X.env.locals::X.fs:=fun b hb=>by
 rcases I.ok.nq with e | ⟨e,hf⟩
 ·rw[e] at hb;exact List.mem_cons_of_mem _ hb
 ·rw[e] at hb
  unfold bX at hb
  rw[List.filterMap_cons,hf] at hb
  exact hb
theorem Inv.pO(I:Inv X pins σ H s): ∀b∈bX X.stack,H b=none:=fun b hb=>by
 rcases List.mem_cons.mp (I.pN b hb) with e | hb
 ·rw[e];exact I.free
 ·obtain⟨_,o,ho,_⟩:=I.ok.gd.mem hb
  exact I.base.free b o ho (I.ok.nu b hb) fun z=>I.ok.ue b z hb
theorem Inv.step{g':Array GenState}{t':Nat}{d':Drawn}{ch:List Addr}(I:Inv X pins σ H s)
  (dh: ∀b∈ch,(b∈X.ex∨X.s₀.heap.objs.size≤b)∧b≠X.env.locals∧(∀x c,X.env.cells.lookup x=some c→c≠b)∧ ∀p∈X.pn++pins,p.1≠b)
  (keep: ∀b o,b≠X.env.locals→b∉X.fs→b∉ch→s.heap.get? b=some o→H b=none→h'.get? b=some o)
  (slot: ∀b o,b≠X.env.locals→b∈X.fs→b∉ch→s.heap.get? b=some o→H b=none→ ∃sl,h'.get? b=some {o with slots:=sl}) (free: ∀b o,b∉ch→s.heap.get? b=some o→H b=none→H' b=none)
  (there: ∀b o,b∉ch→s.heap.get? b=some o→ ∃o',h'.get? b=some o')
  (cC: ∀b xs,H b=some (.tup xs)→H' b=some (.tup xs)) (ej: ∀b o u,H b=some (.bT o u)→H' b=some (.bT o u)) (eJ: ∀b ps,H b=some (.gc ps)→ ∃more,H' b=some (.gc (ps++more)))
  (ns: ∀m,s.heap.Ns X.env.locals m→h'.Ns X.env.locals m) (aI:b_ X.prog X.w H' h') (hg:AllBare g'):
  Inv X pins σ H' {s with heap:=h',gens:=g',drawn:=d',toks:=t'}:=by
 have EK: ∀b o,X.s₀.heap.get? b=some o→b≠X.env.locals:=fun b o e=>Nat.ne_of_lt (Nat.lt_of_lt_of_le (Heap.lt_size e) I.ok.above)
 have pP: ∀b o,X.s₀.heap.get? b=some o→b∉X.ex→b∉ch:=fun b o e hx hb=>by
  rcases (dh b hb).1 with z | z
  ·exact hx z
  ·exact absurd (Nat.lt_of_lt_of_le (Heap.lt_size e) z) (Nat.lt_irrefl _)
 have cellK: ∀x c,X.env.cells.lookup x=some c→ ∀v,s.heap.IsCell c v→h'.IsCell c v:=fun x c e v ⟨o,ho,hd⟩=>by
  have nv:c∉ch:=fun z=> (dh c z).2.2.1 x c e rfl
  by_cases hc:c∈X.fs
  ·obtain⟨sl,q⟩:=slot c o (I.jv x c e) hc nv ho (I.gY x c e)
   exact⟨_,q,hd⟩
  ·exact⟨o,keep c o (I.jv x c e) hc nv ho (I.gY x c e),hd⟩
 refine⟨I.ok,I.os,hg,⟨fun b o e n hb hx=> ?_,fun b o e n hb hx=> ?_,fun b o e n hx=> ?_,fun b o e hx=> ?_,fun b xs e=>cC b xs (I.base.cC b xs e),fun b o xs e=>ej b o xs (I.base.ej b o xs e),fun b ps e=> ?_⟩, ?_,fun x c e=> ?_, ?_,fun x c e=> ?_,fun p hp=> ?_,aI,I.len⟩
 ·exact keep b o (EK b o e) hb (pP b o e hx) (I.base.keep b o e n hb hx) (I.base.free b o e n hx)
 ·obtain⟨sl,e1⟩:=I.base.slot b o e n hb hx
  obtain⟨NS,e2⟩:=slot b _ (EK b o e) hb (pP b o e hx) e1 (I.base.free b o e n hx)
  exact⟨NS,e2⟩
 ·obtain⟨o',e1⟩:=I.base.there b o e hx
  exact free b o' (pP b o e hx) e1 (I.base.free b o e n hx)
 ·obtain⟨o',e1⟩:=I.base.there b o e hx
  exact there b o' (pP b o e hx) e1
 ·obtain⟨m1,e1⟩:=I.base.eJ b ps e
  obtain⟨m2,e2⟩:=eJ b _ e1
  exact⟨m1++m2,by rw[e2,Array.append_assoc]⟩
 ·obtain⟨m,hn,hl⟩:=I.loc
  refine⟨m,ns m hn,fun i x v e1 e2 e3=> ?_⟩
  obtain⟨u,r,l⟩:=hl i x v e1 e2 e3
  refine⟨u,r, ?_⟩
  rcases l with l | ⟨k,c,e,z⟩
  ·exact .inl l
  ·exact .inr ⟨k,c,e,cellK x c e _ z⟩
 ·obtain⟨v,z⟩:=I.cell x c e
  exact⟨v,cellK x c e v z⟩
 ·obtain⟨m,⟨o,_,_,ho,_⟩,_⟩:=I.loc
  exact free _ o (fun z=> (dh _ z).2.1 rfl) ho I.free
 ·obtain⟨v,o,ho,hd⟩:=I.cell x c e
  exact free c o (fun z=> (dh c z).2.2.1 x c e rfl) ho (I.gY x c e)
 ·obtain⟨e,n,ne,nf,d⟩:=I.pin p hp
  have nv:p.1∉ch:=fun z=> (dh p.1 z).2.2.2 p hp rfl
  exact⟨keep p.1 p.2 ne nf nv e n,free p.1 p.2 nv e n,ne,nf,d⟩
theorem Inv.un{t':Nat}(I:Inv X pins σ H s)(u:Un X.fs [] H H' s.heap h')(aI:b_ X.prog X.w H' h'):Inv X pins σ H' {s with heap:=h',toks:=t'}:=by
 obtain⟨m,⟨o,es,ep,ho,r⟩,_⟩:=id I.loc
 obtain⟨sl,hL⟩:=u.any ho I.free (by simp)
 exact I.step (g':=s.gens) (d':=s.drawn) (ch:=[]) (fun _ z=>nomatch z) (fun b o _ hb _ e n=>u.keep b o e n hb (by simp)) (fun b o _ hb _ e n=>u.slot b o e n hb (by simp)) (fun b o _ e n=>u.free b o e n (by simp)) (fun b o _ e=>u.there b o e (by simp)) u.cC u.ej u.eJ (fun m' hm=>by
  obtain⟨o',ug,ui,dZ,r'⟩:=hm
  rw[ho] at dZ;cases dZ
  exact⟨_,ug,ui,hL,r'⟩) aI I.bare
theorem Inv.call{g':Array GenState}{t':Nat}{d':Drawn}{ch:List Addr}(I:Inv X pins σ H s)(u:Un (bX X.stack) ch H H' s.heap h')(aI:b_ X.prog X.w H' h')(hg:AllBare g')
  (dh: ∀b∈ch,(b∈X.ex∨X.s₀.heap.objs.size≤b)∧b≠X.env.locals∧(∀x c,X.env.cells.lookup x=some c→c≠b)∧ ∀p∈X.pn++pins,p.1≠b):
  Inv X pins σ H' {s with heap:=h',gens:=g',drawn:=d',toks:=t'}:=by
 obtain⟨m,⟨o,es,ep,ho,r⟩,_⟩:=id I.loc
 obtain⟨sl,hL⟩:=u.any ho I.free fun z=> (dh _ z).2.1 rfl
 exact I.step (ch:=ch) dh (fun b o hL hb hc e n=>u.keep b o e n (fun z=> (List.mem_cons.mp (I.pN b z)).elim hL hb) hc) (fun b o _ _ hc e n=>u.any e n hc) (fun b o hc e n=>u.free b o e n hc) (fun b o hc e=>u.there b o e hc) u.cC u.ej u.eJ (fun m' hm=>by
  obtain⟨o',ug,ui,dZ,r'⟩:=hm
  rw[ho] at dZ;cases dZ
  exact⟨_,ug,ui,hL,r'⟩) aI hg
theorem Inv.turned{t':Nat}{it:Addr}(I:Inv X pins σ H s)(k: ∀b o,b≠it→s.heap.get? b=some o→h'.get? b=some o)(hn:H it=none)(hL:it≠X.env.locals)
  (h1:it∈X.ex∨X.s₀.heap.objs.size≤it) (h2: ∀x c,X.env.cells.lookup x=some c→c≠it) (h3: ∀p∈X.pn++pins,p.1≠it):Inv X pins σ H {s with heap:=h',toks:=t'}:=by
 have EL: ∀b u,H b=some u→b≠it:=fun b u e z=>by rw[z,hn] at e;cases e
 refine I.step (g':=s.gens) (d':=s.drawn) (ch:=[it]) (fun b hb=> ?_) (fun b o _ _ hc e _=>k b o (fun z=>hc (by simp[z])) e) (fun b o _ _ hc e _=> ⟨o.slots,k b o (fun z=>hc (by simp[z])) e⟩) (fun _ _ _ _ n=>n)
  (fun b o hc e=> ⟨o,k b o (fun z=>hc (by simp[z])) e⟩) (fun _ _ e=>e) (fun _ _ _ e=>e) (fun b ps e=> ⟨#[],by rw[e];simp⟩) (fun m hm=> ?_) (fun b u e=> ?_) I.bare
 ·have e:b=it:=by simpa using hb
  subst e
  exact⟨h1,hL,h2,h3⟩
 ·obtain⟨o,es,ep,ho,r⟩:=hm
  exact⟨o,es,ep,k _ o (Ne.symm hL) ho,r⟩
 ·refine(I.aI b u e).gW (fun c v hc q=>k c v ?_ q) (fun _ q=>q) fun _ _ q=>q
  rcases hc with z | z
  ·rw[z];exact EL b u e
  ·exact EL c _ z
theorem Inv.tok(I:Inv X pins σ H s)(t:Nat):Inv X pins σ H {s with toks:=t}:=I.un (h':=s.heap) (t':=t) Un.refl I.aI
theorem Inv.kept{t':Nat}(I:Inv X pins σ H s)(k: ∀b u,s.heap.get? b=some u→h'.get? b=some u):Inv X pins σ H {s with heap:=h',toks:=t'}:=I.un (Un.kept k) (I.aI.kept k)
theorem Inv.laid{a:Addr}{o:HO}{t':Nat}(I:Inv X pins σ H s)(k: ∀b u,s.heap.get? b=some u→h'.get? b=some u)(hp:s.heap.objs.size≤a)(new:cu X.prog X.w (upd H a o) h' a o):
  Inv X pins σ (upd H a o) {s with heap:=h',toks:=t'}:=I.un (Un.laid k hp (I.aI.fresh hp)) (I.aI.laid k hp new)
theorem Inv.write{x e:Addr}{o:HO}{t':Nat}(I:Inv X pins σ H s)(mu:pL (H x))(he:e=x∨H e=some (.own x))(k: ∀b u,b≠e→s.heap.get? b=some u→h'.get? b=some u)(mq: ∃u,h'.get? e=some u)
  (new:cu X.prog X.w (upd H x o) h' x o):Inv X pins σ (upd H x o) {s with heap:=h',toks:=t'}:=I.un (Un.write mu he k mq) (I.aI.write mu he k mq new)
theorem Inv.mv{uj:List (Addr×Obj)}(I:Inv X pins σ H s)(h: ∀p∈uj,s.heap.get? p.1=some p.2∧H p.1=none∧p.1≠X.env.locals∧p.1∉X.fs∧ ∀v,p.2.data≠ .cell v):Inv X uj σ H s:=
 ⟨I.ok,I.os,I.bare,I.base,I.loc,I.cell,I.free,I.gY,fun p hp=> (List.mem_append.mp hp).elim (fun z=>I.pin p (List.mem_append_left _ z)) (h p),I.aI,I.len⟩
theorem EM{N:List Str}(hN:N.Nodup){i j:Nat}{x:Str}(a:N[i]?=some x)(b:N[j]?=some x):i=j:=by
 obtain⟨h1,e1⟩:=List.getElem?_eq_some_iff.mp a
 obtain⟨h2,e2⟩:=List.getElem?_eq_some_iff.mp b
 exact(List.getElem_inj hN).mp (e1.trans e2.symm)
theorem NT{M:Model}{A:Around}{E:Value→Shared→Prop}{i:Nat}{x:Str}{v:V}{u:Value}{Q:Unit→Shared→Prop}(I:Inv X pins σ H s)(hN:X.N.Nodup)(hi:X.N[i]?=some x)(hx:Loc X.env.scope x)(r:RelV v u)
  (h: ∀s',Inv X pins (σ.set i (some v)) H s'→(∃a,Heap.SameBut a s.heap s'.heap∧(a=X.env.locals∨X.env.cells.lookup x=some a))→Q () s') (hf:X.fn x=true∨X.env.scope.names.lookup x=some .local:=by first | exact .inl rfl | exact .inr rfl | assumption):wpAny M A (storeName X.env x u) Q E s:=by
 obtain⟨m,hn,hl⟩:=id I.loc
 have NU:(X.env.scope.kind== .class || (X.env.scope.kind== .module && X.env.locals !=X.env.globals))=false:=by rw[I.ok.kind];rfl
 have EN:i<σ.length:=by rw[I.len];exact(List.getElem?_eq_some_iff.mp hi).1
 have jv:=I.jv
 have tracked: ∀{a:Addr} {h':Heap},(∃o,s.heap.get? a=some o∧H a=none)→Heap.SameBut a s.heap h'→b_ X.prog X.w H h':=fun {a h'} ha hs b ob e=>by
  obtain⟨_,_,EO⟩:=ha
  refine(I.aI b ob e).gW (fun c w' hc q=> (hs.2 c ?_).trans q) (fun _ q=>q) fun _ _ q=>q
  rintro rfl
  rcases hc with rfl | hc
  ·rw[EO] at e;cases e
  ·rw[EO] at hc;cases hc
 rcases hx with hk | hk
 ·refine wpAny_storeName_local hk hn (fun h' NV hs=> ?_) NU
  obtain⟨oL,_,_,NW,_⟩:=id hn
  refine h _ ⟨I.ok,I.os,I.bare,⟨fun b o e n hb hx=> ?_,fun b o e n hb hx=> ?_,I.base.free,fun b o e hx=> ?_,I.base.cC,I.base.ej,I.base.eJ⟩,⟨_,NV,fun j y v' e1 e2 e3=> ?_⟩,fun y c e=> ?_,I.free,I.gY,fun p hp=> ?_,tracked ⟨oL,NW,I.free⟩ hs,by simpa using I.len⟩ ⟨_,hs, .inl rfl⟩
  ·exact(hs.2 b (Nat.ne_of_lt (Nat.lt_of_lt_of_le (Heap.lt_size e) I.ok.above))).trans (I.base.keep b o e n hb hx)
  ·obtain⟨sl,e1⟩:=I.base.slot b o e n hb hx
   exact⟨sl,(hs.2 b (Nat.ne_of_lt (Nat.lt_of_lt_of_le (Heap.lt_size e) I.ok.above))).trans e1⟩
  ·obtain⟨o',e1⟩:=I.base.there b o e hx
   exact⟨o',(hs.2 b (Nat.ne_of_lt (Nat.lt_of_lt_of_le (Heap.lt_size e) I.ok.above))).trans e1⟩
  ·by_cases hj:j=i
   ·subst hj
    rw[hi] at e1;cases e1
    rw[List.getElem?_set_self EN] at e2
    cases e2
    exact⟨u,r, .inl ⟨hk,by simp⟩⟩
   ·rw[List.getElem?_set_ne (Ne.symm hj)] at e2
    obtain⟨u',r',q⟩:=hl j y v' e1 e2 e3
    refine⟨u',r', ?_⟩
    rcases q with⟨k,e⟩ | ⟨k,c,e,z⟩
    ·refine .inl ⟨k, ?_⟩
     have:y≠x:=fun e=>hj (EM hN e1 (e ▸ hi))
     simp[this,e]
    ·exact .inr ⟨k,c,e,z.sameBut hs (jv y c e)⟩
  ·obtain⟨w',z⟩:=I.cell y c e
   exact⟨w',z.sameBut hs (jv y c e)⟩
  ·obtain⟨e,n,ne,nf,d⟩:=I.pin p hp
   exact⟨(hs.2 p.1 ne).trans e,n,ne,nf,d⟩
 ·have uk:X.fn x=true:=by
   rcases hf with z | z
   ·exact z
   ·rw[z] at hk;cases hk
  obtain⟨c,hc⟩:=I.ok.has x (.inl hk)
  obtain⟨w',z⟩:=I.cell x c hc
  refine wpAny_storeName_cell I.ok.kind hk hc z (fun h' da hs=> ?_)
  obtain⟨oc,ER,NY⟩:=id z
  refine h {s with heap:=h'} ⟨I.ok,I.os,I.bare,⟨fun b o e n hb hx=> ?_,fun b o e n hb hx=> ?_,I.base.free,fun b o e hx=> ?_,I.base.cC,I.base.ej,I.base.eJ⟩,⟨m,hn.sameBut hs (Ne.symm (jv x c hc)),fun j y v' e1 e2 e3=> ?_⟩,fun y c' e=> ?_,I.free,I.gY,fun p hp=> ?_,tracked ⟨oc,ER,I.gY x c hc⟩ hs,by simpa using I.len⟩ ⟨c,hs, .inr hc⟩
  ·exact(hs.2 b (Nat.ne_of_lt (Nat.lt_of_lt_of_le (Heap.lt_size e) (I.ok.uc x c uk hc)))).trans (I.base.keep b o e n hb hx)
  ·obtain⟨sl,e1⟩:=I.base.slot b o e n hb hx
   exact⟨sl,(hs.2 b (Nat.ne_of_lt (Nat.lt_of_lt_of_le (Heap.lt_size e) (I.ok.uc x c uk hc)))).trans e1⟩
  ·obtain⟨o',e1⟩:=I.base.there b o e hx
   exact⟨o',(hs.2 b (Nat.ne_of_lt (Nat.lt_of_lt_of_le (Heap.lt_size e) (I.ok.uc x c uk hc)))).trans e1⟩
  ·by_cases hj:j=i
   ·subst hj
    rw[hi] at e1;cases e1
    rw[List.getElem?_set_self EN] at e2
    cases e2
    exact⟨u,r, .inr ⟨.inl hk,c,hc,da⟩⟩
   ·rw[List.getElem?_set_ne (Ne.symm hj)] at e2
    obtain⟨u',r',q⟩:=hl j y v' e1 e2 e3
    refine⟨u',r', ?_⟩
    rcases q with q | ⟨k,c',e,z'⟩
    ·exact .inl q
    ·refine .inr ⟨k,c',e,z'.sameBut hs ?_⟩
     rintro rfl
     exact hj (EM hN e1 (I.ok.inj _ _ _ e hc ▸ hi))
  ·by_cases ES:c'=c
   ·subst ES;exact⟨_,da⟩
   ·obtain⟨w2,z2⟩:=I.cell y c' e
    exact⟨w2,z2.sameBut hs ES⟩
  ·obtain⟨e,n,ne,nf,d⟩:=I.pin p hp
   refine⟨(hs.2 p.1 ?_).trans e,n,ne,nf,d⟩
   intro q
   rw[q,ER] at e
   have q':oc=p.2:=Option.some.inj e
   exact d w' (by rw[←q'];exact NY)
theorem ET{M:Model}{A:Around}{E:Value→Shared→Prop}{i:Nat}{x:Str}{v:V}{u:Value}{Q:Unit→Shared→Prop}(I:Inv X pins σ H s)(hN:X.N.Nodup)(hi:X.N[i]?=some x)(hx:Loc X.env.scope x)(r:RelV v u)
  (h: ∀s',Inv X pins (σ.set i (some v)) H s'→Q () s') (hf:X.fn x=true∨X.env.scope.names.lookup x=some .local:=by first | exact .inl rfl | exact .inr rfl | assumption):wpAny M A (storeName X.env x u) Q E s:=
 NT I hN hi hx r (fun s' I' _=>h s' I') hf
theorem Inv.NZ{s':Shared}{ch:List Addr}(I:Inv X pins σ H s)(ho:s'.os=s.os)(u:Un (bX X.stack) ch H H' s.heap s'.heap)(aI:b_ X.prog X.w H' s'.heap)(hg:AllBare s'.gens)
  (dh: ∀b∈ch,(b∈X.ex∨X.s₀.heap.objs.size≤b)∧b≠X.env.locals∧(∀x c,X.env.cells.lookup x=some c→c≠b)∧ ∀p∈X.pn++pins,p.1≠b):Inv X pins σ H' s':=by
 obtain⟨h',g',d',t',o'⟩:=s'
 have e:o'=s.os:=ho
 subst e
 exact I.call (g':=g') (t':=t') (d':=d') u aI hg dh
end
abbrev XK:=Value→Option Addr→Hp→Prop
abbrev St:=List (Option V)
abbrev VK:=V→Hp→Prop
abbrev TE:=St→Hp→VK→Prop
abbrev TT:=St→Hp→(Bool→Hp→Prop)→Prop
abbrev TA:=St→Hp→(List V→Hp→Prop)→Prop
structure Ends where
 nx:St→Hp→Prop
 rt:VK
 bk:St→Hp→Prop:=fun _ _=>False
 ct:St→Hp→Prop:=fun _ _=>False
abbrev TS:=Ends→St→Hp→Prop
def EP(X:Cx)(pins:List (Addr×Obj))(σ:St)(Q:VK)(u:Value)(s':Shared):Prop:= ∃v H',Inv X pins σ H' s'∧RelV v u∧Q v H'
def TP(X:Cx)(pins:List (Addr×Obj))(σ:St)(Q:Bool→Hp→Prop)(b:Bool)(s':Shared):Prop:= ∃H',Inv X pins σ H' s'∧Q b H'
def AP(X:Cx)(pins:List (Addr×Obj))(σ:St)(Q:List V→Hp→Prop)(us:List Value)(s':Shared):Prop:= ∃vs H',Inv X pins σ H' s'∧Vals vs us∧Q vs H'
def SP(X:Cx)(pins:List (Addr×Obj))(D:Ends)(f:Flow)(s':Shared):Prop:=
 match f with
 | .next=> ∃σ' H',Inv X pins σ' H' s'∧D.nx σ' H'
 | .brk=> ∃σ' H',Inv X pins σ' H' s'∧D.bk σ' H'
 | .cont=> ∃σ' H',Inv X pins σ' H' s'∧D.ct σ' H'
 | .ret u=> ∃v σ' H',Inv X pins σ' H' s'∧RelV v u∧D.rt v H'
def PE(X:Cx)(e:Expr)(t:TE):Prop:=
 ∀(pins:List (Addr×Obj)) (s:Shared) (σ:St) (H:Hp) (Q:VK),Inv X pins σ H s→t σ H Q→wpAny (model X.prog X.w) X.A (eval e X.env) (EP X pins σ Q) X.xe s
def PT(X:Cx)(e:Expr)(t:TT):Prop:=
 ∀(pins:List (Addr×Obj)) (s:Shared) (σ:St) (H:Hp) (Q:Bool→Hp→Prop),Inv X pins σ H s→t σ H Q→wpAny (model X.prog X.w) X.A (isTrue e X.env (eval e X.env)) (TP X pins σ Q) X.xe s
def PW(X:Cx)(e:Expr)(t:TT):Prop:=
 ∀(whole:Sem Value) (pins:List (Addr×Obj)) (s:Shared) (σ:St) (H:Hp) (Q:Bool→Hp→Prop),Inv X pins σ H s→t σ H Q→wpAny (model X.prog X.w) X.A (isTrue e X.env whole) (TP X pins σ Q) X.xe s
theorem PW.pt{X:Cx}{e:Expr}{t:TT}(h:PW X e t):PT X e t:=h _
def PA(X:Cx)(es:List Expr)(t:TA):Prop:=
 ∀(pos:Pos) (pins:List (Addr×Obj)) (s:Shared) (σ:St) (H:Hp) (Q:List V→Hp→Prop),Inv X pins σ H s→t σ H Q→wpAny (model X.prog X.w) X.A (spliced (backTo pos (starEach es X.env))) (AP X pins σ Q) X.xe s
def PS(X:Cx)(st:Stmt)(t:TS):Prop:=
 ∀(pins:List (Addr×Obj)) (s:Shared) (σ:St) (H:Hp) (D:Ends),Inv X pins σ H s→t D σ H→wpAny (model X.prog X.w) X.A (exec st X.env) (SP X pins D) X.xe s
def aY(X:Cx)(st:List Stmt)(t:TS):Prop:=
 ∀(pins:List (Addr×Obj)) (s:Shared) (σ:St) (H:Hp) (D:Ends),Inv X pins σ H s→t D σ H→wpAny (model X.prog X.w) X.A (execs st X.env) (SP X pins D) X.xe s
theorem aW{α:Type}{t:Sem α}{Q Q':α→Shared→Prop}{M:Model}{A:Around}{E:Value→Shared→Prop}{s:Shared}(h:wpAny M A t Q E s)(hQ: ∀a s,Q a s→Q' a s):wpAny M A t Q' E s:=wpAny_mono h hQ fun _ _ x=>x
section
variable {X:Cx}
def um(i:Nat):TE:=fun σ H Q=> ∃v,σ[i]?=some (some v)∧Q v H
def tC(v:V):TE:=fun _ H Q=>Q v H
theorem N0{i:Nat}{x:Str}{pos:Pos}(hN:X.N[i]?=some x)(hv:pM X.env.scope x)(hd:(x==("__debug__":Str))=false:=by decide)(fF:(x==("__classdict__":Str))=false:=by decide):PE X (.Name x pos) (um i):=by
 intro pins s σ H Q I h
 obtain⟨v,e,h⟩:=h
 obtain⟨m,hn,hl⟩:=I.loc
 obtain⟨u,r,l⟩:=hl i x v hN e hv
 have fin:EP X pins σ Q u s:=⟨v,H,I,r,h⟩
 rcases l with⟨hk,hm⟩ | ⟨hk,c,hc,EU⟩
 ·exact wpAny_Name (wpAny_loadName_local I.ok.kind hk hn hm fin) hd
 ·rcases hk with hk | hk
  ·exact wpAny_Name (wpAny_loadName_cell I.ok.kind hk hc EU fin) hd
  ·exact wpAny_Name (wpAny_loadName_free I.ok.kind hk hc EU fin fF) hd
theorem N1{i j pos}:PE X (.Constant (.int i) j pos) (tC (.int i)):=fun _ _ _ H _ I h=>wpAny_Constant_int ⟨.int i,H,I.tok _,⟨_,rfl⟩,h⟩
theorem N2{b j pos}:PE X (.Constant (.bool b) j pos) (tC (.bl b)):=fun _ _ _ H _ I h=>Constant_bool ⟨.bl b,H,I,rfl,h⟩
theorem N3{j pos}:PE X (.Constant .none j pos) (tC .ax):=fun _ _ _ H _ I h=>Constant_none ⟨.ax,H,I,rfl,h⟩
theorem N4{x j pos}:PE X (.Constant (.str x) j pos) (tC (.str x)):=fun _ _ _ H _ I h=>Calls.Constant_str ⟨.str x,H,I.tok _,⟨_,rfl⟩,h⟩
def Gl(X:Cx)(x:Str):Prop:=X.env.kindOf x=some .globalImplicit
theorem pQ{E:Value→Shared→Prop}{pins:List (Addr×Obj)}{s:Shared}{σ:St}{H:Hp}{x:Str}{u:Value}{pos:Pos}{Q:Value→Shared→Prop}(I:Inv X pins σ H s)(hg:Gl X x)(hm:X.mg x=some u)(h:Q u s)
  (hd:(x==("__debug__":Str))=false:=by decide):wpAny (model X.prog X.w) X.A (eval (.Name x pos) X.env) Q E s:=
 Calls.Name_function_global I.ok.kind hg (Calls.loadGlobal_global (by rw[I.ok.glob];exact I.mod.glob.keeps I.bk) hm h) hd
theorem ny{E:Value→Shared→Prop}{pins:List (Addr×Obj)}{s:Shared}{σ:St}{H:Hp}{x:Str}{u:Value}{pos:Pos}{Q:Value→Shared→Prop}(I:Inv X pins σ H s)(hg:Gl X x)(hm:X.mg x=none)(hv:bootBuiltins x=some u)(h:Q u s)
  (hn:x≠"__name__":=by decide) (hd:(x==("__debug__":Str))=false:=by decide):wpAny (model X.prog X.w) X.A (eval (.Name x pos) X.env) Q E s:=by
 obtain⟨mb,h1,h2⟩:=I.mod.blt
 exact Calls.Name_function_global I.ok.kind hg (Calls.loadGlobal_builtin (by rw[I.ok.glob];exact I.mod.glob.keeps I.bk) hm (by rw[I.ok.blt];exact h1.keeps I.bk) ((h2 x hn).trans hv) h) hd
theorem EV{x:Str}{v:V}{u:Value}{pos:Pos}(hg:Gl X x)(hm:X.mg x=some u)(r:RelV v u)(hd:(x==("__debug__":Str))=false:=by decide):PE X (.Name x pos) (tC v):=
 fun _ _ _ H _ I h=>pQ I hg hm ⟨v,H,I,r,h⟩ hd
theorem N5{x:Str}{v:V}{u:Value}{pos:Pos}(hg:Gl X x)(hm:X.mg x=none)(hv:bootBuiltins x=some u)(r:RelV v u)(hn:x≠"__name__":=by decide)(hd:(x==("__debug__":Str))=false:=by decide):PE X (.Name x pos) (tC v):=
 fun _ _ _ H _ I h=>ny I hg hm hv ⟨v,H,I,r,h⟩ hn hd
variable {a b:Expr} {ta tb:TE} {pos:Pos}
def tB(t:TE):TT:=fun σ H Q=>t σ H fun x H1=> ∃c,x= .bl c∧Q c H1
variable {tA pR:TT} {rest:List Expr}
def EW(t u:TT):TT:=fun σ H Q=>t σ H fun c H1=>if c=true then u σ H1 Q else Q false H1
def EX(t u:TT):TT:=fun σ H Q=>t σ H fun c H1=>if c=true then Q true H1 else u σ H1 Q
def EY(t:TT):TT:=fun σ H Q=>t σ H fun c H1=>Q (!c) H1
theorem pw_and1(ha:PT X a tA):PW X (.BoolOp .And [a] pos) tA:=by
 intro wh pins s σ H Q I h
 refine isTrue_and (aW (ha pins s σ H Q I h) fun c s1 e=> ?_)
 cases c with
 | true=>exact isTrue_and_nil e
 | false=>exact e
theorem pw_or1(ha:PT X a tA):PW X (.BoolOp .Or [a] pos) tA:=by
 intro wh pins s σ H Q I h
 refine isTrue_or (aW (ha pins s σ H Q I h) fun c s1 e=> ?_)
 cases c with
 | false=>exact isTrue_or_nil e
 | true=>exact e
theorem pw_and(ha:PT X a tA)(hb:PW X (.BoolOp .And (b::rest) pos) pR):PW X (.BoolOp .And (a::b::rest) pos) (EW tA pR):=by
 intro wh pins s σ H Q I h
 refine isTrue_and (aW (ha pins s σ H _ I h) fun c s1 ⟨H1,I1,q1⟩=> ?_)
 cases c with
 | true=>exact hb wh pins s1 σ H1 Q I1 q1
 | false=>exact⟨H1,I1,q1⟩
theorem pw_or(ha:PT X a tA)(hb:PW X (.BoolOp .Or (b::rest) pos) pR):PW X (.BoolOp .Or (a::b::rest) pos) (EX tA pR):=by
 intro wh pins s σ H Q I h
 refine isTrue_or (aW (ha pins s σ H _ I h) fun c s1 ⟨H1,I1,q1⟩=> ?_)
 cases c with
 | true=>exact⟨H1,I1,q1⟩
 | false=>exact hb wh pins s1 σ H1 Q I1 q1
theorem N6(ha:PT X a tA):PT X (.UnaryOp .Not a pos) (EY tA):=by
 intro pins s σ H Q I h
 exact isTrue_not (ha pins s σ H (fun c H1=>Q (!c) H1) I h)
def EZ(ta tb:TE):TE:=fun σ H Q=>ta σ H fun x H1=> ∃c,x= .bl c∧if c=true then tb σ H1 Q else Q (.bl false) H1
def N7(ta tb:TE):TE:=fun σ H Q=>ta σ H fun x H1=> ∃c,x= .bl c∧if c=true then Q (.bl true) H1 else tb σ H1 Q
theorem N8{op}{t:TE}(h:PE X a t):PE X (.BoolOp op [a] pos) t:=fun pins s σ H Q I hw=>BoolOp_one (h pins s σ H Q I hw)
theorem N9(ha:PE X a ta)(hb:PE X (.BoolOp .And (b::rest) pos) tb):PE X (.BoolOp .And (a::b::rest) pos) (EZ ta tb):=by
 intro pins s σ H Q I h
 refine BoolOp_and (aW (ha pins s σ H _ I h) fun v s1 ⟨x,H1,I1,r1,q1⟩=> ?_)
 obtain⟨c,rfl,q1⟩:=q1
 cases r1
 refine wpAny_truthy_bool ?_
 cases c with
 | true=>exact hb pins s1 σ H1 Q I1 q1
 | false=>exact⟨.bl false,H1,I1,rfl,q1⟩
def E1(t:TT)(ta tb:TE):TE:=fun σ H Q=>t σ H fun c H1=>if c=true then ta σ H1 Q else tb σ H1 Q
theorem N_{c:Expr}(hc:PT X c tA)(ha:PE X a ta)(hb:PE X b tb):PE X (.IfExp c a b pos) (E1 tA ta tb):=by
 intro pins s σ H Q I h
 refine wpAny_IfExp (aW (hc pins s σ H _ I h) fun d s1 ⟨H1,I1,q1⟩=> ?_)
 cases d with
 | true=>exact ha pins s1 σ H1 Q I1 q1
 | false=>exact hb pins s1 σ H1 Q I1 q1
end
def aH(K:PySem.W.Frag)(H:Hp)(a:Addr)(xs:List V):Prop:=
 Rd H a (.lst xs)∨
  ∃(o:Obj) (its:Array Value) (n:Nat),K.lookup a=some o∧o.cls= .type "list"∧o.dict=none∧o.data= .seq its n∧its.size≤sizeLine∧Vals xs its.toList
def a_(K:PySem.W.Frag)(H:Hp)(a:Addr)(xs:List V):Prop:=
 Rd H a (.tup xs)∨
  ∃(o:Obj) (its:Array Value) (n:Nat),K.lookup a=some o∧o.cls= .type "tuple"∧o.data= .seq its n∧its.size≤sizeLine∧Vals xs its.toList
def Oa:Value→Option V
 | .none=>some .ax
 | .bool b=>some (.bl b)
 | .int i _=>some (.int i)
 | .str x _=>some (.str x)
 | .bytes b _=>some (.dv b)
 | .float b _=>some (.iI b)
 | .ref a=>some (.ref a)
 | .type n=>some (.ty n)
 | _=>none
theorem RelV.abs{x:V}{u:Value}(r:RelV x u):Oa u=some x:=by
 cases x with
 | ax=>cases r;rfl
 | bl _=>cases r;rfl
 | int _=>obtain⟨t,rfl⟩:=r;rfl
 | str _=>obtain⟨t,rfl⟩:=r;rfl
 | dv _=>obtain⟨t,rfl⟩:=r;rfl
 | iI _=>obtain⟨t,rfl⟩:=r;rfl
 | ref _=>cases r;rfl
 | ty _=>cases r;rfl
theorem RelV.inj{x y:V}{u:Value}(r:RelV x u)(q:RelV y u):x=y:=Option.some.inj (r.abs.symm.trans q.abs)
theorem Vals.inj: ∀{xs ys:List V} {us:List Value},Vals xs us→Vals ys us→xs=ys
 | _,_,_, .nil, .nil=>rfl
 | _,_,_, .cons r t, .cons r' t'=>by rw[r.inj r',Vals.inj t t']
section
variable {X:Cx} {pins:List (Addr×Obj)} {σ:St} {H:Hp} {s:Shared} {a:Addr} {xs ys:List V}
theorem aH.of{K:PySem.W.Frag}(h:H a=some (.lst xs)):aH K H a xs:= .inl (.inl h)
theorem a_.of{K:PySem.W.Frag}(h:H a=some (.tup xs)):a_ K H a xs:= .inl (.inl h)
theorem Inv.list(I:Inv X pins σ H s)(h:aH X.K H a xs): ∃its:List Value,Vals xs its∧PlainL s.heap a its.toArray∧xs.length≤sizeLine:=by
 rcases h with h | ⟨o,its,n,hk,hc,hd,hs,hz,r⟩
 ·obtain⟨z,its,n,r,e⟩:=h.ok I.aI
  exact⟨its,r,⟨_,n,e,rfl,rfl,rfl⟩,z⟩
 ·refine⟨its.toList,r,⟨o,n,I.cj a o hk,hc,hd,by simpa using hs⟩, ?_⟩
  have e:=r.length
  simp only[Array.length_toList] at e
  omega
theorem Inv.tuple(I:Inv X pins σ H s)(h:a_ X.K H a xs): ∃its:List Value,Vals xs its∧IsTup s.heap a its.toArray∧xs.length≤sizeLine:=by
 rcases h with h | ⟨o,its,n,hk,hc,hs,hz,r⟩
 ·obtain⟨z,its,r,p⟩:=h.ok I.aI
  exact⟨its,r,p,z⟩
 ·refine⟨its.toList,r,⟨o,I.cj a o hk,hc,n,by simpa using hs⟩, ?_⟩
  have e:=r.length
  simp only[Array.length_toList] at e
  omega
theorem Inv.E2(I:Inv X pins σ H s)(h:aH X.K H a xs)(h':aH X.K H a ys):xs=ys:=by
 obtain⟨its,r,⟨o,n,e,_,_,d⟩,_⟩:=I.list h
 obtain⟨d0,r',⟨o',n',e',_,_,d'⟩,_⟩:=I.list h'
 rw[e] at e';cases e'
 rw[d] at d'
 injection d' with d1 _
 have:its=d0:=by simpa using congrArg Array.toList d1
 subst this
 exact r.inj r'
end
section
variable {X:Cx} {pins:List (Addr×Obj)} {σ:St} {H:Hp} {s:Shared} {E:Value→Shared→Prop}
end
section
variable {X:Cx} {st:Stmt} {rest:List Stmt} {t u:TS} {e:Expr} {te:TE} {pos:Pos}
def uq:TS:=fun D σ H=>D.nx σ H
def E3(t u:TS):TS:=fun D σ H=>t {D with nx:=u D} σ H
theorem Ob:aY X [] uq:=fun _ _ σ H _ I h=>wpAny_execs_nil ⟨σ,H,I,h⟩
theorem Oc(h1:PS X st t)(h2:aY X rest u):aY X (st::rest) (E3 t u):=by
 intro pins s σ H D I h
 refine wpAny_execs_cons (aW (h1 pins s σ H {D with nx:=u D} I h) fun f s1 q=> ?_)
 cases f with
 | next=>
  obtain⟨σ',H',I',q⟩:=q
  exact h2 pins s1 σ' H' D I' q
 | ret v=>exact q
 | brk=>exact q
 | cont=>exact q
def Od:TS:=fun D σ H=>D.bk σ H
def E4:TS:=fun D σ H=>D.ct σ H
theorem Oe:PS X (.Continue pos) E4:=fun _ _ σ H _ I h=>wpAny_Continue ⟨σ,H,I,h⟩
theorem Inv.quiet{pins:List (Addr×Obj)}{σ:St}{H:Hp}{s:Shared}(I:Inv X pins σ H s):interactive X.env=false:=by simp[interactive,I.ok.kind]
def E5(te:TE):TS:=fun D σ H=>te σ H fun _ H1=>D.nx σ H1
theorem Of(he:PE X e te)(hs:swapsWith e none pos.line X.env=pure false:=by rfl):PS X (.Expr e pos) (E5 te):=by
 intro pins s σ H D I h
 exact wpAny_Expr_any (aW (he pins s σ H _ I h) fun v s1 ⟨x,H1,I1,r1,q1⟩=> ⟨σ,H1,I1,q1⟩) I.quiet hs
def E6(te:TE):TS:=fun D σ H=>te σ H D.rt
theorem Og(he:PE X e te):PS X (.Return (some e) pos) (E6 te):=by
 intro pins s σ H D I h
 exact wpAny_Return_some (aW (he pins s σ H _ I h) fun v s1 ⟨x,H1,I1,r1,q1⟩=> ⟨x,σ,H1,I1,r1,q1⟩)
def Oh:TS:=fun D _ H=>D.rt .ax H
def E7(c:TT)(t u:TS):TS:=fun D σ H=>c σ H fun b H1=>if b=true then t D σ H1 else u D σ H1
theorem Oi{c:Expr}{a b:List Stmt}{tc:TT}(hc:PT X c tc)(ha:aY X a t)(hb:aY X b u):PS X (.If c a b pos) (E7 tc t u):=by
 intro pins s σ H D I h
 refine wpAny_If (aW (hc pins s σ H _ I h) fun d s1 ⟨H1,I1,q1⟩=> ?_)
 cases d with
 | true=>exact ha pins s1 σ H1 D I1 q1
 | false=>exact hb pins s1 σ H1 D I1 q1
def Oj:TS:=fun _ _ _=>False
end
abbrev TG:=V→St→Hp→(St→Hp→Prop)→Prop
abbrev gf:=List V→St→Hp→(St→Hp→Prop)→Prop
def PG(X:Cx)(target:Expr)(t:TG):Prop:=
 ∀(pins:List (Addr×Obj)) (s:Shared) (σ:St) (H:Hp) (v:V) (u:Value) (Q:St→Hp→Prop),Inv X pins σ H s→RelV v u→t v σ H Q→
  wpAny (model X.prog X.w) X.A (assign target X.env u) (fun _ s'=> ∃σ' H',Inv X pins σ' H' s'∧Q σ' H') X.xe s
def mw(X:Cx)(ts:List Expr)(t:gf):Prop:=
 ∀(pins:List (Addr×Obj)) (s:Shared) (σ:St) (H:Hp) (vs:List V) (us:List Value) (Q:St→Hp→Prop),Inv X pins σ H s→Vals vs us→t vs σ H Q→
  wpAny (model X.prog X.w) X.A (assignInOrder ((assignEach ts X.env).map (·.2)) us) (fun _ s'=> ∃σ' H',Inv X pins σ' H' s'∧Q σ' H') X.xe s
abbrev ur:=V→V→V→Hp→(Hp→Prop)→Prop
def E8(X:Cx)(t:ur):Prop:=
 ∀(pins:List (Addr×Obj)) (s:Shared) (σ:St) (H:Hp) (o i v:V) (ov iv u:Value) (Q:Hp→Prop),Inv X pins σ H s→RelV o ov→RelV i iv→RelV v u→t o i v H Q→
  wpAny (model X.prog X.w) X.A (setItem ov iv u) (fun _ s'=> ∃H',Inv X pins σ H' s'∧Q H') X.xe s
section
variable {X:Cx} {pos:Pos}
def eo(i:Nat):TG:=fun v σ H Q=>Q (σ.set i (some v)) H
theorem pS{i:Nat}{x:Str}(hN:X.N.Nodup)(hi:X.N[i]?=some x)(hx:Loc X.env.scope x)(hf:X.fn x=true∨X.env.scope.names.lookup x=some .local:=by first | exact .inl rfl | exact .inr rfl | assumption):PG X (.Name x pos) (eo i):=by
 intro pins s σ H v u Q I r h
 exact wpAny_assign_Name (ET I hN hi hx r (fun s' I'=> ⟨_,H,I',h⟩) hf)
def uu:gf:=fun vs σ H Q=>vs=[]∧Q σ H
def pT(t:TG)(u:gf):gf:=fun vs σ H Q=> ∃v r,vs=v::r∧t v σ H fun σ' H'=>u r σ' H' Q
theorem E9:mw X [] uu:=by
 intro pins s σ H vs us Q I r h
 obtain⟨e,h⟩:=h
 subst e
 cases r
 exact assignInOrder_nil ⟨σ,H,I,h⟩
theorem uv{e:Expr}{es:List Expr}{t:TG}{u:gf}(h1:PG X e t)(h2:mw X es u)
  (hs:(assignEach (e::es) X.env).map (·.2)=assign e X.env::(assignEach es X.env).map (·.2):=by rfl):mw X (e::es) (pT t u):=by
 intro pins s σ H vs us Q I r h
 obtain⟨v,vr,e1,h⟩:=h
 subst e1
 cases r with
 | cons r rr=>
  rw[hs]
  refine assignInOrder_cons (aW (h1 pins s σ H _ _ _ I r h) fun _ s1 ⟨σ1,H1,I1,q1⟩=> ?_)
  exact h2 pins s1 σ1 H1 _ _ Q I1 rr q1
def E_(K:PySem.W.Frag)(n:Nat)(t:gf):TG:=fun v σ H Q=> ∃a xs,v= .ref a∧a_ K H a xs∧xs.length=n∧t xs σ H Q
theorem Fb{es:List Expr}{k:Nat}{t:gf}{n:Nat}(hc:X.calm=true)(h:mw X es t)
  (hn:(assignEach es X.env).length=n:=by rfl) (pU:(assignEach es X.env).findIdx? (·.1)=none:=by rfl):PG X (.Tuple es k pos) (E_ X.K n t):=by
 intro pins s σ H v u Q I r hw
 obtain⟨a,xs,e1,hq,hl,hw⟩:=hw
 subst e1
 cases r
 obtain⟨its,rv,ht,hz⟩:=I.tuple hq
 refine assign_Tuple_tuple (I.ok.hd hc) ht (by simp[hn,←hl,rv.length]) pU fun h' hx=> ?_
 have I1:Inv X pins σ H {s with heap:=h'}:=I.kept (t':=s.toks) fun b o e=>hx b o (Nat.ne_of_lt (Heap.lt_size e)) e
 exact h pins _ σ H xs _ Q I1 (by simpa using rv) hw
def Fc(to ti:TE)(t:ur):TG:=fun v σ H Q=>to σ H fun o H1=>ti σ H1 fun i H2=>t o i v H2 fun H3=>Q σ H3
theorem Ol{o i:Expr}{to ti:TE}{t:ur}(ho:PE X o to)(hi:PE X i ti)(hs:E8 X t)
  (ha: ∀v,assign (.Subscript o i pos) X.env v=(do
   let ov ←holding [v] (eval o X.env)
   let iv ←holding [v,ov] (eval i X.env)
   standAt pos
   holding [v,ov,iv] (setItem ov iv v)
   release [v,ov,iv] []):=by intro _;rfl):PG X (.Subscript o i pos) (Fc to ti t):=by
 intro pins s σ H v u Q I r h
 rw[ha]
 refine wpAny_bind (wpAny_holding (aW (ho pins s σ H _ I h) fun ov s1 ⟨x,H1,I1,r1,q1⟩=> ?_))
 refine wpAny_bind (wpAny_holding (aW (hi pins s1 σ H1 _ I1 q1) fun iv s2 ⟨y,H2,I2,r2,q2⟩=> ?_))
 refine wpAny_bind (wpAny_standAt (wpAny_bind (wpAny_holding (aW (hs pins s2 σ H2 x y v ov iv u _ I2 r1 r2 r q2) fun _ s3 ⟨H3,I3,q3⟩=> ?_))))
 exact wpAny_release ⟨σ,H3,I3,q3⟩
def jw(te:TE)(g:TG):TS:=fun D σ H=>te σ H fun x H1=>g x σ H1 D.nx
theorem Om{tg e:Expr}{te:TE}{g:TG}(he:PE X e te)(hg:PG X tg g)(hs:swapsWithSole [tg] e pos.line X.env=pure false:=by rfl)(hw:swappedStores [tg] e X.env=pure none:=by rfl)
  (h1:(assignEach [tg] X.env).map (·.2)=[assign tg X.env]:=by rfl):PS X (.Assign [tg] e pos) (jw te g):=by
 intro pins s σ H D I h
 refine wpAny_Assign_stores (aW (he pins s σ H _ I h) fun v s1 ⟨x,H1,I1,r1,q1⟩=> ?_) hs hw
 rw[h1]
 exact aW (hg pins s1 σ H1 x v _ I1 r1 q1) fun _ s2 q=>q
theorem Oo{i:Nat}{x:Str}{e:Expr}{te:TE}{pos':Pos}(hN:X.N.Nodup)(hi:X.N[i]?=some x)(hx:Loc X.env.scope x)(he:PE X e te)(hs:swapsWith e (some (.Name x pos')) pos.line X.env=pure false:=by rfl)(hf:X.fn x=true∨X.env.scope.names.lookup x=some .local:=by first | exact .inl rfl | exact .inr rfl | assumption):
  PS X (.Assign [.Name x pos'] e pos) (jw te (eo i)):=by
 intro pins s σ H D I h
 refine wpAny_Assign_Name (aW (he pins s σ H _ I h) fun v s1 ⟨y,H1,I1,r1,q1⟩=> ?_) hs
 exact ET I1 hN hi hx r1 (fun s2 I2=> ⟨_,H1,I2,q1⟩) hf
end
section
variable {X:Cx} {pos:Pos}
def Fd(c:TT)(tb:TS):TS:=fun D σ H=> ∃W:Nat→St→Hp→Prop,(∃m,W m σ H)∧ ∀m σ H,W m σ H→
 c σ H fun b H1=>if b=true then ∃N:St→Hp→Prop,(∀σ' H',N σ' H'→ ∃m',m'<m∧W m' σ' H')∧tb {D with nx:=N,ct:=N,bk:=D.nx} σ H1 else D.nx σ H1
theorem Oq{c:Expr}{body:List Stmt}{tc:TT}{tb:TS}(hp:PassesOwn (model X.prog X.w) X.A X.env X.xe)(hc:PT X c tc)(hb:aY X body tb):PS X (.While c body [] pos) (Fd tc tb):=by
 intro pins s σ H D I h
 obtain⟨W,⟨m0,w0⟩,turn⟩:=h
 refine wpAny_While (codeAny_whileLoop (fun n s'=> ∃σ' H',Inv X pins σ' H' s'∧W n σ' H') ?_ m0 ⟨σ,H,I,w0⟩)
 rintro n s1 ⟨σ1,H1,I1,w1⟩
 refine wpAny_passesOwn hp (aW (hc pins s1 σ1 H1 _ I1 (turn n σ1 H1 w1)) fun b s2 ⟨H2,I2,q2⟩=> ?_)
 cases b with
 | true=>
  obtain⟨N,hN,q2⟩:=q2
  rw[if_pos rfl]
  refine wpAny_passesOwn hp (aW (hb pins s2 σ1 H2 _ I2 q2) fun f s3 q3=> ?_)
  cases f with
  | next=>
   obtain⟨σ3,H3,I3,n3⟩:=q3
   obtain⟨m',hm,w3⟩:=hN σ3 H3 n3
   exact⟨m',hm,σ3,H3,I3,w3⟩
  | cont=>
   obtain⟨σ3,H3,I3,n3⟩:=q3
   obtain⟨m',hm,w3⟩:=hN σ3 H3 n3
   exact⟨m',hm,σ3,H3,I3,w3⟩
  | brk=>exact q3
  | ret v=>exact q3
 | false=>
  rw[if_neg Bool.false_ne_true]
  exact wpAny_execs_nil ⟨σ1,H2,I2,q2⟩
end
structure It where
 go:Nat→Hp→Prop
 eK:Nat→Hp→V→Hp→Prop
 stop:Nat→Hp→Prop
def eV(X:Cx)(pins:List (Addr×Obj))(H:Hp)(b:Addr):Prop:=
 H b=none∧b≠X.env.locals∧b∉X.fs∧(b∈X.ex∨X.s₀.heap.objs.size≤b)∧(∀x c,X.env.cells.lookup x=some c→c≠b)∧ ∀p∈X.pn++pins,p.1≠b
theorem Inv.uw{X:Cx}{pins:List (Addr×Obj)}{σ:St}{H H':Hp}{s:Shared}{b:Addr}(I:Inv X pins σ H s)(hb:s.heap.objs.size≤b)(hn:H' b=none):eV X pins H' b:=by
 refine⟨hn,Nat.ne_of_gt (Nat.lt_of_lt_of_le I.lt hb),I.EJ hb, .inr (Nat.le_trans I.sz hb),fun x c e z=> ?_,fun p hp z=> ?_⟩
 ·obtain⟨v,q⟩:=I.cell x c e
  exact absurd (Nat.lt_of_lt_of_le q.lt (by rw[z];exact hb)) (Nat.lt_irrefl _)
 ·exact absurd (Nat.lt_of_lt_of_le (Heap.lt_size (I.pin p hp).1) (by rw[z];exact hb)) (Nat.lt_irrefl _)
structure Turn (P:Program) (w:World) (K:PySem.W.Frag) (tg:Expr) (J:It) (fp:List Addr) (it:Addr) (tn:Nat→Heap→Prop):Prop where
 mem:it∈fp
 obj: ∀i h,tn i h→ ∀b∈fp,∃o,h.get? b=some o∧ ∀v,o.data≠ .cell v
 keep: ∀i h h',tn i h→(∀b∈fp,∀o,h.get? b=some o→h'.get? b=some o)→tn i h'
 item: ∀(X:Cx),X.prog=P→X.w=w→X.K=K→X.calm=true→ ∀(i:Nat) (pins:List (Addr×Obj)) (s:Shared) (σ:St) (H:Hp) (E:Value→Shared→Prop),Inv X pins σ H s→(∀b∈fp,eV X pins H b)→tn i s.heap→J.go i H→
  wpAny (model P w) X.A (pyNext (.ref it)) (fun r s1=> ∃u,r=some u∧
   wpAny (model P w) X.A (letOwnedTupleGo tg (.ref it) u) (fun _ s2=> ∃x H',Inv X pins σ H' s2∧RelV x u∧J.eK i H x H'∧tn (i+1) s2.heap∧ ∀b∈fp,H' b=none) E s1) E s
 done: ∀(X:Cx),X.prog=P→X.w=w→X.K=K→X.calm=true→ ∀(i:Nat) (pins:List (Addr×Obj)) (s:Shared) (σ:St) (H:Hp) (E:Value→Shared→Prop),Inv X pins σ H s→(∀b∈fp,eV X pins H b)→tn i s.heap→J.stop i H→
  wpAny (model P w) X.A (pyNext (.ref it)) (fun r s1=>r=none∧Inv X pins σ H s1) E s
 self: ∀(A:Around) (i:Nat) (s:Shared) (Q:Value→Shared→Prop) (E:Value→Shared→Prop),tn i s.heap→Q (.ref it) s→wpAny (model P w) A (pyIter (.ref it)) Q E s
abbrev TI:=St→Hp→(It→Hp→Prop)→Prop
def Fe(X:Cx)(pins:List (Addr×Obj))(σ:St)(tg:Expr)(R:It→Hp→Prop)(mx:Value)(s2:Shared):Prop:=
 ∃(it:Addr) (fp:List Addr) (tn:Nat→Heap→Prop) (J:It) (H':Hp),mx= .ref it∧Inv X pins σ H' s2∧Turn X.prog X.w X.K tg J fp it tn∧tn 0 s2.heap∧(∀b∈fp,eV X pins H' b)∧R J H'
def PI(X:Cx)(tg iter:Expr)(wi:TI):Prop:=
 ∀(pins:List (Addr×Obj)) (s:Shared) (σ:St) (H:Hp) (R:It→Hp→Prop),Inv X pins σ H s→wi σ H R→
  wpAny (model X.prog X.w) X.A (eval iter X.env) (fun v s1=>wpAny (model X.prog X.w) X.A (pyIter v) (Fe X pins σ tg R) X.xe s1) X.xe s
theorem Ff{M:Model}{A:Around}{E:Value→Shared→Prop}{s:Shared}{tg:Expr}{it:Addr}{u:Value}{o:Obj}{n:String}{vs:Array Value}{Q:Unit→Shared→Prop}(ho:s.heap.get? it=some o)(hc:o.cls= .type n)(hd:o.data= .fields vs)
    (hn:["enumerate","zip","dict_itemiterator","dict_reverseitemiterator","odict_iterator","itertools.zip_longest","itertools.pairwise"].contains n=false) (hQ:Q () s):wpAny M A (letOwnedTupleGo tg (.ref it) u) Q E s:=by
  unfold letOwnedTupleGo
  cases tg<;>first
    | exact wpAny_pure hQ
    | (cases u<;>first
        | exact wpAny_pure hQ
        | (refine wpAny_bind (wpAny_load ho ?_)
           rw[hc,hd]
           show wpAny M A (if (["enumerate","zip","dict_itemiterator","dict_reverseitemiterator","odict_iterator","itertools.zip_longest","itertools.pairwise"].contains n && vs[0]?==some (rawInt _))=true then _ else _) Q E s
           rw[if_neg (by intro h;rw[hn,Bool.false_and] at h;cases h)]
           exact wpAny_pure hQ))
def dw(K:PySem.W.Frag)(a:Addr):It:=
 ⟨fun i H=> ∃xs x,aH K H a xs∧xs[i]?=some x,fun i H x H'=>H'=H∧ ∀xs,aH K H a xs→xs[i]?=some x,fun i H=> ∃xs,aH K H a xs∧xs.length≤i⟩
def Ot(K:PySem.W.Frag)(a:Addr):It:=
 ⟨fun i H=> ∃xs x,a_ K H a xs∧xs[i]?=some x,fun i H x H'=>H'=H∧ ∀xs,a_ K H a xs→xs[i]?=some x,fun i H=> ∃xs,a_ K H a xs∧xs.length≤i⟩
def gg(lo:Int)(n:Nat):It:=⟨fun i _=>i<n,fun i H x H'=>H'=H∧x= .int (lo+i),fun i _=>n≤i⟩
theorem Ou{P:Program}{w:World}{K:PySem.W.Frag}{tg:Expr}(a it:Addr):Turn P w K tg (dw K a) [it] it (fun i h=>h.IsListIter it a i) where
 mem:=by simp
 obj:=fun i h st b hb=>by
  have e:b=it:=by simpa using hb
  subst e
  obtain⟨o,e,c,d⟩:=st
  exact⟨o,e,fun v z=>by rw[d] at z;cases z⟩
 keep:=fun i h h' st k=>st.at fun o e=>k it (by simp) o e
 item:=by
  intro X hP hw hK hc i pins s σ H E I hf st hg
  subst hP hw hK
  obtain⟨xs,x,hq,hx⟩:=hg
  obtain⟨its,rv,p,hz⟩:=I.list hq
  obtain⟨u,hu,ru⟩:=rv.get hx
  obtain⟨f0,f1,f2,f3,f4,f5⟩:=hf it (by simp)
  refine wpAny_pyNext_list_item st p.isList (x:=u) (by simpa using hu) fun h' iJ sb=> ?_
  have I1:Inv X pins σ H {s with heap:=h'}:=I.turned (t':=s.toks) (fun b o hb e=> (sb.2 b hb).trans e) f0 f1 f3 f4 f5
  obtain⟨o,e,c,d⟩:=id iJ
  exact⟨u,rfl,Ff (s:={s with heap:=h'}) e c d (by decide) ⟨x,H,I1,ru,⟨rfl,fun ys hy=>by rw[I.E2 hy hq];exact hx⟩,iJ,fun b hb=> (hf b hb).1⟩⟩
 done:=by
  intro X hP hw hK hc i pins s σ H E I hf st hg
  subst hP hw hK
  obtain⟨xs,hq,hx⟩:=hg
  obtain⟨its,rv,p,hz⟩:=I.list hq
  obtain⟨f0,f1,f2,f3,f4,f5⟩:=hf it (by simp)
  have hl:=rv.length
  exact wpAny_pyNext_list_end (I.ok.hd hc) st p.isList (by simp;omega) fun h' eb=> ⟨rfl,I.turned (t':=s.toks) (fun b o hb e=>eb b o hb e) f0 f1 f3 f4 f5⟩
 self:=fun _ _ _ _ _ st h=>wpAny_pyIter_listiter st h
theorem Ov{P:Program}{w:World}{K:PySem.W.Frag}{tg:Expr}(it:Addr)(lo:Int)(n:Nat):Turn P w K tg (gg lo n) [it] it (fun i h=>IsRangeIter h it (lo+ (i:Nat)*1) ((n:Int) - (i:Nat)) 1) where
 mem:=by simp
 obj:=fun i h st b hb=>by
  have e:b=it:=by simpa using hb
  subst e
  exact⟨_,st,fun v z=>by
   have z':Data.fields _=Data.cell v:=z
   cases z'⟩
 keep:=fun i h h' st k=>k it (by simp) _ st
 item:=by
  intro X hP hw hK hc i pins s σ H E I hf st hg
  subst hP hw hK
  obtain⟨f0,f1,f2,f3,f4,f5⟩:=hf it (by simp)
  have W:=Walks.range (prog:=X.prog) (w:=X.w) (I.ok.hd hc) it lo 1 n
  refine W.item i s _ _ hg st fun v h' tk hv iJ kk=> ?_
  obtain⟨t,rfl⟩:=hv
  have I1:Inv X pins σ H {s with heap:=h',toks:=tk}:=I.turned (fun b o hb e=>kk b o (by simpa using hb) e) f0 f1 f3 f4 f5
  refine⟨_,rfl,Ff (s:={s with heap:=h',toks:=tk}) (n:="range_iterator") iJ rfl rfl (by decide) ⟨.int (lo+i),H,I1,⟨t, ?_⟩,⟨rfl,rfl⟩,iJ,fun b hb=> (hf b hb).1⟩⟩
  rw[Int.mul_one]
 done:=by
  intro X hP hw hK hc i pins s σ H E I hf st hg
  subst hP hw hK
  obtain⟨f0,f1,f2,f3,f4,f5⟩:=hf it (by simp)
  exact wpAny_pyNext_range_end (I.ok.hd hc) st (by have:n≤i:=hg;omega) fun h' eb=> ⟨rfl,I.turned (t':=s.toks) (fun b o hb e=>eb b o hb e) f0 f1 f3 f4 f5⟩
 self:=fun _ _ _ _ _ st h=>wpAny_pyIter_rangeiter st h
section
variable {X:Cx} {tg:Expr}
def ux(K:PySem.W.Frag)(tl:TE):TI:=fun σ H R=>tl σ H fun x H1=> ∃a,x= .ref a∧(∃xs,aH K H1 a xs)∧R (dw K a) H1
def Ow(K:PySem.W.Frag)(tl:TE):TI:=fun σ H R=>tl σ H fun x H1=> ∃a,x= .ref a∧(∃xs,a_ K H1 a xs)∧R (Ot K a) H1
theorem Ox{l:Expr}{tl:TE}(hl:PE X l tl):PI X tg l (ux X.K tl):=by
 intro pins s σ H R I h
 refine aW (hl pins s σ H _ I h) fun v s1 ⟨x,H1,I1,r1,q1⟩=> ?_
 obtain⟨a,e,⟨xs,hq⟩,q⟩:=q1
 subst e
 cases r1
 obtain⟨its,rv,p,hz⟩:=I1.list hq
 refine wpAny_pyIter_list p.isList ?_
 refine⟨s1.heap.objs.size,[s1.heap.objs.size],_,_,H1,rfl,I1.kept (t':=s1.toks) fun b o e=>Heap.get?_push_of_some _ e,Ou a _,⟨_,Heap.get?_push_size _ rfl,rfl,rfl⟩,fun b hb=> ?_,q⟩
 have e:b=s1.heap.objs.size:=by simpa using hb
 subst e
 exact I1.uw (Nat.le_refl _) (I1.aI.fresh (Nat.le_refl _))
theorem Oy{pins:List (Addr×Obj)}{σ:St}{H:Hp}{s:Shared}{R:It→Hp→Prop}{E:Value→Shared→Prop}{lo hi:Int}{t u v:Tok}{tk:Nat}(I:Inv X pins σ H s)(h1: -(2 ^ 62)≤lo)(h2:lo<2 ^ 62)(h3: -(2 ^ 62)≤hi)(h4:hi<2 ^ 62)
  (q:R (gg lo (hi - lo).toNat) H):wpAny (model X.prog X.w) X.A (pyIter (.ref s.heap.objs.size)) (Fe X pins σ tg R) E {s with heap:=s.heap.push {cls:= .type "range",data:= .fields #[.int lo t, .int hi u, .int 1 v]},toks:=tk}:=by
 refine wpAny_pyIter_range (IsRange.new ..) (small_one h1 h2 h3 h4) ?_
 have I1:Inv X pins σ H {s with heap:=s.heap.push {cls:= .type "range",data:= .fields #[.int lo t, .int hi u, .int 1 v]},toks:=tk}:=I.kept fun b o e=>Heap.get?_push_of_some _ e
 refine⟨(s.heap.push {cls:= .type "range",data:= .fields #[.int lo t, .int hi u, .int 1 v]}).objs.size,[(s.heap.push {cls:= .type "range",data:= .fields #[.int lo t, .int hi u, .int 1 v]}).objs.size],_,_,H,rfl,
  I1.kept (t':=tk) fun b o e=>Heap.get?_push_of_some _ e,Ov _ lo (hi - lo).toNat, ?_,fun b hb=> ?_,q⟩
 ·have e1:lo+ ((0:Nat):Int)*1=lo:=by simp
  have e2:(((hi - lo).toNat:Nat):Int) - ((0:Nat):Int)=Builtin.Range.rangeSize lo hi 1:=by rw[rangeSize_one];split<;>omega
  show IsRangeIter _ _ (lo+ ((0:Nat):Int)*1) ((((hi - lo).toNat:Nat):Int) - ((0:Nat):Int)) 1
  rw[e1,e2]
  exact Heap.get?_push_size _ rfl
 ·have e:b=(s.heap.push {cls:= .type "range",data:= .fields #[.int lo t, .int hi u, .int 1 v]}).objs.size:=by simpa using hb
  subst e
  exact I1.uw (Nat.le_refl _) (I1.aI.fresh (Nat.le_refl _))
def Fg(ta:TA):TI:=fun σ H R=>ta σ H fun vs H1=> ∃j:Int,vs=[.int j]∧ -(2 ^ 62)≤j∧j<2 ^ 62∧R (gg 0 j.toNat) H1
def Oz(ta:TA):TI:=fun σ H R=>ta σ H fun vs H1=> ∃i j:Int,vs=[.int i, .int j]∧(-(2 ^ 62)≤i∧i<2 ^ 62∧ -(2 ^ 62)≤j∧j<2 ^ 62)∧R (gg i (j - i).toNat) H1
theorem OA{a:Expr}{ta:TA}{p pos:Pos}(hg:Gl X "range")(hm:X.mg "range"=none)(ha:PA X [a] ta)(hs:starEach [a] X.env=[(false,eval a X.env)]:=by rfl):PI X tg (.Call (.Name "range" p) [a] [] pos) (Fg ta):=by
 intro pins s σ H R I h
 refine Call_ (ny I hg hm boot_range (PyProof.Rows.callWith_type1 (aW (ha pos pins s σ H _ I h) fun us s1 ⟨vs,H1,I1,r1,q1⟩=> ?_) hs rfl))
 obtain⟨j,e,q1,q2,q⟩:=q1
 subst e
 cases r1 with
 | cons r rr=>
  cases rr
  obtain⟨t,rfl⟩:=r
  exact call_range_1 (Oy I1 (by omega) (by omega) q1 q2 (by simpa using q))
def pV(wi:TI)(g:TG)(tb:TS):TS:=fun D σ H=>wi σ H fun J H1=> ∃W:Nat→Nat→St→Hp→Prop,(∃m,W 0 m σ H1)∧ ∀i m σ H,W i m σ H→
 (J.stop i H∧D.nx σ H)∨(J.go i H∧ ∃N:St→Hp→Prop,(∀σ' H',N σ' H'→ ∃m',m'<m∧W (i+1) m' σ' H')∧ ∀x H',J.eK i H x H'→g x σ H' fun σ2 H2=>tb {D with nx:=N,ct:=N,bk:=D.nx} σ2 H2)
def my(fp:List Addr)(h:Heap):List (Addr×Obj):=fp.filterMap fun b=> (h.get? b).map fun o=> (b,o)
theorem pW{fp:List Addr}{h:Heap}{b:Addr}{o:Obj}(hb:b∈fp)(e:h.get? b=some o):(b,o)∈my fp h:=List.mem_filterMap.mpr ⟨b,hb,by rw[e];rfl⟩
theorem OB{fp:List Addr}{h:Heap}{p:Addr×Obj}(hp:p∈my fp h):p.1∈fp∧h.get? p.1=some p.2:=by
 obtain⟨b,hb,e⟩:=List.mem_filterMap.mp hp
 cases q:h.get? b with
 | none=>rw[q] at e;cases e
 | some o=>
  rw[q] at e
  have e':(b,o)=p:=Option.some.inj e
  subst e'
  exact⟨hb,q⟩
theorem Inv.pinned{pins:List (Addr×Obj)}{σ:St}{H:Hp}{s:Shared}{fp:List Addr}(I:Inv X pins σ H s)(hf: ∀b∈fp,eV X pins H b)(ho: ∀b∈fp,∃o,s.heap.get? b=some o∧ ∀v,o.data≠ .cell v):Inv X (pins++my fp s.heap) σ H s:=
 I.mv fun p hp=> (List.mem_append.mp hp).elim (fun z=>I.pin p (List.mem_append_right _ z)) fun z=>by
  obtain⟨hb,e⟩:=OB z
  obtain⟨f0,f1,f2,_⟩:=hf p.1 hb
  obtain⟨o,e',d⟩:=ho p.1 hb
  rw[e] at e';cases e'
  exact⟨e,f0,f1,f2,d⟩
theorem Inv.uz{pins pl:List (Addr×Obj)}{σ:St}{H:Hp}{s:Shared}(I:Inv X (pins++pl) σ H s):Inv X pins σ H s:=I.mv fun p hp=>I.pin p (List.mem_append_right _ (List.mem_append_left _ hp))
theorem Fh{iter:Expr}{body:List Stmt}{wi:TI}{g:TG}{tb:TS}{pos:Pos}(hp:PassesOwn (model X.prog X.w) X.A X.env X.xe)(hc:X.calm=true)(hi:PI X tg iter wi)(hg:PG X tg g)(hb:aY X body tb)
  (hs: ∀x,foldedSetIterable iter X.env x=pure x:=by intro _;rfl):PS X (.For tg iter body [] pos) (pV wi g tb):=by
 intro pins s σ H D I h
 refine wpAny_For (aW (hi pins s σ H _ I h) fun v s1 h1=>aW h1 fun mx s2 h2=> ?_) hs
 obtain⟨it,fp,tn,J,H2,e,I2,T,uA,f2,W,⟨m0,w0⟩,turn⟩:=h2
 subst e
 have jx: ∀{H':Hp},(∀b∈fp,H' b=none)→ ∀b∈fp,eV X pins H' b:=fun hn b hb=> ⟨hn b hb,(f2 b hb).2⟩
 refine codeAny_forLoop_any (fun n s'=> ∃i σ' H',Inv X pins σ' H' s'∧tn i s'.heap∧(∀b∈fp,H' b=none)∧W i n σ' H') ?_ m0 ⟨0,σ,H2,I2,uA,fun b hb=> (f2 b hb).1,w0⟩
 rintro n s3 ⟨i,σ3,H3,I3,Fi,Fj,w3⟩
 rcases turn i n σ3 H3 w3 with⟨stop,qn⟩ | ⟨go,N,hN,step⟩
 ·refine wpAny_passesOwn hp (aW (T.done X rfl rfl rfl hc i pins s3 σ3 H3 X.xe I3 (jx Fj) Fi stop) fun r s4 ⟨hr,I4⟩=> ?_)
  subst hr
  exact wpAny_execs_nil ⟨σ3,H3,I4,qn⟩
 ·refine wpAny_passesOwn hp (aW (T.item X rfl rfl rfl hc i pins s3 σ3 H3 X.xe I3 (jx Fj) Fi go) fun r s4 ⟨u,hr,h4⟩=> ?_)
  subst hr
  refine wpAny_passesOwn hp (aW h4 fun _ s5 ⟨x,H5,I5,r5,y5,jy,uB⟩=> ?_)
  have uC:=I5.pinned (jx uB) (T.obj _ _ jy)
  refine wpAny_passesOwn hp (aW (hg _ s5 σ3 H5 x u _ uC r5 (step x H5 y5)) fun _ s6 ⟨σ6,H6,I6,q6⟩=> ?_)
  refine wpAny_passesOwn hp (aW (hb _ s6 σ6 H6 _ I6 q6) fun f s7 q7=> ?_)
  have again: ∀{σ7:St} {H7:Hp},Inv X (pins++my fp s5.heap) σ7 H7 s7→N σ7 H7→ ∃m,m<n∧ ∃i σ' H',Inv X pins σ' H' s7∧tn i s7.heap∧(∀b∈fp,H' b=none)∧W i m σ' H':=fun {σ7 H7} I7 n7=>by
   obtain⟨m',hm,w7⟩:=hN σ7 H7 n7
   refine⟨m',hm,i+1,σ7,H7,I7.uz,T.keep _ _ _ jy fun b hb o e=> (I7.pin (b,o) (List.mem_append_right _ (List.mem_append_right _ (pW hb e)))).1,fun b hb=> ?_,w7⟩
   obtain⟨o,e,d⟩:=T.obj _ _ jy b hb
   exact(I7.pin (b,o) (List.mem_append_right _ (List.mem_append_right _ (pW hb e)))).2.1
  cases f with
  | next=>obtain⟨σ7,H7,I7,n7⟩:=q7;exact again I7 n7
  | cont=>obtain⟨σ7,H7,I7,n7⟩:=q7;exact again I7 n7
  | brk=>obtain⟨σ7,H7,I7,q7⟩:=q7;exact⟨σ7,H7,I7.uz,q7⟩
  | ret v=>obtain⟨x7,σ7,H7,I7,r7,q7⟩:=q7;exact⟨x7,σ7,H7,I7.uz,r7,q7⟩
end
theorem mz{K:PySem.W.Frag}{a:Addr}{xs:List V}{g:TG}{tb:TS}{D:Ends}{σ:St}{H:Hp}(Pv:Nat→St→Hp→Prop)(h0:Pv 0 σ H)(hl: ∀i σ H,i≤xs.length→Pv i σ H→aH K H a xs)
  (hs: ∀i x σ H,xs[i]?=some x→Pv i σ H→g x σ H fun σ2 H2=>tb {D with nx:=Pv (i+1),ct:=Pv (i+1),bk:=D.nx} σ2 H2) (hd: ∀σ H,Pv xs.length σ H→D.nx σ H):
  ∃W:Nat→Nat→St→Hp→Prop,(∃m,W 0 m σ H)∧ ∀i m σ H,W i m σ H→
   ((dw K a).stop i H∧D.nx σ H)∨((dw K a).go i H∧ ∃N:St→Hp→Prop,(∀σ' H',N σ' H'→ ∃m',m'<m∧W (i+1) m' σ' H')∧ ∀x H',(dw K a).eK i H x H'→g x σ H' fun σ2 H2=>tb {D with nx:=N,ct:=N,bk:=D.nx} σ2 H2):=by
 refine⟨fun i m σ H=>m=xs.length - i∧i≤xs.length∧Pv i σ H,⟨xs.length,by simp,Nat.zero_le _,h0⟩, ?_⟩
 rintro i m σ H ⟨rfl,hi,p⟩
 have q:=hl i σ H hi p
 by_cases bz:i<xs.length
 ·refine .inr ⟨⟨xs,xs[i],q,by simp[bz]⟩,Pv (i+1),fun σ' H' p'=> ⟨xs.length - (i+1),by omega,rfl,bz,p'⟩,fun x H' y=> ?_⟩
  obtain⟨e,y⟩:=y
  subst e
  exact hs i x σ _ (y xs q) p
 ·have e:i=xs.length:=by omega
  subst e
  exact .inl ⟨⟨xs,q,Nat.le_refl _⟩,hd σ H p⟩
theorem pX{lo:Int}{n:Nat}{g:TG}{tb:TS}{D:Ends}{σ:St}{H:Hp}(Pv:Nat→St→Hp→Prop)(h0:Pv 0 σ H)
  (hs: ∀i σ H,i<n→Pv i σ H→g (.int (lo+i)) σ H fun σ2 H2=>tb {D with nx:=Pv (i+1),ct:=Pv (i+1),bk:=D.nx} σ2 H2) (hd: ∀σ H,Pv n σ H→D.nx σ H):
  ∃W:Nat→Nat→St→Hp→Prop,(∃m,W 0 m σ H)∧ ∀i m σ H,W i m σ H→
   ((gg lo n).stop i H∧D.nx σ H)∨((gg lo n).go i H∧ ∃N:St→Hp→Prop,(∀σ' H',N σ' H'→ ∃m',m'<m∧W (i+1) m' σ' H')∧ ∀x H',(gg lo n).eK i H x H'→g x σ H' fun σ2 H2=>tb {D with nx:=N,ct:=N,bk:=D.nx} σ2 H2):=by
 refine⟨fun i m σ H=>m=n - i∧i≤n∧Pv i σ H,⟨n,by simp,Nat.zero_le _,h0⟩, ?_⟩
 rintro i m σ H ⟨rfl,hi,p⟩
 by_cases bz:i<n
 ·refine .inr ⟨bz,Pv (i+1),fun σ' H' p'=> ⟨n - (i+1),by omega,rfl,bz,p'⟩,fun x H' y=> ?_⟩
  obtain⟨e,y⟩:=y
  subst e y
  exact hs i σ _ bz p
 ·have e:i=n:=by omega
  subst e
  exact .inl ⟨Nat.le_refl _,hd σ H p⟩
abbrev R2:=V→V→Hp→VK→Prop
def bp(X:Cx)(f:Value→Value→Sem Value)(r:R2):Prop:=
 ∀(pins:List (Addr×Obj)) (s:Shared) (σ:St) (H:Hp) (x y:V) (v u:Value) (Q:VK),Inv X pins σ H s→RelV x v→RelV y u→r x y H Q→
  wpAny (model X.prog X.w) X.A (f v u) (EP X pins σ Q) X.xe s
def pY(X:Cx)(f:Value→Sem Value)(r:V→Hp→VK→Prop):Prop:=
 ∀(pins:List (Addr×Obj)) (s:Shared) (σ:St) (H:Hp) (x:V) (v:Value) (Q:VK),Inv X pins σ H s→RelV x v→r x H Q→
  wpAny (model X.prog X.w) X.A (f v) (EP X pins σ Q) X.xe s
def bY(X:Cx)(f:Value)(r:List V→Hp→VK→Prop):Prop:=
 ∀(pins:List (Addr×Obj)) (s:Shared) (σ:St) (H:Hp) (xs:List V) (us:List Value) (Q:VK),Inv X pins σ H s→Vals xs us→r xs H Q→
  wpAny (model X.prog X.w) X.A (call f us) (EP X pins σ Q) X.xe s
def OC(X:Cx)(r:V→Hp→(Bool→Hp→Prop)→Prop):Prop:=
 ∀(pins:List (Addr×Obj)) (s:Shared) (σ:St) (H:Hp) (x:V) (v:Value) (Q:Bool→Hp→Prop),Inv X pins σ H s→RelV x v→r x H Q→
  wpAny (model X.prog X.w) X.A (truthy v) (TP X pins σ Q) X.xe s
def dc(r:R2)(ta tb:TE):TE:=fun σ H Q=>ta σ H fun x H1=>tb σ H1 fun y H2=>r x y H2 Q
def Fl(r:V→Hp→VK→Prop)(ta:TE):TE:=fun σ H Q=>ta σ H fun x H1=>r x H1 Q
def rI(C:Int→Int→Prop)(g:Int→Int→V):R2:=fun x y H Q=> ∃i j,x= .int i∧y= .int j∧C i j∧Q (g i j) H
def gZ(g:Int→Int→V):R2:=fun x y H Q=> ∃i j,x= .int i∧y= .int j∧Q (g i j) H
def rU(g:Int→V):V→Hp→VK→Prop:=fun x H Q=> ∃i,x= .int i∧Q (g i) H
section
variable {X:Cx} {a b c:Expr} {ta tb tc:TE} {pos:Pos}
theorem uD(ha:PE X a ta)(hb:PE X b tb){pins:List (Addr×Obj)}{s:Shared}{σ:St}{H:Hp}{R:V→V→Hp→Prop}(I:Inv X pins σ H s)
  (h:ta σ H fun x H1=>tb σ H1 fun y H2=>R x y H2) {Q:Value→Shared→Prop} {f:Value→Value→Sem Value}
  (hf: ∀v u s2 x y H2,Inv X pins σ H2 s2→RelV x v→RelV y u→R x y H2→wpAny (model X.prog X.w) X.A (f v u) Q X.xe s2):
  wpAny (model X.prog X.w) X.A (eval a X.env) (fun v s₁=>wpAny (model X.prog X.w) X.A (eval b X.env) (fun u s₂=>wpAny (model X.prog X.w) X.A (f v u) Q X.xe s₂) X.xe s₁) X.xe s:=by
 refine aW (ha pins s σ H _ I h) fun v s1 ⟨x,H1,I1,r1,q1⟩=> ?_
 refine aW (hb pins s1 σ H1 _ I1 q1) fun u s2 ⟨y,H2,I2,r2,q2⟩=> ?_
 exact hf v u s2 x y H2 I2 r1 r2 q2
theorem Fm{op:Operator}{r:R2}(ho:bp X (binaryOp op) r)(ha:PE X a ta)(hb:PE X b tb):PE X (.BinOp a op b pos) (dc r ta tb):=by
 intro pins s σ H Q I h
 exact wpAny_BinOp (uD ha hb I h fun v u s2 x y H2 I2 rx ry q=>ho pins s2 σ H2 x y v u Q I2 rx ry q)
theorem OD{op:UnaryOp}{r:V→Hp→VK→Prop}(ho:pY X (unaryOp op) r)(ha:PE X a ta):PE X (.UnaryOp op a pos) (Fl r ta):=by
 intro pins s σ H Q I h
 exact UnaryOp_ (aW (ha pins s σ H _ I h) fun v s1 ⟨x,H1,I1,r1,q1⟩=>ho pins s1 σ H1 x v Q I1 r1 q1)
theorem pZ{f:Value→Value→Sem Value}{C:Int→Int→Prop}{g:Int→Int→Int}
  (rule: ∀(i j:Int) (t u:Tok) (s:Shared) (Q:Value→Shared→Prop) (E:Value→Shared→Prop),C i j→Q (.int (g i j) s.toks) {s with toks:=s.toks+1}→wpAny (model X.prog X.w) X.A (f (.int i t) (.int j u)) Q E s):
  bp X f (rI C fun i j=> .int (g i j)):=by
 intro pins s σ H x y v u Q I rx ry h
 obtain⟨i,j,rfl,rfl,hc,q⟩:=h
 obtain⟨t,rfl⟩:=rx
 obtain⟨t',rfl⟩:=ry
 exact rule i j t t' s _ _ hc ⟨.int (g i j),H,I.tok _,⟨_,rfl⟩,q⟩
theorem Fn{f:Value→Value→Sem Value}{g:Int→Int→Int}
  (rule: ∀(i j:Int) (t u:Tok) (s:Shared) (Q:Value→Shared→Prop) (E:Value→Shared→Prop),Q (.int (g i j) s.toks) {s with toks:=s.toks+1}→wpAny (model X.prog X.w) X.A (f (.int i t) (.int j u)) Q E s):
  bp X f (gZ fun i j=> .int (g i j)):=by
 intro pins s σ H x y v u Q I rx ry h
 obtain⟨i,j,rfl,rfl,q⟩:=h
 obtain⟨t,rfl⟩:=rx
 obtain⟨t',rfl⟩:=ry
 exact rule i j t t' s _ _ ⟨.int (g i j),H,I.tok _,⟨_,rfl⟩,q⟩
theorem p9{f:Value→Value→Sem Value}{g:Int→Int→Bool}
  (rule: ∀(i j:Int) (t u:Tok) (s:Shared) (Q:Value→Shared→Prop) (E:Value→Shared→Prop),Q (.bool (g i j)) s→wpAny (model X.prog X.w) X.A (f (.int i t) (.int j u)) Q E s):
  bp X f (gZ fun i j=> .bl (g i j)):=by
 intro pins s σ H x y v u Q I rx ry h
 obtain⟨i,j,rfl,rfl,q⟩:=h
 obtain⟨t,rfl⟩:=rx
 obtain⟨t',rfl⟩:=ry
 exact rule i j t t' s _ _ ⟨.bl (g i j),H,I,rfl,q⟩
def uE(i j:Int):Prop:=0<j∧j<1073741824
def Fo(i j:Int):Prop:=0≤j∧j≤1000000∧i.natAbs<2 ^ 64
def p_(i j:Int):Prop:=(-(2 ^ 64) <i∧i<2 ^ 64)∨(-(2 ^ 64) <j∧j<2 ^ 64)
theorem p_.ok{i j:Int}(h:p_ i j):IntMulOk i j:=by
 rcases h with⟨h1,h2⟩ | ⟨h1,h2⟩
 ·exact .of_left (intBits_le_64 h1 h2)
 ·exact .of_right (intBits_le_64 h1 h2)
theorem OE:bp X (binaryOp .Add) (gZ fun i j=> .int (i+j)):=Fn fun _ _ _ _ _ _ _ q=>add_int q
theorem OF:bp X (binaryOp .Sub) (gZ fun i j=> .int (i - j)):=Fn fun _ _ _ _ _ _ _ q=>sub_int q
theorem OG:bp X (binaryOp .Mult) (rI p_ fun i j=> .int (i*j)):=pZ fun _ _ _ _ _ _ _ hc q=>mul_int q hc.ok
theorem OH:bp X (binaryOp .FloorDiv) (rI uE fun i j=> .int (i / j)):=pZ fun i j _ _ _ _ _ hc q=>by
 have h1:(0:Int) <j:=hc.1
 have h2:j<1073741824:=hc.2
 exact floordiv_int (by omega) (by rw[Int.fdiv_eq_ediv_of_nonneg i (by omega)];exact q) (.inl (PyProof.noPylong_small (by omega)))
theorem OI:bp X (binaryOp .Mod) (rI (fun _ j=>0<j) fun i j=> .int (i % j)):=pZ fun i j _ _ _ _ _ hc q=>by
 have h1:(0:Int) <j:=hc
 exact mod_int' (by omega) (by rw[Int.fmod_eq_emod_of_nonneg i (by omega)];exact q)
theorem OJ:bp X (binaryOp .Pow) (rI Fo fun i j=> .int (i ^ j.toNat)):=pZ fun _ _ _ _ _ _ _ hc q=>pow_int_small hc.1 hc.2.1 hc.2.2 q
theorem OK{f:Value→Sem Value}{g:Int→Int}
  (rule: ∀(i:Int) (t:Tok) (s:Shared) (Q:Value→Shared→Prop) (E:Value→Shared→Prop),Q (.int (g i) s.toks) {s with toks:=s.toks+1}→wpAny (model X.prog X.w) X.A (f (.int i t)) Q E s):
  pY X f (rU fun i=> .int (g i)):=by
 intro pins s σ H x v Q I rx h
 obtain⟨i,rfl,q⟩:=h
 obtain⟨t,rfl⟩:=rx
 exact rule i t s _ _ ⟨.int (g i),H,I.tok _,⟨_,rfl⟩,q⟩
theorem OL:pY X (unaryOp .USub) (rU fun i=> .int (-i)):=OK fun _ _ _ _ _ q=>neg_int q
end
def jz:V→V→Bool
 | .ax, .ax=>true | .ax, .int _=>true | .int _, .ax=>true | .ax, .bl _=>true | .bl _, .ax=>true | .ax, .str _=>true | .str _, .ax=>true
 | .int _, .int _=>true | .bl _, .bl _=>true | .str _, .str _=>true | .dv _, .dv _=>true
 | .int _, .str _=>true | .str _, .int _=>true | .bl _, .str _=>true | .str _, .bl _=>true
 | _,_=>false
def OM:R2:=fun x y H Q=>jz x y=true∧Q (.bl (decide (x=y))) H
def ON:R2:=fun x y H Q=>jz x y=true∧Q (.bl (!decide (x=y))) H
theorem Fp{i j:Int}:decide (V.int i=V.int j)=(i==j):=by
 rw[Bool.eq_iff_iff]
 simp
theorem Fq{i j:Bool}:decide (V.bl i=V.bl j)=(i==j):=by
 rw[Bool.eq_iff_iff]
 simp
theorem fG{i j:Str}:decide (V.str i=V.str j)=(i==j):=by
 rw[Bool.eq_iff_iff]
 simp
theorem Fs{i j:Array UInt8}:decide (V.dv i=V.dv j)=(i.toList==j.toList):=by
 rw[Bool.eq_iff_iff]
 cases i
 cases j
 simp
section
variable {X:Cx} {a b c:Expr} {ta tb tc:TE} {pos:Pos}
theorem bR{pins:List (Addr×Obj)}{σ:St}{H:Hp}{s:Shared}{Q:VK}{k k':Bool}(I:Inv X pins σ H s)(q:Q (.bl k) H)(e:k=k'):EP X pins σ Q (.bool k') s:=by
 subst e
 exact⟨.bl k,H,I,rfl,q⟩
theorem OO:bp X (compareOp .Eq) OM:=by
 intro pins s σ H x y v u Q I rx ry h
 obtain⟨hs,q⟩:=h
 cases x with
 | ax=>
  cases rx
  cases y with
  | ax=>cases ry;exact PySem.EqNone.eq_none_none (bR I q (by simp))
  | bl j=>cases ry;exact PySem.EqNone.eq_none_bool (bR I q (by simp))
  | int j=>obtain⟨t',rfl⟩:=ry;exact PySem.EqNone.eq_none_int (bR I q (by simp))
  | str j=>obtain⟨t',rfl⟩:=ry;exact PySem.EqNone.eq_none_str (bR I q (by simp))
  | _=>exact absurd (show false=true from hs) Bool.false_ne_true
 | bl i=>
  cases rx
  cases y with
  | ax=>cases ry;exact PySem.EqNone.eq_bool_none (bR I q (by simp))
  | bl j=>cases ry;exact eq_bool (bR I q Fq)
  | str j=>obtain⟨t',rfl⟩:=ry;exact PySem.EqMixed.eq_bool_str (bR I q (by simp))
  | _=>exact absurd (show false=true from hs) Bool.false_ne_true
 | int i=>
  obtain⟨t,rfl⟩:=rx
  cases y with
  | ax=>cases ry;exact PySem.EqNone.eq_int_none (bR I q (by simp))
  | int j=>obtain⟨t',rfl⟩:=ry;exact eq_int (bR I q Fp)
  | str j=>obtain⟨t',rfl⟩:=ry;exact PySem.EqMixed.eq_int_str (bR I q (by simp))
  | _=>exact absurd (show false=true from hs) Bool.false_ne_true
 | str i=>
  obtain⟨t,rfl⟩:=rx
  cases y with
  | ax=>cases ry;exact PySem.EqNone.eq_str_none (bR I q (by simp))
  | bl j=>cases ry;exact PySem.EqMixed.eq_str_bool (bR I q (by simp))
  | int j=>obtain⟨t',rfl⟩:=ry;exact PySem.EqMixed.eq_str_int (bR I q (by simp))
  | str j=>obtain⟨t',rfl⟩:=ry;exact eq_str (bR I q fG)
  | _=>exact absurd (show false=true from hs) Bool.false_ne_true
 | dv i=>
  obtain⟨t,rfl⟩:=rx
  cases y with
  | dv j=>obtain⟨t',rfl⟩:=ry;exact PySem.W.eq_bytes (bR I q Fs)
  | _=>exact absurd (show false=true from hs) Bool.false_ne_true
 | _=>cases y<;>exact absurd (show false=true from hs) Bool.false_ne_true
theorem OP:bp X (compareOp .NotEq) ON:=by
 intro pins s σ H x y v u Q I rx ry h
 obtain⟨hs,q⟩:=h
 cases x with
 | ax=>
  cases rx
  cases y with
  | ax=>cases ry;exact PySem.EqNone.ne_none_none (bR I q (by simp))
  | bl j=>cases ry;exact PySem.EqNone.ne_none_bool (bR I q (by simp))
  | int j=>obtain⟨t',rfl⟩:=ry;exact PySem.EqNone.ne_none_int (bR I q (by simp))
  | str j=>obtain⟨t',rfl⟩:=ry;exact PySem.EqNone.ne_none_str (bR I q (by simp))
  | _=>exact absurd (show false=true from hs) Bool.false_ne_true
 | bl i=>
  cases rx
  cases y with
  | ax=>cases ry;exact PySem.EqNone.ne_bool_none (bR I q (by simp))
  | bl j=>cases ry;exact ne_bool (bR I q (congrArg not Fq))
  | str j=>obtain⟨t',rfl⟩:=ry;exact PySem.EqMixed.ne_bool_str (bR I q (by simp))
  | _=>exact absurd (show false=true from hs) Bool.false_ne_true
 | int i=>
  obtain⟨t,rfl⟩:=rx
  cases y with
  | ax=>cases ry;exact PySem.EqNone.ne_int_none (bR I q (by simp))
  | int j=>obtain⟨t',rfl⟩:=ry;exact ne_int (bR I q (congrArg not Fp))
  | str j=>obtain⟨t',rfl⟩:=ry;exact PySem.EqMixed.ne_int_str (bR I q (by simp))
  | _=>exact absurd (show false=true from hs) Bool.false_ne_true
 | str i=>
  obtain⟨t,rfl⟩:=rx
  cases y with
  | ax=>cases ry;exact PySem.EqNone.ne_str_none (bR I q (by simp))
  | bl j=>cases ry;exact PySem.EqMixed.ne_str_bool (bR I q (by simp))
  | int j=>obtain⟨t',rfl⟩:=ry;exact PySem.EqMixed.ne_str_int (bR I q (by simp))
  | str j=>obtain⟨t',rfl⟩:=ry;exact ne_str (bR I q (congrArg not fG))
  | _=>exact absurd (show false=true from hs) Bool.false_ne_true
 | dv i=>
  obtain⟨t,rfl⟩:=rx
  cases y with
  | dv j=>obtain⟨t',rfl⟩:=ry;exact PySem.W.ne_bytes (bR I q (congrArg not Fs))
  | _=>exact absurd (show false=true from hs) Bool.false_ne_true
 | _=>cases y<;>exact absurd (show false=true from hs) Bool.false_ne_true
theorem OQ:bp X (compareOp .Lt) (gZ fun i j=> .bl (decide (i<j))):=p9 fun _ _ _ _ _ _ _ q=>lt_int q
theorem OR:bp X (compareOp .LtE) (gZ fun i j=> .bl (decide (i≤j))):=p9 fun _ _ _ _ _ _ _ q=>le_int q
theorem OS:bp X (compareOp .Gt) (gZ fun i j=> .bl (decide (j<i))):=p9 fun _ _ _ _ _ _ _ q=>gt_int q
theorem OT:bp X (compareOp .GtE) (gZ fun i j=> .bl (decide (j≤i))):=p9 fun _ _ _ _ _ _ _ q=>ge_int q
theorem OU:bp X (compareOp .In) (fun x y H Q=> ∃i j,x= .str i∧y= .str j∧Q (.bl (!(Builtin.Str.occurrences j i 0 j.length 1).isEmpty)) H):=by
 intro pins s σ H x y v u Q I rx ry h
 obtain⟨i,j,rfl,rfl,q⟩:=h
 obtain⟨t,rfl⟩:=rx
 obtain⟨t',rfl⟩:=ry
 exact in_str (bR I q rfl)
theorem OV:bp X (compareOp .Is) (fun x y H Q=>y= .ax∧Q (.bl (decide (x= .ax))) H):=by
 intro pins s σ H x y v u Q I rx ry h
 obtain⟨rfl,q⟩:=h
 cases ry
 refine is_none_gen (bR I q ?_)
 cases x<;>first
  | (cases rx;rfl)
  | (obtain⟨t,rfl⟩:=rx;rfl)
theorem OW:bp X (compareOp .IsNot) (fun x y H Q=>y= .ax∧Q (.bl (!decide (x= .ax))) H):=by
 intro pins s σ H x y v u Q I rx ry h
 obtain⟨rfl,q⟩:=h
 cases ry
 refine isnot_none_gen (bR I q ?_)
 cases x<;>first
  | (cases rx;rfl)
  | (obtain⟨t,rfl⟩:=rx;rfl)
theorem OX:bp X (compareOp .NotIn) (fun x y H Q=> ∃i j,x= .str i∧y= .str j∧Q (.bl (!(!(Builtin.Str.occurrences j i 0 j.length 1).isEmpty))) H):=by
 intro pins s σ H x y v u Q I rx ry h
 obtain⟨i,j,rfl,rfl,q⟩:=h
 obtain⟨t,rfl⟩:=rx
 obtain⟨t',rfl⟩:=ry
 exact notIn_str (bR I q rfl)
theorem bp.or{f:Value→Value→Sem Value}{r r':R2}(h:bp X f r)(h':bp X f r'):bp X f (fun x y H Q=>r x y H Q∨r' x y H Q):=by
 intro pins s σ H x y v u Q I rx ry q
 rcases q with q | q
 ·exact h pins s σ H x y v u Q I rx ry q
 ·exact h' pins s σ H x y v u Q I rx ry q
theorem OY{op:CmpOp}{r:R2}(ho:bp X (compareOp op) r)(ha:PE X a ta)(hb:PE X b tb)(hm:behindInMarks op b=false):PE X (.Compare a [op] [b] pos) (dc r ta tb):=by
 intro pins s σ H Q I h
 exact wpAny_Compare1 (uD ha hb I h fun v u s2 x y H2 I2 rx ry q=>ho pins s2 σ H2 x y v u Q I2 rx ry q) hm
def mB(t:TE):TT:=fun σ H Q=>t σ H fun x H'=> ∃k,x= .bl k∧Q k H'
theorem OZ{op:CmpOp}{r:R2}(ho:bp X (compareOp op) r)(ha:PE X a ta)(hb:PE X b tb)(hm:behindInMarks op b=false):PT X (.Compare a [op] [b] pos) (mB (dc r ta tb)):=by
 intro pins s σ H Q I h
 refine wpAny_isTrue_Compare1 (aW (ha pins s σ H _ I h) fun v s1 ⟨x,H1,I1,r1,q1⟩=>aW (hb pins s1 σ H1 _ I1 q1) fun u s2 ⟨y,H2,I2,r2,q2⟩=>
  aW (ho pins s2 σ H2 x y v u _ I2 r1 r2 q2) fun c s3 ⟨z,H3,I3,r3,k,e,q3⟩=> ?_) hm
 subst e
 cases r3
 exact wpAny_truthy_bool ⟨H3,I3,q3⟩
def qc(r r':R2)(ta tb tc:TE):TE:=fun σ H Q=>ta σ H fun x H1=>tb σ H1 fun y H2=>r x y H2 fun z H3=> ∃k,z= .bl k∧
 (if k=true then tc σ H3 fun w' H4=>r' y w' H4 Q else Q (.bl false) H3)
theorem O0{op dy:CmpOp}{r r':R2}(ho:bp X (compareOp op) r)(dZ:bp X (compareOp dy) r')(ha:PE X a ta)(hb:PE X b tb)(hc:PE X c tc)
  (hm:lastMarks [op,dy] [b,c]=false:=by with_unfolding_all rfl):PE X (.Compare a [op,dy] [b,c] pos) (qc r r' ta tb tc):=by
 intro pins s σ H Q I h
 refine Compare_chain (aW (ha pins s σ H _ I h) fun v s1 ⟨x,H1,I1,r1,q1⟩=>chain_link (aW (hb pins s1 σ H1 _ I1 q1) fun u s2 ⟨y,H2,I2,r2,q2⟩=>
  aW (ho pins s2 σ H2 x y v u _ I2 r1 r2 q2) fun d s3 ⟨z,H3,I3,r3,k,e,q3⟩=> ?_)) hm
 subst e
 cases r3
 refine wpAny_truthy_bool ?_
 cases k with
 | false=>exact ite_ff ⟨.bl false,H3,I3,rfl,q3⟩
 | true=>exact ite_tt (chain_last (aW (hc pins s3 σ H3 _ I3 q3) fun w' s4 ⟨z',H4,I4,r4,q4⟩=>dZ pins s4 σ H4 y z' u w' Q I4 r2 r4 q4))
def Ft(K:PySem.W.Frag)(x:V)(H:Hp)(k:Bool):Prop:=
 match x with
 | .ax=>k=false
 | .bl b=>k=b
 | .int i=>k=(i !=0)
 | .str y=>y.length≤sizeLine∧k=((y.length:Int) !=0)
 | .dv y=>y.size≤sizeLine∧k=((y.size:Int) !=0)
 | .ref p=> (∃xs,aH K H p xs∧k= !xs.isEmpty)∨(∃xs,a_ K H p xs∧k= !xs.isEmpty)∨ ∃aM,H p=some (.dK aM)∧k= !aM.isEmpty
 | _=>False
theorem O1{κ:Type}{aM:List (κ×V)}{vs:List (κ×Value)}(r:KV aM vs):(!vs.isEmpty)= !aM.isEmpty:=by
 cases r<;>rfl
theorem Fu{xs:List V}{its:List Value}(r:Vals xs its):(!its.toArray.isEmpty)= !xs.isEmpty:=by
 cases r<;>simp
theorem iK:(sizeLine:Nat) <2 ^ 63:=by rw[sizeLine_eq];decide
theorem Fv:OC X (fun x H Q=> ∃k,Ft X.K x H k∧Q k H):=by
 intro pins s σ H x v Q I rx h
 obtain⟨k,e,q⟩:=h
 have hl:=iK
 have hs:sizeLine=16777216:=sizeLine_eq
 cases x with
 | ax=>
  cases rx
  have e':k=false:=e
  subst e'
  exact truthy_none ⟨H,I,q⟩
 | bl b=>
  cases rx
  have e':k=b:=e
  subst e'
  exact wpAny_truthy_bool ⟨H,I,q⟩
 | int i=>
  obtain⟨t,rfl⟩:=rx
  have e':k=(i !=0):=e
  subst e'
  exact PySem.P.truthy_int ⟨H,I,q⟩
 | str y=>
  obtain⟨t,rfl⟩:=rx
  obtain⟨hy,e'⟩:y.length≤sizeLine∧k=((y.length:Int) !=0):=e
  subst e'
  exact PySem.P.truthy_str (by omega) ⟨H,I.tok _,q⟩
 | dv y=>
  obtain⟨t,rfl⟩:=rx
  obtain⟨hy,e'⟩:y.size≤sizeLine∧k=((y.size:Int) !=0):=e
  subst e'
  exact PySem.W.truthy_bytes (by omega) ⟨H,I.tok _,q⟩
 | ref p=>
  cases rx
  have e':(∃xs,aH X.K H p xs∧k= !xs.isEmpty)∨(∃xs,a_ X.K H p xs∧k= !xs.isEmpty)∨ ∃aM,H p=some (.dK aM)∧k= !aM.isEmpty:=e
  rcases e' with⟨xs,hx,e'⟩ | ⟨xs,hx,e'⟩ | ⟨aM,hx,e'⟩
  ·subst e'
   obtain⟨its,r,pl,hz⟩:=I.list hx
   have hlen:=r.length
   exact wpAny_truthy_list pl.isList (by simp only[List.size_toArray];omega) ⟨H,I.tok _,by rw[Fu r];exact q⟩
  ·subst e'
   obtain⟨its,r,pl,hz⟩:=I.tuple hx
   have hlen:=r.length
   exact truthy_tuple pl (by simp only[List.size_toArray];omega) ⟨H,I.tok _,by rw[Fu r];exact q⟩
  ·subst e'
   obtain⟨hz,hS,vs,r,m⟩:aM.length≤sizeLine∧(p==sysModules)=false∧ ∃vs,KV aM vs∧s.heap.DictOf (f_ X.prog X.w) p vs:=I.aI p _ hx
   have hlen:aM.length=vs.length:=Paired.length r
   exact wpAny_truthy_dict hS m (by omega) ⟨H,I.tok _,by rw[O1 r];exact q⟩
 | _=>exact(show False from e).elim
theorem O2:bp X (binaryOp .Add) (fun x y H Q=> ∃i j,x= .str i∧y= .str j∧i.length+j.length≤sizeLine∧Q (.str (i++j)) H):=by
 intro pins s σ H x y v u Q I rx ry h
 obtain⟨i,j,rfl,rfl,hz,q⟩:=h
 obtain⟨t,rfl⟩:=rx
 obtain⟨t',rfl⟩:=ry
 exact add_str (fun t' tk=> ⟨.str (i++j),H,I.tok _,⟨_,rfl⟩,q⟩) hz
theorem vals1{x:V}{us:List Value}(r:Vals [x] us): ∃u,us=[u]∧RelV x u:=by
 cases r with
 | cons r1 r2=>cases r2;exact⟨_,rfl,r1⟩
theorem vals2{x y:V}{us:List Value}(r:Vals [x,y] us): ∃u w',us=[u,w']∧RelV x u∧RelV y w':=by
 cases r with
 | cons r1 r2=>
  cases r2 with
  | cons r3 r4=>cases r4;exact⟨_,_,rfl,r1,r3⟩
theorem O3:bY X (.builtin "abs") (fun xs H Q=> ∃i,xs=[.int i]∧Q (.int (if i<0 then -i else i)) H):=by
 intro pins s σ H xs us Q I r h
 obtain⟨i,rfl,q⟩:=h
 obtain⟨u,rfl,t,rfl⟩:=vals1 r
 exact call_abs_int fun u tk=> ⟨.int (if i<0 then -i else i),H,I.tok _,⟨_,rfl⟩,q⟩
theorem O4(hc:X.calm=true):bY X (.builtin "max") (fun xs H Q=> ∃i j,xs=[.int i, .int j]∧Q (.int (if j>i then j else i)) H):=by
 intro pins s σ H xs us Q I r h
 obtain⟨i,j,rfl,q⟩:=h
 obtain⟨u,w',rfl,⟨t,rfl⟩,⟨t',rfl⟩⟩:=vals2 r
 refine max_two_ints (I.ok.hd hc) fun h' tk k=> ⟨_,H,I.kept k, ?_,q⟩
 by_cases hj:j>i
 ·rw[if_pos hj,if_pos hj];exact⟨_,rfl⟩
 ·rw[if_neg hj,if_neg hj];exact⟨_,rfl⟩
theorem O5(hc:X.calm=true):bY X (.builtin "min") (fun xs H Q=> ∃i j,xs=[.int i, .int j]∧Q (.int (if j<i then j else i)) H):=by
 intro pins s σ H xs us Q I r h
 obtain⟨i,j,rfl,q⟩:=h
 obtain⟨u,w',rfl,⟨t,rfl⟩,⟨t',rfl⟩⟩:=vals2 r
 refine min_two_ints (I.ok.hd hc) fun h' tk k=> ⟨_,H,I.kept k, ?_,q⟩
 by_cases hj:j<i
 ·rw[if_pos hj,if_pos hj];exact⟨_,rfl⟩
 ·rw[if_neg hj,if_neg hj];exact⟨_,rfl⟩
theorem O6:bY X (.type "int") (fun xs H Q=> (∃i,xs=[.int i]∧Q (.int i) H)∨ ∃k,xs=[.bl k]∧Q (.int (if k then 1 else 0)) H):=by
 intro pins s σ H xs us Q I r h
 rcases h with⟨i,rfl,q⟩ | ⟨k,rfl,q⟩
 ·obtain⟨u,rfl,t,rfl⟩:=vals1 r
  exact call_int_int ⟨.int i,H,I,⟨_,rfl⟩,q⟩
 ·obtain⟨u,rfl,r1⟩:=vals1 r
  cases r1
  exact call_int_bool ⟨.int (if k then 1 else 0),H,I.tok _,⟨_,rfl⟩,q⟩
def Fw(K:PySem.W.Frag)(x:V)(H:Hp)(n:Nat):Prop:=
 match x with
 | .str y=>y.length≤sizeLine∧n=y.length
 | .dv y=>y.size≤sizeLine∧n=y.size
 | .ref p=> (∃xs,aH K H p xs∧n=xs.length)∨ ∃xs,a_ K H p xs∧n=xs.length
 | _=>False
theorem O7:bY X (.builtin "len") (fun xs H Q=> ∃x n,xs=[x]∧Fw X.K x H n∧Q (.int n) H):=by
 intro pins s σ H xs us Q I r h
 obtain⟨x,n,rfl,e,q⟩:=h
 obtain⟨u,rfl,rx⟩:=vals1 r
 have hl:=iK
 have hs:sizeLine=16777216:=sizeLine_eq
 cases x with
 | str y=>
  obtain⟨t,rfl⟩:=rx
  obtain⟨hy,e'⟩:y.length≤sizeLine∧n=y.length:=e
  subst e'
  exact len_str (by omega) ⟨.int _,H,I.tok _,⟨_,rfl⟩,q⟩
 | dv y=>
  obtain⟨t,rfl⟩:=rx
  obtain⟨hy,e'⟩:y.size≤sizeLine∧n=y.size:=e
  subst e'
  exact PySem.W.len_bytes (by omega) ⟨.int _,H,I.tok _,⟨_,rfl⟩,q⟩
 | ref p=>
  cases rx
  have e':(∃xs,aH X.K H p xs∧n=xs.length)∨ ∃xs,a_ X.K H p xs∧n=xs.length:=e
  rcases e' with⟨xs,hx,e'⟩ | ⟨xs,hx,e'⟩
  ·subst e'
   obtain⟨its,r',pl,hz⟩:=I.list hx
   have hlen:=r'.length
   exact Calls.call_len_list pl.isList (by simp only[List.size_toArray];omega) ⟨.int xs.length,H,I.tok _,⟨_,by simp only[List.size_toArray];rw[hlen]⟩,q⟩
  ·subst e'
   obtain⟨its,r',pl,hz⟩:=I.tuple hx
   have hlen:=r'.length
   exact len_tuple pl (by simp only[List.size_toArray];omega) ⟨.int xs.length,H,I.tok _,⟨_,by simp only[List.size_toArray];rw[hlen]⟩,q⟩
 | _=>exact(show False from e).elim
end
structure jA (h:Heap) (x dx C:Addr) (mA:Str→Option Value):Prop where
 obj:h.get? x=some (instObj C dx)
 ns:h.Ns1 dx mA
 ne:dx≠x
theorem O8{h:Heap}{dx:Addr}{mA:Str→Option Value}(n:h.Ns1 dx mA): ∃od,h.get? dx=some od∧ ∀name,lookIn name od=some (mA name):=by
 obtain⟨o,es,ep,ho,hd,hk,_,hm⟩:=n
 refine⟨o,ho,fun name=> ?_⟩
 have e:=hm name
 unfold nsFind findBy at e
 rw[←Array.find?_toList] at e
 unfold lookIn
 rw[hd]
 dsimp only
 split
 ·rename_i y q
  rw[q] at e
  exact congrArg some e
 ·rename_i q
  rw[q] at e
  have a:es.toList.any (·.refKey)=false:=by
   rw[List.any_eq_false]
   intro y hy
   obtain⟨z,t,O9⟩:=hk y (Array.mem_toList_iff.mp hy)
   simp[DictEntry.refKey,O9]
  have a': ¬es.toList.any (·.refKey)=true:=by rw[a];exact Bool.false_ne_true
  rw[if_neg a']
  exact congrArg some e
theorem jA.look{h:Heap}{x dx C:Addr}{mA:Str→Option Value}(I:jA h x dx C mA): ∃od,PySem.W.InstAt h x (instObj C dx) C (some od)∧ ∀name,lookIn name od=some (mA name):=
 let ⟨od,ho,hl⟩:=O8 I.ns
 ⟨od,⟨I.obj,rfl,rfl,ho⟩,hl⟩
section
variable {prog:Program} {w:World} {A:Around} {E:Value→Shared→Prop} {s:Shared} {K:PySem.W.Frag} {x dx C f:Addr} {mA:Str→Option Value} {name:Str} {v:Value}
theorem get_map{expr:Bool}{Q:Value→Shared→Prop}(X:K.In s.heap)(I:jA s.heap x dx C mA)(hg:plainGet K C name=true)(hh:hasDictIn K C=true)
  (ha:findIn K (.ref C) name=some none) (hv:mA name=some v) (uF:handedIn v=true) (h:Q v {s with toks:=s.toks+1}):
  wpAny (model prog w) A (getAttr (.ref x) name expr) Q E s:=by
 obtain⟨od,J,hl⟩:=I.look
 exact PySem.W.get_value X J (plainGet_of hg).1 (PySem.W.findObj_own hh ha rfl (by rw[hl,hv])) uF h
theorem O_{pl:Sem Bool}{Q:Value×List Value→Shared→Prop}(X:K.In s.heap)(I:jA s.heap x dx C mA)(hg:plainGet K C name=true)
  (hf:findIn K (.ref C) name=some (some (.ref f))) (ht:isFn K (.ref f)=true) (hv:mA name=none) (h:Q (.ref f,[.ref x]) s):
  wpAny (model prog w) A (getMethod (.ref x) name pl) Q E s:=by
 obtain⟨od,J,hl⟩:=I.look
 exact PySem.W.method_fn X J (plainGet_of hg).1 (plainGet_of hg).2 hf (beq_iff_eq.mp ht) (by show(lookIn name od).map (·.isSome)=some false;rw[hl,hv];rfl) h
theorem Pa{ns:List Str}{Q:Unit→Shared→Prop}(X:K.In s.heap)(I:jA s.heap x dx C mA)
  (hs:findIn K (.ref C) "__setattr__"=some (some (.builtin "object.__setattr__"))) (hp:plainOver K C=true) (ht:takerIn K C name=some none) (hh:hasDictIn K C=true)
  (hw:PySem.Within mA ns) (iL:ns.length≤sizeLine)
  (h: ∀h',jA h' x dx C (fun y=>if y=name then some v else mA y)→Heap.SameBut dx s.heap h'→Q () {s with heap:=h',toks:=s.toks+2}):
  wpAny (model prog w) A (setAttr (.ref x) name v) Q E s:=by
 obtain⟨od,J,hl⟩:=I.look
 refine PySem.W.set_plain X J hs (PySem.W.osa_open (s:={s with toks:=s.toks+1}) (r:=none) X J hp ht fun b=> ?_)
 obtain⟨cd,hc,uf⟩:=PySem.W.any_some hh
 have hx:s.heap.get? x=some ⟨.ref C,some dx, .plain,#[]⟩:=I.obj
 refine wpAny_bind (wpAny_pure (wpAny_bind (wpAny_bind (wpAny_loadPart hx (wpAny_bind (PySem.W.Looks.here (s:={s with toks:=s.toks+1}) (PySem.W.looks_clsIn X hc) ?_))))))
 rw[uf]
 refine wpAny_pure (a:=some dx) (wpAny_bind (wpAny_pure (wpAny_bind ?_)))
 refine wpAny_nsSet1 (s:={s with toks:=s.toks+1}) I.ns fun h' iM Fx=> ?_
 obtain⟨oD,esD,epD,Pb,Pd,Pe⟩:=iM.count (PySem.Within.cons name v hw)
 refine wpAny_bind (wpAny_lookBehind Pb (by rw[Pd];exact pastItsLine_dict (Nat.le_trans Pe (by rw[List.length_cons];omega))) ?_)
 exact wpAny_pure (h _ ⟨(Fx.2 _ (Ne.symm I.ne)).trans I.obj,iM,I.ne⟩ Fx)
theorem Pf{R:Result→Shared→Prop}{vs:List Value}{kw:List (Str×Value)}(X:K.In s.heap)(hm:makesIn K C=true)
  (hi:findIn K (.ref C) "__init__"=some (some (.ref f))) (hf:PySem.W.typeIn K (.ref f)=some (.type "function"))
  (h:codeAny (model prog w) (A.under (.builtin "type.__call__" ⟨.ref C::vs,kw⟩)) (.call (.ref f) ⟨.ref (s.heap.objs.size+1)::vs,kw⟩) (PySem.W.InitBack (s.heap.objs.size+1) R)
   {s with heap:=(s.heap.push emptyDict).push (instObj C s.heap.objs.size)}):
  codeAny (model prog w) A (.call (.ref C) ⟨vs,kw⟩) R s:=by
 obtain⟨hh,g,d,t,os⟩:=s
 exact PySem.W.make_core (PySem.W.makes_of X hm) (PySem.W.looks_findIn X hi) (fun self=>PySem.W.bind_fn X self hf) (.inl rfl) h
end
def bV(f:Str)(v:V):List (Str×V)→List (Str×V)
 | []=> [(f,v)]
 | (g,x)::r=>if g=f then (g,v)::r else (g,x)::bV f v r
theorem Fy(f g:Str)(v:V): ∀fs:List (Str×V),(bV f v fs).lookup g=if g=f then some v else fs.lookup g
 | []=>by
  show List.lookup g [(f,v)]=_
  by_cases h:g=f
  ·have hb:(g==f)=true:=beq_iff_eq.mpr h
   simp only[List.lookup,hb,if_pos h]
  ·have hb:(g==f)=false:=beq_eq_false_iff_ne.mpr h
   simp only[List.lookup,hb,if_neg h]
 | (k,x)::r=>by
  have ih:=Fy f g v r
  rw[show bV f v ((k,x)::r)=(if k=f then (k,v)::r else (k,x)::bV f v r) from rfl]
  by_cases hk:k=f
  ·rw[if_pos hk]
   by_cases h:g=k
   ·have hb:(g==k)=true:=beq_iff_eq.mpr h
    simp only[List.lookup,hb,if_pos (h.trans hk)]
   ·have hb:(g==k)=false:=beq_eq_false_iff_ne.mpr h
    simp only[List.lookup,hb,if_neg (fun e:g=f=>h (e.trans hk.symm))]
  ·rw[if_neg hk]
   by_cases h:g=k
   ·have hb:(g==k)=true:=beq_iff_eq.mpr h
    simp only[List.lookup,hb,if_neg (fun e:g=f=>hk (h.symm.trans e))]
   ·have hb:(g==k)=false:=beq_eq_false_iff_ne.mpr h
    simp only[List.lookup,hb]
    exact ih
theorem uG(f:Str)(v:V): ∀fs:List (Str×V),f∈ (bV f v fs).map (·.1)∧ ∀g,g∈fs.map (·.1)→g∈ (bV f v fs).map (·.1)
 | []=> ⟨by simp[bV],fun g h=>by simp at h⟩
 | (k,x)::r=>by
  obtain⟨i1,i2⟩:=uG f v r
  rw[show bV f v ((k,x)::r)=(if k=f then (k,v)::r else (k,x)::bV f v r) from rfl]
  by_cases hk:k=f
  ·rw[if_pos hk]
   subst hk
   exact⟨by simp,fun g h=>by simpa using h⟩
  ·rw[if_neg hk]
   refine⟨?_,fun g h=> ?_⟩
   ·rw[List.map_cons]
    exact List.mem_cons_of_mem _ i1
   ·rw[List.map_cons] at h⊢
    rcases List.mem_cons.mp h with e | e
    ·exact List.mem_cons.mpr (.inl e)
    ·exact List.mem_cons_of_mem _ (i2 g e)
theorem Fz(f:Str)(v:V): ∀fs:List (Str×V),(bV f v fs).length≤fs.length+1
 | []=>by simp[bV]
 | (k,x)::r=>by
  have ih:=Fz f v r
  rw[show bV f v ((k,x)::r)=(if k=f then (k,v)::r else (k,x)::bV f v r) from rfl]
  by_cases hk:k=f
  ·rw[if_pos hk,List.length_cons,List.length_cons];omega
  ·rw[if_neg hk,List.length_cons,List.length_cons];omega
theorem gb.some_of{v:V}{o:Option Value}(r:gb (some v) o): ∃u,o=some u∧RelV v u:=by
 cases o with
 | none=>exact(show False from r).elim
 | some u=>exact⟨u,rfl,r⟩
theorem gb.none_of{o:Option Value}(r:gb none o):o=none:=by
 cases o with
 | none=>rfl
 | some u=>exact(show False from r).elim
theorem Pg{v:V}{u:Value}(r:RelV v u):handedIn u=true:=by
 cases v with
 | ax=>cases (show u=Value.none from r);rfl
 | bl b=>cases (show u=Value.bool b from r);rfl
 | int i=>obtain⟨t,e⟩:=(show ∃t,u=Value.int i t from r);cases e;rfl
 | str x=>obtain⟨t,e⟩:=(show ∃t,u=Value.str x t from r);cases e;rfl
 | dv b=>obtain⟨t,e⟩:=(show ∃t,u=Value.bytes b t from r);cases e;rfl
 | iI b=>obtain⟨t,e⟩:=(show ∃t,u=Value.float b t from r);cases e;rfl
 | ref a=>cases (show u=Value.ref a from r);rfl
 | ty n=>cases (show u=Value.type n from r);rfl
section
variable {P:Program} {w:World} {H H':Hp} {h h':Heap} {a C dx:Addr} {fs NN:List (Str×V)}
theorem qd(aI:b_ P w H h)(e:H a=some (.ins C dx fs)): ∃mA,jA h a dx C mA∧(∀f,gb (fs.lookup f) (mA f))∧PySem.Within mA (fs.map (·.1))∧fs.length≤1000∧H dx=some (.own a):=by
 obtain⟨d,z,ne,ob,mA,n,r,q⟩:=(show cu P w H h a (.ins C dx fs) from aI a _ e)
 exact⟨mA,⟨ob,n,ne⟩,r,q,z,d⟩
end
structure d5 (K:PySem.W.Frag) (C:Addr):Prop where
 pg:plainGet K C Str.empty=true
 hd:hasDictIn K C=true
 po:plainOver K C=true
 sa:findIn K (.ref C) "__setattr__"=some (some (.builtin "object.__setattr__"))
theorem d5.get{K:PySem.W.Frag}{C:Addr}(c:d5 K C)(f:Str):plainGet K C f=true:=c.pg
def eA(K:PySem.W.Frag)(C:Addr)(f:Str):Prop:=findIn K (.ref C) f=some none
theorem eA.Ph{K:PySem.W.Frag}{C:Addr}{f:Str}(n:eA K C f):takerIn K C f=some none:=by
 unfold takerIn
 rw[show findIn K (.ref C) f=some none from n]
 rfl
structure Meth (K:PySem.W.Frag) (C:Addr) (m:Str) (f:Addr):Prop where
 at_:findIn K (.ref C) m=some (some (.ref f))
 fn:isFn K (.ref f)=true
 kp:keepIn K (.ref f)=true
section
variable {X:Cx} {pins:List (Addr×Obj)} {σ:St} {H:Hp} {s:Shared} {a C dx:Addr} {fs:List (Str×V)} {f:Str} {v:V} {A:Around} {E:Value→Shared→Prop}
theorem Pj{b:Bool}{Q:Value→Shared→Prop}(I:Inv X pins σ H s)(e:H a=some (.ins C dx fs))(c:d5 X.K C)(n:eA X.K C f)(l:fs.lookup f=some v)
  (h: ∀u s',Inv X pins σ H s'→RelV v u→Q u s'):wpAny (model X.prog X.w) A (getAttr (.ref a) f b) Q E s:=by
 obtain⟨mA,O,r,_,_,_⟩:=qd I.aI e
 obtain⟨u,hu,ru⟩:=gb.some_of (v:=v) (o:=mA f) (by rw[←l];exact r f)
 exact get_map I.cj O (c.get f) c.hd n hu (Pg ru) (h u _ (I.tok _) ru)
theorem FA{m:Str}{g:Addr}{pl:Sem Bool}{Q:Value×List Value→Shared→Prop}(I:Inv X pins σ H s)(e:H a=some (.ins C dx fs))(c:d5 X.K C)(k:Meth X.K C m g)(l:fs.lookup m=none)
  (h:Q (.ref g,[.ref a]) s):wpAny (model X.prog X.w) A (getMethod (.ref a) m pl) Q E s:=by
 obtain⟨mA,O,r,_,_,_⟩:=qd I.aI e
 have hn:mA m=none:=gb.none_of (by rw[←l];exact r m)
 exact O_ I.cj O (c.get m) k.at_ k.fn hn h
theorem Pk{y:V}{u:Value}{Q:Unit→Shared→Prop}(I:Inv X pins σ H s)(e:H a=some (.ins C dx fs))(c:d5 X.K C)(n:eA X.K C f)(hl:fs.length<1000)(ry:RelV y u)
  (h: ∀s',Inv X pins σ (upd H a (.ins C dx (bV f y fs))) s'→Q () s'):wpAny (model X.prog X.w) A (setAttr (.ref a) f u) Q E s:=by
 obtain⟨mA,O,r,wi,_,ho⟩:=qd I.aI e
 have hz:(fs.map (·.1)).length≤sizeLine:=by rw[List.length_map,sizeLine_eq];omega
 refine Pa I.cj O c.sa c.po n.Ph c.hd wi hz fun h' O' sb=>h _ ?_
 have hd: ∃o,h'.get? dx=some o:=let ⟨o,_,_,e',_⟩:=O'.ns;⟨o,e'⟩
 refine I.write (x:=a) (e:=dx) (by rw[e];exact True.intro) (.inr ho) (fun b q hb z=> (sb.2 b hb).trans z) hd ?_
 refine⟨by rw[aN O.ne];exact ho, ?_,O.ne,O'.obj,_,O'.ns,fun g=> ?_,fun g hg=> ?_⟩
 ·have:=Fz f y fs;omega
 ·show gb ((bV f y fs).lookup g) (if g=f then some u else mA g)
  rw[Fy]
  by_cases q:g=f
  ·rw[if_pos q,if_pos q];exact ry
  ·rw[if_neg q,if_neg q];exact r g
 ·by_cases q:g=f
  ·rw[q];exact(uG f y fs).1
  ·refine(uG f y fs).2 g (wi g fun z=>hg ?_)
   show(if g=f then some u else mA g)=none
   rw[if_neg q];exact z
theorem Inv.made(I:Inv X pins σ H s):Inv X pins σ (upd (upd H s.heap.objs.size (.own (s.heap.objs.size+1))) (s.heap.objs.size+1) (.ins C s.heap.objs.size []))
  {s with heap:=(s.heap.push emptyDict).push (instObj C s.heap.objs.size)}:=by
 have e1:(s.heap.push emptyDict).get? s.heap.objs.size=some emptyDict:=Heap.get?_push_size s.heap rfl
 have e2:((s.heap.push emptyDict).push (instObj C s.heap.objs.size)).get? (s.heap.objs.size+1)=some (instObj C s.heap.objs.size):=by
  have:=Heap.get?_push_size (s.heap.push emptyDict) (o:=instObj C s.heap.objs.size) rfl
  rwa [Heap.size_push] at this
 have e3:(s.heap.push emptyDict).Ns s.heap.objs.size (fun _=>none):=⟨emptyDict,#[],_,e1,rfl,(fun e he=>absurd he (by simp)),fun _=>rfl⟩
 have I1:=I.laid (a:=s.heap.objs.size) (o:= .own (s.heap.objs.size+1)) (h':=s.heap.push emptyDict) (t':=s.toks) (fun b u q=>Heap.get?_push_of_some _ q) (Nat.le_refl _) ⟨_,e1⟩
 refine I1.laid (a:=s.heap.objs.size+1) (o:= .ins C s.heap.objs.size []) (t':=s.toks) (fun b u q=>Heap.get?_push_of_some _ q) (Nat.le_of_eq (Heap.size_push _ _)) ?_
 have ne:s.heap.objs.size≠s.heap.objs.size+1:=Nat.ne_of_lt (Nat.lt_succ_self _)
 refine⟨by rw[aN ne,aS],Nat.zero_le _,ne,e2,fun _=>none,(Heap.Ns1.of_empty e3).at fun o q=>Heap.get?_push_of_some _ q,fun _=>True.intro,fun y hy=>absurd rfl hy⟩
theorem Pl{prog:Program}{w:World}{env:Env}{e:Expr}{f:Str}{pos:Pos}{s:Shared}{Q:Value→Shared→Prop}(hb:attributeBase e f env (eval e env)=eval e env)
  (h:wpAny (model prog w) A (eval e env) (fun o s₁=>wpAny (model prog w) A (getAttr o f true) Q E s₁) E s):wpAny (model prog w) A (eval (.Attribute e f pos) env) Q E s:=
 Attribute_any_ h (by rw[arm_eval_Attribute,hb])
end
def qe(K:PySem.W.Frag)(ta:TE)(f:Str):TE:=fun σ H Q=>ta σ H fun x H1=> ∃a C dx fs v,x= .ref a∧H1 a=some (.ins C dx fs)∧d5 K C∧eA K C f∧fs.lookup f=some v∧Q v H1
def uH(K:PySem.W.Frag)(ta tv:TE)(f:Str):TS:=fun D σ H=>tv σ H fun y H1=>ta σ H1 fun x H2=> ∃a C dx fs,x= .ref a∧H2 a=some (.ins C dx fs)∧d5 K C∧eA K C f∧fs.length<1000∧
 D.nx σ (upd H2 a (.ins C dx (bV f y fs)))
section
variable {X:Cx} {o e value:Expr} {f:Str} {pos pos' uI:Pos} {ta tv:TE}
theorem Pm(he:PE X e ta)(hb:attributeBase e f X.env (eval e X.env)=eval e X.env):PE X (.Attribute e f pos) (qe X.K ta f):=by
 intro pins s σ H Q I h
 refine Pl hb (aW (he pins s σ H _ I h) fun u s1 ⟨x,H1,I1,rx,a,C,dx,fs,v,ex,ea,c,n,l,q⟩=> ?_)
 subst ex
 obtain rfl:u=Value.ref a:=rx
 exact Pj I1 ea c n l fun u' s2 I2 ru=> ⟨v,H1,I2,ru,q⟩
theorem Pn(ha:PE X o ta)(hv:PE X value tv)(hs:swapsWith value (some (.Attribute o f pos')) pos.line X.env=pure false):PS X (.Assign [.Attribute o f pos'] value pos) (uH X.K ta tv f):=by
 intro pins s σ H D I h
 refine plainObj_wpAny_Assign_Attribute (aW (hv pins s σ H _ I h) fun u s1 ⟨y,H1,I1,ry,q⟩=>aW (ha pins s1 σ H1 _ I1 q) fun ov s2 ⟨x,H2,I2,rx,a,C,dx,fs,ex,ea,c,n,l,q2⟩=> ?_) hs
 subst ex
 obtain rfl:ov=Value.ref a:=rx
 exact Pk I2 ea c n l ry fun s3 I3=> ⟨σ,_,I3,q2⟩
end
section
variable {X:Cx} {pins:List (Addr×Obj)} {σ:St} {H:Hp} {s:Shared} {A:Around} {E:Value→Shared→Prop} {Q:Value→Shared→Prop} {c:Value} {b:Bool}
inductive eL (K:PySem.W.Frag) (H:Hp):V→Value→Prop where
 | ax:eL K H .ax (.type "NoneType")
 | bl (x:Bool):eL K H (.bl x) (.type "bool")
 | int (i:Int):eL K H (.int i) (.type "int")
 | str (x:Str):eL K H (.str x) (.type "str")
 | iI (x:UInt64):eL K H (.iI x) (.type "float")
 | lst {a:Addr} {xs:List V} (e:H a=some (.lst xs)):eL K H (.ref a) (.type "list")
 | bT {a:Addr} {o:Obj} {xs:List V} (e:H a=some (.bT o (.lst xs))):eL K H (.ref a) (.type "list")
 | tup {a:Addr} {xs:List V} (e:H a=some (.tup xs)):eL K H (.ref a) (.type "tuple")
 | dK {a:Addr} {aM:List (Key×V)} (e:H a=some (.dK aM)):eL K H (.ref a) (.type "dict")
 | dT {a:Addr} {aM:List (List Key×V)} (e:H a=some (.dT aM)):eL K H (.ref a) (.type "dict")
 | ins {a C dx:Addr} {fs:List (Str×V)} (e:H a=some (.ins C dx fs)) (cl:d5 K C) (ha:findIn K (.ref C) "__class__"=some (some (.builtin "object.__class__")))
   (hn:specialIn K (.builtin "object.__class__") "__get__"=some (some (.builtin "getset_descriptor.__get__"))) (nz:takesIn K (.builtin "object.__class__")=some true)
   (hm:mroIn K C (.type "object")=some true):eL K H (.ref a) (.ref C)
theorem gh{x:V}{u t:Value}(I:Inv X pins σ H s)(rx:RelV x u)(ty:eL X.K H x t)(e:kitOne X.K t c=some b)(h: ∀tk,Q (.bool b) {s with toks:=tk}):
  wpAny (model X.prog X.w) A (call (.builtin "isinstance") [u,c]) Q E s:=by
 cases ty with
 | ax=>cases (show u=Value.none from rx);exact kia_one PySem.W.kitx_none I.cj True.intro e (fun z=>nomatch z) h
 | bl y=>cases (show u=Value.bool y from rx);exact kia_one PySem.W.kitx_bool I.cj True.intro e (fun z=>nomatch z) h
 | int i=>obtain⟨t,q⟩:=(show ∃t,u=Value.int i t from rx);cases q;exact kia_one PySem.W.kitx_int I.cj True.intro e (fun z=>nomatch z) h
 | str y=>obtain⟨t,q⟩:=(show ∃t,u=Value.str y t from rx);cases q;exact kia_one PySem.W.kitx_str I.cj True.intro e (fun z=>nomatch z) h
 | iI y=>obtain⟨t,q⟩:=(show ∃t,u=Value.float y t from rx);cases q;exact kia_one PySem.W.kitx_float I.cj True.intro e (fun z=>nomatch z) h
 | @lst a xs ea=>
  cases (show u=Value.ref a from rx)
  obtain⟨_,_,n,_,h1⟩:=(show cu X.prog X.w H s.heap a (.lst xs) from I.aI a _ ea)
  exact kia_one kitx_list I.cj ⟨_,h1,rfl⟩ e (fun z=>nomatch z) h
 | @bT a ob xs ea=>
  cases (show u=Value.ref a from rx)
  obtain⟨_,_,_,n,_,h1⟩:=(show cu X.prog X.w H s.heap a (.bT ob (.lst xs)) from I.aI a _ ea)
  exact kia_one kitx_list I.cj ⟨_,h1,rfl⟩ e (fun z=>nomatch z) h
 | @tup a xs ea=>
  cases (show u=Value.ref a from rx)
  obtain⟨_,_,_,p⟩:=(show cu X.prog X.w H s.heap a (.tup xs) from I.aI a _ ea)
  obtain⟨o,h1,h2,_⟩:=p
  exact kia_one PySem.W.kitx_tuple I.cj ⟨o,h1,h2⟩ e (fun z=>nomatch z) h
 | @dK a aM ea=>
  cases (show u=Value.ref a from rx)
  obtain⟨_,_,vs,_,p⟩:=(show cu X.prog X.w H s.heap a (.dK aM) from I.aI a _ ea)
  obtain⟨o,es,ep,h1,h2,_⟩:=p
  exact kia_one kitx_dict I.cj ⟨o,h1,h2.1⟩ e (fun z=>nomatch z) h
 | @dT a aM ea=>
  cases (show u=Value.ref a from rx)
  obtain⟨_,_,xs,_,o,es,ep,h1,h2,_⟩:=(show cu X.prog X.w H s.heap a (.dT aM) from I.aI a _ ea)
  exact kia_one kitx_dict I.cj ⟨o,h1,h2.1⟩ e (fun z=>nomatch z) h
 | @ins a C dx fs ea cl ha hn nz hm=>
  cases (show u=Value.ref a from rx)
  obtain⟨mA,O,_⟩:=qd I.aI ea
  obtain⟨od,J,_⟩:=O.look
  exact kia_one (PySem.W.kitx_own (cl.get _) cl.hd ha hn nz hm) I.cj J e (fun z=>nomatch z) h
end
structure ck (k:Nat) (A:Around):Prop where
 hd:A.handled=none
 dp:A.depth+3*k+5<recursionLimit
 un:A.units+16*k+200<cLine
theorem ck.mono{j k:Nat}{A:Around}(r:ck k A)(h:j≤k):ck j A:=⟨r.hd,by have:=r.dp;omega,by have:=r.un;omega⟩
theorem ck.deeper{k:Nat}{A:Around}(r:ck (k+1) A)(env:Env):ck k (A.deeper env):=
 ⟨r.hd,by have:=r.dp;show A.depth+1+3*k+5<_;omega,by have:=r.un;show A.units+3+16*k+200<_;omega⟩
theorem Po{A:Around}{C:Addr}{us:List Value}{kw:List (Str×Value)}:(A.under (.builtin "type.__call__" ⟨.ref C::us,kw⟩)).depth=A.depth+1:=by
 first | rfl | simp[Around.under,Code.weight,Code.isCreation,Code.isGuard,Code.isCaller,Code.frames,Code.isFrame,guardIds]
theorem Pp{A:Around}{C:Addr}{us:List Value}{kw:List (Str×Value)}:(A.under (.builtin "type.__call__" ⟨.ref C::us,kw⟩)).units=A.units+1:=by
 first | rfl | simp[Around.under,Code.cUnits,Code.frames,Code.isFrame]
theorem ck.make{k:Nat}{A:Around}(r:ck (k+1) A)(C:Addr)(us:List Value)(kw:List (Str×Value)):ck k (A.under (.builtin "type.__call__" ⟨.ref C::us,kw⟩)):=
 ⟨r.hd,by have:=r.dp;rw[Po];omega,by have:=r.un;rw[Pp];omega⟩
theorem ck.depth{k:Nat}{A:Around}(r:ck k A):A.depth<recursionLimit:=by have:=r.dp;omega
theorem ck.units{k:Nat}{A:Around}(r:ck k A):A.units+64<cLine:=by have:=r.un;omega
def fI:TA:=fun _ H Q=>Q [] H
def cQ(ta:TE)(tr:TA):TA:=fun σ H Q=>ta σ H fun x H1=>tr σ H1 fun xs H2=>Q (x::xs) H2
section
variable {X:Cx} {e:Expr} {es:List Expr} {te:TE} {t:TA} {pos:Pos}
theorem qf:PA X [] fI:=fun _ _ _ _ H Q I h=>Calls.spliced_nil ⟨[],H,I, .nil,h⟩
theorem nA(ha:PE X e te)(hr:PA X es t)(hs:starEach (e::es) X.env=(false,eval e X.env)::starEach es X.env:=by rfl):PA X (e::es) (cQ te t):=by
 intro pos pins s σ H Q I h
 rw[hs]
 show wpAny _ _ (spliced ((false,eval e X.env)::backTo pos (starEach es X.env))) _ _ s
 refine Calls.spliced_cons (aW (ha pins s σ H _ I h) fun u s1 ⟨x,H1,I1,r1,q1⟩=> ?_)
 exact aW (hr pos pins s1 σ H1 _ I1 q1) fun us s2 ⟨xs,H2,I2,r2,q2⟩=> ⟨x::xs,H2,I2, .cons r1 r2,q2⟩
def FC(t:TA):TE:=fun σ H Q=>t σ H fun xs H1=>xs.length≤sizeLine∧ ∀p,H1 p=none→Q (.ref p) (upd H1 p (.tup xs))
def FD(t:TA):TE:=fun σ H Q=>t σ H fun xs H1=>xs.length≤sizeLine∧ ∀p,H1 p=none→Q (.ref p) (upd H1 p (.lst xs))
theorem Pq{x1}(h:PA X es t):PE X (.Tuple es x1 pos) (FC t):=by
 intro pins s σ H Q I hq
 refine wpAny_Tuple_spliced (aW (h pos pins s σ H _ I hq) fun us s1 ⟨xs,H1,I1,r,z,q⟩=> ⟨by rw[←r.length];exact z, ?_⟩)
 have hf:H1 s1.heap.objs.size=none:=I1.aI.fresh (Nat.le_refl _)
 refine⟨.ref s1.heap.objs.size,upd H1 s1.heap.objs.size (.tup xs),I1.laid (t':=s1.toks) (fun b u e=>Heap.get?_push_of_some _ e) (Nat.le_refl _) ?_,rfl,q _ hf⟩
 exact⟨z,us,r,⟨_,Heap.get?_push_size _ rfl,rfl,_,rfl⟩⟩
theorem Pr(h:PA X es t):PE X (.List es pos) (FD t):=by
 intro pins s σ H Q I hq
 refine wpAny_List_spliced (aW (h pos pins s σ H _ I hq) fun us s1 ⟨xs,H1,I1,r,z,q⟩=> ⟨by rw[←r.length];exact z, ?_⟩)
 have hf:H1 s1.heap.objs.size=none:=I1.aI.fresh (Nat.le_refl _)
 refine⟨.ref s1.heap.objs.size,upd H1 s1.heap.objs.size (.lst xs),I1.laid (t':=s1.toks) (fun b u e=>Heap.get?_push_of_some _ e) (Nat.le_refl _) ?_,rfl,q _ hf⟩
 exact⟨z,us,0,r,Heap.get?_push_size _ rfl⟩
end
abbrev Sp:=List V→Hp→VK→XK→Prop
abbrev aL:=List Env→Hp→Shared→XK→Value→Shared→Prop
structure iN (P:Program) (w:World) (K:PySem.W.Frag) (mg:Str→Option Value) (base:Heap) (A:Around) (outer:List Env) (s:Shared) (H:Hp):Prop where
 frames:A.frames=some outer
 mod:Mod K mg base
 bs: ∀b o,base.get? b=some o→s.heap.get? b=some o∧H b=none
 mr:base.objs.size≤s.heap.objs.size
 gd:s.heap.FunFrames base outer
 nu: ∀b∈bX outer,H b=none
 aI:b_ P w H s.heap
 bare:AllBare s.gens
def CE(outer:List Env)(P:Program)(w:World)(H:Hp)(s:Shared)(Q:VK)(u:Value)(s':Shared):Prop:=
 ∃v H',s'.os=s.os∧AllBare s'.gens∧Un (bX outer) [] H H' s.heap s'.heap∧b_ P w H' s'.heap∧RelV v u∧Q v H'
def CR(CX:aL)(outer:List Env)(P:Program)(w:World)(H:Hp)(s:Shared)(Q:VK)(E:XK)(r:Result)(s':Shared):Prop:=
 match r with
 | .ok (.ret u)=>CE outer P w H s Q u s'
 | .ok _=>False
 | .error e=>CX outer H s E e s'
structure cm (P:Program) (w:World) (K:PySem.W.Frag) (mg:Str→Option Value) (base:Heap) (CX:aL) (k:Nat) (f:Addr) (fd:FuncData) (ps:List Str) (sp:Sp):Prop where
 len: ∀vs H Q E,sp vs H Q E→vs.length=ps.length
 run: ∀(A:Around) (outer:List Env) (s:Shared) (H:Hp) (args:Args) (us:List Value) (vs:List V) (Q:VK) (E:XK),ck k A→iN P w K mg base A outer s H→BindsTo s fd args (ps.zip us)→Vals vs us→sp vs H Q E→
  codeAny (model P w) A (.call (.ref f) args) (CR CX outer P w H s Q E) s
theorem cm.mono{P:Program}{w:World}{K:PySem.W.Frag}{mg:Str→Option Value}{base:Heap}{CX:aL}{j k:Nat}{f:Addr}{fd:FuncData}{ps:List Str}{sp:Sp}(F:cm P w K mg base CX j f fd ps sp)(h:j≤k):
  cm P w K mg base CX k f fd ps sp:=⟨F.len,fun A outer s H args us vs Q E hr=>F.run A outer s H args us vs Q E (hr.mono h)⟩
theorem iN.make{P:Program}{w:World}{K:PySem.W.Frag}{mg:Str→Option Value}{base:Heap}{A:Around}{outer:List Env}{s:Shared}{H:Hp}(e:iN P w K mg base A outer s H)(C:Addr)(us:List Value)(kw:List (Str×Value)):
  iN P w K mg base (A.under (.builtin "type.__call__" ⟨.ref C::us,kw⟩)) outer s H:=⟨by first | exact e.frames | (simpa[Around.under,Code.envs,Code.isFrame,pushEnvs] using e.frames),e.mod,e.bs,e.mr,e.gd,e.nu,e.aI,e.bare⟩
section
variable {X:Cx} {pins:List (Addr×Obj)} {σ:St} {H:Hp} {s s':Shared}
theorem Inv.FE(I:Inv X pins σ H s):iN X.prog X.w X.K X.mg X.base X.A X.stack s H:=
 ⟨I.ok.frames,I.ok.mod,I.bs,Nat.le_trans I.ok.mr I.sz,I.stack,I.pO,I.aI,I.bare⟩
theorem Inv.after{Q:VK}{u:Value}(I:Inv X pins σ H s)(h:CE X.stack X.prog X.w H s Q u s'):EP X pins σ Q u s':=by
 obtain⟨v,H',os,bare,un,aI,r,q⟩:=h
 obtain⟨hh,g,d,t,Pu⟩:=s'
 obtain rfl:Pu=s.os:=os
 exact⟨v,H',I.call (h':=hh) (g':=g) (d':=d) (t':=t) (ch:=[]) un aI bare (fun b z=>absurd z (by simp)),r,q⟩
end
def uJ(sp:Sp)(de:List V)(E:XK)(t:TA):TE:=fun σ H Q=>t σ H fun vs H1=>sp (vs++de) H1 Q E
def jB(C:Addr)(m:Str)(sp:Sp)(de:List V)(E:XK)(ta:TE)(t:TA):TE:=fun σ H Q=>ta σ H fun x H1=> ∃a dx fs,x= .ref a∧H1 a=some (.ins C dx fs)∧fs.lookup m=none∧
 t σ H1 fun vs H2=>sp (x::(vs++de)) H2 Q E
def nB(C:Addr)(sp:Sp)(de:List V)(E:XK)(t:TA):TE:=fun σ H Q=>t σ H fun vs H1=> ∀x dx,H1 x=none→H1 dx=none→dx≠x→
 sp (.ref x::(vs++de)) (upd (upd H1 dx (.own x)) x (.ins C dx [])) (fun v H2=>v= .ax∧Q (.ref x) H2) E
def Binds(K:PySem.W.Frag)(fd:FuncData)(ps:List Str)(ds:List Value):Prop:=
 ∀(s:Shared) (us:List Value),K.In s.heap→(us++ds).length=ps.length→BindsTo s fd ⟨us,[]⟩ (ps.zip (us++ds))
theorem Binds.all{K:PySem.W.Frag}{fd:FuncData}{ps:List Str}(h: ∀us:List Value,us.length=ps.length→bindArgs fd ⟨us,[]⟩=pure (ps.zip us)):Binds K fd ps []:=fun s us _ hl=>by
 rw[List.append_nil] at hl⊢
 exact .of_eq (h us hl)
def Passes(CX:aL)(X:Cx)(E:XK):Prop:= ∀(pins:List (Addr×Obj)) (σ:St) (H:Hp) (s:Shared) (e:Value) (s':Shared),Inv X pins σ H s→CX X.stack H s E e s'→X.xe e s'
section
variable {X:Cx} {CX:aL} {k:Nat} {f C:Addr} {fd:FuncData} {ps:List Str} {sp:Sp} {de:List V} {ds:List Value} {E:XK} {x m:Str} {p pos apos:Pos} {e o:Expr} {es:List Expr} {ta:TE} {t:TA}
theorem uK{pins:List (Addr×Obj)}{σ:St}{H:Hp}{s:Shared}{Q:VK}{us:List Value}{vs:List V}(F:cm X.prog X.w X.K X.mg X.base CX k f fd ps sp)(hr:ck k X.A)(hb:Binds X.K fd ps ds)(hd:Vals de ds)(hx:Passes CX X E)
  (I:Inv X pins σ H s) (r:Vals vs us) (h:sp (vs++de) H Q E):wpAny (model X.prog X.w) X.A (call (.ref f) us) (EP X pins σ Q) X.xe s:=by
 have r2:Vals (vs++de) (us++ds):=r.append hd
 have hl:(us++ds).length=ps.length:=by rw[←r2.length];exact F.len _ _ _ _ h
 refine wpAny_call (codeAny_mono (F.run X.A X.stack s H ⟨us,[]⟩ (us++ds) (vs++de) Q E hr I.FE (hb s us I.cj hl) r2 h) fun r s' hq=> ?_)
 cases r with
 | error e=>exact hx pins σ H s e s' I hq
 | ok fl=>
  cases fl with
  | ret u=>exact I.after hq
  | next=>exact False.elim hq
  | brk=>exact False.elim hq
  | cont=>exact False.elim hq
theorem Pw(F:cm X.prog X.w X.K X.mg X.base CX k f fd ps sp)(hr:ck k X.A)(hg:Gl X x)(hm:X.mg x=some (.ref f))(hk:keepIn X.K (.ref f)=true)(hb:Binds X.K fd ps ds)(hd:Vals de ds)(hx:Passes CX X E)
  (ha:PA X (e::es) t) (g4:(x==("__debug__":Str))=false:=by decide) (he:starEach (e::es) X.env=(false,eval e X.env)::starEach es X.env:=by rfl) (g5:(backTo pos (starEach es X.env)).any (·.1)=false:=by rfl):
  PE X (.Call (.Name x p) (e::es) [] pos) (uJ sp de E t):=by
 intro pins s σ H Q I h
 refine wpAny_Call_Name_kw (pQ I hg hm ?_ g4)
 refine callWith_K (h₀:=X.base) I.ok.mod.nk hk (aW (ha pos pins s σ H _ I h) fun us s1 ⟨vs,H1,I1,r,q⟩=> ⟨I1.cj, ?_⟩) he g5
 exact uK F hr hb hd hx I1 r q
structure Mk (K:PySem.W.Frag) (C f:Addr):Prop where
 makes:makesIn K C=true
 init:findIn K (.ref C) "__init__"=some (some (.ref f))
 fn:isFn K (.ref f)=true
 kp:keepIn K (.ref C)=true
theorem FF{pins:List (Addr×Obj)}{σ:St}{H:Hp}{s:Shared}{Q:VK}{us:List Value}{vs:List V}(M:Mk X.K C f)(F:cm X.prog X.w X.K X.mg X.base CX k f fd ps sp)(hr:ck (k+1) X.A)(hb:Binds X.K fd ps ds)(hd:Vals de ds)
  (hx:Passes CX X E) (I:Inv X pins σ H s) (r:Vals vs us)
  (h: ∀x dx,H x=none→H dx=none→dx≠x→sp (.ref x::(vs++de)) (upd (upd H dx (.own x)) x (.ins C dx [])) (fun v H2=>v= .ax∧Q (.ref x) H2) E):
  wpAny (model X.prog X.w) X.A (call (.ref C) us) (EP X pins σ Q) X.xe s:=by
 have hq:=h (s.heap.objs.size+1) s.heap.objs.size (I.aI.fresh (Nat.le_succ _)) (I.aI.fresh (Nat.le_refl _)) (Nat.ne_of_lt (Nat.lt_succ_self _))
 have I2:=Inv.made (C:=C) I
 have r2:Vals (V.ref (s.heap.objs.size+1)::(vs++de)) (Value.ref (s.heap.objs.size+1)::(us++ds)):= .cons rfl (r.append hd)
 have hl:(Value.ref (s.heap.objs.size+1)::us++ds).length=ps.length:=by
  have e:=r2.length
  rw[F.len _ _ _ _ hq] at e
  exact e.symm
 refine wpAny_call (Pf (f:=f) I.cj M.makes M.init (beq_iff_eq.mp M.fn) (codeAny_mono (F.run _ X.stack _ _ ⟨Value.ref (s.heap.objs.size+1)::us,[]⟩ (Value.ref (s.heap.objs.size+1)::(us++ds)) _ _ E (hr.make C us [])
  (I2.FE.make C us []) (hb _ (Value.ref (s.heap.objs.size+1)::us) I2.cj hl) r2 hq) fun r s' nC=> ?_))
 cases r with
 | error e=>exact hx pins σ _ _ e s' I2 nC
 | ok fl=>
  cases fl with
  | ret u=>
   obtain⟨v,H',I3,rv,ev,q3⟩:=I2.after nC
   subst ev
   exact⟨rv,⟨V.ref (s.heap.objs.size+1),H',I3,rfl,q3⟩⟩
  | next=>exact False.elim nC
  | brk=>exact False.elim nC
  | cont=>exact False.elim nC
theorem Px(M:Mk X.K C f)(F:cm X.prog X.w X.K X.mg X.base CX k f fd ps sp)(hr:ck (k+1) X.A)(hg:Gl X x)(hm:X.mg x=some (.ref C))(hb:Binds X.K fd ps ds)(hd:Vals de ds)(hx:Passes CX X E)
  (ha:PA X (e::es) t) (g4:(x==("__debug__":Str))=false:=by decide) (he:starEach (e::es) X.env=(false,eval e X.env)::starEach es X.env:=by rfl) (g5:(backTo pos (starEach es X.env)).any (·.1)=false:=by rfl):
  PE X (.Call (.Name x p) (e::es) [] pos) (nB C sp de E t):=by
 intro pins s σ H Q I h
 refine wpAny_Call_Name_kw (pQ I hg hm ?_ g4)
 refine callWith_K (h₀:=X.base) I.ok.mod.nk M.kp (aW (ha pos pins s σ H _ I h) fun us s1 ⟨vs,H1,I1,r,q⟩=> ⟨I1.cj, ?_⟩) he g5
 exact FF M F hr hb hd hx I1 r q
theorem Py(M:Mk X.K C f)(F:cm X.prog X.w X.K X.mg X.base CX k f fd ps sp)(hr:ck (k+1) X.A)(hg:Gl X x)(hm:X.mg x=some (.ref C))(hb:Binds X.K fd ps ds)(hd:Vals de ds)(hx:Passes CX X E)
  (g4:(x==("__debug__":Str))=false:=by decide):PE X (.Call (.Name x p) [] [] pos) (nB C sp de E fI):=by
 intro pins s σ H Q I h
 refine wpAny_Call_Name_kw (pQ I hg hm ?_ g4)
 exact callWith_K0 I.cj M.kp (FF (us:=[]) M F hr hb hd hx I .nil h)
end
section
variable {X:Cx} {CX:aL} {k:Nat} {f C:Addr} {fd:FuncData} {ps ks:List Str} {sp:Sp} {E:XK} {x m:Str} {p pos apos aoh:Pos} {e o:Expr} {es:List Expr} {kws:List Keyword} {te ta:TE} {t tk:TA} {nm:Option Str}
variable {g:List Value→List Value→List Value} {gV:List V→List V→List V}
end
structure bj (N P:List Str) (sc:Scope):Prop where
 kind:sc.kind= .function
 co:sc.isCoroutine=false
 gen:sc.isGenerator=false
 nd:N.Nodup
 pre:N.take P.length=P
 par: ∀x∈P,sc.names.lookup x=some .local∨sc.names.lookup x=some .cell
 Pz: ∀y∈sc.names,y.2≠ .free
theorem bA{N P:List Str}{sc:Scope}(a:sc.kind= .function:=by kernel_rfl)(b:sc.isCoroutine=false:=by kernel_rfl)(c:sc.isGenerator=false:=by kernel_rfl)(d:N.Nodup:=by decide+kernel)(e:N.take P.length=P:=by kernel_rfl)(f: ∀x∈P,sc.names.lookup x=some .local∨sc.names.lookup x=some .cell:=by decide+kernel)(g: ∀y∈sc.names,y.2≠ .free:=by decide+kernel):bj N P sc:=⟨a,b,c,d,e,f,g⟩
theorem FG{kindOf:Str→Option NameKind}{x:Str}: ∀{binds:List (Str×Value)} {m:Str→Option Value},(∀v,(x,v)∉binds)→bindL kindOf binds m x=m x
 | [],_,_=>rfl
 | (n,v)::r,m,h=>by
  unfold bindL
  rw[FG fun w hw=>h w (List.mem_cons_of_mem _ hw)]
  split
  ·have:x≠n:=by rintro rfl;exact h v List.mem_cons_self
   simp[this]
  ·rfl
theorem FH{kindOf:Str→Option NameKind}{x:Str}: ∀{binds:List (Str×Value)} {m:Str→Option Value},(∀v,(x,v)∉binds)→bindC kindOf binds m x=m x
 | [],_,_=>rfl
 | (n,v)::r,m,h=>by
  unfold bindC
  rw[FH fun w hw=>h w (List.mem_cons_of_mem _ hw)]
  split
  ·rfl
  ·have:x≠n:=by rintro rfl;exact h v List.mem_cons_self
   simp[this]
theorem FI{kindOf:Str→Option NameKind}{x:Str}{v:Value}: ∀{P:List Str} {vs:List Value} {i:Nat} {m:Str→Option Value},P.Nodup→P[i]?=some x→vs[i]?=some v→kindOf x=some .local→
  bindL kindOf (P.zip vs) m x=some v
 | [],_,_,_,_,h,_,_=>by simp at h
 | _::_,[],_,_,_,_,h,_=>by simp at h
 | p::P,w::vs,0,m,nd,h1,h2,hk=>by
  simp at h1 h2;subst h1;subst h2
  show bindL kindOf ((p,w)::P.zip vs) m p=_
  unfold bindL
  rw[FG fun v hv=> (List.nodup_cons.mp nd).1 (List.of_mem_zip hv).1,if_pos hk]
  simp
 | p::P,w::vs,i+1,m,nd,h1,h2,hk=>by
  show bindL kindOf ((p,w)::P.zip vs) m x=_
  unfold bindL
  exact FI (i:=i) (List.nodup_cons.mp nd).2 (by simpa using h1) (by simpa using h2) hk
theorem FJ{kindOf:Str→Option NameKind}{x:Str}{v:Value}: ∀{P:List Str} {vs:List Value} {i:Nat} {m:Str→Option Value},P.Nodup→P[i]?=some x→vs[i]?=some v→kindOf x≠some .local→
  bindC kindOf (P.zip vs) m x=some v
 | [],_,_,_,_,h,_,_=>by simp at h
 | _::_,[],_,_,_,_,h,_=>by simp at h
 | p::P,w::vs,0,m,nd,h1,h2,hk=>by
  simp at h1 h2;subst h1;subst h2
  show bindC kindOf ((p,w)::P.zip vs) m p=_
  unfold bindC
  rw[FH fun v hv=> (List.nodup_cons.mp nd).1 (List.of_mem_zip hv).1,if_neg hk]
  simp
 | p::P,w::vs,i+1,m,nd,h1,h2,hk=>by
  show bindC kindOf ((p,w)::P.zip vs) m x=_
  unfold bindC
  exact FJ (i:=i) (List.nodup_cons.mp nd).2 (by simpa using h1) (by simpa using h2) hk
def start(N:List Str)(vs:List V):St:=vs.map some++List.replicate (N.length - vs.length) none
def jC(CX:aL)(P:Program)(w:World)(K:PySem.W.Frag)(mg:Str→Option Value)(base:Heap)(N:List Str)(qual:Str)(scope:Scope)(f:Addr)(cd:Value)(A:Around)(outer:List Env)(s:Shared)(H:Hp)(E:XK):Cx where
 prog:=P
 w:=w
 K:=K
 mg:=mg
 base:=base
 A:=A.deeper (envOfC qual scope s.heap.objs.size f cd)
 N:=N
 s₀:=s
 H₀:=H
 env:=envOfC qual scope s.heap.objs.size f cd
 outer:=outer
 stack:=envOfC qual scope s.heap.objs.size f cd::outer
 ex:=[]
 calm:=true
 fn:=fun _=>true
 pn:=[]
 xe:=fun e s'=>wpAny (model P w) (A.deeper (envOfC qual scope s.heap.objs.size f cd)) (leaving (envOfC qual scope s.heap.objs.size f cd) e) (fun _ g6=>CX outer H s E e g6) (fun e' g6=>CX outer H s E e' g6) s'
theorem FK{sc:Scope}{n:Nat}{x:Str}(h:sc.names.lookup x=some .cell): ∃c,(cellsFrom n sc.names []).lookup x=some c:=by
 have q:=cellsFrom_some sc.names n [] (.inl h)
 exact Option.isSome_iff_exists.mp q
theorem PB{CX:aL}{P:Program}{w:World}{K:PySem.W.Frag}{mg:Str→Option Value}{base:Heap}{N ps:List Str}{qual:Str}{scope:Scope}{f:Addr}{cd:Value}{A:Around}{outer:List Env}{s s1:Shared}{H:Hp}{E:XK}{us:List Value}{vs:List V}
  (S:bj N ps scope) (hd:A.handled=none) (e0:iN P w K mg base A outer s H) (hl:vs.length=ps.length) (r:Vals vs us)
  (x:InCallC s s.heap.objs.size (bindL (envOfC qual scope s.heap.objs.size f cd).kindOf (ps.zip us) fun _=>none) (cellsFrom (s.heap.objs.size+1) scope.names []) (bindC (envOfC qual scope s.heap.objs.size f cd).kindOf (ps.zip us) fun _=>none) s1):
  Inv (jC CX P w K mg base N qual scope f cd A outer s H E) [] (start N vs) H s1:=by
 have g5:ps.length≤N.length:=by have:=congrArg List.length S.pre;rw[List.length_take] at this;omega
 obtain⟨h1,tk,rfl,hk⟩:=x.done
 have nE: ∀b:Addr,b∉ (jC CX P w K mg base N qual scope f cd A outer s H E).ex:=fun b z=>absurd (show b∈ ([]:List Addr) from z) (by simp)
 refine⟨⟨e0.mod,S.kind,rfl,rfl,Nat.le_refl _,fun y z c h1 h2=> ?_,fun y hy=> ?_,fun y c _ h=> ?_,fun _=>hd,Around.frames_deeper e0.frames, .inr ⟨rfl,rfl⟩,fun b z=>absurd z (nE b),e0.bs,e0.mr,fun b _ _=>nE b,fun b z=>absurd z (nE b),e0.gd,e0.nu⟩,
  rfl,e0.bare,Un.kept hk,⟨_,x.toInCall.ns,fun i y v h1 h2 h3=> ?_⟩,fun y c h=> ⟨_,x.cell y c h⟩,e0.aI.fresh (Nat.le_refl _),fun y c h=> ?_,fun p hp=>absurd (show p∈ ([]:List (Addr×Obj)) from hp) (by simp),e0.aI.kept hk, ?_⟩
 ·exact name_of_addr x.apart (PySem.mem_of_lookup h1) (PySem.mem_of_lookup h2)
 ·have hy:scope.names.lookup y=some .cell∨scope.names.lookup y=some .free:=hy
  rcases hy with hy | hy
  ·exact FK hy
  ·exact absurd rfl (S.Pz _ (PySem.mem_of_lookup hy))
 ·exact Nat.le_of_lt (x.above y c (PySem.mem_of_lookup h))
 ·have hi:i<vs.length:=by
   unfold start at h2
   by_cases hi:i<vs.length
   ·exact hi
   ·rw[List.getElem?_append_right (by simpa using hi)] at h2
    rw[List.getElem?_replicate] at h2
    split at h2<;>cases h2
  have ha:vs[i]?=some v:=by
   unfold start at h2
   rw[List.getElem?_append_left (by simpa using hi),List.getElem?_map] at h2
   cases e:vs[i]? with
   | none=>rw[e] at h2;cases h2
   | some a=>rw[e] at h2;cases h2;rfl
  obtain⟨u,hu,rv⟩:=r.get ha
  have hp:ps[i]?=some y:=by
   rw[←S.pre,List.getElem?_take_of_lt (by omega)];exact h1
  have FL:ps.Nodup:=by rw[←S.pre];exact S.nd.sublist (List.take_sublist _ _)
  refine⟨u,rv, ?_⟩
  rcases S.par y (List.mem_of_getElem? hp) with k | k
  ·exact .inl ⟨k,FI FL hp hu k⟩
  ·obtain⟨c,e⟩:=FK (n:=s.heap.objs.size+1) k
   refine .inr ⟨.inl k,c,e, ?_⟩
   have q:=x.cell y c e
   rw[FJ FL hp hu (by show scope.names.lookup y≠_;rw[k];decide)] at q
   exact q
 ·exact e0.aI.fresh (Nat.le_of_lt (x.above y c (PySem.mem_of_lookup h)))
 ·unfold start
  show _=N.length
  rw[List.length_append,List.length_map,List.length_replicate]
  omega
theorem FN{CX:aL}{P:Program}{w:World}{K:PySem.W.Frag}{mg:Str→Option Value}{base:Heap}{k:Nat}{f:Addr}{name qual:Str}{params:Arguments}{body:List Stmt}{scope:Scope}{dV kV doc pm cR ct oc:Value}{an od:Option Addr}
  {g7:Array (Option Value)} {N ps:List Str} {sp:Sp} (lk:K.lookup f=some ⟨oc,od, .func (fnOf name qual params body scope dV kV doc pm an cR ct),g7⟩) (fF:codeIn K cR qual=true) (S:bj N ps scope)
  (len: ∀vs H Q E,sp vs H Q E→vs.length=ps.length)
  (PC: ∀(A:Around) (outer:List Env) (s:Shared) (H:Hp) (vs:List V) (Q:VK) (E:XK),ck k (A.deeper (envOfC qual scope s.heap.objs.size f cR))→sp vs H Q E→
   ∃t,aY (jC CX P w K mg base N qual scope f cR A outer s H E) body t∧t {nx:=fun _ H'=>Q .ax H',rt:=Q} (start N vs) H):
  cm P w K mg base CX (k+1) f (fnOf name qual params body scope dV kV doc pm an cR ct) ps sp:=by
 refine⟨len,fun A outer s H args us vs Q E hr e0 hb r iO=> ?_⟩
 have hl:=len _ _ _ _ iO
 have KX:K.In s.heap:=e0.mod.nk.keeps fun b o e=> (e0.bs b o e).1
 have lim:s.heap.NoLimit:=e0.mod.nolimit.keeps fun b o e=> (e0.bs b o e).1
 have PD: ∀y∈ps.zip us,scope.names.lookup y.1=some .local∨(scope.names.lookup y.1=some .cell∧((cellsFrom (s.heap.objs.size+1) scope.names []).lookup y.1).isSome=true):=fun⟨n,v⟩ hy=>by
  rcases S.par n (List.of_mem_zip hy).1 with q | q
  ·exact .inl q
  ·exact .inr ⟨q,cellsFrom_some _ _ _ (.inl q)⟩
 refine codeAny_call_function hr.depth (KX _ _ lk) rfl S.co S.gen rfl (PySem.W.codeRec_of KX fF) (hb _ _ _ _ ?_)
 refine wpAny_newFunctionEnv_cells S.kind PD fun env he s1 x=> ?_
 subst he
 refine⟨lim.keeps x.toInCall.keep,codeAny_func ?_⟩
 obtain⟨t,ht,hq⟩:=PC A outer s H vs Q E (hr.deeper _) iO
 have I:Inv (jC CX P w K mg base N qual scope f cR A outer s H E) [] (start N vs) H s1:=PB S hr.hd e0 hl r x
 refine wpAny_mono (ht [] s1 (start N vs) H _ I hq) (fun fl s' hs=> ?_) fun e s' hs=>hs
 have fin: ∀{σ':St} {H':Hp} {v:V} {u:Value},Inv (jC CX P w K mg base N qual scope f cR A outer s H E) [] σ' H' s'→RelV v u→Q v H'→CE outer P w H s Q u s':=
  fun {σ' H' v u} J rv q=> ⟨v,H',J.os,J.bare,J.base,J.aI,rv,q⟩
 cases fl with
 | ret u=>
  obtain⟨v,σ',H',J,rv,q⟩:=hs
  exact fin J rv q
 | next=>
  obtain⟨σ',H',J,q⟩:=hs
  exact fin (v:=V.ax) (u:=Value.none) J rfl q
 | brk=>
  obtain⟨_,_,_,q⟩:=hs
  exact False.elim q
 | cont=>
  obtain⟨_,_,_,q⟩:=hs
  exact False.elim q
section
variable {X:Cx} {x:Str} {p pos:Pos} {e:Expr} {es:List Expr} {t:TA} {id T:String} {r:List V→Hp→VK→Prop}
def cU(r:List V→Hp→VK→Prop)(t:TA):TE:=fun σ H Q=>t σ H fun vs H1=>r vs H1 Q
theorem uL(hc:bY X (.builtin id) r)(hg:Gl X x)(hm:X.mg x=none)(hv:bootBuiltins x=some (.builtin id))(ha:PA X (e::es) t)(hn:x≠"__name__":=by decide)(g4:(x==("__debug__":Str))=false:=by decide)
  (he:starEach (e::es) X.env=(false,eval e X.env)::starEach es X.env:=by rfl) (g5:(backTo pos (starEach es X.env)).any (·.1)=false:=by rfl):PE X (.Call (.Name x p) (e::es) [] pos) (cU r t):=by
 intro pins s σ H Q I h
 refine wpAny_Call_Name_kw (ny I hg hm hv ?_ hn g4)
 exact PyProof.Rows.callWith_builtin1 (aW (ha pos pins s σ H _ I h) fun us s1 ⟨vs,H1,I1,r1,q1⟩=>hc pins s1 σ H1 vs us Q I1 r1 q1) he g5
theorem PF(hc:bY X (.type T) r)(hg:Gl X x)(hm:X.mg x=none)(hv:bootBuiltins x=some (.type T))(ha:PA X (e::es) t)(hn:x≠"__name__":=by decide)(g4:(x==("__debug__":Str))=false:=by decide)
  (he:starEach (e::es) X.env=(false,eval e X.env)::starEach es X.env:=by rfl) (g5:(backTo pos (starEach es X.env)).any (·.1)=false:=by rfl):PE X (.Call (.Name x p) (e::es) [] pos) (cU r t):=by
 intro pins s σ H Q I h
 refine wpAny_Call_Name_kw (ny I hg hm hv ?_ hn g4)
 exact PyProof.Rows.callWith_type1 (aW (ha pos pins s σ H _ I h) fun us s1 ⟨vs,H1,I1,r1,q1⟩=>hc pins s1 σ H1 vs us Q I1 r1 q1) he g5
end
end L2
namespace HT
open PySem PyProof.Rows
section
open PySem.SeqAt
open PySem.AutoSeq1 (wpAny_loadPart')
open PySem.MeetsSeq PySem.MeetsSeq2 PySem.MeetsSeq3
end
section
variable {prog:Program} {w:World} {A:Around} {E:Value→Shared→Prop} {s:Shared}
theorem PH{t b:Addr}{vs ws:List Value}{Q:Value→Shared→Prop}(ht:IsTup s.heap t vs.toArray)(hb:IsTup s.heap b ws.toArray)(hv:vs≠ [])
  (h1:ws=[]→Q (.ref t) s) (h2:ws≠ []→Q (.ref s.heap.objs.size) {s with heap:=s.heap.push {cls:= .type "tuple",data:= .seq (vs++ws).toArray}})
  (iL:vs.length+ws.length≤sizeLine):wpAny (model prog w) A (binaryOp .Add (.ref t) (.ref b)) Q E s:=by
 obtain⟨⟨cls,dd,data,sl⟩,ho,hc,n,hd⟩:=id ht
 obtain⟨⟨aoj,FO,data2,nF⟩,iP,FP,n2,hd2⟩:=id hb
 simp only at hc hd FP hd2
 subst hc hd FP hd2
 have e:vs.toArray++ws.toArray=(vs++ws).toArray:=by simp
 by_cases hw:ws=[]
 ·exact concat_meets ⟨_,ho,rfl⟩ ⟨_,iP,rfl⟩ noFill_tuple_add seq_tuple_add PySem.F.slot_tuple_add PySem.F.entry_tuple_add (PySem.F.args_tuple_add_2 _ _)
   (tuple_addW1 t b vs.toArray ws.toArray n n2 dd FO sl nF (by simpa using hv) (by simp[hw])) ⟨ho,iP,h1 hw⟩
 ·refine concat_meets ⟨_,ho,rfl⟩ ⟨_,iP,rfl⟩ noFill_tuple_add seq_tuple_add PySem.F.slot_tuple_add PySem.F.entry_tuple_add (PySem.F.args_tuple_add_2 _ _)
   (tuple_addW2 t b vs.toArray ws.toArray n n2 dd FO sl nF (by simpa using hv) (by simpa using hw) (by rw[List.size_toArray,List.size_toArray];exact iL)) ⟨ho,iP, ?_⟩
  rw[e]
  exact h2 hw
def bh(n d:Nat):Option Int→Nat
 | none=>d
 | some v=>if v<0 then (v+ (n:Int)).toNat else min v.toNat n
theorem mD(n d k:Nat):bh n d (some (k:Int))=min k n:=by
 show(if (k:Int) <0 then ((k:Int)+ (n:Int)).toNat else min (k:Int).toNat n)=min k n
 rw[if_neg (by omega),Int.toNat_natCast]
theorem uM(n d:Nat)(hd:d≤n)(o:Option Int):bh n d o≤n:=by
 cases o with
 | none=>exact hd
 | some v=>
  show(if v<0 then (v+ (n:Int)).toNat else min v.toNat n)≤n
  by_cases hv:v<0
  ·rw[if_pos hv];omega
  ·rw[if_neg hv];exact Nat.min_le_right _ _
theorem FQ(v:Int)(n d:Nat):(if v<0 then max (v+ (n:Int)) 0 else min v (n:Int))=((bh n d (some v):Nat):Int):=by
 show(if v<0 then max (v+ (n:Int)) 0 else min v (n:Int))=(((if v<0 then (v+ (n:Int)).toNat else min v.toNat n):Nat):Int)
 by_cases hv:v<0
 ·simp only[if_pos hv];omega
 ·simp only[if_neg hv];omega
theorem PJ(lo hi:Option Int)(n:Nat):Builtin.Slice.sliceAdjust lo hi 1 (n:Int)=(((bh n 0 lo:Nat):Int),((bh n n hi:Nat):Int)):=by
 have h1: ¬((1:Int) <0):=by omega
 unfold Builtin.Slice.sliceAdjust
 simp only[h1,if_false]
 refine Prod.ext ?_ ?_
 ·cases lo with
  | none=>rfl
  | some v=>exact FQ v n 0
 ·cases hi with
  | none=>rfl
  | some v=>exact FQ v n n
theorem PK(i j:Nat):Builtin.Slice.slicePlaces (i:Int) (j:Int) 1=j - i:=by
 unfold Builtin.Slice.slicePlaces
 have h1:(1:Int) >0:=by omega
 simp only[h1,if_true,Int.ediv_one]
 split<;>omega
theorem FR{v:Value}{o:Option Int}{Q:Option Int→Shared→Prop}(p:IsPart v o)(h:Q o s):wpAny (model prog w) A (Builtin.Slice.slicePartIndex v) Q E s:=by
 cases p with
 | none=>exact slicePart_none h
 | int i t=>exact slicePart_int h
theorem PL{sl:Addr}{vl vu:Value}{lo hi:Option Int}{n:Nat}{Q:Int×Int×Nat→Shared→Prop}(hs:s.heap.IsSliceOf sl vl vu .none)(pl:IsPart vl lo)(pu:IsPart vu hi)
  (h:Q (((bh n 0 lo:Nat):Int),1,bh n n hi - bh n 0 lo) s):wpAny (model prog w) A (Builtin.Slice.sliceApplied (.ref sl) (pure (n:Int))) Q E s:=by
 obtain⟨os,nG,FT,qg⟩:=id hs
 unfold Builtin.Slice.sliceApplied Builtin.Slice.sliceFields
 refine wpAny_bind (wpAny_bind (wpAny_field nG qg (x:=vl) rfl (wpAny_bind (wpAny_field nG qg (x:=vu) rfl (wpAny_bind (wpAny_field nG qg (x:= .none) rfl (wpAny_pure ?_)))))))
 refine wpAny_bind (slicePart_none ?_)
 show wpAny _ _ (if ((1:Int)==0)=true then _ else _) _ _ s
 rw[if_neg (by decide)]
 refine wpAny_bind (FR pl (wpAny_bind (FR pu (wpAny_bind (wpAny_pure ?_)))))
 show wpAny _ _ (match Builtin.Slice.sliceAdjust lo hi 1 (n:Int) with | (lo,hi)=>pure (lo,(1:Int),Builtin.Slice.slicePlaces lo hi 1)) _ _ s
 rw[PJ lo hi n]
 show wpAny _ _ (pure (((bh n 0 lo:Nat):Int),(1:Int),Builtin.Slice.slicePlaces ((bh n 0 lo:Nat):Int) ((bh n n hi:Nat):Int) 1)) _ _ s
 rw[PK]
 exact wpAny_pure h
theorem PM(xs:Array Value)(i k:Nat):((List.range k).filterMap fun(m:Nat)=>xs[((i:Int)+ (m:Int)*1).toNat]?).toArray=((xs.toList.drop i).take k).toArray:=by
 have e:(fun(m:Nat)=>xs[((i:Int)+ (m:Int)*1).toNat]?)=fun m=>xs[i+m]?:=by
  funext m
  have:((i:Int)+ (m:Int)*1).toNat=i+m:=by omega
  rw[this]
 rw[e]
 have:=pick_run xs i k
 rw[List.filterMap_map] at this
 have e2:((fun x=>xs[x]?)∘fun x=>i+x)=fun m=>xs[i+m]?:=rfl
 rw[e2] at this
 rw[this]
theorem PN{t sl:Addr}{items:Array Value}{vl vu:Value}{lo hi:Option Int}{Q:Value→Shared→Prop}(ht:IsTup s.heap t items)(hs:s.heap.IsSliceOf sl vl vu .none)(pl:IsPart vl lo)(pu:IsPart vu hi)
  (hw: ¬(bh items.size 0 lo=0∧bh items.size items.size hi=items.size))
  (h:Q (.ref s.heap.objs.size) {s with heap:=s.heap.push {cls:= .type "tuple",data:= .seq ((items.toList.drop (bh items.size 0 lo)).take (bh items.size items.size hi - bh items.size 0 lo)).toArray}})
  (iL:items.size≤sizeLine):wpAny (model prog w) A (getItem (.ref t) (.ref sl)) Q E s:=by
 have qh:sizeOk (.seq ((items.toList.drop (bh items.size 0 lo)).take (bh items.size items.size hi - bh items.size 0 lo)).toArray):=by
  show((items.toList.drop (bh items.size 0 lo)).take (bh items.size items.size hi - bh items.size 0 lo)).toArray.size≤sizeLine
  rw[List.size_toArray,List.length_take,List.length_drop,Array.length_toList]
  omega
 have hj:bh items.size items.size hi≤items.size:=uM _ _ (Nat.le_refl _) hi
 obtain⟨os,nG,FT,qg⟩:=id hs
 have PQ:s.TypeIs (.ref sl) "slice":=⟨os,nG,FT⟩
 unfold getItem
 try with_reducible refine wpAny_holding ?_
 first | refine wpAny_bind (wpAny_pure ?_) | skip
 refine wpAny_bind (wpAny_sequenceKey ht.typeIs (by decide) ?_)
 refine wpAny_bind (wpAny_callSpecial?_slot (name:=Str.ofString "__getitem__") ht.typeIs PyProof.Rows.slot_tuple_getitem
  (wpAny_call_entry PyProof.Rows.slot_tuple_getitem ht.typeIs entry_tuple_getitem ?_ (args_tuple_getitem _ _)))
 show wpAny _ _ (Builtin.Tuple.tupleItemsOf (.ref t) >>=_) _ _ s
 refine wpAny_bind (tupleItemsOf_ ht ?_)
 refine wpAny_bind (wpAny_typeOf PQ ?_)
 rw[if_pos (by decide)]
 refine wpAny_bind (PL hs pl pu ?_)
 have PR: ¬((((bh items.size 0 lo:Nat):Int)==0 && (1:Int)==1 && (bh items.size items.size hi - bh items.size 0 lo)==items.size)=true):=by
  intro q
  rw[Bool.and_eq_true,Bool.and_eq_true] at q
  have q1:((bh items.size 0 lo:Nat):Int)=0:=eq_of_beq q.1.1
  have q2:bh items.size items.size hi - bh items.size 0 lo=items.size:=eq_of_beq q.2
  exact hw ⟨by omega,by omega⟩
 show wpAny _ _ (if (((bh items.size 0 lo:Nat):Int)==0 && (1:Int)==1 && (bh items.size items.size hi - bh items.size 0 lo)==items.size)=true then _ else _) _ _ s
 rw[if_neg PR,PM]
 first
  | exact wpAny_bind (m:=Builtin.Tuple.tupleExact _) (wpAny_newObj_type (wpAny_pure ⟨_,rfl,wpAny_pure h⟩) qh)
  | exact wpAny_bind (m:=Builtin.Tuple.tupleExact _) (wpAny_newObj_type (wpAny_bind (wpAny_pure (wpAny_pure ⟨_,rfl,wpAny_pure h⟩))) qh)
  | exact wpAny_bind (wpAny_bind (m:=Builtin.Tuple.tupleExact _) (wpAny_newObj_type (wpAny_pure (wpAny_pure ⟨_,rfl,wpAny_pure h⟩)) qh))
  | exact wpAny_bind (wpAny_bind (m:=Builtin.Tuple.tupleExact _) (wpAny_newObj_type (wpAny_pure ⟨_,rfl,wpAny_pure h⟩) qh))
end
end HT
namespace L2
open PySem PySem.Spec PyProof.Rows
abbrev TO:=St→Hp→(Option Int→Hp→Prop)→Prop
def PO(X:Cx)(e:Option Expr)(t:TO):Prop:=
 ∀(pins:List (Addr×Obj)) (s:Shared) (σ:St) (H:Hp) (Q:Option Int→Hp→Prop),Inv X pins σ H s→t σ H Q→
  wpAny (model X.prog X.w) X.A (evalPart e X.env) (fun u s'=> ∃o H',Inv X pins σ H' s'∧IsPart u o∧Q o H') X.xe s
def PU:TO:=fun _ H Q=>Q none H
def qj(t:TE):TO:=fun σ H Q=>t σ H fun x H1=> ∃i,x= .int i∧Q (some i) H1
theorem intsAre_of{ns:List Int}: ∀{us:List Value},Vals (ns.map V.int) us→IntsAre us ns:=by
 induction ns with
 | nil=>intro us r;rw[List.map_nil] at r;cases r;exact .nil
 | cons n ns ih=>
  intro us r
  rw[List.map_cons] at r
  cases r with
  | cons r1 r2=>
   obtain⟨t,e⟩:=r1
   subst e
   exact .cons n t (ih r2)
section
variable {X:Cx} {e:Expr} {te:TE} {lo hi:Option Expr} {tl th:TO} {pos p2:Pos}
theorem PV(h:PE X e te):PO X (some e) (qj te):=by
 intro pins s σ H Q I hw
 rw[evalPart_some]
 refine aW (h pins s σ H _ I hw) fun u s1 ⟨x,H1,I1,r1,q1⟩=> ?_
 obtain⟨i,rfl,q⟩:=q1
 obtain⟨t,rfl⟩:=r1
 exact⟨some i,H1,I1, .int i t,q⟩
def qk(X:Cx)(r:V→Option Int→Option Int→Hp→VK→Prop):Prop:=
 ∀(pins:List (Addr×Obj)) (s:Shared) (σ:St) (H:Hp) (x:V) (v vl vu:Value) (lo hi:Option Int) (sl:Addr) (Q:VK),Inv X pins σ H s→RelV x v→s.heap.IsSliceOf sl vl vu .none→IsPart vl lo→IsPart vu hi→r x lo hi H Q→
  ∃T id,typeLookup (.type T) "__getitem__"=pure (some (.builtin id))∧s.TypeIs v T∧wpAny (model X.prog X.w) X.A (getItem v (.ref sl)) (EP X pins σ Q) X.xe s
def uN(r:V→Option Int→Option Int→Hp→VK→Prop)(te:TE)(tl th:TO):TE:=fun σ H Q=>te σ H fun x H1=>tl σ H1 fun l H2=>th σ H2 fun u H3=>r x l u H3 Q
theorem PX{r:V→Option Int→Option Int→Hp→VK→Prop}(hr:qk X r)(he:PE X e te)(hl:PO X lo tl)(hu:PO X hi th):PE X (.Subscript e (.Slice lo hi none p2) pos) (uN r te tl th):=by
 intro pins s σ H Q I h
 refine Subscript_ (aW (he pins s σ H _ I h) fun v s1 ⟨x,H1,I1,r1,q1⟩=> ?_)
 refine wpAny_Slice (aW (hl pins s1 σ H1 _ I1 q1) fun vl s2 ⟨l,H2,I2,pl,q2⟩=>aW (hu pins s2 σ H2 _ I2 q2) fun vu s3 ⟨u,H3,I3,pu,q3⟩=> ?_)
 rw[evalPart_none]
 refine wpAny_pure ?_
 have I4:Inv X pins σ H3 {s3 with heap:=s3.heap.push {cls:= .type "slice",data:= .fields #[vl,vu, .none]}}:=I3.kept (t':=s3.toks) fun b ob q=>Heap.get?_push_of_some _ q
 obtain⟨T,id,hT,ht,hg⟩:=hr pins {s3 with heap:=s3.heap.push {cls:= .type "slice",data:= .fields #[vl,vu, .none]}} σ H3 x v vl vu l u s3.heap.objs.size Q I4 r1 (Heap.IsSliceOf.new ..) pl pu q3
 show wpAny (model X.prog X.w) X.A (subscriptTail e (.Slice lo hi none p2) v (.ref s3.heap.objs.size)) (EP X pins σ Q) X.xe {s3 with heap:=s3.heap.push {cls:= .type "slice",data:= .fields #[vl,vu, .none]}}
 exact tail_any (ops:=[.ref s3.heap.objs.size,v]) ht hT hg (by with_unfolding_all rfl)
def eB(xs:List V)(lo hi:Option Int):List V:=(xs.drop (HT.bh xs.length 0 lo)).take (HT.bh xs.length xs.length hi - HT.bh xs.length 0 lo)
theorem FU(xs:List V)(lo hi:Option Int):(eB xs lo hi).length≤xs.length:=by
 unfold eB
 rw[List.length_take,List.length_drop]
 omega
def PY(K:PySem.W.Frag):V→Option Int→Option Int→Hp→VK→Prop:=fun x lo hi H Q=> ∃a xs,x= .ref a∧a_ K H a xs∧
 ¬(HT.bh xs.length 0 lo=0∧HT.bh xs.length xs.length hi=xs.length)∧ ∀p,H p=none→Q (.ref p) (upd H p (.tup (eB xs lo hi)))
theorem PZ:qk X (PY X.K):=by
 intro pins s σ H x v vl vu lo hi sl Q I rx hs pl pu h
 obtain⟨a,xs,rfl,hx,hw,q⟩:=h
 cases rx
 obtain⟨its,r,ht,hz⟩:=I.tuple hx
 have hlen:its.toArray.size=xs.length:=by rw[List.size_toArray];exact r.length.symm
 refine⟨"tuple",_,PyProof.Rows.slot_tuple_getitem.lookup,ht.typeIs, ?_⟩
 refine HT.PN ht hs pl pu (by rw[hlen];exact hw) ?_ (by rw[hlen];exact hz)
 rw[hlen]
 refine⟨.ref s.heap.objs.size,_,I.laid (t':=s.toks) (o:= .tup (eB xs lo hi)) (fun b ob q=>Heap.get?_push_of_some _ q) (Nat.le_refl _) ?_,rfl,q _ (I.aI.fresh (Nat.le_refl _))⟩
 exact⟨Nat.le_trans (FU xs lo hi) hz,_,(r.drop (HT.bh xs.length 0 lo)).take (HT.bh xs.length xs.length hi - HT.bh xs.length 0 lo),IsTup.new _ _⟩
def FV(K:PySem.W.Frag):R2:=fun x y H Q=> ∃a b xs ys,x= .ref a∧y= .ref b∧a_ K H a xs∧a_ K H b ys∧xs≠ []∧xs.length+ys.length≤sizeLine∧
 (ys=[]→Q (.ref a) H)∧(ys≠ []→ ∀p,H p=none→Q (.ref p) (upd H p (.tup (xs++ys))))
theorem Vals.uO{xs:List V}{us:List Value}(r:Vals xs us):us=[]↔xs=[]:=by
 cases r with
 | nil=>simp
 | cons _ _=>simp
theorem P0:bp X (binaryOp .Add) (FV X.K):=by
 intro pins s σ H x y v u Q I rx ry h
 obtain⟨a,b,xs,ys,rfl,rfl,ha,hb,hx,hz,q1,q2⟩:=h
 cases rx
 cases ry
 obtain⟨its,r1,p1,_⟩:=I.tuple ha
 obtain⟨iQ,r2,p2,_⟩:=I.tuple hb
 refine HT.PH p1 p2 (fun z=>hx (r1.uO.mp z)) (fun z=> ⟨.ref a,H,I,rfl,q1 (r2.uO.mp z)⟩) (fun z=> ?_) (by rw[←r1.length,←r2.length];exact hz)
 refine⟨.ref s.heap.objs.size,_,I.laid (t':=s.toks) (o:= .tup (xs++ys)) (fun b ob q=>Heap.get?_push_of_some _ q) (Nat.le_refl _) ?_,rfl,q2 (fun w=>z (r2.uO.mpr w)) _ (I.aI.fresh (Nat.le_refl _))⟩
 exact⟨by rw[List.length_append];exact hz,_,r1.append r2,IsTup.new _ _⟩
end
def fJ(n:Nat)(i:Int):Option Nat:=if 0≤i then (if i<n then some i.toNat else none) else if -(n:Int)≤i then some (i+n).toNat else none
def dG{α:Type}(xs:List α)(i:Int):Option α:=(fJ xs.length i).bind fun j=>xs[j]?
theorem FW{n:Nat}{i:Int}{j:Nat}(h:fJ n i=some j):seqIndex? i n=some j∧j<n∧ -(n:Int)≤i∧i<n:=by
 unfold fJ at h
 by_cases h0:0≤i
 ·rw[if_pos h0] at h
  by_cases h1:i<n
  ·rw[if_pos h1] at h
   have e:i.toNat=j:=Option.some.inj h
   exact⟨by rw[seqIndex_of h0 h1,e],by omega,by omega,h1⟩
  ·rw[if_neg h1] at h;cases h
 ·rw[if_neg h0] at h
  by_cases h1: -(n:Int)≤i
  ·rw[if_pos h1] at h
   have e:(i+n).toNat=j:=Option.some.inj h
   exact⟨by rw[seqIndex_neg (by omega) h1,e],by omega,h1,by omega⟩
  ·rw[if_neg h1] at h;cases h
theorem uP{α:Type}{xs:List α}{i:Int}{v:α}(h:dG xs i=some v): ∃j,seqIndex? i xs.length=some j∧xs[j]?=some v∧j<xs.length∧ -(xs.length:Int)≤i∧i<xs.length:=by
 unfold dG at h
 cases e:fJ xs.length i with
 | none=>rw[e] at h;cases h
 | some j=>
  rw[e] at h
  obtain⟨h1,h2,h3,h4⟩:=FW e
  exact⟨j,h1,h,h2,h3,h4⟩
theorem iR{α:Type}{xs:List α}{j:Nat}{v:α}(h:xs[j]?=some v):dG xs (j:Int)=some v:=by
 have hj:j<xs.length:=(List.getElem?_eq_some_iff.mp h).1
 have e:fJ xs.length (j:Int)=some j:=by
  unfold fJ
  rw[if_pos (by omega),if_pos (by omega)];simp
 unfold dG;rw[e];exact h
theorem FX{α:Type}(xs:List α)(v:α):dG (xs++ [v]) (-1)=some v:=by
 have hl:(xs++ [v]).length=xs.length+1:=by simp
 have e:fJ (xs++ [v]).length (-1)=some xs.length:=by
  unfold fJ
  rw[hl,if_neg (by decide),if_pos (by omega)]
  congr 1
  omega
 unfold dG
 rw[e]
 show(xs++ [v])[xs.length]?=some v
 simp
def FY(b:Expr):Prop:= ∀o i,subscripted b false o i=operate [o,i] (getItem o i)
def gi(X:Cx)(r:R2):Prop:=
 ∀(value slice:Expr) (pins:List (Addr×Obj)) (s:Shared) (σ:St) (H:Hp) (x y:V) (v u:Value) (Q:VK),Inv X pins σ H s→RelV x v→RelV y u→r x y H Q→
  subscripted slice false v u=operate [v,u] (getItem v u)→wpAny (model X.prog X.w) X.A (subscriptTail value slice v u) (EP X pins σ Q) X.xe s
def g8(X:Cx)(id:String)(r:V→List V→Hp→VK→Prop):Prop:=
 ∀(pins:List (Addr×Obj)) (s:Shared) (σ:St) (H:Hp) (x:V) (xs:List V) (v:Value) (us:List Value) (Q:VK),Inv X pins σ H s→RelV x v→Vals xs us→r x xs H Q→
  wpAny (model X.prog X.w) X.A (call (.builtin id) (v::us)) (EP X pins σ Q) X.xe s
section
variable {X:Cx} {a b:Expr} {ta tb:TE} {pos:Pos}
theorem gi.or{r r':R2}(h:gi X r)(h':gi X r'):gi X (fun x y H Q=>r x y H Q∨r' x y H Q):=by
 intro value slice pins s σ H x y v u Q I rx ry q hs
 rcases q with q | q
 ·exact h value slice pins s σ H x y v u Q I rx ry q hs
 ·exact h' value slice pins s σ H x y v u Q I rx ry q hs
theorem P4{r:R2}(hr:gi X r)(ha:PE X a ta)(hb:PE X b tb)(hs:FY b):PE X (.Subscript a b pos) (dc r ta tb):=by
 intro pins s σ H Q I h
 exact Subscript_ (uD ha hb I h fun v u s2 x y H2 I2 rx ry q=>hr a b pins s2 σ H2 x y v u Q I2 rx ry q (hs _ _))
def FZ(K:PySem.W.Frag):R2:=fun x y H Q=> ∃p xs i v,x= .ref p∧y= .int i∧aH K H p xs∧dG xs i=some v∧Q v H
def F_(K:PySem.W.Frag):R2:=fun x y H Q=> ∃p xs i v,x= .ref p∧y= .int i∧a_ K H p xs∧dG xs i=some v∧Q v H
def Ga:R2:=fun x y H Q=> ∃z i c,x= .str z∧y= .int i∧z.length≤sizeLine∧dG z.cps.toList i=some c∧Q (.str ⟨#[c]⟩) H
theorem P5:gi X (FZ X.K):=by
 intro value slice pins s σ H x y v u Q I rx ry h hs
 obtain⟨p,xs,i,z,rfl,rfl,hq,he,q⟩:=h
 cases rx
 obtain⟨t,rfl⟩:=ry
 obtain⟨its,r,pl,hz⟩:=I.list hq
 obtain⟨j,h1,h2,h3,h4,h5⟩:=uP he
 obtain⟨w,ew,jD⟩:=r.get h2
 have hl:=r.length
 have hn:=iK
 have fin:EP X pins σ Q w s:=⟨z,H,I,jD,q⟩
 by_cases h0:0≤i
 ·have hj:i.toNat=j:=by
   rw[seqIndex_of h0 h5] at h1
   exact Option.some.inj h1
  exact item_listR pl.isList h0 (by omega) (by rw[hj];simpa using ew) fin hs
 ·have hj:(i+ (its.toArray.size:Int)).toNat=j:=by
   rw[seqIndex_neg (by omega) h4] at h1
   rw[List.size_toArray,←hl]
   exact Option.some.inj h1
  exact subscriptTail_builtinR (x:=w) pl.isList.typeIs slot_list_getitem.lookup
   (wpAny_getItem_list_neg (Q:=fun r s'=>r=w∧EP X pins σ Q r s') pl.isList (by omega) (by rw[List.size_toArray] <;>omega) (by omega) (by rw[hj];simpa using ew) ⟨rfl,fin⟩) hs
theorem P6:gi X (F_ X.K):=by
 intro value slice pins s σ H x y v u Q I rx ry h hs
 obtain⟨p,xs,i,z,rfl,rfl,hq,he,q⟩:=h
 cases rx
 obtain⟨t,rfl⟩:=ry
 obtain⟨its,r,pl,hz⟩:=I.tuple hq
 obtain⟨j,h1,h2,h3,h4,h5⟩:=uP he
 obtain⟨w,ew,jD⟩:=r.get h2
 have hl:=r.length
 have hn:=iK
 have fin:EP X pins σ Q w s:=⟨z,H,I,jD,q⟩
 exact subscriptTail_builtinR (x:=w) pl.typeIs slot_tuple_getitem.lookup
  (getItem_tuple (j:=j) (Q:=fun r s'=>r=w∧EP X pins σ Q r s') pl (by omega) (by omega) (by rw[List.size_toArray,←hl];exact h1) (by simpa using ew) ⟨rfl,fin⟩) hs
theorem P7:gi X Ga:=by
 intro value slice pins s σ H x y v u Q I rx ry h hs
 obtain⟨z,i,c,rfl,rfl,hz,he,q⟩:=h
 obtain⟨t,rfl⟩:=rx
 obtain⟨t',rfl⟩:=ry
 obtain⟨j,h1,h2,h3,h4,h5⟩:=uP he
 have hl:z.cps.toList.length=z.length:=by simp[Str.length]
 rw[hl] at h1 h4 h5
 have hn:=iK
 exact tail_any (typeIs_str s z t) slot_str_getitem.lookup (getItem_str (c:=c) (by
  have e1:decide (i< -(2 ^ 63:Int))=false:=decide_eq_false (by omega)
  have e2:decide (i≥2 ^ 63)=false:=decide_eq_false (by omega)
  rw[e1,e2,Bool.or_false]) (by rw[h1];simpa using h2) ⟨.str ⟨#[c]⟩,H,I.tok _,⟨_,rfl⟩,q⟩) hs
theorem P8(its:List Value)(n j:Nat)(u:Value):Obj.mapSeq (·.setIfInBounds j u) {cls:= .type "list",data:= .seq its.toArray n}={cls:= .type "list",data:= .seq (its.set j u).toArray n}:=by
 simp[Obj.mapSeq]
theorem Inv.lst{pins:List (Addr×Obj)}{σ:St}{H:Hp}{s:Shared}{p:Addr}{xs:List V}(I:Inv X pins σ H s)(h:H p=some (.lst xs)):
  ∃(its:List Value) (n:Nat),Vals xs its∧s.heap.get? p=some {cls:= .type "list",data:= .seq its.toArray n}∧xs.length≤sizeLine:=by
 obtain⟨z,its,n,r,e⟩:=I.aI p _ h
 exact⟨its,n,r,e,z⟩
theorem Inv.P9{pins:List (Addr×Obj)}{σ:St}{H:Hp}{s:Shared}{p:Addr}{xs ys:List V}{its d0:List Value}{n n':Nat}{f:Obj→Obj}(I:Inv X pins σ H s)(h:H p=some (.lst xs))
  (ho:s.heap.get? p=some {cls:= .type "list",data:= .seq its.toArray n}) (hf:f {cls:= .type "list",data:= .seq its.toArray n}={cls:= .type "list",data:= .seq d0.toArray n'}) (r:Vals ys d0) (hz:ys.length≤sizeLine) (t:Nat):
  Inv X pins σ (upd H p (.lst ys)) {s with heap:=s.heap.update p f,toks:=t}:=by
 have e:(s.heap.update p f).get? p=some {cls:= .type "list",data:= .seq d0.toArray n'}:=by
  rw[Heap.get?_update_self f ho (by rw[hf] <;>rfl),hf]
 refine I.write (x:=p) (e:=p) (by rw[h];trivial) (.inl rfl) (fun b u hb q=> (Heap.get?_update_other _ _ (Ne.symm hb)).trans q) ⟨_,e⟩ ?_
 exact⟨hz,d0,n',r,e⟩
def uQ:V→V→V→Hp→(Hp→Prop)→Prop:=fun o i v H Q=> ∃p xs k j,o= .ref p∧i= .int k∧H p=some (.lst xs)∧fJ xs.length k=some j∧Q (upd H p (.lst (xs.set j v)))
theorem set_list:E8 X uQ:=by
 intro pins s σ H o i v ov iv u Q I ro ri rv h
 obtain⟨p,xs,k,j,rfl,rfl,hp,hj,q⟩:=h
 cases ro
 obtain⟨t,rfl⟩:=ri
 obtain⟨its,n,r,ho,hz⟩:=I.lst hp
 obtain⟨h1,h2,h3,h4⟩:=FW hj
 have hl:=r.length
 have hn:=iK
 have I':Inv X pins σ (upd H p (.lst (xs.set j v))) {s with heap:=s.heap.update p (Obj.mapSeq (·.setIfInBounds j u))}:=
  I.P9 hp ho (P8 its n j u) (r.set rv j) (by rw[List.length_set];exact hz) s.toks
 by_cases h0:0≤k
 ·have hk:k.toNat=j:=by
   rw[seqIndex_of h0 h4] at h1
   exact Option.some.inj h1
  exact PySem.W.ki_setAt ho h0 (by omega) (by rw[List.size_toArray,←hl];exact h4) (by rw[hk];exact⟨_,I',q⟩)
 ·have hk:(k+ (its.toArray.size:Int)).toNat=j:=by
   rw[seqIndex_neg (by omega) h3] at h1
   rw[List.size_toArray,←hl]
   exact Option.some.inj h1
  exact PySem.W.ki_setBack ho (by omega) (by rw[List.size_toArray,←hl];exact h3) (by omega) (by rw[hk];exact⟨_,I',q⟩)
theorem uR(lo hi:Option Int)(n:Nat):(sliceBounds lo hi none n).1=((HT.bh n 0 lo:Nat):Int)∧(sliceBounds lo hi none n).2.1=((HT.bh n n hi:Nat):Int)∧(sliceBounds lo hi none n).2.2=1:=by
 refine⟨?_, ?_,rfl⟩
 ·cases lo with
  | none=>simp[sliceBounds,HT.bh]
  | some i=>
   simp only[sliceBounds,HT.bh,Option.getD_none,show(1:Int) >0 by decide,if_true]
   by_cases h:i<0
   ·simp only[h,if_true] <;>omega
   ·simp only[h,if_false] <;>omega
 ·cases hi with
  | none=>simp[sliceBounds,HT.bh]
  | some i=>
   simp only[sliceBounds,HT.bh,Option.getD_none,show(1:Int) >0 by decide,if_true]
   by_cases h:i<0
   ·simp only[h,if_true] <;>omega
   ·simp only[h,if_false] <;>omega
theorem P_(its:List Value)(lo hi:Option Int):slicePick its.toArray lo hi none=((its.drop (HT.bh its.length 0 lo)).take (HT.bh its.length its.length hi - HT.bh its.length 0 lo)).toArray:=by
 obtain⟨h1,h2,h3⟩:=uR lo hi its.toArray.size
 unfold slicePick
 rw[h1,h2,h3]
 simp only[sliceRange_one,pick_run,List.size_toArray] <;>rfl
def Qa(K:PySem.W.Frag):V→Option Int→Option Int→Hp→VK→Prop:=fun x lo hi H Q=> ∃a xs,x= .ref a∧aH K H a xs∧ ∀p,H p=none→Q (.ref p) (upd H p (.lst (eB xs lo hi)))
theorem Qc:qk X (Qa X.K):=by
 intro pins s σ H x v vl vu lo hi sl Q I rx hs pl pu h
 obtain⟨a,xs,rfl,hx,q⟩:=h
 cases rx
 obtain⟨its,r,ht,hz⟩:=I.list hx
 have hlen:=r.length
 refine⟨"list",_,slot_list_getitem.lookup,ht.isList.typeIs, ?_⟩
 refine wpAny_getItem_list_slice ht.isList hs pl pu .none (by simp) ?_ (by rw[List.size_toArray] <;>omega)
 rw[P_,←hlen]
 refine⟨.ref s.heap.objs.size,_,I.laid (t':=s.toks) (o:= .lst (eB xs lo hi)) (fun b ob q=>Heap.get?_push_of_some _ q) (Nat.le_refl _) ?_,rfl,q _ (I.aI.fresh (Nat.le_refl _))⟩
 exact⟨Nat.le_trans (FU xs lo hi) hz,_,0,(r.drop (HT.bh xs.length 0 lo)).take (HT.bh xs.length xs.length hi - HT.bh xs.length 0 lo),Heap.get?_push_size _ rfl⟩
def df:V→Bool
 | .ax=>true
 | .bl _=>true
 | .int _=>true
 | .str _=>true
 | _=>false
def di:V→V→Bool
 | .ax, .ax=>true
 | .bl a, .bl b=>a==b
 | .bl a, .int b=> (if a then 1 else 0)==b
 | .int a, .bl b=>a==(if b then 1 else 0)
 | .int a, .int b=>a==b
 | .str a, .str b=>a==b
 | _,_=>false
theorem Qd{A:Around}{s:Shared}{y x:V}{u v:Value}(ry:RelV y u)(rx:RelV x v)(fy:df y=true)(fx:df x=true):SeqAt.EqAt A s u v (di y x):=by
 cases y with
 | ax=>
  cases ry
  cases x with
  | ax=>cases rx;exact SeqAt.EqAt.same _
  | bl b=>cases rx;exact SeqAt.EqAt.none_bool b
  | int b=>obtain⟨t,rfl⟩:=rx;exact SeqAt.EqAt.none_int b t
  | str b=>obtain⟨t,rfl⟩:=rx;exact SeqAt.EqAt.none_str b t
  | _=>exact absurd (show false=true from fx) Bool.false_ne_true
 | bl a=>
  cases ry
  cases x with
  | ax=>cases rx;exact SeqAt.EqAt.bool_none a
  | bl b=>cases rx;exact SeqAt.EqAt.bool_bool a b
  | int b=>obtain⟨t,rfl⟩:=rx;exact SeqAt.EqAt.bool_int a b t
  | str b=>obtain⟨t,rfl⟩:=rx;exact SeqAt.EqAt.bool_str a b t
  | _=>exact absurd (show false=true from fx) Bool.false_ne_true
 | int a=>
  obtain⟨t',rfl⟩:=ry
  cases x with
  | ax=>cases rx;exact SeqAt.EqAt.int_none a t'
  | bl b=>cases rx;exact SeqAt.EqAt.int_bool a t' b
  | int b=>obtain⟨t,rfl⟩:=rx;exact SeqAt.EqAt.int_int a t' b t
  | str b=>obtain⟨t,rfl⟩:=rx;exact SeqAt.EqAt.int_str a t' b t
  | _=>exact absurd (show false=true from fx) Bool.false_ne_true
 | str a=>
  obtain⟨t',rfl⟩:=ry
  cases x with
  | ax=>cases rx;exact SeqAt.EqAt.str_none a t'
  | bl b=>cases rx;exact SeqAt.EqAt.str_bool a t' b
  | int b=>obtain⟨t,rfl⟩:=rx;exact SeqAt.EqAt.str_int a t' b t
  | str b=>obtain⟨t,rfl⟩:=rx;exact SeqAt.EqAt.str_str a t' b t
  | _=>exact absurd (show false=true from fx) Bool.false_ne_true
 | _=>exact absurd (show false=true from fy) Bool.false_ne_true
def cT(x:V)(u:Value):Bool:=match u with
 | .none=>di .ax x
 | .bool b=>di (.bl b) x
 | .int i _=>di (.int i) x
 | .str z _=>di (.str z) x
 | _=>false
theorem qm{x y:V}{u:Value}(r:RelV y u)(f:df y=true):cT x u=di y x:=by
 cases y with
 | ax=>cases r;rfl
 | bl b=>cases r;rfl
 | int i=>obtain⟨t,rfl⟩:=r;rfl
 | str z=>obtain⟨t,rfl⟩:=r;rfl
 | _=>exact absurd (show false=true from f) Bool.false_ne_true
theorem nH{x:V}: ∀{xs:List V} {us:List Value},Vals xs us→xs.all df=true→us.any (cT x)=xs.any fun y=>di y x
 | _,_, .nil,_=>rfl
 | y::xs,u::us, .cons r t,f=>by
  rw[List.all_cons,Bool.and_eq_true] at f
  rw[List.any_cons,List.any_cons,qm r f.1,nH t f.2]
theorem jE{A:Around}{s:Shared}{x:V}{v:Value}(rx:RelV x v)(fx:df x=true): ∀{xs:List V} {us:List Value},Vals xs us→xs.all df=true→ ∀u∈us,SeqAt.EqAt A s u v (cT x u)
 | _,_, .nil,_=>fun u hu=>by cases hu
 | y::xs,u::us, .cons r t,f=>fun u' hu=>by
  rw[List.all_cons,Bool.and_eq_true] at f
  rcases List.mem_cons.mp hu with rfl | hu
  ·rw[qm r f.1];exact Qd r rx f.1 fx
  ·exact jE rx fx t f.2 u' hu
def d6(x:V)(xs:List V):Bool:=xs.any fun y=>di y x
def uS(K:PySem.W.Frag)(neg:Bool):R2:=fun x y H Q=> ∃p xs,y= .ref p∧(aH K H p xs∨a_ K H p xs)∧df x=true∧xs.all df=true∧Q (.bl (if neg then !d6 x xs else d6 x xs)) H
theorem Qe:bp X (compareOp .In) (uS X.K false):=by
 intro pins s σ H x y v u Q I rx ry h
 obtain⟨p,xs,rfl,hq,fx,fs,q⟩:=h
 cases ry
 rcases hq with hq | hq
 ·obtain⟨its,r,pl,hz⟩:=I.list hq
  refine SeqAt.in_listAt (cT x) pl.isList (fun w hw=>jE rx fx r fs w (by simpa using hw)) ⟨.bl _,H,I,rfl, ?_⟩
  rw[show its.toArray.any (cT x)=its.any (cT x) by simp,nH r fs]
  exact q
 ·obtain⟨its,r,pl,hz⟩:=I.tuple hq
  refine SeqAt.in_tupleAt (cT x) pl (fun w hw=>jE rx fx r fs w (by simpa using hw)) ⟨.bl _,H,I,rfl, ?_⟩
  rw[show its.toArray.any (cT x)=its.any (cT x) by simp,nH r fs]
  exact q
theorem Qf:bp X (compareOp .NotIn) (uS X.K true):=by
 intro pins s σ H x y v u Q I rx ry h
 obtain⟨p,xs,rfl,hq,fx,fs,q⟩:=h
 cases ry
 rcases hq with hq | hq
 ·obtain⟨its,r,pl,hz⟩:=I.list hq
  refine SeqAt.notIn_listAt (cT x) pl.isList (fun w hw=>jE rx fx r fs w (by simpa using hw)) ⟨.bl _,H,I,rfl, ?_⟩
  rw[show its.toArray.any (cT x)=its.any (cT x) by simp,nH r fs]
  exact q
 ·obtain⟨its,r,pl,hz⟩:=I.tuple hq
  refine SeqAt.notIn_tupleAt (cT x) pl (fun w hw=>jE rx fx r fs w (by simpa using hw)) ⟨.bl _,H,I,rfl, ?_⟩
  rw[show its.toArray.any (cT x)=its.any (cT x) by simp,nH r fs]
  exact q
theorem bY.or{f:Value}{r r':List V→Hp→VK→Prop}(h:bY X f r)(h':bY X f r'):bY X f (fun xs H Q=>r xs H Q∨r' xs H Q):=by
 intro pins s σ H xs us Q I rs q
 rcases q with q | q
 ·exact h pins s σ H xs us Q I rs q
 ·exact h' pins s σ H xs us Q I rs q
theorem Qg:bY X (.type "list") (fun xs H Q=> ∃p ys,xs=[.ref p]∧(aH X.K H p ys∨a_ X.K H p ys)∧ ∀l,H l=none→Q (.ref l) (upd H l (.lst ys))):=by
 intro pins s σ H xs us Q I r h
 obtain⟨p,ys,rfl,hq,q⟩:=h
 obtain⟨u,rfl,rx⟩:=vals1 r
 cases rx
 have fin: ∀(its:List Value),Vals ys its→ys.length≤sizeLine→ ∀(h':Heap) (c':Nat),(∀b o',s.heap.get? b=some o'→h'.get? b=some o')→
   h'.get? s.heap.objs.size=some {cls:= .type "list",dict:=none,data:= .seq its.toArray c',slots:= #[]}→EP X pins σ Q (.ref s.heap.objs.size) {s with heap:=h'}:=fun its r' hz h' c' kp e=>
  ⟨.ref s.heap.objs.size,_,I.laid (t':=s.toks) kp (Nat.le_refl _) (show cu X.prog X.w _ h' _ (.lst ys) from⟨hz,its,c',r',e⟩),rfl,q _ (I.aI.fresh (Nat.le_refl _))⟩
 rcases hq with hq | hq
 ·obtain⟨its,r',pl,hz⟩:=I.list hq
  have hlen:=r'.length
  obtain⟨o,ho,hc,n,hd⟩:=pl.isList
  exact call_list_seq p (.inl rfl) ho hc hd (fun h' c' kp e=>fin its r' hz h' c' kp e) (by simp only[List.size_toArray] <;>omega)
 ·obtain⟨its,r',pl,hz⟩:=I.tuple hq
  have hlen:=r'.length
  obtain⟨o,ho,hc,n,hd⟩:=pl
  exact call_list_seq p (.inr rfl) ho hc hd (fun h' c' kp e=>fin its r' hz h' c' kp e) (by simp only[List.size_toArray] <;>omega)
theorem Qh:bY X (.type "tuple") (fun xs H Q=> ∃p ys,xs=[.ref p]∧((aH X.K H p ys∧ ∀l,H l=none→Q (.ref l) (upd H l (.tup ys)))∨(a_ X.K H p ys∧Q (.ref p) H))):=by
 intro pins s σ H xs us Q I r h
 obtain⟨p,ys,rfl,h⟩:=h
 obtain⟨u,rfl,rx⟩:=vals1 r
 cases rx
 rcases h with⟨hq,q⟩ | ⟨hq,q⟩
 ·obtain⟨its,r',pl,hz⟩:=I.list hq
  have hlen:=r'.length
  refine call_tuple_list pl.isList (fun h' kp=> ?_) (by simp only[List.size_toArray] <;>omega)
  have I1:Inv X pins σ H {s with heap:=h'}:=I.kept (t':=s.toks) kp
  have I2:Inv X pins σ (upd H h'.objs.size (.tup ys)) {s with heap:=h'.push {cls:= .type "tuple",data:= .seq its.toArray}}:=
   I1.laid (t':=s.toks) (fun b o e=>Heap.get?_push_of_some _ e) (Nat.le_refl _) (show cu X.prog X.w _ _ _ (.tup ys) from⟨hz,its,r',IsTup.new _ _⟩)
  exact⟨.ref h'.objs.size,_,I2,rfl,q _ (I1.aI.fresh (Nat.le_refl _))⟩
 ·obtain⟨its,r',pl,hz⟩:=I.tuple hq
  exact call_tuple_same pl ⟨.ref p,H,I,rfl,q⟩
def nI(K:PySem.W.Frag)(T:String)(x:V)(H:Hp):Prop:=match x with
 | .str _=>T="str"
 | .int _=>T="int"
 | .ref p=> (T="list"∧ ∃xs,aH K H p xs)∨(T="tuple"∧ ∃o,K.lookup p=some o∧o.cls= .type "tuple"∧o.dict=none)∨
   (T="dict"∧((∃aM,H p=some (.dK aM))∨ ∃aM,H p=some (.dT aM)))∨(T="set"∧ ∃S n,H p=some (.set S n))
 | _=>False
theorem Qi{pins:List (Addr×Obj)}{σ:St}{H:Hp}{s:Shared}{T:String}{x:V}{v:Value}(I:Inv X pins σ H s)(r:RelV x v)(ty:nI X.K T x H):
  s.TypeIs v T∧ ∀a,v= .ref a→ ∃ob,s.heap.get? a=some ob∧ob.dict=none:=by
 cases x with
 | str z=>
  obtain⟨t,rfl⟩:=r
  cases (show T="str" from ty)
  exact⟨typeIs_str s z t,fun _ e=>nomatch e⟩
 | int i=>
  obtain⟨t,rfl⟩:=r
  cases (show T="int" from ty)
  exact⟨typeIs_int s i t,fun _ e=>nomatch e⟩
 | ref p=>
  cases r
  rcases ty with⟨rfl,xs,hq⟩ | ⟨rfl,o,hk,hc,hd⟩ | ⟨rfl,hk⟩ | ⟨rfl,S,n,hk⟩
  ·obtain⟨its,_,pl,_⟩:=I.list hq
   refine⟨pl.isList.typeIs,fun a e=> ?_⟩
   cases e
   obtain⟨o,n,e,c,hd,_⟩:=pl
   exact⟨o,e,hd⟩
  ·refine⟨⟨o,I.cj p o hk,hc⟩,fun a e=> ?_⟩
   cases e
   exact⟨o,I.cj _ o hk,hd⟩
  ·have z: ∃o,s.heap.get? p=some o∧o.ExactDict:=by
    rcases hk with⟨aM,hk⟩ | ⟨aM,hk⟩
    ·obtain⟨_,_,_,_,o,_,_,e,ex,_⟩:=I.aI p _ hk
     exact⟨o,e,ex⟩
    ·obtain⟨_,_,_,_,o,_,_,e,ex,_⟩:=I.aI p _ hk
     exact⟨o,e,ex⟩
   obtain⟨o,e,ex⟩:=z
   refine⟨⟨o,e,ex.1⟩,fun a e2=> ?_⟩
   cases e2
   exact⟨o,e,ex.2.1⟩
  ·obtain⟨o,_,_,_,e,ex,_⟩:=I.aI p _ hk
   refine⟨⟨o,e,ex.1⟩,fun a e2=> ?_⟩
   cases e2
   exact⟨o,e,ex.2.1⟩
 | _=>exact False.elim ty
def uT(K:PySem.W.Frag)(T:String)(r:V→List V→Hp→VK→Prop)(to:TE)(t:TA):TE:=fun σ H Q=>to σ H fun x H1=>nI K T x H1∧t σ H1 fun xs H2=>r x xs H2 Q
variable {o e:Expr} {es:List Expr} {to:TE} {t:TA} {name:Str} {apos cW:Pos} {T id:String} {r:V→List V→Hp→VK→Prop}
theorem Gb(pa:PlainAttrs T)(slot:Slot T name id)(Qj:typeOf (.builtin id)=pure (.type "method_descriptor"))(hm:g8 X id r)(ho:PE X o to)(ha:PA X (e::es) t)
  (Qk:attributeBase o name X.env (eval o X.env)=eval o X.env:=by rfl)
  (Ql:((backTo cW (starEach (e::es) X.env)).all (fun x=> !x.1) && (backToKw cW (keywordEach [] X.env)).all (fun x=>x.1.isSome)
   && decide ((e::es).length+ ([]:List Keyword).length+ (if ([]:List Keyword).isEmpty then 0 else 1) <30))=true:=by rfl)
  (Qm:(apos.endLine==cW.line)=true:=by rfl) (hs:starEach (e::es) X.env=(false,eval e X.env)::starEach es X.env:=by rfl) (Qn:(backTo cW (starEach es X.env)).any (·.1)=false:=by rfl):
  PE X (.Call (.Attribute o name apos) (e::es) [] cW) (uT X.K T r to t):=by
 intro pins s σ H Q I h
 refine wpAny_Call_method_late Qk Ql Qm rfl (aW (ho pins s σ H _ I h) fun v s1 ⟨x,H1,I1,r1,ty,q1⟩=> ?_)
 obtain⟨h1,h2⟩:=Qi I1 r1 ty
 refine⟨T,id,pa,slot,Qj,h1,h2, ?_⟩
 have hA:=ha cW pins s1 σ H1 _ I1 q1
 rw[hs] at hA⊢
 refine Calls.callWith_builtin (by show(false || (backTo cW (starEach es X.env)).any (·.1))=false;rw[Qn] <;>rfl) (Calls.evalArgs_plain ?_)
 exact aW hA fun us s2 ⟨vs,H2,I2,r2,q2⟩=>hm pins s2 σ H2 x vs v us Q I2 r1 r2 q2
end
def nJ(X:Cx)(id:String)(r:V→List V→Hp→VK→Prop):Prop:=
 ∀(pins:List (Addr×Obj)) (s:Shared) (σ:St) (H:Hp) (x:V) (xs:List V) (v:Value) (us:List Value) (Q:VK),Inv X pins σ H s→RelV x v→Vals xs us→r x xs H Q→
  wpAny (model X.prog X.w) X.A (call (.builtin id) (v::us)) (EP X pins σ Q) X.xe s
theorem Vals.one: ∀{x:V} {us:List Value},Vals [x] us→ ∃u,us=[u]∧RelV x u
 | _,_, .cons r .nil=> ⟨_,rfl,r⟩
theorem Vals.zero: ∀{us:List Value},Vals [] us→us=[]
 | _, .nil=>rfl
theorem Vals.dropLast{xs:List V}{us:List Value}(h:Vals xs us):Vals xs.dropLast us.dropLast:=by
 induction h with
 | nil=>exact .nil
 | cons r t ih=>
  cases t with
  | nil=>exact .nil
  | cons q t'=>exact .cons r ih
theorem Vals.reverse{xs:List V}{us:List Value}(h:Vals xs us):Vals xs.reverse us.reverse:=by
 induction h with
 | nil=>exact .nil
 | cons r t ih=>rw[List.reverse_cons,List.reverse_cons];exact Vals.append ih (.cons r .nil)
theorem Vals.rep{xs:List V}{us:List Value}(h:Vals xs us): ∀k:Nat,Vals (List.replicate k xs).flatten (List.replicate k us).flatten
 | 0=> .nil
 | k+1=>by
  rw[List.replicate_succ,List.replicate_succ,List.flatten_cons,List.flatten_cons]
  exact Vals.append h (Vals.rep h k)
theorem Qo{α:Type}(l:List α):l.eraseIdx (l.length - 1)=l.dropLast:=by
 induction l with
 | nil=>rfl
 | cons a r ih=>
  cases r with
  | nil=>rfl
  | cons b r=>
   have e:(a::b::r).length - 1=((b::r).length - 1)+1:=by
    have h1:(a::b::r).length=r.length+2:=rfl
    have h2:(b::r).length=r.length+1:=rfl
    omega
   rw[e,List.eraseIdx_cons_succ,ih]
   all_goals rfl
theorem foldl_rep(its:List Value): ∀(k:Nat) (acc:List Value),
  List.foldl (fun x1 x2=>x1++x2) acc.toArray (List.replicate k its.toArray)=(acc++ (List.replicate k its).flatten).toArray
 | 0,acc=>by simp
 | k+1,acc=>by
  have e:acc.toArray++its.toArray=(acc++its).toArray:=by simp
  have e2:(acc++its)++ (List.replicate k its).flatten=acc++ (List.replicate (k+1) its).flatten:=by
   rw[List.replicate_succ,List.flatten_cons,List.append_assoc]
  rw[←e2,←foldl_rep its k (acc++its),←e,List.replicate_succ,List.foldl_cons]
section
variable {X:Cx} {pins:List (Addr×Obj)} {σ:St} {H:Hp} {s:Shared} {l b:Addr} {xs ys zs:List V}
theorem Inv.nK{its d0:List Value}{n:Nat}{f:Array Value→Array Value}{t':Nat}(I:Inv X pins σ H s)(hH:H l=some (.lst xs))
  (e:s.heap.get? l=some {cls:= .type "list",data:= .seq its.toArray n}) (hf:f its.toArray=d0.toArray) (hv:Vals ys d0) (hz:ys.length≤sizeLine):
  Inv X pins σ (upd H l (.lst ys)) {s with heap:=s.heap.update l (Obj.mapSeq f),toks:=t'}:=by
 have q:=PySem.IsL.update e f
 rw[hf] at q
 refine I.write (x:=l) (e:=l) (by rw[hH];exact trivial) (.inl rfl) (fun b' u hb hu=> (Heap.get?_update_other s.heap (Obj.mapSeq f) (Ne.symm hb)).trans hu) ⟨_,q⟩ ?_
 exact⟨hz,d0,_,hv,q⟩
theorem Inv.Gd{its:List Value}{t':Nat}(I:Inv X pins σ H s)(hv:Vals ys its)(hz:ys.length≤sizeLine):
  Inv X pins σ (upd H s.heap.objs.size (.lst ys)) {s with heap:=s.heap.push {cls:= .type "list",data:= .seq its.toArray},toks:=t'}:=
 I.laid (fun _ _ q=>Heap.get?_push_of_some _ q) (Nat.le_refl _) ⟨hz,its,0,hv,Heap.get?_push_size _ rfl⟩
theorem Inv.fresh(I:Inv X pins σ H s):H s.heap.objs.size=none:=I.aI.fresh (Nat.le_refl _)
theorem Inv.g_(I:Inv X pins σ H s)(hH:H l=some (.lst xs)):xs.length≤sizeLine∧ ∃(its:List Value) (n:Nat),Vals xs its∧xs.length=its.length∧s.heap.get? l=some {cls:= .type "list",data:= .seq its.toArray n}:=by
 obtain⟨z,its,n,r,e⟩:=I.aI l _ hH
 exact⟨z,its,n,r,r.length,e⟩
theorem Ge{n:Nat}(h:n≤sizeLine):Builtin.List.listTooLong n=false:=by
 unfold Builtin.List.listTooLong
 exact decide_eq_false (by omega)
end
section
variable {X:Cx}
def Qp:V→List V→Hp→VK→Prop:=fun x vs H Q=> ∃l xs y,x= .ref l∧vs=[y]∧H l=some (.lst xs)∧xs.length<sizeLine∧Q .ax (upd H l (.lst (xs++ [y])))
theorem Qq:nJ X "list.append" Qp:=by
 intro pins s σ H x vs v us Q I rx rv h
 obtain⟨l,xs,y,rfl,rfl,hH,hz,q⟩:=h
 cases rx
 obtain⟨u,rfl,ru⟩:=rv.one
 obtain⟨z,its,n,r,hl,e⟩:=I.g_ hH
 refine call_meets F.slot_list_append ⟨_,e,rfl⟩ F.entry_list_append (F.args_list_append_2 _ _) (PySem.list_append l its.toArray n u (by rw[List.size_toArray];omega)) ⟨e, ?_⟩
 refine⟨.ax,_,I.nK (d0:=its++ [u]) hH e (by simp) (r.append (.cons ru .nil)) ?_,rfl,q⟩
 rw[List.length_append,List.length_singleton]
 omega
def Qr:V→List V→Hp→VK→Prop:=fun x vs H Q=> ∃l b xs zs,x= .ref l∧vs=[.ref b]∧H l=some (.lst xs)∧H b=some (.lst zs)∧xs.length+zs.length≤sizeLine∧Q .ax (upd H l (.lst (xs++zs)))
theorem Qs:nJ X "list.extend" Qr:=by
 intro pins s σ H x vs v us Q I rx rv h
 obtain⟨l,b,xs,zs,rfl,rfl,hH,hB,hz,q⟩:=h
 cases rx
 obtain⟨u,rfl,ru⟩:=rv.one
 cases ru
 obtain⟨z,its,n,r,hl,e⟩:=I.g_ hH
 obtain⟨z2,iQ,n2,r2,Gf,e2⟩:=I.g_ hB
 have iL:its.toArray.size+iQ.toArray.size≤sizeLine:=by rw[List.size_toArray,List.size_toArray];omega
 have uU: ¬(!its.toArray.isEmpty && Builtin.List.listTooLong (its.toArray.size+iQ.toArray.size))=true:=by
  rw[Ge iL,Bool.and_false]
  exact Bool.false_ne_true
 refine call_meets F.slot_list_extend ⟨_,e,rfl⟩ F.entry_list_extend (F.args_list_extend_2 _ _)
  (AutoSeq1.list_extend_list_list_0 l its.toArray n b iQ.toArray n2 uU (by rw[List.size_toArray];omega) (by omega)) ⟨e,e2, ?_⟩
 refine⟨.ax,_,I.nK (d0:=its++iQ) hH e (by simp) (r.append r2) ?_,rfl,q⟩
 rw[List.length_append]
 omega
def Qt:V→List V→Hp→VK→Prop:=fun x vs H Q=> ∃l xs y,x= .ref l∧vs=[]∧H l=some (.lst xs)∧xs[xs.length - 1]?=some y∧Q y (upd H l (.lst xs.dropLast))
theorem Qu:nJ X "list.pop" Qt:=by
 intro pins s σ H x vs v us Q I rx rv h
 obtain⟨l,xs,y,rfl,rfl,hH,hy,q⟩:=h
 cases rx
 have nM:=rv.zero
 subst nM
 obtain⟨z,its,n,r,hl,e⟩:=I.g_ hH
 obtain⟨u,hu,ru⟩:=r.get hy
 have Qw:its.toArray[its.toArray.size - 1]?=some u:=by
  show its.toArray[its.length - 1]?=some u
  rw[←Array.getElem?_toList,←hl]
  exact hu
 refine call_meets F.slot_list_pop ⟨_,e,rfl⟩ F.entry_list_pop (F.args_list_pop_1 _) (MeetsSeq.list_pop_last l its.toArray n u Qw (by rw[List.size_toArray];omega)) ⟨e, ?_⟩
 refine⟨y,_,I.nK (d0:=its.dropLast) hH e ?_ r.dropLast ?_,ru,q⟩
 ·show its.toArray.eraseIdxIfInBounds (its.toArray.size - 1)=its.dropLast.toArray
  rw[List.size_toArray,List.eraseIdxIfInBounds_toArray,Qo]
 ·rw[List.length_dropLast]
  omega
def Qx:V→List V→Hp→VK→Prop:=fun x vs H Q=> ∃l xs,x= .ref l∧vs=[]∧H l=some (.lst xs)∧Q .ax (upd H l (.lst xs.reverse))
theorem Qy:nJ X "list.reverse" Qx:=by
 intro pins s σ H x vs v us Q I rx rv h
 obtain⟨l,xs,rfl,rfl,hH,q⟩:=h
 cases rx
 have nM:=rv.zero
 subst nM
 obtain⟨z,its,n,r,hl,e⟩:=I.g_ hH
 refine call_meets F.slot_list_reverse ⟨_,e,rfl⟩ F.entry_list_reverse (F.args_list_reverse_1 _) (AutoSeq1.list_reverse_list_0 l its.toArray n (by rw[List.size_toArray];omega)) ⟨e, ?_⟩
 refine⟨.ax,_,I.nK (d0:=its.reverse) hH e (by simp) r.reverse ?_,rfl,q⟩
 rw[List.length_reverse]
 omega
def Qz:V→List V→Hp→VK→Prop:=fun x vs H Q=> ∃l xs,x= .ref l∧vs=[]∧H l=some (.lst xs)∧Q .ax (upd H l (.lst []))
theorem QC:nJ X "list.clear" Qz:=by
 intro pins s σ H x vs v us Q I rx rv h
 obtain⟨l,xs,rfl,rfl,hH,q⟩:=h
 cases rx
 have nM:=rv.zero
 subst nM
 obtain⟨z,its,n,r,hl,e⟩:=I.g_ hH
 refine call_meets F.slot_list_clear ⟨_,e,rfl⟩ F.entry_list_clear (F.args_list_clear_1 _) (AutoSeq1.list_clear_list_0 l its.toArray n (by rw[List.size_toArray];omega)) ⟨e, ?_⟩
 exact⟨.ax,_,I.nK (d0:=[]) (ys:=[]) hH e rfl .nil (Nat.zero_le _),rfl,q⟩
def Gg:R2:=fun x y H Q=> ∃l b xs zs,x= .ref l∧y= .ref b∧H l=some (.lst xs)∧H b=some (.lst zs)∧xs.length+zs.length≤sizeLine∧ ∀p,H p=none→Q (.ref p) (upd H p (.lst (xs++zs)))
theorem QD:bp X (binaryOp .Add) Gg:=by
 intro pins s σ H x y v u Q I rx ry h
 obtain⟨l,b,xs,zs,rfl,rfl,hH,hB,hz,q⟩:=h
 cases rx
 cases ry
 obtain⟨z,its,n,r,hl,e⟩:=I.g_ hH
 obtain⟨z2,iQ,n2,r2,Gf,e2⟩:=I.g_ hB
 refine PySem.P.add_list e e2 ?_ (by rw[List.size_toArray,List.size_toArray];omega)
 have ea:its.toArray++iQ.toArray=(its++iQ).toArray:=by simp
 rw[ea]
 exact⟨.ref _,_,I.Gd (t':=s.toks) (r.append r2) (by rw[List.length_append];omega),rfl,q _ I.fresh⟩
def Gh:R2:=fun x y H Q=> ∃l k xs,x= .ref l∧y= .int k∧H l=some (.lst xs)∧ -(2 ^ 63)≤k∧k<2 ^ 63∧xs.length*k.toNat≤sizeLine∧
 ∀p,H p=none→Q (.ref p) (upd H p (.lst (List.replicate k.toNat xs).flatten))
theorem len_rep{α:Type}(xs:List α)(k:Nat):(List.replicate k xs).flatten.length=k*xs.length:=by
 induction k with
 | zero=>simp
 | succ k ih=>rw[List.replicate_succ,List.flatten_cons,List.length_append,ih,Nat.succ_mul,Nat.add_comm]
theorem QE:bp X (binaryOp .Mult) Gh:=by
 intro pins s σ H x y v u Q I rx ry h
 obtain⟨l,k,xs,rfl,rfl,hH,h1,h2,hz,q⟩:=h
 cases rx
 obtain⟨t,rfl⟩:=ry
 obtain⟨z,its,n,r,hl,e⟩:=I.g_ hH
 have hlen:its.toArray.size*k.toNat≤sizeLine:=by rw[List.size_toArray,←hl];exact hz
 have QF: ¬its.toArray.size*k.toNat> (2 ^ 63 - 1) / 8:=by
  have:(sizeLine:Nat)≤ (2 ^ 63 - 1) / 8:=by decide
  omega
 have QG: ¬(!Builtin.List.listFitsIndex k)=true:=by
  rw[fitsIndex_both h1 h2]
  exact Bool.false_ne_true
 have uU: ¬Builtin.List.listTooLong (its.toArray.size*k.toNat)=true:=by
  rw[Ge hlen]
  exact Bool.false_ne_true
 have QH:List.foldl (fun x1 x2=>x1++x2) #[] (List.replicate (if its.toArray.isEmpty=true then 0 else k.toNat) its.toArray)=(List.replicate k.toNat its).flatten.toArray:=by
  have f0: ∀m:Nat,List.foldl (fun x1 x2=>x1++x2) #[] (List.replicate m its.toArray)=(List.replicate m its).flatten.toArray:=fun m=>by
   have:=foldl_rep its m []
   rw[List.nil_append] at this
   exact this
  rw[f0]
  cases its with
  | nil=>simp
  | cons a r'=>rw[if_neg (by simp)]
 refine wpAny_binaryOp_repeat_ref (T:="list") (U:="int") (by decide) ⟨_,e,rfl⟩ (fun s'=>typeIs_int s' k t) noFill_list_mul F.fills_int_mul F.slot_int_rmul repeat_list F.slot_int_index.lookup
  (call_meets F.slot_int_rmul (typeIs_int s k t) F.entry_int_rmul (F.args_int_rmul_2 _ _) (int___rmul___int_list k t l its.toArray n)
   ⟨e,rfl,⟨_,e,rfl⟩,call_meets F.slot_list_mul ⟨_,e,rfl⟩ F.entry_list_mul (F.args_list_mul_2 _ _) (AutoListH.list___mul___list_int_3 l its.toArray n k t QG QF uU) ⟨e, ?_⟩⟩)
 rw[QH]
 exact⟨.ref _,_,I.Gd (t':=s.toks) (r.rep k.toNat) (by rw[len_rep,Nat.mul_comm];exact hz),rfl,q _ I.fresh⟩
end
section
variable {prog:Program} {w:World} {A:Around} {E:Value→Shared→Prop} {s:Shared}
end
section
variable {X:Cx}
end
end L2
namespace Gi
open PySem PySem.W PySem.Calls PyProof.Rows
theorem QI{P:Params}{h:Heap}: ∀(ns:List Int) (vs:List Value),WellAll P h vs (ns.map WData.int)→IntsAre vs ns:=by
 intro ns
 induction ns with
 | nil=>
  intro vs w
  rw[List.map_nil] at w
  cases w
  exact .nil
 | cons n ns ih=>
  intro vs w
  rw[List.map_cons] at w
  cases w with
  | cons a b=>
   cases a
   exact .cons _ _ (ih _ b)
theorem QJ{l:OpenLaw}{n:Nat}(hn:l.most=some n){P:Params}{h:Heap}{args:List WData}{vals:List Value}
  (mE:l.row.toRowW.claim.pre args=true) (uV:WellAll P h vals args):
  ∃a vs ns,vals=[Value.ref a]∧args=[WData.list (ns.map WData.int)]∧h.get? a=some {cls:= .type "list",data:= .seq vs.toArray}∧IntsAre vs ns∧ns.length≤n:=by
 have QK:WShape.hasAll [] args [.list .int]=true:=(pre_splitW mE).1
 have hc:l.pre.holds [] {args:=args}=true:=(pre_splitW mE).2
 obtain⟨d,r,rfl,h1,h2⟩:=hasAllW_cons QK
 obtain rfl:=hasAllW_nil h2
 obtain⟨xs,rfl,h3⟩:=hasW_list h1
 obtain⟨ns,rfl⟩:=items_int h3
 have hlen:ns.length≤n:=by
  unfold OpenLaw.pre at hc
  have h4:(WTm.not (.lt (.lit (.int (n:Int))) (.len (.arg 0)))).holds [] {args:=[.list (ns.map .int)]}=true:=by
   have h4:=(holds_andW hc).1
   rw[hn] at h4
   exact h4
  have h5:=condW_of h4 (w_not (w_lt w_lit (w_len_list (w_arg rfl))))
  rw[List.length_map] at h5
  refine Nat.le_of_not_lt fun q=> ?_
  have q':(n:Int) < ((ns.length:Nat):Int):=by omega
  first
   | (rw[decide_eq_true q'] at h5;exact absurd h5 (by decide))
   | (simp at h5;omega)
 cases uV with
 | cons w1 w2=>
  cases w2
  cases w1 with
  | list ho uW=>exact⟨_,_,ns,rfl,rfl,ho,QI ns _ uW,hlen⟩
theorem QL(l:OpenLaw)(args:List WData):l.row.toRowW.claim.post args (.bool true) args=true:=
 postW_of (r:=l.row.toRowW) (X:=(true==true))
  (show WShape.has [] (.bool true) .bool=true by first | rfl | decide | simp[WShape.has,WShape.arms,WShape.armsAll])
  (show(WTm.eq .res (.lit (.bool true))).value [] {args:=args,res:=some (.bool true),after:=args}=some (.bool (true==true)) from w_eq_bool (w_res rfl) w_lit) rfl
theorem QM{l:OpenLaw}{n:Nat}{q:Program}{loose:List Str}{XP:(Str→Option Value)→Heap→Prop}{YP:World→Heap→Prop}{d:DefRec}
  (hn:l.most=some n) (nN:d.params.defaults=[])
  (call: ∀(w:World) (s₀ s₁:Shared) (mg mb:Str→Option Value) (fa:Addr) (o:Obj) (pm cd doc:Value) (a:Addr) (vs:List Value) (ns:List Int),
   Ground q loose [] XP w s₀ mg mb s₁.heap→YP w s₁.heap→
   s₁.heap.get? fa=some o→o.data= .func (docDef d.name d.params d.body d.scope pm cd doc)→s₁.heap.CodeRec cd d.name→mg d.name=some (.ref fa)→
   s₁.heap.get? a=some {cls:= .type "list",data:= .seq vs.toArray}→IntsAre vs ns→ns.length≤n→s₁.gens= #[]→
   codeAny (model l.prog w) callerA (.call (.ref fa) ⟨[.ref a],[]⟩) (fun r s'=>r= .ok (.ret (.bool true))∧OldK s₁.heap s'.heap∧s'.os=s₁.os∧AllBare s'.gens) s₁):
  WalkO q loose XP YP l.row.toRowW d [] (fun f vs=>PySem.call f vs):=by
 intro w s₀ s₁ mg mb G Y fa o pm cd doc dV kV ho hd fF hD jF hg args vals as mE aok hrd uV hlo
 obtain rfl:dV= .none:=Dflts.none hD nN
 obtain rfl:kV= .none:=Dflts.noKw hD
 obtain⟨a,vs,ns,rfl,rfl,uX,hints,hlen⟩:=QJ hn mE uV
 refine enter_call (codeAny_mono (call w s₀ s₁ mg mb fa o pm cd doc a vs ns G Y ho (fd_plain hd) fF jF uX hints hlen hg) fun r s' hq=> ?_)
 obtain⟨rfl,h2,h3,h4⟩:=hq
 exact⟨.inl ⟨.bool true, .bool true,[],rfl,fun _=>rfl, .bool true,QL l _,fun _=> ⟨List.Pairwise.nil,fun _ hm=> (nomatch hm)⟩⟩,h2,h3,h4⟩
section
variable {prog:Program} {w:World} {A:Around} {E:Value→Shared→Prop} {s:Shared} {K:Frag}
end
end Gi
namespace L2
open PySem PySem.Spec PyProof.Rows
theorem Gj: ∀{vs:List Value} {ns:List Int},IntsAre vs ns→Vals (ns.map V.int) vs
 | _,_, .nil=> .nil
 | _,_, .cons n t h=> .cons ⟨t,rfl⟩ (Gj h)
def uY(H:Hp):Prop:= ∀b,H b=none∨ ∃o xs,H b=some (.bT o (.lst xs))
theorem QN{P:Program}{w:World}{K:PySem.W.Frag}{mg mb:Str→Option Value}{CX:aL}{k:Nat}{fa a:Addr}{fd:FuncData}{x:Str}{sp:Sp}{s₁:Shared}{vs:List Value}{ns:List Int}
  (KX:K.In s₁.heap) (qo:s₁.heap.Ns mainGlobals mg) (hb:s₁.heap.Ns builtinsNs mb) (QO: ∀x:Str,x≠"__name__"→mb x=bootBuiltins x) (QP:s₁.heap.NoLimit) (hg:s₁.gens= #[])
  (ha:s₁.heap.get? a=some {cls:= .type "list",data:= .seq vs.toArray}) (hi:IntsAre vs ns) (hl:ns.length≤sizeLine) (hr:ck k callerA)
  (F: ∀base:Heap,K.In base→base.Ns mainGlobals mg→cm P w K mg base CX k fa fd [x] sp) (QR: ∀(s:Shared) (u:Value),BindsTo s fd ⟨[u],[]⟩ [(x,u)])
  (iO: ∀H:Hp,uY H→aH K H a (ns.map V.int)→sp [.ref a] H (fun v _=>v= .bl true) fun _ _ _=>False)
  (uZ: ∀H e s',CX [] H s₁ (fun _ _ _=>False) e s'→False):
  codeAny (model P w) callerA (.call (.ref fa) ⟨[.ref a],[]⟩) (fun r s'=>r= .ok (.ret (.bool true))∧OldK s₁.heap s'.heap∧s'.os=s₁.os∧AllBare s'.gens) s₁:=by
 have rv:=Gj hi
 have nO:=hi.length
 have core: ∀H:Hp,uY H→aH K H a (ns.map V.int)→b_ P w H s₁.heap→(∀b,H b≠none→b=a)→(H a≠none→K.lookup a=none)→
   codeAny (model P w) callerA (.call (.ref fa) ⟨[.ref a],[]⟩) (fun r s'=>r= .ok (.ret (.bool true))∧OldK s₁.heap s'.heap∧s'.os=s₁.os∧AllBare s'.gens) s₁:=by
  intro H hO hS aI hA hK
  have jG: ∀{b:Addr} {o:Obj},s₁.heap.get? b=some o→H b=none→(gX s₁.heap H).get? b=some o:=fun e n=>NP e n
  have nE: ∀{b:Addr} {o:Obj} {es:Array DictEntry} {ep:Nat},s₁.heap.get? b=some o→o.data= .dict es ep→H b=none:=fun {b o es ep} e d=>by
   cases q:H b with
   | none=>rfl
   | some u=>
    have e':b=a:=hA b (by rw[q];simp)
    subst e'
    rw[ha] at e;cases e
    have d':Data.seq vs.toArray _=Data.dict es ep:=d
    cases d'
  have qp: ∀{b:Addr} {m:Str→Option Value},s₁.heap.Ns b m→(gX s₁.heap H).Ns b m:=fun {b m} ⟨o,es,ep,e,d,r⟩=> ⟨o,es,ep,jG e (nE e d),d,r⟩
  have Gk:K.In (gX s₁.heap H):=fun b o e=>jG (KX b o e) (by
   cases q:H b with
   | none=>rfl
   | some u=>
    have e':b=a:=hA b (by rw[q];simp)
    subst e'
    rw[hK (by rw[q];simp)] at e;cases e)
  have hM:Mod K mg (gX s₁.heap H):=⟨Gk,qp qo,⟨mb,qp hb,QO⟩,let ⟨mc,h1,h2⟩:=QP;⟨mc,qp h1,h2⟩⟩
  have e0:iN P w K mg (gX s₁.heap H) callerA [] s₁ H:=⟨rfl,hM,fun b o e=>NQ e,Nat.le_of_eq (NO _ _),trivial,fun b hb=>absurd (show b∈ ([]:List Addr) from hb) (by simp),aI, .of_eq hg⟩
  refine codeAny_mono ((F _ Gk (qp qo)).run callerA [] s₁ H ⟨[.ref a],[]⟩ [.ref a] [.ref a] _ _ hr e0 (QR s₁ (.ref a)) (.cons rfl .nil) (iO H hO hS)) fun r s' h=> ?_
  cases r with
  | error e=>exact(uZ H e s' h).elim
  | ok fl=>
   cases fl with
   | next=>exact False.elim h
   | brk=>exact False.elim h
   | cont=>exact False.elim h
   | ret u=>
    obtain⟨v,H',os,bare,un,QS,r',q⟩:=h
    have q':v= .bl true:=q
    subst q'
    obtain rfl:u=Value.bool true:=r'
    refine⟨rfl,OldK.of_keep fun b o e=> ?_,os,bare⟩
    cases q:H b with
    | none=>exact un.keep b o e q (by intro z;exact absurd (show b∈ ([]:List Addr) from z) (by simp)) (by simp)
    | some u=>
     rcases hO b with z | ⟨ob,xs,z⟩
     ·rw[q] at z;cases z
     ·have z2:=un.ej b ob _ z
      obtain⟨e1,_⟩:=aI b _ z
      obtain⟨e2,_⟩:=QS b _ z2
      rw[e] at e1;cases e1
      exact e2
 cases hk:K.lookup a with
 | some o=>
  have e:=KX a o hk
  rw[ha] at e
  cases e
  refine core (fun _=>none) (fun _=> .inl rfl) (.inr ⟨_,vs.toArray,_,hk,rfl,rfl,rfl,by rw[List.size_toArray,nO];exact hl,by simpa using rv⟩) (fun b u z=>by have z':(none:Option HO)=some u:=z;cases z') (fun b z=>absurd rfl z) fun z=>absurd rfl z
 | none=>
  refine core (fun b=>if b=a then some (.bT {cls:= .type "list",data:= .seq vs.toArray} (.lst (ns.map V.int))) else none) (fun b=> ?_) (.inl (.inr ⟨{cls:= .type "list",data:= .seq vs.toArray},if_pos rfl⟩)) (fun b u z=> ?_) (fun b z=> ?_) fun _=>hk
  ·by_cases hb:b=a
   ·exact .inr ⟨_,_,if_pos hb⟩
   ·exact .inl (if_neg hb)
  ·by_cases hb:b=a
   ·have z':=(if_pos hb).symm.trans z
    cases z'
    subst hb
    exact⟨ha,by rw[List.length_map];exact hl,vs,_,rv,ha⟩
   ·have z':=(if_neg hb).symm.trans z
    cases z'
  ·by_cases hb:b=a
   ·exact hb
   ·exact absurd (if_neg hb) z
theorem QU{l:PySem.W.OpenLaw}{n k:Nat}{q:Program}{loose:List Str}{XP:(Str→Option Value)→Heap→Prop}{YP:World→Heap→Prop}{d:DefRec}{K:Params→PySem.W.Frag}{CX:World→aL}{sp:World→Sp}{x:Str}
  (hn:l.most=some n) (iM:n≤sizeLine) (nN:d.params.defaults=[]) (hr:ck k callerA)
  (hY: ∀(w:World) (h:Heap),YP w h→(K w.params).In h)
  (F: ∀(w:World) (mg:Str→Option Value) (fa:Addr) (h:Heap),(K w.params).In h→h.Ns mainGlobals mg→mg d.name=some (.ref fa)→
   ∃fd:FuncData,(∀(s:Shared) (u:Value),BindsTo s fd ⟨[u],[]⟩ [(x,u)])∧
    ∀base:Heap,(K w.params).In base→base.Ns mainGlobals mg→cm l.prog w (K w.params) mg base (CX w) k fa fd [x] (sp w))
  (iO: ∀(w:World) (H:Hp) (a:Addr) (ns:List Int),ns.length≤n→uY H→aH (K w.params) H a (ns.map V.int)→sp w [.ref a] H (fun v _=>v= .bl true) fun _ _ _=>False)
  (uZ: ∀(w:World) (H:Hp) (s:Shared) (e:Value) (s':Shared),CX w [] H s (fun _ _ _=>False) e s'→False):
  PySem.W.WalkO q loose XP YP l.row.toRowW d [] (fun f vs=>PySem.call f vs):=by
 refine Gi.QM hn nN fun w s₀ s₁ mg mb fa o pm cd doc a vs ns G Y ho hd fF jF uX hints hlen hg=> ?_
 have KX:=hY w _ Y
 obtain⟨fd,hb,hF⟩:=F w mg fa _ KX G.T.g jF
 exact QN KX G.T.g G.T.b G.T.builtins G.T.nolimit hg uX hints (Nat.le_trans hlen iM) hr hF hb (fun H hO hS=>iO w H a ns hlen hO hS) fun H e s'=>uZ w H s₁ e s'
end L2
namespace L2
open PySem PySem.Spec PyProof.Rows
def inClass(s:Stmt)(j:Nat):Stmt:=match s with
 | .ClassDef _ _ _ body _ _ _ _ _ _ _=>body.getD j (.Pass ⟨0,0,0,0⟩)
 | _=> .Pass ⟨0,0,0,0⟩
def bo(s:Stmt):Arguments:=match s with
 | .FunctionDef _ a _ _ _ _ _ _ _ _=>a
 | _=> {posonlyargs:=[],args:=[],vararg:=none,kwonlyargs:=[],kw_defaults:=[],kwarg:=none,defaults:=[]}
def aA(s:Stmt):List Stmt:=match s with
 | .FunctionDef _ _ b _ _ _ _ _ _ _=>b
 | _=> []
def au(s:Stmt):Scope:=match s with
 | .FunctionDef _ _ _ _ _ _ sc _ _ _=>sc
 | _=> {kind:= .function,names:=[],isGenerator:=false,isCoroutine:=false}
abbrev qt:aL:=fun _ _ _ _ _ _=>False
abbrev E0:XK:=fun _ _ _=>False
structure nP (K:PySem.W.Frag) (x qual:Str) (st:Stmt) (f:Addr) (fd:FuncData):Prop where
 ex: ∃(oc:Value) (od:Option Addr) (kV doc pm:Value) (an:Option Addr) (cR ct:Value) (g7:Array (Option Value)),
  fd=fnOf x qual (bo st) (aA st) (au st) .none kV doc pm an cR ct∧K.lookup f=some ⟨oc,od, .func fd,g7⟩∧codeIn K cR qual=true
 kp:keepIn K (.ref f)=true
section
variable {P:Program} {w:World} {K:PySem.W.Frag} {mg:Str→Option Value} {base:Heap}
theorem nP.binds{x qual:Str}{st:Stmt}{f:Addr}{fd:FuncData}{ps:List Str}(F:nP K x qual st f fd)
  (h: ∀(kV doc pm:Value) (an:Option Addr) (cR ct:Value) (us:List Value),us.length=ps.length→bindArgs (fnOf x qual (bo st) (aA st) (au st) .none kV doc pm an cR ct) ⟨us,[]⟩=pure (ps.zip us)):Binds K fd ps []:=by
 obtain⟨oc,od,kV,doc,pm,an,cR,ct,g7,rfl,lk,fF⟩:=F.ex
 exact .all (h kV doc pm an cR ct)
theorem bB{x qual:Str}{st:Stmt}{f:Addr}{oc:Value}{od an:Option Addr}{g7:Array (Option Value)}{kV doc pm cR ct:Value}(l:K.lookup f=some ⟨oc,od, .func (fnOf x qual (bo st) (aA st) (au st) .none kV doc pm an cR ct),g7⟩)
  (c:codeIn K cR qual=true) (k:keepIn K (.ref f)=true):nP K x qual st f (fnOf x qual (bo st) (aA st) (au st) .none kV doc pm an cR ct):=⟨⟨oc,od,kV,doc,pm,an,cR,ct,g7,rfl,l,c⟩,k⟩
end
section
variable {X:Cx}
end
theorem gj{A B:Prop}(h:B):if false=true then A else B:=by
 rw[if_neg Bool.false_ne_true]
 exact h
theorem dH{A B:Prop}(h:A):if true=true then A else B:=by
 rw[if_pos rfl]
 exact h
theorem dI{c A B:Prop}[Decidable c](h1:c→A)(h2: ¬c→B):if c then A else B:=by
 by_cases h:c
 ·rw[if_pos h]
  exact h1 h
 ·rw[if_neg h]
  exact h2 h
def aG(H H':Hp):Prop:= ∀b o,H b=some o→H' b=some o
theorem aG.refl(H:Hp):aG H H:=fun _ _ h=>h
theorem aG.trans{H H1 H2:Hp}(a:aG H H1)(b:aG H1 H2):aG H H2:=fun c o h=>b c o (a c o h)
theorem aG.free{H H':Hp}(e:aG H H'){l:Addr}(h:H' l=Option.none):H l=Option.none:=by
 cases q:H l with
 | none=>rfl
 | some o=>
  rw[e l o q] at h
  cases h
theorem aG.seq{K:PySem.W.Frag}{H H':Hp}{a:Addr}{xs:List V}(e:aG H H')(h:aH K H a xs):aH K H' a xs:=by
 rcases h with(h | ⟨o,h⟩) | h
 ·exact .inl (.inl (e _ _ h))
 ·exact .inl (.inr ⟨o,e _ _ h⟩)
 ·exact .inr h
section
variable {κ:Type} [DecidableEq κ]
def Gm(aM:List (κ×V))(k:κ):Option V:=(aM.find? fun kv=>decide (kv.1=k)).map (·.2)
def putK(aM:List (κ×V))(k:κ)(v:V):List (κ×V):=
 if (aM.any fun kv=>decide (kv.1=k))=true then aM.map (fun kv=>if kv.1=k then (kv.1,v) else kv) else aM++ [(k,v)]
end
section
variable {P:Program} {w:World} {H:Hp} {h:Heap} {a:Addr}
end
def qu(H:Hp)(a:Addr)(y:V)(r:Option V):Prop:=
 (∃aM k,Rd H a (.dK aM)∧y=kV k∧r=Gm aM k)∨ ∃aM k b,Rd H a (.dT aM)∧y= .ref b∧H b=some (.tup (k.map kV))∧r=Gm aM k
def QV(H:Hp)(a:Addr)(y v:V)(H':Hp):Prop:=
 (∃aM k,H a=some (.dK aM)∧y=kV k∧aM.length<sizeLine∧H'=upd H a (.dK (putK aM k v)))∨
 ∃aM k b,H a=some (.dT aM)∧y= .ref b∧H b=some (.tup (k.map kV))∧aM.length<sizeLine∧H'=upd H a (.dT (putK aM k v))
section
variable {X:Cx} {pins:List (Addr×Obj)} {σ:St} {H:Hp} {s:Shared} {a:Addr} {y v:V} {u r:Value} {o:Option V} {A:Around} {E:Value→Shared→Prop}
end
section
variable {X:Cx} {pins:List (Addr×Obj)} {σ:St} {H:Hp} {s:Shared} {a:Addr} {aM:List (Key×V)} {k:Key} {u:Value} {A:Around} {E:Value→Shared→Prop}
end
def QW(td ty:TE):TE:=fun σ H Q=>td σ H fun x H1=>ty σ H1 fun y H2=> ∃a v,x= .ref a∧qu H2 a y (some v)∧Q v H2
def Gn(ty td:TE):TE:=fun σ H Q=>ty σ H fun y H1=>td σ H1 fun x H2=> ∃a o,x= .ref a∧qu H2 a y o∧Q (.bl o.isSome) H2
def Gp(ty td:TE):TE:=fun σ H Q=>ty σ H fun y H1=>td σ H1 fun x H2=> ∃a o,x= .ref a∧qu H2 a y o∧Q (.bl (!o.isSome)) H2
def QX(td ty tv:TE):TS:=fun D σ H=>tv σ H fun v H1=>td σ H1 fun x H2=>ty σ H2 fun y H3=> ∃a H4,x= .ref a∧QV H3 a y v H4∧D.nx σ H4
section
variable {X:Cx} {o i e value:Expr} {pos pos' uI:Pos} {td ty tv:TE}
end
def QY:TE:=fun _ H Q=> ∀p,H p=none→Q (.ref p) (upd H p (.dT []))
section
variable {X:Cx} {pos:Pos}
end
def QZ(H:Hp)(a:Addr):Prop:=(∃aM,Rd H a (.dK aM))∨ ∃aM,Rd H a (.dT aM)
section
variable {X:Cx} {pins:List (Addr×Obj)} {σ:St} {H:Hp} {s:Shared} {a:Addr} {y d:V} {u r:Value} {o:Option V} {A:Around} {E:Value→Shared→Prop}
end
def Q0(td ty tx:TE):TE:=fun σ H Q=>td σ H fun x H1=> ∃a,x= .ref a∧QZ H1 a∧ty σ H1 fun y H2=>tx σ H2 fun z H3=> ∃o,qu H3 a y o∧Q (o.getD z) H3
section
variable {X:Cx} {o e f:Expr} {apos cW:Pos} {td ty tx:TE}
end
end L2
set_option maxHeartbeats 4000000
namespace L2
open PySem PySem.Spec PyProof.Rows
section
variable {X:Cx} {pins:List (Addr×Obj)} {σ:St} {H:Hp} {s:Shared} {a:Addr} {o:HO}
theorem Inv.Gq(I:Inv X pins σ H s)(hn:H a=none)(h0:X.s₀.heap.objs.size≤a)(hL:a≠X.env.locals)(hC: ∀x c,X.env.cells.lookup x=some c→c≠a)
  (hp: ∀p∈X.pn++pins,p.1≠a) (new:cu X.prog X.w (upd H a o) s.heap a o):Inv X pins σ (upd H a o) s:=by
 have Q2: ∀b u,X.s₀.heap.get? b=some u→b≠a:=fun b u e=>Nat.ne_of_lt (Nat.lt_of_lt_of_le (Heap.lt_size e) h0)
 have nQ: ∀b u,H b=some u→b≠a:=fun b u e=>bW e hn
 refine⟨I.ok,I.os,I.bare,⟨I.base.keep,I.base.slot,fun b u e n hx=> ?_,I.base.there,fun b xs e=> ?_,fun b u xs e=> ?_,fun b ps e=> ?_⟩,I.loc,I.cell, ?_,fun x c e=> ?_,fun p q=> ?_,fun b u e=> ?_,I.len⟩
 ·rw[aN (Q2 b u e)];exact I.base.free b u e n hx
 ·have z:=I.base.cC b xs e
  rw[aN (nQ b _ z)];exact z
 ·have z:=I.base.ej b u xs e
  rw[aN (nQ b _ z)];exact z
 ·obtain⟨m,z⟩:=I.base.eJ b ps e
  exact⟨m,by rw[aN (nQ b _ z)];exact z⟩
 ·rw[aN (Ne.symm hL)];exact I.free
 ·rw[aN (hC x c e)];exact I.gY x c e
 ·obtain⟨z1,z2,z3⟩:=I.pin p q
  exact⟨z1,by rw[aN (hp p q)];exact z2,z3⟩
 ·by_cases hb:b=a
  ·subst hb;rw[aS] at e;cases e;exact new
  ·rw[aN hb] at e
   exact(I.aI b u e).gW (fun _ _ _ q=>q) (fun c q=>by rw[aN (nQ c _ q)];exact q) fun c xs q=>by rw[aN (nQ c _ q)];exact q
end
def cG(cells:List (Str×Addr)):List (Str×NameKind)→List (Str×Addr)→List (Str×Addr)
 | [],acc=>acc
 | (n,k)::r,acc=>cG cells r (if k= .free then (n,(cells.lookup n).getD 0)::acc else acc)
theorem Gr(env:Env): ∀(names:List (Str×NameKind)) (acc:List (Str×Addr)),(∀y∈names,y.2= .free→ ∃c,env.cells.lookup y.1=some c)→
  (forIn names acc (fun(x:Str×NameKind) (cs:List (Str×Addr))=>match x with
   | (name,kind)=>if (kind==NameKind.free)=true then do let a ←cellOf env name;pure (ForInStep.yield ((name,a)::cs)) else pure (ForInStep.yield cs)):Sem (List (Str×Addr)))=pure (cG env.cells names acc)
 | [],acc,_=>rfl
 | (n,k)::r,acc,h=>by
  have hr:=fun u_=>Gr env r u_ fun y hy=>h y (List.mem_cons_of_mem _ hy)
  rw[List.forIn_cons]
  by_cases hk:k= .free
  ·subst hk
   obtain⟨c,e⟩:=h (n, .free) List.mem_cons_self rfl
   have e':cellOf env n=pure c:=by unfold cellOf;rw[e]
   have ec:cG env.cells ((n, .free)::r) acc=cG env.cells r ((n,c)::acc):=by simp[cG,e]
   rw[ec,←hr]
   simp[e']
  ·have hb:(k==NameKind.free)=false:=by simpa using hk
   have ec:cG env.cells ((n,k)::r) acc=cG env.cells r acc:=by simp[cG,hk]
   rw[ec,←hr]
   simp[hb]
theorem Q3{scope:Scope}{env:Env}(h: ∀y∈scope.names,y.2= .free→ ∃c,env.cells.lookup y.1=some c):closureFor scope env=pure (cG env.cells scope.names []):=by
 have:=Gr env scope.names [] h
 simp only[closureFor]
 rw[←this]
 simp
theorem Gs{cells:List (Str×Addr)}: ∀(names:List (Str×NameKind)) (acc:List (Str×Addr)) (x:Str) (c:Addr),(cG cells names acc).lookup x=some c→(acc.lookup x=some c)∨((x, .free)∈names∧(cells.lookup x).getD 0=c)
 | [],acc,x,c,h=> .inl h
 | (n,k)::r,acc,x,c,h=>by
  simp only[cG] at h
  rcases Gs r _ x c h with z | ⟨z1,z2⟩
  ·by_cases hk:k= .free
   ·subst hk
    simp only[if_true] at z
    rw[List.lookup_cons] at z
    by_cases hx:x==n
    ·simp only[hx] at z
     have Q4:x=n:=eq_of_beq hx
     subst Q4
     exact .inr ⟨List.mem_cons_self,Option.some.inj z⟩
    ·have jH:(x==n)=false:=by simpa using hx
     simp only[jH] at z
     exact .inl z
   ·simp only[if_neg hk] at z
    exact .inl z
  ·exact .inr ⟨List.mem_cons_of_mem _ z1,z2⟩
theorem vc{cells:List (Str×Addr)}: ∀(names:List (Str×NameKind)) (acc:List (Str×Addr)) (x:Str),((x,NameKind.free)∈names∨ ∃c,acc.lookup x=some c)→ ∃c,(cG cells names acc).lookup x=some c
 | [],acc,x,h=>by
  rcases h with h | h
  ·cases h
  ·exact h
 | (n,k)::r,acc,x,h=>by
  simp only[cG]
  refine vc r _ x ?_
  rcases h with h | ⟨c,h⟩
  ·rcases List.mem_cons.mp h with e | h
   ·cases e
    refine .inr ?_
    simp[List.lookup_cons]
   ·exact .inl h
  ·refine .inr ?_
   by_cases hk:k= .free
   ·simp only[if_pos hk,List.lookup_cons]
    cases hx:x==n
    ·exact⟨c,h⟩
    ·exact⟨_,rfl⟩
   ·simp only[if_neg hk];exact⟨c,h⟩
theorem Gu{env:Env}: ∀(names:List (Str×NameKind)) (x:Str),
  (names.map fun(n,k)=>if (k==NameKind.free && env.scope.kind== .function && env.kindOf n==some .cell) then (n,NameKind.cell) else (n,k)).lookup x=
   (names.lookup x).map fun k=>if (k==NameKind.free && env.scope.kind== .function && env.kindOf x==some .cell) then NameKind.cell else k
 | [],_=>rfl
 | (n,k)::r,x=>by
  have ih:=Gu (env:=env) r x
  show List.lookup x ((if (k==NameKind.free && env.scope.kind== .function && env.kindOf n==some .cell)=true then (n,NameKind.cell) else (n,k))::_)=_
  cases hx:x==n with
  | true=>
   have e:x=n:=eq_of_beq hx
   subst e
   by_cases hc:(k==NameKind.free && env.scope.kind== .function && env.kindOf x==some .cell)=true
   ·rw[if_pos hc];simp only[List.lookup_cons,beq_self_eq_true,Option.map_some];rw[if_pos hc]
   ·rw[if_neg hc];simp only[List.lookup_cons,beq_self_eq_true,Option.map_some];rw[if_neg hc]
  | false=>
   by_cases hc:(k==NameKind.free && env.scope.kind== .function && env.kindOf n==some .cell)=true
   ·rw[if_pos hc];simp only[List.lookup_cons,hx];exact ih
   ·rw[if_neg hc];simp only[List.lookup_cons,hx];exact ih
section
variable {prog:Program} {w:World} {A:Around} {R:Result→Shared→Prop} {s:Shared}
theorem Q5{elt target iter:Expr}{ifs:List Expr}{scope:Scope}{pos:Pos}{it acc:Value}{env:Env}(I:Nat→Shared→Prop)
  (turn: ∀n s,I n s→wpAny (model prog w) A (pyNext it) (fun r s₁=>match r with
   | none=>R (.ok .next) s₁
   | some v=>wpAny (model prog w) A (letOwnedTupleGo target it v) (fun _ Gv=>wpAny (model prog w) A (assign target env v) (fun _ s₂=>
     wpAny (model prog w) A (forIn ifs true fun c r=>if r=true then do let ok ←isTrue c env (eval c env);pure (ForInStep.yield ok) else pure (ForInStep.yield r)) (fun ok s₃=>
      if ok=true then wpAny (model prog w) A (eval elt env) (fun x s₄=>
       wpAny (model prog w) A (call (.builtin "list.append") [acc,x]) (fun _ s₅=> ∃m,m<n∧I m s₅) (fun _ _=>False) s₄) (fun _ _=>False) s₃
      else ∃m,m<n∧I m s₃) (fun _ _=>False) s₂) (fun _ _=>False) Gv) (fun _ _=>False) s₁) (fun _ _=>False) s)
  (n:Nat) (h:I n s):codeAny (model prog w) A (.compLoop (.ListComp elt [⟨target,iter,ifs,0⟩] scope pos) 0 it acc env) R s:=by
 refine codeAny_loop rfl I (fun n s hI=> ?_) n h
 show wpAny _ A ((compTurn (.ListComp elt [⟨target,iter,ifs,0⟩] scope pos) 0 it acc env).onRaise (fun x=>do noteFrame x env;theTreesLotGoes x)) _ _ s
 refine wpAny_noted ?_
 rw[compTurn_list]
 refine wpAny_bind (wpAny_standAt (wpAny_bind (wpAny_mono (turn n s hI) (fun r s₁ h₁=> ?_) fun _ _ h'=>h'.elim)))
 cases r with
 | none=>exact wpAny_pure h₁
 | some v=>
  refine wpAny_bind (wpAny_mono h₁ (fun _ Gv Q6=> ?_) fun _ _ h'=>h'.elim)
  refine wpAny_bind (wpAny_mono Q6 (fun _ s₂ h₂=>wpAny_bind (wpAny_mono h₂ (fun ok s₃ h₃=> ?_) fun _ _ h'=>h'.elim)) fun _ _ h'=>h'.elim)
  cases ok with
  | false=>exact wpAny_pure ⟨rfl,h₃⟩
  | true=>
   exact wpAny_bind (wpAny_bind (wpAny_mono h₃ (fun x s₄ h₄=>wpAny_bind (wpAny_mono h₄ (fun _ s₅ h₅=>wpAny_pure (wpAny_pure ⟨rfl,h₅⟩)) fun _ _ h'=>h'.elim)) fun _ _ h'=>h'.elim))
end
def eM(X:Cx)(scope:Scope)(N:List Str)(ex:List Addr)(C:Addr)(s:Shared)(H:Hp):Cx where
 prog:=X.prog
 w:=X.w
 K:=X.K
 mg:=X.mg
 base:=X.base
 A:=X.A
 N:=N
 s₀:=s
 H₀:=H
 env:=compEnvC scope (cG X.env.cells scope.names []) C X.env
 outer:=X.stack
 stack:=X.stack
 ex:=ex
 fn:=fun _=>false
 calm:=X.calm
 pn:=[]
 xe:=fun _ _=>False
structure hG (X:Cx) (scope:Scope) (ln:List Str) (fv:List (Str×Nat)):Prop where
 kind:scope.kind= .function
 Gw: ∀y∈scope.names,y.2≠ .cell
 locals: ∀y∈scope.names,y.2= .local→scope.names.lookup y.1=some .local
 free: ∀y∈scope.names,y.2= .free→(X.env.kindOf y.1=some .cell∨X.env.kindOf y.1=some .free)
 Q7: ∀p∈fv,X.N[p.2]?=some p.1∧scope.names.lookup p.1=some .free
def cM(σ:St)(fv:List (Str×Nat)):St:=fv.map fun p=> (σ[p.2]?).join
def mF(K:PySem.W.Frag):Option Nat→V→Hp→(List V→Prop)→Prop
 | none,x,_,Q=>Q [x]
 | some n,x,H,Q=> ∃a xs,x= .ref a∧a_ K H a xs∧xs.length=n∧Q xs
def nR:Option TT→TT
 | none=>fun _ H k=>k true H
 | some t=>t
def qv(K:PySem.W.Frag)(wi:TI)(tk:Option Nat)(fv:List (Str×Nat))(tc:Option TT)(te:TE):TE:=fun σ H Q=>
 wi σ H fun J H1=> ∃W:Nat→Nat→List V→Hp→Prop,(∃m,W 0 m [] H1)∧ ∀i m ys H2,W i m ys H2→
  (J.stop i H2∧ ∀p,H2 p=none→Q (.ref p) (upd H2 p (.lst ys)))∨
  (J.go i H2∧ ∀x H3,J.eK i H2 x H3→mF K tk x H3 fun xs=>
   nR tc (xs.map some++cM σ fv) H3 fun b H5=>
    if b=true then te (xs.map some++cM σ fv) H5 fun y H6=>ys.length<sizeLine∧ ∃m',m'<m∧W (i+1) m' (ys++ [y]) H6
    else ∃m',m'<m∧W (i+1) m' ys H5)
section
variable {X:Cx} {pins:List (Addr×Obj)} {σ:St} {H:Hp} {s₂ s₃:Shared} {scope:Scope} {ln:List Str} {fv:List (Str×Nat)} {fp:List Addr} {h₁:Heap} {D C:Addr} {m:Str→Option Value} {t:Nat}
theorem hG.cells(S:hG X scope ln fv)(I:Inv X pins σ H s₂){x:Str}{c:Addr}(h:(cG X.env.cells scope.names []).lookup x=some c):X.env.cells.lookup x=some c∧(x,NameKind.free)∈scope.names:=by
 rcases Gs _ _ _ _ h with z | ⟨z1,z2⟩
 ·cases z
 ·obtain⟨c',e⟩:=I.ok.has x (S.free _ z1 rfl)
  rw[e] at z2
  have z3:c'=c:=z2
  subst z3
  exact⟨e,z1⟩
theorem hG.Q8(S:hG X scope ln fv)(I:Inv X pins σ H s₂):closureFor scope X.env=pure (cG X.env.cells scope.names []):=
 Q3 fun y hy hk=>I.ok.has y.1 (S.free y hy hk)
theorem Q9(S:hG X scope ln fv)(I:Inv X pins σ H s₂)(f2: ∀b∈fp,eV X pins H b)(nS: ∀b∈fp,∃o,s₂.heap.get? b=some o)
  (os:s₃.os=s₂.os) (gens:s₃.gens=s₂.gens) (k3: ∀b o,s₂.heap.get? b=some o→s₃.heap.get? b=some o) (hD:D=s₂.heap.objs.size) (h3:s₃.heap.objs.size=s₂.heap.objs.size+1) (hC:C=s₃.heap.objs.size)
  (k4: ∀b o,s₃.heap.get? b=some o→h₁.get? b=some o) (qo:h₁.Ns C m):
  Inv (eM X scope (ln++fv.map (·.1)) (D::fp) C s₃ H) [] (ln.map (fun _=>none)++cM σ fv) H {s₃ with heap:=h₁,toks:=t}:=by
 have cl: ∀{x c},(cG X.env.cells scope.names []).lookup x=some c→X.env.cells.lookup x=some c:=fun h=> (S.cells I h).1
 have Q_: ∀{x c},(cG X.env.cells scope.names []).lookup x=some c→c<s₂.heap.objs.size:=fun h=>by
  obtain⟨v,q⟩:=I.cell _ _ (cl h)
  exact q.lt
 have Ra: ∀b∈fp,b<s₂.heap.objs.size:=fun b hb=>by obtain⟨o,e⟩:=nS b hb;exact Heap.lt_size e
 have Rb: ∀b∈D::fp,b≤s₂.heap.objs.size:=fun b hb=>by
  rcases List.mem_cons.mp hb with e | hb
  ·rw[e,hD];exact Nat.le_refl _
  ·exact Nat.le_of_lt (Ra b hb)
 have Gx: ∀x,(relabel scope X.env).names.lookup x=(scope.names.lookup x).map fun k=>if (k==NameKind.free && X.env.scope.kind== .function && X.env.kindOf x==some .cell) then NameKind.cell else k:=fun x=>Gu scope.names x
 have Rf: ∀x,scope.names.lookup x=some .free→((relabel scope X.env).names.lookup x=some .cell∨(relabel scope X.env).names.lookup x=some .free):=fun x e=>by
  rw[Gx,e]
  simp only[Option.map_some]
  split
  ·exact .inl rfl
  ·exact .inr rfl
 have Rg: ∀x,((relabel scope X.env).names.lookup x=some .cell∨(relabel scope X.env).names.lookup x=some .free)→(x,NameKind.free)∈scope.names:=fun x e=>by
  rw[Gx] at e
  cases q:scope.names.lookup x with
  | none=>rw[q] at e;rcases e with e | e<;>cases e
  | some k=>
   rw[q] at e
   have hm:(x,k)∈scope.names:=PySem.mem_of_lookup q
   simp only[Option.map_some] at e
   by_cases hk:k= .free
   ·rw[hk] at hm;exact hm
   ·have hb:(k==NameKind.free)=false:=by simpa using hk
    simp only[hb,Bool.false_and,Bool.false_eq_true,if_false] at e
    rcases e with e | e
    ·exact absurd (Option.some.inj e) (S.Gw _ hm)
    ·exact absurd (Option.some.inj e) hk
 refine⟨⟨I.ok.mod,S.kind,I.ok.glob,I.ok.blt,Nat.le_of_eq hC.symm,fun x y c h1 h2=>I.ok.inj x y c (cl h1) (cl h2),fun x hx=>vc _ _ x (.inl (Rg x hx)),fun x c h _=> (by cases h),I.ok.hd,I.ok.frames, .inl rfl,fun b hb=> ⟨?_,fun x c e=> ?_⟩,fun b o e=> ⟨k3 b o (I.bs b o e).1,(I.bs b o e).2⟩, ?_,fun b o e hb=> ?_,fun b hb hf=> ?_, ?_,I.pO⟩,
  rfl, ?_,Un.kept fun b u e=>k4 b u e,⟨m,qo,fun i x v e1 e2 e3=> ?_⟩,fun x c e=> ?_,I.aI.fresh ?_,fun x c e=>I.gY x c (cl e),fun p hp=>absurd (show p∈ ([]:List (Addr×Obj)) from hp) (by simp),I.aI.kept fun b u e=>k4 b u (k3 b u e), ?_⟩
 ·show b≠C
  have:=Rb b hb
  rw[hC,h3];exact Nat.ne_of_lt (Nat.lt_succ_of_le this)
 ·have q1:=Q_ e
  rcases List.mem_cons.mp hb with z | z
  ·rw[z,hD];exact Nat.ne_of_lt q1
  ·exact(f2 b z).2.2.2.2.1 x c (cl e)
 ·show X.base.objs.size≤s₃.heap.objs.size
  have:=Nat.le_trans I.ok.mr I.sz
  omega
 ·have e2:=(I.bs b o e).1
  have vd:b∈D::fp:=hb
  rcases List.mem_cons.mp vd with z | z
  ·have:=Heap.lt_size e2
   rw[z,hD] at this;exact Nat.lt_irrefl _ this
  ·rcases (f2 b z).2.2.2.1 with q | q
   ·exact I.ok.ud b o e q
   ·exact absurd (Nat.lt_of_lt_of_le (Heap.lt_size (I.ok.bs b o e).1) q) (Nat.lt_irrefl _)
 ·have Gy:b∈bX X.stack:=hf
  have vd:b∈D::fp:=hb
  rcases List.mem_cons.mp vd with z | z
  ·rcases List.mem_cons.mp (I.pN b Gy) with q | q
   ·have:=I.lt
    rw[←q,z,hD] at this;exact Nat.lt_irrefl _ this
   ·exact I.EJ (by rw[z,hD];exact Nat.le_refl _) q
  ·rcases List.mem_cons.mp (I.pN b Gy) with q | q
   ·exact(f2 b z).2.1 q
   ·exact(f2 b z).2.2.1 q
 ·exact PySem.Heap.FunFrames.of_keeps (fun b o e _=> ⟨o,k3 b o e,rfl⟩) I.stack
 ·show AllBare s₃.gens
  rw[gens];exact I.bare
 ·have hi:ln.length≤i:=by
   by_cases hi:i<ln.length
   ·exfalso
    rw[List.getElem?_append_left (by simpa using hi),List.getElem?_map] at e2
    cases q:ln[i]? with
    | none=>rw[q] at e2;cases e2
    | some y=>rw[q] at e2;cases e2
   ·omega
  have jI:(ln++fv.map (·.1))[i]?=some x:=e1
  rw[List.getElem?_append_right hi,List.getElem?_map] at jI
  rw[List.getElem?_append_right (by simpa using hi),List.length_map] at e2
  unfold cM at e2
  rw[List.getElem?_map] at e2
  cases q:fv[i - ln.length]? with
  | none=>rw[q] at jI;cases jI
  | some p=>
   rw[q] at jI e2
   have ex:p.1=x:=Option.some.inj jI
   have ev:(σ[p.2]?).join=some v:=Option.some.inj e2
   obtain⟨g1,g2⟩:=S.Q7 p (List.mem_of_getElem? q)
   rw[ex] at g1 g2
   have Rh:σ[p.2]?=some (some v):=by
    cases z:σ[p.2]? with
    | none=>rw[z] at ev;cases ev
    | some o=>rw[z] at ev;rw[show o=some v from ev]
   have hk:=S.free _ (PySem.mem_of_lookup g2) rfl
   obtain⟨m2,iM,hl⟩:=I.loc
   obtain⟨u,r,l⟩:=hl p.2 x v g1 Rh (by rcases hk with k | k;exact .inr (.inl k);exact .inr (.inr k))
   refine⟨u,r, .inr ?_⟩
   rcases l with⟨k,_⟩ | ⟨_,c,ec,z⟩
   ·rcases hk with k' | k'<;> (rw[k] at k';cases k')
   ·refine⟨Rf x g2,c, ?_, ?_⟩
    ·obtain⟨c',e'⟩:=vc (cells:=X.env.cells) scope.names [] x (.inl (PySem.mem_of_lookup g2))
     have:=cl e'
     rw[ec] at this;cases this
     exact e'
    ·obtain⟨o,ho,hd⟩:=z
     exact⟨o,k4 c o (k3 c o ho),hd⟩
 ·obtain⟨v,o,ho,hd⟩:=I.cell x c (cl e)
  exact⟨v,o,k4 c o (k3 c o ho),hd⟩
 ·show s₂.heap.objs.size≤C
  rw[hC,h3];exact Nat.le_succ _
 ·show(ln.map (fun _=>none)++cM σ fv).length=(ln++fv.map (·.1)).length
  simp[cM]
end
structure Gz (Φ:Cx→Prop) (P:Program) (w:World) (K:PySem.W.Frag) (tg:Expr) (J:It) (fp:List Addr) (it:Addr) (tn:Nat→Heap→Prop):Prop where
 mem:it∈fp
 obj: ∀i h,tn i h→ ∀b∈fp,∃o,h.get? b=some o∧ ∀v,o.data≠ .cell v
 keep: ∀i h h',tn i h→(∀b∈fp,∀o,h.get? b=some o→h'.get? b=some o)→tn i h'
 item: ∀(X:Cx),X.prog=P→X.w=w→X.K=K→Φ X→ ∀(i:Nat) (pins:List (Addr×Obj)) (s:Shared) (σ:St) (H:Hp) (E:Value→Shared→Prop),Inv X pins σ H s→(∀b∈fp,eV X pins H b)→tn i s.heap→J.go i H→
  wpAny (model P w) X.A (pyNext (.ref it)) (fun r s1=> ∃u,r=some u∧
   wpAny (model P w) X.A (letOwnedTupleGo tg (.ref it) u) (fun _ s2=> ∃x H',Inv X pins σ H' s2∧RelV x u∧J.eK i H x H'∧tn (i+1) s2.heap∧ ∀b∈fp,H' b=none) E s1) E s
 done: ∀(X:Cx),X.prog=P→X.w=w→X.K=K→Φ X→ ∀(i:Nat) (pins:List (Addr×Obj)) (s:Shared) (σ:St) (H:Hp) (E:Value→Shared→Prop),Inv X pins σ H s→(∀b∈fp,eV X pins H b)→tn i s.heap→J.stop i H→
  wpAny (model P w) X.A (pyNext (.ref it)) (fun r s1=>r=none∧Inv X pins σ H s1) E s
 self: ∀(A:Around) (i:Nat) (s:Shared) (Q:Value→Shared→Prop) (E:Value→Shared→Prop),tn i s.heap→Q (.ref it) s→wpAny (model P w) A (pyIter (.ref it)) Q E s
def GA(Φ:Cx→Prop)(X:Cx)(tg iter:Expr)(wi:TI):Prop:=
 ∀(pins:List (Addr×Obj)) (s:Shared) (σ:St) (H:Hp) (R:It→Hp→Prop),Inv X pins σ H s→wi σ H R→
  wpAny (model X.prog X.w) X.A (eval iter X.env) (fun v s1=>wpAny (model X.prog X.w) X.A (pyIter v) (fun mx s2=>
   ∃(it:Addr) (fp:List Addr) (tn:Nat→Heap→Prop) (J:It) (H':Hp),mx= .ref it∧Inv X pins σ H' s2∧Gz Φ X.prog X.w X.K tg J fp it tn∧tn 0 s2.heap∧(∀b∈fp,eV X pins H' b)∧R J H') X.xe s1) X.xe s
abbrev Calm(X:Cx):Prop:=X.calm=true
theorem PI.p{X:Cx}{tg iter:Expr}{wi:TI}(h:PI X tg iter wi):GA Calm X tg iter wi:=fun pins s σ H R I q=>
 aW (h pins s σ H R I q) fun v s1 h1=>aW h1 fun mx s2 ⟨it,fp,tn,J,H',e,I',T,st,f,r⟩=> ⟨it,fp,tn,J,H',e,I',⟨T.mem,T.obj,T.keep,T.item,T.done,T.self⟩,st,f,r⟩
section
variable {X:Cx} {pins:List (Addr×Obj)} {σ:St} {H:Hp} {s₂:Shared} {scope:Scope} {ln:List Str} {fv:List (Str×Nat)} {elt tg iter:Expr} {ifs:List Expr} {pos:Pos}
 {J:It} {fp:List Addr} {it:Addr} {tn:Nat→Heap→Prop} {tk:Option Nat} {tc:Option TT} {te:TE} {Qv:VK} {RR:Value→Addr→Result→Shared→Prop} {E:Value→Shared→Prop}
def GB(Ψ:Hp→Prop)(X:Cx)(scope:Scope)(ln:List Str)(fv:List (Str×Nat))(tg:Expr)(tk:Option Nat):Prop:=
 ∀(ex:List Addr) (C:Addr) (s:Shared) (H:Hp),Ψ H→ ∃g,PG (eM X scope (ln++fv.map (·.1)) ex C s H) tg g∧
  ∀(x:V) (pre φ:St) (H':Hp) (Q:St→Hp→Prop),pre.length=ln.length→mF X.K tk x H' (fun xs=>xs.length=ln.length→Q (xs.map some++φ) H')→g x (pre++φ) H' Q
def qw(X:Cx)(scope:Scope)(ln:List Str)(fv:List (Str×Nat))(tg:Expr)(tk:Option Nat):Prop:=
 ∀(ex:List Addr) (C:Addr) (s:Shared) (H:Hp),∃g,PG (eM X scope (ln++fv.map (·.1)) ex C s H) tg g∧
  ∀(x:V) (pre φ:St) (H':Hp) (Q:St→Hp→Prop),pre.length=ln.length→mF X.K tk x H' (fun xs=>xs.length=ln.length→Q (xs.map some++φ) H')→g x (pre++φ) H' Q
def ve(X:Cx)(scope:Scope)(N:List Str)(ifs:List Expr)(tc:Option TT):Prop:=
 match tc with
 | none=>ifs=[]
 | some t=> ∃c,ifs=[c]∧ ∀(ex:List Addr) (C:Addr) (s:Shared) (H:Hp),PT (eM X scope N ex C s H) c t
theorem Ri{Φ:Cx→Prop}{Ψ:Hp→Prop}(S:hG X scope ln fv)(hc: ∀Xc:Cx,Xc.A=X.A→Xc.calm=X.calm→Xc.H₀=H→Φ Xc)(hΨ:Ψ H)(hg:GB Ψ X scope ln fv tg tk)(ht:ve X scope (ln++fv.map (·.1)) ifs tc)
  (he: ∀(ex:List Addr) (C:Addr) (s:Shared) (H:Hp),PE (eM X scope (ln++fv.map (·.1)) ex C s H) elt te)
  (I:Inv X pins σ H s₂) (T:Gz Φ X.prog X.w X.K tg J fp it tn) (st:tn 0 s₂.heap) (f2: ∀b∈fp,eV X pins H b)
  (h: ∃W:Nat→Nat→List V→Hp→Prop,(∃m,W 0 m [] H)∧ ∀i m ys H2,W i m ys H2→
   (J.stop i H2∧ ∀p,H2 p=none→Qv (.ref p) (upd H2 p (.lst ys)))∨
   (J.go i H2∧ ∀x H3,J.eK i H2 x H3→mF X.K tk x H3 fun xs=>
    nR tc (xs.map some++cM σ fv) H3 fun b H5=>
     if b=true then te (xs.map some++cM σ fv) H5 fun y H6=>ys.length<sizeLine∧ ∃m',m'<m∧W (i+1) m' (ys++ [y]) H6
     else ∃m',m'<m∧W (i+1) m' ys H5))
  (Rj: ∀D C H' s' m,Inv X pins σ H' s'→s'.heap.Ns C m→H' C=none→C≠X.env.locals→X.s₀.heap.objs.size≤C→(∀x c,X.env.cells.lookup x=some c→c≠C)→(∀p∈X.pn++pins,p.1≠C)→Qv (.ref D) H'→RR (.ref D) C (.ok .next) s'):
  wpAny (model X.prog X.w) X.A (newList []) (fun acc s₃=>wpAny (model X.prog X.w) X.A (newFunctionEnv scope X.env.globals (cG X.env.cells scope.names []) [] X.env.qual none .none (some X.env)) (fun GC s₄=>
   codeAny (model X.prog X.w) X.A (.compStart (.ListComp elt [⟨tg,iter,ifs,0⟩] scope pos) 0 (.ref it) acc {GC with scope:=relabel scope X.env}) (RR acc GC.locals) s₄) E s₃) E s₂:=by
 obtain⟨W,⟨m0,w0⟩,turn⟩:=h
 refine wpAny_newObj_type (wpAny_newFunctionEnv S.Gw (by intro y hy;simp at hy) (fun h₁ qx qy=> ?_) S.kind)
 dsimp only at qx qy⊢
 generalize qA:({s₂ with heap:=s₂.heap.push {cls:= .type "list",dict:=none,data:= .seq ([]:List Value).toArray}}:Shared)=s₃
 have gm:s₂.heap.push {cls:= .type "list",dict:=none,data:= .seq ([]:List Value).toArray}=s₃.heap:=by rw[←qA]
 rw[gm] at qx qy⊢
 have GD:s₃.os=s₂.os:=by rw[←qA]
 have Rk:s₃.gens=s₂.gens:=by rw[←qA]
 have jJ:s₃.heap.objs.size=s₂.heap.objs.size+1:=by rw[←gm,Heap.size_push]
 have k3: ∀b o,s₂.heap.get? b=some o→s₃.heap.get? b=some o:=fun b o e=>by rw[←gm];exact Heap.get?_push_of_some _ e
 have k4: ∀b o,s₃.heap.get? b=some o→h₁.get? b=some o:=fun b o e=>qy.extBut b o (Nat.ne_of_lt (Heap.lt_size e)) (Heap.get?_push_of_some _ e)
 have gD:s₃.heap.get? s₂.heap.objs.size=some {cls:= .type "list",dict:=none,data:= .seq ([]:List Value).toArray}:=by rw[←gm];exact Heap.get?_push_size _ rfl
 generalize eD:s₂.heap.objs.size=D at gD
 generalize eC:s₃.heap.objs.size=C at qx qy⊢
 have qB:D≠C:=by rw[←eD,←eC,jJ];exact Nat.ne_of_lt (Nat.lt_succ_self _)
 have nS: ∀b∈fp,∃o,s₂.heap.get? b=some o:=fun b hb=>by obtain⟨o,e,_⟩:=T.obj 0 _ st b hb;exact⟨o,e⟩
 have GF: ∀b∈fp,b≠D:=fun b hb=>by obtain⟨o,e⟩:=nS b hb;rw[←eD];exact Nat.ne_of_lt (Heap.lt_size e)
 have Rl: ∀b∈fp,b≠C:=fun b hb=>by
  obtain⟨o,e⟩:=nS b hb
  have:=Heap.lt_size e
  rw[←eC,jJ];exact Nat.ne_of_lt (Nat.lt_succ_of_lt this)
 generalize eX:eM X scope (ln++fv.map (·.1)) (D::fp) C s₃ H=Xc
 have I4: ∀t,Inv Xc [] (ln.map (fun _=>none)++cM σ fv) H {s₃ with heap:=h₁,toks:=t}:=fun t=>by
  rw[←eX]
  exact Q9 S I f2 nS GD Rk k3 eD.symm jJ eC.symm k4 qx
 have xL:Xc.env.locals=C:=by rw[←eX];rfl
 have qC:Xc.ex=D::fp:=by rw[←eX];rfl
 have Rm:Xc.fs=bX X.stack:=by rw[←eX];rfl
 have xP:Xc.prog=X.prog:=by rw[←eX];rfl
 have xw:Xc.w=X.w:=by rw[←eX];rfl
 have xK:Xc.K=X.K:=by rw[←eX];rfl
 have xA:Xc.A=X.A:=by rw[←eX];rfl
 have xc:Φ Xc:=hc Xc xA (by rw[←eX];rfl) (by rw[←eX];rfl)
 have GG:Xc.pn=[]:=by rw[←eX];rfl
 have vf:Xc.xe=fun _ _=>False:=by rw[←eX];rfl
 have GH:Xc.env.cells=cG X.env.cells scope.names []:=by rw[←eX];rfl
 have vg:Xc.env=compEnvC scope (cG X.env.cells scope.names []) C X.env:=by rw[←eX];rfl
 have cD: ∀x c,Xc.env.cells.lookup x=some c→c≠D:=fun x c e=>by
  rw[GH] at e
  obtain⟨v,q⟩:=I.cell x c (S.cells I e).1
  rw[←eD];exact Nat.ne_of_lt q.lt
 have cF: ∀x c,Xc.env.cells.lookup x=some c→ ∀b∈fp,c≠b:=fun x c e b hb=>by
  rw[GH] at e
  exact(f2 b hb).2.2.2.2.1 x c (S.cells I e).1
 have sF: ∀b∈D::fp,b∉Xc.fs:=fun b hb hf=>by
  have:=(I4 0).ok.ue b (by rw[qC];exact hb)
  exact this hf
 have jx: ∀{H':Hp} {oD:Obj},(∀b∈fp,H' b=none)→ ∀b∈fp,eV Xc [(D,oD)] H' b:=fun hn b hb=>
  ⟨hn b hb,by rw[xL];exact Rl b hb,sF b (List.mem_cons_of_mem _ hb), .inl (by rw[qC];exact List.mem_cons_of_mem _ hb),fun x c e=>cF x c e b hb,fun p hp=>by
   rw[GG] at hp
   rcases List.mem_singleton.mp (show p∈ [(D,_)] from hp) with rfl
   exact(GF b hb).symm⟩
 have loop: ∀s₄:Shared,s₄={s₃ with heap:=h₁,toks:=s₃.toks+ ([]:List (Str×Value)).length}→
   codeAny (model X.prog X.w) X.A (.compLoop (.ListComp elt [⟨tg,iter,ifs,0⟩] scope pos) 0 (.ref it) (.ref D) (compEnvC scope (cG X.env.cells scope.names []) C X.env)) (RR (.ref D) C) s₄:=by
  rintro s₄ rfl
  refine Q5 (fun n s'=> ∃i pre ys its nn H',Inv Xc [(D,{cls:= .type "list",data:= .seq (List.toArray its) nn})] (pre++cM σ fv) H' s'∧pre.length=ln.length∧tn i s'.heap∧(∀b∈fp,H' b=none)∧Vals ys its∧ys.length≤sizeLine∧W i n ys H') ?_ m0
   ⟨0,ln.map (fun _=>none),[],[],0,H,(I4 _).mv (fun p hp=> ?_),by simp,T.keep 0 _ _ st (fun b _ o e=>k4 b o (k3 b o e)),fun b hb=> (f2 b hb).1, .nil,Nat.zero_le _,w0⟩
  rotate_left
  ·have vh:=List.mem_singleton.mp hp
   subst vh
   refine⟨k4 _ _ gD,I.aI.fresh (Nat.le_of_eq eD),by rw[xL];exact qB,sF D List.mem_cons_self,fun v z=>by cases z⟩
  rintro n s' ⟨i,pre,ys,its,nn,H',I',mE,iJ,GI,hv,hz,w'⟩
  have aon:=I'.pin (D,_) (List.mem_append_right _ List.mem_cons_self)
  rcases turn i n ys H' w' with⟨stop,qn⟩ | ⟨go,step⟩
  ·have td:=T.done Xc xP xw xK xc i _ s' _ H' (fun _ _=>False) I' (jx GI) iJ stop
   rw[xA] at td
   refine aW td fun r s1 ⟨hr,I1⟩=> ?_
   subst hr
   have vi:=I1.pin (D,_) (List.mem_append_right _ List.mem_cons_self)
   have b1:=I1.base
   rw[Rm,qC] at b1
   have GJ:Xc.s₀=s₃:=by rw[←eX];rfl
   have Rn:Xc.H₀=H:=by rw[←eX];rfl
   rw[GJ,Rn] at b1
   have nD: ∀b o,s₂.heap.get? b=some o→b∉fp→b∉D::fp:=fun b o e hb hm=>by
    rcases List.mem_cons.mp hm with z | z
    ·have:=Heap.lt_size e
     rw[z,eD] at this;exact Nat.lt_irrefl _ this
    ·exact hb z
   have un:Un (bX X.stack) fp H H' s₂.heap s1.heap:=⟨fun b o e nb hb hx=>b1.keep b o (k3 b o e) nb hb (nD b o e hx),fun b o e nb hb hx=>b1.slot b o (k3 b o e) nb hb (nD b o e hx),fun b o e nb hx=>b1.free b o (k3 b o e) nb (nD b o e hx),
    fun b o e hx=>b1.there b o (k3 b o e) (nD b o e hx),b1.cC,b1.ej,b1.eJ⟩
   have Ro:s1.os=s₂.os:=by rw[I1.os,GJ,GD]
   have GK:=I1.aI
   rw[xP,xw] at GK
   have J1:Inv X pins σ H' s1:=I.NZ Ro un GK I1.bare fun b hb=> ⟨(f2 b hb).2.2.2.1,(f2 b hb).2.1,(f2 b hb).2.2.2.2.1,(f2 b hb).2.2.2.2.2⟩
   have Rq: ∀x c,X.env.cells.lookup x=some c→c≠D:=fun x c e=>by
    obtain⟨v,q⟩:=I.cell x c e
    rw[←eD];exact Nat.ne_of_lt q.lt
   have Rr: ∀x c,X.env.cells.lookup x=some c→c≠C:=fun x c e=>by
    obtain⟨v,q⟩:=I.cell x c e
    rw[←eC,jJ];exact Nat.ne_of_lt (Nat.lt_succ_of_lt q.lt)
   have pD: ∀p∈X.pn++pins,p.1≠D:=fun p hp=>by rw[←eD];exact Nat.ne_of_lt (Heap.lt_size (I.pin p hp).1)
   have pC: ∀p∈X.pn++pins,p.1≠C:=fun p hp=>by
    rw[←eC,jJ];exact Nat.ne_of_lt (Nat.lt_succ_of_lt (Heap.lt_size (I.pin p hp).1))
   have lD:D≠X.env.locals:=by rw[←eD];exact Nat.ne_of_gt I.lt
   have lC:C≠X.env.locals:=by
    rw[←eC,jJ];exact Nat.ne_of_gt (Nat.lt_succ_of_lt I.lt)
   have J2:Inv X pins σ (upd H' D (.lst ys)) s1:=Inv.Gq J1 vi.2.1 (by rw[←eD];exact I.sz) lD Rq pD ⟨hz,its,nn,hv,vi.1⟩
   obtain⟨mC,GN,_⟩:=I1.loc
   rw[xL] at GN
   have fC:H' C=none:=by have:=I1.free;rw[xL] at this;exact this
   exact Rj D C _ s1 mC J2 GN (by rw[aN (Ne.symm qB)];exact fC) lC (by rw[←eC,jJ];exact Nat.le_succ_of_le I.sz) Rr pC (qn D vi.2.1)
  ·have ti:=T.item Xc xP xw xK xc i _ s' _ H' (fun _ _=>False) I' (jx GI) iJ go
   rw[xA] at ti
   refine aW ti fun r s4 ⟨u,hr,h4⟩=> ?_
   subst hr
   refine aW h4 fun _ s5 ⟨x,H5,I5,r5,y5,jy,uB⟩=> ?_
   have uC:=I5.pinned (jx uB) (T.obj _ _ jy)
   obtain⟨g,pg,gq⟩:=hg (D::fp) C s₃ H hΨ
   rw[eX] at pg
   have rd:=step x H5 y5
   have GO:=pg _ s5 _ H5 x u (fun σ6 H6=> ∃xs:List V,σ6=xs.map some++cM σ fv∧xs.length=ln.length∧H6=H5∧
     nR tc (xs.map some++cM σ fv) H5 fun b H5=>
     if b=true then te (xs.map some++cM σ fv) H5 fun y H6=>ys.length<sizeLine∧ ∃m',m'<n∧W (i+1) m' (ys++ [y]) H6
     else ∃m',m'<n∧W (i+1) m' ys H5) uC r5 (gq x pre (cM σ fv) H5 _ mE (by
      cases tk with
      | none=>exact fun hl=> ⟨_,rfl,hl,rfl,rd⟩
      | some k=>
       obtain⟨a,xs,e1,e2,e3,rd⟩:=rd
       exact⟨a,xs,e1,e2,e3,fun hl=> ⟨xs,rfl,hl,rfl,rd⟩⟩))
   rw[xA,xP,xw,vf,vg] at GO
   refine aW GO fun _ s6 ⟨σ6,H6,I6,xs,e6,GP,eH,GQ⟩=> ?_
   subst e6 eH
   have GR: ∀{H7:Hp} {σ7:St} {s7:Shared},Inv Xc ([(D,{cls:= .type "list",data:= .seq (List.toArray its) nn})]++my fp s5.heap) σ7 H7 s7→tn (i+1) s7.heap∧(∀b∈fp,H7 b=none)∧s7.heap.get? D=some {cls:= .type "list",data:= .seq (List.toArray its) nn}∧H7 D=none:=fun {H7 σ7 s7} I7=>by
    refine⟨T.keep _ _ _ jy fun b hb o e=> (I7.pin (b,o) (List.mem_append_right _ (List.mem_append_right _ (pW hb e)))).1,fun b hb=> ?_, ?_, ?_⟩
    ·obtain⟨o,e,d⟩:=T.obj _ _ jy b hb
     exact(I7.pin (b,o) (List.mem_append_right _ (List.mem_append_right _ (pW hb e)))).2.1
    ·exact(I7.pin (D,_) (List.mem_append_right _ (List.mem_append_left _ List.mem_cons_self))).1
    ·exact(I7.pin (D,_) (List.mem_append_right _ (List.mem_append_left _ List.mem_cons_self))).2.1
   have tests:wpAny (model X.prog X.w) X.A (forIn ifs true fun c r=>if r=true then do let ok ←isTrue c (compEnvC scope (cG X.env.cells scope.names []) C X.env) (eval c (compEnvC scope (cG X.env.cells scope.names []) C X.env));pure (ForInStep.yield ok) else pure (ForInStep.yield r))
     (fun ok s7=> ∃H7,Inv Xc ([(D,{cls:= .type "list",data:= .seq (List.toArray its) nn})]++my fp s5.heap) (xs.map some++cM σ fv) H7 s7∧
      if ok=true then te (xs.map some++cM σ fv) H7 fun y H6=>ys.length<sizeLine∧ ∃m',m'<n∧W (i+1) m' (ys++ [y]) H6
      else ∃m',m'<n∧W (i+1) m' ys H7) (fun _ _=>False) s6:=by
    cases tc with
    | none=>
     have vj:ifs=[]:=ht
     subst vj
     exact wpAny_tests_nil ⟨_,I6,GQ⟩
    | some t=>
     obtain⟨c,vj,pt⟩:=(show ∃c,ifs=[c]∧ ∀(ex:List Addr) (C:Addr) (s:Shared) (H:Hp),PT (eM X scope (ln++fv.map (·.1)) ex C s H) c t from ht)
     subst vj
     have GS:=pt (D::fp) C s₃ H
     rw[eX] at GS
     have q:=GS _ s6 _ _ _ I6 GQ
     rw[xA,xP,xw,vf,vg] at q
     exact wpAny_tests_one (aW q fun b s7 ⟨H7,I7,q7⟩=> ⟨H7,I7,q7⟩)
   refine aW tests fun ok s7 ⟨H7,I7,q7⟩=> ?_
   cases ok with
   | false=>
    simp only[Bool.false_eq_true,if_false] at q7⊢
    obtain⟨m',hm,w7⟩:=q7
    obtain⟨t7,f7,d7,n7⟩:=GR I7
    refine⟨m',hm,i+1,xs.map some,ys,its,nn,H7,I7.mv (fun p hp=> ?_),by simpa using GP,t7,f7,hv,hz,w7⟩
    exact I7.pin p (List.mem_append_right _ (List.mem_append_left _ hp))
   | true=>
    simp only[if_true] at q7⊢
    have q:=he (D::fp) C s₃ H
    rw[eX] at q
    have q:=q _ s7 _ H7 _ I7 q7
    rw[xA,xP,xw,vf,vg] at q
    refine aW q fun uy s8 ⟨y,H8,I8,r8,bz,m',hm,w8⟩=> ?_
    obtain⟨t8,f8,d8,n8⟩:=GR I8
    have hl:=hv.length
    refine call_meets F.slot_list_append ⟨_,d8,rfl⟩ F.entry_list_append (F.args_list_append_2 _ _) (PySem.list_append D its.toArray nn uy (by rw[List.size_toArray];omega)) ⟨d8, ?_⟩
    have I9: ∀t,Inv Xc [] (xs.map some++cM σ fv) H8 {s8 with heap:=s8.heap.update D (Obj.mapSeq (·.push uy)),toks:=t}:=fun t=>
     (I8.mv (uj:=[]) (fun p hp=>absurd hp (by simp))).turned (it:=D) (t':=t) (fun b o hb e=> (Heap.get?_update_other s8.heap (Obj.mapSeq (·.push uy)) (Ne.symm hb)).trans e) n8 (by rw[xL];exact qB) (.inl (by rw[qC];exact List.mem_cons_self)) cD
      (fun p hp=>by rw[GG] at hp;exact absurd hp (by simp))
    have g9:=PySem.IsL.update d8 (·.push uy)
    obtain⟨n9,Rt⟩: ∃n9,(s8.heap.update D (Obj.mapSeq (·.push uy))).get? D=some {cls:= .type "list",data:= .seq (its++ [uy]).toArray n9}:=
     ⟨_,by rw[show(its++ [uy]).toArray=its.toArray.push uy by simp];exact g9⟩
    refine⟨m',hm,i+1,xs.map some,ys++ [y],its++ [uy],n9,H8,(I9 _).mv (fun p hp=> ?_),by simpa using GP, ?_,f8,hv.append (.cons r8 .nil), ?_,w8⟩
    ·have vh:=List.mem_singleton.mp hp
     subst vh
     exact⟨Rt,n8,by rw[xL];exact qB,sF D List.mem_cons_self,fun v z=>by cases z⟩
    ·exact T.keep _ _ _ t8 fun b hb o e=> (Heap.get?_update_other s8.heap (Obj.mapSeq (·.push uy)) (Ne.symm (GF b hb))).trans e
    ·rw[List.length_append,List.length_singleton];omega
 have Ru:tn 0 h₁:=T.keep 0 _ _ st fun b _ o e=>k4 b o (k3 b o e)
 have e4:({s₂ with heap:=h₁,toks:=s₂.toks+ ([]:List (Str×Value)).length}:Shared)={s₃ with heap:=h₁,toks:=s₃.toks+ ([]:List (Str×Value)).length}:=by rw[←qA]
 exact codeAny_compStart_list (loop _ e4) (T.self X.A 0 _ _ _ Ru (loop _ e4))
end
section
variable {X:Cx} {scope:Scope} {ln:List Str} {fv:List (Str×Nat)} {elt tg iter:Expr} {ifs:List Expr} {pos:Pos} {wi:TI} {tk:Option Nat} {tc:Option TT} {te:TE}
theorem Rv{Φ:Cx→Prop}{Ψ:Hp→Prop}(S:hG X scope ln fv)(hc: ∀H,Ψ H→ ∀Xc:Cx,Xc.A=X.A→Xc.calm=X.calm→Xc.H₀=H→Φ Xc)(hΨ: ∀pins σ H s,Inv X pins σ H s→Ψ H)(hi:GA Φ X tg iter wi)(hg:GB Ψ X scope ln fv tg tk)(ht:ve X scope (ln++fv.map (·.1)) ifs tc)
  (he: ∀(ex:List Addr) (C:Addr) (s:Shared) (H:Hp),PE (eM X scope (ln++fv.map (·.1)) ex C s H) elt te) (hs: ∀x,foldedSetIterable iter X.env x=pure x:=by intro _;rfl):
  PE X (.ListComp elt [⟨tg,iter,ifs,0⟩] scope pos) (qv X.K wi tk fv tc te):=by
 intro pins s σ H Q I h
 rw[eval_ListComp]
 refine wpAny_comprehension_free (use:=none) rfl hs (S.Q8 I) S.kind S.locals (aW (hi pins s σ H _ I h) fun v s1 h1=>aW h1 fun mx s2 h2=> ?_)
 obtain⟨it,fp,tn,J,H2,e,I2,T,uA,f2,hW⟩:=h2
 subst e
 refine Ri (RR:=fun acc C=>compPost (model X.prog X.w) X.A X.xe none (EP X pins σ Q) acc C) S (hc H2 (hΨ _ _ _ _ I2)) (hΨ _ _ _ _ I2) hg ht he I2 T uA f2 hW ?_
 intro D C H' s' m I' ns hn hL h0 qD hp q
 refine⟨m,ns,fun h' sb=> ⟨.ref D,H', ?_,rfl,q⟩⟩
 exact I'.turned (it:=C) (t':=s'.toks) (fun b o hb e=>sb.extBut b o hb e) hn hL (.inr h0) qD hp
theorem Rw(S:hG X scope ln fv)(hc:X.calm=true)(hi:PI X tg iter wi)(hg:qw X scope ln fv tg tk)(ht:ve X scope (ln++fv.map (·.1)) ifs tc)
  (he: ∀(ex:List Addr) (C:Addr) (s:Shared) (H:Hp),PE (eM X scope (ln++fv.map (·.1)) ex C s H) elt te) (hs: ∀x,foldedSetIterable iter X.env x=pure x:=by intro _;rfl):
  PE X (.ListComp elt [⟨tg,iter,ifs,0⟩] scope pos) (qv X.K wi tk fv tc te):=
 Rv (Φ:=Calm) (Ψ:=fun _=>True) S (fun _ _ Xc _ e _=>e.trans hc) (fun _ _ _ _ _=>trivial) hi.p (fun ex C s H _=>hg ex C s H) ht he hs
end
section
variable {X:Cx} {scope:Scope} {fv:List (Str×Nat)}
theorem Rx{x:Str}{px:Pos}(hl:scope.names.lookup x=some .local)(qE:(x::fv.map (·.1)).Nodup):qw X scope [x] fv (.Name x px) none:=by
 intro ex C s H
 have Ry:Loc (eM X scope ([x]++fv.map (·.1)) ex C s H).env.scope x:= .inl (lookup_relabel_local hl)
 refine⟨eo 0,pS (X:=eM X scope ([x]++fv.map (·.1)) ex C s H) qE rfl Ry (.inr (lookup_relabel_local hl)),fun v pre φ H' Q hp h=> ?_⟩
 obtain⟨a,rfl⟩: ∃a,pre=[a]:=by
  match pre,hp with
  | [a],_=>exact⟨a,rfl⟩
 exact h rfl
theorem Rz{x y:Str}{px py pos:Pos}{k:Nat}(hc:X.calm=true)(hx:scope.names.lookup x=some .local)(hy:scope.names.lookup y=some .local)(qE:(x::y::fv.map (·.1)).Nodup):qw X scope [x,y] fv (.Tuple [.Name x px, .Name y py] k pos) (some 2):=by
 intro ex C s H
 generalize eX:eM X scope ([x,y]++fv.map (·.1)) ex C s H=Xc
 have xN:Xc.N=x::y::fv.map (·.1):=by rw[←eX];rfl
 have xc:Xc.calm=true:=by rw[←eX];exact hc
 have lx:Xc.env.scope.names.lookup x=some .local:=by rw[←eX];exact lookup_relabel_local hx
 have ly:Xc.env.scope.names.lookup y=some .local:=by rw[←eX];exact lookup_relabel_local hy
 have p1:PG Xc (.Name x px) (eo 0):=pS (by rw[xN];exact qE) (by rw[xN];rfl) (.inl lx) (.inr lx)
 have p2:PG Xc (.Name y py) (eo 1):=pS (by rw[xN];exact qE) (by rw[xN];rfl) (.inl ly) (.inr ly)
 have xK:Xc.K=X.K:=by rw[←eX];rfl
 refine⟨E_ Xc.K 2 (pT (eo 0) (pT (eo 1) uu)),Fb xc (uv p1 (uv p2 E9)),fun v pre φ H' Q hp h=> ?_⟩
 obtain⟨a,b,rfl⟩: ∃a b,pre=[a,b]:=by
  match pre,hp with
  | [a,b],_=>exact⟨a,b,rfl⟩
 obtain⟨a',xs,rfl,e2,e3,q⟩:=h
 obtain⟨v1,v2,rfl⟩: ∃v1 v2,xs=[v1,v2]:=by
  match xs,e3 with
  | [v1,v2],_=>exact⟨v1,v2,rfl⟩
 exact⟨a',_,rfl,by rw[xK];exact e2,rfl,v1,_,rfl,v2,_,rfl,rfl,q rfl⟩
end
section
variable {X:Cx}
theorem bp.imp{f:Value→Value→Sem Value}{r r':R2}(h:bp X f r)(i: ∀x y H Q,r' x y H Q→r x y H Q):bp X f r':=fun pins s σ H x y v u Q I rx ry q=>h pins s σ H x y v u Q I rx ry (i _ _ _ _ q)
theorem bY.imp{f:Value}{r r':List V→Hp→VK→Prop}(h:bY X f r)(i: ∀xs H Q,r' xs H Q→r xs H Q):bY X f r':=fun pins s σ H xs us Q I rv q=>h pins s σ H xs us Q I rv (i _ _ _ q)
def GU(K:PySem.W.Frag):R2:=fun x y H Q=>match x,y with
 | .int i, .int j=>Q (.int (i+j)) H
 | .str i, .str j=>i.length+j.length≤sizeLine∧Q (.str (i++j)) H
 | .ref l, .ref b=>Gg (.ref l) (.ref b) H Q∨FV K (.ref l) (.ref b) H Q
 | _,_=>False
theorem RA:bp X (binaryOp .Add) (GU X.K):=by
 refine bp.imp ((OE.or O2).or (QD.or P0)) fun x y H Q h=> ?_
 cases x<;>cases y<;>first
  | exact False.elim h
  | exact .inl (.inl ⟨_,_,rfl,rfl,h⟩)
  | exact .inl (.inr ⟨_,_,rfl,rfl,h⟩)
  | exact .inr h
def gp(C:Int→Int→Prop)(g:Int→Int→V):R2:=fun x y H Q=>match x,y with
 | .int i, .int j=>C i j∧Q (g i j) H
 | _,_=>False
theorem vk{C:Int→Int→Prop}{g:Int→Int→V}(x y:V)(H:Hp)(Q:VK)(h:gp C g x y H Q):rI C g x y H Q:=by
 cases x<;>cases y<;>first
  | exact False.elim h
  | exact⟨_,_,rfl,rfl,h⟩
theorem nT{g:Int→Int→V}(x y:V)(H:Hp)(Q:VK)(h:gp (fun _ _=>True) g x y H Q):gZ g x y H Q:=by
 cases x<;>cases y<;>first
  | exact False.elim h
  | exact⟨_,_,rfl,rfl,h.2⟩
def vm:R2:=fun x y H Q=>match x,y with
 | .int i, .int j=>p_ i j∧Q (.int (i*j)) H
 | .ref l, .int k=>Gh (.ref l) (.int k) H Q
 | _,_=>False
theorem RB:bp X (binaryOp .Mult) vm:=by
 refine bp.imp (OG.or QE) fun x y H Q h=> ?_
 cases x<;>cases y<;>first
  | exact False.elim h
  | exact .inl ⟨_,_,rfl,rfl,h⟩
  | exact .inr h
def jK(K:PySem.W.Frag):Operator→R2
 | .Add=>GU K
 | .Sub=>gp (fun _ _=>True) fun i j=> .int (i - j)
 | .Mult=>vm
 | .FloorDiv=>gp uE fun i j=> .int (i / j)
 | .Mod=>gp (fun _ j=>0<j) fun i j=> .int (i % j)
 | .Pow=>gp Fo fun i j=> .int (i ^ j.toNat)
 | _=>fun _ _ _ _=>False
theorem RC(op:Operator):bp X (binaryOp op) (jK X.K op):=by
 cases op<;>first
  | exact RA
  | exact bp.imp OF nT
  | exact RB
  | exact bp.imp OH vk
  | exact bp.imp OI vk
  | exact bp.imp OJ vk
  | exact fun _ _ _ _ _ _ _ _ _ _ _ _ h=>False.elim h
mutual
def Is(H:Hp):PyData→V→Prop
 | .none,v=>v= .ax
 | .bool b,v=>v= .bl b
 | .int i,v=>v= .int i
 | .str x,v=>v= .str x
 | .list xs,v=> ∃a vs,v= .ref a∧H a=some (.lst vs)∧IsL H xs vs
 | .tuple xs,v=> ∃a vs,v= .ref a∧H a=some (.tup vs)∧IsL H xs vs
 | .dict _,_=>False
def IsL(H:Hp):List PyData→List V→Prop
 | [],vs=>vs=[]
 | d::ds,vs=> ∃v r,vs=v::r∧Is H d v∧IsL H ds r
end
mutual
theorem Is.reads{pins:List (Addr×Obj)}{σ:St}{H:Hp}{s:Shared}(I:Inv X pins σ H s): ∀(d:PyData) (v:V) (u:Value),Is H d v→RelV v u→ ∃as,Reads s.heap u d as
 | .none,v,u,h,r=>by rw[show v= .ax from h] at r;rw[show u= .none from r];exact⟨_, .none⟩
 | .bool b,v,u,h,r=>by rw[show v= .bl b from h] at r;rw[show u= .bool b from r];exact⟨_, .bool b⟩
 | .int i,v,u,h,r=>by rw[show v= .int i from h] at r;obtain⟨t,e⟩:=r;rw[e];exact⟨_, .int i t⟩
 | .str x,v,u,h,r=>by rw[show v= .str x from h] at r;obtain⟨t,e⟩:=r;rw[e];exact⟨_, .str x t⟩
 | .list xs,v,u,h,r=>by
  obtain⟨a,vs,e,hH,hl⟩:=(show ∃a vs,v= .ref a∧H a=some (.lst vs)∧IsL H xs vs by simpa only[Is] using h)
  rw[e] at r
  rw[show u= .ref a from r]
  obtain⟨_,its,n,hv,hg⟩:=I.aI a _ hH
  obtain⟨as,q⟩:=IsL.reads I xs vs its hl hv
  exact⟨_, .list hg rfl rfl (by simpa using q)⟩
 | .tuple xs,v,u,h,r=>by
  obtain⟨a,vs,e,hH,hl⟩:=(show ∃a vs,v= .ref a∧H a=some (.tup vs)∧IsL H xs vs by simpa only[Is] using h)
  rw[e] at r
  rw[show u= .ref a from r]
  obtain⟨_,its,hv,o,hg,hc,n,hd⟩:=I.aI a _ hH
  obtain⟨as,q⟩:=IsL.reads I xs vs its hl hv
  exact⟨_, .tuple hg hc hd (by simpa using q)⟩
 | .dict _,v,u,h,r=>by simp only[Is] at h
theorem IsL.reads{pins:List (Addr×Obj)}{σ:St}{H:Hp}{s:Shared}(I:Inv X pins σ H s): ∀(ds:List PyData) (vs:List V) (us:List Value),IsL H ds vs→Vals vs us→ ∃as,ReadsAll s.heap us ds as
 | [],vs,us,h,r=>by
  rw[show vs=[] from h] at r
  cases r
  exact⟨_, .nil⟩
 | d::ds,vs,us,h,r=>by
  obtain⟨v,q,e,h1,h2⟩:=(show ∃v r,vs=v::r∧Is H d v∧IsL H ds r by simpa only[IsL] using h)
  rw[e] at r
  cases r with
  | cons r1 r2=>
   obtain⟨as,q1⟩:=Is.reads I d v _ h1 r1
   obtain⟨bs,q2⟩:=IsL.reads I ds q _ h2 r2
   exact⟨_, .cons q1 q2⟩
end
def RD:V→Bool
 | .iI _=>false
 | .dv _=>false
 | _=>true
def RF:R2:=fun x y H Q=> ∃a b xs,x= .ref a∧y= .ref b∧H a=some (.lst xs)∧H b=some (.lst xs)∧xs.all RD=true∧Q (.bl true) H
def jL(neg:Bool):R2:=fun x y H Q=>match jz x y with
 | true=>Q (.bl (neg ^^ decide (x=y))) H
 | false=> ∃d e,Is H d x∧Is H e y∧SeqAt.shaped d=true∧SeqAt.shaped e=true∧Q (.bl (neg ^^ PyData.eqv d e)) H
def RG:R2:=fun x y H Q=>jL false x y H Q∨RF x y H Q
theorem RH(hu:X.A.units+64<cLine):bp X (compareOp .Eq) (jL false):=by
 intro pins s σ H x y v u Q I rx ry h
 unfold jL at h
 by_cases hs:jz x y=true
 ·rw[hs] at h
  simp only[Bool.false_xor] at h
  exact OO pins s σ H x y v u Q I rx ry ⟨hs,h⟩
 ·rw[show jz x y=false by simpa using hs] at h
  obtain⟨d,e,h1,h2,h3,h4,q⟩:=h
  rw[Bool.false_xor] at q
  obtain⟨as,r1⟩:=Is.reads I d x v h1 rx
  obtain⟨bs,r2⟩:=Is.reads I e y u h2 ry
  exact eq_dataH r1 r2 h3 h4 hu ⟨.bl _,H,I,rfl,q⟩
theorem RI(hu:X.A.units+64<cLine):bp X (compareOp .NotEq) (jL true):=by
 intro pins s σ H x y v u Q I rx ry h
 unfold jL at h
 by_cases hs:jz x y=true
 ·rw[hs] at h
  simp only[Bool.true_xor] at h
  exact OP pins s σ H x y v u Q I rx ry ⟨hs,h⟩
 ·rw[show jz x y=false by simpa using hs] at h
  obtain⟨d,e,h1,h2,h3,h4,q⟩:=h
  rw[Bool.true_xor] at q
  obtain⟨as,r1⟩:=Is.reads I d x v h1 rx
  obtain⟨bs,r2⟩:=Is.reads I e y u h2 ry
  exact ne_dataH r1 r2 h3 h4 hu ⟨.bl _,H,I,rfl,q⟩
theorem RJ(l:Addr)(o:Obj)(es:Array DictEntry)(ep:Nat)(hc:o.cls= .type "dict")(hd:o.data= .dict es ep)(b:Str)(u:Tok):
  Meets (Builtin.«dict.__eq__» ⟨[.ref l, .str b u],[]⟩) (fun _ R s=>s.heap.get? l=some o∧R (.ok (.ret .notImplemented)) s):=
 .of_wp fun prog w A R s h=>by obtain⟨hp,g,d,tk,os⟩:=s;obtain⟨hl,h⟩:=h;obtain⟨cls,dd,data,sl⟩:=o;simp only at hc hd;subst hc hd;have f1:=F.sub_str_dict;wp_walk using AutoSeq1.wpAny_loadPart' hl;exact⟨_,rfl,h⟩
theorem RK(b:Str)(u:Tok)(l:Addr)(o:Obj)(es:Array DictEntry)(ep:Nat)(hc:o.cls= .type "dict")(hd:o.data= .dict es ep):
  Meets (Builtin.«str.__eq__» ⟨[.str b u, .ref l],[]⟩) (fun _ R s=>s.heap.get? l=some o∧R (.ok (.ret .notImplemented)) s):=
 .of_wp fun prog w A R s h=>by obtain⟨hp,g,d,tk,os⟩:=s;obtain⟨hl,h⟩:=h;obtain⟨cls,dd,data,sl⟩:=o;simp only at hc hd;subst hc hd;wp_walk using AutoSeq1.wpAny_loadPart' hl,wpAny_load hl;exact⟨_,rfl,h⟩
theorem RL{A:Around}{s:Shared}{l:Addr}{o:Obj}{es:Array DictEntry}{ep:Nat}(b:Str)(u:Tok)(ho:s.heap.get? l=some o)(hc:o.cls= .type "dict")(hd:o.data= .dict es ep)(hu:A.units<cLine):SeqAt.EqAt A s (.str b u) (.ref l) false:=fun prog w E Q h=>by
 have rc:SeqAt.RcAt A s (.str b u) (.ref l) false:=fun prog w E Q h=>
  SeqAt.rc_eq_decline_or (k:=false) (typeIs_str s b u) ⟨_,ho,hc⟩ (by decide) F.sub_dict_str F.slot_str_eq F.slot_dict_eq_refl
   (fun _ hq=>call_meets F.slot_str_eq (typeIs_str s b u) F.entry_str_eq (F.args_str_eq_2 _ _) (RK b u l o es ep hc hd) ⟨ho,hq⟩)
   (fun _ hq=>call_meets F.slot_dict_eq_refl ⟨_,ho,hc⟩ F.entry_dict_eq (F.args_dict_eq_2 _ _) (RJ l o es ep hc hd b u) ⟨ho,hq⟩)
   (fun _ hq=>wpAny_of_eq (rfl:isSame (.str b u) (.ref l)=pure false) hq) (.inr hu) h
 unfold eqBool
 refine wpAny_holding ?_
 refine wpAny_ite_split (fun vo=>absurd (eq_of_beq vo) nofun) (fun _=> ?_)
 exact wpAny_bind (rc prog w E _ (wpAny_truthy_bool h))
def GV(K:PySem.W.Frag)(H:Hp)(a:Addr):Prop:=(∃xs,aH K H a xs)∨(∃xs,a_ K H a xs)∨ ∃aM,H a=some (.dK aM)
theorem nU{pins:List (Addr×Obj)}{σ:St}{H:Hp}{s:Shared}{a:Addr}(I:Inv X pins σ H s)(hc:GV X.K H a)(hu:X.A.units+64<cLine): ∀{ts:List Str} {us:List Value},Vals (ts.map V.str) us→ ∀u∈us,SeqAt.EqAt X.A.in1 s u (.ref a) false
 | [],_, .nil=>fun u hu=>by cases hu
 | t::ts,u::us, .cons r rs=>fun u' vp=>by
  rcases List.mem_cons.mp vp with rfl | vp
  ·obtain⟨k,rfl⟩:=(show ∃k,_=Value.str t k from r)
   have vq:X.A.in1.units<cLine:=by show X.A.units+1<cLine;omega
   rcases hc with⟨xs,hc⟩ | ⟨xs,hc⟩ | ⟨aM,hc⟩
   ·obtain⟨its,_,pl,_⟩:=I.list hc
    exact SeqAt.EqAt.str_list t k pl.isList vq
   ·obtain⟨its,_,pl,_⟩:=I.tuple hc
    exact SeqAt.EqAt.str_tuple t k pl vq
   ·obtain⟨_,_,vs,_,o,es,ep,ho,hx,hd,_⟩:=(show cu X.prog X.w H s.heap a (.dK aM) from I.aI a _ hc)
    exact RL t k ho hx.1 hd vq
  ·exact nU I hc hu rs u' vp
def qF(K:PySem.W.Frag)(neg:Bool):R2:=fun x y H Q=>match y with
 | .str j=> ∃i,x= .str i∧Q (.bl (if neg then !(!(Builtin.Str.occurrences j i 0 j.length 1).isEmpty) else !(Builtin.Str.occurrences j i 0 j.length 1).isEmpty)) H
 | .ref p=>match x with
  | .ref a=> ∃ts:List Str,(aH K H p (ts.map V.str)∨a_ K H p (ts.map V.str))∧GV K H a∧Q (.bl neg) H
  | x=>uS K neg x (.ref p) H Q
 | _=>False
theorem RM(hu:X.A.units+64<cLine):bp X (compareOp .In) (qF X.K false):=by
 intro pins s σ H x y v u Q I rx ry h
 cases y with
 | str j=>
  obtain⟨i,e,q⟩:=h
  exact OU pins s σ H x _ v u Q I rx ry ⟨i,j,e,rfl,q⟩
 | ref p=>
  cases x with
  | ref a=>
   obtain⟨ts,hq,hc,q⟩:=h
   cases rx
   cases ry
   rcases hq with hq | hq
   ·obtain⟨its,r,pl,hz⟩:=I.list hq
    refine SeqAt.in_listAt (fun _=>false) pl.isList (fun w hw=>nU I hc hu r w (by simpa using hw)) ⟨.bl _,H,I,rfl, ?_⟩
    rw[show(its.toArray.any fun _=>false)=false by simp];exact q
   ·obtain⟨its,r,pl,hz⟩:=I.tuple hq
    refine SeqAt.in_tupleAt (fun _=>false) pl (fun w hw=>nU I hc hu r w (by simpa using hw)) ⟨.bl _,H,I,rfl, ?_⟩
    rw[show(its.toArray.any fun _=>false)=false by simp];exact q
  | _=>exact Qe pins s σ H _ _ v u Q I rx ry h
 | _=>exact False.elim h
theorem RN(hu:X.A.units+64<cLine):bp X (compareOp .NotIn) (qF X.K true):=by
 intro pins s σ H x y v u Q I rx ry h
 cases y with
 | str j=>
  obtain⟨i,e,q⟩:=h
  exact OX pins s σ H x _ v u Q I rx ry ⟨i,j,e,rfl,q⟩
 | ref p=>
  cases x with
  | ref a=>
   obtain⟨ts,hq,hc,q⟩:=h
   cases rx
   cases ry
   rcases hq with hq | hq
   ·obtain⟨its,r,pl,hz⟩:=I.list hq
    refine SeqAt.notIn_listAt (fun _=>false) pl.isList (fun w hw=>nU I hc hu r w (by simpa using hw)) ⟨.bl _,H,I,rfl, ?_⟩
    rw[show(its.toArray.any fun _=>false)=false by simp];exact q
   ·obtain⟨its,r,pl,hz⟩:=I.tuple hq
    refine SeqAt.notIn_tupleAt (fun _=>false) pl (fun w hw=>nU I hc hu r w (by simpa using hw)) ⟨.bl _,H,I,rfl, ?_⟩
    rw[show(its.toArray.any fun _=>false)=false by simp];exact q
  | _=>exact Qf pins s σ H _ _ v u Q I rx ry h
 | _=>exact False.elim h
theorem RO{M:Model}{A:Around}{E:Value→Shared→Prop}{s:Shared}{Q:Value→Shared→Prop}{v:Value}{d:Bool}(hv: ∀id,v≠ .builtin id)(h:Q (.bool (v== .bool d)) s):wpAny M A (compareOp .Is v (.bool d)) Q E s:=by
 cases v<;>first | exact wpAny_pure h | exact absurd rfl (hv _)
theorem RP{M:Model}{A:Around}{E:Value→Shared→Prop}{s:Shared}{Q:Value→Shared→Prop}{v:Value}{d:Bool}(hv: ∀id,v≠ .builtin id)(h:Q (.bool (!(v== .bool d))) s):wpAny M A (compareOp .IsNot v (.bool d)) Q E s:=by
 cases v<;>first | exact wpAny_pure h | exact absurd rfl (hv _)
def GW:R2:=fun x y H Q=>match y with
 | .bl b=>Q (.bl (decide (x= .bl b))) H
 | _=>y= .ax∧Q (.bl (decide (x= .ax))) H
def GX:R2:=fun x y H Q=>match y with
 | .bl b=>Q (.bl (!decide (x= .bl b))) H
 | _=>y= .ax∧Q (.bl (!decide (x= .ax))) H
theorem RQ:bp X (compareOp .Is) GW:=by
 intro pins s σ H x y v u Q I rx ry h
 cases y with
 | bl b=>
  cases ry
  have nb: ∀id,v≠ .builtin id:=fun id z=>by
   subst z
   cases x<;>first
    | (obtain⟨t,e⟩:=rx;cases e;done)
    | (cases rx;done)
  refine RO nb (bR I (show Q (.bl (decide (x= .bl b))) H from h) ?_)
  cases x<;>first
   | (cases rx;rfl)
   | (obtain⟨t,rfl⟩:=rx;rfl)
   | (cases rx;rename_i a;cases a<;>cases b<;>rfl)
 | _=>exact OV pins s σ H x _ v u Q I rx ry h
theorem RT:bp X (compareOp .IsNot) GX:=by
 intro pins s σ H x y v u Q I rx ry h
 cases y with
 | bl b=>
  cases ry
  have nb: ∀id,v≠ .builtin id:=fun id z=>by
   subst z
   cases x<;>first
    | (obtain⟨t,e⟩:=rx;cases e;done)
    | (cases rx;done)
  refine RP nb (bR I (show Q (.bl (!decide (x= .bl b))) H from h) ?_)
  cases x<;>first
   | (cases rx;rfl)
   | (obtain⟨t,rfl⟩:=rx;rfl)
   | (cases rx;rename_i a;cases a<;>cases b<;>rfl)
 | _=>exact OW pins s σ H x _ v u Q I rx ry h
def cn(K:PySem.W.Frag):CmpOp→R2
 | .Eq=>jL false
 | .NotEq=>jL true
 | .Lt=>gp (fun _ _=>True) fun i j=> .bl (decide (i<j))
 | .LtE=>gp (fun _ _=>True) fun i j=> .bl (decide (i≤j))
 | .Gt=>gp (fun _ _=>True) fun i j=> .bl (decide (j<i))
 | .GtE=>gp (fun _ _=>True) fun i j=> .bl (decide (j≤i))
 | .In=>qF K false
 | .NotIn=>qF K true
 | .Is=>GW
 | .IsNot=>GX
theorem qG(hu:X.A.units+64<cLine)(op:CmpOp):bp X (compareOp op) (cn X.K op):=by
 cases op with
 | Eq=>exact RH hu
 | NotEq=>exact RI hu
 | Lt=>exact bp.imp OQ nT
 | LtE=>exact bp.imp OR nT
 | Gt=>exact bp.imp OS nT
 | GtE=>exact bp.imp OT nT
 | In=>exact RM hu
 | NotIn=>exact RN hu
 | Is=>exact RQ
 | IsNot=>exact RT
inductive Ty where | int | str | bool | list | tuple | dict
 deriving DecidableEq
def Ty.nm:Ty→String
 | .int=> "int" | .str=> "str" | .bool=> "bool" | .list=> "list" | .tuple=> "tuple" | .dict=> "dict"
def bO(T:Ty)(x:V)(H:Hp)(Q:Bool→Prop):Prop:=match x with
 | .ax=>Q false
 | .bl _=>Q (T== .bool || T== .int)
 | .int _=>Q (T== .int)
 | .str _=>Q (T== .str)
 | .ref a=>match H a with
  | some (.lst _)=>Q (T== .list)
  | some (.bT _ (.lst _))=>Q (T== .list)
  | some (.tup _)=>Q (T== .tuple)
  | some (.dK _)=>Q (T== .dict)
  | some (.dT _)=>Q (T== .dict)
  | _=>False
 | _=>False
theorem iS(K:PySem.W.Frag)(S T:Ty):kitOne K (.type S.nm) (.type T.nm)=some (S==T || (S== .bool && T== .int)):=by
 cases S<;>cases T<;>rfl
theorem RU(K:PySem.W.Frag)(T:Ty):kitOne K (.type "NoneType") (.type T.nm)=some false:=by
 cases T<;>rfl
theorem RV(hc:X.calm=true):bY X (.builtin "sum") (fun xs H Q=> ∃(p:Addr) (ns:List Int),xs=[.ref p]∧aH X.K H p (ns.map V.int)∧Q (.int ns.sum) H):=by
 intro pins s σ H xs us Q I r h
 obtain⟨p,ns,rfl,hq,q⟩:=h
 obtain⟨u,rfl,ru⟩:=vals1 r
 cases ru
 obtain⟨its,rv,pl,hz⟩:=I.list hq
 have hi:=intsAre_of rv
 obtain⟨xs,hx⟩:=hi.allInts.items
 have GY:s.heap.IsList p (intItems xs):=hx ▸ pl.isList
 refine sum_intListG (I.ok.hd hc) GY fun h' tk t' hk=> ?_
 have e1:ns=xs.toList.map (·.1):=by
  rw[←nums_intItems,←hx]
  exact(show numsOf its.toArray.toList=ns from hi.numsOf).symm
 have e2:preSum (numAt xs) xs.size=ns.sum:=by
  rw[preSum_eq,List.take_of_length_le (by simp),e1]
 rw[e2]
 exact⟨.int ns.sum,H,I.kept (t':=tk) hk,⟨t',rfl⟩,q⟩
theorem GZ: ∀{ts:List Str} {us:List Value},Vals (ts.map V.str) us→ ∃l:List (Str×Tok),us=strValues l∧l.map (·.1)=ts
 | [],_, .nil=> ⟨[],rfl,rfl⟩
 | x::ts,_, .cons ⟨t,e⟩ r=>by
  obtain⟨l,e1,e2⟩:=GZ r
  subst e e1
  exact⟨(x,t)::l,rfl,by simp[e2]⟩
def rJoin(K:PySem.W.Frag):V→List V→Hp→VK→Prop:=fun x vs H Q=> ∃(sep:Str) (p:Addr) (ts:List Str),x= .str sep∧vs=[.ref p]∧aH K H p (ts.map V.str)∧JoinOk sep ts=true∧Q (.str (Txt.join sep ts)) H
theorem RW:g8 X "str.join" (rJoin X.K):=by
 intro pins s σ H x vs v us Q I rx rv h
 obtain⟨sep,p,ts,rfl,rfl,hq,hj,q⟩:=h
 obtain⟨t,rfl⟩:=rx
 obtain⟨u,rfl,ru⟩:=vals1 rv
 cases ru
 obtain⟨its,rv,pl,hz⟩:=I.list hq
 obtain⟨l,rfl,e2⟩:=GZ rv
 exact SC.join pl.isList e2 hj fun t' k=> ⟨.str _,H,I.tok k,⟨t',rfl⟩,q⟩
def RX:V→List V→Hp→VK→Prop:=fun x vs H Q=> ∃z y,x= .str z∧vs=[.str y]∧z.length≤sizeLine∧Q (.str (Txt.lstripChars z y)) H
theorem RY:g8 X "str.lstrip" RX:=by
 intro pins s σ H x vs v us Q I rx rv h
 obtain⟨z,y,rfl,rfl,hz,q⟩:=h
 obtain⟨t,rfl⟩:=rx
 obtain⟨u,rfl,⟨t2,rfl⟩⟩:=vals1 rv
 refine call_gives F.slot_str_lstrip (typeIs_str _ _ _) F.entry_str_lstrip (F.args_str_lstrip_2 _ _) (gives_str_lstrip_chars z y t t2) (post_val_or_made (fun _=>fits_stripped _ _ _ hz) fun t' k=> ?_)
 exact⟨.str _,H,I.tok k,⟨t',rfl⟩,q⟩
def RZ:V→List V→Hp→VK→Prop:=fun x vs H Q=> ∃z y i,x= .str z∧vs=[.str y, .int i]∧Q (.bl (decide (fromIndex z.length i+y.length≤z.length) && Builtin.Str.subAt z y (fromIndex z.length i))) H
theorem R0:g8 X "str.startswith" RZ:=by
 intro pins s σ H x vs v us Q I rx rv h
 obtain⟨z,y,i,rfl,rfl,q⟩:=h
 obtain⟨t,rfl⟩:=rx
 obtain⟨u,w,rfl,⟨t2,rfl⟩,⟨t3,rfl⟩⟩:=vals2 rv
 exact call_gives F.slot_str_startswith (typeIs_str _ _ _) F.entry_str_startswith (F.args_str_startswith_3 _ _ _) (gives_str_startswith_from z y i t t2 t3) ⟨.bl _,H,I,rfl,q⟩
def hJ{α:Type}(xs:List α)(lo hi:Option Int):List α:=(xs.drop (HT.bh xs.length 0 lo)).take (HT.bh xs.length xs.length hi - HT.bh xs.length 0 lo)
def hU(z:Str)(lo hi:Option Int):Str:=⟨(hJ z.cps.toList lo hi).toArray⟩
theorem R1(z:Str)(lo hi:Option Int):((Builtin.Str.strSliceIndices lo hi 1 z.length).filterMap (z.cps[·]?))=hJ z.cps.toList lo hi:=by
 obtain⟨h1,h2,h3⟩:=uR lo hi z.length
 have e0:Builtin.Str.strSliceIndices lo hi 1 z.length=sliceRange (sliceBounds lo hi none z.length).1 (sliceBounds lo hi none z.length).2.1 (sliceBounds lo hi none z.length).2.2:=rfl
 have hz:z.cps.toList.length=z.length:=by simp[Str.length]
 rw[e0,h1,h2,h3,sliceRange_one,pick_run]
 unfold hJ
 rw[hz]
end
section
variable {X:Cx}
def qH(K:PySem.W.Frag)(neg:Bool):R2:=fun x y H Q=> ∃p xs d es,y= .ref p∧aH K H p xs∧Is H d x∧IsL H es xs∧SeqAt.shaped d=true∧d.depth≤60∧(∀e∈es,SeqAt.shaped e=true)∧Q (.bl (neg ^^ es.any fun e=>PyData.eqv e d)) H
open Classical in
end
def G0:HO:= .ext fun _=>True
structure G1 (ob:Obj) (cls:Value) (vs:Array Value):Prop where
 cls:ob.cls=cls
 data:ob.data= .fields vs
 aoo:vs[2]?=some .none
 dict:ob.dict=none
def ExcAt(H:Hp)(ea D:Addr):Prop:= ∃ob vs,H ea=some (.bT ob G0)∧G1 ob (.ref D) vs
structure R6 (K:PySem.W.Frag) (D:Addr):Prop where
 hga:findIn K (.ref D) "__getattribute__"=some (some (.builtin "BaseException.__getattribute__"))
 hgn:findIn K (.ref D) "__getattr__"=some none
 hk:(PySem.W.clsIn K D).isSome=true
 ha:findIn K (.ref D) "__class__"=some (some (.builtin "object.__class__"))
 hn:specialIn K (.builtin "object.__class__") "__get__"=some (some (.builtin "getset_descriptor.__get__"))
 nz:takesIn K (.builtin "object.__class__")=some true
 hm:mroIn K D (.type "object")=some true
 hb:mroIn K D (.type "BaseException")=some true
def cV:V→Value
 | .ref a=> .ref a
 | .ty n=> .type n
 | _=> .none
def G3(K:PySem.W.Frag):List V→Hp→VK→Prop
 | [.ref ea,c],H,Q=> ∃D b,ExcAt H ea D∧R6 K D∧((∃C,c= .ref C)∨ ∃n,c= .ty n)∧kitOne K (.ref D) (cV c)=some b∧Q (.bl b) H
 | _,_,_=>False
def R7(sp:Sp)(hv:Option Addr)(t:TA):TE:=fun σ H Q=>t σ H fun vs H1=> (∃ea D,hv=some ea∧ExcAt H1 ea D)∧sp vs H1 Q E0
def vv(C:Addr)(E:XK)(t:TA):TS:=fun _ σ H=>t σ H fun vs H1=>vs.length≤sizeLine∧E (.ref C) none H1
def R8(K:PySem.W.Frag)(C:Addr)(i n:Nat)(th:Addr→TS)(D:Ends):XK:=fun cls _ H'=>PySem.W.exmOne K cls (.ref C)=some true∧
 ∀(ea:Addr) (ob:Obj) (vs:Array Value) (σ':St),H' ea=none→σ'.length=n→G1 ob cls vs→th ea {nx:=fun _ _=>False,rt:=D.rt} (σ'.set i (some (.ref ea))) (upd H' ea (.bT ob G0))
def R9(K:PySem.W.Frag)(C:Addr)(i n:Nat)(tb:XK→TS)(th:Addr→TS):TS:=fun D σ H=>tb (R8 K C i n th D) {nx:=D.nx,rt:=D.rt} σ H
inductive hV where | len | min | max | sum | int | list | tuple | abs
 deriving DecidableEq
inductive fK where | append | pop | extend | join | lstrip | starts | reverse | clear | index | find | count | vw | vx
 deriving DecidableEq
inductive IK where | list | tup | dY | R_ | zip | vy | txt | Sa
 deriving DecidableEq
inductive RE where
 | v (i:Nat) | c (x:V) | g (j:Nat)
 | bin (op:Operator) (a b:RE) | neg (a:RE)
 | cmp (op:CmpOp) (a b:RE) | nV (op dy:CmpOp) (a b d:RE) | G4 (op dy G5:CmpOp) (a b d f:RE)
 | and (as:List RE) | or (as:List RE) | not (a:RE) | hX (t a b:RE)
 | call (j:Nat) (as:List RE) | blt (b:hV) (as:List RE) | dJ (T:Ty) (a:RE)
 | b6 (m:fK) (o:RE) (as:List RE)
 | ix (a b:RE) | sl (a:RE) (lo hi:Option RE)
 | tup (as:List RE) | lst (as:List RE)
 | comp (tk:Option Nat) (fv:List (Str×Nat)) (k:IK) (its:List RE) (cond:Option RE) (elt:RE)
 | G6 (a c:RE) | Sb (j:Nat) (a:RE) | Sd | same (a b:RE)
 | Se | Sf (a b:RE) | G7 (a b:RE) | G8 (a b:RE) | Sg (o a b:RE) | inD (a b:RE) | G9 (a b:RE)
 | xt (T:PySem.W.Frag→TA→TE) (as:List RE) | xm (T:PySem.W.Frag→TE→TA→TE) (o:RE) (as:List RE)
 | fld (o:RE) (f:Str) | bP (j:Nat) (m:Str) (o:RE) (as:List RE) | make (j:Nat) (as:List RE)
inductive RS where
 | asg (i:Nat) (e:RE) | Sh (i:Nat) (e:RE) | set (o ix e:RE)
 | drop (e:RE) | ret (e:RE) | Si
 | ite (c:RE) (t e:List RS)
 | eN (i:Nat) (k:IK) (its:List RE) (body:List RS)
 | mG (is:List Nat) (k:IK) (its:List RE) (body:List RS)
 | iU (c:RE) (body:List RS)
 | pass | brk | cont | never
 | Sj (o lo hi e:RE) | gu (o:RE) (f:Str) (e:RE)
 | Sk (is:List Nat) (e:RE) | dput (o i e:RE) | eO (j:Nat) (as:List RE) | Sl (n i j:Nat) (body su:List RS)
structure aF where
 K:PySem.W.Frag
 fs:Nat→Sp
 gv:Nat→V
 E:XK
 sd:Addr→List (Key×V)→Prop
 ms:Nat→Addr×Sp
 kt:Nat→Addr×Sp
 ex:Nat→Addr
 hs:Nat→Sp
 hv:Option Addr
abbrev aF.calm(Γ:aF):aF:={Γ with E:=E0}
def gw(K:PySem.W.Frag)(x:V)(H:Hp)(Q:Bool→Prop):Prop:=match x with
 | .ax=>Q false
 | .bl b=>Q b
 | .int i=>Q (i !=0)
 | .str y=>y.length≤sizeLine∧Q ((y.length:Int) !=0)
 | .ref p=> (∃xs,aH K H p xs∧Q (!xs.isEmpty))∨(∃xs,a_ K H p xs∧Q (!xs.isEmpty))∨ ∃aM,H p=some (.dK aM)∧Q (!aM.isEmpty)
 | _=>False
theorem G_{K:PySem.W.Frag}{x:V}{H:Hp}{Q:Bool→Prop}(h:gw K x H Q): ∃k,Ft K x H k∧Q k:=by
 cases x with
 | ax=>exact⟨_,rfl,h⟩
 | bl b=>exact⟨_,rfl,h⟩
 | int i=>exact⟨_,rfl,h⟩
 | str y=>exact⟨_,⟨h.1,rfl⟩,h.2⟩
 | ref p=>
  rcases h with⟨xs,h1,h2⟩ | ⟨xs,h1,h2⟩ | ⟨xs,h1,h2⟩
  ·exact⟨_, .inl ⟨xs,h1,rfl⟩,h2⟩
  ·exact⟨_, .inr (.inl ⟨xs,h1,rfl⟩),h2⟩
  ·exact⟨_, .inr (.inr ⟨xs,h1,rfl⟩),h2⟩
 | _=>exact False.elim h
def dz(K:PySem.W.Frag)(t:TE):TT:=fun σ H Q=>t σ H fun x H1=>gw K x H1 fun b=>Q b H1
def vz(K:PySem.W.Frag)(t:TE):TE:=fun σ H Q=>t σ H fun x H1=>gw K x H1 fun b=>Q (.bl (!b)) H1
def Ha:V→Hp→VK→Prop:=fun x H Q=>match x with | .int i=>Q (.int (-i)) H | _=>False
def nO(K:PySem.W.Frag)(x:V)(H:Hp)(Q:Nat→Prop):Prop:=match x with
 | .str y=>y.length≤sizeLine∧Q y.length
 | .ref p=> (∃xs,aH K H p xs∧Q xs.length)∨ ∃xs,a_ K H p xs∧Q xs.length
 | _=>False
def signs(x:Str):List V:=x.cps.toList.map fun c=>V.str ⟨#[c]⟩
def Sm:TE:=fun _ H Q=> ∀p,H p=none→Q (.ref p) (upd H p (.dK []))
def jM(K:PySem.W.Frag):hV→List V→Hp→VK→Prop
 | .len,[x],H,Q=>nO K x H fun n=>Q (.int n) H
 | .min,[.int i, .int j],H,Q=>Q (.int (if j<i then j else i)) H
 | .max,[.int i, .int j],H,Q=>Q (.int (if j>i then j else i)) H
 | .min,[.ref p],H,Q=> ∃ns:List Int,aH K H p (ns.map V.int)∧ns≠ []∧ ∀m:Int,m∈ns→(∀n∈ns,m≤n)→Q (.int m) H
 | .max,[.ref p],H,Q=> ∃ns:List Int,aH K H p (ns.map V.int)∧ns≠ []∧ ∀m:Int,m∈ns→(∀n∈ns,n≤m)→Q (.int m) H
 | .sum,[.ref p],H,Q=> ∃ns:List Int,aH K H p (ns.map V.int)∧Q (.int ns.sum) H
 | .int,[.int i],H,Q=>Q (.int i) H
 | .int,[.bl k],H,Q=>Q (.int (if k then 1 else 0)) H
 | .list,[.ref p],H,Q=> ∃ys,(aH K H p ys∨a_ K H p ys)∧ ∀l,H l=none→Q (.ref l) (upd H l (.lst ys))
 | .list,[.str x],H,Q=>x.length≤sizeLine∧ ∀l,H l=none→Q (.ref l) (upd H l (.lst (signs x)))
 | .tuple,[.str x],H,Q=>x.length≤sizeLine∧ ∀l,H l=none→Q (.ref l) (upd H l (.tup (signs x)))
 | .abs,[.int i],H,Q=>Q (.int (if i<0 then -i else i)) H
 | .tuple,[.ref p],H,Q=> ∃ys,(aH K H p ys∧ ∀l,H l=none→Q (.ref l) (upd H l (.tup ys)))∨(a_ K H p ys∧Q (.ref p) H)
 | _,_,_,_=>False
def iV(T:Ty):List V→Hp→VK→Prop
 | [x, .ty n],H,Q=>n=T.nm∧bO T x H fun b=>Q (.bl b) H
 | _,_,_=>False
def nW(K:PySem.W.Frag):fK→V→List V→Hp→VK→Prop
 | .append, .ref l,[y],H,Q=> ∃xs,H l=some (.lst xs)∧xs.length<sizeLine∧Q .ax (upd H l (.lst (xs++ [y])))
 | .pop, .ref l,[],H,Q=> ∃xs y,H l=some (.lst xs)∧xs[xs.length - 1]?=some y∧Q y (upd H l (.lst xs.dropLast))
 | .extend, .ref l,[.ref b],H,Q=> ∃xs zs,H l=some (.lst xs)∧H b=some (.lst zs)∧xs.length+zs.length≤sizeLine∧Q .ax (upd H l (.lst (xs++zs)))
 | .join, .str sep,[.ref p],H,Q=> ∃ts:List Str,aH K H p (ts.map V.str)∧JoinOk sep ts=true∧Q (.str (Txt.join sep ts)) H
 | .lstrip, .str z,[.str y],H,Q=>z.length≤sizeLine∧Q (.str (Txt.lstripChars z y)) H
 | .starts, .str z,[.str y, .int i],H,Q=>Q (.bl (decide (fromIndex z.length i+y.length≤z.length) && Builtin.Str.subAt z y (fromIndex z.length i))) H
 | .find, .str z,[.str y],H,Q=>Q (.int (match Builtin.Str.occurrences z y 0 z.length 1 with | i::_=> (i:Int) | []=> -1)) H
 | .find, .str z,[.str y, .int i],H,Q=>Q (.int (match Builtin.Str.occurrences z y (fromIndex z.length i) z.length 1 with | k::_=> (k:Int) | []=> -1)) H
 | .count, .str z,[.str y],H,Q=>Q (.int (Builtin.Str.occurrences z y 0 z.length (z.length+1)).length) H
 | .reverse, .ref l,[],H,Q=> ∃xs,H l=some (.lst xs)∧Q .ax (upd H l (.lst xs.reverse))
 | .index, .ref l,[.str y],H,Q=> ∃ts:List Str,aH K H l (ts.map V.str)∧y∈ts∧Q (.int (ts.idxOf y:Nat)) H
 | .clear, .ref l,[],H,Q=> ∃xs,H l=some (.lst xs)∧Q .ax (upd H l (.lst []))
 | .vw, .ref l,[y],H,Q=> ∃xs,aH K H l xs∧df y=true∧xs.all df=true∧Q (.int (xs.countP (fun z=>di z y):Nat)) H
 | .vx, .ref l,[y],H,Q=> ∃xs,aH K H l xs∧df y=true∧xs.all df=true∧d6 y xs=true∧Q (.int (xs.findIdx (fun z=>di z y):Nat)) H
 | _,_,_,_,_=>False
def qI:fK→String
 | .join | .lstrip | .starts | .find | .count=> "str"
 | _=> "list"
def qJ(K:PySem.W.Frag)(m:fK)(to:TE)(t:TA):TE:=fun σ H Q=>to σ H fun x H1=>nI K (qI m) x H1∧t σ H1 fun xs H2=>nW K m x xs H2 Q
def qK(K:PySem.W.Frag):V→Option Int→Option Int→Hp→VK→Prop:=fun x lo hi H Q=>match x with
 | .str z=>z.length≤sizeLine∧Q (.str (hU z lo hi)) H
 | .ref a=> (∃xs,aH K H a xs∧ ∀p,H p=none→Q (.ref p) (upd H p (.lst (eB xs lo hi))))∨
  (∃xs,a_ K H a xs∧ ¬(HT.bh xs.length 0 lo=0∧HT.bh xs.length xs.length hi=xs.length)∧ ∀p,H p=none→Q (.ref p) (upd H p (.tup (eB xs lo hi))))
 | _=>False
def jN(aM:List (Key×V))(k:Key):Option V:=(aM.find? fun kv=>decide (kv.1=k)).map (·.2)
def Hb(sd:Addr→List (Key×V)→Prop):R2:=fun x y H Q=> ∃p aM k v,x= .ref p∧y=kV k∧sd p aM∧jN aM k=some v∧Q v H
def iW(K:PySem.W.Frag)(sd:Addr→List (Key×V)→Prop):R2:=fun x y H Q=>FZ K x y H Q∨F_ K x y H Q∨Ga x y H Q∨Hb sd x y H Q
def Sn(r r' r2:R2)(ta tb tc td:TE):TT:=fun σ H Q=>ta σ H fun x H1=>tb σ H1 fun y H2=>r x y H2 fun z H3=> ∃k,z= .bl k∧
 (if k=true then tc σ H3 fun w H4=>r' y w H4 fun z2 H5=> ∃k2,z2= .bl k2∧(if k2=true then td σ H5 fun u H6=>r2 w u H6 fun z3 H7=> ∃k3,z3= .bl k3∧Q k3 H7 else Q false H5) else Q false H3)
def So(K:PySem.W.Frag)(a b:Addr):It:=
  ⟨fun i H=> ∃xs ys,aH K H a xs∧aH K H b ys∧i<xs.length∧i<ys.length,
   fun i H x H'=> ∃T,H T=none∧x= .ref T∧ ∀xs ys u v,aH K H a xs→aH K H b ys→xs[i]?=some u→ys[i]?=some v→H'=upd H T (.tup [u,v]),
   fun i H=> ∃xs ys,aH K H a xs∧aH K H b ys∧i=min xs.length ys.length⟩
def nX(K:PySem.W.Frag)(a:Addr):It:=
  ⟨fun i H=> ∃xs,aH K H a xs∧i<xs.length,
   fun i H x H'=> ∃T,H T=none∧x= .ref T∧ ∀xs u,aH K H a xs→xs[i]?=some u→H'=upd H T (.tup [.int (i:Nat),u]),
   fun i H=> ∃xs,aH K H a xs∧i=xs.length⟩
def vA(K:PySem.W.Frag)(ta:TA):TI:=fun σ H R=>ta σ H fun vs H1=> ∃a,vs=[.ref a]∧(∃xs,aH K H1 a xs)∧R (nX K a) H1
def Sq(K:PySem.W.Frag)(ta:TA):TI:=fun σ H R=>ta σ H fun vs H1=> ∃a b,vs=[.ref a, .ref b]∧(∃xs,aH K H1 a xs)∧(∃ys,aH K H1 b ys)∧R (So K a b) H1
def Sr(K:PySem.W.Frag)(a b:Addr):It:=
  ⟨fun i H=> ∃xs ys,a_ K H a xs∧a_ K H b ys∧i<xs.length∧i<ys.length,
   fun i H x H'=> ∃T,H T=none∧x= .ref T∧ ∀xs ys u v,a_ K H a xs→a_ K H b ys→xs[i]?=some u→ys[i]?=some v→H'=upd H T (.tup [u,v]),
   fun i H=> ∃xs ys,a_ K H a xs∧a_ K H b ys∧i=min xs.length ys.length⟩
def Ss(K:PySem.W.Frag)(ta:TA):TI:=fun σ H R=>ta σ H fun vs H1=> ∃a b,vs=[.ref a, .ref b]∧(∃xs,a_ K H1 a xs)∧(∃ys,a_ K H1 b ys)∧R (Sr K a b) H1
def Su(z:Str):It:=⟨fun i _=>i<z.length,fun i H x H'=>H'=H∧ ∃c,z.cps[i]?=some c∧x= .str ⟨#[c]⟩,fun i _=>i=z.length⟩
def Sv(ta:TE):TI:=fun σ H R=>ta σ H fun x H1=> ∃z,x= .str z∧R (Su z) H1
mutual
def ah(Γ:aF):RE→TE
 | .v i=>um i
 | .c x=>tC x
 | .g j=>tC (Γ.gv j)
 | .bin op a b=>dc (jK Γ.K op) (ah Γ a) (ah Γ b)
 | .neg a=>Fl Ha (ah Γ a)
 | .cmp op a b=>dc (cn Γ.K op) (ah Γ a) (ah Γ b)
 | .nV op dy a b d=>qc (cn Γ.K op) (cn Γ.K dy) (ah Γ a) (ah Γ b) (ah Γ d)
 | .G4 _ _ _ _ _ _ _=>fun _ _ _=>False
 | .and as=>Hc Γ as
 | .or as=>He Γ as
 | .not a=>vz Γ.K (ah Γ a)
 | .hX t a b=>E1 (br Γ t) (ah Γ a) (ah Γ b)
 | .call j as=>uJ (Γ.fs j) [] Γ.E (bq Γ as)
 | .blt b as=>cU (jM Γ.K b) (bq Γ as)
 | .dJ T a=>cU (iV T) (cQ (ah Γ a) (cQ (tC (.ty T.nm)) fI))
 | .b6 m o as=>qJ Γ.K m (ah Γ o) (bq Γ as)
 | .ix a b=>dc (iW Γ.K Γ.sd) (ah Γ a) (ah Γ b)
 | .sl a lo hi=>uN (qK Γ.K) (ah Γ a) (jO Γ lo) (jO Γ hi)
 | .tup as=>FC (bq Γ as)
 | .lst as=>FD (bq Γ as)
 | .comp tk fv k its cond elt=>qv Γ.K (fL Γ k its) tk fv (Hf Γ.calm cond) (ah Γ.calm elt)
 | .G6 a c=>cU (G3 Γ.K) (cQ (ah Γ a) (cQ (ah Γ c) fI))
 | .Sd=>Sm
 | .same a b=>dc RG (ah Γ a) (ah Γ b)
 | .inD a b=>dc (qH Γ.K false) (ah Γ a) (ah Γ b)
 | .G9 a b=>dc (qH Γ.K true) (ah Γ a) (ah Γ b)
 | .Se=>QY
 | .Sf a b=>QW (ah Γ a) (ah Γ b)
 | .G7 a b=>Gn (ah Γ a) (ah Γ b)
 | .G8 a b=>Gp (ah Γ a) (ah Γ b)
 | .Sg o a b=>Q0 (ah Γ o) (ah Γ a) (ah Γ b)
 | .xt T as=>T Γ.K (bq Γ as)
 | .xm T o as=>T Γ.K (ah Γ o) (bq Γ as)
 | .Sb j a=>R7 (Γ.hs j) Γ.hv (cQ (ah Γ a) fI)
 | .fld o f=>qe Γ.K (ah Γ o) f
 | .bP j m o as=>jB (Γ.ms j).1 m (Γ.ms j).2 [] Γ.E (ah Γ o) (bq Γ as)
 | .make j as=>nB (Γ.kt j).1 (Γ.kt j).2 [] Γ.E (bq Γ as)
def br(Γ:aF):RE→TT
 | .not a=>EY (br Γ a)
 | .inD a b=>mB (dc (qH Γ.K false) (ah Γ a) (ah Γ b))
 | .G9 a b=>mB (dc (qH Γ.K true) (ah Γ a) (ah Γ b))
 | .G7 a b=>tB (Gn (ah Γ a) (ah Γ b))
 | .G8 a b=>tB (Gp (ah Γ a) (ah Γ b))
 | .and as=>Hg Γ as
 | .or as=>Hh Γ as
 | .cmp op a b=>mB (dc (cn Γ.K op) (ah Γ a) (ah Γ b))
 | .nV op dy a b d=>mB (qc (cn Γ.K op) (cn Γ.K dy) (ah Γ a) (ah Γ b) (ah Γ d))
 | .G4 op dy G5 a b d f=>Sn (cn Γ.K op) (cn Γ.K dy) (cn Γ.K G5) (ah Γ a) (ah Γ b) (ah Γ d) (ah Γ f)
 | .v i=>dz Γ.K (um i)
 | .call j as=>dz Γ.K (uJ (Γ.fs j) [] Γ.E (bq Γ as))
 | .dJ T a=>dz Γ.K (cU (iV T) (cQ (ah Γ a) (cQ (tC (.ty T.nm)) fI)))
 | .G6 a c=>dz Γ.K (cU (G3 Γ.K) (cQ (ah Γ a) (cQ (ah Γ c) fI)))
 | .b6 m o as=>dz Γ.K (qJ Γ.K m (ah Γ o) (bq Γ as))
 | .ix a b=>dz Γ.K (dc (iW Γ.K Γ.sd) (ah Γ a) (ah Γ b))
 | .bin op a b=>dz Γ.K (dc (jK Γ.K op) (ah Γ a) (ah Γ b))
 | .fld o f=>dz Γ.K (qe Γ.K (ah Γ o) f)
 | .xt T as=>dz Γ.K (T Γ.K (bq Γ as))
 | .xm T o as=>dz Γ.K (T Γ.K (ah Γ o) (bq Γ as))
 | .bP j m o as=>dz Γ.K (jB (Γ.ms j).1 m (Γ.ms j).2 [] Γ.E (ah Γ o) (bq Γ as))
 | _=>fun _ _ _=>False
def bq(Γ:aF):List RE→TA
 | []=>fI
 | a::r=>cQ (ah Γ a) (bq Γ r)
def Hc(Γ:aF):List RE→TE
 | []=>fun _ _ _=>False
 | [a]=>ah Γ a
 | a::r=>EZ (ah Γ a) (Hc Γ r)
def He(Γ:aF):List RE→TE
 | []=>fun _ _ _=>False
 | [a]=>ah Γ a
 | a::r=>N7 (ah Γ a) (He Γ r)
def Hg(Γ:aF):List RE→TT
 | []=>fun _ _ _=>False
 | [a]=>br Γ a
 | a::r=>EW (br Γ a) (Hg Γ r)
def Hh(Γ:aF):List RE→TT
 | []=>fun _ _ _=>False
 | [a]=>br Γ a
 | a::r=>EX (br Γ a) (Hh Γ r)
def jO(Γ:aF):Option RE→TO
 | none=>PU
 | some a=>qj (ah Γ a)
def Hf(Γ:aF):Option RE→Option TT
 | none=>none
 | some a=>some (br Γ a)
def fL(Γ:aF)(k:IK):List RE→TI
 | []=>fun _ _ _=>False
 | a::r=>match k with
  | .list=>ux Γ.K (ah Γ a)
  | .tup=>Ow Γ.K (ah Γ a)
  | .dY=>Fg (cQ (ah Γ a) (bq Γ r))
  | .R_=>Oz (cQ (ah Γ a) (bq Γ r))
  | .zip=>Sq Γ.K (cQ (ah Γ a) (bq Γ r))
  | .vy=>vA Γ.K (cQ (ah Γ a) (bq Γ r))
  | .txt=>Sv (ah Γ a)
  | .Sa=>Ss Γ.K (cQ (ah Γ a) (bq Γ r))
end
structure cH where
 N:List Str
 sc:Scope
 fn:List Str
 gn:List Str
 bl:List Str
 mn:List Str
 kn:List Str
 en:List Str
 hn:List Str
 md:Nat
def vB(sc:Scope)(x:Str):Bool:=match sc.names.lookup x with
 | some .local=>true | some .cell=>true | some .free=>true | _=>false
def loc(sc:Scope)(x:Str):Bool:=match sc.names.lookup x with
 | some .local=>true | some .cell=>true | _=>false
def iX(sc:Scope)(x:Str):Bool:=match sc.names.lookup x with
 | some .globalImplicit=>true | _=>false
theorem Sw{sc:Scope}{x:Str}(h:vB sc x=true):pM sc x:=by
 unfold vB at h
 unfold pM
 cases e:sc.names.lookup x with
 | none=>rw[e] at h;cases h
 | some k=>rw[e] at h;cases k<;>first | exact .inl rfl | exact .inr (.inl rfl) | exact .inr (.inr rfl) | cases h
theorem Hi{sc:Scope}{x:Str}(h:loc sc x=true):Loc sc x:=by
 unfold loc at h
 unfold Loc
 cases e:sc.names.lookup x with
 | none=>rw[e] at h;cases h
 | some k=>rw[e] at h;cases k<;>first | exact .inl rfl | exact .inr rfl | cases h
theorem Sx{sc:Scope}{x:Str}(h:iX sc x=true):sc.names.lookup x=some .globalImplicit:=by
 unfold iX at h
 cases e:sc.names.lookup x with
 | none=>rw[e] at h;cases h
 | some k=>rw[e] at h;cases k<;>first | rfl | cases h
structure nY where
 elt:Expr
 tg:Expr
 iter:Expr
 ifs:List Expr
 sc:Scope
def hV.nm:hV→Str
 | .len=> "len" | .min=> "min" | .max=> "max" | .sum=> "sum" | .int=> "int" | .list=> "list" | .tuple=> "tuple" | .abs=> "abs"
def fK.nm:fK→Str
 | .append=> "append" | .pop=> "pop" | .extend=> "extend" | .join=> "join" | .lstrip=> "lstrip" | .starts=> "startswith" | .reverse=> "reverse" | .clear=> "clear" | .index=> "index" | .find=> "find" | .count=> "count" | .vw=> "count" | .vx=> "index"
def jP:Expr→Bool
 | .Call (.Name _ _) [] [] _=>false
 | _=>true
def noStar:Expr→Bool
 | .Starred ..=>false
 | _=>true
def nZ:Expr→Bool
 | .Set ..=>false
 | _=>true
def vC(Hj sc:Scope):Scope:=
 {Hj with names:=Hj.names.map fun(n,k)=>if (k== .free && sc.kind== .function && sc.names.lookup n==some .cell) then (n, .cell) else (n,k)}
def vD(tk:Option Nat)(tg:Expr):Option (List Str):=match tk,tg with
 | none, .Name x _=>some [x]
 | some 2, .Tuple [.Name x _, .Name y _] _ _=>some [x,y]
 | _,_=>none
def Hk(S:cH)(c:nY)(ln:List Str)(fv:List (Str×Nat)):cH:={S with N:=ln++fv.map (·.1),sc:=vC c.sc S.sc,en:=[],md:=if S.md=0 then 0 else 2}
def vE(S:cH)(c:nY)(ln:List Str)(fv:List (Str×Nat)):Bool:=
 decide (c.sc.kind= .function) && c.sc.names.all (fun y=>decide (y.2≠ .cell)) && c.sc.names.all (fun y=>decide (y.2≠ .local) || decide (c.sc.names.lookup y.1=some .local))
 && c.sc.names.all (fun y=>decide (y.2≠ .free) || decide (S.sc.names.lookup y.1=some .cell) || decide (S.sc.names.lookup y.1=some .free))
 && fv.all (fun p=>decide (S.N[p.2]?=some p.1) && decide (c.sc.names.lookup p.1=some .free))
 && ln.all (fun x=>decide (c.sc.names.lookup x=some .local)) && decide ((ln++fv.map (·.1)).Nodup) && nZ c.iter
theorem Sy{P:Program}{w:World}{K:PySem.W.Frag}{elts:List Expr}{k:Nat}{pos:Pos}{z it l:Addr}(d1:z≠it)(d2:l≠z)(d3:l≠it):
  Turn P w K (.Tuple elts k pos) (nX K l) [z,it] z
   (fun i h=> (∃old,IsEnum h z it i old)∧h.IsListIter it l i) where
 mem:=by simp
 obj:=fun i h st b hb=>by
  obtain⟨⟨old,hz⟩,⟨o2,e2,c2,d2⟩⟩:=st
  simp only[List.mem_cons,List.not_mem_nil,or_false] at hb
  rcases hb with rfl | rfl
  ·exact⟨_,hz,fun v q=>by cases q⟩
  ·exact⟨_,e2,fun v q=>by rw[d2] at q;cases q⟩
 keep:=fun i h h' st hk=>by
  obtain⟨⟨old,hz⟩,h1⟩:=st
  exact⟨⟨old,hk z (by simp) _ hz⟩,h1.at fun o e=>hk it (by simp) o e⟩
 item:=by
  intro X hP hw hK hc i pins s σ H E I hf st hg
  subst hP hw hK
  obtain⟨xs,hx,hi1⟩:=hg
  obtain⟨jQ,r1,p1,z1⟩:=I.list hx
  have Sz:=r1.length
  have W:=WalksT.enumerate (prog:=X.prog) (w:=X.w) (A:=X.A) (I.ok.hd hc) z it l d1 d2 d3 jQ.toArray
  obtain⟨hz,h1⟩:=id st
  have hn:i<jQ.toArray.size:=by simp only[List.size_toArray];omega
  refine W.item i s _ _ hn ⟨hz,h1,p1.isList⟩ fun T vals h' tk hv hT SA mid hk=> ?_
  refine⟨.ref T,rfl, ?_⟩
  refine W.go elts k pos i T _ _ _ mid fun qL SD Hl=> ?_
  obtain⟨t0,u,eu,rfl⟩:=hv
  have kk: ∀b o,b∉ [z,it]→s.heap.get? b=some o→qL.get? b=some o:=fun b o hb e=>Hl b o hb (hk b o hb e)
  have I1:Inv X pins σ H {s with heap:=qL,toks:=tk}:=by
   refine I.step (g':=s.gens) (d':=s.drawn) (ch:=[z,it]) (fun b hb=> ?_) (fun b o _ _ hc e _=>kk b o hc e) (fun b o _ _ hc e _=> ⟨o.slots,kk b o hc e⟩) (fun _ _ _ _ n=>n)
    (fun b o hc e=> ⟨o,kk b o hc e⟩) (fun _ _ e=>e) (fun _ _ _ e=>e) (fun b ps e=> ⟨#[],by rw[e];simp⟩) (fun m hm=> ?_) (fun b o e=> ?_) I.bare
   ·obtain⟨f0,f1,f2,f3,f4,f5⟩:=hf b hb
    exact⟨f3,f1,f4,f5⟩
   ·obtain⟨o,es,ep,ho,r⟩:=hm
    exact⟨o,es,ep,kk _ o (fun hb=> (hf _ hb).2.1 rfl) ho,r⟩
   ·have nb: ∀c o',H c=some o'→c∉ [z,it]:=fun c o' e hb=>by
     rw[(hf c hb).1] at e;cases e
    refine(I.aI b o e).gW (fun c q da e'=>kk c q ?_ e') (fun _ q=>q) fun _ _ q=>q
    rcases da with rfl | da
    ·exact nb _ _ e
    ·exact nb _ _ da
  have mH:s.heap.objs.size≤T:=hT
  have fT:H T=none:=I.aI.fresh mH
  have aT:T∉ [z,it]:=W.apart i T h' mid
  have tT:qL.IsTuple T #[.int (i:Nat) t0,u]:=by
   obtain⟨o,ho,q⟩:=SA
   exact⟨o,Hl T o aT ho,q⟩
  obtain⟨a,SE,ra⟩: ∃a,xs[i]?=some a∧RelV a u:=by
   have e:jQ[i]?=some u:=by simpa using eu
   have:i<xs.length:=by omega
   obtain⟨u',e',r'⟩:=r1.get (i:=i) (x:=xs[i]) (by simp[this])
   rw[e] at e';cases e'
   exact⟨xs[i],by simp[this],r'⟩
  have sz0:=I.sz
  have I2:Inv X pins σ (upd H T (.tup [.int (i:Nat),a])) {s with heap:=qL,toks:=tk}:=by
   refine Inv.Gq I1 fT (Nat.le_trans I.sz mH) (Nat.ne_of_gt (Nat.lt_of_lt_of_le I.lt mH)) (fun x c e q=> ?_) (fun p hp q=> ?_) ⟨by show 2≤sizeLine;decide,[.int (i:Nat) t0,u], .cons ⟨t0,rfl⟩ (.cons ra .nil),tT⟩
   ·obtain⟨v',q'⟩:=I.cell x c e
    have:=q'.lt
    rw[q] at this
    exact absurd (Nat.lt_of_lt_of_le this mH) (Nat.lt_irrefl _)
   ·have:=Heap.lt_size (I.pin p hp).1
    rw[q] at this
    exact absurd (Nat.lt_of_lt_of_le this mH) (Nat.lt_irrefl _)
  refine⟨.ref T,_,I2,rfl,⟨T,fT,rfl,fun vF a' jH ea=> ?_⟩, ?_,fun c da=> ?_⟩
  ·rw[I.E2 jH hx,SE] at ea
   cases ea;rfl
  ·obtain⟨⟨q0,q1⟩,q2,_⟩:=SD
   exact⟨⟨q0,q1⟩,q2⟩
  ·have n0:=(hf c da).1
   have:c≠T:=fun q=>by
    obtain⟨o,e,_⟩: ∃o,s.heap.get? c=some o∧True:=by
     obtain⟨⟨old,hz⟩,⟨o2,e2,_⟩⟩:=st
     simp only[List.mem_cons,List.not_mem_nil,or_false] at da
     rcases da with rfl | rfl
     ·exact⟨_,hz,trivial⟩
     ·exact⟨_,e2,trivial⟩
    have:=Heap.lt_size e
    rw[q] at this
    exact absurd (Nat.lt_of_lt_of_le this mH) (Nat.lt_irrefl _)
   rw[aN this];exact n0
 done:=by
  intro X hP hw hK hc i pins s σ H E I hf st hg
  subst hP hw hK
  obtain⟨xs,hx,hi⟩:=hg
  obtain⟨jQ,r1,p1,z1⟩:=I.list hx
  have Sz:=r1.length
  have W:=WalksT.enumerate (prog:=X.prog) (w:=X.w) (A:=X.A) (I.ok.hd hc) z it l d1 d2 d3 jQ.toArray
  obtain⟨hz,h1⟩:=id st
  have hn:i=jQ.toArray.size:=by simp only[List.size_toArray];omega
  subst hn
  refine W.done s _ _ ⟨hz,h1,p1.isList⟩ fun h' tk hk=> ⟨rfl, ?_⟩
  refine I.step (g':=s.gens) (d':=s.drawn) (ch:=[z,it]) (fun b hb=> ?_) (fun b o _ _ hc e _=>hk b o hc e) (fun b o _ _ hc e _=> ⟨o.slots,hk b o hc e⟩) (fun _ _ _ _ n=>n)
   (fun b o hc e=> ⟨o,hk b o hc e⟩) (fun _ _ e=>e) (fun _ _ _ e=>e) (fun b ps e=> ⟨#[],by rw[e];simp⟩) (fun m hm=> ?_) (fun b o e=> ?_) I.bare
  ·obtain⟨f0,f1,f2,f3,f4,f5⟩:=hf b hb
   exact⟨f3,f1,f4,f5⟩
  ·obtain⟨o,es,ep,ho,r⟩:=hm
   exact⟨o,es,ep,hk _ o (fun hb=> (hf _ hb).2.1 rfl) ho,r⟩
  ·have nb: ∀c o',H c=some o'→c∉ [z,it]:=fun c o' e hb=>by
    rw[(hf c hb).1] at e;cases e
   refine(I.aI b o e).gW (fun c q da e'=>hk c q ?_ e') (fun _ q=>q) fun _ _ q=>q
   rcases da with rfl | da
   ·exact nb _ _ e
   ·exact nb _ _ da
 self:=fun A i s Q E st hQ=>by
  obtain⟨⟨old,hz⟩,_⟩:=st
  exact wpAny_pyIter_enum hz hQ
theorem SF:bootBuiltins "enumerate"=some (.type "enumerate"):=by decide+kernel
theorem SH{X:Cx}{elts:List Expr}{k:Nat}{uI:Pos}{a:Expr}{ta:TA}{p pos:Pos}(hg:Gl X "enumerate")(hm:X.mg "enumerate"=none)(ha:PA X [a] ta)
  (hs:starEach [a] X.env=[(false,eval a X.env)]):PI X (.Tuple elts k uI) (.Call (.Name "enumerate" p) [a] [] pos) (vA X.K ta):=by
 intro pins s σ H R I h
 refine Call_ (ny I hg hm SF (PyProof.Rows.callWith_type1 (aW (ha pos pins s σ H _ I h) fun us s1 ⟨vs,H1,I1,r1,q1⟩=> ?_) hs rfl))
 obtain⟨l1,e,⟨xs,hx⟩,q⟩:=q1
 subst e
 obtain⟨u,rfl,ru⟩:=vals1 r1
 cases ru
 obtain⟨jQ,rr1,p1,z1⟩:=I1.list hx
 refine call_enumerate_list p1.isList fun h' a1 a2 a3 hk=> ?_
 refine wpAny_pyIter_enum a1 ?_
 have lt1: @LT.lt Nat _ l1 s1.heap.objs.size:=by obtain⟨_,e,_⟩:=p1.isList;exact Heap.lt_size e
 have I2:Inv X pins σ H1 {s1 with heap:=h'}:=I1.kept (t':=s1.toks) hk
 refine⟨_,_,_,_,H1,rfl,I2,Sy (z:=s1.heap.objs.size+1) (it:=s1.heap.objs.size) (l:=l1) (by show @Ne Nat _ _;omega) (by show @Ne Nat _ _;omega) (by show @Ne Nat _ _;omega),⟨⟨_,a1⟩,a2⟩,fun b' hb=> ?_,q⟩
 have hle:s1.heap.objs.size≤b':=by
  simp only[List.mem_cons,List.not_mem_nil,or_false] at hb
  rcases hb with rfl | rfl
  ·exact Nat.le_add_right _ _
  ·exact Nat.le_refl _
 have:=I1.uw (b:=b') (H':=H1) hle (I1.aI.fresh hle)
 exact this
theorem SI{K:PySem.W.Frag}{a:Addr}{xs:List V}{g:TG}{tb:TS}{D:Ends}{σ:St}{H:Hp}(Pv:Nat→St→Hp→Prop)(h0:Pv 0 σ H)(ha: ∀i σ H,Pv i σ H→aH K H a xs)
  (hs: ∀i x σ H T,xs[i]?=some x→Pv i σ H→H T=none→g (.ref T) σ (upd H T (.tup [.int (i:Nat),x])) fun σ2 H2=>tb {D with nx:=Pv (i+1),ct:=Pv (i+1),bk:=D.nx} σ2 H2) (hd: ∀σ H,Pv xs.length σ H→D.nx σ H):
  ∃W:Nat→Nat→St→Hp→Prop,(∃m,W 0 m σ H)∧ ∀i m σ H,W i m σ H→
   ((nX K a).stop i H∧D.nx σ H)∨((nX K a).go i H∧ ∃N:St→Hp→Prop,(∀σ' H',N σ' H'→ ∃m',m'<m∧W (i+1) m' σ' H')∧ ∀x H',(nX K a).eK i H x H'→g x σ H' fun σ2 H2=>tb {D with nx:=N,ct:=N,bk:=D.nx} σ2 H2):=by
 refine⟨fun i m σ H=>m=xs.length - i∧i≤xs.length∧Pv i σ H,⟨xs.length,by simp,Nat.zero_le _,h0⟩, ?_⟩
 rintro i m σ H ⟨rfl,hi,p⟩
 have q1:=ha i σ H p
 by_cases bz:i<xs.length
 ·refine .inr ⟨⟨xs,q1,bz⟩,Pv (i+1),fun σ' H' p'=> ⟨xs.length - (i+1),by omega,rfl,bz,p'⟩,fun x H' y=> ?_⟩
  obtain⟨T,hT,rfl,y⟩:=y
  have e:=y xs xs[i] q1 (by simp[bz])
  subst e
  exact hs i xs[i] σ H T (by simp[bz]) p hT
 ·have e:i=xs.length:=by omega
  subst e
  exact .inl ⟨⟨xs,q1,rfl⟩,hd σ H p⟩
end L2
set_option maxHeartbeats 400000
namespace L2
open PySem PySem.Spec PyProof.Rows
section
variable {prog:Program} {w:World} {A:Around} {E:Value→Shared→Prop} {s:Shared}
end
end L2
set_option maxHeartbeats 1000000
namespace L2
open PySem PySem.Spec PyProof.Rows PySem.W
section
variable {prog:Program} {w:World} {A:Around} {E:Value→Shared→Prop} {s:Shared} {K:Frag} {x D:Addr} {ox:Obj}
end
end L2
set_option maxHeartbeats 400000
namespace L2
open PySem PySem.Spec PyProof.Rows
inductive bK (J:Shared→Prop) {α:Type}:Sem α→Prop
 | pure (a:α):bK J (.pure a)
 | raise (e:Value):bK J (.raise e)
 | unsupported (w:String):bK J (.unsupported w)
 | rule {t:String} {k:Unit→Sem α}:bK J (k ())→bK J (.rule t k)
 | load {a:Addr} {p:Option Value} {k:Obj→Sem α}:(∀o,bK J (k o))→bK J (.load a p k)
 | update {a:Addr} {p:Option Value} {f:Obj→Obj} {k:Unit→Sem α}:(∀s,J s→J {s with heap:=s.heap.update a f})→bK J (k ())→bK J (.update a p f k)
 | alloc {o:Obj} {k:Addr→Sem α}:(∀s,J s→J {s with heap:=s.heap.push o})→(∀a,bK J (k a))→bK J (.alloc o k)
 | stack {k:List (Code×Pos)→Sem α}:(∀t,bK J (k t))→bK J (.stack k)
theorem SJ{M:Model}{Γ:PySem.Ctx}{J:Shared→Prop}{α:Type}{t:Sem α}(kt:bK J t): ∀{Q:α→Pos→Shared→Prop} {E:Value→Pos→Shared→Prop} {p:Pos} {s:Shared},J s→Sem.wp M Γ t Q E p s→
  Sem.wp M Γ t (fun a p s=>Q a p s∧J s) (fun e p s=>E e p s∧J s) p s:=by
 induction kt with
 | pure a=>intro Q E p s j h;rw[Sem.wp] at h⊢;exact⟨h,j⟩
 | raise e=>intro Q E p s j h;rw[Sem.wp] at h⊢;exact⟨h,j⟩
 | unsupported w=>intro Q E p s j h;rw[Sem.wp] at h;exact h.elim
 | rule _ ih=>intro Q E p s j h;rw[Sem.wp] at h⊢;exact ih j h
 | load _ ih=>intro Q E p s j h;rw[Sem.wp] at h⊢;obtain⟨o,e,h⟩:=h;exact⟨o,e,ih o j h⟩
 | update f _ ih=>intro Q E p s j h;rw[Sem.wp] at h⊢;exact⟨h.1,ih (f _ j) h.2⟩
 | alloc f _ ih=>intro Q E p s j h;rw[Sem.wp] at h⊢;exact ih _ (f _ j) h
 | stack _ ih=>intro Q E p s j h;rw[Sem.wp] at h⊢;exact ih _ j h
theorem Hm{M:Model}{A:Around}{J:Shared→Prop}{α:Type}{t:Sem α}{Q:α→Shared→Prop}{E:Value→Shared→Prop}{s:Shared}(k:bK J t)(j:J s)(h:wpAny M A t Q E s):
  wpAny M A t (fun a s=>Q a s∧J s) (fun e s=>E e s∧J s) s:=fun Γ p hΓ=>SJ k j (h Γ p hΓ)
def cN(e:Addr)(s:Shared):Prop:= ∃o vs,s.heap.get? e=some o∧o.data= .fields vs∧vs[2]?=some .none∧o.dict=none
theorem SK(f:Array Value→Array Value)(o:Obj):(Obj.mapFields f o).dict=o.dict:=by
 unfold Obj.mapFields
 split<;>rfl
theorem SM{e a:Addr}{i:Nat}{v:Value}(hi:i≠2)(s:Shared)(j:cN e s):cN e {s with heap:=s.heap.update a (Obj.mapFields (·.setIfInBounds i v))}:=by
 obtain⟨o,vs,h1,h2,h3,h4⟩:=j
 by_cases z:a=e
 ·subst z
  have d:=Obj.data_mapFields h2 (·.setIfInBounds i v)
  exact⟨_,_,Heap.get?_update_self _ h1 (Obj.isFreed_of_fields d),d,by rw[Array.getElem?_setIfInBounds_ne hi];exact h3,(SK _ _).trans h4⟩
 ·exact⟨o,vs,(Heap.get?_update_other _ _ z).trans h1,h2,h3,h4⟩
theorem SN{e a:Addr}{f:Obj→Obj}(hf: ∀o,(f o).data=o.data∧(f o).dict=o.dict)(s:Shared)(j:cN e s):cN e {s with heap:=s.heap.update a f}:=by
 obtain⟨o,vs,h1,h2,h3,h4⟩:=j
 by_cases z:a=e
 ·subst z
  exact⟨_,vs,Heap.get?_update_self _ h1 (Obj.isFreed_of_fields ((hf o).1.trans h2)),(hf o).1.trans h2,h3,(hf o).2.trans h4⟩
 ·exact⟨o,vs,(Heap.get?_update_other _ _ z).trans h1,h2,h3,h4⟩
theorem SO{e:Addr}{ob:Obj}(s:Shared)(j:cN e s):cN e {s with heap:=s.heap.push ob}:=by
 obtain⟨o,vs,h1,h2,h3,h4⟩:=j
 exact⟨o,vs,Heap.get?_push_of_some _ h1,h2,h3,h4⟩
theorem bK.bind{J:Shared→Prop}{α β:Type}{t:Sem α}{f:α→Sem β}(kt:bK J t)(h: ∀a,bK J (f a)):bK J (t>>=f):=by
 show bK J (t.bind f)
 induction kt with
 | pure a=>exact h a
 | raise e=>exact .raise e
 | unsupported w=>exact .unsupported w
 | rule _ ih=>exact .rule ih
 | load _ ih=>exact .load ih
 | update g _ ih=>exact .update g ih
 | alloc g _ ih=>exact .alloc g ih
 | stack _ ih=>exact .stack ih
section
variable {e:Addr}
theorem vG{a:Addr}:bK (cN e) (load a):= .load fun o=> .pure o
theorem vH{v x:Value}{i:Nat}(hi:i≠2):bK (cN e) (setField v i x):=by
 unfold setField
 split
 ·rename_i a
  unfold updateField
  refine vG.bind fun o=> ?_
  split
  ·split
   ·exact .update (fun s j=>SM hi s j) (.pure ())
   ·exact .unsupported _
  ·exact .unsupported _
 ·exact .unsupported _
theorem SQ{v:Value}:bK (cN e) (fieldsOf v):=by
 unfold fieldsOf
 split
 ·refine vG.bind fun o=> ?_
  split
  ·exact .pure _
  ·exact .unsupported _
 ·exact .unsupported _
theorem qM{v:Value}{i:Nat}:bK (cN e) (field v i):=by
 unfold field
 refine SQ.bind fun vs=> ?_
 split
 ·exact .pure _
 ·exact .unsupported _
theorem SR{v:Value}{f:Option Addr}:bK (cN e) (setFlight v f):=by
 unfold setFlight
 refine qM.bind fun tb=> ?_
 split
 ·exact vH (by decide)
 ·exact .pure _
theorem vI:bK (cN e) stack:= .stack fun t=> .pure t
theorem SS{ty:String}{vs:List Value}:bK (cN e) (newFields ty vs):=by
 unfold newFields newObj newObjAsIs
 show bK (cN e) (if vs.toArray.size>sizeLine+2 then (unsupported "record:memory" >>=_) else _)
 split
 ·exact .unsupported _
 ·exact bK.bind (.alloc (fun s j=>SO s j) fun a=> .pure a) fun a=> .pure _
theorem SU{f:Addr}{b:Bool}:bK (cN e) (entryPlaceOf f b):=by
 unfold entryPlaceOf
 refine vI.bind fun aov=> ?_
 split
 ·exact .pure _
 ·exact .pure _
theorem Hn: ∀l:List Env,bK (cN e) (readyFrames l)
 | []=> .pure _
 | env::outer=>by
  unfold readyFrames
  split
  ·refine vG.bind fun o=> ?_
   split
   ·exact .pure _
   ·refine bK.bind ?_ fun im=>bK.bind ?_ fun bk=>bK.bind (.update (fun s j=>SN (by intro o;exact⟨rfl,rfl⟩) s j) (.pure ())) fun _=>Hn outer
    ·unfold behindIsImport
     split
     ·exact .pure _
     ·split
      ·exact .pure _
      ·exact qM.bind fun _=> .pure _
    ·unfold keptBack
     split
     ·split
      ·exact .pure _
      ·unfold underTheClaimsCaller
       exact bK.bind (vI.bind fun _=> .pure _) fun _=> .pure _
     ·exact .pure _
  ·exact .unsupported _
theorem SV{env:Env}:bK (cN e) (PySem.frameOf env):=by
 unfold PySem.frameOf frameEnvs
 refine bK.bind (vI.bind fun _=> .pure _) fun l=> ?_
 refine bK.bind ?_ fun r=> ?_
 ·unfold frameObject
  split
  ·exact .pure _
  ·exact(Hn _).bind fun _=> .pure _
 ·split
  ·exact .pure _
  ·exact .unsupported _
theorem SW{v:Value}{env:Env}:bK (cN e) (noteFrame v env):=by
 unfold noteFrame
 split
 ·rename_i x d hq
  refine qM.bind fun hd=> ?_
  have tail:bK (cN e) (do let a ←PySem.frameOf env;let pl ←entryPlaceOf d (hd != .none);let b ←EntryCells.newEntry hd a .none (rawInt d) .none pl;setField v 1 b):=
   SV.bind fun a=>SU.bind fun pl=>bK.bind SS fun b=>vH (by decide)
  dsimp only
  split
  ·refine qM.bind fun x=> ?_
   split
   ·exact .pure _
   ·exact(vH (by decide)).bind fun _=>tail
  ·exact tail
 ·exact .unsupported _
theorem Ho{v:Value}{env:Env}:bK (cN e) (leaving env v):=by
 unfold leaving
 exact SW.bind fun _=>SR
end
end L2
set_option maxHeartbeats 4000000
namespace L2
open PySem PySem.Spec PyProof.Rows
theorem cu.vJ{P:Program}{w:World}{H:Hp}{h:Heap}{a:Addr}{o:HO}(x:cu P w H h a o): ∃ob,h.get? a=some ob:=by
 cases o with
 | lst xs=>obtain⟨_,_,_,_,e⟩:=x;exact⟨_,e⟩
 | tup xs=>obtain⟨_,_,_,ob,e,_⟩:=x;exact⟨_,e⟩
 | dK aM=>obtain⟨_,_,_,_,o,_,_,e,_⟩:=x;exact⟨_,e⟩
 | dT aM=>obtain⟨_,_,_,_,o,_,_,e,_⟩:=x;exact⟨_,e⟩
 | set S n=>obtain⟨o,_,_,_,e,_⟩:=x;exact⟨_,e⟩
 | ins C dx fs=>obtain⟨_,_,_,e,_⟩:=x;exact⟨_,e⟩
 | own y=>obtain⟨_,e⟩:=x;exact⟨_,e⟩
 | xd fs=>obtain⟨_,⟨_,_,_,e,_⟩,_⟩:=x;exact⟨_,e⟩
 | dY lo hi=>obtain⟨_,_,_,e⟩:=x;exact⟨_,e⟩
 | bT ob u=>obtain⟨e,_⟩:=x;exact⟨_,e⟩
 | gc ps=>exact⟨_,(show h.get? a=some _ from x)⟩
 | met f y=>exact⟨_,(show h.get? a=some _ from x)⟩
 | ext φ=>obtain⟨_,⟨_,e⟩,_⟩:=x;exact⟨_,e⟩
theorem b_.Hq{P:Program}{w:World}{H:Hp}{h h':Heap}(ok:b_ P w H h)(k: ∀b u,H b≠none→h.get? b=some u→h'.get? b=some u):b_ P w H h':=fun a o e=>
 (ok a o e).gW (fun b u hb hu=>k b u (by
  rcases hb with rfl | hb
  ·rw[e];exact Option.some_ne_none _
  ·rw[hb];exact Option.some_ne_none _) hu) (fun _ z=>z) (fun _ _ z=>z)
def eE(P:Program)(w:World):aL:=fun outer H s E e s'=> ∃(ea:Addr) (cls:Value) (t:Addr) (B:Heap) (H':Hp),
 e= .ref ea∧s'.os=s.os∧AllBare s'.gens∧Un (bX outer) [] H H' s.heap s'.heap∧b_ P w H' s'.heap∧Heap.FlyingW B outer ea cls (.ref t) s'.heap∧cN ea s'∧H' ea=none∧
 (∀b,H' b≠none→ ∀o,s'.heap.get? b=some o→B.get? b=some o)∧(∀b o,s.heap.get? b=some o→b∉bX outer→ ∀o',s'.heap.get? b=some o'→B.get? b=some o')∧E cls none H'
theorem Hr{P:Program}{w:World}{outer:List Env}{H:Hp}{s:Shared}{e:Value}{s':Shared}(h:eE P w outer H s E0 e s'):False:=by
 obtain⟨_,_,_,_,_,_,_,_,_,_,_,_,_,_,_,h⟩:=h
 exact h
section
variable {P:Program} {w:World} {K:PySem.W.Frag} {mg:Str→Option Value} {base:Heap} {N:List Str} {qual:Str} {scope:Scope} {f:Addr} {cd:Value} {A:Around} {outer:List Env} {s₀:Shared} {H₀:Hp} {E:XK}
theorem SX:Passes (eE P w) (jC (eE P w) P w K mg base N qual scope f cd A outer s₀ H₀ E) E:=by
 intro pins σ H s e s' I hx
 obtain⟨ea,cls,t,B,H',rfl,os,bare,u,aI,fl,vK,SY,c1,c2,hE⟩:=hx
 have vL:=I.ok.frames
 have hL:s₀.heap.objs.size≤ (envOfC qual scope s₀.heap.objs.size f cd).locals:=I.ok.above
 have nL: ∀b o,s₀.heap.get? b=some o→b∉bX outer→b∉bX (envOfC qual scope s₀.heap.objs.size f cd::outer):=fun b o hb hn hm=>by
  have vM:b∈ (envOfC qual scope s₀.heap.objs.size f cd).locals::bX outer:=hm
  rcases List.mem_cons.mp vM with rfl | z
  ·exact absurd (Heap.lt_size hb) (Nat.not_lt.mpr hL)
  ·exact hn z
 have nq: ∀b∈bX (envOfC qual scope s₀.heap.objs.size f cd::outer),H' b=none:=fun b hb=>by
  obtain⟨o,ho,_⟩:=(I.stack.mem hb).2
  exact u.free b o ho (I.pO b hb) List.not_mem_nil
 refine wpAny_mono (Hm Ho vK (wpAny_leaves_onW (Q:=fun _ g6=> ∃h',g6={s' with heap:=h'}∧Heap.FlyingW B outer ea cls (.ref t) h'∧s'.heap.UpToSlots h') (E:=fun _ _=>False) vL rfl fl fun h' gy up=> ⟨h',rfl,gy,up⟩))
  (fun _ g6 hq=> ?_) (fun _ _ z=>z.1.elim)
 obtain⟨⟨h',rfl,gy,up⟩,vN⟩:=hq
 have into: ∀b o,s.heap.get? b=some o→b∉bX (envOfC qual scope s₀.heap.objs.size f cd::outer)→ ∀o',s'.heap.get? b=some o'→h'.get? b=some o':=fun b o hb hn o' dZ=>gy.1 b o' (c2 b o hb hn o' dZ)
 have ju: ∀b o,H' b≠none→s'.heap.get? b=some o→h'.get? b=some o:=fun b o hb ho=>gy.1 b o (c1 b hb o ho)
 have jR: ∀b∈bX (envOfC qual scope s₀.heap.objs.size f cd::outer),∀o,s'.heap.get? b=some o→ ∃sl,h'.get? b=some {o with slots:=sl}:=fun b hb o ho=>by
  obtain⟨o1,n6,hd⟩:=(fl.2.2.1.mem hb).2
  rw[ho] at n6
  cases n6
  exact up b o ho hd
 refine⟨ea,cls,t,B,H',rfl,os.trans I.os,bare,⟨fun b o q n hn _=> ?_,fun b o q n hn _=> ?_,fun b o q n _=> ?_,fun b o q _=> ?_,fun b xs q=>u.cC b xs (I.base.cC b xs q),fun b o v q=>u.ej b o v (I.base.ej b o v q),fun b ps q=> ?_⟩,
  aI.Hq (fun b o hb ho=>ju b o hb ho),gy,vN,SY,fun b hb o ho=> ?_,fun b o q hn o' dZ=> ?_,hE⟩
 ·have q1:=I.base.keep b o q n hn List.not_mem_nil
  have n1:=I.base.free b o q n List.not_mem_nil
  have d9:=nL b o q hn
  exact into b o q1 d9 o (u.keep b o q1 n1 d9 List.not_mem_nil)
 ·obtain⟨sl,q1⟩:=I.base.slot b o q n hn List.not_mem_nil
  have n1:=I.base.free b o q n List.not_mem_nil
  have d9:b∈bX (envOfC qual scope s₀.heap.objs.size f cd::outer):=List.mem_cons_of_mem _ hn
  obtain⟨nF,q2⟩:=u.slot b _ q1 n1 d9 List.not_mem_nil
  obtain⟨n_,q3⟩:=jR b d9 _ q2
  exact⟨n_,q3⟩
 ·obtain⟨o1,q1⟩:=I.base.there b o q List.not_mem_nil
  exact u.free b o1 q1 (I.base.free b o q n List.not_mem_nil) List.not_mem_nil
 ·obtain⟨o1,q1⟩:=I.base.there b o q List.not_mem_nil
  obtain⟨o2,q2⟩:=u.there b o1 q1 List.not_mem_nil
  by_cases hm:b∈bX (envOfC qual scope s₀.heap.objs.size f cd::outer)
  ·obtain⟨sl,q3⟩:=jR b hm o2 q2
   exact⟨_,q3⟩
  ·exact⟨o2,into b o1 q1 hm o2 q2⟩
 ·obtain⟨m1,e1⟩:=I.base.eJ b ps q
  obtain⟨m2,e2⟩:=u.eJ b _ e1
  exact⟨m1++m2,by rw[e2,Array.append_assoc]⟩
 ·obtain⟨iP,hH⟩:=Option.ne_none_iff_exists'.mp hb
  obtain⟨o2,q2⟩:=(aI b iP hH).vJ
  have q3:=ju b o2 hb q2
  have fM:h'.get? b=some o:=ho
  rw[q3] at fM
  cases fM
  exact c1 b hb _ q2
 ·obtain⟨o1,q1⟩:=I.base.there b o q List.not_mem_nil
  obtain⟨o2,q2⟩:=u.there b o1 q1 List.not_mem_nil
  have d9:=nL b o q hn
  have q3:=into b o1 q1 d9 o2 q2
  have fM:h'.get? b=some o':=dZ
  rw[q3] at fM
  cases fM
  exact c2 b o1 q1 d9 _ q2
def Raises(X:Cx)(E:XK):Prop:= ∀(pins:List (Addr×Obj)) (σ:St) (H:Hp) (s:Shared) (h':Heap) (e:Addr) (cls:Value) (vs:List Value),Inv X pins σ H s→Heap.MadeExcOf s.heap h' e cls vs→E cls none H→X.xe (.ref e) {s with heap:=h'}
theorem S4:Raises (jC (eE P w) P w K mg base N qual scope f cd A outer s₀ H₀ E) E:=by
 intro pins σ H s h1 e cls vs I hx hE
 have vL:=I.ok.frames
 have hL:s₀.heap.objs.size≤ (envOfC qual scope s₀.heap.objs.size f cd).locals:=I.ok.above
 have nL: ∀b o,s₀.heap.get? b=some o→b∉bX outer→b∉bX (envOfC qual scope s₀.heap.objs.size f cd::outer):=fun b o hb hn hm=>by
  have vM:b∈ (envOfC qual scope s₀.heap.objs.size f cd).locals::bX outer:=hm
  rcases List.mem_cons.mp vM with rfl | z
  ·exact absurd (Heap.lt_size hb) (Nat.not_lt.mpr hL)
  ·exact hn z
 have mI: ∀env∈ (envOfC qual scope s₀.heap.objs.size f cd::outer),∀b,env.frame=some b→b∈bX (envOfC qual scope s₀.heap.objs.size f cd::outer):=fun env he b hb=>List.mem_filterMap.mpr ⟨env,he,hb⟩
 have vK:cN e {s with heap:=h1}:=by
  obtain⟨t,ht,_,_⟩:=hx.there
  exact⟨_,_,ht,rfl,rfl,rfl⟩
 refine wpAny_mono (Hm Ho vK (wpAny_leaves_madeW (Q:=fun _ g6=> ∃h' t,g6={s with heap:=h'}∧Heap.FlyingW (hideAll s.heap (bX (envOfC qual scope s₀.heap.objs.size f cd::outer))) outer e cls (.ref t) h'∧h1.UpToSlots h') (E:=fun _ _=>False)
  vL rfl (fun b o q=>of_hideAll _ q) (PySem.W.funFrames_hide I.stack mI) hx fun h' t gy _ _ up=> ⟨h',t,rfl,gy,up⟩)) (fun _ g6 hq=> ?_) (fun _ _ z=>z.1.elim)
 obtain⟨⟨h',t,rfl,gy,up⟩,vN⟩:=hq
 have into: ∀b o,s.heap.get? b=some o→b∉bX (envOfC qual scope s₀.heap.objs.size f cd::outer)→h'.get? b=some o:=fun b o hb hn=>gy.1 b o (hideAll_get _ hb hn)
 have vO: ∀b,H b≠none→b∉bX (envOfC qual scope s₀.heap.objs.size f cd::outer):=fun b hb hm=>hb (I.pO b hm)
 have jR: ∀b∈bX (envOfC qual scope s₀.heap.objs.size f cd::outer),∀o,s.heap.get? b=some o→ ∃sl,h'.get? b=some {o with slots:=sl}:=fun b hb o ho=>by
  obtain⟨o1,n6,hd⟩:=(I.stack.mem hb).2
  rw[ho] at n6
  cases n6
  exact up b o (hx.keeps b o ho) hd
 refine⟨e,cls,t,_,H,rfl,I.os,I.bare,⟨fun b o q n hn _=> ?_,fun b o q n hn _=> ?_,fun b o q n _=>I.base.free b o q n List.not_mem_nil,fun b o q _=> ?_,I.base.cC,I.base.ej,I.base.eJ⟩,
  I.aI.Hq (fun b o hb ho=>into b o ho (vO b hb)),gy,vN, ?_,fun b hb o ho=> ?_,fun b o q hn o' dZ=> ?_,hE⟩
 ·exact into b o (I.base.keep b o q n hn List.not_mem_nil) (nL b o q hn)
 ·obtain⟨sl,q1⟩:=I.base.slot b o q n hn List.not_mem_nil
  obtain⟨n_,q3⟩:=jR b (List.mem_cons_of_mem _ hn) _ q1
  exact⟨n_,q3⟩
 ·obtain⟨o1,q1⟩:=I.base.there b o q List.not_mem_nil
  by_cases hm:b∈bX (envOfC qual scope s₀.heap.objs.size f cd::outer)
  ·obtain⟨sl,q3⟩:=jR b hm o1 q1
   exact⟨_,q3⟩
  ·exact⟨o1,into b o1 q1 hm⟩
 ·cases q:H e with
  | none=>rfl
  | some ho=>
   obtain⟨o2,q2⟩:=(I.aI e ho q).vJ
   rw[hx.new] at q2
   cases q2
 ·obtain⟨iP,hH⟩:=Option.ne_none_iff_exists'.mp hb
  obtain⟨o2,q2⟩:=(I.aI b iP hH).vJ
  have q3:=into b o2 q2 (vO b hb)
  have fM:h'.get? b=some o:=ho
  rw[q3] at fM
  cases fM
  exact hideAll_get _ q2 (vO b hb)
 ·obtain⟨o1,q1⟩:=I.base.there b o q List.not_mem_nil
  have d9:=nL b o q hn
  have q3:=into b o1 q1 d9
  have fM:h'.get? b=some o':=dZ
  rw[q3] at fM
  cases fM
  exact hideAll_get _ q1 d9
end
section
variable {X:Cx}
theorem S5{x:Str}{C:Addr}{bm:List Value}{B newId mJ:String}{e:Expr}{es:List Expr}{t:TA}{np cW pos:Pos}{E:XK}(hc:X.calm=true)(O:OwnCls x C bm newId X.mg X.base)(FB:ExcBaseFacts B newId mJ bm)(S6:Gl X x)
  (hd:(x==("__debug__":Str))=false) (ha:PA X (e::es) t) (hs:starEach (e::es) X.env=(false,eval e X.env)::starEach es X.env) (h1:(backTo cW (starEach es X.env)).any (·.1)=false) (hR:Raises X E):
  PS X (.Raise (some (.Call (.Name x np) (e::es) [] cW)) none pos) (vv C E t):=by
 intro pins s σ H D I h
 obtain⟨tl,N,nm,q,bs,hdct,sn,sub,ab,col,dd,k0,k1,k2,k3,k5,mN,hC,hN,qN,T⟩:=O.obj
 have hg:PE X (.Name x np) (tC (.ref C)):=EV S6 O.bound rfl hd
 refine wpAny_Raise_call_subT (C:=C) (nm:=nm) (q:=q) (N:=N) (bs:=bs) (bm:=tl) (hdct:=hdct) (sn:=sn) (sub:=sub) (ab:=ab) (col:=col) (dd:=dd) (k0:=k0) (k1:=k1) (k2:=k2) (k3:=k3) (k5:=k5)
  FB (mN:=mN) (T.hasType FB.hasBase) (I.ok.hd hc) (by rw[hs];show(false || (backTo cW (starEach es X.env)).any (·.1))=false;rw[h1];rfl) qN
  (aW (hg pins s σ H (fun v H1=>v= .ref C∧vv C E t D σ H1) I ⟨rfl,h⟩) fun f s1 ⟨v,H1,I1,r1,ev,q1⟩=> ?_)
 subst ev
 obtain rfl:f=Value.ref C:=r1
 refine⟨rfl, ?_⟩
 have hA:=ha cW pins s1 σ H1 _ I1 q1
 rw[hs] at hA⊢
 refine Calls.evalArgs_plain (aW hA fun us s2 ⟨vs,H2,I2,r2,hl,q2⟩=> ⟨rfl, ?_,I2.bk _ _ hC,hN.keeps I2.bk,T.keeps I2.bk,fun h' e' hm=>hR pins σ H2 s2 h' e' _ _ I2 hm q2⟩)
 have:=r2.length
 show us.length≤sizeLine
 omega
end
section
variable {X:Cx}
end
def Hs(A:Around)(H:Hp):Prop:= ∃e D,A.handled=some (.ref e)∧ExcAt H e D
def Hd(X:Cx):Prop:=Hs X.A X.H₀
section
variable {X:Cx} {pins:List (Addr×Obj)} {σ:St} {H:Hp} {s:Shared}
end
section
variable {X:Cx} {tg:Expr}
end
structure vP (k:Nat) (A:Around):Prop where
 dp:A.depth+3*k+5<recursionLimit
 un:A.units+16*k+200<cLine
theorem ck.h{k:Nat}{A:Around}(r:ck k A):vP k A:=⟨r.dp,r.un⟩
def S7(outer:List Env)(P:Program)(w:World)(H:Hp)(s:Shared)(Q:VK)(r:Result)(s':Shared):Prop:=
 match r with
 | .ok (.ret u)=>CE outer P w H s Q u s'
 | _=>False
structure Ht (P:Program) (w:World) (K:PySem.W.Frag) (mg:Str→Option Value) (base:Heap) (k:Nat) (f:Addr) (fd:FuncData) (ps:List Str) (sp:Sp):Prop where
 len: ∀vs H Q E,sp vs H Q E→vs.length=ps.length
 run: ∀(A:Around) (outer:List Env) (s:Shared) (H:Hp) (args:Args) (us:List Value) (vs:List V) (Q:VK),vP k A→Hs A H→iN P w K mg base A outer s H→BindsTo s fd args (ps.zip us)→Vals vs us→sp vs H Q E0→
  codeAny (model P w) A (.call (.ref f) args) (S7 outer P w H s Q) s
section
variable {X:Cx} {k:Nat} {f:Addr} {fd:FuncData} {ps:List Str} {sp:Sp} {x:Str} {p pos:Pos} {e:Expr} {ta:TE} {hv:Option Addr}
end
def Hu(CX:aL)(X:Cx)(x:Str)(sp:Sp):Prop:=
 ∃k f fd ps,cm X.prog X.w X.K X.mg X.base CX k f fd ps sp∧ck k X.A∧X.mg x=some (.ref f)∧keepIn X.K (.ref f)=true∧Binds X.K fd ps []
def qO(CX:aL)(X:Cx)(C:Addr)(m:Str)(sp:Sp):Prop:=
 d5 X.K C∧ ∃k f fd ps,Meth X.K C m f∧cm X.prog X.w X.K X.mg X.base CX k f fd ps sp∧ck k X.A∧Binds X.K fd ps []
def Hv(CX:aL)(X:Cx)(x:Str)(C:Addr)(sp:Sp):Prop:=
 ∃k f fd ps,Mk X.K C f∧cm X.prog X.w X.K X.mg X.base CX k f fd ps sp∧ck (k+1) X.A∧X.mg x=some (.ref C)∧Binds X.K fd ps []
def Hw(X:Cx)(x:Str)(sp:Sp):Prop:=
 ∃k f fd ps,Ht X.prog X.w X.K X.mg X.base k f fd ps sp∧vP k X.A∧X.mg x=some (.ref f)∧keepIn X.K (.ref f)=true∧Binds X.K fd ps []
def Hx(X:Cx)(x:Str)(C:Addr):Prop:= ∃bm B newId mJ,OwnCls x C bm newId X.mg X.base∧ExcBaseFacts B newId mJ bm
structure Good (CX:aL) (S:cH) (Γ:aF) (X:Cx):Prop where
 N:X.N=S.N
 sc:X.env.scope=S.sc
 K:X.K=Γ.K
 calm:S.md=0→X.calm=true
 units:X.A.units+64<cLine
 fns:S.md=0→ ∀j x,S.fn[j]?=some x→Hu CX X x (Γ.fs j)
 qP: ∀j x,S.gn[j]?=some x→ ∃u,X.mg x=some u∧RelV (Γ.gv j) u
 gA: ∀x,S.bl.contains x=true→X.mg x=none
 pass:Passes CX X Γ.E
 qQ: ∀outer H s e s',CX outer H s E0 e s'→False
 qR: ∀p aM,Γ.sd p aM→ ∀h:Heap,X.K.In h→ ∃vs,KV aM vs∧h.DictOf (f_ X.prog X.w) p vs
 oe:S.md=0→ ∀j m,S.mn[j]?=some m→qO CX X (Γ.ms j).1 m (Γ.ms j).2
 og:S.md=0→ ∀j x,S.kn[j]?=some x→Hv CX X x (Γ.kt j).1 (Γ.kt j).2
 vQ: ∀j x,S.en[j]?=some x→Hx X x (Γ.ex j)
 vR: ∀j x,S.hn[j]?=some x→Hw X x (Γ.hs j)
 vS: ∀e,Γ.hv=some e→X.A.handled=some (.ref e)
 Hy:S.md=1→Hd X
theorem qS{S:cH}(h:(if S.md=0 then 0 else 2)=0):S.md=0:=by
 split at h
 ·assumption
 ·cases h
section
variable {CX:aL} {S:cH} {Γ:aF} {X:Cx}
theorem Good.inner(G:Good CX S Γ X)(c:nY)(ln:List Str)(fv:List (Str×Nat))(ex:List Addr)(C:Addr)(s:Shared)(H:Hp):
  Good CX (Hk S c ln fv) Γ.calm (eM X c.sc (ln++fv.map (·.1)) ex C s H) where
 N:=rfl
 sc:=by
  show relabel c.sc X.env=vC c.sc S.sc
  rw[←G.sc];rfl
 K:=G.K
 calm:=fun h=>G.calm (qS h)
 units:=G.units
 fns:=fun m j x h=>G.fns (qS m) j x h
 qP:=G.qP
 gA:=G.gA
 pass:=fun _ _ _ _ _ _ _ h=> (G.qQ _ _ _ _ _ h).elim
 qQ:=G.qQ
 qR:=G.qR
 oe:=fun z j m h=>G.oe (qS z) j m h
 og:=fun z j x h=>G.og (qS z) j x h
 vQ:=fun j x h=>by simp[Hk] at h
 vR:=fun j x h=>G.vR j x h
 vS:=fun e h=>G.vS e h
 Hy:=fun h=>by
  have h':(if S.md=0 then 0 else 2)=1:=h
  split at h'<;>cases h'
theorem Good.gl(G:Good CX S Γ X){x:Str}(h:iX S.sc x=true):Gl X x:=by
 show X.env.scope.names.lookup x=_
 rw[G.sc];exact Sx h
theorem dj{e:Expr}{es:List Expr}{env:Env}(h:noStar e=true):starEach (e::es) env=(false,eval e env)::starEach es env:=by
 cases e<;>first | rfl | cases h
theorem jG{o:Expr}{x:Str}{env:Env}(h:jP o=true):attributeBase o x env (eval o env)=eval o env:=by
 unfold attributeBase
 split
 ·cases h
 ·rfl
theorem vT{e:Expr}{env:Env}(h:nZ e=true): ∀x,foldedSetIterable e env x=pure x:=by
 intro x
 cases e<;>first | rfl | cases h
def d_(es:List Expr):Bool:=es.all noStar
theorem gB(env:Env)(pos:Pos): ∀(es:List Expr),d_ es=true→(backTo pos (starEach es env)).any (·.1)=false
 | [],h=>rfl
 | e::es,h=>by
  simp only[d_,List.all_cons,Bool.and_eq_true] at h
  rw[dj h.1]
  have ih:=gB env pos es h.2
  show(false || (backTo pos (starEach es env)).any (·.1))=false
  rw[ih];rfl
theorem qT(env:Env)(pos:Pos): ∀(es:List Expr),d_ es=true→(backTo pos (starEach es env)).all (fun x=> !x.1)=true
 | [],h=>rfl
 | e::es,h=>by
  simp only[d_,List.all_cons,Bool.and_eq_true] at h
  rw[dj h.1]
  have ih:=qT env pos es h.2
  show(!false && (backTo pos (starEach es env)).all (fun x=> !x.1))=true
  rw[ih];rfl
theorem dm{e:Expr}{es:List Expr}(h:d_ (e::es)=true):noStar e=true∧d_ es=true:=by
 simp only[d_,List.all_cons,Bool.and_eq_true] at h
 exact h
theorem S8(G:Good CX S Γ X){c:nY}{ln:List Str}{fv:List (Str×Nat)}(h:vE S c ln fv=true):
  hG X c.sc ln fv∧(∀x∈ln,c.sc.names.lookup x=some .local)∧(ln++fv.map (·.1)).Nodup∧nZ c.iter=true:=by
 simp only[vE,Bool.and_eq_true,decide_eq_true_eq,List.all_eq_true,Bool.or_eq_true] at h
 obtain⟨⟨⟨⟨⟨⟨⟨h1,h2⟩,h3⟩,h4⟩,h5⟩,h6⟩,h7⟩,h8⟩:=h
 refine⟨⟨h1,fun y hy=>h2 y hy,fun y hy hl=> ?_,fun y hy hf=> ?_,fun p hp=> ?_⟩,h6,h7,h8⟩
 ·rcases h3 y hy with z | z
  ·exact absurd hl z
  ·exact z
 ·show X.env.scope.names.lookup y.1=_∨X.env.scope.names.lookup y.1=_
  rw[G.sc]
  rcases h4 y hy with(z | z) | z
  ·exact absurd hf z
  ·exact .inl z
  ·exact .inr z
 ·rw[G.N];exact h5 p hp
theorem S9(hc:X.calm=true){c:nY}{tk:Option Nat}{ln:List Str}{fv:List (Str×Nat)}(h:vD tk c.tg=some ln)(hl: ∀x∈ln,c.sc.names.lookup x=some .local)(hn:(ln++fv.map (·.1)).Nodup):
  qw X c.sc ln fv c.tg tk:=by
 unfold vD at h
 split at h
 ·rename_i x p he
  cases h
  rw[he]
  exact Rx (hl x (by simp)) hn
 ·rename_i x p y q k pos he
  cases h
  rw[he]
  exact Rz hc (hl x (by simp)) (hl y (by simp)) hn
 ·cases h
theorem S_{xs:List V}{H:Hp}{Q:VK}{K:PySem.W.Frag}(h:jM K .int xs H Q):(∃i,xs=[.int i]∧Q (.int i) H)∨ ∃k,xs=[.bl k]∧Q (.int (if k then 1 else 0)) H:=by
 match xs,h with
 | [.int i],h=>exact .inl ⟨i,rfl,h⟩
 | [.bl k],h=>exact .inr ⟨k,rfl,h⟩
theorem Ta{K:PySem.W.Frag}{x:V}{H:Hp}{Q:Nat→Prop}(h:nO K x H Q): ∃n,Fw K x H n∧Q n:=by
 match x,h with
 | .str y,h=>exact⟨_,⟨h.1,rfl⟩,h.2⟩
 | .ref p, .inl ⟨xs,a,b⟩=>exact⟨_, .inl ⟨xs,a,rfl⟩,b⟩
 | .ref p, .inr ⟨xs,a,b⟩=>exact⟨_, .inr ⟨xs,a,rfl⟩,b⟩
inductive Tb (X:Cx) (b:hV):Prop where
 | fn (id:String) (hv:bootBuiltins b.nm=some (.builtin id)) (hc:bY X (.builtin id) (jM X.K b))
 | ty (T:String) (hv:bootBuiltins b.nm=some (.type T)) (hc:bY X (.type T) (jM X.K b))
theorem boot_min:bootBuiltins "min"=some (.builtin "min"):=by decide+kernel
theorem boot_max:bootBuiltins "max"=some (.builtin "max"):=by decide+kernel
theorem boot_abs:bootBuiltins "abs"=some (.builtin "abs"):=by decide+kernel
theorem boot_sum:bootBuiltins "sum"=some (.builtin "sum"):=by decide+kernel
theorem Hz:bootBuiltins "isinstance"=some (.builtin "isinstance"):=by decide+kernel
theorem Tc:bootBuiltins "int"=some (.type "int"):=by decide+kernel
theorem Td:bootBuiltins "list"=some (.type "list"):=by decide+kernel
theorem Te:bootBuiltins "tuple"=some (.type "tuple"):=by decide+kernel
theorem vU(f:Nat→Int)(lt:Nat→Nat→Bool)(h: ∀i j,lt i j=decide (f i<f j)): ∀n,argBest lt n≤n∧ ∀i,i≤n→f (argBest lt n)≤f i
 | 0=> ⟨Nat.le_refl _,fun i hi=>by
   obtain rfl:i=0:=by omega
   exact Int.le_refl _⟩
 | n+1=>by
  obtain⟨a,b⟩:=vU f lt h n
  have e:argBest lt (n+1)=if lt (n+1) (argBest lt n)=true then n+1 else argBest lt n:=rfl
  rw[e,h]
  split
  ·rename_i q
   have q:=of_decide_eq_true q
   refine⟨Nat.le_refl _,fun i hi=> ?_⟩
   by_cases z:i=n+1
   ·rw[z];exact Int.le_refl _
   ·have:=b i (by omega);omega
  ·rename_i q
   have q: ¬f (n+1) <f (argBest lt n):=fun z=>q (decide_eq_true z)
   refine⟨by omega,fun i hi=> ?_⟩
   by_cases z:i=n+1
   ·rw[z];omega
   ·exact b i (by omega)
theorem HA{xs:Array (Int×Tok)}{i:Nat}(h:i<xs.size):numAt xs i=xs[i].1:=by
 unfold numAt
 rw[Array.getElem?_eq_getElem h];rfl
theorem HB{xs:Array (Int×Tok)}{i:Nat}(h:i<xs.size):numAt xs i∈xs.toList.map (·.1):=by
 rw[HA h]
 exact List.mem_map.mpr ⟨xs[i],by simp,rfl⟩
theorem HC{xs:Array (Int×Tok)}{n:Int}(h:n∈xs.toList.map (·.1)): ∃i,i<xs.size∧n=numAt xs i:=by
 obtain⟨y,hy,rfl⟩:=List.mem_map.mp h
 obtain⟨i,hi,rfl⟩:=List.getElem_of_mem hy
 have iY:i<xs.size:=by simpa using hi
 exact⟨i,iY,by rw[HA iY];simp⟩
theorem HD{pins:List (Addr×Obj)}{σ:St}{H:Hp}{s:Shared}{p:Addr}{ns:List Int}(I:Inv X pins σ H s)(hq:aH X.K H p (ns.map V.int)): ∃xs:Array (Int×Tok),s.heap.IsList p (intItems xs)∧ns=xs.toList.map (·.1):=by
 obtain⟨its,rv,pl,hz⟩:=I.list hq
 have hi:=intsAre_of rv
 obtain⟨xs,hx⟩:=hi.allInts.items
 refine⟨xs,hx ▸ pl.isList, ?_⟩
 rw[←nums_intItems,←hx]
 exact(show numsOf its.toArray.toList=ns from hi.numsOf).symm
theorem Tf(hc:X.calm=true):bY X (.builtin "min") (fun xs H Q=> ∃(p:Addr) (ns:List Int),xs=[.ref p]∧aH X.K H p (ns.map V.int)∧ns≠ []∧ ∀m:Int,m∈ns→(∀n∈ns,m≤n)→Q (.int m) H):=by
 intro pins s σ H xs us Q I r h
 obtain⟨p,ns,rfl,hq,iZ,q⟩:=h
 obtain⟨u,rfl,ru⟩:=vals1 r
 cases ru
 obtain⟨xs,hl,rfl⟩:=HD I hq
 have sz:0<xs.size:=Nat.pos_of_ne_zero fun z=>iZ (by rw[Array.eq_empty_of_size_eq_zero z];rfl)
 refine min_intList (I.ok.hd hc) hl sz fun v h' tk hv hk=> ?_
 obtain⟨t,rfl⟩:=intItems_at hv
 obtain⟨b1,b2⟩:=vU (numAt xs) (fun i j=>decide (numAt xs i<numAt xs j)) (fun _ _=>rfl) (xs.size - 1)
 refine⟨.int _,H,I.kept (t':=tk) hk,⟨t,rfl⟩,q _ (HB (by omega)) fun n hn=> ?_⟩
 obtain⟨i,hi,rfl⟩:=HC hn
 exact b2 i (by omega)
theorem Tg(hc:X.calm=true):bY X (.builtin "max") (fun xs H Q=> ∃(p:Addr) (ns:List Int),xs=[.ref p]∧aH X.K H p (ns.map V.int)∧ns≠ []∧ ∀m:Int,m∈ns→(∀n∈ns,n≤m)→Q (.int m) H):=by
 intro pins s σ H xs us Q I r h
 obtain⟨p,ns,rfl,hq,iZ,q⟩:=h
 obtain⟨u,rfl,ru⟩:=vals1 r
 cases ru
 obtain⟨xs,hl,rfl⟩:=HD I hq
 have sz:0<xs.size:=Nat.pos_of_ne_zero fun z=>iZ (by rw[Array.eq_empty_of_size_eq_zero z];rfl)
 refine max_intList (I.ok.hd hc) hl sz fun v h' tk hv hk=> ?_
 obtain⟨t,rfl⟩:=intItems_at hv
 obtain⟨b1,b2⟩:=vU (fun i=> - numAt xs i) (fun i j=>decide (numAt xs i>numAt xs j)) (fun i j=>decide_eq_decide.mpr (by omega)) (xs.size - 1)
 refine⟨.int _,H,I.kept (t':=tk) hk,⟨t,rfl⟩,q _ (HB (by omega)) fun n hn=> ?_⟩
 obtain⟨i,hi,rfl⟩:=HC hn
 have:=b2 i (by omega)
 omega
theorem HE{x:Str}{acc:Array Value}(h:ItemsOf (SignAt x) acc x.cps.size):Vals (signs x) acc.toList:=by
 have go: ∀(l:List Nat) (us:List Value),us.length=l.length→(∀(j:Nat) (v:Value),us[j]?=some v→ ∃(c:Nat) (t:Tok),l[j]?=some c∧v=Value.str ⟨#[c]⟩ t)→Vals (l.map fun c=>V.str ⟨#[c]⟩) us:=by
  intro l
  induction l with
  | nil=>
   intro us hl _
   rw[List.length_eq_zero_iff.mp hl]
   exact .nil
  | cons c l ih=>
   intro us hl hv
   cases us with
   | nil=>cases hl
   | cons u us=>
    obtain⟨c',t,e1,e2⟩:=hv 0 u rfl
    have jI:c=c':=by simpa using e1
    subst jI
    exact .cons ⟨t,e2⟩ (ih us (by simpa using hl) fun j v hj=>by
     obtain⟨c2,t2,g1,g2⟩:=hv (j+1) v (by simpa using hj)
     exact⟨c2,t2,by simpa using g1,g2⟩)
 refine go x.cps.toList acc.toList ?_ fun j v hj=> ?_
 ·have:=h.1;simpa using this
 ·obtain⟨c,t,e1,e2⟩:=h.2 j v (by simpa using hj)
  exact⟨c,t,by simpa using e1,e2⟩
theorem HF(x:Str):(signs x).length=x.length:=by simp[signs,Str.length]
theorem Th(hc:X.calm=true):bY X (.type "list") (fun xs H Q=> ∃x,xs=[.str x]∧x.length≤sizeLine∧ ∀l,H l=none→Q (.ref l) (upd H l (.lst (signs x)))):=by
 intro pins s σ H xs us Q I r h
 obtain⟨x,rfl,hx,q⟩:=h
 obtain⟨u,rfl,t,rfl⟩:=vals1 r
 refine call_list_str (I.ok.hd hc) x t (fun h' tk u_ c' hk e vV=> ?_) hx
 have rv:=HE vV
 exact⟨.ref s.heap.objs.size,_,I.laid (t':=tk) hk (Nat.le_refl _) (show cu X.prog X.w _ h' _ (.lst (signs x)) from⟨by rw[HF];exact hx,u_.toList,c',rv,by simpa using e⟩),rfl,q _ (I.aI.fresh (Nat.le_refl _))⟩
theorem Ti(hc:X.calm=true):bY X (.type "tuple") (fun xs H Q=> ∃x,xs=[.str x]∧x.length≤sizeLine∧ ∀l,H l=none→Q (.ref l) (upd H l (.tup (signs x)))):=by
 intro pins s σ H xs us Q I r h
 obtain⟨x,rfl,hx,q⟩:=h
 obtain⟨u,rfl,t,rfl⟩:=vals1 r
 refine call_tuple_str (I.ok.hd hc) x t (fun h' tk acc hk vV=> ?_) hx
 have rv:=HE vV
 have I1:Inv X pins σ H {s with heap:=h',toks:=tk}:=I.kept (t':=tk) hk
 have I2:Inv X pins σ (upd H h'.objs.size (.tup (signs x))) {s with heap:=h'.push {cls:= .type "tuple",data:= .seq acc},toks:=tk}:=
  I1.laid (t':=tk) (fun b o e=>Heap.get?_push_of_some _ e) (Nat.le_refl _) (show cu X.prog X.w _ _ _ (.tup (signs x)) from⟨by rw[HF];exact hx,acc.toList,rv,by simpa using IsTup.new _ _⟩)
 exact⟨.ref h'.objs.size,_,I2,rfl,q _ (I1.aI.fresh (Nat.le_refl _))⟩
theorem Tj(hc:X.calm=true)(b:hV):Tb X b:=by
 cases b with
 | len=>exact .fn "len" boot_len (bY.imp O7 fun xs H Q h=>by
   match xs,h with
   | [x],h=>obtain⟨n,h1,h2⟩:=Ta (Q:=fun n=>Q (.int n) H) h;exact⟨x,n,rfl,h1,h2⟩)
 | min=>exact .fn "min" boot_min (bY.imp ((O5 hc).or (Tf hc)) fun xs H Q h=>by
   match xs,h with
   | [.int i, .int j],h=>exact .inl ⟨i,j,rfl,h⟩
   | [.ref p],⟨ns,h1,h2,h3⟩=>exact .inr ⟨p,ns,rfl,h1,h2,h3⟩)
 | max=>exact .fn "max" boot_max (bY.imp ((O4 hc).or (Tg hc)) fun xs H Q h=>by
   match xs,h with
   | [.int i, .int j],h=>exact .inl ⟨i,j,rfl,h⟩
   | [.ref p],⟨ns,h1,h2,h3⟩=>exact .inr ⟨p,ns,rfl,h1,h2,h3⟩)
 | sum=>exact .fn "sum" boot_sum (bY.imp (RV hc) fun xs H Q h=>by
   match xs,h with
   | [.ref p],⟨ns,h1,h2⟩=>exact⟨p,ns,rfl,h1,h2⟩)
 | abs=>exact .fn "abs" boot_abs (bY.imp O3 fun xs H Q h=>by
   match xs,h with
   | [.int i],h=>exact⟨i,rfl,h⟩)
 | int=>exact .ty "int" Tc (bY.imp O6 fun xs H Q h=>S_ h)
 | list=>exact .ty "list" Td (bY.imp (Qg.or (Th hc)) fun xs H Q h=>by
   match xs,h with
   | [.ref p],⟨ys,h1,h2⟩=>exact .inl ⟨p,ys,rfl,h1,h2⟩
   | [.str x],⟨h1,h2⟩=>exact .inr ⟨x,rfl,h1,h2⟩)
 | tuple=>exact .ty "tuple" Te (bY.imp (Qh.or (Ti hc)) fun xs H Q h=>by
   match xs,h with
   | [.ref p],⟨ys,h1⟩=>exact .inl ⟨p,ys,rfl,h1⟩
   | [.str x],⟨h1,h2⟩=>exact .inr ⟨x,rfl,h1,h2⟩)
structure Tn (X:Cx) (m:fK) (id:String):Prop where
 pa:PlainAttrs (qI m)
 slot:Slot (qI m) m.nm id
 ty:typeOf (.builtin id)=pure (.type "method_descriptor")
 mt:g8 X id (nW X.K m)
theorem To{P:Program}{w:World}{k:Key}{u:Value}(r:RelV (kV k) u):(f_ P w).is k u=true:=by
 cases k with
 | inl i=>obtain⟨t,e⟩:=(show ∃t,u=Value.int i t from r);subst e;exact NK P w i t
 | inr x=>obtain⟨t,e⟩:=(show ∃t,u=Value.str x t from r);subst e;exact NL P w x t
theorem Tp{aM:List (Key×V)}{vs:List (Key×Value)}(r:KV aM vs)(k:Key){v:V}(h:jN aM k=some v): ∃u,valueAt vs k=some u∧RelV v u:=by
 unfold KV at r
 induction r with
 | nil=>cases h
 | @cons p q ps qs hh t ih=>
  obtain⟨h1,h2⟩:=hh
  by_cases e:p.1=k
  ·have e':q.1=k:=h1.symm.trans e
   have b:valueAt (q::qs) k=some q.2:=by simp[valueAt,List.find?_cons,e']
   have a:jN (p::ps) k=some p.2:=by simp[jN,List.find?_cons,e]
   rw[a] at h
   cases h
   exact⟨_,b,h2⟩
  ·have e': ¬q.1=k:=fun z=>e (h1.trans z)
   have b:valueAt (q::qs) k=valueAt qs k:=by simp[valueAt,List.find?_cons,e']
   have a:jN (p::ps) k=jN ps k:=by simp[jN,List.find?_cons,e]
   rw[a] at h
   rw[b]
   exact ih h
theorem Tq{sd:Addr→List (Key×V)→Prop}(vW: ∀p aM,sd p aM→ ∀h:Heap,X.K.In h→ ∃vs,KV aM vs∧h.DictOf (f_ X.prog X.w) p vs):gi X (Hb sd):=by
 intro value slice pins s σ H x y v u Q I rx ry h hs
 obtain⟨p,aM,k,z,rfl,rfl,hq,he,q⟩:=h
 cases rx
 obtain⟨vs,r,dd⟩:=vW p aM hq s.heap I.cj
 obtain⟨w,ew,jD⟩:=Tp r k he
 exact subscriptTail_builtinR (x:=w) dd.mapOf.typeIs PySem.F.slot_dict_getitem.lookup
  (wpAny_getItem_of (Q:=fun r s'=>r=w∧EP X pins σ Q r s') (To ry) dd.mapOf ew ⟨rfl,z,H,I.tok _,jD,q⟩) hs
theorem Ts{sd:Addr→List (Key×V)→Prop}(vW: ∀p aM,sd p aM→ ∀h:Heap,X.K.In h→ ∃vs,KV aM vs∧h.DictOf (f_ X.prog X.w) p vs):gi X (iW X.K sd):=P5.or (P6.or (P7.or (Tq vW)))
theorem qU(y:Str): ∀{ts:List Str} {us:List Value},Vals (ts.map V.str) us→ ∀(j:Nat) (h1:j<us.length) (h2:j<ts.length),(Value.isStrOf y us[j]=(ts[j]==y))
 | [],_, .nil,j,h1,_=>absurd h1 (Nat.not_lt_zero _)
 | t::ts,_, .cons r rs,0,_,_=>by
  obtain⟨k,rfl⟩:=(show ∃k,_=Value.str t k from r)
  rfl
 | t::ts,_, .cons r rs,j+1,h1,h2=>qU y rs j (Nat.lt_of_succ_lt_succ h1) (Nat.lt_of_succ_lt_succ h2)
theorem HG{y:Str}: ∀{ts:List Str} {j:Nat},j<ts.idxOf y→ ∀(h2:j<ts.length),(ts[j]==y)=false
 | n::r,0,h,_=>by
  by_cases e:n=y
  ·subst e;simp at h
  ·simpa using e
 | n::r,j+1,h,h2=>by
  by_cases e:n=y
  ·subst e;simp at h
  ·have hb:(n==y)=false:=by simpa using e
   have h':j<r.idxOf y:=by
    rw[List.idxOf_cons,hb] at h
    exact Nat.lt_of_succ_lt_succ h
   exact HG h' (Nat.lt_of_succ_lt_succ h2)
theorem Tt:g8 X "list.index" (fun x vs H Q=> ∃(l:Addr) (y:Str) (ts:List Str),x= .ref l∧vs=[.str y]∧aH X.K H l (ts.map V.str)∧y∈ts∧Q (.int (ts.idxOf y:Nat)) H):=by
 intro pins s σ H x vs v us Q I rx rv h
 obtain⟨l,y,ts,rfl,rfl,hq,hy,q⟩:=h
 cases rx
 obtain⟨u,rfl,⟨t,rfl⟩⟩:=vals1 rv
 obtain⟨its,r,⟨⟨cls,dd,data,sl⟩,n,ho,hc,HH,hd⟩,hz⟩:=I.list hq
 simp only at hc hd
 subst hc hd
 have hlen:=r.length
 rw[List.length_map] at hlen hz
 have hj:ts.idxOf y<ts.length:=List.idxOf_lt_length_iff.mpr hy
 have hn:=iK
 refine call_meets PySem.F.slot_list_index ⟨_,ho,rfl⟩ PySem.F.entry_list_index (PySem.F.args_list_index_2 _ _)
  (PySem.SeqAt.list_indexAt l its.toArray n dd sl (.str y t) (Value.isStrOf y) (ts.idxOf y) (by simp;omega) (by omega) ?_ ?_) ⟨ho,fun z oh=> ?_,⟨.int _,H,I.tok _,⟨_,rfl⟩,q⟩⟩
 ·show Value.isStrOf y its[ts.idxOf y]=true
  rw[qU y r _ (by omega) hj]
  simpa using List.getElem_idxOf hj
 ·intro j vX bz
  show Value.isStrOf y its[j]=false
  rw[qU y r j (by simpa using vX) (by omega)]
  exact HG bz _
 ·have hm:z∈its:=by simpa using oh
  obtain⟨j,qW,rfl⟩:=List.getElem_of_mem hm
  have HI:j<ts.length:=by omega
  have e:=qU y r j qW HI
  obtain⟨k,ek⟩:=(r.get (i:=j) (x:= .str ts[j]) (by simp[HI]))
  obtain⟨Tu,k2,Tv⟩:=ek
  have Tw:its[j]= .str ts[j] k2:=by
   have:=List.getElem?_eq_getElem qW
   rw[Tu] at this
   exact(Option.some.inj this).symm.trans Tv
  rw[e,Tw]
  exact PySem.SeqAt.EqAt.str_str _ _ _ _
theorem HJ{x:V}: ∀{xs:List V} {us:List Value},Vals xs us→xs.all df=true→us.countP (cT x)=xs.countP fun y=>di y x
 | _,_, .nil,_=>rfl
 | y::xs,u::us, .cons r t,f=>by
  rw[List.all_cons,Bool.and_eq_true] at f
  rw[List.countP_cons,List.countP_cons,qm r f.1,HJ t f.2]
theorem Tx:g8 X "list.count" (fun x vs H Q=> ∃(l:Addr) (y:V) (xs:List V),x= .ref l∧vs=[y]∧aH X.K H l xs∧df y=true∧xs.all df=true∧Q (.int (xs.countP (fun z=>di z y):Nat)) H):=by
 intro pins s σ H x vs v us Q I rx rv h
 obtain⟨l,y,xs,rfl,rfl,hq,fy,fs,q⟩:=h
 cases rx
 obtain⟨u,rfl,ru⟩:=vals1 rv
 obtain⟨its,r,⟨⟨cls,dd,data,sl⟩,n,ho,hc,HH,hd⟩,hz⟩:=I.list hq
 simp only at hc hd
 subst hc hd
 rw[←HJ r fs] at q
 exact call_meets PySem.F.slot_list_count ⟨_,ho,rfl⟩ PySem.F.entry_list_count (PySem.F.args_list_count_2 _ _)
  (PySem.SeqAt.list_countAt l its.toArray n dd sl u (cT y)) ⟨ho,fun z oh=>jE ru fy r fs z (by simpa using oh),⟨.int _,H,I.tok _,⟨_,rfl⟩,q⟩⟩
theorem Tz:g8 X "list.index" (fun x vs H Q=> ∃(l:Addr) (y:V) (xs:List V),x= .ref l∧vs=[y]∧aH X.K H l xs∧df y=true∧xs.all df=true∧d6 y xs=true∧Q (.int (xs.findIdx (fun z=>di z y):Nat)) H):=by
 intro pins s σ H x vs v us Q I rx rv h
 obtain⟨l,y,xs,rfl,rfl,hq,fy,fs,mI,q⟩:=h
 cases rx
 obtain⟨u,rfl,ru⟩:=vals1 rv
 obtain⟨its,r,⟨⟨cls,dd,data,sl⟩,n,ho,hc,HH,hd⟩,hz⟩:=I.list hq
 simp only at hc hd
 subst hc hd
 have hlen:=r.length
 have e: ∀j (h1:j<its.length) (h2:j<xs.length),cT y its[j]=di xs[j] y:=fun j h1 h2=>by
  obtain⟨w,e1,r1⟩:=r.get (i:=j) (x:=xs[j]) (by simp[h2])
  have e2:=List.getElem?_eq_getElem h1
  rw[e1] at e2
  rw[←Option.some.inj e2]
  exact qm r1 (List.all_eq_true.mp fs _ (List.getElem_mem h2))
 have hj:xs.findIdx (fun z=>di z y) <xs.length:=List.findIdx_lt_length.mpr (List.any_eq_true.mp mI)
 have hn:=iK
 refine call_meets PySem.F.slot_list_index ⟨_,ho,rfl⟩ PySem.F.entry_list_index (PySem.F.args_list_index_2 _ _)
  (PySem.SeqAt.list_indexAt l its.toArray n dd sl u (cT y) (xs.findIdx fun z=>di z y) (by simp;omega) (by omega) ?_ ?_) ⟨ho,fun z oh=>jE ru fy r fs z (by simpa using oh),⟨.int _,H,I.tok _,⟨_,rfl⟩,q⟩⟩
 ·show cT y its[xs.findIdx fun z=>di z y]=true
  rw[e _ (by omega) hj]
  exact List.findIdx_getElem (w:=hj)
 ·intro j vX bz
  show cT y its[j]=false
  rw[e j (by simpa using vX) (by omega)]
  simpa using List.not_of_lt_findIdx bz
theorem TB(m:fK): ∃id,Tn X m id:=by
 cases m with
 | append=>exact⟨_,F.plainAttrs_list,F.slot_list_append,F.type_list_append,fun pins s σ H x xs v us Q I rx rv h=>by
   match x,xs,h with
   | .ref l,[y],⟨zs,h1,h2,h3⟩=>exact Qq pins s σ H _ _ v us Q I rx rv ⟨l,zs,y,rfl,rfl,h1,h2,h3⟩⟩
 | pop=>exact⟨_,F.plainAttrs_list,F.slot_list_pop,F.type_list_pop,fun pins s σ H x xs v us Q I rx rv h=>by
   match x,xs,h with
   | .ref l,[],⟨zs,y,h1,h2,h3⟩=>exact Qu pins s σ H _ _ v us Q I rx rv ⟨l,zs,y,rfl,rfl,h1,h2,h3⟩⟩
 | extend=>exact⟨_,F.plainAttrs_list,F.slot_list_extend,F.type_list_extend,fun pins s σ H x xs v us Q I rx rv h=>by
   match x,xs,h with
   | .ref l,[.ref b],⟨ys,zs,h1,h2,h3,h4⟩=>exact Qs pins s σ H _ _ v us Q I rx rv ⟨l,b,ys,zs,rfl,rfl,h1,h2,h3,h4⟩⟩
 | join=>exact⟨_,F.plainAttrs_str,F.slot_str_join,F.type_str_join,fun pins s σ H x xs v us Q I rx rv h=>by
   match x,xs,h with
   | .str z,[.ref p],⟨ts,h1,h2,h3⟩=>exact RW pins s σ H _ _ v us Q I rx rv ⟨z,p,ts,rfl,rfl,h1,h2,h3⟩⟩
 | lstrip=>exact⟨_,F.plainAttrs_str,F.slot_str_lstrip,F.type_str_lstrip,fun pins s σ H x xs v us Q I rx rv h=>by
   match x,xs,h with
   | .str z,[.str y],⟨h1,h2⟩=>exact RY pins s σ H _ _ v us Q I rx rv ⟨z,y,rfl,rfl,h1,h2⟩⟩
 | starts=>exact⟨_,F.plainAttrs_str,F.slot_str_startswith,F.type_str_startswith,fun pins s σ H x xs v us Q I rx rv h=>by
   match x,xs,h with
   | .str z,[.str y, .int i],h1=>exact R0 pins s σ H _ _ v us Q I rx rv ⟨z,y,i,rfl,rfl,h1⟩⟩
 | find=>exact⟨_,F.plainAttrs_str,F.slot_str_find,F.type_str_find,fun pins s σ H x xs v us Q I rx rv h=>by
   match x,xs,h with
   | .str z,[.str y],h1=>
    obtain⟨t,rfl⟩:=rx
    obtain⟨u,rfl,⟨t2,rfl⟩⟩:=vals1 rv
    exact call_gives F.slot_str_find (typeIs_str _ _ _) F.entry_str_find (F.args_str_find_2 _ _) (gives_str_find z y t t2) ⟨.int _,H,I.tok _,⟨_,rfl⟩,h1⟩
   | .str z,[.str y, .int i],h1=>
    obtain⟨t,rfl⟩:=rx
    obtain⟨u,w',rfl,⟨t2,rfl⟩,⟨t3,rfl⟩⟩:=vals2 rv
    exact call_gives F.slot_str_find (typeIs_str _ _ _) F.entry_str_find (F.args_str_find_3 _ _ _) (gives_str_find_from z y i t t2 t3) ⟨.int _,H,I.tok _,⟨_,rfl⟩,h1⟩⟩
 | count=>exact⟨_,F.plainAttrs_str,F.slot_str_count,F.type_str_count,fun pins s σ H x xs v us Q I rx rv h=>by
   match x,xs,h with
   | .str z,[.str y],h1=>
    obtain⟨t,rfl⟩:=rx
    obtain⟨u,rfl,⟨t2,rfl⟩⟩:=vals1 rv
    exact call_gives F.slot_str_count (typeIs_str _ _ _) F.entry_str_count (F.args_str_count_2 _ _) (gives_str_count z y t t2) ⟨.int _,H,I.tok _,⟨_,rfl⟩,h1⟩⟩
 | reverse=>exact⟨_,F.plainAttrs_list,F.slot_list_reverse,F.type_list_reverse,fun pins s σ H x xs v us Q I rx rv h=>by
   match x,xs,h with
   | .ref l,[],⟨zs,h1,h2⟩=>exact Qy pins s σ H _ _ v us Q I rx rv ⟨l,zs,rfl,rfl,h1,h2⟩⟩
 | index=>exact⟨_,F.plainAttrs_list,F.slot_list_index,F.type_list_index,fun pins s σ H x xs v us Q I rx rv h=>by
   match x,xs,h with
   | .ref l,[.str y],⟨ts,h1,h2,h3⟩=>exact Tt pins s σ H _ _ v us Q I rx rv ⟨l,y,ts,rfl,rfl,h1,h2,h3⟩⟩
 | vw=>exact⟨_,F.plainAttrs_list,F.slot_list_count,F.type_list_count,fun pins s σ H x xs v us Q I rx rv h=>by
   match x,xs,h with
   | .ref l,[y],⟨zs,h1,h2,h3,h4⟩=>exact Tx pins s σ H _ _ v us Q I rx rv ⟨l,y,zs,rfl,rfl,h1,h2,h3,h4⟩⟩
 | vx=>exact⟨_,F.plainAttrs_list,F.slot_list_index,F.type_list_index,fun pins s σ H x xs v us Q I rx rv h=>by
   match x,xs,h with
   | .ref l,[y],⟨zs,h1,h2,h3,h4,h5⟩=>exact Tz pins s σ H _ _ v us Q I rx rv ⟨l,y,zs,rfl,rfl,h1,h2,h3,h4,h5⟩⟩
 | clear=>exact⟨_,F.plainAttrs_list,F.slot_list_clear,F.type_list_clear,fun pins s σ H x xs v us Q I rx rv h=>by
   match x,xs,h with
   | .ref l,[],⟨zs,h1,h2⟩=>exact QC pins s σ H _ _ v us Q I rx rv ⟨l,zs,rfl,rfl,h1,h2⟩⟩
theorem TC{pins:List (Addr×Obj)}{σ:St}{H:Hp}{s:Shared}{T:Ty}{x:V}{u:Value}{Qb:Bool→Prop}{Q:Value→Shared→Prop}{E:Value→Shared→Prop}(I:Inv X pins σ H s)(rx:RelV x u)(h:bO T x H Qb)
  (hq: ∀b tk,Qb b→Q (.bool b) {s with toks:=tk}):wpAny (model X.prog X.w) X.A (call (.builtin "isinstance") [u, .type T.nm]) Q E s:=by
 match x,rx,h with
 | .ax,rx,h=>exact gh I rx (.ax) (RU _ T) fun tk=>hq _ _ h
 | .bl b,rx,h=>exact gh I rx (.bl b) (iS X.K .bool T) fun tk=>hq _ _ (by cases T<;>exact h)
 | .int i,rx,h=>exact gh I rx (.int i) (iS X.K .int T) fun tk=>hq _ _ (by cases T<;>exact h)
 | .str i,rx,h=>exact gh I rx (.str i) (iS X.K .str T) fun tk=>hq _ _ (by cases T<;>exact h)
 | .ref a,rx,h=>
  cases e:H a with
  | none=>simp only[bO,e] at h
  | some o=>
   match o,e with
   | .lst xs,e=>simp only[bO,e] at h;exact gh I rx (.lst e) (iS X.K .list T) fun tk=>hq _ _ (by cases T<;>exact h)
   | .bT ob (.lst xs),e=>simp only[bO,e] at h;exact gh I rx (.bT e) (iS X.K .list T) fun tk=>hq _ _ (by cases T<;>exact h)
   | .tup xs,e=>simp only[bO,e] at h;exact gh I rx (.tup e) (iS X.K .tuple T) fun tk=>hq _ _ (by cases T<;>exact h)
   | .dK xs,e=>simp only[bO,e] at h;exact gh I rx (.dK e) (iS X.K .dict T) fun tk=>hq _ _ (by cases T<;>exact h)
   | .dT xs,e=>simp only[bO,e] at h;exact gh I rx (.dT e) (iS X.K .dict T) fun tk=>hq _ _ (by cases T<;>exact h)
   | .set _ _,e=>simp only[bO,e] at h
   | .ins _ _ _,e=>simp only[bO,e] at h
   | .own _,e=>simp only[bO,e] at h
   | .xd _,e=>simp only[bO,e] at h
   | .met _ _,e=>simp only[bO,e] at h
   | .dY _ _,e=>simp only[bO,e] at h
   | .gc _,e=>simp only[bO,e] at h
   | .ext _,e=>simp only[bO,e] at h
   | .bT ob (.tup xs),e=>simp only[bO,e] at h
   | .bT ob (.dK xs),e=>simp only[bO,e] at h
   | .bT ob (.dT xs),e=>simp only[bO,e] at h
   | .bT ob (.set _ _),e=>simp only[bO,e] at h
   | .bT ob (.ins _ _ _),e=>simp only[bO,e] at h
   | .bT ob (.own _),e=>simp only[bO,e] at h
   | .bT ob (.xd _),e=>simp only[bO,e] at h
   | .bT ob (.met _ _),e=>simp only[bO,e] at h
   | .bT ob (.dY _ _),e=>simp only[bO,e] at h
   | .bT ob (.gc _),e=>simp only[bO,e] at h
   | .bT ob (.ext _),e=>simp only[bO,e] at h
   | .bT ob (.bT _ _),e=>simp only[bO,e] at h
theorem TF(T:Ty):bootBuiltins (Str.ofString T.nm)=some (.type T.nm):=by cases T<;>decide+kernel
theorem TH(T:Ty):bY X (.builtin "isinstance") (iV T):=by
 intro pins s σ H xs us Q I r h
 match xs,r,h with
 | [x, .ty n],r,⟨e,h⟩=>
  subst e
  obtain⟨u,w',rfl,ru,jD⟩:=vals2 r
  cases jD
  exact TC I ru h fun b tk hb=> ⟨.bl b,H,I.tok tk,rfl,hb⟩
theorem TJ{T:Ty}{a:Expr}{ta:TE}{p q pos:Pos}(ha:PE X a ta)(hs:noStar a=true)(hg:Gl X "isinstance")(hm:X.mg "isinstance"=none)(TK:Gl X (Str.ofString T.nm))(TL:X.mg (Str.ofString T.nm)=none):
  PE X (.Call (.Name "isinstance" p) [a, .Name (Str.ofString T.nm) q] [] pos) (cU (iV T) (cQ ta (cQ (tC (.ty T.nm)) fI))):=by
 have hT:PE X (.Name (Str.ofString T.nm) q) (tC (.ty T.nm)):=N5 TK TL (TF T) rfl (by cases T<;>decide) (by cases T<;>decide)
 exact uL (TH T) hg hm Hz (nA ha (nA hT qf rfl) (dj hs)) (by decide) (by decide) (dj hs) rfl
end
section
variable {X:Cx}
theorem TM:qk X (qK X.K):=by
 intro pins s σ H x v vl vu lo hi sl Q I rx hs pl pu h
 match x,rx,h with
 | .ref a,rx, .inl ⟨xs,h1,h2⟩=>exact Qc pins s σ H _ v vl vu lo hi sl Q I rx hs pl pu ⟨a,xs,rfl,h1,h2⟩
 | .ref a,rx, .inr ⟨xs,h1,h2,h3⟩=>exact PZ pins s σ H _ v vl vu lo hi sl Q I rx hs pl pu ⟨a,xs,rfl,h1,h2,h3⟩
 | .str z,rx,⟨h1,h2⟩=>
  obtain⟨t,rfl⟩:=rx
  obtain⟨l,el,ml⟩: ∃l:Option (Int×Tok),vl=partValue l∧l.map (·.1)=lo:=by
   cases pl with
   | none=>exact⟨none,rfl,rfl⟩
   | int i t=>exact⟨some (i,t),rfl,rfl⟩
  obtain⟨u,eu,mu⟩: ∃u:Option (Int×Tok),vu=partValue u∧u.map (·.1)=hi:=by
   cases pu with
   | none=>exact⟨none,rfl,rfl⟩
   | int i t=>exact⟨some (i,t),rfl,rfl⟩
  subst el eu
  refine⟨"str",_,F.slot_str_getitem.lookup,typeIs_str _ _ _, ?_⟩
  refine wpAny_getItem_str_slice (l:=l) (u:=u) (st:=none) hs rfl ?_
  obtain⟨b1,b2,b3⟩:=uR lo hi z.length
  have hp:slicePicked z l u none=(List.range (HT.bh z.length z.length hi - HT.bh z.length 0 lo)).map (HT.bh z.length 0 lo+ ·):=by
   show Builtin.Str.strSliceIndices (l.map (·.1)) (u.map (·.1)) 1 z.length=_
   rw[ml,mu]
   have e0:Builtin.Str.strSliceIndices lo hi 1 z.length=sliceRange (sliceBounds lo hi none z.length).1 (sliceBounds lo hi none z.length).2.1 (sliceBounds lo hi none z.length).2.2:=rfl
   rw[e0,b1,b2,b3,sliceRange_one]
  have hc:((slicePicked z l u none).filterMap (z.cps[·]?))=hJ z.cps.toList lo hi:=by
   show(Builtin.Str.strSliceIndices (l.map (·.1)) (u.map (·.1)) 1 z.length).filterMap (z.cps[·]?)=_
   rw[ml,mu,R1]
  have hz:z.cps.toList.length=z.length:=by simp[Str.length]
  have hA:=HT.uM z.length 0 (Nat.zero_le _) lo
  have hB:=HT.uM z.length z.length (Nat.le_refl _) hi
  unfold sliceMade
  refine post_val_or_made (fun _=> ?_) fun t' k=> ?_
  ·show(List.toArray ((slicePicked z l u none).filterMap (z.cps[·]?))).size≤sizeLine
   rw[hc,List.size_toArray]
   have:(hJ z.cps.toList lo hi).length≤z.cps.toList.length:=by unfold hJ;simp only[List.length_take,List.length_drop];omega
   omega
  ·have e:(if (((none:Option (Int×Tok)).map (·.1)).getD 1==1 && (slicePicked z l u none).length==z.length)=true then z else ⟨((slicePicked z l u none).filterMap (z.cps[·]?)).toArray⟩)=hU z lo hi:=by
    split
    ·rename_i hq
     simp only[Bool.and_eq_true,beq_iff_eq] at hq
     have eW:=hq.2
     rw[hp,List.length_map,List.length_range] at eW
     have a0:HT.bh z.length 0 lo=0:=by omega
     have b0:HT.bh z.length z.length hi=z.length:=by omega
     unfold hU hJ
     rw[hz,a0,b0,←hz,Nat.sub_zero,List.drop_zero,List.take_length]
    ·rw[hc];rfl
   rw[e]
   exact⟨.str _,H,I.tok k,⟨t',rfl⟩,h2⟩
theorem TN:pY X (unaryOp .USub) Ha:=by
 intro pins s σ H x v Q I rx h
 match x,rx,h with
 | .int i,rx,h=>exact OL pins s σ H _ v Q I rx ⟨i,rfl,h⟩
theorem TQ{a:Expr}{ta:TE}{pos:Pos}(ha:PE X a ta):PE X (.UnaryOp .Not a pos) (vz X.K ta):=by
 intro pins s σ H Q I h
 refine UnaryOp_ (aW (ha pins s σ H _ I h) fun v s1 ⟨x,H1,I1,r1,q1⟩=>not_of ?_)
 exact aW (Fv pins s1 σ H1 x v (fun b H2=>Q (.bl (!b)) H2) I1 r1 (G_ q1)) fun b s2 ⟨H2,I2,q2⟩=> ⟨.bl (!b),H2,I2,rfl,q2⟩
theorem qX{a:Expr}{ta:TE}(ha:PE X a ta)(he: ∀whole,isTrue a X.env whole=(do let v ←whole;standAt a.pos;holding [v] (truthy v))):PT X a (dz X.K ta):=by
 intro pins s σ H Q I h
 exact isTrue_plain (aW (ha pins s σ H _ I h) fun v s1 ⟨x,H1,I1,r1,q1⟩=>Fv pins s1 σ H1 x v Q I1 r1 (G_ q1)) (he _)
theorem TR{m:fK}{o e:Expr}{es:List Expr}{to:TE}{t:TA}{apos cW:Pos}(ho:PE X o to)(ha:PA X (e::es) t)(hb:jP o=true)(hl:(apos.endLine==cW.line)=true)(hn:(e::es).length<29)
  (hs:starEach (e::es) X.env=(false,eval e X.env)::starEach es X.env) (h1:(backTo cW (starEach es X.env)).any (·.1)=false) (h2:(backTo cW (starEach (e::es) X.env)).all (fun x=> !x.1)=true):
  PE X (.Call (.Attribute o m.nm apos) (e::es) [] cW) (qJ X.K m to t):=by
 obtain⟨id,M⟩:=TB (X:=X) m
 exact Gb M.pa M.slot M.ty M.mt ho ha (jG hb) (by
  rw[h2]
  show(true && true && decide ((e::es).length+0+0<30))=true
  rw[decide_eq_true (by omega)];rfl) hl hs h1
end
section
variable {X:Cx} {CX:aL}
theorem HK{o:Expr}{m:Str}{apos pos:Pos}{args:List Expr}{Q:Value→Shared→Prop}{E:Value→Shared→Prop}{A:Around}{s:Shared}{env:Env}{prog:Program}{w:World}
  (hb:jP o=true) (hl:(apos.endLine==pos.line)=true) (hn:args.length<29) (hf:(backTo pos (starEach args env)).all (fun x=> !x.1)=true)
  (h:wpAny (model prog w) A (eval o env) (fun ov s1=> ∀pl,wpAny (model prog w) A (getMethod ov m pl) (fun fx s2=>wpAny (model prog w) A (callWith pos fx.1 fx.2 (backTo pos (starEach args env)) (backToKw pos (keywordEach [] env))) Q E s2) E s1) E s):
  wpAny (model prog w) A (eval (.Call (.Attribute o m apos) args [] pos) env) Q E s:=by
 have TU:methodCallForm (args.length+0) (backTo pos (starEach args env)) (backToKw pos (keywordEach [] env))=true:=by
  show((backTo pos (starEach args env)).all (fun x=> !x.1) && true && decide (args.length+0+0<30))=true
  rw[hf,decide_eq_true (by omega)];rfl
 have line:methodCallPos true o env apos pos=pure pos:=by unfold methodCallPos;simp[hl]
 rw[arm_eval_Call,jG hb]
 refine wpAny_bind (wpAny_mono h (fun ov s1 h1=>wpAny_bind (wpAny_standAt ?_)) fun _ _ e=>e)
 unfold methodCall
 rw[show([]:List Keyword).length=0 from rfl,TU]
 refine wpAny_bind (wpAny_holding (wpAny_mono (h1 _) (fun fx s2 h2=> ?_) fun _ _ e=>e))
 exact wpAny_bind (wpAny_of_eq line h2)
theorem TV{o e:Expr}{es:List Expr}{to:TE}{t:TA}{apos pos:Pos}{C:Addr}{m:Str}{sp:Sp}{E:XK}(M:qO CX X C m sp)(hx:Passes CX X E)(ho:PE X o to)(ha:PA X (e::es) t)(hb:jP o=true)(hl:(apos.endLine==pos.line)=true)(hn:(e::es).length<29)
  (hs:starEach (e::es) X.env=(false,eval e X.env)::starEach es X.env) (h1:(backTo pos (starEach es X.env)).any (·.1)=false) (h2:(backTo pos (starEach (e::es) X.env)).all (fun x=> !x.1)=true):
  PE X (.Call (.Attribute o m apos) (e::es) [] pos) (jB C m sp [] E to t):=by
 obtain⟨c,k,f,fd,ps,hm,F,hr,vY⟩:=M
 intro pins s σ H Q I h
 refine HK hb hl hn h2 (aW (ho pins s σ H _ I h) fun u s1 ⟨x,H1,I1,rx,a,dx,fs,ex,ea,l,q⟩=>fun pl=> ?_)
 subst ex
 obtain rfl:u=Value.ref a:=rx
 refine FA I1 ea c hm l ?_
 refine callWith_K (first:=[.ref a]) (h₀:=X.base) I.ok.mod.nk hm.kp (aW (ha pos pins s1 σ H1 _ I1 q) fun us s2 ⟨vs,H2,I2,r,q2⟩=> ⟨I2.cj, ?_⟩) hs h1
 exact uK (us:= .ref a::us) (vs:= .ref a::vs) F hr vY .nil hx I2 (.cons rfl r) q2
theorem TX{o:Expr}{to:TE}{apos pos:Pos}{C:Addr}{m:Str}{sp:Sp}{E:XK}(M:qO CX X C m sp)(hx:Passes CX X E)(ho:PE X o to)(hb:jP o=true)(hl:(apos.endLine==pos.line)=true):
  PE X (.Call (.Attribute o m apos) [] [] pos) (jB C m sp [] E to fI):=by
 obtain⟨c,k,f,fd,ps,hm,F,hr,vY⟩:=M
 intro pins s σ H Q I h
 refine HK hb hl (by decide) rfl (aW (ho pins s σ H _ I h) fun u s1 ⟨x,H1,I1,rx,a,dx,fs,ex,ea,l,q⟩=>fun pl=> ?_)
 subst ex
 obtain rfl:u=Value.ref a:=rx
 refine FA I1 ea c hm l ?_
 exact callWith_K0 (first:=[.ref a]) I1.cj hm.kp (uK (us:=[.ref a]) (vs:=[.ref a]) F hr vY .nil hx I1 (.cons rfl .nil) q)
end
section
variable {prog:Program} {w:World} {A:Around} {E:Value→Shared→Prop} {s:Shared}
theorem HL{it l:Addr}{items:Array Value}(iZ:l≠it): ∀(n i:Nat) (s:Shared) (Q:List Value→Shared→Prop),s.heap.IsListIter it l i→s.heap.IsList l items→i+n≤items.size→
  (∀h',h'.IsListIter it l (i+n)→Heap.SameBut it s.heap h'→Q ((items.toList.drop i).take n) {s with heap:=h'})→wpAny (model prog w) A (draw (.ref it) n) Q E s
 | 0,i,s,Q,hit,_,_,hQ=>by
  show wpAny _ _ (pure []) Q E s
  exact wpAny_pure (by simpa using hQ s.heap hit (Heap.SameBut.refl ..))
 | n+1,i,s,Q,hit,ht,hle,hQ=>by
  have bz:i<items.size:=by omega
  show wpAny _ _ (pyNext (.ref it) >>=_) Q E s
  refine wpAny_bind (wpAny_pyNext_list_item hit ht (x:=items[i]) (by simp[bz]) fun h₁ vZ oi=> ?_)
  refine wpAny_bind (wpAny_holding (HL iZ n (i+1) _ _ vZ (ht.extBut oi.extBut iZ) (by omega) fun h₂ TY TZ=>wpAny_pure ?_))
  have hd:items.toList.drop i=items[i]::items.toList.drop (i+1):=by simp[List.drop_eq_getElem_cons,bz]
  have:=hQ h₂ (by rw[show i+ (n+1)=i+1+n by omega];exact TY) (oi.trans TZ)
  rw[hd,List.take_succ_cons] at this
  exact this
theorem T_{t:Addr}{items:Array Value}{Q:List Value→Shared→Prop}(hh:A.handled=none)(ht:s.heap.IsList t items)
  (hQ: ∀h',Heap.ExtBut s.heap.objs.size s.heap h'→Q items.toList {s with heap:=h'}):wpAny (model prog w) A (unpackItems (.ref t) items.size none) Q E s:=by
 have bz:t≠s.heap.objs.size:=by obtain⟨o,ho,_⟩:=ht;exact Nat.ne_of_lt (Heap.lt_size ho)
 unfold unpackItems
 refine wpAny_bind ?_
 ·unfold notIterableAtAll
  refine wpAny_bind (wpAny_specialOf ht.typeIs slot_list_iter.lookup ?_)
  refine wpAny_pure ?_
  simp only[Bool.false_eq_true,if_false]
  refine wpAny_bind (wpAny_holding (wpAny_pyIter_list ht ?_))
  refine wpAny_bind (wpAny_holding (HL bz items.size 0 _ _ ⟨_,Heap.get?_push_size _ rfl,rfl,rfl⟩ (ht.push _) (by omega) fun h₁ vZ oi=> ?_))
  have uW:List.take items.size (List.drop 0 items.toList)=items.toList:=by
   rw[List.drop_zero];exact List.take_of_length_le (by simp)
  rw[uW]
  rw[if_neg (by simp)]
  have Ua:h₁.IsList t items:=(ht.push _).extBut oi.extBut bz
  refine wpAny_bind (wpAny_holding (wpAny_pyNext_list_end hh vZ Ua (by simp) fun h₂ Ub=> ?_))
  simp only[Option.isSome_none,Bool.false_eq_true,if_false]
  refine wpAny_pure (hQ h₂ fun b o hb e=>Ub b o hb (oi.extBut b o hb (Heap.get?_push_of_some _ e)))
theorem Uc{env:Env}{elts:List Expr}{x1}{pos:Pos}{t:Addr}{items:Array Value}{Q:Unit→Shared→Prop}(hh:A.handled=none)(ht:s.heap.IsList t items)
  (hn:(assignEach elts env).length=items.size) (Ud:(assignEach elts env).findIdx? (·.1)=none)
  (h: ∀h',Heap.ExtBut s.heap.objs.size s.heap h'→wpAny (model prog w) A (assignInOrder ((assignEach elts env).map (·.2)) items.toList) Q E {s with heap:=h'}):
  wpAny (model prog w) A (assign (.Tuple elts x1 pos) env (.ref t)) Q E s:=by
 rw[assign_Tuple]
 refine wpAny_bind (wpAny_standAt ?_)
 unfold unpack
 rw[hn,Ud]
 exact wpAny_bind (wpAny_holding (T_ hh ht h))
end
def mK(K:PySem.W.Frag)(n:Nat)(t:gf):TG:=fun v σ H Q=> ∃a xs,v= .ref a∧(a_ K H a xs∨aH K H a xs)∧xs.length=n∧t xs σ H Q
theorem Ue{X:Cx}{es:List Expr}{k:Nat}{t:gf}{n:Nat}{pos:Pos}(hc:X.calm=true)(h:mw X es t)
  (hn:(assignEach es X.env).length=n) (pU:(assignEach es X.env).findIdx? (·.1)=none):PG X (.Tuple es k pos) (mK X.K n t):=by
 intro pins s σ H v u Q I r hw
 obtain⟨a,xs,e1,hq,hl,hw⟩:=hw
 rcases hq with hq | hq
 ·exact Fb hc h hn pU pins s σ H v u Q I r ⟨a,xs,e1,hq,hl,hw⟩
 ·subst e1
  cases r
  obtain⟨its,rv,ht,hz⟩:=I.list hq
  refine Uc (I.ok.hd hc) ht.isList (by simp[hn,←hl,rv.length]) pU fun h' hx=> ?_
  have I1:Inv X pins σ H {s with heap:=h'}:=I.kept (t':=s.toks) fun b o e=>hx b o (Nat.ne_of_lt (Heap.lt_size e)) e
  exact h pins _ σ H xs _ Q I1 (by simpa using rv) hw
def jS:List Nat→gf
 | []=>uu
 | i::r=>pT (eo i) (jS r)
def Ug(to:TE)(tl th:TO):TG:=fun v σ H Q=>to σ H fun o H1=>tl σ H1 fun i H2=>th σ H2 fun j H3=> ∃l b xs ys a c,o= .ref l∧v= .ref b∧i=some a∧j=some c∧H3 l=some (.lst xs)∧H3 b=some (.lst ys)∧l≠b∧
 0≤a∧a≤c∧c≤xs.length∧xs.length+ys.length≤sizeLine∧Q σ (upd H3 l (.lst (xs.take a.toNat++ys++xs.drop c.toNat)))
mutual
def bQ(Γ:aF):RS→TS
 | .asg i e=>jw (ah Γ e) (eo i)
 | .Sh i e=>jw (ah Γ e) (eo i)
 | .set o ix e=>jw (ah Γ e) (Fc (ah Γ o) (ah Γ ix) uQ)
 | .dput o i e=>QX (ah Γ o) (ah Γ i) (ah Γ e)
 | .drop e=>E5 (ah Γ e)
 | .ret e=>E6 (ah Γ e)
 | .Si=>Oh
 | .ite c t e=>E7 (br Γ c) (ar Γ t) (ar Γ e)
 | .eN i k its body=>pV (fL Γ k its) (eo i) (ar Γ body)
 | .mG is k its body=>pV (fL Γ k its) (mK Γ.K is.length (jS is)) (ar Γ body)
 | .iU c body=>Fd (br Γ c) (ar Γ body)
 | .pass=>uq
 | .brk=>Od
 | .cont=>E4
 | .never=>Oj
 | .Sj o lo hi e=>jw (ah Γ e) (Ug (ah Γ o) (qj (ah Γ lo)) (qj (ah Γ hi)))
 | .gu o f e=>uH Γ.K (ah Γ o) (ah Γ e) f
 | .Sk is e=>jw (ah Γ e) (mK Γ.K is.length (jS is))
 | .eO j as=>vv (Γ.ex j) Γ.E (bq Γ as)
 | .Sl n i j body su=>fun D σ H=> ∃C,Γ.gv j= .ref C∧R9 Γ.K C i n (fun E=>ar {Γ with E:=E} body) (fun ea=>ar {Γ with E:=E0,hv:=some ea} su) D σ H
def ar(Γ:aF):List RS→TS
 | []=>uq
 | s::r=>E3 (bQ Γ s) (ar Γ r)
end
def v7:Expr→Bool
 | .Slice ..=>false | _=>true
def qY:Expr→Bool
 | .ListComp ..=>false | .SetComp ..=>false | .DictComp ..=>false | _=>true
def mL(N:List Str)(sc:Scope):List Nat→List Str→Bool
 | [],xs=>xs.isEmpty
 | i::r,xs=>match xs with
  | []=>false
  | x::t=>decide (N[i]?=some x) && loc sc x && mL N sc r t
structure aP (CX:aL) (S:cH) (Γ:aF) (X:Cx):Prop extends Good CX S Γ X where
 nd:S.N.Nodup
 v8: ∀x,X.fn x=true
 own:PassesOwn (model X.prog X.w) X.A X.env X.xe
 Uh:X.env.scope.kind= .function
 rs: ∀(j:Nat) (x:Str),S.en[j]?=some x→Raises X Γ.E
 nq:X.stack=X.env::X.outer
 jR:X.env.frame=some X.env.locals
 Ui:X.ex=[]
 Uj:CX=eE X.prog X.w
def qV(S:cH)(i:Nat)(x:Str):Bool:=decide (S.N[i]?=some x) && vB S.sc x && !(x==("__debug__":Str)) && !(x==("__classdict__":Str))
def kG(S:cH)(j:Nat)(x:Str):Bool:=decide (S.gn[j]?=some x) && iX S.sc x && !(x==("__debug__":Str))
def kF(S:cH)(j:Nat)(x:Str):Bool:=decide (S.fn[j]?=some x) && iX S.sc x && !(x==("__debug__":Str))
def kK(S:cH)(j:Nat)(x:Str):Bool:=decide (S.kn[j]?=some x) && iX S.sc x && !(x==("__debug__":Str))
def kB(S:cH)(x y:Str):Bool:=decide (x=y) && iX S.sc x && S.bl.contains x
def kM(o:Expr)(m:Str)(x:Str)(n:Nat)(a c:Pos):Bool:=decide (x=m) && jP o && (a.endLine==c.line) && decide (n<29)
def kL(S:cH)(i:Nat)(x:Str):Bool:=decide (S.N[i]?=some x) && loc S.sc x
section
variable {CX:aL} {S:cH} {Γ:aF} {X:Cx} {e e2 a b c d:Expr} {es:List Expr} {x:Str} {p q pos:Pos} {r ra rb rc:RE} {rs:List RE} {i j:Nat}
theorem aa(G:Good CX S Γ X)(h:qV S i x=true:=by kernel_rfl):PE X (.Name x p) (ah Γ (.v i)):=by
 simp only[qV,Bool.and_eq_true,decide_eq_true_eq,Bool.not_eq_true'] at h
 exact N0 (by rw[G.N];exact h.1.1.1) (by rw[G.sc];exact Sw h.1.1.2) h.1.2 h.2
theorem ao{v:Int}{k:Nat}:PE X (.Constant (.int v) k p) (ah Γ (.c (.int v))):=N1
theorem ba{v:Str}{k:Nat}:PE X (.Constant (.str v) k p) (ah Γ (.c (.str v))):=N4
theorem hZ{v:Bool}{k:Nat}:PE X (.Constant (.bool v) k p) (ah Γ (.c (.bl v))):=N2
theorem dA{k:Nat}:PE X (.Constant .none k p) (ah Γ (.c .ax)):=N3
theorem HM(G:Good CX S Γ X)(h:kG S j x=true:=by kernel_rfl):PE X (.Name x p) (ah Γ (.g j)):=by
 simp only[kG,Bool.and_eq_true,decide_eq_true_eq,Bool.not_eq_true'] at h
 obtain⟨u,hm,r⟩:=G.qP j x h.1.1
 exact EV (G.gl h.1.2) hm r h.2
theorem aC{op:Operator}(G:Good CX S Γ X)(ha:PE X a (ah Γ ra))(hb:PE X b (ah Γ rb)):PE X (.BinOp a op b p) (ah Γ (.bin op ra rb)):=by
 show PE X _ (dc (jK Γ.K op) (ah Γ ra) (ah Γ rb))
 rw[←G.K]
 exact Fm (RC op) ha hb
theorem v9(ha:PE X a (ah Γ ra)):PE X (.UnaryOp .USub a p) (ah Γ (.neg ra)):=OD TN ha
theorem eY{op:CmpOp}(G:Good CX S Γ X)(ha:PE X a (ah Γ ra))(hb:PE X b (ah Γ rb))(hm:behindInMarks op b=false:=by kernel_rfl):PE X (.Compare a [op] [b] p) (ah Γ (.cmp op ra rb)):=by
 show PE X _ (dc (cn Γ.K op) (ah Γ ra) (ah Γ rb))
 rw[←G.K]
 exact OY (qG G.units op) ha hb hm
theorem Uk{op dy:CmpOp}(G:Good CX S Γ X)(ha:PE X a (ah Γ ra))(hb:PE X b (ah Γ rb))(hc:PE X c (ah Γ rc))(hm:lastMarks [op,dy] [b,c]=false:=by kernel_rfl):PE X (.Compare a [op,dy] [b,c] p) (ah Γ (.nV op dy ra rb rc)):=by
 show PE X _ (qc (cn Γ.K op) (cn Γ.K dy) (ah Γ ra) (ah Γ rb) (ah Γ rc))
 rw[←G.K]
 exact O0 (qG G.units op) (qG G.units dy) ha hb hc hm
theorem h9(h:PE X e (ah Γ r)):PE X (.BoolOp .And [e] p) (ah Γ (.and [r])):=N8 h
theorem gC{r2:RE}(h:PE X e (ah Γ r))(t:PE X (.BoolOp .And (e2::es) p) (ah Γ (.and (r2::rs)))):PE X (.BoolOp .And (e::e2::es) p) (ah Γ (.and (r::r2::rs))):=N9 h t
theorem v_(G:Good CX S Γ X)(ha:PE X a (ah Γ ra)):PE X (.UnaryOp .Not a p) (ah Γ (.not ra)):=by
 show PE X _ (vz Γ.K (ah Γ ra))
 rw[←G.K]
 exact TQ ha
theorem mM(hc:PT X c (br Γ rc))(ha:PE X a (ah Γ ra))(hb:PE X b (ah Γ rb)):PE X (.IfExp c a b p) (ah Γ (.hX rc ra rb)):=N_ hc ha hb
theorem aq:PA X [] (bq Γ []):=qf
theorem af(h:PE X e (ah Γ r))(t:PA X es (bq Γ rs))(hs:noStar e=true:=by kernel_rfl):PA X (e::es) (bq Γ (r::rs)):=nA h t (dj hs)
theorem aD(G:Good CX S Γ X)(hA:PA X (e::es) (bq Γ (r::rs)))(h:kF S j x=true:=by kernel_rfl)(hn:d_ (e::es)=true:=by kernel_rfl)(hq:S.md=0:=by rfl):PE X (.Call (.Name x p) (e::es) [] pos) (ah Γ (.call j (r::rs))):=by
 simp only[kF,Bool.and_eq_true,decide_eq_true_eq,Bool.not_eq_true'] at h
 obtain⟨k,f,fd,ps,F,hr,hm,hk,hb⟩:=G.fns hq j x h.1.1
 exact Pw F hr (G.gl h.1.2) hm hk hb .nil G.pass hA h.2 (dj (dm hn).1) (gB _ _ es (dm hn).2)
theorem Ul(G:Good CX S Γ X)(h:kK S j x=true:=by kernel_rfl)(hq:S.md=0:=by rfl):PE X (.Call (.Name x p) [] [] pos) (ah Γ (.make j [])):=by
 simp only[kK,Bool.and_eq_true,decide_eq_true_eq,Bool.not_eq_true'] at h
 obtain⟨k,f,fd,ps,M,F,hr,hm,hb⟩:=G.og hq j x h.1.1
 exact Py M F hr (G.gl h.1.2) hm hb .nil G.pass h.2
theorem HN(G:Good CX S Γ X)(hA:PA X (e::es) (bq Γ (r::rs)))(h:kK S j x=true:=by kernel_rfl)(hn:d_ (e::es)=true:=by kernel_rfl)(hq:S.md=0:=by rfl):PE X (.Call (.Name x p) (e::es) [] pos) (ah Γ (.make j (r::rs))):=by
 simp only[kK,Bool.and_eq_true,decide_eq_true_eq,Bool.not_eq_true'] at h
 obtain⟨k,f,fd,ps,M,F,hr,hm,hb⟩:=G.og hq j x h.1.1
 exact Px M F hr (G.gl h.1.2) hm hb .nil G.pass hA h.2 (dj (dm hn).1) (gB _ _ es (dm hn).2)
theorem cv{t:hV}(G:Good CX S Γ X)(hA:PA X (e::es) (bq Γ (r::rs)))(h:kB S x t.nm=true:=by kernel_rfl)(hn:d_ (e::es)=true:=by kernel_rfl)(hq:S.md=0:=by rfl):PE X (.Call (.Name x p) (e::es) [] pos) (ah Γ (.blt t (r::rs))):=by
 simp only[kB,Bool.and_eq_true,decide_eq_true_eq] at h
 obtain⟨⟨rfl,h2⟩,h3⟩:=h
 have n1:t.nm≠"__name__":=by cases t<;>decide
 have n2:(t.nm==("__debug__":Str))=false:=by cases t<;>decide
 show PE X _ (cU (jM Γ.K t) (bq Γ (r::rs)))
 rw[←G.K]
 cases Tj (X:=X) (G.calm hq) t with
 | fn id hv hc=>exact uL hc (G.gl h2) (G.gA _ h3) hv hA n1 n2 (dj (dm hn).1) (gB _ _ es (dm hn).2)
 | ty T hv hc=>exact PF hc (G.gl h2) (G.gA _ h3) hv hA n1 n2 (dj (dm hn).1) (gB _ _ es (dm hn).2)
theorem h_{T:Ty}{y:Str}(G:Good CX S Γ X)(ha:PE X a (ah Γ ra))(h:kB S x "isinstance"=true:=by kernel_rfl)(h2:kB S y (Str.ofString T.nm)=true:=by kernel_rfl)(hs:noStar a=true:=by kernel_rfl):PE X (.Call (.Name x p) [a, .Name y q] [] pos) (ah Γ (.dJ T ra)):=by
 simp only[kB,Bool.and_eq_true,decide_eq_true_eq] at h h2
 obtain⟨⟨rfl,g2⟩,g3⟩:=h
 obtain⟨⟨rfl,k2⟩,k3⟩:=h2
 exact TJ ha hs (G.gl g2) (G.gA _ g3) (G.gl k2) (G.gA _ k3)
theorem dq{m:fK}{o:Expr}{ro:RE}{ap:Pos}(G:Good CX S Γ X)(ho:PE X o (ah Γ ro))(hA:PA X (e::es) (bq Γ (r::rs)))(h:kM o m.nm x (es.length+1) ap pos=true:=by kernel_rfl)(hn:d_ (e::es)=true:=by kernel_rfl):PE X (.Call (.Attribute o x ap) (e::es) [] pos) (ah Γ (.b6 m ro (r::rs))):=by
 simp only[kM,Bool.and_eq_true,decide_eq_true_eq] at h
 obtain⟨⟨⟨rfl,h2⟩,h3⟩,h4⟩:=h
 show PE X _ (qJ Γ.K m (ah Γ ro) (bq Γ (r::rs)))
 rw[←G.K]
 exact TR ho hA h2 h3 h4 (dj (dm hn).1) (gB _ _ es (dm hn).2) (qT _ _ (e::es) hn)
theorem cp{f:Str}{ro:RE}(G:Good CX S Γ X)(ho:PE X a (ah Γ ro))(h:jP a=true:=by kernel_rfl):PE X (.Attribute a f p) (ah Γ (.fld ro f)):=by
 show PE X _ (qe Γ.K (ah Γ ro) f)
 rw[←G.K]
 exact Pm ho (jG h)
theorem i0{m:Str}{o:Expr}{ro:RE}{ap:Pos}(G:Good CX S Γ X)(ho:PE X o (ah Γ ro))(h:(kM o m m 0 ap pos && decide (S.mn[j]?=some m))=true:=by kernel_rfl)(hq:S.md=0:=by rfl):PE X (.Call (.Attribute o m ap) [] [] pos) (ah Γ (.bP j m ro [])):=by
 simp only[kM,Bool.and_eq_true,decide_eq_true_eq] at h
 obtain⟨⟨⟨⟨-,h2⟩,h3⟩, -⟩,h5⟩:=h
 exact TX (G.oe hq j _ h5) G.pass ho h2 h3
theorem cX{m:Str}{o:Expr}{ro:RE}{ap:Pos}(G:Good CX S Γ X)(ho:PE X o (ah Γ ro))(hA:PA X (e::es) (bq Γ (r::rs)))(h:(kM o m m (es.length+1) ap pos && decide (S.mn[j]?=some m))=true:=by kernel_rfl)(hn:d_ (e::es)=true:=by kernel_rfl)(hq:S.md=0:=by rfl):PE X (.Call (.Attribute o m ap) (e::es) [] pos) (ah Γ (.bP j m ro (r::rs))):=by
 simp only[kM,Bool.and_eq_true,decide_eq_true_eq] at h
 obtain⟨⟨⟨⟨-,h2⟩,h3⟩,h4⟩,h5⟩:=h
 exact TV (G.oe hq j _ h5) G.pass ho hA h2 h3 h4 (dj (dm hn).1) (gB _ _ es (dm hn).2) (qT _ _ (e::es) hn)
theorem Um(h:v7 b=true):FY b:=fun o i=>by cases b<;>first | rfl | cases h
theorem az(G:Good CX S Γ X)(ha:PE X a (ah Γ ra))(hb:PE X b (ah Γ rb))(h:v7 b=true:=by kernel_rfl):PE X (.Subscript a b p) (ah Γ (.ix ra rb)):=by
 show PE X _ (dc (iW Γ.K Γ.sd) (ah Γ ra) (ah Γ rb))
 rw[←G.K]
 exact P4 (Ts G.qR) ha hb (Um h)
theorem qZ{lo hi:Option Expr}{rl rh:Option RE}(G:Good CX S Γ X)(ha:PE X a (ah Γ ra))(hl:PO X lo (jO Γ rl))(hh:PO X hi (jO Γ rh)):PE X (.Subscript a (.Slice lo hi none q) p) (ah Γ (.sl ra rl rh)):=by
 show PE X _ (uN (qK Γ.K) (ah Γ ra) (jO Γ rl) (jO Γ rh))
 rw[←G.K]
 exact PX TM ha hl hh
theorem i5(ha:PE X a (ah Γ ra)):PO X (some a) (jO Γ (some ra)):=PV ha
theorem b7{k}(hA:PA X es (bq Γ rs)):PE X (.Tuple es k p) (ah Γ (.tup rs)):=Pq hA
theorem eP(hA:PA X es (bq Γ rs)):PE X (.List es p) (ah Γ (.lst rs)):=Pr hA
def wa(CX:aL)(S:cH)(Γ:aF)(cond:Option RE)(ifs:List Expr):Prop:=match cond with
 | none=>ifs=[]
 | some r=> ∃e0,ifs=[e0]∧ ∀X,Good CX S Γ X→PT X e0 (br Γ r)
theorem Uo:wa CX S Γ none []:=rfl
theorem HP(h: ∀X,Good CX S Γ X→PT X e (br Γ r)):wa CX S Γ (some r) [e]:=⟨e,rfl,h⟩
def kC(S:cH)(tk:Option Nat)(tg iter:Expr)(sc:Scope)(k:IK)(ln:List Str)(fv:List (Str×Nat)):Bool:=decide (vD tk tg=some ln) && (decide (k≠ .zip) || tk.isSome) && vE S ⟨.Constant .none 0 ⟨0,0,0,0⟩,tg,iter,[],sc⟩ ln fv
abbrev cS(S:cH)(sc:Scope)(ln:List Str)(fv:List (Str×Nat)):cH:={S with N:=ln++fv.map (·.1),sc:=vC sc S.sc,en:=[],md:=if S.md=0 then 0 else 2}
theorem wb{tk:Option Nat}{fv:List (Str×Nat)}{k:IK}{its:List RE}{cond:Option RE}{elt:RE}{el tg iter:Expr}{ifs:List Expr}{sc:Scope}{ln:List Str}(G:Good CX S Γ X)(h:kC S tk tg iter sc k ln fv=true)(hi:PI X tg iter (fL Γ k its))
  (hc:wa CX (cS S sc ln fv) Γ.calm cond ifs) (he: ∀X,Good CX (cS S sc ln fv) Γ.calm X→PE X el (ah Γ.calm elt)) (hq:S.md=0:=by rfl):PE X (.ListComp el [⟨tg,iter,ifs,0⟩] sc p) (ah Γ (.comp tk fv k its cond elt)):=by
 simp only[kC,Bool.and_eq_true,decide_eq_true_eq] at h
 obtain⟨⟨h1,h2⟩,h3⟩:=h
 obtain⟨o1,o2,o3,o4⟩:=S8 (c:=⟨.Constant .none 0 ⟨0,0,0,0⟩,tg,iter,[],sc⟩) G h3
 show PE X _ (qv Γ.K (fL Γ k its) tk fv (Hf Γ.calm cond) (ah Γ.calm elt))
 rw[←G.K]
 refine Rw o1 (G.calm hq) hi (S9 (c:=⟨.Constant .none 0 ⟨0,0,0,0⟩,tg,iter,[],sc⟩) (G.calm hq) h1 o2 o3) ?_ (fun ex C s H=>he _ (G.inner ⟨.Constant .none 0 ⟨0,0,0,0⟩,tg,iter,[],sc⟩ ln fv ex C s H)) (vT o4)
 cases cond with
 | none=>exact hc
 | some r=>
  obtain⟨e0,q,hq⟩:=hc
  exact⟨e0,q,fun ex C s H=>hq _ (G.inner ⟨.Constant .none 0 ⟨0,0,0,0⟩,tg,iter,[],sc⟩ ln fv ex C s H)⟩
theorem cY(h:PT X a (br Γ ra)):PT X (.UnaryOp .Not a p) (br Γ (.not ra)):=N6 h
theorem wc(h:PT X e (br Γ r)):PW X (.BoolOp .And [e] p) (br Γ (.and [r])):=pw_and1 h
theorem q8{r2:RE}(h:PT X e (br Γ r))(t:PW X (.BoolOp .And (e2::es) p) (br Γ (.and (r2::rs)))):PW X (.BoolOp .And (e::e2::es) p) (br Γ (.and (r::r2::rs))):=pw_and h t
theorem gE(h:PT X e (br Γ r)):PW X (.BoolOp .Or [e] p) (br Γ (.or [r])):=pw_or1 h
theorem eZ{r2:RE}(h:PT X e (br Γ r))(t:PW X (.BoolOp .Or (e2::es) p) (br Γ (.or (r2::rs)))):PW X (.BoolOp .Or (e::e2::es) p) (br Γ (.or (r::r2::rs))):=pw_or h t
theorem bf{op:CmpOp}(G:Good CX S Γ X)(ha:PE X a (ah Γ ra))(hb:PE X b (ah Γ rb))(hm:behindInMarks op b=false:=by kernel_rfl):PT X (.Compare a [op] [b] p) (br Γ (.cmp op ra rb)):=by
 show PT X _ (mB (dc (cn Γ.K op) (ah Γ ra) (ah Γ rb)))
 rw[←G.K]
 exact OZ (qG G.units op) ha hb hm
theorem Up(G:Good CX S Γ X)(h:PE X (.Name x p) (ah Γ (.v i))):PT X (.Name x p) (br Γ (.v i)):=by
 show PT X _ (dz Γ.K (ah Γ (.v i)))
 rw[←G.K]
 exact qX h fun _=>rfl
theorem dB(G:Good CX S Γ X)(h:PE X (.Call a es [] p) (ah Γ (.call j rs))):PT X (.Call a es [] p) (br Γ (.call j rs)):=by
 show PT X _ (dz Γ.K (ah Γ (.call j rs)))
 rw[←G.K]
 exact qX h fun _=>rfl
theorem we{T:Ty}(G:Good CX S Γ X)(h:PE X (.Call a es [] p) (ah Γ (.dJ T ra))):PT X (.Call a es [] p) (br Γ (.dJ T ra)):=by
 show PT X _ (dz Γ.K (ah Γ (.dJ T ra)))
 rw[←G.K]
 exact qX h fun _=>rfl
theorem ia{tg:Expr}(G:Good CX S Γ X)(ha:PE X a (ah Γ ra)):PI X tg a (fL Γ .list [ra]):=by
 show PI X tg a (ux Γ.K (ah Γ ra))
 rw[←G.K]
 exact Ox ha
theorem q9{tg:Expr}(G:Good CX S Γ X)(ha:PE X a (ah Γ ra))(h:kB S x "range"=true:=by kernel_rfl)(hs:noStar a=true:=by kernel_rfl):PI X tg (.Call (.Name x p) [a] [] pos) (fL Γ .dY [ra]):=by
 simp only[kB,Bool.and_eq_true,decide_eq_true_eq] at h
 obtain⟨⟨rfl,h2⟩,h3⟩:=h
 exact OA (G.gl h2) (G.gA _ h3) (nA ha qf (dj hs)) (dj hs)
theorem Uq{ts:List Expr}{k}{tp:Pos}(G:Good CX S Γ X)(ha:PE X a (ah Γ ra))(h:kB S x "enumerate"=true:=by kernel_rfl)(hs:noStar a=true:=by kernel_rfl):PI X (.Tuple ts k tp) (.Call (.Name x p) [a] [] pos) (fL Γ .vy [ra]):=by
 simp only[kB,Bool.and_eq_true,decide_eq_true_eq] at h
 obtain⟨⟨rfl,h2⟩,h3⟩:=h
 show PI X _ _ (vA Γ.K (cQ (ah Γ ra) (bq Γ [])))
 rw[←G.K]
 exact SH (G.gl h2) (G.gA _ h3) (nA ha qf (dj hs)) (dj hs)
end
section
variable {CX:aL} {S:cH} {Γ:aF} {X:Cx} {e a b c v:Expr} {es:List Expr} {x:Str} {p q pos:Pos} {r ra rb rc:RE} {i j:Nat} {st:Stmt} {HQ:List Stmt} {s:RS} {ss t u:List RS}
theorem wg{v:Expr}{t:Option Expr}{l:Nat}{env:Env}(h:qY v=true):swapsWith v t l env=pure false:=by
 cases v<;>first | rfl | cases h
theorem Ur{v:Expr}{x:Str}{p:Pos}{l:Nat}{env:Env}(h:env.kindOf x=some .cell):swapsWith v (some (.Name x p)) l env=pure false:=by
 cases v<;>first
  | rfl
  | (unfold swapsWith;simp only[h];have q:(some NameKind.cell==some NameKind.local)=false:=rfl;simp only[q,Bool.and_false,Bool.false_and])
theorem Us{v o i:Expr}{p:Pos}{l:Nat}{env:Env}:swapsWith v (some (.Subscript o i p)) l env=pure false:=by
 cases v<;>rfl
theorem Ut{v o i:Expr}{p:Pos}{env:Env}:swappedStores [.Subscript o i p] v env=pure none:=by
 cases v<;>rfl
theorem aP.name(G:aP CX S Γ X)(h:kL S i x=true):PG X (.Name x p) (eo i):=by
 simp only[kL,Bool.and_eq_true,decide_eq_true_eq] at h
 exact pS (by rw[G.N];exact G.nd) (by rw[G.N];exact h.1) (by rw[G.sc];exact Hi h.2) (.inl (G.v8 x))
theorem av:aY X [] (ar Γ []):=Ob
theorem ai(h:PS X st (bQ Γ s))(t:aY X HQ (ar Γ ss)):aY X (st::HQ) (ar Γ (s::ss)):=Oc h t
theorem aJ(G:aP CX S Γ X)(he:PE X v (ah Γ r))(h:kL S i x=true:=by kernel_rfl)(hc:(qY v || decide (S.sc.names.lookup x=some .cell))=true:=by kernel_rfl):PS X (.Assign [.Name x p] v q) (bQ Γ (.asg i r)):=by
 simp only[kL,Bool.and_eq_true,decide_eq_true_eq,Bool.or_eq_true] at h hc
 refine Oo (by rw[G.N];exact G.nd) (by rw[G.N];exact h.1) (by rw[G.sc];exact Hi h.2) he ?_ (.inl (G.v8 x))
 rcases hc with h4 | h4
 ·exact wg h4
 ·exact Ur (by show X.env.scope.names.lookup x=_;rw[G.sc];exact h4)
theorem Uu(he:PE X v (ah Γ r))(ha:PE X a (ah Γ ra))(hb:PE X b (ah Γ rb))(h:v7 b=true:=by kernel_rfl):PS X (.Assign [.Subscript a b p] v q) (bQ Γ (.set ra rb r)):=
 Om he (Ol ha hb set_list (by intro w;cases b<;>first | rfl | cases h)) (by exact Us (o:=a) (i:=b) (p:=p) (l:=q.line) (env:=X.env)) Ut rfl
theorem jT{f:Str}(G:aP CX S Γ X)(ho:PE X a (ah Γ ra))(he:PE X v (ah Γ r))(h:qY v=true:=by kernel_rfl):PS X (.Assign [.Attribute a f p] v q) (bQ Γ (.gu ra f r)):=by
 show PS X _ (uH Γ.K (ah Γ ra) (ah Γ r) f)
 rw[←G.K]
 exact Pn ho he (wg h)
theorem dM(he:PE X v (ah Γ r))(h:qY v=true:=by kernel_rfl):PS X (.Expr v p) (bQ Γ (.drop r)):=Of he (wg h)
theorem aV(he:PE X v (ah Γ r)):PS X (.Return (some v) p) (bQ Γ (.ret r)):=Og he
theorem bw{as bs:List Stmt}(hc:PT X c (br Γ rc))(ha:aY X as (ar Γ t))(hb:aY X bs (ar Γ u)):PS X (.If c as bs p) (bQ Γ (.ite rc t u)):=Oi hc ha hb
theorem oj{as:List Stmt}(G:aP CX S Γ X)(hc:PT X c (br Γ rc))(ha:aY X as (ar Γ t)):PS X (.While c as [] p) (bQ Γ (.iU rc t)):=Oq G.own hc ha
theorem i6{k:IK}{its:List RE}{iter:Expr}{as:List Stmt}(G:aP CX S Γ X)(hi:PI X (.Name x p) iter (fL Γ k its))(ha:aY X as (ar Γ t))(h:kL S i x=true:=by kernel_rfl)(hs:nZ iter=true:=by kernel_rfl)(hq:S.md=0:=by rfl):PS X (.For (.Name x p) iter as [] q) (bQ Γ (.eN i k its t)):=
 Fh G.own (G.calm hq) hi (G.name h) ha (vT hs)
theorem HR(G:aP CX S Γ X): ∀(is:List Nat) (xs:List (Str×Pos)),mL S.N S.sc is (xs.map (·.1))=true→
  mw X (xs.map fun y=> .Name y.1 y.2) (jS is)∧(assignEach (xs.map fun y=>Expr.Name y.1 y.2) X.env).length=is.length∧(assignEach (xs.map fun y=>Expr.Name y.1 y.2) X.env).findIdx? (·.1)=none
 | [],xs,h=>by
  simp only[mL,List.isEmpty_iff,List.map_eq_nil_iff] at h
  subst h;exact⟨E9,rfl,rfl⟩
 | i::r,[],h=>by simp only[List.map_nil,mL] at h;cases h
 | i::r,y::t,h=>by
  simp only[List.map_cons,mL,Bool.and_eq_true] at h
  obtain⟨i1,i2,i3⟩:=HR G r t h.2
  refine⟨uv (G.name (by simp only[kL,Bool.and_eq_true];exact h.1)) i1 rfl, ?_, ?_⟩
  ·show(assignEach _ X.env).length+1=r.length+1
   rw[i2]
  ·show List.findIdx? (·.1) ((false,assign (.Name y.1 y.2) X.env)::assignEach _ X.env)=none
   rw[List.findIdx?_cons,i3];rfl
theorem wj{is:List Nat}{k:IK}{its:List RE}{iter:Expr}{as:List Stmt}{kt}{tp:Pos}(xs:List (Str×Pos))(G:aP CX S Γ X)(hi:PI X (.Tuple (xs.map fun y=> .Name y.1 y.2) kt tp) iter (fL Γ k its))(ha:aY X as (ar Γ t))(h:mL S.N S.sc is (xs.map (·.1))=true:=by kernel_rfl)(hs:nZ iter=true:=by kernel_rfl)(hq:S.md=0:=by rfl):
  PS X (.For (.Tuple (xs.map fun y=> .Name y.1 y.2) kt tp) iter as [] q) (bQ Γ (.mG is k its t)):=by
 obtain⟨i1,i2,i3⟩:=HR G is xs h
 show PS X _ (pV (fL Γ k its) (mK Γ.K is.length (jS is)) (ar Γ t))
 rw[←G.K]
 exact Fh G.own (G.calm hq) hi (Ue (G.calm hq) i1 i2 i3) ha (vT hs)
def kX(S:cH)(j:Nat)(x:Str):Bool:=decide (S.en[j]?=some x) && iX S.sc x && !(x==("__debug__":Str))
theorem fN{rs:List RE}{np cW:Pos}(G:aP CX S Γ X)(hA:PA X (e::es) (bq Γ (r::rs)))(h:kX S j x=true:=by kernel_rfl)(hn:d_ (e::es)=true:=by kernel_rfl)(hq:S.md=0:=by rfl):PS X (.Raise (some (.Call (.Name x np) (e::es) [] cW)) none pos) (bQ Γ (.eO j (r::rs))):=by
 simp only[kX,Bool.and_eq_true,decide_eq_true_eq,Bool.not_eq_true'] at h
 obtain⟨bm,B,newId,mJ,O,FB⟩:=G.vQ j x h.1.1
 exact S5 (G.calm hq) O FB (G.gl h.1.2) h.2 hA (dj (dm hn).1) (gB _ _ es (dm hn).2) (G.rs j x h.1.1)
theorem Uv:PS X (.Continue p) (bQ Γ .cont):=Oe
end
section
variable {P:Program} {w:World} {K:PySem.W.Frag} {mg:Str→Option Value} {base:Heap}
def bE(P:Program)(w:World)(K:PySem.W.Frag)(mg:Str→Option Value)(base:Heap)(k:Nat)(x:Str)(sp:Sp):Prop:=
 ∃f fd ps,cm P w K mg base (eE P w) k f fd ps sp∧mg x=some (.ref f)∧keepIn K (.ref f)=true∧Binds K fd ps []
theorem bE.mono{j k:Nat}{x:Str}{sp:Sp}(h:bE P w K mg base j x sp)(hk:j≤k):bE P w K mg base k x sp:=by
 obtain⟨f,fd,ps,F,r⟩:=h
 exact⟨f,fd,ps,F.mono hk,r⟩
def i7(tab:List (Str×Sp))(j:Nat):Sp:=match tab[j]? with
 | some p=>p.2
 | none=>fun _ _ _ _=>False
def q_(tab:List (Str×V))(j:Nat):V:=match tab[j]? with
 | some p=>p.2
 | none=> .ax
structure jU (mg:Str→Option Value) (p:Str×V):Prop where
 ex: ∃u,mg p.1=some u∧RelV p.2 u
def gF(tab:List (Str×Addr×Sp))(j:Nat):Addr×Sp:=match tab[j]? with
 | some p=>p.2
 | none=> (0,fun _ _ _ _=>False)
def rf(tab:List (Str×Addr))(j:Nat):Addr:=match tab[j]? with
 | some p=>p.2
 | none=>0
abbrev aR(K:PySem.W.Frag)(tab:List (Str×Sp))(gt:List (Str×V))(dk:List (Addr×List (Key×V)):=[])(mt kt:List (Str×Addr×Sp):=[])(et:List (Str×Addr):=[])(ht:List (Str×Sp):=[])(E:XK:=E0):aF:=
 {K:=K,fs:=i7 tab,gv:=q_ gt,E:=E,sd:=fun p aM=> (p,aM)∈dk,ms:=gF mt,kt:=gF kt,ex:=rf et,hs:=i7 ht,hv:=none}
def dN(P:Program)(w:World)(K:PySem.W.Frag)(mg:Str→Option Value)(base:Heap)(k:Nat)(p:Str×Addr×Sp):Prop:=
 d5 K p.2.1∧ ∃f fd ps,Meth K p.2.1 p.1 f∧cm P w K mg base (eE P w) k f fd ps p.2.2∧Binds K fd ps []
def mO(P:Program)(w:World)(K:PySem.W.Frag)(mg:Str→Option Value)(base:Heap)(k:Nat)(p:Str×Addr×Sp):Prop:=
 ∃j f fd ps,j+1≤k∧Mk K p.2.1 f∧cm P w K mg base (eE P w) j f fd ps p.2.2∧mg p.1=some (.ref p.2.1)∧Binds K fd ps []
theorem dN.mono{j k:Nat}{p:Str×Addr×Sp}(h:dN P w K mg base j p)(hk:j≤k):dN P w K mg base k p:=by
 obtain⟨c,f,fd,ps,m,F,b⟩:=h
 exact⟨c,f,fd,ps,m,F.mono hk,b⟩
theorem mO.mono{j k:Nat}{p:Str×Addr×Sp}(h:mO P w K mg base j p)(hk:j≤k):mO P w K mg base k p:=by
 obtain⟨i,f,fd,ps,m,r⟩:=h
 exact⟨i,f,fd,ps,Nat.le_trans m hk,r⟩
def Uw(P:Program)(w:World)(K:PySem.W.Frag)(q:Addr×List (Key×V)):Prop:= ∀h:Heap,K.In h→ ∃vs,KV q.2 vs∧h.DictOf (f_ P w) q.1 vs
abbrev aX(N:List Str)(sc:Scope)(tab:List Str)(gt:List Str)(bl:List Str)(mn kn:List Str:=[])(en hn:List Str:=[])(md:Nat:=0):cH:={N:=N,sc:=sc,fn:=tab,gn:=gt,bl:=bl,mn:=mn,kn:=kn,en:=en,hn:=hn,md:=md}
def mP(mg:Str→Option Value)(base:Heap)(p:Str×Addr):Prop:= ∃bm B newId mJ,OwnCls p.1 p.2 bm newId mg base∧ExcBaseFacts B newId mJ bm
def Ux(P:Program)(w:World)(K:PySem.W.Frag)(mg:Str→Option Value)(base:Heap)(k:Nat)(x:Str)(sp:Sp):Prop:=
 ∃f fd ps,Ht P w K mg base k f fd ps sp∧mg x=some (.ref f)∧keepIn K (.ref f)=true∧Binds K fd ps []
theorem bC{x qual:Str}{st:Stmt}{f:Addr}{fd:FuncData}{N ps:List Str}{k:Nat}{sp:Sp}(F:nP K x qual st f fd)(S:bj N ps (au st))
  (tab:List (Str×Sp)) (gt:List (Str×V)) (bl:List Str) (mt kt:List (Str×Addr×Sp)) (et:List (Str×Addr)) (ht:List (Str×Sp)) (body:List RS)
  (hm: ∀{CX:aL} {Γ:aF} {X:Cx},aP CX (aX N (au st) (tab.map (·.1)) (gt.map (·.1)) bl (mt.map (·.1)) (kt.map (·.1)) (et.map (·.1)) (ht.map (·.1))) Γ X→aY X (aA st) (ar Γ body))
  (Uy: ∀p∈tab,bE P w K mg base k p.1 p.2) (Uz: ∀p∈gt,jU mg p) (UA: ∀y∈bl,mg y=none) (dk:List (Addr×List (Key×V))) (UB: ∀q∈dk,Uw P w K q)
  (UC: ∀p∈mt,dN P w K mg base k p) (UD: ∀p∈kt,mO P w K mg base k p) (het: ∀p∈et,mP mg base p) (UE: ∀p∈ht,Ux P w K mg base k p.1 p.2)
  (len: ∀vs H Q E,sp vs H Q E→vs.length=ps.length)
  (UG: ∀vs H Q E,sp vs H Q E→ar (aR K tab gt dk mt kt et ht E) body {nx:=fun _ H'=>Q .ax H',rt:=Q} (start N vs) H):cm P w K mg base (eE P w) (k+1) f fd ps sp:=by
 obtain⟨oc,od,kV,doc,pm,an,cR,ct,g7,rfl,lk,fF⟩:=F.ex
 refine FN lk fF S len fun A outer s H vs Q E hr iO=> ⟨_,hm (CX:=eE P w) (Γ:=aR K tab gt dk mt kt et ht E) ?_,UG vs H Q E iO⟩
 refine {N:=rfl,sc:=rfl,K:=rfl,calm:=fun _=>rfl,units:=hr.units,fns:=fun _ j y hj=> ?_,qP:=fun j y hj=> ?_,gA:=fun y hy=> ?_,pass:=SX,qQ:=fun _ _ _ _ _ h=>Hr h,qR:=fun p aM h=>UB _ h,oe:=fun _ j y hj=> ?_,og:=fun _ j y hj=> ?_,vQ:=fun j y hj=> ?_,vR:=fun j y hj=> ?_,vS:=fun _ h=> (nomatch h),Hy:=fun h=> (nomatch h),nd:=S.nd,v8:=fun _=>rfl,own:=PassesOwn.leaving,Uh:=S.kind,rs:=fun _ _ _=>S4,nq:=rfl,jR:=rfl,Ui:=rfl,Uj:=rfl}
 ·have bF:(tab.map (·.1))[j]?=some y:=hj
  rw[List.getElem?_map] at bF
  cases q:tab[j]? with
  | none=>rw[q] at bF;cases bF
  | some p=>
   rw[q] at bF
   have e:p.1=y:=Option.some.inj bF
   obtain⟨f',jV,jW,F',m',k',b'⟩:=Uy p (List.mem_of_getElem? q)
   have es:i7 tab j=p.2:=by unfold i7;rw[q]
   show Hu (eE P w) _ y (i7 tab j)
   rw[es,←e]
   exact⟨k,f',jV,jW,F',hr,m',k',b'⟩
 ·have bF:(gt.map (·.1))[j]?=some y:=hj
  rw[List.getElem?_map] at bF
  cases q:gt[j]? with
  | none=>rw[q] at bF;cases bF
  | some p=>
   rw[q] at bF
   have e:p.1=y:=Option.some.inj bF
   obtain⟨u,h1,h2⟩:=(Uz p (List.mem_of_getElem? q)).ex
   have es:q_ gt j=p.2:=by unfold q_;rw[q]
   show ∃u,mg y=some u∧RelV (q_ gt j) u
   rw[es,←e]
   exact⟨u,h1,h2⟩
 ·exact UA y (by simpa using hy)
 ·have bF:(mt.map (·.1))[j]?=some y:=hj
  rw[List.getElem?_map] at bF
  cases q:mt[j]? with
  | none=>rw[q] at bF;cases bF
  | some p=>
   rw[q] at bF
   have e:p.1=y:=Option.some.inj bF
   obtain⟨c,f',jV,jW,m',F',b'⟩:=UC p (List.mem_of_getElem? q)
   have es:gF mt j=p.2:=by unfold gF;rw[q]
   show qO (eE P w) _ (gF mt j).1 y (gF mt j).2
   rw[es,←e]
   exact⟨c,k,f',jV,jW,m',F',hr,b'⟩
 ·have bF:(kt.map (·.1))[j]?=some y:=hj
  rw[List.getElem?_map] at bF
  cases q:kt[j]? with
  | none=>rw[q] at bF;cases bF
  | some p=>
   rw[q] at bF
   have e:p.1=y:=Option.some.inj bF
   obtain⟨i,f',jV,jW,hi,m',F',g',b'⟩:=UD p (List.mem_of_getElem? q)
   have es:gF kt j=p.2:=by unfold gF;rw[q]
   show Hv (eE P w) _ y (gF kt j).1 (gF kt j).2
   rw[es,←e]
   exact⟨i,f',jV,jW,m',F',hr.mono hi,g',b'⟩
 ·have bF:(et.map (·.1))[j]?=some y:=hj
  rw[List.getElem?_map] at bF
  cases q:et[j]? with
  | none=>rw[q] at bF;cases bF
  | some p=>
   rw[q] at bF
   have e:p.1=y:=Option.some.inj bF
   have es:rf et j=p.2:=by unfold rf;rw[q]
   show Hx _ y (rf et j)
   rw[es,←e]
   exact het p (List.mem_of_getElem? q)
 ·have bF:(ht.map (·.1))[j]?=some y:=hj
  rw[List.getElem?_map] at bF
  cases q:ht[j]? with
  | none=>rw[q] at bF;cases bF
  | some p=>
   rw[q] at bF
   have e:p.1=y:=Option.some.inj bF
   obtain⟨f',jV,jW,F',m',k',b'⟩:=UE p (List.mem_of_getElem? q)
   have es:i7 ht j=p.2:=by unfold i7;rw[q]
   show Hw _ y (i7 ht j)
   rw[es,←e]
   exact⟨k,f',jV,jW,F',hr.h,m',k',b'⟩
section
variable {x qual:Str} {st:Stmt} {f C:Addr} {fd:FuncData} {N ps:List Str} {k:Nat} {sp:Sp}
end
theorem om{x qual:Str}{st:Stmt}{f:Addr}{fd:FuncData}{N ps:List Str}{k:Nat}{sp:Sp}(F:nP K x qual st f fd)(S:bj N ps (au st))(jF:mg x=some (.ref f))(hb:Binds K fd ps [])
  (no: ∀vs H Q E,¬sp vs H Q E):bE P w K mg base (k+1) x sp:=
 by
 obtain⟨oc,od,kV,doc,pm,an,cR,ct,g7,rfl,lk,fF⟩:=F.ex
 exact⟨f,_,ps,FN lk fF S (fun vs H Q E h=> (no vs H Q E h).elim) (fun A outer s H vs Q E hr h=> (no vs H Q E h).elim),jF,F.kp,hb⟩
end
section
variable {P:Program} {w:World} {K:PySem.W.Frag} {mg:Str→Option Value} {base:Heap} {x qual:Str} {st:Stmt} {f:Addr} {fd:FuncData} {N ps:List Str} {k:Nat} {sp:Sp}
theorem cm.top{k:Nat}(F:cm P w K mg base (eE P w) k f fd ps sp):cm P w K mg base qt k f fd ps (fun vs H Q _=>sp vs H Q E0):=
 ⟨fun vs H Q E h=>F.len vs H Q E0 h,fun A outer s H args us vs Q E hr e0 hb hv hs=>codeAny_mono (F.run A outer s H args us vs Q E0 hr e0 hb hv hs) fun r s' h=>by
  cases r with
  | error e=>exact(Hr h).elim
  | ok fl=>cases fl<;>exact h⟩
end
section
variable {Γ:aF} {D:Ends} {σ:St} {H:Hp} {r:List RS} {Q:VK}
theorem HS{i:Nat}{e:RE}(h:ah Γ e σ H fun x H1=>ar Γ r D (σ.set i (some x)) H1):ar Γ (.asg i e::r) D σ H:=h
theorem HU{b:hV}{as:List RE}(h:bq Γ as σ H fun vs H1=>jM Γ.K b vs H1 Q):ah Γ (.blt b as) σ H Q:=h
theorem HV{a:RE}{Q:List V→Hp→Prop}(h:ah Γ a σ H fun x H1=>Q [x] H1):bq Γ [a] σ H Q:=h
end
end L2
namespace L2.B
open PySem PySem.Spec PyProof.Rows
def wk:List Str:=["thing"]
def HW:List Str:=["thing"]
noncomputable def wm:List RS:=
 [.ret (.and [(.dJ .int (.v 0)),(.not (.dJ .bool (.v 0)))])]
def UH:List Str:=[]
def UI:List Str:=[]
def HX:List Str:=["isinstance","int","bool"]
def UJ:List Str:=[]
def UK:List Str:=[]
def UL:List Str:=[]
def UM:List Str:=[]
def rg:List Str:=["thing","words"]
def HY:List Str:=["thing","words"]
noncomputable def rj:List RS:=
 [.ret (.and [(.dJ .str (.v 0)),(.cmp .In (.v 0) (.v 1))])]
def UN:List Str:=[]
def UO:List Str:=[]
def HZ:List Str:=["isinstance","str"]
def UP:List Str:=[]
def UQ:List Str:=[]
def UR:List Str:=[]
def US:List Str:=[]
def rk:List Str:=["thing"]
def H9:List Str:=["thing"]
noncomputable def rm:List RS:=
 [.ret (.and [(.dJ .str (.v 0)),(.cmp .Eq (.b6 .lstrip (.v 0) [(.g 0)]) (.c (.str "")))])]
def UT:List Str:=[]
def UU:List Str:=["SIGNS"]
def H_:List Str:=["isinstance","str"]
def UW:List Str:=[]
def UX:List Str:=[]
def UY:List Str:=[]
def UZ:List Str:=[]
def wo:List Str:=["thing"]
def Ia:List Str:=["thing"]
noncomputable def wq:List RS:=
 [.ite (.not (.call 0 [(.v 0)])) [.eO 0 [(.c (.str "a text is a str of signs from the blank to the tilde, and line feeds"))]] []]
def U0:List Str:=["is_text"]
def U1:List Str:=[]
def Ib:List Str:=[]
def U2:List Str:=[]
def U3:List Str:=[]
def U4:List Str:=["BadText"]
def U5:List Str:=[]
def oo:List Str:=["thing"]
def Ic:List Str:=["thing"]
noncomputable def ou:List RS:=
 [.ite (.or [(.not (.dJ .tuple (.v 0))),(.cmp .NotEq (.blt .len [(.v 0)]) (.c (.int 2)))]) [.ret (.c (.bl false))] [],
 .ite (.call 0 [(.ix (.v 0) (.c (.int 0))),(.tup [(.c (.str "keep"))])]) [.ret (.and [(.call 1 [(.ix (.v 0) (.c (.int 1)))]),(.cmp .GtE (.ix (.v 0) (.c (.int 1))) (.c (.int 1)))])] [],
 .ret (.and [(.call 0 [(.ix (.v 0) (.c (.int 0))),(.tup [(.c (.str "cut")),(.c (.str "put"))])]),(.call 2 [(.ix (.v 0) (.c (.int 1)))]),(.cmp .NotEq (.ix (.v 0) (.c (.int 1))) (.c (.str "")))])]
def U6:List Str:=["is_word","is_whole","is_text"]
def U7:List Str:=[]
def Ie:List Str:=["isinstance","tuple","len"]
def U8:List Str:=[]
def U9:List Str:=[]
def U_:List Str:=[]
def Va:List Str:=[]
def wt:List Str:=["word","ahead"]
def Ig:List Str:=["word","ahead"]
noncomputable def wu:List RS:=
 [.ret (.and [(.cmp .NotEq (.v 0) (.v 1)),(.not (.and [(.cmp .Eq (.v 1) (.c (.str "cut"))),(.cmp .Eq (.v 0) (.c (.str "put")))]))])]
def Vb:List Str:=[]
def Vc:List Str:=[]
def Ih:List Str:=[]
def Vd:List Str:=[]
def Ve:List Str:=[]
def Vf:List Str:=[]
def Vg:List Str:=[]
def wx:List Str:=["change","ahead","part"]
def Ii:List Str:=["change"]
noncomputable def wy:List RS:=
 [.ite (.not (.dJ .list (.v 0))) [.eO 0 [(.c (.str "a change is a list"))]] [],
 .asg 1 (.c (.str "")),
 .eN 2 .list [(.v 0)] [.ite (.not (.call 0 [(.v 2)])) [.eO 0 [(.c (.str "a part is a keep of 1 sign or more, or a cut or put of a text that is not empty"))]] [],
  .ite (.not (.call 1 [(.ix (.v 2) (.c (.int 0))),(.v 1)])) [.eO 0 [(.c (.str "neighbours have two words, and no put stands right behind a cut"))]] [],
  .asg 1 (.ix (.v 2) (.c (.int 0)))]]
def Vh:List Str:=["is_part","may_follow"]
def Vi:List Str:=[]
def Ij:List Str:=["isinstance","list"]
def Vj:List Str:=[]
def Vk:List Str:=[]
def Vl:List Str:=["BadChange"]
def Vm:List Str:=[]
def wz:List Str:=["part"]
def Ik:List Str:=["part"]
noncomputable def wA:List RS:=
 [.ret (.hX (.cmp .Eq (.ix (.v 0) (.c (.int 0))) (.c (.str "keep"))) (.ix (.v 0) (.c (.int 1))) (.blt .len [(.ix (.v 0) (.c (.int 1)))]))]
def Vn:List Str:=[]
def Vo:List Str:=[]
def Il:List Str:=["len"]
def Vp:List Str:=[]
def Vq:List Str:=[]
def Vr:List Str:=[]
def Vs:List Str:=[]
def wB:List Str:=["change","over","gives"]
def Im:List Str:=["change"]
noncomputable def wC:List RS:=
 [.drop (.call 0 [(.v 0)]),
 .asg 1 (.blt .sum [(.comp none [] .list [(.v 0)] (some (.cmp .NotEq (.ix (.v 0) (.c (.int 0))) (.c (.str "put")))) (.call 1 [(.v 0)]))]),
 .asg 2 (.blt .sum [(.comp none [] .list [(.v 0)] (some (.cmp .NotEq (.ix (.v 0) (.c (.int 0))) (.c (.str "cut")))) (.call 1 [(.v 0)]))]),
 .ret (.tup [(.v 1),(.v 2)])]
def Vt:List Str:=["need_change","part_size"]
def Vu:List Str:=[]
def Io:List Str:=["sum"]
def Vv:List Str:=[]
def Vw:List Str:=[]
def Vx:List Str:=[]
def Vy:List Str:=[]
def wD:List Str:=["_law_script","_law_k"]
def Ip:List Str:=["_law_script","_law_k"]
noncomputable def wF:List RS:=
 [.ite (.cmp .Lt (.v 1) (.blt .len [(.v 0)])) [.ret (.ix (.v 0) (.v 1))] [],
 .ret (.c (.int 0))]
def Vz:List Str:=[]
def VA:List Str:=[]
def Iq:List Str:=["len"]
def VB:List Str:=[]
def VC:List Str:=[]
def VD:List Str:=[]
def VE:List Str:=[]
def wG:List Str:=["thing","least","most"]
def Ir:List Str:=["thing","least","most"]
noncomputable def wH:List RS:=
 [.ret (.and [(.call 0 [(.v 0)]),(.nV .LtE .LtE (.v 1) (.v 0) (.v 2))])]
def VF:List Str:=["is_whole"]
def VG:List Str:=[]
def Iu:List Str:=[]
def VH:List Str:=[]
def VI:List Str:=[]
def VJ:List Str:=[]
def VL:List Str:=[]
def rn:List Str:=["_law_found_here"]
noncomputable def wI:List RS:=
 [.ret (.and [(.dJ .int (.v 0)),(.not (.dJ .bool (.v 0)))])]
def VM:List Str:=[]
def VN:List Str:=[]
def Iv:List Str:=["isinstance","int","bool"]
def VO:List Str:=[]
def VP:List Str:=[]
def VQ:List Str:=[]
def VR:List Str:=[]
def wJ:List Str:=["row","most","least","beyond","middle"]
def Iw:List Str:=["row","most"]
noncomputable def wK:List RS:=
 [.asg 2 (.c (.int 0)),
 .asg 3 (.blt .len [(.v 0)]),
 .iU (.cmp .Lt (.v 2) (.v 3)) [.asg 4 (.bin .FloorDiv (.bin .Add (.v 2) (.v 3)) (.c (.int 2))),
  .ite (.cmp .LtE (.ix (.v 0) (.v 4)) (.v 1)) [.asg 2 (.bin .Add (.v 4) (.c (.int 1)))] [.asg 3 (.v 4)]],
 .ret (.v 2)]
def VS:List Str:=[]
def VT:List Str:=[]
def Iy:List Str:=["len"]
def VU:List Str:=[]
def VV:List Str:=[]
def VW:List Str:=[]
def VX:List Str:=[]
def wL:List Str:=["self"]
def Iz:List Str:=["self"]
noncomputable def wM:List RS:=
 [.gu (.v 0) "texts" (.lst []),
 .gu (.v 0) "begins" (.lst []),
 .gu (.v 0) "feeds" (.lst []),
 .gu (.v 0) "signs" (.c (.int 0))]
def VY:List Str:=[]
def VZ:List Str:=[]
def IA:List Str:=[]
def V0:List Str:=[]
def V1:List Str:=[]
def V2:List Str:=[]
def V3:List Str:=[]
def rp:List Str:=["self","text","begin","feed"]
def IB:List Str:=["self","text"]
noncomputable def wN:List RS:=
 [.drop (.call 0 [(.v 1)]),
 .asg 2 (.fld (.v 0) "signs"),
 .drop (.b6 .append (.fld (.v 0) "texts") [(.v 1)]),
 .drop (.b6 .append (.fld (.v 0) "begins") [(.v 2)]),
 .gu (.v 0) "signs" (.bin .Add (.v 2) (.blt .len [(.v 1)])),
 .asg 3 (.b6 .find (.v 1) [(.c (.str "\n"))]),
 .iU (.cmp .GtE (.v 3) (.c (.int 0))) [.drop (.b6 .append (.fld (.v 0) "feeds") [(.bin .Add (.v 2) (.v 3))]),
  .asg 3 (.b6 .find (.v 1) [(.c (.str "\n")),(.bin .Add (.v 3) (.c (.int 1)))])],
 .ret (.v 2)]
def V4:List Str:=["need_text"]
def V5:List Str:=[]
def IC:List Str:=["len"]
def V6:List Str:=[]
def V7:List Str:=[]
def V8:List Str:=[]
def V9:List Str:=[]
def wO:List Str:=["self","begin","size","pieces","number","end","offset","piece"]
def ID:List Str:=["self","begin","size"]
noncomputable def wQ:List RS:=
 [.ite (.or [(.not (.call 0 [(.v 1),(.c (.int 0)),(.fld (.v 0) "signs")])),(.not (.call 0 [(.v 2),(.c (.int 0)),(.bin .Sub (.fld (.v 0) "signs") (.v 1))]))]) [.eO 0 [(.c (.str "what is read lies within the stock"))]] [],
 .asg 3 (.lst []),
 .asg 4 (.bin .Sub (.call 1 [(.fld (.v 0) "begins"),(.v 1)]) (.c (.int 1))),
 .asg 5 (.bin .Add (.v 1) (.v 2)),
 .iU (.cmp .Lt (.v 1) (.v 5)) [.asg 6 (.bin .Sub (.v 1) (.ix (.fld (.v 0) "begins") (.v 4))),
  .asg 7 (.sl (.ix (.fld (.v 0) "texts") (.v 4)) (some (.v 6)) (some (.bin .Sub (.bin .Add (.v 6) (.v 5)) (.v 1)))),
  .drop (.b6 .append (.v 3) [(.v 7)]),
  .asg 1 (.bin .Add (.v 1) (.blt .len [(.v 7)])),
  .asg 4 (.bin .Add (.v 4) (.c (.int 1)))],
 .ret (.b6 .join (.c (.str "")) [(.v 3)])]
def V_:List Str:=["is_between","many_upto"]
def Wa:List Str:=[]
def IE:List Str:=["len"]
def Wb:List Str:=[]
def Wc:List Str:=[]
def Wd:List Str:=["NoPlace"]
def We:List Str:=[]
structure mQ (K:PySem.W.Frag) (C:Addr):Prop where
 cl:d5 K C
 ow:eA K C "texts"
 rq:eA K C "begins"
 rA:eA K C "feeds"
 rB:eA K C "signs"
def wR:List Str:=["node"]
def IF:List Str:=["node"]
noncomputable def wU:List RS:=
 [.ret (.hX (.cmp .Is (.v 0) (.c .ax)) (.c (.int 0)) (.ix (.v 0) (.c (.int 3))))]
def Wf:List Str:=[]
def Wg:List Str:=[]
def IG:List Str:=[]
def Wh:List Str:=[]
def Wi:List Str:=[]
def Wj:List Str:=[]
def Wk:List Str:=[]
def wV:List Str:=["node"]
def IH:List Str:=["node"]
noncomputable def wW:List RS:=
 [.ret (.hX (.cmp .Is (.v 0) (.c .ax)) (.c (.int 0)) (.ix (.v 0) (.c (.int 4))))]
def Wl:List Str:=[]
def Wm:List Str:=[]
def II:List Str:=[]
def Wn:List Str:=[]
def Wo:List Str:=[]
def Wq:List Str:=[]
def Wr:List Str:=[]
def wX:List Str:=["node"]
def IJ:List Str:=["node"]
noncomputable def wY:List RS:=
 [.ret (.hX (.cmp .Is (.v 0) (.c .ax)) (.c (.int 0)) (.ix (.v 0) (.c (.int 5))))]
def Ws:List Str:=[]
def Wt:List Str:=[]
def IL:List Str:=[]
def Wu:List Str:=[]
def Wv:List Str:=[]
def Ww:List Str:=[]
def Wx:List Str:=[]
def wZ:List Str:=["left","piece","right","height","size"]
def IM:List Str:=["left","piece","right"]
noncomputable def w4:List RS:=
 [.asg 3 (.bin .Add (.c (.int 1)) (.blt .max [(.call 0 [(.v 0)]),(.call 0 [(.v 2)])])),
 .asg 4 (.bin .Add (.bin .Add (.call 1 [(.v 0)]) (.ix (.v 1) (.c (.int 1)))) (.call 1 [(.v 2)])),
 .ret (.tup [(.v 0),(.v 1),(.v 2),(.v 3),(.v 4),(.bin .Add (.bin .Add (.call 2 [(.v 0)]) (.ix (.v 1) (.c (.int 2)))) (.call 2 [(.v 2)]))])]
def Wy:List Str:=["height_of","size_of","ends_of"]
def Wz:List Str:=[]
def IP:List Str:=["max"]
def WA:List Str:=[]
def WB:List Str:=[]
def WC:List Str:=[]
def WD:List Str:=[]
def w5:List Str:=["left","piece","right","inner"]
def IQ:List Str:=["left","piece","right"]
noncomputable def w6:List RS:=
 [.asg 3 (.ix (.v 0) (.c (.int 2))),
 .ite (.cmp .GtE (.call 0 [(.ix (.v 0) (.c (.int 0)))]) (.call 0 [(.v 3)])) [.ret (.call 1 [(.ix (.v 0) (.c (.int 0))),(.ix (.v 0) (.c (.int 1))),(.call 1 [(.v 3),(.v 1),(.v 2)])])] [],
 .ret (.call 1 [(.call 1 [(.ix (.v 0) (.c (.int 0))),(.ix (.v 0) (.c (.int 1))),(.ix (.v 3) (.c (.int 0)))]),(.ix (.v 3) (.c (.int 1))),(.call 1 [(.ix (.v 3) (.c (.int 2))),(.v 1),(.v 2)])])]
def WE:List Str:=["height_of","made"]
def WG:List Str:=[]
def IS:List Str:=[]
def WH:List Str:=[]
def WI:List Str:=[]
def WJ:List Str:=[]
def WK:List Str:=[]
def w9:List Str:=["left","piece","right","inner"]
def IT:List Str:=["left","piece","right"]
noncomputable def w_:List RS:=
 [.asg 3 (.ix (.v 2) (.c (.int 0))),
 .ite (.cmp .GtE (.call 0 [(.ix (.v 2) (.c (.int 2)))]) (.call 0 [(.v 3)])) [.ret (.call 1 [(.call 1 [(.v 0),(.v 1),(.v 3)]),(.ix (.v 2) (.c (.int 1))),(.ix (.v 2) (.c (.int 2)))])] [],
 .ret (.call 1 [(.call 1 [(.v 0),(.v 1),(.ix (.v 3) (.c (.int 0)))]),(.ix (.v 3) (.c (.int 1))),(.call 1 [(.ix (.v 3) (.c (.int 2))),(.ix (.v 2) (.c (.int 1))),(.ix (.v 2) (.c (.int 2)))])])]
def WL:List Str:=["height_of","made"]
def WM:List Str:=[]
def IU:List Str:=[]
def WN:List Str:=[]
def WO:List Str:=[]
def WQ:List Str:=[]
def WR:List Str:=[]
def xa:List Str:=["left","piece","right"]
def IV:List Str:=["left","piece","right"]
noncomputable def xb:List RS:=
 [.ite (.cmp .Gt (.call 0 [(.v 0)]) (.bin .Add (.call 0 [(.v 2)]) (.c (.int 1)))) [.ret (.call 1 [(.v 0),(.v 1),(.v 2)])] [],
 .ite (.cmp .Gt (.call 0 [(.v 2)]) (.bin .Add (.call 0 [(.v 0)]) (.c (.int 1)))) [.ret (.call 2 [(.v 0),(.v 1),(.v 2)])] [],
 .ret (.call 3 [(.v 0),(.v 1),(.v 2)])]
def WS:List Str:=["height_of","turned_right","turned_left","made"]
def WT:List Str:=[]
def IW:List Str:=[]
def WU:List Str:=[]
def WV:List Str:=[]
def WW:List Str:=[]
def WX:List Str:=[]
def xf:List Str:=["left","piece","right"]
def IX:List Str:=["left","piece","right"]
noncomputable def xg:List RS:=
 [.ite (.cmp .Gt (.call 0 [(.v 0)]) (.bin .Add (.call 0 [(.v 2)]) (.c (.int 1)))) [.ret (.call 1 [(.ix (.v 0) (.c (.int 0))),(.ix (.v 0) (.c (.int 1))),(.call 2 [(.ix (.v 0) (.c (.int 2))),(.v 1),(.v 2)])])] [],
 .ite (.cmp .Gt (.call 0 [(.v 2)]) (.bin .Add (.call 0 [(.v 0)]) (.c (.int 1)))) [.ret (.call 1 [(.call 2 [(.v 0),(.v 1),(.ix (.v 2) (.c (.int 0)))]),(.ix (.v 2) (.c (.int 1))),(.ix (.v 2) (.c (.int 2)))])] [],
 .ret (.call 3 [(.v 0),(.v 1),(.v 2)])]
def WY:List Str:=["height_of","leveled","joined","made"]
def WZ:List Str:=[]
def IY:List Str:=[]
def W0:List Str:=[]
def W2:List Str:=[]
def W3:List Str:=[]
def W4:List Str:=[]
def xh:List Str:=["node","out"]
def IZ:List Str:=["node"]
noncomputable def xi:List RS:=
 [.ite (.cmp .Is (.ix (.v 0) (.c (.int 2))) (.c .ax)) [.ret (.tup [(.ix (.v 0) (.c (.int 0))),(.ix (.v 0) (.c (.int 1)))])] [],
 .asg 1 (.call 0 [(.ix (.v 0) (.c (.int 2)))]),
 .ret (.tup [(.call 1 [(.ix (.v 0) (.c (.int 0))),(.ix (.v 0) (.c (.int 1))),(.ix (.v 1) (.c (.int 0)))]),(.ix (.v 1) (.c (.int 1)))])]
def W5:List Str:=["last_out","joined"]
def W6:List Str:=[]
def I0:List Str:=[]
def W7:List Str:=[]
def W8:List Str:=[]
def W9:List Str:=[]
def W_:List Str:=[]
def xj:List Str:=["node","out"]
def I_:List Str:=["node"]
noncomputable def xk:List RS:=
 [.ite (.cmp .Is (.ix (.v 0) (.c (.int 0))) (.c .ax)) [.ret (.tup [(.ix (.v 0) (.c (.int 1))),(.ix (.v 0) (.c (.int 2)))])] [],
 .asg 1 (.call 0 [(.ix (.v 0) (.c (.int 0)))]),
 .ret (.tup [(.ix (.v 1) (.c (.int 0))),(.call 1 [(.ix (.v 1) (.c (.int 1))),(.ix (.v 0) (.c (.int 1))),(.ix (.v 0) (.c (.int 2)))])])]
def Xa:List Str:=["first_out","joined"]
def Xb:List Str:=[]
def Ja:List Str:=[]
def Xd:List Str:=[]
def Xe:List Str:=[]
def Xf:List Str:=[]
def Xg:List Str:=[]
def xl:List Str:=["left","right","last","first","one","other"]
def Jb:List Str:=["left","right"]
noncomputable def xn:List RS:=
 [.ite (.cmp .Is (.v 0) (.c .ax)) [.ret (.v 1)] [],
 .asg 2 (.call 0 [(.v 0)]),
 .asg 3 (.call 1 [(.v 1)]),
 .asg 4 (.ix (.v 2) (.c (.int 1))),
 .asg 5 (.ix (.v 3) (.c (.int 0))),
 .ite (.cmp .Eq (.bin .Add (.ix (.v 4) (.c (.int 0))) (.ix (.v 4) (.c (.int 1)))) (.ix (.v 5) (.c (.int 0)))) [.ret (.call 2 [(.ix (.v 2) (.c (.int 0))),(.tup [(.ix (.v 4) (.c (.int 0))),(.bin .Add (.ix (.v 4) (.c (.int 1))) (.ix (.v 5) (.c (.int 1)))),(.bin .Add (.ix (.v 4) (.c (.int 2))) (.ix (.v 5) (.c (.int 2))))]),(.ix (.v 3) (.c (.int 1)))])] [],
 .ret (.call 2 [(.ix (.v 2) (.c (.int 0))),(.v 4),(.v 1)])]
def Xh:List Str:=["last_out","first_out","joined"]
def Xi:List Str:=[]
def Jc:List Str:=[]
def Xj:List Str:=[]
def Xk:List Str:=[]
def Xl:List Str:=[]
def Xm:List Str:=[]
def xo:List Str:=["piece","size","stock","middle","ends"]
def Jd:List Str:=["piece","size","stock"]
noncomputable def xp:List RS:=
 [.asg 3 (.bin .Add (.ix (.v 0) (.c (.int 0))) (.v 1)),
 .asg 4 (.bin .Sub (.bP 0 "ends_ahead" (.v 2) [(.v 3)]) (.bP 0 "ends_ahead" (.v 2) [(.ix (.v 0) (.c (.int 0)))])),
 .ret (.tup [(.tup [(.ix (.v 0) (.c (.int 0))),(.v 1),(.v 4)]),(.tup [(.v 3),(.bin .Sub (.ix (.v 0) (.c (.int 1))) (.v 1)),(.bin .Sub (.ix (.v 0) (.c (.int 2))) (.v 4))])])]
def Xn:List Str:=[]
def Xo:List Str:=[]
def Je:List Str:=[]
def Xp:List Str:=["ends_ahead"]
def Xq:List Str:=[]
def Xr:List Str:=[]
def Xs:List Str:=[]
def xq:List Str:=["node","place","stock","piece","begin","end","sides","halves"]
def Jf:List Str:=["node","place","stock"]
noncomputable def xr:List RS:=
 [.ite (.cmp .Is (.v 0) (.c .ax)) [.ret (.tup [(.c .ax),(.c .ax)])] [],
 .asg 3 (.ix (.v 0) (.c (.int 1))),
 .asg 4 (.call 0 [(.ix (.v 0) (.c (.int 0)))]),
 .asg 5 (.bin .Add (.v 4) (.ix (.v 3) (.c (.int 1)))),
 .ite (.cmp .LtE (.v 1) (.v 4)) [.asg 6 (.call 1 [(.ix (.v 0) (.c (.int 0))),(.v 1),(.v 2)]),
  .ret (.tup [(.ix (.v 6) (.c (.int 0))),(.call 2 [(.ix (.v 6) (.c (.int 1))),(.v 3),(.ix (.v 0) (.c (.int 2)))])])] [],
 .ite (.cmp .GtE (.v 1) (.v 5)) [.asg 6 (.call 1 [(.ix (.v 0) (.c (.int 2))),(.bin .Sub (.v 1) (.v 5)),(.v 2)]),
  .ret (.tup [(.call 2 [(.ix (.v 0) (.c (.int 0))),(.v 3),(.ix (.v 6) (.c (.int 0)))]),(.ix (.v 6) (.c (.int 1)))])] [],
 .asg 7 (.call 3 [(.v 3),(.bin .Sub (.v 1) (.v 4)),(.v 2)]),
 .ret (.tup [(.call 2 [(.ix (.v 0) (.c (.int 0))),(.ix (.v 7) (.c (.int 0))),(.c .ax)]),(.call 2 [(.c .ax),(.ix (.v 7) (.c (.int 1))),(.ix (.v 0) (.c (.int 2)))])])]
def Xt:List Str:=["size_of","parted","joined","cut_in_two"]
def Xu:List Str:=[]
def Jg:List Str:=[]
def Xv:List Str:=[]
def Xw:List Str:=[]
def Xx:List Str:=[]
def Xy:List Str:=[]
def xu:List Str:=["node","pieces"]
def Jh:List Str:=["node"]
noncomputable def xv:List RS:=
 [.ite (.cmp .Is (.v 0) (.c .ax)) [.ret (.lst [])] [],
 .asg 1 (.call 0 [(.ix (.v 0) (.c (.int 0)))]),
 .drop (.b6 .append (.v 1) [(.ix (.v 0) (.c (.int 1)))]),
 .drop (.b6 .extend (.v 1) [(.call 0 [(.ix (.v 0) (.c (.int 2)))])]),
 .ret (.v 1)]
def Xz:List Str:=["pieces_of"]
def XA:List Str:=[]
def Ji:List Str:=[]
def XB:List Str:=[]
def XC:List Str:=[]
def XD:List Str:=[]
def XE:List Str:=[]
def xx:List Str:=["self","place"]
def Jj:List Str:=["self","place"]
noncomputable def xy:List RS:=
 [.ret (.call 0 [(.fld (.v 0) "feeds"),(.bin .Sub (.v 1) (.c (.int 1)))])]
def XF:List Str:=["many_upto"]
def XG:List Str:=[]
def Jk:List Str:=[]
def XH:List Str:=[]
def XI:List Str:=[]
def XJ:List Str:=[]
def XM:List Str:=[]
def xB:List Str:=["stock","text"]
def Jl:List Str:=["stock","text"]
noncomputable def xC:List RS:=
 [.ite (.cmp .Eq (.v 1) (.c (.str ""))) [.ret (.c .ax)] [],
 .ret (.call 0 [(.c .ax),(.tup [(.bP 0 "put" (.v 0) [(.v 1)]),(.blt .len [(.v 1)]),(.b6 .count (.v 1) [(.c (.str "\n"))])]),(.c .ax)])]
def XN:List Str:=["joined"]
def XO:List Str:=[]
def Jm:List Str:=["len"]
def XQ:List Str:=["put"]
def XR:List Str:=[]
def XS:List Str:=[]
def XT:List Str:=[]
def xD:List Str:=["text","stock"]
def Jo:List Str:=["text"]
noncomputable def xE:List RS:=
 [.drop (.call 0 [(.v 0)]),
 .asg 1 (.make 0 []),
 .ret (.make 1 [(.v 1),(.call 1 [(.v 1),(.v 0)])])]
def XU:List Str:=["need_text","node_put"]
def XW:List Str:=[]
def Jp:List Str:=[]
def XX:List Str:=[]
def XY:List Str:=["Stock","Paper"]
def XZ:List Str:=[]
def X0:List Str:=[]
def xF:List Str:=["paper","change","place","part"]
def Jq:List Str:=["paper","change"]
noncomputable def xG:List RS:=
 [.ite (.cmp .NotEq (.ix (.call 0 [(.v 1)]) (.c (.int 0))) (.bP 0 "size" (.v 0) [])) [.eO 0 [(.c (.str "the change is over a text of another number of signs"))]] [],
 .asg 2 (.c (.int 0)),
 .eN 3 .list [(.v 1)] [.ite (.and [(.cmp .Eq (.ix (.v 3) (.c (.int 0))) (.c (.str "cut"))),(.cmp .NotEq (.bP 1 "part" (.v 0) [(.v 2),(.bin .Add (.v 2) (.blt .len [(.ix (.v 3) (.c (.int 1)))]))]) (.ix (.v 3) (.c (.int 1))))]) [.eO 0 [(.c (.str "what is cut is not what stands there"))]] [],
  .ite (.cmp .NotEq (.ix (.v 3) (.c (.int 0))) (.c (.str "put"))) [.asg 2 (.bin .Add (.v 2) (.call 1 [(.v 3)]))] []]]
def X1:List Str:=["sizes","part_size"]
def X3:List Str:=[]
def Jr:List Str:=["len"]
def X4:List Str:=["size","part"]
def X5:List Str:=[]
def X6:List Str:=["BadFit"]
def X7:List Str:=[]
def xH:List Str:=["stock","node"]
def Js:List Str:=["stock","node"]
noncomputable def xI:List RS:=
 [.ret (.comp none [("stock",0)] .list [(.call 0 [(.v 1)])] none (.bP 0 "read" (.v 1) [(.ix (.v 0) (.c (.int 0))),(.ix (.v 0) (.c (.int 1)))]))]
def X8:List Str:=["pieces_of"]
def X9:List Str:=[]
def Jt:List Str:=[]
def X_:List Str:=["read"]
def Ya:List Str:=[]
def Yb:List Str:=[]
def Yc:List Str:=[]
def xJ:List Str:=["self","stock","node"]
def Ju:List Str:=["self","stock","node"]
noncomputable def xM:List RS:=
 [.gu (.v 0) "stock" (.v 1),
 .gu (.v 0) "node" (.v 2)]
def Yd:List Str:=[]
def Ye:List Str:=[]
def Jv:List Str:=[]
def Yf:List Str:=[]
def Yg:List Str:=[]
def Yh:List Str:=[]
def Yi:List Str:=[]
def xO:List Str:=["self"]
def Jw:List Str:=["self"]
noncomputable def xQ:List RS:=
 [.ret (.call 0 [(.fld (.v 0) "node")])]
def Yj:List Str:=["size_of"]
def Yk:List Str:=[]
def Jx:List Str:=[]
def Yl:List Str:=[]
def Ym:List Str:=[]
def Yn:List Str:=[]
def Yo:List Str:=[]
def xR:List Str:=["self"]
def Jy:List Str:=["self"]
noncomputable def xS:List RS:=
 [.ret (.bin .Add (.call 0 [(.fld (.v 0) "node")]) (.c (.int 1)))]
def Yp:List Str:=["ends_of"]
def Yq:List Str:=[]
def Jz:List Str:=[]
def Yr:List Str:=[]
def Ys:List Str:=[]
def Yt:List Str:=[]
def Yu:List Str:=[]
def xT:List Str:=["self","begin","end","ahead"]
def JA:List Str:=["self","begin","end"]
noncomputable def xU:List RS:=
 [.ite (.or [(.not (.call 0 [(.v 1),(.c (.int 0)),(.bP 0 "size" (.v 0) [])])),(.not (.call 0 [(.v 2),(.v 1),(.bP 0 "size" (.v 0) [])]))]) [.eO 0 [(.c (.str "a part leads from a place of the text to one that is no less"))]] [],
 .asg 3 (.ix (.call 1 [(.fld (.v 0) "node"),(.v 2),(.fld (.v 0) "stock")]) (.c (.int 0))),
 .ret (.b6 .join (.c (.str "")) [(.call 2 [(.fld (.v 0) "stock"),(.ix (.call 1 [(.v 3),(.v 1),(.fld (.v 0) "stock")]) (.c (.int 1)))])])]
def Yv:List Str:=["is_between","parted","texts_of"]
def Yw:List Str:=[]
def JB:List Str:=[]
def Yx:List Str:=["size"]
def Yy:List Str:=[]
def Yz:List Str:=["NoPlace"]
def YA:List Str:=[]
def xV:List Str:=["self","change","ahead","rest","part","sides"]
def JC:List Str:=["self","change"]
noncomputable def xW:List RS:=
 [.drop (.call 0 [(.v 0),(.v 1)]),
 .asg 2 (.c .ax),
 .asg 3 (.fld (.v 0) "node"),
 .eN 4 .list [(.v 1)] [.ite (.cmp .Eq (.ix (.v 4) (.c (.int 0))) (.c (.str "put"))) [.asg 2 (.call 1 [(.v 2),(.call 2 [(.fld (.v 0) "stock"),(.ix (.v 4) (.c (.int 1)))])]),
   .cont] [],
  .asg 5 (.call 3 [(.v 3),(.call 4 [(.v 4)]),(.fld (.v 0) "stock")]),
  .asg 3 (.ix (.v 5) (.c (.int 1))),
  .ite (.cmp .Eq (.ix (.v 4) (.c (.int 0))) (.c (.str "keep"))) [.asg 2 (.call 1 [(.v 2),(.ix (.v 5) (.c (.int 0)))])] []],
 .ret (.make 0 [(.fld (.v 0) "stock"),(.v 2)])]
def YB:List Str:=["need_fit","sewn","node_put","parted","part_size"]
def YC:List Str:=[]
def JD:List Str:=[]
def YD:List Str:=[]
def YE:List Str:=["Paper"]
def YF:List Str:=[]
def YG:List Str:=[]
structure fO (K:PySem.W.Frag) (C:Addr):Prop where
 cl:d5 K C
 fP:eA K C "stock"
 i8:eA K C "node"
end L2.B
namespace L2
open PySem PySem.Spec PyProof.Rows
section
variable {X:Cx}
end
section
variable {CX:aL} {S:cH} {Γ:aF} {X:Cx} {e e2 a b c d:Expr} {es:List Expr} {x:Str} {p q pos:Pos} {r ra rb rc:RE} {rs:List RE} {i j:Nat}
theorem YH{n:Nat}(h4:n<29)(hf:(backTo pos (starEach es X.env)).all (fun x=> !x.1)=true)(hn:n=es.length):((backTo pos (starEach es X.env)).all (fun x=> !x.1) && (backToKw pos (keywordEach [] X.env)).all (fun x=>x.1.isSome)
   && decide (es.length+ ([]:List Keyword).length+ (if ([]:List Keyword).isEmpty then 0 else 1) <30))=true:=by
 subst hn
 rw[hf]
 show(true && true && decide (es.length+0+0<30))=true
 rw[decide_eq_true (by omega)];rfl
theorem YI{T:PySem.W.Frag→TA→TE}(G:Good CX S Γ X)(h:PE X (.Call a es [] p) (ah Γ (.xt T rs))):PT X (.Call a es [] p) (br Γ (.xt T rs)):=by
 show PT X _ (dz Γ.K (ah Γ (.xt T rs)))
 rw[←G.K]
 exact qX h fun _=>rfl
end
structure rC (K:PySem.W.Frag) (C:Addr):Prop where
 cl:d5 K C
 ha:findIn K (.ref C) "__class__"=some (some (.builtin "object.__class__"))
 hn:specialIn K (.builtin "object.__class__") "__get__"=some (some (.builtin "getset_descriptor.__get__"))
 nz:takesIn K (.builtin "object.__class__")=some true
 hm:mroIn K C (.type "object")=some true
 kt:kitOne K (.ref C) (.ref C)=some true
def rD(K:PySem.W.Frag):List V→Hp→VK→Prop:=fun xs H Q=> ∃a C dx fs,xs=[.ref a, .ref C]∧H a=some (.ins C dx fs)∧rC K C∧Q (.bl true) H
def xX:PySem.W.Frag→TA→TE:=fun K t=>cU (rD K) t
section
variable {CX:aL} {S:cH} {Γ:aF} {X:Cx} {a b:Expr} {x:Str} {p q pos:Pos} {ra rb:RE}
theorem YJ:bY X (.builtin "isinstance") (rD X.K):=by
 intro pins s σ H xs us Q I r h
 obtain⟨a,C,dx,fs,rfl,e,O,q⟩:=h
 obtain⟨u,u',rfl,r1,r2⟩:=vals2 r
 cases (show u'=Value.ref C from r2)
 exact gh I r1 (eL.ins e O.cl O.ha O.hn O.nz O.hm) O.kt fun tk=> ⟨.bl true,H,I.tok tk,rfl,q⟩
theorem YK(G:Good CX S Γ X)(hA:PA X [a,b] (bq Γ [ra,rb]))(h:kB S x "isinstance"=true:=by kernel_rfl)(hn:d_ [a,b]=true:=by kernel_rfl):PE X (.Call (.Name x p) [a,b] [] pos) (ah Γ (.xt xX [ra,rb])):=by
 simp only[kB,Bool.and_eq_true,decide_eq_true_eq] at h
 obtain⟨⟨rfl,g2⟩,g3⟩:=h
 show PE X _ (cU (rD Γ.K) (bq Γ [ra,rb]))
 rw[←G.K]
 exact uL YJ (G.gl g2) (G.gA _ g3) Hz hA (by decide) (by decide) (dj (dm hn).1) (gB _ _ _ (dm hn).2)
end
end L2
namespace L2.B
open PySem PySem.Spec PyProof.Rows
def xY:List Str:=["_law_cell","_law_k","_law_number"]
def JE:List Str:=["_law_cell","_law_k"]
noncomputable def xZ:List RS:=
 [.asg 2 (.bin .Mod (.bin .Add (.bin .Add (.bin .Mult (.v 0) (.c (.int 48271))) (.bin .Mult (.c (.int 7919)) (.v 1))) (.c (.int 12345))) (.c (.int 2147483647))),
 .ret (.bin .Mod (.bin .Mult (.bin .Mod (.bin .Mult (.v 2) (.v 2)) (.c (.int 2147483647))) (.v 2)) (.c (.int 2147483647)))]
def YL:List Str:=[]
def YM:List Str:=[]
def JF:List Str:=[]
def YN:List Str:=[]
def YO:List Str:=[]
def YQ:List Str:=[]
def YR:List Str:=[]
def x3:List Str:=["_law_cell","_law_many","_law_some","_law_text","_law_k","_law_number"]
def JG:List Str:=["_law_cell","_law_many"]
noncomputable def x6:List RS:=
 [.asg 2 (.c (.str " !\"#$&'()*+,-./0123456789:;<=>?@ABCDEFGHIJKLMNOPQRSTUVWXYZ[\\]^_`")),
 .asg 2 (.bin .Add (.v 2) (.c (.str "abcdefghijklmnopqrstuvwxyz{|}~"))),
 .asg 3 (.c (.str "")),
 .eN 4 .dY [(.v 1)] [.asg 5 (.call 0 [(.v 0),(.v 4)]),
  .asg 3 (.bin .Add (.v 3) (.ix (.lst [(.c (.str "\n")),(.ix (.c (.str "ab")) (.bin .Mod (.bin .FloorDiv (.v 5) (.c (.int 8))) (.c (.int 2)))),(.ix (.v 2) (.bin .Mod (.bin .FloorDiv (.v 5) (.c (.int 8))) (.c (.int 94)))),(.ix (.v 2) (.bin .Mod (.bin .FloorDiv (.v 5) (.c (.int 8))) (.c (.int 94))))]) (.bin .Mod (.v 5) (.c (.int 4)))))],
 .ret (.v 3)]
def YS:List Str:=["_law_mixed"]
def YT:List Str:=[]
def JH:List Str:=["range"]
def YU:List Str:=[]
def YV:List Str:=[]
def YW:List Str:=[]
def YX:List Str:=[]
def x8:List Str:=["_law_parts","_law_found","_law_put","_law_cut","_law_word","_law_thing"]
def JI:List Str:=["_law_parts"]
noncomputable def x9:List RS:=
 [.asg 1 (.lst []),
 .asg 2 (.c (.str "")),
 .asg 3 (.c (.str "")),
 .mG [4,5] .list [(.bin .Add (.v 0) (.lst [(.tup [(.c (.str "end")),(.c (.int 0))])]))] [.ite (.cmp .Eq (.v 4) (.c (.str "put"))) [.asg 2 (.bin .Add (.v 2) (.v 5))] [.ite (.cmp .Eq (.v 4) (.c (.str "cut"))) [.asg 3 (.bin .Add (.v 3) (.v 5))] [.ite (.or [(.cmp .Eq (.v 4) (.c (.str "end"))),(.cmp .Gt (.v 5) (.c (.int 0)))]) [.asg 1 (.bin .Add (.bin .Add (.v 1) (.bin .Mult (.lst [(.tup [(.c (.str "put")),(.v 2)])]) (.blt .int [(.cmp .NotEq (.v 2) (.c (.str "")))]))) (.bin .Mult (.lst [(.tup [(.c (.str "cut")),(.v 3)])]) (.blt .int [(.cmp .NotEq (.v 3) (.c (.str "")))]))),
     .asg 2 (.c (.str "")),
     .asg 3 (.c (.str "")),
     .ite (.and [(.cmp .Eq (.v 4) (.c (.str "keep"))),(.cmp .NotEq (.v 1) (.lst [])),(.cmp .Eq (.ix (.ix (.v 1) (.neg (.c (.int 1)))) (.c (.int 0))) (.c (.str "keep")))]) [.set (.v 1) (.neg (.c (.int 1))) (.tup [(.c (.str "keep")),(.bin .Add (.ix (.ix (.v 1) (.neg (.c (.int 1)))) (.c (.int 1))) (.v 5))])] [.ite (.cmp .Eq (.v 4) (.c (.str "keep"))) [.drop (.b6 .append (.v 1) [(.tup [(.c (.str "keep")),(.v 5)])])] []]] []]]],
 .ret (.v 1)]
def YY:List Str:=[]
def YZ:List Str:=[]
def JJ:List Str:=["int"]
def Y0:List Str:=[]
def Y1:List Str:=[]
def Y2:List Str:=[]
def Y3:List Str:=[]
def ib:List Str:=["_law_cell","_law_text","_law_parts","_law_at","_law_k","_law_number","_law_size"]
def JK:List Str:=["_law_cell","_law_text"]
noncomputable def dO:List RS:=
 [.asg 2 (.lst []),
 .asg 3 (.c (.int 0)),
 .eN 4 .dY [(.bin .Add (.c (.int 1)) (.bin .Mod (.v 0) (.c (.int 7))))] [.asg 5 (.call 0 [(.v 0),(.bin .Add (.c (.int 40)) (.v 4))]),
  .ite (.cmp .Eq (.bin .Mod (.v 5) (.c (.int 3))) (.c (.int 0))) [.drop (.b6 .append (.v 2) [(.tup [(.c (.str "put")),(.call 1 [(.v 5),(.bin .Add (.c (.int 1)) (.bin .Mult (.bin .Mod (.bin .FloorDiv (.v 5) (.c (.int 3))) (.c (.int 4))) (.bin .Add (.c (.int 1)) (.bin .Mod (.bin .FloorDiv (.v 5) (.c (.int 12))) (.c (.int 3))))))])])])] [],
  .asg 6 (.blt .min [(.bin .Sub (.blt .len [(.v 1)]) (.v 3)),(.bin .Mod (.bin .FloorDiv (.v 5) (.c (.int 36))) (.bin .Add (.c (.int 2)) (.bin .FloorDiv (.blt .len [(.v 1)]) (.c (.int 3)))))]),
  .ite (.and [(.cmp .Eq (.bin .Mod (.bin .FloorDiv (.v 5) (.c (.int 5))) (.c (.int 3))) (.c (.int 0))),(.cmp .Gt (.v 6) (.c (.int 0)))]) [.drop (.b6 .append (.v 2) [(.tup [(.c (.str "cut")),(.sl (.v 1) (some (.v 3)) (some (.bin .Add (.v 3) (.v 6))))])])] [.drop (.b6 .append (.v 2) [(.tup [(.c (.str "keep")),(.v 6)])])],
  .asg 3 (.bin .Add (.v 3) (.v 6))],
 .drop (.b6 .append (.v 2) [(.tup [(.c (.str "keep")),(.bin .Sub (.blt .len [(.v 1)]) (.v 3))])]),
 .ite (.cmp .Eq (.bin .Mod (.bin .FloorDiv (.v 0) (.c (.int 7))) (.c (.int 3))) (.c (.int 0))) [.drop (.b6 .append (.v 2) [(.tup [(.c (.str "put")),(.call 1 [(.v 0),(.bin .Add (.c (.int 1)) (.bin .Mod (.bin .FloorDiv (.v 0) (.c (.int 21))) (.c (.int 5))))])])])] [],
 .ret (.call 2 [(.v 2)])]
def jX:List Str:=["_law_mixed","_law_text_by","_law_neat"]
def jY:List Str:=[]
def i9:List Str:=["range","min","len"]
def jZ:List Str:=[]
def j4:List Str:=[]
def j5:List Str:=[]
def j6:List Str:=[]
def x_:List Str:=["_law_text","_law_change","_law_found","_law_at","_law_word","_law_thing"]
def JL:List Str:=["_law_text","_law_change"]
noncomputable def ya:List RS:=
 [.asg 2 (.c (.str "")),
 .asg 3 (.c (.int 0)),
 .mG [4,5] .list [(.v 1)] [.ite (.cmp .Eq (.v 4) (.c (.str "put"))) [.asg 2 (.bin .Add (.v 2) (.v 5))] [.ite (.cmp .Eq (.v 4) (.c (.str "keep"))) [.asg 2 (.bin .Add (.v 2) (.sl (.v 0) (some (.v 3)) (some (.bin .Add (.v 3) (.v 5))))),
    .asg 3 (.bin .Add (.v 3) (.v 5))] [.asg 3 (.bin .Add (.v 3) (.blt .len [(.v 5)]))]]],
 .ret (.v 2)]
def Y4:List Str:=[]
def Y5:List Str:=[]
def JM:List Str:=["len"]
def Y6:List Str:=[]
def Y7:List Str:=[]
def Y8:List Str:=[]
def Y9:List Str:=[]
def yb:List Str:=["node","place","stock","ends","piece","begin","end","ahead"]
def JN:List Str:=["node","place","stock"]
noncomputable def yc:List RS:=
 [.asg 3 (.c (.int 0)),
 .iU (.cmp .IsNot (.v 0) (.c .ax)) [.asg 4 (.ix (.v 0) (.c (.int 1))),
  .asg 5 (.call 0 [(.ix (.v 0) (.c (.int 0)))]),
  .asg 6 (.bin .Add (.v 5) (.ix (.v 4) (.c (.int 1)))),
  .ite (.cmp .LtE (.v 1) (.v 5)) [.asg 0 (.ix (.v 0) (.c (.int 0)))] [.ite (.cmp .Lt (.v 1) (.v 6)) [.asg 7 (.bin .Sub (.bP 0 "ends_ahead" (.v 2) [(.bin .Sub (.bin .Add (.ix (.v 4) (.c (.int 0))) (.v 1)) (.v 5))]) (.bP 0 "ends_ahead" (.v 2) [(.ix (.v 4) (.c (.int 0)))])),
    .ret (.bin .Add (.bin .Add (.v 3) (.call 1 [(.ix (.v 0) (.c (.int 0)))])) (.v 7))] [.asg 3 (.bin .Add (.bin .Add (.v 3) (.call 1 [(.ix (.v 0) (.c (.int 0)))])) (.ix (.v 4) (.c (.int 2)))),
    .asg 1 (.bin .Sub (.v 1) (.v 6)),
    .asg 0 (.ix (.v 0) (.c (.int 2)))]]],
 .ret (.v 3)]
def Y_:List Str:=["size_of","ends_of"]
def Za:List Str:=[]
def JO:List Str:=[]
def Zb:List Str:=["ends_ahead"]
def Zc:List Str:=[]
def Zd:List Str:=[]
def Ze:List Str:=[]
def yd:List Str:=["node","number","stock","place","begin","end"]
def JP:List Str:=["node","number","stock"]
noncomputable def ye:List RS:=
 [.asg 3 (.c (.int 0)),
 .iU (.or [(.cmp .Lt (.v 1) (.call 0 [(.ix (.v 0) (.c (.int 0)))])),(.cmp .GtE (.v 1) (.bin .Add (.call 0 [(.ix (.v 0) (.c (.int 0)))]) (.ix (.ix (.v 0) (.c (.int 1))) (.c (.int 2)))))]) [.ite (.cmp .Lt (.v 1) (.call 0 [(.ix (.v 0) (.c (.int 0)))])) [.asg 0 (.ix (.v 0) (.c (.int 0)))] [.asg 1 (.bin .Sub (.bin .Sub (.v 1) (.call 0 [(.ix (.v 0) (.c (.int 0)))])) (.ix (.ix (.v 0) (.c (.int 1))) (.c (.int 2)))),
   .asg 3 (.bin .Add (.bin .Add (.v 3) (.call 1 [(.ix (.v 0) (.c (.int 0)))])) (.ix (.ix (.v 0) (.c (.int 1))) (.c (.int 1)))),
   .asg 0 (.ix (.v 0) (.c (.int 2)))]],
 .asg 4 (.ix (.ix (.v 0) (.c (.int 1))) (.c (.int 0))),
 .asg 5 (.bP 0 "end_place" (.v 2) [(.bin .Sub (.bin .Add (.bP 1 "ends_ahead" (.v 2) [(.v 4)]) (.v 1)) (.call 0 [(.ix (.v 0) (.c (.int 0)))]))]),
 .ret (.bin .Sub (.bin .Add (.bin .Add (.v 3) (.call 1 [(.ix (.v 0) (.c (.int 0)))])) (.v 5)) (.v 4))]
def Zf:List Str:=["ends_of","size_of"]
def Zg:List Str:=[]
def JQ:List Str:=[]
def Zh:List Str:=["end_place","ends_ahead"]
def Zi:List Str:=[]
def Zj:List Str:=[]
def Zk:List Str:=[]
def yf:List Str:=["self","number"]
def JR:List Str:=["self","number"]
noncomputable def yg:List RS:=
 [.ret (.ix (.fld (.v 0) "feeds") (.v 1))]
def Zl:List Str:=[]
def Zm:List Str:=[]
def JS:List Str:=[]
def Zn:List Str:=[]
def Zo:List Str:=[]
def Zp:List Str:=[]
def Zq:List Str:=[]
def yh:List Str:=["self","line"]
def JT:List Str:=["self","line"]
noncomputable def yi:List RS:=
 [.ret (.hX (.cmp .Eq (.v 1) (.c (.int 0))) (.c (.int 0)) (.bin .Add (.call 0 [(.fld (.v 0) "node"),(.bin .Sub (.v 1) (.c (.int 1))),(.fld (.v 0) "stock")]) (.c (.int 1))))]
def Zr:List Str:=["place_of_end"]
def Zs:List Str:=[]
def JU:List Str:=[]
def Zt:List Str:=[]
def Zu:List Str:=[]
def Zv:List Str:=[]
def Zw:List Str:=[]
def yj:List Str:=["self","line","last","end"]
def JV:List Str:=["self","line"]
noncomputable def yk:List RS:=
 [.ite (.not (.call 0 [(.v 1),(.c (.int 0)),(.bin .Sub (.bP 0 "lines" (.v 0) []) (.c (.int 1)))])) [.eO 0 [(.c (.str "the text has no such line"))]] [],
 .asg 2 (.cmp .Eq (.v 1) (.bin .Sub (.bP 0 "lines" (.v 0) []) (.c (.int 1)))),
 .asg 3 (.hX (.v 2) (.bP 1 "size" (.v 0) []) (.call 1 [(.fld (.v 0) "node"),(.v 1),(.fld (.v 0) "stock")])),
 .ret (.bin .Sub (.v 3) (.bP 2 "line_begin" (.v 0) [(.v 1)]))]
def Zx:List Str:=["is_between","place_of_end"]
def Zy:List Str:=[]
def JW:List Str:=[]
def Zz:List Str:=["lines","size","line_begin"]
def ZA:List Str:=[]
def ZC:List Str:=["NoPlace"]
def ZD:List Str:=[]
def yl:List Str:=["self","place","line"]
def JX:List Str:=["self","place"]
noncomputable def ym:List RS:=
 [.ite (.not (.call 0 [(.v 1),(.c (.int 0)),(.bP 0 "size" (.v 0) [])])) [.eO 0 [(.c (.str "the text has no such place"))]] [],
 .asg 2 (.call 1 [(.fld (.v 0) "node"),(.v 1),(.fld (.v 0) "stock")]),
 .ret (.tup [(.v 2),(.bin .Sub (.v 1) (.bP 1 "line_begin" (.v 0) [(.v 2)]))])]
def ZE:List Str:=["is_between","ends_ahead_of"]
def ZF:List Str:=[]
def JY:List Str:=[]
def ZG:List Str:=["size","line_begin"]
def ZH:List Str:=[]
def ZI:List Str:=["NoPlace"]
def ZJ:List Str:=[]
def yn:List Str:=["self","line","column"]
def JZ:List Str:=["self","line","column"]
noncomputable def yo:List RS:=
 [.ite (.not (.call 0 [(.v 2),(.c (.int 0)),(.bP 0 "line_size" (.v 0) [(.v 1)])])) [.eO 0 [(.c (.str "the line has no such column"))]] [],
 .ret (.bin .Add (.bP 1 "line_begin" (.v 0) [(.v 1)]) (.v 2))]
def ZK:List Str:=["is_between"]
def ZL:List Str:=[]
def J0:List Str:=[]
def ZM:List Str:=["line_size","line_begin"]
def ZN:List Str:=[]
def ZO:List Str:=["NoPlace"]
def ZP:List Str:=[]
end L2.B
namespace L2
open PySem PySem.Spec PyProof.Rows
section
variable {X:Cx}
def rE:V→List V→Hp→VK→Prop:=fun x vs H Q=> ∃z y,x= .str z∧vs=[.str y]∧(y.length==0)=false∧z.length≤1000000∧ ∀l,H l=none→Q (.ref l) (upd H l (.lst ((Txt.split z y).map V.str)))
theorem J3: ∀(l:List (Str×Tok)),Vals ((l.map (·.1)).map V.str) (strValues l)
 | []=> .nil
 | (x,t)::r=> .cons ⟨t,rfl⟩ (J3 r)
theorem ZQ:g8 X "str.split" rE:=by
 intro pins s σ H x vs v us Q I rx rv h
 obtain⟨z,y,rfl,rfl,hy,hz,q⟩:=h
 obtain⟨t,rfl⟩:=rx
 obtain⟨u,rfl,⟨t2,rfl⟩⟩:=vals1 rv
 have hs:z.length≤sizeLine:=Nat.le_trans hz (by decide)
 have hn:(Builtin.Str.partsBetween z (Builtin.Str.occurrences z y 0 z.length (z.length+1)) y.length).length≤sizeLine:=by
  have e1:=StrLaws.occ_length_le z y 0 z.length (z.length+1)
  rw[length_partsBetween]
  have:z.length+2≤sizeLine:=Nat.le_trans (Nat.add_le_add_right hz 2) (by decide)
  omega
 have ln:(Txt.split z y).length≤sizeLine:=by
  unfold Txt.split
  split
  ·show 1≤sizeLine;decide
  ·split
   ·show 1≤sizeLine;decide
   ·exact hn
 have qq:=q s.heap.objs.size (I.aI.fresh (Nat.le_refl _))
 have fin: ∀(l:List (Str×Tok)) (k:Nat),l.map (·.1)=Txt.split z y→EP X pins σ Q (.ref s.heap.objs.size) {s with toks:=k,heap:=s.heap.push {cls:= .type "list",data:= .seq (strValues l).toArray}}:=fun l k e=>by
  rw[←e] at qq ln
  exact⟨.ref s.heap.objs.size,_,I.laid (o:= .lst ((l.map (·.1)).map V.str)) (t':=k) (fun b u e=>Heap.get?_push_of_some _ e) (Nat.le_refl _) ⟨by rw[List.length_map];exact ln,_,_,J3 l,Heap.get?_push_size _ rfl⟩,rfl,qq⟩
 cases h1:(decide (z.length<y.length) || decide (Builtin.Str.strKind z<Builtin.Str.strKind y))
 ·cases hf:(Builtin.Str.occurrences z y 0 z.length (z.length+1)).isEmpty
  ·refine call_meets F.slot_str_split (typeIs_str _ _ _) F.entry_str_split (F.args_str_split_2 _ _) (meets_str_split_sep z y t t2 h1 hy hf hs hn) ?_
   show wants _ _ _ {s with toks:=_,heap:=s.heap.push {cls:= .type "list",data:= .seq (strsFrom s.toks (Builtin.Str.partsBetween z (Builtin.Str.occurrences z y 0 z.length (z.length+1)) y.length)).toArray}}
   rw[strsFrom_eq]
   exact fin (numbered s.toks _) _ ((numbered_texts _ _).trans ((if_neg (ne_true_of_eq_false h1)).trans (if_neg (ne_true_of_eq_false hf))).symm)
  ·exact call_meets F.slot_str_split (typeIs_str _ _ _) F.entry_str_split (F.args_str_split_2 _ _) (meets_str_split_not_found z y t t2 h1 hy hf)
    (fin [(z,t)] s.toks ((if_neg (ne_true_of_eq_false h1)).trans (if_pos hf)).symm)
 ·exact call_meets F.slot_str_split (typeIs_str _ _ _) F.entry_str_split (F.args_str_split_2 _ _) (meets_str_split_cannot_occur z y t t2 h1)
   (fin [(z,t)] s.toks (if_pos h1).symm)
def ic(z:Str)(n:Int):Str:=⟨((List.replicate n.toNat z.cps.toList).flatten).toArray⟩
def yp:R2:=fun x y H Q=> ∃z n,x= .str z∧y= .int n∧0≤n∧n≤1000∧z.length≤1000∧Q (.str (ic z n)) H
theorem J4(z:Str)(n:Nat):(⟨(List.replicate n z.cps).foldl (· ++ ·) #[]⟩:Str)=⟨((List.replicate n z.cps.toList).flatten).toArray⟩:=by
 have: ∀(n:Nat) (acc:Array Nat),((List.replicate n z.cps).foldl (· ++ ·) acc).toList=acc.toList++ (List.replicate n z.cps.toList).flatten:=by
  intro n
  induction n with
  | zero=>intro acc;simp
  | succ n ih=>intro acc;rw[List.replicate_succ,List.foldl_cons,ih,List.replicate_succ,List.flatten_cons,Array.toList_append,List.append_assoc]
 congr 1
 apply Array.ext'
 rw[this];simp
theorem ZR:bp X (binaryOp .Mult) yp:=by
 intro pins s σ H x y v u Q I rx ry h
 obtain⟨z,n,rfl,rfl,h0,h1,hz,q⟩:=h
 obtain⟨t,rfl⟩:=rx
 obtain⟨t2,rfl⟩:=ry
 have nl:n.toNat≤1000:=by omega
 have ml:z.length*n.toNat≤1000*1000:=Nat.mul_le_mul hz nl
 refine P.mul_str (by rw[decide_eq_false (by omega),decide_eq_false (by omega)];rfl) (fun h2 _=> ?_) (fun _ _=> ?_) ?_
 ·have:(1000:Int)≤ (2 ^ 63 - 1) / n:=(Int.le_ediv_iff_mul_le (by omega)).mpr (by omega)
  omega
 ·unfold Builtin.Str.tooLong
  have hh:(1000*1000:Nat)≤sizeLine:=by decide
  exact decide_eq_false (by omega)
 ·by_cases g0:n<1
  ·rw[if_pos g0]
   have e:ic z n=Str.empty:=by
    have:n.toNat=0:=by omega
    unfold ic;rw[this];rfl
   rw[e] at q
   exact⟨by decide, .str Str.empty,H,I.tok _,⟨_,rfl⟩,q⟩
  ·rw[if_neg g0]
   cases g1:(n==1 || z.length==0)
   ·rw[if_neg (by simp)]
    refine⟨?_, .str _,H,I.tok _,⟨_,rfl⟩, ?_⟩
    ·rw[J4]
     show(((List.replicate n.toNat z.cps.toList).flatten).toArray).size≤sizeLine
     have e:(((List.replicate n.toNat z.cps.toList).flatten).toArray).size=n.toNat*z.length:=by
      rw[List.size_toArray,len_rep];rfl
     rw[e,Nat.mul_comm]
     exact Nat.le_trans ml (by decide)
    ·rw[J4];exact q
   ·rw[if_pos rfl]
    refine⟨.str z,H,I,⟨_,rfl⟩, ?_⟩
    have e:ic z n=z:=by
     rw[Bool.or_eq_true] at g1
     have key:(List.replicate n.toNat z.cps.toList).flatten=z.cps.toList:=by
      rcases g1 with g | g
      ·have:n.toNat=1:=by have:=eq_of_beq g;omega
       rw[this];simp
      ·have z0:z.cps.toList=[]:=List.eq_nil_of_length_eq_zero (by have:z.length=0:=eq_of_beq g;simpa[Str.length] using this)
       rw[z0];simp
     unfold ic
     rw[key]
    rw[e] at q;exact q
def yq:PySem.W.Frag→TA→TE:=fun _ t σ H Q=>t σ H fun vs H1=>match vs with | [x,y]=>yp x y H1 Q | _=>False
def yr:PySem.W.Frag→TE→TA→TE:=fun K to t=>uT K "str" rE to t
end
section
variable {CX:aL} {S:cH} {Γ:aF} {X:Cx} {e e2 a b c d:Expr} {es:List Expr} {x:Str} {p q pos:Pos} {r ra rb rc:RE} {rs:List RE} {i j:Nat}
theorem ZS(ha:PE X a (ah Γ ra))(hb:PE X b (ah Γ rb)):PE X (.BinOp a .Mult b pos) (ah Γ (.xt yq [ra,rb])):=Fm ZR ha hb
theorem ZT{o:Expr}{ro:RE}{ap:Pos}(G:Good CX S Γ X)(ho:PE X o (ah Γ ro))(hA:PA X (e::es) (bq Γ (r::rs)))(h:kM o "split" x (es.length+1) ap pos=true:=by kernel_rfl)(hn:d_ (e::es)=true:=by kernel_rfl):PE X (.Call (.Attribute o x ap) (e::es) [] pos) (ah Γ (.xm yr ro (r::rs))):=by
 simp only[kM,Bool.and_eq_true,decide_eq_true_eq] at h
 obtain⟨⟨⟨rfl,h2⟩,h3⟩,h4⟩:=h
 show PE X _ (uT Γ.K "str" rE (ah Γ ro) (bq Γ (r::rs)))
 rw[←G.K]
 exact Gb F.plainAttrs_str F.slot_str_split F.type_str_split ZQ ho hA (jG h2) (YH h4 (qT _ _ (e::es) hn) rfl) h3 (dj (dm hn).1) (gB _ _ es (dm hn).2)
end
end L2
namespace L2.j7
open PySem PySem.Spec PyProof.Rows L2.B
def bD(i:Nat):Stmt:=(PySem.Challenge.pw_inkloom_k16_lines_and_places.main.body).getD i (.Pass ⟨0,0,0,0⟩)
def j8:Stmt:=bD 9
theorem ZU:bj wk HW (au j8):=bA
theorem ZV{CX:aL}{Γ:aF}{X:Cx}(G:aP CX (aX wk (au j8) UH UI HX UJ UK UL UM 0) Γ X):aY X (aA j8) (ar Γ wm):=by
 have g:=G.toGood
 exact(ai (aV (gC (h_ g (aa g)) (h9 (v_ g (h_ g (aa g)))))) av)
def j9:Stmt:=bD 10
theorem ZW:bj wG Ir (au j9):=bA
theorem ZX{CX:aL}{Γ:aF}{X:Cx}(G:aP CX (aX wG (au j9) VF VG Iu VH VI VJ VL 0) Γ X):aY X (aA j9) (ar Γ wH):=by
 have g:=G.toGood
 exact(ai (aV (gC (aD g (af (aa g) aq)) (h9 (Uk g (aa g) (aa g) (aa g))))) av)
def j_:Stmt:=bD 11
theorem ZY:bj rg HY (au j_):=bA
theorem ZZ{CX:aL}{Γ:aF}{X:Cx}(G:aP CX (aX rg (au j_) UN UO HZ UP UQ UR US 0) Γ X):aY X (aA j_) (ar Γ rj):=by
 have g:=G.toGood
 exact(ai (aV (gC (h_ g (aa g)) (h9 (eY g (aa g) (aa g))))) av)
def ka:Stmt:=bD 12
theorem Z0:bj rk H9 (au ka):=bA
theorem Z1{CX:aL}{Γ:aF}{X:Cx}(G:aP CX (aX rk (au ka) UT UU H_ UW UX UY UZ 0) Γ X):aY X (aA ka) (ar Γ rm):=by
 have g:=G.toGood
 exact(ai (aV (gC (h_ g (aa g)) (h9 (eY g (dq g (aa g) (af (HM g) aq)) ba)))) av)
def kc:Stmt:=bD 13
theorem Z2:bj wo Ia (au kc):=bA
theorem Z3{CX:aL}{Γ:aF}{X:Cx}(G:aP CX (aX wo (au kc) U0 U1 Ib U2 U3 U4 U5 0) Γ X):aY X (aA kc) (ar Γ wq):=by
 have g:=G.toGood
 exact(ai (bw (cY (dB g (aD g (af (aa g) aq)))) (ai (fN G (af ba aq)) av) av) av)
def kd:Stmt:=bD 15
theorem Z4:bj oo Ic (au kd):=bA
theorem Z5{CX:aL}{Γ:aF}{X:Cx}(G:aP CX (aX oo (au kd) U6 U7 Ie U8 U9 U_ Va 0) Γ X):aY X (aA kd) (ar Γ ou):=by
 have g:=G.toGood
 exact(ai (bw (PW.pt (eZ (cY (we g (h_ g (aa g)))) (gE (bf g (cv g (af (aa g) aq)) ao)))) (ai (aV hZ) av) av) (ai (bw (dB g (aD g (af (az g (aa g) ao) (af (b7 (af ba aq)) aq)))) (ai (aV (gC (aD g (af (az g (aa g) ao) aq)) (h9 (eY g (az g (aa g) ao) ao)))) av) av) (ai (aV (gC (aD g (af (az g (aa g) ao) (af (b7 (af ba (af ba aq))) aq))) (gC (aD g (af (az g (aa g) ao) aq)) (h9 (eY g (az g (aa g) ao) ba))))) av)))
def ke:Stmt:=bD 16
theorem Z6:bj wt Ig (au ke):=bA
theorem Z7{CX:aL}{Γ:aF}{X:Cx}(G:aP CX (aX wt (au ke) Vb Vc Ih Vd Ve Vf Vg 0) Γ X):aY X (aA ke) (ar Γ wu):=by
 have g:=G.toGood
 exact(ai (aV (gC (eY g (aa g) (aa g)) (h9 (v_ g (gC (eY g (aa g) ba) (h9 (eY g (aa g) ba))))))) av)
def kf:Stmt:=bD 17
theorem Z8:bj wx Ii (au kf):=bA
theorem Z9{CX:aL}{Γ:aF}{X:Cx}(G:aP CX (aX wx (au kf) Vh Vi Ij Vj Vk Vl Vm 0) Γ X):aY X (aA kf) (ar Γ wy):=by
 have g:=G.toGood
 exact(ai (bw (cY (we g (h_ g (aa g)))) (ai (fN G (af ba aq)) av) av) (ai (aJ G ba) (ai (i6 G (ia g (aa g)) (ai (bw (cY (dB g (aD g (af (aa g) aq)))) (ai (fN G (af ba aq)) av) av) (ai (bw (cY (dB g (aD g (af (az g (aa g) ao) (af (aa g) aq))))) (ai (fN G (af ba aq)) av) av) (ai (aJ G (az g (aa g) ao)) av)))) av)))
def kg:Stmt:=bD 18
theorem Z_:bj wz Ik (au kg):=bA
theorem aaa{CX:aL}{Γ:aF}{X:Cx}(G:aP CX (aX wz (au kg) Vn Vo Il Vp Vq Vr Vs 0) Γ X):aY X (aA kg) (ar Γ wA):=by
 have g:=G.toGood
 exact(ai (aV (mM (bf g (az g (aa g) ao) ba) (az g (aa g) ao) (cv g (af (az g (aa g) ao) aq)))) av)
def kh:Stmt:=bD 19
theorem aab:bj wB Im (au kh):=bA
theorem aac{CX:aL}{Γ:aF}{X:Cx}(G:aP CX (aX wB (au kh) Vt Vu Io Vv Vw Vx Vy 0) Γ X):aY X (aA kh) (ar Γ wC):=by
 have g:=G.toGood
 exact(ai (dM (aD g (af (aa g) aq))) (ai (aJ G (cv g (af (wb (ln:=["part"]) g (by kernel_rfl) (ia g (aa g)) (HP fun _ g=> (bf g (az g (aa g) ao) ba)) (fun _ g=> (aD g (af (aa g) aq)))) aq))) (ai (aJ G (cv g (af (wb (ln:=["part"]) g (by kernel_rfl) (ia g (aa g)) (HP fun _ g=> (bf g (az g (aa g) ao) ba)) (fun _ g=> (aD g (af (aa g) aq)))) aq))) (ai (aV (b7 (af (aa g) (af (aa g) aq)))) av))))
def ki:Stmt:=bD 21
theorem aad:bj wR IF (au ki):=bA
theorem aae{CX:aL}{Γ:aF}{X:Cx}(G:aP CX (aX wR (au ki) Wf Wg IG Wh Wi Wj Wk 0) Γ X):aY X (aA ki) (ar Γ wU):=by
 have g:=G.toGood
 exact(ai (aV (mM (bf g (aa g) dA) ao (az g (aa g) ao))) av)
def kj:Stmt:=bD 22
theorem aaf:bj wV IH (au kj):=bA
theorem aag{CX:aL}{Γ:aF}{X:Cx}(G:aP CX (aX wV (au kj) Wl Wm II Wn Wo Wq Wr 0) Γ X):aY X (aA kj) (ar Γ wW):=by
 have g:=G.toGood
 exact(ai (aV (mM (bf g (aa g) dA) ao (az g (aa g) ao))) av)
def kl:Stmt:=bD 23
theorem aah:bj wX IJ (au kl):=bA
theorem aai{CX:aL}{Γ:aF}{X:Cx}(G:aP CX (aX wX (au kl) Ws Wt IL Wu Wv Ww Wx 0) Γ X):aY X (aA kl) (ar Γ wY):=by
 have g:=G.toGood
 exact(ai (aV (mM (bf g (aa g) dA) ao (az g (aa g) ao))) av)
def km:Stmt:=bD 24
theorem aaj:bj wZ IM (au km):=bA
theorem aak{CX:aL}{Γ:aF}{X:Cx}(G:aP CX (aX wZ (au km) Wy Wz IP WA WB WC WD 0) Γ X):aY X (aA km) (ar Γ w4):=by
 have g:=G.toGood
 exact(ai (aJ G (aC g ao (cv g (af (aD g (af (aa g) aq)) (af (aD g (af (aa g) aq)) aq))))) (ai (aJ G (aC g (aC g (aD g (af (aa g) aq)) (az g (aa g) ao)) (aD g (af (aa g) aq)))) (ai (aV (b7 (af (aa g) (af (aa g) (af (aa g) (af (aa g) (af (aa g) (af (aC g (aC g (aD g (af (aa g) aq)) (az g (aa g) ao)) (aD g (af (aa g) aq))) aq)))))))) av)))
def ko:Stmt:=bD 25
theorem aal:bj w5 IQ (au ko):=bA
theorem aam{CX:aL}{Γ:aF}{X:Cx}(G:aP CX (aX w5 (au ko) WE WG IS WH WI WJ WK 0) Γ X):aY X (aA ko) (ar Γ w6):=by
 have g:=G.toGood
 exact(ai (aJ G (az g (aa g) ao)) (ai (bw (bf g (aD g (af (az g (aa g) ao) aq)) (aD g (af (aa g) aq))) (ai (aV (aD g (af (az g (aa g) ao) (af (az g (aa g) ao) (af (aD g (af (aa g) (af (aa g) (af (aa g) aq)))) aq))))) av) av) (ai (aV (aD g (af (aD g (af (az g (aa g) ao) (af (az g (aa g) ao) (af (az g (aa g) ao) aq)))) (af (az g (aa g) ao) (af (aD g (af (az g (aa g) ao) (af (aa g) (af (aa g) aq)))) aq))))) av)))
def kq:Stmt:=bD 26
theorem aan:bj w9 IT (au kq):=bA
theorem aao{CX:aL}{Γ:aF}{X:Cx}(G:aP CX (aX w9 (au kq) WL WM IU WN WO WQ WR 0) Γ X):aY X (aA kq) (ar Γ w_):=by
 have g:=G.toGood
 exact(ai (aJ G (az g (aa g) ao)) (ai (bw (bf g (aD g (af (az g (aa g) ao) aq)) (aD g (af (aa g) aq))) (ai (aV (aD g (af (aD g (af (aa g) (af (aa g) (af (aa g) aq)))) (af (az g (aa g) ao) (af (az g (aa g) ao) aq))))) av) av) (ai (aV (aD g (af (aD g (af (aa g) (af (aa g) (af (az g (aa g) ao) aq)))) (af (az g (aa g) ao) (af (aD g (af (az g (aa g) ao) (af (az g (aa g) ao) (af (az g (aa g) ao) aq)))) aq))))) av)))
def kr:Stmt:=bD 27
theorem aap:bj xa IV (au kr):=bA
theorem aaq{CX:aL}{Γ:aF}{X:Cx}(G:aP CX (aX xa (au kr) WS WT IW WU WV WW WX 0) Γ X):aY X (aA kr) (ar Γ xb):=by
 have g:=G.toGood
 exact(ai (bw (bf g (aD g (af (aa g) aq)) (aC g (aD g (af (aa g) aq)) ao)) (ai (aV (aD g (af (aa g) (af (aa g) (af (aa g) aq))))) av) av) (ai (bw (bf g (aD g (af (aa g) aq)) (aC g (aD g (af (aa g) aq)) ao)) (ai (aV (aD g (af (aa g) (af (aa g) (af (aa g) aq))))) av) av) (ai (aV (aD g (af (aa g) (af (aa g) (af (aa g) aq))))) av)))
def ku:Stmt:=bD 28
theorem J5:bj xf IX (au ku):=bA
theorem aar{CX:aL}{Γ:aF}{X:Cx}(G:aP CX (aX xf (au ku) WY WZ IY W0 W2 W3 W4 0) Γ X):aY X (aA ku) (ar Γ xg):=by
 have g:=G.toGood
 exact(ai (bw (bf g (aD g (af (aa g) aq)) (aC g (aD g (af (aa g) aq)) ao)) (ai (aV (aD g (af (az g (aa g) ao) (af (az g (aa g) ao) (af (aD g (af (az g (aa g) ao) (af (aa g) (af (aa g) aq)))) aq))))) av) av) (ai (bw (bf g (aD g (af (aa g) aq)) (aC g (aD g (af (aa g) aq)) ao)) (ai (aV (aD g (af (aD g (af (aa g) (af (aa g) (af (az g (aa g) ao) aq)))) (af (az g (aa g) ao) (af (az g (aa g) ao) aq))))) av) av) (ai (aV (aD g (af (aa g) (af (aa g) (af (aa g) aq))))) av)))
def kx:Stmt:=bD 29
theorem J6:bj xh IZ (au kx):=bA
theorem aas{CX:aL}{Γ:aF}{X:Cx}(G:aP CX (aX xh (au kx) W5 W6 I0 W7 W8 W9 W_ 0) Γ X):aY X (aA kx) (ar Γ xi):=by
 have g:=G.toGood
 exact(ai (bw (bf g (az g (aa g) ao) dA) (ai (aV (b7 (af (az g (aa g) ao) (af (az g (aa g) ao) aq)))) av) av) (ai (aJ G (aD g (af (az g (aa g) ao) aq))) (ai (aV (b7 (af (aD g (af (az g (aa g) ao) (af (az g (aa g) ao) (af (az g (aa g) ao) aq)))) (af (az g (aa g) ao) aq)))) av)))
def ky:Stmt:=bD 30
theorem J7:bj xj I_ (au ky):=bA
theorem aat{CX:aL}{Γ:aF}{X:Cx}(G:aP CX (aX xj (au ky) Xa Xb Ja Xd Xe Xf Xg 0) Γ X):aY X (aA ky) (ar Γ xk):=by
 have g:=G.toGood
 exact(ai (bw (bf g (az g (aa g) ao) dA) (ai (aV (b7 (af (az g (aa g) ao) (af (az g (aa g) ao) aq)))) av) av) (ai (aJ G (aD g (af (az g (aa g) ao) aq))) (ai (aV (b7 (af (az g (aa g) ao) (af (aD g (af (az g (aa g) ao) (af (az g (aa g) ao) (af (az g (aa g) ao) aq)))) aq)))) av)))
def kz:Stmt:=bD 31
theorem aau:bj xl Jb (au kz):=bA
theorem aav{CX:aL}{Γ:aF}{X:Cx}(G:aP CX (aX xl (au kz) Xh Xi Jc Xj Xk Xl Xm 0) Γ X):aY X (aA kz) (ar Γ xn):=by
 have g:=G.toGood
 exact(ai (bw (bf g (aa g) dA) (ai (aV (aa g)) av) av) (ai (aJ G (aD g (af (aa g) aq))) (ai (aJ G (aD g (af (aa g) aq))) (ai (aJ G (az g (aa g) ao)) (ai (aJ G (az g (aa g) ao)) (ai (bw (bf g (aC g (az g (aa g) ao) (az g (aa g) ao)) (az g (aa g) ao)) (ai (aV (aD g (af (az g (aa g) ao) (af (b7 (af (az g (aa g) ao) (af (aC g (az g (aa g) ao) (az g (aa g) ao)) (af (aC g (az g (aa g) ao) (az g (aa g) ao)) aq)))) (af (az g (aa g) ao) aq))))) av) av) (ai (aV (aD g (af (az g (aa g) ao) (af (aa g) (af (aa g) aq))))) av)))))))
def kA:Stmt:=bD 32
theorem aaw:bj xo Jd (au kA):=bA
theorem aax{CX:aL}{Γ:aF}{X:Cx}(G:aP CX (aX xo (au kA) Xn Xo Je Xp Xq Xr Xs 0) Γ X):aY X (aA kA) (ar Γ xp):=by
 have g:=G.toGood
 exact(ai (aJ G (aC g (az g (aa g) ao) (aa g))) (ai (aJ G (aC g (cX g (aa g) (af (aa g) aq)) (cX g (aa g) (af (az g (aa g) ao) aq)))) (ai (aV (b7 (af (b7 (af (az g (aa g) ao) (af (aa g) (af (aa g) aq)))) (af (b7 (af (aa g) (af (aC g (az g (aa g) ao) (aa g)) (af (aC g (az g (aa g) ao) (aa g)) aq)))) aq)))) av)))
def kD:Stmt:=bD 33
theorem J8:bj xq Jf (au kD):=bA
theorem aay{CX:aL}{Γ:aF}{X:Cx}(G:aP CX (aX xq (au kD) Xt Xu Jg Xv Xw Xx Xy 0) Γ X):aY X (aA kD) (ar Γ xr):=by
 have g:=G.toGood
 exact(ai (bw (bf g (aa g) dA) (ai (aV (b7 (af dA (af dA aq)))) av) av) (ai (aJ G (az g (aa g) ao)) (ai (aJ G (aD g (af (az g (aa g) ao) aq))) (ai (aJ G (aC g (aa g) (az g (aa g) ao))) (ai (bw (bf g (aa g) (aa g)) (ai (aJ G (aD g (af (az g (aa g) ao) (af (aa g) (af (aa g) aq))))) (ai (aV (b7 (af (az g (aa g) ao) (af (aD g (af (az g (aa g) ao) (af (aa g) (af (az g (aa g) ao) aq)))) aq)))) av)) av) (ai (bw (bf g (aa g) (aa g)) (ai (aJ G (aD g (af (az g (aa g) ao) (af (aC g (aa g) (aa g)) (af (aa g) aq))))) (ai (aV (b7 (af (aD g (af (az g (aa g) ao) (af (aa g) (af (az g (aa g) ao) aq)))) (af (az g (aa g) ao) aq)))) av)) av) (ai (aJ G (aD g (af (aa g) (af (aC g (aa g) (aa g)) (af (aa g) aq))))) (ai (aV (b7 (af (aD g (af (az g (aa g) ao) (af (az g (aa g) ao) (af dA aq)))) (af (aD g (af dA (af (az g (aa g) ao) (af (az g (aa g) ao) aq)))) aq)))) av))))))))
def kE:Stmt:=bD 34
theorem J9:bj xu Jh (au kE):=bA
theorem aaz{CX:aL}{Γ:aF}{X:Cx}(G:aP CX (aX xu (au kE) Xz XA Ji XB XC XD XE 0) Γ X):aY X (aA kE) (ar Γ xv):=by
 have g:=G.toGood
 exact(ai (bw (bf g (aa g) dA) (ai (aV (eP aq)) av) av) (ai (aJ G (aD g (af (az g (aa g) ao) aq))) (ai (dM (dq g (aa g) (af (az g (aa g) ao) aq))) (ai (dM (dq g (aa g) (af (aD g (af (az g (aa g) ao) aq)) aq))) (ai (aV (aa g)) av)))))
def kH:Stmt:=bD 35
theorem aaA:bj yb JN (au kH):=bA
theorem aaB{CX:aL}{Γ:aF}{X:Cx}(G:aP CX (aX yb (au kH) Y_ Za JO Zb Zc Zd Ze 0) Γ X):aY X (aA kH) (ar Γ yc):=by
 have g:=G.toGood
 exact(ai (aJ G ao) (ai (oj G (bf g (aa g) dA) (ai (aJ G (az g (aa g) ao)) (ai (aJ G (aD g (af (az g (aa g) ao) aq))) (ai (aJ G (aC g (aa g) (az g (aa g) ao))) (ai (bw (bf g (aa g) (aa g)) (ai (aJ G (az g (aa g) ao)) av) (ai (bw (bf g (aa g) (aa g)) (ai (aJ G (aC g (cX g (aa g) (af (aC g (aC g (az g (aa g) ao) (aa g)) (aa g)) aq)) (cX g (aa g) (af (az g (aa g) ao) aq)))) (ai (aV (aC g (aC g (aa g) (aD g (af (az g (aa g) ao) aq))) (aa g))) av)) (ai (aJ G (aC g (aC g (aa g) (aD g (af (az g (aa g) ao) aq))) (az g (aa g) ao))) (ai (aJ G (aC g (aa g) (aa g))) (ai (aJ G (az g (aa g) ao)) av)))) av)) av))))) (ai (aV (aa g)) av)))
def kI:Stmt:=bD 36
theorem aaC:bj yd JP (au kI):=bA
theorem aaD{CX:aL}{Γ:aF}{X:Cx}(G:aP CX (aX yd (au kI) Zf Zg JQ Zh Zi Zj Zk 0) Γ X):aY X (aA kI) (ar Γ ye):=by
 have g:=G.toGood
 exact(ai (aJ G ao) (ai (oj G (PW.pt (eZ (bf g (aa g) (aD g (af (az g (aa g) ao) aq))) (gE (bf g (aa g) (aC g (aD g (af (az g (aa g) ao) aq)) (az g (az g (aa g) ao) ao)))))) (ai (bw (bf g (aa g) (aD g (af (az g (aa g) ao) aq))) (ai (aJ G (az g (aa g) ao)) av) (ai (aJ G (aC g (aC g (aa g) (aD g (af (az g (aa g) ao) aq))) (az g (az g (aa g) ao) ao))) (ai (aJ G (aC g (aC g (aa g) (aD g (af (az g (aa g) ao) aq))) (az g (az g (aa g) ao) ao))) (ai (aJ G (az g (aa g) ao)) av)))) av)) (ai (aJ G (az g (az g (aa g) ao) ao)) (ai (aJ G (cX g (aa g) (af (aC g (aC g (cX g (aa g) (af (aa g) aq)) (aa g)) (aD g (af (az g (aa g) ao) aq))) aq))) (ai (aV (aC g (aC g (aC g (aa g) (aD g (af (az g (aa g) ao) aq))) (aa g)) (aa g))) av)))))
def kJ:Stmt:=bD 38
theorem aaE:bj wJ Iw (au kJ):=bA
theorem aaF{CX:aL}{Γ:aF}{X:Cx}(G:aP CX (aX wJ (au kJ) VS VT Iy VU VV VW VX 0) Γ X):aY X (aA kJ) (ar Γ wK):=by
 have g:=G.toGood
 exact(ai (aJ G ao) (ai (aJ G (cv g (af (aa g) aq))) (ai (oj G (bf g (aa g) (aa g)) (ai (aJ G (aC g (aC g (aa g) (aa g)) ao)) (ai (bw (bf g (az g (aa g) (aa g)) (aa g)) (ai (aJ G (aC g (aa g) ao)) av) (ai (aJ G (aa g)) av)) av))) (ai (aV (aa g)) av))))
def kN:Stmt:=inClass (bD 40) 0
theorem aaG:bj wL Iz (au kN):=bA
theorem aaH{CX:aL}{Γ:aF}{X:Cx}(G:aP CX (aX wL (au kN) VY VZ IA V0 V1 V2 V3 0) Γ X):aY X (aA kN) (ar Γ wM):=by
 have g:=G.toGood
 exact(ai (jT G (aa g) (eP aq)) (ai (jT G (aa g) (eP aq)) (ai (jT G (aa g) (eP aq)) (ai (jT G (aa g) ao) av))))
def kO:Stmt:=inClass (bD 40) 1
theorem aaI:bj rp IB (au kO):=bA
theorem aaJ{CX:aL}{Γ:aF}{X:Cx}(G:aP CX (aX rp (au kO) V4 V5 IC V6 V7 V8 V9 0) Γ X):aY X (aA kO) (ar Γ wN):=by
 have g:=G.toGood
 exact(ai (dM (aD g (af (aa g) aq))) (ai (aJ G (cp g (aa g))) (ai (dM (dq g (cp g (aa g)) (af (aa g) aq))) (ai (dM (dq g (cp g (aa g)) (af (aa g) aq))) (ai (jT G (aa g) (aC g (aa g) (cv g (af (aa g) aq)))) (ai (aJ G (dq g (aa g) (af ba aq))) (ai (oj G (bf g (aa g) ao) (ai (dM (dq g (cp g (aa g)) (af (aC g (aa g) (aa g)) aq))) (ai (aJ G (dq g (aa g) (af ba (af (aC g (aa g) ao) aq)))) av))) (ai (aV (aa g)) av))))))))
def kP:Stmt:=inClass (bD 40) 2
theorem aaK:bj wO ID (au kP):=bA
theorem aaL{CX:aL}{Γ:aF}{X:Cx}(G:aP CX (aX wO (au kP) V_ Wa IE Wb Wc Wd We 0) Γ X):aY X (aA kP) (ar Γ wQ):=by
 have g:=G.toGood
 exact(ai (bw (PW.pt (eZ (cY (dB g (aD g (af (aa g) (af ao (af (cp g (aa g)) aq)))))) (gE (cY (dB g (aD g (af (aa g) (af ao (af (aC g (cp g (aa g)) (aa g)) aq))))))))) (ai (fN G (af ba aq)) av) av) (ai (aJ G (eP aq)) (ai (aJ G (aC g (aD g (af (cp g (aa g)) (af (aa g) aq))) ao)) (ai (aJ G (aC g (aa g) (aa g))) (ai (oj G (bf g (aa g) (aa g)) (ai (aJ G (aC g (aa g) (az g (cp g (aa g)) (aa g)))) (ai (aJ G (qZ g (az g (cp g (aa g)) (aa g)) (i5 (aa g)) (i5 (aC g (aC g (aa g) (aa g)) (aa g))))) (ai (dM (dq g (aa g) (af (aa g) aq))) (ai (aJ G (aC g (aa g) (cv g (af (aa g) aq)))) (ai (aJ G (aC g (aa g) ao)) av)))))) (ai (aV (dq g ba (af (aa g) aq))) av))))))
def kQ:Stmt:=inClass (bD 40) 4
theorem aaM:bj xx Jj (au kQ):=bA
theorem aaN{CX:aL}{Γ:aF}{X:Cx}(G:aP CX (aX xx (au kQ) XF XG Jk XH XI XJ XM 0) Γ X):aY X (aA kQ) (ar Γ xy):=by
 have g:=G.toGood
 exact(ai (aV (aD g (af (cp g (aa g)) (af (aC g (aa g) ao) aq)))) av)
def kR:Stmt:=inClass (bD 40) 5
theorem aaO:bj yf JR (au kR):=bA
theorem aaP{CX:aL}{Γ:aF}{X:Cx}(G:aP CX (aX yf (au kR) Zl Zm JS Zn Zo Zp Zq 0) Γ X):aY X (aA kR) (ar Γ yg):=by
 have g:=G.toGood
 exact(ai (aV (az g (cp g (aa g)) (aa g))) av)
def kS:Stmt:=bD 42
theorem aaQ:bj xB Jl (au kS):=bA
theorem aaR{CX:aL}{Γ:aF}{X:Cx}(G:aP CX (aX xB (au kS) XN XO Jm XQ XR XS XT 0) Γ X):aY X (aA kS) (ar Γ xC):=by
 have g:=G.toGood
 exact(ai (bw (bf g (aa g) ba) (ai (aV dA) av) av) (ai (aV (aD g (af dA (af (b7 (af (cX g (aa g) (af (aa g) aq)) (af (cv g (af (aa g) aq)) (af (dq g (aa g) (af ba aq)) aq)))) (af dA aq))))) av))
def kT:Stmt:=bD 43
theorem aaS:bj xD Jo (au kT):=bA
theorem aaT{CX:aL}{Γ:aF}{X:Cx}(G:aP CX (aX xD (au kT) XU XW Jp XX XY XZ X0 0) Γ X):aY X (aA kT) (ar Γ xE):=by
 have g:=G.toGood
 exact(ai (dM (aD g (af (aa g) aq))) (ai (aJ G (Ul g)) (ai (aV (HN g (af (aa g) (af (aD g (af (aa g) (af (aa g) aq))) aq)))) av)))
def kU:Stmt:=bD 44
theorem aaU:bj xF Jq (au kU):=bA
theorem aaV{CX:aL}{Γ:aF}{X:Cx}(G:aP CX (aX xF (au kU) X1 X3 Jr X4 X5 X6 X7 0) Γ X):aY X (aA kU) (ar Γ xG):=by
 have g:=G.toGood
 exact(ai (bw (bf g (az g (aD g (af (aa g) aq)) ao) (i0 g (aa g))) (ai (fN G (af ba aq)) av) av) (ai (aJ G ao) (ai (i6 G (ia g (aa g)) (ai (bw (PW.pt (q8 (bf g (az g (aa g) ao) ba) (wc (bf g (cX g (aa g) (af (aa g) (af (aC g (aa g) (cv g (af (az g (aa g) ao) aq))) aq))) (az g (aa g) ao))))) (ai (fN G (af ba aq)) av) av) (ai (bw (bf g (az g (aa g) ao) ba) (ai (aJ G (aC g (aa g) (aD g (af (aa g) aq)))) av) av) av))) av)))
def kW:Stmt:=bD 45
theorem aaW:bj xH Js (au kW):=bA
theorem aaX{CX:aL}{Γ:aF}{X:Cx}(G:aP CX (aX xH (au kW) X8 X9 Jt X_ Ya Yb Yc 0) Γ X):aY X (aA kW) (ar Γ xI):=by
 have g:=G.toGood
 exact(ai (aV (wb (ln:=["piece"]) g (by kernel_rfl) (ia g (aD g (af (aa g) aq))) Uo (fun _ g=> (cX g (aa g) (af (az g (aa g) ao) (af (az g (aa g) ao) aq)))))) av)
def kY:Stmt:=inClass (bD 46) 0
theorem aaY:bj xJ Ju (au kY):=bA
theorem aaZ{CX:aL}{Γ:aF}{X:Cx}(G:aP CX (aX xJ (au kY) Yd Ye Jv Yf Yg Yh Yi 0) Γ X):aY X (aA kY) (ar Γ xM):=by
 have g:=G.toGood
 exact(ai (jT G (aa g) (aa g)) (ai (jT G (aa g) (aa g)) av))
def kZ:Stmt:=inClass (bD 46) 1
theorem aa0:bj xO Jw (au kZ):=bA
theorem aa1{CX:aL}{Γ:aF}{X:Cx}(G:aP CX (aX xO (au kZ) Yj Yk Jx Yl Ym Yn Yo 0) Γ X):aY X (aA kZ) (ar Γ xQ):=by
 have g:=G.toGood
 exact(ai (aV (aD g (af (cp g (aa g)) aq))) av)
def k_:Stmt:=inClass (bD 46) 2
theorem aa2:bj xR Jy (au k_):=bA
theorem aa3{CX:aL}{Γ:aF}{X:Cx}(G:aP CX (aX xR (au k_) Yp Yq Jz Yr Ys Yt Yu 0) Γ X):aY X (aA k_) (ar Γ xS):=by
 have g:=G.toGood
 exact(ai (aV (aC g (aD g (af (cp g (aa g)) aq)) ao)) av)
def lg:Stmt:=inClass (bD 46) 6
theorem aa4:bj xT JA (au lg):=bA
theorem aa5{CX:aL}{Γ:aF}{X:Cx}(G:aP CX (aX xT (au lg) Yv Yw JB Yx Yy Yz YA 0) Γ X):aY X (aA lg) (ar Γ xU):=by
 have g:=G.toGood
 exact(ai (bw (PW.pt (eZ (cY (dB g (aD g (af (aa g) (af ao (af (i0 g (aa g)) aq)))))) (gE (cY (dB g (aD g (af (aa g) (af (aa g) (af (i0 g (aa g)) aq))))))))) (ai (fN G (af ba aq)) av) av) (ai (aJ G (az g (aD g (af (cp g (aa g)) (af (aa g) (af (cp g (aa g)) aq)))) ao)) (ai (aV (dq g ba (af (aD g (af (cp g (aa g)) (af (az g (aD g (af (aa g) (af (aa g) (af (cp g (aa g)) aq)))) ao) aq))) aq))) av)))
def lh:Stmt:=inClass (bD 46) 7
theorem aa6:bj xV JC (au lh):=bA
theorem aa7{CX:aL}{Γ:aF}{X:Cx}(G:aP CX (aX xV (au lh) YB YC JD YD YE YF YG 0) Γ X):aY X (aA lh) (ar Γ xW):=by
 have g:=G.toGood
 exact(ai (dM (aD g (af (aa g) (af (aa g) aq)))) (ai (aJ G dA) (ai (aJ G (cp g (aa g))) (ai (i6 G (ia g (aa g)) (ai (bw (bf g (az g (aa g) ao) ba) (ai (aJ G (aD g (af (aa g) (af (aD g (af (cp g (aa g)) (af (az g (aa g) ao) aq))) aq)))) (ai Uv av)) av) (ai (aJ G (aD g (af (aa g) (af (aD g (af (aa g) aq)) (af (cp g (aa g)) aq))))) (ai (aJ G (az g (aa g) ao)) (ai (bw (bf g (az g (aa g) ao) ba) (ai (aJ G (aD g (af (aa g) (af (az g (aa g) ao) aq)))) av) av) av))))) (ai (aV (HN g (af (cp g (aa g)) (af (aa g) aq)))) av)))))
def lj:Stmt:=inClass (bD 46) 8
theorem aa8:bj yh JT (au lj):=bA
theorem aa9{CX:aL}{Γ:aF}{X:Cx}(G:aP CX (aX yh (au lj) Zr Zs JU Zt Zu Zv Zw 0) Γ X):aY X (aA lj) (ar Γ yi):=by
 have g:=G.toGood
 exact(ai (aV (mM (bf g (aa g) ao) ao (aC g (aD g (af (cp g (aa g)) (af (aC g (aa g) ao) (af (cp g (aa g)) aq)))) ao))) av)
def lA:Stmt:=inClass (bD 46) 9
theorem aa_:bj yj JV (au lA):=bA
theorem aba{CX:aL}{Γ:aF}{X:Cx}(G:aP CX (aX yj (au lA) Zx Zy JW Zz ZA ZC ZD 0) Γ X):aY X (aA lA) (ar Γ yk):=by
 have g:=G.toGood
 exact(ai (bw (cY (dB g (aD g (af (aa g) (af ao (af (aC g (i0 g (aa g)) ao) aq)))))) (ai (fN G (af ba aq)) av) av) (ai (aJ G (eY g (aa g) (aC g (i0 g (aa g)) ao))) (ai (aJ G (mM (Up g (aa g)) (i0 g (aa g)) (aD g (af (cp g (aa g)) (af (aa g) (af (cp g (aa g)) aq)))))) (ai (aV (aC g (aa g) (cX g (aa g) (af (aa g) aq)))) av))))
def lB:Stmt:=inClass (bD 46) 10
theorem abb:bj yl JX (au lB):=bA
theorem abc{CX:aL}{Γ:aF}{X:Cx}(G:aP CX (aX yl (au lB) ZE ZF JY ZG ZH ZI ZJ 0) Γ X):aY X (aA lB) (ar Γ ym):=by
 have g:=G.toGood
 exact(ai (bw (cY (dB g (aD g (af (aa g) (af ao (af (i0 g (aa g)) aq)))))) (ai (fN G (af ba aq)) av) av) (ai (aJ G (aD g (af (cp g (aa g)) (af (aa g) (af (cp g (aa g)) aq))))) (ai (aV (b7 (af (aa g) (af (aC g (aa g) (cX g (aa g) (af (aa g) aq))) aq)))) av)))
def lE:Stmt:=inClass (bD 46) 11
theorem abd:bj yn JZ (au lE):=bA
theorem abe{CX:aL}{Γ:aF}{X:Cx}(G:aP CX (aX yn (au lE) ZK ZL J0 ZM ZN ZO ZP 0) Γ X):aY X (aA lE) (ar Γ yo):=by
 have g:=G.toGood
 exact(ai (bw (cY (dB g (aD g (af (aa g) (af ao (af (cX g (aa g) (af (aa g) aq)) aq)))))) (ai (fN G (af ba aq)) av) av) (ai (aV (aC g (cX g (aa g) (af (aa g) aq)) (aa g))) av))
def lG:Stmt:=bD 48
theorem abf:bj wD Ip (au lG):=bA
theorem abg{CX:aL}{Γ:aF}{X:Cx}(G:aP CX (aX wD (au lG) Vz VA Iq VB VC VD VE 0) Γ X):aY X (aA lG) (ar Γ wF):=by
 have g:=G.toGood
 exact(ai (bw (bf g (aa g) (cv g (af (aa g) aq))) (ai (aV (az g (aa g) (aa g))) av) av) (ai (aV ao) av))
def rn:List Str:=["_law_found"]
def J_:List Str:=["_law_found"]
def lH:Stmt:=bD 49
theorem abh:bj rn J_ (au lH):=bA
theorem abi{CX:aL}{Γ:aF}{X:Cx}(G:aP CX (aX rn (au lH) VM VN Iv VO VP VQ VR 0) Γ X):aY X (aA lH) (ar Γ wI):=by
 have g:=G.toGood
 exact(ai (aV (gC (h_ g (aa g)) (h9 (v_ g (h_ g (aa g)))))) av)
def lI:Stmt:=bD 50
theorem abj:bj xY JE (au lI):=bA
theorem abk{CX:aL}{Γ:aF}{X:Cx}(G:aP CX (aX xY (au lI) YL YM JF YN YO YQ YR 0) Γ X):aY X (aA lI) (ar Γ xZ):=by
 have g:=G.toGood
 exact(ai (aJ G (aC g (aC g (aC g (aC g (aa g) ao) (aC g ao (aa g))) ao) ao)) (ai (aV (aC g (aC g (aC g (aC g (aa g) (aa g)) ao) (aa g)) ao)) av))
def lJ:Stmt:=bD 51
theorem abl:bj x3 JG (au lJ):=bA
theorem abm{CX:aL}{Γ:aF}{X:Cx}(G:aP CX (aX x3 (au lJ) YS YT JH YU YV YW YX 0) Γ X):aY X (aA lJ) (ar Γ x6):=by
 have g:=G.toGood
 exact(ai (aJ G ba) (ai (aJ G (aC g (aa g) ba)) (ai (aJ G ba) (ai (i6 G (q9 g (aa g)) (ai (aJ G (aD g (af (aa g) (af (aa g) aq)))) (ai (aJ G (aC g (aa g) (az g (eP (af ba (af (az g ba (aC g (aC g (aa g) ao) ao)) (af (az g (aa g) (aC g (aC g (aa g) ao) ao)) (af (az g (aa g) (aC g (aC g (aa g) ao) ao)) aq))))) (aC g (aa g) ao)))) av))) (ai (aV (aa g)) av)))))
def lK:Stmt:=bD 52
theorem abn:bj x8 JI (au lK):=bA
theorem abo{CX:aL}{Γ:aF}{X:Cx}(G:aP CX (aX x8 (au lK) YY YZ JJ Y0 Y1 Y2 Y3 0) Γ X):aY X (aA lK) (ar Γ x9):=by
 have g:=G.toGood
 exact(ai (aJ G (eP aq)) (ai (aJ G ba) (ai (aJ G ba) (ai (wj [(_,_),(_,_)] G (ia g (aC g (aa g) (eP (af (b7 (af ba (af ao aq))) aq)))) (ai (bw (bf g (aa g) ba) (ai (aJ G (aC g (aa g) (aa g))) av) (ai (bw (bf g (aa g) ba) (ai (aJ G (aC g (aa g) (aa g))) av) (ai (bw (PW.pt (eZ (bf g (aa g) ba) (gE (bf g (aa g) ao)))) (ai (aJ G (aC g (aC g (aa g) (aC g (eP (af (b7 (af ba (af (aa g) aq))) aq)) (cv g (af (eY g (aa g) ba) aq)))) (aC g (eP (af (b7 (af ba (af (aa g) aq))) aq)) (cv g (af (eY g (aa g) ba) aq))))) (ai (aJ G ba) (ai (aJ G ba) (ai (bw (PW.pt (q8 (bf g (aa g) ba) (q8 (bf g (aa g) (eP aq)) (wc (bf g (az g (az g (aa g) (v9 ao)) ao) ba))))) (ai (Uu (b7 (af ba (af (aC g (az g (az g (aa g) (v9 ao)) ao) (aa g)) aq))) (aa g) (v9 ao)) av) (ai (bw (bf g (aa g) ba) (ai (dM (dq g (aa g) (af (b7 (af ba (af (aa g) aq))) aq))) av) av) av)) av)))) av) av)) av)) av)) (ai (aV (aa g)) av)))))
def cw:Stmt:=bD 53
theorem abp:bj ib JK (au cw):=bA
theorem abq{CX:aL}{Γ:aF}{X:Cx}(G:aP CX (aX ib (au cw) jX jY i9 jZ j4 j5 j6 0) Γ X):PS X ((aA cw).getD 0 (.Pass ⟨0,0,0,0⟩)) (bQ Γ (dO.getD 0 (.ret (.c .ax)))):=by
 have g:=G.toGood
 show PS X (.Assign [.Name "_law_parts" _] _ _) (bQ Γ (.asg 2 _))
 with_reducible exact(aJ G (eP aq))
theorem abr{CX:aL}{Γ:aF}{X:Cx}(G:aP CX (aX ib (au cw) jX jY i9 jZ j4 j5 j6 0) Γ X):PS X ((aA cw).getD 1 (.Pass ⟨0,0,0,0⟩)) (bQ Γ (dO.getD 1 (.ret (.c .ax)))):=by
 have g:=G.toGood
 show PS X (.Assign [.Name "_law_at" _] _ _) (bQ Γ (.asg 3 _))
 with_reducible exact(aJ G ao)
theorem abt{CX:aL}{Γ:aF}{X:Cx}(G:aP CX (aX ib (au cw) jX jY i9 jZ j4 j5 j6 0) Γ X):PS X ((aA cw).getD 2 (.Pass ⟨0,0,0,0⟩)) (bQ Γ (dO.getD 2 (.ret (.c .ax)))):=by
 have g:=G.toGood
 exact(i6 G (q9 g (aC g ao (aC g (aa g) ao))) (ai (aJ G (aD g (af (aa g) (af (aC g ao (aa g)) aq)))) (ai (bw (bf g (aC g (aa g) ao) ao) (ai (dM (dq g (aa g) (af (b7 (af ba (af (aD g (af (aa g) (af (aC g ao (aC g (aC g (aC g (aa g) ao) ao) (aC g ao (aC g (aC g (aa g) ao) ao)))) aq))) aq))) aq))) av) av) (ai (aJ G (cv g (af (aC g (cv g (af (aa g) aq)) (aa g)) (af (aC g (aC g (aa g) ao) (aC g ao (aC g (cv g (af (aa g) aq)) ao))) aq)))) (ai (bw (PW.pt (q8 (bf g (aC g (aC g (aa g) ao) ao) ao) (wc (bf g (aa g) ao)))) (ai (dM (dq g (aa g) (af (b7 (af ba (af (qZ g (aa g) (i5 (aa g)) (i5 (aC g (aa g) (aa g)))) aq))) aq))) av) (ai (dM (dq g (aa g) (af (b7 (af ba (af (aa g) aq))) aq))) av)) (ai (aJ G (aC g (aa g) (aa g))) av))))))
theorem abu{CX:aL}{Γ:aF}{X:Cx}(G:aP CX (aX ib (au cw) jX jY i9 jZ j4 j5 j6 0) Γ X):PS X ((aA cw).getD 3 (.Pass ⟨0,0,0,0⟩)) (bQ Γ (dO.getD 3 (.ret (.c .ax)))):=by
 have g:=G.toGood
 exact(dM (dq g (aa g) (af (b7 (af ba (af (aC g (cv g (af (aa g) aq)) (aa g)) aq))) aq)))
theorem abv{CX:aL}{Γ:aF}{X:Cx}(G:aP CX (aX ib (au cw) jX jY i9 jZ j4 j5 j6 0) Γ X):PS X ((aA cw).getD 4 (.Pass ⟨0,0,0,0⟩)) (bQ Γ (dO.getD 4 (.ret (.c .ax)))):=by
 have g:=G.toGood
 exact(bw (bf g (aC g (aC g (aa g) ao) ao) ao) (ai (dM (dq g (aa g) (af (b7 (af ba (af (aD g (af (aa g) (af (aC g ao (aC g (aC g (aa g) ao) ao)) aq))) aq))) aq))) av) av)
theorem abw{CX:aL}{Γ:aF}{X:Cx}(G:aP CX (aX ib (au cw) jX jY i9 jZ j4 j5 j6 0) Γ X):PS X ((aA cw).getD 5 (.Pass ⟨0,0,0,0⟩)) (bQ Γ (dO.getD 5 (.ret (.c .ax)))):=by
 have g:=G.toGood
 show PS X (.Return (some _) _) (bQ Γ (.ret _))
 with_reducible exact(aV (aD g (af (aa g) aq)))
theorem abx{CX:aL}{Γ:aF}{X:Cx}(G:aP CX (aX ib (au cw) jX jY i9 jZ j4 j5 j6 0) Γ X):aY X (aA cw) (ar Γ dO):=by
 have e:aA cw=[((aA cw).getD 0 (.Pass ⟨0,0,0,0⟩)),((aA cw).getD 1 (.Pass ⟨0,0,0,0⟩)),((aA cw).getD 2 (.Pass ⟨0,0,0,0⟩)),((aA cw).getD 3 (.Pass ⟨0,0,0,0⟩)),((aA cw).getD 4 (.Pass ⟨0,0,0,0⟩)),((aA cw).getD 5 (.Pass ⟨0,0,0,0⟩))]:=by kernel_rfl
 have e2:dO=[(dO.getD 0 (.ret (.c .ax))),(dO.getD 1 (.ret (.c .ax))),(dO.getD 2 (.ret (.c .ax))),(dO.getD 3 (.ret (.c .ax))),(dO.getD 4 (.ret (.c .ax))),(dO.getD 5 (.ret (.c .ax)))]:=by kernel_rfl
 rw[e,e2]
 with_reducible exact ai (abq G) (ai (abr G) (ai (abt G) (ai (abu G) (ai (abv G) (ai (abw G) (av))))))
def lL:Stmt:=bD 54
theorem aby:bj x_ JL (au lL):=bA
theorem abz{CX:aL}{Γ:aF}{X:Cx}(G:aP CX (aX x_ (au lL) Y4 Y5 JM Y6 Y7 Y8 Y9 0) Γ X):aY X (aA lL) (ar Γ ya):=by
 have g:=G.toGood
 exact(ai (aJ G ba) (ai (aJ G ao) (ai (wj [(_,_),(_,_)] G (ia g (aa g)) (ai (bw (bf g (aa g) ba) (ai (aJ G (aC g (aa g) (aa g))) av) (ai (bw (bf g (aa g) ba) (ai (aJ G (aC g (aa g) (qZ g (aa g) (i5 (aa g)) (i5 (aC g (aa g) (aa g)))))) (ai (aJ G (aC g (aa g) (aa g))) av)) (ai (aJ G (aC g (aa g) (cv g (af (aa g) aq)))) av)) av)) av)) (ai (aV (aa g)) av))))
def yt:List Str:=["_law_found","_law_line_here","_law_column"]
def Ka:List Str:=["_law_found","_law_line_here","_law_column"]
noncomputable def yu:List RS:=
 [.ite (.or [(.not (.dJ .tuple (.v 0))),(.cmp .NotEq (.blt .len [(.v 0)]) (.c (.int 2))),(.not (.call 0 [(.ix (.v 0) (.c (.int 0)))])),(.not (.call 0 [(.ix (.v 0) (.c (.int 1)))]))]) [.ret (.c (.bl false))] [],
 .ret (.cmp .Eq (.v 0) (.tup [(.v 1),(.v 2)]))]
def abA:List Str:=["_law_whole"]
def abB:List Str:=[]
def Kb:List Str:=["isinstance","tuple","len"]
def abC:List Str:=[]
def abD:List Str:=[]
def abE:List Str:=[]
def abF:List Str:=[]
def lM:Stmt:=bD 55
theorem abG:bj yt Ka (au lM):=bA
theorem abH{CX:aL}{Γ:aF}{X:Cx}(G:aP CX (aX yt (au lM) abA abB Kb abC abD abE abF 0) Γ X):aY X (aA lM) (ar Γ yu):=by
 have g:=G.toGood
 exact(ai (bw (PW.pt (eZ (cY (we g (h_ g (aa g)))) (eZ (bf g (cv g (af (aa g) aq)) ao) (eZ (cY (dB g (aD g (af (az g (aa g) ao) aq)))) (gE (cY (dB g (aD g (af (az g (aa g) ao) aq))))))))) (ai (aV hZ) av) av) (ai (aV (eY g (aa g) (b7 (af (aa g) (af (aa g) aq))))) av))
def yv:List Str:=["_law_paper","_law_line_here","_law_begin","_law_size","_law_column","_law_one"]
def Kc:List Str:=["_law_paper","_law_line_here","_law_begin","_law_size","_law_column"]
noncomputable def yw:List RS:=
 [.ite (.or [(.not (.call 0 [(.bP 0 "line_size" (.v 0) [(.v 1)])])),(.cmp .NotEq (.bP 0 "line_size" (.v 0) [(.v 1)]) (.v 3))]) [.ret (.c (.bl false))] [],
 .eN 5 .list [(.lst [(.c (.int 0)),(.bin .Mod (.v 4) (.bin .Add (.v 3) (.c (.int 1)))),(.v 3)])] [.ite (.or [(.not (.call 0 [(.bP 1 "place_at" (.v 0) [(.v 1),(.v 5)])])),(.cmp .NotEq (.bP 1 "place_at" (.v 0) [(.v 1),(.v 5)]) (.bin .Add (.v 2) (.v 5)))]) [.ret (.c (.bl false))] []],
 .ret (.c (.bl true))]
def abI:List Str:=["_law_whole"]
def abJ:List Str:=[]
def Kd:List Str:=[]
def abK:List Str:=["line_size","place_at"]
def abL:List Str:=[]
def abM:List Str:=[]
def abN:List Str:=[]
def lN:Stmt:=bD 56
theorem abO:bj yv Kc (au lN):=bA
theorem abP{CX:aL}{Γ:aF}{X:Cx}(G:aP CX (aX yv (au lN) abI abJ Kd abK abL abM abN 0) Γ X):aY X (aA lN) (ar Γ yw):=by
 have g:=G.toGood
 exact(ai (bw (PW.pt (eZ (cY (dB g (aD g (af (cX g (aa g) (af (aa g) aq)) aq)))) (gE (bf g (cX g (aa g) (af (aa g) aq)) (aa g))))) (ai (aV hZ) av) av) (ai (i6 G (ia g (eP (af ao (af (aC g (aa g) (aC g (aa g) ao)) (af (aa g) aq))))) (ai (bw (PW.pt (eZ (cY (dB g (aD g (af (cX g (aa g) (af (aa g) (af (aa g) aq))) aq)))) (gE (bf g (cX g (aa g) (af (aa g) (af (aa g) aq))) (aC g (aa g) (aa g)))))) (ai (aV hZ) av) av) av)) (ai (aV hZ) av)))
def eF:List Str:=["_law_script","_law_size","_law_text","_law_paper","_law_k","_law_cell","_law_change","_law_lines","_law_begin","_law_line_here","_law_column"]
def Ke:List Str:=["_law_script"]
noncomputable def b8:List RS:=
 [.asg 1 (.bin .Mod (.call 0 [(.v 0),(.c (.int 0))]) (.c (.int 25))),
 .ite (.cmp .Eq (.bin .Mod (.bin .FloorDiv (.call 0 [(.v 0),(.c (.int 0))]) (.c (.int 25))) (.c (.int 8))) (.c (.int 1))) [.asg 1 (.bin .Add (.c (.int 60)) (.bin .Mod (.bin .FloorDiv (.call 0 [(.v 0),(.c (.int 0))]) (.c (.int 200))) (.c (.int 140))))] [],
 .asg 2 (.call 1 [(.call 0 [(.v 0),(.c (.int 1))]),(.v 1)]),
 .ite (.cmp .Eq (.bin .Mod (.call 0 [(.v 0),(.c (.int 2))]) (.c (.int 8))) (.c (.int 1))) [.asg 2 (.xt yq [(.c (.str "\n")),(.bin .Mod (.v 1) (.c (.int 25)))])] [],
 .asg 3 (.call 2 [(.v 2)]),
 .mG [4,5] .vy [(.sl (.v 0) (some (.c (.int 3))) (some (.c (.int 7))))] [.asg 6 (.call 3 [(.call 4 [(.v 5),(.v 4)]),(.v 2)]),
  .asg 3 (.bP 0 "changed" (.v 3) [(.v 6)]),
  .asg 2 (.call 5 [(.v 2),(.v 6)])],
 .asg 7 (.xm yr (.v 2) [(.c (.str "\n"))]),
 .ite (.or [(.not (.xt xX [(.v 3),(.g 0)])),(.cmp .NotEq (.bP 1 "lines" (.v 3) []) (.blt .len [(.v 7)]))]) [.ret (.c (.bl false))] [],
 .asg 8 (.c (.int 0)),
 .eN 9 .dY [(.blt .len [(.v 7)])] [.ite (.not (.call 6 [(.v 3),(.v 9),(.v 8),(.blt .len [(.ix (.v 7) (.v 9))]),(.bin .Add (.call 0 [(.v 0),(.c (.int 8))]) (.bin .Mult (.c (.int 5)) (.v 9)))])) [.ret (.c (.bl false))] [],
  .eN 10 .dY [(.bin .Add (.blt .len [(.ix (.v 7) (.v 9))]) (.c (.int 1)))] [.ite (.or [(.cmp .Lt (.blt .len [(.v 2)]) (.c (.int 40))),(.cmp .Eq (.bin .Mod (.bin .Add (.v 8) (.v 10)) (.c (.int 7))) (.c (.int 0)))]) [.ite (.not (.call 7 [(.bP 2 "line_at" (.v 3) [(.bin .Add (.v 8) (.v 10))]),(.v 9),(.v 10)])) [.ret (.c (.bl false))] [],
    .ite (.cmp .NotEq (.bP 3 "place_at" (.v 3) [(.v 9),(.v 10)]) (.bin .Add (.v 8) (.v 10))) [.ret (.c (.bl false))] []] []],
  .asg 8 (.bin .Add (.bin .Add (.v 8) (.blt .len [(.ix (.v 7) (.v 9))])) (.c (.int 1)))],
 .ret (.cmp .Eq (.v 8) (.bin .Add (.blt .len [(.v 2)]) (.c (.int 1))))]
def e8:List Str:=["_law_cell_at","_law_text_by","paper_of","_law_change_by","_law_mixed","_law_done","_law_line","_law_pair"]
def e_:List Str:=["Paper"]
def eQ:List Str:=["enumerate","isinstance","len","range"]
def fc:List Str:=["changed","lines","line_at","place_at"]
def fh:List Str:=[]
def fi:List Str:=[]
def fj:List Str:=[]
def bI:Stmt:=bD 57
theorem abQ:bj eF Ke (au bI):=bA
theorem abR{CX:aL}{Γ:aF}{X:Cx}(G:aP CX (aX eF (au bI) e8 e_ eQ fc fh fi fj 0) Γ X):PS X ((aA bI).getD 0 (.Pass ⟨0,0,0,0⟩)) (bQ Γ (b8.getD 0 (.ret (.c .ax)))):=by
 have g:=G.toGood
 show PS X (.Assign [.Name "_law_size" _] _ _) (bQ Γ (.asg 1 _))
 with_reducible exact(aJ G (aC g (aD g (af (aa g) (af ao aq))) ao))
theorem abS{CX:aL}{Γ:aF}{X:Cx}(G:aP CX (aX eF (au bI) e8 e_ eQ fc fh fi fj 0) Γ X):PS X ((aA bI).getD 1 (.Pass ⟨0,0,0,0⟩)) (bQ Γ (b8.getD 1 (.ret (.c .ax)))):=by
 have g:=G.toGood
 exact(bw (bf g (aC g (aC g (aD g (af (aa g) (af ao aq))) ao) ao) ao) (ai (aJ G (aC g ao (aC g (aC g (aD g (af (aa g) (af ao aq))) ao) ao))) av) av)
theorem abT{CX:aL}{Γ:aF}{X:Cx}(G:aP CX (aX eF (au bI) e8 e_ eQ fc fh fi fj 0) Γ X):PS X ((aA bI).getD 2 (.Pass ⟨0,0,0,0⟩)) (bQ Γ (b8.getD 2 (.ret (.c .ax)))):=by
 have g:=G.toGood
 show PS X (.Assign [.Name "_law_text" _] _ _) (bQ Γ (.asg 2 _))
 with_reducible exact(aJ G (aD g (af (aD g (af (aa g) (af ao aq))) (af (aa g) aq))))
theorem abU{CX:aL}{Γ:aF}{X:Cx}(G:aP CX (aX eF (au bI) e8 e_ eQ fc fh fi fj 0) Γ X):PS X ((aA bI).getD 3 (.Pass ⟨0,0,0,0⟩)) (bQ Γ (b8.getD 3 (.ret (.c .ax)))):=by
 have g:=G.toGood
 exact(bw (bf g (aC g (aD g (af (aa g) (af ao aq))) ao) ao) (ai (aJ G (ZS ba (aC g (aa g) ao))) av) av)
theorem abV{CX:aL}{Γ:aF}{X:Cx}(G:aP CX (aX eF (au bI) e8 e_ eQ fc fh fi fj 0) Γ X):PS X ((aA bI).getD 4 (.Pass ⟨0,0,0,0⟩)) (bQ Γ (b8.getD 4 (.ret (.c .ax)))):=by
 have g:=G.toGood
 show PS X (.Assign [.Name "_law_paper" _] _ _) (bQ Γ (.asg 3 _))
 with_reducible exact(aJ G (aD g (af (aa g) aq)))
theorem abW{CX:aL}{Γ:aF}{X:Cx}(G:aP CX (aX eF (au bI) e8 e_ eQ fc fh fi fj 0) Γ X):PS X ((aA bI).getD 5 (.Pass ⟨0,0,0,0⟩)) (bQ Γ (b8.getD 5 (.ret (.c .ax)))):=by
 have g:=G.toGood
 exact(wj [(_,_),(_,_)] G (Uq g (qZ g (aa g) (i5 ao) (i5 ao))) (ai (aJ G (aD g (af (aD g (af (aa g) (af (aa g) aq))) (af (aa g) aq)))) (ai (aJ G (cX g (aa g) (af (aa g) aq))) (ai (aJ G (aD g (af (aa g) (af (aa g) aq)))) av))))
theorem abX{CX:aL}{Γ:aF}{X:Cx}(G:aP CX (aX eF (au bI) e8 e_ eQ fc fh fi fj 0) Γ X):PS X ((aA bI).getD 6 (.Pass ⟨0,0,0,0⟩)) (bQ Γ (b8.getD 6 (.ret (.c .ax)))):=by
 have g:=G.toGood
 show PS X (.Assign [.Name "_law_lines" _] _ _) (bQ Γ (.asg 7 _))
 with_reducible exact(aJ G (ZT g (aa g) (af ba aq)))
theorem abY{CX:aL}{Γ:aF}{X:Cx}(G:aP CX (aX eF (au bI) e8 e_ eQ fc fh fi fj 0) Γ X):PS X ((aA bI).getD 7 (.Pass ⟨0,0,0,0⟩)) (bQ Γ (b8.getD 7 (.ret (.c .ax)))):=by
 have g:=G.toGood
 exact(bw (PW.pt (eZ (cY (YI g (YK g (af (aa g) (af (HM g) aq))))) (gE (bf g (i0 g (aa g)) (cv g (af (aa g) aq)))))) (ai (aV hZ) av) av)
theorem abZ{CX:aL}{Γ:aF}{X:Cx}(G:aP CX (aX eF (au bI) e8 e_ eQ fc fh fi fj 0) Γ X):PS X ((aA bI).getD 8 (.Pass ⟨0,0,0,0⟩)) (bQ Γ (b8.getD 8 (.ret (.c .ax)))):=by
 have g:=G.toGood
 show PS X (.Assign [.Name "_law_begin" _] _ _) (bQ Γ (.asg 8 _))
 with_reducible exact(aJ G ao)
theorem ab0{CX:aL}{Γ:aF}{X:Cx}(G:aP CX (aX eF (au bI) e8 e_ eQ fc fh fi fj 0) Γ X):PS X ((aA bI).getD 9 (.Pass ⟨0,0,0,0⟩)) (bQ Γ (b8.getD 9 (.ret (.c .ax)))):=by
 have g:=G.toGood
 exact(i6 G (q9 g (cv g (af (aa g) aq))) (ai (bw (cY (dB g (aD g (af (aa g) (af (aa g) (af (aa g) (af (cv g (af (az g (aa g) (aa g)) aq)) (af (aC g (aD g (af (aa g) (af ao aq))) (aC g ao (aa g))) aq)))))))) (ai (aV hZ) av) av) (ai (i6 G (q9 g (aC g (cv g (af (az g (aa g) (aa g)) aq)) ao)) (ai (bw (PW.pt (eZ (bf g (cv g (af (aa g) aq)) ao) (gE (bf g (aC g (aC g (aa g) (aa g)) ao) ao)))) (ai (bw (cY (dB g (aD g (af (cX g (aa g) (af (aC g (aa g) (aa g)) aq)) (af (aa g) (af (aa g) aq)))))) (ai (aV hZ) av) av) (ai (bw (bf g (cX g (aa g) (af (aa g) (af (aa g) aq))) (aC g (aa g) (aa g))) (ai (aV hZ) av) av) av)) av) av)) (ai (aJ G (aC g (aC g (aa g) (cv g (af (az g (aa g) (aa g)) aq))) ao)) av))))
theorem ab1{CX:aL}{Γ:aF}{X:Cx}(G:aP CX (aX eF (au bI) e8 e_ eQ fc fh fi fj 0) Γ X):PS X ((aA bI).getD 10 (.Pass ⟨0,0,0,0⟩)) (bQ Γ (b8.getD 10 (.ret (.c .ax)))):=by
 have g:=G.toGood
 show PS X (.Return (some _) _) (bQ Γ (.ret _))
 with_reducible exact(aV (eY g (aa g) (aC g (cv g (af (aa g) aq)) ao)))
theorem ab2{CX:aL}{Γ:aF}{X:Cx}(G:aP CX (aX eF (au bI) e8 e_ eQ fc fh fi fj 0) Γ X):aY X (aA bI) (ar Γ b8):=by
 have e:aA bI=[((aA bI).getD 0 (.Pass ⟨0,0,0,0⟩)),((aA bI).getD 1 (.Pass ⟨0,0,0,0⟩)),((aA bI).getD 2 (.Pass ⟨0,0,0,0⟩)),((aA bI).getD 3 (.Pass ⟨0,0,0,0⟩)),((aA bI).getD 4 (.Pass ⟨0,0,0,0⟩)),((aA bI).getD 5 (.Pass ⟨0,0,0,0⟩)),((aA bI).getD 6 (.Pass ⟨0,0,0,0⟩)),((aA bI).getD 7 (.Pass ⟨0,0,0,0⟩)),((aA bI).getD 8 (.Pass ⟨0,0,0,0⟩)),((aA bI).getD 9 (.Pass ⟨0,0,0,0⟩)),((aA bI).getD 10 (.Pass ⟨0,0,0,0⟩))]:=by kernel_rfl
 have e2:b8=[(b8.getD 0 (.ret (.c .ax))),(b8.getD 1 (.ret (.c .ax))),(b8.getD 2 (.ret (.c .ax))),(b8.getD 3 (.ret (.c .ax))),(b8.getD 4 (.ret (.c .ax))),(b8.getD 5 (.ret (.c .ax))),(b8.getD 6 (.ret (.c .ax))),(b8.getD 7 (.ret (.c .ax))),(b8.getD 8 (.ret (.c .ax))),(b8.getD 9 (.ret (.c .ax))),(b8.getD 10 (.ret (.c .ax)))]:=by kernel_rfl
 rw[e,e2]
 with_reducible exact ai (abR G) (ai (abS G) (ai (abT G) (ai (abU G) (ai (abV G) (ai (abW G) (ai (abX G) (ai (abY G) (ai (abZ G) (ai (ab0 G) (ai (ab1 G) (av)))))))))))
end L2.j7
namespace L2.N
inductive Tr where
 | nil | node (l:Tr) (a b c:Int) (r:Tr)
namespace Tr
def h:Tr→Int
 | nil=>0
 | node l _ _ _ r=>1+ (if r.h>l.h then r.h else l.h)
def sz:Tr→Int
 | nil=>0
 | node l _ b _ r=>l.sz+b+r.sz
def en:Tr→Int
 | nil=>0
 | node l _ _ c r=>l.en+c+r.en
def aj:Tr→List (Int×Int×Int)
 | nil=> []
 | node l a b c r=>l.aj++ (a,b,c)::r.aj
def ok:Tr→Prop
 | nil=>True
 | node l _ _ _ r=>l.ok∧r.ok∧l.h≤r.h+1∧r.h≤l.h+1
theorem h0: ∀t:Tr,0≤t.h
 | nil=>Int.le_refl _
 | node l _ _ _ r=>by
  have:=h0 l
  have:=h0 r
  show 0≤1+ (if r.h>l.h then r.h else l.h)
  split<;>omega
theorem mR: ∀{t:Tr},0<t.h→ ∃l a b c r,t=node l a b c r
 | nil,h=>absurd h (by decide)
 | node l a b c r,_=> ⟨l,a,b,c,r,rfl⟩
theorem cq(l:Tr)(a b c:Int)(r:Tr):(node l a b c r).h=1+ (if r.h>l.h then r.h else l.h):=rfl
theorem yx: ∀{t:Tr} (n:Nat),t.ok→(n:Int)≤t.h→2 ^ (n / 2)≤t.aj.length+1
 | nil,n,_,hn=>by
  have:n=0:=by
   have:(n:Int)≤0:=hn
   omega
  subst this;decide
 | node l a b c r,n,ho,hn=>by
  obtain⟨o1,o2,o3,o4⟩:=ho
  rw[cq] at hn
  simp only[aj,List.length_append,List.length_cons]
  match n with
  | 0=>simp
  | 1=>simp
  | n+2=>
   have e:(n+2) / 2=n / 2+1:=by omega
   rw[e,Nat.pow_succ]
   have k1:(n:Int)≤l.h:=by split at hn<;>omega
   have k2:(n:Int)≤r.h:=by split at hn<;>omega
   have i1:=yx n o1 k1
   have i2:=yx n o2 k2
   omega
theorem fk{t:Tr}(ho:t.ok)(hn:t.aj.length≤1000):t.h≤19:=by
 by_cases hh:t.h≤19
 ·exact hh
 ·have:=yx 20 ho (by omega)
  omega
structure gG (l:Tr) (a b c:Int) (r t:Tr):Prop where
 ok:t.ok
 aj:t.aj=l.aj++ (a,b,c)::r.aj
 near:l.h≤r.h+1→r.h≤l.h+1→t.h=1+ (if r.h>l.h then r.h else l.h)
 lo:l.h≤t.h∧r.h≤t.h
 hi:t.h≤l.h+1∨t.h≤r.h+1
theorem Kf{l r:Tr}{a b c:Int}(o1:l.ok)(o2:r.ok)(h1:l.h≤r.h+1)(h2:r.h≤l.h+1):gG l a b c r (node l a b c r):=by
 refine⟨⟨o1,o2,h1,h2⟩,rfl,fun _ _=>rfl, ?_, ?_⟩
 all_goals rw[cq];split<;>omega
theorem ab3{ll lr r:Tr}{a b c a' b' c':Int}(o1:(node ll a b c lr).ok)(o2:r.ok)(h1:(node ll a b c lr).h=r.h+2)(hh:lr.h≤ll.h):
  gG (node ll a b c lr) a' b' c' r (node ll a b c (node lr a' b' c' r)):=by
 obtain⟨p1,p2,p3,p4⟩:=o1
 have e1:=cq ll a b c lr
 have e2:=cq lr a' b' c' r
 have e3:=cq ll a b c (node lr a' b' c' r)
 rw[h1] at e1
 have k:r.h+1=ll.h:=by rw[if_neg (by omega)] at e1;omega
 refine⟨⟨p1,⟨p2,o2,by omega,by omega⟩, ?_, ?_⟩,by simp[aj],fun q1 q2=>absurd h1 (by omega), ?_, ?_⟩
 ·rw[e2];split<;>omega
 ·rw[e2];split<;>omega
 ·rw[e3,e2,h1];constructor<;> ((repeat' split) <;>omega)
 ·rw[e3,e2,h1];left;(split<;>split<;>omega)
theorem ab4{ll il ir r:Tr}{a b c a' b' c' x y z:Int}(o1:(node ll a b c (node il x y z ir)).ok)(o2:r.ok)(h1:(node ll a b c (node il x y z ir)).h=r.h+2)(hh:ll.h< (node il x y z ir).h):
  gG (node ll a b c (node il x y z ir)) a' b' c' r (node (node ll a b c il) x y z (node ir a' b' c' r)):=by
 obtain⟨p1,⟨p5,p6,p7,p8⟩,p3,p4⟩:=o1
 have e1:=cq ll a b c (node il x y z ir)
 have e2:=cq il x y z ir
 have e3:=cq ll a b c il
 have e4:=cq ir a' b' c' r
 have e5:=cq (node ll a b c il) x y z (node ir a' b' c' r)
 rw[h1,if_pos (by omega)] at e1
 have k1:ll.h=r.h:=by omega
 have k2:il.h≤r.h∧ir.h≤r.h:=by rw[e2] at e1;split at e1<;>omega
 have k3:r.h - 1≤il.h∧r.h - 1≤ir.h:=by rw[e2] at e1;split at e1<;>omega
 have f3:(node ll a b c il).h=r.h+1:=by rw[e3];split<;>omega
 have f4:(node ir a' b' c' r).h=r.h+1:=by rw[e4];split<;>omega
 have f5:(node (node ll a b c il) x y z (node ir a' b' c' r)).h=r.h+2:=by rw[e5,f3,f4];split<;>omega
 refine⟨⟨⟨p1,p5,by omega,by omega⟩,⟨p6,o2,by omega,by omega⟩,by omega,by omega⟩,by simp[aj],fun q1 q2=>absurd h1 (by omega),by omega,by omega⟩
theorem ab5{l rl rr:Tr}{a b c a' b' c':Int}(o1:l.ok)(o2:(node rl a' b' c' rr).ok)(h1:(node rl a' b' c' rr).h=l.h+2)(hh:rl.h≤rr.h):
  gG l a b c (node rl a' b' c' rr) (node (node l a b c rl) a' b' c' rr):=by
 obtain⟨p1,p2,p3,p4⟩:=o2
 have e1:=cq rl a' b' c' rr
 have e2:=cq l a b c rl
 have e3:=cq (node l a b c rl) a' b' c' rr
 rw[h1] at e1
 have k:l.h+1=rr.h:=by split at e1<;>omega
 refine⟨⟨⟨o1,p1,by omega,by omega⟩,p2, ?_, ?_⟩,by simp[aj],fun q1 q2=>absurd h1 (by omega), ?_, ?_⟩
 ·rw[e2];split<;>omega
 ·rw[e2];split<;>omega
 ·rw[e3,e2,h1];constructor<;> ((repeat' split) <;>omega)
 ·rw[e3,e2,h1];right;(split<;>split<;>omega)
theorem ab6{l il ir rr:Tr}{a b c a' b' c' x y z:Int}(o1:l.ok)(o2:(node (node il x y z ir) a' b' c' rr).ok)(h1:(node (node il x y z ir) a' b' c' rr).h=l.h+2)(hh:rr.h< (node il x y z ir).h):
  gG l a b c (node (node il x y z ir) a' b' c' rr) (node (node l a b c il) x y z (node ir a' b' c' rr)):=by
 obtain⟨⟨p5,p6,p7,p8⟩,p2,p3,p4⟩:=o2
 have e1:=cq (node il x y z ir) a' b' c' rr
 have e2:=cq il x y z ir
 have e3:=cq l a b c il
 have e4:=cq ir a' b' c' rr
 have e5:=cq (node l a b c il) x y z (node ir a' b' c' rr)
 rw[h1,if_neg (by omega)] at e1
 have k1:l.h=rr.h:=by omega
 have k2:il.h≤l.h∧ir.h≤l.h:=by rw[e2] at e1;split at e1<;>omega
 have k3:l.h - 1≤il.h∧l.h - 1≤ir.h:=by rw[e2] at e1;split at e1<;>omega
 have f3:(node l a b c il).h=l.h+1:=by rw[e3];split<;>omega
 have f4:(node ir a' b' c' rr).h=l.h+1:=by rw[e4];split<;>omega
 have f5:(node (node l a b c il) x y z (node ir a' b' c' rr)).h=l.h+2:=by rw[e5,f3,f4];split<;>omega
 refine⟨⟨⟨o1,p5,by omega,by omega⟩,⟨p6,p2,by omega,by omega⟩,by omega,by omega⟩,by simp[aj],fun q1 q2=>absurd h1 (by omega),by omega,by omega⟩
structure Jn (l:Tr) (a b c:Int) (r t:Tr):Prop where
 ok:t.ok
 aj:t.aj=l.aj++ (a,b,c)::r.aj
 lo:l.h≤t.h∧r.h≤t.h
 hi:t.h≤l.h+1∨t.h≤r.h+1
theorem ab7{l r:Tr}{a b c:Int}(o1:l.ok)(o2:r.ok)(h1:l.h≤r.h+1)(h2:r.h≤l.h+1):Jn l a b c r (node l a b c r):=
 let L:=Kf (a:=a) (b:=b) (c:=c) o1 o2 h1 h2
 ⟨L.ok,L.aj,L.lo,L.hi⟩
theorem ab8{ll lr r j t:Tr}{a b c a' b' c':Int}(o1:(node ll a b c lr).ok)(hh:r.h+1< (node ll a b c lr).h)(J:Jn lr a' b' c' r j)(L:gG ll a b c j t):
  Jn (node ll a b c lr) a' b' c' r t:=by
 obtain⟨p1,p2,p3,p4⟩:=o1
 have e1:=cq ll a b c lr
 have j1:=J.lo
 have j2:=J.hi
 have l1:=L.lo
 have l2:=L.hi
 have l3:=L.near
 have fQ:r.h≤lr.h:=by rw[e1] at hh;split at hh<;>omega
 have hj:j.h=lr.h∨j.h=lr.h+1:=by omega
 refine⟨L.ok,by rw[L.aj,J.aj];simp[aj], ?_, ?_⟩
 ·rw[e1]
  by_cases q:ll.h≤j.h+1∧j.h≤ll.h+1
  ·have:=l3 q.1 q.2
   rw[this]
   constructor<;> ((repeat' split) <;>omega)
  ·constructor<;> ((repeat' split) <;>omega)
 ·rw[e1]
  left
  by_cases q:ll.h≤j.h+1∧j.h≤ll.h+1
  ·have:=l3 q.1 q.2
   rw[this]
   split<;>split<;>omega
  ·split<;>omega
theorem ab9{l rl rr j t:Tr}{a b c a' b' c':Int}(o2:(node rl a' b' c' rr).ok)(hh:l.h+1< (node rl a' b' c' rr).h)(J:Jn l a b c rl j)(L:gG j a' b' c' rr t):
  Jn l a b c (node rl a' b' c' rr) t:=by
 obtain⟨p1,p2,p3,p4⟩:=o2
 have e1:=cq rl a' b' c' rr
 have j1:=J.lo
 have j2:=J.hi
 have l1:=L.lo
 have l2:=L.hi
 have l3:=L.near
 have fQ:l.h≤rl.h:=by rw[e1] at hh;split at hh<;>omega
 have hj:j.h=rl.h∨j.h=rl.h+1:=by omega
 refine⟨L.ok,by rw[L.aj,J.aj];simp[aj], ?_, ?_⟩
 ·rw[e1]
  by_cases q:j.h≤rr.h+1∧rr.h≤j.h+1
  ·have:=l3 q.1 q.2
   rw[this]
   constructor<;> ((repeat' split) <;>omega)
  ·constructor<;> ((repeat' split) <;>omega)
 ·rw[e1]
  right
  by_cases q:j.h≤rr.h+1∧rr.h≤j.h+1
  ·have:=l3 q.1 q.2
   rw[this]
   split<;>split<;>omega
  ·split<;>omega
theorem ab_{ll lr r j:Tr}{a b c a' b' c':Int}(o1:(node ll a b c lr).ok)(hh:r.h+1< (node ll a b c lr).h)(J:Jn lr a' b' c' r j):ll.h≤j.h+2∧j.h≤ll.h+2:=by
 obtain⟨p1,p2,p3,p4⟩:=o1
 have e1:=cq ll a b c lr
 have j1:=J.lo
 have j2:=J.hi
 have fQ:r.h≤lr.h:=by rw[e1] at hh;split at hh<;>omega
 omega
theorem aca{l rl rr j:Tr}{a b c a' b' c':Int}(o2:(node rl a' b' c' rr).ok)(hh:l.h+1< (node rl a' b' c' rr).h)(J:Jn l a b c rl j):j.h≤rr.h+2∧rr.h≤j.h+2:=by
 obtain⟨p1,p2,p3,p4⟩:=o2
 have e1:=cq rl a' b' c' rr
 have j1:=J.lo
 have j2:=J.hi
 have fQ:l.h≤rl.h:=by rw[e1] at hh;split at hh<;>omega
 omega
end Tr
abbrev P3:=Int×Int×Int
def cy(ps:List P3):Int:=(ps.map fun p=>p.2.1).sum
def cb(F:Int→Int):List P3→Int→List P3
 | [],_=> []
 | p::ps,n=>if n≤0 then [] else if p.2.1≤n then p::cb F ps (n - p.2.1) else [(p.1,n,F (p.1+n) - F p.1)]
def cf(F:Int→Int):List P3→Int→List P3
 | [],_=> []
 | p::ps,n=>if n≤0 then p::ps else if p.2.1≤n then cf F ps (n - p.2.1) else (p.1+n,p.2.1 - n,p.2.2 - (F (p.1+n) - F p.1))::ps
theorem Kg:cy []=0:=rfl
theorem lO(p:P3)(ps:List P3):cy (p::ps)=p.2.1+cy ps:=by simp[cy]
theorem Kh(a b:List P3):cy (a++b)=cy a+cy b:=by simp[cy]
theorem yy(F:Int→Int){n:Int}(h:n≤0): ∀ps:List P3,cb F ps n=[]∧cf F ps n=ps
 | []=> ⟨rfl,rfl⟩
 | p::ps=>by simp[cb,cf,h]
theorem Ki: ∀{ps:List P3},(∀p∈ps,1≤p.2.1)→0≤cy ps
 | [],_=>Int.le_refl _
 | p::ps,h=>by
  have:=Ki (ps:=ps) fun q hq=>h q (List.mem_cons_of_mem _ hq)
  have:=h p List.mem_cons_self
  rw[lO];omega
theorem Kj(F:Int→Int)(ys:List P3): ∀(xs:List P3) (n:Int),(∀p∈xs,1≤p.2.1)→n≤cy xs→cb F (xs++ys) n=cb F xs n∧cf F (xs++ys) n=cf F xs n++ys
 | [],n,_,h=>by
  have h:n≤0:=h
  obtain⟨a,b⟩:=yy F h ys
  exact⟨a,b⟩
 | p::xs,n,hp,h=>by
  rw[lO] at h
  have ih:=Kj F ys xs (n - p.2.1) (fun q hq=>hp q (List.mem_cons_of_mem _ hq)) (by omega)
  simp only[List.cons_append,cb,cf]
  rw[ih.1,ih.2]
  constructor
  ·rfl
  ·split
   ·rfl
   ·split<;>rfl
theorem yz(F:Int→Int)(ys:List P3): ∀(xs:List P3) (n:Int),(∀p∈xs,1≤p.2.1)→cy xs≤n→cb F (xs++ys) n=xs++cb F ys (n - cy xs)∧cf F (xs++ys) n=cf F ys (n - cy xs)
 | [],n,_,h=>by rw[Kg,Int.sub_zero];exact⟨rfl,rfl⟩
 | p::xs,n,hp,h=>by
  have h1:=hp p List.mem_cons_self
  have h2:=Ki fun q hq=>hp q (List.mem_cons_of_mem _ hq)
  rw[lO] at h⊢
  have ih:=yz F ys xs (n - p.2.1) (fun q hq=>hp q (List.mem_cons_of_mem _ hq)) (by omega)
  have e:n - p.2.1 - cy xs=n - (p.2.1+cy xs):=by omega
  rw[e] at ih
  simp only[List.cons_append,cb,cf]
  rw[if_neg (by omega),if_pos (by omega),if_neg (by omega),if_pos (by omega),ih.1,ih.2]
  exact⟨rfl,rfl⟩
theorem oy(F:Int→Int): ∀(xs:List P3) (n:Int),(cb F xs n).length≤xs.length∧(cf F xs n).length≤xs.length
 | [],n=> ⟨Nat.le_refl _,Nat.le_refl _⟩
 | p::xs,n=>by
  obtain⟨a,b⟩:=oy F xs (n - p.2.1)
  simp only[cb,cf]
  split
  ·exact⟨Nat.zero_le _,Nat.le_refl _⟩
  ·split<;>simp<;>omega
end L2.N
namespace L2.B
def cz(xs:List Int)(most:Int):Nat:=(xs.filter fun x=>decide (x≤most)).length
def mS(xs:List Int):Prop:=xs.Pairwise (· ≤ ·)
theorem yA(xs:List Int)(most:Int):cz xs most≤xs.length:=List.length_filter_le _ _
theorem yB(a b:List Int)(most:Int):cz (a++b) most=cz a most+cz b most:=by simp[cz]
theorem Kk{xs:List Int}{most:Int}(h: ∀x∈xs,x≤most):cz xs most=xs.length:=by
 unfold cz
 rw[List.filter_eq_self.mpr fun x hx=>by simpa using h x hx]
theorem Kl{xs:List Int}{most:Int}(h: ∀x∈xs,most<x):cz xs most=0:=by
 unfold cz
 rw[List.length_eq_zero_iff,List.filter_eq_nil_iff]
 intro x hx
 have:=h x hx
 simp;omega
theorem yC{xs:List Int}{most x:Int}{m:Nat}(h:mS xs)(g:xs[m]?=some x)(hx:x≤most):m+1≤cz xs most:=by
 have hm:=(List.getElem?_eq_some_iff.mp g).1
 have e:xs=xs.take (m+1)++xs.drop (m+1):=(List.take_append_drop _ _).symm
 have a: ∀y∈xs.take (m+1),y≤most:=by
  intro y hy
  obtain⟨j,hj,rfl⟩:=List.getElem_of_mem hy
  rw[List.length_take] at hj
  rw[List.getElem_take]
  have e2:xs[m]=x:=(List.getElem?_eq_some_iff.mp g).2
  by_cases q:j=m
  ·subst q;omega
  ·have:=List.pairwise_iff_getElem.mp h j m (by omega) hm (by omega)
   omega
 have:cz xs most=cz (xs.take (m+1)) most+cz (xs.drop (m+1)) most:=by rw[←yB,←e]
 rw[this,Kk a,List.length_take]
 omega
theorem Km{xs:List Int}{most x:Int}{m:Nat}(h:mS xs)(g:xs[m]?=some x)(hx: ¬x≤most):cz xs most≤m:=by
 have hm:=(List.getElem?_eq_some_iff.mp g).1
 have e:xs=xs.take m++xs.drop m:=(List.take_append_drop _ _).symm
 have a: ∀y∈xs.drop m,most<y:=by
  intro y hy
  obtain⟨j,hj,rfl⟩:=List.getElem_of_mem hy
  rw[List.length_drop] at hj
  rw[List.getElem_drop]
  have e2:xs[m]=x:=(List.getElem?_eq_some_iff.mp g).2
  by_cases q:j=0
  ·subst q;simp;omega
  ·have:=List.pairwise_iff_getElem.mp h m (m+j) hm (by omega) (by omega)
   omega
 have:cz xs most=cz (xs.take m) most+cz (xs.drop m) most:=by rw[←yB,←e]
 have l:=yA (xs.take m) most
 rw[this,Kl a]
 rw[List.length_take] at l
 omega
end L2.B
namespace L2.B
open PySem PySem.StrLaws
def pos(c:Nat):List Nat→Nat→List Nat
 | [],_=> []
 | d::r,k=>if d=c then k::pos c r (k+1) else pos c r (k+1)
theorem i_(c:Nat): ∀(a b:List Nat) (k:Nat),pos c (a++b) k=pos c a k++pos c b (k+a.length)
 | [],b,k=>by simp[pos]
 | d::r,b,k=>by
  have ih:=i_ c r b (k+1)
  rw[show k+1+r.length=k+ (d::r).length by simp;omega] at ih
  simp only[List.cons_append,pos]
  split
  ·rw[ih];rfl
  ·rw[ih]
theorem ee(c:Nat): ∀(a:List Nat) (k:Nat),(pos c a k).length=a.count c
 | [],k=>rfl
 | d::r,k=>by
  simp only[pos]
  rw[List.count_cons]
  split
  ·rename_i h;subst h;simp[ee d r (k+1)]
  ·rename_i h
   have:(d==c)=false:=by simpa using h
   rw[ee c r (k+1),this];simp
theorem gH(c:Nat): ∀(a:List Nat) (k i:Nat),i∈pos c a k→k≤i∧i<k+a.length
 | [],k,i,h=>by simp[pos] at h
 | d::r,k,i,h=>by
  simp only[pos] at h
  have go:i∈pos c r (k+1)→k≤i∧i<k+ (d::r).length:=fun z=>by
   have:=gH c r (k+1) i z
   simp;omega
  split at h
  ·rcases List.mem_cons.mp h with rfl | z
   ·simp
   ·exact go z
  ·exact go h
theorem rF(c:Nat): ∀(a:List Nat) (k:Nat),(pos c a k).Pairwise (· < ·)
 | [],k=>by simp[pos]
 | d::r,k=>by
  simp only[pos]
  split
  ·rw[List.pairwise_cons]
   exact⟨fun i hi=>by have:=gH c r (k+1) i hi;omega,rF c r (k+1)⟩
  ·exact rF c r (k+1)
def dP(c:Nat)(a:List Nat):List Int:=(pos c a 0).map fun(i:Nat)=> (i:Int)
theorem acb(c:Nat)(a:List Nat):mS (dP c a):=by
 unfold mS dP
 rw[List.pairwise_map]
 exact(rF c a 0).imp fun h=>by omega
theorem acd(c:Nat)(a:List Nat)(n:Nat):cz (dP c a) ((n:Int) - 1)=(a.take n).count c:=by
 have e:a=a.take n++a.drop n:=(List.take_append_drop _ _).symm
 have e1:dP c a=dP c (a.take n)++ ((pos c (a.drop n) (a.take n).length).map fun(i:Nat)=> (i:Int)):=by
  unfold dP
  conv=>lhs;rw[e]
  rw[i_,List.map_append,Nat.zero_add]
 rw[e1,yB,Kk,Kl]
 ·unfold dP
  rw[List.length_map,ee];simp
 ·intro x hx
  obtain⟨i,hi,rfl⟩:=List.mem_map.mp hx
  have h:=gH _ _ _ _ hi
  rw[List.length_take,List.length_drop] at h
  omega
 ·intro x hx
  obtain⟨i,hi,rfl⟩:=List.mem_map.mp hx
  have h:=gH _ _ _ _ hi
  rw[List.length_take] at h
  omega
theorem Kn(c:Nat): ∀(l:List Nat) (k i:Nat) (done rest:List Nat),pos c l k=done++i::rest→pos c (l.drop (i+1 - k)) (i+1)=rest
 | [],k,i,done,rest,h=>by
  simp[pos] at h
 | d::r,k,i,done,rest,h=>by
  have hi:=gH c (d::r) k i (by rw[h];simp)
  simp only[pos] at h
  have go: ∀dn,pos c r (k+1)=dn++i::rest→pos c ((d::r).drop (i+1 - k)) (i+1)=rest:=fun dn hd=>by
   have h2:=gH c r (k+1) i (by rw[hd];simp)
   have ih:=Kn c r (k+1) i dn rest hd
   rw[show i+1 - k=(i+1 - (k+1))+1 by omega,List.drop_succ_cons]
   exact ih
  split at h
  ·cases done with
   | nil=>
    simp only[List.nil_append,List.cons.injEq] at h
    obtain⟨rfl,h⟩:=h
    rw[show k+1 - k=1 by omega,List.drop_succ_cons,List.drop_zero]
    exact h
   | cons e dn=>
    simp only[List.cons_append,List.cons.injEq] at h
    exact go dn h.2
  ·exact go done h
theorem oz(c:Nat): ∀(l:List Nat) (k j:Nat),pos c l (k+j)=(pos c l j).map (k+ ·)
 | [],k,j=>rfl
 | d::r,k,j=>by
  have ih:=oz c r k (j+1)
  rw[←Nat.add_assoc] at ih
  simp only[pos]
  split
  ·rw[ih];rfl
  ·exact ih
theorem ace(c:Nat)(a b:List Nat):dP c (a++b)=dP c a++ ((pos c b 0).map fun(i:Nat)=> ((a.length:Nat):Int)+ (i:Int)):=by
 unfold dP
 rw[i_,List.map_append,Nat.zero_add]
 congr 1
 have:=oz c b a.length 0
 rw[Nat.add_zero] at this
 rw[this,List.map_map]
 apply List.map_congr_left
 intro i _
 show((a.length+i:Nat):Int)=_
 omega
theorem rG(x y:Str)(hy:y.length=1)(hi lim:Nat): ∀(n lo:Nat) (acc:Array Nat) (free:Nat),free≤lo→
  ((forIn (List.range' lo n) (acc,free) (occBody x y hi lim)).run.fst.toList=acc.toList++ ((List.range' lo n).filter fun i=>decide (i+1≤hi) && Builtin.Str.subAt x y i).take (lim - acc.size))
 | 0,lo,acc,free,hf=>by simp
 | n+1,lo,acc,free,hf=>by
  rw[List.range'_succ,List.forIn_cons]
  unfold occBody
  rw[hy]
  by_cases hp:lo+1≤hi∧Builtin.Str.subAt x y lo=true
  ·have e:(decide (lo+1≤hi) && Builtin.Str.subAt x y lo)=true:=by simp[hp.1,hp.2]
   by_cases hs:acc.size<lim
   ·rw[if_pos ⟨⟨⟨hs,hf⟩,hp.1⟩,hp.2⟩]
    have ih:=rG x y hy hi lim n (lo+1) (acc.push lo) (lo+1) (Nat.le_refl _)
    unfold occBody at ih
    rw[hy] at ih
    refine Eq.trans ih ?_
    rw[List.filter_cons_of_pos (by exact e)]
    have e2:lim - acc.size=(lim - (acc.push lo).size)+1:=by rw[Array.size_push];omega
    rw[e2,List.take_succ_cons]
    simp
   ·rw[if_neg (fun z=>hs z.1.1.1)]
    have ih:=rG x y hy hi lim n (lo+1) acc free (by omega)
    unfold occBody at ih
    rw[hy] at ih
    refine Eq.trans ih ?_
    have e2:lim - acc.size=0:=by omega
    rw[e2];simp
  ·rw[if_neg (fun z=>hp ⟨z.1.2,z.2⟩)]
   have e: ¬(decide (lo+1≤hi) && Builtin.Str.subAt x y lo)=true:=by
    intro z
    simp only[Bool.and_eq_true,decide_eq_true_eq] at z
    exact hp z
   have ih:=rG x y hy hi lim n (lo+1) acc free (by omega)
   unfold occBody at ih
   rw[hy] at ih
   refine Eq.trans ih ?_
   rw[List.filter_cons_of_neg (by exact e)]
theorem acf(x:Str)(c i:Nat):Builtin.Str.subAt x ⟨#[c]⟩ i=decide (x.cps[i]?=some c):=by
 unfold Builtin.Str.subAt
 have e:(⟨#[c]⟩:Str).length=1:=rfl
 rw[e,show(⟨#[c]⟩:Str).cps= #[c] from rfl]
 by_cases h:i<x.cps.size
 ·have e2:x.cps.extract i (i+1)= #[x.cps[i]]:=by
   apply Array.ext
   ·simp;omega
   ·intro j h1 h2
    simp at h1 h2⊢
    have:j=0:=by omega
    subst this;rfl
  rw[e2,Array.getElem?_eq_getElem h]
  by_cases q:x.cps[i]=c
  ·subst q;simp
  ·have: ¬(#[x.cps[i]]= #[c]):=fun z=>q (by injection z with z;injection z)
   simp[q]
 ·have e2:x.cps.extract i (i+1)= #[]:=by
   apply Array.eq_empty_of_size_eq_zero
   simp;omega
  rw[e2,Array.getElem?_eq_none (by omega)]
  simp
theorem Ko(c:Nat): ∀(l:List Nat) (k:Nat) (p:Nat→Bool),(∀i,i<l.length→p (k+i)=decide (l[i]?=some c))→(List.range' k l.length).filter p=pos c l k
 | [],k,p,h=>rfl
 | d::r,k,p,h=>by
  rw[List.length_cons,List.range'_succ]
  have h0:p k=decide (d=c):=by
   have:=h 0 (Nat.zero_lt_succ _)
   simpa using this
  have ih:=Ko c r (k+1) p fun i hi=>by
   have:=h (i+1) (Nat.succ_lt_succ hi)
   rw[show k+1+i=k+ (i+1) by omega,this];simp
  by_cases e:d=c
  ·rw[List.filter_cons_of_pos (by rw[h0];simpa using e),ih,pos,if_pos e]
  ·rw[List.filter_cons_of_neg (by rw[h0];simpa using e),ih,pos,if_neg e]
theorem yD(x:Str)(c lo lim:Nat)(hl:lo≤x.length):Builtin.Str.occurrences x ⟨#[c]⟩ lo x.length lim=(pos c (x.cps.toList.drop lo) lo).take lim:=by
 have hx:x.cps.toList.length=x.length:=by simp[Str.length]
 rw[occ_eq,rG x _ rfl x.length lim _ lo #[] lo (Nat.le_refl _)]
 simp only[List.nil_append,Array.size_empty,Nat.sub_zero]
 congr 1
 have e:x.length+1 - lo=(x.cps.toList.drop lo).length+1:=by rw[List.length_drop,hx];omega
 rw[e,List.range'_concat,List.filter_append]
 rw[Ko c (x.cps.toList.drop lo) lo]
 ·have: ¬(lo+1* (x.cps.toList.drop lo).length+1≤x.length):=by rw[List.length_drop,hx];omega
  rw[List.filter_cons_of_neg (by rw[decide_eq_false this];simp)]
  simp
 ·intro i hi
  rw[acf]
  rw[List.length_drop,hx] at hi
  rw[decide_eq_true (show lo+i+1≤x.length by omega),Bool.true_and,List.getElem?_drop,Array.getElem?_toList]
end L2.B
namespace L2.B
open PySem PySem.Spec PyProof.Rows
def ja(H H':Hp):Prop:= ∀b xs,H b=some (.tup xs)→H' b=some (.tup xs)
theorem bx{H H':Hp}(h:aG H H'):ja H H':=fun b xs e=>h b _ e
theorem sameNew{H:Hp}{p:Addr}{o:HO}(h:H p=none):aG H (upd H p o):=fun b u e=>by rw[aN (bW e h)];exact e
def cO(c:Addr)(H H':Hp):Prop:= ∀b o,H b=some o→b≠c→H' b=some o
theorem cO.upd{H:Hp}{c:Addr}{o:HO}:cO c H (upd H c o):=fun b u e n=>by rw[aN n];exact e
theorem cO.trans{c:Addr}{H H1 H2:Hp}(a:cO c H H1)(b:cO c H1 H2):cO c H H2:=fun d o e n=>b d o (a d o e n) n
theorem jb{c:Addr}{H H1 H2:Hp}(a:aG H H1)(hc:H c=none)(b:cO c H1 H2):aG H H2:=fun d o e=>b d o (a d o e) (bW e hc)
theorem cO.cC{c:Addr}{H H':Hp}{xs:List V}(h:cO c H H')(hc:H c=some (.lst xs)):ja H H':=fun b ys e=>h b _ e (fun z=>by rw[z,hc] at e;cases e)
theorem iF{c:Bool}{A B:Prop}(q:B)(h:c=false:=by first | rfl | decide):if c=true then A else B:=by
 rw[h];exact gj q
theorem iT{c:Bool}{A B:Prop}(q:A)(h:c=true:=by first | rfl | decide):if c=true then A else B:=by
 rw[h];exact dH q
inductive Pt where | keep (n:Int) | put (s:Str) | cut (s:Str)
 deriving DecidableEq
def Pt.word:Pt→Str | .keep _=> "keep" | .put _=> "put" | .cut _=> "cut"
def Pt.val:Pt→V | .keep n=> .int n | .put s=> .str s | .cut s=> .str s
def ie(H:Hp)(v:V)(p:Pt):Prop:= ∃a,v= .ref a∧H a=some (.tup [.str p.word,p.val])
abbrev bZ(H:Hp):List V→List Pt→Prop:=Paired (ie H)
theorem ie.mono{H H':Hp}{v:V}{p:Pt}(t:ja H H')(h:ie H v p):ie H' v p:=by
 obtain⟨a,e,h⟩:=h
 exact⟨a,e,t _ _ h⟩
theorem bZ.mono{H H':Hp}(t:ja H H'): ∀{vs:List V} {ps:List Pt},bZ H vs ps→bZ H' vs ps
 | _,_, .nil=> .nil
 | _,_, .cons h r=> .cons (h.mono t) (bZ.mono t r)
theorem bZ.get{H:Hp}: ∀{vs:List V} {ps:List Pt} {i:Nat} {v:V},bZ H vs ps→vs[i]?=some v→ ∃p,ps[i]?=some p∧ie H v p
 | _,_,i,v, .nil,e=>by simp at e
 | _,_,0,v, .cons h r,e=>by simp at e;subst e;exact⟨_,rfl,h⟩
 | _,_,i+1,v, .cons h r,e=>by
  obtain⟨p,a,b⟩:=bZ.get (i:=i) r (by simpa using e)
  exact⟨p,by simpa using a,b⟩
def gI:Sp:=fun vs H Q E=> ∃i,vs=[.int i]∧Q (.bl true) H
def ef(w a:Str):Bool:=w !=a && !(a=="cut" && w=="put")
def rH:Sp:=fun vs H Q E=> ∃w a,vs=[.str w, .str a]∧Q (.bl (ef w a)) H
theorem acg{K:PySem.W.Frag}(vs:List V)(H:Hp)(Q:VK)(E:XK)(h:rH vs H Q E):ar (aR K [] [] (E:=E)) wu {nx:=fun _ H'=>Q .ax H',rt:=Q} (start wt vs) H:=by
 obtain⟨w,a,rfl,q⟩:=h
 refine⟨_,rfl,_,rfl,_,rfl, ?_⟩
 unfold ef at q
 refine dI (fun h=> ?_) (fun h=> ?_)
 ·rw[Bool.true_xor,fG] at h
  have e:(w !=a)=true:=h
  rw[e] at q
  refine⟨_,rfl,_,rfl, ?_⟩
  refine dI (fun h2=> ?_) (fun h2=> ?_)
  ·rw[Bool.false_xor,fG] at h2
   rw[h2] at q
   refine⟨_,rfl, ?_⟩
   show Q (.bl (!(false ^^ decide (V.str w=V.str "put")))) H
   rw[Bool.false_xor,fG]
   exact q
  ·rw[Bool.false_xor,fG] at h2
   have e2:(a=="cut")=false:=by simpa using h2
   rw[e2] at q
   exact q
 ·rw[Bool.true_xor,fG] at h
  have e:(w !=a)=false:=by simpa using h
  rw[e] at q
  exact q
def oA:Pt→Int | .keep n=>n | .put s=>s.length | .cut s=>s.length
def yE:Pt→Prop | .keep _=>True | .put s=>s.length≤1000000 | .cut s=>s.length≤1000000
theorem b9{n:Nat}(h:n≤1000000):n≤sizeLine:=Nat.le_trans h (by decide)
theorem jc{n:Nat}(h:n≤1000000):n<sizeLine:=Nat.lt_of_le_of_lt h (by decide)
def fm:Sp:=fun vs H Q E=> ∃v p,vs=[v]∧ie H v p∧yE p∧Q (.int (oA p)) H
theorem ach{K:PySem.W.Frag}(vs:List V)(H:Hp)(Q:VK)(E:XK)(h:fm vs H Q E):ar (aR K [] [] (E:=E)) wA {nx:=fun _ H'=>Q .ax H',rt:=Q} (start wz vs) H:=by
 obtain⟨v,p,rfl,⟨a,rfl,ha⟩,ho,q⟩:=h
 refine⟨_,rfl, .inr (.inl ⟨_,_,_,_,rfl,rfl,a_.of ha,rfl,_,rfl, ?_⟩)⟩
 rw[Bool.false_xor,fG]
 cases p with
 | keep n=>exact dH ⟨_,rfl, .inr (.inl ⟨_,_,_,_,rfl,rfl,a_.of ha,rfl,q⟩)⟩
 | put s=>exact gj ⟨_,rfl, .inr (.inl ⟨_,_,_,_,rfl,rfl,a_.of ha,rfl,b9 ho,q⟩)⟩
 | cut s=>exact gj ⟨_,rfl, .inr (.inl ⟨_,_,_,_,rfl,rfl,a_.of ha,rfl,b9 ho,q⟩)⟩
def cell(ns:List Int)(k:Nat):Int:=ns.getD k 0
def oB(K:PySem.W.Frag):Sp:=fun vs H Q E=> ∃(a:Addr) (ns:List Int) (k:Int),vs=[.ref a, .int k]∧aH K H a (ns.map V.int)∧0≤k∧Q (.int (cell ns k.toNat)) H
theorem aci{K:PySem.W.Frag}(vs:List V)(H:Hp)(Q:VK)(E:XK)(h:oB K vs H Q E):ar (aR K [] [] (E:=E)) wF {nx:=fun _ H'=>Q .ax H',rt:=Q} (start wD vs) H:=by
 obtain⟨a,ns,k,rfl,ha,hk,q⟩:=h
 refine⟨_,rfl,_,rfl, .inl ⟨_,ha,trivial,_,rfl, ?_⟩⟩
 rw[List.length_map]
 refine dI (fun h=> ?_) (fun h=> ?_)
 ·have bz:k< (ns.length:Int):=of_decide_eq_true h
  refine⟨_,rfl,_,rfl, .inl ⟨_,_,_,_,rfl,rfl,ha, ?_,q⟩⟩
  have e:=iR (xs:=ns.map V.int) (j:=k.toNat) (v:= .int (cell ns k.toNat)) (by
   have:k.toNat<ns.length:=by omega
   simp[cell,this])
  rw[show((k.toNat:Nat):Int)=k by omega] at e
  exact e
 ·have lQ: ¬k< (ns.length:Int):=fun z=>h (decide_eq_true z)
  have e:cell ns k.toNat=0:=by
   have z:ns[k.toNat]?=none:=List.getElem?_eq_none_iff.mpr (by omega)
   unfold cell
   rw[List.getD_eq_getElem?_getD,z];rfl
  rw[e] at q
  exact q
def SG:Str:=" !\"#$&'()*+,-./0123456789:;<=>?@ABCDEFGHIJKLMNOPQRSTUVWXYZ[\\]^_`abcdefghijklmnopqrstuvwxyz{|}~\n"
def good(x:Str):Prop:=x.length≤1000000∧ ∀c∈x.cps.toList,SG.cps.contains c=true
theorem takeWhile_all{α:Type}(p:α→Bool): ∀l:List α,(∀c∈l,p c=true)→l.takeWhile p=l
 | [],_=>rfl
 | c::l,h=>by rw[List.takeWhile_cons,h c List.mem_cons_self,takeWhile_all p l fun d hd=>h d (List.mem_cons_of_mem _ hd)];rfl
theorem acj(x y:Str)(h: ∀c∈x.cps.toList,y.cps.contains c=true):Txt.lstripChars x y="":=by
 have e0:stripLo y.cps.contains true x=x.length:=by
  unfold stripLo
  rw[if_pos rfl,takeWhile_all _ _ h]
  simp[Str.length]
 have e1:stripHi y.cps.contains false x x.length=x.length:=rfl
 unfold Txt.lstripChars Txt.stripBy stripSame stripped
 rw[e0,e1]
 split
 ·rename_i hq
  simp only[Bool.and_eq_true,beq_iff_eq] at hq
  have:x.cps= #[]:=Array.eq_empty_of_size_eq_zero hq.1
  obtain⟨c⟩:=x
  have e:c= #[]:=this
  subst e
  rfl
 ·show(⟨x.cps.extract x.length x.length⟩:Str)=_
  have:x.cps.extract x.length x.length= #[]:=by simp[Str.length]
  rw[this];rfl
theorem yF{H:Hp}{a:Addr}{xs:List V}{T:Ty}{k:Bool→Prop}(h:H a=some (.tup xs))(q:k (T== .tuple)):bO T (.ref a) H k:=by
 show(match H a with | some (.lst _)=>k (T== .list) | some (.bT _ (.lst _))=>k (T== .list) | some (.tup _)=>k (T== .tuple) | some (.dK _)=>k (T== .dict) | some (.dT _)=>k (T== .dict) | _=>False)
 rw[h];exact q
theorem ack{H:Hp}{a:Addr}{xs:List V}{T:Ty}{k:Bool→Prop}(h:H a=some (.lst xs))(q:k (T== .list)):bO T (.ref a) H k:=by
 show(match H a with | some (.lst _)=>k (T== .list) | some (.bT _ (.lst _))=>k (T== .list) | some (.tup _)=>k (T== .tuple) | some (.dK _)=>k (T== .dict) | some (.dT _)=>k (T== .dict) | _=>False)
 rw[h];exact q
abbrev gS:List (Str×V):=[("SIGNS", .str SG)]
def acm:Sp:=fun vs H Q E=> ∃x,vs=[.str x]∧good x∧Q (.bl true) H
theorem acn{K:PySem.W.Frag}(vs:List V)(H:Hp)(Q:VK)(E:XK)(h:acm vs H Q E):ar (aR K [] gS (E:=E)) rm {nx:=fun _ H'=>Q .ax H',rt:=Q} (start rk vs) H:=by
 obtain⟨x,rfl,hx,q⟩:=h
 refine⟨_,rfl,rfl,_,rfl,dH ⟨_,rfl,rfl,b9 hx.1, ?_⟩⟩
 show Q (.bl (false ^^ decide (V.str (Txt.lstripChars x SG)=V.str ""))) H
 rw[acj x SG hx.2,decide_eq_true rfl]
 exact q
def dQ:Pt→Prop | .keep n=>1≤n | .put s=>good s∧s≠"" | .cut s=>good s∧s≠""
def aco(K:PySem.W.Frag):Sp:=fun vs H Q E=> ∃w p xs,vs=[.str w, .ref p]∧a_ K H p xs∧xs.all df=true∧Q (.bl (d6 (.str w) xs)) H
theorem acp{K:PySem.W.Frag}(vs:List V)(H:Hp)(Q:VK)(E:XK)(h:aco K vs H Q E):ar (aR K [] [] (E:=E)) rj {nx:=fun _ H'=>Q .ax H',rt:=Q} (start rg vs) H:=by
 obtain⟨w,p,xs,rfl,hp,hf,q⟩:=h
 exact⟨_,rfl,rfl,_,rfl,dH ⟨_,rfl,_,rfl,p,xs,rfl,(.inr hp),rfl,hf,q⟩⟩
def yG:Sp:=fun vs H Q E=> ∃v p,vs=[v]∧ie H v p∧dQ p∧ ∀H',aG H H'→Q (.bl true) H'
def chainOk:Str→List Pt→Bool
 | _,[]=>true
 | a,p::r=>ef p.word a && chainOk p.word r
def lR(a:Str)(ps:List Pt):Nat→Str
 | 0=>a
 | i+1=>match ps[i]? with | some p=>p.word | none=> ""
theorem Kq: ∀(ps:List Pt) (a:Str) (i:Nat) (p:Pt),chainOk a ps=true→ps[i]?=some p→ef p.word (lR a ps i)=true
 | [],_,_,_,_,h=>by simp at h
 | q::r,a,0,p,h,e=>by
  simp only[chainOk,Bool.and_eq_true] at h
  simp at e;subst e;exact h.1
 | q::r,a,i+1,p,h,e=>by
  simp only[chainOk,Bool.and_eq_true] at h
  have e':r[i]?=some p:=by simpa using e
  have ih:=Kq r q.word i p h.2 e'
  cases i with
  | zero=>simpa[lR] using ih
  | succ i=>simpa[lR] using ih
abbrev acq:List (Str×Sp):=[("is_part",yG),("may_follow",rH)]
def rJ:Sp:=fun vs H Q E=> ∃a xs ps,vs=[.ref a]∧H a=some (.lst xs)∧bZ H xs ps∧(∀p∈ps,dQ p)∧chainOk "" ps=true∧ ∀H',aG H H'→Q .ax H'
theorem acr{K:PySem.W.Frag}{et:List (Str×Addr)}(vs:List V)(H:Hp)(Q:VK)(E:XK)(h:rJ vs H Q E):ar (aR K acq [] (et:=et) (E:=E)) wy {nx:=fun _ H'=>Q .ax H',rt:=Q} (start wx vs) H:=by
 obtain⟨a,xs,ps,rfl,ha,cI,aI,dh,q⟩:=h
 refine⟨_,rfl,rfl,ack ha ⟨_,rfl,a,rfl,⟨_,aH.of ha⟩,mz (K:=K) (a:=a) (xs:=xs) (fun i σ H2=> ∃v,σ=[some (.ref a),some (.str (lR "" ps i)),v]∧aG H H2) ⟨none,rfl,aG.refl _⟩
  (fun i σ H2 _ ⟨_,_,s2⟩=>aH.of (s2 _ _ ha)) ?_ ?_⟩⟩
 ·rintro i x σ H2 hi ⟨v,rfl,s2⟩
  obtain⟨p,hp,ig⟩:=cI.get hi
  obtain⟨b,rfl,hb⟩:=ig.mono (bx s2)
  refine⟨_,rfl,_,p,rfl,⟨b,rfl,hb⟩,aI p (List.mem_of_getElem? hp),fun H3 s3=> ?_⟩
  refine⟨_,rfl, .inr (.inl ⟨_,_,_,_,rfl,rfl,a_.of (s3 _ _ hb),rfl,_,rfl,p.word,_,rfl, ?_⟩)⟩
  have e:=Kq ps "" i p dh hp
  show(fun c H1=>if (!c)=true then _ else _) (ef p.word (lR "" ps i)) H3
  rw[e]
  refine⟨_,rfl, .inr (.inl ⟨_,_,_,_,rfl,rfl,a_.of (s3 _ _ hb),rfl,some (.ref b), ?_,s2.trans s3⟩)⟩
  show[some (V.ref a),some (V.str p.word),some (V.ref b)]=_
  have e2:lR "" ps (i+1)=p.word:=by simp only[lR,hp]
  rw[e2]
 ·rintro σ H2 ⟨v,rfl,s2⟩
  exact q H2 s2
def overOf(ps:List Pt):List Int:=(ps.filter fun p=>decide (p.word≠ ("put":Str))).map oA
def acs(ps:List Pt):List Int:=(ps.filter fun p=>decide (p.word≠ ("cut":Str))).map oA
abbrev Kr:List (Str×Sp):=[("need_change",rJ),("part_size",fm)]
def oC:Sp:=fun vs H Q E=> ∃a xs ps,vs=[.ref a]∧H a=some (.lst xs)∧bZ H xs ps∧(∀p∈ps,dQ p)∧chainOk "" ps=true∧ps.length≤1000000∧
 ∀t H',aG H H'→H' t=some (.tup [.int (overOf ps).sum, .int (acs ps).sum])→Q (.ref t) H'
theorem Ks{p:Pt}(h:dQ p):yE p:=by
 cases p with
 | keep n=>trivial
 | put s=>exact h.1.1
 | cut s=>exact h.1.1
theorem acu{α:Type}(p:α→Bool)(l:List α)(i:Nat)(v:α)(h:l[i]?=some v):(l.take (i+1)).filter p=(l.take i).filter p++ (if p v then [v] else []):=by
 rw[List.take_add_one,h,List.filter_append]
 cases hp:p v<;>simp[hp]
theorem acv{K:PySem.W.Frag}(vs:List V)(H:Hp)(Q:VK)(E:XK)(h:oC vs H Q E):ar (aR K Kr [] (E:=E)) wC {nx:=fun _ H'=>Q .ax H',rt:=Q} (start wB vs) H:=by
 obtain⟨a,xs,ps,rfl,ha,cI,aI,dh,hlen,q⟩:=h
 refine⟨_,rfl,a,xs,ps,rfl,ha,cI,aI,dh,fun H1 s1=> ?_⟩
 have hl:=Paired.length cI
 have comp: ∀(w:Str) (H1:Hp) (Q1:VK) (σ:St),aG H H1→σ[0]?=some (some (.ref a))→
   (∀b H2,aG H H2→H2 b=some (.lst (((ps.filter fun p=>decide (p.word≠w)).map oA).map V.int))→Q1 (.ref b) H2)→
   ah (aR K Kr [] (E:=E)) (.comp none [] .list [(.v 0)] (some (.cmp .NotEq (.ix (.v 0) (.c (.int 0))) (.c (.str w)))) (.call 1 [(.v 0)])) σ H1 Q1:=by
  intro w H1 Q1 σ s1 hσ hq
  refine⟨_,hσ,a,rfl,⟨_,aH.of (s1 _ _ ha)⟩,fun i m ys H2=>m=xs.length - i∧i≤xs.length∧aG H H2∧ys=(((ps.take i).filter fun p=>decide (p.word≠w)).map oA).map V.int,⟨_,rfl,Nat.zero_le _,s1,rfl⟩, ?_⟩
  rintro i m ys H2 ⟨rfl,hi,s2,rfl⟩
  by_cases bz:i<xs.length
  ·refine .inr ⟨⟨xs,xs[i],aH.of (s2 _ _ ha),by simp[bz]⟩, ?_⟩
   rintro x H3 ⟨rfl,hx⟩
   have jH:=hx xs (aH.of (s2 _ _ ha))
   obtain⟨p,hp,ig⟩:=cI.get jH
   obtain⟨b,rfl,hb⟩:=ig.mono (bx s2)
   refine⟨_,rfl, .inr (.inl ⟨_,_,_,_,rfl,rfl,a_.of hb,rfl,_,rfl, ?_⟩)⟩
   rw[Bool.true_xor,fG]
   have tf:=acu (fun p=>decide (p.word≠w)) ps i p hp
   have hc:((ps.take i).filter fun p=>decide (p.word≠w)).length≤1000000:=Nat.le_trans (List.length_filter_le _ _) (Nat.le_trans (List.length_take_le _ _) (by omega))
   refine dI (fun h=> ?_) (fun h=> ?_)
   ·have e:decide (p.word≠w)=true:=by simpa using h
    refine⟨_,rfl,_,p,rfl,⟨b,rfl,hb⟩,Ks (aI p (List.mem_of_getElem? hp)), ?_,xs.length - (i+1),by omega,rfl,bz,s2, ?_⟩
    ·rw[List.length_map,List.length_map];exact jc hc
    ·rw[tf,e];simp
   ·have e:decide (p.word≠w)=false:=by simpa using h
    refine⟨xs.length - (i+1),by omega,rfl,bz,s2, ?_⟩
    rw[tf,e];simp
  ·have yH:i=xs.length:=by omega
   subst yH
   refine .inl ⟨⟨xs,aH.of (s2 _ _ ha),Nat.le_refl _⟩,fun p hp=> ?_⟩
   have e:ps.take xs.length=ps:=List.take_of_length_le (by omega)
   rw[e]
   exact hq p _ (s2.trans (sameNew hp)) aS
 refine HS (HU (HV (comp "put" H1 _ _ s1 rfl fun b1 H2 s2 e2=> ⟨_,aH.of e2, ?_⟩)))
 refine HS (HU (HV (comp "cut" H2 _ _ s2 rfl fun b2 H3 s3 e3=> ⟨_,aH.of e3, ?_⟩)))
 refine⟨_,rfl,_,rfl,(by show 2≤sizeLine;decide),fun t ht=> ?_⟩
 exact q t _ (s3.trans (sameNew ht)) aS
def cat(ts:List Str):Str:=Txt.join "" ts
def sz(ts:List Str):Nat:=(ts.map Str.length).sum
theorem mT(ts:List Str):(cat ts).cps.toList=(ts.map fun t=>t.cps.toList).flatten:=by
 have e:(Str.ofString "").cps= #[]:=rfl
 cases ts with
 | nil=>rfl
 | cons t r=>
  show(r.foldl (fun acc p=>acc++ (Str.ofString "").cps++p.cps) t.cps).toList=_
  rw[e]
  have go: ∀(r:List Str) (acc:Array Nat),(r.foldl (fun acc p=>acc++ #[]++p.cps) acc).toList=acc.toList++ (r.map fun t=>t.cps.toList).flatten:=by
   intro r
   induction r with
   | nil=>intro acc;simp
   | cons q r ih=>
    intro acc
    show(r.foldl (fun acc p=>acc++ #[]++p.cps) (acc++ #[]++q.cps)).toList=_
    rw[ih];simp
  rw[go];simp
theorem ij{x y:Str}(h:x.cps.toList=y.cps.toList):x=y:=by
 obtain⟨x⟩:=x
 obtain⟨y⟩:=y
 exact congrArg Str.mk (Array.toList_inj.mp h)
theorem app_list(x y:Str):(x++y).cps.toList=x.cps.toList++y.cps.toList:=by
 show(x.cps++y.cps).toList=_
 simp
theorem acw(a b:List Str):cat (a++b)=cat a++cat b:=ij (by rw[app_list,mT,mT,mT];simp)
theorem acx(x:Str):cat [x]=x:=ij (by rw[mT];simp)
theorem acy:cat []="":=rfl
theorem len_list(x:Str):x.length=x.cps.toList.length:=by simp[Str.length]
theorem Kt(ts:List Str):(cat ts).length=sz ts:=by
 rw[len_list,mT,List.length_flatten]
 unfold sz
 rw[List.map_map]
 congr 1
theorem joinOk_of{ts:List Str}(h:sz ts≤1000000):JoinOk "" ts=true:=by
 have go: ∀(l:List Str) (n:Nat),l.foldl (· + ·.length+ (Str.ofString "").length) n=n+sz l:=by
  intro l
  induction l with
  | nil=>intro n;rfl
  | cons t r ih=>
   intro n
   show r.foldl _ (n+t.length+0)=_
   rw[ih]
   show n+t.length+0+sz r=n+ (t.length+sz r)
   omega
 unfold JoinOk
 have e:ts.toArray.foldl (· + ·.length+ (Str.ofString "").length) 0=sz ts:=by
  rw[List.foldl_toArray,go,Nat.zero_add]
 rw[e]
 show(!decide (sz ts>sizeLine))=true
 rw[decide_eq_false (by have:=b9 h;omega)]
 rfl
def txt(mk:Str→Pt)(x:Str):List Pt:=if x="" then [] else [mk x]
def fo(ch:List Pt)(n:Int):List Pt:=match ch.getLast? with
 | some (.keep m)=>ch.dropLast++ [.keep (n+m)]
 | _=>ch++ [.keep n]
theorem acz(ch:List Pt)(n:Int):(fo ch n).length≤ch.length+1:=by
 unfold fo
 split
 ·simp only[List.length_append,List.length_dropLast,List.length_singleton];omega
 ·simp
def A1:Str:=" !\"#$&'()*+,-./0123456789:;<=>?@ABCDEFGHIJKLMNOPQRSTUVWXYZ[\\]^_`"
def rK(al:Str):Prop:=0<al.length∧al.length≤1000∧ ∀c∈al.cps.toList,SG.cps.contains c=true
theorem Ku{al:Str}(h:(decide (0<al.length) && decide (al.length≤1000) && al.cps.toList.all fun c=>SG.cps.contains c)=true):rK al:=by
 simp only[Bool.and_eq_true,decide_eq_true_eq,List.all_eq_true] at h
 exact⟨h.1.1,h.1.2,h.2⟩
def rM(t:Str):Prop:=t.length=1∧ ∀c∈t.cps.toList,SG.cps.contains c=true
abbrev Dn(Q:VK):Ends:={nx:=fun _ H'=>Q .ax H',rt:=Q}
theorem Kv(x y:Str):(x++y).length=x.length+y.length:=by rw[len_list,app_list,List.length_append,←len_list,←len_list]
def acA:Pt→Bool | .keep _=>true | _=>false
theorem rN{ch:List Pt}{n:Int}(h: ∀p,ch.getLast?=some p→acA p=false):fo ch n=ch++ [.keep n]:=by
 unfold fo
 split
 ·rename_i m e
  have:=h _ e
  cases this
 ·rfl
theorem yI(ch:List Pt)(m n:Int):fo (ch++ [.keep m]) n=ch++ [.keep (n+m)]:=by
 unfold fo
 rw[List.getLast?_append]
 simp
theorem txt_nil(mk:Str→Pt):txt mk ""=[]:=if_pos rfl
theorem cA{mk:Str→Pt}{x:Str}(h:x≠""):txt mk x=[mk x]:=if_neg h
def sg(x:Str):Prop:= ∀c∈x.cps.toList,SG.cps.contains c=true
theorem Kw{x y:Str}(a:sg x)(b:sg y):sg (x++y):=fun c hc=>by
 rw[app_list] at hc
 rcases List.mem_append.mp hc with z | z
 ·exact a c z
 ·exact b c z
theorem rO:sg (Str.ofString ""):=fun c hc=>by cases hc
def acB:Pt→PyData | .keep n=> .int n | .put s=> .str s | .cut s=> .str s
def toD(p:Pt):PyData:= .tuple [.str p.word,acB p]
def eh:Pt→Prop | .keep _=>True | .put s=>sg s | .cut s=>sg s
theorem Kx{x:Str}(h:sg x):PyData.strOk x=true:=by
 have small: ∀c,SG.cps.contains c=true→c<0x110000:=by
  have all:SG.cps.toList.all (fun c=>decide (c<0x110000))=true:=by decide+kernel
  intro c hc
  have hm:c∈SG.cps.toList:=by simpa using hc
  exact of_decide_eq_true (List.all_eq_true.mp all c hm)
 unfold PyData.strOk
 rw[Array.all_eq_true']
 intro c hc
 exact decide_eq_true (small c (h c (by simpa using hc)))
theorem toD_ok{p:Pt}(h:eh p):(toD p).canLay0=true∧(toD p).depth=1:=by
 cases p with
 | keep n=>exact⟨(by show(PyData.strOk (Str.ofString "keep") && (true && true))=true;decide+kernel),rfl⟩
 | put s=>
  refine⟨?_,rfl⟩
  show(PyData.strOk (Str.ofString "put") && (PyData.strOk s && true))=true
  rw[Kx h];decide+kernel
 | cut s=>
  refine⟨?_,rfl⟩
  show(PyData.strOk (Str.ofString "cut") && (PyData.strOk s && true))=true
  rw[Kx h];decide+kernel
theorem Ky: ∀(ps:List Pt),(∀p∈ps,eh p)→PyData.canLayAll0 (ps.map toD)=true∧PyData.depthAll (ps.map toD)≤1
 | [],_=> ⟨rfl,Nat.zero_le _⟩
 | p::r,h=>by
  obtain⟨a,b⟩:=toD_ok (h p List.mem_cons_self)
  obtain⟨c,d⟩:=Ky r fun q hq=>h q (List.mem_cons_of_mem _ hq)
  refine⟨?_, ?_⟩
  ·show((toD p).canLay0 && PyData.canLayAll0 (r.map toD))=true
   rw[a,c];rfl
  ·show max (toD p).depth (PyData.depthAll (r.map toD))≤1
   rw[b];omega
theorem acC{ps:List Pt}(h: ∀p∈ps,eh p):SeqAt.shaped (.list (ps.map toD))=true:=by
 obtain⟨c,d⟩:=Ky ps h
 unfold SeqAt.shaped
 have e:(PyData.list (ps.map toD)).canLay0=true:=c
 have e2:(PyData.list (ps.map toD)).depth≤64:=by show PyData.depthAll (ps.map toD)+1≤64;omega
 rw[e,decide_eq_true e2];rfl
theorem Kz{H:Hp}: ∀{vs:List V} {ps:List Pt},bZ H vs ps→IsL H (ps.map toD) vs
 | _,_, .nil=>rfl
 | _,_, .cons (a:=v) (b:=p) ⟨a,e,h⟩ r=>by
  refine⟨v,_,rfl, ?_,Kz r⟩
  refine⟨a,_,e,h, .str p.word,[p.val],rfl,rfl,p.val,[],rfl, ?_,rfl⟩
  cases p<;>rfl
def Pt.yJ:Pt→Pt | .keep n=> .keep n | .put s=> .cut s | .cut s=> .put s
def KA(ps:List Pt):List Pt:=ps.map Pt.yJ
inductive Run:List Nat→List Pt→List Nat→Prop
 | nil:Run [] [] []
 | keep {a l r:List Nat} {n:Int} {ps:List Pt}:n=a.length→Run l ps r→Run (a++l) (.keep n::ps) (a++r)
 | put {s:Str} {l r:List Nat} {ps:List Pt}:Run l ps r→Run l (.put s::ps) (s.cps.toList++r)
 | cut {s:Str} {l r:List Nat} {ps:List Pt}:Run l ps r→Run (s.cps.toList++l) (.cut s::ps) r
theorem Run.yJ{l r:List Nat}{ps:List Pt}(h:Run l ps r):Run r (KA ps) l:=by
 induction h with
 | nil=>exact .nil
 | keep e _ ih=>exact .keep e ih
 | put _ ih=>exact .cut ih
 | cut _ ih=>exact .put ih
theorem Run.app{l l' r r':List Nat}{ps qs:List Pt}(h:Run l ps r)(h':Run l' qs r'):Run (l++l') (ps++qs) (r++r'):=by
 induction h with
 | nil=>exact h'
 | keep e _ ih=>rw[List.append_assoc,List.append_assoc];exact .keep e ih
 | put _ ih=>rw[List.append_assoc];exact .put ih
 | cut _ ih=>rw[List.append_assoc];exact .cut ih
theorem Run.over{l r:List Nat}{ps:List Pt}(h:Run l ps r):(overOf ps).sum=l.length:=by
 induction h with
 | nil=>rfl
 | @keep a l r n ps e _ ih=>
  have e2:overOf (.keep n::ps)=n::overOf ps:=rfl
  rw[e2,List.sum_cons,ih,e,List.length_append]
  simp
 | @put s l r ps _ ih=>
  have e2:overOf (.put s::ps)=overOf ps:=rfl
  rw[e2,ih]
 | @cut s l r ps _ ih=>
  have e2:overOf (.cut s::ps)=(s.length:Int)::overOf ps:=rfl
  rw[e2,List.sum_cons,ih,List.length_append,len_list]
  simp
theorem KC{s:Str}:Run [] (txt .put s) s.cps.toList:=by
 by_cases h:s=""
 ·rw[h,txt_nil];exact .nil
 ·rw[cA h]
  have:=Run.put (s:=s) Run.nil
  rwa [List.append_nil] at this
theorem acD{s:Str}:Run s.cps.toList (txt .cut s) []:=by
 have:=(KC (s:=s)).yJ
 have e:KA (txt .put s)=txt .cut s:=by
  unfold txt;split<;>rfl
 rwa [e] at this
def One:Pt→List Nat→List Nat→Prop
 | .keep n,l,q=>l=q∧n=l.length
 | .put s,l,q=>l=[]∧q=s.cps.toList
 | .cut s,l,q=>l=s.cps.toList∧q=[]
theorem acE{p:Pt}{l q:List Nat}{ps:List Pt}(h:Run l (p::ps) q): ∃l1 l2 q1 q2,l=l1++l2∧q=q1++q2∧Run l2 ps q2∧
  One p l1 q1:=by
 cases h with
 | keep e h=>exact⟨_,_,_,_,rfl,rfl,h,rfl,e⟩
 | put h=>exact⟨[],_,_,_,rfl,rfl,h,rfl,rfl⟩
 | cut h=>exact⟨_,_,[],_,rfl,rfl,h,rfl,rfl⟩
theorem KD{x:Str}{a b c:List Nat}(h:x.cps.toList=a++ (b++c))(n:Int)(hn:n=b.length):hU x (some (a.length:Int)) (some ((a.length:Int)+n))=⟨b.toArray⟩:=by
 have e1:(a.length:Int)+n=((a.length+b.length:Nat):Int):=by rw[hn];simp
 unfold hU hJ
 rw[e1,HT.mD,HT.mD,h]
 have l1:(a++ (b++c)).length=a.length+ (b.length+c.length):=by simp
 rw[l1]
 have m1:min a.length (a.length+ (b.length+c.length))=a.length:=by omega
 have m2:min (a.length+b.length) (a.length+ (b.length+c.length))=a.length+b.length:=by omega
 rw[m1,m2,List.drop_left,show a.length+b.length - a.length=b.length by omega,List.take_left]
theorem mU{k:Str}{v:V}{r:List (Str×V)}:((k,v)::r).lookup k=some v:=by simp[List.lookup]
theorem eR{k j:Str}{v:V}{r:List (Str×V)}(h: ¬k=j):((j,v)::r).lookup k=r.lookup k:=by
 have:(k==j)=false:=by simpa using h
 simp[List.lookup,this]
theorem acF{k:Str}{v w:V}{r:List (Str×V)}:bV k v ((k,w)::r)=(k,v)::r:=by simp[bV]
theorem gJ{k j:Str}{v w:V}{r:List (Str×V)}(h: ¬j=k):bV k v ((j,w)::r)=(j,w)::bV k v r:=by simp[bV,h]
end L2.B
namespace L2.B
end L2.B
namespace L2.B
end L2.B
namespace L2.B
open PySem PySem.Spec PyProof.Rows
theorem lS{K:PySem.W.Frag}{sd:Addr→List (Key×V)→Prop}{H:Hp}{a:Addr}{xs:List V}{i:Int}{v:V}{Q:VK}(h:H a=some (.lst xs))(e:dG xs i=some v)(q:Q v H):iW K sd (.ref a) (.int i) H Q:=
 .inl ⟨_,_,_,_,rfl,rfl,aH.of h,e,q⟩
def lT:Sp:=fun vs H Q E=> ∃(a:Addr) (xs:List Int) (most:Int),vs=[.ref a, .int most]∧H a=some (.lst (xs.map V.int))∧mS xs∧Q (.int (cz xs most)) H
theorem acG{K:PySem.W.Frag}(vs:List V)(H:Hp)(Q:VK)(E:XK)(h:lT vs H Q E):ar (aR K [] [] (E:=E)) wK {nx:=fun _ H'=>Q .ax H',rt:=Q} (start wJ vs) H:=by
 obtain⟨a,xs,most,rfl,ha,hr,q⟩:=h
 have hc:=yA xs most
 refine⟨_,rfl, .inl ⟨_,aH.of ha, ?_⟩⟩
 rw[List.length_map]
 refine⟨fun m σ H'=> ∃(lo hi:Nat) (w:Option V),m=hi - lo∧σ=[some (.ref a),some (.int most),some (.int lo),some (.int hi),w]∧lo≤cz xs most∧cz xs most≤hi∧hi≤xs.length∧H'=H,
  ⟨_,0,xs.length,none,rfl,rfl,Nat.zero_le _,hc,Nat.le_refl _,rfl⟩, ?_⟩
 rintro m σ H' ⟨lo,hi,w,rfl,rfl,h1,h2,h3,rfl⟩
 refine⟨_,rfl,_,rfl,trivial,_,rfl, ?_⟩
 refine dI (fun h=> ?_) (fun h=> ?_)
 ·have bz:(lo:Int) < (hi:Int):=of_decide_eq_true h
  refine⟨_,fun σ' KG q=>q, ?_⟩
  refine⟨_,rfl,_,rfl,⟨by decide,by decide⟩, ?_⟩
  have hk:(lo+hi) / 2<xs.length:=by omega
  generalize hkk:(lo+hi) / 2=k at hk
  have hm:((lo:Int)+ (hi:Int)) / 2=(k:Int):=by omega
  show ar _ _ _ [some (V.ref a),some (V.int most),some (V.int lo),some (V.int hi),some (V.int (((lo:Int)+ (hi:Int)) / 2))] _
  rw[hm]
  have gk:xs[k]?=some xs[k]:=List.getElem?_eq_getElem hk
  have ik:dG (xs.map V.int) (k:Int)=some (.int xs[k]):=iR (by rw[List.getElem?_map,gk];rfl)
  refine⟨_,rfl,_,rfl,lS ha ik ⟨_,rfl,trivial,_,rfl, ?_⟩⟩
  refine dI (fun g=> ?_) (fun g=> ?_)
  ·have hle:xs[k]≤most:=of_decide_eq_true g
   exact⟨_,rfl,hi - (k+1),by omega,k+1,hi,some (V.int k),rfl,rfl,yC hr gk hle,h2,h3,rfl⟩
  ·have hle: ¬xs[k]≤most:=fun z=>g (decide_eq_true z)
   exact⟨_,rfl,k - lo,by omega,lo,k,some (V.int k),rfl,rfl,h1,Km hr gk hle,by omega,rfl⟩
 ·have hle: ¬(lo:Int) < (hi:Int):=fun z=>h (decide_eq_true z)
  have e:cz xs most=lo:=by omega
  rw[e] at q
  exact⟨_,rfl,q⟩
theorem acH{T:Ty}{v:V}{H:Hp}{P Q:Bool→Prop}(h:bO T v H P)(i: ∀b,P b→Q b):bO T v H Q:=by
 cases v with
 | ref a=>
  unfold bO at h⊢
  simp only at h⊢
  split at h
  all_goals first | exact i _ h | exact h.elim
 | ax=>exact i _ h
 | bl b=>exact i _ h
 | int _=>exact i _ h
 | str _=>exact i _ h
 | _=>exact False.elim h
theorem acI{T:Ty}{v:V}{H H':Hp}{P:Bool→Prop}(h:bO T v H P)(s:aG H H'):bO T v H' P:=by
 cases v with
 | ref a=>
  unfold bO at h⊢
  simp only at h⊢
  cases e:H a with
  | none=>rw[e] at h;exact h.elim
  | some o=>rw[e] at h;rw[s _ _ e];exact h
 | ax=>exact h
 | bl b=>exact h
 | int _=>exact h
 | str _=>exact h
 | _=>exact False.elim h
def fq(T:Ty)(v:V)(H:Hp):Prop:=bO T v H fun b=>b=false
theorem fq.same{T:Ty}{v:V}{H H':Hp}(h:fq T v H)(s:aG H H'):fq T v H':=acI h s
theorem fq.go{T:Ty}{v:V}{H:Hp}{Q:Bool→Prop}(h:fq T v H)(q:Q false):bO T v H Q:=acH h fun b e=>by rw[e];exact q
def acJ(x:Str):Bool:=x.cps.toList.all fun c=>SG.cps.contains c
theorem KH{α:Type}(p:α→Bool): ∀l:List α,l.all p=false→(l.takeWhile p).length<l.length
 | [],h=>by cases h
 | c::l,h=>by
  rw[List.takeWhile_cons]
  cases hc:p c with
  | false=>simp
  | true=>
   rw[List.all_cons,hc,Bool.true_and] at h
   have:=KH p l h
   simp;omega
theorem acK(x y:Str)(h:(x.cps.toList.all fun c=>y.cps.contains c)=false):Txt.lstripChars x y≠"":=by
 have lt:=KH _ _ h
 have e0:stripLo y.cps.contains true x=(x.cps.toList.takeWhile y.cps.contains).length:=by
  unfold stripLo
  rw[if_pos rfl]
 have e1: ∀n,stripHi y.cps.contains false x n=x.length:=fun n=>rfl
 intro z
 have z2:=congrArg Str.length z
 have l0:(Str.ofString "").length=0:=rfl
 rw[l0] at z2
 unfold Txt.lstripChars Txt.stripBy stripSame stripped at z2
 rw[e0,e1] at z2
 have hx:x.cps.size=x.cps.toList.length:=by simp
 split at z2
 ·have:x.cps.size=0:=z2
  omega
 ·have z3:(x.cps.extract (x.cps.toList.takeWhile y.cps.contains).length x.cps.size).size=0:=z2
  rw[Array.size_extract,Nat.min_self] at z3
  have z4:x.cps.size - (List.takeWhile (fun c=>y.cps.contains c) x.cps.toList).length=0:=z3
  omega
def lU(v:V)(H:Hp):Prop:=(∃x,v= .str x∧x.length≤1000000∧acJ x=false)∨fq .str v H
theorem lU.same{v:V}{H H':Hp}(h:lU v H)(s:aG H H'):lU v H':=by
 rcases h with h | h
 ·exact .inl h
 ·exact .inr (h.same s)
def mV(v:V)(H:Hp):Prop:=(∃b,v= .bl b)∨fq .int v H
theorem mV.same{v:V}{H H':Hp}(h:mV v H)(s:aG H H'):mV v H':=by
 rcases h with h | h
 ·exact .inl h
 ·exact .inr (h.same s)
def lV:Sp:=fun vs H Q E=> ∃v,vs=[v]∧((∃i,v= .int i∧Q (.bl true) H)∨(mV v H∧Q (.bl false) H))
theorem acL{K:PySem.W.Frag}(vs:List V)(H:Hp)(Q:VK)(E:XK)(h:lV vs H Q E):ar (aR K [] [] (E:=E)) wm (Dn Q) (start wk vs) H:=by
 obtain⟨v,rfl,⟨i,rfl,q⟩ | ⟨⟨b,rfl⟩ | hn,q⟩⟩:=h
 ·exact⟨_,rfl,rfl,_,rfl,dH ⟨_,rfl,rfl,q⟩⟩
 ·exact⟨_,rfl,rfl,_,rfl,dH ⟨_,rfl,rfl,q⟩⟩
 ·exact⟨_,rfl,rfl,hn.go ⟨_,rfl,gj q⟩⟩
def mW:Sp:=fun vs H Q E=> ∃v,vs=[v]∧((∃x,v= .str x∧good x∧Q (.bl true) H)∨(lU v H∧Q (.bl false) H))
theorem acM{K:PySem.W.Frag}(vs:List V)(H:Hp)(Q:VK)(E:XK)(h:mW vs H Q E):ar (aR K [] gS (E:=E)) rm (Dn Q) (start rk vs) H:=by
 obtain⟨v,rfl,⟨x,rfl,hx,q⟩ | ⟨⟨x,rfl,hl,hx⟩ | hn,q⟩⟩:=h
 ·exact acn _ _ _ _ ⟨x,rfl,hx,q⟩
 ·refine⟨_,rfl,rfl,_,rfl,dH ⟨_,rfl,rfl,b9 hl, ?_⟩⟩
  show Q (.bl (false ^^ decide (V.str (Txt.lstripChars x SG)=V.str ""))) H
  rw[decide_eq_false (fun z=>acK x SG hx (by injection z))]
  exact q
 ·exact⟨_,rfl,rfl,hn.go ⟨_,rfl,gj q⟩⟩
abbrev acN:List (Str×Sp):=[("is_text",mW)]
def lW(C:Addr):Sp:=fun vs H Q E=> ∃v,vs=[v]∧((∃x,v= .str x∧good x∧Q .ax H)∨(lU v H∧E (.ref C) none H))
theorem acO{K:PySem.W.Frag}{C:Addr}(vs:List V)(H:Hp)(Q:VK)(E:XK)(h:lW C vs H Q E):ar (aR K acN [] (et:=[("BadText",C)]) (E:=E)) wq (Dn Q) (start wo vs) H:=by
 obtain⟨v,rfl,⟨x,rfl,hx,q⟩ | ⟨hn,q⟩⟩:=h
 ·exact⟨_,rfl,_,rfl, .inl ⟨x,rfl,hx,q⟩⟩
 ·exact⟨_,rfl,_,rfl, .inr ⟨hn,(by show 1≤sizeLine;decide),q⟩⟩
def rP(K:PySem.W.Frag):Sp:=fun vs H Q E=> ∃v p xs,vs=[v, .ref p]∧a_ K H p xs∧xs.all df=true∧((∃w,v= .str w∧Q (.bl (d6 (.str w) xs)) H)∨(fq .str v H∧Q (.bl false) H))
theorem acP{K:PySem.W.Frag}(vs:List V)(H:Hp)(Q:VK)(E:XK)(h:rP K vs H Q E):ar (aR K [] [] (E:=E)) rj (Dn Q) (start rg vs) H:=by
 obtain⟨v,p,xs,rfl,hp,hf,⟨w,rfl,q⟩ | ⟨hn,q⟩⟩:=h
 ·exact acp _ _ _ _ ⟨w,p,xs,rfl,hp,hf,q⟩
 ·exact⟨_,rfl,rfl,hn.go ⟨_,rfl,gj q⟩⟩
def acQ(v:V)(H:Hp):Prop:=fq .tuple v H∨ ∃a xs,v= .ref a∧H a=some (.tup xs)∧xs.length≤1000000∧(xs.length≠2∨ ∃w t,xs=[w,t]∧
 (fq .str w H∨(∃s,w= .str s∧s≠"keep"∧s≠"cut"∧s≠"put")∨(w= .str "keep"∧(mV t H∨ ∃n,t= .int n∧n<1))∨((w= .str "cut"∨w= .str "put")∧(lU t H∨t= .str ""))))
abbrev rQ(K:PySem.W.Frag):List (Str×Sp):=[("is_word",rP K),("is_whole",lV),("is_text",mW)]
def yK:Sp:=fun vs H Q E=> ∃v,vs=[v]∧((∃p,ie H v p∧dQ p∧ ∀H',aG H H'→Q (.bl true) H')∨(acQ v H∧ ∀H',aG H H'→Q (.bl false) H'))
theorem KI(s t:Str):d6 (.str s) [.str t]=(t==s):=by
 unfold d6
 show(di (.str t) (.str s) || false)=_
 rw[Bool.or_false];rfl
theorem acR{K:PySem.W.Frag}(vs:List V)(H:Hp)(Q:VK)(E:XK)(h:yK vs H Q E):ar (aR K (rQ K) [] (E:=E)) ou (Dn Q) (start oo vs) H:=by
 have two: ∀(a:Addr) (w t:V) (Q1:VK) (H1:Hp) (σ:St),σ[0]?=some (some (.ref a))→H1 a=some (.tup [w,t])→
   (∀(tt:Addr) H2,aG H1 H2→ ∀b:Bool,(b=true→w= .str "cut"∨w= .str "put")→(b=false→w≠ .str "cut"∧w≠ .str "put")→Q1 (.bl b) H2)→(fq .str w H1∨ ∃s,w= .str s)→
   ah (aR K (rQ K) [] (E:=E)) (.call 0 [(.ix (.v 0) (.c (.int 0))),(.tup [(.c (.str "cut")),(.c (.str "put"))])]) σ H1 Q1:=by
  intro a w t Q1 H1 σ h0 ha q hw
  refine⟨_,h0, .inr (.inl ⟨_,_,_,_,rfl,rfl,a_.of ha,rfl,(by show 2≤sizeLine;decide),fun t ht=> ?_⟩)⟩
  have s2:=sameNew (o:= .tup [V.str "cut",V.str "put"]) ht
  refine⟨w,t,_,rfl,a_.of aS,rfl, ?_⟩
  rcases hw with hw | ⟨s,rfl⟩
  ·refine .inr ⟨hw.same s2,q t _ s2 false (fun z=>by cases z) fun _=> ⟨?_, ?_⟩⟩
   ·rintro rfl;cases (show true=false from hw)
   ·rintro rfl;cases (show true=false from hw)
  ·refine .inl ⟨s,rfl,q t _ s2 _ (fun z=> ?_) fun z=> ?_⟩
   ·have z':((Str.ofString "cut"==s) || ((Str.ofString "put"==s) || false))=true:=z
    simp only[Bool.or_false,Bool.or_eq_true,beq_iff_eq] at z'
    rcases z' with z' | z'<;>subst z'
    ·exact .inl rfl
    ·exact .inr rfl
   ·have z':((Str.ofString "cut"==s) || ((Str.ofString "put"==s) || false))=false:=z
    simp only[Bool.or_false,Bool.or_eq_false_iff,beq_eq_false_iff_ne] at z'
    exact⟨fun y=>z'.1 (by injection y with y;exact y.symm),fun y=>z'.2 (by injection y with y;exact y.symm)⟩
 obtain⟨v,rfl,⟨p,⟨a,rfl,ha⟩,hp,q⟩ | ⟨hn | ⟨a,xs,rfl,ha,hl,hb⟩,q⟩⟩:=h
 ·refine⟨_,rfl,rfl,yF ha ⟨_,rfl, .inr ⟨_,a_.of ha,_,rfl, ?_⟩⟩⟩
  refine⟨_,rfl, .inr (.inl ⟨_,_,_,_,rfl,rfl,a_.of ha,rfl,(by show 1≤sizeLine;decide),fun t1 yL=> ?_⟩)⟩
  have s1:=sameNew (o:= .tup [V.str "keep"]) yL
  refine⟨.str p.word,t1,[.str "keep"],rfl,a_.of aS,rfl, .inl ⟨p.word,rfl, ?_⟩⟩
  have fu:=s1 _ _ ha
  generalize upd H t1 (.tup [V.str "keep"])=H1 at s1 fu
  have fin: ∀(s:Str),good s→s≠""→H1 a=some (.tup [.str p.word, .str s])→p.word="put"∨p.word="cut"→ar (aR K (rQ K) [] (E:=E)) (ou.drop 2) (Dn Q) (start oo [.ref a]) H1:=by
   intro s gs ns hs hw
   refine two a (.str p.word) (.str s) _ H1 _ rfl hs (fun tt H2 s2 b mX rR=> ?_) (.inr ⟨_,rfl⟩)
   have eb:b=true:=by
    cases b with
    | true=>rfl
    | false=>
     obtain⟨z1,z2⟩:=rR rfl
     rcases hw with z | z
     ·exact absurd (congrArg V.str z) z2
     ·exact absurd (congrArg V.str z) z1
   subst eb
   have rS:=s2 _ _ hs
   refine⟨_,rfl,dH ⟨_,rfl, .inr (.inl ⟨_,_,_,_,rfl,rfl,a_.of rS,rfl, .str s,rfl, .inl ⟨s,rfl,gs,_,rfl, ?_⟩⟩)⟩⟩
   refine dH ⟨_,rfl, .inr (.inl ⟨_,_,_,_,rfl,rfl,a_.of rS,rfl, ?_⟩)⟩
   show Q (.bl (true ^^ decide (V.str s=V.str ""))) _
   rw[decide_eq_false (fun z=>ns (by injection z))]
   exact q _ (s1.trans s2)
  cases p with
  | keep n=>
   rw[show d6 (.str (Pt.keep n).word) [.str "keep"]=true by show d6 (.str "keep") [.str "keep"]=true;decide]
   refine⟨_,rfl, .inr (.inl ⟨_,_,_,_,rfl,rfl,a_.of fu,rfl, .int n,rfl, .inl ⟨n,rfl,_,rfl, ?_⟩⟩)⟩
   refine dH ⟨_,rfl, .inr (.inl ⟨_,_,_,_,rfl,rfl,a_.of fu,rfl,trivial, ?_⟩)⟩
   show Q (.bl (decide (1≤n))) H1
   rw[decide_eq_true (show(1:Int)≤n from hp)]
   exact q _ s1
  | put s=>
   rw[show d6 (.str (Pt.put s).word) [.str "keep"]=false by show d6 (.str "put") [.str "keep"]=false;decide]
   exact fin s hp.1 hp.2 fu (.inl rfl)
  | cut s=>
   rw[show d6 (.str (Pt.cut s).word) [.str "keep"]=false by show d6 (.str "cut") [.str "keep"]=false;decide]
   exact fin s hp.1 hp.2 fu (.inr rfl)
 ·exact⟨_,rfl,rfl,hn.go (q _ (aG.refl _))⟩
 ·refine⟨_,rfl,rfl,yF ha ⟨_,rfl, .inr ⟨_,a_.of ha,_,rfl, ?_⟩⟩⟩
  show if (true ^^ decide (V.int (xs.length:Int)=V.int 2))=true then _ else _
  rcases hb with hb | ⟨w,t,rfl,hb⟩
  ·rw[decide_eq_false (fun z=>hb (by injection z with z;omega))]
   exact q _ (aG.refl _)
  ·refine⟨_,rfl, .inr (.inl ⟨_,_,_,_,rfl,rfl,a_.of ha,rfl,(by show 1≤sizeLine;decide),fun t1 yL=> ?_⟩)⟩
   have s1:=sameNew (o:= .tup [V.str "keep"]) yL
   refine⟨w,t1,[.str "keep"],rfl,a_.of aS,rfl, ?_⟩
   have fu:=s1 _ _ ha
   generalize upd H t1 (.tup [V.str "keep"])=H1 at s1 fu
   have no:(fq .str w H1∨ ∃s,w= .str s)→w≠ .str "cut"→w≠ .str "put"→ar (aR K (rQ K) [] (E:=E)) (ou.drop 2) (Dn Q) (start oo [.ref a]) H1:=by
    intro hw n1 n2
    refine two a w t _ H1 _ rfl fu (fun tt H2 s2 b mX rR=> ?_) hw
    have eb:b=false:=by
     cases b with
     | false=>rfl
     | true=>rcases mX rfl with z | z;exact absurd z n1;exact absurd z n2
    subst eb
    exact⟨_,rfl,gj (q _ (s1.trans s2))⟩
   rcases hb with hb | ⟨s,rfl,n0,n1,n2⟩ | ⟨rfl,hb⟩ | ⟨hw,hb⟩
   ·refine .inr ⟨hb.same s1,no (.inl (hb.same s1)) ?_ ?_⟩
    ·rintro rfl;cases (show true=false from hb)
    ·rintro rfl;cases (show true=false from hb)
   ·refine .inl ⟨s,rfl, ?_⟩
    rw[KI,beq_eq_false_iff_ne.mpr (Ne.symm n0)]
    exact no (.inr ⟨s,rfl⟩) (fun z=>n1 (by injection z)) (fun z=>n2 (by injection z))
   ·refine .inl ⟨_,rfl, ?_⟩
    rw[show d6 (.str "keep") [.str "keep"]=true by decide]
    refine⟨_,rfl, .inr (.inl ⟨_,_,_,_,rfl,rfl,a_.of fu,rfl,t,rfl, ?_⟩)⟩
    rcases hb with hb | ⟨n,rfl,hn⟩
    ·exact .inr ⟨hb.same s1,_,rfl,gj (q _ s1)⟩
    ·refine .inl ⟨n,rfl,_,rfl,dH ⟨_,rfl, .inr (.inl ⟨_,_,_,_,rfl,rfl,a_.of fu,rfl,trivial, ?_⟩)⟩⟩
     show Q (.bl (decide (1≤n))) H1
     rw[decide_eq_false (by omega)]
     exact q _ s1
   ·have hws: ∃s,w= .str s∧(Str.ofString "keep"==s)=false:=by
     rcases hw with rfl | rfl
     ·exact⟨_,rfl,by decide⟩
     ·exact⟨_,rfl,by decide⟩
    obtain⟨s,rfl,hk⟩:=hws
    refine .inl ⟨s,rfl, ?_⟩
    rw[KI,hk]
    refine two a (.str s) t _ H1 _ rfl fu (fun tt H2 s2 b mX rR=> ?_) (.inr ⟨s,rfl⟩)
    have eb:b=true:=by
     cases b with
     | true=>rfl
     | false=>
      obtain⟨z1,z2⟩:=rR rfl
      rcases hw with z | z
      ·exact absurd z z1
      ·exact absurd z z2
    subst eb
    have KJ:=s2 _ _ fu
    refine⟨_,rfl,dH ⟨_,rfl, .inr (.inl ⟨_,_,_,_,rfl,rfl,a_.of KJ,rfl,t,rfl, ?_⟩)⟩⟩
    rcases hb with hb | rfl
    ·exact .inr ⟨hb.same (s1.trans s2),_,rfl,gj (q _ (s1.trans s2))⟩
    ·refine .inl ⟨_,rfl,⟨by decide,fun c hc=>by cases hc⟩,_,rfl,dH ⟨_,rfl, .inr (.inl ⟨_,_,_,_,rfl,rfl,a_.of KJ,rfl, ?_⟩)⟩⟩
     exact q _ (s1.trans s2)
theorem acT{vs:List V}{H:Hp}{Q:VK}{E:XK}(h:yG vs H Q E):yK vs H Q E:=by
 obtain⟨v,p,rfl,hp,ho,q⟩:=h
 exact⟨_,rfl, .inl ⟨p,hp,ho,q⟩⟩
end L2.B
namespace L2
open PySem PySem.Spec PyProof.Rows
section
variable {Γ:aF} {D:Ends} {σ:St} {H:Hp} {r:List RS} {Q:VK} {QA:List V→Hp→Prop} {QT:Bool→Hp→Prop}
theorem ag{i:Nat}{v:V}(h:σ[i]?=some (some v))(q:Q v H):ah Γ (.v i) σ H Q:=⟨_,h,q⟩
theorem aw{v:V}(q:Q v H):ah Γ (.c v) σ H Q:=q
theorem r_g{j:Nat}(q:Q (Γ.gv j) H):ah Γ (.g j) σ H Q:=q
theorem aK{op:Operator}{a b:RE}(h:ah Γ a σ H fun x H1=>ah Γ b σ H1 fun y H2=>jK Γ.K op x y H2 Q):ah Γ (.bin op a b) σ H Q:=h
theorem rT{op:CmpOp}{a b:RE}(h:ah Γ a σ H fun x H1=>ah Γ b σ H1 fun y H2=>cn Γ.K op x y H2 Q):ah Γ (.cmp op a b) σ H Q:=h
theorem bc{a b:RE}(h:ah Γ a σ H fun x H1=>ah Γ b σ H1 fun y H2=>iW Γ.K Γ.sd x y H2 Q):ah Γ (.ix a b) σ H Q:=h
theorem acV{j:Nat}{as:List RE}(h:bq Γ as σ H fun vs H1=>Γ.fs j (vs++ []) H1 Q Γ.E):ah Γ (.call j as) σ H Q:=h
theorem bL{j:Nat}{as:List RE}(sp:Sp)(hs:Γ.fs j=sp)(h:bq Γ as σ H fun vs H1=>sp vs H1 Q Γ.E):ah Γ (.call j as) σ H Q:=by
 subst hs
 refine acV ?_
 have e:(fun(vs:List V) (H1:Hp)=>Γ.fs j (vs++ []) H1 Q Γ.E)=fun vs H1=>Γ.fs j vs H1 Q Γ.E:=by
  funext vs H1;rw[List.append_nil]
 rw[e];exact h
theorem yM{b:hV}{as:List RE}(h:bq Γ as σ H fun vs H1=>jM Γ.K b vs H1 Q):ah Γ (.blt b as) σ H Q:=h
theorem ip{as:List RE}(h:bq Γ as σ H fun xs H1=>xs.length≤sizeLine∧ ∀p,H1 p=none→Q (.ref p) (upd H1 p (.tup xs))):ah Γ (.tup as) σ H Q:=h
theorem jd{as:List RE}(h:bq Γ as σ H fun xs H1=>xs.length≤sizeLine∧ ∀p,H1 p=none→Q (.ref p) (upd H1 p (.lst xs))):ah Γ (.lst as) σ H Q:=h
theorem aU(q:QA [] H):bq Γ [] σ H QA:=q
theorem ay{a:RE}{as:List RE}(h:ah Γ a σ H fun x H1=>bq Γ as σ H1 fun xs H2=>QA (x::xs) H2):bq Γ (a::as) σ H QA:=h
theorem aZ{i:Nat}{e:RE}(h:ah Γ e σ H fun x H1=>ar Γ r D (σ.set i (some x)) H1):ar Γ (.asg i e::r) D σ H:=h
theorem oE{e:RE}(h:ah Γ e σ H fun _ H1=>ar Γ r D σ H1):ar Γ (.drop e::r) D σ H:=h
theorem cE{e:RE}(h:ah Γ e σ H D.rt):ar Γ (.ret e::r) D σ H:=h
end
end L2
namespace L2.B
open PySem PySem.Spec PyProof.Rows
theorem Paired.app{α β:Type}{R:α→β→Prop}: ∀{xs vF:List α} {ys eG:List β},Paired R xs ys→Paired R vF eG→Paired R (xs++vF) (ys++eG)
 | _,_,_,_, .nil,s=>s
 | _,_,_,_, .cons r t,s=> .cons r (Paired.app t s)
section
variable {Γ:aF} {cs:List Addr} {ink ea D:Addr} {j:Nat}
end
theorem Run.good{l r:List Nat}{ps:List Pt}(h:Run l ps r)(hl: ∀c∈l,SG.cps.contains c=true)(hp: ∀p∈ps,eh p): ∀c∈r,SG.cps.contains c=true:=by
 induction h with
 | nil=>exact hl
 | keep e _ ih=>
  intro c hc
  rcases List.mem_append.mp hc with z | z
  ·exact hl c (List.mem_append.mpr (.inl z))
  ·exact ih (fun d hd=>hl d (List.mem_append.mpr (.inr hd))) (fun p h=>hp p (.tail _ h)) c z
 | put _ ih=>
  intro c hc
  rcases List.mem_append.mp hc with z | z
  ·exact(hp _ (.head _):sg _) c z
  ·exact ih hl (fun p h=>hp p (.tail _ h)) c z
 | cut _ ih=>exact ih (fun d hd=>hl d (List.mem_append.mpr (.inr hd))) (fun p h=>hp p (.tail _ h))
theorem acW{x:Str}(k:Nat)(n:Int)(m:Nat)(hn:n=m):hU x (some (k:Int)) (some ((k:Int)+n))=⟨((x.cps.toList.drop k).take m).toArray⟩:=by
 have e1:(k:Int)+n=((k+m:Nat):Int):=by rw[hn];simp
 unfold hU hJ
 rw[e1,HT.mD,HT.mD]
 congr 1
 by_cases h:k≤x.cps.toList.length
 ·rw[show min k x.cps.toList.length=k by omega]
  by_cases h2:k+m≤x.cps.toList.length
  ·rw[show min (k+m) x.cps.toList.length=k+m by omega,Nat.add_sub_cancel_left]
  ·rw[show min (k+m) x.cps.toList.length=x.cps.toList.length by omega,List.take_of_length_le (by rw[List.length_drop];omega),List.take_of_length_le (by rw[List.length_drop];omega)]
 ·rw[show min k x.cps.toList.length=x.cps.toList.length by omega,List.drop_length,List.drop_of_length_le (by omega),List.take_nil,List.take_nil]
def oF:Sp:=fun vs H Q E=> ∃x a xs ps r,vs=[.str x, .ref a]∧good x∧H a=some (.lst xs)∧bZ H xs ps∧(∀p∈ps,yE p)∧Run x.cps.toList ps r∧r.length≤1000000∧Q (.str ⟨r.toArray⟩) H
end L2.B
namespace L2
open PySem PySem.Spec PyProof.Rows
theorem ae{α:Type _}{p:α→Prop}: ∀x∈ ([]:List α),p x:=fun _ h=>nomatch h
theorem aB{α:Type _}{p:α→Prop}{a:α}{l:List α}(h:p a)(t: ∀x∈l,p x): ∀x∈a::l,p x:=List.forall_mem_cons.2 ⟨h,t⟩
section
variable {P:Program} {w:World} {K:PySem.W.Frag}
end
section
variable {P:Program} {w:World} {K:PySem.W.Frag} {mg:Str→Option Value} {base:Heap} {k:Nat}
theorem cm.weak{CX:aL}{f:Addr}{fd:FuncData}{ps:List Str}{a b:Sp}(A:cm P w K mg base CX k f fd ps b)(h: ∀vs H Q E,a vs H Q E→b vs H Q E):cm P w K mg base CX k f fd ps a:=
 ⟨fun vs H Q E q=>A.len vs H Q E (h _ _ _ _ q),fun A' outer s H args us vs Q E hr e0 hb hv hs=>A.run A' outer s H args us vs Q E hr e0 hb hv (h _ _ _ _ hs)⟩
theorem bE.weak{x:Str}{a b:Sp}(T:bE P w K mg base k x b)(h: ∀vs H Q E,a vs H Q E→b vs H Q E):bE P w K mg base k x a:=by
 obtain⟨f,fd,ps,F,r⟩:=T
 exact⟨f,fd,ps,F.weak h,r⟩
open PySem.W in
theorem rV{x:Str}{C:Addr}(X:K.In base)(G:base.Ns mainGlobals mg)(e:nsIn K mainGlobals x=some (some (.ref C)))(q:excIn K C [.type "ValueError", .type "Exception", .type "BaseException", .type "object"] "ValueError.__new__"=true):mP mg base (x,C):=by
 refine⟨_,_,_,_,⟨mg_of X G e, ?_⟩,PySem.F.excBase_ValueError⟩
 unfold excIn at q
 split at q
 ·rename_i dd cd sl ho
  split at q
  ·rename_i C' bm k0 k1 k2 k3 n k5 hm hs
   simp only[Bool.and_eq_true,beq_iff_eq,Bool.not_eq_true'] at q
   obtain⟨⟨⟨⟨⟨rfl,rfl⟩,KL⟩,ht⟩,aI⟩,qN⟩:=q
   obtain⟨nm,bs,mro,ns,qn,hd,sn,sub,ab,col,del⟩:=cd
   dsimp only at hm KL aI qN
   subst hm KL
   obtain⟨sl⟩:=sl
   have rS:sl=_:=hs
   subst rS
   exact⟨bm,ns,nm,qn,bs,hd,sn,sub,ab,col,dd,k0,k1,k2,k3,k5,_,X _ _ ho, .of_isNs (isNs_of_in X aI),nsMap_none_of_in X aI qN,tail_of_in X ht⟩
  ·cases q
 ·cases q
end
namespace B
end B
end L2
namespace L2.B
end L2.B
namespace L2.B
open PySem PySem.Spec PyProof.Rows
end L2.B
namespace L2.B
end L2.B
namespace L2
open PySem PySem.Spec PyProof.Rows
section
variable {Γ:aF} {D:Ends} {σ:St} {H:Hp} {r:List RS} {Q:VK} {QA:List V→Hp→Prop} {QT:Bool→Hp→Prop}
theorem je{j:Nat}{m:Str}{o:RE}(C:Addr)(sp:Sp)(hm:Γ.ms j=(C,sp))(h:ah Γ o σ H fun x H1=> ∃a dx fs,x= .ref a∧H1 a=some (.ins C dx fs)∧fs.lookup m=none∧sp [x] H1 Q Γ.E):ah Γ (.bP j m o []) σ H Q:=by
 show jB (Γ.ms j).1 m (Γ.ms j).2 [] Γ.E (ah Γ o) (bq Γ []) σ H Q
 rw[hm];exact h
theorem eS{j:Nat}{m:Str}{o a:RE}(C:Addr)(sp:Sp)(hm:Γ.ms j=(C,sp))(h:ah Γ o σ H fun x H1=> ∃p dx fs,x= .ref p∧H1 p=some (.ins C dx fs)∧fs.lookup m=none∧ah Γ a σ H1 fun y H2=>sp [x,y] H2 Q Γ.E):ah Γ (.bP j m o [a]) σ H Q:=by
 show jB (Γ.ms j).1 m (Γ.ms j).2 [] Γ.E (ah Γ o) (bq Γ [a]) σ H Q
 rw[hm];exact h
theorem yN{c:RE}{body:List RS}(W:Nat→St→Hp→Prop)(h0: ∃m,W m σ H)
  (h: ∀m σ H,W m σ H→br Γ c σ H fun b H1=>if b=true then ∃N:St→Hp→Prop,(∀σ' H',N σ' H'→ ∃m',m'<m∧W m' σ' H')∧ar Γ body {{D with nx:=ar Γ r D} with nx:=N,ct:=N,bk:=ar Γ r D} σ H1 else ar Γ r D σ H1):ar Γ (.iU c body::r) D σ H:=⟨W,h0,h⟩
theorem bH{c:RE}{t e:List RS}(h:br Γ c σ H fun b H1=>if b=true then ar Γ t {D with nx:=ar Γ r D} σ H1 else ar Γ e {D with nx:=ar Γ r D} σ H1):ar Γ (.ite c t e::r) D σ H:=h
theorem bG{op:CmpOp}{a b:RE}(h:ah Γ a σ H fun x H1=>ah Γ b σ H1 fun y H2=>cn Γ.K op x y H2 fun z H3=> ∃k,z= .bl k∧QT k H3):br Γ (.cmp op a b) σ H QT:=h
theorem dr{o:RE}{f:Str}(h:ah Γ o σ H fun x H1=> ∃a C dx fs v,x= .ref a∧H1 a=some (.ins C dx fs)∧d5 Γ.K C∧eA Γ.K C f∧fs.lookup f=some v∧Q v H1):ah Γ (.fld o f) σ H Q:=h
theorem mY{m:fK}{o a:RE}(h:ah Γ o σ H fun x H1=>nI Γ.K (qI m) x H1∧ah Γ a σ H1 fun y H2=>nW Γ.K m x [y] H2 Q):ah Γ (.b6 m o [a]) σ H Q:=h
theorem dC{K:PySem.W.Frag}{x y:Str}{Q:VK}(q:Q (.bl (x==y)) H):cn K .Eq (.str x) (.str y) H Q:=by
 show Q (.bl (false ^^ decide (V.str x=V.str y))) H
 rw[Bool.false_xor,fG];exact q
theorem oG{K:PySem.W.Frag}{x y:Str}{Q:VK}(q:Q (.bl (x !=y)) H):cn K .NotEq (.str x) (.str y) H Q:=by
 show Q (.bl (true ^^ decide (V.str x=V.str y))) H
 rw[Bool.true_xor,fG];exact q
end
end L2
namespace L2.B
open PySem PySem.Spec PyProof.Rows
def yO(v:V)(lo hi:Int)(H:Hp):Prop:=mV v H∨ ∃i,v= .int i∧(i<lo∨hi<i)
def cK:Sp:=fun vs H Q E=> ∃(v:V) (lo hi:Int),vs=[v, .int lo, .int hi]∧((∃i,v= .int i∧lo≤i∧i≤hi∧Q (.bl true) H)∨(yO v lo hi H∧Q (.bl false) H))
theorem acX{K:PySem.W.Frag}(vs:List V)(H:Hp)(Q:VK)(E:XK)(h:cK vs H Q E):ar (aR K [("is_whole",lV)] [] (E:=E)) wH (Dn Q) (start wG vs) H:=by
 have chain: ∀(i lo hi:Int) (b:Bool) (H:Hp),decide (lo≤i∧i≤hi)=b→Q (.bl b) H→ah (aR K [("is_whole",lV)] [] (E:=E)) (.nV .LtE .LtE (.v 1) (.v 0) (.v 2)) [some (.int i),some (.int lo),some (.int hi)] H Q:=by
  intro i lo hi b H hb q
  refine⟨_,rfl,_,rfl,trivial,_,rfl, ?_⟩
  refine dI (fun h1=> ?_) (fun h1=> ?_)
  ·refine⟨_,rfl,trivial, ?_⟩
   have oH:lo≤i:=of_decide_eq_true h1
   have e:decide (i≤hi)=b:=by rw[←hb];simp[oH]
   show Q (.bl (decide (i≤hi))) H
   rw[e];exact q
  ·have oH: ¬lo≤i:=fun z=>h1 (decide_eq_true z)
   have e:b=false:=by rw[←hb];simp[oH]
   have e2:decide (lo≤i)=false:=decide_eq_false oH
   rw[e] at q
   first
    | exact q
    | (show Q (.bl (decide (lo≤i))) H;rw[e2];exact q)
 obtain⟨v,lo,hi,rfl,⟨i,rfl,h1,h2,q⟩ | ⟨hn | ⟨i,rfl,hb⟩,q⟩⟩:=h
 ·exact⟨_,rfl,_,rfl, .inl ⟨i,rfl,_,rfl,dH (chain i lo hi true H (by simp[h1,h2]) q)⟩⟩
 ·exact⟨_,rfl,_,rfl, .inr ⟨hn,_,rfl,gj q⟩⟩
 ·exact⟨_,rfl,_,rfl, .inl ⟨i,rfl,_,rfl,dH (chain i lo hi false H (by rw[decide_eq_false];rintro⟨a,b⟩;omega) q)⟩⟩
def cZ(lt lb lf:Addr)(n:Int):List (Str×V):=[("texts", .ref lt),("begins", .ref lb),("feeds", .ref lf),("signs", .int n)]
theorem rW{lt lb lf:Addr}{n:Int}:(cZ lt lb lf n).lookup ("texts":Str)=some (V.ref lt):=mU
theorem yP{lt lb lf:Addr}{n:Int}:(cZ lt lb lf n).lookup ("begins":Str)=some (V.ref lb):=(eR (by decide+kernel)).trans mU
theorem yQ{lt lb lf:Addr}{n:Int}:(cZ lt lb lf n).lookup ("feeds":Str)=some (V.ref lf):=(eR (by decide+kernel)).trans ((eR (by decide+kernel)).trans mU)
theorem KN{lt lb lf:Addr}{n:Int}:(cZ lt lb lf n).lookup ("signs":Str)=some (V.int n):=(eR (by decide+kernel)).trans ((eR (by decide+kernel)).trans ((eR (by decide+kernel)).trans mU))
theorem oI{lt lb lf:Addr}{n:Int}{m:Str}(h1: ¬m="texts")(h2: ¬m="begins")(h3: ¬m="feeds")(h4: ¬m="signs"):(cZ lt lb lf n).lookup m=none:=
 (eR h1).trans ((eR h2).trans ((eR h3).trans ((eR h4).trans rfl)))
theorem acY{lt lb lf:Addr}{n k:Int}:bV "signs" (.int k) (cZ lt lb lf n)=cZ lt lb lf k:=by
 unfold cZ
 rw[gJ (by decide+kernel),gJ (by decide+kernel),gJ (by decide+kernel),acF]
theorem acZ{lt lb lf:Addr}{n:Int}:bV "signs" (.int n) (bV "feeds" (.ref lf) (bV "begins" (.ref lb) (bV "texts" (.ref lt) [])))=cZ lt lb lf n:=by
 have e1:bV "texts" (V.ref lt) []=[(("texts":Str),V.ref lt)]:=rfl
 have e2:bV "begins" (V.ref lb) []=[(("begins":Str),V.ref lb)]:=rfl
 have e3:bV "feeds" (V.ref lf) []=[(("feeds":Str),V.ref lf)]:=rfl
 unfold cZ
 rw[e1,gJ (by decide+kernel),e2,gJ (by decide+kernel),gJ (by decide+kernel),gJ (by decide+kernel),e3,gJ (by decide+kernel),gJ (by decide+kernel)]
 rfl
def ak(ts:List Str):List Nat:=(ts.map fun t=>t.cps.toList).flatten
theorem fR(a b:List Str):ak (a++b)=ak a++ak b:=by simp[ak]
theorem jf(t:Str):ak [t]=t.cps.toList:=by simp[ak]
def cJ:List Str→Nat→List Int
 | [],_=> []
 | t::r,k=> (k:Int)::cJ r (k+t.length)
theorem KO: ∀(a b:List Str) (k:Nat),cJ (a++b) k=cJ a k++cJ b (k+ (ak a).length)
 | [],b,k=>by simp[cJ,ak]
 | t::a,b,k=>by
  have ih:=KO a b (k+t.length)
  have e:k+t.length+ (ak a).length=k+ (ak (t::a)).length:=by
   simp[ak,Str.length];omega
  rw[e] at ih
  simp only[List.cons_append,cJ,ih]
structure bU (C:Addr) (H:Hp) (p dx lt lb lf:Addr) (ts:List Str):Prop where
 ob:H p=some (.ins C dx (cZ lt lb lf (ak ts).length))
 tx:H lt=some (.lst (ts.map V.str))
 bg:H lb=some (.lst ((cJ ts 0).map V.int))
 fd:H lf=some (.lst ((dP 10 (ak ts)).map V.int))
 n1:lt≠lb
 n2:lt≠lf
 n3:lb≠lf
def dD(p lt lb lf:Addr)(H H':Hp):Prop:= ∀b o,H b=some o→b≠p→b≠lt→b≠lb→b≠lf→H' b=some o
theorem dD.trans{p lt lb lf:Addr}{H H1 H2:Hp}(a:dD p lt lb lf H H1)(b:dD p lt lb lf H1 H2):dD p lt lb lf H H2:=fun c o e n1 n2 n3 n4=>b c o (a c o e n1 n2 n3 n4) n1 n2 n3 n4
theorem bU.same{C:Addr}{H H':Hp}{p dx lt lb lf:Addr}{ts:List Str}(S:bU C H p dx lt lb lf ts)(s:aG H H'):bU C H' p dx lt lb lf ts:=
 ⟨s _ _ S.ob,s _ _ S.tx,s _ _ S.bg,s _ _ S.fd,S.n1,S.n2,S.n3⟩
def oJ(C:Addr):Sp:=fun vs H Q E=> ∃(p dx:Addr),vs=[.ref p]∧H p=some (.ins C dx [])∧ ∀(lt lb lf:Addr) (H':Hp),bU C H' p dx lt lb lf []→H lt=none→H lb=none→H lf=none→(∀b o,H b=some o→b≠p→H' b=some o)→Q .ax H'
theorem ac0{K:PySem.W.Frag}{C:Addr}(T:mQ K C)(vs:List V)(H:Hp)(Q:VK)(E:XK)(h:oJ C vs H Q E):ar (aR K [] [] (E:=E)) wM {nx:=fun _ H'=>Q .ax H',rt:=Q} (start wL vs) H:=by
 obtain⟨p,dx,rfl,hp,k⟩:=h
 refine⟨Nat.zero_le _,fun lt f1=> ?_⟩
 have jg:p≠lt:=bW hp f1
 refine⟨_,rfl,p,C,dx,[],rfl,(by rw[aN jg];exact hp),T.cl,T.ow,(by show 0<1000;decide), ?_⟩
 refine⟨Nat.zero_le _,fun lb f2=> ?_⟩
 have mZ:p≠lb:=fun z=>by rw[←z,aS] at f2;cases f2
 have rX:lt≠lb:=fun z=>by rw[←z,aN jg.symm,aS] at f2;cases f2
 refine⟨_,rfl,p,C,dx,_,rfl,(by rw[aN mZ,aS]),T.cl,T.rq,(by show 1<1000;decide), ?_⟩
 refine⟨Nat.zero_le _,fun lf f3=> ?_⟩
 have oK:p≠lf:=fun z=>by rw[←z,aS] at f3;cases f3
 have yR:lb≠lf:=fun z=>by rw[←z,aN mZ.symm,aS] at f3;cases f3
 have yS:lt≠lf:=fun z=>by rw[←z,aN jg.symm,aN rX,aN jg.symm,aS] at f3;cases f3
 refine⟨_,rfl,p,C,dx,_,rfl,(by rw[aN oK,aS]),T.cl,T.rA,(by show 2<1000;decide), ?_⟩
 refine⟨_,rfl,p,C,dx,_,rfl,aS,T.cl,T.rB,(by show 3<1000;decide), ?_⟩
 have fb:H lb=none:=by
  rw[aN mZ.symm,aN rX.symm] at f2;exact f2
 have ff:H lf=none:=by
  rw[aN oK.symm,aN yR.symm,aN oK.symm,aN yS.symm] at f3;exact f3
 refine k lt lb lf _ ⟨?_, ?_, ?_, ?_,rX,yS,yR⟩ f1 fb ff fun b o e nb=> ?_
 ·rw[aS]
  exact congrArg (fun l=>some (HO.ins C dx l)) acZ
 ·rw[aN jg.symm,aN jg.symm,aN yS,aN jg.symm,aN rX,aN jg.symm,aS];rfl
 ·rw[aN mZ.symm,aN mZ.symm,aN yR,aN mZ.symm,aS];rfl
 ·rw[aN oK.symm,aN oK.symm,aS];rfl
 ·rw[aN nb,aN nb,aN (bW e ff),aN nb,aN (bW e fb),aN nb,aN (bW e f1)];exact e
theorem ac1:(Str.ofString "\n")=⟨#[10]⟩:=by rfl
def ji(l:List Nat):Int:=match l with | i::_=> (i:Int) | []=> -1
theorem KP(x:Str)(lo:Nat)(hl:lo≤x.length):(match Builtin.Str.occurrences x (Str.ofString "\n") lo x.length 1 with | i::_=> (i:Int) | []=> -1)=ji (pos 10 (x.cps.toList.drop lo) lo):=by
 rw[ac1,yD x 10 lo 1 hl]
 cases pos 10 (x.cps.toList.drop lo) lo<;>rfl
def oM(CT C:Addr):Sp:=fun vs H Q E=> ∃(p dx lt lb lf:Addr) (ts:List Str) (v:V),vs=[.ref p,v]∧bU C H p dx lt lb lf ts∧((lU v H∧E (.ref CT) none H)∨ ∃x,v= .str x∧good x∧ts.length≤100000∧(ak ts).length≤1000000∧
 ∀H',dD p lt lb lf H H'→bU C H' p dx lt lb lf (ts++ [x])→Q (.int (ak ts).length) H')
theorem yT: ∀(ts:List Str) (k:Nat),(cJ ts k).length=ts.length
 | [],_=>rfl
 | t::r,k=>by simp[cJ,yT r]
theorem KQ(c:Nat)(a:List Nat)(k:Nat):(pos c a k).length≤a.length:=by
 rw[ee];exact List.count_le_length
theorem ac2{K:PySem.W.Frag}{CT C:Addr}(T:mQ K C)(vs:List V)(H:Hp)(Q:VK)(E:XK)(h:oM CT C vs H Q E):ar (aR K [("need_text",lW CT)] [] (E:=E)) wN {nx:=fun _ H'=>Q .ax H',rt:=Q} (start rp vs) H:=by
 obtain⟨p,dx,lt,lb,lf,ts,v,rfl,S,⟨hb,q⟩ | ⟨x,rfl,hx,ht,hs,k⟩⟩:=h
 ·exact⟨_,rfl,_,rfl, .inr ⟨hb,q⟩⟩
 have KR:p≠lt:=ub S.ob S.tx (by intro z;cases z)
 have KS:p≠lb:=ub S.ob S.bg (by intro z;cases z)
 have KU:p≠lf:=ub S.ob S.fd (by intro z;cases z)
 refine⟨_,rfl,_,rfl, .inl ⟨x,rfl,hx, ?_⟩⟩
 refine⟨_,rfl,p,C,dx,_,_,rfl,S.ob,T.cl,T.rB,KN, ?_⟩
 refine⟨_,rfl,p,C,dx,_,_,rfl,S.ob,T.cl,T.ow,rW, .inl ⟨rfl,_,aH.of S.tx⟩,_,rfl,_,S.tx,jc (by simp;omega), ?_⟩
 have o1:upd H lt (.lst (ts.map V.str++ [V.str x])) p=some (.ins C dx (cZ lt lb lf (ak ts).length)):=by rw[aN KR];exact S.ob
 have o2:upd H lt (.lst (ts.map V.str++ [V.str x])) lb=some (.lst ((cJ ts 0).map V.int)):=by rw[aN S.n1.symm];exact S.bg
 refine⟨_,rfl,p,C,dx,_,_,rfl,o1,T.cl,T.rq,yP, .inl ⟨rfl,_,aH.of o2⟩,_,rfl,_,o2,jc (by rw[List.length_map,yT];omega), ?_⟩
 refine⟨_,rfl,_,rfl,b9 hx.1,_,rfl,p,C,dx,_,rfl,(by rw[aN KS];exact o1),T.cl,T.rB,(by show 4<1000;decide), ?_⟩
 generalize gm:upd (upd (upd H lt (.lst (ts.map V.str++ [V.str x]))) lb (.lst ((cJ ts 0).map V.int++ [V.int ((ak ts).length:Int)]))) p (.ins C dx (bV "signs" (.int (((ak ts).length:Int)+ (x.length:Int))) (cZ lt lb lf ((ak ts).length:Int))))=H3
 have b3:dD p lt lb lf H H3:=fun b o e n1 n2 n3 n4=>by
  rw[←gm,aN n1,aN n3,aN n2];exact e
 have ob3:H3 p=some (.ins C dx (cZ lt lb lf (((ak ts).length:Int)+ (x.length:Int)))):=by
  rw[←gm,aS]
  exact congrArg (fun l=>some (HO.ins C dx l)) acY
 have tx3:H3 lt=some (.lst (ts.map V.str++ [V.str x])):=by rw[←gm,aN KR.symm,aN S.n1,aS]
 have bg3:H3 lb=some (.lst ((cJ ts 0).map V.int++ [V.int ((ak ts).length:Int)])):=by rw[←gm,aN KS.symm,aS]
 have fd3:H3 lf=some (.lst ((dP 10 (ak ts)).map V.int)):=by rw[←gm,aN KU.symm,aN S.n3.symm,aN S.n2.symm];exact S.fd
 have oN:=len_list x
 have l0:=KQ 10 (ak ts) 0
 have l1:=KQ 10 x.cps.toList 0
 refine⟨_,rfl,rfl, ?_⟩
 show ar _ _ _ ((start rp [V.ref p,V.str x]).set 2 _ |>.set 3 (some (V.int (match Builtin.Str.occurrences x (Str.ofString "\n") 0 x.length 1 with | i::_=> (i:Int) | []=> -1)))) H3
 rw[KP x 0 (Nat.zero_le _),List.drop_zero]
 refine⟨fun m σ H'=> ∃(done rest:List Nat),m=rest.length∧pos 10 x.cps.toList 0=done++rest∧σ=[some (.ref p),some (.str x),some (.int ((ak ts).length:Int)),some (.int (ji rest))]∧cO lf H3 H'∧H' lf=some (.lst ((dP 10 (ak ts)++done.map fun(i:Nat)=> ((ak ts).length:Int)+ (i:Int)).map V.int)),
  ⟨_,[],pos 10 x.cps.toList 0,rfl,rfl,rfl,fun b o e _=>e,by rw[List.map_nil,List.append_nil];exact fd3⟩, ?_⟩
 rintro m σ H' ⟨done,rest,rfl,hd,rfl,b4,f4⟩
 have KW:=b4 _ _ ob3 KU
 refine⟨_,rfl,trivial,_,rfl, ?_⟩
 cases rest with
 | nil=>
  refine iF ⟨_,rfl, ?_⟩
  rw[List.append_nil] at hd
  refine k H' (fun b o e n1 n2 n3 n4=>b4 b o (b3 b o e n1 n2 n3 n4) n4) ⟨?_, ?_, ?_, ?_,S.n1,S.n2,S.n3⟩
  ·rw[fR,jf,List.length_append,←oN,Int.natCast_add];exact KW
  ·rw[List.map_append];exact b4 _ _ tx3 S.n2
  ·rw[KO,List.map_append,Nat.zero_add];exact b4 _ _ bg3 S.n3
  ·rw[fR,jf,ace,hd];exact f4
 | cons i rest=>
  have hi:=gH 10 x.cps.toList 0 i (by rw[hd];simp)
  have hl:done.length+ (rest.length+1)≤x.cps.toList.length:=by
   have:=congrArg List.length hd
   simp at this
   omega
  have lQ:decide ((0:Int)≤ji (i::rest))=true:=decide_eq_true (by show(0:Int)≤ (i:Int);omega)
  refine iT ?_ lQ
  refine⟨_,fun σ' KG q=>q, ?_⟩
  refine⟨_,rfl,p,C,dx,_,_,rfl,KW,T.cl,T.rA,yQ, .inl ⟨rfl,_,aH.of f4⟩,_,rfl,_,rfl,_,f4,(by have e:sizeLine=16777216:=rfl;have:=hx.1;simp[dP];omega), ?_⟩
  refine⟨_,rfl,rfl,_,rfl, ?_⟩
  have e1:fromIndex x.length (ji (i::rest)+1)=i+1:=by
   show fromIndex x.length ((i:Int)+1)=i+1
   unfold fromIndex
   rw[if_neg (by omega)];omega
  have nx:=Kn 10 x.cps.toList 0 i done rest hd
  rw[Nat.sub_zero] at nx
  have e2:=KP x (i+1) (by omega)
  rw[nx] at e2
  rw[←e1] at e2
  refine⟨rest.length,Nat.lt_succ_self _,done++ [i],rest,rfl,by rw[hd];simp, ?_,b4.trans cO.upd, ?_⟩
  ·show[_,_,_,some (V.int (match Builtin.Str.occurrences x (Str.ofString "\n") (fromIndex x.length (ji (i::rest)+1)) x.length 1 with | k::_=> (k:Int) | []=> -1))]=_
   rw[e2]
  ·rw[aS]
   simp[ji]
end L2.B
namespace L2
open PySem PySem.Spec PyProof.Rows
section
variable {Γ:aF} {D:Ends} {σ:St} {H:Hp} {r:List RS} {Q:VK} {QA:List V→Hp→Prop} {QT:Bool→Hp→Prop}
theorem dE{K:PySem.W.Frag}{b:Bool}{QB:Bool→Prop}(h:QB b):gw K (.bl b) H QB:=h
theorem dt{a:RE}(h:br Γ a σ H fun b H1=>QT (!b) H1):br Γ (.not a) σ H QT:=h
theorem dR{j:Nat}{as:List RE}(sp:Sp)(hs:Γ.fs j=sp)(h:bq Γ as σ H fun vs H1=>sp vs H1 (fun x H2=>gw Γ.K x H2 fun b=>QT b H2) Γ.E):br Γ (.call j as) σ H QT:=by
 subst hs
 show bq Γ as σ H fun vs H1=>Γ.fs j (vs++ []) H1 (fun x H2=>gw Γ.K x H2 fun b=>QT b H2) Γ.E
 have e:(fun(vs:List V) (H1:Hp)=>Γ.fs j (vs++ []) H1 (fun x H2=>gw Γ.K x H2 fun b=>QT b H2) Γ.E)=fun vs H1=>Γ.fs j vs H1 (fun x H2=>gw Γ.K x H2 fun b=>QT b H2) Γ.E:=by
  funext vs H1;rw[List.append_nil]
 rw[e];exact h
theorem iq{a b:RE}(h:br Γ a σ H fun c H1=>if c=true then QT true H1 else br Γ b σ H1 QT):br Γ (.or [a,b]) σ H QT:=h
theorem KY{a b:RE}(h:br Γ a σ H fun c H1=>if c=true then br Γ b σ H1 QT else QT false H1):br Γ (.and [a,b]) σ H QT:=h
end
end L2
namespace L2.B
open PySem PySem.Spec PyProof.Rows
section
variable {Γ:aF} {σ:St} {H:Hp} {Q:VK} {QT:Bool→Hp→Prop} {K:PySem.W.Frag}
theorem oO{a b:RE}{r:List RE}(h:br Γ a σ H fun c H1=>if c=true then QT true H1 else br Γ (.or (b::r)) σ H1 QT):br Γ (.or (a::b::r)) σ H QT:=h
theorem KZ{a:RE}(h:br Γ a σ H QT):br Γ (.or [a]) σ H QT:=h
theorem yU{a b:RE}{r:List RE}(h:br Γ a σ H fun c H1=>if c=true then br Γ (.and (b::r)) σ H1 QT else QT false H1):br Γ (.and (a::b::r)) σ H QT:=h
theorem ac7{a:RE}(h:br Γ a σ H QT):br Γ (.and [a]) σ H QT:=h
theorem ac8{T:Ty}{a:RE}(h:ah Γ a σ H fun x H1=>bO T x H1 fun b=>QT b H1):br Γ (.dJ T a) σ H QT:=by
 show dz Γ.K (cU (iV T) (cQ (ah Γ a) (cQ (tC (.ty T.nm)) fI))) σ H QT
 have e: ∀(q:VK),(fun(x:V) (H1:Hp)=>bO T x H1 fun b=>q (.bl b) H1)=fun x H1=>iV T [x, .ty T.nm] H1 q:=by
  intro q;funext x H1;simp[iV]
 show ah Γ a σ H fun x H1=>iV T [x, .ty T.nm] H1 fun v H2=>gw Γ.K v H2 fun b=>QT b H2
 rw[←e];exact h
theorem aE{sd:Addr→List (Key×V)→Prop}{a:Addr}{xs:List V}{i:Int}{v:V}(h:H a=some (.tup xs))(e:dG xs i=some v)(q:Q v H):iW K sd (.ref a) (.int i) H Q:=
 .inr (.inl ⟨_,_,_,_,rfl,rfl,a_.of h,e,q⟩)
theorem gK{x y:Int}(q:Q (.bl (decide (x=y))) H):cn K .Eq (.int x) (.int y) H Q:=by
 show Q (.bl (false ^^ decide (V.int x=V.int y))) H
 rw[Bool.false_xor,show decide (V.int x=V.int y)=decide (x=y) from decide_eq_decide.mpr ⟨fun z=>by injection z,fun z=>by rw[z]⟩];exact q
theorem m3{x y:Int}(q:Q (.bl (!decide (x=y))) H):cn K .NotEq (.int x) (.int y) H Q:=by
 show Q (.bl (true ^^ decide (V.int x=V.int y))) H
 rw[Bool.true_xor,show decide (V.int x=V.int y)=decide (x=y) from decide_eq_decide.mpr ⟨fun z=>by injection z,fun z=>by rw[z]⟩];exact q
theorem bJ{i j:Int}(h:Q (.int (i+j)) H):jK K .Add (.int i) (.int j) H Q:=h
end
theorem ac9{K:PySem.W.Frag}{H:Hp}{x y:Int}{Q:VK}(q:Q (.bl (decide (x<y))) H):cn K .Lt (.int x) (.int y) H Q:=⟨trivial,q⟩
theorem ac_(ps:List Str)(z:Str):(cat (ps++ [z])).cps.toList=(cat ps).cps.toList++z.cps.toList:=by rw[acw,acx,app_list]
def pre(ts:List Str)(k:Nat):Nat:=(ak (ts.take k)).length
theorem K0(t:Str)(r:List Str):ak (t::r)=t.cps.toList++ak r:=by simp[ak]
theorem K1{ts:List Str}{k:Nat}(h:ts.length≤k):pre ts k=(ak ts).length:=by unfold pre;rw[List.take_of_length_le h]
theorem ada{ts:List Str}{k:Nat}{t:Str}(h:ts[k]?=some t):ak ts=ak (ts.take k)++ (t.cps.toList++ak (ts.drop (k+1))):=by
 obtain⟨h1,h2⟩:=List.getElem?_eq_some_iff.mp h
 conv=>lhs;rw[←List.take_append_drop k ts,List.drop_eq_getElem_cons h1,h2]
 rw[fR,K0]
theorem K2{ts:List Str}{k:Nat}{t:Str}(h:ts[k]?=some t):pre ts (k+1)=pre ts k+t.length:=by
 unfold pre
 rw[List.take_add_one,h,fR,List.length_append]
 show _+ (ak [t]).length=_
 rw[jf,len_list]
theorem adb(ts:List Str)(k:Nat):pre ts k≤ (ak ts).length:=by
 have e:ak ts=ak (ts.take k)++ak (ts.drop k):=by rw[←fR,List.take_append_drop]
 rw[e,List.length_append];unfold pre;omega
theorem ade(ts:List Str):pre ts 0=0:=rfl
theorem oP: ∀(ts:List Str) (k j:Nat),j<ts.length→(cJ ts k)[j]?=some (((k+pre ts j:Nat):Int))
 | [],k,j,h=>by cases h
 | t::r,k,0,h=>by simp[cJ,pre,ak]
 | t::r,k,j+1,h=>by
  have ih:=oP r (k+t.length) j (Nat.lt_of_succ_lt_succ h)
  show(cJ r (k+t.length))[j]?=_
  rw[ih]
  have:pre (t::r) (j+1)=t.length+pre r j:=by
   unfold pre
   rw[List.take_succ_cons,K0,List.length_append,len_list]
  rw[this];congr 1;omega
theorem K3: ∀(ts:List Str) (k:Nat),∀x∈cJ ts k,(k:Int)≤x
 | [],k,x,h=>by cases h
 | t::r,k,x,h=>by
  rcases List.mem_cons.mp h with rfl | h
  ·exact Int.le_refl _
  ·have:=K3 r (k+t.length) x h
   omega
theorem yV: ∀(ts:List Str) (k:Nat),mS (cJ ts k)
 | [],k=>List.Pairwise.nil
 | t::r,k=>List.Pairwise.cons (fun x hx=>by have:=K3 r (k+t.length) x hx;omega) (yV r (k+t.length))
theorem adf{ts:List Str}{b:Nat}(h:b< (ak ts).length): ∃k,cz (cJ ts 0) (b:Int)=k+1∧k<ts.length∧pre ts k≤b∧b≤pre ts (k+1):=by
 have hl:=yT ts 0
 have hc:=yA (cJ ts 0) (b:Int)
 have hr:=yV ts 0
 have adg:0<ts.length:=by
  cases ts with
  | nil=>simp[ak] at h
  | cons t r=>exact Nat.zero_lt_succ _
 have h0:=yC (most:=(b:Int)) hr (oP ts 0 0 adg) (by rw[ade];omega)
 obtain⟨k,hk⟩: ∃k,cz (cJ ts 0) (b:Int)=k+1:=⟨cz (cJ ts 0) (b:Int) - 1,by omega⟩
 have K4:k<ts.length:=by omega
 refine⟨k,hk,K4, ?_, ?_⟩
 ·by_cases q:pre ts k≤b
  ·exact q
  ·have:=Km (most:=(b:Int)) hr (oP ts 0 k K4) (by omega)
   omega
 ·by_cases q:k+1<ts.length
  ·by_cases z:b≤pre ts (k+1)
   ·exact z
   ·have:=yC (most:=(b:Int)) hr (oP ts 0 (k+1) q) (by omega)
    omega
  ·rw[K1 (by omega)];omega
theorem adh{ts:List Str}{k c m:Nat}{t:Str}(h:ts[k]?=some t)(h1:pre ts k≤c)(h2:c≤pre ts (k+1)):(t.cps.toList.drop (c - pre ts k)).take m=((ak ts).drop c).take (min m (pre ts (k+1) - c)):=by
 rw[ada h]
 have hp:=K2 h
 have lt:=len_list t
 have e:(ak (ts.take k)++ (t.cps.toList++ak (ts.drop (k+1)))).drop c=t.cps.toList.drop (c - pre ts k)++ak (ts.drop (k+1)):=by
  rw[List.drop_append,List.drop_of_length_le (show(ak (ts.take k)).length≤c from h1),List.nil_append]
  show(t.cps.toList++_).drop (c - pre ts k)=_
  rw[List.drop_append_of_le_length (by omega)]
 rw[e]
 have hl:(t.cps.toList.drop (c - pre ts k)).length=pre ts (k+1) - c:=by rw[List.length_drop];omega
 rw[List.take_append_of_le_length (by rw[hl];omega),←hl,←List.take_take,List.take_length]
theorem adi{l:List Nat}(b c m:Nat)(h:b≤c):(l.drop b).take (c - b)++ (l.drop c).take m=(l.drop b).take (c+m - b):=by
 rw[show c+m - b=(c - b)+m by omega,List.take_add,List.drop_drop,show b+ (c - b)=c by omega]
def adj(vb vn:V)(n:Nat)(H:Hp):Prop:=yO vb 0 (n:Int) H∨ ∃b:Int,vb= .int b∧0≤b∧b≤ (n:Int)∧yO vn 0 ((n:Int) - b) H
def oQ(CP C:Addr):Sp:=fun vs H Q E=> ∃(p dx lt lb lf:Addr) (ts:List Str) (vb vn:V),vs=[.ref p,vb,vn]∧bU C H p dx lt lb lf ts∧((adj vb vn (ak ts).length H∧E (.ref CP) none H)∨
 ∃b n:Nat,vb= .int (b:Nat)∧vn= .int (n:Nat)∧b+n≤ (ak ts).length∧ts.length≤100000∧(ak ts).length≤1000000∧(∀t∈ts,t.length≤1000000)∧ ∀H',aG H H'→Q (.str ⟨(((ak ts).drop b).take n).toArray⟩) H')
abbrev m4:List (Str×Sp):=[("is_between",cK),("many_upto",lT)]
theorem adk{K:PySem.W.Frag}{CP C:Addr}(T:mQ K C)(vs:List V)(H:Hp)(Q:VK)(E:XK)(h:oQ CP C vs H Q E):ar (aR K m4 [] (et:=[("NoPlace",CP)]) (E:=E)) wQ (Dn Q) (start wO vs) H:=by
 obtain⟨p,dx,lt,lb,lf,ts,vb,vn,rfl,S,h⟩:=h
 have fs: ∀{H1:Hp} {σ:St} {Q':VK},aG H H1→σ[0]?=some (some (.ref p))→Q' (.int (ak ts).length) H1→ah (aR K m4 [] (et:=[("NoPlace",CP)]) (E:=E)) (.fld (.v 0) "signs") σ H1 Q':=fun s e q=> ⟨_,e,p,C,dx,_,_,rfl,s _ _ S.ob,T.cl,T.rB,KN,q⟩
 have fb: ∀{H1:Hp} {σ:St} {Q':VK},aG H H1→σ[0]?=some (some (.ref p))→Q' (.ref lb) H1→ah (aR K m4 [] (et:=[("NoPlace",CP)]) (E:=E)) (.fld (.v 0) "begins") σ H1 Q':=fun s e q=> ⟨_,e,p,C,dx,_,_,rfl,s _ _ S.ob,T.cl,T.rq,yP,q⟩
 have ft: ∀{H1:Hp} {σ:St} {Q':VK},aG H H1→σ[0]?=some (some (.ref p))→Q' (.ref lt) H1→ah (aR K m4 [] (et:=[("NoPlace",CP)]) (E:=E)) (.fld (.v 0) "texts") σ H1 Q':=fun s e q=> ⟨_,e,p,C,dx,_,_,rfl,s _ _ S.ob,T.cl,T.ow,rW,q⟩
 have rz:=aG.refl H
 rcases h with⟨hb | ⟨b,rfl,h1,h2,hb⟩,q⟩ | ⟨b,n,rfl,rfl,hbn,htl,hsl,hts,q⟩
 ·refine bH (iq (dt (dR cK rfl (ay (ag rfl (ay (aw (ay (fs rz rfl (aU ⟨_,_,_,rfl, .inr ⟨hb,dE (iT (iT ?_ rfl) rfl)⟩⟩))))))))))
  exact⟨(by show 1≤sizeLine;decide),q⟩
 ·refine bH (iq (dt (dR cK rfl (ay (ag rfl (ay (aw (ay (fs rz rfl (aU ⟨_,_,_,rfl, .inl ⟨b,rfl,h1,h2,dE (iF ?_ rfl)⟩⟩))))))))))
  refine dt (dR cK rfl (ay (ag rfl (ay (aw (ay (aK (fs rz rfl (ag rfl ⟨trivial,aU ⟨_,_,_,rfl, .inr ⟨hb,dE (iT ?_ rfl)⟩⟩⟩)))))))))
  exact⟨(by show 1≤sizeLine;decide),q⟩
 ·refine bH (iq (dt (dR cK rfl (ay (ag rfl (ay (aw (ay (fs rz rfl (aU ⟨_,_,_,rfl, .inl ⟨_,rfl,by omega,by omega,dE (iF ?_ rfl)⟩⟩))))))))))
  refine dt (dR cK rfl (ay (ag rfl (ay (aw (ay (aK (fs rz rfl (ag rfl ⟨trivial,aU ⟨_,_,_,rfl, .inl ⟨_,rfl,by omega,by omega,dE (iF ?_ rfl)⟩⟩⟩)))))))))
  refine aZ (jd (aU ⟨Nat.zero_le _,fun d hd=> ?_⟩))
  have s1:=sameNew (o:= .lst []) hd
  refine aZ (aK (bL lT rfl (ay (fb s1 rfl (ay (ag rfl (aU ⟨lb,cJ ts 0,_,rfl,s1 _ _ S.bg,yV ts 0,aw ⟨trivial, ?_⟩⟩)))))))
  refine aZ (aK (ag rfl (ag rfl (bJ ?_))))
  have ji:upd H d (.lst []) d=some (.lst (([]:List Str).map V.str)):=aS
  refine yN (fun m σ H2=> ∃(c:Nat) (k:Int) (ps:List Str) (u6 u7:Option V),m=ts.length+1 - k.toNat∧σ=[some (.ref p),some (.int (c:Nat)),some (.int (n:Nat)),some (.ref d),some (.int k),some (.int ((b:Int)+ (n:Int))),u6,u7]∧cO d H H2∧H2 d=some (.lst (ps.map V.str))∧b≤c∧c≤b+n∧(cat ps).cps.toList=((ak ts).drop b).take (c - b)∧ps.length≤k.toNat+1∧
    (c<b+n→ ∃j:Nat,k=(j:Int)∧j<ts.length∧pre ts j≤c∧c≤pre ts (j+1)))
   ⟨_,b,((cz (cJ ts 0) (b:Int):Nat):Int) - 1,[],none,none,rfl,rfl,fun x o e nx=>by rw[aN nx];exact e,ji,Nat.le_refl _,by omega,by rw[acy,Nat.sub_self,List.take_zero];rfl,Nat.zero_le _,fun bz=> ?_⟩ ?_
  ·obtain⟨j,e,h1,h2,h3⟩:=adf (ts:=ts) (b:=b) (by omega)
   exact⟨j,by omega,h1,h2,h3⟩
  rintro m σ H2 ⟨c,k,ps,u6,u7,rfl,rfl,b2,hd2,hbc,hcn,cI,g5,mI⟩
  refine bG (ag rfl (ag rfl (ac9 ⟨_,rfl, ?_⟩)))
  refine dI (fun bz=> ?_) (fun bz=> ?_)
  ·have yW:c<b+n:=by have:=of_decide_eq_true bz;omega
   obtain⟨j,rfl,iu,qW,yX⟩:=mI yW
   clear mI
   have nd: ∀{a:Addr} {o:HO},H a=some o→H2 a=some o:=fun {a o} e=>b2 a o e (fun z=>by rw[z,hd] at e;cases e)
   have tj:ts[j]?=some ts[j]:=List.getElem?_eq_getElem iu
   have fb2: ∀{σ:St} {Q':VK},σ[0]?=some (some (.ref p))→Q' (.ref lb) H2→ah (aR K m4 [] (et:=[("NoPlace",CP)]) (E:=E)) (.fld (.v 0) "begins") σ H2 Q':=fun e q=> ⟨_,e,p,C,dx,_,_,rfl,nd S.ob,T.cl,T.rq,yP,q⟩
   have ft2: ∀{σ:St} {Q':VK},σ[0]?=some (some (.ref p))→Q' (.ref lt) H2→ah (aR K m4 [] (et:=[("NoPlace",CP)]) (E:=E)) (.fld (.v 0) "texts") σ H2 Q':=fun e q=> ⟨_,e,p,C,dx,_,_,rfl,nd S.ob,T.cl,T.ow,rW,q⟩
   have ab:dG ((cJ ts 0).map V.int) (j:Int)=some (.int (pre ts j:Nat)):=iR (by rw[List.getElem?_map,oP ts 0 j iu,Nat.zero_add];rfl)
   have at':dG (ts.map V.str) (j:Int)=some (.str ts[j]):=iR (by rw[List.getElem?_map,tj];rfl)
   have tle:=hts _ (List.getElem_mem iu)
   refine⟨_,fun σ' KG q=>q, ?_⟩
   refine aZ (aK (ag rfl (bc (fb2 rfl (ag rfl (lS (nd S.bg) ab ⟨trivial, ?_⟩))))))
   refine aZ ?_
   refine⟨_,rfl,p,C,dx,_,_,rfl,nd S.ob,T.cl,T.ow,rW,_,rfl,lS (nd S.tx) at' ?_⟩
   refine⟨_,rfl,_,rfl,_,rfl,_,rfl,_,rfl,trivial,_,rfl,b9 tle, ?_⟩
   have ec:hU ts[j] (some ((c:Int) - (pre ts j:Nat))) (some ((c:Int) - (pre ts j:Nat)+ ((b:Int)+ (n:Int)) - (c:Int)))=⟨((ak ts).drop c).take (min (b+n - c) (pre ts (j+1) - c)) |>.toArray⟩:=by
    rw[show(c:Int) - (pre ts j:Nat)=((c - pre ts j:Nat):Int) by omega,show((c - pre ts j:Nat):Int)+ ((b:Int)+ (n:Int)) - (c:Int)=((c - pre ts j:Nat):Int)+ ((b+n - c:Nat):Int) by omega,acW (c - pre ts j) ((b+n - c:Nat):Int) (b+n - c) rfl,adh tj qW yX]
   rw[ec]
   have hpz:=adb ts (j+1)
   have lz:(⟨(((ak ts).drop c).take (min (b+n - c) (pre ts (j+1) - c))).toArray⟩:Str).length=min (b+n - c) (pre ts (j+1) - c):=by
    rw[len_list]
    show(((ak ts).drop c).take _).length=_
    rw[List.length_take,List.length_drop];omega
   generalize hz:(⟨(((ak ts).drop c).take (min (b+n - c) (pre ts (j+1) - c))).toArray⟩:Str)=z at lz⊢
   refine oE (mY (ag rfl ⟨.inl ⟨rfl,_,aH.of hd2⟩,ag rfl ⟨_,hd2,jc (by rw[List.length_map];omega), ?_⟩⟩))
   refine aZ (aK (ag rfl (yM (ay (ag rfl (aU ⟨b9 (by omega),bJ ?_⟩))))))
   refine aZ (aK (ag rfl (aw (bJ ?_))))
   refine⟨_, ?_,c+z.length,((j:Int)+1),ps++ [z],some (.int ((c:Int) - (pre ts j:Nat))),some (.str z),rfl, ?_,b2.trans cO.upd, ?_,by omega,by omega, ?_, ?_, ?_⟩
   ·omega
   ·show[_,some (V.int ((c:Int)+ (z.length:Int))),_,_,_,_,_,_]=_
    rw[Int.natCast_add]
   ·rw[aS,List.map_append];rfl
   ·rw[ac_,cI,←hz]
    show _++ ((ak ts).drop c).take _=_
    rw[adi b c _ hbc,hz,lz]
   ·rw[List.length_append];show ps.length+1≤_;omega
   ·intro Gf
    have e3:c+z.length=pre ts (j+1):=by omega
    have K5:j+1<ts.length:=by
     by_cases q:j+1<ts.length
     ·exact q
     ·have:=K1 (ts:=ts) (k:=j+1) (by omega)
      omega
    have rY:=K2 (List.getElem?_eq_getElem K5)
    exact⟨j+1,by omega,K5,by omega,by omega⟩
  ·have yW:c=b+n:=by
    have: ¬((c:Int) < (b:Int)+ (n:Int)):=fun z=>bz (decide_eq_true z)
    omega
   subst yW
   rw[show b+n - b=n by omega] at cI
   have lc:(cat ps).length≤1000000:=by rw[len_list,cI,List.length_take,List.length_drop];omega
   refine cE (mY (aw ⟨rfl,ag rfl ⟨ps,aH.of hd2,joinOk_of (by rw[←Kt];exact lc), ?_⟩⟩))
   have es:Txt.join "" ps=⟨(((ak ts).drop b).take n).toArray⟩:=ij cI
   rw[es]
   exact q H2 fun a o e=>b2 a o e (fun z=>by rw[z,hd] at e;cases e)
end L2.B
namespace L2.N
open PySem PySem.Spec PyProof.Rows L2.B
abbrev tp(p:P3):HO:= .tup [.int p.1, .int p.2.1, .int p.2.2]
def Pc(H:Hp)(v:V)(p:P3):Prop:= ∃q,v= .ref q∧H q=some (tp p)
abbrev fS(H:Hp):List V→List P3→Prop:=Paired (Pc H)
theorem Pc.mono{H H':Hp}{v:V}{p:P3}(t:ja H H')(h:Pc H v p):Pc H' v p:=by
 obtain⟨a,e,h⟩:=h
 exact⟨a,e,t _ _ h⟩
theorem fS.mono{H H':Hp}(t:ja H H'): ∀{vs:List V} {ps:List P3},fS H vs ps→fS H' vs ps
 | _,_, .nil=> .nil
 | _,_, .cons h r=> .cons (h.mono t) (fS.mono t r)
theorem fS.app{H:Hp}: ∀{vs ws:List V} {ps qs:List P3},fS H vs ps→fS H ws qs→fS H (vs++ws) (ps++qs)
 | _,_,_,_, .nil,b=>b
 | _,_,_,_, .cons h r,b=> .cons h (fS.app r b)
def Nd(H:Hp):Tr→V→Prop
 | .nil,v=>v= .ax
 | .node l a b c r,v=> ∃p q vl vr,v= .ref p∧H p=some (.tup [vl, .ref q,vr, .int (Tr.node l a b c r).h, .int (Tr.node l a b c r).sz, .int (Tr.node l a b c r).en])∧H q=some (tp (a,b,c))∧Nd H l vl∧Nd H r vr
theorem Nd.mono{H H':Hp}(t:ja H H'): ∀{x:Tr} {v:V},Nd H x v→Nd H' x v
 | .nil,_,h=>h
 | .node l a b c r,_,⟨p,q,vl,vr,e,h1,h2,h3,h4⟩=> ⟨p,q,vl,vr,e,t _ _ h1,t _ _ h2,h3.mono t,h4.mono t⟩
def fU:Sp:=fun vs H Q E=> ∃v t,vs=[v]∧Nd H t v∧Q (.int t.h) H
def dF:Sp:=fun vs H Q E=> ∃v t,vs=[v]∧Nd H t v∧Q (.int t.sz) H
def dS:Sp:=fun vs H Q E=> ∃v t,vs=[v]∧Nd H t v∧Q (.int t.en) H
theorem adp{K:PySem.W.Frag}(vs:List V)(H:Hp)(Q:VK)(E:XK)(h:fU vs H Q E):ar (aR K [] [] (E:=E)) wU {nx:=fun _ H'=>Q .ax H',rt:=Q} (start wR vs) H:=by
 obtain⟨v,t,rfl,hn,q⟩:=h
 refine⟨_,rfl,rfl,_,rfl, ?_⟩
 cases t with
 | nil=>cases hn;exact iT q
 | node l a b c r=>
  obtain⟨p,qq,vl,vr,rfl,h1, -⟩:=hn
  exact iF ⟨_,rfl,aE h1 rfl q⟩
theorem adq{K:PySem.W.Frag}(vs:List V)(H:Hp)(Q:VK)(E:XK)(h:dF vs H Q E):ar (aR K [] [] (E:=E)) wW {nx:=fun _ H'=>Q .ax H',rt:=Q} (start wV vs) H:=by
 obtain⟨v,t,rfl,hn,q⟩:=h
 refine⟨_,rfl,rfl,_,rfl, ?_⟩
 cases t with
 | nil=>cases hn;exact iT q
 | node l a b c r=>
  obtain⟨p,qq,vl,vr,rfl,h1, -⟩:=hn
  exact iF ⟨_,rfl,aE h1 rfl q⟩
theorem ads{K:PySem.W.Frag}(vs:List V)(H:Hp)(Q:VK)(E:XK)(h:dS vs H Q E):ar (aR K [] [] (E:=E)) wY {nx:=fun _ H'=>Q .ax H',rt:=Q} (start wX vs) H:=by
 obtain⟨v,t,rfl,hn,q⟩:=h
 refine⟨_,rfl,rfl,_,rfl, ?_⟩
 cases t with
 | nil=>cases hn;exact iT q
 | node l a b c r=>
  obtain⟨p,qq,vl,vr,rfl,h1, -⟩:=hn
  exact iF ⟨_,rfl,aE h1 rfl q⟩
abbrev adt:List (Str×Sp):=[("height_of",fU),("size_of",dF),("ends_of",dS)]
def iw:Sp:=fun vs H Q E=> ∃vl q vr l r a b c,vs=[vl, .ref q,vr]∧Nd H l vl∧Nd H r vr∧H q=some (tp (a,b,c))∧ ∀v H',aG H H'→Nd H' (.node l a b c r) v→Q v H'
theorem adu{K:PySem.W.Frag}(vs:List V)(H:Hp)(Q:VK)(E:XK)(h:iw vs H Q E):ar (aR K adt [] (E:=E)) w4 {nx:=fun _ H'=>Q .ax H',rt:=Q} (start wZ vs) H:=by
 obtain⟨vl,q,vr,l,r,a,b,c,rfl,hl,hr,hq,k⟩:=h
 refine⟨_,rfl,vl,l,rfl,hl,_,rfl,vr,r,rfl,hr, ?_⟩
 refine⟨_,rfl,vl,l,rfl,hl,_,rfl,aE hq rfl ⟨_,rfl,vr,r,rfl,hr, ?_⟩⟩
 refine⟨_,rfl,_,rfl,_,rfl,_,rfl,_,rfl,_,rfl,vl,l,rfl,hl,_,rfl,aE hq rfl ⟨_,rfl,vr,r,rfl,hr,(by show 6≤sizeLine;decide),fun t ht=> ?_⟩⟩
 have s:=sameNew (o:= .tup [vl, .ref q,vr, .int (1+ (if r.h>l.h then r.h else l.h)), .int (l.sz+b+r.sz), .int (l.en+c+r.en)]) ht
 exact k _ _ s ⟨t,q,vl,vr,rfl,aS,s _ _ hq,hl.mono (bx s),hr.mono (bx s)⟩
abbrev K6:List (Str×Sp):=[("height_of",fU),("made",iw)]
def r6:Sp:=fun vs H Q E=> ∃vl q vr l r a b c,vs=[vl, .ref q,vr]∧Nd H l vl∧Nd H r vr∧H q=some (tp (a,b,c))∧l.ok∧r.ok∧l.h=r.h+2∧ ∀v H' t,aG H H'→Nd H' t v→Tr.gG l a b c r t→Q v H'
def r9:Sp:=fun vs H Q E=> ∃vl q vr l r a b c,vs=[vl, .ref q,vr]∧Nd H l vl∧Nd H r vr∧H q=some (tp (a,b,c))∧l.ok∧r.ok∧r.h=l.h+2∧ ∀v H' t,aG H H'→Nd H' t v→Tr.gG l a b c r t→Q v H'
theorem adv{K:PySem.W.Frag}(vs:List V)(H:Hp)(Q:VK)(E:XK)(h:r6 vs H Q E):ar (aR K K6 [] (E:=E)) w6 {nx:=fun _ H'=>Q .ax H',rt:=Q} (start w5 vs) H:=by
 obtain⟨vl,q,vr,l,r,a',b',c',rfl,hl,hr,hq,o1,o2,hh,k⟩:=h
 have r0:=Tr.h0 r
 obtain⟨ll,a,b,c,lr,rfl⟩:=Tr.mR (t:=l) (by omega)
 obtain⟨p,ql,lX,m5,rfl,hp,lY,lZ,fQ⟩:=hl
 refine⟨_,rfl,aE hp rfl ?_⟩
 refine⟨_,rfl,aE hp rfl ⟨lX,ll,rfl,lZ,_,rfl,m5,lr,rfl,fQ,trivial,_,rfl, ?_⟩⟩
 refine dI (fun h=> ?_) (fun h=> ?_)
 ·have lQ:lr.h≤ll.h:=of_decide_eq_true h
  refine⟨_,rfl,aE hp rfl ⟨_,rfl,aE hp rfl ⟨_,rfl,_,rfl,_,rfl,m5,q,vr,lr,r,a',b',c',rfl,fQ,hr,hq,fun v H1 s1 n1=> ?_⟩⟩⟩
  refine⟨lX,ql,v,ll,_,a,b,c,rfl,lZ.mono (bx s1),n1,s1 _ _ lY,fun v2 H2 s2 n2=> ?_⟩
  exact k _ _ _ (s1.trans s2) n2 (Tr.ab3 o1 o2 hh lQ)
 ·have bz:ll.h<lr.h:=by
   have: ¬lr.h≤ll.h:=fun z=>h (decide_eq_true z)
   omega
  have l0:=Tr.h0 ll
  obtain⟨il,x,y,z,ir,rfl⟩:=Tr.mR (t:=lr) (by omega)
  obtain⟨pi,qi,yY,yZ,rfl,l_,y0,y2,y7⟩:=fQ
  refine⟨_,rfl,aE hp rfl ⟨_,rfl,aE hp rfl ⟨_,rfl,aE l_ rfl ⟨lX,ql,yY,ll,il,a,b,c,rfl,lZ,y2,lY,fun v H1 s1 n1=> ?_⟩⟩⟩⟩
  refine⟨_,rfl,aE (s1 _ _ l_) rfl ⟨_,rfl,aE (s1 _ _ l_) rfl ⟨_,rfl,_,rfl,yZ,q,vr,ir,r,a',b',c',rfl,y7.mono (bx s1),hr.mono (bx s1),s1 _ _ hq,fun v2 H2 s2 n2=> ?_⟩⟩⟩
  refine⟨v,qi,v2,_,_,x,y,z,rfl,n1.mono (bx s2),n2,s2 _ _ (s1 _ _ y0),fun v3 H3 s3 n3=> ?_⟩
  exact k _ _ _ (s1.trans (s2.trans s3)) n3 (Tr.ab4 o1 o2 hh bz)
theorem adw{K:PySem.W.Frag}(vs:List V)(H:Hp)(Q:VK)(E:XK)(h:r9 vs H Q E):ar (aR K K6 [] (E:=E)) w_ {nx:=fun _ H'=>Q .ax H',rt:=Q} (start w9 vs) H:=by
 obtain⟨vl,q,vr,l,r,a,b,c,rfl,hl,hr,hq,o1,o2,hh,k⟩:=h
 have r0:=Tr.h0 l
 obtain⟨rl,a',b',c',rr,rfl⟩:=Tr.mR (t:=r) (by omega)
 obtain⟨p,qr,m6,ma,rfl,hp,r_,gL,me⟩:=hr
 refine⟨_,rfl,aE hp rfl ?_⟩
 refine⟨_,rfl,aE hp rfl ⟨ma,rr,rfl,me,_,rfl,m6,rl,rfl,gL,trivial,_,rfl, ?_⟩⟩
 refine dI (fun h=> ?_) (fun h=> ?_)
 ·have lQ:rl.h≤rr.h:=of_decide_eq_true h
  refine⟨_,rfl,_,rfl,_,rfl,vl,q,m6,l,rl,a,b,c,rfl,hl,gL,hq,fun v H1 s1 n1=> ?_⟩
  refine⟨_,rfl,aE (s1 _ _ hp) rfl ⟨_,rfl,aE (s1 _ _ hp) rfl ⟨v,qr,ma,_,rr,a',b',c',rfl,n1,me.mono (bx s1),s1 _ _ r_,fun v2 H2 s2 n2=> ?_⟩⟩⟩
  exact k _ _ _ (s1.trans s2) n2 (Tr.ab5 o1 o2 hh lQ)
 ·have bz:rr.h<rl.h:=by
   have: ¬rl.h≤rr.h:=fun z=>h (decide_eq_true z)
   omega
  have l0:=Tr.h0 rr
  obtain⟨il,x,y,z,ir,rfl⟩:=Tr.mR (t:=rl) (by omega)
  obtain⟨pi,qi,yY,yZ,rfl,l_,y0,y2,y7⟩:=gL
  refine⟨_,rfl,_,rfl,_,rfl,aE l_ rfl ⟨vl,q,yY,l,il,a,b,c,rfl,hl,y2,hq,fun v H1 s1 n1=> ?_⟩⟩
  refine⟨_,rfl,aE (s1 _ _ l_) rfl ⟨_,rfl,aE (s1 _ _ l_) rfl ⟨_,rfl,aE (s1 _ _ hp) rfl ⟨_,rfl,aE (s1 _ _ hp) rfl ⟨yZ,qr,ma,ir,rr,a',b',c',rfl,y7.mono (bx s1),me.mono (bx s1),s1 _ _ r_,fun v2 H2 s2 n2=> ?_⟩⟩⟩⟩⟩
  refine⟨v,qi,v2,_,_,x,y,z,rfl,n1.mono (bx s2),n2,s2 _ _ (s1 _ _ y0),fun v3 H3 s3 n3=> ?_⟩
  exact k _ _ _ (s1.trans (s2.trans s3)) n3 (Tr.ab6 o1 o2 hh bz)
abbrev adx:List (Str×Sp):=[("height_of",fU),("turned_right",r6),("turned_left",r9),("made",iw)]
def se:Sp:=fun vs H Q E=> ∃vl q vr l r a b c,vs=[vl, .ref q,vr]∧Nd H l vl∧Nd H r vr∧H q=some (tp (a,b,c))∧l.ok∧r.ok∧l.h≤r.h+2∧r.h≤l.h+2∧ ∀v H' t,aG H H'→Nd H' t v→Tr.gG l a b c r t→Q v H'
theorem ady{K:PySem.W.Frag}(vs:List V)(H:Hp)(Q:VK)(E:XK)(h:se vs H Q E):ar (aR K adx [] (E:=E)) xb {nx:=fun _ H'=>Q .ax H',rt:=Q} (start xa vs) H:=by
 obtain⟨vl,q,vr,l,r,a,b,c,rfl,hl,hr,hq,o1,o2,hh1,hh2,k⟩:=h
 refine⟨_,rfl,vl,l,rfl,hl,_,rfl,vr,r,rfl,hr,trivial,_,rfl, ?_⟩
 refine dI (fun h=> ?_) (fun h=> ?_)
 ·have g:r.h+1<l.h:=of_decide_eq_true h
  exact⟨_,rfl,_,rfl,_,rfl,vl,q,vr,l,r,a,b,c,rfl,hl,hr,hq,o1,o2,by omega,k⟩
 ·have g: ¬r.h+1<l.h:=fun z=>h (decide_eq_true z)
  refine⟨_,rfl,vr,r,rfl,hr,_,rfl,vl,l,rfl,hl,trivial,_,rfl, ?_⟩
  refine dI (fun h=> ?_) (fun h=> ?_)
  ·have g2:l.h+1<r.h:=of_decide_eq_true h
   exact⟨_,rfl,_,rfl,_,rfl,vl,q,vr,l,r,a,b,c,rfl,hl,hr,hq,o1,o2,by omega,k⟩
  ·have g2: ¬l.h+1<r.h:=fun z=>h (decide_eq_true z)
   exact⟨_,rfl,_,rfl,_,rfl,vl,q,vr,l,r,a,b,c,rfl,hl,hr,hq,fun v H' s n=>k _ _ _ s n (Tr.Kf o1 o2 (by omega) (by omega))⟩
def dg(n:Nat):Sp:=fun vs H Q E=> ∃vl q vr l r a b c,vs=[vl, .ref q,vr]∧Nd H l vl∧Nd H r vr∧H q=some (tp (a,b,c))∧l.ok∧r.ok∧l.h+r.h<n∧ ∀v H' t,aG H H'→Nd H' t v→Tr.Jn l a b c r t→Q v H'
theorem adA(vs:List V)(H:Hp)(Q:VK)(E:XK): ¬dg 0 vs H Q E:=by
 rintro⟨vl,q,vr,l,r,a,b,c, -, -, -, -, -, -,h, -⟩
 have:=Tr.h0 l
 have:=Tr.h0 r
 omega
abbrev adB(n:Nat):List (Str×Sp):=[("height_of",fU),("leveled",se),("joined",dg n),("made",iw)]
theorem adC{K:PySem.W.Frag}(n:Nat)(vs:List V)(H:Hp)(Q:VK)(E:XK)(h:dg (n+1) vs H Q E):ar (aR K (adB n) [] (E:=E)) xg {nx:=fun _ H'=>Q .ax H',rt:=Q} (start xf vs) H:=by
 obtain⟨vl,q,vr,l,r,a,b,c,rfl,hl,hr,hq,o1,o2,hh,k⟩:=h
 have r0:=Tr.h0 r
 have l0:=Tr.h0 l
 refine⟨_,rfl,vl,l,rfl,hl,_,rfl,vr,r,rfl,hr,trivial,_,rfl, ?_⟩
 refine dI (fun h=> ?_) (fun h=> ?_)
 ·have g:r.h+1<l.h:=of_decide_eq_true h
  obtain⟨ll,a1,b1,c1,lr,rfl⟩:=Tr.mR (t:=l) (by omega)
  obtain⟨p,ql,lX,m5,rfl,hp,lY,lZ,fQ⟩:=hl
  have e1:=Tr.cq ll a1 b1 c1 lr
  have bz:lr.h+r.h<n:=by
   have:lr.h< (Tr.node ll a1 b1 c1 lr).h:=by rw[e1];split<;>omega
   omega
  refine⟨_,rfl,aE hp rfl ⟨_,rfl,aE hp rfl ⟨_,rfl,aE hp rfl ⟨_,rfl,_,rfl,m5,q,vr,lr,r,a,b,c,rfl,fQ,hr,hq,o1.2.1,o2,bz,fun v H1 t s1 n1 J=> ?_⟩⟩⟩⟩
  obtain⟨g1,g2⟩:=Tr.ab_ o1 g J
  refine⟨lX,ql,v,ll,t,a1,b1,c1,rfl,lZ.mono (bx s1),n1,s1 _ _ lY,o1.1,J.ok,g1,g2,fun v2 H2 t2 s2 n2 L=> ?_⟩
  exact k _ _ _ (s1.trans s2) n2 (Tr.ab8 o1 g J L)
 ·have g: ¬r.h+1<l.h:=fun z=>h (decide_eq_true z)
  refine⟨_,rfl,vr,r,rfl,hr,_,rfl,vl,l,rfl,hl,trivial,_,rfl, ?_⟩
  refine dI (fun h=> ?_) (fun h=> ?_)
  ·have g2:l.h+1<r.h:=of_decide_eq_true h
   obtain⟨rl,a1,b1,c1,rr,rfl⟩:=Tr.mR (t:=r) (by omega)
   obtain⟨p,qr,m6,ma,rfl,hp,r_,gL,me⟩:=hr
   have e1:=Tr.cq rl a1 b1 c1 rr
   have bz:l.h+rl.h<n:=by
    have:rl.h< (Tr.node rl a1 b1 c1 rr).h:=by rw[e1];split<;>omega
    omega
   refine⟨_,rfl,_,rfl,_,rfl,aE hp rfl ⟨vl,q,m6,l,rl,a,b,c,rfl,hl,gL,hq,o1,o2.1,bz,fun v H1 t s1 n1 J=> ?_⟩⟩
   obtain⟨k1,k2⟩:=Tr.aca o2 g2 J
   refine⟨_,rfl,aE (s1 _ _ hp) rfl ⟨_,rfl,aE (s1 _ _ hp) rfl ⟨v,qr,ma,t,rr,a1,b1,c1,rfl,n1,me.mono (bx s1),s1 _ _ r_,J.ok,o2.2.1,k1,k2,fun v2 H2 t2 s2 n2 L=> ?_⟩⟩⟩
   exact k _ _ _ (s1.trans s2) n2 (Tr.ab9 o2 g2 J L)
  ·have g2: ¬l.h+1<r.h:=fun z=>h (decide_eq_true z)
   exact⟨_,rfl,_,rfl,_,rfl,vl,q,vr,l,r,a,b,c,rfl,hl,hr,hq,fun v H' s n=>k _ _ _ s n (Tr.ab7 o1 o2 (by omega) (by omega))⟩
def jj(n:Nat):Sp:=fun vs H Q E=> ∃v l a b c r,vs=[v]∧Nd H (.node l a b c r) v∧(Tr.node l a b c r).ok∧(Tr.node l a b c r).h<n∧(Tr.node l a b c r).h≤30∧
 ∀w H' q vt t a' b' c',aG H H'→H' w=some (.tup [vt, .ref q])→Nd H' t vt→H' q=some (tp (a',b',c'))→t.ok→(Tr.node l a b c r).aj=t.aj++ [(a',b',c')]→t.h≤ (Tr.node l a b c r).h→Q (.ref w) H'
theorem adD(vs:List V)(H:Hp)(Q:VK)(E:XK): ¬jj 0 vs H Q E:=by
 rintro⟨v,l,a,b,c,r, -, -, -,h, -⟩
 have:=Tr.h0 (.node l a b c r)
 omega
abbrev adE(n:Nat):List (Str×Sp):=[("last_out",jj n),("joined",dg 64)]
theorem adF{K:PySem.W.Frag}(n:Nat)(vs:List V)(H:Hp)(Q:VK)(E:XK)(h:jj (n+1) vs H Q E):ar (aR K (adE n) [] (E:=E)) xi {nx:=fun _ H'=>Q .ax H',rt:=Q} (start xh vs) H:=by
 obtain⟨v,l,a,b,c,r,rfl,⟨p,q,vl,vr,rfl,hp,hq,hl,hr⟩,ho,hh,h30,k⟩:=h
 have e1:=Tr.cq l a b c r
 have l0:=Tr.h0 l
 refine⟨_,rfl,aE hp rfl ⟨rfl,_,rfl, ?_⟩⟩
 cases r with
 | nil=>
  cases hr
  refine iT ⟨_,rfl,aE hp rfl ⟨_,rfl,aE hp rfl ⟨(by show 2≤sizeLine;decide),fun w hw=> ?_⟩⟩⟩
  have s:=sameNew (o:= .tup [vl, .ref q]) hw
  exact k w _ q vl l a b c s aS (hl.mono (bx s)) (s _ _ hq) ho.1 rfl (by rw[e1];split<;>omega)
 | node rl a1 b1 c1 rr=>
  obtain⟨p2,q2,m6,ma,rfl,rY,eW,gL,me⟩:=hr
  have bz:(Tr.node rl a1 b1 c1 rr).h< (Tr.node l a b c (.node rl a1 b1 c1 rr)).h:=by rw[e1];split<;>omega
  have hle:l.h< (Tr.node l a b c (.node rl a1 b1 c1 rr)).h:=by rw[e1];split<;>omega
  refine iF ⟨_,rfl,aE hp rfl ⟨.ref p2,rl,a1,b1,c1,rr,rfl,⟨p2,q2,m6,ma,rfl,rY,eW,gL,me⟩,ho.2.1,by omega,by omega,fun w H1 q3 vt t a2 b2 c2 s1 hw ht y8 to y9 th=> ?_⟩⟩
  refine⟨_,rfl,aE (s1 _ _ hp) rfl ⟨_,rfl,aE (s1 _ _ hp) rfl ⟨_,rfl,aE hw rfl ⟨vl,q,vt,l,t,a,b,c,rfl,hl.mono (bx s1),ht,s1 _ _ hq,ho.1,to,(by show l.h+t.h< (64:Nat);omega),fun v2 H2 t2 s2 n2 J=> ?_⟩⟩⟩⟩
  refine⟨_,rfl,aE (s2 _ _ hw) rfl ⟨(by show 2≤sizeLine;decide),fun w2 jk=> ?_⟩⟩
  have s3:=sameNew (o:= .tup [v2, .ref q3]) jk
  have jh:=J.hi
  refine k w2 _ q3 v2 t2 a2 b2 c2 (s1.trans (s2.trans s3)) aS (n2.mono (bx s3)) (s3 _ _ (s2 _ _ y8)) J.ok ?_ ?_
  ·rw[J.aj,Tr.aj,y9];simp
  ·have:=J.hi;omega
def iy(n:Nat):Sp:=fun vs H Q E=> ∃v t,vs=[v]∧Nd H t v∧t.h<n∧t.aj.length≤1000∧ ∀w H' xs,aG H H'→H w=none→H' w=some (.lst xs)→fS H' xs t.aj→Q (.ref w) H'
theorem adH(vs:List V)(H:Hp)(Q:VK)(E:XK): ¬iy 0 vs H Q E:=by
 rintro⟨v,t, -, -,h, -⟩
 have:=Tr.h0 t
 omega
theorem K7{l r:Tr}{a b c:Int}{n:Nat}(h:(Tr.node l a b c r).aj.length≤n):l.aj.length+r.aj.length+1≤n:=by
 simp only[Tr.aj,List.length_append,List.length_cons] at h;omega
theorem K8(l r:Tr)(a b c:Int):l.h< (Tr.node l a b c r).h∧r.h< (Tr.node l a b c r).h:=by
 rw[Tr.cq];split<;>omega
theorem adI{K:PySem.W.Frag}(n:Nat)(vs:List V)(H:Hp)(Q:VK)(E:XK)(h:iy (n+1) vs H Q E):ar (aR K [("pieces_of",iy n)] [] (E:=E)) xv {nx:=fun _ H'=>Q .ax H',rt:=Q} (start xu vs) H:=by
 obtain⟨v,t,rfl,hn,hh,hl,k⟩:=h
 refine⟨_,rfl,rfl,_,rfl, ?_⟩
 cases t with
 | nil=>
  cases hn
  exact iT ⟨Nat.zero_le _,fun w hw=>k w _ [] (sameNew hw) hw aS .nil⟩
 | node l a b c r=>
  obtain⟨p,q,vl,vr,rfl,hp,hq,gM,oR⟩:=hn
  have e1:=K7 hl
  obtain⟨e2,e3⟩:=K8 l r a b c
  refine iF ⟨_,rfl,aE hp rfl ⟨vl,l,rfl,gM,by omega,by omega,fun w H1 xs s1 fw hw px=> ?_⟩⟩
  have lx:=Paired.length px
  refine⟨_,rfl, .inl ⟨rfl,_,aH.of hw⟩,_,rfl,aE (s1 _ _ hp) rfl ⟨_,hw,jc (by omega), ?_⟩⟩
  have b1:cO w H1 (upd H1 w (.lst (xs++ [V.ref q]))):=cO.upd
  have s2:aG H (upd H1 w (.lst (xs++ [V.ref q]))):=jb s1 fw b1
  have t1:=b1.cC hw
  generalize hH2:upd H1 w (.lst (xs++ [V.ref q]))=H2 at s2 t1
  have y_:H2 w=some (.lst (xs++ [V.ref q])):=by rw[←hH2,aS]
  refine⟨_,rfl, .inl ⟨rfl,_,aH.of y_⟩,_,rfl,aE (s2 _ _ hp) rfl ⟨vr,r,rfl,oR.mono (bx s2),by omega,by omega,fun w2 H3 ys s3 m8 jk py=> ?_⟩⟩
  have ly:=Paired.length py
  refine⟨_,_,s3 _ _ y_,jk,b9 (by simp;omega), ?_⟩
  have b3:cO w H3 (upd H3 w (.lst (xs++ [V.ref q]++ys))):=cO.upd
  have t3:=b3.cC (s3 _ _ y_)
  refine⟨_,rfl,k w _ (xs++ [V.ref q]++ys) (jb (s2.trans s3) fw b3) fw aS ?_⟩
  have e:(Tr.node l a b c r).aj=l.aj++ [(a,b,c)]++r.aj:=by simp[Tr.aj]
  rw[e]
  refine((((px.mono t1).mono (bx s3)).app (.cons ⟨q,rfl,s3 _ _ (t1 _ _ (s1 _ _ hq))⟩ .nil)).app py).mono t3
def ends(ts:List Str)(n:Int):Int:=(((ak ts).take n.toNat).count 10:Nat)
def fV(C:Addr):Sp:=fun vs H Q E=> ∃(p dx lt lb lf:Addr) (ts:List Str) (n:Int),vs=[.ref p, .int n]∧bU C H p dx lt lb lf ts∧0≤n∧Q (.int (ends ts n)) H
theorem adK{K:PySem.W.Frag}{C:Addr}(T:mQ K C)(vs:List V)(H:Hp)(Q:VK)(E:XK)(h:fV C vs H Q E):ar (aR K [("many_upto",lT)] [] (E:=E)) xy {nx:=fun _ H'=>Q .ax H',rt:=Q} (start xx vs) H:=by
 obtain⟨p,dx,lt,lb,lf,ts,n,rfl,S,hn,q⟩:=h
 refine⟨_,rfl,p,C,dx,_,_,rfl,S.ob,T.cl,T.rA,yQ,_,rfl,trivial,lf,_,_,rfl,S.fd,acb _ _, ?_⟩
 obtain⟨m,rfl⟩:=Int.eq_ofNat_of_zero_le hn
 rw[acd]
 exact q
abbrev adL(C:Addr):List (Str×Addr×Sp):=[("ends_ahead",C,fV C)]
theorem K9{lt lb lf:Addr}{n:Int}:(cZ lt lb lf n).lookup ("ends_ahead":Str)=none:=oI (by decide+kernel) (by decide+kernel) (by decide+kernel) (by decide+kernel)
def sf(C:Addr):Sp:=fun vs H Q E=> ∃(q:Addr) (a b c n:Int) (p dx lt lb lf:Addr) (ts:List Str),vs=[.ref q, .int n, .ref p]∧H q=some (tp (a,b,c))∧bU C H p dx lt lb lf ts∧0≤a∧0≤n∧
 ∀(w q1 q2:Addr) (H':Hp),aG H H'→H' w=some (.tup [.ref q1, .ref q2])→H' q1=some (tp (a,n,ends ts (a+n) - ends ts a))→H' q2=some (tp (a+n,b - n,c - (ends ts (a+n) - ends ts a)))→Q (.ref w) H'
theorem adM{K:PySem.W.Frag}{C:Addr}(vs:List V)(H:Hp)(Q:VK)(E:XK)(h:sf C vs H Q E):ar (aR K [] [] [] (adL C) (E:=E)) xp {nx:=fun _ H'=>Q .ax H',rt:=Q} (start xo vs) H:=by
 obtain⟨q,a,b,c,n,p,dx,lt,lb,lf,ts,rfl,hq,S,ha,hn,k⟩:=h
 refine⟨_,rfl,aE hq rfl ⟨_,rfl, ?_⟩⟩
 refine⟨_,rfl,p,dx,_,rfl,S.ob,K9,_,rfl,p,dx,lt,lb,lf,ts,_,rfl,S,(by show 0≤a+n;omega), ?_⟩
 refine⟨_,rfl,p,dx,_,rfl,S.ob,K9,_,rfl,aE hq rfl ⟨p,dx,lt,lb,lf,ts,a,rfl,S,ha,trivial, ?_⟩⟩
 refine⟨_,rfl,aE hq rfl ⟨_,rfl,_,rfl,(by show 3≤sizeLine;decide),fun q1 f1=> ?_⟩⟩
 have s1:=sameNew (o:=tp (a,n,ends ts (a+n) - ends ts a)) f1
 refine⟨_,rfl,_,rfl,aE (s1 _ _ hq) rfl ⟨_,rfl,trivial,_,rfl,aE (s1 _ _ hq) rfl ⟨_,rfl,trivial,(by show 3≤sizeLine;decide),fun q2 f2=> ?_⟩⟩⟩
 have s2:=sameNew (o:=tp (a+n,b - n,c - (ends ts (a+n) - ends ts a))) f2
 refine⟨(by show 2≤sizeLine;decide),fun w fw=> ?_⟩
 have s3:=sameNew (o:= .tup [V.ref q1,V.ref q2]) fw
 exact k w q1 q2 _ (s1.trans (s2.trans s3)) aS (s3 _ _ (s2 _ _ aS)) (s3 _ _ aS)
theorem eT: ∀t:Tr,t.sz=cy t.aj
 | .nil=>rfl
 | .node l a b c r=>by
  show l.sz+b+r.sz=cy (l.aj++ (a,b,c)::r.aj)
  rw[Kh,lO,eT l,eT r]
  show cy l.aj+b+cy r.aj=cy l.aj+ (b+cy r.aj)
  omega
def oS(p:P3):Prop:=0≤p.1∧1≤p.2.1
def eI(C:Addr)(n:Nat):Sp:=fun vs H Q E=> ∃(v:V) (t:Tr) (pl:Int) (p dx lt lb lf:Addr) (ts:List Str),vs=[v, .int pl, .ref p]∧Nd H t v∧t.ok∧bU C H p dx lt lb lf ts∧(∀q∈t.aj,oS q)∧t.h<n∧t.aj.length≤1000∧0≤pl∧pl≤t.sz∧
 ∀(w:Addr) (v1 v2:V) (t1 t2:Tr) (H':Hp),aG H H'→H' w=some (.tup [v1,v2])→Nd H' t1 v1→Nd H' t2 v2→t1.ok→t2.ok→t1.aj=cb (ends ts) t.aj pl→t2.aj=cf (ends ts) t.aj pl→Q (.ref w) H'
theorem adN(C:Addr)(vs:List V)(H:Hp)(Q:VK)(E:XK): ¬eI C 0 vs H Q E:=by
 rintro⟨v,t,pl,p,dx,lt,lb,lf,ts, -, -, -, -, -,h, -⟩
 have:=Tr.h0 t
 omega
abbrev adO(C:Addr)(n:Nat):List (Str×Sp):=[("size_of",dF),("parted",eI C n),("joined",dg 64),("cut_in_two",sf C)]
theorem adP{K:PySem.W.Frag}{C:Addr}(n:Nat)(vs:List V)(H:Hp)(Q:VK)(E:XK)(h:eI C (n+1) vs H Q E):ar (aR K (adO C n) [] (E:=E)) xr {nx:=fun _ H'=>Q .ax H',rt:=Q} (start xq vs) H:=by
 obtain⟨v,t,pl,p,dx,lt,lb,lf,ts,rfl,hn,ho,S,za,hh,hlen,hp0,dU,k⟩:=h
 refine⟨_,rfl,rfl,_,rfl, ?_⟩
 cases t with
 | nil=>
  cases hn
  exact iT ⟨(by show 2≤sizeLine;decide),fun w hw=>k w .ax .ax .nil .nil _ (sameNew hw) aS rfl rfl trivial trivial rfl rfl⟩
 | node l a b c r=>
  obtain⟨pa,q,vl,vr,rfl,jl,hq,hl,hr⟩:=hn
  obtain⟨o1,o2,o3,o4⟩:=ho
  obtain⟨e2,e3⟩:=K8 l r a b c
  have e1:=K7 hlen
  have iL:=eT l
  have aoF:=eT r
  have fz: ∀x∈l.aj,oS x:=fun x hx=>za x (by simp[Tr.aj,hx])
  have oT: ∀x∈r.aj,oS x:=fun x hx=>za x (by simp[Tr.aj,hx])
  have pm:oS (a,b,c):=za _ (by simp[Tr.aj])
  have oU:(Tr.node l a b c r).aj=l.aj++ (a,b,c)::r.aj:=rfl
  have aoG:(Tr.node l a b c r).sz=l.sz+b+r.sz:=rfl
  have aoH:=Tr.fk o1 (by omega:l.aj.length≤1000)
  have aoI:=Tr.fk o2 (by omega:r.aj.length≤1000)
  refine iF ⟨_,rfl,aE jl rfl ?_⟩
  refine⟨_,rfl,aE jl rfl ⟨vl,l,rfl,hl, ?_⟩⟩
  refine⟨_,rfl,_,rfl,aE hq rfl ?_⟩
  refine⟨_,rfl,_,rfl,trivial,_,rfl, ?_⟩
  refine dI (fun g=> ?_) (fun g=> ?_)
  ·have hle:pl≤l.sz:=of_decide_eq_true g
   refine⟨_,rfl,aE jl rfl ⟨_,rfl,_,rfl,vl,l,pl,p,dx,lt,lb,lf,ts,rfl,hl,o1,S,fz,by omega,by omega,hp0,hle,fun w v1 v2 t1 t2 H1 s1 hw n1 n2 k1 k2 c1 c2=> ?_⟩⟩
   obtain⟨x1,x2⟩:=Kj (ends ts) ((a,b,c)::r.aj) l.aj pl (fun x hx=> (fz x hx).2) (by omega)
   have l2:=(oy (ends ts) l.aj pl).2
   have h2:=Tr.fk k2 (by rw[c2];omega)
   refine⟨_,rfl,aE hw rfl ⟨_,rfl,aE hw rfl ⟨_,rfl,_,rfl,aE (s1 _ _ jl) rfl ⟨v2,q,vr,t2,r,a,b,c,rfl,n2,hr.mono (bx s1),s1 _ _ hq,k2,o2,(by show _< ((64:Nat):Int);omega),fun v3 H2 t3 s2 n3 J=> ⟨(by show 2≤sizeLine;decide),fun w2 m8=> ?_⟩⟩⟩⟩⟩
   have s3:=sameNew (o:= .tup [v1,v3]) m8
   refine k w2 v1 v3 t1 t3 _ (s1.trans (s2.trans s3)) aS ((n1.mono (bx s2)).mono (bx s3)) (n3.mono (bx s3)) k1 J.ok ?_ ?_
   ·rw[oU,x1,c1]
   ·rw[oU,x2,J.aj,c2]
  ·have hgt: ¬pl≤l.sz:=fun z=>g (decide_eq_true z)
   refine⟨_,rfl,_,rfl,trivial,_,rfl, ?_⟩
   refine dI (fun g=> ?_) (fun g=> ?_)
   ·have lQ:l.sz+b≤pl:=of_decide_eq_true g
    refine⟨_,rfl,aE jl rfl ⟨_,rfl,_,rfl,trivial,_,rfl,vr,r,pl - (l.sz+b),p,dx,lt,lb,lf,ts,rfl,hr,o2,S,oT,by omega,by omega,by omega,by omega,fun w v1 v2 t1 t2 H1 s1 hw n1 n2 k1 k2 c1 c2=> ?_⟩⟩
    have ez:cy (l.aj++ [(a,b,c)])=l.sz+b:=by
     rw[Kh,lO,Kg,iL]
     show cy l.aj+ (b+0)=_
     omega
    obtain⟨x1,x2⟩:=yz (ends ts) r.aj (l.aj++ [(a,b,c)]) pl (fun x hx=>by
     rcases List.mem_append.mp hx with z | z
     ·exact(fz x z).2
     ·rw[List.mem_singleton.mp z];exact pm.2) (by omega)
    have l1:=(oy (ends ts) r.aj (pl - (l.sz+b))).1
    have h1:=Tr.fk k1 (by rw[c1];omega)
    refine⟨_,rfl,aE (s1 _ _ jl) rfl ⟨_,rfl,_,rfl,aE hw rfl ⟨vl,q,v1,l,t1,a,b,c,rfl,hl.mono (bx s1),n1,s1 _ _ hq,o1,k1,(by show _< ((64:Nat):Int);omega),fun v3 H2 t3 s2 n3 J=> ?_⟩⟩⟩
    refine⟨_,rfl,aE (s2 _ _ hw) rfl ⟨(by show 2≤sizeLine;decide),fun w2 m8=> ?_⟩⟩
    have s3:=sameNew (o:= .tup [v3,v2]) m8
    have e5:(Tr.node l a b c r).aj=(l.aj++ [(a,b,c)])++r.aj:=by rw[oU];simp
    refine k w2 v3 v2 t3 t2 _ (s1.trans (s2.trans s3)) aS (n3.mono (bx s3)) ((n2.mono (bx s2)).mono (bx s3)) J.ok k2 ?_ ?_
    ·rw[e5,x1,ez,J.aj,c1];simp
    ·rw[e5,x2,ez,c2]
   ·have bz: ¬l.sz+b≤pl:=fun z=>g (decide_eq_true z)
    refine⟨_,rfl,_,rfl,_,rfl,trivial,_,rfl,q,a,b,c,pl - l.sz,p,dx,lt,lb,lf,ts,rfl,hq,S,pm.1,by omega,fun w q1 q2 H1 s1 hw h1 h2=> ?_⟩
    obtain⟨x1,x2⟩:=yz (ends ts) ((a,b,c)::r.aj) l.aj pl (fun x hx=> (fz x hx).2) (by omega)
    rw[←iL] at x1 x2
    refine⟨_,rfl,aE (s1 _ _ jl) rfl ⟨_,rfl,aE hw rfl ⟨vl,q1, .ax,l, .nil,a,pl - l.sz,_,rfl,hl.mono (bx s1),rfl,h1,o1,trivial,(by show _< ((64:Nat):Int);show l.h+0<64;omega),fun v3 H2 t3 s2 n3 J=> ?_⟩⟩⟩
    refine⟨_,rfl,aE (s2 _ _ hw) rfl ⟨_,rfl,aE (s2 _ _ (s1 _ _ jl)) rfl ⟨.ax,q2,vr, .nil,r,_,_,_,rfl,rfl,(hr.mono (bx s1)).mono (bx s2),s2 _ _ h2,trivial,o2,(by show _< ((64:Nat):Int);show 0+r.h<64;omega),fun v4 H3 t4 s3 n4 J2=> ⟨(by show 2≤sizeLine;decide),fun w2 m8=> ?_⟩⟩⟩⟩
    have s4:=sameNew (o:= .tup [v3,v4]) m8
    refine k w2 v3 v4 t3 t4 _ (s1.trans (s2.trans (s3.trans s4))) aS ((n3.mono (bx s3)).mono (bx s4)) (n4.mono (bx s4)) J.ok J2.ok ?_ ?_
    ·rw[oU,x1,J.aj]
     simp only[cb]
     rw[if_neg (by omega),if_neg (by show ¬b≤pl - l.sz;omega)]
     rfl
    ·rw[oU,x2,J2.aj]
     simp only[cf]
     rw[if_neg (by omega),if_neg (by show ¬b≤pl - l.sz;omega)]
     rfl
end L2.N
namespace L2.N
open PySem PySem.Spec L2.B
def seg(S:List Nat)(q:P3):List Nat:=(S.drop q.1.toNat).take q.2.1.toNat
def txt(S:List Nat)(ps:List P3):List Nat:=ps.flatMap (seg S)
theorem txt_nil(S:List Nat):txt S []=[]:=rfl
theorem cA(S:List Nat)(p:P3)(r:List P3):txt S (p::r)=seg S p++txt S r:=rfl
theorem oV(S:List Nat)(a b:List P3):txt S (a++b)=txt S a++txt S b:=List.flatMap_append
structure bM (S:List Nat) (q:P3):Prop where
 p0:0≤q.1
 p1:1≤q.2.1
 p2:q.1+q.2.1≤S.length
 p3:q.2.2=((seg S q).count 10:Nat)
theorem bM.len{S:List Nat}{q:P3}(h:bM S q):((seg S q).length:Int)=q.2.1:=by
 have h0:=h.p0
 have h1:=h.p1
 have h2:=h.p2
 unfold seg
 rw[List.length_take,List.length_drop]
 omega
theorem bM.grow{S T:List Nat}{q:P3}(h:bM S q):bM (S++T) q∧seg (S++T) q=seg S q:=by
 have h0:=h.p0
 have h1:=h.p1
 have h2:=h.p2
 have e:seg (S++T) q=seg S q:=by
  unfold seg
  rw[List.drop_append_of_le_length (by omega),List.take_append_of_le_length (by rw[List.length_drop];omega)]
 exact⟨⟨h0,h1,by rw[List.length_append];omega,by rw[e];exact h.p3⟩,e⟩
theorem zb{S T:List Nat}: ∀{ps:List P3},(∀q∈ps,bM S q)→txt (S++T) ps=txt S ps
 | [],_=>rfl
 | p::r,h=>by
  rw[cA,cA,(h p List.mem_cons_self).grow.2,zb fun q hq=>h q (List.mem_cons_of_mem _ hq)]
theorem m9{S:List Nat}: ∀{ps:List P3},(∀q∈ps,bM S q)→((txt S ps).length:Int)=cy ps
 | [],_=>rfl
 | p::r,h=>by
  rw[cA,List.length_append,lO,←m9 fun q hq=>h q (List.mem_cons_of_mem _ hq),←(h p List.mem_cons_self).len]
  omega
theorem sh: ∀t:Tr,t.en=((t.aj.map fun p=>p.2.2).sum)
 | .nil=>rfl
 | .node l a b c r=>by
  show l.en+c+r.en=((l.aj++ (a,b,c)::r.aj).map fun p=>p.2.2).sum
  rw[List.map_append,List.sum_append,List.map_cons,List.sum_cons,sh l,sh r]
  show(l.aj.map fun p=>p.2.2).sum+c+ (r.aj.map fun p=>p.2.2).sum=(l.aj.map fun p=>p.2.2).sum+ (c+ (r.aj.map fun p=>p.2.2).sum)
  omega
theorem zc{S:List Nat}: ∀{ps:List P3},(∀q∈ps,bM S q)→(ps.map fun p=>p.2.2).sum=((txt S ps).count 10:Nat)
 | [],_=>rfl
 | p::r,h=>by
  rw[cA,List.count_append,List.map_cons,List.sum_cons,zc fun q hq=>h q (List.mem_cons_of_mem _ hq),(h p List.mem_cons_self).p3]
  omega
theorem K_{S:List Nat}{a b n:Int}(h0:0≤a)(h1:0≤n)(h2:n≤b)(h3:a+b≤S.length)(c1 c2 c3:Int):seg S (a,n,c1)++seg S (a+n,b - n,c2)=seg S (a,b,c3):=by
 unfold seg
 show(S.drop a.toNat).take n.toNat++ (S.drop (a+n).toNat).take (b - n).toNat=(S.drop a.toNat).take b.toNat
 have e1:(a+n).toNat=a.toNat+n.toNat:=by omega
 have e2:b.toNat=n.toNat+ (b - n).toNat:=by omega
 rw[e1,e2,←List.drop_drop,List.take_add]
theorem La{S:List Nat}{a n:Int}(h0:0≤a)(h1:0≤n)(c:Int):((S.take (a+n).toNat).count 10:Int) - ((S.take a.toNat).count 10:Nat)=((seg S (a,n,c)).count 10:Nat):=by
 have e1:(a+n).toNat=a.toNat+n.toNat:=by omega
 unfold seg
 show((S.take (a+n).toNat).count 10:Int) - ((S.take a.toNat).count 10:Nat)=((((S.drop a.toNat).take n.toNat).count 10:Nat):Int)
 rw[e1,List.take_add,List.count_append]
 omega
theorem si{ts:List Str}: ∀(ps:List P3) (n:Int),(∀q∈ps,bM (ak ts) q)→0≤n→n≤cy ps→
  (∀q∈cb (ends ts) ps n,bM (ak ts) q)∧(∀q∈cf (ends ts) ps n,bM (ak ts) q)∧txt (ak ts) (cb (ends ts) ps n)=(txt (ak ts) ps).take n.toNat∧txt (ak ts) (cf (ends ts) ps n)=(txt (ak ts) ps).drop n.toNat:=by
 intro ps
 induction ps with
 | nil=>
  intro n _ h0 h1
  exact⟨fun q hq=> (by cases hq),fun q hq=> (by cases hq),by simp[cb,txt],by simp[cf,txt]⟩
 | cons p r ih=>
  intro n h h0 h1
  obtain⟨a,b,c⟩:=p
  have hp:=h _ List.mem_cons_self
  have hr: ∀q∈r,bM (ak ts) q:=fun q hq=>h q (List.mem_cons_of_mem _ hq)
  have q0:0≤a:=hp.p0
  have q1:1≤b:=hp.p1
  have q2:a+b≤ (ak ts).length:=hp.p2
  have hl:=hp.len
  have GY:((seg (ak ts) (a,b,c)).length:Int)=b:=hl
  by_cases z:n≤0
  ·obtain⟨e1,e2⟩:=yy (ends ts) z ((a,b,c)::r)
   rw[e1,e2]
   have:n.toNat=0:=by omega
   rw[this]
   exact⟨fun q hq=> (by cases hq),h,by simp[txt],by simp⟩
  ·by_cases g:b≤n
   ·have e1:cb (ends ts) ((a,b,c)::r) n=(a,b,c)::cb (ends ts) r (n - b):=by simp only[cb];rw[if_neg z,if_pos g]
    have e2:cf (ends ts) ((a,b,c)::r) n=cf (ends ts) r (n - b):=by simp only[cf];rw[if_neg z,if_pos g]
    rw[lO] at h1
    have oH:n≤b+cy r:=h1
    obtain⟨i1,i2,i3,i4⟩:=ih (n - b) hr (by omega) (by omega)
    rw[e1,e2]
    refine⟨fun q hq=> ?_,i2, ?_, ?_⟩
    ·rcases List.mem_cons.mp hq with rfl | hq
     ·exact hp
     ·exact i1 q hq
    ·rw[cA,cA,i3]
     have:n.toNat=(seg (ak ts) (a,b,c)).length+ (n - b).toNat:=by omega
     rw[this,List.take_length_add_append]
    ·rw[cA,i4]
     have:n.toNat=(seg (ak ts) (a,b,c)).length+ (n - b).toNat:=by omega
     rw[this,List.drop_length_add_append]
   ·have e1:cb (ends ts) ((a,b,c)::r) n=[(a,n,ends ts (a+n) - ends ts a)]:=by simp only[cb];rw[if_neg z,if_neg g]
    have e2:cf (ends ts) ((a,b,c)::r) n=(a+n,b - n,c - (ends ts (a+n) - ends ts a))::r:=by simp only[cf];rw[if_neg z,if_neg g]
    rw[e1,e2]
    have k1:bM (ak ts) (a,n,ends ts (a+n) - ends ts a):=⟨q0,by show 1≤n;omega,by show a+n≤_;omega,La q0 h0 _⟩
    have sc:=K_ (S:=ak ts) q0 h0 (by omega:n≤b) q2 (ends ts (a+n) - ends ts a) (c - (ends ts (a+n) - ends ts a)) c
    have k2:bM (ak ts) (a+n,b - n,c - (ends ts (a+n) - ends ts a)):=by
     refine⟨by show 0≤a+n;omega,by show 1≤b - n;omega,by show a+n+ (b - n)≤_;omega, ?_⟩
     have e4:c=ends ts (a+n) - ends ts a+ ((seg (ak ts) (a+n,b - n,c - (ends ts (a+n) - ends ts a))).count 10:Nat):=by
      have k3:=k1.p3
      have e5:=hp.p3
      rw[←sc,List.count_append] at e5
      have e6:c=(((seg (ak ts) (a,n,ends ts (a+n) - ends ts a)).count 10+ (seg (ak ts) (a+n,b - n,c - (ends ts (a+n) - ends ts a))).count 10:Nat):Int):=e5
      have k4:ends ts (a+n) - ends ts a=((seg (ak ts) (a,n,ends ts (a+n) - ends ts a)).count 10:Nat):=k3
      omega
     show c - (ends ts (a+n) - ends ts a)=_
     omega
    refine⟨fun q hq=> ?_,fun q hq=> ?_, ?_, ?_⟩
    ·rw[List.mem_singleton.mp hq];exact k1
    ·rcases List.mem_cons.mp hq with rfl | hq
     ·exact k2
     ·exact hr q hq
    ·rw[cA,txt_nil,List.append_nil,cA,←sc]
     have l1:=k1.len
     have:n.toNat=(seg (ak ts) (a,n,ends ts (a+n) - ends ts a)).length:=by have l1':((seg (ak ts) (a,n,ends ts (a+n) - ends ts a)).length:Int)=n:=l1;omega
     rw[this,List.append_assoc,List.take_left]
    ·rw[cA,cA,←sc]
     have l1:=k1.len
     have:n.toNat=(seg (ak ts) (a,n,ends ts (a+n) - ends ts a)).length:=by have l1':((seg (ak ts) (a,n,ends ts (a+n) - ends ts a)).length:Int)=n:=l1;omega
     rw[this,List.append_assoc,List.drop_left]
theorem cL{Γ:aF}{D:Ends}{σ:St}{H:Hp}{r:List RS}(h:ar Γ r D σ H):ar Γ [] {D with nx:=ar Γ r D} σ H:=h
def jm(n:Nat):Sp:=fun vs H Q E=> ∃v l a b c r,vs=[v]∧Nd H (.node l a b c r) v∧(Tr.node l a b c r).ok∧(Tr.node l a b c r).h<n∧(Tr.node l a b c r).h≤30∧
 ∀w H' q vt t a' b' c',aG H H'→H' w=some (.tup [.ref q,vt])→Nd H' t vt→H' q=some (tp (a',b',c'))→t.ok→(Tr.node l a b c r).aj=(a',b',c')::t.aj→t.h≤ (Tr.node l a b c r).h→Q (.ref w) H'
theorem adS(vs:List V)(H:Hp)(Q:VK)(E:XK): ¬jm 0 vs H Q E:=by
 rintro⟨v,l,a,b,c,r, -, -, -,h, -⟩
 have:=Tr.h0 (.node l a b c r)
 omega
abbrev adT(n:Nat):List (Str×Sp):=[("first_out",jm n),("joined",dg 64)]
theorem adU{K:PySem.W.Frag}(n:Nat)(vs:List V)(H:Hp)(Q:VK)(E:XK)(h:jm (n+1) vs H Q E):ar (aR K (adT n) [] (E:=E)) xk {nx:=fun _ H'=>Q .ax H',rt:=Q} (start xj vs) H:=by
 obtain⟨v,l,a,b,c,r,rfl,⟨p,q,vl,vr,rfl,hp,hq,hl,hr⟩,ho,hh,h30,k⟩:=h
 have e1:=Tr.cq l a b c r
 have r0:=Tr.h0 r
 refine⟨_,rfl,aE hp rfl ⟨rfl,_,rfl, ?_⟩⟩
 cases l with
 | nil=>
  cases hl
  refine iT ⟨_,rfl,aE hp rfl ⟨_,rfl,aE hp rfl ⟨(by show 2≤sizeLine;decide),fun w hw=> ?_⟩⟩⟩
  have s:=sameNew (o:= .tup [.ref q,vr]) hw
  exact k w _ q vr r a b c s aS (hr.mono (bx s)) (s _ _ hq) ho.2.1 rfl (by rw[e1];split<;>omega)
 | node ll a1 b1 c1 lr=>
  obtain⟨p2,q2,lX,m5,rfl,rY,eW,lZ,fQ⟩:=hl
  have bz:(Tr.node ll a1 b1 c1 lr).h< (Tr.node (.node ll a1 b1 c1 lr) a b c r).h:=by rw[e1];split<;>omega
  have hle:r.h< (Tr.node (.node ll a1 b1 c1 lr) a b c r).h:=by rw[e1];split<;>omega
  refine iF ⟨_,rfl,aE hp rfl ⟨.ref p2,ll,a1,b1,c1,lr,rfl,⟨p2,q2,lX,m5,rfl,rY,eW,lZ,fQ⟩,ho.1,by omega,by omega,fun w H1 q3 vt t a2 b2 c2 s1 hw ht y8 to y9 th=> ?_⟩⟩
  refine⟨_,rfl,aE hw rfl ⟨_,rfl,aE hw rfl ⟨_,rfl,aE (s1 _ _ hp) rfl ⟨_,rfl,aE (s1 _ _ hp) rfl ⟨vt,q,vr,t,r,a,b,c,rfl,ht,hr.mono (bx s1),s1 _ _ hq,to,ho.2.1,(by show t.h+r.h< (64:Nat);omega),fun v2 H2 t2 s2 n2 J=> ?_⟩⟩⟩⟩⟩
  refine⟨(by show 2≤sizeLine;decide),fun w2 jk=> ?_⟩
  have s3:=sameNew (o:= .tup [.ref q3,v2]) jk
  have jh:=J.hi
  refine k w2 _ q3 v2 t2 a2 b2 c2 (s1.trans (s2.trans s3)) aS (n2.mono (bx s3)) (s3 _ _ (s2 _ _ y8)) J.ok ?_ ?_
  ·rw[J.aj,Tr.aj,y9];simp
  ·have:=J.hi;omega
def m_:Sp:=fun vs H Q E=> ∃(vl vr:V) (l r:Tr) (S:List Nat),vs=[vl,vr]∧Nd H l vl∧Nd H r vr∧l.ok∧r.ok∧(∀q∈l.aj,bM S q)∧(∀q∈r.aj,bM S q)∧(l≠ .nil→r≠ .nil)∧l.aj.length≤1000∧r.aj.length≤1000∧
 ∀v H' t,aG H H'→Nd H' t v→t.ok→(∀q∈t.aj,bM S q)→txt S t.aj=txt S l.aj++txt S r.aj→t.aj.length≤l.aj.length+r.aj.length→Q v H'
abbrev adV:List (Str×Sp):=[("last_out",jj 32),("first_out",jm 32),("joined",dg 64)]
theorem adW{K:PySem.W.Frag}(vs:List V)(H:Hp)(Q:VK)(E:XK)(h:m_ vs H Q E):ar (aR K adV [] (E:=E)) xn (Dn Q) (start xl vs) H:=by
 obtain⟨vl,vr,l,r,S,rfl,hl,hr,ol,or,pl,pr,iZ,ll,lr,k⟩:=h
 refine⟨_,rfl,rfl,_,rfl, ?_⟩
 cases l with
 | nil=>
  cases hl
  exact iT ⟨_,rfl,k vr H r (aG.refl _) hr or pr rfl (by show _≤0+_;omega)⟩
 | node l1 a b c l2=>
  cases r with
  | nil=>exact absurd rfl (iZ (by simp))
  | node r1 a' b' c' r2=>
   have h1:=Tr.fk ol ll
   have h2:=Tr.fk or lr
   have hl0:=hl
   obtain⟨p,q,wl,wr,rfl,hp, -⟩:=hl0
   refine iF ⟨_,rfl, .ref p,l1,a,b,c,l2,rfl,hl,ol,by omega,by omega,fun w H1 q1 vt t x y z s1 hw ht hq1 to ep th=> ?_⟩
   refine⟨_,rfl,vr,r1,a',b',c',r2,rfl,hr.mono (bx s1),or,by omega,by omega,fun w2 H2 q2 vu u x' y' z' s2 jk hu eW uo sj uh=> ?_⟩
   have mf:=s2 _ _ hw
   have nc:=s2 _ _ hq1
   refine⟨_,rfl,aE mf rfl ⟨_,rfl,aE jk rfl ?_⟩⟩
   have p1:bM S (x,y,z):=pl _ (by rw[ep];simp)
   have p2:bM S (x',y',z'):=pr _ (by rw[sj];simp)
   have pt: ∀q∈t.aj,bM S q:=fun q hq=>pl q (by rw[ep];simp[hq])
   have pu: ∀q∈u.aj,bM S q:=fun q hq=>pr q (by rw[sj];simp[hq])
   have el:(Tr.node l1 a b c l2).aj.length=t.aj.length+1:=by rw[ep];simp
   have er:(Tr.node r1 a' b' c' r2).aj.length=u.aj.length+1:=by rw[sj];simp
   have t0:=Tr.h0 t
   have u0:=Tr.h0 u
   refine bH (bG (aK (bc (ag rfl (aw (aE nc rfl (bc (ag rfl (aw (aE nc rfl (bJ (bc (ag rfl (aw (aE eW rfl (gK ⟨_,rfl, ?_⟩))))))))))))))))
   by_cases g:x+y=x'
   ·refine iT ?_ (decide_eq_true g)
    refine cE (bL (dg 64) rfl (ay (bc (ag rfl (aw (aE mf rfl (ay (ip (ay (bc (ag rfl (aw (aE nc rfl ?_)))))))))))))
    refine ay (aK (bc (ag rfl (aw (aE nc rfl (bc (ag rfl (aw (aE eW rfl (bJ ?_))))))))))
    refine ay (aK (bc (ag rfl (aw (aE nc rfl (bc (ag rfl (aw (aE eW rfl (bJ (aU ⟨(by show 3≤sizeLine;decide),fun q3 f3=> ?_⟩)))))))))))
    have s3:=sameNew (o:=tp (x,y+y',z+z')) f3
    refine ay (bc (ag rfl (aw (aE (s3 _ _ jk) rfl (aU ?_)))))
    refine⟨vt,q3,vu,t,u,x,y+y',z+z',rfl,(ht.mono (bx s2)).mono (bx s3),hu.mono (bx s3),aS,to,uo,(by show t.h+u.h< (64:Nat);omega),fun v H3 tt s4 n4 J=> ?_⟩
    have j0:=p1.p0
    have j1:=p1.p1
    have j2:=p2.p2
    have j3:=p2.p1
    have Lb:0≤x:=j0
    have j1':1≤y:=j1
    have j2':x'+y'≤S.length:=j2
    have j3':1≤y':=j3
    have sc:=K_ (S:=S) (a:=x) (b:=y+y') (n:=y) Lb (by omega) (by omega) (by omega) z z' (z+z')
    rw[g,show y+y' - y=y' by omega] at sc
    have p3:bM S (x,y+y',z+z'):=by
     refine⟨Lb,by show 1≤y+y';omega,by show x+ (y+y')≤_;omega, ?_⟩
     have c1:=p1.p3
     have c2:=p2.p3
     have c1':z=((seg S (x,y,z)).count 10:Nat):=c1
     have c2':z'=((seg S (x',y',z')).count 10:Nat):=c2
     show z+z'=_
     rw[←sc,List.count_append]
     omega
    refine k v H3 tt (s1.trans (s2.trans (s3.trans s4))) n4 J.ok (fun q hq=> ?_) ?_ ?_
    ·rw[J.aj] at hq
     rcases List.mem_append.mp hq with hq | hq
     ·exact pt q hq
     ·rcases List.mem_cons.mp hq with rfl | hq
      ·exact p3
      ·exact pu q hq
    ·rw[J.aj,ep,sj,oV,oV,cA,cA,cA,txt_nil,←sc];simp
    ·rw[J.aj,el,er,List.length_append,List.length_cons];omega
   ·refine iF (cL ?_) (decide_eq_false g)
    refine cE (bL (dg 64) rfl (ay (bc (ag rfl (aw (aE mf rfl (ay (ag rfl (ay (ag rfl (aU ?_)))))))))))
    have h3:=Tr.fk or lr
    refine⟨vt,q1,vr,t, .node r1 a' b' c' r2,x,y,z,rfl,ht.mono (bx s2),(hr.mono (bx s1)).mono (bx s2),nc,to,or,(by show t.h+_< ((64:Nat):Int);omega),fun v H3 tt s4 n4 J=> ?_⟩
    refine k v H3 tt (s1.trans (s2.trans s4)) n4 J.ok (fun q hq=> ?_) ?_ ?_
    ·rw[J.aj] at hq
     rcases List.mem_append.mp hq with hq | hq
     ·exact pt q hq
     ·rcases List.mem_cons.mp hq with rfl | hq
      ·exact p1
      ·exact pr q hq
    ·rw[J.aj,ep,oV,oV,cA,cA,txt_nil];simp
    ·rw[J.aj,el,List.length_append,List.length_cons];omega
end L2.N
namespace L2.B
open PySem PySem.Spec PyProof.Rows
theorem adZ{K:PySem.W.Frag}{σ:St}{H:Hp}{QQ:List V→Hp→Addr→Prop}{te:TE}{fv:List (Str×Nat)}{a:Addr}{xs:List V}(ha:H a=some (.lst xs))(hl:xs.length≤1000000)(P:Nat→List V→Hp→Prop)(p0:P 0 [] H)
  (step: ∀i x ys H2,xs[i]?=some x→aG H H2→P i ys H2→ ∀Q':VK,(∀y H3,aG H2 H3→P (i+1) (ys++ [y]) H3→Q' y H3)→te (some x::cM σ fv) H2 Q')
  (fin: ∀ys H2 p,aG H H2→P xs.length ys H2→H2 p=none→QQ ys H2 p): ∃W:Nat→Nat→List V→Hp→Prop,(∃m,W 0 m [] H)∧ ∀i m ys H2,W i m ys H2→
   ((dw K a).stop i H2∧ ∀p,H2 p=none→QQ ys H2 p)∨
   ((dw K a).go i H2∧ ∀x H3,(dw K a).eK i H2 x H3→mF K none x H3 fun zs=>nR none (zs.map some++cM σ fv) H3 fun b H5=>
    if b=true then te (zs.map some++cM σ fv) H5 fun y H6=>ys.length<sizeLine∧ ∃m',m'<m∧W (i+1) m' (ys++ [y]) H6 else ∃m',m'<m∧W (i+1) m' ys H5):=by
 refine⟨fun i m ys H2=>m=xs.length - i∧i≤xs.length∧ys.length=i∧aG H H2∧P i ys H2,⟨_,rfl,Nat.zero_le _,rfl,aG.refl _,p0⟩, ?_⟩
 rintro i m ys H2 ⟨rfl,hi,hy,s,p⟩
 by_cases bz:i<xs.length
 ·refine .inr ⟨⟨xs,xs[i],aH.of (s _ _ ha),by simp[bz]⟩, ?_⟩
  rintro x H3 ⟨rfl,hx⟩
  have jH:=hx xs (aH.of (s _ _ ha))
  exact step i x ys _ jH s p _ fun y H4 s4 p4=> ⟨jc (by omega),xs.length - (i+1),by omega,rfl,bz,by simp[hy],s.trans s4,p4⟩
 ·have yH:i=xs.length:=by omega
  subst yH
  exact .inl ⟨⟨xs,aH.of (s _ _ ha),Nat.le_refl _⟩,fun q hq=>fin ys _ q s p hq⟩
end L2.B
namespace L2.N
open PySem PySem.Spec L2.B
section
variable {Γ:aF} {D:Ends} {σ:St} {H:Hp} {r:List RS} {Q:VK}
theorem oW{x:RE}(A B:VK)(vo: ∀v H1,A v H1↔B v H1)(ha:ah Γ x σ H A):ah Γ x σ H B:=by
 have:A=B:=funext fun x=>funext fun H1=>propext (vo x H1)
 rw[←this];exact ha
theorem ad0{fv:List (Str×Nat)}{x elt:RE}(h:ah Γ x σ H fun v H1=> ∃a,v= .ref a∧(∃xs,aH Γ.K H1 a xs)∧ ∃W:Nat→Nat→List V→Hp→Prop,(∃m,W 0 m [] H1)∧ ∀i m ys H2,W i m ys H2→
   ((dw Γ.K a).stop i H2∧ ∀p,H2 p=none→Q (.ref p) (upd H2 p (.lst ys)))∨
   ((dw Γ.K a).go i H2∧ ∀x H3,(dw Γ.K a).eK i H2 x H3→mF Γ.K none x H3 fun zs=>nR none (zs.map some++cM σ fv) H3 fun b H5=>
    if b=true then ah Γ.calm elt (zs.map some++cM σ fv) H5 fun y H6=>ys.length<sizeLine∧ ∃m',m'<m∧W (i+1) m' (ys++ [y]) H6 else ∃m',m'<m∧W (i+1) m' ys H5)):ah Γ (.comp none fv .list [x] none elt) σ H Q:=oW (x:=x) _ _ (fun _ _=>Iff.rfl) h
theorem oX{j:Nat}{m:Str}{o a b:RE}(C:Addr)(sp:Sp)(hm:Γ.ms j=(C,sp))(h:ah Γ o σ H fun x H1=> ∃p dx fs,x= .ref p∧H1 p=some (.ins C dx fs)∧fs.lookup m=none∧ah Γ a σ H1 fun y H2=>ah Γ b σ H2 fun z H3=>sp [x,y,z] H3 Q Γ.E):ah Γ (.bP j m o [a,b]) σ H Q:=by
 show jB (Γ.ms j).1 m (Γ.ms j).2 [] Γ.E (ah Γ o) (bq Γ [a,b]) σ H Q
 rw[hm];exact h
theorem fW{x:RE}(h:ah Γ x σ H fun v H1=>nO Γ.K v H1 fun n=>Q (.int n) H1):ah Γ (.blt .len [x]) σ H Q:=h
end
theorem _root_.L2.B.dD.cC{C:Addr}{H H':Hp}{p dx lt lb lf:Addr}{ts:List Str}(b:dD p lt lb lf H H')(S:bU C H p dx lt lb lf ts):ja H H':=fun c xs e=>
 b c _ e (fun z=>by rw[z,S.ob] at e;cases e) (fun z=>by rw[z,S.tx] at e;cases e) (fun z=>by rw[z,S.bg] at e;cases e) (fun z=>by rw[z,S.fd] at e;cases e)
theorem jn{p lt lb lf:Addr}{H H':Hp}(s:aG H H'):dD p lt lb lf H H':=fun b o e _ _ _ _=>s b o e
theorem ad1(x:Str):(Builtin.Str.occurrences x (Str.ofString "\n") 0 x.length (x.length+1)).length=x.cps.toList.count 10:=by
 have:=yD x 10 0 (x.length+1) (Nat.zero_le _)
 rw[List.drop_zero] at this
 show(Builtin.Str.occurrences x ⟨#[10]⟩ 0 x.length (x.length+1)).length=_
 rw[this,List.length_take,ee]
 have:x.cps.toList.count 10≤x.length:=by rw[len_list];exact List.count_le_length
 omega
theorem ad2{K:PySem.W.Frag}{H:Hp}{Q:VK}{x:Str}(q:Q (.int ((x.cps.toList.count 10:Nat):Int)) H):nW K .count (.str x) [.str "\n"] H Q:=by
 show Q (.int ((Builtin.Str.occurrences x (Str.ofString "\n") 0 x.length (x.length+1)).length:Nat)) H
 rw[ad1];exact q
theorem Lc{H:Hp}: ∀{vs:List V} {ps:List P3} {i:Nat} {v:V},fS H vs ps→vs[i]?=some v→ ∃p,ps[i]?=some p∧Pc H v p
 | _,_,i,v, .nil,e=>by simp at e
 | _,_,0,v, .cons h r,e=>by simp at e;subst e;exact⟨_,rfl,h⟩
 | _,_,i+1,v, .cons h r,e=>by
  obtain⟨p,a,b⟩:=Lc (i:=i) r (by simpa using e)
  exact⟨p,by simpa using a,b⟩
theorem ad3{lt lb lf:Addr}{n:Int}:(cZ lt lb lf n).lookup ("put":Str)=none:=oI (by decide+kernel) (by decide+kernel) (by decide+kernel) (by decide+kernel)
theorem ad4{lt lb lf:Addr}{n:Int}:(cZ lt lb lf n).lookup ("read":Str)=none:=oI (by decide+kernel) (by decide+kernel) (by decide+kernel) (by decide+kernel)
def jo(C:Addr):Sp:=fun vs H Q E=> ∃(s dx lt lb lf:Addr) (ts:List Str) (x:Str),vs=[.ref s, .str x]∧bU C H s dx lt lb lf ts∧good x∧ts.length≤10000∧(ak ts).length≤500000∧
 ((x=""∧Q .ax H)∨(x≠""∧ ∀v H' t,dD s lt lb lf H H'→bU C H' s dx lt lb lf (ts++ [x])→Nd H' t v→t.ok→t.aj=[(((ak ts).length:Int),(x.length:Int),(x.cps.toList.count 10:Int))]→Q v H'))
theorem ad5{K:PySem.W.Frag}{CT C:Addr}(vs:List V)(H:Hp)(Q:VK)(E:XK)(h:jo C vs H Q E):ar (aR K [("joined",dg 64)] [] [] [("put",C,oM CT C)] (E:=E)) xC (Dn Q) (start xB vs) H:=by
 obtain⟨s,dx,lt,lb,lf,ts,x,rfl,S,gx,l1,l2,h⟩:=h
 refine bH (bG (ag rfl (aw (dC ⟨_,rfl, ?_⟩))))
 rcases h with⟨rfl,q⟩ | ⟨hx,k⟩
 ·exact iT (cE (aw q)) (by decide)
 ·refine iF (cL ?_) (beq_eq_false_iff_ne.mpr hx)
  refine cE (bL (dg 64) rfl (ay (aw (ay (ip (ay (eS C (oM CT C) rfl (ag rfl ⟨s,dx,_,rfl,S.ob,ad3,ag rfl ⟨s,dx,lt,lb,lf,ts,_,rfl,S, .inr ⟨x,rfl,gx,by omega,by omega,fun H1 b1 S1=> ?_⟩⟩⟩))))))))
  refine ay (fW (ag rfl ⟨b9 gx.1, ?_⟩))
  refine ay (mY (ag rfl ⟨rfl,aw (ad2 ?_)⟩))
  refine aU ⟨(by show 3≤sizeLine;decide),fun q f=>ay (aw (aU ?_))⟩
  have s2:=sameNew (o:=tp (((ak ts).length:Int),(x.length:Int),((x.cps.toList.count 10:Nat):Int))) f
  refine⟨.ax,q, .ax, .nil, .nil,_,_,_,rfl,rfl,rfl,aS,trivial,trivial,(by show(0:Int)+0< (64:Nat);decide),fun v H2 t s3 n3 J=> ?_⟩
  exact k v H2 t (b1.trans (jn (s2.trans s3))) (S1.same (s2.trans s3)) n3 J.ok J.aj
def gN(S:List Nat)(q:P3):Str:=⟨(seg S q).toArray⟩
def oY(C:Addr):Sp:=fun vs H Q E=> ∃(s dx lt lb lf:Addr) (ts:List Str) (v:V) (t:Tr),vs=[.ref s,v]∧bU C H s dx lt lb lf ts∧Nd H t v∧t.ok∧(∀q∈t.aj,bM (ak ts) q)∧t.aj.length≤1000∧ts.length≤10000∧(ak ts).length≤500000∧
 ∀w H',aG H H'→H w=none→H' w=some (.lst ((t.aj.map (gN (ak ts))).map V.str))→Q (.ref w) H'
theorem ad6{ts:List Str}: ∀t∈ts,t.length≤ (ak ts).length:=by
 induction ts with
 | nil=>intro t h;cases h
 | cons a r ih=>
  intro t h
  have e:(ak (a::r)).length=a.length+ (ak r).length:=by simp[ak,Str.length]
  rw[e]
  rcases List.mem_cons.mp h with rfl | h
  ·omega
  ·have:=ih t h;omega
theorem ad7{K:PySem.W.Frag}{CP C:Addr}(vs:List V)(H:Hp)(Q:VK)(E:XK)(h:oY C vs H Q E):ar (aR K [("pieces_of",iy 32)] [] [] [("read",C,oQ CP C)] (E:=E)) xI (Dn Q) (start xH vs) H:=by
 obtain⟨s,dx,lt,lb,lf,ts,v,t,rfl,S,hn,ho,hp,l1,l2,l3,k⟩:=h
 have hh:=Tr.fk ho l1
 refine cE (ad0 (bL (iy 32) rfl (ay (ag rfl (aU ⟨v,t,rfl,hn,by omega,l1,fun w H1 xs s1 fw hw px=> ⟨w,rfl,⟨_,aH.of hw⟩, ?_⟩⟩)))))
 have lx:=Paired.length px
 refine adZ hw (by omega) (fun i ys _=>ys=((t.aj.take i).map (gN (ak ts))).map V.str) (by simp) ?_ ?_
 ·intro i x ys H2 hx s2 e Q' kk
  obtain⟨pt,mh,⟨q,rfl,hq⟩⟩:=Lc px hx
  have hi:i<t.aj.length:=(List.getElem?_eq_some_iff.mp mh).1
  have pc:=hp pt (List.mem_of_getElem? mh)
  have p0:=pc.p0
  have p1:=pc.p1
  have p2:=pc.p2
  have S2:=(S.same s1).same s2
  have eW:=s2 _ _ hq
  refine oX C (oQ CP C) rfl (ag rfl ⟨s,dx,_,rfl,S2.ob,ad4,bc (ag rfl (aw (aE eW rfl (bc (ag rfl (aw (aE eW rfl ?_)))))))⟩)
  refine⟨s,dx,lt,lb,lf,ts,_,_,rfl,S2, .inr ⟨pt.1.toNat,pt.2.1.toNat, ?_, ?_,by omega,by omega,by omega,fun u hu=>by have:=ad6 u hu;omega,fun H3 s3=>kk _ _ s3 ?_⟩⟩
  ·rw[show((pt.1.toNat:Nat):Int)=pt.1 by omega]
  ·rw[show((pt.2.1.toNat:Nat):Int)=pt.2.1 by omega]
  ·rw[e,List.take_succ_eq_append_getElem hi,(List.getElem?_eq_some_iff.mp mh).2,List.map_append,List.map_append];rfl
 ·intro ys H2 p s2 e iM
  have e':ys=(t.aj.map (gN (ak ts))).map V.str:=by rw[e,lx,List.take_length]
  have s3:aG H H2:=s1.trans s2
  exact k p _ (s3.trans (sameNew iM)) (s3.free iM) (by rw[aS,e'])
theorem Ld(S:List Nat)(ps:List P3):cat (ps.map (gN S))=⟨(txt S ps).toArray⟩:=ij (by
 rw[mT,List.map_map]
 show(ps.map fun q=> (gN S q).cps.toList).flatten=(txt S ps).toArray.toList
 simp only[gN,List.toList_toArray]
 rfl)
theorem ad8{S:List Nat}{ps:List P3}:sz (ps.map (gN S))=(txt S ps).length:=by
 have:=congrArg Str.length (Ld S ps)
 rw[Kt] at this
 rw[this]
 simp[Str.length]
section
variable {Γ:aF} {D:Ends} {σ:St} {H:Hp} {r:List RS} {Q:VK} {QT:Bool→Hp→Prop}
theorem ad9{j:Nat}(C:Addr)(sp:Sp)(hm:Γ.kt j=(C,sp))(h: ∀x dx,H x=none→H dx=none→dx≠x→sp [.ref x] (upd (upd H dx (.own x)) x (.ins C dx [])) (fun v H2=>v= .ax∧Q (.ref x) H2) Γ.E):ah Γ (.make j []) σ H Q:=by
 show nB (Γ.kt j).1 (Γ.kt j).2 [] Γ.E (bq Γ []) σ H Q
 rw[hm];exact h
theorem Le{j:Nat}{a b:RE}(C:Addr)(sp:Sp)(hm:Γ.kt j=(C,sp))(h:ah Γ a σ H fun y H0=>ah Γ b σ H0 fun z H1=> ∀x dx,H1 x=none→H1 dx=none→dx≠x→sp [.ref x,y,z] (upd (upd H1 dx (.own x)) x (.ins C dx [])) (fun v H2=>v= .ax∧Q (.ref x) H2) Γ.E):ah Γ (.make j [a,b]) σ H Q:=by
 show nB (Γ.kt j).1 (Γ.kt j).2 [] Γ.E (bq Γ [a,b]) σ H Q
 rw[hm];exact h
theorem Lf{o e:RE}{f:Str}(h:ah Γ e σ H fun v H1=>ah Γ o σ H1 fun x H2=> ∃a C dx fs,x= .ref a∧H2 a=some (.ins C dx fs)∧d5 Γ.K C∧eA Γ.K C f∧fs.length<1000∧ar Γ r D σ (upd H2 a (.ins C dx (bV f v fs)))):ar Γ (.gu o f e::r) D σ H:=h
end
def c_(s:Addr)(v:V):List (Str×V):=[("stock", .ref s),("node",v)]
theorem gO{s:Addr}{v:V}:(c_ s v).lookup ("stock":Str)=some (V.ref s):=mU
theorem mi{s:Addr}{v:V}:(c_ s v).lookup ("node":Str)=some v:=(eR (by decide+kernel)).trans mU
theorem dW{s:Addr}{v:V}{m:Str}(h1: ¬m="stock")(h2: ¬m="node"):(c_ s v).lookup m=none:=(eR h1).trans ((eR h2).trans rfl)
theorem ad_{s:Addr}{v:V}:bV "node" v (bV "stock" (.ref s) [])=c_ s v:=by
 have e1:bV "stock" (V.ref s) []=[(("stock":Str),V.ref s)]:=rfl
 unfold c_
 rw[e1,gJ (by decide+kernel)];rfl
structure cB (CP:Addr) (H:Hp) (p dp s:Addr) (v:V) (t:Tr) (S:List Nat):Prop where
 ob:H p=some (.ins CP dp (c_ s v))
 nd:Nd H t v
 ok:t.ok
 pc: ∀q∈t.aj,bM S q
theorem cB.same{CP:Addr}{H H':Hp}{p dp s:Addr}{v:V}{t:Tr}{S:List Nat}(P:cB CP H p dp s v t S)(h:aG H H'):cB CP H' p dp s v t S:=⟨h _ _ P.ob,P.nd.mono (bx h),P.ok,P.pc⟩
def gP(CP:Addr):Sp:=fun vs H Q E=> ∃(p dp s:Addr) (v:V),vs=[.ref p, .ref s,v]∧H p=some (.ins CP dp [])∧ ∀H',H' p=some (.ins CP dp (c_ s v))→(∀b o,H b=some o→b≠p→H' b=some o)→Q .ax H'
theorem aea{K:PySem.W.Frag}{CP:Addr}(T:fO K CP)(vs:List V)(H:Hp)(Q:VK)(E:XK)(h:gP CP vs H Q E):ar (aR K [] [] (E:=E)) xM (Dn Q) (start xJ vs) H:=by
 obtain⟨p,dp,s,v,rfl,hp,k⟩:=h
 refine Lf (ag rfl (ag rfl ⟨p,CP,dp,[],rfl,hp,T.cl,T.fP,(by show 0<1000;decide), ?_⟩))
 refine Lf (ag rfl (ag rfl ⟨p,CP,dp,_,rfl,aS,T.cl,T.i8,(by show 1<1000;decide), ?_⟩))
 refine k _ ?_ fun b o e nb=> ?_
 ·rw[aS];exact congrArg (fun l=>some (HO.ins CP dp l)) ad_
 ·rw[aN nb,aN nb];exact e
def dX(CP:Addr):Sp:=fun vs H Q E=> ∃(p dp s:Addr) (v:V) (t:Tr) (S:List Nat),vs=[.ref p]∧cB CP H p dp s v t S∧Q (.int ((txt S t.aj).length:Nat)) H
def gQ(CP:Addr):Sp:=fun vs H Q E=> ∃(p dp s:Addr) (v:V) (t:Tr) (S:List Nat),vs=[.ref p]∧cB CP H p dp s v t S∧Q (.int ((txt S t.aj).count 10+1:Nat)) H
theorem cB.sz{CP:Addr}{H:Hp}{p dp s:Addr}{v:V}{t:Tr}{S:List Nat}(P:cB CP H p dp s v t S):t.sz=((txt S t.aj).length:Nat):=by rw[eT,←m9 P.pc]
theorem cB.en{CP:Addr}{H:Hp}{p dp s:Addr}{v:V}{t:Tr}{S:List Nat}(P:cB CP H p dp s v t S):t.en=((txt S t.aj).count 10:Nat):=by rw[sh,zc P.pc]
theorem aeb{K:PySem.W.Frag}{CP:Addr}(T:fO K CP)(vs:List V)(H:Hp)(Q:VK)(E:XK)(h:dX CP vs H Q E):ar (aR K [("size_of",dF)] [] (E:=E)) xQ (Dn Q) (start xO vs) H:=by
 obtain⟨p,dp,s,v,t,S,rfl,P,q⟩:=h
 refine cE (bL dF rfl (ay (dr (ag rfl ⟨p,CP,dp,_,_,rfl,P.ob,T.cl,T.i8,mi,aU ⟨v,t,rfl,P.nd, ?_⟩⟩))))
 rw[P.sz];exact q
theorem aec{K:PySem.W.Frag}{CP:Addr}(T:fO K CP)(vs:List V)(H:Hp)(Q:VK)(E:XK)(h:gQ CP vs H Q E):ar (aR K [("ends_of",dS)] [] (E:=E)) xS (Dn Q) (start xR vs) H:=by
 obtain⟨p,dp,s,v,t,S,rfl,P,q⟩:=h
 refine cE (aK (bL dS rfl (ay (dr (ag rfl ⟨p,CP,dp,_,_,rfl,P.ob,T.cl,T.i8,mi,aU ⟨v,t,rfl,P.nd,aw (bJ ?_)⟩⟩)))))
 rw[P.en];exact q
def tx(S:List Nat)(ps:List P3):Str:=⟨(txt S ps).toArray⟩
theorem aed{K:PySem.W.Frag}{H:Hp}{w:Addr}{S:List Nat}{ps:List P3}{Q:VK}(h:H w=some (.lst ((ps.map (gN S)).map V.str)))(hl:(txt S ps).length≤1000000)(q:Q (.str (tx S ps)) H):nW K .join (.str "") [.ref w] H Q:=by
 refine⟨ps.map (gN S),aH.of h,joinOk_of (by rw[ad8];exact hl), ?_⟩
 have e:Txt.join "" (ps.map (gN S))=tx S ps:=Ld S ps
 rw[e];exact q
theorem sk{S:List Nat}{ps:List P3}(h: ∀q∈ps,bM S q): ∀q∈ps,oS q:=fun q hq=> ⟨(h q hq).p0,(h q hq).p1⟩
def so(l:List Nat)(a b:Nat):Str:=⟨((l.take b).drop a).toArray⟩
def oZ(CP C:Addr):Sp:=fun vs H Q E=> ∃(p dp s dx lt lb lf:Addr) (v:V) (t:Tr) (ts:List Str) (a b:Nat),vs=[.ref p, .int a, .int b]∧cB CP H p dp s v t (ak ts)∧bU C H s dx lt lb lf ts∧t.aj.length≤1000∧ts.length≤10000∧(ak ts).length≤500000∧(txt (ak ts) t.aj).length≤1000000∧
 a≤b∧b≤ (txt (ak ts) t.aj).length∧ ∀H',aG H H'→Q (.str (so (txt (ak ts) t.aj) a b)) H'
theorem aee{K:PySem.W.Frag}{CP C CE:Addr}(T:fO K CP)(vs:List V)(H:Hp)(Q:VK)(E:XK)(h:oZ CP C vs H Q E):
  ar (aR K [("is_between",cK),("parted",eI C 32),("texts_of",oY C)] [] [] [("size",CP,dX CP)] (et:=[("NoPlace",CE)]) (E:=E)) xU (Dn Q) (start xT vs) H:=by
 obtain⟨p,dp,s,dx,lt,lb,lf,v,t,ts,a,b,rfl,P,S,l1,l2,l3,l4,h1,h2,k⟩:=h
 have hz:=P.sz
 have hh:=Tr.fk P.ok l1
 have sq:(c_ s v).lookup ("size":Str)=none:=dW (by decide+kernel) (by decide+kernel)
 refine bH (iq (dt (dR cK rfl (ay (ag rfl (ay (aw (ay (je CP (dX CP) rfl (ag rfl ⟨p,dp,_,rfl,P.ob,sq,p,dp,s,v,t,_,rfl,P,aU ⟨_,_,_,rfl, .inl ⟨_,rfl,by omega,by omega,dE (iF ?_ rfl)⟩⟩⟩))))))))))
 refine dt (dR cK rfl (ay (ag rfl (ay (ag rfl (ay (je CP (dX CP) rfl (ag rfl ⟨p,dp,_,rfl,P.ob,sq,p,dp,s,v,t,_,rfl,P,aU ⟨_,_,_,rfl, .inl ⟨_,rfl,by omega,by omega,dE (iF ?_ rfl)⟩⟩⟩))))))))
 refine cL (aZ (bc (bL (eI C 32) rfl (ay (dr (ag rfl ⟨p,CP,dp,_,_,rfl,P.ob,T.cl,T.i8,mi,ay (ag rfl (ay (dr (ag rfl ⟨p,CP,dp,_,_,rfl,P.ob,T.cl,T.fP,gO,aU ?_⟩))))⟩))))))
 refine⟨v,t,b,s,dx,lt,lb,lf,ts,rfl,P.nd,P.ok,S,sk P.pc,by omega,l1,by omega,by omega,fun w v1 v2 t1 t2 H1 s1 hw n1 n2 o1 o2 e1 e2=>aw (aE hw rfl ?_)⟩
 obtain⟨c1,c2,c3,c4⟩:=si t.aj (b:Int) P.pc (by omega) (by rw[←eT,hz];omega)
 rw[←e1] at c1 c3
 have P1:=P.same s1
 have S1:=S.same s1
 have g1:t1.aj.length≤1000:=by rw[e1];have:=(oy (ends ts) t.aj b).1;omega
 have hh1:=Tr.fk o1 g1
 have hz1:t1.sz=((txt (ak ts) t1.aj).length:Nat):=by rw[eT,←m9 c1]
 rw[Int.toNat_natCast] at c3
 have lz:(txt (ak ts) t1.aj).length=b:=by rw[c3,List.length_take];omega
 refine cE (mY (aw ⟨rfl,bL (oY C) rfl (ay (dr (ag rfl ⟨p,CP,dp,_,_,rfl,P1.ob,T.cl,T.fP,gO,ay (bc (bL (eI C 32) rfl (ay (ag rfl (ay (ag rfl (ay (dr (ag rfl ⟨p,CP,dp,_,_,rfl,P1.ob,T.cl,T.fP,gO,aU ?_⟩)))))))))⟩)))⟩))
 refine⟨v1,t1,a,s,dx,lt,lb,lf,ts,rfl,n1,o1,S1,sk c1,by omega,g1,by omega,by omega,fun w' w1 w2 u1 u2 H2 s2 mf m1 m2 p1 p2 d1 d2=>aw (aE mf rfl (aU ?_))⟩
 obtain⟨b1,b2,b3,b4⟩:=si t1.aj (a:Int) c1 (by omega) (by rw[←eT,hz1];omega)
 rw[←d2] at b2 b4
 rw[Int.toNat_natCast] at b4
 have g2:u2.aj.length≤1000:=by rw[d2];have:=(oy (ends ts) t1.aj a).2;omega
 have g3:(txt (ak ts) u2.aj).length≤1000000:=by rw[b4,List.length_drop];omega
 refine⟨s,dx,lt,lb,lf,ts,w2,u2,rfl,S1.same s2,m2,p2,b2,g2,l2,l3,fun w3 H3 s3 f3 h3=>aed h3 g3 ?_⟩
 have e:tx (ak ts) u2.aj=so (txt (ak ts) t.aj) a b:=by unfold tx so;rw[b4,c3]
 rw[e]
 exact k H3 (s1.trans (s2.trans s3))
theorem zd{Γ:aF}{D:Ends}{σ:St}{H:Hp}{r body:List RS}{i:Nat}{x:RE}(h:ah Γ x σ H fun v H1=> ∃a,v= .ref a∧(∃xs,aH Γ.K H1 a xs)∧ ∃W:Nat→Nat→St→Hp→Prop,(∃m,W 0 m σ H1)∧ ∀j m σ H,W j m σ H→
  ((dw Γ.K a).stop j H∧({D with nx:=ar Γ r D}:Ends).nx σ H)∨((dw Γ.K a).go j H∧ ∃N:St→Hp→Prop,(∀σ' H',N σ' H'→ ∃m',m'<m∧W (j+1) m' σ' H')∧ ∀x H',(dw Γ.K a).eK j H x H'→eo i x σ H' fun σ2 H2=>ar Γ body {({D with nx:=ar Γ r D}:Ends) with nx:=N,ct:=N,bk:=({D with nx:=ar Γ r D}:Ends).nx} σ2 H2)):
  ar Γ (.eN i .list [x] body::r) D σ H:=oW (x:=x) _ _ (fun _ _=>Iff.rfl) h
theorem Lg:(("keep":Str)==("cut":Str))=false:=by decide+kernel
theorem wPC:(("put":Str)==("cut":Str))=false:=by decide+kernel
theorem Lh:(("cut":Str)==("cut":Str))=true:=by decide+kernel
theorem wKP:(("keep":Str) !=("put":Str))=true:=by decide+kernel
theorem wPP:(("put":Str) !=("put":Str))=false:=by decide+kernel
theorem wCP:(("cut":Str) !=("put":Str))=true:=by decide+kernel
theorem o5{l r:List Nat}{n:Int}{ps:List Pt}(h:Run l (.keep n::ps) r): ∃a l' r',l=a++l'∧r=a++r'∧n=a.length∧Run l' ps r':=by
 cases h with | keep e h=>exact⟨_,_,_,rfl,rfl,e,h⟩
theorem sr{l r:List Nat}{s:Str}{ps:List Pt}(h:Run l (.put s::ps) r): ∃r',r=s.cps.toList++r'∧Run l ps r':=by
 cases h with | put h=>exact⟨_,rfl,h⟩
theorem sv{l r:List Nat}{s:Str}{ps:List Pt}(h:Run l (.cut s::ps) r): ∃l',l=s.cps.toList++l'∧Run l' ps r:=by
 cases h with | cut h=>exact⟨_,rfl,h⟩
def o6(CP C:Addr):Sp:=fun vs H Q E=> ∃(p dp s dx lt lb lf a:Addr) (v:V) (t:Tr) (ts:List Str) (xs:List V) (ps:List Pt) (r:List Nat),vs=[.ref p, .ref a]∧cB CP H p dp s v t (ak ts)∧bU C H s dx lt lb lf ts∧t.aj.length≤1000∧ts.length≤10000∧(ak ts).length≤500000∧(txt (ak ts) t.aj).length≤1000000∧
 H a=some (.lst xs)∧bZ H xs ps∧(∀p∈ps,dQ p)∧chainOk "" ps=true∧ps.length≤1000000∧Run (txt (ak ts) t.aj) ps r∧ ∀H',aG H H'→Q .ax H'
abbrev aek(CP C:Addr):List (Str×Addr×Sp):=[("size",CP,dX CP),("part",CP,oZ CP C)]
theorem ael{K:PySem.W.Frag}{CP C CF:Addr}(T:fO K CP)(vs:List V)(H:Hp)(Q:VK)(E:XK)(h:o6 CP C vs H Q E):
  ar (aR K [("sizes",oC),("part_size",fm)] [] [] (aek CP C) (et:=[("BadFit",CF)]) (E:=E)) xG (Dn Q) (start xF vs) H:=by
 obtain⟨p,dp,s,dx,lt,lb,lf,a,v,t,ts,xs,ps,r,rfl,P,S,l1,l2,l3,l4,ha,cI,aI,dh,hl,hr,k⟩:=h
 have lx:=Paired.length cI
 have sq:(c_ s v).lookup ("size":Str)=none:=dW (by decide+kernel) (by decide+kernel)
 have aem:(c_ s v).lookup ("part":Str)=none:=dW (by decide+kernel) (by decide+kernel)
 refine bH (bG (bc (bL oC rfl (ay (ag rfl (aU ⟨a,xs,ps,rfl,ha,cI,aI,dh,hl,fun w H1 s1 hw=>aw (aE hw rfl ?_)⟩))))))
 have P1:=P.same s1
 refine je CP (dX CP) rfl (ag rfl ⟨p,dp,_,rfl,P1.ob,sq,p,dp,s,v,t,_,rfl,P1,m3 ⟨_,rfl,iF (cL ?_) (by rw[hr.over];simp)⟩⟩)
 refine aZ (aw ?_)
 refine zd (ag rfl ⟨a,rfl,⟨_,aH.of (s1 _ _ ha)⟩,mz (K:=K) (a:=a) (xs:=xs) (fun i σ H2=> ∃(x:Option V) (m1 m2 r2:List Nat),σ=[some (.ref p),some (.ref a),some (.int (m1.length:Nat)),x]∧aG H H2∧txt (ak ts) t.aj=m1++m2∧Run m2 (ps.drop i) r2)
  ⟨none,[],_,r,rfl,s1,rfl,hr⟩ (fun i σ H2 _ ⟨_,_,_,_,_,s2,_⟩=>aH.of (s2 _ _ ha)) ?_ ?_⟩)
 ·rintro i x σ H2 hi ⟨x0,m1,m2,r2,rfl,s2,em,cg⟩
  obtain⟨q,hq,ig⟩:=cI.get hi
  obtain⟨b,rfl,hb⟩:=ig.mono (bx s2)
  have bz:i<ps.length:=(List.getElem?_eq_some_iff.mp hq).1
  have ed:ps.drop i=q::ps.drop (i+1):=by rw[List.drop_eq_getElem_cons bz,(List.getElem?_eq_some_iff.mp hq).2]
  have oq:=aI q (List.mem_of_getElem? hq)
  rw[ed] at cg
  have P2:=P.same s2
  have S2:=S.same s2
  have lm:(txt (ak ts) t.aj).length=m1.length+m2.length:=by rw[em,List.length_append]
  refine bH (KY (bG (bc (ag rfl (aw (aE hb rfl (aw (dC ⟨_,rfl, ?_⟩))))))))
  cases q with
  | keep n=>
   obtain⟨c,l',r',e1,e2,e3,h'⟩:=o5 cg
   refine iF (iF (cL ?_) rfl) Lg
   refine bH (bG (bc (ag rfl (aw (aE hb rfl (aw (oG ⟨_,rfl,iT ?_ wKP⟩)))))))
   refine aZ (aK (ag rfl (bL fm rfl (ay (ag rfl (aU ⟨_, .keep n,rfl,⟨b,rfl,hb⟩,trivial,bJ ?_⟩))))))
   refine⟨some (.ref b),m1++c,l',r', ?_,s2,by rw[em,e1,List.append_assoc],h'⟩
   show[some (V.ref p),some (V.ref a),some (V.int ((m1.length:Int)+n)),some (V.ref b)]=_
   rw[List.length_append,e3];rfl
  | put z=>
   obtain⟨r',e2,h'⟩:=sr cg
   refine iF (iF (cL ?_) rfl) wPC
   refine bH (bG (bc (ag rfl (aw (aE hb rfl (aw (oG ⟨_,rfl,iF ?_ wPP⟩)))))))
   exact⟨some (.ref b),m1,m2,r',rfl,s2,em,h'⟩
  | cut z=>
   obtain⟨l',e1,h'⟩:=sv cg
   have lz:=len_list z
   have lm2:m2.length=z.length+l'.length:=by rw[e1,List.length_append,←lz]
   refine iT ?_ Lh
   refine bG (oX CP (oZ CP C) rfl (ag rfl ⟨p,dp,_,rfl,P2.ob,aem,ag rfl (aK (ag rfl (fW (bc (ag rfl (aw (aE hb rfl ⟨b9 oq.1.1,bJ ?_⟩)))))))⟩))
   refine⟨p,dp,s,dx,lt,lb,lf,v,t,ts,m1.length,m1.length+z.length,rfl,P2,S2,l1,l2,l3,l4,by omega,by omega,fun H3 s3=> ?_⟩
   have ec:so (txt (ak ts) t.aj) m1.length (m1.length+z.length)=z:=by
    apply ij
    show(((txt (ak ts) t.aj).take _).drop _).toArray.toList=_
    rw[em,e1,List.take_length_add_append,lz,List.take_left,List.drop_left]
   have iz:=s3 _ _ hb
   refine bc (ag rfl (aw (aE iz rfl (oG ⟨_,rfl,iF (cL ?_) (by rw[ec];simp[Pt.val])⟩))))
   refine bH (bG (bc (ag rfl (aw (aE iz rfl (aw (oG ⟨_,rfl,iT ?_ wCP⟩)))))))
   refine aZ (aK (ag rfl (bL fm rfl (ay (ag rfl (aU ⟨_, .cut z,rfl,⟨b,rfl,iz⟩,oq.1.1,bJ ?_⟩))))))
   refine⟨some (.ref b),m1++z.cps.toList,l',r2, ?_,s2.trans s3,by rw[em,e1,List.append_assoc],h'⟩
   show[some (V.ref p),some (V.ref a),some (V.int ((m1.length:Int)+ (z.length:Nat))),some (V.ref b)]=_
   rw[List.length_append,←lz];rfl
 ·rintro σ H2 ⟨_,_,_,_,rfl,s2,_⟩
  exact k H2 s2
theorem ze(F:Int→Int): ∀(xs:List P3) (n:Int),(cb F xs n).length+ (cf F xs n).length≤xs.length+1
 | [],n=>by simp[cb,cf]
 | p::xs,n=>by
  have ih:=ze F xs (n - p.2.1)
  by_cases z:n≤0
  ·obtain⟨e1,e2⟩:=yy F z (p::xs)
   rw[e1,e2];simp
  ·by_cases g:p.2.1≤n
   ·have e1:cb F (p::xs) n=p::cb F xs (n - p.2.1):=by obtain⟨a,b,c⟩:=p;simp only[cb];rw[if_neg z,if_pos g]
    have e2:cf F (p::xs) n=cf F xs (n - p.2.1):=by obtain⟨a,b,c⟩:=p;simp only[cf];rw[if_neg z,if_pos g]
    rw[e1,e2,List.length_cons,List.length_cons];omega
   ·have e1:(cb F (p::xs) n).length=1:=by obtain⟨a,b,c⟩:=p;simp only[cb];rw[if_neg z,if_neg g];rfl
    have e2:(cf F (p::xs) n).length=xs.length+1:=by obtain⟨a,b,c⟩:=p;simp only[cf];rw[if_neg z,if_neg g];rfl
    rw[e1,e2,List.length_cons];omega
theorem cB.ne{CP C:Addr}{H:Hp}{p dp s s' dx lt lb lf:Addr}{v:V}{t:Tr}{S:List Nat}{ts:List Str}(P:cB CP H p dp s' v t S)(St:bU C H s dx lt lb lf ts):p≠s∧p≠lt∧p≠lb∧p≠lf:=by
 refine⟨fun z=> ?_,fun z=> ?_,fun z=> ?_,fun z=> ?_⟩
 ·have e:=P.ob
  rw[z,St.ob] at e
  injection e with e
  injection e with e1 e2 e3
  have:=congrArg List.length e3
  simp[cZ,c_] at this
 ·have e:=P.ob
  rw[z,St.tx] at e;cases e
 ·have e:=P.ob
  rw[z,St.bg] at e;cases e
 ·have e:=P.ob
  rw[z,St.fd] at e;cases e
theorem cB.but{CP C:Addr}{H H':Hp}{p dp s s' dx lt lb lf:Addr}{v:V}{t:Tr}{S:List Nat}{ts:List Str}(P:cB CP H p dp s' v t S)(St:bU C H s dx lt lb lf ts)(b:dD s lt lb lf H H'):cB CP H' p dp s' v t S:=by
 obtain⟨n1,n2,n3,n4⟩:=P.ne St
 exact⟨b _ _ P.ob n1 n2 n3 n4,P.nd.mono (b.cC St),P.ok,P.pc⟩
theorem Li{ts:List Str}{z:Str}(hz:z≠""):bM (ak (ts++ [z])) (((ak ts).length:Int),(z.length:Int),(z.cps.toList.count 10:Int))∧seg (ak (ts++ [z])) (((ak ts).length:Int),(z.length:Int),(z.cps.toList.count 10:Int))=z.cps.toList:=by
 have e:seg (ak (ts++ [z])) (((ak ts).length:Int),(z.length:Int),(z.cps.toList.count 10:Int))=z.cps.toList:=by
  unfold seg
  rw[fR,jf]
  show((ak ts++z.cps.toList).drop (((ak ts).length:Nat):Int).toNat).take ((z.length:Nat):Int).toNat=_
  rw[Int.toNat_natCast,Int.toNat_natCast,List.drop_left,len_list,List.take_length]
 have l1:1≤z.length:=by
  by_cases q:z.length=0
  ·have e0:z.cps.toList=[]:=List.eq_nil_of_length_eq_zero (by rw[←len_list];exact q)
   have e1:z="":=ij (by rw[e0];rfl)
   exact absurd e1 hz
  ·omega
 refine⟨⟨by show(0:Int)≤ ((ak ts).length:Int);omega,by show(1:Int)≤ (z.length:Int);omega, ?_,by rw[e]⟩,e⟩
 rw[fR,jf,List.length_append,←len_list]
 show((ak ts).length:Int)+ (z.length:Int)≤_
 omega
def sx(C:Addr)(H:Hp)(p a s dx lt lb lf:Addr)(N:Nat)(ts:List Str)(ps:List Pt)(r:List Nat)(i:Nat)(σ:St)(H2:Hp):Prop:=
 ∃(x4 x5:Option V) (va vr:V) (ta tr:Tr) (us:List Str) (m2 r1 r2:List Nat),σ=[some (.ref p),some (.ref a),some va,some vr,x4,x5]∧dD s lt lb lf H H2∧bU C H2 s dx lt lb lf (ts++us)∧Nd H2 ta va∧Nd H2 tr vr∧ta.ok∧tr.ok∧
  (∀q∈ta.aj,bM (ak (ts++us)) q)∧(∀q∈tr.aj,bM (ak (ts++us)) q)∧txt (ak (ts++us)) ta.aj=r1∧txt (ak (ts++us)) tr.aj=m2∧r=r1++r2∧Run m2 (ps.drop i) r2∧
  ta.aj.length+tr.aj.length≤N+i∧us.length≤i∧(ak us).length≤r1.length
def o7(CP C:Addr):Sp:=fun vs H Q E=> ∃(p dp s dx lt lb lf a:Addr) (v:V) (t:Tr) (ts:List Str) (xs:List V) (ps:List Pt) (r:List Nat),vs=[.ref p, .ref a]∧cB CP H p dp s v t (ak ts)∧bU C H s dx lt lb lf ts∧t.aj.length+ps.length≤1000∧ts.length+ps.length≤10000∧(ak ts).length+r.length≤500000∧(txt (ak ts) t.aj).length≤1000000∧
 H a=some (.lst xs)∧a≠lt∧a≠lb∧a≠lf∧bZ H xs ps∧(∀p∈ps,dQ p)∧chainOk "" ps=true∧Run (txt (ak ts) t.aj) ps r∧
 ∀p' fX v' t' us H',dD s lt lb lf H H'→H p'=none→bU C H' s dx lt lb lf (ts++us)→cB CP H' p' fX s v' t' (ak (ts++us))→txt (ak (ts++us)) t'.aj=r→t'.aj.length≤t.aj.length+ps.length→us.length≤ps.length→(ak us).length≤r.length→Q (.ref p') H'
abbrev Lj(CP C:Addr):List (Str×Sp):=[("need_fit",o6 CP C),("sewn",m_),("node_put",jo C),("parted",eI C 32),("part_size",fm)]
theorem Lk:(("put":Str)==("put":Str))=true:=by decide+kernel
theorem Ll:(("keep":Str)==("put":Str))=false:=by decide+kernel
theorem Lm:(("cut":Str)==("put":Str))=false:=by decide+kernel
theorem aen:(("keep":Str)==("keep":Str))=true:=by decide+kernel
theorem Ln:(("cut":Str)==("keep":Str))=false:=by decide+kernel
theorem aeo{K:PySem.W.Frag}{CP C:Addr}{E:XK}{D:Ends}(T:fO K CP){H H2:Hp}{p dp a s dx lt lb lf:Addr}{v:V}{t:Tr}{N:Nat}{ts:List Str}{ps:List Pt}{r:List Nat}{i:Nat}{x:V}{σ:St}{q:Pt}
  (P:cB CP H p dp s v t (ak ts)) (S0:bU C H s dx lt lb lf ts) (hq:ps[i]?=some q) (oq:dQ q) (hx:ie H2 x q) (bN:N+ps.length≤1000) (bt:ts.length+ps.length≤10000) (bs:(ak ts).length+r.length≤500000)
  (I:sx C H p a s dx lt lb lf N ts ps r i σ H2)
  (hD:D.nx=sx C H p a s dx lt lb lf N ts ps r (i+1)) (hC:D.ct=sx C H p a s dx lt lb lf N ts ps r (i+1)):
  ar (aR K (Lj CP C) [] [] [] [("Paper",CP,gP CP)] (E:=E)) [.ite (.cmp .Eq (.ix (.v 4) (.c (.int 0))) (.c (.str "put"))) [.asg 2 (.call 1 [(.v 2),(.call 2 [(.fld (.v 0) "stock"),(.ix (.v 4) (.c (.int 1)))])]),
   .cont] [],
  .asg 5 (.call 3 [(.v 3),(.call 4 [(.v 4)]),(.fld (.v 0) "stock")]),
  .asg 3 (.ix (.v 5) (.c (.int 1))),
  .ite (.cmp .Eq (.ix (.v 4) (.c (.int 0))) (.c (.str "keep"))) [.asg 2 (.call 1 [(.v 2),(.ix (.v 5) (.c (.int 0)))])] []] D (σ.set 4 (some x)) H2:=by
 obtain⟨x4,x5,va,vr,ta,tr,us,m2,r1,r2,rfl,bu,S,na,nr,oa,orr,pa,pr,ea,er,jq,cg,bl,bu2,zf⟩:=I
 obtain⟨b,rfl,hb⟩:=hx
 have bz:i<ps.length:=(List.getElem?_eq_some_iff.mp hq).1
 have ed:ps.drop i=q::ps.drop (i+1):=by rw[List.drop_eq_getElem_cons bz,(List.getElem?_eq_some_iff.mp hq).2]
 rw[ed] at cg
 have P2:=P.but S0 bu
 have lr:r.length=r1.length+r2.length:=by rw[jq,List.length_append]
 have ls:(ak (ts++us)).length=(ak ts).length+ (ak us).length:=by rw[fR,List.length_append]
 have lt2:(ts++us).length=ts.length+us.length:=List.length_append
 refine bH (bG (bc (ag rfl (aw (aE hb rfl (aw (dC ⟨_,rfl, ?_⟩)))))))
 cases q with
 | put z=>
  obtain⟨r',e2,h'⟩:=sr cg
  refine iT ?_ Lk
  have lz:=len_list z
  have lr2:r2.length=z.length+r'.length:=by rw[e2,List.length_append,←lz]
  refine aZ (bL m_ rfl (ay (ag rfl (ay (bL (jo C) rfl (ay (dr (ag rfl ⟨p,CP,dp,_,_,rfl,P2.ob,T.cl,T.fP,gO,ay (bc (ag rfl (aw (aE hb rfl (aU ?_)))))⟩))))))))
  refine⟨s,dx,lt,lb,lf,ts++us,z,rfl,S,oq.1,by omega,by omega, .inr ⟨oq.2,fun v1 H3 t1 b3 S3 n1 o1 e1=>aU ?_⟩⟩
  rw[List.append_assoc] at S3
  obtain⟨pz,ez⟩:=Li (ts:=ts++us) oq.2
  rw[List.append_assoc] at pz ez
  have eg:ak (ts++ (us++ [z]))=ak (ts++us)++z.cps.toList:=by rw[←List.append_assoc,fR,jf]
  have p1: ∀q∈t1.aj,bM (ak (ts++ (us++ [z]))) q:=fun q hq=>by
   rw[e1] at hq
   rw[List.mem_singleton.mp hq];exact pz
  have tu:=b3.cC S
  refine⟨va,v1,ta,t1,ak (ts++ (us++ [z])),rfl,na.mono tu,n1,oa,o1,fun q hq=>by rw[eg];exact(pa q hq).grow.1,p1,fun _ hh=> ?_,by omega,by rw[e1];exact Nat.le_of_ble_eq_true rfl,fun v4 H4 t4 s4 n4 o4 p4 e4 l4=> ?_⟩
  ·rw[hh] at e1;cases e1
  ·have tu4:=bx s4
   show D.ct _ _
   rw[hC]
   have et1:txt (ak (ts++ (us++ [z]))) t1.aj=z.cps.toList:=by rw[e1,cA,txt_nil,List.append_nil];exact ez
   refine⟨some (.ref b),x5,v4,vr,t4,tr,us++ [z],m2,r1++z.cps.toList,r',rfl,(bu.trans b3).trans (jn s4),S3.same s4,n4,(nr.mono tu).mono tu4,o4,orr,p4,fun q hq=>by rw[eg];exact(pr q hq).grow.1, ?_, ?_, ?_,h', ?_, ?_, ?_⟩
   ·rw[e4,et1,eg,zb pa,ea]
   ·rw[eg,zb pr,er]
   ·rw[jq,e2,List.append_assoc]
   ·have:t1.aj.length=1:=by rw[e1];rfl
    omega
   ·rw[List.length_append];show us.length+1≤i+1;omega
   ·rw[fR,jf,List.length_append,List.length_append];omega
 | keep n=>
  obtain⟨c,l',r',e1,e2,e3,h'⟩:=o5 cg
  refine iF (cL ?_) Ll
  have n1:1≤n:=oq
  have hz:tr.sz=((txt (ak (ts++us)) tr.aj).length:Nat):=by rw[eT,←m9 pr]
  have lm:(txt (ak (ts++us)) tr.aj).length=c.length+l'.length:=by rw[er,e1,List.length_append]
  have hh:=Tr.fk orr (by omega)
  refine aZ (bL (eI C 32) rfl (ay (ag rfl (ay (bL fm rfl (ay (ag rfl (aU ⟨_, .keep n,rfl,⟨b,rfl,hb⟩,trivial,ay (dr (ag rfl ⟨p,CP,dp,_,_,rfl,P2.ob,T.cl,T.fP,gO,aU ?_⟩))⟩))))))))
  refine⟨vr,tr,n,s,dx,lt,lb,lf,ts++us,rfl,nr,orr,S,sk pr,by omega,by omega,by omega,by omega,fun w v1 v2 t1 t2 H3 s3 hw Lo n2 o1 o2 d1 d2=> ?_⟩
  obtain⟨c1,c2,c3,c4⟩:=si tr.aj n pr (by omega) (by rw[←eT,hz];omega)
  have cs:=ze (ends (ts++us)) tr.aj n
  rw[←d1] at c1 c3
  rw[←d2] at c2 c4
  rw[←d1,←d2] at cs
  have en:n.toNat=c.length:=by omega
  have zg:txt (ak (ts++us)) t1.aj=c:=by rw[c3,er,e1,en,List.take_left]
  have zh:txt (ak (ts++us)) t2.aj=l':=by rw[c4,er,e1,en,List.drop_left]
  have iz:=s3 _ _ hb
  have tu3:=bx s3
  refine aZ (bc (ag rfl (aw (aE hw rfl ?_))))
  refine bH (bG (bc (ag rfl (aw (aE iz rfl (aw (dC ⟨_,rfl,iT ?_ aen⟩)))))))
  refine aZ (bL m_ rfl (ay (ag rfl (ay (bc (ag rfl (aw (aE hw rfl (aU ?_)))))))))
  refine⟨va,v1,ta,t1,ak (ts++us),rfl,na.mono tu3,Lo,oa,o1,pa,c1,fun _ z=> ?_,by omega,by omega,fun v4 H4 t4 s4 n4 o4 p4 e4 l4=> ?_⟩
  ·rw[z] at zg
   have:c=[]:=by rw[←zg];rfl
   rw[this] at e3
   simp at e3;omega
  ·show D.nx _ _
   rw[hD]
   refine⟨some (.ref b),some (.ref w),v4,v2,t4,t2,us,l',r1++c,r',rfl,(bu.trans (jn s3)).trans (jn s4),(S.same s3).same s4,n4,n2.mono (bx s4),o4,o2,p4,c2, ?_,zh, ?_,h',by omega,by omega, ?_⟩
   ·rw[e4,ea,zg]
   ·rw[jq,e2,List.append_assoc]
   ·rw[List.length_append];omega
 | cut z=>
  obtain⟨l',e1,h'⟩:=sv cg
  refine iF (cL ?_) Lm
  have lz:=len_list z
  have hz:tr.sz=((txt (ak (ts++us)) tr.aj).length:Nat):=by rw[eT,←m9 pr]
  have lm:(txt (ak (ts++us)) tr.aj).length=z.length+l'.length:=by rw[er,e1,List.length_append,←lz]
  have hh:=Tr.fk orr (by omega)
  refine aZ (bL (eI C 32) rfl (ay (ag rfl (ay (bL fm rfl (ay (ag rfl (aU ⟨_, .cut z,rfl,⟨b,rfl,hb⟩,oq.1.1,ay (dr (ag rfl ⟨p,CP,dp,_,_,rfl,P2.ob,T.cl,T.fP,gO,aU ?_⟩))⟩))))))))
  refine⟨vr,tr,(z.length:Nat),s,dx,lt,lb,lf,ts++us,rfl,nr,orr,S,sk pr,by omega,by omega,by omega,by omega,fun w v1 v2 t1 t2 H3 s3 hw Lo n2 o1 o2 d1 d2=> ?_⟩
  obtain⟨c1,c2,c3,c4⟩:=si tr.aj (z.length:Nat) pr (by omega) (by rw[←eT,hz];omega)
  have cs:=ze (ends (ts++us)) tr.aj (z.length:Nat)
  rw[←d2] at c2 c4
  rw[←d1,←d2] at cs
  have zh:txt (ak (ts++us)) t2.aj=l':=by rw[c4,er,e1,Int.toNat_natCast,lz,List.drop_left]
  have iz:=s3 _ _ hb
  refine aZ (bc (ag rfl (aw (aE hw rfl ?_))))
  refine bH (bG (bc (ag rfl (aw (aE iz rfl (aw (dC ⟨_,rfl,iF (cL ?_) Ln⟩)))))))
  show D.nx _ _
  rw[hD]
  exact⟨some (.ref b),some (.ref w),va,v2,ta,t2,us,l',r1,r2,rfl,bu.trans (jn s3),S.same s3,na.mono (bx s3),n2,oa,o2,pa,c2,ea,zh,jq,h',by omega,by omega,zf⟩
theorem aeu{K:PySem.W.Frag}{CP C:Addr}(T:fO K CP)(vs:List V)(H:Hp)(Q:VK)(E:XK)(h:o7 CP C vs H Q E):
  ar (aR K (Lj CP C) [] [] [] [("Paper",CP,gP CP)] (E:=E)) xW (Dn Q) (start xV vs) H:=by
 obtain⟨p,dp,s,dx,lt,lb,lf,a,v,t,ts,xs,ps,r,rfl,P,S,l1,l2,l3,l4,ha,a1,a2,a3,cI,aI,dh,hr,k⟩:=h
 have lx:=Paired.length cI
 have a0:a≠s:=fun z=>by rw[z,S.ob] at ha;cases ha
 refine oE (bL (o6 CP C) rfl (ay (ag rfl (ay (ag rfl (aU ⟨p,dp,s,dx,lt,lb,lf,a,v,t,ts,xs,ps,r,rfl,P,S,by omega,by omega,by omega,l4,ha,cI,aI,dh,by omega,hr,fun H1 s1=> ?_⟩))))))
 have P1:=P.same s1
 have S1:=S.same s1
 refine aZ (aw (aZ (dr (ag rfl ⟨p,CP,dp,_,_,rfl,P1.ob,T.cl,T.i8,mi, ?_⟩))))
 refine zd (ag rfl ⟨a,rfl,⟨_,aH.of (s1 _ _ ha)⟩,mz (K:=K) (a:=a) (xs:=xs) (sx C H p a s dx lt lb lf t.aj.length ts ps r) ?_ ?_ ?_ ?_⟩)
 ·exact⟨none,none, .ax,v, .nil,t,[],_,[],r,rfl,jn s1,by rw[List.append_nil];exact S1,rfl,P1.nd,trivial,P.ok,fun q hq=> (by cases hq),by rw[List.append_nil];exact P.pc,rfl,by rw[List.append_nil],rfl,hr,by show 0+_≤_;omega,Nat.zero_le _,Nat.zero_le _⟩
 ·rintro i σ H2 _ ⟨_,_,_,_,_,_,_,_,_,_,_,bu,_⟩
  exact aH.of (bu _ _ ha a0 a1 a2 a3)
 ·intro i x σ H2 hi I
  obtain⟨q,hq,ig⟩:=cI.get hi
  have bu:dD s lt lb lf H H2:=by obtain⟨_,_,_,_,_,_,_,_,_,_,_,bu,_⟩:=I;exact bu
  exact aeo T P S hq (aI q (List.mem_of_getElem? hq)) (ig.mono (bu.cC S)) l1 l2 l3 I rfl rfl
 ·rintro σ H2 ⟨x4,x5,va,vr,ta,tr,us,m2,r1,r2,rfl,bu,S2,na,nr,oa,orr,pa,pr,ea,er,jq,cg,bl,bu2,zf⟩
  rw[lx,List.drop_length] at cg
  have e2:r2=[]:=by cases cg;rfl
  rw[e2,List.append_nil] at jq
  have P2:=P.but S bu
  refine cE (Le CP (gP CP) rfl (dr (ag rfl ⟨p,CP,dp,_,_,rfl,P2.ob,T.cl,T.fP,gO,ag rfl fun p' fX f1 f2 f3=> ?_⟩)))
  refine⟨p',fX,s,va,rfl,aS,fun H3 h3 hk=> ⟨rfl, ?_⟩⟩
  have s3:aG H2 H3:=fun b o e=>hk b o (by rw[aN (bW e f1),aN (bW e f2)];exact e) (bW e f1)
  have fp:H p'=none:=by
   cases hq:H p' with
   | none=>rfl
   | some o=>
    exfalso
    by_cases z1:p'=s
    ·rw[z1,S2.ob] at f1;cases f1
    ·by_cases z2:p'=lt
     ·rw[z2,S2.tx] at f1;cases f1
     ·by_cases z3:p'=lb
      ·rw[z3,S2.bg] at f1;cases f1
      ·by_cases z4:p'=lf
       ·rw[z4,S2.fd] at f1;cases f1
       ·rw[bu _ _ hq z1 z2 z3 z4] at f1;cases f1
  exact k p' fX va ta us H3 (bu.trans (jn s3)) fp (S2.same s3) ⟨h3,na.mono (bx s3),oa,pa⟩ (by rw[ea,jq]) (by omega) (by omega) (by rw[jq];exact zf)
def o8(CP C:Addr):Sp:=fun vs H Q E=> ∃(x:Str),vs=[.str x]∧good x∧
 ∀p dp s dx lt lb lf v t ts H',aG H H'→bU C H' s dx lt lb lf ts→cB CP H' p dp s v t (ak ts)→txt (ak ts) t.aj=x.cps.toList→t.aj.length≤1→ts.length≤1→(ak ts).length≤x.length→H p=none→H s=none→H lt=none→H lb=none→H lf=none→Q (.ref p) H'
theorem aev{K:PySem.W.Frag}{CP C CT:Addr}(vs:List V)(H:Hp)(Q:VK)(E:XK)(h:o8 CP C vs H Q E):
  ar (aR K [("need_text",lW CT),("node_put",jo C)] [] [] [] [("Stock",C,oJ C),("Paper",CP,gP CP)] (E:=E)) xE (Dn Q) (start xD vs) H:=by
 obtain⟨x,rfl,gx,k⟩:=h
 refine oE (bL (lW CT) rfl (ay (ag rfl (aU ⟨_,rfl, .inl ⟨x,rfl,gx, ?_⟩⟩))))
 refine aZ (ad9 C (oJ C) rfl fun s dx f1 f2 f3=> ⟨s,dx,rfl,aS,fun lt lb lf H1 S1 g1 g2 g3 hk=> ⟨rfl, ?_⟩⟩)
 have s1:aG H H1:=fun b o e=>hk b o (by rw[aN (bW e f1),aN (bW e f2)];exact e) (bW e f1)
 have fr: ∀b,upd (upd H dx (.own s)) s (.ins C dx []) b=none→H b=none:=fun b e=>by
  cases hq:H b with
  | none=>rfl
  | some o=>rw[aN (bW hq f1),aN (bW hq f2),hq] at e;cases e
 have q1:=fr lt g1
 have q2:=fr lb g2
 have q3:=fr lf g3
 have fin: ∀(H2:Hp) (v:V) (t:Tr) (ts:List Str),dD s lt lb lf H1 H2→bU C H2 s dx lt lb lf ts→Nd H2 t v→t.ok→(∀q∈t.aj,bM (ak ts) q)→txt (ak ts) t.aj=x.cps.toList→t.aj.length≤1→ts.length≤1→(ak ts).length≤x.length→
   ∀p dp,H2 p=none→H2 dp=none→dp≠p→gP CP [.ref p, .ref s,v] (upd (upd H2 dp (.own p)) p (.ins CP dp [])) (fun v H2=>v= .ax∧Q (.ref p) H2) E:=by
  intro H2 v t ts b2 S2 n2 o2 p2 e2 l2 l3 l4 p dp h1 h2 h3
  have s2:aG H H2:=fun b o e=>b2 b o (s1 _ _ e) (bW e f1) (bW e q1) (bW e q2) (bW e q3)
  refine⟨p,dp,s,v,rfl,aS,fun H3 h3 hk=> ⟨rfl, ?_⟩⟩
  have s3:aG H2 H3:=fun b o e=>hk b o (by rw[aN (bW e h1),aN (bW e h2)];exact e) (bW e h1)
  exact k p dp s dx lt lb lf v t ts H3 (s2.trans s3) (S2.same s3) ⟨h3,n2.mono (bx s3),o2,p2⟩ e2 l2 l3 l4 (s2.free h1) f1 q1 q2 q3
 refine cE (Le CP (gP CP) rfl (ag rfl (bL (jo C) rfl (ay (ag rfl (ay (ag rfl (aU ⟨s,dx,lt,lb,lf,[],x,rfl,S1,gx,Nat.zero_le _,Nat.zero_le _, ?_⟩))))))))
 by_cases hx:x=""
 ·refine .inl ⟨hx,fin H1 .ax .nil [] (jn (aG.refl _)) S1 rfl trivial (fun q hq=> (by cases hq)) (by rw[hx];rfl) (Nat.zero_le _) (Nat.zero_le _) (Nat.zero_le _)⟩
 ·obtain⟨pz,ez⟩:=Li (ts:=[]) hx
  refine .inr ⟨hx,fun v H2 t b2 S2 n2 o2 e2=>fin H2 v t [x] b2 S2 n2 o2 (fun q hq=> ?_) ?_ ?_ (Nat.le_refl _) ?_⟩
  ·rw[e2] at hq;rw[List.mem_singleton.mp hq];exact pz
  ·rw[e2,cA,txt_nil,List.append_nil];exact ez
  ·rw[e2];exact Nat.le_refl _
  ·rw[jf,len_list];exact Nat.le_refl _
theorem pick{its:List V}{j:Int}(h0:0≤j)(h1:j<its.length): ∃v∈its,dG its j=some v:=by
 have iu:j.toNat<its.length:=by omega
 refine⟨its[j.toNat],List.getElem_mem iu, ?_⟩
 have e:=iR (xs:=its) (j:=j.toNat) (v:=its[j.toNat]) (by simp[iu])
 rw[show((j.toNat:Nat):Int)=j by omega] at e
 exact e
def fY:Sp:=fun vs H Q E=> ∃c k,vs=[.int c, .int k]∧ ∀m,0≤m→Q (.int m) H
theorem aew{K:PySem.W.Frag}(vs:List V)(H:Hp)(Q:VK)(E:XK)(h:fY vs H Q E):ar (aR K [] [] (E:=E)) xZ (Dn Q) (start xY vs) H:=by
 obtain⟨c,k,rfl,q⟩:=h
 have h0: ∀z:Int,0≤z % 2147483647∧z % 2147483647<2147483647:=fun z=> ⟨Int.emod_nonneg _ (by decide),Int.emod_lt_of_pos _ (by decide)⟩
 have h1:=h0 (c*48271+7919*k+12345)
 have h2:=h0 ((c*48271+7919*k+12345) % 2147483647* ((c*48271+7919*k+12345) % 2147483647))
 have pm:(0:Int) <2147483647:=by decide
 refine⟨_,rfl, .inr ⟨by decide,by decide⟩,_,rfl, .inl ⟨by decide,by decide⟩,pm, ?_⟩
 refine⟨_,rfl,_,rfl, .inl ⟨by omega,by omega⟩,pm,_,rfl, .inl ⟨by omega,by omega⟩,pm, ?_⟩
 exact q _ (Int.emod_nonneg _ (by decide))
def A4:Str:="abcdefghijklmnopqrstuvwxyz{|}~"
def A5:Str:="ab"
theorem Lp:rK (A1++A4):=Ku (by decide+kernel)
theorem Lq:(A1++A4).length=94:=by decide+kernel
theorem al5:rK A5:=Ku (by decide+kernel)
theorem aey:A1.length+A4.length≤sizeLine:=by decide+kernel
theorem aez:rM "\n":=⟨rfl,fun c hc=>by
 have:((Str.ofString "\n").cps.toList.all fun c=>SG.cps.contains c)=true:=by decide+kernel
 exact List.all_eq_true.mp this c hc⟩
theorem zj{K:PySem.W.Frag}{sd:Addr→List (Key×V)→Prop}{H:Hp}{Q:VK}{al:Str}{j:Int}(ho:rK al)(h0:0≤j)(h1:j<al.length)(q: ∀t,rM t→Q (.str t) H):iW K sd (.str al) (.int j) H Q:=by
 have iu:j.toNat<al.cps.toList.length:=by rw[←len_list];omega
 refine .inr (.inr (.inl ⟨al,j,al.cps.toList[j.toNat],rfl,rfl,b9 (by have:=ho.2.1;omega), ?_,q _ ⟨rfl,fun c hc=> ?_⟩⟩))
 ·have e:=iR (xs:=al.cps.toList) (j:=j.toNat) (v:=al.cps.toList[j.toNat]) (by simp[iu])
  rw[show((j.toNat:Nat):Int)=j by omega] at e
  exact e
 ·have:c=al.cps.toList[j.toNat]:=by simpa using hc
  rw[this];exact ho.2.2 _ (List.getElem_mem iu)
theorem aeA{x t:Str}(hx:good x)(ht:rM t)(hl:x.length≤1000):good (x++t):=by
 refine⟨by rw[Kv,ht.1];omega,fun c hc=> ?_⟩
 rw[app_list] at hc
 rcases List.mem_append.mp hc with h | h
 ·exact hx.2 c h
 ·exact ht.2 c h
theorem aeB:good "":=⟨by decide,fun c hc=>by
 have:((Str.ofString "").cps.toList.all fun c=>SG.cps.contains c)=true:=by decide+kernel
 exact List.all_eq_true.mp this c hc⟩
def iA:Sp:=fun vs H Q E=> ∃c n,vs=[.int c, .int n]∧0≤n∧n≤1000∧ ∀x H',good x→x.length=n.toNat→aG H H'→Q (.str x) H'
theorem aeC{K:PySem.W.Frag}(vs:List V)(H:Hp)(Q:VK)(E:XK)(h:iA vs H Q E):ar (aR K [("_law_mixed",fY)] [] (E:=E)) x6 (Dn Q) (start x3 vs) H:=by
 obtain⟨c,n,rfl,zk,d9,k⟩:=h
 refine aZ (aw ?_)
 refine aZ (aK (ag rfl (aw ⟨aey, ?_⟩)))
 refine aZ (aw ?_)
 refine⟨_,rfl,n,rfl,by omega,by omega,pX (lo:=0) (n:=n.toNat) (fun i σ H2=> ∃(x:Str) (u4 u5:Option V),σ=[some (.int c),some (.int n),some (.str (A1++A4)),some (.str x),u4,u5]∧aG H H2∧good x∧x.length=i) ⟨_,none,none,rfl,aG.refl _,aeB,rfl⟩ ?_ ?_⟩
 ·rintro i σ H2 hi ⟨x,u4,u5,rfl,s2,hx,oN⟩
  refine aZ (bL fY rfl (ay (ag rfl (ay (ag rfl (aU ⟨_,_,rfl,fun m hm=> ?_⟩))))))
  have m2:0≤m / 8 % 2∧m / 8 % 2<2:=⟨Int.emod_nonneg _ (by decide),Int.emod_lt_of_pos _ (by decide)⟩
  have sy:0≤m / 8 % 94∧m / 8 % 94<94:=⟨Int.emod_nonneg _ (by decide),Int.emod_lt_of_pos _ (by decide)⟩
  have c8:uE m 8:=⟨by decide,by decide⟩
  refine aZ (aK (ag rfl (bc (jd (ay (aw (ay (bc (aw (aK (aK (ag rfl (aw ⟨c8,aw ⟨(by show(0:Int) <2;decide), ?_⟩⟩)))))))))))))
  refine zj al5 m2.1 m2.2 fun t1 o1=> ?_
  refine ay (bc (ag rfl (aK (aK (ag rfl (aw ⟨c8,aw ⟨(by show(0:Int) <94;decide), ?_⟩⟩))))))
  refine zj Lp sy.1 (by rw[Lq];exact sy.2) fun t2 o2=> ?_
  refine ay (bc (ag rfl (aK (aK (ag rfl (aw ⟨c8,aw ⟨(by show(0:Int) <94;decide), ?_⟩⟩))))))
  refine zj Lp sy.1 (by rw[Lq];exact sy.2) fun t3 o3=> ?_
  refine aU ⟨(by show 4≤sizeLine;decide),fun l hl=> ?_⟩
  have s3:=sameNew (o:= .lst [V.str "\n",V.str t1,V.str t2,V.str t3]) hl
  obtain⟨v,hv,zm⟩:=pick (its:=[V.str "\n",V.str t1,V.str t2,V.str t3]) (j:=m % 4) (Int.emod_nonneg _ (by decide)) (Int.emod_lt_of_pos _ (by decide))
  have uF: ∃t,v= .str t∧rM t:=by
   simp only[List.mem_cons,List.not_mem_nil,or_false] at hv
   rcases hv with rfl | rfl | rfl | rfl
   ·exact⟨_,rfl,aez⟩
   ·exact⟨_,rfl,o1⟩
   ·exact⟨_,rfl,o2⟩
   ·exact⟨_,rfl,o3⟩
  obtain⟨t,rfl,ot⟩:=uF
  refine aK (ag rfl (aw ⟨(by show(0:Int) <4;decide), .inl ⟨l,_,_,_,rfl,rfl,aH.of aS,zm, ?_⟩⟩))
  refine⟨b9 (by rw[ot.1];omega), ?_⟩
  exact⟨_,_,_,rfl,s2.trans s3,aeA hx ot (by omega),by rw[Kv,ot.1,oN]⟩
 ·rintro σ H2 ⟨x,u4,u5,rfl,s2,hx,oN⟩
  exact cE (ag rfl (k x H2 hx oN s2))
theorem aeD{K:PySem.W.Frag}(vs:List V)(H:Hp)(Q:VK)(E:XK)(h:oF vs H Q E):ar (aR K [] [] (E:=E)) ya (Dn Q) (start x_ vs) H:=by
 obtain⟨x,a,xs,ps,r,rfl,hx,ha,cI,aI,hr,gL,q⟩:=h
 have hlen:=Paired.length cI
 refine⟨_,rfl,a,rfl,⟨_,aH.of ha⟩,mz (K:=K) (a:=a) (xs:=xs) (fun i σ H2=> ∃l1 l2 q1 q2 w v,σ=[some (.str x),some (.ref a),some (.str ⟨q1.toArray⟩),some (.int ((l1.length:Nat):Int)),w,v]∧H2=H∧
   x.cps.toList=l1++l2∧r=q1++q2∧Run l2 (ps.drop i) q2)
  ⟨[],x.cps.toList,[],r,none,none,rfl,rfl,rfl,rfl,hr⟩ (fun i σ H2 _ ⟨_,_,_,_,_,_,_,e,_⟩=>e ▸ aH.of ha) ?_ ?_⟩
 ·rintro i y σ H2 hi ⟨l1,l2,q1,q2,w,v,rfl,rfl,e1,e2,cg⟩
  obtain⟨pt,mh,b,rfl,hb⟩:=cI.get hi
  have iY:i<ps.length:=(List.getElem?_eq_some_iff.mp mh).1
  have ed:ps.drop i=pt::ps.drop (i+1):=by
   rw[List.drop_eq_getElem_cons iY]
   congr 1
   exact Option.some.inj ((List.getElem?_eq_getElem iY).symm.trans mh)
  rw[ed] at cg
  obtain⟨la,lb,qa,qb,rfl,rfl,zo,one⟩:=acE cg
  have hpo:=aI pt (List.mem_of_getElem? mh)
  have lY:q1.length+qa.length≤1000000:=by rw[e2] at gL;simp at gL;omega
  refine⟨b,_,rfl, .inl (a_.of hb),rfl,_,_,rfl,_,_,rfl,rfl, ?_⟩
  cases pt with
  | put s=>
   obtain⟨rfl,rfl⟩:=one
   refine⟨_,rfl,_,rfl,_,rfl,_,rfl,b9 (by rw[len_list,len_list];exact lY), ?_⟩
   refine⟨l1,lb,q1++s.cps.toList,qb,some (.str "put"),some (.str s), ?_,rfl,e1,by rw[e2];simp,zo⟩
   show[_,_,some (V.str (⟨q1.toArray⟩++s)),_,_,_]=_
   rw[show(⟨q1.toArray⟩++s:Str)=⟨(q1++s.cps.toList).toArray⟩ from ij (by rw[app_list])]
   rfl
  | cut s=>
   obtain⟨rfl,rfl⟩:=one
   refine⟨_,rfl,_,rfl,_,rfl,_,rfl,_,rfl,_,rfl,b9 hpo, ?_⟩
   refine⟨l1++s.cps.toList,lb,q1,qb,some (.str "cut"),some (.str s), ?_,rfl,by rw[e1];simp,e2,zo⟩
   show[_,_,_,some (V.int ((l1.length:Int)+ (s.length:Int))),_,_]=_
   rw[List.length_append,←len_list,Int.natCast_add]
   rfl
  | keep n=>
   obtain⟨rfl,hn⟩:=one
   refine⟨_,rfl,_,rfl,_,rfl,_,rfl, ?_⟩
   refine⟨_,rfl,_,rfl,_,rfl,_,rfl,_,rfl,_,rfl,_,rfl,b9 hx.1, ?_⟩
   rw[KD e1 n hn]
   refine⟨b9 (by rw[len_list,len_list];exact lY), ?_⟩
   refine⟨_,rfl,_,rfl, ?_⟩
   refine⟨l1++la,lb,q1++la,qb,some (.str "keep"),some (.int n), ?_,rfl,by rw[e1];simp,by rw[e2];simp,zo⟩
   show[_,_,some (V.str (⟨q1.toArray⟩++ ⟨la.toArray⟩)),some (V.int ((l1.length:Int)+n)),_,_]=_
   rw[show(⟨q1.toArray⟩++ ⟨la.toArray⟩:Str)=⟨(q1++la).toArray⟩ from ij (by rw[app_list]),List.length_append,hn,Int.natCast_add]
   rfl
 ·rintro σ H2 ⟨l1,l2,q1,q2,w,v,rfl,rfl,e1,e2,cg⟩
  rw[hlen,List.drop_length] at cg
  cases cg
  rw[List.append_nil] at e2
  subst e2
  exact⟨_,rfl,q⟩
theorem Lr{α β:Type}{R:α→β→Prop}: ∀{ps:List β} {p:β} {xs:List α},Paired R xs (ps++ [p])→ ∃sA x,xs=sA++ [x]∧Paired R sA ps∧R x p
 | [],p,_, .cons h .nil=> ⟨[],_,rfl, .nil,h⟩
 | q::ps,p,_, .cons h r=>by
  obtain⟨sA,x,e,a,b⟩:=Lr (ps:=ps) r
  exact⟨_::sA,x,by rw[e];rfl, .cons h a,b⟩
section
variable {Γ:aF} {D:Ends} {σ:St} {H:Hp} {r:List RS} {Q:VK}
theorem zp{i:Int}(h:Q (.int (-i)) H):ah Γ (.neg (.c (.int i))) σ H Q:=h
theorem aeF{o ix e:RE}(h:ah Γ e σ H fun v H1=>ah Γ o σ H1 fun x H2=>ah Γ ix σ H2 fun y H3=>uQ x y v H3 fun H4=>ar Γ r D σ H4):ar Γ (.set o ix e::r) D σ H:=h
theorem aeG{body:List RS}{is:List Nat}{x:RE}(h:ah Γ x σ H fun v H1=> ∃a,v= .ref a∧(∃xs,aH Γ.K H1 a xs)∧ ∃W:Nat→Nat→St→Hp→Prop,(∃m,W 0 m σ H1)∧ ∀j m σ H,W j m σ H→
  ((dw Γ.K a).stop j H∧({D with nx:=ar Γ r D}:Ends).nx σ H)∨((dw Γ.K a).go j H∧ ∃N:St→Hp→Prop,(∀σ' H',N σ' H'→ ∃m',m'<m∧W (j+1) m' σ' H')∧ ∀x H',(dw Γ.K a).eK j H x H'→mK Γ.K is.length (jS is) x σ H' fun σ2 H2=>ar Γ body {({D with nx:=ar Γ r D}:Ends) with nx:=N,ct:=N,bk:=({D with nx:=ar Γ r D}:Ends).nx} σ2 H2)):
  ar Γ (.mG is .list [x] body::r) D σ H:=oW (x:=x) _ _ (fun _ _=>Iff.rfl) h
end
theorem aeH{K:PySem.W.Frag}{H:Hp}{a b:Addr}{xs:List V}{ps:List Pt}{Q:VK}(ha:H a=some (.lst xs))(hb:H b=some (.lst []))(hx:bZ H xs ps)(ho: ∀p∈ps,eh p)(q:Q (.bl (decide (ps≠ []))) H):
  cn K .NotEq (.ref a) (.ref b) H Q:=by
 refine⟨.list (ps.map toD), .list [],⟨a,xs,rfl,ha,Kz hx⟩,⟨b,[],rfl,hb,rfl⟩,acC ho,(by decide), ?_⟩
 have e:(true ^^ PyData.eqv (.list (ps.map toD)) (.list []))=decide (ps≠ []):=by
  cases ps with
  | nil=>rfl
  | cons p r=>rfl
 rw[e];exact q
theorem Ls{Γ:aF}{σ:St}{H:Hp}{Q:VK}{i:Nat}{x w:Str}(mk:Str→Pt)(hw:(mk x).word=w)(hv:(mk x).val= .str x)(hσ:σ[i]?=some (some (.str x)))
  (k: ∀b H' ys,aG H H'→H b=none→H' b=some (.lst ys)→bZ H' ys (B.txt mk x)→Q (.ref b) H'):
  ah Γ (.bin .Mult (.lst [(.tup [(.c (.str w)),(.v i)])]) (.blt .int [(.cmp .NotEq (.v i) (.c (.str "")))])) σ H Q:=by
 refine aK (jd (ay (ip (ay (aw (ay (ag hσ (aU ⟨(by show 2≤sizeLine;decide),fun t ft=>aU ⟨(by show 1≤sizeLine;decide),fun l fl=> ?_⟩⟩))))))))
 have s1:=sameNew (o:= .tup [.str w, .str x]) ft
 have s2:=sameNew (o:= .lst [V.ref t]) fl
 refine yM (ay (rT (ag hσ (aw (oG (aU ?_))))))
 show vm (.ref l) (.int (if (x !=("":Str))=true then 1 else 0)) _ Q
 by_cases hx:x=""
 ·have e:(x !=("":Str))=false:=by rw[hx];decide
  rw[e]
  refine⟨l,0,[.ref t],rfl,rfl,aS,by decide,by decide,Nat.le_of_ble_eq_true rfl,fun p fp=> ?_⟩
  exact k p _ _ ((s1.trans s2).trans (sameNew fp)) ((s1.trans s2).free fp) aS (by rw[hx,B.txt_nil];exact .nil)
 ·have e:(x !=("":Str))=true:=by simp[hx]
  rw[e]
  refine⟨l,1,[.ref t],rfl,rfl,aS,by decide,by decide,Nat.le_of_ble_eq_true rfl,fun p fp=> ?_⟩
  refine k p _ [.ref t] ((s1.trans s2).trans (sameNew fp)) ((s1.trans s2).free fp) aS ?_
  rw[B.cA hx]
  exact .cons ⟨t,rfl,by rw[hw,hv];exact(s2.trans (sameNew fp)) _ _ aS⟩ .nil
theorem aeI(n:Nat):fJ (n+1) (-1)=some n:=by
 unfold fJ
 have: ¬(0:Int)≤ -1:=by decide
 rw[if_neg this,if_pos (by omega)]
 congr 1
 omega
theorem zq:(("keep":Str)==("keep":Str))=true:=by decide+kernel
theorem aeJ:(("put":Str)==("keep":Str))=false:=by decide+kernel
theorem aeK{Γ:aF}{D:Ends}{w:Option V}{f:Addr}{P C:V}{n:Int}{H:Hp}{ys:List V}{F:List Pt}(hf:H f=some (.lst ys))(pv:bZ H ys F)(ho: ∀p∈F,eh p)(hl:F.length≤900000)
  (k: ∀H' eG,cO f H H'→H' f=some (.lst eG)→bZ H' eG (fo F n)→D.nx [w,some (.ref f),some P,some C,some (.str "keep"),some (.int n)] H'):
  ar Γ [.ite (.and [(.cmp .Eq (.v 4) (.c (.str "keep"))),(.cmp .NotEq (.v 1) (.lst [])),(.cmp .Eq (.ix (.ix (.v 1) (.neg (.c (.int 1)))) (.c (.int 0))) (.c (.str "keep")))]) [.set (.v 1) (.neg (.c (.int 1))) (.tup [(.c (.str "keep")),(.bin .Add (.ix (.ix (.v 1) (.neg (.c (.int 1)))) (.c (.int 1))) (.v 5))])] [.ite (.cmp .Eq (.v 4) (.c (.str "keep"))) [.drop (.b6 .append (.v 1) [(.tup [(.c (.str "keep")),(.v 5)])])] []]]
   D [w,some (.ref f),some P,some C,some (.str "keep"),some (.int n)] H:=by
 have lf:=Paired.length pv
 have app: ∀H1,aG H H1→fo F n=F++ [.keep n]→ar Γ [.ite (.cmp .Eq (.v 4) (.c (.str "keep"))) [.drop (.b6 .append (.v 1) [(.tup [(.c (.str "keep")),(.v 5)])])] []] {D with nx:=ar Γ [] D} [w,some (.ref f),some P,some C,some (.str "keep"),some (.int n)] H1:=by
  intro H1 s1 e
  refine bH (bG (ag rfl (aw (dC ⟨_,rfl,iT ?_ zq⟩))))
  refine oE (mY (ag rfl ⟨.inl ⟨rfl,_,aH.of (s1 _ _ hf)⟩,ip (ay (aw (ay (ag rfl (aU ⟨(by show 2≤sizeLine;decide),fun t ft=> ⟨ys,(sameNew ft) _ _ (s1 _ _ hf),jc (by omega), ?_⟩⟩)))))⟩))
  have s2:=s1.trans (sameNew (o:= .tup [.str "keep", .int n]) ft)
  have bb:cO f H (upd (upd H1 t (.tup [.str "keep", .int n])) f (.lst (ys++ [V.ref t]))):=fun b o e ne=>by rw[aN ne];exact s2 _ _ e
  have nt:t≠f:=fun z=>by rw[z,s1 _ _ hf] at ft;cases ft
  refine k _ _ bb aS ?_
  rw[e]
  exact B.Paired.app (pv.mono (bb.cC hf)) (.cons ⟨t,rfl,by rw[aN nt,aS];rfl⟩ .nil)
 refine bH (yU (bG (ag rfl (aw (dC ⟨_,rfl,iT ?_ zq⟩)))))
 refine yU (bG (ag rfl (jd (aU ⟨Nat.zero_le _,fun e fe=> ?_⟩))))
 have s1:=sameNew (o:= .lst []) fe
 refine aeH (s1 _ _ hf) aS (pv.mono (bx s1)) ho ⟨_,rfl, ?_⟩
 rcases List.eq_nil_or_concat F with hF | ⟨F',p,hF⟩
 ·refine iF (iF (app _ s1 (by rw[hF];rfl)) rfl) (by rw[hF];rfl)
 ·rw[List.concat_eq_append] at hF
  refine iT ?_ (by rw[hF];simp)
  have Lu:=pv
  rw[hF] at Lu
  obtain⟨o9,x,ey,p0,⟨b,ex,hb⟩⟩:=Lr Lu
  have o_:=s1 _ _ hf
  rw[ey,ex] at o_
  have mX:=s1 _ _ hb
  refine ac7 (bG (bc (bc (ag rfl (zp (lS o_ (FX _ _) (aw (aE mX rfl (aw (dC ⟨_,rfl, ?_⟩))))))))))
  cases p with
  | keep m=>
   refine iT ?_ zq
   refine aeF (ip (ay (aw (ay (aK (bc (bc (ag rfl (zp (lS o_ (FX _ _) (aw (aE mX rfl (ag rfl (bJ (aU ⟨(by show 2≤sizeLine;decide),fun t ft=> ?_⟩)))))))))))))))
   have s2:=s1.trans (sameNew (o:= .tup [.str "keep", .int (m+n)]) ft)
   have hf2:=(sameNew (o:= .tup [.str "keep", .int (m+n)]) ft) _ _ o_
   refine ag rfl (zp ⟨f,_, -1,o9.length,rfl,rfl,hf2,by rw[List.length_append];exact aeI _, ?_⟩)
   have es:(o9++ [V.ref b]).set o9.length (.ref t)=o9++ [.ref t]:=by rw[List.set_append_right _ _ (Nat.le_refl _),Nat.sub_self];rfl
   rw[es]
   have bb:cO f H (upd (upd (upd H e (.lst [])) t (.tup [.str "keep", .int (m+n)])) f (.lst (o9++ [V.ref t]))):=fun b o e ne=>by rw[aN ne];exact s2 _ _ e
   have nt:t≠f:=fun z=>by rw[z,o_] at ft;cases ft
   refine k _ _ bb aS ?_
   rw[hF,yI]
   exact B.Paired.app (bZ.mono (bb.cC hf) p0) (.cons ⟨t,rfl,by rw[aN nt,aS,Int.add_comm];rfl⟩ .nil)
  | put z=>exact iF (app _ s1 (by rw[hF];exact rN fun q hq=>by rw[List.getLast?_concat] at hq;cases hq;rfl)) aeJ
  | cut z=>exact iF (app _ s1 (by rw[hF];exact rN fun q hq=>by rw[List.getLast?_concat] at hq;cases hq;rfl)) Ln
def fA(a:Str):List Pt→Str
 | []=>a
 | p::r=>fA p.word r
theorem nh: ∀(F:List Pt) (a:Str) (G:List Pt),chainOk a (F++G)=(chainOk a F && chainOk (fA a F) G)
 | [],a,G=>by simp[chainOk,fA]
 | p::F,a,G=>by
  show(ef p.word a && chainOk p.word (F++G))=_
  rw[nh F p.word G,←Bool.and_assoc];rfl
theorem pb: ∀(F:List Pt) (a:Str) (G:List Pt),fA a (F++G)=fA (fA a F) G
 | [],a,G=>rfl
 | p::F,a,G=>pb F p.word G
structure Lv (F:List Pt):Prop where
 ok: ∀p∈F,dQ p
 ch:chainOk "" F=true
 la:fA "" F=""∨fA "" F="keep"
def tl(P C:Str):List Pt:=B.txt .put P++B.txt .cut C
theorem Lw{w P C:Str}(h:w=""∨w="keep"):chainOk w (tl P C)=true:=by
 unfold tl
 by_cases hp:P="" <;>by_cases hc:C=""
 ·rw[hp,hc,B.txt_nil,B.txt_nil];rfl
 ·rw[hp,B.txt_nil,B.cA hc]
  rcases h with rfl | rfl
  ·show(ef "cut" "" && true)=true;decide+kernel
  ·show(ef "cut" "keep" && true)=true;decide+kernel
 ·rw[hc,B.txt_nil,B.cA hp]
  rcases h with rfl | rfl
  ·show(ef "put" "" && true)=true;decide+kernel
  ·show(ef "put" "keep" && true)=true;decide+kernel
 ·rw[B.cA hp,B.cA hc]
  rcases h with rfl | rfl
  ·show(ef "put" "" && (ef "cut" "put" && true))=true;decide+kernel
  ·show(ef "put" "keep" && (ef "cut" "put" && true))=true;decide+kernel
theorem Lx(P C:Str):(tl P C).length≤2:=by
 unfold tl B.txt
 by_cases hp:P="" <;>by_cases hc:C="" <;>simp[hp,hc]
theorem Ly{P C:Str}(hp:good P)(hc:good C): ∀q∈tl P C,dQ q:=by
 intro q hq
 unfold tl B.txt at hq
 rcases List.mem_append.mp hq with h | h
 ·by_cases z:P=""
  ·rw[if_pos z] at h;cases h
  ·rw[if_neg z] at h;rw[List.mem_singleton.mp h];exact⟨hp,z⟩
 ·by_cases z:C=""
  ·rw[if_pos z] at h;cases h
  ·rw[if_neg z] at h;rw[List.mem_singleton.mp h];exact⟨hc,z⟩
theorem Lz{l r:List Nat}{F:List Pt}{P C:Str}(h:Run l F r):Run (l++C.cps.toList) (F++tl P C) (r++P.cps.toList):=by
 have:=h.app (KC (s:=P) |>.app (acD (s:=C)))
 rw[List.nil_append,List.append_nil] at this
 exact this
theorem sD: ∀{F G:List Pt} {l r:List Nat},Run l (F++G) r→ ∃l1 l2 r1 r2,l=l1++l2∧r=r1++r2∧Run l1 F r1∧Run l2 G r2
 | [],G,l,r,h=> ⟨[],l,[],r,rfl,rfl, .nil,h⟩
 | .keep n::F,G,l,r,h=>by
  obtain⟨a,l',r',rfl,rfl,e,h'⟩:=o5 h
  obtain⟨l1,l2,r1,r2,rfl,rfl,h1,h2⟩:=sD (F:=F) h'
  exact⟨a++l1,l2,a++r1,r2,by simp,by simp, .keep e h1,h2⟩
 | .put s::F,G,l,r,h=>by
  obtain⟨r',rfl,h'⟩:=sr h
  obtain⟨l1,l2,r1,r2,rfl,rfl,h1,h2⟩:=sD (F:=F) h'
  exact⟨l1,l2,s.cps.toList++r1,r2,rfl,by simp, .put h1,h2⟩
 | .cut s::F,G,l,r,h=>by
  obtain⟨l',rfl,h'⟩:=sv h
  obtain⟨l1,l2,r1,r2,rfl,rfl,h1,h2⟩:=sD (F:=F) h'
  exact⟨s.cps.toList++l1,l2,r1,r2,by simp,rfl, .cut h1,h2⟩
theorem LA{l r:List Nat}(h:Run l [] r):l=[]∧r=[]:=by cases h;exact⟨rfl,rfl⟩
theorem sE{c:List Nat}{n:Int}(h:n=c.length):Run c [.keep n] c:=by
 have:=Run.keep (a:=c) h Run.nil
 rw[List.append_nil] at this;exact this
theorem LB(F:List Pt):(∃F' m,F=F'++ [.keep m])∨((fA "" F=""∨fA "" F="put"∨fA "" F="cut")∧ ∀n,fo F n=F++ [.keep n]):=by
 rcases List.eq_nil_or_concat F with rfl | ⟨F',p,hF⟩
 ·exact .inr ⟨.inl rfl,fun n=>rfl⟩
 ·rw[List.concat_eq_append] at hF
  subst hF
  cases p with
  | keep m=>exact .inl ⟨F',m,rfl⟩
  | put z=>exact .inr ⟨.inr (.inl (by rw[pb];rfl)),fun n=>rN fun q hq=>by rw[List.getLast?_concat] at hq;cases hq;rfl⟩
  | cut z=>exact .inr ⟨.inr (.inr (by rw[pb];rfl)),fun n=>rN fun q hq=>by rw[List.getLast?_concat] at hq;cases hq;rfl⟩
theorem aeM{F:List Pt}{l r c:List Nat}{n:Int}(h:Run l F r)(hn:n=c.length):Run (l++c) (fo F n) (r++c):=by
 rcases LB F with⟨F',m,rfl⟩ | ⟨_,e⟩
 ·rw[yI]
  obtain⟨l1,l2,r1,r2,rfl,rfl,h1,h2⟩:=sD h
  obtain⟨a,l',r',rfl,rfl,e,h'⟩:=o5 h2
  obtain⟨rfl,rfl⟩:=LA h'
  rw[List.append_nil,List.append_assoc,List.append_assoc]
  exact h1.app (sE (by rw[List.length_append,e,hn];omega))
 ·rw[e];exact h.app (sE hn)
theorem aeN{F:List Pt}{n:Int}(h: ∀p∈F,dQ p)(hc:chainOk "" F=true)(hn:1≤n):Lv (fo F n):=by
 rcases LB F with⟨F',m,rfl⟩ | ⟨hw,e⟩
 ·rw[yI]
  rw[nh] at hc
  have hm:1≤m:=h (.keep m) (by simp)
  refine⟨fun p hp=> ?_, ?_, .inr (by rw[pb];rfl)⟩
  ·rcases List.mem_append.mp hp with q | q
   ·exact h p (by simp[q])
   ·rw[List.mem_singleton.mp q];show 1≤n+m;omega
  ·rw[nh];exact hc
 ·rw[e]
  refine⟨fun p hp=> ?_, ?_, .inr (by rw[pb];rfl)⟩
  ·rcases List.mem_append.mp hp with q | q
   ·exact h p q
   ·rw[List.mem_singleton.mp q];exact hn
  ·rw[nh,hc]
   show(true && (ef "keep" (fA "" F) && true))=true
   rcases hw with z | z | z<;>rw[z] <;>decide+kernel
theorem LC{p:Pt}(h:dQ p):eh p:=by
 cases p with
 | keep n=>trivial
 | put s=>exact h.1.2
 | cut s=>exact h.1.2
theorem LD{Γ:aF}{D:Ends}{w wd va:Option V}{f:Addr}{P C:Str}{H:Hp}{ys:List V}{F:List Pt}{rest:List RS}(hf:H f=some (.lst ys))(pv:bZ H ys F)(hl:F.length≤900000)
  (k: ∀f' H' eG,aG H H'→H f'=none→H' f'=some (.lst eG)→bZ H' eG (F++tl P C)→ar Γ rest D [w,some (.ref f'),some (.str ""),some (.str ""),wd,va] H'):
  ar Γ (.asg 1 (.bin .Add (.bin .Add (.v 1) (.bin .Mult (.lst [(.tup [(.c (.str "put")),(.v 2)])]) (.blt .int [(.cmp .NotEq (.v 2) (.c (.str "")))]))) (.bin .Mult (.lst [(.tup [(.c (.str "cut")),(.v 3)])]) (.blt .int [(.cmp .NotEq (.v 3) (.c (.str "")))])))::
   .asg 2 (.c (.str "")):: .asg 3 (.c (.str ""))::rest) D [w,some (.ref f),some (.str P),some (.str C),wd,va] H:=by
 have lf:=Paired.length pv
 refine aZ (aK (aK (ag rfl (Ls .put rfl rfl rfl fun b1 H1 y1 s1 n1 h1 p1=> ?_))))
 have l1:=Paired.length p1
 have g1:(B.txt .put P).length≤1:=by unfold B.txt;by_cases z:P="" <;>simp[z]
 refine .inl ⟨f,b1,ys,y1,rfl,rfl,s1 _ _ hf,h1,b9 (by omega),fun b2 n2=> ?_⟩
 have s2:=sameNew (o:= .lst (ys++y1)) n2
 refine Ls .cut rfl rfl rfl fun b3 H3 y3 s3 n3 h3 p3=> ?_
 have l3:=Paired.length p3
 have g3:(B.txt .cut C).length≤1:=by unfold B.txt;by_cases z:C="" <;>simp[z]
 refine .inl ⟨b2,b3,ys++y1,y3,rfl,rfl,s3 _ _ aS,h3,b9 (by rw[List.length_append];omega),fun b4 n4=> ?_⟩
 have s4:=sameNew (o:= .lst (ys++y1++y3)) n4
 have sG:=s1.trans (s2.trans (s3.trans s4))
 refine aZ (aw (aZ (aw ?_)))
 refine k b4 _ (ys++y1++y3) sG ((s1.trans (s2.trans s3)).free n4) aS ?_
 unfold tl
 rw[←List.append_assoc]
 exact B.Paired.app (B.Paired.app (pv.mono (bx sG)) (bZ.mono (bx (s2.trans (s3.trans s4))) p1)) (bZ.mono (bx s4) p3)
def zr:List RS:=[.ite (.cmp .Eq (.v 4) (.c (.str "put"))) [.asg 2 (.bin .Add (.v 2) (.v 5))] [.ite (.cmp .Eq (.v 4) (.c (.str "cut"))) [.asg 3 (.bin .Add (.v 3) (.v 5))] [.ite (.or [(.cmp .Eq (.v 4) (.c (.str "end"))),(.cmp .Gt (.v 5) (.c (.int 0)))]) [.asg 1 (.bin .Add (.bin .Add (.v 1) (.bin .Mult (.lst [(.tup [(.c (.str "put")),(.v 2)])]) (.blt .int [(.cmp .NotEq (.v 2) (.c (.str "")))]))) (.bin .Mult (.lst [(.tup [(.c (.str "cut")),(.v 3)])]) (.blt .int [(.cmp .NotEq (.v 3) (.c (.str "")))]))), .asg 2 (.c (.str "")), .asg 3 (.c (.str "")), .ite (.and [(.cmp .Eq (.v 4) (.c (.str "keep"))),(.cmp .NotEq (.v 1) (.lst [])),(.cmp .Eq (.ix (.ix (.v 1) (.neg (.c (.int 1)))) (.c (.int 0))) (.c (.str "keep")))]) [.set (.v 1) (.neg (.c (.int 1))) (.tup [(.c (.str "keep")),(.bin .Add (.ix (.ix (.v 1) (.neg (.c (.int 1)))) (.c (.int 1))) (.v 5))])] [.ite (.cmp .Eq (.v 4) (.c (.str "keep"))) [.drop (.b6 .append (.v 1) [(.tup [(.c (.str "keep")),(.v 5)])])] []]] []]]]
structure NX (H:Hp) (a w2 e f:Addr) (xs ys:List V) (F:List Pt) (H2:Hp):Prop where
 sm:aG H H2
 fr:H f=none
 it:H2 w2=some (.lst (xs++ [.ref e]))
 en:H2 e=some (.tup [.str "end", .int 0])
 ne:f≠w2
 li:H2 f=some (.lst ys)
 pv:bZ H2 ys F
def NI(H:Hp)(a w2 e:Addr)(xs:List V)(l r:List Nat)(ps:List Pt)(i:Nat)(σ:St)(H2:Hp):Prop:=
 ∃(f:Addr) (ys:List V) (F:List Pt) (P C:Str) (u4 u5:Option V) (l0 r0 l2 r2:List Nat),σ=[some (.ref a),some (.ref f),some (.str P),some (.str C),u4,u5]∧NX H a w2 e f xs ys F H2∧Lv F∧Run l0 F r0∧sg P∧sg C∧
  l=l0++ (C.cps.toList++l2)∧r=r0++ (P.cps.toList++r2)∧Run l2 (ps.drop i) r2∧F.length≤3*i
def NF(H:Hp)(a w2 e:Addr)(xs:List V)(l r:List Nat)(n:Nat)(σ:St)(H2:Hp):Prop:=
 ∃(f:Addr) (ys:List V) (F:List Pt) (u2 u3 u4 u5:Option V),σ=[some (.ref a),some (.ref f),u2,u3,u4,u5]∧NX H a w2 e f xs ys F H2∧(∀p∈F,dQ p)∧chainOk "" F=true∧Run l F r∧F.length≤3*n+2
theorem wEP:(("end":Str)==("put":Str))=false:=by decide+kernel
theorem wEC:(("end":Str)==("cut":Str))=false:=by decide+kernel
theorem wEE:(("end":Str)==("end":Str))=true:=by decide+kernel
theorem LF:(("end":Str)==("keep":Str))=false:=by decide+kernel
theorem wKE:(("keep":Str)==("end":Str))=false:=by decide+kernel
theorem LG{K:PySem.W.Frag}{H:Hp}{Q:VK}{x y:Int}(q:Q (.bl (decide (y<x))) H):cn K .Gt (.int x) (.int y) H Q:=⟨trivial,q⟩
theorem sH{x:Str}(h:sg x)(hl:x.length≤1000000):good x:=⟨hl,h⟩
section
variable {Γ:aF} {D:Ends} {H H2:Hp} {a w2 e:Addr} {xs:List V} {l r:List Nat} {ps:List Pt} {i:Nat} {σ:St}
theorem aeS(hl:l.length≤100000)(hr:r.length≤100000)(hn:ps.length≤1000)(I:NI H a w2 e xs l r ps ps.length σ H2)(hD: ∀σ H',NF H a w2 e xs l r ps.length σ H'→D.nx σ H'):
  ar Γ zr D ((σ.set 4 (some (.str "end"))).set 5 (some (.int 0))) H2:=by
 obtain⟨f,ys,F,P,C,u4,u5,l0,r0,l2,r2,rfl,X,hF,hR,sP,sC,el,er,cg,lF⟩:=I
 rw[List.drop_length] at cg
 obtain⟨rfl,rfl⟩:=LA cg
 rw[List.append_nil] at el er
 have lP:=len_list P
 have lC:=len_list C
 have ll:l.length=l0.length+C.length:=by rw[el,List.length_append,lC]
 have lr:r.length=r0.length+P.length:=by rw[er,List.length_append,lP]
 refine bH (bG (ag rfl (aw (dC ⟨_,rfl,iF ?_ wEP⟩))))
 refine bH (bG (ag rfl (aw (dC ⟨_,rfl,iF ?_ wEC⟩))))
 refine bH (oO (bG (ag rfl (aw (dC ⟨_,rfl,iT (iT ?_ rfl) wEE⟩)))))
 refine LD X.li X.pv (by omega) fun f' H3 eG s3 n3 h3 p3=> ?_
 refine bH (yU (bG (ag rfl (aw (dC ⟨_,rfl,iF (iF ?_ rfl) LF⟩)))))
 refine bH (bG (ag rfl (aw (dC ⟨_,rfl,iF ?_ LF⟩))))
 refine hD _ _ ?_
 have tln:=Lx P C
 refine⟨f',eG,F++tl P C,_,_,_,_,rfl,⟨X.sm.trans s3,X.sm.free n3,s3 _ _ X.it,s3 _ _ X.en,(bW X.it n3).symm,h3,p3⟩,fun p hp=> ?_, ?_, ?_, ?_⟩
 ·rcases List.mem_append.mp hp with q | q
  ·exact hF.ok p q
  ·exact Ly (sH sP (by omega)) (sH sC (by omega)) p q
 ·rw[nh,hF.ch,Lw hF.la];rfl
 ·rw[el,er];exact Lz hR
 ·rw[List.length_append];omega
theorem aeU{q:Pt}{b:Addr}(hl:l.length≤100000)(hr:r.length≤100000)(hn:ps.length≤1000)(hq:ps[i]?=some q)(oq:eh q)(I:NI H a w2 e xs l r ps i σ H2)(hD: ∀σ H',NI H a w2 e xs l r ps (i+1) σ H'→D.nx σ H'):
  ar Γ zr D ((σ.set 4 (some (.str q.word))).set 5 (some q.val)) H2:=by
 obtain⟨f,ys,F,P,C,u4,u5,l0,r0,l2,r2,rfl,X,hF,hR,sP,sC,el,er,cg,lF⟩:=I
 have bz:i<ps.length:=(List.getElem?_eq_some_iff.mp hq).1
 have ed:ps.drop i=q::ps.drop (i+1):=by rw[List.drop_eq_getElem_cons bz,(List.getElem?_eq_some_iff.mp hq).2]
 rw[ed] at cg
 have lP:=len_list P
 have lC:=len_list C
 have ll:l.length=l0.length+ (C.length+l2.length):=by rw[el,List.length_append,List.length_append,lC]
 have lr:r.length=r0.length+ (P.length+r2.length):=by rw[er,List.length_append,List.length_append,lP]
 refine bH (bG (ag rfl (aw (dC ⟨_,rfl, ?_⟩))))
 cases q with
 | put z=>
  obtain⟨r',e2,h'⟩:=sr cg
  have lz:=len_list z
  have lr2:r2.length=z.length+r'.length:=by rw[e2,List.length_append,←lz]
  refine iT ?_ Lk
  refine aZ (aK (ag rfl (ag rfl ⟨b9 (by omega), ?_⟩)))
  refine hD _ _ ?_
  exact⟨f,ys,F,P++z,C,_,_,l0,r0,l2,r',rfl,X,hF,hR,Kw sP oq,sC,el,by rw[er,e2,app_list];simp,h',by omega⟩
 | cut z=>
  obtain⟨l',e1,h'⟩:=sv cg
  have lz:=len_list z
  have ll2:l2.length=z.length+l'.length:=by rw[e1,List.length_append,←lz]
  refine iF ?_ Lm
  refine bH (bG (ag rfl (aw (dC ⟨_,rfl,iT ?_ Lh⟩))))
  refine aZ (aK (ag rfl (ag rfl ⟨b9 (by omega), ?_⟩)))
  refine hD _ _ ?_
  exact⟨f,ys,F,P,C++z,_,_,l0,r0,l',r2,rfl,X,hF,hR,sP,Kw sC oq,by rw[el,e1,app_list];simp,er,h',by omega⟩
 | keep n=>
  obtain⟨c,l',r',e1,e2,e3,h'⟩:=o5 cg
  refine iF ?_ Ll
  refine bH (bG (ag rfl (aw (dC ⟨_,rfl,iF ?_ Lg⟩))))
  refine bH (oO (bG (ag rfl (aw (dC ⟨_,rfl,iF ?_ wKE⟩)))))
  refine KZ (bG (ag rfl (aw (LG ⟨_,rfl, ?_⟩))))
  by_cases hz:0<n
  ·refine iT ?_ (decide_eq_true hz)
   refine LD X.li X.pv (by omega) fun f' H3 eG s3 n3 h3 p3=> ?_
   have tln:=Lx P C
   have LH: ∀p∈F++tl P C,dQ p:=fun p hp=>by
    rcases List.mem_append.mp hp with q | q
    ·exact hF.ok p q
    ·exact Ly (sH sP (by omega)) (sH sC (by omega)) p q
   have ch1:chainOk "" (F++tl P C)=true:=by rw[nh,hF.ch,Lw hF.la];rfl
   have lF1:(F++tl P C).length≤3*i+2:=by rw[List.length_append];omega
   refine aeK h3 p3 (fun p hp=>LC (LH p hp)) (by omega) fun H4 y4 b4 h4 p4=> ?_
   refine hD _ _ ?_
   have nw:w2≠f':=bW X.it n3
   have fH:=X.sm.free n3
   have lk:=acz (F++tl P C) n
   refine⟨f',y4,fo (F++tl P C) n,"","",_,_,l0++C.cps.toList++c,r0++P.cps.toList++c,l',r',rfl,⟨jb (X.sm.trans s3) fH b4,fH,b4 _ _ (s3 _ _ X.it) nw,(b4.cC h3) _ _ (s3 _ _ X.en),nw.symm,h4,p4⟩,aeN LH ch1 (by omega),aeM (Lz hR) e3,rO,rO, ?_, ?_,h',by omega⟩
   ·rw[el,e1];show _=_++ ([]++l');simp
   ·rw[er,e2];show _=_++ ([]++r');simp
  ·refine iF ?_ (decide_eq_false hz)
   have c0:c=[]:=List.eq_nil_of_length_eq_zero (by omega)
   refine hD _ _ ?_
   rw[c0,List.nil_append] at e1 e2
   exact⟨f,ys,F,P,C,_,_,l0,r0,l2,r2,rfl,X,hF,hR,sP,sC,el,er,by rw[e1,e2];exact h',by omega⟩
end
def pd:Sp:=fun vs H Q E=> ∃a xs ps l r,vs=[.ref a]∧H a=some (.lst xs)∧bZ H xs ps∧Run l ps r∧(∀p∈ps,eh p)∧ps.length≤1000∧l.length≤100000∧r.length≤100000∧
 ∀b H' ys qs,aG H H'→H b=none→H' b=some (.lst ys)→bZ H' ys qs→(∀p∈qs,dQ p)→chainOk "" qs=true→Run l qs r→qs.length≤3*ps.length+2→Q (.ref b) H'
theorem aeW{K:PySem.W.Frag}(vs:List V)(H:Hp)(Q:VK)(E:XK)(h:pd vs H Q E):ar (aR K [] [] (E:=E)) x9 (Dn Q) (start x8 vs) H:=by
 obtain⟨a,xs,ps,l,r,rfl,ha,cI,cg,aI,hn,hl,hr,k⟩:=h
 have lx:=Paired.length cI
 refine aZ (jd (aU ⟨Nat.zero_le _,fun f nf=> ?_⟩))
 have s1:=sameNew (o:= .lst []) nf
 refine aZ (aw (aZ (aw ?_)))
 refine aeG (body:=zr) (aK (ag rfl (jd (ay (ip (ay (aw (ay (aw (aU ⟨(by show 2≤sizeLine;decide),fun e ne=>aU ⟨(by show 1≤sizeLine;decide),fun g ng=> ?_⟩⟩))))))))))
 have s2:=sameNew (o:= .tup [.str "end", .int 0]) ne
 have s3:=sameNew (o:= .lst [V.ref e]) ng
 refine .inl ⟨a,g,xs,[.ref e],rfl,rfl,(s1.trans (s2.trans s3)) _ _ ha,aS,b9 (by show xs.length+1≤_;omega),fun w2 nw=> ?_⟩
 have s4:=sameNew (o:= .lst (xs++ [V.ref e])) nw
 have sG:=s1.trans (s2.trans (s3.trans s4))
 have fw:f≠w2:=fun z=>by
  rw[←z] at nw
  rw[(s2.trans s3) _ _ aS] at nw;cases nw
 refine⟨w2,rfl,⟨_,aH.of aS⟩,mz (K:=K) (a:=w2) (xs:=xs++ [.ref e]) (fun i σ H2=> (i≤ps.length∧NI H a w2 e xs l r ps i σ H2)∨(i=ps.length+1∧NF H a w2 e xs l r ps.length σ H2)) ?_ ?_ ?_ ?_⟩
 ·refine .inl ⟨Nat.zero_le _,f,[],[],"","",_,_,[],[],l,r,rfl,⟨sG,nf,aS,(s3.trans s4) _ _ aS,fw,(s2.trans (s3.trans s4)) _ _ aS, .nil⟩,⟨fun p hp=> (by cases hp),rfl, .inl rfl⟩, .nil,rO,rO,rfl,rfl,cg,Nat.zero_le _⟩
 ·rintro i σ H2 _ (⟨_,f,ys,F,P,C,u4,u5,l0,r0,l2,r2,_,X,_⟩ | ⟨_,f,ys,F,u2,u3,u4,u5,_,X,_⟩)
  ·exact aH.of X.it
  ·exact aH.of X.it
 ·intro i x σ H2 hi I
  have iY:i< (xs++ [V.ref e]).length:=(List.getElem?_eq_some_iff.mp hi).1
  have hi2:i<ps.length+1:=by rw[List.length_append,lx] at iY;exact iY
  rcases I with⟨_,I⟩ | ⟨z,_⟩
  ·by_cases bz:i<ps.length
   ·rw[List.getElem?_append_left (by omega)] at hi
    obtain⟨q,hq,ig⟩:=cI.get hi
    have sm:aG H H2:=by obtain⟨f,ys,F,P,C,u4,u5,l0,r0,l2,r2,_,X,_⟩:=I;exact X.sm
    obtain⟨b,rfl,hb⟩:=ig.mono (bx sm)
    refine⟨b,_,rfl, .inl (a_.of hb),rfl,_,_,rfl,_,_,rfl,rfl, ?_⟩
    exact aeU (b:=b) hl hr hn hq (aI q (List.mem_of_getElem? hq)) I fun σ' H' I'=> .inl ⟨bz,I'⟩
   ·have ei:i=ps.length:=by omega
    subst ei
    have en:H2 e=some (.tup [.str "end", .int 0]):=by obtain⟨f,ys,F,P,C,u4,u5,l0,r0,l2,r2,_,X,_⟩:=I;exact X.en
    rw[List.getElem?_append_right (by omega),lx,Nat.sub_self] at hi
    cases hi
    refine⟨e,_,rfl, .inl (a_.of en),rfl,_,_,rfl,_,_,rfl,rfl, ?_⟩
    exact aeS hl hr hn I fun σ' H' I'=> .inr ⟨rfl,I'⟩
  ·omega
 ·rintro σ H2 (⟨h,_⟩ | ⟨_,f,ys,F,u2,u3,u4,u5,rfl,X,ok,ch,hR,lF⟩)
  ·rw[List.length_append,lx] at h;exact absurd h (by show ¬ps.length+1≤ps.length;omega)
  ·exact cE (ag rfl (k f H2 ys F X.sm X.fr X.li X.pv ok ch hR lF))
section
variable {Γ:aF} {D:Ends} {σ:St} {H:Hp} {r:List RS} {Q:VK}
theorem aeX{a lo hi:RE}(h:ah Γ a σ H fun x H1=>ah Γ lo σ H1 fun i H2=> ∃i':Int,i= .int i'∧ah Γ hi σ H2 fun j H3=> ∃j':Int,j= .int j'∧qK Γ.K x (some i') (some j') H3 Q):ah Γ (.sl a (some lo) (some hi)) σ H Q:=h
theorem zt{body:List RS}{i:Nat}{x:RE}(h:ah Γ x σ H fun v H1=> ∃n:Int,[v]=[.int n]∧ -(2 ^ 62)≤n∧n<2 ^ 62∧ ∃W:Nat→Nat→St→Hp→Prop,(∃m,W 0 m σ H1)∧ ∀j m σ H,W j m σ H→
  ((gg 0 n.toNat).stop j H∧({D with nx:=ar Γ r D}:Ends).nx σ H)∨((gg 0 n.toNat).go j H∧ ∃N:St→Hp→Prop,(∀σ' H',N σ' H'→ ∃m',m'<m∧W (j+1) m' σ' H')∧ ∀x H',(gg 0 n.toNat).eK j H x H'→eo i x σ H' fun σ2 H2=>ar Γ body {({D with nx:=ar Γ r D}:Ends) with nx:=N,ct:=N,bk:=({D with nx:=ar Γ r D}:Ends).nx} σ2 H2)):
  ar Γ (.eN i .dY [x] body::r) D σ H:=oW (x:=x) _ _ (fun _ _=>Iff.rfl) h
theorem pe{i:Nat}{b0:Addr}{w:Str}{e:RE}{ys:List V}(hσ:σ[i]?=some (some (.ref b0)))(hb:H b0=some (.lst ys))(h:ah Γ e σ H fun v H1=>2≤sizeLine∧ ∀t,H1 t=none→ ∃zs,upd H1 t (.tup [.str w,v]) b0=some (.lst zs)∧zs.length<sizeLine∧ar Γ r D σ (upd (upd H1 t (.tup [.str w,v])) b0 (.lst (zs++ [.ref t])))):
  ar Γ (.drop (.b6 .append (.v i) [(.tup [(.c (.str w)),e])])::r) D σ H:=
 oE (mY (ag hσ ⟨.inl ⟨rfl,_,aH.of hb⟩,ip (ay (aw (ay (oW (x:=e) _ _ (fun _ _=>Iff.rfl) h))))⟩))
end
theorem push{H H1:Hp}{b0:Addr}{ys:List V}{ps:List Pt}{p:Pt}{w:Str}{v:V}{R:Hp→Prop}(s:aG H H1)(hb:H b0=some (.lst ys))(pv:bZ H ys ps)(hl:ps.length≤900000)(hw:p.word=w)(hv:p.val=v)(k: ∀H' eG,cO b0 H H'→H' b0=some (.lst eG)→bZ H' eG (ps++ [p])→R H'):
  2≤sizeLine∧ ∀t,H1 t=none→ ∃zs,upd H1 t (.tup [.str w,v]) b0=some (.lst zs)∧zs.length<sizeLine∧R (upd (upd H1 t (.tup [.str w,v])) b0 (.lst (zs++ [.ref t]))):=by
 refine⟨by decide,fun t ft=> ?_⟩
 have s2:=s.trans (sameNew (o:= .tup [.str w,v]) ft)
 have lx:=Paired.length pv
 have bb:cO b0 H (upd (upd H1 t (.tup [.str w,v])) b0 (.lst (ys++ [.ref t]))):=fun b o e ne=>by rw[aN ne];exact s2 _ _ e
 have nt:t≠b0:=fun z=>by rw[z,s _ _ hb] at ft;cases ft
 refine⟨ys,s2 _ _ hb,jc (by omega),k _ _ bb aS ?_⟩
 exact B.Paired.app (pv.mono (bb.cC hb)) (.cons ⟨t,rfl,by rw[aN nt,aS,hw,hv]⟩ .nil)
def zu:List RS:=[.asg 5 (.call 0 [(.v 0),(.bin .Add (.c (.int 40)) (.v 4))]), .ite (.cmp .Eq (.bin .Mod (.v 5) (.c (.int 3))) (.c (.int 0))) [.drop (.b6 .append (.v 2) [(.tup [(.c (.str "put")),(.call 1 [(.v 5),(.bin .Add (.c (.int 1)) (.bin .Mult (.bin .Mod (.bin .FloorDiv (.v 5) (.c (.int 3))) (.c (.int 4))) (.bin .Add (.c (.int 1)) (.bin .Mod (.bin .FloorDiv (.v 5) (.c (.int 12))) (.c (.int 3))))))])])])] [], .asg 6 (.blt .min [(.bin .Sub (.blt .len [(.v 1)]) (.v 3)),(.bin .Mod (.bin .FloorDiv (.v 5) (.c (.int 36))) (.bin .Add (.c (.int 2)) (.bin .FloorDiv (.blt .len [(.v 1)]) (.c (.int 3)))))]), .ite (.and [(.cmp .Eq (.bin .Mod (.bin .FloorDiv (.v 5) (.c (.int 5))) (.c (.int 3))) (.c (.int 0))),(.cmp .Gt (.v 6) (.c (.int 0)))]) [.drop (.b6 .append (.v 2) [(.tup [(.c (.str "cut")),(.sl (.v 1) (some (.v 3)) (some (.bin .Add (.v 3) (.v 6))))])])] [.drop (.b6 .append (.v 2) [(.tup [(.c (.str "keep")),(.v 6)])])], .asg 3 (.bin .Add (.v 3) (.v 6))]
def aeY:List RS:=[.drop (.b6 .append (.v 2) [(.tup [(.c (.str "keep")),(.bin .Sub (.blt .len [(.v 1)]) (.v 3))])]), .ite (.cmp .Eq (.bin .Mod (.bin .FloorDiv (.v 0) (.c (.int 7))) (.c (.int 3))) (.c (.int 0))) [.drop (.b6 .append (.v 2) [(.tup [(.c (.str "put")),(.call 1 [(.v 0),(.bin .Add (.c (.int 1)) (.bin .Mod (.bin .FloorDiv (.v 0) (.c (.int 21))) (.c (.int 5))))])])])] [], .ret (.call 2 [(.v 2)])]
def CB(H:Hp)(c:Int)(x:Str)(i:Nat)(σ:St)(H2:Hp):Prop:=
 ∃(b0:Addr) (ys:List V) (ps:List Pt) (l1 l2 r1:List Nat) (u4 u5 u6:Option V),σ=[some (.int c),some (.str x),some (.ref b0),some (.int (l1.length:Nat)),u4,u5,u6]∧aG H H2∧H b0=none∧H2 b0=some (.lst ys)∧bZ H2 ys ps∧x.cps.toList=l1++l2∧Run l1 ps r1∧
  (∀p∈ps,eh p)∧ps.length≤2*i∧r1.length≤l1.length+10*i
def pf:Sp:=fun vs H Q E=> ∃c x,vs=[.int c, .str x]∧good x∧x.length≤10000∧ ∀b H' ys qs r,aG H H'→H b=none→H' b=some (.lst ys)→bZ H' ys qs→(∀p∈qs,dQ p)→chainOk "" qs=true→Run x.cps.toList qs r→r.length≤x.length+100→qs.length≤60→Q (.ref b) H'
abbrev cU:List (Str×Sp):=[("_law_mixed",fY),("_law_text_by",iA),("_law_neat",pd)]
theorem aeZ{K:PySem.W.Frag}{E:XK}{D:Ends}{H H2:Hp}{c:Int}{x:Str}{i:Nat}{σ:St}{kv:V}(hx:good x)(hl:x.length≤10000)(hi:i<7)(hk:kv= .int (0+ (i:Int)))(I:CB H c x i σ H2)(hD: ∀σ H',CB H c x (i+1) σ H'→D.nx σ H'):
  ar (aR K cU [] (E:=E)) zu D (σ.set 4 (some kv)) H2:=by
 obtain⟨b0,ys,ps,l1,l2,r1,u4,u5,u6,rfl,sm,fr,hb,pv,ex,hR,aI,lp,lr⟩:=I
 subst hk
 have lx:x.length=l1.length+l2.length:=by rw[len_list,ex,List.length_append]
 refine aZ (bL fY rfl (ay (ag rfl (ay (aK (aw (ag rfl (bJ (aU ⟨_,_,rfl,fun m hm=> ?_⟩)))))))))
 have c3:(0:Int) <3:=by decide
 have c4:(0:Int) <4:=by decide
 have go: ∀(H3:Hp) (zv:List V) (mj:List Pt) (r3:List Nat),aG H H3→H3 b0=some (.lst zv)→bZ H3 zv mj→Run l1 mj r3→(∀p∈mj,eh p)→mj.length≤2*i+1→r3.length≤l1.length+10*i+10→
   ar (aR K cU [] (E:=E)) (zu.drop 2) D [some (.int c),some (.str x),some (.ref b0),some (.int (l1.length:Nat)),some (.int (0+ (i:Int))),some (.int m),u6] H3:=by
  intro H3 zv mj r3 s3 h3 p3 R3 ph lp3 LJ
  refine aZ (yM (ay (aK (fW (ag rfl ⟨b9 hx.1,ag rfl ⟨trivial,ay (aK (aK (ag rfl (aw ⟨⟨by decide,by decide⟩,aK (aw (aK (fW (ag rfl ⟨b9 hx.1,aw ⟨⟨by decide,by decide⟩,bJ ⟨?_,aU ?_⟩⟩⟩))))⟩))))⟩⟩)))))
  ·show(0:Int) <2+ (x.length:Int) / 3
   omega
  have g0:0≤m / 36 % (2+ (x.length:Int) / 3):=Int.emod_nonneg _ (by omega)
  obtain⟨z,ez⟩: ∃z:Int,z=(if m / 36 % (2+ (x.length:Int) / 3) < (x.length:Int) - (l1.length:Nat) then m / 36 % (2+ (x.length:Int) / 3) else (x.length:Int) - (l1.length:Nat)):=⟨_,rfl⟩
  have z0:0≤z∧z≤l2.length:=by rw[ez];split<;>omega
  show ar _ _ D [some (.int c),some (.str x),some (.ref b0),some (.int (l1.length:Nat)),some (.int (0+ (i:Int))),some (.int m),some (.int (if m / 36 % (2+ (x.length:Int) / 3) < (x.length:Int) - (l1.length:Nat) then m / 36 % (2+ (x.length:Int) / 3) else (x.length:Int) - (l1.length:Nat)))] H3
  rw[←ez]
  obtain⟨la,lb,el,zw⟩: ∃la lb,l2=la++lb∧z=la.length:=⟨l2.take z.toNat,l2.drop z.toNat,(List.take_append_drop _ _).symm,by rw[List.length_take];omega⟩
  have fin: ∀(H4:Hp) (sI:List V) (p4:List Pt) (r4:List Nat),aG H H4→H4 b0=some (.lst sI)→bZ H4 sI p4→Run (l1++la) p4 r4→(∀p∈p4,eh p)→p4.length≤2*i+2→r4.length≤ (l1++la).length+10*i+10→
    ar (aR K cU [] (E:=E)) [.asg 3 (.bin .Add (.v 3) (.v 6))] D [some (.int c),some (.str x),some (.ref b0),some (.int (l1.length:Nat)),some (.int (0+ (i:Int))),some (.int m),some (.int z)] H4:=by
   intro H4 sI p4 r4 s4 h4 v4 R4 zx lp4 lr4
   refine aZ (aK (ag rfl (ag rfl (bJ ?_))))
   refine hD _ _ ⟨b0,sI,p4,l1++la,lb,r4,some (.int (0+ (i:Int))),some (.int m),some (.int z), ?_,s4,fr,h4,v4,by rw[ex,el,List.append_assoc],R4,zx,by omega,by omega⟩
   show[_,_,_,some (V.int ((l1.length:Int)+z)),_,_,_]=_
   rw[List.length_append,zw];rfl
  refine bH (KY (bG (aK (aK (ag rfl (aw ⟨⟨by decide,by decide⟩,aw ⟨c3,aw (gK ⟨_,rfl, ?_⟩)⟩⟩))))))
  have LK:ar (aR K cU [] (E:=E)) [.drop (.b6 .append (.v 2) [(.tup [(.c (.str "keep")),(.v 6)])])] {D with nx:=ar (aR K cU [] (E:=E)) [.asg 3 (.bin .Add (.v 3) (.v 6))] D} [some (.int c),some (.str x),some (.ref b0),some (.int (l1.length:Nat)),some (.int (0+ (i:Int))),some (.int m),some (.int z)] H3:=by
   refine pe rfl h3 (ag rfl (push (p:= .keep z) (aG.refl _) h3 p3 (by omega) rfl rfl fun H4 y4 b4 h4 p4=> ?_))
   refine fin H4 y4 _ (r3++la) (jb s3 fr b4) h4 p4 (R3.app (sE zw)) (fun p hp=> ?_) ?_ ?_
   ·rcases List.mem_append.mp hp with q | q
    ·exact ph p q
    ·rw[List.mem_singleton.mp q];trivial
   ·rw[List.length_append];show mj.length+1≤_;omega
   ·rw[List.length_append,List.length_append];omega
  by_cases q5:m / 5 % 3=0
  ·refine iT ?_ (decide_eq_true q5)
   refine bG (ag rfl (aw (LG ⟨_,rfl, ?_⟩)))
   by_cases qz:0<z
   ·refine iT ?_ (decide_eq_true qz)
    refine pe rfl h3 (aeX (ag rfl (ag rfl ⟨_,rfl,aK (ag rfl (ag rfl (bJ ⟨_,rfl,b9 hx.1, ?_⟩)))⟩)))
    have ec:hU x (some ((l1.length:Nat):Int)) (some (((l1.length:Nat):Int)+z))=⟨la.toArray⟩:=KD (by rw[ex,el]) z zw
    rw[ec]
    refine push (p:= .cut ⟨la.toArray⟩) (aG.refl _) h3 p3 (by omega) rfl rfl fun H4 y4 b4 h4 p4=> ?_
    have Rc:Run la [.cut ⟨la.toArray⟩] []:=by
     have:=Run.cut (s:=⟨la.toArray⟩) Run.nil
     rw[List.append_nil] at this;exact this
    refine fin H4 y4 _ (r3++ []) (jb s3 fr b4) h4 p4 (R3.app Rc) (fun p hp=> ?_) ?_ ?_
    ·rcases List.mem_append.mp hp with q | q
     ·exact ph p q
     ·rw[List.mem_singleton.mp q]
      intro d hd
      have e2:x.cps.toList=l1++ (la++lb):=by rw[ex,el]
      exact hx.2 d (by rw[e2];simp at hd;simp[hd])
    ·rw[List.length_append];show mj.length+1≤_;omega
    ·rw[List.length_append,List.length_append];show r3.length+0≤_;omega
   ·exact iF LK (decide_eq_false qz)
  ·exact iF (iF LK rfl) (decide_eq_false q5)
 refine bH (bG (aK (ag rfl (aw ⟨c3,aw (gK ⟨_,rfl, ?_⟩)⟩))))
 by_cases q3:m % 3=0
 ·refine iT ?_ (decide_eq_true q3)
  have A0:0≤m / 3 % 4∧m / 3 % 4<4:=⟨Int.emod_nonneg _ (by decide),Int.emod_lt_of_pos _ (by decide)⟩
  have B0:0≤m / 12 % 3∧m / 12 % 3<3:=⟨Int.emod_nonneg _ (by decide),Int.emod_lt_of_pos _ (by decide)⟩
  have AB:m / 3 % 4* (1+m / 12 % 3)≤3*3:=Int.mul_le_mul (by omega) (by omega) (by omega) (by decide)
  have AB0:0≤m / 3 % 4* (1+m / 12 % 3):=Int.mul_nonneg (by omega) (by omega)
  refine pe rfl hb (bL iA rfl (ay (ag rfl (ay (aK (aw (aK (aK (aK (ag rfl (aw ⟨⟨by decide,by decide⟩,aw ⟨c4,aK (aw (aK (aK (ag rfl (aw ⟨⟨by decide,by decide⟩,aw ⟨c3,bJ ?_⟩⟩)))))⟩⟩)))))))))))
  refine⟨.inl ⟨by omega,by omega⟩,bJ (aU ⟨_,_,rfl,by omega,by omega,fun z H3 gz lz s3=> ?_⟩)⟩
  refine push (p:= .put z) s3 hb pv (by omega) rfl rfl fun H4 y4 b4 h4 p4=> ?_
  have Rp:Run [] [.put z] z.cps.toList:=by
   have:=Run.put (s:=z) Run.nil
   rw[List.append_nil] at this;exact this
  have R4:Run l1 (ps++ [.put z]) (r1++z.cps.toList):=by
   have:=hR.app Rp
   rw[List.append_nil] at this;exact this
  have lz':=len_list z
  refine go H4 y4 _ _ (jb sm fr b4) h4 p4 R4 (fun p hp=> ?_) ?_ ?_
  ·rcases List.mem_append.mp hp with q | q
   ·exact aI p q
   ·rw[List.mem_singleton.mp q];exact gz.2
  ·rw[List.length_append];show ps.length+1≤_;omega
  ·rw[List.length_append];omega
 ·exact iF (cL (go H2 ys ps r1 sm hb pv hR aI (by omega) (by omega))) (decide_eq_false q3)
theorem ae3{K:PySem.W.Frag}(vs:List V)(H:Hp)(Q:VK)(E:XK)(h:pf vs H Q E):ar (aR K cU [] (E:=E)) dO (Dn Q) (start ib vs) H:=by
 obtain⟨c,x,rfl,hx,hl,k⟩:=h
 have m7:0≤c % 7∧c % 7<7:=⟨Int.emod_nonneg _ (by decide),Int.emod_lt_of_pos _ (by decide)⟩
 have c3:(0:Int) <3:=by decide
 have c5:(0:Int) <5:=by decide
 have c7:(0:Int) <7:=by decide
 refine aZ (jd (aU ⟨Nat.zero_le _,fun b0 n0=> ?_⟩))
 have s1:=sameNew (o:= .lst []) n0
 refine aZ (aw ?_)
 refine zt (body:=zu) (r:=aeY) (aK (aw (aK (ag rfl (aw ⟨c7,bJ ⟨1+c % 7,rfl,by omega,by omega,pX (lo:=0) (n:=(1+c % 7).toNat) (CB H c x) ?_ ?_ ?_⟩⟩)))))
 ·exact⟨b0,[],[],[],_,[],none,none,none,rfl,s1,n0,aS, .nil,rfl, .nil,fun p hp=> (by cases hp),Nat.zero_le _,Nat.zero_le _⟩
 ·intro i σ H2 hi I
  exact aeZ hx hl (by omega) rfl I fun σ' H' I'=>I'
 ·rintro σ H2 ⟨b0,ys,ps,l1,l2,r1,u4,u5,u6,rfl,sm,fr,hb,pv,ex,hR,aI,lp,lr⟩
  have lx:x.length=l1.length+l2.length:=by rw[len_list,ex,List.length_append]
  refine pe rfl hb (aK (fW (ag rfl ⟨b9 hx.1,ag rfl ⟨trivial,push (p:= .keep ((x.length:Int) - (l1.length:Nat))) (aG.refl _) hb pv (by omega) rfl rfl fun H3 y3 b3 h3 p3=> ?_⟩⟩)))
  have R3:Run x.cps.toList (ps++ [.keep ((x.length:Int) - (l1.length:Nat))]) (r1++l2):=by rw[ex];exact hR.app (sE (by omega))
  have ph: ∀p∈ps++ [Pt.keep ((x.length:Int) - (l1.length:Nat))],eh p:=fun p hp=>by
   rcases List.mem_append.mp hp with q | q
   ·exact aI p q
   ·rw[List.mem_singleton.mp q];trivial
  have l3:(ps++ [Pt.keep ((x.length:Int) - (l1.length:Nat))]).length=ps.length+1:=by rw[List.length_append];rfl
  have LJ:(r1++l2).length=r1.length+l2.length:=List.length_append
  have LL:=jb sm fr b3
  have fin: ∀(H4:Hp) (y4:List V) (p4:List Pt) (r4:List Nat),aG H H4→H4 b0=some (.lst y4)→bZ H4 y4 p4→Run x.cps.toList p4 r4→(∀p∈p4,eh p)→p4.length≤16→r4.length≤x.length+80→
    ar (aR K cU [] (E:=E)) [.ret (.call 2 [(.v 2)])] (Dn Q) [some (.int c),some (.str x),some (.ref b0),some (.int (l1.length:Nat)),u4,u5,u6] H4:=by
   intro H4 y4 p4 r4 s4 h4 v4 R4 zx lp4 lr4
   refine cE (bL pd rfl (ay (ag rfl (aU ⟨b0,y4,p4,_,r4,rfl,h4,v4,R4,zx,by omega,by rw[←len_list];omega,by omega,fun b H5 y5 qs s5 n5 h5 v5 ok5 ch5 R5 l5=> ?_⟩))))
   exact k b H5 y5 qs r4 (s4.trans s5) (s4.free n5) h5 v5 ok5 ch5 R5 (by omega) (by omega)
  refine bH (bG (aK (aK (ag rfl (aw ⟨⟨by decide,by decide⟩,aw ⟨c3,aw (gK ⟨_,rfl, ?_⟩)⟩⟩)))))
  by_cases q3:c / 7 % 3=0
  ·refine iT ?_ (decide_eq_true q3)
   have B0:0≤c / 21 % 5∧c / 21 % 5<5:=⟨Int.emod_nonneg _ (by decide),Int.emod_lt_of_pos _ (by decide)⟩
   refine pe rfl h3 (bL iA rfl (ay (ag rfl (ay (aK (aw (aK (aK (ag rfl (aw ⟨⟨by decide,by decide⟩,aw ⟨c5,bJ (aU ⟨_,_,rfl,by omega,by omega,fun z H4 gz lz s4=> ?_⟩)⟩⟩))))))))))
   refine push (p:= .put z) s4 h3 p3 (by omega) rfl rfl fun H5 y5 b5 h5 p5=> ?_
   have Rp:Run [] [.put z] z.cps.toList:=by
    have:=Run.put (s:=z) Run.nil
    rw[List.append_nil] at this;exact this
   have R5:=R3.app Rp
   rw[List.append_nil] at R5
   have lz':=len_list z
   refine fin H5 y5 _ _ (jb LL fr b5) h5 p5 R5 (fun p hp=> ?_) ?_ ?_
   ·rcases List.mem_append.mp hp with q | q
    ·exact ph p q
    ·rw[List.mem_singleton.mp q];exact gz.2
   ·rw[List.length_append,l3];show ps.length+1+1≤_;omega
   ·rw[List.length_append,LJ];omega
  ·exact iF (cL (fin H3 y3 _ _ LL h3 p3 R3 ph (by omega) (by omega))) (decide_eq_false q3)
theorem LM(S:List Nat)(l:Tr)(a b c:Int)(r:Tr):txt S (Tr.node l a b c r).aj=txt S l.aj++ (seg S (a,b,c)++txt S r.aj):=by rw[Tr.aj,oV,cA]
theorem LN{S:List Nat}{t:Tr}(h: ∀q∈t.aj,bM S q):t.en=((txt S t.aj).count 10:Nat):=by rw[sh,zc h]
theorem LO{S:List Nat}{t:Tr}(h: ∀q∈t.aj,bM S q):t.sz=((txt S t.aj).length:Nat):=by rw[eT,←m9 h]
theorem zy{lt lb lf:Addr}{n:Int}:(cZ lt lb lf n).lookup ("ends_ahead":Str)=none:=oI (by decide+kernel) (by decide+kernel) (by decide+kernel) (by decide+kernel)
theorem ae6{lt lb lf:Addr}{n:Int}:(cZ lt lb lf n).lookup ("end_place":Str)=none:=oI (by decide+kernel) (by decide+kernel) (by decide+kernel) (by decide+kernel)
theorem fB{K:PySem.W.Frag}{H:Hp}{Q:VK}{i j:Int}(h:Q (.int (i - j)) H):jK K .Sub (.int i) (.int j) H Q:=⟨trivial,h⟩
theorem leI{K:PySem.W.Frag}{H:Hp}{Q:VK}{x y:Int}(q:Q (.bl (decide (x≤y))) H):cn K .LtE (.int x) (.int y) H Q:=⟨trivial,q⟩
theorem ltI{K:PySem.W.Frag}{H:Hp}{Q:VK}{x y:Int}(q:Q (.bl (decide (x<y))) H):cn K .Lt (.int x) (.int y) H Q:=⟨trivial,q⟩
theorem geI{K:PySem.W.Frag}{H:Hp}{Q:VK}{x y:Int}(q:Q (.bl (decide (y≤x))) H):cn K .GtE (.int x) (.int y) H Q:=⟨trivial,q⟩
def pj(C:Addr):Sp:=fun vs H Q E=> ∃(v:V) (t:Tr) (pl:Int) (s dx lt lb lf:Addr) (ts:List Str),vs=[v, .int pl, .ref s]∧Nd H t v∧(∀q∈t.aj,bM (ak ts) q)∧bU C H s dx lt lb lf ts∧0≤pl∧pl≤t.sz∧
 Q (.int ((((txt (ak ts) t.aj).take pl.toNat).count 10:Nat):Int)) H
theorem ae9{K:PySem.W.Frag}{C:Addr}(vs:List V)(H:Hp)(Q:VK)(E:XK)(h:pj C vs H Q E):ar (aR K [("size_of",dF),("ends_of",dS)] [] [] [("ends_ahead",C,fV C)] (E:=E)) yc (Dn Q) (start yb vs) H:=by
 obtain⟨v,t,pl,s,dx,lt,lb,lf,ts,rfl,hn,hp,S,h0,h1,k⟩:=h
 obtain⟨jr,et⟩: ∃jr:Int,jr=((((txt (ak ts) t.aj).take pl.toNat).count 10:Nat):Int):=⟨_,rfl⟩
 rw[←et] at k
 refine aZ (aw ?_)
 refine yN (fun m σ H2=> ∃(v:V) (t:Tr) (pl e:Int) (u4 u5 u6 u7:Option V),σ=[some v,some (.int pl),some (.ref s),some (.int e),u4,u5,u6,u7]∧H2=H∧Nd H t v∧(∀q∈t.aj,bM (ak ts) q)∧0≤pl∧pl≤t.sz∧jr=e+ ((((txt (ak ts) t.aj).take pl.toNat).count 10:Nat):Int)∧m=t.aj.length)
  ⟨_,v,t,pl,0,none,none,none,none,rfl,rfl,hn,hp,h0,h1,by omega,rfl⟩ ?_
 rintro m σ H2 ⟨v,t,pl,e,u4,u5,u6,u7,rfl,rfl,hn,hp,h0,h1,et,rfl⟩
 refine bG (ag rfl (aw ?_))
 cases t with
 | nil=>
  cases hn
  refine⟨rfl,_,rfl,iF ?_ rfl⟩
  refine cE (ag rfl ?_)
  have:jr=e:=by rw[et];show e+ (((([]:List Nat).take pl.toNat).count 10:Nat):Int)=e;simp
  rw[←this];exact k
 | node l a b c r=>
  obtain⟨p,q,vl,vr,rfl,dU,hq,gM,oR⟩:=hn
  have fz: ∀x∈l.aj,bM (ak ts) x:=fun x hx=>hp x (by simp[Tr.aj,hx])
  have oT: ∀x∈r.aj,bM (ak ts) x:=fun x hx=>hp x (by simp[Tr.aj,hx])
  have pc:=hp (a,b,c) (by simp[Tr.aj])
  have q0:0≤a:=pc.p0
  have q1:1≤b:=pc.p1
  have q2:a+b≤ (ak ts).length:=pc.p2
  have q3:c=((seg (ak ts) (a,b,c)).count 10:Nat):=pc.p3
  have ql:((seg (ak ts) (a,b,c)).length:Int)=b:=pc.len
  have zl:=LO fz
  have el:=LN fz
  have zs:(Tr.node l a b c r).sz=l.sz+b+r.sz:=rfl
  rw[zs] at h1
  rw[LM] at et
  refine⟨rfl,_,rfl,iT ?_ rfl⟩
  refine⟨fun σ' H'=> ∃m',m'< (Tr.node l a b c r).aj.length∧ ∃(v:V) (t:Tr) (pl e:Int) (u4 u5 u6 u7:Option V),σ'=[some v,some (.int pl),some (.ref s),some (.int e),u4,u5,u6,u7]∧H'=H2∧Nd H2 t v∧(∀q∈t.aj,bM (ak ts) q)∧0≤pl∧pl≤t.sz∧jr=e+ ((((txt (ak ts) t.aj).take pl.toNat).count 10:Nat):Int)∧m'=t.aj.length,fun σ' H' h=>h, ?_⟩
  refine aZ (bc (ag rfl (aw (aE dU rfl ?_))))
  refine aZ (bL dF rfl (ay (bc (ag rfl (aw (aE dU rfl (aU ⟨vl,l,rfl,gM, ?_⟩)))))))
  refine aZ (aK (ag rfl (bc (ag rfl (aw (aE hq rfl (bJ ?_)))))))
  refine bH (bG (ag rfl (ag rfl (leI ⟨_,rfl, ?_⟩))))
  by_cases g1:pl≤l.sz
  ·refine iT ?_ (decide_eq_true g1)
   refine aZ (bc (ag rfl (aw (aE dU rfl ?_))))
   refine⟨_,(by rw[Tr.aj,List.length_append,List.length_cons];omega),vl,l,pl,e,_,_,_,_,rfl,rfl,gM,fz,h0,g1, ?_,rfl⟩
   rw[et,List.take_append_of_le_length (by omega)]
  ·refine iF ?_ (decide_eq_false g1)
   refine bH (bG (ag rfl (ag rfl (ltI ⟨_,rfl, ?_⟩))))
   by_cases g2:pl<l.sz+b
   ·refine iT ?_ (decide_eq_true g2)
    refine aZ (aK (eS C (fV C) rfl (ag rfl ⟨s,dx,_,rfl,S.ob,zy,aK (aK (bc (ag rfl (aw (aE hq rfl (ag rfl (bJ (ag rfl (fB ?_)))))))))⟩)))
    refine⟨s,dx,lt,lb,lf,ts,_,rfl,S,by omega, ?_⟩
    refine eS C (fV C) rfl (ag rfl ⟨s,dx,_,rfl,S.ob,zy,bc (ag rfl (aw (aE hq rfl ⟨s,dx,lt,lb,lf,ts,_,rfl,S,q0,fB ?_⟩)))⟩)
    refine cE (aK (aK (ag rfl (bL dS rfl (ay (bc (ag rfl (aw (aE dU rfl (aU ⟨vl,l,rfl,gM,bJ (ag rfl (bJ ?_))⟩))))))))))
    have cc:=La (S:=ak ts) (a:=a) (n:=pl - l.sz) q0 (by omega) c
    have e1:a+pl - l.sz=a+ (pl - l.sz):=by omega
    have key:e+l.en+ (ends ts (a+pl - l.sz) - ends ts a)=jr:=by
     rw[e1,et]
     have e2:ends ts (a+ (pl - l.sz)) - ends ts a=((seg (ak ts) (a,pl - l.sz,c)).count 10:Nat):=cc
     rw[e2,el]
     have e3:(txt (ak ts) l.aj++ (seg (ak ts) (a,b,c)++txt (ak ts) r.aj)).take pl.toNat=txt (ak ts) l.aj++ (seg (ak ts) (a,b,c)).take (pl - l.sz).toNat:=by
      rw[show pl.toNat=(txt (ak ts) l.aj).length+ (pl - l.sz).toNat by omega,List.take_length_add_append,List.take_append_of_le_length (by omega)]
     rw[e3,List.count_append]
     have e4:(seg (ak ts) (a,b,c)).take (pl - l.sz).toNat=seg (ak ts) (a,pl - l.sz,c):=by
      unfold seg
      show(((ak ts).drop a.toNat).take b.toNat).take (pl - l.sz).toNat=((ak ts).drop a.toNat).take (pl - l.sz).toNat
      rw[List.take_take];congr 1;omega
     rw[e4];omega
    rw[key];exact k
   ·refine iF ?_ (decide_eq_false g2)
    refine aZ (aK (aK (ag rfl (bL dS rfl (ay (bc (ag rfl (aw (aE dU rfl (aU ⟨vl,l,rfl,gM,bJ (bc (ag rfl (aw (aE hq rfl (bJ ?_)))))⟩))))))))))
    refine aZ (aK (ag rfl (ag rfl (fB ?_))))
    refine aZ (bc (ag rfl (aw (aE dU rfl ?_))))
    refine⟨_,(by rw[Tr.aj,List.length_append,List.length_cons];omega),vr,r,pl - (l.sz+b),e+l.en+c,_,_,_,_,rfl,rfl,oR,oT,by omega,by omega, ?_,rfl⟩
    rw[et,show pl.toNat=(txt (ak ts) l.aj).length+ ((seg (ak ts) (a,b,c)).length+ (pl - (l.sz+b)).toNat) by omega,List.take_length_add_append,List.take_length_add_append,List.count_append,List.count_append,el]
    omega
def pk(C:Addr):Sp:=fun vs H Q E=> ∃(p dx lt lb lf:Addr) (ts:List Str) (n:Int) (j:Nat),vs=[.ref p, .int n]∧bU C H p dx lt lb lf ts∧0≤n∧(pos 10 (ak ts) 0)[n.toNat]?=some j∧Q (.int j) H
theorem ae_{K:PySem.W.Frag}{C:Addr}(T:mQ K C)(vs:List V)(H:Hp)(Q:VK)(E:XK)(h:pk C vs H Q E):ar (aR K [] [] (E:=E)) yg (Dn Q) (start yf vs) H:=by
 obtain⟨p,dx,lt,lb,lf,ts,n,j,rfl,S,hn,hj,q⟩:=h
 refine cE (bc (dr (ag rfl ⟨p,C,dx,_,_,rfl,S.ob,T.cl,T.rA,yQ,ag rfl (lS S.fd ?_ q)⟩)))
 have e:=iR (xs:=(dP 10 (ak ts)).map V.int) (j:=n.toNat) (v:= .int j) (by rw[List.getElem?_map,dP,List.getElem?_map,hj];rfl)
 rw[show((n.toNat:Nat):Int)=n by omega] at e
 exact e
theorem afa{S:List Nat}{l r:Tr}{a b c:Int}:pos 10 (txt S (Tr.node l a b c r).aj) 0=pos 10 (txt S l.aj) 0++ ((pos 10 (seg S (a,b,c)) 0).map ((txt S l.aj).length+ ·)++ (pos 10 (txt S r.aj) 0).map ((txt S l.aj).length+ (seg S (a,b,c)).length+ ·)):=by
 rw[LM,i_,i_]
 have e1:=oz 10 (seg S (a,b,c)) (txt S l.aj).length 0
 have e2:=oz 10 (txt S r.aj) ((txt S l.aj).length+ (seg S (a,b,c)).length) 0
 rw[Nat.add_zero] at e1 e2
 rw[Nat.zero_add,e1,e2]
def iB(C:Addr):Sp:=fun vs H Q E=> ∃(v:V) (t:Tr) (n:Int) (s dx lt lb lf:Addr) (ts:List Str) (j:Nat),vs=[v, .int n, .ref s]∧Nd H t v∧(∀q∈t.aj,bM (ak ts) q)∧bU C H s dx lt lb lf ts∧0≤n∧(pos 10 (txt (ak ts) t.aj) 0)[n.toNat]?=some j∧Q (.int j) H
def pq(H:Hp)(s:Addr)(S:List Nat)(jr:Int)(m:Nat)(σ:St)(H2:Hp):Prop:=
 ∃(v:V) (t:Tr) (n e:Int) (j:Nat) (u4 u5:Option V),σ=[some v,some (.int n),some (.ref s),some (.int e),u4,u5]∧H2=H∧Nd H t v∧(∀q∈t.aj,bM S q)∧0≤n∧(pos 10 (txt S t.aj) 0)[n.toNat]?=some j∧jr=e+j∧m=t.aj.length
abbrev zz(C:Addr):List (Str×Addr×Sp):=[("end_place",C,pk C),("ends_ahead",C,fV C)]
theorem afb{K:PySem.W.Frag}{C:Addr}(vs:List V)(H:Hp)(Q:VK)(E:XK)(h:iB C vs H Q E):ar (aR K [("ends_of",dS),("size_of",dF)] [] [] (zz C) (E:=E)) ye (Dn Q) (start yd vs) H:=by
 obtain⟨v,t,n,s,dx,lt,lb,lf,ts,j,rfl,hn,hp,S,h0,hj,k⟩:=h
 refine aZ (aw ?_)
 refine yN (pq H s (ak ts) (j:Int)) ⟨_,v,t,n,0,j,none,none,rfl,rfl,hn,hp,h0,hj,by omega,rfl⟩ ?_
 rintro m σ H2 ⟨v,t,n,e,j',u4,u5,rfl,rfl,hn,hp,h0,bF,et,rfl⟩
 cases t with
 | nil=>exact absurd bF (by show ¬([]:List Nat)[n.toNat]?=some j';simp)
 | node l a b c r=>
  obtain⟨p,q,vl,vr,rfl,dU,hq,gM,oR⟩:=hn
  have fz: ∀x∈l.aj,bM (ak ts) x:=fun x hx=>hp x (by simp[Tr.aj,hx])
  have oT: ∀x∈r.aj,bM (ak ts) x:=fun x hx=>hp x (by simp[Tr.aj,hx])
  have pc:=hp (a,b,c) (by simp[Tr.aj])
  have q0:0≤a:=pc.p0
  have q1:1≤b:=pc.p1
  have q2:a+b≤ (ak ts).length:=pc.p2
  have q3:c=((seg (ak ts) (a,b,c)).count 10:Nat):=pc.p3
  have ql:((seg (ak ts) (a,b,c)).length:Int)=b:=pc.len
  have zl:=LO fz
  have el:=LN fz
  rw[afa] at bF
  have L1:=ee 10 (txt (ak ts) l.aj) 0
  have L2:((pos 10 (seg (ak ts) (a,b,c)) 0).map ((txt (ak ts) l.aj).length+ ·)).length=(seg (ak ts) (a,b,c)).count 10:=by rw[List.length_map,ee]
  have rL: ∀{σ:St} {Q1:VK},σ[0]?=some (some (.ref p))→Q1 (.int l.en) H2→ah (aR K [("ends_of",dS),("size_of",dF)] [] [] (zz C) (E:=E)) (.call 0 [(.ix (.v 0) (.c (.int 0)))]) σ H2 Q1:=fun e0 q=>bL dS rfl (ay (bc (ag e0 (aw (aE dU rfl (aU ⟨vl,l,rfl,gM,q⟩))))))
  have rZ: ∀{σ:St} {Q1:VK},σ[0]?=some (some (.ref p))→Q1 (.int l.sz) H2→ah (aR K [("ends_of",dS),("size_of",dF)] [] [] (zz C) (E:=E)) (.call 1 [(.ix (.v 0) (.c (.int 0)))]) σ H2 Q1:=fun e0 q=>bL dF rfl (ay (bc (ag e0 (aw (aE dU rfl (aU ⟨vl,l,rfl,gM,q⟩))))))
  refine iq (bG (ag rfl (rL rfl (ltI ⟨_,rfl, ?_⟩))))
  have less: ∀m',m'< (Tr.node l a b c r).aj.length→ ∀σ' H',pq H2 s (ak ts) (j:Int) m' σ' H'→ ∃m',m'< (Tr.node l a b c r).aj.length∧pq H2 s (ak ts) (j:Int) m' σ' H':=fun m' h σ' H' x=> ⟨m',h,x⟩
  have aoW:(Tr.node l a b c r).aj.length=l.aj.length+ (r.aj.length+1):=by rw[Tr.aj,List.length_append,List.length_cons]
  by_cases g1:n<l.en
  ·refine iT (iT ?_ rfl) (decide_eq_true g1)
   refine⟨pq H2 s (ak ts) (j:Int) l.aj.length,less _ (by omega), ?_⟩
   refine bH (bG (ag rfl (rL rfl (ltI ⟨_,rfl,iT ?_ (decide_eq_true g1)⟩))))
   refine aZ (bc (ag rfl (aw (aE dU rfl ?_))))
   refine⟨vl,l,n,e,j',u4,u5,rfl,rfl,gM,fz,h0, ?_,et,rfl⟩
   rw[List.getElem?_append_left (by omega)] at bF
   exact bF
  ·refine iF ?_ (decide_eq_false g1)
   rw[List.getElem?_append_right (by omega),L1] at bF
   refine bG (ag rfl (aK (rL rfl (bc (bc (ag rfl (aw (aE dU rfl (aw (aE hq rfl (bJ (geI ⟨_,rfl, ?_⟩))))))))))))
   by_cases g2:l.en+c≤n
   ·refine iT ?_ (decide_eq_true g2)
    refine⟨pq H2 s (ak ts) (j:Int) r.aj.length,less _ (by omega), ?_⟩
    refine bH (bG (ag rfl (rL rfl (ltI ⟨_,rfl,iF ?_ (decide_eq_false g1)⟩))))
    refine aZ (aK (aK (ag rfl (rL rfl (fB (bc (bc (ag rfl (aw (aE dU rfl (aw (aE hq rfl (fB ?_)))))))))))))
    refine aZ (aK (aK (ag rfl (rZ rfl (bJ (bc (bc (ag rfl (aw (aE dU rfl (aw (aE hq rfl (bJ ?_)))))))))))))
    refine aZ (bc (ag rfl (aw (aE dU rfl ?_))))
    rw[List.getElem?_append_right (by omega),L2,List.getElem?_map] at bF
    obtain⟨j2,yX,e2⟩:=Option.map_eq_some_iff.mp bF
    refine⟨vr,r,n - l.en - c,e+l.sz+b,j2,u4,u5,rfl,rfl,oR,oT,by omega, ?_,by omega,rfl⟩
    rw[show(n - l.en - c).toNat=n.toNat - (txt (ak ts) l.aj).count 10 - (seg (ak ts) (a,b,c)).count 10 by omega]
    exact yX
   ·refine iF ?_ (decide_eq_false g2)
    rw[List.getElem?_append_left (by omega),List.getElem?_map] at bF
    obtain⟨g,hg,e2⟩:=Option.map_eq_some_iff.mp bF
    refine aZ (bc (bc (ag rfl (aw (aE dU rfl (aw (aE hq rfl ?_)))))))
    have ea:ends ts a=(((ak ts).take a.toNat).count 10:Nat):=rfl
    refine aZ (eS C (pk C) rfl (ag rfl ⟨s,dx,_,rfl,S.ob,ae6,aK (aK (eS C (fV C) rfl (ag rfl ⟨s,dx,_,rfl,S.ob,zy,ag rfl ⟨s,dx,lt,lb,lf,ts,a,rfl,S,q0,ag rfl (bJ (rL rfl (fB ?_)))⟩⟩)))⟩))
    have es:ak ts=(ak ts).take a.toNat++ (seg (ak ts) (a,b,c)++ ((ak ts).drop a.toNat).drop b.toNat):=by
     show ak ts=(ak ts).take a.toNat++ (((ak ts).drop a.toNat).take b.toNat++ ((ak ts).drop a.toNat).drop b.toNat)
     rw[List.take_append_drop,List.take_append_drop]
    have lt':((ak ts).take a.toNat).length=a.toNat:=by rw[List.length_take];omega
    have key:(pos 10 (ak ts) 0)[(ends ts a+n - l.en).toNat]?=some (a.toNat+g):=by
     have e3:pos 10 (ak ts) 0=pos 10 ((ak ts).take a.toNat) 0++ ((pos 10 (seg (ak ts) (a,b,c)) 0).map (a.toNat+ ·)++pos 10 (((ak ts).drop a.toNat).drop b.toNat) (a.toNat+ (seg (ak ts) (a,b,c)).length)):=by
      have p1:=oz 10 (seg (ak ts) (a,b,c)) a.toNat 0
      rw[Nat.add_zero] at p1
      rw[←p1]
      conv=>lhs;rw[es,i_,i_,lt',Nat.zero_add]
     rw[e3,List.getElem?_append_right (by rw[ee];omega),ee,List.getElem?_append_left (by rw[List.length_map,ee];omega),List.getElem?_map]
     rw[show(ends ts a+n - l.en).toNat - ((ak ts).take a.toNat).count 10=n.toNat - (txt (ak ts) l.aj).count 10 by omega,hg];rfl
    refine⟨s,dx,lt,lb,lf,ts,_,a.toNat+g,rfl,S,by omega,key, ?_⟩
    refine cE (aK (aK (aK (ag rfl (rZ rfl (bJ (ag rfl (bJ (ag rfl (fB ?_))))))))))
    rw[show e+l.sz+ ((a.toNat+g:Nat):Int) - a=(j:Int) by omega]
    exact k
theorem LP{Γ:aF}{σ:St}{H:Hp}{Q:VK}{t a b:RE}(h:br Γ t σ H fun c H1=>if c=true then ah Γ a σ H1 Q else ah Γ b σ H1 Q):ah Γ (.hX t a b) σ H Q:=h
def bS(l:List Nat)(i:Nat):Nat:=if i=0 then 0 else ((pos 10 l 0)[i - 1]?).getD 0+1
def cP(l:List Nat)(i:Nat):Int:=(if i=l.count 10 then (l.length:Int) else ((((pos 10 l 0)[i]?).getD 0:Nat):Int)) - bS l i
theorem iC{l:List Nat}{i:Nat}(h:i<l.count 10):(pos 10 l 0)[i]?=some (((pos 10 l 0)[i]?).getD 0):=by
 have:i< (pos 10 l 0).length:=by rw[ee];exact h
 simp[this]
section
variable {K:PySem.W.Frag} {CP C:Addr}
def fD(CP C:Addr):Sp:=fun vs H Q E=> ∃(p dp s dx lt lb lf:Addr) (v:V) (t:Tr) (ts:List Str) (i:Nat),vs=[.ref p, .int i]∧cB CP H p dp s v t (ak ts)∧bU C H s dx lt lb lf ts∧i≤ (txt (ak ts) t.aj).count 10∧Q (.int (bS (txt (ak ts) t.aj) i)) H
theorem afc(T:fO K CP)(vs:List V)(H:Hp)(Q:VK)(E:XK)(h:fD CP C vs H Q E):ar (aR K [("place_of_end",iB C)] [] (E:=E)) yi (Dn Q) (start yh vs) H:=by
 obtain⟨p,dp,s,dx,lt,lb,lf,v,t,ts,i,rfl,P,S,hi,q⟩:=h
 unfold bS at q
 refine cE (LP (bG (ag rfl (aw (gK ⟨_,rfl, ?_⟩)))))
 by_cases z:i=0
 ·rw[if_pos z] at q
  exact iT (aw q) (decide_eq_true (by omega))
 ·rw[if_neg z] at q
  refine iF ?_ (decide_eq_false (by omega))
  refine aK (bL (iB C) rfl (ay (dr (ag rfl ⟨p,CP,dp,_,_,rfl,P.ob,T.cl,T.i8,mi,ay (aK (ag rfl (aw (fB (ay (dr (ag rfl ⟨p,CP,dp,_,_,rfl,P.ob,T.cl,T.fP,gO,aU ?_⟩)))))))⟩))))
  have hp:=iC (l:=txt (ak ts) t.aj) (i:=i - 1) (by omega)
  refine⟨v,t,(i:Int) - 1,s,dx,lt,lb,lf,ts,_,rfl,P.nd,P.pc,S,by omega,by rw[show((i:Int) - 1).toNat=i - 1 by omega];exact hp,aw (bJ ?_)⟩
  exact q
def iD(CP C:Addr):Sp:=fun vs H Q E=> ∃(p dp s dx lt lb lf:Addr) (v:V) (t:Tr) (ts:List Str) (i:Nat),vs=[.ref p, .int i]∧cB CP H p dp s v t (ak ts)∧bU C H s dx lt lb lf ts∧i≤ (txt (ak ts) t.aj).count 10∧Q (.int (cP (txt (ak ts) t.aj) i)) H
theorem afd{CE:Addr}(T:fO K CP)(vs:List V)(H:Hp)(Q:VK)(E:XK)(h:iD CP C vs H Q E):
  ar (aR K [("is_between",cK),("place_of_end",iB C)] [] [] [("lines",CP,gQ CP),("size",CP,dX CP),("line_begin",CP,fD CP C)] (et:=[("NoPlace",CE)]) (E:=E)) yk (Dn Q) (start yj vs) H:=by
 obtain⟨p,dp,s,dx,lt,lb,lf,v,t,ts,i,rfl,P,S,hi,q⟩:=h
 have n1:(c_ s v).lookup ("lines":Str)=none:=dW (by decide+kernel) (by decide+kernel)
 have n2:(c_ s v).lookup ("size":Str)=none:=dW (by decide+kernel) (by decide+kernel)
 have n3:(c_ s v).lookup ("line_begin":Str)=none:=dW (by decide+kernel) (by decide+kernel)
 refine bH (dt (dR cK rfl (ay (ag rfl (ay (aw (ay (aK (je CP (gQ CP) rfl (ag rfl ⟨p,dp,_,rfl,P.ob,n1,p,dp,s,v,t,_,rfl,P,aw (fB (aU ⟨_,_,_,rfl, .inl ⟨_,rfl,by omega,by omega,dE (iF (cL ?_) rfl)⟩⟩))⟩))))))))))
 refine aZ (rT (ag rfl (aK (je CP (gQ CP) rfl (ag rfl ⟨p,dp,_,rfl,P.ob,n1,p,dp,s,v,t,_,rfl,P,aw (fB (gK ?_))⟩)))))
 have fin: ∀(e:Int) (u:Option V),e - bS (txt (ak ts) t.aj) i=cP (txt (ak ts) t.aj) i→ar (aR K [("is_between",cK),("place_of_end",iB C)] [] [] [("lines",CP,gQ CP),("size",CP,dX CP),("line_begin",CP,fD CP C)] (et:=[("NoPlace",CE)]) (E:=E)) [.ret (.bin .Sub (.v 3) (.bP 2 "line_begin" (.v 0) [(.v 1)]))] (Dn Q) [some (.ref p),some (.int i),u,some (.int e)] H:=by
  intro e u he
  refine cE (aK (ag rfl (eS CP (fD CP C) rfl (ag rfl ⟨p,dp,_,rfl,P.ob,n3,ag rfl ⟨p,dp,s,dx,lt,lb,lf,v,t,ts,i,rfl,P,S,hi,fB ?_⟩⟩))))
  rw[he];exact q
 refine aZ (LP ?_)
 refine⟨_,rfl, ?_⟩
 by_cases z:i=(txt (ak ts) t.aj).count 10
 ·refine iT ?_ (decide_eq_true (by omega))
  refine je CP (dX CP) rfl (ag rfl ⟨p,dp,_,rfl,P.ob,n2,p,dp,s,v,t,_,rfl,P,fin _ _ ?_⟩)
  unfold cP;rw[if_pos z]
 ·refine iF ?_ (decide_eq_false (by omega))
  refine bL (iB C) rfl (ay (dr (ag rfl ⟨p,CP,dp,_,_,rfl,P.ob,T.cl,T.i8,mi,ay (ag rfl (ay (dr (ag rfl ⟨p,CP,dp,_,_,rfl,P.ob,T.cl,T.fP,gO,aU ?_⟩))))⟩)))
  have hp:=iC (l:=txt (ak ts) t.aj) (i:=i) (by omega)
  refine⟨v,t,(i:Int),s,dx,lt,lb,lf,ts,_,rfl,P.nd,P.pc,S,by omega,hp,fin _ _ ?_⟩
  unfold cP;rw[if_neg z]
end
section
variable {K:PySem.W.Frag} {CP C:Addr}
def iE(l:List Nat)(pl:Nat):Nat:=(l.take pl).count 10
theorem LQ(l:List Nat)(pl:Nat):iE l pl≤l.count 10:=by
 unfold iE
 have:l.count 10=(l.take pl).count 10+ (l.drop pl).count 10:=by rw[←List.count_append,List.take_append_drop]
 omega
def pw(CP C:Addr):Sp:=fun vs H Q E=> ∃(p dp s dx lt lb lf:Addr) (v:V) (t:Tr) (ts:List Str) (pl:Nat),vs=[.ref p, .int pl]∧cB CP H p dp s v t (ak ts)∧bU C H s dx lt lb lf ts∧pl≤ (txt (ak ts) t.aj).length∧
 ∀w H',aG H H'→H w=none→H' w=some (.tup [.int (iE (txt (ak ts) t.aj) pl:Nat), .int ((pl:Int) - bS (txt (ak ts) t.aj) (iE (txt (ak ts) t.aj) pl))])→Q (.ref w) H'
theorem afe{CE:Addr}(T:fO K CP)(vs:List V)(H:Hp)(Q:VK)(E:XK)(h:pw CP C vs H Q E):
  ar (aR K [("is_between",cK),("ends_ahead_of",pj C)] [] [] [("size",CP,dX CP),("line_begin",CP,fD CP C)] (et:=[("NoPlace",CE)]) (E:=E)) ym (Dn Q) (start yl vs) H:=by
 obtain⟨p,dp,s,dx,lt,lb,lf,v,t,ts,pl,rfl,P,S,hp,q⟩:=h
 have n2:(c_ s v).lookup ("size":Str)=none:=dW (by decide+kernel) (by decide+kernel)
 have n3:(c_ s v).lookup ("line_begin":Str)=none:=dW (by decide+kernel) (by decide+kernel)
 have hz:=P.sz
 refine bH (dt (dR cK rfl (ay (ag rfl (ay (aw (ay (je CP (dX CP) rfl (ag rfl ⟨p,dp,_,rfl,P.ob,n2,p,dp,s,v,t,_,rfl,P,aU ⟨_,_,_,rfl, .inl ⟨_,rfl,by omega,by omega,dE (iF (cL ?_) rfl)⟩⟩⟩)))))))))
 refine aZ (bL (pj C) rfl (ay (dr (ag rfl ⟨p,CP,dp,_,_,rfl,P.ob,T.cl,T.i8,mi,ay (ag rfl (ay (dr (ag rfl ⟨p,CP,dp,_,_,rfl,P.ob,T.cl,T.fP,gO,aU ?_⟩))))⟩))))
 refine⟨v,t,pl,s,dx,lt,lb,lf,ts,rfl,P.nd,P.pc,S,by omega,by omega, ?_⟩
 have ll:=LQ (txt (ak ts) t.aj) pl
 refine cE (ip (ay (ag rfl (ay (aK (ag rfl (eS CP (fD CP C) rfl (ag rfl ⟨p,dp,_,rfl,P.ob,n3,ag rfl ⟨p,dp,s,dx,lt,lb,lf,v,t,ts,iE (txt (ak ts) t.aj) pl,rfl,P,S,ll,fB (aU ⟨(by show 2≤sizeLine;decide),fun w fw=> ?_⟩)⟩⟩))))))))
 exact q w _ (sameNew fw) fw aS
def iG(CP C:Addr):Sp:=fun vs H Q E=> ∃(p dp s dx lt lb lf:Addr) (v:V) (t:Tr) (ts:List Str) (i:Nat) (c:Int),vs=[.ref p, .int i, .int c]∧cB CP H p dp s v t (ak ts)∧bU C H s dx lt lb lf ts∧i≤ (txt (ak ts) t.aj).count 10∧0≤c∧c≤cP (txt (ak ts) t.aj) i∧Q (.int (bS (txt (ak ts) t.aj) i+c)) H
theorem aff{CE:Addr}(vs:List V)(H:Hp)(Q:VK)(E:XK)(h:iG CP C vs H Q E):
  ar (aR K [("is_between",cK)] [] [] [("line_size",CP,iD CP C),("line_begin",CP,fD CP C)] (et:=[("NoPlace",CE)]) (E:=E)) yo (Dn Q) (start yn vs) H:=by
 obtain⟨p,dp,s,dx,lt,lb,lf,v,t,ts,i,c,rfl,P,S,hi,h0,h1,q⟩:=h
 have n2:(c_ s v).lookup ("line_size":Str)=none:=dW (by decide+kernel) (by decide+kernel)
 have n3:(c_ s v).lookup ("line_begin":Str)=none:=dW (by decide+kernel) (by decide+kernel)
 refine bH (dt (dR cK rfl (ay (ag rfl (ay (aw (ay (eS CP (iD CP C) rfl (ag rfl ⟨p,dp,_,rfl,P.ob,n2,ag rfl ⟨p,dp,s,dx,lt,lb,lf,v,t,ts,i,rfl,P,S,hi,aU ⟨_,_,_,rfl, .inl ⟨_,rfl,by omega,by omega,dE (iF (cL ?_) rfl)⟩⟩⟩⟩)))))))))
 exact cE (aK (eS CP (fD CP C) rfl (ag rfl ⟨p,dp,_,rfl,P.ob,n3,ag rfl ⟨p,dp,s,dx,lt,lb,lf,v,t,ts,i,rfl,P,S,hi,ag rfl (bJ q)⟩⟩)))
end
def lend(l:List Nat)(i:Nat):Nat:=if i=l.count 10 then l.length else ((pos 10 l 0)[i]?).getD 0
theorem LR(l:List Nat)(i:Nat):cP l i=(lend l i:Int) - bS l i:=by
 unfold cP lend
 split<;>rfl
theorem zA{l:List Nat}{i j:Nat}(h:(pos 10 l 0)[i]?=some j):j<l.length:=by
 have:=(gH 10 l 0 j (List.mem_of_getElem? h)).2
 omega
theorem afg{l:List Nat}{i j k:Nat}(h:(pos 10 l 0)[i]?=some j)(h':(pos 10 l 0)[i+1]?=some k):j<k:=by
 obtain⟨a,rfl⟩:=List.getElem?_eq_some_iff.mp h
 obtain⟨b,rfl⟩:=List.getElem?_eq_some_iff.mp h'
 exact List.pairwise_iff_getElem.mp (rF 10 l 0) i (i+1) a b (by omega)
theorem sJ{l:List Nat}{i:Nat}(h:i≤l.count 10):bS l i≤lend l i∧lend l i≤l.length:=by
 unfold bS lend
 by_cases z:i=0
 ·rw[if_pos z]
  by_cases g:i=l.count 10
  ·rw[if_pos g];omega
  ·rw[if_neg g]
   have:=zA (iC (l:=l) (i:=i) (by omega))
   omega
 ·rw[if_neg z]
  have p1:=iC (l:=l) (i:=i - 1) (by omega)
  have l1:=zA p1
  by_cases g:i=l.count 10
  ·rw[if_pos g];omega
  ·rw[if_neg g]
   have p2:=iC (l:=l) (i:=i) (by omega)
   have l2:=zA p2
   have:=afg p1 (by rw[show i - 1+1=i by omega];exact p2)
   omega
theorem afh{l:List Nat}{i:Nat}(h:i<l.count 10):bS l (i+1)=lend l i+1:=by
 unfold bS lend
 rw[if_neg (by omega),if_neg (by omega)];rfl
theorem afi(l:List Nat):lend l (l.count 10)=l.length:=by unfold lend;rw[if_pos rfl]
theorem afj{l:List Nat}{i m:Nat}(h:i≤l.count 10)(h1:bS l i≤m)(h2:m≤lend l i):iE l m=i:=by
 have ok:=sJ h
 have ml:m≤l.length:=by omega
 have lt:(l.take m).length=m:=by rw[List.length_take];omega
 have sp:pos 10 l 0=pos 10 (l.take m) 0++pos 10 (l.drop m) m:=by
  conv=>lhs;rw[←List.take_append_drop m l,i_,lt,Nat.zero_add]
 have L1:(pos 10 (l.take m) 0).length=iE l m:=ee 10 _ 0
 have le:=LQ l m
 by_cases g:iE l m<i
 ·exfalso
  obtain⟨j,hj⟩: ∃j,(pos 10 l 0)[i - 1]?=some j:=⟨_,iC (by omega)⟩
  have e:bS l i=j+1:=by unfold bS;rw[if_neg (by omega),hj];rfl
  rw[sp,List.getElem?_append_right (by omega)] at hj
  have:=(gH 10 _ m _ (List.mem_of_getElem? hj)).1
  omega
 ·by_cases g':i<iE l m
  ·exfalso
   have ne: ¬i=l.count 10:=by omega
   obtain⟨j,hj⟩: ∃j,(pos 10 l 0)[i]?=some j:=⟨_,iC (by omega)⟩
   have e:lend l i=j:=by unfold lend;rw[if_neg ne,hj];rfl
   rw[sp,List.getElem?_append_left (by omega)] at hj
   have:=(gH 10 _ 0 _ (List.mem_of_getElem? hj)).2
   rw[lt] at this
   omega
  ·omega
theorem afk(x:Str):Builtin.Str.occurrences x (Str.ofString "\n") 0 x.length (x.length+1)=pos 10 x.cps.toList 0:=by
 have:=yD x 10 0 (x.length+1) (Nat.zero_le _)
 rw[List.drop_zero] at this
 show Builtin.Str.occurrences x ⟨#[10]⟩ 0 x.length (x.length+1)=_
 rw[this,List.take_of_length_le]
 rw[ee]
 have:x.cps.toList.count 10≤x.length:=by rw[len_list];exact List.count_le_length
 omega
theorem LS(x:Str):Txt.split x (Str.ofString "\n")=Builtin.Str.partsBetween x (pos 10 x.cps.toList 0) 1:=by
 have one:pos 10 x.cps.toList 0=[]→Builtin.Str.partsBetween x (pos 10 x.cps.toList 0) 1=[x]:=fun e=>by
  rw[e]
  show[Builtin.Str.strSub x 0 x.length]=[x]
  congr 1
  apply ij
  show(x.cps.extract 0 x.cps.size).toList=x.cps.toList
  simp
 unfold Txt.split
 rw[afk]
 by_cases h:(decide (x.length< (Str.ofString "\n").length) || decide (Builtin.Str.strKind x<Builtin.Str.strKind (Str.ofString "\n")))=true
 ·rw[if_pos h]
  refine(one ?_).symm
  have k1:Builtin.Str.strKind (Str.ofString "\n")=1:=by decide+kernel
  have k2:1≤Builtin.Str.strKind x:=by unfold Builtin.Str.strKind;split<;> (try split) <;>decide
  have l1:(Str.ofString "\n").length=1:=by decide+kernel
  rw[k1,l1,Bool.or_eq_true] at h
  have:x.length=0:=by
   rcases h with h | h
   ·have:=of_decide_eq_true h;omega
   ·have:=of_decide_eq_true h;omega
  have e:x.cps.toList=[]:=List.eq_nil_of_length_eq_zero (by rw[←len_list];exact this)
  rw[e];rfl
 ·rw[if_neg h]
  by_cases g:(pos 10 x.cps.toList 0).isEmpty=true
  ·rw[if_pos g]
   exact(one (List.isEmpty_iff.mp g)).symm
  ·rw[if_neg g];rfl
theorem split_len(x:Str):(Txt.split x (Str.ofString "\n")).length=x.cps.toList.count 10+1:=by rw[LS,length_partsBetween,ee]
theorem afl{x:Str}{i:Nat}(h:i≤x.cps.toList.count 10): ∃z,(Txt.split x (Str.ofString "\n"))[i]?=some z∧z.length=lend x.cps.toList i - bS x.cps.toList i:=by
 rw[LS]
 have L:=ee 10 x.cps.toList 0
 have ok:=sJ h
 have e1:(0::(pos 10 x.cps.toList 0).map (· +1))[i]?=some (bS x.cps.toList i):=by
  unfold bS
  by_cases z:i=0
  ·rw[if_pos z,z];rfl
  ·rw[if_neg z]
   obtain⟨k,rfl⟩: ∃k,i=k+1:=⟨i - 1,by omega⟩
   rw[List.getElem?_cons_succ,List.getElem?_map,iC (by omega)];rfl
 have e2:(pos 10 x.cps.toList 0++ [x.length])[i]?=some (lend x.cps.toList i):=by
  unfold lend
  by_cases z:i=x.cps.toList.count 10
  ·rw[if_pos z,List.getElem?_append_right (by omega),L,z,Nat.sub_self,←len_list];rfl
  ·rw[if_neg z,List.getElem?_append_left (by omega)]
   exact iC (by omega)
 refine⟨Builtin.Str.strSub x (bS x.cps.toList i) (lend x.cps.toList i), ?_, ?_⟩
 ·show(((0::(pos 10 x.cps.toList 0).map (· +1)).zip (pos 10 x.cps.toList 0++ [x.length])).map fun(i,j)=>Builtin.Str.strSub x i j)[i]?=_
  rw[List.getElem?_map,(List.getElem?_zip_eq_some (z:=(bS x.cps.toList i,lend x.cps.toList i))).mpr ⟨e1,e2⟩];rfl
 ·show(x.cps.extract (bS x.cps.toList i) (lend x.cps.toList i)).size=_
  rw[Array.size_extract]
  have:x.cps.size=x.cps.toList.length:=by simp
  omega
end L2.N
namespace L2.B
open PySem PySem.Spec PyProof.Rows
end L2.B
namespace L2
open PySem PySem.Spec PyProof.Rows
end L2
namespace L2.B
open PySem PySem.Spec PyProof.Rows
end L2.B
namespace L2.B
end L2.B
namespace L2.B
open PySem PySem.Spec PyProof.Rows
section
variable {H:Hp} {Q:VK} {E:XK}
end
theorem afm{K:PySem.W.Frag}(vs:List V)(H:Hp)(Q:VK)(E:XK)(h:gI vs H Q E):ar (aR K [] [] (E:=E)) wI (Dn Q) (start rn vs) H:=by
 obtain⟨i,rfl,q⟩:=h
 exact⟨_,rfl,rfl,_,rfl,dH ⟨_,rfl,rfl,q⟩⟩
end L2.B
namespace L2
open PySem PySem.Spec PyProof.Rows
theorem afn{K:PySem.W.Frag}{i j:Nat}{t:Addr}{v w:V}{σ:St}{H:Hp}{Q:St→Hp→Prop}(ht:H t=some (.tup [v,w]))(q:Q ((σ.set i (some v)).set j (some w)) H):mK K [i,j].length (jS [i,j]) (.ref t) σ H Q:=
 ⟨t,_,rfl, .inl (a_.of ht),rfl,_,_,rfl,_,_,rfl,rfl,q⟩
end L2
namespace L2.B
open PySem PySem.Spec PyProof.Rows
section
variable {H:Hp} {Q:VK} {E:XK}
end
end L2.B
namespace L2.N
open PySem PySem.Spec L2.B
structure eU (CP C:Addr) (H:Hp) (p dp s dx lt lb lf:Addr) (v:V) (t:Tr) (ts:List Str) (x:Str):Prop where
 pa:cB CP H p dp s v t (ak ts)
 st:bU C H s dx lt lb lf ts
 l1:t.aj.length≤1000
 l2:ts.length≤10000
 l3:(ak ts).length≤500000
 tx:txt (ak ts) t.aj=x.cps.toList
 go:good x
theorem eU.same{CP C:Addr}{H H':Hp}{p dp s dx lt lb lf:Addr}{v:V}{t:Tr}{ts:List Str}{x:Str}(B:eU CP C H p dp s dx lt lb lf v t ts x)(h:aG H H'):eU CP C H' p dp s dx lt lb lf v t ts x:=⟨B.pa.same h,B.st.same h,B.l1,B.l2,B.l3,B.tx,B.go⟩
section
variable {K:PySem.W.Frag} {CP C:Addr} {H H':Hp} {p dp s dx lt lb lf:Addr} {v:V} {t:Tr} {ts:List Str} {x:Str}
theorem eU.l4(B:eU CP C H p dp s dx lt lb lf v t ts x):(txt (ak ts) t.aj).length≤1000000:=by rw[B.tx,←len_list];exact B.go.1
end
section
variable {K:PySem.W.Frag} {H:Hp} {Q:VK}
theorem afo{Γ:aF}{σ:St}{a b:RE}{QT:Bool→Hp→Prop}(h:bq Γ [a,b] σ H fun vs H1=>rD Γ.K vs H1 fun x H2=>gw Γ.K x H2 fun b=>QT b H2):br Γ (.xt xX [a,b]) σ H QT:=h
end
structure Kp (lt lb lf a:Addr):Prop where
 k1:a≠lt
 k2:a≠lb
 k3:a≠lf
theorem Kp.of{C:Addr}{H:Hp}{s dx lt lb lf a:Addr}{ts:List Str}(S:bU C H s dx lt lb lf ts)(h:H a=none):Kp lt lb lf a:=
 ⟨fun z=> (by rw[z,S.tx] at h;cases h),fun z=> (by rw[z,S.bg] at h;cases h),fun z=> (by rw[z,S.fd] at h;cases h)⟩
theorem LU{C:Addr}{H H':Hp}{s dx lt lb lf a:Addr}{ts:List Str}{xs:List V}(S:bU C H s dx lt lb lf ts)(b:dD s lt lb lf H H')(k:Kp lt lb lf a)(h:H a=some (.lst xs)):H' a=some (.lst xs):=
 b _ _ h (fun z=>by rw[z,S.ob] at h;cases h) k.k1 k.k2 k.k3
theorem afp(xs:List V)(i j:Nat):eB xs (some (i:Int)) (some (j:Int))=(xs.drop i).take (j - i):=by
 unfold eB
 rw[HT.mD,HT.mD]
 by_cases h:i≤xs.length
 ·by_cases h2:j≤xs.length
  ·rw[show min i xs.length=i by omega,show min j xs.length=j by omega]
  ·rw[show min i xs.length=i by omega,show min j xs.length=xs.length by omega,List.take_of_length_le (by rw[List.length_drop];omega),List.take_of_length_le (by rw[List.length_drop];omega)]
 ·rw[List.drop_of_length_le (by omega),List.drop_of_length_le (by omega),List.take_nil,List.take_nil]
end L2.N
namespace L2.j7
open PySem PySem.Spec L2.B L2.N
section
variable {K:PySem.W.Frag} {CP C:Addr} {H:Hp} {Q:VK}
theorem afq(n m:Int):PyData.eqv (.tuple [.int n, .int m]) (.tuple [.int n, .int m])=true:=SeqAt.eqv_refl _ (SeqAt.canLay_of_shaped (by rfl))
theorem afr{a b:Addr}{n m:Int}(ha:H a=some (.tup [.int n, .int m]))(hb:H b=some (.tup [.int n, .int m]))(q:Q (.bl true) H):cn K .Eq (.ref a) (.ref b) H Q:=by
 have is: ∀c:Addr,H c=some (.tup [.int n, .int m])→Is H (.tuple [.int n, .int m]) (.ref c):=fun c hc=> ⟨c,_,rfl,hc, .int n,[.int m],rfl,rfl, .int m,[],rfl,rfl,rfl⟩
 refine⟨.tuple [.int n, .int m], .tuple [.int n, .int m],is a ha,is b hb,(by rfl),(by rfl), ?_⟩
 rw[afq];exact q
def pA:Sp:=fun vs H Q E=> ∃(w:Addr) (a b:Int),vs=[.ref w, .int a, .int b]∧H w=some (.tup [.int a, .int b])∧ ∀H',aG H H'→Q (.bl true) H'
theorem afs(vs:List V)(H:Hp)(Q:VK)(E:XK)(h:pA vs H Q E):ar (aR K [("_law_whole",gI)] [] (E:=E)) yu (Dn Q) (start yt vs) H:=by
 obtain⟨w,a,b,rfl,hw,k⟩:=h
 refine bH (oO (dt (ac8 (ag rfl (yF hw (iF ?_ rfl))))))
 refine oO (bG (fW (ag rfl ?_)))
 refine .inr ⟨_,a_.of hw, ?_⟩
 refine aw (m3 ⟨_,rfl,iF ?_ (by simp)⟩)
 refine oO (dt (dR gI rfl (ay (bc (ag rfl (aw (aE hw rfl (aU ⟨a,rfl,dE (iF ?_ rfl)⟩))))))))
 refine KZ (dt (dR gI rfl (ay (bc (ag rfl (aw (aE hw rfl (aU ⟨b,rfl,dE (iF (cL ?_) rfl)⟩))))))))
 refine cE (rT (ag rfl (ip (ay (ag rfl (ay (ag rfl (aU ⟨(by show 2≤sizeLine;decide),fun g fg=> ?_⟩))))))))
 have s1:=sameNew (o:= .tup [V.int a,V.int b]) fg
 exact afr (s1 _ _ hw) aS (k _ s1)
abbrev mLn(CP C:Addr):List (Str×Addr×Sp):=[("line_size",CP,iD CP C),("place_at",CP,iG CP C)]
def pB(CP C:Addr):Sp:=fun vs H Q E=> ∃(p dp s dx lt lb lf:Addr) (v:V) (t:Tr) (ts:List Str) (i:Nat) (b z c:Int),vs=[.ref p, .int i, .int b, .int z, .int c]∧cB CP H p dp s v t (ak ts)∧bU C H s dx lt lb lf ts∧i≤ (N.txt (ak ts) t.aj).count 10∧
 b=bS (N.txt (ak ts) t.aj) i∧z=cP (N.txt (ak ts) t.aj) i∧0≤z∧ ∀H',aG H H'→Q (.bl true) H'
theorem afu(vs:List V)(H:Hp)(Q:VK)(E:XK)(h:pB CP C vs H Q E):ar (aR K [("_law_whole",gI)] [] [] (mLn CP C) (E:=E)) yw (Dn Q) (start yv vs) H:=by
 obtain⟨p,dp,s,dx,lt,lb,lf,v,t,ts,i,b,z,c,rfl,P,S,hi,rfl,rfl,h0,k⟩:=h
 have n1:(c_ s v).lookup ("line_size":Str)=none:=dW (by decide+kernel) (by decide+kernel)
 have n2:(c_ s v).lookup ("place_at":Str)=none:=dW (by decide+kernel) (by decide+kernel)
 refine bH (iq (dt (dR gI rfl (ay (eS CP (iD CP C) rfl (ag rfl ⟨p,dp,_,rfl,P.ob,n1,ag rfl ⟨p,dp,s,dx,lt,lb,lf,v,t,ts,i,rfl,P,S,hi,aU ⟨_,rfl,dE (iF ?_ rfl)⟩⟩⟩))))))
 refine bG (eS CP (iD CP C) rfl (ag rfl ⟨p,dp,_,rfl,P.ob,n1,ag rfl ⟨p,dp,s,dx,lt,lb,lf,v,t,ts,i,rfl,P,S,hi,ag rfl (m3 ⟨_,rfl,iF (cL ?_) (by simp)⟩)⟩⟩))
 have c1:(0:Int) <cP (N.txt (ak ts) t.aj) i+1:=by omega
 refine zd (jd (ay (aw (ay (aK (ag rfl (aK (ag rfl (aw (bJ ⟨c1,ay (ag rfl (aU ⟨(by show 3≤sizeLine;decide),fun l fl=> ?_⟩))⟩))))))))))
 have s1:=sameNew (o:= .lst [V.int 0,V.int (c % (cP (N.txt (ak ts) t.aj) i+1)),V.int (cP (N.txt (ak ts) t.aj) i)]) fl
 have hl:upd H l (.lst [V.int 0,V.int (c % (cP (N.txt (ak ts) t.aj) i+1)),V.int (cP (N.txt (ak ts) t.aj) i)]) l=some (.lst [V.int 0,V.int (c % (cP (N.txt (ak ts) t.aj) i+1)),V.int (cP (N.txt (ak ts) t.aj) i)]):=aS
 have m0:0≤c % (cP (N.txt (ak ts) t.aj) i+1):=Int.emod_nonneg _ (by omega)
 have m1:c % (cP (N.txt (ak ts) t.aj) i+1) <cP (N.txt (ak ts) t.aj) i+1:=Int.emod_lt_of_pos _ c1
 generalize upd H l (.lst [V.int 0,V.int (c % (cP (N.txt (ak ts) t.aj) i+1)),V.int (cP (N.txt (ak ts) t.aj) i)])=H1 at s1 hl⊢
 have P1:=P.same s1
 have S1:=S.same s1
 refine⟨l,rfl,⟨_,aH.of hl⟩,mz (K:=K) (a:=l) (xs:=_) (fun j σ H2=>H2=H1∧ ∃u:Option V,σ=[some (.ref p),some (.int i),some (.int (bS (N.txt (ak ts) t.aj) i)),some (.int (cP (N.txt (ak ts) t.aj) i)),some (.int c),u]) ⟨rfl,none,rfl⟩ (fun j σ H2 _ ⟨e,_⟩=>e ▸ aH.of hl) ?_ ?_⟩
 ·rintro j y σ H2 hj ⟨rfl,u,rfl⟩
  obtain⟨n,rfl,zk,d9⟩: ∃n:Int,y= .int n∧0≤n∧n≤cP (N.txt (ak ts) t.aj) i:=by
   have:=List.mem_of_getElem? hj
   simp only[List.mem_cons,List.not_mem_nil,or_false] at this
   rcases this with rfl | rfl | rfl
   ·exact⟨_,rfl,by omega,by omega⟩
   ·exact⟨_,rfl,by omega,by omega⟩
   ·exact⟨_,rfl,by omega,by omega⟩
  refine bH (iq (dt (dR gI rfl (ay (oX CP (iG CP C) rfl (ag rfl ⟨p,dp,_,rfl,P1.ob,n2,ag rfl (ag rfl ⟨p,dp,s,dx,lt,lb,lf,v,t,ts,i,n,rfl,P1,S1,hi,zk,d9,aU ⟨_,rfl,dE (iF ?_ rfl)⟩⟩)⟩))))))
  refine bG (oX CP (iG CP C) rfl (ag rfl ⟨p,dp,_,rfl,P1.ob,n2,ag rfl (ag rfl ⟨p,dp,s,dx,lt,lb,lf,v,t,ts,i,n,rfl,P1,S1,hi,zk,d9,aK (ag rfl (ag rfl (bJ (m3 ⟨_,rfl,iF ?_ (by simp)⟩))))⟩)⟩))
  exact⟨rfl,some (.int n),rfl⟩
 ·rintro σ H2 ⟨rfl,u,rfl⟩
  exact cE (aw (k _ s1))
end
structure Fr (H:Hp) (s lt lb lf:Addr):Prop where
 f1:H s=none
 f2:H lt=none
 f3:H lb=none
 f4:H lf=none
theorem Fr.but{H0 H H':Hp}{s lt lb lf:Addr}(f:Fr H0 s lt lb lf)(sm:aG H0 H)(b:dD s lt lb lf H H'):aG H0 H':=fun c o e=>b c o (sm _ _ e) (bW e f.f1) (bW e f.f2) (bW e f.f3) (bW e f.f4)
section
variable {K:PySem.W.Frag} {CP C:Addr} {E:XK} {Q:VK} {H0 H H':Hp} {p dp s dx lt lb lf:Addr} {v:V} {t:Tr} {ts:List Str} {x:Str}
abbrev GL(K:PySem.W.Frag)(CP C:Addr)(E:XK):aF:=aR K [("_law_cell_at",oB K),("_law_text_by",iA),("paper_of",o8 CP C),("_law_change_by",pf),("_law_mixed",fY),("_law_done",oF),("_law_line",pB CP C),("_law_pair",pA)] [("Paper", .ref CP)] [] [("changed",CP,o7 CP C),("lines",CP,gQ CP),("line_at",CP,pw CP C),("place_at",CP,iG CP C)] (E:=E)
theorem ni{H1:Hp}{σ:St}{Q':VK}{a:Addr}{ns:List Int}(ha:aH K H0 a (ns.map V.int))(i:Int)(s1:aG H0 H1)(e0:σ[0]?=some (some (.ref a)))(hi:0≤i)(q:Q' (.int (cell ns i.toNat)) H1):ah (GL K CP C E) (.call 0 [(.v 0),(.c (.int i))]) σ H1 Q':=
 bL (oB K) rfl (ay (ag e0 (ay (aw (aU ⟨a,ns,i,rfl,s1.seq ha,hi,q⟩)))))
def afv:List RS:=[.asg 6 (.call 3 [(.call 4 [(.v 5),(.v 4)]),(.v 2)]), .asg 3 (.bP 0 "changed" (.v 3) [(.v 6)]), .asg 2 (.call 5 [(.v 2),(.v 6)])]
theorem afw{D:Ends}{i:Nat}{c:Int}{w:Addr}{ws:List V}{u0 u1 u6 u7 u8 u9 gR:Option V}(hi:i<4)(F:Fr H0 s lt lb lf)(sm:aG H0 H)(B:eU CP C H p dp s dx lt lb lf v t ts x)
  (b1:t.aj.length≤1+60*i) (b2:ts.length≤1+60*i) (b3:(ak ts).length≤200+1000*i) (b4:x.length≤200+100*i) (hw:H w=some (.lst ws)) (kw:Kp lt lb lf w)
  (hN: ∀(x':Str) (p' fX:Addr) (v':V) (t':Tr) (pE:List Str) (y6:Option V) (H':Hp),aG H0 H'→eU CP C H' p' fX s dx lt lb lf v' t' pE x'→t'.aj.length≤1+60* (i+1)→pE.length≤1+60* (i+1)→(ak pE).length≤200+1000* (i+1)→x'.length≤200+100* (i+1)→H' w=some (.lst ws)→
   D.nx [u0,u1,some (.str x'),some (.ref p'),some (.int (i:Nat)),some (.int c),y6,u7,u8,u9,gR] H'):
  ar (GL K CP C E) afv D [u0,u1,some (.str x),some (.ref p),some (.int (i:Nat)),some (.int c),u6,u7,u8,u9,gR] H:=by
 refine aZ (bL pf rfl (ay (bL fY rfl (ay (ag rfl (ay (ag rfl (aU ⟨_,_,rfl,fun m hm=>ay (ag rfl (aU ⟨m,x,rfl,B.go,by omega,fun b H1 ys qs r s1 fb hb pv ok ch R lr lq=> ?_⟩))⟩))))))))
 have B1:=B.same s1
 have kb:=Kp.of B.st fb
 refine aZ (eS CP (o7 CP C) rfl (ag rfl ⟨p,dp,_,rfl,B1.pa.ob,dW (by decide+kernel) (by decide+kernel),ag rfl ⟨p,dp,s,dx,lt,lb,lf,b,v,t,ts,ys,qs,r,rfl,B1.pa,B1.st,by omega,by omega,by omega,B.l4,hb,kb.k1,kb.k2,kb.k3,pv,ok,ch,by rw[B.tx];exact R,fun p' fX v' t' us H3 bu fp S3 P3 e3 l3 lu ls=> ?_⟩⟩))
 have iz:H3 b=some (.lst ys):=LU B1.st bu kb hb
 have pv3:bZ H3 ys qs:=pv.mono (bu.cC B1.st)
 have sok: ∀q∈qs,eh q:=fun q hq=>LC (ok q hq)
 have lr':(⟨r.toArray⟩:Str).length=r.length:=by simp[Str.length]
 have gr:good ⟨r.toArray⟩:=⟨by rw[lr'];omega,fun d hd=>R.good B.go.2 sok d (by simpa using hd)⟩
 have lts:(ts++us).length=ts.length+us.length:=List.length_append
 have lsg:(ak (ts++us)).length=(ak ts).length+ (ak us).length:=by rw[fR,List.length_append]
 have B3:eU CP C H3 p' fX s dx lt lb lf v' t' (ts++us) ⟨r.toArray⟩:=⟨P3,S3,by omega,by omega,by omega,by rw[e3],gr⟩
 refine aZ (bL oF rfl (ay (ag rfl (ay (ag rfl (aU ⟨x,b,ys,qs,r,rfl,B.go,iz,pv3,fun q hq=>Ks (ok q hq),R,by omega, ?_⟩))))))
 exact hN ⟨r.toArray⟩ p' fX v' t' (ts++us) _ H3 (F.but (sm.trans s1) bu) B3 (by omega) (by omega) (by omega) (by omega) (LU B1.st bu kw (s1 _ _ hw))
def LV:List RS:=[.ite (.not (.call 7 [(.bP 2 "line_at" (.v 3) [(.bin .Add (.v 8) (.v 10))]),(.v 9),(.v 10)])) [.ret (.c (.bl false))] [],
    .ite (.cmp .NotEq (.bP 3 "place_at" (.v 3) [(.v 9),(.v 10)]) (.bin .Add (.v 8) (.v 10))) [.ret (.c (.bl false))] []]
theorem col{D:Ends}{j c:Nat}{u0 u1 u4 u5 u6 u7:Option V}(B:eU CP C H p dp s dx lt lb lf v t ts x)(hj:j≤x.cps.toList.count 10)(hc:bS x.cps.toList j+c≤lend x.cps.toList j)
  (hN: ∀H',aG H H'→D.nx [u0,u1,some (.str x),some (.ref p),u4,u5,u6,u7,some (.int (bS x.cps.toList j)),some (.int (j:Nat)),some (.int (c:Nat))] H'):
  ar (GL K CP C E) LV D [u0,u1,some (.str x),some (.ref p),u4,u5,u6,u7,some (.int (bS x.cps.toList j)),some (.int (j:Nat)),some (.int (c:Nat))] H:=by
 have ok:=sJ hj
 have ln:=afj hj (Nat.le_add_right _ c) hc
 have lz:=LR x.cps.toList j
 refine bH (dt (dR pA rfl (ay (eS CP (pw CP C) rfl (ag rfl ⟨p,dp,_,rfl,B.pa.ob,dW (by decide+kernel) (by decide+kernel),aK (ag rfl (ag rfl (bJ ?_)))⟩)))))
 refine⟨p,dp,s,dx,lt,lb,lf,v,t,ts,bS x.cps.toList j+c,rfl,B.pa,B.st,by rw[B.tx];omega,fun w H1 s1 fw hw=> ?_⟩
 rw[B.tx,ln,show((bS x.cps.toList j+c:Nat):Int) - (bS x.cps.toList j:Nat)=(c:Nat) by omega] at hw
 refine ay (ag rfl (ay (ag rfl (aU ⟨w,_,_,rfl,hw,fun H2 s2=>dE (iF (cL ?_) rfl)⟩))))
 have B2:=B.same (s1.trans s2)
 refine bH (bG (oX CP (iG CP C) rfl (ag rfl ⟨p,dp,_,rfl,B2.pa.ob,dW (by decide+kernel) (by decide+kernel),ag rfl (ag rfl ⟨p,dp,s,dx,lt,lb,lf,v,t,ts,j,c,rfl,B2.pa,B2.st,by rw[B.tx];exact hj,by omega,by rw[B.tx];omega,aK (ag rfl (ag rfl (bJ (m3 ⟨_,rfl,iF (cL ?_) (by rw[B.tx];simp)⟩))))⟩)⟩)))
 exact hN _ (s1.trans s2)
end
section
variable {K:PySem.W.Frag} {CP C:Addr} {E:XK} {Q:VK} {H0 H H':Hp} {p dp s dx lt lb lf:Addr} {v:V} {t:Tr} {ts:List Str} {x:Str}
def zB:List RS:=[.ite (.not (.call 6 [(.v 3),(.v 9),(.v 8),(.blt .len [(.ix (.v 7) (.v 9))]),(.bin .Add (.call 0 [(.v 0),(.c (.int 8))]) (.bin .Mult (.c (.int 5)) (.v 9)))])) [.ret (.c (.bl false))] [],
  .eN 10 .dY [(.bin .Add (.blt .len [(.ix (.v 7) (.v 9))]) (.c (.int 1)))] [.ite (.or [(.cmp .Lt (.blt .len [(.v 2)]) (.c (.int 40))),(.cmp .Eq (.bin .Mod (.bin .Add (.v 8) (.v 10)) (.c (.int 7))) (.c (.int 0)))]) LV []],
  .asg 8 (.bin .Add (.bin .Add (.v 8) (.blt .len [(.ix (.v 7) (.v 9))])) (.c (.int 1)))]
theorem afA{D:Ends}{j:Nat}{a l7:Addr}{ns:List Int}{u1 u4 u5 u6 gR:Option V}(ha:aH K H0 a (ns.map V.int))(sm:aG H0 H)(B:eU CP C H p dp s dx lt lb lf v t ts x)(hj:j≤x.cps.toList.count 10)(nj:H l7=some (.lst ((Txt.split x (Str.ofString "\n")).map V.str)))
  (hN: ∀(LW:Option V) H',aG H H'→D.nx [some (.ref a),u1,some (.str x),some (.ref p),u4,u5,u6,some (.ref l7),some (.int ((lend x.cps.toList j+1:Nat):Int)),some (.int (j:Nat)),LW] H'):
  ar (GL K CP C E) zB D [some (.ref a),u1,some (.str x),some (.ref p),u4,u5,u6,some (.ref l7),some (.int (bS x.cps.toList j)),some (.int (j:Nat)),gR] H:=by
 obtain⟨z,hz,lz⟩:=afl hj
 have ok:=sJ hj
 have lx:=len_list x
 have gx:=B.go.1
 have zi:=LR x.cps.toList j
 have zm:dG ((Txt.split x (Str.ofString "\n")).map V.str) ((j:Nat):Int)=some (.str z):=iR (by rw[List.getElem?_map,hz];rfl)
 have zC: ∀{σ:St} {Q1:VK} {H1:Hp},aG H H1→σ[7]?=some (some (.ref l7))→σ[9]?=some (some (.int (j:Nat)))→Q1 (.int (z.length:Nat)) H1→ah (GL K CP C E) (.blt .len [(.ix (.v 7) (.v 9))]) σ H1 Q1:=
  fun s1 e7 e9 q=>fW (bc (ag e7 (ag e9 (lS (s1 _ _ nj) zm ⟨b9 (by omega),q⟩))))
 refine bH (dt (dR (pB CP C) rfl (ay (ag rfl (ay (ag rfl (ay (ag rfl (ay (zC (aG.refl _) rfl rfl (ay (aK (ni ha 8 sm rfl (by decide) (aK (aw (ag rfl ⟨.inl ⟨by decide,by decide⟩,bJ (aU ?_)⟩))))))))))))))))
 refine⟨p,dp,s,dx,lt,lb,lf,v,t,ts,j,_,_,_,rfl,B.pa,B.st,by rw[B.tx];exact hj,by rw[B.tx],by rw[B.tx];omega,by omega,fun H1 s1=>dE (iF (cL ?_) rfl)⟩
 have B1:=B.same s1
 refine zt (aK (zC s1 rfl rfl (aw (bJ ⟨(z.length:Int)+1,rfl,by omega,by omega,pX (lo:=0) (n:=((z.length:Int)+1).toNat) (fun c σ H2=>aG H1 H2∧ ∃u:Option V,σ=[some (.ref a),u1,some (.str x),some (.ref p),u4,u5,u6,some (.ref l7),some (.int (bS x.cps.toList j)),some (.int (j:Nat)),u]) ⟨aG.refl _,gR,rfl⟩ ?_ ?_⟩))))
 ·rintro c σ H2 hc ⟨s2,u,rfl⟩
  show ar (GL K CP C E) _ _ [some (.ref a),u1,some (.str x),some (.ref p),u4,u5,u6,some (.ref l7),some (.int (bS x.cps.toList j)),some (.int (j:Nat)),some (.int (0+ (c:Int)))] H2
  rw[Int.zero_add]
  have B2:=B1.same s2
  have da:bS x.cps.toList j+c≤lend x.cps.toList j:=by omega
  refine bH (iq (bG (fW (ag rfl ⟨b9 gx,aw (N.ltI ⟨_,rfl, ?_⟩)⟩))))
  by_cases q1:(x.length:Int) <40
  ·refine iT (iT ?_ rfl) (decide_eq_true q1)
   exact col B2 hj da fun H3 s3=> ⟨s2.trans s3,_,rfl⟩
  ·refine iF ?_ (decide_eq_false q1)
   refine bG (aK (aK (ag rfl (ag rfl (bJ (aw ⟨(by show(0:Int) <7;decide),aw (gK ⟨_,rfl, ?_⟩)⟩))))))
   by_cases q2:((bS x.cps.toList j:Int)+ (c:Int)) % 7=0
   ·refine iT ?_ (decide_eq_true q2)
    exact col B2 hj da fun H3 s3=> ⟨s2.trans s3,_,rfl⟩
   ·exact iF ⟨s2,_,rfl⟩ (decide_eq_false q2)
 ·rintro σ H2 ⟨s2,u,rfl⟩
  refine aZ (aK (aK (ag rfl (zC (s1.trans s2) rfl rfl (bJ (aw (bJ ?_)))))))
  have e:(bS x.cps.toList j:Int)+ (z.length:Nat)+1=((lend x.cps.toList j+1:Nat):Int):=by omega
  show D.nx [some (.ref a),u1,some (.str x),some (.ref p),u4,u5,u6,some (.ref l7),some (.int ((bS x.cps.toList j:Int)+ (z.length:Nat)+1)),some (.int (j:Nat)),u] H2
  rw[e]
  exact hN u H2 (s1.trans s2)
def nb(l:List Nat):Nat→Nat
 | 0=>0
 | j+1=>lend l j+1
theorem afB{l:List Nat}{j:Nat}(h:j≤l.count 10):nb l j=bS l j:=by
 cases j with
 | zero=>rfl
 | succ j=>exact(afh h).symm
theorem afC{Γ:aF}{σ:St}{o a:RE}(h:ah Γ o σ H fun x H1=>nI Γ.K "str" x H1∧ah Γ a σ H1 fun y H2=>rE x [y] H2 Q):ah Γ (.xm yr o [a]) σ H Q:=h
theorem afD{a:Addr}{ns:List Int}{u1 u4 u5 u6:Option V}(O:rC K CP)(ha:aH K H0 a (ns.map V.int))(sm:aG H0 H)(B:eU CP C H p dp s dx lt lb lf v t ts x)(hx:x.length≤10000)(k: ∀H',Q (.bl true) H'):
  ar (GL K CP C E) (b8.drop 6) (Dn Q) [some (.ref a),u1,some (.str x),some (.ref p),u4,u5,u6,none,none,none,none] H:=by
 have gx:=B.go.1
 have lx:=len_list x
 have cx:x.cps.toList.count 10≤x.length:=by rw[lx];exact List.count_le_length
 refine aZ (afC (ag rfl ⟨rfl,aw ⟨x,_,rfl,rfl,by decide+kernel,gx,fun l7 f7=> ?_⟩⟩))
 have s1:=sameNew (o:= .lst ((Txt.split x (Str.ofString "\n")).map V.str)) f7
 have nj:upd H l7 (.lst ((Txt.split x (Str.ofString "\n")).map V.str)) l7=some (.lst ((Txt.split x (Str.ofString "\n")).map V.str)):=aS
 generalize upd H l7 (.lst ((Txt.split x (Str.ofString "\n")).map V.str))=H1 at s1 nj⊢
 have B1:=B.same s1
 have ll:((Txt.split x (Str.ofString "\n")).map V.str).length=x.cps.toList.count 10+1:=by rw[List.length_map,split_len]
 refine bH (iq (dt (afo (ay (ag rfl (ay (r_g (aU ⟨p,CP,dp,_,rfl,B1.pa.ob,O,dE (iF ?_ rfl)⟩))))))))
 refine bG (je CP (gQ CP) rfl (ag rfl ⟨p,dp,_,rfl,B1.pa.ob,dW (by decide+kernel) (by decide+kernel),p,dp,s,v,t,_,rfl,B1.pa,fW (ag rfl (.inl ⟨_,aH.of nj,m3 ⟨_,rfl,iF (cL ?_) ?_⟩⟩))⟩))
 rotate_left
 ·rw[ll,B.tx];simp
 refine aZ (aw ?_)
 refine zt (body:=zB) (fW (ag rfl (.inl ⟨_,aH.of nj, ?_⟩)))
 rw[ll]
 refine⟨_,rfl,by omega,by omega,pX (lo:=0) (n:=_) (fun j σ H2=>aG H1 H2∧ ∃u9 gR:Option V,σ=[some (.ref a),u1,some (.str x),some (.ref p),u4,u5,u6,some (.ref l7),some (.int (nb x.cps.toList j)),u9,gR]) ⟨aG.refl _,none,none,rfl⟩ ?_ ?_⟩
 ·rintro j σ H2 hj ⟨s2,u9,gR,rfl⟩
  have bF:j≤x.cps.toList.count 10:=by omega
  show ar (GL K CP C E) zB _ [some (.ref a),u1,some (.str x),some (.ref p),u4,u5,u6,some (.ref l7),some (.int (nb x.cps.toList j)),some (.int (0+ (j:Int))),gR] H2
  rw[Int.zero_add,afB bF]
  exact afA ha (sm.trans (s1.trans s2)) (B1.same s2) bF (s2 _ _ nj) fun LW H3 s3=> ⟨s2.trans s3,_,_,rfl⟩
 ·rintro σ H2 ⟨s2,u9,gR,rfl⟩
  refine cE (rT (ag rfl (aK (fW (ag rfl ⟨b9 gx,aw (bJ (gK ?_))⟩)))))
  have e:nb x.cps.toList (((x.cps.toList.count 10+1:Nat):Int).toNat)=x.length+1:=by
   rw[Int.toNat_natCast]
   show lend x.cps.toList (x.cps.toList.count 10)+1=_
   rw[afi,lx]
  rw[e,decide_eq_true (by omega)]
  exact k _
end
section
variable {K:PySem.W.Frag} {CP C:Addr} {E:XK} {Q:VK} {H:Hp}
theorem afE{Γ:aF}{σ:St}{a b:RE}(h:ah Γ a σ H fun x H1=>ah Γ b σ H1 fun y H2=>yp x y H2 Q):ah Γ (.xt yq [a,b]) σ H Q:=h
theorem afF{n:Int}(h0:0≤n)(h1:n<25):good (ic (Str.ofString "\n") n)∧(ic (Str.ofString "\n") n).length≤200:=by
 have e:(Str.ofString "\n").cps.toList=[10]:=by decide+kernel
 have len:(ic (Str.ofString "\n") n).length=n.toNat:=by
  show(((List.replicate n.toNat (Str.ofString "\n").cps.toList).flatten).toArray).size=_
  rw[List.size_toArray,len_rep,e];simp
 refine⟨⟨by rw[len];omega,fun c hc=> ?_⟩,by rw[len];omega⟩
 have da:c∈ (List.replicate n.toNat (Str.ofString "\n").cps.toList).flatten:=by simpa[ic] using hc
 obtain⟨l,hl,qD⟩:=List.mem_flatten.mp da
 have el:=(List.mem_replicate.mp hl).2
 rw[el,e,List.mem_singleton] at qD
 rw[qD];decide+kernel
def sL(K:PySem.W.Frag):Sp:=fun vs H Q E=> ∃(a:Addr) (ns:List Int),vs=[.ref a]∧aH K H a (ns.map V.int)∧ ∀H',Q (.bl true) H'
def LI(H0:Hp)(a w s dx lt lb lf CP C:Addr)(ws:List V)(i:Nat)(σ:St)(H4:Hp):Prop:=
 ∃(x:Str) (p dp:Addr) (v:V) (t:Tr) (ts:List Str) (u1 u4 u5 u6:Option V),σ=[some (.ref a),u1,some (.str x),some (.ref p),u4,u5,u6,none,none,none,none]∧aG H0 H4∧eU CP C H4 p dp s dx lt lb lf v t ts x∧
  t.aj.length≤1+60*i∧ts.length≤1+60*i∧(ak ts).length≤200+1000*i∧x.length≤200+100*i∧H4 w=some (.lst ws)
theorem afG(O:rC K CP)(vs:List V)(H:Hp)(Q:VK)(E:XK)(h:sL K vs H Q E):ar (GL K CP C E) b8 (Dn Q) (start eF vs) H:=by
 obtain⟨a,ns,rfl,ha,k⟩:=h
 have go2: ∀(x:Str) (z:Int) (H1:Hp),aG H H1→good x→x.length≤200→ar (GL K CP C E) (b8.drop 4) (Dn Q) [some (.ref a),some (.int z),some (.str x),none,none,none,none,none,none,none,none] H1:=by
  intro x z H1 s1 gx lx
  refine aZ (bL (o8 CP C) rfl (ay (ag rfl (aU ⟨x,rfl,gx,fun p dp s dx lt lb lf v t ts H2 s2 S2 P2 e2 l1 l2 l3 f1 f2 f3 f4 f5=> ?_⟩))))
  have B2:eU CP C H2 p dp s dx lt lb lf v t ts x:=⟨P2,S2,by omega,by omega,by omega,e2,gx⟩
  have F:Fr H s lt lb lf:=⟨s1.free f2,s1.free f3,s1.free f4,s1.free f5⟩
  have LX:=s1.trans s2
  refine⟨_,rfl,_,rfl,_,rfl, .inl ⟨_,LX.seq ha,fun w fw=> ?_⟩⟩
  have kw:=Kp.of B2.st fw
  have s4:=sameNew (o:= .lst (eB (ns.map V.int) (some 3) (some 7))) fw
  have sM:upd H2 w (.lst (eB (ns.map V.int) (some 3) (some 7))) w=some (.lst (eB (ns.map V.int) (some 3) (some 7))):=aS
  have ec:=afp (ns.map V.int) 3 7
  generalize upd H2 w (.lst (eB (ns.map V.int) (some 3) (some 7)))=H4 at s4 sM⊢
  rw[show((3:Nat):Int)=3 from rfl,show((7:Nat):Int)=7 from rfl] at ec
  rw[ec] at sM
  have B4:=B2.same s4
  refine⟨w,rfl,⟨_,aH.of sM⟩,SI (K:=K) (a:=w) (xs:=((ns.map V.int).drop 3).take (7 - 3)) (LI H a w s dx lt lb lf CP C (((ns.map V.int).drop 3).take (7 - 3))) ?_ ?_ ?_ ?_⟩
  ·exact⟨x,p,dp,v,t,ts,some (.int z),none,none,none,rfl,LX.trans s4,B4,by omega,by omega,by omega,by omega,sM⟩
  ·rintro i σ H5 ⟨x,p,dp,v,t,ts,u1,u4,u5,u6,_,_,_,_,_,_,_,hw⟩
   exact aH.of hw
  ·rintro i y σ H5 T hi ⟨x,p,dp,v,t,ts,u1,u4,u5,u6,rfl,sm,B5,c1,c2,c3,c4,hw⟩ hT
   have hi4:i<4:=by
    have:=(List.getElem?_eq_some_iff.mp hi).1
    rw[List.length_take] at this;omega
   obtain⟨c,rfl⟩: ∃c:Int,y= .int c:=by
    have hm:=List.mem_of_mem_drop (List.mem_of_mem_take (List.mem_of_getElem? hi))
    obtain⟨c,_,e⟩:=List.mem_map.mp hm
    exact⟨c,e.symm⟩
   have s6:=sameNew (o:= .tup [V.int (i:Nat),V.int c]) hT
   refine afn aS ?_
   have B6:=B5.same s6
   have LY:=s6 _ _ hw
   have LZ:=sm.trans s6
   generalize upd H5 T (.tup [V.int (i:Nat),V.int c])=H6 at s6 B6 LY LZ⊢
   exact afw hi4 F LZ B6 c1 c2 c3 c4 LY kw fun x' p' fX v' t' pE y6 H' sm' B' d1 d2 d3 d4 mf=> ⟨x',p',fX,v',t',pE,_,_,_,y6,rfl,sm',B',d1,d2,d3,d4,mf⟩
  ·rintro σ H5 ⟨x,p,dp,v,t,ts,u1,u4,u5,u6,rfl,sm,B5,c1,c2,c3,c4,hw⟩
   have li:(((ns.map V.int).drop 3).take (7 - 3)).length≤4:=by rw[List.length_take];omega
   exact afD O ha sm B5 (by omega) k
 have L0: ∀z:Int,0≤z→z≤199→ar (GL K CP C E) (b8.drop 2) (Dn Q) [some (.ref a),some (.int z),none,none,none,none,none,none,none,none,none] H:=by
  intro z z0 z1
  refine aZ (bL iA rfl (ay (ni ha 1 (aG.refl _) rfl (by decide) (ay (ag rfl (aU ⟨_,_,rfl,z0,by omega,fun x H1 gx lx s1=> ?_⟩))))))
  refine bH (bG (aK (ni ha 2 s1 rfl (by decide) (aw ⟨(by show(0:Int) <8;decide),aw (gK ⟨_,rfl, ?_⟩)⟩))))
  by_cases q:cell ns 2 % 8=1
  ·refine iT ?_ (decide_eq_true q)
   have m0:0≤z % 25∧z % 25<25:=⟨Int.emod_nonneg _ (by decide),Int.emod_lt_of_pos _ (by decide)⟩
   obtain⟨g1,g2⟩:=afF m0.1 m0.2
   refine aZ (afE (aw (aK (ag rfl (aw ⟨(by show(0:Int) <25;decide),_,_,rfl,rfl,m0.1,by omega,by decide+kernel, ?_⟩)))))
   exact go2 _ z H1 s1 g1 g2
  ·exact iF (cL (go2 x z H1 s1 gx (by omega))) (decide_eq_false q)
 have m25:0≤cell ns 0 % 25∧cell ns 0 % 25<25:=⟨Int.emod_nonneg _ (by decide),Int.emod_lt_of_pos _ (by decide)⟩
 have aoZ:0≤cell ns 0 / 200 % 140∧cell ns 0 / 200 % 140<140:=⟨Int.emod_nonneg _ (by decide),Int.emod_lt_of_pos _ (by decide)⟩
 refine aZ (aK (ni ha 0 (aG.refl _) rfl (by decide) (aw ⟨(by show(0:Int) <25;decide), ?_⟩)))
 refine bH (bG (aK (aK (ni ha 0 (aG.refl _) rfl (by decide) (aw ⟨⟨by decide,by decide⟩,aw ⟨(by show(0:Int) <8;decide),aw (gK ⟨_,rfl, ?_⟩)⟩⟩)))))
 by_cases q:cell ns 0 / 25 % 8=1
 ·refine iT ?_ (decide_eq_true q)
  refine aZ (aK (aw (aK (aK (ni ha 0 (aG.refl _) rfl (by decide) (aw ⟨⟨by decide,by decide⟩,aw ⟨(by show(0:Int) <140;decide),bJ ?_⟩⟩))))))
  exact L0 (60+cell ns 0 / 200 % 140) (by omega) (by omega)
 ·exact iF (cL (L0 (cell ns 0 % 25) m25.1 (by omega))) (decide_eq_false q)
end
end L2.j7
namespace L2.j7
open PySem PySem.Spec PyProof.Rows L2.B
theorem all_mk{l:PySem.W.OpenLaw}{w:World}{K:PySem.W.Frag}{h:Heap}{mg:Str→Option Value}{fa f0 f1 f2 f3 f4 f5 f6 f7 f8 f9 zD zE zF zG zH zI zJ zK zL zM zN zO zP zQ zR zS zT sN sO sQ sR sS zU zV zW zX sT sU sV sW sX sY sZ s9 s_ zY zZ z5 z6 z7 z8 z9 z_ Aa Ab:Addr}{aQ:Addr}{aO:Addr}{gT:Addr}{pF:Addr}{pG:Addr}{fZ:Addr}(X:K.In h)(G:h.Ns mainGlobals mg)(hfa:mg "law"=some (.ref fa))
  {od0 an0:Option Addr} {sl0:Array (Option Value)} {oc0 kV0 dc0 pm0 L3 ct0:Value}
  {od1 an1:Option Addr} {sl1:Array (Option Value)} {oc1 kV1 dc1 pm1 L4 ct1:Value}
  {od2 an2:Option Addr} {nF:Array (Option Value)} {oc2 kV2 dc2 pm2 L5 ct2:Value}
  {od3 an3:Option Addr} {n_:Array (Option Value)} {oc3 kV3 dc3 pm3 L6 ct3:Value}
  {od4 an4:Option Addr} {sl4:Array (Option Value)} {oc4 kV4 dc4 pm4 L7 ct4:Value}
  {od5 an5:Option Addr} {sl5:Array (Option Value)} {oc5 kV5 dc5 pm5 L8 ct5:Value}
  {od6 an6:Option Addr} {sl6:Array (Option Value)} {oc6 kV6 dc6 pm6 L9 ct6:Value}
  {od7 an7:Option Addr} {sl7:Array (Option Value)} {oc7 kV7 dc7 pm7 L_ ct7:Value}
  {od8 an8:Option Addr} {sl8:Array (Option Value)} {oc8 kV8 dc8 pm8 Ma ct8:Value}
  {od9 an9:Option Addr} {sl9:Array (Option Value)} {oc9 kV9 dc9 pm9 Mb ct9:Value}
  {ag0 ag1:Option Addr} {ag2:Array (Option Value)} {ag3 ag4 ag5 ag6 Mc ag7:Value}
  {ag8 ag9:Option Addr} {ag_:Array (Option Value)} {aha ahb ahc ahd Md ahe:Value}
  {ahf ahg:Option Addr} {ahh:Array (Option Value)} {ahi ahj ahk ahl Me ahm:Value}
  {ahn aho:Option Addr} {ahp:Array (Option Value)} {ahq ahr ahs aht Mf ahu:Value}
  {ahv ahw:Option Addr} {ahx:Array (Option Value)} {ahy ahz ahA ahB Mg ahC:Value}
  {ahD ahE:Option Addr} {ahF:Array (Option Value)} {ahG ahH ahI ahJ Mh ahK:Value}
  {ahL ahM:Option Addr} {ahN:Array (Option Value)} {ahO ahP ahQ ahR Mi ahS:Value}
  {ahT ahU:Option Addr} {ahV:Array (Option Value)} {ahW ahX ahY ahZ Mj ah0:Value}
  {ah1 ah2:Option Addr} {ah3:Array (Option Value)} {ah4 ah5 ah6 ah7 Ml ah8:Value}
  {ah9 ah_:Option Addr} {aia:Array (Option Value)} {aib aic aid aie Mm aif:Value}
  {aih aii:Option Addr} {aij:Array (Option Value)} {aik ail aim ain Mn aio:Value}
  {aip aiq:Option Addr} {air:Array (Option Value)} {ais ait aiu aiv Mo aiw:Value}
  {aix aiy:Option Addr} {aiz:Array (Option Value)} {aiA aiB aiC aiD Mp aiE:Value}
  {aiF aiG:Option Addr} {aiH:Array (Option Value)} {aiI aiJ aiK aiL Mq aiM:Value}
  {aiN aiO:Option Addr} {aiP:Array (Option Value)} {aiQ aiR aiS aiT Mr aiU:Value}
  {aiV aiW:Option Addr} {aiX:Array (Option Value)} {aiY aiZ ai0 ai1 Ms ai2:Value}
  {ai3 ai4:Option Addr} {ai5:Array (Option Value)} {ai6 ai7 ai8 ai9 Mt ai_:Value}
  {aja ajb:Option Addr} {ajc:Array (Option Value)} {ajd aje ajf ajg Mu ajh:Value}
  {aji ajj:Option Addr} {ajk:Array (Option Value)} {ajl ajm ajn ajo Mv ajp:Value}
  {ajq ajr:Option Addr} {ajs:Array (Option Value)} {ajt aju ajv ajw Mw ajx:Value}
  {ajy ajz:Option Addr} {ajA:Array (Option Value)} {ajB ajC ajD ajE Mx ajF:Value}
  {ajG ajH:Option Addr} {ajI:Array (Option Value)} {ajJ ajK ajL ajM My ajN:Value}
  {ajO ajP:Option Addr} {ajQ:Array (Option Value)} {ajR ajS ajT ajU Mz ajV:Value}
  {ajW ajX:Option Addr} {ajY:Array (Option Value)} {ajZ aj0 aj1 aj2 MA aj3:Value}
  {aj4 aj5:Option Addr} {aj6:Array (Option Value)} {aj7 aj8 aj9 aj_ MB aka:Value}
  {akb akc:Option Addr} {akd:Array (Option Value)} {ake akf akg akh MC aki:Value}
  {akj akk:Option Addr} {akl:Array (Option Value)} {akm akn ako akp MD akq:Value}
  {akr aks:Option Addr} {akt:Array (Option Value)} {aku akv akw akx ME aky:Value}
  {akz akA:Option Addr} {akB:Array (Option Value)} {akC akD akE akF MF akG:Value}
  {akH akI:Option Addr} {akJ:Array (Option Value)} {akK akL akM akN MG akO:Value}
  {akP akQ:Option Addr} {akR:Array (Option Value)} {akS akT akU akV MH akW:Value}
  {akX akY:Option Addr} {akZ:Array (Option Value)} {ak0 ak1 ak2 ak3 MI ak4:Value}
  {ak5 ak6:Option Addr} {ak7:Array (Option Value)} {ak8 ak9 ak_ ala MJ alb:Value}
  {alc ald:Option Addr} {ale:Array (Option Value)} {alf alg alh ali MK alj:Value}
  {alk alm:Option Addr} {aln:Array (Option Value)} {alo alp alq alr ML als:Value}
  {alu alv:Option Addr} {alw:Array (Option Value)} {alx aly alz alA MM alB:Value}
  {alC alD:Option Addr} {alE:Array (Option Value)} {alF alG alH alI MN alJ:Value}
  {alK alL:Option Addr} {alM:Array (Option Value)} {alN alO alP alQ MO alR:Value}
  {alS alT:Option Addr} {alU:Array (Option Value)} {alV alW alX alY MP alZ:Value}
  {al0 al1:Option Addr} {al2:Array (Option Value)} {al3 al4 al6 al7 MQ al8:Value}
  {al9 al_:Option Addr} {ama:Array (Option Value)} {amb amc amd ame MR amf:Value}
  {amg amh:Option Addr} {ami:Array (Option Value)} {amj amk aml amm MS amn:Value}
  {amo amq:Option Addr} {amr:Array (Option Value)} {ams amt amu amv MT amw:Value}
  {amx amy:Option Addr} {amz:Array (Option Value)} {amA amB amC amD MU amE:Value}
  {amF MV:Option Addr} {amG:Array (Option Value)} {amH MW MX MY Ac MZ:Value}
  {amI:Tok}
  (Ad:PySem.W.nsIn K mainGlobals "Stock"=some (some (.ref aQ)))
  (Ae:plainGet K aQ Str.empty=true)
  (Af:hasDictIn K aQ=true)
  (Ag:plainOver K aQ=true)
  (Ah:findIn K (.ref aQ) "__setattr__"=some (some (.builtin "object.__setattr__")))
  (Ai:makesIn K aQ=true)
  (Aj:keepIn K (.ref aQ)=true)
  (Ak:findIn K (.ref aQ) "texts"=some none)
  (Al:findIn K (.ref aQ) "begins"=some none)
  (Am:findIn K (.ref aQ) "feeds"=some none)
  (An:findIn K (.ref aQ) "signs"=some none)
  (tm:PySem.W.nsIn K mainGlobals "Paper"=some (some (.ref aO)))
  (Ao:plainGet K aO Str.empty=true)
  (Ap:hasDictIn K aO=true)
  (Aq:plainOver K aO=true)
  (Ar:findIn K (.ref aO) "__setattr__"=some (some (.builtin "object.__setattr__")))
  (As:makesIn K aO=true)
  (Au:keepIn K (.ref aO)=true)
  (Av:findIn K (.ref aO) "stock"=some none)
  (Aw:findIn K (.ref aO) "node"=some none)
  (tq:PySem.W.nsIn K mainGlobals "BadText"=some (some (.ref gT)))
  (tw:PySem.W.nsIn K mainGlobals "BadChange"=some (some (.ref pF)))
  (tD:PySem.W.nsIn K mainGlobals "BadFit"=some (some (.ref pG)))
  (tE:PySem.W.nsIn K mainGlobals "NoPlace"=some (some (.ref fZ)))
  (Ax:PySem.W.excIn K gT [.type "ValueError", .type "Exception", .type "BaseException", .type "object"] "ValueError.__new__"=true)
  (Ay:PySem.W.excIn K pF [.type "ValueError", .type "Exception", .type "BaseException", .type "object"] "ValueError.__new__"=true)
  (Az:PySem.W.excIn K pG [.type "ValueError", .type "Exception", .type "BaseException", .type "object"] "ValueError.__new__"=true)
  (AA:PySem.W.excIn K fZ [.type "ValueError", .type "Exception", .type "BaseException", .type "object"] "ValueError.__new__"=true)
  (AD:findIn K (.ref aO) "__class__"=some (some (.builtin "object.__class__")))
  (AE:mroIn K aO (.type "object")=some true)
  (AF:kitOne K (.ref aO) (.ref aO)=some true)
  (e5:specialIn K (.builtin "object.__class__") "__get__"=some (some (.builtin "getset_descriptor.__get__")))
  (e6:takesIn K (.builtin "object.__class__")=some true)
  (a0:PySem.W.nsIn K mainGlobals "is_whole"=some (some (.ref f0)))
  (l0:K.lookup f0=some ⟨oc0,od0, .func (fnOf "is_whole" "is_whole" (bo j8) (aA j8) (au j8) .none kV0 dc0 pm0 an0 L3 ct0),sl0⟩)
  (c0:codeIn K L3 "is_whole"=true)
  (k0:keepIn K (.ref f0)=true)
  (a1:PySem.W.nsIn K mainGlobals "is_between"=some (some (.ref f1)))
  (l1:K.lookup f1=some ⟨oc1,od1, .func (fnOf "is_between" "is_between" (bo j9) (aA j9) (au j9) .none kV1 dc1 pm1 an1 L4 ct1),sl1⟩)
  (c1:codeIn K L4 "is_between"=true)
  (k1:keepIn K (.ref f1)=true)
  (a2:PySem.W.nsIn K mainGlobals "is_word"=some (some (.ref f2)))
  (l2:K.lookup f2=some ⟨oc2,od2, .func (fnOf "is_word" "is_word" (bo j_) (aA j_) (au j_) .none kV2 dc2 pm2 an2 L5 ct2),nF⟩)
  (c2:codeIn K L5 "is_word"=true)
  (k2:keepIn K (.ref f2)=true)
  (a3:PySem.W.nsIn K mainGlobals "is_text"=some (some (.ref f3)))
  (l3:K.lookup f3=some ⟨oc3,od3, .func (fnOf "is_text" "is_text" (bo ka) (aA ka) (au ka) .none kV3 dc3 pm3 an3 L6 ct3),n_⟩)
  (c3:codeIn K L6 "is_text"=true)
  (k3:keepIn K (.ref f3)=true)
  (a4:PySem.W.nsIn K mainGlobals "need_text"=some (some (.ref f4)))
  (l4:K.lookup f4=some ⟨oc4,od4, .func (fnOf "need_text" "need_text" (bo kc) (aA kc) (au kc) .none kV4 dc4 pm4 an4 L7 ct4),sl4⟩)
  (c4:codeIn K L7 "need_text"=true)
  (k4:keepIn K (.ref f4)=true)
  (a5:PySem.W.nsIn K mainGlobals "is_part"=some (some (.ref f5)))
  (l5:K.lookup f5=some ⟨oc5,od5, .func (fnOf "is_part" "is_part" (bo kd) (aA kd) (au kd) .none kV5 dc5 pm5 an5 L8 ct5),sl5⟩)
  (c5:codeIn K L8 "is_part"=true)
  (k5:keepIn K (.ref f5)=true)
  (a6:PySem.W.nsIn K mainGlobals "may_follow"=some (some (.ref f6)))
  (l6:K.lookup f6=some ⟨oc6,od6, .func (fnOf "may_follow" "may_follow" (bo ke) (aA ke) (au ke) .none kV6 dc6 pm6 an6 L9 ct6),sl6⟩)
  (c6:codeIn K L9 "may_follow"=true)
  (k6:keepIn K (.ref f6)=true)
  (a7:PySem.W.nsIn K mainGlobals "need_change"=some (some (.ref f7)))
  (l7:K.lookup f7=some ⟨oc7,od7, .func (fnOf "need_change" "need_change" (bo kf) (aA kf) (au kf) .none kV7 dc7 pm7 an7 L_ ct7),sl7⟩)
  (c7:codeIn K L_ "need_change"=true)
  (k7:keepIn K (.ref f7)=true)
  (a8:PySem.W.nsIn K mainGlobals "part_size"=some (some (.ref f8)))
  (l8:K.lookup f8=some ⟨oc8,od8, .func (fnOf "part_size" "part_size" (bo kg) (aA kg) (au kg) .none kV8 dc8 pm8 an8 Ma ct8),sl8⟩)
  (c8:codeIn K Ma "part_size"=true)
  (k8:keepIn K (.ref f8)=true)
  (a9:PySem.W.nsIn K mainGlobals "sizes"=some (some (.ref f9)))
  (l9:K.lookup f9=some ⟨oc9,od9, .func (fnOf "sizes" "sizes" (bo kh) (aA kh) (au kh) .none kV9 dc9 pm9 an9 Mb ct9),sl9⟩)
  (c9:codeIn K Mb "sizes"=true)
  (k9:keepIn K (.ref f9)=true)
  (AG:PySem.W.nsIn K mainGlobals "height_of"=some (some (.ref zD)))
  (AH:K.lookup zD=some ⟨ag3,ag0, .func (fnOf "height_of" "height_of" (bo ki) (aA ki) (au ki) .none ag4 ag5 ag6 ag1 Mc ag7),ag2⟩)
  (AI:codeIn K Mc "height_of"=true)
  (AJ:keepIn K (.ref zD)=true)
  (AK:PySem.W.nsIn K mainGlobals "size_of"=some (some (.ref zE)))
  (AL:K.lookup zE=some ⟨aha,ag8, .func (fnOf "size_of" "size_of" (bo kj) (aA kj) (au kj) .none ahb ahc ahd ag9 Md ahe),ag_⟩)
  (AM:codeIn K Md "size_of"=true)
  (AN:keepIn K (.ref zE)=true)
  (AO:PySem.W.nsIn K mainGlobals "ends_of"=some (some (.ref zF)))
  (AQ:K.lookup zF=some ⟨ahi,ahf, .func (fnOf "ends_of" "ends_of" (bo kl) (aA kl) (au kl) .none ahj ahk ahl ahg Me ahm),ahh⟩)
  (AR:codeIn K Me "ends_of"=true)
  (AS:keepIn K (.ref zF)=true)
  (AU:PySem.W.nsIn K mainGlobals "made"=some (some (.ref zG)))
  (AV:K.lookup zG=some ⟨ahq,ahn, .func (fnOf "made" "made" (bo km) (aA km) (au km) .none ahr ahs aht aho Mf ahu),ahp⟩)
  (AW:codeIn K Mf "made"=true)
  (AX:keepIn K (.ref zG)=true)
  (AY:PySem.W.nsIn K mainGlobals "turned_right"=some (some (.ref zH)))
  (AZ:K.lookup zH=some ⟨ahy,ahv, .func (fnOf "turned_right" "turned_right" (bo ko) (aA ko) (au ko) .none ahz ahA ahB ahw Mg ahC),ahx⟩)
  (A2:codeIn K Mg "turned_right"=true)
  (A3:keepIn K (.ref zH)=true)
  (A6:PySem.W.nsIn K mainGlobals "turned_left"=some (some (.ref zI)))
  (A7:K.lookup zI=some ⟨ahG,ahD, .func (fnOf "turned_left" "turned_left" (bo kq) (aA kq) (au kq) .none ahH ahI ahJ ahE Mh ahK),ahF⟩)
  (A8:codeIn K Mh "turned_left"=true)
  (A9:keepIn K (.ref zI)=true)
  (A_:PySem.W.nsIn K mainGlobals "leveled"=some (some (.ref zJ)))
  (Ba:K.lookup zJ=some ⟨ahO,ahL, .func (fnOf "leveled" "leveled" (bo kr) (aA kr) (au kr) .none ahP ahQ ahR ahM Mi ahS),ahN⟩)
  (Bb:codeIn K Mi "leveled"=true)
  (Bc:keepIn K (.ref zJ)=true)
  (tF:PySem.W.nsIn K mainGlobals "joined"=some (some (.ref zK)))
  (Bd:K.lookup zK=some ⟨ahW,ahT, .func (fnOf "joined" "joined" (bo ku) (aA ku) (au ku) .none ahX ahY ahZ ahU Mj ah0),ahV⟩)
  (Be:codeIn K Mj "joined"=true)
  (Bf:keepIn K (.ref zK)=true)
  (tG:PySem.W.nsIn K mainGlobals "last_out"=some (some (.ref zL)))
  (Bg:K.lookup zL=some ⟨ah4,ah1, .func (fnOf "last_out" "last_out" (bo kx) (aA kx) (au kx) .none ah5 ah6 ah7 ah2 Ml ah8),ah3⟩)
  (Bh:codeIn K Ml "last_out"=true)
  (Bi:keepIn K (.ref zL)=true)
  (tH:PySem.W.nsIn K mainGlobals "first_out"=some (some (.ref zM)))
  (Bj:K.lookup zM=some ⟨aib,ah9, .func (fnOf "first_out" "first_out" (bo ky) (aA ky) (au ky) .none aic aid aie ah_ Mm aif),aia⟩)
  (Bk:codeIn K Mm "first_out"=true)
  (Bl:keepIn K (.ref zM)=true)
  (Bm:PySem.W.nsIn K mainGlobals "sewn"=some (some (.ref zN)))
  (Bn:K.lookup zN=some ⟨aik,aih, .func (fnOf "sewn" "sewn" (bo kz) (aA kz) (au kz) .none ail aim ain aii Mn aio),aij⟩)
  (Bo:codeIn K Mn "sewn"=true)
  (Bp:keepIn K (.ref zN)=true)
  (Bq:PySem.W.nsIn K mainGlobals "cut_in_two"=some (some (.ref zO)))
  (Br:K.lookup zO=some ⟨ais,aip, .func (fnOf "cut_in_two" "cut_in_two" (bo kA) (aA kA) (au kA) .none ait aiu aiv aiq Mo aiw),air⟩)
  (Bs:codeIn K Mo "cut_in_two"=true)
  (Bt:keepIn K (.ref zO)=true)
  (tI:PySem.W.nsIn K mainGlobals "parted"=some (some (.ref zP)))
  (Bu:K.lookup zP=some ⟨aiA,aix, .func (fnOf "parted" "parted" (bo kD) (aA kD) (au kD) .none aiB aiC aiD aiy Mp aiE),aiz⟩)
  (Bv:codeIn K Mp "parted"=true)
  (Bw:keepIn K (.ref zP)=true)
  (tJ:PySem.W.nsIn K mainGlobals "pieces_of"=some (some (.ref zQ)))
  (Bx:K.lookup zQ=some ⟨aiI,aiF, .func (fnOf "pieces_of" "pieces_of" (bo kE) (aA kE) (au kE) .none aiJ aiK aiL aiG Mq aiM),aiH⟩)
  (By:codeIn K Mq "pieces_of"=true)
  (Bz:keepIn K (.ref zQ)=true)
  (BA:PySem.W.nsIn K mainGlobals "ends_ahead_of"=some (some (.ref zR)))
  (BB:K.lookup zR=some ⟨aiQ,aiN, .func (fnOf "ends_ahead_of" "ends_ahead_of" (bo kH) (aA kH) (au kH) .none aiR aiS aiT aiO Mr aiU),aiP⟩)
  (BC:codeIn K Mr "ends_ahead_of"=true)
  (BD:keepIn K (.ref zR)=true)
  (BE:PySem.W.nsIn K mainGlobals "place_of_end"=some (some (.ref zS)))
  (BF:K.lookup zS=some ⟨aiY,aiV, .func (fnOf "place_of_end" "place_of_end" (bo kI) (aA kI) (au kI) .none aiZ ai0 ai1 aiW Ms ai2),aiX⟩)
  (BG:codeIn K Ms "place_of_end"=true)
  (BH:keepIn K (.ref zS)=true)
  (BI:PySem.W.nsIn K mainGlobals "many_upto"=some (some (.ref zT)))
  (BJ:K.lookup zT=some ⟨ai6,ai3, .func (fnOf "many_upto" "many_upto" (bo kJ) (aA kJ) (au kJ) .none ai7 ai8 ai9 ai4 Mt ai_),ai5⟩)
  (BK:codeIn K Mt "many_upto"=true)
  (BL:keepIn K (.ref zT)=true)
  (BM:findIn K (.ref aQ) "__init__"=some (some (.ref sN)))
  (BN:isFn K (.ref sN)=true)
  (BO:K.lookup sN=some ⟨ajd,aja, .func (fnOf "__init__" "Stock.__init__" (bo kN) (aA kN) (au kN) .none aje ajf ajg ajb Mu ajh),ajc⟩)
  (BP:codeIn K Mu "Stock.__init__"=true)
  (BQ:keepIn K (.ref sN)=true)
  (BR:findIn K (.ref aQ) "put"=some (some (.ref sO)))
  (BS:isFn K (.ref sO)=true)
  (BU:K.lookup sO=some ⟨ajl,aji, .func (fnOf "put" "Stock.put" (bo kO) (aA kO) (au kO) .none ajm ajn ajo ajj Mv ajp),ajk⟩)
  (BV:codeIn K Mv "Stock.put"=true)
  (tK:keepIn K (.ref sO)=true)
  (BW:findIn K (.ref aQ) "read"=some (some (.ref sQ)))
  (BX:isFn K (.ref sQ)=true)
  (BY:K.lookup sQ=some ⟨ajt,ajq, .func (fnOf "read" "Stock.read" (bo kP) (aA kP) (au kP) .none aju ajv ajw ajr Mw ajx),ajs⟩)
  (BZ:codeIn K Mw "Stock.read"=true)
  (tL:keepIn K (.ref sQ)=true)
  (B_:findIn K (.ref aQ) "ends_ahead"=some (some (.ref sR)))
  (Ca:isFn K (.ref sR)=true)
  (Cb:K.lookup sR=some ⟨ajB,ajy, .func (fnOf "ends_ahead" "Stock.ends_ahead" (bo kQ) (aA kQ) (au kQ) .none ajC ajD ajE ajz Mx ajF),ajA⟩)
  (Cc:codeIn K Mx "Stock.ends_ahead"=true)
  (tM:keepIn K (.ref sR)=true)
  (Cd:findIn K (.ref aQ) "end_place"=some (some (.ref sS)))
  (Ce:isFn K (.ref sS)=true)
  (Cf:K.lookup sS=some ⟨ajJ,ajG, .func (fnOf "end_place" "Stock.end_place" (bo kR) (aA kR) (au kR) .none ajK ajL ajM ajH My ajN),ajI⟩)
  (Cg:codeIn K My "Stock.end_place"=true)
  (tN:keepIn K (.ref sS)=true)
  (Ci:PySem.W.nsIn K mainGlobals "node_put"=some (some (.ref zU)))
  (Cj:K.lookup zU=some ⟨ajR,ajO, .func (fnOf "node_put" "node_put" (bo kS) (aA kS) (au kS) .none ajS ajT ajU ajP Mz ajV),ajQ⟩)
  (Ck:codeIn K Mz "node_put"=true)
  (Cm:keepIn K (.ref zU)=true)
  (Cn:PySem.W.nsIn K mainGlobals "paper_of"=some (some (.ref zV)))
  (Co:K.lookup zV=some ⟨ajZ,ajW, .func (fnOf "paper_of" "paper_of" (bo kT) (aA kT) (au kT) .none aj0 aj1 aj2 ajX MA aj3),ajY⟩)
  (Cp:codeIn K MA "paper_of"=true)
  (Cq:keepIn K (.ref zV)=true)
  (Cr:PySem.W.nsIn K mainGlobals "need_fit"=some (some (.ref zW)))
  (Cs:K.lookup zW=some ⟨aj7,aj4, .func (fnOf "need_fit" "need_fit" (bo kU) (aA kU) (au kU) .none aj8 aj9 aj_ aj5 MB aka),aj6⟩)
  (Ct:codeIn K MB "need_fit"=true)
  (Cu:keepIn K (.ref zW)=true)
  (Cv:PySem.W.nsIn K mainGlobals "texts_of"=some (some (.ref zX)))
  (Cw:K.lookup zX=some ⟨ake,akb, .func (fnOf "texts_of" "texts_of" (bo kW) (aA kW) (au kW) .none akf akg akh akc MC aki),akd⟩)
  (Cy:codeIn K MC "texts_of"=true)
  (Cz:keepIn K (.ref zX)=true)
  (CA:findIn K (.ref aO) "__init__"=some (some (.ref sT)))
  (CC:isFn K (.ref sT)=true)
  (CD:K.lookup sT=some ⟨akm,akj, .func (fnOf "__init__" "Paper.__init__" (bo kY) (aA kY) (au kY) .none akn ako akp akk MD akq),akl⟩)
  (CG:codeIn K MD "Paper.__init__"=true)
  (CH:keepIn K (.ref sT)=true)
  (CI:findIn K (.ref aO) "size"=some (some (.ref sU)))
  (CJ:isFn K (.ref sU)=true)
  (CK:K.lookup sU=some ⟨aku,akr, .func (fnOf "size" "Paper.size" (bo kZ) (aA kZ) (au kZ) .none akv akw akx aks ME aky),akt⟩)
  (CL:codeIn K ME "Paper.size"=true)
  (tO:keepIn K (.ref sU)=true)
  (CM:findIn K (.ref aO) "lines"=some (some (.ref sV)))
  (CN:isFn K (.ref sV)=true)
  (CO:K.lookup sV=some ⟨akC,akz, .func (fnOf "lines" "Paper.lines" (bo k_) (aA k_) (au k_) .none akD akE akF akA MF akG),akB⟩)
  (CQ:codeIn K MF "Paper.lines"=true)
  (tP:keepIn K (.ref sV)=true)
  (CS:findIn K (.ref aO) "part"=some (some (.ref sW)))
  (CU:isFn K (.ref sW)=true)
  (CV:K.lookup sW=some ⟨akK,akH, .func (fnOf "part" "Paper.part" (bo lg) (aA lg) (au lg) .none akL akM akN akI MG akO),akJ⟩)
  (CW:codeIn K MG "Paper.part"=true)
  (tQ:keepIn K (.ref sW)=true)
  (CY:findIn K (.ref aO) "changed"=some (some (.ref sX)))
  (CZ:isFn K (.ref sX)=true)
  (C0:K.lookup sX=some ⟨akS,akP, .func (fnOf "changed" "Paper.changed" (bo lh) (aA lh) (au lh) .none akT akU akV akQ MH akW),akR⟩)
  (C1:codeIn K MH "Paper.changed"=true)
  (tR:keepIn K (.ref sX)=true)
  (C2:findIn K (.ref aO) "line_begin"=some (some (.ref sY)))
  (C3:isFn K (.ref sY)=true)
  (C4:K.lookup sY=some ⟨ak0,akX, .func (fnOf "line_begin" "Paper.line_begin" (bo lj) (aA lj) (au lj) .none ak1 ak2 ak3 akY MI ak4),akZ⟩)
  (C5:codeIn K MI "Paper.line_begin"=true)
  (tS:keepIn K (.ref sY)=true)
  (C6:findIn K (.ref aO) "line_size"=some (some (.ref sZ)))
  (C7:isFn K (.ref sZ)=true)
  (C8:K.lookup sZ=some ⟨ak8,ak5, .func (fnOf "line_size" "Paper.line_size" (bo lA) (aA lA) (au lA) .none ak9 ak_ ala ak6 MJ alb),ak7⟩)
  (C9:codeIn K MJ "Paper.line_size"=true)
  (tU:keepIn K (.ref sZ)=true)
  (C_:findIn K (.ref aO) "line_at"=some (some (.ref s9)))
  (Dc:isFn K (.ref s9)=true)
  (Dd:K.lookup s9=some ⟨alf,alc, .func (fnOf "line_at" "Paper.line_at" (bo lB) (aA lB) (au lB) .none alg alh ali ald MK alj),ale⟩)
  (De:codeIn K MK "Paper.line_at"=true)
  (tV:keepIn K (.ref s9)=true)
  (Df:findIn K (.ref aO) "place_at"=some (some (.ref s_)))
  (Dg:isFn K (.ref s_)=true)
  (Dh:K.lookup s_=some ⟨alo,alk, .func (fnOf "place_at" "Paper.place_at" (bo lE) (aA lE) (au lE) .none alp alq alr alm ML als),aln⟩)
  (Di:codeIn K ML "Paper.place_at"=true)
  (tW:keepIn K (.ref s_)=true)
  (Dj:PySem.W.nsIn K mainGlobals "_law_cell_at"=some (some (.ref zY)))
  (Dk:K.lookup zY=some ⟨alx,alu, .func (fnOf "_law_cell_at" "_law_cell_at" (bo lG) (aA lG) (au lG) .none aly alz alA alv MM alB),alw⟩)
  (Dl:codeIn K MM "_law_cell_at"=true)
  (Dm:keepIn K (.ref zY)=true)
  (Dp:PySem.W.nsIn K mainGlobals "_law_whole"=some (some (.ref zZ)))
  (Dq:K.lookup zZ=some ⟨alF,alC, .func (fnOf "_law_whole" "_law_whole" (bo lH) (aA lH) (au lH) .none alG alH alI alD MN alJ),alE⟩)
  (Dr:codeIn K MN "_law_whole"=true)
  (Ds:keepIn K (.ref zZ)=true)
  (Dt:PySem.W.nsIn K mainGlobals "_law_mixed"=some (some (.ref z5)))
  (Du:K.lookup z5=some ⟨alN,alK, .func (fnOf "_law_mixed" "_law_mixed" (bo lI) (aA lI) (au lI) .none alO alP alQ alL MO alR),alM⟩)
  (Dv:codeIn K MO "_law_mixed"=true)
  (Dw:keepIn K (.ref z5)=true)
  (Dx:PySem.W.nsIn K mainGlobals "_law_text_by"=some (some (.ref z6)))
  (Dy:K.lookup z6=some ⟨alV,alS, .func (fnOf "_law_text_by" "_law_text_by" (bo lJ) (aA lJ) (au lJ) .none alW alX alY alT MP alZ),alU⟩)
  (Dz:codeIn K MP "_law_text_by"=true)
  (DA:keepIn K (.ref z6)=true)
  (DB:PySem.W.nsIn K mainGlobals "_law_neat"=some (some (.ref z7)))
  (DC:K.lookup z7=some ⟨al3,al0, .func (fnOf "_law_neat" "_law_neat" (bo lK) (aA lK) (au lK) .none al4 al6 al7 al1 MQ al8),al2⟩)
  (DD:codeIn K MQ "_law_neat"=true)
  (DE:keepIn K (.ref z7)=true)
  (DF:PySem.W.nsIn K mainGlobals "_law_change_by"=some (some (.ref z8)))
  (DG:K.lookup z8=some ⟨amb,al9, .func (fnOf "_law_change_by" "_law_change_by" (bo cw) (aA cw) (au cw) .none amc amd ame al_ MR amf),ama⟩)
  (DH:codeIn K MR "_law_change_by"=true)
  (DI:keepIn K (.ref z8)=true)
  (DJ:PySem.W.nsIn K mainGlobals "_law_done"=some (some (.ref z9)))
  (DK:K.lookup z9=some ⟨amj,amg, .func (fnOf "_law_done" "_law_done" (bo lL) (aA lL) (au lL) .none amk aml amm amh MS amn),ami⟩)
  (DL:codeIn K MS "_law_done"=true)
  (DM:keepIn K (.ref z9)=true)
  (DN:PySem.W.nsIn K mainGlobals "_law_pair"=some (some (.ref z_)))
  (DO:K.lookup z_=some ⟨ams,amo, .func (fnOf "_law_pair" "_law_pair" (bo lM) (aA lM) (au lM) .none amt amu amv amq MT amw),amr⟩)
  (DP:codeIn K MT "_law_pair"=true)
  (DQ:keepIn K (.ref z_)=true)
  (DR:PySem.W.nsIn K mainGlobals "_law_line"=some (some (.ref Aa)))
  (DS:K.lookup Aa=some ⟨amA,amx, .func (fnOf "_law_line" "_law_line" (bo lN) (aA lN) (au lN) .none amB amC amD amy MU amE),amz⟩)
  (DT:codeIn K MU "_law_line"=true)
  (DU:keepIn K (.ref Aa)=true)
  (DV:PySem.W.nsIn K mainGlobals "law"=some (some (.ref Ab)))
  (DW:K.lookup Ab=some ⟨amH,amF, .func (fnOf "law" "law" (bo bI) (aA bI) (au bI) .none MW MX MY MV Ac MZ),amG⟩)
  (DX:codeIn K Ac "law"=true)
  (DY:keepIn K (.ref Ab)=true)
  (DZ:PySem.W.nsIn K mainGlobals "SIGNS"=some (some (Value.str SG amI)))
  (D0:PySem.W.nsIn K mainGlobals "bool"=some none)
  (D1:PySem.W.nsIn K mainGlobals "enumerate"=some none)
  (D2:PySem.W.nsIn K mainGlobals "int"=some none)
  (D3:PySem.W.nsIn K mainGlobals "isinstance"=some none)
  (D4:PySem.W.nsIn K mainGlobals "len"=some none)
  (D5:PySem.W.nsIn K mainGlobals "list"=some none)
  (D6:PySem.W.nsIn K mainGlobals "max"=some none)
  (D7:PySem.W.nsIn K mainGlobals "min"=some none)
  (D8:PySem.W.nsIn K mainGlobals "range"=some none)
  (D9:PySem.W.nsIn K mainGlobals "str"=some none)
  (D_:PySem.W.nsIn K mainGlobals "sum"=some none)
  (Ea:PySem.W.nsIn K mainGlobals "tuple"=some none)
  : ∃fd:FuncData,(∀(s:Shared) (v:Value),BindsTo s fd ⟨[v],[]⟩ [("_law_script",v)])∧ ∀base:Heap,K.In base→base.Ns mainGlobals mg→cm l.prog w K mg base qt 106 fa fd ["_law_script"] (fun vs H Q _=> (sL K) vs H Q E0):=by
 have e:=hfa.symm.trans (PySem.W.mg_of X G DV)
 cases e
 have y_bool:mg "bool"=none:=mg_none_of X G D0
 have amJ:mg "enumerate"=none:=mg_none_of X G D1
 have Eb:mg "int"=none:=mg_none_of X G D2
 have js:mg "isinstance"=none:=mg_none_of X G D3
 have fE:mg "len"=none:=mg_none_of X G D4
 have amK:mg "list"=none:=mg_none_of X G D5
 have amL:mg "max"=none:=mg_none_of X G D6
 have amM:mg "min"=none:=mg_none_of X G D7
 have Ec:mg "range"=none:=mg_none_of X G D8
 have M0:mg "str"=none:=mg_none_of X G D9
 have amN:mg "sum"=none:=mg_none_of X G D_
 have M1:mg "tuple"=none:=mg_none_of X G Ea
 have amO:jU mg ("SIGNS", .str SG):=⟨_,PySem.W.mg_of X G DZ,⟨_,rfl⟩⟩
 have ao0:jU mg ("BadText", .ref gT):=⟨_,PySem.W.mg_of X G tq,rfl⟩
 have ao1:jU mg ("BadChange", .ref pF):=⟨_,PySem.W.mg_of X G tw,rfl⟩
 have ao2:jU mg ("BadFit", .ref pG):=⟨_,PySem.W.mg_of X G tD,rfl⟩
 have ao3:jU mg ("NoPlace", .ref fZ):=⟨_,PySem.W.mg_of X G tE,rfl⟩
 have amP:jU mg ("Paper", .ref aO):=⟨_,PySem.W.mg_of X G tm,rfl⟩
 have iH:mQ K aQ:=⟨⟨Ae,Af,Ag,Ah⟩,Ak,Al,Am,An⟩
 have du:fO K aO:=⟨⟨Ao,Ap,Aq,Ar⟩,Av,Aw⟩
 have amQ:rC K aO:=⟨du.cl,AD,e5,e6,AE,AF⟩
 refine⟨fnOf "law" "law" (bo bI) (aA bI) (au bI) .none MW MX MY MV Ac MZ,fun s v=> .of_eq rfl,fun base X2 G2=> ?_⟩
 have amR:mP mg base ("BadText",gT):=rV X2 G2 tq Ax
 have amS:mP mg base ("BadChange",pF):=rV X2 G2 tw Ay
 have amT:mP mg base ("BadFit",pG):=rV X2 G2 tD Az
 have pH:mP mg base ("NoPlace",fZ):=rV X2 G2 tE AA
 have F0:=bB (st:=j8) l0 c0 k0
 have B0:=F0.binds (ps:=HW) fun _ _ _ _ _ _ us hl=>match us,hl with | [_],_=>rfl
 have T0:bE l.prog w K mg base 1 "is_whole" (lV):=⟨_,_,_,(bC (k:=0) F0 ZU [] [] HX [] [] [] [] wm ZV ae ae (aB js (aB Eb (aB y_bool ae))) [] ae ae ae ae ae (by rintro vs H Q E ⟨_,rfl,_⟩;rfl) acL),PySem.W.mg_of X G a0,F0.kp,B0⟩
 have F1:=bB (st:=j9) l1 c1 k1
 have B1:=F1.binds (ps:=Ir) fun _ _ _ _ _ _ us hl=>match us,hl with | [_,_,_],_=>rfl
 have T1:bE l.prog w K mg base 2 "is_between" (cK):=⟨_,_,_,(bC (k:=1) F1 ZW [("is_whole",lV)] [] Iu [] [] [] [] wH ZX (aB (T0.mono (by omega)) ae) ae ae [] ae ae ae ae ae (by rintro vs H Q E ⟨_,_,_,rfl,_⟩;rfl) acX),PySem.W.mg_of X G a1,F1.kp,B1⟩
 have F2:=bB (st:=j_) l2 c2 k2
 have B2:=F2.binds (ps:=HY) fun _ _ _ _ _ _ us hl=>match us,hl with | [_,_],_=>rfl
 have T2:bE l.prog w K mg base 1 "is_word" (rP K):=⟨_,_,_,(bC (k:=0) F2 ZY [] [] HZ [] [] [] [] rj ZZ ae ae (aB js (aB M0 ae)) [] ae ae ae ae ae (by rintro vs H Q E ⟨_,_,_,rfl,_⟩;rfl) acP),PySem.W.mg_of X G a2,F2.kp,B2⟩
 have F3:=bB (st:=ka) l3 c3 k3
 have B3:=F3.binds (ps:=H9) fun _ _ _ _ _ _ us hl=>match us,hl with | [_],_=>rfl
 have T3:bE l.prog w K mg base 1 "is_text" (mW):=⟨_,_,_,(bC (k:=0) F3 Z0 [] [("SIGNS", .str SG)] H_ [] [] [] [] rm Z1 ae (aB amO ae) (aB js (aB M0 ae)) [] ae ae ae ae ae (by rintro vs H Q E ⟨_,rfl,_⟩;rfl) acM),PySem.W.mg_of X G a3,F3.kp,B3⟩
 have F4:=bB (st:=kc) l4 c4 k4
 have B4:=F4.binds (ps:=Ia) fun _ _ _ _ _ _ us hl=>match us,hl with | [_],_=>rfl
 have T4:bE l.prog w K mg base 2 "need_text" (lW gT):=⟨_,_,_,(bC (k:=1) F4 Z2 [("is_text",mW)] [] Ib [] [] [("BadText",gT)] [] wq Z3 (aB (T3.mono (by omega)) ae) ae ae [] ae ae ae (aB amR ae) ae (by rintro vs H Q E ⟨_,rfl,_⟩;rfl) acO),PySem.W.mg_of X G a4,F4.kp,B4⟩
 have F5:=bB (st:=kd) l5 c5 k5
 have B5:=F5.binds (ps:=Ic) fun _ _ _ _ _ _ us hl=>match us,hl with | [_],_=>rfl
 have T5:bE l.prog w K mg base 2 "is_part" (yK):=⟨_,_,_,(bC (k:=1) F5 Z4 [("is_word",rP K),("is_whole",lV),("is_text",mW)] [] Ie [] [] [] [] ou Z5 (aB (T2.mono (by omega)) (aB (T0.mono (by omega)) (aB (T3.mono (by omega)) ae))) ae (aB js (aB M1 (aB fE ae))) [] ae ae ae ae ae (by rintro vs H Q E ⟨_,rfl,_⟩;rfl) acR),PySem.W.mg_of X G a5,F5.kp,B5⟩
 have F6:=bB (st:=ke) l6 c6 k6
 have B6:=F6.binds (ps:=Ig) fun _ _ _ _ _ _ us hl=>match us,hl with | [_,_],_=>rfl
 have T6:bE l.prog w K mg base 1 "may_follow" (rH):=⟨_,_,_,(bC (k:=0) F6 Z6 [] [] Ih [] [] [] [] wu Z7 ae ae ae [] ae ae ae ae ae (by rintro vs H Q E ⟨_,_,rfl,_⟩;rfl) acg),PySem.W.mg_of X G a6,F6.kp,B6⟩
 have F7:=bB (st:=kf) l7 c7 k7
 have B7:=F7.binds (ps:=Ii) fun _ _ _ _ _ _ us hl=>match us,hl with | [_],_=>rfl
 have T7:bE l.prog w K mg base 3 "need_change" (rJ):=⟨_,_,_,(bC (k:=2) F7 Z8 [("is_part",yG),("may_follow",rH)] [] Ij [] [] [("BadChange",pF)] [] wy Z9 (aB ((T5.weak fun _ _ _ _ h=>acT h).mono (by omega)) (aB (T6.mono (by omega)) ae)) ae (aB js (aB amK ae)) [] ae ae ae (aB amS ae) ae (by rintro vs H Q E ⟨_,_,_,rfl,_⟩;rfl) acr),PySem.W.mg_of X G a7,F7.kp,B7⟩
 have F8:=bB (st:=kg) l8 c8 k8
 have B8:=F8.binds (ps:=Ik) fun _ _ _ _ _ _ us hl=>match us,hl with | [_],_=>rfl
 have T8:bE l.prog w K mg base 1 "part_size" (fm):=⟨_,_,_,(bC (k:=0) F8 Z_ [] [] Il [] [] [] [] wA aaa ae ae (aB fE ae) [] ae ae ae ae ae (by rintro vs H Q E ⟨_,_,rfl,_⟩;rfl) ach),PySem.W.mg_of X G a8,F8.kp,B8⟩
 have F9:=bB (st:=kh) l9 c9 k9
 have B9:=F9.binds (ps:=Im) fun _ _ _ _ _ _ us hl=>match us,hl with | [_],_=>rfl
 have T9:bE l.prog w K mg base 4 "sizes" (oC):=⟨_,_,_,(bC (k:=3) F9 aab [("need_change",rJ),("part_size",fm)] [] Io [] [] [] [] wC aac (aB (T7.mono (by omega)) (aB (T8.mono (by omega)) ae)) ae (aB amN ae) [] ae ae ae ae ae (by rintro vs H Q E ⟨_,_,_,rfl,_⟩;rfl) acv),PySem.W.mg_of X G a9,F9.kp,B9⟩
 have Ed:=bB (st:=ki) AH AI AJ
 have B10:=Ed.binds (ps:=IF) fun _ _ _ _ _ _ us hl=>match us,hl with | [_],_=>rfl
 have pI:bE l.prog w K mg base 1 "height_of" (N.fU):=⟨_,_,_,(bC (k:=0) Ed aad [] [] IG [] [] [] [] wU aae ae ae ae [] ae ae ae ae ae (by rintro vs H Q E ⟨_,_,rfl,_⟩;rfl) N.adp),PySem.W.mg_of X G AG,Ed.kp,B10⟩
 have Ee:=bB (st:=kj) AL AM AN
 have B11:=Ee.binds (ps:=IH) fun _ _ _ _ _ _ us hl=>match us,hl with | [_],_=>rfl
 have pJ:bE l.prog w K mg base 1 "size_of" (N.dF):=⟨_,_,_,(bC (k:=0) Ee aaf [] [] II [] [] [] [] wW aag ae ae ae [] ae ae ae ae ae (by rintro vs H Q E ⟨_,_,rfl,_⟩;rfl) N.adq),PySem.W.mg_of X G AK,Ee.kp,B11⟩
 have Ef:=bB (st:=kl) AQ AR AS
 have B12:=Ef.binds (ps:=IJ) fun _ _ _ _ _ _ us hl=>match us,hl with | [_],_=>rfl
 have tX:bE l.prog w K mg base 1 "ends_of" (N.dS):=⟨_,_,_,(bC (k:=0) Ef aah [] [] IL [] [] [] [] wY aai ae ae ae [] ae ae ae ae ae (by rintro vs H Q E ⟨_,_,rfl,_⟩;rfl) N.ads),PySem.W.mg_of X G AO,Ef.kp,B12⟩
 have Eg:=bB (st:=km) AV AW AX
 have B13:=Eg.binds (ps:=IM) fun _ _ _ _ _ _ us hl=>match us,hl with | [_,_,_],_=>rfl
 have tY:bE l.prog w K mg base 2 "made" (N.iw):=⟨_,_,_,(bC (k:=1) Eg aaj [("height_of",N.fU),("size_of",N.dF),("ends_of",N.dS)] [] IP [] [] [] [] w4 aak (aB (pI.mono (by omega)) (aB (pJ.mono (by omega)) (aB (tX.mono (by omega)) ae))) ae (aB amL ae) [] ae ae ae ae ae (by rintro vs H Q E ⟨_,_,_,_,_,_,_,_,rfl,_⟩;rfl) N.adu),PySem.W.mg_of X G AU,Eg.kp,B13⟩
 have Eh:=bB (st:=ko) AZ A2 A3
 have B14:=Eh.binds (ps:=IQ) fun _ _ _ _ _ _ us hl=>match us,hl with | [_,_,_],_=>rfl
 have T14:bE l.prog w K mg base 3 "turned_right" (N.r6):=⟨_,_,_,(bC (k:=2) Eh aal [("height_of",N.fU),("made",N.iw)] [] IS [] [] [] [] w6 aam (aB (pI.mono (by omega)) (aB (tY.mono (by omega)) ae)) ae ae [] ae ae ae ae ae (by rintro vs H Q E ⟨_,_,_,_,_,_,_,_,rfl,_⟩;rfl) N.adv),PySem.W.mg_of X G AY,Eh.kp,B14⟩
 have Ei:=bB (st:=kq) A7 A8 A9
 have B15:=Ei.binds (ps:=IT) fun _ _ _ _ _ _ us hl=>match us,hl with | [_,_,_],_=>rfl
 have T15:bE l.prog w K mg base 3 "turned_left" (N.r9):=⟨_,_,_,(bC (k:=2) Ei aan [("height_of",N.fU),("made",N.iw)] [] IU [] [] [] [] w_ aao (aB (pI.mono (by omega)) (aB (tY.mono (by omega)) ae)) ae ae [] ae ae ae ae ae (by rintro vs H Q E ⟨_,_,_,_,_,_,_,_,rfl,_⟩;rfl) N.adw),PySem.W.mg_of X G A6,Ei.kp,B15⟩
 have Ej:=bB (st:=kr) Ba Bb Bc
 have B16:=Ej.binds (ps:=IV) fun _ _ _ _ _ _ us hl=>match us,hl with | [_,_,_],_=>rfl
 have T16:bE l.prog w K mg base 4 "leveled" (N.se):=⟨_,_,_,(bC (k:=3) Ej aap [("height_of",N.fU),("turned_right",N.r6),("turned_left",N.r9),("made",N.iw)] [] IW [] [] [] [] xb aaq (aB (pI.mono (by omega)) (aB (T14.mono (by omega)) (aB (T15.mono (by omega)) (aB (tY.mono (by omega)) ae)))) ae ae [] ae ae ae ae ae (by rintro vs H Q E ⟨_,_,_,_,_,_,_,_,rfl,_⟩;rfl) N.ady),PySem.W.mg_of X G A_,Ej.kp,B16⟩
 have tZ:=bB (st:=ku) Bd Be Bf
 have M3:=tZ.binds (ps:=IX) fun _ _ _ _ _ _ us hl=>match us,hl with | [_,_,_],_=>rfl
 have R17: ∀n,bE l.prog w K mg base (4+n+1) "joined" (N.dg n):=by
  intro n
  induction n with
  | zero=>exact om tZ J5 (PySem.W.mg_of X G tF) M3 N.adA
  | succ n ih=>exact⟨_,_,_,(bC (k:=4+n+1) tZ J5 [("height_of",N.fU),("leveled",N.se),("joined",N.dg n),("made",N.iw)] [] IY [] [] [] [] xg aar (aB (pI.mono (by omega)) (aB (T16.mono (by omega)) (aB ih (aB (tY.mono (by omega)) ae)))) ae ae [] ae ae ae ae ae (by rintro vs H Q E ⟨_,_,_,_,_,_,_,_,rfl,_⟩;rfl) (N.adC n)),PySem.W.mg_of X G tF,tZ.kp,M3⟩
 have pK:bE l.prog w K mg base 69 "joined" (N.dg 64):=R17 64
 have t5:=bB (st:=kx) Bg Bh Bi
 have M4:=t5.binds (ps:=IZ) fun _ _ _ _ _ _ us hl=>match us,hl with | [_],_=>rfl
 have R18: ∀n,bE l.prog w K mg base (69+n+1) "last_out" (N.jj n):=by
  intro n
  induction n with
  | zero=>exact om t5 J6 (PySem.W.mg_of X G tG) M4 N.adD
  | succ n ih=>exact⟨_,_,_,(bC (k:=69+n+1) t5 J6 [("last_out",N.jj n),("joined",N.dg 64)] [] I0 [] [] [] [] xi aas (aB ih (aB (pK.mono (by omega)) ae)) ae ae [] ae ae ae ae ae (by rintro vs H Q E ⟨_,_,_,_,_,_,rfl,_⟩;rfl) (N.adF n)),PySem.W.mg_of X G tG,t5.kp,M4⟩
 have T18:bE l.prog w K mg base 102 "last_out" (N.jj 32):=R18 32
 have t6:=bB (st:=ky) Bj Bk Bl
 have M5:=t6.binds (ps:=I_) fun _ _ _ _ _ _ us hl=>match us,hl with | [_],_=>rfl
 have R19: ∀n,bE l.prog w K mg base (69+n+1) "first_out" (N.jm n):=by
  intro n
  induction n with
  | zero=>exact om t6 J7 (PySem.W.mg_of X G tH) M5 N.adS
  | succ n ih=>exact⟨_,_,_,(bC (k:=69+n+1) t6 J7 [("first_out",N.jm n),("joined",N.dg 64)] [] Ja [] [] [] [] xk aat (aB ih (aB (pK.mono (by omega)) ae)) ae ae [] ae ae ae ae ae (by rintro vs H Q E ⟨_,_,_,_,_,_,rfl,_⟩;rfl) (N.adU n)),PySem.W.mg_of X G tH,t6.kp,M5⟩
 have T19:bE l.prog w K mg base 102 "first_out" (N.jm 32):=R19 32
 have Ek:=bB (st:=kz) Bn Bo Bp
 have B20:=Ek.binds (ps:=Jb) fun _ _ _ _ _ _ us hl=>match us,hl with | [_,_],_=>rfl
 have T20:bE l.prog w K mg base 103 "sewn" (N.m_):=⟨_,_,_,(bC (k:=102) Ek aau [("last_out",N.jj 32),("first_out",N.jm 32),("joined",N.dg 64)] [] Jc [] [] [] [] xn aav (aB (T18.mono (by omega)) (aB (T19.mono (by omega)) (aB (pK.mono (by omega)) ae))) ae ae [] ae ae ae ae ae (by rintro vs H Q E ⟨_,_,_,_,_,rfl,_⟩;rfl) N.adW),PySem.W.mg_of X G Bm,Ek.kp,B20⟩
 have El:=bB (st:=kJ) BJ BK BL
 have B26:=El.binds (ps:=Iw) fun _ _ _ _ _ _ us hl=>match us,hl with | [_,_],_=>rfl
 have M6:bE l.prog w K mg base 1 "many_upto" (lT):=⟨_,_,_,(bC (k:=0) El aaE [] [] Iy [] [] [] [] wK aaF ae ae (aB fE ae) [] ae ae ae ae ae (by rintro vs H Q E ⟨_,_,_,rfl,_⟩;rfl) acG),PySem.W.mg_of X G BI,El.kp,B26⟩
 have M7:=bB (st:=kQ) Cb Cc tM
 have B30:=M7.binds (ps:=Jj) fun _ _ _ _ _ _ us hl=>match us,hl with | [_,_],_=>rfl
 have Em:dN l.prog w K mg base 2 ("ends_ahead",aQ,N.fV aQ):=⟨iH.cl,_,_,_,⟨B_,Ca,tM⟩,(bC (k:=1) M7 aaM [("many_upto",lT)] [] Jk [] [] [] [] xy aaN (aB (M6.mono (by omega)) ae) ae ae [] ae ae ae ae ae (by rintro vs H Q E ⟨_,_,_,_,_,_,_,rfl,_⟩;rfl) (N.adK iH)),B30⟩
 have En:=bB (st:=kA) Br Bs Bt
 have B21:=En.binds (ps:=Jd) fun _ _ _ _ _ _ us hl=>match us,hl with | [_,_,_],_=>rfl
 have T21:bE l.prog w K mg base 3 "cut_in_two" (N.sf aQ):=⟨_,_,_,(bC (k:=2) En aaw [] [] Je [("ends_ahead",aQ,N.fV aQ)] [] [] [] xp aax ae ae ae [] ae (aB (Em.mono (by omega)) ae) ae ae ae (by rintro vs H Q E ⟨_,_,_,_,_,_,_,_,_,_,_,rfl,_⟩;rfl) N.adM),PySem.W.mg_of X G Bq,En.kp,B21⟩
 have t9:=bB (st:=kD) Bu Bv Bw
 have M8:=t9.binds (ps:=Jf) fun _ _ _ _ _ _ us hl=>match us,hl with | [_,_,_],_=>rfl
 have R22: ∀n,bE l.prog w K mg base (69+n+1) "parted" (N.eI aQ n):=by
  intro n
  induction n with
  | zero=>exact om t9 J8 (PySem.W.mg_of X G tI) M8 (N.adN aQ)
  | succ n ih=>exact⟨_,_,_,(bC (k:=69+n+1) t9 J8 [("size_of",N.dF),("parted",N.eI aQ n),("joined",N.dg 64),("cut_in_two",N.sf aQ)] [] Jg [] [] [] [] xr aay (aB (pJ.mono (by omega)) (aB ih (aB (pK.mono (by omega)) (aB (T21.mono (by omega)) ae)))) ae ae [] ae ae ae ae ae (by rintro vs H Q E ⟨_,_,_,_,_,_,_,_,_,rfl,_⟩;rfl) (N.adP n)),PySem.W.mg_of X G tI,t9.kp,M8⟩
 have M9:bE l.prog w K mg base 102 "parted" (N.eI aQ 32):=R22 32
 have t_:=bB (st:=kE) Bx By Bz
 have M_:=t_.binds (ps:=Jh) fun _ _ _ _ _ _ us hl=>match us,hl with | [_],_=>rfl
 have R23: ∀n,bE l.prog w K mg base (0+n+1) "pieces_of" (N.iy n):=by
  intro n
  induction n with
  | zero=>exact om t_ J9 (PySem.W.mg_of X G tJ) M_ N.adH
  | succ n ih=>exact⟨_,_,_,(bC (k:=0+n+1) t_ J9 [("pieces_of",N.iy n)] [] Ji [] [] [] [] xv aaz (aB ih ae) ae ae [] ae ae ae ae ae (by rintro vs H Q E ⟨_,_,rfl,_⟩;rfl) (N.adI n)),PySem.W.mg_of X G tJ,t_.kp,M_⟩
 have T23:bE l.prog w K mg base 33 "pieces_of" (N.iy 32):=R23 32
 have Eo:=bB (st:=kH) BB BC BD
 have B24:=Eo.binds (ps:=JN) fun _ _ _ _ _ _ us hl=>match us,hl with | [_,_,_],_=>rfl
 have T24:bE l.prog w K mg base 3 "ends_ahead_of" (N.pj aQ):=⟨_,_,_,(bC (k:=2) Eo aaA [("size_of",N.dF),("ends_of",N.dS)] [] JO [("ends_ahead",aQ,N.fV aQ)] [] [] [] yc aaB (aB (pJ.mono (by omega)) (aB (tX.mono (by omega)) ae)) ae ae [] ae (aB (Em.mono (by omega)) ae) ae ae ae (by rintro vs H Q E ⟨_,_,_,_,_,_,_,_,_,rfl,_⟩;rfl) N.ae9),PySem.W.mg_of X G BA,Eo.kp,B24⟩
 have Na:=bB (st:=kR) Cf Cg tN
 have B31:=Na.binds (ps:=JR) fun _ _ _ _ _ _ us hl=>match us,hl with | [_,_],_=>rfl
 have T31:dN l.prog w K mg base 1 ("end_place",aQ,N.pk aQ):=⟨iH.cl,_,_,_,⟨Cd,Ce,tN⟩,(bC (k:=0) Na aaO [] [] JS [] [] [] [] yg aaP ae ae ae [] ae ae ae ae ae (by rintro vs H Q E ⟨_,_,_,_,_,_,_,_,rfl,_⟩;rfl) (N.ae_ iH)),B31⟩
 have Ep:=bB (st:=kI) BF BG BH
 have B25:=Ep.binds (ps:=JP) fun _ _ _ _ _ _ us hl=>match us,hl with | [_,_,_],_=>rfl
 have Nb:bE l.prog w K mg base 3 "place_of_end" (N.iB aQ):=⟨_,_,_,(bC (k:=2) Ep aaC [("ends_of",N.dS),("size_of",N.dF)] [] JQ [("end_place",aQ,N.pk aQ),("ends_ahead",aQ,N.fV aQ)] [] [] [] ye aaD (aB (tX.mono (by omega)) (aB (pJ.mono (by omega)) ae)) ae ae [] ae (aB (T31.mono (by omega)) (aB (Em.mono (by omega)) ae)) ae ae ae (by rintro vs H Q E ⟨_,_,_,_,_,_,_,_,_,_,rfl,_⟩;rfl) N.afb),PySem.W.mg_of X G BE,Ep.kp,B25⟩
 have Nc:=bB (st:=kN) BO BP BQ
 have B27:=Nc.binds (ps:=Iz) fun _ _ _ _ _ _ us hl=>match us,hl with | [_],_=>rfl
 have T27:mO l.prog w K mg base 2 ("Stock",aQ,oJ aQ):=⟨0+1,_,_,_,Nat.le_refl _,⟨Ai,BM,BN,Aj⟩,(bC (k:=0) Nc aaG [] [] IA [] [] [] [] wM aaH ae ae ae [] ae ae ae ae ae (by rintro vs H Q E ⟨_,_,rfl,_⟩;rfl) (ac0 iH)),PySem.W.mg_of X G Ad,B27⟩
 have Nf:=bB (st:=kO) BU BV tK
 have B28:=Nf.binds (ps:=IB) fun _ _ _ _ _ _ us hl=>match us,hl with | [_,_],_=>rfl
 have T28:dN l.prog w K mg base 3 ("put",aQ,oM gT aQ):=⟨iH.cl,_,_,_,⟨BR,BS,tK⟩,(bC (k:=2) Nf aaI [("need_text",lW gT)] [] IC [] [] [] [] wN aaJ (aB (T4.mono (by omega)) ae) ae (aB fE ae) [] ae ae ae ae ae (by rintro vs H Q E ⟨_,_,_,_,_,_,_,rfl,_⟩;rfl) (ac2 iH)),B28⟩
 have Ng:=bB (st:=kP) BY BZ tL
 have B29:=Ng.binds (ps:=ID) fun _ _ _ _ _ _ us hl=>match us,hl with | [_,_,_],_=>rfl
 have T29:dN l.prog w K mg base 3 ("read",aQ,oQ fZ aQ):=⟨iH.cl,_,_,_,⟨BW,BX,tL⟩,(bC (k:=2) Ng aaK [("is_between",cK),("many_upto",lT)] [] IE [] [] [("NoPlace",fZ)] [] wQ aaL (aB (T1.mono (by omega)) (aB (M6.mono (by omega)) ae)) ae (aB fE ae) [] ae ae ae (aB pH ae) ae (by rintro vs H Q E ⟨_,_,_,_,_,_,_,_,rfl,_⟩;rfl) (adk iH)),B29⟩
 have Er:=bB (st:=kS) Cj Ck Cm
 have B32:=Er.binds (ps:=Jl) fun _ _ _ _ _ _ us hl=>match us,hl with | [_,_],_=>rfl
 have Nh:bE l.prog w K mg base 70 "node_put" (N.jo aQ):=⟨_,_,_,(bC (k:=69) Er aaQ [("joined",N.dg 64)] [] Jm [("put",aQ,oM gT aQ)] [] [] [] xC aaR (aB (pK.mono (by omega)) ae) ae (aB fE ae) [] ae (aB (T28.mono (by omega)) ae) ae ae ae (by rintro vs H Q E ⟨_,_,_,_,_,_,_,rfl,_⟩;rfl) N.ad5),PySem.W.mg_of X G Ci,Er.kp,B32⟩
 have Ni:=bB (st:=kY) CD CG CH
 have B36:=Ni.binds (ps:=Ju) fun _ _ _ _ _ _ us hl=>match us,hl with | [_,_,_],_=>rfl
 have Nj:mO l.prog w K mg base 2 ("Paper",aO,N.gP aO):=⟨0+1,_,_,_,Nat.le_refl _,⟨As,CA,CC,Au⟩,(bC (k:=0) Ni aaY [] [] Jv [] [] [] [] xM aaZ ae ae ae [] ae ae ae ae ae (by rintro vs H Q E ⟨_,_,_,_,rfl,_⟩;rfl) (N.aea du)),PySem.W.mg_of X G tm,B36⟩
 have Es:=bB (st:=kT) Co Cp Cq
 have B33:=Es.binds (ps:=Jo) fun _ _ _ _ _ _ us hl=>match us,hl with | [_],_=>rfl
 have T33:bE l.prog w K mg base 71 "paper_of" (N.o8 aO aQ):=⟨_,_,_,(bC (k:=70) Es aaS [("need_text",lW gT),("node_put",N.jo aQ)] [] Jp [] [("Stock",aQ,oJ aQ),("Paper",aO,N.gP aO)] [] [] xE aaT (aB (T4.mono (by omega)) (aB (Nh.mono (by omega)) ae)) ae ae [] ae ae (aB (T27.mono (by omega)) (aB (Nj.mono (by omega)) ae)) ae ae (by rintro vs H Q E ⟨_,rfl,_⟩;rfl) N.aev),PySem.W.mg_of X G Cn,Es.kp,B33⟩
 have Nk:=bB (st:=kZ) CK CL tO
 have B37:=Nk.binds (ps:=Jw) fun _ _ _ _ _ _ us hl=>match us,hl with | [_],_=>rfl
 have ua:dN l.prog w K mg base 2 ("size",aO,N.dX aO):=⟨du.cl,_,_,_,⟨CI,CJ,tO⟩,(bC (k:=1) Nk aa0 [("size_of",N.dF)] [] Jx [] [] [] [] xQ aa1 (aB (pJ.mono (by omega)) ae) ae ae [] ae ae ae ae ae (by rintro vs H Q E ⟨_,_,_,_,_,_,rfl,_⟩;rfl) (N.aeb du)),B37⟩
 have Et:=bB (st:=kW) Cw Cy Cz
 have B35:=Et.binds (ps:=Js) fun _ _ _ _ _ _ us hl=>match us,hl with | [_,_],_=>rfl
 have T35:bE l.prog w K mg base 34 "texts_of" (N.oY aQ):=⟨_,_,_,(bC (k:=33) Et aaW [("pieces_of",N.iy 32)] [] Jt [("read",aQ,oQ fZ aQ)] [] [] [] xI aaX (aB (T23.mono (by omega)) ae) ae ae [] ae (aB (T29.mono (by omega)) ae) ae ae ae (by rintro vs H Q E ⟨_,_,_,_,_,_,_,_,rfl,_⟩;rfl) N.ad7),PySem.W.mg_of X G Cv,Et.kp,B35⟩
 have Nl:=bB (st:=lg) CV CW tQ
 have B39:=Nl.binds (ps:=JA) fun _ _ _ _ _ _ us hl=>match us,hl with | [_,_,_],_=>rfl
 have T39:dN l.prog w K mg base 103 ("part",aO,N.oZ aO aQ):=⟨du.cl,_,_,_,⟨CS,CU,tQ⟩,(bC (k:=102) Nl aa4 [("is_between",cK),("parted",N.eI aQ 32),("texts_of",N.oY aQ)] [] JB [("size",aO,N.dX aO)] [] [("NoPlace",fZ)] [] xU aa5 (aB (T1.mono (by omega)) (aB (M9.mono (by omega)) (aB (T35.mono (by omega)) ae))) ae ae [] ae (aB (ua.mono (by omega)) ae) ae (aB pH ae) ae (by rintro vs H Q E ⟨_,_,_,_,_,_,_,_,_,_,_,_,rfl,_⟩;rfl) (N.aee du)),B39⟩
 have Eu:=bB (st:=kU) Cs Ct Cu
 have B34:=Eu.binds (ps:=Jq) fun _ _ _ _ _ _ us hl=>match us,hl with | [_,_],_=>rfl
 have T34:bE l.prog w K mg base 104 "need_fit" (N.o6 aO aQ):=⟨_,_,_,(bC (k:=103) Eu aaU [("sizes",oC),("part_size",fm)] [] Jr [("size",aO,N.dX aO),("part",aO,N.oZ aO aQ)] [] [("BadFit",pG)] [] xG aaV (aB (T9.mono (by omega)) (aB (T8.mono (by omega)) ae)) ae (aB fE ae) [] ae (aB (ua.mono (by omega)) (aB (T39.mono (by omega)) ae)) ae (aB amT ae) ae (by rintro vs H Q E ⟨_,_,_,_,_,_,_,_,_,_,_,_,_,_,rfl,_⟩;rfl) (N.ael du)),PySem.W.mg_of X G Cr,Eu.kp,B34⟩
 have Nm:=bB (st:=k_) CO CQ tP
 have B38:=Nm.binds (ps:=Jy) fun _ _ _ _ _ _ us hl=>match us,hl with | [_],_=>rfl
 have Nn:dN l.prog w K mg base 2 ("lines",aO,N.gQ aO):=⟨du.cl,_,_,_,⟨CM,CN,tP⟩,(bC (k:=1) Nm aa2 [("ends_of",N.dS)] [] Jz [] [] [] [] xS aa3 (aB (tX.mono (by omega)) ae) ae ae [] ae ae ae ae ae (by rintro vs H Q E ⟨_,_,_,_,_,_,rfl,_⟩;rfl) (N.aec du)),B38⟩
 have Np:=bB (st:=lh) C0 C1 tR
 have B40:=Np.binds (ps:=JC) fun _ _ _ _ _ _ us hl=>match us,hl with | [_,_],_=>rfl
 have T40:dN l.prog w K mg base 105 ("changed",aO,N.o7 aO aQ):=⟨du.cl,_,_,_,⟨CY,CZ,tR⟩,(bC (k:=104) Np aa6 [("need_fit",N.o6 aO aQ),("sewn",N.m_),("node_put",N.jo aQ),("parted",N.eI aQ 32),("part_size",fm)] [] JD [] [("Paper",aO,N.gP aO)] [] [] xW aa7 (aB (T34.mono (by omega)) (aB (T20.mono (by omega)) (aB (Nh.mono (by omega)) (aB (M9.mono (by omega)) (aB (T8.mono (by omega)) ae))))) ae ae [] ae ae (aB (Nj.mono (by omega)) ae) ae ae (by rintro vs H Q E ⟨_,_,_,_,_,_,_,_,_,_,_,_,_,_,rfl,_⟩;rfl) (N.aeu du)),B40⟩
 have Nq:=bB (st:=lj) C4 C5 tS
 have B41:=Nq.binds (ps:=JT) fun _ _ _ _ _ _ us hl=>match us,hl with | [_,_],_=>rfl
 have Ew:dN l.prog w K mg base 4 ("line_begin",aO,N.fD aO aQ):=⟨du.cl,_,_,_,⟨C2,C3,tS⟩,(bC (k:=3) Nq aa8 [("place_of_end",N.iB aQ)] [] JU [] [] [] [] yi aa9 (aB (Nb.mono (by omega)) ae) ae ae [] ae ae ae ae ae (by rintro vs H Q E ⟨_,_,_,_,_,_,_,_,_,_,_,rfl,_⟩;rfl) (N.afc du)),B41⟩
 have Nr:=bB (st:=lA) C8 C9 tU
 have B42:=Nr.binds (ps:=JV) fun _ _ _ _ _ _ us hl=>match us,hl with | [_,_],_=>rfl
 have Nt:dN l.prog w K mg base 5 ("line_size",aO,N.iD aO aQ):=⟨du.cl,_,_,_,⟨C6,C7,tU⟩,(bC (k:=4) Nr aa_ [("is_between",cK),("place_of_end",N.iB aQ)] [] JW [("lines",aO,N.gQ aO),("size",aO,N.dX aO),("line_begin",aO,N.fD aO aQ)] [] [("NoPlace",fZ)] [] yk aba (aB (T1.mono (by omega)) (aB (Nb.mono (by omega)) ae)) ae ae [] ae (aB (Nn.mono (by omega)) (aB (ua.mono (by omega)) (aB (Ew.mono (by omega)) ae))) ae (aB pH ae) ae (by rintro vs H Q E ⟨_,_,_,_,_,_,_,_,_,_,_,rfl,_⟩;rfl) (N.afd du)),B42⟩
 have Nu:=bB (st:=lB) Dd De tV
 have B43:=Nu.binds (ps:=JX) fun _ _ _ _ _ _ us hl=>match us,hl with | [_,_],_=>rfl
 have T43:dN l.prog w K mg base 5 ("line_at",aO,N.pw aO aQ):=⟨du.cl,_,_,_,⟨C_,Dc,tV⟩,(bC (k:=4) Nu abb [("is_between",cK),("ends_ahead_of",N.pj aQ)] [] JY [("size",aO,N.dX aO),("line_begin",aO,N.fD aO aQ)] [] [("NoPlace",fZ)] [] ym abc (aB (T1.mono (by omega)) (aB (T24.mono (by omega)) ae)) ae ae [] ae (aB (ua.mono (by omega)) (aB (Ew.mono (by omega)) ae)) ae (aB pH ae) ae (by rintro vs H Q E ⟨_,_,_,_,_,_,_,_,_,_,_,rfl,_⟩;rfl) (N.afe du)),B43⟩
 have Nv:=bB (st:=lE) Dh Di tW
 have B44:=Nv.binds (ps:=JZ) fun _ _ _ _ _ _ us hl=>match us,hl with | [_,_,_],_=>rfl
 have Nw:dN l.prog w K mg base 6 ("place_at",aO,N.iG aO aQ):=⟨du.cl,_,_,_,⟨Df,Dg,tW⟩,(bC (k:=5) Nv abd [("is_between",cK)] [] J0 [("line_size",aO,N.iD aO aQ),("line_begin",aO,N.fD aO aQ)] [] [("NoPlace",fZ)] [] yo abe (aB (T1.mono (by omega)) ae) ae ae [] ae (aB (Nt.mono (by omega)) (aB (Ew.mono (by omega)) ae)) ae (aB pH ae) ae (by rintro vs H Q E ⟨_,_,_,_,_,_,_,_,_,_,_,_,rfl,_⟩;rfl) N.aff),B44⟩
 have Ex:=bB (st:=lG) Dk Dl Dm
 have B45:=Ex.binds (ps:=Ip) fun _ _ _ _ _ _ us hl=>match us,hl with | [_,_],_=>rfl
 have T45:bE l.prog w K mg base 1 "_law_cell_at" (oB K):=⟨_,_,_,(bC (k:=0) Ex abf [] [] Iq [] [] [] [] wF abg ae ae (aB fE ae) [] ae ae ae ae ae (by rintro vs H Q E ⟨_,_,_,rfl,_⟩;rfl) aci),PySem.W.mg_of X G Dj,Ex.kp,B45⟩
 have Ey:=bB (st:=lH) Dq Dr Ds
 have B46:=Ey.binds (ps:=J_) fun _ _ _ _ _ _ us hl=>match us,hl with | [_],_=>rfl
 have Nx:bE l.prog w K mg base 1 "_law_whole" (gI):=⟨_,_,_,(bC (k:=0) Ey abh [] [] Iv [] [] [] [] wI abi ae ae (aB js (aB Eb (aB y_bool ae))) [] ae ae ae ae ae (by rintro vs H Q E ⟨_,rfl,_⟩;rfl) afm),PySem.W.mg_of X G Dp,Ey.kp,B46⟩
 have Ez:=bB (st:=lI) Du Dv Dw
 have B47:=Ez.binds (ps:=JE) fun _ _ _ _ _ _ us hl=>match us,hl with | [_,_],_=>rfl
 have EA:bE l.prog w K mg base 1 "_law_mixed" (N.fY):=⟨_,_,_,(bC (k:=0) Ez abj [] [] JF [] [] [] [] xZ abk ae ae ae [] ae ae ae ae ae (by rintro vs H Q E ⟨_,_,rfl,_⟩;rfl) N.aew),PySem.W.mg_of X G Dt,Ez.kp,B47⟩
 have EB:=bB (st:=lJ) Dy Dz DA
 have B48:=EB.binds (ps:=JG) fun _ _ _ _ _ _ us hl=>match us,hl with | [_,_],_=>rfl
 have Ny:bE l.prog w K mg base 2 "_law_text_by" (N.iA):=⟨_,_,_,(bC (k:=1) EB abl [("_law_mixed",N.fY)] [] JH [] [] [] [] x6 abm (aB (EA.mono (by omega)) ae) ae (aB Ec ae) [] ae ae ae ae ae (by rintro vs H Q E ⟨_,_,rfl,_⟩;rfl) N.aeC),PySem.W.mg_of X G Dx,EB.kp,B48⟩
 have EC:=bB (st:=lK) DC DD DE
 have B49:=EC.binds (ps:=JI) fun _ _ _ _ _ _ us hl=>match us,hl with | [_],_=>rfl
 have T49:bE l.prog w K mg base 1 "_law_neat" (N.pd):=⟨_,_,_,(bC (k:=0) EC abn [] [] JJ [] [] [] [] x9 abo ae ae (aB Eb ae) [] ae ae ae ae ae (by rintro vs H Q E ⟨_,_,_,_,_,rfl,_⟩;rfl) N.aeW),PySem.W.mg_of X G DB,EC.kp,B49⟩
 have ED:=bB (st:=cw) DG DH DI
 have B50:=ED.binds (ps:=JK) fun _ _ _ _ _ _ us hl=>match us,hl with | [_,_],_=>rfl
 have T50:bE l.prog w K mg base 3 "_law_change_by" (N.pf):=⟨_,_,_,(bC (k:=2) ED abp [("_law_mixed",N.fY),("_law_text_by",N.iA),("_law_neat",N.pd)] [] i9 [] [] [] [] dO abx (aB (EA.mono (by omega)) (aB (Ny.mono (by omega)) (aB (T49.mono (by omega)) ae))) ae (aB Ec (aB amM (aB fE ae))) [] ae ae ae ae ae (by rintro vs H Q E ⟨_,_,rfl,_⟩;rfl) N.ae3),PySem.W.mg_of X G DF,ED.kp,B50⟩
 have EE:=bB (st:=lL) DK DL DM
 have B51:=EE.binds (ps:=JL) fun _ _ _ _ _ _ us hl=>match us,hl with | [_,_],_=>rfl
 have T51:bE l.prog w K mg base 1 "_law_done" (oF):=⟨_,_,_,(bC (k:=0) EE aby [] [] JM [] [] [] [] ya abz ae ae (aB fE ae) [] ae ae ae ae ae (by rintro vs H Q E ⟨_,_,_,_,_,rfl,_⟩;rfl) N.aeD),PySem.W.mg_of X G DJ,EE.kp,B51⟩
 have EF:=bB (st:=lM) DO DP DQ
 have B52:=EF.binds (ps:=Ka) fun _ _ _ _ _ _ us hl=>match us,hl with | [_,_,_],_=>rfl
 have T52:bE l.prog w K mg base 2 "_law_pair" (pA):=⟨_,_,_,(bC (k:=1) EF abG [("_law_whole",gI)] [] Kb [] [] [] [] yu abH (aB (Nx.mono (by omega)) ae) ae (aB js (aB M1 (aB fE ae))) [] ae ae ae ae ae (by rintro vs H Q E ⟨_,_,_,rfl,_⟩;rfl) afs),PySem.W.mg_of X G DN,EF.kp,B52⟩
 have EG:=bB (st:=lN) DS DT DU
 have B53:=EG.binds (ps:=Kc) fun _ _ _ _ _ _ us hl=>match us,hl with | [_,_,_,_,_],_=>rfl
 have T53:bE l.prog w K mg base 7 "_law_line" (pB aO aQ):=⟨_,_,_,(bC (k:=6) EG abO [("_law_whole",gI)] [] Kd [("line_size",aO,N.iD aO aQ),("place_at",aO,N.iG aO aQ)] [] [] [] yw abP (aB (Nx.mono (by omega)) ae) ae ae [] ae (aB (Nt.mono (by omega)) (aB (Nw.mono (by omega)) ae)) ae ae ae (by rintro vs H Q E ⟨_,_,_,_,_,_,_,_,_,_,_,_,_,_,rfl,_⟩;rfl) afu),PySem.W.mg_of X G DR,EG.kp,B53⟩
 have Nz:=bB (st:=bI) DW DX DY
 have B54:=Nz.binds (ps:=Ke) fun _ _ _ _ _ _ us hl=>match us,hl with | [_],_=>rfl
 exact cm.top (bC (k:=105) Nz abQ [("_law_cell_at",oB K),("_law_text_by",N.iA),("paper_of",N.o8 aO aQ),("_law_change_by",N.pf),("_law_mixed",N.fY),("_law_done",oF),("_law_line",pB aO aQ),("_law_pair",pA)] [("Paper", .ref aO)] eQ [("changed",aO,N.o7 aO aQ),("lines",aO,N.gQ aO),("line_at",aO,N.pw aO aQ),("place_at",aO,N.iG aO aQ)] [] [] [] b8 ab2 (aB (T45.mono (by omega)) (aB (Ny.mono (by omega)) (aB (T33.mono (by omega)) (aB (T50.mono (by omega)) (aB (EA.mono (by omega)) (aB (T51.mono (by omega)) (aB (T53.mono (by omega)) (aB (T52.mono (by omega)) ae)))))))) (aB amP ae) (aB amJ (aB js (aB fE (aB Ec ae)))) [] ae (aB (T40.mono (by omega)) (aB (Nn.mono (by omega)) (aB (T43.mono (by omega)) (aB (Nw.mono (by omega)) ae)))) ae ae ae (by rintro vs H Q E ⟨_,_,rfl,_⟩;rfl) (afG amQ))
theorem walk{l:PySem.W.OpenLaw}{q:Program}{loose:List Str}{XP:(Str→Option Value)→Heap→Prop}{YP:World→Heap→Prop}{d:DefRec}{K:Params→PySem.W.Frag}(hn:l.most=some 63)(nN:d.params.defaults=[])
  (hY: ∀(w:World) (h:Heap),YP w h→(K w.params).In h)
  (F: ∀(w:World) (mg:Str→Option Value) (fa:Addr) (h:Heap),(K w.params).In h→h.Ns mainGlobals mg→mg d.name=some (.ref fa)→
   ∃fd:FuncData,(∀(s:Shared) (u:Value),BindsTo s fd ⟨[u],[]⟩ [("_law_script",u)])∧ ∀base:Heap,(K w.params).In base→base.Ns mainGlobals mg→cm l.prog w (K w.params) mg base qt 106 fa fd ["_law_script"] ((fun K=> (fun vs H Q _=> (sL K) vs H Q E0)) (K w.params))):
  PySem.W.WalkO q loose XP YP l.row.toRowW d [] (fun f vs=>PySem.call f vs):=
 L2.QU (n:=63) (k:=106) (x:="_law_script") (CX:=fun _=>qt) (sp:=fun w=> (fun K=> (fun vs H Q _=> (sL K) vs H Q E0)) (K w.params)) hn (by decide) nN ⟨rfl,by decide,by decide⟩ hY F (fun _ _ a ns hl _ hS=> ⟨a,ns,rfl,hS,fun _=>rfl⟩) fun _ _ _ _ _ z=>z
end L2.j7
namespace PySem.W.Fast
def tw10956614270150792484:Unit:=()
def tw9770467244600730512:Unit:=()
def tw13645577601717867203:Unit:=()
def tw7054057891811085962:Unit:=()
def tw5305141191146032350:Unit:=()
def tw7507590323144031635:Unit:=()
def tw10016844384797175370:Unit:=()
def tw4844604679142910014:Unit:=()
def tw6097110972876567158:Unit:=()
def tw5785612634493314073:Unit:=()
def tw3245068266421298952:Unit:=()
def tw7890838122131560093:Unit:=()
def tw12733444785432680779:Unit:=()
def tw9121387671285994871:Unit:=()
def tw208196062834337491:Unit:=()
def tw4078402484132254527:Unit:=()
def tw12226025627082178684:Unit:=()
def tw2954795963104934214:Unit:=()
def tw2004012145478405650:Unit:=()
def tw14016794233157486502:Unit:=()
def tw11283352653677933344:Unit:=()
def tw14255204559783837498:Unit:=()
def tw12783445007951247300:Unit:=()
def tw9367787690630856818:Unit:=()
def tw10971961167225455439:Unit:=()
def tw7425115313276585342:Unit:=()
def tw14297978535641533365:Unit:=()
def tw6497665160377284361:Unit:=()
def tw9496580707999054687:Unit:=()
def tw8211566640695054774:Unit:=()
def tw10798737476124990624:Unit:=()
def tw8628793918473224346:Unit:=()
def tw15639115440851127656:Unit:=()
def tw8469052129266726856:Unit:=()
def tw12849373448023730267:Unit:=()
def tw10275334975768657277:Unit:=()
def tw2469306134213085277:Unit:=()
def tw3220394047991306099:Unit:=()
def tw4242916348478272228:Unit:=()
def tw17290093011539957527:Unit:=()
def tw3219779854852236624:Unit:=()
def tw16990165609236994556:Unit:=()
def tw10327222337654000660:Unit:=()
def tw1543124068674142834:Unit:=()
def tw6604405755874921502:Unit:=()
def tw10005012696101364903:Unit:=()
def tw7961718009666392291:Unit:=()
def tw1922357267637932896:Unit:=()
def tw6129477435742342453:Unit:=()
def tw7124730813982414113:Unit:=()
def tw18166030959558976334:Unit:=()
def tw2307117729011181564:Unit:=()
def tw9960658628878385144:Unit:=()
def tw2819625617914537859:Unit:=()
def tw13668377883434940316:Unit:=()
def tw15963998062724367721:Unit:=()
def tw17476643698032256119:Unit:=()
def tw8451327711186755674:Unit:=()
def tw11448829505291487377:Unit:=()
def tw10447557210902138234:Unit:=()
def tw4508449558813852673:Unit:=()
def tw13433566805495739892:Unit:=()
def tw1747151139474586183:Unit:=()
def tw16573056507472755628:Unit:=()
def tw3354865542404343001:Unit:=()
def tw15874413864271895095:Unit:=()
def tw3815345516709089664:Unit:=()
def tw2193921559133623580:Unit:=()
def tw10523734270267778824:Unit:=()
def tw4684732052110709091:Unit:=()
def tw12512287670885150445:Unit:=()
def tw12725135796273799801:Unit:=()
def tw11427299546356413135:Unit:=()
def tw15495359526443441550:Unit:=()
def tw16595998662856872090:Unit:=()
def tw5853021534640583168:Unit:=()
def tw14229511953306734161:Unit:=()
def tw5598547170536736459:Unit:=()
def tw13629087366191299245:Unit:=()
def tw16610297247820993513:Unit:=()
def tw17717119065969057654:Unit:=()
def tw9705704915254491476:Unit:=()
def tw385874911435991598:Unit:=()
def tw3099750071217650351:Unit:=()
def tw7879972974296579248:Unit:=()
def tw13665117204465046940:Unit:=()
def tw4950486195418746193:Unit:=()
def tw15267456164446892711:Unit:=()
def tw17770488358946375156:Unit:=()
def tw12676620992413778730:Unit:=()
def tw5636448853566446063:Unit:=()
def tw13479195550461164521:Unit:=()
def tw6494500724018158680:Unit:=()
def tw7985016337173862815:Unit:=()
def tw1299424555414906591:Unit:=()
def tw18246517440687027939:Unit:=()
def tw394349144604927527:Unit:=()
def tw11003923429029598525:Unit:=()
end PySem.W.Fast
open PySem PySem.W PyProof.Rows
set_option maxRecDepth 100000 in
set_option maxHeartbeats 0 in
theorem PySem.Challenge.cw_inkloom_k16_lines_and_places_holds : PySem.Challenge.rw_inkloom_k16_lines_and_places.Holds := by
 w_on;o_law;k_head;(case hw=>w_witness2)
 k_fill
 refine L2.j7.walk (l:=PySem.Challenge.rw_inkloom_k16_lines_and_places) rfl rfl (fun w h Y=>PySem.W.kIn_of Y) ?F
 case F=>
  intro w mg fa h KX G jF
  refine' L2.j7.all_mk KX G jF ?Ad ?Ae ?Af ?Ag ?Ah ?Ai ?Aj ?Ak ?Al ?Am ?An ?tm ?Ao ?Ap ?Aq ?Ar ?As ?Au ?Av ?Aw ?tq ?tw ?tD ?tE ?Ax ?Ay ?Az ?AA ?AD ?AE ?AF ?e5 ?e6 ?a0 ?l0 ?c0 ?k0 ?a1 ?l1 ?c1 ?k1 ?a2 ?l2 ?c2 ?k2 ?a3 ?l3 ?c3 ?k3 ?a4 ?l4 ?c4 ?k4 ?a5 ?l5 ?c5 ?k5 ?a6 ?l6 ?c6 ?k6 ?a7 ?l7 ?c7 ?k7 ?a8 ?l8 ?c8 ?k8 ?a9 ?l9 ?c9 ?k9 ?AG ?AH ?AI ?AJ ?AK ?AL ?AM ?AN ?AO ?AQ ?AR ?AS ?AU ?AV ?AW ?AX ?AY ?AZ ?A2 ?A3 ?A6 ?A7 ?A8 ?A9 ?A_ ?Ba ?Bb ?Bc ?tF ?Bd ?Be ?Bf ?tG ?Bg ?Bh ?Bi ?tH ?Bj ?Bk ?Bl ?Bm ?Bn ?Bo ?Bp ?Bq ?Br ?Bs ?Bt ?tI ?Bu ?Bv ?Bw ?tJ ?Bx ?By ?Bz ?BA ?BB ?BC ?BD ?BE ?BF ?BG ?BH ?BI ?BJ ?BK ?BL ?BM ?BN ?BO ?BP ?BQ ?BR ?BS ?BU ?BV ?tK ?BW ?BX ?BY ?BZ ?tL ?B_ ?Ca ?Cb ?Cc ?tM ?Cd ?Ce ?Cf ?Cg ?tN ?Ci ?Cj ?Ck ?Cm ?Cn ?Co ?Cp ?Cq ?Cr ?Cs ?Ct ?Cu ?Cv ?Cw ?Cy ?Cz ?CA ?CC ?CD ?CG ?CH ?CI ?CJ ?CK ?CL ?tO ?CM ?CN ?CO ?CQ ?tP ?CS ?CU ?CV ?CW ?tQ ?CY ?CZ ?C0 ?C1 ?tR ?C2 ?C3 ?C4 ?C5 ?tS ?C6 ?C7 ?C8 ?C9 ?tU ?C_ ?Dc ?Dd ?De ?tV ?Df ?Dg ?Dh ?Di ?tW ?Dj ?Dk ?Dl ?Dm ?Dp ?Dq ?Dr ?Ds ?Dt ?Du ?Dv ?Dw ?Dx ?Dy ?Dz ?DA ?DB ?DC ?DD ?DE ?DF ?DG ?DH ?DI ?DJ ?DK ?DL ?DM ?DN ?DO ?DP ?DQ ?DR ?DS ?DT ?DU ?DV ?DW ?DX ?DY ?DZ ?D0 ?D1 ?D2 ?D3 ?D4 ?D5 ?D6 ?D7 ?D8 ?D9 ?D_ ?Ea
  (case Ad=>k_is)
  (case Ae=>k_is)
  (case Af=>k_is)
  (case Ag=>k_is)
  (case Ah=>k_is)
  (case Ai=>k_is)
  (case Aj=>k_is)
  (case Ak=>k_is)
  (case Al=>k_is)
  (case Am=>k_is)
  (case An=>k_is)
  (case tm=>k_is)
  (case Ao=>k_is)
  (case Ap=>k_is)
  (case Aq=>k_is)
  (case Ar=>k_is)
  (case As=>k_is)
  (case Au=>k_is)
  (case Av=>k_is)
  (case Aw=>k_is)
  (case tq=>k_is)
  (case tw=>k_is)
  (case tD=>k_is)
  (case tE=>k_is)
  (case Ax=>k_exc)
  (case Ay=>k_exc)
  (case Az=>k_exc)
  (case AA=>k_exc)
  (case AD=>k_is)
  (case AE=>k_is)
  (case AF=>kernel_rfl)
  (case e5=>k_is)
  (case e6=>k_is)
  (case a0=>k_is)
  (case l0=>k_is)
  (case c0=>k_is)
  (case k0=>k_is)
  (case a1=>k_is)
  (case l1=>k_is)
  (case c1=>k_is)
  (case k1=>k_is)
  (case a2=>k_is)
  (case l2=>k_is)
  (case c2=>k_is)
  (case k2=>k_is)
  (case a3=>k_is)
  (case l3=>k_is)
  (case c3=>k_is)
  (case k3=>k_is)
  (case a4=>k_is)
  (case l4=>k_is)
  (case c4=>k_is)
  (case k4=>k_is)
  (case a5=>k_is)
  (case l5=>k_is)
  (case c5=>k_is)
  (case k5=>k_is)
  (case a6=>k_is)
  (case l6=>k_is)
  (case c6=>k_is)
  (case k6=>k_is)
  (case a7=>k_is)
  (case l7=>k_is)
  (case c7=>k_is)
  (case k7=>k_is)
  (case a8=>k_is)
  (case l8=>k_is)
  (case c8=>k_is)
  (case k8=>k_is)
  (case a9=>k_is)
  (case l9=>k_is)
  (case c9=>k_is)
  (case k9=>k_is)
  (case AG=>k_is)
  (case AH=>k_is)
  (case AI=>k_is)
  (case AJ=>k_is)
  (case AK=>k_is)
  (case AL=>k_is)
  (case AM=>k_is)
  (case AN=>k_is)
  (case AO=>k_is)
  (case AQ=>k_is)
  (case AR=>k_is)
  (case AS=>k_is)
  (case AU=>k_is)
  (case AV=>k_is)
  (case AW=>k_is)
  (case AX=>k_is)
  (case AY=>k_is)
  (case AZ=>k_is)
  (case A2=>k_is)
  (case A3=>k_is)
  (case A6=>k_is)
  (case A7=>k_is)
  (case A8=>k_is)
  (case A9=>k_is)
  (case A_=>k_is)
  (case Ba=>k_is)
  (case Bb=>k_is)
  (case Bc=>k_is)
  (case tF=>k_is)
  (case Bd=>k_is)
  (case Be=>k_is)
  (case Bf=>k_is)
  (case tG=>k_is)
  (case Bg=>k_is)
  (case Bh=>k_is)
  (case Bi=>k_is)
  (case tH=>k_is)
  (case Bj=>k_is)
  (case Bk=>k_is)
  (case Bl=>k_is)
  (case Bm=>k_is)
  (case Bn=>k_is)
  (case Bo=>k_is)
  (case Bp=>k_is)
  (case Bq=>k_is)
  (case Br=>k_is)
  (case Bs=>k_is)
  (case Bt=>k_is)
  (case tI=>k_is)
  (case Bu=>k_is)
  (case Bv=>k_is)
  (case Bw=>k_is)
  (case tJ=>k_is)
  (case Bx=>k_is)
  (case By=>k_is)
  (case Bz=>k_is)
  (case BA=>k_is)
  (case BB=>k_is)
  (case BC=>k_is)
  (case BD=>k_is)
  (case BE=>k_is)
  (case BF=>k_is)
  (case BG=>k_is)
  (case BH=>k_is)
  (case BI=>k_is)
  (case BJ=>k_is)
  (case BK=>k_is)
  (case BL=>k_is)
  (case BM=>k_is)
  (case BN=>k_is)
  (case BO=>k_is)
  (case BP=>k_is)
  (case BQ=>k_is)
  (case BR=>k_is)
  (case BS=>k_is)
  (case BU=>k_is)
  (case BV=>k_is)
  (case tK=>k_is)
  (case BW=>k_is)
  (case BX=>k_is)
  (case BY=>k_is)
  (case BZ=>k_is)
  (case tL=>k_is)
  (case B_=>k_is)
  (case Ca=>k_is)
  (case Cb=>k_is)
  (case Cc=>k_is)
  (case tM=>k_is)
  (case Cd=>k_is)
  (case Ce=>k_is)
  (case Cf=>k_is)
  (case Cg=>k_is)
  (case tN=>k_is)
  (case Ci=>k_is)
  (case Cj=>k_is)
  (case Ck=>k_is)
  (case Cm=>k_is)
  (case Cn=>k_is)
  (case Co=>k_is)
  (case Cp=>k_is)
  (case Cq=>k_is)
  (case Cr=>k_is)
  (case Cs=>k_is)
  (case Ct=>k_is)
  (case Cu=>k_is)
  (case Cv=>k_is)
  (case Cw=>k_is)
  (case Cy=>k_is)
  (case Cz=>k_is)
  (case CA=>k_is)
  (case CC=>k_is)
  (case CD=>k_is)
  (case CG=>k_is)
  (case CH=>k_is)
  (case CI=>k_is)
  (case CJ=>k_is)
  (case CK=>k_is)
  (case CL=>k_is)
  (case tO=>k_is)
  (case CM=>k_is)
  (case CN=>k_is)
  (case CO=>k_is)
  (case CQ=>k_is)
  (case tP=>k_is)
  (case CS=>k_is)
  (case CU=>k_is)
  (case CV=>k_is)
  (case CW=>k_is)
  (case tQ=>k_is)
  (case CY=>k_is)
  (case CZ=>k_is)
  (case C0=>k_is)
  (case C1=>k_is)
  (case tR=>k_is)
  (case C2=>k_is)
  (case C3=>k_is)
  (case C4=>k_is)
  (case C5=>k_is)
  (case tS=>k_is)
  (case C6=>k_is)
  (case C7=>k_is)
  (case C8=>k_is)
  (case C9=>k_is)
  (case tU=>k_is)
  (case C_=>k_is)
  (case Dc=>k_is)
  (case Dd=>k_is)
  (case De=>k_is)
  (case tV=>k_is)
  (case Df=>k_is)
  (case Dg=>k_is)
  (case Dh=>k_is)
  (case Di=>k_is)
  (case tW=>k_is)
  (case Dj=>k_is)
  (case Dk=>k_is)
  (case Dl=>k_is)
  (case Dm=>k_is)
  (case Dp=>k_is)
  (case Dq=>k_is)
  (case Dr=>k_is)
  (case Ds=>k_is)
  (case Dt=>k_is)
  (case Du=>k_is)
  (case Dv=>k_is)
  (case Dw=>k_is)
  (case Dx=>k_is)
  (case Dy=>k_is)
  (case Dz=>k_is)
  (case DA=>k_is)
  (case DB=>k_is)
  (case DC=>k_is)
  (case DD=>k_is)
  (case DE=>k_is)
  (case DF=>k_is)
  (case DG=>k_is)
  (case DH=>k_is)
  (case DI=>k_is)
  (case DJ=>k_is)
  (case DK=>k_is)
  (case DL=>k_is)
  (case DM=>k_is)
  (case DN=>k_is)
  (case DO=>k_is)
  (case DP=>k_is)
  (case DQ=>k_is)
  (case DR=>k_is)
  (case DS=>k_is)
  (case DT=>k_is)
  (case DU=>k_is)
  (case DV=>k_is)
  (case DW=>k_is)
  (case DX=>k_is)
  (case DY=>k_is)
  (case DZ=>k_is)
  (case D0=>k_is)
  (case D1=>k_is)
  (case D2=>k_is)
  (case D3=>k_is)
  (case D4=>k_is)
  (case D5=>k_is)
  (case D6=>k_is)
  (case D7=>k_is)
  (case D8=>k_is)
  (case D9=>k_is)
  (case D_=>k_is)
  (case Ea=>k_is)
