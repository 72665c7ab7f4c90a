import PyProof.Rows.All
import Wide.All
import OpenK.AllK
import Wide.FinOn
import Lean
import PyProof.EqAt
import PyProof.EqKinds
import PyProof.TupleCall
import PyProof.Rows.EqDataRows
import PyProof.DictList
import PyProof.FactsAll.dict_1
import PyProof.FactsAll.subtypes_4
import KE.KTryMore
import PyProof.WalksEnum
import PyProof.EnumMake
import PyProof.ListStr
import PyProof.TupleOfStr
import PyProof.Dict
import PyProof.ToksMono
import PyProof.StrCalls6
import PyProof.StrWalks
import PyProof.ConsumeWalk
import PyProof.CallStr
import PyProof.MeetsStr
import KE.KIntText
import PyProof.StrCalls2
import PyProof.StrOps2
import PyProof.StrLawsIn
import PyProof.Rows.StrCut
import PySem.Challenge.RW_inkloom_k29_steps_by_lines
set_option Elab.async false
set_option linter.all false
set_option maxRecDepth 100000
set_option compiler.extract_closed false
noncomputable section
open PySem.W (Frag callWith_K callWith_K0 cellsFrom_some codeIn emptyDict findIn fnOf handedIn hasDictIn hideAll hideAll_get instObj isFn keepIn kia_one kitOne kitx_dict kitx_list lookIn makesIn methodObj mg_none_of mg_of mroIn nsIn of_hideAll plainGet plainGet_of plainOver specialIn takerIn takesIn)
theorem zqT{p:Prop}[Decidable p](h:p):decide p=true:=decide_eq_true h
theorem zqF{p:Prop}[Decidable p](h: ¬p):decide p=false:=decide_eq_false h
theorem zqA{α:Type}{a b:List α}:(a++b).length=a.length+b.length:=List.length_append
theorem zqR(n:Nat):n≤n:=Nat.le_refl n
theorem zqZ(n:Nat):0≤n:=Nat.zero_le n
namespace L2
open PySem PySem.Spec PyProof.Rows
abbrev Key:=Sum Int Str
def o6:Key→Value→Bool
 | .inl k,v=>Value.isInt k v
 | .inr x,v=>Value.isStrOf x v
def W2(w:World):Key→Int
 | .inl k=>hashInt k
 | .inr x=>hashStr w x
theorem ja: ∀{k:Key} {v:Value},o6 k v=true→(∃i t,k=Sum.inl i∧v=Value.int i t)∨(∃x t,k=Sum.inr x∧v=Value.str x t)
 | .inl i,v,h=>by
  obtain⟨t,e⟩:=Value.isInt_shape (k:=i) (v:=v) h
  exact .inl ⟨i,t,rfl,e⟩
 | .inr x,v,h=>by
  obtain⟨t,e⟩:=Value.isStrOf_shape (x:=x) (v:=v) h
  exact .inr ⟨x,t,rfl,e⟩
theorem W3(i:Int)(t:Tok):o6 (.inl i) (.int i t)=true:=by simp[o6,Value.isInt]
theorem W4(x:Str)(t:Tok):o6 (.inr x) (.str x t)=true:=by simp[o6,Value.isStrOf]
theorem W5(a b:Int):decide ((Sum.inl a:Key)=Sum.inl b)=(a==b):=by
 by_cases e:a=b
 ·subst e;simp
 ·have h: ¬(Sum.inl a:Key)=Sum.inl b:=fun q=>e (Sum.inl.inj q)
  rw[zqF h]
  exact(beq_eq_false_iff_ne.mpr e).symm
theorem W6(a b:Str):decide ((Sum.inr a:Key)=Sum.inr b)=decide (a=b):=by
 by_cases e:a=b
 ·subst e;simp
 ·have h: ¬(Sum.inr a:Key)=Sum.inr b:=fun q=>e (Sum.inr.inj q)
  rw[zqF h,zqF e]
theorem W7(a:Int)(b:Str):decide ((Sum.inl a:Key)=Sum.inr b)=false:=zqF (fun q=>nomatch q)
theorem W8(a:Str)(b:Int):decide ((Sum.inr a:Key)=Sum.inl b)=false:=zqF (fun q=>nomatch q)
def iz(prog:Program)(w:World):PySem.KeyKind prog w Key where
 is:=o6
 hash:=W2 w
 inj:=fun v a b ha hb=>by
  rcases ja ha with⟨i,t,rfl,rfl⟩ | ⟨x,t,rfl,rfl⟩
  ·rcases ja hb with⟨j,u,rfl,e⟩ | ⟨y,u,rfl,e⟩
   ·injection e with e1 _;rw[e1]
   ·exact nomatch e
  ·rcases ja hb with⟨j,u,rfl,e⟩ | ⟨y,u,rfl,e⟩
   ·exact nomatch e
   ·injection e with e1 _;rw[e1]
 byValue:=fun k v h=>by
  rcases ja h with⟨i,t,rfl,rfl⟩ | ⟨x,t,rfl,rfl⟩ <;>rfl
 pyHash:=fun hv h=>by
  rcases ja hv with⟨i,t,rfl,rfl⟩ | ⟨x,t,rfl,rfl⟩
  ·exact wpAny_pyHash_int h
  ·exact wpAny_pyHash_str h
 eqBool:=fun hu hv h=>by
  rcases ja hu with⟨i,t,rfl,rfl⟩ | ⟨x,t,rfl,rfl⟩
  ·rcases ja hv with⟨j,u,rfl,rfl⟩ | ⟨y,u,rfl,rfl⟩
   ·rw[W5] at h;exact wpAny_eqBool_int h
   ·rw[W7] at h;exact SeqAt.EqAt.int_str i t y u _ _ _ _ h
  ·rcases ja hv with⟨j,u,rfl,rfl⟩ | ⟨y,u,rfl,rfl⟩
   ·rw[W8] at h;exact SeqAt.EqAt.str_int x t j u _ _ _ _ h
   ·rw[W6] at h;exact wpAny_eqBool_str h
 «strs»:=fun k x t v h=>by
  rcases ja h with⟨i,u,rfl,e⟩ | ⟨y,u,rfl,e⟩
  ·exact nomatch e
  ·injection e with e1 _
   subst e1
   cases v<;>rfl
theorem W9(prog:Program)(w:World)(i:Int)(t:Tok):(iz prog w).is (.inl i) (.int i t)=true:=W3 i t
theorem W_(prog:Program)(w:World)(x:Str)(t:Tok):(iz prog w).is (.inr x) (.str x t)=true:=W4 x t
inductive V where
 | az | bl (b:Bool) | int (i:Int) | str (x:Str) | eF (b:Array UInt8) | jW (b:UInt64) | ref (a:Addr) | ty (n:String)
 deriving DecidableEq
def RelV:V→Value→Prop
 | .az,u=>u=Value.none
 | .bl b,u=>u=Value.bool b
 | .int i,u=> ∃t,u=Value.int i t
 | .str x,u=> ∃t,u=Value.str x t
 | .eF b,u=> ∃t,u=Value.bytes b t
 | .jW b,u=> ∃t,u=Value.float b t
 | .ref a,u=>u=Value.ref a
 | .ty n,u=>u=Value.type n
abbrev Vals:List V→List Value→Prop:=Paired RelV
theorem Vals.length{xs:List V}{us:List Value}(r:Vals xs us):xs.length=us.length:=Paired.length r
theorem Vals.get: ∀{xs:List V} {us:List Value} {i:Nat} {x:V},Vals xs us→xs[i]?=some x→ ∃u,us[i]?=some u∧RelV x u
 | _,_,_,_, .nil,e=>by simp at e
 | _,_,0,_, .cons r _,e=>by simp at e;subst e;exact⟨_,rfl,r⟩
 | _,_,i+1,x, .cons _ t,e=>by
  obtain⟨u,h1,h2⟩:=Vals.get (i:=i) (x:=x) t (by simpa using e)
  exact⟨u,by simpa using h1,h2⟩
theorem Vals.set{x:V}{u:Value}(r:RelV x u): ∀{xs:List V} {us:List Value} (i:Nat),Vals xs us→Vals (xs.set i x) (us.set i u)
 | _,_,_, .nil=> .nil
 | _,_,0, .cons _ t=> .cons r t
 | _,_,i+1, .cons q t=> .cons q (Vals.set r i t)
theorem Vals.append: ∀{xs ys:List V} {us ws:List Value},Vals xs us→Vals ys ws→Vals (xs++ys) (us++ws)
 | _,_,_,_, .nil,s=>s
 | _,_,_,_, .cons r t,s=> .cons r (Vals.append t s)
theorem Vals.take: ∀{xs:List V} {us:List Value} (n:Nat),Vals xs us→Vals (xs.take n) (us.take n)
 | _,_,0,_=> .nil
 | _,_,_+1, .nil=> .nil
 | _,_,n+1, .cons r t=> .cons r (Vals.take n t)
theorem Vals.drop: ∀{xs:List V} {us:List Value} (n:Nat),Vals xs us→Vals (xs.drop n) (us.drop n)
 | _,_,0,r=>r
 | _,_,_+1, .nil=> .nil
 | _,_,n+1, .cons _ t=>Vals.drop n t
def iA:Option V→Option Value→Prop
 | some v,some u=>RelV v u
 | none,none=>True
 | _,_=>False
def KV{κ:Type}:List (κ×V)→List (κ×Value)→Prop:=Paired fun(p:κ×V) (q:κ×Value)=>p.1=q.1∧RelV p.2 q.2
def kV:Key→V
 | .inl i=> .int i
 | .inr x=> .str x
inductive HO where
 | lst (xs:List V)
 | tup (xs:List V)
 | dK (aZ:List (Key×V)) | dT (aZ:List (List Key×V))
 | set (S:Int→Bool) (n:Nat)
 | ins (C dx:Addr) (fs:List (Str×V))
 | own (x:Addr)
 | xd (fs:List (Str×V))
 | met (f x:Addr)
 | fQ (lo hi:Int)
 | b6 (o:Obj) (u:HO)
 | iB (ps:Array Value)
 | ext (φ:Heap→Prop)
abbrev Hp:=Addr→Option HO
def upd(H:Hp)(a:Addr)(o:HO):Hp:=fun b=>if b=a then some o else H b
theorem aU{H:Hp}{a:Addr}{o:HO}:upd H a o a=some o:=by unfold upd;rw[if_pos rfl]
theorem a_{H:Hp}{a b:Addr}{o:HO}(h:b≠a):upd H a o b=H b:=by unfold upd;rw[if_neg h]
theorem yh{H:Hp}{a b:Addr}{o u:HO}(h:H a=some o)(h':H b=some u)(d:o≠u):a≠b:=by
 intro e;subst e;rw[h] at h';exact d (Option.some.inj h')
theorem cg{H:Hp}{a b:Addr}{o:HO}(h:H a=some o)(h':H b=none):a≠b:=by
 intro e;subst e;rw[h] at h';cases h'
section
variable (P:Program) (w:World)
def cO(H:Hp)(h:Heap)(a:Addr):HO→Prop
 | .lst xs=>xs.length≤sizeLine∧ ∃(its:List Value) (n:Nat),Vals xs its∧h.get? a=some {cls:= .type "list",data:= .seq its.toArray n}
 | .tup xs=>xs.length≤sizeLine∧ ∃its:List Value,Vals xs its∧IsTup h a its.toArray
 | .dK aZ=>aZ.length≤sizeLine∧(a==sysModules)=false∧ ∃vs,KV aZ vs∧h.DictOf (iz P w) a vs
 | .dT aZ=>aZ.length≤sizeLine∧(a==sysModules)=false∧ ∃xs:List (List Key×Addr×Value),
   Paired (fun(p:List Key×V) (q:List Key×Addr×Value)=>p.1=q.1∧H q.2.1=some (.tup (p.1.map kV))∧RelV p.2 q.2.2) aZ xs∧
   ∃o es ep,h.get? a=some o∧o.ExactDict∧o.data= .dict es ep∧es.toList=xs.map (entryOfKey (tupleKind (iz P w)))∧(xs.map (·.1)).Nodup
 | .set S n=>h.SetOf (intKind P w) a S n
 | .ins C dx fs=>H dx=some (.own a)∧fs.length≤1000∧dx≠a∧h.get? a=some (instObj C dx)∧
   ∃mA,h.Ns1 dx mA∧(∀f,iA (fs.lookup f) (mA f))∧PySem.Within mA (fs.map (·.1))
 | .own _=> ∃o,h.get? a=some o
 | .xd fs=> ∃mA,h.Ns1 a mA∧ ∀f,iA (fs.lookup f) (mA f)
 | .fQ lo hi=> ∃t u v,h.get? a=some {cls:= .type "range",data:= .fields #[.int lo t, .int hi u, .int 1 v]}
 | .b6 o u=>h.get? a=some o∧cO H h a u
 | .iB ps=>h.get? a=some {cls:= .none,data:= .fields ps}
 | .met f x=>h.get? a=some (methodObj (.ref f) (.ref x))
 | .ext φ=>φ h∧(∃o,h.get? a=some o)∧ ∀h1 h2:Heap,φ h1→(∀o,h1.get? a=some o→h2.get? a=some o)→φ h2
def cy(H:Hp)(h:Heap):Prop:= ∀a o,H a=some o→cO P w H h a o
end
section
variable {P:Program} {w:World} {H H':Hp} {h h':Heap} {a:Addr} {o:HO}
theorem cO.lt(x:cO P w H h a o):a<h.objs.size:=by
 cases o with
 | lst xs=>obtain⟨_,_,_,_,e⟩:=x;exact Heap.lt_size e
 | tup xs=>obtain⟨_,_,_,p⟩:=x;exact p.lt
 | dK aZ=>obtain⟨_,_,_,_,o,_,_,e,_⟩:=x;exact Heap.lt_size e
 | dT aZ=>obtain⟨_,_,_,_,o,_,_,e,_⟩:=x;exact Heap.lt_size e
 | set S n=>obtain⟨o,_,_,_,e,_⟩:=x;exact Heap.lt_size e
 | ins C dx fs=>obtain⟨_,_,_,e,_⟩:=x;exact Heap.lt_size e
 | own y=>obtain⟨_,e⟩:=x;exact Heap.lt_size e
 | xd fs=>obtain⟨_,⟨_,_,_,e,_⟩,_⟩:=x;exact Heap.lt_size e
 | fQ lo hi=>obtain⟨_,_,_,e⟩:=x;exact Heap.lt_size e
 | b6 ob u=>obtain⟨e,_⟩:=x;exact Heap.lt_size e
 | iB ps=>exact Heap.lt_size (show h.get? a=some _ from x)
 | met f y=>exact Heap.lt_size (show h.get? a=some _ from x)
 | ext φ=>obtain⟨_,⟨_,e⟩,_⟩:=x;exact Heap.lt_size e
theorem Paired.L9{α β:Type}{F G:α→β→Prop}: ∀{l₁:List α} {l₂:List β},Paired F l₁ l₂→(∀a b,F a b→G a b)→Paired G l₁ l₂
 | _,_, .nil,_=> .nil
 | _,_, .cons r t,f=> .cons (f _ _ r) (Paired.L9 t f)
theorem cO.gT(x:cO P w H h a o)(k: ∀b u,(b=a∨H b=some (.own a))→h.get? b=some u→h'.get? b=some u)
  (ho: ∀b,H b=some (.own a)→H' b=some (.own a)) (ht: ∀b xs,H b=some (.tup xs)→H' b=some (.tup xs)):cO P w H' h' a o:=by
 induction o with
 | lst xs=>obtain⟨z,its,n,r,e⟩:=x;exact⟨z,its,n,r,k _ _ (.inl rfl) e⟩
 | tup xs=>obtain⟨z,its,r,ob,e,c⟩:=x;exact⟨z,its,r,ob,k _ _ (.inl rfl) e,c⟩
 | dK aZ=>obtain⟨z,y,vs,r,ob,es,ep,e,c⟩:=x;exact⟨z,y,vs,r,ob,es,ep,k _ _ (.inl rfl) e,c⟩
 | dT aZ=>
  obtain⟨z,y,xs,r,ob,es,ep,e,c⟩:=x
  exact⟨z,y,xs,Paired.L9 r fun p q z=> ⟨z.1,ht _ _ z.2.1,z.2.2⟩,ob,es,ep,k _ _ (.inl rfl) e,c⟩
 | set S n=>obtain⟨ob,es,ep,t,e,c⟩:=x;exact⟨ob,es,ep,t,k _ _ (.inl rfl) e,c⟩
 | ins C dx fs=>
  obtain⟨d,z,ne,e,mA,⟨od,es,ep,e2,c⟩,r⟩:=x
  exact⟨ho _ d,z,ne,k _ _ (.inl rfl) e,mA,⟨od,es,ep,k _ _ (.inr d) e2,c⟩,r⟩
 | own y=>obtain⟨ob,e⟩:=x;exact⟨ob,k _ _ (.inl rfl) e⟩
 | xd fs=>obtain⟨mA,⟨od,es,ep,e,c⟩,r⟩:=x;exact⟨mA,⟨od,es,ep,k _ _ (.inl rfl) e,c⟩,r⟩
 | fQ lo hi=>obtain⟨t,u,v,e⟩:=x;exact⟨t,u,v,k _ _ (.inl rfl) e⟩
 | b6 ob u ih=>obtain⟨e,q⟩:=x;exact⟨k _ _ (.inl rfl) e,ih q⟩
 | iB ps=>
  have e:h.get? a=some {cls:= .none,data:= .fields ps}:=x
  show h'.get? a=some {cls:= .none,data:= .fields ps}
  exact k a _ (.inl rfl) e
 | met f y=>
  have e:h.get? a=some (methodObj (.ref f) (.ref y)):=x
  show h'.get? a=some (methodObj (.ref f) (.ref y))
  exact k a _ (.inl rfl) e
 | ext φ=>obtain⟨p,⟨o,e⟩,st⟩:=x;exact⟨st _ _ p fun o q=>k _ _ (.inl rfl) q,⟨o,k _ _ (.inl rfl) e⟩,st⟩
theorem cy.lt(x:cy P w H h)(e:H a=some o):a<h.objs.size:=(x a o e).lt
theorem cy.fresh(x:cy P w H h)(e:h.objs.size≤a):H a=none:=by
 cases q:H a with
 | none=>rfl
 | some u=>exact absurd (Nat.lt_of_lt_of_le (x.lt q) e) (Nat.lt_irrefl _)
theorem cy.kept(x:cy P w H h)(k: ∀b u,h.get? b=some u→h'.get? b=some u):cy P w H h':=fun a o e=>
 (x a o e).gT (fun b u _ q=>k b u q) (fun _ q=>q) fun _ _ q=>q
theorem cy.laid(x:cy P w H h)(k: ∀b u,h.get? b=some u→h'.get? b=some u)(hp:h.objs.size≤a)(new:cO P w (upd H a o) h' a o):cy P w (upd H a o) h':=fun b u e=>by
 have hn:=x.fresh hp
 by_cases hb:b=a
 ·subst hb;rw[aU] at e;cases e;exact new
 ·rw[a_ hb] at e
  exact(x b u e).gT (fun c v _ q=>k c v q) (fun c q=>by rw[a_ (cg q hn)];exact q) fun c xs q=>by rw[a_ (cg q hn)];exact q
end
def Rd(H:Hp)(a:Addr)(u:HO):Prop:=H a=some u∨ ∃o,H a=some (.b6 o u)
theorem Rd.ok{P:Program}{w:World}{H:Hp}{h:Heap}{a:Addr}{u:HO}(r:Rd H a u)(x:cy P w H h):cO P w H h a u:=by
 rcases r with r | ⟨o,r⟩
 ·exact x a u r
 ·obtain⟨_,q⟩:=x a _ r
  exact q
def uu:Option HO→Prop
 | some (.lst _)=>True
 | some (.dK _)=>True
 | some (.dT _)=>True
 | some (.set _ _)=>True
 | some (.ins _ _ _)=>True
 | some (.ext _)=>True
 | _=>False
section
variable {P:Program} {w:World} {H:Hp} {h h':Heap} {x e:Addr} {o':HO}
theorem cy.write(ok:cy P w H h)(mu:uu (H x))(he:e=x∨H e=some (.own x))(k: ∀b u,b≠e→h.get? b=some u→h'.get? b=some u)(o7: ∃u,h'.get? e=some u)
  (new:cO P w (upd H x o') h' x o'):cy P w (upd H x o') h':=fun b u q=>by
 have L_: ∀c y,H c=some (.own y)→c≠x:=fun c y r z=>by subst z;rw[r] at mu;exact mu
 have Xa: ∀c xs,H c=some (.tup xs)→c≠x:=fun c xs r z=>by subst z;rw[r] at mu;exact mu
 by_cases hb:b=x
 ·subst hb;rw[aU] at q;cases q;exact new
 ·rw[a_ hb] at q
  by_cases lg:b=e
  ·have q':H b=some (.own x):=by
    rcases he with z | z
    ·exact absurd (lg.trans z) hb
    ·rw[lg];exact z
   rw[q] at q';cases q'
   obtain⟨v,hv⟩:=o7
   exact⟨v,by rw[lg];exact hv⟩
  ·refine(ok b u q).gT (fun c v hc r=>k c v ?_ r) (fun c r=>by rw[a_ (L_ c b r)];exact r) fun c xs r=>by rw[a_ (Xa c xs r)];exact r
   rcases hc with rfl | hc
   ·exact lg
   ·rintro rfl
    rcases he with z | z
    ·exact L_ c b hc z
    ·rw[hc] at z;cases z;exact hb rfl
end
structure Un (fs ex:List Addr) (H H':Hp) (h h':Heap):Prop where
 keep: ∀b o,h.get? b=some o→H b=none→b∉fs→b∉ex→h'.get? b=some o
 slot: ∀b o,h.get? b=some o→H b=none→b∈fs→b∉ex→ ∃sl,h'.get? b=some {o with slots:=sl}
 free: ∀b o,h.get? b=some o→H b=none→b∉ex→H' b=none
 there: ∀b o,h.get? b=some o→b∉ex→ ∃o',h'.get? b=some o'
 cY: ∀b xs,H b=some (.tup xs)→H' b=some (.tup xs)
 fA: ∀b o u,H b=some (.b6 o u)→H' b=some (.b6 o u)
 fR: ∀b ps,H b=some (.iB ps)→ ∃more,H' b=some (.iB (ps++more))
section
variable {fs Xb ex ex':List Addr} {H H1 H2:Hp} {h h1 h2 h':Heap} {a x e:Addr} {o:HO}
theorem Un.any(u:Un fs ex H H1 h h1){b:Addr}{ob:Obj}(q:h.get? b=some ob)(n:H b=none)(hx:b∉ex): ∃sl,h1.get? b=some {ob with slots:=sl}:=by
 by_cases hb:b∈fs
 ·exact u.slot b ob q n hb hx
 ·exact⟨ob.slots,u.keep b ob q n hb hx⟩
theorem Un.kept(k: ∀b u,h.get? b=some u→h'.get? b=some u):Un fs ex H H h h':=
 ⟨fun b ob q _ _ _=>k b ob q,fun b ob q _ _ _=> ⟨ob.slots,k b ob q⟩,fun _ _ _ n _=>n,fun b ob q _=> ⟨ob,k b ob q⟩,fun _ _ q=>q,fun _ _ _ q=>q,fun _ ps q=> ⟨#[],by rw[q];simp⟩⟩
theorem Un.refl:Un fs ex H H h h:=Un.kept fun _ _ q=>q
theorem Un.laid(k: ∀b u,h.get? b=some u→h'.get? b=some u)(hp:h.objs.size≤a)(hn:H a=none):Un fs ex H (upd H a o) h h' where
 keep:=fun b u q _ _ _=>k b u q
 slot:=fun b u q _ _ _=> ⟨u.slots,k b u q⟩
 free:=fun b u q n _=>by rw[a_ (Nat.ne_of_lt (Nat.lt_of_lt_of_le (Heap.lt_size q) hp))];exact n
 there:=fun b u q _=> ⟨u,k b u q⟩
 cY:=fun b xs q=>by rw[a_ (cg q hn)];exact q
 fA:=fun b u xs q=>by rw[a_ (cg q hn)];exact q
 fR:=fun b ps q=> ⟨#[],by rw[a_ (cg q hn),q];simp⟩
theorem Un.write(mu:uu (H x))(he:e=x∨H e=some (.own x))(k: ∀b u,b≠e→h.get? b=some u→h'.get? b=some u)(o7: ∃u,h'.get? e=some u):Un fs ex H (upd H x o) h h':=by
 have hx: ∀b,H b=none→b≠x:=fun b n z=>by subst z;rw[n] at mu;exact mu
 have hb: ∀b,H b=none→b≠e:=fun b n z=>by
  subst z
  rcases he with r | r
  ·exact hx b n r
  ·rw[n] at r;cases r
 have hm: ∀b u,H b=some u→ ¬uu (some u)→b≠x:=fun b u q nm z=>by subst z;rw[q] at mu;exact nm mu
 refine⟨fun b u q n _ _=>k b u (hb b n) q,fun b u q n _ _=> ⟨u.slots,k b u (hb b n) q⟩,fun b u q n _=>by rw[a_ (hx b n)];exact n,fun b u q _=> ?_,
  fun b xs q=>by rw[a_ (hm b _ q fun z=>z)];exact q,fun b u xs q=>by rw[a_ (hm b _ q fun z=>z)];exact q,fun b ps q=> ⟨#[],by rw[a_ (hm b _ q fun z=>z),q];simp⟩⟩
 by_cases lg:b=e
 ·subst lg;exact o7
 ·exact⟨u,k b u lg q⟩
end
def lj(h:Heap)(H:Hp):List Addr:=(List.range h.objs.size).filter fun a=> (H a).isSome
def jb(h:Heap)(H:Hp):Heap:=hideAll h (lj h H)
theorem Xd(h:Heap)(H:Hp):(jb h H).objs.size=h.objs.size:=PySem.W.hideAll_size _ _
theorem Xe{h:Heap}{H:Hp}{b:Addr}{o:Obj}(e:h.get? b=some o)(n:H b=none):(jb h H).get? b=some o:=
 hideAll_get _ e fun hm=>by
  have q:(H b).isSome=true:=(List.mem_filter.mp hm).2
  rw[n] at q;simp at q
theorem Xf{h:Heap}{H:Hp}{b:Addr}{o:Obj}(e:(jb h H).get? b=some o):h.get? b=some o∧H b=none:=by
 have e':h.get? b=some o:=of_hideAll (lj h H) e
 refine⟨e', ?_⟩
 cases q:H b with
 | none=>rfl
 | some x=>
  have hm:b∈lj h H:=List.mem_filter.mpr ⟨List.mem_range.mpr (Heap.lt_size e'),by simp[q]⟩
  have z:(jb h H).get? b=none:=PySem.W.hideAll_none (lj h H) hm
  rw[z] at e;cases e
structure Mod (K:Frag) (mg:Str→Option Value) (base:Heap):Prop where
 qG:K.In base
 glob:base.Ns mainGlobals mg
 blt: ∃mb,base.Ns builtinsNs mb∧ ∀x:Str,x≠"__name__"→mb x=bootBuiltins x
 nolimit:base.NoLimit
structure Cx where
 prog:Program
 w:World
 K:Frag
 mg:Str→Option Value
 base:Heap
 A:Around
 N:List Str
 s₀:Shared
 H₀:Hp
 env:Env
 outer:List Env
 stack:List Env
 ex:List Addr
 fn:Str→Bool
 calm:Bool
 pn:List (Addr×Obj)
 xe:Value→Shared→Prop
def cj(l:List Env):List Addr:=l.filterMap (·.frame)
abbrev Cx.fs(X:Cx):List Addr:=cj X.outer
def uv(sc:Scope)(x:Str):Prop:=sc.names.lookup x=some .local∨sc.names.lookup x=some .cell∨sc.names.lookup x=some .free
def Loc(sc:Scope)(x:Str):Prop:=sc.names.lookup x=some .local∨sc.names.lookup x=some .cell
def Look(env:Env)(h:Heap)(m:Str→Option Value)(x:Str)(u:Value):Prop:=
 (env.kindOf x=some .local∧m x=some u)∨((env.kindOf x=some .cell∨env.kindOf x=some .free)∧ ∃c,env.cells.lookup x=some c∧h.IsCell c (some u))
structure Cx.Ok (X:Cx):Prop where
 mod:Mod X.K X.mg X.base
 kind:X.env.scope.kind= .function
 glob:X.env.globals=mainGlobals
 blt:X.env.builtins=builtinsNs
 above:X.s₀.heap.objs.size≤X.env.locals
 inj: ∀x y c,X.env.cells.lookup x=some c→X.env.cells.lookup y=some c→x=y
 has: ∀x,(X.env.kindOf x=some .cell∨X.env.kindOf x=some .free)→ ∃c,X.env.cells.lookup x=some c
 yi: ∀x c,X.fn x=true→X.env.cells.lookup x=some c→X.s₀.heap.objs.size≤c
 hd:X.calm=true→X.A.handled=none
 frames:X.A.frames=some X.stack
 qH:X.stack=X.outer∨(X.stack=X.env::X.outer∧X.env.frame=some X.env.locals)
 exf: ∀b∈X.ex,b≠X.env.locals∧ ∀x c,X.env.cells.lookup x=some c→c≠b
 bs: ∀b o,X.base.get? b=some o→X.s₀.heap.get? b=some o∧X.H₀ b=none
 o8:X.base.objs.size≤X.s₀.heap.objs.size
 yj: ∀b o,X.base.get? b=some o→b∉X.ex
 yk: ∀b∈X.ex,b∉X.fs
 iC:X.s₀.heap.FunFrames X.base X.outer
 qI: ∀b∈X.fs,X.H₀ b=none
structure Inv (X:Cx) (pins:List (Addr×Obj)) (σ:List (Option V)) (H:Hp) (s:Shared):Prop where
 ok:X.Ok
 os:s.os=X.s₀.os
 bare:AllBare s.gens
 base:Un X.fs X.ex X.H₀ H X.s₀.heap s.heap
 loc: ∃m,s.heap.Ns X.env.locals m∧ ∀(i:Nat) (x:Str) (v:V),X.N[i]?=some x→σ[i]?=some (some v)→uv X.env.scope x→ ∃u,RelV v u∧Look X.env s.heap m x u
 cell: ∀x c,X.env.cells.lookup x=some c→ ∃v,s.heap.IsCell c v
 free:H X.env.locals=none
 jc: ∀x c,X.env.cells.lookup x=some c→H c=none
 pin: ∀p∈X.pn++pins,s.heap.get? p.1=some p.2∧H p.1=none∧p.1≠X.env.locals∧p.1∉X.fs∧ ∀v,p.2.data≠ .cell v
 aR:cy X.prog X.w H s.heap
 len:σ.length=X.N.length
section
variable {X:Cx} {pins:List (Addr×Obj)} {σ:List (Option V)} {H H':Hp} {s:Shared} {h':Heap}
theorem Cx.Ok.Xg(ok:X.Ok){b:Addr}{o:Obj}(e:X.base.get? b=some o):b∉X.fs:=fun hb=>by
 have:=(ok.iC.mem hb).1
 rw[e] at this;cases this
theorem Inv.bs(I:Inv X pins σ H s): ∀b o,X.base.get? b=some o→s.heap.get? b=some o∧H b=none:=fun b o e=>
 ⟨I.base.keep b o (I.ok.bs b o e).1 (I.ok.bs b o e).2 (I.ok.Xg e) (I.ok.yj b o e),I.base.free b o (I.ok.bs b o e).1 (I.ok.bs b o e).2 (I.ok.yj b o e)⟩
theorem Inv.bk(I:Inv X pins σ H s): ∀b o,X.base.get? b=some o→s.heap.get? b=some o:=fun b o e=> (I.bs b o e).1
theorem Inv.mod(I:Inv X pins σ H s):Mod X.K X.mg X.base:=I.ok.mod
theorem Inv.cC(I:Inv X pins σ H s):X.K.In s.heap:=I.ok.mod.qG.keeps I.bk
theorem Inv.lt(I:Inv X pins σ H s):X.env.locals<s.heap.objs.size:=let ⟨_,hn,_⟩:=I.loc;hn.lt
theorem Inv.sz(I:Inv X pins σ H s):X.s₀.heap.objs.size≤s.heap.objs.size:=Nat.le_trans I.ok.above (Nat.le_of_lt I.lt)
theorem Inv.Ma(I:Inv X pins σ H s){a:Addr}(h:s.heap.objs.size≤a):a∉X.fs:=fun hb=>by
 obtain⟨_,o,ho,_⟩:=I.ok.iC.mem hb
 exact absurd (Nat.lt_of_lt_of_le (Heap.lt_size ho) (Nat.le_trans I.sz h)) (Nat.lt_irrefl _)
theorem Inv.lA(I:Inv X pins σ H s): ∀x c,X.env.cells.lookup x=some c→c≠X.env.locals:=fun x c e z=>by
 obtain⟨v,o,ho,hd⟩:=I.cell x c e
 obtain⟨m,⟨o',es,ep,eG,yl,_⟩,_⟩:=I.loc
 rw[z,eG] at ho;cases ho;rw[yl] at hd;cases hd
theorem Inv.iC(I:Inv X pins σ H s):s.heap.FunFrames X.base X.outer:=by
 have all: ∀(l:List Env),(∀b∈cj l,b∈X.fs)→X.s₀.heap.FunFrames X.base l→s.heap.FunFrames X.base l:=by
  intro l
  induction l with
  | nil=>intro _ _;trivial
  | cons env r ih=>
   intro hs hl
   obtain⟨hk,⟨L,o,hf,hn,ho,hd⟩,hr⟩:=hl
   have hL:L∈X.fs:=hs L (by unfold cj;rw[List.filterMap_cons,hf];exact List.mem_cons_self)
   obtain⟨sl,e⟩:=I.base.slot L o ho (I.ok.qI L hL) hL fun z=>I.ok.yk L z hL
   exact⟨hk,⟨L,_,hf,hn,e,hd⟩,ih (fun b hb=>hs b (by unfold cj;rw[List.filterMap_cons,hf];exact List.mem_cons_of_mem _ hb)) hr⟩
 exact all X.outer (fun _ hb=>hb) I.ok.iC
theorem Inv.stack(I:Inv X pins σ H s):s.heap.FunFrames X.base X.stack:=by
 rcases I.ok.qH with e | ⟨e,hf⟩
 ·rw[e];exact I.iC
 ·rw[e]
  obtain⟨m,hn,_⟩:=I.loc
  refine .cons (by rw[I.ok.kind];decide) hf hn ?_ I.iC
  exact Heap.get?_none_of_le (Nat.le_trans I.ok.o8 I.ok.above)
theorem Inv.uw(I:Inv X pins σ H s): ∀b∈cj X.stack,b∈X.env.locals::X.fs:=fun b hb=>by
 rcases I.ok.qH with e | ⟨e,hf⟩
 ·rw[e] at hb;exact List.mem_cons_of_mem _ hb
 ·rw[e] at hb
  unfold cj at hb
  rw[List.filterMap_cons,hf] at hb
  exact hb
theorem Inv.ux(I:Inv X pins σ H s): ∀b∈cj X.stack,H b=none:=fun b hb=>by
 rcases List.mem_cons.mp (I.uw b hb) with e | hb
 ·rw[e];exact I.free
 ·obtain⟨_,o,ho,_⟩:=I.ok.iC.mem hb
  exact I.base.free b o ho (I.ok.qI b hb) fun z=>I.ok.yk b z hb
theorem Inv.step{g':Array GenState}{t':Nat}{d':Drawn}{ch:List Addr}(I:Inv X pins σ H s)
  (dY: ∀b∈ch,(b∈X.ex∨X.s₀.heap.objs.size≤b)∧b≠X.env.locals∧(∀x c,X.env.cells.lookup x=some c→c≠b)∧ ∀p∈X.pn++pins,p.1≠b)
  (keep: ∀b o,b≠X.env.locals→b∉X.fs→b∉ch→s.heap.get? b=some o→H b=none→h'.get? b=some o)
  (slot: ∀b o,b≠X.env.locals→b∈X.fs→b∉ch→s.heap.get? b=some o→H b=none→ ∃sl,h'.get? b=some {o with slots:=sl}) (free: ∀b o,b∉ch→s.heap.get? b=some o→H b=none→H' b=none)
  (there: ∀b o,b∉ch→s.heap.get? b=some o→ ∃o',h'.get? b=some o')
  (cY: ∀b xs,H b=some (.tup xs)→H' b=some (.tup xs)) (fA: ∀b o u,H b=some (.b6 o u)→H' b=some (.b6 o u)) (fR: ∀b ps,H b=some (.iB ps)→ ∃more,H' b=some (.iB (ps++more)))
  (ns: ∀m,s.heap.Ns X.env.locals m→h'.Ns X.env.locals m) (aR:cy X.prog X.w H' h') (hg:AllBare g'):
  Inv X pins σ H' {s with heap:=h',gens:=g',drawn:=d',toks:=t'}:=by
 have Mb: ∀b o,X.s₀.heap.get? b=some o→b≠X.env.locals:=fun b o e=>Nat.ne_of_lt (Nat.lt_of_lt_of_le (Heap.lt_size e) I.ok.above)
 have uz: ∀b o,X.s₀.heap.get? b=some o→b∉X.ex→b∉ch:=fun b o e hx hb=>by
  rcases (dY b hb).1 with z | z
  ·exact hx z
  ·exact absurd (Nat.lt_of_lt_of_le (Heap.lt_size e) z) (Nat.lt_irrefl _)
 have cellK: ∀x c,X.env.cells.lookup x=some c→ ∀v,s.heap.IsCell c v→h'.IsCell c v:=fun x c e v ⟨o,ho,hd⟩=>by
  have qJ:c∉ch:=fun z=> (dY c z).2.2.1 x c e rfl
  by_cases hc:c∈X.fs
  ·obtain⟨sl,q⟩:=slot c o (I.lA x c e) hc qJ ho (I.jc x c e)
   exact⟨_,q,hd⟩
  ·exact⟨o,keep c o (I.lA x c e) hc qJ ho (I.jc x c e),hd⟩
 refine⟨I.ok,I.os,hg,⟨fun b o e n hb hx=> ?_,fun b o e n hb hx=> ?_,fun b o e n hx=> ?_,fun b o e hx=> ?_,fun b xs e=>cY b xs (I.base.cY b xs e),fun b o xs e=>fA b o xs (I.base.fA b o xs e),fun b ps e=> ?_⟩, ?_,fun x c e=> ?_, ?_,fun x c e=> ?_,fun p hp=> ?_,aR,I.len⟩
 ·exact keep b o (Mb b o e) hb (uz b o e hx) (I.base.keep b o e n hb hx) (I.base.free b o e n hx)
 ·obtain⟨sl,e1⟩:=I.base.slot b o e n hb hx
  obtain⟨Xh,e2⟩:=slot b _ (Mb b o e) hb (uz b o e hx) e1 (I.base.free b o e n hx)
  exact⟨Xh,e2⟩
 ·obtain⟨o',e1⟩:=I.base.there b o e hx
  exact free b o' (uz b o e hx) e1 (I.base.free b o e n hx)
 ·obtain⟨o',e1⟩:=I.base.there b o e hx
  exact there b o' (uz b o e hx) e1
 ·obtain⟨m1,e1⟩:=I.base.fR b ps e
  obtain⟨m2,e2⟩:=fR b _ e1
  exact⟨m1++m2,by rw[e2,Array.append_assoc]⟩
 ·obtain⟨m,hn,hl⟩:=I.loc
  refine⟨m,ns m hn,fun i x v e1 e2 e3=> ?_⟩
  obtain⟨u,r,l⟩:=hl i x v e1 e2 e3
  refine⟨u,r, ?_⟩
  rcases l with l | ⟨k,c,e,z⟩
  ·exact .inl l
  ·exact .inr ⟨k,c,e,cellK x c e _ z⟩
 ·obtain⟨v,z⟩:=I.cell x c e
  exact⟨v,cellK x c e v z⟩
 ·obtain⟨m,⟨o,_,_,ho,_⟩,_⟩:=I.loc
  exact free _ o (fun z=> (dY _ z).2.1 rfl) ho I.free
 ·obtain⟨v,o,ho,hd⟩:=I.cell x c e
  exact free c o (fun z=> (dY c z).2.2.1 x c e rfl) ho (I.jc x c e)
 ·obtain⟨e,n,ne,nf,d⟩:=I.pin p hp
  have qJ:p.1∉ch:=fun z=> (dY p.1 z).2.2.2 p hp rfl
  exact⟨keep p.1 p.2 ne nf qJ e n,free p.1 p.2 qJ e n,ne,nf,d⟩
theorem Inv.un{t':Nat}(I:Inv X pins σ H s)(u:Un X.fs [] H H' s.heap h')(aR:cy X.prog X.w H' h'):Inv X pins σ H' {s with heap:=h',toks:=t'}:=by
 obtain⟨m,⟨o,es,ep,ho,r⟩,_⟩:=id I.loc
 obtain⟨sl,hL⟩:=u.any ho I.free (by simp)
 exact I.step (g':=s.gens) (d':=s.drawn) (ch:=[]) (fun _ z=>nomatch z) (fun b o _ hb _ e n=>u.keep b o e n hb (by simp)) (fun b o _ hb _ e n=>u.slot b o e n hb (by simp)) (fun b o _ e n=>u.free b o e n (by simp)) (fun b o _ e=>u.there b o e (by simp)) u.cY u.fA u.fR (fun m' hm=>by
  obtain⟨o',ym,yn,eG,r'⟩:=hm
  rw[ho] at eG;cases eG
  exact⟨_,ym,yn,hL,r'⟩) aR I.bare
theorem Inv.call{g':Array GenState}{t':Nat}{d':Drawn}{ch:List Addr}(I:Inv X pins σ H s)(u:Un (cj X.stack) ch H H' s.heap h')(aR:cy X.prog X.w H' h')(hg:AllBare g')
  (dY: ∀b∈ch,(b∈X.ex∨X.s₀.heap.objs.size≤b)∧b≠X.env.locals∧(∀x c,X.env.cells.lookup x=some c→c≠b)∧ ∀p∈X.pn++pins,p.1≠b):
  Inv X pins σ H' {s with heap:=h',gens:=g',drawn:=d',toks:=t'}:=by
 obtain⟨m,⟨o,es,ep,ho,r⟩,_⟩:=id I.loc
 obtain⟨sl,hL⟩:=u.any ho I.free fun z=> (dY _ z).2.1 rfl
 exact I.step (ch:=ch) dY (fun b o hL hb hc e n=>u.keep b o e n (fun z=> (List.mem_cons.mp (I.uw b z)).elim hL hb) hc) (fun b o _ _ hc e n=>u.any e n hc) (fun b o hc e n=>u.free b o e n hc) (fun b o hc e=>u.there b o e hc) u.cY u.fA u.fR (fun m' hm=>by
  obtain⟨o',ym,yn,eG,r'⟩:=hm
  rw[ho] at eG;cases eG
  exact⟨_,ym,yn,hL,r'⟩) aR hg
theorem Inv.turned{t':Nat}{it:Addr}(I:Inv X pins σ H s)(k: ∀b o,b≠it→s.heap.get? b=some o→h'.get? b=some o)(hn:H it=none)(hL:it≠X.env.locals)
  (h1:it∈X.ex∨X.s₀.heap.objs.size≤it) (h2: ∀x c,X.env.cells.lookup x=some c→c≠it) (h3: ∀p∈X.pn++pins,p.1≠it):Inv X pins σ H {s with heap:=h',toks:=t'}:=by
 have Mc: ∀b u,H b=some u→b≠it:=fun b u e z=>by rw[z,hn] at e;cases e
 refine I.step (g':=s.gens) (d':=s.drawn) (ch:=[it]) (fun b hb=> ?_) (fun b o _ _ hc e _=>k b o (fun z=>hc (by simp[z])) e) (fun b o _ _ hc e _=> ⟨o.slots,k b o (fun z=>hc (by simp[z])) e⟩) (fun _ _ _ _ n=>n)
  (fun b o hc e=> ⟨o,k b o (fun z=>hc (by simp[z])) e⟩) (fun _ _ e=>e) (fun _ _ _ e=>e) (fun b ps e=> ⟨#[],by rw[e];simp⟩) (fun m hm=> ?_) (fun b u e=> ?_) I.bare
 ·have e:b=it:=by simpa using hb
  subst e
  exact⟨h1,hL,h2,h3⟩
 ·obtain⟨o,es,ep,ho,r⟩:=hm
  exact⟨o,es,ep,k _ o (Ne.symm hL) ho,r⟩
 ·refine(I.aR b u e).gT (fun c v hc q=>k c v ?_ q) (fun _ q=>q) fun _ _ q=>q
  rcases hc with z | z
  ·rw[z];exact Mc b u e
  ·exact Mc c _ z
theorem Inv.tok(I:Inv X pins σ H s)(t:Nat):Inv X pins σ H {s with toks:=t}:=I.un (h':=s.heap) (t':=t) Un.refl I.aR
theorem Inv.kept{t':Nat}(I:Inv X pins σ H s)(k: ∀b u,s.heap.get? b=some u→h'.get? b=some u):Inv X pins σ H {s with heap:=h',toks:=t'}:=I.un (Un.kept k) (I.aR.kept k)
theorem Inv.laid{a:Addr}{o:HO}{t':Nat}(I:Inv X pins σ H s)(k: ∀b u,s.heap.get? b=some u→h'.get? b=some u)(hp:s.heap.objs.size≤a)(new:cO X.prog X.w (upd H a o) h' a o):
  Inv X pins σ (upd H a o) {s with heap:=h',toks:=t'}:=I.un (Un.laid k hp (I.aR.fresh hp)) (I.aR.laid k hp new)
theorem Inv.write{x e:Addr}{o:HO}{t':Nat}(I:Inv X pins σ H s)(mu:uu (H x))(he:e=x∨H e=some (.own x))(k: ∀b u,b≠e→s.heap.get? b=some u→h'.get? b=some u)(o7: ∃u,h'.get? e=some u)
  (new:cO X.prog X.w (upd H x o) h' x o):Inv X pins σ (upd H x o) {s with heap:=h',toks:=t'}:=I.un (Un.write mu he k o7) (I.aR.write mu he k o7 new)
theorem Inv.o9{yo:List (Addr×Obj)}(I:Inv X pins σ H s)(h: ∀p∈yo,s.heap.get? p.1=some p.2∧H p.1=none∧p.1≠X.env.locals∧p.1∉X.fs∧ ∀v,p.2.data≠ .cell v):Inv X yo σ H s:=
 ⟨I.ok,I.os,I.bare,I.base,I.loc,I.cell,I.free,I.jc,fun p hp=> (List.mem_append.mp hp).elim (fun z=>I.pin p (List.mem_append_left _ z)) (h p),I.aR,I.len⟩
theorem Md{N:List Str}(hN:N.Nodup){i j:Nat}{x:Str}(a:N[i]?=some x)(b:N[j]?=some x):i=j:=by
 obtain⟨h1,e1⟩:=List.getElem?_eq_some_iff.mp a
 obtain⟨h2,e2⟩:=List.getElem?_eq_some_iff.mp b
 exact(List.getElem_inj hN).mp (e1.trans e2.symm)
theorem Me{M:Model}{A:Around}{E:Value→Shared→Prop}{i:Nat}{x:Str}{v:V}{u:Value}{Q:Unit→Shared→Prop}(I:Inv X pins σ H s)(hN:X.N.Nodup)(hi:X.N[i]?=some x)(hx:Loc X.env.scope x)(r:RelV v u)
  (h: ∀s',Inv X pins (σ.set i (some v)) H s'→(∃a,Heap.SameBut a s.heap s'.heap∧(a=X.env.locals∨X.env.cells.lookup x=some a))→Q () s') (hf:X.fn x=true∨X.env.scope.names.lookup x=some .local:=by first | exact .inl rfl | exact .inr rfl | assumption):wpAny M A (storeName X.env x u) Q E s:=by
 obtain⟨m,hn,hl⟩:=id I.loc
 have Xi:(X.env.scope.kind== .class || (X.env.scope.kind== .module && X.env.locals !=X.env.globals))=false:=by rw[I.ok.kind];rfl
 have Mf:i<σ.length:=by rw[I.len];exact(List.getElem?_eq_some_iff.mp hi).1
 have lA:=I.lA
 have tracked: ∀{a:Addr} {h':Heap},(∃o,s.heap.get? a=some o∧H a=none)→Heap.SameBut a s.heap h'→cy X.prog X.w H h':=fun {a h'} ha hs b ob e=>by
  obtain⟨_,_,Mg⟩:=ha
  refine(I.aR b ob e).gT (fun c w' hc q=> (hs.2 c ?_).trans q) (fun _ q=>q) fun _ _ q=>q
  rintro rfl
  rcases hc with rfl | hc
  ·rw[Mg] at e;cases e
  ·rw[Mg] at hc;cases hc
 rcases hx with hk | hk
 ·refine wpAny_storeName_local hk hn (fun h' Xj hs=> ?_) Xi
  obtain⟨oL,_,_,Xk,_⟩:=id hn
  refine h _ ⟨I.ok,I.os,I.bare,⟨fun b o e n hb hx=> ?_,fun b o e n hb hx=> ?_,I.base.free,fun b o e hx=> ?_,I.base.cY,I.base.fA,I.base.fR⟩,⟨_,Xj,fun j y v' e1 e2 e3=> ?_⟩,fun y c e=> ?_,I.free,I.jc,fun p hp=> ?_,tracked ⟨oL,Xk,I.free⟩ hs,by simpa using I.len⟩ ⟨_,hs, .inl rfl⟩
  ·exact(hs.2 b (Nat.ne_of_lt (Nat.lt_of_lt_of_le (Heap.lt_size e) I.ok.above))).trans (I.base.keep b o e n hb hx)
  ·obtain⟨sl,e1⟩:=I.base.slot b o e n hb hx
   exact⟨sl,(hs.2 b (Nat.ne_of_lt (Nat.lt_of_lt_of_le (Heap.lt_size e) I.ok.above))).trans e1⟩
  ·obtain⟨o',e1⟩:=I.base.there b o e hx
   exact⟨o',(hs.2 b (Nat.ne_of_lt (Nat.lt_of_lt_of_le (Heap.lt_size e) I.ok.above))).trans e1⟩
  ·by_cases hj:j=i
   ·subst hj
    rw[hi] at e1;cases e1
    rw[List.getElem?_set_self Mf] at e2
    cases e2
    exact⟨u,r, .inl ⟨hk,by simp⟩⟩
   ·rw[List.getElem?_set_ne (Ne.symm hj)] at e2
    obtain⟨u',r',q⟩:=hl j y v' e1 e2 e3
    refine⟨u',r', ?_⟩
    rcases q with⟨k,e⟩ | ⟨k,c,e,z⟩
    ·refine .inl ⟨k, ?_⟩
     have:y≠x:=fun e=>hj (Md hN e1 (e ▸ hi))
     simp[this,e]
    ·exact .inr ⟨k,c,e,z.sameBut hs (lA y c e)⟩
  ·obtain⟨w',z⟩:=I.cell y c e
   exact⟨w',z.sameBut hs (lA y c e)⟩
  ·obtain⟨e,n,ne,nf,d⟩:=I.pin p hp
   exact⟨(hs.2 p.1 ne).trans e,n,ne,nf,d⟩
 ·have yp:X.fn x=true:=by
   rcases hf with z | z
   ·exact z
   ·rw[z] at hk;cases hk
  obtain⟨c,hc⟩:=I.ok.has x (.inl hk)
  obtain⟨w',z⟩:=I.cell x c hc
  refine wpAny_storeName_cell I.ok.kind hk hc z (fun h' cq hs=> ?_)
  obtain⟨oc,Mh,Xl⟩:=id z
  refine h {s with heap:=h'} ⟨I.ok,I.os,I.bare,⟨fun b o e n hb hx=> ?_,fun b o e n hb hx=> ?_,I.base.free,fun b o e hx=> ?_,I.base.cY,I.base.fA,I.base.fR⟩,⟨m,hn.sameBut hs (Ne.symm (lA x c hc)),fun j y v' e1 e2 e3=> ?_⟩,fun y c' e=> ?_,I.free,I.jc,fun p hp=> ?_,tracked ⟨oc,Mh,I.jc x c hc⟩ hs,by simpa using I.len⟩ ⟨c,hs, .inr hc⟩
  ·exact(hs.2 b (Nat.ne_of_lt (Nat.lt_of_lt_of_le (Heap.lt_size e) (I.ok.yi x c yp hc)))).trans (I.base.keep b o e n hb hx)
  ·obtain⟨sl,e1⟩:=I.base.slot b o e n hb hx
   exact⟨sl,(hs.2 b (Nat.ne_of_lt (Nat.lt_of_lt_of_le (Heap.lt_size e) (I.ok.yi x c yp hc)))).trans e1⟩
  ·obtain⟨o',e1⟩:=I.base.there b o e hx
   exact⟨o',(hs.2 b (Nat.ne_of_lt (Nat.lt_of_lt_of_le (Heap.lt_size e) (I.ok.yi x c yp hc)))).trans e1⟩
  ·by_cases hj:j=i
   ·subst hj
    rw[hi] at e1;cases e1
    rw[List.getElem?_set_self Mf] at e2
    cases e2
    exact⟨u,r, .inr ⟨.inl hk,c,hc,cq⟩⟩
   ·rw[List.getElem?_set_ne (Ne.symm hj)] at e2
    obtain⟨u',r',q⟩:=hl j y v' e1 e2 e3
    refine⟨u',r', ?_⟩
    rcases q with q | ⟨k,c',e,z'⟩
    ·exact .inl q
    ·refine .inr ⟨k,c',e,z'.sameBut hs ?_⟩
     rintro rfl
     exact hj (Md hN e1 (I.ok.inj _ _ _ e hc ▸ hi))
  ·by_cases Mi:c'=c
   ·subst Mi;exact⟨_,cq⟩
   ·obtain⟨w2,z2⟩:=I.cell y c' e
    exact⟨w2,z2.sameBut hs Mi⟩
  ·obtain⟨e,n,ne,nf,d⟩:=I.pin p hp
   refine⟨(hs.2 p.1 ?_).trans e,n,ne,nf,d⟩
   intro q
   rw[q,Mh] at e
   have q':oc=p.2:=Option.some.inj e
   exact d w' (by rw[←q'];exact Xl)
theorem Mj{M:Model}{A:Around}{E:Value→Shared→Prop}{i:Nat}{x:Str}{v:V}{u:Value}{Q:Unit→Shared→Prop}(I:Inv X pins σ H s)(hN:X.N.Nodup)(hi:X.N[i]?=some x)(hx:Loc X.env.scope x)(r:RelV v u)
  (h: ∀s',Inv X pins (σ.set i (some v)) H s'→Q () s') (hf:X.fn x=true∨X.env.scope.names.lookup x=some .local:=by first | exact .inl rfl | exact .inr rfl | assumption):wpAny M A (storeName X.env x u) Q E s:=
 Me I hN hi hx r (fun s' I' _=>h s' I') hf
theorem Inv.Xm{s':Shared}{ch:List Addr}(I:Inv X pins σ H s)(ho:s'.os=s.os)(u:Un (cj X.stack) ch H H' s.heap s'.heap)(aR:cy X.prog X.w H' s'.heap)(hg:AllBare s'.gens)
  (dY: ∀b∈ch,(b∈X.ex∨X.s₀.heap.objs.size≤b)∧b≠X.env.locals∧(∀x c,X.env.cells.lookup x=some c→c≠b)∧ ∀p∈X.pn++pins,p.1≠b):Inv X pins σ H' s':=by
 obtain⟨h',g',d',t',o'⟩:=s'
 have e:o'=s.os:=ho
 subst e
 exact I.call (g':=g') (t':=t') (d':=d') u aR hg dY
end
abbrev XK:=Value→Option Addr→Hp→Prop
abbrev St:=List (Option V)
abbrev VK:=V→Hp→Prop
abbrev TE:=St→Hp→VK→Prop
abbrev TT:=St→Hp→(Bool→Hp→Prop)→Prop
abbrev TA:=St→Hp→(List V→Hp→Prop)→Prop
structure Ends where
 nx:St→Hp→Prop
 rt:VK
 bk:St→Hp→Prop:=fun _ _=>False
 ct:St→Hp→Prop:=fun _ _=>False
abbrev TS:=Ends→St→Hp→Prop
def EP(X:Cx)(pins:List (Addr×Obj))(σ:St)(Q:VK)(u:Value)(s':Shared):Prop:= ∃v H',Inv X pins σ H' s'∧RelV v u∧Q v H'
def TP(X:Cx)(pins:List (Addr×Obj))(σ:St)(Q:Bool→Hp→Prop)(b:Bool)(s':Shared):Prop:= ∃H',Inv X pins σ H' s'∧Q b H'
def AP(X:Cx)(pins:List (Addr×Obj))(σ:St)(Q:List V→Hp→Prop)(us:List Value)(s':Shared):Prop:= ∃vs H',Inv X pins σ H' s'∧Vals vs us∧Q vs H'
def SP(X:Cx)(pins:List (Addr×Obj))(D:Ends)(f:Flow)(s':Shared):Prop:=
 match f with
 | .next=> ∃σ' H',Inv X pins σ' H' s'∧D.nx σ' H'
 | .brk=> ∃σ' H',Inv X pins σ' H' s'∧D.bk σ' H'
 | .cont=> ∃σ' H',Inv X pins σ' H' s'∧D.ct σ' H'
 | .ret u=> ∃v σ' H',Inv X pins σ' H' s'∧RelV v u∧D.rt v H'
def PE(X:Cx)(e:Expr)(t:TE):Prop:=
 ∀(pins:List (Addr×Obj)) (s:Shared) (σ:St) (H:Hp) (Q:VK),Inv X pins σ H s→t σ H Q→wpAny (model X.prog X.w) X.A (eval e X.env) (EP X pins σ Q) X.xe s
def PT(X:Cx)(e:Expr)(t:TT):Prop:=
 ∀(pins:List (Addr×Obj)) (s:Shared) (σ:St) (H:Hp) (Q:Bool→Hp→Prop),Inv X pins σ H s→t σ H Q→wpAny (model X.prog X.w) X.A (isTrue e X.env (eval e X.env)) (TP X pins σ Q) X.xe s
def PW(X:Cx)(e:Expr)(t:TT):Prop:=
 ∀(whole:Sem Value) (pins:List (Addr×Obj)) (s:Shared) (σ:St) (H:Hp) (Q:Bool→Hp→Prop),Inv X pins σ H s→t σ H Q→wpAny (model X.prog X.w) X.A (isTrue e X.env whole) (TP X pins σ Q) X.xe s
theorem PW.pt{X:Cx}{e:Expr}{t:TT}(h:PW X e t):PT X e t:=h _
def PA(X:Cx)(es:List Expr)(t:TA):Prop:=
 ∀(pos:Pos) (pins:List (Addr×Obj)) (s:Shared) (σ:St) (H:Hp) (Q:List V→Hp→Prop),Inv X pins σ H s→t σ H Q→wpAny (model X.prog X.w) X.A (spliced (backTo pos (starEach es X.env))) (AP X pins σ Q) X.xe s
def PS(X:Cx)(st:Stmt)(t:TS):Prop:=
 ∀(pins:List (Addr×Obj)) (s:Shared) (σ:St) (H:Hp) (D:Ends),Inv X pins σ H s→t D σ H→wpAny (model X.prog X.w) X.A (exec st X.env) (SP X pins D) X.xe s
def aY(X:Cx)(st:List Stmt)(t:TS):Prop:=
 ∀(pins:List (Addr×Obj)) (s:Shared) (σ:St) (H:Hp) (D:Ends),Inv X pins σ H s→t D σ H→wpAny (model X.prog X.w) X.A (execs st X.env) (SP X pins D) X.xe s
theorem bf{α:Type}{t:Sem α}{Q Q':α→Shared→Prop}{M:Model}{A:Around}{E:Value→Shared→Prop}{s:Shared}(h:wpAny M A t Q E s)(hQ: ∀a s,Q a s→Q' a s):wpAny M A t Q' E s:=wpAny_mono h hQ fun _ _ x=>x
section
variable {X:Cx}
def yq(i:Nat):TE:=fun σ H Q=> ∃v,σ[i]?=some (some v)∧Q v H
def tC(v:V):TE:=fun _ H Q=>Q v H
theorem Xn{i:Nat}{x:Str}{pos:Pos}(hN:X.N[i]?=some x)(hv:uv X.env.scope x)(hd:(x==("__debug__":Str))=false:=by decide)(gU:(x==("__classdict__":Str))=false:=by decide):PE X (.Name x pos) (yq i):=by
 intro pins s σ H Q I h
 obtain⟨v,e,h⟩:=h
 obtain⟨m,hn,hl⟩:=I.loc
 obtain⟨u,r,l⟩:=hl i x v hN e hv
 have fin:EP X pins σ Q u s:=⟨v,H,I,r,h⟩
 rcases l with⟨hk,hm⟩ | ⟨hk,c,hc,Ml⟩
 ·exact wpAny_Name (wpAny_loadName_local I.ok.kind hk hn hm fin) hd
 ·rcases hk with hk | hk
  ·exact wpAny_Name (wpAny_loadName_cell I.ok.kind hk hc Ml fin) hd
  ·exact wpAny_Name (wpAny_loadName_free I.ok.kind hk hc Ml fin gU) hd
theorem Xo{i j pos}:PE X (.Constant (.int i) j pos) (tC (.int i)):=fun _ _ _ H _ I h=>wpAny_Constant_int ⟨.int i,H,I.tok _,⟨_,rfl⟩,h⟩
theorem Xp{b j pos}:PE X (.Constant (.bool b) j pos) (tC (.bl b)):=fun _ _ _ H _ I h=>Constant_bool ⟨.bl b,H,I,rfl,h⟩
theorem Xq{j pos}:PE X (.Constant .none j pos) (tC .az):=fun _ _ _ H _ I h=>Constant_none ⟨.az,H,I,rfl,h⟩
theorem Xr{x j pos}:PE X (.Constant (.str x) j pos) (tC (.str x)):=fun _ _ _ H _ I h=>Calls.Constant_str ⟨.str x,H,I.tok _,⟨_,rfl⟩,h⟩
def Gl(X:Cx)(x:Str):Prop:=X.env.kindOf x=some .globalImplicit
theorem uA{E:Value→Shared→Prop}{pins:List (Addr×Obj)}{s:Shared}{σ:St}{H:Hp}{x:Str}{u:Value}{pos:Pos}{Q:Value→Shared→Prop}(I:Inv X pins σ H s)(hg:Gl X x)(hm:X.mg x=some u)(h:Q u s)
  (hd:(x==("__debug__":Str))=false:=by decide):wpAny (model X.prog X.w) X.A (eval (.Name x pos) X.env) Q E s:=
 Calls.Name_function_global I.ok.kind hg (Calls.loadGlobal_global (by rw[I.ok.glob];exact I.mod.glob.keeps I.bk) hm h) hd
theorem o_{E:Value→Shared→Prop}{pins:List (Addr×Obj)}{s:Shared}{σ:St}{H:Hp}{x:Str}{u:Value}{pos:Pos}{Q:Value→Shared→Prop}(I:Inv X pins σ H s)(hg:Gl X x)(hm:X.mg x=none)(hv:bootBuiltins x=some u)(h:Q u s)
  (hn:x≠"__name__":=by decide) (hd:(x==("__debug__":Str))=false:=by decide):wpAny (model X.prog X.w) X.A (eval (.Name x pos) X.env) Q E s:=by
 obtain⟨mb,h1,h2⟩:=I.mod.blt
 exact Calls.Name_function_global I.ok.kind hg (Calls.loadGlobal_builtin (by rw[I.ok.glob];exact I.mod.glob.keeps I.bk) hm (by rw[I.ok.blt];exact h1.keeps I.bk) ((h2 x hn).trans hv) h) hd
theorem Mm{x:Str}{v:V}{u:Value}{pos:Pos}(hg:Gl X x)(hm:X.mg x=some u)(r:RelV v u)(hd:(x==("__debug__":Str))=false:=by decide):PE X (.Name x pos) (tC v):=
 fun _ _ _ H _ I h=>uA I hg hm ⟨v,H,I,r,h⟩ hd
theorem Xs{x:Str}{v:V}{u:Value}{pos:Pos}(hg:Gl X x)(hm:X.mg x=none)(hv:bootBuiltins x=some u)(r:RelV v u)(hn:x≠"__name__":=by decide)(hd:(x==("__debug__":Str))=false:=by decide):PE X (.Name x pos) (tC v):=
 fun _ _ _ H _ I h=>o_ I hg hm hv ⟨v,H,I,r,h⟩ hn hd
variable {a b:Expr} {ta tb:TE} {pos:Pos}
def tB(t:TE):TT:=fun σ H Q=>t σ H fun x H1=> ∃c,x= .bl c∧Q c H1
variable {tA uB:TT} {rest:List Expr}
def Mn(t u:TT):TT:=fun σ H Q=>t σ H fun c H1=>if c=true then u σ H1 Q else Q false H1
def Mo(t u:TT):TT:=fun σ H Q=>t σ H fun c H1=>if c=true then Q true H1 else u σ H1 Q
def Mp(t:TT):TT:=fun σ H Q=>t σ H fun c H1=>Q (!c) H1
theorem pw_and1(ha:PT X a tA):PW X (.BoolOp .And [a] pos) tA:=by
 intro wh pins s σ H Q I h
 refine isTrue_and (bf (ha pins s σ H Q I h) fun c s1 e=> ?_)
 cases c with
 | true=>exact isTrue_and_nil e
 | false=>exact e
theorem pw_or1(ha:PT X a tA):PW X (.BoolOp .Or [a] pos) tA:=by
 intro wh pins s σ H Q I h
 refine isTrue_or (bf (ha pins s σ H Q I h) fun c s1 e=> ?_)
 cases c with
 | false=>exact isTrue_or_nil e
 | true=>exact e
theorem pw_and(ha:PT X a tA)(hb:PW X (.BoolOp .And (b::rest) pos) uB):PW X (.BoolOp .And (a::b::rest) pos) (Mn tA uB):=by
 intro wh pins s σ H Q I h
 refine isTrue_and (bf (ha pins s σ H _ I h) fun c s1 ⟨H1,I1,q1⟩=> ?_)
 cases c with
 | true=>exact hb wh pins s1 σ H1 Q I1 q1
 | false=>exact⟨H1,I1,q1⟩
theorem pw_or(ha:PT X a tA)(hb:PW X (.BoolOp .Or (b::rest) pos) uB):PW X (.BoolOp .Or (a::b::rest) pos) (Mo tA uB):=by
 intro wh pins s σ H Q I h
 refine isTrue_or (bf (ha pins s σ H _ I h) fun c s1 ⟨H1,I1,q1⟩=> ?_)
 cases c with
 | true=>exact⟨H1,I1,q1⟩
 | false=>exact hb wh pins s1 σ H1 Q I1 q1
theorem Xt(ha:PT X a tA):PT X (.UnaryOp .Not a pos) (Mp tA):=by
 intro pins s σ H Q I h
 exact isTrue_not (ha pins s σ H (fun c H1=>Q (!c) H1) I h)
def Mq(ta tb:TE):TE:=fun σ H Q=>ta σ H fun x H1=> ∃c,x= .bl c∧if c=true then tb σ H1 Q else Q (.bl false) H1
def Mr(ta tb:TE):TE:=fun σ H Q=>ta σ H fun x H1=> ∃c,x= .bl c∧if c=true then Q (.bl true) H1 else tb σ H1 Q
theorem Ms{op}{t:TE}(h:PE X a t):PE X (.BoolOp op [a] pos) t:=fun pins s σ H Q I hw=>BoolOp_one (h pins s σ H Q I hw)
theorem Xu(ha:PE X a ta)(hb:PE X (.BoolOp .And (b::rest) pos) tb):PE X (.BoolOp .And (a::b::rest) pos) (Mq ta tb):=by
 intro pins s σ H Q I h
 refine BoolOp_and (bf (ha pins s σ H _ I h) fun v s1 ⟨x,H1,I1,r1,q1⟩=> ?_)
 obtain⟨c,rfl,q1⟩:=q1
 cases r1
 refine wpAny_truthy_bool ?_
 cases c with
 | true=>exact hb pins s1 σ H1 Q I1 q1
 | false=>exact⟨.bl false,H1,I1,rfl,q1⟩
theorem Xv(ha:PE X a ta)(hb:PE X (.BoolOp .Or (b::rest) pos) tb):PE X (.BoolOp .Or (a::b::rest) pos) (Mr ta tb):=by
 intro pins s σ H Q I h
 refine BoolOp_or (bf (ha pins s σ H _ I h) fun v s1 ⟨x,H1,I1,r1,q1⟩=> ?_)
 obtain⟨c,rfl,q1⟩:=q1
 cases r1
 refine wpAny_truthy_bool ?_
 cases c with
 | false=>exact hb pins s1 σ H1 Q I1 q1
 | true=>exact⟨.bl true,H1,I1,rfl,q1⟩
def Mt(t:TT)(ta tb:TE):TE:=fun σ H Q=>t σ H fun c H1=>if c=true then ta σ H1 Q else tb σ H1 Q
theorem Xw{c:Expr}(hc:PT X c tA)(ha:PE X a ta)(hb:PE X b tb):PE X (.IfExp c a b pos) (Mt tA ta tb):=by
 intro pins s σ H Q I h
 refine wpAny_IfExp (bf (hc pins s σ H _ I h) fun d s1 ⟨H1,I1,q1⟩=> ?_)
 cases d with
 | true=>exact ha pins s1 σ H1 Q I1 q1
 | false=>exact hb pins s1 σ H1 Q I1 q1
end
def aM(K:Frag)(H:Hp)(a:Addr)(xs:List V):Prop:=
 Rd H a (.lst xs)∨
  ∃(o:Obj) (its:Array Value) (n:Nat),K.lookup a=some o∧o.cls= .type "list"∧o.dict=none∧o.data= .seq its n∧its.size≤sizeLine∧Vals xs its.toList
def bo(K:Frag)(H:Hp)(a:Addr)(xs:List V):Prop:=
 Rd H a (.tup xs)∨
  ∃(o:Obj) (its:Array Value) (n:Nat),K.lookup a=some o∧o.cls= .type "tuple"∧o.data= .seq its n∧its.size≤sizeLine∧Vals xs its.toList
def Xx:Value→Option V
 | .none=>some .az
 | .bool b=>some (.bl b)
 | .int i _=>some (.int i)
 | .str x _=>some (.str x)
 | .bytes b _=>some (.eF b)
 | .float b _=>some (.jW b)
 | .ref a=>some (.ref a)
 | .type n=>some (.ty n)
 | _=>none
theorem RelV.abs{x:V}{u:Value}(r:RelV x u):Xx u=some x:=by
 cases x with
 | az=>cases r;rfl
 | bl _=>cases r;rfl
 | int _=>obtain⟨t,rfl⟩:=r;rfl
 | str _=>obtain⟨t,rfl⟩:=r;rfl
 | eF _=>obtain⟨t,rfl⟩:=r;rfl
 | jW _=>obtain⟨t,rfl⟩:=r;rfl
 | ref _=>cases r;rfl
 | ty _=>cases r;rfl
theorem RelV.inj{x y:V}{u:Value}(r:RelV x u)(q:RelV y u):x=y:=Option.some.inj (r.abs.symm.trans q.abs)
theorem Vals.inj: ∀{xs ys:List V} {us:List Value},Vals xs us→Vals ys us→xs=ys
 | _,_,_, .nil, .nil=>rfl
 | _,_,_, .cons r t, .cons r' t'=>by rw[r.inj r',Vals.inj t t']
section
variable {X:Cx} {pins:List (Addr×Obj)} {σ:St} {H:Hp} {s:Shared} {a:Addr} {xs ys:List V}
theorem aM.of{K:Frag}(h:H a=some (.lst xs)):aM K H a xs:= .inl (.inl h)
theorem bo.of{K:Frag}(h:H a=some (.tup xs)):bo K H a xs:= .inl (.inl h)
theorem Inv.list(I:Inv X pins σ H s)(h:aM X.K H a xs): ∃its:List Value,Vals xs its∧PlainL s.heap a its.toArray∧xs.length≤sizeLine:=by
 rcases h with h | ⟨o,its,n,hk,hc,hd,hs,hz,r⟩
 ·obtain⟨z,its,n,r,e⟩:=h.ok I.aR
  exact⟨its,r,⟨_,n,e,rfl,rfl,rfl⟩,z⟩
 ·refine⟨its.toList,r,⟨o,n,I.cC a o hk,hc,hd,by simpa using hs⟩, ?_⟩
  have e:=r.length
  simp only[Array.length_toList] at e
  omega
theorem Inv.tuple(I:Inv X pins σ H s)(h:bo X.K H a xs): ∃its:List Value,Vals xs its∧IsTup s.heap a its.toArray∧xs.length≤sizeLine:=by
 rcases h with h | ⟨o,its,n,hk,hc,hs,hz,r⟩
 ·obtain⟨z,its,r,p⟩:=h.ok I.aR
  exact⟨its,r,p,z⟩
 ·refine⟨its.toList,r,⟨o,I.cC a o hk,hc,n,by simpa using hs⟩, ?_⟩
  have e:=r.length
  simp only[Array.length_toList] at e
  omega
theorem Inv.uC(I:Inv X pins σ H s)(h:aM X.K H a xs)(h':aM X.K H a ys):xs=ys:=by
 obtain⟨its,r,⟨o,n,e,_,_,d⟩,_⟩:=I.list h
 obtain⟨eI,r',⟨o',n',e',_,_,d'⟩,_⟩:=I.list h'
 rw[e] at e';cases e'
 rw[d] at d'
 injection d' with d1 _
 have:its=eI:=by simpa using congrArg Array.toList d1
 subst this
 exact r.inj r'
theorem Inv.Xy(I:Inv X pins σ H s)(h:bo X.K H a xs)(h':bo X.K H a ys):xs=ys:=by
 obtain⟨its,r,⟨o,e,_,n,d⟩,_⟩:=I.tuple h
 obtain⟨eI,r',⟨o',e',_,n',d'⟩,_⟩:=I.tuple h'
 rw[e] at e';cases e'
 rw[d] at d'
 injection d' with d1 _
 have:its=eI:=by simpa using congrArg Array.toList d1
 subst this
 exact r.inj r'
end
section
variable {X:Cx} {pins:List (Addr×Obj)} {σ:St} {H:Hp} {s:Shared} {E:Value→Shared→Prop}
end
section
variable {X:Cx} {st:Stmt} {rest:List Stmt} {t u:TS} {e:Expr} {te:TE} {pos:Pos}
def yr:TS:=fun D σ H=>D.nx σ H
def Mu(t u:TS):TS:=fun D σ H=>t {D with nx:=u D} σ H
theorem Xz:aY X [] yr:=fun _ _ σ H _ I h=>wpAny_execs_nil ⟨σ,H,I,h⟩
theorem XA(h1:PS X st t)(h2:aY X rest u):aY X (st::rest) (Mu t u):=by
 intro pins s σ H D I h
 refine wpAny_execs_cons (bf (h1 pins s σ H {D with nx:=u D} I h) fun f s1 q=> ?_)
 cases f with
 | next=>
  obtain⟨σ',H',I',q⟩:=q
  exact h2 pins s1 σ' H' D I' q
 | ret v=>exact q
 | brk=>exact q
 | cont=>exact q
def XB:TS:=fun D σ H=>D.bk σ H
def Mv:TS:=fun D σ H=>D.ct σ H
theorem XC:PS X (.Continue pos) Mv:=fun _ _ σ H _ I h=>wpAny_Continue ⟨σ,H,I,h⟩
theorem Inv.quiet{pins:List (Addr×Obj)}{σ:St}{H:Hp}{s:Shared}(I:Inv X pins σ H s):interactive X.env=false:=by simp[interactive,I.ok.kind]
def Mw(te:TE):TS:=fun D σ H=>te σ H fun _ H1=>D.nx σ H1
theorem XD(he:PE X e te)(hs:swapsWith e none pos.line X.env=pure false:=by rfl):PS X (.Expr e pos) (Mw te):=by
 intro pins s σ H D I h
 exact wpAny_Expr_any (bf (he pins s σ H _ I h) fun v s1 ⟨x,H1,I1,r1,q1⟩=> ⟨σ,H1,I1,q1⟩) I.quiet hs
def Mx(te:TE):TS:=fun D σ H=>te σ H D.rt
theorem XE(he:PE X e te):PS X (.Return (some e) pos) (Mx te):=by
 intro pins s σ H D I h
 exact wpAny_Return_some (bf (he pins s σ H _ I h) fun v s1 ⟨x,H1,I1,r1,q1⟩=> ⟨x,σ,H1,I1,r1,q1⟩)
def XF:TS:=fun D _ H=>D.rt .az H
def My(c:TT)(t u:TS):TS:=fun D σ H=>c σ H fun b H1=>if b=true then t D σ H1 else u D σ H1
theorem XG{c:Expr}{a b:List Stmt}{tc:TT}(hc:PT X c tc)(ha:aY X a t)(hb:aY X b u):PS X (.If c a b pos) (My tc t u):=by
 intro pins s σ H D I h
 refine wpAny_If (bf (hc pins s σ H _ I h) fun d s1 ⟨H1,I1,q1⟩=> ?_)
 cases d with
 | true=>exact ha pins s1 σ H1 D I1 q1
 | false=>exact hb pins s1 σ H1 D I1 q1
def XH:TS:=fun _ _ _=>False
end
abbrev TG:=V→St→Hp→(St→Hp→Prop)→Prop
abbrev iD:=List V→St→Hp→(St→Hp→Prop)→Prop
def PG(X:Cx)(target:Expr)(t:TG):Prop:=
 ∀(pins:List (Addr×Obj)) (s:Shared) (σ:St) (H:Hp) (v:V) (u:Value) (Q:St→Hp→Prop),Inv X pins σ H s→RelV v u→t v σ H Q→
  wpAny (model X.prog X.w) X.A (assign target X.env u) (fun _ s'=> ∃σ' H',Inv X pins σ' H' s'∧Q σ' H') X.xe s
def pb(X:Cx)(ts:List Expr)(t:iD):Prop:=
 ∀(pins:List (Addr×Obj)) (s:Shared) (σ:St) (H:Hp) (vs:List V) (us:List Value) (Q:St→Hp→Prop),Inv X pins σ H s→Vals vs us→t vs σ H Q→
  wpAny (model X.prog X.w) X.A (assignInOrder ((assignEach ts X.env).map (·.2)) us) (fun _ s'=> ∃σ' H',Inv X pins σ' H' s'∧Q σ' H') X.xe s
abbrev yt:=V→V→V→Hp→(Hp→Prop)→Prop
def Mz(X:Cx)(t:yt):Prop:=
 ∀(pins:List (Addr×Obj)) (s:Shared) (σ:St) (H:Hp) (o i v:V) (ov iv u:Value) (Q:Hp→Prop),Inv X pins σ H s→RelV o ov→RelV i iv→RelV v u→t o i v H Q→
  wpAny (model X.prog X.w) X.A (setItem ov iv u) (fun _ s'=> ∃H',Inv X pins σ H' s'∧Q H') X.xe s
section
variable {X:Cx} {pos:Pos}
def dZ(i:Nat):TG:=fun v σ H Q=>Q (σ.set i (some v)) H
theorem uD{i:Nat}{x:Str}(hN:X.N.Nodup)(hi:X.N[i]?=some x)(hx:Loc X.env.scope x)(hf:X.fn x=true∨X.env.scope.names.lookup x=some .local:=by first | exact .inl rfl | exact .inr rfl | assumption):PG X (.Name x pos) (dZ i):=by
 intro pins s σ H v u Q I r h
 exact wpAny_assign_Name (Mj I hN hi hx r (fun s' I'=> ⟨_,H,I',h⟩) hf)
def yu:iD:=fun vs σ H Q=>vs=[]∧Q σ H
def uE(t:TG)(u:iD):iD:=fun vs σ H Q=> ∃v r,vs=v::r∧t v σ H fun σ' H'=>u r σ' H' Q
theorem MA:pb X [] yu:=by
 intro pins s σ H vs us Q I r h
 obtain⟨e,h⟩:=h
 subst e
 cases r
 exact assignInOrder_nil ⟨σ,H,I,h⟩
theorem yv{e:Expr}{es:List Expr}{t:TG}{u:iD}(h1:PG X e t)(h2:pb X es u)
  (hs:(assignEach (e::es) X.env).map (·.2)=assign e X.env::(assignEach es X.env).map (·.2):=by rfl):pb X (e::es) (uE t u):=by
 intro pins s σ H vs us Q I r h
 obtain⟨v,vr,e1,h⟩:=h
 subst e1
 cases r with
 | cons r rr=>
  rw[hs]
  refine assignInOrder_cons (bf (h1 pins s σ H _ _ _ I r h) fun _ s1 ⟨σ1,H1,I1,q1⟩=> ?_)
  exact h2 pins s1 σ1 H1 _ _ Q I1 rr q1
def MB(K:Frag)(n:Nat)(t:iD):TG:=fun v σ H Q=> ∃a xs,v= .ref a∧bo K H a xs∧xs.length=n∧t xs σ H Q
theorem MC{es:List Expr}{k:Nat}{t:iD}{n:Nat}(hc:X.calm=true)(h:pb X es t)
  (hn:(assignEach es X.env).length=n:=by rfl) (pd:(assignEach es X.env).findIdx? (·.1)=none:=by rfl):PG X (.Tuple es k pos) (MB X.K n t):=by
 intro pins s σ H v u Q I r hw
 obtain⟨a,xs,e1,hq,hl,hw⟩:=hw
 subst e1
 cases r
 obtain⟨its,rv,ht,hz⟩:=I.tuple hq
 refine assign_Tuple_tuple (I.ok.hd hc) ht (by simp[hn,←hl,rv.length]) pd fun h' hx=> ?_
 have I1:Inv X pins σ H {s with heap:=h'}:=I.kept (t':=s.toks) fun b o e=>hx b o (Nat.ne_of_lt (Heap.lt_size e)) e
 exact h pins _ σ H xs _ Q I1 (by simpa using rv) hw
def MD(to ti:TE)(t:yt):TG:=fun v σ H Q=>to σ H fun o H1=>ti σ H1 fun i H2=>t o i v H2 fun H3=>Q σ H3
theorem XI{o i:Expr}{to ti:TE}{t:yt}(ho:PE X o to)(hi:PE X i ti)(hs:Mz X t)
  (ha: ∀v,assign (.Subscript o i pos) X.env v=(do
   let ov ←holding [v] (eval o X.env)
   let iv ←holding [v,ov] (eval i X.env)
   standAt pos
   holding [v,ov,iv] (setItem ov iv v)
   release [v,ov,iv] []):=by intro _;rfl):PG X (.Subscript o i pos) (MD to ti t):=by
 intro pins s σ H v u Q I r h
 rw[ha]
 refine wpAny_bind (wpAny_holding (bf (ho pins s σ H _ I h) fun ov s1 ⟨x,H1,I1,r1,q1⟩=> ?_))
 refine wpAny_bind (wpAny_holding (bf (hi pins s1 σ H1 _ I1 q1) fun iv s2 ⟨y,H2,I2,r2,q2⟩=> ?_))
 refine wpAny_bind (wpAny_standAt (wpAny_bind (wpAny_holding (bf (hs pins s2 σ H2 x y v ov iv u _ I2 r1 r2 r q2) fun _ s3 ⟨H3,I3,q3⟩=> ?_))))
 exact wpAny_release ⟨σ,H3,I3,q3⟩
def gW(te:TE)(g:TG):TS:=fun D σ H=>te σ H fun x H1=>g x σ H1 D.nx
theorem ME{tg e:Expr}{te:TE}{g:TG}(he:PE X e te)(hg:PG X tg g)(hs:swapsWithSole [tg] e pos.line X.env=pure false:=by rfl)(hw:swappedStores [tg] e X.env=pure none:=by rfl)
  (h1:(assignEach [tg] X.env).map (·.2)=[assign tg X.env]:=by rfl):PS X (.Assign [tg] e pos) (gW te g):=by
 intro pins s σ H D I h
 refine wpAny_Assign_stores (bf (he pins s σ H _ I h) fun v s1 ⟨x,H1,I1,r1,q1⟩=> ?_) hs hw
 rw[h1]
 exact bf (hg pins s1 σ H1 x v _ I1 r1 q1) fun _ s2 q=>q
theorem XJ{i:Nat}{x:Str}{e:Expr}{te:TE}{pos':Pos}(hN:X.N.Nodup)(hi:X.N[i]?=some x)(hx:Loc X.env.scope x)(he:PE X e te)(hs:swapsWith e (some (.Name x pos')) pos.line X.env=pure false:=by rfl)(hf:X.fn x=true∨X.env.scope.names.lookup x=some .local:=by first | exact .inl rfl | exact .inr rfl | assumption):
  PS X (.Assign [.Name x pos'] e pos) (gW te (dZ i)):=by
 intro pins s σ H D I h
 refine wpAny_Assign_Name (bf (he pins s σ H _ I h) fun v s1 ⟨y,H1,I1,r1,q1⟩=> ?_) hs
 exact Mj I1 hN hi hx r1 (fun s2 I2=> ⟨_,H1,I2,q1⟩) hf
end
section
variable {X:Cx} {pos:Pos}
def MF(c:TT)(tb:TS):TS:=fun D σ H=> ∃W:Nat→St→Hp→Prop,(∃m,W m σ H)∧ ∀m σ H,W m σ H→
 c σ H fun b H1=>if b=true then ∃N:St→Hp→Prop,(∀σ' H',N σ' H'→ ∃m',m'<m∧W m' σ' H')∧tb {D with nx:=N,ct:=N,bk:=D.nx} σ H1 else D.nx σ H1
theorem XM{c:Expr}{body:List Stmt}{tc:TT}{tb:TS}(hp:PassesOwn (model X.prog X.w) X.A X.env X.xe)(hc:PT X c tc)(hb:aY X body tb):PS X (.While c body [] pos) (MF tc tb):=by
 intro pins s σ H D I h
 obtain⟨W,⟨m0,w0⟩,turn⟩:=h
 refine wpAny_While (codeAny_whileLoop (fun n s'=> ∃σ' H',Inv X pins σ' H' s'∧W n σ' H') ?_ m0 ⟨σ,H,I,w0⟩)
 rintro n s1 ⟨σ1,H1,I1,w1⟩
 refine wpAny_passesOwn hp (bf (hc pins s1 σ1 H1 _ I1 (turn n σ1 H1 w1)) fun b s2 ⟨H2,I2,q2⟩=> ?_)
 cases b with
 | true=>
  obtain⟨N,hN,q2⟩:=q2
  rw[if_pos rfl]
  refine wpAny_passesOwn hp (bf (hb pins s2 σ1 H2 _ I2 q2) fun f s3 q3=> ?_)
  cases f with
  | next=>
   obtain⟨σ3,H3,I3,n3⟩:=q3
   obtain⟨m',hm,w3⟩:=hN σ3 H3 n3
   exact⟨m',hm,σ3,H3,I3,w3⟩
  | cont=>
   obtain⟨σ3,H3,I3,n3⟩:=q3
   obtain⟨m',hm,w3⟩:=hN σ3 H3 n3
   exact⟨m',hm,σ3,H3,I3,w3⟩
  | brk=>exact q3
  | ret v=>exact q3
 | false=>
  rw[if_neg Bool.false_ne_true]
  exact wpAny_execs_nil ⟨σ1,H2,I2,q2⟩
end
structure It where
 go:Nat→Hp→Prop
 e_:Nat→Hp→V→Hp→Prop
 stop:Nat→Hp→Prop
def fS(X:Cx)(pins:List (Addr×Obj))(H:Hp)(b:Addr):Prop:=
 H b=none∧b≠X.env.locals∧b∉X.fs∧(b∈X.ex∨X.s₀.heap.objs.size≤b)∧(∀x c,X.env.cells.lookup x=some c→c≠b)∧ ∀p∈X.pn++pins,p.1≠b
theorem Inv.pe{X:Cx}{pins:List (Addr×Obj)}{σ:St}{H H':Hp}{s:Shared}{b:Addr}(I:Inv X pins σ H s)(hb:s.heap.objs.size≤b)(hn:H' b=none):fS X pins H' b:=by
 refine⟨hn,Nat.ne_of_gt (Nat.lt_of_lt_of_le I.lt hb),I.Ma hb, .inr (Nat.le_trans I.sz hb),fun x c e z=> ?_,fun p hp z=> ?_⟩
 ·obtain⟨v,q⟩:=I.cell x c e
  exact absurd (Nat.lt_of_lt_of_le q.lt (by rw[z];exact hb)) (Nat.lt_irrefl _)
 ·exact absurd (Nat.lt_of_lt_of_le (Heap.lt_size (I.pin p hp).1) (by rw[z];exact hb)) (Nat.lt_irrefl _)
structure Turn (P:Program) (w:World) (K:Frag) (tg:Expr) (J:It) (fp:List Addr) (it:Addr) (tn:Nat→Heap→Prop):Prop where
 mem:it∈fp
 obj: ∀i h,tn i h→ ∀b∈fp,∃o,h.get? b=some o∧ ∀v,o.data≠ .cell v
 keep: ∀i h h',tn i h→(∀b∈fp,∀o,h.get? b=some o→h'.get? b=some o)→tn i h'
 item: ∀(X:Cx),X.prog=P→X.w=w→X.K=K→X.calm=true→ ∀(i:Nat) (pins:List (Addr×Obj)) (s:Shared) (σ:St) (H:Hp) (E:Value→Shared→Prop),Inv X pins σ H s→(∀b∈fp,fS X pins H b)→tn i s.heap→J.go i H→
  wpAny (model P w) X.A (pyNext (.ref it)) (fun r s1=> ∃u,r=some u∧
   wpAny (model P w) X.A (letOwnedTupleGo tg (.ref it) u) (fun _ s2=> ∃x H',Inv X pins σ H' s2∧RelV x u∧J.e_ i H x H'∧tn (i+1) s2.heap∧ ∀b∈fp,H' b=none) E s1) E s
 done: ∀(X:Cx),X.prog=P→X.w=w→X.K=K→X.calm=true→ ∀(i:Nat) (pins:List (Addr×Obj)) (s:Shared) (σ:St) (H:Hp) (E:Value→Shared→Prop),Inv X pins σ H s→(∀b∈fp,fS X pins H b)→tn i s.heap→J.stop i H→
  wpAny (model P w) X.A (pyNext (.ref it)) (fun r s1=>r=none∧Inv X pins σ H s1) E s
 self: ∀(A:Around) (i:Nat) (s:Shared) (Q:Value→Shared→Prop) (E:Value→Shared→Prop),tn i s.heap→Q (.ref it) s→wpAny (model P w) A (pyIter (.ref it)) Q E s
abbrev TI:=St→Hp→(It→Hp→Prop)→Prop
def MG(X:Cx)(pins:List (Addr×Obj))(σ:St)(tg:Expr)(R:It→Hp→Prop)(lB:Value)(s2:Shared):Prop:=
 ∃(it:Addr) (fp:List Addr) (tn:Nat→Heap→Prop) (J:It) (H':Hp),lB= .ref it∧Inv X pins σ H' s2∧Turn X.prog X.w X.K tg J fp it tn∧tn 0 s2.heap∧(∀b∈fp,fS X pins H' b)∧R J H'
def PI(X:Cx)(tg iter:Expr)(wi:TI):Prop:=
 ∀(pins:List (Addr×Obj)) (s:Shared) (σ:St) (H:Hp) (R:It→Hp→Prop),Inv X pins σ H s→wi σ H R→
  wpAny (model X.prog X.w) X.A (eval iter X.env) (fun v s1=>wpAny (model X.prog X.w) X.A (pyIter v) (MG X pins σ tg R) X.xe s1) X.xe s
theorem uF{M:Model}{A:Around}{E:Value→Shared→Prop}{s:Shared}{tg:Expr}{it:Addr}{u:Value}{o:Obj}{n:String}{vs:Array Value}{Q:Unit→Shared→Prop}(ho:s.heap.get? it=some o)(hc:o.cls= .type n)(hd:o.data= .fields vs)
    (hn:["enumerate","zip","dict_itemiterator","dict_reverseitemiterator","odict_iterator","itertools.zip_longest","itertools.pairwise"].contains n=false) (hQ:Q () s):wpAny M A (letOwnedTupleGo tg (.ref it) u) Q E s:=by
  unfold letOwnedTupleGo
  cases tg<;>first
    | exact wpAny_pure hQ
    | (cases u<;>first
        | exact wpAny_pure hQ
        | (refine wpAny_bind (wpAny_load ho ?_)
           rw[hc,hd]
           show wpAny M A (if (["enumerate","zip","dict_itemiterator","dict_reverseitemiterator","odict_iterator","itertools.zip_longest","itertools.pairwise"].contains n && vs[0]?==some (rawInt _))=true then _ else _) Q E s
           rw[if_neg (by intro h;rw[hn,Bool.false_and] at h;cases h)]
           exact wpAny_pure hQ))
def eJ(K:Frag)(a:Addr):It:=
 ⟨fun i H=> ∃xs x,aM K H a xs∧xs[i]?=some x,fun i H x H'=>H'=H∧ ∀xs,aM K H a xs→xs[i]?=some x,fun i H=> ∃xs,aM K H a xs∧xs.length≤i⟩
def MH(K:Frag)(a:Addr):It:=
 ⟨fun i H=> ∃xs x,bo K H a xs∧xs[i]?=some x,fun i H x H'=>H'=H∧ ∀xs,bo K H a xs→xs[i]?=some x,fun i H=> ∃xs,bo K H a xs∧xs.length≤i⟩
def iE(lo:Int)(n:Nat):It:=⟨fun i _=>i<n,fun i H x H'=>H'=H∧x= .int (lo+i),fun i _=>n≤i⟩
theorem XN{P:Program}{w:World}{K:Frag}{tg:Expr}(a it:Addr):Turn P w K tg (eJ K a) [it] it (fun i h=>h.IsListIter it a i) where
 mem:=by simp
 obj:=fun i h st b hb=>by
  have e:b=it:=by simpa using hb
  subst e
  obtain⟨o,e,c,d⟩:=st
  exact⟨o,e,fun v z=>by rw[d] at z;cases z⟩
 keep:=fun i h h' st k=>st.at fun o e=>k it (by simp) o e
 item:=by
  intro X hP hw hK hc i pins s σ H E I hf st hg
  subst hP hw hK
  obtain⟨xs,x,hq,hx⟩:=hg
  obtain⟨its,rv,p,hz⟩:=I.list hq
  obtain⟨u,hu,ru⟩:=rv.get hx
  obtain⟨f0,f1,f2,f3,f4,f5⟩:=hf it (by simp)
  refine wpAny_pyNext_list_item st p.isList (x:=u) (by simpa using hu) fun h' da sb=> ?_
  have I1:Inv X pins σ H {s with heap:=h'}:=I.turned (t':=s.toks) (fun b o hb e=> (sb.2 b hb).trans e) f0 f1 f3 f4 f5
  obtain⟨o,e,c,d⟩:=id da
  exact⟨u,rfl,uF (s:={s with heap:=h'}) e c d (by decide) ⟨x,H,I1,ru,⟨rfl,fun ys hy=>by rw[I.uC hy hq];exact hx⟩,da,fun b hb=> (hf b hb).1⟩⟩
 done:=by
  intro X hP hw hK hc i pins s σ H E I hf st hg
  subst hP hw hK
  obtain⟨xs,hq,hx⟩:=hg
  obtain⟨its,rv,p,hz⟩:=I.list hq
  obtain⟨f0,f1,f2,f3,f4,f5⟩:=hf it (by simp)
  have hl:=rv.length
  exact wpAny_pyNext_list_end (I.ok.hd hc) st p.isList (by simp;omega) fun h' eb=> ⟨rfl,I.turned (t':=s.toks) (fun b o hb e=>eb b o hb e) f0 f1 f3 f4 f5⟩
 self:=fun _ _ _ _ _ st h=>wpAny_pyIter_listiter st h
theorem XO{P:Program}{w:World}{K:Frag}{tg:Expr}(a it:Addr):Turn P w K tg (MH K a) [it] it (fun i h=>h.IsTupleIter it a i) where
 mem:=by simp
 obj:=fun i h st b hb=>by
  have e:b=it:=by simpa using hb
  subst e
  obtain⟨o,e,c,d⟩:=st
  exact⟨o,e,fun v z=>by rw[d] at z;cases z⟩
 keep:=fun i h h' st k=>st.at fun o e=>k it (by simp) o e
 item:=by
  intro X hP hw hK hc i pins s σ H E I hf st hg
  subst hP hw hK
  obtain⟨xs,x,hq,hx⟩:=hg
  obtain⟨its,rv,p,hz⟩:=I.tuple hq
  obtain⟨u,hu,ru⟩:=rv.get hx
  obtain⟨f0,f1,f2,f3,f4,f5⟩:=hf it (by simp)
  refine wpAny_pyNext_tuple_item st (show s.heap.IsTuple a its.toArray from p) (x:=u) (by simpa using hu) fun h' da sb=> ?_
  have I1:Inv X pins σ H {s with heap:=h'}:=I.turned (t':=s.toks) (fun b o hb e=> (sb.2 b hb).trans e) f0 f1 f3 f4 f5
  obtain⟨o,e,c,d⟩:=id da
  exact⟨u,rfl,uF (s:={s with heap:=h'}) e c d (by decide) ⟨x,H,I1,ru,⟨rfl,fun ys hy=>by rw[I.Xy hy hq];exact hx⟩,da,fun b hb=> (hf b hb).1⟩⟩
 done:=by
  intro X hP hw hK hc i pins s σ H E I hf st hg
  subst hP hw hK
  obtain⟨xs,hq,hx⟩:=hg
  obtain⟨its,rv,p,hz⟩:=I.tuple hq
  obtain⟨f0,f1,f2,f3,f4,f5⟩:=hf it (by simp)
  have hl:=rv.length
  exact wpAny_pyNext_tuple_end (I.ok.hd hc) st (show s.heap.IsTuple a its.toArray from p) (by simp;omega) fun h' eb=> ⟨rfl,I.turned (t':=s.toks) (fun b o hb e=>eb b o hb e) f0 f1 f3 f4 f5⟩
 self:=fun _ _ _ _ _ st h=>wpAny_pyIter_tupleiter st h
theorem XQ{P:Program}{w:World}{K:Frag}{tg:Expr}(it:Addr)(lo:Int)(n:Nat):Turn P w K tg (iE lo n) [it] it (fun i h=>IsRangeIter h it (lo+ (i:Nat)*1) ((n:Int) - (i:Nat)) 1) where
 mem:=by simp
 obj:=fun i h st b hb=>by
  have e:b=it:=by simpa using hb
  subst e
  exact⟨_,st,fun v z=>by
   have z':Data.fields _=Data.cell v:=z
   cases z'⟩
 keep:=fun i h h' st k=>k it (by simp) _ st
 item:=by
  intro X hP hw hK hc i pins s σ H E I hf st hg
  subst hP hw hK
  obtain⟨f0,f1,f2,f3,f4,f5⟩:=hf it (by simp)
  have W:=Walks.range (prog:=X.prog) (w:=X.w) (I.ok.hd hc) it lo 1 n
  refine W.item i s _ _ hg st fun v h' tk hv da kk=> ?_
  obtain⟨t,rfl⟩:=hv
  have I1:Inv X pins σ H {s with heap:=h',toks:=tk}:=I.turned (fun b o hb e=>kk b o (by simpa using hb) e) f0 f1 f3 f4 f5
  refine⟨_,rfl,uF (s:={s with heap:=h',toks:=tk}) (n:="range_iterator") da rfl rfl (by decide) ⟨.int (lo+i),H,I1,⟨t, ?_⟩,⟨rfl,rfl⟩,da,fun b hb=> (hf b hb).1⟩⟩
  rw[Int.mul_one]
 done:=by
  intro X hP hw hK hc i pins s σ H E I hf st hg
  subst hP hw hK
  obtain⟨f0,f1,f2,f3,f4,f5⟩:=hf it (by simp)
  exact wpAny_pyNext_range_end (I.ok.hd hc) st (by have:n≤i:=hg;omega) fun h' eb=> ⟨rfl,I.turned (t':=s.toks) (fun b o hb e=>eb b o hb e) f0 f1 f3 f4 f5⟩
 self:=fun _ _ _ _ _ st h=>wpAny_pyIter_rangeiter st h
section
variable {X:Cx} {tg:Expr}
def yw(K:Frag)(tl:TE):TI:=fun σ H R=>tl σ H fun x H1=> ∃a,x= .ref a∧(∃xs,aM K H1 a xs)∧R (eJ K a) H1
def yx(K:Frag)(tl:TE):TI:=fun σ H R=>tl σ H fun x H1=> ∃a,x= .ref a∧(∃xs,bo K H1 a xs)∧R (MH K a) H1
theorem XR{l:Expr}{tl:TE}(hl:PE X l tl):PI X tg l (yw X.K tl):=by
 intro pins s σ H R I h
 refine bf (hl pins s σ H _ I h) fun v s1 ⟨x,H1,I1,r1,q1⟩=> ?_
 obtain⟨a,e,⟨xs,hq⟩,q⟩:=q1
 subst e
 cases r1
 obtain⟨its,rv,p,hz⟩:=I1.list hq
 refine wpAny_pyIter_list p.isList ?_
 refine⟨s1.heap.objs.size,[s1.heap.objs.size],_,_,H1,rfl,I1.kept (t':=s1.toks) fun b o e=>Heap.get?_push_of_some _ e,XN a _,⟨_,Heap.get?_push_size _ rfl,rfl,rfl⟩,fun b hb=> ?_,q⟩
 have e:b=s1.heap.objs.size:=by simpa using hb
 subst e
 exact I1.pe (zqR _) (I1.aR.fresh (zqR _))
theorem XS{l:Expr}{tl:TE}(hl:PE X l tl):PI X tg l (yx X.K tl):=by
 intro pins s σ H R I h
 refine bf (hl pins s σ H _ I h) fun v s1 ⟨x,H1,I1,r1,q1⟩=> ?_
 obtain⟨a,e,⟨xs,hq⟩,q⟩:=q1
 subst e
 cases r1
 obtain⟨its,rv,p,hz⟩:=I1.tuple hq
 refine wpAny_pyIter_tuple (show s1.heap.IsTuple a its.toArray from p) ?_
 refine⟨s1.heap.objs.size,[s1.heap.objs.size],_,_,H1,rfl,I1.kept (t':=s1.toks) fun b o e=>Heap.get?_push_of_some _ e,XO a _,⟨_,Heap.get?_push_size _ rfl,rfl,rfl⟩,fun b hb=> ?_,q⟩
 have e:b=s1.heap.objs.size:=by simpa using hb
 subst e
 exact I1.pe (zqR _) (I1.aR.fresh (zqR _))
theorem XT{pins:List (Addr×Obj)}{σ:St}{H:Hp}{s:Shared}{R:It→Hp→Prop}{E:Value→Shared→Prop}{lo hi:Int}{t u v:Tok}{tk:Nat}(I:Inv X pins σ H s)(h1: -(2 ^ 62)≤lo)(h2:lo<2 ^ 62)(h3: -(2 ^ 62)≤hi)(h4:hi<2 ^ 62)
  (q:R (iE lo (hi - lo).toNat) H):wpAny (model X.prog X.w) X.A (pyIter (.ref s.heap.objs.size)) (MG X pins σ tg R) E {s with heap:=s.heap.push {cls:= .type "range",data:= .fields #[.int lo t, .int hi u, .int 1 v]},toks:=tk}:=by
 refine wpAny_pyIter_range (IsRange.new ..) (small_one h1 h2 h3 h4) ?_
 have I1:Inv X pins σ H {s with heap:=s.heap.push {cls:= .type "range",data:= .fields #[.int lo t, .int hi u, .int 1 v]},toks:=tk}:=I.kept fun b o e=>Heap.get?_push_of_some _ e
 refine⟨(s.heap.push {cls:= .type "range",data:= .fields #[.int lo t, .int hi u, .int 1 v]}).objs.size,[(s.heap.push {cls:= .type "range",data:= .fields #[.int lo t, .int hi u, .int 1 v]}).objs.size],_,_,H,rfl,
  I1.kept (t':=tk) fun b o e=>Heap.get?_push_of_some _ e,XQ _ lo (hi - lo).toNat, ?_,fun b hb=> ?_,q⟩
 ·have e1:lo+ ((0:Nat):Int)*1=lo:=by simp
  have e2:(((hi - lo).toNat:Nat):Int) - ((0:Nat):Int)=Builtin.Range.rangeSize lo hi 1:=by rw[rangeSize_one];split<;>omega
  show IsRangeIter _ _ (lo+ ((0:Nat):Int)*1) ((((hi - lo).toNat:Nat):Int) - ((0:Nat):Int)) 1
  rw[e1,e2]
  exact Heap.get?_push_size _ rfl
 ·have e:b=(s.heap.push {cls:= .type "range",data:= .fields #[.int lo t, .int hi u, .int 1 v]}).objs.size:=by simpa using hb
  subst e
  exact I1.pe (zqR _) (I1.aR.fresh (zqR _))
def MI(ta:TA):TI:=fun σ H R=>ta σ H fun vs H1=> ∃j:Int,vs=[.int j]∧ -(2 ^ 62)≤j∧j<2 ^ 62∧R (iE 0 j.toNat) H1
def XU(ta:TA):TI:=fun σ H R=>ta σ H fun vs H1=> ∃i j:Int,vs=[.int i, .int j]∧(-(2 ^ 62)≤i∧i<2 ^ 62∧ -(2 ^ 62)≤j∧j<2 ^ 62)∧R (iE i (j - i).toNat) H1
theorem XW{a:Expr}{ta:TA}{p pos:Pos}(hg:Gl X "range")(hm:X.mg "range"=none)(ha:PA X [a] ta)(hs:starEach [a] X.env=[(false,eval a X.env)]:=by rfl):PI X tg (.Call (.Name "range" p) [a] [] pos) (MI ta):=by
 intro pins s σ H R I h
 refine Call_ (o_ I hg hm boot_range (PyProof.Rows.callWith_type1 (bf (ha pos pins s σ H _ I h) fun us s1 ⟨vs,H1,I1,r1,q1⟩=> ?_) hs rfl))
 obtain⟨j,e,q1,q2,q⟩:=q1
 subst e
 cases r1 with
 | cons r rr=>
  cases rr
  obtain⟨t,rfl⟩:=r
  exact call_range_1 (XT I1 (by omega) (by omega) q1 q2 (by simpa using q))
def uG(wi:TI)(g:TG)(tb:TS):TS:=fun D σ H=>wi σ H fun J H1=> ∃W:Nat→Nat→St→Hp→Prop,(∃m,W 0 m σ H1)∧ ∀i m σ H,W i m σ H→
 (J.stop i H∧D.nx σ H)∨(J.go i H∧ ∃N:St→Hp→Prop,(∀σ' H',N σ' H'→ ∃m',m'<m∧W (i+1) m' σ' H')∧ ∀x H',J.e_ i H x H'→g x σ H' fun σ2 H2=>tb {D with nx:=N,ct:=N,bk:=D.nx} σ2 H2)
def pf(fp:List Addr)(h:Heap):List (Addr×Obj):=fp.filterMap fun b=> (h.get? b).map fun o=> (b,o)
theorem uH{fp:List Addr}{h:Heap}{b:Addr}{o:Obj}(hb:b∈fp)(e:h.get? b=some o):(b,o)∈pf fp h:=List.mem_filterMap.mpr ⟨b,hb,by rw[e];rfl⟩
theorem XX{fp:List Addr}{h:Heap}{p:Addr×Obj}(hp:p∈pf fp h):p.1∈fp∧h.get? p.1=some p.2:=by
 obtain⟨b,hb,e⟩:=List.mem_filterMap.mp hp
 cases q:h.get? b with
 | none=>rw[q] at e;cases e
 | some o=>
  rw[q] at e
  have e':(b,o)=p:=Option.some.inj e
  subst e'
  exact⟨hb,q⟩
theorem Inv.pinned{pins:List (Addr×Obj)}{σ:St}{H:Hp}{s:Shared}{fp:List Addr}(I:Inv X pins σ H s)(hf: ∀b∈fp,fS X pins H b)(ho: ∀b∈fp,∃o,s.heap.get? b=some o∧ ∀v,o.data≠ .cell v):Inv X (pins++pf fp s.heap) σ H s:=
 I.o9 fun p hp=> (List.mem_append.mp hp).elim (fun z=>I.pin p (List.mem_append_right _ z)) fun z=>by
  obtain⟨hb,e⟩:=XX z
  obtain⟨f0,f1,f2,_⟩:=hf p.1 hb
  obtain⟨o,e',d⟩:=ho p.1 hb
  rw[e] at e';cases e'
  exact⟨e,f0,f1,f2,d⟩
theorem Inv.yy{pins pl:List (Addr×Obj)}{σ:St}{H:Hp}{s:Shared}(I:Inv X (pins++pl) σ H s):Inv X pins σ H s:=I.o9 fun p hp=>I.pin p (List.mem_append_right _ (List.mem_append_left _ hp))
theorem MJ{iter:Expr}{body:List Stmt}{wi:TI}{g:TG}{tb:TS}{pos:Pos}(hp:PassesOwn (model X.prog X.w) X.A X.env X.xe)(hc:X.calm=true)(hi:PI X tg iter wi)(hg:PG X tg g)(hb:aY X body tb)
  (hs: ∀x,foldedSetIterable iter X.env x=pure x:=by intro _;rfl):PS X (.For tg iter body [] pos) (uG wi g tb):=by
 intro pins s σ H D I h
 refine wpAny_For (bf (hi pins s σ H _ I h) fun v s1 h1=>bf h1 fun lB s2 h2=> ?_) hs
 obtain⟨it,fp,tn,J,H2,e,I2,T,qK,f2,W,⟨m0,w0⟩,turn⟩:=h2
 subst e
 have lE: ∀{H':Hp},(∀b∈fp,H' b=none)→ ∀b∈fp,fS X pins H' b:=fun hn b hb=> ⟨hn b hb,(f2 b hb).2⟩
 refine codeAny_forLoop_any (fun n s'=> ∃i σ' H',Inv X pins σ' H' s'∧tn i s'.heap∧(∀b∈fp,H' b=none)∧W i n σ' H') ?_ m0 ⟨0,σ,H2,I2,qK,fun b hb=> (f2 b hb).1,w0⟩
 rintro n s3 ⟨i,σ3,H3,I3,MK,ML,w3⟩
 rcases turn i n σ3 H3 w3 with⟨stop,qn⟩ | ⟨go,N,hN,step⟩
 ·refine wpAny_passesOwn hp (bf (T.done X rfl rfl rfl hc i pins s3 σ3 H3 X.xe I3 (lE ML) MK stop) fun r s4 ⟨hr,I4⟩=> ?_)
  subst hr
  exact wpAny_execs_nil ⟨σ3,H3,I4,qn⟩
 ·refine wpAny_passesOwn hp (bf (T.item X rfl rfl rfl hc i pins s3 σ3 H3 X.xe I3 (lE ML) MK go) fun r s4 ⟨u,hr,h4⟩=> ?_)
  subst hr
  refine wpAny_passesOwn hp (bf h4 fun _ s5 ⟨x,H5,I5,r5,y5,lG,yz⟩=> ?_)
  have yA:=I5.pinned (lE yz) (T.obj _ _ lG)
  refine wpAny_passesOwn hp (bf (hg _ s5 σ3 H5 x u _ yA r5 (step x H5 y5)) fun _ s6 ⟨σ6,H6,I6,q6⟩=> ?_)
  refine wpAny_passesOwn hp (bf (hb _ s6 σ6 H6 _ I6 q6) fun f s7 q7=> ?_)
  have again: ∀{σ7:St} {H7:Hp},Inv X (pins++pf fp s5.heap) σ7 H7 s7→N σ7 H7→ ∃m,m<n∧ ∃i σ' H',Inv X pins σ' H' s7∧tn i s7.heap∧(∀b∈fp,H' b=none)∧W i m σ' H':=fun {σ7 H7} I7 n7=>by
   obtain⟨m',hm,w7⟩:=hN σ7 H7 n7
   refine⟨m',hm,i+1,σ7,H7,I7.yy,T.keep _ _ _ lG fun b hb o e=> (I7.pin (b,o) (List.mem_append_right _ (List.mem_append_right _ (uH hb e)))).1,fun b hb=> ?_,w7⟩
   obtain⟨o,e,d⟩:=T.obj _ _ lG b hb
   exact(I7.pin (b,o) (List.mem_append_right _ (List.mem_append_right _ (uH hb e)))).2.1
  cases f with
  | next=>obtain⟨σ7,H7,I7,n7⟩:=q7;exact again I7 n7
  | cont=>obtain⟨σ7,H7,I7,n7⟩:=q7;exact again I7 n7
  | brk=>obtain⟨σ7,H7,I7,q7⟩:=q7;exact⟨σ7,H7,I7.yy,q7⟩
  | ret v=>obtain⟨x7,σ7,H7,I7,r7,q7⟩:=q7;exact⟨x7,σ7,H7,I7.yy,r7,q7⟩
end
theorem qL{K:Frag}{a:Addr}{xs:List V}{g:TG}{tb:TS}{D:Ends}{σ:St}{H:Hp}(Pv:Nat→St→Hp→Prop)(h0:Pv 0 σ H)(hl: ∀i σ H,i≤xs.length→Pv i σ H→aM K H a xs)
  (hs: ∀i x σ H,xs[i]?=some x→Pv i σ H→g x σ H fun σ2 H2=>tb {D with nx:=Pv (i+1),ct:=Pv (i+1),bk:=D.nx} σ2 H2) (hd: ∀σ H,Pv xs.length σ H→D.nx σ H):
  ∃W:Nat→Nat→St→Hp→Prop,(∃m,W 0 m σ H)∧ ∀i m σ H,W i m σ H→
   ((eJ K a).stop i H∧D.nx σ H)∨((eJ K a).go i H∧ ∃N:St→Hp→Prop,(∀σ' H',N σ' H'→ ∃m',m'<m∧W (i+1) m' σ' H')∧ ∀x H',(eJ K a).e_ i H x H'→g x σ H' fun σ2 H2=>tb {D with nx:=N,ct:=N,bk:=D.nx} σ2 H2):=by
 refine⟨fun i m σ H=>m=xs.length - i∧i≤xs.length∧Pv i σ H,⟨xs.length,by simp,zqZ _,h0⟩, ?_⟩
 rintro i m σ H ⟨rfl,hi,p⟩
 have q:=hl i σ H hi p
 by_cases bC:i<xs.length
 ·refine .inr ⟨⟨xs,xs[i],q,by simp[bC]⟩,Pv (i+1),fun σ' H' p'=> ⟨xs.length - (i+1),by omega,rfl,bC,p'⟩,fun x H' y=> ?_⟩
  obtain⟨e,y⟩:=y
  subst e
  exact hs i x σ _ (y xs q) p
 ·have e:i=xs.length:=by omega
  subst e
  exact .inl ⟨⟨xs,q,zqR _⟩,hd σ H p⟩
theorem yB{lo:Int}{n:Nat}{g:TG}{tb:TS}{D:Ends}{σ:St}{H:Hp}(Pv:Nat→St→Hp→Prop)(h0:Pv 0 σ H)
  (hs: ∀i σ H,i<n→Pv i σ H→g (.int (lo+i)) σ H fun σ2 H2=>tb {D with nx:=Pv (i+1),ct:=Pv (i+1),bk:=D.nx} σ2 H2) (hd: ∀σ H,Pv n σ H→D.nx σ H):
  ∃W:Nat→Nat→St→Hp→Prop,(∃m,W 0 m σ H)∧ ∀i m σ H,W i m σ H→
   ((iE lo n).stop i H∧D.nx σ H)∨((iE lo n).go i H∧ ∃N:St→Hp→Prop,(∀σ' H',N σ' H'→ ∃m',m'<m∧W (i+1) m' σ' H')∧ ∀x H',(iE lo n).e_ i H x H'→g x σ H' fun σ2 H2=>tb {D with nx:=N,ct:=N,bk:=D.nx} σ2 H2):=by
 refine⟨fun i m σ H=>m=n - i∧i≤n∧Pv i σ H,⟨n,by simp,zqZ _,h0⟩, ?_⟩
 rintro i m σ H ⟨rfl,hi,p⟩
 by_cases bC:i<n
 ·refine .inr ⟨bC,Pv (i+1),fun σ' H' p'=> ⟨n - (i+1),by omega,rfl,bC,p'⟩,fun x H' y=> ?_⟩
  obtain⟨e,y⟩:=y
  subst e y
  exact hs i σ _ bC p
 ·have e:i=n:=by omega
  subst e
  exact .inl ⟨zqR _,hd σ H p⟩
abbrev R2:=V→V→Hp→VK→Prop
def bI(X:Cx)(f:Value→Value→Sem Value)(r:R2):Prop:=
 ∀(pins:List (Addr×Obj)) (s:Shared) (σ:St) (H:Hp) (x y:V) (v u:Value) (Q:VK),Inv X pins σ H s→RelV x v→RelV y u→r x y H Q→
  wpAny (model X.prog X.w) X.A (f v u) (EP X pins σ Q) X.xe s
def uI(X:Cx)(f:Value→Sem Value)(r:V→Hp→VK→Prop):Prop:=
 ∀(pins:List (Addr×Obj)) (s:Shared) (σ:St) (H:Hp) (x:V) (v:Value) (Q:VK),Inv X pins σ H s→RelV x v→r x H Q→
  wpAny (model X.prog X.w) X.A (f v) (EP X pins σ Q) X.xe s
def b9(X:Cx)(f:Value)(r:List V→Hp→VK→Prop):Prop:=
 ∀(pins:List (Addr×Obj)) (s:Shared) (σ:St) (H:Hp) (xs:List V) (us:List Value) (Q:VK),Inv X pins σ H s→Vals xs us→r xs H Q→
  wpAny (model X.prog X.w) X.A (call f us) (EP X pins σ Q) X.xe s
def XY(X:Cx)(r:V→Hp→(Bool→Hp→Prop)→Prop):Prop:=
 ∀(pins:List (Addr×Obj)) (s:Shared) (σ:St) (H:Hp) (x:V) (v:Value) (Q:Bool→Hp→Prop),Inv X pins σ H s→RelV x v→r x H Q→
  wpAny (model X.prog X.w) X.A (truthy v) (TP X pins σ Q) X.xe s
def dN(r:R2)(ta tb:TE):TE:=fun σ H Q=>ta σ H fun x H1=>tb σ H1 fun y H2=>r x y H2 Q
def MM(r:V→Hp→VK→Prop)(ta:TE):TE:=fun σ H Q=>ta σ H fun x H1=>r x H1 Q
def rI(C:Int→Int→Prop)(g:Int→Int→V):R2:=fun x y H Q=> ∃i j,x= .int i∧y= .int j∧C i j∧Q (g i j) H
def jd(g:Int→Int→V):R2:=fun x y H Q=> ∃i j,x= .int i∧y= .int j∧Q (g i j) H
def rU(g:Int→V):V→Hp→VK→Prop:=fun x H Q=> ∃i,x= .int i∧Q (g i) H
section
variable {X:Cx} {a b c:Expr} {ta tb tc:TE} {pos:Pos}
theorem yC(ha:PE X a ta)(hb:PE X b tb){pins:List (Addr×Obj)}{s:Shared}{σ:St}{H:Hp}{R:V→V→Hp→Prop}(I:Inv X pins σ H s)
  (h:ta σ H fun x H1=>tb σ H1 fun y H2=>R x y H2) {Q:Value→Shared→Prop} {f:Value→Value→Sem Value}
  (hf: ∀v u s2 x y H2,Inv X pins σ H2 s2→RelV x v→RelV y u→R x y H2→wpAny (model X.prog X.w) X.A (f v u) Q X.xe s2):
  wpAny (model X.prog X.w) X.A (eval a X.env) (fun v s₁=>wpAny (model X.prog X.w) X.A (eval b X.env) (fun u s₂=>wpAny (model X.prog X.w) X.A (f v u) Q X.xe s₂) X.xe s₁) X.xe s:=by
 refine bf (ha pins s σ H _ I h) fun v s1 ⟨x,H1,I1,r1,q1⟩=> ?_
 refine bf (hb pins s1 σ H1 _ I1 q1) fun u s2 ⟨y,H2,I2,r2,q2⟩=> ?_
 exact hf v u s2 x y H2 I2 r1 r2 q2
theorem XZ{op:Operator}{r:R2}(ho:bI X (binaryOp op) r)(ha:PE X a ta)(hb:PE X b tb):PE X (.BinOp a op b pos) (dN r ta tb):=by
 intro pins s σ H Q I h
 exact wpAny_BinOp (yC ha hb I h fun v u s2 x y H2 I2 rx ry q=>ho pins s2 σ H2 x y v u Q I2 rx ry q)
theorem X0{op:UnaryOp}{r:V→Hp→VK→Prop}(ho:uI X (unaryOp op) r)(ha:PE X a ta):PE X (.UnaryOp op a pos) (MM r ta):=by
 intro pins s σ H Q I h
 exact UnaryOp_ (bf (ha pins s σ H _ I h) fun v s1 ⟨x,H1,I1,r1,q1⟩=>ho pins s1 σ H1 x v Q I1 r1 q1)
theorem uJ{f:Value→Value→Sem Value}{C:Int→Int→Prop}{g:Int→Int→Int}
  (rule: ∀(i j:Int) (t u:Tok) (s:Shared) (Q:Value→Shared→Prop) (E:Value→Shared→Prop),C i j→Q (.int (g i j) s.toks) {s with toks:=s.toks+1}→wpAny (model X.prog X.w) X.A (f (.int i t) (.int j u)) Q E s):
  bI X f (rI C fun i j=> .int (g i j)):=by
 intro pins s σ H x y v u Q I rx ry h
 obtain⟨i,j,rfl,rfl,hc,q⟩:=h
 obtain⟨t,rfl⟩:=rx
 obtain⟨t',rfl⟩:=ry
 exact rule i j t t' s _ _ hc ⟨.int (g i j),H,I.tok _,⟨_,rfl⟩,q⟩
theorem MN{f:Value→Value→Sem Value}{g:Int→Int→Int}
  (rule: ∀(i j:Int) (t u:Tok) (s:Shared) (Q:Value→Shared→Prop) (E:Value→Shared→Prop),Q (.int (g i j) s.toks) {s with toks:=s.toks+1}→wpAny (model X.prog X.w) X.A (f (.int i t) (.int j u)) Q E s):
  bI X f (jd fun i j=> .int (g i j)):=by
 intro pins s σ H x y v u Q I rx ry h
 obtain⟨i,j,rfl,rfl,q⟩:=h
 obtain⟨t,rfl⟩:=rx
 obtain⟨t',rfl⟩:=ry
 exact rule i j t t' s _ _ ⟨.int (g i j),H,I.tok _,⟨_,rfl⟩,q⟩
theorem uK{f:Value→Value→Sem Value}{g:Int→Int→Bool}
  (rule: ∀(i j:Int) (t u:Tok) (s:Shared) (Q:Value→Shared→Prop) (E:Value→Shared→Prop),Q (.bool (g i j)) s→wpAny (model X.prog X.w) X.A (f (.int i t) (.int j u)) Q E s):
  bI X f (jd fun i j=> .bl (g i j)):=by
 intro pins s σ H x y v u Q I rx ry h
 obtain⟨i,j,rfl,rfl,q⟩:=h
 obtain⟨t,rfl⟩:=rx
 obtain⟨t',rfl⟩:=ry
 exact rule i j t t' s _ _ ⟨.bl (g i j),H,I,rfl,q⟩
def yD(i j:Int):Prop:=0<j∧j<1073741824
def MO(i j:Int):Prop:=0≤j∧j≤1000000∧i.natAbs<2 ^ 64
def uL(i j:Int):Prop:=(-(2 ^ 64) <i∧i<2 ^ 64)∨(-(2 ^ 64) <j∧j<2 ^ 64)
theorem uL.ok{i j:Int}(h:uL i j):IntMulOk i j:=by
 rcases h with⟨h1,h2⟩ | ⟨h1,h2⟩
 ·exact .of_left (intBits_le_64 h1 h2)
 ·exact .of_right (intBits_le_64 h1 h2)
theorem X1:bI X (binaryOp .Add) (jd fun i j=> .int (i+j)):=MN fun _ _ _ _ _ _ _ q=>add_int q
theorem X3:bI X (binaryOp .Sub) (jd fun i j=> .int (i - j)):=MN fun _ _ _ _ _ _ _ q=>sub_int q
theorem X4:bI X (binaryOp .Mult) (rI uL fun i j=> .int (i*j)):=uJ fun _ _ _ _ _ _ _ hc q=>mul_int q hc.ok
theorem X5:bI X (binaryOp .FloorDiv) (rI yD fun i j=> .int (i / j)):=uJ fun i j _ _ _ _ _ hc q=>by
 have h1:(0:Int) <j:=hc.1
 have h2:j<1073741824:=hc.2
 exact floordiv_int (by omega) (by rw[Int.fdiv_eq_ediv_of_nonneg i (by omega)];exact q) (.inl (PyProof.noPylong_small (by omega)))
theorem X6:bI X (binaryOp .Mod) (rI (fun _ j=>0<j) fun i j=> .int (i % j)):=uJ fun i j _ _ _ _ _ hc q=>by
 have h1:(0:Int) <j:=hc
 exact mod_int' (by omega) (by rw[Int.fmod_eq_emod_of_nonneg i (by omega)];exact q)
theorem X7:bI X (binaryOp .Pow) (rI MO fun i j=> .int (i ^ j.toNat)):=uJ fun _ _ _ _ _ _ _ hc q=>pow_int_small hc.1 hc.2.1 hc.2.2 q
theorem X8{f:Value→Sem Value}{g:Int→Int}
  (rule: ∀(i:Int) (t:Tok) (s:Shared) (Q:Value→Shared→Prop) (E:Value→Shared→Prop),Q (.int (g i) s.toks) {s with toks:=s.toks+1}→wpAny (model X.prog X.w) X.A (f (.int i t)) Q E s):
  uI X f (rU fun i=> .int (g i)):=by
 intro pins s σ H x v Q I rx h
 obtain⟨i,rfl,q⟩:=h
 obtain⟨t,rfl⟩:=rx
 exact rule i t s _ _ ⟨.int (g i),H,I.tok _,⟨_,rfl⟩,q⟩
theorem X9:uI X (unaryOp .USub) (rU fun i=> .int (-i)):=X8 fun _ _ _ _ _ q=>neg_int q
end
def lH:V→V→Bool
 | .az, .az=>true | .az, .int _=>true | .int _, .az=>true | .az, .bl _=>true | .bl _, .az=>true | .az, .str _=>true | .str _, .az=>true
 | .int _, .int _=>true | .bl _, .bl _=>true | .str _, .str _=>true | .eF _, .eF _=>true
 | .int _, .str _=>true | .str _, .int _=>true | .bl _, .str _=>true | .str _, .bl _=>true
 | _,_=>false
def X_:R2:=fun x y H Q=>lH x y=true∧Q (.bl (decide (x=y))) H
def Ya:R2:=fun x y H Q=>lH x y=true∧Q (.bl (!decide (x=y))) H
theorem MP{i j:Int}:decide (V.int i=V.int j)=(i==j):=by
 rw[Bool.eq_iff_iff]
 simp
theorem MQ{i j:Bool}:decide (V.bl i=V.bl j)=(i==j):=by
 rw[Bool.eq_iff_iff]
 simp
theorem gX{i j:Str}:decide (V.str i=V.str j)=(i==j):=by
 rw[Bool.eq_iff_iff]
 simp
theorem MR{i j:Array UInt8}:decide (V.eF i=V.eF j)=(i.toList==j.toList):=by
 rw[Bool.eq_iff_iff]
 cases i
 cases j
 simp
section
variable {X:Cx} {a b c:Expr} {ta tb tc:TE} {pos:Pos}
theorem bY{pins:List (Addr×Obj)}{σ:St}{H:Hp}{s:Shared}{Q:VK}{k k':Bool}(I:Inv X pins σ H s)(q:Q (.bl k) H)(e:k=k'):EP X pins σ Q (.bool k') s:=by
 subst e
 exact⟨.bl k,H,I,rfl,q⟩
theorem Yb:bI X (compareOp .Eq) X_:=by
 intro pins s σ H x y v u Q I rx ry h
 obtain⟨hs,q⟩:=h
 cases x with
 | az=>
  cases rx
  cases y with
  | az=>cases ry;exact PySem.EqNone.eq_none_none (bY I q (by simp))
  | bl j=>cases ry;exact PySem.EqNone.eq_none_bool (bY I q (by simp))
  | int j=>obtain⟨t',rfl⟩:=ry;exact PySem.EqNone.eq_none_int (bY I q (by simp))
  | str j=>obtain⟨t',rfl⟩:=ry;exact PySem.EqNone.eq_none_str (bY I q (by simp))
  | _=>exact absurd (show false=true from hs) Bool.false_ne_true
 | bl i=>
  cases rx
  cases y with
  | az=>cases ry;exact PySem.EqNone.eq_bool_none (bY I q (by simp))
  | bl j=>cases ry;exact eq_bool (bY I q MQ)
  | str j=>obtain⟨t',rfl⟩:=ry;exact PySem.EqMixed.eq_bool_str (bY I q (by simp))
  | _=>exact absurd (show false=true from hs) Bool.false_ne_true
 | int i=>
  obtain⟨t,rfl⟩:=rx
  cases y with
  | az=>cases ry;exact PySem.EqNone.eq_int_none (bY I q (by simp))
  | int j=>obtain⟨t',rfl⟩:=ry;exact eq_int (bY I q MP)
  | str j=>obtain⟨t',rfl⟩:=ry;exact PySem.EqMixed.eq_int_str (bY I q (by simp))
  | _=>exact absurd (show false=true from hs) Bool.false_ne_true
 | str i=>
  obtain⟨t,rfl⟩:=rx
  cases y with
  | az=>cases ry;exact PySem.EqNone.eq_str_none (bY I q (by simp))
  | bl j=>cases ry;exact PySem.EqMixed.eq_str_bool (bY I q (by simp))
  | int j=>obtain⟨t',rfl⟩:=ry;exact PySem.EqMixed.eq_str_int (bY I q (by simp))
  | str j=>obtain⟨t',rfl⟩:=ry;exact eq_str (bY I q gX)
  | _=>exact absurd (show false=true from hs) Bool.false_ne_true
 | eF i=>
  obtain⟨t,rfl⟩:=rx
  cases y with
  | eF j=>obtain⟨t',rfl⟩:=ry;exact PySem.W.eq_bytes (bY I q MR)
  | _=>exact absurd (show false=true from hs) Bool.false_ne_true
 | _=>cases y<;>exact absurd (show false=true from hs) Bool.false_ne_true
theorem Yc:bI X (compareOp .NotEq) Ya:=by
 intro pins s σ H x y v u Q I rx ry h
 obtain⟨hs,q⟩:=h
 cases x with
 | az=>
  cases rx
  cases y with
  | az=>cases ry;exact PySem.EqNone.ne_none_none (bY I q (by simp))
  | bl j=>cases ry;exact PySem.EqNone.ne_none_bool (bY I q (by simp))
  | int j=>obtain⟨t',rfl⟩:=ry;exact PySem.EqNone.ne_none_int (bY I q (by simp))
  | str j=>obtain⟨t',rfl⟩:=ry;exact PySem.EqNone.ne_none_str (bY I q (by simp))
  | _=>exact absurd (show false=true from hs) Bool.false_ne_true
 | bl i=>
  cases rx
  cases y with
  | az=>cases ry;exact PySem.EqNone.ne_bool_none (bY I q (by simp))
  | bl j=>cases ry;exact ne_bool (bY I q (congrArg not MQ))
  | str j=>obtain⟨t',rfl⟩:=ry;exact PySem.EqMixed.ne_bool_str (bY I q (by simp))
  | _=>exact absurd (show false=true from hs) Bool.false_ne_true
 | int i=>
  obtain⟨t,rfl⟩:=rx
  cases y with
  | az=>cases ry;exact PySem.EqNone.ne_int_none (bY I q (by simp))
  | int j=>obtain⟨t',rfl⟩:=ry;exact ne_int (bY I q (congrArg not MP))
  | str j=>obtain⟨t',rfl⟩:=ry;exact PySem.EqMixed.ne_int_str (bY I q (by simp))
  | _=>exact absurd (show false=true from hs) Bool.false_ne_true
 | str i=>
  obtain⟨t,rfl⟩:=rx
  cases y with
  | az=>cases ry;exact PySem.EqNone.ne_str_none (bY I q (by simp))
  | bl j=>cases ry;exact PySem.EqMixed.ne_str_bool (bY I q (by simp))
  | int j=>obtain⟨t',rfl⟩:=ry;exact PySem.EqMixed.ne_str_int (bY I q (by simp))
  | str j=>obtain⟨t',rfl⟩:=ry;exact ne_str (bY I q (congrArg not gX))
  | _=>exact absurd (show false=true from hs) Bool.false_ne_true
 | eF i=>
  obtain⟨t,rfl⟩:=rx
  cases y with
  | eF j=>obtain⟨t',rfl⟩:=ry;exact PySem.W.ne_bytes (bY I q (congrArg not MR))
  | _=>exact absurd (show false=true from hs) Bool.false_ne_true
 | _=>cases y<;>exact absurd (show false=true from hs) Bool.false_ne_true
theorem Yd:bI X (compareOp .Lt) (jd fun i j=> .bl (decide (i<j))):=uK fun _ _ _ _ _ _ _ q=>lt_int q
theorem Ye:bI X (compareOp .LtE) (jd fun i j=> .bl (decide (i≤j))):=uK fun _ _ _ _ _ _ _ q=>le_int q
theorem Yf:bI X (compareOp .Gt) (jd fun i j=> .bl (decide (j<i))):=uK fun _ _ _ _ _ _ _ q=>gt_int q
theorem Yg:bI X (compareOp .GtE) (jd fun i j=> .bl (decide (j≤i))):=uK fun _ _ _ _ _ _ _ q=>ge_int q
theorem Yh:bI X (compareOp .In) (fun x y H Q=> ∃i j,x= .str i∧y= .str j∧Q (.bl (!(Builtin.Str.occurrences j i 0 j.length 1).isEmpty)) H):=by
 intro pins s σ H x y v u Q I rx ry h
 obtain⟨i,j,rfl,rfl,q⟩:=h
 obtain⟨t,rfl⟩:=rx
 obtain⟨t',rfl⟩:=ry
 exact in_str (bY I q rfl)
theorem Yi:bI X (compareOp .Is) (fun x y H Q=>y= .az∧Q (.bl (decide (x= .az))) H):=by
 intro pins s σ H x y v u Q I rx ry h
 obtain⟨rfl,q⟩:=h
 cases ry
 refine is_none_gen (bY I q ?_)
 cases x<;>first
  | (cases rx;rfl)
  | (obtain⟨t,rfl⟩:=rx;rfl)
theorem Yj:bI X (compareOp .IsNot) (fun x y H Q=>y= .az∧Q (.bl (!decide (x= .az))) H):=by
 intro pins s σ H x y v u Q I rx ry h
 obtain⟨rfl,q⟩:=h
 cases ry
 refine isnot_none_gen (bY I q ?_)
 cases x<;>first
  | (cases rx;rfl)
  | (obtain⟨t,rfl⟩:=rx;rfl)
theorem Yk:bI X (compareOp .NotIn) (fun x y H Q=> ∃i j,x= .str i∧y= .str j∧Q (.bl (!(!(Builtin.Str.occurrences j i 0 j.length 1).isEmpty))) H):=by
 intro pins s σ H x y v u Q I rx ry h
 obtain⟨i,j,rfl,rfl,q⟩:=h
 obtain⟨t,rfl⟩:=rx
 obtain⟨t',rfl⟩:=ry
 exact notIn_str (bY I q rfl)
theorem bI.or{f:Value→Value→Sem Value}{r r':R2}(h:bI X f r)(h':bI X f r'):bI X f (fun x y H Q=>r x y H Q∨r' x y H Q):=by
 intro pins s σ H x y v u Q I rx ry q
 rcases q with q | q
 ·exact h pins s σ H x y v u Q I rx ry q
 ·exact h' pins s σ H x y v u Q I rx ry q
theorem Yl{op:CmpOp}{r:R2}(ho:bI X (compareOp op) r)(ha:PE X a ta)(hb:PE X b tb)(hm:behindInMarks op b=false):PE X (.Compare a [op] [b] pos) (dN r ta tb):=by
 intro pins s σ H Q I h
 exact wpAny_Compare1 (yC ha hb I h fun v u s2 x y H2 I2 rx ry q=>ho pins s2 σ H2 x y v u Q I2 rx ry q) hm
def jX(t:TE):TT:=fun σ H Q=>t σ H fun x H'=> ∃k,x= .bl k∧Q k H'
theorem Ym{op:CmpOp}{r:R2}(ho:bI X (compareOp op) r)(ha:PE X a ta)(hb:PE X b tb)(hm:behindInMarks op b=false):PT X (.Compare a [op] [b] pos) (jX (dN r ta tb)):=by
 intro pins s σ H Q I h
 refine wpAny_isTrue_Compare1 (bf (ha pins s σ H _ I h) fun v s1 ⟨x,H1,I1,r1,q1⟩=>bf (hb pins s1 σ H1 _ I1 q1) fun u s2 ⟨y,H2,I2,r2,q2⟩=>
  bf (ho pins s2 σ H2 x y v u _ I2 r1 r2 q2) fun c s3 ⟨z,H3,I3,r3,k,e,q3⟩=> ?_) hm
 subst e
 cases r3
 exact wpAny_truthy_bool ⟨H3,I3,q3⟩
def ph(r r':R2)(ta tb tc:TE):TE:=fun σ H Q=>ta σ H fun x H1=>tb σ H1 fun y H2=>r x y H2 fun z H3=> ∃k,z= .bl k∧
 (if k=true then tc σ H3 fun w' H4=>r' y w' H4 Q else Q (.bl false) H3)
theorem Yn{op ck:CmpOp}{r r':R2}(ho:bI X (compareOp op) r)(eG:bI X (compareOp ck) r')(ha:PE X a ta)(hb:PE X b tb)(hc:PE X c tc)
  (hm:lastMarks [op,ck] [b,c]=false:=by with_unfolding_all rfl):PE X (.Compare a [op,ck] [b,c] pos) (ph r r' ta tb tc):=by
 intro pins s σ H Q I h
 refine Compare_chain (bf (ha pins s σ H _ I h) fun v s1 ⟨x,H1,I1,r1,q1⟩=>chain_link (bf (hb pins s1 σ H1 _ I1 q1) fun u s2 ⟨y,H2,I2,r2,q2⟩=>
  bf (ho pins s2 σ H2 x y v u _ I2 r1 r2 q2) fun d s3 ⟨z,H3,I3,r3,k,e,q3⟩=> ?_)) hm
 subst e
 cases r3
 refine wpAny_truthy_bool ?_
 cases k with
 | false=>exact ite_ff ⟨.bl false,H3,I3,rfl,q3⟩
 | true=>exact ite_tt (chain_last (bf (hc pins s3 σ H3 _ I3 q3) fun w' s4 ⟨z',H4,I4,r4,q4⟩=>eG pins s4 σ H4 y z' u w' Q I4 r2 r4 q4))
theorem Yo{op ck:CmpOp}{r r':R2}(ho:bI X (compareOp op) r)(eG:bI X (compareOp ck) r')(ha:PE X a ta)(hb:PE X b tb)(hc:PE X c tc)
  (hm:lastMarks [op,ck] [b,c]=false:=by with_unfolding_all rfl):PT X (.Compare a [op,ck] [b,c] pos) (jX (ph r r' ta tb tc)):=by
 intro pins s σ H Q I h
 refine isTrue_chain (bf (ha pins s σ H _ I h) fun v s1 ⟨x,H1,I1,r1,q1⟩=>test_link (bf (hb pins s1 σ H1 _ I1 q1) fun u s2 ⟨y,H2,I2,r2,q2⟩=>
  bf (ho pins s2 σ H2 x y v u _ I2 r1 r2 q2) fun d s3 ⟨z,H3,I3,r3,k,e,q3⟩=> ?_)) hm
 subst e
 cases r3
 refine wpAny_truthy_bool ?_
 cases k with
 | false=>
  obtain⟨k',e',q'⟩:=q3
  cases e'
  exact ite_ff ⟨H3,I3,q'⟩
 | true=>
  refine ite_tt (test_last (bf (hc pins s3 σ H3 _ I3 q3) fun w' s4 ⟨z',H4,I4,r4,q4⟩=>bf (eG pins s4 σ H4 y z' u w' _ I4 r2 r4 q4) fun d' s5 ⟨z2,H5,I5,r5,k2,e2,q5⟩=> ?_))
  subst e2
  cases r5
  exact wpAny_truthy_bool ⟨H5,I5,q5⟩
def MS(K:Frag)(x:V)(H:Hp)(k:Bool):Prop:=
 match x with
 | .az=>k=false
 | .bl b=>k=b
 | .int i=>k=(i !=0)
 | .str y=>y.length≤sizeLine∧k=((y.length:Int) !=0)
 | .eF y=>y.size≤sizeLine∧k=((y.size:Int) !=0)
 | .ref p=> (∃xs,aM K H p xs∧k= !xs.isEmpty)∨(∃xs,bo K H p xs∧k= !xs.isEmpty)∨ ∃aZ,H p=some (.dK aZ)∧k= !aZ.isEmpty
 | _=>False
theorem Yp{κ:Type}{aZ:List (κ×V)}{vs:List (κ×Value)}(r:KV aZ vs):(!vs.isEmpty)= !aZ.isEmpty:=by
 cases r<;>rfl
theorem MT{xs:List V}{its:List Value}(r:Vals xs its):(!its.toArray.isEmpty)= !xs.isEmpty:=by
 cases r<;>simp
theorem jY:(sizeLine:Nat) <2 ^ 63:=by rw[sizeLine_eq];decide
theorem MU:XY X (fun x H Q=> ∃k,MS X.K x H k∧Q k H):=by
 intro pins s σ H x v Q I rx h
 obtain⟨k,e,q⟩:=h
 have hl:=jY
 have hs:sizeLine=16777216:=sizeLine_eq
 cases x with
 | az=>
  cases rx
  have e':k=false:=e
  subst e'
  exact truthy_none ⟨H,I,q⟩
 | bl b=>
  cases rx
  have e':k=b:=e
  subst e'
  exact wpAny_truthy_bool ⟨H,I,q⟩
 | int i=>
  obtain⟨t,rfl⟩:=rx
  have e':k=(i !=0):=e
  subst e'
  exact PySem.P.truthy_int ⟨H,I,q⟩
 | str y=>
  obtain⟨t,rfl⟩:=rx
  obtain⟨hy,e'⟩:y.length≤sizeLine∧k=((y.length:Int) !=0):=e
  subst e'
  exact PySem.P.truthy_str (by omega) ⟨H,I.tok _,q⟩
 | eF y=>
  obtain⟨t,rfl⟩:=rx
  obtain⟨hy,e'⟩:y.size≤sizeLine∧k=((y.size:Int) !=0):=e
  subst e'
  exact PySem.W.truthy_bytes (by omega) ⟨H,I.tok _,q⟩
 | ref p=>
  cases rx
  have e':(∃xs,aM X.K H p xs∧k= !xs.isEmpty)∨(∃xs,bo X.K H p xs∧k= !xs.isEmpty)∨ ∃aZ,H p=some (.dK aZ)∧k= !aZ.isEmpty:=e
  rcases e' with⟨xs,hx,e'⟩ | ⟨xs,hx,e'⟩ | ⟨aZ,hx,e'⟩
  ·subst e'
   obtain⟨its,r,pl,hz⟩:=I.list hx
   have hlen:=r.length
   exact wpAny_truthy_list pl.isList (by simp only[List.size_toArray];omega) ⟨H,I.tok _,by rw[MT r];exact q⟩
  ·subst e'
   obtain⟨its,r,pl,hz⟩:=I.tuple hx
   have hlen:=r.length
   exact truthy_tuple pl (by simp only[List.size_toArray];omega) ⟨H,I.tok _,by rw[MT r];exact q⟩
  ·subst e'
   obtain⟨hz,hS,vs,r,m⟩:aZ.length≤sizeLine∧(p==sysModules)=false∧ ∃vs,KV aZ vs∧s.heap.DictOf (iz X.prog X.w) p vs:=I.aR p _ hx
   have hlen:aZ.length=vs.length:=Paired.length r
   exact wpAny_truthy_dict hS m (by omega) ⟨H,I.tok _,by rw[Yp r];exact q⟩
 | _=>exact(show False from e).elim
theorem Yq:bI X (binaryOp .Add) (fun x y H Q=> ∃i j,x= .str i∧y= .str j∧i.length+j.length≤sizeLine∧Q (.str (i++j)) H):=by
 intro pins s σ H x y v u Q I rx ry h
 obtain⟨i,j,rfl,rfl,hz,q⟩:=h
 obtain⟨t,rfl⟩:=rx
 obtain⟨t',rfl⟩:=ry
 exact add_str (fun t' tk=> ⟨.str (i++j),H,I.tok _,⟨_,rfl⟩,q⟩) hz
theorem vals1{x:V}{us:List Value}(r:Vals [x] us): ∃u,us=[u]∧RelV x u:=by
 cases r with
 | cons r1 r2=>cases r2;exact⟨_,rfl,r1⟩
theorem vals2{x y:V}{us:List Value}(r:Vals [x,y] us): ∃u w',us=[u,w']∧RelV x u∧RelV y w':=by
 cases r with
 | cons r1 r2=>
  cases r2 with
  | cons r3 r4=>cases r4;exact⟨_,_,rfl,r1,r3⟩
theorem Yr:b9 X (.builtin "abs") (fun xs H Q=> ∃i,xs=[.int i]∧Q (.int (if i<0 then -i else i)) H):=by
 intro pins s σ H xs us Q I r h
 obtain⟨i,rfl,q⟩:=h
 obtain⟨u,rfl,t,rfl⟩:=vals1 r
 exact call_abs_int fun u tk=> ⟨.int (if i<0 then -i else i),H,I.tok _,⟨_,rfl⟩,q⟩
theorem Ys(hc:X.calm=true):b9 X (.builtin "max") (fun xs H Q=> ∃i j,xs=[.int i, .int j]∧Q (.int (if j>i then j else i)) H):=by
 intro pins s σ H xs us Q I r h
 obtain⟨i,j,rfl,q⟩:=h
 obtain⟨u,w',rfl,⟨t,rfl⟩,⟨t',rfl⟩⟩:=vals2 r
 refine max_two_ints (I.ok.hd hc) fun h' tk k=> ⟨_,H,I.kept k, ?_,q⟩
 by_cases hj:j>i
 ·rw[if_pos hj,if_pos hj];exact⟨_,rfl⟩
 ·rw[if_neg hj,if_neg hj];exact⟨_,rfl⟩
theorem Yt(hc:X.calm=true):b9 X (.builtin "min") (fun xs H Q=> ∃i j,xs=[.int i, .int j]∧Q (.int (if j<i then j else i)) H):=by
 intro pins s σ H xs us Q I r h
 obtain⟨i,j,rfl,q⟩:=h
 obtain⟨u,w',rfl,⟨t,rfl⟩,⟨t',rfl⟩⟩:=vals2 r
 refine min_two_ints (I.ok.hd hc) fun h' tk k=> ⟨_,H,I.kept k, ?_,q⟩
 by_cases hj:j<i
 ·rw[if_pos hj,if_pos hj];exact⟨_,rfl⟩
 ·rw[if_neg hj,if_neg hj];exact⟨_,rfl⟩
theorem Yu:b9 X (.type "int") (fun xs H Q=> (∃i,xs=[.int i]∧Q (.int i) H)∨ ∃k,xs=[.bl k]∧Q (.int (if k then 1 else 0)) H):=by
 intro pins s σ H xs us Q I r h
 rcases h with⟨i,rfl,q⟩ | ⟨k,rfl,q⟩
 ·obtain⟨u,rfl,t,rfl⟩:=vals1 r
  exact call_int_int ⟨.int i,H,I,⟨_,rfl⟩,q⟩
 ·obtain⟨u,rfl,r1⟩:=vals1 r
  cases r1
  exact call_int_bool ⟨.int (if k then 1 else 0),H,I.tok _,⟨_,rfl⟩,q⟩
def MV(K:Frag)(x:V)(H:Hp)(n:Nat):Prop:=
 match x with
 | .str y=>y.length≤sizeLine∧n=y.length
 | .eF y=>y.size≤sizeLine∧n=y.size
 | .ref p=> (∃xs,aM K H p xs∧n=xs.length)∨ ∃xs,bo K H p xs∧n=xs.length
 | _=>False
theorem Yv:b9 X (.builtin "len") (fun xs H Q=> ∃x n,xs=[x]∧MV X.K x H n∧Q (.int n) H):=by
 intro pins s σ H xs us Q I r h
 obtain⟨x,n,rfl,e,q⟩:=h
 obtain⟨u,rfl,rx⟩:=vals1 r
 have hl:=jY
 have hs:sizeLine=16777216:=sizeLine_eq
 cases x with
 | str y=>
  obtain⟨t,rfl⟩:=rx
  obtain⟨hy,e'⟩:y.length≤sizeLine∧n=y.length:=e
  subst e'
  exact len_str (by omega) ⟨.int _,H,I.tok _,⟨_,rfl⟩,q⟩
 | eF y=>
  obtain⟨t,rfl⟩:=rx
  obtain⟨hy,e'⟩:y.size≤sizeLine∧n=y.size:=e
  subst e'
  exact PySem.W.len_bytes (by omega) ⟨.int _,H,I.tok _,⟨_,rfl⟩,q⟩
 | ref p=>
  cases rx
  have e':(∃xs,aM X.K H p xs∧n=xs.length)∨ ∃xs,bo X.K H p xs∧n=xs.length:=e
  rcases e' with⟨xs,hx,e'⟩ | ⟨xs,hx,e'⟩
  ·subst e'
   obtain⟨its,r',pl,hz⟩:=I.list hx
   have hlen:=r'.length
   exact Calls.call_len_list pl.isList (by simp only[List.size_toArray];omega) ⟨.int xs.length,H,I.tok _,⟨_,by simp only[List.size_toArray];rw[hlen]⟩,q⟩
  ·subst e'
   obtain⟨its,r',pl,hz⟩:=I.tuple hx
   have hlen:=r'.length
   exact len_tuple pl (by simp only[List.size_toArray];omega) ⟨.int xs.length,H,I.tok _,⟨_,by simp only[List.size_toArray];rw[hlen]⟩,q⟩
 | _=>exact(show False from e).elim
end
structure lI (h:Heap) (x dx C:Addr) (mA:Str→Option Value):Prop where
 obj:h.get? x=some (instObj C dx)
 ns:h.Ns1 dx mA
 ne:dx≠x
theorem Yw{h:Heap}{dx:Addr}{mA:Str→Option Value}(n:h.Ns1 dx mA): ∃od,h.get? dx=some od∧ ∀name,lookIn name od=some (mA name):=by
 obtain⟨o,es,ep,ho,hd,hk,_,hm⟩:=n
 refine⟨o,ho,fun name=> ?_⟩
 have e:=hm name
 unfold nsFind findBy at e
 rw[←Array.find?_toList] at e
 unfold lookIn
 rw[hd]
 dsimp only
 split
 ·rename_i y q
  rw[q] at e
  exact congrArg some e
 ·rename_i q
  rw[q] at e
  have a:es.toList.any (·.refKey)=false:=by
   rw[List.any_eq_false]
   intro y hy
   obtain⟨z,t,Yx⟩:=hk y (Array.mem_toList_iff.mp hy)
   simp[DictEntry.refKey,Yx]
  have a': ¬es.toList.any (·.refKey)=true:=by rw[a];exact Bool.false_ne_true
  rw[if_neg a']
  exact congrArg some e
theorem lI.look{h:Heap}{x dx C:Addr}{mA:Str→Option Value}(I:lI h x dx C mA): ∃od,PySem.W.InstAt h x (instObj C dx) C (some od)∧ ∀name,lookIn name od=some (mA name):=
 let ⟨od,ho,hl⟩:=Yw I.ns
 ⟨od,⟨I.obj,rfl,rfl,ho⟩,hl⟩
section
variable {prog:Program} {w:World} {A:Around} {E:Value→Shared→Prop} {s:Shared} {K:Frag} {x dx C f:Addr} {mA:Str→Option Value} {name:Str} {v:Value}
theorem get_map{expr:Bool}{Q:Value→Shared→Prop}(X:K.In s.heap)(I:lI s.heap x dx C mA)(hg:plainGet K C name=true)(hh:hasDictIn K C=true)
  (ha:findIn K (.ref C) name=some none) (hv:mA name=some v) (yE:handedIn v=true) (h:Q v {s with toks:=s.toks+1}):
  wpAny (model prog w) A (getAttr (.ref x) name expr) Q E s:=by
 obtain⟨od,J,hl⟩:=I.look
 exact PySem.W.get_value X J (plainGet_of hg).1 (PySem.W.findObj_own hh ha rfl (by rw[hl,hv])) yE h
theorem Yy{pl:Sem Bool}{Q:Value×List Value→Shared→Prop}(X:K.In s.heap)(I:lI s.heap x dx C mA)(hg:plainGet K C name=true)
  (hf:findIn K (.ref C) name=some (some (.ref f))) (ht:isFn K (.ref f)=true) (hv:mA name=none) (h:Q (.ref f,[.ref x]) s):
  wpAny (model prog w) A (getMethod (.ref x) name pl) Q E s:=by
 obtain⟨od,J,hl⟩:=I.look
 exact PySem.W.method_fn X J (plainGet_of hg).1 (plainGet_of hg).2 hf (beq_iff_eq.mp ht) (by show(lookIn name od).map (·.isSome)=some false;rw[hl,hv];rfl) h
theorem Yz{ns:List Str}{Q:Unit→Shared→Prop}(X:K.In s.heap)(I:lI s.heap x dx C mA)
  (hs:findIn K (.ref C) "__setattr__"=some (some (.builtin "object.__setattr__"))) (hp:plainOver K C=true) (ht:takerIn K C name=some none) (hh:hasDictIn K C=true)
  (hw:PySem.Within mA ns) (jZ:ns.length≤sizeLine)
  (h: ∀h',lI h' x dx C (fun y=>if y=name then some v else mA y)→Heap.SameBut dx s.heap h'→Q () {s with heap:=h',toks:=s.toks+2}):
  wpAny (model prog w) A (setAttr (.ref x) name v) Q E s:=by
 obtain⟨od,J,hl⟩:=I.look
 refine PySem.W.set_plain X J hs (PySem.W.osa_open (s:={s with toks:=s.toks+1}) (r:=none) X J hp ht fun b=> ?_)
 obtain⟨cd,hc,yl⟩:=PySem.W.any_some hh
 have hx:s.heap.get? x=some ⟨.ref C,some dx, .plain,#[]⟩:=I.obj
 refine wpAny_bind (wpAny_pure (wpAny_bind (wpAny_bind (wpAny_loadPart hx (wpAny_bind (PySem.W.Looks.here (s:={s with toks:=s.toks+1}) (PySem.W.looks_clsIn X hc) ?_))))))
 rw[yl]
 refine wpAny_pure (a:=some dx) (wpAny_bind (wpAny_pure (wpAny_bind ?_)))
 refine wpAny_nsSet1 (s:={s with toks:=s.toks+1}) I.ns fun h' j4 MW=> ?_
 obtain⟨oD,esD,epD,YA,YB,YC⟩:=j4.count (PySem.Within.cons name v hw)
 refine wpAny_bind (wpAny_lookBehind YA (by rw[YB];exact pastItsLine_dict (Nat.le_trans YC (by rw[List.length_cons];omega))) ?_)
 exact wpAny_pure (h _ ⟨(MW.2 _ (Ne.symm I.ne)).trans I.obj,j4,I.ne⟩ MW)
theorem YD{R:Result→Shared→Prop}{vs:List Value}{kw:List (Str×Value)}(X:K.In s.heap)(hm:makesIn K C=true)
  (hi:findIn K (.ref C) "__init__"=some (some (.ref f))) (hf:PySem.W.typeIn K (.ref f)=some (.type "function"))
  (h:codeAny (model prog w) (A.under (.builtin "type.__call__" ⟨.ref C::vs,kw⟩)) (.call (.ref f) ⟨.ref (s.heap.objs.size+1)::vs,kw⟩) (PySem.W.InitBack (s.heap.objs.size+1) R)
   {s with heap:=(s.heap.push emptyDict).push (instObj C s.heap.objs.size)}):
  codeAny (model prog w) A (.call (.ref C) ⟨vs,kw⟩) R s:=by
 obtain⟨hh,g,d,t,os⟩:=s
 exact PySem.W.make_core (PySem.W.makes_of X hm) (PySem.W.looks_findIn X hi) (fun self=>PySem.W.bind_fn X self hf) (.inl rfl) h
end
def b_(f:Str)(v:V):List (Str×V)→List (Str×V)
 | []=> [(f,v)]
 | (g,x)::r=>if g=f then (g,v)::r else (g,x)::b_ f v r
theorem MX(f g:Str)(v:V): ∀fs:List (Str×V),(b_ f v fs).lookup g=if g=f then some v else fs.lookup g
 | []=>by
  show List.lookup g [(f,v)]=_
  by_cases h:g=f
  ·have hb:(g==f)=true:=beq_iff_eq.mpr h
   simp only[List.lookup,hb,if_pos h]
  ·have hb:(g==f)=false:=beq_eq_false_iff_ne.mpr h
   simp only[List.lookup,hb,if_neg h]
 | (k,x)::r=>by
  have ih:=MX f g v r
  rw[show b_ f v ((k,x)::r)=(if k=f then (k,v)::r else (k,x)::b_ f v r) from rfl]
  by_cases hk:k=f
  ·rw[if_pos hk]
   by_cases h:g=k
   ·have hb:(g==k)=true:=beq_iff_eq.mpr h
    simp only[List.lookup,hb,if_pos (h.trans hk)]
   ·have hb:(g==k)=false:=beq_eq_false_iff_ne.mpr h
    simp only[List.lookup,hb,if_neg (fun e:g=f=>h (e.trans hk.symm))]
  ·rw[if_neg hk]
   by_cases h:g=k
   ·have hb:(g==k)=true:=beq_iff_eq.mpr h
    simp only[List.lookup,hb,if_neg (fun e:g=f=>hk (h.symm.trans e))]
   ·have hb:(g==k)=false:=beq_eq_false_iff_ne.mpr h
    simp only[List.lookup,hb]
    exact ih
theorem yF(f:Str)(v:V): ∀fs:List (Str×V),f∈ (b_ f v fs).map (·.1)∧ ∀g,g∈fs.map (·.1)→g∈ (b_ f v fs).map (·.1)
 | []=> ⟨by simp[b_],fun g h=>by simp at h⟩
 | (k,x)::r=>by
  obtain⟨i1,i2⟩:=yF f v r
  rw[show b_ f v ((k,x)::r)=(if k=f then (k,v)::r else (k,x)::b_ f v r) from rfl]
  by_cases hk:k=f
  ·rw[if_pos hk]
   subst hk
   exact⟨by simp,fun g h=>by simpa using h⟩
  ·rw[if_neg hk]
   refine⟨?_,fun g h=> ?_⟩
   ·rw[List.map_cons]
    exact List.mem_cons_of_mem _ i1
   ·rw[List.map_cons] at h⊢
    rcases List.mem_cons.mp h with e | e
    ·exact List.mem_cons.mpr (.inl e)
    ·exact List.mem_cons_of_mem _ (i2 g e)
theorem MY(f:Str)(v:V): ∀fs:List (Str×V),(b_ f v fs).length≤fs.length+1
 | []=>by simp[b_]
 | (k,x)::r=>by
  have ih:=MY f v r
  rw[show b_ f v ((k,x)::r)=(if k=f then (k,v)::r else (k,x)::b_ f v r) from rfl]
  by_cases hk:k=f
  ·rw[if_pos hk,List.length_cons,List.length_cons];omega
  ·rw[if_neg hk,List.length_cons,List.length_cons];omega
theorem iA.some_of{v:V}{o:Option Value}(r:iA (some v) o): ∃u,o=some u∧RelV v u:=by
 cases o with
 | none=>exact(show False from r).elim
 | some u=>exact⟨u,rfl,r⟩
theorem iA.none_of{o:Option Value}(r:iA none o):o=none:=by
 cases o with
 | none=>rfl
 | some u=>exact(show False from r).elim
theorem YE{v:V}{u:Value}(r:RelV v u):handedIn u=true:=by
 cases v with
 | az=>cases (show u=Value.none from r);rfl
 | bl b=>cases (show u=Value.bool b from r);rfl
 | int i=>obtain⟨t,e⟩:=(show ∃t,u=Value.int i t from r);cases e;rfl
 | str x=>obtain⟨t,e⟩:=(show ∃t,u=Value.str x t from r);cases e;rfl
 | eF b=>obtain⟨t,e⟩:=(show ∃t,u=Value.bytes b t from r);cases e;rfl
 | jW b=>obtain⟨t,e⟩:=(show ∃t,u=Value.float b t from r);cases e;rfl
 | ref a=>cases (show u=Value.ref a from r);rfl
 | ty n=>cases (show u=Value.type n from r);rfl
section
variable {P:Program} {w:World} {H H':Hp} {h h':Heap} {a C dx:Addr} {fs Xb:List (Str×V)}
theorem uM(aR:cy P w H h)(e:H a=some (.ins C dx fs)): ∃mA,lI h a dx C mA∧(∀f,iA (fs.lookup f) (mA f))∧PySem.Within mA (fs.map (·.1))∧fs.length≤1000∧H dx=some (.own a):=by
 obtain⟨d,z,ne,ob,mA,n,r,q⟩:=(show cO P w H h a (.ins C dx fs) from aR a _ e)
 exact⟨mA,⟨ob,n,ne⟩,r,q,z,d⟩
end
structure fB (K:Frag) (C:Addr):Prop where
 pg:plainGet K C Str.empty=true
 hd:hasDictIn K C=true
 po:plainOver K C=true
 sa:findIn K (.ref C) "__setattr__"=some (some (.builtin "object.__setattr__"))
theorem fB.get{K:Frag}{C:Addr}(c:fB K C)(f:Str):plainGet K C f=true:=c.pg
def fD(K:Frag)(C:Addr)(f:Str):Prop:=findIn K (.ref C) f=some none
theorem fD.YF{K:Frag}{C:Addr}{f:Str}(n:fD K C f):takerIn K C f=some none:=by
 unfold takerIn
 rw[show findIn K (.ref C) f=some none from n]
 rfl
structure Meth (K:Frag) (C:Addr) (m:Str) (f:Addr):Prop where
 at_:findIn K (.ref C) m=some (some (.ref f))
 fn:isFn K (.ref f)=true
 kp:keepIn K (.ref f)=true
section
variable {X:Cx} {pins:List (Addr×Obj)} {σ:St} {H:Hp} {s:Shared} {a C dx:Addr} {fs:List (Str×V)} {f:Str} {v:V} {A:Around} {E:Value→Shared→Prop}
theorem YG{b:Bool}{Q:Value→Shared→Prop}(I:Inv X pins σ H s)(e:H a=some (.ins C dx fs))(c:fB X.K C)(n:fD X.K C f)(l:fs.lookup f=some v)
  (h: ∀u s',Inv X pins σ H s'→RelV v u→Q u s'):wpAny (model X.prog X.w) A (getAttr (.ref a) f b) Q E s:=by
 obtain⟨mA,O,r,_,_,_⟩:=uM I.aR e
 obtain⟨u,hu,ru⟩:=iA.some_of (v:=v) (o:=mA f) (by rw[←l];exact r f)
 exact get_map I.cC O (c.get f) c.hd n hu (YE ru) (h u _ (I.tok _) ru)
theorem MZ{m:Str}{g:Addr}{pl:Sem Bool}{Q:Value×List Value→Shared→Prop}(I:Inv X pins σ H s)(e:H a=some (.ins C dx fs))(c:fB X.K C)(k:Meth X.K C m g)(l:fs.lookup m=none)
  (h:Q (.ref g,[.ref a]) s):wpAny (model X.prog X.w) A (getMethod (.ref a) m pl) Q E s:=by
 obtain⟨mA,O,r,_,_,_⟩:=uM I.aR e
 have hn:mA m=none:=iA.none_of (by rw[←l];exact r m)
 exact Yy I.cC O (c.get m) k.at_ k.fn hn h
theorem YH{y:V}{u:Value}{Q:Unit→Shared→Prop}(I:Inv X pins σ H s)(e:H a=some (.ins C dx fs))(c:fB X.K C)(n:fD X.K C f)(hl:fs.length<1000)(ry:RelV y u)
  (h: ∀s',Inv X pins σ (upd H a (.ins C dx (b_ f y fs))) s'→Q () s'):wpAny (model X.prog X.w) A (setAttr (.ref a) f u) Q E s:=by
 obtain⟨mA,O,r,wi,_,ho⟩:=uM I.aR e
 have hz:(fs.map (·.1)).length≤sizeLine:=by rw[List.length_map,sizeLine_eq];omega
 refine Yz I.cC O c.sa c.po n.YF c.hd wi hz fun h' O' sb=>h _ ?_
 have hd: ∃o,h'.get? dx=some o:=let ⟨o,_,_,e',_⟩:=O'.ns;⟨o,e'⟩
 refine I.write (x:=a) (e:=dx) (by rw[e];exact True.intro) (.inr ho) (fun b q hb z=> (sb.2 b hb).trans z) hd ?_
 refine⟨by rw[a_ O.ne];exact ho, ?_,O.ne,O'.obj,_,O'.ns,fun g=> ?_,fun g hg=> ?_⟩
 ·have:=MY f y fs;omega
 ·show iA ((b_ f y fs).lookup g) (if g=f then some u else mA g)
  rw[MX]
  by_cases q:g=f
  ·rw[if_pos q,if_pos q];exact ry
  ·rw[if_neg q,if_neg q];exact r g
 ·by_cases q:g=f
  ·rw[q];exact(yF f y fs).1
  ·refine(yF f y fs).2 g (wi g fun z=>hg ?_)
   show(if g=f then some u else mA g)=none
   rw[if_neg q];exact z
theorem Inv.made(I:Inv X pins σ H s):Inv X pins σ (upd (upd H s.heap.objs.size (.own (s.heap.objs.size+1))) (s.heap.objs.size+1) (.ins C s.heap.objs.size []))
  {s with heap:=(s.heap.push emptyDict).push (instObj C s.heap.objs.size)}:=by
 have e1:(s.heap.push emptyDict).get? s.heap.objs.size=some emptyDict:=Heap.get?_push_size s.heap rfl
 have e2:((s.heap.push emptyDict).push (instObj C s.heap.objs.size)).get? (s.heap.objs.size+1)=some (instObj C s.heap.objs.size):=by
  have:=Heap.get?_push_size (s.heap.push emptyDict) (o:=instObj C s.heap.objs.size) rfl
  rwa [Heap.size_push] at this
 have e3:(s.heap.push emptyDict).Ns s.heap.objs.size (fun _=>none):=⟨emptyDict,#[],_,e1,rfl,(fun e he=>absurd he (by simp)),fun _=>rfl⟩
 have I1:=I.laid (a:=s.heap.objs.size) (o:= .own (s.heap.objs.size+1)) (h':=s.heap.push emptyDict) (t':=s.toks) (fun b u q=>Heap.get?_push_of_some _ q) (zqR _) ⟨_,e1⟩
 refine I1.laid (a:=s.heap.objs.size+1) (o:= .ins C s.heap.objs.size []) (t':=s.toks) (fun b u q=>Heap.get?_push_of_some _ q) (Nat.le_of_eq (Heap.size_push _ _)) ?_
 have ne:s.heap.objs.size≠s.heap.objs.size+1:=Nat.ne_of_lt (Nat.lt_succ_self _)
 refine⟨by rw[a_ ne,aU],zqZ _,ne,e2,fun _=>none,(Heap.Ns1.of_empty e3).at fun o q=>Heap.get?_push_of_some _ q,fun _=>True.intro,fun y hy=>absurd rfl hy⟩
theorem YI{prog:Program}{w:World}{env:Env}{e:Expr}{f:Str}{pos:Pos}{s:Shared}{Q:Value→Shared→Prop}(hb:attributeBase e f env (eval e env)=eval e env)
  (h:wpAny (model prog w) A (eval e env) (fun o s₁=>wpAny (model prog w) A (getAttr o f true) Q E s₁) E s):wpAny (model prog w) A (eval (.Attribute e f pos) env) Q E s:=
 Attribute_any_ h (by rw[arm_eval_Attribute,hb])
end
def uN(K:Frag)(ta:TE)(f:Str):TE:=fun σ H Q=>ta σ H fun x H1=> ∃a C dx fs v,x= .ref a∧H1 a=some (.ins C dx fs)∧fB K C∧fD K C f∧fs.lookup f=some v∧Q v H1
def yG(K:Frag)(ta tv:TE)(f:Str):TS:=fun D σ H=>tv σ H fun y H1=>ta σ H1 fun x H2=> ∃a C dx fs,x= .ref a∧H2 a=some (.ins C dx fs)∧fB K C∧fD K C f∧fs.length<1000∧
 D.nx σ (upd H2 a (.ins C dx (b_ f y fs)))
section
variable {X:Cx} {o e value:Expr} {f:Str} {pos pos' qM:Pos} {ta tv:TE}
theorem YJ(he:PE X e ta)(hb:attributeBase e f X.env (eval e X.env)=eval e X.env):PE X (.Attribute e f pos) (uN X.K ta f):=by
 intro pins s σ H Q I h
 refine YI hb (bf (he pins s σ H _ I h) fun u s1 ⟨x,H1,I1,rx,a,C,dx,fs,v,ex,ea,c,n,l,q⟩=> ?_)
 subst ex
 obtain rfl:u=Value.ref a:=rx
 exact YG I1 ea c n l fun u' s2 I2 ru=> ⟨v,H1,I2,ru,q⟩
theorem YK(ha:PE X o ta)(hv:PE X value tv)(hs:swapsWith value (some (.Attribute o f pos')) pos.line X.env=pure false):PS X (.Assign [.Attribute o f pos'] value pos) (yG X.K ta tv f):=by
 intro pins s σ H D I h
 refine plainObj_wpAny_Assign_Attribute (bf (hv pins s σ H _ I h) fun u s1 ⟨y,H1,I1,ry,q⟩=>bf (ha pins s1 σ H1 _ I1 q) fun ov s2 ⟨x,H2,I2,rx,a,C,dx,fs,ex,ea,c,n,l,q2⟩=> ?_) hs
 subst ex
 obtain rfl:ov=Value.ref a:=rx
 exact YH I2 ea c n l ry fun s3 I3=> ⟨σ,_,I3,q2⟩
end
section
variable {X:Cx} {pins:List (Addr×Obj)} {σ:St} {H:Hp} {s:Shared} {A:Around} {E:Value→Shared→Prop} {Q:Value→Shared→Prop} {c:Value} {b:Bool}
inductive gi (K:Frag) (H:Hp):V→Value→Prop where
 | az:gi K H .az (.type "NoneType")
 | bl (x:Bool):gi K H (.bl x) (.type "bool")
 | int (i:Int):gi K H (.int i) (.type "int")
 | str (x:Str):gi K H (.str x) (.type "str")
 | jW (x:UInt64):gi K H (.jW x) (.type "float")
 | lst {a:Addr} {xs:List V} (e:H a=some (.lst xs)):gi K H (.ref a) (.type "list")
 | b6 {a:Addr} {o:Obj} {xs:List V} (e:H a=some (.b6 o (.lst xs))):gi K H (.ref a) (.type "list")
 | tup {a:Addr} {xs:List V} (e:H a=some (.tup xs)):gi K H (.ref a) (.type "tuple")
 | dK {a:Addr} {aZ:List (Key×V)} (e:H a=some (.dK aZ)):gi K H (.ref a) (.type "dict")
 | dT {a:Addr} {aZ:List (List Key×V)} (e:H a=some (.dT aZ)):gi K H (.ref a) (.type "dict")
 | ins {a C dx:Addr} {fs:List (Str×V)} (e:H a=some (.ins C dx fs)) (cl:fB K C) (ha:findIn K (.ref C) "__class__"=some (some (.builtin "object.__class__")))
   (hn:specialIn K (.builtin "object.__class__") "__get__"=some (some (.builtin "getset_descriptor.__get__"))) (yH:takesIn K (.builtin "object.__class__")=some true)
   (hm:mroIn K C (.type "object")=some true):gi K H (.ref a) (.ref C)
theorem je{x:V}{u t:Value}(I:Inv X pins σ H s)(rx:RelV x u)(ty:gi X.K H x t)(e:kitOne X.K t c=some b)(h: ∀tk,Q (.bool b) {s with toks:=tk}):
  wpAny (model X.prog X.w) A (call (.builtin "isinstance") [u,c]) Q E s:=by
 cases ty with
 | az=>cases (show u=Value.none from rx);exact kia_one PySem.W.kitx_none I.cC True.intro e (fun z=>nomatch z) h
 | bl y=>cases (show u=Value.bool y from rx);exact kia_one PySem.W.kitx_bool I.cC True.intro e (fun z=>nomatch z) h
 | int i=>obtain⟨t,q⟩:=(show ∃t,u=Value.int i t from rx);cases q;exact kia_one PySem.W.kitx_int I.cC True.intro e (fun z=>nomatch z) h
 | str y=>obtain⟨t,q⟩:=(show ∃t,u=Value.str y t from rx);cases q;exact kia_one PySem.W.kitx_str I.cC True.intro e (fun z=>nomatch z) h
 | jW y=>obtain⟨t,q⟩:=(show ∃t,u=Value.float y t from rx);cases q;exact kia_one PySem.W.kitx_float I.cC True.intro e (fun z=>nomatch z) h
 | @lst a xs ea=>
  cases (show u=Value.ref a from rx)
  obtain⟨_,_,n,_,h1⟩:=(show cO X.prog X.w H s.heap a (.lst xs) from I.aR a _ ea)
  exact kia_one kitx_list I.cC ⟨_,h1,rfl⟩ e (fun z=>nomatch z) h
 | @b6 a ob xs ea=>
  cases (show u=Value.ref a from rx)
  obtain⟨_,_,_,n,_,h1⟩:=(show cO X.prog X.w H s.heap a (.b6 ob (.lst xs)) from I.aR a _ ea)
  exact kia_one kitx_list I.cC ⟨_,h1,rfl⟩ e (fun z=>nomatch z) h
 | @tup a xs ea=>
  cases (show u=Value.ref a from rx)
  obtain⟨_,_,_,p⟩:=(show cO X.prog X.w H s.heap a (.tup xs) from I.aR a _ ea)
  obtain⟨o,h1,h2,_⟩:=p
  exact kia_one PySem.W.kitx_tuple I.cC ⟨o,h1,h2⟩ e (fun z=>nomatch z) h
 | @dK a aZ ea=>
  cases (show u=Value.ref a from rx)
  obtain⟨_,_,vs,_,p⟩:=(show cO X.prog X.w H s.heap a (.dK aZ) from I.aR a _ ea)
  obtain⟨o,es,ep,h1,h2,_⟩:=p
  exact kia_one kitx_dict I.cC ⟨o,h1,h2.1⟩ e (fun z=>nomatch z) h
 | @dT a aZ ea=>
  cases (show u=Value.ref a from rx)
  obtain⟨_,_,xs,_,o,es,ep,h1,h2,_⟩:=(show cO X.prog X.w H s.heap a (.dT aZ) from I.aR a _ ea)
  exact kia_one kitx_dict I.cC ⟨o,h1,h2.1⟩ e (fun z=>nomatch z) h
 | @ins a C dx fs ea cl ha hn yH hm=>
  cases (show u=Value.ref a from rx)
  obtain⟨mA,O,_⟩:=uM I.aR ea
  obtain⟨od,J,_⟩:=O.look
  exact kia_one (PySem.W.kitx_own (cl.get _) cl.hd ha hn yH hm) I.cC J e (fun z=>nomatch z) h
end
structure cE (k:Nat) (A:Around):Prop where
 hd:A.handled=none
 dp:A.depth+3*k+5<recursionLimit
 un:A.units+16*k+200<cLine
theorem cE.mono{j k:Nat}{A:Around}(r:cE k A)(h:j≤k):cE j A:=⟨r.hd,by have:=r.dp;omega,by have:=r.un;omega⟩
theorem cE.deeper{k:Nat}{A:Around}(r:cE (k+1) A)(env:Env):cE k (A.deeper env):=
 ⟨r.hd,by have:=r.dp;show A.depth+1+3*k+5<_;omega,by have:=r.un;show A.units+3+16*k+200<_;omega⟩
theorem YL{A:Around}{C:Addr}{us:List Value}{kw:List (Str×Value)}:(A.under (.builtin "type.__call__" ⟨.ref C::us,kw⟩)).depth=A.depth+1:=by
 first | rfl | simp[Around.under,Code.weight,Code.isCreation,Code.isGuard,Code.isCaller,Code.frames,Code.isFrame,guardIds]
theorem YM{A:Around}{C:Addr}{us:List Value}{kw:List (Str×Value)}:(A.under (.builtin "type.__call__" ⟨.ref C::us,kw⟩)).units=A.units+1:=by
 first | rfl | simp[Around.under,Code.cUnits,Code.frames,Code.isFrame]
theorem cE.make{k:Nat}{A:Around}(r:cE (k+1) A)(C:Addr)(us:List Value)(kw:List (Str×Value)):cE k (A.under (.builtin "type.__call__" ⟨.ref C::us,kw⟩)):=
 ⟨r.hd,by have:=r.dp;rw[YL];omega,by have:=r.un;rw[YM];omega⟩
theorem cE.depth{k:Nat}{A:Around}(r:cE k A):A.depth<recursionLimit:=by have:=r.dp;omega
theorem cE.units{k:Nat}{A:Around}(r:cE k A):A.units+64<cLine:=by have:=r.un;omega
def gY:TA:=fun _ H Q=>Q [] H
def dm(ta:TE)(tr:TA):TA:=fun σ H Q=>ta σ H fun x H1=>tr σ H1 fun xs H2=>Q (x::xs) H2
section
variable {X:Cx} {e:Expr} {es:List Expr} {te:TE} {t:TA} {pos:Pos}
theorem qN:PA X [] gY:=fun _ _ _ _ H Q I h=>Calls.spliced_nil ⟨[],H,I, .nil,h⟩
theorem lJ(ha:PE X e te)(hr:PA X es t)(hs:starEach (e::es) X.env=(false,eval e X.env)::starEach es X.env:=by rfl):PA X (e::es) (dm te t):=by
 intro pos pins s σ H Q I h
 rw[hs]
 show wpAny _ _ (spliced ((false,eval e X.env)::backTo pos (starEach es X.env))) _ _ s
 refine Calls.spliced_cons (bf (ha pins s σ H _ I h) fun u s1 ⟨x,H1,I1,r1,q1⟩=> ?_)
 exact bf (hr pos pins s1 σ H1 _ I1 q1) fun us s2 ⟨xs,H2,I2,r2,q2⟩=> ⟨x::xs,H2,I2, .cons r1 r2,q2⟩
def M0(t:TA):TE:=fun σ H Q=>t σ H fun xs H1=>xs.length≤sizeLine∧ ∀p,H1 p=none→Q (.ref p) (upd H1 p (.tup xs))
def M1(t:TA):TE:=fun σ H Q=>t σ H fun xs H1=>xs.length≤sizeLine∧ ∀p,H1 p=none→Q (.ref p) (upd H1 p (.lst xs))
theorem YN{x1}(h:PA X es t):PE X (.Tuple es x1 pos) (M0 t):=by
 intro pins s σ H Q I hq
 refine wpAny_Tuple_spliced (bf (h pos pins s σ H _ I hq) fun us s1 ⟨xs,H1,I1,r,z,q⟩=> ⟨by rw[←r.length];exact z, ?_⟩)
 have hf:H1 s1.heap.objs.size=none:=I1.aR.fresh (zqR _)
 refine⟨.ref s1.heap.objs.size,upd H1 s1.heap.objs.size (.tup xs),I1.laid (t':=s1.toks) (fun b u e=>Heap.get?_push_of_some _ e) (zqR _) ?_,rfl,q _ hf⟩
 exact⟨z,us,r,⟨_,Heap.get?_push_size _ rfl,rfl,_,rfl⟩⟩
theorem YO(h:PA X es t):PE X (.List es pos) (M1 t):=by
 intro pins s σ H Q I hq
 refine wpAny_List_spliced (bf (h pos pins s σ H _ I hq) fun us s1 ⟨xs,H1,I1,r,z,q⟩=> ⟨by rw[←r.length];exact z, ?_⟩)
 have hf:H1 s1.heap.objs.size=none:=I1.aR.fresh (zqR _)
 refine⟨.ref s1.heap.objs.size,upd H1 s1.heap.objs.size (.lst xs),I1.laid (t':=s1.toks) (fun b u e=>Heap.get?_push_of_some _ e) (zqR _) ?_,rfl,q _ hf⟩
 exact⟨z,us,0,r,Heap.get?_push_size _ rfl⟩
end
abbrev Sp:=List V→Hp→VK→XK→Prop
abbrev aG:=List Env→Hp→Shared→XK→Value→Shared→Prop
structure j5 (P:Program) (w:World) (K:Frag) (mg:Str→Option Value) (base:Heap) (A:Around) (outer:List Env) (s:Shared) (H:Hp):Prop where
 frames:A.frames=some outer
 mod:Mod K mg base
 bs: ∀b o,base.get? b=some o→s.heap.get? b=some o∧H b=none
 o8:base.objs.size≤s.heap.objs.size
 iC:s.heap.FunFrames base outer
 qI: ∀b∈cj outer,H b=none
 aR:cy P w H s.heap
 bare:AllBare s.gens
def CE(outer:List Env)(P:Program)(w:World)(H:Hp)(s:Shared)(Q:VK)(u:Value)(s':Shared):Prop:=
 ∃v H',s'.os=s.os∧AllBare s'.gens∧Un (cj outer) [] H H' s.heap s'.heap∧cy P w H' s'.heap∧RelV v u∧Q v H'
def CR(CX:aG)(outer:List Env)(P:Program)(w:World)(H:Hp)(s:Shared)(Q:VK)(E:XK)(r:Result)(s':Shared):Prop:=
 match r with
 | .ok (.ret u)=>CE outer P w H s Q u s'
 | .ok _=>False
 | .error e=>CX outer H s E e s'
structure cG (P:Program) (w:World) (K:Frag) (mg:Str→Option Value) (base:Heap) (CX:aG) (k:Nat) (f:Addr) (fd:FuncData) (ps:List Str) (sp:Sp):Prop where
 len: ∀vs H Q E,sp vs H Q E→vs.length=ps.length
 run: ∀(A:Around) (outer:List Env) (s:Shared) (H:Hp) (args:Args) (us:List Value) (vs:List V) (Q:VK) (E:XK),cE k A→j5 P w K mg base A outer s H→BindsTo s fd args (ps.zip us)→Vals vs us→sp vs H Q E→
  codeAny (model P w) A (.call (.ref f) args) (CR CX outer P w H s Q E) s
theorem cG.mono{P:Program}{w:World}{K:Frag}{mg:Str→Option Value}{base:Heap}{CX:aG}{j k:Nat}{f:Addr}{fd:FuncData}{ps:List Str}{sp:Sp}(F:cG P w K mg base CX j f fd ps sp)(h:j≤k):
  cG P w K mg base CX k f fd ps sp:=⟨F.len,fun A outer s H args us vs Q E hr=>F.run A outer s H args us vs Q E (hr.mono h)⟩
theorem j5.make{P:Program}{w:World}{K:Frag}{mg:Str→Option Value}{base:Heap}{A:Around}{outer:List Env}{s:Shared}{H:Hp}(e:j5 P w K mg base A outer s H)(C:Addr)(us:List Value)(kw:List (Str×Value)):
  j5 P w K mg base (A.under (.builtin "type.__call__" ⟨.ref C::us,kw⟩)) outer s H:=⟨by first | exact e.frames | (simpa[Around.under,Code.envs,Code.isFrame,pushEnvs] using e.frames),e.mod,e.bs,e.o8,e.iC,e.qI,e.aR,e.bare⟩
section
variable {X:Cx} {pins:List (Addr×Obj)} {σ:St} {H:Hp} {s s':Shared}
theorem Inv.M3(I:Inv X pins σ H s):j5 X.prog X.w X.K X.mg X.base X.A X.stack s H:=
 ⟨I.ok.frames,I.ok.mod,I.bs,Nat.le_trans I.ok.o8 I.sz,I.stack,I.ux,I.aR,I.bare⟩
theorem Inv.after{Q:VK}{u:Value}(I:Inv X pins σ H s)(h:CE X.stack X.prog X.w H s Q u s'):EP X pins σ Q u s':=by
 obtain⟨v,H',os,bare,un,aR,r,q⟩:=h
 obtain⟨hh,g,d,t,YQ⟩:=s'
 obtain rfl:YQ=s.os:=os
 exact⟨v,H',I.call (h':=hh) (g':=g) (d':=d) (t':=t) (ch:=[]) un aR bare (fun b z=>absurd z (by simp)),r,q⟩
end
def yI(sp:Sp)(dO:List V)(E:XK)(t:TA):TE:=fun σ H Q=>t σ H fun vs H1=>sp (vs++dO) H1 Q E
def lK(C:Addr)(m:Str)(sp:Sp)(dO:List V)(E:XK)(ta:TE)(t:TA):TE:=fun σ H Q=>ta σ H fun x H1=> ∃a dx fs,x= .ref a∧H1 a=some (.ins C dx fs)∧fs.lookup m=none∧
 t σ H1 fun vs H2=>sp (x::(vs++dO)) H2 Q E
def qO(C:Addr)(sp:Sp)(dO:List V)(E:XK)(t:TA):TE:=fun σ H Q=>t σ H fun vs H1=> ∀x dx,H1 x=none→H1 dx=none→dx≠x→
 sp (.ref x::(vs++dO)) (upd (upd H1 dx (.own x)) x (.ins C dx [])) (fun v H2=>v= .az∧Q (.ref x) H2) E
def Binds(K:Frag)(fd:FuncData)(ps:List Str)(ds:List Value):Prop:=
 ∀(s:Shared) (us:List Value),K.In s.heap→(us++ds).length=ps.length→BindsTo s fd ⟨us,[]⟩ (ps.zip (us++ds))
theorem Binds.all{K:Frag}{fd:FuncData}{ps:List Str}(h: ∀us:List Value,us.length=ps.length→bindArgs fd ⟨us,[]⟩=pure (ps.zip us)):Binds K fd ps []:=fun s us _ hl=>by
 rw[List.append_nil] at hl⊢
 exact .of_eq (h us hl)
def Passes(CX:aG)(X:Cx)(E:XK):Prop:= ∀(pins:List (Addr×Obj)) (σ:St) (H:Hp) (s:Shared) (e:Value) (s':Shared),Inv X pins σ H s→CX X.stack H s E e s'→X.xe e s'
section
variable {X:Cx} {CX:aG} {k:Nat} {f C:Addr} {fd:FuncData} {ps:List Str} {sp:Sp} {dO:List V} {ds:List Value} {E:XK} {x m:Str} {p pos apos:Pos} {e o:Expr} {es:List Expr} {ta:TE} {t:TA}
theorem yJ{pins:List (Addr×Obj)}{σ:St}{H:Hp}{s:Shared}{Q:VK}{us:List Value}{vs:List V}(F:cG X.prog X.w X.K X.mg X.base CX k f fd ps sp)(hr:cE k X.A)(hb:Binds X.K fd ps ds)(hd:Vals dO ds)(hx:Passes CX X E)
  (I:Inv X pins σ H s) (r:Vals vs us) (h:sp (vs++dO) H Q E):wpAny (model X.prog X.w) X.A (call (.ref f) us) (EP X pins σ Q) X.xe s:=by
 have r2:Vals (vs++dO) (us++ds):=r.append hd
 have hl:(us++ds).length=ps.length:=by rw[←r2.length];exact F.len _ _ _ _ h
 refine wpAny_call (codeAny_mono (F.run X.A X.stack s H ⟨us,[]⟩ (us++ds) (vs++dO) Q E hr I.M3 (hb s us I.cC hl) r2 h) fun r s' hq=> ?_)
 cases r with
 | error e=>exact hx pins σ H s e s' I hq
 | ok fl=>
  cases fl with
  | ret u=>exact I.after hq
  | next=>exact False.elim hq
  | brk=>exact False.elim hq
  | cont=>exact False.elim hq
theorem YR(F:cG X.prog X.w X.K X.mg X.base CX k f fd ps sp)(hr:cE k X.A)(hg:Gl X x)(hm:X.mg x=some (.ref f))(hk:keepIn X.K (.ref f)=true)(hb:Binds X.K fd ps ds)(hd:Vals dO ds)(hx:Passes CX X E)
  (ha:PA X (e::es) t) (jf:(x==("__debug__":Str))=false:=by decide) (he:starEach (e::es) X.env=(false,eval e X.env)::starEach es X.env:=by rfl) (gZ:(backTo pos (starEach es X.env)).any (·.1)=false:=by rfl):
  PE X (.Call (.Name x p) (e::es) [] pos) (yI sp dO E t):=by
 intro pins s σ H Q I h
 refine wpAny_Call_Name_kw (uA I hg hm ?_ jf)
 refine callWith_K (h₀:=X.base) I.ok.mod.qG hk (bf (ha pos pins s σ H _ I h) fun us s1 ⟨vs,H1,I1,r,q⟩=> ⟨I1.cC, ?_⟩) he gZ
 exact yJ F hr hb hd hx I1 r q
structure Mk (K:Frag) (C f:Addr):Prop where
 makes:makesIn K C=true
 init:findIn K (.ref C) "__init__"=some (some (.ref f))
 fn:isFn K (.ref f)=true
 kp:keepIn K (.ref C)=true
theorem M4{pins:List (Addr×Obj)}{σ:St}{H:Hp}{s:Shared}{Q:VK}{us:List Value}{vs:List V}(M:Mk X.K C f)(F:cG X.prog X.w X.K X.mg X.base CX k f fd ps sp)(hr:cE (k+1) X.A)(hb:Binds X.K fd ps ds)(hd:Vals dO ds)
  (hx:Passes CX X E) (I:Inv X pins σ H s) (r:Vals vs us)
  (h: ∀x dx,H x=none→H dx=none→dx≠x→sp (.ref x::(vs++dO)) (upd (upd H dx (.own x)) x (.ins C dx [])) (fun v H2=>v= .az∧Q (.ref x) H2) E):
  wpAny (model X.prog X.w) X.A (call (.ref C) us) (EP X pins σ Q) X.xe s:=by
 have hq:=h (s.heap.objs.size+1) s.heap.objs.size (I.aR.fresh (Nat.le_succ _)) (I.aR.fresh (zqR _)) (Nat.ne_of_lt (Nat.lt_succ_self _))
 have I2:=Inv.made (C:=C) I
 have r2:Vals (V.ref (s.heap.objs.size+1)::(vs++dO)) (Value.ref (s.heap.objs.size+1)::(us++ds)):= .cons rfl (r.append hd)
 have hl:(Value.ref (s.heap.objs.size+1)::us++ds).length=ps.length:=by
  have e:=r2.length
  rw[F.len _ _ _ _ hq] at e
  exact e.symm
 refine wpAny_call (YD (f:=f) I.cC M.makes M.init (beq_iff_eq.mp M.fn) (codeAny_mono (F.run _ X.stack _ _ ⟨Value.ref (s.heap.objs.size+1)::us,[]⟩ (Value.ref (s.heap.objs.size+1)::(us++ds)) _ _ E (hr.make C us [])
  (I2.M3.make C us []) (hb _ (Value.ref (s.heap.objs.size+1)::us) I2.cC hl) r2 hq) fun r s' qP=> ?_))
 cases r with
 | error e=>exact hx pins σ _ _ e s' I2 qP
 | ok fl=>
  cases fl with
  | ret u=>
   obtain⟨v,H',I3,rv,ev,q3⟩:=I2.after qP
   subst ev
   exact⟨rv,⟨V.ref (s.heap.objs.size+1),H',I3,rfl,q3⟩⟩
  | next=>exact False.elim qP
  | brk=>exact False.elim qP
  | cont=>exact False.elim qP
theorem YS(M:Mk X.K C f)(F:cG X.prog X.w X.K X.mg X.base CX k f fd ps sp)(hr:cE (k+1) X.A)(hg:Gl X x)(hm:X.mg x=some (.ref C))(hb:Binds X.K fd ps ds)(hd:Vals dO ds)(hx:Passes CX X E)
  (ha:PA X (e::es) t) (jf:(x==("__debug__":Str))=false:=by decide) (he:starEach (e::es) X.env=(false,eval e X.env)::starEach es X.env:=by rfl) (gZ:(backTo pos (starEach es X.env)).any (·.1)=false:=by rfl):
  PE X (.Call (.Name x p) (e::es) [] pos) (qO C sp dO E t):=by
 intro pins s σ H Q I h
 refine wpAny_Call_Name_kw (uA I hg hm ?_ jf)
 refine callWith_K (h₀:=X.base) I.ok.mod.qG M.kp (bf (ha pos pins s σ H _ I h) fun us s1 ⟨vs,H1,I1,r,q⟩=> ⟨I1.cC, ?_⟩) he gZ
 exact M4 M F hr hb hd hx I1 r q
theorem YT(M:Mk X.K C f)(F:cG X.prog X.w X.K X.mg X.base CX k f fd ps sp)(hr:cE (k+1) X.A)(hg:Gl X x)(hm:X.mg x=some (.ref C))(hb:Binds X.K fd ps ds)(hd:Vals dO ds)(hx:Passes CX X E)
  (jf:(x==("__debug__":Str))=false:=by decide):PE X (.Call (.Name x p) [] [] pos) (qO C sp dO E gY):=by
 intro pins s σ H Q I h
 refine wpAny_Call_Name_kw (uA I hg hm ?_ jf)
 exact callWith_K0 I.cC M.kp (M4 (us:=[]) M F hr hb hd hx I .nil h)
end
section
variable {X:Cx} {CX:aG} {k:Nat} {f C:Addr} {fd:FuncData} {ps ks:List Str} {sp:Sp} {E:XK} {x m:Str} {p pos apos aEa:Pos} {e o:Expr} {es:List Expr} {kws:List Keyword} {te ta:TE} {t tk:TA} {nm:Option Str}
variable {g:List Value→List Value→List Value} {gV:List V→List V→List V}
end
structure bh (N P:List Str) (sc:Scope):Prop where
 kind:sc.kind= .function
 co:sc.isCoroutine=false
 gen:sc.isGenerator=false
 nd:N.Nodup
 pre:N.take P.length=P
 par: ∀x∈P,sc.names.lookup x=some .local∨sc.names.lookup x=some .cell
 YU: ∀y∈sc.names,y.2≠ .free
theorem bp{N P:List Str}{sc:Scope}(a:sc.kind= .function:=by kernel_rfl)(b:sc.isCoroutine=false:=by kernel_rfl)(c:sc.isGenerator=false:=by kernel_rfl)(d:N.Nodup:=by decide+kernel)(e:N.take P.length=P:=by kernel_rfl)(f: ∀x∈P,sc.names.lookup x=some .local∨sc.names.lookup x=some .cell:=by decide+kernel)(g: ∀y∈sc.names,y.2≠ .free:=by decide+kernel):bh N P sc:=⟨a,b,c,d,e,f,g⟩
theorem M5{kindOf:Str→Option NameKind}{x:Str}: ∀{binds:List (Str×Value)} {m:Str→Option Value},(∀v,(x,v)∉binds)→bindL kindOf binds m x=m x
 | [],_,_=>rfl
 | (n,v)::r,m,h=>by
  unfold bindL
  rw[M5 fun w hw=>h w (List.mem_cons_of_mem _ hw)]
  split
  ·have:x≠n:=by rintro rfl;exact h v List.mem_cons_self
   simp[this]
  ·rfl
theorem M6{kindOf:Str→Option NameKind}{x:Str}: ∀{binds:List (Str×Value)} {m:Str→Option Value},(∀v,(x,v)∉binds)→bindC kindOf binds m x=m x
 | [],_,_=>rfl
 | (n,v)::r,m,h=>by
  unfold bindC
  rw[M6 fun w hw=>h w (List.mem_cons_of_mem _ hw)]
  split
  ·rfl
  ·have:x≠n:=by rintro rfl;exact h v List.mem_cons_self
   simp[this]
theorem M7{kindOf:Str→Option NameKind}{x:Str}{v:Value}: ∀{P:List Str} {vs:List Value} {i:Nat} {m:Str→Option Value},P.Nodup→P[i]?=some x→vs[i]?=some v→kindOf x=some .local→
  bindL kindOf (P.zip vs) m x=some v
 | [],_,_,_,_,h,_,_=>by simp at h
 | _::_,[],_,_,_,_,h,_=>by simp at h
 | p::P,w::vs,0,m,nd,h1,h2,hk=>by
  simp at h1 h2;subst h1;subst h2
  show bindL kindOf ((p,w)::P.zip vs) m p=_
  unfold bindL
  rw[M5 fun v hv=> (List.nodup_cons.mp nd).1 (List.of_mem_zip hv).1,if_pos hk]
  simp
 | p::P,w::vs,i+1,m,nd,h1,h2,hk=>by
  show bindL kindOf ((p,w)::P.zip vs) m x=_
  unfold bindL
  exact M7 (i:=i) (List.nodup_cons.mp nd).2 (by simpa using h1) (by simpa using h2) hk
theorem M8{kindOf:Str→Option NameKind}{x:Str}{v:Value}: ∀{P:List Str} {vs:List Value} {i:Nat} {m:Str→Option Value},P.Nodup→P[i]?=some x→vs[i]?=some v→kindOf x≠some .local→
  bindC kindOf (P.zip vs) m x=some v
 | [],_,_,_,_,h,_,_=>by simp at h
 | _::_,[],_,_,_,_,h,_=>by simp at h
 | p::P,w::vs,0,m,nd,h1,h2,hk=>by
  simp at h1 h2;subst h1;subst h2
  show bindC kindOf ((p,w)::P.zip vs) m p=_
  unfold bindC
  rw[M6 fun v hv=> (List.nodup_cons.mp nd).1 (List.of_mem_zip hv).1,if_neg hk]
  simp
 | p::P,w::vs,i+1,m,nd,h1,h2,hk=>by
  show bindC kindOf ((p,w)::P.zip vs) m x=_
  unfold bindC
  exact M8 (i:=i) (List.nodup_cons.mp nd).2 (by simpa using h1) (by simpa using h2) hk
def start(N:List Str)(vs:List V):St:=vs.map some++List.replicate (N.length - vs.length) none
def lL(CX:aG)(P:Program)(w:World)(K:Frag)(mg:Str→Option Value)(base:Heap)(N:List Str)(qual:Str)(scope:Scope)(f:Addr)(cd:Value)(A:Around)(outer:List Env)(s:Shared)(H:Hp)(E:XK):Cx where
 prog:=P
 w:=w
 K:=K
 mg:=mg
 base:=base
 A:=A.deeper (envOfC qual scope s.heap.objs.size f cd)
 N:=N
 s₀:=s
 H₀:=H
 env:=envOfC qual scope s.heap.objs.size f cd
 outer:=outer
 stack:=envOfC qual scope s.heap.objs.size f cd::outer
 ex:=[]
 calm:=true
 fn:=fun _=>true
 pn:=[]
 xe:=fun e s'=>wpAny (model P w) (A.deeper (envOfC qual scope s.heap.objs.size f cd)) (leaving (envOfC qual scope s.heap.objs.size f cd) e) (fun _ jg=>CX outer H s E e jg) (fun e' jg=>CX outer H s E e' jg) s'
theorem M9{sc:Scope}{n:Nat}{x:Str}(h:sc.names.lookup x=some .cell): ∃c,(cellsFrom n sc.names []).lookup x=some c:=by
 have q:=cellsFrom_some sc.names n [] (.inl h)
 exact Option.isSome_iff_exists.mp q
theorem YV{CX:aG}{P:Program}{w:World}{K:Frag}{mg:Str→Option Value}{base:Heap}{N ps:List Str}{qual:Str}{scope:Scope}{f:Addr}{cd:Value}{A:Around}{outer:List Env}{s s1:Shared}{H:Hp}{E:XK}{us:List Value}{vs:List V}
  (S:bh N ps scope) (hd:A.handled=none) (e0:j5 P w K mg base A outer s H) (hl:vs.length=ps.length) (r:Vals vs us)
  (x:InCallC s s.heap.objs.size (bindL (envOfC qual scope s.heap.objs.size f cd).kindOf (ps.zip us) fun _=>none) (cellsFrom (s.heap.objs.size+1) scope.names []) (bindC (envOfC qual scope s.heap.objs.size f cd).kindOf (ps.zip us) fun _=>none) s1):
  Inv (lL CX P w K mg base N qual scope f cd A outer s H E) [] (start N vs) H s1:=by
 have gZ:ps.length≤N.length:=by have:=congrArg List.length S.pre;rw[List.length_take] at this;omega
 obtain⟨h1,tk,rfl,hk⟩:=x.done
 have qQ: ∀b:Addr,b∉ (lL CX P w K mg base N qual scope f cd A outer s H E).ex:=fun b z=>absurd (show b∈ ([]:List Addr) from z) (by simp)
 refine⟨⟨e0.mod,S.kind,rfl,rfl,zqR _,fun y z c h1 h2=> ?_,fun y hy=> ?_,fun y c _ h=> ?_,fun _=>hd,Around.frames_deeper e0.frames, .inr ⟨rfl,rfl⟩,fun b z=>absurd z (qQ b),e0.bs,e0.o8,fun b _ _=>qQ b,fun b z=>absurd z (qQ b),e0.iC,e0.qI⟩,
  rfl,e0.bare,Un.kept hk,⟨_,x.toInCall.ns,fun i y v h1 h2 h3=> ?_⟩,fun y c h=> ⟨_,x.cell y c h⟩,e0.aR.fresh (zqR _),fun y c h=> ?_,fun p hp=>absurd (show p∈ ([]:List (Addr×Obj)) from hp) (by simp),e0.aR.kept hk, ?_⟩
 ·exact name_of_addr x.apart (PySem.mem_of_lookup h1) (PySem.mem_of_lookup h2)
 ·have hy:scope.names.lookup y=some .cell∨scope.names.lookup y=some .free:=hy
  rcases hy with hy | hy
  ·exact M9 hy
  ·exact absurd rfl (S.YU _ (PySem.mem_of_lookup hy))
 ·exact Nat.le_of_lt (x.above y c (PySem.mem_of_lookup h))
 ·have hi:i<vs.length:=by
   unfold start at h2
   by_cases hi:i<vs.length
   ·exact hi
   ·rw[List.getElem?_append_right (by simpa using hi)] at h2
    rw[List.getElem?_replicate] at h2
    split at h2<;>cases h2
  have ha:vs[i]?=some v:=by
   unfold start at h2
   rw[List.getElem?_append_left (by simpa using hi),List.getElem?_map] at h2
   cases e:vs[i]? with
   | none=>rw[e] at h2;cases h2
   | some a=>rw[e] at h2;cases h2;rfl
  obtain⟨u,hu,rv⟩:=r.get ha
  have hp:ps[i]?=some y:=by
   rw[←S.pre,List.getElem?_take_of_lt (by omega)];exact h1
  have M_:ps.Nodup:=by rw[←S.pre];exact S.nd.sublist (List.take_sublist _ _)
  refine⟨u,rv, ?_⟩
  rcases S.par y (List.mem_of_getElem? hp) with k | k
  ·exact .inl ⟨k,M7 M_ hp hu k⟩
  ·obtain⟨c,e⟩:=M9 (n:=s.heap.objs.size+1) k
   refine .inr ⟨.inl k,c,e, ?_⟩
   have q:=x.cell y c e
   rw[M8 M_ hp hu (by show scope.names.lookup y≠_;rw[k];decide)] at q
   exact q
 ·exact e0.aR.fresh (Nat.le_of_lt (x.above y c (PySem.mem_of_lookup h)))
 ·unfold start
  show _=N.length
  rw[zqA,List.length_map,List.length_replicate]
  omega
theorem Na{CX:aG}{P:Program}{w:World}{K:Frag}{mg:Str→Option Value}{base:Heap}{k:Nat}{f:Addr}{name qual:Str}{params:Arguments}{body:List Stmt}{scope:Scope}{dV kV doc pm bX ct oc:Value}{an od:Option Addr}
  {ji:Array (Option Value)} {N ps:List Str} {sp:Sp} (lk:K.lookup f=some ⟨oc,od, .func (fnOf name qual params body scope dV kV doc pm an bX ct),ji⟩) (gU:codeIn K bX qual=true) (S:bh N ps scope)
  (len: ∀vs H Q E,sp vs H Q E→vs.length=ps.length)
  (YW: ∀(A:Around) (outer:List Env) (s:Shared) (H:Hp) (vs:List V) (Q:VK) (E:XK),cE k (A.deeper (envOfC qual scope s.heap.objs.size f bX))→sp vs H Q E→
   ∃t,aY (lL CX P w K mg base N qual scope f bX A outer s H E) body t∧t {nx:=fun _ H'=>Q .az H',rt:=Q} (start N vs) H):
  cG P w K mg base CX (k+1) f (fnOf name qual params body scope dV kV doc pm an bX ct) ps sp:=by
 refine⟨len,fun A outer s H args us vs Q E hr e0 hb r j6=> ?_⟩
 have hl:=len _ _ _ _ j6
 have KX:K.In s.heap:=e0.mod.qG.keeps fun b o e=> (e0.bs b o e).1
 have lim:s.heap.NoLimit:=e0.mod.nolimit.keeps fun b o e=> (e0.bs b o e).1
 have YX: ∀y∈ps.zip us,scope.names.lookup y.1=some .local∨(scope.names.lookup y.1=some .cell∧((cellsFrom (s.heap.objs.size+1) scope.names []).lookup y.1).isSome=true):=fun⟨n,v⟩ hy=>by
  rcases S.par n (List.of_mem_zip hy).1 with q | q
  ·exact .inl q
  ·exact .inr ⟨q,cellsFrom_some _ _ _ (.inl q)⟩
 refine codeAny_call_function hr.depth (KX _ _ lk) rfl S.co S.gen rfl (PySem.W.codeRec_of KX gU) (hb _ _ _ _ ?_)
 refine wpAny_newFunctionEnv_cells S.kind YX fun env he s1 x=> ?_
 subst he
 refine⟨lim.keeps x.toInCall.keep,codeAny_func ?_⟩
 obtain⟨t,ht,hq⟩:=YW A outer s H vs Q E (hr.deeper _) j6
 have I:Inv (lL CX P w K mg base N qual scope f bX A outer s H E) [] (start N vs) H s1:=YV S hr.hd e0 hl r x
 refine wpAny_mono (ht [] s1 (start N vs) H _ I hq) (fun fl s' hs=> ?_) fun e s' hs=>hs
 have fin: ∀{σ':St} {H':Hp} {v:V} {u:Value},Inv (lL CX P w K mg base N qual scope f bX A outer s H E) [] σ' H' s'→RelV v u→Q v H'→CE outer P w H s Q u s':=
  fun {σ' H' v u} J rv q=> ⟨v,H',J.os,J.bare,J.base,J.aR,rv,q⟩
 cases fl with
 | ret u=>
  obtain⟨v,σ',H',J,rv,q⟩:=hs
  exact fin J rv q
 | next=>
  obtain⟨σ',H',J,q⟩:=hs
  exact fin (v:=V.az) (u:=Value.none) J rfl q
 | brk=>
  obtain⟨_,_,_,q⟩:=hs
  exact False.elim q
 | cont=>
  obtain⟨_,_,_,q⟩:=hs
  exact False.elim q
section
variable {X:Cx} {x:Str} {p pos:Pos} {e:Expr} {es:List Expr} {t:TA} {id T:String} {r:List V→Hp→VK→Prop}
def dq(r:List V→Hp→VK→Prop)(t:TA):TE:=fun σ H Q=>t σ H fun vs H1=>r vs H1 Q
theorem uO(hc:b9 X (.builtin id) r)(hg:Gl X x)(hm:X.mg x=none)(hv:bootBuiltins x=some (.builtin id))(ha:PA X (e::es) t)(hn:x≠"__name__":=by decide)(jf:(x==("__debug__":Str))=false:=by decide)
  (he:starEach (e::es) X.env=(false,eval e X.env)::starEach es X.env:=by rfl) (gZ:(backTo pos (starEach es X.env)).any (·.1)=false:=by rfl):PE X (.Call (.Name x p) (e::es) [] pos) (dq r t):=by
 intro pins s σ H Q I h
 refine wpAny_Call_Name_kw (o_ I hg hm hv ?_ hn jf)
 exact PyProof.Rows.callWith_builtin1 (bf (ha pos pins s σ H _ I h) fun us s1 ⟨vs,H1,I1,r1,q1⟩=>hc pins s1 σ H1 vs us Q I1 r1 q1) he gZ
theorem YY(hc:b9 X (.type T) r)(hg:Gl X x)(hm:X.mg x=none)(hv:bootBuiltins x=some (.type T))(ha:PA X (e::es) t)(hn:x≠"__name__":=by decide)(jf:(x==("__debug__":Str))=false:=by decide)
  (he:starEach (e::es) X.env=(false,eval e X.env)::starEach es X.env:=by rfl) (gZ:(backTo pos (starEach es X.env)).any (·.1)=false:=by rfl):PE X (.Call (.Name x p) (e::es) [] pos) (dq r t):=by
 intro pins s σ H Q I h
 refine wpAny_Call_Name_kw (o_ I hg hm hv ?_ hn jf)
 exact PyProof.Rows.callWith_type1 (bf (ha pos pins s σ H _ I h) fun us s1 ⟨vs,H1,I1,r1,q1⟩=>hc pins s1 σ H1 vs us Q I1 r1 q1) he gZ
end
end L2
namespace HT
open PySem PyProof.Rows
section
open PySem.SeqAt
open PySem.AutoSeq1 (wpAny_loadPart')
open PySem.MeetsSeq PySem.MeetsSeq2 PySem.MeetsSeq3
end
section
variable {prog:Program} {w:World} {A:Around} {E:Value→Shared→Prop} {s:Shared}
theorem YZ{t b:Addr}{vs ws:List Value}{Q:Value→Shared→Prop}(ht:IsTup s.heap t vs.toArray)(hb:IsTup s.heap b ws.toArray)(hv:vs≠ [])
  (h1:ws=[]→Q (.ref t) s) (h2:ws≠ []→Q (.ref s.heap.objs.size) {s with heap:=s.heap.push {cls:= .type "tuple",data:= .seq (vs++ws).toArray}})
  (jZ:vs.length+ws.length≤sizeLine):wpAny (model prog w) A (binaryOp .Add (.ref t) (.ref b)) Q E s:=by
 obtain⟨⟨cls,dd,data,sl⟩,ho,hc,n,hd⟩:=id ht
 obtain⟨⟨aEc,Nb,data2,qR⟩,j7,uP,n2,hd2⟩:=id hb
 simp only at hc hd uP hd2
 subst hc hd uP hd2
 have e:vs.toArray++ws.toArray=(vs++ws).toArray:=by simp
 by_cases hw:ws=[]
 ·exact concat_meets ⟨_,ho,rfl⟩ ⟨_,j7,rfl⟩ noFill_tuple_add seq_tuple_add PySem.F.slot_tuple_add PySem.F.entry_tuple_add (PySem.F.args_tuple_add_2 _ _)
   (tuple_addW1 t b vs.toArray ws.toArray n n2 dd Nb sl qR (by simpa using hv) (by simp[hw])) ⟨ho,j7,h1 hw⟩
 ·refine concat_meets ⟨_,ho,rfl⟩ ⟨_,j7,rfl⟩ noFill_tuple_add seq_tuple_add PySem.F.slot_tuple_add PySem.F.entry_tuple_add (PySem.F.args_tuple_add_2 _ _)
   (tuple_addW2 t b vs.toArray ws.toArray n n2 dd Nb sl qR (by simpa using hv) (by simpa using hw) (by rw[List.size_toArray,List.size_toArray];exact jZ)) ⟨ho,j7, ?_⟩
  rw[e]
  exact h2 hw
def bG(n d:Nat):Option Int→Nat
 | none=>d
 | some v=>if v<0 then (v+ (n:Int)).toNat else min v.toNat n
theorem Nc(n d:Nat):bG n d none=d:=rfl
theorem j8(n d k:Nat):bG n d (some (k:Int))=min k n:=by
 show(if (k:Int) <0 then ((k:Int)+ (n:Int)).toNat else min (k:Int).toNat n)=min k n
 rw[if_neg (by omega),Int.toNat_natCast]
theorem yK(n d:Nat)(hd:d≤n)(o:Option Int):bG n d o≤n:=by
 cases o with
 | none=>exact hd
 | some v=>
  show(if v<0 then (v+ (n:Int)).toNat else min v.toNat n)≤n
  by_cases hv:v<0
  ·rw[if_pos hv];omega
  ·rw[if_neg hv];exact Nat.min_le_right _ _
theorem Nf(v:Int)(n d:Nat):(if v<0 then max (v+ (n:Int)) 0 else min v (n:Int))=((bG n d (some v):Nat):Int):=by
 show(if v<0 then max (v+ (n:Int)) 0 else min v (n:Int))=(((if v<0 then (v+ (n:Int)).toNat else min v.toNat n):Nat):Int)
 by_cases hv:v<0
 ·simp only[if_pos hv];omega
 ·simp only[if_neg hv];omega
theorem Y0(lo hi:Option Int)(n:Nat):Builtin.Slice.sliceAdjust lo hi 1 (n:Int)=(((bG n 0 lo:Nat):Int),((bG n n hi:Nat):Int)):=by
 have h1: ¬((1:Int) <0):=by omega
 unfold Builtin.Slice.sliceAdjust
 simp only[h1,if_false]
 refine Prod.ext ?_ ?_
 ·cases lo with
  | none=>rfl
  | some v=>exact Nf v n 0
 ·cases hi with
  | none=>rfl
  | some v=>exact Nf v n n
theorem Y1(i j:Nat):Builtin.Slice.slicePlaces (i:Int) (j:Int) 1=j - i:=by
 unfold Builtin.Slice.slicePlaces
 have h1:(1:Int) >0:=by omega
 simp only[h1,if_true,Int.ediv_one]
 split<;>omega
theorem Ng{v:Value}{o:Option Int}{Q:Option Int→Shared→Prop}(p:IsPart v o)(h:Q o s):wpAny (model prog w) A (Builtin.Slice.slicePartIndex v) Q E s:=by
 cases p with
 | none=>exact slicePart_none h
 | int i t=>exact slicePart_int h
theorem Y2{sl:Addr}{vl vu:Value}{lo hi:Option Int}{n:Nat}{Q:Int×Int×Nat→Shared→Prop}(hs:s.heap.IsSliceOf sl vl vu .none)(pl:IsPart vl lo)(pu:IsPart vu hi)
  (h:Q (((bG n 0 lo:Nat):Int),1,bG n n hi - bG n 0 lo) s):wpAny (model prog w) A (Builtin.Slice.sliceApplied (.ref sl) (pure (n:Int))) Q E s:=by
 obtain⟨os,qS,Nh,uQ⟩:=id hs
 unfold Builtin.Slice.sliceApplied Builtin.Slice.sliceFields
 refine wpAny_bind (wpAny_bind (wpAny_field qS uQ (x:=vl) rfl (wpAny_bind (wpAny_field qS uQ (x:=vu) rfl (wpAny_bind (wpAny_field qS uQ (x:= .none) rfl (wpAny_pure ?_)))))))
 refine wpAny_bind (slicePart_none ?_)
 show wpAny _ _ (if ((1:Int)==0)=true then _ else _) _ _ s
 rw[if_neg (by decide)]
 refine wpAny_bind (Ng pl (wpAny_bind (Ng pu (wpAny_bind (wpAny_pure ?_)))))
 show wpAny _ _ (match Builtin.Slice.sliceAdjust lo hi 1 (n:Int) with | (lo,hi)=>pure (lo,(1:Int),Builtin.Slice.slicePlaces lo hi 1)) _ _ s
 rw[Y0 lo hi n]
 show wpAny _ _ (pure (((bG n 0 lo:Nat):Int),(1:Int),Builtin.Slice.slicePlaces ((bG n 0 lo:Nat):Int) ((bG n n hi:Nat):Int) 1)) _ _ s
 rw[Y1]
 exact wpAny_pure h
theorem Y3(xs:Array Value)(i k:Nat):((List.range k).filterMap fun(m:Nat)=>xs[((i:Int)+ (m:Int)*1).toNat]?).toArray=((xs.toList.drop i).take k).toArray:=by
 have e:(fun(m:Nat)=>xs[((i:Int)+ (m:Int)*1).toNat]?)=fun m=>xs[i+m]?:=by
  funext m
  have:((i:Int)+ (m:Int)*1).toNat=i+m:=by omega
  rw[this]
 rw[e]
 have:=pick_run xs i k
 rw[List.filterMap_map] at this
 have e2:((fun x=>xs[x]?)∘fun x=>i+x)=fun m=>xs[i+m]?:=rfl
 rw[e2] at this
 rw[this]
theorem Y4{t sl:Addr}{items:Array Value}{vl vu:Value}{lo hi:Option Int}{Q:Value→Shared→Prop}(ht:IsTup s.heap t items)(hs:s.heap.IsSliceOf sl vl vu .none)(pl:IsPart vl lo)(pu:IsPart vu hi)
  (hw: ¬(bG items.size 0 lo=0∧bG items.size items.size hi=items.size))
  (h:Q (.ref s.heap.objs.size) {s with heap:=s.heap.push {cls:= .type "tuple",data:= .seq ((items.toList.drop (bG items.size 0 lo)).take (bG items.size items.size hi - bG items.size 0 lo)).toArray}})
  (jZ:items.size≤sizeLine):wpAny (model prog w) A (getItem (.ref t) (.ref sl)) Q E s:=by
 have uR:sizeOk (.seq ((items.toList.drop (bG items.size 0 lo)).take (bG items.size items.size hi - bG items.size 0 lo)).toArray):=by
  show((items.toList.drop (bG items.size 0 lo)).take (bG items.size items.size hi - bG items.size 0 lo)).toArray.size≤sizeLine
  rw[List.size_toArray,List.length_take,List.length_drop,Array.length_toList]
  omega
 have hj:bG items.size items.size hi≤items.size:=yK _ _ (zqR _) hi
 obtain⟨os,qS,Nh,uQ⟩:=id hs
 have Y5:s.TypeIs (.ref sl) "slice":=⟨os,qS,Nh⟩
 unfold getItem
 try with_reducible refine wpAny_holding ?_
 first | refine wpAny_bind (wpAny_pure ?_) | skip
 refine wpAny_bind (wpAny_sequenceKey ht.typeIs (by decide) ?_)
 refine wpAny_bind (wpAny_callSpecial?_slot (name:=Str.ofString "__getitem__") ht.typeIs PyProof.Rows.slot_tuple_getitem
  (wpAny_call_entry PyProof.Rows.slot_tuple_getitem ht.typeIs entry_tuple_getitem ?_ (args_tuple_getitem _ _)))
 show wpAny _ _ (Builtin.Tuple.tupleItemsOf (.ref t) >>=_) _ _ s
 refine wpAny_bind (tupleItemsOf_ ht ?_)
 refine wpAny_bind (wpAny_typeOf Y5 ?_)
 rw[if_pos (by decide)]
 refine wpAny_bind (Y2 hs pl pu ?_)
 have Y6: ¬((((bG items.size 0 lo:Nat):Int)==0 && (1:Int)==1 && (bG items.size items.size hi - bG items.size 0 lo)==items.size)=true):=by
  intro q
  rw[Bool.and_eq_true,Bool.and_eq_true] at q
  have q1:((bG items.size 0 lo:Nat):Int)=0:=eq_of_beq q.1.1
  have q2:bG items.size items.size hi - bG items.size 0 lo=items.size:=eq_of_beq q.2
  exact hw ⟨by omega,by omega⟩
 show wpAny _ _ (if (((bG items.size 0 lo:Nat):Int)==0 && (1:Int)==1 && (bG items.size items.size hi - bG items.size 0 lo)==items.size)=true then _ else _) _ _ s
 rw[if_neg Y6,Y3]
 first
  | exact wpAny_bind (m:=Builtin.Tuple.tupleExact _) (wpAny_newObj_type (wpAny_pure ⟨_,rfl,wpAny_pure h⟩) uR)
  | exact wpAny_bind (m:=Builtin.Tuple.tupleExact _) (wpAny_newObj_type (wpAny_bind (wpAny_pure (wpAny_pure ⟨_,rfl,wpAny_pure h⟩))) uR)
  | exact wpAny_bind (wpAny_bind (m:=Builtin.Tuple.tupleExact _) (wpAny_newObj_type (wpAny_pure (wpAny_pure ⟨_,rfl,wpAny_pure h⟩)) uR))
  | exact wpAny_bind (wpAny_bind (m:=Builtin.Tuple.tupleExact _) (wpAny_newObj_type (wpAny_pure ⟨_,rfl,wpAny_pure h⟩) uR))
end
end HT
namespace L2
open PySem PySem.Spec PyProof.Rows
abbrev TO:=St→Hp→(Option Int→Hp→Prop)→Prop
def PO(X:Cx)(e:Option Expr)(t:TO):Prop:=
 ∀(pins:List (Addr×Obj)) (s:Shared) (σ:St) (H:Hp) (Q:Option Int→Hp→Prop),Inv X pins σ H s→t σ H Q→
  wpAny (model X.prog X.w) X.A (evalPart e X.env) (fun u s'=> ∃o H',Inv X pins σ H' s'∧IsPart u o∧Q o H') X.xe s
def Ni:TO:=fun _ H Q=>Q none H
def uS(t:TE):TO:=fun σ H Q=>t σ H fun x H1=> ∃i,x= .int i∧Q (some i) H1
theorem intsAre_of{ns:List Int}: ∀{us:List Value},Vals (ns.map V.int) us→IntsAre us ns:=by
 induction ns with
 | nil=>intro us r;rw[List.map_nil] at r;cases r;exact .nil
 | cons n ns ih=>
  intro us r
  rw[List.map_cons] at r
  cases r with
  | cons r1 r2=>
   obtain⟨t,e⟩:=r1
   subst e
   exact .cons n t (ih r2)
section
variable {X:Cx} {e:Expr} {te:TE} {lo hi:Option Expr} {tl th:TO} {pos p2:Pos}
theorem Y7:PO X none Ni:=by
 intro pins s σ H Q I h
 rw[evalPart_none]
 exact wpAny_pure ⟨none,H,I, .none,h⟩
theorem Y8(h:PE X e te):PO X (some e) (uS te):=by
 intro pins s σ H Q I hw
 rw[evalPart_some]
 refine bf (h pins s σ H _ I hw) fun u s1 ⟨x,H1,I1,r1,q1⟩=> ?_
 obtain⟨i,rfl,q⟩:=q1
 obtain⟨t,rfl⟩:=r1
 exact⟨some i,H1,I1, .int i t,q⟩
def uT(X:Cx)(r:V→Option Int→Option Int→Hp→VK→Prop):Prop:=
 ∀(pins:List (Addr×Obj)) (s:Shared) (σ:St) (H:Hp) (x:V) (v vl vu:Value) (lo hi:Option Int) (sl:Addr) (Q:VK),Inv X pins σ H s→RelV x v→s.heap.IsSliceOf sl vl vu .none→IsPart vl lo→IsPart vu hi→r x lo hi H Q→
  ∃T id,typeLookup (.type T) "__getitem__"=pure (some (.builtin id))∧s.TypeIs v T∧wpAny (model X.prog X.w) X.A (getItem v (.ref sl)) (EP X pins σ Q) X.xe s
def yL(r:V→Option Int→Option Int→Hp→VK→Prop)(te:TE)(tl th:TO):TE:=fun σ H Q=>te σ H fun x H1=>tl σ H1 fun l H2=>th σ H2 fun u H3=>r x l u H3 Q
theorem Y9{r:V→Option Int→Option Int→Hp→VK→Prop}(hr:uT X r)(he:PE X e te)(hl:PO X lo tl)(hu:PO X hi th):PE X (.Subscript e (.Slice lo hi none p2) pos) (yL r te tl th):=by
 intro pins s σ H Q I h
 refine Subscript_ (bf (he pins s σ H _ I h) fun v s1 ⟨x,H1,I1,r1,q1⟩=> ?_)
 refine wpAny_Slice (bf (hl pins s1 σ H1 _ I1 q1) fun vl s2 ⟨l,H2,I2,pl,q2⟩=>bf (hu pins s2 σ H2 _ I2 q2) fun vu s3 ⟨u,H3,I3,pu,q3⟩=> ?_)
 rw[evalPart_none]
 refine wpAny_pure ?_
 have I4:Inv X pins σ H3 {s3 with heap:=s3.heap.push {cls:= .type "slice",data:= .fields #[vl,vu, .none]}}:=I3.kept (t':=s3.toks) fun b ob q=>Heap.get?_push_of_some _ q
 obtain⟨T,id,hT,ht,hg⟩:=hr pins {s3 with heap:=s3.heap.push {cls:= .type "slice",data:= .fields #[vl,vu, .none]}} σ H3 x v vl vu l u s3.heap.objs.size Q I4 r1 (Heap.IsSliceOf.new ..) pl pu q3
 show wpAny (model X.prog X.w) X.A (subscriptTail e (.Slice lo hi none p2) v (.ref s3.heap.objs.size)) (EP X pins σ Q) X.xe {s3 with heap:=s3.heap.push {cls:= .type "slice",data:= .fields #[vl,vu, .none]}}
 exact tail_any (ops:=[.ref s3.heap.objs.size,v]) ht hT hg (by with_unfolding_all rfl)
def eK(xs:List V)(lo hi:Option Int):List V:=(xs.drop (HT.bG xs.length 0 lo)).take (HT.bG xs.length xs.length hi - HT.bG xs.length 0 lo)
theorem Nj(xs:List V)(lo hi:Option Int):(eK xs lo hi).length≤xs.length:=by
 unfold eK
 rw[List.length_take,List.length_drop]
 omega
def Y_(K:Frag):V→Option Int→Option Int→Hp→VK→Prop:=fun x lo hi H Q=> ∃a xs,x= .ref a∧bo K H a xs∧
 ¬(HT.bG xs.length 0 lo=0∧HT.bG xs.length xs.length hi=xs.length)∧ ∀p,H p=none→Q (.ref p) (upd H p (.tup (eK xs lo hi)))
theorem Za:uT X (Y_ X.K):=by
 intro pins s σ H x v vl vu lo hi sl Q I rx hs pl pu h
 obtain⟨a,xs,rfl,hx,hw,q⟩:=h
 cases rx
 obtain⟨its,r,ht,hz⟩:=I.tuple hx
 have hlen:its.toArray.size=xs.length:=by rw[List.size_toArray];exact r.length.symm
 refine⟨"tuple",_,PyProof.Rows.slot_tuple_getitem.lookup,ht.typeIs, ?_⟩
 refine HT.Y4 ht hs pl pu (by rw[hlen];exact hw) ?_ (by rw[hlen];exact hz)
 rw[hlen]
 refine⟨.ref s.heap.objs.size,_,I.laid (t':=s.toks) (o:= .tup (eK xs lo hi)) (fun b ob q=>Heap.get?_push_of_some _ q) (zqR _) ?_,rfl,q _ (I.aR.fresh (zqR _))⟩
 exact⟨Nat.le_trans (Nj xs lo hi) hz,_,(r.drop (HT.bG xs.length 0 lo)).take (HT.bG xs.length xs.length hi - HT.bG xs.length 0 lo),IsTup.new _ _⟩
def Nk(K:Frag):R2:=fun x y H Q=> ∃a b xs ys,x= .ref a∧y= .ref b∧bo K H a xs∧bo K H b ys∧xs≠ []∧xs.length+ys.length≤sizeLine∧
 (ys=[]→Q (.ref a) H)∧(ys≠ []→ ∀p,H p=none→Q (.ref p) (upd H p (.tup (xs++ys))))
theorem Vals.yM{xs:List V}{us:List Value}(r:Vals xs us):us=[]↔xs=[]:=by
 cases r with
 | nil=>simp
 | cons _ _=>simp
theorem Zb:bI X (binaryOp .Add) (Nk X.K):=by
 intro pins s σ H x y v u Q I rx ry h
 obtain⟨a,b,xs,ys,rfl,rfl,ha,hb,hx,hz,q1,q2⟩:=h
 cases rx
 cases ry
 obtain⟨its,r1,p1,_⟩:=I.tuple ha
 obtain⟨eP,r2,p2,_⟩:=I.tuple hb
 refine HT.YZ p1 p2 (fun z=>hx (r1.yM.mp z)) (fun z=> ⟨.ref a,H,I,rfl,q1 (r2.yM.mp z)⟩) (fun z=> ?_) (by rw[←r1.length,←r2.length];exact hz)
 refine⟨.ref s.heap.objs.size,_,I.laid (t':=s.toks) (o:= .tup (xs++ys)) (fun b ob q=>Heap.get?_push_of_some _ q) (zqR _) ?_,rfl,q2 (fun w=>z (r2.yM.mpr w)) _ (I.aR.fresh (zqR _))⟩
 exact⟨by rw[zqA];exact hz,_,r1.append r2,IsTup.new _ _⟩
end
def g4(n:Nat)(i:Int):Option Nat:=if 0≤i then (if i<n then some i.toNat else none) else if -(n:Int)≤i then some (i+n).toNat else none
def dP{α:Type}(xs:List α)(i:Int):Option α:=(g4 xs.length i).bind fun j=>xs[j]?
theorem Nl{n:Nat}{i:Int}{j:Nat}(h:g4 n i=some j):seqIndex? i n=some j∧j<n∧ -(n:Int)≤i∧i<n:=by
 unfold g4 at h
 by_cases h0:0≤i
 ·rw[if_pos h0] at h
  by_cases h1:i<n
  ·rw[if_pos h1] at h
   have e:i.toNat=j:=Option.some.inj h
   exact⟨by rw[seqIndex_of h0 h1,e],by omega,by omega,h1⟩
  ·rw[if_neg h1] at h;cases h
 ·rw[if_neg h0] at h
  by_cases h1: -(n:Int)≤i
  ·rw[if_pos h1] at h
   have e:(i+n).toNat=j:=Option.some.inj h
   exact⟨by rw[seqIndex_neg (by omega) h1,e],by omega,h1,by omega⟩
  ·rw[if_neg h1] at h;cases h
theorem yN{α:Type}{xs:List α}{i:Int}{v:α}(h:dP xs i=some v): ∃j,seqIndex? i xs.length=some j∧xs[j]?=some v∧j<xs.length∧ -(xs.length:Int)≤i∧i<xs.length:=by
 unfold dP at h
 cases e:g4 xs.length i with
 | none=>rw[e] at h;cases h
 | some j=>
  rw[e] at h
  obtain⟨h1,h2,h3,h4⟩:=Nl e
  exact⟨j,h1,h,h2,h3,h4⟩
theorem jj{α:Type}{xs:List α}{j:Nat}{v:α}(h:xs[j]?=some v):dP xs (j:Int)=some v:=by
 have hj:j<xs.length:=(List.getElem?_eq_some_iff.mp h).1
 have e:g4 xs.length (j:Int)=some j:=by
  unfold g4
  rw[if_pos (by omega),if_pos (by omega)];simp
 unfold dP;rw[e];exact h
theorem Nm{α:Type}(xs:List α)(v:α):dP (xs++ [v]) (-1)=some v:=by
 have hl:(xs++ [v]).length=xs.length+1:=by simp
 have e:g4 (xs++ [v]).length (-1)=some xs.length:=by
  unfold g4
  rw[hl,if_neg (by decide),if_pos (by omega)]
  congr 1
  omega
 unfold dP
 rw[e]
 show(xs++ [v])[xs.length]?=some v
 simp
def Nn(b:Expr):Prop:= ∀o i,subscripted b false o i=operate [o,i] (getItem o i)
def iG(X:Cx)(r:R2):Prop:=
 ∀(value slice:Expr) (pins:List (Addr×Obj)) (s:Shared) (σ:St) (H:Hp) (x y:V) (v u:Value) (Q:VK),Inv X pins σ H s→RelV x v→RelV y u→r x y H Q→
  subscripted slice false v u=operate [v,u] (getItem v u)→wpAny (model X.prog X.w) X.A (subscriptTail value slice v u) (EP X pins σ Q) X.xe s
def iH(X:Cx)(id:String)(r:V→List V→Hp→VK→Prop):Prop:=
 ∀(pins:List (Addr×Obj)) (s:Shared) (σ:St) (H:Hp) (x:V) (xs:List V) (v:Value) (us:List Value) (Q:VK),Inv X pins σ H s→RelV x v→Vals xs us→r x xs H Q→
  wpAny (model X.prog X.w) X.A (call (.builtin id) (v::us)) (EP X pins σ Q) X.xe s
section
variable {X:Cx} {a b:Expr} {ta tb:TE} {pos:Pos}
theorem iG.or{r r':R2}(h:iG X r)(h':iG X r'):iG X (fun x y H Q=>r x y H Q∨r' x y H Q):=by
 intro value slice pins s σ H x y v u Q I rx ry q hs
 rcases q with q | q
 ·exact h value slice pins s σ H x y v u Q I rx ry q hs
 ·exact h' value slice pins s σ H x y v u Q I rx ry q hs
theorem Zc{r:R2}(hr:iG X r)(ha:PE X a ta)(hb:PE X b tb)(hs:Nn b):PE X (.Subscript a b pos) (dN r ta tb):=by
 intro pins s σ H Q I h
 exact Subscript_ (yC ha hb I h fun v u s2 x y H2 I2 rx ry q=>hr a b pins s2 σ H2 x y v u Q I2 rx ry q (hs _ _))
def Np(K:Frag):R2:=fun x y H Q=> ∃p xs i v,x= .ref p∧y= .int i∧aM K H p xs∧dP xs i=some v∧Q v H
def Nq(K:Frag):R2:=fun x y H Q=> ∃p xs i v,x= .ref p∧y= .int i∧bo K H p xs∧dP xs i=some v∧Q v H
def Nr:R2:=fun x y H Q=> ∃z i c,x= .str z∧y= .int i∧z.length≤sizeLine∧dP z.cps.toList i=some c∧Q (.str ⟨#[c]⟩) H
theorem Zd:iG X (Np X.K):=by
 intro value slice pins s σ H x y v u Q I rx ry h hs
 obtain⟨p,xs,i,z,rfl,rfl,hq,he,q⟩:=h
 cases rx
 obtain⟨t,rfl⟩:=ry
 obtain⟨its,r,pl,hz⟩:=I.list hq
 obtain⟨j,h1,h2,h3,h4,h5⟩:=yN he
 obtain⟨w,ew,lM⟩:=r.get h2
 have hl:=r.length
 have hn:=jY
 have fin:EP X pins σ Q w s:=⟨z,H,I,lM,q⟩
 by_cases h0:0≤i
 ·have hj:i.toNat=j:=by
   rw[seqIndex_of h0 h5] at h1
   exact Option.some.inj h1
  exact item_listR pl.isList h0 (by omega) (by rw[hj];simpa using ew) fin hs
 ·have hj:(i+ (its.toArray.size:Int)).toNat=j:=by
   rw[seqIndex_neg (by omega) h4] at h1
   rw[List.size_toArray,←hl]
   exact Option.some.inj h1
  exact subscriptTail_builtinR (x:=w) pl.isList.typeIs slot_list_getitem.lookup
   (wpAny_getItem_list_neg (Q:=fun r s'=>r=w∧EP X pins σ Q r s') pl.isList (by omega) (by rw[List.size_toArray] <;>omega) (by omega) (by rw[hj];simpa using ew) ⟨rfl,fin⟩) hs
theorem Ze:iG X (Nq X.K):=by
 intro value slice pins s σ H x y v u Q I rx ry h hs
 obtain⟨p,xs,i,z,rfl,rfl,hq,he,q⟩:=h
 cases rx
 obtain⟨t,rfl⟩:=ry
 obtain⟨its,r,pl,hz⟩:=I.tuple hq
 obtain⟨j,h1,h2,h3,h4,h5⟩:=yN he
 obtain⟨w,ew,lM⟩:=r.get h2
 have hl:=r.length
 have hn:=jY
 have fin:EP X pins σ Q w s:=⟨z,H,I,lM,q⟩
 exact subscriptTail_builtinR (x:=w) pl.typeIs slot_tuple_getitem.lookup
  (getItem_tuple (j:=j) (Q:=fun r s'=>r=w∧EP X pins σ Q r s') pl (by omega) (by omega) (by rw[List.size_toArray,←hl];exact h1) (by simpa using ew) ⟨rfl,fin⟩) hs
theorem Zf:iG X Nr:=by
 intro value slice pins s σ H x y v u Q I rx ry h hs
 obtain⟨z,i,c,rfl,rfl,hz,he,q⟩:=h
 obtain⟨t,rfl⟩:=rx
 obtain⟨t',rfl⟩:=ry
 obtain⟨j,h1,h2,h3,h4,h5⟩:=yN he
 have hl:z.cps.toList.length=z.length:=by simp[Str.length]
 rw[hl] at h1 h4 h5
 have hn:=jY
 exact tail_any (typeIs_str s z t) slot_str_getitem.lookup (getItem_str (c:=c) (by
  have e1:decide (i< -(2 ^ 63:Int))=false:=zqF (by omega)
  have e2:decide (i≥2 ^ 63)=false:=zqF (by omega)
  rw[e1,e2,Bool.or_false]) (by rw[h1];simpa using h2) ⟨.str ⟨#[c]⟩,H,I.tok _,⟨_,rfl⟩,q⟩) hs
theorem Zg(its:List Value)(n j:Nat)(u:Value):Obj.mapSeq (·.setIfInBounds j u) {cls:= .type "list",data:= .seq its.toArray n}={cls:= .type "list",data:= .seq (its.set j u).toArray n}:=by
 simp[Obj.mapSeq]
theorem Inv.lst{pins:List (Addr×Obj)}{σ:St}{H:Hp}{s:Shared}{p:Addr}{xs:List V}(I:Inv X pins σ H s)(h:H p=some (.lst xs)):
  ∃(its:List Value) (n:Nat),Vals xs its∧s.heap.get? p=some {cls:= .type "list",data:= .seq its.toArray n}∧xs.length≤sizeLine:=by
 obtain⟨z,its,n,r,e⟩:=I.aR p _ h
 exact⟨its,n,r,e,z⟩
theorem Inv.Zh{pins:List (Addr×Obj)}{σ:St}{H:Hp}{s:Shared}{p:Addr}{xs ys:List V}{its eI:List Value}{n n':Nat}{f:Obj→Obj}(I:Inv X pins σ H s)(h:H p=some (.lst xs))
  (ho:s.heap.get? p=some {cls:= .type "list",data:= .seq its.toArray n}) (hf:f {cls:= .type "list",data:= .seq its.toArray n}={cls:= .type "list",data:= .seq eI.toArray n'}) (r:Vals ys eI) (hz:ys.length≤sizeLine) (t:Nat):
  Inv X pins σ (upd H p (.lst ys)) {s with heap:=s.heap.update p f,toks:=t}:=by
 have e:(s.heap.update p f).get? p=some {cls:= .type "list",data:= .seq eI.toArray n'}:=by
  rw[Heap.get?_update_self f ho (by rw[hf] <;>rfl),hf]
 refine I.write (x:=p) (e:=p) (by rw[h];trivial) (.inl rfl) (fun b u hb q=> (Heap.get?_update_other _ _ (Ne.symm hb)).trans q) ⟨_,e⟩ ?_
 exact⟨hz,eI,n',r,e⟩
def yO:V→V→V→Hp→(Hp→Prop)→Prop:=fun o i v H Q=> ∃p xs k j,o= .ref p∧i= .int k∧H p=some (.lst xs)∧g4 xs.length k=some j∧Q (upd H p (.lst (xs.set j v)))
theorem set_list:Mz X yO:=by
 intro pins s σ H o i v ov iv u Q I ro ri rv h
 obtain⟨p,xs,k,j,rfl,rfl,hp,hj,q⟩:=h
 cases ro
 obtain⟨t,rfl⟩:=ri
 obtain⟨its,n,r,ho,hz⟩:=I.lst hp
 obtain⟨h1,h2,h3,h4⟩:=Nl hj
 have hl:=r.length
 have hn:=jY
 have I':Inv X pins σ (upd H p (.lst (xs.set j v))) {s with heap:=s.heap.update p (Obj.mapSeq (·.setIfInBounds j u))}:=
  I.Zh hp ho (Zg its n j u) (r.set rv j) (by rw[List.length_set];exact hz) s.toks
 by_cases h0:0≤k
 ·have hk:k.toNat=j:=by
   rw[seqIndex_of h0 h4] at h1
   exact Option.some.inj h1
  exact PySem.W.ki_setAt ho h0 (by omega) (by rw[List.size_toArray,←hl];exact h4) (by rw[hk];exact⟨_,I',q⟩)
 ·have hk:(k+ (its.toArray.size:Int)).toNat=j:=by
   rw[seqIndex_neg (by omega) h3] at h1
   rw[List.size_toArray,←hl]
   exact Option.some.inj h1
  exact PySem.W.ki_setBack ho (by omega) (by rw[List.size_toArray,←hl];exact h3) (by omega) (by rw[hk];exact⟨_,I',q⟩)
theorem yP(lo hi:Option Int)(n:Nat):(sliceBounds lo hi none n).1=((HT.bG n 0 lo:Nat):Int)∧(sliceBounds lo hi none n).2.1=((HT.bG n n hi:Nat):Int)∧(sliceBounds lo hi none n).2.2=1:=by
 refine⟨?_, ?_,rfl⟩
 ·cases lo with
  | none=>simp[sliceBounds,HT.bG]
  | some i=>
   simp only[sliceBounds,HT.bG,Option.getD_none,show(1:Int) >0 by decide,if_true]
   by_cases h:i<0
   ·simp only[h,if_true] <;>omega
   ·simp only[h,if_false] <;>omega
 ·cases hi with
  | none=>simp[sliceBounds,HT.bG]
  | some i=>
   simp only[sliceBounds,HT.bG,Option.getD_none,show(1:Int) >0 by decide,if_true]
   by_cases h:i<0
   ·simp only[h,if_true] <;>omega
   ·simp only[h,if_false] <;>omega
theorem Zi(its:List Value)(lo hi:Option Int):slicePick its.toArray lo hi none=((its.drop (HT.bG its.length 0 lo)).take (HT.bG its.length its.length hi - HT.bG its.length 0 lo)).toArray:=by
 obtain⟨h1,h2,h3⟩:=yP lo hi its.toArray.size
 unfold slicePick
 rw[h1,h2,h3]
 simp only[sliceRange_one,pick_run,List.size_toArray] <;>rfl
def Zj(K:Frag):V→Option Int→Option Int→Hp→VK→Prop:=fun x lo hi H Q=> ∃a xs,x= .ref a∧aM K H a xs∧ ∀p,H p=none→Q (.ref p) (upd H p (.lst (eK xs lo hi)))
theorem Zk:uT X (Zj X.K):=by
 intro pins s σ H x v vl vu lo hi sl Q I rx hs pl pu h
 obtain⟨a,xs,rfl,hx,q⟩:=h
 cases rx
 obtain⟨its,r,ht,hz⟩:=I.list hx
 have hlen:=r.length
 refine⟨"list",_,slot_list_getitem.lookup,ht.isList.typeIs, ?_⟩
 refine wpAny_getItem_list_slice ht.isList hs pl pu .none (by simp) ?_ (by rw[List.size_toArray] <;>omega)
 rw[Zi,←hlen]
 refine⟨.ref s.heap.objs.size,_,I.laid (t':=s.toks) (o:= .lst (eK xs lo hi)) (fun b ob q=>Heap.get?_push_of_some _ q) (zqR _) ?_,rfl,q _ (I.aR.fresh (zqR _))⟩
 exact⟨Nat.le_trans (Nj xs lo hi) hz,_,0,(r.drop (HT.bG xs.length 0 lo)).take (HT.bG xs.length xs.length hi - HT.bG xs.length 0 lo),Heap.get?_push_size _ rfl⟩
def dQ:V→Bool
 | .az=>true
 | .bl _=>true
 | .int _=>true
 | .str _=>true
 | _=>false
def d0:V→V→Bool
 | .az, .az=>true
 | .bl a, .bl b=>a==b
 | .bl a, .int b=> (if a then 1 else 0)==b
 | .int a, .bl b=>a==(if b then 1 else 0)
 | .int a, .int b=>a==b
 | .str a, .str b=>a==b
 | _,_=>false
theorem Zl{A:Around}{s:Shared}{y x:V}{u v:Value}(ry:RelV y u)(rx:RelV x v)(fy:dQ y=true)(fx:dQ x=true):SeqAt.EqAt A s u v (d0 y x):=by
 cases y with
 | az=>
  cases ry
  cases x with
  | az=>cases rx;exact SeqAt.EqAt.same _
  | bl b=>cases rx;exact SeqAt.EqAt.none_bool b
  | int b=>obtain⟨t,rfl⟩:=rx;exact SeqAt.EqAt.none_int b t
  | str b=>obtain⟨t,rfl⟩:=rx;exact SeqAt.EqAt.none_str b t
  | _=>exact absurd (show false=true from fx) Bool.false_ne_true
 | bl a=>
  cases ry
  cases x with
  | az=>cases rx;exact SeqAt.EqAt.bool_none a
  | bl b=>cases rx;exact SeqAt.EqAt.bool_bool a b
  | int b=>obtain⟨t,rfl⟩:=rx;exact SeqAt.EqAt.bool_int a b t
  | str b=>obtain⟨t,rfl⟩:=rx;exact SeqAt.EqAt.bool_str a b t
  | _=>exact absurd (show false=true from fx) Bool.false_ne_true
 | int a=>
  obtain⟨t',rfl⟩:=ry
  cases x with
  | az=>cases rx;exact SeqAt.EqAt.int_none a t'
  | bl b=>cases rx;exact SeqAt.EqAt.int_bool a t' b
  | int b=>obtain⟨t,rfl⟩:=rx;exact SeqAt.EqAt.int_int a t' b t
  | str b=>obtain⟨t,rfl⟩:=rx;exact SeqAt.EqAt.int_str a t' b t
  | _=>exact absurd (show false=true from fx) Bool.false_ne_true
 | str a=>
  obtain⟨t',rfl⟩:=ry
  cases x with
  | az=>cases rx;exact SeqAt.EqAt.str_none a t'
  | bl b=>cases rx;exact SeqAt.EqAt.str_bool a t' b
  | int b=>obtain⟨t,rfl⟩:=rx;exact SeqAt.EqAt.str_int a t' b t
  | str b=>obtain⟨t,rfl⟩:=rx;exact SeqAt.EqAt.str_str a t' b t
  | _=>exact absurd (show false=true from fx) Bool.false_ne_true
 | _=>exact absurd (show false=true from fy) Bool.false_ne_true
def dy(x:V)(u:Value):Bool:=match u with
 | .none=>d0 .az x
 | .bool b=>d0 (.bl b) x
 | .int i _=>d0 (.int i) x
 | .str z _=>d0 (.str z) x
 | _=>false
theorem uU{x y:V}{u:Value}(r:RelV y u)(f:dQ y=true):dy x u=d0 y x:=by
 cases y with
 | az=>cases r;rfl
 | bl b=>cases r;rfl
 | int i=>obtain⟨t,rfl⟩:=r;rfl
 | str z=>obtain⟨t,rfl⟩:=r;rfl
 | _=>exact absurd (show false=true from f) Bool.false_ne_true
theorem qT{x:V}: ∀{xs:List V} {us:List Value},Vals xs us→xs.all dQ=true→us.any (dy x)=xs.any fun y=>d0 y x
 | _,_, .nil,_=>rfl
 | y::xs,u::us, .cons r t,f=>by
  rw[List.all_cons,Bool.and_eq_true] at f
  rw[List.any_cons,List.any_cons,uU r f.1,qT t f.2]
theorem lN{A:Around}{s:Shared}{x:V}{v:Value}(rx:RelV x v)(fx:dQ x=true): ∀{xs:List V} {us:List Value},Vals xs us→xs.all dQ=true→ ∀u∈us,SeqAt.EqAt A s u v (dy x u)
 | _,_, .nil,_=>fun u hu=>by cases hu
 | y::xs,u::us, .cons r t,f=>fun u' hu=>by
  rw[List.all_cons,Bool.and_eq_true] at f
  rcases List.mem_cons.mp hu with rfl | hu
  ·rw[uU r f.1];exact Zl r rx f.1 fx
  ·exact lN rx fx t f.2 u' hu
def d5(x:V)(xs:List V):Bool:=xs.any fun y=>d0 y x
def yQ(K:Frag)(neg:Bool):R2:=fun x y H Q=> ∃p xs,y= .ref p∧(aM K H p xs∨bo K H p xs)∧dQ x=true∧xs.all dQ=true∧Q (.bl (if neg then !d5 x xs else d5 x xs)) H
theorem Zm:bI X (compareOp .In) (yQ X.K false):=by
 intro pins s σ H x y v u Q I rx ry h
 obtain⟨p,xs,rfl,hq,fx,fs,q⟩:=h
 cases ry
 rcases hq with hq | hq
 ·obtain⟨its,r,pl,hz⟩:=I.list hq
  refine SeqAt.in_listAt (dy x) pl.isList (fun w hw=>lN rx fx r fs w (by simpa using hw)) ⟨.bl _,H,I,rfl, ?_⟩
  rw[show its.toArray.any (dy x)=its.any (dy x) by simp,qT r fs]
  exact q
 ·obtain⟨its,r,pl,hz⟩:=I.tuple hq
  refine SeqAt.in_tupleAt (dy x) pl (fun w hw=>lN rx fx r fs w (by simpa using hw)) ⟨.bl _,H,I,rfl, ?_⟩
  rw[show its.toArray.any (dy x)=its.any (dy x) by simp,qT r fs]
  exact q
theorem Zn:bI X (compareOp .NotIn) (yQ X.K true):=by
 intro pins s σ H x y v u Q I rx ry h
 obtain⟨p,xs,rfl,hq,fx,fs,q⟩:=h
 cases ry
 rcases hq with hq | hq
 ·obtain⟨its,r,pl,hz⟩:=I.list hq
  refine SeqAt.notIn_listAt (dy x) pl.isList (fun w hw=>lN rx fx r fs w (by simpa using hw)) ⟨.bl _,H,I,rfl, ?_⟩
  rw[show its.toArray.any (dy x)=its.any (dy x) by simp,qT r fs]
  exact q
 ·obtain⟨its,r,pl,hz⟩:=I.tuple hq
  refine SeqAt.notIn_tupleAt (dy x) pl (fun w hw=>lN rx fx r fs w (by simpa using hw)) ⟨.bl _,H,I,rfl, ?_⟩
  rw[show its.toArray.any (dy x)=its.any (dy x) by simp,qT r fs]
  exact q
theorem b9.or{f:Value}{r r':List V→Hp→VK→Prop}(h:b9 X f r)(h':b9 X f r'):b9 X f (fun xs H Q=>r xs H Q∨r' xs H Q):=by
 intro pins s σ H xs us Q I rs q
 rcases q with q | q
 ·exact h pins s σ H xs us Q I rs q
 ·exact h' pins s σ H xs us Q I rs q
theorem Zo:b9 X (.type "list") (fun xs H Q=> ∃p ys,xs=[.ref p]∧(aM X.K H p ys∨bo X.K H p ys)∧ ∀l,H l=none→Q (.ref l) (upd H l (.lst ys))):=by
 intro pins s σ H xs us Q I r h
 obtain⟨p,ys,rfl,hq,q⟩:=h
 obtain⟨u,rfl,rx⟩:=vals1 r
 cases rx
 have fin: ∀(its:List Value),Vals ys its→ys.length≤sizeLine→ ∀(h':Heap) (c':Nat),(∀b o',s.heap.get? b=some o'→h'.get? b=some o')→
   h'.get? s.heap.objs.size=some {cls:= .type "list",dict:=none,data:= .seq its.toArray c',slots:= #[]}→EP X pins σ Q (.ref s.heap.objs.size) {s with heap:=h'}:=fun its r' hz h' c' kp e=>
  ⟨.ref s.heap.objs.size,_,I.laid (t':=s.toks) kp (zqR _) (show cO X.prog X.w _ h' _ (.lst ys) from⟨hz,its,c',r',e⟩),rfl,q _ (I.aR.fresh (zqR _))⟩
 rcases hq with hq | hq
 ·obtain⟨its,r',pl,hz⟩:=I.list hq
  have hlen:=r'.length
  obtain⟨o,ho,hc,n,hd⟩:=pl.isList
  exact call_list_seq p (.inl rfl) ho hc hd (fun h' c' kp e=>fin its r' hz h' c' kp e) (by simp only[List.size_toArray] <;>omega)
 ·obtain⟨its,r',pl,hz⟩:=I.tuple hq
  have hlen:=r'.length
  obtain⟨o,ho,hc,n,hd⟩:=pl
  exact call_list_seq p (.inr rfl) ho hc hd (fun h' c' kp e=>fin its r' hz h' c' kp e) (by simp only[List.size_toArray] <;>omega)
theorem Zp:b9 X (.type "tuple") (fun xs H Q=> ∃p ys,xs=[.ref p]∧((aM X.K H p ys∧ ∀l,H l=none→Q (.ref l) (upd H l (.tup ys)))∨(bo X.K H p ys∧Q (.ref p) H))):=by
 intro pins s σ H xs us Q I r h
 obtain⟨p,ys,rfl,h⟩:=h
 obtain⟨u,rfl,rx⟩:=vals1 r
 cases rx
 rcases h with⟨hq,q⟩ | ⟨hq,q⟩
 ·obtain⟨its,r',pl,hz⟩:=I.list hq
  have hlen:=r'.length
  refine call_tuple_list pl.isList (fun h' kp=> ?_) (by simp only[List.size_toArray] <;>omega)
  have I1:Inv X pins σ H {s with heap:=h'}:=I.kept (t':=s.toks) kp
  have I2:Inv X pins σ (upd H h'.objs.size (.tup ys)) {s with heap:=h'.push {cls:= .type "tuple",data:= .seq its.toArray}}:=
   I1.laid (t':=s.toks) (fun b o e=>Heap.get?_push_of_some _ e) (zqR _) (show cO X.prog X.w _ _ _ (.tup ys) from⟨hz,its,r',IsTup.new _ _⟩)
  exact⟨.ref h'.objs.size,_,I2,rfl,q _ (I1.aR.fresh (zqR _))⟩
 ·obtain⟨its,r',pl,hz⟩:=I.tuple hq
  exact call_tuple_same pl ⟨.ref p,H,I,rfl,q⟩
def pj(K:Frag)(T:String)(x:V)(H:Hp):Prop:=match x with
 | .str _=>T="str"
 | .int _=>T="int"
 | .ref p=> (T="list"∧ ∃xs,aM K H p xs)∨(T="tuple"∧ ∃o,K.lookup p=some o∧o.cls= .type "tuple"∧o.dict=none)∨
   (T="dict"∧((∃aZ,H p=some (.dK aZ))∨ ∃aZ,H p=some (.dT aZ)))∨(T="set"∧ ∃S n,H p=some (.set S n))
 | _=>False
theorem Zq{pins:List (Addr×Obj)}{σ:St}{H:Hp}{s:Shared}{T:String}{x:V}{v:Value}(I:Inv X pins σ H s)(r:RelV x v)(ty:pj X.K T x H):
  s.TypeIs v T∧ ∀a,v= .ref a→ ∃ob,s.heap.get? a=some ob∧ob.dict=none:=by
 cases x with
 | str z=>
  obtain⟨t,rfl⟩:=r
  cases (show T="str" from ty)
  exact⟨typeIs_str s z t,fun _ e=>nomatch e⟩
 | int i=>
  obtain⟨t,rfl⟩:=r
  cases (show T="int" from ty)
  exact⟨typeIs_int s i t,fun _ e=>nomatch e⟩
 | ref p=>
  cases r
  rcases ty with⟨rfl,xs,hq⟩ | ⟨rfl,o,hk,hc,hd⟩ | ⟨rfl,hk⟩ | ⟨rfl,S,n,hk⟩
  ·obtain⟨its,_,pl,_⟩:=I.list hq
   refine⟨pl.isList.typeIs,fun a e=> ?_⟩
   cases e
   obtain⟨o,n,e,c,hd,_⟩:=pl
   exact⟨o,e,hd⟩
  ·refine⟨⟨o,I.cC p o hk,hc⟩,fun a e=> ?_⟩
   cases e
   exact⟨o,I.cC _ o hk,hd⟩
  ·have z: ∃o,s.heap.get? p=some o∧o.ExactDict:=by
    rcases hk with⟨aZ,hk⟩ | ⟨aZ,hk⟩
    ·obtain⟨_,_,_,_,o,_,_,e,ex,_⟩:=I.aR p _ hk
     exact⟨o,e,ex⟩
    ·obtain⟨_,_,_,_,o,_,_,e,ex,_⟩:=I.aR p _ hk
     exact⟨o,e,ex⟩
   obtain⟨o,e,ex⟩:=z
   refine⟨⟨o,e,ex.1⟩,fun a e2=> ?_⟩
   cases e2
   exact⟨o,e,ex.2.1⟩
  ·obtain⟨o,_,_,_,e,ex,_⟩:=I.aR p _ hk
   refine⟨⟨o,e,ex.1⟩,fun a e2=> ?_⟩
   cases e2
   exact⟨o,e,ex.2.1⟩
 | _=>exact False.elim ty
def qU(K:Frag)(T:String)(r:V→List V→Hp→VK→Prop)(to:TE)(t:TA):TE:=fun σ H Q=>to σ H fun x H1=>pj K T x H1∧t σ H1 fun xs H2=>r x xs H2 Q
variable {o e:Expr} {es:List Expr} {to:TE} {t:TA} {name:Str} {apos dG:Pos} {T id:String} {r:V→List V→Hp→VK→Prop}
theorem yR(pa:PlainAttrs T)(slot:Slot T name id)(Zr:typeOf (.builtin id)=pure (.type "method_descriptor"))(hm:iH X id r)(ho:PE X o to)(ha:PA X (e::es) t)
  (Zs:attributeBase o name X.env (eval o X.env)=eval o X.env:=by rfl)
  (Zt:((backTo dG (starEach (e::es) X.env)).all (fun x=> !x.1) && (backToKw dG (keywordEach [] X.env)).all (fun x=>x.1.isSome)
   && decide ((e::es).length+ ([]:List Keyword).length+ (if ([]:List Keyword).isEmpty then 0 else 1) <30))=true:=by rfl)
  (Zu:(apos.endLine==dG.line)=true:=by rfl) (hs:starEach (e::es) X.env=(false,eval e X.env)::starEach es X.env:=by rfl) (Zv:(backTo dG (starEach es X.env)).any (·.1)=false:=by rfl):
  PE X (.Call (.Attribute o name apos) (e::es) [] dG) (qU X.K T r to t):=by
 intro pins s σ H Q I h
 refine wpAny_Call_method_late Zs Zt Zu rfl (bf (ho pins s σ H _ I h) fun v s1 ⟨x,H1,I1,r1,ty,q1⟩=> ?_)
 obtain⟨h1,h2⟩:=Zq I1 r1 ty
 refine⟨T,id,pa,slot,Zr,h1,h2, ?_⟩
 have hA:=ha dG pins s1 σ H1 _ I1 q1
 rw[hs] at hA⊢
 refine Calls.callWith_builtin (by show(false || (backTo dG (starEach es X.env)).any (·.1))=false;rw[Zv] <;>rfl) (Calls.evalArgs_plain ?_)
 exact bf hA fun us s2 ⟨vs,H2,I2,r2,q2⟩=>hm pins s2 σ H2 x vs v us Q I2 r1 r2 q2
end
def qW(X:Cx)(id:String)(r:V→List V→Hp→VK→Prop):Prop:=
 ∀(pins:List (Addr×Obj)) (s:Shared) (σ:St) (H:Hp) (x:V) (xs:List V) (v:Value) (us:List Value) (Q:VK),Inv X pins σ H s→RelV x v→Vals xs us→r x xs H Q→
  wpAny (model X.prog X.w) X.A (call (.builtin id) (v::us)) (EP X pins σ Q) X.xe s
theorem Vals.one: ∀{x:V} {us:List Value},Vals [x] us→ ∃u,us=[u]∧RelV x u
 | _,_, .cons r .nil=> ⟨_,rfl,r⟩
theorem Vals.zero: ∀{us:List Value},Vals [] us→us=[]
 | _, .nil=>rfl
theorem Vals.dropLast{xs:List V}{us:List Value}(h:Vals xs us):Vals xs.dropLast us.dropLast:=by
 induction h with
 | nil=>exact .nil
 | cons r t ih=>
  cases t with
  | nil=>exact .nil
  | cons q t'=>exact .cons r ih
theorem Vals.reverse{xs:List V}{us:List Value}(h:Vals xs us):Vals xs.reverse us.reverse:=by
 induction h with
 | nil=>exact .nil
 | cons r t ih=>rw[List.reverse_cons,List.reverse_cons];exact Vals.append ih (.cons r .nil)
theorem Vals.rep{xs:List V}{us:List Value}(h:Vals xs us): ∀k:Nat,Vals (List.replicate k xs).flatten (List.replicate k us).flatten
 | 0=> .nil
 | k+1=>by
  rw[List.replicate_succ,List.replicate_succ,List.flatten_cons,List.flatten_cons]
  exact Vals.append h (Vals.rep h k)
theorem Zw{α:Type}(l:List α):l.eraseIdx (l.length - 1)=l.dropLast:=by
 induction l with
 | nil=>rfl
 | cons a r ih=>
  cases r with
  | nil=>rfl
  | cons b r=>
   have e:(a::b::r).length - 1=((b::r).length - 1)+1:=by
    have h1:(a::b::r).length=r.length+2:=rfl
    have h2:(b::r).length=r.length+1:=rfl
    omega
   rw[e,List.eraseIdx_cons_succ,ih]
   all_goals rfl
theorem foldl_rep(its:List Value): ∀(k:Nat) (acc:List Value),
  List.foldl (fun x1 x2=>x1++x2) acc.toArray (List.replicate k its.toArray)=(acc++ (List.replicate k its).flatten).toArray
 | 0,acc=>by simp
 | k+1,acc=>by
  have e:acc.toArray++its.toArray=(acc++its).toArray:=by simp
  have e2:(acc++its)++ (List.replicate k its).flatten=acc++ (List.replicate (k+1) its).flatten:=by
   rw[List.replicate_succ,List.flatten_cons,List.append_assoc]
  rw[←e2,←foldl_rep its k (acc++its),←e,List.replicate_succ,List.foldl_cons]
section
variable {X:Cx} {pins:List (Addr×Obj)} {σ:St} {H:Hp} {s:Shared} {l b:Addr} {xs ys zs:List V}
theorem Inv.qX{its eI:List Value}{n:Nat}{f:Array Value→Array Value}{t':Nat}(I:Inv X pins σ H s)(hH:H l=some (.lst xs))
  (e:s.heap.get? l=some {cls:= .type "list",data:= .seq its.toArray n}) (hf:f its.toArray=eI.toArray) (hv:Vals ys eI) (hz:ys.length≤sizeLine):
  Inv X pins σ (upd H l (.lst ys)) {s with heap:=s.heap.update l (Obj.mapSeq f),toks:=t'}:=by
 have q:=PySem.IsL.update e f
 rw[hf] at q
 refine I.write (x:=l) (e:=l) (by rw[hH];exact trivial) (.inl rfl) (fun b' u hb hu=> (Heap.get?_update_other s.heap (Obj.mapSeq f) (Ne.symm hb)).trans hu) ⟨_,q⟩ ?_
 exact⟨hz,eI,_,hv,q⟩
theorem Inv.Nt{its:List Value}{t':Nat}(I:Inv X pins σ H s)(hv:Vals ys its)(hz:ys.length≤sizeLine):
  Inv X pins σ (upd H s.heap.objs.size (.lst ys)) {s with heap:=s.heap.push {cls:= .type "list",data:= .seq its.toArray},toks:=t'}:=
 I.laid (fun _ _ q=>Heap.get?_push_of_some _ q) (zqR _) ⟨hz,its,0,hv,Heap.get?_push_size _ rfl⟩
theorem Inv.fresh(I:Inv X pins σ H s):H s.heap.objs.size=none:=I.aR.fresh (zqR _)
theorem Inv.jk(I:Inv X pins σ H s)(hH:H l=some (.lst xs)):xs.length≤sizeLine∧ ∃(its:List Value) (n:Nat),Vals xs its∧xs.length=its.length∧s.heap.get? l=some {cls:= .type "list",data:= .seq its.toArray n}:=by
 obtain⟨z,its,n,r,e⟩:=I.aR l _ hH
 exact⟨z,its,n,r,r.length,e⟩
theorem Nu{n:Nat}(h:n≤sizeLine):Builtin.List.listTooLong n=false:=by
 unfold Builtin.List.listTooLong
 exact zqF (by omega)
end
section
variable {X:Cx}
def Zx:V→List V→Hp→VK→Prop:=fun x vs H Q=> ∃l xs y,x= .ref l∧vs=[y]∧H l=some (.lst xs)∧xs.length<sizeLine∧Q .az (upd H l (.lst (xs++ [y])))
theorem Zy:qW X "list.append" Zx:=by
 intro pins s σ H x vs v us Q I rx rv h
 obtain⟨l,xs,y,rfl,rfl,hH,hz,q⟩:=h
 cases rx
 obtain⟨u,rfl,ru⟩:=rv.one
 obtain⟨z,its,n,r,hl,e⟩:=I.jk hH
 refine call_meets F.slot_list_append ⟨_,e,rfl⟩ F.entry_list_append (F.args_list_append_2 _ _) (PySem.list_append l its.toArray n u (by rw[List.size_toArray];omega)) ⟨e, ?_⟩
 refine⟨.az,_,I.qX (eI:=its++ [u]) hH e (by simp) (r.append (.cons ru .nil)) ?_,rfl,q⟩
 rw[zqA,List.length_singleton]
 omega
def Zz:V→List V→Hp→VK→Prop:=fun x vs H Q=> ∃l b xs zs,x= .ref l∧vs=[.ref b]∧H l=some (.lst xs)∧H b=some (.lst zs)∧xs.length+zs.length≤sizeLine∧Q .az (upd H l (.lst (xs++zs)))
theorem ZA:qW X "list.extend" Zz:=by
 intro pins s σ H x vs v us Q I rx rv h
 obtain⟨l,b,xs,zs,rfl,rfl,hH,hB,hz,q⟩:=h
 cases rx
 obtain⟨u,rfl,ru⟩:=rv.one
 cases ru
 obtain⟨z,its,n,r,hl,e⟩:=I.jk hH
 obtain⟨z2,eP,n2,r2,uV,e2⟩:=I.jk hB
 have jZ:its.toArray.size+eP.toArray.size≤sizeLine:=by rw[List.size_toArray,List.size_toArray];omega
 have yS: ¬(!its.toArray.isEmpty && Builtin.List.listTooLong (its.toArray.size+eP.toArray.size))=true:=by
  rw[Nu jZ,Bool.and_false]
  exact Bool.false_ne_true
 refine call_meets F.slot_list_extend ⟨_,e,rfl⟩ F.entry_list_extend (F.args_list_extend_2 _ _)
  (AutoSeq1.list_extend_list_list_0 l its.toArray n b eP.toArray n2 yS (by rw[List.size_toArray];omega) (by omega)) ⟨e,e2, ?_⟩
 refine⟨.az,_,I.qX (eI:=its++eP) hH e (by simp) (r.append r2) ?_,rfl,q⟩
 rw[zqA]
 omega
def ZC:V→List V→Hp→VK→Prop:=fun x vs H Q=> ∃l xs y,x= .ref l∧vs=[]∧H l=some (.lst xs)∧xs[xs.length - 1]?=some y∧Q y (upd H l (.lst xs.dropLast))
theorem ZD:qW X "list.pop" ZC:=by
 intro pins s σ H x vs v us Q I rx rv h
 obtain⟨l,xs,y,rfl,rfl,hH,hy,q⟩:=h
 cases rx
 have qY:=rv.zero
 subst qY
 obtain⟨z,its,n,r,hl,e⟩:=I.jk hH
 obtain⟨u,hu,ru⟩:=r.get hy
 have qZ:its.toArray[its.toArray.size - 1]?=some u:=by
  show its.toArray[its.length - 1]?=some u
  rw[←Array.getElem?_toList,←hl]
  exact hu
 refine call_meets F.slot_list_pop ⟨_,e,rfl⟩ F.entry_list_pop (F.args_list_pop_1 _) (MeetsSeq.list_pop_last l its.toArray n u qZ (by rw[List.size_toArray];omega)) ⟨e, ?_⟩
 refine⟨y,_,I.qX (eI:=its.dropLast) hH e ?_ r.dropLast ?_,ru,q⟩
 ·show its.toArray.eraseIdxIfInBounds (its.toArray.size - 1)=its.dropLast.toArray
  rw[List.size_toArray,List.eraseIdxIfInBounds_toArray,Zw]
 ·rw[List.length_dropLast]
  omega
def ZE:V→List V→Hp→VK→Prop:=fun x vs H Q=> ∃l xs,x= .ref l∧vs=[]∧H l=some (.lst xs)∧Q .az (upd H l (.lst xs.reverse))
theorem ZF:qW X "list.reverse" ZE:=by
 intro pins s σ H x vs v us Q I rx rv h
 obtain⟨l,xs,rfl,rfl,hH,q⟩:=h
 cases rx
 have qY:=rv.zero
 subst qY
 obtain⟨z,its,n,r,hl,e⟩:=I.jk hH
 refine call_meets F.slot_list_reverse ⟨_,e,rfl⟩ F.entry_list_reverse (F.args_list_reverse_1 _) (AutoSeq1.list_reverse_list_0 l its.toArray n (by rw[List.size_toArray];omega)) ⟨e, ?_⟩
 refine⟨.az,_,I.qX (eI:=its.reverse) hH e (by simp) r.reverse ?_,rfl,q⟩
 rw[List.length_reverse]
 omega
def ZG:V→List V→Hp→VK→Prop:=fun x vs H Q=> ∃l xs,x= .ref l∧vs=[]∧H l=some (.lst xs)∧Q .az (upd H l (.lst []))
theorem ZH:qW X "list.clear" ZG:=by
 intro pins s σ H x vs v us Q I rx rv h
 obtain⟨l,xs,rfl,rfl,hH,q⟩:=h
 cases rx
 have qY:=rv.zero
 subst qY
 obtain⟨z,its,n,r,hl,e⟩:=I.jk hH
 refine call_meets F.slot_list_clear ⟨_,e,rfl⟩ F.entry_list_clear (F.args_list_clear_1 _) (AutoSeq1.list_clear_list_0 l its.toArray n (by rw[List.size_toArray];omega)) ⟨e, ?_⟩
 exact⟨.az,_,I.qX (eI:=[]) (ys:=[]) hH e rfl .nil (zqZ _),rfl,q⟩
def Nv:R2:=fun x y H Q=> ∃l b xs zs,x= .ref l∧y= .ref b∧H l=some (.lst xs)∧H b=some (.lst zs)∧xs.length+zs.length≤sizeLine∧ ∀p,H p=none→Q (.ref p) (upd H p (.lst (xs++zs)))
theorem ZI:bI X (binaryOp .Add) Nv:=by
 intro pins s σ H x y v u Q I rx ry h
 obtain⟨l,b,xs,zs,rfl,rfl,hH,hB,hz,q⟩:=h
 cases rx
 cases ry
 obtain⟨z,its,n,r,hl,e⟩:=I.jk hH
 obtain⟨z2,eP,n2,r2,uV,e2⟩:=I.jk hB
 refine PySem.P.add_list e e2 ?_ (by rw[List.size_toArray,List.size_toArray];omega)
 have ea:its.toArray++eP.toArray=(its++eP).toArray:=by simp
 rw[ea]
 exact⟨.ref _,_,I.Nt (t':=s.toks) (r.append r2) (by rw[zqA];omega),rfl,q _ I.fresh⟩
def Nw:R2:=fun x y H Q=> ∃l k xs,x= .ref l∧y= .int k∧H l=some (.lst xs)∧ -(2 ^ 63)≤k∧k<2 ^ 63∧xs.length*k.toNat≤sizeLine∧
 ∀p,H p=none→Q (.ref p) (upd H p (.lst (List.replicate k.toNat xs).flatten))
theorem len_rep{α:Type}(xs:List α)(k:Nat):(List.replicate k xs).flatten.length=k*xs.length:=by
 induction k with
 | zero=>simp
 | succ k ih=>rw[List.replicate_succ,List.flatten_cons,zqA,ih,Nat.succ_mul,Nat.add_comm]
theorem ZJ:bI X (binaryOp .Mult) Nw:=by
 intro pins s σ H x y v u Q I rx ry h
 obtain⟨l,k,xs,rfl,rfl,hH,h1,h2,hz,q⟩:=h
 cases rx
 obtain⟨t,rfl⟩:=ry
 obtain⟨z,its,n,r,hl,e⟩:=I.jk hH
 have hlen:its.toArray.size*k.toNat≤sizeLine:=by rw[List.size_toArray,←hl];exact hz
 have ZK: ¬its.toArray.size*k.toNat> (2 ^ 63 - 1) / 8:=by
  have:(sizeLine:Nat)≤ (2 ^ 63 - 1) / 8:=by decide
  omega
 have ZL: ¬(!Builtin.List.listFitsIndex k)=true:=by
  rw[fitsIndex_both h1 h2]
  exact Bool.false_ne_true
 have yS: ¬Builtin.List.listTooLong (its.toArray.size*k.toNat)=true:=by
  rw[Nu hlen]
  exact Bool.false_ne_true
 have ZM:List.foldl (fun x1 x2=>x1++x2) #[] (List.replicate (if its.toArray.isEmpty=true then 0 else k.toNat) its.toArray)=(List.replicate k.toNat its).flatten.toArray:=by
  have f0: ∀m:Nat,List.foldl (fun x1 x2=>x1++x2) #[] (List.replicate m its.toArray)=(List.replicate m its).flatten.toArray:=fun m=>by
   have:=foldl_rep its m []
   rw[List.nil_append] at this
   exact this
  rw[f0]
  cases its with
  | nil=>simp
  | cons a r'=>rw[if_neg (by simp)]
 refine wpAny_binaryOp_repeat_ref (T:="list") (U:="int") (by decide) ⟨_,e,rfl⟩ (fun s'=>typeIs_int s' k t) noFill_list_mul F.fills_int_mul F.slot_int_rmul repeat_list F.slot_int_index.lookup
  (call_meets F.slot_int_rmul (typeIs_int s k t) F.entry_int_rmul (F.args_int_rmul_2 _ _) (int___rmul___int_list k t l its.toArray n)
   ⟨e,rfl,⟨_,e,rfl⟩,call_meets F.slot_list_mul ⟨_,e,rfl⟩ F.entry_list_mul (F.args_list_mul_2 _ _) (AutoListH.list___mul___list_int_3 l its.toArray n k t ZL ZK yS) ⟨e, ?_⟩⟩)
 rw[ZM]
 exact⟨.ref _,_,I.Nt (t':=s.toks) (r.rep k.toNat) (by rw[len_rep,Nat.mul_comm];exact hz),rfl,q _ I.fresh⟩
end
section
variable {prog:Program} {w:World} {A:Around} {E:Value→Shared→Prop} {s:Shared}
end
section
variable {X:Cx}
end
end L2
namespace Nx
open PySem PySem.W PySem.Calls PyProof.Rows
theorem ZN{P:Params}{h:Heap}: ∀(ns:List Int) (vs:List Value),WellAll P h vs (ns.map WData.int)→IntsAre vs ns:=by
 intro ns
 induction ns with
 | nil=>
  intro vs w
  rw[List.map_nil] at w
  cases w
  exact .nil
 | cons n ns ih=>
  intro vs w
  rw[List.map_cons] at w
  cases w with
  | cons a b=>
   cases a
   exact .cons _ _ (ih _ b)
theorem ZO{l:OpenLaw}{n:Nat}(hn:l.most=some n){P:Params}{h:Heap}{args:List WData}{vals:List Value}
  (pk:l.row.toRowW.claim.pre args=true) (yT:WellAll P h vals args):
  ∃a vs ns,vals=[Value.ref a]∧args=[WData.list (ns.map WData.int)]∧h.get? a=some {cls:= .type "list",data:= .seq vs.toArray}∧IntsAre vs ns∧ns.length≤n:=by
 have ZP:WShape.hasAll [] args [.list .int]=true:=(pre_splitW pk).1
 have hc:l.pre.holds [] {args:=args}=true:=(pre_splitW pk).2
 obtain⟨d,r,rfl,h1,h2⟩:=hasAllW_cons ZP
 obtain rfl:=hasAllW_nil h2
 obtain⟨xs,rfl,h3⟩:=hasW_list h1
 obtain⟨ns,rfl⟩:=items_int h3
 have hlen:ns.length≤n:=by
  unfold OpenLaw.pre at hc
  have h4:(WTm.not (.lt (.lit (.int (n:Int))) (.len (.arg 0)))).holds [] {args:=[.list (ns.map .int)]}=true:=by
   have h4:=(holds_andW hc).1
   rw[hn] at h4
   exact h4
  have h5:=condW_of h4 (w_not (w_lt w_lit (w_len_list (w_arg rfl))))
  rw[List.length_map] at h5
  refine Nat.le_of_not_lt fun q=> ?_
  have q':(n:Int) < ((ns.length:Nat):Int):=by omega
  first
   | (rw[zqT q'] at h5;exact absurd h5 (by decide))
   | (simp at h5;omega)
 cases yT with
 | cons w1 w2=>
  cases w2
  cases w1 with
  | list ho yU=>exact⟨_,_,ns,rfl,rfl,ho,ZN ns _ yU,hlen⟩
theorem ZQ(l:OpenLaw)(args:List WData):l.row.toRowW.claim.post args (.bool true) args=true:=
 postW_of (r:=l.row.toRowW) (X:=(true==true))
  (show WShape.has [] (.bool true) .bool=true by first | rfl | decide | simp[WShape.has,WShape.arms,WShape.armsAll])
  (show(WTm.eq .res (.lit (.bool true))).value [] {args:=args,res:=some (.bool true),after:=args}=some (.bool (true==true)) from w_eq_bool (w_res rfl) w_lit) rfl
theorem ZR{l:OpenLaw}{n:Nat}{q:Program}{loose:List Str}{XP:(Str→Option Value)→Heap→Prop}{YP:World→Heap→Prop}{d:DefRec}
  (hn:l.most=some n) (q8:d.params.defaults=[])
  (call: ∀(w:World) (s₀ s₁:Shared) (mg mb:Str→Option Value) (fa:Addr) (o:Obj) (pm cd doc:Value) (a:Addr) (vs:List Value) (ns:List Int),
   Ground q loose [] XP w s₀ mg mb s₁.heap→YP w s₁.heap→
   s₁.heap.get? fa=some o→o.data= .func (docDef d.name d.params d.body d.scope pm cd doc)→s₁.heap.CodeRec cd d.name→mg d.name=some (.ref fa)→
   s₁.heap.get? a=some {cls:= .type "list",data:= .seq vs.toArray}→IntsAre vs ns→ns.length≤n→s₁.gens= #[]→
   codeAny (model l.prog w) callerA (.call (.ref fa) ⟨[.ref a],[]⟩) (fun r s'=>r= .ok (.ret (.bool true))∧OldK s₁.heap s'.heap∧s'.os=s₁.os∧AllBare s'.gens) s₁):
  WalkO q loose XP YP l.row.toRowW d [] (fun f vs=>PySem.call f vs):=by
 intro w s₀ s₁ mg mb G Y fa o pm cd doc dV kV ho hd gU hD lO hg args vals as pk aEd hrd yT j9
 obtain rfl:dV= .none:=Dflts.none hD q8
 obtain rfl:kV= .none:=Dflts.noKw hD
 obtain⟨a,vs,ns,rfl,rfl,yV,hints,hlen⟩:=ZO hn pk yT
 refine enter_call (codeAny_mono (call w s₀ s₁ mg mb fa o pm cd doc a vs ns G Y ho (fd_plain hd) gU lO yV hints hlen hg) fun r s' hq=> ?_)
 obtain⟨rfl,h2,h3,h4⟩:=hq
 exact⟨.inl ⟨.bool true, .bool true,[],rfl,fun _=>rfl, .bool true,ZQ l _,fun _=> ⟨List.Pairwise.nil,fun _ hm=> (nomatch hm)⟩⟩,h2,h3,h4⟩
section
variable {prog:Program} {w:World} {A:Around} {E:Value→Shared→Prop} {s:Shared} {K:Frag}
end
end Nx
namespace L2
open PySem PySem.Spec PyProof.Rows
theorem Ny: ∀{vs:List Value} {ns:List Int},IntsAre vs ns→Vals (ns.map V.int) vs
 | _,_, .nil=> .nil
 | _,_, .cons n t h=> .cons ⟨t,rfl⟩ (Ny h)
def yW(H:Hp):Prop:= ∀b,H b=none∨ ∃o xs,H b=some (.b6 o (.lst xs))
theorem ZS{P:Program}{w:World}{K:Frag}{mg mb:Str→Option Value}{CX:aG}{k:Nat}{fa a:Addr}{fd:FuncData}{x:Str}{sp:Sp}{s₁:Shared}{vs:List Value}{ns:List Int}
  (KX:K.In s₁.heap) (uW:s₁.heap.Ns mainGlobals mg) (hb:s₁.heap.Ns builtinsNs mb) (ZT: ∀x:Str,x≠"__name__"→mb x=bootBuiltins x) (ZU:s₁.heap.NoLimit) (hg:s₁.gens= #[])
  (ha:s₁.heap.get? a=some {cls:= .type "list",data:= .seq vs.toArray}) (hi:IntsAre vs ns) (hl:ns.length≤sizeLine) (hr:cE k callerA)
  (F: ∀base:Heap,K.In base→base.Ns mainGlobals mg→cG P w K mg base CX k fa fd [x] sp) (ZV: ∀(s:Shared) (u:Value),BindsTo s fd ⟨[u],[]⟩ [(x,u)])
  (j6: ∀H:Hp,yW H→aM K H a (ns.map V.int)→sp [.ref a] H (fun v _=>v= .bl true) fun _ _ _=>False)
  (yX: ∀H e s',CX [] H s₁ (fun _ _ _=>False) e s'→False):
  codeAny (model P w) callerA (.call (.ref fa) ⟨[.ref a],[]⟩) (fun r s'=>r= .ok (.ret (.bool true))∧OldK s₁.heap s'.heap∧s'.os=s₁.os∧AllBare s'.gens) s₁:=by
 have rv:=Ny hi
 have q9:=hi.length
 have core: ∀H:Hp,yW H→aM K H a (ns.map V.int)→cy P w H s₁.heap→(∀b,H b≠none→b=a)→(H a≠none→K.lookup a=none)→
   codeAny (model P w) callerA (.call (.ref fa) ⟨[.ref a],[]⟩) (fun r s'=>r= .ok (.ret (.bool true))∧OldK s₁.heap s'.heap∧s'.os=s₁.os∧AllBare s'.gens) s₁:=by
  intro H hO hS aR hA hK
  have j_: ∀{b:Addr} {o:Obj},s₁.heap.get? b=some o→H b=none→(jb s₁.heap H).get? b=some o:=fun e n=>Xe e n
  have qQ: ∀{b:Addr} {o:Obj} {es:Array DictEntry} {ep:Nat},s₁.heap.get? b=some o→o.data= .dict es ep→H b=none:=fun {b o es ep} e d=>by
   cases q:H b with
   | none=>rfl
   | some u=>
    have e':b=a:=hA b (by rw[q];simp)
    subst e'
    rw[ha] at e;cases e
    have d':Data.seq vs.toArray _=Data.dict es ep:=d
    cases d'
  have uX: ∀{b:Addr} {m:Str→Option Value},s₁.heap.Ns b m→(jb s₁.heap H).Ns b m:=fun {b m} ⟨o,es,ep,e,d,r⟩=> ⟨o,es,ep,j_ e (qQ e d),d,r⟩
  have Nz:K.In (jb s₁.heap H):=fun b o e=>j_ (KX b o e) (by
   cases q:H b with
   | none=>rfl
   | some u=>
    have e':b=a:=hA b (by rw[q];simp)
    subst e'
    rw[hK (by rw[q];simp)] at e;cases e)
  have hM:Mod K mg (jb s₁.heap H):=⟨Nz,uX uW,⟨mb,uX hb,ZT⟩,let ⟨mc,h1,h2⟩:=ZU;⟨mc,uX h1,h2⟩⟩
  have e0:j5 P w K mg (jb s₁.heap H) callerA [] s₁ H:=⟨rfl,hM,fun b o e=>Xf e,Nat.le_of_eq (Xd _ _),trivial,fun b hb=>absurd (show b∈ ([]:List Addr) from hb) (by simp),aR, .of_eq hg⟩
  refine codeAny_mono ((F _ Nz (uX uW)).run callerA [] s₁ H ⟨[.ref a],[]⟩ [.ref a] [.ref a] _ _ hr e0 (ZV s₁ (.ref a)) (.cons rfl .nil) (j6 H hO hS)) fun r s' h=> ?_
  cases r with
  | error e=>exact(yX H e s' h).elim
  | ok fl=>
   cases fl with
   | next=>exact False.elim h
   | brk=>exact False.elim h
   | cont=>exact False.elim h
   | ret u=>
    obtain⟨v,H',os,bare,un,ZW,r',q⟩:=h
    have q':v= .bl true:=q
    subst q'
    obtain rfl:u=Value.bool true:=r'
    refine⟨rfl,OldK.of_keep fun b o e=> ?_,os,bare⟩
    cases q:H b with
    | none=>exact un.keep b o e q (by intro z;exact absurd (show b∈ ([]:List Addr) from z) (by simp)) (by simp)
    | some u=>
     rcases hO b with z | ⟨ob,xs,z⟩
     ·rw[q] at z;cases z
     ·have z2:=un.fA b ob _ z
      obtain⟨e1,_⟩:=aR b _ z
      obtain⟨e2,_⟩:=ZW b _ z2
      rw[e] at e1;cases e1
      exact e2
 cases hk:K.lookup a with
 | some o=>
  have e:=KX a o hk
  rw[ha] at e
  cases e
  refine core (fun _=>none) (fun _=> .inl rfl) (.inr ⟨_,vs.toArray,_,hk,rfl,rfl,rfl,by rw[List.size_toArray,q9];exact hl,by simpa using rv⟩) (fun b u z=>by have z':(none:Option HO)=some u:=z;cases z') (fun b z=>absurd rfl z) fun z=>absurd rfl z
 | none=>
  refine core (fun b=>if b=a then some (.b6 {cls:= .type "list",data:= .seq vs.toArray} (.lst (ns.map V.int))) else none) (fun b=> ?_) (.inl (.inr ⟨{cls:= .type "list",data:= .seq vs.toArray},if_pos rfl⟩)) (fun b u z=> ?_) (fun b z=> ?_) fun _=>hk
  ·by_cases hb:b=a
   ·exact .inr ⟨_,_,if_pos hb⟩
   ·exact .inl (if_neg hb)
  ·by_cases hb:b=a
   ·have z':=(if_pos hb).symm.trans z
    cases z'
    subst hb
    exact⟨ha,by rw[List.length_map];exact hl,vs,_,rv,ha⟩
   ·have z':=(if_neg hb).symm.trans z
    cases z'
  ·by_cases hb:b=a
   ·exact hb
   ·exact absurd (if_neg hb) z
theorem ZX{l:PySem.W.OpenLaw}{n k:Nat}{q:Program}{loose:List Str}{XP:(Str→Option Value)→Heap→Prop}{YP:World→Heap→Prop}{d:DefRec}{K:Params→Frag}{CX:World→aG}{sp:World→Sp}{x:Str}
  (hn:l.most=some n) (j4:n≤sizeLine) (q8:d.params.defaults=[]) (hr:cE k callerA)
  (hY: ∀(w:World) (h:Heap),YP w h→(K w.params).In h)
  (F: ∀(w:World) (mg:Str→Option Value) (fa:Addr) (h:Heap),(K w.params).In h→h.Ns mainGlobals mg→mg d.name=some (.ref fa)→
   ∃fd:FuncData,(∀(s:Shared) (u:Value),BindsTo s fd ⟨[u],[]⟩ [(x,u)])∧
    ∀base:Heap,(K w.params).In base→base.Ns mainGlobals mg→cG l.prog w (K w.params) mg base (CX w) k fa fd [x] (sp w))
  (j6: ∀(w:World) (H:Hp) (a:Addr) (ns:List Int),ns.length≤n→yW H→aM (K w.params) H a (ns.map V.int)→sp w [.ref a] H (fun v _=>v= .bl true) fun _ _ _=>False)
  (yX: ∀(w:World) (H:Hp) (s:Shared) (e:Value) (s':Shared),CX w [] H s (fun _ _ _=>False) e s'→False):
  PySem.W.WalkO q loose XP YP l.row.toRowW d [] (fun f vs=>PySem.call f vs):=by
 refine Nx.ZR hn q8 fun w s₀ s₁ mg mb fa o pm cd doc a vs ns G Y ho hd gU lO yV hints hlen hg=> ?_
 have KX:=hY w _ Y
 obtain⟨fd,hb,hF⟩:=F w mg fa _ KX G.T.g lO
 exact ZS KX G.T.g G.T.b G.T.builtins G.T.nolimit hg yV hints (Nat.le_trans hlen j4) hr hF hb (fun H hO hS=>j6 w H a ns hlen hO hS) fun H e s'=>yX w H s₁ e s'
end L2
namespace L2
open PySem PySem.Spec PyProof.Rows
def inClass(s:Stmt)(j:Nat):Stmt:=match s with
 | .ClassDef _ _ _ body _ _ _ _ _ _ _=>body.getD j (.Pass ⟨0,0,0,0⟩)
 | _=> .Pass ⟨0,0,0,0⟩
def bc(s:Stmt):Arguments:=match s with
 | .FunctionDef _ a _ _ _ _ _ _ _ _=>a
 | _=> {posonlyargs:=[],args:=[],vararg:=none,kwonlyargs:=[],kw_defaults:=[],kwarg:=none,defaults:=[]}
def ay(s:Stmt):List Stmt:=match s with
 | .FunctionDef _ _ b _ _ _ _ _ _ _=>b
 | _=> []
def aq(s:Stmt):Scope:=match s with
 | .FunctionDef _ _ _ _ _ _ sc _ _ _=>sc
 | _=> {kind:= .function,names:=[],isGenerator:=false,isCoroutine:=false}
abbrev uY:aG:=fun _ _ _ _ _ _=>False
abbrev E0:XK:=fun _ _ _=>False
structure jl (K:Frag) (x qual:Str) (st:Stmt) (f:Addr) (fd:FuncData):Prop where
 ex: ∃(oc:Value) (od:Option Addr) (kV doc pm:Value) (an:Option Addr) (bX ct:Value) (ji:Array (Option Value)),
  fd=fnOf x qual (bc st) (ay st) (aq st) .none kV doc pm an bX ct∧K.lookup f=some ⟨oc,od, .func fd,ji⟩∧codeIn K bX qual=true
 kp:keepIn K (.ref f)=true
section
variable {P:Program} {w:World} {K:Frag} {mg:Str→Option Value} {base:Heap}
theorem jl.binds{x qual:Str}{st:Stmt}{f:Addr}{fd:FuncData}{ps:List Str}(F:jl K x qual st f fd)
  (h: ∀(kV doc pm:Value) (an:Option Addr) (bX ct:Value) (us:List Value),us.length=ps.length→bindArgs (fnOf x qual (bc st) (ay st) (aq st) .none kV doc pm an bX ct) ⟨us,[]⟩=pure (ps.zip us)):Binds K fd ps []:=by
 obtain⟨oc,od,kV,doc,pm,an,bX,ct,ji,rfl,lk,gU⟩:=F.ex
 exact .all (h kV doc pm an bX ct)
theorem bq{x qual:Str}{st:Stmt}{f:Addr}{oc:Value}{od an:Option Addr}{ji:Array (Option Value)}{kV doc pm bX ct:Value}(l:K.lookup f=some ⟨oc,od, .func (fnOf x qual (bc st) (ay st) (aq st) .none kV doc pm an bX ct),ji⟩)
  (c:codeIn K bX qual=true) (k:keepIn K (.ref f)=true):jl K x qual st f (fnOf x qual (bc st) (ay st) (aq st) .none kV doc pm an bX ct):=⟨⟨oc,od,kV,doc,pm,an,bX,ct,ji,rfl,l,c⟩,k⟩
end
section
variable {X:Cx}
end
theorem iI{A B:Prop}(h:B):if false=true then A else B:=by
 rw[if_neg Bool.false_ne_true]
 exact h
theorem eQ{A B:Prop}(h:A):if true=true then A else B:=by
 rw[if_pos rfl]
 exact h
theorem d6{c A B:Prop}[Decidable c](h1:c→A)(h2: ¬c→B):if c then A else B:=by
 by_cases h:c
 ·rw[if_pos h]
  exact h1 h
 ·rw[if_neg h]
  exact h2 h
def aJ(H H':Hp):Prop:= ∀b o,H b=some o→H' b=some o
theorem aJ.refl(H:Hp):aJ H H:=fun _ _ h=>h
theorem aJ.trans{H H1 H2:Hp}(a:aJ H H1)(b:aJ H1 H2):aJ H H2:=fun c o h=>b c o (a c o h)
theorem aJ.free{H H':Hp}(e:aJ H H'){l:Addr}(h:H' l=Option.none):H l=Option.none:=by
 cases q:H l with
 | none=>rfl
 | some o=>
  rw[e l o q] at h
  cases h
theorem aJ.seq{K:Frag}{H H':Hp}{a:Addr}{xs:List V}(e:aJ H H')(h:aM K H a xs):aM K H' a xs:=by
 rcases h with(h | ⟨o,h⟩) | h
 ·exact .inl (.inl (e _ _ h))
 ·exact .inl (.inr ⟨o,e _ _ h⟩)
 ·exact .inr h
section
variable {κ:Type} [DecidableEq κ]
def NA(aZ:List (κ×V))(k:κ):Option V:=(aZ.find? fun kv=>decide (kv.1=k)).map (·.2)
def putK(aZ:List (κ×V))(k:κ)(v:V):List (κ×V):=
 if (aZ.any fun kv=>decide (kv.1=k))=true then aZ.map (fun kv=>if kv.1=k then (kv.1,v) else kv) else aZ++ [(k,v)]
end
section
variable {P:Program} {w:World} {H:Hp} {h:Heap} {a:Addr}
end
def uZ(H:Hp)(a:Addr)(y:V)(r:Option V):Prop:=
 (∃aZ k,Rd H a (.dK aZ)∧y=kV k∧r=NA aZ k)∨ ∃aZ k b,Rd H a (.dT aZ)∧y= .ref b∧H b=some (.tup (k.map kV))∧r=NA aZ k
def ZY(H:Hp)(a:Addr)(y v:V)(H':Hp):Prop:=
 (∃aZ k,H a=some (.dK aZ)∧y=kV k∧aZ.length<sizeLine∧H'=upd H a (.dK (putK aZ k v)))∨
 ∃aZ k b,H a=some (.dT aZ)∧y= .ref b∧H b=some (.tup (k.map kV))∧aZ.length<sizeLine∧H'=upd H a (.dT (putK aZ k v))
section
variable {X:Cx} {pins:List (Addr×Obj)} {σ:St} {H:Hp} {s:Shared} {a:Addr} {y v:V} {u r:Value} {o:Option V} {A:Around} {E:Value→Shared→Prop}
end
section
variable {X:Cx} {pins:List (Addr×Obj)} {σ:St} {H:Hp} {s:Shared} {a:Addr} {aZ:List (Key×V)} {k:Key} {u:Value} {A:Around} {E:Value→Shared→Prop}
end
def ZZ(td ty:TE):TE:=fun σ H Q=>td σ H fun x H1=>ty σ H1 fun y H2=> ∃a v,x= .ref a∧uZ H2 a y (some v)∧Q v H2
def NB(ty td:TE):TE:=fun σ H Q=>ty σ H fun y H1=>td σ H1 fun x H2=> ∃a o,x= .ref a∧uZ H2 a y o∧Q (.bl o.isSome) H2
def NC(ty td:TE):TE:=fun σ H Q=>ty σ H fun y H1=>td σ H1 fun x H2=> ∃a o,x= .ref a∧uZ H2 a y o∧Q (.bl (!o.isSome)) H2
def Z0(td ty tv:TE):TS:=fun D σ H=>tv σ H fun v H1=>td σ H1 fun x H2=>ty σ H2 fun y H3=> ∃a H4,x= .ref a∧ZY H3 a y v H4∧D.nx σ H4
section
variable {X:Cx} {o i e value:Expr} {pos pos' qM:Pos} {td ty tv:TE}
end
def Z1:TE:=fun _ H Q=> ∀p,H p=none→Q (.ref p) (upd H p (.dT []))
section
variable {X:Cx} {pos:Pos}
end
def Z2(H:Hp)(a:Addr):Prop:=(∃aZ,Rd H a (.dK aZ))∨ ∃aZ,Rd H a (.dT aZ)
section
variable {X:Cx} {pins:List (Addr×Obj)} {σ:St} {H:Hp} {s:Shared} {a:Addr} {y d:V} {u r:Value} {o:Option V} {A:Around} {E:Value→Shared→Prop}
end
def Z3(td ty tx:TE):TE:=fun σ H Q=>td σ H fun x H1=> ∃a,x= .ref a∧Z2 H1 a∧ty σ H1 fun y H2=>tx σ H2 fun z H3=> ∃o,uZ H3 a y o∧Q (o.getD z) H3
section
variable {X:Cx} {o e f:Expr} {apos dG:Pos} {td ty tx:TE}
end
end L2
set_option maxHeartbeats 4000000
namespace L2
open PySem PySem.Spec PyProof.Rows
section
variable {X:Cx} {pins:List (Addr×Obj)} {σ:St} {H:Hp} {s:Shared} {a:Addr} {o:HO}
theorem Inv.yY(I:Inv X pins σ H s)(hn:H a=none)(h0:X.s₀.heap.objs.size≤a)(hL:a≠X.env.locals)(hC: ∀x c,X.env.cells.lookup x=some c→c≠a)
  (hp: ∀p∈X.pn++pins,p.1≠a) (new:cO X.prog X.w (upd H a o) s.heap a o):Inv X pins σ (upd H a o) s:=by
 have Z4: ∀b u,X.s₀.heap.get? b=some u→b≠a:=fun b u e=>Nat.ne_of_lt (Nat.lt_of_lt_of_le (Heap.lt_size e) h0)
 have q_: ∀b u,H b=some u→b≠a:=fun b u e=>cg e hn
 refine⟨I.ok,I.os,I.bare,⟨I.base.keep,I.base.slot,fun b u e n hx=> ?_,I.base.there,fun b xs e=> ?_,fun b u xs e=> ?_,fun b ps e=> ?_⟩,I.loc,I.cell, ?_,fun x c e=> ?_,fun p q=> ?_,fun b u e=> ?_,I.len⟩
 ·rw[a_ (Z4 b u e)];exact I.base.free b u e n hx
 ·have z:=I.base.cY b xs e
  rw[a_ (q_ b _ z)];exact z
 ·have z:=I.base.fA b u xs e
  rw[a_ (q_ b _ z)];exact z
 ·obtain⟨m,z⟩:=I.base.fR b ps e
  exact⟨m,by rw[a_ (q_ b _ z)];exact z⟩
 ·rw[a_ (Ne.symm hL)];exact I.free
 ·rw[a_ (hC x c e)];exact I.jc x c e
 ·obtain⟨z1,z2,z3⟩:=I.pin p q
  exact⟨z1,by rw[a_ (hp p q)];exact z2,z3⟩
 ·by_cases hb:b=a
  ·subst hb;rw[aU] at e;cases e;exact new
  ·rw[a_ hb] at e
   exact(I.aR b u e).gT (fun _ _ _ q=>q) (fun c q=>by rw[a_ (q_ c _ q)];exact q) fun c xs q=>by rw[a_ (q_ c _ q)];exact q
end
def dc(cells:List (Str×Addr)):List (Str×NameKind)→List (Str×Addr)→List (Str×Addr)
 | [],acc=>acc
 | (n,k)::r,acc=>dc cells r (if k= .free then (n,(cells.lookup n).getD 0)::acc else acc)
theorem ND(env:Env): ∀(names:List (Str×NameKind)) (acc:List (Str×Addr)),(∀y∈names,y.2= .free→ ∃c,env.cells.lookup y.1=some c)→
  (forIn names acc (fun(x:Str×NameKind) (cs:List (Str×Addr))=>match x with
   | (name,kind)=>if (kind==NameKind.free)=true then do let a ←cellOf env name;pure (ForInStep.yield ((name,a)::cs)) else pure (ForInStep.yield cs)):Sem (List (Str×Addr)))=pure (dc env.cells names acc)
 | [],acc,_=>rfl
 | (n,k)::r,acc,h=>by
  have hr:=fun yZ=>ND env r yZ fun y hy=>h y (List.mem_cons_of_mem _ hy)
  rw[List.forIn_cons]
  by_cases hk:k= .free
  ·subst hk
   obtain⟨c,e⟩:=h (n, .free) List.mem_cons_self rfl
   have e':cellOf env n=pure c:=by unfold cellOf;rw[e]
   have ec:dc env.cells ((n, .free)::r) acc=dc env.cells r ((n,c)::acc):=by simp[dc,e]
   rw[ec,←hr]
   simp[e']
  ·have hb:(k==NameKind.free)=false:=by simpa using hk
   have ec:dc env.cells ((n,k)::r) acc=dc env.cells r acc:=by simp[dc,hk]
   rw[ec,←hr]
   simp[hb]
theorem Z5{scope:Scope}{env:Env}(h: ∀y∈scope.names,y.2= .free→ ∃c,env.cells.lookup y.1=some c):closureFor scope env=pure (dc env.cells scope.names []):=by
 have:=ND env scope.names [] h
 simp only[closureFor]
 rw[←this]
 simp
theorem NG{cells:List (Str×Addr)}: ∀(names:List (Str×NameKind)) (acc:List (Str×Addr)) (x:Str) (c:Addr),(dc cells names acc).lookup x=some c→(acc.lookup x=some c)∨((x, .free)∈names∧(cells.lookup x).getD 0=c)
 | [],acc,x,c,h=> .inl h
 | (n,k)::r,acc,x,c,h=>by
  simp only[dc] at h
  rcases NG r _ x c h with z | ⟨z1,z2⟩
  ·by_cases hk:k= .free
   ·subst hk
    simp only[if_true] at z
    rw[List.lookup_cons] at z
    by_cases hx:x==n
    ·simp only[hx] at z
     have Z6:x=n:=eq_of_beq hx
     subst Z6
     exact .inr ⟨List.mem_cons_self,Option.some.inj z⟩
    ·have jm:(x==n)=false:=by simpa using hx
     simp only[jm] at z
     exact .inl z
   ·simp only[if_neg hk] at z
    exact .inl z
  ·exact .inr ⟨List.mem_cons_of_mem _ z1,z2⟩
theorem y2{cells:List (Str×Addr)}: ∀(names:List (Str×NameKind)) (acc:List (Str×Addr)) (x:Str),((x,NameKind.free)∈names∨ ∃c,acc.lookup x=some c)→ ∃c,(dc cells names acc).lookup x=some c
 | [],acc,x,h=>by
  rcases h with h | h
  ·cases h
  ·exact h
 | (n,k)::r,acc,x,h=>by
  simp only[dc]
  refine y2 r _ x ?_
  rcases h with h | ⟨c,h⟩
  ·rcases List.mem_cons.mp h with e | h
   ·cases e
    refine .inr ?_
    simp[List.lookup_cons]
   ·exact .inl h
  ·refine .inr ?_
   by_cases hk:k= .free
   ·simp only[if_pos hk,List.lookup_cons]
    cases hx:x==n
    ·exact⟨c,h⟩
    ·exact⟨_,rfl⟩
   ·simp only[if_neg hk];exact⟨c,h⟩
theorem NH{env:Env}: ∀(names:List (Str×NameKind)) (x:Str),
  (names.map fun(n,k)=>if (k==NameKind.free && env.scope.kind== .function && env.kindOf n==some .cell) then (n,NameKind.cell) else (n,k)).lookup x=
   (names.lookup x).map fun k=>if (k==NameKind.free && env.scope.kind== .function && env.kindOf x==some .cell) then NameKind.cell else k
 | [],_=>rfl
 | (n,k)::r,x=>by
  have ih:=NH (env:=env) r x
  show List.lookup x ((if (k==NameKind.free && env.scope.kind== .function && env.kindOf n==some .cell)=true then (n,NameKind.cell) else (n,k))::_)=_
  cases hx:x==n with
  | true=>
   have e:x=n:=eq_of_beq hx
   subst e
   by_cases hc:(k==NameKind.free && env.scope.kind== .function && env.kindOf x==some .cell)=true
   ·rw[if_pos hc];simp only[List.lookup_cons,beq_self_eq_true,Option.map_some];rw[if_pos hc]
   ·rw[if_neg hc];simp only[List.lookup_cons,beq_self_eq_true,Option.map_some];rw[if_neg hc]
  | false=>
   by_cases hc:(k==NameKind.free && env.scope.kind== .function && env.kindOf n==some .cell)=true
   ·rw[if_pos hc];simp only[List.lookup_cons,hx];exact ih
   ·rw[if_neg hc];simp only[List.lookup_cons,hx];exact ih
section
variable {prog:Program} {w:World} {A:Around} {R:Result→Shared→Prop} {s:Shared}
theorem Z7{elt target iter:Expr}{ifs:List Expr}{scope:Scope}{pos:Pos}{it acc:Value}{env:Env}(I:Nat→Shared→Prop)
  (turn: ∀n s,I n s→wpAny (model prog w) A (pyNext it) (fun r s₁=>match r with
   | none=>R (.ok .next) s₁
   | some v=>wpAny (model prog w) A (letOwnedTupleGo target it v) (fun _ NJ=>wpAny (model prog w) A (assign target env v) (fun _ s₂=>
     wpAny (model prog w) A (forIn ifs true fun c r=>if r=true then do let ok ←isTrue c env (eval c env);pure (ForInStep.yield ok) else pure (ForInStep.yield r)) (fun ok s₃=>
      if ok=true then wpAny (model prog w) A (eval elt env) (fun x s₄=>
       wpAny (model prog w) A (call (.builtin "list.append") [acc,x]) (fun _ s₅=> ∃m,m<n∧I m s₅) (fun _ _=>False) s₄) (fun _ _=>False) s₃
      else ∃m,m<n∧I m s₃) (fun _ _=>False) s₂) (fun _ _=>False) NJ) (fun _ _=>False) s₁) (fun _ _=>False) s)
  (n:Nat) (h:I n s):codeAny (model prog w) A (.compLoop (.ListComp elt [⟨target,iter,ifs,0⟩] scope pos) 0 it acc env) R s:=by
 refine codeAny_loop rfl I (fun n s hI=> ?_) n h
 show wpAny _ A ((compTurn (.ListComp elt [⟨target,iter,ifs,0⟩] scope pos) 0 it acc env).onRaise (fun x=>do noteFrame x env;theTreesLotGoes x)) _ _ s
 refine wpAny_noted ?_
 rw[compTurn_list]
 refine wpAny_bind (wpAny_standAt (wpAny_bind (wpAny_mono (turn n s hI) (fun r s₁ h₁=> ?_) fun _ _ h'=>h'.elim)))
 cases r with
 | none=>exact wpAny_pure h₁
 | some v=>
  refine wpAny_bind (wpAny_mono h₁ (fun _ NJ Z8=> ?_) fun _ _ h'=>h'.elim)
  refine wpAny_bind (wpAny_mono Z8 (fun _ s₂ h₂=>wpAny_bind (wpAny_mono h₂ (fun ok s₃ h₃=> ?_) fun _ _ h'=>h'.elim)) fun _ _ h'=>h'.elim)
  cases ok with
  | false=>exact wpAny_pure ⟨rfl,h₃⟩
  | true=>
   exact wpAny_bind (wpAny_bind (wpAny_mono h₃ (fun x s₄ h₄=>wpAny_bind (wpAny_mono h₄ (fun _ s₅ h₅=>wpAny_pure (wpAny_pure ⟨rfl,h₅⟩)) fun _ _ h'=>h'.elim)) fun _ _ h'=>h'.elim))
end
def fc(X:Cx)(scope:Scope)(N:List Str)(ex:List Addr)(C:Addr)(s:Shared)(H:Hp):Cx where
 prog:=X.prog
 w:=X.w
 K:=X.K
 mg:=X.mg
 base:=X.base
 A:=X.A
 N:=N
 s₀:=s
 H₀:=H
 env:=compEnvC scope (dc X.env.cells scope.names []) C X.env
 outer:=X.stack
 stack:=X.stack
 ex:=ex
 fn:=fun _=>false
 calm:=X.calm
 pn:=[]
 xe:=fun _ _=>False
structure g5 (X:Cx) (scope:Scope) (ln:List Str) (fv:List (Str×Nat)):Prop where
 kind:scope.kind= .function
 NK: ∀y∈scope.names,y.2≠ .cell
 locals: ∀y∈scope.names,y.2= .local→scope.names.lookup y.1=some .local
 free: ∀y∈scope.names,y.2= .free→(X.env.kindOf y.1=some .cell∨X.env.kindOf y.1=some .free)
 Z9: ∀p∈fv,X.N[p.2]?=some p.1∧scope.names.lookup p.1=some .free
def cH(σ:St)(fv:List (Str×Nat)):St:=fv.map fun p=> (σ[p.2]?).join
def ka(K:Frag):Option Nat→V→Hp→(List V→Prop)→Prop
 | none,x,_,Q=>Q [x]
 | some n,x,H,Q=> ∃a xs,x= .ref a∧bo K H a xs∧xs.length=n∧Q xs
def lQ:Option TT→TT
 | none=>fun _ H k=>k true H
 | some t=>t
def lR(K:Frag)(wi:TI)(tk:Option Nat)(fv:List (Str×Nat))(tc:Option TT)(te:TE):TE:=fun σ H Q=>
 wi σ H fun J H1=> ∃W:Nat→Nat→List V→Hp→Prop,(∃m,W 0 m [] H1)∧ ∀i m ys H2,W i m ys H2→
  (J.stop i H2∧ ∀p,H2 p=none→Q (.ref p) (upd H2 p (.lst ys)))∨
  (J.go i H2∧ ∀x H3,J.e_ i H2 x H3→ka K tk x H3 fun xs=>
   lQ tc (xs.map some++cH σ fv) H3 fun b H5=>
    if b=true then te (xs.map some++cH σ fv) H5 fun y H6=>ys.length<sizeLine∧ ∃m',m'<m∧W (i+1) m' (ys++ [y]) H6
    else ∃m',m'<m∧W (i+1) m' ys H5)
section
variable {X:Cx} {pins:List (Addr×Obj)} {σ:St} {H:Hp} {s₂ s₃:Shared} {scope:Scope} {ln:List Str} {fv:List (Str×Nat)} {fp:List Addr} {h₁:Heap} {D C:Addr} {m:Str→Option Value} {t:Nat}
theorem g5.cells(S:g5 X scope ln fv)(I:Inv X pins σ H s₂){x:Str}{c:Addr}(h:(dc X.env.cells scope.names []).lookup x=some c):X.env.cells.lookup x=some c∧(x,NameKind.free)∈scope.names:=by
 rcases NG _ _ _ _ h with z | ⟨z1,z2⟩
 ·cases z
 ·obtain⟨c',e⟩:=I.ok.has x (S.free _ z1 rfl)
  rw[e] at z2
  have z3:c'=c:=z2
  subst z3
  exact⟨e,z1⟩
theorem g5.NL(S:g5 X scope ln fv)(I:Inv X pins σ H s₂):closureFor scope X.env=pure (dc X.env.cells scope.names []):=
 Z5 fun y hy hk=>I.ok.has y.1 (S.free y hy hk)
theorem Z_(S:g5 X scope ln fv)(I:Inv X pins σ H s₂)(f2: ∀b∈fp,fS X pins H b)(rf: ∀b∈fp,∃o,s₂.heap.get? b=some o)
  (os:s₃.os=s₂.os) (gens:s₃.gens=s₂.gens) (k3: ∀b o,s₂.heap.get? b=some o→s₃.heap.get? b=some o) (hD:D=s₂.heap.objs.size) (h3:s₃.heap.objs.size=s₂.heap.objs.size+1) (hC:C=s₃.heap.objs.size)
  (k4: ∀b o,s₃.heap.get? b=some o→h₁.get? b=some o) (uW:h₁.Ns C m):
  Inv (fc X scope (ln++fv.map (·.1)) (D::fp) C s₃ H) [] (ln.map (fun _=>none)++cH σ fv) H {s₃ with heap:=h₁,toks:=t}:=by
 have cl: ∀{x c},(dc X.env.cells scope.names []).lookup x=some c→X.env.cells.lookup x=some c:=fun h=> (S.cells I h).1
 have ltc: ∀{x c},(dc X.env.cells scope.names []).lookup x=some c→c<s₂.heap.objs.size:=fun h=>by
  obtain⟨v,q⟩:=I.cell _ _ (cl h)
  exact q.lt
 have ltf: ∀b∈fp,b<s₂.heap.objs.size:=fun b hb=>by obtain⟨o,e⟩:=rf b hb;exact Heap.lt_size e
 have exb: ∀b∈D::fp,b≤s₂.heap.objs.size:=fun b hb=>by
  rcases List.mem_cons.mp hb with e | hb
  ·rw[e,hD];exact zqR _
  ·exact Nat.le_of_lt (ltf b hb)
 have NM: ∀x,(relabel scope X.env).names.lookup x=(scope.names.lookup x).map fun k=>if (k==NameKind.free && X.env.scope.kind== .function && X.env.kindOf x==some .cell) then NameKind.cell else k:=fun x=>NH scope.names x
 have aad: ∀x,scope.names.lookup x=some .free→((relabel scope X.env).names.lookup x=some .cell∨(relabel scope X.env).names.lookup x=some .free):=fun x e=>by
  rw[NM,e]
  simp only[Option.map_some]
  split
  ·exact .inl rfl
  ·exact .inr rfl
 have aae: ∀x,((relabel scope X.env).names.lookup x=some .cell∨(relabel scope X.env).names.lookup x=some .free)→(x,NameKind.free)∈scope.names:=fun x e=>by
  rw[NM] at e
  cases q:scope.names.lookup x with
  | none=>rw[q] at e;rcases e with e | e<;>cases e
  | some k=>
   rw[q] at e
   have hm:(x,k)∈scope.names:=PySem.mem_of_lookup q
   simp only[Option.map_some] at e
   by_cases hk:k= .free
   ·rw[hk] at hm;exact hm
   ·have hb:(k==NameKind.free)=false:=by simpa using hk
    simp only[hb,Bool.false_and,Bool.false_eq_true,if_false] at e
    rcases e with e | e
    ·exact absurd (Option.some.inj e) (S.NK _ hm)
    ·exact absurd (Option.some.inj e) hk
 refine⟨⟨I.ok.mod,S.kind,I.ok.glob,I.ok.blt,Nat.le_of_eq hC.symm,fun x y c h1 h2=>I.ok.inj x y c (cl h1) (cl h2),fun x hx=>y2 _ _ x (.inl (aae x hx)),fun x c h _=> (by cases h),I.ok.hd,I.ok.frames, .inl rfl,fun b hb=> ⟨?_,fun x c e=> ?_⟩,fun b o e=> ⟨k3 b o (I.bs b o e).1,(I.bs b o e).2⟩, ?_,fun b o e hb=> ?_,fun b hb hf=> ?_, ?_,I.ux⟩,
  rfl, ?_,Un.kept fun b u e=>k4 b u e,⟨m,uW,fun i x v e1 e2 e3=> ?_⟩,fun x c e=> ?_,I.aR.fresh ?_,fun x c e=>I.jc x c (cl e),fun p hp=>absurd (show p∈ ([]:List (Addr×Obj)) from hp) (by simp),I.aR.kept fun b u e=>k4 b u (k3 b u e), ?_⟩
 ·show b≠C
  have:=exb b hb
  rw[hC,h3];exact Nat.ne_of_lt (Nat.lt_succ_of_le this)
 ·have q1:=ltc e
  rcases List.mem_cons.mp hb with z | z
  ·rw[z,hD];exact Nat.ne_of_lt q1
  ·exact(f2 b z).2.2.2.2.1 x c (cl e)
 ·show X.base.objs.size≤s₃.heap.objs.size
  have:=Nat.le_trans I.ok.o8 I.sz
  omega
 ·have e2:=(I.bs b o e).1
  have y6:b∈D::fp:=hb
  rcases List.mem_cons.mp y6 with z | z
  ·have:=Heap.lt_size e2
   rw[z,hD] at this;exact Nat.lt_irrefl _ this
  ·rcases (f2 b z).2.2.2.1 with q | q
   ·exact I.ok.yj b o e q
   ·exact absurd (Nat.lt_of_lt_of_le (Heap.lt_size (I.ok.bs b o e).1) q) (Nat.lt_irrefl _)
 ·have NN:b∈cj X.stack:=hf
  have y6:b∈D::fp:=hb
  rcases List.mem_cons.mp y6 with z | z
  ·rcases List.mem_cons.mp (I.uw b NN) with q | q
   ·have:=I.lt
    rw[←q,z,hD] at this;exact Nat.lt_irrefl _ this
   ·exact I.Ma (by rw[z,hD];exact zqR _) q
  ·rcases List.mem_cons.mp (I.uw b NN) with q | q
   ·exact(f2 b z).2.1 q
   ·exact(f2 b z).2.2.1 q
 ·exact PySem.Heap.FunFrames.of_keeps (fun b o e _=> ⟨o,k3 b o e,rfl⟩) I.stack
 ·show AllBare s₃.gens
  rw[gens];exact I.bare
 ·have hi:ln.length≤i:=by
   by_cases hi:i<ln.length
   ·exfalso
    rw[List.getElem?_append_left (by simpa using hi),List.getElem?_map] at e2
    cases q:ln[i]? with
    | none=>rw[q] at e2;cases e2
    | some y=>rw[q] at e2;cases e2
   ·omega
  have lS:(ln++fv.map (·.1))[i]?=some x:=e1
  rw[List.getElem?_append_right hi,List.getElem?_map] at lS
  rw[List.getElem?_append_right (by simpa using hi),List.length_map] at e2
  unfold cH at e2
  rw[List.getElem?_map] at e2
  cases q:fv[i - ln.length]? with
  | none=>rw[q] at lS;cases lS
  | some p=>
   rw[q] at lS e2
   have ex:p.1=x:=Option.some.inj lS
   have ev:(σ[p.2]?).join=some v:=Option.some.inj e2
   obtain⟨g1,g2⟩:=S.Z9 p (List.mem_of_getElem? q)
   rw[ex] at g1 g2
   have ev':σ[p.2]?=some (some v):=by
    cases z:σ[p.2]? with
    | none=>rw[z] at ev;cases ev
    | some o=>rw[z] at ev;rw[show o=some v from ev]
   have hk:=S.free _ (PySem.mem_of_lookup g2) rfl
   obtain⟨m2,j4,hl⟩:=I.loc
   obtain⟨u,r,l⟩:=hl p.2 x v g1 ev' (by rcases hk with k | k;exact .inr (.inl k);exact .inr (.inr k))
   refine⟨u,r, .inr ?_⟩
   rcases l with⟨k,_⟩ | ⟨_,c,ec,z⟩
   ·rcases hk with k' | k'<;> (rw[k] at k';cases k')
   ·refine⟨aad x g2,c, ?_, ?_⟩
    ·obtain⟨c',e'⟩:=y2 (cells:=X.env.cells) scope.names [] x (.inl (PySem.mem_of_lookup g2))
     have:=cl e'
     rw[ec] at this;cases this
     exact e'
    ·obtain⟨o,ho,hd⟩:=z
     exact⟨o,k4 c o (k3 c o ho),hd⟩
 ·obtain⟨v,o,ho,hd⟩:=I.cell x c (cl e)
  exact⟨v,o,k4 c o (k3 c o ho),hd⟩
 ·show s₂.heap.objs.size≤C
  rw[hC,h3];exact Nat.le_succ _
 ·show(ln.map (fun _=>none)++cH σ fv).length=(ln++fv.map (·.1)).length
  simp[cH]
end
structure NO (Φ:Cx→Prop) (P:Program) (w:World) (K:Frag) (tg:Expr) (J:It) (fp:List Addr) (it:Addr) (tn:Nat→Heap→Prop):Prop where
 mem:it∈fp
 obj: ∀i h,tn i h→ ∀b∈fp,∃o,h.get? b=some o∧ ∀v,o.data≠ .cell v
 keep: ∀i h h',tn i h→(∀b∈fp,∀o,h.get? b=some o→h'.get? b=some o)→tn i h'
 item: ∀(X:Cx),X.prog=P→X.w=w→X.K=K→Φ X→ ∀(i:Nat) (pins:List (Addr×Obj)) (s:Shared) (σ:St) (H:Hp) (E:Value→Shared→Prop),Inv X pins σ H s→(∀b∈fp,fS X pins H b)→tn i s.heap→J.go i H→
  wpAny (model P w) X.A (pyNext (.ref it)) (fun r s1=> ∃u,r=some u∧
   wpAny (model P w) X.A (letOwnedTupleGo tg (.ref it) u) (fun _ s2=> ∃x H',Inv X pins σ H' s2∧RelV x u∧J.e_ i H x H'∧tn (i+1) s2.heap∧ ∀b∈fp,H' b=none) E s1) E s
 done: ∀(X:Cx),X.prog=P→X.w=w→X.K=K→Φ X→ ∀(i:Nat) (pins:List (Addr×Obj)) (s:Shared) (σ:St) (H:Hp) (E:Value→Shared→Prop),Inv X pins σ H s→(∀b∈fp,fS X pins H b)→tn i s.heap→J.stop i H→
  wpAny (model P w) X.A (pyNext (.ref it)) (fun r s1=>r=none∧Inv X pins σ H s1) E s
 self: ∀(A:Around) (i:Nat) (s:Shared) (Q:Value→Shared→Prop) (E:Value→Shared→Prop),tn i s.heap→Q (.ref it) s→wpAny (model P w) A (pyIter (.ref it)) Q E s
def y_(Φ:Cx→Prop)(X:Cx)(tg iter:Expr)(wi:TI):Prop:=
 ∀(pins:List (Addr×Obj)) (s:Shared) (σ:St) (H:Hp) (R:It→Hp→Prop),Inv X pins σ H s→wi σ H R→
  wpAny (model X.prog X.w) X.A (eval iter X.env) (fun v s1=>wpAny (model X.prog X.w) X.A (pyIter v) (fun lB s2=>
   ∃(it:Addr) (fp:List Addr) (tn:Nat→Heap→Prop) (J:It) (H':Hp),lB= .ref it∧Inv X pins σ H' s2∧NO Φ X.prog X.w X.K tg J fp it tn∧tn 0 s2.heap∧(∀b∈fp,fS X pins H' b)∧R J H') X.xe s1) X.xe s
abbrev Calm(X:Cx):Prop:=X.calm=true
theorem PI.p{X:Cx}{tg iter:Expr}{wi:TI}(h:PI X tg iter wi):y_ Calm X tg iter wi:=fun pins s σ H R I q=>
 bf (h pins s σ H R I q) fun v s1 h1=>bf h1 fun lB s2 ⟨it,fp,tn,J,H',e,I',T,st,f,r⟩=> ⟨it,fp,tn,J,H',e,I',⟨T.mem,T.obj,T.keep,T.item,T.done,T.self⟩,st,f,r⟩
section
variable {X:Cx} {pins:List (Addr×Obj)} {σ:St} {H:Hp} {s₂:Shared} {scope:Scope} {ln:List Str} {fv:List (Str×Nat)} {elt tg iter:Expr} {ifs:List Expr} {pos:Pos}
 {J:It} {fp:List Addr} {it:Addr} {tn:Nat→Heap→Prop} {tk:Option Nat} {tc:Option TT} {te:TE} {Qv:VK} {RR:Value→Addr→Result→Shared→Prop} {E:Value→Shared→Prop}
def za(Ψ:Hp→Prop)(X:Cx)(scope:Scope)(ln:List Str)(fv:List (Str×Nat))(tg:Expr)(tk:Option Nat):Prop:=
 ∀(ex:List Addr) (C:Addr) (s:Shared) (H:Hp),Ψ H→ ∃g,PG (fc X scope (ln++fv.map (·.1)) ex C s H) tg g∧
  ∀(x:V) (pre φ:St) (H':Hp) (Q:St→Hp→Prop),pre.length=ln.length→ka X.K tk x H' (fun xs=>xs.length=ln.length→Q (xs.map some++φ) H')→g x (pre++φ) H' Q
def rg(X:Cx)(scope:Scope)(ln:List Str)(fv:List (Str×Nat))(tg:Expr)(tk:Option Nat):Prop:=
 ∀(ex:List Addr) (C:Addr) (s:Shared) (H:Hp),∃g,PG (fc X scope (ln++fv.map (·.1)) ex C s H) tg g∧
  ∀(x:V) (pre φ:St) (H':Hp) (Q:St→Hp→Prop),pre.length=ln.length→ka X.K tk x H' (fun xs=>xs.length=ln.length→Q (xs.map some++φ) H')→g x (pre++φ) H' Q
def rj(X:Cx)(scope:Scope)(N:List Str)(ifs:List Expr)(tc:Option TT):Prop:=
 match tc with
 | none=>ifs=[]
 | some t=> ∃c,ifs=[c]∧ ∀(ex:List Addr) (C:Addr) (s:Shared) (H:Hp),PT (fc X scope N ex C s H) c t
theorem NP{Φ:Cx→Prop}{Ψ:Hp→Prop}(S:g5 X scope ln fv)(hc: ∀Xc:Cx,Xc.A=X.A→Xc.calm=X.calm→Xc.H₀=H→Φ Xc)(hΨ:Ψ H)(hg:za Ψ X scope ln fv tg tk)(ht:rj X scope (ln++fv.map (·.1)) ifs tc)
  (he: ∀(ex:List Addr) (C:Addr) (s:Shared) (H:Hp),PE (fc X scope (ln++fv.map (·.1)) ex C s H) elt te)
  (I:Inv X pins σ H s₂) (T:NO Φ X.prog X.w X.K tg J fp it tn) (st:tn 0 s₂.heap) (f2: ∀b∈fp,fS X pins H b)
  (h: ∃W:Nat→Nat→List V→Hp→Prop,(∃m,W 0 m [] H)∧ ∀i m ys H2,W i m ys H2→
   (J.stop i H2∧ ∀p,H2 p=none→Qv (.ref p) (upd H2 p (.lst ys)))∨
   (J.go i H2∧ ∀x H3,J.e_ i H2 x H3→ka X.K tk x H3 fun xs=>
    lQ tc (xs.map some++cH σ fv) H3 fun b H5=>
     if b=true then te (xs.map some++cH σ fv) H5 fun y H6=>ys.length<sizeLine∧ ∃m',m'<m∧W (i+1) m' (ys++ [y]) H6
     else ∃m',m'<m∧W (i+1) m' ys H5))
  (hRR: ∀D C H' s' m,Inv X pins σ H' s'→s'.heap.Ns C m→H' C=none→C≠X.env.locals→X.s₀.heap.objs.size≤C→(∀x c,X.env.cells.lookup x=some c→c≠C)→(∀p∈X.pn++pins,p.1≠C)→Qv (.ref D) H'→RR (.ref D) C (.ok .next) s'):
  wpAny (model X.prog X.w) X.A (newList []) (fun acc s₃=>wpAny (model X.prog X.w) X.A (newFunctionEnv scope X.env.globals (dc X.env.cells scope.names []) [] X.env.qual none .none (some X.env)) (fun NQ s₄=>
   codeAny (model X.prog X.w) X.A (.compStart (.ListComp elt [⟨tg,iter,ifs,0⟩] scope pos) 0 (.ref it) acc {NQ with scope:=relabel scope X.env}) (RR acc NQ.locals) s₄) E s₃) E s₂:=by
 obtain⟨W,⟨m0,w0⟩,turn⟩:=h
 refine wpAny_newObj_type (wpAny_newFunctionEnv S.NK (by intro y hy;simp at hy) (fun h₁ u_ vc=> ?_) S.kind)
 dsimp only at u_ vc⊢
 generalize vd:({s₂ with heap:=s₂.heap.push {cls:= .type "list",dict:=none,data:= .seq ([]:List Value).toArray}}:Shared)=s₃
 have iJ:s₂.heap.push {cls:= .type "list",dict:=none,data:= .seq ([]:List Value).toArray}=s₃.heap:=by rw[←vd]
 rw[iJ] at u_ vc⊢
 have NR:s₃.os=s₂.os:=by rw[←vd]
 have ge3:s₃.gens=s₂.gens:=by rw[←vd]
 have lT:s₃.heap.objs.size=s₂.heap.objs.size+1:=by rw[←iJ,Heap.size_push]
 have k3: ∀b o,s₂.heap.get? b=some o→s₃.heap.get? b=some o:=fun b o e=>by rw[←iJ];exact Heap.get?_push_of_some _ e
 have k4: ∀b o,s₃.heap.get? b=some o→h₁.get? b=some o:=fun b o e=>vc.extBut b o (Nat.ne_of_lt (Heap.lt_size e)) (Heap.get?_push_of_some _ e)
 have gD:s₃.heap.get? s₂.heap.objs.size=some {cls:= .type "list",dict:=none,data:= .seq ([]:List Value).toArray}:=by rw[←iJ];exact Heap.get?_push_size _ rfl
 generalize eD:s₂.heap.objs.size=D at gD
 generalize eC:s₃.heap.objs.size=C at u_ vc⊢
 have ve:D≠C:=by rw[←eD,←eC,lT];exact Nat.ne_of_lt (Nat.lt_succ_self _)
 have rf: ∀b∈fp,∃o,s₂.heap.get? b=some o:=fun b hb=>by obtain⟨o,e,_⟩:=T.obj 0 _ st b hb;exact⟨o,e⟩
 have NS: ∀b∈fp,b≠D:=fun b hb=>by obtain⟨o,e⟩:=rf b hb;rw[←eD];exact Nat.ne_of_lt (Heap.lt_size e)
 have hbC: ∀b∈fp,b≠C:=fun b hb=>by
  obtain⟨o,e⟩:=rf b hb
  have:=Heap.lt_size e
  rw[←eC,lT];exact Nat.ne_of_lt (Nat.lt_succ_of_lt this)
 generalize eX:fc X scope (ln++fv.map (·.1)) (D::fp) C s₃ H=Xc
 have I4: ∀t,Inv Xc [] (ln.map (fun _=>none)++cH σ fv) H {s₃ with heap:=h₁,toks:=t}:=fun t=>by
  rw[←eX]
  exact Z_ S I f2 rf NR ge3 k3 eD.symm lT eC.symm k4 u_
 have xL:Xc.env.locals=C:=by rw[←eX];rfl
 have vf:Xc.ex=D::fp:=by rw[←eX];rfl
 have xfs:Xc.fs=cj X.stack:=by rw[←eX];rfl
 have xP:Xc.prog=X.prog:=by rw[←eX];rfl
 have xw:Xc.w=X.w:=by rw[←eX];rfl
 have xK:Xc.K=X.K:=by rw[←eX];rfl
 have xA:Xc.A=X.A:=by rw[←eX];rfl
 have xc:Φ Xc:=hc Xc xA (by rw[←eX];rfl) (by rw[←eX];rfl)
 have NT:Xc.pn=[]:=by rw[←eX];rfl
 have zb:Xc.xe=fun _ _=>False:=by rw[←eX];rfl
 have NU:Xc.env.cells=dc X.env.cells scope.names []:=by rw[←eX];rfl
 have zc:Xc.env=compEnvC scope (dc X.env.cells scope.names []) C X.env:=by rw[←eX];rfl
 have cD: ∀x c,Xc.env.cells.lookup x=some c→c≠D:=fun x c e=>by
  rw[NU] at e
  obtain⟨v,q⟩:=I.cell x c (S.cells I e).1
  rw[←eD];exact Nat.ne_of_lt q.lt
 have cF: ∀x c,Xc.env.cells.lookup x=some c→ ∀b∈fp,c≠b:=fun x c e b hb=>by
  rw[NU] at e
  exact(f2 b hb).2.2.2.2.1 x c (S.cells I e).1
 have sF: ∀b∈D::fp,b∉Xc.fs:=fun b hb hf=>by
  have:=(I4 0).ok.yk b (by rw[vf];exact hb)
  exact this hf
 have lE: ∀{H':Hp} {oD:Obj},(∀b∈fp,H' b=none)→ ∀b∈fp,fS Xc [(D,oD)] H' b:=fun hn b hb=>
  ⟨hn b hb,by rw[xL];exact hbC b hb,sF b (List.mem_cons_of_mem _ hb), .inl (by rw[vf];exact List.mem_cons_of_mem _ hb),fun x c e=>cF x c e b hb,fun p hp=>by
   rw[NT] at hp
   rcases List.mem_singleton.mp (show p∈ [(D,_)] from hp) with rfl
   exact(NS b hb).symm⟩
 have loop: ∀s₄:Shared,s₄={s₃ with heap:=h₁,toks:=s₃.toks+ ([]:List (Str×Value)).length}→
   codeAny (model X.prog X.w) X.A (.compLoop (.ListComp elt [⟨tg,iter,ifs,0⟩] scope pos) 0 (.ref it) (.ref D) (compEnvC scope (dc X.env.cells scope.names []) C X.env)) (RR (.ref D) C) s₄:=by
  rintro s₄ rfl
  refine Z7 (fun n s'=> ∃i pre ys its nn H',Inv Xc [(D,{cls:= .type "list",data:= .seq (List.toArray its) nn})] (pre++cH σ fv) H' s'∧pre.length=ln.length∧tn i s'.heap∧(∀b∈fp,H' b=none)∧Vals ys its∧ys.length≤sizeLine∧W i n ys H') ?_ m0
   ⟨0,ln.map (fun _=>none),[],[],0,H,(I4 _).o9 (fun p hp=> ?_),by simp,T.keep 0 _ _ st (fun b _ o e=>k4 b o (k3 b o e)),fun b hb=> (f2 b hb).1, .nil,zqZ _,w0⟩
  rotate_left
  ·have zd:=List.mem_singleton.mp hp
   subst zd
   refine⟨k4 _ _ gD,I.aR.fresh (Nat.le_of_eq eD),by rw[xL];exact ve,sF D List.mem_cons_self,fun v z=>by cases z⟩
  rintro n s' ⟨i,pre,ys,its,nn,H',I',pk,da,NV,hv,hz,w'⟩
  have aEf:=I'.pin (D,_) (List.mem_append_right _ List.mem_cons_self)
  rcases turn i n ys H' w' with⟨stop,qn⟩ | ⟨go,step⟩
  ·have td:=T.done Xc xP xw xK xc i _ s' _ H' (fun _ _=>False) I' (lE NV) da stop
   rw[xA] at td
   refine bf td fun r s1 ⟨hr,I1⟩=> ?_
   subst hr
   have ze:=I1.pin (D,_) (List.mem_append_right _ List.mem_cons_self)
   have b1:=I1.base
   rw[xfs,vf] at b1
   have NW:Xc.s₀=s₃:=by rw[←eX];rfl
   have hH0:Xc.H₀=H:=by rw[←eX];rfl
   rw[NW,hH0] at b1
   have nD: ∀b o,s₂.heap.get? b=some o→b∉fp→b∉D::fp:=fun b o e hb hm=>by
    rcases List.mem_cons.mp hm with z | z
    ·have:=Heap.lt_size e
     rw[z,eD] at this;exact Nat.lt_irrefl _ this
    ·exact hb z
   have un:Un (cj X.stack) fp H H' s₂.heap s1.heap:=⟨fun b o e nb hb hx=>b1.keep b o (k3 b o e) nb hb (nD b o e hx),fun b o e nb hb hx=>b1.slot b o (k3 b o e) nb hb (nD b o e hx),fun b o e nb hx=>b1.free b o (k3 b o e) nb (nD b o e hx),
    fun b o e hx=>b1.there b o (k3 b o e) (nD b o e hx),b1.cY,b1.fA,b1.fR⟩
   have os1:s1.os=s₂.os:=by rw[I1.os,NW,NR]
   have NY:=I1.aR
   rw[xP,xw] at NY
   have J1:Inv X pins σ H' s1:=I.Xm os1 un NY I1.bare fun b hb=> ⟨(f2 b hb).2.2.2.1,(f2 b hb).2.1,(f2 b hb).2.2.2.2.1,(f2 b hb).2.2.2.2.2⟩
   have cD': ∀x c,X.env.cells.lookup x=some c→c≠D:=fun x c e=>by
    obtain⟨v,q⟩:=I.cell x c e
    rw[←eD];exact Nat.ne_of_lt q.lt
   have cC': ∀x c,X.env.cells.lookup x=some c→c≠C:=fun x c e=>by
    obtain⟨v,q⟩:=I.cell x c e
    rw[←eC,lT];exact Nat.ne_of_lt (Nat.lt_succ_of_lt q.lt)
   have pD: ∀p∈X.pn++pins,p.1≠D:=fun p hp=>by rw[←eD];exact Nat.ne_of_lt (Heap.lt_size (I.pin p hp).1)
   have pC: ∀p∈X.pn++pins,p.1≠C:=fun p hp=>by
    rw[←eC,lT];exact Nat.ne_of_lt (Nat.lt_succ_of_lt (Heap.lt_size (I.pin p hp).1))
   have lD:D≠X.env.locals:=by rw[←eD];exact Nat.ne_of_gt I.lt
   have lC:C≠X.env.locals:=by
    rw[←eC,lT];exact Nat.ne_of_gt (Nat.lt_succ_of_lt I.lt)
   have J2:Inv X pins σ (upd H' D (.lst ys)) s1:=Inv.yY J1 ze.2.1 (by rw[←eD];exact I.sz) lD cD' pD ⟨hz,its,nn,hv,ze.1⟩
   obtain⟨mC,NZ,_⟩:=I1.loc
   rw[xL] at NZ
   have fC:H' C=none:=by have:=I1.free;rw[xL] at this;exact this
   exact hRR D C _ s1 mC J2 NZ (by rw[a_ (Ne.symm ve)];exact fC) lC (by rw[←eC,lT];exact Nat.le_succ_of_le I.sz) cC' pC (qn D ze.2.1)
  ·have ti:=T.item Xc xP xw xK xc i _ s' _ H' (fun _ _=>False) I' (lE NV) da go
   rw[xA] at ti
   refine bf ti fun r s4 ⟨u,hr,h4⟩=> ?_
   subst hr
   refine bf h4 fun _ s5 ⟨x,H5,I5,r5,y5,lG,yz⟩=> ?_
   have yA:=I5.pinned (lE yz) (T.obj _ _ lG)
   obtain⟨g,pg,gq⟩:=hg (D::fp) C s₃ H hΨ
   rw[eX] at pg
   have rd:=step x H5 y5
   have N0:=pg _ s5 _ H5 x u (fun σ6 H6=> ∃xs:List V,σ6=xs.map some++cH σ fv∧xs.length=ln.length∧H6=H5∧
     lQ tc (xs.map some++cH σ fv) H5 fun b H5=>
     if b=true then te (xs.map some++cH σ fv) H5 fun y H6=>ys.length<sizeLine∧ ∃m',m'<n∧W (i+1) m' (ys++ [y]) H6
     else ∃m',m'<n∧W (i+1) m' ys H5) yA r5 (gq x pre (cH σ fv) H5 _ pk (by
      cases tk with
      | none=>exact fun hl=> ⟨_,rfl,hl,rfl,rd⟩
      | some k=>
       obtain⟨a,xs,e1,e2,e3,rd⟩:=rd
       exact⟨a,xs,e1,e2,e3,fun hl=> ⟨xs,rfl,hl,rfl,rd⟩⟩))
   rw[xA,xP,xw,zb,zc] at N0
   refine bf N0 fun _ s6 ⟨σ6,H6,I6,xs,e6,N1,eH,N2⟩=> ?_
   subst e6 eH
   have N3: ∀{H7:Hp} {σ7:St} {s7:Shared},Inv Xc ([(D,{cls:= .type "list",data:= .seq (List.toArray its) nn})]++pf fp s5.heap) σ7 H7 s7→tn (i+1) s7.heap∧(∀b∈fp,H7 b=none)∧s7.heap.get? D=some {cls:= .type "list",data:= .seq (List.toArray its) nn}∧H7 D=none:=fun {H7 σ7 s7} I7=>by
    refine⟨T.keep _ _ _ lG fun b hb o e=> (I7.pin (b,o) (List.mem_append_right _ (List.mem_append_right _ (uH hb e)))).1,fun b hb=> ?_, ?_, ?_⟩
    ·obtain⟨o,e,d⟩:=T.obj _ _ lG b hb
     exact(I7.pin (b,o) (List.mem_append_right _ (List.mem_append_right _ (uH hb e)))).2.1
    ·exact(I7.pin (D,_) (List.mem_append_right _ (List.mem_append_left _ List.mem_cons_self))).1
    ·exact(I7.pin (D,_) (List.mem_append_right _ (List.mem_append_left _ List.mem_cons_self))).2.1
   have tests:wpAny (model X.prog X.w) X.A (forIn ifs true fun c r=>if r=true then do let ok ←isTrue c (compEnvC scope (dc X.env.cells scope.names []) C X.env) (eval c (compEnvC scope (dc X.env.cells scope.names []) C X.env));pure (ForInStep.yield ok) else pure (ForInStep.yield r))
     (fun ok s7=> ∃H7,Inv Xc ([(D,{cls:= .type "list",data:= .seq (List.toArray its) nn})]++pf fp s5.heap) (xs.map some++cH σ fv) H7 s7∧
      if ok=true then te (xs.map some++cH σ fv) H7 fun y H6=>ys.length<sizeLine∧ ∃m',m'<n∧W (i+1) m' (ys++ [y]) H6
      else ∃m',m'<n∧W (i+1) m' ys H7) (fun _ _=>False) s6:=by
    cases tc with
    | none=>
     have zf:ifs=[]:=ht
     subst zf
     exact wpAny_tests_nil ⟨_,I6,N2⟩
    | some t=>
     obtain⟨c,zf,pt⟩:=(show ∃c,ifs=[c]∧ ∀(ex:List Addr) (C:Addr) (s:Shared) (H:Hp),PT (fc X scope (ln++fv.map (·.1)) ex C s H) c t from ht)
     subst zf
     have N4:=pt (D::fp) C s₃ H
     rw[eX] at N4
     have q:=N4 _ s6 _ _ _ I6 N2
     rw[xA,xP,xw,zb,zc] at q
     exact wpAny_tests_one (bf q fun b s7 ⟨H7,I7,q7⟩=> ⟨H7,I7,q7⟩)
   refine bf tests fun ok s7 ⟨H7,I7,q7⟩=> ?_
   cases ok with
   | false=>
    simp only[Bool.false_eq_true,if_false] at q7⊢
    obtain⟨m',hm,w7⟩:=q7
    obtain⟨t7,f7,d7,n7⟩:=N3 I7
    refine⟨m',hm,i+1,xs.map some,ys,its,nn,H7,I7.o9 (fun p hp=> ?_),by simpa using N1,t7,f7,hv,hz,w7⟩
    exact I7.pin p (List.mem_append_right _ (List.mem_append_left _ hp))
   | true=>
    simp only[if_true] at q7⊢
    have q:=he (D::fp) C s₃ H
    rw[eX] at q
    have q:=q _ s7 _ H7 _ I7 q7
    rw[xA,xP,xw,zb,zc] at q
    refine bf q fun uy s8 ⟨y,H8,I8,r8,bC,m',hm,w8⟩=> ?_
    obtain⟨t8,f8,d8,n8⟩:=N3 I8
    have hl:=hv.length
    refine call_meets F.slot_list_append ⟨_,d8,rfl⟩ F.entry_list_append (F.args_list_append_2 _ _) (PySem.list_append D its.toArray nn uy (by rw[List.size_toArray];omega)) ⟨d8, ?_⟩
    have I9: ∀t,Inv Xc [] (xs.map some++cH σ fv) H8 {s8 with heap:=s8.heap.update D (Obj.mapSeq (·.push uy)),toks:=t}:=fun t=>
     (I8.o9 (yo:=[]) (fun p hp=>absurd hp (by simp))).turned (it:=D) (t':=t) (fun b o hb e=> (Heap.get?_update_other s8.heap (Obj.mapSeq (·.push uy)) (Ne.symm hb)).trans e) n8 (by rw[xL];exact ve) (.inl (by rw[vf];exact List.mem_cons_self)) cD
      (fun p hp=>by rw[NT] at hp;exact absurd hp (by simp))
    have g9:=PySem.IsL.update d8 (·.push uy)
    obtain⟨n9,g9'⟩: ∃n9,(s8.heap.update D (Obj.mapSeq (·.push uy))).get? D=some {cls:= .type "list",data:= .seq (its++ [uy]).toArray n9}:=
     ⟨_,by rw[show(its++ [uy]).toArray=its.toArray.push uy by simp];exact g9⟩
    refine⟨m',hm,i+1,xs.map some,ys++ [y],its++ [uy],n9,H8,(I9 _).o9 (fun p hp=> ?_),by simpa using N1, ?_,f8,hv.append (.cons r8 .nil), ?_,w8⟩
    ·have zd:=List.mem_singleton.mp hp
     subst zd
     exact⟨g9',n8,by rw[xL];exact ve,sF D List.mem_cons_self,fun v z=>by cases z⟩
    ·exact T.keep _ _ _ t8 fun b hb o e=> (Heap.get?_update_other s8.heap (Obj.mapSeq (·.push uy)) (Ne.symm (NS b hb))).trans e
    ·rw[zqA,List.length_singleton];omega
 have st4:tn 0 h₁:=T.keep 0 _ _ st fun b _ o e=>k4 b o (k3 b o e)
 have e4:({s₂ with heap:=h₁,toks:=s₂.toks+ ([]:List (Str×Value)).length}:Shared)={s₃ with heap:=h₁,toks:=s₃.toks+ ([]:List (Str×Value)).length}:=by rw[←vd]
 exact codeAny_compStart_list (loop _ e4) (T.self X.A 0 _ _ _ st4 (loop _ e4))
end
section
variable {X:Cx} {scope:Scope} {ln:List Str} {fv:List (Str×Nat)} {elt tg iter:Expr} {ifs:List Expr} {pos:Pos} {wi:TI} {tk:Option Nat} {tc:Option TT} {te:TE}
theorem aaq{Φ:Cx→Prop}{Ψ:Hp→Prop}(S:g5 X scope ln fv)(hc: ∀H,Ψ H→ ∀Xc:Cx,Xc.A=X.A→Xc.calm=X.calm→Xc.H₀=H→Φ Xc)(hΨ: ∀pins σ H s,Inv X pins σ H s→Ψ H)(hi:y_ Φ X tg iter wi)(hg:za Ψ X scope ln fv tg tk)(ht:rj X scope (ln++fv.map (·.1)) ifs tc)
  (he: ∀(ex:List Addr) (C:Addr) (s:Shared) (H:Hp),PE (fc X scope (ln++fv.map (·.1)) ex C s H) elt te) (hs: ∀x,foldedSetIterable iter X.env x=pure x:=by intro _;rfl):
  PE X (.ListComp elt [⟨tg,iter,ifs,0⟩] scope pos) (lR X.K wi tk fv tc te):=by
 intro pins s σ H Q I h
 rw[eval_ListComp]
 refine wpAny_comprehension_free (use:=none) rfl hs (S.NL I) S.kind S.locals (bf (hi pins s σ H _ I h) fun v s1 h1=>bf h1 fun lB s2 h2=> ?_)
 obtain⟨it,fp,tn,J,H2,e,I2,T,qK,f2,hW⟩:=h2
 subst e
 refine NP (RR:=fun acc C=>compPost (model X.prog X.w) X.A X.xe none (EP X pins σ Q) acc C) S (hc H2 (hΨ _ _ _ _ I2)) (hΨ _ _ _ _ I2) hg ht he I2 T qK f2 hW ?_
 intro D C H' s' m I' ns hn hL h0 vg hp q
 refine⟨m,ns,fun h' sb=> ⟨.ref D,H', ?_,rfl,q⟩⟩
 exact I'.turned (it:=C) (t':=s'.toks) (fun b o hb e=>sb.extBut b o hb e) hn hL (.inr h0) vg hp
theorem aar{Φ:Cx→Prop}{Ψ:Hp→Prop}{i:Nat}{y:Str}{py rk:Pos}(hN:X.N.Nodup)(gj:X.N[i]?=some y)(hy:Loc X.env.scope y)(zg:swapsWith (.ListComp elt [⟨tg,iter,ifs,0⟩] scope pos) (some (.Name y py)) rk.line X.env=pure true)
  (S:g5 X scope ln fv) (hc: ∀H,Ψ H→ ∀Xc:Cx,Xc.A=X.A→Xc.calm=X.calm→Xc.H₀=H→Φ Xc) (hΨ: ∀pins σ H s,Inv X pins σ H s→Ψ H) (hi:y_ Φ X tg iter wi) (hg:za Ψ X scope ln fv tg tk) (ht:rj X scope (ln++fv.map (·.1)) ifs tc)
  (he: ∀(ex:List Addr) (C:Addr) (s:Shared) (H:Hp),PE (fc X scope (ln++fv.map (·.1)) ex C s H) elt te) (hs: ∀x,foldedSetIterable iter X.env x=pure x:=by intro _;rfl)
  (hf:X.fn y=true∨X.env.scope.names.lookup y=some .local:=by first | exact .inl rfl | exact .inr rfl | assumption):
  PS X (.Assign [.Name y py] (.ListComp elt [⟨tg,iter,ifs,0⟩] scope pos) rk) (gW (lR X.K wi tk fv tc te) (dZ i)):=by
 intro pins s σ H D I h
 rw[exec_Assign_Name_used _ _ _ _ zg]
 refine wpAny_bind (wpAny_standAt (wpAny_bind ?_))
 show wpAny _ X.A (do let _ ←comprehension (.ListComp elt [⟨tg,iter,ifs,0⟩] scope pos) scope X.env _ (newList []) false (eval iter X.env) (some (assign (.Name y py) X.env))) _ _ s
 refine wpAny_bind (wpAny_mono (wpAny_comprehension_free (use:=some (assign (.Name y py) X.env)) (Q:=fun _ s'=>SP X pins D .next s') rfl hs (S.NL I) S.kind S.locals
  (bf (hi pins s σ H _ I h) fun v s1 h1=>bf h1 fun lB s2 h2=> ?_)) (fun _ s' hq=>wpAny_pure (wpAny_pure hq)) fun _ _ e=>e)
 obtain⟨it,fp,tn,J,H2,e,I2,T,qK,f2,hW⟩:=h2
 subst e
 refine NP (Qv:=fun x H1=>dZ i x σ H1 D.nx) (RR:=fun acc C=>compPost (model X.prog X.w) X.A X.xe (some (assign (.Name y py) X.env)) (fun _ s'=>SP X pins D .next s') acc C) S (hc H2 (hΨ _ _ _ _ I2)) (hΨ _ _ _ _ I2) hg ht he I2 T qK f2 hW ?_
 intro Da C H' s' m I' ns hn hL h0 vg hp q
 show wpAny _ X.A (assign (.Name y py) X.env (.ref Da)) _ _ _
 refine wpAny_assign_Name (Me I' hN gj hy (v:= .ref Da) rfl (fun s4 I4 ⟨a,sb,ha⟩=> ?_) hf)
 have hCa:C≠a:=by
  rcases ha with z | z
  ·rw[z];exact hL
  ·exact Ne.symm (vg _ _ z)
 refine⟨m,ns.sameBut sb hCa,fun h' sb'=> ⟨_,H', ?_,q⟩⟩
 exact I4.turned (it:=C) (t':=s4.toks) (fun b o hb e=>sb'.extBut b o hb e) hn hL (.inr h0) vg hp
theorem aau(S:g5 X scope ln fv)(hc:X.calm=true)(hi:PI X tg iter wi)(hg:rg X scope ln fv tg tk)(ht:rj X scope (ln++fv.map (·.1)) ifs tc)
  (he: ∀(ex:List Addr) (C:Addr) (s:Shared) (H:Hp),PE (fc X scope (ln++fv.map (·.1)) ex C s H) elt te) (hs: ∀x,foldedSetIterable iter X.env x=pure x:=by intro _;rfl):
  PE X (.ListComp elt [⟨tg,iter,ifs,0⟩] scope pos) (lR X.K wi tk fv tc te):=
 aaq (Φ:=Calm) (Ψ:=fun _=>True) S (fun _ _ Xc _ e _=>e.trans hc) (fun _ _ _ _ _=>trivial) hi.p (fun ex C s H _=>hg ex C s H) ht he hs
theorem aav{i:Nat}{y:Str}{py rk:Pos}(hN:X.N.Nodup)(gj:X.N[i]?=some y)(hy:Loc X.env.scope y)(zg:swapsWith (.ListComp elt [⟨tg,iter,ifs,0⟩] scope pos) (some (.Name y py)) rk.line X.env=pure true)
  (S:g5 X scope ln fv) (hc:X.calm=true) (hi:PI X tg iter wi) (hg:rg X scope ln fv tg tk) (ht:rj X scope (ln++fv.map (·.1)) ifs tc)
  (he: ∀(ex:List Addr) (C:Addr) (s:Shared) (H:Hp),PE (fc X scope (ln++fv.map (·.1)) ex C s H) elt te) (hs: ∀x,foldedSetIterable iter X.env x=pure x:=by intro _;rfl)
  (hf:X.fn y=true∨X.env.scope.names.lookup y=some .local:=by first | exact .inl rfl | exact .inr rfl | assumption):
  PS X (.Assign [.Name y py] (.ListComp elt [⟨tg,iter,ifs,0⟩] scope pos) rk) (gW (lR X.K wi tk fv tc te) (dZ i)):=
 aar (Φ:=Calm) (Ψ:=fun _=>True) hN gj hy zg S (fun _ _ Xc _ e _=>e.trans hc) (fun _ _ _ _ _=>trivial) hi.p (fun ex C s H _=>hg ex C s H) ht he hs hf
end
section
variable {X:Cx} {scope:Scope} {fv:List (Str×Nat)}
theorem aaw{x:Str}{px:Pos}(hl:scope.names.lookup x=some .local)(vh:(x::fv.map (·.1)).Nodup):rg X scope [x] fv (.Name x px) none:=by
 intro ex C s H
 have aax:Loc (fc X scope ([x]++fv.map (·.1)) ex C s H).env.scope x:= .inl (lookup_relabel_local hl)
 refine⟨dZ 0,uD (X:=fc X scope ([x]++fv.map (·.1)) ex C s H) vh rfl aax (.inr (lookup_relabel_local hl)),fun v pre φ H' Q hp h=> ?_⟩
 obtain⟨a,rfl⟩: ∃a,pre=[a]:=by
  match pre,hp with
  | [a],_=>exact⟨a,rfl⟩
 exact h rfl
theorem aay{x y:Str}{px py pos:Pos}{k:Nat}(hc:X.calm=true)(hx:scope.names.lookup x=some .local)(hy:scope.names.lookup y=some .local)(vh:(x::y::fv.map (·.1)).Nodup):rg X scope [x,y] fv (.Tuple [.Name x px, .Name y py] k pos) (some 2):=by
 intro ex C s H
 generalize eX:fc X scope ([x,y]++fv.map (·.1)) ex C s H=Xc
 have xN:Xc.N=x::y::fv.map (·.1):=by rw[←eX];rfl
 have xc:Xc.calm=true:=by rw[←eX];exact hc
 have lx:Xc.env.scope.names.lookup x=some .local:=by rw[←eX];exact lookup_relabel_local hx
 have ly:Xc.env.scope.names.lookup y=some .local:=by rw[←eX];exact lookup_relabel_local hy
 have p1:PG Xc (.Name x px) (dZ 0):=uD (by rw[xN];exact vh) (by rw[xN];rfl) (.inl lx) (.inr lx)
 have p2:PG Xc (.Name y py) (dZ 1):=uD (by rw[xN];exact vh) (by rw[xN];rfl) (.inl ly) (.inr ly)
 have xK:Xc.K=X.K:=by rw[←eX];rfl
 refine⟨MB Xc.K 2 (uE (dZ 0) (uE (dZ 1) yu)),MC xc (yv p1 (yv p2 MA)),fun v pre φ H' Q hp h=> ?_⟩
 obtain⟨a,b,rfl⟩: ∃a b,pre=[a,b]:=by
  match pre,hp with
  | [a,b],_=>exact⟨a,b,rfl⟩
 obtain⟨a',xs,rfl,e2,e3,q⟩:=h
 obtain⟨v1,v2,rfl⟩: ∃v1 v2,xs=[v1,v2]:=by
  match xs,e3 with
  | [v1,v2],_=>exact⟨v1,v2,rfl⟩
 exact⟨a',_,rfl,by rw[xK];exact e2,rfl,v1,_,rfl,v2,_,rfl,rfl,q rfl⟩
end
section
variable {X:Cx}
theorem bI.imp{f:Value→Value→Sem Value}{r r':R2}(h:bI X f r)(i: ∀x y H Q,r' x y H Q→r x y H Q):bI X f r':=fun pins s σ H x y v u Q I rx ry q=>h pins s σ H x y v u Q I rx ry (i _ _ _ _ q)
theorem b9.imp{f:Value}{r r':List V→Hp→VK→Prop}(h:b9 X f r)(i: ∀xs H Q,r' xs H Q→r xs H Q):b9 X f r':=fun pins s σ H xs us Q I rv q=>h pins s σ H xs us Q I rv (i _ _ _ q)
def N5(K:Frag):R2:=fun x y H Q=>match x,y with
 | .int i, .int j=>Q (.int (i+j)) H
 | .str i, .str j=>i.length+j.length≤sizeLine∧Q (.str (i++j)) H
 | .ref l, .ref b=>Nv (.ref l) (.ref b) H Q∨Nk K (.ref l) (.ref b) H Q
 | _,_=>False
theorem aaz:bI X (binaryOp .Add) (N5 X.K):=by
 refine bI.imp ((X1.or Yq).or (ZI.or Zb)) fun x y H Q h=> ?_
 cases x<;>cases y<;>first
  | exact False.elim h
  | exact .inl (.inl ⟨_,_,rfl,rfl,h⟩)
  | exact .inl (.inr ⟨_,_,rfl,rfl,h⟩)
  | exact .inr h
def iK(C:Int→Int→Prop)(g:Int→Int→V):R2:=fun x y H Q=>match x,y with
 | .int i, .int j=>C i j∧Q (g i j) H
 | _,_=>False
theorem zh{C:Int→Int→Prop}{g:Int→Int→V}(x y:V)(H:Hp)(Q:VK)(h:iK C g x y H Q):rI C g x y H Q:=by
 cases x<;>cases y<;>first
  | exact False.elim h
  | exact⟨_,_,rfl,rfl,h⟩
theorem rm{g:Int→Int→V}(x y:V)(H:Hp)(Q:VK)(h:iK (fun _ _=>True) g x y H Q):jd g x y H Q:=by
 cases x<;>cases y<;>first
  | exact False.elim h
  | exact⟨_,_,rfl,rfl,h.2⟩
def zj:R2:=fun x y H Q=>match x,y with
 | .int i, .int j=>uL i j∧Q (.int (i*j)) H
 | .ref l, .int k=>Nw (.ref l) (.int k) H Q
 | _,_=>False
theorem aaA:bI X (binaryOp .Mult) zj:=by
 refine bI.imp (X4.or ZJ) fun x y H Q h=> ?_
 cases x<;>cases y<;>first
  | exact False.elim h
  | exact .inl ⟨_,_,rfl,rfl,h⟩
  | exact .inr h
def kc(K:Frag):Operator→R2
 | .Add=>N5 K
 | .Sub=>iK (fun _ _=>True) fun i j=> .int (i - j)
 | .Mult=>zj
 | .FloorDiv=>iK yD fun i j=> .int (i / j)
 | .Mod=>iK (fun _ j=>0<j) fun i j=> .int (i % j)
 | .Pow=>iK MO fun i j=> .int (i ^ j.toNat)
 | _=>fun _ _ _ _=>False
theorem aaB(op:Operator):bI X (binaryOp op) (kc X.K op):=by
 cases op<;>first
  | exact aaz
  | exact bI.imp X3 rm
  | exact aaA
  | exact bI.imp X5 zh
  | exact bI.imp X6 zh
  | exact bI.imp X7 zh
  | exact fun _ _ _ _ _ _ _ _ _ _ _ _ h=>False.elim h
mutual
def Is(H:Hp):PyData→V→Prop
 | .none,v=>v= .az
 | .bool b,v=>v= .bl b
 | .int i,v=>v= .int i
 | .str x,v=>v= .str x
 | .list xs,v=> ∃a vs,v= .ref a∧H a=some (.lst vs)∧IsL H xs vs
 | .tuple xs,v=> ∃a vs,v= .ref a∧H a=some (.tup vs)∧IsL H xs vs
 | .dict _,_=>False
def IsL(H:Hp):List PyData→List V→Prop
 | [],vs=>vs=[]
 | d::ds,vs=> ∃v r,vs=v::r∧Is H d v∧IsL H ds r
end
mutual
theorem Is.reads{pins:List (Addr×Obj)}{σ:St}{H:Hp}{s:Shared}(I:Inv X pins σ H s): ∀(d:PyData) (v:V) (u:Value),Is H d v→RelV v u→ ∃as,Reads s.heap u d as
 | .none,v,u,h,r=>by rw[show v= .az from h] at r;rw[show u= .none from r];exact⟨_, .none⟩
 | .bool b,v,u,h,r=>by rw[show v= .bl b from h] at r;rw[show u= .bool b from r];exact⟨_, .bool b⟩
 | .int i,v,u,h,r=>by rw[show v= .int i from h] at r;obtain⟨t,e⟩:=r;rw[e];exact⟨_, .int i t⟩
 | .str x,v,u,h,r=>by rw[show v= .str x from h] at r;obtain⟨t,e⟩:=r;rw[e];exact⟨_, .str x t⟩
 | .list xs,v,u,h,r=>by
  obtain⟨a,vs,e,hH,hl⟩:=(show ∃a vs,v= .ref a∧H a=some (.lst vs)∧IsL H xs vs by simpa only[Is] using h)
  rw[e] at r
  rw[show u= .ref a from r]
  obtain⟨_,its,n,hv,hg⟩:=I.aR a _ hH
  obtain⟨as,q⟩:=IsL.reads I xs vs its hl hv
  exact⟨_, .list hg rfl rfl (by simpa using q)⟩
 | .tuple xs,v,u,h,r=>by
  obtain⟨a,vs,e,hH,hl⟩:=(show ∃a vs,v= .ref a∧H a=some (.tup vs)∧IsL H xs vs by simpa only[Is] using h)
  rw[e] at r
  rw[show u= .ref a from r]
  obtain⟨_,its,hv,o,hg,hc,n,hd⟩:=I.aR a _ hH
  obtain⟨as,q⟩:=IsL.reads I xs vs its hl hv
  exact⟨_, .tuple hg hc hd (by simpa using q)⟩
 | .dict _,v,u,h,r=>by simp only[Is] at h
theorem IsL.reads{pins:List (Addr×Obj)}{σ:St}{H:Hp}{s:Shared}(I:Inv X pins σ H s): ∀(ds:List PyData) (vs:List V) (us:List Value),IsL H ds vs→Vals vs us→ ∃as,ReadsAll s.heap us ds as
 | [],vs,us,h,r=>by
  rw[show vs=[] from h] at r
  cases r
  exact⟨_, .nil⟩
 | d::ds,vs,us,h,r=>by
  obtain⟨v,q,e,h1,h2⟩:=(show ∃v r,vs=v::r∧Is H d v∧IsL H ds r by simpa only[IsL] using h)
  rw[e] at r
  cases r with
  | cons r1 r2=>
   obtain⟨as,q1⟩:=Is.reads I d v _ h1 r1
   obtain⟨bs,q2⟩:=IsL.reads I ds q _ h2 r2
   exact⟨_, .cons q1 q2⟩
end
def aaC:V→Bool
 | .jW _=>false
 | .eF _=>false
 | _=>true
def aaD:R2:=fun x y H Q=> ∃a b xs,x= .ref a∧y= .ref b∧H a=some (.lst xs)∧H b=some (.lst xs)∧xs.all aaC=true∧Q (.bl true) H
def lU(neg:Bool):R2:=fun x y H Q=>match lH x y with
 | true=>Q (.bl (neg ^^ decide (x=y))) H
 | false=> ∃d e,Is H d x∧Is H e y∧SeqAt.shaped d=true∧SeqAt.shaped e=true∧Q (.bl (neg ^^ PyData.eqv d e)) H
def aaE:R2:=fun x y H Q=>lU false x y H Q∨aaD x y H Q
theorem aaF(hu:X.A.units+64<cLine):bI X (compareOp .Eq) (lU false):=by
 intro pins s σ H x y v u Q I rx ry h
 unfold lU at h
 by_cases hs:lH x y=true
 ·rw[hs] at h
  simp only[Bool.false_xor] at h
  exact Yb pins s σ H x y v u Q I rx ry ⟨hs,h⟩
 ·rw[show lH x y=false by simpa using hs] at h
  obtain⟨d,e,h1,h2,h3,h4,q⟩:=h
  rw[Bool.false_xor] at q
  obtain⟨as,r1⟩:=Is.reads I d x v h1 rx
  obtain⟨bs,r2⟩:=Is.reads I e y u h2 ry
  exact eq_dataH r1 r2 h3 h4 hu ⟨.bl _,H,I,rfl,q⟩
theorem aaG(hu:X.A.units+64<cLine):bI X (compareOp .NotEq) (lU true):=by
 intro pins s σ H x y v u Q I rx ry h
 unfold lU at h
 by_cases hs:lH x y=true
 ·rw[hs] at h
  simp only[Bool.true_xor] at h
  exact Yc pins s σ H x y v u Q I rx ry ⟨hs,h⟩
 ·rw[show lH x y=false by simpa using hs] at h
  obtain⟨d,e,h1,h2,h3,h4,q⟩:=h
  rw[Bool.true_xor] at q
  obtain⟨as,r1⟩:=Is.reads I d x v h1 rx
  obtain⟨bs,r2⟩:=Is.reads I e y u h2 ry
  exact ne_dataH r1 r2 h3 h4 hu ⟨.bl _,H,I,rfl,q⟩
theorem aaH(l:Addr)(o:Obj)(es:Array DictEntry)(ep:Nat)(hc:o.cls= .type "dict")(hd:o.data= .dict es ep)(b:Str)(u:Tok):
  Meets (Builtin.«dict.__eq__» ⟨[.ref l, .str b u],[]⟩) (fun _ R s=>s.heap.get? l=some o∧R (.ok (.ret .notImplemented)) s):=
 .of_wp fun prog w A R s h=>by obtain⟨hp,g,d,tk,os⟩:=s;obtain⟨hl,h⟩:=h;obtain⟨cls,dd,data,sl⟩:=o;simp only at hc hd;subst hc hd;have f1:=F.sub_str_dict;wp_walk using AutoSeq1.wpAny_loadPart' hl;exact⟨_,rfl,h⟩
theorem aaI(b:Str)(u:Tok)(l:Addr)(o:Obj)(es:Array DictEntry)(ep:Nat)(hc:o.cls= .type "dict")(hd:o.data= .dict es ep):
  Meets (Builtin.«str.__eq__» ⟨[.str b u, .ref l],[]⟩) (fun _ R s=>s.heap.get? l=some o∧R (.ok (.ret .notImplemented)) s):=
 .of_wp fun prog w A R s h=>by obtain⟨hp,g,d,tk,os⟩:=s;obtain⟨hl,h⟩:=h;obtain⟨cls,dd,data,sl⟩:=o;simp only at hc hd;subst hc hd;wp_walk using AutoSeq1.wpAny_loadPart' hl,wpAny_load hl;exact⟨_,rfl,h⟩
theorem aaJ{A:Around}{s:Shared}{l:Addr}{o:Obj}{es:Array DictEntry}{ep:Nat}(b:Str)(u:Tok)(ho:s.heap.get? l=some o)(hc:o.cls= .type "dict")(hd:o.data= .dict es ep)(hu:A.units<cLine):SeqAt.EqAt A s (.str b u) (.ref l) false:=fun prog w E Q h=>by
 have rc:SeqAt.RcAt A s (.str b u) (.ref l) false:=fun prog w E Q h=>
  SeqAt.rc_eq_decline_or (k:=false) (typeIs_str s b u) ⟨_,ho,hc⟩ (by decide) F.sub_dict_str F.slot_str_eq F.slot_dict_eq_refl
   (fun _ hq=>call_meets F.slot_str_eq (typeIs_str s b u) F.entry_str_eq (F.args_str_eq_2 _ _) (aaI b u l o es ep hc hd) ⟨ho,hq⟩)
   (fun _ hq=>call_meets F.slot_dict_eq_refl ⟨_,ho,hc⟩ F.entry_dict_eq (F.args_dict_eq_2 _ _) (aaH l o es ep hc hd b u) ⟨ho,hq⟩)
   (fun _ hq=>wpAny_of_eq (rfl:isSame (.str b u) (.ref l)=pure false) hq) (.inr hu) h
 unfold eqBool
 refine wpAny_holding ?_
 refine wpAny_ite_split (fun zk=>absurd (eq_of_beq zk) nofun) (fun _=> ?_)
 exact wpAny_bind (rc prog w E _ (wpAny_truthy_bool h))
def N6(K:Frag)(H:Hp)(a:Addr):Prop:=(∃xs,aM K H a xs)∨(∃xs,bo K H a xs)∨ ∃aZ,H a=some (.dK aZ)
theorem rn{pins:List (Addr×Obj)}{σ:St}{H:Hp}{s:Shared}{a:Addr}(I:Inv X pins σ H s)(hc:N6 X.K H a)(hu:X.A.units+64<cLine): ∀{ts:List Str} {us:List Value},Vals (ts.map V.str) us→ ∀u∈us,SeqAt.EqAt X.A.in1 s u (.ref a) false
 | [],_, .nil=>fun u hu=>by cases hu
 | t::ts,u::us, .cons r rs=>fun u' zm=>by
  rcases List.mem_cons.mp zm with rfl | zm
  ·obtain⟨k,rfl⟩:=(show ∃k,_=Value.str t k from r)
   have zo:X.A.in1.units<cLine:=by show X.A.units+1<cLine;omega
   rcases hc with⟨xs,hc⟩ | ⟨xs,hc⟩ | ⟨aZ,hc⟩
   ·obtain⟨its,_,pl,_⟩:=I.list hc
    exact SeqAt.EqAt.str_list t k pl.isList zo
   ·obtain⟨its,_,pl,_⟩:=I.tuple hc
    exact SeqAt.EqAt.str_tuple t k pl zo
   ·obtain⟨_,_,vs,_,o,es,ep,ho,hx,hd,_⟩:=(show cO X.prog X.w H s.heap a (.dK aZ) from I.aR a _ hc)
    exact aaJ t k ho hx.1 hd zo
  ·exact rn I hc hu rs u' zm
def vi(K:Frag)(neg:Bool):R2:=fun x y H Q=>match y with
 | .str j=> ∃i,x= .str i∧Q (.bl (if neg then !(!(Builtin.Str.occurrences j i 0 j.length 1).isEmpty) else !(Builtin.Str.occurrences j i 0 j.length 1).isEmpty)) H
 | .ref p=>match x with
  | .ref a=> ∃ts:List Str,(aM K H p (ts.map V.str)∨bo K H p (ts.map V.str))∧N6 K H a∧Q (.bl neg) H
  | x=>yQ K neg x (.ref p) H Q
 | _=>False
theorem aaK(hu:X.A.units+64<cLine):bI X (compareOp .In) (vi X.K false):=by
 intro pins s σ H x y v u Q I rx ry h
 cases y with
 | str j=>
  obtain⟨i,e,q⟩:=h
  exact Yh pins s σ H x _ v u Q I rx ry ⟨i,j,e,rfl,q⟩
 | ref p=>
  cases x with
  | ref a=>
   obtain⟨ts,hq,hc,q⟩:=h
   cases rx
   cases ry
   rcases hq with hq | hq
   ·obtain⟨its,r,pl,hz⟩:=I.list hq
    refine SeqAt.in_listAt (fun _=>false) pl.isList (fun w hw=>rn I hc hu r w (by simpa using hw)) ⟨.bl _,H,I,rfl, ?_⟩
    rw[show(its.toArray.any fun _=>false)=false by simp];exact q
   ·obtain⟨its,r,pl,hz⟩:=I.tuple hq
    refine SeqAt.in_tupleAt (fun _=>false) pl (fun w hw=>rn I hc hu r w (by simpa using hw)) ⟨.bl _,H,I,rfl, ?_⟩
    rw[show(its.toArray.any fun _=>false)=false by simp];exact q
  | _=>exact Zm pins s σ H _ _ v u Q I rx ry h
 | _=>exact False.elim h
theorem aaL(hu:X.A.units+64<cLine):bI X (compareOp .NotIn) (vi X.K true):=by
 intro pins s σ H x y v u Q I rx ry h
 cases y with
 | str j=>
  obtain⟨i,e,q⟩:=h
  exact Yk pins s σ H x _ v u Q I rx ry ⟨i,j,e,rfl,q⟩
 | ref p=>
  cases x with
  | ref a=>
   obtain⟨ts,hq,hc,q⟩:=h
   cases rx
   cases ry
   rcases hq with hq | hq
   ·obtain⟨its,r,pl,hz⟩:=I.list hq
    refine SeqAt.notIn_listAt (fun _=>false) pl.isList (fun w hw=>rn I hc hu r w (by simpa using hw)) ⟨.bl _,H,I,rfl, ?_⟩
    rw[show(its.toArray.any fun _=>false)=false by simp];exact q
   ·obtain⟨its,r,pl,hz⟩:=I.tuple hq
    refine SeqAt.notIn_tupleAt (fun _=>false) pl (fun w hw=>rn I hc hu r w (by simpa using hw)) ⟨.bl _,H,I,rfl, ?_⟩
    rw[show(its.toArray.any fun _=>false)=false by simp];exact q
  | _=>exact Zn pins s σ H _ _ v u Q I rx ry h
 | _=>exact False.elim h
theorem aaM{M:Model}{A:Around}{E:Value→Shared→Prop}{s:Shared}{Q:Value→Shared→Prop}{v:Value}{d:Bool}(hv: ∀id,v≠ .builtin id)(h:Q (.bool (v== .bool d)) s):wpAny M A (compareOp .Is v (.bool d)) Q E s:=by
 cases v<;>first | exact wpAny_pure h | exact absurd rfl (hv _)
theorem aaN{M:Model}{A:Around}{E:Value→Shared→Prop}{s:Shared}{Q:Value→Shared→Prop}{v:Value}{d:Bool}(hv: ∀id,v≠ .builtin id)(h:Q (.bool (!(v== .bool d))) s):wpAny M A (compareOp .IsNot v (.bool d)) Q E s:=by
 cases v<;>first | exact wpAny_pure h | exact absurd rfl (hv _)
def N7:R2:=fun x y H Q=>match y with
 | .bl b=>Q (.bl (decide (x= .bl b))) H
 | _=>y= .az∧Q (.bl (decide (x= .az))) H
def N8:R2:=fun x y H Q=>match y with
 | .bl b=>Q (.bl (!decide (x= .bl b))) H
 | _=>y= .az∧Q (.bl (!decide (x= .az))) H
theorem aaO:bI X (compareOp .Is) N7:=by
 intro pins s σ H x y v u Q I rx ry h
 cases y with
 | bl b=>
  cases ry
  have nb: ∀id,v≠ .builtin id:=fun id z=>by
   subst z
   cases x<;>first
    | (obtain⟨t,e⟩:=rx;cases e;done)
    | (cases rx;done)
  refine aaM nb (bY I (show Q (.bl (decide (x= .bl b))) H from h) ?_)
  cases x<;>first
   | (cases rx;rfl)
   | (obtain⟨t,rfl⟩:=rx;rfl)
   | (cases rx;rename_i a;cases a<;>cases b<;>rfl)
 | _=>exact Yi pins s σ H x _ v u Q I rx ry h
theorem aaP:bI X (compareOp .IsNot) N8:=by
 intro pins s σ H x y v u Q I rx ry h
 cases y with
 | bl b=>
  cases ry
  have nb: ∀id,v≠ .builtin id:=fun id z=>by
   subst z
   cases x<;>first
    | (obtain⟨t,e⟩:=rx;cases e;done)
    | (cases rx;done)
  refine aaN nb (bY I (show Q (.bl (!decide (x= .bl b))) H from h) ?_)
  cases x<;>first
   | (cases rx;rfl)
   | (obtain⟨t,rfl⟩:=rx;rfl)
   | (cases rx;rename_i a;cases a<;>cases b<;>rfl)
 | _=>exact Yj pins s σ H x _ v u Q I rx ry h
def cn(K:Frag):CmpOp→R2
 | .Eq=>lU false
 | .NotEq=>lU true
 | .Lt=>iK (fun _ _=>True) fun i j=> .bl (decide (i<j))
 | .LtE=>iK (fun _ _=>True) fun i j=> .bl (decide (i≤j))
 | .Gt=>iK (fun _ _=>True) fun i j=> .bl (decide (j<i))
 | .GtE=>iK (fun _ _=>True) fun i j=> .bl (decide (j≤i))
 | .In=>vi K false
 | .NotIn=>vi K true
 | .Is=>N7
 | .IsNot=>N8
theorem pq(hu:X.A.units+64<cLine)(op:CmpOp):bI X (compareOp op) (cn X.K op):=by
 cases op with
 | Eq=>exact aaF hu
 | NotEq=>exact aaG hu
 | Lt=>exact bI.imp Yd rm
 | LtE=>exact bI.imp Ye rm
 | Gt=>exact bI.imp Yf rm
 | GtE=>exact bI.imp Yg rm
 | In=>exact aaK hu
 | NotIn=>exact aaL hu
 | Is=>exact aaO
 | IsNot=>exact aaP
inductive Ty where | int | str | bool | list | tuple | dict
 deriving DecidableEq
def Ty.nm:Ty→String
 | .int=> "int" | .str=> "str" | .bool=> "bool" | .list=> "list" | .tuple=> "tuple" | .dict=> "dict"
def bV(T:Ty)(x:V)(H:Hp)(Q:Bool→Prop):Prop:=match x with
 | .az=>Q false
 | .bl _=>Q (T== .bool || T== .int)
 | .int _=>Q (T== .int)
 | .str _=>Q (T== .str)
 | .ref a=>match H a with
  | some (.lst _)=>Q (T== .list)
  | some (.b6 _ (.lst _))=>Q (T== .list)
  | some (.tup _)=>Q (T== .tuple)
  | some (.dK _)=>Q (T== .dict)
  | some (.dT _)=>Q (T== .dict)
  | _=>False
 | _=>False
theorem kd(K:Frag)(S T:Ty):kitOne K (.type S.nm) (.type T.nm)=some (S==T || (S== .bool && T== .int)):=by
 cases S<;>cases T<;>rfl
theorem aaQ(K:Frag)(T:Ty):kitOne K (.type "NoneType") (.type T.nm)=some false:=by
 cases T<;>rfl
theorem aaR(hc:X.calm=true):b9 X (.builtin "sum") (fun xs H Q=> ∃(p:Addr) (ns:List Int),xs=[.ref p]∧aM X.K H p (ns.map V.int)∧Q (.int ns.sum) H):=by
 intro pins s σ H xs us Q I r h
 obtain⟨p,ns,rfl,hq,q⟩:=h
 obtain⟨u,rfl,ru⟩:=vals1 r
 cases ru
 obtain⟨its,rv,pl,hz⟩:=I.list hq
 have hi:=intsAre_of rv
 obtain⟨xs,hx⟩:=hi.allInts.items
 have N9:s.heap.IsList p (intItems xs):=hx ▸ pl.isList
 refine sum_intListG (I.ok.hd hc) N9 fun h' tk t' hk=> ?_
 have e1:ns=xs.toList.map (·.1):=by
  rw[←nums_intItems,←hx]
  exact(show numsOf its.toArray.toList=ns from hi.numsOf).symm
 have e2:preSum (numAt xs) xs.size=ns.sum:=by
  rw[preSum_eq,List.take_of_length_le (by simp),e1]
 rw[e2]
 exact⟨.int ns.sum,H,I.kept (t':=tk) hk,⟨t',rfl⟩,q⟩
theorem N_: ∀{ts:List Str} {us:List Value},Vals (ts.map V.str) us→ ∃l:List (Str×Tok),us=strValues l∧l.map (·.1)=ts
 | [],_, .nil=> ⟨[],rfl,rfl⟩
 | x::ts,_, .cons ⟨t,e⟩ r=>by
  obtain⟨l,e1,e2⟩:=N_ r
  subst e e1
  exact⟨(x,t)::l,rfl,by simp[e2]⟩
def rJoin(K:Frag):V→List V→Hp→VK→Prop:=fun x vs H Q=> ∃(sep:Str) (p:Addr) (ts:List Str),x= .str sep∧vs=[.ref p]∧aM K H p (ts.map V.str)∧JoinOk sep ts=true∧Q (.str (Txt.join sep ts)) H
theorem aaS:iH X "str.join" (rJoin X.K):=by
 intro pins s σ H x vs v us Q I rx rv h
 obtain⟨sep,p,ts,rfl,rfl,hq,hj,q⟩:=h
 obtain⟨t,rfl⟩:=rx
 obtain⟨u,rfl,ru⟩:=vals1 rv
 cases ru
 obtain⟨its,rv,pl,hz⟩:=I.list hq
 obtain⟨l,rfl,e2⟩:=N_ rv
 exact SC.join pl.isList e2 hj fun t' k=> ⟨.str _,H,I.tok k,⟨t',rfl⟩,q⟩
def aaT:V→List V→Hp→VK→Prop:=fun x vs H Q=> ∃z y,x= .str z∧vs=[.str y]∧z.length≤sizeLine∧Q (.str (Txt.lstripChars z y)) H
theorem aaU:iH X "str.lstrip" aaT:=by
 intro pins s σ H x vs v us Q I rx rv h
 obtain⟨z,y,rfl,rfl,hz,q⟩:=h
 obtain⟨t,rfl⟩:=rx
 obtain⟨u,rfl,⟨t2,rfl⟩⟩:=vals1 rv
 refine call_gives F.slot_str_lstrip (typeIs_str _ _ _) F.entry_str_lstrip (F.args_str_lstrip_2 _ _) (gives_str_lstrip_chars z y t t2) (post_val_or_made (fun _=>fits_stripped _ _ _ hz) fun t' k=> ?_)
 exact⟨.str _,H,I.tok k,⟨t',rfl⟩,q⟩
def aaV:V→List V→Hp→VK→Prop:=fun x vs H Q=> ∃z y i,x= .str z∧vs=[.str y, .int i]∧Q (.bl (decide (fromIndex z.length i+y.length≤z.length) && Builtin.Str.subAt z y (fromIndex z.length i))) H
theorem aaW:iH X "str.startswith" aaV:=by
 intro pins s σ H x vs v us Q I rx rv h
 obtain⟨z,y,i,rfl,rfl,q⟩:=h
 obtain⟨t,rfl⟩:=rx
 obtain⟨u,w,rfl,⟨t2,rfl⟩,⟨t3,rfl⟩⟩:=vals2 rv
 exact call_gives F.slot_str_startswith (typeIs_str _ _ _) F.entry_str_startswith (F.args_str_startswith_3 _ _ _) (gives_str_startswith_from z y i t t2 t3) ⟨.bl _,H,I,rfl,q⟩
def iL{α:Type}(xs:List α)(lo hi:Option Int):List α:=(xs.drop (HT.bG xs.length 0 lo)).take (HT.bG xs.length xs.length hi - HT.bG xs.length 0 lo)
def g6(z:Str)(lo hi:Option Int):Str:=⟨(iL z.cps.toList lo hi).toArray⟩
theorem aaX(z:Str)(lo hi:Option Int):((Builtin.Str.strSliceIndices lo hi 1 z.length).filterMap (z.cps[·]?))=iL z.cps.toList lo hi:=by
 obtain⟨h1,h2,h3⟩:=yP lo hi z.length
 have e0:Builtin.Str.strSliceIndices lo hi 1 z.length=sliceRange (sliceBounds lo hi none z.length).1 (sliceBounds lo hi none z.length).2.1 (sliceBounds lo hi none z.length).2.2:=rfl
 have hz:z.cps.toList.length=z.length:=by simp[Str.length]
 rw[e0,h1,h2,h3,sliceRange_one,pick_run]
 unfold iL
 rw[hz]
end
section
variable {X:Cx}
def vj(K:Frag)(neg:Bool):R2:=fun x y H Q=> ∃p xs d es,y= .ref p∧aM K H p xs∧Is H d x∧IsL H es xs∧SeqAt.shaped d=true∧d.depth≤60∧(∀e∈es,SeqAt.shaped e=true)∧Q (.bl (neg ^^ es.any fun e=>PyData.eqv e d)) H
open Classical in
end
def Oa:HO:= .ext fun _=>True
structure Ob (ob:Obj) (cls:Value) (vs:Array Value):Prop where
 cls:ob.cls=cls
 data:ob.data= .fields vs
 aEg:vs[2]?=some .none
 dict:ob.dict=none
def ExcAt(H:Hp)(ea D:Addr):Prop:= ∃ob vs,H ea=some (.b6 ob Oa)∧Ob ob (.ref D) vs
structure aaY (K:Frag) (D:Addr):Prop where
 hga:findIn K (.ref D) "__getattribute__"=some (some (.builtin "BaseException.__getattribute__"))
 hgn:findIn K (.ref D) "__getattr__"=some none
 hk:(PySem.W.clsIn K D).isSome=true
 ha:findIn K (.ref D) "__class__"=some (some (.builtin "object.__class__"))
 hn:specialIn K (.builtin "object.__class__") "__get__"=some (some (.builtin "getset_descriptor.__get__"))
 yH:takesIn K (.builtin "object.__class__")=some true
 hm:mroIn K D (.type "object")=some true
 hb:mroIn K D (.type "BaseException")=some true
def cV:V→Value
 | .ref a=> .ref a
 | .ty n=> .type n
 | _=> .none
def Oc(K:Frag):List V→Hp→VK→Prop
 | [.ref ea,c],H,Q=> ∃D b,ExcAt H ea D∧aaY K D∧((∃C,c= .ref C)∨ ∃n,c= .ty n)∧kitOne K (.ref D) (cV c)=some b∧Q (.bl b) H
 | _,_,_=>False
def aaZ(sp:Sp)(hv:Option Addr)(t:TA):TE:=fun σ H Q=>t σ H fun vs H1=> (∃ea D,hv=some ea∧ExcAt H1 ea D)∧sp vs H1 Q E0
def zp(C:Addr)(E:XK)(t:TA):TS:=fun _ σ H=>t σ H fun vs H1=>vs.length≤sizeLine∧E (.ref C) none H1
def aa0(K:Frag)(C:Addr)(i n:Nat)(th:Addr→TS)(D:Ends):XK:=fun cls _ H'=>PySem.W.exmOne K cls (.ref C)=some true∧
 ∀(ea:Addr) (ob:Obj) (vs:Array Value) (σ':St),H' ea=none→σ'.length=n→Ob ob cls vs→th ea {nx:=fun _ _=>False,rt:=D.rt} (σ'.set i (some (.ref ea))) (upd H' ea (.b6 ob Oa))
def aa1(K:Frag)(C:Addr)(i n:Nat)(tb:XK→TS)(th:Addr→TS):TS:=fun D σ H=>tb (aa0 K C i n th D) {nx:=D.nx,rt:=D.rt} σ H
inductive jn where | len | min | max | sum | int | list | tuple | abs
 deriving DecidableEq
inductive g7 where | append | pop | extend | join | lstrip | starts | reverse | clear | index | find | count | zq | zr
 deriving DecidableEq
inductive IK where | list | tup | fQ | aa2 | zip | zt | txt | aa3
 deriving DecidableEq
inductive RE where
 | v (i:Nat) | c (x:V) | g (j:Nat)
 | bin (op:Operator) (a b:RE) | neg (a:RE)
 | cmp (op:CmpOp) (a b:RE) | iM (op ck:CmpOp) (a b d:RE) | Od (op ck Oe:CmpOp) (a b d f:RE)
 | and (as:List RE) | or (as:List RE) | not (a:RE) | fE (t a b:RE)
 | call (j:Nat) (as:List RE) | blt (b:jn) (as:List RE) | d9 (T:Ty) (a:RE)
 | bZ (m:g7) (o:RE) (as:List RE)
 | ix (a b:RE) | sl (a:RE) (lo hi:Option RE)
 | tup (as:List RE) | lst (as:List RE)
 | comp (tk:Option Nat) (fv:List (Str×Nat)) (k:IK) (its:List RE) (cond:Option RE) (elt:RE)
 | Of (a c:RE) | wrd (j:Nat) (a:RE) | dct | same (a b:RE)
 | aa6 | aa7 (a b:RE) | Og (a b:RE) | Oh (a b:RE) | aa8 (o a b:RE) | inD (a b:RE) | Oi (a b:RE)
 | xt (T:Frag→TA→TE) (as:List RE) | xm (T:Frag→TE→TA→TE) (o:RE) (as:List RE)
 | fld (o:RE) (f:Str) | bO (j:Nat) (m:Str) (o:RE) (as:List RE) | make (j:Nat) (as:List RE)
inductive RS where
 | asg (i:Nat) (e:RE) | vk (i:Nat) (e:RE) | set (o ix e:RE)
 | drop (e:RE) | ret (e:RE) | aa9
 | ite (c:RE) (t e:List RS)
 | iN (i:Nat) (k:IK) (its:List RE) (body:List RS)
 | pw (is:List Nat) (k:IK) (its:List RE) (body:List RS)
 | eR (c:RE) (body:List RS)
 | pass | brk | cont | never
 | aa_ (o lo hi e:RE) | iO (o:RE) (f:Str) (e:RE)
 | rp (is:List Nat) (e:RE) | dput (o i e:RE) | d_ (j:Nat) (as:List RE) | aba (n i j:Nat) (body su:List RS)
structure aC where
 K:Frag
 fs:Nat→Sp
 gv:Nat→V
 E:XK
 sd:Addr→List (Key×V)→Prop
 ms:Nat→Addr×Sp
 kt:Nat→Addr×Sp
 ex:Nat→Addr
 hs:Nat→Sp
 hv:Option Addr
abbrev aC.calm(Γ:aC):aC:={Γ with E:=E0}
def gm(K:Frag)(x:V)(H:Hp)(Q:Bool→Prop):Prop:=match x with
 | .az=>Q false
 | .bl b=>Q b
 | .int i=>Q (i !=0)
 | .str y=>y.length≤sizeLine∧Q ((y.length:Int) !=0)
 | .ref p=> (∃xs,aM K H p xs∧Q (!xs.isEmpty))∨(∃xs,bo K H p xs∧Q (!xs.isEmpty))∨ ∃aZ,H p=some (.dK aZ)∧Q (!aZ.isEmpty)
 | _=>False
theorem Oj{K:Frag}{x:V}{H:Hp}{Q:Bool→Prop}(h:gm K x H Q): ∃k,MS K x H k∧Q k:=by
 cases x with
 | az=>exact⟨_,rfl,h⟩
 | bl b=>exact⟨_,rfl,h⟩
 | int i=>exact⟨_,rfl,h⟩
 | str y=>exact⟨_,⟨h.1,rfl⟩,h.2⟩
 | ref p=>
  rcases h with⟨xs,h1,h2⟩ | ⟨xs,h1,h2⟩ | ⟨xs,h1,h2⟩
  ·exact⟨_, .inl ⟨xs,h1,rfl⟩,h2⟩
  ·exact⟨_, .inr (.inl ⟨xs,h1,rfl⟩),h2⟩
  ·exact⟨_, .inr (.inr ⟨xs,h1,rfl⟩),h2⟩
 | _=>exact False.elim h
def ee(K:Frag)(t:TE):TT:=fun σ H Q=>t σ H fun x H1=>gm K x H1 fun b=>Q b H1
def zu(K:Frag)(t:TE):TE:=fun σ H Q=>t σ H fun x H1=>gm K x H1 fun b=>Q (.bl (!b)) H1
def Ol:V→Hp→VK→Prop:=fun x H Q=>match x with | .int i=>Q (.int (-i)) H | _=>False
def q9(K:Frag)(x:V)(H:Hp)(Q:Nat→Prop):Prop:=match x with
 | .str y=>y.length≤sizeLine∧Q y.length
 | .ref p=> (∃xs,aM K H p xs∧Q xs.length)∨ ∃xs,bo K H p xs∧Q xs.length
 | _=>False
def signs(x:Str):List V:=x.cps.toList.map fun c=>V.str ⟨#[c]⟩
def abb:TE:=fun _ H Q=> ∀p,H p=none→Q (.ref p) (upd H p (.dK []))
def lV(K:Frag):jn→List V→Hp→VK→Prop
 | .len,[x],H,Q=>q9 K x H fun n=>Q (.int n) H
 | .min,[.int i, .int j],H,Q=>Q (.int (if j<i then j else i)) H
 | .max,[.int i, .int j],H,Q=>Q (.int (if j>i then j else i)) H
 | .min,[.ref p],H,Q=> ∃ns:List Int,aM K H p (ns.map V.int)∧ns≠ []∧ ∀m:Int,m∈ns→(∀n∈ns,m≤n)→Q (.int m) H
 | .max,[.ref p],H,Q=> ∃ns:List Int,aM K H p (ns.map V.int)∧ns≠ []∧ ∀m:Int,m∈ns→(∀n∈ns,n≤m)→Q (.int m) H
 | .sum,[.ref p],H,Q=> ∃ns:List Int,aM K H p (ns.map V.int)∧Q (.int ns.sum) H
 | .int,[.int i],H,Q=>Q (.int i) H
 | .int,[.bl k],H,Q=>Q (.int (if k then 1 else 0)) H
 | .list,[.ref p],H,Q=> ∃ys,(aM K H p ys∨bo K H p ys)∧ ∀l,H l=none→Q (.ref l) (upd H l (.lst ys))
 | .list,[.str x],H,Q=>x.length≤sizeLine∧ ∀l,H l=none→Q (.ref l) (upd H l (.lst (signs x)))
 | .tuple,[.str x],H,Q=>x.length≤sizeLine∧ ∀l,H l=none→Q (.ref l) (upd H l (.tup (signs x)))
 | .abs,[.int i],H,Q=>Q (.int (if i<0 then -i else i)) H
 | .tuple,[.ref p],H,Q=> ∃ys,(aM K H p ys∧ ∀l,H l=none→Q (.ref l) (upd H l (.tup ys)))∨(bo K H p ys∧Q (.ref p) H)
 | _,_,_,_=>False
def ke(T:Ty):List V→Hp→VK→Prop
 | [x, .ty n],H,Q=>n=T.nm∧bV T x H fun b=>Q (.bl b) H
 | _,_,_=>False
def rq(K:Frag):g7→V→List V→Hp→VK→Prop
 | .append, .ref l,[y],H,Q=> ∃xs,H l=some (.lst xs)∧xs.length<sizeLine∧Q .az (upd H l (.lst (xs++ [y])))
 | .pop, .ref l,[],H,Q=> ∃xs y,H l=some (.lst xs)∧xs[xs.length - 1]?=some y∧Q y (upd H l (.lst xs.dropLast))
 | .extend, .ref l,[.ref b],H,Q=> ∃xs zs,H l=some (.lst xs)∧H b=some (.lst zs)∧xs.length+zs.length≤sizeLine∧Q .az (upd H l (.lst (xs++zs)))
 | .join, .str sep,[.ref p],H,Q=> ∃ts:List Str,aM K H p (ts.map V.str)∧JoinOk sep ts=true∧Q (.str (Txt.join sep ts)) H
 | .lstrip, .str z,[.str y],H,Q=>z.length≤sizeLine∧Q (.str (Txt.lstripChars z y)) H
 | .starts, .str z,[.str y, .int i],H,Q=>Q (.bl (decide (fromIndex z.length i+y.length≤z.length) && Builtin.Str.subAt z y (fromIndex z.length i))) H
 | .find, .str z,[.str y],H,Q=>Q (.int (match Builtin.Str.occurrences z y 0 z.length 1 with | i::_=> (i:Int) | []=> -1)) H
 | .find, .str z,[.str y, .int i],H,Q=>Q (.int (match Builtin.Str.occurrences z y (fromIndex z.length i) z.length 1 with | k::_=> (k:Int) | []=> -1)) H
 | .count, .str z,[.str y],H,Q=>Q (.int (Builtin.Str.occurrences z y 0 z.length (z.length+1)).length) H
 | .reverse, .ref l,[],H,Q=> ∃xs,H l=some (.lst xs)∧Q .az (upd H l (.lst xs.reverse))
 | .index, .ref l,[.str y],H,Q=> ∃ts:List Str,aM K H l (ts.map V.str)∧y∈ts∧Q (.int (ts.idxOf y:Nat)) H
 | .clear, .ref l,[],H,Q=> ∃xs,H l=some (.lst xs)∧Q .az (upd H l (.lst []))
 | .zq, .ref l,[y],H,Q=> ∃xs,aM K H l xs∧dQ y=true∧xs.all dQ=true∧Q (.int (xs.countP (fun z=>d0 z y):Nat)) H
 | .zr, .ref l,[y],H,Q=> ∃xs,aM K H l xs∧dQ y=true∧xs.all dQ=true∧d5 y xs=true∧Q (.int (xs.findIdx (fun z=>d0 z y):Nat)) H
 | _,_,_,_,_=>False
def vm:g7→String
 | .join | .lstrip | .starts | .find | .count=> "str"
 | _=> "list"
def vo(K:Frag)(m:g7)(to:TE)(t:TA):TE:=fun σ H Q=>to σ H fun x H1=>pj K (vm m) x H1∧t σ H1 fun xs H2=>rq K m x xs H2 Q
def rA(K:Frag):V→Option Int→Option Int→Hp→VK→Prop:=fun x lo hi H Q=>match x with
 | .str z=>z.length≤sizeLine∧Q (.str (g6 z lo hi)) H
 | .ref a=> (∃xs,aM K H a xs∧ ∀p,H p=none→Q (.ref p) (upd H p (.lst (eK xs lo hi))))∨
  (∃xs,bo K H a xs∧ ¬(HT.bG xs.length 0 lo=0∧HT.bG xs.length xs.length hi=xs.length)∧ ∀p,H p=none→Q (.ref p) (upd H p (.tup (eK xs lo hi))))
 | _=>False
def lW(aZ:List (Key×V))(k:Key):Option V:=(aZ.find? fun kv=>decide (kv.1=k)).map (·.2)
def Om(sd:Addr→List (Key×V)→Prop):R2:=fun x y H Q=> ∃p aZ k v,x= .ref p∧y=kV k∧sd p aZ∧lW aZ k=some v∧Q v H
def jo(K:Frag)(sd:Addr→List (Key×V)→Prop):R2:=fun x y H Q=>Np K x y H Q∨Nq K x y H Q∨Nr x y H Q∨Om sd x y H Q
def abc(r r' r2:R2)(ta tb tc td:TE):TT:=fun σ H Q=>ta σ H fun x H1=>tb σ H1 fun y H2=>r x y H2 fun z H3=> ∃k,z= .bl k∧
 (if k=true then tc σ H3 fun w H4=>r' y w H4 fun z2 H5=> ∃k2,z2= .bl k2∧(if k2=true then td σ H5 fun u H6=>r2 w u H6 fun z3 H7=> ∃k3,z3= .bl k3∧Q k3 H7 else Q false H5) else Q false H3)
def rB(K:Frag)(a b:Addr):It:=
  ⟨fun i H=> ∃xs ys,aM K H a xs∧aM K H b ys∧i<xs.length∧i<ys.length,
   fun i H x H'=> ∃T,H T=none∧x= .ref T∧ ∀xs ys u v,aM K H a xs→aM K H b ys→xs[i]?=some u→ys[i]?=some v→H'=upd H T (.tup [u,v]),
   fun i H=> ∃xs ys,aM K H a xs∧aM K H b ys∧i=min xs.length ys.length⟩
def rC(K:Frag)(a:Addr):It:=
  ⟨fun i H=> ∃xs,aM K H a xs∧i<xs.length,
   fun i H x H'=> ∃T,H T=none∧x= .ref T∧ ∀xs u,aM K H a xs→xs[i]?=some u→H'=upd H T (.tup [.int (i:Nat),u]),
   fun i H=> ∃xs,aM K H a xs∧i=xs.length⟩
def zv(K:Frag)(ta:TA):TI:=fun σ H R=>ta σ H fun vs H1=> ∃a,vs=[.ref a]∧(∃xs,aM K H1 a xs)∧R (rC K a) H1
def zw(K:Frag)(ta:TA):TI:=fun σ H R=>ta σ H fun vs H1=> ∃a b,vs=[.ref a, .ref b]∧(∃xs,aM K H1 a xs)∧(∃ys,aM K H1 b ys)∧R (rB K a b) H1
def abd(K:Frag)(a b:Addr):It:=
  ⟨fun i H=> ∃xs ys,bo K H a xs∧bo K H b ys∧i<xs.length∧i<ys.length,
   fun i H x H'=> ∃T,H T=none∧x= .ref T∧ ∀xs ys u v,bo K H a xs→bo K H b ys→xs[i]?=some u→ys[i]?=some v→H'=upd H T (.tup [u,v]),
   fun i H=> ∃xs ys,bo K H a xs∧bo K H b ys∧i=min xs.length ys.length⟩
def abe(K:Frag)(ta:TA):TI:=fun σ H R=>ta σ H fun vs H1=> ∃a b,vs=[.ref a, .ref b]∧(∃xs,bo K H1 a xs)∧(∃ys,bo K H1 b ys)∧R (abd K a b) H1
def rD(z:Str):It:=⟨fun i _=>i<z.length,fun i H x H'=>H'=H∧ ∃c,z.cps[i]?=some c∧x= .str ⟨#[c]⟩,fun i _=>i=z.length⟩
def Oo(ta:TE):TI:=fun σ H R=>ta σ H fun x H1=> ∃z,x= .str z∧R (rD z) H1
mutual
def aj(Γ:aC):RE→TE
 | .v i=>yq i
 | .c x=>tC x
 | .g j=>tC (Γ.gv j)
 | .bin op a b=>dN (kc Γ.K op) (aj Γ a) (aj Γ b)
 | .neg a=>MM Ol (aj Γ a)
 | .cmp op a b=>dN (cn Γ.K op) (aj Γ a) (aj Γ b)
 | .iM op ck a b d=>ph (cn Γ.K op) (cn Γ.K ck) (aj Γ a) (aj Γ b) (aj Γ d)
 | .Od _ _ _ _ _ _ _=>fun _ _ _=>False
 | .and as=>Oq Γ as
 | .or as=>Ot Γ as
 | .not a=>zu Γ.K (aj Γ a)
 | .fE t a b=>Mt (bE Γ t) (aj Γ a) (aj Γ b)
 | .call j as=>yI (Γ.fs j) [] Γ.E (bH Γ as)
 | .blt b as=>dq (lV Γ.K b) (bH Γ as)
 | .d9 T a=>dq (ke T) (dm (aj Γ a) (dm (tC (.ty T.nm)) gY))
 | .bZ m o as=>vo Γ.K m (aj Γ o) (bH Γ as)
 | .ix a b=>dN (jo Γ.K Γ.sd) (aj Γ a) (aj Γ b)
 | .sl a lo hi=>yL (rA Γ.K) (aj Γ a) (kf Γ lo) (kf Γ hi)
 | .tup as=>M0 (bH Γ as)
 | .lst as=>M1 (bH Γ as)
 | .comp tk fv k its cond elt=>lR Γ.K (eS Γ k its) tk fv (zx Γ.calm cond) (aj Γ.calm elt)
 | .Of a c=>dq (Oc Γ.K) (dm (aj Γ a) (dm (aj Γ c) gY))
 | .dct=>abb
 | .same a b=>dN aaE (aj Γ a) (aj Γ b)
 | .inD a b=>dN (vj Γ.K false) (aj Γ a) (aj Γ b)
 | .Oi a b=>dN (vj Γ.K true) (aj Γ a) (aj Γ b)
 | .aa6=>Z1
 | .aa7 a b=>ZZ (aj Γ a) (aj Γ b)
 | .Og a b=>NB (aj Γ a) (aj Γ b)
 | .Oh a b=>NC (aj Γ a) (aj Γ b)
 | .aa8 o a b=>Z3 (aj Γ o) (aj Γ a) (aj Γ b)
 | .xt T as=>T Γ.K (bH Γ as)
 | .xm T o as=>T Γ.K (aj Γ o) (bH Γ as)
 | .wrd j a=>aaZ (Γ.hs j) Γ.hv (dm (aj Γ a) gY)
 | .fld o f=>uN Γ.K (aj Γ o) f
 | .bO j m o as=>lK (Γ.ms j).1 m (Γ.ms j).2 [] Γ.E (aj Γ o) (bH Γ as)
 | .make j as=>qO (Γ.kt j).1 (Γ.kt j).2 [] Γ.E (bH Γ as)
def bE(Γ:aC):RE→TT
 | .not a=>Mp (bE Γ a)
 | .inD a b=>jX (dN (vj Γ.K false) (aj Γ a) (aj Γ b))
 | .Oi a b=>jX (dN (vj Γ.K true) (aj Γ a) (aj Γ b))
 | .Og a b=>tB (NB (aj Γ a) (aj Γ b))
 | .Oh a b=>tB (NC (aj Γ a) (aj Γ b))
 | .and as=>Ou Γ as
 | .or as=>Ov Γ as
 | .cmp op a b=>jX (dN (cn Γ.K op) (aj Γ a) (aj Γ b))
 | .iM op ck a b d=>jX (ph (cn Γ.K op) (cn Γ.K ck) (aj Γ a) (aj Γ b) (aj Γ d))
 | .Od op ck Oe a b d f=>abc (cn Γ.K op) (cn Γ.K ck) (cn Γ.K Oe) (aj Γ a) (aj Γ b) (aj Γ d) (aj Γ f)
 | .v i=>ee Γ.K (yq i)
 | .call j as=>ee Γ.K (yI (Γ.fs j) [] Γ.E (bH Γ as))
 | .d9 T a=>ee Γ.K (dq (ke T) (dm (aj Γ a) (dm (tC (.ty T.nm)) gY)))
 | .Of a c=>ee Γ.K (dq (Oc Γ.K) (dm (aj Γ a) (dm (aj Γ c) gY)))
 | .bZ m o as=>ee Γ.K (vo Γ.K m (aj Γ o) (bH Γ as))
 | .ix a b=>ee Γ.K (dN (jo Γ.K Γ.sd) (aj Γ a) (aj Γ b))
 | .bin op a b=>ee Γ.K (dN (kc Γ.K op) (aj Γ a) (aj Γ b))
 | .fld o f=>ee Γ.K (uN Γ.K (aj Γ o) f)
 | .xt T as=>ee Γ.K (T Γ.K (bH Γ as))
 | .xm T o as=>ee Γ.K (T Γ.K (aj Γ o) (bH Γ as))
 | .bO j m o as=>ee Γ.K (lK (Γ.ms j).1 m (Γ.ms j).2 [] Γ.E (aj Γ o) (bH Γ as))
 | _=>fun _ _ _=>False
def bH(Γ:aC):List RE→TA
 | []=>gY
 | a::r=>dm (aj Γ a) (bH Γ r)
def Oq(Γ:aC):List RE→TE
 | []=>fun _ _ _=>False
 | [a]=>aj Γ a
 | a::r=>Mq (aj Γ a) (Oq Γ r)
def Ot(Γ:aC):List RE→TE
 | []=>fun _ _ _=>False
 | [a]=>aj Γ a
 | a::r=>Mr (aj Γ a) (Ot Γ r)
def Ou(Γ:aC):List RE→TT
 | []=>fun _ _ _=>False
 | [a]=>bE Γ a
 | a::r=>Mn (bE Γ a) (Ou Γ r)
def Ov(Γ:aC):List RE→TT
 | []=>fun _ _ _=>False
 | [a]=>bE Γ a
 | a::r=>Mo (bE Γ a) (Ov Γ r)
def kf(Γ:aC):Option RE→TO
 | none=>Ni
 | some a=>uS (aj Γ a)
def zx(Γ:aC):Option RE→Option TT
 | none=>none
 | some a=>some (bE Γ a)
def eS(Γ:aC)(k:IK):List RE→TI
 | []=>fun _ _ _=>False
 | a::r=>match k with
  | .list=>yw Γ.K (aj Γ a)
  | .tup=>yx Γ.K (aj Γ a)
  | .fQ=>MI (dm (aj Γ a) (bH Γ r))
  | .aa2=>XU (dm (aj Γ a) (bH Γ r))
  | .zip=>zw Γ.K (dm (aj Γ a) (bH Γ r))
  | .zt=>zv Γ.K (dm (aj Γ a) (bH Γ r))
  | .txt=>Oo (aj Γ a)
  | .aa3=>abe Γ.K (dm (aj Γ a) (bH Γ r))
end
structure cZ where
 N:List Str
 sc:Scope
 fn:List Str
 gn:List Str
 bl:List Str
 mn:List Str
 kn:List Str
 en:List Str
 hn:List Str
 md:Nat
def zy(sc:Scope)(x:Str):Bool:=match sc.names.lookup x with
 | some .local=>true | some .cell=>true | some .free=>true | _=>false
def loc(sc:Scope)(x:Str):Bool:=match sc.names.lookup x with
 | some .local=>true | some .cell=>true | _=>false
def kg(sc:Scope)(x:Str):Bool:=match sc.names.lookup x with
 | some .globalImplicit=>true | _=>false
theorem abf{sc:Scope}{x:Str}(h:zy sc x=true):uv sc x:=by
 unfold zy at h
 unfold uv
 cases e:sc.names.lookup x with
 | none=>rw[e] at h;cases h
 | some k=>rw[e] at h;cases k<;>first | exact .inl rfl | exact .inr (.inl rfl) | exact .inr (.inr rfl) | cases h
theorem zz{sc:Scope}{x:Str}(h:loc sc x=true):Loc sc x:=by
 unfold loc at h
 unfold Loc
 cases e:sc.names.lookup x with
 | none=>rw[e] at h;cases h
 | some k=>rw[e] at h;cases k<;>first | exact .inl rfl | exact .inr rfl | cases h
theorem abg{sc:Scope}{x:Str}(h:kg sc x=true):sc.names.lookup x=some .globalImplicit:=by
 unfold kg at h
 cases e:sc.names.lookup x with
 | none=>rw[e] at h;cases h
 | some k=>rw[e] at h;cases k<;>first | rfl | cases h
structure rE where
 elt:Expr
 tg:Expr
 iter:Expr
 ifs:List Expr
 sc:Scope
def jn.nm:jn→Str
 | .len=> "len" | .min=> "min" | .max=> "max" | .sum=> "sum" | .int=> "int" | .list=> "list" | .tuple=> "tuple" | .abs=> "abs"
def g7.nm:g7→Str
 | .append=> "append" | .pop=> "pop" | .extend=> "extend" | .join=> "join" | .lstrip=> "lstrip" | .starts=> "startswith" | .reverse=> "reverse" | .clear=> "clear" | .index=> "index" | .find=> "find" | .count=> "count" | .zq=> "count" | .zr=> "index"
def lX:Expr→Bool
 | .Call (.Name _ _) [] [] _=>false
 | _=>true
def noStar:Expr→Bool
 | .Starred ..=>false
 | _=>true
def rF:Expr→Bool
 | .Set ..=>false
 | _=>true
def zA(Ow sc:Scope):Scope:=
 {Ow with names:=Ow.names.map fun(n,k)=>if (k== .free && sc.kind== .function && sc.names.lookup n==some .cell) then (n, .cell) else (n,k)}
def zB(tk:Option Nat)(tg:Expr):Option (List Str):=match tk,tg with
 | none, .Name x _=>some [x]
 | some 2, .Tuple [.Name x _, .Name y _] _ _=>some [x,y]
 | _,_=>none
def Ox(S:cZ)(c:rE)(ln:List Str)(fv:List (Str×Nat)):cZ:={S with N:=ln++fv.map (·.1),sc:=zA c.sc S.sc,en:=[],md:=if S.md=0 then 0 else 2}
def zC(S:cZ)(c:rE)(ln:List Str)(fv:List (Str×Nat)):Bool:=
 decide (c.sc.kind= .function) && c.sc.names.all (fun y=>decide (y.2≠ .cell)) && c.sc.names.all (fun y=>decide (y.2≠ .local) || decide (c.sc.names.lookup y.1=some .local))
 && c.sc.names.all (fun y=>decide (y.2≠ .free) || decide (S.sc.names.lookup y.1=some .cell) || decide (S.sc.names.lookup y.1=some .free))
 && fv.all (fun p=>decide (S.N[p.2]?=some p.1) && decide (c.sc.names.lookup p.1=some .free))
 && ln.all (fun x=>decide (c.sc.names.lookup x=some .local)) && decide ((ln++fv.map (·.1)).Nodup) && rF c.iter
theorem abh{P:Program}{w:World}{K:Frag}{elts:List Expr}{k:Nat}{pos:Pos}{z TI TO i1 i2 l1 l2:Addr}(D:ZipApart z TI TO i1 i2 l1 l2)(dl:l1≠TI∧l2≠TI):
  Turn P w K (.Tuple elts k pos) (rB K l1 l2) [z,TI,TO,i1,i2] z
   (fun i h=>IsZip h z TI TO .none∧IsPair h TI (.ref i1) (.ref i2)∧(∃a b,IsPair h TO a b)∧h.IsListIter i1 l1 i∧h.IsListIter i2 l2 i) where
 mem:=by simp
 obj:=fun i h st b hb=>by
  obtain⟨hz,jq,⟨a,b',jr⟩,⟨o1,e1,c1,d1⟩,⟨o2,e2,c2,d2⟩⟩:=st
  simp only[List.mem_cons,List.not_mem_nil,or_false] at hb
  rcases hb with rfl | rfl | rfl | rfl | rfl
  ·exact⟨_,hz,fun v q=>by cases q⟩
  ·exact⟨_,jq,fun v q=>by cases q⟩
  ·exact⟨_,jr,fun v q=>by cases q⟩
  ·exact⟨_,e1,fun v q=>by rw[d1] at q;cases q⟩
  ·exact⟨_,e2,fun v q=>by rw[d2] at q;cases q⟩
 keep:=fun i h h' st hk=>by
  obtain⟨hz,jq,⟨a,b',jr⟩,h1,h2⟩:=st
  exact⟨hk z (by simp) _ hz,hk TI (by simp) _ jq,⟨a,b',hk TO (by simp) _ jr⟩,h1.at fun o e=>hk i1 (by simp) o e,h2.at fun o e=>hk i2 (by simp) o e⟩
 item:=by
  intro X hP hw hK hc i pins s σ H E I hf st hg
  subst hP hw hK
  obtain⟨xs,ys,hx,hy,hi1,hi2⟩:=hg
  obtain⟨fg,r1,p1,z1⟩:=I.list hx
  obtain⟨eP,r2,p2,z2⟩:=I.list hy
  have zD:=r1.length
  have uV:=r2.length
  have W:=WalksT.zip2 (prog:=X.prog) (w:=X.w) (A:=X.A) (I.ok.hd hc) z TI TO i1 i2 l1 l2 D fg.toArray eP.toArray
  obtain⟨hz,jq,jr,h1,h2⟩:=id st
  have hn:i<min fg.toArray.size eP.toArray.size:=by simp only[List.size_toArray];omega
  refine W.item i s _ _ hn ⟨hz,jq,jr,h1,h2,p1.isList,p2.isList⟩ fun T vals h' tk hv hT zE mid hk=> ?_
  refine⟨.ref T,rfl, ?_⟩
  refine W.go elts k pos i T _ _ _ mid fun js zF rG=> ?_
  obtain⟨u,v,eu,ev,rfl⟩:=hv
  have fz: ∀b∈ [z,TO,i1,i2],b∈ [z,TI,TO,i1,i2]:=fun b hb=>by
   simp only[List.mem_cons,List.not_mem_nil,or_false] at hb⊢
   rcases hb with rfl | rfl | rfl | rfl<;>simp
  have kk: ∀b o,b∉ [z,TO,i1,i2]→s.heap.get? b=some o→js.get? b=some o:=fun b o hb e=>rG b o hb (hk b o hb e)
  have I1:Inv X pins σ H {s with heap:=js,toks:=tk}:=by
   refine I.step (g':=s.gens) (d':=s.drawn) (ch:=[z,TO,i1,i2]) (fun b hb=> ?_) (fun b o _ _ hc e _=>kk b o hc e) (fun b o _ _ hc e _=> ⟨o.slots,kk b o hc e⟩) (fun _ _ _ _ n=>n)
    (fun b o hc e=> ⟨o,kk b o hc e⟩) (fun _ _ e=>e) (fun _ _ _ e=>e) (fun b ps e=> ⟨#[],by rw[e];simp⟩) (fun m hm=> ?_) (fun b o e=> ?_) I.bare
   ·obtain⟨f0,f1,f2,f3,f4,f5⟩:=hf b (fz b hb)
    exact⟨f3,f1,f4,f5⟩
   ·obtain⟨o,es,ep,ho,r⟩:=hm
    exact⟨o,es,ep,kk _ o (fun hb=> (hf _ (fz _ hb)).2.1 rfl) ho,r⟩
   ·have nb: ∀c o',H c=some o'→c∉ [z,TO,i1,i2]:=fun c o' e hb=>by
     rw[(hf c (fz c hb)).1] at e;cases e
    refine(I.aR b o e).gT (fun c q cq e'=>kk c q ?_ e') (fun _ q=>q) fun _ _ q=>q
    rcases cq with rfl | cq
    ·exact nb _ _ e
    ·exact nb _ _ cq
  have fU:s.heap.objs.size≤T:=hT
  have fT:H T=none:=I.aR.fresh fU
  have aT:T∉ [z,TO,i1,i2]:=W.apart i T h' mid
  have tT:js.IsTuple T #[u,v]:=by
   obtain⟨o,ho,q⟩:=zE
   exact⟨o,rG T o aT ho,q⟩
  obtain⟨a,zG,ra⟩: ∃a,xs[i]?=some a∧RelV a u:=by
   have e:fg[i]?=some u:=by simpa using eu
   have:i<xs.length:=by omega
   obtain⟨u',e',r'⟩:=r1.get (i:=i) (x:=xs[i]) (by simp[this])
   rw[e] at e';cases e'
   exact⟨xs[i],by simp[this],r'⟩
  obtain⟨b,hyb,rb⟩: ∃b,ys[i]?=some b∧RelV b v:=by
   have e:eP[i]?=some v:=by simpa using ev
   have:i<ys.length:=by omega
   obtain⟨u',e',r'⟩:=r2.get (i:=i) (x:=ys[i]) (by simp[this])
   rw[e] at e';cases e'
   exact⟨ys[i],by simp[this],r'⟩
  have sz0:=I.sz
  have I2:Inv X pins σ (upd H T (.tup [a,b])) {s with heap:=js,toks:=tk}:=by
   refine Inv.yY I1 fT (Nat.le_trans I.sz fU) (Nat.ne_of_gt (Nat.lt_of_lt_of_le I.lt fU)) (fun x c e q=> ?_) (fun p hp q=> ?_) ⟨by show 2≤sizeLine;decide,[u,v], .cons ra (.cons rb .nil),tT⟩
   ·obtain⟨v',q'⟩:=I.cell x c e
    have:=q'.lt
    rw[q] at this
    exact absurd (Nat.lt_of_lt_of_le this fU) (Nat.lt_irrefl _)
   ·have:=Heap.lt_size (I.pin p hp).1
    rw[q] at this
    exact absurd (Nat.lt_of_lt_of_le this fU) (Nat.lt_irrefl _)
  refine⟨.ref T,_,I2,rfl,⟨T,fT,rfl,fun vp fh a' b' jm qZ ea eb=> ?_⟩, ?_,fun c cq=> ?_⟩
  ·rw[I.uC jm hx,zG] at ea
   rw[I.uC qZ hy,hyb] at eb
   cases ea;cases eb;rfl
  ·obtain⟨q1,q2,q3,q4,q5,_⟩:=zF
   exact⟨q1,q2,q3,q4,q5⟩
  ·have n0:=(hf c cq).1
   have:c≠T:=fun q=>by
    obtain⟨o,e,_⟩: ∃o,s.heap.get? c=some o∧True:=by
     obtain⟨hz,jq,⟨a',b',jr⟩,⟨o1,e1,_⟩,⟨o2,e2,_⟩⟩:=st
     simp only[List.mem_cons,List.not_mem_nil,or_false] at cq
     rcases cq with rfl | rfl | rfl | rfl | rfl
     ·exact⟨_,hz,trivial⟩
     ·exact⟨_,jq,trivial⟩
     ·exact⟨_,jr,trivial⟩
     ·exact⟨_,e1,trivial⟩
     ·exact⟨_,e2,trivial⟩
    have:=Heap.lt_size e
    rw[q] at this
    exact absurd (Nat.lt_of_lt_of_le this fU) (Nat.lt_irrefl _)
   rw[a_ this];exact n0
 done:=by
  intro X hP hw hK hc i pins s σ H E I hf st hg
  subst hP hw hK
  obtain⟨xs,ys,hx,hy,hi⟩:=hg
  obtain⟨fg,r1,p1,z1⟩:=I.list hx
  obtain⟨eP,r2,p2,z2⟩:=I.list hy
  have zD:=r1.length
  have uV:=r2.length
  have W:=WalksT.zip2 (prog:=X.prog) (w:=X.w) (A:=X.A) (I.ok.hd hc) z TI TO i1 i2 l1 l2 D fg.toArray eP.toArray
  obtain⟨hz,jq,jr,h1,h2⟩:=id st
  have hn:i=min fg.toArray.size eP.toArray.size:=by simp only[List.size_toArray];omega
  subst hn
  refine W.done s _ _ ⟨hz,jq,jr,h1,h2,p1.isList,p2.isList⟩ fun h' tk hk=> ⟨rfl, ?_⟩
  have fz: ∀b∈ [z,TO,i1,i2],b∈ [z,TI,TO,i1,i2]:=fun b hb=>by
   simp only[List.mem_cons,List.not_mem_nil,or_false] at hb⊢
   rcases hb with rfl | rfl | rfl | rfl<;>simp
  refine I.step (g':=s.gens) (d':=s.drawn) (ch:=[z,TO,i1,i2]) (fun b hb=> ?_) (fun b o _ _ hc e _=>hk b o hc e) (fun b o _ _ hc e _=> ⟨o.slots,hk b o hc e⟩) (fun _ _ _ _ n=>n)
   (fun b o hc e=> ⟨o,hk b o hc e⟩) (fun _ _ e=>e) (fun _ _ _ e=>e) (fun b ps e=> ⟨#[],by rw[e];simp⟩) (fun m hm=> ?_) (fun b o e=> ?_) I.bare
  ·obtain⟨f0,f1,f2,f3,f4,f5⟩:=hf b (fz b hb)
   exact⟨f3,f1,f4,f5⟩
  ·obtain⟨o,es,ep,ho,r⟩:=hm
   exact⟨o,es,ep,hk _ o (fun hb=> (hf _ (fz _ hb)).2.1 rfl) ho,r⟩
  ·have nb: ∀c o',H c=some o'→c∉ [z,TO,i1,i2]:=fun c o' e hb=>by
    rw[(hf c (fz c hb)).1] at e;cases e
   refine(I.aR b o e).gT (fun c q cq e'=>hk c q ?_ e') (fun _ q=>q) fun _ _ q=>q
   rcases cq with rfl | cq
   ·exact nb _ _ e
   ·exact nb _ _ cq
 self:=fun A i s Q E st hQ=>wpAny_pyIter_zip st.1 hQ
theorem boot_zip:bootBuiltins "zip"=some (.type "zip"):=by decide+kernel
theorem abm{X:Cx}{elts:List Expr}{k:Nat}{qM:Pos}{a b:Expr}{ta:TA}{p pos:Pos}(hg:Gl X "zip")(hm:X.mg "zip"=none)(ha:PA X [a,b] ta)
  (hs:starEach [a,b] X.env=(false,eval a X.env)::starEach [b] X.env) (gZ:(backTo pos (starEach [b] X.env)).any (·.1)=false):
  PI X (.Tuple elts k qM) (.Call (.Name "zip" p) [a,b] [] pos) (zw X.K ta):=by
 intro pins s σ H R I h
 refine Call_ (o_ I hg hm boot_zip (PyProof.Rows.callWith_type1 (bf (ha pos pins s σ H _ I h) fun us s1 ⟨vs,H1,I1,r1,q1⟩=> ?_) hs gZ))
 obtain⟨l1,l2,e,⟨xs,hx⟩,⟨ys,hy⟩,q⟩:=q1
 subst e
 obtain⟨u,v,rfl,ru,rv⟩:=vals2 r1
 cases ru
 cases rv
 obtain⟨fg,rr1,p1,z1⟩:=I1.list hx
 obtain⟨eP,rr2,p2,z2⟩:=I1.list hy
 refine call_zip_2 p1.isList p2.isList fun h' a1 a2 a3 a4 a5 a6 hk=> ?_
 refine wpAny_pyIter_zip a1 ?_
 have lt1: @LT.lt Nat _ l1 s1.heap.objs.size:=by obtain⟨_,e,_⟩:=p1.isList;exact Heap.lt_size e
 have lt2: @LT.lt Nat _ l2 s1.heap.objs.size:=by obtain⟨_,e,_⟩:=p2.isList;exact Heap.lt_size e
 have D:ZipApart (s1.heap.objs.size+4) (s1.heap.objs.size+2) (s1.heap.objs.size+3) s1.heap.objs.size (s1.heap.objs.size+1) l1 l2:=by
  constructor<;> (show @Ne Nat _ _;omega)
 have I2:Inv X pins σ H1 {s1 with heap:=h'}:=I1.kept (t':=s1.toks) hk
 refine⟨_,_,_,_,H1,rfl,I2,abh D ⟨by show @Ne Nat _ _;omega,by show @Ne Nat _ _;omega⟩,⟨a1,a2,⟨_,_,a3⟩,a4,a5⟩,fun b' hb=> ?_,q⟩
 have hle:s1.heap.objs.size≤b':=by
  simp only[List.mem_cons,List.not_mem_nil,or_false] at hb
  rcases hb with rfl | rfl | rfl | rfl | rfl
  ·exact Nat.le_add_right _ _
  ·exact Nat.le_add_right _ _
  ·exact Nat.le_add_right _ _
  ·exact zqR _
  ·exact Nat.le_add_right _ _
 have:=I1.pe (b:=b') (H':=H1) hle (I1.aR.fresh hle)
 exact this
theorem abq{P:Program}{w:World}{K:Frag}{elts:List Expr}{k:Nat}{pos:Pos}{z it l:Addr}(d1:z≠it)(d2:l≠z)(d3:l≠it):
  Turn P w K (.Tuple elts k pos) (rC K l) [z,it] z
   (fun i h=> (∃old,IsEnum h z it i old)∧h.IsListIter it l i) where
 mem:=by simp
 obj:=fun i h st b hb=>by
  obtain⟨⟨old,hz⟩,⟨o2,e2,c2,d2⟩⟩:=st
  simp only[List.mem_cons,List.not_mem_nil,or_false] at hb
  rcases hb with rfl | rfl
  ·exact⟨_,hz,fun v q=>by cases q⟩
  ·exact⟨_,e2,fun v q=>by rw[d2] at q;cases q⟩
 keep:=fun i h h' st hk=>by
  obtain⟨⟨old,hz⟩,h1⟩:=st
  exact⟨⟨old,hk z (by simp) _ hz⟩,h1.at fun o e=>hk it (by simp) o e⟩
 item:=by
  intro X hP hw hK hc i pins s σ H E I hf st hg
  subst hP hw hK
  obtain⟨xs,hx,hi1⟩:=hg
  obtain⟨fg,r1,p1,z1⟩:=I.list hx
  have zD:=r1.length
  have W:=WalksT.enumerate (prog:=X.prog) (w:=X.w) (A:=X.A) (I.ok.hd hc) z it l d1 d2 d3 fg.toArray
  obtain⟨hz,h1⟩:=id st
  have hn:i<fg.toArray.size:=by simp only[List.size_toArray];omega
  refine W.item i s _ _ hn ⟨hz,h1,p1.isList⟩ fun T vals h' tk hv hT zE mid hk=> ?_
  refine⟨.ref T,rfl, ?_⟩
  refine W.go elts k pos i T _ _ _ mid fun js zF rG=> ?_
  obtain⟨t0,u,eu,rfl⟩:=hv
  have kk: ∀b o,b∉ [z,it]→s.heap.get? b=some o→js.get? b=some o:=fun b o hb e=>rG b o hb (hk b o hb e)
  have I1:Inv X pins σ H {s with heap:=js,toks:=tk}:=by
   refine I.step (g':=s.gens) (d':=s.drawn) (ch:=[z,it]) (fun b hb=> ?_) (fun b o _ _ hc e _=>kk b o hc e) (fun b o _ _ hc e _=> ⟨o.slots,kk b o hc e⟩) (fun _ _ _ _ n=>n)
    (fun b o hc e=> ⟨o,kk b o hc e⟩) (fun _ _ e=>e) (fun _ _ _ e=>e) (fun b ps e=> ⟨#[],by rw[e];simp⟩) (fun m hm=> ?_) (fun b o e=> ?_) I.bare
   ·obtain⟨f0,f1,f2,f3,f4,f5⟩:=hf b hb
    exact⟨f3,f1,f4,f5⟩
   ·obtain⟨o,es,ep,ho,r⟩:=hm
    exact⟨o,es,ep,kk _ o (fun hb=> (hf _ hb).2.1 rfl) ho,r⟩
   ·have nb: ∀c o',H c=some o'→c∉ [z,it]:=fun c o' e hb=>by
     rw[(hf c hb).1] at e;cases e
    refine(I.aR b o e).gT (fun c q cq e'=>kk c q ?_ e') (fun _ q=>q) fun _ _ q=>q
    rcases cq with rfl | cq
    ·exact nb _ _ e
    ·exact nb _ _ cq
  have fU:s.heap.objs.size≤T:=hT
  have fT:H T=none:=I.aR.fresh fU
  have aT:T∉ [z,it]:=W.apart i T h' mid
  have tT:js.IsTuple T #[.int (i:Nat) t0,u]:=by
   obtain⟨o,ho,q⟩:=zE
   exact⟨o,rG T o aT ho,q⟩
  obtain⟨a,zG,ra⟩: ∃a,xs[i]?=some a∧RelV a u:=by
   have e:fg[i]?=some u:=by simpa using eu
   have:i<xs.length:=by omega
   obtain⟨u',e',r'⟩:=r1.get (i:=i) (x:=xs[i]) (by simp[this])
   rw[e] at e';cases e'
   exact⟨xs[i],by simp[this],r'⟩
  have sz0:=I.sz
  have I2:Inv X pins σ (upd H T (.tup [.int (i:Nat),a])) {s with heap:=js,toks:=tk}:=by
   refine Inv.yY I1 fT (Nat.le_trans I.sz fU) (Nat.ne_of_gt (Nat.lt_of_lt_of_le I.lt fU)) (fun x c e q=> ?_) (fun p hp q=> ?_) ⟨by show 2≤sizeLine;decide,[.int (i:Nat) t0,u], .cons ⟨t0,rfl⟩ (.cons ra .nil),tT⟩
   ·obtain⟨v',q'⟩:=I.cell x c e
    have:=q'.lt
    rw[q] at this
    exact absurd (Nat.lt_of_lt_of_le this fU) (Nat.lt_irrefl _)
   ·have:=Heap.lt_size (I.pin p hp).1
    rw[q] at this
    exact absurd (Nat.lt_of_lt_of_le this fU) (Nat.lt_irrefl _)
  refine⟨.ref T,_,I2,rfl,⟨T,fT,rfl,fun vp a' jm ea=> ?_⟩, ?_,fun c cq=> ?_⟩
  ·rw[I.uC jm hx,zG] at ea
   cases ea;rfl
  ·obtain⟨⟨q0,q1⟩,q2,_⟩:=zF
   exact⟨⟨q0,q1⟩,q2⟩
  ·have n0:=(hf c cq).1
   have:c≠T:=fun q=>by
    obtain⟨o,e,_⟩: ∃o,s.heap.get? c=some o∧True:=by
     obtain⟨⟨old,hz⟩,⟨o2,e2,_⟩⟩:=st
     simp only[List.mem_cons,List.not_mem_nil,or_false] at cq
     rcases cq with rfl | rfl
     ·exact⟨_,hz,trivial⟩
     ·exact⟨_,e2,trivial⟩
    have:=Heap.lt_size e
    rw[q] at this
    exact absurd (Nat.lt_of_lt_of_le this fU) (Nat.lt_irrefl _)
   rw[a_ this];exact n0
 done:=by
  intro X hP hw hK hc i pins s σ H E I hf st hg
  subst hP hw hK
  obtain⟨xs,hx,hi⟩:=hg
  obtain⟨fg,r1,p1,z1⟩:=I.list hx
  have zD:=r1.length
  have W:=WalksT.enumerate (prog:=X.prog) (w:=X.w) (A:=X.A) (I.ok.hd hc) z it l d1 d2 d3 fg.toArray
  obtain⟨hz,h1⟩:=id st
  have hn:i=fg.toArray.size:=by simp only[List.size_toArray];omega
  subst hn
  refine W.done s _ _ ⟨hz,h1,p1.isList⟩ fun h' tk hk=> ⟨rfl, ?_⟩
  refine I.step (g':=s.gens) (d':=s.drawn) (ch:=[z,it]) (fun b hb=> ?_) (fun b o _ _ hc e _=>hk b o hc e) (fun b o _ _ hc e _=> ⟨o.slots,hk b o hc e⟩) (fun _ _ _ _ n=>n)
   (fun b o hc e=> ⟨o,hk b o hc e⟩) (fun _ _ e=>e) (fun _ _ _ e=>e) (fun b ps e=> ⟨#[],by rw[e];simp⟩) (fun m hm=> ?_) (fun b o e=> ?_) I.bare
  ·obtain⟨f0,f1,f2,f3,f4,f5⟩:=hf b hb
   exact⟨f3,f1,f4,f5⟩
  ·obtain⟨o,es,ep,ho,r⟩:=hm
   exact⟨o,es,ep,hk _ o (fun hb=> (hf _ hb).2.1 rfl) ho,r⟩
  ·have nb: ∀c o',H c=some o'→c∉ [z,it]:=fun c o' e hb=>by
    rw[(hf c hb).1] at e;cases e
   refine(I.aR b o e).gT (fun c q cq e'=>hk c q ?_ e') (fun _ q=>q) fun _ _ q=>q
   rcases cq with rfl | cq
   ·exact nb _ _ e
   ·exact nb _ _ cq
 self:=fun A i s Q E st hQ=>by
  obtain⟨⟨old,hz⟩,_⟩:=st
  exact wpAny_pyIter_enum hz hQ
theorem abr:bootBuiltins "enumerate"=some (.type "enumerate"):=by decide+kernel
theorem abt{X:Cx}{elts:List Expr}{k:Nat}{qM:Pos}{a:Expr}{ta:TA}{p pos:Pos}(hg:Gl X "enumerate")(hm:X.mg "enumerate"=none)(ha:PA X [a] ta)
  (hs:starEach [a] X.env=[(false,eval a X.env)]):PI X (.Tuple elts k qM) (.Call (.Name "enumerate" p) [a] [] pos) (zv X.K ta):=by
 intro pins s σ H R I h
 refine Call_ (o_ I hg hm abr (PyProof.Rows.callWith_type1 (bf (ha pos pins s σ H _ I h) fun us s1 ⟨vs,H1,I1,r1,q1⟩=> ?_) hs rfl))
 obtain⟨l1,e,⟨xs,hx⟩,q⟩:=q1
 subst e
 obtain⟨u,rfl,ru⟩:=vals1 r1
 cases ru
 obtain⟨fg,rr1,p1,z1⟩:=I1.list hx
 refine call_enumerate_list p1.isList fun h' a1 a2 a3 hk=> ?_
 refine wpAny_pyIter_enum a1 ?_
 have lt1: @LT.lt Nat _ l1 s1.heap.objs.size:=by obtain⟨_,e,_⟩:=p1.isList;exact Heap.lt_size e
 have I2:Inv X pins σ H1 {s1 with heap:=h'}:=I1.kept (t':=s1.toks) hk
 refine⟨_,_,_,_,H1,rfl,I2,abq (z:=s1.heap.objs.size+1) (it:=s1.heap.objs.size) (l:=l1) (by show @Ne Nat _ _;omega) (by show @Ne Nat _ _;omega) (by show @Ne Nat _ _;omega),⟨⟨_,a1⟩,a2⟩,fun b' hb=> ?_,q⟩
 have hle:s1.heap.objs.size≤b':=by
  simp only[List.mem_cons,List.not_mem_nil,or_false] at hb
  rcases hb with rfl | rfl
  ·exact Nat.le_add_right _ _
  ·exact zqR _
 have:=I1.pe (b:=b') (H':=H1) hle (I1.aR.fresh hle)
 exact this
theorem abu{K:Frag}{a:Addr}{xs:List V}{g:TG}{tb:TS}{D:Ends}{σ:St}{H:Hp}(Pv:Nat→St→Hp→Prop)(h0:Pv 0 σ H)(ha: ∀i σ H,Pv i σ H→aM K H a xs)
  (hs: ∀i x σ H T,xs[i]?=some x→Pv i σ H→H T=none→g (.ref T) σ (upd H T (.tup [.int (i:Nat),x])) fun σ2 H2=>tb {D with nx:=Pv (i+1),ct:=Pv (i+1),bk:=D.nx} σ2 H2) (hd: ∀σ H,Pv xs.length σ H→D.nx σ H):
  ∃W:Nat→Nat→St→Hp→Prop,(∃m,W 0 m σ H)∧ ∀i m σ H,W i m σ H→
   ((rC K a).stop i H∧D.nx σ H)∨((rC K a).go i H∧ ∃N:St→Hp→Prop,(∀σ' H',N σ' H'→ ∃m',m'<m∧W (i+1) m' σ' H')∧ ∀x H',(rC K a).e_ i H x H'→g x σ H' fun σ2 H2=>tb {D with nx:=N,ct:=N,bk:=D.nx} σ2 H2):=by
 refine⟨fun i m σ H=>m=xs.length - i∧i≤xs.length∧Pv i σ H,⟨xs.length,by simp,zqZ _,h0⟩, ?_⟩
 rintro i m σ H ⟨rfl,hi,p⟩
 have q1:=ha i σ H p
 by_cases bC:i<xs.length
 ·refine .inr ⟨⟨xs,q1,bC⟩,Pv (i+1),fun σ' H' p'=> ⟨xs.length - (i+1),by omega,rfl,bC,p'⟩,fun x H' y=> ?_⟩
  obtain⟨T,hT,rfl,y⟩:=y
  have e:=y xs xs[i] q1 (by simp[bC])
  subst e
  exact hs i xs[i] σ H T (by simp[bC]) p hT
 ·have e:i=xs.length:=by omega
  subst e
  exact .inl ⟨⟨xs,q1,rfl⟩,hd σ H p⟩
end L2
set_option maxHeartbeats 400000
namespace L2
open PySem PySem.Spec PyProof.Rows
section
variable {prog:Program} {w:World} {A:Around} {E:Value→Shared→Prop} {s:Shared}
end
end L2
set_option maxHeartbeats 1000000
namespace L2
open PySem PySem.Spec PyProof.Rows PySem.W
section
variable {prog:Program} {w:World} {A:Around} {E:Value→Shared→Prop} {s:Shared} {K:Frag} {x D:Addr} {ox:Obj}
end
end L2
set_option maxHeartbeats 400000
namespace L2
open PySem PySem.Spec PyProof.Rows
inductive bS (J:Shared→Prop) {α:Type}:Sem α→Prop
 | pure (a:α):bS J (.pure a)
 | raise (e:Value):bS J (.raise e)
 | unsupported (w:String):bS J (.unsupported w)
 | rule {t:String} {k:Unit→Sem α}:bS J (k ())→bS J (.rule t k)
 | load {a:Addr} {p:Option Value} {k:Obj→Sem α}:(∀o,bS J (k o))→bS J (.load a p k)
 | update {a:Addr} {p:Option Value} {f:Obj→Obj} {k:Unit→Sem α}:(∀s,J s→J {s with heap:=s.heap.update a f})→bS J (k ())→bS J (.update a p f k)
 | alloc {o:Obj} {k:Addr→Sem α}:(∀s,J s→J {s with heap:=s.heap.push o})→(∀a,bS J (k a))→bS J (.alloc o k)
 | stack {k:List (Code×Pos)→Sem α}:(∀t,bS J (k t))→bS J (.stack k)
theorem abv{M:Model}{Γ:PySem.Ctx}{J:Shared→Prop}{α:Type}{t:Sem α}(kt:bS J t): ∀{Q:α→Pos→Shared→Prop} {E:Value→Pos→Shared→Prop} {p:Pos} {s:Shared},J s→Sem.wp M Γ t Q E p s→
  Sem.wp M Γ t (fun a p s=>Q a p s∧J s) (fun e p s=>E e p s∧J s) p s:=by
 induction kt with
 | pure a=>intro Q E p s j h;rw[Sem.wp] at h⊢;exact⟨h,j⟩
 | raise e=>intro Q E p s j h;rw[Sem.wp] at h⊢;exact⟨h,j⟩
 | unsupported w=>intro Q E p s j h;rw[Sem.wp] at h;exact h.elim
 | rule _ ih=>intro Q E p s j h;rw[Sem.wp] at h⊢;exact ih j h
 | load _ ih=>intro Q E p s j h;rw[Sem.wp] at h⊢;obtain⟨o,e,h⟩:=h;exact⟨o,e,ih o j h⟩
 | update f _ ih=>intro Q E p s j h;rw[Sem.wp] at h⊢;exact⟨h.1,ih (f _ j) h.2⟩
 | alloc f _ ih=>intro Q E p s j h;rw[Sem.wp] at h⊢;exact ih _ (f _ j) h
 | stack _ ih=>intro Q E p s j h;rw[Sem.wp] at h⊢;exact ih _ j h
theorem Oy{M:Model}{A:Around}{J:Shared→Prop}{α:Type}{t:Sem α}{Q:α→Shared→Prop}{E:Value→Shared→Prop}{s:Shared}(k:bS J t)(j:J s)(h:wpAny M A t Q E s):
  wpAny M A t (fun a s=>Q a s∧J s) (fun e s=>E e s∧J s) s:=fun Γ p hΓ=>abv k j (h Γ p hΓ)
def dr(e:Addr)(s:Shared):Prop:= ∃o vs,s.heap.get? e=some o∧o.data= .fields vs∧vs[2]?=some .none∧o.dict=none
theorem abw(f:Array Value→Array Value)(o:Obj):(Obj.mapFields f o).dict=o.dict:=by
 unfold Obj.mapFields
 split<;>rfl
theorem abx{e a:Addr}{i:Nat}{v:Value}(hi:i≠2)(s:Shared)(j:dr e s):dr e {s with heap:=s.heap.update a (Obj.mapFields (·.setIfInBounds i v))}:=by
 obtain⟨o,vs,h1,h2,h3,h4⟩:=j
 by_cases z:a=e
 ·subst z
  have d:=Obj.data_mapFields h2 (·.setIfInBounds i v)
  exact⟨_,_,Heap.get?_update_self _ h1 (Obj.isFreed_of_fields d),d,by rw[Array.getElem?_setIfInBounds_ne hi];exact h3,(abw _ _).trans h4⟩
 ·exact⟨o,vs,(Heap.get?_update_other _ _ z).trans h1,h2,h3,h4⟩
theorem aby{e a:Addr}{f:Obj→Obj}(hf: ∀o,(f o).data=o.data∧(f o).dict=o.dict)(s:Shared)(j:dr e s):dr e {s with heap:=s.heap.update a f}:=by
 obtain⟨o,vs,h1,h2,h3,h4⟩:=j
 by_cases z:a=e
 ·subst z
  exact⟨_,vs,Heap.get?_update_self _ h1 (Obj.isFreed_of_fields ((hf o).1.trans h2)),(hf o).1.trans h2,h3,(hf o).2.trans h4⟩
 ·exact⟨o,vs,(Heap.get?_update_other _ _ z).trans h1,h2,h3,h4⟩
theorem abz{e:Addr}{ob:Obj}(s:Shared)(j:dr e s):dr e {s with heap:=s.heap.push ob}:=by
 obtain⟨o,vs,h1,h2,h3,h4⟩:=j
 exact⟨o,vs,Heap.get?_push_of_some _ h1,h2,h3,h4⟩
theorem bS.bind{J:Shared→Prop}{α β:Type}{t:Sem α}{f:α→Sem β}(kt:bS J t)(h: ∀a,bS J (f a)):bS J (t>>=f):=by
 show bS J (t.bind f)
 induction kt with
 | pure a=>exact h a
 | raise e=>exact .raise e
 | unsupported w=>exact .unsupported w
 | rule _ ih=>exact .rule ih
 | load _ ih=>exact .load ih
 | update g _ ih=>exact .update g ih
 | alloc g _ ih=>exact .alloc g ih
 | stack _ ih=>exact .stack ih
section
variable {e:Addr}
theorem zH{a:Addr}:bS (dr e) (load a):= .load fun o=> .pure o
theorem zI{v x:Value}{i:Nat}(hi:i≠2):bS (dr e) (setField v i x):=by
 unfold setField
 split
 ·rename_i a
  unfold updateField
  refine zH.bind fun o=> ?_
  split
  ·split
   ·exact .update (fun s j=>abx hi s j) (.pure ())
   ·exact .unsupported _
  ·exact .unsupported _
 ·exact .unsupported _
theorem abA{v:Value}:bS (dr e) (fieldsOf v):=by
 unfold fieldsOf
 split
 ·refine zH.bind fun o=> ?_
  split
  ·exact .pure _
  ·exact .unsupported _
 ·exact .unsupported _
theorem vq{v:Value}{i:Nat}:bS (dr e) (field v i):=by
 unfold field
 refine abA.bind fun vs=> ?_
 split
 ·exact .pure _
 ·exact .unsupported _
theorem abB{v:Value}{f:Option Addr}:bS (dr e) (setFlight v f):=by
 unfold setFlight
 refine vq.bind fun tb=> ?_
 split
 ·exact zI (by decide)
 ·exact .pure _
theorem zJ:bS (dr e) stack:= .stack fun t=> .pure t
theorem abC{ty:String}{vs:List Value}:bS (dr e) (newFields ty vs):=by
 unfold newFields newObj newObjAsIs
 show bS (dr e) (if vs.toArray.size>sizeLine+2 then (unsupported "record:memory" >>=_) else _)
 split
 ·exact .unsupported _
 ·exact bS.bind (.alloc (fun s j=>abz s j) fun a=> .pure a) fun a=> .pure _
theorem abD{f:Addr}{b:Bool}:bS (dr e) (entryPlaceOf f b):=by
 unfold entryPlaceOf
 refine zJ.bind fun aEk=> ?_
 split
 ·exact .pure _
 ·exact .pure _
theorem Oz: ∀l:List Env,bS (dr e) (readyFrames l)
 | []=> .pure _
 | env::outer=>by
  unfold readyFrames
  split
  ·refine zH.bind fun o=> ?_
   split
   ·exact .pure _
   ·refine bS.bind ?_ fun im=>bS.bind ?_ fun bk=>bS.bind (.update (fun s j=>aby (by intro o;exact⟨rfl,rfl⟩) s j) (.pure ())) fun _=>Oz outer
    ·unfold behindIsImport
     split
     ·exact .pure _
     ·split
      ·exact .pure _
      ·exact vq.bind fun _=> .pure _
    ·unfold keptBack
     split
     ·split
      ·exact .pure _
      ·unfold underTheClaimsCaller
       exact bS.bind (zJ.bind fun _=> .pure _) fun _=> .pure _
     ·exact .pure _
  ·exact .unsupported _
theorem abE{env:Env}:bS (dr e) (PySem.frameOf env):=by
 unfold PySem.frameOf frameEnvs
 refine bS.bind (zJ.bind fun _=> .pure _) fun l=> ?_
 refine bS.bind ?_ fun r=> ?_
 ·unfold frameObject
  split
  ·exact .pure _
  ·exact(Oz _).bind fun _=> .pure _
 ·split
  ·exact .pure _
  ·exact .unsupported _
theorem abF{v:Value}{env:Env}:bS (dr e) (noteFrame v env):=by
 unfold noteFrame
 split
 ·rename_i x d hq
  refine vq.bind fun hd=> ?_
  have tail:bS (dr e) (do let a ←PySem.frameOf env;let pl ←entryPlaceOf d (hd != .none);let b ←EntryCells.newEntry hd a .none (rawInt d) .none pl;setField v 1 b):=
   abE.bind fun a=>abD.bind fun pl=>bS.bind abC fun b=>zI (by decide)
  dsimp only
  split
  ·refine vq.bind fun x=> ?_
   split
   ·exact .pure _
   ·exact(zI (by decide)).bind fun _=>tail
  ·exact tail
 ·exact .unsupported _
theorem OA{v:Value}{env:Env}:bS (dr e) (leaving env v):=by
 unfold leaving
 exact abF.bind fun _=>abB
end
end L2
set_option maxHeartbeats 4000000
namespace L2
open PySem PySem.Spec PyProof.Rows
theorem cO.zK{P:Program}{w:World}{H:Hp}{h:Heap}{a:Addr}{o:HO}(x:cO P w H h a o): ∃ob,h.get? a=some ob:=by
 cases o with
 | lst xs=>obtain⟨_,_,_,_,e⟩:=x;exact⟨_,e⟩
 | tup xs=>obtain⟨_,_,_,ob,e,_⟩:=x;exact⟨_,e⟩
 | dK aZ=>obtain⟨_,_,_,_,o,_,_,e,_⟩:=x;exact⟨_,e⟩
 | dT aZ=>obtain⟨_,_,_,_,o,_,_,e,_⟩:=x;exact⟨_,e⟩
 | set S n=>obtain⟨o,_,_,_,e,_⟩:=x;exact⟨_,e⟩
 | ins C dx fs=>obtain⟨_,_,_,e,_⟩:=x;exact⟨_,e⟩
 | own y=>obtain⟨_,e⟩:=x;exact⟨_,e⟩
 | xd fs=>obtain⟨_,⟨_,_,_,e,_⟩,_⟩:=x;exact⟨_,e⟩
 | fQ lo hi=>obtain⟨_,_,_,e⟩:=x;exact⟨_,e⟩
 | b6 ob u=>obtain⟨e,_⟩:=x;exact⟨_,e⟩
 | iB ps=>exact⟨_,(show h.get? a=some _ from x)⟩
 | met f y=>exact⟨_,(show h.get? a=some _ from x)⟩
 | ext φ=>obtain⟨_,⟨_,e⟩,_⟩:=x;exact⟨_,e⟩
theorem cy.OB{P:Program}{w:World}{H:Hp}{h h':Heap}(ok:cy P w H h)(k: ∀b u,H b≠none→h.get? b=some u→h'.get? b=some u):cy P w H h':=fun a o e=>
 (ok a o e).gT (fun b u hb hu=>k b u (by
  rcases hb with rfl | hb
  ·rw[e];exact Option.some_ne_none _
  ·rw[hb];exact Option.some_ne_none _) hu) (fun _ z=>z) (fun _ _ z=>z)
def fF(P:Program)(w:World):aG:=fun outer H s E e s'=> ∃(ea:Addr) (cls:Value) (t:Addr) (B:Heap) (H':Hp),
 e= .ref ea∧s'.os=s.os∧AllBare s'.gens∧Un (cj outer) [] H H' s.heap s'.heap∧cy P w H' s'.heap∧Heap.FlyingW B outer ea cls (.ref t) s'.heap∧dr ea s'∧H' ea=none∧
 (∀b,H' b≠none→ ∀o,s'.heap.get? b=some o→B.get? b=some o)∧(∀b o,s.heap.get? b=some o→b∉cj outer→ ∀o',s'.heap.get? b=some o'→B.get? b=some o')∧E cls none H'
theorem OC{P:Program}{w:World}{outer:List Env}{H:Hp}{s:Shared}{e:Value}{s':Shared}(h:fF P w outer H s E0 e s'):False:=by
 obtain⟨_,_,_,_,_,_,_,_,_,_,_,_,_,_,_,h⟩:=h
 exact h
section
variable {P:Program} {w:World} {K:Frag} {mg:Str→Option Value} {base:Heap} {N:List Str} {qual:Str} {scope:Scope} {f:Addr} {cd:Value} {A:Around} {outer:List Env} {s₀:Shared} {H₀:Hp} {E:XK}
theorem abG:Passes (fF P w) (lL (fF P w) P w K mg base N qual scope f cd A outer s₀ H₀ E) E:=by
 intro pins σ H s e s' I hx
 obtain⟨ea,cls,t,B,H',rfl,os,bare,u,aR,fl,zL,hea,c1,c2,hE⟩:=hx
 have zM:=I.ok.frames
 have hL:s₀.heap.objs.size≤ (envOfC qual scope s₀.heap.objs.size f cd).locals:=I.ok.above
 have nL: ∀b o,s₀.heap.get? b=some o→b∉cj outer→b∉cj (envOfC qual scope s₀.heap.objs.size f cd::outer):=fun b o hb hn hm=>by
  have jt:b∈ (envOfC qual scope s₀.heap.objs.size f cd).locals::cj outer:=hm
  rcases List.mem_cons.mp jt with rfl | z
  ·exact absurd (Heap.lt_size hb) (Nat.not_lt.mpr hL)
  ·exact hn z
 have qH: ∀b∈cj (envOfC qual scope s₀.heap.objs.size f cd::outer),H' b=none:=fun b hb=>by
  obtain⟨o,ho,_⟩:=(I.stack.mem hb).2
  exact u.free b o ho (I.ux b hb) List.not_mem_nil
 refine wpAny_mono (Oy OA zL (wpAny_leaves_onW (Q:=fun _ jg=> ∃h',jg={s' with heap:=h'}∧Heap.FlyingW B outer ea cls (.ref t) h'∧s'.heap.UpToSlots h') (E:=fun _ _=>False) zM rfl fl fun h' iP up=> ⟨h',rfl,iP,up⟩))
  (fun _ jg hq=> ?_) (fun _ _ z=>z.1.elim)
 obtain⟨⟨h',rfl,iP,up⟩,zN⟩:=hq
 have into: ∀b o,s.heap.get? b=some o→b∉cj (envOfC qual scope s₀.heap.objs.size f cd::outer)→ ∀o',s'.heap.get? b=some o'→h'.get? b=some o':=fun b o hb hn o' eG=>iP.1 b o' (c2 b o hb hn o' eG)
 have lj: ∀b o,H' b≠none→s'.heap.get? b=some o→h'.get? b=some o:=fun b o hb ho=>iP.1 b o (c1 b hb o ho)
 have lY: ∀b∈cj (envOfC qual scope s₀.heap.objs.size f cd::outer),∀o,s'.heap.get? b=some o→ ∃sl,h'.get? b=some {o with slots:=sl}:=fun b hb o ho=>by
  obtain⟨o1,rH,hd⟩:=(fl.2.2.1.mem hb).2
  rw[ho] at rH
  cases rH
  exact up b o ho hd
 refine⟨ea,cls,t,B,H',rfl,os.trans I.os,bare,⟨fun b o q n hn _=> ?_,fun b o q n hn _=> ?_,fun b o q n _=> ?_,fun b o q _=> ?_,fun b xs q=>u.cY b xs (I.base.cY b xs q),fun b o v q=>u.fA b o v (I.base.fA b o v q),fun b ps q=> ?_⟩,
  aR.OB (fun b o hb ho=>lj b o hb ho),iP,zN,hea,fun b hb o ho=> ?_,fun b o q hn o' eG=> ?_,hE⟩
 ·have q1:=I.base.keep b o q n hn List.not_mem_nil
  have n1:=I.base.free b o q n List.not_mem_nil
  have gp:=nL b o q hn
  exact into b o q1 gp o (u.keep b o q1 n1 gp List.not_mem_nil)
 ·obtain⟨sl,q1⟩:=I.base.slot b o q n hn List.not_mem_nil
  have n1:=I.base.free b o q n List.not_mem_nil
  have gp:b∈cj (envOfC qual scope s₀.heap.objs.size f cd::outer):=List.mem_cons_of_mem _ hn
  obtain⟨qR,q2⟩:=u.slot b _ q1 n1 gp List.not_mem_nil
  obtain⟨rJ,q3⟩:=lY b gp _ q2
  exact⟨rJ,q3⟩
 ·obtain⟨o1,q1⟩:=I.base.there b o q List.not_mem_nil
  exact u.free b o1 q1 (I.base.free b o q n List.not_mem_nil) List.not_mem_nil
 ·obtain⟨o1,q1⟩:=I.base.there b o q List.not_mem_nil
  obtain⟨o2,q2⟩:=u.there b o1 q1 List.not_mem_nil
  by_cases hm:b∈cj (envOfC qual scope s₀.heap.objs.size f cd::outer)
  ·obtain⟨sl,q3⟩:=lY b hm o2 q2
   exact⟨_,q3⟩
  ·exact⟨o2,into b o1 q1 hm o2 q2⟩
 ·obtain⟨m1,e1⟩:=I.base.fR b ps q
  obtain⟨m2,e2⟩:=u.fR b _ e1
  exact⟨m1++m2,by rw[e2,Array.append_assoc]⟩
 ·obtain⟨j7,hH⟩:=Option.ne_none_iff_exists'.mp hb
  obtain⟨o2,q2⟩:=(aR b j7 hH).zK
  have q3:=lj b o2 hb q2
  have g8:h'.get? b=some o:=ho
  rw[q3] at g8
  cases g8
  exact c1 b hb _ q2
 ·obtain⟨o1,q1⟩:=I.base.there b o q List.not_mem_nil
  obtain⟨o2,q2⟩:=u.there b o1 q1 List.not_mem_nil
  have gp:=nL b o q hn
  have q3:=into b o1 q1 gp o2 q2
  have g8:h'.get? b=some o':=eG
  rw[q3] at g8
  cases g8
  exact c2 b o1 q1 gp _ q2
def Raises(X:Cx)(E:XK):Prop:= ∀(pins:List (Addr×Obj)) (σ:St) (H:Hp) (s:Shared) (h':Heap) (e:Addr) (cls:Value) (vs:List Value),Inv X pins σ H s→Heap.MadeExcOf s.heap h' e cls vs→E cls none H→X.xe (.ref e) {s with heap:=h'}
theorem abI:Raises (lL (fF P w) P w K mg base N qual scope f cd A outer s₀ H₀ E) E:=by
 intro pins σ H s h1 e cls vs I hx hE
 have zM:=I.ok.frames
 have hL:s₀.heap.objs.size≤ (envOfC qual scope s₀.heap.objs.size f cd).locals:=I.ok.above
 have nL: ∀b o,s₀.heap.get? b=some o→b∉cj outer→b∉cj (envOfC qual scope s₀.heap.objs.size f cd::outer):=fun b o hb hn hm=>by
  have jt:b∈ (envOfC qual scope s₀.heap.objs.size f cd).locals::cj outer:=hm
  rcases List.mem_cons.mp jt with rfl | z
  ·exact absurd (Heap.lt_size hb) (Nat.not_lt.mpr hL)
  ·exact hn z
 have pA: ∀env∈ (envOfC qual scope s₀.heap.objs.size f cd::outer),∀b,env.frame=some b→b∈cj (envOfC qual scope s₀.heap.objs.size f cd::outer):=fun env he b hb=>List.mem_filterMap.mpr ⟨env,he,hb⟩
 have zL:dr e {s with heap:=h1}:=by
  obtain⟨t,ht,_,_⟩:=hx.there
  exact⟨_,_,ht,rfl,rfl,rfl⟩
 refine wpAny_mono (Oy OA zL (wpAny_leaves_madeW (Q:=fun _ jg=> ∃h' t,jg={s with heap:=h'}∧Heap.FlyingW (hideAll s.heap (cj (envOfC qual scope s₀.heap.objs.size f cd::outer))) outer e cls (.ref t) h'∧h1.UpToSlots h') (E:=fun _ _=>False)
  zM rfl (fun b o q=>of_hideAll _ q) (PySem.W.funFrames_hide I.stack pA) hx fun h' t iP _ _ up=> ⟨h',t,rfl,iP,up⟩)) (fun _ jg hq=> ?_) (fun _ _ z=>z.1.elim)
 obtain⟨⟨h',t,rfl,iP,up⟩,zN⟩:=hq
 have into: ∀b o,s.heap.get? b=some o→b∉cj (envOfC qual scope s₀.heap.objs.size f cd::outer)→h'.get? b=some o:=fun b o hb hn=>iP.1 b o (hideAll_get _ hb hn)
 have zO: ∀b,H b≠none→b∉cj (envOfC qual scope s₀.heap.objs.size f cd::outer):=fun b hb hm=>hb (I.ux b hm)
 have lY: ∀b∈cj (envOfC qual scope s₀.heap.objs.size f cd::outer),∀o,s.heap.get? b=some o→ ∃sl,h'.get? b=some {o with slots:=sl}:=fun b hb o ho=>by
  obtain⟨o1,rH,hd⟩:=(I.stack.mem hb).2
  rw[ho] at rH
  cases rH
  exact up b o (hx.keeps b o ho) hd
 refine⟨e,cls,t,_,H,rfl,I.os,I.bare,⟨fun b o q n hn _=> ?_,fun b o q n hn _=> ?_,fun b o q n _=>I.base.free b o q n List.not_mem_nil,fun b o q _=> ?_,I.base.cY,I.base.fA,I.base.fR⟩,
  I.aR.OB (fun b o hb ho=>into b o ho (zO b hb)),iP,zN, ?_,fun b hb o ho=> ?_,fun b o q hn o' eG=> ?_,hE⟩
 ·exact into b o (I.base.keep b o q n hn List.not_mem_nil) (nL b o q hn)
 ·obtain⟨sl,q1⟩:=I.base.slot b o q n hn List.not_mem_nil
  obtain⟨rJ,q3⟩:=lY b (List.mem_cons_of_mem _ hn) _ q1
  exact⟨rJ,q3⟩
 ·obtain⟨o1,q1⟩:=I.base.there b o q List.not_mem_nil
  by_cases hm:b∈cj (envOfC qual scope s₀.heap.objs.size f cd::outer)
  ·obtain⟨sl,q3⟩:=lY b hm o1 q1
   exact⟨_,q3⟩
  ·exact⟨o1,into b o1 q1 hm⟩
 ·cases q:H e with
  | none=>rfl
  | some ho=>
   obtain⟨o2,q2⟩:=(I.aR e ho q).zK
   rw[hx.new] at q2
   cases q2
 ·obtain⟨j7,hH⟩:=Option.ne_none_iff_exists'.mp hb
  obtain⟨o2,q2⟩:=(I.aR b j7 hH).zK
  have q3:=into b o2 q2 (zO b hb)
  have g8:h'.get? b=some o:=ho
  rw[q3] at g8
  cases g8
  exact hideAll_get _ q2 (zO b hb)
 ·obtain⟨o1,q1⟩:=I.base.there b o q List.not_mem_nil
  have gp:=nL b o q hn
  have q3:=into b o1 q1 gp
  have g8:h'.get? b=some o':=eG
  rw[q3] at g8
  cases g8
  exact hideAll_get _ q1 gp
end
section
variable {X:Cx}
theorem abJ{x:Str}{C:Addr}{bm:List Value}{B newId pB:String}{e:Expr}{es:List Expr}{t:TA}{np dG pos:Pos}{E:XK}(hc:X.calm=true)(O:OwnCls x C bm newId X.mg X.base)(FB:ExcBaseFacts B newId pB bm)(hgl:Gl X x)
  (hd:(x==("__debug__":Str))=false) (ha:PA X (e::es) t) (hs:starEach (e::es) X.env=(false,eval e X.env)::starEach es X.env) (h1:(backTo dG (starEach es X.env)).any (·.1)=false) (hR:Raises X E):
  PS X (.Raise (some (.Call (.Name x np) (e::es) [] dG)) none pos) (zp C E t):=by
 intro pins s σ H D I h
 obtain⟨tl,N,nm,q,bs,hdct,sn,sub,ab,col,dd,k0,k1,k2,k3,k5,mN,hC,hN,vv,T⟩:=O.obj
 have hg:PE X (.Name x np) (tC (.ref C)):=Mm hgl O.bound rfl hd
 refine wpAny_Raise_call_subT (C:=C) (nm:=nm) (q:=q) (N:=N) (bs:=bs) (bm:=tl) (hdct:=hdct) (sn:=sn) (sub:=sub) (ab:=ab) (col:=col) (dd:=dd) (k0:=k0) (k1:=k1) (k2:=k2) (k3:=k3) (k5:=k5)
  FB (mN:=mN) (T.hasType FB.hasBase) (I.ok.hd hc) (by rw[hs];show(false || (backTo dG (starEach es X.env)).any (·.1))=false;rw[h1];rfl) vv
  (bf (hg pins s σ H (fun v H1=>v= .ref C∧zp C E t D σ H1) I ⟨rfl,h⟩) fun f s1 ⟨v,H1,I1,r1,ev,q1⟩=> ?_)
 subst ev
 obtain rfl:f=Value.ref C:=r1
 refine⟨rfl, ?_⟩
 have hA:=ha dG pins s1 σ H1 _ I1 q1
 rw[hs] at hA⊢
 refine Calls.evalArgs_plain (bf hA fun us s2 ⟨vs,H2,I2,r2,hl,q2⟩=> ⟨rfl, ?_,I2.bk _ _ hC,hN.keeps I2.bk,T.keeps I2.bk,fun h' e' hm=>hR pins σ H2 s2 h' e' _ _ I2 hm q2⟩)
 have:=r2.length
 show us.length≤sizeLine
 omega
end
section
variable {X:Cx}
end
def OD(A:Around)(H:Hp):Prop:= ∃e D,A.handled=some (.ref e)∧ExcAt H e D
def Hd(X:Cx):Prop:=OD X.A X.H₀
section
variable {X:Cx} {pins:List (Addr×Obj)} {σ:St} {H:Hp} {s:Shared}
end
section
variable {X:Cx} {tg:Expr}
end
structure zP (k:Nat) (A:Around):Prop where
 dp:A.depth+3*k+5<recursionLimit
 un:A.units+16*k+200<cLine
theorem cE.h{k:Nat}{A:Around}(r:cE k A):zP k A:=⟨r.dp,r.un⟩
def CRH(outer:List Env)(P:Program)(w:World)(H:Hp)(s:Shared)(Q:VK)(r:Result)(s':Shared):Prop:=
 match r with
 | .ok (.ret u)=>CE outer P w H s Q u s'
 | _=>False
structure OE (P:Program) (w:World) (K:Frag) (mg:Str→Option Value) (base:Heap) (k:Nat) (f:Addr) (fd:FuncData) (ps:List Str) (sp:Sp):Prop where
 len: ∀vs H Q E,sp vs H Q E→vs.length=ps.length
 run: ∀(A:Around) (outer:List Env) (s:Shared) (H:Hp) (args:Args) (us:List Value) (vs:List V) (Q:VK),zP k A→OD A H→j5 P w K mg base A outer s H→BindsTo s fd args (ps.zip us)→Vals vs us→sp vs H Q E0→
  codeAny (model P w) A (.call (.ref f) args) (CRH outer P w H s Q) s
section
variable {X:Cx} {k:Nat} {f:Addr} {fd:FuncData} {ps:List Str} {sp:Sp} {x:Str} {p pos:Pos} {e:Expr} {ta:TE} {hv:Option Addr}
end
def OF(CX:aG)(X:Cx)(x:Str)(sp:Sp):Prop:=
 ∃k f fd ps,cG X.prog X.w X.K X.mg X.base CX k f fd ps sp∧cE k X.A∧X.mg x=some (.ref f)∧keepIn X.K (.ref f)=true∧Binds X.K fd ps []
def vw(CX:aG)(X:Cx)(C:Addr)(m:Str)(sp:Sp):Prop:=
 fB X.K C∧ ∃k f fd ps,Meth X.K C m f∧cG X.prog X.w X.K X.mg X.base CX k f fd ps sp∧cE k X.A∧Binds X.K fd ps []
def OG(CX:aG)(X:Cx)(x:Str)(C:Addr)(sp:Sp):Prop:=
 ∃k f fd ps,Mk X.K C f∧cG X.prog X.w X.K X.mg X.base CX k f fd ps sp∧cE (k+1) X.A∧X.mg x=some (.ref C)∧Binds X.K fd ps []
def OH(X:Cx)(x:Str)(sp:Sp):Prop:=
 ∃k f fd ps,OE X.prog X.w X.K X.mg X.base k f fd ps sp∧zP k X.A∧X.mg x=some (.ref f)∧keepIn X.K (.ref f)=true∧Binds X.K fd ps []
def OI(X:Cx)(x:Str)(C:Addr):Prop:= ∃bm B newId pB,OwnCls x C bm newId X.mg X.base∧ExcBaseFacts B newId pB bm
structure Good (CX:aG) (S:cZ) (Γ:aC) (X:Cx):Prop where
 N:X.N=S.N
 sc:X.env.scope=S.sc
 K:X.K=Γ.K
 calm:S.md=0→X.calm=true
 units:X.A.units+64<cLine
 fns:S.md=0→ ∀j x,S.fn[j]?=some x→OF CX X x (Γ.fs j)
 vx: ∀j x,S.gn[j]?=some x→ ∃u,X.mg x=some u∧RelV (Γ.gv j) u
 gu: ∀x,S.bl.contains x=true→X.mg x=none
 pass:Passes CX X Γ.E
 vy: ∀outer H s e s',CX outer H s E0 e s'→False
 vz: ∀p aZ,Γ.sd p aZ→ ∀h:Heap,X.K.In h→ ∃vs,KV aZ vs∧h.DictOf (iz X.prog X.w) p vs
 rK:S.md=0→ ∀j m,S.mn[j]?=some m→vw CX X (Γ.ms j).1 m (Γ.ms j).2
 rM:S.md=0→ ∀j x,S.kn[j]?=some x→OG CX X x (Γ.kt j).1 (Γ.kt j).2
 zQ: ∀j x,S.en[j]?=some x→OI X x (Γ.ex j)
 zR: ∀j x,S.hn[j]?=some x→OH X x (Γ.hs j)
 zS: ∀e,Γ.hv=some e→X.A.handled=some (.ref e)
 OJ:S.md=1→Hd X
theorem vA{S:cZ}(h:(if S.md=0 then 0 else 2)=0):S.md=0:=by
 split at h
 ·assumption
 ·cases h
section
variable {CX:aG} {S:cZ} {Γ:aC} {X:Cx}
theorem Good.inner(G:Good CX S Γ X)(c:rE)(ln:List Str)(fv:List (Str×Nat))(ex:List Addr)(C:Addr)(s:Shared)(H:Hp):
  Good CX (Ox S c ln fv) Γ.calm (fc X c.sc (ln++fv.map (·.1)) ex C s H) where
 N:=rfl
 sc:=by
  show relabel c.sc X.env=zA c.sc S.sc
  rw[←G.sc];rfl
 K:=G.K
 calm:=fun h=>G.calm (vA h)
 units:=G.units
 fns:=fun m j x h=>G.fns (vA m) j x h
 vx:=G.vx
 gu:=G.gu
 pass:=fun _ _ _ _ _ _ _ h=> (G.vy _ _ _ _ _ h).elim
 vy:=G.vy
 vz:=G.vz
 rK:=fun z j m h=>G.rK (vA z) j m h
 rM:=fun z j x h=>G.rM (vA z) j x h
 zQ:=fun j x h=>by simp[Ox] at h
 zR:=fun j x h=>G.zR j x h
 zS:=fun e h=>G.zS e h
 OJ:=fun h=>by
  have h':(if S.md=0 then 0 else 2)=1:=h
  split at h'<;>cases h'
theorem Good.gl(G:Good CX S Γ X){x:Str}(h:kg S.sc x=true):Gl X x:=by
 show X.env.scope.names.lookup x=_
 rw[G.sc];exact abg h
theorem di{e:Expr}{es:List Expr}{env:Env}(h:noStar e=true):starEach (e::es) env=(false,eval e env)::starEach es env:=by
 cases e<;>first | rfl | cases h
theorem j_{o:Expr}{x:Str}{env:Env}(h:lX o=true):attributeBase o x env (eval o env)=eval o env:=by
 unfold attributeBase
 split
 ·cases h
 ·rfl
theorem vB{e:Expr}{env:Env}(h:rF e=true): ∀x,foldedSetIterable e env x=pure x:=by
 intro x
 cases e<;>first | rfl | cases h
def ef(es:List Expr):Bool:=es.all noStar
theorem fV(env:Env)(pos:Pos): ∀(es:List Expr),ef es=true→(backTo pos (starEach es env)).any (·.1)=false
 | [],h=>rfl
 | e::es,h=>by
  simp only[ef,List.all_cons,Bool.and_eq_true] at h
  rw[di h.1]
  have ih:=fV env pos es h.2
  show(false || (backTo pos (starEach es env)).any (·.1))=false
  rw[ih];rfl
theorem rN(env:Env)(pos:Pos): ∀(es:List Expr),ef es=true→(backTo pos (starEach es env)).all (fun x=> !x.1)=true
 | [],h=>rfl
 | e::es,h=>by
  simp only[ef,List.all_cons,Bool.and_eq_true] at h
  rw[di h.1]
  have ih:=rN env pos es h.2
  show(!false && (backTo pos (starEach es env)).all (fun x=> !x.1))=true
  rw[ih];rfl
theorem cI{e:Expr}{es:List Expr}(h:ef (e::es)=true):noStar e=true∧ef es=true:=by
 simp only[ef,List.all_cons,Bool.and_eq_true] at h
 exact h
theorem OK(G:Good CX S Γ X){c:rE}{ln:List Str}{fv:List (Str×Nat)}(h:zC S c ln fv=true):
  g5 X c.sc ln fv∧(∀x∈ln,c.sc.names.lookup x=some .local)∧(ln++fv.map (·.1)).Nodup∧rF c.iter=true:=by
 simp only[zC,Bool.and_eq_true,decide_eq_true_eq,List.all_eq_true,Bool.or_eq_true] at h
 obtain⟨⟨⟨⟨⟨⟨⟨h1,h2⟩,h3⟩,h4⟩,h5⟩,h6⟩,h7⟩,h8⟩:=h
 refine⟨⟨h1,fun y hy=>h2 y hy,fun y hy hl=> ?_,fun y hy hf=> ?_,fun p hp=> ?_⟩,h6,h7,h8⟩
 ·rcases h3 y hy with z | z
  ·exact absurd hl z
  ·exact z
 ·show X.env.scope.names.lookup y.1=_∨X.env.scope.names.lookup y.1=_
  rw[G.sc]
  rcases h4 y hy with(z | z) | z
  ·exact absurd hf z
  ·exact .inl z
  ·exact .inr z
 ·rw[G.N];exact h5 p hp
theorem OL(hc:X.calm=true){c:rE}{tk:Option Nat}{ln:List Str}{fv:List (Str×Nat)}(h:zB tk c.tg=some ln)(hl: ∀x∈ln,c.sc.names.lookup x=some .local)(hn:(ln++fv.map (·.1)).Nodup):
  rg X c.sc ln fv c.tg tk:=by
 unfold zB at h
 split at h
 ·rename_i x p he
  cases h
  rw[he]
  exact aaw (hl x (by simp)) hn
 ·rename_i x p y q k pos he
  cases h
  rw[he]
  exact aay hc (hl x (by simp)) (hl y (by simp)) hn
 ·cases h
theorem abM{xs:List V}{H:Hp}{Q:VK}{K:Frag}(h:lV K .int xs H Q):(∃i,xs=[.int i]∧Q (.int i) H)∨ ∃k,xs=[.bl k]∧Q (.int (if k then 1 else 0)) H:=by
 match xs,h with
 | [.int i],h=>exact .inl ⟨i,rfl,h⟩
 | [.bl k],h=>exact .inr ⟨k,rfl,h⟩
theorem abN{K:Frag}{x:V}{H:Hp}{Q:Nat→Prop}(h:q9 K x H Q): ∃n,MV K x H n∧Q n:=by
 match x,h with
 | .str y,h=>exact⟨_,⟨h.1,rfl⟩,h.2⟩
 | .ref p, .inl ⟨xs,a,b⟩=>exact⟨_, .inl ⟨xs,a,rfl⟩,b⟩
 | .ref p, .inr ⟨xs,a,b⟩=>exact⟨_, .inr ⟨xs,a,rfl⟩,b⟩
inductive abO (X:Cx) (b:jn):Prop where
 | fn (id:String) (hv:bootBuiltins b.nm=some (.builtin id)) (hc:b9 X (.builtin id) (lV X.K b))
 | ty (T:String) (hv:bootBuiltins b.nm=some (.type T)) (hc:b9 X (.type T) (lV X.K b))
theorem boot_min:bootBuiltins "min"=some (.builtin "min"):=by decide+kernel
theorem boot_max:bootBuiltins "max"=some (.builtin "max"):=by decide+kernel
theorem boot_abs:bootBuiltins "abs"=some (.builtin "abs"):=by decide+kernel
theorem boot_sum:bootBuiltins "sum"=some (.builtin "sum"):=by decide+kernel
theorem abP:bootBuiltins "isinstance"=some (.builtin "isinstance"):=by decide+kernel
theorem abQ:bootBuiltins "int"=some (.type "int"):=by decide+kernel
theorem abR:bootBuiltins "list"=some (.type "list"):=by decide+kernel
theorem abS:bootBuiltins "tuple"=some (.type "tuple"):=by decide+kernel
theorem zT(f:Nat→Int)(lt:Nat→Nat→Bool)(h: ∀i j,lt i j=decide (f i<f j)): ∀n,argBest lt n≤n∧ ∀i,i≤n→f (argBest lt n)≤f i
 | 0=> ⟨zqR _,fun i hi=>by
   obtain rfl:i=0:=by omega
   exact Int.le_refl _⟩
 | n+1=>by
  obtain⟨a,b⟩:=zT f lt h n
  have e:argBest lt (n+1)=if lt (n+1) (argBest lt n)=true then n+1 else argBest lt n:=rfl
  rw[e,h]
  split
  ·rename_i q
   have q:=of_decide_eq_true q
   refine⟨zqR _,fun i hi=> ?_⟩
   by_cases z:i=n+1
   ·rw[z];exact Int.le_refl _
   ·have:=b i (by omega);omega
  ·rename_i q
   have q: ¬f (n+1) <f (argBest lt n):=fun z=>q (zqT z)
   refine⟨by omega,fun i hi=> ?_⟩
   by_cases z:i=n+1
   ·rw[z];omega
   ·exact b i (by omega)
theorem OM{xs:Array (Int×Tok)}{i:Nat}(h:i<xs.size):numAt xs i=xs[i].1:=by
 unfold numAt
 rw[Array.getElem?_eq_getElem h];rfl
theorem ON{xs:Array (Int×Tok)}{i:Nat}(h:i<xs.size):numAt xs i∈xs.toList.map (·.1):=by
 rw[OM h]
 exact List.mem_map.mpr ⟨xs[i],by simp,rfl⟩
theorem OO{xs:Array (Int×Tok)}{n:Int}(h:n∈xs.toList.map (·.1)): ∃i,i<xs.size∧n=numAt xs i:=by
 obtain⟨y,hy,rfl⟩:=List.mem_map.mp h
 obtain⟨i,hi,rfl⟩:=List.getElem_of_mem hy
 have gj:i<xs.size:=by simpa using hi
 exact⟨i,gj,by rw[OM gj];simp⟩
theorem OP{pins:List (Addr×Obj)}{σ:St}{H:Hp}{s:Shared}{p:Addr}{ns:List Int}(I:Inv X pins σ H s)(hq:aM X.K H p (ns.map V.int)): ∃xs:Array (Int×Tok),s.heap.IsList p (intItems xs)∧ns=xs.toList.map (·.1):=by
 obtain⟨its,rv,pl,hz⟩:=I.list hq
 have hi:=intsAre_of rv
 obtain⟨xs,hx⟩:=hi.allInts.items
 refine⟨xs,hx ▸ pl.isList, ?_⟩
 rw[←nums_intItems,←hx]
 exact(show numsOf its.toArray.toList=ns from hi.numsOf).symm
theorem abT(hc:X.calm=true):b9 X (.builtin "min") (fun xs H Q=> ∃(p:Addr) (ns:List Int),xs=[.ref p]∧aM X.K H p (ns.map V.int)∧ns≠ []∧ ∀m:Int,m∈ns→(∀n∈ns,m≤n)→Q (.int m) H):=by
 intro pins s σ H xs us Q I r h
 obtain⟨p,ns,rfl,hq,kh,q⟩:=h
 obtain⟨u,rfl,ru⟩:=vals1 r
 cases ru
 obtain⟨xs,hl,rfl⟩:=OP I hq
 have sz:0<xs.size:=Nat.pos_of_ne_zero fun z=>kh (by rw[Array.eq_empty_of_size_eq_zero z];rfl)
 refine min_intList (I.ok.hd hc) hl sz fun v h' tk hv hk=> ?_
 obtain⟨t,rfl⟩:=intItems_at hv
 obtain⟨b1,b2⟩:=zT (numAt xs) (fun i j=>decide (numAt xs i<numAt xs j)) (fun _ _=>rfl) (xs.size - 1)
 refine⟨.int _,H,I.kept (t':=tk) hk,⟨t,rfl⟩,q _ (ON (by omega)) fun n hn=> ?_⟩
 obtain⟨i,hi,rfl⟩:=OO hn
 exact b2 i (by omega)
theorem abU(hc:X.calm=true):b9 X (.builtin "max") (fun xs H Q=> ∃(p:Addr) (ns:List Int),xs=[.ref p]∧aM X.K H p (ns.map V.int)∧ns≠ []∧ ∀m:Int,m∈ns→(∀n∈ns,n≤m)→Q (.int m) H):=by
 intro pins s σ H xs us Q I r h
 obtain⟨p,ns,rfl,hq,kh,q⟩:=h
 obtain⟨u,rfl,ru⟩:=vals1 r
 cases ru
 obtain⟨xs,hl,rfl⟩:=OP I hq
 have sz:0<xs.size:=Nat.pos_of_ne_zero fun z=>kh (by rw[Array.eq_empty_of_size_eq_zero z];rfl)
 refine max_intList (I.ok.hd hc) hl sz fun v h' tk hv hk=> ?_
 obtain⟨t,rfl⟩:=intItems_at hv
 obtain⟨b1,b2⟩:=zT (fun i=> - numAt xs i) (fun i j=>decide (numAt xs i>numAt xs j)) (fun i j=>decide_eq_decide.mpr (by omega)) (xs.size - 1)
 refine⟨.int _,H,I.kept (t':=tk) hk,⟨t,rfl⟩,q _ (ON (by omega)) fun n hn=> ?_⟩
 obtain⟨i,hi,rfl⟩:=OO hn
 have:=b2 i (by omega)
 omega
theorem OQ{x:Str}{acc:Array Value}(h:ItemsOf (SignAt x) acc x.cps.size):Vals (signs x) acc.toList:=by
 have go: ∀(l:List Nat) (us:List Value),us.length=l.length→(∀(j:Nat) (v:Value),us[j]?=some v→ ∃(c:Nat) (t:Tok),l[j]?=some c∧v=Value.str ⟨#[c]⟩ t)→Vals (l.map fun c=>V.str ⟨#[c]⟩) us:=by
  intro l
  induction l with
  | nil=>
   intro us hl _
   rw[List.length_eq_zero_iff.mp hl]
   exact .nil
  | cons c l ih=>
   intro us hl hv
   cases us with
   | nil=>cases hl
   | cons u us=>
    obtain⟨c',t,e1,e2⟩:=hv 0 u rfl
    have lS:c=c':=by simpa using e1
    subst lS
    exact .cons ⟨t,e2⟩ (ih us (by simpa using hl) fun j v hj=>by
     obtain⟨c2,t2,g1,g2⟩:=hv (j+1) v (by simpa using hj)
     exact⟨c2,t2,by simpa using g1,g2⟩)
 refine go x.cps.toList acc.toList ?_ fun j v hj=> ?_
 ·have:=h.1;simpa using this
 ·obtain⟨c,t,e1,e2⟩:=h.2 j v (by simpa using hj)
  exact⟨c,t,by simpa using e1,e2⟩
theorem OR(x:Str):(signs x).length=x.length:=by simp[signs,Str.length]
theorem abV(hc:X.calm=true):b9 X (.type "list") (fun xs H Q=> ∃x,xs=[.str x]∧x.length≤sizeLine∧ ∀l,H l=none→Q (.ref l) (upd H l (.lst (signs x)))):=by
 intro pins s σ H xs us Q I r h
 obtain⟨x,rfl,hx,q⟩:=h
 obtain⟨u,rfl,t,rfl⟩:=vals1 r
 refine call_list_str (I.ok.hd hc) x t (fun h' tk yZ c' hk e zU=> ?_) hx
 have rv:=OQ zU
 exact⟨.ref s.heap.objs.size,_,I.laid (t':=tk) hk (zqR _) (show cO X.prog X.w _ h' _ (.lst (signs x)) from⟨by rw[OR];exact hx,yZ.toList,c',rv,by simpa using e⟩),rfl,q _ (I.aR.fresh (zqR _))⟩
theorem abW(hc:X.calm=true):b9 X (.type "tuple") (fun xs H Q=> ∃x,xs=[.str x]∧x.length≤sizeLine∧ ∀l,H l=none→Q (.ref l) (upd H l (.tup (signs x)))):=by
 intro pins s σ H xs us Q I r h
 obtain⟨x,rfl,hx,q⟩:=h
 obtain⟨u,rfl,t,rfl⟩:=vals1 r
 refine call_tuple_str (I.ok.hd hc) x t (fun h' tk acc hk zU=> ?_) hx
 have rv:=OQ zU
 have I1:Inv X pins σ H {s with heap:=h',toks:=tk}:=I.kept (t':=tk) hk
 have I2:Inv X pins σ (upd H h'.objs.size (.tup (signs x))) {s with heap:=h'.push {cls:= .type "tuple",data:= .seq acc},toks:=tk}:=
  I1.laid (t':=tk) (fun b o e=>Heap.get?_push_of_some _ e) (zqR _) (show cO X.prog X.w _ _ _ (.tup (signs x)) from⟨by rw[OR];exact hx,acc.toList,rv,by simpa using IsTup.new _ _⟩)
 exact⟨.ref h'.objs.size,_,I2,rfl,q _ (I1.aR.fresh (zqR _))⟩
theorem abX(hc:X.calm=true)(b:jn):abO X b:=by
 cases b with
 | len=>exact .fn "len" boot_len (b9.imp Yv fun xs H Q h=>by
   rcases xs with _ | ⟨x,_ | ⟨_,_⟩⟩ <;> (try exact False.elim h)
   obtain⟨n,h1,h2⟩:=abN (Q:=fun n=>Q (.int n) H) h;exact⟨x,n,rfl,h1,h2⟩)
 | min=>exact .fn "min" boot_min (b9.imp ((Yt hc).or (abT hc)) fun xs H Q h=>by
   match xs,h with
   | [.int i, .int j],h=>exact .inl ⟨i,j,rfl,h⟩
   | [.ref p],⟨ns,h1,h2,h3⟩=>exact .inr ⟨p,ns,rfl,h1,h2,h3⟩)
 | max=>exact .fn "max" boot_max (b9.imp ((Ys hc).or (abU hc)) fun xs H Q h=>by
   match xs,h with
   | [.int i, .int j],h=>exact .inl ⟨i,j,rfl,h⟩
   | [.ref p],⟨ns,h1,h2,h3⟩=>exact .inr ⟨p,ns,rfl,h1,h2,h3⟩)
 | sum=>exact .fn "sum" boot_sum (b9.imp (aaR hc) fun xs H Q h=>by
   rcases xs with _ | ⟨x,_ | ⟨_,_⟩⟩ <;> (try exact False.elim h) <;>cases x<;> (try exact False.elim h)
   obtain⟨ns,h1,h2⟩:=h;exact⟨_,ns,rfl,h1,h2⟩)
 | abs=>exact .fn "abs" boot_abs (b9.imp Yr fun xs H Q h=>by
   rcases xs with _ | ⟨x,_ | ⟨_,_⟩⟩ <;> (try exact False.elim h) <;>cases x<;> (try exact False.elim h)
   exact⟨_,rfl,h⟩)
 | int=>exact .ty "int" abQ (b9.imp Yu fun xs H Q h=>abM h)
 | list=>exact .ty "list" abR (b9.imp (Zo.or (abV hc)) fun xs H Q h=>by
   rcases xs with _ | ⟨x,_ | ⟨_,_⟩⟩ <;> (try exact False.elim h) <;>cases x<;> (try exact False.elim h)
   ·exact .inr ⟨_,rfl,h.1,h.2⟩
   ·obtain⟨ys,h1,h2⟩:=h;exact .inl ⟨_,ys,rfl,h1,h2⟩)
 | tuple=>exact .ty "tuple" abS (b9.imp (Zp.or (abW hc)) fun xs H Q h=>by
   rcases xs with _ | ⟨x,_ | ⟨_,_⟩⟩ <;> (try exact False.elim h) <;>cases x<;> (try exact False.elim h)
   ·exact .inr ⟨_,rfl,h.1,h.2⟩
   ·obtain⟨ys,h1⟩:=h;exact .inl ⟨_,ys,rfl,h1⟩)
structure abY (X:Cx) (m:g7) (id:String):Prop where
 pa:PlainAttrs (vm m)
 slot:Slot (vm m) m.nm id
 ty:typeOf (.builtin id)=pure (.type "method_descriptor")
 mt:iH X id (rq X.K m)
theorem abZ{P:Program}{w:World}{k:Key}{u:Value}(r:RelV (kV k) u):(iz P w).is k u=true:=by
 cases k with
 | inl i=>obtain⟨t,e⟩:=(show ∃t,u=Value.int i t from r);subst e;exact W9 P w i t
 | inr x=>obtain⟨t,e⟩:=(show ∃t,u=Value.str x t from r);subst e;exact W_ P w x t
theorem ab0{aZ:List (Key×V)}{vs:List (Key×Value)}(r:KV aZ vs)(k:Key){v:V}(h:lW aZ k=some v): ∃u,valueAt vs k=some u∧RelV v u:=by
 unfold KV at r
 induction r with
 | nil=>cases h
 | @cons p q ps qs hh t ih=>
  obtain⟨h1,h2⟩:=hh
  by_cases e:p.1=k
  ·have e':q.1=k:=h1.symm.trans e
   have b:valueAt (q::qs) k=some q.2:=by simp[valueAt,List.find?_cons,e']
   have a:lW (p::ps) k=some p.2:=by simp[lW,List.find?_cons,e]
   rw[a] at h
   cases h
   exact⟨_,b,h2⟩
  ·have e': ¬q.1=k:=fun z=>e (h1.trans z)
   have b:valueAt (q::qs) k=valueAt qs k:=by simp[valueAt,List.find?_cons,e']
   have a:lW (p::ps) k=lW ps k:=by simp[lW,List.find?_cons,e]
   rw[a] at h
   rw[b]
   exact ih h
theorem ab1{sd:Addr→List (Key×V)→Prop}(zV: ∀p aZ,sd p aZ→ ∀h:Heap,X.K.In h→ ∃vs,KV aZ vs∧h.DictOf (iz X.prog X.w) p vs):iG X (Om sd):=by
 intro value slice pins s σ H x y v u Q I rx ry h hs
 obtain⟨p,aZ,k,z,rfl,rfl,hq,he,q⟩:=h
 cases rx
 obtain⟨vs,r,dd⟩:=zV p aZ hq s.heap I.cC
 obtain⟨w,ew,lM⟩:=ab0 r k he
 exact subscriptTail_builtinR (x:=w) dd.mapOf.typeIs PySem.F.slot_dict_getitem.lookup
  (wpAny_getItem_of (Q:=fun r s'=>r=w∧EP X pins σ Q r s') (abZ ry) dd.mapOf ew ⟨rfl,z,H,I.tok _,lM,q⟩) hs
theorem ab2{sd:Addr→List (Key×V)→Prop}(zV: ∀p aZ,sd p aZ→ ∀h:Heap,X.K.In h→ ∃vs,KV aZ vs∧h.DictOf (iz X.prog X.w) p vs):iG X (jo X.K sd):=Zd.or (Ze.or (Zf.or (ab1 zV)))
theorem vC(y:Str): ∀{ts:List Str} {us:List Value},Vals (ts.map V.str) us→ ∀(j:Nat) (h1:j<us.length) (h2:j<ts.length),(Value.isStrOf y us[j]=(ts[j]==y))
 | [],_, .nil,j,h1,_=>absurd h1 (Nat.not_lt_zero _)
 | t::ts,_, .cons r rs,0,_,_=>by
  obtain⟨k,rfl⟩:=(show ∃k,_=Value.str t k from r)
  rfl
 | t::ts,_, .cons r rs,j+1,h1,h2=>vC y rs j (Nat.lt_of_succ_lt_succ h1) (Nat.lt_of_succ_lt_succ h2)
theorem OT{y:Str}: ∀{ts:List Str} {j:Nat},j<ts.idxOf y→ ∀(h2:j<ts.length),(ts[j]==y)=false
 | n::r,0,h,_=>by
  by_cases e:n=y
  ·subst e;simp at h
  ·simpa using e
 | n::r,j+1,h,h2=>by
  by_cases e:n=y
  ·subst e;simp at h
  ·have hb:(n==y)=false:=by simpa using e
   have h':j<r.idxOf y:=by
    rw[List.idxOf_cons,hb] at h
    exact Nat.lt_of_succ_lt_succ h
   exact OT h' (Nat.lt_of_succ_lt_succ h2)
theorem ab3:iH X "list.index" (fun x vs H Q=> ∃(l:Addr) (y:Str) (ts:List Str),x= .ref l∧vs=[.str y]∧aM X.K H l (ts.map V.str)∧y∈ts∧Q (.int (ts.idxOf y:Nat)) H):=by
 intro pins s σ H x vs v us Q I rx rv h
 obtain⟨l,y,ts,rfl,rfl,hq,hy,q⟩:=h
 cases rx
 obtain⟨u,rfl,⟨t,rfl⟩⟩:=vals1 rv
 obtain⟨its,r,⟨⟨cls,dd,data,sl⟩,n,ho,hc,OU,hd⟩,hz⟩:=I.list hq
 simp only at hc hd
 subst hc hd
 have hlen:=r.length
 rw[List.length_map] at hlen hz
 have hj:ts.idxOf y<ts.length:=List.idxOf_lt_length_iff.mpr hy
 have hn:=jY
 refine call_meets PySem.F.slot_list_index ⟨_,ho,rfl⟩ PySem.F.entry_list_index (PySem.F.args_list_index_2 _ _)
  (PySem.SeqAt.list_indexAt l its.toArray n dd sl (.str y t) (Value.isStrOf y) (ts.idxOf y) (by simp;omega) (by omega) ?_ ?_) ⟨ho,fun z iQ=> ?_,⟨.int _,H,I.tok _,⟨_,rfl⟩,q⟩⟩
 ·show Value.isStrOf y its[ts.idxOf y]=true
  rw[vC y r _ (by omega) hj]
  simpa using List.getElem_idxOf hj
 ·intro j zW bC
  show Value.isStrOf y its[j]=false
  rw[vC y r j (by simpa using zW) (by omega)]
  exact OT bC _
 ·have hm:z∈its:=by simpa using iQ
  obtain⟨j,vD,rfl⟩:=List.getElem_of_mem hm
  have OV:j<ts.length:=by omega
  have e:=vC y r j vD OV
  obtain⟨k,ek⟩:=(r.get (i:=j) (x:= .str ts[j]) (by simp[OV]))
  obtain⟨ek1,k2,ek2⟩:=ek
  have ek3:its[j]= .str ts[j] k2:=by
   have:=List.getElem?_eq_getElem vD
   rw[ek1] at this
   exact(Option.some.inj this).symm.trans ek2
  rw[e,ek3]
  exact PySem.SeqAt.EqAt.str_str _ _ _ _
theorem OW{x:V}: ∀{xs:List V} {us:List Value},Vals xs us→xs.all dQ=true→us.countP (dy x)=xs.countP fun y=>d0 y x
 | _,_, .nil,_=>rfl
 | y::xs,u::us, .cons r t,f=>by
  rw[List.all_cons,Bool.and_eq_true] at f
  rw[List.countP_cons,List.countP_cons,uU r f.1,OW t f.2]
theorem ab7:iH X "list.count" (fun x vs H Q=> ∃(l:Addr) (y:V) (xs:List V),x= .ref l∧vs=[y]∧aM X.K H l xs∧dQ y=true∧xs.all dQ=true∧Q (.int (xs.countP (fun z=>d0 z y):Nat)) H):=by
 intro pins s σ H x vs v us Q I rx rv h
 obtain⟨l,y,xs,rfl,rfl,hq,fy,fs,q⟩:=h
 cases rx
 obtain⟨u,rfl,ru⟩:=vals1 rv
 obtain⟨its,r,⟨⟨cls,dd,data,sl⟩,n,ho,hc,OU,hd⟩,hz⟩:=I.list hq
 simp only at hc hd
 subst hc hd
 rw[←OW r fs] at q
 exact call_meets PySem.F.slot_list_count ⟨_,ho,rfl⟩ PySem.F.entry_list_count (PySem.F.args_list_count_2 _ _)
  (PySem.SeqAt.list_countAt l its.toArray n dd sl u (dy y)) ⟨ho,fun z iQ=>lN ru fy r fs z (by simpa using iQ),⟨.int _,H,I.tok _,⟨_,rfl⟩,q⟩⟩
theorem ab8:iH X "list.index" (fun x vs H Q=> ∃(l:Addr) (y:V) (xs:List V),x= .ref l∧vs=[y]∧aM X.K H l xs∧dQ y=true∧xs.all dQ=true∧d5 y xs=true∧Q (.int (xs.findIdx (fun z=>d0 z y):Nat)) H):=by
 intro pins s σ H x vs v us Q I rx rv h
 obtain⟨l,y,xs,rfl,rfl,hq,fy,fs,pA,q⟩:=h
 cases rx
 obtain⟨u,rfl,ru⟩:=vals1 rv
 obtain⟨its,r,⟨⟨cls,dd,data,sl⟩,n,ho,hc,OU,hd⟩,hz⟩:=I.list hq
 simp only at hc hd
 subst hc hd
 have hlen:=r.length
 have e: ∀j (h1:j<its.length) (h2:j<xs.length),dy y its[j]=d0 xs[j] y:=fun j h1 h2=>by
  obtain⟨w,e1,r1⟩:=r.get (i:=j) (x:=xs[j]) (by simp[h2])
  have e2:=List.getElem?_eq_getElem h1
  rw[e1] at e2
  rw[←Option.some.inj e2]
  exact uU r1 (List.all_eq_true.mp fs _ (List.getElem_mem h2))
 have hj:xs.findIdx (fun z=>d0 z y) <xs.length:=List.findIdx_lt_length.mpr (List.any_eq_true.mp pA)
 have hn:=jY
 refine call_meets PySem.F.slot_list_index ⟨_,ho,rfl⟩ PySem.F.entry_list_index (PySem.F.args_list_index_2 _ _)
  (PySem.SeqAt.list_indexAt l its.toArray n dd sl u (dy y) (xs.findIdx fun z=>d0 z y) (by simp;omega) (by omega) ?_ ?_) ⟨ho,fun z iQ=>lN ru fy r fs z (by simpa using iQ),⟨.int _,H,I.tok _,⟨_,rfl⟩,q⟩⟩
 ·show dy y its[xs.findIdx fun z=>d0 z y]=true
  rw[e _ (by omega) hj]
  exact List.findIdx_getElem (w:=hj)
 ·intro j zW bC
  show dy y its[j]=false
  rw[e j (by simpa using zW) (by omega)]
  simpa using List.not_of_lt_findIdx bC
theorem ab9(m:g7): ∃id,abY X m id:=by
 cases m with
 | append=>exact⟨_,F.plainAttrs_list,F.slot_list_append,F.type_list_append,fun pins s σ H x xs v us Q I rx rv h=>by
   cases x<;> (try exact False.elim h) <;>rcases xs with _ | ⟨y0,_ | ⟨_,_⟩⟩ <;> (try exact False.elim h)
   obtain⟨zs,h1,h2,h3⟩:=h
   exact Zy pins s σ H _ _ v us Q I rx rv ⟨_,zs,_,rfl,rfl,h1,h2,h3⟩⟩
 | pop=>exact⟨_,F.plainAttrs_list,F.slot_list_pop,F.type_list_pop,fun pins s σ H x xs v us Q I rx rv h=>by
   cases x<;> (try exact False.elim h) <;>rcases xs with _ | ⟨_,_⟩ <;> (try exact False.elim h)
   obtain⟨zs,y,h1,h2,h3⟩:=h
   exact ZD pins s σ H _ _ v us Q I rx rv ⟨_,zs,y,rfl,rfl,h1,h2,h3⟩⟩
 | extend=>exact⟨_,F.plainAttrs_list,F.slot_list_extend,F.type_list_extend,fun pins s σ H x xs v us Q I rx rv h=>by
   cases x<;> (try exact False.elim h) <;>rcases xs with _ | ⟨y0,_ | ⟨_,_⟩⟩ <;> (try exact False.elim h) <;>cases y0<;> (try exact False.elim h)
   obtain⟨ys,zs,h1,h2,h3,h4⟩:=h
   exact ZA pins s σ H _ _ v us Q I rx rv ⟨_,_,ys,zs,rfl,rfl,h1,h2,h3,h4⟩⟩
 | join=>exact⟨_,F.plainAttrs_str,F.slot_str_join,F.type_str_join,fun pins s σ H x xs v us Q I rx rv h=>by
   cases x<;> (try exact False.elim h) <;>rcases xs with _ | ⟨y0,_ | ⟨_,_⟩⟩ <;> (try exact False.elim h) <;>cases y0<;> (try exact False.elim h)
   obtain⟨ts,h1,h2,h3⟩:=h
   exact aaS pins s σ H _ _ v us Q I rx rv ⟨_,_,ts,rfl,rfl,h1,h2,h3⟩⟩
 | lstrip=>exact⟨_,F.plainAttrs_str,F.slot_str_lstrip,F.type_str_lstrip,fun pins s σ H x xs v us Q I rx rv h=>by
   cases x<;> (try exact False.elim h) <;>rcases xs with _ | ⟨y0,_ | ⟨_,_⟩⟩ <;> (try exact False.elim h) <;>cases y0<;> (try exact False.elim h)
   obtain⟨h1,h2⟩:=h
   exact aaU pins s σ H _ _ v us Q I rx rv ⟨_,_,rfl,rfl,h1,h2⟩⟩
 | starts=>exact⟨_,F.plainAttrs_str,F.slot_str_startswith,F.type_str_startswith,fun pins s σ H x xs v us Q I rx rv h=>by
   cases x<;> (try exact False.elim h) <;>rcases xs with _ | ⟨y0,_ | ⟨y1,_ | ⟨_,_⟩⟩⟩ <;> (try exact False.elim h) <;>cases y0<;> (try exact False.elim h) <;>cases y1<;> (try exact False.elim h)
   exact aaW pins s σ H _ _ v us Q I rx rv ⟨_,_,_,rfl,rfl,h⟩⟩
 | find=>exact⟨_,F.plainAttrs_str,F.slot_str_find,F.type_str_find,fun pins s σ H x xs v us Q I rx rv h=>by
   match x,xs,h with
   | .str z,[.str y],h1=>
    obtain⟨t,rfl⟩:=rx
    obtain⟨u,rfl,⟨t2,rfl⟩⟩:=vals1 rv
    exact call_gives F.slot_str_find (typeIs_str _ _ _) F.entry_str_find (F.args_str_find_2 _ _) (gives_str_find z y t t2) ⟨.int _,H,I.tok _,⟨_,rfl⟩,h1⟩
   | .str z,[.str y, .int i],h1=>
    obtain⟨t,rfl⟩:=rx
    obtain⟨u,w',rfl,⟨t2,rfl⟩,⟨t3,rfl⟩⟩:=vals2 rv
    exact call_gives F.slot_str_find (typeIs_str _ _ _) F.entry_str_find (F.args_str_find_3 _ _ _) (gives_str_find_from z y i t t2 t3) ⟨.int _,H,I.tok _,⟨_,rfl⟩,h1⟩⟩
 | count=>exact⟨_,F.plainAttrs_str,F.slot_str_count,F.type_str_count,fun pins s σ H x xs v us Q I rx rv h=>by
   match x,xs,h with
   | .str z,[.str y],h1=>
    obtain⟨t,rfl⟩:=rx
    obtain⟨u,rfl,⟨t2,rfl⟩⟩:=vals1 rv
    exact call_gives F.slot_str_count (typeIs_str _ _ _) F.entry_str_count (F.args_str_count_2 _ _) (gives_str_count z y t t2) ⟨.int _,H,I.tok _,⟨_,rfl⟩,h1⟩⟩
 | reverse=>exact⟨_,F.plainAttrs_list,F.slot_list_reverse,F.type_list_reverse,fun pins s σ H x xs v us Q I rx rv h=>by
   cases x<;> (try exact False.elim h) <;>rcases xs with _ | ⟨_,_⟩ <;> (try exact False.elim h)
   obtain⟨zs,h1,h2⟩:=h
   exact ZF pins s σ H _ _ v us Q I rx rv ⟨_,zs,rfl,rfl,h1,h2⟩⟩
 | index=>exact⟨_,F.plainAttrs_list,F.slot_list_index,F.type_list_index,fun pins s σ H x xs v us Q I rx rv h=>by
   cases x<;> (try exact False.elim h) <;>rcases xs with _ | ⟨y0,_ | ⟨_,_⟩⟩ <;> (try exact False.elim h) <;>cases y0<;> (try exact False.elim h)
   obtain⟨ts,h1,h2,h3⟩:=h
   exact ab3 pins s σ H _ _ v us Q I rx rv ⟨_,_,ts,rfl,rfl,h1,h2,h3⟩⟩
 | zq=>exact⟨_,F.plainAttrs_list,F.slot_list_count,F.type_list_count,fun pins s σ H x xs v us Q I rx rv h=>by
   cases x<;> (try exact False.elim h) <;>rcases xs with _ | ⟨y0,_ | ⟨_,_⟩⟩ <;> (try exact False.elim h)
   obtain⟨zs,h1,h2,h3,h4⟩:=h
   exact ab7 pins s σ H _ _ v us Q I rx rv ⟨_,_,zs,rfl,rfl,h1,h2,h3,h4⟩⟩
 | zr=>exact⟨_,F.plainAttrs_list,F.slot_list_index,F.type_list_index,fun pins s σ H x xs v us Q I rx rv h=>by
   cases x<;> (try exact False.elim h) <;>rcases xs with _ | ⟨y0,_ | ⟨_,_⟩⟩ <;> (try exact False.elim h)
   obtain⟨zs,h1,h2,h3,h4,h5⟩:=h
   exact ab8 pins s σ H _ _ v us Q I rx rv ⟨_,_,zs,rfl,rfl,h1,h2,h3,h4,h5⟩⟩
 | clear=>exact⟨_,F.plainAttrs_list,F.slot_list_clear,F.type_list_clear,fun pins s σ H x xs v us Q I rx rv h=>by
   cases x<;> (try exact False.elim h) <;>rcases xs with _ | ⟨_,_⟩ <;> (try exact False.elim h)
   obtain⟨zs,h1,h2⟩:=h
   exact ZH pins s σ H _ _ v us Q I rx rv ⟨_,zs,rfl,rfl,h1,h2⟩⟩
theorem ab_{pins:List (Addr×Obj)}{σ:St}{H:Hp}{s:Shared}{T:Ty}{x:V}{u:Value}{Qb:Bool→Prop}{Q:Value→Shared→Prop}{E:Value→Shared→Prop}(I:Inv X pins σ H s)(rx:RelV x u)(h:bV T x H Qb)
  (hq: ∀b tk,Qb b→Q (.bool b) {s with toks:=tk}):wpAny (model X.prog X.w) X.A (call (.builtin "isinstance") [u, .type T.nm]) Q E s:=by
 match x,rx,h with
 | .az,rx,h=>exact je I rx (.az) (aaQ _ T) fun tk=>hq _ _ h
 | .bl b,rx,h=>exact je I rx (.bl b) (kd X.K .bool T) fun tk=>hq _ _ (by cases T<;>exact h)
 | .int i,rx,h=>exact je I rx (.int i) (kd X.K .int T) fun tk=>hq _ _ (by cases T<;>exact h)
 | .str i,rx,h=>exact je I rx (.str i) (kd X.K .str T) fun tk=>hq _ _ (by cases T<;>exact h)
 | .ref a,rx,h=>
  cases e:H a with
  | none=>simp only[bV,e] at h
  | some o=>
   match o,e with
   | .lst xs,e=>simp only[bV,e] at h;exact je I rx (.lst e) (kd X.K .list T) fun tk=>hq _ _ (by cases T<;>exact h)
   | .b6 ob (.lst xs),e=>simp only[bV,e] at h;exact je I rx (.b6 e) (kd X.K .list T) fun tk=>hq _ _ (by cases T<;>exact h)
   | .tup xs,e=>simp only[bV,e] at h;exact je I rx (.tup e) (kd X.K .tuple T) fun tk=>hq _ _ (by cases T<;>exact h)
   | .dK xs,e=>simp only[bV,e] at h;exact je I rx (.dK e) (kd X.K .dict T) fun tk=>hq _ _ (by cases T<;>exact h)
   | .dT xs,e=>simp only[bV,e] at h;exact je I rx (.dT e) (kd X.K .dict T) fun tk=>hq _ _ (by cases T<;>exact h)
   | .set _ _,e=>simp only[bV,e] at h
   | .ins _ _ _,e=>simp only[bV,e] at h
   | .own _,e=>simp only[bV,e] at h
   | .xd _,e=>simp only[bV,e] at h
   | .met _ _,e=>simp only[bV,e] at h
   | .fQ _ _,e=>simp only[bV,e] at h
   | .iB _,e=>simp only[bV,e] at h
   | .ext _,e=>simp only[bV,e] at h
   | .b6 ob (.tup xs),e=>simp only[bV,e] at h
   | .b6 ob (.dK xs),e=>simp only[bV,e] at h
   | .b6 ob (.dT xs),e=>simp only[bV,e] at h
   | .b6 ob (.set _ _),e=>simp only[bV,e] at h
   | .b6 ob (.ins _ _ _),e=>simp only[bV,e] at h
   | .b6 ob (.own _),e=>simp only[bV,e] at h
   | .b6 ob (.xd _),e=>simp only[bV,e] at h
   | .b6 ob (.met _ _),e=>simp only[bV,e] at h
   | .b6 ob (.fQ _ _),e=>simp only[bV,e] at h
   | .b6 ob (.iB _),e=>simp only[bV,e] at h
   | .b6 ob (.ext _),e=>simp only[bV,e] at h
   | .b6 ob (.b6 _ _),e=>simp only[bV,e] at h
theorem aca(T:Ty):bootBuiltins (Str.ofString T.nm)=some (.type T.nm):=by cases T<;>decide+kernel
theorem acb(T:Ty):b9 X (.builtin "isinstance") (ke T):=by
 intro pins s σ H xs us Q I r h
 match xs,r,h with
 | [x, .ty n],r,⟨e,h⟩=>
  subst e
  obtain⟨u,w',rfl,ru,lM⟩:=vals2 r
  cases lM
  exact ab_ I ru h fun b tk hb=> ⟨.bl b,H,I.tok tk,rfl,hb⟩
theorem acd{T:Ty}{a:Expr}{ta:TE}{p q pos:Pos}(ha:PE X a ta)(hs:noStar a=true)(hg:Gl X "isinstance")(hm:X.mg "isinstance"=none)(hgT:Gl X (Str.ofString T.nm))(hmT:X.mg (Str.ofString T.nm)=none):
  PE X (.Call (.Name "isinstance" p) [a, .Name (Str.ofString T.nm) q] [] pos) (dq (ke T) (dm ta (dm (tC (.ty T.nm)) gY))):=by
 have hT:PE X (.Name (Str.ofString T.nm) q) (tC (.ty T.nm)):=Xs hgT hmT (aca T) rfl (by cases T<;>decide) (by cases T<;>decide)
 exact uO (acb T) hg hm abP (lJ ha (lJ hT qN rfl) (di hs)) (by decide) (by decide) (di hs) rfl
end
section
variable {X:Cx}
theorem acg:uT X (rA X.K):=by
 intro pins s σ H x v vl vu lo hi sl Q I rx hs pl pu h
 match x,rx,h with
 | .ref a,rx, .inl ⟨xs,h1,h2⟩=>exact Zk pins s σ H _ v vl vu lo hi sl Q I rx hs pl pu ⟨a,xs,rfl,h1,h2⟩
 | .ref a,rx, .inr ⟨xs,h1,h2,h3⟩=>exact Za pins s σ H _ v vl vu lo hi sl Q I rx hs pl pu ⟨a,xs,rfl,h1,h2,h3⟩
 | .str z,rx,⟨h1,h2⟩=>
  obtain⟨t,rfl⟩:=rx
  obtain⟨l,el,ml⟩: ∃l:Option (Int×Tok),vl=partValue l∧l.map (·.1)=lo:=by
   cases pl with
   | none=>exact⟨none,rfl,rfl⟩
   | int i t=>exact⟨some (i,t),rfl,rfl⟩
  obtain⟨u,eu,mu⟩: ∃u:Option (Int×Tok),vu=partValue u∧u.map (·.1)=hi:=by
   cases pu with
   | none=>exact⟨none,rfl,rfl⟩
   | int i t=>exact⟨some (i,t),rfl,rfl⟩
  subst el eu
  refine⟨"str",_,F.slot_str_getitem.lookup,typeIs_str _ _ _, ?_⟩
  refine wpAny_getItem_str_slice (l:=l) (u:=u) (st:=none) hs rfl ?_
  obtain⟨b1,b2,b3⟩:=yP lo hi z.length
  have hp:slicePicked z l u none=(List.range (HT.bG z.length z.length hi - HT.bG z.length 0 lo)).map (HT.bG z.length 0 lo+ ·):=by
   show Builtin.Str.strSliceIndices (l.map (·.1)) (u.map (·.1)) 1 z.length=_
   rw[ml,mu]
   have e0:Builtin.Str.strSliceIndices lo hi 1 z.length=sliceRange (sliceBounds lo hi none z.length).1 (sliceBounds lo hi none z.length).2.1 (sliceBounds lo hi none z.length).2.2:=rfl
   rw[e0,b1,b2,b3,sliceRange_one]
  have hc:((slicePicked z l u none).filterMap (z.cps[·]?))=iL z.cps.toList lo hi:=by
   show(Builtin.Str.strSliceIndices (l.map (·.1)) (u.map (·.1)) 1 z.length).filterMap (z.cps[·]?)=_
   rw[ml,mu,aaX]
  have hz:z.cps.toList.length=z.length:=by simp[Str.length]
  have hA:=HT.yK z.length 0 (zqZ _) lo
  have hB:=HT.yK z.length z.length (zqR _) hi
  unfold sliceMade
  refine post_val_or_made (fun _=> ?_) fun t' k=> ?_
  ·show(List.toArray ((slicePicked z l u none).filterMap (z.cps[·]?))).size≤sizeLine
   rw[hc,List.size_toArray]
   have:(iL z.cps.toList lo hi).length≤z.cps.toList.length:=by unfold iL;simp only[List.length_take,List.length_drop];omega
   omega
  ·have e:(if (((none:Option (Int×Tok)).map (·.1)).getD 1==1 && (slicePicked z l u none).length==z.length)=true then z else ⟨((slicePicked z l u none).filterMap (z.cps[·]?)).toArray⟩)=g6 z lo hi:=by
    split
    ·rename_i hq
     simp only[Bool.and_eq_true,beq_iff_eq] at hq
     have gw:=hq.2
     rw[hp,List.length_map,List.length_range] at gw
     have a0:HT.bG z.length 0 lo=0:=by omega
     have b0:HT.bG z.length z.length hi=z.length:=by omega
     unfold g6 iL
     rw[hz,a0,b0,←hz,Nat.sub_zero,List.drop_zero,List.take_length]
    ·rw[hc];rfl
   rw[e]
   exact⟨.str _,H,I.tok k,⟨t',rfl⟩,h2⟩
theorem ach:uI X (unaryOp .USub) Ol:=by
 intro pins s σ H x v Q I rx h
 match x,rx,h with
 | .int i,rx,h=>exact X9 pins s σ H _ v Q I rx ⟨i,rfl,h⟩
theorem aci{a:Expr}{ta:TE}{pos:Pos}(ha:PE X a ta):PE X (.UnaryOp .Not a pos) (zu X.K ta):=by
 intro pins s σ H Q I h
 refine UnaryOp_ (bf (ha pins s σ H _ I h) fun v s1 ⟨x,H1,I1,r1,q1⟩=>not_of ?_)
 exact bf (MU pins s1 σ H1 x v (fun b H2=>Q (.bl (!b)) H2) I1 r1 (Oj q1)) fun b s2 ⟨H2,I2,q2⟩=> ⟨.bl (!b),H2,I2,rfl,q2⟩
theorem rO{a:Expr}{ta:TE}(ha:PE X a ta)(he: ∀whole,isTrue a X.env whole=(do let v ←whole;standAt a.pos;holding [v] (truthy v))):PT X a (ee X.K ta):=by
 intro pins s σ H Q I h
 exact isTrue_plain (bf (ha pins s σ H _ I h) fun v s1 ⟨x,H1,I1,r1,q1⟩=>MU pins s1 σ H1 x v Q I1 r1 (Oj q1)) (he _)
theorem acj{m:g7}{o e:Expr}{es:List Expr}{to:TE}{t:TA}{apos dG:Pos}(ho:PE X o to)(ha:PA X (e::es) t)(hb:lX o=true)(hl:(apos.endLine==dG.line)=true)(hn:(e::es).length<29)
  (hs:starEach (e::es) X.env=(false,eval e X.env)::starEach es X.env) (h1:(backTo dG (starEach es X.env)).any (·.1)=false) (h2:(backTo dG (starEach (e::es) X.env)).all (fun x=> !x.1)=true):
  PE X (.Call (.Attribute o m.nm apos) (e::es) [] dG) (vo X.K m to t):=by
 obtain⟨id,M⟩:=ab9 (X:=X) m
 exact yR M.pa M.slot M.ty M.mt ho ha (j_ hb) (by
  rw[h2]
  show(true && true && decide ((e::es).length+0+0<30))=true
  rw[zqT (by omega)];rfl) hl hs h1
end
section
variable {X:Cx} {CX:aG}
theorem OX{o:Expr}{m:Str}{apos pos:Pos}{args:List Expr}{Q:Value→Shared→Prop}{E:Value→Shared→Prop}{A:Around}{s:Shared}{env:Env}{prog:Program}{w:World}
  (hb:lX o=true) (hl:(apos.endLine==pos.line)=true) (hn:args.length<29) (hf:(backTo pos (starEach args env)).all (fun x=> !x.1)=true)
  (h:wpAny (model prog w) A (eval o env) (fun ov s1=> ∀pl,wpAny (model prog w) A (getMethod ov m pl) (fun fx s2=>wpAny (model prog w) A (callWith pos fx.1 fx.2 (backTo pos (starEach args env)) (backToKw pos (keywordEach [] env))) Q E s2) E s1) E s):
  wpAny (model prog w) A (eval (.Call (.Attribute o m apos) args [] pos) env) Q E s:=by
 have ack:methodCallForm (args.length+0) (backTo pos (starEach args env)) (backToKw pos (keywordEach [] env))=true:=by
  show((backTo pos (starEach args env)).all (fun x=> !x.1) && true && decide (args.length+0+0<30))=true
  rw[hf,zqT (by omega)];rfl
 have line:methodCallPos true o env apos pos=pure pos:=by unfold methodCallPos;simp[hl]
 rw[arm_eval_Call,j_ hb]
 refine wpAny_bind (wpAny_mono h (fun ov s1 h1=>wpAny_bind (wpAny_standAt ?_)) fun _ _ e=>e)
 unfold methodCall
 rw[show([]:List Keyword).length=0 from rfl,ack]
 refine wpAny_bind (wpAny_holding (wpAny_mono (h1 _) (fun fx s2 h2=> ?_) fun _ _ e=>e))
 exact wpAny_bind (wpAny_of_eq line h2)
theorem acm{o e:Expr}{es:List Expr}{to:TE}{t:TA}{apos pos:Pos}{C:Addr}{m:Str}{sp:Sp}{E:XK}(M:vw CX X C m sp)(hx:Passes CX X E)(ho:PE X o to)(ha:PA X (e::es) t)(hb:lX o=true)(hl:(apos.endLine==pos.line)=true)(hn:(e::es).length<29)
  (hs:starEach (e::es) X.env=(false,eval e X.env)::starEach es X.env) (h1:(backTo pos (starEach es X.env)).any (·.1)=false) (h2:(backTo pos (starEach (e::es) X.env)).all (fun x=> !x.1)=true):
  PE X (.Call (.Attribute o m apos) (e::es) [] pos) (lK C m sp [] E to t):=by
 obtain⟨c,k,f,fd,ps,hm,F,hr,zX⟩:=M
 intro pins s σ H Q I h
 refine OX hb hl hn h2 (bf (ho pins s σ H _ I h) fun u s1 ⟨x,H1,I1,rx,a,dx,fs,ex,ea,l,q⟩=>fun pl=> ?_)
 subst ex
 obtain rfl:u=Value.ref a:=rx
 refine MZ I1 ea c hm l ?_
 refine callWith_K (first:=[.ref a]) (h₀:=X.base) I.ok.mod.qG hm.kp (bf (ha pos pins s1 σ H1 _ I1 q) fun us s2 ⟨vs,H2,I2,r,q2⟩=> ⟨I2.cC, ?_⟩) hs h1
 exact yJ (us:= .ref a::us) (vs:= .ref a::vs) F hr zX .nil hx I2 (.cons rfl r) q2
theorem acn{o:Expr}{to:TE}{apos pos:Pos}{C:Addr}{m:Str}{sp:Sp}{E:XK}(M:vw CX X C m sp)(hx:Passes CX X E)(ho:PE X o to)(hb:lX o=true)(hl:(apos.endLine==pos.line)=true):
  PE X (.Call (.Attribute o m apos) [] [] pos) (lK C m sp [] E to gY):=by
 obtain⟨c,k,f,fd,ps,hm,F,hr,zX⟩:=M
 intro pins s σ H Q I h
 refine OX hb hl (by decide) rfl (bf (ho pins s σ H _ I h) fun u s1 ⟨x,H1,I1,rx,a,dx,fs,ex,ea,l,q⟩=>fun pl=> ?_)
 subst ex
 obtain rfl:u=Value.ref a:=rx
 refine MZ I1 ea c hm l ?_
 exact callWith_K0 (first:=[.ref a]) I1.cC hm.kp (yJ (us:=[.ref a]) (vs:=[.ref a]) F hr zX .nil hx I1 (.cons rfl .nil) q)
end
section
variable {prog:Program} {w:World} {A:Around} {E:Value→Shared→Prop} {s:Shared}
theorem OY{it l:Addr}{items:Array Value}(kh:l≠it): ∀(n i:Nat) (s:Shared) (Q:List Value→Shared→Prop),s.heap.IsListIter it l i→s.heap.IsList l items→i+n≤items.size→
  (∀h',h'.IsListIter it l (i+n)→Heap.SameBut it s.heap h'→Q ((items.toList.drop i).take n) {s with heap:=h'})→wpAny (model prog w) A (draw (.ref it) n) Q E s
 | 0,i,s,Q,hit,_,_,hQ=>by
  show wpAny _ _ (pure []) Q E s
  exact wpAny_pure (by simpa using hQ s.heap hit (Heap.SameBut.refl ..))
 | n+1,i,s,Q,hit,ht,hle,hQ=>by
  have bC:i<items.size:=by omega
  show wpAny _ _ (pyNext (.ref it) >>=_) Q E s
  refine wpAny_bind (wpAny_pyNext_list_item hit ht (x:=items[i]) (by simp[bC]) fun h₁ zY rP=> ?_)
  refine wpAny_bind (wpAny_holding (OY kh n (i+1) _ _ zY (ht.extBut rP.extBut kh) (by omega) fun h₂ aco hs₂=>wpAny_pure ?_))
  have hd:items.toList.drop i=items[i]::items.toList.drop (i+1):=by simp[List.drop_eq_getElem_cons,bC]
  have:=hQ h₂ (by rw[show i+ (n+1)=i+1+n by omega];exact aco) (rP.trans hs₂)
  rw[hd,List.take_succ_cons] at this
  exact this
theorem acq{t:Addr}{items:Array Value}{Q:List Value→Shared→Prop}(hh:A.handled=none)(ht:s.heap.IsList t items)
  (hQ: ∀h',Heap.ExtBut s.heap.objs.size s.heap h'→Q items.toList {s with heap:=h'}):wpAny (model prog w) A (unpackItems (.ref t) items.size none) Q E s:=by
 have bC:t≠s.heap.objs.size:=by obtain⟨o,ho,_⟩:=ht;exact Nat.ne_of_lt (Heap.lt_size ho)
 unfold unpackItems
 refine wpAny_bind ?_
 ·unfold notIterableAtAll
  refine wpAny_bind (wpAny_specialOf ht.typeIs slot_list_iter.lookup ?_)
  refine wpAny_pure ?_
  simp only[Bool.false_eq_true,if_false]
  refine wpAny_bind (wpAny_holding (wpAny_pyIter_list ht ?_))
  refine wpAny_bind (wpAny_holding (OY bC items.size 0 _ _ ⟨_,Heap.get?_push_size _ rfl,rfl,rfl⟩ (ht.push _) (by omega) fun h₁ zY rP=> ?_))
  have yU:List.take items.size (List.drop 0 items.toList)=items.toList:=by
   rw[List.drop_zero];exact List.take_of_length_le (by simp)
  rw[yU]
  rw[if_neg (by simp)]
  have ht₁:h₁.IsList t items:=(ht.push _).extBut rP.extBut bC
  refine wpAny_bind (wpAny_holding (wpAny_pyNext_list_end hh zY ht₁ (by simp) fun h₂ he₂=> ?_))
  simp only[Option.isSome_none,Bool.false_eq_true,if_false]
  refine wpAny_pure (hQ h₂ fun b o hb e=>he₂ b o hb (rP.extBut b o hb (Heap.get?_push_of_some _ e)))
theorem acu{env:Env}{elts:List Expr}{x1}{pos:Pos}{t:Addr}{items:Array Value}{Q:Unit→Shared→Prop}(hh:A.handled=none)(ht:s.heap.IsList t items)
  (hn:(assignEach elts env).length=items.size) (acv:(assignEach elts env).findIdx? (·.1)=none)
  (h: ∀h',Heap.ExtBut s.heap.objs.size s.heap h'→wpAny (model prog w) A (assignInOrder ((assignEach elts env).map (·.2)) items.toList) Q E {s with heap:=h'}):
  wpAny (model prog w) A (assign (.Tuple elts x1 pos) env (.ref t)) Q E s:=by
 rw[assign_Tuple]
 refine wpAny_bind (wpAny_standAt ?_)
 unfold unpack
 rw[hn,acv]
 exact wpAny_bind (wpAny_holding (acq hh ht h))
end
def ju(K:Frag)(n:Nat)(t:iD):TG:=fun v σ H Q=> ∃a xs,v= .ref a∧(bo K H a xs∨aM K H a xs)∧xs.length=n∧t xs σ H Q
theorem OZ{X:Cx}{es:List Expr}{k:Nat}{t:iD}{n:Nat}{pos:Pos}(hc:X.calm=true)(h:pb X es t)
  (hn:(assignEach es X.env).length=n) (pd:(assignEach es X.env).findIdx? (·.1)=none):PG X (.Tuple es k pos) (ju X.K n t):=by
 intro pins s σ H v u Q I r hw
 obtain⟨a,xs,e1,hq,hl,hw⟩:=hw
 rcases hq with hq | hq
 ·exact MC hc h hn pd pins s σ H v u Q I r ⟨a,xs,e1,hq,hl,hw⟩
 ·subst e1
  cases r
  obtain⟨its,rv,ht,hz⟩:=I.list hq
  refine acu (I.ok.hd hc) ht.isList (by simp[hn,←hl,rv.length]) pd fun h' hx=> ?_
  have I1:Inv X pins σ H {s with heap:=h'}:=I.kept (t':=s.toks) fun b o e=>hx b o (Nat.ne_of_lt (Heap.lt_size e)) e
  exact h pins _ σ H xs _ Q I1 (by simpa using rv) hw
def iR:List Nat→iD
 | []=>yu
 | i::r=>uE (dZ i) (iR r)
def gSl(to:TE)(tl th:TO):TG:=fun v σ H Q=>to σ H fun o H1=>tl σ H1 fun i H2=>th σ H2 fun j H3=> ∃l b xs ys a c,o= .ref l∧v= .ref b∧i=some a∧j=some c∧H3 l=some (.lst xs)∧H3 b=some (.lst ys)∧l≠b∧
 0≤a∧a≤c∧c≤xs.length∧xs.length+ys.length≤sizeLine∧Q σ (upd H3 l (.lst (xs.take a.toNat++ys++xs.drop c.toNat)))
mutual
def bB(Γ:aC):RS→TS
 | .asg i e=>gW (aj Γ e) (dZ i)
 | .vk i e=>gW (aj Γ e) (dZ i)
 | .set o ix e=>gW (aj Γ e) (MD (aj Γ o) (aj Γ ix) yO)
 | .dput o i e=>Z0 (aj Γ o) (aj Γ i) (aj Γ e)
 | .drop e=>Mw (aj Γ e)
 | .ret e=>Mx (aj Γ e)
 | .aa9=>XF
 | .ite c t e=>My (bE Γ c) (ar Γ t) (ar Γ e)
 | .iN i k its body=>uG (eS Γ k its) (dZ i) (ar Γ body)
 | .pw is k its body=>uG (eS Γ k its) (ju Γ.K is.length (iR is)) (ar Γ body)
 | .eR c body=>MF (bE Γ c) (ar Γ body)
 | .pass=>yr
 | .brk=>XB
 | .cont=>Mv
 | .never=>XH
 | .aa_ o lo hi e=>gW (aj Γ e) (gSl (aj Γ o) (uS (aj Γ lo)) (uS (aj Γ hi)))
 | .iO o f e=>yG Γ.K (aj Γ o) (aj Γ e) f
 | .rp is e=>gW (aj Γ e) (ju Γ.K is.length (iR is))
 | .d_ j as=>zp (Γ.ex j) Γ.E (bH Γ as)
 | .aba n i j body su=>fun D σ H=> ∃C,Γ.gv j= .ref C∧aa1 Γ.K C i n (fun E=>ar {Γ with E:=E} body) (fun ea=>ar {Γ with E:=E0,hv:=some ea} su) D σ H
def ar(Γ:aC):List RS→TS
 | []=>yr
 | s::r=>Mu (bB Γ s) (ar Γ r)
end
def zZ:Expr→Bool
 | .Slice ..=>false | _=>true
def rQ:Expr→Bool
 | .ListComp ..=>false | .SetComp ..=>false | .DictComp ..=>false | _=>true
def O0(sc:Scope)(x:Str)(line:Nat)(s:Scope)(p:Pos):Bool:=
 decide (sc.kind= .function) && decide (sc.names.lookup x=some .local) && (line==p.line) && !(s.names.any fun(n,k)=>n==x && (k== .local || k== .cell))
def lZ(N:List Str)(sc:Scope):List Nat→List Str→Bool
 | [],xs=>xs.isEmpty
 | i::r,xs=>match xs with
  | []=>false
  | x::t=>decide (N[i]?=some x) && loc sc x && lZ N sc r t
structure aL (CX:aG) (S:cZ) (Γ:aC) (X:Cx):Prop extends Good CX S Γ X where
 nd:S.N.Nodup
 vE: ∀x,X.fn x=true
 own:PassesOwn (model X.prog X.w) X.A X.env X.xe
 O1:X.env.scope.kind= .function
 rs: ∀(j:Nat) (x:Str),S.en[j]?=some x→Raises X Γ.E
 qH:X.stack=X.env::X.outer
 lY:X.env.frame=some X.env.locals
 exn:X.ex=[]
 hcx:CX=fF X.prog X.w
def qV(S:cZ)(i:Nat)(x:Str):Bool:=decide (S.N[i]?=some x) && zy S.sc x && !(x==("__debug__":Str)) && !(x==("__classdict__":Str))
def kG(S:cZ)(j:Nat)(x:Str):Bool:=decide (S.gn[j]?=some x) && kg S.sc x && !(x==("__debug__":Str))
def kF(S:cZ)(j:Nat)(x:Str):Bool:=decide (S.fn[j]?=some x) && kg S.sc x && !(x==("__debug__":Str))
def kK(S:cZ)(j:Nat)(x:Str):Bool:=decide (S.kn[j]?=some x) && kg S.sc x && !(x==("__debug__":Str))
def kB(S:cZ)(x y:Str):Bool:=decide (x=y) && kg S.sc x && S.bl.contains x
def kM(o:Expr)(m:Str)(x:Str)(n:Nat)(a c:Pos):Bool:=decide (x=m) && lX o && (a.endLine==c.line) && decide (n<29)
def kL(S:cZ)(i:Nat)(x:Str):Bool:=decide (S.N[i]?=some x) && loc S.sc x
section
variable {CX:aG} {S:cZ} {Γ:aC} {X:Cx} {e e2 a b c d:Expr} {es:List Expr} {x:Str} {p q pos:Pos} {r ra rb rc:RE} {rs:List RE} {i j:Nat}
theorem aa(G:Good CX S Γ X)(h:qV S i x=true:=by kernel_rfl):PE X (.Name x p) (aj Γ (.v i)):=by
 simp only[qV,Bool.and_eq_true,decide_eq_true_eq,Bool.not_eq_true'] at h
 exact Xn (by rw[G.N];exact h.1.1.1) (by rw[G.sc];exact abf h.1.1.2) h.1.2 h.2
theorem ak{v:Int}{k:Nat}:PE X (.Constant (.int v) k p) (aj Γ (.c (.int v))):=Xo
theorem aN{v:Str}{k:Nat}:PE X (.Constant (.str v) k p) (aj Γ (.c (.str v))):=Xr
theorem l_{v:Bool}{k:Nat}:PE X (.Constant (.bool v) k p) (aj Γ (.c (.bl v))):=Xp
theorem cJ{k:Nat}:PE X (.Constant .none k p) (aj Γ (.c .az)):=Xq
theorem jv(G:Good CX S Γ X)(h:kG S j x=true:=by kernel_rfl):PE X (.Name x p) (aj Γ (.g j)):=by
 simp only[kG,Bool.and_eq_true,decide_eq_true_eq,Bool.not_eq_true'] at h
 obtain⟨u,hm,r⟩:=G.vx j x h.1.1
 exact Mm (G.gl h.1.2) hm r h.2
theorem aD{op:Operator}(G:Good CX S Γ X)(ha:PE X a (aj Γ ra))(hb:PE X b (aj Γ rb)):PE X (.BinOp a op b p) (aj Γ (.bin op ra rb)):=by
 show PE X _ (dN (kc Γ.K op) (aj Γ ra) (aj Γ rb))
 rw[←G.K]
 exact XZ (aaB op) ha hb
theorem pE(ha:PE X a (aj Γ ra)):PE X (.UnaryOp .USub a p) (aj Γ (.neg ra)):=X0 ach ha
theorem cP{op:CmpOp}(G:Good CX S Γ X)(ha:PE X a (aj Γ ra))(hb:PE X b (aj Γ rb))(hm:behindInMarks op b=false:=by kernel_rfl):PE X (.Compare a [op] [b] p) (aj Γ (.cmp op ra rb)):=by
 show PE X _ (dN (cn Γ.K op) (aj Γ ra) (aj Γ rb))
 rw[←G.K]
 exact Yl (pq G.units op) ha hb hm
theorem acz{op ck:CmpOp}(G:Good CX S Γ X)(ha:PE X a (aj Γ ra))(hb:PE X b (aj Γ rb))(hc:PE X c (aj Γ rc))(hm:lastMarks [op,ck] [b,c]=false:=by kernel_rfl):PE X (.Compare a [op,ck] [b,c] p) (aj Γ (.iM op ck ra rb rc)):=by
 show PE X _ (ph (cn Γ.K op) (cn Γ.K ck) (aj Γ ra) (aj Γ rb) (aj Γ rc))
 rw[←G.K]
 exact Yn (pq G.units op) (pq G.units ck) ha hb hc hm
theorem g_(h:PE X e (aj Γ r)):PE X (.BoolOp .And [e] p) (aj Γ (.and [r])):=Ms h
theorem fW{r2:RE}(h:PE X e (aj Γ r))(t:PE X (.BoolOp .And (e2::es) p) (aj Γ (.and (r2::rs)))):PE X (.BoolOp .And (e::e2::es) p) (aj Γ (.and (r::r2::rs))):=Xu h t
theorem z5(h:PE X e (aj Γ r)):PE X (.BoolOp .Or [e] p) (aj Γ (.or [r])):=Ms h
theorem z6{r2:RE}(h:PE X e (aj Γ r))(t:PE X (.BoolOp .Or (e2::es) p) (aj Γ (.or (r2::rs)))):PE X (.BoolOp .Or (e::e2::es) p) (aj Γ (.or (r::r2::rs))):=Xv h t
theorem z7(G:Good CX S Γ X)(ha:PE X a (aj Γ ra)):PE X (.UnaryOp .Not a p) (aj Γ (.not ra)):=by
 show PE X _ (zu Γ.K (aj Γ ra))
 rw[←G.K]
 exact aci ha
theorem hG(hc:PT X c (bE Γ rc))(ha:PE X a (aj Γ ra))(hb:PE X b (aj Γ rb)):PE X (.IfExp c a b p) (aj Γ (.fE rc ra rb)):=Xw hc ha hb
theorem ai:PA X [] (bH Γ []):=qN
theorem af(h:PE X e (aj Γ r))(t:PA X es (bH Γ rs))(hs:noStar e=true:=by kernel_rfl):PA X (e::es) (bH Γ (r::rs)):=lJ h t (di hs)
theorem aE(G:Good CX S Γ X)(hA:PA X (e::es) (bH Γ (r::rs)))(h:kF S j x=true:=by kernel_rfl)(hn:ef (e::es)=true:=by kernel_rfl)(hq:S.md=0:=by rfl):PE X (.Call (.Name x p) (e::es) [] pos) (aj Γ (.call j (r::rs))):=by
 simp only[kF,Bool.and_eq_true,decide_eq_true_eq,Bool.not_eq_true'] at h
 obtain⟨k,f,fd,ps,F,hr,hm,hk,hb⟩:=G.fns hq j x h.1.1
 exact YR F hr (G.gl h.1.2) hm hk hb .nil G.pass hA h.2 (di (cI hn).1) (fV _ _ es (cI hn).2)
theorem acA(G:Good CX S Γ X)(h:kK S j x=true:=by kernel_rfl)(hq:S.md=0:=by rfl):PE X (.Call (.Name x p) [] [] pos) (aj Γ (.make j [])):=by
 simp only[kK,Bool.and_eq_true,decide_eq_true_eq,Bool.not_eq_true'] at h
 obtain⟨k,f,fd,ps,M,F,hr,hm,hb⟩:=G.rM hq j x h.1.1
 exact YT M F hr (G.gl h.1.2) hm hb .nil G.pass h.2
theorem O2(G:Good CX S Γ X)(hA:PA X (e::es) (bH Γ (r::rs)))(h:kK S j x=true:=by kernel_rfl)(hn:ef (e::es)=true:=by kernel_rfl)(hq:S.md=0:=by rfl):PE X (.Call (.Name x p) (e::es) [] pos) (aj Γ (.make j (r::rs))):=by
 simp only[kK,Bool.and_eq_true,decide_eq_true_eq,Bool.not_eq_true'] at h
 obtain⟨k,f,fd,ps,M,F,hr,hm,hb⟩:=G.rM hq j x h.1.1
 exact YS M F hr (G.gl h.1.2) hm hb .nil G.pass hA h.2 (di (cI hn).1) (fV _ _ es (cI hn).2)
theorem bL{t:jn}(G:Good CX S Γ X)(hA:PA X (e::es) (bH Γ (r::rs)))(h:kB S x t.nm=true:=by kernel_rfl)(hn:ef (e::es)=true:=by kernel_rfl)(hq:S.md=0:=by rfl):PE X (.Call (.Name x p) (e::es) [] pos) (aj Γ (.blt t (r::rs))):=by
 simp only[kB,Bool.and_eq_true,decide_eq_true_eq] at h
 obtain⟨⟨rfl,h2⟩,h3⟩:=h
 have n1:t.nm≠"__name__":=by cases t<;>decide
 have n2:(t.nm==("__debug__":Str))=false:=by cases t<;>decide
 show PE X _ (dq (lV Γ.K t) (bH Γ (r::rs)))
 rw[←G.K]
 cases abX (X:=X) (G.calm hq) t with
 | fn id hv hc=>exact uO hc (G.gl h2) (G.gu _ h3) hv hA n1 n2 (di (cI hn).1) (fV _ _ es (cI hn).2)
 | ty T hv hc=>exact YY hc (G.gl h2) (G.gu _ h3) hv hA n1 n2 (di (cI hn).1) (fV _ _ es (cI hn).2)
theorem hJ{T:Ty}{y:Str}(G:Good CX S Γ X)(ha:PE X a (aj Γ ra))(h:kB S x "isinstance"=true:=by kernel_rfl)(h2:kB S y (Str.ofString T.nm)=true:=by kernel_rfl)(hs:noStar a=true:=by kernel_rfl):PE X (.Call (.Name x p) [a, .Name y q] [] pos) (aj Γ (.d9 T ra)):=by
 simp only[kB,Bool.and_eq_true,decide_eq_true_eq] at h h2
 obtain⟨⟨rfl,g2⟩,g3⟩:=h
 obtain⟨⟨rfl,k2⟩,k3⟩:=h2
 exact acd ha hs (G.gl g2) (G.gu _ g3) (G.gl k2) (G.gu _ k3)
theorem dz{m:g7}{o:Expr}{ro:RE}{ap:Pos}(G:Good CX S Γ X)(ho:PE X o (aj Γ ro))(hA:PA X (e::es) (bH Γ (r::rs)))(h:kM o m.nm x (es.length+1) ap pos=true:=by kernel_rfl)(hn:ef (e::es)=true:=by kernel_rfl):PE X (.Call (.Attribute o x ap) (e::es) [] pos) (aj Γ (.bZ m ro (r::rs))):=by
 simp only[kM,Bool.and_eq_true,decide_eq_true_eq] at h
 obtain⟨⟨⟨rfl,h2⟩,h3⟩,h4⟩:=h
 show PE X _ (vo Γ.K m (aj Γ ro) (bH Γ (r::rs)))
 rw[←G.K]
 exact acj ho hA h2 h3 h4 (di (cI hn).1) (fV _ _ es (cI hn).2) (rN _ _ (e::es) hn)
theorem cv{f:Str}{ro:RE}(G:Good CX S Γ X)(ho:PE X a (aj Γ ro))(h:lX a=true:=by kernel_rfl):PE X (.Attribute a f p) (aj Γ (.fld ro f)):=by
 show PE X _ (uN Γ.K (aj Γ ro) f)
 rw[←G.K]
 exact YJ ho (j_ h)
theorem fi{m:Str}{o:Expr}{ro:RE}{ap:Pos}(G:Good CX S Γ X)(ho:PE X o (aj Γ ro))(h:(kM o m m 0 ap pos && decide (S.mn[j]?=some m))=true:=by kernel_rfl)(hq:S.md=0:=by rfl):PE X (.Call (.Attribute o m ap) [] [] pos) (aj Γ (.bO j m ro [])):=by
 simp only[kM,Bool.and_eq_true,decide_eq_true_eq] at h
 obtain⟨⟨⟨⟨-,h2⟩,h3⟩, -⟩,h5⟩:=h
 exact acn (G.rK hq j _ h5) G.pass ho h2 h3
theorem dA{m:Str}{o:Expr}{ro:RE}{ap:Pos}(G:Good CX S Γ X)(ho:PE X o (aj Γ ro))(hA:PA X (e::es) (bH Γ (r::rs)))(h:(kM o m m (es.length+1) ap pos && decide (S.mn[j]?=some m))=true:=by kernel_rfl)(hn:ef (e::es)=true:=by kernel_rfl)(hq:S.md=0:=by rfl):PE X (.Call (.Attribute o m ap) (e::es) [] pos) (aj Γ (.bO j m ro (r::rs))):=by
 simp only[kM,Bool.and_eq_true,decide_eq_true_eq] at h
 obtain⟨⟨⟨⟨-,h2⟩,h3⟩,h4⟩,h5⟩:=h
 exact acm (G.rK hq j _ h5) G.pass ho hA h2 h3 h4 (di (cI hn).1) (fV _ _ es (cI hn).2) (rN _ _ (e::es) hn)
theorem acB(h:zZ b=true):Nn b:=fun o i=>by cases b<;>first | rfl | cases h
theorem aB(G:Good CX S Γ X)(ha:PE X a (aj Γ ra))(hb:PE X b (aj Γ rb))(h:zZ b=true:=by kernel_rfl):PE X (.Subscript a b p) (aj Γ (.ix ra rb)):=by
 show PE X _ (dN (jo Γ.K Γ.sd) (aj Γ ra) (aj Γ rb))
 rw[←G.K]
 exact Zc (ab2 G.vz) ha hb (acB h)
theorem ma{lo hi:Option Expr}{rl rh:Option RE}(G:Good CX S Γ X)(ha:PE X a (aj Γ ra))(hl:PO X lo (kf Γ rl))(hh:PO X hi (kf Γ rh)):PE X (.Subscript a (.Slice lo hi none q) p) (aj Γ (.sl ra rl rh)):=by
 show PE X _ (yL (rA Γ.K) (aj Γ ra) (kf Γ rl) (kf Γ rh))
 rw[←G.K]
 exact Y9 acg ha hl hh
theorem z_:PO X none (kf Γ none):=Y7
theorem hU(ha:PE X a (aj Γ ra)):PO X (some a) (kf Γ (some ra)):=Y8 ha
theorem cb{k}(hA:PA X es (bH Γ rs)):PE X (.Tuple es k p) (aj Γ (.tup rs)):=YN hA
theorem dt(hA:PA X es (bH Γ rs)):PE X (.List es p) (aj Γ (.lst rs)):=YO hA
def vF(CX:aG)(S:cZ)(Γ:aC)(cond:Option RE)(ifs:List Expr):Prop:=match cond with
 | none=>ifs=[]
 | some r=> ∃e0,ifs=[e0]∧ ∀X,Good CX S Γ X→PT X e0 (bE Γ r)
theorem rR:vF CX S Γ none []:=rfl
theorem Aa(h: ∀X,Good CX S Γ X→PT X e (bE Γ r)):vF CX S Γ (some r) [e]:=⟨e,rfl,h⟩
def kC(S:cZ)(tk:Option Nat)(tg iter:Expr)(sc:Scope)(k:IK)(ln:List Str)(fv:List (Str×Nat)):Bool:=decide (zB tk tg=some ln) && (decide (k≠ .zip) || tk.isSome) && zC S ⟨.Constant .none 0 ⟨0,0,0,0⟩,tg,iter,[],sc⟩ ln fv
abbrev cS(S:cZ)(sc:Scope)(ln:List Str)(fv:List (Str×Nat)):cZ:={S with N:=ln++fv.map (·.1),sc:=zA sc S.sc,en:=[],md:=if S.md=0 then 0 else 2}
theorem me{tk:Option Nat}{fv:List (Str×Nat)}{k:IK}{its:List RE}{cond:Option RE}{elt:RE}{el tg iter:Expr}{ifs:List Expr}{sc:Scope}{ln:List Str}(G:Good CX S Γ X)(h:kC S tk tg iter sc k ln fv=true)(hi:PI X tg iter (eS Γ k its))
  (hc:vF CX (cS S sc ln fv) Γ.calm cond ifs) (he: ∀X,Good CX (cS S sc ln fv) Γ.calm X→PE X el (aj Γ.calm elt)) (hq:S.md=0:=by rfl):PE X (.ListComp el [⟨tg,iter,ifs,0⟩] sc p) (aj Γ (.comp tk fv k its cond elt)):=by
 simp only[kC,Bool.and_eq_true,decide_eq_true_eq] at h
 obtain⟨⟨h1,h2⟩,h3⟩:=h
 obtain⟨o1,o2,o3,o4⟩:=OK (c:=⟨.Constant .none 0 ⟨0,0,0,0⟩,tg,iter,[],sc⟩) G h3
 show PE X _ (lR Γ.K (eS Γ k its) tk fv (zx Γ.calm cond) (aj Γ.calm elt))
 rw[←G.K]
 refine aau o1 (G.calm hq) hi (OL (c:=⟨.Constant .none 0 ⟨0,0,0,0⟩,tg,iter,[],sc⟩) (G.calm hq) h1 o2 o3) ?_ (fun ex C s H=>he _ (G.inner ⟨.Constant .none 0 ⟨0,0,0,0⟩,tg,iter,[],sc⟩ ln fv ex C s H)) (vB o4)
 cases cond with
 | none=>exact hc
 | some r=>
  obtain⟨e0,q,hq⟩:=hc
  exact⟨e0,q,fun ex C s H=>hq _ (G.inner ⟨.Constant .none 0 ⟨0,0,0,0⟩,tg,iter,[],sc⟩ ln fv ex C s H)⟩
theorem cQ(h:PT X a (bE Γ ra)):PT X (.UnaryOp .Not a p) (bE Γ (.not ra)):=Xt h
theorem iS(h:PT X e (bE Γ r)):PW X (.BoolOp .And [e] p) (bE Γ (.and [r])):=pw_and1 h
theorem gy{r2:RE}(h:PT X e (bE Γ r))(t:PW X (.BoolOp .And (e2::es) p) (bE Γ (.and (r2::rs)))):PW X (.BoolOp .And (e::e2::es) p) (bE Γ (.and (r::r2::rs))):=pw_and h t
theorem fX(h:PT X e (bE Γ r)):PW X (.BoolOp .Or [e] p) (bE Γ (.or [r])):=pw_or1 h
theorem fG{r2:RE}(h:PT X e (bE Γ r))(t:PW X (.BoolOp .Or (e2::es) p) (bE Γ (.or (r2::rs)))):PW X (.BoolOp .Or (e::e2::es) p) (bE Γ (.or (r::r2::rs))):=pw_or h t
theorem aW{op:CmpOp}(G:Good CX S Γ X)(ha:PE X a (aj Γ ra))(hb:PE X b (aj Γ rb))(hm:behindInMarks op b=false:=by kernel_rfl):PT X (.Compare a [op] [b] p) (bE Γ (.cmp op ra rb)):=by
 show PT X _ (jX (dN (cn Γ.K op) (aj Γ ra) (aj Γ rb)))
 rw[←G.K]
 exact Ym (pq G.units op) ha hb hm
theorem acC{op ck:CmpOp}(G:Good CX S Γ X)(ha:PE X a (aj Γ ra))(hb:PE X b (aj Γ rb))(hc:PE X c (aj Γ rc))(hm:lastMarks [op,ck] [b,c]=false:=by kernel_rfl):PT X (.Compare a [op,ck] [b,c] p) (bE Γ (.iM op ck ra rb rc)):=by
 show PT X _ (jX (ph (cn Γ.K op) (cn Γ.K ck) (aj Γ ra) (aj Γ rb) (aj Γ rc)))
 rw[←G.K]
 exact Yo (pq G.units op) (pq G.units ck) ha hb hc hm
theorem vG(G:Good CX S Γ X)(h:PE X (.Name x p) (aj Γ (.v i))):PT X (.Name x p) (bE Γ (.v i)):=by
 show PT X _ (ee Γ.K (aj Γ (.v i)))
 rw[←G.K]
 exact rO h fun _=>rfl
theorem eT(G:Good CX S Γ X)(h:PE X (.Call a es [] p) (aj Γ (.call j rs))):PT X (.Call a es [] p) (bE Γ (.call j rs)):=by
 show PT X _ (ee Γ.K (aj Γ (.call j rs)))
 rw[←G.K]
 exact rO h fun _=>rfl
theorem rS{T:Ty}(G:Good CX S Γ X)(h:PE X (.Call a es [] p) (aj Γ (.d9 T ra))):PT X (.Call a es [] p) (bE Γ (.d9 T ra)):=by
 show PT X _ (ee Γ.K (aj Γ (.d9 T ra)))
 rw[←G.K]
 exact rO h fun _=>rfl
theorem vH(G:Good CX S Γ X)(h:PE X (.Subscript a b p) (aj Γ (.ix ra rb))):PT X (.Subscript a b p) (bE Γ (.ix ra rb)):=by
 show PT X _ (ee Γ.K (aj Γ (.ix ra rb)))
 rw[←G.K]
 exact rO h fun _=>rfl
theorem iU{tg:Expr}(G:Good CX S Γ X)(ha:PE X a (aj Γ ra)):PI X tg a (eS Γ .list [ra]):=by
 show PI X tg a (yw Γ.K (aj Γ ra))
 rw[←G.K]
 exact XR ha
theorem acD{tg:Expr}(G:Good CX S Γ X)(ha:PE X a (aj Γ ra)):PI X tg a (eS Γ .tup [ra]):=by
 show PI X tg a (yx Γ.K (aj Γ ra))
 rw[←G.K]
 exact XS ha
theorem Ab{tg:Expr}(G:Good CX S Γ X)(ha:PE X a (aj Γ ra))(h:kB S x "range"=true:=by kernel_rfl)(hs:noStar a=true:=by kernel_rfl):PI X tg (.Call (.Name x p) [a] [] pos) (eS Γ .fQ [ra]):=by
 simp only[kB,Bool.and_eq_true,decide_eq_true_eq] at h
 obtain⟨⟨rfl,h2⟩,h3⟩:=h
 exact XW (G.gl h2) (G.gu _ h3) (lJ ha qN (di hs)) (di hs)
theorem acE{ts:List Expr}{k}{tp:Pos}(G:Good CX S Γ X)(ha:PE X a (aj Γ ra))(h:kB S x "enumerate"=true:=by kernel_rfl)(hs:noStar a=true:=by kernel_rfl):PI X (.Tuple ts k tp) (.Call (.Name x p) [a] [] pos) (eS Γ .zt [ra]):=by
 simp only[kB,Bool.and_eq_true,decide_eq_true_eq] at h
 obtain⟨⟨rfl,h2⟩,h3⟩:=h
 show PI X _ _ (zv Γ.K (dm (aj Γ ra) (bH Γ [])))
 rw[←G.K]
 exact abt (G.gl h2) (G.gu _ h3) (lJ ha qN (di hs)) (di hs)
theorem acF{ts:List Expr}{k}{tp:Pos}(G:Good CX S Γ X)(ha:PE X a (aj Γ ra))(hb:PE X b (aj Γ rb))(h:kB S x "zip"=true:=by kernel_rfl)(hn:ef [a,b]=true:=by kernel_rfl):PI X (.Tuple ts k tp) (.Call (.Name x p) [a,b] [] pos) (eS Γ .zip [ra,rb]):=by
 simp only[kB,Bool.and_eq_true,decide_eq_true_eq] at h
 obtain⟨⟨rfl,h2⟩,h3⟩:=h
 show PI X _ _ (zw Γ.K (dm (aj Γ ra) (bH Γ [rb])))
 rw[←G.K]
 exact abm (G.gl h2) (G.gu _ h3) (lJ ha (lJ hb qN (di (cI (cI hn).2).1)) (di (cI hn).1)) (di (cI hn).1) (fV _ _ _ (cI hn).2)
end
section
variable {CX:aG} {S:cZ} {Γ:aC} {X:Cx} {e a b c v:Expr} {es:List Expr} {x:Str} {p q pos:Pos} {r ra rb rc:RE} {i j:Nat} {st:Stmt} {O3:List Stmt} {s:RS} {ss t u:List RS}
theorem vI{v:Expr}{t:Option Expr}{l:Nat}{env:Env}(h:rQ v=true):swapsWith v t l env=pure false:=by
 cases v<;>first | rfl | cases h
theorem acG{v:Expr}{x:Str}{p:Pos}{l:Nat}{env:Env}(h:env.kindOf x=some .cell):swapsWith v (some (.Name x p)) l env=pure false:=by
 cases v<;>first
  | rfl
  | (unfold swapsWith;simp only[h];have q:(some NameKind.cell==some NameKind.local)=false:=rfl;simp only[q,Bool.and_false,Bool.false_and])
theorem acH{v o i:Expr}{p:Pos}{l:Nat}{env:Env}:swapsWith v (some (.Subscript o i p)) l env=pure false:=by
 cases v<;>rfl
theorem acI{v o i:Expr}{p:Pos}{env:Env}:swappedStores [.Subscript o i p] v env=pure none:=by
 cases v<;>rfl
theorem aL.name(G:aL CX S Γ X)(h:kL S i x=true):PG X (.Name x p) (dZ i):=by
 simp only[kL,Bool.and_eq_true,decide_eq_true_eq] at h
 exact uD (by rw[G.N];exact G.nd) (by rw[G.N];exact h.1) (by rw[G.sc];exact zz h.2) (.inl (G.vE x))
theorem aw:aY X [] (ar Γ []):=Xz
theorem ah(h:PS X st (bB Γ s))(t:aY X O3 (ar Γ ss)):aY X (st::O3) (ar Γ (s::ss)):=XA h t
theorem aI(G:aL CX S Γ X)(he:PE X v (aj Γ r))(h:kL S i x=true:=by kernel_rfl)(hc:(rQ v || decide (S.sc.names.lookup x=some .cell))=true:=by kernel_rfl):PS X (.Assign [.Name x p] v q) (bB Γ (.asg i r)):=by
 simp only[kL,Bool.and_eq_true,decide_eq_true_eq,Bool.or_eq_true] at h hc
 refine XJ (by rw[G.N];exact G.nd) (by rw[G.N];exact h.1) (by rw[G.sc];exact zz h.2) he ?_ (.inl (G.vE x))
 rcases hc with h4 | h4
 ·exact vI h4
 ·exact acG (by show X.env.scope.names.lookup x=_;rw[G.sc];exact h4)
theorem acJ{tk:Option Nat}{fv:List (Str×Nat)}{k:IK}{its:List RE}{cond:Option RE}{elt:RE}{el tg iter:Expr}{ifs:List Expr}{sc:Scope}{ln:List Str}{pc:Pos}(G:aL CX S Γ X)(h0:kL S i x=true)(hs:O0 S.sc x p.line sc pc=true)(h:kC S tk tg iter sc k ln fv=true)(hi:PI X tg iter (eS Γ k its))
  (hc:vF CX (cS S sc ln fv) Γ.calm cond ifs) (he: ∀X,Good CX (cS S sc ln fv) Γ.calm X→PE X el (aj Γ.calm elt)) (hq:S.md=0:=by rfl):PS X (.Assign [.Name x p] (.ListComp el [⟨tg,iter,ifs,0⟩] sc pc) q) (bB Γ (.vk i (.comp tk fv k its cond elt))):=by
 simp only[kC,kL,O0,Bool.and_eq_true,decide_eq_true_eq,beq_iff_eq,Bool.not_eq_true'] at h h0 hs
 obtain⟨⟨h1,h2⟩,h3⟩:=h
 obtain⟨o1,o2,o3,o4⟩:=OK (c:=⟨.Constant .none 0 ⟨0,0,0,0⟩,tg,iter,[],sc⟩) G.toGood h3
 show PS X _ (gW (lR Γ.K (eS Γ k its) tk fv (zx Γ.calm cond) (aj Γ.calm elt)) (dZ i))
 rw[←G.K]
 refine aav (by rw[G.N];exact G.nd) (by rw[G.N];exact h0.1) (by rw[G.sc];exact zz h0.2) ?_ o1 (G.calm hq) hi (OL (c:=⟨.Constant .none 0 ⟨0,0,0,0⟩,tg,iter,[],sc⟩) (G.calm hq) h1 o2 o3) ?_ (fun ex C s H=>he _ (G.toGood.inner ⟨.Constant .none 0 ⟨0,0,0,0⟩,tg,iter,[],sc⟩ ln fv ex C s H)) (vB o4) (.inl (G.vE x))
 ·have e1:X.env.kindOf x=some .local:=by show X.env.scope.names.lookup x=_;rw[G.sc];exact hs.1.1.2
  have e2:X.env.blockKind= .function:=by unfold Env.blockKind;rw[G.O1];rfl
  unfold swapsWith
  simp only[e1,e2,hs.1.2,hs.2]
  show pure (true && true && (pc.line==pc.line) && !false)=pure true
  rw[beq_self_eq_true];rfl
 ·cases cond with
  | none=>exact hc
  | some r=>
   obtain⟨e0,q,hq⟩:=hc
   exact⟨e0,q,fun ex C s H=>hq _ (G.toGood.inner ⟨.Constant .none 0 ⟨0,0,0,0⟩,tg,iter,[],sc⟩ ln fv ex C s H)⟩
theorem acK(he:PE X v (aj Γ r))(ha:PE X a (aj Γ ra))(hb:PE X b (aj Γ rb))(h:zZ b=true:=by kernel_rfl):PS X (.Assign [.Subscript a b p] v q) (bB Γ (.set ra rb r)):=
 ME he (XI ha hb set_list (by intro w;cases b<;>first | rfl | cases h)) (by exact acH (o:=a) (i:=b) (p:=p) (l:=q.line) (env:=X.env)) acI rfl
theorem mf{f:Str}(G:aL CX S Γ X)(ho:PE X a (aj Γ ra))(he:PE X v (aj Γ r))(h:rQ v=true:=by kernel_rfl):PS X (.Assign [.Attribute a f p] v q) (bB Γ (.iO ra f r)):=by
 show PS X _ (yG Γ.K (aj Γ ra) (aj Γ r) f)
 rw[←G.K]
 exact YK ho he (vI h)
theorem ej(he:PE X v (aj Γ r))(h:rQ v=true:=by kernel_rfl):PS X (.Expr v p) (bB Γ (.drop r)):=XD he (vI h)
theorem aO(he:PE X v (aj Γ r)):PS X (.Return (some v) p) (bB Γ (.ret r)):=XE he
theorem bj{as bs:List Stmt}(hc:PT X c (bE Γ rc))(ha:aY X as (ar Γ t))(hb:aY X bs (ar Γ u)):PS X (.If c as bs p) (bB Γ (.ite rc t u)):=XG hc ha hb
theorem hV{as:List Stmt}(G:aL CX S Γ X)(hc:PT X c (bE Γ rc))(ha:aY X as (ar Γ t)):PS X (.While c as [] p) (bB Γ (.eR rc t)):=XM G.own hc ha
theorem pF{k:IK}{its:List RE}{iter:Expr}{as:List Stmt}(G:aL CX S Γ X)(hi:PI X (.Name x p) iter (eS Γ k its))(ha:aY X as (ar Γ t))(h:kL S i x=true:=by kernel_rfl)(hs:rF iter=true:=by kernel_rfl)(hq:S.md=0:=by rfl):PS X (.For (.Name x p) iter as [] q) (bB Γ (.iN i k its t)):=
 MJ G.own (G.calm hq) hi (G.name h) ha (vB hs)
theorem Ac(G:aL CX S Γ X): ∀(is:List Nat) (xs:List (Str×Pos)),lZ S.N S.sc is (xs.map (·.1))=true→
  pb X (xs.map fun y=> .Name y.1 y.2) (iR is)∧(assignEach (xs.map fun y=>Expr.Name y.1 y.2) X.env).length=is.length∧(assignEach (xs.map fun y=>Expr.Name y.1 y.2) X.env).findIdx? (·.1)=none
 | [],xs,h=>by
  simp only[lZ,List.isEmpty_iff,List.map_eq_nil_iff] at h
  subst h;exact⟨MA,rfl,rfl⟩
 | i::r,[],h=>by simp only[List.map_nil,lZ] at h;cases h
 | i::r,y::t,h=>by
  simp only[List.map_cons,lZ,Bool.and_eq_true] at h
  obtain⟨i1,i2,i3⟩:=Ac G r t h.2
  refine⟨yv (G.name (by simp only[kL,Bool.and_eq_true];exact h.1)) i1 rfl, ?_, ?_⟩
  ·show(assignEach _ X.env).length+1=r.length+1
   rw[i2]
  ·show List.findIdx? (·.1) ((false,assign (.Name y.1 y.2) X.env)::assignEach _ X.env)=none
   rw[List.findIdx?_cons,i3];rfl
theorem Ad{is:List Nat}{k:IK}{its:List RE}{iter:Expr}{as:List Stmt}{kt}{tp:Pos}(xs:List (Str×Pos))(G:aL CX S Γ X)(hi:PI X (.Tuple (xs.map fun y=> .Name y.1 y.2) kt tp) iter (eS Γ k its))(ha:aY X as (ar Γ t))(h:lZ S.N S.sc is (xs.map (·.1))=true:=by kernel_rfl)(hs:rF iter=true:=by kernel_rfl)(hq:S.md=0:=by rfl):
  PS X (.For (.Tuple (xs.map fun y=> .Name y.1 y.2) kt tp) iter as [] q) (bB Γ (.pw is k its t)):=by
 obtain⟨i1,i2,i3⟩:=Ac G is xs h
 show PS X _ (uG (eS Γ k its) (ju Γ.K is.length (iR is)) (ar Γ t))
 rw[←G.K]
 exact MJ G.own (G.calm hq) hi (OZ (G.calm hq) i1 i2 i3) ha (vB hs)
def acL:Expr→Bool
 | .Tuple ..=>false | _=>true
theorem O4{is:List Nat}{kt}{tp:Pos}(xs:List (Str×Pos))(G:aL CX S Γ X)(he:PE X v (aj Γ r))(h:lZ S.N S.sc is (xs.map (·.1))=true:=by kernel_rfl)(hc:(rQ v && acL v)=true:=by kernel_rfl)(hq:S.md=0:=by rfl):
  PS X (.Assign [.Tuple (xs.map fun y=> .Name y.1 y.2) kt tp] v q) (bB Γ (.rp is r)):=by
 simp only[Bool.and_eq_true] at hc
 obtain⟨i1,i2,i3⟩:=Ac G is xs h
 show PS X _ (gW (aj Γ r) (ju Γ.K is.length (iR is)))
 rw[←G.K]
 refine ME he (OZ (G.calm hq) i1 i2 i3) (by show swapsWith v (some (.Tuple (xs.map fun y=>Expr.Name y.1 y.2) kt tp)) q.line X.env=pure false;exact vI hc.1) ?_ rfl
 have h2:=hc.2
 cases v<;>first | rfl | cases h2
def kX(S:cZ)(j:Nat)(x:Str):Bool:=decide (S.en[j]?=some x) && kg S.sc x && !(x==("__debug__":Str))
theorem eU{rs:List RE}{np dG:Pos}(G:aL CX S Γ X)(hA:PA X (e::es) (bH Γ (r::rs)))(h:kX S j x=true:=by kernel_rfl)(hn:ef (e::es)=true:=by kernel_rfl)(hq:S.md=0:=by rfl):PS X (.Raise (some (.Call (.Name x np) (e::es) [] dG)) none pos) (bB Γ (.d_ j (r::rs))):=by
 simp only[kX,Bool.and_eq_true,decide_eq_true_eq,Bool.not_eq_true'] at h
 obtain⟨bm,B,newId,pB,O,FB⟩:=G.zQ j x h.1.1
 exact abJ (G.calm hq) O FB (G.gl h.1.2) h.2 hA (di (cI hn).1) (fV _ _ es (cI hn).2) (G.rs j x h.1.1)
theorem acM:PS X (.Continue p) (bB Γ .cont):=XC
end
section
variable {P:Program} {w:World} {K:Frag} {mg:Str→Option Value} {base:Heap}
def bz(P:Program)(w:World)(K:Frag)(mg:Str→Option Value)(base:Heap)(k:Nat)(x:Str)(sp:Sp):Prop:=
 ∃f fd ps,cG P w K mg base (fF P w) k f fd ps sp∧mg x=some (.ref f)∧keepIn K (.ref f)=true∧Binds K fd ps []
theorem bz.mono{j k:Nat}{x:Str}{sp:Sp}(h:bz P w K mg base j x sp)(hk:j≤k):bz P w K mg base k x sp:=by
 obtain⟨f,fd,ps,F,r⟩:=h
 exact⟨f,fd,ps,F.mono hk,r⟩
def ki(tab:List (Str×Sp))(j:Nat):Sp:=match tab[j]? with
 | some p=>p.2
 | none=>fun _ _ _ _=>False
def vJ(tab:List (Str×V))(j:Nat):V:=match tab[j]? with
 | some p=>p.2
 | none=> .az
structure fY (mg:Str→Option Value) (p:Str×V):Prop where
 ex: ∃u,mg p.1=some u∧RelV p.2 u
def iV(tab:List (Str×Addr×Sp))(j:Nat):Addr×Sp:=match tab[j]? with
 | some p=>p.2
 | none=> (0,fun _ _ _ _=>False)
def vK(tab:List (Str×Addr))(j:Nat):Addr:=match tab[j]? with
 | some p=>p.2
 | none=>0
abbrev aQ(K:Frag)(tab:List (Str×Sp))(gt:List (Str×V))(dk:List (Addr×List (Key×V)):=[])(mt kt:List (Str×Addr×Sp):=[])(et:List (Str×Addr):=[])(ht:List (Str×Sp):=[])(E:XK:=E0):aC:=
 {K:=K,fs:=ki tab,gv:=vJ gt,E:=E,sd:=fun p aZ=> (p,aZ)∈dk,ms:=iV mt,kt:=iV kt,ex:=vK et,hs:=ki ht,hv:=none}
def eL(P:Program)(w:World)(K:Frag)(mg:Str→Option Value)(base:Heap)(k:Nat)(p:Str×Addr×Sp):Prop:=
 fB K p.2.1∧ ∃f fd ps,Meth K p.2.1 p.1 f∧cG P w K mg base (fF P w) k f fd ps p.2.2∧Binds K fd ps []
def pG(P:Program)(w:World)(K:Frag)(mg:Str→Option Value)(base:Heap)(k:Nat)(p:Str×Addr×Sp):Prop:=
 ∃j f fd ps,j+1≤k∧Mk K p.2.1 f∧cG P w K mg base (fF P w) j f fd ps p.2.2∧mg p.1=some (.ref p.2.1)∧Binds K fd ps []
theorem eL.mono{j k:Nat}{p:Str×Addr×Sp}(h:eL P w K mg base j p)(hk:j≤k):eL P w K mg base k p:=by
 obtain⟨c,f,fd,ps,m,F,b⟩:=h
 exact⟨c,f,fd,ps,m,F.mono hk,b⟩
theorem pG.mono{j k:Nat}{p:Str×Addr×Sp}(h:pG P w K mg base j p)(hk:j≤k):pG P w K mg base k p:=by
 obtain⟨i,f,fd,ps,m,r⟩:=h
 exact⟨i,f,fd,ps,Nat.le_trans m hk,r⟩
def DkT(P:Program)(w:World)(K:Frag)(q:Addr×List (Key×V)):Prop:= ∀h:Heap,K.In h→ ∃vs,KV q.2 vs∧h.DictOf (iz P w) q.1 vs
abbrev aP(N:List Str)(sc:Scope)(tab:List Str)(gt:List Str)(bl:List Str)(mn kn:List Str:=[])(en hn:List Str:=[])(md:Nat:=0):cZ:={N:=N,sc:=sc,fn:=tab,gn:=gt,bl:=bl,mn:=mn,kn:=kn,en:=en,hn:=hn,md:=md}
def kj(mg:Str→Option Value)(base:Heap)(p:Str×Addr):Prop:= ∃bm B newId pB,OwnCls p.1 p.2 bm newId mg base∧ExcBaseFacts B newId pB bm
def acO(P:Program)(w:World)(K:Frag)(mg:Str→Option Value)(base:Heap)(k:Nat)(x:Str)(sp:Sp):Prop:=
 ∃f fd ps,OE P w K mg base k f fd ps sp∧mg x=some (.ref f)∧keepIn K (.ref f)=true∧Binds K fd ps []
theorem br{x qual:Str}{st:Stmt}{f:Addr}{fd:FuncData}{N ps:List Str}{k:Nat}{sp:Sp}(F:jl K x qual st f fd)(S:bh N ps (aq st))
  (tab:List (Str×Sp)) (gt:List (Str×V)) (bl:List Str) (mt kt:List (Str×Addr×Sp)) (et:List (Str×Addr)) (ht:List (Str×Sp)) (body:List RS)
  (hm: ∀{CX:aG} {Γ:aC} {X:Cx},aL CX (aP N (aq st) (tab.map (·.1)) (gt.map (·.1)) bl (mt.map (·.1)) (kt.map (·.1)) (et.map (·.1)) (ht.map (·.1))) Γ X→aY X (ay st) (ar Γ body))
  (hfs: ∀p∈tab,bz P w K mg base k p.1 p.2) (hgs: ∀p∈gt,fY mg p) (hbl: ∀y∈bl,mg y=none) (dk:List (Addr×List (Key×V))) (hdk: ∀q∈dk,DkT P w K q)
  (hmt: ∀p∈mt,eL P w K mg base k p) (hkt: ∀p∈kt,pG P w K mg base k p) (het: ∀p∈et,kj mg base p) (hht: ∀p∈ht,acO P w K mg base k p.1 p.2)
  (len: ∀vs H Q E,sp vs H Q E→vs.length=ps.length)
  (acW: ∀vs H Q E,sp vs H Q E→ar (aQ K tab gt dk mt kt et ht E) body {nx:=fun _ H'=>Q .az H',rt:=Q} (start N vs) H):cG P w K mg base (fF P w) (k+1) f fd ps sp:=by
 obtain⟨oc,od,kV,doc,pm,an,bX,ct,ji,rfl,lk,gU⟩:=F.ex
 refine Na lk gU S len fun A outer s H vs Q E hr j6=> ⟨_,hm (CX:=fF P w) (Γ:=aQ K tab gt dk mt kt et ht E) ?_,acW vs H Q E j6⟩
 refine {N:=rfl,sc:=rfl,K:=rfl,calm:=fun _=>rfl,units:=hr.units,fns:=fun _ j y hj=> ?_,vx:=fun j y hj=> ?_,gu:=fun y hy=> ?_,pass:=abG,vy:=fun _ _ _ _ _ h=>OC h,vz:=fun p aZ h=>hdk _ h,rK:=fun _ j y hj=> ?_,rM:=fun _ j y hj=> ?_,zQ:=fun j y hj=> ?_,zR:=fun j y hj=> ?_,zS:=fun _ h=> (nomatch h),OJ:=fun h=> (nomatch h),nd:=S.nd,vE:=fun _=>rfl,own:=PassesOwn.leaving,O1:=S.kind,rs:=fun _ _ _=>abI,qH:=rfl,lY:=rfl,exn:=rfl,hcx:=rfl}
 ·have bP:(tab.map (·.1))[j]?=some y:=hj
  rw[List.getElem?_map] at bP
  cases q:tab[j]? with
  | none=>rw[q] at bP;cases bP
  | some p=>
   rw[q] at bP
   have e:p.1=y:=Option.some.inj bP
   obtain⟨f',mh,mi,F',m',k',b'⟩:=hfs p (List.mem_of_getElem? q)
   have es:ki tab j=p.2:=by unfold ki;rw[q]
   show OF (fF P w) _ y (ki tab j)
   rw[es,←e]
   exact⟨k,f',mh,mi,F',hr,m',k',b'⟩
 ·have bP:(gt.map (·.1))[j]?=some y:=hj
  rw[List.getElem?_map] at bP
  cases q:gt[j]? with
  | none=>rw[q] at bP;cases bP
  | some p=>
   rw[q] at bP
   have e:p.1=y:=Option.some.inj bP
   obtain⟨u,h1,h2⟩:=(hgs p (List.mem_of_getElem? q)).ex
   have es:vJ gt j=p.2:=by unfold vJ;rw[q]
   show ∃u,mg y=some u∧RelV (vJ gt j) u
   rw[es,←e]
   exact⟨u,h1,h2⟩
 ·exact hbl y (by simpa using hy)
 ·have bP:(mt.map (·.1))[j]?=some y:=hj
  rw[List.getElem?_map] at bP
  cases q:mt[j]? with
  | none=>rw[q] at bP;cases bP
  | some p=>
   rw[q] at bP
   have e:p.1=y:=Option.some.inj bP
   obtain⟨c,f',mh,mi,m',F',b'⟩:=hmt p (List.mem_of_getElem? q)
   have es:iV mt j=p.2:=by unfold iV;rw[q]
   show vw (fF P w) _ (iV mt j).1 y (iV mt j).2
   rw[es,←e]
   exact⟨c,k,f',mh,mi,m',F',hr,b'⟩
 ·have bP:(kt.map (·.1))[j]?=some y:=hj
  rw[List.getElem?_map] at bP
  cases q:kt[j]? with
  | none=>rw[q] at bP;cases bP
  | some p=>
   rw[q] at bP
   have e:p.1=y:=Option.some.inj bP
   obtain⟨i,f',mh,mi,hi,m',F',g',b'⟩:=hkt p (List.mem_of_getElem? q)
   have es:iV kt j=p.2:=by unfold iV;rw[q]
   show OG (fF P w) _ y (iV kt j).1 (iV kt j).2
   rw[es,←e]
   exact⟨i,f',mh,mi,m',F',hr.mono hi,g',b'⟩
 ·have bP:(et.map (·.1))[j]?=some y:=hj
  rw[List.getElem?_map] at bP
  cases q:et[j]? with
  | none=>rw[q] at bP;cases bP
  | some p=>
   rw[q] at bP
   have e:p.1=y:=Option.some.inj bP
   have es:vK et j=p.2:=by unfold vK;rw[q]
   show OI _ y (vK et j)
   rw[es,←e]
   exact het p (List.mem_of_getElem? q)
 ·have bP:(ht.map (·.1))[j]?=some y:=hj
  rw[List.getElem?_map] at bP
  cases q:ht[j]? with
  | none=>rw[q] at bP;cases bP
  | some p=>
   rw[q] at bP
   have e:p.1=y:=Option.some.inj bP
   obtain⟨f',mh,mi,F',m',k',b'⟩:=hht p (List.mem_of_getElem? q)
   have es:ki ht j=p.2:=by unfold ki;rw[q]
   show OH _ y (ki ht j)
   rw[es,←e]
   exact⟨k,f',mh,mi,F',hr.h,m',k',b'⟩
section
variable {x qual:Str} {st:Stmt} {f C:Addr} {fd:FuncData} {N ps:List Str} {k:Nat} {sp:Sp}
end
theorem rT{x qual:Str}{st:Stmt}{f:Addr}{fd:FuncData}{N ps:List Str}{k:Nat}{sp:Sp}(F:jl K x qual st f fd)(S:bh N ps (aq st))(lO:mg x=some (.ref f))(hb:Binds K fd ps [])
  (no: ∀vs H Q E,¬sp vs H Q E):bz P w K mg base (k+1) x sp:=
 by
 obtain⟨oc,od,kV,doc,pm,an,bX,ct,ji,rfl,lk,gU⟩:=F.ex
 exact⟨f,_,ps,Na lk gU S (fun vs H Q E h=> (no vs H Q E h).elim) (fun A outer s H vs Q E hr h=> (no vs H Q E h).elim),lO,F.kp,hb⟩
end
section
variable {P:Program} {w:World} {K:Frag} {mg:Str→Option Value} {base:Heap} {x qual:Str} {st:Stmt} {f:Addr} {fd:FuncData} {N ps:List Str} {k:Nat} {sp:Sp}
theorem cG.top{k:Nat}(F:cG P w K mg base (fF P w) k f fd ps sp):cG P w K mg base uY k f fd ps (fun vs H Q _=>sp vs H Q E0):=
 ⟨fun vs H Q E h=>F.len vs H Q E0 h,fun A outer s H args us vs Q E hr e0 hb hv hs=>codeAny_mono (F.run A outer s H args us vs Q E0 hr e0 hb hv hs) fun r s' h=>by
  cases r with
  | error e=>exact(OC h).elim
  | ok fl=>cases fl<;>exact h⟩
end
section
variable {Γ:aC} {D:Ends} {σ:St} {H:Hp} {r:List RS} {Q:VK}
theorem O5{i:Nat}{e:RE}(h:aj Γ e σ H fun x H1=>ar Γ r D (σ.set i (some x)) H1):ar Γ (.asg i e::r) D σ H:=h
theorem O6{b:jn}{as:List RE}(h:bH Γ as σ H fun vs H1=>lV Γ.K b vs H1 Q):aj Γ (.blt b as) σ H Q:=h
theorem O7{a:RE}{Q:List V→Hp→Prop}(h:aj Γ a σ H fun x H1=>Q [x] H1):bH Γ [a] σ H Q:=h
end
end L2
namespace L2.B
open PySem PySem.Spec PyProof.Rows
def Ae:List Str:=["thing"]
def O8:List Str:=["thing"]
noncomputable def Af:List RS:=
 [.ret (.and [(.d9 .int (.v 0)),(.not (.d9 .bool (.v 0)))])]
def acX:List Str:=[]
def acY:List Str:=[]
def O9:List Str:=["isinstance","int","bool"]
def acZ:List Str:=[]
def ac0:List Str:=[]
def ac1:List Str:=[]
def ac2:List Str:=[]
def vL:List Str:=["thing","words"]
def O_:List Str:=["thing","words"]
noncomputable def vM:List RS:=
 [.ret (.and [(.d9 .str (.v 0)),(.cmp .In (.v 0) (.v 1))])]
def ac3:List Str:=[]
def ac4:List Str:=[]
def Pa:List Str:=["isinstance","str"]
def ac5:List Str:=[]
def ac6:List Str:=[]
def ac7:List Str:=[]
def ac8:List Str:=[]
def vN:List Str:=["thing"]
def Pb:List Str:=["thing"]
noncomputable def vO:List RS:=
 [.ret (.and [(.d9 .str (.v 0)),(.cmp .Eq (.bZ .lstrip (.v 0) [(.g 0)]) (.c (.str "")))])]
def ac9:List Str:=[]
def ac_:List Str:=["SIGNS"]
def Pd:List Str:=["isinstance","str"]
def ada:List Str:=[]
def adb:List Str:=[]
def ade:List Str:=[]
def adf:List Str:=[]
def Ag:List Str:=["thing"]
def Pe:List Str:=["thing"]
noncomputable def Ah:List RS:=
 [.ite (.not (.call 0 [(.v 0)])) [.d_ 0 [(.c (.str "a text is a str of signs from the blank to the tilde, and line feeds"))]] []]
def adg:List Str:=["is_text"]
def adh:List Str:=[]
def Pf:List Str:=[]
def adi:List Str:=[]
def adj:List Str:=[]
def adk:List Str:=["BadText"]
def adl:List Str:=[]
def rV:List Str:=["thing"]
def Pg:List Str:=["thing"]
noncomputable def rW:List RS:=
 [.ite (.or [(.not (.d9 .tuple (.v 0))),(.cmp .NotEq (.blt .len [(.v 0)]) (.c (.int 2)))]) [.ret (.c (.bl false))] [],
 .ite (.call 0 [(.ix (.v 0) (.c (.int 0))),(.tup [(.c (.str "keep"))])]) [.ret (.and [(.call 1 [(.ix (.v 0) (.c (.int 1)))]),(.cmp .GtE (.ix (.v 0) (.c (.int 1))) (.c (.int 1)))])] [],
 .ret (.and [(.call 0 [(.ix (.v 0) (.c (.int 0))),(.tup [(.c (.str "cut")),(.c (.str "put"))])]),(.call 2 [(.ix (.v 0) (.c (.int 1)))]),(.cmp .NotEq (.ix (.v 0) (.c (.int 1))) (.c (.str "")))])]
def adm:List Str:=["is_word","is_whole","is_text"]
def adn:List Str:=[]
def Ph:List Str:=["isinstance","tuple","len"]
def ado:List Str:=[]
def adp:List Str:=[]
def adq:List Str:=[]
def ads:List Str:=[]
def Ai:List Str:=["word","ahead"]
def Pj:List Str:=["word","ahead"]
noncomputable def Aj:List RS:=
 [.ret (.and [(.cmp .NotEq (.v 0) (.v 1)),(.not (.and [(.cmp .Eq (.v 1) (.c (.str "cut"))),(.cmp .Eq (.v 0) (.c (.str "put")))]))])]
def adt:List Str:=[]
def adu:List Str:=[]
def Pk:List Str:=[]
def adv:List Str:=[]
def adw:List Str:=[]
def adx:List Str:=[]
def ady:List Str:=[]
def Ak:List Str:=["change","ahead","part"]
def Pl:List Str:=["change"]
noncomputable def Al:List RS:=
 [.ite (.not (.d9 .list (.v 0))) [.d_ 0 [(.c (.str "a change is a list"))]] [],
 .asg 1 (.c (.str "")),
 .iN 2 .list [(.v 0)] [.ite (.not (.call 0 [(.v 2)])) [.d_ 0 [(.c (.str "a part is a keep of 1 sign or more, or a cut or put of a text that is not empty"))]] [],
  .ite (.not (.call 1 [(.ix (.v 2) (.c (.int 0))),(.v 1)])) [.d_ 0 [(.c (.str "neighbours have two words, and no put stands right behind a cut"))]] [],
  .asg 1 (.ix (.v 2) (.c (.int 0)))]]
def adz:List Str:=["is_part","may_follow"]
def adA:List Str:=[]
def Pm:List Str:=["isinstance","list"]
def adB:List Str:=[]
def adC:List Str:=[]
def adD:List Str:=["BadChange"]
def adE:List Str:=[]
def Am:List Str:=["part"]
def Pn:List Str:=["part"]
noncomputable def An:List RS:=
 [.ret (.fE (.cmp .Eq (.ix (.v 0) (.c (.int 0))) (.c (.str "keep"))) (.ix (.v 0) (.c (.int 1))) (.blt .len [(.ix (.v 0) (.c (.int 1)))]))]
def adF:List Str:=[]
def adG:List Str:=[]
def Po:List Str:=["len"]
def adH:List Str:=[]
def adI:List Str:=[]
def adJ:List Str:=[]
def adK:List Str:=[]
def Ao:List Str:=["change","over","gives"]
def Pp:List Str:=["change"]
noncomputable def Ap:List RS:=
 [.drop (.call 0 [(.v 0)]),
 .asg 1 (.blt .sum [(.comp none [] .list [(.v 0)] (some (.cmp .NotEq (.ix (.v 0) (.c (.int 0))) (.c (.str "put")))) (.call 1 [(.v 0)]))]),
 .asg 2 (.blt .sum [(.comp none [] .list [(.v 0)] (some (.cmp .NotEq (.ix (.v 0) (.c (.int 0))) (.c (.str "cut")))) (.call 1 [(.v 0)]))]),
 .ret (.tup [(.v 1),(.v 2)])]
def adL:List Str:=["need_change","part_size"]
def adM:List Str:=[]
def Pq:List Str:=["sum"]
def adN:List Str:=[]
def adO:List Str:=[]
def adP:List Str:=[]
def adQ:List Str:=[]
def Aq:List Str:=["_law_script","_law_k"]
def Pr:List Str:=["_law_script","_law_k"]
noncomputable def Ar:List RS:=
 [.ite (.cmp .Lt (.v 1) (.blt .len [(.v 0)])) [.ret (.ix (.v 0) (.v 1))] [],
 .ret (.c (.int 0))]
def adR:List Str:=[]
def adS:List Str:=[]
def Pu:List Str:=["len"]
def adT:List Str:=[]
def adU:List Str:=[]
def adV:List Str:=[]
def adW:List Str:=[]
def As:List Str:=["thing","least","most"]
def Pw:List Str:=["thing","least","most"]
noncomputable def Au:List RS:=
 [.ret (.and [(.call 0 [(.v 0)]),(.iM .LtE .LtE (.v 1) (.v 0) (.v 2))])]
def adX:List Str:=["is_whole"]
def adY:List Str:=[]
def Px:List Str:=[]
def adZ:List Str:=[]
def ad0:List Str:=[]
def ad1:List Str:=[]
def ad2:List Str:=[]
def vP:List Str:=["_law_found_here"]
noncomputable def Av:List RS:=
 [.ret (.and [(.d9 .int (.v 0)),(.not (.d9 .bool (.v 0)))])]
def ad3:List Str:=[]
def ad4:List Str:=[]
def Py:List Str:=["isinstance","int","bool"]
def ad5:List Str:=[]
def ad6:List Str:=[]
def ad7:List Str:=[]
def ad8:List Str:=[]
def Aw:List Str:=["row","most","least","beyond","middle"]
def Pz:List Str:=["row","most"]
noncomputable def Ax:List RS:=
 [.asg 2 (.c (.int 0)),
 .asg 3 (.blt .len [(.v 0)]),
 .eR (.cmp .Lt (.v 2) (.v 3)) [.asg 4 (.bin .FloorDiv (.bin .Add (.v 2) (.v 3)) (.c (.int 2))),
  .ite (.cmp .LtE (.ix (.v 0) (.v 4)) (.v 1)) [.asg 2 (.bin .Add (.v 4) (.c (.int 1)))] [.asg 3 (.v 4)]],
 .ret (.v 2)]
def ad9:List Str:=[]
def ad_:List Str:=[]
def PB:List Str:=["len"]
def aea:List Str:=[]
def aeb:List Str:=[]
def aec:List Str:=[]
def aed:List Str:=[]
def Ay:List Str:=["self"]
def PC:List Str:=["self"]
noncomputable def Az:List RS:=
 [.iO (.v 0) "texts" (.lst []),
 .iO (.v 0) "begins" (.lst []),
 .iO (.v 0) "feeds" (.lst []),
 .iO (.v 0) "signs" (.c (.int 0))]
def aee:List Str:=[]
def aef:List Str:=[]
def PD:List Str:=[]
def aeg:List Str:=[]
def aeh:List Str:=[]
def aei:List Str:=[]
def aej:List Str:=[]
def vQ:List Str:=["self","text","begin","feed"]
def PF:List Str:=["self","text"]
noncomputable def AA:List RS:=
 [.drop (.call 0 [(.v 1)]),
 .asg 2 (.fld (.v 0) "signs"),
 .drop (.bZ .append (.fld (.v 0) "texts") [(.v 1)]),
 .drop (.bZ .append (.fld (.v 0) "begins") [(.v 2)]),
 .iO (.v 0) "signs" (.bin .Add (.v 2) (.blt .len [(.v 1)])),
 .asg 3 (.bZ .find (.v 1) [(.c (.str "\n"))]),
 .eR (.cmp .GtE (.v 3) (.c (.int 0))) [.drop (.bZ .append (.fld (.v 0) "feeds") [(.bin .Add (.v 2) (.v 3))]),
  .asg 3 (.bZ .find (.v 1) [(.c (.str "\n")),(.bin .Add (.v 3) (.c (.int 1)))])],
 .ret (.v 2)]
def aek:List Str:=["need_text"]
def ael:List Str:=[]
def PH:List Str:=["len"]
def aem:List Str:=[]
def aen:List Str:=[]
def aeo:List Str:=[]
def aep:List Str:=[]
def AD:List Str:=["self","begin","size","pieces","number","end","offset","piece"]
def PJ:List Str:=["self","begin","size"]
noncomputable def AE:List RS:=
 [.ite (.or [(.not (.call 0 [(.v 1),(.c (.int 0)),(.fld (.v 0) "signs")])),(.not (.call 0 [(.v 2),(.c (.int 0)),(.bin .Sub (.fld (.v 0) "signs") (.v 1))]))]) [.d_ 0 [(.c (.str "what is read lies within the stock"))]] [],
 .asg 3 (.lst []),
 .asg 4 (.bin .Sub (.call 1 [(.fld (.v 0) "begins"),(.v 1)]) (.c (.int 1))),
 .asg 5 (.bin .Add (.v 1) (.v 2)),
 .eR (.cmp .Lt (.v 1) (.v 5)) [.asg 6 (.bin .Sub (.v 1) (.ix (.fld (.v 0) "begins") (.v 4))),
  .asg 7 (.sl (.ix (.fld (.v 0) "texts") (.v 4)) (some (.v 6)) (some (.bin .Sub (.bin .Add (.v 6) (.v 5)) (.v 1)))),
  .drop (.bZ .append (.v 3) [(.v 7)]),
  .asg 1 (.bin .Add (.v 1) (.blt .len [(.v 7)])),
  .asg 4 (.bin .Add (.v 4) (.c (.int 1)))],
 .ret (.bZ .join (.c (.str "")) [(.v 3)])]
def aeq:List Str:=["is_between","many_upto"]
def aer:List Str:=[]
def PK:List Str:=["len"]
def aes:List Str:=[]
def aet:List Str:=[]
def aeu:List Str:=["NoPlace"]
def aev:List Str:=[]
structure pH (K:Frag) (C:Addr):Prop where
 cl:fB K C
 rX:fD K C "texts"
 vR:fD K C "begins"
 vS:fD K C "feeds"
 vT:fD K C "signs"
def AF:List Str:=["node"]
def PL:List Str:=["node"]
noncomputable def AG:List RS:=
 [.ret (.fE (.cmp .Is (.v 0) (.c .az)) (.c (.int 0)) (.ix (.v 0) (.c (.int 3))))]
def aew:List Str:=[]
def aex:List Str:=[]
def PM:List Str:=[]
def aey:List Str:=[]
def aez:List Str:=[]
def aeA:List Str:=[]
def aeB:List Str:=[]
def AH:List Str:=["node"]
def PN:List Str:=["node"]
noncomputable def AI:List RS:=
 [.ret (.fE (.cmp .Is (.v 0) (.c .az)) (.c (.int 0)) (.ix (.v 0) (.c (.int 4))))]
def aeC:List Str:=[]
def aeD:List Str:=[]
def PQ:List Str:=[]
def aeE:List Str:=[]
def aeF:List Str:=[]
def aeG:List Str:=[]
def aeH:List Str:=[]
def AJ:List Str:=["node"]
def PR:List Str:=["node"]
noncomputable def AK:List RS:=
 [.ret (.fE (.cmp .Is (.v 0) (.c .az)) (.c (.int 0)) (.ix (.v 0) (.c (.int 5))))]
def aeI:List Str:=[]
def aeJ:List Str:=[]
def PU:List Str:=[]
def aeK:List Str:=[]
def aeL:List Str:=[]
def aeM:List Str:=[]
def aeN:List Str:=[]
def AL:List Str:=["left","piece","right","height","size"]
def PV:List Str:=["left","piece","right"]
noncomputable def AM:List RS:=
 [.asg 3 (.bin .Add (.c (.int 1)) (.blt .max [(.call 0 [(.v 0)]),(.call 0 [(.v 2)])])),
 .asg 4 (.bin .Add (.bin .Add (.call 1 [(.v 0)]) (.ix (.v 1) (.c (.int 1)))) (.call 1 [(.v 2)])),
 .ret (.tup [(.v 0),(.v 1),(.v 2),(.v 3),(.v 4),(.bin .Add (.bin .Add (.call 2 [(.v 0)]) (.ix (.v 1) (.c (.int 2)))) (.call 2 [(.v 2)]))])]
def aeO:List Str:=["height_of","size_of","ends_of"]
def aeP:List Str:=[]
def PX:List Str:=["max"]
def aeQ:List Str:=[]
def aeR:List Str:=[]
def aeS:List Str:=[]
def aeT:List Str:=[]
def AN:List Str:=["left","piece","right","inner"]
def PY:List Str:=["left","piece","right"]
noncomputable def AO:List RS:=
 [.asg 3 (.ix (.v 0) (.c (.int 2))),
 .ite (.cmp .GtE (.call 0 [(.ix (.v 0) (.c (.int 0)))]) (.call 0 [(.v 3)])) [.ret (.call 1 [(.ix (.v 0) (.c (.int 0))),(.ix (.v 0) (.c (.int 1))),(.call 1 [(.v 3),(.v 1),(.v 2)])])] [],
 .ret (.call 1 [(.call 1 [(.ix (.v 0) (.c (.int 0))),(.ix (.v 0) (.c (.int 1))),(.ix (.v 3) (.c (.int 0)))]),(.ix (.v 3) (.c (.int 1))),(.call 1 [(.ix (.v 3) (.c (.int 2))),(.v 1),(.v 2)])])]
def aeU:List Str:=["height_of","made"]
def aeV:List Str:=[]
def PZ:List Str:=[]
def aeW:List Str:=[]
def aeX:List Str:=[]
def aeY:List Str:=[]
def aeZ:List Str:=[]
def AQ:List Str:=["left","piece","right","inner"]
def P0:List Str:=["left","piece","right"]
noncomputable def AR:List RS:=
 [.asg 3 (.ix (.v 2) (.c (.int 0))),
 .ite (.cmp .GtE (.call 0 [(.ix (.v 2) (.c (.int 2)))]) (.call 0 [(.v 3)])) [.ret (.call 1 [(.call 1 [(.v 0),(.v 1),(.v 3)]),(.ix (.v 2) (.c (.int 1))),(.ix (.v 2) (.c (.int 2)))])] [],
 .ret (.call 1 [(.call 1 [(.v 0),(.v 1),(.ix (.v 3) (.c (.int 0)))]),(.ix (.v 3) (.c (.int 1))),(.call 1 [(.ix (.v 3) (.c (.int 2))),(.ix (.v 2) (.c (.int 1))),(.ix (.v 2) (.c (.int 2)))])])]
def ae0:List Str:=["height_of","made"]
def ae1:List Str:=[]
def P4:List Str:=[]
def ae2:List Str:=[]
def ae3:List Str:=[]
def ae4:List Str:=[]
def ae5:List Str:=[]
def AS:List Str:=["left","piece","right"]
def P5:List Str:=["left","piece","right"]
noncomputable def AU:List RS:=
 [.ite (.cmp .Gt (.call 0 [(.v 0)]) (.bin .Add (.call 0 [(.v 2)]) (.c (.int 1)))) [.ret (.call 1 [(.v 0),(.v 1),(.v 2)])] [],
 .ite (.cmp .Gt (.call 0 [(.v 2)]) (.bin .Add (.call 0 [(.v 0)]) (.c (.int 1)))) [.ret (.call 2 [(.v 0),(.v 1),(.v 2)])] [],
 .ret (.call 3 [(.v 0),(.v 1),(.v 2)])]
def ae6:List Str:=["height_of","turned_right","turned_left","made"]
def ae7:List Str:=[]
def P6:List Str:=[]
def ae8:List Str:=[]
def ae9:List Str:=[]
def ae_:List Str:=[]
def afa:List Str:=[]
def AV:List Str:=["left","piece","right"]
def P7:List Str:=["left","piece","right"]
noncomputable def AW:List RS:=
 [.ite (.cmp .Gt (.call 0 [(.v 0)]) (.bin .Add (.call 0 [(.v 2)]) (.c (.int 1)))) [.ret (.call 1 [(.ix (.v 0) (.c (.int 0))),(.ix (.v 0) (.c (.int 1))),(.call 2 [(.ix (.v 0) (.c (.int 2))),(.v 1),(.v 2)])])] [],
 .ite (.cmp .Gt (.call 0 [(.v 2)]) (.bin .Add (.call 0 [(.v 0)]) (.c (.int 1)))) [.ret (.call 1 [(.call 2 [(.v 0),(.v 1),(.ix (.v 2) (.c (.int 0)))]),(.ix (.v 2) (.c (.int 1))),(.ix (.v 2) (.c (.int 2)))])] [],
 .ret (.call 3 [(.v 0),(.v 1),(.v 2)])]
def afb:List Str:=["height_of","leveled","joined","made"]
def afc:List Str:=[]
def P8:List Str:=[]
def afd:List Str:=[]
def afe:List Str:=[]
def aff:List Str:=[]
def afg:List Str:=[]
def AX:List Str:=["node","out"]
def P9:List Str:=["node"]
noncomputable def AY:List RS:=
 [.ite (.cmp .Is (.ix (.v 0) (.c (.int 2))) (.c .az)) [.ret (.tup [(.ix (.v 0) (.c (.int 0))),(.ix (.v 0) (.c (.int 1)))])] [],
 .asg 1 (.call 0 [(.ix (.v 0) (.c (.int 2)))]),
 .ret (.tup [(.call 1 [(.ix (.v 0) (.c (.int 0))),(.ix (.v 0) (.c (.int 1))),(.ix (.v 1) (.c (.int 0)))]),(.ix (.v 1) (.c (.int 1)))])]
def afh:List Str:=["last_out","joined"]
def afi:List Str:=[]
def P_:List Str:=[]
def afj:List Str:=[]
def afk:List Str:=[]
def afl:List Str:=[]
def afm:List Str:=[]
def AZ:List Str:=["node","out"]
def Qa:List Str:=["node"]
noncomputable def A2:List RS:=
 [.ite (.cmp .Is (.ix (.v 0) (.c (.int 0))) (.c .az)) [.ret (.tup [(.ix (.v 0) (.c (.int 1))),(.ix (.v 0) (.c (.int 2)))])] [],
 .asg 1 (.call 0 [(.ix (.v 0) (.c (.int 0)))]),
 .ret (.tup [(.ix (.v 1) (.c (.int 0))),(.call 1 [(.ix (.v 1) (.c (.int 1))),(.ix (.v 0) (.c (.int 1))),(.ix (.v 0) (.c (.int 2)))])])]
def afn:List Str:=["first_out","joined"]
def afo:List Str:=[]
def Qc:List Str:=[]
def afp:List Str:=[]
def afq:List Str:=[]
def afr:List Str:=[]
def afs:List Str:=[]
def A3:List Str:=["left","right","last","first","one","other"]
def Qd:List Str:=["left","right"]
noncomputable def A6:List RS:=
 [.ite (.cmp .Is (.v 0) (.c .az)) [.ret (.v 1)] [],
 .asg 2 (.call 0 [(.v 0)]),
 .asg 3 (.call 1 [(.v 1)]),
 .asg 4 (.ix (.v 2) (.c (.int 1))),
 .asg 5 (.ix (.v 3) (.c (.int 0))),
 .ite (.cmp .Eq (.bin .Add (.ix (.v 4) (.c (.int 0))) (.ix (.v 4) (.c (.int 1)))) (.ix (.v 5) (.c (.int 0)))) [.ret (.call 2 [(.ix (.v 2) (.c (.int 0))),(.tup [(.ix (.v 4) (.c (.int 0))),(.bin .Add (.ix (.v 4) (.c (.int 1))) (.ix (.v 5) (.c (.int 1)))),(.bin .Add (.ix (.v 4) (.c (.int 2))) (.ix (.v 5) (.c (.int 2))))]),(.ix (.v 3) (.c (.int 1)))])] [],
 .ret (.call 2 [(.ix (.v 2) (.c (.int 0))),(.v 4),(.v 1)])]
def aft:List Str:=["last_out","first_out","joined"]
def afu:List Str:=[]
def Qe:List Str:=[]
def afv:List Str:=[]
def afw:List Str:=[]
def afx:List Str:=[]
def afy:List Str:=[]
def A7:List Str:=["piece","size","stock","middle","ends"]
def Qf:List Str:=["piece","size","stock"]
noncomputable def A8:List RS:=
 [.asg 3 (.bin .Add (.ix (.v 0) (.c (.int 0))) (.v 1)),
 .asg 4 (.bin .Sub (.bO 0 "ends_ahead" (.v 2) [(.v 3)]) (.bO 0 "ends_ahead" (.v 2) [(.ix (.v 0) (.c (.int 0)))])),
 .ret (.tup [(.tup [(.ix (.v 0) (.c (.int 0))),(.v 1),(.v 4)]),(.tup [(.v 3),(.bin .Sub (.ix (.v 0) (.c (.int 1))) (.v 1)),(.bin .Sub (.ix (.v 0) (.c (.int 2))) (.v 4))])])]
def afz:List Str:=[]
def afA:List Str:=[]
def Qg:List Str:=[]
def afB:List Str:=["ends_ahead"]
def afC:List Str:=[]
def afD:List Str:=[]
def afE:List Str:=[]
def A9:List Str:=["node","place","stock","piece","begin","end","sides","halves"]
def Qh:List Str:=["node","place","stock"]
noncomputable def A_:List RS:=
 [.ite (.cmp .Is (.v 0) (.c .az)) [.ret (.tup [(.c .az),(.c .az)])] [],
 .asg 3 (.ix (.v 0) (.c (.int 1))),
 .asg 4 (.call 0 [(.ix (.v 0) (.c (.int 0)))]),
 .asg 5 (.bin .Add (.v 4) (.ix (.v 3) (.c (.int 1)))),
 .ite (.cmp .LtE (.v 1) (.v 4)) [.asg 6 (.call 1 [(.ix (.v 0) (.c (.int 0))),(.v 1),(.v 2)]),
  .ret (.tup [(.ix (.v 6) (.c (.int 0))),(.call 2 [(.ix (.v 6) (.c (.int 1))),(.v 3),(.ix (.v 0) (.c (.int 2)))])])] [],
 .ite (.cmp .GtE (.v 1) (.v 5)) [.asg 6 (.call 1 [(.ix (.v 0) (.c (.int 2))),(.bin .Sub (.v 1) (.v 5)),(.v 2)]),
  .ret (.tup [(.call 2 [(.ix (.v 0) (.c (.int 0))),(.v 3),(.ix (.v 6) (.c (.int 0)))]),(.ix (.v 6) (.c (.int 1)))])] [],
 .asg 7 (.call 3 [(.v 3),(.bin .Sub (.v 1) (.v 4)),(.v 2)]),
 .ret (.tup [(.call 2 [(.ix (.v 0) (.c (.int 0))),(.ix (.v 7) (.c (.int 0))),(.c .az)]),(.call 2 [(.c .az),(.ix (.v 7) (.c (.int 1))),(.ix (.v 0) (.c (.int 2)))])])]
def afF:List Str:=["size_of","parted","joined","cut_in_two"]
def afG:List Str:=[]
def Qi:List Str:=[]
def afH:List Str:=[]
def afI:List Str:=[]
def afJ:List Str:=[]
def afK:List Str:=[]
def Ba:List Str:=["node","pieces"]
def Qj:List Str:=["node"]
noncomputable def Bb:List RS:=
 [.ite (.cmp .Is (.v 0) (.c .az)) [.ret (.lst [])] [],
 .asg 1 (.call 0 [(.ix (.v 0) (.c (.int 0)))]),
 .drop (.bZ .append (.v 1) [(.ix (.v 0) (.c (.int 1)))]),
 .drop (.bZ .extend (.v 1) [(.call 0 [(.ix (.v 0) (.c (.int 2)))])]),
 .ret (.v 1)]
def afL:List Str:=["pieces_of"]
def afM:List Str:=[]
def Qk:List Str:=[]
def afN:List Str:=[]
def afO:List Str:=[]
def afP:List Str:=[]
def afQ:List Str:=[]
def Bc:List Str:=["self","place"]
def Ql:List Str:=["self","place"]
noncomputable def Bd:List RS:=
 [.ret (.call 0 [(.fld (.v 0) "feeds"),(.bin .Sub (.v 1) (.c (.int 1)))])]
def afR:List Str:=["many_upto"]
def afS:List Str:=[]
def Qm:List Str:=[]
def afT:List Str:=[]
def afU:List Str:=[]
def afV:List Str:=[]
def afW:List Str:=[]
def Be:List Str:=["stock","text"]
def Qn:List Str:=["stock","text"]
noncomputable def Bf:List RS:=
 [.ite (.cmp .Eq (.v 1) (.c (.str ""))) [.ret (.c .az)] [],
 .ret (.call 0 [(.c .az),(.tup [(.bO 0 "put" (.v 0) [(.v 1)]),(.blt .len [(.v 1)]),(.bZ .count (.v 1) [(.c (.str "\n"))])]),(.c .az)])]
def afX:List Str:=["joined"]
def afY:List Str:=[]
def Qo:List Str:=["len"]
def afZ:List Str:=["put"]
def af0:List Str:=[]
def af1:List Str:=[]
def af2:List Str:=[]
def Bg:List Str:=["text","stock"]
def Qp:List Str:=["text"]
noncomputable def Bh:List RS:=
 [.drop (.call 0 [(.v 0)]),
 .asg 1 (.make 0 []),
 .ret (.make 1 [(.v 1),(.call 1 [(.v 1),(.v 0)])])]
def af3:List Str:=["need_text","node_put"]
def af4:List Str:=[]
def Qq:List Str:=[]
def af5:List Str:=[]
def af6:List Str:=["Stock","Paper"]
def af7:List Str:=[]
def af8:List Str:=[]
def Bi:List Str:=["paper","change","place","part"]
def Qr:List Str:=["paper","change"]
noncomputable def Bj:List RS:=
 [.ite (.cmp .NotEq (.ix (.call 0 [(.v 1)]) (.c (.int 0))) (.bO 0 "size" (.v 0) [])) [.d_ 0 [(.c (.str "the change is over a text of another number of signs"))]] [],
 .asg 2 (.c (.int 0)),
 .iN 3 .list [(.v 1)] [.ite (.and [(.cmp .Eq (.ix (.v 3) (.c (.int 0))) (.c (.str "cut"))),(.cmp .NotEq (.bO 1 "part" (.v 0) [(.v 2),(.bin .Add (.v 2) (.blt .len [(.ix (.v 3) (.c (.int 1)))]))]) (.ix (.v 3) (.c (.int 1))))]) [.d_ 0 [(.c (.str "what is cut is not what stands there"))]] [],
  .ite (.cmp .NotEq (.ix (.v 3) (.c (.int 0))) (.c (.str "put"))) [.asg 2 (.bin .Add (.v 2) (.call 1 [(.v 3)]))] []]]
def af9:List Str:=["sizes","part_size"]
def af_:List Str:=[]
def Qs:List Str:=["len"]
def aga:List Str:=["size","part"]
def agb:List Str:=[]
def agc:List Str:=["BadFit"]
def agd:List Str:=[]
def Bk:List Str:=["stock","node"]
def Qt:List Str:=["stock","node"]
noncomputable def Bl:List RS:=
 [.ret (.comp none [("stock",0)] .list [(.call 0 [(.v 1)])] none (.bO 0 "read" (.v 1) [(.ix (.v 0) (.c (.int 0))),(.ix (.v 0) (.c (.int 1)))]))]
def age:List Str:=["pieces_of"]
def agf:List Str:=[]
def Qu:List Str:=[]
def agg:List Str:=["read"]
def agh:List Str:=[]
def agi:List Str:=[]
def agj:List Str:=[]
def Bm:List Str:=["self","stock","node"]
def Qw:List Str:=["self","stock","node"]
noncomputable def Bn:List RS:=
 [.iO (.v 0) "stock" (.v 1),
 .iO (.v 0) "node" (.v 2)]
def agk:List Str:=[]
def agl:List Str:=[]
def Qx:List Str:=[]
def agm:List Str:=[]
def agn:List Str:=[]
def ago:List Str:=[]
def agp:List Str:=[]
def Bo:List Str:=["self"]
def Qy:List Str:=["self"]
noncomputable def Bp:List RS:=
 [.ret (.call 0 [(.fld (.v 0) "node")])]
def agq:List Str:=["size_of"]
def agr:List Str:=[]
def Qz:List Str:=[]
def ags:List Str:=[]
def agt:List Str:=[]
def agu:List Str:=[]
def agv:List Str:=[]
def Bq:List Str:=["self"]
def QC:List Str:=["self"]
noncomputable def Br:List RS:=
 [.ret (.bin .Add (.call 0 [(.fld (.v 0) "node")]) (.c (.int 1)))]
def agw:List Str:=["ends_of"]
def agx:List Str:=[]
def QD:List Str:=[]
def agy:List Str:=[]
def agz:List Str:=[]
def agA:List Str:=[]
def agB:List Str:=[]
def Bs:List Str:=["self"]
def QE:List Str:=["self"]
noncomputable def Bt:List RS:=
 [.ret (.bZ .join (.c (.str "")) [(.call 0 [(.fld (.v 0) "stock"),(.fld (.v 0) "node")])])]
def agC:List Str:=["texts_of"]
def agD:List Str:=[]
def QF:List Str:=[]
def agE:List Str:=[]
def agF:List Str:=[]
def agG:List Str:=[]
def agH:List Str:=[]
def Bu:List Str:=["self","begin","end","ahead"]
def QG:List Str:=["self","begin","end"]
noncomputable def Bv:List RS:=
 [.ite (.or [(.not (.call 0 [(.v 1),(.c (.int 0)),(.bO 0 "size" (.v 0) [])])),(.not (.call 0 [(.v 2),(.v 1),(.bO 0 "size" (.v 0) [])]))]) [.d_ 0 [(.c (.str "a part leads from a place of the text to one that is no less"))]] [],
 .asg 3 (.ix (.call 1 [(.fld (.v 0) "node"),(.v 2),(.fld (.v 0) "stock")]) (.c (.int 0))),
 .ret (.bZ .join (.c (.str "")) [(.call 2 [(.fld (.v 0) "stock"),(.ix (.call 1 [(.v 3),(.v 1),(.fld (.v 0) "stock")]) (.c (.int 1)))])])]
def agI:List Str:=["is_between","parted","texts_of"]
def agJ:List Str:=[]
def QH:List Str:=[]
def agK:List Str:=["size"]
def agL:List Str:=[]
def agM:List Str:=["NoPlace"]
def agN:List Str:=[]
def Bw:List Str:=["self","change","ahead","rest","part","sides"]
def QI:List Str:=["self","change"]
noncomputable def Bx:List RS:=
 [.drop (.call 0 [(.v 0),(.v 1)]),
 .asg 2 (.c .az),
 .asg 3 (.fld (.v 0) "node"),
 .iN 4 .list [(.v 1)] [.ite (.cmp .Eq (.ix (.v 4) (.c (.int 0))) (.c (.str "put"))) [.asg 2 (.call 1 [(.v 2),(.call 2 [(.fld (.v 0) "stock"),(.ix (.v 4) (.c (.int 1)))])]),
   .cont] [],
  .asg 5 (.call 3 [(.v 3),(.call 4 [(.v 4)]),(.fld (.v 0) "stock")]),
  .asg 3 (.ix (.v 5) (.c (.int 1))),
  .ite (.cmp .Eq (.ix (.v 4) (.c (.int 0))) (.c (.str "keep"))) [.asg 2 (.call 1 [(.v 2),(.ix (.v 5) (.c (.int 0)))])] []],
 .ret (.make 0 [(.fld (.v 0) "stock"),(.v 2)])]
def agO:List Str:=["need_fit","sewn","node_put","parted","part_size"]
def agP:List Str:=[]
def QJ:List Str:=[]
def agQ:List Str:=[]
def agR:List Str:=["Paper"]
def agS:List Str:=[]
def agT:List Str:=[]
structure gA (K:Frag) (C:Addr):Prop where
 cl:fB K C
 gB:fD K C "stock"
 jw:fD K C "node"
end L2.B
namespace L2
open PySem PySem.Spec PyProof.Rows
section
variable {X:Cx}
def vU(K:Frag):List V→Hp→VK→Prop:=fun xs H Q=> ∃(p:Addr) (bs:List Bool),xs=[.ref p]∧aM K H p (bs.map V.bl)∧Q (.bl (bs.all id)) H
theorem By: ∀{bs:List Bool} {us:List Value},Vals (bs.map V.bl) us→us=bs.map Value.bool
 | [],_, .nil=>rfl
 | b::r,_, .cons e t=>by
  have e':_=Value.bool b:=e
  rw[List.map_cons,←By t,e']
theorem all_range(bs:List Bool):((List.range bs.length).all fun i=> (bs[i]?).getD true)=bs.all id:=by
 rw[Bool.eq_iff_iff,List.all_eq_true,List.all_eq_true]
 constructor
 ·intro h b hb
  obtain⟨i,hi,rfl⟩:=List.getElem_of_mem hb
  have:=h i (List.mem_range.mpr hi)
  simpa[hi] using this
 ·intro h i hi
  have hi:=List.mem_range.mp hi
  have:=h _ (List.getElem_mem hi)
  simpa[hi] using this
theorem agU(hc:X.calm=true):b9 X (.builtin "all") (vU X.K):=by
 intro pins s σ H xs us Q I r h
 obtain⟨p,bs,rfl,hq,q⟩:=h
 obtain⟨u,rfl,ru⟩:=vals1 r
 cases ru
 obtain⟨its,rv,pl,hz⟩:=I.list hq
 have e:=By rv
 subst e
 have bC: @LT.lt Nat _ p s.heap.objs.size:=by obtain⟨_,e,_⟩:=pl.isList;exact Heap.lt_size e
 refine call_all_walk (wpAny_pyIter_list pl.isList ?_)
 refine⟨s.heap.objs.size,[s.heap.objs.size,p],[s.heap.objs.size],(bs.map Value.bool).toArray.size,_,_,fun i=> (bs[i]?).getD true,rfl,
  Walks.list (A:=X.A.in1) (I.ok.hd hc) _ p (Nat.ne_of_lt bC) _,⟨⟨_,Heap.get?_push_size _ rfl,rfl,rfl⟩,pl.isList.push _⟩,fun i v s' Q' E' hP hQ=> ?_,fun h' tk hk=> ?_⟩
 ·have hX:(bs.map Value.bool)[i]?=some v:=by simpa using hP
  rw[List.getElem?_map] at hX
  cases eb:bs[i]? with
  | none=>rw[eb] at hX;cases hX
  | some b=>
   rw[eb] at hX
   cases hX
   have rY:Q' ((bs[i]?).getD true) s':=hQ
   rw[eb] at rY
   exact wpAny_truthy_bool rY
 ·have e:((List.range (bs.map Value.bool).toArray.size).all fun i=> (bs[i]?).getD true)=bs.all id:=by
   have e0:(bs.map Value.bool).toArray.size=bs.length:=by simp
   rw[e0];exact all_range bs
  rw[e]
  refine⟨.bl _,H,I.kept (t':=tk) fun b o e=> ?_,rfl,q⟩
  exact hk b o (fun hm=>by rw[List.mem_singleton.mp hm] at e;exact Nat.lt_irrefl _ (Heap.lt_size e)) (Heap.get?_push_of_some _ e)
theorem boot_all:bootBuiltins "all"=some (.builtin "all"):=by decide+kernel
theorem QK{P:Program}{w:World}{K:Frag}{tg:Expr}{ty:String}(z:Str)(t:Tok)(it:Addr)
  (hn:["enumerate","zip","dict_itemiterator","dict_reverseitemiterator","odict_iterator","itertools.zip_longest","itertools.pairwise"].contains ty=false)
  (W: ∀A:Around,A.handled=none→Walks P w A it [it] [it] z.cps.size (SignAt z) (fun i h=>h.IsStrIter it ty z t i))
  (hs: ∀(A:Around) (i:Nat) (s:Shared) (Q:Value→Shared→Prop) (E:Value→Shared→Prop),s.heap.IsStrIter it ty z t i→Q (.ref it) s→wpAny (model P w) A (pyIter (.ref it)) Q E s):
  Turn P w K tg (rD z) [it] it (fun i h=>h.IsStrIter it ty z t i) where
 mem:=by simp
 obj:=fun i h st b hb=>by
  obtain rfl:b=it:=by simpa using hb
  obtain⟨o,e,c,d⟩:=st
  exact⟨o,e,fun v q=>by rw[d] at q;cases q⟩
 keep:=fun i h h' st k=>by
  obtain⟨o,e,c⟩:=st
  exact⟨o,k it (by simp) o e,c⟩
 item:=by
  intro X hP hw hK hc i pins s σ H E I hf st hg
  subst hP hw hK
  obtain⟨f0,f1,f2,f3,f4,f5⟩:=hf it (by simp)
  refine(W X.A (I.ok.hd hc)).item i s _ _ hg st fun v h' tk hv da kk=> ?_
  obtain⟨c,u,ec,rfl⟩:=hv
  have I1:Inv X pins σ H {s with heap:=h',toks:=tk}:=I.turned (t':=tk) (fun b o hb e=>kk b o (by simpa using hb) e) f0 f1 f3 f4 f5
  obtain⟨o,e,c0,d⟩:=id da
  exact⟨_,rfl,uF (s:={s with heap:=h',toks:=tk}) e c0 d hn ⟨.str ⟨#[c]⟩,H,I1,⟨u,rfl⟩,⟨rfl,c,ec,rfl⟩,da,fun b hb=> (hf b hb).1⟩⟩
 done:=by
  intro X hP hw hK hc i pins s σ H E I hf st hg
  subst hP hw hK
  obtain⟨f0,f1,f2,f3,f4,f5⟩:=hf it (by simp)
  have hg':i=z.cps.size:=hg
  subst hg'
  exact(W X.A (I.ok.hd hc)).done s _ _ st fun h' tk kk=> ⟨rfl,I.turned (t':=tk) (fun b o hb e=>kk b o (by simpa using hb) e) f0 f1 f3 f4 f5⟩
 self:=fun A i s Q E st h=>hs A i s Q E st h
theorem agW{tg l:Expr}{tl:TE}(hl:PE X l tl):PI X tg l (Oo tl):=by
 intro pins s σ H R I h
 refine bf (hl pins s σ H _ I h) fun v s1 ⟨x,H1,I1,r1,q1⟩=> ?_
 obtain⟨z,e,q⟩:=q1
 subst e
 obtain⟨t,rfl⟩:=r1
 have fp: ∀b∈ [s1.heap.objs.size],fS X pins H1 b:=fun b hb=>by
  obtain rfl:b=s1.heap.objs.size:=by simpa using hb
  exact I1.pe (zqR _) (I1.aR.fresh (zqR _))
 cases ha:z.cps.all (· <128)
 ·exact wpAny_pyIter_wide ha ⟨s1.heap.objs.size,[s1.heap.objs.size],_,_,H1,rfl,I1.kept (t':=s1.toks) fun b o e=>Heap.get?_push_of_some _ e,
   QK z t _ (by decide) (fun A hA=>Walks.strWide hA _ z t) (fun A i s Q E st h=>wpAny_pyIter_striter_wide st h),⟨_,Heap.get?_push_size _ rfl,rfl,rfl⟩,fp,q⟩
 ·exact wpAny_pyIter_ascii ha ⟨s1.heap.objs.size,[s1.heap.objs.size],_,_,H1,rfl,I1.kept (t':=s1.toks) fun b o e=>Heap.get?_push_of_some _ e,
   QK z t _ (by decide) (fun A hA=>Walks.strAscii hA _ z t) (fun A i s Q E st h=>wpAny_pyIter_striter_ascii st h),⟨_,Heap.get?_push_size _ rfl,rfl,rfl⟩,fp,q⟩
end
def Bz:Frag→TA→TE:=fun K t=>dq (vU K) t
section
variable {CX:aG} {S:cZ} {Γ:aC} {X:Cx} {e e2 a b c d:Expr} {es:List Expr} {x:Str} {p q pos:Pos} {r ra rb rc:RE} {rs:List RE} {i j:Nat}
theorem agX(G:Good CX S Γ X)(hA:PA X (e::es) (bH Γ (r::rs)))(h:kB S x "all"=true:=by kernel_rfl)(hn:ef (e::es)=true:=by kernel_rfl)(hq:S.md=0:=by rfl):PE X (.Call (.Name x p) (e::es) [] pos) (aj Γ (.xt Bz (r::rs))):=by
 simp only[kB,Bool.and_eq_true,decide_eq_true_eq] at h
 obtain⟨⟨rfl,h2⟩,h3⟩:=h
 show PE X _ (dq (vU Γ.K) (bH Γ (r::rs)))
 rw[←G.K]
 exact uO (agU (G.calm hq)) (G.gl h2) (G.gu _ h3) boot_all hA (by decide) (by decide) (di (cI hn).1) (fV _ _ es (cI hn).2)
theorem QL{n:Nat}(h4:n<29)(hf:(backTo pos (starEach es X.env)).all (fun x=> !x.1)=true)(hn:n=es.length):((backTo pos (starEach es X.env)).all (fun x=> !x.1) && (backToKw pos (keywordEach [] X.env)).all (fun x=>x.1.isSome)
   && decide (es.length+ ([]:List Keyword).length+ (if ([]:List Keyword).isEmpty then 0 else 1) <30))=true:=by
 subst hn
 rw[hf]
 show(true && true && decide (es.length+0+0<30))=true
 rw[zqT (by omega)];rfl
theorem QM{T:Frag→TA→TE}(G:Good CX S Γ X)(h:PE X (.Call a es [] p) (aj Γ (.xt T rs))):PT X (.Call a es [] p) (bE Γ (.xt T rs)):=by
 show PT X _ (ee Γ.K (aj Γ (.xt T rs)))
 rw[←G.K]
 exact rO h fun _=>rfl
theorem agY{tg:Expr}(ha:PE X a (aj Γ ra)):PI X tg a (eS Γ .txt [ra]):=agW ha
end
section
variable {CX:aG} {S:cZ} {Γ:aC} {X:Cx} {a b:Expr} {x:Str} {p q pos:Pos} {ra rb:RE}
end
end L2
namespace L2.B
open PySem PySem.Spec PyProof.Rows
def BA:List Str:=["_law_cell","_law_k","_law_number"]
def QN:List Str:=["_law_cell","_law_k"]
noncomputable def BB:List RS:=
 [.asg 2 (.bin .Mod (.bin .Add (.bin .Add (.bin .Mult (.v 0) (.c (.int 48271))) (.bin .Mult (.c (.int 7919)) (.v 1))) (.c (.int 12345))) (.c (.int 2147483647))),
 .ret (.bin .Mod (.bin .Mult (.bin .Mod (.bin .Mult (.v 2) (.v 2)) (.c (.int 2147483647))) (.v 2)) (.c (.int 2147483647)))]
def agZ:List Str:=[]
def ag0:List Str:=[]
def QO:List Str:=[]
def ag1:List Str:=[]
def ag2:List Str:=[]
def ag3:List Str:=[]
def ag4:List Str:=[]
def BC:List Str:=["_law_cell","_law_many","_law_some","_law_text","_law_k","_law_number"]
def QP:List Str:=["_law_cell","_law_many"]
noncomputable def BD:List RS:=
 [.asg 2 (.c (.str " !\"#$&'()*+,-./0123456789:;<=>?@ABCDEFGHIJKLMNOPQRSTUVWXYZ[\\]^_`")),
 .asg 2 (.bin .Add (.v 2) (.c (.str "abcdefghijklmnopqrstuvwxyz{|}~"))),
 .asg 3 (.c (.str "")),
 .iN 4 .fQ [(.v 1)] [.asg 5 (.call 0 [(.v 0),(.v 4)]),
  .asg 3 (.bin .Add (.v 3) (.ix (.lst [(.c (.str "\n")),(.ix (.c (.str "ab")) (.bin .Mod (.bin .FloorDiv (.v 5) (.c (.int 8))) (.c (.int 2)))),(.ix (.v 2) (.bin .Mod (.bin .FloorDiv (.v 5) (.c (.int 8))) (.c (.int 94)))),(.ix (.v 2) (.bin .Mod (.bin .FloorDiv (.v 5) (.c (.int 8))) (.c (.int 94))))]) (.bin .Mod (.v 5) (.c (.int 4)))))],
 .ret (.v 3)]
def ag5:List Str:=["_law_mixed"]
def ag6:List Str:=[]
def QR:List Str:=["range"]
def ag7:List Str:=[]
def ag8:List Str:=[]
def ag9:List Str:=[]
def ag_:List Str:=[]
def BE:List Str:=["_law_parts","_law_found","_law_put","_law_cut","_law_word","_law_thing"]
def QS:List Str:=["_law_parts"]
noncomputable def BF:List RS:=
 [.asg 1 (.lst []),
 .asg 2 (.c (.str "")),
 .asg 3 (.c (.str "")),
 .pw [4,5] .list [(.bin .Add (.v 0) (.lst [(.tup [(.c (.str "end")),(.c (.int 0))])]))] [.ite (.cmp .Eq (.v 4) (.c (.str "put"))) [.asg 2 (.bin .Add (.v 2) (.v 5))] [.ite (.cmp .Eq (.v 4) (.c (.str "cut"))) [.asg 3 (.bin .Add (.v 3) (.v 5))] [.ite (.or [(.cmp .Eq (.v 4) (.c (.str "end"))),(.cmp .Gt (.v 5) (.c (.int 0)))]) [.asg 1 (.bin .Add (.bin .Add (.v 1) (.bin .Mult (.lst [(.tup [(.c (.str "put")),(.v 2)])]) (.blt .int [(.cmp .NotEq (.v 2) (.c (.str "")))]))) (.bin .Mult (.lst [(.tup [(.c (.str "cut")),(.v 3)])]) (.blt .int [(.cmp .NotEq (.v 3) (.c (.str "")))]))),
     .asg 2 (.c (.str "")),
     .asg 3 (.c (.str "")),
     .ite (.and [(.cmp .Eq (.v 4) (.c (.str "keep"))),(.cmp .NotEq (.v 1) (.lst [])),(.cmp .Eq (.ix (.ix (.v 1) (.neg (.c (.int 1)))) (.c (.int 0))) (.c (.str "keep")))]) [.set (.v 1) (.neg (.c (.int 1))) (.tup [(.c (.str "keep")),(.bin .Add (.ix (.ix (.v 1) (.neg (.c (.int 1)))) (.c (.int 1))) (.v 5))])] [.ite (.cmp .Eq (.v 4) (.c (.str "keep"))) [.drop (.bZ .append (.v 1) [(.tup [(.c (.str "keep")),(.v 5)])])] []]] []]]],
 .ret (.v 1)]
def aha:List Str:=[]
def ahb:List Str:=[]
def QU:List Str:=["int"]
def ahc:List Str:=[]
def ahd:List Str:=[]
def ahe:List Str:=[]
def ahf:List Str:=[]
def jx:List Str:=["_law_cell","_law_text","_law_parts","_law_at","_law_k","_law_number","_law_size"]
def QV:List Str:=["_law_cell","_law_text"]
noncomputable def eV:List RS:=
 [.asg 2 (.lst []),
 .asg 3 (.c (.int 0)),
 .iN 4 .fQ [(.bin .Add (.c (.int 1)) (.bin .Mod (.v 0) (.c (.int 7))))] [.asg 5 (.call 0 [(.v 0),(.bin .Add (.c (.int 40)) (.v 4))]),
  .ite (.cmp .Eq (.bin .Mod (.v 5) (.c (.int 3))) (.c (.int 0))) [.drop (.bZ .append (.v 2) [(.tup [(.c (.str "put")),(.call 1 [(.v 5),(.bin .Add (.c (.int 1)) (.bin .Mult (.bin .Mod (.bin .FloorDiv (.v 5) (.c (.int 3))) (.c (.int 4))) (.bin .Add (.c (.int 1)) (.bin .Mod (.bin .FloorDiv (.v 5) (.c (.int 12))) (.c (.int 3))))))])])])] [],
  .asg 6 (.blt .min [(.bin .Sub (.blt .len [(.v 1)]) (.v 3)),(.bin .Mod (.bin .FloorDiv (.v 5) (.c (.int 36))) (.bin .Add (.c (.int 2)) (.bin .FloorDiv (.blt .len [(.v 1)]) (.c (.int 3)))))]),
  .ite (.and [(.cmp .Eq (.bin .Mod (.bin .FloorDiv (.v 5) (.c (.int 5))) (.c (.int 3))) (.c (.int 0))),(.cmp .Gt (.v 6) (.c (.int 0)))]) [.drop (.bZ .append (.v 2) [(.tup [(.c (.str "cut")),(.sl (.v 1) (some (.v 3)) (some (.bin .Add (.v 3) (.v 6))))])])] [.drop (.bZ .append (.v 2) [(.tup [(.c (.str "keep")),(.v 6)])])],
  .asg 3 (.bin .Add (.v 3) (.v 6))],
 .drop (.bZ .append (.v 2) [(.tup [(.c (.str "keep")),(.bin .Sub (.blt .len [(.v 1)]) (.v 3))])]),
 .ite (.cmp .Eq (.bin .Mod (.bin .FloorDiv (.v 0) (.c (.int 7))) (.c (.int 3))) (.c (.int 0))) [.drop (.bZ .append (.v 2) [(.tup [(.c (.str "put")),(.call 1 [(.v 0),(.bin .Add (.c (.int 1)) (.bin .Mod (.bin .FloorDiv (.v 0) (.c (.int 21))) (.c (.int 5))))])])])] [],
 .ret (.call 2 [(.v 2)])]
def mj:List Str:=["_law_mixed","_law_text_by","_law_neat"]
def mm:List Str:=[]
def kl:List Str:=["range","min","len"]
def mq:List Str:=[]
def mr:List Str:=[]
def mv:List Str:=[]
def mw:List Str:=[]
def BG:List Str:=["_law_text","_law_change","_law_found","_law_at","_law_word","_law_thing"]
def QW:List Str:=["_law_text","_law_change"]
noncomputable def BH:List RS:=
 [.asg 2 (.c (.str "")),
 .asg 3 (.c (.int 0)),
 .pw [4,5] .list [(.v 1)] [.ite (.cmp .Eq (.v 4) (.c (.str "put"))) [.asg 2 (.bin .Add (.v 2) (.v 5))] [.ite (.cmp .Eq (.v 4) (.c (.str "keep"))) [.asg 2 (.bin .Add (.v 2) (.sl (.v 0) (some (.v 3)) (some (.bin .Add (.v 3) (.v 5))))),
    .asg 3 (.bin .Add (.v 3) (.v 5))] [.asg 3 (.bin .Add (.v 3) (.blt .len [(.v 5)]))]]],
 .ret (.v 2)]
def ahg:List Str:=[]
def ahh:List Str:=[]
def QX:List Str:=["len"]
def ahi:List Str:=[]
def ahj:List Str:=[]
def ahk:List Str:=[]
def ahl:List Str:=[]
def BI:List Str:=["node","place","stock","ends","piece","begin","end","ahead"]
def QY:List Str:=["node","place","stock"]
noncomputable def BJ:List RS:=
 [.asg 3 (.c (.int 0)),
 .eR (.cmp .IsNot (.v 0) (.c .az)) [.asg 4 (.ix (.v 0) (.c (.int 1))),
  .asg 5 (.call 0 [(.ix (.v 0) (.c (.int 0)))]),
  .asg 6 (.bin .Add (.v 5) (.ix (.v 4) (.c (.int 1)))),
  .ite (.cmp .LtE (.v 1) (.v 5)) [.asg 0 (.ix (.v 0) (.c (.int 0)))] [.ite (.cmp .Lt (.v 1) (.v 6)) [.asg 7 (.bin .Sub (.bO 0 "ends_ahead" (.v 2) [(.bin .Sub (.bin .Add (.ix (.v 4) (.c (.int 0))) (.v 1)) (.v 5))]) (.bO 0 "ends_ahead" (.v 2) [(.ix (.v 4) (.c (.int 0)))])),
    .ret (.bin .Add (.bin .Add (.v 3) (.call 1 [(.ix (.v 0) (.c (.int 0)))])) (.v 7))] [.asg 3 (.bin .Add (.bin .Add (.v 3) (.call 1 [(.ix (.v 0) (.c (.int 0)))])) (.ix (.v 4) (.c (.int 2)))),
    .asg 1 (.bin .Sub (.v 1) (.v 6)),
    .asg 0 (.ix (.v 0) (.c (.int 2)))]]],
 .ret (.v 3)]
def ahm:List Str:=["size_of","ends_of"]
def ahn:List Str:=[]
def QZ:List Str:=[]
def aho:List Str:=["ends_ahead"]
def ahp:List Str:=[]
def ahq:List Str:=[]
def ahr:List Str:=[]
def BK:List Str:=["node","number","stock","place","begin","end"]
def Q0:List Str:=["node","number","stock"]
noncomputable def BL:List RS:=
 [.asg 3 (.c (.int 0)),
 .eR (.or [(.cmp .Lt (.v 1) (.call 0 [(.ix (.v 0) (.c (.int 0)))])),(.cmp .GtE (.v 1) (.bin .Add (.call 0 [(.ix (.v 0) (.c (.int 0)))]) (.ix (.ix (.v 0) (.c (.int 1))) (.c (.int 2)))))]) [.ite (.cmp .Lt (.v 1) (.call 0 [(.ix (.v 0) (.c (.int 0)))])) [.asg 0 (.ix (.v 0) (.c (.int 0)))] [.asg 1 (.bin .Sub (.bin .Sub (.v 1) (.call 0 [(.ix (.v 0) (.c (.int 0)))])) (.ix (.ix (.v 0) (.c (.int 1))) (.c (.int 2)))),
   .asg 3 (.bin .Add (.bin .Add (.v 3) (.call 1 [(.ix (.v 0) (.c (.int 0)))])) (.ix (.ix (.v 0) (.c (.int 1))) (.c (.int 1)))),
   .asg 0 (.ix (.v 0) (.c (.int 2)))]],
 .asg 4 (.ix (.ix (.v 0) (.c (.int 1))) (.c (.int 0))),
 .asg 5 (.bO 0 "end_place" (.v 2) [(.bin .Sub (.bin .Add (.bO 1 "ends_ahead" (.v 2) [(.v 4)]) (.v 1)) (.call 0 [(.ix (.v 0) (.c (.int 0)))]))]),
 .ret (.bin .Sub (.bin .Add (.bin .Add (.v 3) (.call 1 [(.ix (.v 0) (.c (.int 0)))])) (.v 5)) (.v 4))]
def ahs:List Str:=["ends_of","size_of"]
def aht:List Str:=[]
def Q2:List Str:=[]
def ahu:List Str:=["end_place","ends_ahead"]
def ahv:List Str:=[]
def ahw:List Str:=[]
def ahx:List Str:=[]
def BM:List Str:=["self","number"]
def Q3:List Str:=["self","number"]
noncomputable def BN:List RS:=
 [.ret (.ix (.fld (.v 0) "feeds") (.v 1))]
def ahy:List Str:=[]
def ahz:List Str:=[]
def Q4:List Str:=[]
def ahA:List Str:=[]
def ahB:List Str:=[]
def ahC:List Str:=[]
def ahD:List Str:=[]
def BO:List Str:=["self","line"]
def Q5:List Str:=["self","line"]
noncomputable def BP:List RS:=
 [.ret (.fE (.cmp .Eq (.v 1) (.c (.int 0))) (.c (.int 0)) (.bin .Add (.call 0 [(.fld (.v 0) "node"),(.bin .Sub (.v 1) (.c (.int 1))),(.fld (.v 0) "stock")]) (.c (.int 1))))]
def ahE:List Str:=["place_of_end"]
def ahF:List Str:=[]
def Q6:List Str:=[]
def ahG:List Str:=[]
def ahH:List Str:=[]
def ahI:List Str:=[]
def ahJ:List Str:=[]
def BQ:List Str:=["self","line","last","end"]
def Q7:List Str:=["self","line"]
noncomputable def BR:List RS:=
 [.ite (.not (.call 0 [(.v 1),(.c (.int 0)),(.bin .Sub (.bO 0 "lines" (.v 0) []) (.c (.int 1)))])) [.d_ 0 [(.c (.str "the text has no such line"))]] [],
 .asg 2 (.cmp .Eq (.v 1) (.bin .Sub (.bO 0 "lines" (.v 0) []) (.c (.int 1)))),
 .asg 3 (.fE (.v 2) (.bO 1 "size" (.v 0) []) (.call 1 [(.fld (.v 0) "node"),(.v 1),(.fld (.v 0) "stock")])),
 .ret (.bin .Sub (.v 3) (.bO 2 "line_begin" (.v 0) [(.v 1)]))]
def ahK:List Str:=["is_between","place_of_end"]
def ahL:List Str:=[]
def Q8:List Str:=[]
def ahM:List Str:=["lines","size","line_begin"]
def ahN:List Str:=[]
def ahO:List Str:=["NoPlace"]
def ahP:List Str:=[]
def BS:List Str:=["self","place","line"]
def Q9:List Str:=["self","place"]
noncomputable def BU:List RS:=
 [.ite (.not (.call 0 [(.v 1),(.c (.int 0)),(.bO 0 "size" (.v 0) [])])) [.d_ 0 [(.c (.str "the text has no such place"))]] [],
 .asg 2 (.call 1 [(.fld (.v 0) "node"),(.v 1),(.fld (.v 0) "stock")]),
 .ret (.tup [(.v 2),(.bin .Sub (.v 1) (.bO 1 "line_begin" (.v 0) [(.v 2)]))])]
def ahQ:List Str:=["is_between","ends_ahead_of"]
def ahR:List Str:=[]
def Q_:List Str:=[]
def ahS:List Str:=["size","line_begin"]
def ahT:List Str:=[]
def ahU:List Str:=["NoPlace"]
def ahV:List Str:=[]
def BV:List Str:=["self","line","column"]
def Ra:List Str:=["self","line","column"]
noncomputable def BW:List RS:=
 [.ite (.not (.call 0 [(.v 2),(.c (.int 0)),(.bO 0 "line_size" (.v 0) [(.v 1)])])) [.d_ 0 [(.c (.str "the line has no such column"))]] [],
 .ret (.bin .Add (.bO 1 "line_begin" (.v 0) [(.v 1)]) (.v 2))]
def ahW:List Str:=["is_between"]
def ahX:List Str:=[]
def Rb:List Str:=[]
def ahY:List Str:=["line_size","line_begin"]
def ahZ:List Str:=[]
def ah0:List Str:=["NoPlace"]
def ah1:List Str:=[]
end L2.B
namespace L2
open PySem PySem.Spec PyProof.Rows
section
variable {X:Cx}
def vV:V→List V→Hp→VK→Prop:=fun x vs H Q=> ∃z y,x= .str z∧vs=[.str y]∧(y.length==0)=false∧z.length≤1000000∧ ∀l,H l=none→Q (.ref l) (upd H l (.lst ((Txt.split z y).map V.str)))
theorem Rf: ∀(l:List (Str×Tok)),Vals ((l.map (·.1)).map V.str) (strValues l)
 | []=> .nil
 | (x,t)::r=> .cons ⟨t,rfl⟩ (Rf r)
theorem ah2:iH X "str.split" vV:=by
 intro pins s σ H x vs v us Q I rx rv h
 obtain⟨z,y,rfl,rfl,hy,hz,q⟩:=h
 obtain⟨t,rfl⟩:=rx
 obtain⟨u,rfl,⟨t2,rfl⟩⟩:=vals1 rv
 have hs:z.length≤sizeLine:=Nat.le_trans hz (by decide)
 have hn:(Builtin.Str.partsBetween z (Builtin.Str.occurrences z y 0 z.length (z.length+1)) y.length).length≤sizeLine:=by
  have e1:=StrLaws.occ_length_le z y 0 z.length (z.length+1)
  rw[length_partsBetween]
  have:z.length+2≤sizeLine:=Nat.le_trans (Nat.add_le_add_right hz 2) (by decide)
  omega
 have ln:(Txt.split z y).length≤sizeLine:=by
  unfold Txt.split
  split
  ·show 1≤sizeLine;decide
  ·split
   ·show 1≤sizeLine;decide
   ·exact hn
 have qq:=q s.heap.objs.size (I.aR.fresh (zqR _))
 have fin: ∀(l:List (Str×Tok)) (k:Nat),l.map (·.1)=Txt.split z y→EP X pins σ Q (.ref s.heap.objs.size) {s with toks:=k,heap:=s.heap.push {cls:= .type "list",data:= .seq (strValues l).toArray}}:=fun l k e=>by
  rw[←e] at qq ln
  exact⟨.ref s.heap.objs.size,_,I.laid (o:= .lst ((l.map (·.1)).map V.str)) (t':=k) (fun b u e=>Heap.get?_push_of_some _ e) (zqR _) ⟨by rw[List.length_map];exact ln,_,_,Rf l,Heap.get?_push_size _ rfl⟩,rfl,qq⟩
 cases h1:(decide (z.length<y.length) || decide (Builtin.Str.strKind z<Builtin.Str.strKind y))
 ·cases hf:(Builtin.Str.occurrences z y 0 z.length (z.length+1)).isEmpty
  ·refine call_meets F.slot_str_split (typeIs_str _ _ _) F.entry_str_split (F.args_str_split_2 _ _) (meets_str_split_sep z y t t2 h1 hy hf hs hn) ?_
   show wants _ _ _ {s with toks:=_,heap:=s.heap.push {cls:= .type "list",data:= .seq (strsFrom s.toks (Builtin.Str.partsBetween z (Builtin.Str.occurrences z y 0 z.length (z.length+1)) y.length)).toArray}}
   rw[strsFrom_eq]
   exact fin (numbered s.toks _) _ ((numbered_texts _ _).trans ((if_neg (ne_true_of_eq_false h1)).trans (if_neg (ne_true_of_eq_false hf))).symm)
  ·exact call_meets F.slot_str_split (typeIs_str _ _ _) F.entry_str_split (F.args_str_split_2 _ _) (meets_str_split_not_found z y t t2 h1 hy hf)
    (fin [(z,t)] s.toks ((if_neg (ne_true_of_eq_false h1)).trans (if_pos hf)).symm)
 ·exact call_meets F.slot_str_split (typeIs_str _ _ _) F.entry_str_split (F.args_str_split_2 _ _) (meets_str_split_cannot_occur z y t t2 h1)
   (fin [(z,t)] s.toks (if_pos h1).symm)
def vW:Frag→TE→TA→TE:=fun K to t=>qU K "str" vV to t
end
section
variable {CX:aG} {S:cZ} {Γ:aC} {X:Cx} {e e2 a b c d:Expr} {es:List Expr} {x:Str} {p q pos:Pos} {r ra rb rc:RE} {rs:List RE} {i j:Nat}
theorem Rg{o:Expr}{ro:RE}{ap:Pos}(G:Good CX S Γ X)(ho:PE X o (aj Γ ro))(hA:PA X (e::es) (bH Γ (r::rs)))(h:kM o "split" x (es.length+1) ap pos=true:=by kernel_rfl)(hn:ef (e::es)=true:=by kernel_rfl):PE X (.Call (.Attribute o x ap) (e::es) [] pos) (aj Γ (.xm vW ro (r::rs))):=by
 simp only[kM,Bool.and_eq_true,decide_eq_true_eq] at h
 obtain⟨⟨⟨rfl,h2⟩,h3⟩,h4⟩:=h
 show PE X _ (qU Γ.K "str" vV (aj Γ ro) (bH Γ (r::rs)))
 rw[←G.K]
 exact yR F.plainAttrs_str F.slot_str_split F.type_str_split ah2 ho hA (j_ h2) (QL h4 (rN _ _ (e::es) hn) rfl) h3 (di (cI hn).1) (fV _ _ es (cI hn).2)
end
section
variable {X:Cx}
def vX(K:Frag):List V→Hp→VK→Prop:=fun xs H Q=> ∃(p:Addr) (bs:List Bool),xs=[.ref p]∧aM K H p (bs.map V.bl)∧Q (.bl (bs.any id)) H
theorem any_range(bs:List Bool):((List.range bs.length).any fun i=> (bs[i]?).getD false)=bs.any id:=by
 rw[Bool.eq_iff_iff,List.any_eq_true,List.any_eq_true]
 constructor
 ·rintro⟨i,hi,h⟩
  have hi:=List.mem_range.mp hi
  exact⟨_,List.getElem_mem hi,by simpa[hi] using h⟩
 ·rintro⟨b,hb,h⟩
  obtain⟨i,hi,rfl⟩:=List.getElem_of_mem hb
  exact⟨i,List.mem_range.mpr hi,by simpa[hi] using h⟩
theorem ah3(hc:X.calm=true):b9 X (.builtin "any") (vX X.K):=by
 intro pins s σ H xs us Q I r h
 obtain⟨p,bs,rfl,hq,q⟩:=h
 obtain⟨u,rfl,ru⟩:=vals1 r
 cases ru
 obtain⟨its,rv,pl,hz⟩:=I.list hq
 have e:=By rv
 subst e
 have bC: @LT.lt Nat _ p s.heap.objs.size:=by obtain⟨_,e,_⟩:=pl.isList;exact Heap.lt_size e
 refine call_any_walk (wpAny_pyIter_list pl.isList ?_)
 refine⟨s.heap.objs.size,[s.heap.objs.size,p],[s.heap.objs.size],(bs.map Value.bool).toArray.size,_,_,fun i=> (bs[i]?).getD false,rfl,
  Walks.list (A:=X.A.in1) (I.ok.hd hc) _ p (Nat.ne_of_lt bC) _,⟨⟨_,Heap.get?_push_size _ rfl,rfl,rfl⟩,pl.isList.push _⟩,fun i v s' Q' E' hP hQ=> ?_,fun h' tk hk=> ?_⟩
 ·have hX:(bs.map Value.bool)[i]?=some v:=by simpa using hP
  rw[List.getElem?_map] at hX
  cases eb:bs[i]? with
  | none=>rw[eb] at hX;cases hX
  | some b=>
   rw[eb] at hX
   cases hX
   have rY:Q' ((bs[i]?).getD false) s':=hQ
   rw[eb] at rY
   exact wpAny_truthy_bool rY
 ·have e:((List.range (bs.map Value.bool).toArray.size).any fun i=> (bs[i]?).getD false)=bs.any id:=by
   have e0:(bs.map Value.bool).toArray.size=bs.length:=by simp
   rw[e0];exact any_range bs
  rw[e]
  refine⟨.bl _,H,I.kept (t':=tk) fun b o e=> ?_,rfl,q⟩
  exact hk b o (fun hm=>by rw[List.mem_singleton.mp hm] at e;exact Nat.lt_irrefl _ (Heap.lt_size e)) (Heap.get?_push_of_some _ e)
theorem ah4:bootBuiltins "any"=some (.builtin "any"):=by decide+kernel
def vY:V→List V→Hp→VK→Prop:=fun x vs H Q=> ∃z y,x= .str z∧vs=[.str y]∧z.length≤sizeLine∧Q (.str (Txt.rstripChars z y)) H
theorem ah5:iH X "str.rstrip" vY:=by
 intro pins s σ H x vs v us Q I rx rv h
 obtain⟨z,y,rfl,rfl,hz,q⟩:=h
 obtain⟨t,rfl⟩:=rx
 obtain⟨u,rfl,⟨t2,rfl⟩⟩:=vals1 rv
 refine call_gives F.slot_str_rstrip (typeIs_str _ _ _) F.entry_str_rstrip (F.args_str_rstrip_2 _ _) (gives_str_rstrip_chars z y t t2) (post_val_or_made (fun _=>fits_stripped _ _ _ hz) fun t' k=> ?_)
 exact⟨.str _,H,I.tok k,⟨t',rfl⟩,q⟩
end
def BX:Frag→TA→TE:=fun K t=>dq (vX K) t
def BY:Frag→TE→TA→TE:=fun K to t=>qU K "str" vY to t
section
variable {CX:aG} {S:cZ} {Γ:aC} {X:Cx} {e:Expr} {es:List Expr} {x:Str} {p pos:Pos} {r:RE} {rs:List RE}
theorem ah6(G:Good CX S Γ X)(hA:PA X (e::es) (bH Γ (r::rs)))(h:kB S x "any"=true:=by kernel_rfl)(hn:ef (e::es)=true:=by kernel_rfl)(hq:S.md=0:=by rfl):PE X (.Call (.Name x p) (e::es) [] pos) (aj Γ (.xt BX (r::rs))):=by
 simp only[kB,Bool.and_eq_true,decide_eq_true_eq] at h
 obtain⟨⟨rfl,h2⟩,h3⟩:=h
 show PE X _ (dq (vX Γ.K) (bH Γ (r::rs)))
 rw[←G.K]
 exact uO (ah3 (G.calm hq)) (G.gl h2) (G.gu _ h3) ah4 hA (by decide) (by decide) (di (cI hn).1) (fV _ _ es (cI hn).2)
theorem ah7{o:Expr}{ro:RE}{ap:Pos}(G:Good CX S Γ X)(ho:PE X o (aj Γ ro))(hA:PA X (e::es) (bH Γ (r::rs)))(h:kM o "rstrip" x (es.length+1) ap pos=true:=by kernel_rfl)(hn:ef (e::es)=true:=by kernel_rfl):PE X (.Call (.Attribute o x ap) (e::es) [] pos) (aj Γ (.xm BY ro (r::rs))):=by
 simp only[kM,Bool.and_eq_true,decide_eq_true_eq] at h
 obtain⟨⟨⟨rfl,h2⟩,h3⟩,h4⟩:=h
 show PE X _ (qU Γ.K "str" vY (aj Γ ro) (bH Γ (r::rs)))
 rw[←G.K]
 exact yR F.plainAttrs_str F.slot_str_rstrip F.type_str_rstrip ah5 ho hA (j_ h2) (QL h4 (rN _ _ (e::es) hn) rfl) h3 (di (cI hn).1) (fV _ _ es (cI hn).2)
end
end L2
namespace L2.B
open PySem PySem.Spec PyProof.Rows
def BZ:List Str:=["thing"]
def Rh:List Str:=["thing"]
noncomputable def B_:List RS:=
 [.ret (.or [(.cmp .Is (.v 0) (.c (.bl true))),(.cmp .Is (.v 0) (.c (.bl false)))])]
def ah8:List Str:=[]
def ah9:List Str:=[]
def Ri:List Str:=[]
def ah_:List Str:=[]
def aia:List Str:=[]
def aib:List Str:=[]
def aic:List Str:=[]
def Ca:List Str:=["cursor"]
def Rj:List Str:=["cursor"]
noncomputable def Cb:List RS:=
 [.ret (.blt .min [(.ix (.v 0) (.c (.int 0))),(.ix (.v 0) (.c (.int 1)))])]
def aid:List Str:=[]
def aie:List Str:=[]
def Rk:List Str:=["min"]
def aif:List Str:=[]
def aih:List Str:=[]
def aii:List Str:=[]
def aij:List Str:=[]
def Cc:List Str:=["cursor"]
def Rl:List Str:=["cursor"]
noncomputable def Cd:List RS:=
 [.ret (.blt .max [(.ix (.v 0) (.c (.int 0))),(.ix (.v 0) (.c (.int 1)))])]
def aik:List Str:=[]
def ail:List Str:=[]
def Rm:List Str:=["max"]
def aim:List Str:=[]
def ain:List Str:=[]
def aio:List Str:=[]
def aip:List Str:=[]
def Ce:List Str:=["cursor"]
def Rn:List Str:=["cursor"]
noncomputable def Cf:List RS:=
 [.ret (.cmp .Eq (.ix (.v 0) (.c (.int 0))) (.ix (.v 0) (.c (.int 1))))]
def aiq:List Str:=[]
def air:List Str:=[]
def Ro:List Str:=[]
def ais:List Str:=[]
def ait:List Str:=[]
def aiu:List Str:=[]
def aiv:List Str:=[]
def Cg:List Str:=["thing"]
def Rq:List Str:=["thing"]
noncomputable def Ci:List RS:=
 [.ret (.or [(.cmp .Is (.v 0) (.c .az)),(.and [(.call 0 [(.v 0)]),(.cmp .GtE (.v 0) (.c (.int 0)))])])]
def aiw:List Str:=["is_whole"]
def aix:List Str:=[]
def Rr:List Str:=[]
def aiy:List Str:=[]
def aiz:List Str:=[]
def aiA:List Str:=[]
def aiB:List Str:=[]
def Cj:List Str:=["thing","size"]
def Rt:List Str:=["thing","size"]
noncomputable def Ck:List RS:=
 [.ite (.or [(.not (.d9 .tuple (.v 0))),(.cmp .NotEq (.blt .len [(.v 0)]) (.c (.int 3)))]) [.ret (.c (.bl false))] [],
 .ret (.and [(.call 0 [(.ix (.v 0) (.c (.int 0))),(.c (.int 0)),(.v 1)]),(.call 0 [(.ix (.v 0) (.c (.int 1))),(.c (.int 0)),(.v 1)]),(.call 1 [(.ix (.v 0) (.c (.int 2)))])])]
def aiC:List Str:=["is_between","is_goal"]
def aiD:List Str:=[]
def Ru:List Str:=["isinstance","tuple","len"]
def aiE:List Str:=[]
def aiF:List Str:=[]
def aiG:List Str:=[]
def aiH:List Str:=[]
def Cm:List Str:=["begin","end","cursor"]
def Rv:List Str:=["begin","end","cursor"]
noncomputable def Cn:List RS:=
 [.ite (.cmp .Eq (.call 0 [(.v 2)]) (.v 1)) [.ret (.or [(.cmp .Eq (.v 0) (.v 1)),(.call 1 [(.v 2)])])] [],
 .ret (.cmp .Lt (.call 0 [(.v 2)]) (.v 1))]
def aiI:List Str:=["begin_of","is_empty"]
def aiJ:List Str:=[]
def Rw:List Str:=[]
def aiK:List Str:=[]
def aiL:List Str:=[]
def aiM:List Str:=[]
def aiN:List Str:=[]
def Co:List Str:=["size","cursors"]
def Rx:List Str:=["size","cursors"]
noncomputable def Cp:List RS:=
 [.ite (.or [(.not (.d9 .list (.v 1))),(.not (.iM .LtE .LtE (.c (.int 1)) (.blt .len [(.v 1)]) (.g 0)))]) [.d_ 0 [(.c (.str "cursors are a list of 1 to 40"))]] [],
 .ite (.not (.xt Bz [(.comp none [("size",0)] .list [(.v 1)] none (.call 0 [(.v 0),(.v 1)]))])) [.d_ 0 [(.c (.str "a cursor is a tuple of two places of the text and a goal"))]] [],
 .ite (.xt BX [(.comp (some 2) [] .zip [(.v 1),(.sl (.v 1) (some (.c (.int 1))) none)] none (.call 1 [(.call 2 [(.v 0)]),(.call 3 [(.v 0)]),(.v 1)]))]) [.d_ 0 [(.c (.str "cursors rise by their begins, and no two neighbours meet"))]] []]
def aiO:List Str:=["is_cursor","meet","begin_of","end_of"]
def aiP:List Str:=["MOST_CURSORS"]
def Ry:List Str:=["isinstance","list","len","all","any","zip"]
def aiQ:List Str:=[]
def aiR:List Str:=[]
def aiS:List Str:=["NoCursor"]
def aiT:List Str:=[]
def Cq:List Str:=["word","hold"]
def Rz:List Str:=["word","hold"]
noncomputable def Cr:List RS:=
 [.ite (.not (.call 0 [(.v 0),(.g 0)])) [.d_ 0 [(.c (.str "no cursor steps by this word"))]] [],
 .ite (.not (.call 1 [(.v 1)])) [.d_ 0 [(.c (.str "hold is True or False"))]] []]
def aiU:List Str:=["is_word","is_truth"]
def aiV:List Str:=["STEP_WORDS"]
def RA:List Str:=[]
def aiW:List Str:=[]
def aiX:List Str:=[]
def aiY:List Str:=["BadDeed"]
def aiZ:List Str:=[]
def Cs:List Str:=["paper","place","signs","stride","begin","rest"]
def RB:List Str:=["paper","place","signs"]
noncomputable def Ct:List RS:=
 [.asg 3 (.g 0),
 .eR (.cmp .Gt (.v 1) (.c (.int 0))) [.asg 4 (.blt .max [(.c (.int 0)),(.bin .Sub (.v 1) (.v 3))]),
  .asg 5 (.xm BY (.bO 0 "part" (.v 0) [(.v 4),(.v 1)]) [(.v 2)]),
  .ite (.cmp .NotEq (.v 5) (.c (.str ""))) [.ret (.bin .Add (.v 4) (.blt .len [(.v 5)]))] [],
  .asg 1 (.v 4),
  .asg 3 (.bin .Mult (.c (.int 2)) (.v 3))],
 .ret (.v 1)]
def ai0:List Str:=[]
def ai1:List Str:=["FIRST_STRIDE"]
def RC:List Str:=["max","len"]
def ai2:List Str:=["part"]
def ai3:List Str:=[]
def ai4:List Str:=[]
def ai5:List Str:=[]
def Cu:List Str:=["paper","place","signs","stride","end","rest"]
def RD:List Str:=["paper","place","signs"]
noncomputable def Cv:List RS:=
 [.asg 3 (.g 0),
 .eR (.cmp .Lt (.v 1) (.bO 0 "size" (.v 0) [])) [.asg 4 (.blt .min [(.bO 0 "size" (.v 0) []),(.bin .Add (.v 1) (.v 3))]),
  .asg 5 (.bZ .lstrip (.bO 1 "part" (.v 0) [(.v 1),(.v 4)]) [(.v 2)]),
  .ite (.cmp .NotEq (.v 5) (.c (.str ""))) [.ret (.bin .Sub (.v 4) (.blt .len [(.v 5)]))] [],
  .asg 1 (.v 4),
  .asg 3 (.bin .Mult (.c (.int 2)) (.v 3))],
 .ret (.v 1)]
def ai6:List Str:=[]
def ai7:List Str:=["FIRST_STRIDE"]
def RF:List Str:=["min","len"]
def ai8:List Str:=["size","part"]
def ai9:List Str:=[]
def ai_:List Str:=[]
def aja:List Str:=[]
def Cw:List Str:=["paper","place","word","spot","begin"]
def RG:List Str:=["paper","place","word"]
noncomputable def Cy:List RS:=
 [.asg 3 (.bO 0 "line_at" (.v 0) [(.v 1)]),
 .asg 4 (.bin .Sub (.v 1) (.ix (.v 3) (.c (.int 1)))),
 .ret (.fE (.cmp .Eq (.v 2) (.c (.str "home"))) (.v 4) (.bin .Add (.v 4) (.bO 1 "line_size" (.v 0) [(.ix (.v 3) (.c (.int 0)))])))]
def ajb:List Str:=[]
def ajc:List Str:=[]
def RH:List Str:=[]
def ajd:List Str:=["line_at","line_size"]
def aje:List Str:=[]
def ajf:List Str:=[]
def ajg:List Str:=[]
def Cz:List Str:=["paper","place","word"]
def RI:List Str:=["paper","place","word"]
noncomputable def CA:List RS:=
 [.ite (.cmp .Eq (.v 2) (.c (.str "left"))) [.ret (.blt .max [(.c (.int 0)),(.bin .Sub (.v 1) (.c (.int 1)))])] [],
 .ite (.cmp .Eq (.v 2) (.c (.str "right"))) [.ret (.blt .min [(.bO 0 "size" (.v 0) []),(.bin .Add (.v 1) (.c (.int 1)))])] [],
 .ite (.cmp .Eq (.v 2) (.c (.str "top"))) [.ret (.c (.int 0))] [],
 .ite (.cmp .Eq (.v 2) (.c (.str "bottom"))) [.ret (.bO 0 "size" (.v 0) [])] [],
 .ite (.cmp .Eq (.v 2) (.c (.str "back"))) [.ret (.call 0 [(.v 0),(.call 0 [(.v 0),(.v 1),(.g 0)]),(.g 1)])] [],
 .ite (.cmp .Eq (.v 2) (.c (.str "on"))) [.ret (.call 1 [(.v 0),(.call 1 [(.v 0),(.v 1),(.g 0)]),(.g 1)])] [],
 .ret (.call 2 [(.v 0),(.v 1),(.v 2)])]
def ajh:List Str:=["left_over","right_over","place_in_line"]
def aji:List Str:=["OTHER_SIGNS","WORD_SIGNS"]
def RJ:List Str:=["max","min"]
def ajj:List Str:=["size"]
def ajk:List Str:=[]
def ajl:List Str:=[]
def ajm:List Str:=[]
def CC:List Str:=["paper","line","goal","word","other"]
def RK:List Str:=["paper","line","goal","word"]
noncomputable def km:List RS:=
 [.asg 4 (.fE (.cmp .Eq (.v 3) (.c (.str "up"))) (.bin .Sub (.v 1) (.c (.int 1))) (.bin .Add (.v 1) (.c (.int 1)))),
 .ite (.cmp .Lt (.v 4) (.c (.int 0))) [.ret (.c (.int 0))] [],
 .ite (.cmp .Eq (.v 4) (.bO 0 "lines" (.v 0) [])) [.ret (.bO 1 "size" (.v 0) [])] [],
 .ret (.bO 2 "place_at" (.v 0) [(.v 4),(.blt .min [(.v 2),(.bO 3 "line_size" (.v 0) [(.v 4)])])])]
def ajn:List Str:=[]
def ajo:List Str:=[]
def RL:List Str:=["min"]
def ajp:List Str:=["lines","size","place_at","line_size"]
def ajq:List Str:=[]
def ajr:List Str:=[]
def ajs:List Str:=[]
def CD:List Str:=["cursor","head","goal","hold"]
def RM:List Str:=["cursor","head","goal","hold"]
noncomputable def CG:List RS:=
 [.ret (.tup [(.fE (.v 3) (.ix (.v 0) (.c (.int 0))) (.v 1)),(.v 1),(.v 2)])]
def ajt:List Str:=[]
def aju:List Str:=[]
def RN:List Str:=[]
def ajv:List Str:=[]
def ajw:List Str:=[]
def ajx:List Str:=[]
def ajy:List Str:=[]
def CH:List Str:=["paper","cursor","word","hold","spot","goal"]
def RO:List Str:=["paper","cursor","word","hold"]
noncomputable def r6:List RS:=
 [.ite (.cmp .In (.v 2) (.tup [(.c (.str "up")),(.c (.str "down"))])) [.asg 4 (.bO 0 "line_at" (.v 0) [(.ix (.v 1) (.c (.int 1)))]),
  .asg 5 (.fE (.cmp .Is (.ix (.v 1) (.c (.int 2))) (.c .az)) (.ix (.v 4) (.c (.int 1))) (.ix (.v 1) (.c (.int 2)))),
  .ret (.call 0 [(.v 1),(.call 1 [(.v 0),(.ix (.v 4) (.c (.int 0))),(.v 5),(.v 2)]),(.v 5),(.v 3)])] [],
 .ite (.and [(.cmp .In (.v 2) (.tup [(.c (.str "left")),(.c (.str "right"))])),(.not (.v 3)),(.not (.call 2 [(.v 1)]))]) [.ret (.call 0 [(.v 1),(.fE (.cmp .Eq (.v 2) (.c (.str "left"))) (.call 3 [(.v 1)]) (.call 4 [(.v 1)])),(.c .az),(.v 3)])] [],
 .ret (.call 0 [(.v 1),(.call 5 [(.v 0),(.ix (.v 1) (.c (.int 1))),(.v 2)]),(.c .az),(.v 3)])]
def ajz:List Str:=["with_head","place_in_next_line","is_empty","begin_of","end_of","place_by_word"]
def ajA:List Str:=[]
def RP:List Str:=[]
def ajB:List Str:=["line_at"]
def ajC:List Str:=[]
def ajD:List Str:=[]
def ajE:List Str:=[]
def CI:List Str:=["paper","cursor","word","hold"]
def RQ:List Str:=["paper","cursor","word","hold"]
noncomputable def CJ:List RS:=
 [.drop (.call 0 [(.bO 0 "size" (.v 0) []),(.lst [(.v 1)])]),
 .drop (.call 1 [(.v 2),(.v 3)]),
 .ret (.call 2 [(.v 0),(.v 1),(.v 2),(.v 3)])]
def ajF:List Str:=["need_cursors","need_step","step"]
def ajG:List Str:=[]
def RT:List Str:=[]
def ajH:List Str:=["size"]
def ajI:List Str:=[]
def ajJ:List Str:=[]
def ajK:List Str:=[]
def CK:List Str:=["_law_text","_law_place","_law_ahead"]
def RU:List Str:=["_law_text","_law_place"]
noncomputable def CL:List RS:=
 [.asg 2 (.xm vW (.sl (.v 0) none (some (.v 1))) [(.c (.str "\n"))]),
 .ret (.tup [(.bin .Sub (.blt .len [(.v 2)]) (.c (.int 1))),(.blt .len [(.ix (.v 2) (.neg (.c (.int 1))))])])]
def ajL:List Str:=[]
def ajM:List Str:=[]
def RV:List Str:=["len"]
def ajN:List Str:=[]
def ajO:List Str:=[]
def ajP:List Str:=[]
def ajQ:List Str:=[]
def CM:List Str:=["_law_text","_law_line","_law_column","_law_lines"]
def RW:List Str:=["_law_text","_law_line","_law_column"]
noncomputable def CN:List RS:=
 [.asg 3 (.xm vW (.v 0) [(.c (.str "\n"))]),
 .ret (.bin .Add (.blt .sum [(.comp none [] .list [(.sl (.v 3) none (some (.v 1)))] none (.bin .Add (.blt .len [(.v 0)]) (.c (.int 1))))]) (.blt .min [(.v 2),(.blt .len [(.ix (.v 3) (.v 1))])]))]
def ajR:List Str:=[]
def ajS:List Str:=[]
def RX:List Str:=["sum","len","min"]
def ajT:List Str:=[]
def ajU:List Str:=[]
def ajV:List Str:=[]
def ajW:List Str:=[]
def CO:List Str:=["_law_text","_law_place","_law_word","_law_some","_law_marks"]
def RY:List Str:=["_law_text","_law_place","_law_word"]
noncomputable def CQ:List RS:=
 [.asg 3 (.c (.str "abcdefghijklmnopqrstuvwxyzABCDEFGHIJKLMNOPQRSTUVWXYZ0123456789")),
 .vk 4 (.comp none [("_law_some",3)] .txt [(.v 0)] none (.cmp .In (.v 0) (.v 1))),
 .ite (.cmp .Eq (.v 2) (.c (.str "on"))) [.eR (.and [(.cmp .Lt (.v 1) (.blt .len [(.v 0)])),(.not (.ix (.v 4) (.v 1)))]) [.asg 1 (.bin .Add (.v 1) (.c (.int 1)))],
  .eR (.and [(.cmp .Lt (.v 1) (.blt .len [(.v 0)])),(.ix (.v 4) (.v 1))]) [.asg 1 (.bin .Add (.v 1) (.c (.int 1)))],
  .ret (.v 1)] [],
 .eR (.and [(.cmp .Gt (.v 1) (.c (.int 0))),(.not (.ix (.v 4) (.bin .Sub (.v 1) (.c (.int 1)))))]) [.asg 1 (.bin .Sub (.v 1) (.c (.int 1)))],
 .eR (.and [(.cmp .Gt (.v 1) (.c (.int 0))),(.ix (.v 4) (.bin .Sub (.v 1) (.c (.int 1))))]) [.asg 1 (.bin .Sub (.v 1) (.c (.int 1)))],
 .ret (.v 1)]
def ajX:List Str:=[]
def ajY:List Str:=[]
def RZ:List Str:=["len"]
def ajZ:List Str:=[]
def aj0:List Str:=[]
def aj1:List Str:=[]
def aj2:List Str:=[]
def fI:List Str:=["_law_text","_law_cursor_here","_law_word","_law_hold","_law_anchor","_law_head","_law_goal","_law_line","_law_column","_law_other"]
def R0:List Str:=["_law_text","_law_cursor_here","_law_word","_law_hold"]
noncomputable def cp:List RS:=
 [.rp [4,5,6] (.v 1),
 .rp [7,8] (.call 0 [(.v 0),(.v 5)]),
 .ite (.or [(.cmp .Eq (.v 2) (.c (.str "top"))),(.cmp .Eq (.v 2) (.c (.str "bottom")))]) [.ret (.ix (.lst [(.c (.int 0)),(.blt .len [(.v 0)])]) (.blt .int [(.cmp .Eq (.v 2) (.c (.str "bottom")))]))] [],
 .ite (.or [(.cmp .Eq (.v 2) (.c (.str "home"))),(.cmp .Eq (.v 2) (.c (.str "end")))]) [.ret (.call 1 [(.v 0),(.v 7),(.ix (.lst [(.c (.int 0)),(.blt .len [(.v 0)])]) (.blt .int [(.cmp .Eq (.v 2) (.c (.str "end")))]))])] [],
 .ite (.or [(.cmp .Eq (.v 2) (.c (.str "back"))),(.cmp .Eq (.v 2) (.c (.str "on")))]) [.ret (.call 2 [(.v 0),(.v 5),(.v 2)])] [],
 .ite (.or [(.cmp .Eq (.v 2) (.c (.str "left"))),(.cmp .Eq (.v 2) (.c (.str "right")))]) [.ite (.and [(.cmp .NotEq (.v 4) (.v 5)),(.not (.v 3))]) [.ret (.ix (.lst [(.blt .min [(.v 4),(.v 5)]),(.blt .max [(.v 4),(.v 5)])]) (.blt .int [(.cmp .Eq (.v 2) (.c (.str "right")))]))] [],
  .ret (.blt .max [(.c (.int 0)),(.blt .min [(.blt .len [(.v 0)]),(.bin .Add (.v 5) (.ix (.lst [(.neg (.c (.int 1))),(.c (.int 1))]) (.blt .int [(.cmp .Eq (.v 2) (.c (.str "right")))])))])])] [],
 .ite (.cmp .IsNot (.v 6) (.c .az)) [.asg 8 (.v 6)] [],
 .asg 9 (.bin .Add (.v 7) (.ix (.lst [(.neg (.c (.int 1))),(.c (.int 1))]) (.blt .int [(.cmp .Eq (.v 2) (.c (.str "down")))]))),
 .ite (.cmp .Lt (.v 9) (.c (.int 0))) [.ret (.c (.int 0))] [],
 .ite (.cmp .Gt (.v 9) (.bZ .count (.v 0) [(.c (.str "\n"))])) [.ret (.blt .len [(.v 0)])] [],
 .ret (.call 1 [(.v 0),(.v 9),(.v 8)])]
def gC:List Str:=["_law_at_line","_law_in_line","_law_word_place"]
def gE:List Str:=[]
def fZ:List Str:=["len","int","min","max"]
def gF:List Str:=[]
def gG:List Str:=[]
def gH:List Str:=[]
def gI:List Str:=[]
def mx:List Str:=["_law_text","_law_cursor_here","_law_word","_law_hold","_law_place","_law_goal"]
def R1:List Str:=["_law_text","_law_cursor_here","_law_word","_law_hold"]
noncomputable def f_:List RS:=
 [.asg 4 (.call 0 [(.v 0),(.v 1),(.v 2),(.v 3)]),
 .asg 5 (.c .az),
 .ite (.or [(.cmp .Eq (.v 2) (.c (.str "up"))),(.cmp .Eq (.v 2) (.c (.str "down")))]) [.asg 5 (.ix (.v 1) (.c (.int 2))),
  .ite (.cmp .Is (.v 5) (.c .az)) [.asg 5 (.ix (.call 1 [(.v 0),(.ix (.v 1) (.c (.int 1)))]) (.c (.int 1)))] []] [],
 .ret (.tup [(.ix (.lst [(.v 4),(.ix (.v 1) (.c (.int 0)))]) (.blt .int [(.v 3)])),(.v 4),(.v 5)])]
def r9:List Str:=["_law_led","_law_at_line"]
def r_:List Str:=[]
def pI:List Str:=["int"]
def se:List Str:=[]
def sf:List Str:=[]
def si:List Str:=[]
def sj:List Str:=[]
def CS:List Str:=["_law_found","_law_due"]
def R6:List Str:=["_law_found","_law_due"]
noncomputable def CU:List RS:=
 [.ite (.or [(.not (.d9 .tuple (.v 0))),(.cmp .NotEq (.blt .len [(.v 0)]) (.c (.int 3))),(.cmp .NotEq (.v 0) (.v 1))]) [.ret (.c (.bl false))] [],
 .ret (.cmp .Eq (.comp none [] .tup [(.v 0)] (some (.and [(.cmp .IsNot (.v 0) (.c .az)),(.not (.call 0 [(.v 0)]))])) (.v 0)) (.lst []))]
def aj3:List Str:=["_law_whole"]
def aj4:List Str:=[]
def R7:List Str:=["isinstance","tuple","len"]
def aj5:List Str:=[]
def aj6:List Str:=[]
def aj7:List Str:=[]
def aj8:List Str:=[]
end L2.B
namespace L2.my
open PySem PySem.Spec PyProof.Rows L2.B
def bw(i:Nat):Stmt:=(PySem.Challenge.pw_inkloom_k29_steps_by_lines.main.body).getD i (.Pass ⟨0,0,0,0⟩)
def mz:Stmt:=bw 11
theorem aj9:bh Ae O8 (aq mz):=bp
theorem aj_{CX:aG}{Γ:aC}{X:Cx}(G:aL CX (aP Ae (aq mz) acX acY O9 acZ ac0 ac1 ac2 0) Γ X):aY X (ay mz) (ar Γ Af):=by
 have g:=G.toGood
 exact(ah (aO (fW (hJ g (aa g)) (g_ (z7 g (hJ g (aa g)))))) aw)
def mB:Stmt:=bw 12
theorem aka:bh As Pw (aq mB):=bp
theorem akb{CX:aG}{Γ:aC}{X:Cx}(G:aL CX (aP As (aq mB) adX adY Px adZ ad0 ad1 ad2 0) Γ X):aY X (ay mB) (ar Γ Au):=by
 have g:=G.toGood
 exact(ah (aO (fW (aE g (af (aa g) ai)) (g_ (acz g (aa g) (aa g) (aa g))))) aw)
def mD:Stmt:=bw 13
theorem akc:bh BZ Rh (aq mD):=bp
theorem akd{CX:aG}{Γ:aC}{X:Cx}(G:aL CX (aP BZ (aq mD) ah8 ah9 Ri ah_ aia aib aic 0) Γ X):aY X (ay mD) (ar Γ B_):=by
 have g:=G.toGood
 exact(ah (aO (z6 (cP g (aa g) l_) (z5 (cP g (aa g) l_)))) aw)
def mE:Stmt:=bw 14
theorem ake:bh vL O_ (aq mE):=bp
theorem akf{CX:aG}{Γ:aC}{X:Cx}(G:aL CX (aP vL (aq mE) ac3 ac4 Pa ac5 ac6 ac7 ac8 0) Γ X):aY X (ay mE) (ar Γ vM):=by
 have g:=G.toGood
 exact(ah (aO (fW (hJ g (aa g)) (g_ (cP g (aa g) (aa g))))) aw)
def mF:Stmt:=bw 15
theorem akg:bh vN Pb (aq mF):=bp
theorem akh{CX:aG}{Γ:aC}{X:Cx}(G:aL CX (aP vN (aq mF) ac9 ac_ Pd ada adb ade adf 0) Γ X):aY X (ay mF) (ar Γ vO):=by
 have g:=G.toGood
 exact(ah (aO (fW (hJ g (aa g)) (g_ (cP g (dz g (aa g) (af (jv g) ai)) aN)))) aw)
def mG:Stmt:=bw 16
theorem aki:bh Ag Pe (aq mG):=bp
theorem akj{CX:aG}{Γ:aC}{X:Cx}(G:aL CX (aP Ag (aq mG) adg adh Pf adi adj adk adl 0) Γ X):aY X (ay mG) (ar Γ Ah):=by
 have g:=G.toGood
 exact(ah (bj (cQ (eT g (aE g (af (aa g) ai)))) (ah (eU G (af aN ai)) aw) aw) aw)
def mH:Stmt:=bw 18
theorem akk:bh rV Pg (aq mH):=bp
theorem akl{CX:aG}{Γ:aC}{X:Cx}(G:aL CX (aP rV (aq mH) adm adn Ph ado adp adq ads 0) Γ X):aY X (ay mH) (ar Γ rW):=by
 have g:=G.toGood
 exact(ah (bj (PW.pt (fG (cQ (rS g (hJ g (aa g)))) (fX (aW g (bL g (af (aa g) ai)) ak)))) (ah (aO l_) aw) aw) (ah (bj (eT g (aE g (af (aB g (aa g) ak) (af (cb (af aN ai)) ai)))) (ah (aO (fW (aE g (af (aB g (aa g) ak) ai)) (g_ (cP g (aB g (aa g) ak) ak)))) aw) aw) (ah (aO (fW (aE g (af (aB g (aa g) ak) (af (cb (af aN (af aN ai))) ai))) (fW (aE g (af (aB g (aa g) ak) ai)) (g_ (cP g (aB g (aa g) ak) aN))))) aw)))
def mI:Stmt:=bw 19
theorem akm:bh Ai Pj (aq mI):=bp
theorem akn{CX:aG}{Γ:aC}{X:Cx}(G:aL CX (aP Ai (aq mI) adt adu Pk adv adw adx ady 0) Γ X):aY X (ay mI) (ar Γ Aj):=by
 have g:=G.toGood
 exact(ah (aO (fW (cP g (aa g) (aa g)) (g_ (z7 g (fW (cP g (aa g) aN) (g_ (cP g (aa g) aN))))))) aw)
def mJ:Stmt:=bw 20
theorem ako:bh Ak Pl (aq mJ):=bp
theorem akp{CX:aG}{Γ:aC}{X:Cx}(G:aL CX (aP Ak (aq mJ) adz adA Pm adB adC adD adE 0) Γ X):aY X (ay mJ) (ar Γ Al):=by
 have g:=G.toGood
 exact(ah (bj (cQ (rS g (hJ g (aa g)))) (ah (eU G (af aN ai)) aw) aw) (ah (aI G aN) (ah (pF G (iU g (aa g)) (ah (bj (cQ (eT g (aE g (af (aa g) ai)))) (ah (eU G (af aN ai)) aw) aw) (ah (bj (cQ (eT g (aE g (af (aB g (aa g) ak) (af (aa g) ai))))) (ah (eU G (af aN ai)) aw) aw) (ah (aI G (aB g (aa g) ak)) aw)))) aw)))
def mK:Stmt:=bw 21
theorem akq:bh Am Pn (aq mK):=bp
theorem akr{CX:aG}{Γ:aC}{X:Cx}(G:aL CX (aP Am (aq mK) adF adG Po adH adI adJ adK 0) Γ X):aY X (ay mK) (ar Γ An):=by
 have g:=G.toGood
 exact(ah (aO (hG (aW g (aB g (aa g) ak) aN) (aB g (aa g) ak) (bL g (af (aB g (aa g) ak) ai)))) aw)
def mL:Stmt:=bw 22
theorem aks:bh Ao Pp (aq mL):=bp
theorem akt{CX:aG}{Γ:aC}{X:Cx}(G:aL CX (aP Ao (aq mL) adL adM Pq adN adO adP adQ 0) Γ X):aY X (ay mL) (ar Γ Ap):=by
 have g:=G.toGood
 exact(ah (ej (aE g (af (aa g) ai))) (ah (aI G (bL g (af (me (ln:=["part"]) g (by kernel_rfl) (iU g (aa g)) (Aa fun _ g=> (aW g (aB g (aa g) ak) aN)) (fun _ g=> (aE g (af (aa g) ai)))) ai))) (ah (aI G (bL g (af (me (ln:=["part"]) g (by kernel_rfl) (iU g (aa g)) (Aa fun _ g=> (aW g (aB g (aa g) ak) aN)) (fun _ g=> (aE g (af (aa g) ai)))) ai))) (ah (aO (cb (af (aa g) (af (aa g) ai)))) aw))))
def mM:Stmt:=bw 24
theorem aku:bh Aw Pz (aq mM):=bp
theorem akv{CX:aG}{Γ:aC}{X:Cx}(G:aL CX (aP Aw (aq mM) ad9 ad_ PB aea aeb aec aed 0) Γ X):aY X (ay mM) (ar Γ Ax):=by
 have g:=G.toGood
 exact(ah (aI G ak) (ah (aI G (bL g (af (aa g) ai))) (ah (hV G (aW g (aa g) (aa g)) (ah (aI G (aD g (aD g (aa g) (aa g)) ak)) (ah (bj (aW g (aB g (aa g) (aa g)) (aa g)) (ah (aI G (aD g (aa g) ak)) aw) (ah (aI G (aa g)) aw)) aw))) (ah (aO (aa g)) aw))))
def mO:Stmt:=bw 27
theorem akw:bh Ca Rj (aq mO):=bp
theorem akx{CX:aG}{Γ:aC}{X:Cx}(G:aL CX (aP Ca (aq mO) aid aie Rk aif aih aii aij 0) Γ X):aY X (ay mO) (ar Γ Cb):=by
 have g:=G.toGood
 exact(ah (aO (bL g (af (aB g (aa g) ak) (af (aB g (aa g) ak) ai)))) aw)
def mP:Stmt:=bw 28
theorem aky:bh Cc Rl (aq mP):=bp
theorem akz{CX:aG}{Γ:aC}{X:Cx}(G:aL CX (aP Cc (aq mP) aik ail Rm aim ain aio aip 0) Γ X):aY X (ay mP) (ar Γ Cd):=by
 have g:=G.toGood
 exact(ah (aO (bL g (af (aB g (aa g) ak) (af (aB g (aa g) ak) ai)))) aw)
def mQ:Stmt:=bw 29
theorem akA:bh Ce Rn (aq mQ):=bp
theorem akB{CX:aG}{Γ:aC}{X:Cx}(G:aL CX (aP Ce (aq mQ) aiq air Ro ais ait aiu aiv 0) Γ X):aY X (ay mQ) (ar Γ Cf):=by
 have g:=G.toGood
 exact(ah (aO (cP g (aB g (aa g) ak) (aB g (aa g) ak))) aw)
def mR:Stmt:=bw 30
theorem akC:bh Cg Rq (aq mR):=bp
theorem akD{CX:aG}{Γ:aC}{X:Cx}(G:aL CX (aP Cg (aq mR) aiw aix Rr aiy aiz aiA aiB 0) Γ X):aY X (ay mR) (ar Γ Ci):=by
 have g:=G.toGood
 exact(ah (aO (z6 (cP g (aa g) cJ) (z5 (fW (aE g (af (aa g) ai)) (g_ (cP g (aa g) ak)))))) aw)
def mS:Stmt:=bw 31
theorem akE:bh Cj Rt (aq mS):=bp
theorem akF{CX:aG}{Γ:aC}{X:Cx}(G:aL CX (aP Cj (aq mS) aiC aiD Ru aiE aiF aiG aiH 0) Γ X):aY X (ay mS) (ar Γ Ck):=by
 have g:=G.toGood
 exact(ah (bj (PW.pt (fG (cQ (rS g (hJ g (aa g)))) (fX (aW g (bL g (af (aa g) ai)) ak)))) (ah (aO l_) aw) aw) (ah (aO (fW (aE g (af (aB g (aa g) ak) (af ak (af (aa g) ai)))) (fW (aE g (af (aB g (aa g) ak) (af ak (af (aa g) ai)))) (g_ (aE g (af (aB g (aa g) ak) ai)))))) aw))
def mT:Stmt:=bw 32
theorem akG:bh Cm Rv (aq mT):=bp
theorem akH{CX:aG}{Γ:aC}{X:Cx}(G:aL CX (aP Cm (aq mT) aiI aiJ Rw aiK aiL aiM aiN 0) Γ X):aY X (ay mT) (ar Γ Cn):=by
 have g:=G.toGood
 exact(ah (bj (aW g (aE g (af (aa g) ai)) (aa g)) (ah (aO (z6 (cP g (aa g) (aa g)) (z5 (aE g (af (aa g) ai))))) aw) aw) (ah (aO (cP g (aE g (af (aa g) ai)) (aa g))) aw))
def mU:Stmt:=bw 33
theorem akI:bh Co Rx (aq mU):=bp
theorem akJ{CX:aG}{Γ:aC}{X:Cx}(G:aL CX (aP Co (aq mU) aiO aiP Ry aiQ aiR aiS aiT 0) Γ X):aY X (ay mU) (ar Γ Cp):=by
 have g:=G.toGood
 exact(ah (bj (PW.pt (fG (cQ (rS g (hJ g (aa g)))) (fX (cQ (acC g ak (bL g (af (aa g) ai)) (jv g)))))) (ah (eU G (af aN ai)) aw) aw) (ah (bj (cQ (QM g (agX g (af (me (ln:=["cursor"]) g (by kernel_rfl) (iU g (aa g)) rR (fun _ g=> (aE g (af (aa g) (af (aa g) ai))))) ai)))) (ah (eU G (af aN ai)) aw) aw) (ah (bj (QM g (ah6 g (af (me (ln:=["one","other"]) g (by kernel_rfl) (acF g (aa g) (ma g (aa g) (hU ak) z_)) rR (fun _ g=> (aE g (af (aE g (af (aa g) ai)) (af (aE g (af (aa g) ai)) (af (aa g) ai)))))) ai))) (ah (eU G (af aN ai)) aw) aw) aw)))
def mV:Stmt:=bw 39
theorem akK:bh Cq Rz (aq mV):=bp
theorem akL{CX:aG}{Γ:aC}{X:Cx}(G:aL CX (aP Cq (aq mV) aiU aiV RA aiW aiX aiY aiZ 0) Γ X):aY X (ay mV) (ar Γ Cr):=by
 have g:=G.toGood
 exact(ah (bj (cQ (eT g (aE g (af (aa g) (af (jv g) ai))))) (ah (eU G (af aN ai)) aw) aw) (ah (bj (cQ (eT g (aE g (af (aa g) ai)))) (ah (eU G (af aN ai)) aw) aw) aw))
def mW:Stmt:=bw 40
theorem akM:bh Cs RB (aq mW):=bp
theorem akN{CX:aG}{Γ:aC}{X:Cx}(G:aL CX (aP Cs (aq mW) ai0 ai1 RC ai2 ai3 ai4 ai5 0) Γ X):aY X (ay mW) (ar Γ Ct):=by
 have g:=G.toGood
 exact(ah (aI G (jv g)) (ah (hV G (aW g (aa g) ak) (ah (aI G (bL g (af ak (af (aD g (aa g) (aa g)) ai)))) (ah (aI G (ah7 g (dA g (aa g) (af (aa g) (af (aa g) ai))) (af (aa g) ai))) (ah (bj (aW g (aa g) aN) (ah (aO (aD g (aa g) (bL g (af (aa g) ai)))) aw) aw) (ah (aI G (aa g)) (ah (aI G (aD g ak (aa g))) aw)))))) (ah (aO (aa g)) aw)))
def mX:Stmt:=bw 41
theorem akO:bh Cu RD (aq mX):=bp
theorem akP{CX:aG}{Γ:aC}{X:Cx}(G:aL CX (aP Cu (aq mX) ai6 ai7 RF ai8 ai9 ai_ aja 0) Γ X):aY X (ay mX) (ar Γ Cv):=by
 have g:=G.toGood
 exact(ah (aI G (jv g)) (ah (hV G (aW g (aa g) (fi g (aa g))) (ah (aI G (bL g (af (fi g (aa g)) (af (aD g (aa g) (aa g)) ai)))) (ah (aI G (dz g (dA g (aa g) (af (aa g) (af (aa g) ai))) (af (aa g) ai))) (ah (bj (aW g (aa g) aN) (ah (aO (aD g (aa g) (bL g (af (aa g) ai)))) aw) aw) (ah (aI G (aa g)) (ah (aI G (aD g ak (aa g))) aw)))))) (ah (aO (aa g)) aw)))
def mY:Stmt:=bw 42
theorem akQ:bh Cw RG (aq mY):=bp
theorem akR{CX:aG}{Γ:aC}{X:Cx}(G:aL CX (aP Cw (aq mY) ajb ajc RH ajd aje ajf ajg 0) Γ X):aY X (ay mY) (ar Γ Cy):=by
 have g:=G.toGood
 exact(ah (aI G (dA g (aa g) (af (aa g) ai))) (ah (aI G (aD g (aa g) (aB g (aa g) ak))) (ah (aO (hG (aW g (aa g) aN) (aa g) (aD g (aa g) (dA g (aa g) (af (aB g (aa g) ak) ai))))) aw)))
def mZ:Stmt:=bw 43
theorem akS:bh Cz RI (aq mZ):=bp
theorem akT{CX:aG}{Γ:aC}{X:Cx}(G:aL CX (aP Cz (aq mZ) ajh aji RJ ajj ajk ajl ajm 0) Γ X):aY X (ay mZ) (ar Γ CA):=by
 have g:=G.toGood
 exact(ah (bj (aW g (aa g) aN) (ah (aO (bL g (af ak (af (aD g (aa g) ak) ai)))) aw) aw) (ah (bj (aW g (aa g) aN) (ah (aO (bL g (af (fi g (aa g)) (af (aD g (aa g) ak) ai)))) aw) aw) (ah (bj (aW g (aa g) aN) (ah (aO ak) aw) aw) (ah (bj (aW g (aa g) aN) (ah (aO (fi g (aa g))) aw) aw) (ah (bj (aW g (aa g) aN) (ah (aO (aE g (af (aa g) (af (aE g (af (aa g) (af (aa g) (af (jv g) ai)))) (af (jv g) ai))))) aw) aw) (ah (bj (aW g (aa g) aN) (ah (aO (aE g (af (aa g) (af (aE g (af (aa g) (af (aa g) (af (jv g) ai)))) (af (jv g) ai))))) aw) aw) (ah (aO (aE g (af (aa g) (af (aa g) (af (aa g) ai))))) aw)))))))
def m4:Stmt:=bw 44
theorem akU:bh CC RK (aq m4):=bp
theorem akV{CX:aG}{Γ:aC}{X:Cx}(G:aL CX (aP CC (aq m4) ajn ajo RL ajp ajq ajr ajs 0) Γ X):aY X (ay m4) (ar Γ km):=by
 have g:=G.toGood
 exact(ah (aI G (hG (aW g (aa g) aN) (aD g (aa g) ak) (aD g (aa g) ak))) (ah (bj (aW g (aa g) ak) (ah (aO ak) aw) aw) (ah (bj (aW g (aa g) (fi g (aa g))) (ah (aO (fi g (aa g))) aw) aw) (ah (aO (dA g (aa g) (af (aa g) (af (bL g (af (aa g) (af (dA g (aa g) (af (aa g) ai)) ai))) ai)))) aw))))
def m5:Stmt:=bw 45
theorem akW:bh CD RM (aq m5):=bp
theorem akX{CX:aG}{Γ:aC}{X:Cx}(G:aL CX (aP CD (aq m5) ajt aju RN ajv ajw ajx ajy 0) Γ X):aY X (ay m5) (ar Γ CG):=by
 have g:=G.toGood
 exact(ah (aO (cb (af (hG (vG g (aa g)) (aB g (aa g) ak) (aa g)) (af (aa g) (af (aa g) ai))))) aw)
def m6:Stmt:=bw 46
theorem akY:bh CH RO (aq m6):=bp
theorem akZ{CX:aG}{Γ:aC}{X:Cx}(G:aL CX (aP CH (aq m6) ajz ajA RP ajB ajC ajD ajE 0) Γ X):aY X (ay m6) (ar Γ r6):=by
 have g:=G.toGood
 exact(ah (bj (aW g (aa g) (cb (af aN (af aN ai)))) (ah (aI G (dA g (aa g) (af (aB g (aa g) ak) ai))) (ah (aI G (hG (aW g (aB g (aa g) ak) cJ) (aB g (aa g) ak) (aB g (aa g) ak))) (ah (aO (aE g (af (aa g) (af (aE g (af (aa g) (af (aB g (aa g) ak) (af (aa g) (af (aa g) ai))))) (af (aa g) (af (aa g) ai)))))) aw))) aw) (ah (bj (PW.pt (gy (aW g (aa g) (cb (af aN (af aN ai)))) (gy (cQ (vG g (aa g))) (iS (cQ (eT g (aE g (af (aa g) ai)))))))) (ah (aO (aE g (af (aa g) (af (hG (aW g (aa g) aN) (aE g (af (aa g) ai)) (aE g (af (aa g) ai))) (af cJ (af (aa g) ai)))))) aw) aw) (ah (aO (aE g (af (aa g) (af (aE g (af (aa g) (af (aB g (aa g) ak) (af (aa g) ai)))) (af cJ (af (aa g) ai)))))) aw)))
def m8:Stmt:=bw 47
theorem ak0:bh CI RQ (aq m8):=bp
theorem ak1{CX:aG}{Γ:aC}{X:Cx}(G:aL CX (aP CI (aq m8) ajF ajG RT ajH ajI ajJ ajK 0) Γ X):aY X (ay m8) (ar Γ CJ):=by
 have g:=G.toGood
 exact(ah (ej (aE g (af (fi g (aa g)) (af (dt (af (aa g) ai)) ai)))) (ah (ej (aE g (af (aa g) (af (aa g) ai)))) (ah (aO (aE g (af (aa g) (af (aa g) (af (aa g) (af (aa g) ai)))))) aw)))
def m_:Stmt:=bw 49
theorem ak2:bh AF PL (aq m_):=bp
theorem ak3{CX:aG}{Γ:aC}{X:Cx}(G:aL CX (aP AF (aq m_) aew aex PM aey aez aeA aeB 0) Γ X):aY X (ay m_) (ar Γ AG):=by
 have g:=G.toGood
 exact(ah (aO (hG (aW g (aa g) cJ) ak (aB g (aa g) ak))) aw)
def nc:Stmt:=bw 50
theorem ak4:bh AH PN (aq nc):=bp
theorem ak5{CX:aG}{Γ:aC}{X:Cx}(G:aL CX (aP AH (aq nc) aeC aeD PQ aeE aeF aeG aeH 0) Γ X):aY X (ay nc) (ar Γ AI):=by
 have g:=G.toGood
 exact(ah (aO (hG (aW g (aa g) cJ) ak (aB g (aa g) ak))) aw)
def nh:Stmt:=bw 51
theorem ak6:bh AJ PR (aq nh):=bp
theorem ak7{CX:aG}{Γ:aC}{X:Cx}(G:aL CX (aP AJ (aq nh) aeI aeJ PU aeK aeL aeM aeN 0) Γ X):aY X (ay nh) (ar Γ AK):=by
 have g:=G.toGood
 exact(ah (aO (hG (aW g (aa g) cJ) ak (aB g (aa g) ak))) aw)
def ni:Stmt:=bw 52
theorem ak8:bh AL PV (aq ni):=bp
theorem ak9{CX:aG}{Γ:aC}{X:Cx}(G:aL CX (aP AL (aq ni) aeO aeP PX aeQ aeR aeS aeT 0) Γ X):aY X (ay ni) (ar Γ AM):=by
 have g:=G.toGood
 exact(ah (aI G (aD g ak (bL g (af (aE g (af (aa g) ai)) (af (aE g (af (aa g) ai)) ai))))) (ah (aI G (aD g (aD g (aE g (af (aa g) ai)) (aB g (aa g) ak)) (aE g (af (aa g) ai)))) (ah (aO (cb (af (aa g) (af (aa g) (af (aa g) (af (aa g) (af (aa g) (af (aD g (aD g (aE g (af (aa g) ai)) (aB g (aa g) ak)) (aE g (af (aa g) ai))) ai)))))))) aw)))
def nj:Stmt:=bw 53
theorem ak_:bh AN PY (aq nj):=bp
theorem ala{CX:aG}{Γ:aC}{X:Cx}(G:aL CX (aP AN (aq nj) aeU aeV PZ aeW aeX aeY aeZ 0) Γ X):aY X (ay nj) (ar Γ AO):=by
 have g:=G.toGood
 exact(ah (aI G (aB g (aa g) ak)) (ah (bj (aW g (aE g (af (aB g (aa g) ak) ai)) (aE g (af (aa g) ai))) (ah (aO (aE g (af (aB g (aa g) ak) (af (aB g (aa g) ak) (af (aE g (af (aa g) (af (aa g) (af (aa g) ai)))) ai))))) aw) aw) (ah (aO (aE g (af (aE g (af (aB g (aa g) ak) (af (aB g (aa g) ak) (af (aB g (aa g) ak) ai)))) (af (aB g (aa g) ak) (af (aE g (af (aB g (aa g) ak) (af (aa g) (af (aa g) ai)))) ai))))) aw)))
def nk:Stmt:=bw 54
theorem alb:bh AQ P0 (aq nk):=bp
theorem alc{CX:aG}{Γ:aC}{X:Cx}(G:aL CX (aP AQ (aq nk) ae0 ae1 P4 ae2 ae3 ae4 ae5 0) Γ X):aY X (ay nk) (ar Γ AR):=by
 have g:=G.toGood
 exact(ah (aI G (aB g (aa g) ak)) (ah (bj (aW g (aE g (af (aB g (aa g) ak) ai)) (aE g (af (aa g) ai))) (ah (aO (aE g (af (aE g (af (aa g) (af (aa g) (af (aa g) ai)))) (af (aB g (aa g) ak) (af (aB g (aa g) ak) ai))))) aw) aw) (ah (aO (aE g (af (aE g (af (aa g) (af (aa g) (af (aB g (aa g) ak) ai)))) (af (aB g (aa g) ak) (af (aE g (af (aB g (aa g) ak) (af (aB g (aa g) ak) (af (aB g (aa g) ak) ai)))) ai))))) aw)))
def nq:Stmt:=bw 55
theorem ald:bh AS P5 (aq nq):=bp
theorem ale{CX:aG}{Γ:aC}{X:Cx}(G:aL CX (aP AS (aq nq) ae6 ae7 P6 ae8 ae9 ae_ afa 0) Γ X):aY X (ay nq) (ar Γ AU):=by
 have g:=G.toGood
 exact(ah (bj (aW g (aE g (af (aa g) ai)) (aD g (aE g (af (aa g) ai)) ak)) (ah (aO (aE g (af (aa g) (af (aa g) (af (aa g) ai))))) aw) aw) (ah (bj (aW g (aE g (af (aa g) ai)) (aD g (aE g (af (aa g) ai)) ak)) (ah (aO (aE g (af (aa g) (af (aa g) (af (aa g) ai))))) aw) aw) (ah (aO (aE g (af (aa g) (af (aa g) (af (aa g) ai))))) aw)))
def nv:Stmt:=bw 56
theorem R8:bh AV P7 (aq nv):=bp
theorem alf{CX:aG}{Γ:aC}{X:Cx}(G:aL CX (aP AV (aq nv) afb afc P8 afd afe aff afg 0) Γ X):aY X (ay nv) (ar Γ AW):=by
 have g:=G.toGood
 exact(ah (bj (aW g (aE g (af (aa g) ai)) (aD g (aE g (af (aa g) ai)) ak)) (ah (aO (aE g (af (aB g (aa g) ak) (af (aB g (aa g) ak) (af (aE g (af (aB g (aa g) ak) (af (aa g) (af (aa g) ai)))) ai))))) aw) aw) (ah (bj (aW g (aE g (af (aa g) ai)) (aD g (aE g (af (aa g) ai)) ak)) (ah (aO (aE g (af (aE g (af (aa g) (af (aa g) (af (aB g (aa g) ak) ai)))) (af (aB g (aa g) ak) (af (aB g (aa g) ak) ai))))) aw) aw) (ah (aO (aE g (af (aa g) (af (aa g) (af (aa g) ai))))) aw)))
def ny:Stmt:=bw 57
theorem R9:bh AX P9 (aq ny):=bp
theorem alg{CX:aG}{Γ:aC}{X:Cx}(G:aL CX (aP AX (aq ny) afh afi P_ afj afk afl afm 0) Γ X):aY X (ay ny) (ar Γ AY):=by
 have g:=G.toGood
 exact(ah (bj (aW g (aB g (aa g) ak) cJ) (ah (aO (cb (af (aB g (aa g) ak) (af (aB g (aa g) ak) ai)))) aw) aw) (ah (aI G (aE g (af (aB g (aa g) ak) ai))) (ah (aO (cb (af (aE g (af (aB g (aa g) ak) (af (aB g (aa g) ak) (af (aB g (aa g) ak) ai)))) (af (aB g (aa g) ak) ai)))) aw)))
def nz:Stmt:=bw 58
theorem R_:bh AZ Qa (aq nz):=bp
theorem alh{CX:aG}{Γ:aC}{X:Cx}(G:aL CX (aP AZ (aq nz) afn afo Qc afp afq afr afs 0) Γ X):aY X (ay nz) (ar Γ A2):=by
 have g:=G.toGood
 exact(ah (bj (aW g (aB g (aa g) ak) cJ) (ah (aO (cb (af (aB g (aa g) ak) (af (aB g (aa g) ak) ai)))) aw) aw) (ah (aI G (aE g (af (aB g (aa g) ak) ai))) (ah (aO (cb (af (aB g (aa g) ak) (af (aE g (af (aB g (aa g) ak) (af (aB g (aa g) ak) (af (aB g (aa g) ak) ai)))) ai)))) aw)))
def nA:Stmt:=bw 59
theorem ali:bh A3 Qd (aq nA):=bp
theorem alj{CX:aG}{Γ:aC}{X:Cx}(G:aL CX (aP A3 (aq nA) aft afu Qe afv afw afx afy 0) Γ X):aY X (ay nA) (ar Γ A6):=by
 have g:=G.toGood
 exact(ah (bj (aW g (aa g) cJ) (ah (aO (aa g)) aw) aw) (ah (aI G (aE g (af (aa g) ai))) (ah (aI G (aE g (af (aa g) ai))) (ah (aI G (aB g (aa g) ak)) (ah (aI G (aB g (aa g) ak)) (ah (bj (aW g (aD g (aB g (aa g) ak) (aB g (aa g) ak)) (aB g (aa g) ak)) (ah (aO (aE g (af (aB g (aa g) ak) (af (cb (af (aB g (aa g) ak) (af (aD g (aB g (aa g) ak) (aB g (aa g) ak)) (af (aD g (aB g (aa g) ak) (aB g (aa g) ak)) ai)))) (af (aB g (aa g) ak) ai))))) aw) aw) (ah (aO (aE g (af (aB g (aa g) ak) (af (aa g) (af (aa g) ai))))) aw)))))))
def nB:Stmt:=bw 60
theorem alk:bh A7 Qf (aq nB):=bp
theorem alm{CX:aG}{Γ:aC}{X:Cx}(G:aL CX (aP A7 (aq nB) afz afA Qg afB afC afD afE 0) Γ X):aY X (ay nB) (ar Γ A8):=by
 have g:=G.toGood
 exact(ah (aI G (aD g (aB g (aa g) ak) (aa g))) (ah (aI G (aD g (dA g (aa g) (af (aa g) ai)) (dA g (aa g) (af (aB g (aa g) ak) ai)))) (ah (aO (cb (af (cb (af (aB g (aa g) ak) (af (aa g) (af (aa g) ai)))) (af (cb (af (aa g) (af (aD g (aB g (aa g) ak) (aa g)) (af (aD g (aB g (aa g) ak) (aa g)) ai)))) ai)))) aw)))
def nC:Stmt:=bw 61
theorem Sa:bh A9 Qh (aq nC):=bp
theorem aln{CX:aG}{Γ:aC}{X:Cx}(G:aL CX (aP A9 (aq nC) afF afG Qi afH afI afJ afK 0) Γ X):aY X (ay nC) (ar Γ A_):=by
 have g:=G.toGood
 exact(ah (bj (aW g (aa g) cJ) (ah (aO (cb (af cJ (af cJ ai)))) aw) aw) (ah (aI G (aB g (aa g) ak)) (ah (aI G (aE g (af (aB g (aa g) ak) ai))) (ah (aI G (aD g (aa g) (aB g (aa g) ak))) (ah (bj (aW g (aa g) (aa g)) (ah (aI G (aE g (af (aB g (aa g) ak) (af (aa g) (af (aa g) ai))))) (ah (aO (cb (af (aB g (aa g) ak) (af (aE g (af (aB g (aa g) ak) (af (aa g) (af (aB g (aa g) ak) ai)))) ai)))) aw)) aw) (ah (bj (aW g (aa g) (aa g)) (ah (aI G (aE g (af (aB g (aa g) ak) (af (aD g (aa g) (aa g)) (af (aa g) ai))))) (ah (aO (cb (af (aE g (af (aB g (aa g) ak) (af (aa g) (af (aB g (aa g) ak) ai)))) (af (aB g (aa g) ak) ai)))) aw)) aw) (ah (aI G (aE g (af (aa g) (af (aD g (aa g) (aa g)) (af (aa g) ai))))) (ah (aO (cb (af (aE g (af (aB g (aa g) ak) (af (aB g (aa g) ak) (af cJ ai)))) (af (aE g (af cJ (af (aB g (aa g) ak) (af (aB g (aa g) ak) ai)))) ai)))) aw))))))))
def nE:Stmt:=bw 62
theorem Sb:bh Ba Qj (aq nE):=bp
theorem alo{CX:aG}{Γ:aC}{X:Cx}(G:aL CX (aP Ba (aq nE) afL afM Qk afN afO afP afQ 0) Γ X):aY X (ay nE) (ar Γ Bb):=by
 have g:=G.toGood
 exact(ah (bj (aW g (aa g) cJ) (ah (aO (dt ai)) aw) aw) (ah (aI G (aE g (af (aB g (aa g) ak) ai))) (ah (ej (dz g (aa g) (af (aB g (aa g) ak) ai))) (ah (ej (dz g (aa g) (af (aE g (af (aB g (aa g) ak) ai)) ai))) (ah (aO (aa g)) aw)))))
def nF:Stmt:=bw 63
theorem alp:bh BI QY (aq nF):=bp
theorem alq{CX:aG}{Γ:aC}{X:Cx}(G:aL CX (aP BI (aq nF) ahm ahn QZ aho ahp ahq ahr 0) Γ X):aY X (ay nF) (ar Γ BJ):=by
 have g:=G.toGood
 exact(ah (aI G ak) (ah (hV G (aW g (aa g) cJ) (ah (aI G (aB g (aa g) ak)) (ah (aI G (aE g (af (aB g (aa g) ak) ai))) (ah (aI G (aD g (aa g) (aB g (aa g) ak))) (ah (bj (aW g (aa g) (aa g)) (ah (aI G (aB g (aa g) ak)) aw) (ah (bj (aW g (aa g) (aa g)) (ah (aI G (aD g (dA g (aa g) (af (aD g (aD g (aB g (aa g) ak) (aa g)) (aa g)) ai)) (dA g (aa g) (af (aB g (aa g) ak) ai)))) (ah (aO (aD g (aD g (aa g) (aE g (af (aB g (aa g) ak) ai))) (aa g))) aw)) (ah (aI G (aD g (aD g (aa g) (aE g (af (aB g (aa g) ak) ai))) (aB g (aa g) ak))) (ah (aI G (aD g (aa g) (aa g))) (ah (aI G (aB g (aa g) ak)) aw)))) aw)) aw))))) (ah (aO (aa g)) aw)))
def nG:Stmt:=bw 64
theorem alr:bh BK Q0 (aq nG):=bp
theorem als{CX:aG}{Γ:aC}{X:Cx}(G:aL CX (aP BK (aq nG) ahs aht Q2 ahu ahv ahw ahx 0) Γ X):aY X (ay nG) (ar Γ BL):=by
 have g:=G.toGood
 exact(ah (aI G ak) (ah (hV G (PW.pt (fG (aW g (aa g) (aE g (af (aB g (aa g) ak) ai))) (fX (aW g (aa g) (aD g (aE g (af (aB g (aa g) ak) ai)) (aB g (aB g (aa g) ak) ak)))))) (ah (bj (aW g (aa g) (aE g (af (aB g (aa g) ak) ai))) (ah (aI G (aB g (aa g) ak)) aw) (ah (aI G (aD g (aD g (aa g) (aE g (af (aB g (aa g) ak) ai))) (aB g (aB g (aa g) ak) ak))) (ah (aI G (aD g (aD g (aa g) (aE g (af (aB g (aa g) ak) ai))) (aB g (aB g (aa g) ak) ak))) (ah (aI G (aB g (aa g) ak)) aw)))) aw)) (ah (aI G (aB g (aB g (aa g) ak) ak)) (ah (aI G (dA g (aa g) (af (aD g (aD g (dA g (aa g) (af (aa g) ai)) (aa g)) (aE g (af (aB g (aa g) ak) ai))) ai))) (ah (aO (aD g (aD g (aD g (aa g) (aE g (af (aB g (aa g) ak) ai))) (aa g)) (aa g))) aw)))))
def nH:Stmt:=inClass (bw 66) 0
theorem alu:bh Ay PC (aq nH):=bp
theorem alv{CX:aG}{Γ:aC}{X:Cx}(G:aL CX (aP Ay (aq nH) aee aef PD aeg aeh aei aej 0) Γ X):aY X (ay nH) (ar Γ Az):=by
 have g:=G.toGood
 exact(ah (mf G (aa g) (dt ai)) (ah (mf G (aa g) (dt ai)) (ah (mf G (aa g) (dt ai)) (ah (mf G (aa g) ak) aw))))
def nI:Stmt:=inClass (bw 66) 1
theorem alw:bh vQ PF (aq nI):=bp
theorem alx{CX:aG}{Γ:aC}{X:Cx}(G:aL CX (aP vQ (aq nI) aek ael PH aem aen aeo aep 0) Γ X):aY X (ay nI) (ar Γ AA):=by
 have g:=G.toGood
 exact(ah (ej (aE g (af (aa g) ai))) (ah (aI G (cv g (aa g))) (ah (ej (dz g (cv g (aa g)) (af (aa g) ai))) (ah (ej (dz g (cv g (aa g)) (af (aa g) ai))) (ah (mf G (aa g) (aD g (aa g) (bL g (af (aa g) ai)))) (ah (aI G (dz g (aa g) (af aN ai))) (ah (hV G (aW g (aa g) ak) (ah (ej (dz g (cv g (aa g)) (af (aD g (aa g) (aa g)) ai))) (ah (aI G (dz g (aa g) (af aN (af (aD g (aa g) ak) ai)))) aw))) (ah (aO (aa g)) aw))))))))
def nJ:Stmt:=inClass (bw 66) 2
theorem aly:bh AD PJ (aq nJ):=bp
theorem alz{CX:aG}{Γ:aC}{X:Cx}(G:aL CX (aP AD (aq nJ) aeq aer PK aes aet aeu aev 0) Γ X):aY X (ay nJ) (ar Γ AE):=by
 have g:=G.toGood
 exact(ah (bj (PW.pt (fG (cQ (eT g (aE g (af (aa g) (af ak (af (cv g (aa g)) ai)))))) (fX (cQ (eT g (aE g (af (aa g) (af ak (af (aD g (cv g (aa g)) (aa g)) ai))))))))) (ah (eU G (af aN ai)) aw) aw) (ah (aI G (dt ai)) (ah (aI G (aD g (aE g (af (cv g (aa g)) (af (aa g) ai))) ak)) (ah (aI G (aD g (aa g) (aa g))) (ah (hV G (aW g (aa g) (aa g)) (ah (aI G (aD g (aa g) (aB g (cv g (aa g)) (aa g)))) (ah (aI G (ma g (aB g (cv g (aa g)) (aa g)) (hU (aa g)) (hU (aD g (aD g (aa g) (aa g)) (aa g))))) (ah (ej (dz g (aa g) (af (aa g) ai))) (ah (aI G (aD g (aa g) (bL g (af (aa g) ai)))) (ah (aI G (aD g (aa g) ak)) aw)))))) (ah (aO (dz g aN (af (aa g) ai))) aw))))))
def nK:Stmt:=inClass (bw 66) 4
theorem alA:bh Bc Ql (aq nK):=bp
theorem alB{CX:aG}{Γ:aC}{X:Cx}(G:aL CX (aP Bc (aq nK) afR afS Qm afT afU afV afW 0) Γ X):aY X (ay nK) (ar Γ Bd):=by
 have g:=G.toGood
 exact(ah (aO (aE g (af (cv g (aa g)) (af (aD g (aa g) ak) ai)))) aw)
def nM:Stmt:=inClass (bw 66) 5
theorem alC:bh BM Q3 (aq nM):=bp
theorem alD{CX:aG}{Γ:aC}{X:Cx}(G:aL CX (aP BM (aq nM) ahy ahz Q4 ahA ahB ahC ahD 0) Γ X):aY X (ay nM) (ar Γ BN):=by
 have g:=G.toGood
 exact(ah (aO (aB g (cv g (aa g)) (aa g))) aw)
def nN:Stmt:=bw 68
theorem alE:bh Be Qn (aq nN):=bp
theorem alF{CX:aG}{Γ:aC}{X:Cx}(G:aL CX (aP Be (aq nN) afX afY Qo afZ af0 af1 af2 0) Γ X):aY X (ay nN) (ar Γ Bf):=by
 have g:=G.toGood
 exact(ah (bj (aW g (aa g) aN) (ah (aO cJ) aw) aw) (ah (aO (aE g (af cJ (af (cb (af (dA g (aa g) (af (aa g) ai)) (af (bL g (af (aa g) ai)) (af (dz g (aa g) (af aN ai)) ai)))) (af cJ ai))))) aw))
def nO:Stmt:=bw 69
theorem alG:bh Bg Qp (aq nO):=bp
theorem alH{CX:aG}{Γ:aC}{X:Cx}(G:aL CX (aP Bg (aq nO) af3 af4 Qq af5 af6 af7 af8 0) Γ X):aY X (ay nO) (ar Γ Bh):=by
 have g:=G.toGood
 exact(ah (ej (aE g (af (aa g) ai))) (ah (aI G (acA g)) (ah (aO (O2 g (af (aa g) (af (aE g (af (aa g) (af (aa g) ai))) ai)))) aw)))
def nP:Stmt:=bw 70
theorem alI:bh Bi Qr (aq nP):=bp
theorem alJ{CX:aG}{Γ:aC}{X:Cx}(G:aL CX (aP Bi (aq nP) af9 af_ Qs aga agb agc agd 0) Γ X):aY X (ay nP) (ar Γ Bj):=by
 have g:=G.toGood
 exact(ah (bj (aW g (aB g (aE g (af (aa g) ai)) ak) (fi g (aa g))) (ah (eU G (af aN ai)) aw) aw) (ah (aI G ak) (ah (pF G (iU g (aa g)) (ah (bj (PW.pt (gy (aW g (aB g (aa g) ak) aN) (iS (aW g (dA g (aa g) (af (aa g) (af (aD g (aa g) (bL g (af (aB g (aa g) ak) ai))) ai))) (aB g (aa g) ak))))) (ah (eU G (af aN ai)) aw) aw) (ah (bj (aW g (aB g (aa g) ak) aN) (ah (aI G (aD g (aa g) (aE g (af (aa g) ai)))) aw) aw) aw))) aw)))
def nQ:Stmt:=bw 71
theorem alK:bh Bk Qt (aq nQ):=bp
theorem alL{CX:aG}{Γ:aC}{X:Cx}(G:aL CX (aP Bk (aq nQ) age agf Qu agg agh agi agj 0) Γ X):aY X (ay nQ) (ar Γ Bl):=by
 have g:=G.toGood
 exact(ah (aO (me (ln:=["piece"]) g (by kernel_rfl) (iU g (aE g (af (aa g) ai))) rR (fun _ g=> (dA g (aa g) (af (aB g (aa g) ak) (af (aB g (aa g) ak) ai)))))) aw)
def nR:Stmt:=inClass (bw 72) 0
theorem alM:bh Bm Qw (aq nR):=bp
theorem alN{CX:aG}{Γ:aC}{X:Cx}(G:aL CX (aP Bm (aq nR) agk agl Qx agm agn ago agp 0) Γ X):aY X (ay nR) (ar Γ Bn):=by
 have g:=G.toGood
 exact(ah (mf G (aa g) (aa g)) (ah (mf G (aa g) (aa g)) aw))
def nS:Stmt:=inClass (bw 72) 1
theorem alO:bh Bo Qy (aq nS):=bp
theorem alP{CX:aG}{Γ:aC}{X:Cx}(G:aL CX (aP Bo (aq nS) agq agr Qz ags agt agu agv 0) Γ X):aY X (ay nS) (ar Γ Bp):=by
 have g:=G.toGood
 exact(ah (aO (aE g (af (cv g (aa g)) ai))) aw)
def nT:Stmt:=inClass (bw 72) 2
theorem alQ:bh Bq QC (aq nT):=bp
theorem alR{CX:aG}{Γ:aC}{X:Cx}(G:aL CX (aP Bq (aq nT) agw agx QD agy agz agA agB 0) Γ X):aY X (ay nT) (ar Γ Br):=by
 have g:=G.toGood
 exact(ah (aO (aD g (aE g (af (cv g (aa g)) ai)) ak)) aw)
def nU:Stmt:=inClass (bw 72) 3
theorem alS:bh Bs QE (aq nU):=bp
theorem alT{CX:aG}{Γ:aC}{X:Cx}(G:aL CX (aP Bs (aq nU) agC agD QF agE agF agG agH 0) Γ X):aY X (ay nU) (ar Γ Bt):=by
 have g:=G.toGood
 exact(ah (aO (dz g aN (af (aE g (af (cv g (aa g)) (af (cv g (aa g)) ai))) ai))) aw)
def nV:Stmt:=inClass (bw 72) 6
theorem alU:bh Bu QG (aq nV):=bp
theorem alV{CX:aG}{Γ:aC}{X:Cx}(G:aL CX (aP Bu (aq nV) agI agJ QH agK agL agM agN 0) Γ X):aY X (ay nV) (ar Γ Bv):=by
 have g:=G.toGood
 exact(ah (bj (PW.pt (fG (cQ (eT g (aE g (af (aa g) (af ak (af (fi g (aa g)) ai)))))) (fX (cQ (eT g (aE g (af (aa g) (af (aa g) (af (fi g (aa g)) ai))))))))) (ah (eU G (af aN ai)) aw) aw) (ah (aI G (aB g (aE g (af (cv g (aa g)) (af (aa g) (af (cv g (aa g)) ai)))) ak)) (ah (aO (dz g aN (af (aE g (af (cv g (aa g)) (af (aB g (aE g (af (aa g) (af (aa g) (af (cv g (aa g)) ai)))) ak) ai))) ai))) aw)))
def nW:Stmt:=inClass (bw 72) 7
theorem alW:bh Bw QI (aq nW):=bp
theorem alX{CX:aG}{Γ:aC}{X:Cx}(G:aL CX (aP Bw (aq nW) agO agP QJ agQ agR agS agT 0) Γ X):aY X (ay nW) (ar Γ Bx):=by
 have g:=G.toGood
 exact(ah (ej (aE g (af (aa g) (af (aa g) ai)))) (ah (aI G cJ) (ah (aI G (cv g (aa g))) (ah (pF G (iU g (aa g)) (ah (bj (aW g (aB g (aa g) ak) aN) (ah (aI G (aE g (af (aa g) (af (aE g (af (cv g (aa g)) (af (aB g (aa g) ak) ai))) ai)))) (ah acM aw)) aw) (ah (aI G (aE g (af (aa g) (af (aE g (af (aa g) ai)) (af (cv g (aa g)) ai))))) (ah (aI G (aB g (aa g) ak)) (ah (bj (aW g (aB g (aa g) ak) aN) (ah (aI G (aE g (af (aa g) (af (aB g (aa g) ak) ai)))) aw) aw) aw))))) (ah (aO (O2 g (af (cv g (aa g)) (af (aa g) ai)))) aw)))))
def nX:Stmt:=inClass (bw 72) 8
theorem alY:bh BO Q5 (aq nX):=bp
theorem alZ{CX:aG}{Γ:aC}{X:Cx}(G:aL CX (aP BO (aq nX) ahE ahF Q6 ahG ahH ahI ahJ 0) Γ X):aY X (ay nX) (ar Γ BP):=by
 have g:=G.toGood
 exact(ah (aO (hG (aW g (aa g) ak) ak (aD g (aE g (af (cv g (aa g)) (af (aD g (aa g) ak) (af (cv g (aa g)) ai)))) ak))) aw)
def nY:Stmt:=inClass (bw 72) 9
theorem al0:bh BQ Q7 (aq nY):=bp
theorem al1{CX:aG}{Γ:aC}{X:Cx}(G:aL CX (aP BQ (aq nY) ahK ahL Q8 ahM ahN ahO ahP 0) Γ X):aY X (ay nY) (ar Γ BR):=by
 have g:=G.toGood
 exact(ah (bj (cQ (eT g (aE g (af (aa g) (af ak (af (aD g (fi g (aa g)) ak) ai)))))) (ah (eU G (af aN ai)) aw) aw) (ah (aI G (cP g (aa g) (aD g (fi g (aa g)) ak))) (ah (aI G (hG (vG g (aa g)) (fi g (aa g)) (aE g (af (cv g (aa g)) (af (aa g) (af (cv g (aa g)) ai)))))) (ah (aO (aD g (aa g) (dA g (aa g) (af (aa g) ai)))) aw))))
def nZ:Stmt:=inClass (bw 72) 10
theorem al2:bh BS Q9 (aq nZ):=bp
theorem al3{CX:aG}{Γ:aC}{X:Cx}(G:aL CX (aP BS (aq nZ) ahQ ahR Q_ ahS ahT ahU ahV 0) Γ X):aY X (ay nZ) (ar Γ BU):=by
 have g:=G.toGood
 exact(ah (bj (cQ (eT g (aE g (af (aa g) (af ak (af (fi g (aa g)) ai)))))) (ah (eU G (af aN ai)) aw) aw) (ah (aI G (aE g (af (cv g (aa g)) (af (aa g) (af (cv g (aa g)) ai))))) (ah (aO (cb (af (aa g) (af (aD g (aa g) (dA g (aa g) (af (aa g) ai))) ai)))) aw)))
def n_:Stmt:=inClass (bw 72) 11
theorem al4:bh BV Ra (aq n_):=bp
theorem al6{CX:aG}{Γ:aC}{X:Cx}(G:aL CX (aP BV (aq n_) ahW ahX Rb ahY ahZ ah0 ah1 0) Γ X):aY X (ay n_) (ar Γ BW):=by
 have g:=G.toGood
 exact(ah (bj (cQ (eT g (aE g (af (aa g) (af ak (af (dA g (aa g) (af (aa g) ai)) ai)))))) (ah (eU G (af aN ai)) aw) aw) (ah (aO (aD g (dA g (aa g) (af (aa g) ai)) (aa g))) aw))
def oe:Stmt:=bw 74
theorem al7:bh Aq Pr (aq oe):=bp
theorem al8{CX:aG}{Γ:aC}{X:Cx}(G:aL CX (aP Aq (aq oe) adR adS Pu adT adU adV adW 0) Γ X):aY X (ay oe) (ar Γ Ar):=by
 have g:=G.toGood
 exact(ah (bj (aW g (aa g) (bL g (af (aa g) ai))) (ah (aO (aB g (aa g) (aa g))) aw) aw) (ah (aO ak) aw))
def vP:List Str:=["_law_found"]
def Sd:List Str:=["_law_found"]
def og:Stmt:=bw 75
theorem al9:bh vP Sd (aq og):=bp
theorem al_{CX:aG}{Γ:aC}{X:Cx}(G:aL CX (aP vP (aq og) ad3 ad4 Py ad5 ad6 ad7 ad8 0) Γ X):aY X (ay og) (ar Γ Av):=by
 have g:=G.toGood
 exact(ah (aO (fW (hJ g (aa g)) (g_ (z7 g (hJ g (aa g)))))) aw)
def oh:Stmt:=bw 76
theorem ama:bh BA QN (aq oh):=bp
theorem amb{CX:aG}{Γ:aC}{X:Cx}(G:aL CX (aP BA (aq oh) agZ ag0 QO ag1 ag2 ag3 ag4 0) Γ X):aY X (ay oh) (ar Γ BB):=by
 have g:=G.toGood
 exact(ah (aI G (aD g (aD g (aD g (aD g (aa g) ak) (aD g ak (aa g))) ak) ak)) (ah (aO (aD g (aD g (aD g (aD g (aa g) (aa g)) ak) (aa g)) ak)) aw))
def oi:Stmt:=bw 77
theorem amc:bh BC QP (aq oi):=bp
theorem amd{CX:aG}{Γ:aC}{X:Cx}(G:aL CX (aP BC (aq oi) ag5 ag6 QR ag7 ag8 ag9 ag_ 0) Γ X):aY X (ay oi) (ar Γ BD):=by
 have g:=G.toGood
 exact(ah (aI G aN) (ah (aI G (aD g (aa g) aN)) (ah (aI G aN) (ah (pF G (Ab g (aa g)) (ah (aI G (aE g (af (aa g) (af (aa g) ai)))) (ah (aI G (aD g (aa g) (aB g (dt (af aN (af (aB g aN (aD g (aD g (aa g) ak) ak)) (af (aB g (aa g) (aD g (aD g (aa g) ak) ak)) (af (aB g (aa g) (aD g (aD g (aa g) ak) ak)) ai))))) (aD g (aa g) ak)))) aw))) (ah (aO (aa g)) aw)))))
def oj:Stmt:=bw 78
theorem ame:bh BE QS (aq oj):=bp
theorem amf{CX:aG}{Γ:aC}{X:Cx}(G:aL CX (aP BE (aq oj) aha ahb QU ahc ahd ahe ahf 0) Γ X):aY X (ay oj) (ar Γ BF):=by
 have g:=G.toGood
 exact(ah (aI G (dt ai)) (ah (aI G aN) (ah (aI G aN) (ah (Ad [(_,_),(_,_)] G (iU g (aD g (aa g) (dt (af (cb (af aN (af ak ai))) ai)))) (ah (bj (aW g (aa g) aN) (ah (aI G (aD g (aa g) (aa g))) aw) (ah (bj (aW g (aa g) aN) (ah (aI G (aD g (aa g) (aa g))) aw) (ah (bj (PW.pt (fG (aW g (aa g) aN) (fX (aW g (aa g) ak)))) (ah (aI G (aD g (aD g (aa g) (aD g (dt (af (cb (af aN (af (aa g) ai))) ai)) (bL g (af (cP g (aa g) aN) ai)))) (aD g (dt (af (cb (af aN (af (aa g) ai))) ai)) (bL g (af (cP g (aa g) aN) ai))))) (ah (aI G aN) (ah (aI G aN) (ah (bj (PW.pt (gy (aW g (aa g) aN) (gy (aW g (aa g) (dt ai)) (iS (aW g (aB g (aB g (aa g) (pE ak)) ak) aN))))) (ah (acK (cb (af aN (af (aD g (aB g (aB g (aa g) (pE ak)) ak) (aa g)) ai))) (aa g) (pE ak)) aw) (ah (bj (aW g (aa g) aN) (ah (ej (dz g (aa g) (af (cb (af aN (af (aa g) ai))) ai))) aw) aw) aw)) aw)))) aw) aw)) aw)) aw)) (ah (aO (aa g)) aw)))))
def cR:Stmt:=bw 79
theorem amg:bh jx QV (aq cR):=bp
theorem amh{CX:aG}{Γ:aC}{X:Cx}(G:aL CX (aP jx (aq cR) mj mm kl mq mr mv mw 0) Γ X):PS X ((ay cR).getD 0 (.Pass ⟨0,0,0,0⟩)) (bB Γ (eV.getD 0 (.ret (.c .az)))):=by
 have g:=G.toGood
 show PS X (.Assign [.Name "_law_parts" _] _ _) (bB Γ (.asg 2 _))
 with_reducible exact(aI G (dt ai))
theorem ami{CX:aG}{Γ:aC}{X:Cx}(G:aL CX (aP jx (aq cR) mj mm kl mq mr mv mw 0) Γ X):PS X ((ay cR).getD 1 (.Pass ⟨0,0,0,0⟩)) (bB Γ (eV.getD 1 (.ret (.c .az)))):=by
 have g:=G.toGood
 show PS X (.Assign [.Name "_law_at" _] _ _) (bB Γ (.asg 3 _))
 with_reducible exact(aI G ak)
theorem amj{CX:aG}{Γ:aC}{X:Cx}(G:aL CX (aP jx (aq cR) mj mm kl mq mr mv mw 0) Γ X):PS X ((ay cR).getD 2 (.Pass ⟨0,0,0,0⟩)) (bB Γ (eV.getD 2 (.ret (.c .az)))):=by
 have g:=G.toGood
 exact(pF G (Ab g (aD g ak (aD g (aa g) ak))) (ah (aI G (aE g (af (aa g) (af (aD g ak (aa g)) ai)))) (ah (bj (aW g (aD g (aa g) ak) ak) (ah (ej (dz g (aa g) (af (cb (af aN (af (aE g (af (aa g) (af (aD g ak (aD g (aD g (aD g (aa g) ak) ak) (aD g ak (aD g (aD g (aa g) ak) ak)))) ai))) ai))) ai))) aw) aw) (ah (aI G (bL g (af (aD g (bL g (af (aa g) ai)) (aa g)) (af (aD g (aD g (aa g) ak) (aD g ak (aD g (bL g (af (aa g) ai)) ak))) ai)))) (ah (bj (PW.pt (gy (aW g (aD g (aD g (aa g) ak) ak) ak) (iS (aW g (aa g) ak)))) (ah (ej (dz g (aa g) (af (cb (af aN (af (ma g (aa g) (hU (aa g)) (hU (aD g (aa g) (aa g)))) ai))) ai))) aw) (ah (ej (dz g (aa g) (af (cb (af aN (af (aa g) ai))) ai))) aw)) (ah (aI G (aD g (aa g) (aa g))) aw))))))
theorem amk{CX:aG}{Γ:aC}{X:Cx}(G:aL CX (aP jx (aq cR) mj mm kl mq mr mv mw 0) Γ X):PS X ((ay cR).getD 3 (.Pass ⟨0,0,0,0⟩)) (bB Γ (eV.getD 3 (.ret (.c .az)))):=by
 have g:=G.toGood
 exact(ej (dz g (aa g) (af (cb (af aN (af (aD g (bL g (af (aa g) ai)) (aa g)) ai))) ai)))
theorem aml{CX:aG}{Γ:aC}{X:Cx}(G:aL CX (aP jx (aq cR) mj mm kl mq mr mv mw 0) Γ X):PS X ((ay cR).getD 4 (.Pass ⟨0,0,0,0⟩)) (bB Γ (eV.getD 4 (.ret (.c .az)))):=by
 have g:=G.toGood
 exact(bj (aW g (aD g (aD g (aa g) ak) ak) ak) (ah (ej (dz g (aa g) (af (cb (af aN (af (aE g (af (aa g) (af (aD g ak (aD g (aD g (aa g) ak) ak)) ai))) ai))) ai))) aw) aw)
theorem amm{CX:aG}{Γ:aC}{X:Cx}(G:aL CX (aP jx (aq cR) mj mm kl mq mr mv mw 0) Γ X):PS X ((ay cR).getD 5 (.Pass ⟨0,0,0,0⟩)) (bB Γ (eV.getD 5 (.ret (.c .az)))):=by
 have g:=G.toGood
 show PS X (.Return (some _) _) (bB Γ (.ret _))
 with_reducible exact(aO (aE g (af (aa g) ai)))
theorem amn{CX:aG}{Γ:aC}{X:Cx}(G:aL CX (aP jx (aq cR) mj mm kl mq mr mv mw 0) Γ X):aY X (ay cR) (ar Γ eV):=by
 have e:ay cR=[((ay cR).getD 0 (.Pass ⟨0,0,0,0⟩)),((ay cR).getD 1 (.Pass ⟨0,0,0,0⟩)),((ay cR).getD 2 (.Pass ⟨0,0,0,0⟩)),((ay cR).getD 3 (.Pass ⟨0,0,0,0⟩)),((ay cR).getD 4 (.Pass ⟨0,0,0,0⟩)),((ay cR).getD 5 (.Pass ⟨0,0,0,0⟩))]:=by kernel_rfl
 have e2:eV=[(eV.getD 0 (.ret (.c .az))),(eV.getD 1 (.ret (.c .az))),(eV.getD 2 (.ret (.c .az))),(eV.getD 3 (.ret (.c .az))),(eV.getD 4 (.ret (.c .az))),(eV.getD 5 (.ret (.c .az)))]:=by kernel_rfl
 rw[e,e2]
 with_reducible exact ah (amh G) (ah (ami G) (ah (amj G) (ah (amk G) (ah (aml G) (ah (amm G) (aw))))))
def om:Stmt:=bw 80
theorem amo:bh BG QW (aq om):=bp
theorem amq{CX:aG}{Γ:aC}{X:Cx}(G:aL CX (aP BG (aq om) ahg ahh QX ahi ahj ahk ahl 0) Γ X):aY X (ay om) (ar Γ BH):=by
 have g:=G.toGood
 exact(ah (aI G aN) (ah (aI G ak) (ah (Ad [(_,_),(_,_)] G (iU g (aa g)) (ah (bj (aW g (aa g) aN) (ah (aI G (aD g (aa g) (aa g))) aw) (ah (bj (aW g (aa g) aN) (ah (aI G (aD g (aa g) (ma g (aa g) (hU (aa g)) (hU (aD g (aa g) (aa g)))))) (ah (aI G (aD g (aa g) (aa g))) aw)) (ah (aI G (aD g (aa g) (bL g (af (aa g) ai)))) aw)) aw)) aw)) (ah (aO (aa g)) aw))))
def oo:Stmt:=bw 81
theorem amr:bh CK RU (aq oo):=bp
theorem ams{CX:aG}{Γ:aC}{X:Cx}(G:aL CX (aP CK (aq oo) ajL ajM RV ajN ajO ajP ajQ 0) Γ X):aY X (ay oo) (ar Γ CL):=by
 have g:=G.toGood
 exact(ah (aI G (Rg g (ma g (aa g) z_ (hU (aa g))) (af aN ai))) (ah (aO (cb (af (aD g (bL g (af (aa g) ai)) ak) (af (bL g (af (aB g (aa g) (pE ak)) ai)) ai)))) aw))
def ou:Stmt:=bw 82
theorem amt:bh CM RW (aq ou):=bp
theorem amu{CX:aG}{Γ:aC}{X:Cx}(G:aL CX (aP CM (aq ou) ajR ajS RX ajT ajU ajV ajW 0) Γ X):aY X (ay ou) (ar Γ CN):=by
 have g:=G.toGood
 exact(ah (aI G (Rg g (aa g) (af aN ai))) (ah (aO (aD g (bL g (af (me (ln:=["_law_row"]) g (by kernel_rfl) (iU g (ma g (aa g) z_ (hU (aa g)))) rR (fun _ g=> (aD g (bL g (af (aa g) ai)) ak))) ai)) (bL g (af (aa g) (af (bL g (af (aB g (aa g) (aa g)) ai)) ai))))) aw))
def ow:Stmt:=bw 83
theorem amv:bh CO RY (aq ow):=bp
theorem amw{CX:aG}{Γ:aC}{X:Cx}(G:aL CX (aP CO (aq ow) ajX ajY RZ ajZ aj0 aj1 aj2 0) Γ X):aY X (ay ow) (ar Γ CQ):=by
 have g:=G.toGood
 exact(ah (aI G aN) (ah (acJ (ln:=["_law_sign"]) G (by kernel_rfl) (by kernel_rfl) (by kernel_rfl) (agY (aa g)) rR (fun _ g=> (cP g (aa g) (aa g)))) (ah (bj (aW g (aa g) aN) (ah (hV G (PW.pt (gy (aW g (aa g) (bL g (af (aa g) ai))) (iS (cQ (vH g (aB g (aa g) (aa g))))))) (ah (aI G (aD g (aa g) ak)) aw)) (ah (hV G (PW.pt (gy (aW g (aa g) (bL g (af (aa g) ai))) (iS (vH g (aB g (aa g) (aa g)))))) (ah (aI G (aD g (aa g) ak)) aw)) (ah (aO (aa g)) aw))) aw) (ah (hV G (PW.pt (gy (aW g (aa g) ak) (iS (cQ (vH g (aB g (aa g) (aD g (aa g) ak))))))) (ah (aI G (aD g (aa g) ak)) aw)) (ah (hV G (PW.pt (gy (aW g (aa g) ak) (iS (vH g (aB g (aa g) (aD g (aa g) ak)))))) (ah (aI G (aD g (aa g) ak)) aw)) (ah (aO (aa g)) aw))))))
def bT:Stmt:=bw 84
theorem amx:bh fI R0 (aq bT):=bp
theorem amy{CX:aG}{Γ:aC}{X:Cx}(G:aL CX (aP fI (aq bT) gC gE fZ gF gG gH gI 0) Γ X):PS X ((ay bT).getD 0 (.Pass ⟨0,0,0,0⟩)) (bB Γ (cp.getD 0 (.ret (.c .az)))):=by
 have g:=G.toGood
 exact(O4 [(_,_),(_,_),(_,_)] G (aa g))
theorem amz{CX:aG}{Γ:aC}{X:Cx}(G:aL CX (aP fI (aq bT) gC gE fZ gF gG gH gI 0) Γ X):PS X ((ay bT).getD 1 (.Pass ⟨0,0,0,0⟩)) (bB Γ (cp.getD 1 (.ret (.c .az)))):=by
 have g:=G.toGood
 exact(O4 [(_,_),(_,_)] G (aE g (af (aa g) (af (aa g) ai))))
theorem amA{CX:aG}{Γ:aC}{X:Cx}(G:aL CX (aP fI (aq bT) gC gE fZ gF gG gH gI 0) Γ X):PS X ((ay bT).getD 2 (.Pass ⟨0,0,0,0⟩)) (bB Γ (cp.getD 2 (.ret (.c .az)))):=by
 have g:=G.toGood
 exact(bj (PW.pt (fG (aW g (aa g) aN) (fX (aW g (aa g) aN)))) (ah (aO (aB g (dt (af ak (af (bL g (af (aa g) ai)) ai))) (bL g (af (cP g (aa g) aN) ai)))) aw) aw)
theorem amB{CX:aG}{Γ:aC}{X:Cx}(G:aL CX (aP fI (aq bT) gC gE fZ gF gG gH gI 0) Γ X):PS X ((ay bT).getD 3 (.Pass ⟨0,0,0,0⟩)) (bB Γ (cp.getD 3 (.ret (.c .az)))):=by
 have g:=G.toGood
 exact(bj (PW.pt (fG (aW g (aa g) aN) (fX (aW g (aa g) aN)))) (ah (aO (aE g (af (aa g) (af (aa g) (af (aB g (dt (af ak (af (bL g (af (aa g) ai)) ai))) (bL g (af (cP g (aa g) aN) ai))) ai))))) aw) aw)
theorem amC{CX:aG}{Γ:aC}{X:Cx}(G:aL CX (aP fI (aq bT) gC gE fZ gF gG gH gI 0) Γ X):PS X ((ay bT).getD 4 (.Pass ⟨0,0,0,0⟩)) (bB Γ (cp.getD 4 (.ret (.c .az)))):=by
 have g:=G.toGood
 exact(bj (PW.pt (fG (aW g (aa g) aN) (fX (aW g (aa g) aN)))) (ah (aO (aE g (af (aa g) (af (aa g) (af (aa g) ai))))) aw) aw)
theorem amD{CX:aG}{Γ:aC}{X:Cx}(G:aL CX (aP fI (aq bT) gC gE fZ gF gG gH gI 0) Γ X):PS X ((ay bT).getD 5 (.Pass ⟨0,0,0,0⟩)) (bB Γ (cp.getD 5 (.ret (.c .az)))):=by
 have g:=G.toGood
 exact(bj (PW.pt (fG (aW g (aa g) aN) (fX (aW g (aa g) aN)))) (ah (bj (PW.pt (gy (aW g (aa g) (aa g)) (iS (cQ (vG g (aa g)))))) (ah (aO (aB g (dt (af (bL g (af (aa g) (af (aa g) ai))) (af (bL g (af (aa g) (af (aa g) ai))) ai))) (bL g (af (cP g (aa g) aN) ai)))) aw) aw) (ah (aO (bL g (af ak (af (bL g (af (bL g (af (aa g) ai)) (af (aD g (aa g) (aB g (dt (af (pE ak) (af ak ai))) (bL g (af (cP g (aa g) aN) ai)))) ai))) ai)))) aw)) aw)
theorem amE{CX:aG}{Γ:aC}{X:Cx}(G:aL CX (aP fI (aq bT) gC gE fZ gF gG gH gI 0) Γ X):PS X ((ay bT).getD 6 (.Pass ⟨0,0,0,0⟩)) (bB Γ (cp.getD 6 (.ret (.c .az)))):=by
 have g:=G.toGood
 exact(bj (aW g (aa g) cJ) (ah (aI G (aa g)) aw) aw)
theorem amF{CX:aG}{Γ:aC}{X:Cx}(G:aL CX (aP fI (aq bT) gC gE fZ gF gG gH gI 0) Γ X):PS X ((ay bT).getD 7 (.Pass ⟨0,0,0,0⟩)) (bB Γ (cp.getD 7 (.ret (.c .az)))):=by
 have g:=G.toGood
 show PS X (.Assign [.Name "_law_other" _] _ _) (bB Γ (.asg 9 _))
 with_reducible exact(aI G (aD g (aa g) (aB g (dt (af (pE ak) (af ak ai))) (bL g (af (cP g (aa g) aN) ai)))))
theorem amG{CX:aG}{Γ:aC}{X:Cx}(G:aL CX (aP fI (aq bT) gC gE fZ gF gG gH gI 0) Γ X):PS X ((ay bT).getD 8 (.Pass ⟨0,0,0,0⟩)) (bB Γ (cp.getD 8 (.ret (.c .az)))):=by
 have g:=G.toGood
 exact(bj (aW g (aa g) ak) (ah (aO ak) aw) aw)
theorem amH{CX:aG}{Γ:aC}{X:Cx}(G:aL CX (aP fI (aq bT) gC gE fZ gF gG gH gI 0) Γ X):PS X ((ay bT).getD 9 (.Pass ⟨0,0,0,0⟩)) (bB Γ (cp.getD 9 (.ret (.c .az)))):=by
 have g:=G.toGood
 exact(bj (aW g (aa g) (dz g (aa g) (af aN ai))) (ah (aO (bL g (af (aa g) ai))) aw) aw)
theorem amI{CX:aG}{Γ:aC}{X:Cx}(G:aL CX (aP fI (aq bT) gC gE fZ gF gG gH gI 0) Γ X):PS X ((ay bT).getD 10 (.Pass ⟨0,0,0,0⟩)) (bB Γ (cp.getD 10 (.ret (.c .az)))):=by
 have g:=G.toGood
 show PS X (.Return (some _) _) (bB Γ (.ret _))
 with_reducible exact(aO (aE g (af (aa g) (af (aa g) (af (aa g) ai)))))
theorem amJ{CX:aG}{Γ:aC}{X:Cx}(G:aL CX (aP fI (aq bT) gC gE fZ gF gG gH gI 0) Γ X):aY X (ay bT) (ar Γ cp):=by
 have e:ay bT=[((ay bT).getD 0 (.Pass ⟨0,0,0,0⟩)),((ay bT).getD 1 (.Pass ⟨0,0,0,0⟩)),((ay bT).getD 2 (.Pass ⟨0,0,0,0⟩)),((ay bT).getD 3 (.Pass ⟨0,0,0,0⟩)),((ay bT).getD 4 (.Pass ⟨0,0,0,0⟩)),((ay bT).getD 5 (.Pass ⟨0,0,0,0⟩)),((ay bT).getD 6 (.Pass ⟨0,0,0,0⟩)),((ay bT).getD 7 (.Pass ⟨0,0,0,0⟩)),((ay bT).getD 8 (.Pass ⟨0,0,0,0⟩)),((ay bT).getD 9 (.Pass ⟨0,0,0,0⟩)),((ay bT).getD 10 (.Pass ⟨0,0,0,0⟩))]:=by kernel_rfl
 have e2:cp=[(cp.getD 0 (.ret (.c .az))),(cp.getD 1 (.ret (.c .az))),(cp.getD 2 (.ret (.c .az))),(cp.getD 3 (.ret (.c .az))),(cp.getD 4 (.ret (.c .az))),(cp.getD 5 (.ret (.c .az))),(cp.getD 6 (.ret (.c .az))),(cp.getD 7 (.ret (.c .az))),(cp.getD 8 (.ret (.c .az))),(cp.getD 9 (.ret (.c .az))),(cp.getD 10 (.ret (.c .az)))]:=by kernel_rfl
 rw[e,e2]
 with_reducible exact ah (amy G) (ah (amz G) (ah (amA G) (ah (amB G) (ah (amC G) (ah (amD G) (ah (amE G) (ah (amF G) (ah (amG G) (ah (amH G) (ah (amI G) (aw)))))))))))
def dH:Stmt:=bw 85
theorem amK:bh mx R1 (aq dH):=bp
theorem amL{CX:aG}{Γ:aC}{X:Cx}(G:aL CX (aP mx (aq dH) r9 r_ pI se sf si sj 0) Γ X):PS X ((ay dH).getD 0 (.Pass ⟨0,0,0,0⟩)) (bB Γ (f_.getD 0 (.ret (.c .az)))):=by
 have g:=G.toGood
 show PS X (.Assign [.Name "_law_place" _] _ _) (bB Γ (.asg 4 _))
 with_reducible exact(aI G (aE g (af (aa g) (af (aa g) (af (aa g) (af (aa g) ai))))))
theorem amM{CX:aG}{Γ:aC}{X:Cx}(G:aL CX (aP mx (aq dH) r9 r_ pI se sf si sj 0) Γ X):PS X ((ay dH).getD 1 (.Pass ⟨0,0,0,0⟩)) (bB Γ (f_.getD 1 (.ret (.c .az)))):=by
 have g:=G.toGood
 show PS X (.Assign [.Name "_law_goal" _] _ _) (bB Γ (.asg 5 _))
 with_reducible exact(aI G cJ)
theorem amN{CX:aG}{Γ:aC}{X:Cx}(G:aL CX (aP mx (aq dH) r9 r_ pI se sf si sj 0) Γ X):PS X ((ay dH).getD 2 (.Pass ⟨0,0,0,0⟩)) (bB Γ (f_.getD 2 (.ret (.c .az)))):=by
 have g:=G.toGood
 exact(bj (PW.pt (fG (aW g (aa g) aN) (fX (aW g (aa g) aN)))) (ah (aI G (aB g (aa g) ak)) (ah (bj (aW g (aa g) cJ) (ah (aI G (aB g (aE g (af (aa g) (af (aB g (aa g) ak) ai))) ak)) aw) aw) aw)) aw)
theorem amO{CX:aG}{Γ:aC}{X:Cx}(G:aL CX (aP mx (aq dH) r9 r_ pI se sf si sj 0) Γ X):PS X ((ay dH).getD 3 (.Pass ⟨0,0,0,0⟩)) (bB Γ (f_.getD 3 (.ret (.c .az)))):=by
 have g:=G.toGood
 show PS X (.Return (some _) _) (bB Γ (.ret _))
 with_reducible exact(aO (cb (af (aB g (dt (af (aa g) (af (aB g (aa g) ak) ai))) (bL g (af (aa g) ai))) (af (aa g) (af (aa g) ai)))))
theorem amP{CX:aG}{Γ:aC}{X:Cx}(G:aL CX (aP mx (aq dH) r9 r_ pI se sf si sj 0) Γ X):aY X (ay dH) (ar Γ f_):=by
 have e:ay dH=[((ay dH).getD 0 (.Pass ⟨0,0,0,0⟩)),((ay dH).getD 1 (.Pass ⟨0,0,0,0⟩)),((ay dH).getD 2 (.Pass ⟨0,0,0,0⟩)),((ay dH).getD 3 (.Pass ⟨0,0,0,0⟩))]:=by kernel_rfl
 have e2:f_=[(f_.getD 0 (.ret (.c .az))),(f_.getD 1 (.ret (.c .az))),(f_.getD 2 (.ret (.c .az))),(f_.getD 3 (.ret (.c .az)))]:=by kernel_rfl
 rw[e,e2]
 with_reducible exact ah (amL G) (ah (amM G) (ah (amN G) (ah (amO G) (aw))))
def oy:Stmt:=bw 86
theorem amQ:bh CS R6 (aq oy):=bp
theorem amR{CX:aG}{Γ:aC}{X:Cx}(G:aL CX (aP CS (aq oy) aj3 aj4 R7 aj5 aj6 aj7 aj8 0) Γ X):aY X (ay oy) (ar Γ CU):=by
 have g:=G.toGood
 exact(ah (bj (PW.pt (fG (cQ (rS g (hJ g (aa g)))) (fG (aW g (bL g (af (aa g) ai)) ak) (fX (aW g (aa g) (aa g)))))) (ah (aO l_) aw) aw) (ah (aO (cP g (me (ln:=["_law_one"]) g (by kernel_rfl) (acD g (aa g)) (Aa fun _ g=> (PW.pt (gy (aW g (aa g) cJ) (iS (cQ (eT g (aE g (af (aa g) ai)))))))) (fun _ g=> (aa g))) (dt ai))) aw))
def sk:List Str:=["_law_number","_law_some"]
def Se:List Str:=["_law_number"]
noncomputable def ko:List RS:=
 [.asg 1 (.lst [(.c (.str "left")),(.c (.str "right")),(.c (.str "up")),(.c (.str "down")),(.c (.str "home")),(.c (.str "end")),(.c (.str "top")),(.c (.str "bottom")),(.c (.str "back")),(.c (.str "on")),(.c (.str "up")),(.c (.str "down")),(.c (.str "up")),(.c (.str "down"))]),
 .ret (.ix (.v 1) (.bin .Mod (.v 0) (.c (.int 14))))]
def CV:List Str:=[]
def CW:List Str:=[]
def vZ:List Str:=[]
def CY:List Str:=[]
def CZ:List Str:=[]
def C0:List Str:=[]
def C1:List Str:=[]
def fJ:Stmt:=bw 87
theorem amS:bh sk Se (aq fJ):=bp
theorem amT{CX:aG}{Γ:aC}{X:Cx}(G:aL CX (aP sk (aq fJ) CV CW vZ CY CZ C0 C1 0) Γ X):PS X ((ay fJ).getD 0 (.Pass ⟨0,0,0,0⟩)) (bB Γ (ko.getD 0 (.ret (.c .az)))):=by
 have g:=G.toGood
 show PS X (.Assign [.Name "_law_some" _] _ _) (bB Γ (.asg 1 _))
 with_reducible exact(aI G (dt (af aN (af aN (af aN (af aN (af aN (af aN (af aN (af aN (af aN (af aN (af aN (af aN (af aN (af aN ai))))))))))))))))
theorem amU{CX:aG}{Γ:aC}{X:Cx}(G:aL CX (aP sk (aq fJ) CV CW vZ CY CZ C0 C1 0) Γ X):PS X ((ay fJ).getD 1 (.Pass ⟨0,0,0,0⟩)) (bB Γ (ko.getD 1 (.ret (.c .az)))):=by
 have g:=G.toGood
 show PS X (.Return (some _) _) (bB Γ (.ret _))
 with_reducible exact(aO (aB g (aa g) (aD g (aa g) ak)))
theorem amV{CX:aG}{Γ:aC}{X:Cx}(G:aL CX (aP sk (aq fJ) CV CW vZ CY CZ C0 C1 0) Γ X):aY X (ay fJ) (ar Γ ko):=by
 have e:ay fJ=[((ay fJ).getD 0 (.Pass ⟨0,0,0,0⟩)),((ay fJ).getD 1 (.Pass ⟨0,0,0,0⟩))]:=by kernel_rfl
 have e2:ko=[(ko.getD 0 (.ret (.c .az))),(ko.getD 1 (.ret (.c .az)))]:=by kernel_rfl
 rw[e,e2]
 with_reducible exact ah (amT G) (ah (amU G) (aw))
def kq:List Str:=["_law_cell","_law_size","_law_number","_law_anchor","_law_head"]
def Sf:List Str:=["_law_cell","_law_size"]
noncomputable def eW:List RS:=
 [.asg 2 (.call 0 [(.v 0),(.c (.int 11))]),
 .asg 3 (.bin .Mod (.v 2) (.bin .Add (.v 1) (.c (.int 1)))),
 .asg 4 (.v 3),
 .ite (.cmp .Eq (.bin .Mod (.bin .FloorDiv (.v 2) (.c (.int 401))) (.c (.int 2))) (.c (.int 1))) [.asg 4 (.bin .Mod (.bin .FloorDiv (.v 2) (.c (.int 802))) (.bin .Add (.v 1) (.c (.int 1))))] [],
 .ret (.tup [(.v 3),(.v 4),(.ix (.lst [(.c .az),(.c .az),(.bin .Mod (.bin .FloorDiv (.v 2) (.c (.int 5))) (.c (.int 9))),(.v 2)]) (.bin .Mod (.bin .FloorDiv (.v 2) (.c (.int 7))) (.c (.int 4))))])]
def pJ:List Str:=["_law_mixed"]
def pK:List Str:=[]
def oz:List Str:=[]
def pL:List Str:=[]
def pM:List Str:=[]
def pN:List Str:=[]
def pP:List Str:=[]
def dj:Stmt:=bw 88
theorem amW:bh kq Sf (aq dj):=bp
theorem amX{CX:aG}{Γ:aC}{X:Cx}(G:aL CX (aP kq (aq dj) pJ pK oz pL pM pN pP 0) Γ X):PS X ((ay dj).getD 0 (.Pass ⟨0,0,0,0⟩)) (bB Γ (eW.getD 0 (.ret (.c .az)))):=by
 have g:=G.toGood
 show PS X (.Assign [.Name "_law_number" _] _ _) (bB Γ (.asg 2 _))
 with_reducible exact(aI G (aE g (af (aa g) (af ak ai))))
theorem amY{CX:aG}{Γ:aC}{X:Cx}(G:aL CX (aP kq (aq dj) pJ pK oz pL pM pN pP 0) Γ X):PS X ((ay dj).getD 1 (.Pass ⟨0,0,0,0⟩)) (bB Γ (eW.getD 1 (.ret (.c .az)))):=by
 have g:=G.toGood
 show PS X (.Assign [.Name "_law_anchor" _] _ _) (bB Γ (.asg 3 _))
 with_reducible exact(aI G (aD g (aa g) (aD g (aa g) ak)))
theorem amZ{CX:aG}{Γ:aC}{X:Cx}(G:aL CX (aP kq (aq dj) pJ pK oz pL pM pN pP 0) Γ X):PS X ((ay dj).getD 2 (.Pass ⟨0,0,0,0⟩)) (bB Γ (eW.getD 2 (.ret (.c .az)))):=by
 have g:=G.toGood
 show PS X (.Assign [.Name "_law_head" _] _ _) (bB Γ (.asg 4 _))
 with_reducible exact(aI G (aa g))
theorem am0{CX:aG}{Γ:aC}{X:Cx}(G:aL CX (aP kq (aq dj) pJ pK oz pL pM pN pP 0) Γ X):PS X ((ay dj).getD 3 (.Pass ⟨0,0,0,0⟩)) (bB Γ (eW.getD 3 (.ret (.c .az)))):=by
 have g:=G.toGood
 exact(bj (aW g (aD g (aD g (aa g) ak) ak) ak) (ah (aI G (aD g (aD g (aa g) ak) (aD g (aa g) ak))) aw) aw)
theorem am1{CX:aG}{Γ:aC}{X:Cx}(G:aL CX (aP kq (aq dj) pJ pK oz pL pM pN pP 0) Γ X):PS X ((ay dj).getD 4 (.Pass ⟨0,0,0,0⟩)) (bB Γ (eW.getD 4 (.ret (.c .az)))):=by
 have g:=G.toGood
 show PS X (.Return (some _) _) (bB Γ (.ret _))
 with_reducible exact(aO (cb (af (aa g) (af (aa g) (af (aB g (dt (af cJ (af cJ (af (aD g (aD g (aa g) ak) ak) (af (aa g) ai))))) (aD g (aD g (aa g) ak) ak)) ai)))))
theorem am2{CX:aG}{Γ:aC}{X:Cx}(G:aL CX (aP kq (aq dj) pJ pK oz pL pM pN pP 0) Γ X):aY X (ay dj) (ar Γ eW):=by
 have e:ay dj=[((ay dj).getD 0 (.Pass ⟨0,0,0,0⟩)),((ay dj).getD 1 (.Pass ⟨0,0,0,0⟩)),((ay dj).getD 2 (.Pass ⟨0,0,0,0⟩)),((ay dj).getD 3 (.Pass ⟨0,0,0,0⟩)),((ay dj).getD 4 (.Pass ⟨0,0,0,0⟩))]:=by kernel_rfl
 have e2:eW=[(eW.getD 0 (.ret (.c .az))),(eW.getD 1 (.ret (.c .az))),(eW.getD 2 (.ret (.c .az))),(eW.getD 3 (.ret (.c .az))),(eW.getD 4 (.ret (.c .az)))]:=by kernel_rfl
 rw[e,e2]
 with_reducible exact ah (amX G) (ah (amY G) (ah (amZ G) (ah (am0 G) (ah (am1 G) (aw)))))
def hZ:List Str:=["_law_script","_law_size","_law_text","_law_paper","_law_k","_law_change","_law_cursor_here","_law_cell","_law_number","_law_word","_law_hold","_law_found"]
def Sg:List Str:=["_law_script"]
noncomputable def du:List RS:=
 [.asg 1 (.bin .Mod (.call 0 [(.v 0),(.c (.int 0))]) (.c (.int 25))),
 .ite (.cmp .Eq (.bin .Mod (.bin .FloorDiv (.call 0 [(.v 0),(.c (.int 0))]) (.c (.int 25))) (.c (.int 8))) (.c (.int 1))) [.asg 1 (.bin .Add (.c (.int 60)) (.bin .Mod (.bin .FloorDiv (.call 0 [(.v 0),(.c (.int 0))]) (.c (.int 200))) (.c (.int 140))))] [],
 .asg 2 (.call 1 [(.call 0 [(.v 0),(.c (.int 1))]),(.v 1)]),
 .asg 3 (.call 2 [(.v 2)]),
 .iN 4 .fQ [(.bin .Mod (.call 0 [(.v 0),(.c (.int 2))]) (.c (.int 3)))] [.asg 5 (.call 3 [(.call 4 [(.call 0 [(.v 0),(.bin .Add (.c (.int 3)) (.v 4))]),(.v 4)]),(.v 2)]),
  .asg 3 (.bO 0 "changed" (.v 3) [(.v 5)]),
  .asg 2 (.call 5 [(.v 2),(.v 5)])],
 .asg 6 (.call 6 [(.call 0 [(.v 0),(.c (.int 5))]),(.blt .len [(.v 2)])]),
 .pw [4,7] .zt [(.sl (.v 0) (some (.c (.int 6))) (some (.c (.int 18))))] [.asg 8 (.call 4 [(.v 7),(.bin .Add (.c (.int 600)) (.v 4))]),
  .ite (.cmp .Eq (.bin .Mod (.v 8) (.c (.int 5))) (.c (.int 1))) [.asg 6 (.call 6 [(.v 8),(.blt .len [(.v 2)])])] [],
  .asg 9 (.call 7 [(.bin .FloorDiv (.v 8) (.c (.int 5)))]),
  .asg 10 (.cmp .Eq (.bin .Mod (.bin .FloorDiv (.v 8) (.c (.int 70))) (.c (.int 3))) (.c (.int 1))),
  .asg 11 (.call 8 [(.v 3),(.v 6),(.v 9),(.v 10)]),
  .ite (.not (.call 9 [(.v 11),(.call 10 [(.v 2),(.v 6),(.v 9),(.v 10)])])) [.ret (.c (.bl false))] [],
  .ite (.cmp .NotEq (.call 8 [(.v 3),(.v 6),(.v 9),(.v 10)]) (.v 11)) [.ret (.c (.bl false))] [],
  .asg 6 (.v 11)],
 .ret (.cmp .Eq (.bO 1 "text" (.v 3) []) (.v 2))]
def jy:List Str:=["_law_cell_at","_law_text_by","paper_of","_law_change_by","_law_mixed","_law_done","_law_begun","_law_word_by","stepped","_law_cursor","_law_stepped"]
def jz:List Str:=[]
def iW:List Str:=["range","len","enumerate"]
def jA:List Str:=["changed","text"]
def jB:List Str:=[]
def jC:List Str:=[]
def jD:List Str:=[]
def b7:Stmt:=bw 89
theorem am3:bh hZ Sg (aq b7):=bp
theorem am4{CX:aG}{Γ:aC}{X:Cx}(G:aL CX (aP hZ (aq b7) jy jz iW jA jB jC jD 0) Γ X):PS X ((ay b7).getD 0 (.Pass ⟨0,0,0,0⟩)) (bB Γ (du.getD 0 (.ret (.c .az)))):=by
 have g:=G.toGood
 show PS X (.Assign [.Name "_law_size" _] _ _) (bB Γ (.asg 1 _))
 with_reducible exact(aI G (aD g (aE g (af (aa g) (af ak ai))) ak))
theorem am5{CX:aG}{Γ:aC}{X:Cx}(G:aL CX (aP hZ (aq b7) jy jz iW jA jB jC jD 0) Γ X):PS X ((ay b7).getD 1 (.Pass ⟨0,0,0,0⟩)) (bB Γ (du.getD 1 (.ret (.c .az)))):=by
 have g:=G.toGood
 exact(bj (aW g (aD g (aD g (aE g (af (aa g) (af ak ai))) ak) ak) ak) (ah (aI G (aD g ak (aD g (aD g (aE g (af (aa g) (af ak ai))) ak) ak))) aw) aw)
theorem am6{CX:aG}{Γ:aC}{X:Cx}(G:aL CX (aP hZ (aq b7) jy jz iW jA jB jC jD 0) Γ X):PS X ((ay b7).getD 2 (.Pass ⟨0,0,0,0⟩)) (bB Γ (du.getD 2 (.ret (.c .az)))):=by
 have g:=G.toGood
 show PS X (.Assign [.Name "_law_text" _] _ _) (bB Γ (.asg 2 _))
 with_reducible exact(aI G (aE g (af (aE g (af (aa g) (af ak ai))) (af (aa g) ai))))
theorem am7{CX:aG}{Γ:aC}{X:Cx}(G:aL CX (aP hZ (aq b7) jy jz iW jA jB jC jD 0) Γ X):PS X ((ay b7).getD 3 (.Pass ⟨0,0,0,0⟩)) (bB Γ (du.getD 3 (.ret (.c .az)))):=by
 have g:=G.toGood
 show PS X (.Assign [.Name "_law_paper" _] _ _) (bB Γ (.asg 3 _))
 with_reducible exact(aI G (aE g (af (aa g) ai)))
theorem am8{CX:aG}{Γ:aC}{X:Cx}(G:aL CX (aP hZ (aq b7) jy jz iW jA jB jC jD 0) Γ X):PS X ((ay b7).getD 4 (.Pass ⟨0,0,0,0⟩)) (bB Γ (du.getD 4 (.ret (.c .az)))):=by
 have g:=G.toGood
 exact(pF G (Ab g (aD g (aE g (af (aa g) (af ak ai))) ak)) (ah (aI G (aE g (af (aE g (af (aE g (af (aa g) (af (aD g ak (aa g)) ai))) (af (aa g) ai))) (af (aa g) ai)))) (ah (aI G (dA g (aa g) (af (aa g) ai))) (ah (aI G (aE g (af (aa g) (af (aa g) ai)))) aw))))
theorem am9{CX:aG}{Γ:aC}{X:Cx}(G:aL CX (aP hZ (aq b7) jy jz iW jA jB jC jD 0) Γ X):PS X ((ay b7).getD 5 (.Pass ⟨0,0,0,0⟩)) (bB Γ (du.getD 5 (.ret (.c .az)))):=by
 have g:=G.toGood
 show PS X (.Assign [.Name "_law_cursor_here" _] _ _) (bB Γ (.asg 6 _))
 with_reducible exact(aI G (aE g (af (aE g (af (aa g) (af ak ai))) (af (bL g (af (aa g) ai)) ai))))
theorem am_{CX:aG}{Γ:aC}{X:Cx}(G:aL CX (aP hZ (aq b7) jy jz iW jA jB jC jD 0) Γ X):PS X ((ay b7).getD 6 (.Pass ⟨0,0,0,0⟩)) (bB Γ (du.getD 6 (.ret (.c .az)))):=by
 have g:=G.toGood
 exact(Ad [(_,_),(_,_)] G (acE g (ma g (aa g) (hU ak) (hU ak))) (ah (aI G (aE g (af (aa g) (af (aD g ak (aa g)) ai)))) (ah (bj (aW g (aD g (aa g) ak) ak) (ah (aI G (aE g (af (aa g) (af (bL g (af (aa g) ai)) ai)))) aw) aw) (ah (aI G (aE g (af (aD g (aa g) ak) ai))) (ah (aI G (cP g (aD g (aD g (aa g) ak) ak) ak)) (ah (aI G (aE g (af (aa g) (af (aa g) (af (aa g) (af (aa g) ai)))))) (ah (bj (cQ (eT g (aE g (af (aa g) (af (aE g (af (aa g) (af (aa g) (af (aa g) (af (aa g) ai))))) ai))))) (ah (aO l_) aw) aw) (ah (bj (aW g (aE g (af (aa g) (af (aa g) (af (aa g) (af (aa g) ai))))) (aa g)) (ah (aO l_) aw) aw) (ah (aI G (aa g)) aw)))))))))
theorem ana{CX:aG}{Γ:aC}{X:Cx}(G:aL CX (aP hZ (aq b7) jy jz iW jA jB jC jD 0) Γ X):PS X ((ay b7).getD 7 (.Pass ⟨0,0,0,0⟩)) (bB Γ (du.getD 7 (.ret (.c .az)))):=by
 have g:=G.toGood
 show PS X (.Return (some _) _) (bB Γ (.ret _))
 with_reducible exact(aO (cP g (fi g (aa g)) (aa g)))
theorem anb{CX:aG}{Γ:aC}{X:Cx}(G:aL CX (aP hZ (aq b7) jy jz iW jA jB jC jD 0) Γ X):aY X (ay b7) (ar Γ du):=by
 have e:ay b7=[((ay b7).getD 0 (.Pass ⟨0,0,0,0⟩)),((ay b7).getD 1 (.Pass ⟨0,0,0,0⟩)),((ay b7).getD 2 (.Pass ⟨0,0,0,0⟩)),((ay b7).getD 3 (.Pass ⟨0,0,0,0⟩)),((ay b7).getD 4 (.Pass ⟨0,0,0,0⟩)),((ay b7).getD 5 (.Pass ⟨0,0,0,0⟩)),((ay b7).getD 6 (.Pass ⟨0,0,0,0⟩)),((ay b7).getD 7 (.Pass ⟨0,0,0,0⟩))]:=by kernel_rfl
 have e2:du=[(du.getD 0 (.ret (.c .az))),(du.getD 1 (.ret (.c .az))),(du.getD 2 (.ret (.c .az))),(du.getD 3 (.ret (.c .az))),(du.getD 4 (.ret (.c .az))),(du.getD 5 (.ret (.c .az))),(du.getD 6 (.ret (.c .az))),(du.getD 7 (.ret (.c .az)))]:=by kernel_rfl
 rw[e,e2]
 with_reducible exact ah (am4 G) (ah (am5 G) (ah (am6 G) (ah (am7 G) (ah (am8 G) (ah (am9 G) (ah (am_ G) (ah (ana G) (aw))))))))
end L2.my
namespace L2.N
inductive Tr where
 | nil | node (l:Tr) (a b c:Int) (r:Tr)
namespace Tr
def h:Tr→Int
 | nil=>0
 | node l _ _ _ r=>1+ (if r.h>l.h then r.h else l.h)
def sz:Tr→Int
 | nil=>0
 | node l _ b _ r=>l.sz+b+r.sz
def en:Tr→Int
 | nil=>0
 | node l _ _ c r=>l.en+c+r.en
def av:Tr→List (Int×Int×Int)
 | nil=> []
 | node l a b c r=>l.av++ (a,b,c)::r.av
def ok:Tr→Prop
 | nil=>True
 | node l _ _ _ r=>l.ok∧r.ok∧l.h≤r.h+1∧r.h≤l.h+1
theorem h0: ∀t:Tr,0≤t.h
 | nil=>Int.le_refl _
 | node l _ _ _ r=>by
  have:=h0 l
  have:=h0 r
  show 0≤1+ (if r.h>l.h then r.h else l.h)
  split<;>omega
theorem pQ: ∀{t:Tr},0<t.h→ ∃l a b c r,t=node l a b c r
 | nil,h=>absurd h (by decide)
 | node l a b c r,_=> ⟨l,a,b,c,r,rfl⟩
theorem cK(l:Tr)(a b c:Int)(r:Tr):(node l a b c r).h=1+ (if r.h>l.h then r.h else l.h):=rfl
theorem C2: ∀{t:Tr} (n:Nat),t.ok→(n:Int)≤t.h→2 ^ (n / 2)≤t.av.length+1
 | nil,n,_,hn=>by
  have:n=0:=by
   have:(n:Int)≤0:=hn
   omega
  subst this;decide
 | node l a b c r,n,ho,hn=>by
  obtain⟨o1,o2,o3,o4⟩:=ho
  rw[cK] at hn
  simp only[av,zqA,List.length_cons]
  match n with
  | 0=>simp
  | 1=>simp
  | n+2=>
   have e:(n+2) / 2=n / 2+1:=by omega
   rw[e,Nat.pow_succ]
   have k1:(n:Int)≤l.h:=by split at hn<;>omega
   have k2:(n:Int)≤r.h:=by split at hn<;>omega
   have i1:=C2 n o1 k1
   have i2:=C2 n o2 k2
   omega
theorem gJ{t:Tr}(ho:t.ok)(hn:t.av.length≤1000):t.h≤19:=by
 by_cases hh:t.h≤19
 ·exact hh
 ·have:=C2 20 ho (by omega)
  omega
structure iX (l:Tr) (a b c:Int) (r t:Tr):Prop where
 ok:t.ok
 av:t.av=l.av++ (a,b,c)::r.av
 near:l.h≤r.h+1→r.h≤l.h+1→t.h=1+ (if r.h>l.h then r.h else l.h)
 lo:l.h≤t.h∧r.h≤t.h
 hi:t.h≤l.h+1∨t.h≤r.h+1
theorem Sh{l r:Tr}{a b c:Int}(o1:l.ok)(o2:r.ok)(h1:l.h≤r.h+1)(h2:r.h≤l.h+1):iX l a b c r (node l a b c r):=by
 refine⟨⟨o1,o2,h1,h2⟩,rfl,fun _ _=>rfl, ?_, ?_⟩
 all_goals rw[cK];split<;>omega
theorem anc{ll lr r:Tr}{a b c a' b' c':Int}(o1:(node ll a b c lr).ok)(o2:r.ok)(h1:(node ll a b c lr).h=r.h+2)(hh:lr.h≤ll.h):
  iX (node ll a b c lr) a' b' c' r (node ll a b c (node lr a' b' c' r)):=by
 obtain⟨p1,p2,p3,p4⟩:=o1
 have e1:=cK ll a b c lr
 have e2:=cK lr a' b' c' r
 have e3:=cK ll a b c (node lr a' b' c' r)
 rw[h1] at e1
 have k:r.h+1=ll.h:=by rw[if_neg (by omega)] at e1;omega
 refine⟨⟨p1,⟨p2,o2,by omega,by omega⟩, ?_, ?_⟩,by simp[av],fun q1 q2=>absurd h1 (by omega), ?_, ?_⟩
 ·rw[e2];split<;>omega
 ·rw[e2];split<;>omega
 ·rw[e3,e2,h1];constructor<;> ((repeat' split) <;>omega)
 ·rw[e3,e2,h1];left;(split<;>split<;>omega)
theorem ane{ll il ir r:Tr}{a b c a' b' c' x y z:Int}(o1:(node ll a b c (node il x y z ir)).ok)(o2:r.ok)(h1:(node ll a b c (node il x y z ir)).h=r.h+2)(hh:ll.h< (node il x y z ir).h):
  iX (node ll a b c (node il x y z ir)) a' b' c' r (node (node ll a b c il) x y z (node ir a' b' c' r)):=by
 obtain⟨p1,⟨p5,p6,p7,p8⟩,p3,p4⟩:=o1
 have e1:=cK ll a b c (node il x y z ir)
 have e2:=cK il x y z ir
 have e3:=cK ll a b c il
 have e4:=cK ir a' b' c' r
 have e5:=cK (node ll a b c il) x y z (node ir a' b' c' r)
 rw[h1,if_pos (by omega)] at e1
 have k1:ll.h=r.h:=by omega
 have k2:il.h≤r.h∧ir.h≤r.h:=by rw[e2] at e1;split at e1<;>omega
 have k3:r.h - 1≤il.h∧r.h - 1≤ir.h:=by rw[e2] at e1;split at e1<;>omega
 have f3:(node ll a b c il).h=r.h+1:=by rw[e3];split<;>omega
 have f4:(node ir a' b' c' r).h=r.h+1:=by rw[e4];split<;>omega
 have f5:(node (node ll a b c il) x y z (node ir a' b' c' r)).h=r.h+2:=by rw[e5,f3,f4];split<;>omega
 refine⟨⟨⟨p1,p5,by omega,by omega⟩,⟨p6,o2,by omega,by omega⟩,by omega,by omega⟩,by simp[av],fun q1 q2=>absurd h1 (by omega),by omega,by omega⟩
theorem anf{l rl rr:Tr}{a b c a' b' c':Int}(o1:l.ok)(o2:(node rl a' b' c' rr).ok)(h1:(node rl a' b' c' rr).h=l.h+2)(hh:rl.h≤rr.h):
  iX l a b c (node rl a' b' c' rr) (node (node l a b c rl) a' b' c' rr):=by
 obtain⟨p1,p2,p3,p4⟩:=o2
 have e1:=cK rl a' b' c' rr
 have e2:=cK l a b c rl
 have e3:=cK (node l a b c rl) a' b' c' rr
 rw[h1] at e1
 have k:l.h+1=rr.h:=by split at e1<;>omega
 refine⟨⟨⟨o1,p1,by omega,by omega⟩,p2, ?_, ?_⟩,by simp[av],fun q1 q2=>absurd h1 (by omega), ?_, ?_⟩
 ·rw[e2];split<;>omega
 ·rw[e2];split<;>omega
 ·rw[e3,e2,h1];constructor<;> ((repeat' split) <;>omega)
 ·rw[e3,e2,h1];right;(split<;>split<;>omega)
theorem ang{l il ir rr:Tr}{a b c a' b' c' x y z:Int}(o1:l.ok)(o2:(node (node il x y z ir) a' b' c' rr).ok)(h1:(node (node il x y z ir) a' b' c' rr).h=l.h+2)(hh:rr.h< (node il x y z ir).h):
  iX l a b c (node (node il x y z ir) a' b' c' rr) (node (node l a b c il) x y z (node ir a' b' c' rr)):=by
 obtain⟨⟨p5,p6,p7,p8⟩,p2,p3,p4⟩:=o2
 have e1:=cK (node il x y z ir) a' b' c' rr
 have e2:=cK il x y z ir
 have e3:=cK l a b c il
 have e4:=cK ir a' b' c' rr
 have e5:=cK (node l a b c il) x y z (node ir a' b' c' rr)
 rw[h1,if_neg (by omega)] at e1
 have k1:l.h=rr.h:=by omega
 have k2:il.h≤l.h∧ir.h≤l.h:=by rw[e2] at e1;split at e1<;>omega
 have k3:l.h - 1≤il.h∧l.h - 1≤ir.h:=by rw[e2] at e1;split at e1<;>omega
 have f3:(node l a b c il).h=l.h+1:=by rw[e3];split<;>omega
 have f4:(node ir a' b' c' rr).h=l.h+1:=by rw[e4];split<;>omega
 have f5:(node (node l a b c il) x y z (node ir a' b' c' rr)).h=l.h+2:=by rw[e5,f3,f4];split<;>omega
 refine⟨⟨⟨o1,p5,by omega,by omega⟩,⟨p6,p2,by omega,by omega⟩,by omega,by omega⟩,by simp[av],fun q1 q2=>absurd h1 (by omega),by omega,by omega⟩
structure Jn (l:Tr) (a b c:Int) (r t:Tr):Prop where
 ok:t.ok
 av:t.av=l.av++ (a,b,c)::r.av
 lo:l.h≤t.h∧r.h≤t.h
 hi:t.h≤l.h+1∨t.h≤r.h+1
theorem anh{l r:Tr}{a b c:Int}(o1:l.ok)(o2:r.ok)(h1:l.h≤r.h+1)(h2:r.h≤l.h+1):Jn l a b c r (node l a b c r):=
 let L:=Sh (a:=a) (b:=b) (c:=c) o1 o2 h1 h2
 ⟨L.ok,L.av,L.lo,L.hi⟩
theorem ani{ll lr r j t:Tr}{a b c a' b' c':Int}(o1:(node ll a b c lr).ok)(hh:r.h+1< (node ll a b c lr).h)(J:Jn lr a' b' c' r j)(L:iX ll a b c j t):
  Jn (node ll a b c lr) a' b' c' r t:=by
 obtain⟨p1,p2,p3,p4⟩:=o1
 have e1:=cK ll a b c lr
 have j1:=J.lo
 have j2:=J.hi
 have l1:=L.lo
 have l2:=L.hi
 have l3:=L.near
 have h9:r.h≤lr.h:=by rw[e1] at hh;split at hh<;>omega
 have hj:j.h=lr.h∨j.h=lr.h+1:=by omega
 refine⟨L.ok,by rw[L.av,J.av];simp[av], ?_, ?_⟩
 ·rw[e1]
  by_cases q:ll.h≤j.h+1∧j.h≤ll.h+1
  ·have:=l3 q.1 q.2
   rw[this]
   constructor<;> ((repeat' split) <;>omega)
  ·constructor<;> ((repeat' split) <;>omega)
 ·rw[e1]
  left
  by_cases q:ll.h≤j.h+1∧j.h≤ll.h+1
  ·have:=l3 q.1 q.2
   rw[this]
   split<;>split<;>omega
  ·split<;>omega
theorem anj{l rl rr j t:Tr}{a b c a' b' c':Int}(o2:(node rl a' b' c' rr).ok)(hh:l.h+1< (node rl a' b' c' rr).h)(J:Jn l a b c rl j)(L:iX j a' b' c' rr t):
  Jn l a b c (node rl a' b' c' rr) t:=by
 obtain⟨p1,p2,p3,p4⟩:=o2
 have e1:=cK rl a' b' c' rr
 have j1:=J.lo
 have j2:=J.hi
 have l1:=L.lo
 have l2:=L.hi
 have l3:=L.near
 have h9:l.h≤rl.h:=by rw[e1] at hh;split at hh<;>omega
 have hj:j.h=rl.h∨j.h=rl.h+1:=by omega
 refine⟨L.ok,by rw[L.av,J.av];simp[av], ?_, ?_⟩
 ·rw[e1]
  by_cases q:j.h≤rr.h+1∧rr.h≤j.h+1
  ·have:=l3 q.1 q.2
   rw[this]
   constructor<;> ((repeat' split) <;>omega)
  ·constructor<;> ((repeat' split) <;>omega)
 ·rw[e1]
  right
  by_cases q:j.h≤rr.h+1∧rr.h≤j.h+1
  ·have:=l3 q.1 q.2
   rw[this]
   split<;>split<;>omega
  ·split<;>omega
theorem ank{ll lr r j:Tr}{a b c a' b' c':Int}(o1:(node ll a b c lr).ok)(hh:r.h+1< (node ll a b c lr).h)(J:Jn lr a' b' c' r j):ll.h≤j.h+2∧j.h≤ll.h+2:=by
 obtain⟨p1,p2,p3,p4⟩:=o1
 have e1:=cK ll a b c lr
 have j1:=J.lo
 have j2:=J.hi
 have h9:r.h≤lr.h:=by rw[e1] at hh;split at hh<;>omega
 omega
theorem anl{l rl rr j:Tr}{a b c a' b' c':Int}(o2:(node rl a' b' c' rr).ok)(hh:l.h+1< (node rl a' b' c' rr).h)(J:Jn l a b c rl j):j.h≤rr.h+2∧rr.h≤j.h+2:=by
 obtain⟨p1,p2,p3,p4⟩:=o2
 have e1:=cK rl a' b' c' rr
 have j1:=J.lo
 have j2:=J.hi
 have h9:l.h≤rl.h:=by rw[e1] at hh;split at hh<;>omega
 omega
end Tr
abbrev P3:=Int×Int×Int
def cT(ps:List P3):Int:=(ps.map fun p=>p.2.1).sum
def cz(F:Int→Int):List P3→Int→List P3
 | [],_=> []
 | p::ps,n=>if n≤0 then [] else if p.2.1≤n then p::cz F ps (n - p.2.1) else [(p.1,n,F (p.1+n) - F p.1)]
def cA(F:Int→Int):List P3→Int→List P3
 | [],_=> []
 | p::ps,n=>if n≤0 then p::ps else if p.2.1≤n then cA F ps (n - p.2.1) else (p.1+n,p.2.1 - n,p.2.2 - (F (p.1+n) - F p.1))::ps
theorem Si:cT []=0:=rfl
theorem oA(p:P3)(ps:List P3):cT (p::ps)=p.2.1+cT ps:=by simp[cT]
theorem Sj(a b:List P3):cT (a++b)=cT a+cT b:=by simp[cT]
theorem C3(F:Int→Int){n:Int}(h:n≤0): ∀ps:List P3,cz F ps n=[]∧cA F ps n=ps
 | []=> ⟨rfl,rfl⟩
 | p::ps=>by simp[cz,cA,h]
theorem Sk: ∀{ps:List P3},(∀p∈ps,1≤p.2.1)→0≤cT ps
 | [],_=>Int.le_refl _
 | p::ps,h=>by
  have:=Sk (ps:=ps) fun q hq=>h q (List.mem_cons_of_mem _ hq)
  have:=h p List.mem_cons_self
  rw[oA];omega
theorem Sl(F:Int→Int)(ys:List P3): ∀(xs:List P3) (n:Int),(∀p∈xs,1≤p.2.1)→n≤cT xs→cz F (xs++ys) n=cz F xs n∧cA F (xs++ys) n=cA F xs n++ys
 | [],n,_,h=>by
  have h:n≤0:=h
  obtain⟨a,b⟩:=C3 F h ys
  exact⟨a,b⟩
 | p::xs,n,hp,h=>by
  rw[oA] at h
  have ih:=Sl F ys xs (n - p.2.1) (fun q hq=>hp q (List.mem_cons_of_mem _ hq)) (by omega)
  simp only[List.cons_append,cz,cA]
  rw[ih.1,ih.2]
  constructor
  ·rfl
  ·split
   ·rfl
   ·split<;>rfl
theorem C4(F:Int→Int)(ys:List P3): ∀(xs:List P3) (n:Int),(∀p∈xs,1≤p.2.1)→cT xs≤n→cz F (xs++ys) n=xs++cz F ys (n - cT xs)∧cA F (xs++ys) n=cA F ys (n - cT xs)
 | [],n,_,h=>by rw[Si,Int.sub_zero];exact⟨rfl,rfl⟩
 | p::xs,n,hp,h=>by
  have h1:=hp p List.mem_cons_self
  have h2:=Sk fun q hq=>hp q (List.mem_cons_of_mem _ hq)
  rw[oA] at h⊢
  have ih:=C4 F ys xs (n - p.2.1) (fun q hq=>hp q (List.mem_cons_of_mem _ hq)) (by omega)
  have e:n - p.2.1 - cT xs=n - (p.2.1+cT xs):=by omega
  rw[e] at ih
  simp only[List.cons_append,cz,cA]
  rw[if_neg (by omega),if_pos (by omega),if_neg (by omega),if_pos (by omega),ih.1,ih.2]
  exact⟨rfl,rfl⟩
theorem so(F:Int→Int): ∀(xs:List P3) (n:Int),(cz F xs n).length≤xs.length∧(cA F xs n).length≤xs.length
 | [],n=> ⟨zqR _,zqR _⟩
 | p::xs,n=>by
  obtain⟨a,b⟩:=so F xs (n - p.2.1)
  simp only[cz,cA]
  split
  ·exact⟨zqZ _,zqR _⟩
  ·split<;>simp<;>omega
end L2.N
namespace L2.B
def cU(xs:List Int)(most:Int):Nat:=(xs.filter fun x=>decide (x≤most)).length
def pR(xs:List Int):Prop:=xs.Pairwise (· ≤ ·)
theorem C5(xs:List Int)(most:Int):cU xs most≤xs.length:=List.length_filter_le _ _
theorem C6(a b:List Int)(most:Int):cU (a++b) most=cU a most+cU b most:=by simp[cU]
theorem Sm{xs:List Int}{most:Int}(h: ∀x∈xs,x≤most):cU xs most=xs.length:=by
 unfold cU
 rw[List.filter_eq_self.mpr fun x hx=>by simpa using h x hx]
theorem Sn{xs:List Int}{most:Int}(h: ∀x∈xs,most<x):cU xs most=0:=by
 unfold cU
 rw[List.length_eq_zero_iff,List.filter_eq_nil_iff]
 intro x hx
 have:=h x hx
 simp;omega
theorem C7{xs:List Int}{most x:Int}{m:Nat}(h:pR xs)(g:xs[m]?=some x)(hx:x≤most):m+1≤cU xs most:=by
 have hm:=(List.getElem?_eq_some_iff.mp g).1
 have e:xs=xs.take (m+1)++xs.drop (m+1):=(List.take_append_drop _ _).symm
 have a: ∀y∈xs.take (m+1),y≤most:=by
  intro y hy
  obtain⟨j,hj,rfl⟩:=List.getElem_of_mem hy
  rw[List.length_take] at hj
  rw[List.getElem_take]
  have e2:xs[m]=x:=(List.getElem?_eq_some_iff.mp g).2
  by_cases q:j=m
  ·subst q;omega
  ·have:=List.pairwise_iff_getElem.mp h j m (by omega) hm (by omega)
   omega
 have:cU xs most=cU (xs.take (m+1)) most+cU (xs.drop (m+1)) most:=by rw[←C6,←e]
 rw[this,Sm a,List.length_take]
 omega
theorem So{xs:List Int}{most x:Int}{m:Nat}(h:pR xs)(g:xs[m]?=some x)(hx: ¬x≤most):cU xs most≤m:=by
 have hm:=(List.getElem?_eq_some_iff.mp g).1
 have e:xs=xs.take m++xs.drop m:=(List.take_append_drop _ _).symm
 have a: ∀y∈xs.drop m,most<y:=by
  intro y hy
  obtain⟨j,hj,rfl⟩:=List.getElem_of_mem hy
  rw[List.length_drop] at hj
  rw[List.getElem_drop]
  have e2:xs[m]=x:=(List.getElem?_eq_some_iff.mp g).2
  by_cases q:j=0
  ·subst q;simp;omega
  ·have:=List.pairwise_iff_getElem.mp h m (m+j) hm (by omega) (by omega)
   omega
 have:cU xs most=cU (xs.take m) most+cU (xs.drop m) most:=by rw[←C6,←e]
 have l:=C5 (xs.take m) most
 rw[this,Sn a]
 rw[List.length_take] at l
 omega
end L2.B
namespace L2.B
open PySem PySem.StrLaws
def pos(c:Nat):List Nat→Nat→List Nat
 | [],_=> []
 | d::r,k=>if d=c then k::pos c r (k+1) else pos c r (k+1)
theorem jE(c:Nat): ∀(a b:List Nat) (k:Nat),pos c (a++b) k=pos c a k++pos c b (k+a.length)
 | [],b,k=>by simp[pos]
 | d::r,b,k=>by
  have ih:=jE c r b (k+1)
  rw[show k+1+r.length=k+ (d::r).length by simp;omega] at ih
  simp only[List.cons_append,pos]
  split
  ·rw[ih];rfl
  ·rw[ih]
theorem eM(c:Nat): ∀(a:List Nat) (k:Nat),(pos c a k).length=a.count c
 | [],k=>rfl
 | d::r,k=>by
  simp only[pos]
  rw[List.count_cons]
  split
  ·rename_i h;subst h;simp[eM d r (k+1)]
  ·rename_i h
   have:(d==c)=false:=by simpa using h
   rw[eM c r (k+1),this];simp
theorem iY(c:Nat): ∀(a:List Nat) (k i:Nat),i∈pos c a k→k≤i∧i<k+a.length
 | [],k,i,h=>by simp[pos] at h
 | d::r,k,i,h=>by
  simp only[pos] at h
  have go:i∈pos c r (k+1)→k≤i∧i<k+ (d::r).length:=fun z=>by
   have:=iY c r (k+1) i z
   simp;omega
  split at h
  ·rcases List.mem_cons.mp h with rfl | z
   ·simp
   ·exact go z
  ·exact go h
theorem v7(c:Nat): ∀(a:List Nat) (k:Nat),(pos c a k).Pairwise (· < ·)
 | [],k=>by simp[pos]
 | d::r,k=>by
  simp only[pos]
  split
  ·rw[List.pairwise_cons]
   exact⟨fun i hi=>by have:=iY c r (k+1) i hi;omega,v7 c r (k+1)⟩
  ·exact v7 c r (k+1)
def eY(c:Nat)(a:List Nat):List Int:=(pos c a 0).map fun(i:Nat)=> (i:Int)
theorem anm(c:Nat)(a:List Nat):pR (eY c a):=by
 unfold pR eY
 rw[List.pairwise_map]
 exact(v7 c a 0).imp fun h=>by omega
theorem ano(c:Nat)(a:List Nat)(n:Nat):cU (eY c a) ((n:Int) - 1)=(a.take n).count c:=by
 have e:a=a.take n++a.drop n:=(List.take_append_drop _ _).symm
 have e1:eY c a=eY c (a.take n)++ ((pos c (a.drop n) (a.take n).length).map fun(i:Nat)=> (i:Int)):=by
  unfold eY
  conv=>lhs;rw[e]
  rw[jE,List.map_append,Nat.zero_add]
 rw[e1,C6,Sm,Sn]
 ·unfold eY
  rw[List.length_map,eM];simp
 ·intro x hx
  obtain⟨i,hi,rfl⟩:=List.mem_map.mp hx
  have h:=iY _ _ _ _ hi
  rw[List.length_take,List.length_drop] at h
  omega
 ·intro x hx
  obtain⟨i,hi,rfl⟩:=List.mem_map.mp hx
  have h:=iY _ _ _ _ hi
  rw[List.length_take] at h
  omega
theorem Sq(c:Nat): ∀(l:List Nat) (k i:Nat) (done rest:List Nat),pos c l k=done++i::rest→pos c (l.drop (i+1 - k)) (i+1)=rest
 | [],k,i,done,rest,h=>by
  simp[pos] at h
 | d::r,k,i,done,rest,h=>by
  have hi:=iY c (d::r) k i (by rw[h];simp)
  simp only[pos] at h
  have go: ∀dn,pos c r (k+1)=dn++i::rest→pos c ((d::r).drop (i+1 - k)) (i+1)=rest:=fun dn hd=>by
   have h2:=iY c r (k+1) i (by rw[hd];simp)
   have ih:=Sq c r (k+1) i dn rest hd
   rw[show i+1 - k=(i+1 - (k+1))+1 by omega,List.drop_succ_cons]
   exact ih
  split at h
  ·cases done with
   | nil=>
    simp only[List.nil_append,List.cons.injEq] at h
    obtain⟨rfl,h⟩:=h
    rw[show k+1 - k=1 by omega,List.drop_succ_cons,List.drop_zero]
    exact h
   | cons e dn=>
    simp only[List.cons_append,List.cons.injEq] at h
    exact go dn h.2
  ·exact go done h
theorem sq(c:Nat): ∀(l:List Nat) (k j:Nat),pos c l (k+j)=(pos c l j).map (k+ ·)
 | [],k,j=>rfl
 | d::r,k,j=>by
  have ih:=sq c r k (j+1)
  rw[←Nat.add_assoc] at ih
  simp only[pos]
  split
  ·rw[ih];rfl
  ·exact ih
theorem anp(c:Nat)(a b:List Nat):eY c (a++b)=eY c a++ ((pos c b 0).map fun(i:Nat)=> ((a.length:Nat):Int)+ (i:Int)):=by
 unfold eY
 rw[jE,List.map_append,Nat.zero_add]
 congr 1
 have:=sq c b a.length 0
 rw[Nat.add_zero] at this
 rw[this,List.map_map]
 apply List.map_congr_left
 intro i _
 show((a.length+i:Nat):Int)=_
 omega
theorem v8(x y:Str)(hy:y.length=1)(hi lim:Nat): ∀(n lo:Nat) (acc:Array Nat) (free:Nat),free≤lo→
  ((forIn (List.range' lo n) (acc,free) (occBody x y hi lim)).run.fst.toList=acc.toList++ ((List.range' lo n).filter fun i=>decide (i+1≤hi) && Builtin.Str.subAt x y i).take (lim - acc.size))
 | 0,lo,acc,free,hf=>by simp
 | n+1,lo,acc,free,hf=>by
  rw[List.range'_succ,List.forIn_cons]
  unfold occBody
  rw[hy]
  by_cases hp:lo+1≤hi∧Builtin.Str.subAt x y lo=true
  ·have e:(decide (lo+1≤hi) && Builtin.Str.subAt x y lo)=true:=by simp[hp.1,hp.2]
   by_cases hs:acc.size<lim
   ·rw[if_pos ⟨⟨⟨hs,hf⟩,hp.1⟩,hp.2⟩]
    have ih:=v8 x y hy hi lim n (lo+1) (acc.push lo) (lo+1) (zqR _)
    unfold occBody at ih
    rw[hy] at ih
    refine Eq.trans ih ?_
    rw[List.filter_cons_of_pos (by exact e)]
    have e2:lim - acc.size=(lim - (acc.push lo).size)+1:=by rw[Array.size_push];omega
    rw[e2,List.take_succ_cons]
    simp
   ·rw[if_neg (fun z=>hs z.1.1.1)]
    have ih:=v8 x y hy hi lim n (lo+1) acc free (by omega)
    unfold occBody at ih
    rw[hy] at ih
    refine Eq.trans ih ?_
    have e2:lim - acc.size=0:=by omega
    rw[e2];simp
  ·rw[if_neg (fun z=>hp ⟨z.1.2,z.2⟩)]
   have e: ¬(decide (lo+1≤hi) && Builtin.Str.subAt x y lo)=true:=by
    intro z
    simp only[Bool.and_eq_true,decide_eq_true_eq] at z
    exact hp z
   have ih:=v8 x y hy hi lim n (lo+1) acc free (by omega)
   unfold occBody at ih
   rw[hy] at ih
   refine Eq.trans ih ?_
   rw[List.filter_cons_of_neg (by exact e)]
theorem anq(x:Str)(c i:Nat):Builtin.Str.subAt x ⟨#[c]⟩ i=decide (x.cps[i]?=some c):=by
 unfold Builtin.Str.subAt
 have e:(⟨#[c]⟩:Str).length=1:=rfl
 rw[e,show(⟨#[c]⟩:Str).cps= #[c] from rfl]
 by_cases h:i<x.cps.size
 ·have e2:x.cps.extract i (i+1)= #[x.cps[i]]:=by
   apply Array.ext
   ·simp;omega
   ·intro j h1 h2
    simp at h1 h2⊢
    have:j=0:=by omega
    subst this;rfl
  rw[e2,Array.getElem?_eq_getElem h]
  by_cases q:x.cps[i]=c
  ·subst q;simp
  ·have: ¬(#[x.cps[i]]= #[c]):=fun z=>q (by injection z with z;injection z)
   simp[q]
 ·have e2:x.cps.extract i (i+1)= #[]:=by
   apply Array.eq_empty_of_size_eq_zero
   simp;omega
  rw[e2,Array.getElem?_eq_none (by omega)]
  simp
theorem Sr(c:Nat): ∀(l:List Nat) (k:Nat) (p:Nat→Bool),(∀i,i<l.length→p (k+i)=decide (l[i]?=some c))→(List.range' k l.length).filter p=pos c l k
 | [],k,p,h=>rfl
 | d::r,k,p,h=>by
  rw[List.length_cons,List.range'_succ]
  have h0:p k=decide (d=c):=by
   have:=h 0 (Nat.zero_lt_succ _)
   simpa using this
  have ih:=Sr c r (k+1) p fun i hi=>by
   have:=h (i+1) (Nat.succ_lt_succ hi)
   rw[show k+1+i=k+ (i+1) by omega,this];simp
  by_cases e:d=c
  ·rw[List.filter_cons_of_pos (by rw[h0];simpa using e),ih,pos,if_pos e]
  ·rw[List.filter_cons_of_neg (by rw[h0];simpa using e),ih,pos,if_neg e]
theorem v9(x:Str)(c lo lim:Nat)(hl:lo≤x.length):Builtin.Str.occurrences x ⟨#[c]⟩ lo x.length lim=(pos c (x.cps.toList.drop lo) lo).take lim:=by
 have hx:x.cps.toList.length=x.length:=by simp[Str.length]
 rw[occ_eq,v8 x _ rfl x.length lim _ lo #[] lo (zqR _)]
 simp only[List.nil_append,Array.size_empty,Nat.sub_zero]
 congr 1
 have e:x.length+1 - lo=(x.cps.toList.drop lo).length+1:=by rw[List.length_drop,hx];omega
 rw[e,List.range'_concat,List.filter_append]
 rw[Sr c (x.cps.toList.drop lo) lo]
 ·have: ¬(lo+1* (x.cps.toList.drop lo).length+1≤x.length):=by rw[List.length_drop,hx];omega
  rw[List.filter_cons_of_neg (by rw[zqF this];simp)]
  simp
 ·intro i hi
  rw[anq]
  rw[List.length_drop,hx] at hi
  rw[zqT (show lo+i+1≤x.length by omega),Bool.true_and,List.getElem?_drop,Array.getElem?_toList]
end L2.B
namespace L2.B
open PySem PySem.Spec PyProof.Rows
def kr(H H':Hp):Prop:= ∀b xs,H b=some (.tup xs)→H' b=some (.tup xs)
theorem bK{H H':Hp}(h:aJ H H'):kr H H':=fun b xs e=>h b _ e
theorem sameNew{H:Hp}{p:Addr}{o:HO}(h:H p=none):aJ H (upd H p o):=fun b u e=>by rw[a_ (cg e h)];exact e
def dv(c:Addr)(H H':Hp):Prop:= ∀b o,H b=some o→b≠c→H' b=some o
theorem dv.upd{H:Hp}{c:Addr}{o:HO}:dv c H (upd H c o):=fun b u e n=>by rw[a_ n];exact e
theorem dv.trans{c:Addr}{H H1 H2:Hp}(a:dv c H H1)(b:dv c H1 H2):dv c H H2:=fun d o e n=>b d o (a d o e n) n
theorem ku{c:Addr}{H H1 H2:Hp}(a:aJ H H1)(hc:H c=none)(b:dv c H1 H2):aJ H H2:=fun d o e=>b d o (a d o e) (cg e hc)
theorem dv.cY{c:Addr}{H H':Hp}{xs:List V}(h:dv c H H')(hc:H c=some (.lst xs)):kr H H':=fun b ys e=>h b _ e (fun z=>by rw[z,hc] at e;cases e)
theorem iF{c:Bool}{A B:Prop}(q:B)(h:c=false:=by first | rfl | decide):if c=true then A else B:=by
 rw[h];exact iI q
theorem iT{c:Bool}{A B:Prop}(q:A)(h:c=true:=by first | rfl | decide):if c=true then A else B:=by
 rw[h];exact eQ q
inductive Pt where | keep (n:Int) | put (s:Str) | cut (s:Str)
 deriving DecidableEq
def Pt.word:Pt→Str | .keep _=> "keep" | .put _=> "put" | .cut _=> "cut"
def Pt.val:Pt→V | .keep n=> .int n | .put s=> .str s | .cut s=> .str s
def jF(H:Hp)(v:V)(p:Pt):Prop:= ∃a,v= .ref a∧H a=some (.tup [.str p.word,p.val])
abbrev cm(H:Hp):List V→List Pt→Prop:=Paired (jF H)
theorem jF.mono{H H':Hp}{v:V}{p:Pt}(t:kr H H')(h:jF H v p):jF H' v p:=by
 obtain⟨a,e,h⟩:=h
 exact⟨a,e,t _ _ h⟩
theorem cm.mono{H H':Hp}(t:kr H H'): ∀{vs:List V} {ps:List Pt},cm H vs ps→cm H' vs ps
 | _,_, .nil=> .nil
 | _,_, .cons h r=> .cons (h.mono t) (cm.mono t r)
theorem cm.get{H:Hp}: ∀{vs:List V} {ps:List Pt} {i:Nat} {v:V},cm H vs ps→vs[i]?=some v→ ∃p,ps[i]?=some p∧jF H v p
 | _,_,i,v, .nil,e=>by simp at e
 | _,_,0,v, .cons h r,e=>by simp at e;subst e;exact⟨_,rfl,h⟩
 | _,_,i+1,v, .cons h r,e=>by
  obtain⟨p,a,b⟩:=cm.get (i:=i) r (by simpa using e)
  exact⟨p,by simpa using a,b⟩
def pS:Sp:=fun vs H Q E=> ∃i,vs=[.int i]∧Q (.bl true) H
def fj(w a:Str):Bool:=w !=a && !(a=="cut" && w=="put")
def v_:Sp:=fun vs H Q E=> ∃w a,vs=[.str w, .str a]∧Q (.bl (fj w a)) H
theorem anr{K:Frag}(vs:List V)(H:Hp)(Q:VK)(E:XK)(h:v_ vs H Q E):ar (aQ K [] [] (E:=E)) Aj {nx:=fun _ H'=>Q .az H',rt:=Q} (start Ai vs) H:=by
 obtain⟨w,a,rfl,q⟩:=h
 refine⟨_,rfl,_,rfl,_,rfl, ?_⟩
 unfold fj at q
 refine d6 (fun h=> ?_) (fun h=> ?_)
 ·rw[Bool.true_xor,gX] at h
  have e:(w !=a)=true:=h
  rw[e] at q
  refine⟨_,rfl,_,rfl, ?_⟩
  refine d6 (fun h2=> ?_) (fun h2=> ?_)
  ·rw[Bool.false_xor,gX] at h2
   rw[h2] at q
   refine⟨_,rfl, ?_⟩
   show Q (.bl (!(false ^^ decide (V.str w=V.str "put")))) H
   rw[Bool.false_xor,gX]
   exact q
  ·rw[Bool.false_xor,gX] at h2
   have e2:(a=="cut")=false:=by simpa using h2
   rw[e2] at q
   exact q
 ·rw[Bool.true_xor,gX] at h
  have e:(w !=a)=false:=by simpa using h
  rw[e] at q
  exact q
def sr:Pt→Int | .keep n=>n | .put s=>s.length | .cut s=>s.length
def C8:Pt→Prop | .keep _=>True | .put s=>s.length≤1000000 | .cut s=>s.length≤1000000
theorem bW{n:Nat}(h:n≤1000000):n≤sizeLine:=Nat.le_trans h (by decide)
theorem jG{n:Nat}(h:n≤1000000):n<sizeLine:=Nat.lt_of_le_of_lt h (by decide)
def gK:Sp:=fun vs H Q E=> ∃v p,vs=[v]∧jF H v p∧C8 p∧Q (.int (sr p)) H
theorem ans{K:Frag}(vs:List V)(H:Hp)(Q:VK)(E:XK)(h:gK vs H Q E):ar (aQ K [] [] (E:=E)) An {nx:=fun _ H'=>Q .az H',rt:=Q} (start Am vs) H:=by
 obtain⟨v,p,rfl,⟨a,rfl,ha⟩,ho,q⟩:=h
 refine⟨_,rfl, .inr (.inl ⟨_,_,_,_,rfl,rfl,bo.of ha,rfl,_,rfl, ?_⟩)⟩
 rw[Bool.false_xor,gX]
 cases p with
 | keep n=>exact eQ ⟨_,rfl, .inr (.inl ⟨_,_,_,_,rfl,rfl,bo.of ha,rfl,q⟩)⟩
 | put s=>exact iI ⟨_,rfl, .inr (.inl ⟨_,_,_,_,rfl,rfl,bo.of ha,rfl,bW ho,q⟩)⟩
 | cut s=>exact iI ⟨_,rfl, .inr (.inl ⟨_,_,_,_,rfl,rfl,bo.of ha,rfl,bW ho,q⟩)⟩
def cell(ns:List Int)(k:Nat):Int:=ns.getD k 0
def pT(K:Frag):Sp:=fun vs H Q E=> ∃(a:Addr) (ns:List Int) (k:Int),vs=[.ref a, .int k]∧aM K H a (ns.map V.int)∧0≤k∧Q (.int (cell ns k.toNat)) H
theorem ant{K:Frag}(vs:List V)(H:Hp)(Q:VK)(E:XK)(h:pT K vs H Q E):ar (aQ K [] [] (E:=E)) Ar {nx:=fun _ H'=>Q .az H',rt:=Q} (start Aq vs) H:=by
 obtain⟨a,ns,k,rfl,ha,hk,q⟩:=h
 refine⟨_,rfl,_,rfl, .inl ⟨_,ha,trivial,_,rfl, ?_⟩⟩
 rw[List.length_map]
 refine d6 (fun h=> ?_) (fun h=> ?_)
 ·have bC:k< (ns.length:Int):=of_decide_eq_true h
  refine⟨_,rfl,_,rfl, .inl ⟨_,_,_,_,rfl,rfl,ha, ?_,q⟩⟩
  have e:=jj (xs:=ns.map V.int) (j:=k.toNat) (v:= .int (cell ns k.toNat)) (by
   have:k.toNat<ns.length:=by omega
   simp[cell,this])
  rw[show((k.toNat:Nat):Int)=k by omega] at e
  exact e
 ·have oB: ¬k< (ns.length:Int):=fun z=>h (zqT z)
  have e:cell ns k.toNat=0:=by
   have z:ns[k.toNat]?=none:=List.getElem?_eq_none_iff.mpr (by omega)
   unfold cell
   rw[List.getD_eq_getElem?_getD,z];rfl
  rw[e] at q
  exact q
def SG:Str:=" !\"#$&'()*+,-./0123456789:;<=>?@ABCDEFGHIJKLMNOPQRSTUVWXYZ[\\]^_`abcdefghijklmnopqrstuvwxyz{|}~\n"
def good(x:Str):Prop:=x.length≤1000000∧ ∀c∈x.cps.toList,SG.cps.contains c=true
theorem takeWhile_all{α:Type}(p:α→Bool): ∀l:List α,(∀c∈l,p c=true)→l.takeWhile p=l
 | [],_=>rfl
 | c::l,h=>by rw[List.takeWhile_cons,h c List.mem_cons_self,takeWhile_all p l fun d hd=>h d (List.mem_cons_of_mem _ hd)];rfl
theorem anu(x y:Str)(h: ∀c∈x.cps.toList,y.cps.contains c=true):Txt.lstripChars x y="":=by
 have e0:stripLo y.cps.contains true x=x.length:=by
  unfold stripLo
  rw[if_pos rfl,takeWhile_all _ _ h]
  simp[Str.length]
 have e1:stripHi y.cps.contains false x x.length=x.length:=rfl
 unfold Txt.lstripChars Txt.stripBy stripSame stripped
 rw[e0,e1]
 split
 ·rename_i hq
  simp only[Bool.and_eq_true,beq_iff_eq] at hq
  have:x.cps= #[]:=Array.eq_empty_of_size_eq_zero hq.1
  obtain⟨c⟩:=x
  have e:c= #[]:=this
  subst e
  rfl
 ·show(⟨x.cps.extract x.length x.length⟩:Str)=_
  have:x.cps.extract x.length x.length= #[]:=by simp[Str.length]
  rw[this];rfl
theorem wa{H:Hp}{a:Addr}{xs:List V}{T:Ty}{k:Bool→Prop}(h:H a=some (.tup xs))(q:k (T== .tuple)):bV T (.ref a) H k:=by
 show(match H a with | some (.lst _)=>k (T== .list) | some (.b6 _ (.lst _))=>k (T== .list) | some (.tup _)=>k (T== .tuple) | some (.dK _)=>k (T== .dict) | some (.dT _)=>k (T== .dict) | _=>False)
 rw[h];exact q
theorem Ss{H:Hp}{a:Addr}{xs:List V}{T:Ty}{k:Bool→Prop}(h:H a=some (.lst xs))(q:k (T== .list)):bV T (.ref a) H k:=by
 show(match H a with | some (.lst _)=>k (T== .list) | some (.b6 _ (.lst _))=>k (T== .list) | some (.tup _)=>k (T== .tuple) | some (.dK _)=>k (T== .dict) | some (.dT _)=>k (T== .dict) | _=>False)
 rw[h];exact q
abbrev gS:List (Str×V):=[("SIGNS", .str SG)]
def anv:Sp:=fun vs H Q E=> ∃x,vs=[.str x]∧good x∧Q (.bl true) H
theorem anw{K:Frag}(vs:List V)(H:Hp)(Q:VK)(E:XK)(h:anv vs H Q E):ar (aQ K [] gS (E:=E)) vO {nx:=fun _ H'=>Q .az H',rt:=Q} (start vN vs) H:=by
 obtain⟨x,rfl,hx,q⟩:=h
 refine⟨_,rfl,rfl,_,rfl,eQ ⟨_,rfl,rfl,bW hx.1, ?_⟩⟩
 show Q (.bl (false ^^ decide (V.str (Txt.lstripChars x SG)=V.str ""))) H
 rw[anu x SG hx.2,zqT rfl]
 exact q
def eZ:Pt→Prop | .keep n=>1≤n | .put s=>good s∧s≠"" | .cut s=>good s∧s≠""
def anx(K:Frag):Sp:=fun vs H Q E=> ∃w p xs,vs=[.str w, .ref p]∧bo K H p xs∧xs.all dQ=true∧Q (.bl (d5 (.str w) xs)) H
theorem anz{K:Frag}(vs:List V)(H:Hp)(Q:VK)(E:XK)(h:anx K vs H Q E):ar (aQ K [] [] (E:=E)) vM {nx:=fun _ H'=>Q .az H',rt:=Q} (start vL vs) H:=by
 obtain⟨w,p,xs,rfl,hp,hf,q⟩:=h
 exact⟨_,rfl,rfl,_,rfl,eQ ⟨_,rfl,_,rfl,p,xs,rfl,(.inr hp),rfl,hf,q⟩⟩
def C9:Sp:=fun vs H Q E=> ∃v p,vs=[v]∧jF H v p∧eZ p∧ ∀H',aJ H H'→Q (.bl true) H'
def chainOk:Str→List Pt→Bool
 | _,[]=>true
 | a,p::r=>fj p.word a && chainOk p.word r
def oC(a:Str)(ps:List Pt):Nat→Str
 | 0=>a
 | i+1=>match ps[i]? with | some p=>p.word | none=> ""
theorem Su: ∀(ps:List Pt) (a:Str) (i:Nat) (p:Pt),chainOk a ps=true→ps[i]?=some p→fj p.word (oC a ps i)=true
 | [],_,_,_,_,h=>by simp at h
 | q::r,a,0,p,h,e=>by
  simp only[chainOk,Bool.and_eq_true] at h
  simp at e;subst e;exact h.1
 | q::r,a,i+1,p,h,e=>by
  simp only[chainOk,Bool.and_eq_true] at h
  have e':r[i]?=some p:=by simpa using e
  have ih:=Su r q.word i p h.2 e'
  cases i with
  | zero=>simpa[oC] using ih
  | succ i=>simpa[oC] using ih
abbrev anA:List (Str×Sp):=[("is_part",C9),("may_follow",v_)]
def wb:Sp:=fun vs H Q E=> ∃a xs ps,vs=[.ref a]∧H a=some (.lst xs)∧cm H xs ps∧(∀p∈ps,eZ p)∧chainOk "" ps=true∧ ∀H',aJ H H'→Q .az H'
theorem anB{K:Frag}{et:List (Str×Addr)}(vs:List V)(H:Hp)(Q:VK)(E:XK)(h:wb vs H Q E):ar (aQ K anA [] (et:=et) (E:=E)) Al {nx:=fun _ H'=>Q .az H',rt:=Q} (start Ak vs) H:=by
 obtain⟨a,xs,ps,rfl,ha,de,aR,dY,q⟩:=h
 refine⟨_,rfl,rfl,Ss ha ⟨_,rfl,a,rfl,⟨_,aM.of ha⟩,qL (K:=K) (a:=a) (xs:=xs) (fun i σ H2=> ∃v,σ=[some (.ref a),some (.str (oC "" ps i)),v]∧aJ H H2) ⟨none,rfl,aJ.refl _⟩
  (fun i σ H2 _ ⟨_,_,s2⟩=>aM.of (s2 _ _ ha)) ?_ ?_⟩⟩
 ·rintro i x σ H2 hi ⟨v,rfl,s2⟩
  obtain⟨p,hp,jH⟩:=de.get hi
  obtain⟨b,rfl,hb⟩:=jH.mono (bK s2)
  refine⟨_,rfl,_,p,rfl,⟨b,rfl,hb⟩,aR p (List.mem_of_getElem? hp),fun H3 s3=> ?_⟩
  refine⟨_,rfl, .inr (.inl ⟨_,_,_,_,rfl,rfl,bo.of (s3 _ _ hb),rfl,_,rfl,p.word,_,rfl, ?_⟩)⟩
  have e:=Su ps "" i p dY hp
  show(fun c H1=>if (!c)=true then _ else _) (fj p.word (oC "" ps i)) H3
  rw[e]
  refine⟨_,rfl, .inr (.inl ⟨_,_,_,_,rfl,rfl,bo.of (s3 _ _ hb),rfl,some (.ref b), ?_,s2.trans s3⟩)⟩
  show[some (V.ref a),some (V.str p.word),some (V.ref b)]=_
  have e2:oC "" ps (i+1)=p.word:=by simp only[oC,hp]
  rw[e2]
 ·rintro σ H2 ⟨v,rfl,s2⟩
  exact q H2 s2
def overOf(ps:List Pt):List Int:=(ps.filter fun p=>decide (p.word≠ ("put":Str))).map sr
def anC(ps:List Pt):List Int:=(ps.filter fun p=>decide (p.word≠ ("cut":Str))).map sr
abbrev Sv:List (Str×Sp):=[("need_change",wb),("part_size",gK)]
def sv:Sp:=fun vs H Q E=> ∃a xs ps,vs=[.ref a]∧H a=some (.lst xs)∧cm H xs ps∧(∀p∈ps,eZ p)∧chainOk "" ps=true∧ps.length≤1000000∧
 ∀t H',aJ H H'→H' t=some (.tup [.int (overOf ps).sum, .int (anC ps).sum])→Q (.ref t) H'
theorem Sw{p:Pt}(h:eZ p):C8 p:=by
 cases p with
 | keep n=>trivial
 | put s=>exact h.1.1
 | cut s=>exact h.1.1
theorem anD{α:Type}(p:α→Bool)(l:List α)(i:Nat)(v:α)(h:l[i]?=some v):(l.take (i+1)).filter p=(l.take i).filter p++ (if p v then [v] else []):=by
 rw[List.take_add_one,h,List.filter_append]
 cases hp:p v<;>simp[hp]
theorem anE{K:Frag}(vs:List V)(H:Hp)(Q:VK)(E:XK)(h:sv vs H Q E):ar (aQ K Sv [] (E:=E)) Ap {nx:=fun _ H'=>Q .az H',rt:=Q} (start Ao vs) H:=by
 obtain⟨a,xs,ps,rfl,ha,de,aR,dY,hlen,q⟩:=h
 refine⟨_,rfl,a,xs,ps,rfl,ha,de,aR,dY,fun H1 s1=> ?_⟩
 have hl:=Paired.length de
 have comp: ∀(w:Str) (H1:Hp) (Q1:VK) (σ:St),aJ H H1→σ[0]?=some (some (.ref a))→
   (∀b H2,aJ H H2→H2 b=some (.lst (((ps.filter fun p=>decide (p.word≠w)).map sr).map V.int))→Q1 (.ref b) H2)→
   aj (aQ K Sv [] (E:=E)) (.comp none [] .list [(.v 0)] (some (.cmp .NotEq (.ix (.v 0) (.c (.int 0))) (.c (.str w)))) (.call 1 [(.v 0)])) σ H1 Q1:=by
  intro w H1 Q1 σ s1 hσ hq
  refine⟨_,hσ,a,rfl,⟨_,aM.of (s1 _ _ ha)⟩,fun i m ys H2=>m=xs.length - i∧i≤xs.length∧aJ H H2∧ys=(((ps.take i).filter fun p=>decide (p.word≠w)).map sr).map V.int,⟨_,rfl,zqZ _,s1,rfl⟩, ?_⟩
  rintro i m ys H2 ⟨rfl,hi,s2,rfl⟩
  by_cases bC:i<xs.length
  ·refine .inr ⟨⟨xs,xs[i],aM.of (s2 _ _ ha),by simp[bC]⟩, ?_⟩
   rintro x H3 ⟨rfl,hx⟩
   have jm:=hx xs (aM.of (s2 _ _ ha))
   obtain⟨p,hp,jH⟩:=de.get jm
   obtain⟨b,rfl,hb⟩:=jH.mono (bK s2)
   refine⟨_,rfl, .inr (.inl ⟨_,_,_,_,rfl,rfl,bo.of hb,rfl,_,rfl, ?_⟩)⟩
   rw[Bool.true_xor,gX]
   have tf:=anD (fun p=>decide (p.word≠w)) ps i p hp
   have hc:((ps.take i).filter fun p=>decide (p.word≠w)).length≤1000000:=Nat.le_trans (List.length_filter_le _ _) (Nat.le_trans (List.length_take_le _ _) (by omega))
   refine d6 (fun h=> ?_) (fun h=> ?_)
   ·have e:decide (p.word≠w)=true:=by simpa using h
    refine⟨_,rfl,_,p,rfl,⟨b,rfl,hb⟩,Sw (aR p (List.mem_of_getElem? hp)), ?_,xs.length - (i+1),by omega,rfl,bC,s2, ?_⟩
    ·rw[List.length_map,List.length_map];exact jG hc
    ·rw[tf,e];simp
   ·have e:decide (p.word≠w)=false:=by simpa using h
    refine⟨xs.length - (i+1),by omega,rfl,bC,s2, ?_⟩
    rw[tf,e];simp
  ·have sx:i=xs.length:=by omega
   subst sx
   refine .inl ⟨⟨xs,aM.of (s2 _ _ ha),zqR _⟩,fun p hp=> ?_⟩
   have e:ps.take xs.length=ps:=List.take_of_length_le (by omega)
   rw[e]
   exact hq p _ (s2.trans (sameNew hp)) aU
 refine O5 (O6 (O7 (comp "put" H1 _ _ s1 rfl fun b1 H2 s2 e2=> ⟨_,aM.of e2, ?_⟩)))
 refine O5 (O6 (O7 (comp "cut" H2 _ _ s2 rfl fun b2 H3 s3 e3=> ⟨_,aM.of e3, ?_⟩)))
 refine⟨_,rfl,_,rfl,(by show 2≤sizeLine;decide),fun t ht=> ?_⟩
 exact q t _ (s3.trans (sameNew ht)) aU
def cat(ts:List Str):Str:=Txt.join "" ts
def sz(ts:List Str):Nat:=(ts.map Str.length).sum
theorem pU(ts:List Str):(cat ts).cps.toList=(ts.map fun t=>t.cps.toList).flatten:=by
 have e:(Str.ofString "").cps= #[]:=rfl
 cases ts with
 | nil=>rfl
 | cons t r=>
  show(r.foldl (fun acc p=>acc++ (Str.ofString "").cps++p.cps) t.cps).toList=_
  rw[e]
  have go: ∀(r:List Str) (acc:Array Nat),(r.foldl (fun acc p=>acc++ #[]++p.cps) acc).toList=acc.toList++ (r.map fun t=>t.cps.toList).flatten:=by
   intro r
   induction r with
   | nil=>intro acc;simp
   | cons q r ih=>
    intro acc
    show(r.foldl (fun acc p=>acc++ #[]++p.cps) (acc++ #[]++q.cps)).toList=_
    rw[ih];simp
  rw[go];simp
theorem h_{x y:Str}(h:x.cps.toList=y.cps.toList):x=y:=by
 obtain⟨x⟩:=x
 obtain⟨y⟩:=y
 exact congrArg Str.mk (Array.toList_inj.mp h)
theorem app_list(x y:Str):(x++y).cps.toList=x.cps.toList++y.cps.toList:=by
 show(x.cps++y.cps).toList=_
 simp
theorem anF(a b:List Str):cat (a++b)=cat a++cat b:=h_ (by rw[app_list,pU,pU,pU];simp)
theorem anG(x:Str):cat [x]=x:=h_ (by rw[pU];simp)
theorem anH:cat []="":=rfl
theorem len_list(x:Str):x.length=x.cps.toList.length:=by simp[Str.length]
theorem Sx(ts:List Str):(cat ts).length=sz ts:=by
 rw[len_list,pU,List.length_flatten]
 unfold sz
 rw[List.map_map]
 congr 1
theorem joinOk_of{ts:List Str}(h:sz ts≤1000000):JoinOk "" ts=true:=by
 have go: ∀(l:List Str) (n:Nat),l.foldl (· + ·.length+ (Str.ofString "").length) n=n+sz l:=by
  intro l
  induction l with
  | nil=>intro n;rfl
  | cons t r ih=>
   intro n
   show r.foldl _ (n+t.length+0)=_
   rw[ih]
   show n+t.length+0+sz r=n+ (t.length+sz r)
   omega
 unfold JoinOk
 have e:ts.toArray.foldl (· + ·.length+ (Str.ofString "").length) 0=sz ts:=by
  rw[List.foldl_toArray,go,Nat.zero_add]
 rw[e]
 show(!decide (sz ts>sizeLine))=true
 rw[zqF (by have:=bW h;omega)]
 rfl
def txt(mk:Str→Pt)(x:Str):List Pt:=if x="" then [] else [mk x]
def gL(ch:List Pt)(n:Int):List Pt:=match ch.getLast? with
 | some (.keep m)=>ch.dropLast++ [.keep (n+m)]
 | _=>ch++ [.keep n]
theorem anI(ch:List Pt)(n:Int):(gL ch n).length≤ch.length+1:=by
 unfold gL
 split
 ·simp only[zqA,List.length_dropLast,List.length_singleton];omega
 ·simp
def A1:Str:=" !\"#$&'()*+,-./0123456789:;<=>?@ABCDEFGHIJKLMNOPQRSTUVWXYZ[\\]^_`"
def wc(al:Str):Prop:=0<al.length∧al.length≤1000∧ ∀c∈al.cps.toList,SG.cps.contains c=true
theorem Sy{al:Str}(h:(decide (0<al.length) && decide (al.length≤1000) && al.cps.toList.all fun c=>SG.cps.contains c)=true):wc al:=by
 simp only[Bool.and_eq_true,decide_eq_true_eq,List.all_eq_true] at h
 exact⟨h.1.1,h.1.2,h.2⟩
def we(t:Str):Prop:=t.length=1∧ ∀c∈t.cps.toList,SG.cps.contains c=true
abbrev Dn(Q:VK):Ends:={nx:=fun _ H'=>Q .az H',rt:=Q}
theorem Sz(x y:Str):(x++y).length=x.length+y.length:=by rw[len_list,app_list,zqA,←len_list,←len_list]
def anJ:Pt→Bool | .keep _=>true | _=>false
theorem wg{ch:List Pt}{n:Int}(h: ∀p,ch.getLast?=some p→anJ p=false):gL ch n=ch++ [.keep n]:=by
 unfold gL
 split
 ·rename_i m e
  have:=h _ e
  cases this
 ·rfl
theorem C_(ch:List Pt)(m n:Int):gL (ch++ [.keep m]) n=ch++ [.keep (n+m)]:=by
 unfold gL
 rw[List.getLast?_append]
 simp
theorem txt_nil(mk:Str→Pt):txt mk ""=[]:=if_pos rfl
theorem cW{mk:Str→Pt}{x:Str}(h:x≠""):txt mk x=[mk x]:=if_neg h
def sg(x:Str):Prop:= ∀c∈x.cps.toList,SG.cps.contains c=true
theorem SA{x y:Str}(a:sg x)(b:sg y):sg (x++y):=fun c hc=>by
 rw[app_list] at hc
 rcases List.mem_append.mp hc with z | z
 ·exact a c z
 ·exact b c z
theorem wj:sg (Str.ofString ""):=fun c hc=>by cases hc
def anK:Pt→PyData | .keep n=> .int n | .put s=> .str s | .cut s=> .str s
def toD(p:Pt):PyData:= .tuple [.str p.word,anK p]
def fk:Pt→Prop | .keep _=>True | .put s=>sg s | .cut s=>sg s
theorem SD{x:Str}(h:sg x):PyData.strOk x=true:=by
 have small: ∀c,SG.cps.contains c=true→c<0x110000:=by
  have all:SG.cps.toList.all (fun c=>decide (c<0x110000))=true:=by decide+kernel
  intro c hc
  have hm:c∈SG.cps.toList:=by simpa using hc
  exact of_decide_eq_true (List.all_eq_true.mp all c hm)
 unfold PyData.strOk
 rw[Array.all_eq_true']
 intro c hc
 exact zqT (small c (h c (by simpa using hc)))
theorem toD_ok{p:Pt}(h:fk p):(toD p).canLay0=true∧(toD p).depth=1:=by
 cases p with
 | keep n=>exact⟨(by show(PyData.strOk (Str.ofString "keep") && (true && true))=true;decide+kernel),rfl⟩
 | put s=>
  refine⟨?_,rfl⟩
  show(PyData.strOk (Str.ofString "put") && (PyData.strOk s && true))=true
  rw[SD h];decide+kernel
 | cut s=>
  refine⟨?_,rfl⟩
  show(PyData.strOk (Str.ofString "cut") && (PyData.strOk s && true))=true
  rw[SD h];decide+kernel
theorem SE: ∀(ps:List Pt),(∀p∈ps,fk p)→PyData.canLayAll0 (ps.map toD)=true∧PyData.depthAll (ps.map toD)≤1
 | [],_=> ⟨rfl,zqZ _⟩
 | p::r,h=>by
  obtain⟨a,b⟩:=toD_ok (h p List.mem_cons_self)
  obtain⟨c,d⟩:=SE r fun q hq=>h q (List.mem_cons_of_mem _ hq)
  refine⟨?_, ?_⟩
  ·show((toD p).canLay0 && PyData.canLayAll0 (r.map toD))=true
   rw[a,c];rfl
  ·show max (toD p).depth (PyData.depthAll (r.map toD))≤1
   rw[b];omega
theorem anL{ps:List Pt}(h: ∀p∈ps,fk p):SeqAt.shaped (.list (ps.map toD))=true:=by
 obtain⟨c,d⟩:=SE ps h
 unfold SeqAt.shaped
 have e:(PyData.list (ps.map toD)).canLay0=true:=c
 have e2:(PyData.list (ps.map toD)).depth≤64:=by show PyData.depthAll (ps.map toD)+1≤64;omega
 rw[e,zqT e2];rfl
theorem SF{H:Hp}: ∀{vs:List V} {ps:List Pt},cm H vs ps→IsL H (ps.map toD) vs
 | _,_, .nil=>rfl
 | _,_, .cons (a:=v) (b:=p) ⟨a,e,h⟩ r=>by
  refine⟨v,_,rfl, ?_,SF r⟩
  refine⟨a,_,e,h, .str p.word,[p.val],rfl,rfl,p.val,[],rfl, ?_,rfl⟩
  cases p<;>rfl
def Pt.Dc:Pt→Pt | .keep n=> .keep n | .put s=> .cut s | .cut s=> .put s
def SH(ps:List Pt):List Pt:=ps.map Pt.Dc
inductive Run:List Nat→List Pt→List Nat→Prop
 | nil:Run [] [] []
 | keep {a l r:List Nat} {n:Int} {ps:List Pt}:n=a.length→Run l ps r→Run (a++l) (.keep n::ps) (a++r)
 | put {s:Str} {l r:List Nat} {ps:List Pt}:Run l ps r→Run l (.put s::ps) (s.cps.toList++r)
 | cut {s:Str} {l r:List Nat} {ps:List Pt}:Run l ps r→Run (s.cps.toList++l) (.cut s::ps) r
theorem Run.Dc{l r:List Nat}{ps:List Pt}(h:Run l ps r):Run r (SH ps) l:=by
 induction h with
 | nil=>exact .nil
 | keep e _ ih=>exact .keep e ih
 | put _ ih=>exact .cut ih
 | cut _ ih=>exact .put ih
theorem Run.app{l l' r r':List Nat}{ps qs:List Pt}(h:Run l ps r)(h':Run l' qs r'):Run (l++l') (ps++qs) (r++r'):=by
 induction h with
 | nil=>exact h'
 | keep e _ ih=>rw[List.append_assoc,List.append_assoc];exact .keep e ih
 | put _ ih=>rw[List.append_assoc];exact .put ih
 | cut _ ih=>rw[List.append_assoc];exact .cut ih
theorem Run.over{l r:List Nat}{ps:List Pt}(h:Run l ps r):(overOf ps).sum=l.length:=by
 induction h with
 | nil=>rfl
 | @keep a l r n ps e _ ih=>
  have e2:overOf (.keep n::ps)=n::overOf ps:=rfl
  rw[e2,List.sum_cons,ih,e,zqA]
  simp
 | @put s l r ps _ ih=>
  have e2:overOf (.put s::ps)=overOf ps:=rfl
  rw[e2,ih]
 | @cut s l r ps _ ih=>
  have e2:overOf (.cut s::ps)=(s.length:Int)::overOf ps:=rfl
  rw[e2,List.sum_cons,ih,zqA,len_list]
  simp
theorem SI{s:Str}:Run [] (txt .put s) s.cps.toList:=by
 by_cases h:s=""
 ·rw[h,txt_nil];exact .nil
 ·rw[cW h]
  have:=Run.put (s:=s) Run.nil
  rwa [List.append_nil] at this
theorem anM{s:Str}:Run s.cps.toList (txt .cut s) []:=by
 have:=(SI (s:=s)).Dc
 have e:SH (txt .put s)=txt .cut s:=by
  unfold txt;split<;>rfl
 rwa [e] at this
def One:Pt→List Nat→List Nat→Prop
 | .keep n,l,q=>l=q∧n=l.length
 | .put s,l,q=>l=[]∧q=s.cps.toList
 | .cut s,l,q=>l=s.cps.toList∧q=[]
theorem anN{p:Pt}{l q:List Nat}{ps:List Pt}(h:Run l (p::ps) q): ∃l1 l2 q1 q2,l=l1++l2∧q=q1++q2∧Run l2 ps q2∧
  One p l1 q1:=by
 cases h with
 | keep e h=>exact⟨_,_,_,_,rfl,rfl,h,rfl,e⟩
 | put h=>exact⟨[],_,_,_,rfl,rfl,h,rfl,rfl⟩
 | cut h=>exact⟨_,_,[],_,rfl,rfl,h,rfl,rfl⟩
theorem SJ{x:Str}{a b c:List Nat}(h:x.cps.toList=a++ (b++c))(n:Int)(hn:n=b.length):g6 x (some (a.length:Int)) (some ((a.length:Int)+n))=⟨b.toArray⟩:=by
 have e1:(a.length:Int)+n=((a.length+b.length:Nat):Int):=by rw[hn];simp
 unfold g6 iL
 rw[e1,HT.j8,HT.j8,h]
 have l1:(a++ (b++c)).length=a.length+ (b.length+c.length):=by simp
 rw[l1]
 have m1:min a.length (a.length+ (b.length+c.length))=a.length:=by omega
 have m2:min (a.length+b.length) (a.length+ (b.length+c.length))=a.length+b.length:=by omega
 rw[m1,m2,List.drop_left,show a.length+b.length - a.length=b.length by omega,List.take_left]
theorem pV{k:Str}{v:V}{r:List (Str×V)}:((k,v)::r).lookup k=some v:=by simp[List.lookup]
theorem gb{k j:Str}{v:V}{r:List (Str×V)}(h: ¬k=j):((j,v)::r).lookup k=r.lookup k:=by
 have:(k==j)=false:=by simpa using h
 simp[List.lookup,this]
theorem anO{k:Str}{v w:V}{r:List (Str×V)}:b_ k v ((k,w)::r)=(k,v)::r:=by simp[b_]
theorem iZ{k j:Str}{v w:V}{r:List (Str×V)}(h: ¬j=k):b_ k v ((j,w)::r)=(j,w)::b_ k v r:=by simp[b_,h]
end L2.B
namespace L2.B
end L2.B
namespace L2.B
end L2.B
namespace L2.B
open PySem PySem.Spec PyProof.Rows
theorem eo{K:Frag}{sd:Addr→List (Key×V)→Prop}{H:Hp}{a:Addr}{xs:List V}{i:Int}{v:V}{Q:VK}(h:H a=some (.lst xs))(e:dP xs i=some v)(q:Q v H):jo K sd (.ref a) (.int i) H Q:=
 .inl ⟨_,_,_,_,rfl,rfl,aM.of h,e,q⟩
def oE:Sp:=fun vs H Q E=> ∃(a:Addr) (xs:List Int) (most:Int),vs=[.ref a, .int most]∧H a=some (.lst (xs.map V.int))∧pR xs∧Q (.int (cU xs most)) H
theorem anP{K:Frag}(vs:List V)(H:Hp)(Q:VK)(E:XK)(h:oE vs H Q E):ar (aQ K [] [] (E:=E)) Ax {nx:=fun _ H'=>Q .az H',rt:=Q} (start Aw vs) H:=by
 obtain⟨a,xs,most,rfl,ha,hr,q⟩:=h
 have hc:=C5 xs most
 refine⟨_,rfl, .inl ⟨_,aM.of ha, ?_⟩⟩
 rw[List.length_map]
 refine⟨fun m σ H'=> ∃(lo hi:Nat) (w:Option V),m=hi - lo∧σ=[some (.ref a),some (.int most),some (.int lo),some (.int hi),w]∧lo≤cU xs most∧cU xs most≤hi∧hi≤xs.length∧H'=H,
  ⟨_,0,xs.length,none,rfl,rfl,zqZ _,hc,zqR _,rfl⟩, ?_⟩
 rintro m σ H' ⟨lo,hi,w,rfl,rfl,h1,h2,h3,rfl⟩
 refine⟨_,rfl,_,rfl,trivial,_,rfl, ?_⟩
 refine d6 (fun h=> ?_) (fun h=> ?_)
 ·have bC:(lo:Int) < (hi:Int):=of_decide_eq_true h
  refine⟨_,fun σ' SK q=>q, ?_⟩
  refine⟨_,rfl,_,rfl,⟨by decide,by decide⟩, ?_⟩
  have hk:(lo+hi) / 2<xs.length:=by omega
  generalize hkk:(lo+hi) / 2=k at hk
  have hm:((lo:Int)+ (hi:Int)) / 2=(k:Int):=by omega
  show ar _ _ _ [some (V.ref a),some (V.int most),some (V.int lo),some (V.int hi),some (V.int (((lo:Int)+ (hi:Int)) / 2))] _
  rw[hm]
  have gk:xs[k]?=some xs[k]:=List.getElem?_eq_getElem hk
  have ik:dP (xs.map V.int) (k:Int)=some (.int xs[k]):=jj (by rw[List.getElem?_map,gk];rfl)
  refine⟨_,rfl,_,rfl,eo ha ik ⟨_,rfl,trivial,_,rfl, ?_⟩⟩
  refine d6 (fun g=> ?_) (fun g=> ?_)
  ·have hle:xs[k]≤most:=of_decide_eq_true g
   exact⟨_,rfl,hi - (k+1),by omega,k+1,hi,some (V.int k),rfl,rfl,C7 hr gk hle,h2,h3,rfl⟩
  ·have hle: ¬xs[k]≤most:=fun z=>g (zqT z)
   exact⟨_,rfl,k - lo,by omega,lo,k,some (V.int k),rfl,rfl,h1,So hr gk hle,by omega,rfl⟩
 ·have hle: ¬(lo:Int) < (hi:Int):=fun z=>h (zqT z)
  have e:cU xs most=lo:=by omega
  rw[e] at q
  exact⟨_,rfl,q⟩
def anQ(K:Frag)(p:Addr)(xs:List V):Prop:= ∀H,bo K H p xs
theorem anR{T:Ty}{v:V}{H:Hp}{P Q:Bool→Prop}(h:bV T v H P)(i: ∀b,P b→Q b):bV T v H Q:=by
 cases v with
 | ref a=>
  unfold bV at h⊢
  simp only at h⊢
  split at h
  all_goals first | exact i _ h | exact h.elim
 | az=>exact i _ h
 | bl b=>exact i _ h
 | int _=>exact i _ h
 | str _=>exact i _ h
 | _=>exact False.elim h
theorem anS{T:Ty}{v:V}{H H':Hp}{P:Bool→Prop}(h:bV T v H P)(s:aJ H H'):bV T v H' P:=by
 cases v with
 | ref a=>
  unfold bV at h⊢
  simp only at h⊢
  cases e:H a with
  | none=>rw[e] at h;exact h.elim
  | some o=>rw[e] at h;rw[s _ _ e];exact h
 | az=>exact h
 | bl b=>exact h
 | int _=>exact h
 | str _=>exact h
 | _=>exact False.elim h
def gM(T:Ty)(v:V)(H:Hp):Prop:=bV T v H fun b=>b=false
theorem gM.same{T:Ty}{v:V}{H H':Hp}(h:gM T v H)(s:aJ H H'):gM T v H':=anS h s
theorem gM.go{T:Ty}{v:V}{H:Hp}{Q:Bool→Prop}(h:gM T v H)(q:Q false):bV T v H Q:=anR h fun b e=>by rw[e];exact q
def anT(x:Str):Bool:=x.cps.toList.all fun c=>SG.cps.contains c
theorem SN{α:Type}(p:α→Bool): ∀l:List α,l.all p=false→(l.takeWhile p).length<l.length
 | [],h=>by cases h
 | c::l,h=>by
  rw[List.takeWhile_cons]
  cases hc:p c with
  | false=>simp
  | true=>
   rw[List.all_cons,hc,Bool.true_and] at h
   have:=SN p l h
   simp;omega
theorem anU(x y:Str)(h:(x.cps.toList.all fun c=>y.cps.contains c)=false):Txt.lstripChars x y≠"":=by
 have lt:=SN _ _ h
 have e0:stripLo y.cps.contains true x=(x.cps.toList.takeWhile y.cps.contains).length:=by
  unfold stripLo
  rw[if_pos rfl]
 have e1: ∀n,stripHi y.cps.contains false x n=x.length:=fun n=>rfl
 intro z
 have z2:=congrArg Str.length z
 have l0:(Str.ofString "").length=0:=rfl
 rw[l0] at z2
 unfold Txt.lstripChars Txt.stripBy stripSame stripped at z2
 rw[e0,e1] at z2
 have hx:x.cps.size=x.cps.toList.length:=by simp
 split at z2
 ·have:x.cps.size=0:=z2
  omega
 ·have z3:(x.cps.extract (x.cps.toList.takeWhile y.cps.contains).length x.cps.size).size=0:=z2
  rw[Array.size_extract,Nat.min_self] at z3
  have z4:x.cps.size - (List.takeWhile (fun c=>y.cps.contains c) x.cps.toList).length=0:=z3
  omega
def oF(v:V)(H:Hp):Prop:=(∃x,v= .str x∧x.length≤1000000∧anT x=false)∨gM .str v H
theorem oF.same{v:V}{H H':Hp}(h:oF v H)(s:aJ H H'):oF v H':=by
 rcases h with h | h
 ·exact .inl h
 ·exact .inr (h.same s)
def pX(v:V)(H:Hp):Prop:=(∃b,v= .bl b)∨gM .int v H
theorem pX.same{v:V}{H H':Hp}(h:pX v H)(s:aJ H H'):pX v H':=by
 rcases h with h | h
 ·exact .inl h
 ·exact .inr (h.same s)
def i0:Sp:=fun vs H Q E=> ∃v,vs=[v]∧((∃i,v= .int i∧Q (.bl true) H)∨(pX v H∧Q (.bl false) H))
theorem anV{K:Frag}(vs:List V)(H:Hp)(Q:VK)(E:XK)(h:i0 vs H Q E):ar (aQ K [] [] (E:=E)) Af (Dn Q) (start Ae vs) H:=by
 obtain⟨v,rfl,⟨i,rfl,q⟩ | ⟨⟨b,rfl⟩ | hn,q⟩⟩:=h
 ·exact⟨_,rfl,rfl,_,rfl,eQ ⟨_,rfl,rfl,q⟩⟩
 ·exact⟨_,rfl,rfl,_,rfl,eQ ⟨_,rfl,rfl,q⟩⟩
 ·exact⟨_,rfl,rfl,hn.go ⟨_,rfl,iI q⟩⟩
def pY:Sp:=fun vs H Q E=> ∃v,vs=[v]∧((∃x,v= .str x∧good x∧Q (.bl true) H)∨(oF v H∧Q (.bl false) H))
theorem anW{K:Frag}(vs:List V)(H:Hp)(Q:VK)(E:XK)(h:pY vs H Q E):ar (aQ K [] gS (E:=E)) vO (Dn Q) (start vN vs) H:=by
 obtain⟨v,rfl,⟨x,rfl,hx,q⟩ | ⟨⟨x,rfl,hl,hx⟩ | hn,q⟩⟩:=h
 ·exact anw _ _ _ _ ⟨x,rfl,hx,q⟩
 ·refine⟨_,rfl,rfl,_,rfl,eQ ⟨_,rfl,rfl,bW hl, ?_⟩⟩
  show Q (.bl (false ^^ decide (V.str (Txt.lstripChars x SG)=V.str ""))) H
  rw[zqF (fun z=>anU x SG hx (by injection z))]
  exact q
 ·exact⟨_,rfl,rfl,hn.go ⟨_,rfl,iI q⟩⟩
abbrev anY:List (Str×Sp):=[("is_text",pY)]
def oG(C:Addr):Sp:=fun vs H Q E=> ∃v,vs=[v]∧((∃x,v= .str x∧good x∧Q .az H)∨(oF v H∧E (.ref C) none H))
theorem anZ{K:Frag}{C:Addr}(vs:List V)(H:Hp)(Q:VK)(E:XK)(h:oG C vs H Q E):ar (aQ K anY [] (et:=[("BadText",C)]) (E:=E)) Ah (Dn Q) (start Ag vs) H:=by
 obtain⟨v,rfl,⟨x,rfl,hx,q⟩ | ⟨hn,q⟩⟩:=h
 ·exact⟨_,rfl,_,rfl, .inl ⟨x,rfl,hx,q⟩⟩
 ·exact⟨_,rfl,_,rfl, .inr ⟨hn,(by show 1≤sizeLine;decide),q⟩⟩
def oH(K:Frag):Sp:=fun vs H Q E=> ∃v p xs,vs=[v, .ref p]∧bo K H p xs∧xs.all dQ=true∧((∃w,v= .str w∧Q (.bl (d5 (.str w) xs)) H)∨(gM .str v H∧Q (.bl false) H))
theorem an_{K:Frag}(vs:List V)(H:Hp)(Q:VK)(E:XK)(h:oH K vs H Q E):ar (aQ K [] [] (E:=E)) vM (Dn Q) (start vL vs) H:=by
 obtain⟨v,p,xs,rfl,hp,hf,⟨w,rfl,q⟩ | ⟨hn,q⟩⟩:=h
 ·exact anz _ _ _ _ ⟨w,p,xs,rfl,hp,hf,q⟩
 ·exact⟨_,rfl,rfl,hn.go ⟨_,rfl,iI q⟩⟩
def aoa(v:V)(H:Hp):Prop:=gM .tuple v H∨ ∃a xs,v= .ref a∧H a=some (.tup xs)∧xs.length≤1000000∧(xs.length≠2∨ ∃w t,xs=[w,t]∧
 (gM .str w H∨(∃s,w= .str s∧s≠"keep"∧s≠"cut"∧s≠"put")∨(w= .str "keep"∧(pX t H∨ ∃n,t= .int n∧n<1))∨((w= .str "cut"∨w= .str "put")∧(oF t H∨t= .str ""))))
abbrev wk(K:Frag):List (Str×Sp):=[("is_word",oH K),("is_whole",i0),("is_text",pY)]
def Dd:Sp:=fun vs H Q E=> ∃v,vs=[v]∧((∃p,jF H v p∧eZ p∧ ∀H',aJ H H'→Q (.bl true) H')∨(aoa v H∧ ∀H',aJ H H'→Q (.bl false) H'))
theorem SO(s t:Str):d5 (.str s) [.str t]=(t==s):=by
 unfold d5
 show(d0 (.str t) (.str s) || false)=_
 rw[Bool.or_false];rfl
theorem aob{K:Frag}(vs:List V)(H:Hp)(Q:VK)(E:XK)(h:Dd vs H Q E):ar (aQ K (wk K) [] (E:=E)) rW (Dn Q) (start rV vs) H:=by
 have two: ∀(a:Addr) (w t:V) (Q1:VK) (H1:Hp) (σ:St),σ[0]?=some (some (.ref a))→H1 a=some (.tup [w,t])→
   (∀(tt:Addr) H2,aJ H1 H2→ ∀b:Bool,(b=true→w= .str "cut"∨w= .str "put")→(b=false→w≠ .str "cut"∧w≠ .str "put")→Q1 (.bl b) H2)→(gM .str w H1∨ ∃s,w= .str s)→
   aj (aQ K (wk K) [] (E:=E)) (.call 0 [(.ix (.v 0) (.c (.int 0))),(.tup [(.c (.str "cut")),(.c (.str "put"))])]) σ H1 Q1:=by
  intro a w t Q1 H1 σ h0 ha q hw
  refine⟨_,h0, .inr (.inl ⟨_,_,_,_,rfl,rfl,bo.of ha,rfl,(by show 2≤sizeLine;decide),fun t ht=> ?_⟩)⟩
  have s2:=sameNew (o:= .tup [V.str "cut",V.str "put"]) ht
  refine⟨w,t,_,rfl,bo.of aU,rfl, ?_⟩
  rcases hw with hw | ⟨s,rfl⟩
  ·refine .inr ⟨hw.same s2,q t _ s2 false (fun z=>by cases z) fun _=> ⟨?_, ?_⟩⟩
   ·rintro rfl;cases (show true=false from hw)
   ·rintro rfl;cases (show true=false from hw)
  ·refine .inl ⟨s,rfl,q t _ s2 _ (fun z=> ?_) fun z=> ?_⟩
   ·have z':((Str.ofString "cut"==s) || ((Str.ofString "put"==s) || false))=true:=z
    simp only[Bool.or_false,Bool.or_eq_true,beq_iff_eq] at z'
    rcases z' with z' | z'<;>subst z'
    ·exact .inl rfl
    ·exact .inr rfl
   ·have z':((Str.ofString "cut"==s) || ((Str.ofString "put"==s) || false))=false:=z
    simp only[Bool.or_false,Bool.or_eq_false_iff,beq_eq_false_iff_ne] at z'
    exact⟨fun y=>z'.1 (by injection y with y;exact y.symm),fun y=>z'.2 (by injection y with y;exact y.symm)⟩
 obtain⟨v,rfl,⟨p,⟨a,rfl,ha⟩,hp,q⟩ | ⟨hn | ⟨a,xs,rfl,ha,hl,hb⟩,q⟩⟩:=h
 ·refine⟨_,rfl,rfl,wa ha ⟨_,rfl, .inr ⟨_,bo.of ha,_,rfl, ?_⟩⟩⟩
  refine⟨_,rfl, .inr (.inl ⟨_,_,_,_,rfl,rfl,bo.of ha,rfl,(by show 1≤sizeLine;decide),fun t1 De=> ?_⟩)⟩
  have s1:=sameNew (o:= .tup [V.str "keep"]) De
  refine⟨.str p.word,t1,[.str "keep"],rfl,bo.of aU,rfl, .inl ⟨p.word,rfl, ?_⟩⟩
  have dB:=s1 _ _ ha
  generalize upd H t1 (.tup [V.str "keep"])=H1 at s1 dB
  have fin: ∀(s:Str),good s→s≠""→H1 a=some (.tup [.str p.word, .str s])→p.word="put"∨p.word="cut"→ar (aQ K (wk K) [] (E:=E)) (rW.drop 2) (Dn Q) (start rV [.ref a]) H1:=by
   intro s gs ns hs hw
   refine two a (.str p.word) (.str s) _ H1 _ rfl hs (fun tt H2 s2 b pZ wm=> ?_) (.inr ⟨_,rfl⟩)
   have eb:b=true:=by
    cases b with
    | true=>rfl
    | false=>
     obtain⟨z1,z2⟩:=wm rfl
     rcases hw with z | z
     ·exact absurd (congrArg V.str z) z2
     ·exact absurd (congrArg V.str z) z1
   subst eb
   have wo:=s2 _ _ hs
   refine⟨_,rfl,eQ ⟨_,rfl, .inr (.inl ⟨_,_,_,_,rfl,rfl,bo.of wo,rfl, .str s,rfl, .inl ⟨s,rfl,gs,_,rfl, ?_⟩⟩)⟩⟩
   refine eQ ⟨_,rfl, .inr (.inl ⟨_,_,_,_,rfl,rfl,bo.of wo,rfl, ?_⟩)⟩
   show Q (.bl (true ^^ decide (V.str s=V.str ""))) _
   rw[zqF (fun z=>ns (by injection z))]
   exact q _ (s1.trans s2)
  cases p with
  | keep n=>
   rw[show d5 (.str (Pt.keep n).word) [.str "keep"]=true by show d5 (.str "keep") [.str "keep"]=true;decide]
   refine⟨_,rfl, .inr (.inl ⟨_,_,_,_,rfl,rfl,bo.of dB,rfl, .int n,rfl, .inl ⟨n,rfl,_,rfl, ?_⟩⟩)⟩
   refine eQ ⟨_,rfl, .inr (.inl ⟨_,_,_,_,rfl,rfl,bo.of dB,rfl,trivial, ?_⟩)⟩
   show Q (.bl (decide (1≤n))) H1
   rw[zqT (show(1:Int)≤n from hp)]
   exact q _ s1
  | put s=>
   rw[show d5 (.str (Pt.put s).word) [.str "keep"]=false by show d5 (.str "put") [.str "keep"]=false;decide]
   exact fin s hp.1 hp.2 dB (.inl rfl)
  | cut s=>
   rw[show d5 (.str (Pt.cut s).word) [.str "keep"]=false by show d5 (.str "cut") [.str "keep"]=false;decide]
   exact fin s hp.1 hp.2 dB (.inr rfl)
 ·exact⟨_,rfl,rfl,hn.go (q _ (aJ.refl _))⟩
 ·refine⟨_,rfl,rfl,wa ha ⟨_,rfl, .inr ⟨_,bo.of ha,_,rfl, ?_⟩⟩⟩
  show if (true ^^ decide (V.int (xs.length:Int)=V.int 2))=true then _ else _
  rcases hb with hb | ⟨w,t,rfl,hb⟩
  ·rw[zqF (fun z=>hb (by injection z with z;omega))]
   exact q _ (aJ.refl _)
  ·refine⟨_,rfl, .inr (.inl ⟨_,_,_,_,rfl,rfl,bo.of ha,rfl,(by show 1≤sizeLine;decide),fun t1 De=> ?_⟩)⟩
   have s1:=sameNew (o:= .tup [V.str "keep"]) De
   refine⟨w,t1,[.str "keep"],rfl,bo.of aU,rfl, ?_⟩
   have dB:=s1 _ _ ha
   generalize upd H t1 (.tup [V.str "keep"])=H1 at s1 dB
   have no:(gM .str w H1∨ ∃s,w= .str s)→w≠ .str "cut"→w≠ .str "put"→ar (aQ K (wk K) [] (E:=E)) (rW.drop 2) (Dn Q) (start rV [.ref a]) H1:=by
    intro hw n1 n2
    refine two a w t _ H1 _ rfl dB (fun tt H2 s2 b pZ wm=> ?_) hw
    have eb:b=false:=by
     cases b with
     | false=>rfl
     | true=>rcases pZ rfl with z | z;exact absurd z n1;exact absurd z n2
    subst eb
    exact⟨_,rfl,iI (q _ (s1.trans s2))⟩
   rcases hb with hb | ⟨s,rfl,n0,n1,n2⟩ | ⟨rfl,hb⟩ | ⟨hw,hb⟩
   ·refine .inr ⟨hb.same s1,no (.inl (hb.same s1)) ?_ ?_⟩
    ·rintro rfl;cases (show true=false from hb)
    ·rintro rfl;cases (show true=false from hb)
   ·refine .inl ⟨s,rfl, ?_⟩
    rw[SO,beq_eq_false_iff_ne.mpr (Ne.symm n0)]
    exact no (.inr ⟨s,rfl⟩) (fun z=>n1 (by injection z)) (fun z=>n2 (by injection z))
   ·refine .inl ⟨_,rfl, ?_⟩
    rw[show d5 (.str "keep") [.str "keep"]=true by decide]
    refine⟨_,rfl, .inr (.inl ⟨_,_,_,_,rfl,rfl,bo.of dB,rfl,t,rfl, ?_⟩)⟩
    rcases hb with hb | ⟨n,rfl,hn⟩
    ·exact .inr ⟨hb.same s1,_,rfl,iI (q _ s1)⟩
    ·refine .inl ⟨n,rfl,_,rfl,eQ ⟨_,rfl, .inr (.inl ⟨_,_,_,_,rfl,rfl,bo.of dB,rfl,trivial, ?_⟩)⟩⟩
     show Q (.bl (decide (1≤n))) H1
     rw[zqF (by omega)]
     exact q _ s1
   ·have hws: ∃s,w= .str s∧(Str.ofString "keep"==s)=false:=by
     rcases hw with rfl | rfl
     ·exact⟨_,rfl,by decide⟩
     ·exact⟨_,rfl,by decide⟩
    obtain⟨s,rfl,hk⟩:=hws
    refine .inl ⟨s,rfl, ?_⟩
    rw[SO,hk]
    refine two a (.str s) t _ H1 _ rfl dB (fun tt H2 s2 b pZ wm=> ?_) (.inr ⟨s,rfl⟩)
    have eb:b=true:=by
     cases b with
     | true=>rfl
     | false=>
      obtain⟨z1,z2⟩:=wm rfl
      rcases hw with z | z
      ·exact absurd z z1
      ·exact absurd z z2
    subst eb
    have dC:=s2 _ _ dB
    refine⟨_,rfl,eQ ⟨_,rfl, .inr (.inl ⟨_,_,_,_,rfl,rfl,bo.of dC,rfl,t,rfl, ?_⟩)⟩⟩
    rcases hb with hb | rfl
    ·exact .inr ⟨hb.same (s1.trans s2),_,rfl,iI (q _ (s1.trans s2))⟩
    ·refine .inl ⟨_,rfl,⟨by decide,fun c hc=>by cases hc⟩,_,rfl,eQ ⟨_,rfl, .inr (.inl ⟨_,_,_,_,rfl,rfl,bo.of dC,rfl, ?_⟩)⟩⟩
     exact q _ (s1.trans s2)
theorem aod{vs:List V}{H:Hp}{Q:VK}{E:XK}(h:C9 vs H Q E):Dd vs H Q E:=by
 obtain⟨v,p,rfl,hp,ho,q⟩:=h
 exact⟨_,rfl, .inl ⟨p,hp,ho,q⟩⟩
end L2.B
namespace L2
open PySem PySem.Spec PyProof.Rows
section
variable {Γ:aC} {D:Ends} {σ:St} {H:Hp} {r:List RS} {Q:VK} {QA:List V→Hp→Prop} {QT:Bool→Hp→Prop}
theorem ag{i:Nat}{v:V}(h:σ[i]?=some (some v))(q:Q v H):aj Γ (.v i) σ H Q:=⟨_,h,q⟩
theorem au{v:V}(q:Q v H):aj Γ (.c v) σ H Q:=q
theorem kx{j:Nat}(q:Q (Γ.gv j) H):aj Γ (.g j) σ H Q:=q
theorem aK{op:Operator}{a b:RE}(h:aj Γ a σ H fun x H1=>aj Γ b σ H1 fun y H2=>kc Γ.K op x y H2 Q):aj Γ (.bin op a b) σ H Q:=h
theorem gN{op:CmpOp}{a b:RE}(h:aj Γ a σ H fun x H1=>aj Γ b σ H1 fun y H2=>cn Γ.K op x y H2 Q):aj Γ (.cmp op a b) σ H Q:=h
theorem ba{a b:RE}(h:aj Γ a σ H fun x H1=>aj Γ b σ H1 fun y H2=>jo Γ.K Γ.sd x y H2 Q):aj Γ (.ix a b) σ H Q:=h
theorem aoe{j:Nat}{as:List RE}(h:bH Γ as σ H fun vs H1=>Γ.fs j (vs++ []) H1 Q Γ.E):aj Γ (.call j as) σ H Q:=h
theorem bx{j:Nat}{as:List RE}(sp:Sp)(hs:Γ.fs j=sp)(h:bH Γ as σ H fun vs H1=>sp vs H1 Q Γ.E):aj Γ (.call j as) σ H Q:=by
 subst hs
 refine aoe ?_
 have e:(fun(vs:List V) (H1:Hp)=>Γ.fs j (vs++ []) H1 Q Γ.E)=fun vs H1=>Γ.fs j vs H1 Q Γ.E:=by
  funext vs H1;rw[List.append_nil]
 rw[e];exact h
theorem eA{b:jn}{as:List RE}(h:bH Γ as σ H fun vs H1=>lV Γ.K b vs H1 Q):aj Γ (.blt b as) σ H Q:=h
theorem fK{as:List RE}(h:bH Γ as σ H fun xs H1=>xs.length≤sizeLine∧ ∀p,H1 p=none→Q (.ref p) (upd H1 p (.tup xs))):aj Γ (.tup as) σ H Q:=h
theorem gc{as:List RE}(h:bH Γ as σ H fun xs H1=>xs.length≤sizeLine∧ ∀p,H1 p=none→Q (.ref p) (upd H1 p (.lst xs))):aj Γ (.lst as) σ H Q:=h
theorem aH(q:QA [] H):bH Γ [] σ H QA:=q
theorem ao{a:RE}{as:List RE}(h:aj Γ a σ H fun x H1=>bH Γ as σ H1 fun xs H2=>QA (x::xs) H2):bH Γ (a::as) σ H QA:=h
theorem aV{i:Nat}{e:RE}(h:aj Γ e σ H fun x H1=>ar Γ r D (σ.set i (some x)) H1):ar Γ (.asg i e::r) D σ H:=h
theorem oI{e:RE}(h:aj Γ e σ H fun _ H1=>ar Γ r D σ H1):ar Γ (.drop e::r) D σ H:=h
theorem bD{e:RE}(h:aj Γ e σ H D.rt):ar Γ (.ret e::r) D σ H:=h
end
end L2
namespace L2.B
open PySem PySem.Spec PyProof.Rows
theorem Paired.app{α β:Type}{R:α→β→Prop}: ∀{xs vp:List α} {ys fh:List β},Paired R xs ys→Paired R vp fh→Paired R (xs++vp) (ys++fh)
 | _,_,_,_, .nil,s=>s
 | _,_,_,_, .cons r t,s=> .cons r (Paired.app t s)
section
variable {Γ:aC} {cs:List Addr} {ink ea D:Addr} {j:Nat}
end
theorem Run.good{l r:List Nat}{ps:List Pt}(h:Run l ps r)(hl: ∀c∈l,SG.cps.contains c=true)(hp: ∀p∈ps,fk p): ∀c∈r,SG.cps.contains c=true:=by
 induction h with
 | nil=>exact hl
 | keep e _ ih=>
  intro c hc
  rcases List.mem_append.mp hc with z | z
  ·exact hl c (List.mem_append.mpr (.inl z))
  ·exact ih (fun d hd=>hl d (List.mem_append.mpr (.inr hd))) (fun p h=>hp p (.tail _ h)) c z
 | put _ ih=>
  intro c hc
  rcases List.mem_append.mp hc with z | z
  ·exact(hp _ (.head _):sg _) c z
  ·exact ih hl (fun p h=>hp p (.tail _ h)) c z
 | cut _ ih=>exact ih (fun d hd=>hl d (List.mem_append.mpr (.inr hd))) (fun p h=>hp p (.tail _ h))
theorem aof{x:Str}(k:Nat)(n:Int)(m:Nat)(hn:n=m):g6 x (some (k:Int)) (some ((k:Int)+n))=⟨((x.cps.toList.drop k).take m).toArray⟩:=by
 have e1:(k:Int)+n=((k+m:Nat):Int):=by rw[hn];simp
 unfold g6 iL
 rw[e1,HT.j8,HT.j8]
 congr 1
 by_cases h:k≤x.cps.toList.length
 ·rw[show min k x.cps.toList.length=k by omega]
  by_cases h2:k+m≤x.cps.toList.length
  ·rw[show min (k+m) x.cps.toList.length=k+m by omega,Nat.add_sub_cancel_left]
  ·rw[show min (k+m) x.cps.toList.length=x.cps.toList.length by omega,List.take_of_length_le (by rw[List.length_drop];omega),List.take_of_length_le (by rw[List.length_drop];omega)]
 ·rw[show min k x.cps.toList.length=x.cps.toList.length by omega,List.drop_length,List.drop_of_length_le (by omega),List.take_nil,List.take_nil]
def sy:Sp:=fun vs H Q E=> ∃x a xs ps r,vs=[.str x, .ref a]∧good x∧H a=some (.lst xs)∧cm H xs ps∧(∀p∈ps,C8 p)∧Run x.cps.toList ps r∧r.length≤1000000∧Q (.str ⟨r.toArray⟩) H
end L2.B
namespace L2
open PySem PySem.Spec PyProof.Rows
theorem ae{α:Type _}{p:α→Prop}: ∀x∈ ([]:List α),p x:=fun _ h=>nomatch h
theorem aA{α:Type _}{p:α→Prop}{a:α}{l:List α}(h:p a)(t: ∀x∈l,p x): ∀x∈a::l,p x:=List.forall_mem_cons.2 ⟨h,t⟩
section
variable {P:Program} {w:World} {K:Frag}
end
section
variable {P:Program} {w:World} {K:Frag} {mg:Str→Option Value} {base:Heap} {k:Nat}
theorem cG.weak{CX:aG}{f:Addr}{fd:FuncData}{ps:List Str}{a b:Sp}(A:cG P w K mg base CX k f fd ps b)(h: ∀vs H Q E,a vs H Q E→b vs H Q E):cG P w K mg base CX k f fd ps a:=
 ⟨fun vs H Q E q=>A.len vs H Q E (h _ _ _ _ q),fun A' outer s H args us vs Q E hr e0 hb hv hs=>A.run A' outer s H args us vs Q E hr e0 hb hv (h _ _ _ _ hs)⟩
theorem bz.weak{x:Str}{a b:Sp}(T:bz P w K mg base k x b)(h: ∀vs H Q E,a vs H Q E→b vs H Q E):bz P w K mg base k x a:=by
 obtain⟨f,fd,ps,F,r⟩:=T
 exact⟨f,fd,ps,F.weak h,r⟩
open PySem.W in
theorem p9{x:Str}{C:Addr}(X:K.In base)(G:base.Ns mainGlobals mg)(e:nsIn K mainGlobals x=some (some (.ref C)))(q:excIn K C [.type "ValueError", .type "Exception", .type "BaseException", .type "object"] "ValueError.__new__"=true):kj mg base (x,C):=by
 refine⟨_,_,_,_,⟨mg_of X G e, ?_⟩,PySem.F.excBase_ValueError⟩
 unfold excIn at q
 split at q
 ·rename_i dd cd sl ho
  split at q
  ·rename_i C' bm k0 k1 k2 k3 n k5 hm hs
   simp only[Bool.and_eq_true,beq_iff_eq,Bool.not_eq_true'] at q
   obtain⟨⟨⟨⟨⟨rfl,rfl⟩,SQ⟩,ht⟩,aR⟩,vv⟩:=q
   obtain⟨nm,bs,mro,ns,qn,hd,sn,sub,ab,col,del⟩:=cd
   dsimp only at hm SQ aR vv
   subst hm SQ
   obtain⟨sl⟩:=sl
   have wo:sl=_:=hs
   subst wo
   exact⟨bm,ns,nm,qn,bs,hd,sn,sub,ab,col,dd,k0,k1,k2,k3,k5,_,X _ _ ho, .of_isNs (isNs_of_in X aR),nsMap_none_of_in X aR vv,tail_of_in X ht⟩
  ·cases q
 ·cases q
end
namespace B
end B
end L2
namespace L2.B
end L2.B
namespace L2.B
open PySem PySem.Spec PyProof.Rows
end L2.B
namespace L2.B
end L2.B
namespace L2
open PySem PySem.Spec PyProof.Rows
section
variable {Γ:aC} {D:Ends} {σ:St} {H:Hp} {r:List RS} {Q:VK} {QA:List V→Hp→Prop} {QT:Bool→Hp→Prop}
theorem gd{j:Nat}{m:Str}{o:RE}(C:Addr)(sp:Sp)(hm:Γ.ms j=(C,sp))(h:aj Γ o σ H fun x H1=> ∃a dx fs,x= .ref a∧H1 a=some (.ins C dx fs)∧fs.lookup m=none∧sp [x] H1 Q Γ.E):aj Γ (.bO j m o []) σ H Q:=by
 show lK (Γ.ms j).1 m (Γ.ms j).2 [] Γ.E (aj Γ o) (bH Γ []) σ H Q
 rw[hm];exact h
theorem fL{j:Nat}{m:Str}{o a:RE}(C:Addr)(sp:Sp)(hm:Γ.ms j=(C,sp))(h:aj Γ o σ H fun x H1=> ∃p dx fs,x= .ref p∧H1 p=some (.ins C dx fs)∧fs.lookup m=none∧aj Γ a σ H1 fun y H2=>sp [x,y] H2 Q Γ.E):aj Γ (.bO j m o [a]) σ H Q:=by
 show lK (Γ.ms j).1 m (Γ.ms j).2 [] Γ.E (aj Γ o) (bH Γ [a]) σ H Q
 rw[hm];exact h
theorem oJ{c:RE}{body:List RS}(W:Nat→St→Hp→Prop)(h0: ∃m,W m σ H)
  (h: ∀m σ H,W m σ H→bE Γ c σ H fun b H1=>if b=true then ∃N:St→Hp→Prop,(∀σ' H',N σ' H'→ ∃m',m'<m∧W m' σ' H')∧ar Γ body {{D with nx:=ar Γ r D} with nx:=N,ct:=N,bk:=ar Γ r D} σ H1 else ar Γ r D σ H1):ar Γ (.eR c body::r) D σ H:=⟨W,h0,h⟩
theorem bF{c:RE}{t e:List RS}(h:bE Γ c σ H fun b H1=>if b=true then ar Γ t {D with nx:=ar Γ r D} σ H1 else ar Γ e {D with nx:=ar Γ r D} σ H1):ar Γ (.ite c t e::r) D σ H:=h
theorem bA{op:CmpOp}{a b:RE}(h:aj Γ a σ H fun x H1=>aj Γ b σ H1 fun y H2=>cn Γ.K op x y H2 fun z H3=> ∃k,z= .bl k∧QT k H3):bE Γ (.cmp op a b) σ H QT:=h
theorem dI{o:RE}{f:Str}(h:aj Γ o σ H fun x H1=> ∃a C dx fs v,x= .ref a∧H1 a=some (.ins C dx fs)∧fB Γ.K C∧fD Γ.K C f∧fs.lookup f=some v∧Q v H1):aj Γ (.fld o f) σ H Q:=h
theorem jI{m:g7}{o a:RE}(h:aj Γ o σ H fun x H1=>pj Γ.K (vm m) x H1∧aj Γ a σ H1 fun y H2=>rq Γ.K m x [y] H2 Q):aj Γ (.bZ m o [a]) σ H Q:=h
theorem dR{K:Frag}{x y:Str}{Q:VK}(q:Q (.bl (x==y)) H):cn K .Eq (.str x) (.str y) H Q:=by
 show Q (.bl (false ^^ decide (V.str x=V.str y))) H
 rw[Bool.false_xor,gX];exact q
theorem oK{K:Frag}{x y:Str}{Q:VK}(q:Q (.bl (x !=y)) H):cn K .NotEq (.str x) (.str y) H Q:=by
 show Q (.bl (true ^^ decide (V.str x=V.str y))) H
 rw[Bool.true_xor,gX];exact q
end
end L2
namespace L2.B
open PySem PySem.Spec PyProof.Rows
def Df(v:V)(lo hi:Int)(H:Hp):Prop:=pX v H∨ ∃i,v= .int i∧(i<lo∨hi<i)
def cL:Sp:=fun vs H Q E=> ∃(v:V) (lo hi:Int),vs=[v, .int lo, .int hi]∧((∃i,v= .int i∧lo≤i∧i≤hi∧Q (.bl true) H)∨(Df v lo hi H∧Q (.bl false) H))
theorem aog{K:Frag}(vs:List V)(H:Hp)(Q:VK)(E:XK)(h:cL vs H Q E):ar (aQ K [("is_whole",i0)] [] (E:=E)) Au (Dn Q) (start As vs) H:=by
 have chain: ∀(i lo hi:Int) (b:Bool) (H:Hp),decide (lo≤i∧i≤hi)=b→Q (.bl b) H→aj (aQ K [("is_whole",i0)] [] (E:=E)) (.iM .LtE .LtE (.v 1) (.v 0) (.v 2)) [some (.int i),some (.int lo),some (.int hi)] H Q:=by
  intro i lo hi b H hb q
  refine⟨_,rfl,_,rfl,trivial,_,rfl, ?_⟩
  refine d6 (fun h1=> ?_) (fun h1=> ?_)
  ·refine⟨_,rfl,trivial, ?_⟩
   have oM:lo≤i:=of_decide_eq_true h1
   have e:decide (i≤hi)=b:=by rw[←hb];simp[oM]
   show Q (.bl (decide (i≤hi))) H
   rw[e];exact q
  ·have oM: ¬lo≤i:=fun z=>h1 (zqT z)
   have e:b=false:=by rw[←hb];simp[oM]
   have e2:decide (lo≤i)=false:=zqF oM
   rw[e] at q
   first
    | exact q
    | (show Q (.bl (decide (lo≤i))) H;rw[e2];exact q)
 obtain⟨v,lo,hi,rfl,⟨i,rfl,h1,h2,q⟩ | ⟨hn | ⟨i,rfl,hb⟩,q⟩⟩:=h
 ·exact⟨_,rfl,_,rfl, .inl ⟨i,rfl,_,rfl,eQ (chain i lo hi true H (by simp[h1,h2]) q)⟩⟩
 ·exact⟨_,rfl,_,rfl, .inr ⟨hn,_,rfl,iI q⟩⟩
 ·exact⟨_,rfl,_,rfl, .inl ⟨i,rfl,_,rfl,eQ (chain i lo hi false H (by rw[zqF];rintro⟨a,b⟩;omega) q)⟩⟩
def dJ(lt lb lf:Addr)(n:Int):List (Str×V):=[("texts", .ref lt),("begins", .ref lb),("feeds", .ref lf),("signs", .int n)]
theorem wq{lt lb lf:Addr}{n:Int}:(dJ lt lb lf n).lookup ("texts":Str)=some (V.ref lt):=pV
theorem Dg{lt lb lf:Addr}{n:Int}:(dJ lt lb lf n).lookup ("begins":Str)=some (V.ref lb):=(gb (by decide+kernel)).trans pV
theorem Dh{lt lb lf:Addr}{n:Int}:(dJ lt lb lf n).lookup ("feeds":Str)=some (V.ref lf):=(gb (by decide+kernel)).trans ((gb (by decide+kernel)).trans pV)
theorem SR{lt lb lf:Addr}{n:Int}:(dJ lt lb lf n).lookup ("signs":Str)=some (V.int n):=(gb (by decide+kernel)).trans ((gb (by decide+kernel)).trans ((gb (by decide+kernel)).trans pV))
theorem sA{lt lb lf:Addr}{n:Int}{m:Str}(h1: ¬m="texts")(h2: ¬m="begins")(h3: ¬m="feeds")(h4: ¬m="signs"):(dJ lt lb lf n).lookup m=none:=
 (gb h1).trans ((gb h2).trans ((gb h3).trans ((gb h4).trans rfl)))
theorem aoh{lt lb lf:Addr}{n k:Int}:b_ "signs" (.int k) (dJ lt lb lf n)=dJ lt lb lf k:=by
 unfold dJ
 rw[iZ (by decide+kernel),iZ (by decide+kernel),iZ (by decide+kernel),anO]
theorem aoi{lt lb lf:Addr}{n:Int}:b_ "signs" (.int n) (b_ "feeds" (.ref lf) (b_ "begins" (.ref lb) (b_ "texts" (.ref lt) [])))=dJ lt lb lf n:=by
 have e1:b_ "texts" (V.ref lt) []=[(("texts":Str),V.ref lt)]:=rfl
 have e2:b_ "begins" (V.ref lb) []=[(("begins":Str),V.ref lb)]:=rfl
 have e3:b_ "feeds" (V.ref lf) []=[(("feeds":Str),V.ref lf)]:=rfl
 unfold dJ
 rw[e1,iZ (by decide+kernel),e2,iZ (by decide+kernel),iZ (by decide+kernel),iZ (by decide+kernel),e3,iZ (by decide+kernel),iZ (by decide+kernel)]
 rfl
def ax(ts:List Str):List Nat:=(ts.map fun t=>t.cps.toList).flatten
theorem ia(a b:List Str):ax (a++b)=ax a++ax b:=by simp[ax]
theorem ky(t:Str):ax [t]=t.cps.toList:=by simp[ax]
def df:List Str→Nat→List Int
 | [],_=> []
 | t::r,k=> (k:Int)::df r (k+t.length)
theorem SS: ∀(a b:List Str) (k:Nat),df (a++b) k=df a k++df b (k+ (ax a).length)
 | [],b,k=>by simp[df,ax]
 | t::a,b,k=>by
  have ih:=SS a b (k+t.length)
  have e:k+t.length+ (ax a).length=k+ (ax (t::a)).length:=by
   simp[ax,Str.length];omega
  rw[e] at ih
  simp only[List.cons_append,df,ih]
structure b8 (C:Addr) (H:Hp) (p dx lt lb lf:Addr) (ts:List Str):Prop where
 ob:H p=some (.ins C dx (dJ lt lb lf (ax ts).length))
 tx:H lt=some (.lst (ts.map V.str))
 bg:H lb=some (.lst ((df ts 0).map V.int))
 fd:H lf=some (.lst ((eY 10 (ax ts)).map V.int))
 n1:lt≠lb
 n2:lt≠lf
 n3:lb≠lf
def eN(p lt lb lf:Addr)(H H':Hp):Prop:= ∀b o,H b=some o→b≠p→b≠lt→b≠lb→b≠lf→H' b=some o
theorem eN.trans{p lt lb lf:Addr}{H H1 H2:Hp}(a:eN p lt lb lf H H1)(b:eN p lt lb lf H1 H2):eN p lt lb lf H H2:=fun c o e n1 n2 n3 n4=>b c o (a c o e n1 n2 n3 n4) n1 n2 n3 n4
theorem b8.same{C:Addr}{H H':Hp}{p dx lt lb lf:Addr}{ts:List Str}(S:b8 C H p dx lt lb lf ts)(s:aJ H H'):b8 C H' p dx lt lb lf ts:=
 ⟨s _ _ S.ob,s _ _ S.tx,s _ _ S.bg,s _ _ S.fd,S.n1,S.n2,S.n3⟩
def sD(C:Addr):Sp:=fun vs H Q E=> ∃(p dx:Addr),vs=[.ref p]∧H p=some (.ins C dx [])∧ ∀(lt lb lf:Addr) (H':Hp),b8 C H' p dx lt lb lf []→H lt=none→H lb=none→H lf=none→(∀b o,H b=some o→b≠p→H' b=some o)→Q .az H'
theorem aoj{K:Frag}{C:Addr}(T:pH K C)(vs:List V)(H:Hp)(Q:VK)(E:XK)(h:sD C vs H Q E):ar (aQ K [] [] (E:=E)) Az {nx:=fun _ H'=>Q .az H',rt:=Q} (start Ay vs) H:=by
 obtain⟨p,dx,rfl,hp,k⟩:=h
 refine⟨zqZ _,fun lt f1=> ?_⟩
 have kz:p≠lt:=cg hp f1
 refine⟨_,rfl,p,C,dx,[],rfl,(by rw[a_ kz];exact hp),T.cl,T.rX,(by show 0<1000;decide), ?_⟩
 refine⟨zqZ _,fun lb f2=> ?_⟩
 have p_:p≠lb:=fun z=>by rw[←z,aU] at f2;cases f2
 have wt:lt≠lb:=fun z=>by rw[←z,a_ kz.symm,aU] at f2;cases f2
 refine⟨_,rfl,p,C,dx,_,rfl,(by rw[a_ p_,aU]),T.cl,T.vR,(by show 1<1000;decide), ?_⟩
 refine⟨zqZ _,fun lf f3=> ?_⟩
 have sE:p≠lf:=fun z=>by rw[←z,aU] at f3;cases f3
 have Di:lb≠lf:=fun z=>by rw[←z,a_ p_.symm,aU] at f3;cases f3
 have Dj:lt≠lf:=fun z=>by rw[←z,a_ kz.symm,a_ wt,a_ kz.symm,aU] at f3;cases f3
 refine⟨_,rfl,p,C,dx,_,rfl,(by rw[a_ sE,aU]),T.cl,T.vS,(by show 2<1000;decide), ?_⟩
 refine⟨_,rfl,p,C,dx,_,rfl,aU,T.cl,T.vT,(by show 3<1000;decide), ?_⟩
 have fb:H lb=none:=by
  rw[a_ p_.symm,a_ wt.symm] at f2;exact f2
 have ff:H lf=none:=by
  rw[a_ sE.symm,a_ Di.symm,a_ sE.symm,a_ Dj.symm] at f3;exact f3
 refine k lt lb lf _ ⟨?_, ?_, ?_, ?_,wt,Dj,Di⟩ f1 fb ff fun b o e nb=> ?_
 ·rw[aU]
  exact congrArg (fun l=>some (HO.ins C dx l)) aoi
 ·rw[a_ kz.symm,a_ kz.symm,a_ Dj,a_ kz.symm,a_ wt,a_ kz.symm,aU];rfl
 ·rw[a_ p_.symm,a_ p_.symm,a_ Di,a_ p_.symm,aU];rfl
 ·rw[a_ sE.symm,a_ sE.symm,aU];rfl
 ·rw[a_ nb,a_ nb,a_ (cg e ff),a_ nb,a_ (cg e fb),a_ nb,a_ (cg e f1)];exact e
theorem aok:(Str.ofString "\n")=⟨#[10]⟩:=by rfl
def kA(l:List Nat):Int:=match l with | i::_=> (i:Int) | []=> -1
theorem SU(x:Str)(lo:Nat)(hl:lo≤x.length):(match Builtin.Str.occurrences x (Str.ofString "\n") lo x.length 1 with | i::_=> (i:Int) | []=> -1)=kA (pos 10 (x.cps.toList.drop lo) lo):=by
 rw[aok,v9 x 10 lo 1 hl]
 cases pos 10 (x.cps.toList.drop lo) lo<;>rfl
def sG(CT C:Addr):Sp:=fun vs H Q E=> ∃(p dx lt lb lf:Addr) (ts:List Str) (v:V),vs=[.ref p,v]∧b8 C H p dx lt lb lf ts∧((oF v H∧E (.ref CT) none H)∨ ∃x,v= .str x∧good x∧ts.length≤100000∧(ax ts).length≤1000000∧
 ∀H',eN p lt lb lf H H'→b8 C H' p dx lt lb lf (ts++ [x])→Q (.int (ax ts).length) H')
theorem Dk: ∀(ts:List Str) (k:Nat),(df ts k).length=ts.length
 | [],_=>rfl
 | t::r,k=>by simp[df,Dk r]
theorem SV(c:Nat)(a:List Nat)(k:Nat):(pos c a k).length≤a.length:=by
 rw[eM];exact List.count_le_length
theorem aol{K:Frag}{CT C:Addr}(T:pH K C)(vs:List V)(H:Hp)(Q:VK)(E:XK)(h:sG CT C vs H Q E):ar (aQ K [("need_text",oG CT)] [] (E:=E)) AA {nx:=fun _ H'=>Q .az H',rt:=Q} (start vQ vs) H:=by
 obtain⟨p,dx,lt,lb,lf,ts,v,rfl,S,⟨hb,q⟩ | ⟨x,rfl,hx,ht,hs,k⟩⟩:=h
 ·exact⟨_,rfl,_,rfl, .inr ⟨hb,q⟩⟩
 have SW:p≠lt:=yh S.ob S.tx (by intro z;cases z)
 have SX:p≠lb:=yh S.ob S.bg (by intro z;cases z)
 have SY:p≠lf:=yh S.ob S.fd (by intro z;cases z)
 refine⟨_,rfl,_,rfl, .inl ⟨x,rfl,hx, ?_⟩⟩
 refine⟨_,rfl,p,C,dx,_,_,rfl,S.ob,T.cl,T.vT,SR, ?_⟩
 refine⟨_,rfl,p,C,dx,_,_,rfl,S.ob,T.cl,T.rX,wq, .inl ⟨rfl,_,aM.of S.tx⟩,_,rfl,_,S.tx,jG (by simp;omega), ?_⟩
 have o1:upd H lt (.lst (ts.map V.str++ [V.str x])) p=some (.ins C dx (dJ lt lb lf (ax ts).length)):=by rw[a_ SW];exact S.ob
 have o2:upd H lt (.lst (ts.map V.str++ [V.str x])) lb=some (.lst ((df ts 0).map V.int)):=by rw[a_ S.n1.symm];exact S.bg
 refine⟨_,rfl,p,C,dx,_,_,rfl,o1,T.cl,T.vR,Dg, .inl ⟨rfl,_,aM.of o2⟩,_,rfl,_,o2,jG (by rw[List.length_map,Dk];omega), ?_⟩
 refine⟨_,rfl,_,rfl,bW hx.1,_,rfl,p,C,dx,_,rfl,(by rw[a_ SX];exact o1),T.cl,T.vT,(by show 4<1000;decide), ?_⟩
 generalize iJ:upd (upd (upd H lt (.lst (ts.map V.str++ [V.str x]))) lb (.lst ((df ts 0).map V.int++ [V.int ((ax ts).length:Int)]))) p (.ins C dx (b_ "signs" (.int (((ax ts).length:Int)+ (x.length:Int))) (dJ lt lb lf ((ax ts).length:Int))))=H3
 have b3:eN p lt lb lf H H3:=fun b o e n1 n2 n3 n4=>by
  rw[←iJ,a_ n1,a_ n3,a_ n2];exact e
 have ob3:H3 p=some (.ins C dx (dJ lt lb lf (((ax ts).length:Int)+ (x.length:Int)))):=by
  rw[←iJ,aU]
  exact congrArg (fun l=>some (HO.ins C dx l)) aoh
 have tx3:H3 lt=some (.lst (ts.map V.str++ [V.str x])):=by rw[←iJ,a_ SW.symm,a_ S.n1,aU]
 have bg3:H3 lb=some (.lst ((df ts 0).map V.int++ [V.int ((ax ts).length:Int)])):=by rw[←iJ,a_ SX.symm,aU]
 have fd3:H3 lf=some (.lst ((eY 10 (ax ts)).map V.int)):=by rw[←iJ,a_ SY.symm,a_ S.n3.symm,a_ S.n2.symm];exact S.fd
 have sH:=len_list x
 have l0:=SV 10 (ax ts) 0
 have l1:=SV 10 x.cps.toList 0
 refine⟨_,rfl,rfl, ?_⟩
 show ar _ _ _ ((start vQ [V.ref p,V.str x]).set 2 _ |>.set 3 (some (V.int (match Builtin.Str.occurrences x (Str.ofString "\n") 0 x.length 1 with | i::_=> (i:Int) | []=> -1)))) H3
 rw[SU x 0 (zqZ _),List.drop_zero]
 refine⟨fun m σ H'=> ∃(done rest:List Nat),m=rest.length∧pos 10 x.cps.toList 0=done++rest∧σ=[some (.ref p),some (.str x),some (.int ((ax ts).length:Int)),some (.int (kA rest))]∧dv lf H3 H'∧H' lf=some (.lst ((eY 10 (ax ts)++done.map fun(i:Nat)=> ((ax ts).length:Int)+ (i:Int)).map V.int)),
  ⟨_,[],pos 10 x.cps.toList 0,rfl,rfl,rfl,fun b o e _=>e,by rw[List.map_nil,List.append_nil];exact fd3⟩, ?_⟩
 rintro m σ H' ⟨done,rest,rfl,hd,rfl,b4,f4⟩
 have S4:=b4 _ _ ob3 SY
 refine⟨_,rfl,trivial,_,rfl, ?_⟩
 cases rest with
 | nil=>
  refine iF ⟨_,rfl, ?_⟩
  rw[List.append_nil] at hd
  refine k H' (fun b o e n1 n2 n3 n4=>b4 b o (b3 b o e n1 n2 n3 n4) n4) ⟨?_, ?_, ?_, ?_,S.n1,S.n2,S.n3⟩
  ·rw[ia,ky,zqA,←sH,Int.natCast_add];exact S4
  ·rw[List.map_append];exact b4 _ _ tx3 S.n2
  ·rw[SS,List.map_append,Nat.zero_add];exact b4 _ _ bg3 S.n3
  ·rw[ia,ky,anp,hd];exact f4
 | cons i rest=>
  have hi:=iY 10 x.cps.toList 0 i (by rw[hd];simp)
  have hl:done.length+ (rest.length+1)≤x.cps.toList.length:=by
   have:=congrArg List.length hd
   simp at this
   omega
  have oB:decide ((0:Int)≤kA (i::rest))=true:=zqT (by show(0:Int)≤ (i:Int);omega)
  refine iT ?_ oB
  refine⟨_,fun σ' SK q=>q, ?_⟩
  refine⟨_,rfl,p,C,dx,_,_,rfl,S4,T.cl,T.vS,Dh, .inl ⟨rfl,_,aM.of f4⟩,_,rfl,_,rfl,_,f4,(by have e:sizeLine=16777216:=rfl;have:=hx.1;simp[eY];omega), ?_⟩
  refine⟨_,rfl,rfl,_,rfl, ?_⟩
  have e1:fromIndex x.length (kA (i::rest)+1)=i+1:=by
   show fromIndex x.length ((i:Int)+1)=i+1
   unfold fromIndex
   rw[if_neg (by omega)];omega
  have nx:=Sq 10 x.cps.toList 0 i done rest hd
  rw[Nat.sub_zero] at nx
  have e2:=SU x (i+1) (by omega)
  rw[nx] at e2
  rw[←e1] at e2
  refine⟨rest.length,Nat.lt_succ_self _,done++ [i],rest,rfl,by rw[hd];simp, ?_,b4.trans dv.upd, ?_⟩
  ·show[_,_,_,some (V.int (match Builtin.Str.occurrences x (Str.ofString "\n") (fromIndex x.length (kA (i::rest)+1)) x.length 1 with | k::_=> (k:Int) | []=> -1))]=_
   rw[e2]
  ·rw[aU]
   simp[kA]
end L2.B
namespace L2
open PySem PySem.Spec PyProof.Rows
section
variable {Γ:aC} {D:Ends} {σ:St} {H:Hp} {r:List RS} {Q:VK} {QA:List V→Hp→Prop} {QT:Bool→Hp→Prop}
theorem dD{K:Frag}{b:Bool}{QB:Bool→Prop}(h:QB b):gm K (.bl b) H QB:=h
theorem dg{a:RE}(h:bE Γ a σ H fun b H1=>QT (!b) H1):bE Γ (.not a) σ H QT:=h
theorem fm{j:Nat}{as:List RE}(sp:Sp)(hs:Γ.fs j=sp)(h:bH Γ as σ H fun vs H1=>sp vs H1 (fun x H2=>gm Γ.K x H2 fun b=>QT b H2) Γ.E):bE Γ (.call j as) σ H QT:=by
 subst hs
 show bH Γ as σ H fun vs H1=>Γ.fs j (vs++ []) H1 (fun x H2=>gm Γ.K x H2 fun b=>QT b H2) Γ.E
 have e:(fun(vs:List V) (H1:Hp)=>Γ.fs j (vs++ []) H1 (fun x H2=>gm Γ.K x H2 fun b=>QT b H2) Γ.E)=fun vs H1=>Γ.fs j vs H1 (fun x H2=>gm Γ.K x H2 fun b=>QT b H2) Γ.E:=by
  funext vs H1;rw[List.append_nil]
 rw[e];exact h
theorem kD{a b:RE}(h:bE Γ a σ H fun c H1=>if c=true then QT true H1 else bE Γ b σ H1 QT):bE Γ (.or [a,b]) σ H QT:=h
theorem qc{a b:RE}(h:bE Γ a σ H fun c H1=>if c=true then bE Γ b σ H1 QT else QT false H1):bE Γ (.and [a,b]) σ H QT:=h
end
end L2
namespace L2.B
open PySem PySem.Spec PyProof.Rows
section
variable {Γ:aC} {σ:St} {H:Hp} {Q:VK} {QT:Bool→Hp→Prop} {K:Frag}
theorem wu{a b:RE}{r:List RE}(h:bE Γ a σ H fun c H1=>if c=true then QT true H1 else bE Γ (.or (b::r)) σ H1 QT):bE Γ (.or (a::b::r)) σ H QT:=h
theorem S5{a:RE}(h:bE Γ a σ H QT):bE Γ (.or [a]) σ H QT:=h
theorem sI{a b:RE}{r:List RE}(h:bE Γ a σ H fun c H1=>if c=true then bE Γ (.and (b::r)) σ H1 QT else QT false H1):bE Γ (.and (a::b::r)) σ H QT:=h
theorem S6{a:RE}(h:bE Γ a σ H QT):bE Γ (.and [a]) σ H QT:=h
theorem Dl{T:Ty}{a:RE}(h:aj Γ a σ H fun x H1=>bV T x H1 fun b=>QT b H1):bE Γ (.d9 T a) σ H QT:=by
 show ee Γ.K (dq (ke T) (dm (aj Γ a) (dm (tC (.ty T.nm)) gY))) σ H QT
 have e: ∀(q:VK),(fun(x:V) (H1:Hp)=>bV T x H1 fun b=>q (.bl b) H1)=fun x H1=>ke T [x, .ty T.nm] H1 q:=by
  intro q;funext x H1;simp[ke]
 show aj Γ a σ H fun x H1=>ke T [x, .ty T.nm] H1 fun v H2=>gm Γ.K v H2 fun b=>QT b H2
 rw[←e];exact h
theorem aF{sd:Addr→List (Key×V)→Prop}{a:Addr}{xs:List V}{i:Int}{v:V}(h:H a=some (.tup xs))(e:dP xs i=some v)(q:Q v H):jo K sd (.ref a) (.int i) H Q:=
 .inr (.inl ⟨_,_,_,_,rfl,rfl,bo.of h,e,q⟩)
theorem gf{x y:Int}(q:Q (.bl (decide (x=y))) H):cn K .Eq (.int x) (.int y) H Q:=by
 show Q (.bl (false ^^ decide (V.int x=V.int y))) H
 rw[Bool.false_xor,show decide (V.int x=V.int y)=decide (x=y) from decide_eq_decide.mpr ⟨fun z=>by injection z,fun z=>by rw[z]⟩];exact q
theorem wx{x y:Int}(q:Q (.bl (!decide (x=y))) H):cn K .NotEq (.int x) (.int y) H Q:=by
 show Q (.bl (true ^^ decide (V.int x=V.int y))) H
 rw[Bool.true_xor,show decide (V.int x=V.int y)=decide (x=y) from decide_eq_decide.mpr ⟨fun z=>by injection z,fun z=>by rw[z]⟩];exact q
theorem bM{i j:Int}(h:Q (.int (i+j)) H):kc K .Add (.int i) (.int j) H Q:=h
end
theorem aoq{K:Frag}{H:Hp}{x y:Int}{Q:VK}(q:Q (.bl (decide (x<y))) H):cn K .Lt (.int x) (.int y) H Q:=⟨trivial,q⟩
theorem aor(ps:List Str)(z:Str):(cat (ps++ [z])).cps.toList=(cat ps).cps.toList++z.cps.toList:=by rw[anF,anG,app_list]
def pre(ts:List Str)(k:Nat):Nat:=(ax (ts.take k)).length
theorem S7(t:Str)(r:List Str):ax (t::r)=t.cps.toList++ax r:=by simp[ax]
theorem S8{ts:List Str}{k:Nat}(h:ts.length≤k):pre ts k=(ax ts).length:=by unfold pre;rw[List.take_of_length_le h]
theorem aos{ts:List Str}{k:Nat}{t:Str}(h:ts[k]?=some t):ax ts=ax (ts.take k)++ (t.cps.toList++ax (ts.drop (k+1))):=by
 obtain⟨h1,h2⟩:=List.getElem?_eq_some_iff.mp h
 conv=>lhs;rw[←List.take_append_drop k ts,List.drop_eq_getElem_cons h1,h2]
 rw[ia,S7]
theorem S9{ts:List Str}{k:Nat}{t:Str}(h:ts[k]?=some t):pre ts (k+1)=pre ts k+t.length:=by
 unfold pre
 rw[List.take_add_one,h,ia,zqA]
 show _+ (ax [t]).length=_
 rw[ky,len_list]
theorem aot(ts:List Str)(k:Nat):pre ts k≤ (ax ts).length:=by
 have e:ax ts=ax (ts.take k)++ax (ts.drop k):=by rw[←ia,List.take_append_drop]
 rw[e,zqA];unfold pre;omega
theorem aou(ts:List Str):pre ts 0=0:=rfl
theorem sJ: ∀(ts:List Str) (k j:Nat),j<ts.length→(df ts k)[j]?=some (((k+pre ts j:Nat):Int))
 | [],k,j,h=>by cases h
 | t::r,k,0,h=>by simp[df,pre,ax]
 | t::r,k,j+1,h=>by
  have ih:=sJ r (k+t.length) j (Nat.lt_of_succ_lt_succ h)
  show(df r (k+t.length))[j]?=_
  rw[ih]
  have:pre (t::r) (j+1)=t.length+pre r j:=by
   unfold pre
   rw[List.take_succ_cons,S7,zqA,len_list]
  rw[this];congr 1;omega
theorem S_: ∀(ts:List Str) (k:Nat),∀x∈df ts k,(k:Int)≤x
 | [],k,x,h=>by cases h
 | t::r,k,x,h=>by
  rcases List.mem_cons.mp h with rfl | h
  ·exact Int.le_refl _
  ·have:=S_ r (k+t.length) x h
   omega
theorem Dm: ∀(ts:List Str) (k:Nat),pR (df ts k)
 | [],k=>List.Pairwise.nil
 | t::r,k=>List.Pairwise.cons (fun x hx=>by have:=S_ r (k+t.length) x hx;omega) (Dm r (k+t.length))
theorem aov{ts:List Str}{b:Nat}(h:b< (ax ts).length): ∃k,cU (df ts 0) (b:Int)=k+1∧k<ts.length∧pre ts k≤b∧b≤pre ts (k+1):=by
 have hl:=Dk ts 0
 have hc:=C5 (df ts 0) (b:Int)
 have hr:=Dm ts 0
 have aow:0<ts.length:=by
  cases ts with
  | nil=>simp[ax] at h
  | cons t r=>exact Nat.zero_lt_succ _
 have h0:=C7 (most:=(b:Int)) hr (sJ ts 0 0 aow) (by rw[aou];omega)
 obtain⟨k,hk⟩: ∃k,cU (df ts 0) (b:Int)=k+1:=⟨cU (df ts 0) (b:Int) - 1,by omega⟩
 have Ta:k<ts.length:=by omega
 refine⟨k,hk,Ta, ?_, ?_⟩
 ·by_cases q:pre ts k≤b
  ·exact q
  ·have:=So (most:=(b:Int)) hr (sJ ts 0 k Ta) (by omega)
   omega
 ·by_cases q:k+1<ts.length
  ·by_cases z:b≤pre ts (k+1)
   ·exact z
   ·have:=C7 (most:=(b:Int)) hr (sJ ts 0 (k+1) q) (by omega)
    omega
  ·rw[S8 (by omega)];omega
theorem aox{ts:List Str}{k c m:Nat}{t:Str}(h:ts[k]?=some t)(h1:pre ts k≤c)(h2:c≤pre ts (k+1)):(t.cps.toList.drop (c - pre ts k)).take m=((ax ts).drop c).take (min m (pre ts (k+1) - c)):=by
 rw[aos h]
 have hp:=S9 h
 have lt:=len_list t
 have e:(ax (ts.take k)++ (t.cps.toList++ax (ts.drop (k+1)))).drop c=t.cps.toList.drop (c - pre ts k)++ax (ts.drop (k+1)):=by
  rw[List.drop_append,List.drop_of_length_le (show(ax (ts.take k)).length≤c from h1),List.nil_append]
  show(t.cps.toList++_).drop (c - pre ts k)=_
  rw[List.drop_append_of_le_length (by omega)]
 rw[e]
 have hl:(t.cps.toList.drop (c - pre ts k)).length=pre ts (k+1) - c:=by rw[List.length_drop];omega
 rw[List.take_append_of_le_length (by rw[hl];omega),←hl,←List.take_take,List.take_length]
theorem aoy{l:List Nat}(b c m:Nat)(h:b≤c):(l.drop b).take (c - b)++ (l.drop c).take m=(l.drop b).take (c+m - b):=by
 rw[show c+m - b=(c - b)+m by omega,List.take_add,List.drop_drop,show b+ (c - b)=c by omega]
def aoz(vb vn:V)(n:Nat)(H:Hp):Prop:=Df vb 0 (n:Int) H∨ ∃b:Int,vb= .int b∧0≤b∧b≤ (n:Int)∧Df vn 0 ((n:Int) - b) H
def sL(CP C:Addr):Sp:=fun vs H Q E=> ∃(p dx lt lb lf:Addr) (ts:List Str) (vb vn:V),vs=[.ref p,vb,vn]∧b8 C H p dx lt lb lf ts∧((aoz vb vn (ax ts).length H∧E (.ref CP) none H)∨
 ∃b n:Nat,vb= .int (b:Nat)∧vn= .int (n:Nat)∧b+n≤ (ax ts).length∧ts.length≤100000∧(ax ts).length≤1000000∧(∀t∈ts,t.length≤1000000)∧ ∀H',aJ H H'→Q (.str ⟨(((ax ts).drop b).take n).toArray⟩) H')
abbrev qd:List (Str×Sp):=[("is_between",cL),("many_upto",oE)]
theorem aoA{K:Frag}{CP C:Addr}(T:pH K C)(vs:List V)(H:Hp)(Q:VK)(E:XK)(h:sL CP C vs H Q E):ar (aQ K qd [] (et:=[("NoPlace",CP)]) (E:=E)) AE (Dn Q) (start AD vs) H:=by
 obtain⟨p,dx,lt,lb,lf,ts,vb,vn,rfl,S,h⟩:=h
 have fs: ∀{H1:Hp} {σ:St} {Q':VK},aJ H H1→σ[0]?=some (some (.ref p))→Q' (.int (ax ts).length) H1→aj (aQ K qd [] (et:=[("NoPlace",CP)]) (E:=E)) (.fld (.v 0) "signs") σ H1 Q':=fun s e q=> ⟨_,e,p,C,dx,_,_,rfl,s _ _ S.ob,T.cl,T.vT,SR,q⟩
 have fb: ∀{H1:Hp} {σ:St} {Q':VK},aJ H H1→σ[0]?=some (some (.ref p))→Q' (.ref lb) H1→aj (aQ K qd [] (et:=[("NoPlace",CP)]) (E:=E)) (.fld (.v 0) "begins") σ H1 Q':=fun s e q=> ⟨_,e,p,C,dx,_,_,rfl,s _ _ S.ob,T.cl,T.vR,Dg,q⟩
 have ft: ∀{H1:Hp} {σ:St} {Q':VK},aJ H H1→σ[0]?=some (some (.ref p))→Q' (.ref lt) H1→aj (aQ K qd [] (et:=[("NoPlace",CP)]) (E:=E)) (.fld (.v 0) "texts") σ H1 Q':=fun s e q=> ⟨_,e,p,C,dx,_,_,rfl,s _ _ S.ob,T.cl,T.rX,wq,q⟩
 have rz:=aJ.refl H
 rcases h with⟨hb | ⟨b,rfl,h1,h2,hb⟩,q⟩ | ⟨b,n,rfl,rfl,hbn,htl,hsl,hts,q⟩
 ·refine bF (kD (dg (fm cL rfl (ao (ag rfl (ao (au (ao (fs rz rfl (aH ⟨_,_,_,rfl, .inr ⟨hb,dD (iT (iT ?_ rfl) rfl)⟩⟩))))))))))
  exact⟨(by show 1≤sizeLine;decide),q⟩
 ·refine bF (kD (dg (fm cL rfl (ao (ag rfl (ao (au (ao (fs rz rfl (aH ⟨_,_,_,rfl, .inl ⟨b,rfl,h1,h2,dD (iF ?_ rfl)⟩⟩))))))))))
  refine dg (fm cL rfl (ao (ag rfl (ao (au (ao (aK (fs rz rfl (ag rfl ⟨trivial,aH ⟨_,_,_,rfl, .inr ⟨hb,dD (iT ?_ rfl)⟩⟩⟩)))))))))
  exact⟨(by show 1≤sizeLine;decide),q⟩
 ·refine bF (kD (dg (fm cL rfl (ao (ag rfl (ao (au (ao (fs rz rfl (aH ⟨_,_,_,rfl, .inl ⟨_,rfl,by omega,by omega,dD (iF ?_ rfl)⟩⟩))))))))))
  refine dg (fm cL rfl (ao (ag rfl (ao (au (ao (aK (fs rz rfl (ag rfl ⟨trivial,aH ⟨_,_,_,rfl, .inl ⟨_,rfl,by omega,by omega,dD (iF ?_ rfl)⟩⟩⟩)))))))))
  refine aV (gc (aH ⟨zqZ _,fun d hd=> ?_⟩))
  have s1:=sameNew (o:= .lst []) hd
  refine aV (aK (bx oE rfl (ao (fb s1 rfl (ao (ag rfl (aH ⟨lb,df ts 0,_,rfl,s1 _ _ S.bg,Dm ts 0,au ⟨trivial, ?_⟩⟩)))))))
  refine aV (aK (ag rfl (ag rfl (bM ?_))))
  have kA:upd H d (.lst []) d=some (.lst (([]:List Str).map V.str)):=aU
  refine oJ (fun m σ H2=> ∃(c:Nat) (k:Int) (ps:List Str) (u6 u7:Option V),m=ts.length+1 - k.toNat∧σ=[some (.ref p),some (.int (c:Nat)),some (.int (n:Nat)),some (.ref d),some (.int k),some (.int ((b:Int)+ (n:Int))),u6,u7]∧dv d H H2∧H2 d=some (.lst (ps.map V.str))∧b≤c∧c≤b+n∧(cat ps).cps.toList=((ax ts).drop b).take (c - b)∧ps.length≤k.toNat+1∧
    (c<b+n→ ∃j:Nat,k=(j:Int)∧j<ts.length∧pre ts j≤c∧c≤pre ts (j+1)))
   ⟨_,b,((cU (df ts 0) (b:Int):Nat):Int) - 1,[],none,none,rfl,rfl,fun x o e nx=>by rw[a_ nx];exact e,kA,zqR _,by omega,by rw[anH,Nat.sub_self,List.take_zero];rfl,zqZ _,fun bC=> ?_⟩ ?_
  ·obtain⟨j,e,h1,h2,h3⟩:=aov (ts:=ts) (b:=b) (by omega)
   exact⟨j,by omega,h1,h2,h3⟩
  rintro m σ H2 ⟨c,k,ps,u6,u7,rfl,rfl,b2,hd2,hbc,hcn,de,gZ,pA⟩
  refine bA (ag rfl (ag rfl (aoq ⟨_,rfl, ?_⟩)))
  refine d6 (fun bC=> ?_) (fun bC=> ?_)
  ·have sM:c<b+n:=by have:=of_decide_eq_true bC;omega
   obtain⟨j,rfl,jJ,vD,Dp⟩:=pA sM
   clear pA
   have nd: ∀{a:Addr} {o:HO},H a=some o→H2 a=some o:=fun {a o} e=>b2 a o e (fun z=>by rw[z,hd] at e;cases e)
   have tj:ts[j]?=some ts[j]:=List.getElem?_eq_getElem jJ
   have fb2: ∀{σ:St} {Q':VK},σ[0]?=some (some (.ref p))→Q' (.ref lb) H2→aj (aQ K qd [] (et:=[("NoPlace",CP)]) (E:=E)) (.fld (.v 0) "begins") σ H2 Q':=fun e q=> ⟨_,e,p,C,dx,_,_,rfl,nd S.ob,T.cl,T.vR,Dg,q⟩
   have ft2: ∀{σ:St} {Q':VK},σ[0]?=some (some (.ref p))→Q' (.ref lt) H2→aj (aQ K qd [] (et:=[("NoPlace",CP)]) (E:=E)) (.fld (.v 0) "texts") σ H2 Q':=fun e q=> ⟨_,e,p,C,dx,_,_,rfl,nd S.ob,T.cl,T.rX,wq,q⟩
   have ab:dP ((df ts 0).map V.int) (j:Int)=some (.int (pre ts j:Nat)):=jj (by rw[List.getElem?_map,sJ ts 0 j jJ,Nat.zero_add];rfl)
   have at':dP (ts.map V.str) (j:Int)=some (.str ts[j]):=jj (by rw[List.getElem?_map,tj];rfl)
   have tle:=hts _ (List.getElem_mem jJ)
   refine⟨_,fun σ' SK q=>q, ?_⟩
   refine aV (aK (ag rfl (ba (fb2 rfl (ag rfl (eo (nd S.bg) ab ⟨trivial, ?_⟩))))))
   refine aV ?_
   refine⟨_,rfl,p,C,dx,_,_,rfl,nd S.ob,T.cl,T.rX,wq,_,rfl,eo (nd S.tx) at' ?_⟩
   refine⟨_,rfl,_,rfl,_,rfl,_,rfl,_,rfl,trivial,_,rfl,bW tle, ?_⟩
   have ec:g6 ts[j] (some ((c:Int) - (pre ts j:Nat))) (some ((c:Int) - (pre ts j:Nat)+ ((b:Int)+ (n:Int)) - (c:Int)))=⟨((ax ts).drop c).take (min (b+n - c) (pre ts (j+1) - c)) |>.toArray⟩:=by
    rw[show(c:Int) - (pre ts j:Nat)=((c - pre ts j:Nat):Int) by omega,show((c - pre ts j:Nat):Int)+ ((b:Int)+ (n:Int)) - (c:Int)=((c - pre ts j:Nat):Int)+ ((b+n - c:Nat):Int) by omega,aof (c - pre ts j) ((b+n - c:Nat):Int) (b+n - c) rfl,aox tj vD Dp]
   rw[ec]
   have hpz:=aot ts (j+1)
   have lz:(⟨(((ax ts).drop c).take (min (b+n - c) (pre ts (j+1) - c))).toArray⟩:Str).length=min (b+n - c) (pre ts (j+1) - c):=by
    rw[len_list]
    show(((ax ts).drop c).take _).length=_
    rw[List.length_take,List.length_drop];omega
   generalize hz:(⟨(((ax ts).drop c).take (min (b+n - c) (pre ts (j+1) - c))).toArray⟩:Str)=z at lz⊢
   refine oI (jI (ag rfl ⟨.inl ⟨rfl,_,aM.of hd2⟩,ag rfl ⟨_,hd2,jG (by rw[List.length_map];omega), ?_⟩⟩))
   refine aV (aK (ag rfl (eA (ao (ag rfl (aH ⟨bW (by omega),bM ?_⟩))))))
   refine aV (aK (ag rfl (au (bM ?_))))
   refine⟨_, ?_,c+z.length,((j:Int)+1),ps++ [z],some (.int ((c:Int) - (pre ts j:Nat))),some (.str z),rfl, ?_,b2.trans dv.upd, ?_,by omega,by omega, ?_, ?_, ?_⟩
   ·omega
   ·show[_,some (V.int ((c:Int)+ (z.length:Int))),_,_,_,_,_,_]=_
    rw[Int.natCast_add]
   ·rw[aU,List.map_append];rfl
   ·rw[aor,de,←hz]
    show _++ ((ax ts).drop c).take _=_
    rw[aoy b c _ hbc,hz,lz]
   ·rw[zqA];show ps.length+1≤_;omega
   ·intro uV
    have e3:c+z.length=pre ts (j+1):=by omega
    have Tb:j+1<ts.length:=by
     by_cases q:j+1<ts.length
     ·exact q
     ·have:=S8 (ts:=ts) (k:=j+1) (by omega)
      omega
    have wy:=S9 (List.getElem?_eq_getElem Tb)
    exact⟨j+1,by omega,Tb,by omega,by omega⟩
  ·have sM:c=b+n:=by
    have: ¬((c:Int) < (b:Int)+ (n:Int)):=fun z=>bC (zqT z)
    omega
   subst sM
   rw[show b+n - b=n by omega] at de
   have lc:(cat ps).length≤1000000:=by rw[len_list,de,List.length_take,List.length_drop];omega
   refine bD (jI (au ⟨rfl,ag rfl ⟨ps,aM.of hd2,joinOk_of (by rw[←Sx];exact lc), ?_⟩⟩))
   have es:Txt.join "" ps=⟨(((ax ts).drop b).take n).toArray⟩:=h_ de
   rw[es]
   exact q H2 fun a o e=>b2 a o e (fun z=>by rw[z,hd] at e;cases e)
end L2.B
namespace L2.N
open PySem PySem.Spec PyProof.Rows L2.B
abbrev tp(p:P3):HO:= .tup [.int p.1, .int p.2.1, .int p.2.2]
def Pc(H:Hp)(v:V)(p:P3):Prop:= ∃q,v= .ref q∧H q=some (tp p)
abbrev ib(H:Hp):List V→List P3→Prop:=Paired (Pc H)
theorem Pc.mono{H H':Hp}{v:V}{p:P3}(t:kr H H')(h:Pc H v p):Pc H' v p:=by
 obtain⟨a,e,h⟩:=h
 exact⟨a,e,t _ _ h⟩
theorem ib.mono{H H':Hp}(t:kr H H'): ∀{vs:List V} {ps:List P3},ib H vs ps→ib H' vs ps
 | _,_, .nil=> .nil
 | _,_, .cons h r=> .cons (h.mono t) (ib.mono t r)
theorem ib.app{H:Hp}: ∀{vs ws:List V} {ps qs:List P3},ib H vs ps→ib H ws qs→ib H (vs++ws) (ps++qs)
 | _,_,_,_, .nil,b=>b
 | _,_,_,_, .cons h r,b=> .cons h (ib.app r b)
def Nd(H:Hp):Tr→V→Prop
 | .nil,v=>v= .az
 | .node l a b c r,v=> ∃p q vl vr,v= .ref p∧H p=some (.tup [vl, .ref q,vr, .int (Tr.node l a b c r).h, .int (Tr.node l a b c r).sz, .int (Tr.node l a b c r).en])∧H q=some (tp (a,b,c))∧Nd H l vl∧Nd H r vr
theorem Nd.mono{H H':Hp}(t:kr H H'): ∀{x:Tr} {v:V},Nd H x v→Nd H' x v
 | .nil,_,h=>h
 | .node l a b c r,_,⟨p,q,vl,vr,e,h1,h2,h3,h4⟩=> ⟨p,q,vl,vr,e,t _ _ h1,t _ _ h2,h3.mono t,h4.mono t⟩
def ic:Sp:=fun vs H Q E=> ∃v t,vs=[v]∧Nd H t v∧Q (.int t.h) H
def eO:Sp:=fun vs H Q E=> ∃v t,vs=[v]∧Nd H t v∧Q (.int t.sz) H
def e7:Sp:=fun vs H Q E=> ∃v t,vs=[v]∧Nd H t v∧Q (.int t.en) H
theorem aoF{K:Frag}(vs:List V)(H:Hp)(Q:VK)(E:XK)(h:ic vs H Q E):ar (aQ K [] [] (E:=E)) AG {nx:=fun _ H'=>Q .az H',rt:=Q} (start AF vs) H:=by
 obtain⟨v,t,rfl,hn,q⟩:=h
 refine⟨_,rfl,rfl,_,rfl, ?_⟩
 cases t with
 | nil=>cases hn;exact iT q
 | node l a b c r=>
  obtain⟨p,qq,vl,vr,rfl,h1, -⟩:=hn
  exact iF ⟨_,rfl,aF h1 rfl q⟩
theorem aoG{K:Frag}(vs:List V)(H:Hp)(Q:VK)(E:XK)(h:eO vs H Q E):ar (aQ K [] [] (E:=E)) AI {nx:=fun _ H'=>Q .az H',rt:=Q} (start AH vs) H:=by
 obtain⟨v,t,rfl,hn,q⟩:=h
 refine⟨_,rfl,rfl,_,rfl, ?_⟩
 cases t with
 | nil=>cases hn;exact iT q
 | node l a b c r=>
  obtain⟨p,qq,vl,vr,rfl,h1, -⟩:=hn
  exact iF ⟨_,rfl,aF h1 rfl q⟩
theorem aoH{K:Frag}(vs:List V)(H:Hp)(Q:VK)(E:XK)(h:e7 vs H Q E):ar (aQ K [] [] (E:=E)) AK {nx:=fun _ H'=>Q .az H',rt:=Q} (start AJ vs) H:=by
 obtain⟨v,t,rfl,hn,q⟩:=h
 refine⟨_,rfl,rfl,_,rfl, ?_⟩
 cases t with
 | nil=>cases hn;exact iT q
 | node l a b c r=>
  obtain⟨p,qq,vl,vr,rfl,h1, -⟩:=hn
  exact iF ⟨_,rfl,aF h1 rfl q⟩
abbrev aoI:List (Str×Sp):=[("height_of",ic),("size_of",eO),("ends_of",e7)]
def jK:Sp:=fun vs H Q E=> ∃vl q vr l r a b c,vs=[vl, .ref q,vr]∧Nd H l vl∧Nd H r vr∧H q=some (tp (a,b,c))∧ ∀v H',aJ H H'→Nd H' (.node l a b c r) v→Q v H'
theorem aoJ{K:Frag}(vs:List V)(H:Hp)(Q:VK)(E:XK)(h:jK vs H Q E):ar (aQ K aoI [] (E:=E)) AM {nx:=fun _ H'=>Q .az H',rt:=Q} (start AL vs) H:=by
 obtain⟨vl,q,vr,l,r,a,b,c,rfl,hl,hr,hq,k⟩:=h
 refine⟨_,rfl,vl,l,rfl,hl,_,rfl,vr,r,rfl,hr, ?_⟩
 refine⟨_,rfl,vl,l,rfl,hl,_,rfl,aF hq rfl ⟨_,rfl,vr,r,rfl,hr, ?_⟩⟩
 refine⟨_,rfl,_,rfl,_,rfl,_,rfl,_,rfl,_,rfl,vl,l,rfl,hl,_,rfl,aF hq rfl ⟨_,rfl,vr,r,rfl,hr,(by show 6≤sizeLine;decide),fun t ht=> ?_⟩⟩
 have s:=sameNew (o:= .tup [vl, .ref q,vr, .int (1+ (if r.h>l.h then r.h else l.h)), .int (l.sz+b+r.sz), .int (l.en+c+r.en)]) ht
 exact k _ _ s ⟨t,q,vl,vr,rfl,aU,s _ _ hq,hl.mono (bK s),hr.mono (bK s)⟩
abbrev Tc:List (Str×Sp):=[("height_of",ic),("made",jK)]
def wz:Sp:=fun vs H Q E=> ∃vl q vr l r a b c,vs=[vl, .ref q,vr]∧Nd H l vl∧Nd H r vr∧H q=some (tp (a,b,c))∧l.ok∧r.ok∧l.h=r.h+2∧ ∀v H' t,aJ H H'→Nd H' t v→Tr.iX l a b c r t→Q v H'
def wA:Sp:=fun vs H Q E=> ∃vl q vr l r a b c,vs=[vl, .ref q,vr]∧Nd H l vl∧Nd H r vr∧H q=some (tp (a,b,c))∧l.ok∧r.ok∧r.h=l.h+2∧ ∀v H' t,aJ H H'→Nd H' t v→Tr.iX l a b c r t→Q v H'
theorem aoK{K:Frag}(vs:List V)(H:Hp)(Q:VK)(E:XK)(h:wz vs H Q E):ar (aQ K Tc [] (E:=E)) AO {nx:=fun _ H'=>Q .az H',rt:=Q} (start AN vs) H:=by
 obtain⟨vl,q,vr,l,r,a',b',c',rfl,hl,hr,hq,o1,o2,hh,k⟩:=h
 have r0:=Tr.h0 r
 obtain⟨ll,a,b,c,lr,rfl⟩:=Tr.pQ (t:=l) (by omega)
 obtain⟨p,ql,oN,qe,rfl,hp,oO,oP,h9⟩:=hl
 refine⟨_,rfl,aF hp rfl ?_⟩
 refine⟨_,rfl,aF hp rfl ⟨oN,ll,rfl,oP,_,rfl,qe,lr,rfl,h9,trivial,_,rfl, ?_⟩⟩
 refine d6 (fun h=> ?_) (fun h=> ?_)
 ·have oB:lr.h≤ll.h:=of_decide_eq_true h
  refine⟨_,rfl,aF hp rfl ⟨_,rfl,aF hp rfl ⟨_,rfl,_,rfl,_,rfl,qe,q,vr,lr,r,a',b',c',rfl,h9,hr,hq,fun v H1 s1 n1=> ?_⟩⟩⟩
  refine⟨oN,ql,v,ll,_,a,b,c,rfl,oP.mono (bK s1),n1,s1 _ _ oO,fun v2 H2 s2 n2=> ?_⟩
  exact k _ _ _ (s1.trans s2) n2 (Tr.anc o1 o2 hh oB)
 ·have bC:ll.h<lr.h:=by
   have: ¬lr.h≤ll.h:=fun z=>h (zqT z)
   omega
  have l0:=Tr.h0 ll
  obtain⟨il,x,y,z,ir,rfl⟩:=Tr.pQ (t:=lr) (by omega)
  obtain⟨pi,qi,Dq,Dr,rfl,oQ,Ds,Dt,Du⟩:=h9
  refine⟨_,rfl,aF hp rfl ⟨_,rfl,aF hp rfl ⟨_,rfl,aF oQ rfl ⟨oN,ql,Dq,ll,il,a,b,c,rfl,oP,Dt,oO,fun v H1 s1 n1=> ?_⟩⟩⟩⟩
  refine⟨_,rfl,aF (s1 _ _ oQ) rfl ⟨_,rfl,aF (s1 _ _ oQ) rfl ⟨_,rfl,_,rfl,Dr,q,vr,ir,r,a',b',c',rfl,Du.mono (bK s1),hr.mono (bK s1),s1 _ _ hq,fun v2 H2 s2 n2=> ?_⟩⟩⟩
  refine⟨v,qi,v2,_,_,x,y,z,rfl,n1.mono (bK s2),n2,s2 _ _ (s1 _ _ Ds),fun v3 H3 s3 n3=> ?_⟩
  exact k _ _ _ (s1.trans (s2.trans s3)) n3 (Tr.ane o1 o2 hh bC)
theorem aoL{K:Frag}(vs:List V)(H:Hp)(Q:VK)(E:XK)(h:wA vs H Q E):ar (aQ K Tc [] (E:=E)) AR {nx:=fun _ H'=>Q .az H',rt:=Q} (start AQ vs) H:=by
 obtain⟨vl,q,vr,l,r,a,b,c,rfl,hl,hr,hq,o1,o2,hh,k⟩:=h
 have r0:=Tr.h0 l
 obtain⟨rl,a',b',c',rr,rfl⟩:=Tr.pQ (t:=r) (by omega)
 obtain⟨p,qr,qf,oR,rfl,hp,wB,i5,oS⟩:=hr
 refine⟨_,rfl,aF hp rfl ?_⟩
 refine⟨_,rfl,aF hp rfl ⟨oR,rr,rfl,oS,_,rfl,qf,rl,rfl,i5,trivial,_,rfl, ?_⟩⟩
 refine d6 (fun h=> ?_) (fun h=> ?_)
 ·have oB:rl.h≤rr.h:=of_decide_eq_true h
  refine⟨_,rfl,_,rfl,_,rfl,vl,q,qf,l,rl,a,b,c,rfl,hl,i5,hq,fun v H1 s1 n1=> ?_⟩
  refine⟨_,rfl,aF (s1 _ _ hp) rfl ⟨_,rfl,aF (s1 _ _ hp) rfl ⟨v,qr,oR,_,rr,a',b',c',rfl,n1,oS.mono (bK s1),s1 _ _ wB,fun v2 H2 s2 n2=> ?_⟩⟩⟩
  exact k _ _ _ (s1.trans s2) n2 (Tr.anf o1 o2 hh oB)
 ·have bC:rr.h<rl.h:=by
   have: ¬rl.h≤rr.h:=fun z=>h (zqT z)
   omega
  have l0:=Tr.h0 rr
  obtain⟨il,x,y,z,ir,rfl⟩:=Tr.pQ (t:=rl) (by omega)
  obtain⟨pi,qi,Dq,Dr,rfl,oQ,Ds,Dt,Du⟩:=i5
  refine⟨_,rfl,_,rfl,_,rfl,aF oQ rfl ⟨vl,q,Dq,l,il,a,b,c,rfl,hl,Dt,hq,fun v H1 s1 n1=> ?_⟩⟩
  refine⟨_,rfl,aF (s1 _ _ oQ) rfl ⟨_,rfl,aF (s1 _ _ oQ) rfl ⟨_,rfl,aF (s1 _ _ hp) rfl ⟨_,rfl,aF (s1 _ _ hp) rfl ⟨Dr,qr,oR,ir,rr,a',b',c',rfl,Du.mono (bK s1),oS.mono (bK s1),s1 _ _ wB,fun v2 H2 s2 n2=> ?_⟩⟩⟩⟩⟩
  refine⟨v,qi,v2,_,_,x,y,z,rfl,n1.mono (bK s2),n2,s2 _ _ (s1 _ _ Ds),fun v3 H3 s3 n3=> ?_⟩
  exact k _ _ _ (s1.trans (s2.trans s3)) n3 (Tr.ang o1 o2 hh bC)
abbrev aoM:List (Str×Sp):=[("height_of",ic),("turned_right",wz),("turned_left",wA),("made",jK)]
def wC:Sp:=fun vs H Q E=> ∃vl q vr l r a b c,vs=[vl, .ref q,vr]∧Nd H l vl∧Nd H r vr∧H q=some (tp (a,b,c))∧l.ok∧r.ok∧l.h≤r.h+2∧r.h≤l.h+2∧ ∀v H' t,aJ H H'→Nd H' t v→Tr.iX l a b c r t→Q v H'
theorem aoN{K:Frag}(vs:List V)(H:Hp)(Q:VK)(E:XK)(h:wC vs H Q E):ar (aQ K aoM [] (E:=E)) AU {nx:=fun _ H'=>Q .az H',rt:=Q} (start AS vs) H:=by
 obtain⟨vl,q,vr,l,r,a,b,c,rfl,hl,hr,hq,o1,o2,hh1,hh2,k⟩:=h
 refine⟨_,rfl,vl,l,rfl,hl,_,rfl,vr,r,rfl,hr,trivial,_,rfl, ?_⟩
 refine d6 (fun h=> ?_) (fun h=> ?_)
 ·have g:r.h+1<l.h:=of_decide_eq_true h
  exact⟨_,rfl,_,rfl,_,rfl,vl,q,vr,l,r,a,b,c,rfl,hl,hr,hq,o1,o2,by omega,k⟩
 ·have g: ¬r.h+1<l.h:=fun z=>h (zqT z)
  refine⟨_,rfl,vr,r,rfl,hr,_,rfl,vl,l,rfl,hl,trivial,_,rfl, ?_⟩
  refine d6 (fun h=> ?_) (fun h=> ?_)
  ·have g2:l.h+1<r.h:=of_decide_eq_true h
   exact⟨_,rfl,_,rfl,_,rfl,vl,q,vr,l,r,a,b,c,rfl,hl,hr,hq,o1,o2,by omega,k⟩
  ·have g2: ¬l.h+1<r.h:=fun z=>h (zqT z)
   exact⟨_,rfl,_,rfl,_,rfl,vl,q,vr,l,r,a,b,c,rfl,hl,hr,hq,fun v H' s n=>k _ _ _ s n (Tr.Sh o1 o2 (by omega) (by omega))⟩
def dS(n:Nat):Sp:=fun vs H Q E=> ∃vl q vr l r a b c,vs=[vl, .ref q,vr]∧Nd H l vl∧Nd H r vr∧H q=some (tp (a,b,c))∧l.ok∧r.ok∧l.h+r.h<n∧ ∀v H' t,aJ H H'→Nd H' t v→Tr.Jn l a b c r t→Q v H'
theorem aoP(vs:List V)(H:Hp)(Q:VK)(E:XK): ¬dS 0 vs H Q E:=by
 rintro⟨vl,q,vr,l,r,a,b,c, -, -, -, -, -, -,h, -⟩
 have:=Tr.h0 l
 have:=Tr.h0 r
 omega
abbrev aoQ(n:Nat):List (Str×Sp):=[("height_of",ic),("leveled",wC),("joined",dS n),("made",jK)]
theorem aoR{K:Frag}(n:Nat)(vs:List V)(H:Hp)(Q:VK)(E:XK)(h:dS (n+1) vs H Q E):ar (aQ K (aoQ n) [] (E:=E)) AW {nx:=fun _ H'=>Q .az H',rt:=Q} (start AV vs) H:=by
 obtain⟨vl,q,vr,l,r,a,b,c,rfl,hl,hr,hq,o1,o2,hh,k⟩:=h
 have r0:=Tr.h0 r
 have l0:=Tr.h0 l
 refine⟨_,rfl,vl,l,rfl,hl,_,rfl,vr,r,rfl,hr,trivial,_,rfl, ?_⟩
 refine d6 (fun h=> ?_) (fun h=> ?_)
 ·have g:r.h+1<l.h:=of_decide_eq_true h
  obtain⟨ll,a1,b1,c1,lr,rfl⟩:=Tr.pQ (t:=l) (by omega)
  obtain⟨p,ql,oN,qe,rfl,hp,oO,oP,h9⟩:=hl
  have e1:=Tr.cK ll a1 b1 c1 lr
  have bC:lr.h+r.h<n:=by
   have:lr.h< (Tr.node ll a1 b1 c1 lr).h:=by rw[e1];split<;>omega
   omega
  refine⟨_,rfl,aF hp rfl ⟨_,rfl,aF hp rfl ⟨_,rfl,aF hp rfl ⟨_,rfl,_,rfl,qe,q,vr,lr,r,a,b,c,rfl,h9,hr,hq,o1.2.1,o2,bC,fun v H1 t s1 n1 J=> ?_⟩⟩⟩⟩
  obtain⟨g1,g2⟩:=Tr.ank o1 g J
  refine⟨oN,ql,v,ll,t,a1,b1,c1,rfl,oP.mono (bK s1),n1,s1 _ _ oO,o1.1,J.ok,g1,g2,fun v2 H2 t2 s2 n2 L=> ?_⟩
  exact k _ _ _ (s1.trans s2) n2 (Tr.ani o1 g J L)
 ·have g: ¬r.h+1<l.h:=fun z=>h (zqT z)
  refine⟨_,rfl,vr,r,rfl,hr,_,rfl,vl,l,rfl,hl,trivial,_,rfl, ?_⟩
  refine d6 (fun h=> ?_) (fun h=> ?_)
  ·have g2:l.h+1<r.h:=of_decide_eq_true h
   obtain⟨rl,a1,b1,c1,rr,rfl⟩:=Tr.pQ (t:=r) (by omega)
   obtain⟨p,qr,qf,oR,rfl,hp,wB,i5,oS⟩:=hr
   have e1:=Tr.cK rl a1 b1 c1 rr
   have bC:l.h+rl.h<n:=by
    have:rl.h< (Tr.node rl a1 b1 c1 rr).h:=by rw[e1];split<;>omega
    omega
   refine⟨_,rfl,_,rfl,_,rfl,aF hp rfl ⟨vl,q,qf,l,rl,a,b,c,rfl,hl,i5,hq,o1,o2.1,bC,fun v H1 t s1 n1 J=> ?_⟩⟩
   obtain⟨k1,k2⟩:=Tr.anl o2 g2 J
   refine⟨_,rfl,aF (s1 _ _ hp) rfl ⟨_,rfl,aF (s1 _ _ hp) rfl ⟨v,qr,oR,t,rr,a1,b1,c1,rfl,n1,oS.mono (bK s1),s1 _ _ wB,J.ok,o2.2.1,k1,k2,fun v2 H2 t2 s2 n2 L=> ?_⟩⟩⟩
   exact k _ _ _ (s1.trans s2) n2 (Tr.anj o2 g2 J L)
  ·have g2: ¬l.h+1<r.h:=fun z=>h (zqT z)
   exact⟨_,rfl,_,rfl,_,rfl,vl,q,vr,l,r,a,b,c,rfl,hl,hr,hq,fun v H' s n=>k _ _ _ s n (Tr.anh o1 o2 (by omega) (by omega))⟩
def kE(n:Nat):Sp:=fun vs H Q E=> ∃v l a b c r,vs=[v]∧Nd H (.node l a b c r) v∧(Tr.node l a b c r).ok∧(Tr.node l a b c r).h<n∧(Tr.node l a b c r).h≤30∧
 ∀w H' q vt t a' b' c',aJ H H'→H' w=some (.tup [vt, .ref q])→Nd H' t vt→H' q=some (tp (a',b',c'))→t.ok→(Tr.node l a b c r).av=t.av++ [(a',b',c')]→t.h≤ (Tr.node l a b c r).h→Q (.ref w) H'
theorem aoS(vs:List V)(H:Hp)(Q:VK)(E:XK): ¬kE 0 vs H Q E:=by
 rintro⟨v,l,a,b,c,r, -, -, -,h, -⟩
 have:=Tr.h0 (.node l a b c r)
 omega
abbrev aoT(n:Nat):List (Str×Sp):=[("last_out",kE n),("joined",dS 64)]
theorem aoU{K:Frag}(n:Nat)(vs:List V)(H:Hp)(Q:VK)(E:XK)(h:kE (n+1) vs H Q E):ar (aQ K (aoT n) [] (E:=E)) AY {nx:=fun _ H'=>Q .az H',rt:=Q} (start AX vs) H:=by
 obtain⟨v,l,a,b,c,r,rfl,⟨p,q,vl,vr,rfl,hp,hq,hl,hr⟩,ho,hh,h30,k⟩:=h
 have e1:=Tr.cK l a b c r
 have l0:=Tr.h0 l
 refine⟨_,rfl,aF hp rfl ⟨rfl,_,rfl, ?_⟩⟩
 cases r with
 | nil=>
  cases hr
  refine iT ⟨_,rfl,aF hp rfl ⟨_,rfl,aF hp rfl ⟨(by show 2≤sizeLine;decide),fun w hw=> ?_⟩⟩⟩
  have s:=sameNew (o:= .tup [vl, .ref q]) hw
  exact k w _ q vl l a b c s aU (hl.mono (bK s)) (s _ _ hq) ho.1 rfl (by rw[e1];split<;>omega)
 | node rl a1 b1 c1 rr=>
  obtain⟨p2,q2,qf,oR,rfl,wy,gw,i5,oS⟩:=hr
  have bC:(Tr.node rl a1 b1 c1 rr).h< (Tr.node l a b c (.node rl a1 b1 c1 rr)).h:=by rw[e1];split<;>omega
  have hle:l.h< (Tr.node l a b c (.node rl a1 b1 c1 rr)).h:=by rw[e1];split<;>omega
  refine iF ⟨_,rfl,aF hp rfl ⟨.ref p2,rl,a1,b1,c1,rr,rfl,⟨p2,q2,qf,oR,rfl,wy,gw,i5,oS⟩,ho.2.1,by omega,by omega,fun w H1 q3 vt t a2 b2 c2 s1 hw ht Dv to Dw th=> ?_⟩⟩
  refine⟨_,rfl,aF (s1 _ _ hp) rfl ⟨_,rfl,aF (s1 _ _ hp) rfl ⟨_,rfl,aF hw rfl ⟨vl,q,vt,l,t,a,b,c,rfl,hl.mono (bK s1),ht,s1 _ _ hq,ho.1,to,(by show l.h+t.h< (64:Nat);omega),fun v2 H2 t2 s2 n2 J=> ?_⟩⟩⟩⟩
  refine⟨_,rfl,aF (s2 _ _ hw) rfl ⟨(by show 2≤sizeLine;decide),fun w2 kH=> ?_⟩⟩
  have s3:=sameNew (o:= .tup [v2, .ref q3]) kH
  have jh:=J.hi
  refine k w2 _ q3 v2 t2 a2 b2 c2 (s1.trans (s2.trans s3)) aU (n2.mono (bK s3)) (s3 _ _ (s2 _ _ Dv)) J.ok ?_ ?_
  ·rw[J.av,Tr.av,Dw];simp
  ·have:=J.hi;omega
def jL(n:Nat):Sp:=fun vs H Q E=> ∃v t,vs=[v]∧Nd H t v∧t.h<n∧t.av.length≤1000∧ ∀w H' xs,aJ H H'→H w=none→H' w=some (.lst xs)→ib H' xs t.av→Q (.ref w) H'
theorem aoW(vs:List V)(H:Hp)(Q:VK)(E:XK): ¬jL 0 vs H Q E:=by
 rintro⟨v,t, -, -,h, -⟩
 have:=Tr.h0 t
 omega
theorem Td{l r:Tr}{a b c:Int}{n:Nat}(h:(Tr.node l a b c r).av.length≤n):l.av.length+r.av.length+1≤n:=by
 simp only[Tr.av,zqA,List.length_cons] at h;omega
theorem Te(l r:Tr)(a b c:Int):l.h< (Tr.node l a b c r).h∧r.h< (Tr.node l a b c r).h:=by
 rw[Tr.cK];split<;>omega
theorem aoX{K:Frag}(n:Nat)(vs:List V)(H:Hp)(Q:VK)(E:XK)(h:jL (n+1) vs H Q E):ar (aQ K [("pieces_of",jL n)] [] (E:=E)) Bb {nx:=fun _ H'=>Q .az H',rt:=Q} (start Ba vs) H:=by
 obtain⟨v,t,rfl,hn,hh,hl,k⟩:=h
 refine⟨_,rfl,rfl,_,rfl, ?_⟩
 cases t with
 | nil=>
  cases hn
  exact iT ⟨zqZ _,fun w hw=>k w _ [] (sameNew hw) hw aU .nil⟩
 | node l a b c r=>
  obtain⟨p,q,vl,vr,rfl,hp,hq,i6,sN⟩:=hn
  have e1:=Td hl
  obtain⟨e2,e3⟩:=Te l r a b c
  refine iF ⟨_,rfl,aF hp rfl ⟨vl,l,rfl,i6,by omega,by omega,fun w H1 xs s1 fw hw px=> ?_⟩⟩
  have lx:=Paired.length px
  refine⟨_,rfl, .inl ⟨rfl,_,aM.of hw⟩,_,rfl,aF (s1 _ _ hp) rfl ⟨_,hw,jG (by omega), ?_⟩⟩
  have b1:dv w H1 (upd H1 w (.lst (xs++ [V.ref q]))):=dv.upd
  have s2:aJ H (upd H1 w (.lst (xs++ [V.ref q]))):=ku s1 fw b1
  have t1:=b1.cY hw
  generalize hH2:upd H1 w (.lst (xs++ [V.ref q]))=H2 at s2 t1
  have Dx:H2 w=some (.lst (xs++ [V.ref q])):=by rw[←hH2,aU]
  refine⟨_,rfl, .inl ⟨rfl,_,aM.of Dx⟩,_,rfl,aF (s2 _ _ hp) rfl ⟨vr,r,rfl,sN.mono (bK s2),by omega,by omega,fun w2 H3 ys s3 qg kH py=> ?_⟩⟩
  have ly:=Paired.length py
  refine⟨_,_,s3 _ _ Dx,kH,bW (by simp;omega), ?_⟩
  have b3:dv w H3 (upd H3 w (.lst (xs++ [V.ref q]++ys))):=dv.upd
  have t3:=b3.cY (s3 _ _ Dx)
  refine⟨_,rfl,k w _ (xs++ [V.ref q]++ys) (ku (s2.trans s3) fw b3) fw aU ?_⟩
  have e:(Tr.node l a b c r).av=l.av++ [(a,b,c)]++r.av:=by simp[Tr.av]
  rw[e]
  refine((((px.mono t1).mono (bK s3)).app (.cons ⟨q,rfl,s3 _ _ (t1 _ _ (s1 _ _ hq))⟩ .nil)).app py).mono t3
def ends(ts:List Str)(n:Int):Int:=(((ax ts).take n.toNat).count 10:Nat)
def ie(C:Addr):Sp:=fun vs H Q E=> ∃(p dx lt lb lf:Addr) (ts:List Str) (n:Int),vs=[.ref p, .int n]∧b8 C H p dx lt lb lf ts∧0≤n∧Q (.int (ends ts n)) H
theorem aoZ{K:Frag}{C:Addr}(T:pH K C)(vs:List V)(H:Hp)(Q:VK)(E:XK)(h:ie C vs H Q E):ar (aQ K [("many_upto",oE)] [] (E:=E)) Bd {nx:=fun _ H'=>Q .az H',rt:=Q} (start Bc vs) H:=by
 obtain⟨p,dx,lt,lb,lf,ts,n,rfl,S,hn,q⟩:=h
 refine⟨_,rfl,p,C,dx,_,_,rfl,S.ob,T.cl,T.vS,Dh,_,rfl,trivial,lf,_,_,rfl,S.fd,anm _ _, ?_⟩
 obtain⟨m,rfl⟩:=Int.eq_ofNat_of_zero_le hn
 rw[ano]
 exact q
abbrev ao0(C:Addr):List (Str×Addr×Sp):=[("ends_ahead",C,ie C)]
theorem Tf{lt lb lf:Addr}{n:Int}:(dJ lt lb lf n).lookup ("ends_ahead":Str)=none:=sA (by decide+kernel) (by decide+kernel) (by decide+kernel) (by decide+kernel)
def wD(C:Addr):Sp:=fun vs H Q E=> ∃(q:Addr) (a b c n:Int) (p dx lt lb lf:Addr) (ts:List Str),vs=[.ref q, .int n, .ref p]∧H q=some (tp (a,b,c))∧b8 C H p dx lt lb lf ts∧0≤a∧0≤n∧
 ∀(w q1 q2:Addr) (H':Hp),aJ H H'→H' w=some (.tup [.ref q1, .ref q2])→H' q1=some (tp (a,n,ends ts (a+n) - ends ts a))→H' q2=some (tp (a+n,b - n,c - (ends ts (a+n) - ends ts a)))→Q (.ref w) H'
theorem ao1{K:Frag}{C:Addr}(vs:List V)(H:Hp)(Q:VK)(E:XK)(h:wD C vs H Q E):ar (aQ K [] [] [] (ao0 C) (E:=E)) A8 {nx:=fun _ H'=>Q .az H',rt:=Q} (start A7 vs) H:=by
 obtain⟨q,a,b,c,n,p,dx,lt,lb,lf,ts,rfl,hq,S,ha,hn,k⟩:=h
 refine⟨_,rfl,aF hq rfl ⟨_,rfl, ?_⟩⟩
 refine⟨_,rfl,p,dx,_,rfl,S.ob,Tf,_,rfl,p,dx,lt,lb,lf,ts,_,rfl,S,(by show 0≤a+n;omega), ?_⟩
 refine⟨_,rfl,p,dx,_,rfl,S.ob,Tf,_,rfl,aF hq rfl ⟨p,dx,lt,lb,lf,ts,a,rfl,S,ha,trivial, ?_⟩⟩
 refine⟨_,rfl,aF hq rfl ⟨_,rfl,_,rfl,(by show 3≤sizeLine;decide),fun q1 f1=> ?_⟩⟩
 have s1:=sameNew (o:=tp (a,n,ends ts (a+n) - ends ts a)) f1
 refine⟨_,rfl,_,rfl,aF (s1 _ _ hq) rfl ⟨_,rfl,trivial,_,rfl,aF (s1 _ _ hq) rfl ⟨_,rfl,trivial,(by show 3≤sizeLine;decide),fun q2 f2=> ?_⟩⟩⟩
 have s2:=sameNew (o:=tp (a+n,b - n,c - (ends ts (a+n) - ends ts a))) f2
 refine⟨(by show 2≤sizeLine;decide),fun w fw=> ?_⟩
 have s3:=sameNew (o:= .tup [V.ref q1,V.ref q2]) fw
 exact k w q1 q2 _ (s1.trans (s2.trans s3)) aU (s3 _ _ (s2 _ _ aU)) (s3 _ _ aU)
theorem gg: ∀t:Tr,t.sz=cT t.av
 | .nil=>rfl
 | .node l a b c r=>by
  show l.sz+b+r.sz=cT (l.av++ (a,b,c)::r.av)
  rw[Sj,oA,gg l,gg r]
  show cT l.av+b+cT r.av=cT l.av+ (b+cT r.av)
  omega
def sO(p:P3):Prop:=0≤p.1∧1≤p.2.1
def fM(C:Addr)(n:Nat):Sp:=fun vs H Q E=> ∃(v:V) (t:Tr) (pl:Int) (p dx lt lb lf:Addr) (ts:List Str),vs=[v, .int pl, .ref p]∧Nd H t v∧t.ok∧b8 C H p dx lt lb lf ts∧(∀q∈t.av,sO q)∧t.h<n∧t.av.length≤1000∧0≤pl∧pl≤t.sz∧
 ∀(w:Addr) (v1 v2:V) (t1 t2:Tr) (H':Hp),aJ H H'→H' w=some (.tup [v1,v2])→Nd H' t1 v1→Nd H' t2 v2→t1.ok→t2.ok→t1.av=cz (ends ts) t.av pl→t2.av=cA (ends ts) t.av pl→Q (.ref w) H'
theorem ao2(C:Addr)(vs:List V)(H:Hp)(Q:VK)(E:XK): ¬fM C 0 vs H Q E:=by
 rintro⟨v,t,pl,p,dx,lt,lb,lf,ts, -, -, -, -, -,h, -⟩
 have:=Tr.h0 t
 omega
abbrev ao3(C:Addr)(n:Nat):List (Str×Sp):=[("size_of",eO),("parted",fM C n),("joined",dS 64),("cut_in_two",wD C)]
theorem ao4{K:Frag}{C:Addr}(n:Nat)(vs:List V)(H:Hp)(Q:VK)(E:XK)(h:fM C (n+1) vs H Q E):ar (aQ K (ao3 C n) [] (E:=E)) A_ {nx:=fun _ H'=>Q .az H',rt:=Q} (start A9 vs) H:=by
 obtain⟨v,t,pl,p,dx,lt,lb,lf,ts,rfl,hn,ho,S,Dy,hh,hlen,hp0,e8,k⟩:=h
 refine⟨_,rfl,rfl,_,rfl, ?_⟩
 cases t with
 | nil=>
  cases hn
  exact iT ⟨(by show 2≤sizeLine;decide),fun w hw=>k w .az .az .nil .nil _ (sameNew hw) aU rfl rfl trivial trivial rfl rfl⟩
 | node l a b c r=>
  obtain⟨pa,q,vl,vr,rfl,kI,hq,hl,hr⟩:=hn
  obtain⟨o1,o2,o3,o4⟩:=ho
  obtain⟨e2,e3⟩:=Te l r a b c
  have e1:=Td hlen
  have jZ:=gg l
  have aEv:=gg r
  have gO: ∀x∈l.av,sO x:=fun x hx=>Dy x (by simp[Tr.av,hx])
  have sQ: ∀x∈r.av,sO x:=fun x hx=>Dy x (by simp[Tr.av,hx])
  have pm:sO (a,b,c):=Dy _ (by simp[Tr.av])
  have sR:(Tr.node l a b c r).av=l.av++ (a,b,c)::r.av:=rfl
  have aEw:(Tr.node l a b c r).sz=l.sz+b+r.sz:=rfl
  have aEx:=Tr.gJ o1 (by omega:l.av.length≤1000)
  have aEy:=Tr.gJ o2 (by omega:r.av.length≤1000)
  refine iF ⟨_,rfl,aF kI rfl ?_⟩
  refine⟨_,rfl,aF kI rfl ⟨vl,l,rfl,hl, ?_⟩⟩
  refine⟨_,rfl,_,rfl,aF hq rfl ?_⟩
  refine⟨_,rfl,_,rfl,trivial,_,rfl, ?_⟩
  refine d6 (fun g=> ?_) (fun g=> ?_)
  ·have hle:pl≤l.sz:=of_decide_eq_true g
   refine⟨_,rfl,aF kI rfl ⟨_,rfl,_,rfl,vl,l,pl,p,dx,lt,lb,lf,ts,rfl,hl,o1,S,gO,by omega,by omega,hp0,hle,fun w v1 v2 t1 t2 H1 s1 hw n1 n2 k1 k2 c1 c2=> ?_⟩⟩
   obtain⟨x1,x2⟩:=Sl (ends ts) ((a,b,c)::r.av) l.av pl (fun x hx=> (gO x hx).2) (by omega)
   have l2:=(so (ends ts) l.av pl).2
   have h2:=Tr.gJ k2 (by rw[c2];omega)
   refine⟨_,rfl,aF hw rfl ⟨_,rfl,aF hw rfl ⟨_,rfl,_,rfl,aF (s1 _ _ kI) rfl ⟨v2,q,vr,t2,r,a,b,c,rfl,n2,hr.mono (bK s1),s1 _ _ hq,k2,o2,(by show _< ((64:Nat):Int);omega),fun v3 H2 t3 s2 n3 J=> ⟨(by show 2≤sizeLine;decide),fun w2 qg=> ?_⟩⟩⟩⟩⟩
   have s3:=sameNew (o:= .tup [v1,v3]) qg
   refine k w2 v1 v3 t1 t3 _ (s1.trans (s2.trans s3)) aU ((n1.mono (bK s2)).mono (bK s3)) (n3.mono (bK s3)) k1 J.ok ?_ ?_
   ·rw[sR,x1,c1]
   ·rw[sR,x2,J.av,c2]
  ·have hgt: ¬pl≤l.sz:=fun z=>g (zqT z)
   refine⟨_,rfl,_,rfl,trivial,_,rfl, ?_⟩
   refine d6 (fun g=> ?_) (fun g=> ?_)
   ·have oB:l.sz+b≤pl:=of_decide_eq_true g
    refine⟨_,rfl,aF kI rfl ⟨_,rfl,_,rfl,trivial,_,rfl,vr,r,pl - (l.sz+b),p,dx,lt,lb,lf,ts,rfl,hr,o2,S,sQ,by omega,by omega,by omega,by omega,fun w v1 v2 t1 t2 H1 s1 hw n1 n2 k1 k2 c1 c2=> ?_⟩⟩
    have ez:cT (l.av++ [(a,b,c)])=l.sz+b:=by
     rw[Sj,oA,Si,jZ]
     show cT l.av+ (b+0)=_
     omega
    obtain⟨x1,x2⟩:=C4 (ends ts) r.av (l.av++ [(a,b,c)]) pl (fun x hx=>by
     rcases List.mem_append.mp hx with z | z
     ·exact(gO x z).2
     ·rw[List.mem_singleton.mp z];exact pm.2) (by omega)
    have l1:=(so (ends ts) r.av (pl - (l.sz+b))).1
    have h1:=Tr.gJ k1 (by rw[c1];omega)
    refine⟨_,rfl,aF (s1 _ _ kI) rfl ⟨_,rfl,_,rfl,aF hw rfl ⟨vl,q,v1,l,t1,a,b,c,rfl,hl.mono (bK s1),n1,s1 _ _ hq,o1,k1,(by show _< ((64:Nat):Int);omega),fun v3 H2 t3 s2 n3 J=> ?_⟩⟩⟩
    refine⟨_,rfl,aF (s2 _ _ hw) rfl ⟨(by show 2≤sizeLine;decide),fun w2 qg=> ?_⟩⟩
    have s3:=sameNew (o:= .tup [v3,v2]) qg
    have e5:(Tr.node l a b c r).av=(l.av++ [(a,b,c)])++r.av:=by rw[sR];simp
    refine k w2 v3 v2 t3 t2 _ (s1.trans (s2.trans s3)) aU (n3.mono (bK s3)) ((n2.mono (bK s2)).mono (bK s3)) J.ok k2 ?_ ?_
    ·rw[e5,x1,ez,J.av,c1];simp
    ·rw[e5,x2,ez,c2]
   ·have bC: ¬l.sz+b≤pl:=fun z=>g (zqT z)
    refine⟨_,rfl,_,rfl,_,rfl,trivial,_,rfl,q,a,b,c,pl - l.sz,p,dx,lt,lb,lf,ts,rfl,hq,S,pm.1,by omega,fun w q1 q2 H1 s1 hw h1 h2=> ?_⟩
    obtain⟨x1,x2⟩:=C4 (ends ts) ((a,b,c)::r.av) l.av pl (fun x hx=> (gO x hx).2) (by omega)
    rw[←jZ] at x1 x2
    refine⟨_,rfl,aF (s1 _ _ kI) rfl ⟨_,rfl,aF hw rfl ⟨vl,q1, .az,l, .nil,a,pl - l.sz,_,rfl,hl.mono (bK s1),rfl,h1,o1,trivial,(by show _< ((64:Nat):Int);show l.h+0<64;omega),fun v3 H2 t3 s2 n3 J=> ?_⟩⟩⟩
    refine⟨_,rfl,aF (s2 _ _ hw) rfl ⟨_,rfl,aF (s2 _ _ (s1 _ _ kI)) rfl ⟨.az,q2,vr, .nil,r,_,_,_,rfl,rfl,(hr.mono (bK s1)).mono (bK s2),s2 _ _ h2,trivial,o2,(by show _< ((64:Nat):Int);show 0+r.h<64;omega),fun v4 H3 t4 s3 n4 J2=> ⟨(by show 2≤sizeLine;decide),fun w2 qg=> ?_⟩⟩⟩⟩
    have s4:=sameNew (o:= .tup [v3,v4]) qg
    refine k w2 v3 v4 t3 t4 _ (s1.trans (s2.trans (s3.trans s4))) aU ((n3.mono (bK s3)).mono (bK s4)) (n4.mono (bK s4)) J.ok J2.ok ?_ ?_
    ·rw[sR,x1,J.av]
     simp only[cz]
     rw[if_neg (by omega),if_neg (by show ¬b≤pl - l.sz;omega)]
     rfl
    ·rw[sR,x2,J2.av]
     simp only[cA]
     rw[if_neg (by omega),if_neg (by show ¬b≤pl - l.sz;omega)]
     rfl
end L2.N
namespace L2.N
open PySem PySem.Spec L2.B
def seg(S:List Nat)(q:P3):List Nat:=(S.drop q.1.toNat).take q.2.1.toNat
def txt(S:List Nat)(ps:List P3):List Nat:=ps.flatMap (seg S)
theorem txt_nil(S:List Nat):txt S []=[]:=rfl
theorem cW(S:List Nat)(p:P3)(r:List P3):txt S (p::r)=seg S p++txt S r:=rfl
theorem sS(S:List Nat)(a b:List P3):txt S (a++b)=txt S a++txt S b:=List.flatMap_append
structure bU (S:List Nat) (q:P3):Prop where
 p0:0≤q.1
 p1:1≤q.2.1
 p2:q.1+q.2.1≤S.length
 p3:q.2.2=((seg S q).count 10:Nat)
theorem bU.len{S:List Nat}{q:P3}(h:bU S q):((seg S q).length:Int)=q.2.1:=by
 have h0:=h.p0
 have h1:=h.p1
 have h2:=h.p2
 unfold seg
 rw[List.length_take,List.length_drop]
 omega
theorem bU.grow{S T:List Nat}{q:P3}(h:bU S q):bU (S++T) q∧seg (S++T) q=seg S q:=by
 have h0:=h.p0
 have h1:=h.p1
 have h2:=h.p2
 have e:seg (S++T) q=seg S q:=by
  unfold seg
  rw[List.drop_append_of_le_length (by omega),List.take_append_of_le_length (by rw[List.length_drop];omega)]
 exact⟨⟨h0,h1,by rw[zqA];omega,by rw[e];exact h.p3⟩,e⟩
theorem Dz{S T:List Nat}: ∀{ps:List P3},(∀q∈ps,bU S q)→txt (S++T) ps=txt S ps
 | [],_=>rfl
 | p::r,h=>by
  rw[cW,cW,(h p List.mem_cons_self).grow.2,Dz fun q hq=>h q (List.mem_cons_of_mem _ hq)]
theorem qh{S:List Nat}: ∀{ps:List P3},(∀q∈ps,bU S q)→((txt S ps).length:Int)=cT ps
 | [],_=>rfl
 | p::r,h=>by
  rw[cW,zqA,oA,←qh fun q hq=>h q (List.mem_cons_of_mem _ hq),←(h p List.mem_cons_self).len]
  omega
theorem wF: ∀t:Tr,t.en=((t.av.map fun p=>p.2.2).sum)
 | .nil=>rfl
 | .node l a b c r=>by
  show l.en+c+r.en=((l.av++ (a,b,c)::r.av).map fun p=>p.2.2).sum
  rw[List.map_append,List.sum_append,List.map_cons,List.sum_cons,wF l,wF r]
  show(l.av.map fun p=>p.2.2).sum+c+ (r.av.map fun p=>p.2.2).sum=(l.av.map fun p=>p.2.2).sum+ (c+ (r.av.map fun p=>p.2.2).sum)
  omega
theorem DA{S:List Nat}: ∀{ps:List P3},(∀q∈ps,bU S q)→(ps.map fun p=>p.2.2).sum=((txt S ps).count 10:Nat)
 | [],_=>rfl
 | p::r,h=>by
  rw[cW,List.count_append,List.map_cons,List.sum_cons,DA fun q hq=>h q (List.mem_cons_of_mem _ hq),(h p List.mem_cons_self).p3]
  omega
theorem Tg{S:List Nat}{a b n:Int}(h0:0≤a)(h1:0≤n)(h2:n≤b)(h3:a+b≤S.length)(c1 c2 c3:Int):seg S (a,n,c1)++seg S (a+n,b - n,c2)=seg S (a,b,c3):=by
 unfold seg
 show(S.drop a.toNat).take n.toNat++ (S.drop (a+n).toNat).take (b - n).toNat=(S.drop a.toNat).take b.toNat
 have e1:(a+n).toNat=a.toNat+n.toNat:=by omega
 have e2:b.toNat=n.toNat+ (b - n).toNat:=by omega
 rw[e1,e2,←List.drop_drop,List.take_add]
theorem Th{S:List Nat}{a n:Int}(h0:0≤a)(h1:0≤n)(c:Int):((S.take (a+n).toNat).count 10:Int) - ((S.take a.toNat).count 10:Nat)=((seg S (a,n,c)).count 10:Nat):=by
 have e1:(a+n).toNat=a.toNat+n.toNat:=by omega
 unfold seg
 show((S.take (a+n).toNat).count 10:Int) - ((S.take a.toNat).count 10:Nat)=((((S.drop a.toNat).take n.toNat).count 10:Nat):Int)
 rw[e1,List.take_add,List.count_append]
 omega
theorem wG{ts:List Str}: ∀(ps:List P3) (n:Int),(∀q∈ps,bU (ax ts) q)→0≤n→n≤cT ps→
  (∀q∈cz (ends ts) ps n,bU (ax ts) q)∧(∀q∈cA (ends ts) ps n,bU (ax ts) q)∧txt (ax ts) (cz (ends ts) ps n)=(txt (ax ts) ps).take n.toNat∧txt (ax ts) (cA (ends ts) ps n)=(txt (ax ts) ps).drop n.toNat:=by
 intro ps
 induction ps with
 | nil=>
  intro n _ h0 h1
  exact⟨fun q hq=> (by cases hq),fun q hq=> (by cases hq),by simp[cz,txt],by simp[cA,txt]⟩
 | cons p r ih=>
  intro n h h0 h1
  obtain⟨a,b,c⟩:=p
  have hp:=h _ List.mem_cons_self
  have hr: ∀q∈r,bU (ax ts) q:=fun q hq=>h q (List.mem_cons_of_mem _ hq)
  have q0:0≤a:=hp.p0
  have q1:1≤b:=hp.p1
  have q2:a+b≤ (ax ts).length:=hp.p2
  have hl:=hp.len
  have N9:((seg (ax ts) (a,b,c)).length:Int)=b:=hl
  by_cases z:n≤0
  ·obtain⟨e1,e2⟩:=C3 (ends ts) z ((a,b,c)::r)
   rw[e1,e2]
   have:n.toNat=0:=by omega
   rw[this]
   exact⟨fun q hq=> (by cases hq),h,by simp[txt],by simp⟩
  ·by_cases g:b≤n
   ·have e1:cz (ends ts) ((a,b,c)::r) n=(a,b,c)::cz (ends ts) r (n - b):=by simp only[cz];rw[if_neg z,if_pos g]
    have e2:cA (ends ts) ((a,b,c)::r) n=cA (ends ts) r (n - b):=by simp only[cA];rw[if_neg z,if_pos g]
    rw[oA] at h1
    have oM:n≤b+cT r:=h1
    obtain⟨i1,i2,i3,i4⟩:=ih (n - b) hr (by omega) (by omega)
    rw[e1,e2]
    refine⟨fun q hq=> ?_,i2, ?_, ?_⟩
    ·rcases List.mem_cons.mp hq with rfl | hq
     ·exact hp
     ·exact i1 q hq
    ·rw[cW,cW,i3]
     have:n.toNat=(seg (ax ts) (a,b,c)).length+ (n - b).toNat:=by omega
     rw[this,List.take_length_add_append]
    ·rw[cW,i4]
     have:n.toNat=(seg (ax ts) (a,b,c)).length+ (n - b).toNat:=by omega
     rw[this,List.drop_length_add_append]
   ·have e1:cz (ends ts) ((a,b,c)::r) n=[(a,n,ends ts (a+n) - ends ts a)]:=by simp only[cz];rw[if_neg z,if_neg g]
    have e2:cA (ends ts) ((a,b,c)::r) n=(a+n,b - n,c - (ends ts (a+n) - ends ts a))::r:=by simp only[cA];rw[if_neg z,if_neg g]
    rw[e1,e2]
    have k1:bU (ax ts) (a,n,ends ts (a+n) - ends ts a):=⟨q0,by show 1≤n;omega,by show a+n≤_;omega,Th q0 h0 _⟩
    have sc:=Tg (S:=ax ts) q0 h0 (by omega:n≤b) q2 (ends ts (a+n) - ends ts a) (c - (ends ts (a+n) - ends ts a)) c
    have k2:bU (ax ts) (a+n,b - n,c - (ends ts (a+n) - ends ts a)):=by
     refine⟨by show 0≤a+n;omega,by show 1≤b - n;omega,by show a+n+ (b - n)≤_;omega, ?_⟩
     have e4:c=ends ts (a+n) - ends ts a+ ((seg (ax ts) (a+n,b - n,c - (ends ts (a+n) - ends ts a))).count 10:Nat):=by
      have k3:=k1.p3
      have e5:=hp.p3
      rw[←sc,List.count_append] at e5
      have e6:c=(((seg (ax ts) (a,n,ends ts (a+n) - ends ts a)).count 10+ (seg (ax ts) (a+n,b - n,c - (ends ts (a+n) - ends ts a))).count 10:Nat):Int):=e5
      have k4:ends ts (a+n) - ends ts a=((seg (ax ts) (a,n,ends ts (a+n) - ends ts a)).count 10:Nat):=k3
      omega
     show c - (ends ts (a+n) - ends ts a)=_
     omega
    refine⟨fun q hq=> ?_,fun q hq=> ?_, ?_, ?_⟩
    ·rw[List.mem_singleton.mp hq];exact k1
    ·rcases List.mem_cons.mp hq with rfl | hq
     ·exact k2
     ·exact hr q hq
    ·rw[cW,txt_nil,List.append_nil,cW,←sc]
     have l1:=k1.len
     have:n.toNat=(seg (ax ts) (a,n,ends ts (a+n) - ends ts a)).length:=by have l1':((seg (ax ts) (a,n,ends ts (a+n) - ends ts a)).length:Int)=n:=l1;omega
     rw[this,List.append_assoc,List.take_left]
    ·rw[cW,cW,←sc]
     have l1:=k1.len
     have:n.toNat=(seg (ax ts) (a,n,ends ts (a+n) - ends ts a)).length:=by have l1':((seg (ax ts) (a,n,ends ts (a+n) - ends ts a)).length:Int)=n:=l1;omega
     rw[this,List.append_assoc,List.drop_left]
theorem bR{Γ:aC}{D:Ends}{σ:St}{H:Hp}{r:List RS}(h:ar Γ r D σ H):ar Γ [] {D with nx:=ar Γ r D} σ H:=h
def kJ(n:Nat):Sp:=fun vs H Q E=> ∃v l a b c r,vs=[v]∧Nd H (.node l a b c r) v∧(Tr.node l a b c r).ok∧(Tr.node l a b c r).h<n∧(Tr.node l a b c r).h≤30∧
 ∀w H' q vt t a' b' c',aJ H H'→H' w=some (.tup [.ref q,vt])→Nd H' t vt→H' q=some (tp (a',b',c'))→t.ok→(Tr.node l a b c r).av=(a',b',c')::t.av→t.h≤ (Tr.node l a b c r).h→Q (.ref w) H'
theorem ao7(vs:List V)(H:Hp)(Q:VK)(E:XK): ¬kJ 0 vs H Q E:=by
 rintro⟨v,l,a,b,c,r, -, -, -,h, -⟩
 have:=Tr.h0 (.node l a b c r)
 omega
abbrev ao8(n:Nat):List (Str×Sp):=[("first_out",kJ n),("joined",dS 64)]
theorem ao9{K:Frag}(n:Nat)(vs:List V)(H:Hp)(Q:VK)(E:XK)(h:kJ (n+1) vs H Q E):ar (aQ K (ao8 n) [] (E:=E)) A2 {nx:=fun _ H'=>Q .az H',rt:=Q} (start AZ vs) H:=by
 obtain⟨v,l,a,b,c,r,rfl,⟨p,q,vl,vr,rfl,hp,hq,hl,hr⟩,ho,hh,h30,k⟩:=h
 have e1:=Tr.cK l a b c r
 have r0:=Tr.h0 r
 refine⟨_,rfl,aF hp rfl ⟨rfl,_,rfl, ?_⟩⟩
 cases l with
 | nil=>
  cases hl
  refine iT ⟨_,rfl,aF hp rfl ⟨_,rfl,aF hp rfl ⟨(by show 2≤sizeLine;decide),fun w hw=> ?_⟩⟩⟩
  have s:=sameNew (o:= .tup [.ref q,vr]) hw
  exact k w _ q vr r a b c s aU (hr.mono (bK s)) (s _ _ hq) ho.2.1 rfl (by rw[e1];split<;>omega)
 | node ll a1 b1 c1 lr=>
  obtain⟨p2,q2,oN,qe,rfl,wy,gw,oP,h9⟩:=hl
  have bC:(Tr.node ll a1 b1 c1 lr).h< (Tr.node (.node ll a1 b1 c1 lr) a b c r).h:=by rw[e1];split<;>omega
  have hle:r.h< (Tr.node (.node ll a1 b1 c1 lr) a b c r).h:=by rw[e1];split<;>omega
  refine iF ⟨_,rfl,aF hp rfl ⟨.ref p2,ll,a1,b1,c1,lr,rfl,⟨p2,q2,oN,qe,rfl,wy,gw,oP,h9⟩,ho.1,by omega,by omega,fun w H1 q3 vt t a2 b2 c2 s1 hw ht Dv to Dw th=> ?_⟩⟩
  refine⟨_,rfl,aF hw rfl ⟨_,rfl,aF hw rfl ⟨_,rfl,aF (s1 _ _ hp) rfl ⟨_,rfl,aF (s1 _ _ hp) rfl ⟨vt,q,vr,t,r,a,b,c,rfl,ht,hr.mono (bK s1),s1 _ _ hq,to,ho.2.1,(by show t.h+r.h< (64:Nat);omega),fun v2 H2 t2 s2 n2 J=> ?_⟩⟩⟩⟩⟩
  refine⟨(by show 2≤sizeLine;decide),fun w2 kH=> ?_⟩
  have s3:=sameNew (o:= .tup [.ref q3,v2]) kH
  have jh:=J.hi
  refine k w2 _ q3 v2 t2 a2 b2 c2 (s1.trans (s2.trans s3)) aU (n2.mono (bK s3)) (s3 _ _ (s2 _ _ Dv)) J.ok ?_ ?_
  ·rw[J.av,Tr.av,Dw];simp
  ·have:=J.hi;omega
def qk:Sp:=fun vs H Q E=> ∃(vl vr:V) (l r:Tr) (S:List Nat),vs=[vl,vr]∧Nd H l vl∧Nd H r vr∧l.ok∧r.ok∧(∀q∈l.av,bU S q)∧(∀q∈r.av,bU S q)∧(l≠ .nil→r≠ .nil)∧l.av.length≤1000∧r.av.length≤1000∧
 ∀v H' t,aJ H H'→Nd H' t v→t.ok→(∀q∈t.av,bU S q)→txt S t.av=txt S l.av++txt S r.av→t.av.length≤l.av.length+r.av.length→Q v H'
abbrev ao_:List (Str×Sp):=[("last_out",kE 32),("first_out",kJ 32),("joined",dS 64)]
theorem apa{K:Frag}(vs:List V)(H:Hp)(Q:VK)(E:XK)(h:qk vs H Q E):ar (aQ K ao_ [] (E:=E)) A6 (Dn Q) (start A3 vs) H:=by
 obtain⟨vl,vr,l,r,S,rfl,hl,hr,ol,or,pl,pr,kh,ll,lr,k⟩:=h
 refine⟨_,rfl,rfl,_,rfl, ?_⟩
 cases l with
 | nil=>
  cases hl
  exact iT ⟨_,rfl,k vr H r (aJ.refl _) hr or pr rfl (by show _≤0+_;omega)⟩
 | node l1 a b c l2=>
  cases r with
  | nil=>exact absurd rfl (kh (by simp))
  | node r1 a' b' c' r2=>
   have h1:=Tr.gJ ol ll
   have h2:=Tr.gJ or lr
   have hl0:=hl
   obtain⟨p,q,wl,wr,rfl,hp, -⟩:=hl0
   refine iF ⟨_,rfl, .ref p,l1,a,b,c,l2,rfl,hl,ol,by omega,by omega,fun w H1 q1 vt t x y z s1 hw ht hq1 to ep th=> ?_⟩
   refine⟨_,rfl,vr,r1,a',b',c',r2,rfl,hr.mono (bK s1),or,by omega,by omega,fun w2 H2 q2 vu u x' y' z' s2 kH hu gw uo wH uh=> ?_⟩
   have sT:=s2 _ _ hw
   have qm:=s2 _ _ hq1
   refine⟨_,rfl,aF sT rfl ⟨_,rfl,aF kH rfl ?_⟩⟩
   have p1:bU S (x,y,z):=pl _ (by rw[ep];simp)
   have p2:bU S (x',y',z'):=pr _ (by rw[wH];simp)
   have pt: ∀q∈t.av,bU S q:=fun q hq=>pl q (by rw[ep];simp[hq])
   have pu: ∀q∈u.av,bU S q:=fun q hq=>pr q (by rw[wH];simp[hq])
   have el:(Tr.node l1 a b c l2).av.length=t.av.length+1:=by rw[ep];simp
   have er:(Tr.node r1 a' b' c' r2).av.length=u.av.length+1:=by rw[wH];simp
   have t0:=Tr.h0 t
   have u0:=Tr.h0 u
   refine bF (bA (aK (ba (ag rfl (au (aF qm rfl (ba (ag rfl (au (aF qm rfl (bM (ba (ag rfl (au (aF gw rfl (gf ⟨_,rfl, ?_⟩))))))))))))))))
   by_cases g:x+y=x'
   ·refine iT ?_ (zqT g)
    refine bD (bx (dS 64) rfl (ao (ba (ag rfl (au (aF sT rfl (ao (fK (ao (ba (ag rfl (au (aF qm rfl ?_)))))))))))))
    refine ao (aK (ba (ag rfl (au (aF qm rfl (ba (ag rfl (au (aF gw rfl (bM ?_))))))))))
    refine ao (aK (ba (ag rfl (au (aF qm rfl (ba (ag rfl (au (aF gw rfl (bM (aH ⟨(by show 3≤sizeLine;decide),fun q3 f3=> ?_⟩)))))))))))
    have s3:=sameNew (o:=tp (x,y+y',z+z')) f3
    refine ao (ba (ag rfl (au (aF (s3 _ _ kH) rfl (aH ?_)))))
    refine⟨vt,q3,vu,t,u,x,y+y',z+z',rfl,(ht.mono (bK s2)).mono (bK s3),hu.mono (bK s3),aU,to,uo,(by show t.h+u.h< (64:Nat);omega),fun v H3 tt s4 n4 J=> ?_⟩
    have j0:=p1.p0
    have j1:=p1.p1
    have j2:=p2.p2
    have j3:=p2.p1
    have Ti:0≤x:=j0
    have j1':1≤y:=j1
    have j2':x'+y'≤S.length:=j2
    have j3':1≤y':=j3
    have sc:=Tg (S:=S) (a:=x) (b:=y+y') (n:=y) Ti (by omega) (by omega) (by omega) z z' (z+z')
    rw[g,show y+y' - y=y' by omega] at sc
    have p3:bU S (x,y+y',z+z'):=by
     refine⟨Ti,by show 1≤y+y';omega,by show x+ (y+y')≤_;omega, ?_⟩
     have c1:=p1.p3
     have c2:=p2.p3
     have c1':z=((seg S (x,y,z)).count 10:Nat):=c1
     have c2':z'=((seg S (x',y',z')).count 10:Nat):=c2
     show z+z'=_
     rw[←sc,List.count_append]
     omega
    refine k v H3 tt (s1.trans (s2.trans (s3.trans s4))) n4 J.ok (fun q hq=> ?_) ?_ ?_
    ·rw[J.av] at hq
     rcases List.mem_append.mp hq with hq | hq
     ·exact pt q hq
     ·rcases List.mem_cons.mp hq with rfl | hq
      ·exact p3
      ·exact pu q hq
    ·rw[J.av,ep,wH,sS,sS,cW,cW,cW,txt_nil,←sc];simp
    ·rw[J.av,el,er,zqA,List.length_cons];omega
   ·refine iF (bR ?_) (zqF g)
    refine bD (bx (dS 64) rfl (ao (ba (ag rfl (au (aF sT rfl (ao (ag rfl (ao (ag rfl (aH ?_)))))))))))
    have h3:=Tr.gJ or lr
    refine⟨vt,q1,vr,t, .node r1 a' b' c' r2,x,y,z,rfl,ht.mono (bK s2),(hr.mono (bK s1)).mono (bK s2),qm,to,or,(by show t.h+_< ((64:Nat):Int);omega),fun v H3 tt s4 n4 J=> ?_⟩
    refine k v H3 tt (s1.trans (s2.trans s4)) n4 J.ok (fun q hq=> ?_) ?_ ?_
    ·rw[J.av] at hq
     rcases List.mem_append.mp hq with hq | hq
     ·exact pt q hq
     ·rcases List.mem_cons.mp hq with rfl | hq
      ·exact p1
      ·exact pr q hq
    ·rw[J.av,ep,sS,sS,cW,cW,txt_nil];simp
    ·rw[J.av,el,zqA,List.length_cons];omega
end L2.N
namespace L2.B
open PySem PySem.Spec PyProof.Rows
theorem DB{K:Frag}{σ:St}{H:Hp}{QQ:List V→Hp→Addr→Prop}{te:TE}{fv:List (Str×Nat)}{a:Addr}{xs:List V}(ha:H a=some (.lst xs))(hl:xs.length≤1000000)(P:Nat→List V→Hp→Prop)(p0:P 0 [] H)
  (step: ∀i x ys H2,xs[i]?=some x→aJ H H2→P i ys H2→ ∀Q':VK,(∀y H3,aJ H2 H3→P (i+1) (ys++ [y]) H3→Q' y H3)→te (some x::cH σ fv) H2 Q')
  (fin: ∀ys H2 p,aJ H H2→P xs.length ys H2→H2 p=none→QQ ys H2 p): ∃W:Nat→Nat→List V→Hp→Prop,(∃m,W 0 m [] H)∧ ∀i m ys H2,W i m ys H2→
   ((eJ K a).stop i H2∧ ∀p,H2 p=none→QQ ys H2 p)∨
   ((eJ K a).go i H2∧ ∀x H3,(eJ K a).e_ i H2 x H3→ka K none x H3 fun zs=>lQ none (zs.map some++cH σ fv) H3 fun b H5=>
    if b=true then te (zs.map some++cH σ fv) H5 fun y H6=>ys.length<sizeLine∧ ∃m',m'<m∧W (i+1) m' (ys++ [y]) H6 else ∃m',m'<m∧W (i+1) m' ys H5):=by
 refine⟨fun i m ys H2=>m=xs.length - i∧i≤xs.length∧ys.length=i∧aJ H H2∧P i ys H2,⟨_,rfl,zqZ _,rfl,aJ.refl _,p0⟩, ?_⟩
 rintro i m ys H2 ⟨rfl,hi,hy,s,p⟩
 by_cases bC:i<xs.length
 ·refine .inr ⟨⟨xs,xs[i],aM.of (s _ _ ha),by simp[bC]⟩, ?_⟩
  rintro x H3 ⟨rfl,hx⟩
  have jm:=hx xs (aM.of (s _ _ ha))
  exact step i x ys _ jm s p _ fun y H4 s4 p4=> ⟨jG (by omega),xs.length - (i+1),by omega,rfl,bC,by simp[hy],s.trans s4,p4⟩
 ·have sx:i=xs.length:=by omega
  subst sx
  exact .inl ⟨⟨xs,aM.of (s _ _ ha),zqR _⟩,fun q hq=>fin ys _ q s p hq⟩
end L2.B
namespace L2.N
open PySem PySem.Spec L2.B
section
variable {Γ:aC} {D:Ends} {σ:St} {H:Hp} {r:List RS} {Q:VK}
theorem sU{x:RE}(A B:VK)(zk: ∀v H1,A v H1↔B v H1)(ha:aj Γ x σ H A):aj Γ x σ H B:=by
 have:A=B:=funext fun x=>funext fun H1=>propext (zk x H1)
 rw[←this];exact ha
theorem DC{fv:List (Str×Nat)}{x elt:RE}(h:aj Γ x σ H fun v H1=> ∃a,v= .ref a∧(∃xs,aM Γ.K H1 a xs)∧ ∃W:Nat→Nat→List V→Hp→Prop,(∃m,W 0 m [] H1)∧ ∀i m ys H2,W i m ys H2→
   ((eJ Γ.K a).stop i H2∧ ∀p,H2 p=none→Q (.ref p) (upd H2 p (.lst ys)))∨
   ((eJ Γ.K a).go i H2∧ ∀x H3,(eJ Γ.K a).e_ i H2 x H3→ka Γ.K none x H3 fun zs=>lQ none (zs.map some++cH σ fv) H3 fun b H5=>
    if b=true then aj Γ.calm elt (zs.map some++cH σ fv) H5 fun y H6=>ys.length<sizeLine∧ ∃m',m'<m∧W (i+1) m' (ys++ [y]) H6 else ∃m',m'<m∧W (i+1) m' ys H5)):aj Γ (.comp none fv .list [x] none elt) σ H Q:=sU (x:=x) _ _ (fun _ _=>Iff.rfl) h
theorem sV{j:Nat}{m:Str}{o a b:RE}(C:Addr)(sp:Sp)(hm:Γ.ms j=(C,sp))(h:aj Γ o σ H fun x H1=> ∃p dx fs,x= .ref p∧H1 p=some (.ins C dx fs)∧fs.lookup m=none∧aj Γ a σ H1 fun y H2=>aj Γ b σ H2 fun z H3=>sp [x,y,z] H3 Q Γ.E):aj Γ (.bO j m o [a,b]) σ H Q:=by
 show lK (Γ.ms j).1 m (Γ.ms j).2 [] Γ.E (aj Γ o) (bH Γ [a,b]) σ H Q
 rw[hm];exact h
theorem eB{x:RE}(h:aj Γ x σ H fun v H1=>q9 Γ.K v H1 fun n=>Q (.int n) H1):aj Γ (.blt .len [x]) σ H Q:=h
end
theorem _root_.L2.B.eN.cY{C:Addr}{H H':Hp}{p dx lt lb lf:Addr}{ts:List Str}(b:eN p lt lb lf H H')(S:b8 C H p dx lt lb lf ts):kr H H':=fun c xs e=>
 b c _ e (fun z=>by rw[z,S.ob] at e;cases e) (fun z=>by rw[z,S.tx] at e;cases e) (fun z=>by rw[z,S.bg] at e;cases e) (fun z=>by rw[z,S.fd] at e;cases e)
theorem kN{p lt lb lf:Addr}{H H':Hp}(s:aJ H H'):eN p lt lb lf H H':=fun b o e _ _ _ _=>s b o e
theorem Tj(x:Str):(Builtin.Str.occurrences x (Str.ofString "\n") 0 x.length (x.length+1)).length=x.cps.toList.count 10:=by
 have:=v9 x 10 0 (x.length+1) (zqZ _)
 rw[List.drop_zero] at this
 show(Builtin.Str.occurrences x ⟨#[10]⟩ 0 x.length (x.length+1)).length=_
 rw[this,List.length_take,eM]
 have:x.cps.toList.count 10≤x.length:=by rw[len_list];exact List.count_le_length
 omega
theorem apd{K:Frag}{H:Hp}{Q:VK}{x:Str}(q:Q (.int ((x.cps.toList.count 10:Nat):Int)) H):rq K .count (.str x) [.str "\n"] H Q:=by
 show Q (.int ((Builtin.Str.occurrences x (Str.ofString "\n") 0 x.length (x.length+1)).length:Nat)) H
 rw[Tj];exact q
theorem Tn{H:Hp}: ∀{vs:List V} {ps:List P3} {i:Nat} {v:V},ib H vs ps→vs[i]?=some v→ ∃p,ps[i]?=some p∧Pc H v p
 | _,_,i,v, .nil,e=>by simp at e
 | _,_,0,v, .cons h r,e=>by simp at e;subst e;exact⟨_,rfl,h⟩
 | _,_,i+1,v, .cons h r,e=>by
  obtain⟨p,a,b⟩:=Tn (i:=i) r (by simpa using e)
  exact⟨p,by simpa using a,b⟩
theorem ape{lt lb lf:Addr}{n:Int}:(dJ lt lb lf n).lookup ("put":Str)=none:=sA (by decide+kernel) (by decide+kernel) (by decide+kernel) (by decide+kernel)
theorem apf{lt lb lf:Addr}{n:Int}:(dJ lt lb lf n).lookup ("read":Str)=none:=sA (by decide+kernel) (by decide+kernel) (by decide+kernel) (by decide+kernel)
def kO(C:Addr):Sp:=fun vs H Q E=> ∃(s dx lt lb lf:Addr) (ts:List Str) (x:Str),vs=[.ref s, .str x]∧b8 C H s dx lt lb lf ts∧good x∧ts.length≤10000∧(ax ts).length≤500000∧
 ((x=""∧Q .az H)∨(x≠""∧ ∀v H' t,eN s lt lb lf H H'→b8 C H' s dx lt lb lf (ts++ [x])→Nd H' t v→t.ok→t.av=[(((ax ts).length:Int),(x.length:Int),(x.cps.toList.count 10:Int))]→Q v H'))
theorem apg{K:Frag}{CT C:Addr}(vs:List V)(H:Hp)(Q:VK)(E:XK)(h:kO C vs H Q E):ar (aQ K [("joined",dS 64)] [] [] [("put",C,sG CT C)] (E:=E)) Bf (Dn Q) (start Be vs) H:=by
 obtain⟨s,dx,lt,lb,lf,ts,x,rfl,S,gx,l1,l2,h⟩:=h
 refine bF (bA (ag rfl (au (dR ⟨_,rfl, ?_⟩))))
 rcases h with⟨rfl,q⟩ | ⟨hx,k⟩
 ·exact iT (bD (au q)) (by decide)
 ·refine iF (bR ?_) (beq_eq_false_iff_ne.mpr hx)
  refine bD (bx (dS 64) rfl (ao (au (ao (fK (ao (fL C (sG CT C) rfl (ag rfl ⟨s,dx,_,rfl,S.ob,ape,ag rfl ⟨s,dx,lt,lb,lf,ts,_,rfl,S, .inr ⟨x,rfl,gx,by omega,by omega,fun H1 b1 S1=> ?_⟩⟩⟩))))))))
  refine ao (eB (ag rfl ⟨bW gx.1, ?_⟩))
  refine ao (jI (ag rfl ⟨rfl,au (apd ?_)⟩))
  refine aH ⟨(by show 3≤sizeLine;decide),fun q f=>ao (au (aH ?_))⟩
  have s2:=sameNew (o:=tp (((ax ts).length:Int),(x.length:Int),((x.cps.toList.count 10:Nat):Int))) f
  refine⟨.az,q, .az, .nil, .nil,_,_,_,rfl,rfl,rfl,aU,trivial,trivial,(by show(0:Int)+0< (64:Nat);decide),fun v H2 t s3 n3 J=> ?_⟩
  exact k v H2 t (b1.trans (kN (s2.trans s3))) (S1.same (s2.trans s3)) n3 J.ok J.av
def i7(S:List Nat)(q:P3):Str:=⟨(seg S q).toArray⟩
def kP(C:Addr):Sp:=fun vs H Q E=> ∃(s dx lt lb lf:Addr) (ts:List Str) (v:V) (t:Tr),vs=[.ref s,v]∧b8 C H s dx lt lb lf ts∧Nd H t v∧t.ok∧(∀q∈t.av,bU (ax ts) q)∧t.av.length≤1000∧ts.length≤10000∧(ax ts).length≤500000∧
 ∀w H',aJ H H'→H w=none→H' w=some (.lst ((t.av.map (i7 (ax ts))).map V.str))→Q (.ref w) H'
theorem aph{ts:List Str}: ∀t∈ts,t.length≤ (ax ts).length:=by
 induction ts with
 | nil=>intro t h;cases h
 | cons a r ih=>
  intro t h
  have e:(ax (a::r)).length=a.length+ (ax r).length:=by simp[ax,Str.length]
  rw[e]
  rcases List.mem_cons.mp h with rfl | h
  ·omega
  ·have:=ih t h;omega
theorem api{K:Frag}{CP C:Addr}(vs:List V)(H:Hp)(Q:VK)(E:XK)(h:kP C vs H Q E):ar (aQ K [("pieces_of",jL 32)] [] [] [("read",C,sL CP C)] (E:=E)) Bl (Dn Q) (start Bk vs) H:=by
 obtain⟨s,dx,lt,lb,lf,ts,v,t,rfl,S,hn,ho,hp,l1,l2,l3,k⟩:=h
 have hh:=Tr.gJ ho l1
 refine bD (DC (bx (jL 32) rfl (ao (ag rfl (aH ⟨v,t,rfl,hn,by omega,l1,fun w H1 xs s1 fw hw px=> ⟨w,rfl,⟨_,aM.of hw⟩, ?_⟩⟩)))))
 have lx:=Paired.length px
 refine DB hw (by omega) (fun i ys _=>ys=((t.av.take i).map (i7 (ax ts))).map V.str) (by simp) ?_ ?_
 ·intro i x ys H2 hx s2 e Q' kk
  obtain⟨pt,oT,⟨q,rfl,hq⟩⟩:=Tn px hx
  have hi:i<t.av.length:=(List.getElem?_eq_some_iff.mp oT).1
  have pc:=hp pt (List.mem_of_getElem? oT)
  have p0:=pc.p0
  have p1:=pc.p1
  have p2:=pc.p2
  have S2:=(S.same s1).same s2
  have gw:=s2 _ _ hq
  refine sV C (sL CP C) rfl (ag rfl ⟨s,dx,_,rfl,S2.ob,apf,ba (ag rfl (au (aF gw rfl (ba (ag rfl (au (aF gw rfl ?_)))))))⟩)
  refine⟨s,dx,lt,lb,lf,ts,_,_,rfl,S2, .inr ⟨pt.1.toNat,pt.2.1.toNat, ?_, ?_,by omega,by omega,by omega,fun u hu=>by have:=aph u hu;omega,fun H3 s3=>kk _ _ s3 ?_⟩⟩
  ·rw[show((pt.1.toNat:Nat):Int)=pt.1 by omega]
  ·rw[show((pt.2.1.toNat:Nat):Int)=pt.2.1 by omega]
  ·rw[e,List.take_succ_eq_append_getElem hi,(List.getElem?_eq_some_iff.mp oT).2,List.map_append,List.map_append];rfl
 ·intro ys H2 p s2 e j4
  have e':ys=(t.av.map (i7 (ax ts))).map V.str:=by rw[e,lx,List.take_length]
  have s3:aJ H H2:=s1.trans s2
  exact k p _ (s3.trans (sameNew j4)) (s3.free j4) (by rw[aU,e'])
theorem To(S:List Nat)(ps:List P3):cat (ps.map (i7 S))=⟨(txt S ps).toArray⟩:=h_ (by
 rw[pU,List.map_map]
 show(ps.map fun q=> (i7 S q).cps.toList).flatten=(txt S ps).toArray.toList
 simp only[i7,List.toList_toArray]
 rfl)
theorem apj{S:List Nat}{ps:List P3}:sz (ps.map (i7 S))=(txt S ps).length:=by
 have:=congrArg Str.length (To S ps)
 rw[Sx] at this
 rw[this]
 simp[Str.length]
section
variable {Γ:aC} {D:Ends} {σ:St} {H:Hp} {r:List RS} {Q:VK} {QT:Bool→Hp→Prop}
theorem apk{j:Nat}(C:Addr)(sp:Sp)(hm:Γ.kt j=(C,sp))(h: ∀x dx,H x=none→H dx=none→dx≠x→sp [.ref x] (upd (upd H dx (.own x)) x (.ins C dx [])) (fun v H2=>v= .az∧Q (.ref x) H2) Γ.E):aj Γ (.make j []) σ H Q:=by
 show qO (Γ.kt j).1 (Γ.kt j).2 [] Γ.E (bH Γ []) σ H Q
 rw[hm];exact h
theorem Tp{j:Nat}{a b:RE}(C:Addr)(sp:Sp)(hm:Γ.kt j=(C,sp))(h:aj Γ a σ H fun y H0=>aj Γ b σ H0 fun z H1=> ∀x dx,H1 x=none→H1 dx=none→dx≠x→sp [.ref x,y,z] (upd (upd H1 dx (.own x)) x (.ins C dx [])) (fun v H2=>v= .az∧Q (.ref x) H2) Γ.E):aj Γ (.make j [a,b]) σ H Q:=by
 show qO (Γ.kt j).1 (Γ.kt j).2 [] Γ.E (bH Γ [a,b]) σ H Q
 rw[hm];exact h
theorem Tq{o e:RE}{f:Str}(h:aj Γ e σ H fun v H1=>aj Γ o σ H1 fun x H2=> ∃a C dx fs,x= .ref a∧H2 a=some (.ins C dx fs)∧fB Γ.K C∧fD Γ.K C f∧fs.length<1000∧ar Γ r D σ (upd H2 a (.ins C dx (b_ f v fs)))):ar Γ (.iO o f e::r) D σ H:=h
end
def eE(s:Addr)(v:V):List (Str×V):=[("stock", .ref s),("node",v)]
theorem ig{s:Addr}{v:V}:(eE s v).lookup ("stock":Str)=some (V.ref s):=pV
theorem kQ{s:Addr}{v:V}:(eE s v).lookup ("node":Str)=some v:=(gb (by decide+kernel)).trans pV
theorem dh{s:Addr}{v:V}{m:Str}(h1: ¬m="stock")(h2: ¬m="node"):(eE s v).lookup m=none:=(gb h1).trans ((gb h2).trans rfl)
theorem apl{s:Addr}{v:V}:b_ "node" v (b_ "stock" (.ref s) [])=eE s v:=by
 have e1:b_ "stock" (V.ref s) []=[(("stock":Str),V.ref s)]:=rfl
 unfold eE
 rw[e1,iZ (by decide+kernel)];rfl
structure cX (CP:Addr) (H:Hp) (p dp s:Addr) (v:V) (t:Tr) (S:List Nat):Prop where
 ob:H p=some (.ins CP dp (eE s v))
 nd:Nd H t v
 ok:t.ok
 pc: ∀q∈t.av,bU S q
theorem cX.same{CP:Addr}{H H':Hp}{p dp s:Addr}{v:V}{t:Tr}{S:List Nat}(P:cX CP H p dp s v t S)(h:aJ H H'):cX CP H' p dp s v t S:=⟨h _ _ P.ob,P.nd.mono (bK h),P.ok,P.pc⟩
def i8(CP:Addr):Sp:=fun vs H Q E=> ∃(p dp s:Addr) (v:V),vs=[.ref p, .ref s,v]∧H p=some (.ins CP dp [])∧ ∀H',H' p=some (.ins CP dp (eE s v))→(∀b o,H b=some o→b≠p→H' b=some o)→Q .az H'
theorem apm{K:Frag}{CP:Addr}(T:gA K CP)(vs:List V)(H:Hp)(Q:VK)(E:XK)(h:i8 CP vs H Q E):ar (aQ K [] [] (E:=E)) Bn (Dn Q) (start Bm vs) H:=by
 obtain⟨p,dp,s,v,rfl,hp,k⟩:=h
 refine Tq (ag rfl (ag rfl ⟨p,CP,dp,[],rfl,hp,T.cl,T.gB,(by show 0<1000;decide), ?_⟩))
 refine Tq (ag rfl (ag rfl ⟨p,CP,dp,_,rfl,aU,T.cl,T.jw,(by show 1<1000;decide), ?_⟩))
 refine k _ ?_ fun b o e nb=> ?_
 ·rw[aU];exact congrArg (fun l=>some (HO.ins CP dp l)) apl
 ·rw[a_ nb,a_ nb];exact e
def cf(CP:Addr):Sp:=fun vs H Q E=> ∃(p dp s:Addr) (v:V) (t:Tr) (S:List Nat),vs=[.ref p]∧cX CP H p dp s v t S∧Q (.int ((txt S t.av).length:Nat)) H
def fN(CP:Addr):Sp:=fun vs H Q E=> ∃(p dp s:Addr) (v:V) (t:Tr) (S:List Nat),vs=[.ref p]∧cX CP H p dp s v t S∧Q (.int ((txt S t.av).count 10+1:Nat)) H
theorem cX.sz{CP:Addr}{H:Hp}{p dp s:Addr}{v:V}{t:Tr}{S:List Nat}(P:cX CP H p dp s v t S):t.sz=((txt S t.av).length:Nat):=by rw[gg,←qh P.pc]
theorem cX.en{CP:Addr}{H:Hp}{p dp s:Addr}{v:V}{t:Tr}{S:List Nat}(P:cX CP H p dp s v t S):t.en=((txt S t.av).count 10:Nat):=by rw[wF,DA P.pc]
theorem apn{K:Frag}{CP:Addr}(T:gA K CP)(vs:List V)(H:Hp)(Q:VK)(E:XK)(h:cf CP vs H Q E):ar (aQ K [("size_of",eO)] [] (E:=E)) Bp (Dn Q) (start Bo vs) H:=by
 obtain⟨p,dp,s,v,t,S,rfl,P,q⟩:=h
 refine bD (bx eO rfl (ao (dI (ag rfl ⟨p,CP,dp,_,_,rfl,P.ob,T.cl,T.jw,kQ,aH ⟨v,t,rfl,P.nd, ?_⟩⟩))))
 rw[P.sz];exact q
theorem apo{K:Frag}{CP:Addr}(T:gA K CP)(vs:List V)(H:Hp)(Q:VK)(E:XK)(h:fN CP vs H Q E):ar (aQ K [("ends_of",e7)] [] (E:=E)) Br (Dn Q) (start Bq vs) H:=by
 obtain⟨p,dp,s,v,t,S,rfl,P,q⟩:=h
 refine bD (aK (bx e7 rfl (ao (dI (ag rfl ⟨p,CP,dp,_,_,rfl,P.ob,T.cl,T.jw,kQ,aH ⟨v,t,rfl,P.nd,au (bM ?_)⟩⟩)))))
 rw[P.en];exact q
def tx(S:List Nat)(ps:List P3):Str:=⟨(txt S ps).toArray⟩
theorem apq(S:List Nat)(ps:List P3):(tx S ps).cps.toList=txt S ps:=by simp[tx]
def sW(CP C:Addr):Sp:=fun vs H Q E=> ∃(p dp s dx lt lb lf:Addr) (v:V) (t:Tr) (ts:List Str),vs=[.ref p]∧cX CP H p dp s v t (ax ts)∧b8 C H s dx lt lb lf ts∧t.av.length≤1000∧ts.length≤10000∧(ax ts).length≤500000∧(txt (ax ts) t.av).length≤1000000∧
 ∀H',aJ H H'→Q (.str (tx (ax ts) t.av)) H'
theorem Ts{K:Frag}{H:Hp}{w:Addr}{S:List Nat}{ps:List P3}{Q:VK}(h:H w=some (.lst ((ps.map (i7 S)).map V.str)))(hl:(txt S ps).length≤1000000)(q:Q (.str (tx S ps)) H):rq K .join (.str "") [.ref w] H Q:=by
 refine⟨ps.map (i7 S),aM.of h,joinOk_of (by rw[apj];exact hl), ?_⟩
 have e:Txt.join "" (ps.map (i7 S))=tx S ps:=To S ps
 rw[e];exact q
theorem apr{K:Frag}{CP C:Addr}(T:gA K CP)(vs:List V)(H:Hp)(Q:VK)(E:XK)(h:sW CP C vs H Q E):ar (aQ K [("texts_of",kP C)] [] (E:=E)) Bt (Dn Q) (start Bs vs) H:=by
 obtain⟨p,dp,s,dx,lt,lb,lf,v,t,ts,rfl,P,S,l1,l2,l3,l4,k⟩:=h
 exact bD (jI (au ⟨rfl,bx (kP C) rfl (ao (dI (ag rfl ⟨p,CP,dp,_,_,rfl,P.ob,T.cl,T.gB,ig,ao (dI (ag rfl ⟨p,CP,dp,_,_,rfl,P.ob,T.cl,T.jw,kQ,aH ⟨s,dx,lt,lb,lf,ts,v,t,rfl,S,P.nd,P.ok,P.pc,l1,l2,l3,fun w H1 s1 f1 h1=>Ts h1 l4 (k H1 s1)⟩⟩))⟩)))⟩))
theorem wI{S:List Nat}{ps:List P3}(h: ∀q∈ps,bU S q): ∀q∈ps,sO q:=fun q hq=> ⟨(h q hq).p0,(h q hq).p1⟩
def dU(l:List Nat)(a b:Nat):Str:=⟨((l.take b).drop a).toArray⟩
def gP(CP C:Addr):Sp:=fun vs H Q E=> ∃(p dp s dx lt lb lf:Addr) (v:V) (t:Tr) (ts:List Str) (a b:Nat),vs=[.ref p, .int a, .int b]∧cX CP H p dp s v t (ax ts)∧b8 C H s dx lt lb lf ts∧t.av.length≤1000∧ts.length≤10000∧(ax ts).length≤500000∧(txt (ax ts) t.av).length≤1000000∧
 a≤b∧b≤ (txt (ax ts) t.av).length∧ ∀H',aJ H H'→Q (.str (dU (txt (ax ts) t.av) a b)) H'
theorem aps{K:Frag}{CP C CE:Addr}(T:gA K CP)(vs:List V)(H:Hp)(Q:VK)(E:XK)(h:gP CP C vs H Q E):
  ar (aQ K [("is_between",cL),("parted",fM C 32),("texts_of",kP C)] [] [] [("size",CP,cf CP)] (et:=[("NoPlace",CE)]) (E:=E)) Bv (Dn Q) (start Bu vs) H:=by
 obtain⟨p,dp,s,dx,lt,lb,lf,v,t,ts,a,b,rfl,P,S,l1,l2,l3,l4,h1,h2,k⟩:=h
 have hz:=P.sz
 have hh:=Tr.gJ P.ok l1
 have wJ:(eE s v).lookup ("size":Str)=none:=dh (by decide+kernel) (by decide+kernel)
 refine bF (kD (dg (fm cL rfl (ao (ag rfl (ao (au (ao (gd CP (cf CP) rfl (ag rfl ⟨p,dp,_,rfl,P.ob,wJ,p,dp,s,v,t,_,rfl,P,aH ⟨_,_,_,rfl, .inl ⟨_,rfl,by omega,by omega,dD (iF ?_ rfl)⟩⟩⟩))))))))))
 refine dg (fm cL rfl (ao (ag rfl (ao (ag rfl (ao (gd CP (cf CP) rfl (ag rfl ⟨p,dp,_,rfl,P.ob,wJ,p,dp,s,v,t,_,rfl,P,aH ⟨_,_,_,rfl, .inl ⟨_,rfl,by omega,by omega,dD (iF ?_ rfl)⟩⟩⟩))))))))
 refine bR (aV (ba (bx (fM C 32) rfl (ao (dI (ag rfl ⟨p,CP,dp,_,_,rfl,P.ob,T.cl,T.jw,kQ,ao (ag rfl (ao (dI (ag rfl ⟨p,CP,dp,_,_,rfl,P.ob,T.cl,T.gB,ig,aH ?_⟩))))⟩))))))
 refine⟨v,t,b,s,dx,lt,lb,lf,ts,rfl,P.nd,P.ok,S,wI P.pc,by omega,l1,by omega,by omega,fun w v1 v2 t1 t2 H1 s1 hw n1 n2 o1 o2 e1 e2=>au (aF hw rfl ?_)⟩
 obtain⟨c1,c2,c3,c4⟩:=wG t.av (b:Int) P.pc (by omega) (by rw[←gg,hz];omega)
 rw[←e1] at c1 c3
 have P1:=P.same s1
 have S1:=S.same s1
 have g1:t1.av.length≤1000:=by rw[e1];have:=(so (ends ts) t.av b).1;omega
 have hh1:=Tr.gJ o1 g1
 have hz1:t1.sz=((txt (ax ts) t1.av).length:Nat):=by rw[gg,←qh c1]
 rw[Int.toNat_natCast] at c3
 have lz:(txt (ax ts) t1.av).length=b:=by rw[c3,List.length_take];omega
 refine bD (jI (au ⟨rfl,bx (kP C) rfl (ao (dI (ag rfl ⟨p,CP,dp,_,_,rfl,P1.ob,T.cl,T.gB,ig,ao (ba (bx (fM C 32) rfl (ao (ag rfl (ao (ag rfl (ao (dI (ag rfl ⟨p,CP,dp,_,_,rfl,P1.ob,T.cl,T.gB,ig,aH ?_⟩)))))))))⟩)))⟩))
 refine⟨v1,t1,a,s,dx,lt,lb,lf,ts,rfl,n1,o1,S1,wI c1,by omega,g1,by omega,by omega,fun w' w1 w2 u1 u2 H2 s2 sT m1 m2 p1 p2 d1 d2=>au (aF sT rfl (aH ?_))⟩
 obtain⟨b1,b2,b3,b4⟩:=wG t1.av (a:Int) c1 (by omega) (by rw[←gg,hz1];omega)
 rw[←d2] at b2 b4
 rw[Int.toNat_natCast] at b4
 have g2:u2.av.length≤1000:=by rw[d2];have:=(so (ends ts) t1.av a).2;omega
 have g3:(txt (ax ts) u2.av).length≤1000000:=by rw[b4,List.length_drop];omega
 refine⟨s,dx,lt,lb,lf,ts,w2,u2,rfl,S1.same s2,m2,p2,b2,g2,l2,l3,fun w3 H3 s3 f3 h3=>Ts h3 g3 ?_⟩
 have e:tx (ax ts) u2.av=dU (txt (ax ts) t.av) a b:=by unfold tx dU;rw[b4,c3]
 rw[e]
 exact k H3 (s1.trans (s2.trans s3))
theorem Tt{Γ:aC}{D:Ends}{σ:St}{H:Hp}{r body:List RS}{i:Nat}{x:RE}(h:aj Γ x σ H fun v H1=> ∃a,v= .ref a∧(∃xs,aM Γ.K H1 a xs)∧ ∃W:Nat→Nat→St→Hp→Prop,(∃m,W 0 m σ H1)∧ ∀j m σ H,W j m σ H→
  ((eJ Γ.K a).stop j H∧({D with nx:=ar Γ r D}:Ends).nx σ H)∨((eJ Γ.K a).go j H∧ ∃N:St→Hp→Prop,(∀σ' H',N σ' H'→ ∃m',m'<m∧W (j+1) m' σ' H')∧ ∀x H',(eJ Γ.K a).e_ j H x H'→dZ i x σ H' fun σ2 H2=>ar Γ body {({D with nx:=ar Γ r D}:Ends) with nx:=N,ct:=N,bk:=({D with nx:=ar Γ r D}:Ends).nx} σ2 H2)):
  ar Γ (.iN i .list [x] body::r) D σ H:=sU (x:=x) _ _ (fun _ _=>Iff.rfl) h
theorem Tu:(("keep":Str)==("cut":Str))=false:=by decide+kernel
theorem wPC:(("put":Str)==("cut":Str))=false:=by decide+kernel
theorem Tv:(("cut":Str)==("cut":Str))=true:=by decide+kernel
theorem wKP:(("keep":Str) !=("put":Str))=true:=by decide+kernel
theorem wPP:(("put":Str) !=("put":Str))=false:=by decide+kernel
theorem wCP:(("cut":Str) !=("put":Str))=true:=by decide+kernel
theorem sX{l r:List Nat}{n:Int}{ps:List Pt}(h:Run l (.keep n::ps) r): ∃a l' r',l=a++l'∧r=a++r'∧n=a.length∧Run l' ps r':=by
 cases h with | keep e h=>exact⟨_,_,_,rfl,rfl,e,h⟩
theorem wK{l r:List Nat}{s:Str}{ps:List Pt}(h:Run l (.put s::ps) r): ∃r',r=s.cps.toList++r'∧Run l ps r':=by
 cases h with | put h=>exact⟨_,rfl,h⟩
theorem wL{l r:List Nat}{s:Str}{ps:List Pt}(h:Run l (.cut s::ps) r): ∃l',l=s.cps.toList++l'∧Run l' ps r:=by
 cases h with | cut h=>exact⟨_,rfl,h⟩
def sY(CP C:Addr):Sp:=fun vs H Q E=> ∃(p dp s dx lt lb lf a:Addr) (v:V) (t:Tr) (ts:List Str) (xs:List V) (ps:List Pt) (r:List Nat),vs=[.ref p, .ref a]∧cX CP H p dp s v t (ax ts)∧b8 C H s dx lt lb lf ts∧t.av.length≤1000∧ts.length≤10000∧(ax ts).length≤500000∧(txt (ax ts) t.av).length≤1000000∧
 H a=some (.lst xs)∧cm H xs ps∧(∀p∈ps,eZ p)∧chainOk "" ps=true∧ps.length≤1000000∧Run (txt (ax ts) t.av) ps r∧ ∀H',aJ H H'→Q .az H'
abbrev apy(CP C:Addr):List (Str×Addr×Sp):=[("size",CP,cf CP),("part",CP,gP CP C)]
theorem apz{K:Frag}{CP C CF:Addr}(T:gA K CP)(vs:List V)(H:Hp)(Q:VK)(E:XK)(h:sY CP C vs H Q E):
  ar (aQ K [("sizes",sv),("part_size",gK)] [] [] (apy CP C) (et:=[("BadFit",CF)]) (E:=E)) Bj (Dn Q) (start Bi vs) H:=by
 obtain⟨p,dp,s,dx,lt,lb,lf,a,v,t,ts,xs,ps,r,rfl,P,S,l1,l2,l3,l4,ha,de,aR,dY,hl,hr,k⟩:=h
 have lx:=Paired.length de
 have wJ:(eE s v).lookup ("size":Str)=none:=dh (by decide+kernel) (by decide+kernel)
 have apA:(eE s v).lookup ("part":Str)=none:=dh (by decide+kernel) (by decide+kernel)
 refine bF (bA (ba (bx sv rfl (ao (ag rfl (aH ⟨a,xs,ps,rfl,ha,de,aR,dY,hl,fun w H1 s1 hw=>au (aF hw rfl ?_)⟩))))))
 have P1:=P.same s1
 refine gd CP (cf CP) rfl (ag rfl ⟨p,dp,_,rfl,P1.ob,wJ,p,dp,s,v,t,_,rfl,P1,wx ⟨_,rfl,iF (bR ?_) (by rw[hr.over];simp)⟩⟩)
 refine aV (au ?_)
 refine Tt (ag rfl ⟨a,rfl,⟨_,aM.of (s1 _ _ ha)⟩,qL (K:=K) (a:=a) (xs:=xs) (fun i σ H2=> ∃(x:Option V) (m1 m2 r2:List Nat),σ=[some (.ref p),some (.ref a),some (.int (m1.length:Nat)),x]∧aJ H H2∧txt (ax ts) t.av=m1++m2∧Run m2 (ps.drop i) r2)
  ⟨none,[],_,r,rfl,s1,rfl,hr⟩ (fun i σ H2 _ ⟨_,_,_,_,_,s2,_⟩=>aM.of (s2 _ _ ha)) ?_ ?_⟩)
 ·rintro i x σ H2 hi ⟨x0,m1,m2,r2,rfl,s2,em,cB⟩
  obtain⟨q,hq,jH⟩:=de.get hi
  obtain⟨b,rfl,hb⟩:=jH.mono (bK s2)
  have bC:i<ps.length:=(List.getElem?_eq_some_iff.mp hq).1
  have ed:ps.drop i=q::ps.drop (i+1):=by rw[List.drop_eq_getElem_cons bC,(List.getElem?_eq_some_iff.mp hq).2]
  have oq:=aR q (List.mem_of_getElem? hq)
  rw[ed] at cB
  have P2:=P.same s2
  have S2:=S.same s2
  have lm:(txt (ax ts) t.av).length=m1.length+m2.length:=by rw[em,zqA]
  refine bF (qc (bA (ba (ag rfl (au (aF hb rfl (au (dR ⟨_,rfl, ?_⟩))))))))
  cases q with
  | keep n=>
   obtain⟨c,l',r',e1,e2,e3,h'⟩:=sX cB
   refine iF (iF (bR ?_) rfl) Tu
   refine bF (bA (ba (ag rfl (au (aF hb rfl (au (oK ⟨_,rfl,iT ?_ wKP⟩)))))))
   refine aV (aK (ag rfl (bx gK rfl (ao (ag rfl (aH ⟨_, .keep n,rfl,⟨b,rfl,hb⟩,trivial,bM ?_⟩))))))
   refine⟨some (.ref b),m1++c,l',r', ?_,s2,by rw[em,e1,List.append_assoc],h'⟩
   show[some (V.ref p),some (V.ref a),some (V.int ((m1.length:Int)+n)),some (V.ref b)]=_
   rw[zqA,e3];rfl
  | put z=>
   obtain⟨r',e2,h'⟩:=wK cB
   refine iF (iF (bR ?_) rfl) wPC
   refine bF (bA (ba (ag rfl (au (aF hb rfl (au (oK ⟨_,rfl,iF ?_ wPP⟩)))))))
   exact⟨some (.ref b),m1,m2,r',rfl,s2,em,h'⟩
  | cut z=>
   obtain⟨l',e1,h'⟩:=wL cB
   have lz:=len_list z
   have lm2:m2.length=z.length+l'.length:=by rw[e1,zqA,←lz]
   refine iT ?_ Tv
   refine bA (sV CP (gP CP C) rfl (ag rfl ⟨p,dp,_,rfl,P2.ob,apA,ag rfl (aK (ag rfl (eB (ba (ag rfl (au (aF hb rfl ⟨bW oq.1.1,bM ?_⟩)))))))⟩))
   refine⟨p,dp,s,dx,lt,lb,lf,v,t,ts,m1.length,m1.length+z.length,rfl,P2,S2,l1,l2,l3,l4,by omega,by omega,fun H3 s3=> ?_⟩
   have ec:dU (txt (ax ts) t.av) m1.length (m1.length+z.length)=z:=by
    apply h_
    show(((txt (ax ts) t.av).take _).drop _).toArray.toList=_
    rw[em,e1,List.take_length_add_append,lz,List.take_left,List.drop_left]
   have jM:=s3 _ _ hb
   refine ba (ag rfl (au (aF jM rfl (oK ⟨_,rfl,iF (bR ?_) (by rw[ec];simp[Pt.val])⟩))))
   refine bF (bA (ba (ag rfl (au (aF jM rfl (au (oK ⟨_,rfl,iT ?_ wCP⟩)))))))
   refine aV (aK (ag rfl (bx gK rfl (ao (ag rfl (aH ⟨_, .cut z,rfl,⟨b,rfl,jM⟩,oq.1.1,bM ?_⟩))))))
   refine⟨some (.ref b),m1++z.cps.toList,l',r2, ?_,s2.trans s3,by rw[em,e1,List.append_assoc],h'⟩
   show[some (V.ref p),some (V.ref a),some (V.int ((m1.length:Int)+ (z.length:Nat))),some (V.ref b)]=_
   rw[zqA,←lz];rfl
 ·rintro σ H2 ⟨_,_,_,_,rfl,s2,_⟩
  exact k H2 s2
theorem DD(F:Int→Int): ∀(xs:List P3) (n:Int),(cz F xs n).length+ (cA F xs n).length≤xs.length+1
 | [],n=>by simp[cz,cA]
 | p::xs,n=>by
  have ih:=DD F xs (n - p.2.1)
  by_cases z:n≤0
  ·obtain⟨e1,e2⟩:=C3 F z (p::xs)
   rw[e1,e2];simp
  ·by_cases g:p.2.1≤n
   ·have e1:cz F (p::xs) n=p::cz F xs (n - p.2.1):=by obtain⟨a,b,c⟩:=p;simp only[cz];rw[if_neg z,if_pos g]
    have e2:cA F (p::xs) n=cA F xs (n - p.2.1):=by obtain⟨a,b,c⟩:=p;simp only[cA];rw[if_neg z,if_pos g]
    rw[e1,e2,List.length_cons,List.length_cons];omega
   ·have e1:(cz F (p::xs) n).length=1:=by obtain⟨a,b,c⟩:=p;simp only[cz];rw[if_neg z,if_neg g];rfl
    have e2:(cA F (p::xs) n).length=xs.length+1:=by obtain⟨a,b,c⟩:=p;simp only[cA];rw[if_neg z,if_neg g];rfl
    rw[e1,e2,List.length_cons];omega
theorem cX.ne{CP C:Addr}{H:Hp}{p dp s s' dx lt lb lf:Addr}{v:V}{t:Tr}{S:List Nat}{ts:List Str}(P:cX CP H p dp s' v t S)(St:b8 C H s dx lt lb lf ts):p≠s∧p≠lt∧p≠lb∧p≠lf:=by
 refine⟨fun z=> ?_,fun z=> ?_,fun z=> ?_,fun z=> ?_⟩
 ·have e:=P.ob
  rw[z,St.ob] at e
  injection e with e
  injection e with e1 e2 e3
  have:=congrArg List.length e3
  simp[dJ,eE] at this
 ·have e:=P.ob
  rw[z,St.tx] at e;cases e
 ·have e:=P.ob
  rw[z,St.bg] at e;cases e
 ·have e:=P.ob
  rw[z,St.fd] at e;cases e
theorem cX.but{CP C:Addr}{H H':Hp}{p dp s s' dx lt lb lf:Addr}{v:V}{t:Tr}{S:List Nat}{ts:List Str}(P:cX CP H p dp s' v t S)(St:b8 C H s dx lt lb lf ts)(b:eN s lt lb lf H H'):cX CP H' p dp s' v t S:=by
 obtain⟨n1,n2,n3,n4⟩:=P.ne St
 exact⟨b _ _ P.ob n1 n2 n3 n4,P.nd.mono (b.cY St),P.ok,P.pc⟩
theorem Tw{ts:List Str}{z:Str}(hz:z≠""):bU (ax (ts++ [z])) (((ax ts).length:Int),(z.length:Int),(z.cps.toList.count 10:Int))∧seg (ax (ts++ [z])) (((ax ts).length:Int),(z.length:Int),(z.cps.toList.count 10:Int))=z.cps.toList:=by
 have e:seg (ax (ts++ [z])) (((ax ts).length:Int),(z.length:Int),(z.cps.toList.count 10:Int))=z.cps.toList:=by
  unfold seg
  rw[ia,ky]
  show((ax ts++z.cps.toList).drop (((ax ts).length:Nat):Int).toNat).take ((z.length:Nat):Int).toNat=_
  rw[Int.toNat_natCast,Int.toNat_natCast,List.drop_left,len_list,List.take_length]
 have l1:1≤z.length:=by
  by_cases q:z.length=0
  ·have e0:z.cps.toList=[]:=List.eq_nil_of_length_eq_zero (by rw[←len_list];exact q)
   have e1:z="":=h_ (by rw[e0];rfl)
   exact absurd e1 hz
  ·omega
 refine⟨⟨by show(0:Int)≤ ((ax ts).length:Int);omega,by show(1:Int)≤ (z.length:Int);omega, ?_,by rw[e]⟩,e⟩
 rw[ia,ky,zqA,←len_list]
 show((ax ts).length:Int)+ (z.length:Int)≤_
 omega
def wM(C:Addr)(H:Hp)(p a s dx lt lb lf:Addr)(N:Nat)(ts:List Str)(ps:List Pt)(r:List Nat)(i:Nat)(σ:St)(H2:Hp):Prop:=
 ∃(x4 x5:Option V) (va vr:V) (ta tr:Tr) (us:List Str) (m2 r1 r2:List Nat),σ=[some (.ref p),some (.ref a),some va,some vr,x4,x5]∧eN s lt lb lf H H2∧b8 C H2 s dx lt lb lf (ts++us)∧Nd H2 ta va∧Nd H2 tr vr∧ta.ok∧tr.ok∧
  (∀q∈ta.av,bU (ax (ts++us)) q)∧(∀q∈tr.av,bU (ax (ts++us)) q)∧txt (ax (ts++us)) ta.av=r1∧txt (ax (ts++us)) tr.av=m2∧r=r1++r2∧Run m2 (ps.drop i) r2∧
  ta.av.length+tr.av.length≤N+i∧us.length≤i∧(ax us).length≤r1.length
def sZ(CP C:Addr):Sp:=fun vs H Q E=> ∃(p dp s dx lt lb lf a:Addr) (v:V) (t:Tr) (ts:List Str) (xs:List V) (ps:List Pt) (r:List Nat),vs=[.ref p, .ref a]∧cX CP H p dp s v t (ax ts)∧b8 C H s dx lt lb lf ts∧t.av.length+ps.length≤1000∧ts.length+ps.length≤10000∧(ax ts).length+r.length≤500000∧(txt (ax ts) t.av).length≤1000000∧
 H a=some (.lst xs)∧a≠lt∧a≠lb∧a≠lf∧cm H xs ps∧(∀p∈ps,eZ p)∧chainOk "" ps=true∧Run (txt (ax ts) t.av) ps r∧
 ∀p' ij v' t' us H',eN s lt lb lf H H'→H p'=none→b8 C H' s dx lt lb lf (ts++us)→cX CP H' p' ij s v' t' (ax (ts++us))→txt (ax (ts++us)) t'.av=r→t'.av.length≤t.av.length+ps.length→us.length≤ps.length→(ax us).length≤r.length→Q (.ref p') H'
abbrev Tx(CP C:Addr):List (Str×Sp):=[("need_fit",sY CP C),("sewn",qk),("node_put",kO C),("parted",fM C 32),("part_size",gK)]
theorem Tz:(("put":Str)==("put":Str))=true:=by decide+kernel
theorem TB:(("keep":Str)==("put":Str))=false:=by decide+kernel
theorem TC:(("cut":Str)==("put":Str))=false:=by decide+kernel
theorem apB:(("keep":Str)==("keep":Str))=true:=by decide+kernel
theorem TF:(("cut":Str)==("keep":Str))=false:=by decide+kernel
theorem apC{K:Frag}{CP C:Addr}{E:XK}{D:Ends}(T:gA K CP){H H2:Hp}{p dp a s dx lt lb lf:Addr}{v:V}{t:Tr}{N:Nat}{ts:List Str}{ps:List Pt}{r:List Nat}{i:Nat}{x:V}{σ:St}{q:Pt}
  (P:cX CP H p dp s v t (ax ts)) (S0:b8 C H s dx lt lb lf ts) (hq:ps[i]?=some q) (oq:eZ q) (hx:jF H2 x q) (bN:N+ps.length≤1000) (bt:ts.length+ps.length≤10000) (bs:(ax ts).length+r.length≤500000)
  (I:wM C H p a s dx lt lb lf N ts ps r i σ H2)
  (hD:D.nx=wM C H p a s dx lt lb lf N ts ps r (i+1)) (hC:D.ct=wM C H p a s dx lt lb lf N ts ps r (i+1)):
  ar (aQ K (Tx CP C) [] [] [] [("Paper",CP,i8 CP)] (E:=E)) [.ite (.cmp .Eq (.ix (.v 4) (.c (.int 0))) (.c (.str "put"))) [.asg 2 (.call 1 [(.v 2),(.call 2 [(.fld (.v 0) "stock"),(.ix (.v 4) (.c (.int 1)))])]),
   .cont] [],
  .asg 5 (.call 3 [(.v 3),(.call 4 [(.v 4)]),(.fld (.v 0) "stock")]),
  .asg 3 (.ix (.v 5) (.c (.int 1))),
  .ite (.cmp .Eq (.ix (.v 4) (.c (.int 0))) (.c (.str "keep"))) [.asg 2 (.call 1 [(.v 2),(.ix (.v 5) (.c (.int 0)))])] []] D (σ.set 4 (some x)) H2:=by
 obtain⟨x4,x5,va,vr,ta,tr,us,m2,r1,r2,rfl,bu,S,na,nr,oa,orr,pa,pr,ea,er,kR,cB,bl,bu2,DE⟩:=I
 obtain⟨b,rfl,hb⟩:=hx
 have bC:i<ps.length:=(List.getElem?_eq_some_iff.mp hq).1
 have ed:ps.drop i=q::ps.drop (i+1):=by rw[List.drop_eq_getElem_cons bC,(List.getElem?_eq_some_iff.mp hq).2]
 rw[ed] at cB
 have P2:=P.but S0 bu
 have lr:r.length=r1.length+r2.length:=by rw[kR,zqA]
 have ls:(ax (ts++us)).length=(ax ts).length+ (ax us).length:=by rw[ia,zqA]
 have lt2:(ts++us).length=ts.length+us.length:=zqA
 refine bF (bA (ba (ag rfl (au (aF hb rfl (au (dR ⟨_,rfl, ?_⟩)))))))
 cases q with
 | put z=>
  obtain⟨r',e2,h'⟩:=wK cB
  refine iT ?_ Tz
  have lz:=len_list z
  have lr2:r2.length=z.length+r'.length:=by rw[e2,zqA,←lz]
  refine aV (bx qk rfl (ao (ag rfl (ao (bx (kO C) rfl (ao (dI (ag rfl ⟨p,CP,dp,_,_,rfl,P2.ob,T.cl,T.gB,ig,ao (ba (ag rfl (au (aF hb rfl (aH ?_)))))⟩))))))))
  refine⟨s,dx,lt,lb,lf,ts++us,z,rfl,S,oq.1,by omega,by omega, .inr ⟨oq.2,fun v1 H3 t1 b3 S3 n1 o1 e1=>aH ?_⟩⟩
  rw[List.append_assoc] at S3
  obtain⟨pz,ez⟩:=Tw (ts:=ts++us) oq.2
  rw[List.append_assoc] at pz ez
  have eg:ax (ts++ (us++ [z]))=ax (ts++us)++z.cps.toList:=by rw[←List.append_assoc,ia,ky]
  have p1: ∀q∈t1.av,bU (ax (ts++ (us++ [z]))) q:=fun q hq=>by
   rw[e1] at hq
   rw[List.mem_singleton.mp hq];exact pz
  have tu:=b3.cY S
  refine⟨va,v1,ta,t1,ax (ts++ (us++ [z])),rfl,na.mono tu,n1,oa,o1,fun q hq=>by rw[eg];exact(pa q hq).grow.1,p1,fun _ hh=> ?_,by omega,by rw[e1];exact Nat.le_of_ble_eq_true rfl,fun v4 H4 t4 s4 n4 o4 p4 e4 l4=> ?_⟩
  ·rw[hh] at e1;cases e1
  ·have tu4:=bK s4
   show D.ct _ _
   rw[hC]
   have et1:txt (ax (ts++ (us++ [z]))) t1.av=z.cps.toList:=by rw[e1,cW,txt_nil,List.append_nil];exact ez
   refine⟨some (.ref b),x5,v4,vr,t4,tr,us++ [z],m2,r1++z.cps.toList,r',rfl,(bu.trans b3).trans (kN s4),S3.same s4,n4,(nr.mono tu).mono tu4,o4,orr,p4,fun q hq=>by rw[eg];exact(pr q hq).grow.1, ?_, ?_, ?_,h', ?_, ?_, ?_⟩
   ·rw[e4,et1,eg,Dz pa,ea]
   ·rw[eg,Dz pr,er]
   ·rw[kR,e2,List.append_assoc]
   ·have:t1.av.length=1:=by rw[e1];rfl
    omega
   ·rw[zqA];show us.length+1≤i+1;omega
   ·rw[ia,ky,zqA,zqA];omega
 | keep n=>
  obtain⟨c,l',r',e1,e2,e3,h'⟩:=sX cB
  refine iF (bR ?_) TB
  have n1:1≤n:=oq
  have hz:tr.sz=((txt (ax (ts++us)) tr.av).length:Nat):=by rw[gg,←qh pr]
  have lm:(txt (ax (ts++us)) tr.av).length=c.length+l'.length:=by rw[er,e1,zqA]
  have hh:=Tr.gJ orr (by omega)
  refine aV (bx (fM C 32) rfl (ao (ag rfl (ao (bx gK rfl (ao (ag rfl (aH ⟨_, .keep n,rfl,⟨b,rfl,hb⟩,trivial,ao (dI (ag rfl ⟨p,CP,dp,_,_,rfl,P2.ob,T.cl,T.gB,ig,aH ?_⟩))⟩))))))))
  refine⟨vr,tr,n,s,dx,lt,lb,lf,ts++us,rfl,nr,orr,S,wI pr,by omega,by omega,by omega,by omega,fun w v1 v2 t1 t2 H3 s3 hw TH n2 o1 o2 d1 d2=> ?_⟩
  obtain⟨c1,c2,c3,c4⟩:=wG tr.av n pr (by omega) (by rw[←gg,hz];omega)
  have cs:=DD (ends (ts++us)) tr.av n
  rw[←d1] at c1 c3
  rw[←d2] at c2 c4
  rw[←d1,←d2] at cs
  have en:n.toNat=c.length:=by omega
  have DF:txt (ax (ts++us)) t1.av=c:=by rw[c3,er,e1,en,List.take_left]
  have DG:txt (ax (ts++us)) t2.av=l':=by rw[c4,er,e1,en,List.drop_left]
  have jM:=s3 _ _ hb
  have tu3:=bK s3
  refine aV (ba (ag rfl (au (aF hw rfl ?_))))
  refine bF (bA (ba (ag rfl (au (aF jM rfl (au (dR ⟨_,rfl,iT ?_ apB⟩)))))))
  refine aV (bx qk rfl (ao (ag rfl (ao (ba (ag rfl (au (aF hw rfl (aH ?_)))))))))
  refine⟨va,v1,ta,t1,ax (ts++us),rfl,na.mono tu3,TH,oa,o1,pa,c1,fun _ z=> ?_,by omega,by omega,fun v4 H4 t4 s4 n4 o4 p4 e4 l4=> ?_⟩
  ·rw[z] at DF
   have:c=[]:=by rw[←DF];rfl
   rw[this] at e3
   simp at e3;omega
  ·show D.nx _ _
   rw[hD]
   refine⟨some (.ref b),some (.ref w),v4,v2,t4,t2,us,l',r1++c,r',rfl,(bu.trans (kN s3)).trans (kN s4),(S.same s3).same s4,n4,n2.mono (bK s4),o4,o2,p4,c2, ?_,DG, ?_,h',by omega,by omega, ?_⟩
   ·rw[e4,ea,DF]
   ·rw[kR,e2,List.append_assoc]
   ·rw[zqA];omega
 | cut z=>
  obtain⟨l',e1,h'⟩:=wL cB
  refine iF (bR ?_) TC
  have lz:=len_list z
  have hz:tr.sz=((txt (ax (ts++us)) tr.av).length:Nat):=by rw[gg,←qh pr]
  have lm:(txt (ax (ts++us)) tr.av).length=z.length+l'.length:=by rw[er,e1,zqA,←lz]
  have hh:=Tr.gJ orr (by omega)
  refine aV (bx (fM C 32) rfl (ao (ag rfl (ao (bx gK rfl (ao (ag rfl (aH ⟨_, .cut z,rfl,⟨b,rfl,hb⟩,oq.1.1,ao (dI (ag rfl ⟨p,CP,dp,_,_,rfl,P2.ob,T.cl,T.gB,ig,aH ?_⟩))⟩))))))))
  refine⟨vr,tr,(z.length:Nat),s,dx,lt,lb,lf,ts++us,rfl,nr,orr,S,wI pr,by omega,by omega,by omega,by omega,fun w v1 v2 t1 t2 H3 s3 hw TH n2 o1 o2 d1 d2=> ?_⟩
  obtain⟨c1,c2,c3,c4⟩:=wG tr.av (z.length:Nat) pr (by omega) (by rw[←gg,hz];omega)
  have cs:=DD (ends (ts++us)) tr.av (z.length:Nat)
  rw[←d2] at c2 c4
  rw[←d1,←d2] at cs
  have DG:txt (ax (ts++us)) t2.av=l':=by rw[c4,er,e1,Int.toNat_natCast,lz,List.drop_left]
  have jM:=s3 _ _ hb
  refine aV (ba (ag rfl (au (aF hw rfl ?_))))
  refine bF (bA (ba (ag rfl (au (aF jM rfl (au (dR ⟨_,rfl,iF (bR ?_) TF⟩)))))))
  show D.nx _ _
  rw[hD]
  exact⟨some (.ref b),some (.ref w),va,v2,ta,t2,us,l',r1,r2,rfl,bu.trans (kN s3),S.same s3,na.mono (bK s3),n2,oa,o2,pa,c2,ea,DG,kR,h',by omega,by omega,DE⟩
theorem apI{K:Frag}{CP C:Addr}(T:gA K CP)(vs:List V)(H:Hp)(Q:VK)(E:XK)(h:sZ CP C vs H Q E):
  ar (aQ K (Tx CP C) [] [] [] [("Paper",CP,i8 CP)] (E:=E)) Bx (Dn Q) (start Bw vs) H:=by
 obtain⟨p,dp,s,dx,lt,lb,lf,a,v,t,ts,xs,ps,r,rfl,P,S,l1,l2,l3,l4,ha,a1,a2,a3,de,aR,dY,hr,k⟩:=h
 have lx:=Paired.length de
 have a0:a≠s:=fun z=>by rw[z,S.ob] at ha;cases ha
 refine oI (bx (sY CP C) rfl (ao (ag rfl (ao (ag rfl (aH ⟨p,dp,s,dx,lt,lb,lf,a,v,t,ts,xs,ps,r,rfl,P,S,by omega,by omega,by omega,l4,ha,de,aR,dY,by omega,hr,fun H1 s1=> ?_⟩))))))
 have P1:=P.same s1
 have S1:=S.same s1
 refine aV (au (aV (dI (ag rfl ⟨p,CP,dp,_,_,rfl,P1.ob,T.cl,T.jw,kQ, ?_⟩))))
 refine Tt (ag rfl ⟨a,rfl,⟨_,aM.of (s1 _ _ ha)⟩,qL (K:=K) (a:=a) (xs:=xs) (wM C H p a s dx lt lb lf t.av.length ts ps r) ?_ ?_ ?_ ?_⟩)
 ·exact⟨none,none, .az,v, .nil,t,[],_,[],r,rfl,kN s1,by rw[List.append_nil];exact S1,rfl,P1.nd,trivial,P.ok,fun q hq=> (by cases hq),by rw[List.append_nil];exact P.pc,rfl,by rw[List.append_nil],rfl,hr,by show 0+_≤_;omega,zqZ _,zqZ _⟩
 ·rintro i σ H2 _ ⟨_,_,_,_,_,_,_,_,_,_,_,bu,_⟩
  exact aM.of (bu _ _ ha a0 a1 a2 a3)
 ·intro i x σ H2 hi I
  obtain⟨q,hq,jH⟩:=de.get hi
  have bu:eN s lt lb lf H H2:=by obtain⟨_,_,_,_,_,_,_,_,_,_,_,bu,_⟩:=I;exact bu
  exact apC T P S hq (aR q (List.mem_of_getElem? hq)) (jH.mono (bu.cY S)) l1 l2 l3 I rfl rfl
 ·rintro σ H2 ⟨x4,x5,va,vr,ta,tr,us,m2,r1,r2,rfl,bu,S2,na,nr,oa,orr,pa,pr,ea,er,kR,cB,bl,bu2,DE⟩
  rw[lx,List.drop_length] at cB
  have e2:r2=[]:=by cases cB;rfl
  rw[e2,List.append_nil] at kR
  have P2:=P.but S bu
  refine bD (Tp CP (i8 CP) rfl (dI (ag rfl ⟨p,CP,dp,_,_,rfl,P2.ob,T.cl,T.gB,ig,ag rfl fun p' ij f1 f2 f3=> ?_⟩)))
  refine⟨p',ij,s,va,rfl,aU,fun H3 h3 hk=> ⟨rfl, ?_⟩⟩
  have s3:aJ H2 H3:=fun b o e=>hk b o (by rw[a_ (cg e f1),a_ (cg e f2)];exact e) (cg e f1)
  have fp:H p'=none:=by
   cases hq:H p' with
   | none=>rfl
   | some o=>
    exfalso
    by_cases z1:p'=s
    ·rw[z1,S2.ob] at f1;cases f1
    ·by_cases z2:p'=lt
     ·rw[z2,S2.tx] at f1;cases f1
     ·by_cases z3:p'=lb
      ·rw[z3,S2.bg] at f1;cases f1
      ·by_cases z4:p'=lf
       ·rw[z4,S2.fd] at f1;cases f1
       ·rw[bu _ _ hq z1 z2 z3 z4] at f1;cases f1
  exact k p' ij va ta us H3 (bu.trans (kN s3)) fp (S2.same s3) ⟨h3,na.mono (bK s3),oa,pa⟩ (by rw[ea,kR]) (by omega) (by omega) (by rw[kR];exact DE)
def s9(CP C:Addr):Sp:=fun vs H Q E=> ∃(x:Str),vs=[.str x]∧good x∧
 ∀p dp s dx lt lb lf v t ts H',aJ H H'→b8 C H' s dx lt lb lf ts→cX CP H' p dp s v t (ax ts)→txt (ax ts) t.av=x.cps.toList→t.av.length≤1→ts.length≤1→(ax ts).length≤x.length→H p=none→H s=none→H lt=none→H lb=none→H lf=none→Q (.ref p) H'
theorem apJ{K:Frag}{CP C CT:Addr}(vs:List V)(H:Hp)(Q:VK)(E:XK)(h:s9 CP C vs H Q E):
  ar (aQ K [("need_text",oG CT),("node_put",kO C)] [] [] [] [("Stock",C,sD C),("Paper",CP,i8 CP)] (E:=E)) Bh (Dn Q) (start Bg vs) H:=by
 obtain⟨x,rfl,gx,k⟩:=h
 refine oI (bx (oG CT) rfl (ao (ag rfl (aH ⟨_,rfl, .inl ⟨x,rfl,gx, ?_⟩⟩))))
 refine aV (apk C (sD C) rfl fun s dx f1 f2 f3=> ⟨s,dx,rfl,aU,fun lt lb lf H1 S1 g1 g2 g3 hk=> ⟨rfl, ?_⟩⟩)
 have s1:aJ H H1:=fun b o e=>hk b o (by rw[a_ (cg e f1),a_ (cg e f2)];exact e) (cg e f1)
 have fr: ∀b,upd (upd H dx (.own s)) s (.ins C dx []) b=none→H b=none:=fun b e=>by
  cases hq:H b with
  | none=>rfl
  | some o=>rw[a_ (cg hq f1),a_ (cg hq f2),hq] at e;cases e
 have q1:=fr lt g1
 have q2:=fr lb g2
 have q3:=fr lf g3
 have fin: ∀(H2:Hp) (v:V) (t:Tr) (ts:List Str),eN s lt lb lf H1 H2→b8 C H2 s dx lt lb lf ts→Nd H2 t v→t.ok→(∀q∈t.av,bU (ax ts) q)→txt (ax ts) t.av=x.cps.toList→t.av.length≤1→ts.length≤1→(ax ts).length≤x.length→
   ∀p dp,H2 p=none→H2 dp=none→dp≠p→i8 CP [.ref p, .ref s,v] (upd (upd H2 dp (.own p)) p (.ins CP dp [])) (fun v H2=>v= .az∧Q (.ref p) H2) E:=by
  intro H2 v t ts b2 S2 n2 o2 p2 e2 l2 l3 l4 p dp h1 h2 h3
  have s2:aJ H H2:=fun b o e=>b2 b o (s1 _ _ e) (cg e f1) (cg e q1) (cg e q2) (cg e q3)
  refine⟨p,dp,s,v,rfl,aU,fun H3 h3 hk=> ⟨rfl, ?_⟩⟩
  have s3:aJ H2 H3:=fun b o e=>hk b o (by rw[a_ (cg e h1),a_ (cg e h2)];exact e) (cg e h1)
  exact k p dp s dx lt lb lf v t ts H3 (s2.trans s3) (S2.same s3) ⟨h3,n2.mono (bK s3),o2,p2⟩ e2 l2 l3 l4 (s2.free h1) f1 q1 q2 q3
 refine bD (Tp CP (i8 CP) rfl (ag rfl (bx (kO C) rfl (ao (ag rfl (ao (ag rfl (aH ⟨s,dx,lt,lb,lf,[],x,rfl,S1,gx,zqZ _,zqZ _, ?_⟩))))))))
 by_cases hx:x=""
 ·refine .inl ⟨hx,fin H1 .az .nil [] (kN (aJ.refl _)) S1 rfl trivial (fun q hq=> (by cases hq)) (by rw[hx];rfl) (zqZ _) (zqZ _) (zqZ _)⟩
 ·obtain⟨pz,ez⟩:=Tw (ts:=[]) hx
  refine .inr ⟨hx,fun v H2 t b2 S2 n2 o2 e2=>fin H2 v t [x] b2 S2 n2 o2 (fun q hq=> ?_) ?_ ?_ (zqR _) ?_⟩
  ·rw[e2] at hq;rw[List.mem_singleton.mp hq];exact pz
  ·rw[e2,cW,txt_nil,List.append_nil];exact ez
  ·rw[e2];exact zqR _
  ·rw[ky,len_list];exact zqR _
theorem pick{its:List V}{j:Int}(h0:0≤j)(h1:j<its.length): ∃v∈its,dP its j=some v:=by
 have jJ:j.toNat<its.length:=by omega
 refine⟨its[j.toNat],List.getElem_mem jJ, ?_⟩
 have e:=jj (xs:=its) (j:=j.toNat) (v:=its[j.toNat]) (by simp[jJ])
 rw[show((j.toNat:Nat):Int)=j by omega] at e
 exact e
def e9:Sp:=fun vs H Q E=> ∃c k,vs=[.int c, .int k]∧ ∀m,0≤m→Q (.int m) H
theorem apK{K:Frag}(vs:List V)(H:Hp)(Q:VK)(E:XK)(h:e9 vs H Q E):ar (aQ K [] [] (E:=E)) BB (Dn Q) (start BA vs) H:=by
 obtain⟨c,k,rfl,q⟩:=h
 have h0: ∀z:Int,0≤z % 2147483647∧z % 2147483647<2147483647:=fun z=> ⟨Int.emod_nonneg _ (by decide),Int.emod_lt_of_pos _ (by decide)⟩
 have h1:=h0 (c*48271+7919*k+12345)
 have h2:=h0 ((c*48271+7919*k+12345) % 2147483647* ((c*48271+7919*k+12345) % 2147483647))
 have pm:(0:Int) <2147483647:=by decide
 refine⟨_,rfl, .inr ⟨by decide,by decide⟩,_,rfl, .inl ⟨by decide,by decide⟩,pm, ?_⟩
 refine⟨_,rfl,_,rfl, .inl ⟨by omega,by omega⟩,pm,_,rfl, .inl ⟨by omega,by omega⟩,pm, ?_⟩
 exact q _ (Int.emod_nonneg _ (by decide))
def A4:Str:="abcdefghijklmnopqrstuvwxyz{|}~"
def A5:Str:="ab"
theorem TJ:wc (A1++A4):=Sy (by decide+kernel)
theorem TK:(A1++A4).length=94:=by decide+kernel
theorem al5:wc A5:=Sy (by decide+kernel)
theorem apM:A1.length+A4.length≤sizeLine:=by decide+kernel
theorem apN:we "\n":=⟨rfl,fun c hc=>by
 have:((Str.ofString "\n").cps.toList.all fun c=>SG.cps.contains c)=true:=by decide+kernel
 exact List.all_eq_true.mp this c hc⟩
theorem DH{K:Frag}{sd:Addr→List (Key×V)→Prop}{H:Hp}{Q:VK}{al:Str}{j:Int}(ho:wc al)(h0:0≤j)(h1:j<al.length)(q: ∀t,we t→Q (.str t) H):jo K sd (.str al) (.int j) H Q:=by
 have jJ:j.toNat<al.cps.toList.length:=by rw[←len_list];omega
 refine .inr (.inr (.inl ⟨al,j,al.cps.toList[j.toNat],rfl,rfl,bW (by have:=ho.2.1;omega), ?_,q _ ⟨rfl,fun c hc=> ?_⟩⟩))
 ·have e:=jj (xs:=al.cps.toList) (j:=j.toNat) (v:=al.cps.toList[j.toNat]) (by simp[jJ])
  rw[show((j.toNat:Nat):Int)=j by omega] at e
  exact e
 ·have:c=al.cps.toList[j.toNat]:=by simpa using hc
  rw[this];exact ho.2.2 _ (List.getElem_mem jJ)
theorem apO{x t:Str}(hx:good x)(ht:we t)(hl:x.length≤1000):good (x++t):=by
 refine⟨by rw[Sz,ht.1];omega,fun c hc=> ?_⟩
 rw[app_list] at hc
 rcases List.mem_append.mp hc with h | h
 ·exact hx.2 c h
 ·exact ht.2 c h
theorem apP:good "":=⟨by decide,fun c hc=>by
 have:((Str.ofString "").cps.toList.all fun c=>SG.cps.contains c)=true:=by decide+kernel
 exact List.all_eq_true.mp this c hc⟩
def jN:Sp:=fun vs H Q E=> ∃c n,vs=[.int c, .int n]∧0≤n∧n≤1000∧ ∀x H',good x→x.length=n.toNat→aJ H H'→Q (.str x) H'
theorem apQ{K:Frag}(vs:List V)(H:Hp)(Q:VK)(E:XK)(h:jN vs H Q E):ar (aQ K [("_law_mixed",e9)] [] (E:=E)) BD (Dn Q) (start BC vs) H:=by
 obtain⟨c,n,rfl,hn0,gp,k⟩:=h
 refine aV (au ?_)
 refine aV (aK (ag rfl (au ⟨apM, ?_⟩)))
 refine aV (au ?_)
 refine⟨_,rfl,n,rfl,by omega,by omega,yB (lo:=0) (n:=n.toNat) (fun i σ H2=> ∃(x:Str) (u4 u5:Option V),σ=[some (.int c),some (.int n),some (.str (A1++A4)),some (.str x),u4,u5]∧aJ H H2∧good x∧x.length=i) ⟨_,none,none,rfl,aJ.refl _,apP,rfl⟩ ?_ ?_⟩
 ·rintro i σ H2 hi ⟨x,u4,u5,rfl,s2,hx,sH⟩
  refine aV (bx e9 rfl (ao (ag rfl (ao (ag rfl (aH ⟨_,_,rfl,fun m hm=> ?_⟩))))))
  have m2:0≤m / 8 % 2∧m / 8 % 2<2:=⟨Int.emod_nonneg _ (by decide),Int.emod_lt_of_pos _ (by decide)⟩
  have wN:0≤m / 8 % 94∧m / 8 % 94<94:=⟨Int.emod_nonneg _ (by decide),Int.emod_lt_of_pos _ (by decide)⟩
  have c8:yD m 8:=⟨by decide,by decide⟩
  refine aV (aK (ag rfl (ba (gc (ao (au (ao (ba (au (aK (aK (ag rfl (au ⟨c8,au ⟨(by show(0:Int) <2;decide), ?_⟩⟩)))))))))))))
  refine DH al5 m2.1 m2.2 fun t1 o1=> ?_
  refine ao (ba (ag rfl (aK (aK (ag rfl (au ⟨c8,au ⟨(by show(0:Int) <94;decide), ?_⟩⟩))))))
  refine DH TJ wN.1 (by rw[TK];exact wN.2) fun t2 o2=> ?_
  refine ao (ba (ag rfl (aK (aK (ag rfl (au ⟨c8,au ⟨(by show(0:Int) <94;decide), ?_⟩⟩))))))
  refine DH TJ wN.1 (by rw[TK];exact wN.2) fun t3 o3=> ?_
  refine aH ⟨(by show 4≤sizeLine;decide),fun l hl=> ?_⟩
  have s3:=sameNew (o:= .lst [V.str "\n",V.str t1,V.str t2,V.str t3]) hl
  obtain⟨v,hv,fO⟩:=pick (its:=[V.str "\n",V.str t1,V.str t2,V.str t3]) (j:=m % 4) (Int.emod_nonneg _ (by decide)) (Int.emod_lt_of_pos _ (by decide))
  have yE: ∃t,v= .str t∧we t:=by
   simp only[List.mem_cons,List.not_mem_nil,or_false] at hv
   rcases hv with rfl | rfl | rfl | rfl
   ·exact⟨_,rfl,apN⟩
   ·exact⟨_,rfl,o1⟩
   ·exact⟨_,rfl,o2⟩
   ·exact⟨_,rfl,o3⟩
  obtain⟨t,rfl,ot⟩:=yE
  refine aK (ag rfl (au ⟨(by show(0:Int) <4;decide), .inl ⟨l,_,_,_,rfl,rfl,aM.of aU,fO, ?_⟩⟩))
  refine⟨bW (by rw[ot.1];omega), ?_⟩
  exact⟨_,_,_,rfl,s2.trans s3,apO hx ot (by omega),by rw[Sz,ot.1,sH]⟩
 ·rintro σ H2 ⟨x,u4,u5,rfl,s2,hx,sH⟩
  exact bD (ag rfl (k x H2 hx sH s2))
theorem apR{K:Frag}(vs:List V)(H:Hp)(Q:VK)(E:XK)(h:sy vs H Q E):ar (aQ K [] [] (E:=E)) BH (Dn Q) (start BG vs) H:=by
 obtain⟨x,a,xs,ps,r,rfl,hx,ha,de,aR,hr,i5,q⟩:=h
 have hlen:=Paired.length de
 refine⟨_,rfl,a,rfl,⟨_,aM.of ha⟩,qL (K:=K) (a:=a) (xs:=xs) (fun i σ H2=> ∃l1 l2 q1 q2 w v,σ=[some (.str x),some (.ref a),some (.str ⟨q1.toArray⟩),some (.int ((l1.length:Nat):Int)),w,v]∧H2=H∧
   x.cps.toList=l1++l2∧r=q1++q2∧Run l2 (ps.drop i) q2)
  ⟨[],x.cps.toList,[],r,none,none,rfl,rfl,rfl,rfl,hr⟩ (fun i σ H2 _ ⟨_,_,_,_,_,_,_,e,_⟩=>e ▸ aM.of ha) ?_ ?_⟩
 ·rintro i y σ H2 hi ⟨l1,l2,q1,q2,w,v,rfl,rfl,e1,e2,cB⟩
  obtain⟨pt,oT,b,rfl,hb⟩:=de.get hi
  have gj:i<ps.length:=(List.getElem?_eq_some_iff.mp oT).1
  have ed:ps.drop i=pt::ps.drop (i+1):=by
   rw[List.drop_eq_getElem_cons gj]
   congr 1
   exact Option.some.inj ((List.getElem?_eq_getElem gj).symm.trans oT)
  rw[ed] at cB
  obtain⟨la,lb,qa,qb,rfl,rfl,DI,one⟩:=anN cB
  have hpo:=aR pt (List.mem_of_getElem? oT)
  have oO:q1.length+qa.length≤1000000:=by rw[e2] at i5;simp at i5;omega
  refine⟨b,_,rfl, .inl (bo.of hb),rfl,_,_,rfl,_,_,rfl,rfl, ?_⟩
  cases pt with
  | put s=>
   obtain⟨rfl,rfl⟩:=one
   refine⟨_,rfl,_,rfl,_,rfl,_,rfl,bW (by rw[len_list,len_list];exact oO), ?_⟩
   refine⟨l1,lb,q1++s.cps.toList,qb,some (.str "put"),some (.str s), ?_,rfl,e1,by rw[e2];simp,DI⟩
   show[_,_,some (V.str (⟨q1.toArray⟩++s)),_,_,_]=_
   rw[show(⟨q1.toArray⟩++s:Str)=⟨(q1++s.cps.toList).toArray⟩ from h_ (by rw[app_list])]
   rfl
  | cut s=>
   obtain⟨rfl,rfl⟩:=one
   refine⟨_,rfl,_,rfl,_,rfl,_,rfl,_,rfl,_,rfl,bW hpo, ?_⟩
   refine⟨l1++s.cps.toList,lb,q1,qb,some (.str "cut"),some (.str s), ?_,rfl,by rw[e1];simp,e2,DI⟩
   show[_,_,_,some (V.int ((l1.length:Int)+ (s.length:Int))),_,_]=_
   rw[zqA,←len_list,Int.natCast_add]
   rfl
  | keep n=>
   obtain⟨rfl,hn⟩:=one
   refine⟨_,rfl,_,rfl,_,rfl,_,rfl, ?_⟩
   refine⟨_,rfl,_,rfl,_,rfl,_,rfl,_,rfl,_,rfl,_,rfl,bW hx.1, ?_⟩
   rw[SJ e1 n hn]
   refine⟨bW (by rw[len_list,len_list];exact oO), ?_⟩
   refine⟨_,rfl,_,rfl, ?_⟩
   refine⟨l1++la,lb,q1++la,qb,some (.str "keep"),some (.int n), ?_,rfl,by rw[e1];simp,by rw[e2];simp,DI⟩
   show[_,_,some (V.str (⟨q1.toArray⟩++ ⟨la.toArray⟩)),some (V.int ((l1.length:Int)+n)),_,_]=_
   rw[show(⟨q1.toArray⟩++ ⟨la.toArray⟩:Str)=⟨(q1++la).toArray⟩ from h_ (by rw[app_list]),zqA,hn,Int.natCast_add]
   rfl
 ·rintro σ H2 ⟨l1,l2,q1,q2,w,v,rfl,rfl,e1,e2,cB⟩
  rw[hlen,List.drop_length] at cB
  cases cB
  rw[List.append_nil] at e2
  subst e2
  exact⟨_,rfl,q⟩
theorem TL{α β:Type}{R:α→β→Prop}: ∀{ps:List β} {p:β} {xs:List α},Paired R xs (ps++ [p])→ ∃wO x,xs=wO++ [x]∧Paired R wO ps∧R x p
 | [],p,_, .cons h .nil=> ⟨[],_,rfl, .nil,h⟩
 | q::ps,p,_, .cons h r=>by
  obtain⟨wO,x,e,a,b⟩:=TL (ps:=ps) r
  exact⟨_::wO,x,by rw[e];rfl, .cons h a,b⟩
section
variable {Γ:aC} {D:Ends} {σ:St} {H:Hp} {r:List RS} {Q:VK}
theorem qo{i:Int}(h:Q (.int (-i)) H):aj Γ (.neg (.c (.int i))) σ H Q:=h
theorem apT{o ix e:RE}(h:aj Γ e σ H fun v H1=>aj Γ o σ H1 fun x H2=>aj Γ ix σ H2 fun y H3=>yO x y v H3 fun H4=>ar Γ r D σ H4):ar Γ (.set o ix e::r) D σ H:=h
theorem apU{body:List RS}{is:List Nat}{x:RE}(h:aj Γ x σ H fun v H1=> ∃a,v= .ref a∧(∃xs,aM Γ.K H1 a xs)∧ ∃W:Nat→Nat→St→Hp→Prop,(∃m,W 0 m σ H1)∧ ∀j m σ H,W j m σ H→
  ((eJ Γ.K a).stop j H∧({D with nx:=ar Γ r D}:Ends).nx σ H)∨((eJ Γ.K a).go j H∧ ∃N:St→Hp→Prop,(∀σ' H',N σ' H'→ ∃m',m'<m∧W (j+1) m' σ' H')∧ ∀x H',(eJ Γ.K a).e_ j H x H'→ju Γ.K is.length (iR is) x σ H' fun σ2 H2=>ar Γ body {({D with nx:=ar Γ r D}:Ends) with nx:=N,ct:=N,bk:=({D with nx:=ar Γ r D}:Ends).nx} σ2 H2)):
  ar Γ (.pw is .list [x] body::r) D σ H:=sU (x:=x) _ _ (fun _ _=>Iff.rfl) h
end
theorem apV{K:Frag}{H:Hp}{a b:Addr}{xs:List V}{ps:List Pt}{Q:VK}(ha:H a=some (.lst xs))(hb:H b=some (.lst []))(hx:cm H xs ps)(ho: ∀p∈ps,fk p)(q:Q (.bl (decide (ps≠ []))) H):
  cn K .NotEq (.ref a) (.ref b) H Q:=by
 refine⟨.list (ps.map toD), .list [],⟨a,xs,rfl,ha,SF hx⟩,⟨b,[],rfl,hb,rfl⟩,anL ho,(by decide), ?_⟩
 have e:(true ^^ PyData.eqv (.list (ps.map toD)) (.list []))=decide (ps≠ []):=by
  cases ps with
  | nil=>rfl
  | cons p r=>rfl
 rw[e];exact q
theorem TM{Γ:aC}{σ:St}{H:Hp}{Q:VK}{i:Nat}{x w:Str}(mk:Str→Pt)(hw:(mk x).word=w)(hv:(mk x).val= .str x)(hσ:σ[i]?=some (some (.str x)))
  (k: ∀b H' ys,aJ H H'→H b=none→H' b=some (.lst ys)→cm H' ys (B.txt mk x)→Q (.ref b) H'):
  aj Γ (.bin .Mult (.lst [(.tup [(.c (.str w)),(.v i)])]) (.blt .int [(.cmp .NotEq (.v i) (.c (.str "")))])) σ H Q:=by
 refine aK (gc (ao (fK (ao (au (ao (ag hσ (aH ⟨(by show 2≤sizeLine;decide),fun t ft=>aH ⟨(by show 1≤sizeLine;decide),fun l fl=> ?_⟩⟩))))))))
 have s1:=sameNew (o:= .tup [.str w, .str x]) ft
 have s2:=sameNew (o:= .lst [V.ref t]) fl
 refine eA (ao (gN (ag hσ (au (oK (aH ?_))))))
 show zj (.ref l) (.int (if (x !=("":Str))=true then 1 else 0)) _ Q
 by_cases hx:x=""
 ·have e:(x !=("":Str))=false:=by rw[hx];decide
  rw[e]
  refine⟨l,0,[.ref t],rfl,rfl,aU,by decide,by decide,Nat.le_of_ble_eq_true rfl,fun p fp=> ?_⟩
  exact k p _ _ ((s1.trans s2).trans (sameNew fp)) ((s1.trans s2).free fp) aU (by rw[hx,B.txt_nil];exact .nil)
 ·have e:(x !=("":Str))=true:=by simp[hx]
  rw[e]
  refine⟨l,1,[.ref t],rfl,rfl,aU,by decide,by decide,Nat.le_of_ble_eq_true rfl,fun p fp=> ?_⟩
  refine k p _ [.ref t] ((s1.trans s2).trans (sameNew fp)) ((s1.trans s2).free fp) aU ?_
  rw[B.cW hx]
  exact .cons ⟨t,rfl,by rw[hw,hv];exact(s2.trans (sameNew fp)) _ _ aU⟩ .nil
theorem TN(n:Nat):g4 (n+1) (-1)=some n:=by
 unfold g4
 have: ¬(0:Int)≤ -1:=by decide
 rw[if_neg this,if_pos (by omega)]
 congr 1
 omega
theorem DJ:(("keep":Str)==("keep":Str))=true:=by decide+kernel
theorem apW:(("put":Str)==("keep":Str))=false:=by decide+kernel
theorem apX{Γ:aC}{D:Ends}{w:Option V}{f:Addr}{P C:V}{n:Int}{H:Hp}{ys:List V}{F:List Pt}(hf:H f=some (.lst ys))(pv:cm H ys F)(ho: ∀p∈F,fk p)(hl:F.length≤900000)
  (k: ∀H' fh,dv f H H'→H' f=some (.lst fh)→cm H' fh (gL F n)→D.nx [w,some (.ref f),some P,some C,some (.str "keep"),some (.int n)] H'):
  ar Γ [.ite (.and [(.cmp .Eq (.v 4) (.c (.str "keep"))),(.cmp .NotEq (.v 1) (.lst [])),(.cmp .Eq (.ix (.ix (.v 1) (.neg (.c (.int 1)))) (.c (.int 0))) (.c (.str "keep")))]) [.set (.v 1) (.neg (.c (.int 1))) (.tup [(.c (.str "keep")),(.bin .Add (.ix (.ix (.v 1) (.neg (.c (.int 1)))) (.c (.int 1))) (.v 5))])] [.ite (.cmp .Eq (.v 4) (.c (.str "keep"))) [.drop (.bZ .append (.v 1) [(.tup [(.c (.str "keep")),(.v 5)])])] []]]
   D [w,some (.ref f),some P,some C,some (.str "keep"),some (.int n)] H:=by
 have lf:=Paired.length pv
 have app: ∀H1,aJ H H1→gL F n=F++ [.keep n]→ar Γ [.ite (.cmp .Eq (.v 4) (.c (.str "keep"))) [.drop (.bZ .append (.v 1) [(.tup [(.c (.str "keep")),(.v 5)])])] []] {D with nx:=ar Γ [] D} [w,some (.ref f),some P,some C,some (.str "keep"),some (.int n)] H1:=by
  intro H1 s1 e
  refine bF (bA (ag rfl (au (dR ⟨_,rfl,iT ?_ DJ⟩))))
  refine oI (jI (ag rfl ⟨.inl ⟨rfl,_,aM.of (s1 _ _ hf)⟩,fK (ao (au (ao (ag rfl (aH ⟨(by show 2≤sizeLine;decide),fun t ft=> ⟨ys,(sameNew ft) _ _ (s1 _ _ hf),jG (by omega), ?_⟩⟩)))))⟩))
  have s2:=s1.trans (sameNew (o:= .tup [.str "keep", .int n]) ft)
  have bb:dv f H (upd (upd H1 t (.tup [.str "keep", .int n])) f (.lst (ys++ [V.ref t]))):=fun b o e ne=>by rw[a_ ne];exact s2 _ _ e
  have nt:t≠f:=fun z=>by rw[z,s1 _ _ hf] at ft;cases ft
  refine k _ _ bb aU ?_
  rw[e]
  exact B.Paired.app (pv.mono (bb.cY hf)) (.cons ⟨t,rfl,by rw[a_ nt,aU];rfl⟩ .nil)
 refine bF (sI (bA (ag rfl (au (dR ⟨_,rfl,iT ?_ DJ⟩)))))
 refine sI (bA (ag rfl (gc (aH ⟨zqZ _,fun e fe=> ?_⟩))))
 have s1:=sameNew (o:= .lst []) fe
 refine apV (s1 _ _ hf) aU (pv.mono (bK s1)) ho ⟨_,rfl, ?_⟩
 rcases List.eq_nil_or_concat F with hF | ⟨F',p,hF⟩
 ·refine iF (iF (app _ s1 (by rw[hF];rfl)) rfl) (by rw[hF];rfl)
 ·rw[List.concat_eq_append] at hF
  refine iT ?_ (by rw[hF];simp)
  have TQ:=pv
  rw[hF] at TQ
  obtain⟨s_,x,ey,p0,⟨b,ex,hb⟩⟩:=TL TQ
  have tm:=s1 _ _ hf
  rw[ey,ex] at tm
  have pZ:=s1 _ _ hb
  refine S6 (bA (ba (ba (ag rfl (qo (eo tm (Nm _ _) (au (aF pZ rfl (au (dR ⟨_,rfl, ?_⟩))))))))))
  cases p with
  | keep m=>
   refine iT ?_ DJ
   refine apT (fK (ao (au (ao (aK (ba (ba (ag rfl (qo (eo tm (Nm _ _) (au (aF pZ rfl (ag rfl (bM (aH ⟨(by show 2≤sizeLine;decide),fun t ft=> ?_⟩)))))))))))))))
   have s2:=s1.trans (sameNew (o:= .tup [.str "keep", .int (m+n)]) ft)
   have hf2:=(sameNew (o:= .tup [.str "keep", .int (m+n)]) ft) _ _ tm
   refine ag rfl (qo ⟨f,_, -1,s_.length,rfl,rfl,hf2,by rw[zqA];exact TN _, ?_⟩)
   have es:(s_++ [V.ref b]).set s_.length (.ref t)=s_++ [.ref t]:=by rw[List.set_append_right _ _ (zqR _),Nat.sub_self];rfl
   rw[es]
   have bb:dv f H (upd (upd (upd H e (.lst [])) t (.tup [.str "keep", .int (m+n)])) f (.lst (s_++ [V.ref t]))):=fun b o e ne=>by rw[a_ ne];exact s2 _ _ e
   have nt:t≠f:=fun z=>by rw[z,tm] at ft;cases ft
   refine k _ _ bb aU ?_
   rw[hF,C_]
   exact B.Paired.app (cm.mono (bb.cY hf) p0) (.cons ⟨t,rfl,by rw[a_ nt,aU,Int.add_comm];rfl⟩ .nil)
  | put z=>exact iF (app _ s1 (by rw[hF];exact wg fun q hq=>by rw[List.getLast?_concat] at hq;cases hq;rfl)) apW
  | cut z=>exact iF (app _ s1 (by rw[hF];exact wg fun q hq=>by rw[List.getLast?_concat] at hq;cases hq;rfl)) TF
def gQ(a:Str):List Pt→Str
 | []=>a
 | p::r=>gQ p.word r
theorem qp: ∀(F:List Pt) (a:Str) (G:List Pt),chainOk a (F++G)=(chainOk a F && chainOk (gQ a F) G)
 | [],a,G=>by simp[chainOk,gQ]
 | p::F,a,G=>by
  show(fj p.word a && chainOk p.word (F++G))=_
  rw[qp F p.word G,←Bool.and_assoc];rfl
theorem tq: ∀(F:List Pt) (a:Str) (G:List Pt),gQ a (F++G)=gQ (gQ a F) G
 | [],a,G=>rfl
 | p::F,a,G=>tq F p.word G
structure TR (F:List Pt):Prop where
 ok: ∀p∈F,eZ p
 ch:chainOk "" F=true
 la:gQ "" F=""∨gQ "" F="keep"
def tl(P C:Str):List Pt:=B.txt .put P++B.txt .cut C
theorem TU{w P C:Str}(h:w=""∨w="keep"):chainOk w (tl P C)=true:=by
 unfold tl
 by_cases hp:P="" <;>by_cases hc:C=""
 ·rw[hp,hc,B.txt_nil,B.txt_nil];rfl
 ·rw[hp,B.txt_nil,B.cW hc]
  rcases h with rfl | rfl
  ·show(fj "cut" "" && true)=true;decide+kernel
  ·show(fj "cut" "keep" && true)=true;decide+kernel
 ·rw[hc,B.txt_nil,B.cW hp]
  rcases h with rfl | rfl
  ·show(fj "put" "" && true)=true;decide+kernel
  ·show(fj "put" "keep" && true)=true;decide+kernel
 ·rw[B.cW hp,B.cW hc]
  rcases h with rfl | rfl
  ·show(fj "put" "" && (fj "cut" "put" && true))=true;decide+kernel
  ·show(fj "put" "keep" && (fj "cut" "put" && true))=true;decide+kernel
theorem TV(P C:Str):(tl P C).length≤2:=by
 unfold tl B.txt
 by_cases hp:P="" <;>by_cases hc:C="" <;>simp[hp,hc]
theorem TX{P C:Str}(hp:good P)(hc:good C): ∀q∈tl P C,eZ q:=by
 intro q hq
 unfold tl B.txt at hq
 rcases List.mem_append.mp hq with h | h
 ·by_cases z:P=""
  ·rw[if_pos z] at h;cases h
  ·rw[if_neg z] at h;rw[List.mem_singleton.mp h];exact⟨hp,z⟩
 ·by_cases z:C=""
  ·rw[if_pos z] at h;cases h
  ·rw[if_neg z] at h;rw[List.mem_singleton.mp h];exact⟨hc,z⟩
theorem TY{l r:List Nat}{F:List Pt}{P C:Str}(h:Run l F r):Run (l++C.cps.toList) (F++tl P C) (r++P.cps.toList):=by
 have:=h.app (SI (s:=P) |>.app (anM (s:=C)))
 rw[List.nil_append,List.append_nil] at this
 exact this
theorem wQ: ∀{F G:List Pt} {l r:List Nat},Run l (F++G) r→ ∃l1 l2 r1 r2,l=l1++l2∧r=r1++r2∧Run l1 F r1∧Run l2 G r2
 | [],G,l,r,h=> ⟨[],l,[],r,rfl,rfl, .nil,h⟩
 | .keep n::F,G,l,r,h=>by
  obtain⟨a,l',r',rfl,rfl,e,h'⟩:=sX h
  obtain⟨l1,l2,r1,r2,rfl,rfl,h1,h2⟩:=wQ (F:=F) h'
  exact⟨a++l1,l2,a++r1,r2,by simp,by simp, .keep e h1,h2⟩
 | .put s::F,G,l,r,h=>by
  obtain⟨r',rfl,h'⟩:=wK h
  obtain⟨l1,l2,r1,r2,rfl,rfl,h1,h2⟩:=wQ (F:=F) h'
  exact⟨l1,l2,s.cps.toList++r1,r2,rfl,by simp, .put h1,h2⟩
 | .cut s::F,G,l,r,h=>by
  obtain⟨l',rfl,h'⟩:=wL h
  obtain⟨l1,l2,r1,r2,rfl,rfl,h1,h2⟩:=wQ (F:=F) h'
  exact⟨s.cps.toList++l1,l2,r1,r2,by simp,rfl, .cut h1,h2⟩
theorem TZ{l r:List Nat}(h:Run l [] r):l=[]∧r=[]:=by cases h;exact⟨rfl,rfl⟩
theorem wR{c:List Nat}{n:Int}(h:n=c.length):Run c [.keep n] c:=by
 have:=Run.keep (a:=c) h Run.nil
 rw[List.append_nil] at this;exact this
theorem T_(F:List Pt):(∃F' m,F=F'++ [.keep m])∨((gQ "" F=""∨gQ "" F="put"∨gQ "" F="cut")∧ ∀n,gL F n=F++ [.keep n]):=by
 rcases List.eq_nil_or_concat F with rfl | ⟨F',p,hF⟩
 ·exact .inr ⟨.inl rfl,fun n=>rfl⟩
 ·rw[List.concat_eq_append] at hF
  subst hF
  cases p with
  | keep m=>exact .inl ⟨F',m,rfl⟩
  | put z=>exact .inr ⟨.inr (.inl (by rw[tq];rfl)),fun n=>wg fun q hq=>by rw[List.getLast?_concat] at hq;cases hq;rfl⟩
  | cut z=>exact .inr ⟨.inr (.inr (by rw[tq];rfl)),fun n=>wg fun q hq=>by rw[List.getLast?_concat] at hq;cases hq;rfl⟩
theorem apZ{F:List Pt}{l r c:List Nat}{n:Int}(h:Run l F r)(hn:n=c.length):Run (l++c) (gL F n) (r++c):=by
 rcases T_ F with⟨F',m,rfl⟩ | ⟨_,e⟩
 ·rw[C_]
  obtain⟨l1,l2,r1,r2,rfl,rfl,h1,h2⟩:=wQ h
  obtain⟨a,l',r',rfl,rfl,e,h'⟩:=sX h2
  obtain⟨rfl,rfl⟩:=TZ h'
  rw[List.append_nil,List.append_assoc,List.append_assoc]
  exact h1.app (wR (by rw[zqA,e,hn];omega))
 ·rw[e];exact h.app (wR hn)
theorem ap0{F:List Pt}{n:Int}(h: ∀p∈F,eZ p)(hc:chainOk "" F=true)(hn:1≤n):TR (gL F n):=by
 rcases T_ F with⟨F',m,rfl⟩ | ⟨hw,e⟩
 ·rw[C_]
  rw[qp] at hc
  have hm:1≤m:=h (.keep m) (by simp)
  refine⟨fun p hp=> ?_, ?_, .inr (by rw[tq];rfl)⟩
  ·rcases List.mem_append.mp hp with q | q
   ·exact h p (by simp[q])
   ·rw[List.mem_singleton.mp q];show 1≤n+m;omega
  ·rw[qp];exact hc
 ·rw[e]
  refine⟨fun p hp=> ?_, ?_, .inr (by rw[tq];rfl)⟩
  ·rcases List.mem_append.mp hp with q | q
   ·exact h p q
   ·rw[List.mem_singleton.mp q];exact hn
  ·rw[qp,hc]
   show(true && (fj "keep" (gQ "" F) && true))=true
   rcases hw with z | z | z<;>rw[z] <;>decide+kernel
theorem Ua{p:Pt}(h:eZ p):fk p:=by
 cases p with
 | keep n=>trivial
 | put s=>exact h.1.2
 | cut s=>exact h.1.2
theorem Ub{Γ:aC}{D:Ends}{w wd va:Option V}{f:Addr}{P C:Str}{H:Hp}{ys:List V}{F:List Pt}{rest:List RS}(hf:H f=some (.lst ys))(pv:cm H ys F)(hl:F.length≤900000)
  (k: ∀f' H' fh,aJ H H'→H f'=none→H' f'=some (.lst fh)→cm H' fh (F++tl P C)→ar Γ rest D [w,some (.ref f'),some (.str ""),some (.str ""),wd,va] H'):
  ar Γ (.asg 1 (.bin .Add (.bin .Add (.v 1) (.bin .Mult (.lst [(.tup [(.c (.str "put")),(.v 2)])]) (.blt .int [(.cmp .NotEq (.v 2) (.c (.str "")))]))) (.bin .Mult (.lst [(.tup [(.c (.str "cut")),(.v 3)])]) (.blt .int [(.cmp .NotEq (.v 3) (.c (.str "")))])))::
   .asg 2 (.c (.str "")):: .asg 3 (.c (.str ""))::rest) D [w,some (.ref f),some (.str P),some (.str C),wd,va] H:=by
 have lf:=Paired.length pv
 refine aV (aK (aK (ag rfl (TM .put rfl rfl rfl fun b1 H1 y1 s1 n1 h1 p1=> ?_))))
 have l1:=Paired.length p1
 have g1:(B.txt .put P).length≤1:=by unfold B.txt;by_cases z:P="" <;>simp[z]
 refine .inl ⟨f,b1,ys,y1,rfl,rfl,s1 _ _ hf,h1,bW (by omega),fun b2 n2=> ?_⟩
 have s2:=sameNew (o:= .lst (ys++y1)) n2
 refine TM .cut rfl rfl rfl fun b3 H3 y3 s3 n3 h3 p3=> ?_
 have l3:=Paired.length p3
 have g3:(B.txt .cut C).length≤1:=by unfold B.txt;by_cases z:C="" <;>simp[z]
 refine .inl ⟨b2,b3,ys++y1,y3,rfl,rfl,s3 _ _ aU,h3,bW (by rw[zqA];omega),fun b4 n4=> ?_⟩
 have s4:=sameNew (o:= .lst (ys++y1++y3)) n4
 have kS:=s1.trans (s2.trans (s3.trans s4))
 refine aV (au (aV (au ?_)))
 refine k b4 _ (ys++y1++y3) kS ((s1.trans (s2.trans s3)).free n4) aU ?_
 unfold tl
 rw[←List.append_assoc]
 exact B.Paired.app (B.Paired.app (pv.mono (bK kS)) (cm.mono (bK (s2.trans (s3.trans s4))) p1)) (cm.mono (bK s4) p3)
def DK:List RS:=[.ite (.cmp .Eq (.v 4) (.c (.str "put"))) [.asg 2 (.bin .Add (.v 2) (.v 5))] [.ite (.cmp .Eq (.v 4) (.c (.str "cut"))) [.asg 3 (.bin .Add (.v 3) (.v 5))] [.ite (.or [(.cmp .Eq (.v 4) (.c (.str "end"))),(.cmp .Gt (.v 5) (.c (.int 0)))]) [.asg 1 (.bin .Add (.bin .Add (.v 1) (.bin .Mult (.lst [(.tup [(.c (.str "put")),(.v 2)])]) (.blt .int [(.cmp .NotEq (.v 2) (.c (.str "")))]))) (.bin .Mult (.lst [(.tup [(.c (.str "cut")),(.v 3)])]) (.blt .int [(.cmp .NotEq (.v 3) (.c (.str "")))]))), .asg 2 (.c (.str "")), .asg 3 (.c (.str "")), .ite (.and [(.cmp .Eq (.v 4) (.c (.str "keep"))),(.cmp .NotEq (.v 1) (.lst [])),(.cmp .Eq (.ix (.ix (.v 1) (.neg (.c (.int 1)))) (.c (.int 0))) (.c (.str "keep")))]) [.set (.v 1) (.neg (.c (.int 1))) (.tup [(.c (.str "keep")),(.bin .Add (.ix (.ix (.v 1) (.neg (.c (.int 1)))) (.c (.int 1))) (.v 5))])] [.ite (.cmp .Eq (.v 4) (.c (.str "keep"))) [.drop (.bZ .append (.v 1) [(.tup [(.c (.str "keep")),(.v 5)])])] []]] []]]]
structure NX (H:Hp) (a w2 e f:Addr) (xs ys:List V) (F:List Pt) (H2:Hp):Prop where
 sm:aJ H H2
 fr:H f=none
 it:H2 w2=some (.lst (xs++ [.ref e]))
 en:H2 e=some (.tup [.str "end", .int 0])
 ne:f≠w2
 li:H2 f=some (.lst ys)
 pv:cm H2 ys F
def NI(H:Hp)(a w2 e:Addr)(xs:List V)(l r:List Nat)(ps:List Pt)(i:Nat)(σ:St)(H2:Hp):Prop:=
 ∃(f:Addr) (ys:List V) (F:List Pt) (P C:Str) (u4 u5:Option V) (l0 r0 l2 r2:List Nat),σ=[some (.ref a),some (.ref f),some (.str P),some (.str C),u4,u5]∧NX H a w2 e f xs ys F H2∧TR F∧Run l0 F r0∧sg P∧sg C∧
  l=l0++ (C.cps.toList++l2)∧r=r0++ (P.cps.toList++r2)∧Run l2 (ps.drop i) r2∧F.length≤3*i
def NF(H:Hp)(a w2 e:Addr)(xs:List V)(l r:List Nat)(n:Nat)(σ:St)(H2:Hp):Prop:=
 ∃(f:Addr) (ys:List V) (F:List Pt) (u2 u3 u4 u5:Option V),σ=[some (.ref a),some (.ref f),u2,u3,u4,u5]∧NX H a w2 e f xs ys F H2∧(∀p∈F,eZ p)∧chainOk "" F=true∧Run l F r∧F.length≤3*n+2
theorem wEP:(("end":Str)==("put":Str))=false:=by decide+kernel
theorem wEC:(("end":Str)==("cut":Str))=false:=by decide+kernel
theorem wEE:(("end":Str)==("end":Str))=true:=by decide+kernel
theorem Uc:(("end":Str)==("keep":Str))=false:=by decide+kernel
theorem wKE:(("keep":Str)==("end":Str))=false:=by decide+kernel
theorem qv{K:Frag}{H:Hp}{Q:VK}{x y:Int}(q:Q (.bl (decide (y<x))) H):cn K .Gt (.int x) (.int y) H Q:=⟨trivial,q⟩
theorem wU{x:Str}(h:sg x)(hl:x.length≤1000000):good x:=⟨hl,h⟩
section
variable {Γ:aC} {D:Ends} {H H2:Hp} {a w2 e:Addr} {xs:List V} {l r:List Nat} {ps:List Pt} {i:Nat} {σ:St}
theorem ap5(hl:l.length≤100000)(hr:r.length≤100000)(hn:ps.length≤1000)(I:NI H a w2 e xs l r ps ps.length σ H2)(hD: ∀σ H',NF H a w2 e xs l r ps.length σ H'→D.nx σ H'):
  ar Γ DK D ((σ.set 4 (some (.str "end"))).set 5 (some (.int 0))) H2:=by
 obtain⟨f,ys,F,P,C,u4,u5,l0,r0,l2,r2,rfl,X,hF,hR,sP,sC,el,er,cB,lF⟩:=I
 rw[List.drop_length] at cB
 obtain⟨rfl,rfl⟩:=TZ cB
 rw[List.append_nil] at el er
 have lP:=len_list P
 have lC:=len_list C
 have ll:l.length=l0.length+C.length:=by rw[el,zqA,lC]
 have lr:r.length=r0.length+P.length:=by rw[er,zqA,lP]
 refine bF (bA (ag rfl (au (dR ⟨_,rfl,iF ?_ wEP⟩))))
 refine bF (bA (ag rfl (au (dR ⟨_,rfl,iF ?_ wEC⟩))))
 refine bF (wu (bA (ag rfl (au (dR ⟨_,rfl,iT (iT ?_ rfl) wEE⟩)))))
 refine Ub X.li X.pv (by omega) fun f' H3 fh s3 n3 h3 p3=> ?_
 refine bF (sI (bA (ag rfl (au (dR ⟨_,rfl,iF (iF ?_ rfl) Uc⟩)))))
 refine bF (bA (ag rfl (au (dR ⟨_,rfl,iF ?_ Uc⟩))))
 refine hD _ _ ?_
 have tln:=TV P C
 refine⟨f',fh,F++tl P C,_,_,_,_,rfl,⟨X.sm.trans s3,X.sm.free n3,s3 _ _ X.it,s3 _ _ X.en,(cg X.it n3).symm,h3,p3⟩,fun p hp=> ?_, ?_, ?_, ?_⟩
 ·rcases List.mem_append.mp hp with q | q
  ·exact hF.ok p q
  ·exact TX (wU sP (by omega)) (wU sC (by omega)) p q
 ·rw[qp,hF.ch,TU hF.la];rfl
 ·rw[el,er];exact TY hR
 ·rw[zqA];omega
theorem ap7{q:Pt}{b:Addr}(hl:l.length≤100000)(hr:r.length≤100000)(hn:ps.length≤1000)(hq:ps[i]?=some q)(oq:fk q)(I:NI H a w2 e xs l r ps i σ H2)(hD: ∀σ H',NI H a w2 e xs l r ps (i+1) σ H'→D.nx σ H'):
  ar Γ DK D ((σ.set 4 (some (.str q.word))).set 5 (some q.val)) H2:=by
 obtain⟨f,ys,F,P,C,u4,u5,l0,r0,l2,r2,rfl,X,hF,hR,sP,sC,el,er,cB,lF⟩:=I
 have bC:i<ps.length:=(List.getElem?_eq_some_iff.mp hq).1
 have ed:ps.drop i=q::ps.drop (i+1):=by rw[List.drop_eq_getElem_cons bC,(List.getElem?_eq_some_iff.mp hq).2]
 rw[ed] at cB
 have lP:=len_list P
 have lC:=len_list C
 have ll:l.length=l0.length+ (C.length+l2.length):=by rw[el,zqA,zqA,lC]
 have lr:r.length=r0.length+ (P.length+r2.length):=by rw[er,zqA,zqA,lP]
 refine bF (bA (ag rfl (au (dR ⟨_,rfl, ?_⟩))))
 cases q with
 | put z=>
  obtain⟨r',e2,h'⟩:=wK cB
  have lz:=len_list z
  have lr2:r2.length=z.length+r'.length:=by rw[e2,zqA,←lz]
  refine iT ?_ Tz
  refine aV (aK (ag rfl (ag rfl ⟨bW (by omega), ?_⟩)))
  refine hD _ _ ?_
  exact⟨f,ys,F,P++z,C,_,_,l0,r0,l2,r',rfl,X,hF,hR,SA sP oq,sC,el,by rw[er,e2,app_list];simp,h',by omega⟩
 | cut z=>
  obtain⟨l',e1,h'⟩:=wL cB
  have lz:=len_list z
  have ll2:l2.length=z.length+l'.length:=by rw[e1,zqA,←lz]
  refine iF ?_ TC
  refine bF (bA (ag rfl (au (dR ⟨_,rfl,iT ?_ Tv⟩))))
  refine aV (aK (ag rfl (ag rfl ⟨bW (by omega), ?_⟩)))
  refine hD _ _ ?_
  exact⟨f,ys,F,P,C++z,_,_,l0,r0,l',r2,rfl,X,hF,hR,sP,SA sC oq,by rw[el,e1,app_list];simp,er,h',by omega⟩
 | keep n=>
  obtain⟨c,l',r',e1,e2,e3,h'⟩:=sX cB
  refine iF ?_ TB
  refine bF (bA (ag rfl (au (dR ⟨_,rfl,iF ?_ Tu⟩))))
  refine bF (wu (bA (ag rfl (au (dR ⟨_,rfl,iF ?_ wKE⟩)))))
  refine S5 (bA (ag rfl (au (qv ⟨_,rfl, ?_⟩))))
  by_cases hz:0<n
  ·refine iT ?_ (zqT hz)
   refine Ub X.li X.pv (by omega) fun f' H3 fh s3 n3 h3 p3=> ?_
   have tln:=TV P C
   have Ud: ∀p∈F++tl P C,eZ p:=fun p hp=>by
    rcases List.mem_append.mp hp with q | q
    ·exact hF.ok p q
    ·exact TX (wU sP (by omega)) (wU sC (by omega)) p q
   have ch1:chainOk "" (F++tl P C)=true:=by rw[qp,hF.ch,TU hF.la];rfl
   have lF1:(F++tl P C).length≤3*i+2:=by rw[zqA];omega
   refine apX h3 p3 (fun p hp=>Ua (Ud p hp)) (by omega) fun H4 y4 b4 h4 p4=> ?_
   refine hD _ _ ?_
   have nw:w2≠f':=cg X.it n3
   have fH:=X.sm.free n3
   have lk:=anI (F++tl P C) n
   refine⟨f',y4,gL (F++tl P C) n,"","",_,_,l0++C.cps.toList++c,r0++P.cps.toList++c,l',r',rfl,⟨ku (X.sm.trans s3) fH b4,fH,b4 _ _ (s3 _ _ X.it) nw,(b4.cY h3) _ _ (s3 _ _ X.en),nw.symm,h4,p4⟩,ap0 Ud ch1 (by omega),apZ (TY hR) e3,wj,wj, ?_, ?_,h',by omega⟩
   ·rw[el,e1];show _=_++ ([]++l');simp
   ·rw[er,e2];show _=_++ ([]++r');simp
  ·refine iF ?_ (zqF hz)
   have c0:c=[]:=List.eq_nil_of_length_eq_zero (by omega)
   refine hD _ _ ?_
   rw[c0,List.nil_append] at e1 e2
   exact⟨f,ys,F,P,C,_,_,l0,r0,l2,r2,rfl,X,hF,hR,sP,sC,el,er,by rw[e1,e2];exact h',by omega⟩
end
def tw:Sp:=fun vs H Q E=> ∃a xs ps l r,vs=[.ref a]∧H a=some (.lst xs)∧cm H xs ps∧Run l ps r∧(∀p∈ps,fk p)∧ps.length≤1000∧l.length≤100000∧r.length≤100000∧
 ∀b H' ys qs,aJ H H'→H b=none→H' b=some (.lst ys)→cm H' ys qs→(∀p∈qs,eZ p)→chainOk "" qs=true→Run l qs r→qs.length≤3*ps.length+2→Q (.ref b) H'
theorem ap9{K:Frag}(vs:List V)(H:Hp)(Q:VK)(E:XK)(h:tw vs H Q E):ar (aQ K [] [] (E:=E)) BF (Dn Q) (start BE vs) H:=by
 obtain⟨a,xs,ps,l,r,rfl,ha,de,cB,aR,hn,hl,hr,k⟩:=h
 have lx:=Paired.length de
 refine aV (gc (aH ⟨zqZ _,fun f nf=> ?_⟩))
 have s1:=sameNew (o:= .lst []) nf
 refine aV (au (aV (au ?_)))
 refine apU (body:=DK) (aK (ag rfl (gc (ao (fK (ao (au (ao (au (aH ⟨(by show 2≤sizeLine;decide),fun e ne=>aH ⟨(by show 1≤sizeLine;decide),fun g ng=> ?_⟩⟩))))))))))
 have s2:=sameNew (o:= .tup [.str "end", .int 0]) ne
 have s3:=sameNew (o:= .lst [V.ref e]) ng
 refine .inl ⟨a,g,xs,[.ref e],rfl,rfl,(s1.trans (s2.trans s3)) _ _ ha,aU,bW (by show xs.length+1≤_;omega),fun w2 nw=> ?_⟩
 have s4:=sameNew (o:= .lst (xs++ [V.ref e])) nw
 have kS:=s1.trans (s2.trans (s3.trans s4))
 have fw:f≠w2:=fun z=>by
  rw[←z] at nw
  rw[(s2.trans s3) _ _ aU] at nw;cases nw
 refine⟨w2,rfl,⟨_,aM.of aU⟩,qL (K:=K) (a:=w2) (xs:=xs++ [.ref e]) (fun i σ H2=> (i≤ps.length∧NI H a w2 e xs l r ps i σ H2)∨(i=ps.length+1∧NF H a w2 e xs l r ps.length σ H2)) ?_ ?_ ?_ ?_⟩
 ·refine .inl ⟨zqZ _,f,[],[],"","",_,_,[],[],l,r,rfl,⟨kS,nf,aU,(s3.trans s4) _ _ aU,fw,(s2.trans (s3.trans s4)) _ _ aU, .nil⟩,⟨fun p hp=> (by cases hp),rfl, .inl rfl⟩, .nil,wj,wj,rfl,rfl,cB,zqZ _⟩
 ·rintro i σ H2 _ (⟨_,f,ys,F,P,C,u4,u5,l0,r0,l2,r2,_,X,_⟩ | ⟨_,f,ys,F,u2,u3,u4,u5,_,X,_⟩)
  ·exact aM.of X.it
  ·exact aM.of X.it
 ·intro i x σ H2 hi I
  have gj:i< (xs++ [V.ref e]).length:=(List.getElem?_eq_some_iff.mp hi).1
  have hi2:i<ps.length+1:=by rw[zqA,lx] at gj;exact gj
  rcases I with⟨_,I⟩ | ⟨z,_⟩
  ·by_cases bC:i<ps.length
   ·rw[List.getElem?_append_left (by omega)] at hi
    obtain⟨q,hq,jH⟩:=de.get hi
    have sm:aJ H H2:=by obtain⟨f,ys,F,P,C,u4,u5,l0,r0,l2,r2,_,X,_⟩:=I;exact X.sm
    obtain⟨b,rfl,hb⟩:=jH.mono (bK sm)
    refine⟨b,_,rfl, .inl (bo.of hb),rfl,_,_,rfl,_,_,rfl,rfl, ?_⟩
    exact ap7 (b:=b) hl hr hn hq (aR q (List.mem_of_getElem? hq)) I fun σ' H' I'=> .inl ⟨bC,I'⟩
   ·have ei:i=ps.length:=by omega
    subst ei
    have en:H2 e=some (.tup [.str "end", .int 0]):=by obtain⟨f,ys,F,P,C,u4,u5,l0,r0,l2,r2,_,X,_⟩:=I;exact X.en
    rw[List.getElem?_append_right (by omega),lx,Nat.sub_self] at hi
    cases hi
    refine⟨e,_,rfl, .inl (bo.of en),rfl,_,_,rfl,_,_,rfl,rfl, ?_⟩
    exact ap5 hl hr hn I fun σ' H' I'=> .inr ⟨rfl,I'⟩
  ·omega
 ·rintro σ H2 (⟨h,_⟩ | ⟨_,f,ys,F,u2,u3,u4,u5,rfl,X,ok,ch,hR,lF⟩)
  ·rw[zqA,lx] at h;exact absurd h (by show ¬ps.length+1≤ps.length;omega)
  ·exact bD (ag rfl (k f H2 ys F X.sm X.fr X.li X.pv ok ch hR lF))
section
variable {Γ:aC} {D:Ends} {σ:St} {H:Hp} {r:List RS} {Q:VK}
theorem ap_{a lo hi:RE}(h:aj Γ a σ H fun x H1=>aj Γ lo σ H1 fun i H2=> ∃i':Int,i= .int i'∧aj Γ hi σ H2 fun j H3=> ∃j':Int,j= .int j'∧rA Γ.K x (some i') (some j') H3 Q):aj Γ (.sl a (some lo) (some hi)) σ H Q:=h
theorem Ue{body:List RS}{i:Nat}{x:RE}(h:aj Γ x σ H fun v H1=> ∃n:Int,[v]=[.int n]∧ -(2 ^ 62)≤n∧n<2 ^ 62∧ ∃W:Nat→Nat→St→Hp→Prop,(∃m,W 0 m σ H1)∧ ∀j m σ H,W j m σ H→
  ((iE 0 n.toNat).stop j H∧({D with nx:=ar Γ r D}:Ends).nx σ H)∨((iE 0 n.toNat).go j H∧ ∃N:St→Hp→Prop,(∀σ' H',N σ' H'→ ∃m',m'<m∧W (j+1) m' σ' H')∧ ∀x H',(iE 0 n.toNat).e_ j H x H'→dZ i x σ H' fun σ2 H2=>ar Γ body {({D with nx:=ar Γ r D}:Ends) with nx:=N,ct:=N,bk:=({D with nx:=ar Γ r D}:Ends).nx} σ2 H2)):
  ar Γ (.iN i .fQ [x] body::r) D σ H:=sU (x:=x) _ _ (fun _ _=>Iff.rfl) h
theorem tD{i:Nat}{b0:Addr}{w:Str}{e:RE}{ys:List V}(hσ:σ[i]?=some (some (.ref b0)))(hb:H b0=some (.lst ys))(h:aj Γ e σ H fun v H1=>2≤sizeLine∧ ∀t,H1 t=none→ ∃zs,upd H1 t (.tup [.str w,v]) b0=some (.lst zs)∧zs.length<sizeLine∧ar Γ r D σ (upd (upd H1 t (.tup [.str w,v])) b0 (.lst (zs++ [.ref t])))):
  ar Γ (.drop (.bZ .append (.v i) [(.tup [(.c (.str w)),e])])::r) D σ H:=
 oI (jI (ag hσ ⟨.inl ⟨rfl,_,aM.of hb⟩,fK (ao (au (ao (sU (x:=e) _ _ (fun _ _=>Iff.rfl) h))))⟩))
end
theorem push{H H1:Hp}{b0:Addr}{ys:List V}{ps:List Pt}{p:Pt}{w:Str}{v:V}{R:Hp→Prop}(s:aJ H H1)(hb:H b0=some (.lst ys))(pv:cm H ys ps)(hl:ps.length≤900000)(hw:p.word=w)(hv:p.val=v)(k: ∀H' fh,dv b0 H H'→H' b0=some (.lst fh)→cm H' fh (ps++ [p])→R H'):
  2≤sizeLine∧ ∀t,H1 t=none→ ∃zs,upd H1 t (.tup [.str w,v]) b0=some (.lst zs)∧zs.length<sizeLine∧R (upd (upd H1 t (.tup [.str w,v])) b0 (.lst (zs++ [.ref t]))):=by
 refine⟨by decide,fun t ft=> ?_⟩
 have s2:=s.trans (sameNew (o:= .tup [.str w,v]) ft)
 have lx:=Paired.length pv
 have bb:dv b0 H (upd (upd H1 t (.tup [.str w,v])) b0 (.lst (ys++ [.ref t]))):=fun b o e ne=>by rw[a_ ne];exact s2 _ _ e
 have nt:t≠b0:=fun z=>by rw[z,s _ _ hb] at ft;cases ft
 refine⟨ys,s2 _ _ hb,jG (by omega),k _ _ bb aU ?_⟩
 exact B.Paired.app (pv.mono (bb.cY hb)) (.cons ⟨t,rfl,by rw[a_ nt,aU,hw,hv]⟩ .nil)
def DL:List RS:=[.asg 5 (.call 0 [(.v 0),(.bin .Add (.c (.int 40)) (.v 4))]), .ite (.cmp .Eq (.bin .Mod (.v 5) (.c (.int 3))) (.c (.int 0))) [.drop (.bZ .append (.v 2) [(.tup [(.c (.str "put")),(.call 1 [(.v 5),(.bin .Add (.c (.int 1)) (.bin .Mult (.bin .Mod (.bin .FloorDiv (.v 5) (.c (.int 3))) (.c (.int 4))) (.bin .Add (.c (.int 1)) (.bin .Mod (.bin .FloorDiv (.v 5) (.c (.int 12))) (.c (.int 3))))))])])])] [], .asg 6 (.blt .min [(.bin .Sub (.blt .len [(.v 1)]) (.v 3)),(.bin .Mod (.bin .FloorDiv (.v 5) (.c (.int 36))) (.bin .Add (.c (.int 2)) (.bin .FloorDiv (.blt .len [(.v 1)]) (.c (.int 3)))))]), .ite (.and [(.cmp .Eq (.bin .Mod (.bin .FloorDiv (.v 5) (.c (.int 5))) (.c (.int 3))) (.c (.int 0))),(.cmp .Gt (.v 6) (.c (.int 0)))]) [.drop (.bZ .append (.v 2) [(.tup [(.c (.str "cut")),(.sl (.v 1) (some (.v 3)) (some (.bin .Add (.v 3) (.v 6))))])])] [.drop (.bZ .append (.v 2) [(.tup [(.c (.str "keep")),(.v 6)])])], .asg 3 (.bin .Add (.v 3) (.v 6))]
def aqa:List RS:=[.drop (.bZ .append (.v 2) [(.tup [(.c (.str "keep")),(.bin .Sub (.blt .len [(.v 1)]) (.v 3))])]), .ite (.cmp .Eq (.bin .Mod (.bin .FloorDiv (.v 0) (.c (.int 7))) (.c (.int 3))) (.c (.int 0))) [.drop (.bZ .append (.v 2) [(.tup [(.c (.str "put")),(.call 1 [(.v 0),(.bin .Add (.c (.int 1)) (.bin .Mod (.bin .FloorDiv (.v 0) (.c (.int 21))) (.c (.int 5))))])])])] [], .ret (.call 2 [(.v 2)])]
def CB(H:Hp)(c:Int)(x:Str)(i:Nat)(σ:St)(H2:Hp):Prop:=
 ∃(b0:Addr) (ys:List V) (ps:List Pt) (l1 l2 r1:List Nat) (u4 u5 u6:Option V),σ=[some (.int c),some (.str x),some (.ref b0),some (.int (l1.length:Nat)),u4,u5,u6]∧aJ H H2∧H b0=none∧H2 b0=some (.lst ys)∧cm H2 ys ps∧x.cps.toList=l1++l2∧Run l1 ps r1∧
  (∀p∈ps,fk p)∧ps.length≤2*i∧r1.length≤l1.length+10*i
def tE:Sp:=fun vs H Q E=> ∃c x,vs=[.int c, .str x]∧good x∧x.length≤10000∧ ∀b H' ys qs r,aJ H H'→H b=none→H' b=some (.lst ys)→cm H' ys qs→(∀p∈qs,eZ p)→chainOk "" qs=true→Run x.cps.toList qs r→r.length≤x.length+100→qs.length≤60→Q (.ref b) H'
abbrev dq:List (Str×Sp):=[("_law_mixed",e9),("_law_text_by",jN),("_law_neat",tw)]
theorem aqb{K:Frag}{E:XK}{D:Ends}{H H2:Hp}{c:Int}{x:Str}{i:Nat}{σ:St}{kv:V}(hx:good x)(hl:x.length≤10000)(hi:i<7)(hk:kv= .int (0+ (i:Int)))(I:CB H c x i σ H2)(hD: ∀σ H',CB H c x (i+1) σ H'→D.nx σ H'):
  ar (aQ K dq [] (E:=E)) DL D (σ.set 4 (some kv)) H2:=by
 obtain⟨b0,ys,ps,l1,l2,r1,u4,u5,u6,rfl,sm,fr,hb,pv,ex,hR,aR,lp,lr⟩:=I
 subst hk
 have lx:x.length=l1.length+l2.length:=by rw[len_list,ex,zqA]
 refine aV (bx e9 rfl (ao (ag rfl (ao (aK (au (ag rfl (bM (aH ⟨_,_,rfl,fun m hm=> ?_⟩)))))))))
 have c3:(0:Int) <3:=by decide
 have c4:(0:Int) <4:=by decide
 have go: ∀(H3:Hp) (DM:List V) (oU:List Pt) (r3:List Nat),aJ H H3→H3 b0=some (.lst DM)→cm H3 DM oU→Run l1 oU r3→(∀p∈oU,fk p)→oU.length≤2*i+1→r3.length≤l1.length+10*i+10→
   ar (aQ K dq [] (E:=E)) (DL.drop 2) D [some (.int c),some (.str x),some (.ref b0),some (.int (l1.length:Nat)),some (.int (0+ (i:Int))),some (.int m),u6] H3:=by
  intro H3 DM oU r3 s3 h3 p3 R3 tF lp3 Ug
  refine aV (eA (ao (aK (eB (ag rfl ⟨bW hx.1,ag rfl ⟨trivial,ao (aK (aK (ag rfl (au ⟨⟨by decide,by decide⟩,aK (au (aK (eB (ag rfl ⟨bW hx.1,au ⟨⟨by decide,by decide⟩,bM ⟨?_,aH ?_⟩⟩⟩))))⟩))))⟩⟩)))))
  ·show(0:Int) <2+ (x.length:Int) / 3
   omega
  have g0:0≤m / 36 % (2+ (x.length:Int) / 3):=Int.emod_nonneg _ (by omega)
  obtain⟨z,ez⟩: ∃z:Int,z=(if m / 36 % (2+ (x.length:Int) / 3) < (x.length:Int) - (l1.length:Nat) then m / 36 % (2+ (x.length:Int) / 3) else (x.length:Int) - (l1.length:Nat)):=⟨_,rfl⟩
  have z0:0≤z∧z≤l2.length:=by rw[ez];split<;>omega
  show ar _ _ D [some (.int c),some (.str x),some (.ref b0),some (.int (l1.length:Nat)),some (.int (0+ (i:Int))),some (.int m),some (.int (if m / 36 % (2+ (x.length:Int) / 3) < (x.length:Int) - (l1.length:Nat) then m / 36 % (2+ (x.length:Int) / 3) else (x.length:Int) - (l1.length:Nat)))] H3
  rw[←ez]
  obtain⟨la,lb,el,DN⟩: ∃la lb,l2=la++lb∧z=la.length:=⟨l2.take z.toNat,l2.drop z.toNat,(List.take_append_drop _ _).symm,by rw[List.length_take];omega⟩
  have fin: ∀(H4:Hp) (wV:List V) (p4:List Pt) (r4:List Nat),aJ H H4→H4 b0=some (.lst wV)→cm H4 wV p4→Run (l1++la) p4 r4→(∀p∈p4,fk p)→p4.length≤2*i+2→r4.length≤ (l1++la).length+10*i+10→
    ar (aQ K dq [] (E:=E)) [.asg 3 (.bin .Add (.v 3) (.v 6))] D [some (.int c),some (.str x),some (.ref b0),some (.int (l1.length:Nat)),some (.int (0+ (i:Int))),some (.int m),some (.int z)] H4:=by
   intro H4 wV p4 r4 s4 h4 v4 R4 DO lp4 lr4
   refine aV (aK (ag rfl (ag rfl (bM ?_))))
   refine hD _ _ ⟨b0,wV,p4,l1++la,lb,r4,some (.int (0+ (i:Int))),some (.int m),some (.int z), ?_,s4,fr,h4,v4,by rw[ex,el,List.append_assoc],R4,DO,by omega,by omega⟩
   show[_,_,_,some (V.int ((l1.length:Int)+z)),_,_,_]=_
   rw[zqA,DN];rfl
  refine bF (qc (bA (aK (aK (ag rfl (au ⟨⟨by decide,by decide⟩,au ⟨c3,au (gf ⟨_,rfl, ?_⟩)⟩⟩))))))
  have Uh:ar (aQ K dq [] (E:=E)) [.drop (.bZ .append (.v 2) [(.tup [(.c (.str "keep")),(.v 6)])])] {D with nx:=ar (aQ K dq [] (E:=E)) [.asg 3 (.bin .Add (.v 3) (.v 6))] D} [some (.int c),some (.str x),some (.ref b0),some (.int (l1.length:Nat)),some (.int (0+ (i:Int))),some (.int m),some (.int z)] H3:=by
   refine tD rfl h3 (ag rfl (push (p:= .keep z) (aJ.refl _) h3 p3 (by omega) rfl rfl fun H4 y4 b4 h4 p4=> ?_))
   refine fin H4 y4 _ (r3++la) (ku s3 fr b4) h4 p4 (R3.app (wR DN)) (fun p hp=> ?_) ?_ ?_
   ·rcases List.mem_append.mp hp with q | q
    ·exact tF p q
    ·rw[List.mem_singleton.mp q];trivial
   ·rw[zqA];show oU.length+1≤_;omega
   ·rw[zqA,zqA];omega
  by_cases q5:m / 5 % 3=0
  ·refine iT ?_ (zqT q5)
   refine bA (ag rfl (au (qv ⟨_,rfl, ?_⟩)))
   by_cases qz:0<z
   ·refine iT ?_ (zqT qz)
    refine tD rfl h3 (ap_ (ag rfl (ag rfl ⟨_,rfl,aK (ag rfl (ag rfl (bM ⟨_,rfl,bW hx.1, ?_⟩)))⟩)))
    have ec:g6 x (some ((l1.length:Nat):Int)) (some (((l1.length:Nat):Int)+z))=⟨la.toArray⟩:=SJ (by rw[ex,el]) z DN
    rw[ec]
    refine push (p:= .cut ⟨la.toArray⟩) (aJ.refl _) h3 p3 (by omega) rfl rfl fun H4 y4 b4 h4 p4=> ?_
    have Rc:Run la [.cut ⟨la.toArray⟩] []:=by
     have:=Run.cut (s:=⟨la.toArray⟩) Run.nil
     rw[List.append_nil] at this;exact this
    refine fin H4 y4 _ (r3++ []) (ku s3 fr b4) h4 p4 (R3.app Rc) (fun p hp=> ?_) ?_ ?_
    ·rcases List.mem_append.mp hp with q | q
     ·exact tF p q
     ·rw[List.mem_singleton.mp q]
      intro d hd
      have e2:x.cps.toList=l1++ (la++lb):=by rw[ex,el]
      exact hx.2 d (by rw[e2];simp at hd;simp[hd])
    ·rw[zqA];show oU.length+1≤_;omega
    ·rw[zqA,zqA];show r3.length+0≤_;omega
   ·exact iF Uh (zqF qz)
  ·exact iF (iF Uh rfl) (zqF q5)
 refine bF (bA (aK (ag rfl (au ⟨c3,au (gf ⟨_,rfl, ?_⟩)⟩))))
 by_cases q3:m % 3=0
 ·refine iT ?_ (zqT q3)
  have A0:0≤m / 3 % 4∧m / 3 % 4<4:=⟨Int.emod_nonneg _ (by decide),Int.emod_lt_of_pos _ (by decide)⟩
  have B0:0≤m / 12 % 3∧m / 12 % 3<3:=⟨Int.emod_nonneg _ (by decide),Int.emod_lt_of_pos _ (by decide)⟩
  have AB:m / 3 % 4* (1+m / 12 % 3)≤3*3:=Int.mul_le_mul (by omega) (by omega) (by omega) (by decide)
  have AB0:0≤m / 3 % 4* (1+m / 12 % 3):=Int.mul_nonneg (by omega) (by omega)
  refine tD rfl hb (bx jN rfl (ao (ag rfl (ao (aK (au (aK (aK (aK (ag rfl (au ⟨⟨by decide,by decide⟩,au ⟨c4,aK (au (aK (aK (ag rfl (au ⟨⟨by decide,by decide⟩,au ⟨c3,bM ?_⟩⟩)))))⟩⟩)))))))))))
  refine⟨.inl ⟨by omega,by omega⟩,bM (aH ⟨_,_,rfl,by omega,by omega,fun z H3 gz lz s3=> ?_⟩)⟩
  refine push (p:= .put z) s3 hb pv (by omega) rfl rfl fun H4 y4 b4 h4 p4=> ?_
  have Rp:Run [] [.put z] z.cps.toList:=by
   have:=Run.put (s:=z) Run.nil
   rw[List.append_nil] at this;exact this
  have R4:Run l1 (ps++ [.put z]) (r1++z.cps.toList):=by
   have:=hR.app Rp
   rw[List.append_nil] at this;exact this
  have tG:=len_list z
  refine go H4 y4 _ _ (ku sm fr b4) h4 p4 R4 (fun p hp=> ?_) ?_ ?_
  ·rcases List.mem_append.mp hp with q | q
   ·exact aR p q
   ·rw[List.mem_singleton.mp q];exact gz.2
  ·rw[zqA];show ps.length+1≤_;omega
  ·rw[zqA];omega
 ·exact iF (bR (go H2 ys ps r1 sm hb pv hR aR (by omega) (by omega))) (zqF q3)
theorem aqe{K:Frag}(vs:List V)(H:Hp)(Q:VK)(E:XK)(h:tE vs H Q E):ar (aQ K dq [] (E:=E)) eV (Dn Q) (start jx vs) H:=by
 obtain⟨c,x,rfl,hx,hl,k⟩:=h
 have m7:0≤c % 7∧c % 7<7:=⟨Int.emod_nonneg _ (by decide),Int.emod_lt_of_pos _ (by decide)⟩
 have c3:(0:Int) <3:=by decide
 have c5:(0:Int) <5:=by decide
 have c7:(0:Int) <7:=by decide
 refine aV (gc (aH ⟨zqZ _,fun b0 n0=> ?_⟩))
 have s1:=sameNew (o:= .lst []) n0
 refine aV (au ?_)
 refine Ue (body:=DL) (r:=aqa) (aK (au (aK (ag rfl (au ⟨c7,bM ⟨1+c % 7,rfl,by omega,by omega,yB (lo:=0) (n:=(1+c % 7).toNat) (CB H c x) ?_ ?_ ?_⟩⟩)))))
 ·exact⟨b0,[],[],[],_,[],none,none,none,rfl,s1,n0,aU, .nil,rfl, .nil,fun p hp=> (by cases hp),zqZ _,zqZ _⟩
 ·intro i σ H2 hi I
  exact aqb hx hl (by omega) rfl I fun σ' H' I'=>I'
 ·rintro σ H2 ⟨b0,ys,ps,l1,l2,r1,u4,u5,u6,rfl,sm,fr,hb,pv,ex,hR,aR,lp,lr⟩
  have lx:x.length=l1.length+l2.length:=by rw[len_list,ex,zqA]
  refine tD rfl hb (aK (eB (ag rfl ⟨bW hx.1,ag rfl ⟨trivial,push (p:= .keep ((x.length:Int) - (l1.length:Nat))) (aJ.refl _) hb pv (by omega) rfl rfl fun H3 y3 b3 h3 p3=> ?_⟩⟩)))
  have R3:Run x.cps.toList (ps++ [.keep ((x.length:Int) - (l1.length:Nat))]) (r1++l2):=by rw[ex];exact hR.app (wR (by omega))
  have tF: ∀p∈ps++ [Pt.keep ((x.length:Int) - (l1.length:Nat))],fk p:=fun p hp=>by
   rcases List.mem_append.mp hp with q | q
   ·exact aR p q
   ·rw[List.mem_singleton.mp q];trivial
  have l3:(ps++ [Pt.keep ((x.length:Int) - (l1.length:Nat))]).length=ps.length+1:=by rw[zqA];rfl
  have Ug:(r1++l2).length=r1.length+l2.length:=zqA
  have Ui:=ku sm fr b3
  have fin: ∀(H4:Hp) (y4:List V) (p4:List Pt) (r4:List Nat),aJ H H4→H4 b0=some (.lst y4)→cm H4 y4 p4→Run x.cps.toList p4 r4→(∀p∈p4,fk p)→p4.length≤16→r4.length≤x.length+80→
    ar (aQ K dq [] (E:=E)) [.ret (.call 2 [(.v 2)])] (Dn Q) [some (.int c),some (.str x),some (.ref b0),some (.int (l1.length:Nat)),u4,u5,u6] H4:=by
   intro H4 y4 p4 r4 s4 h4 v4 R4 DO lp4 lr4
   refine bD (bx tw rfl (ao (ag rfl (aH ⟨b0,y4,p4,_,r4,rfl,h4,v4,R4,DO,by omega,by rw[←len_list];omega,by omega,fun b H5 y5 qs s5 n5 h5 v5 ok5 ch5 R5 l5=> ?_⟩))))
   exact k b H5 y5 qs r4 (s4.trans s5) (s4.free n5) h5 v5 ok5 ch5 R5 (by omega) (by omega)
  refine bF (bA (aK (aK (ag rfl (au ⟨⟨by decide,by decide⟩,au ⟨c3,au (gf ⟨_,rfl, ?_⟩)⟩⟩)))))
  by_cases q3:c / 7 % 3=0
  ·refine iT ?_ (zqT q3)
   have B0:0≤c / 21 % 5∧c / 21 % 5<5:=⟨Int.emod_nonneg _ (by decide),Int.emod_lt_of_pos _ (by decide)⟩
   refine tD rfl h3 (bx jN rfl (ao (ag rfl (ao (aK (au (aK (aK (ag rfl (au ⟨⟨by decide,by decide⟩,au ⟨c5,bM (aH ⟨_,_,rfl,by omega,by omega,fun z H4 gz lz s4=> ?_⟩)⟩⟩))))))))))
   refine push (p:= .put z) s4 h3 p3 (by omega) rfl rfl fun H5 y5 b5 h5 p5=> ?_
   have Rp:Run [] [.put z] z.cps.toList:=by
    have:=Run.put (s:=z) Run.nil
    rw[List.append_nil] at this;exact this
   have R5:=R3.app Rp
   rw[List.append_nil] at R5
   have tG:=len_list z
   refine fin H5 y5 _ _ (ku Ui fr b5) h5 p5 R5 (fun p hp=> ?_) ?_ ?_
   ·rcases List.mem_append.mp hp with q | q
    ·exact tF p q
    ·rw[List.mem_singleton.mp q];exact gz.2
   ·rw[zqA,l3];show ps.length+1+1≤_;omega
   ·rw[zqA,Ug];omega
  ·exact iF (bR (fin H3 y3 _ _ Ui h3 p3 R3 tF (by omega) (by omega))) (zqF q3)
theorem Uj(S:List Nat)(l:Tr)(a b c:Int)(r:Tr):txt S (Tr.node l a b c r).av=txt S l.av++ (seg S (a,b,c)++txt S r.av):=by rw[Tr.av,sS,cW]
theorem Uk{S:List Nat}{t:Tr}(h: ∀q∈t.av,bU S q):t.en=((txt S t.av).count 10:Nat):=by rw[wF,DA h]
theorem Ul{S:List Nat}{t:Tr}(h: ∀q∈t.av,bU S q):t.sz=((txt S t.av).length:Nat):=by rw[gg,←qh h]
theorem DP{lt lb lf:Addr}{n:Int}:(dJ lt lb lf n).lookup ("ends_ahead":Str)=none:=sA (by decide+kernel) (by decide+kernel) (by decide+kernel) (by decide+kernel)
theorem aqh{lt lb lf:Addr}{n:Int}:(dJ lt lb lf n).lookup ("end_place":Str)=none:=sA (by decide+kernel) (by decide+kernel) (by decide+kernel) (by decide+kernel)
theorem dE{K:Frag}{H:Hp}{Q:VK}{i j:Int}(h:Q (.int (i - j)) H):kc K .Sub (.int i) (.int j) H Q:=⟨trivial,h⟩
theorem DQ{K:Frag}{H:Hp}{Q:VK}{x y:Int}(q:Q (.bl (decide (x≤y))) H):cn K .LtE (.int x) (.int y) H Q:=⟨trivial,q⟩
theorem ltI{K:Frag}{H:Hp}{Q:VK}{x y:Int}(q:Q (.bl (decide (x<y))) H):cn K .Lt (.int x) (.int y) H Q:=⟨trivial,q⟩
theorem Um{K:Frag}{H:Hp}{Q:VK}{x y:Int}(q:Q (.bl (decide (y≤x))) H):cn K .GtE (.int x) (.int y) H Q:=⟨trivial,q⟩
def tH(C:Addr):Sp:=fun vs H Q E=> ∃(v:V) (t:Tr) (pl:Int) (s dx lt lb lf:Addr) (ts:List Str),vs=[v, .int pl, .ref s]∧Nd H t v∧(∀q∈t.av,bU (ax ts) q)∧b8 C H s dx lt lb lf ts∧0≤pl∧pl≤t.sz∧
 Q (.int ((((txt (ax ts) t.av).take pl.toNat).count 10:Nat):Int)) H
theorem aqi{K:Frag}{C:Addr}(vs:List V)(H:Hp)(Q:VK)(E:XK)(h:tH C vs H Q E):ar (aQ K [("size_of",eO),("ends_of",e7)] [] [] [("ends_ahead",C,ie C)] (E:=E)) BJ (Dn Q) (start BI vs) H:=by
 obtain⟨v,t,pl,s,dx,lt,lb,lf,ts,rfl,hn,hp,S,h0,h1,k⟩:=h
 obtain⟨kT,et⟩: ∃kT:Int,kT=((((txt (ax ts) t.av).take pl.toNat).count 10:Nat):Int):=⟨_,rfl⟩
 rw[←et] at k
 refine aV (au ?_)
 refine oJ (fun m σ H2=> ∃(v:V) (t:Tr) (pl e:Int) (u4 u5 u6 u7:Option V),σ=[some v,some (.int pl),some (.ref s),some (.int e),u4,u5,u6,u7]∧H2=H∧Nd H t v∧(∀q∈t.av,bU (ax ts) q)∧0≤pl∧pl≤t.sz∧kT=e+ ((((txt (ax ts) t.av).take pl.toNat).count 10:Nat):Int)∧m=t.av.length)
  ⟨_,v,t,pl,0,none,none,none,none,rfl,rfl,hn,hp,h0,h1,by omega,rfl⟩ ?_
 rintro m σ H2 ⟨v,t,pl,e,u4,u5,u6,u7,rfl,rfl,hn,hp,h0,h1,et,rfl⟩
 refine bA (ag rfl (au ?_))
 cases t with
 | nil=>
  cases hn
  refine⟨rfl,_,rfl,iF ?_ rfl⟩
  refine bD (ag rfl ?_)
  have:kT=e:=by rw[et];show e+ (((([]:List Nat).take pl.toNat).count 10:Nat):Int)=e;simp
  rw[←this];exact k
 | node l a b c r=>
  obtain⟨p,q,vl,vr,rfl,e8,hq,i6,sN⟩:=hn
  have gO: ∀x∈l.av,bU (ax ts) x:=fun x hx=>hp x (by simp[Tr.av,hx])
  have sQ: ∀x∈r.av,bU (ax ts) x:=fun x hx=>hp x (by simp[Tr.av,hx])
  have pc:=hp (a,b,c) (by simp[Tr.av])
  have q0:0≤a:=pc.p0
  have q1:1≤b:=pc.p1
  have q2:a+b≤ (ax ts).length:=pc.p2
  have q3:c=((seg (ax ts) (a,b,c)).count 10:Nat):=pc.p3
  have ql:((seg (ax ts) (a,b,c)).length:Int)=b:=pc.len
  have zl:=Ul gO
  have el:=Uk gO
  have zs:(Tr.node l a b c r).sz=l.sz+b+r.sz:=rfl
  rw[zs] at h1
  rw[Uj] at et
  refine⟨rfl,_,rfl,iT ?_ rfl⟩
  refine⟨fun σ' H'=> ∃m',m'< (Tr.node l a b c r).av.length∧ ∃(v:V) (t:Tr) (pl e:Int) (u4 u5 u6 u7:Option V),σ'=[some v,some (.int pl),some (.ref s),some (.int e),u4,u5,u6,u7]∧H'=H2∧Nd H2 t v∧(∀q∈t.av,bU (ax ts) q)∧0≤pl∧pl≤t.sz∧kT=e+ ((((txt (ax ts) t.av).take pl.toNat).count 10:Nat):Int)∧m'=t.av.length,fun σ' H' h=>h, ?_⟩
  refine aV (ba (ag rfl (au (aF e8 rfl ?_))))
  refine aV (bx eO rfl (ao (ba (ag rfl (au (aF e8 rfl (aH ⟨vl,l,rfl,i6, ?_⟩)))))))
  refine aV (aK (ag rfl (ba (ag rfl (au (aF hq rfl (bM ?_)))))))
  refine bF (bA (ag rfl (ag rfl (DQ ⟨_,rfl, ?_⟩))))
  by_cases g1:pl≤l.sz
  ·refine iT ?_ (zqT g1)
   refine aV (ba (ag rfl (au (aF e8 rfl ?_))))
   refine⟨_,(by rw[Tr.av,zqA,List.length_cons];omega),vl,l,pl,e,_,_,_,_,rfl,rfl,i6,gO,h0,g1, ?_,rfl⟩
   rw[et,List.take_append_of_le_length (by omega)]
  ·refine iF ?_ (zqF g1)
   refine bF (bA (ag rfl (ag rfl (ltI ⟨_,rfl, ?_⟩))))
   by_cases g2:pl<l.sz+b
   ·refine iT ?_ (zqT g2)
    refine aV (aK (fL C (ie C) rfl (ag rfl ⟨s,dx,_,rfl,S.ob,DP,aK (aK (ba (ag rfl (au (aF hq rfl (ag rfl (bM (ag rfl (dE ?_)))))))))⟩)))
    refine⟨s,dx,lt,lb,lf,ts,_,rfl,S,by omega, ?_⟩
    refine fL C (ie C) rfl (ag rfl ⟨s,dx,_,rfl,S.ob,DP,ba (ag rfl (au (aF hq rfl ⟨s,dx,lt,lb,lf,ts,_,rfl,S,q0,dE ?_⟩)))⟩)
    refine bD (aK (aK (ag rfl (bx e7 rfl (ao (ba (ag rfl (au (aF e8 rfl (aH ⟨vl,l,rfl,i6,bM (ag rfl (bM ?_))⟩))))))))))
    have cc:=Th (S:=ax ts) (a:=a) (n:=pl - l.sz) q0 (by omega) c
    have e1:a+pl - l.sz=a+ (pl - l.sz):=by omega
    have key:e+l.en+ (ends ts (a+pl - l.sz) - ends ts a)=kT:=by
     rw[e1,et]
     have e2:ends ts (a+ (pl - l.sz)) - ends ts a=((seg (ax ts) (a,pl - l.sz,c)).count 10:Nat):=cc
     rw[e2,el]
     have e3:(txt (ax ts) l.av++ (seg (ax ts) (a,b,c)++txt (ax ts) r.av)).take pl.toNat=txt (ax ts) l.av++ (seg (ax ts) (a,b,c)).take (pl - l.sz).toNat:=by
      rw[show pl.toNat=(txt (ax ts) l.av).length+ (pl - l.sz).toNat by omega,List.take_length_add_append,List.take_append_of_le_length (by omega)]
     rw[e3,List.count_append]
     have e4:(seg (ax ts) (a,b,c)).take (pl - l.sz).toNat=seg (ax ts) (a,pl - l.sz,c):=by
      unfold seg
      show(((ax ts).drop a.toNat).take b.toNat).take (pl - l.sz).toNat=((ax ts).drop a.toNat).take (pl - l.sz).toNat
      rw[List.take_take];congr 1;omega
     rw[e4];omega
    rw[key];exact k
   ·refine iF ?_ (zqF g2)
    refine aV (aK (aK (ag rfl (bx e7 rfl (ao (ba (ag rfl (au (aF e8 rfl (aH ⟨vl,l,rfl,i6,bM (ba (ag rfl (au (aF hq rfl (bM ?_)))))⟩))))))))))
    refine aV (aK (ag rfl (ag rfl (dE ?_))))
    refine aV (ba (ag rfl (au (aF e8 rfl ?_))))
    refine⟨_,(by rw[Tr.av,zqA,List.length_cons];omega),vr,r,pl - (l.sz+b),e+l.en+c,_,_,_,_,rfl,rfl,sN,sQ,by omega,by omega, ?_,rfl⟩
    rw[et,show pl.toNat=(txt (ax ts) l.av).length+ ((seg (ax ts) (a,b,c)).length+ (pl - (l.sz+b)).toNat) by omega,List.take_length_add_append,List.take_length_add_append,List.count_append,List.count_append,el]
    omega
def tI(C:Addr):Sp:=fun vs H Q E=> ∃(p dx lt lb lf:Addr) (ts:List Str) (n:Int) (j:Nat),vs=[.ref p, .int n]∧b8 C H p dx lt lb lf ts∧0≤n∧(pos 10 (ax ts) 0)[n.toNat]?=some j∧Q (.int j) H
theorem aqj{K:Frag}{C:Addr}(T:pH K C)(vs:List V)(H:Hp)(Q:VK)(E:XK)(h:tI C vs H Q E):ar (aQ K [] [] (E:=E)) BN (Dn Q) (start BM vs) H:=by
 obtain⟨p,dx,lt,lb,lf,ts,n,j,rfl,S,hn,hj,q⟩:=h
 refine bD (ba (dI (ag rfl ⟨p,C,dx,_,_,rfl,S.ob,T.cl,T.vS,Dh,ag rfl (eo S.fd ?_ q)⟩)))
 have e:=jj (xs:=(eY 10 (ax ts)).map V.int) (j:=n.toNat) (v:= .int j) (by rw[List.getElem?_map,eY,List.getElem?_map,hj];rfl)
 rw[show((n.toNat:Nat):Int)=n by omega] at e
 exact e
theorem aqk{S:List Nat}{l r:Tr}{a b c:Int}:pos 10 (txt S (Tr.node l a b c r).av) 0=pos 10 (txt S l.av) 0++ ((pos 10 (seg S (a,b,c)) 0).map ((txt S l.av).length+ ·)++ (pos 10 (txt S r.av) 0).map ((txt S l.av).length+ (seg S (a,b,c)).length+ ·)):=by
 rw[Uj,jE,jE]
 have e1:=sq 10 (seg S (a,b,c)) (txt S l.av).length 0
 have e2:=sq 10 (txt S r.av) ((txt S l.av).length+ (seg S (a,b,c)).length) 0
 rw[Nat.add_zero] at e1 e2
 rw[Nat.zero_add,e1,e2]
def jO(C:Addr):Sp:=fun vs H Q E=> ∃(v:V) (t:Tr) (n:Int) (s dx lt lb lf:Addr) (ts:List Str) (j:Nat),vs=[v, .int n, .ref s]∧Nd H t v∧(∀q∈t.av,bU (ax ts) q)∧b8 C H s dx lt lb lf ts∧0≤n∧(pos 10 (txt (ax ts) t.av) 0)[n.toNat]?=some j∧Q (.int j) H
def tJ(H:Hp)(s:Addr)(S:List Nat)(kT:Int)(m:Nat)(σ:St)(H2:Hp):Prop:=
 ∃(v:V) (t:Tr) (n e:Int) (j:Nat) (u4 u5:Option V),σ=[some v,some (.int n),some (.ref s),some (.int e),u4,u5]∧H2=H∧Nd H t v∧(∀q∈t.av,bU S q)∧0≤n∧(pos 10 (txt S t.av) 0)[n.toNat]?=some j∧kT=e+j∧m=t.av.length
abbrev DR(C:Addr):List (Str×Addr×Sp):=[("end_place",C,tI C),("ends_ahead",C,ie C)]
theorem aql{K:Frag}{C:Addr}(vs:List V)(H:Hp)(Q:VK)(E:XK)(h:jO C vs H Q E):ar (aQ K [("ends_of",e7),("size_of",eO)] [] [] (DR C) (E:=E)) BL (Dn Q) (start BK vs) H:=by
 obtain⟨v,t,n,s,dx,lt,lb,lf,ts,j,rfl,hn,hp,S,h0,hj,k⟩:=h
 refine aV (au ?_)
 refine oJ (tJ H s (ax ts) (j:Int)) ⟨_,v,t,n,0,j,none,none,rfl,rfl,hn,hp,h0,hj,by omega,rfl⟩ ?_
 rintro m σ H2 ⟨v,t,n,e,j',u4,u5,rfl,rfl,hn,hp,h0,bP,et,rfl⟩
 cases t with
 | nil=>exact absurd bP (by show ¬([]:List Nat)[n.toNat]?=some j';simp)
 | node l a b c r=>
  obtain⟨p,q,vl,vr,rfl,e8,hq,i6,sN⟩:=hn
  have gO: ∀x∈l.av,bU (ax ts) x:=fun x hx=>hp x (by simp[Tr.av,hx])
  have sQ: ∀x∈r.av,bU (ax ts) x:=fun x hx=>hp x (by simp[Tr.av,hx])
  have pc:=hp (a,b,c) (by simp[Tr.av])
  have q0:0≤a:=pc.p0
  have q1:1≤b:=pc.p1
  have q2:a+b≤ (ax ts).length:=pc.p2
  have q3:c=((seg (ax ts) (a,b,c)).count 10:Nat):=pc.p3
  have ql:((seg (ax ts) (a,b,c)).length:Int)=b:=pc.len
  have zl:=Ul gO
  have el:=Uk gO
  rw[aqk] at bP
  have L1:=eM 10 (txt (ax ts) l.av) 0
  have L2:((pos 10 (seg (ax ts) (a,b,c)) 0).map ((txt (ax ts) l.av).length+ ·)).length=(seg (ax ts) (a,b,c)).count 10:=by rw[List.length_map,eM]
  have rL: ∀{σ:St} {Q1:VK},σ[0]?=some (some (.ref p))→Q1 (.int l.en) H2→aj (aQ K [("ends_of",e7),("size_of",eO)] [] [] (DR C) (E:=E)) (.call 0 [(.ix (.v 0) (.c (.int 0)))]) σ H2 Q1:=fun e0 q=>bx e7 rfl (ao (ba (ag e0 (au (aF e8 rfl (aH ⟨vl,l,rfl,i6,q⟩))))))
  have rZ: ∀{σ:St} {Q1:VK},σ[0]?=some (some (.ref p))→Q1 (.int l.sz) H2→aj (aQ K [("ends_of",e7),("size_of",eO)] [] [] (DR C) (E:=E)) (.call 1 [(.ix (.v 0) (.c (.int 0)))]) σ H2 Q1:=fun e0 q=>bx eO rfl (ao (ba (ag e0 (au (aF e8 rfl (aH ⟨vl,l,rfl,i6,q⟩))))))
  refine kD (bA (ag rfl (rL rfl (ltI ⟨_,rfl, ?_⟩))))
  have less: ∀m',m'< (Tr.node l a b c r).av.length→ ∀σ' H',tJ H2 s (ax ts) (j:Int) m' σ' H'→ ∃m',m'< (Tr.node l a b c r).av.length∧tJ H2 s (ax ts) (j:Int) m' σ' H':=fun m' h σ' H' x=> ⟨m',h,x⟩
  have aEL:(Tr.node l a b c r).av.length=l.av.length+ (r.av.length+1):=by rw[Tr.av,zqA,List.length_cons]
  by_cases g1:n<l.en
  ·refine iT (iT ?_ rfl) (zqT g1)
   refine⟨tJ H2 s (ax ts) (j:Int) l.av.length,less _ (by omega), ?_⟩
   refine bF (bA (ag rfl (rL rfl (ltI ⟨_,rfl,iT ?_ (zqT g1)⟩))))
   refine aV (ba (ag rfl (au (aF e8 rfl ?_))))
   refine⟨vl,l,n,e,j',u4,u5,rfl,rfl,i6,gO,h0, ?_,et,rfl⟩
   rw[List.getElem?_append_left (by omega)] at bP
   exact bP
  ·refine iF ?_ (zqF g1)
   rw[List.getElem?_append_right (by omega),L1] at bP
   refine bA (ag rfl (aK (rL rfl (ba (ba (ag rfl (au (aF e8 rfl (au (aF hq rfl (bM (Um ⟨_,rfl, ?_⟩))))))))))))
   by_cases g2:l.en+c≤n
   ·refine iT ?_ (zqT g2)
    refine⟨tJ H2 s (ax ts) (j:Int) r.av.length,less _ (by omega), ?_⟩
    refine bF (bA (ag rfl (rL rfl (ltI ⟨_,rfl,iF ?_ (zqF g1)⟩))))
    refine aV (aK (aK (ag rfl (rL rfl (dE (ba (ba (ag rfl (au (aF e8 rfl (au (aF hq rfl (dE ?_)))))))))))))
    refine aV (aK (aK (ag rfl (rZ rfl (bM (ba (ba (ag rfl (au (aF e8 rfl (au (aF hq rfl (bM ?_)))))))))))))
    refine aV (ba (ag rfl (au (aF e8 rfl ?_))))
    rw[List.getElem?_append_right (by omega),L2,List.getElem?_map] at bP
    obtain⟨j2,Dp,e2⟩:=Option.map_eq_some_iff.mp bP
    refine⟨vr,r,n - l.en - c,e+l.sz+b,j2,u4,u5,rfl,rfl,sN,sQ,by omega, ?_,by omega,rfl⟩
    rw[show(n - l.en - c).toNat=n.toNat - (txt (ax ts) l.av).count 10 - (seg (ax ts) (a,b,c)).count 10 by omega]
    exact Dp
   ·refine iF ?_ (zqF g2)
    rw[List.getElem?_append_left (by omega),List.getElem?_map] at bP
    obtain⟨g,hg,e2⟩:=Option.map_eq_some_iff.mp bP
    refine aV (ba (ba (ag rfl (au (aF e8 rfl (au (aF hq rfl ?_)))))))
    have ea:ends ts a=(((ax ts).take a.toNat).count 10:Nat):=rfl
    refine aV (fL C (tI C) rfl (ag rfl ⟨s,dx,_,rfl,S.ob,aqh,aK (aK (fL C (ie C) rfl (ag rfl ⟨s,dx,_,rfl,S.ob,DP,ag rfl ⟨s,dx,lt,lb,lf,ts,a,rfl,S,q0,ag rfl (bM (rL rfl (dE ?_)))⟩⟩)))⟩))
    have es:ax ts=(ax ts).take a.toNat++ (seg (ax ts) (a,b,c)++ ((ax ts).drop a.toNat).drop b.toNat):=by
     show ax ts=(ax ts).take a.toNat++ (((ax ts).drop a.toNat).take b.toNat++ ((ax ts).drop a.toNat).drop b.toNat)
     rw[List.take_append_drop,List.take_append_drop]
    have lt':((ax ts).take a.toNat).length=a.toNat:=by rw[List.length_take];omega
    have key:(pos 10 (ax ts) 0)[(ends ts a+n - l.en).toNat]?=some (a.toNat+g):=by
     have e3:pos 10 (ax ts) 0=pos 10 ((ax ts).take a.toNat) 0++ ((pos 10 (seg (ax ts) (a,b,c)) 0).map (a.toNat+ ·)++pos 10 (((ax ts).drop a.toNat).drop b.toNat) (a.toNat+ (seg (ax ts) (a,b,c)).length)):=by
      have p1:=sq 10 (seg (ax ts) (a,b,c)) a.toNat 0
      rw[Nat.add_zero] at p1
      rw[←p1]
      conv=>lhs;rw[es,jE,jE,lt',Nat.zero_add]
     rw[e3,List.getElem?_append_right (by rw[eM];omega),eM,List.getElem?_append_left (by rw[List.length_map,eM];omega),List.getElem?_map]
     rw[show(ends ts a+n - l.en).toNat - ((ax ts).take a.toNat).count 10=n.toNat - (txt (ax ts) l.av).count 10 by omega,hg];rfl
    refine⟨s,dx,lt,lb,lf,ts,_,a.toNat+g,rfl,S,by omega,key, ?_⟩
    refine bD (aK (aK (aK (ag rfl (rZ rfl (bM (ag rfl (bM (ag rfl (dE ?_))))))))))
    rw[show e+l.sz+ ((a.toNat+g:Nat):Int) - a=(j:Int) by omega]
    exact k
theorem oV{Γ:aC}{σ:St}{H:Hp}{Q:VK}{t a b:RE}(h:bE Γ t σ H fun c H1=>if c=true then aj Γ a σ H1 Q else aj Γ b σ H1 Q):aj Γ (.fE t a b) σ H Q:=h
def bQ(l:List Nat)(i:Nat):Nat:=if i=0 then 0 else ((pos 10 l 0)[i - 1]?).getD 0+1
def jP(l:List Nat)(i:Nat):Int:=(if i=l.count 10 then (l.length:Int) else ((((pos 10 l 0)[i]?).getD 0:Nat):Int)) - bQ l i
theorem jQ{l:List Nat}{i:Nat}(h:i<l.count 10):(pos 10 l 0)[i]?=some (((pos 10 l 0)[i]?).getD 0):=by
 have:i< (pos 10 l 0).length:=by rw[eM];exact h
 simp[this]
section
variable {K:Frag} {CP C:Addr}
def gR(CP C:Addr):Sp:=fun vs H Q E=> ∃(p dp s dx lt lb lf:Addr) (v:V) (t:Tr) (ts:List Str) (i:Nat),vs=[.ref p, .int i]∧cX CP H p dp s v t (ax ts)∧b8 C H s dx lt lb lf ts∧i≤ (txt (ax ts) t.av).count 10∧Q (.int (bQ (txt (ax ts) t.av) i)) H
theorem aqm(T:gA K CP)(vs:List V)(H:Hp)(Q:VK)(E:XK)(h:gR CP C vs H Q E):ar (aQ K [("place_of_end",jO C)] [] (E:=E)) BP (Dn Q) (start BO vs) H:=by
 obtain⟨p,dp,s,dx,lt,lb,lf,v,t,ts,i,rfl,P,S,hi,q⟩:=h
 unfold bQ at q
 refine bD (oV (bA (ag rfl (au (gf ⟨_,rfl, ?_⟩)))))
 by_cases z:i=0
 ·rw[if_pos z] at q
  exact iT (au q) (zqT (by omega))
 ·rw[if_neg z] at q
  refine iF ?_ (zqF (by omega))
  refine aK (bx (jO C) rfl (ao (dI (ag rfl ⟨p,CP,dp,_,_,rfl,P.ob,T.cl,T.jw,kQ,ao (aK (ag rfl (au (dE (ao (dI (ag rfl ⟨p,CP,dp,_,_,rfl,P.ob,T.cl,T.gB,ig,aH ?_⟩)))))))⟩))))
  have hp:=jQ (l:=txt (ax ts) t.av) (i:=i - 1) (by omega)
  refine⟨v,t,(i:Int) - 1,s,dx,lt,lb,lf,ts,_,rfl,P.nd,P.pc,S,by omega,by rw[show((i:Int) - 1).toNat=i - 1 by omega];exact hp,au (bM ?_)⟩
  exact q
def fo(CP C:Addr):Sp:=fun vs H Q E=> ∃(p dp s dx lt lb lf:Addr) (v:V) (t:Tr) (ts:List Str) (i:Nat),vs=[.ref p, .int i]∧cX CP H p dp s v t (ax ts)∧b8 C H s dx lt lb lf ts∧i≤ (txt (ax ts) t.av).count 10∧Q (.int (jP (txt (ax ts) t.av) i)) H
theorem aqn{CE:Addr}(T:gA K CP)(vs:List V)(H:Hp)(Q:VK)(E:XK)(h:fo CP C vs H Q E):
  ar (aQ K [("is_between",cL),("place_of_end",jO C)] [] [] [("lines",CP,fN CP),("size",CP,cf CP),("line_begin",CP,gR CP C)] (et:=[("NoPlace",CE)]) (E:=E)) BR (Dn Q) (start BQ vs) H:=by
 obtain⟨p,dp,s,dx,lt,lb,lf,v,t,ts,i,rfl,P,S,hi,q⟩:=h
 have n1:(eE s v).lookup ("lines":Str)=none:=dh (by decide+kernel) (by decide+kernel)
 have n2:(eE s v).lookup ("size":Str)=none:=dh (by decide+kernel) (by decide+kernel)
 have n3:(eE s v).lookup ("line_begin":Str)=none:=dh (by decide+kernel) (by decide+kernel)
 refine bF (dg (fm cL rfl (ao (ag rfl (ao (au (ao (aK (gd CP (fN CP) rfl (ag rfl ⟨p,dp,_,rfl,P.ob,n1,p,dp,s,v,t,_,rfl,P,au (dE (aH ⟨_,_,_,rfl, .inl ⟨_,rfl,by omega,by omega,dD (iF (bR ?_) rfl)⟩⟩))⟩))))))))))
 refine aV (gN (ag rfl (aK (gd CP (fN CP) rfl (ag rfl ⟨p,dp,_,rfl,P.ob,n1,p,dp,s,v,t,_,rfl,P,au (dE (gf ?_))⟩)))))
 have fin: ∀(e:Int) (u:Option V),e - bQ (txt (ax ts) t.av) i=jP (txt (ax ts) t.av) i→ar (aQ K [("is_between",cL),("place_of_end",jO C)] [] [] [("lines",CP,fN CP),("size",CP,cf CP),("line_begin",CP,gR CP C)] (et:=[("NoPlace",CE)]) (E:=E)) [.ret (.bin .Sub (.v 3) (.bO 2 "line_begin" (.v 0) [(.v 1)]))] (Dn Q) [some (.ref p),some (.int i),u,some (.int e)] H:=by
  intro e u he
  refine bD (aK (ag rfl (fL CP (gR CP C) rfl (ag rfl ⟨p,dp,_,rfl,P.ob,n3,ag rfl ⟨p,dp,s,dx,lt,lb,lf,v,t,ts,i,rfl,P,S,hi,dE ?_⟩⟩))))
  rw[he];exact q
 refine aV (oV ?_)
 refine⟨_,rfl, ?_⟩
 by_cases z:i=(txt (ax ts) t.av).count 10
 ·refine iT ?_ (zqT (by omega))
  refine gd CP (cf CP) rfl (ag rfl ⟨p,dp,_,rfl,P.ob,n2,p,dp,s,v,t,_,rfl,P,fin _ _ ?_⟩)
  unfold jP;rw[if_pos z]
 ·refine iF ?_ (zqF (by omega))
  refine bx (jO C) rfl (ao (dI (ag rfl ⟨p,CP,dp,_,_,rfl,P.ob,T.cl,T.jw,kQ,ao (ag rfl (ao (dI (ag rfl ⟨p,CP,dp,_,_,rfl,P.ob,T.cl,T.gB,ig,aH ?_⟩))))⟩)))
  have hp:=jQ (l:=txt (ax ts) t.av) (i:=i) (by omega)
  refine⟨v,t,(i:Int),s,dx,lt,lb,lf,ts,_,rfl,P.nd,P.pc,S,by omega,hp,fin _ _ ?_⟩
  unfold jP;rw[if_neg z]
end
section
variable {K:Frag} {CP C:Addr}
def bJ(l:List Nat)(pl:Nat):Nat:=(l.take pl).count 10
theorem kU(l:List Nat)(pl:Nat):bJ l pl≤l.count 10:=by
 unfold bJ
 have:l.count 10=(l.take pl).count 10+ (l.drop pl).count 10:=by rw[←List.count_append,List.take_append_drop]
 omega
def ip(CP C:Addr):Sp:=fun vs H Q E=> ∃(p dp s dx lt lb lf:Addr) (v:V) (t:Tr) (ts:List Str) (pl:Nat),vs=[.ref p, .int pl]∧cX CP H p dp s v t (ax ts)∧b8 C H s dx lt lb lf ts∧pl≤ (txt (ax ts) t.av).length∧
 ∀w H',aJ H H'→H w=none→H' w=some (.tup [.int (bJ (txt (ax ts) t.av) pl:Nat), .int ((pl:Int) - bQ (txt (ax ts) t.av) (bJ (txt (ax ts) t.av) pl))])→Q (.ref w) H'
theorem aqo{CE:Addr}(T:gA K CP)(vs:List V)(H:Hp)(Q:VK)(E:XK)(h:ip CP C vs H Q E):
  ar (aQ K [("is_between",cL),("ends_ahead_of",tH C)] [] [] [("size",CP,cf CP),("line_begin",CP,gR CP C)] (et:=[("NoPlace",CE)]) (E:=E)) BU (Dn Q) (start BS vs) H:=by
 obtain⟨p,dp,s,dx,lt,lb,lf,v,t,ts,pl,rfl,P,S,hp,q⟩:=h
 have n2:(eE s v).lookup ("size":Str)=none:=dh (by decide+kernel) (by decide+kernel)
 have n3:(eE s v).lookup ("line_begin":Str)=none:=dh (by decide+kernel) (by decide+kernel)
 have hz:=P.sz
 refine bF (dg (fm cL rfl (ao (ag rfl (ao (au (ao (gd CP (cf CP) rfl (ag rfl ⟨p,dp,_,rfl,P.ob,n2,p,dp,s,v,t,_,rfl,P,aH ⟨_,_,_,rfl, .inl ⟨_,rfl,by omega,by omega,dD (iF (bR ?_) rfl)⟩⟩⟩)))))))))
 refine aV (bx (tH C) rfl (ao (dI (ag rfl ⟨p,CP,dp,_,_,rfl,P.ob,T.cl,T.jw,kQ,ao (ag rfl (ao (dI (ag rfl ⟨p,CP,dp,_,_,rfl,P.ob,T.cl,T.gB,ig,aH ?_⟩))))⟩))))
 refine⟨v,t,pl,s,dx,lt,lb,lf,ts,rfl,P.nd,P.pc,S,by omega,by omega, ?_⟩
 have ll:=kU (txt (ax ts) t.av) pl
 refine bD (fK (ao (ag rfl (ao (aK (ag rfl (fL CP (gR CP C) rfl (ag rfl ⟨p,dp,_,rfl,P.ob,n3,ag rfl ⟨p,dp,s,dx,lt,lb,lf,v,t,ts,bJ (txt (ax ts) t.av) pl,rfl,P,S,ll,dE (aH ⟨(by show 2≤sizeLine;decide),fun w fw=> ?_⟩)⟩⟩))))))))
 exact q w _ (sameNew fw) fw aU
def jR(CP C:Addr):Sp:=fun vs H Q E=> ∃(p dp s dx lt lb lf:Addr) (v:V) (t:Tr) (ts:List Str) (i:Nat) (c:Int),vs=[.ref p, .int i, .int c]∧cX CP H p dp s v t (ax ts)∧b8 C H s dx lt lb lf ts∧i≤ (txt (ax ts) t.av).count 10∧0≤c∧c≤jP (txt (ax ts) t.av) i∧Q (.int (bQ (txt (ax ts) t.av) i+c)) H
theorem aqp{CE:Addr}(vs:List V)(H:Hp)(Q:VK)(E:XK)(h:jR CP C vs H Q E):
  ar (aQ K [("is_between",cL)] [] [] [("line_size",CP,fo CP C),("line_begin",CP,gR CP C)] (et:=[("NoPlace",CE)]) (E:=E)) BW (Dn Q) (start BV vs) H:=by
 obtain⟨p,dp,s,dx,lt,lb,lf,v,t,ts,i,c,rfl,P,S,hi,h0,h1,q⟩:=h
 have n2:(eE s v).lookup ("line_size":Str)=none:=dh (by decide+kernel) (by decide+kernel)
 have n3:(eE s v).lookup ("line_begin":Str)=none:=dh (by decide+kernel) (by decide+kernel)
 refine bF (dg (fm cL rfl (ao (ag rfl (ao (au (ao (fL CP (fo CP C) rfl (ag rfl ⟨p,dp,_,rfl,P.ob,n2,ag rfl ⟨p,dp,s,dx,lt,lb,lf,v,t,ts,i,rfl,P,S,hi,aH ⟨_,_,_,rfl, .inl ⟨_,rfl,by omega,by omega,dD (iF (bR ?_) rfl)⟩⟩⟩⟩)))))))))
 exact bD (aK (fL CP (gR CP C) rfl (ag rfl ⟨p,dp,_,rfl,P.ob,n3,ag rfl ⟨p,dp,s,dx,lt,lb,lf,v,t,ts,i,rfl,P,S,hi,ag rfl (bM q)⟩⟩)))
end
def lend(l:List Nat)(i:Nat):Nat:=if i=l.count 10 then l.length else ((pos 10 l 0)[i]?).getD 0
theorem Uo(l:List Nat)(i:Nat):jP l i=(lend l i:Int) - bQ l i:=by
 unfold jP lend
 split<;>rfl
theorem DS{l:List Nat}{i j:Nat}(h:(pos 10 l 0)[i]?=some j):j<l.length:=by
 have:=(iY 10 l 0 j (List.mem_of_getElem? h)).2
 omega
theorem aqq{l:List Nat}{i j k:Nat}(h:(pos 10 l 0)[i]?=some j)(h':(pos 10 l 0)[i+1]?=some k):j<k:=by
 obtain⟨a,rfl⟩:=List.getElem?_eq_some_iff.mp h
 obtain⟨b,rfl⟩:=List.getElem?_eq_some_iff.mp h'
 exact List.pairwise_iff_getElem.mp (v7 10 l 0) i (i+1) a b (by omega)
theorem i9{l:List Nat}{i:Nat}(h:i≤l.count 10):bQ l i≤lend l i∧lend l i≤l.length:=by
 unfold bQ lend
 by_cases z:i=0
 ·rw[if_pos z]
  by_cases g:i=l.count 10
  ·rw[if_pos g];omega
  ·rw[if_neg g]
   have:=DS (jQ (l:=l) (i:=i) (by omega))
   omega
 ·rw[if_neg z]
  have p1:=jQ (l:=l) (i:=i - 1) (by omega)
  have l1:=DS p1
  by_cases g:i=l.count 10
  ·rw[if_pos g];omega
  ·rw[if_neg g]
   have p2:=jQ (l:=l) (i:=i) (by omega)
   have l2:=DS p2
   have:=aqq p1 (by rw[show i - 1+1=i by omega];exact p2)
   omega
theorem Up{l:List Nat}{i:Nat}(h:i<l.count 10):bQ l (i+1)=lend l i+1:=by
 unfold bQ lend
 rw[if_neg (by omega),if_neg (by omega)];rfl
theorem Uq(l:List Nat):lend l (l.count 10)=l.length:=by unfold lend;rw[if_pos rfl]
theorem aqr{l:List Nat}{i m:Nat}(h:i≤l.count 10)(h1:bQ l i≤m)(h2:m≤lend l i):bJ l m=i:=by
 have ok:=i9 h
 have ml:m≤l.length:=by omega
 have lt:(l.take m).length=m:=by rw[List.length_take];omega
 have sp:pos 10 l 0=pos 10 (l.take m) 0++pos 10 (l.drop m) m:=by
  conv=>lhs;rw[←List.take_append_drop m l,jE,lt,Nat.zero_add]
 have L1:(pos 10 (l.take m) 0).length=bJ l m:=eM 10 _ 0
 have le:=kU l m
 by_cases g:bJ l m<i
 ·exfalso
  obtain⟨j,hj⟩: ∃j,(pos 10 l 0)[i - 1]?=some j:=⟨_,jQ (by omega)⟩
  have e:bQ l i=j+1:=by unfold bQ;rw[if_neg (by omega),hj];rfl
  rw[sp,List.getElem?_append_right (by omega)] at hj
  have:=(iY 10 _ m _ (List.mem_of_getElem? hj)).1
  omega
 ·by_cases g':i<bJ l m
  ·exfalso
   have ne: ¬i=l.count 10:=by omega
   obtain⟨j,hj⟩: ∃j,(pos 10 l 0)[i]?=some j:=⟨_,jQ (by omega)⟩
   have e:lend l i=j:=by unfold lend;rw[if_neg ne,hj];rfl
   rw[sp,List.getElem?_append_left (by omega)] at hj
   have:=(iY 10 _ 0 _ (List.mem_of_getElem? hj)).2
   rw[lt] at this
   omega
  ·omega
theorem aqs(x:Str):Builtin.Str.occurrences x (Str.ofString "\n") 0 x.length (x.length+1)=pos 10 x.cps.toList 0:=by
 have:=v9 x 10 0 (x.length+1) (zqZ _)
 rw[List.drop_zero] at this
 show Builtin.Str.occurrences x ⟨#[10]⟩ 0 x.length (x.length+1)=_
 rw[this,List.take_of_length_le]
 rw[eM]
 have:x.cps.toList.count 10≤x.length:=by rw[len_list];exact List.count_le_length
 omega
theorem Ur(x:Str):Txt.split x (Str.ofString "\n")=Builtin.Str.partsBetween x (pos 10 x.cps.toList 0) 1:=by
 have one:pos 10 x.cps.toList 0=[]→Builtin.Str.partsBetween x (pos 10 x.cps.toList 0) 1=[x]:=fun e=>by
  rw[e]
  show[Builtin.Str.strSub x 0 x.length]=[x]
  congr 1
  apply h_
  show(x.cps.extract 0 x.cps.size).toList=x.cps.toList
  simp
 unfold Txt.split
 rw[aqs]
 by_cases h:(decide (x.length< (Str.ofString "\n").length) || decide (Builtin.Str.strKind x<Builtin.Str.strKind (Str.ofString "\n")))=true
 ·rw[if_pos h]
  refine(one ?_).symm
  have k1:Builtin.Str.strKind (Str.ofString "\n")=1:=by decide+kernel
  have k2:1≤Builtin.Str.strKind x:=by unfold Builtin.Str.strKind;split<;> (try split) <;>decide
  have l1:(Str.ofString "\n").length=1:=by decide+kernel
  rw[k1,l1,Bool.or_eq_true] at h
  have:x.length=0:=by
   rcases h with h | h
   ·have:=of_decide_eq_true h;omega
   ·have:=of_decide_eq_true h;omega
  have e:x.cps.toList=[]:=List.eq_nil_of_length_eq_zero (by rw[←len_list];exact this)
  rw[e];rfl
 ·rw[if_neg h]
  by_cases g:(pos 10 x.cps.toList 0).isEmpty=true
  ·rw[if_pos g]
   exact(one (List.isEmpty_iff.mp g)).symm
  ·rw[if_neg g];rfl
theorem split_len(x:Str):(Txt.split x (Str.ofString "\n")).length=x.cps.toList.count 10+1:=by rw[Ur,length_partsBetween,eM]
theorem wW{x:Str}{i:Nat}(h:i≤x.cps.toList.count 10): ∃z,(Txt.split x (Str.ofString "\n"))[i]?=some z∧z.length=lend x.cps.toList i - bQ x.cps.toList i:=by
 rw[Ur]
 have L:=eM 10 x.cps.toList 0
 have ok:=i9 h
 have e1:(0::(pos 10 x.cps.toList 0).map (· +1))[i]?=some (bQ x.cps.toList i):=by
  unfold bQ
  by_cases z:i=0
  ·rw[if_pos z,z];rfl
  ·rw[if_neg z]
   obtain⟨k,rfl⟩: ∃k,i=k+1:=⟨i - 1,by omega⟩
   rw[List.getElem?_cons_succ,List.getElem?_map,jQ (by omega)];rfl
 have e2:(pos 10 x.cps.toList 0++ [x.length])[i]?=some (lend x.cps.toList i):=by
  unfold lend
  by_cases z:i=x.cps.toList.count 10
  ·rw[if_pos z,List.getElem?_append_right (by omega),L,z,Nat.sub_self,←len_list];rfl
  ·rw[if_neg z,List.getElem?_append_left (by omega)]
   exact jQ (by omega)
 refine⟨Builtin.Str.strSub x (bQ x.cps.toList i) (lend x.cps.toList i), ?_, ?_⟩
 ·show(((0::(pos 10 x.cps.toList 0).map (· +1)).zip (pos 10 x.cps.toList 0++ [x.length])).map fun(i,j)=>Builtin.Str.strSub x i j)[i]?=_
  rw[List.getElem?_map,(List.getElem?_zip_eq_some (z:=(bQ x.cps.toList i,lend x.cps.toList i))).mpr ⟨e1,e2⟩];rfl
 ·show(x.cps.extract (bQ x.cps.toList i) (lend x.cps.toList i)).size=_
  rw[Array.size_extract]
  have:x.cps.size=x.cps.toList.length:=by simp
  omega
end L2.N
namespace L2.B
open PySem PySem.Spec PyProof.Rows
end L2.B
namespace L2
open PySem PySem.Spec PyProof.Rows
end L2
namespace L2.B
open PySem PySem.Spec PyProof.Rows
end L2.B
namespace L2.B
end L2.B
namespace L2.B
open PySem PySem.Spec PyProof.Rows
section
variable {H:Hp} {Q:VK} {E:XK}
end
theorem aqt{K:Frag}(vs:List V)(H:Hp)(Q:VK)(E:XK)(h:pS vs H Q E):ar (aQ K [] [] (E:=E)) Av (Dn Q) (start vP vs) H:=by
 obtain⟨i,rfl,q⟩:=h
 exact⟨_,rfl,rfl,_,rfl,eQ ⟨_,rfl,rfl,q⟩⟩
end L2.B
namespace L2
open PySem PySem.Spec PyProof.Rows
theorem Us{Γ:aC}{D:Ends}{σ:St}{H:Hp}{r:List RS}{is:List Nat}{e:RE}(h:aj Γ e σ H fun x H1=>ju Γ.K is.length (iR is) x σ H1 (ar Γ r D)):ar Γ (.rp is e::r) D σ H:=h
theorem Ut{K:Frag}{i j:Nat}{t:Addr}{v w:V}{σ:St}{H:Hp}{Q:St→Hp→Prop}(ht:H t=some (.tup [v,w]))(q:Q ((σ.set i (some v)).set j (some w)) H):ju K [i,j].length (iR [i,j]) (.ref t) σ H Q:=
 ⟨t,_,rfl, .inl (bo.of ht),rfl,_,_,rfl,_,_,rfl,rfl,q⟩
end L2
namespace L2.B
open PySem PySem.Spec PyProof.Rows
section
variable {H:Hp} {Q:VK} {E:XK}
end
end L2.B
namespace L2.N
open PySem PySem.Spec L2.B
structure dW (CP C:Addr) (H:Hp) (p dp s dx lt lb lf:Addr) (v:V) (t:Tr) (ts:List Str) (x:Str):Prop where
 pa:cX CP H p dp s v t (ax ts)
 st:b8 C H s dx lt lb lf ts
 l1:t.av.length≤1000
 l2:ts.length≤10000
 l3:(ax ts).length≤500000
 tx:txt (ax ts) t.av=x.cps.toList
 go:good x
theorem dW.same{CP C:Addr}{H H':Hp}{p dp s dx lt lb lf:Addr}{v:V}{t:Tr}{ts:List Str}{x:Str}(B:dW CP C H p dp s dx lt lb lf v t ts x)(h:aJ H H'):dW CP C H' p dp s dx lt lb lf v t ts x:=⟨B.pa.same h,B.st.same h,B.l1,B.l2,B.l3,B.tx,B.go⟩
section
variable {K:Frag} {CP C:Addr} {H H':Hp} {p dp s dx lt lb lf:Addr} {v:V} {t:Tr} {ts:List Str} {x:Str}
theorem dW.eq(B:dW CP C H p dp s dx lt lb lf v t ts x):L2.N.tx (ax ts) t.av=x:=h_ (by rw[apq,B.tx])
theorem dW.l4(B:dW CP C H p dp s dx lt lb lf v t ts x):(txt (ax ts) t.av).length≤1000000:=by rw[B.tx,←len_list];exact B.go.1
end
section
variable {K:Frag} {H:Hp} {Q:VK}
end
structure Kp (lt lb lf a:Addr):Prop where
 k1:a≠lt
 k2:a≠lb
 k3:a≠lf
theorem Kp.of{C:Addr}{H:Hp}{s dx lt lb lf a:Addr}{ts:List Str}(S:b8 C H s dx lt lb lf ts)(h:H a=none):Kp lt lb lf a:=
 ⟨fun z=> (by rw[z,S.tx] at h;cases h),fun z=> (by rw[z,S.bg] at h;cases h),fun z=> (by rw[z,S.fd] at h;cases h)⟩
theorem aqu{C:Addr}{H H':Hp}{s dx lt lb lf a:Addr}{ts:List Str}{xs:List V}(S:b8 C H s dx lt lb lf ts)(b:eN s lt lb lf H H')(k:Kp lt lb lf a)(h:H a=some (.lst xs)):H' a=some (.lst xs):=
 b _ _ h (fun z=>by rw[z,S.ob] at h;cases h) k.k1 k.k2 k.k3
theorem aqv(xs:List V)(i j:Nat):eK xs (some (i:Int)) (some (j:Int))=(xs.drop i).take (j - i):=by
 unfold eK
 rw[HT.j8,HT.j8]
 by_cases h:i≤xs.length
 ·by_cases h2:j≤xs.length
  ·rw[show min i xs.length=i by omega,show min j xs.length=j by omega]
  ·rw[show min i xs.length=i by omega,show min j xs.length=xs.length by omega,List.take_of_length_le (by rw[List.length_drop];omega),List.take_of_length_le (by rw[List.length_drop];omega)]
 ·rw[List.drop_of_length_le (by omega),List.drop_of_length_le (by omega),List.take_nil,List.take_nil]
inductive Wd where | left | right | up | down | oW | en | top | jS | back | on
 deriving DecidableEq
def Wd.str:Wd→Str
 | .left=> "left" | .right=> "right" | .up=> "up" | .down=> "down" | .oW=> "home" | .en=> "end" | .top=> "top" | .jS=> "bottom" | .back=> "back" | .on=> "on"
theorem aqw(w v:Wd):(w.str==v.str)=decide (w=v):=by cases w<;>cases v<;>decide+kernel
section
variable {K:Frag} {H:Hp} {Q:VK} {Γ:aC} {σ:St} {D:Ends}
theorem cw{w:Wd}(v:Wd){z:Str}(hz:v.str=z)(q:Q (.bl (decide (w=v))) H):cn K .Eq (.str w.str) (.str z) H Q:=by
 subst hz
 refine dR ?_
 rw[aqw];exact q
theorem oX{i:Nat}{w:Wd}(v:Wd){z:Str}(hz:v.str=z){A r:List RS}(hσ:σ[i]?=some (some (.str w.str)))(h1:w=v→ar Γ A {D with nx:=ar Γ r D} σ H)(h2:w≠v→ar Γ r D σ H):ar Γ (.ite (.cmp .Eq (.v i) (.c (.str z))) A []::r) D σ H:=by
 refine bF (bA (ag hσ (au (cw v hz ⟨_,rfl, ?_⟩))))
 by_cases h:w=v
 ·exact iT (h1 h) (zqT h)
 ·exact iF (bR (h2 h)) (zqF h)
theorem tK{i:Nat}{w:Wd}(v v':Wd){z z':Str}(hz:v.str=z)(iQ:v'.str=z'){A r:List RS}(hσ:σ[i]?=some (some (.str w.str)))(h1:w=v∨w=v'→ar Γ A {D with nx:=ar Γ r D} σ H)(h2:w≠v→w≠v'→ar Γ r D σ H):ar Γ (.ite (.or [.cmp .Eq (.v i) (.c (.str z)), .cmp .Eq (.v i) (.c (.str z'))]) A []::r) D σ H:=by
 refine bF (kD (bA (ag hσ (au (cw v hz ⟨_,rfl, ?_⟩)))))
 by_cases h:w=v
 ·exact iT (iT (h1 (.inl h)) rfl) (zqT h)
 ·refine iF (bA (ag hσ (au (cw v' iQ ⟨_,rfl, ?_⟩)))) (zqF h)
  by_cases h':w=v'
  ·exact iT (h1 (.inr h')) (zqT h')
  ·exact iF (bR (h2 h h')) (zqF h')
theorem DT{a b:RE}{r:List RE}(h:aj Γ a σ H fun x H1=> ∃c,x= .bl c∧if c=true then aj Γ (.and (b::r)) σ H1 Q else Q (.bl false) H1):aj Γ (.and (a::b::r)) σ H Q:=h
theorem Uu{a:RE}(h:aj Γ a σ H Q):aj Γ (.and [a]) σ H Q:=h
theorem Uv{a b:RE}(h:aj Γ a σ H fun x H1=> ∃c,x= .bl c∧if c=true then Q (.bl true) H1 else aj Γ b σ H1 Q):aj Γ (.or [a,b]) σ H Q:=h
theorem aqx{op ck:CmpOp}{a b d:RE}(h:aj Γ a σ H fun x H1=>aj Γ b σ H1 fun y H2=>cn Γ.K op x y H2 fun z H3=> ∃k,z= .bl k∧(if k=true then aj Γ d σ H3 fun w H4=>cn Γ.K ck y w H4 Q else Q (.bl false) H3)):aj Γ (.iM op ck a b d) σ H Q:=h
theorem aqy{op ck:CmpOp}{a b d:RE}{QT:Bool→Hp→Prop}(h:aj Γ (.iM op ck a b d) σ H fun z H3=> ∃k,z= .bl k∧QT k H3):bE Γ (.iM op ck a b d) σ H QT:=h
theorem aqz{as:List RE}{QT:Bool→Hp→Prop}(h:bH Γ as σ H fun vs H1=>vU Γ.K vs H1 fun x H2=>gm Γ.K x H2 fun b=>QT b H2):bE Γ (.xt Bz as) σ H QT:=h
theorem aqA{as:List RE}{QT:Bool→Hp→Prop}(h:bH Γ as σ H fun vs H1=>vX Γ.K vs H1 fun x H2=>gm Γ.K x H2 fun b=>QT b H2):bE Γ (.xt BX as) σ H QT:=h
end
def gV:Option Nat→V
 | none=> .az
 | some n=> .int n
def dw(H:Hp)(t:Addr)(a h:Nat)(g:Option Nat):Prop:=H t=some (.tup [.int a, .int h,gV g])
theorem wX(g:Option Nat):decide (gV g= .az)=g.isNone:=by cases g<;>simp[gV]
section
variable {K:Frag}
def kW:Sp:=fun vs H Q E=> ∃(t:Addr) (a h:Nat) (g:Option Nat),vs=[.ref t]∧dw H t a h g∧Q (.int (min a h:Nat)) H
theorem aqB(vs:List V)(H:Hp)(Q:VK)(E:XK)(h:kW vs H Q E):ar (aQ K [] [] (E:=E)) Cb (Dn Q) (start Ca vs) H:=by
 obtain⟨t,a,h,g,rfl,ha,q⟩:=h
 refine bD (eA (ao (ba (ag rfl (au (aF ha rfl (ao (ba (ag rfl (au (aF ha rfl (aH ?_))))))))))))
 show Q (.int (if (h:Int) < (a:Int) then (h:Int) else (a:Int))) H
 rw[show(if (h:Int) < (a:Int) then (h:Int) else (a:Int))=((min a h:Nat):Int) by split<;>omega]
 exact q
def oY:Sp:=fun vs H Q E=> ∃(t:Addr) (a h:Nat) (g:Option Nat),vs=[.ref t]∧dw H t a h g∧Q (.int (max a h:Nat)) H
theorem aqC(vs:List V)(H:Hp)(Q:VK)(E:XK)(h:oY vs H Q E):ar (aQ K [] [] (E:=E)) Cd (Dn Q) (start Cc vs) H:=by
 obtain⟨t,a,h,g,rfl,ha,q⟩:=h
 refine bD (eA (ao (ba (ag rfl (au (aF ha rfl (ao (ba (ag rfl (au (aF ha rfl (aH ?_))))))))))))
 show Q (.int (if (h:Int) > (a:Int) then (h:Int) else (a:Int))) H
 rw[show(if (h:Int) > (a:Int) then (h:Int) else (a:Int))=((max a h:Nat):Int) by split<;>omega]
 exact q
def qw:Sp:=fun vs H Q E=> ∃(t:Addr) (a h:Nat) (g:Option Nat),vs=[.ref t]∧dw H t a h g∧Q (.bl (decide (a=h))) H
theorem aqD(vs:List V)(H:Hp)(Q:VK)(E:XK)(h:qw vs H Q E):ar (aQ K [] [] (E:=E)) Cf (Dn Q) (start Ce vs) H:=by
 obtain⟨t,a,h,g,rfl,ha,q⟩:=h
 refine bD (gN (ba (ag rfl (au (aF ha rfl (ba (ag rfl (au (aF ha rfl (gf ?_))))))))))
 rw[show decide ((a:Int)=(h:Int))=decide (a=h) by rw[Bool.eq_iff_iff];simp only[decide_eq_true_eq];omega]
 exact q
def tL:Sp:=fun vs H Q E=> ∃g:Option Nat,vs=[gV g]∧Q (.bl true) H
theorem aqE(vs:List V)(H:Hp)(Q:VK)(E:XK)(h:tL vs H Q E):ar (aQ K [("is_whole",i0)] [] (E:=E)) Ci (Dn Q) (start Cg vs) H:=by
 obtain⟨g,rfl,q⟩:=h
 refine bD (Uv (gN (ag rfl (au ⟨rfl,_,rfl, ?_⟩))))
 rw[wX]
 cases g with
 | none=>exact iT q rfl
 | some n=>
  refine iF ?_ rfl
  refine DT (bx i0 rfl (ao (ag rfl (aH ⟨_,rfl, .inl ⟨_,rfl,_,rfl,iT ?_ rfl⟩⟩))))
  refine Uu (gN (ag rfl (au (N.Um ?_))))
  rw[zqT (show(0:Int)≤ (n:Nat) by omega)]
  exact q
def tM:Sp:=fun vs H Q E=> ∃(t:Addr) (a h:Nat) (g:Option Nat) (n:Nat),vs=[.ref t, .int n]∧dw H t a h g∧a≤n∧h≤n∧Q (.bl true) H
theorem aqF(vs:List V)(H:Hp)(Q:VK)(E:XK)(h:tM vs H Q E):ar (aQ K [("is_between",cL),("is_goal",tL)] [] (E:=E)) Ck (Dn Q) (start Cj vs) H:=by
 obtain⟨t,a,h,g,n,rfl,ha,h1,h2,q⟩:=h
 refine bF (kD (dg (Dl (ag rfl (wa ha (iF ?_ rfl))))))
 refine bA (eB (ag rfl (.inr ⟨_,bo.of ha,au (wx ⟨_,rfl,iF (bR ?_) (by simp)⟩)⟩)))
 refine bD (DT (bx cL rfl (ao (ba (ag rfl (au (aF ha rfl (ao (au (ao (ag rfl (aH ⟨_,_,_,rfl, .inl ⟨_,rfl,by omega,by omega,_,rfl,iT ?_ rfl⟩⟩))))))))))))
 refine DT (bx cL rfl (ao (ba (ag rfl (au (aF ha rfl (ao (au (ao (ag rfl (aH ⟨_,_,_,rfl, .inl ⟨_,rfl,by omega,by omega,_,rfl,iT ?_ rfl⟩⟩)))))))))))
 exact Uu (bx tL rfl (ao (ba (ag rfl (au (aF ha rfl (aH ⟨g,rfl,q⟩)))))))
def wY:Sp:=fun vs H Q E=> ∃a b c:V,vs=[a,b,c]∧False
theorem aqG{tb:List (Str×Sp)}(vs:List V)(H:Hp)(Q:VK)(E:XK)(h:wY vs H Q E):ar (aQ K tb [] (E:=E)) Cn (Dn Q) (start Cm vs) H:=by
 obtain⟨_,_,_,_,f⟩:=h
 exact f.elim
theorem aqH{σ:St}{H:Hp}{QQ:List V→Hp→Addr→Prop}{te:TE}{fv:List (Str×Nat)}{a b:Addr}{tk:Option Nat}{xs:List V}(ha:H a=some (.lst xs))(hb:H b=some (.lst []))(fin: ∀p,H p=none→QQ [] H p): ∃W:Nat→Nat→List V→Hp→Prop,(∃m,W 0 m [] H)∧ ∀i m ys H2,W i m ys H2→
   ((rB K a b).stop i H2∧ ∀p,H2 p=none→QQ ys H2 p)∨
   ((rB K a b).go i H2∧ ∀x H3,(rB K a b).e_ i H2 x H3→ka K tk x H3 fun zs=>lQ none (zs.map some++cH σ fv) H3 fun b H5=>
    if b=true then te (zs.map some++cH σ fv) H5 fun y H6=>ys.length<sizeLine∧ ∃m',m'<m∧W (i+1) m' (ys++ [y]) H6 else ∃m',m'<m∧W (i+1) m' ys H5):=by
 refine⟨fun i m ys H2=>i=0∧ys=[]∧H2=H,⟨0,rfl,rfl,rfl⟩, ?_⟩
 rintro i m ys H2 ⟨rfl,rfl,rfl⟩
 exact .inl ⟨⟨xs,[],aM.of ha,aM.of hb,by simp⟩,fin⟩
def tN:Sp:=fun vs H Q E=> ∃(l t:Addr) (a h:Nat) (g:Option Nat) (n:Nat),vs=[.int n, .ref l]∧H l=some (.lst [.ref t])∧dw H t a h g∧a≤n∧h≤n∧ ∀H',aJ H H'→Q .az H'
theorem aqI{CE:Addr}(vs:List V)(H:Hp)(Q:VK)(E:XK)(h:tN vs H Q E):ar (aQ K [("is_cursor",tM),("meet",wY),("begin_of",kW),("end_of",oY)] [("MOST_CURSORS", .int 40)] (et:=[("NoCursor",CE)]) (E:=E)) Cp (Dn Q) (start Co vs) H:=by
 obtain⟨l,t,a,h,g,n,rfl,hl,ha,h1,h2,q⟩:=h
 refine bF (kD (dg (Dl (ag rfl (Ss hl (iF ?_ rfl))))))
 refine dg (aqy (aqx (au (eB (ag rfl (.inl ⟨_,aM.of hl,N.DQ ⟨_,rfl,iT (kx (N.DQ ⟨_,rfl,iF (bR ?_) rfl⟩)) rfl⟩⟩))))))
 refine bF (dg (aqz (ao (DC (ag rfl ⟨l,rfl,⟨_,aM.of hl⟩, ?_⟩)))))
 refine DB hl (by show 1≤1000000;decide) (fun i ys _=>ys=List.replicate i (V.bl true)) rfl ?_ ?_
 ·intro i x ys H2 hx s2 e Q' kk
  have hi:i=0:=by
   have:=(List.getElem?_eq_some_iff.mp hx).1
   simp at this;omega
  subst hi
  cases hx
  refine bx tM rfl (ao (ag rfl (ao (ag rfl (aH ⟨t,a,h,g,n,rfl,s2 _ _ ha,h1,h2,kk _ _ (aJ.refl _) ?_⟩)))))
  rw[e];rfl
 ·intro ys H2 p2 s2 e f2
  subst e
  have s3:=sameNew (o:= .lst [V.bl true]) f2
  refine aH ⟨p2,[true],rfl,aM.of aU,dD (iF (bR ?_) rfl)⟩
  have wZ:=s2.trans s3
  refine bF (aqA (ao ?_))
  refine⟨_,rfl,_,rfl,_,rfl, .inl ⟨_,aM.of (wZ _ _ hl),fun w fw=> ⟨l,w,rfl,⟨_,aM.of (sameNew fw _ _ (wZ _ _ hl))⟩,⟨_,aM.of aU⟩, ?_⟩⟩⟩
  have s4:=sameNew (o:= .lst (eK [V.ref t] (some 1) none)) fw
  refine aqH (s4 _ _ (wZ _ _ hl)) aU fun p5 f5=> ?_
  have s5:=sameNew (o:= .lst []) f5
  refine aH ⟨p5,[],rfl,aM.of aU,dD (iF ?_ rfl)⟩
  exact q _ ((wZ.trans s4).trans s5)
def tO:Sp:=fun vs H Q E=> ∃b:Bool,vs=[.bl b]∧Q (.bl true) H
theorem aqJ(vs:List V)(H:Hp)(Q:VK)(E:XK)(h:tO vs H Q E):ar (aQ K [] [] (E:=E)) B_ (Dn Q) (start BZ vs) H:=by
 obtain⟨b,rfl,q⟩:=h
 refine bD (Uv (gN (ag rfl (au ?_))))
 show ∃c,V.bl (decide (V.bl b=V.bl true))= .bl c∧_
 refine⟨_,rfl, ?_⟩
 cases b with
 | true=>exact iT q (by simp)
 | false=>
  refine iF (gN (ag rfl (au ?_))) (by simp)
  show Q (.bl (decide (V.bl false=V.bl false))) H
  rw[zqT rfl];exact q
def Uw:List V:=[.str "left", .str "right", .str "home", .str "end", .str "top", .str "bottom", .str "back", .str "on", .str "up", .str "down"]
theorem aqK(w:Wd):d5 (.str w.str) Uw=true:=by cases w<;>decide+kernel
def tP:Sp:=fun vs H Q E=> ∃(w:Wd) (b:Bool),vs=[.str w.str, .bl b]∧Q .az H
theorem aqL{CE p:Addr}(hp: ∀H:Hp,bo K H p Uw)(vs:List V)(H:Hp)(Q:VK)(E:XK)(h:tP vs H Q E):ar (aQ K [("is_word",oH K),("is_truth",tO)] [("STEP_WORDS", .ref p)] (et:=[("BadDeed",CE)]) (E:=E)) Cr (Dn Q) (start Cq vs) H:=by
 obtain⟨w,b,rfl,q⟩:=h
 refine bF (dg (fm (oH K) rfl (ao (ag rfl (ao (kx (aH ⟨_,p,_,rfl,hp H,rfl, .inl ⟨_,rfl,dD (iF (bR ?_) ?_)⟩⟩)))))))
 ·exact bF (dg (fm tO rfl (ao (ag rfl (aH ⟨b,rfl,dD (iF q rfl)⟩)))))
 ·rw[aqK];rfl
end
def cM(p:Nat→Bool)(m:List Nat):Nat:=(m.takeWhile p).length
theorem kY(p:Nat→Bool): ∀m:List Nat,cM p m≤m.length
 | []=>zqR _
 | c::m=>by
  have:=kY p m
  unfold cM at this⊢
  rw[List.takeWhile_cons]
  split
  ·simp;omega
  ·simp
theorem tQ(p:Nat→Bool): ∀a b:List Nat,(cM p a<a.length→cM p (a++b)=cM p a)∧(cM p a=a.length→cM p (a++b)=a.length+cM p b)
 | [],b=> ⟨fun h=>absurd h (Nat.lt_irrefl _),fun _=>by simp⟩
 | c::a,b=>by
  obtain⟨h1,h2⟩:=tQ p a b
  unfold cM at h1 h2⊢
  rw[List.cons_append,List.takeWhile_cons,List.takeWhile_cons]
  cases hc:p c with
  | false=>simp
  | true=>
   simp only[if_true,List.length_cons]
   exact⟨fun h=>by rw[h1 (by omega)],fun h=>by rw[h2 (by omega)];omega⟩
theorem DU{p q:Nat→Bool}: ∀{m:List Nat},(∀c∈m,p c=q c)→cM p m=cM q m
 | [],_=>rfl
 | c::m,h=>by
  have ih:=DU (m:=m) fun d hd=>h d (.tail _ hd)
  unfold cM at ih⊢
  rw[List.takeWhile_cons,List.takeWhile_cons,h c (.head _)]
  split
  ·simp only[List.length_cons];rw[ih]
  ·rfl
def ro(p:Nat→Bool)(l:List Nat)(n:Nat):Nat:=n+cM p (l.drop n)
def lo(p:Nat→Bool)(l:List Nat)(n:Nat):Nat:=n - cM p (l.take n).reverse
theorem ro_le{p:Nat→Bool}{l:List Nat}{n:Nat}(h:n≤l.length):n≤ro p l n∧ro p l n≤l.length:=by
 have:=kY p (l.drop n)
 rw[List.length_drop] at this
 unfold ro;omega
theorem lo_le{p:Nat→Bool}{l:List Nat}{n:Nat}:lo p l n≤n:=by unfold lo;omega
theorem mid(l:List Nat){a b:Nat}(h:a≤b):l.drop a=(l.take b).drop a++l.drop b:=by
 have e:l=l.take b++l.drop b:=(List.take_append_drop _ _).symm
 by_cases hb:b≤l.length
 ·conv=>lhs;rw[e]
  rw[List.drop_append_of_le_length (by rw[List.length_take];omega)]
 ·rw[List.take_of_length_le (by omega),List.drop_of_length_le (i:=b) (by omega),List.append_nil]
theorem Ux(l:List Nat){a b:Nat}(h:a≤b):l.take b=l.take a++ (l.take b).drop a:=by
 have:=(List.take_append_drop a (l.take b)).symm
 rwa [List.take_take,Nat.min_eq_left h] at this
theorem aqM{p:Nat→Bool}{l:List Nat}{a b:Nat}(h:a≤b)(hb:b≤l.length)(hr:cM p ((l.take b).drop a) <b - a):ro p l a=a+cM p ((l.take b).drop a):=by
 unfold ro
 rw[mid l h,(tQ p _ _).1 (by rw[List.length_drop,List.length_take];omega)]
theorem aqN{p:Nat→Bool}{l:List Nat}{a b:Nat}(h:a≤b)(hb:b≤l.length)(hr: ¬cM p ((l.take b).drop a) <b - a):ro p l a=ro p l b:=by
 have l1:((l.take b).drop a).length=b - a:=by rw[List.length_drop,List.length_take];omega
 have:=kY p ((l.take b).drop a)
 unfold ro
 rw[mid l h,(tQ p _ _).2 (by omega),l1];omega
theorem aqO{p:Nat→Bool}{l:List Nat}{a b:Nat}(h:a≤b)(hb:b≤l.length)(hr:cM p ((l.take b).drop a).reverse<b - a):lo p l b=b - cM p ((l.take b).drop a).reverse:=by
 have l1:((l.take b).drop a).reverse.length=b - a:=by rw[List.length_reverse,List.length_drop,List.length_take];omega
 have e:(l.take b).reverse=((l.take b).drop a).reverse++ (l.take a).reverse:=by rw[←List.reverse_append,←Ux l h]
 unfold lo
 rw[e,(tQ p _ _).1 (by omega)]
theorem aqP{p:Nat→Bool}{l:List Nat}{a b:Nat}(h:a≤b)(hb:b≤l.length)(hr: ¬cM p ((l.take b).drop a).reverse<b - a):lo p l b=lo p l a:=by
 have l1:((l.take b).drop a).reverse.length=b - a:=by rw[List.length_reverse,List.length_drop,List.length_take];omega
 have e:(l.take b).reverse=((l.take b).drop a).reverse++ (l.take a).reverse:=by rw[←List.reverse_append,←Ux l h]
 have:=kY p ((l.take b).drop a).reverse
 unfold lo
 rw[e,(tQ p _ _).2 (by omega),l1];omega
theorem sub_len{x:Str}{a b:Nat}(h1:a≤b)(h2:b≤x.length):(Builtin.Str.strSub x a b).length=b - a:=by
 have h3:b≤x.cps.size:=h2
 show(x.cps.extract a b).size=_
 rw[Array.size_extract];omega
theorem aqQ(z y:Str):(Txt.rstripChars z y).length=z.length - cM y.cps.contains z.cps.toList.reverse:=by
 unfold Txt.rstripChars
 rw[PyProof.Rows.stripBy_eq]
 have e0:stripLo y.cps.contains false z=0:=rfl
 have e1:stripHi y.cps.contains true z 0=z.length - cM y.cps.contains z.cps.toList.reverse:=rfl
 rw[e0,e1,sub_len (zqZ _) (Nat.sub_le _ _)];rfl
theorem aqR(z y:Str):(Txt.lstripChars z y).length=z.length - cM y.cps.contains z.cps.toList:=by
 unfold Txt.lstripChars
 rw[PyProof.Rows.stripBy_eq]
 have e0:stripLo y.cps.contains true z=cM y.cps.contains z.cps.toList:=rfl
 have e1: ∀n,stripHi y.cps.contains false z n=z.length:=fun n=>rfl
 have:=kY y.cps.contains z.cps.toList
 have ll:=len_list z
 rw[e0,e1,sub_len (by omega) (zqR _)]
theorem Uy(z:Str):(z !=("":Str))=decide (0<z.length):=by
 rw[Bool.eq_iff_iff]
 simp only[bne_iff_ne,ne_eq,decide_eq_true_eq]
 constructor
 ·intro h
  exact Nat.pos_of_ne_zero fun e=>h (h_ (by rw[len_list] at e;rw[List.eq_nil_of_length_eq_zero e];decide+kernel))
 ·intro h e
  rw[e] at h
  exact absurd h (by decide+kernel)
theorem Uz{l:List Nat}{a b:Nat}(h1:a≤b)(h2:b≤l.length):(dU l a b).length=b - a:=by
 show(((l.take b).drop a).toArray).size=_
 simp;omega
section
variable {K:Frag} {CP C:Addr} {H:Hp} {Q:VK} {Γ:aC} {σ:St}
theorem aqS{o a:RE}(h:aj Γ o σ H fun x H1=>pj Γ.K "str" x H1∧aj Γ a σ H1 fun y H2=>vY x [y] H2 Q):aj Γ (.xm BY o [a]) σ H Q:=h
def fP(CP C:Addr)(f:(Nat→Bool)→List Nat→Nat→Nat):Sp:=fun vs H Q E=> ∃(p dp s dx lt lb lf:Addr) (v:V) (t:Tr) (ts:List Str) (x y:Str) (n:Nat),vs=[.ref p, .int n, .str y]∧dW CP C H p dp s dx lt lb lf v t ts x∧n≤x.length∧x.length≤100000∧ ∀H',aJ H H'→Q (.int (f y.cps.contains x.cps.toList n:Nat)) H'
theorem aqT(vs:List V)(H:Hp)(Q:VK)(E:XK)(h:fP CP C lo vs H Q E):ar (aQ K [] [("FIRST_STRIDE", .int 64)] [] [("part",CP,gP CP C)] (E:=E)) Ct (Dn Q) (start Cs vs) H:=by
 obtain⟨p,dp,s,dx,lt,lb,lf,v,t,ts,x,y,n,rfl,B,hn,hx,q⟩:=h
 have lx:=len_list x
 refine aV (kx ?_)
 refine oJ (fun k σ H2=> ∃(m:Nat) (st:Nat) (u4 u5:Option V),σ=[some (.ref p),some (.int m),some (.str y),some (.int st),u4,u5]∧aJ H H2∧m≤x.length∧1≤st∧m=k∧lo y.cps.contains x.cps.toList m=lo y.cps.contains x.cps.toList n) ⟨n,n,64,none,none,rfl,aJ.refl _,hn,by decide,rfl,rfl⟩ ?_
 rintro k σ H2 ⟨m,st,u4,u5,rfl,s2,hm,pd,rfl,j9⟩
 refine bA (ag rfl (au (N.qv ⟨_,rfl, ?_⟩)))
 by_cases g:(0:Int) < (m:Nat)
 ·refine iT ⟨fun σ' H'=> ∃(m' da:Nat) (u4 u5:Option V),σ'=[some (.ref p),some (.int m'),some (.str y),some (.int da),u4,u5]∧aJ H H'∧m'<m∧1≤da∧lo y.cps.contains x.cps.toList m'=lo y.cps.contains x.cps.toList n, ?_, ?_⟩ (zqT g)
  ·rintro σ' H' ⟨m',da,w4,w5,rfl,s',h1,h2,h3⟩
   exact⟨m',h1,m',da,w4,w5,rfl,s',by omega,h2,rfl,h3⟩
  ·refine aV (eA (ao (au (ao (aK (ag rfl (ag rfl (dE (aH ?_)))))))))
   have eb:(if ((m:Nat):Int) - (st:Nat) >0 then ((m:Nat):Int) - (st:Nat) else 0)=((m - st:Nat):Int):=by split<;>omega
   show ar _ _ _ [some (.ref p),some (.int m),some (.str y),some (.int st),some (.int (if ((m:Nat):Int) - (st:Nat) >0 then ((m:Nat):Int) - (st:Nat) else 0)),u5] H2
   rw[eb]
   have B2:=B.same s2
   refine aV (aqS (sV CP (gP CP C) rfl (ag rfl ⟨p,dp,_,rfl,B2.pa.ob,dh (by decide+kernel) (by decide+kernel),ag rfl (ag rfl ⟨p,dp,s,dx,lt,lb,lf,v,t,ts,m - st,m,rfl,B2.pa,B2.st,B.l1,B.l2,B.l3,B.l4,by omega,by rw[B.tx];omega,fun H3 s3=> ?_⟩)⟩)))
   rw[B.tx]
   have lc:(dU x.cps.toList (m - st) m).length=m - (m - st):=Uz (by omega) (by omega)
   refine⟨rfl,ag rfl ⟨_,y,rfl,rfl,bW (by omega), ?_⟩⟩
   have rl:=aqQ (dU x.cps.toList (m - st) m) y
   have DV:(dU x.cps.toList (m - st) m).cps.toList=(x.cps.toList.take m).drop (m - st):=by simp[dU]
   rw[DV,lc] at rl
   have DW:=kY y.cps.contains ((x.cps.toList.take m).drop (m - st)).reverse
   rw[List.length_reverse,List.length_drop,List.length_take] at DW
   refine bF (bA (ag rfl (au (oK ⟨_,rfl, ?_⟩))))
   rw[Uy]
   by_cases g2:0< (Txt.rstripChars (dU x.cps.toList (m - st) m) y).length
   ·refine iT ?_ (zqT g2)
    refine bD (aK (ag rfl (eB (ag rfl ⟨bW (by omega),bM ?_⟩))))
    have hl:=aqO (p:=y.cps.contains) (l:=x.cps.toList) (a:=m - st) (b:=m) (by omega) (by omega) (by omega)
    rw[show((m - st:Nat):Int)+ ((Txt.rstripChars (dU x.cps.toList (m - st) m) y).length:Nat)=((lo y.cps.contains x.cps.toList n:Nat):Int) by rw[←j9,hl];omega]
    exact q _ (s2.trans s3)
   ·refine iF (bR ?_) (zqF g2)
    refine aV (ag rfl (aV (aK (au (ag rfl ⟨.inl ⟨by decide,by decide⟩, ?_⟩)))))
    have hl:=aqP (p:=y.cps.contains) (l:=x.cps.toList) (a:=m - st) (b:=m) (by omega) (by omega) (by omega)
    refine⟨m - st,2*st,some (.int ((m - st:Nat):Int)),some (.str (Txt.rstripChars (dU x.cps.toList (m - st) m) y)), ?_,s2.trans s3,by omega,by omega,by rw[←hl];exact j9⟩
    show[some (V.ref p),some (V.int ((m - st:Nat):Int)),some (V.str y),some (V.int (2* ((st:Nat):Int))),_,_]=_
    rw[show 2* ((st:Nat):Int)=((2*st:Nat):Int) by omega]
 ·refine iF ?_ (zqF g)
  have e0:m=0:=by omega
  subst e0
  refine bD (ag rfl ?_)
  have:lo y.cps.contains x.cps.toList 0=0:=by unfold lo;omega
  rw[←j9,this] at q
  exact q _ s2
theorem aqU(vs:List V)(H:Hp)(Q:VK)(E:XK)(h:fP CP C ro vs H Q E):ar (aQ K [] [("FIRST_STRIDE", .int 64)] [] [("size",CP,cf CP),("part",CP,gP CP C)] (E:=E)) Cv (Dn Q) (start Cu vs) H:=by
 obtain⟨p,dp,s,dx,lt,lb,lf,v,t,ts,x,y,n,rfl,B,hn,hx,q⟩:=h
 have lx:=len_list x
 refine aV (kx ?_)
 have tR: ∀{σ:St} {H2:Hp} {Q1:VK},aJ H H2→σ[0]?=some (some (.ref p))→Q1 (.int (x.length:Nat)) H2→aj (aQ K [] [("FIRST_STRIDE", .int 64)] [] [("size",CP,cf CP),("part",CP,gP CP C)] (E:=E)) (.bO 0 "size" (.v 0) []) σ H2 Q1:=by
  intro σ H2 Q1 s2 e q1
  have B2:=B.same s2
  refine gd CP (cf CP) rfl (ag e ⟨p,dp,_,rfl,B2.pa.ob,dh (by decide+kernel) (by decide+kernel),p,dp,s,v,t,_,rfl,B2.pa, ?_⟩)
  rw[B.tx,←lx];exact q1
 refine oJ (fun k σ H2=> ∃(m:Nat) (st:Nat) (u4 u5:Option V),σ=[some (.ref p),some (.int m),some (.str y),some (.int st),u4,u5]∧aJ H H2∧m≤x.length∧1≤st∧k=x.length - m∧ro y.cps.contains x.cps.toList m=ro y.cps.contains x.cps.toList n) ⟨_,n,64,none,none,rfl,aJ.refl _,hn,by decide,rfl,rfl⟩ ?_
 rintro k σ H2 ⟨m,st,u4,u5,rfl,s2,hm,pd,rfl,j9⟩
 refine bA (ag rfl (tR s2 rfl (N.ltI ⟨_,rfl, ?_⟩)))
 by_cases g:((m:Nat):Int) < (x.length:Nat)
 ·refine iT ⟨fun σ' H'=> ∃(m' da:Nat) (u4 u5:Option V),σ'=[some (.ref p),some (.int m'),some (.str y),some (.int da),u4,u5]∧aJ H H'∧m<m'∧m'≤x.length∧1≤da∧ro y.cps.contains x.cps.toList m'=ro y.cps.contains x.cps.toList n, ?_, ?_⟩ (zqT g)
  ·rintro σ' H' ⟨m',da,w4,w5,rfl,s',h1,oM,h2,h3⟩
   exact⟨x.length - m',by omega,m',da,w4,w5,rfl,s',oM,h2,rfl,h3⟩
  ·refine aV (eA (ao (tR s2 rfl (ao (aK (ag rfl (ag rfl (bM (aH ?_)))))))))
   have eb:(if ((m:Nat):Int)+ (st:Nat) < (x.length:Nat) then ((m:Nat):Int)+ (st:Nat) else (x.length:Nat))=((min x.length (m+st):Nat):Int):=by split<;>omega
   show ar _ _ _ [some (.ref p),some (.int m),some (.str y),some (.int st),some (.int (if ((m:Nat):Int)+ (st:Nat) < (x.length:Nat) then ((m:Nat):Int)+ (st:Nat) else (x.length:Nat))),u5] H2
   rw[eb]
   obtain⟨b,eb2⟩: ∃b,b=min x.length (m+st):=⟨_,rfl⟩
   rw[←eb2]
   have B2:=B.same s2
   refine aV (jI (sV CP (gP CP C) rfl (ag rfl ⟨p,dp,_,rfl,B2.pa.ob,dh (by decide+kernel) (by decide+kernel),ag rfl (ag rfl ⟨p,dp,s,dx,lt,lb,lf,v,t,ts,m,b,rfl,B2.pa,B2.st,B.l1,B.l2,B.l3,B.l4,by omega,by rw[B.tx];omega,fun H3 s3=> ?_⟩)⟩)))
   rw[B.tx]
   have lc:(dU x.cps.toList m b).length=b - m:=Uz (by omega) (by omega)
   refine⟨rfl,ag rfl ⟨bW (by omega), ?_⟩⟩
   have rl:=aqR (dU x.cps.toList m b) y
   have DV:(dU x.cps.toList m b).cps.toList=(x.cps.toList.take b).drop m:=by simp[dU]
   rw[DV,lc] at rl
   have DW:=kY y.cps.contains ((x.cps.toList.take b).drop m)
   rw[List.length_drop,List.length_take] at DW
   refine bF (bA (ag rfl (au (oK ⟨_,rfl, ?_⟩))))
   rw[Uy]
   by_cases g2:0< (Txt.lstripChars (dU x.cps.toList m b) y).length
   ·refine iT ?_ (zqT g2)
    refine bD (aK (ag rfl (eB (ag rfl ⟨bW (by omega),dE ?_⟩))))
    have hl:=aqM (p:=y.cps.contains) (l:=x.cps.toList) (a:=m) (b:=b) (by omega) (by omega) (by omega)
    rw[show((b:Nat):Int) - ((Txt.lstripChars (dU x.cps.toList m b) y).length:Nat)=((ro y.cps.contains x.cps.toList n:Nat):Int) by rw[←j9,hl];omega]
    exact q _ (s2.trans s3)
   ·refine iF (bR ?_) (zqF g2)
    refine aV (ag rfl (aV (aK (au (ag rfl ⟨.inl ⟨by decide,by decide⟩, ?_⟩)))))
    have hl:=aqN (p:=y.cps.contains) (l:=x.cps.toList) (a:=m) (b:=b) (by omega) (by omega) (by omega)
    refine⟨b,2*st,some (.int ((b:Nat):Int)),some (.str (Txt.lstripChars (dU x.cps.toList m b) y)), ?_,s2.trans s3,by omega,by omega,by omega,by rw[←hl];exact j9⟩
    show[some (V.ref p),some (V.int ((b:Nat):Int)),some (V.str y),some (V.int (2* ((st:Nat):Int))),_,_]=_
    rw[show 2* ((st:Nat):Int)=((2*st:Nat):Int) by omega]
 ·refine iF ?_ (zqF g)
  have e0:m=x.length:=by omega
  refine bD (ag rfl ?_)
  have:ro y.cps.contains x.cps.toList m=m:=by
   have:=ro_le (p:=y.cps.contains) (l:=x.cps.toList) (n:=m) (by omega)
   omega
  rw[←j9,this] at q
  exact q _ s2
end
def WS:Str:="0123456789ABCDEFGHIJKLMNOPQRSTUVWXYZabcdefghijklmnopqrstuvwxyz"
def OS:Str:=" !\"#$&'()*+,-./:;<=>?\x40[\\]^_`{|}~\n"
def iq(l:List Nat)(n:Nat):Wd→Nat
 | .left=>n - 1
 | .right=>min l.length (n+1)
 | .top=>0
 | .jS=>l.length
 | .back=>lo WS.cps.contains l (lo OS.cps.contains l n)
 | .on=>ro WS.cps.contains l (ro OS.cps.contains l n)
 | .oW=>bQ l (bJ l n)
 | .en=>lend l (bJ l n)
 | _=>0
def col(l:List Nat)(n:Nat):Nat:=n - bQ l (bJ l n)
def inl(l:List Nat)(i g:Nat):Nat:=bQ l i+min g (lend l i - bQ l i)
def gh(l:List Nat)(i g:Nat)(w:Wd):Nat:=if w= .up then (if i=0 then 0 else inl l (i - 1) g) else (if i=l.count 10 then l.length else inl l (i+1) g)
def led(l:List Nat)(a h:Nat)(g:Option Nat)(w:Wd)(b:Bool):Nat:=
 if w= .up∨w= .down then gh l (bJ l h) (g.getD (col l h)) w else if (w= .left∨w= .right)∧b=false∧a≠h then (if w= .left then min a h else max a h) else iq l h w
def iu(l:List Nat)(h:Nat)(g:Option Nat)(w:Wd):Option Nat:=if w= .up∨w= .down then some (g.getD (col l h)) else none
theorem UA{l:List Nat}{n:Nat}: ∀i,i≤l.count 10→n≤lend l i→ ∃j,j≤i∧bQ l j≤n∧n≤lend l j
 | 0,_,h=> ⟨0,zqR _,by unfold bQ;simp,h⟩
 | i+1,hi,h=>by
  by_cases c:bQ l (i+1)≤n
  ·exact⟨i+1,zqR _,c,h⟩
  ·rw[Up (by omega)] at c
   obtain⟨j,h1,h2,h3⟩:=UA (l:=l) (n:=n) i (by omega) (by omega)
   exact⟨j,by omega,h2,h3⟩
theorem DX{l:List Nat}{n:Nat}(h:n≤l.length):bQ l (bJ l n)≤n∧n≤lend l (bJ l n):=by
 obtain⟨j,h1,h2,h3⟩:=UA (l:=l) (n:=n) (l.count 10) (zqR _) (by rw[Uq];exact h)
 rw[aqr h1 h2 h3]
 exact⟨h2,h3⟩
theorem UB{l:List Nat}{i g:Nat}(h:i≤l.count 10):inl l i g≤l.length:=by
 have:=i9 h
 unfold inl;omega
section
variable {K:Frag} {CP C:Addr}
theorem DY{Γ:aC}{σ:St}{H:Hp}{i:Nat}{b:Bool}{QT:Bool→Hp→Prop}(h:σ[i]?=some (some (.bl b)))(q:QT b H):bE Γ (.v i) σ H QT:=⟨_,h,q⟩
def qx(CP C:Addr):Sp:=fun vs H Q E=> ∃(p dp s dx lt lb lf:Addr) (v:V) (t:Tr) (ts:List Str) (x:Str) (n:Nat) (w:Wd),vs=[.ref p, .int n, .str w.str]∧dW CP C H p dp s dx lt lb lf v t ts x∧n≤x.length∧(w= .oW∨w= .en)∧ ∀H',aJ H H'→Q (.int (iq x.cps.toList n w:Nat)) H'
theorem aqW(vs:List V)(H:Hp)(Q:VK)(E:XK)(h:qx CP C vs H Q E):ar (aQ K [] [] [] [("line_at",CP,ip CP C),("line_size",CP,fo CP C)] (E:=E)) Cy (Dn Q) (start Cw vs) H:=by
 obtain⟨p,dp,s,dx,lt,lb,lf,v,t,ts,x,n,w,rfl,B,hn,hw,q⟩:=h
 have lx:=len_list x
 have bd:=DX (l:=x.cps.toList) (n:=n) (by omega)
 have ok:=i9 (kU x.cps.toList n)
 have zi:=Uo x.cps.toList (bJ x.cps.toList n)
 refine aV (fL CP (ip CP C) rfl (ag rfl ⟨p,dp,_,rfl,B.pa.ob,dh (by decide+kernel) (by decide+kernel),ag rfl ⟨p,dp,s,dx,lt,lb,lf,v,t,ts,n,rfl,B.pa,B.st,by rw[B.tx];omega,fun u H1 s1 fu hu=> ?_⟩⟩))
 rw[B.tx] at hu
 refine aV (aK (ag rfl (ba (ag rfl (au (aF hu rfl (dE ?_)))))))
 have e:((n:Nat):Int) - (((n:Nat):Int) - (bQ x.cps.toList (bJ x.cps.toList n):Nat))=(bQ x.cps.toList (bJ x.cps.toList n):Nat):=by omega
 show ar _ _ _ [some (.ref p),some (.int n),some (.str w.str),some (.ref u),some (.int (((n:Nat):Int) - (((n:Nat):Int) - (bQ x.cps.toList (bJ x.cps.toList n):Nat))))] H1
 rw[e]
 refine bD (oV (bA (ag rfl (au (cw .oW rfl ⟨_,rfl, ?_⟩)))))
 rcases hw with rfl | rfl
 ·exact iT (ag rfl (q _ s1)) rfl
 ·refine iF ?_ rfl
  have B1:=B.same s1
  refine aK (ag rfl (fL CP (fo CP C) rfl (ag rfl ⟨p,dp,_,rfl,B1.pa.ob,dh (by decide+kernel) (by decide+kernel),ba (ag rfl (au (aF hu rfl ⟨p,dp,s,dx,lt,lb,lf,v,t,ts,_,rfl,B1.pa,B1.st,by rw[B.tx];exact kU _ _, ?_⟩)))⟩)))
  rw[B.tx,zi]
  refine bM ?_
  rw[show((bQ x.cps.toList (bJ x.cps.toList n):Nat):Int)+ ((lend x.cps.toList (bJ x.cps.toList n):Nat) - (bQ x.cps.toList (bJ x.cps.toList n):Nat))=(lend x.cps.toList (bJ x.cps.toList n):Nat) by omega]
  exact q _ s1
def tS(CP C:Addr):Sp:=fun vs H Q E=> ∃(p dp s dx lt lb lf:Addr) (v:V) (t:Tr) (ts:List Str) (x:Str) (n:Nat) (w:Wd),vs=[.ref p, .int n, .str w.str]∧dW CP C H p dp s dx lt lb lf v t ts x∧n≤x.length∧x.length≤100000∧w≠ .up∧w≠ .down∧ ∀H',aJ H H'→Q (.int (iq x.cps.toList n w:Nat)) H'
theorem aqX(vs:List V)(H:Hp)(Q:VK)(E:XK)(h:tS CP C vs H Q E):ar (aQ K [("left_over",fP CP C lo),("right_over",fP CP C ro),("place_in_line",qx CP C)] [("OTHER_SIGNS", .str OS),("WORD_SIGNS", .str WS)] [] [("size",CP,cf CP)] (E:=E)) CA (Dn Q) (start Cz vs) H:=by
 obtain⟨p,dp,s,dx,lt,lb,lf,v,t,ts,x,n,w,rfl,B,hn,hx,nu,nd,q⟩:=h
 have lx:=len_list x
 have q0:=q H (aJ.refl _)
 have tR: ∀{σ:St} {Q1:VK},σ[0]?=some (some (.ref p))→Q1 (.int (x.length:Nat)) H→aj (aQ K [("left_over",fP CP C lo),("right_over",fP CP C ro),("place_in_line",qx CP C)] [("OTHER_SIGNS", .str OS),("WORD_SIGNS", .str WS)] [] [("size",CP,cf CP)] (E:=E)) (.bO 0 "size" (.v 0) []) σ H Q1:=by
  intro σ Q1 e q1
  refine gd CP (cf CP) rfl (ag e ⟨p,dp,_,rfl,B.pa.ob,dh (by decide+kernel) (by decide+kernel),p,dp,s,v,t,_,rfl,B.pa, ?_⟩)
  rw[B.tx,←lx];exact q1
 refine oX .left rfl rfl (fun e=> ?_) fun n1=> ?_
 ·subst e
  refine bD (eA (ao (au (ao (aK (ag rfl (au (dE (aH ?_)))))))))
  show Q (.int (if ((n:Nat):Int) - 1>0 then ((n:Nat):Int) - 1 else 0)) H
  rw[show(if ((n:Nat):Int) - 1>0 then ((n:Nat):Int) - 1 else 0)=((n - 1:Nat):Int) by split<;>omega]
  exact q0
 refine oX .right rfl rfl (fun e=> ?_) fun n2=> ?_
 ·subst e
  refine bD (eA (ao (tR rfl (ao (aK (ag rfl (au (bM (aH ?_)))))))))
  show Q (.int (if ((n:Nat):Int)+1< (x.length:Nat) then ((n:Nat):Int)+1 else (x.length:Nat))) H
  rw[show(if ((n:Nat):Int)+1< (x.length:Nat) then ((n:Nat):Int)+1 else ((x.length:Nat):Int))=((min x.cps.toList.length (n+1):Nat):Int) by split<;>omega]
  exact q0
 refine oX .top rfl rfl (fun e=> ?_) fun n3=> ?_
 ·subst e;exact bD (au q0)
 refine oX .jS rfl rfl (fun e=> ?_) fun n4=> ?_
 ·subst e
  refine bD (tR rfl ?_)
  rw[lx];exact q0
 refine oX .back rfl rfl (fun e=> ?_) fun n5=> ?_
 ·subst e
  refine bD (bx (fP CP C lo) rfl (ao (ag rfl (ao (bx (fP CP C lo) rfl (ao (ag rfl (ao (ag rfl (ao (kx (aH ⟨p,dp,s,dx,lt,lb,lf,v,t,ts,x,OS,n,rfl,B,hn,hx,fun H1 s1=> ?_⟩))))))))))))
  have:=lo_le (p:=OS.cps.contains) (l:=x.cps.toList) (n:=n)
  exact ao (kx (aH ⟨p,dp,s,dx,lt,lb,lf,v,t,ts,x,WS,_,rfl,B.same s1,by omega,hx,fun H2 s2=>q _ (s1.trans s2)⟩))
 refine oX .on rfl rfl (fun e=> ?_) fun n6=> ?_
 ·subst e
  refine bD (bx (fP CP C ro) rfl (ao (ag rfl (ao (bx (fP CP C ro) rfl (ao (ag rfl (ao (ag rfl (ao (kx (aH ⟨p,dp,s,dx,lt,lb,lf,v,t,ts,x,OS,n,rfl,B,hn,hx,fun H1 s1=> ?_⟩))))))))))))
  have:=ro_le (p:=OS.cps.contains) (l:=x.cps.toList) (n:=n) (by omega)
  exact ao (kx (aH ⟨p,dp,s,dx,lt,lb,lf,v,t,ts,x,WS,_,rfl,B.same s1,by omega,hx,fun H2 s2=>q _ (s1.trans s2)⟩))
 refine bD (bx (qx CP C) rfl (ao (ag rfl (ao (ag rfl (ao (ag rfl (aH ⟨p,dp,s,dx,lt,lb,lf,v,t,ts,x,n,w,rfl,B,hn, ?_,q⟩))))))))
 cases w<;>first | exact .inl rfl | exact .inr rfl | contradiction
def tU(CP C:Addr):Sp:=fun vs H Q E=> ∃(p dp s dx lt lb lf:Addr) (v:V) (t:Tr) (ts:List Str) (x:Str) (i g:Nat) (w:Wd),vs=[.ref p, .int i, .int g, .str w.str]∧dW CP C H p dp s dx lt lb lf v t ts x∧i≤x.cps.toList.count 10∧(w= .up∨w= .down)∧Q (.int (gh x.cps.toList i g w:Nat)) H
theorem aqY(vs:List V)(H:Hp)(Q:VK)(E:XK)(h:tU CP C vs H Q E):ar (aQ K [] [] [] [("lines",CP,fN CP),("size",CP,cf CP),("place_at",CP,jR CP C),("line_size",CP,fo CP C)] (E:=E)) km (Dn Q) (start CC vs) H:=by
 obtain⟨p,dp,s,dx,lt,lb,lf,v,t,ts,x,i,g,w,rfl,B,hi,hw,q⟩:=h
 have lx:=len_list x
 have last: ∀j:Nat,j≤x.cps.toList.count 10→Q (.int (inl x.cps.toList j g:Nat)) H→ar (aQ K [] [] [] [("lines",CP,fN CP),("size",CP,cf CP),("place_at",CP,jR CP C),("line_size",CP,fo CP C)] (E:=E)) (km.drop 3) (Dn Q) [some (.ref p),some (.int i),some (.int g),some (.str w.str),some (.int (j:Nat))] H:=by
  intro j hj qj
  have ok:=i9 hj
  have zi:=Uo x.cps.toList j
  refine bD (sV CP (jR CP C) rfl (ag rfl ⟨p,dp,_,rfl,B.pa.ob,dh (by decide+kernel) (by decide+kernel),ag rfl (eA (ao (ag rfl (ao (fL CP (fo CP C) rfl (ag rfl ⟨p,dp,_,rfl,B.pa.ob,dh (by decide+kernel) (by decide+kernel),ag rfl ⟨p,dp,s,dx,lt,lb,lf,v,t,ts,j,rfl,B.pa,B.st,by rw[B.tx];exact hj,aH ?_⟩⟩))))))⟩))
  rw[B.tx]
  have e:(if jP x.cps.toList j< ((g:Nat):Int) then jP x.cps.toList j else ((g:Nat):Int))=((min g (lend x.cps.toList j - bQ x.cps.toList j):Nat):Int):=by rw[zi];split<;>omega
  refine⟨p,dp,s,dx,lt,lb,lf,v,t,ts,j,_,rfl,B.pa,B.st,by rw[B.tx];exact hj, ?_, ?_, ?_⟩
  ·rw[e];omega
  ·rw[e,B.tx,zi];omega
  ·rw[e,B.tx]
   exact qj
 have UC: ∀j:Nat,ar (aQ K [] [] [] [("lines",CP,fN CP),("size",CP,cf CP),("place_at",CP,jR CP C),("line_size",CP,fo CP C)] (E:=E)) (km.drop 2) (Dn Q) [some (.ref p),some (.int i),some (.int g),some (.str w.str),some (.int (j:Nat))] H→ar (aQ K [] [] [] [("lines",CP,fN CP),("size",CP,cf CP),("place_at",CP,jR CP C),("line_size",CP,fo CP C)] (E:=E)) (km.drop 1) (Dn Q) [some (.ref p),some (.int i),some (.int g),some (.str w.str),some (.int (j:Nat))] H:=fun j k=>
  bF (bA (ag rfl (au (N.ltI ⟨_,rfl,iF (bR k) (zqF (by omega))⟩))))
 have rl: ∀{σ:St} {Q1:VK},σ[0]?=some (some (.ref p))→Q1 (.int (x.cps.toList.count 10+1:Nat)) H→aj (aQ K [] [] [] [("lines",CP,fN CP),("size",CP,cf CP),("place_at",CP,jR CP C),("line_size",CP,fo CP C)] (E:=E)) (.bO 0 "lines" (.v 0) []) σ H Q1:=by
  intro σ Q1 e q1
  refine gd CP (fN CP) rfl (ag e ⟨p,dp,_,rfl,B.pa.ob,dh (by decide+kernel) (by decide+kernel),p,dp,s,v,t,_,rfl,B.pa, ?_⟩)
  rw[B.tx];exact q1
 refine aV (oV (bA (ag rfl (au (cw .up rfl ⟨_,rfl, ?_⟩)))))
 rcases hw with rfl | rfl
 ·refine iT (aK (ag rfl (au (dE ?_)))) rfl
  have qu:Q (.int ((if i=0 then 0 else inl x.cps.toList (i - 1) g:Nat):Int)) H:=q
  by_cases z:i=0
  ·rw[if_pos z] at qu
   refine bF (bA (ag rfl (au (N.ltI ⟨_,rfl,iT ?_ (zqT (by omega))⟩))))
   exact bD (au qu)
  ·rw[if_neg z] at qu
   show ar _ (km.drop 1) _ [some (.ref p),some (.int i),some (.int g),some (.str Wd.up.str),some (.int (((i:Nat):Int) - 1))] H
   rw[show((i:Nat):Int) - 1=((i - 1:Nat):Int) by omega]
   refine UC _ (bF (bA (ag rfl (rl rfl (gf ⟨_,rfl,iF (bR (last _ (by omega) qu)) (zqF (by omega))⟩)))))
 ·refine iF (aK (ag rfl (au (bM ?_)))) rfl
  have qu:Q (.int ((if i=x.cps.toList.count 10 then x.cps.toList.length else inl x.cps.toList (i+1) g:Nat):Int)) H:=q
  show ar _ (km.drop 1) _ [some (.ref p),some (.int i),some (.int g),some (.str Wd.down.str),some (.int (((i:Nat):Int)+1))] H
  rw[show((i:Nat):Int)+1=((i+1:Nat):Int) by omega]
  refine UC _ (bF (bA (ag rfl (rl rfl (gf ⟨_,rfl, ?_⟩)))))
  by_cases z:i=x.cps.toList.count 10
  ·rw[if_pos z] at qu
   refine iT ?_ (zqT (by omega))
   refine bD (gd CP (cf CP) rfl (ag rfl ⟨p,dp,_,rfl,B.pa.ob,dh (by decide+kernel) (by decide+kernel),p,dp,s,v,t,_,rfl,B.pa, ?_⟩))
   rw[B.tx];exact qu
  ·rw[if_neg z] at qu
   exact iF (bR (last _ (by omega) qu)) (zqF (by omega))
def oZ:Sp:=fun vs H Q E=> ∃(t:Addr) (a h:Nat) (g:Option Nat) (n:Nat) (g':Option Nat) (b:Bool),vs=[.ref t, .int n,gV g', .bl b]∧dw H t a h g∧ ∀t' H',aJ H H'→dw H' t' (if b=true then a else n) n g'→Q (.ref t') H'
theorem aqZ(vs:List V)(H:Hp)(Q:VK)(E:XK)(h:oZ vs H Q E):ar (aQ K [] [] (E:=E)) CG (Dn Q) (start CD vs) H:=by
 obtain⟨t,a,h,g,n,g',b,rfl,ha,q⟩:=h
 refine bD (fK (ao (oV (DY rfl ?_))))
 cases b with
 | true=>
  refine iT (ba (ag rfl (au (aF ha rfl (ao (ag rfl (ao (ag rfl (aH ⟨(by show 3≤sizeLine;decide),fun t' f'=> ?_⟩))))))))) rfl
  exact q t' _ (sameNew f') aU
 | false=>
  refine iF (ag rfl (ao (ag rfl (ao (ag rfl (aH ⟨(by show 3≤sizeLine;decide),fun t' f'=> ?_⟩)))))) rfl
  exact q t' _ (sameNew f') aU
theorem UD(w:Wd):d5 (.str w.str) [.str "up", .str "down"]=decide (w= .up∨w= .down):=by cases w<;>decide+kernel
theorem UE(w:Wd):d5 (.str w.str) [.str "left", .str "right"]=decide (w= .left∨w= .right):=by cases w<;>decide+kernel
def iw(CP C:Addr):Sp:=fun vs H Q E=> ∃(p dp s dx lt lb lf:Addr) (v:V) (t:Tr) (ts:List Str) (x:Str) (cu:Addr) (a h:Nat) (g:Option Nat) (w:Wd) (b:Bool),vs=[.ref p, .ref cu, .str w.str, .bl b]∧dW CP C H p dp s dx lt lb lf v t ts x∧dw H cu a h g∧a≤x.length∧h≤x.length∧x.length≤100000∧
 ∀t' H',aJ H H'→dw H' t' (if b=true then a else led x.cps.toList a h g w b) (led x.cps.toList a h g w b) (iu x.cps.toList h g w)→Q (.ref t') H'
abbrev w6(CP C:Addr):List (Str×Sp):=[("with_head",oZ),("place_in_next_line",tU CP C),("is_empty",qw),("begin_of",kW),("end_of",oY),("place_by_word",tS CP C)]
theorem aq0(vs:List V)(H:Hp)(Q:VK)(E:XK)(h:iw CP C vs H Q E):ar (aQ K (w6 CP C) [] [] [("line_at",CP,ip CP C)] (E:=E)) r6 (Dn Q) (start CH vs) H:=by
 obtain⟨p,dp,s,dx,lt,lb,lf,v,t,ts,x,cu,a,h,g,w,b,rfl,B,ha,h1,h2,hx,q⟩:=h
 have lx:=len_list x
 refine bF (bA (ag rfl (fK (ao (au (ao (au (aH ⟨(by show 2≤sizeLine;decide),fun t1 f1=> ?_⟩))))))))
 have s1:=sameNew (o:= .tup [V.str "up",V.str "down"]) f1
 refine⟨t1,_,rfl, .inr (bo.of aU),rfl,rfl,_,rfl, ?_⟩
 have B1:=B.same s1
 have dB:=s1 _ _ ha
 generalize upd H t1 (.tup [V.str "up",V.str "down"])=H1 at s1 B1 dB⊢
 by_cases ud:w= .up∨w= .down
 ·have el:led x.cps.toList a h g w b=gh x.cps.toList (bJ x.cps.toList h) (g.getD (col x.cps.toList h)) w:=by unfold led;rw[if_pos ud]
  have eg:iu x.cps.toList h g w=some (g.getD (col x.cps.toList h)):=by unfold iu;rw[if_pos ud]
  rw[el,eg] at q
  refine iT ?_ ((UD w).trans (zqT ud))
  refine aV (fL CP (ip CP C) rfl (ag rfl ⟨p,dp,_,rfl,B1.pa.ob,dh (by decide+kernel) (by decide+kernel),ba (ag rfl (au (aF dB rfl ⟨p,dp,s,dx,lt,lb,lf,v,t,ts,h,rfl,B1.pa,B1.st,by rw[B.tx];omega,fun u H2 s2 fu hu=> ?_⟩)))⟩))
  rw[B.tx] at hu
  have bd:=DX (l:=x.cps.toList) (n:=h) (by omega)
  have dC:=s2 _ _ dB
  have go:ar (aQ K (w6 CP C) [] [] [("line_at",CP,ip CP C)] (E:=E)) [.ret (.call 0 [(.v 1),(.call 1 [(.v 0),(.ix (.v 4) (.c (.int 0))),(.v 5),(.v 2)]),(.v 5),(.v 3)])] {(Dn Q) with nx:=ar (aQ K (w6 CP C) [] [] [("line_at",CP,ip CP C)] (E:=E)) (r6.drop 1) (Dn Q)} [some (.ref p),some (.ref cu),some (.str w.str),some (.bl b),some (.ref u),some (.int (g.getD (col x.cps.toList h):Nat))] H2:=by
   refine bD (bx oZ rfl (ao (ag rfl (ao (bx (tU CP C) rfl (ao (ag rfl (ao (ba (ag rfl (au (aF hu rfl (ao (ag rfl (ao (ag rfl (aH ⟨p,dp,s,dx,lt,lb,lf,v,t,ts,x,_,_,w,rfl,B1.same s2,kU _ _,ud, ?_⟩)))))))))))))))))
   exact ao (ag rfl (ao (ag rfl (aH ⟨cu,a,h,g,_,some (g.getD (col x.cps.toList h)),b,rfl,dC,fun t' H' s' hc=>q t' H' ((s1.trans s2).trans s') hc⟩))))
  refine aV (oV (bA (ba (ag rfl (au (aF dC rfl (au ⟨rfl,_,rfl, ?_⟩)))))))
  rw[wX]
  cases g with
  | none=>
   refine iT (ba (ag rfl (au (aF hu rfl ?_)))) rfl
   have e:((h:Nat):Int) - (bQ x.cps.toList (bJ x.cps.toList h):Nat)=(col x.cps.toList h:Nat):=by unfold col;omega
   show ar _ _ _ [some (.ref p),some (.ref cu),some (.str w.str),some (.bl b),some (.ref u),some (.int (((h:Nat):Int) - (bQ x.cps.toList (bJ x.cps.toList h):Nat)))] H2
   rw[e];exact go
  | some n=>exact iF (ba (ag rfl (au (aF dC rfl go)))) rfl
 ·have eg:iu x.cps.toList h g w=none:=by unfold iu;rw[if_neg ud]
  rw[eg] at q
  refine iF (bR ?_) ((UD w).trans (zqF ud))
  have nu:w≠ .up:=fun e=>ud (.inl e)
  have nd:w≠ .down:=fun e=>ud (.inr e)
  refine bF (sI (bA (ag rfl (fK (ao (au (ao (au (aH ⟨(by show 2≤sizeLine;decide),fun t2 f2=> ?_⟩)))))))))
  have s2:=sameNew (o:= .tup [V.str "left",V.str "right"]) f2
  refine⟨t2,_,rfl, .inr (bo.of aU),rfl,rfl,_,rfl, ?_⟩
  have B2:=B1.same s2
  have dC:=s2 _ _ dB
  generalize upd H1 t2 (.tup [V.str "left",V.str "right"])=H2 at s2 B2 dC⊢
  have fq:=s1.trans s2
  have plain: ¬((w= .left∨w= .right)∧b=false∧a≠h)→ar (aQ K (w6 CP C) [] [] [("line_at",CP,ip CP C)] (E:=E)) (r6.drop 2) (Dn Q) [some (.ref p),some (.ref cu),some (.str w.str),some (.bl b),none,none] H2:=by
   intro no
   have el:led x.cps.toList a h g w b=iq x.cps.toList h w:=by unfold led;rw[if_neg ud,if_neg no]
   rw[el] at q
   refine bD (bx oZ rfl (ao (ag rfl (ao (bx (tS CP C) rfl (ao (ag rfl (ao (ba (ag rfl (au (aF dC rfl (ao (ag rfl (aH ⟨p,dp,s,dx,lt,lb,lf,v,t,ts,x,h,w,rfl,B2,h2,hx,nu,nd,fun H3 s3=> ?_⟩)))))))))))))))
   exact ao (au (ao (ag rfl (aH ⟨cu,a,h,g,_,none,b,rfl,s3 _ _ dC,fun t' H' s' hc=>q t' H' ((fq.trans s3).trans s') hc⟩))))
  by_cases lr:w= .left∨w= .right
  ·refine iT ?_ ((UE w).trans (zqT lr))
   refine sI (dg (DY rfl ?_))
   cases b with
   | true=>exact iF (iF (bR (plain fun z=>by cases z.2.1)) rfl) rfl
   | false=>
    refine iT ?_ rfl
    refine S6 (dg (fm qw rfl (ao (ag rfl (aH ⟨cu,a,h,g,rfl,dC,dD ?_⟩)))))
    by_cases e:a=h
    ·rw[zqT e]
     exact iF (bR (plain fun z=>z.2.2 e)) rfl
    ·rw[zqF e]
     refine iT ?_ rfl
     have el:led x.cps.toList a h g w false=if w= .left then min a h else max a h:=by unfold led;rw[if_neg ud,if_pos ⟨lr,rfl,e⟩]
     rw[el] at q
     refine bD (bx oZ rfl (ao (ag rfl (ao (oV (bA (ag rfl (au (cw .left rfl ⟨_,rfl, ?_⟩)))))))))
     rcases lr with rfl | rfl
     ·refine iT (bx kW rfl (ao (ag rfl (aH ⟨cu,a,h,g,rfl,dC, ?_⟩)))) rfl
      exact ao (au (ao (ag rfl (aH ⟨cu,a,h,g,_,none,false,rfl,dC,fun t' H' s' hc=>q t' H' (fq.trans s') hc⟩))))
     ·refine iF (bx oY rfl (ao (ag rfl (aH ⟨cu,a,h,g,rfl,dC, ?_⟩)))) rfl
      exact ao (au (ao (ag rfl (aH ⟨cu,a,h,g,_,none,false,rfl,dC,fun t' H' s' hc=>q t' H' (fq.trans s') hc⟩))))
  ·exact iF (iF (bR (plain fun z=>lr z.1)) rfl) ((UE w).trans (zqF lr))
theorem aq1(vs:List V)(H:Hp)(Q:VK)(E:XK)(h:iw CP C vs H Q E):ar (aQ K [("need_cursors",tN),("need_step",tP),("step",iw CP C)] [] [] [("size",CP,cf CP)] (E:=E)) CJ (Dn Q) (start CI vs) H:=by
 obtain⟨p,dp,s,dx,lt,lb,lf,v,t,ts,x,cu,a,h,g,w,b,rfl,B,ha,h1,h2,hx,q⟩:=h
 have lx:=len_list x
 refine oI (bx tN rfl (ao (gd CP (cf CP) rfl (ag rfl ⟨p,dp,_,rfl,B.pa.ob,dh (by decide+kernel) (by decide+kernel),p,dp,s,v,t,_,rfl,B.pa,ao (gc (ao (ag rfl (aH ⟨(by show 1≤sizeLine;decide),fun l fl=>aH ?_⟩))))⟩))))
 have s1:=sameNew (o:= .lst [V.ref cu]) fl
 refine⟨l,cu,a,h,g,_,rfl,aU,s1 _ _ ha,by rw[B.tx];omega,by rw[B.tx];omega,fun H2 s2=> ?_⟩
 refine oI (bx tP rfl (ao (ag rfl (ao (ag rfl (aH ⟨w,b,rfl, ?_⟩))))))
 have fq:=s1.trans s2
 exact bD (bx (iw CP C) rfl (ao (ag rfl (ao (ag rfl (ao (ag rfl (ao (ag rfl (aH ⟨p,dp,s,dx,lt,lb,lf,v,t,ts,x,cu,a,h,g,w,b,rfl,B.same fq,fq _ _ ha,h1,h2,hx,fun t' H' s' hc=>q t' H' (fq.trans s') hc⟩))))))))))
end
theorem aq2{K:Frag}{i j k:Nat}{t:Addr}{u v w:V}{σ:St}{H:Hp}{Q:St→Hp→Prop}(ht:H t=some (.tup [u,v,w]))(q:Q (((σ.set i (some u)).set j (some v)).set k (some w)) H):ju K [i,j,k].length (iR [i,j,k]) (.ref t) σ H Q:=
 ⟨t,_,rfl, .inl (bo.of ht),rfl,_,_,rfl,_,_,rfl,_,_,rfl,rfl,q⟩
theorem UG{Γ:aC}{σ:St}{Q:VK}{H:Hp}{a hi:RE}(h:aj Γ a σ H fun x H1=>aj Γ hi σ H1 fun j H3=> ∃j':Int,j= .int j'∧rA Γ.K x none (some j') H3 Q):aj Γ (.sl a none (some hi)) σ H Q:=h
theorem UH{Γ:aC}{σ:St}{Q:VK}{H:Hp}{o a:RE}(h:aj Γ o σ H fun x H1=>pj Γ.K "str" x H1∧aj Γ a σ H1 fun y H2=>vV x [y] H2 Q):aj Γ (.xm vW o [a]) σ H Q:=h
theorem aq3{x:Str}{n:Nat}:g6 x none (some (n:Int))=⟨(x.cps.toList.take n).toArray⟩:=by
 unfold g6 iL
 rw[HT.Nc,HT.j8]
 show(⟨((x.cps.toList.drop 0).take (min n x.cps.toList.length - 0)).toArray⟩:Str)=_
 rw[List.drop_zero,Nat.sub_zero]
 by_cases h:n≤x.cps.toList.length
 ·rw[Nat.min_eq_left h]
 ·rw[Nat.min_eq_right (by omega),List.take_of_length_le (zqR _),List.take_of_length_le (by omega)]
theorem aq4(xs:List V)(n:Nat):eK xs none (some (n:Int))=xs.take n:=by
 unfold eK
 rw[HT.Nc,HT.j8]
 show(xs.drop 0).take (min n xs.length - 0)=_
 rw[List.drop_zero,Nat.sub_zero]
 by_cases h:n≤xs.length
 ·rw[Nat.min_eq_left h]
 ·rw[Nat.min_eq_right (by omega),List.take_of_length_le (zqR _),List.take_of_length_le (by omega)]
theorem aq5(l:List Nat)(n:Nat):bQ (l.take n) (bJ l n)=bQ l (bJ l n):=by
 unfold bQ
 by_cases z:bJ l n=0
 ·rw[if_pos z,if_pos z]
 ·rw[if_neg z,if_neg z]
  have e:pos 10 l 0=pos 10 (l.take n) 0++pos 10 (l.drop n) (0+ (l.take n).length):=by rw[←jE,List.take_append_drop]
  have hl:(pos 10 (l.take n) 0).length=bJ l n:=eM 10 _ _
  rw[e,List.getElem?_append_left (by omega)]
theorem UI{x:Str}: ∀i,i≤x.cps.toList.count 10→(((Txt.split x (Str.ofString "\n")).take i).map fun z=> ((z.length:Int)+1)).sum=(bQ x.cps.toList i:Nat)
 | 0,_=>by unfold bQ;simp
 | i+1,h=>by
  obtain⟨z,hz,lz⟩:=wW (x:=x) (i:=i) (by omega)
  have ok:=i9 (l:=x.cps.toList) (i:=i) (by omega)
  have bC:i< (Txt.split x (Str.ofString "\n")).length:=(List.getElem?_eq_some_iff.mp hz).1
  rw[List.take_succ_eq_append_getElem bC,(List.getElem?_eq_some_iff.mp hz).2,List.map_append,List.sum_append,UI i (by omega),Up (by omega)]
  show((bQ x.cps.toList i:Nat):Int)+ (((z.length:Int)+1)+0)=_
  rw[lz];omega
section
variable {K:Frag}
def jT:Sp:=fun vs H Q E=> ∃(x:Str) (n:Nat),vs=[.str x, .int n]∧x.length≤100000∧n≤x.length∧ ∀u H',aJ H H'→H' u=some (.tup [.int (bJ x.cps.toList n:Nat), .int (col x.cps.toList n:Nat)])→Q (.ref u) H'
theorem aq6(vs:List V)(H:Hp)(Q:VK)(E:XK)(h:jT vs H Q E):ar (aQ K [] [] (E:=E)) CL (Dn Q) (start CK vs) H:=by
 obtain⟨x,n,rfl,hx,hn,q⟩:=h
 have lx:=len_list x
 refine aV (UH (UG (ag rfl (ag rfl ⟨_,rfl,bW (by omega), ?_⟩))))
 rw[aq3]
 obtain⟨x',ex⟩: ∃x':Str,x'=⟨(x.cps.toList.take n).toArray⟩:=⟨_,rfl⟩
 have lt:x'.cps.toList=x.cps.toList.take n:=by rw[ex]
 have UJ:x'.length=n:=by rw[len_list,lt,List.length_take];omega
 have ec:x'.cps.toList.count 10=bJ x.cps.toList n:=by rw[lt];rfl
 rw[←ex]
 refine⟨rfl,au ⟨x',_,rfl,rfl,by decide+kernel,by omega,fun l1 f1=> ?_⟩⟩
 have s1:=sameNew (o:= .lst ((Txt.split x' (Str.ofString "\n")).map V.str)) f1
 have hl:upd H l1 (.lst ((Txt.split x' (Str.ofString "\n")).map V.str)) l1=some (.lst ((Txt.split x' (Str.ofString "\n")).map V.str)):=aU
 generalize upd H l1 (.lst ((Txt.split x' (Str.ofString "\n")).map V.str))=H1 at s1 hl⊢
 have ll:((Txt.split x' (Str.ofString "\n")).map V.str).length=bJ x.cps.toList n+1:=by rw[List.length_map,split_len,ec]
 obtain⟨z,hz,lz⟩:=wW (x:=x') (i:=x'.cps.toList.count 10) (zqR _)
 rw[Uq,ec] at lz
 rw[ec] at hz
 have tG:z.length=col x.cps.toList n:=by
  rw[lz,←len_list,UJ,lt,aq5];rfl
 have fO:dP ((Txt.split x' (Str.ofString "\n")).map V.str) (-1)=some (.str z):=by
  unfold dP
  rw[ll,TN]
  show((Txt.split x' (Str.ofString "\n")).map V.str)[bJ x.cps.toList n]?=_
  rw[List.getElem?_map,hz];rfl
 refine bD (fK (ao (aK (eB (ag rfl (.inl ⟨_,aM.of hl,au (dE ?_)⟩))))))
 rw[ll]
 refine ao (eB (ba (ag rfl (qo (eo hl fO ⟨bW (by rw[tG];unfold col;omega),aH ⟨(by show 2≤sizeLine;decide),fun u fu=> ?_⟩⟩)))))
 rw[tG,show((bJ x.cps.toList n+1:Nat):Int) - 1=(bJ x.cps.toList n:Nat) by omega]
 exact q u _ (s1.trans (sameNew fu)) aU
def qy:Sp:=fun vs H Q E=> ∃(x:Str) (i g:Nat),vs=[.str x, .int i, .int g]∧x.length≤100000∧i≤x.cps.toList.count 10∧ ∀H',aJ H H'→Q (.int (inl x.cps.toList i g:Nat)) H'
theorem aq7(vs:List V)(H:Hp)(Q:VK)(E:XK)(h:qy vs H Q E):ar (aQ K [] [] (E:=E)) CN (Dn Q) (start CM vs) H:=by
 obtain⟨x,i,g,rfl,hx,hi,q⟩:=h
 have lx:=len_list x
 have cx:x.cps.toList.count 10≤x.length:=by rw[lx];exact List.count_le_length
 refine aV (UH (ag rfl ⟨rfl,au ⟨x,_,rfl,rfl,by decide+kernel,by omega,fun l1 f1=> ?_⟩⟩))
 have s1:=sameNew (o:= .lst ((Txt.split x (Str.ofString "\n")).map V.str)) f1
 have hl:upd H l1 (.lst ((Txt.split x (Str.ofString "\n")).map V.str)) l1=some (.lst ((Txt.split x (Str.ofString "\n")).map V.str)):=aU
 generalize upd H l1 (.lst ((Txt.split x (Str.ofString "\n")).map V.str))=H1 at s1 hl⊢
 have sl:(Txt.split x (Str.ofString "\n")).length=x.cps.toList.count 10+1:=split_len x
 refine bD (aK (eA (ao (DC (UG (ag rfl (ag rfl ⟨_,rfl, .inl ⟨_,aM.of hl,fun l2 f2=> ⟨l2,rfl,⟨_,aM.of aU⟩, ?_⟩⟩⟩)))))))
 rw[aq4,←List.map_take]
 have s2:=sameNew (o:= .lst (((Txt.split x (Str.ofString "\n")).take i).map V.str)) f2
 have h2:upd H1 l2 (.lst (((Txt.split x (Str.ofString "\n")).take i).map V.str)) l2=some (.lst (((Txt.split x (Str.ofString "\n")).take i).map V.str)):=aU
 generalize upd H1 l2 (.lst (((Txt.split x (Str.ofString "\n")).take i).map V.str))=H2 at s2 h2⊢
 have lt:(((Txt.split x (Str.ofString "\n")).take i).map V.str).length=i:=by rw[List.length_map,List.length_take];omega
 refine DB h2 (by omega) (fun k ys _=>ys=((((Txt.split x (Str.ofString "\n")).take k).map fun z=> ((z.length:Int)+1)).map V.int)) rfl ?_ ?_
 ·intro k y ys H3 hk s3 e Q' kk
  have hki:k<i:=by have:=(List.getElem?_eq_some_iff.mp hk).1;omega
  rw[List.getElem?_map,List.getElem?_take_of_lt hki] at hk
  have bC:k< (Txt.split x (Str.ofString "\n")).length:=by omega
  have hz:(Txt.split x (Str.ofString "\n"))[k]?=some (Txt.split x (Str.ofString "\n"))[k]:=List.getElem?_eq_getElem bC
  rw[hz] at hk
  cases hk
  obtain⟨z',iQ,tG⟩:=wW (x:=x) (i:=k) (by omega)
  rw[hz] at iQ
  have ez:(Txt.split x (Str.ofString "\n"))[k]=z':=Option.some.inj iQ
  have ok:=i9 (l:=x.cps.toList) (i:=k) (by omega)
  refine aK (eB (ag rfl ⟨bW (by rw[ez];omega),au (bM (kk _ _ (aJ.refl _) ?_))⟩))
  rw[e,List.take_succ_eq_append_getElem bC,List.map_append,List.map_append];rfl
 ·intro ys H3 l4 s3 e f4
  subst e
  rw[lt]
  have s4:=sameNew (o:= .lst ((((Txt.split x (Str.ofString "\n")).take i).map fun z=> ((z.length:Int)+1)).map V.int)) f4
  refine aH ⟨_,aM.of aU, ?_⟩
  have kS:=(s2.trans s3).trans s4
  have UK:=kS _ _ hl
  generalize upd H3 l4 (.lst ((((Txt.split x (Str.ofString "\n")).take i).map fun z=> ((z.length:Int)+1)).map V.int))=H4 at kS UK⊢
  rw[UI i hi]
  obtain⟨z,hz,lz⟩:=wW hi
  have ok:=i9 hi
  have fO:dP ((Txt.split x (Str.ofString "\n")).map V.str) ((i:Nat):Int)=some (.str z):=jj (by rw[List.getElem?_map,hz];rfl)
  refine eA (ao (ag rfl (ao (eB (ba (ag rfl (ag rfl (eo UK fO ⟨bW (by omega),aH ?_⟩))))))))
  show kc K .Add (.int (bQ x.cps.toList i:Nat)) (.int (if ((z.length:Nat):Int) < ((g:Nat):Int) then ((z.length:Nat):Int) else ((g:Nat):Int))) H4 Q
  rw[show(if ((z.length:Nat):Int) < ((g:Nat):Int) then ((z.length:Nat):Int) else ((g:Nat):Int))=((min g (lend x.cps.toList i - bQ x.cps.toList i):Nat):Int) by rw[lz];split<;>omega]
  exact bM (q _ (s1.trans kS))
def SM:Str:="abcdefghijklmnopqrstuvwxyzABCDEFGHIJKLMNOPQRSTUVWXYZ0123456789"
theorem aq9(j:Str)(c:Nat):(!(Builtin.Str.occurrences j ⟨#[c]⟩ 0 j.length 1).isEmpty)=j.cps.contains c:=by
 rw[v9 j c 0 1 (zqZ _),List.drop_zero]
 have hl:=eM c j.cps.toList 0
 have e:j.cps.contains c=decide (0<j.cps.toList.count c):=by
  rw[Bool.eq_iff_iff]
  simp only[decide_eq_true_eq,List.count_pos_iff]
  simp
 rw[e]
 cases hp:pos c j.cps.toList 0 with
 | nil=>rw[hp] at hl;rw[←hl];rfl
 | cons a r=>rw[hp] at hl;rw[←hl];simp
theorem UL: ∀c,SG.cps.contains c=true→OS.cps.contains c=(!SM.cps.contains c)∧WS.cps.contains c=SM.cps.contains c:=by
 have all:(SG.cps.toList.all fun c=> (OS.cps.contains c== !SM.cps.contains c) && (WS.cps.contains c==SM.cps.contains c))=true:=by decide+kernel
 intro c hc
 have:=List.all_eq_true.mp all c (by simpa using hc)
 simpa using this
theorem UM{p q:Nat→Bool}{l:List Nat}{n:Nat}(h: ∀c∈l,p c=q c):ro p l n=ro q l n:=by
 unfold ro;rw[DU fun c hc=>h c (List.mem_of_mem_drop hc)]
theorem UN{p q:Nat→Bool}{l:List Nat}{n:Nat}(h: ∀c∈l,p c=q c):lo p l n=lo q l n:=by
 unfold lo;rw[DU fun c hc=>h c (List.mem_of_mem_take (List.mem_reverse.mp hc))]
theorem aq_{p:Nat→Bool}{l:List Nat}{m:Nat}(h:m<l.length):ro p l m=if p l[m]=true then ro p l (m+1) else m:=by
 unfold ro
 rw[List.drop_eq_getElem_cons h]
 unfold cM
 rw[List.takeWhile_cons]
 split
 ·simp;omega
 ·simp
theorem ara{p:Nat→Bool}{l:List Nat}{m:Nat}(h:m<l.length):lo p l (m+1)=if p l[m]=true then lo p l m else m+1:=by
 unfold lo
 rw[List.take_succ_eq_append_getElem h,List.reverse_append]
 show m+1 - cM p (l[m]::(l.take m).reverse)=_
 have:=kY p (l.take m).reverse
 rw[List.length_reverse,List.length_take] at this
 unfold cM at this⊢
 rw[List.takeWhile_cons]
 split
 ·simp only[List.length_cons];omega
 ·simp
theorem w9{Γ:aC}{σ:St}{H:Hp}{a b:RE}{QT:Bool→Hp→Prop}(h:aj Γ a σ H fun x H1=>aj Γ b σ H1 fun y H2=>jo Γ.K Γ.sd x y H2 fun z H3=>gm Γ.K z H3 fun b=>QT b H3):bE Γ (.ix a b) σ H QT:=h
section
variable {Γ:aC} {D:Ends} {H:Hp} {r:List RS} {x:Str} {u2 u3 u4:Option V}
theorem UO{p:Nat→Bool}{tV:RE}(hx:x.length≤100000)(ht: ∀(m:Nat) (hm:m<x.cps.toList.length) (QT:Bool→Hp→Prop),QT (p (x.cps.toList[m])) H→bE Γ tV [some (.str x),some (.int m),u2,u3,u4] H QT)(n:Nat)(hn:n≤x.length)(k:ar Γ r D [some (.str x),some (.int (ro p x.cps.toList n:Nat)),u2,u3,u4] H):
  ar Γ (.eR (.and [(.cmp .Lt (.v 1) (.blt .len [(.v 0)])),tV]) [.asg 1 (.bin .Add (.v 1) (.c (.int 1)))]::r) D [some (.str x),some (.int n),u2,u3,u4] H:=by
 have lx:=len_list x
 refine oJ (fun j σ H2=> ∃m:Nat,σ=[some (.str x),some (.int m),u2,u3,u4]∧H2=H∧m≤x.length∧j=x.length - m∧ro p x.cps.toList m=ro p x.cps.toList n) ⟨_,n,rfl,rfl,hn,rfl,rfl⟩ ?_
 rintro j σ H2 ⟨m,rfl,rfl,hm,rfl,he⟩
 refine qc (bA (ag rfl (eB (ag rfl ⟨bW (by omega),N.ltI ⟨_,rfl, ?_⟩⟩))))
 by_cases g:((m:Nat):Int) < (x.length:Nat)
 ·have jt:m<x.cps.toList.length:=by omega
  have st:=aq_ (p:=p) jt
  refine iT (ht m jt _ ?_) (zqT g)
  by_cases g2:p (x.cps.toList[m])=true
  ·rw[if_pos g2] at st
   refine iT ⟨fun σ' H'=>σ'=[some (.str x),some (.int (m+1:Nat)),u2,u3,u4]∧H'=H2, ?_, ?_⟩ g2
   ·rintro σ' H' ⟨rfl,rfl⟩
    exact⟨x.length - (m+1),by omega,m+1,rfl,rfl,by omega,rfl,by rw[←st];exact he⟩
   ·exact aV (aK (ag rfl (au (bM ⟨rfl,rfl⟩))))
  ·rw[if_neg g2] at st
   refine iF ?_ (by simpa using g2)
   rw[←he,st] at k;exact k
 ·refine iF (iF ?_ rfl) (zqF g)
  have:ro p x.cps.toList m=m:=by have:=ro_le (p:=p) (l:=x.cps.toList) (n:=m) (by omega);omega
  rw[←he,this] at k;exact k
theorem UP{p:Nat→Bool}{tV:RE}(hx:x.length≤100000)(ht: ∀(m:Nat) (hm:m<x.cps.toList.length) (QT:Bool→Hp→Prop),QT (p (x.cps.toList[m])) H→bE Γ tV [some (.str x),some (.int (m+1:Nat)),u2,u3,u4] H QT)(n:Nat)(hn:n≤x.length)(k:ar Γ r D [some (.str x),some (.int (lo p x.cps.toList n:Nat)),u2,u3,u4] H):
  ar Γ (.eR (.and [(.cmp .Gt (.v 1) (.c (.int 0))),tV]) [.asg 1 (.bin .Sub (.v 1) (.c (.int 1)))]::r) D [some (.str x),some (.int n),u2,u3,u4] H:=by
 have lx:=len_list x
 refine oJ (fun j σ H2=> ∃m:Nat,σ=[some (.str x),some (.int m),u2,u3,u4]∧H2=H∧m≤x.length∧m=j∧lo p x.cps.toList m=lo p x.cps.toList n) ⟨_,n,rfl,rfl,hn,rfl,rfl⟩ ?_
 rintro j σ H2 ⟨m,rfl,rfl,hm,rfl,he⟩
 refine qc (bA (ag rfl (au (N.qv ⟨_,rfl, ?_⟩))))
 by_cases g:(0:Int) < (m:Nat)
 ·obtain⟨j,rfl⟩: ∃j,m=j+1:=⟨m - 1,by omega⟩
  have jt:j<x.cps.toList.length:=by omega
  have st:=ara (p:=p) jt
  refine iT (ht j jt _ ?_) (zqT g)
  by_cases g2:p (x.cps.toList[j])=true
  ·rw[if_pos g2] at st
   refine iT ⟨fun σ' H'=>σ'=[some (.str x),some (.int (j:Nat)),u2,u3,u4]∧H'=H2, ?_, ?_⟩ g2
   ·rintro σ' H' ⟨rfl,rfl⟩
    exact⟨j,by omega,j,rfl,rfl,by omega,rfl,by rw[←st];exact he⟩
   ·refine aV (aK (ag rfl (au (dE ⟨?_,rfl⟩))))
    show[some (V.str x),some (V.int (((j+1:Nat):Int) - 1)),u2,u3,u4]=_
    rw[show((j+1:Nat):Int) - 1=(j:Nat) by omega]
  ·rw[if_neg g2] at st
   refine iF ?_ (by simpa using g2)
   rw[←he,st] at k;exact k
 ·refine iF (iF ?_ rfl) (zqF g)
  have e0:m=0:=by omega
  subst e0
  have:lo p x.cps.toList 0=0:=by unfold lo;omega
  rw[←he,this] at k;exact k
theorem arb{σ:St}{QQ:List V→Hp→Addr→Prop}{te:TE}{fv:List (Str×Nat)}(hl:x.length≤1000000)(f:Nat→V)
  (step: ∀c,∀Q':VK,Q' (f c) H→te (some (.str ⟨#[c]⟩)::cH σ fv) H Q')
  (fin: ∀p,H p=none→QQ (x.cps.toList.map f) H p): ∃W:Nat→Nat→List V→Hp→Prop,(∃m,W 0 m [] H)∧ ∀i m ys H2,W i m ys H2→
   ((rD x).stop i H2∧ ∀p,H2 p=none→QQ ys H2 p)∨
   ((rD x).go i H2∧ ∀y H3,(rD x).e_ i H2 y H3→ka K none y H3 fun zs=>lQ none (zs.map some++cH σ fv) H3 fun b H5=>
    if b=true then te (zs.map some++cH σ fv) H5 fun y H6=>ys.length<sizeLine∧ ∃m',m'<m∧W (i+1) m' (ys++ [y]) H6 else ∃m',m'<m∧W (i+1) m' ys H5):=by
 have lx:=len_list x
 refine⟨fun i m ys H2=>m=x.length - i∧i≤x.length∧ys=(x.cps.toList.take i).map f∧H2=H,⟨_,rfl,zqZ _,rfl,rfl⟩, ?_⟩
 rintro i m ys H2 ⟨rfl,hi,rfl,rfl⟩
 by_cases bC:i<x.length
 ·refine .inr ⟨bC, ?_⟩
  rintro y H3 ⟨rfl,c,hc,rfl⟩
  have cq:x.cps.toList[i]?=some c:=by simpa using hc
  have sM:i<x.cps.toList.length:=by omega
  refine step c _ ⟨jG (by rw[List.length_map,List.length_take];omega),x.length - (i+1),by omega,rfl,bC, ?_,rfl⟩
  rw[List.take_succ_eq_append_getElem sM,(List.getElem?_eq_some_iff.mp cq).2,List.map_append];rfl
 ·have sx:i=x.length:=by omega
  subst sx
  refine .inl ⟨rfl,fun p hp=> ?_⟩
  rw[lx,List.take_of_length_le (zqR _)]
  exact fin p hp
end
theorem arc{Γ:aC}{D:Ends}{σ:St}{H:Hp}{r:List RS}{i:Nat}{e:RE}(h:aj Γ e σ H fun v H1=>ar Γ r D (σ.set i (some v)) H1):ar Γ (.vk i e::r) D σ H:=h
def tW:Sp:=fun vs H Q E=> ∃(x:Str) (n:Nat) (w:Wd),vs=[.str x, .int n, .str w.str]∧good x∧x.length≤100000∧n≤x.length∧(w= .back∨w= .on)∧ ∀H',aJ H H'→Q (.int (iq x.cps.toList n w:Nat)) H'
theorem ard(vs:List V)(H:Hp)(Q:VK)(E:XK)(h:tW vs H Q E):ar (aQ K [] [] (E:=E)) CQ (Dn Q) (start CO vs) H:=by
 obtain⟨x,n,w,rfl,gx,hx,hn,hw,q⟩:=h
 have lx:=len_list x
 refine aV (au (arc ?_))
 refine⟨_,rfl,x,rfl, ?_⟩
 refine arb gx.1 (fun c=>V.bl (SM.cps.contains c)) ?_ ?_
 ·intro c Q' q'
  refine gN (ag rfl (ag rfl ⟨_,rfl, ?_⟩))
  show Q' (.bl (!(Builtin.Str.occurrences SM ⟨#[c]⟩ 0 SM.length 1).isEmpty)) H
  rw[aq9];exact q'
 intro a fa
 have s1:=sameNew (o:= .lst (x.cps.toList.map fun c=>V.bl (SM.cps.contains c))) fa
 have ha:upd H a (.lst (x.cps.toList.map fun c=>V.bl (SM.cps.contains c))) a=some (.lst (x.cps.toList.map fun c=>V.bl (SM.cps.contains c))):=aU
 generalize upd H a (.lst (x.cps.toList.map fun c=>V.bl (SM.cps.contains c)))=H1 at s1 ha⊢
 have fO: ∀(m:Nat) (hm:m<x.cps.toList.length),dP (x.cps.toList.map fun c=>V.bl (SM.cps.contains c)) ((m:Nat):Int)=some (.bl (SM.cps.contains x.cps.toList[m])):=fun m hm=>jj (by rw[List.getElem?_map,List.getElem?_eq_getElem hm];rfl)
 have pO: ∀c∈x.cps.toList,(fun c=> !SM.cps.contains c) c=OS.cps.contains c:=fun c hc=> ((UL c (gx.2 c hc)).1).symm
 have pW: ∀c∈x.cps.toList,SM.cps.contains c=WS.cps.contains c:=fun c hc=> ((UL c (gx.2 c hc)).2).symm
 refine oX .on rfl rfl (fun e=> ?_) fun ne=> ?_
 ·subst e
  have b1:=ro_le (p:=fun c=> !SM.cps.contains c) (l:=x.cps.toList) (n:=n) (by omega)
  refine UO (p:=fun c=> !SM.cps.contains c) hx (fun m hm QT qt=>dg (w9 (ag rfl (ag rfl (eo ha (fO m hm) (dD qt)))))) n hn ?_
  refine UO (p:=SM.cps.contains) hx (fun m hm QT qt=>w9 (ag rfl (ag rfl (eo ha (fO m hm) (dD qt))))) _ (by omega) ?_
  refine bD (ag rfl ?_)
  rw[UM pO,UM pW]
  exact q _ s1
 ·have e:w= .back:=by rcases hw with h | h;exact h;exact absurd h ne
  subst e
  have b1:=lo_le (p:=fun c=> !SM.cps.contains c) (l:=x.cps.toList) (n:=n)
  have es: ∀m:Nat,((m+1:Nat):Int) - 1=(m:Nat):=fun m=>by omega
  refine UP (p:=fun c=> !SM.cps.contains c) hx (fun m hm QT qt=>dg (w9 (ag rfl (aK (ag rfl (au (dE ?_))))))) n hn ?_
  ·rw[es];exact eo ha (fO m hm) (dD qt)
  refine UP (p:=SM.cps.contains) hx (fun m hm QT qt=>w9 (ag rfl (aK (ag rfl (au (dE ?_)))))) _ (by omega) ?_
  ·rw[es];exact eo ha (fO m hm) (dD qt)
  refine bD (ag rfl ?_)
  rw[UN pO,UN pW]
  exact q _ s1
end
section
variable {K:Frag}
theorem tX{Γ:aC}{σ:St}{H:Hp}{Q:VK}{i:Nat}{w:Wd}(v:Wd){z:Str}(hz:v.str=z){e1 e2:RE}{a b:V}(hσ:σ[i]?=some (some (.str w.str)))(h1: ∀Q1:VK,Q1 a H→aj Γ e1 σ H Q1)(h2: ∀Q1:VK,Q1 b H→aj Γ e2 σ H Q1)(q: ∀H',aJ H H'→Q (if w=v then b else a) H'):
  aj Γ (.ix (.lst [e1,e2]) (.blt .int [.cmp .Eq (.v i) (.c (.str z))])) σ H Q:=by
 refine ba (gc (ao (h1 _ (ao (h2 _ (aH ⟨(by show 2≤sizeLine;decide),fun l fl=> ?_⟩))))))
 refine eA (ao (gN (ag hσ (au (cw v hz (aH ?_))))))
 have q':=q _ (sameNew (o:= .lst [a,b]) fl)
 by_cases e:w=v
 ·rw[if_pos e] at q'
  rw[zqT e]
  exact eo aU (i:=1) rfl q'
 ·rw[if_neg e] at q'
  rw[zqF e]
  exact eo aU (i:=0) rfl q'
def qA:Sp:=fun vs H Q E=> ∃(x:Str) (cu:Addr) (a h:Nat) (g:Option Nat) (w:Wd) (b:Bool),vs=[.str x, .ref cu, .str w.str, .bl b]∧good x∧x.length≤100000∧dw H cu a h g∧a≤x.length∧h≤x.length∧ ∀H',aJ H H'→Q (.int (led x.cps.toList a h g w b:Nat)) H'
abbrev kZ(K:Frag)(E:XK):aC:=aQ K [("_law_at_line",jT),("_law_in_line",qy),("_law_word_place",tW)] [] (E:=E)
theorem UQ(x:Str)(hx:x.length≤1000000){Γ:aC}{σ:St}{H:Hp}{Q:VK}(hσ:σ[0]?=some (some (.str x)))(q:Q (.int (x.cps.toList.count 10:Nat)) H):aj Γ (.bZ .count (.v 0) [(.c (.str "\n"))]) σ H Q:=by
 refine jI (ag hσ ⟨rfl,au ?_⟩)
 show Q (.int ((Builtin.Str.occurrences x (Str.ofString "\n") 0 x.length (x.length+1)).length:Nat)) H
 rw[Tj];exact q
theorem arf(vs:List V)(H:Hp)(Q:VK)(E:XK)(h:qA vs H Q E):ar (kZ K E) cp (Dn Q) (start fI vs) H:=by
 obtain⟨x,cu,a,h,g,w,b,rfl,gx,hx,ha,h1,h2,q⟩:=h
 have lx:=len_list x
 refine Us (ag rfl (aq2 ha ?_))
 refine Us (bx jT rfl (ao (ag rfl (ao (ag rfl (aH ⟨x,h,rfl,hx,h2,fun u H1 s1 hu=>Ut hu ?_⟩))))))
 have dB:=s1 _ _ ha
 have bd:=DX (l:=x.cps.toList) (n:=h) (by omega)
 have nl:=kU x.cps.toList h
 have ok:=i9 nl
 have w_: ∀{σ:St} {Q1:VK} {H1:Hp},σ[0]?=some (some (.str x))→Q1 (.int (x.length:Nat)) H1→aj (kZ K E) (.blt .len [(.v 0)]) σ H1 Q1:=fun e q=>eB (ag e ⟨bW (by omega),q⟩)
 refine tK .top .jS rfl rfl rfl (fun e=> ?_) fun n1 n2=> ?_
 ·have el:led x.cps.toList a h g w b=if w= .jS then x.length else 0:=by
   rcases e with rfl | rfl
   ·unfold led;simp[iq]
   ·unfold led;simp[iq,lx]
  rw[el] at q
  refine bD (tX .jS rfl rfl (a:= .int 0) (b:= .int (x.length:Nat)) (fun Q1 q1=>au q1) (fun Q1 q1=>w_ rfl q1) fun H2 s2=> ?_)
  have q':=q H2 (s1.trans s2)
  by_cases z:w= .jS
  ·rw[if_pos z] at q'⊢;exact q'
  ·rw[if_neg z] at q'⊢;exact q'
 refine tK .oW .en rfl rfl rfl (fun e=> ?_) fun n3 n4=> ?_
 ·have el:led x.cps.toList a h g w b=inl x.cps.toList (bJ x.cps.toList h) (if w= .en then x.length else 0):=by
   rcases e with rfl | rfl
   ·unfold led inl;simp[iq]
   ·have e1:led x.cps.toList a h g .en b=lend x.cps.toList (bJ x.cps.toList h):=by
     unfold led;rw[if_neg (by decide),if_neg (by rintro⟨z,_⟩;rcases z with z | z<;>cases z)];rfl
    rw[e1,if_pos rfl];unfold inl;omega
  rw[el] at q
  refine bD (bx qy rfl (ao (ag rfl (ao (ag rfl (ao (tX .en rfl rfl (a:= .int 0) (b:= .int (x.length:Nat)) (fun Q1 q1=>au q1) (fun Q1 q1=>w_ rfl q1) fun H2 s2=> ?_)))))))
  refine aH ⟨x,_,if w= .en then x.length else 0, ?_,hx,nl,fun H3 s3=>q H3 ((s1.trans s2).trans s3)⟩
  by_cases z:w= .en
  ·rw[if_pos z,if_pos z]
  ·rw[if_neg z,if_neg z];rfl
 refine tK .back .on rfl rfl rfl (fun e=> ?_) fun n5 n6=> ?_
 ·have el:led x.cps.toList a h g w b=iq x.cps.toList h w:=by
   unfold led
   rcases e with rfl | rfl
   ·rw[if_neg (by decide),if_neg (by rintro⟨z,_⟩;rcases z with z | z<;>cases z)]
   ·rw[if_neg (by decide),if_neg (by rintro⟨z,_⟩;rcases z with z | z<;>cases z)]
  rw[el] at q
  exact bD (bx tW rfl (ao (ag rfl (ao (ag rfl (ao (ag rfl (aH ⟨x,h,w,rfl,gx,hx,h2,e,fun H2 s2=>q H2 (s1.trans s2)⟩))))))))
 refine tK .left .right rfl rfl rfl (fun e=> ?_) fun n7 n8=> ?_
 ·have UR: ¬(w= .up∨w= .down):=by rcases e with rfl | rfl<;>decide
  have plain: ¬(b=false∧a≠h)→ar (kZ K E) [.ret (.blt .max [(.c (.int 0)),(.blt .min [(.blt .len [(.v 0)]),(.bin .Add (.v 5) (.ix (.lst [(.neg (.c (.int 1))),(.c (.int 1))]) (.blt .int [(.cmp .Eq (.v 2) (.c (.str "right")))])))])])] {(Dn Q) with nx:=ar (kZ K E) (cp.drop 6) (Dn Q)} [some (.str x),some (.ref cu),some (.str w.str),some (.bl b),some (.int a),some (.int h),some (gV g),some (.int (bJ x.cps.toList h:Nat)),some (.int (col x.cps.toList h:Nat)),none] H1:=by
   intro no
   have el:led x.cps.toList a h g w b=iq x.cps.toList h w:=by unfold led;rw[if_neg UR,if_neg fun z=>no z.2]
   rw[el] at q
   refine bD (eA (ao (au (ao (eA (ao (w_ rfl (ao (aK (ag rfl (tX .right rfl rfl (a:= .int (-1)) (b:= .int 1) (fun Q1 q1=>qo q1) (fun Q1 q1=>au q1) fun H2 s2=> ?_)))))))))))
   have q':=q H2 (s1.trans s2)
   rcases e with rfl | rfl
   ·rw[if_neg (by decide)]
    refine bM ?_
    show Q (.int (if (if ((h:Nat):Int)+ -1< (x.length:Nat) then ((h:Nat):Int)+ -1 else ((x.length:Nat):Int)) >0 then (if ((h:Nat):Int)+ -1< (x.length:Nat) then ((h:Nat):Int)+ -1 else ((x.length:Nat):Int)) else 0)) H2
    rw[show(if (if ((h:Nat):Int)+ -1< (x.length:Nat) then ((h:Nat):Int)+ -1 else ((x.length:Nat):Int)) >0 then (if ((h:Nat):Int)+ -1< (x.length:Nat) then ((h:Nat):Int)+ -1 else ((x.length:Nat):Int)) else 0)=((h - 1:Nat):Int) by split<;>split at* <;>omega]
    exact q'
   ·rw[if_pos rfl]
    refine bM ?_
    show Q (.int (if (if ((h:Nat):Int)+1< (x.length:Nat) then ((h:Nat):Int)+1 else ((x.length:Nat):Int)) >0 then (if ((h:Nat):Int)+1< (x.length:Nat) then ((h:Nat):Int)+1 else ((x.length:Nat):Int)) else 0)) H2
    rw[show(if (if ((h:Nat):Int)+1< (x.length:Nat) then ((h:Nat):Int)+1 else ((x.length:Nat):Int)) >0 then (if ((h:Nat):Int)+1< (x.length:Nat) then ((h:Nat):Int)+1 else ((x.length:Nat):Int)) else 0)=((min x.cps.toList.length (h+1):Nat):Int) by split<;>split at* <;>omega]
    exact q'
  refine bF (qc (bA (ag rfl (ag rfl (wx ⟨_,rfl, ?_⟩)))))
  by_cases z:a=h
  ·exact iF (iF (bR (plain fun y=>y.2 z)) rfl) (by simp[z])
  ·refine iT (dg (DY rfl ?_)) (by simp;omega)
   cases b with
   | true=>exact iF (bR (plain fun y=>by cases y.1)) rfl
   | false=>
    refine iT ?_ rfl
    have el:led x.cps.toList a h g w false=if w= .left then min a h else max a h:=by unfold led;rw[if_neg UR,if_pos ⟨e,rfl,z⟩]
    rw[el] at q
    refine bD (tX .right rfl rfl (a:= .int (min a h:Nat)) (b:= .int (max a h:Nat)) (fun Q1 q1=>eA (ao (ag rfl (ao (ag rfl (aH ?_)))))) (fun Q1 q1=>eA (ao (ag rfl (ao (ag rfl (aH ?_)))))) fun H2 s2=> ?_)
    ·show Q1 (.int (if (h:Int) < (a:Int) then (h:Int) else (a:Int))) H1
     rw[show(if (h:Int) < (a:Int) then (h:Int) else (a:Int))=((min a h:Nat):Int) by split<;>omega]
     exact q1
    ·show Q1 (.int (if (h:Int) > (a:Int) then (h:Int) else (a:Int))) H1
     rw[show(if (h:Int) > (a:Int) then (h:Int) else (a:Int))=((max a h:Nat):Int) by split<;>omega]
     exact q1
    ·have q':=q H2 (s1.trans s2)
     rcases e with rfl | rfl
     ·rw[if_pos rfl] at q'
      rw[if_neg (by decide)];exact q'
     ·rw[if_neg (by decide)] at q'
      rw[if_pos rfl];exact q'
 have ud:w= .up∨w= .down:=by cases w<;>first | exact .inl rfl | exact .inr rfl | contradiction
 have el:led x.cps.toList a h g w b=gh x.cps.toList (bJ x.cps.toList h) (g.getD (col x.cps.toList h)) w:=by unfold led;rw[if_pos ud]
 rw[el] at q
 have go: ∀c:Nat,c=g.getD (col x.cps.toList h)→ar (kZ K E) (cp.drop 7) (Dn Q) [some (.str x),some (.ref cu),some (.str w.str),some (.bl b),some (.int a),some (.int h),some (gV g),some (.int (bJ x.cps.toList h:Nat)),some (.int (c:Nat)),none] H1:=by
  rintro c rfl
  have last: ∀(j:Nat) (H2:Hp),aJ H H2→j≤x.cps.toList.count 10→gh x.cps.toList (bJ x.cps.toList h) (g.getD (col x.cps.toList h)) w=inl x.cps.toList j (g.getD (col x.cps.toList h))→ar (kZ K E) (cp.drop 8) (Dn Q) [some (.str x),some (.ref cu),some (.str w.str),some (.bl b),some (.int a),some (.int h),some (gV g),some (.int (bJ x.cps.toList h:Nat)),some (.int (g.getD (col x.cps.toList h):Nat)),some (.int (j:Nat))] H2:=by
   intro j H2 s2 hj e
   rw[e] at q
   refine bF (bA (ag rfl (au (N.ltI ⟨_,rfl,iF (bR ?_) (zqF (by omega))⟩))))
   refine bF (bA (ag rfl (UQ x gx.1 rfl (N.qv ⟨_,rfl,iF (bR ?_) (zqF (by omega))⟩))))
   exact bD (bx qy rfl (ao (ag rfl (ao (ag rfl (ao (ag rfl (aH ⟨x,j,_,rfl,hx,hj,fun H3 s3=>q H3 (s2.trans s3)⟩))))))))
  refine aV (aK (ag rfl (tX .down rfl rfl (a:= .int (-1)) (b:= .int 1) (fun Q1 q1=>qo q1) (fun Q1 q1=>au q1) fun H2 s2=> ?_)))
  have fq:=s1.trans s2
  rcases ud with rfl | rfl
  ·rw[if_neg (by decide)]
   refine bM ?_
   by_cases z:bJ x.cps.toList h=0
   ·have e0:gh x.cps.toList (bJ x.cps.toList h) (g.getD (col x.cps.toList h)) .up=0:=by unfold gh;rw[if_pos rfl,if_pos z]
    rw[e0] at q
    refine bF (bA (ag rfl (au (N.ltI ⟨_,rfl,iT ?_ (zqT (by omega))⟩))))
    exact bD (au (q _ fq))
   ·show ar (kZ K E) (cp.drop 8) (Dn Q) [some (.str x),some (.ref cu),some (.str Wd.up.str),some (.bl b),some (.int a),some (.int h),some (gV g),some (.int (bJ x.cps.toList h:Nat)),some (.int (g.getD (col x.cps.toList h):Nat)),some (.int (((bJ x.cps.toList h:Nat):Int)+ -1))] H2
    rw[show((bJ x.cps.toList h:Nat):Int)+ -1=((bJ x.cps.toList h - 1:Nat):Int) by omega]
    exact last _ H2 fq (by omega) (by unfold gh;rw[if_pos rfl,if_neg z])
  ·rw[if_pos rfl]
   refine bM ?_
   by_cases z:bJ x.cps.toList h=x.cps.toList.count 10
   ·have e0:gh x.cps.toList (bJ x.cps.toList h) (g.getD (col x.cps.toList h)) .down=x.cps.toList.length:=by unfold gh;rw[if_neg (by decide),if_pos z]
    rw[e0,←lx] at q
    refine bF (bA (ag rfl (au (N.ltI ⟨_,rfl,iF (bR ?_) (zqF (by omega))⟩))))
    refine bF (bA (ag rfl (UQ x gx.1 rfl (N.qv ⟨_,rfl,iT ?_ (zqT (by omega))⟩))))
    exact bD (w_ rfl (q _ fq))
   ·show ar (kZ K E) (cp.drop 8) (Dn Q) [some (.str x),some (.ref cu),some (.str Wd.down.str),some (.bl b),some (.int a),some (.int h),some (gV g),some (.int (bJ x.cps.toList h:Nat)),some (.int (g.getD (col x.cps.toList h):Nat)),some (.int (((bJ x.cps.toList h:Nat):Int)+1))] H2
    rw[show((bJ x.cps.toList h:Nat):Int)+1=((bJ x.cps.toList h+1:Nat):Int) by omega]
    exact last _ H2 fq (by omega) (by unfold gh;rw[if_neg (by decide),if_neg z])
 refine bF (bA (ag rfl (au ⟨rfl,_,rfl, ?_⟩)))
 rw[wX]
 cases g with
 | none=>exact iF (bR (go _ rfl)) rfl
 | some n=>exact iT (aV (ag rfl (go n rfl))) rfl
def tY:Sp:=fun vs H Q E=> ∃(x:Str) (cu:Addr) (a h:Nat) (g:Option Nat) (w:Wd) (b:Bool),vs=[.str x, .ref cu, .str w.str, .bl b]∧good x∧x.length≤100000∧dw H cu a h g∧a≤x.length∧h≤x.length∧ ∀t' H',aJ H H'→dw H' t' (if b=true then a else led x.cps.toList a h g w b) (led x.cps.toList a h g w b) (iu x.cps.toList h g w)→Q (.ref t') H'
theorem arh(vs:List V)(H:Hp)(Q:VK)(E:XK)(hh:tY vs H Q E):ar (aQ K [("_law_led",qA),("_law_at_line",jT)] [] (E:=E)) f_ (Dn Q) (start mx vs) H:=by
 obtain⟨x,cu,a,h,g,w,b,rfl,gx,hx,ha,h1,h2,q⟩:=hh
 refine aV (bx qA rfl (ao (ag rfl (ao (ag rfl (ao (ag rfl (ao (ag rfl (aH ⟨x,cu,a,h,g,w,b,rfl,gx,hx,ha,h1,h2,fun H1 s1=> ?_⟩))))))))))
 have dB:=s1 _ _ ha
 refine aV (au ?_)
 have last: ∀H2,aJ H H2→ar (aQ K [("_law_led",qA),("_law_at_line",jT)] [] (E:=E)) (f_.drop 3) (Dn Q) [some (.str x),some (.ref cu),some (.str w.str),some (.bl b),some (.int (led x.cps.toList a h g w b:Nat)),some (gV (iu x.cps.toList h g w))] H2:=by
  intro H2 s2
  have dC:=s2 _ _ ha
  refine bD (fK (ao (ba (gc (ao (ag rfl (ao (ba (ag rfl (au (aF dC rfl (aH ⟨(by show 2≤sizeLine;decide),fun l fl=> ?_⟩))))))))))))
  have s3:=sameNew (o:= .lst [V.int (led x.cps.toList a h g w b:Nat),V.int (a:Nat)]) fl
  refine eA (ao (ag rfl (aH ?_)))
  cases b with
  | true=>
   refine eo aU (i:=1) rfl (ao (ag rfl (ao (ag rfl (aH ⟨(by show 3≤sizeLine;decide),fun t' f'=> ?_⟩)))))
   exact q t' _ ((s2.trans s3).trans (sameNew f')) aU
  | false=>
   refine eo aU (i:=0) rfl (ao (ag rfl (ao (ag rfl (aH ⟨(by show 3≤sizeLine;decide),fun t' f'=> ?_⟩)))))
   exact q t' _ ((s2.trans s3).trans (sameNew f')) aU
 refine tK .up .down rfl rfl rfl (fun e=> ?_) fun n1 n2=> ?_
 ·have eg:iu x.cps.toList h g w=some (g.getD (col x.cps.toList h)):=by unfold iu;rw[if_pos e]
  rw[eg] at last
  refine aV (ba (ag rfl (au (aF dB rfl ?_))))
  refine bF (bA (ag rfl (au ⟨rfl,_,rfl, ?_⟩)))
  rw[wX]
  cases g with
  | none=>
   refine iT ?_ rfl
   refine aV (ba (bx jT rfl (ao (ag rfl (ao (ba (ag rfl (au (aF dB rfl (aH ⟨x,h,rfl,hx,h2,fun u H2 s2 hu=>au (aF hu rfl ?_)⟩))))))))))
   exact last _ (s1.trans s2)
  | some n=>exact iF (last _ s1) rfl
 ·have eg:iu x.cps.toList h g w=none:=by unfold iu;rw[if_neg (by rintro(z | z);exact n1 z;exact n2 z)]
  rw[eg] at last
  exact last _ s1
def gD:Option Nat→PyData
 | none=> .none
 | some n=> .int n
theorem ari(H:Hp)(g:Option Nat):Is H (gD g) (gV g):=by cases g<;>rfl
theorem DZ(a h:Nat)(g:Option Nat):SeqAt.shaped (.tuple [.int a, .int h,gD g])=true:=by cases g<;>rfl
theorem US{H:Hp}{t:Addr}{a h:Nat}{g:Option Nat}(ht:dw H t a h g):Is H (.tuple [.int a, .int h,gD g]) (.ref t):=⟨t,_,rfl,ht, .int a,[.int h,gV g],rfl,rfl, .int h,[gV g],rfl,rfl,gV g,[],rfl,ari H g,rfl⟩
theorem UT{H:Hp}{Q:VK}{t t':Addr}{a h:Nat}{g:Option Nat}(ht:dw H t a h g)(D0:dw H t' a h g)(q:Q (.bl false) H):cn K .NotEq (.ref t) (.ref t') H Q:=by
 refine⟨_,_,US ht,US D0,DZ a h g,DZ a h g, ?_⟩
 rw[SeqAt.eqv_refl _ (SeqAt.canLay_of_shaped (DZ a h g))];exact q
def tZ:Sp:=fun vs H Q E=> ∃(t t':Addr) (a h:Nat) (g:Option Nat),vs=[.ref t, .ref t']∧dw H t a h g∧dw H t' a h g∧ ∀H',aJ H H'→Q (.bl true) H'
theorem arj(vs:List V)(H:Hp)(Q:VK)(E:XK)(hh:tZ vs H Q E):ar (aQ K [("_law_whole",pS)] [] (E:=E)) CU (Dn Q) (start CS vs) H:=by
 obtain⟨t,t',a,h,g,rfl,ht,D0,q⟩:=hh
 refine bF (wu (dg (Dl (ag rfl (wa ht (iF ?_ rfl))))))
 refine wu (bA (eB (ag rfl (.inr ⟨_,bo.of ht,au (wx ⟨_,rfl,iF ?_ (by simp)⟩)⟩))))
 refine S5 (bA (ag rfl (ag rfl (UT ht D0 ⟨_,rfl,iF (bR ?_) rfl⟩))))
 refine bD (gN ?_)
 refine⟨_,rfl,t,rfl,⟨_,bo.of ht⟩, ?_⟩
 refine⟨fun i m ys H2=>i≤3∧m=3 - i∧ys=[]∧H2=H,⟨3,by decide,rfl,rfl,rfl⟩, ?_⟩
 rintro i m ys H2 ⟨hi,rfl,rfl,rfl⟩
 by_cases bC:i<3
 ·refine .inr ⟨⟨_,_,bo.of ht,List.getElem?_eq_getElem (by show i<3;exact bC)⟩, ?_⟩
  rintro y H3 ⟨rfl,hy⟩
  have qZ:=hy _ (bo.of ht)
  have ark: ∀(y:V) (QT:Bool→Hp→Prop),(∃k:Int,y= .int k)∨y= .az→QT false H3→bE (aQ K [("_law_whole",pS)] [] (E:=E)).calm (.and [(.cmp .IsNot (.v 0) (.c .az)),(.not (.call 0 [(.v 0)]))]) [some y] H3 QT:=by
   intro y QT hk qt
   refine qc (bA (ag rfl (au ⟨rfl,_,rfl, ?_⟩)))
   rcases hk with⟨k,rfl⟩ | rfl
   ·refine iT ?_ (by simp)
    exact dg (fm pS rfl (ao (ag rfl (aH ⟨k,rfl,dD qt⟩))))
   ·exact iF qt (by simp)
  refine ark y _ ?_ ?_
  ·have hm:=List.mem_of_getElem? qZ
   simp only[List.mem_cons,List.not_mem_nil,or_false] at hm
   rcases hm with rfl | rfl | rfl
   ·exact .inl ⟨_,rfl⟩
   ·exact .inl ⟨_,rfl⟩
   ·cases g with
    | none=>exact .inr rfl
    | some n=>exact .inl ⟨_,rfl⟩
  ·exact iF ⟨3 - (i+1),by omega,by omega,rfl,rfl,rfl⟩ rfl
 ·refine .inl ⟨⟨_,bo.of ht,by show 3≤i;omega⟩,fun p5 f5=> ?_⟩
  have s5:=sameNew (o:= .lst []) f5
  refine gc (aH ⟨zqZ _,fun l6 f6=> ?_⟩)
  have s6:=sameNew (o:= .lst []) f6
  have sh:SeqAt.shaped (.list [])=true:=rfl
  refine⟨.list [], .list [],⟨p5,[],rfl,s6 _ _ aU,rfl⟩,⟨l6,[],rfl,aU,rfl⟩,sh,sh, ?_⟩
  rw[SeqAt.eqv_refl _ (SeqAt.canLay_of_shaped sh)]
  exact q _ (s5.trans s6)
end
end L2.N
namespace L2.my
open PySem PySem.Spec L2.B L2.N
section
variable {K:Frag}
def t5:Sp:=fun vs H Q E=> ∃c:Int,vs=[.int c]∧ ∀(w:Wd) H',aJ H H'→Q (.str w.str) H'
theorem arl(vs:List V)(H:Hp)(Q:VK)(E:XK)(h:t5 vs H Q E):ar (aQ K [] [] (E:=E)) ko (Dn Q) (start sk vs) H:=by
 obtain⟨c,rfl,q⟩:=h
 refine aV (gc (ao (au (ao (au (ao (au (ao (au (ao (au (ao (au (ao (au ?_)))))))))))))))
 refine ao (au (ao (au (ao (au (ao (au (ao (au (ao (au (ao (au (aH ⟨(by show 14≤sizeLine;decide),fun l fl=> ?_⟩))))))))))))))
 generalize hits:[V.str "left",V.str "right",V.str "up",V.str "down",V.str "home",V.str "end",V.str "top",V.str "bottom",V.str "back",V.str "on",V.str "up",V.str "down",V.str "up",V.str "down"]=its at fl⊢
 have hit:its.length=14:=by rw[←hits];rfl
 have hw: ∀v∈its,∃w:Wd,v= .str w.str:=by
  intro v hv
  rw[←hits] at hv
  simp only[List.mem_cons,List.not_mem_nil,or_false] at hv
  rcases hv with rfl | rfl | rfl | rfl | rfl | rfl | rfl | rfl | rfl | rfl | rfl | rfl | rfl | rfl
  ·exact⟨.left,rfl⟩
  ·exact⟨.right,rfl⟩
  ·exact⟨.up,rfl⟩
  ·exact⟨.down,rfl⟩
  ·exact⟨.oW,rfl⟩
  ·exact⟨.en,rfl⟩
  ·exact⟨.top,rfl⟩
  ·exact⟨.jS,rfl⟩
  ·exact⟨.back,rfl⟩
  ·exact⟨.on,rfl⟩
  ·exact⟨.up,rfl⟩
  ·exact⟨.down,rfl⟩
  ·exact⟨.up,rfl⟩
  ·exact⟨.down,rfl⟩
 have s1:=sameNew (o:= .lst its) fl
 obtain⟨v,hv,fO⟩:=L2.N.pick (its:=its) (j:=c % 14) (Int.emod_nonneg _ (by decide)) (by rw[hit];exact Int.emod_lt_of_pos _ (by decide))
 obtain⟨w,rfl⟩:=hw v hv
 exact bD (ba (ag rfl (aK (ag rfl (au ⟨(by show(0:Int) <14;decide),eo aU fO (q w _ s1)⟩)))))
theorem UU{c:Int}{n:Nat}: ∃m:Nat,c % ((n:Nat)+1:Int)=m∧m≤n:=by
 have a:=Int.emod_nonneg c (show((n:Nat)+1:Int)≠0 by omega)
 have b:=Int.emod_lt_of_pos c (show(0:Int) < (n:Nat)+1 by omega)
 exact⟨(c % ((n:Nat)+1:Int)).toNat,by omega,by omega⟩
def qB:Sp:=fun vs H Q E=> ∃(c:Int) (n:Nat),vs=[.int c, .int n]∧ ∀(t:Addr) (a h:Nat) (g:Option Nat) H',aJ H H'→dw H' t a h g→a≤n→h≤n→Q (.ref t) H'
theorem arn(vs:List V)(H:Hp)(Q:VK)(E:XK)(hh:qB vs H Q E):ar (aQ K [("_law_mixed",e9)] [] (E:=E)) eW (Dn Q) (start kq vs) H:=by
 obtain⟨c,n,rfl,q⟩:=hh
 refine aV (bx e9 rfl (ao (ag rfl (ao (au (aH ⟨_,_,rfl,fun m hm=> ?_⟩))))))
 have n1:(0:Int) < (n:Nat)+1:=by omega
 refine aV (aK (ag rfl (aK (ag rfl (au (bM ⟨n1, ?_⟩))))))
 obtain⟨a,ea,la⟩:=UU (c:=m) (n:=n)
 show ar _ (eW.drop 2) _ [some (.int c),some (.int n),some (.int m),some (.int (m % ((n:Nat)+1:Int))),none] H
 rw[ea]
 refine aV (ag rfl ?_)
 have fin: ∀h:Nat,h≤n→ar (aQ K [("_law_mixed",e9)] [] (E:=E)) (eW.drop 4) (Dn Q) [some (.int c),some (.int n),some (.int m),some (.int a),some (.int h)] H:=by
  intro h lh
  have m9:0≤m / 5 % 9:=Int.emod_nonneg _ (by decide)
  refine bD (fK (ao (ag rfl (ao (ag rfl (ao (ba (gc (ao (au (ao (au (ao (aK (aK (ag rfl (au ⟨⟨by decide,by decide⟩,au ⟨(by show(0:Int) <9;decide),ao (ag rfl (aH ⟨(by show 4≤sizeLine;decide),fun l fl=> ?_⟩))⟩⟩)))))))))))))))))
  have s1:=sameNew (o:= .lst [V.az,V.az,V.int (m / 5 % 9),V.int m]) fl
  obtain⟨v,hv,fO⟩:=L2.N.pick (its:=[V.az,V.az,V.int (m / 5 % 9),V.int m]) (j:=m / 7 % 4) (Int.emod_nonneg _ (by decide)) (Int.emod_lt_of_pos _ (by decide))
  obtain⟨g,rfl⟩: ∃g:Option Nat,v=gV g:=by
   simp only[List.mem_cons,List.not_mem_nil,or_false] at hv
   rcases hv with rfl | rfl | rfl | rfl
   ·exact⟨none,rfl⟩
   ·exact⟨none,rfl⟩
   ·exact⟨some (m / 5 % 9).toNat,by show V.int _=V.int _;rw[show(((m / 5 % 9).toNat:Nat):Int)=m / 5 % 9 by omega]⟩
   ·exact⟨some m.toNat,by show V.int _=V.int _;rw[show((m.toNat:Nat):Int)=m by omega]⟩
  refine aK (aK (ag rfl (au ⟨⟨by decide,by decide⟩,au ⟨(by show(0:Int) <4;decide),eo aU fO (aH ⟨(by show 3≤sizeLine;decide),fun t ft=> ?_⟩)⟩⟩)))
  exact q t a h g _ (s1.trans (sameNew ft)) aU la lh
 refine bF (bA (aK (aK (ag rfl (au ⟨⟨by decide,by decide⟩,au ⟨(by show(0:Int) <2;decide),au (gf ⟨_,rfl,d6 (fun _=> ?_) (fun _=>bR (fin a la))⟩)⟩⟩)))))
 refine aV (aK (aK (ag rfl (au ⟨⟨by decide,by decide⟩,aK (ag rfl (au (bM ⟨n1, ?_⟩)))⟩))))
 obtain⟨h,eh,lh⟩:=UU (c:=m / 802) (n:=n)
 show ar _ [] _ [some (.int c),some (.int n),some (.int m),some (.int a),some (.int (m / 802 % ((n:Nat)+1:Int)))] H
 rw[eh]
 exact bR (fin h lh)
end
theorem aro{l:List Nat}{n:Nat}(h:n≤l.length)(w:Wd):iq l n w≤l.length:=by
 have ok:=i9 (kU l n)
 cases w with
 | left=>show n - 1≤_;omega
 | right=>show min l.length (n+1)≤_;omega
 | up=>exact zqZ _
 | down=>exact zqZ _
 | oW=>show bQ l (bJ l n)≤_;omega
 | en=>show lend l (bJ l n)≤_;omega
 | top=>exact zqZ _
 | jS=>exact zqR _
 | back=>
  have a:=lo_le (p:=OS.cps.contains) (l:=l) (n:=n)
  have b:=lo_le (p:=WS.cps.contains) (l:=l) (n:=lo OS.cps.contains l n)
  show lo WS.cps.contains l (lo OS.cps.contains l n)≤_;omega
 | on=>
  have a:=ro_le (p:=OS.cps.contains) h
  have b:=ro_le (p:=WS.cps.contains) a.2
  exact b.2
theorem arp{l:List Nat}{i g:Nat}{w:Wd}(h:i≤l.count 10):gh l i g w≤l.length:=by
 unfold N.gh
 by_cases c:w= .up
 ·rw[if_pos c]
  by_cases z:i=0
  ·rw[if_pos z];exact zqZ _
  ·rw[if_neg z];exact UB (by omega)
 ·rw[if_neg c]
  by_cases z:i=l.count 10
  ·rw[if_pos z];exact zqR _
  ·rw[if_neg z];exact UB (by omega)
theorem arq{l:List Nat}{a h:Nat}{g:Option Nat}{w:Wd}{b:Bool}(h1:a≤l.length)(h2:h≤l.length):led l a h g w b≤l.length:=by
 unfold led
 by_cases c:w= .up∨w= .down
 ·rw[if_pos c];exact arp (kU _ _)
 ·rw[if_neg c]
  by_cases d:(w= .left∨w= .right)∧b=false∧a≠h
  ·rw[if_pos d]
   by_cases e:w= .left
   ·rw[if_pos e];omega
   ·rw[if_neg e];omega
  ·rw[if_neg d];exact aro h2 w
structure Fr (H:Hp) (s lt lb lf:Addr):Prop where
 f1:H s=none
 f2:H lt=none
 f3:H lb=none
 f4:H lf=none
theorem Fr.but{H0 H H':Hp}{s lt lb lf:Addr}(f:Fr H0 s lt lb lf)(sm:aJ H0 H)(b:eN s lt lb lf H H'):aJ H0 H':=fun c o e=>b c o (sm _ _ e) (cg e f.f1) (cg e f.f2) (cg e f.f3) (cg e f.f4)
section
variable {K:Frag} {CP C:Addr} {E:XK} {Q:VK} {H0 H H':Hp} {p dp s dx lt lb lf:Addr} {v:V} {t:Tr} {ts:List Str} {x:Str}
abbrev GL(K:Frag)(CP C:Addr)(E:XK):aC:=aQ K [("_law_cell_at",pT K),("_law_text_by",jN),("paper_of",s9 CP C),("_law_change_by",tE),("_law_mixed",e9),("_law_done",sy),("_law_begun",qB),("_law_word_by",t5),("stepped",iw CP C),("_law_cursor",tZ),("_law_stepped",tY)] [] [] [("changed",CP,sZ CP C),("text",CP,sW CP C)] (E:=E)
theorem qC{H1:Hp}{σ:St}{Q':VK}{a:Addr}{ns:List Int}(ha:aM K H0 a (ns.map V.int))(i:Int)(s1:aJ H0 H1)(e0:σ[0]?=some (some (.ref a)))(hi:0≤i)(q:Q' (.int (cell ns i.toNat)) H1):aj (GL K CP C E) (.call 0 [(.v 0),(.c (.int i))]) σ H1 Q':=
 bx (pT K) rfl (ao (ag e0 (ao (au (aH ⟨a,ns,i,rfl,s1.seq ha,hi,q⟩)))))
def D1:List RS:=[.asg 5 (.call 3 [(.call 4 [(.call 0 [(.v 0),(.bin .Add (.c (.int 3)) (.v 4))]),(.v 4)]),(.v 2)]), .asg 3 (.bO 0 "changed" (.v 3) [(.v 5)]), .asg 2 (.call 5 [(.v 2),(.v 5)])]
theorem ars{D:Ends}{i:Nat}{a:Addr}{ns:List Int}{u1 u5 u6 u7 u8 u9 t9 t_:Option V}(ha:aM K H0 a (ns.map V.int))(hi:i<3)(F:Fr H0 s lt lb lf)(sm:aJ H0 H)(B:dW CP C H p dp s dx lt lb lf v t ts x)
  (b1:t.av.length≤1+60*i) (b2:ts.length≤1+60*i) (b3:(ax ts).length≤200+1000*i) (b4:x.length≤200+100*i)
  (hN: ∀(x':Str) (p' ij:Addr) (v':V) (t':Tr) (ua:List Str) (y5:Option V) (H':Hp),aJ H0 H'→dW CP C H' p' ij s dx lt lb lf v' t' ua x'→t'.av.length≤1+60* (i+1)→ua.length≤1+60* (i+1)→(ax ua).length≤200+1000* (i+1)→x'.length≤200+100* (i+1)→
   D.nx [some (.ref a),u1,some (.str x'),some (.ref p'),some (.int (i:Nat)),y5,u6,u7,u8,u9,t9,t_] H'):
  ar (GL K CP C E) D1 D [some (.ref a),u1,some (.str x),some (.ref p),some (.int (i:Nat)),u5,u6,u7,u8,u9,t9,t_] H:=by
 refine aV (bx tE rfl (ao (bx e9 rfl (ao (bx (pT K) rfl (ao (ag rfl (ao (aK (au (ag rfl (bM (aH ⟨a,ns,_,rfl,sm.seq ha,by omega, ?_⟩)))))))))))))
 refine ao (ag rfl (aH ⟨_,_,rfl,fun m hm=>ao (ag rfl (aH ⟨m,x,rfl,B.go,by omega,fun b H1 ys qs r s1 fb hb pv ok ch R lr lq=> ?_⟩))⟩))
 have B1:=B.same s1
 have kb:=Kp.of B.st fb
 refine aV (fL CP (sZ CP C) rfl (ag rfl ⟨p,dp,_,rfl,B1.pa.ob,dh (by decide+kernel) (by decide+kernel),ag rfl ⟨p,dp,s,dx,lt,lb,lf,b,v,t,ts,ys,qs,r,rfl,B1.pa,B1.st,by omega,by omega,by omega,B.l4,hb,kb.k1,kb.k2,kb.k3,pv,ok,ch,by rw[B.tx];exact R,fun p' ij v' t' us H3 bu fp S3 P3 e3 l3 lu ls=> ?_⟩⟩))
 have jM:H3 b=some (.lst ys):=aqu B1.st bu kb hb
 have pv3:cm H3 ys qs:=pv.mono (bu.cY B1.st)
 have sok: ∀q∈qs,fk q:=fun q hq=>Ua (ok q hq)
 have lr':(⟨r.toArray⟩:Str).length=r.length:=by simp[Str.length]
 have gr:good ⟨r.toArray⟩:=⟨by rw[lr'];omega,fun d hd=>R.good B.go.2 sok d (by simpa using hd)⟩
 have lts:(ts++us).length=ts.length+us.length:=zqA
 have lsg:(ax (ts++us)).length=(ax ts).length+ (ax us).length:=by rw[ia,zqA]
 have B3:dW CP C H3 p' ij s dx lt lb lf v' t' (ts++us) ⟨r.toArray⟩:=⟨P3,S3,by omega,by omega,by omega,by rw[e3],gr⟩
 refine aV (bx sy rfl (ao (ag rfl (ao (ag rfl (aH ⟨x,b,ys,qs,r,rfl,B.go,jM,pv3,fun q hq=>Sw (ok q hq),R,by omega, ?_⟩))))))
 exact hN ⟨r.toArray⟩ p' ij v' t' (ts++us) _ H3 (F.but (sm.trans s1) bu) B3 (by omega) (by omega) (by omega) (by omega)
def UW:List RS:=[.asg 8 (.call 4 [(.v 7),(.bin .Add (.c (.int 600)) (.v 4))]),
  .ite (.cmp .Eq (.bin .Mod (.v 8) (.c (.int 5))) (.c (.int 1))) [.asg 6 (.call 6 [(.v 8),(.blt .len [(.v 2)])])] [],
  .asg 9 (.call 7 [(.bin .FloorDiv (.v 8) (.c (.int 5)))]),
  .asg 10 (.cmp .Eq (.bin .Mod (.bin .FloorDiv (.v 8) (.c (.int 70))) (.c (.int 3))) (.c (.int 1))),
  .asg 11 (.call 8 [(.v 3),(.v 6),(.v 9),(.v 10)]),
  .ite (.not (.call 9 [(.v 11),(.call 10 [(.v 2),(.v 6),(.v 9),(.v 10)])])) [.ret (.c (.bl false))] [],
  .ite (.cmp .NotEq (.call 8 [(.v 3),(.v 6),(.v 9),(.v 10)]) (.v 11)) [.ret (.c (.bl false))] [],
  .asg 6 (.v 11)]
theorem arw{D:Ends}{k c:Int}{cu:Addr}{a h:Nat}{g:Option Nat}{u0 u1 u5 u8 u9 t9 t_:Option V}(B:dW CP C H p dp s dx lt lb lf v t ts x)(hx:x.length≤10000)(ha:dw H cu a h g)(h1:a≤x.length)(h2:h≤x.length)
  (hN: ∀(y8 y9 qD qE:Option V) (xa:Addr) (a' h':Nat) (g':Option Nat) (H':Hp),aJ H H'→dw H' xa a' h' g'→a'≤x.length→h'≤x.length→D.nx [u0,u1,some (.str x),some (.ref p),some (.int k),u5,some (.ref xa),some (.int c),y8,y9,qD,qE] H'):
  ar (GL K CP C E) UW D [u0,u1,some (.str x),some (.ref p),some (.int k),u5,some (.ref cu),some (.int c),u8,u9,t9,t_] H:=by
 have lx:=len_list x
 refine aV (bx e9 rfl (ao (ag rfl (ao (aK (au (ag rfl (bM (aH ⟨_,_,rfl,fun m hm=> ?_⟩)))))))))
 have go: ∀(cu:Addr) (a h:Nat) (g:Option Nat) (H1:Hp),aJ H H1→dw H1 cu a h g→a≤x.length→h≤x.length→ar (GL K CP C E) (UW.drop 2) D [u0,u1,some (.str x),some (.ref p),some (.int k),u5,some (.ref cu),some (.int c),some (.int m),u9,t9,t_] H1:=by
  intro cu a h g H1 s1 ha h1 h2
  refine aV (bx t5 rfl (ao (aK (ag rfl (au ⟨⟨by decide,by decide⟩,aH ⟨_,rfl,fun w H2 s2=> ?_⟩⟩)))))
  refine aV (gN (aK (aK (ag rfl (au ⟨⟨by decide,by decide⟩,au ⟨(by show(0:Int) <3;decide),au (gf ?_)⟩⟩)))))
  generalize decide (m / 70 % 3=1)=b
  have B2:=B.same (s1.trans s2)
  have dC:=s2 _ _ ha
  refine aV (bx (iw CP C) rfl (ao (ag rfl (ao (ag rfl (ao (ag rfl (ao (ag rfl (aH ⟨p,dp,s,dx,lt,lb,lf,v,t,ts,x,cu,a,h,g,w,b,rfl,B2,dC,h1,h2,by omega,fun t1 H3 s3 UX=> ?_⟩))))))))))
  have ha3:=s3 _ _ dC
  refine bF (dg (fm tZ rfl (ao (ag rfl (ao (bx tY rfl (ao (ag rfl (ao (ag rfl (ao (ag rfl (ao (ag rfl (aH ⟨x,cu,a,h,g,w,b,rfl,B.go,by omega,ha3,h1,h2,fun t2 H4 s4 uP=> ?_⟩)))))))))))))))
  refine aH ⟨t1,t2,_,_,_,rfl,s4 _ _ UX,uP,fun H5 s5=>dD (iF (bR ?_) rfl)⟩
  have D2:=(s3.trans s4).trans s5
  have UY:=(s4.trans s5) _ _ UX
  refine bF (bA (bx (iw CP C) rfl (ao (ag rfl (ao (ag rfl (ao (ag rfl (ao (ag rfl (aH ⟨p,dp,s,dx,lt,lb,lf,v,t,ts,x,cu,a,h,g,w,b,rfl,B2.same D2,D2 _ _ dC,h1,h2,by omega,fun t6 H6 s6 xb=> ?_⟩)))))))))))
  refine ag rfl (UT xb (s6 _ _ UY) ⟨_,rfl,iF (bR ?_) rfl⟩)
  have le:=arq (l:=x.cps.toList) (a:=a) (h:=h) (g:=g) (w:=w) (b:=b) (by omega) (by omega)
  refine aV (ag rfl ?_)
  refine hN _ _ _ _ t1 _ _ _ H6 ((s1.trans s2).trans (D2.trans s6)) (s6 _ _ UY) ?_ (by omega)
  cases b with
  | true=>exact h1
  | false=>show led _ _ _ _ _ _≤_;omega
 refine bF (bA (aK (ag rfl (au ⟨(by show(0:Int) <5;decide),au (gf ⟨_,rfl,d6 (fun _=> ?_) (fun _=>bR (go cu a h g H (aJ.refl _) ha h1 h2))⟩)⟩))))
 refine aV (bx qB rfl (ao (ag rfl (ao (eB (ag rfl ⟨bW (by omega),aH ⟨_,_,rfl,fun t1 a1 h1 g1 H1 s1 hc la lh=> ?_⟩⟩))))))
 exact bR (go t1 a1 h1 g1 H1 s1 hc la lh)
def xf(K:Frag):Sp:=fun vs H Q E=> ∃(a:Addr) (ns:List Int),vs=[.ref a]∧aM K H a (ns.map V.int)∧ ∀H',Q (.bl true) H'
theorem ary{a:Addr}{ns:List Int}{u1 u4 u5:Option V}(ha:aM K H0 a (ns.map V.int))(sm:aJ H0 H)(B:dW CP C H p dp s dx lt lb lf v t ts x)(hx:x.length≤10000)(k: ∀H',Q (.bl true) H'):
  ar (GL K CP C E) (du.drop 5) (Dn Q) [some (.ref a),u1,some (.str x),some (.ref p),u4,u5,none,none,none,none,none,none] H:=by
 refine aV (bx qB rfl (ao (qC ha 5 sm rfl (by decide) (ao (eB (ag rfl ⟨bW (by omega),aH ⟨_,_,rfl,fun cu a1 h1 g1 H1 s1 hc la lh=> ?_⟩⟩))))))
 have B1:=B.same s1
 refine⟨_,rfl,_,rfl,_,rfl, .inl ⟨_,(sm.trans s1).seq ha,fun w fw=> ?_⟩⟩
 have s4:=sameNew (o:= .lst (eK (ns.map V.int) (some 6) (some 18))) fw
 have xg:upd H1 w (.lst (eK (ns.map V.int) (some 6) (some 18))) w=some (.lst (eK (ns.map V.int) (some 6) (some 18))):=aU
 have ec:=aqv (ns.map V.int) 6 18
 generalize upd H1 w (.lst (eK (ns.map V.int) (some 6) (some 18)))=H4 at s4 xg⊢
 rw[show((6:Nat):Int)=6 from rfl,show((18:Nat):Int)=18 from rfl] at ec
 rw[ec] at xg
 have B4:=B1.same s4
 refine⟨w,rfl,⟨_,aM.of xg⟩,abu (K:=K) (a:=w) (xs:=((ns.map V.int).drop 6).take (18 - 6)) (fun i σ H5=> ∃(cu:Addr) (a1 h1:Nat) (g1:Option Nat) (y4 y7 y8 y9 qD qE:Option V),σ=[some (.ref a),u1,some (.str x),some (.ref p),y4,u5,some (.ref cu),y7,y8,y9,qD,qE]∧aJ H4 H5∧dw H5 cu a1 h1 g1∧a1≤x.length∧h1≤x.length) ?_ ?_ ?_ ?_⟩
 ·exact⟨cu,a1,h1,g1,u4,none,none,none,none,none,rfl,aJ.refl _,s4 _ _ hc,la,lh⟩
 ·rintro i σ H5 ⟨cu,a1,h1,g1,y4,y7,y8,y9,qD,qE,rfl,s5,_⟩
  exact aM.of (s5 _ _ xg)
 ·rintro i y σ H5 T5 hi ⟨cu,a1,h1,g1,y4,y7,y8,y9,qD,qE,rfl,s5,hc,la,lh⟩ hT
  obtain⟨c,rfl⟩: ∃c:Int,y= .int c:=by
   have hm:=List.mem_of_mem_drop (List.mem_of_mem_take (List.mem_of_getElem? hi))
   obtain⟨c,_,e⟩:=List.mem_map.mp hm
   exact⟨c,e.symm⟩
  have s6:=sameNew (o:= .tup [V.int (i:Nat),V.int c]) hT
  refine Ut aU ?_
  have B6:=B4.same (s5.trans s6)
  have xb:=s6 _ _ hc
  have UZ:=s5.trans s6
  generalize upd H5 T5 (.tup [V.int (i:Nat),V.int c])=H6 at s6 B6 xb UZ⊢
  exact arw B6 hx xb la lh fun z8 z9 z10 z11 xa a' h' g' H7 s7 cq la' lh'=> ⟨xa,a',h',g',_,_,z8,z9,z10,z11,rfl,UZ.trans s7,cq,la',lh'⟩
 ·rintro σ H5 ⟨cu,a1,h1,g1,y4,y7,y8,y9,qD,qE,rfl,s5,hc,la,lh⟩
  have B5:=B4.same s5
  refine bD (gN (gd CP (sW CP C) rfl (ag rfl ⟨p,dp,_,rfl,B5.pa.ob,dh (by decide+kernel) (by decide+kernel),p,dp,s,dx,lt,lb,lf,v,t,ts,rfl,B5.pa,B5.st,B5.l1,B5.l2,B5.l3,B5.l4,fun H7 s7=> ?_⟩)))
  rw[B5.eq]
  refine ag rfl (dR ?_)
  rw[show(x==x)=true by simp]
  exact k _
theorem arD(vs:List V)(H:Hp)(Q:VK)(E:XK)(h:xf K vs H Q E):ar (GL K CP C E) du (Dn Q) (start hZ vs) H:=by
 obtain⟨a,ns,rfl,ha,k⟩:=h
 have U0: ∀z:Int,0≤z→z≤199→ar (GL K CP C E) (du.drop 2) (Dn Q) [some (.ref a),some (.int z),none,none,none,none,none,none,none,none,none,none] H:=by
  intro z z0 z1
  refine aV (bx jN rfl (ao (qC ha 1 (aJ.refl _) rfl (by decide) (ao (ag rfl (aH ⟨_,_,rfl,z0,by omega,fun x H1 gx lx s1=> ?_⟩))))))
  have UJ:x.length≤200:=by omega
  refine aV (bx (s9 CP C) rfl (ao (ag rfl (aH ⟨x,rfl,gx,fun p dp s dx lt lb lf v t ts H2 s2 S2 P2 e2 l1 l2 l3 f1 f2 f3 f4 f5=> ?_⟩))))
  have B2:dW CP C H2 p dp s dx lt lb lf v t ts x:=⟨P2,S2,by omega,by omega,by omega,e2,gx⟩
  have F:Fr H s lt lb lf:=⟨s1.free f2,s1.free f3,s1.free f4,s1.free f5⟩
  have fq:=s1.trans s2
  have m3:0≤cell ns 2 % 3∧cell ns 2 % 3<3:=⟨Int.emod_nonneg _ (by decide),Int.emod_lt_of_pos _ (by decide)⟩
  refine Ue (body:=D1) (aK (qC ha 2 fq rfl (by decide) (au ⟨(by show(0:Int) <3;decide), ?_⟩)))
  refine⟨cell ns 2 % 3,rfl,by omega,by omega,yB (lo:=0) (n:=(cell ns 2 % 3).toNat) (fun i σ H4=>i≤ (cell ns 2 % 3).toNat∧ ∃(x:Str) (p dp:Addr) (v:V) (t:Tr) (ts:List Str) (u4 u5:Option V),σ=[some (.ref a),some (.int z),some (.str x),some (.ref p),u4,u5,none,none,none,none,none,none]∧aJ H H4∧dW CP C H4 p dp s dx lt lb lf v t ts x∧
   t.av.length≤1+60*i∧ts.length≤1+60*i∧(ax ts).length≤200+1000*i∧x.length≤200+100*i) ⟨zqZ _,x,p,dp,v,t,ts,none,none,rfl,fq,B2,by omega,by omega,by omega,by omega⟩ ?_ ?_⟩
  ·rintro i σ H4 hi ⟨_,x,p,dp,v,t,ts,u4,u5,rfl,sm,B4,c1,c2,c3,c4⟩
   show ar (GL K CP C E) D1 _ [some (.ref a),some (.int z),some (.str x),some (.ref p),some (.int (0+ (i:Int))),u5,none,none,none,none,none,none] H4
   rw[Int.zero_add]
   exact ars ha (by omega) F sm B4 c1 c2 c3 c4 fun x' p' ij v' t' ua y5 H' sm' B' d1 d2 d3 d4=> ⟨hi,x',p',ij,v',t',ua,_,y5,rfl,sm',B',d1,d2,d3,d4⟩
  ·rintro σ H4 ⟨_,x,p,dp,v,t,ts,u4,u5,rfl,sm,B4,c1,c2,c3,c4⟩
   exact ary ha sm B4 (by omega) k
 have m25:0≤cell ns 0 % 25∧cell ns 0 % 25<25:=⟨Int.emod_nonneg _ (by decide),Int.emod_lt_of_pos _ (by decide)⟩
 have aEO:0≤cell ns 0 / 200 % 140∧cell ns 0 / 200 % 140<140:=⟨Int.emod_nonneg _ (by decide),Int.emod_lt_of_pos _ (by decide)⟩
 refine aV (aK (qC ha 0 (aJ.refl _) rfl (by decide) (au ⟨(by show(0:Int) <25;decide), ?_⟩)))
 refine bF (bA (aK (aK (qC ha 0 (aJ.refl _) rfl (by decide) (au ⟨⟨by decide,by decide⟩,au ⟨(by show(0:Int) <8;decide),au (gf ⟨_,rfl, ?_⟩)⟩⟩)))))
 by_cases q:cell ns 0 / 25 % 8=1
 ·refine iT ?_ (zqT q)
  refine aV (aK (au (aK (aK (qC ha 0 (aJ.refl _) rfl (by decide) (au ⟨⟨by decide,by decide⟩,au ⟨(by show(0:Int) <140;decide),bM ?_⟩⟩))))))
  exact U0 (60+cell ns 0 / 200 % 140) (by omega) (by omega)
 ·exact iF (bR (U0 (cell ns 0 % 25) m25.1 (by omega))) (zqF q)
end
end L2.my
namespace L2.my
open PySem PySem.Spec PyProof.Rows L2.B
theorem cN{K:Frag}{x qual:Str}{st:Stmt}{f:Addr}{fd:FuncData}{ps:List Str}(F:jl K x qual st f fd)(hp:ps.length=1)(h: ∀(kV doc pm:Value) (an:Option Addr) (bX ct:Value) (a0:Value),bindArgs (fnOf x qual (bc st) (ay st) (aq st) .none kV doc pm an bX ct) ⟨[a0],[]⟩=pure (ps.zip [a0])):Binds K fd ps []:=
 F.binds fun kV doc pm an bX ct us hl=>by
  have e:=hl.trans hp
  rcases us with _ | ⟨a0,_ | ⟨_,_⟩⟩ <;>first | exact h kV doc pm an bX ct _ | exact absurd e (by simp)
theorem c_{K:Frag}{x qual:Str}{st:Stmt}{f:Addr}{fd:FuncData}{ps:List Str}(F:jl K x qual st f fd)(hp:ps.length=2)(h: ∀(kV doc pm:Value) (an:Option Addr) (bX ct:Value) (a0 a1:Value),bindArgs (fnOf x qual (bc st) (ay st) (aq st) .none kV doc pm an bX ct) ⟨[a0,a1],[]⟩=pure (ps.zip [a0,a1])):Binds K fd ps []:=
 F.binds fun kV doc pm an bX ct us hl=>by
  have e:=hl.trans hp
  rcases us with _ | ⟨a0,_ | ⟨a1,_ | ⟨_,_⟩⟩⟩ <;>first | exact h kV doc pm an bX ct _ _ | exact absurd e (by simp)
theorem dF{K:Frag}{x qual:Str}{st:Stmt}{f:Addr}{fd:FuncData}{ps:List Str}(F:jl K x qual st f fd)(hp:ps.length=3)(h: ∀(kV doc pm:Value) (an:Option Addr) (bX ct:Value) (a0 a1 a2:Value),bindArgs (fnOf x qual (bc st) (ay st) (aq st) .none kV doc pm an bX ct) ⟨[a0,a1,a2],[]⟩=pure (ps.zip [a0,a1,a2])):Binds K fd ps []:=
 F.binds fun kV doc pm an bX ct us hl=>by
  have e:=hl.trans hp
  rcases us with _ | ⟨a0,_ | ⟨a1,_ | ⟨a2,_ | ⟨_,_⟩⟩⟩⟩ <;>first | exact h kV doc pm an bX ct _ _ _ | exact absurd e (by simp)
theorem qF{K:Frag}{x qual:Str}{st:Stmt}{f:Addr}{fd:FuncData}{ps:List Str}(F:jl K x qual st f fd)(hp:ps.length=4)(h: ∀(kV doc pm:Value) (an:Option Addr) (bX ct:Value) (a0 a1 a2 a3:Value),bindArgs (fnOf x qual (bc st) (ay st) (aq st) .none kV doc pm an bX ct) ⟨[a0,a1,a2,a3],[]⟩=pure (ps.zip [a0,a1,a2,a3])):Binds K fd ps []:=
 F.binds fun kV doc pm an bX ct us hl=>by
  have e:=hl.trans hp
  rcases us with _ | ⟨a0,_ | ⟨a1,_ | ⟨a2,_ | ⟨a3,_ | ⟨_,_⟩⟩⟩⟩⟩ <;>first | exact h kV doc pm an bX ct _ _ _ _ | exact absurd e (by simp)
theorem all_mk{l:PySem.W.OpenLaw}{w:World}{K:Frag}{h:Heap}{mg:Str→Option Value}{fa f0 f1 f2 f3 f4 f5 f6 f7 f8 f9 D3 D4 D5 D6 D7 D8 D9 D_ Ea Eb Ec Ed Ee Ef Eg Eh Ei Ej Ek El Em En Eo Ep Er Es Et Eu Ew Ex Ey Ez EA EB xh xi xj xk xl EC ED EE EF xn xo xp xq xr xu xv xx xy xB EG EH EI EJ EK EL EM EN EO ER ES ET EU EV EW EX:Addr}{aX:Addr}{aS:Addr}{i_:Addr}{ub:Addr}{uc:Addr}{iy:Addr}{ue:Addr}{uf:Addr}(X:K.In h)(G:h.Ns mainGlobals mg)(hfa:mg "law"=some (.ref fa))
  {od0 an0:Option Addr} {sl0:Array (Option Value)} {oc0 kV0 dc0 pm0 U1 ct0:Value}
  {od1 an1:Option Addr} {sl1:Array (Option Value)} {oc1 kV1 dc1 pm1 U2 ct1:Value}
  {od2 an2:Option Addr} {qR:Array (Option Value)} {oc2 kV2 dc2 pm2 U3 ct2:Value}
  {od3 an3:Option Addr} {rJ:Array (Option Value)} {oc3 kV3 dc3 pm3 U4 ct3:Value}
  {od4 an4:Option Addr} {sl4:Array (Option Value)} {oc4 kV4 dc4 pm4 U5 ct4:Value}
  {od5 an5:Option Addr} {sl5:Array (Option Value)} {oc5 kV5 dc5 pm5 U6 ct5:Value}
  {od6 an6:Option Addr} {sl6:Array (Option Value)} {oc6 kV6 dc6 pm6 U7 ct6:Value}
  {od7 an7:Option Addr} {sl7:Array (Option Value)} {oc7 kV7 dc7 pm7 U8 ct7:Value}
  {od8 an8:Option Addr} {sl8:Array (Option Value)} {oc8 kV8 dc8 pm8 U9 ct8:Value}
  {od9 an9:Option Addr} {sl9:Array (Option Value)} {oc9 kV9 dc9 pm9 U_ ct9:Value}
  {as0 as2:Option Addr} {as3:Array (Option Value)} {as4 as5 as6 as7 Va as8:Value}
  {as9 as_:Option Addr} {ata:Array (Option Value)} {atb atc atd ate Vb atf:Value}
  {atg ath:Option Addr} {ati:Array (Option Value)} {atj atk atl atm Vc atn:Value}
  {ato atp:Option Addr} {atq:Array (Option Value)} {atr ats att atu Vd atv:Value}
  {atw atx:Option Addr} {aty:Array (Option Value)} {atz atA atB atD Ve atE:Value}
  {atF atG:Option Addr} {atH:Array (Option Value)} {atJ atL atM atN Vf atO:Value}
  {atP atQ:Option Addr} {atR:Array (Option Value)} {atU atV atW atX Vg atY:Value}
  {atZ at0:Option Addr} {at1:Array (Option Value)} {at3 at4 at5 at6 Vh at7:Value}
  {at8 at9:Option Addr} {aua:Array (Option Value)} {aub auc aud aue Vi auf:Value}
  {auh aui:Option Addr} {auj:Array (Option Value)} {auk aul aum aun Vj auo:Value}
  {aup auq:Option Addr} {aur:Array (Option Value)} {aus aut auu auv Vk auw:Value}
  {auy auz:Option Addr} {auA:Array (Option Value)} {auB auC auD auE Vl auF:Value}
  {auG auH:Option Addr} {auI:Array (Option Value)} {auJ auK auL auM Vm auN:Value}
  {auO auP:Option Addr} {auQ:Array (Option Value)} {auR auS auT auU Vn auV:Value}
  {auW auX:Option Addr} {auY:Array (Option Value)} {auZ au0 au1 au2 Vo au3:Value}
  {au4 au5:Option Addr} {au6:Array (Option Value)} {au7 au8 au9 au_ Vp ava:Value}
  {avb avc:Option Addr} {avd:Array (Option Value)} {ave avf avg avh Vq avi:Value}
  {avj avk:Option Addr} {avl:Array (Option Value)} {avm avn avo avp Vr avq:Value}
  {avr avs:Option Addr} {avt:Array (Option Value)} {avu avv avw avx Vs avy:Value}
  {avz avA:Option Addr} {avB:Array (Option Value)} {avC avD avE avF Vt avG:Value}
  {avH avI:Option Addr} {avJ:Array (Option Value)} {avK avL avM avN Vu avO:Value}
  {avP avQ:Option Addr} {avR:Array (Option Value)} {avS avT avU avV Vv avW:Value}
  {avX avY:Option Addr} {avZ:Array (Option Value)} {av0 av1 av2 av3 Vw av4:Value}
  {av5 av6:Option Addr} {av7:Array (Option Value)} {av8 av9 av_ awa Vx awb:Value}
  {awc awd:Option Addr} {awe:Array (Option Value)} {awf awg awh awi Vy awj:Value}
  {awk awl:Option Addr} {awm:Array (Option Value)} {awn awo awp awq Vz awr:Value}
  {aws awt:Option Addr} {awu:Array (Option Value)} {awv aww awx awy VA awz:Value}
  {awA awB:Option Addr} {awC:Array (Option Value)} {awD awE awF awG VB awH:Value}
  {awI awJ:Option Addr} {awK:Array (Option Value)} {awL awM awN awO VC awP:Value}
  {awQ awR:Option Addr} {awS:Array (Option Value)} {awT awU awV awW VD awX:Value}
  {awY awZ:Option Addr} {aw0:Array (Option Value)} {aw1 aw2 aw3 aw4 VE aw5:Value}
  {aw6 aw7:Option Addr} {aw8:Array (Option Value)} {aw9 aw_ axa axb VF axc:Value}
  {axd axe:Option Addr} {axf:Array (Option Value)} {axg axh axi axj VG axk:Value}
  {axl axm:Option Addr} {axn:Array (Option Value)} {axo axp axq axr VH axs:Value}
  {axt axu:Option Addr} {axv:Array (Option Value)} {axw axx axy axz VI axA:Value}
  {axB axC:Option Addr} {axD:Array (Option Value)} {axE axF axG axH VJ axI:Value}
  {axJ axK:Option Addr} {axL:Array (Option Value)} {axM axN axO axP VL axQ:Value}
  {axR axS:Option Addr} {axT:Array (Option Value)} {axU axV axW axX VM axY:Value}
  {axZ ax0:Option Addr} {ax1:Array (Option Value)} {ax2 ax3 ax4 ax5 VN ax6:Value}
  {ax7 ax8:Option Addr} {ax9:Array (Option Value)} {ax_ aya ayb ayc VO ayd:Value}
  {aye ayf:Option Addr} {ayg:Array (Option Value)} {ayh ayi ayj ayk VP ayl:Value}
  {aym ayn:Option Addr} {ayo:Array (Option Value)} {ayp ayq ayr ays VQ ayt:Value}
  {ayu ayv:Option Addr} {ayw:Array (Option Value)} {ayx ayy ayz ayA VR ayB:Value}
  {ayC ayD:Option Addr} {ayE:Array (Option Value)} {ayF ayG ayH ayI VS ayJ:Value}
  {ayK ayL:Option Addr} {ayM:Array (Option Value)} {ayN ayO ayP ayQ VT ayR:Value}
  {ayS ayT:Option Addr} {ayU:Array (Option Value)} {ayV ayW ayX ayY VU ayZ:Value}
  {ay0 ay1:Option Addr} {ay2:Array (Option Value)} {ay3 ay4 ay5 ay6 VV ay7:Value}
  {ay8 ay9:Option Addr} {ay_:Array (Option Value)} {aza azb azc azd VW aze:Value}
  {azf azg:Option Addr} {azh:Array (Option Value)} {azi azj azk azl VX azm:Value}
  {azn azo:Option Addr} {azp:Array (Option Value)} {azq azr azs azt VY azu:Value}
  {azv azw:Option Addr} {azx:Array (Option Value)} {azy azz azA azB VZ azC:Value}
  {azD azE:Option Addr} {azF:Array (Option Value)} {azG azH azI azJ V0 azK:Value}
  {azL azM:Option Addr} {azN:Array (Option Value)} {azO azP azQ azR V1 azS:Value}
  {azT azU:Option Addr} {azV:Array (Option Value)} {azW azX azY azZ V2 az0:Value}
  {az1 az2:Option Addr} {az3:Array (Option Value)} {az4 az5 az6 az7 V3 az8:Value}
  {az9 az_:Option Addr} {aAa:Array (Option Value)} {aAb aAc aAd aAe V4 aAf:Value}
  {aAg aAh:Option Addr} {aAi:Array (Option Value)} {aAj aAk aAl aAm V5 aAn:Value}
  {aAo aAp:Option Addr} {aAq:Array (Option Value)} {aAr aAs aAt aAu V6 aAv:Value}
  {aAw aAx:Option Addr} {aAy:Array (Option Value)} {aAz aAA aAB aAC V7 aAD:Value}
  {aAE aAF:Option Addr} {aAG:Array (Option Value)} {aAH aAI aAJ aAK V8 aAL:Value}
  {aAM aAN:Option Addr} {aAO:Array (Option Value)} {aAP aAQ aAR aAS V9 aAT:Value}
  {aAU aAV:Option Addr} {aAW:Array (Option Value)} {aAX aAY aAZ aA0 V_ aA1:Value}
  {aA2 aA3:Option Addr} {aA4:Array (Option Value)} {aA5 aA6 aA7 aA8 Wa aA9:Value}
  {aA_ aBa:Option Addr} {aBb:Array (Option Value)} {aBc aBd aBe aBf Wb aBg:Value}
  {aBh aBi:Option Addr} {aBj:Array (Option Value)} {aBk aBl aBm aBn Wc aBo:Value}
  {aBp aBq:Option Addr} {aBr:Array (Option Value)} {aBs aBt aBu aBv We aBw:Value}
  {aBx aBy:Option Addr} {aBz:Array (Option Value)} {aBA aBB aBC aBD Wf aBE:Value}
  {aBF aBG:Option Addr} {aBH:Array (Option Value)} {aBI aBJ aBK aBL Wg aBM:Value}
  {aBN Wh:Option Addr} {aBO:Array (Option Value)} {aBP Wi Wj Wk EY Wl:Value}
  {aBQ:Tok}
  {aBR:Tok}
  {aBS:Tok}
  {aBT:Tok}
  {aBU:Tok}
  {ug:Addr} {aBV:Nat} {aBW aBX aBY aBZ aB0 aB1 aB2 aB3 aB4 aB5:Tok}
  (EZ:nsIn K mainGlobals "Stock"=some (some (.ref aX)))
  (E1:plainGet K aX Str.empty=true)
  (E2:hasDictIn K aX=true)
  (E3:plainOver K aX=true)
  (E4:findIn K (.ref aX) "__setattr__"=some (some (.builtin "object.__setattr__")))
  (E5:makesIn K aX=true)
  (E6:keepIn K (.ref aX)=true)
  (E7:findIn K (.ref aX) "texts"=some none)
  (E8:findIn K (.ref aX) "begins"=some none)
  (E9:findIn K (.ref aX) "feeds"=some none)
  (E_:findIn K (.ref aX) "signs"=some none)
  (Fb:nsIn K mainGlobals "Paper"=some (some (.ref aS)))
  (Fc:plainGet K aS Str.empty=true)
  (Fd:hasDictIn K aS=true)
  (Fe:plainOver K aS=true)
  (Ff:findIn K (.ref aS) "__setattr__"=some (some (.builtin "object.__setattr__")))
  (Fg:makesIn K aS=true)
  (Fh:keepIn K (.ref aS)=true)
  (Fi:findIn K (.ref aS) "stock"=some none)
  (Fj:findIn K (.ref aS) "node"=some none)
  (xC:nsIn K mainGlobals "BadText"=some (some (.ref i_)))
  (xD:nsIn K mainGlobals "BadChange"=some (some (.ref ub)))
  (xE:nsIn K mainGlobals "BadFit"=some (some (.ref uc)))
  (xF:nsIn K mainGlobals "NoPlace"=some (some (.ref iy)))
  (xG:nsIn K mainGlobals "NoCursor"=some (some (.ref ue)))
  (xH:nsIn K mainGlobals "BadDeed"=some (some (.ref uf)))
  (Fl:PySem.W.excIn K i_ [.type "ValueError", .type "Exception", .type "BaseException", .type "object"] "ValueError.__new__"=true)
  (Fm:PySem.W.excIn K ub [.type "ValueError", .type "Exception", .type "BaseException", .type "object"] "ValueError.__new__"=true)
  (Fn:PySem.W.excIn K uc [.type "ValueError", .type "Exception", .type "BaseException", .type "object"] "ValueError.__new__"=true)
  (Fo:PySem.W.excIn K iy [.type "ValueError", .type "Exception", .type "BaseException", .type "object"] "ValueError.__new__"=true)
  (Fp:PySem.W.excIn K ue [.type "ValueError", .type "Exception", .type "BaseException", .type "object"] "ValueError.__new__"=true)
  (Fq:PySem.W.excIn K uf [.type "ValueError", .type "Exception", .type "BaseException", .type "object"] "ValueError.__new__"=true)
  (a0:nsIn K mainGlobals "is_whole"=some (some (.ref f0)))
  (l0:K.lookup f0=some ⟨oc0,od0, .func (fnOf "is_whole" "is_whole" (bc mz) (ay mz) (aq mz) .none kV0 dc0 pm0 an0 U1 ct0),sl0⟩)
  (c0:codeIn K U1 "is_whole"=true)
  (k0:keepIn K (.ref f0)=true)
  (a1:nsIn K mainGlobals "is_between"=some (some (.ref f1)))
  (l1:K.lookup f1=some ⟨oc1,od1, .func (fnOf "is_between" "is_between" (bc mB) (ay mB) (aq mB) .none kV1 dc1 pm1 an1 U2 ct1),sl1⟩)
  (c1:codeIn K U2 "is_between"=true)
  (k1:keepIn K (.ref f1)=true)
  (a2:nsIn K mainGlobals "is_truth"=some (some (.ref f2)))
  (l2:K.lookup f2=some ⟨oc2,od2, .func (fnOf "is_truth" "is_truth" (bc mD) (ay mD) (aq mD) .none kV2 dc2 pm2 an2 U3 ct2),qR⟩)
  (c2:codeIn K U3 "is_truth"=true)
  (k2:keepIn K (.ref f2)=true)
  (a3:nsIn K mainGlobals "is_word"=some (some (.ref f3)))
  (l3:K.lookup f3=some ⟨oc3,od3, .func (fnOf "is_word" "is_word" (bc mE) (ay mE) (aq mE) .none kV3 dc3 pm3 an3 U4 ct3),rJ⟩)
  (c3:codeIn K U4 "is_word"=true)
  (k3:keepIn K (.ref f3)=true)
  (a4:nsIn K mainGlobals "is_text"=some (some (.ref f4)))
  (l4:K.lookup f4=some ⟨oc4,od4, .func (fnOf "is_text" "is_text" (bc mF) (ay mF) (aq mF) .none kV4 dc4 pm4 an4 U5 ct4),sl4⟩)
  (c4:codeIn K U5 "is_text"=true)
  (k4:keepIn K (.ref f4)=true)
  (a5:nsIn K mainGlobals "need_text"=some (some (.ref f5)))
  (l5:K.lookup f5=some ⟨oc5,od5, .func (fnOf "need_text" "need_text" (bc mG) (ay mG) (aq mG) .none kV5 dc5 pm5 an5 U6 ct5),sl5⟩)
  (c5:codeIn K U6 "need_text"=true)
  (k5:keepIn K (.ref f5)=true)
  (a6:nsIn K mainGlobals "is_part"=some (some (.ref f6)))
  (l6:K.lookup f6=some ⟨oc6,od6, .func (fnOf "is_part" "is_part" (bc mH) (ay mH) (aq mH) .none kV6 dc6 pm6 an6 U7 ct6),sl6⟩)
  (c6:codeIn K U7 "is_part"=true)
  (k6:keepIn K (.ref f6)=true)
  (a7:nsIn K mainGlobals "may_follow"=some (some (.ref f7)))
  (l7:K.lookup f7=some ⟨oc7,od7, .func (fnOf "may_follow" "may_follow" (bc mI) (ay mI) (aq mI) .none kV7 dc7 pm7 an7 U8 ct7),sl7⟩)
  (c7:codeIn K U8 "may_follow"=true)
  (k7:keepIn K (.ref f7)=true)
  (a8:nsIn K mainGlobals "need_change"=some (some (.ref f8)))
  (l8:K.lookup f8=some ⟨oc8,od8, .func (fnOf "need_change" "need_change" (bc mJ) (ay mJ) (aq mJ) .none kV8 dc8 pm8 an8 U9 ct8),sl8⟩)
  (c8:codeIn K U9 "need_change"=true)
  (k8:keepIn K (.ref f8)=true)
  (a9:nsIn K mainGlobals "part_size"=some (some (.ref f9)))
  (l9:K.lookup f9=some ⟨oc9,od9, .func (fnOf "part_size" "part_size" (bc mK) (ay mK) (aq mK) .none kV9 dc9 pm9 an9 U_ ct9),sl9⟩)
  (c9:codeIn K U_ "part_size"=true)
  (k9:keepIn K (.ref f9)=true)
  (Fs:nsIn K mainGlobals "sizes"=some (some (.ref D3)))
  (Ft:K.lookup D3=some ⟨as4,as0, .func (fnOf "sizes" "sizes" (bc mL) (ay mL) (aq mL) .none as5 as6 as7 as2 Va as8),as3⟩)
  (Fu:codeIn K Va "sizes"=true)
  (Fv:keepIn K (.ref D3)=true)
  (Fw:nsIn K mainGlobals "many_upto"=some (some (.ref D4)))
  (Fx:K.lookup D4=some ⟨atb,as9, .func (fnOf "many_upto" "many_upto" (bc mM) (ay mM) (aq mM) .none atc atd ate as_ Vb atf),ata⟩)
  (Fy:codeIn K Vb "many_upto"=true)
  (Fz:keepIn K (.ref D4)=true)
  (FA:nsIn K mainGlobals "begin_of"=some (some (.ref D5)))
  (FC:K.lookup D5=some ⟨atj,atg, .func (fnOf "begin_of" "begin_of" (bc mO) (ay mO) (aq mO) .none atk atl atm ath Vc atn),ati⟩)
  (FD:codeIn K Vc "begin_of"=true)
  (FE:keepIn K (.ref D5)=true)
  (FF:nsIn K mainGlobals "end_of"=some (some (.ref D6)))
  (FG:K.lookup D6=some ⟨atr,ato, .func (fnOf "end_of" "end_of" (bc mP) (ay mP) (aq mP) .none ats att atu atp Vd atv),atq⟩)
  (FH:codeIn K Vd "end_of"=true)
  (FI:keepIn K (.ref D6)=true)
  (FJ:nsIn K mainGlobals "is_empty"=some (some (.ref D7)))
  (FK:K.lookup D7=some ⟨atz,atw, .func (fnOf "is_empty" "is_empty" (bc mQ) (ay mQ) (aq mQ) .none atA atB atD atx Ve atE),aty⟩)
  (FL:codeIn K Ve "is_empty"=true)
  (FN:keepIn K (.ref D7)=true)
  (FO:nsIn K mainGlobals "is_goal"=some (some (.ref D8)))
  (FP:K.lookup D8=some ⟨atJ,atF, .func (fnOf "is_goal" "is_goal" (bc mR) (ay mR) (aq mR) .none atL atM atN atG Vf atO),atH⟩)
  (FQ:codeIn K Vf "is_goal"=true)
  (FR:keepIn K (.ref D8)=true)
  (FT:nsIn K mainGlobals "is_cursor"=some (some (.ref D9)))
  (FU:K.lookup D9=some ⟨atU,atP, .func (fnOf "is_cursor" "is_cursor" (bc mS) (ay mS) (aq mS) .none atV atW atX atQ Vg atY),atR⟩)
  (FV:codeIn K Vg "is_cursor"=true)
  (FW:keepIn K (.ref D9)=true)
  (FX:nsIn K mainGlobals "meet"=some (some (.ref D_)))
  (FY:K.lookup D_=some ⟨at3,atZ, .func (fnOf "meet" "meet" (bc mT) (ay mT) (aq mT) .none at4 at5 at6 at0 Vh at7),at1⟩)
  (FZ:codeIn K Vh "meet"=true)
  (F_:keepIn K (.ref D_)=true)
  (Ga:nsIn K mainGlobals "need_cursors"=some (some (.ref Ea)))
  (Gb:K.lookup Ea=some ⟨aub,at8, .func (fnOf "need_cursors" "need_cursors" (bc mU) (ay mU) (aq mU) .none auc aud aue at9 Vi auf),aua⟩)
  (Gd:codeIn K Vi "need_cursors"=true)
  (Ge:keepIn K (.ref Ea)=true)
  (Gf:nsIn K mainGlobals "need_step"=some (some (.ref Eb)))
  (Gg:K.lookup Eb=some ⟨auk,auh, .func (fnOf "need_step" "need_step" (bc mV) (ay mV) (aq mV) .none aul aum aun aui Vj auo),auj⟩)
  (Gh:codeIn K Vj "need_step"=true)
  (Gi:keepIn K (.ref Eb)=true)
  (Gj:nsIn K mainGlobals "left_over"=some (some (.ref Ec)))
  (Gk:K.lookup Ec=some ⟨aus,aup, .func (fnOf "left_over" "left_over" (bc mW) (ay mW) (aq mW) .none aut auu auv auq Vk auw),aur⟩)
  (Gm:codeIn K Vk "left_over"=true)
  (Gn:keepIn K (.ref Ec)=true)
  (Gp:nsIn K mainGlobals "right_over"=some (some (.ref Ed)))
  (Gq:K.lookup Ed=some ⟨auB,auy, .func (fnOf "right_over" "right_over" (bc mX) (ay mX) (aq mX) .none auC auD auE auz Vl auF),auA⟩)
  (Gr:codeIn K Vl "right_over"=true)
  (Gs:keepIn K (.ref Ed)=true)
  (Gu:nsIn K mainGlobals "place_in_line"=some (some (.ref Ee)))
  (Gv:K.lookup Ee=some ⟨auJ,auG, .func (fnOf "place_in_line" "place_in_line" (bc mY) (ay mY) (aq mY) .none auK auL auM auH Vm auN),auI⟩)
  (Gw:codeIn K Vm "place_in_line"=true)
  (Gx:keepIn K (.ref Ee)=true)
  (Gy:nsIn K mainGlobals "place_by_word"=some (some (.ref Ef)))
  (Gz:K.lookup Ef=some ⟨auR,auO, .func (fnOf "place_by_word" "place_by_word" (bc mZ) (ay mZ) (aq mZ) .none auS auT auU auP Vn auV),auQ⟩)
  (GA:codeIn K Vn "place_by_word"=true)
  (GB:keepIn K (.ref Ef)=true)
  (GC:nsIn K mainGlobals "place_in_next_line"=some (some (.ref Eg)))
  (GD:K.lookup Eg=some ⟨auZ,auW, .func (fnOf "place_in_next_line" "place_in_next_line" (bc m4) (ay m4) (aq m4) .none au0 au1 au2 auX Vo au3),auY⟩)
  (GF:codeIn K Vo "place_in_next_line"=true)
  (GG:keepIn K (.ref Eg)=true)
  (GH:nsIn K mainGlobals "with_head"=some (some (.ref Eh)))
  (GI:K.lookup Eh=some ⟨au7,au4, .func (fnOf "with_head" "with_head" (bc m5) (ay m5) (aq m5) .none au8 au9 au_ au5 Vp ava),au6⟩)
  (GJ:codeIn K Vp "with_head"=true)
  (GK:keepIn K (.ref Eh)=true)
  (GN:nsIn K mainGlobals "step"=some (some (.ref Ei)))
  (GO:K.lookup Ei=some ⟨ave,avb, .func (fnOf "step" "step" (bc m6) (ay m6) (aq m6) .none avf avg avh avc Vq avi),avd⟩)
  (GP:codeIn K Vq "step"=true)
  (GQ:keepIn K (.ref Ei)=true)
  (GR:nsIn K mainGlobals "stepped"=some (some (.ref Ej)))
  (GS:K.lookup Ej=some ⟨avm,avj, .func (fnOf "stepped" "stepped" (bc m8) (ay m8) (aq m8) .none avn avo avp avk Vr avq),avl⟩)
  (GU:codeIn K Vr "stepped"=true)
  (GV:keepIn K (.ref Ej)=true)
  (GW:nsIn K mainGlobals "height_of"=some (some (.ref Ek)))
  (GX:K.lookup Ek=some ⟨avu,avr, .func (fnOf "height_of" "height_of" (bc m_) (ay m_) (aq m_) .none avv avw avx avs Vs avy),avt⟩)
  (GY:codeIn K Vs "height_of"=true)
  (GZ:keepIn K (.ref Ek)=true)
  (G0:nsIn K mainGlobals "size_of"=some (some (.ref El)))
  (G1:K.lookup El=some ⟨avC,avz, .func (fnOf "size_of" "size_of" (bc nc) (ay nc) (aq nc) .none avD avE avF avA Vt avG),avB⟩)
  (G3:codeIn K Vt "size_of"=true)
  (G4:keepIn K (.ref El)=true)
  (G5:nsIn K mainGlobals "ends_of"=some (some (.ref Em)))
  (G6:K.lookup Em=some ⟨avK,avH, .func (fnOf "ends_of" "ends_of" (bc nh) (ay nh) (aq nh) .none avL avM avN avI Vu avO),avJ⟩)
  (G7:codeIn K Vu "ends_of"=true)
  (G8:keepIn K (.ref Em)=true)
  (G9:nsIn K mainGlobals "made"=some (some (.ref En)))
  (G_:K.lookup En=some ⟨avS,avP, .func (fnOf "made" "made" (bc ni) (ay ni) (aq ni) .none avT avU avV avQ Vv avW),avR⟩)
  (Ha:codeIn K Vv "made"=true)
  (Hb:keepIn K (.ref En)=true)
  (Hc:nsIn K mainGlobals "turned_right"=some (some (.ref Eo)))
  (He:K.lookup Eo=some ⟨av0,avX, .func (fnOf "turned_right" "turned_right" (bc nj) (ay nj) (aq nj) .none av1 av2 av3 avY Vw av4),avZ⟩)
  (Hf:codeIn K Vw "turned_right"=true)
  (Hg:keepIn K (.ref Eo)=true)
  (Hh:nsIn K mainGlobals "turned_left"=some (some (.ref Ep)))
  (Hi:K.lookup Ep=some ⟨av8,av5, .func (fnOf "turned_left" "turned_left" (bc nk) (ay nk) (aq nk) .none av9 av_ awa av6 Vx awb),av7⟩)
  (Hj:codeIn K Vx "turned_left"=true)
  (Hk:keepIn K (.ref Ep)=true)
  (Hl:nsIn K mainGlobals "leveled"=some (some (.ref Er)))
  (Hm:K.lookup Er=some ⟨awf,awc, .func (fnOf "leveled" "leveled" (bc nq) (ay nq) (aq nq) .none awg awh awi awd Vy awj),awe⟩)
  (Hn:codeIn K Vy "leveled"=true)
  (Ho:keepIn K (.ref Er)=true)
  (xI:nsIn K mainGlobals "joined"=some (some (.ref Es)))
  (Hq:K.lookup Es=some ⟨awn,awk, .func (fnOf "joined" "joined" (bc nv) (ay nv) (aq nv) .none awo awp awq awl Vz awr),awm⟩)
  (Hr:codeIn K Vz "joined"=true)
  (Hs:keepIn K (.ref Es)=true)
  (xJ:nsIn K mainGlobals "last_out"=some (some (.ref Et)))
  (Ht:K.lookup Et=some ⟨awv,aws, .func (fnOf "last_out" "last_out" (bc ny) (ay ny) (aq ny) .none aww awx awy awt VA awz),awu⟩)
  (Hu:codeIn K VA "last_out"=true)
  (Hv:keepIn K (.ref Et)=true)
  (xM:nsIn K mainGlobals "first_out"=some (some (.ref Eu)))
  (Hw:K.lookup Eu=some ⟨awD,awA, .func (fnOf "first_out" "first_out" (bc nz) (ay nz) (aq nz) .none awE awF awG awB VB awH),awC⟩)
  (Hx:codeIn K VB "first_out"=true)
  (Hy:keepIn K (.ref Eu)=true)
  (Hz:nsIn K mainGlobals "sewn"=some (some (.ref Ew)))
  (HA:K.lookup Ew=some ⟨awL,awI, .func (fnOf "sewn" "sewn" (bc nA) (ay nA) (aq nA) .none awM awN awO awJ VC awP),awK⟩)
  (HB:codeIn K VC "sewn"=true)
  (HC:keepIn K (.ref Ew)=true)
  (HD:nsIn K mainGlobals "cut_in_two"=some (some (.ref Ex)))
  (HE:K.lookup Ex=some ⟨awT,awQ, .func (fnOf "cut_in_two" "cut_in_two" (bc nB) (ay nB) (aq nB) .none awU awV awW awR VD awX),awS⟩)
  (HF:codeIn K VD "cut_in_two"=true)
  (HG:keepIn K (.ref Ex)=true)
  (xO:nsIn K mainGlobals "parted"=some (some (.ref Ey)))
  (HH:K.lookup Ey=some ⟨aw1,awY, .func (fnOf "parted" "parted" (bc nC) (ay nC) (aq nC) .none aw2 aw3 aw4 awZ VE aw5),aw0⟩)
  (HI:codeIn K VE "parted"=true)
  (HJ:keepIn K (.ref Ey)=true)
  (xQ:nsIn K mainGlobals "pieces_of"=some (some (.ref Ez)))
  (HK:K.lookup Ez=some ⟨aw9,aw6, .func (fnOf "pieces_of" "pieces_of" (bc nE) (ay nE) (aq nE) .none aw_ axa axb aw7 VF axc),aw8⟩)
  (HL:codeIn K VF "pieces_of"=true)
  (HM:keepIn K (.ref Ez)=true)
  (HN:nsIn K mainGlobals "ends_ahead_of"=some (some (.ref EA)))
  (HP:K.lookup EA=some ⟨axg,axd, .func (fnOf "ends_ahead_of" "ends_ahead_of" (bc nF) (ay nF) (aq nF) .none axh axi axj axe VG axk),axf⟩)
  (HQ:codeIn K VG "ends_ahead_of"=true)
  (HR:keepIn K (.ref EA)=true)
  (HS:nsIn K mainGlobals "place_of_end"=some (some (.ref EB)))
  (HU:K.lookup EB=some ⟨axo,axl, .func (fnOf "place_of_end" "place_of_end" (bc nG) (ay nG) (aq nG) .none axp axq axr axm VH axs),axn⟩)
  (HV:codeIn K VH "place_of_end"=true)
  (HW:keepIn K (.ref EB)=true)
  (HX:findIn K (.ref aX) "__init__"=some (some (.ref xh)))
  (HY:isFn K (.ref xh)=true)
  (HZ:K.lookup xh=some ⟨axw,axt, .func (fnOf "__init__" "Stock.__init__" (bc nH) (ay nH) (aq nH) .none axx axy axz axu VI axA),axv⟩)
  (H9:codeIn K VI "Stock.__init__"=true)
  (H_:keepIn K (.ref xh)=true)
  (Ia:findIn K (.ref aX) "put"=some (some (.ref xi)))
  (Ib:isFn K (.ref xi)=true)
  (Ic:K.lookup xi=some ⟨axE,axB, .func (fnOf "put" "Stock.put" (bc nI) (ay nI) (aq nI) .none axF axG axH axC VJ axI),axD⟩)
  (Ie:codeIn K VJ "Stock.put"=true)
  (xR:keepIn K (.ref xi)=true)
  (Ig:findIn K (.ref aX) "read"=some (some (.ref xj)))
  (Ih:isFn K (.ref xj)=true)
  (Ii:K.lookup xj=some ⟨axM,axJ, .func (fnOf "read" "Stock.read" (bc nJ) (ay nJ) (aq nJ) .none axN axO axP axK VL axQ),axL⟩)
  (Ij:codeIn K VL "Stock.read"=true)
  (xS:keepIn K (.ref xj)=true)
  (Ik:findIn K (.ref aX) "ends_ahead"=some (some (.ref xk)))
  (Il:isFn K (.ref xk)=true)
  (Im:K.lookup xk=some ⟨axU,axR, .func (fnOf "ends_ahead" "Stock.ends_ahead" (bc nK) (ay nK) (aq nK) .none axV axW axX axS VM axY),axT⟩)
  (Io:codeIn K VM "Stock.ends_ahead"=true)
  (xT:keepIn K (.ref xk)=true)
  (Ip:findIn K (.ref aX) "end_place"=some (some (.ref xl)))
  (Iq:isFn K (.ref xl)=true)
  (Ir:K.lookup xl=some ⟨ax2,axZ, .func (fnOf "end_place" "Stock.end_place" (bc nM) (ay nM) (aq nM) .none ax3 ax4 ax5 ax0 VN ax6),ax1⟩)
  (Iu:codeIn K VN "Stock.end_place"=true)
  (xU:keepIn K (.ref xl)=true)
  (Iv:nsIn K mainGlobals "node_put"=some (some (.ref EC)))
  (Iw:K.lookup EC=some ⟨ax_,ax7, .func (fnOf "node_put" "node_put" (bc nN) (ay nN) (aq nN) .none aya ayb ayc ax8 VO ayd),ax9⟩)
  (Iy:codeIn K VO "node_put"=true)
  (Iz:keepIn K (.ref EC)=true)
  (IA:nsIn K mainGlobals "paper_of"=some (some (.ref ED)))
  (IB:K.lookup ED=some ⟨ayh,aye, .func (fnOf "paper_of" "paper_of" (bc nO) (ay nO) (aq nO) .none ayi ayj ayk ayf VP ayl),ayg⟩)
  (IC:codeIn K VP "paper_of"=true)
  (ID:keepIn K (.ref ED)=true)
  (IE:nsIn K mainGlobals "need_fit"=some (some (.ref EE)))
  (IF:K.lookup EE=some ⟨ayp,aym, .func (fnOf "need_fit" "need_fit" (bc nP) (ay nP) (aq nP) .none ayq ayr ays ayn VQ ayt),ayo⟩)
  (IG:codeIn K VQ "need_fit"=true)
  (IH:keepIn K (.ref EE)=true)
  (II:nsIn K mainGlobals "texts_of"=some (some (.ref EF)))
  (IJ:K.lookup EF=some ⟨ayx,ayu, .func (fnOf "texts_of" "texts_of" (bc nQ) (ay nQ) (aq nQ) .none ayy ayz ayA ayv VR ayB),ayw⟩)
  (IL:codeIn K VR "texts_of"=true)
  (IM:keepIn K (.ref EF)=true)
  (IP:findIn K (.ref aS) "__init__"=some (some (.ref xn)))
  (IQ:isFn K (.ref xn)=true)
  (IS:K.lookup xn=some ⟨ayF,ayC, .func (fnOf "__init__" "Paper.__init__" (bc nR) (ay nR) (aq nR) .none ayG ayH ayI ayD VS ayJ),ayE⟩)
  (IT:codeIn K VS "Paper.__init__"=true)
  (IU:keepIn K (.ref xn)=true)
  (IV:findIn K (.ref aS) "size"=some (some (.ref xo)))
  (IW:isFn K (.ref xo)=true)
  (IX:K.lookup xo=some ⟨ayN,ayK, .func (fnOf "size" "Paper.size" (bc nS) (ay nS) (aq nS) .none ayO ayP ayQ ayL VT ayR),ayM⟩)
  (IY:codeIn K VT "Paper.size"=true)
  (xV:keepIn K (.ref xo)=true)
  (IZ:findIn K (.ref aS) "lines"=some (some (.ref xp)))
  (I0:isFn K (.ref xp)=true)
  (I_:K.lookup xp=some ⟨ayV,ayS, .func (fnOf "lines" "Paper.lines" (bc nT) (ay nT) (aq nT) .none ayW ayX ayY ayT VU ayZ),ayU⟩)
  (Ja:codeIn K VU "Paper.lines"=true)
  (xW:keepIn K (.ref xp)=true)
  (Jb:findIn K (.ref aS) "text"=some (some (.ref xq)))
  (Jc:isFn K (.ref xq)=true)
  (Jd:K.lookup xq=some ⟨ay3,ay0, .func (fnOf "text" "Paper.text" (bc nU) (ay nU) (aq nU) .none ay4 ay5 ay6 ay1 VV ay7),ay2⟩)
  (Je:codeIn K VV "Paper.text"=true)
  (xX:keepIn K (.ref xq)=true)
  (Jf:findIn K (.ref aS) "part"=some (some (.ref xr)))
  (Jg:isFn K (.ref xr)=true)
  (Jh:K.lookup xr=some ⟨aza,ay8, .func (fnOf "part" "Paper.part" (bc nV) (ay nV) (aq nV) .none azb azc azd ay9 VW aze),ay_⟩)
  (Ji:codeIn K VW "Paper.part"=true)
  (xY:keepIn K (.ref xr)=true)
  (Jj:findIn K (.ref aS) "changed"=some (some (.ref xu)))
  (Jk:isFn K (.ref xu)=true)
  (Jl:K.lookup xu=some ⟨azi,azf, .func (fnOf "changed" "Paper.changed" (bc nW) (ay nW) (aq nW) .none azj azk azl azg VX azm),azh⟩)
  (Jm:codeIn K VX "Paper.changed"=true)
  (xZ:keepIn K (.ref xu)=true)
  (Jo:findIn K (.ref aS) "line_begin"=some (some (.ref xv)))
  (Jp:isFn K (.ref xv)=true)
  (Jq:K.lookup xv=some ⟨azq,azn, .func (fnOf "line_begin" "Paper.line_begin" (bc nX) (ay nX) (aq nX) .none azr azs azt azo VY azu),azp⟩)
  (Jr:codeIn K VY "Paper.line_begin"=true)
  (x3:keepIn K (.ref xv)=true)
  (Js:findIn K (.ref aS) "line_size"=some (some (.ref xx)))
  (Jt:isFn K (.ref xx)=true)
  (Ju:K.lookup xx=some ⟨azy,azv, .func (fnOf "line_size" "Paper.line_size" (bc nY) (ay nY) (aq nY) .none azz azA azB azw VZ azC),azx⟩)
  (Jv:codeIn K VZ "Paper.line_size"=true)
  (x6:keepIn K (.ref xx)=true)
  (Jw:findIn K (.ref aS) "line_at"=some (some (.ref xy)))
  (Jx:isFn K (.ref xy)=true)
  (Jy:K.lookup xy=some ⟨azG,azD, .func (fnOf "line_at" "Paper.line_at" (bc nZ) (ay nZ) (aq nZ) .none azH azI azJ azE V0 azK),azF⟩)
  (Jz:codeIn K V0 "Paper.line_at"=true)
  (x8:keepIn K (.ref xy)=true)
  (JA:findIn K (.ref aS) "place_at"=some (some (.ref xB)))
  (JB:isFn K (.ref xB)=true)
  (JC:K.lookup xB=some ⟨azO,azL, .func (fnOf "place_at" "Paper.place_at" (bc n_) (ay n_) (aq n_) .none azP azQ azR azM V1 azS),azN⟩)
  (JD:codeIn K V1 "Paper.place_at"=true)
  (x9:keepIn K (.ref xB)=true)
  (JE:nsIn K mainGlobals "_law_cell_at"=some (some (.ref EG)))
  (JF:K.lookup EG=some ⟨azW,azT, .func (fnOf "_law_cell_at" "_law_cell_at" (bc oe) (ay oe) (aq oe) .none azX azY azZ azU V2 az0),azV⟩)
  (JG:codeIn K V2 "_law_cell_at"=true)
  (JH:keepIn K (.ref EG)=true)
  (JI:nsIn K mainGlobals "_law_whole"=some (some (.ref EH)))
  (JJ:K.lookup EH=some ⟨az4,az1, .func (fnOf "_law_whole" "_law_whole" (bc og) (ay og) (aq og) .none az5 az6 az7 az2 V3 az8),az3⟩)
  (JK:codeIn K V3 "_law_whole"=true)
  (JL:keepIn K (.ref EH)=true)
  (JM:nsIn K mainGlobals "_law_mixed"=some (some (.ref EI)))
  (JN:K.lookup EI=some ⟨aAb,az9, .func (fnOf "_law_mixed" "_law_mixed" (bc oh) (ay oh) (aq oh) .none aAc aAd aAe az_ V4 aAf),aAa⟩)
  (JO:codeIn K V4 "_law_mixed"=true)
  (JP:keepIn K (.ref EI)=true)
  (JQ:nsIn K mainGlobals "_law_text_by"=some (some (.ref EJ)))
  (JR:K.lookup EJ=some ⟨aAj,aAg, .func (fnOf "_law_text_by" "_law_text_by" (bc oi) (ay oi) (aq oi) .none aAk aAl aAm aAh V5 aAn),aAi⟩)
  (JS:codeIn K V5 "_law_text_by"=true)
  (JT:keepIn K (.ref EJ)=true)
  (JU:nsIn K mainGlobals "_law_neat"=some (some (.ref EK)))
  (JV:K.lookup EK=some ⟨aAr,aAo, .func (fnOf "_law_neat" "_law_neat" (bc oj) (ay oj) (aq oj) .none aAs aAt aAu aAp V6 aAv),aAq⟩)
  (JW:codeIn K V6 "_law_neat"=true)
  (JX:keepIn K (.ref EK)=true)
  (JY:nsIn K mainGlobals "_law_change_by"=some (some (.ref EL)))
  (JZ:K.lookup EL=some ⟨aAz,aAw, .func (fnOf "_law_change_by" "_law_change_by" (bc cR) (ay cR) (aq cR) .none aAA aAB aAC aAx V7 aAD),aAy⟩)
  (J0:codeIn K V7 "_law_change_by"=true)
  (J3:keepIn K (.ref EL)=true)
  (J4:nsIn K mainGlobals "_law_done"=some (some (.ref EM)))
  (J5:K.lookup EM=some ⟨aAH,aAE, .func (fnOf "_law_done" "_law_done" (bc om) (ay om) (aq om) .none aAI aAJ aAK aAF V8 aAL),aAG⟩)
  (J6:codeIn K V8 "_law_done"=true)
  (J7:keepIn K (.ref EM)=true)
  (J8:nsIn K mainGlobals "_law_at_line"=some (some (.ref EN)))
  (J9:K.lookup EN=some ⟨aAP,aAM, .func (fnOf "_law_at_line" "_law_at_line" (bc oo) (ay oo) (aq oo) .none aAQ aAR aAS aAN V9 aAT),aAO⟩)
  (J_:codeIn K V9 "_law_at_line"=true)
  (Ka:keepIn K (.ref EN)=true)
  (Kb:nsIn K mainGlobals "_law_in_line"=some (some (.ref EO)))
  (Kc:K.lookup EO=some ⟨aAX,aAU, .func (fnOf "_law_in_line" "_law_in_line" (bc ou) (ay ou) (aq ou) .none aAY aAZ aA0 aAV V_ aA1),aAW⟩)
  (Kd:codeIn K V_ "_law_in_line"=true)
  (Ke:keepIn K (.ref EO)=true)
  (Kf:nsIn K mainGlobals "_law_word_place"=some (some (.ref ER)))
  (Kg:K.lookup ER=some ⟨aA5,aA2, .func (fnOf "_law_word_place" "_law_word_place" (bc ow) (ay ow) (aq ow) .none aA6 aA7 aA8 aA3 Wa aA9),aA4⟩)
  (Kh:codeIn K Wa "_law_word_place"=true)
  (Ki:keepIn K (.ref ER)=true)
  (Kj:nsIn K mainGlobals "_law_led"=some (some (.ref ES)))
  (Kk:K.lookup ES=some ⟨aBc,aA_, .func (fnOf "_law_led" "_law_led" (bc bT) (ay bT) (aq bT) .none aBd aBe aBf aBa Wb aBg),aBb⟩)
  (Kl:codeIn K Wb "_law_led"=true)
  (Km:keepIn K (.ref ES)=true)
  (Kn:nsIn K mainGlobals "_law_stepped"=some (some (.ref ET)))
  (Ko:K.lookup ET=some ⟨aBk,aBh, .func (fnOf "_law_stepped" "_law_stepped" (bc dH) (ay dH) (aq dH) .none aBl aBm aBn aBi Wc aBo),aBj⟩)
  (Kq:codeIn K Wc "_law_stepped"=true)
  (Kr:keepIn K (.ref ET)=true)
  (Ks:nsIn K mainGlobals "_law_cursor"=some (some (.ref EU)))
  (Kt:K.lookup EU=some ⟨aBs,aBp, .func (fnOf "_law_cursor" "_law_cursor" (bc oy) (ay oy) (aq oy) .none aBt aBu aBv aBq We aBw),aBr⟩)
  (Ku:codeIn K We "_law_cursor"=true)
  (Kv:keepIn K (.ref EU)=true)
  (Kw:nsIn K mainGlobals "_law_word_by"=some (some (.ref EV)))
  (Kx:K.lookup EV=some ⟨aBA,aBx, .func (fnOf "_law_word_by" "_law_word_by" (bc fJ) (ay fJ) (aq fJ) .none aBB aBC aBD aBy Wf aBE),aBz⟩)
  (Ky:codeIn K Wf "_law_word_by"=true)
  (Kz:keepIn K (.ref EV)=true)
  (KA:nsIn K mainGlobals "_law_begun"=some (some (.ref EW)))
  (KC:K.lookup EW=some ⟨aBI,aBF, .func (fnOf "_law_begun" "_law_begun" (bc dj) (ay dj) (aq dj) .none aBJ aBK aBL aBG Wg aBM),aBH⟩)
  (KD:codeIn K Wg "_law_begun"=true)
  (KG:keepIn K (.ref EW)=true)
  (KH:nsIn K mainGlobals "law"=some (some (.ref EX)))
  (KI:K.lookup EX=some ⟨aBP,aBN, .func (fnOf "law" "law" (bc b7) (ay b7) (aq b7) .none Wi Wj Wk Wh EY Wl),aBO⟩)
  (KJ:codeIn K EY "law"=true)
  (KL:keepIn K (.ref EX)=true)
  (KN:nsIn K mainGlobals "SIGNS"=some (some (Value.str SG aBQ)))
  (KO:nsIn K mainGlobals "MOST_CURSORS"=some (some (Value.int 40 aBR)))
  (KP:nsIn K mainGlobals "FIRST_STRIDE"=some (some (Value.int 64 aBS)))
  (KQ:nsIn K mainGlobals "WORD_SIGNS"=some (some (Value.str N.WS aBT)))
  (KR:nsIn K mainGlobals "OTHER_SIGNS"=some (some (Value.str N.OS aBU)))
  (KS:nsIn K mainGlobals "STEP_WORDS"=some (some (.ref ug)))
  (KU:K.lookup ug=some ⟨.type "tuple",none, .seq #[.str "left" aBW, .str "right" aBX, .str "home" aBY, .str "end" aBZ, .str "top" aB0, .str "bottom" aB1, .str "back" aB2, .str "on" aB3, .str "up" aB4, .str "down" aB5] aBV,#[]⟩)
  (KW:nsIn K mainGlobals "all"=some none)
  (KY:nsIn K mainGlobals "any"=some none)
  (KZ:nsIn K mainGlobals "bool"=some none)
  (K0:nsIn K mainGlobals "enumerate"=some none)
  (K1:nsIn K mainGlobals "int"=some none)
  (K2:nsIn K mainGlobals "isinstance"=some none)
  (K3:nsIn K mainGlobals "len"=some none)
  (K4:nsIn K mainGlobals "list"=some none)
  (K5:nsIn K mainGlobals "max"=some none)
  (K6:nsIn K mainGlobals "min"=some none)
  (K7:nsIn K mainGlobals "range"=some none)
  (K8:nsIn K mainGlobals "str"=some none)
  (K9:nsIn K mainGlobals "sum"=some none)
  (K_:nsIn K mainGlobals "tuple"=some none)
  (La:nsIn K mainGlobals "zip"=some none)
  : ∃fd:FuncData,(∀(s:Shared) (v:Value),BindsTo s fd ⟨[v],[]⟩ [("_law_script",v)])∧ ∀base:Heap,K.In base→base.Ns mainGlobals mg→cG l.prog w K mg base uY 108 fa fd ["_law_script"] (fun vs H Q _=> (xf K) vs H Q E0):=by
 have e:=hfa.symm.trans (mg_of X G KH)
 cases e
 have aB6:mg "all"=none:=mg_none_of X G KW
 have aB7:mg "any"=none:=mg_none_of X G KY
 have y_bool:mg "bool"=none:=mg_none_of X G KZ
 have aB8:mg "enumerate"=none:=mg_none_of X G K0
 have ui:mg "int"=none:=mg_none_of X G K1
 have jU:mg "isinstance"=none:=mg_none_of X G K2
 have dM:mg "len"=none:=mg_none_of X G K3
 have Wm:mg "list"=none:=mg_none_of X G K4
 have uj:mg "max"=none:=mg_none_of X G K5
 have o5:mg "min"=none:=mg_none_of X G K6
 have Lb:mg "range"=none:=mg_none_of X G K7
 have Wn:mg "str"=none:=mg_none_of X G K8
 have Wo:mg "sum"=none:=mg_none_of X G K9
 have Lc:mg "tuple"=none:=mg_none_of X G K_
 have aB9:mg "zip"=none:=mg_none_of X G La
 have aB_:fY mg ("SIGNS", .str SG):=⟨_,mg_of X G KN,⟨_,rfl⟩⟩
 have aCa:fY mg ("MOST_CURSORS", .int 40):=⟨_,mg_of X G KO,⟨_,rfl⟩⟩
 have Wq:fY mg ("FIRST_STRIDE", .int 64):=⟨_,mg_of X G KP,⟨_,rfl⟩⟩
 have aCb:fY mg ("WORD_SIGNS", .str N.WS):=⟨_,mg_of X G KQ,⟨_,rfl⟩⟩
 have aCc:fY mg ("OTHER_SIGNS", .str N.OS):=⟨_,mg_of X G KR,⟨_,rfl⟩⟩
 have aEP:fY mg ("BadText", .ref i_):=⟨_,mg_of X G xC,rfl⟩
 have aEQ:fY mg ("BadChange", .ref ub):=⟨_,mg_of X G xD,rfl⟩
 have aER:fY mg ("BadFit", .ref uc):=⟨_,mg_of X G xE,rfl⟩
 have aES:fY mg ("NoPlace", .ref iy):=⟨_,mg_of X G xF,rfl⟩
 have aET:fY mg ("NoCursor", .ref ue):=⟨_,mg_of X G xG,rfl⟩
 have aEU:fY mg ("BadDeed", .ref uf):=⟨_,mg_of X G xH,rfl⟩
 have aCd:fY mg ("STEP_WORDS", .ref ug):=⟨_,mg_of X G KS,rfl⟩
 have aCe:anQ K ug [.str "left", .str "right", .str "home", .str "end", .str "top", .str "bottom", .str "back", .str "on", .str "up", .str "down"]:=fun _=> .inr ⟨_,_,_,KU,rfl,rfl,(by show 10≤sizeLine;decide),(.cons ⟨_,rfl⟩ (.cons ⟨_,rfl⟩ (.cons ⟨_,rfl⟩ (.cons ⟨_,rfl⟩ (.cons ⟨_,rfl⟩ (.cons ⟨_,rfl⟩ (.cons ⟨_,rfl⟩ (.cons ⟨_,rfl⟩ (.cons ⟨_,rfl⟩ (.cons ⟨_,rfl⟩ .nil))))))))))⟩
 have jV:pH K aX:=⟨⟨E1,E2,E3,E4⟩,E7,E8,E9,E_⟩
 have dX:gA K aS:=⟨⟨Fc,Fd,Fe,Ff⟩,Fi,Fj⟩
 refine⟨fnOf "law" "law" (bc b7) (ay b7) (aq b7) .none Wi Wj Wk Wh EY Wl,fun s v=> .of_eq rfl,fun base X2 G2=> ?_⟩
 have aCf:kj mg base ("BadText",i_):=p9 X2 G2 xC Fl
 have aCg:kj mg base ("BadChange",ub):=p9 X2 G2 xD Fm
 have aCh:kj mg base ("BadFit",uc):=p9 X2 G2 xE Fn
 have uk:kj mg base ("NoPlace",iy):=p9 X2 G2 xF Fo
 have aCi:kj mg base ("NoCursor",ue):=p9 X2 G2 xG Fp
 have aCj:kj mg base ("BadDeed",uf):=p9 X2 G2 xH Fq
 have F0:=bq (st:=mz) l0 c0 k0
 have B0:=cN (ps:=O8) F0 rfl fun _ _ _ _ _ _ _=>rfl
 have T0:bz l.prog w K mg base 1 "is_whole" (i0):=⟨_,_,_,(br (k:=0) F0 aj9 [] [] O9 [] [] [] [] Af @aj_ ae ae (aA jU (aA ui (aA y_bool ae))) [] ae ae ae ae ae (by rintro vs H Q E ⟨_,rfl,_⟩;rfl) anV),mg_of X G a0,F0.kp,B0⟩
 have F1:=bq (st:=mB) l1 c1 k1
 have B1:=dF (ps:=Pw) F1 rfl fun _ _ _ _ _ _ _ _ _=>rfl
 have T1:bz l.prog w K mg base 2 "is_between" (cL):=⟨_,_,_,(br (k:=1) F1 aka [("is_whole",i0)] [] Px [] [] [] [] Au @akb (aA (T0.mono (by omega)) ae) ae ae [] ae ae ae ae ae (by rintro vs H Q E ⟨_,_,_,rfl,_⟩;rfl) aog),mg_of X G a1,F1.kp,B1⟩
 have F2:=bq (st:=mD) l2 c2 k2
 have B2:=cN (ps:=Rh) F2 rfl fun _ _ _ _ _ _ _=>rfl
 have T2:bz l.prog w K mg base 1 "is_truth" (N.tO):=⟨_,_,_,(br (k:=0) F2 akc [] [] Ri [] [] [] [] B_ @akd ae ae ae [] ae ae ae ae ae (by rintro vs H Q E ⟨_,rfl,_⟩;rfl) N.aqJ),mg_of X G a2,F2.kp,B2⟩
 have F3:=bq (st:=mE) l3 c3 k3
 have B3:=c_ (ps:=O_) F3 rfl fun _ _ _ _ _ _ _ _=>rfl
 have T3:bz l.prog w K mg base 1 "is_word" (oH K):=⟨_,_,_,(br (k:=0) F3 ake [] [] Pa [] [] [] [] vM @akf ae ae (aA jU (aA Wn ae)) [] ae ae ae ae ae (by rintro vs H Q E ⟨_,_,_,rfl,_⟩;rfl) an_),mg_of X G a3,F3.kp,B3⟩
 have F4:=bq (st:=mF) l4 c4 k4
 have B4:=cN (ps:=Pb) F4 rfl fun _ _ _ _ _ _ _=>rfl
 have T4:bz l.prog w K mg base 1 "is_text" (pY):=⟨_,_,_,(br (k:=0) F4 akg [] [("SIGNS", .str SG)] Pd [] [] [] [] vO @akh ae (aA aB_ ae) (aA jU (aA Wn ae)) [] ae ae ae ae ae (by rintro vs H Q E ⟨_,rfl,_⟩;rfl) anW),mg_of X G a4,F4.kp,B4⟩
 have F5:=bq (st:=mG) l5 c5 k5
 have B5:=cN (ps:=Pe) F5 rfl fun _ _ _ _ _ _ _=>rfl
 have T5:bz l.prog w K mg base 2 "need_text" (oG i_):=⟨_,_,_,(br (k:=1) F5 aki [("is_text",pY)] [] Pf [] [] [("BadText",i_)] [] Ah @akj (aA (T4.mono (by omega)) ae) ae ae [] ae ae ae (aA aCf ae) ae (by rintro vs H Q E ⟨_,rfl,_⟩;rfl) anZ),mg_of X G a5,F5.kp,B5⟩
 have F6:=bq (st:=mH) l6 c6 k6
 have B6:=cN (ps:=Pg) F6 rfl fun _ _ _ _ _ _ _=>rfl
 have T6:bz l.prog w K mg base 2 "is_part" (Dd):=⟨_,_,_,(br (k:=1) F6 akk [("is_word",oH K),("is_whole",i0),("is_text",pY)] [] Ph [] [] [] [] rW @akl (aA (T3.mono (by omega)) (aA (T0.mono (by omega)) (aA (T4.mono (by omega)) ae))) ae (aA jU (aA Lc (aA dM ae))) [] ae ae ae ae ae (by rintro vs H Q E ⟨_,rfl,_⟩;rfl) aob),mg_of X G a6,F6.kp,B6⟩
 have F7:=bq (st:=mI) l7 c7 k7
 have B7:=c_ (ps:=Pj) F7 rfl fun _ _ _ _ _ _ _ _=>rfl
 have T7:bz l.prog w K mg base 1 "may_follow" (v_):=⟨_,_,_,(br (k:=0) F7 akm [] [] Pk [] [] [] [] Aj @akn ae ae ae [] ae ae ae ae ae (by rintro vs H Q E ⟨_,_,rfl,_⟩;rfl) anr),mg_of X G a7,F7.kp,B7⟩
 have F8:=bq (st:=mJ) l8 c8 k8
 have B8:=cN (ps:=Pl) F8 rfl fun _ _ _ _ _ _ _=>rfl
 have T8:bz l.prog w K mg base 3 "need_change" (wb):=⟨_,_,_,(br (k:=2) F8 ako [("is_part",C9),("may_follow",v_)] [] Pm [] [] [("BadChange",ub)] [] Al @akp (aA ((T6.weak fun _ _ _ _ h=>aod h).mono (by omega)) (aA (T7.mono (by omega)) ae)) ae (aA jU (aA Wm ae)) [] ae ae ae (aA aCg ae) ae (by rintro vs H Q E ⟨_,_,_,rfl,_⟩;rfl) anB),mg_of X G a8,F8.kp,B8⟩
 have F9:=bq (st:=mK) l9 c9 k9
 have B9:=cN (ps:=Pn) F9 rfl fun _ _ _ _ _ _ _=>rfl
 have T9:bz l.prog w K mg base 1 "part_size" (gK):=⟨_,_,_,(br (k:=0) F9 akq [] [] Po [] [] [] [] An @akr ae ae (aA dM ae) [] ae ae ae ae ae (by rintro vs H Q E ⟨_,_,rfl,_⟩;rfl) ans),mg_of X G a9,F9.kp,B9⟩
 have Ld:=bq (st:=mL) Ft Fu Fv
 have B10:=cN (ps:=Pp) Ld rfl fun _ _ _ _ _ _ _=>rfl
 have T10:bz l.prog w K mg base 4 "sizes" (sv):=⟨_,_,_,(br (k:=3) Ld aks [("need_change",wb),("part_size",gK)] [] Pq [] [] [] [] Ap @akt (aA (T8.mono (by omega)) (aA (T9.mono (by omega)) ae)) ae (aA Wo ae) [] ae ae ae ae ae (by rintro vs H Q E ⟨_,_,_,rfl,_⟩;rfl) anE),mg_of X G Fs,Ld.kp,B10⟩
 have Le:=bq (st:=mM) Fx Fy Fz
 have B11:=c_ (ps:=Pz) Le rfl fun _ _ _ _ _ _ _ _=>rfl
 have Wr:bz l.prog w K mg base 1 "many_upto" (oE):=⟨_,_,_,(br (k:=0) Le aku [] [] PB [] [] [] [] Ax @akv ae ae (aA dM ae) [] ae ae ae ae ae (by rintro vs H Q E ⟨_,_,_,rfl,_⟩;rfl) anP),mg_of X G Fw,Le.kp,B11⟩
 have Lf:=bq (st:=mO) FC FD FE
 have B12:=cN (ps:=Rj) Lf rfl fun _ _ _ _ _ _ _=>rfl
 have Lg:bz l.prog w K mg base 1 "begin_of" (N.kW):=⟨_,_,_,(br (k:=0) Lf akw [] [] Rk [] [] [] [] Cb @akx ae ae (aA o5 ae) [] ae ae ae ae ae (by rintro vs H Q E ⟨_,_,_,_,rfl,_⟩;rfl) N.aqB),mg_of X G FA,Lf.kp,B12⟩
 have Lh:=bq (st:=mP) FG FH FI
 have B13:=cN (ps:=Rl) Lh rfl fun _ _ _ _ _ _ _=>rfl
 have Ws:bz l.prog w K mg base 1 "end_of" (N.oY):=⟨_,_,_,(br (k:=0) Lh aky [] [] Rm [] [] [] [] Cd @akz ae ae (aA uj ae) [] ae ae ae ae ae (by rintro vs H Q E ⟨_,_,_,_,rfl,_⟩;rfl) N.aqC),mg_of X G FF,Lh.kp,B13⟩
 have Li:=bq (st:=mQ) FK FL FN
 have B14:=cN (ps:=Rn) Li rfl fun _ _ _ _ _ _ _=>rfl
 have Wt:bz l.prog w K mg base 1 "is_empty" (N.qw):=⟨_,_,_,(br (k:=0) Li akA [] [] Ro [] [] [] [] Cf @akB ae ae ae [] ae ae ae ae ae (by rintro vs H Q E ⟨_,_,_,_,rfl,_⟩;rfl) N.aqD),mg_of X G FJ,Li.kp,B14⟩
 have Lj:=bq (st:=mR) FP FQ FR
 have B15:=cN (ps:=Rq) Lj rfl fun _ _ _ _ _ _ _=>rfl
 have T15:bz l.prog w K mg base 2 "is_goal" (N.tL):=⟨_,_,_,(br (k:=1) Lj akC [("is_whole",i0)] [] Rr [] [] [] [] Ci @akD (aA (T0.mono (by omega)) ae) ae ae [] ae ae ae ae ae (by rintro vs H Q E ⟨_,rfl,_⟩;rfl) N.aqE),mg_of X G FO,Lj.kp,B15⟩
 have Lk:=bq (st:=mS) FU FV FW
 have B16:=c_ (ps:=Rt) Lk rfl fun _ _ _ _ _ _ _ _=>rfl
 have T16:bz l.prog w K mg base 3 "is_cursor" (N.tM):=⟨_,_,_,(br (k:=2) Lk akE [("is_between",cL),("is_goal",N.tL)] [] Ru [] [] [] [] Ck @akF (aA (T1.mono (by omega)) (aA (T15.mono (by omega)) ae)) ae (aA jU (aA Lc (aA dM ae))) [] ae ae ae ae ae (by rintro vs H Q E ⟨_,_,_,_,_,rfl,_⟩;rfl) N.aqF),mg_of X G FT,Lk.kp,B16⟩
 have Ll:=bq (st:=mT) FY FZ F_
 have B17:=dF (ps:=Rv) Ll rfl fun _ _ _ _ _ _ _ _ _=>rfl
 have T17:bz l.prog w K mg base 2 "meet" (N.wY):=⟨_,_,_,(br (k:=1) Ll akG [("begin_of",N.kW),("is_empty",N.qw)] [] Rw [] [] [] [] Cn @akH (aA (Lg.mono (by omega)) (aA (Wt.mono (by omega)) ae)) ae ae [] ae ae ae ae ae (by rintro vs H Q E ⟨_,_,_,rfl,_⟩;rfl) N.aqG),mg_of X G FX,Ll.kp,B17⟩
 have Lm:=bq (st:=mU) Gb Gd Ge
 have B18:=c_ (ps:=Rx) Lm rfl fun _ _ _ _ _ _ _ _=>rfl
 have T18:bz l.prog w K mg base 4 "need_cursors" (N.tN):=⟨_,_,_,(br (k:=3) Lm akI [("is_cursor",N.tM),("meet",N.wY),("begin_of",N.kW),("end_of",N.oY)] [("MOST_CURSORS", .int 40)] Ry [] [] [("NoCursor",ue)] [] Cp @akJ (aA (T16.mono (by omega)) (aA (T17.mono (by omega)) (aA (Lg.mono (by omega)) (aA (Ws.mono (by omega)) ae)))) (aA aCa ae) (aA jU (aA Wm (aA dM (aA aB6 (aA aB7 (aA aB9 ae)))))) [] ae ae ae (aA aCi ae) ae (by rintro vs H Q E ⟨_,_,_,_,_,_,rfl,_⟩;rfl) N.aqI),mg_of X G Ga,Lm.kp,B18⟩
 have Ln:=bq (st:=mV) Gg Gh Gi
 have B19:=c_ (ps:=Rz) Ln rfl fun _ _ _ _ _ _ _ _=>rfl
 have T19:bz l.prog w K mg base 2 "need_step" (N.tP):=⟨_,_,_,(br (k:=1) Ln akK [("is_word",oH K),("is_truth",N.tO)] [("STEP_WORDS", .ref ug)] RA [] [] [("BadDeed",uf)] [] Cr @akL (aA (T3.mono (by omega)) (aA (T2.mono (by omega)) ae)) (aA aCd ae) ae [] ae ae ae (aA aCj ae) ae (by rintro vs H Q E ⟨_,_,rfl,_⟩;rfl) (N.aqL aCe)),mg_of X G Gf,Ln.kp,B19⟩
 have Lo:=bq (st:=nc) G1 G3 G4
 have B29:=cN (ps:=PN) Lo rfl fun _ _ _ _ _ _ _=>rfl
 have um:bz l.prog w K mg base 1 "size_of" (N.eO):=⟨_,_,_,(br (k:=0) Lo ak4 [] [] PQ [] [] [] [] AI @ak5 ae ae ae [] ae ae ae ae ae (by rintro vs H Q E ⟨_,_,rfl,_⟩;rfl) N.aoG),mg_of X G G0,Lo.kp,B29⟩
 have Lp:=bq (st:=m_) GX GY GZ
 have B28:=cN (ps:=PL) Lp rfl fun _ _ _ _ _ _ _=>rfl
 have uq:bz l.prog w K mg base 1 "height_of" (N.ic):=⟨_,_,_,(br (k:=0) Lp ak2 [] [] PM [] [] [] [] AG @ak3 ae ae ae [] ae ae ae ae ae (by rintro vs H Q E ⟨_,_,rfl,_⟩;rfl) N.aoF),mg_of X G GW,Lp.kp,B28⟩
 have Lq:=bq (st:=nh) G6 G7 G8
 have B30:=cN (ps:=PR) Lq rfl fun _ _ _ _ _ _ _=>rfl
 have x_:bz l.prog w K mg base 1 "ends_of" (N.e7):=⟨_,_,_,(br (k:=0) Lq ak6 [] [] PU [] [] [] [] AK @ak7 ae ae ae [] ae ae ae ae ae (by rintro vs H Q E ⟨_,_,rfl,_⟩;rfl) N.aoH),mg_of X G G5,Lq.kp,B30⟩
 have Lr:=bq (st:=ni) G_ Ha Hb
 have B31:=dF (ps:=PV) Lr rfl fun _ _ _ _ _ _ _ _ _=>rfl
 have ya:bz l.prog w K mg base 2 "made" (N.jK):=⟨_,_,_,(br (k:=1) Lr ak8 [("height_of",N.ic),("size_of",N.eO),("ends_of",N.e7)] [] PX [] [] [] [] AM @ak9 (aA (uq.mono (by omega)) (aA (um.mono (by omega)) (aA (x_.mono (by omega)) ae))) ae (aA uj ae) [] ae ae ae ae ae (by rintro vs H Q E ⟨_,_,_,_,_,_,_,_,rfl,_⟩;rfl) N.aoJ),mg_of X G G9,Lr.kp,B31⟩
 have Ls:=bq (st:=nj) He Hf Hg
 have B32:=dF (ps:=PY) Ls rfl fun _ _ _ _ _ _ _ _ _=>rfl
 have T32:bz l.prog w K mg base 3 "turned_right" (N.wz):=⟨_,_,_,(br (k:=2) Ls ak_ [("height_of",N.ic),("made",N.jK)] [] PZ [] [] [] [] AO @ala (aA (uq.mono (by omega)) (aA (ya.mono (by omega)) ae)) ae ae [] ae ae ae ae ae (by rintro vs H Q E ⟨_,_,_,_,_,_,_,_,rfl,_⟩;rfl) N.aoK),mg_of X G Hc,Ls.kp,B32⟩
 have Lu:=bq (st:=nk) Hi Hj Hk
 have B33:=dF (ps:=P0) Lu rfl fun _ _ _ _ _ _ _ _ _=>rfl
 have T33:bz l.prog w K mg base 3 "turned_left" (N.wA):=⟨_,_,_,(br (k:=2) Lu alb [("height_of",N.ic),("made",N.jK)] [] P4 [] [] [] [] AR @alc (aA (uq.mono (by omega)) (aA (ya.mono (by omega)) ae)) ae ae [] ae ae ae ae ae (by rintro vs H Q E ⟨_,_,_,_,_,_,_,_,rfl,_⟩;rfl) N.aoL),mg_of X G Hh,Lu.kp,B33⟩
 have Lv:=bq (st:=nq) Hm Hn Ho
 have B34:=dF (ps:=P5) Lv rfl fun _ _ _ _ _ _ _ _ _=>rfl
 have T34:bz l.prog w K mg base 4 "leveled" (N.wC):=⟨_,_,_,(br (k:=3) Lv ald [("height_of",N.ic),("turned_right",N.wz),("turned_left",N.wA),("made",N.jK)] [] P6 [] [] [] [] AU @ale (aA (uq.mono (by omega)) (aA (T32.mono (by omega)) (aA (T33.mono (by omega)) (aA (ya.mono (by omega)) ae)))) ae ae [] ae ae ae ae ae (by rintro vs H Q E ⟨_,_,_,_,_,_,_,_,rfl,_⟩;rfl) N.aoN),mg_of X G Hl,Lv.kp,B34⟩
 have yb:=bq (st:=nv) Hq Hr Hs
 have Wu:=dF (ps:=P7) yb rfl fun _ _ _ _ _ _ _ _ _=>rfl
 have R35: ∀n,bz l.prog w K mg base (4+n+1) "joined" (N.dS n):=by
  intro n
  induction n with
  | zero=>exact rT yb R8 (mg_of X G xI) Wu N.aoP
  | succ n ih=>exact⟨_,_,_,(br (k:=4+n+1) yb R8 [("height_of",N.ic),("leveled",N.wC),("joined",N.dS n),("made",N.jK)] [] P8 [] [] [] [] AW @alf (aA (uq.mono (by omega)) (aA (T34.mono (by omega)) (aA ih (aA (ya.mono (by omega)) ae)))) ae ae [] ae ae ae ae ae (by rintro vs H Q E ⟨_,_,_,_,_,_,_,_,rfl,_⟩;rfl) (N.aoR n)),mg_of X G xI,yb.kp,Wu⟩
 have ur:bz l.prog w K mg base 69 "joined" (N.dS 64):=R35 64
 have Wv:=bq (st:=nK) Im Io xT
 have B47:=c_ (ps:=Ql) Wv rfl fun _ _ _ _ _ _ _ _=>rfl
 have Lw:eL l.prog w K mg base 2 ("ends_ahead",aX,N.ie aX):=⟨jV.cl,_,_,_,⟨Ik,Il,xT⟩,(br (k:=1) Wv alA [("many_upto",oE)] [] Qm [] [] [] [] Bd @alB (aA (Wr.mono (by omega)) ae) ae ae [] ae ae ae ae ae (by rintro vs H Q E ⟨_,_,_,_,_,_,_,rfl,_⟩;rfl) (N.aoZ jV)),B47⟩
 have Lx:=bq (st:=nB) HE HF HG
 have B39:=dF (ps:=Qf) Lx rfl fun _ _ _ _ _ _ _ _ _=>rfl
 have T39:bz l.prog w K mg base 3 "cut_in_two" (N.wD aX):=⟨_,_,_,(br (k:=2) Lx alk [] [] Qg [("ends_ahead",aX,N.ie aX)] [] [] [] A8 @alm ae ae ae [] ae (aA (Lw.mono (by omega)) ae) ae ae ae (by rintro vs H Q E ⟨_,_,_,_,_,_,_,_,_,_,_,rfl,_⟩;rfl) N.ao1),mg_of X G HD,Lx.kp,B39⟩
 have yc:=bq (st:=nC) HH HI HJ
 have Ww:=dF (ps:=Qh) yc rfl fun _ _ _ _ _ _ _ _ _=>rfl
 have R40: ∀n,bz l.prog w K mg base (69+n+1) "parted" (N.fM aX n):=by
  intro n
  induction n with
  | zero=>exact rT yc Sa (mg_of X G xO) Ww (N.ao2 aX)
  | succ n ih=>exact⟨_,_,_,(br (k:=69+n+1) yc Sa [("size_of",N.eO),("parted",N.fM aX n),("joined",N.dS 64),("cut_in_two",N.wD aX)] [] Qi [] [] [] [] A_ @aln (aA (um.mono (by omega)) (aA ih (aA (ur.mono (by omega)) (aA (T39.mono (by omega)) ae)))) ae ae [] ae ae ae ae ae (by rintro vs H Q E ⟨_,_,_,_,_,_,_,_,_,rfl,_⟩;rfl) (N.ao4 n)),mg_of X G xO,yc.kp,Ww⟩
 have Wx:bz l.prog w K mg base 102 "parted" (N.fM aX 32):=R40 32
 have yd:=bq (st:=nE) HK HL HM
 have Wy:=cN (ps:=Qj) yd rfl fun _ _ _ _ _ _ _=>rfl
 have R41: ∀n,bz l.prog w K mg base (0+n+1) "pieces_of" (N.jL n):=by
  intro n
  induction n with
  | zero=>exact rT yd Sb (mg_of X G xQ) Wy N.aoW
  | succ n ih=>exact⟨_,_,_,(br (k:=0+n+1) yd Sb [("pieces_of",N.jL n)] [] Qk [] [] [] [] Bb @alo (aA ih ae) ae ae [] ae ae ae ae ae (by rintro vs H Q E ⟨_,_,rfl,_⟩;rfl) (N.aoX n)),mg_of X G xQ,yd.kp,Wy⟩
 have T41:bz l.prog w K mg base 33 "pieces_of" (N.jL 32):=R41 32
 have Wz:=bq (st:=nJ) Ii Ij xS
 have B46:=dF (ps:=PJ) Wz rfl fun _ _ _ _ _ _ _ _ _=>rfl
 have T46:eL l.prog w K mg base 3 ("read",aX,sL iy aX):=⟨jV.cl,_,_,_,⟨Ig,Ih,xS⟩,(br (k:=2) Wz aly [("is_between",cL),("many_upto",oE)] [] PK [] [] [("NoPlace",iy)] [] AE @alz (aA (T1.mono (by omega)) (aA (Wr.mono (by omega)) ae)) ae (aA dM ae) [] ae ae ae (aA uk ae) ae (by rintro vs H Q E ⟨_,_,_,_,_,_,_,_,rfl,_⟩;rfl) (aoA jV)),B46⟩
 have Ly:=bq (st:=nQ) IJ IL IM
 have B52:=c_ (ps:=Qt) Ly rfl fun _ _ _ _ _ _ _ _=>rfl
 have WA:bz l.prog w K mg base 34 "texts_of" (N.kP aX):=⟨_,_,_,(br (k:=33) Ly alK [("pieces_of",N.jL 32)] [] Qu [("read",aX,sL iy aX)] [] [] [] Bl @alL (aA (T41.mono (by omega)) ae) ae ae [] ae (aA (T46.mono (by omega)) ae) ae ae ae (by rintro vs H Q E ⟨_,_,_,_,_,_,_,_,rfl,_⟩;rfl) N.api),mg_of X G II,Ly.kp,B52⟩
 have WB:=bq (st:=nS) IX IY xV
 have B54:=cN (ps:=Qy) WB rfl fun _ _ _ _ _ _ _=>rfl
 have k_:eL l.prog w K mg base 2 ("size",aS,N.cf aS):=⟨dX.cl,_,_,_,⟨IV,IW,xV⟩,(br (k:=1) WB alO [("size_of",N.eO)] [] Qz [] [] [] [] Bp @alP (aA (um.mono (by omega)) ae) ae ae [] ae ae ae ae ae (by rintro vs H Q E ⟨_,_,_,_,_,_,rfl,_⟩;rfl) (N.apn dX)),B54⟩
 have WC:=bq (st:=nV) Jh Ji xY
 have B57:=dF (ps:=QG) WC rfl fun _ _ _ _ _ _ _ _ _=>rfl
 have Lz:eL l.prog w K mg base 103 ("part",aS,N.gP aS aX):=⟨dX.cl,_,_,_,⟨Jf,Jg,xY⟩,(br (k:=102) WC alU [("is_between",cL),("parted",N.fM aX 32),("texts_of",N.kP aX)] [] QH [("size",aS,N.cf aS)] [] [("NoPlace",iy)] [] Bv @alV (aA (T1.mono (by omega)) (aA (Wx.mono (by omega)) (aA (WA.mono (by omega)) ae))) ae ae [] ae (aA (k_.mono (by omega)) ae) ae (aA uk ae) ae (by rintro vs H Q E ⟨_,_,_,_,_,_,_,_,_,_,_,_,rfl,_⟩;rfl) (N.aps dX)),B57⟩
 have LA:=bq (st:=mW) Gk Gm Gn
 have B20:=dF (ps:=RB) LA rfl fun _ _ _ _ _ _ _ _ _=>rfl
 have T20:bz l.prog w K mg base 104 "left_over" (N.fP aS aX N.lo):=⟨_,_,_,(br (k:=103) LA akM [] [("FIRST_STRIDE", .int 64)] RC [("part",aS,N.gP aS aX)] [] [] [] Ct @akN ae (aA Wq ae) (aA uj (aA dM ae)) [] ae (aA (Lz.mono (by omega)) ae) ae ae ae (by rintro vs H Q E ⟨_,_,_,_,_,_,_,_,_,_,_,_,_,rfl,_⟩;rfl) N.aqT),mg_of X G Gj,LA.kp,B20⟩
 have LB:=bq (st:=mX) Gq Gr Gs
 have B21:=dF (ps:=RD) LB rfl fun _ _ _ _ _ _ _ _ _=>rfl
 have T21:bz l.prog w K mg base 104 "right_over" (N.fP aS aX N.ro):=⟨_,_,_,(br (k:=103) LB akO [] [("FIRST_STRIDE", .int 64)] RF [("size",aS,N.cf aS),("part",aS,N.gP aS aX)] [] [] [] Cv @akP ae (aA Wq ae) (aA o5 (aA dM ae)) [] ae (aA (k_.mono (by omega)) (aA (Lz.mono (by omega)) ae)) ae ae ae (by rintro vs H Q E ⟨_,_,_,_,_,_,_,_,_,_,_,_,_,rfl,_⟩;rfl) N.aqU),mg_of X G Gp,LB.kp,B21⟩
 have LC:=bq (st:=nF) HP HQ HR
 have B42:=dF (ps:=QY) LC rfl fun _ _ _ _ _ _ _ _ _=>rfl
 have T42:bz l.prog w K mg base 3 "ends_ahead_of" (N.tH aX):=⟨_,_,_,(br (k:=2) LC alp [("size_of",N.eO),("ends_of",N.e7)] [] QZ [("ends_ahead",aX,N.ie aX)] [] [] [] BJ @alq (aA (um.mono (by omega)) (aA (x_.mono (by omega)) ae)) ae ae [] ae (aA (Lw.mono (by omega)) ae) ae ae ae (by rintro vs H Q E ⟨_,_,_,_,_,_,_,_,_,rfl,_⟩;rfl) N.aqi),mg_of X G HN,LC.kp,B42⟩
 have WD:=bq (st:=nM) Ir Iu xU
 have B48:=c_ (ps:=Q3) WD rfl fun _ _ _ _ _ _ _ _=>rfl
 have T48:eL l.prog w K mg base 1 ("end_place",aX,N.tI aX):=⟨jV.cl,_,_,_,⟨Ip,Iq,xU⟩,(br (k:=0) WD alC [] [] Q4 [] [] [] [] BN @alD ae ae ae [] ae ae ae ae ae (by rintro vs H Q E ⟨_,_,_,_,_,_,_,_,rfl,_⟩;rfl) (N.aqj jV)),B48⟩
 have LD:=bq (st:=nG) HU HV HW
 have B43:=dF (ps:=Q0) LD rfl fun _ _ _ _ _ _ _ _ _=>rfl
 have WE:bz l.prog w K mg base 3 "place_of_end" (N.jO aX):=⟨_,_,_,(br (k:=2) LD alr [("ends_of",N.e7),("size_of",N.eO)] [] Q2 [("end_place",aX,N.tI aX),("ends_ahead",aX,N.ie aX)] [] [] [] BL @als (aA (x_.mono (by omega)) (aA (um.mono (by omega)) ae)) ae ae [] ae (aA (T48.mono (by omega)) (aA (Lw.mono (by omega)) ae)) ae ae ae (by rintro vs H Q E ⟨_,_,_,_,_,_,_,_,_,_,rfl,_⟩;rfl) N.aql),mg_of X G HS,LD.kp,B43⟩
 have WG:=bq (st:=nX) Jq Jr x3
 have B59:=c_ (ps:=Q5) WG rfl fun _ _ _ _ _ _ _ _=>rfl
 have LF:eL l.prog w K mg base 4 ("line_begin",aS,N.gR aS aX):=⟨dX.cl,_,_,_,⟨Jo,Jp,x3⟩,(br (k:=3) WG alY [("place_of_end",N.jO aX)] [] Q6 [] [] [] [] BP @alZ (aA (WE.mono (by omega)) ae) ae ae [] ae ae ae ae ae (by rintro vs H Q E ⟨_,_,_,_,_,_,_,_,_,_,_,rfl,_⟩;rfl) (N.aqm dX)),B59⟩
 have WH:=bq (st:=nZ) Jy Jz x8
 have B61:=c_ (ps:=Q9) WH rfl fun _ _ _ _ _ _ _ _=>rfl
 have WI:eL l.prog w K mg base 5 ("line_at",aS,N.ip aS aX):=⟨dX.cl,_,_,_,⟨Jw,Jx,x8⟩,(br (k:=4) WH al2 [("is_between",cL),("ends_ahead_of",N.tH aX)] [] Q_ [("size",aS,N.cf aS),("line_begin",aS,N.gR aS aX)] [] [("NoPlace",iy)] [] BU @al3 (aA (T1.mono (by omega)) (aA (T42.mono (by omega)) ae)) ae ae [] ae (aA (k_.mono (by omega)) (aA (LF.mono (by omega)) ae)) ae (aA uk ae) ae (by rintro vs H Q E ⟨_,_,_,_,_,_,_,_,_,_,_,rfl,_⟩;rfl) (N.aqo dX)),B61⟩
 have WJ:=bq (st:=nT) I_ Ja xW
 have B55:=cN (ps:=QC) WJ rfl fun _ _ _ _ _ _ _=>rfl
 have WK:eL l.prog w K mg base 2 ("lines",aS,N.fN aS):=⟨dX.cl,_,_,_,⟨IZ,I0,xW⟩,(br (k:=1) WJ alQ [("ends_of",N.e7)] [] QD [] [] [] [] Br @alR (aA (x_.mono (by omega)) ae) ae ae [] ae ae ae ae ae (by rintro vs H Q E ⟨_,_,_,_,_,_,rfl,_⟩;rfl) (N.apo dX)),B55⟩
 have WL:=bq (st:=nY) Ju Jv x6
 have B60:=c_ (ps:=Q7) WL rfl fun _ _ _ _ _ _ _ _=>rfl
 have LG:eL l.prog w K mg base 5 ("line_size",aS,N.fo aS aX):=⟨dX.cl,_,_,_,⟨Js,Jt,x6⟩,(br (k:=4) WL al0 [("is_between",cL),("place_of_end",N.jO aX)] [] Q8 [("lines",aS,N.fN aS),("size",aS,N.cf aS),("line_begin",aS,N.gR aS aX)] [] [("NoPlace",iy)] [] BR @al1 (aA (T1.mono (by omega)) (aA (WE.mono (by omega)) ae)) ae ae [] ae (aA (WK.mono (by omega)) (aA (k_.mono (by omega)) (aA (LF.mono (by omega)) ae))) ae (aA uk ae) ae (by rintro vs H Q E ⟨_,_,_,_,_,_,_,_,_,_,_,rfl,_⟩;rfl) (N.aqn dX)),B60⟩
 have LH:=bq (st:=mY) Gv Gw Gx
 have B22:=dF (ps:=RG) LH rfl fun _ _ _ _ _ _ _ _ _=>rfl
 have T22:bz l.prog w K mg base 6 "place_in_line" (N.qx aS aX):=⟨_,_,_,(br (k:=5) LH akQ [] [] RH [("line_at",aS,N.ip aS aX),("line_size",aS,N.fo aS aX)] [] [] [] Cy @akR ae ae ae [] ae (aA (WI.mono (by omega)) (aA (LG.mono (by omega)) ae)) ae ae ae (by rintro vs H Q E ⟨_,_,_,_,_,_,_,_,_,_,_,_,_,rfl,_⟩;rfl) N.aqW),mg_of X G Gu,LH.kp,B22⟩
 have LI:=bq (st:=mZ) Gz GA GB
 have B23:=dF (ps:=RI) LI rfl fun _ _ _ _ _ _ _ _ _=>rfl
 have T23:bz l.prog w K mg base 105 "place_by_word" (N.tS aS aX):=⟨_,_,_,(br (k:=104) LI akS [("left_over",N.fP aS aX N.lo),("right_over",N.fP aS aX N.ro),("place_in_line",N.qx aS aX)] [("OTHER_SIGNS", .str N.OS),("WORD_SIGNS", .str N.WS)] RJ [("size",aS,N.cf aS)] [] [] [] CA @akT (aA (T20.mono (by omega)) (aA (T21.mono (by omega)) (aA (T22.mono (by omega)) ae))) (aA aCc (aA aCb ae)) (aA uj (aA o5 ae)) [] ae (aA (k_.mono (by omega)) ae) ae ae ae (by rintro vs H Q E ⟨_,_,_,_,_,_,_,_,_,_,_,_,_,rfl,_⟩;rfl) N.aqX),mg_of X G Gy,LI.kp,B23⟩
 have WM:=bq (st:=n_) JC JD x9
 have B62:=dF (ps:=Ra) WM rfl fun _ _ _ _ _ _ _ _ _=>rfl
 have T62:eL l.prog w K mg base 6 ("place_at",aS,N.jR aS aX):=⟨dX.cl,_,_,_,⟨JA,JB,x9⟩,(br (k:=5) WM al4 [("is_between",cL)] [] Rb [("line_size",aS,N.fo aS aX),("line_begin",aS,N.gR aS aX)] [] [("NoPlace",iy)] [] BW @al6 (aA (T1.mono (by omega)) ae) ae ae [] ae (aA (LG.mono (by omega)) (aA (LF.mono (by omega)) ae)) ae (aA uk ae) ae (by rintro vs H Q E ⟨_,_,_,_,_,_,_,_,_,_,_,_,rfl,_⟩;rfl) N.aqp),B62⟩
 have LJ:=bq (st:=m4) GD GF GG
 have B24:=qF (ps:=RK) LJ rfl fun _ _ _ _ _ _ _ _ _ _=>rfl
 have T24:bz l.prog w K mg base 7 "place_in_next_line" (N.tU aS aX):=⟨_,_,_,(br (k:=6) LJ akU [] [] RL [("lines",aS,N.fN aS),("size",aS,N.cf aS),("place_at",aS,N.jR aS aX),("line_size",aS,N.fo aS aX)] [] [] [] km @akV ae ae (aA o5 ae) [] ae (aA (WK.mono (by omega)) (aA (k_.mono (by omega)) (aA (T62.mono (by omega)) (aA (LG.mono (by omega)) ae)))) ae ae ae (by rintro vs H Q E ⟨_,_,_,_,_,_,_,_,_,_,_,_,_,_,rfl,_⟩;rfl) N.aqY),mg_of X G GC,LJ.kp,B24⟩
 have LK:=bq (st:=m5) GI GJ GK
 have B25:=qF (ps:=RM) LK rfl fun _ _ _ _ _ _ _ _ _ _=>rfl
 have T25:bz l.prog w K mg base 1 "with_head" (N.oZ):=⟨_,_,_,(br (k:=0) LK akW [] [] RN [] [] [] [] CG @akX ae ae ae [] ae ae ae ae ae (by rintro vs H Q E ⟨_,_,_,_,_,_,_,rfl,_⟩;rfl) N.aqZ),mg_of X G GH,LK.kp,B25⟩
 have LL:=bq (st:=m6) GO GP GQ
 have B26:=qF (ps:=RO) LL rfl fun _ _ _ _ _ _ _ _ _ _=>rfl
 have T26:bz l.prog w K mg base 106 "step" (N.iw aS aX):=⟨_,_,_,(br (k:=105) LL akY [("with_head",N.oZ),("place_in_next_line",N.tU aS aX),("is_empty",N.qw),("begin_of",N.kW),("end_of",N.oY),("place_by_word",N.tS aS aX)] [] RP [("line_at",aS,N.ip aS aX)] [] [] [] r6 @akZ (aA (T25.mono (by omega)) (aA (T24.mono (by omega)) (aA (Wt.mono (by omega)) (aA (Lg.mono (by omega)) (aA (Ws.mono (by omega)) (aA (T23.mono (by omega)) ae)))))) ae ae [] ae (aA (WI.mono (by omega)) ae) ae ae ae (by rintro vs H Q E ⟨_,_,_,_,_,_,_,_,_,_,_,_,_,_,_,_,_,rfl,_⟩;rfl) N.aq0),mg_of X G GN,LL.kp,B26⟩
 have LM:=bq (st:=m8) GS GU GV
 have B27:=qF (ps:=RQ) LM rfl fun _ _ _ _ _ _ _ _ _ _=>rfl
 have T27:bz l.prog w K mg base 107 "stepped" (N.iw aS aX):=⟨_,_,_,(br (k:=106) LM ak0 [("need_cursors",N.tN),("need_step",N.tP),("step",N.iw aS aX)] [] RT [("size",aS,N.cf aS)] [] [] [] CJ @ak1 (aA (T18.mono (by omega)) (aA (T19.mono (by omega)) (aA (T26.mono (by omega)) ae))) ae ae [] ae (aA (k_.mono (by omega)) ae) ae ae ae (by rintro vs H Q E ⟨_,_,_,_,_,_,_,_,_,_,_,_,_,_,_,_,_,rfl,_⟩;rfl) N.aq1),mg_of X G GR,LM.kp,B27⟩
 have ye:=bq (st:=ny) Ht Hu Hv
 have WN:=cN (ps:=P9) ye rfl fun _ _ _ _ _ _ _=>rfl
 have R36: ∀n,bz l.prog w K mg base (69+n+1) "last_out" (N.kE n):=by
  intro n
  induction n with
  | zero=>exact rT ye R9 (mg_of X G xJ) WN N.aoS
  | succ n ih=>exact⟨_,_,_,(br (k:=69+n+1) ye R9 [("last_out",N.kE n),("joined",N.dS 64)] [] P_ [] [] [] [] AY @alg (aA ih (aA (ur.mono (by omega)) ae)) ae ae [] ae ae ae ae ae (by rintro vs H Q E ⟨_,_,_,_,_,_,rfl,_⟩;rfl) (N.aoU n)),mg_of X G xJ,ye.kp,WN⟩
 have T36:bz l.prog w K mg base 102 "last_out" (N.kE 32):=R36 32
 have yf:=bq (st:=nz) Hw Hx Hy
 have WO:=cN (ps:=Qa) yf rfl fun _ _ _ _ _ _ _=>rfl
 have R37: ∀n,bz l.prog w K mg base (69+n+1) "first_out" (N.kJ n):=by
  intro n
  induction n with
  | zero=>exact rT yf R_ (mg_of X G xM) WO N.ao7
  | succ n ih=>exact⟨_,_,_,(br (k:=69+n+1) yf R_ [("first_out",N.kJ n),("joined",N.dS 64)] [] Qc [] [] [] [] A2 @alh (aA ih (aA (ur.mono (by omega)) ae)) ae ae [] ae ae ae ae ae (by rintro vs H Q E ⟨_,_,_,_,_,_,rfl,_⟩;rfl) (N.ao9 n)),mg_of X G xM,yf.kp,WO⟩
 have T37:bz l.prog w K mg base 102 "first_out" (N.kJ 32):=R37 32
 have LN:=bq (st:=nA) HA HB HC
 have B38:=c_ (ps:=Qd) LN rfl fun _ _ _ _ _ _ _ _=>rfl
 have T38:bz l.prog w K mg base 103 "sewn" (N.qk):=⟨_,_,_,(br (k:=102) LN ali [("last_out",N.kE 32),("first_out",N.kJ 32),("joined",N.dS 64)] [] Qe [] [] [] [] A6 @alj (aA (T36.mono (by omega)) (aA (T37.mono (by omega)) (aA (ur.mono (by omega)) ae))) ae ae [] ae ae ae ae ae (by rintro vs H Q E ⟨_,_,_,_,_,rfl,_⟩;rfl) N.apa),mg_of X G Hz,LN.kp,B38⟩
 have WQ:=bq (st:=nH) HZ H9 H_
 have B44:=cN (ps:=PC) WQ rfl fun _ _ _ _ _ _ _=>rfl
 have T44:pG l.prog w K mg base 2 ("Stock",aX,sD aX):=⟨0+1,_,_,_,zqR _,⟨E5,HX,HY,E6⟩,(br (k:=0) WQ alu [] [] PD [] [] [] [] Az @alv ae ae ae [] ae ae ae ae ae (by rintro vs H Q E ⟨_,_,rfl,_⟩;rfl) (aoj jV)),mg_of X G EZ,B44⟩
 have WR:=bq (st:=nI) Ic Ie xR
 have B45:=c_ (ps:=PF) WR rfl fun _ _ _ _ _ _ _ _=>rfl
 have T45:eL l.prog w K mg base 3 ("put",aX,sG i_ aX):=⟨jV.cl,_,_,_,⟨Ia,Ib,xR⟩,(br (k:=2) WR alw [("need_text",oG i_)] [] PH [] [] [] [] AA @alx (aA (T5.mono (by omega)) ae) ae (aA dM ae) [] ae ae ae ae ae (by rintro vs H Q E ⟨_,_,_,_,_,_,_,rfl,_⟩;rfl) (aol jV)),B45⟩
 have LO:=bq (st:=nN) Iw Iy Iz
 have B49:=c_ (ps:=Qn) LO rfl fun _ _ _ _ _ _ _ _=>rfl
 have WT:bz l.prog w K mg base 70 "node_put" (N.kO aX):=⟨_,_,_,(br (k:=69) LO alE [("joined",N.dS 64)] [] Qo [("put",aX,sG i_ aX)] [] [] [] Bf @alF (aA (ur.mono (by omega)) ae) ae (aA dM ae) [] ae (aA (T45.mono (by omega)) ae) ae ae ae (by rintro vs H Q E ⟨_,_,_,_,_,_,_,rfl,_⟩;rfl) N.apg),mg_of X G Iv,LO.kp,B49⟩
 have WU:=bq (st:=nR) IS IT IU
 have B53:=dF (ps:=Qw) WU rfl fun _ _ _ _ _ _ _ _ _=>rfl
 have WV:pG l.prog w K mg base 2 ("Paper",aS,N.i8 aS):=⟨0+1,_,_,_,zqR _,⟨Fg,IP,IQ,Fh⟩,(br (k:=0) WU alM [] [] Qx [] [] [] [] Bn @alN ae ae ae [] ae ae ae ae ae (by rintro vs H Q E ⟨_,_,_,_,rfl,_⟩;rfl) (N.apm dX)),mg_of X G Fb,B53⟩
 have LP:=bq (st:=nO) IB IC ID
 have B50:=cN (ps:=Qp) LP rfl fun _ _ _ _ _ _ _=>rfl
 have T50:bz l.prog w K mg base 71 "paper_of" (N.s9 aS aX):=⟨_,_,_,(br (k:=70) LP alG [("need_text",oG i_),("node_put",N.kO aX)] [] Qq [] [("Stock",aX,sD aX),("Paper",aS,N.i8 aS)] [] [] Bh @alH (aA (T5.mono (by omega)) (aA (WT.mono (by omega)) ae)) ae ae [] ae ae (aA (T44.mono (by omega)) (aA (WV.mono (by omega)) ae)) ae ae (by rintro vs H Q E ⟨_,rfl,_⟩;rfl) N.apJ),mg_of X G IA,LP.kp,B50⟩
 have LQ:=bq (st:=nP) IF IG IH
 have B51:=c_ (ps:=Qr) LQ rfl fun _ _ _ _ _ _ _ _=>rfl
 have T51:bz l.prog w K mg base 104 "need_fit" (N.sY aS aX):=⟨_,_,_,(br (k:=103) LQ alI [("sizes",sv),("part_size",gK)] [] Qs [("size",aS,N.cf aS),("part",aS,N.gP aS aX)] [] [("BadFit",uc)] [] Bj @alJ (aA (T10.mono (by omega)) (aA (T9.mono (by omega)) ae)) ae (aA dM ae) [] ae (aA (k_.mono (by omega)) (aA (Lz.mono (by omega)) ae)) ae (aA aCh ae) ae (by rintro vs H Q E ⟨_,_,_,_,_,_,_,_,_,_,_,_,_,_,rfl,_⟩;rfl) (N.apz dX)),mg_of X G IE,LQ.kp,B51⟩
 have WW:=bq (st:=nU) Jd Je xX
 have B56:=cN (ps:=QE) WW rfl fun _ _ _ _ _ _ _=>rfl
 have T56:eL l.prog w K mg base 35 ("text",aS,N.sW aS aX):=⟨dX.cl,_,_,_,⟨Jb,Jc,xX⟩,(br (k:=34) WW alS [("texts_of",N.kP aX)] [] QF [] [] [] [] Bt @alT (aA (WA.mono (by omega)) ae) ae ae [] ae ae ae ae ae (by rintro vs H Q E ⟨_,_,_,_,_,_,_,_,_,_,rfl,_⟩;rfl) (N.apr dX)),B56⟩
 have WX:=bq (st:=nW) Jl Jm xZ
 have B58:=c_ (ps:=QI) WX rfl fun _ _ _ _ _ _ _ _=>rfl
 have T58:eL l.prog w K mg base 105 ("changed",aS,N.sZ aS aX):=⟨dX.cl,_,_,_,⟨Jj,Jk,xZ⟩,(br (k:=104) WX alW [("need_fit",N.sY aS aX),("sewn",N.qk),("node_put",N.kO aX),("parted",N.fM aX 32),("part_size",gK)] [] QJ [] [("Paper",aS,N.i8 aS)] [] [] Bx @alX (aA (T51.mono (by omega)) (aA (T38.mono (by omega)) (aA (WT.mono (by omega)) (aA (Wx.mono (by omega)) (aA (T9.mono (by omega)) ae))))) ae ae [] ae ae (aA (WV.mono (by omega)) ae) ae ae (by rintro vs H Q E ⟨_,_,_,_,_,_,_,_,_,_,_,_,_,_,rfl,_⟩;rfl) (N.apI dX)),B58⟩
 have LR:=bq (st:=oe) JF JG JH
 have B63:=c_ (ps:=Pr) LR rfl fun _ _ _ _ _ _ _ _=>rfl
 have T63:bz l.prog w K mg base 1 "_law_cell_at" (pT K):=⟨_,_,_,(br (k:=0) LR al7 [] [] Pu [] [] [] [] Ar @al8 ae ae (aA dM ae) [] ae ae ae ae ae (by rintro vs H Q E ⟨_,_,_,rfl,_⟩;rfl) ant),mg_of X G JE,LR.kp,B63⟩
 have LS:=bq (st:=og) JJ JK JL
 have B64:=cN (ps:=Sd) LS rfl fun _ _ _ _ _ _ _=>rfl
 have T64:bz l.prog w K mg base 1 "_law_whole" (pS):=⟨_,_,_,(br (k:=0) LS al9 [] [] Py [] [] [] [] Av @al_ ae ae (aA jU (aA ui (aA y_bool ae))) [] ae ae ae ae ae (by rintro vs H Q E ⟨_,rfl,_⟩;rfl) aqt),mg_of X G JI,LS.kp,B64⟩
 have LU:=bq (st:=oh) JN JO JP
 have B65:=c_ (ps:=QN) LU rfl fun _ _ _ _ _ _ _ _=>rfl
 have yg:bz l.prog w K mg base 1 "_law_mixed" (N.e9):=⟨_,_,_,(br (k:=0) LU ama [] [] QO [] [] [] [] BB @amb ae ae ae [] ae ae ae ae ae (by rintro vs H Q E ⟨_,_,rfl,_⟩;rfl) N.apK),mg_of X G JM,LU.kp,B65⟩
 have LV:=bq (st:=oi) JR JS JT
 have B66:=c_ (ps:=QP) LV rfl fun _ _ _ _ _ _ _ _=>rfl
 have WY:bz l.prog w K mg base 2 "_law_text_by" (N.jN):=⟨_,_,_,(br (k:=1) LV amc [("_law_mixed",N.e9)] [] QR [] [] [] [] BD @amd (aA (yg.mono (by omega)) ae) ae (aA Lb ae) [] ae ae ae ae ae (by rintro vs H Q E ⟨_,_,rfl,_⟩;rfl) N.apQ),mg_of X G JQ,LV.kp,B66⟩
 have LW:=bq (st:=oj) JV JW JX
 have B67:=cN (ps:=QS) LW rfl fun _ _ _ _ _ _ _=>rfl
 have T67:bz l.prog w K mg base 1 "_law_neat" (N.tw):=⟨_,_,_,(br (k:=0) LW ame [] [] QU [] [] [] [] BF @amf ae ae (aA ui ae) [] ae ae ae ae ae (by rintro vs H Q E ⟨_,_,_,_,_,rfl,_⟩;rfl) N.ap9),mg_of X G JU,LW.kp,B67⟩
 have LX:=bq (st:=cR) JZ J0 J3
 have B68:=c_ (ps:=QV) LX rfl fun _ _ _ _ _ _ _ _=>rfl
 have T68:bz l.prog w K mg base 3 "_law_change_by" (N.tE):=⟨_,_,_,(br (k:=2) LX amg [("_law_mixed",N.e9),("_law_text_by",N.jN),("_law_neat",N.tw)] [] kl [] [] [] [] eV @amn (aA (yg.mono (by omega)) (aA (WY.mono (by omega)) (aA (T67.mono (by omega)) ae))) ae (aA Lb (aA o5 (aA dM ae))) [] ae ae ae ae ae (by rintro vs H Q E ⟨_,_,rfl,_⟩;rfl) N.aqe),mg_of X G JY,LX.kp,B68⟩
 have LY:=bq (st:=om) J5 J6 J7
 have B69:=c_ (ps:=QW) LY rfl fun _ _ _ _ _ _ _ _=>rfl
 have T69:bz l.prog w K mg base 1 "_law_done" (sy):=⟨_,_,_,(br (k:=0) LY amo [] [] QX [] [] [] [] BH @amq ae ae (aA dM ae) [] ae ae ae ae ae (by rintro vs H Q E ⟨_,_,_,_,_,rfl,_⟩;rfl) N.apR),mg_of X G J4,LY.kp,B69⟩
 have LZ:=bq (st:=oo) J9 J_ Ka
 have B70:=c_ (ps:=RU) LZ rfl fun _ _ _ _ _ _ _ _=>rfl
 have WZ:bz l.prog w K mg base 1 "_law_at_line" (N.jT):=⟨_,_,_,(br (k:=0) LZ amr [] [] RV [] [] [] [] CL @ams ae ae (aA dM ae) [] ae ae ae ae ae (by rintro vs H Q E ⟨_,_,rfl,_⟩;rfl) N.aq6),mg_of X G J8,LZ.kp,B70⟩
 have L0:=bq (st:=ou) Kc Kd Ke
 have B71:=dF (ps:=RW) L0 rfl fun _ _ _ _ _ _ _ _ _=>rfl
 have T71:bz l.prog w K mg base 1 "_law_in_line" (N.qy):=⟨_,_,_,(br (k:=0) L0 amt [] [] RX [] [] [] [] CN @amu ae ae (aA Wo (aA dM (aA o5 ae))) [] ae ae ae ae ae (by rintro vs H Q E ⟨_,_,_,rfl,_⟩;rfl) N.aq7),mg_of X G Kb,L0.kp,B71⟩
 have L3:=bq (st:=ow) Kg Kh Ki
 have B72:=dF (ps:=RY) L3 rfl fun _ _ _ _ _ _ _ _ _=>rfl
 have T72:bz l.prog w K mg base 1 "_law_word_place" (N.tW):=⟨_,_,_,(br (k:=0) L3 amv [] [] RZ [] [] [] [] CQ @amw ae ae (aA dM ae) [] ae ae ae ae ae (by rintro vs H Q E ⟨_,_,_,rfl,_⟩;rfl) N.ard),mg_of X G Kf,L3.kp,B72⟩
 have L4:=bq (st:=bT) Kk Kl Km
 have B73:=qF (ps:=R0) L4 rfl fun _ _ _ _ _ _ _ _ _ _=>rfl
 have T73:bz l.prog w K mg base 2 "_law_led" (N.qA):=⟨_,_,_,(br (k:=1) L4 amx [("_law_at_line",N.jT),("_law_in_line",N.qy),("_law_word_place",N.tW)] [] fZ [] [] [] [] cp @amJ (aA (WZ.mono (by omega)) (aA (T71.mono (by omega)) (aA (T72.mono (by omega)) ae))) ae (aA dM (aA ui (aA o5 (aA uj ae)))) [] ae ae ae ae ae (by rintro vs H Q E ⟨_,_,_,_,_,_,_,rfl,_⟩;rfl) N.arf),mg_of X G Kj,L4.kp,B73⟩
 have L5:=bq (st:=dH) Ko Kq Kr
 have B74:=qF (ps:=R1) L5 rfl fun _ _ _ _ _ _ _ _ _ _=>rfl
 have T74:bz l.prog w K mg base 3 "_law_stepped" (N.tY):=⟨_,_,_,(br (k:=2) L5 amK [("_law_led",N.qA),("_law_at_line",N.jT)] [] pI [] [] [] [] f_ @amP (aA (T73.mono (by omega)) (aA (WZ.mono (by omega)) ae)) ae (aA ui ae) [] ae ae ae ae ae (by rintro vs H Q E ⟨_,_,_,_,_,_,_,rfl,_⟩;rfl) N.arh),mg_of X G Kn,L5.kp,B74⟩
 have L6:=bq (st:=oy) Kt Ku Kv
 have B75:=c_ (ps:=R6) L6 rfl fun _ _ _ _ _ _ _ _=>rfl
 have T75:bz l.prog w K mg base 2 "_law_cursor" (N.tZ):=⟨_,_,_,(br (k:=1) L6 amQ [("_law_whole",pS)] [] R7 [] [] [] [] CU @amR (aA (T64.mono (by omega)) ae) ae (aA jU (aA Lc (aA dM ae))) [] ae ae ae ae ae (by rintro vs H Q E ⟨_,_,_,_,_,rfl,_⟩;rfl) N.arj),mg_of X G Ks,L6.kp,B75⟩
 have L7:=bq (st:=fJ) Kx Ky Kz
 have B76:=cN (ps:=Se) L7 rfl fun _ _ _ _ _ _ _=>rfl
 have T76:bz l.prog w K mg base 1 "_law_word_by" (t5):=⟨_,_,_,(br (k:=0) L7 amS [] [] vZ [] [] [] [] ko @amV ae ae ae [] ae ae ae ae ae (by rintro vs H Q E ⟨_,rfl,_⟩;rfl) arl),mg_of X G Kw,L7.kp,B76⟩
 have L8:=bq (st:=dj) KC KD KG
 have B77:=c_ (ps:=Sf) L8 rfl fun _ _ _ _ _ _ _ _=>rfl
 have T77:bz l.prog w K mg base 2 "_law_begun" (qB):=⟨_,_,_,(br (k:=1) L8 amW [("_law_mixed",N.e9)] [] oz [] [] [] [] eW @am2 (aA (yg.mono (by omega)) ae) ae ae [] ae ae ae ae ae (by rintro vs H Q E ⟨_,_,rfl,_⟩;rfl) arn),mg_of X G KA,L8.kp,B77⟩
 have W0:=bq (st:=b7) KI KJ KL
 have B78:=cN (ps:=Sg) W0 rfl fun _ _ _ _ _ _ _=>rfl
 exact cG.top (br (k:=107) W0 am3 [("_law_cell_at",pT K),("_law_text_by",N.jN),("paper_of",N.s9 aS aX),("_law_change_by",N.tE),("_law_mixed",N.e9),("_law_done",sy),("_law_begun",qB),("_law_word_by",t5),("stepped",N.iw aS aX),("_law_cursor",N.tZ),("_law_stepped",N.tY)] [] iW [("changed",aS,N.sZ aS aX),("text",aS,N.sW aS aX)] [] [] [] du @anb (aA (T63.mono (by omega)) (aA (WY.mono (by omega)) (aA (T50.mono (by omega)) (aA (T68.mono (by omega)) (aA (yg.mono (by omega)) (aA (T69.mono (by omega)) (aA (T77.mono (by omega)) (aA (T76.mono (by omega)) (aA (T27.mono (by omega)) (aA (T75.mono (by omega)) (aA (T74.mono (by omega)) ae))))))))))) ae (aA Lb (aA dM (aA aB8 ae))) [] ae (aA (T58.mono (by omega)) (aA (T56.mono (by omega)) ae)) ae ae ae (by rintro vs H Q E ⟨_,_,rfl,_⟩;rfl) arD)
theorem walk{l:PySem.W.OpenLaw}{q:Program}{loose:List Str}{XP:(Str→Option Value)→Heap→Prop}{YP:World→Heap→Prop}{d:DefRec}{K:Params→Frag}(hn:l.most=some 63)(q8:d.params.defaults=[])
  (hY: ∀(w:World) (h:Heap),YP w h→(K w.params).In h)
  (F: ∀(w:World) (mg:Str→Option Value) (fa:Addr) (h:Heap),(K w.params).In h→h.Ns mainGlobals mg→mg d.name=some (.ref fa)→
   ∃fd:FuncData,(∀(s:Shared) (u:Value),BindsTo s fd ⟨[u],[]⟩ [("_law_script",u)])∧ ∀base:Heap,(K w.params).In base→base.Ns mainGlobals mg→cG l.prog w (K w.params) mg base uY 108 fa fd ["_law_script"] ((fun K=> (fun vs H Q _=> (xf K) vs H Q E0)) (K w.params))):
  PySem.W.WalkO q loose XP YP l.row.toRowW d [] (fun f vs=>PySem.call f vs):=
 L2.ZX (n:=63) (k:=108) (x:="_law_script") (CX:=fun _=>uY) (sp:=fun w=> (fun K=> (fun vs H Q _=> (xf K) vs H Q E0)) (K w.params)) hn (by decide) q8 ⟨rfl,by decide,by decide⟩ hY F (fun _ _ a ns hl _ hS=> ⟨a,ns,rfl,hS,fun _=>rfl⟩) fun _ _ _ _ _ z=>z
end L2.my
namespace PySem.W.Fast
def tw2171074868756914895:=()
def tw16791248356950181978:=()
def tw17821365774502698990:=()
def tw4008460024996668533:=()
def tw360924508176069993:=()
def tw13154731879974577116:=()
def tw15767878612642274563:=()
def tw8402726084724797072:=()
def tw6537459682451737184:=()
def tw13282467783561099037:=()
def tw8848955915039813645:=()
def tw17263637579688577501:=()
def tw6942769998789237014:=()
def tw3982750512135989743:=()
def tw367326102781406951:=()
def tw11745867553452949794:=()
def tw17735414728757112145:=()
def tw14746498963161618014:=()
def tw13855636989273303577:=()
def tw1856370715828459086:=()
def tw9528120810443361168:=()
def tw4304464126586104452:=()
def tw4432813123321894126:=()
def tw513182326687729853:=()
def tw6462153883795547040:=()
def tw6360823174354272767:=()
def tw14873697536417320362:=()
def tw9036554117577756401:=()
def tw4600801906801645571:=()
def tw309979893915531653:=()
def tw5839670820808568900:=()
def tw3164550712810550947:=()
def tw13683853338895270920:=()
def tw10976927320283745623:=()
def tw3814509950609289836:=()
def tw8920941657795155028:=()
def tw12153910186319914326:=()
def tw1135992617532976224:=()
def tw8085256310760472785:=()
def tw11371021368356387774:=()
def tw2872016088914136495:=()
def tw16309684145707606385:=()
def tw12493198593435532537:=()
def tw1533791928203020396:=()
def tw5468893838467925546:=()
def tw11478215460387503765:=()
def tw8617588094141332842:=()
def tw12115663179095638169:=()
def tw4775991817544290483:=()
def tw14857270029692371188:=()
def tw9452932979752758466:=()
def tw14790087940399726955:=()
def tw13300267308433045348:=()
def tw2981279446207933612:=()
def tw7018872328245314551:=()
def tw1793574615967668453:=()
def tw14219242790308721277:=()
def tw211038973984921761:=()
def tw8504606428823355107:=()
def tw13329233877247282195:=()
def tw13200979205878291056:=()
def tw14969920713007984453:=()
def tw11103906086618299180:=()
def tw6580060994650553595:=()
def tw18359686294633618248:=()
def tw3592403713938777931:=()
def tw3830679710722909055:=()
def tw11684178068446102675:=()
def tw9192126199925358989:=()
def tw6870681319799506037:=()
def tw6748780911987013141:=()
def tw11908297472957348980:=()
def tw4058871498776724182:=()
def tw5917465796254183485:=()
def tw6250231856438413477:=()
def tw14315973278596025476:=()
def tw5676302175244684230:=()
def tw10332889457414653268:=()
def tw16234853122906252438:=()
def tw14962436539145002721:=()
def tw10348494260481920170:=()
def tw6527007901762816497:=()
def tw868985624238351597:=()
def tw7112424107935541872:=()
def tw17459236735166628846:=()
def tw8128943341286881105:=()
def tw12963363481988976394:=()
def tw15803271679601159382:=()
def tw9235447605352238549:=()
def tw9766340098230344530:=()
def tw18126224432730350319:=()
def tw3967702049225119223:=()
def tw316545561691414016:=()
def tw7960281648203886604:=()
def tw10859263091770227666:=()
def tw5664057303055465210:=()
def tw17037024065348074720:=()
def tw4224304114959320873:=()
def tw8848136006287854067:=()
def tw4900035030531650713:=()
def tw815203490873325418:=()
def tw10870596886192242732:=()
def tw6155881494577009927:=()
def tw18087229588450999274:=()
def tw13101073150262123408:=()
def tw13550927070973025186:=()
def tw13708341874293604291:=()
def tw14188539762209447030:=()
def tw18356236809174958385:=()
def tw5737417803260238377:=()
def tw1708855734910893520:=()
def tw16290553962616766055:=()
def tw13745054396968193930:=()
def tw1958488543822728027:=()
def tw12141148779160924480:=()
def tw7846438934441052568:=()
def tw9104532029983277911:=()
def tw6898814625278149498:=()
def tw5203380254631869801:=()
def tw4299123769317378766:=()
def tw775360370303113737:=()
def tw14826069073256564192:=()
def tw14448018895696351147:=()
def tw14265438258474631847:=()
def tw4606117961575653638:=()
def tw1758540329192263127:=()
def tw1120352834917569721:=()
def tw5297343160281254319:=()
def tw17325103857074484846:=()
def tw18396937781877117408:=()
def tw10034032530729358407:=()
def tw2464896417329287100:=()
def tw17440040967687482441:=()
def tw14186377598705594281:=()
def tw3993670486580931241:=()
def tw1615083433797328278:=()
def tw1133460471679900485:=()
def tw14397182924373079449:=()
def tw3372923906247924555:=()
def tw747826248739978405:=()
def tw5533195258599453177:=()
def tw14320822133575272388:=()
def tw16770283703610160450:=()
def tw9494027634600982601:=()
def tw11910690139782378054:=()
def tw5990916292779140809:=()
def tw15320829182468377080:=()
def tw13753883066142445188:=()
def tw6571283693729794618:=()
def tw7637127611561733224:=()
def tw7685360075624868274:=()
def tw1093134027410891951:=()
def tw8517966315440815959:=()
def tw2246584009125903814:=()
def tw9887390424112597512:=()
def tw9189284602781426616:=()
def tw17695450210255231441:=()
def tw15905838361802923932:=()
def tw16607917442067313799:=()
def tw12330202056475390172:=()
def tw17645625782103227139:=()
def tw11533586119177600728:=()
def tw15932628997946862420:=()
def tw5257303886281807312:=()
def tw16292993341368945562:=()
def tw3531910756899032320:=()
def tw10119803562375195651:=()
def tw13498923760210992928:=()
def tw18261195679406756722:=()
def tw3803642520181695436:=()
def tw802014701470199783:=()
def tw1017175710663012049:=()
def tw15680084889392684230:=()
def tw11325915639481281313:=()
def tw9896295606511823782:=()
def tw17463248366236862875:=()
def tw3147592598440874674:=()
def tw7473331788383375814:=()
def tw12612621258763226341:=()
def tw17320803878353356511:=()
def tw8104791845860517613:=()
def tw1397807610387003471:=()
def tw6433966536396082269:=()
def tw4964100475861261088:=()
def tw1650670650147268575:=()
def tw4706613382100681564:=()
def tw18195002009768790755:=()
def tw884732982110749379:=()
def tw12382738802652375766:=()
def tw3920694742604838646:=()
def tw2961463976358239303:=()
def tw5486908085146268575:=()
def tw6255088858038350903:=()
def tw5842792724346527930:=()
def tw2391611254542165852:=()
def tw17307379726482155367:=()
def tw13613802390474802821:=()
def tw3852421240220313044:=()
def tw4210732278933694775:=()
def tw13089787647286884249:=()
def tw13334012646017017215:=()
def tw17779769946445804745:=()
def tw18244133091367789050:=()
def tw10153677552782323416:=()
def tw14643810041822268464:=()
def tw11150487122547428894:=()
def tw46007543183437303:=()
def tw16941449022271295580:=()
def tw7800903173986729886:=()
def tw3802469448099371747:=()
def tw8513694806438813248:=()
def tw16748127304113256553:=()
def tw2316762236223131045:=()
def tw16976383594886500329:=()
def tw10850221794761712487:=()
def tw8853322366260704607:=()
def tw11243799445903089067:=()
def tw2891780999328069856:=()
def tw15850165833620719386:=()
def tw1152531327874219008:=()
def tw330340416662872472:=()
def tw11488080497102175262:=()
def tw16627002654275730097:=()
def tw50779624314244909:=()
def tw1569609287044150907:=()
def tw12349740127414611138:=()
def tw9116728122315843317:=()
def tw16998021304800391897:=()
def tw13290111836115239184:=()
def tw11336947293991084869:=()
def tw1457276088328049127:=()
def tw4742959268545476484:=()
def tw8046773307199602501:=()
def tw9749239166387040912:=()
def tw14173416809193636912:=()
def tw11884781050744556705:=()
def tw15724987035506515165:=()
def tw2992529121667113012:=()
def tw6055867983338299478:=()
def tw8675168651677487582:=()
def tw4396535767348589455:=()
def tw8294920658174250594:=()
def tw1127593494419538089:=()
def tw10051932830014295389:=()
end PySem.W.Fast
open PySem PySem.W PyProof.Rows
set_option maxRecDepth 100000 in
set_option maxHeartbeats 0 in
theorem PySem.Challenge.cw_inkloom_k29_steps_by_lines_holds : PySem.Challenge.rw_inkloom_k29_steps_by_lines.Holds := by
 w_on;o_law;k_head;(case hw=>w_witness2)
 k_fill
 refine L2.my.walk (l:=PySem.Challenge.rw_inkloom_k29_steps_by_lines) rfl rfl (fun w h Y=>PySem.W.kIn_of Y) ?F
 case F=>
  intro w mg fa h KX G lO
  refine' L2.my.all_mk KX G lO ?EZ ?E1 ?E2 ?E3 ?E4 ?E5 ?E6 ?E7 ?E8 ?E9 ?E_ ?Fb ?Fc ?Fd ?Fe ?Ff ?Fg ?Fh ?Fi ?Fj ?xC ?xD ?xE ?xF ?xG ?xH ?Fl ?Fm ?Fn ?Fo ?Fp ?Fq ?a0 ?l0 ?c0 ?k0 ?a1 ?l1 ?c1 ?k1 ?a2 ?l2 ?c2 ?k2 ?a3 ?l3 ?c3 ?k3 ?a4 ?l4 ?c4 ?k4 ?a5 ?l5 ?c5 ?k5 ?a6 ?l6 ?c6 ?k6 ?a7 ?l7 ?c7 ?k7 ?a8 ?l8 ?c8 ?k8 ?a9 ?l9 ?c9 ?k9 ?Fs ?Ft ?Fu ?Fv ?Fw ?Fx ?Fy ?Fz ?FA ?FC ?FD ?FE ?FF ?FG ?FH ?FI ?FJ ?FK ?FL ?FN ?FO ?FP ?FQ ?FR ?FT ?FU ?FV ?FW ?FX ?FY ?FZ ?F_ ?Ga ?Gb ?Gd ?Ge ?Gf ?Gg ?Gh ?Gi ?Gj ?Gk ?Gm ?Gn ?Gp ?Gq ?Gr ?Gs ?Gu ?Gv ?Gw ?Gx ?Gy ?Gz ?GA ?GB ?GC ?GD ?GF ?GG ?GH ?GI ?GJ ?GK ?GN ?GO ?GP ?GQ ?GR ?GS ?GU ?GV ?GW ?GX ?GY ?GZ ?G0 ?G1 ?G3 ?G4 ?G5 ?G6 ?G7 ?G8 ?G9 ?G_ ?Ha ?Hb ?Hc ?He ?Hf ?Hg ?Hh ?Hi ?Hj ?Hk ?Hl ?Hm ?Hn ?Ho ?xI ?Hq ?Hr ?Hs ?xJ ?Ht ?Hu ?Hv ?xM ?Hw ?Hx ?Hy ?Hz ?HA ?HB ?HC ?HD ?HE ?HF ?HG ?xO ?HH ?HI ?HJ ?xQ ?HK ?HL ?HM ?HN ?HP ?HQ ?HR ?HS ?HU ?HV ?HW ?HX ?HY ?HZ ?H9 ?H_ ?Ia ?Ib ?Ic ?Ie ?xR ?Ig ?Ih ?Ii ?Ij ?xS ?Ik ?Il ?Im ?Io ?xT ?Ip ?Iq ?Ir ?Iu ?xU ?Iv ?Iw ?Iy ?Iz ?IA ?IB ?IC ?ID ?IE ?IF ?IG ?IH ?II ?IJ ?IL ?IM ?IP ?IQ ?IS ?IT ?IU ?IV ?IW ?IX ?IY ?xV ?IZ ?I0 ?I_ ?Ja ?xW ?Jb ?Jc ?Jd ?Je ?xX ?Jf ?Jg ?Jh ?Ji ?xY ?Jj ?Jk ?Jl ?Jm ?xZ ?Jo ?Jp ?Jq ?Jr ?x3 ?Js ?Jt ?Ju ?Jv ?x6 ?Jw ?Jx ?Jy ?Jz ?x8 ?JA ?JB ?JC ?JD ?x9 ?JE ?JF ?JG ?JH ?JI ?JJ ?JK ?JL ?JM ?JN ?JO ?JP ?JQ ?JR ?JS ?JT ?JU ?JV ?JW ?JX ?JY ?JZ ?J0 ?J3 ?J4 ?J5 ?J6 ?J7 ?J8 ?J9 ?J_ ?Ka ?Kb ?Kc ?Kd ?Ke ?Kf ?Kg ?Kh ?Ki ?Kj ?Kk ?Kl ?Km ?Kn ?Ko ?Kq ?Kr ?Ks ?Kt ?Ku ?Kv ?Kw ?Kx ?Ky ?Kz ?KA ?KC ?KD ?KG ?KH ?KI ?KJ ?KL ?KN ?KO ?KP ?KQ ?KR ?KS ?KU ?KW ?KY ?KZ ?K0 ?K1 ?K2 ?K3 ?K4 ?K5 ?K6 ?K7 ?K8 ?K9 ?K_ ?La
  (case EZ=>k_is)
  (case E1=>k_is)
  (case E2=>k_is)
  (case E3=>k_is)
  (case E4=>k_is)
  (case E5=>k_is)
  (case E6=>k_is)
  (case E7=>k_is)
  (case E8=>k_is)
  (case E9=>k_is)
  (case E_=>k_is)
  (case Fb=>k_is)
  (case Fc=>k_is)
  (case Fd=>k_is)
  (case Fe=>k_is)
  (case Ff=>k_is)
  (case Fg=>k_is)
  (case Fh=>k_is)
  (case Fi=>k_is)
  (case Fj=>k_is)
  (case xC=>k_is)
  (case xD=>k_is)
  (case xE=>k_is)
  (case xF=>k_is)
  (case xG=>k_is)
  (case xH=>k_is)
  (case Fl=>k_exc)
  (case Fm=>k_exc)
  (case Fn=>k_exc)
  (case Fo=>k_exc)
  (case Fp=>k_exc)
  (case Fq=>k_exc)
  (case a0=>k_is)
  (case l0=>k_is)
  (case c0=>k_is)
  (case k0=>k_is)
  (case a1=>k_is)
  (case l1=>k_is)
  (case c1=>k_is)
  (case k1=>k_is)
  (case a2=>k_is)
  (case l2=>k_is)
  (case c2=>k_is)
  (case k2=>k_is)
  (case a3=>k_is)
  (case l3=>k_is)
  (case c3=>k_is)
  (case k3=>k_is)
  (case a4=>k_is)
  (case l4=>k_is)
  (case c4=>k_is)
  (case k4=>k_is)
  (case a5=>k_is)
  (case l5=>k_is)
  (case c5=>k_is)
  (case k5=>k_is)
  (case a6=>k_is)
  (case l6=>k_is)
  (case c6=>k_is)
  (case k6=>k_is)
  (case a7=>k_is)
  (case l7=>k_is)
  (case c7=>k_is)
  (case k7=>k_is)
  (case a8=>k_is)
  (case l8=>k_is)
  (case c8=>k_is)
  (case k8=>k_is)
  (case a9=>k_is)
  (case l9=>k_is)
  (case c9=>k_is)
  (case k9=>k_is)
  (case Fs=>k_is)
  (case Ft=>k_is)
  (case Fu=>k_is)
  (case Fv=>k_is)
  (case Fw=>k_is)
  (case Fx=>k_is)
  (case Fy=>k_is)
  (case Fz=>k_is)
  (case FA=>k_is)
  (case FC=>k_is)
  (case FD=>k_is)
  (case FE=>k_is)
  (case FF=>k_is)
  (case FG=>k_is)
  (case FH=>k_is)
  (case FI=>k_is)
  (case FJ=>k_is)
  (case FK=>k_is)
  (case FL=>k_is)
  (case FN=>k_is)
  (case FO=>k_is)
  (case FP=>k_is)
  (case FQ=>k_is)
  (case FR=>k_is)
  (case FT=>k_is)
  (case FU=>k_is)
  (case FV=>k_is)
  (case FW=>k_is)
  (case FX=>k_is)
  (case FY=>k_is)
  (case FZ=>k_is)
  (case F_=>k_is)
  (case Ga=>k_is)
  (case Gb=>k_is)
  (case Gd=>k_is)
  (case Ge=>k_is)
  (case Gf=>k_is)
  (case Gg=>k_is)
  (case Gh=>k_is)
  (case Gi=>k_is)
  (case Gj=>k_is)
  (case Gk=>k_is)
  (case Gm=>k_is)
  (case Gn=>k_is)
  (case Gp=>k_is)
  (case Gq=>k_is)
  (case Gr=>k_is)
  (case Gs=>k_is)
  (case Gu=>k_is)
  (case Gv=>k_is)
  (case Gw=>k_is)
  (case Gx=>k_is)
  (case Gy=>k_is)
  (case Gz=>k_is)
  (case GA=>k_is)
  (case GB=>k_is)
  (case GC=>k_is)
  (case GD=>k_is)
  (case GF=>k_is)
  (case GG=>k_is)
  (case GH=>k_is)
  (case GI=>k_is)
  (case GJ=>k_is)
  (case GK=>k_is)
  (case GN=>k_is)
  (case GO=>k_is)
  (case GP=>k_is)
  (case GQ=>k_is)
  (case GR=>k_is)
  (case GS=>k_is)
  (case GU=>k_is)
  (case GV=>k_is)
  (case GW=>k_is)
  (case GX=>k_is)
  (case GY=>k_is)
  (case GZ=>k_is)
  (case G0=>k_is)
  (case G1=>k_is)
  (case G3=>k_is)
  (case G4=>k_is)
  (case G5=>k_is)
  (case G6=>k_is)
  (case G7=>k_is)
  (case G8=>k_is)
  (case G9=>k_is)
  (case G_=>k_is)
  (case Ha=>k_is)
  (case Hb=>k_is)
  (case Hc=>k_is)
  (case He=>k_is)
  (case Hf=>k_is)
  (case Hg=>k_is)
  (case Hh=>k_is)
  (case Hi=>k_is)
  (case Hj=>k_is)
  (case Hk=>k_is)
  (case Hl=>k_is)
  (case Hm=>k_is)
  (case Hn=>k_is)
  (case Ho=>k_is)
  (case xI=>k_is)
  (case Hq=>k_is)
  (case Hr=>k_is)
  (case Hs=>k_is)
  (case xJ=>k_is)
  (case Ht=>k_is)
  (case Hu=>k_is)
  (case Hv=>k_is)
  (case xM=>k_is)
  (case Hw=>k_is)
  (case Hx=>k_is)
  (case Hy=>k_is)
  (case Hz=>k_is)
  (case HA=>k_is)
  (case HB=>k_is)
  (case HC=>k_is)
  (case HD=>k_is)
  (case HE=>k_is)
  (case HF=>k_is)
  (case HG=>k_is)
  (case xO=>k_is)
  (case HH=>k_is)
  (case HI=>k_is)
  (case HJ=>k_is)
  (case xQ=>k_is)
  (case HK=>k_is)
  (case HL=>k_is)
  (case HM=>k_is)
  (case HN=>k_is)
  (case HP=>k_is)
  (case HQ=>k_is)
  (case HR=>k_is)
  (case HS=>k_is)
  (case HU=>k_is)
  (case HV=>k_is)
  (case HW=>k_is)
  (case HX=>k_is)
  (case HY=>k_is)
  (case HZ=>k_is)
  (case H9=>k_is)
  (case H_=>k_is)
  (case Ia=>k_is)
  (case Ib=>k_is)
  (case Ic=>k_is)
  (case Ie=>k_is)
  (case xR=>k_is)
  (case Ig=>k_is)
  (case Ih=>k_is)
  (case Ii=>k_is)
  (case Ij=>k_is)
  (case xS=>k_is)
  (case Ik=>k_is)
  (case Il=>k_is)
  (case Im=>k_is)
  (case Io=>k_is)
  (case xT=>k_is)
  (case Ip=>k_is)
  (case Iq=>k_is)
  (case Ir=>k_is)
  (case Iu=>k_is)
  (case xU=>k_is)
  (case Iv=>k_is)
  (case Iw=>k_is)
  (case Iy=>k_is)
  (case Iz=>k_is)
  (case IA=>k_is)
  (case IB=>k_is)
  (case IC=>k_is)
  (case ID=>k_is)
  (case IE=>k_is)
  (case IF=>k_is)
  (case IG=>k_is)
  (case IH=>k_is)
  (case II=>k_is)
  (case IJ=>k_is)
  (case IL=>k_is)
  (case IM=>k_is)
  (case IP=>k_is)
  (case IQ=>k_is)
  (case IS=>k_is)
  (case IT=>k_is)
  (case IU=>k_is)
  (case IV=>k_is)
  (case IW=>k_is)
  (case IX=>k_is)
  (case IY=>k_is)
  (case xV=>k_is)
  (case IZ=>k_is)
  (case I0=>k_is)
  (case I_=>k_is)
  (case Ja=>k_is)
  (case xW=>k_is)
  (case Jb=>k_is)
  (case Jc=>k_is)
  (case Jd=>k_is)
  (case Je=>k_is)
  (case xX=>k_is)
  (case Jf=>k_is)
  (case Jg=>k_is)
  (case Jh=>k_is)
  (case Ji=>k_is)
  (case xY=>k_is)
  (case Jj=>k_is)
  (case Jk=>k_is)
  (case Jl=>k_is)
  (case Jm=>k_is)
  (case xZ=>k_is)
  (case Jo=>k_is)
  (case Jp=>k_is)
  (case Jq=>k_is)
  (case Jr=>k_is)
  (case x3=>k_is)
  (case Js=>k_is)
  (case Jt=>k_is)
  (case Ju=>k_is)
  (case Jv=>k_is)
  (case x6=>k_is)
  (case Jw=>k_is)
  (case Jx=>k_is)
  (case Jy=>k_is)
  (case Jz=>k_is)
  (case x8=>k_is)
  (case JA=>k_is)
  (case JB=>k_is)
  (case JC=>k_is)
  (case JD=>k_is)
  (case x9=>k_is)
  (case JE=>k_is)
  (case JF=>k_is)
  (case JG=>k_is)
  (case JH=>k_is)
  (case JI=>k_is)
  (case JJ=>k_is)
  (case JK=>k_is)
  (case JL=>k_is)
  (case JM=>k_is)
  (case JN=>k_is)
  (case JO=>k_is)
  (case JP=>k_is)
  (case JQ=>k_is)
  (case JR=>k_is)
  (case JS=>k_is)
  (case JT=>k_is)
  (case JU=>k_is)
  (case JV=>k_is)
  (case JW=>k_is)
  (case JX=>k_is)
  (case JY=>k_is)
  (case JZ=>k_is)
  (case J0=>k_is)
  (case J3=>k_is)
  (case J4=>k_is)
  (case J5=>k_is)
  (case J6=>k_is)
  (case J7=>k_is)
  (case J8=>k_is)
  (case J9=>k_is)
  (case J_=>k_is)
  (case Ka=>k_is)
  (case Kb=>k_is)
  (case Kc=>k_is)
  (case Kd=>k_is)
  (case Ke=>k_is)
  (case Kf=>k_is)
  (case Kg=>k_is)
  (case Kh=>k_is)
  (case Ki=>k_is)
  (case Kj=>k_is)
  (case Kk=>k_is)
  (case Kl=>k_is)
  (case Km=>k_is)
  (case Kn=>k_is)
  (case Ko=>k_is)
  (case Kq=>k_is)
  (case Kr=>k_is)
  (case Ks=>k_is)
  (case Kt=>k_is)
  (case Ku=>k_is)
  (case Kv=>k_is)
  (case Kw=>k_is)
  (case Kx=>k_is)
  (case Ky=>k_is)
  (case Kz=>k_is)
  (case KA=>k_is)
  (case KC=>k_is)
  (case KD=>k_is)
  (case KG=>k_is)
  (case KH=>k_is)
  (case KI=>k_is)
  (case KJ=>k_is)
  (case KL=>k_is)
  (case KN=>k_is)
  (case KO=>k_is)
  (case KP=>k_is)
  (case KQ=>k_is)
  (case KR=>k_is)
  (case KS=>k_is)
  (case KU=>k_is)
  (case KW=>k_is)
  (case KY=>k_is)
  (case KZ=>k_is)
  (case K0=>k_is)
  (case K1=>k_is)
  (case K2=>k_is)
  (case K3=>k_is)
  (case K4=>k_is)
  (case K5=>k_is)
  (case K6=>k_is)
  (case K7=>k_is)
  (case K8=>k_is)
  (case K9=>k_is)
  (case K_=>k_is)
  (case La=>k_is)
